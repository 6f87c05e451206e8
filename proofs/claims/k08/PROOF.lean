import PyProof.Rows.All
import Wide.All
import OpenK.AllK
import PySem.Challenge.RW_allparts_k08_what_a_machine_refuses
set_option linter.all false
set_option bootstrap.genMatcherCode false
set_option genSizeOf false
noncomputable section
namespace PySem.W.Fast
def tw4160230770652665549:True:=⟨⟩
def tw18282074730808689495:True:=⟨⟩
def tw12989295620257944643:True:=⟨⟩
def tw15340854466982596871:True:=⟨⟩
def tw8382382058492034031:True:=⟨⟩
def tw15195354202016621835:True:=⟨⟩
def tw3392711194400117453:True:=⟨⟩
def tw17479569471281901842:True:=⟨⟩
def tw9319489347661007667:True:=⟨⟩
def tw1114465501345423832:True:=⟨⟩
def tw9495862034968307826:True:=⟨⟩
def tw1847287341505627772:True:=⟨⟩
def tw10924186182266640499:True:=⟨⟩
def tw4608488264813116028:True:=⟨⟩
def tw11503422500781694694:True:=⟨⟩
def tw15057929022831813258:True:=⟨⟩
def tw10362255037732862752:True:=⟨⟩
def tw4651003303646203665:True:=⟨⟩
def tw4180917426318670048:True:=⟨⟩
def tw16029505457327312637:True:=⟨⟩
def tw902821983274834386:True:=⟨⟩
def tw16213175947465799507:True:=⟨⟩
def tw67379264119914880:True:=⟨⟩
def tw1389168933411348161:True:=⟨⟩
def tw13147727643385702399:True:=⟨⟩
def tw17368996917412254389:True:=⟨⟩
def tw12240826464974548294:True:=⟨⟩
def tw14355948319970867386:True:=⟨⟩
def tw1554142944750594047:True:=⟨⟩
def tw7913896594381335594:True:=⟨⟩
def tw17844501159082517990:True:=⟨⟩
def tw13475191750105974139:True:=⟨⟩
def tw197214028959864250:True:=⟨⟩
def tw7171790217878378806:True:=⟨⟩
def tw13287918109137914102:True:=⟨⟩
def tw9386980872645536694:True:=⟨⟩
def tw1372737640202896037:True:=⟨⟩
def tw6423135442407790082:True:=⟨⟩
def tw17190526674450115043:True:=⟨⟩
def tw6236805490338724938:True:=⟨⟩
def tw482449386915223117:True:=⟨⟩
def tw12755616297600768376:True:=⟨⟩
def tw6338221316455104124:True:=⟨⟩
def tw4776584536709717222:True:=⟨⟩
def tw903980174854835729:True:=⟨⟩
def tw12393507787629161404:True:=⟨⟩
def tw13788122679094212069:True:=⟨⟩
def tw4633787654222105054:True:=⟨⟩
def tw1282344952731162123:True:=⟨⟩
def tw17442158900987435689:True:=⟨⟩
def tw3448627660755396698:True:=⟨⟩
def tw13222828026598550446:True:=⟨⟩
def tw9393191905854507495:True:=⟨⟩
def tw3556133909219548368:True:=⟨⟩
def tw13881314942869889840:True:=⟨⟩
def tw13381440712552920085:True:=⟨⟩
def tw6966399543764727184:True:=⟨⟩
def tw5663417147425529321:True:=⟨⟩
def tw5889074677702048235:True:=⟨⟩
def tw13969154416275818855:True:=⟨⟩
def tw12922472484653606894:True:=⟨⟩
def tw7585786264856019315:True:=⟨⟩
def tw17956210549103306183:True:=⟨⟩
def tw2657471613717897775:True:=⟨⟩
def tw14931421348447782822:True:=⟨⟩
def tw4636944928661713946:True:=⟨⟩
def tw7248248746229630166:True:=⟨⟩
def tw6137429116304887108:True:=⟨⟩
def tw6166899989899345684:True:=⟨⟩
def tw8265735805736894290:True:=⟨⟩
def tw12871435615575332867:True:=⟨⟩
def tw5587697189032780778:True:=⟨⟩
def tw1771592447594190134:True:=⟨⟩
def tw14428982852694101597:True:=⟨⟩
def tw12171832936182071025:True:=⟨⟩
def tw1891927994160815216:True:=⟨⟩
def tw7392069437610124913:True:=⟨⟩
def tw10347388628948026523:True:=⟨⟩
def tw3865166098031817826:True:=⟨⟩
def tw8698811679502738621:True:=⟨⟩
def tw16229429888197830929:True:=⟨⟩
def tw4798319972038747743:True:=⟨⟩
def tw7373958435225869755:True:=⟨⟩
def tw8014872034676341934:True:=⟨⟩
def tw5585884680188787282:True:=⟨⟩
def tw2088001708048053401:True:=⟨⟩
def tw1562698798559303667:True:=⟨⟩
def tw13108602532813213305:True:=⟨⟩
def tw15771443915035575542:True:=⟨⟩
def tw8598003606520611807:True:=⟨⟩
def tw12274301562348431234:True:=⟨⟩
def tw9260039357111546794:True:=⟨⟩
def tw4211208289468250515:True:=⟨⟩
def tw8104032719242828101:True:=⟨⟩
def tw1323492338406438978:True:=⟨⟩
def tw17634518026805200547:True:=⟨⟩
def tw15773328272722688936:True:=⟨⟩
def tw17324900327238524681:True:=⟨⟩
def tw17330899259598100695:True:=⟨⟩
def tw14262521062298953192:True:=⟨⟩
def tw16576207789643826044:True:=⟨⟩
def tw2076249590869504978:True:=⟨⟩
def tw16703827475677271301:True:=⟨⟩
def tw16359471177059620820:True:=⟨⟩
def tw15659918623477300858:True:=⟨⟩
def tw118787549147156819:True:=⟨⟩
def tw8999690193751886077:True:=⟨⟩
def tw11578908498354401922:True:=⟨⟩
def tw15363939474011249936:True:=⟨⟩
def tw7346039648493009575:True:=⟨⟩
def tw2474718006301898149:True:=⟨⟩
def tw1817065707231222528:True:=⟨⟩
def tw17905469929024905748:True:=⟨⟩
def tw977859401747842711:True:=⟨⟩
def tw733601220050495621:True:=⟨⟩
def tw12068476741272460627:True:=⟨⟩
def tw4265090883219109539:True:=⟨⟩
def tw8297671125063950028:True:=⟨⟩
def tw15477005930254919270:True:=⟨⟩
def tw5747869275085989143:True:=⟨⟩
def tw14832953429429034463:True:=⟨⟩
def tw8167560660309060414:True:=⟨⟩
def tw15721475200994328538:True:=⟨⟩
def tw5452676003109537273:True:=⟨⟩
def tw14918348077967795901:True:=⟨⟩
def tw8214658695028024327:True:=⟨⟩
def tw2329933608209061855:True:=⟨⟩
def tw13427572901946325996:True:=⟨⟩
def tw107183603226789968:True:=⟨⟩
def tw2610481423428488860:True:=⟨⟩
def tw11342657472721452983:True:=⟨⟩
def tw8072879727108570743:True:=⟨⟩
def tw2247617611557259442:True:=⟨⟩
def tw8125103041757094864:True:=⟨⟩
def tw3922882434745471134:True:=⟨⟩
def tw9704997861732949467:True:=⟨⟩
def tw2468568427402759097:True:=⟨⟩
def tw16452555143291533462:True:=⟨⟩
def tw14063130629228917509:True:=⟨⟩
def tw5043058523180630576:True:=⟨⟩
def tw10423739307697259497:True:=⟨⟩
def tw17645817286765079616:True:=⟨⟩
def tw11117948866878548334:True:=⟨⟩
def tw11747912836821738634:True:=⟨⟩
def tw2736539898271174810:True:=⟨⟩
def tw6895724361932442180:True:=⟨⟩
def tw10517715029596323305:True:=⟨⟩
def tw2979488355112402528:True:=⟨⟩
def tw17307837649812343037:True:=⟨⟩
def tw12013765131454808282:True:=⟨⟩
def tw9969221459907213747:True:=⟨⟩
def tw9855732763883660639:True:=⟨⟩
def tw7379603606000135300:True:=⟨⟩
def tw9585282333244670234:True:=⟨⟩
def tw18081863844686160825:True:=⟨⟩
def tw15964752733102867790:True:=⟨⟩
def tw16044755918392012198:True:=⟨⟩
def tw11929379056824954377:True:=⟨⟩
def tw4654171416152670746:True:=⟨⟩
def tw16666561928566101929:True:=⟨⟩
def tw4113832487561525305:True:=⟨⟩
def tw4093691184378657484:True:=⟨⟩
def tw16993323048951889566:True:=⟨⟩
def tw2635884270607003411:True:=⟨⟩
def tw14678496597295174350:True:=⟨⟩
def tw9058585955505548455:True:=⟨⟩
def tw7298523229850226049:True:=⟨⟩
def tw2609328459334781232:True:=⟨⟩
def tw16138573430780580212:True:=⟨⟩
def tw13771903397271812896:True:=⟨⟩
def tw12160248138534959120:True:=⟨⟩
def tw9847153898653512293:True:=⟨⟩
def tw11788644279067633714:True:=⟨⟩
def tw9983798619646644501:True:=⟨⟩
def tw13045495044422818062:True:=⟨⟩
def tw16139792357342405555:True:=⟨⟩
def tw13457055135721638327:True:=⟨⟩
def tw14056023704161762442:True:=⟨⟩
def tw6786681926500087651:True:=⟨⟩
def tw4278804779060028526:True:=⟨⟩
def tw4696212409293014731:True:=⟨⟩
def tw18025543041130435093:True:=⟨⟩
def tw5956576207682304139:True:=⟨⟩
def tw10308914577485415373:True:=⟨⟩
def tw2491125149792259732:True:=⟨⟩
def tw13036097340314599944:True:=⟨⟩
def tw7757405709272806330:True:=⟨⟩
def tw11443048886467489690:True:=⟨⟩
def tw7594023974844597508:True:=⟨⟩
def tw7413039504242084933:True:=⟨⟩
def tw1091388450416593594:True:=⟨⟩
def tw10129948135535492272:True:=⟨⟩
def tw2021341248075206223:True:=⟨⟩
def tw11562014656455200942:True:=⟨⟩
def tw8695806240049385122:True:=⟨⟩
def tw7410610872156752551:True:=⟨⟩
def tw5941882212186186770:True:=⟨⟩
def tw5810618940269444874:True:=⟨⟩
def tw566391092573487797:True:=⟨⟩
def tw388289004080110640:True:=⟨⟩
def tw11704012593654164853:True:=⟨⟩
def tw7531108497578447678:True:=⟨⟩
def tw6952821595433809502:True:=⟨⟩
def tw16111332911819780449:True:=⟨⟩
def tw12409318518574736476:True:=⟨⟩
def tw10111042105401863025:True:=⟨⟩
def tw18094057447437567381:True:=⟨⟩
def tw5297015036640837391:True:=⟨⟩
def tw9953915829274065011:True:=⟨⟩
def tw17103320230244695349:True:=⟨⟩
def tw7871128397094890863:True:=⟨⟩
def tw7137917030177905832:True:=⟨⟩
def tw2457891211554975263:True:=⟨⟩
def tw15850742280936113090:True:=⟨⟩
def tw13417085726053883576:True:=⟨⟩
def tw10965503250586067291:True:=⟨⟩
def tw8768473056273110246:True:=⟨⟩
def tw8016747293948404522:True:=⟨⟩
def tw403600685813079093:True:=⟨⟩
def tw3381412380136258678:True:=⟨⟩
def tw3222271021930761230:True:=⟨⟩
def tw2740354045725657241:True:=⟨⟩
def tw2106509090578743015:True:=⟨⟩
def tw16126245154687815632:True:=⟨⟩
def tw15853071855122685336:True:=⟨⟩
def tw11703942849792792281:True:=⟨⟩
def tw11225872918624490085:True:=⟨⟩
def tw9710944717536724390:True:=⟨⟩
def tw8219293726810311191:True:=⟨⟩
def tw690923256243238591:True:=⟨⟩
def tw649620330570149205:True:=⟨⟩
def tw4792422308722957997:True:=⟨⟩
def tw2584353941480511920:True:=⟨⟩
def tw15734954379158960666:True:=⟨⟩
def tw1500719660342164765:True:=⟨⟩
def tw13877035794625587292:True:=⟨⟩
def tw13446435057232837467:True:=⟨⟩
def tw13398461347572208054:True:=⟨⟩
def tw2482195991032278412:True:=⟨⟩
def tw8795381912599558183:True:=⟨⟩
def tw591364925687421276:True:=⟨⟩
def tw4273208457925642007:True:=⟨⟩
def tw3220204629697137025:True:=⟨⟩
def tw18289573707916264475:True:=⟨⟩
def tw15519377821683726706:True:=⟨⟩
def tw13289967856875698434:True:=⟨⟩
def tw13227597577732087584:True:=⟨⟩
def tw9008025679216907617:True:=⟨⟩
def tw855209050281512703:True:=⟨⟩
def tw7574537662856361340:True:=⟨⟩
def tw5296205294516364299:True:=⟨⟩
def tw5129344834080748874:True:=⟨⟩
def tw4808394314341282248:True:=⟨⟩
def tw4308621050079939575:True:=⟨⟩
def tw399536904596522299:True:=⟨⟩
def tw189528202053284935:True:=⟨⟩
def tw14769779730782817065:True:=⟨⟩
def tw10024978307945679418:True:=⟨⟩
def tw14529312984160081014:True:=⟨⟩
def tw9943756279608321529:True:=⟨⟩
def tw9622683276725451557:True:=⟨⟩
def tw9444674089933869287:True:=⟨⟩
def tw943915644385591969:True:=⟨⟩
def tw8985780628016441815:True:=⟨⟩
def tw8686606263595555164:True:=⟨⟩
def tw8492353446708688615:True:=⟨⟩
def tw8451022235302840499:True:=⟨⟩
def tw8436350637408041848:True:=⟨⟩
def tw8433060475206187119:True:=⟨⟩
def tw8403181516026982348:True:=⟨⟩
def tw8354474303963450960:True:=⟨⟩
def tw834531825768935027:True:=⟨⟩
def tw8027800508515178303:True:=⟨⟩
def tw7611999175780383561:True:=⟨⟩
def tw7475625073802760143:True:=⟨⟩
def tw7247226255604487992:True:=⟨⟩
def tw7111433628177651834:True:=⟨⟩
def tw6790698879772798286:True:=⟨⟩
def tw6613228073745013704:True:=⟨⟩
def tw6014085045299044614:True:=⟨⟩
def tw5130595939958773630:True:=⟨⟩
def tw4512508355318620533:True:=⟨⟩
def tw4510387577034079537:True:=⟨⟩
def tw4410187931596283431:True:=⟨⟩
def tw4271823791282109972:True:=⟨⟩
def tw408860278193283685:True:=⟨⟩
def tw3726221658508380527:True:=⟨⟩
def tw3703034828374805015:True:=⟨⟩
def tw3523143607050289892:True:=⟨⟩
def tw3125367026542697806:True:=⟨⟩
def tw3125070908585848892:True:=⟨⟩
def tw2999182911107421013:True:=⟨⟩
def tw2945338629451003826:True:=⟨⟩
def tw2296736133830172548:True:=⟨⟩
def tw18201066635669870282:True:=⟨⟩
def tw18168498413784928524:True:=⟨⟩
def tw1777521250744777801:True:=⟨⟩
def tw17553009892999987681:True:=⟨⟩
def tw17384874215994972878:True:=⟨⟩
def tw17050025978354060958:True:=⟨⟩
def tw1585141561078489424:True:=⟨⟩
def tw15627151845321888506:True:=⟨⟩
def tw15600735260315570129:True:=⟨⟩
def tw15531807829088781011:True:=⟨⟩
def tw15347639019174071469:True:=⟨⟩
def tw14666366212564111656:True:=⟨⟩
def tw1412875383661529015:True:=⟨⟩
def tw13887001497071470776:True:=⟨⟩
def tw13678591418085020808:True:=⟨⟩
def tw13329831799773864885:True:=⟨⟩
def tw13307240650639095948:True:=⟨⟩
def tw13178697030169395256:True:=⟨⟩
def tw12917954060467178692:True:=⟨⟩
def tw12594361050709837198:True:=⟨⟩
def tw12532526864299001605:True:=⟨⟩
def tw12455702212931554556:True:=⟨⟩
def tw12421428791465945520:True:=⟨⟩
def tw12144362114906320434:True:=⟨⟩
def tw11729718766696770658:True:=⟨⟩
def tw11497382410192664367:True:=⟨⟩
def tw11432550200162861082:True:=⟨⟩
def tw11183299830686643979:True:=⟨⟩
def tw11064996565299802960:True:=⟨⟩
def tw10834306903271328662:True:=⟨⟩
def tw10753959792454379804:True:=⟨⟩
def tw10455949367796409318:True:=⟨⟩
def tw10333495796666116027:True:=⟨⟩
def tw10225922834716839359:True:=⟨⟩
def tw10006430012896760763:True:=⟨⟩
end PySem.W.Fast
open Option renaming some->Y, none->M
open Bool renaming true->Z, false->O
theorem q0(h:True:=by first | exact .inl L | exact .inr L | assumption):True:=h
theorem q1(h:True:=by decide):True:=h
theorem q2(h:True:=by rfl):True:=h
theorem q3(h:True:=by intro _;rfl):True:=h
theorem q4(h:True:=by with_unfolding_all rfl):True:=h
theorem q5(h:True:=by first | exact Or.inl L | exact Or.inr (Or.inl L) | exact Or.inr (Or.inr L)):True:=h
theorem q6(h:True:=by first | exact Or.inl L | exact Or.inr L):True:=h
theorem q7(h:True:=by exact rfl):True:=h
set_option hygiene false
local macro_rules|`({`q0,$x})=>`(autoParam $x q0._auto_1)|`({`q1,$x})=>`(autoParam $x q1._auto_1)|`({`q2,$x})=>`(autoParam $x q2._auto_1)|`({`q3,$x})=>`(autoParam $x q3._auto_1)|`({`q4,$x})=>`(autoParam $x q4._auto_1)|`({`q5,$x})=>`(autoParam $x q5._auto_1)|`({`q6,$x})=>`(autoParam $x q6._auto_1)|`({`q7,$x})=>`(autoParam $x q7._auto_1)
theorem L.{u}{α:Sort u}{a:α}:a=a:=rfl
open PySem renaming Shared->FB, model->FM, sizeLine->FS, Addr->GM, Value->IR, wpAny->KB, starEach->KM, FuncData->On, Program->PP, Around->Pi, keywordEach->Pv, compareOp->P3, Heap->Re, World->SC, attributeBase->SL, foldedSetIterable->SZ
open PyProof.Rows renaming Keyed->KF
set_option linter.all false
set_option maxRecDepth 100000
set_option Elab.async false
set_option maxHeartbeats 4000000
abbrev Z0:=PySem.Value->PySem.Shared->Prop
abbrev Xj:=List (PySem.Addr×PySem.Obj)
abbrev Xd:=List (List PySem.Addr)
abbrev Wv:=PySem.W.Frag
abbrev Wj:=PySem.Str->Option PySem.Value
abbrev Wi:=List PySem.Addr
abbrev Wh:=List PySem.Value
abbrev Wg:=Option PySem.Value
abbrev Wf:=List Nat
abbrev We:=List Int
abbrev Wc:=List (List (List Nat))
abbrev Zr:=@if_pos
abbrev Zp:=@if_neg
abbrev Zb:=@decide_eq_false
open Option renaming bind_eq_some_iff->Zz,bind_some->Zy,map_eq_some_iff->Zx,isSome_map->Yf,isSome_iff_exists->YS,getD_some->YN
open List renaming length_map->Zw,length_append->Zv,mem_cons_self->Zu,mem_cons_of_mem->Zt,getD_eq_getElem?_getD->Zs,getElem?_eq_getElem->Zn,map_cons->Zm,getElem?_eq_some_iff->Zk,mem_cons->Zi,mem_singleton->Zg,nodup_cons->Ze,append_nil->Zd,mem_append->Zc,flatten_cons->ZZ,zip_cons_cons->ZX,size_toArray->ZW,length_cons->ZU,nodup_append->ZO,length_singleton->ZM,getElem?_map->ZL,mem_append_right->ZK,length_replicate->ZJ,length_set->ZI,all_eq_true->ZE,getElem?_append_left->ZC,append_assoc->ZA,mem_append_left->Z3,length_range->Z4,getElem?_eq_none->Z5,replicate_succ->Z7,flatten_append->Z8,length_zip->Z9,getElem_mem->Yz,getElem?_append_right->Yy,getElem?_eq_none_iff->Yx,sublist_cons_self->Yw,map_append->Yv,find?_cons->Yu,suffix_refl->Ys,lookup_cons->Yr,map_map->Yp,getElem?_set_ne->Yo,mem_map->Ym,nodup_nil->Yh,getElem?_replicate->Yd,getElem?_set_self->Ya,drop_of_length_le->YZ,any_cons->YY,sublist_append_right->YV,getElem?_zip_eq_some->YU,getD_cons_succ->YR,mem_range->YL,suffix_nil->YH,mem_of_getElem?->YE,length_take->Y1,mem_or_eq_of_mem_set->Y3,map_congr_left->Y5,nil_append->Y6,cons_lt_cons_iff->Xv,length_drop->Xu,any_eq_true->Xs,nil_suffix->Xq,foldl_cons->Xp,filterMap_cons->Xo,mem_replicate->Xh,all_cons->XY,cons_append->XS,take_of_length_le->XJ,map_set->XI,of_mem_zip->XG,length_nil->XF,idxOf_cons->XE,set_getElem_self->X0,cons_prefix_cons->X1,mem_iff_getElem->X3,drop_zero->X4,sum_cons->X8,prefix_append->Wz,pairwise_cons->Wy,findIdx?_cons->Wx,pairwise_map->Ws,getElem?_set->Wr,prefix_of_prefix_length_le->Wp,map_fst_zip->Wm
open PySem renaming wpAny_bind->Zq,wpAny_pure->Za,wpAny_mono->Z6,wpAny_Call_Name_kw->Yg,wpAny_truthy_bool->YO,codeAny_mono->YG,wpAny_passesOwn->YF,wpAny_holding->YC,mem_of_lookup->Y4,tupleKind_room_in1->Xz,sizeLine_eq->Xy,wpAny_newObj_type->Xr,wpAny_call->Xn,wpAny_typeNameOfWhole_keyiter->Xk,wpAny_execs_nil->Xe,wpAny_setField->XX,wpAny_call_entry->X2,wpAny_field->Ww
open Option.some renaming inj->Zo
open PySem.Heap renaming get?_push_of_some->Zl,lt_size->ZS,get?_push_size->ZR,get?_update_other->Yq,get?_update_self->Y2,size_push->XQ
open Nat renaming le_refl->Zj,lt_of_lt_of_le->ZY,ne_of_lt->ZV,le_of_not_lt->ZQ,le_trans->ZF,lt_succ_self->Yt,lt_irrefl->Yi,lt_succ_of_lt->Ye,zero_le->YT,le_add_right->YM,pos_of_ne_zero->YJ,min_eq_left->YI,min_le_right->YA,le_of_lt->Y0,min_self->Y8,zero_add->Xm,le_of_eq->Xl,add_sub_cancel->Xi,le_succ->Xb,succ_le_succ->XU,le_of_not_le->XT,not_lt_zero->XH,ne_of_gt->Wt,min_eq_right->Wo
open Bool renaming false_ne_true->Zh,and_eq_true_iff->Zf,and_eq_true->Z2,eq_iff_iff->XD
open PySem.W renaming mg_of->ZP,mg_none_of->Z1,kia_one->Yn,callWith_K->YW,methodCall_KW->Xw,cellsFrom_some->XM,plainGet_of->X5,callWith_K0->X6
open Int renaming emod_lt_of_pos->Yl,toNat_natCast->Yk,emod_nonneg->Yc,natCast_nonneg->Xg,toNat_of_nonneg->X7,mul_le_mul_of_nonneg_right->Wk
open Array renaming getElem?_toList->Yj,length_toList->YQ,getElem?_eq_some_iff->Xf
open Ne renaming symm->Yb
open PySem.PassesOwn renaming never->YX
open PySem.F renaming slot_dict_keyiterator_next->YD,type_list_append->Xa,slot_list_append->XZ,plainAttrs_list->XW,slot_dict_get->XC
open PySem.Paired renaming length->Y7
open List.Sublist renaming refl->Y9
open Prod.mk renaming inj->Xc
open PySem.Obj renaming isFreed_of_fields->X9
open Nat.succ renaming inj->Wu
open PySem.Calls renaming evalArgs_plain->Wq
section
namespace L2
def ak{G:Prop}(h:∀P:Prop,(G->P)->P):G:=h G id
end L2
namespace VS
noncomputable abbrev Tx:=Wf
inductive T where
 |non | bl (b:Bool) | int (i:Int) | str (s:Tx) | scr (ns:We)
 |tup (l:List T) | lst (l:List T) | dct (kd:Nat) (l:List (T×T)) | obj (c:Nat) (fs:List (Nat×T))
 deriving Inhabited
abbrev W3:=List T
noncomputable def dH:Nat:=16777216
mutual
def Et:T->Bool
 |.lst _=>O
 |.dct _ _=>O
 |.obj _ _=>O
 |.tup l=>gq l
 |_=>Z
def gq:W3->Bool
 |[]=>Z
 |t :: r=>Et t&&gq r
end
mutual
@[simp] def eqT:T->T->Bool
 |.non,.non=>Z
 |.bl a,.bl b=>a==b
 |.bl a,.int i=>(if a then 1 else 0)==i
 |.int i,.bl a=>i==(if a then 1 else 0)
 |.int i,.int j=>i==j
 |.str s,.str t=>s==t
 |.tup a,.tup b=>sW a b
 |.lst a,.lst b=>sW a b
 |_,_=>O
def sW:W3->W3->Bool
 |[],[]=>Z
 |a :: d,b :: bs=>eqT a b&&sW d bs
 |_,_=>O
end
noncomputable def Ff:Nat->T->Bool
 |_,.non=>Z
 |_,.bl _=>Z
 |_,.int _=>Z
 |_,.str _=>Z
 |n+1,.tup l=>l.all (Ff n)
 |n+1,.lst l=>l.all (Ff n)
 |_,_=>O
inductive Md where | fr | pu | bo
 deriving DecidableEq,Inhabited
noncomputable def Md.join:Md->Md->Md
 |.bo,_=>.bo
 |_,.bo=>.bo
 |.pu,_=>.pu
 |_,.pu=>.pu
 |.fr,.fr=>.fr
inductive Cell where | pu (t:T) | ow (t:T)
 deriving Inhabited
abbrev Wb:=Option Cell
noncomputable abbrev Env:=List (Wb)
noncomputable abbrev Val:=Md×T
abbrev W0:=Option Val
abbrev Wa:=List Val
abbrev Ex:=Env->W0
abbrev Ew:=Env->Option (Wa)
@[simp] def up(m:Md)(t:T):Val:=(if Et t then .fr else m,t)
noncomputable def CP:T->Bool
 |.lst _=>Z
 |.dct _ _=>Z
 |.obj _ _=>Z
 |_=>O
@[simp] def cellOf:Val->Wb
 | (.fr,t)=>Y (if CP t then .ow t else .pu t)
 | (.pu,t)=>Y (.pu t)
 | (.bo,_)=>M
inductive Out where | nx (U:Env) | rt (v:Val) (U:Env) | bk (U:Env) | ct (U:Env)
abbrev Sx:=Env->Option Out
@[simp] noncomputable def eC(t:T)(_:Env):W0:=Y (.fr,t)
abbrev Q2(i:Int):Ex:=eC (.int i)
@[simp] def af(i:Nat)(U:Env):W0:=match U[i]? with
 |some (some (.pu t))=>Y (up .pu t)
 |some (some (.ow t))=>Y (.bo,t)
 |_=>M
@[simp] noncomputable def e1(f:Val->W0)(a:Ex)(U:Env):W0:=(a U).bind f
@[simp] noncomputable def e2(f:Val->Val->W0)(a b:Ex)(U:Env):W0:=(a U).bind λx=>(b U).bind λy=>f x y
@[simp] noncomputable def ag(_:Env):Option (Wa):=Y []
@[simp] noncomputable def aa(a:Ex)(r:Ew)(U:Env):Option (Wa):=(a U).bind λx=>(r U).bind λxs=>Y (x :: xs)
@[simp] noncomputable def eN(f:Wa->W0)(a:Ew)(U:Env):W0:=(a U).bind f
@[simp] def cI:Wa->Md
 |[]=>.fr
 |v :: r=>v.1.join (cI r)
@[simp] noncomputable def trees(l:Wa):W3:=l.map (·.2)
def Hk(m:Md)(l:W3):W0:=if l.length<=dH then Y (if gq l then .fr else m,.lst l) else M
@[simp] def cq(a:Ew)(U:Env):W0:=(a U).bind λl=>Hk (cI l) (trees l)
def rG(l:Wa):W0:=if l.length<=dH then Y (up (cI l) (.tup (trees l))) else M
@[simp] def qJ(a:Ew)(U:Env):W0:=(a U).bind rG
def dput(l:List (T×T))(k v:T):List (T×T):=if l.any (λp=>eqT p.1 k) then l.map (λp=>if eqT p.1 k then (p.1,v) else p) else l++[(k,v)]
noncomputable def iu:T->Bool
 |.int _=>Z
 |.str _=>Z
 |_=>O
def keyOk:Nat->T->Bool
 |0,t=>iu t
 |1,.tup l=>l.all iu
 |_,_=>O
noncomputable def pairs:List (Ex×Ex)->Env->Option (List (Val×Val))
 |[],_=>Y []
 | (a,b) :: r,U=>(a U).bind λx=>(b U).bind λy=>(pairs r U).map ((x,y) :: ·)
def pq(a:Nat)(b:List (Ex×Ex))(U:Env):W0:=(pairs b U).bind λl=>if l.all (λp=>keyOk a p.1.2)/\l.length<=15 then
 Y (cI (l.map (·.2)),.dct a (l.foldl (λd p=>dput d p.1.2 p.2.2) [])) else M
noncomputable def Lz:T->Option Bool
 |.bl b=>Y b
 |.int i=>Y (i != 0)
 |.str s=>Y (!s.isEmpty)
 |.lst l=>Y (!l.isEmpty)
 |.tup l=>Y (!l.isEmpty)
 |.dct 0 l=>Y (!l.isEmpty)
 |.non=>Y O
 |_=>M
@[simp] noncomputable def hJ(a b:Ex)(U:Env):W0:=(a U).bind λx=>match x.2 with
 |.bl true=>b U
 |.bl false=>Y (.fr,.bl O)
 |_=>M
@[simp] noncomputable def Ko(a b:Ex)(U:Env):W0:=(a U).bind λx=>match x.2 with
 |.bl true=>Y (.fr,.bl Z)
 |.bl false=>b U
 |_=>M
@[simp] noncomputable def ku(a:Ex)(U:Env):W0:=(a U).bind λx=>match x.2 with
 |.bl b=>Y (.fr,.bl (!b))
 |_=>M
noncomputable def KW:T->Bool
 |.non=>Z
 |_=>O
@[simp] def Dp(a:Ex)(U:Env):W0:=(a U).bind λx=>Y (.fr,.bl (KW x.2))
@[simp] def fC(a:Ex)(U:Env):W0:=(a U).bind λx=>Y (.fr,.bl (!KW x.2))
@[simp] noncomputable def lj(f g:Val->Val->W0)(a b c:Ex)(U:Env):W0:=(a U).bind λx=>(b U).bind λy=>(f x y).bind λr=>match r.2 with
 |.bl true=>(c U).bind λz=>g y z
 |.bl false=>Y (.fr,.bl O)
 |_=>M
@[simp] noncomputable def int?:T->Option Int
 |.int i=>Y i
 |_=>M
def bE:Val->Val->W0
 | (_,.int i),(_,.int j)=>Y (.fr,.int (i+j))
 | (_,.str s),(_,.str t)=>if s.length+t.length<=dH then Y (.fr,.str (s++t)) else M
 | (m,.lst s),(n,.lst t)=>Hk (m.join n) (s++t)
 |_,_=>M
@[simp] noncomputable def lY:Val->Val->W0
 | (_,.int i),(_,.int j)=>Y (.fr,.int (i-j))
 |_,_=>M
noncomputable def Iv:Int:=4611686018427387904
noncomputable def Nl:Int:=18446744073709551616
def kg:Val->Val->W0
 | (_,.int i),(_,.int j)=>if (-Nl<i/\i<Nl)\/(-Nl<j/\j<Nl) then Y (.fr,.int (i*j)) else M
 |_,_=>M
def g5:Val->Val->W0
 | (_,.str s),(_,.int j)=>if s.length*j.toNat<=dH/\-Iv<=j/\j<Iv then Y (.fr,.str (List.replicate j.toNat s).flatten) else M
 |_,_=>M
def lP:Val->Val->W0
 | (_,.lst s),(_,.int j)=>if gq s/\s.length*j.toNat<=dH/\-Iv<=j/\j<Iv then Y (.fr,.lst (List.replicate j.toNat s).flatten) else M
 |_,_=>M
noncomputable def bQ:Val->Val->W0
 | (_,.int i),(_,.int j)=>if 0<j/\j<1073741824 then Y (.fr,.int (i/j)) else M
 |_,_=>M
noncomputable def oMod:Val->Val->W0
 | (_,.int i),(_,.int j)=>if 0<j then Y (.fr,.int (i%j)) else M
 |_,_=>M
noncomputable def IP:Tx->Tx->Bool
 |[],[]=>O
 |[],_ :: _=>Z
 |_ :: _,[]=>O
 |a :: d,b :: bs=>if a<b then Z else if b<a then O else IP d bs
@[simp] def oLt:Val->Val->W0
 | (_,.int i),(_,.int j)=>Y (.fr,.bl (decide (i<j)))
 | (_,.str s),(_,.str t)=>Y (.fr,.bl (IP s t))
 |_,_=>M
@[simp] def oLe:Val->Val->W0
 | (_,.int i),(_,.int j)=>Y (.fr,.bl (decide (i<=j)))
 | (_,.str s),(_,.str t)=>Y (.fr,.bl (!IP t s))
 |_,_=>M
@[simp] def KD(a b:Val):W0:=oLt b a
@[simp] def KG(a b:Val):W0:=oLe b a
@[simp] def oEq(a b:Val):W0:=if Ff 60 a.2/\Ff 60 b.2 then Y (.fr,.bl (eqT a.2 b.2)) else M
@[simp] def Ik(a b:Val):W0:=if Ff 60 a.2/\Ff 60 b.2 then Y (.fr,.bl (!eqT a.2 b.2)) else M
def eV(l:List (T×T))(k:T):Option T:=(l.find? λp=>eqT p.1 k).map (·.2)
noncomputable def Gc(n:Nat)(i:Int):Option Nat:=if 0<=i then (if i<n then Y i.toNat else M) else (if 0<=i+n then Y (i+n).toNat else M)
@[simp] def sub(m:Md)(t:T):Val:=up m t
@[simp] def aT:Val->Val->W0
 | (m,.lst l),(_,.int i)=>(Gc l.length i).bind λk=>(l[k]?).map (sub m)
 | (m,.tup l),(_,.int i)=>(Gc l.length i).bind λk=>(l[k]?).map (sub m)
 | (_,.scr l),(_,.int i)=>(Gc l.length i).bind λk=>(l[k]?).map λn=>(.fr,.int n)
 | (_,.str l),(_,.int i)=>(Gc l.length i).bind λk=>(l[k]?).map λn=>(.fr,.str [n])
 |_,_=>M
noncomputable def clip(n:Nat)(i:Int):Nat:=if i<0 then (i+n).toNat else min i.toNat n
def cut{α:Type}(l:List α)(a b:Option Int):List α :=
 let lo:=match a with | none=>0 | some i=>clip l.length i
 let d:=match b with | none=>l.length | some i=>clip l.length i
 (l.drop lo).take (d-lo)
@[simp] def Oz(v:Val)(a b:Option Int):W0:=match v with
 | (_,.str s)=>Y (.fr,.str (cut s a b))
 | (m,.lst l)=>Hk m (cut l a b)
 |_=>M
@[simp] def ng(c:Option Ex)(U:Env):Option (Option Int):=match c with
 |none=>Y M
 |some e=>(e U).bind λy=>(int? y.2).map Y
@[simp] def IU(a:Ex)(b d:Option Ex)(U:Env):W0:=(a U).bind λx=>(ng b U).bind λl=>(ng d U).bind λh=>Oz x l h
noncomputable def DY:T->Option Nat
 |.lst l=>Y l.length
 |.tup l=>Y l.length
 |.str l=>Y l.length
 |.scr l=>Y l.length
 |.dct 0 l=>Y l.length
 |_=>M
@[simp] def cp:Wa->W0
 |[x]=>(DY x.2).map λn=>(.fr,.int n)
 |_=>M
@[simp] noncomputable def p7:Wa->W0
 |[(_,.int i),(_,.int j)]=>Y (.fr,.int (if j<i then j else i))
 |_=>M
@[simp] noncomputable def p9:Wa->W0
 |[(_,.int i),(_,.int j)]=>Y (.fr,.int (if j > i then j else i))
 |_=>M
noncomputable def pD:W3->Option (We)
 |[]=>Y []
 |.int i :: r=>(pD r).map (i :: ·)
 |_=>M
noncomputable def strs?:W3->Option (List Tx)
 |[]=>Y []
 |.str i :: r=>(strs? r).map (i :: ·)
 |_=>M
def zp:Wa->W0
 |[(_,.lst l)]=>(pD l).bind λa=>Y (.fr,.int a.sum)
 |_=>M
@[simp] def zB:Wa->W0
 |[(m,.lst l)]=>Hk m l
 |[(m,.tup l)]=>Hk m l
 |_=>M
def jB:Wa->W0
 |[(m,.lst l)]=>if l.length<=dH then Y (up m (.tup l)) else M
 |_=>M
def mV(x:Tx):List Tx->List Tx
 |[]=>[x]
 |y :: r=>if IP y x then y :: mV x r else x :: y :: r
def eX(l:List Tx):List Tx:=l.foldr mV []
inductive Ty where | int | str | bool | list | tuple | dict
@[simp] noncomputable def pQ:Ty->T->Bool
 |.int,.int _=>Z
 |.int,.bl _=>Z
 |.bool,.bl _=>Z
 |.str,.str _=>Z
 |.list,.lst _=>Z
 |.tuple,.tup _=>Z
 |.dict,.dct _ _=>Z
 |_,_=>O
@[simp] noncomputable def rm:T->Bool
 |.obj _ _=>O
 |.scr _=>O
 |.dct 0 _=>Z
 |.dct 1 _=>Z
 |.dct _ _=>O
 |_=>Z
@[simp] def NX(t:Ty)(a:Ex)(U:Env):W0:=(a U).bind λx=>if rm x.2 then Y (.fr,.bl (pQ t x.2)) else M
noncomputable def total:List Tx->Nat
 |[]=>0
 |x :: r=>x.length+total r
noncomputable def dg(a:Tx):List Tx->Tx
 |[]=>[]
 |[x]=>x
 |x :: r=>x++a++dg a r
def gS:Val->Wa->W0
 | (_,.str sep),[(_,.lst l)]=>(strs? l).bind λa=>if total a+a.length*sep.length<=dH then Y (.fr,.str (dg sep a)) else M
 |_,_=>M
@[simp] noncomputable def eM(f:Val->Wa->W0)(o:Ex)(b:Ew)(U:Env):W0:=(o U).bind λx=>(b U).bind λa=>f x a
noncomputable abbrev Fn:=W3->W0
@[simp] def bq(g:Fn)(b:Ew)(U:Env):W0:=(b U).bind λa=>(g (trees a)).bind λr=>match r with
 | (.fr,t)=>Y (.fr,t)
 | (_,t)=>Y ((Md.pu).join (cI a),t)
abbrev Hh:=Env->Option (Md×W3)
noncomputable def AI:Val->Option (Md×W3)
 | (m,.lst l)=>Y (m,l)
 | (m,.tup l)=>Y (m,l)
 | (_,.str l)=>Y (.fr,l.map λc=>.str [c])
 |_=>M
@[simp] def km(a:Ex)(U:Env):Option (Md×W3):=(a U).bind AI
noncomputable def rng(a:Int)(n:Nat):W3:=(List.range n).map λ(k:Nat)=>T.int (a+k)
def dQ(a:Ex)(U:Env):Option (Md×W3):=(a U).bind λx=>(int? x.2).bind λj=>if -Iv<=j/\j<Iv then Y (.fr,rng 0 j.toNat) else M
abbrev Tg:=T->Env->Option Env
@[simp] noncomputable def df(i:Nat)(t:T)(U:Env):Option Env:=if i<U.length then Y (U.set i (Y (.pu t))) else M
@[simp] def P7(m:Md)(l:W3):Bool:=match m with
 |.bo=>gq l
 |_=>Z
def lQ(e:Tg)(a:Option Ex)(d:Ex)(U:Env):W3->Option (Wa)
 |[]=>Y []
 |t :: r=>(e t U).bind λf=>(match a with | none=>some true | some c=>(c f).bind λx=>Lz x.2).bind λb =>
  if b then (d f).bind λv=>(lQ e a d U r).map (v :: ·) else lQ e a d U r
def gU(k:Nat)(e:Tg)(f:Hh)(a:Option Ex)(b:Ex)(U:Env):W0:=(f U).bind λ(m,l)=>if P7 m l then
 (lQ e a b (List.replicate k M++U) l).bind λd=>Hk (cI d) (trees d) else M
@[simp] noncomputable def dG(U:Env):Option Out:=Y (.nx U)
@[simp] noncomputable def ar(a b:Sx)(U:Env):Option Out:=(a U).bind λo=>match o with
 |.nx d=>b d
 |o=>Y o
@[simp] def mG(i:Nat)(e:Ex)(U:Env):Option Out:=(e U).bind λv=>(cellOf v).bind λc=>if i<U.length then Y (.nx (U.set i (Y c))) else M
@[simp] noncomputable def aG(i:Nat)(e:Ex)(U:Env):Option Out:=(e U).bind λv=>match v.1 with
 |.bo=>M
 |_=>if i<U.length then Y (.nx (U.set i (Y (.pu v.2)))) else M
@[simp] noncomputable def eE(e:Ex)(U:Env):Option Out:=(e U).bind λv=>Y (.rt (match v.1 with | .bo=>.pu | m=>m,v.2) U)
@[simp] def iq(i:Nat)(U:Env):Option Out:=match U[i]? with
 |some (some (.ow t))=>Y (.rt (.fr,t) (U.set i M))
 |some (some (.pu t))=>Y (.rt (up .pu t) U)
 |_=>M
@[simp] def FK(c:Ex)(a b:Sx)(U:Env):Option Out:=(c U).bind λx=>(Lz x.2).bind λt=>if t then a U else b U
noncomputable def forL(d:Tg)(a:Sx):W3->Env->Option Out
 |[],U=>Y (.nx U)
 |t :: r,U=>(d t U).bind λe=>(a e).bind λo=>match o with
  |.nx b=>forL d a r b
  |.ct b=>forL d a r b
  |.bk b=>Y (.nx b)
  |.rt v b=>Y (.rt v b)
@[simp] noncomputable def Ot:Md->Bool
 |.bo=>O
 |_=>Z
@[simp] def kL(b:Tg)(d:Hh)(a:Sx)(U:Env):Option Out:=(d U).bind λ(m,l)=>if Ot m then forL b a l U else M
def d3(c:Ex)(a:Sx):Nat->Env->Option Out
 |0,_=>M
 |n+1,U=>(c U).bind λx=>(Lz x.2).bind λt=>if t then (a U).bind λo=>match o with
  |.nx b=>d3 c a n b
  |.ct b=>d3 c a n b
  |.bk b=>Y (.nx b)
  |.rt v b=>Y (.rt v b)
  else Y (.nx U)
noncomputable def um:Nat:=1000000
def ke(c:Ex)(a:Sx)(U:Env):Option Out:=d3 c a um U
@[simp] noncomputable def uL(i:Nat)(U:Env):Option Out:=match U[i]? with
 |some (some (.ow t))=>Y (.nx (U.set i (Y (.pu t))))
 |some (some (.pu _))=>Y (.nx U)
 |_=>M
inductive HE where | fld (k:Nat) | ix (e:Ex) | un
inductive Ky where | fld (k:Nat) | at (t:T) | un
def keys:List HE->Env->Option (List Ky)
 |[],_=>Y []
 |.fld k :: r,U=>(keys r U).map (.fld k :: ·)
 |.ix e :: r,U=>(e U).bind λx=>(keys r U).map (.at x.2 :: ·)
 |.un :: r,U=>(keys r U).map (.un :: ·)
noncomputable def Ea(a:List (Nat×T))(k:Nat):Option T:=a.lookup k
noncomputable def DT(a:List (Nat×T))(k:Nat)(v:T):List (Nat×T):=if a.any (λp=>p.1==k) then a.map (λp=>if p.1==k then (p.1,v) else p) else a++[(k,v)]
def zx{α:Type}(f:T->Option (T×α)):List Ky->T->Option (T×α)
 |[],t=>f t
 |.fld k :: r,.obj c fs=>(Ea fs k).bind λx=>(zx f r x).map λ(y,a)=>(.obj c (DT fs k y),a)
 |.at (.int i) :: r,.lst l=>(Gc l.length i).bind λj=>(l[j]?).bind λx=>(zx f r x).map λ(y,a)=>(.lst (l.set j y),a)
 |.at k :: r,.dct d l=>(eV l k).bind λx=>(zx f r x).map λ(y,a)=>(.dct d (dput l k y),a)
 |_,_=>M
abbrev Xx:=Env->Option (Val×Env)
@[simp] noncomputable def xP(e:Ex)(U:Env):Option (Val×Env):=(e U).map λv=>(v,U)
@[simp] def mq(i:Nat)(a:List HE)(f:T->Wa->Option (T×Val))(g:Ew)(U:Env):Option (Val×Env):=match U[i]? with
 |some (some (.ow t))=>(keys a U).bind λe=>(g U).bind λb=>(zx (λx=>f x b) e t).map λ(d,v)=>(v,U.set i (Y (.ow d)))
 |_=>M
@[simp] noncomputable def fit(v:Val):Option T:=match v.1 with
 |.fr=>Y v.2
 |_=>M
def aK:T->Wa->Option (T×Val)
 |.lst l,[v]=>(fit v).bind λt=>if l.length<dH then Y (.lst (l++[t]),(.fr,.non)) else M
 |_,_=>M
@[simp] noncomputable def sX(x:Xx)(U:Env):Option Out:=(x U).map λr=>.nx r.2
@[simp] noncomputable def fn(d e:Nat)(a:Sx):Fn:=λb=>if b.length=d then
 (a (b.map (λt=>Y (.pu t))++List.replicate (e-d) M)).bind λo=>match o with
  |.rt v _=>Y v
  |.nx _=>Y (.fr,.non)
  |_=>M else M
def qc{s t:Tx}(h:s.length+t.length<=16777216):bE (m,.str s) (n,.str t)=Y (.fr,.str (s++t)):=Zr h
def kf{m:Md}{i j:Int}(h:-18446744073709551616<i/\i<18446744073709551616):kg (m,.int i) (n,.int j)=Y (.fr,.int (i*j)):=Zr (.inl h)
def gu{m n:Md}{i j:Int}(h:0<j/\j<1073741824):bQ (m,.int i) (n,.int j)=Y (.fr,.int (i/j)):=Zr h
def dI{m n:Md}{i j:Int}(h:0<j):oMod (m,.int i) (n,.int j)=Y (.fr,.int (i%j)):=Zr h
def dY{l:W3}(h:l.length<16777216):aK (.lst l) [(.fr,t)]=Y (.lst (l++[t]),(.fr,.non)):=by
 exact Zr h
def iV{m:Md}{j:Int}(e:a U=Y (m,.int j))(h:-4611686018427387904<=j/\j<4611686018427387904):dQ a U=Y (.fr,rng 0 j.toNat):=by
 simp only[dQ,e,Zy,int?];exact Zr h
def og{m:Md}{l:W3}(h:l.length<=16777216):Hk m l=Y (if gq l then .fr else m,.lst l):=Zr h
def jm{b:Tg}{r:W3}{U1:Env}(f:b t U=Y U1)(e:a U1=Y (.nx d)):forL b a (t :: r) U=forL b a r d:=by
 simp[forL,f,e]
theorem strs_map{α:Type}(f:α->Tx):∀l:List α,strs? (l.map λx=>T.str (f x))=Y (l.map f)
 |[]=>rfl
 |a :: r=>congrArg (Option.map (f a :: ·)) (strs_map f r)
theorem ints_map{α:Type}(f:α->Int):∀l:List α,pD (l.map λx=>T.int (f x))=Y (l.map f)
 |[]=>rfl
 |a :: r=>congrArg (Option.map (f a :: ·)) (ints_map f r)
theorem lu:∀a:List Tx,dg [] a=a.flatten
 |[]=>rfl
 |[x]=>by simp[dg]
 |x :: y :: r=>by
  have:=lu (y :: r);simp[dg]at this ⊢;exact this
theorem lM:∀a:List Tx,total a=a.flatten.length
 |[]=>rfl
 |x :: r=>by simp[total,lM r]
def nc{m n:Md}(e:strs? l=Y a)(b:a.flatten.length<=16777216):gS (m,.str []) [(n,.lst l)]=Y (.fr,.str a.flatten):=by
 simp only[gS,Zy,e,lu];refine Zr ?_;rw[lM];show _<=16777216;simpa using b
def jD{α:Type}(l:List α):(l.map λx=>[x]).flatten=l:=by
 induction l with
 |nil=>rfl
 |cons a r b=>rw[Zm,ZZ,b];rfl
def lA(n:Nat):rng 0 n=(List.range n).map λ(k:Nat)=>T.int (k:Int):=by
 unfold rng;simp
theorem jH{α:Type}(f:α->T)(h:∀x,Et (f x)=Z):∀l:List α,gq (l.map f)=Z
 |[]=>rfl
 |a :: r=>Zf.mpr ⟨h a,jH f h r⟩
theorem nj{α:Type}(g:α->T)(f:α->Val):∀l:List α,(∀a∈l,∃e,i (g a) U=Y e/\d e=Y (f a))->lQ i M d U (l.map g)=Y (l.map f)
 |[],_=>rfl
 |a :: r,h=>by
  obtain⟨e,m,j⟩:=h a Zu;simp[lQ,m,j,nj g f r λb hb=>h b (Zt _ hb)]
theorem pJ{α:Type}(f:α->T):∀l:List α,cI (l.map λa=>(Md.fr,f a))=.fr
 |[]=>rfl
 |a :: r=>congrArg (Md.join .fr) (pJ f r)
def tQ{α:Type}(f:α->Val)(l:List α):trees (l.map f)=l.map λa=>(f a).2:=by simp
def iH{α:Type}{k:Nat}{tg:Tg}{it:Hh}{elt:Ex}{U:Env}{m:Md}(g:α->T)(f:α->T)(l:List α)(i:it U=Y (m,l.map g))(e:P7 m (l.map g)=Z)(d:l.length<=16777216)(h:∀a∈l,∃b,tg (g a) (List.replicate k M++U)=Y b/\elt b=Y (.fr,f a)):gU k tg it M elt U=Y (.fr,.lst (l.map f)):=by
 simp only[gU,i,Zy];rw[Zr e,nj g (λa=>(Md.fr,f a)) l h];simp only[Zy,pJ,tQ];rw[og (by rw[Zw];exact d)];simp
def vr{α:Type}{m n:Md}(f:α->T)(l:List α)(i:Int)(d:α)(g:0<=i)(e:i<l.length)(a:Et (f (l.getD i.toNat d))=Z):aT (m,.lst (l.map f)) (n,.int i)=Y (.fr,f (l.getD i.toNat d)):=by
 have b:i.toNat<l.length:=by lia
 simp only[Zs,Zn b,YN]at a ⊢;simp[Gc,g,e,b,a]
end VS
end
section
namespace L2
open PySem PySem.Spec PyProof.Rows
noncomputable abbrev Key:=Sum Int Str
def kE:Key->IR->Bool
 |.inl k,v=>Value.isInt k v
 |.inr x,v=>Value.isStrOf x v
noncomputable def CH(w:SC):Key->Int
 |.inl k=>hashInt k
 |.inr x=>hashStr w x
theorem bX:∀{k:Key}{v:IR},kE k v=Z->(∃i t,k=Sum.inl i/\v=Value.int i t)\/(∃x t,k=Sum.inr x/\v=Value.str x t)
 |.inl i,v,h=>by
  obtain⟨t,e⟩:=Value.isInt_shape (k:=i) (v:=v) h;exact .inl ⟨i,t,rfl,e⟩
 |.inr x,v,h=>by
  obtain⟨t,e⟩:=Value.isStrOf_shape (x:=x) (v:=v) h;exact .inr ⟨x,t,rfl,e⟩
def tZ(i:Int)(t:Tok):kE (.inl i) (.int i t)=Z:=by simp[kE,Value.isInt]
def tK(x:Str)(t:Tok):kE (.inr x) (.str x t)=Z:=by simp[kE,Value.isStrOf]
def BJ(a b:Int):decide ((Sum.inl a:Key)=Sum.inl b)=(a==b):=by
 by_cases e:a=b
 ·subst e;simp
 ·rw[Zb (λq=>e (Sum.inl.inj q))];exact(beq_eq_false_iff_ne.mpr e).symm
def BV(a b:Str):decide ((Sum.inr a:Key)=Sum.inr b)=decide (a=b):=by
 by_cases e:a=b
 ·subst e;simp
 ·rw[Zb (λq=>e (Sum.inr.inj q)),Zb e]
def Bi(a:Int)(b:Str):decide ((Sum.inl a:Key)=Sum.inr b)=O:=Zb (λq=>nomatch q)
def B0(a:Str)(b:Int):decide ((Sum.inr a:Key)=Sum.inl b)=O:=Zb (λq=>nomatch q)
def bP(d:PP)(w:SC):PySem.KeyKind d w Key where
 is:=kE
 hash:=CH w
 inj:=λv a b l hb=>by
  rcases bX l with⟨i,t,rfl,rfl⟩ | ⟨x,t,rfl,rfl⟩
  ·rcases bX hb with⟨j,u,rfl,e⟩ | ⟨y,u,rfl,e⟩
   ·injection e with e1 _;rw[e1]
   ·exact nomatch e
  ·rcases bX hb with⟨j,u,rfl,e⟩ | ⟨y,u,rfl,e⟩
   ·exact nomatch e
   ·injection e with e1 _;rw[e1]
 byValue:=λk v h=>by
  rcases bX h with⟨i,t,rfl,rfl⟩ | ⟨x,t,rfl,rfl⟩<;>rfl
 pyHash:=λf h=>by
  rcases bX f with⟨i,t,rfl,rfl⟩ | ⟨x,t,rfl,rfl⟩
  ·exact wpAny_pyHash_int h
  ·exact wpAny_pyHash_str h
 eqBool:=λg f h=>by
  rcases bX g with⟨i,t,rfl,rfl⟩ | ⟨x,t,rfl,rfl⟩
  ·rcases bX f with⟨j,u,rfl,rfl⟩ | ⟨y,u,rfl,rfl⟩
   ·rw[BJ]at h;exact wpAny_eqBool_int h
   ·rw[Bi]at h;exact SeqAt.EqAt.int_str i t y u _ _ _ _ h
  ·rcases bX f with⟨j,u,rfl,rfl⟩ | ⟨y,u,rfl,rfl⟩
   ·rw[B0]at h;exact SeqAt.EqAt.str_int x t j u _ _ _ _ h
   ·rw[BV]at h;exact wpAny_eqBool_str h
 «strs» := λk x t v h=>by
  rcases bX h with⟨i,u,rfl,e⟩ | ⟨y,u,rfl,e⟩
  ·exact nomatch e
  ·injection e with e1 _
   subst e1;cases v<;>rfl
def o6(a:PP)(w:SC)(i:Int)(t:Tok):(bP a w).is (.inl i) (.int i t)=Z:=tZ i t
def pT(a:PP)(w:SC)(x:Str)(t:Tok):(bP a w).is (.inr x) (.str x t)=Z:=tK x t
inductive V where
 |non | bl (b:Bool) | int (i:Int) | str (x:Str) | byt (b:Array UInt8) | flt (b:UInt64) | ref (a:GM) | ty (n:String)
 deriving DecidableEq
noncomputable def RelV:V->IR->Prop
 |.non,u=>u=Value.none
 |.bl b,u=>u=Value.bool b
 |.int i,u=>∃t,u=Value.int i t
 |.str x,u=>∃t,u=Value.str x t
 |.byt b,u=>∃t,u=Value.bytes b t
 |.flt b,u=>∃t,u=Value.float b t
 |.ref a,u=>u=Value.ref a
 |.ty n,u=>u=Value.type n
abbrev aI:List V->Wh->Prop:=Paired RelV
theorem aI.length{xs:List V}{a:Wh}(r:aI xs a):xs.length=a.length:=Y7 r
theorem aI.get:∀{a:List V}{b:Wh}{i:Nat}{x:V},aI a b->a[i]?=Y x->∃u,b[i]?=Y u/\RelV x u
 |_,_,_,_,.nil,e=>by simp at e
 |_,_,0,_,.cons r _,e=>by simp at e;subst e;exact⟨_,rfl,r⟩
 |_,_,i+1,x,.cons _ t,e=>by
  obtain⟨u,f,d⟩:=aI.get (i:=i) (x:=x) t (by simpa using e);exact⟨u,by simpa using f,d⟩
theorem aI.set(r:RelV x u):∀{a:List V}{b:Wh}(i:Nat),aI a b->aI (a.set i x) (b.set i u)
 |_,_,_,.nil=>.nil
 |_,_,0,.cons _ t=>.cons r t
 |_,_,i+1,.cons q t=>.cons q (aI.set r i t)
theorem aI.append:∀{b a:List V}{e d:Wh},aI b e->aI a d->aI (b++a) (e++d)
 |_,_,_,_,.nil,s=>s
 |_,_,_,_,.cons r t,s=>.cons r (aI.append t s)
theorem aI.take:∀{a:List V}{b:Wh}(n:Nat),aI a b->aI (a.take n) (b.take n)
 |_,_,0,_=>.nil
 |_,_,_+1,.nil=>.nil
 |_,_,n+1,.cons r t=>.cons r (aI.take n t)
theorem aI.drop:∀{a:List V}{b:Wh}(n:Nat),aI a b->aI (a.drop n) (b.drop n)
 |_,_,0,r=>r
 |_,_,_+1,.nil=>.nil
 |_,_,n+1,.cons _ t=>aI.drop n t
def aI.none_of:∀{a:List V}{b:Wh}{i:Nat},aI a b->a[i]?=M->b[i]?=M:=λ{a b i} r e=>by
 have f:=r.length;have d:=Yx.mp e;exact Yx.mpr (by lia)
def g7:Option V->Wg->Prop
 |some v,some u=>RelV v u
 |none,none=>True
 |_,_=>False
def KV{κ:Type}:List (κ×V)->List (κ×IR)->Prop:=Paired λ(p:κ×V) (q:κ×IR)=>p.1=q.1/\RelV p.2 q.2
noncomputable def kV:Key->V
 |.inl i=>.int i
 |.inr x=>.str x
inductive HO where
 |lst (xs:List V)
 |tup (xs:List V)
 |dK (cv:List (Key×V)) | dT (cv:List (List Key×V))
 |set (S:Int->Bool) (n:Nat)
 |ins (C dx:GM) (fs:List (Str×V))
 |own (x:GM)
 |xd (fs:List (Str×V))
 |met (f x:GM)
 |rng (lo hi:Int)
 |frz (o:Obj) (u:HO)
 |tbl (q:Str)
 |ext (φ:SC->Re->Prop)
noncomputable abbrev Hp:=GM->Option HO
noncomputable def upd(H:Hp)(a:GM)(o:HO):Hp:=λb=>if b=a then Y o else H b
def ay{H:Hp}:upd H a o a=Y o:=by unfold upd;rw[Zr L]
def ax(h:b≠a):upd H a o b=H b:=by unfold upd;rw[Zp h]
def zr:upd (upd H a o) a u=upd H a u:=by
 funext b;unfold upd;split<;>rfl
def C7{H:Hp}{a b:GM}{o u:HO}(h:H a=Y o)(f:H b=Y u)(d:o≠u):a≠b:=by
 intro e;subst e;rw[h]at f;exact d (Zo f)
def dA{H:Hp}{a b:GM}{o:HO}(h:H a=Y o)(d:H b=M):a≠b:=by
 intro e;subst e;rw[h]at d;cases d
noncomputable def Kt(h:Re)(a:GM):Prop:=∀o,h.get? a=Y o->o.dict=M
def Kt.new(h:Re)(a:Array IR):Kt (h.push { cls:=.type "tuple",data:=.seq a }) h.objs.size:=λo e=>by
 rw[ZR _ L]at e;cases e;rfl
def Kt.of{h:Re}(e:h.get? a=Y o)(d:o.dict=M):Kt h a:=λf b=>by
 rw[e]at b;cases b;exact d
section
variable(P:PP)(w:SC)
def dh(H:Hp)(h:Re)(a:GM):HO->Prop
 |.lst b=>b.length<=FS/\∃(g:Wh)(n:Nat),aI b g/\h.get? a=Y { cls:=.type "list",data:=.seq g.toArray n }
 |.tup b=>b.length<=FS/\∃g:Wh,aI b g/\Kt h a/\IsTup h a g.toArray
 |.dK i=>i.length<=FS/\(a==sysModules)=O/\∃e,KV i e/\h.DictOf (bP P w) a e
 |.dT i=>i.length<=FS/\(a==sysModules)=O/\∃b:List (List Key×GM×IR),
   Paired (λ(p:List Key×V) (q:List Key×GM×IR)=>p.1=q.1/\H q.2.1=Y (.tup (p.1.map kV))/\RelV p.2 q.2.2) i b ∧
   ∃o s A,h.get? a=Y o/\o.ExactDict/\o.data=.dict s A/\s.toList=b.map (entryOfKey (tupleKind (bP P w)))/\(b.map (·.1)).Nodup
 |.set S n=>h.SetOf (intKind P w) a S n
 |.ins C j fs=>H j=Y (.own a)/\fs.length<=1000/\j≠a/\h.get? a=Y (PySem.W.instObj C j) ∧
   ∃d,h.Ns1 j d/\(∀f,g7 (fs.lookup f) (d f))/\PySem.Within d (fs.map (·.1))
 |.own _=>∃o,h.get? a=Y o
 |.xd fs=>∃d,h.Ns1 a d/\∀f,g7 (fs.lookup f) (d f)
 |.rng lo z=>∃t u v,h.get? a=Y { cls:=.type "range",data:=.fields #[.int lo t,.int z u,.int 1 v] }
 |.frz o u=>h.get? a=Y o/\dh H h a u
 |.tbl q=>∃l,h.get? a=Y { cls:=.none,data:=.fields l }/\TriplesOk l.toList/\∀pos v,codeAmong pos l.toList=Y v->∃c o y e t,v=.ref c/\H c=Y (.frz o (.own y))/\o.data=.fields e/\e[1]?=Y (.str q t)
 |.met f x=>h.get? a=Y (PySem.W.methodObj (.ref f) (.ref x))
 |.ext φ=>φ w h/\(∃o,h.get? a=Y o)/\∀r m:Re,φ w r->(∀o,r.get? a=Y o->m.get? a=Y o)->φ w m
def FC(H:Hp)(h:Re):Prop:=∀a o,H a=Y o->dh P w H h a o
end
section
theorem dh.lt(x:dh P w H h a o):a<h.objs.size:=by
 cases o with
 |lst b=>obtain⟨_,_,_,_,e⟩:=x;exact ZS e
 |tup b=>obtain⟨_,_,_,_,p⟩:=x;exact p.lt
 |dK d=>obtain⟨_,_,_,_,o,_,_,e,_⟩:=x;exact ZS e
 |dT d=>obtain⟨_,_,_,_,o,_,_,e,_⟩:=x;exact ZS e
 |set S n=>obtain⟨o,_,_,_,e,_⟩:=x;exact ZS e
 |ins C i fs=>obtain⟨_,_,_,e,_⟩:=x;exact ZS e
 |own y=>obtain⟨_,e⟩:=x;exact ZS e
 |xd fs=>obtain⟨_,⟨_,_,_,e,_⟩,_⟩:=x;exact ZS e
 |rng lo g=>obtain⟨_,_,_,e⟩:=x;exact ZS e
 |frz ob u=>obtain⟨e,_⟩:=x;exact ZS e
 |tbl q=>obtain⟨_,e,_⟩:=x;exact ZS e
 |met f y=>exact ZS (x)
 |ext φ=>obtain⟨_,⟨_,e⟩,_⟩:=x;exact ZS e
theorem Paired.JS{α β:Type}{F G:α->β->Prop}:∀{e:List α}{d:List β},Paired F e d->(∀a b,F a b->G a b)->Paired G e d
 |_,_,.nil,_=>.nil
 |_,_,.cons r t,f=>.cons (f _ _ r) (Paired.JS t f)
def dh.Hw{h':Re}(x:dh P w H h a o)(k:∀b u,(b=a\/H b=Y (.own a))->h.get? b=Y u->h'.get? b=Y u)(J:∀b,H b=Y (.own a)->H' b=Y (.own a))(G:∀b l,H b=Y (.tup l)->H' b=Y (.tup l))(N:∀b o y,H b=Y (.frz o (.own y))->H' b=Y (.frz o (.own y))):dh P w H' h' a o:=by
 induction o with
 |lst l=>obtain⟨z,B,n,r,e⟩:=x;exact⟨z,B,n,r,k _ _ (.inl L) e⟩
 |tup l=>obtain⟨z,B,r,nd,g,e,c⟩:=x;exact⟨z,B,r,Kt.of (k _ _ (.inl L) e) (nd _ e),g,k _ _ (.inl L) e,c⟩
 |dK Q=>obtain⟨z,y,m,r,g,i,j,e,c⟩:=x;exact⟨z,y,m,r,g,i,j,k _ _ (.inl L) e,c⟩
 |dT Q =>
  obtain⟨z,y,l,r,g,i,j,e,c⟩:=x;exact⟨z,y,l,Paired.JS r λp q z=>⟨z.1,G _ _ z.2.1,z.2.2⟩,g,i,j,k _ _ (.inl L) e,c⟩
 |set S n=>obtain⟨g,i,j,t,e,c⟩:=x;exact⟨g,i,j,t,k _ _ (.inl L) e,c⟩
 |ins C U fs =>
  obtain⟨d,z,ne,e,A,⟨s,i,j,e2,c⟩,r⟩:=x;exact⟨J _ d,z,ne,k _ _ (.inl L) e,A,⟨s,i,j,k _ _ (.inr d) e2,c⟩,r⟩
 |own y=>obtain⟨g,e⟩:=x;exact⟨g,k _ _ (.inl L) e⟩
 |xd fs=>obtain⟨A,⟨s,i,j,e,c⟩,r⟩:=x;exact⟨A,⟨s,i,j,k _ _ (.inl L) e,c⟩,r⟩
 |rng lo R=>obtain⟨t,u,v,e⟩:=x;exact⟨t,u,v,k _ _ (.inl L) e⟩
 |frz g u F=>obtain⟨e,q⟩:=x;exact⟨k _ _ (.inl L) e,F q⟩
 |tbl q =>
  obtain⟨E,e,e1,e2⟩:=x;refine⟨E,k a _ (.inl L) e,e1,λpos v r=>?_⟩;obtain⟨c,o,y,m,t,r1,r2,D⟩:=e2 pos v r;exact⟨c,o,y,m,t,r1,N _ _ _ r2,D⟩
 |met f y =>
  exact k a _ (.inl L) x
 |ext φ=>obtain⟨p,⟨o,e⟩,st⟩:=x;exact⟨st _ _ p λo q=>k _ _ (.inl L) q,⟨o,k _ _ (.inl L) e⟩,st⟩
theorem FC.lt(x:FC P w H h)(e:H a=Y o):a<h.objs.size:=(x a o e).lt
def FC.fresh(x:FC P w H h)(e:h.objs.size<=a):H a=M:=by
 cases q:H a with
 |none=>rfl
 |some u=>exact absurd (ZY (x.lt q) e) (Yi _)
def FC.kept{h':Re}(x:FC P w H h)(k:∀b u,h.get? b=Y u->h'.get? b=Y u):FC P w H h':=λa o e =>
 (x a o e).Hw (λb u _ q=>k b u q) (λ_ q=>q) (λ_ _ q=>q) λ_ _ _ q=>q
def FC.laid{h':Re}(x:FC P w H h)(k:∀b u,h.get? b=Y u->h'.get? b=Y u)(g:h.objs.size<=a)(d:dh P w (upd H a o) h' a o):FC P w (upd H a o) h':=λb u e=>by
 have f:=x.fresh g;by_cases hb:b=a
 ·subst hb;rw[ay]at e;cases e;exact d
 ·rw[ax hb]at e;exact(x b u e).Hw (λc v _ q=>k c v q) (λc q=>by rw[ax (dA q f)];exact q) (λc i q=>by rw[ax (dA q f)];exact q) λc _ _ q=>by rw[ax (dA q f)];exact q
end
noncomputable def Rd(H:Hp)(a:GM)(u:HO):Prop:=H a=Y u\/∃o,H a=Y (.frz o u)
def Rd.ok(r:Rd H a u)(x:FC P w H h):dh P w H h a u:=by
 rcases r with r | ⟨o,r⟩
 ·exact x a u r
 ·obtain⟨_,q⟩:=x a _ r;exact q
noncomputable def Ep:Option HO->Prop
 |some (.lst _)=>True
 |some (.dK _)=>True
 |some (.dT _)=>True
 |some (.set _ _)=>True
 |some (.ins _ _ _)=>True
 |some (.ext _)=>True
 |_=>False
section
def FC.write{h':Re}(m:FC P w H h)(a:Ep (H x))(he:e=x\/H e=Y (.own x))(k:∀b u,b≠e->h.get? b=Y u->h'.get? b=Y u)(o:∃u,h'.get? e=Y u)(g:dh P w (upd H x o') h' x o'):FC P w (upd H x o') h':=λb u q=>by
 have l:∀c y,H c=Y (.own y)->c≠x:=λc y r z=>by subst z;rw[r]at a;exact a
 by_cases hb:b=x
 ·subst hb;rw[ay]at q;cases q;exact g
 ·rw[ax hb]at q;by_cases f:b=e
  ·have j:H b=Y (.own x):=by
    rcases he with z | z
    ·exact absurd (f.trans z) hb
    ·rw[f];exact z
   rw[q]at j;cases j;obtain⟨v,n⟩:=o;exact⟨v,by rw[f];exact n⟩
  ·refine(m b u q).Hw (λc v d r=>k c v ?_ r) (λc r=>by rw[ax (l c b r)];exact r) (λc i r=>by rw[ax ((λc i r z=>by subst z;rw[r]at a;exact a) c i r)];exact r) λc _ _ r=>by rw[ax λz=>by subst z;rw[r]at a;exact a];exact r
   rcases d with rfl | d
   ·exact f
   ·rintro rfl;rcases he with z | z
    ·exact l c b d z
    ·rw[d]at z;cases z;exact hb L
end
structure Un(fs ex:Wi)(H H':Hp)(h h':Re):Prop where
 keep:∀b o,h.get? b=some o->H b=none->b∉fs->b∉ex->h'.get? b=some o
 slot:∀b o,h.get? b=some o->H b=none->b∈fs->b∉ex->∃sl,h'.get? b=some { o with slots:=sl }
 free:∀b o,h.get? b=some o->H b=none->b∉ex->H' b=none
 there:∀b o,h.get? b=some o->b∉ex->∃o',h'.get? b=some o'
 FY:∀b xs,H b=some (.tup xs)->H' b=some (.tup xs)
 FP:∀b o u,H b=some (.frz o u)->H' b=some (.frz o u)
 FJ:∀b q,H b=some (.tbl q)->H' b=some (.tbl q)
section
def Un.any(u:Un fs ex H H1 h h1)(q:h.get? b=Y d)(n:H b=M)(f:b∉ex):∃g,h1.get? b=Y { d with slots:=g }:=by
 by_cases hb:b∈fs
 ·exact u.slot b d q n hb f
 ·exact⟨d.slots,u.keep b d q n hb f⟩
def Un.kept{h h':Re}(k:∀b u,h.get? b=Y u->h'.get? b=Y u):Un fs ex H H h h' :=
 ⟨λb d q _ _ _=>k b d q,λb d q _ _ _=>⟨d.slots,k b d q⟩,λ_ _ _ n _=>n,λb d q _=>⟨d,k b d q⟩,λ_ _ q=>q,λ_ _ _ q=>q,λ_ _ q=>q⟩
def Un.refl:Un fs ex H H h h:=Un.kept λ_ _ q=>q
def Un.laid{fs ex:Wi}{H:Hp}{h h':Re}{a:GM}{o:HO}(k:∀b u,h.get? b=Y u->h'.get? b=Y u)(g:h.objs.size<=a)(d:H a=M):Un fs ex H (upd H a o) h h' where
 keep:=λb u q _ _ _=>k b u q
 slot:=λb u q _ _ _=>⟨u.slots,k b u q⟩
 free:=λb u q n _=>by rw[ax (ZV (ZY (ZS q) g))];exact n
 there:=λb u q _=>⟨u,k b u q⟩
 FY:=λb f q=>by rw[ax (dA q d)];exact q
 FP:=λb u f q=>by rw[ax (dA q d)];exact q
 FJ:=λb n q=>by rw[ax (dA q d)];exact q
def Un.write{h h':Re}(d:Ep (H x))(he:e=x\/H e=Y (.own x))(k:∀b u,b≠e->h.get? b=Y u->h'.get? b=Y u)(l:∃u,h'.get? e=Y u):Un fs ex H (upd H x o) h h':=by
 have g:∀b,H b=M->b≠x:=λb n z=>by subst z;rw[n]at d;exact d
 have hb:∀b,H b=M->b≠e:=λb n z=>by
  subst z;rcases he with r | r
  ·exact g b n r
  ·rw[n]at r;cases r
 have f:∀b u,H b=Y u->¬Ep (Y u)->b≠x:=λb u q nm z=>by subst z;rw[q]at d;exact nm d
 refine⟨λb u q n _ _=>k b u (hb b n) q,λb u q n _ _=>⟨u.slots,k b u (hb b n) q⟩,λb u q n _=>by rw[ax (g b n)];exact n,λb u q _=>?_,
  λb j q=>by rw[ax (f b _ q λz=>z)];exact q,λb u j q=>by rw[ax (f b _ q λz=>z)];exact q,λb n q=>by rw[ax (f b _ q λz=>z)];exact q⟩
 by_cases i:b=e
 ·subst i;exact l
 ·exact⟨u,k b u i q⟩
end
noncomputable def gone(v:IR):Obj:=⟨v,M,.freed,#[]⟩
def t5(H:Hp)(a:GM)(o:Obj):Obj:=match H a with
 |some (.tbl q)=>gone (.str q 0)
 |some _=>gone .none
 |none=>match o.data with
  |.freed=>gone .none
  |_=>o
def pB(h:Re)(H:Hp):Heap:=⟨h.objs.mapIdx λa o=>t5 H a o,h.life⟩
def Tb(b:Re)(a:GM)(q:Str):Prop:=b.objs[a]?=Y (gone (.str q 0))
def tu(h:Re)(H:Hp):(pB h H).objs.size=h.objs.size:=Array.size_mapIdx
def oC(h:Re)(H:Hp)(b:GM):(pB h H).objs[b]?=(h.objs[b]?).map (t5 H b):=Array.getElem?_mapIdx
def kS{h:Re}:h.get? b=Y o↔h.objs[b]?=Y o/\o.data ≠ .freed:=by
 unfold Heap.get?;split
 ·rename_i e;exact⟨λz=>(nomatch z),λ⟨z,n⟩=>by rw[e]at z;cases z;exact absurd L n⟩
 ·rename_i n;exact⟨λz=>⟨z,λd=>by
   obtain⟨c,u,f,a⟩:=o;cases (d);exact n _ _ _ z⟩,λz=>z.1⟩
def vz{h:Re}(e:h.get? b=Y o)(n:H b=M):(pB h H).get? b=Y o:=by
 obtain⟨e1,e2⟩:=kS.mp e;refine kS.mpr ⟨?_,e2⟩;rw[oC,e1,Option.map_some];unfold t5;rw[n];cases h:o.data with
 |freed=>exact absurd h e2
 |_=>rfl
def xK(e:(pB h H).get? b=Y o):h.get? b=Y o/\H b=M:=by
 obtain⟨e1,e2⟩:=kS.mp e;rw[oC]at e1;obtain⟨u,g,a⟩:=Zx.mp e1;unfold t5 at a;cases q:H b with
 |some y =>
  rw[q]at a;cases y<;>(cases a;exact absurd L e2)
 |none =>
  rw[q]at a;refine⟨kS.mpr ?_,rfl⟩;cases d:u.data with
  |freed=>rw[d]at a;cases a;exact absurd L e2
  |_ =>
   have f:u=o:=by rw[d]at a;exact a
   subst f;exact⟨g,e2⟩
def x9:Tb (pB h H) b q↔H b=Y (.tbl q)/\b<h.objs.size:=by
 unfold Tb;rw[oC];constructor
 ·intro e;obtain⟨u,i,a⟩:=Zx.mp e;refine⟨?_,(Xf.mp i).1⟩;unfold t5 at a;cases y:H b with
  |some f =>
   rw[y]at a;cases f with
   |tbl j=>cases a;rfl
   |_=>cases a
  |none =>
   rw[y]at a;cases d:u.data with
   |freed=>rw[d]at a;cases a
   |_ =>
    have g:u=gone (.str q 0):=by rw[d]at a;exact a
    rw[g]at d;cases d
 ·rintro⟨e,l⟩;rw[Array.getElem?_eq_getElem l,Option.map_some];unfold t5;rw[e]
noncomputable def xS(g h:Re)(L:GM):Xj:=(List.range h.objs.size).filterMap λa=>if a=L\/(g.get? a).isSome=Z then M else (h.get? a).map λo=>(a,o)
def rest(g h:Re)(L d:GM):Xj:=(xS g h L).filter λp=>decide (p.1≠d)
structure Mod(K:Wv)(mg:Wj)(base:Re):Prop where
 Jk:K.In base
 glob:base.Ns mainGlobals mg
 blt:∃mb,base.Ns builtinsNs mb/\∀x:Str,x ≠ "__name__" → mb x=bootBuiltins x
 nolimit:base.NoLimit
structure Cx where
 prog:PP
 w:SC
 K:Wv
 mg:Wj
 base:Re
 A:Pi
 N:List Str
 s₀:FB
 H₀:Hp
 env:Env
 outer:List Env
 stack:List Env
 ex:Wi
 fn:Str->Bool
 calm:Bool
 pn:Xj
 xe:Z0
abbrev K1(e:Expr)(l:List Expr)(X:Cx):Prop:=KM (e :: l) X.env=(O,eval e X.env) :: KM l X.env
abbrev K2(p:Pos)(l:List Expr)(X:Cx):Prop:=(backTo p (KM l X.env)).any (·.1)=O
abbrev K3(x:Str):Prop:=(x==("__debug__" : Str))=O
abbrev K4(x:Str):Prop:=(x==("__classdict__" : Str))=O
noncomputable def FA(l:List Env):Wi:=l.filterMap (·.frame)
abbrev Cx.fs(X:Cx):Wi:=FA X.outer
noncomputable def HD(a:Scope)(x:Str):Prop:=a.names.lookup x=Y .local\/a.names.lookup x=Y .cell\/a.names.lookup x=Y .free
noncomputable def Loc(a:Scope)(x:Str):Prop:=a.names.lookup x=Y .local\/a.names.lookup x=Y .cell
noncomputable def Look(a:Env)(h:Re)(m:Wj)(x:Str)(u:IR):Prop :=
 (a.kindOf x=Y .local/\m x=Y u)\/((a.kindOf x=Y .cell\/a.kindOf x=Y .free)/\∃c,a.cells.lookup x=Y c/\h.IsCell c (Y u))
structure Cx.Ok(X:Cx):Prop where
 mod:Mod X.K X.mg X.base
 kind:X.env.scope.kind=.function
 glob:X.env.globals=mainGlobals
 blt:X.env.builtins=builtinsNs
 above:X.s₀.heap.objs.size<=X.env.locals
 inj:∀x y c,X.env.cells.lookup x=some c->X.env.cells.lookup y=some c->x=y
 has:∀x,(X.env.kindOf x=some .cell\/X.env.kindOf x=some .free)->∃c,X.env.cells.lookup x=some c
 Kr:∀x c,X.fn x=true->X.env.cells.lookup x=some c->X.s₀.heap.objs.size<=c
 hd:X.calm=true->X.A.handled=none
 frames:X.A.frames=some X.stack
 JA:X.stack=X.outer\/(X.stack=X.env :: X.outer/\X.env.frame=some X.env.locals)
 M0:∀b∈X.ex,b≠X.env.locals/\∀x c,X.env.cells.lookup x=some c->c≠b
 tb:∀b q,Tb X.base b q->X.H₀ b=some (.tbl q)
 bs:∀b o,X.base.get? b=some o->X.s₀.heap.get? b=some o/\X.H₀ b=none
 IG:X.base.objs.size<=X.s₀.heap.objs.size
 Hz:∀b o,X.base.get? b=some o->b∉X.ex
 HU:∀b∈X.ex,b∉X.fs
 Fd:X.s₀.heap.FunFrames X.base X.outer
 Ju:∀b∈X.fs,X.H₀ b=none
structure Inv(X:Cx)(pins:Xj)(R:List (Option V))(H:Hp)(s:FB):Prop where
 ok:X.Ok
 os:s.os=X.s₀.os
 bare:AllBare s.gens
 base:Un X.fs X.ex X.H₀ H X.s₀.heap s.heap
 loc:∃m,s.heap.Ns X.env.locals m/\∀(i:Nat)(x:Str)(v:V),X.N[i]?=some x->R[i]?=some (some v)->HD X.env.scope x->∃u,RelV v u/\Look X.env s.heap m x u
 cell:∀x c,X.env.cells.lookup x=some c->∃v,s.heap.IsCell c v
 free:H X.env.locals=none
 Ey:∀x c,X.env.cells.lookup x=some c->H c=none
 pin:∀p∈X.pn++pins,s.heap.get? p.1=some p.2/\H p.1=none/\p.1≠X.env.locals/\p.1∉X.fs/\∀v,p.2.data ≠ .cell v
 Eg:FC X.prog X.w H s.heap
 len:R.length=X.N.length
section
def Cx.Ok.OD{X:Cx}(a:X.Ok)(e:X.base.get? b=Y o):b∉X.fs:=λhb=>by
 have:=(a.Fd.mem hb).1;rw[e]at this;cases this
theorem Inv.bs(I:Inv X pins R H s):∀b o,X.base.get? b=Y o->s.heap.get? b=Y o/\H b=M:=λb o e =>
 ⟨I.base.keep b o (I.ok.bs b o e).1 (I.ok.bs b o e).2 (I.ok.OD e) (I.ok.Hz b o e),I.base.free b o (I.ok.bs b o e).1 (I.ok.bs b o e).2 (I.ok.Hz b o e)⟩
theorem Inv.tb(I:Inv X pins R H s):∀b q,Tb X.base b q->H b=Y (.tbl q):=λb q e=>I.base.FJ b q (I.ok.tb b q e)
def Inv.bk(I:Inv X pins R H s):∀b o,X.base.get? b=Y o->s.heap.get? b=Y o:=λb o e=>(I.bs b o e).1
theorem Inv.mod(I:Inv X pins R H s):Mod X.K X.mg X.base:=I.ok.mod
def Inv.Fc(I:Inv X pins R H s):X.K.In s.heap:=I.ok.mod.Jk.keeps I.bk
theorem Inv.lt(I:Inv X pins R H s):X.env.locals<s.heap.objs.size:=let ⟨_,a,_⟩:=I.loc;a.lt
def Inv.sz(I:Inv X pins R H s):X.s₀.heap.objs.size<=s.heap.objs.size:=ZF I.ok.above (Y0 I.lt)
def Inv.OC(I:Inv X pins R H s)(h:s.heap.objs.size<=a):a∉X.fs:=λhb=>by
 obtain⟨_,o,b,_⟩:=I.ok.Fd.mem hb;exact absurd (ZY (ZS b) (ZF I.sz h)) (Yi _)
def Inv.Kp(I:Inv X pins R H s):∀x c,X.env.cells.lookup x=Y c->c≠X.env.locals:=λx c e z=>by
 obtain⟨v,o,a,hd⟩:=I.cell x c e;obtain⟨m,⟨f,g,h,b,d,_⟩,_⟩:=I.loc;rw[z,b]at a;cases a;rw[d]at hd;cases hd
theorem Inv.Fd(I:Inv X pins R H s):s.heap.FunFrames X.base X.outer:=by
 have all:∀(l:List Env),(∀b∈FA l,b∈X.fs)->X.s₀.heap.FunFrames X.base l->s.heap.FunFrames X.base l:=by
  intro l
  induction l with
  |nil=>intro _ _;trivial
  |cons env r g =>
   intro f m;obtain⟨n,⟨L,o,a,j,i,hd⟩,h⟩:=m;have d:=f L (by unfold FA;rw[Xo,a];exact Zu);obtain⟨p,e⟩:=I.base.slot L o i (I.ok.Ju L d) d λz=>I.ok.HU L z d;exact⟨n,⟨L,_,a,j,e,hd⟩,g (λb hb=>f b (by unfold FA;rw[Xo,a];exact Zt _ hb)) h⟩
 exact all X.outer (λ_ hb=>hb) I.ok.Fd
theorem Inv.stack(I:Inv X pins R H s):s.heap.FunFrames X.base X.stack:=by
 rcases I.ok.JA with e | ⟨e,b⟩
 ·rw[e];exact I.Fd
 ·rw[e];obtain⟨m,a,_⟩:=I.loc;refine .cons (by rw[I.ok.kind];decide) b a ?_ I.Fd;exact Heap.get?_none_of_le (ZF I.ok.IG I.ok.above)
def Inv.Gz(I:Inv X pins R H s):∀b∈FA X.stack,b∈X.env.locals :: X.fs:=λb hb=>by
 rcases I.ok.JA with e | ⟨e,a⟩
 ·rw[e]at hb;exact Zt _ hb
 ·rw[e]at hb;unfold FA at hb;rw[Xo,a]at hb;exact hb
def Inv.Gm(I:Inv X pins R H s):∀b∈FA X.stack,H b=M:=λb hb=>by
 rcases Zi.mp (I.Gz b hb) with e | hb
 ·rw[e];exact I.free
 ·obtain⟨_,o,a,_⟩:=I.ok.Fd.mem hb;exact I.base.free b o a (I.ok.Ju b hb) λz=>I.ok.HU b z hb
def Inv.step{h':Re}{ch:Wi}(I:Inv X pins R H s)(C:∀b∈ch,(b∈X.ex\/X.s₀.heap.objs.size<=b)/\b≠X.env.locals/\(∀x c,X.env.cells.lookup x=Y c->c≠b)/\∀p∈X.pn++pins,p.1≠b)(g:∀b o,b≠X.env.locals->b∉X.fs->b∉ch->s.heap.get? b=Y o->H b=M->h'.get? b=Y o)(j:∀b o,b≠X.env.locals->b∈X.fs->b∉ch->s.heap.get? b=Y o->H b=M->∃E,h'.get? b=Y { o with slots:=E })(f:∀b o,b∉ch->s.heap.get? b=some o->H b=none->H' b=none)(t:∀b o,b∉ch->s.heap.get? b=Y o->∃A,h'.get? b=Y A)(FY:∀b h,H b=Y (.tup h)->H' b=Y (.tup h))(FP:∀b o u,H b=Y (.frz o u)->H' b=Y (.frz o u))(FJ:∀b q,H b=Y (.tbl q)->H' b=Y (.tbl q))(S:∀m,s.heap.Ns X.env.locals m->h'.Ns X.env.locals m)(Eg:FC X.prog X.w H' h')(hg:AllBare N) :
  Inv X pins R H' { s with heap:=h',gens:=N,drawn:=d',toks:=Q }:=by
 have P:∀b o,X.s₀.heap.get? b=Y o->b≠X.env.locals:=λb o e=>ZV (ZY (ZS e) I.ok.above);have D:∀b o,X.s₀.heap.get? b=Y o->b∉X.ex->b∉ch:=λb o e a hb=>by
  rcases (C b hb).1 with z | z
  ·exact a z
  ·exact absurd (ZY (ZS e) z) (Yi _)
 have cellK:∀x c,X.env.cells.lookup x=Y c->∀v,s.heap.IsCell c v->h'.IsCell c v:=λx c e v ⟨o,y,hd⟩=>by
  have B:c∉ch:=λz=>(C c z).2.2.1 x c e L;by_cases J:c∈X.fs
  ·obtain⟨E,q⟩:=j c o (I.Kp x c e) J B y (I.Ey x c e);exact⟨_,q,hd⟩
  ·exact⟨o,g c o (I.Kp x c e) J B y (I.Ey x c e),hd⟩
 refine⟨I.ok,I.os,hg,⟨λb o e n hb a=>?_,λb o e n hb a=>?_,λb o e n a=>?_,λb o e a=>?_,λb h e=>FY b h (I.base.FY b h e),λb o h e=>FP b o h (I.base.FP b o h e),λb q e=>FJ b q (I.base.FJ b q e)⟩,?_,λx c e=>?_,?_,λx c e=>?_,λp G=>?_,Eg,I.len⟩
 ·exact g b o (P b o e) hb (D b o e a) (I.base.keep b o e n hb a) (I.base.free b o e n a)
 ·obtain⟨E,e1⟩:=I.base.slot b o e n hb a;obtain⟨LB,e2⟩:=j b _ (P b o e) hb (D b o e a) e1 (I.base.free b o e n a);exact⟨LB,e2⟩
 ·obtain⟨A,e1⟩:=I.base.there b o e a;exact f b A (D b o e a) e1 (I.base.free b o e n a)
 ·obtain⟨A,e1⟩:=I.base.there b o e a;exact t b A (D b o e a) e1
 ·obtain⟨m,U,hl⟩:=I.loc;refine⟨m,S m U,λi x v e1 e2 e3=>?_⟩;obtain⟨u,r,l⟩:=hl i x v e1 e2 e3;refine⟨u,r,?_⟩;rcases l with l | ⟨k,c,e,z⟩
  ·exact .inl l
  ·exact .inr ⟨k,c,e,cellK x c e _ z⟩
 ·obtain⟨v,z⟩:=I.cell x c e;exact⟨v,cellK x c e v z⟩
 ·obtain⟨m,⟨o,_,_,y,_⟩,_⟩:=I.loc;exact f _ o (λz=>(C _ z).2.1 L) y I.free
 ·obtain⟨v,o,y,hd⟩:=I.cell x c e;exact f c o (λz=>(C c z).2.2.1 x c e L) y (I.Ey x c e)
 ·obtain⟨e,n,ne,F,d⟩:=I.pin p G;have B:=λz=>(C p.1 z).2.2.2 p G L;exact⟨g p.1 p.2 ne F B e n,f p.1 p.2 B e n,ne,F,d⟩
def Inv.un{t':Nat}(I:Inv X pins R H s)(u:Un X.fs [] H H' s.heap h')(l:FC X.prog X.w H' h'):Inv X pins R H' { s with heap:=h',toks:=t' }:=by
 obtain⟨m,⟨o,v,x,a,r⟩,_⟩:=id I.loc;obtain⟨p,h⟩:=u.any a I.free (by simp);exact I.step (ch:=[]) (λ_ z=>nomatch z) (λb o _ hb _ e n=>u.keep b o e n hb (by simp)) (λb o _ hb _ e n=>u.slot b o e n hb (by simp)) (λb o _ e n=>u.free b o e n (by simp)) (λb o _ e=>u.there b o e (by simp)) u.FY u.FP u.FJ (λt g=>by
  obtain⟨q,j,i,d,f⟩:=g;rw[a]at d;cases d;exact⟨_,j,i,h,f⟩) l I.bare
def Inv.call{g':Array GenState}{t':Nat}{d':Drawn}{ch:Wi}(I:Inv X pins R H s)(u:Un (FA X.stack) ch H H' s.heap h')(v:FC X.prog X.w H' h')(l:AllBare g')(g:∀b∈ch,(b∈X.ex\/X.s₀.heap.objs.size<=b)/\b≠X.env.locals/\(∀x c,X.env.cells.lookup x=Y c->c≠b)/\∀p∈X.pn++pins,p.1≠b) :
  Inv X pins R H' { s with heap:=h',gens:=g',drawn:=d',toks:=t' }:=by
 obtain⟨m,⟨o,C,D,f,r⟩,_⟩:=id I.loc;obtain⟨y,d⟩:=u.any f I.free λz=>(g _ z).2.1 L;exact I.step (ch:=ch) g (λb o d hb a e n=>u.keep b o e n (λz=>(Zi.mp (I.Gz b z)).elim d hb) a) (λb o _ _ a e n=>u.any e n a) (λb o a e n=>u.free b o e n a) (λb o a e=>u.there b o e a) u.FY u.FP u.FJ (λB j=>by
  obtain⟨A,t,q,h,i⟩:=j;rw[f]at h;cases h;exact⟨_,t,q,d,i⟩) v l
def Inv.turned{h':Re}{t':Nat}(I:Inv X pins R H s)(k:∀b o,b≠a->s.heap.get? b=Y o->h'.get? b=Y o)(i:H a=M)(f:a≠X.env.locals)(w:a∈X.ex\/X.s₀.heap.objs.size<=a)(t:∀x c,X.env.cells.lookup x=Y c->c≠a)(l:∀p∈X.pn++pins,p.1≠a):Inv X pins R H { s with heap:=h',toks:=t' }:=by
 have g:∀b u,H b=Y u->b≠a:=λb u e z=>by rw[z,i]at e;cases e
 refine I.step (ch:=[a]) (λb hb=>?_) (λb o _ _ d e _=>k b o (λz=>d (by simp[z])) e) (λb o _ _ d e _=>⟨o.slots,k b o (λz=>d (by simp[z])) e⟩) (λ_ _ _ _ n=>n)
  (λb o d e=>⟨o,k b o (λz=>d (by simp[z])) e⟩) (λ_ _ e=>e) (λ_ _ _ e=>e) (λ_ _ e=>e) (λm j=>?_) (λb u e=>?_) I.bare
 ·have e:b=a:=by simpa using hb
  subst e;exact⟨w,f,t,l⟩
 ·obtain⟨o,y,A,h,r⟩:=j;exact⟨o,y,A,k _ o (Yb f) h,r⟩
 ·refine(I.Eg b u e).Hw (λc v d q=>k c v ?_ q) (λ_ q=>q) (λ_ _ q=>q) λ_ _ _ q=>q;rcases d with z | z
  ·rw[z];exact g b u e
  ·exact g c _ z
def Inv.tok(I:Inv X pins R H s)(t:Nat):Inv X pins R H { s with toks:=t }:=I.un (t':=t) Un.refl I.Eg
theorem Inv.kept{h':Re}{t':Nat}(I:Inv X pins R H s)(k:∀b u,s.heap.get? b=Y u->h'.get? b=Y u):Inv X pins R H { s with heap:=h',toks:=t' }:=I.un (Un.kept k) (I.Eg.kept k)
theorem Inv.laid{h':Re}{o:HO}{t':Nat}(I:Inv X pins R H s)(k:∀b u,s.heap.get? b=Y u->h'.get? b=Y u)(e:s.heap.objs.size<=a)(d:dh X.prog X.w (upd H a o) h' a o) :
  Inv X pins R (upd H a o) { s with heap:=h',toks:=t' }:=I.un (Un.laid k e (I.Eg.fresh e)) (I.Eg.laid k e d)
theorem Inv.write{h':Re}{x e:GM}(I:Inv X pins R H s)(d:Ep (H x))(he:e=x\/H e=Y (.own x))(k:∀b u,b≠e->s.heap.get? b=Y u->h'.get? b=Y u)(f:∃u,h'.get? e=Y u)(a:dh X.prog X.w (upd H x o) h' x o):Inv X pins R (upd H x o) { s with heap:=h',toks:=g }:=I.un (Un.write d he k f) (I.Eg.write d he k f a)
def Inv.Ii(I:Inv X pins R H s)(h:∀p∈a,s.heap.get? p.1=Y p.2/\H p.1=M/\p.1≠X.env.locals/\p.1∉X.fs/\∀v,p.2.data ≠ .cell v):Inv X a R H s :=
 ⟨I.ok,I.os,I.bare,I.base,I.loc,I.cell,I.free,I.Ey,λp b=>(Zc.mp b).elim (λz=>I.pin p (Z3 _ z)) (h p),I.Eg,I.len⟩
def o5{N:List Str}(d:N.Nodup){i j:Nat}{x:Str}(a:N[i]?=Y x)(b:N[j]?=Y x):i=j:=by
 obtain⟨f,e1⟩:=Zk.mp a;obtain⟨e,e2⟩:=Zk.mp b;exact(List.getElem_inj d).mp (e1.trans e2.symm)
def uh(I:Inv X pins R H s)(hN:X.N.Nodup)(C:X.N[i]?=Y x)(l:Loc X.env.scope x)(r:RelV v u)(h:∀S,Inv X pins (R.set i (Y v)) H S->(∃a,Heap.SameBut a s.heap S.heap/\(a=X.env.locals\/X.env.cells.lookup x=Y a))->Q () S)(hf:{`q0,X.fn x=Z\/X.env.scope.names.lookup x=Y .local}):KB Mq0 A (storeName X.env x u) Q E s:=by
 obtain⟨m,hn,hl⟩:=id I.loc;have QI:i<R.length:=by rw[I.len];exact(Zk.mp C).1
 have Kp:=I.Kp;have tracked:∀{a:GM}{h':Re},(∃o,s.heap.get? a=Y o/\H a=none)->Heap.SameBut a s.heap h'->FC X.prog X.w H h':=λ{a h'} ha f b ob e=>by
  obtain⟨_,_,Kk⟩:=ha;refine(I.Eg b ob e).Hw (λc D g q=>(f.2 c ?_).trans q) (λ_ q=>q) (λ_ _ q=>q) λ_ _ _ q=>q;rintro rfl;rcases g with rfl | g
  ·rw[Kk]at e;cases e
  ·rw[Kk]at g;cases g
 rcases l with t | t
 ·refine wpAny_storeName_local t hn (λh' SK f=>?_) (by rw[I.ok.kind];rfl);obtain⟨oL,_,_,ML,_⟩:=id hn;refine h _ ⟨I.ok,I.os,I.bare,⟨λb o e n hb l=>?_,λb o e n hb l=>?_,I.base.free,λb o e l=>?_,I.base.FY,I.base.FP,I.base.FJ⟩,⟨_,SK,λj y G e1 e2 e3=>?_⟩,λy c e=>?_,I.free,I.Ey,λp hp=>?_,tracked ⟨oL,ML,I.free⟩ f,by simpa using I.len⟩ ⟨_,f,.inl L⟩
  ·exact(f.2 b (ZV (ZY (ZS e) I.ok.above))).trans (I.base.keep b o e n hb l)
  ·obtain⟨P,e1⟩:=I.base.slot b o e n hb l;exact⟨P,(f.2 b (ZV (ZY (ZS e) I.ok.above))).trans e1⟩
  ·obtain⟨o',e1⟩:=I.base.there b o e l;exact⟨o',(f.2 b (ZV (ZY (ZS e) I.ok.above))).trans e1⟩
  ·by_cases B:j=i
   ·subst B;rw[C]at e1;cases e1;rw[Ya QI]at e2;cases e2;exact⟨u,r,.inl ⟨t,by simp⟩⟩
   ·rw[Yo (Yb B)]at e2;obtain⟨J,U,q⟩:=hl j y G e1 e2 e3;refine⟨J,U,?_⟩;rcases q with⟨k,e⟩ | ⟨k,c,e,z⟩
    ·refine .inl ⟨k,?_⟩;have:y≠x:=λe=>B (o5 hN e1 (e ▸ C));simp[this,e]
    ·exact .inr ⟨k,c,e,z.sameBut f (Kp y c e)⟩
  ·obtain⟨D,z⟩:=I.cell y c e;exact⟨D,z.sameBut f (Kp y c e)⟩
  ·obtain⟨e,n,ne,nf,d⟩:=I.pin p hp;exact⟨(f.2 p.1 ne).trans e,n,ne,nf,d⟩
 ·have OY:X.fn x=Z:=by
   rcases hf with z | z
   ·exact z
   ·rw[z]at t;cases t
  obtain⟨c,g⟩:=I.ok.has x (.inl t);obtain⟨D,z⟩:=I.cell x c g;refine wpAny_storeName_cell I.ok.kind t g z (λh' ID f=>?_);obtain⟨oc,QC,OQ⟩:=id z;refine h { s with heap:=h' } ⟨I.ok,I.os,I.bare,⟨λb o e n hb l=>?_,λb o e n hb l=>?_,I.base.free,λb o e l=>?_,I.base.FY,I.base.FP,I.base.FJ⟩,⟨m,hn.sameBut f (Yb (Kp x c g)),λj y G e1 e2 e3=>?_⟩,λy F e=>?_,I.free,I.Ey,λp hp=>?_,tracked ⟨oc,QC,I.Ey x c g⟩ f,by simpa using I.len⟩ ⟨c,f,.inr g⟩
  ·exact(f.2 b (ZV (ZY (ZS e) (I.ok.Kr x c OY g)))).trans (I.base.keep b o e n hb l)
  ·obtain⟨P,e1⟩:=I.base.slot b o e n hb l;exact⟨P,(f.2 b (ZV (ZY (ZS e) (I.ok.Kr x c OY g)))).trans e1⟩
  ·obtain⟨o',e1⟩:=I.base.there b o e l;exact⟨o',(f.2 b (ZV (ZY (ZS e) (I.ok.Kr x c OY g)))).trans e1⟩
  ·by_cases B:j=i
   ·subst B;rw[C]at e1;cases e1;rw[Ya QI]at e2;cases e2;exact⟨u,r,.inr ⟨.inl t,c,g,ID⟩⟩
   ·rw[Yo (Yb B)]at e2;obtain⟨J,U,q⟩:=hl j y G e1 e2 e3;refine⟨J,U,?_⟩;rcases q with q | ⟨k,F,e,z'⟩
    ·exact .inl q
    ·refine .inr ⟨k,F,e,z'.sameBut f ?_⟩;rintro rfl;exact B (o5 hN e1 (I.ok.inj _ _ _ e g ▸ C))
  ·by_cases NS:F=c
   ·subst NS;exact⟨_,ID⟩
   ·obtain⟨w2,z2⟩:=I.cell y F e;exact⟨w2,z2.sameBut f NS⟩
  ·obtain⟨e,n,ne,nf,d⟩:=I.pin p hp;refine⟨(f.2 p.1 ?_).trans e,n,ne,nf,d⟩;intro q;rw[q,QC]at e;exact d D (by rw[← (Zo e)];exact OQ)
def ju{v:V}(I:Inv X pins R H s)(g:X.N.Nodup)(e:X.N[i]?=Y x)(d:Loc X.env.scope x)(r:RelV v u)(h:∀a,Inv X pins (R.set i (Y v)) H a->Q () a)(f:{`q0,X.fn x=Z\/X.env.scope.names.lookup x=Y .local}):KB b A (storeName X.env x u) Q E s :=
 uh I g e d r (λa j _=>h a j) f
def Inv.Kq{a:FB}{ch:Wi}(I:Inv X pins R H s)(d:a.os=s.os)(u:Un (FA X.stack) ch H H' s.heap a.heap)(g:FC X.prog X.w H' a.heap)(e:AllBare a.gens)(f:∀b∈ch,(b∈X.ex\/X.s₀.heap.objs.size<=b)/\b≠X.env.locals/\(∀x c,X.env.cells.lookup x=Y c->c≠b)/\∀p∈X.pn++pins,p.1≠b):Inv X pins R H' a:=by
 obtain⟨h',g',d',t',h⟩:=a;subst d;exact I.call (g':=g') (t':=t') (d':=d') u g e f
end
abbrev XK:=IR->Option GM->Hp->Prop
noncomputable abbrev St:=List (Option V)
abbrev VK:=V->Hp->Prop
abbrev TE:=St->Hp->VK->Prop
abbrev TT:=St->Hp->(Bool->Hp->Prop)->Prop
abbrev TA:=St->Hp->(List V->Hp->Prop)->Prop
structure Ends where
 nx:St->Hp->Prop
 rt:VK
 bk:St->Hp->Prop:=λ_ _=>False
 ct:St->Hp->Prop:=λ_ _=>False
abbrev TS:=Ends->St->Hp->Prop
def EP(X:Cx)(a:Xj)(R:St)(Q:VK)(u:IR)(d:FB):Prop:=∃v b,Inv X a R b d/\RelV v u/\Q v b
noncomputable def TP(X:Cx)(a:Xj)(R:St)(Q:Bool->Hp->Prop)(b:Bool)(e:FB):Prop:=∃d,Inv X a R d e/\Q b d
def AP(X:Cx)(a:Xj)(R:St)(Q:List V->Hp->Prop)(e:Wh)(f:FB):Prop:=∃b d,Inv X a R d f/\aI b e/\Q b d
def SP(X:Cx)(a:Xj)(D:Ends)(f:Flow)(e:FB):Prop :=
 match f with
 |.next=>∃d b,Inv X a d b e/\D.nx d b
 |.brk=>∃d b,Inv X a d b e/\D.bk d b
 |.cont=>∃d b,Inv X a d b e/\D.ct d b
 |.ret u=>∃v d b,Inv X a d b e/\RelV v u/\D.rt v b
def PE(X:Cx)(e:Expr)(t:TE):Prop :=
 ∀(a:Xj)(s:FB)(R:St)(H:Hp)(Q:VK),Inv X a R H s->t R H Q->KB (FM X.prog X.w) X.A (eval e X.env) (EP X a R Q) X.xe s
def PT(X:Cx)(e:Expr)(t:TT):Prop :=
 ∀(a:Xj)(s:FB)(R:St)(H:Hp)(Q:Bool->Hp->Prop),Inv X a R H s->t R H Q->KB (FM X.prog X.w) X.A (isTrue e X.env (eval e X.env)) (TP X a R Q) X.xe s
def PW(X:Cx)(e:Expr)(t:TT):Prop :=
 ∀(whole:Sem IR)(a:Xj)(s:FB)(R:St)(H:Hp)(Q:Bool->Hp->Prop),Inv X a R H s->t R H Q->KB (FM X.prog X.w) X.A (isTrue e X.env whole) (TP X a R Q) X.xe s
def PW.pt(h:PW X e t):PT X e t:=h _
def PA(X:Cx)(b:List Expr)(t:TA):Prop :=
 ∀(pos:Pos)(a:Xj)(s:FB)(R:St)(H:Hp)(Q:List V->Hp->Prop),Inv X a R H s->t R H Q->KB (FM X.prog X.w) X.A (spliced (backTo pos (KM b X.env))) (AP X a R Q) X.xe s
def PS(X:Cx)(b:Stmt)(t:TS):Prop :=
 ∀(a:Xj)(s:FB)(R:St)(H:Hp)(D:Ends),Inv X a R H s->t D R H->KB (FM X.prog X.w) X.A (exec b X.env) (SP X a D) X.xe s
def Gi(X:Cx)(b:List Stmt)(t:TS):Prop :=
 ∀(a:Xj)(s:FB)(R:St)(H:Hp)(D:Ends),Inv X a R H s->t D R H->KB (FM X.prog X.w) X.A (execs b X.env) (SP X a D) X.xe s
def thn{α:Type}{t:Sem α}{Q b:α->FB->Prop}{M:Model}(h:KB M A t Q E s)(d:∀a s,Q a s->b a s):KB M A t b E s:=Z6 h d λ_ _ x=>x
section
noncomputable def D9(i:Nat):TE:=λR H Q=>∃v,R[i]?=Y (Y v)/\Q v H
noncomputable def tC(v:V):TE:=λ_ H Q=>Q v H
def eZ{X:Cx}(w:X.N[i]?=Y x)(o:HD X.env.scope x)(f:{`q1,K3 x})(g:{`q1,K4 x}):PE X (.Name x d) (D9 i):=by
 intro b s R H Q I h;obtain⟨v,e,h⟩:=h;obtain⟨m,p,t⟩:=I.loc;obtain⟨u,r,l⟩:=t i x v w e o;have fin:EP X b R Q u s:=⟨v,H,I,r,h⟩
 rcases l with⟨a,q⟩ | ⟨a,c,j,n⟩
 ·exact wpAny_Name (wpAny_loadName_local I.ok.kind a p q fin) f
 ·rcases a with a | a
  ·exact wpAny_Name (wpAny_loadName_cell I.ok.kind a j n fin) f
  ·exact wpAny_Name (wpAny_loadName_free I.ok.kind a j n fin g) f
def oq{i j pos}:PE X (.Constant (.int i) j pos) (tC (.int i)):=λ_ _ _ H _ I h=>wpAny_Constant_int ⟨.int i,H,I.tok _,⟨_,rfl⟩,h⟩
def Ce{b j pos}:PE X (.Constant (.bool b) j pos) (tC (.bl b)):=λ_ _ _ H _ I h=>Constant_bool ⟨.bl b,H,I,rfl,h⟩
def BE{j pos}:PE X (.Constant .none j pos) (tC .non):=λ_ _ _ H _ I h=>Constant_none ⟨.non,H,I,rfl,h⟩
def AQ{x j pos}:PE X (.Constant (.str x) j pos) (tC (.str x)):=λ_ _ _ H _ I h=>Calls.Constant_str ⟨.str x,H,I.tok _,⟨_,rfl⟩,h⟩
noncomputable def Gl(X:Cx)(x:Str):Prop:=X.env.kindOf x=Y .globalImplicit
def fj{s:FB}(I:Inv X a R H s)(e:Gl X x)(d:X.mg x=Y u)(h:Q u s)(f:{`q1,K3 x}):KB (FM X.prog X.w) X.A (eval (.Name x b) X.env) Q E s :=
 Calls.Name_function_global I.ok.kind e (Calls.loadGlobal_global (by rw[I.ok.glob];exact I.mod.glob.keeps I.bk) d h) f
def nF(I:Inv X a R H s)(g:Gl X x)(f:X.mg x=M)(d:bootBuiltins x=Y u)(h:Q u s)(e:{`q1,x ≠ "__name__"})(i:{`q1,K3 x}):KB (FM X.prog X.w) X.A (eval (.Name x b) X.env) Q E s:=by
 obtain⟨mb,l,j⟩:=I.mod.blt;exact Calls.Name_function_global I.ok.kind g (Calls.loadGlobal_builtin (by rw[I.ok.glob];exact I.mod.glob.keeps I.bk) f (by rw[I.ok.blt];exact l.keeps I.bk) ((j x e).trans d) h) i
def n4{v:V}(d:Gl X x)(b:X.mg x=Y u)(r:RelV v u)(e:{`q1,K3 x}):PE X (.Name x a) (tC v) :=
 λ_ _ _ H _ I h=>fj I d b ⟨v,H,I,r,h⟩ e
def rB{v:V}(f:Gl X x)(e:X.mg x=M)(b:bootBuiltins x=Y u)(r:RelV v u)(d:{`q1,x ≠ "__name__"})(g:{`q1,K3 x}):PE X (.Name x a) (tC v) :=
 λ_ _ _ H _ I h=>nF I f e b ⟨v,H,I,r,h⟩ d g
def PC(X:Cx)(g:CmpOp)(a b:Expr)(t:TE):Prop :=
 ∀(d:Xj)(s:FB)(R:St)(H:Hp)(Q:VK),Inv X d R H s->t R H Q →
  KB (FM X.prog X.w) X.A (eval a X.env) (λv f=>KB (FM X.prog X.w) X.A (eval b X.env) (λu e=>KB (FM X.prog X.w) X.A (P3 g v u) (EP X d R Q) X.xe e) X.xe f) X.xe s
def pO(b:Expr)(h:d ≠ .In)(e:d ≠ .NotIn):behindInMarks d b=O:=by
 have e1:(d==CmpOp.In)=O:=by cases d<;>first | rfl | exact absurd L h
 have e2:(d==CmpOp.NotIn)=O:=by cases d<;>first | rfl | exact absurd L e
 cases b<;>simp[behindInMarks,e1,e2]
noncomputable def DV(ta:TE):TE:=λR H Q=>ta R H λx d=>Q (.bl (decide (x=.non))) d
noncomputable def C4(ta:TE):TE:=λR H Q=>ta R H λx d=>Q (.bl (!decide (x=.non))) d
def RelV.Hy(r:RelV x v):(v==Value.none)=decide (x=.non):=by
 cases x with
 |non=>cases r;rfl
 |bl _=>cases r;rfl
 |int _=>obtain⟨t,rfl⟩:=r;rfl
 |str _=>obtain⟨t,rfl⟩:=r;rfl
 |byt _=>obtain⟨t,rfl⟩:=r;rfl
 |flt _=>obtain⟨t,rfl⟩:=r;rfl
 |ref _=>cases r;rfl
 |ty _=>cases r;rfl
def wQ{j pos'}(e:PE X a ta):PC X .Is a (.Constant .none j pos') (DV ta):=by
 intro d s R H Q I h;refine thn (e d s R H _ I h) λv l f=>?_;obtain⟨x,i,g,r1,q1⟩:=f;exact Constant_none (is_none_gen ⟨.bl _,i,g,by rw[r1.Hy];rfl,q1⟩)
def zw{j pos'}(e:PE X a ta):PC X .IsNot a (.Constant .none j pos') (C4 ta):=by
 intro d s R H Q I h;refine thn (e d s R H _ I h) λv l f=>?_;obtain⟨x,i,g,r1,q1⟩:=f;exact Constant_none (isnot_none_gen ⟨.bl _,i,g,by rw[r1.Hy];rfl,q1⟩)
noncomputable def tB(t:TE):TT:=λR H Q=>t R H λx d=>∃c,x=.bl c/\Q c d
def Bm(h:PC X e a b t)(f:behindInMarks e b=O:=by first | exact pO _ (by decide) (by decide) | rfl):PE X (.Compare a [e] [b] pos) t:=λd s R H Q I hw=>wpAny_Compare1 (h d s R H Q I hw) f
def wu(h:PC X f a b t)(g:behindInMarks f b=O:=by first | exact pO _ (by decide) (by decide) | rfl):PT X (.Compare a [f] [b] pos) (tB t):=by
 intro e s R H Q I hw;refine wpAny_isTrue_Compare1 (thn (h e s R H _ I hw) λv p g=>thn g λu o j=>thn j λc n i=>?_) g;obtain⟨x,m,l,r1,q1⟩:=i;obtain⟨d,rfl,q⟩:=q1;cases r1;exact YO ⟨m,l,q⟩
noncomputable def DS(t u:TT):TT:=λR H Q=>t R H λc d=>if c=Z then u R d Q else Q O d
noncomputable def RQ(t u:TT):TT:=λR H Q=>t R H λc d=>if c=Z then Q Z d else u R d Q
noncomputable def DI(t:TT):TT:=λR H Q=>t R H λc d=>Q (!c) d
def kY(f:PT X a tA):PW X (.BoolOp .And [a] pos) tA:=by
 intro g d s R H Q I h;refine isTrue_and (thn (f d s R H Q I h) λc i e=>?_);cases c with
 |true=>exact isTrue_and_nil e
 |false=>exact e
def nQ(f:PT X a tA):PW X (.BoolOp .Or [a] pos) tA:=by
 intro g d s R H Q I h;refine isTrue_or (thn (f d s R H Q I h) λc i e=>?_);cases c with
 |false=>exact isTrue_or_nil e
 |true=>exact e
def AD{X:Cx}{a:Expr}{pos:Pos}{tA Nt:TT}{rest:List Expr}(l:PT X a tA)(j:PW X (.BoolOp .And (b :: rest) pos) Nt):PW X (.BoolOp .And (a :: b :: rest) pos) (DS tA Nt):=by
 intro g d s R H Q I h;refine isTrue_and (thn (l d s R H _ I h) λc i m=>?_);obtain⟨f,e,q1⟩:=m;cases c with
 |true=>exact j g d i R f Q e q1
 |false=>exact⟨f,e,q1⟩
def DD{X:Cx}{a:Expr}{pos:Pos}{tA Nt:TT}{rest:List Expr}(l:PT X a tA)(j:PW X (.BoolOp .Or (b :: rest) pos) Nt):PW X (.BoolOp .Or (a :: b :: rest) pos) (RQ tA Nt):=by
 intro g d s R H Q I h;refine isTrue_or (thn (l d s R H _ I h) λc i m=>?_);obtain⟨f,e,q1⟩:=m;cases c with
 |true=>exact⟨f,e,q1⟩
 |false=>exact j g d i R f Q e q1
def Aj(e:PT X a tA):PT X (.UnaryOp .Not a pos) (DI tA):=by
 intro d s R H Q I h;exact isTrue_not (e d s R H (λc f=>Q (!c) f) I h)
noncomputable def DC(ta e:TE):TE:=λR H Q=>ta R H λx d=>∃c,x=.bl c/\if c=Z then e R d Q else Q (.bl O) d
noncomputable def CL(ta:TE):TE:=λR H Q=>ta R H λx d=>∃c,x=.bl c/\Q (.bl (!c)) d
def Bu{op}(h:PE X a t):PE X (.BoolOp op [a] pos) t:=λd s R H Q I hw=>BoolOp_one (h d s R H Q I hw)
def rh{X:Cx}{a:Expr}{ta tb:TE}{pos:Pos}{rest:List Expr}(j:PE X a ta)(i:PE X (.BoolOp .And (b :: rest) pos) tb):PE X (.BoolOp .And (a :: b :: rest) pos) (DC ta tb):=by
 intro d s R H Q I h;refine BoolOp_and (thn (j d s R H _ I h) λv g l=>?_);obtain⟨x,f,e,r1,q1⟩:=l;obtain⟨c,rfl,q1⟩:=q1;cases r1;refine YO ?_;cases c with
 |true=>exact i d g R f Q e q1
 |false=>exact⟨.bl O,f,e,rfl,q1⟩
def BX(e:PE X a ta):PE X (.UnaryOp .Not a pos) (CL ta):=by
 intro d s R H Q I h;refine UnaryOp_ (thn (e d s R H _ I h) λv j f=>?_);obtain⟨x,i,g,r1,q1⟩:=f;obtain⟨c,rfl,q1⟩:=q1;cases r1;exact not_of (YO ⟨.bl (!c),i,g,rfl,q1⟩)
end
def EW(K:Wv)(H:Hp)(a:GM)(d:List V):Prop :=
 Rd H a (.lst d) ∨
  ∃(o:Obj)(b:Array IR)(n:Nat),K.lookup a=Y o/\o.cls=.type "list" ∧ o.dict=M/\o.data=.seq b n/\b.size<=FS/\aI d b.toList
def FX(K:Wv)(H:Hp)(a:GM)(d:List V):Prop :=
 Rd H a (.tup d) ∨
  ∃(o:Obj)(b:Array IR)(n:Nat),K.lookup a=Y o/\o.cls=.type "tuple" ∧ o.data=.seq b n/\b.size<=FS/\aI d b.toList
noncomputable def DU:IR->Option V
 |.none=>Y .non
 |.bool b=>Y (.bl b)
 |.int i _=>Y (.int i)
 |.str x _=>Y (.str x)
 |.bytes b _=>Y (.byt b)
 |.float b _=>Y (.flt b)
 |.ref a=>Y (.ref a)
 |.type n=>Y (.ty n)
 |_=>M
def RelV.abs(r:RelV x u):DU u=Y x:=by
 cases x with
 |non=>cases r;rfl
 |bl _=>cases r;rfl
 |int _=>obtain⟨t,rfl⟩:=r;rfl
 |str _=>obtain⟨t,rfl⟩:=r;rfl
 |byt _=>obtain⟨t,rfl⟩:=r;rfl
 |flt _=>obtain⟨t,rfl⟩:=r;rfl
 |ref _=>cases r;rfl
 |ty _=>cases r;rfl
def RelV.inj(r:RelV x u)(q:RelV y u):x=y:=Zo (r.abs.symm.trans q.abs)
theorem aI.inj:∀{b a:List V}{d:Wh},aI b d->aI a d->b=a
 |_,_,_,.nil,.nil=>rfl
 |_,_,_,.cons r t,.cons f e=>by rw[r.inj f,aI.inj t e]
section
def EW.of{K:Wv}(h:H a=Y (.lst xs)):EW K H a xs:=.inl (.inl h)
def FX.of{K:Wv}(h:H a=Y (.tup xs)):FX K H a xs:=.inl (.inl h)
def Inv.list(I:Inv X pins R H s)(h:EW X.K H a xs):∃b:Wh,aI xs b/\PlainL s.heap a b.toArray/\xs.length<=sizeLine:=by
 rcases h with h | ⟨o,b,n,f,g,hd,d,i,r⟩
 ·obtain⟨z,b,n,r,e⟩:=h.ok I.Eg;exact⟨b,r,⟨_,n,e,rfl,rfl,rfl⟩,z⟩
 ·refine⟨b.toList,r,⟨o,n,I.Fc a o f,g,hd,by simpa using d⟩,?_⟩;have e:=r.length;simp only[YQ]at e;lia
def Inv.tuple(I:Inv X pins R H s)(h:FX X.K H a xs):∃b:Wh,aI xs b/\IsTup s.heap a b.toArray/\xs.length<=sizeLine:=by
 rcases h with h | ⟨o,b,n,f,g,d,i,r⟩
 ·obtain⟨z,b,r,_,p⟩:=h.ok I.Eg;exact⟨b,r,p,z⟩
 ·refine⟨b.toList,r,⟨o,I.Fc a o f,g,n,by simpa using d⟩,?_⟩;have e:=r.length;simp only[YQ]at e;lia
def Inv.Jj(I:Inv X pins R H s)(h:EW X.K H a xs)(j:EW X.K H a ys):xs=ys:=by
 obtain⟨i,r,⟨o,n,e,_,_,d⟩,_⟩:=I.list h;obtain⟨l,g,⟨m,p,b,_,_,f⟩,_⟩:=I.list j;rw[e]at b;cases b;rw[d]at f;injection f with d1 _
 have:i=l:=by simpa using congrArg Array.toList d1
 subst this;exact r.inj g
def Inv.Iw(I:Inv X pins R H s)(h:FX X.K H a xs)(j:FX X.K H a ys):xs=ys:=by
 obtain⟨i,r,⟨o,e,_,n,d⟩,_⟩:=I.tuple h;obtain⟨l,g,⟨m,b,_,p,f⟩,_⟩:=I.tuple j;rw[e]at b;cases b;rw[d]at f;injection f with d1 _
 have:i=l:=by simpa using congrArg Array.toList d1
 subst this;exact r.inj g
end
noncomputable abbrev Cx.E8(X:Cx)(E:Z0):Cx:={ X with xe:=E }
abbrev Cx.EO(X:Cx):Cx:=X.E8 λ_ _=>False
theorem Cx.Ok.E8{X:Cx}(a:X.Ok)(E:Z0):(X.E8 E).Ok :=
 ⟨a.mod,a.kind,a.glob,a.blt,a.above,a.inj,a.has,a.Kr,a.hd,a.frames,a.JA,a.M0,a.tb,a.bs,a.IG,a.Hz,a.HU,a.Fd,a.Ju⟩
def Cx.Ok.Em{X:Cx}(a:(X.E8 E).Ok):X.Ok :=
 ⟨a.mod,a.kind,a.glob,a.blt,a.above,a.inj,a.has,a.Kr,a.hd,a.frames,a.JA,a.M0,a.tb,a.bs,a.IG,a.Hz,a.HU,a.Fd,a.Ju⟩
section
theorem Inv.E8(I:Inv X pins R H s)(E:Z0):Inv (X.E8 E) pins R H s:=⟨I.ok.E8 E,I.os,I.bare,I.base,I.loc,I.cell,I.free,I.Ey,I.pin,I.Eg,I.len⟩
theorem Inv.Em{X:Cx}(I:Inv (X.E8 E) pins R H s):Inv X pins R H s:=⟨I.ok.Em,I.os,I.bare,I.base,I.loc,I.cell,I.free,I.Ey,I.pin,I.Eg,I.len⟩
theorem SP.Em{X:Cx}(h:SP (X.E8 E) pins D f d):SP X pins D f d:=by
 cases f with
 |next=>obtain⟨a,b,I,q⟩:=h;exact⟨a,b,I.Em,q⟩
 |brk=>obtain⟨a,b,I,q⟩:=h;exact⟨a,b,I.Em,q⟩
 |cont=>obtain⟨a,b,I,q⟩:=h;exact⟨a,b,I.Em,q⟩
 |ret u=>obtain⟨v,a,b,I,r,q⟩:=h;exact⟨v,a,b,I.Em,r,q⟩
theorem PE.EO{X:Cx}(h:PE X.EO e t):PE X e t:=λpins s R H Q I hw =>
 Z6 (h pins s R H Q (I.E8 _) hw) (λ_ _ ⟨v,b,a,r,q⟩=>⟨v,b,a.Em,r,q⟩) λ_ _ z=>False.elim z
theorem PT.EO{X:Cx}(h:PT X.EO e t):PT X e t:=λpins s R H Q I hw =>
 Z6 (h pins s R H Q (I.E8 _) hw) (λ_ _ ⟨b,a,q⟩=>⟨b,a.Em,q⟩) λ_ _ z=>False.elim z
theorem Gi.EO{X:Cx}(h:Gi X.EO a t):Gi X a t:=λpins s R H D I hw =>
 Z6 (h pins s R H D (I.E8 _) hw) (λ_ _ q=>q.Em) λ_ _ z=>False.elim z
end
section
variable{st:Stmt}
noncomputable def CD:TS:=λD R H=>D.nx R H
noncomputable def Eb(t u:TS):TS:=λD R H=>t { D with nx:=u D } R H
def yb:Gi X [] CD:=λ_ _ R H _ I h=>Xe ⟨R,H,I,h⟩
def oV{X:Cx}{rest:List Stmt}{t u:TS}(g:PS X st t)(d:Gi X rest u):Gi X (st :: rest) (Eb t u):=by
 intro a s R H D I h;refine wpAny_execs_cons (thn (g a s R H { D with nx:=u D } I h) λf b q=>?_);cases f with
 |next =>
  obtain⟨i,l,j,q⟩:=q;exact d a b i l D j q
 |ret v=>exact q
 |brk=>exact q
 |cont=>exact q
def au(b:PS X st t):Gi X [st] t:=by
 intro a s R H D I h;refine wpAny_execs_cons (thn (b a s R H D I h) λf d q=>?_);cases f with
 |next=>exact Xe q
 |ret v=>exact q
 |brk=>exact q
 |cont=>exact q
def Inv.quiet(I:Inv X a R H s):interactive X.env=O:=by simp[interactive,I.ok.kind]
noncomputable def Dv(a:TE):TS:=λD R H=>a R H λ_ b=>D.nx R b
def gf{pos:Pos}(he:PE X e te)(b:{`q2,swapsWith e M pos.line X.env=pure O}):PS X (.Expr e pos) (Dv te):=by
 intro a s R H D I h;exact wpAny_Expr_any (thn (he a s R H _ I h) λv g ⟨x,f,d,r1,q1⟩=>⟨R,f,d,q1⟩) I.quiet b
noncomputable def DK(a:TE):TS:=λD R H=>a R H D.rt
def ny(he:PE X e te):PS X (.Return (Y e) pos) (DK te):=by
 intro a s R H D I h;refine wpAny_Return_some (thn (he a s R H _ I h) λv g b=>?_);obtain⟨x,f,d,r1,q1⟩:=b;exact⟨x,R,f,d,r1,q1⟩
noncomputable def D3(c:TT)(t u:TS):TS:=λD R H=>c R H λb a=>if b=Z then t D R a else u D R a
def zE(m:PT X c g)(o:Gi X a t)(n:Gi X b u):PS X (.If c a b pos) (D3 g t u):=by
 intro f s R H D I h;refine wpAny_If (thn (m f s R H _ I h) λd i p=>?_);obtain⟨l,j,q1⟩:=p;cases d with
 |true=>exact o f i R l D j q1
 |false=>exact n f i R l D j q1
end
abbrev TG:=V->St->Hp->(St->Hp->Prop)->Prop
def PG(X:Cx)(a:Expr)(t:TG):Prop :=
 ∀(b:Xj)(s:FB)(R:St)(H:Hp)(v:V)(u:IR)(Q:St->Hp->Prop),Inv X b R H s->RelV v u->t v R H Q →
  KB (FM X.prog X.w) X.A (assign a X.env u) (λ_ f=>∃d e,Inv X b d e f/\Q d e) X.xe s
abbrev xU:=V->V->V->Hp->(Hp->Prop)->Prop
def BS(X:Cx)(t:xU):Prop :=
 ∀(a:Xj)(s:FB)(R:St)(H:Hp)(o i v:V)(b iv u:IR)(Q:Hp->Prop),Inv X a R H s->RelV o b->RelV i iv->RelV v u->t o i v H Q →
  KB (FM X.prog X.w) X.A (setItem b iv u) (λ_ e=>∃d,Inv X a R d e/\Q d) X.xe s
section
noncomputable def Ac(i:Nat):TG:=λv R H Q=>Q (R.set i (Y v)) H
def zq{X:Cx}(f:X.N.Nodup)(d:X.N[i]?=Y x)(b:Loc X.env.scope x)(e:{`q0,X.fn x=Z\/X.env.scope.names.lookup x=Y .local}):PG X (.Name x pos) (Ac i):=by
 intro a s R H v u Q I r h;exact wpAny_assign_Name (ju I f d b r (λj g=>⟨_,H,g,h⟩) e)
noncomputable def Do(a b:TE)(t:xU):TG:=λv R H Q=>a R H λo f=>b R f λi e=>t o i v e λd=>Q R d
def nK(p:PE X o e)(q:PE X i f)(n:BS X t)(w:{`q3,∀v,assign (.Subscript o i pos) X.env v=(do
   let b ← holding [v] (eval o X.env)
   let iv ← holding [v,b] (eval i X.env)
   standAt pos
   holding [v,b,iv] (setItem b iv v)
   release [v,b,iv] [])}):PG X (.Subscript o i pos) (Do e f t):=by
 intro a s R H v u Q I r h;rw[w];refine Zq (YC (thn (p a s R H _ I h) λb j d=>?_));obtain⟨x,E,B,r1,q1⟩:=d;refine Zq (YC (thn (q a j R E _ B q1) λiv g d=>?_));obtain⟨y,D,A,r2,m⟩:=d;refine Zq (wpAny_standAt (Zq (YC (thn (n a g R D x y v b iv u _ A r1 r2 r m) λ_ F d=>?_))));obtain⟨C,z,l⟩:=d;exact wpAny_release ⟨R,C,z,l⟩
noncomputable def CU(a:TE)(g:TG):TS:=λD R H=>a R H λx b=>g x R b D.nx
def oK{pos:Pos}(he:PE X e d)(j:PG X b g)(i:{`q2,swapsWithSole [b] e pos.line X.env=pure O})(hw:{`q2,swappedStores [b] e X.env=pure M})(m:{`q2,(assignEach [b] X.env).map (·.2)=[assign b X.env]}):PS X (.Assign [b] e pos) (CU d g):=by
 intro a s R H D I h;refine wpAny_Assign_stores (thn (he a s R H _ I h) λv f l=>?_) i hw;obtain⟨x,o,n,r1,q1⟩:=l;rw[m];exact thn (j a f R o x v _ n r1 q1) λ_ p q=>q
def qx{X:Cx}{pos:Pos}(n:X.N.Nodup)(j:X.N[i]?=Y x)(f:Loc X.env.scope x)(he:PE X e d)(g:{`q2,swapsWith e (Y (.Name x a)) pos.line X.env=pure O})(l:{`q0,X.fn x=Z\/X.env.scope.names.lookup x=Y .local}) :
  PS X (.Assign [.Name x a] e pos) (CU d (Ac i)):=by
 intro b s R H D I h;refine wpAny_Assign_Name (thn (he b s R H _ I h) λv t m=>?_) g;obtain⟨y,q,p,r1,q1⟩:=m;exact ju p n j f r1 (λr o=>⟨_,q,o,q1⟩) l
end
section
def Al(c:TT)(g:TS):TS:=λD R H=>∃W:Nat->St->Hp->Prop,(∃m,W m R H)/\∀m R H,W m R H →
 c R H λb e=>if b=Z then ∃N:St->Hp->Prop,(∀d f,N d f->∃a,a<m/\W a d f)/\g { D with nx:=N,ct:=N,bk:=D.nx } R e else D.nx R e
def vP{X:Cx}(x:PassesOwn (FM X.prog X.w) X.A X.env X.xe)(S:PT X c t)(U:Gi X d u):PS X (.While c d [] pos) (Al t u):=by
 intro a s R H D I h;obtain⟨W,⟨m0,G⟩,turn⟩:=h;refine wpAny_While (codeAny_whileLoop (λn Q=>∃y E,Inv X a y E Q/\W n y E) ?_ m0 ⟨R,H,I,G⟩);rintro n P ⟨l,C,I1,F⟩;refine YF x (thn (S a P l C _ I1 (turn n l C F)) λb J h_=>?_);obtain⟨B,z,j⟩:=h_;cases b with
 |true =>
  obtain⟨N,hN,j⟩:=j;rw[Zr L];refine YF x (thn (U a J l B _ z j) λf s3 i=>?_);cases f with
  |next =>
   obtain⟨e,g,r,o⟩:=i;obtain⟨p,q,m⟩:=hN e g o;exact⟨p,q,e,g,r,m⟩
  |cont =>
   obtain⟨e,g,r,o⟩:=i;obtain⟨p,q,m⟩:=hN e g o;exact⟨p,q,e,g,r,m⟩
  |brk=>exact i
  |ret v=>exact i
 |false =>
  rw[Zp Zh];exact Xe ⟨l,B,z,j⟩
end
structure It where
 go:Nat->Hp->Prop
 Nm:Nat->Hp->V->Hp->Prop
 stop:Nat->Hp->Prop
def mD(X:Cx)(a:Xj)(H:Hp)(b:GM):Prop :=
 H b=M/\b≠X.env.locals/\b∉X.fs/\(b∈X.ex\/X.s₀.heap.objs.size<=b)/\(∀x c,X.env.cells.lookup x=Y c->c≠b)/\∀p∈X.pn++a,p.1≠b
def Inv.JY(I:Inv X a R H s)(d:s.heap.objs.size<=b)(h:f b=M):mD X a f b:=by
 refine⟨h,Wt (ZY I.lt d),I.OC d,.inr (ZF I.sz d),λx c e z=>?_,λp g z=>?_⟩
 ·obtain⟨v,q⟩:=I.cell x c e;exact absurd (ZY q.lt (by rw[z];exact d)) (Yi _)
 ·exact absurd (ZY (ZS (I.pin p g).1) (by rw[z];exact d)) (Yi _)
structure Turn(P:PP)(w:SC)(K:Wv)(tg:Expr)(Jq:It)(fp:Wi)(it:GM)(tn:Nat->Re->Prop):Prop where
 mem:it∈fp
 obj:∀i h,tn i h->∀b∈fp,∃o,h.get? b=some o/\∀v,o.data ≠ .cell v
 keep:∀i h h',tn i h->(∀b∈fp,∀o,h.get? b=some o->h'.get? b=some o)->tn i h'
 item:∀(X:Cx),X.prog=P->X.w=w->X.K=K->X.calm=true->∀(i:Nat)(pins:Xj)(s:FB)(R:St)(H:Hp)(E:Z0),Inv X pins R H s->(∀b∈fp,mD X pins H b)->tn i s.heap->Jq.go i H →
  KB (FM P w) X.A (pyNext (.ref it)) (λr s1=>∃u,r=some u ∧
   KB (FM P w) X.A (letOwnedTupleGo tg (.ref it) u) (λ_ s2=>∃x H',Inv X pins R H' s2/\RelV x u/\Jq.Nm i H x H'/\tn (i+1) s2.heap/\∀b∈fp,H' b=none) E s1) E s
 done:∀(X:Cx),X.prog=P->X.w=w->X.K=K->X.calm=true->∀(i:Nat)(pins:Xj)(s:FB)(R:St)(H:Hp)(E:Z0),Inv X pins R H s->(∀b∈fp,mD X pins H b)->tn i s.heap->Jq.stop i H →
  KB (FM P w) X.A (pyNext (.ref it)) (λr s1=>r=none/\Inv X pins R H s1) E s
 self:∀(A:Pi)(i:Nat)(s:FB)(Q:Z0)(E:Z0),tn i s.heap->Q (.ref it) s->KB (FM P w) A (pyIter (.ref it)) Q E s
abbrev TI:=St->Hp->(It->Hp->Prop)->Prop
def Ry(X:Cx)(a:Xj)(R:St)(h:Expr)(i:It->Hp->Prop)(j:IR)(f:FB):Prop :=
 ∃(it:GM)(fp:Wi)(e:Nat->Re->Prop)(g:It)(d:Hp),j=.ref it/\Inv X a R d f/\Turn X.prog X.w X.K h g fp it e/\e 0 f.heap/\(∀b∈fp,mD X a d b)/\i g d
def PI(X:Cx)(f b:Expr)(e:TI):Prop :=
 ∀(a:Xj)(s:FB)(R:St)(H:Hp)(d:It->Hp->Prop),Inv X a R H s->e R H d →
  KB (FM X.prog X.w) X.A (eval b X.env) (λv g=>KB (FM X.prog X.w) X.A (pyIter v) (Ry X a R f d) X.xe g) X.xe s
def pV{M:Model}{s:FB}(f:s.heap.get? e=Y o)(j:o.cls=.type n)(i:o.data=.fields b)(g:["enumerate", "zip", "dict_itemiterator", "dict_reverseitemiterator", "odict_iterator", "itertools.zip_longest", "itertools.pairwise"].contains n=O)(a:Q () s):KB M A (letOwnedTupleGo d (.ref e) u) Q E s:=by
 cases d<;>first
  |exact Za a
  | (cases u<;>first
    |exact Za a
    | (refine Zq (wpAny_load f ?_)
       rw[j,i];show KB M A (if (["enumerate", "zip", "dict_itemiterator", "dict_reverseitemiterator", "odict_iterator", "itertools.zip_longest", "itertools.pairwise"].contains n&&b[0]? == Y (rawInt _))=Z then _ else _) Q E s;rw[Zp (by intro h;rw[g,Bool.false_and]at h;cases h)];exact Za a))
def PM(K:Wv)(a:GM):It :=
 ⟨λi H=>∃b x,EW K H a b/\b[i]?=Y x,λi H x d=>d=H/\∀b,EW K H a b->b[i]?=Y x,λi H=>∃b,EW K H a b/\b.length<=i⟩
def PL(K:Wv)(a:GM):It :=
 ⟨λi H=>∃b x,FX K H a b/\b[i]?=Y x,λi H x d=>d=H/\∀b,FX K H a b->b[i]?=Y x,λi H=>∃b,FX K H a b/\b.length<=i⟩
noncomputable def N5(a:Int)(n:Nat):It:=⟨λi _=>i<n,λi H x b=>b=H/\x=.int (a+i),λi _=>n<=i⟩
def uk{P:PP}{w:SC}{K:Wv}{L:Expr}(a f:GM):Turn P w K L (PM K a) [f] f (λi h=>h.IsListIter f a i) where
 mem:=by simp
 obj:=λi h st b hb=>by
  have e:b=f:=by simpa using hb
  subst e;obtain⟨o,e,c,d⟩:=st;exact⟨o,e,λv z=>by rw[d]at z;cases z⟩
 keep:=λi h F st k=>st.at λo e=>k f (by simp) o e
 item:=by
  intro X r hw t D i g s R H E I l st hg;refine L2.ak λP_ n=>?_;subst r hw t;obtain⟨J,x,j,q⟩:=hg;obtain⟨S,m,p,U⟩:=I.list j;obtain⟨u,hu,Q⟩:=m.get q;obtain⟨C,f1,f2,B,A,y⟩:=l f (by simp);refine n ?_;refine wpAny_pyNext_list_item st p.isList (x:=u) (by simpa using hu) λF G N=>?_;obtain⟨o,e,c,d⟩:=id G;exact⟨u,rfl,pV e c d (by decide) ⟨x,H,(I.turned (t':=s.toks) (λb o hb e=>(N.2 b hb).trans e) C f1 B A y),Q,⟨rfl,λys hy=>by rw[I.Jj hy j];exact q⟩,G,λb hb=>(l b hb).1⟩⟩
 done:=by
  intro X r hw t D i g s R H E I l st hg;refine L2.ak λP_ n=>?_;subst r hw t;obtain⟨J,j,q⟩:=hg;obtain⟨S,m,p,U⟩:=I.list j;obtain⟨C,f1,f2,B,A,y⟩:=l f (by simp);refine n ?_;have hl:=m.length;exact wpAny_pyNext_list_end (I.ok.hd D) st p.isList (by simp;lia) λF eb=>⟨rfl,I.turned (λb o hb e=>eb b o hb e) C f1 B A y⟩
 self:=λ_ _ _ _ _ st h=>wpAny_pyIter_listiter st h
def qE{P:PP}{w:SC}{K:Wv}{L:Expr}(a f:GM):Turn P w K L (PL K a) [f] f (λi h=>h.IsTupleIter f a i) where
 mem:=by simp
 obj:=λi h st b hb=>by
  have e:b=f:=by simpa using hb
  subst e;obtain⟨o,e,c,d⟩:=st;exact⟨o,e,λv z=>by rw[d]at z;cases z⟩
 keep:=λi h F st k=>st.at λo e=>k f (by simp) o e
 item:=by
  intro X r hw t D i g s R H E I l st hg;refine L2.ak λP_ n=>?_;subst r hw t;obtain⟨J,x,j,q⟩:=hg;obtain⟨S,m,p,U⟩:=I.tuple j;obtain⟨u,hu,Q⟩:=m.get q;obtain⟨C,f1,f2,B,A,y⟩:=l f (by simp);refine n ?_;refine wpAny_pyNext_tuple_item st (p) (x:=u) (by simpa using hu) λF G N=>?_;obtain⟨o,e,c,d⟩:=id G;exact⟨u,rfl,pV e c d (by decide) ⟨x,H,(I.turned (t':=s.toks) (λb o hb e=>(N.2 b hb).trans e) C f1 B A y),Q,⟨rfl,λys hy=>by rw[I.Iw hy j];exact q⟩,G,λb hb=>(l b hb).1⟩⟩
 done:=by
  intro X r hw t D i g s R H E I l st hg;refine L2.ak λP_ n=>?_;subst r hw t;obtain⟨J,j,q⟩:=hg;obtain⟨S,m,p,U⟩:=I.tuple j;obtain⟨C,f1,f2,B,A,y⟩:=l f (by simp);refine n ?_;have hl:=m.length;exact wpAny_pyNext_tuple_end (I.ok.hd D) st (p) (by simp;lia) λF eb=>⟨rfl,I.turned (λb o hb e=>eb b o hb e) C f1 B A y⟩
 self:=λ_ _ _ _ _ st h=>wpAny_pyIter_tupleiter st h
def qr{P:PP}{w:SC}{K:Wv}{A:Expr}(a:GM)(f:Int)(n:Nat):Turn P w K A (N5 f n) [a] a (λi h=>IsRangeIter h a (f+(i:Nat)*1) ((n:Int)-(i:Nat)) 1) where
 mem:=by simp
 obj:=λi h st b hb=>by
  have e:b=a:=by simpa using hb
  subst e;exact⟨_,st,λv z=>by
   cases z⟩
 keep:=λi h x st k=>k a (by simp) _ st
 item:=by
  intro X l hw m j i d s R H E I g st hg;subst l hw m;obtain⟨u,f1,f2,r,q,p⟩:=g a (by simp);refine(Walks.range (prog:=X.prog) (w:=X.w) (I.ok.hd j) a f 1 n).item i s _ _ hg st λv x F C y B=>?_;obtain⟨t,rfl⟩:=C;refine⟨_,rfl,pV y L L (by decide) ⟨.int (f+i),H,(I.turned (λb o hb e=>B b o (by simpa using hb) e) u f1 r q p),⟨t,?_⟩,⟨rfl,rfl⟩,y,λb hb=>(g b hb).1⟩⟩;rw[Int.mul_one]
 done:=by
  intro X l hw m j i d s R H E I g st hg;subst l hw m;obtain⟨u,f1,f2,r,q,p⟩:=g a (by simp);exact wpAny_pyNext_range_end (I.ok.hd j) st (by have:n<=i:=hg;lia) λx D=>⟨rfl,I.turned (λb o hb e=>D b o hb e) u f1 r q p⟩
 self:=λ_ _ _ _ _ st h=>wpAny_pyIter_rangeiter st h
section
def vE{a f:Int}(I:Inv X d R H s)(n:-(2 ^ 62)<=a)(m:a<2 ^ 62)(l:-(2 ^ 62)<=f)(j:f<2 ^ 62)(q:i (N5 a (f-a).toNat) H):KB (FM X.prog X.w) X.A (pyIter (.ref s.heap.objs.size)) (Ry X d R tg i) E { s with heap:=s.heap.push { cls:=.type "range",data:=.fields #[.int a t,.int f u,.int 1 v] },toks:=g }:=by
 refine wpAny_pyIter_range (IsRange.new ..) (small_one n m l j) ?_;have h:Inv X d R H { s with heap:=s.heap.push { cls:=.type "range",data:=.fields #[.int a t,.int f u,.int 1 v] },toks:=g }:=I.kept λb o e=>Zl _ e;refine⟨(s.heap.push { cls:=.type "range",data:=.fields #[.int a t,.int f u,.int 1 v] }).objs.size,[(s.heap.push { cls:=.type "range",data:=.fields #[.int a t,.int f u,.int 1 v] }).objs.size],_,_,H,rfl,
  h.kept (t':=g) λb o e=>Zl _ e,qr _ a (f-a).toNat,?_,λb hb=>?_,q⟩
 ·have e1:a+((0:Nat):Int)*1=a:=by simp
  have e2:(((f-a).toNat:Nat):Int)-((0:Nat):Int)=Builtin.Range.rangeSize a f 1:=by rw[rangeSize_one];split<;>lia
  rw[e1,e2];exact ZR _ L
 ·have e:b=(s.heap.push { cls:=.type "range",data:=.fields #[.int a t,.int f u,.int 1 v] }).objs.size:=by simpa using hb
  subst e;exact h.JY (Zj _) (h.Eg.fresh (Zj _))
def Ds(ta:TA):TI:=λR H b=>ta R H λa d=>∃j:Int,a=[.int j]/\-(2 ^ 62)<=j/\j<2 ^ 62/\b (N5 0 j.toNat) d
def tV(n:Gl X "range")(m:X.mg "range" = M)(o:PA X [a] f)(l:{`q2,KM [a] X.env=[(O,eval a X.env)]}):PI X tg (.Call (.Name "range" p) [a] [] b) (Ds f):=by
 intro d s R H z I h;refine Call_ (nF I n m boot_range (PyProof.Rows.callWith_type1 (thn (o b d s R H _ I h) λx y u=>?_) l L));obtain⟨w,A,v,r1,q1⟩:=u;obtain⟨j,e,q1,i,q⟩:=q1;subst e;cases r1 with
 |cons r g =>
  cases g;obtain⟨t,rfl⟩:=r;exact call_range_1 (vE v (by lia) (by lia) q1 i (by simpa using q))
def Am(f:TI)(g:TG)(h:TS):TS:=λD R H=>f R H λb n=>∃W:Nat->Nat->St->Hp->Prop,(∃m,W 0 m R n)/\∀i m R H,W i m R H →
 (b.stop i H/\D.nx R H)\/(b.go i H/\∃N:St->Hp->Prop,(∀e a,N e a->∃d,d<m/\W (i+1) d e a)/\∀x a,b.Nm i H x a->g x R a λj l=>h { D with nx:=N,ct:=N,bk:=D.nx } j l)
noncomputable def lJ(a:Wi)(h:Re):Xj:=a.filterMap λb=>(h.get? b).map λo=>(b,o)
def gM{h:Re}(d:b∈a)(e:h.get? b=Y o):(b,o)∈lJ a h:=List.mem_filterMap.mpr ⟨b,d,by rw[e];rfl⟩
def ue(d:p∈lJ a h):p.1∈a/\h.get? p.1=Y p.2:=by
 obtain⟨b,hb,e⟩:=List.mem_filterMap.mp d;cases q:h.get? b with
 |none=>rw[q]at e;cases e
 |some o =>
  rw[q]at e;have f:=Zo e;subst f;exact⟨hb,q⟩
def Inv.pinned(I:Inv X a R H s)(j:∀b∈f,mD X a H b)(i:∀b∈f,∃o,s.heap.get? b=Y o/\∀v,o.data ≠ .cell v):Inv X (a++lJ f s.heap) R H s :=
 I.Ii λp h=>(Zc.mp h).elim (λz=>I.pin p (ZK _ z)) λz=>by
  obtain⟨hb,e⟩:=ue z;obtain⟨l,f1,f2,_⟩:=j p.1 hb;obtain⟨o,g,d⟩:=i p.1 hb;rw[e]at g;cases g;exact⟨e,l,f1,f2,d⟩
def Inv.FI(I:Inv X (a++b) R H s):Inv X a R H s:=I.Ii λp d=>I.pin p (ZK _ (Z3 _ d))
def wm{X:Cx}(F:PassesOwn (FM X.prog X.w) X.A X.env X.xe)(hc:X.calm=Z)(hi:PI X tg j wi)(hg:PG X tg g)(l:Gi X B tb)(hs:{`q3,∀x,SZ j X.env x=pure x}):PS X (.For tg j B [] S) (Am wi g tb):=by
 intro a s R H D I h;refine wpAny_For (thn (hi a s R H _ I h) λv s1 h1=>thn h1 λOJ s2 h2=>?_) hs;refine L2.ak λP_ k_=>?_;obtain⟨it,fp,tn,Jq,H2,e,I2,T,Nu,f2,W,⟨m0,w0⟩,turn⟩:=h2;subst e;refine k_ ?_;have HN:∀{y:Hp},(∀b∈fp,y b=M)->∀b∈fp,mD X a y b:=λhn b l=>⟨hn b l,(f2 b l).2⟩
 refine codeAny_forLoop_any (λn s'=>∃i J y,Inv X a J y s'/\tn i s'.heap/\(∀b∈fp,y b=M)/\W i n J y) ?_ m0 ⟨0,R,H2,I2,Nu,λb l=>(f2 b l).1,w0⟩;rintro n s3 ⟨i,G,P,I3,Kd,MW,w3⟩;rcases turn i n G P w3 with⟨stop,qn⟩ | ⟨go,N,hN,step⟩
 ·refine YF F (thn (T.done X L L L hc i a s3 G P X.xe I3 (HN MW) Kd stop) λr s4 C=>?_);obtain⟨U,I4⟩:=C;subst U;exact Xe ⟨G,P,I4,qn⟩
 ·refine YF F (thn (T.item X L L L hc i a s3 G P X.xe I3 (HN MW) Kd go) λr s4 C=>?_);obtain⟨u,U,h4⟩:=C;subst U;refine YF F (thn h4 λ_ s5 C=>?_);obtain⟨x,H5,I5,r5,y5,Kx,Pb⟩:=C;refine YF F (thn (hg _ s5 G H5 x u _ (I5.pinned (HN Pb) (T.obj _ _ Kx)) r5 (step x H5 y5)) λ_ s6 C=>?_);obtain⟨R6,H6,I6,q6⟩:=C;refine YF F (thn (l _ s6 R6 H6 _ I6 q6) λf Q z=>?_);have again:∀{p:St}{t:Hp},Inv X (a++lJ fp s5.heap) p t Q->N p t->∃m,m<n/\∃i J y,Inv X a J y Q/\tn i Q.heap/\(∀b∈fp,y b=M)/\W i m J y:=λ{p t} q E=>by
   obtain⟨m',hm,w7⟩:=hN p t E;refine⟨m',hm,i+1,p,t,q.FI,T.keep _ _ _ Kx λb l o e=>(q.pin (b,o) (ZK _ (ZK _ (gM l e)))).1,λb l=>?_,w7⟩;obtain⟨o,e,d⟩:=T.obj _ _ Kx b l;exact(q.pin (b,o) (ZK _ (ZK _ (gM l e)))).2.1
  cases f with
  |next=>obtain⟨p,t,q,E⟩:=z;exact again q E
  |cont=>obtain⟨p,t,q,E⟩:=z;exact again q E
  |brk=>obtain⟨p,t,q,z⟩:=z;exact⟨p,t,q.FI,z⟩
  |ret v=>obtain⟨x7,p,t,q,r7,z⟩:=z;exact⟨x7,p,t,q.FI,r7,z⟩
end
abbrev Fo:=V->V->Hp->VK->Prop
def OpR(X:Cx)(f:IR->IR->Sem IR)(r:Fo):Prop :=
 ∀(a:Xj)(s:FB)(R:St)(H:Hp)(x y:V)(v u:IR)(Q:VK),Inv X a R H s->RelV x v->RelV y u->r x y H Q →
  KB (FM X.prog X.w) X.A (f v u) (EP X a R Q) X.xe s
def UnR(X:Cx)(f:IR->Sem IR)(r:V->Hp->VK->Prop):Prop :=
 ∀(a:Xj)(s:FB)(R:St)(H:Hp)(x:V)(v:IR)(Q:VK),Inv X a R H s->RelV x v->r x H Q →
  KB (FM X.prog X.w) X.A (f v) (EP X a R Q) X.xe s
def da(X:Cx)(f:IR)(r:List V->Hp->VK->Prop):Prop :=
 ∀(a:Xj)(s:FB)(R:St)(H:Hp)(b:List V)(d:Wh)(Q:VK),Inv X a R H s->aI b d->r b H Q →
  KB (FM X.prog X.w) X.A (call f d) (EP X a R Q) X.xe s
def DX(X:Cx)(r:V->Hp->(Bool->Hp->Prop)->Prop):Prop :=
 ∀(a:Xj)(s:FB)(R:St)(H:Hp)(x:V)(v:IR)(Q:Bool->Hp->Prop),Inv X a R H s->RelV x v->r x H Q →
  KB (FM X.prog X.w) X.A (truthy v) (TP X a R Q) X.xe s
noncomputable def Mj(r:Fo)(ta a:TE):TE:=λR H Q=>ta R H λx d=>a R d λy b=>r x y b Q
noncomputable def RO(r:V->Hp->VK->Prop)(ta:TE):TE:=λR H Q=>ta R H λx a=>r x a Q
noncomputable def rI(C:Int->Int->Prop)(g:Int->Int->V):Fo:=λx y H Q=>∃i j,x=.int i/\y=.int j/\C i j/\Q (g i j) H
noncomputable def Ig(g:Int->Int->V):Fo:=λx y H Q=>∃i j,x=.int i/\y=.int j/\Q (g i j) H
noncomputable def rU(g:Int->V):V->Hp->VK->Prop:=λx H Q=>∃i,x=.int i/\Q (g i) H
section
def Bn{X:Cx}{a b:Expr}{ta tb:TE}(t:PE X a ta)(r:PE X b tb){d:Xj}{s:FB}{R:St}{H:Hp}{l:V->V->Hp->Prop}(I:Inv X d R H s)(h:ta R H λx j=>tb R j λy e=>l x y e){Q:Z0}{f:IR->IR->Sem IR}(q:∀v u g x y e,Inv X d R e g->RelV x v->RelV y u->l x y e->KB (FM X.prog X.w) X.A (f v u) Q X.xe g) :
  KB (FM X.prog X.w) X.A (eval a X.env) (λv n=>KB (FM X.prog X.w) X.A (eval b X.env) (λu m=>KB (FM X.prog X.w) X.A (f v u) Q X.xe m) X.xe n) X.xe s:=by
 refine thn (t d s R H _ I h) λv o i=>?_;obtain⟨x,j,B,r1,q1⟩:=i;refine thn (r d o R j _ B q1) λu g i=>?_;obtain⟨y,e,z,r2,p⟩:=i;exact q v u g x y e z r1 r2 p
def Cu(j:OpR X (binaryOp e) r)(m:PE X a ta)(l:PE X b tb):PE X (.BinOp a e b pos) (Mj r ta tb):=by
 intro d s R H Q I h;exact wpAny_BinOp (Bn m l I h λv u f x y o n i g q=>j d f R o x y v u Q n i g q)
def zY(g:UnR X (unaryOp e) r)(i:PE X a ta):PE X (.UnaryOp e a pos) (RO r ta):=by
 intro d s R H Q I h;refine UnaryOp_ (thn (i d s R H _ I h) λv f j=>?_);obtain⟨x,m,l,r1,q1⟩:=j;exact g d f R m x v Q l r1 q1
def NA{X:Cx}{f:IR->IR->Sem IR}{C:Int->Int->Prop}{g:Int->Int->Int}(d:∀(i j:Int)(t u:Tok)(s:FB)(Q:Z0)(E:Z0),C i j->Q (.int (g i j) s.toks) { s with toks:=s.toks+1 }->KB (FM X.prog X.w) X.A (f (.int i t) (.int j u)) Q E s) :
  OpR X f (rI C λi j=>.int (g i j)):=by
 intro e s R H x y v u Q I n m h;obtain⟨i,j,rfl,rfl,o,q⟩:=h;obtain⟨t,rfl⟩:=n;obtain⟨l,rfl⟩:=m;exact d i j t l s _ _ o ⟨.int (g i j),H,I.tok _,⟨_,rfl⟩,q⟩
def Dr{X:Cx}{f:IR->IR->Sem IR}{g:Int->Int->Int}(d:∀(i j:Int)(t u:Tok)(s:FB)(Q:Z0)(E:Z0),Q (.int (g i j) s.toks) { s with toks:=s.toks+1 }->KB (FM X.prog X.w) X.A (f (.int i t) (.int j u)) Q E s) :
  OpR X f (Ig λi j=>.int (g i j)):=by
 intro e s R H x y v u Q I n m h;obtain⟨i,j,rfl,rfl,q⟩:=h;obtain⟨t,rfl⟩:=n;obtain⟨l,rfl⟩:=m;exact d i j t l s _ _ ⟨.int (g i j),H,I.tok _,⟨_,rfl⟩,q⟩
def xW{X:Cx}{f:IR->IR->Sem IR}{g:Int->Int->Bool}(d:∀(i j:Int)(t u:Tok)(s:FB)(Q:Z0)(E:Z0),Q (.bool (g i j)) s->KB (FM X.prog X.w) X.A (f (.int i t) (.int j u)) Q E s) :
  OpR X f (Ig λi j=>.bl (g i j)):=by
 intro e s R H x y v u Q I n m h;obtain⟨i,j,rfl,rfl,q⟩:=h;obtain⟨t,rfl⟩:=n;obtain⟨l,rfl⟩:=m;exact d i j t l s _ _ ⟨.bl (g i j),H,I,rfl,q⟩
noncomputable def Df(i j:Int):Prop:=0<j/\j<1073741824
noncomputable def CB(i j:Int):Prop:=0<=j/\j<=1000000/\i.natAbs<2 ^ 64
noncomputable def yg(i j:Int):Prop:=(-(2 ^ 64)<i/\i<2 ^ 64)\/(-(2 ^ 64)<j/\j<2 ^ 64)
def yg.ok{i j:Int}(h:yg i j):IntMulOk i j:=by
 rcases h with⟨e,d⟩ | ⟨e,d⟩
 ·exact .of_left (intBits_le_64 e d)
 ·exact .of_right (intBits_le_64 e d)
def A5:OpR X (binaryOp .Add) (Ig λi j=>.int (i+j)):=Dr λ_ _ _ _ _ _ _ q=>add_int q
def lB:OpR X (binaryOp .Sub) (Ig λi j=>.int (i-j)):=Dr λ_ _ _ _ _ _ _ q=>sub_int q
def j0:OpR X (binaryOp .Mult) (rI yg λi j=>.int (i*j)):=NA λ_ _ _ _ _ _ _ d q=>mul_int q d.ok
def yD:OpR X (binaryOp .FloorDiv) (rI Df λi j=>.int (i/j)):=NA λi j _ _ _ _ _ d q=>by
 have f:=d.1;have e:=d.2;exact floordiv_int (by lia) (by rw[Int.fdiv_eq_ediv_of_nonneg i (by lia)];exact q) (.inl (PyProof.noPylong_small (by omega)))
def AM:OpR X (binaryOp .Mod) (rI (λ_ j=>0<j) λi j=>.int (i%j)):=NA λi j _ _ _ _ _ d q=>by
 exact mod_int' (by lia) (by rw[Int.fmod_eq_emod_of_nonneg i (by lia)];exact q)
def vC:OpR X (binaryOp .Pow) (rI CB λi j=>.int (i ^ j.toNat)):=NA λ_ _ _ _ _ _ _ d q=>pow_int_small d.1 d.2.1 d.2.2 q
def RM{X:Cx}{f:IR->Sem IR}{g:Int->Int}(d:∀(i:Int)(t:Tok)(s:FB)(Q:Z0)(E:Z0),Q (.int (g i) s.toks) { s with toks:=s.toks+1 }->KB (FM X.prog X.w) X.A (f (.int i t)) Q E s) :
  UnR X f (rU λi=>.int (g i)):=by
 intro e s R H x v Q I j h;obtain⟨i,rfl,q⟩:=h;obtain⟨t,rfl⟩:=j;exact d i t s _ _ ⟨.int (g i),H,I.tok _,⟨_,rfl⟩,q⟩
def vB:UnR X (unaryOp .USub) (rU λi=>.int (-i)):=RM λ_ _ _ _ _ q=>neg_int q
end
section
def BO(I:Inv X d R H s)(q:Q (.bl k) H)(e:k=f):EP X d R Q (.bool f) s:=by
 subst e;exact⟨.bl k,H,I,rfl,q⟩
def DA:OpR X (P3 .Lt) (Ig λi j=>.bl (decide (i<j))):=xW λ_ _ _ _ _ _ _ q=>lt_int q
def CV:OpR X (P3 .LtE) (Ig λi j=>.bl (decide (i<=j))):=xW λ_ _ _ _ _ _ _ q=>le_int q
def zO:OpR X (P3 .Gt) (Ig λi j=>.bl (decide (j<i))):=xW λ_ _ _ _ _ _ _ q=>gt_int q
def zQ:OpR X (P3 .GtE) (Ig λi j=>.bl (decide (j<=i))):=xW λ_ _ _ _ _ _ _ q=>ge_int q
def t7:OpR X (P3 .Lt) (λx y H Q=>∃i j,x=.str i/\y=.str j/\Q (.bl (decide (i.cps.toList<j.cps.toList))) H):=by
 intro d s R H x y v u Q I f e h;obtain⟨i,j,rfl,rfl,q⟩:=h;obtain⟨t,rfl⟩:=f;obtain⟨g,rfl⟩:=e;exact lt_str (BO I q L)
def OpR.or(h:OpR X f r)(j:OpR X f i):OpR X f (λx y H Q=>r x y H Q\/i x y H Q):=by
 intro d s R H x y v u Q I g e q;rcases q with q | q
 ·exact h d s R H x y v u Q I g e q
 ·exact j d s R H x y v u Q I g e q
def gp(b:Expr)(h:{`q1,d ≠ .In})(e:{`q1,d ≠ .NotIn}):behindInMarks d b=O:=by
 have e1:(d==CmpOp.In)=O:=by cases d<;>first | rfl | exact absurd L h
 have e2:(d==CmpOp.NotIn)=O:=by cases d<;>first | rfl | exact absurd L e
 cases b<;>simp[behindInMarks,e1,e2]
def xY(j:OpR X (P3 e) r)(n:PE X a ta)(m:PE X b tb)(l:behindInMarks e b=O):PE X (.Compare a [e] [b] pos) (Mj r ta tb):=by
 intro d s R H Q I h;exact wpAny_Compare1 (Bn n m I h λv u f x y p o i g q=>j d f R p x y v u Q o i g q) l
noncomputable def u5(t:TE):TT:=λR H Q=>t R H λx d=>∃k,x=.bl k/\Q k d
def yB(n:OpR X (P3 f) r)(q:PE X a ta)(p:PE X b tb)(o:behindInMarks f b=O):PT X (.Compare a [f] [b] pos) (u5 (Mj r ta tb)):=by
 intro d s R H Q I h;refine wpAny_isTrue_Compare1 (thn (q d s R H _ I h) λv i ⟨x,E,B,r1,q1⟩=>thn (p d i R E _ B q1) λu g ⟨y,D,A,r2,m⟩ =>
  thn (n d g R D x y v u _ A r1 r2 m) λc F t=>?_) o
 obtain⟨z,C,w,j,k,e,l⟩:=t;subst e;cases j;exact YO ⟨C,w,l⟩
noncomputable def uX(r h:Fo)(ta g f:TE):TE:=λR H Q=>ta R H λx l=>g R l λy j=>r x y j λz d=>∃k,z=.bl k ∧
 (if k=Z then f R d λe i=>h y e i Q else Q (.bl O) d)
def vK(L:OpR X (P3 g) r)(HQ:OpR X (P3 i) j)(U:PE X a ta)(S:PE X b tb)(P:PE X c tc)(N:{`q4,lastMarks [g,i] [b,c]=O}):PT X (.Compare a [g,i] [b,c] pos) (u5 (uX r j ta tb tc)):=by
 intro f s R H Q I h;refine isTrue_chain (thn (U f s R H _ I h) λv A ⟨x,H1,I1,r1,q1⟩=>test_link (thn (S f A R H1 _ I1 q1) λu w ⟨y,H2,I2,r2,G⟩ =>
  thn (L f w R H2 x y v u _ I2 r1 r2 G) λd t h_=>?_)) N
 obtain⟨z,n,m,D,k,e,l⟩:=h_;subst e;cases D;refine YO ?_;cases k with
 |false =>
  obtain⟨k',e',J⟩:=l;cases e';exact ite_ff ⟨n,m,J⟩
 |true =>
  refine ite_tt (test_last (thn (P f t R n _ m l) λp q ⟨o,H4,I4,C,F⟩=>thn (HQ f q R H4 y o u p _ I4 r2 C F) λd' s5 ⟨z2,H5,I5,B,k2,e2,E⟩=>?_));subst e2;cases B;exact YO ⟨H5,I5,E⟩
def Bj(K:Wv)(x:V)(H:Hp)(k:Bool):Prop :=
 match x with
 |.non=>k=O
 |.bl b=>k=b
 |.int i=>k=(i != 0)
 |.str y=>y.length<=FS/\k=((y.length:Int) != 0)
 |.byt y=>y.size<=FS/\k=((y.size:Int) != 0)
 |.ref p=>(∃d,EW K H p d/\k=!d.isEmpty)\/(∃d,FX K H p d/\k=!d.isEmpty)\/∃e,H p=Y (.dK e)/\k=!e.isEmpty
 |_=>False
def qI{κ:Type}{e:List (κ×V)}{d:List (κ×IR)}(r:KV e d):(!d.isEmpty)=!e.isEmpty:=by
 cases r<;>rfl
def lx(r:aI d e):(!e.toArray.isEmpty)=!d.isEmpty:=by
 cases r<;>simp
def oa:(FS:Nat)<2 ^ 63:=by rw[Xy];decide
def Au:DX X (λx H Q=>∃k,Bj X.K x H k/\Q k H):=by
 intro n s R H x v Q I f h;obtain⟨k,e,q⟩:=h;have D:=Xy;cases x with
 |non =>
  cases f;subst e;exact truthy_none ⟨H,I,q⟩
 |bl b =>
  cases f;subst e;exact YO ⟨H,I,q⟩
 |int i =>
  obtain⟨t,rfl⟩:=f;subst e;exact PySem.P.truthy_int ⟨H,I,q⟩
 |str y =>
  obtain⟨t,rfl⟩:=f;obtain⟨B,d⟩:y.length<=FS/\k=((y.length:Int) != 0):=e;subst d;exact PySem.P.truthy_str (by lia) ⟨H,I.tok _,q⟩
 |byt y =>
  obtain⟨t,rfl⟩:=f;obtain⟨B,d⟩:y.size<=FS/\k=((y.size:Int) != 0):=e;subst d;exact PySem.W.truthy_bytes (by lia) ⟨H,I.tok _,q⟩
 |ref p =>
  cases f;have d:=e;rcases d with⟨z,g,d⟩ | ⟨z,g,d⟩ | ⟨u,g,d⟩
  ·subst d;obtain⟨A,r,l,o⟩:=I.list g;have hlen:=r.length;exact wpAny_truthy_list l.isList (by simp only[ZW];lia) ⟨H,I.tok _,by rw[lx r];exact q⟩
  ·subst d;obtain⟨A,r,l,o⟩:=I.tuple g;have hlen:=r.length;exact truthy_tuple l (by simp only[ZW];lia) ⟨H,I.tok _,by rw[lx r];exact q⟩
  ·subst d;obtain⟨o,C,j,r,m⟩:u.length<=FS/\(p==sysModules)=O/\∃j,KV u j/\s.heap.DictOf (bP X.prog X.w) p j:=I.Eg p _ g;have hlen:=Y7 r;exact wpAny_truthy_dict C m (by lia) ⟨H,I.tok _,by rw[qI r];exact q⟩
 |_=>exact(e).elim
def vL(g:PE X a ta)(he:∀whole,isTrue a X.env whole=(do let v ← whole;standAt a.pos;holding [v] (truthy v))) :
  PT X a (λR H Q=>ta R H λx e=>∃k,Bj X.K x e k/\Q k e):=by
 intro d s R H Q I h;exact isTrue_plain (thn (g d s R H _ I h) λv f ⟨x,j,i,r1,q1⟩=>Au d f R j x v Q i r1 q1) (he _)
def qR:OpR X (binaryOp .Add) (λx y H Q=>∃i j,x=.str i/\y=.str j/\i.length+j.length<=FS/\Q (.str (i++j)) H):=by
 intro d s R H x y v u Q I g f h;obtain⟨i,j,rfl,rfl,l,q⟩:=h;obtain⟨t,rfl⟩:=g;obtain⟨e,rfl⟩:=f;exact add_str (λe m=>⟨.str (i++j),H,I.tok _,⟨_,rfl⟩,q⟩) l
def vals1(r:aI [x] d):∃u,d=[u]/\RelV x u:=by
 cases r with
 |cons r1 r2=>cases r2;exact⟨_,rfl,r1⟩
def vals2(r:aI [x,y] e):∃u d,e=[u,d]/\RelV x u/\RelV y d:=by
 cases r with
 |cons r1 r2 =>
  cases r2 with
  |cons g f=>cases f;exact⟨_,_,rfl,r1,g⟩
def tP{X:Cx}(g:X.calm=Z):da X (.builtin "max") (λe H Q=>∃i j,e=[.int i,.int j]/\Q (.int (if j > i then j else i)) H):=by
 intro f s R H e m Q I r h;obtain⟨i,j,rfl,q⟩:=h;obtain⟨u,l,rfl,⟨t,rfl⟩,⟨o,rfl⟩⟩:=vals2 r;refine max_two_ints (I.ok.hd g) λp n k=>⟨_,H,I.kept k,?_,q⟩
 by_cases d:j > i
 ·rw[Zr d,Zr d];exact⟨_,rfl⟩
 ·rw[Zp d,Zp d];exact⟨_,rfl⟩
def tY{X:Cx}(g:X.calm=Z):da X (.builtin "min") (λe H Q=>∃i j,e=[.int i,.int j]/\Q (.int (if j<i then j else i)) H):=by
 intro f s R H e m Q I r h;obtain⟨i,j,rfl,q⟩:=h;obtain⟨u,l,rfl,⟨t,rfl⟩,⟨o,rfl⟩⟩:=vals2 r;refine min_two_ints (I.ok.hd g) λp n k=>⟨_,H,I.kept k,?_,q⟩
 by_cases d:j<i
 ·rw[Zr d,Zr d];exact⟨_,rfl⟩
 ·rw[Zp d,Zp d];exact⟨_,rfl⟩
def CF(K:Wv)(x:V)(H:Hp)(n:Nat):Prop :=
 match x with
 |.str y=>y.length<=FS/\n=y.length
 |.byt y=>y.size<=FS/\n=y.size
 |.ref p=>(∃d,EW K H p d/\n=d.length)\/∃d,FX K H p d/\n=d.length
 |_=>False
def wI:da X (.builtin "len") (λf H Q=>∃x n,f=[x]/\CF X.K x H n/\Q (.int n) H):=by
 intro m s R H f z Q I r h;obtain⟨x,n,rfl,e,q⟩:=h;obtain⟨u,rfl,g⟩:=vals1 r;have A:=Xy;cases x with
 |str y =>
  obtain⟨t,rfl⟩:=g;obtain⟨w,d⟩:y.length<=FS/\n=y.length:=e;subst d;exact len_str (by lia) ⟨.int _,H,I.tok _,⟨_,rfl⟩,q⟩
 |byt y =>
  obtain⟨t,rfl⟩:=g;obtain⟨w,d⟩:y.size<=FS/\n=y.size:=e;subst d;exact PySem.W.len_bytes (by lia) ⟨.int _,H,I.tok _,⟨_,rfl⟩,q⟩
 |ref p =>
  cases g;have d:=e;rcases d with⟨f,l,d⟩ | ⟨f,l,d⟩
  ·subst d;obtain⟨o,i,j,v⟩:=I.list l;have hlen:=i.length;exact Calls.call_len_list j.isList (by simp only[ZW];lia) ⟨.int f.length,H,I.tok _,⟨_,by simp only[ZW];rw[hlen]⟩,q⟩
  ·subst d;obtain⟨o,i,j,v⟩:=I.tuple l;have hlen:=i.length;exact len_tuple j (by simp only[ZW];lia) ⟨.int f.length,H,I.tok _,⟨_,by simp only[ZW];rw[hlen]⟩,q⟩
 |_=>exact(e).elim
end
structure HY(h:Re)(x dx C:GM)(mA:Wj):Prop where
 obj:h.get? x=some (PySem.W.instObj C dx)
 ns:h.Ns1 dx mA
 ne:dx≠x
def uq{h:Re}(n:h.Ns1 f d):∃b,h.get? f=Y b/\∀name,PySem.W.lookIn name b=Y (d name):=by
 obtain⟨o,m,r,i,hd,l,_,j⟩:=n;refine⟨o,i,λname=>?_⟩;have e:=j name;unfold nsFind findBy at e;rw[← Array.find?_toList]at e;unfold PySem.W.lookIn;rw[hd];dsimp only;split
 ·rename_i y q;rw[q]at e;exact congrArg Y e
 ·rename_i q;rw[q]at e;have a:m.toList.any (·.refKey)=O:=by
   rw[List.any_eq_false];intro y g;obtain⟨z,t,p⟩:=l y (Array.mem_toList_iff.mp g);simp[DictEntry.refKey,p]
  rw[Zp (by rw[a];exact Zh)];exact congrArg Y e
def HY.look(I:HY h x d C b):∃a,PySem.W.InstAt h x (PySem.W.instObj C d) C (Y a)/\∀name,PySem.W.lookIn name a=Y (b name) :=
 let ⟨a,e,f⟩:=uq I.ns
 ⟨a,⟨I.obj,rfl,rfl,e⟩,f⟩
section
variable{K:Wv}
def get_map{s:FB}(X:K.In s.heap)(I:HY s.heap x dx C mA)(g:PySem.W.plainGet K C name=Z)(e:PySem.W.hasDictIn K C=Z)(i:PySem.W.findIn K (.ref C) name=Y M)(b:mA name=Y v)(j:PySem.W.handedIn v=Z)(h:Q v { s with toks:=s.toks+1 }) :
  KB (FM prog w) A (getAttr (.ref x) name a) Q E s:=by
 obtain⟨m,l,d⟩:=I.look;exact PySem.W.get_value X l (X5 g).1 (PySem.W.findObj_own e i L (by rw[d,b])) j h
def xr{s:FB}(X:K.In s.heap)(I:HY s.heap x dx C mA)(a:PySem.W.plainGet K C name=Z)(j:PySem.W.findIn K (.ref C) name=Y (Y (.ref f)))(g:PySem.W.isFn K (.ref f)=Z)(e:mA name=M)(h:Q (.ref f,[.ref x]) s) :
  KB (FM prog w) A (getMethod (.ref x) name b) Q E s:=by
 obtain⟨d,l,i⟩:=I.look;exact PySem.W.method_fn X l (X5 a).1 (X5 a).2 j (beq_iff_eq.mp g) (by show (PySem.W.lookIn name d).map (·.isSome)=Y O;rw[i,e];rfl) h
def zk{s:FB}{e:List Str}(X:K.In s.heap)(I:HY s.heap x dx C mA)(n:PySem.W.findIn K (.ref C) "__setattr__" = Y (Y (.builtin "object.__setattr__")))(o:PySem.W.plainOver K C=Z)(m:PySem.W.takerIn K C name=Y M)(p:PySem.W.hasDictIn K C=Z)(hw:PySem.Within mA e)(d:e.length<=FS)(h:∀a,HY a x dx C (λy=>if y=name then Y v else mA y)->Heap.SameBut dx s.heap a->Q () { s with heap:=a,toks:=s.toks+2 }) :
  KB (FM prog w) A (setAttr (.ref x) name v) Q E s:=by
 obtain⟨B,i,F⟩:=I.look;refine PySem.W.set_plain X i n (PySem.W.osa_open X i o m λb=>?_);obtain⟨cd,q,z⟩:=PySem.W.any_some p;refine Zq (Za (Zq (Zq (wpAny_loadPart I.obj (Zq (PySem.W.Looks.here (PySem.W.looks_clsIn X q) ?_))))));rw[z];refine Za (Zq (Za (Zq ?_)));refine wpAny_nsSet1 I.ns λa g j=>?_;refine L2.ak λJ l=>?_;obtain⟨D,H,G,u,t,r⟩:=g.count (PySem.Within.cons name v hw);refine l ?_;refine Zq (wpAny_lookBehind u (by rw[t];exact pastItsLine_dict (ZF r (by rw[ZU];exact XU d))) ?_);exact Za (h _ ⟨(j.2 _ (Yb I.ne)).trans I.obj,g,I.ne⟩ j)
def qd{A:Pi}{s:FB}(X:K.In s.heap)(i:PySem.W.makesIn K C=Z)(j:PySem.W.findIn K (.ref C) "__init__" = Y (Y (.ref f)))(l:PySem.W.typeIn K (.ref f)=Y (.type "function"))(h:codeAny (FM prog w) (A.under (.builtin "type.__call__" ⟨.ref C :: a,b⟩)) (.call (.ref f) ⟨.ref (s.heap.objs.size+1) :: a,b⟩) (PySem.W.InitBack (s.heap.objs.size+1) e)
   { s with heap:=(s.heap.push PySem.W.emptyDict).push (PySem.W.instObj C s.heap.objs.size) }) :
  codeAny (FM prog w) A (.call (.ref C) ⟨a,b⟩) e s:=by
 obtain⟨m,g,d,t,os⟩:=s;exact PySem.W.make_core (PySem.W.makes_of X i) (PySem.W.looks_findIn X j) (λself=>PySem.W.bind_fn X self l) (.inl L) h
end
noncomputable def hZ(f:Str)(v:V):List (Str×V)->List (Str×V)
 |[]=>[(f,v)]
 | (g,x) :: r=>if g=f then (g,v) :: r else (g,x) :: hZ f v r
theorem kH(f g:Str)(v:V):∀fs:List (Str×V),(hZ f v fs).lookup g=if g=f then Y v else fs.lookup g
 |[]=>by
  show List.lookup g [(f,v)]=_;by_cases h:g=f
  ·simp only[List.lookup,(beq_iff_eq.mpr h),Zr h]
  ·simp only[List.lookup,(beq_eq_false_iff_ne.mpr h),Zp h]
 | (k,x) :: r=>by
  rw[show hZ f v ((k,x) :: r)=(if k=f then (k,v) :: r else (k,x) :: hZ f v r) from rfl];by_cases a:k=f
  ·rw[Zr a];by_cases h:g=k
   ·simp only[List.lookup,(beq_iff_eq.mpr h),Zr (h.trans a)]
   ·simp only[List.lookup,(beq_eq_false_iff_ne.mpr h),Zp (λe:g=f=>h (e.trans a.symm))]
  ·rw[Zp a];by_cases h:g=k
   ·simp only[List.lookup,(beq_iff_eq.mpr h),Zp (λe:g=f=>a (h.symm.trans e))]
   ·simp only[List.lookup,(beq_eq_false_iff_ne.mpr h)];exact(kH f g v r)
theorem kj(f:Str)(v:V):∀fs:List (Str×V),f∈(hZ f v fs).map (·.1)/\∀g,g∈fs.map (·.1)->g∈(hZ f v fs).map (·.1)
 |[]=>⟨by simp[hZ],λg h=>by simp at h⟩
 | (k,x) :: r=>by
  obtain⟨d,b⟩:=kj f v r;rw[show hZ f v ((k,x) :: r)=(if k=f then (k,v) :: r else (k,x) :: hZ f v r) from rfl];by_cases a:k=f
  ·rw[Zr a];subst a;exact⟨by simp,λg h=>by simpa using h⟩
  ·rw[Zp a];refine⟨?_,λg h=>?_⟩
   ·rw[Zm];exact Zt _ d
   ·rw[Zm]at h ⊢;rcases Zi.mp h with e | e
    ·exact Zi.mpr (.inl e)
    ·exact Zt _ (b g e)
theorem kI(f:Str)(v:V):∀fs:List (Str×V),(hZ f v fs).length<=fs.length+1
 |[]=>by simp[hZ]
 | (k,x) :: r=>by
  rw[show hZ f v ((k,x) :: r)=(if k=f then (k,v) :: r else (k,x) :: hZ f v r) from rfl];by_cases a:k=f
  ·rw[Zr a,ZU,ZU];exact YM _ _
  ·rw[Zp a,ZU,ZU];exact XU (kI f v r)
def g7.some_of{v:V}(r:g7 (Y v) o):∃u,o=Y u/\RelV v u:=by
 cases o with
 |none=>exact(r).elim
 |some u=>exact⟨u,rfl,r⟩
def g7.none_of(r:g7 M o):o=M:=by
 cases o with
 |none=>rfl
 |some u=>exact(r).elim
def tF(r:RelV v u):PySem.W.handedIn u=Z:=by
 cases v with
 |non=>cases (r);rfl
 |bl b=>cases (r);rfl
 |int i=>obtain⟨t,e⟩:=(r);cases e;rfl
 |str x=>obtain⟨t,e⟩:=(r);cases e;rfl
 |byt b=>obtain⟨t,e⟩:=(r);cases e;rfl
 |flt b=>obtain⟨t,e⟩:=(r);cases e;rfl
 |ref a=>cases (r);rfl
 |ty n=>cases (r);rfl
section
def kX(i:FC P w H h)(e:H a=Y (.ins C dx fs)):∃b,HY h a dx C b/\(∀f,g7 (fs.lookup f) (b f))/\PySem.Within b (fs.map (·.1))/\fs.length<=1000/\H dx=Y (.own a):=by
 obtain⟨d,z,ne,g,b,n,r,q⟩:=(i a _ e)
 exact⟨b,⟨g,n,ne⟩,r,q,z,d⟩
end
structure FD(K:Wv)(C:GM):Prop where
 pg:PySem.W.plainGet K C Str.empty=true
 hd:PySem.W.hasDictIn K C=true
 po:PySem.W.plainOver K C=true
 sa:PySem.W.findIn K (.ref C) "__setattr__" = some (some (.builtin "object.__setattr__"))
def FD.get{K:Wv}(c:FD K C)(f:Str):PySem.W.plainGet K C f=Z:=c.pg
def aX(K:Wv)(C:GM)(f:Str):Prop:=PySem.W.findIn K (.ref C) f=Y M
def aX.Mi{K:Wv}(n:aX K C f):PySem.W.takerIn K C f=Y M:=by
 unfold PySem.W.takerIn;rw[n];rfl
structure Meth(K:Wv)(C:GM)(m:Str)(f:GM):Prop where
 at_:PySem.W.findIn K (.ref C) m=some (some (.ref f))
 fn:PySem.W.isFn K (.ref f)=true
 kp:PySem.W.keepIn K (.ref f)=true
section
def qA(I:Inv X pins R H s)(e:H a=Y (.ins C dx fs))(c:FD X.K C)(n:aX X.K C f)(l:fs.lookup f=Y v)(h:∀u d,Inv X pins R H d->RelV v u->Q u d):KB (FM X.prog X.w) A (getAttr (.ref a) f b) Q E s:=by
 obtain⟨j,O,r,_,_,_⟩:=kX I.Eg e;obtain⟨u,i,g⟩:=g7.some_of (v:=v) (by rw[← l];exact r f);exact get_map I.Fc O (c.get f) c.hd n i (tF g) (h u _ (I.tok _) g)
def gL(I:Inv X pins R H s)(e:H a=Y (.ins C dx fs))(c:FD X.K C)(k:Meth X.K C m g)(l:fs.lookup m=M)(h:Q (.ref g,[.ref a]) s):KB (FM X.prog X.w) A (getMethod (.ref a) m b) Q E s:=by
 obtain⟨d,O,r,_,_,_⟩:=kX I.Eg e;exact xr I.Fc O (c.get m) k.at_ k.fn (g7.none_of (by rw[← l];exact r m)) h
def qL(I:Inv X pins R H s)(e:H a=Y (.ins C dx fs))(c:FD X.K C)(n:aX X.K C f)(D:fs.length<1000)(p:RelV y u)(h:∀j,Inv X pins R (upd H a (.ins C dx (hZ f y fs))) j->Q () j):KB (FM X.prog X.w) A (setAttr (.ref a) f u) Q E s:=by
 obtain⟨t,O,r,i,_,l⟩:=kX I.Eg e;refine zk I.Fc O c.sa c.po n.Mi c.hd i (by rw[Zw,Xy];lia) λF d m=>h _ ?_;refine I.write (x:=a) (e:=dx) (by rw[e];exact True.intro) (.inr l) (λb q hb z=>(m.2 b hb).trans z) (let ⟨o,_,_,B,_⟩:=d.ns;⟨o,B⟩) ?_;refine⟨by rw[ax O.ne];exact l,?_,O.ne,d.obj,_,d.ns,λg=>?_,λg hg=>?_⟩
 ·have:=kI f y fs;lia
 ·rw[kH];by_cases q:g=f
  ·rw[Zr q,Zr q];exact p
  ·rw[Zp q,Zp q];exact r g
 ·by_cases q:g=f
  ·rw[q];exact(kj f y fs).1
  ·refine(kj f y fs).2 g (i g λz=>hg ?_);show (if g=f then Y u else t g)=M;rw[Zp q];exact z
def Inv.made(I:Inv X pins R H s):Inv X pins R (upd (upd H s.heap.objs.size (.own (s.heap.objs.size+1))) (s.heap.objs.size+1) (.ins C s.heap.objs.size []))
  { s with heap:=(s.heap.push PySem.W.emptyDict).push (PySem.W.instObj C s.heap.objs.size) }:=by
 have e1:(s.heap.push PySem.W.emptyDict).get? s.heap.objs.size=Y PySem.W.emptyDict:=ZR s.heap L;have g:=I.laid (o:=.own (s.heap.objs.size+1)) (t':=s.toks) (λb u q=>Zl _ q) (Zj _) ⟨_,e1⟩;refine g.laid (λb u q=>Zl _ q) (Xl (XQ _ _)) ?_;have ne:s.heap.objs.size≠s.heap.objs.size+1:=ZV (Yt _);refine⟨by rw[ax ne,ay],YT _,ne,(by
  have:=ZR (s.heap.push PySem.W.emptyDict) (o:=PySem.W.instObj C s.heap.objs.size) L
  rwa [XQ]at this),λ_=>M,(Heap.Ns1.of_empty (⟨PySem.W.emptyDict,#[],_,e1,rfl,(λe he=>absurd he (by simp)),λ_=>rfl⟩)).at λo q=>Zl _ q,λ_=>True.intro,λy d=>absurd L d⟩
def yu{f:Str}{s:FB}(j:SL e f d (eval e d)=eval e d)(h:KB (FM b w) A (eval e d) (λo i=>KB (FM b w) A (getAttr o f Z) Q E i) E s):KB (FM b w) A (eval (.Attribute e f g) d) Q E s :=
 Attribute_any_ h (by rw[arm_eval_Attribute,j])
end
def D6(K:Wv)(ta:TE)(f:Str):TE:=λR H Q=>ta R H λx b=>∃a C d fs v,x=.ref a/\b a=Y (.ins C d fs)/\FD K C/\aX K C f/\fs.lookup f=Y v/\Q v b
def DZ(K:Wv)(ta e:TE)(f:Str):TS:=λD R H=>e R H λy g=>ta R g λx d=>∃a C b fs,x=.ref a/\d a=Y (.ins C b fs)/\FD K C/\aX K C f/\fs.length<1000 ∧
 D.nx R (upd d a (.ins C b (hZ f y fs)))
section
def vU(he:PE X e ta)(i:SL e f X.env (eval e X.env)=eval e X.env):PE X (.Attribute e f pos) (D6 X.K ta f):=by
 intro b s R H Q I h;refine yu i (thn (he b s R H _ I h) λu z j=>?_);obtain⟨x,t,r,d,a,C,A,fs,v,ex,m,c,n,l,q⟩:=j;subst ex;obtain rfl:u=Value.ref a:=d;exact qA r m c n l λw y p g=>⟨v,t,p,g,q⟩
def A3{pos:Pos}(t:PE X o ta)(p:PE X value tv)(r:swapsWith value (Y (.Attribute o f pos')) pos.line X.env=pure O):PS X (.Assign [.Attribute o f pos'] value pos) (DZ X.K ta tv f):=by
 intro b s R H D I h;refine plainObj_wpAny_Assign_Attribute (thn (p b s R H _ I h) λu d ⟨y,E,B,g,q⟩=>thn (t b d R E _ B q) λm G v=>?_) r;obtain⟨x,L,A,i,a,C,J,fs,ex,w,c,n,l,j⟩:=v;subst ex;obtain rfl:m=Value.ref a:=i;exact qL A w c n l g λF z=>⟨R,_,z,j⟩
end
section
inductive FU(K:Wv)(H:Hp):V->IR->Prop where
 |non:FU K H .non (.type "NoneType")
 |bl (x:Bool):FU K H (.bl x) (.type "bool")
 |int (i:Int):FU K H (.int i) (.type "int")
 |str (x:Str):FU K H (.str x) (.type "str")
 |flt (x:UInt64):FU K H (.flt x) (.type "float")
 |lst {a:GM} {xs:List V} (e:H a=some (.lst xs)):FU K H (.ref a) (.type "list")
 |frz {a:GM} {o:Obj} {xs:List V} (e:H a=some (.frz o (.lst xs))):FU K H (.ref a) (.type "list")
 |tup {a:GM} {xs:List V} (e:H a=some (.tup xs)):FU K H (.ref a) (.type "tuple")
 |dK {a:GM} {cv:List (Key×V)} (e:H a=some (.dK cv)):FU K H (.ref a) (.type "dict")
 |dT {a:GM} {cv:List (List Key×V)} (e:H a=some (.dT cv)):FU K H (.ref a) (.type "dict")
 |ins {a C dx:GM} {fs:List (Str×V)} (e:H a=some (.ins C dx fs)) (cl:FD K C) (ha:PySem.W.findIn K (.ref C) "__class__" = some (some (.builtin "object.__class__")))
   (hn:PySem.W.specialIn K (.builtin "object.__class__") "__get__" = some (some (.builtin "getset_descriptor.__get__"))) (QA:PySem.W.takesIn K (.builtin "object.__class__")=some true)
   (hm:PySem.W.mroIn K C (.type "object")=some true):FU K H (.ref a) (.ref C)
def tD(I:Inv X pins R H s)(d:RelV x u)(m:FU X.K H x t)(e:PySem.W.kitOne X.K t c=Y b)(h:∀r,Q (.bool b) { s with toks:=r }) :
  KB (FM X.prog X.w) A (call (.builtin "isinstance") [u,c]) Q E s:=by
 cases m with
 |non=>cases (d);exact Yn PySem.W.kitx_none I.Fc True.intro e (λz=>nomatch z) h
 |bl y=>cases (d);exact Yn PySem.W.kitx_bool I.Fc True.intro e (λz=>nomatch z) h
 |int i=>obtain⟨t,q⟩:=(d);cases q;exact Yn PySem.W.kitx_int I.Fc True.intro e (λz=>nomatch z) h
 |str y=>obtain⟨t,q⟩:=(d);cases q;exact Yn PySem.W.kitx_str I.Fc True.intro e (λz=>nomatch z) h
 |flt y=>obtain⟨t,q⟩:=(d);cases q;exact Yn PySem.W.kitx_float I.Fc True.intro e (λz=>nomatch z) h
 |@lst a l f =>
  cases (d);obtain⟨_,_,n,_,g⟩:=(I.Eg a _ f)
  exact Yn PySem.W.kitx_list I.Fc ⟨_,g,rfl⟩ e (λz=>nomatch z) h
 |@frz a U l f =>
  cases (d);obtain⟨_,_,_,n,_,g⟩:=(I.Eg a _ f)
  exact Yn PySem.W.kitx_list I.Fc ⟨_,g,rfl⟩ e (λz=>nomatch z) h
 |@tup a l f =>
  cases (d);obtain⟨_,_,_,_,p⟩:=(I.Eg a _ f)
  obtain⟨o,g,j,_⟩:=p;exact Yn PySem.W.kitx_tuple I.Fc ⟨o,g,j⟩ e (λz=>nomatch z) h
 |@dK a J f =>
  cases (d);obtain⟨_,_,P,_,p⟩:=(I.Eg a _ f)
  obtain⟨o,F,G,g,j,_⟩:=p;exact Yn PySem.W.kitx_dict I.Fc ⟨o,g,j.1⟩ e (λz=>nomatch z) h
 |@dT a J f =>
  cases (d);obtain⟨_,_,l,_,o,F,G,g,j,_⟩:=(I.Eg a _ f)
  exact Yn PySem.W.kitx_dict I.Fc ⟨o,g,j.1⟩ e (λz=>nomatch z) h
 |@ins a C dx fs f cl D v L B =>
  cases (d);obtain⟨mA,O,_⟩:=kX I.Eg f;obtain⟨S,N,_⟩:=O.look;exact Yn (PySem.W.kitx_own (cl.get _) cl.hd D v L B) I.Fc N e (λz=>nomatch z) h
end
structure gV(k:Nat)(A:Pi):Prop where
 hd:A.handled=none
 dp:A.depth+3*k+5<recursionLimit
 un:A.units+16*k+200<cLine
def gV.mono{k:Nat}(r:gV k A)(h:j<=k):gV j A:=⟨r.hd,by have:=r.dp;lia,by have:=r.un;lia⟩
theorem gV.deeper(r:gV (k+1) A)(a:Env):gV k (A.deeper a) :=
 ⟨r.hd,by have:=r.dp;show A.depth+1+3*k+5<_;lia,by have:=r.un;show A.units+3+16*k+200<_;lia⟩
def qD{A:Pi}:(A.under (.builtin "type.__call__" ⟨.ref C :: a,b⟩)).depth=A.depth+1:=by
 first | rfl | simp[Around.under,Code.weight,Code.isCreation,Code.isGuard,Code.isCaller,Code.frames,Code.isFrame,guardIds]
def qX{A:Pi}:(A.under (.builtin "type.__call__" ⟨.ref C :: a,b⟩)).units=A.units+1:=by
 first | rfl | simp[Around.under,Code.cUnits,Code.frames,Code.isFrame]
def gV.make(r:gV (k+1) A)(C:GM)(a:Wh)(b:List (Str×IR)):gV k (A.under (.builtin "type.__call__" ⟨.ref C :: a,b⟩)) :=
 ⟨r.hd,by have:=r.dp;rw[qD];lia,by have:=r.un;rw[qX];lia⟩
theorem gV.depth(r:gV k A):A.depth<recursionLimit:=by have:=r.dp;lia
theorem gV.units(r:gV k A):A.units+64<cLine:=by have:=r.un;lia
noncomputable def yj:TA:=λ_ H Q=>Q [] H
noncomputable def De(ta:TE)(b:TA):TA:=λR H Q=>ta R H λx e=>b R e λa d=>Q (x :: a) d
section
def je:PA X [] yj:=λ_ _ _ _ H Q I h=>Calls.spliced_nil ⟨[],H,I,.nil,h⟩
def c9(l:PE X e te)(j:PA X es t)(i:{`q2,K1 e es X}):PA X (e :: es) (De te t):=by
 intro pos a s R H Q I h;rw[i];refine Calls.spliced_cons (thn (l a s R H _ I h) λu f b=>?_);obtain⟨x,p,n,r1,q1⟩:=b;refine thn (j pos a f R p _ n q1) λq r b=>?_;obtain⟨d,o,m,r2,g⟩:=b;exact⟨x :: d,o,m,.cons r1 r2,g⟩
def Ec(t:TA):TE:=λR H Q=>t R H λa b=>a.length<=FS/\∀p,b p=M->Q (.ref p) (upd b p (.tup a))
def D4(t:TA):TE:=λR H Q=>t R H λa b=>a.length<=FS/\∀p,b p=M->Q (.ref p) (upd b p (.lst a))
def uM{x1}(h:PA X es t):PE X (.Tuple es x1 pos) (Ec t):=by
 intro a s R H Q I j;refine wpAny_Tuple_spliced (thn (h pos a s R H _ I j) λi d ⟨g,l,f,r,z,q⟩=>⟨by rw[← r.length];exact z,?_⟩);refine⟨.ref d.heap.objs.size,upd l d.heap.objs.size (.tup g),f.laid (λb u e=>Zl _ e) (Zj _) ?_,rfl,q _ (f.Eg.fresh (Zj _))⟩;exact⟨z,i,r,Kt.of (ZR _ L) L,⟨_,ZR _ L,rfl,_,rfl⟩⟩
def B2(h:PA X es t):PE X (.List es pos) (D4 t):=by
 intro a s R H Q I j;refine wpAny_List_spliced (thn (h pos a s R H _ I j) λi d ⟨g,l,f,r,z,q⟩=>⟨by rw[← r.length];exact z,?_⟩);refine⟨.ref d.heap.objs.size,upd l d.heap.objs.size (.lst g),f.laid (λb u e=>Zl _ e) (Zj _) ?_,rfl,q _ (f.Eg.fresh (Zj _))⟩;exact⟨z,i,0,r,ZR _ L⟩
end
abbrev Sp:=List V->Hp->VK->XK->Prop
abbrev IK:=List Env->Hp->FB->XK->Z0
structure Env0(P:PP)(w:SC)(K:Wv)(mg:Wj)(base:Re)(A:Pi)(outer:List Env)(s:FB)(H:Hp):Prop where
 frames:A.frames=some outer
 mod:Mod K mg base
 tb:∀b q,Tb base b q->H b=some (.tbl q)
 bs:∀b o,base.get? b=some o->s.heap.get? b=some o/\H b=none
 IG:base.objs.size<=s.heap.objs.size
 Fd:s.heap.FunFrames base outer
 Ju:∀b∈FA outer,H b=none
 Eg:FC P w H s.heap
 bare:AllBare s.gens
def CE(a:List Env)(P:PP)(w:SC)(H:Hp)(s:FB)(Q:VK)(u:IR)(b:FB):Prop :=
 ∃v d,b.os=s.os/\AllBare b.gens/\Un (FA a) [] H d s.heap b.heap/\FC P w d b.heap/\RelV v u/\Q v d
def CR(d:IK)(a:List Env)(P:PP)(w:SC)(H:Hp)(s:FB)(Q:VK)(E:XK)(r:Result)(b:FB):Prop :=
 match r with
 |.ok (.ret u)=>CE a P w H s Q u b
 |.ok _=>False
 |.error e=>d a H s E e b
structure FnOk(P:PP)(w:SC)(K:Wv)(mg:Wj)(base:Re)(CX:IK)(k:Nat)(f:GM)(fd:On)(ps:List Str)(sp:Sp):Prop where
 len:∀vs H Q E,sp vs H Q E->vs.length=ps.length
 run:∀(A:Pi)(outer:List Env)(s:FB)(H:Hp)(args:Args)(us:Wh)(vs:List V)(Q:VK)(E:XK),gV k A->Env0 P w K mg base A outer s H->BindsTo s fd args (ps.zip us)->aI vs us->sp vs H Q E →
  codeAny (FM P w) A (.call (.ref f) args) (CR CX outer P w H s Q E) s
def FnOk.imp{K:Wv}(F:FnOk P w K g a l k f i e d)(h:∀b H Q E,j b H Q E->d b H Q E):FnOk P w K g a l k f i e j :=
 ⟨λb H Q E q=>F.len b H Q E (h _ _ _ _ q),λA outer s H args m b Q E p he hb n o=>F.run A outer s H args m b Q E p he hb n (h _ _ _ _ o)⟩
def Env0.make{K:Wv}(e:Env0 P w K d b A a s H)(C:GM)(f:Wh)(g:List (Str×IR)) :
  Env0 P w K d b (A.under (.builtin "type.__call__" ⟨.ref C :: f,g⟩)) a s H:=⟨by first | exact e.frames | (simpa[Around.under,Code.envs,Code.isFrame,pushEnvs] using e.frames),e.mod,e.tb,e.bs,e.IG,e.Fd,e.Ju,e.Eg,e.bare⟩
section
def Inv.IF(I:Inv X pins R H s):Env0 X.prog X.w X.K X.mg X.base X.A X.stack s H :=
 ⟨I.ok.frames,I.ok.mod,I.tb,I.bs,ZF I.ok.IG I.sz,I.stack,I.Gm,I.Eg,I.bare⟩
def Inv.after(I:Inv X pins R H s)(h:CE X.stack X.prog X.w H s Q u s'):EP X pins R Q u s':=by
 obtain⟨v,f,os,bare,un,Eg,r,q⟩:=h;obtain⟨a,g,d,t,e⟩:=s';obtain rfl:e=s.os:=os;exact⟨v,f,I.call (h':=a) (g':=g) (d':=d) (t':=t) (ch:=[]) un Eg bare (λb z=>absurd z (by simp)),r,q⟩
end
noncomputable def vq(b:Sp)(e:List V)(E:XK)(t:TA):TE:=λR H Q=>t R H λa d=>b (a++e) d Q E
def sj(C:GM)(m:Str)(e:Sp)(h:List V)(E:XK)(ta:TE)(t:TA):TE:=λR H Q=>ta R H λx b=>∃a f fs,x=.ref a/\b a=Y (.ins C f fs)/\fs.lookup m=M ∧
 t R b λd g=>e (x :: (d++h)) g Q E
def vT(C:GM)(e:Sp)(g:List V)(E:XK)(t:TA):TE:=λR H Q=>t R H λd b=>∀x a,b x=M->b a=M->a≠x →
 e (.ref x :: (d++g)) (upd (upd b a (.own x)) x (.ins C a [])) (λv f=>v=.non/\Q (.ref x) f) E
noncomputable def Binds(K:Wv)(d:On)(b:List Str)(ds:Wh):Prop :=
 ∀(s:FB)(a:Wh),K.In s.heap->(a++ds).length=b.length->BindsTo s d ⟨a,[]⟩ (b.zip (a++ds))
def Binds.all{K:Wv}{b:List Str}(h:∀a:Wh,a.length=b.length->bindArgs e ⟨a,[]⟩=pure (b.zip a)):Binds K e b []:=λs a _ d=>by
 rw[Zd]at d ⊢;exact .of_eq (h a d)
def iy(d:IK)(X:Cx)(E:XK):Prop:=∀(a:Xj)(R:St)(H:Hp)(s:FB)(e:IR)(b:FB),Inv X a R H s->d X.stack H s E e b->X.xe e b
section
def qM{X:Cx}{vs:List V}(F:FnOk X.prog X.w X.K X.mg X.base CX k f fd ps sp)(j:gV k X.A)(n:Binds X.K fd ps ds)(l:aI GL ds)(i:iy CX X E)(I:Inv X a R H s)(r:aI vs b)(h:sp (vs++GL) H Q E):KB (FM X.prog X.w) X.A (call (.ref f) b) (EP X a R Q) X.xe s:=by
 have r2:=r.append l;refine Xn (YG (F.run X.A X.stack s H ⟨b,[]⟩ (b++ds) (vs++GL) Q E j I.IF (n s b I.Fc (by rw[← r2.length];exact F.len _ _ _ _ h)) r2 h) λr g d=>?_);cases r with
 |error e=>exact i a R H s e g I d
 |ok q =>
  cases q with
  |ret u=>exact I.after d
  |next=>exact False.elim d
  |brk=>exact False.elim d
  |cont=>exact False.elim d
def yP{X:Cx}(F:FnOk X.prog X.w X.K X.mg X.base CX k f fd ps sp)(i:gV k X.A)(n:Gl X x)(j:X.mg x=Y (.ref f))(l:PySem.W.keepIn X.K (.ref f)=Z)(v:Binds X.K fd ps ds)(u:aI GL ds)(g:iy CX X E)(y:PA X (e :: es) t)(z:{`q1,K3 x})(he:{`q2,K1 e es X})(b:{`q2,K2 pos es X}) :
  PE X (.Call (.Name x p) (e :: es) [] pos) (vq sp GL E t):=by
 intro a s R H Q I h;refine Yg (fj I n j ?_ z);refine YW I.ok.mod.Jk l (thn (y pos a s R H _ I h) λD G ⟨B,J,d,r,q⟩=>⟨d.Fc,?_⟩) he b;exact qM F i v u g d r q
def oG(he:PE X o ta)(c:FD X.K C)(i:Meth X.K C m f)(F:FnOk X.prog X.w X.K X.mg X.base CX k f fd ps sp)(G:gV k X.A)(N:Binds X.K fd ps ds)(J:aI GL ds)(B:iy CX X E)(P:PA X (e :: es) t)(FG:{`q2,K1 e es X})(d:{`q2,K2 pos es X})(D:{`q2,eval (.Call (.Attribute o m apos) (e :: es) [] pos) X.env=(do
   let g ← eval o X.env
   standAt apos.atName
   let (f,first) ← holding [g] (getMethod g m pl)
   callWith pos f first (backTo pos (KM (e :: es) X.env)) (backToKw pos (Pv [] X.env)))}) :
  PE X (.Call (.Attribute o m apos) (e :: es) [] pos) (sj C m sp GL E ta t):=by
 intro b s R H Q I h;refine Xw (pl:=pl) (thn (he b s R H _ I h) λu v S=>?_) D;obtain⟨x,H1,n,y,a,dx,fs,ex,U,l,q⟩:=S;subst ex;obtain rfl:u=Value.ref a:=y;refine gL n U c i l ?_;refine YW I.ok.mod.Jk i.kp (thn (P pos b v R H1 _ n q) λus s2 ⟨vs,H2,j,r,z⟩=>⟨j.Fc,?_⟩) FG d;exact qM (vs:=.ref a :: vs) F G N J B j (.cons L r) z
def qq(he:PE X o ta)(c:FD X.K C)(i:Meth X.K C m f)(F:FnOk X.prog X.w X.K X.mg X.base CX k f fd ps sp)(v:gV k X.A)(z:Binds X.K fd ps ds)(y:aI GL ds)(n:iy CX X E)(r:{`q2,eval (.Call (.Attribute o m apos) [] [] pos) X.env=(do
   let g ← eval o X.env
   standAt apos.atName
   let (f,first) ← holding [g] (getMethod g m pl)
   callWith pos f first (backTo pos (KM [] X.env)) (backToKw pos (Pv [] X.env)))}) :
  PE X (.Call (.Attribute o m apos) [] [] pos) (sj C m sp GL E ta yj):=by
 intro b s R H Q I h;refine Xw (pl:=pl) (thn (he b s R H _ I h) λu G B=>?_) r;obtain⟨x,N,d,j,a,J,fs,ex,D,l,q⟩:=B;subst ex;obtain rfl:u=Value.ref a:=j;refine gL d D c i l ?_;exact X6 d.Fc i.kp (qM (vs:=[.ref a]) F v z y n d (.cons L .nil) q)
structure Mk(K:Wv)(C f:GM):Prop where
 makes:PySem.W.makesIn K C=true
 init:PySem.W.findIn K (.ref C) "__init__" = some (some (.ref f))
 fn:PySem.W.isFn K (.ref f)=true
 kp:PySem.W.keepIn K (.ref C)=true
def pw{X:Cx}{us:Wh}(M:Mk X.K C f)(F:FnOk X.prog X.w X.K X.mg X.base CX k f fd ps sp)(z:gV (k+1) X.A)(D:Binds X.K fd ps ds)(B:aI GL ds)(y:iy CX X E)(I:Inv X a R H s)(r:aI i us)(h:∀x d,H x=none->H d=none->d≠x->sp (.ref x :: (i++GL)) (upd (upd H d (.own x)) x (.ins C d [])) (λv N=>v=.non/\Q (.ref x) N) E) :
  KB (FM X.prog X.w) X.A (call (.ref C) us) (EP X a R Q) X.xe s:=by
 have j:=h (s.heap.objs.size+1) s.heap.objs.size (I.Eg.fresh (Xb _)) (I.Eg.fresh (Zj _)) (ZV (Yt _));have g:=Inv.made (C:=C) I;have r2:aI (V.ref (s.heap.objs.size+1) :: (i++GL)) (Value.ref (s.heap.objs.size+1) :: (us++ds)):=.cons L (r.append B);refine Xn (qd (f:=f) I.Fc M.makes M.init (beq_iff_eq.mp M.fn) (YG (F.run _ X.stack _ _ ⟨Value.ref (s.heap.objs.size+1) :: us,[]⟩ (Value.ref (s.heap.objs.size+1) :: (us++ds)) _ _ E (z.make C us [])
  (g.IF.make C us []) (D _ (Value.ref (s.heap.objs.size+1) :: us) g.Fc (by
  have e:=r2.length;rw[F.len _ _ _ _ j]at e;exact e.symm)) r2 j) λr l b=>?_))
 cases r with
 |error e=>exact y a R _ _ e l g b
 |ok G =>
  cases G with
  |ret u =>
   obtain⟨v,P,J,n,ev,q⟩:=g.after b;subst ev;exact⟨n,⟨V.ref (s.heap.objs.size+1),P,J,rfl,q⟩⟩
  |next=>exact False.elim b
  |brk=>exact False.elim b
  |cont=>exact False.elim b
def yC{X:Cx}(M:Mk X.K C f)(F:FnOk X.prog X.w X.K X.mg X.base CX k f fd ps sp)(i:gV (k+1) X.A)(l:Gl X x)(j:X.mg x=Y (.ref C))(u:Binds X.K fd ps ds)(n:aI GL ds)(g:iy CX X E)(v:PA X (e :: es) t)(y:{`q1,K3 x})(he:{`q2,K1 e es X})(b:{`q2,K2 pos es X}) :
  PE X (.Call (.Name x p) (e :: es) [] pos) (vT C sp GL E t):=by
 intro a s R H Q I h;refine Yg (fj I l j ?_ y);refine YW I.ok.mod.Jk M.kp (thn (v pos a s R H _ I h) λB D ⟨z,G,d,r,q⟩=>⟨d.Fc,?_⟩) he b;exact pw M F i u n g d r q
def u6{X:Cx}(M:Mk X.K C f)(F:FnOk X.prog X.w X.K X.mg X.base CX k f fd ps sp)(d:gV (k+1) X.A)(i:Gl X x)(g:X.mg x=Y (.ref C))(l:Binds X.K fd ps ds)(j:aI GL ds)(b:iy CX X E)(n:{`q1,K3 x}):PE X (.Call (.Name x p) [] [] pos) (vT C sp GL E yj):=by
 intro a s R H Q I h;refine Yg (fj I i g ?_ n);exact X6 I.Fc M.kp (pw (us:=[]) M F d l j b I .nil h)
end
structure cg(N P:List Str)(sc:Scope):Prop where
 kind:sc.kind=.function
 co:sc.isCoroutine=false
 gen:sc.isGenerator=false
 nd:N.Nodup
 pre:N.take P.length=P
 par:∀x∈P,sc.names.lookup x=some .local\/sc.names.lookup x=some .cell
 KH:∀y∈sc.names,y.2 ≠ .free
theorem m8:∀{binds:List (Str×IR)}{m:Wj},(∀v,(x,v)∉binds)->bindL a binds m x=m x
 |[],_,_=>rfl
 | (n,v) :: r,m,h=>by
  unfold bindL;rw[m8 λw hw=>h w (Zt _ hw)];split
  ·have:x≠n:=by rintro rfl;exact h v Zu
   simp[this]
  ·rfl
theorem mO:∀{binds:List (Str×IR)}{m:Wj},(∀v,(x,v)∉binds)->bindC a binds m x=m x
 |[],_,_=>rfl
 | (n,v) :: r,m,h=>by
  unfold bindC;rw[mO λw hw=>h w (Zt _ hw)];split
  ·rfl
  ·have:x≠n:=by rintro rfl;exact h v Zu
   simp[this]
theorem mL:∀{P:List Str}{b:Wh}{i:Nat}{m:Wj},P.Nodup->P[i]?=Y x->b[i]?=Y v->a x=Y .local →
  bindL a (P.zip b) m x=Y v
 |[],_,_,_,_,h,_,_=>by simp at h
 |_ :: _,[],_,_,_,_,h,_=>by simp at h
 |p :: P,w :: b,0,m,nd,e,d,f=>by
  simp at e d;subst e;subst d;show bindL a ((p,w) :: P.zip b) m p=_;unfold bindL;rw[m8 λv g=>(Ze.mp nd).1 (XG g).1,Zr f];simp
 |p :: P,w :: b,i+1,m,nd,e,d,f=>by
  unfold bindL;exact mL (i:=i) (Ze.mp nd).2 (by simpa using e) (by simpa using d) f
theorem m6:∀{P:List Str}{b:Wh}{i:Nat}{m:Wj},P.Nodup->P[i]?=Y x->b[i]?=Y v->a x≠Y .local →
  bindC a (P.zip b) m x=Y v
 |[],_,_,_,_,h,_,_=>by simp at h
 |_ :: _,[],_,_,_,_,h,_=>by simp at h
 |p :: P,w :: b,0,m,nd,e,d,f=>by
  simp at e d;subst e;subst d;show bindC a ((p,w) :: P.zip b) m p=_;unfold bindC;rw[mO λv g=>(Ze.mp nd).1 (XG g).1,Zp f];simp
 |p :: P,w :: b,i+1,m,nd,e,d,f=>by
  unfold bindC;exact m6 (i:=i) (Ze.mp nd).2 (by simpa using e) (by simpa using d) f
noncomputable def start(N:List Str)(a:List V):St:=a.map Y++List.replicate (N.length-a.length) M
def fh(j:IK)(P:PP)(w:SC)(K:Wv)(m:Wj)(h:Re)(N:List Str)(d:Str)(a:Scope)(f:GM)(g:IR)(A:Pi)(b:List Env)(s:FB)(H:Hp)(E:XK):Cx where
 prog:=P
 w:=w
 K:=K
 mg:=m
 base:=h
 A:=A.deeper (envOfC d a s.heap.objs.size f g)
 N:=N
 s₀:=s
 H₀:=H
 env:=envOfC d a s.heap.objs.size f g
 outer:=b
 stack:=envOfC d a s.heap.objs.size f g :: b
 ex:=[]
 calm:=Z
 fn:=λ_=>Z
 pn:=[]
 xe:=λe l=>KB (FM P w) (A.deeper (envOfC d a s.heap.objs.size f g)) (leaving (envOfC d a s.heap.objs.size f g) e) (λ_ i=>j b H s E e i) (λn i=>j b H s E n i) l
def pN{a:Scope}(h:a.names.lookup x=Y .cell):∃c,(cellsFrom n a.names []).lookup x=Y c:=by
 exact YS.mp (XM a.names n [] (.inl h))
def mM{CX:IK}{K:Wv}{A:Pi}{outer:List Env}{E:XK}{t:List V}(S:cg N n d)(hd:A.handled=M)(l:Env0 P w K J m A outer s H)(hl:t.length=n.length)(r:aI t G)(x:InCallC s s.heap.objs.size (bindL (envOfC g d s.heap.objs.size f F).kindOf (n.zip G) λ_=>M) (cellsFrom (s.heap.objs.size+1) d.names []) (bindC (envOfC g d s.heap.objs.size f F).kindOf (n.zip G) λ_=>M) R) :
  Inv (fh CX P w K J m N g d f F A outer s H E) [] (start N t) H R:=by
 have hpl:n.length<=N.length:=by have:=congrArg List.length S.pre;rw[Y1]at this;lia
 obtain⟨D,tk,rfl,X⟩:=x.done;have Q:∀b:GM,b∉(fh CX P w K J m N g d f F A outer s H E).ex:=λb z=>absurd (show b∈([]) from z) (by simp);refine⟨⟨l.mod,S.kind,rfl,rfl,Zj _,λy z c D j=>?_,λy o=>?_,λy c _ h=>?_,λ_=>hd,Around.frames_deeper l.frames,.inr ⟨rfl,rfl⟩,λb z=>absurd z (Q b),l.tb,l.bs,l.IG,λb _ _=>Q b,λb z=>absurd z (Q b),l.Fd,l.Ju⟩,
  rfl,l.bare,Un.kept X,⟨_,x.toInCall.ns,λi y v D j h3=>?_⟩,λy c h=>⟨_,x.cell y c h⟩,l.Eg.fresh (Zj _),λy c h=>?_,λp B=>absurd (show p∈([]) from B) (by simp),l.Eg.kept X,?_⟩
 ·exact name_of_addr x.apart (Y4 D) (Y4 j)
 ·have o:=o;rcases o with o | o
  ·exact pN o
  ·exact absurd L (S.KH _ (Y4 o))
 ·exact Y0 (x.above y c (Y4 h))
 ·have C:i<t.length:=by
   unfold start at j;by_cases C:i<t.length
   ·exact C
   ·rw[Yy (by simpa using C)]at j;rw[Yd]at j;split at j<;>cases j
  obtain⟨u,U,rv⟩:=r.get (by
   unfold start at j;rw[ZC (by simpa using C),ZL]at j;cases e:t[i]? with
   |none=>rw[e]at j;cases j
   |some a=>rw[e]at j;cases j;rfl)
  have B:n[i]?=Y y:=by
   rw[← S.pre,List.getElem?_take_of_lt (by lia)];exact D
  have Qp:n.Nodup:=by rw[← S.pre];exact S.nd.sublist (List.take_sublist _ _)
  refine⟨u,rv,?_⟩;rcases S.par y (YE B) with k | k
  ·exact .inl ⟨k,mL Qp B U k⟩
  ·obtain⟨c,e⟩:=pN k;refine .inr ⟨.inl k,c,e,?_⟩;have q:=x.cell y c e;rw[m6 Qp B U (by show d.names.lookup y≠_;rw[k];decide)]at q;exact q
 ·exact l.Eg.fresh (Y0 (x.above y c (Y4 h)))
 ·unfold start;show _=N.length;rw[Zv,Zw,ZJ];lia
def rq{CX:IK}{P:PP}{w:SC}{K:Wv}{X:Wj}{i:Re}{k:Nat}{f:GM}{l d:Str}{g:Arguments}{h:List Stmt}{a:Scope}{dV kV D pm z ct oc:IR}{an od:Option GM}{G8:Array (Wg)}{N U:List Str}{G:Sp}(lk:K.lookup f=Y ⟨oc,od,.func (PySem.W.fnOf l d g h a dV kV D pm an z ct),G8⟩)(hcd:PySem.W.codeIn K z d=Z)(S:cg N U a)(B:∀j H Q E,G j H Q E->j.length=U.length)(GE:∀(A:Pi)(outer:List Env)(s:FB)(H:Hp)(j:List V)(Q:VK)(E:XK),gV k (A.deeper (envOfC d a s.heap.objs.size f z))->G j H Q E →
   ∃t,Gi (fh CX P w K X i N d a f z A outer s H E) h t/\t { nx:=λ_ p=>Q .non p,rt:=Q } (start N j) H) :
  FnOk P w K X i CX (k+1) f (PySem.W.fnOf l d g h a dV kV D pm an z ct) U G:=by
 refine⟨B,λA outer s H args us j Q E hr C hb r Im=>?_⟩;have hl:=B _ _ _ _ Im;have KX:=C.mod.Jk.keeps λb o e=>(C.bs b o e).1;refine codeAny_call_function hr.depth (KX _ _ lk) L S.co S.gen L (PySem.W.codeRec_of KX hcd) (hb _ _ _ _ ?_);refine wpAny_newFunctionEnv_cells S.kind (λ⟨n,v⟩ hy=>by
  rcases S.par n (XG hy).1 with q | q
  ·exact .inl q
  ·exact .inr ⟨q,XM _ _ _ (.inl q)⟩) λenv he s1 x=>?_
 subst he;refine⟨(C.mod.nolimit.keeps λb o e=>(C.bs b o e).1).keeps x.toInCall.keep,codeAny_func ?_⟩;obtain⟨t,ht,hq⟩:=GE A outer s H j Q E (hr.deeper _) Im;refine Z6 (ht [] s1 (start N j) H _ (mM S hr.hd C hl r x) hq) (λfl J y=>?_) λe J y=>y;have fin:∀{F:St}{p:Hp}{v:V}{u:IR},Inv (fh CX P w K X i N d a f z A outer s H E) [] F p J->RelV v u->Q v p->CE outer P w H s Q u J :=
  λ{F p v u} m R q=>⟨v,p,m.os,m.bare,m.base,m.Eg,R,q⟩
 cases fl with
 |ret u =>
  obtain⟨v,F,p,m,R,q⟩:=y;exact fin m R q
 |next =>
  obtain⟨F,p,m,q⟩:=y;exact fin (v:=V.non) m L q
 |brk =>
  obtain⟨_,_,_,q⟩:=y;exact False.elim q
 |cont =>
  obtain⟨_,_,_,q⟩:=y;exact False.elim q
section
noncomputable def PU(r:List V->Hp->VK->Prop)(t:TA):TE:=λR H Q=>t R H λa b=>r a b Q
def jG{X:Cx}{x:Str}{p pos:Pos}{es:List Expr}{t:TA}{id:String}{r:List V->Hp->VK->Prop}(n:da X (.builtin id) r)(m:Gl X x)(l:X.mg x=M)(i:bootBuiltins x=Y (.builtin id))(o:PA X (e :: es) t)(j:{`q1,x ≠ "__name__"})(v:{`q1,K3 x})(he:{`q2,K1 e es X})(b:{`q2,K2 pos es X}):PE X (.Call (.Name x p) (e :: es) [] pos) (PU r t):=by
 intro a s R H Q I h;refine Yg (nF I m l i ?_ j v);exact PyProof.Rows.callWith_builtin1 (thn (o pos a s R H _ I h) λf g ⟨d,u,q,r1,q1⟩=>n a g R u d f Q q r1 q1) he b
def tM(n:da X (.type T) r)(m:Gl X x)(l:X.mg x=M)(i:bootBuiltins x=Y (.type T))(o:PA X (e :: es) t)(j:{`q1,x ≠ "__name__"})(v:{`q1,K3 x})(he:{`q2,K1 e es X})(b:{`q2,K2 pos es X}):PE X (.Call (.Name x p) (e :: es) [] pos) (PU r t):=by
 intro a s R H Q I h;refine Yg (nF I m l i ?_ j v);exact PyProof.Rows.callWith_type1 (thn (o pos a s R H _ I h) λf g ⟨d,u,q,r1,q1⟩=>n a g R u d f Q q r1 q1) he b
end
end L2
namespace HT
open PySem PyProof.Rows
section
noncomputable def Fe(n d:Nat):Option Int->Nat
 |none=>d
 |some v=>if v<0 then (v+(n:Int)).toNat else min v.toNat n
end
end HT
namespace L2
open PySem PySem.Spec PyProof.Rows
abbrev TO:=St->Hp->(Option Int->Hp->Prop)->Prop
def PO(X:Cx)(e:Option Expr)(t:TO):Prop :=
 ∀(a:Xj)(s:FB)(R:St)(H:Hp)(Q:Option Int->Hp->Prop),Inv X a R H s->t R H Q →
  KB (FM X.prog X.w) X.A (evalPart e X.env) (λu d=>∃o b,Inv X a R b d/\IsPart u o/\Q o b) X.xe s
noncomputable def yQ:TO:=λ_ H Q=>Q M H
noncomputable def Cg(t:TE):TO:=λR H Q=>t R H λx a=>∃i,x=.int i/\Q (Y i) a
section
variable{lo:Option Expr}
def ya:PO X M yQ:=by
 intro a s R H Q I h;rw[evalPart_none];exact Za ⟨M,H,I,.none,h⟩
def x8(h:PE X e te):PO X (Y e) (Cg te):=by
 intro a s R H Q I hw;rw[evalPart_some];refine thn (h a s R H _ I hw) λu g b=>?_;obtain⟨x,f,d,r1,q1⟩:=b;obtain⟨i,rfl,q⟩:=q1;obtain⟨t,rfl⟩:=r1;exact⟨Y i,f,d,.int i t,q⟩
def Ks(X:Cx)(r:V->Option Int->Option Int->Hp->VK->Prop):Prop :=
 ∀(a:Xj)(s:FB)(R:St)(H:Hp)(x:V)(v d b:IR)(lo hi:Option Int)(f:GM)(Q:VK),Inv X a R H s->RelV x v->s.heap.IsSliceOf f d b .none->IsPart d lo->IsPart b hi->r x lo hi H Q →
  ∃T id,typeLookup (.type T) "__getitem__" = pure (Y (.builtin id))/\s.TypeIs v T/\KB (FM X.prog X.w) X.A (getItem v (.ref f)) (EP X a R Q) X.xe s
def Ks.or(h:Ks X r)(m:Ks X i):Ks X (λx lo hi H Q=>r x lo hi H Q\/i x lo hi H Q):=by
 intro a s R H x v d b lo hi f Q I g l j pu q;rcases q with q | q
 ·exact h a s R H x v d b lo hi f Q I g l j pu q
 ·exact m a s R H x v d b lo hi f Q I g l j pu q
noncomputable def RP(r:V->Option Int->Option Int->Hp->VK->Prop)(d:TE)(a b:TO):TE:=λR H Q=>d R H λx h=>a R h λl g=>b R g λu f=>r x l u f Q
def vJ(y:Ks X r)(he:PE X e te)(z:PO X lo tl)(t:PO X hi th):PE X (.Subscript e (.Slice lo hi M p2) pos) (RP r te tl th):=by
 intro a s R H Q I h;refine Subscript_ (thn (he a s R H _ I h) λv m f=>?_);obtain⟨x,G,D,r1,q1⟩:=f;refine wpAny_Slice (thn (z a m R G _ D q1) λi j ⟨l,F,C,p,o⟩=>thn (t a j R F _ C o) λg d f=>?_);obtain⟨u,E,B,pu,n⟩:=f;rw[evalPart_none];refine Za ?_;obtain⟨T,id,A,w,hg⟩:=y a { d with heap:=d.heap.push { cls:=.type "slice",data:=.fields #[i,g,.none] } } R E x v i g l u d.heap.objs.size Q (B.kept (t':=d.toks) λb J q=>Zl _ q) r1 (Heap.IsSliceOf.new ..) p pu n;exact tail_any w A hg (by with_unfolding_all rfl)
def uY(a:List V)(b d:Option Int):List V:=(a.drop (HT.Fe a.length 0 b)).take (HT.Fe a.length a.length d-HT.Fe a.length 0 b)
def pE(a:List V)(b d:Option Int):(uY a b d).length<=a.length:=by
 unfold uY;rw[Y1,Xu];lia
end
noncomputable def KS(n:Nat)(i:Int):Option Nat:=if 0<=i then (if i<n then Y i.toNat else M) else if -(n:Int)<=i then Y (i+n).toNat else M
def Lu{α:Type}(a:List α)(i:Int):Option α:=(KS a.length i).bind λj=>a[j]?
def rJ{i:Int}(h:KS n i=Y j):seqIndex? i n=Y j/\j<n/\-(n:Int)<=i/\i<n:=by
 unfold KS at h;by_cases b:0<=i
 ·rw[Zr b]at h;by_cases a:i<n
  ·rw[Zr a]at h;exact⟨by rw[seqIndex_of b a,(Zo h)],by lia,by lia,a⟩
  ·rw[Zp a]at h;cases h
 ·rw[Zp b]at h;by_cases a:-(n:Int)<=i
  ·rw[Zr a]at h;exact⟨by rw[seqIndex_neg (by lia) a,(Zo h)],by lia,a,by lia⟩
  ·rw[Zp a]at h;cases h
def oi{α:Type}{a:List α}{i:Int}{v:α}(h:Lu a i=Y v):∃j,seqIndex? i a.length=Y j/\a[j]?=Y v/\j<a.length/\-(a.length:Int)<=i/\i<a.length:=by
 unfold Lu at h;cases e:KS a.length i with
 |none=>rw[e]at h;cases h
 |some j =>
  rw[e]at h;obtain⟨g,f,d,b⟩:=rJ e;exact⟨j,g,h,f,d,b⟩
noncomputable def jw(b:Expr):Prop:=∀o i,subscripted b O o i=operate [o,i] (getItem o i)
def II(X:Cx)(r:Fo):Prop :=
 ∀(value slice:Expr)(a:Xj)(s:FB)(R:St)(H:Hp)(x y:V)(v u:IR)(Q:VK),Inv X a R H s->RelV x v->RelV y u->r x y H Q →
  subscripted slice O v u=operate [v,u] (getItem v u)->KB (FM X.prog X.w) X.A (subscriptTail value slice v u) (EP X a R Q) X.xe s
def Nj(X:Cx)(e:String)(r:V->List V->Hp->VK->Prop):Prop :=
 ∀(a:Xj)(s:FB)(R:St)(H:Hp)(x:V)(b:List V)(v:IR)(d:Wh)(Q:VK),Inv X a R H s->RelV x v->aI b d->r x b H Q →
  KB (FM X.prog X.w) X.A (call (.builtin e) (v :: d)) (EP X a R Q) X.xe s
section
def II.or(h:II X r)(j:II X g):II X (λx y H Q=>r x y H Q\/g x y H Q):=by
 intro value slice d s R H x y v u Q I f e q i;rcases q with q | q
 ·exact h value slice d s R H x y v u Q I f e q i
 ·exact j value slice d s R H x y v u Q I f e q i
def rC(j:II X r)(m:PE X a ta)(l:PE X b tb)(i:jw b):PE X (.Subscript a b pos) (Mj r ta tb):=by
 intro d s R H Q I h;exact Subscript_ (Bn m l I h λv u e x y o n g f q=>j a b d e R o x y v u Q n g f q (i _ _))
def Cn(K:Wv):Fo:=λx y H Q=>∃p d i v,x=.ref p/\y=.int i/\EW K H p d/\Lu d i=Y v/\Q v H
def DG(K:Wv):Fo:=λx y H Q=>∃p d i v,x=.ref p/\y=.int i/\FX K H p d/\Lu d i=Y v/\Q v H
def Dt:Fo:=λx y H Q=>∃z i c,x=.str z/\y=.int i/\z.length<=FS/\Lu z.cps.toList i=Y c/\Q (.str ⟨#[c]⟩) H
def y0:II X (Cn X.K):=by
 intro value slice d s R H x y v u Q I A o h l;refine L2.ak λP_ B=>?_;obtain⟨p,N,i,z,rfl,rfl,D,he,q⟩:=h;cases A;obtain⟨t,rfl⟩:=o;obtain⟨C,r,f,P⟩:=I.list D;obtain⟨j,e,J,U,G,F⟩:=oi he;obtain⟨w,n,L⟩:=r.get J;refine B ?_;have E:=r.length;have S:=oa;have fin:EP X d R Q w s:=⟨z,H,I,L,q⟩
 by_cases m:0<=i
 ·have g:i.toNat=j:=by
   rw[seqIndex_of m F]at e;exact Zo e
  exact item_listR f.isList m (by lia) (by rw[g];simpa using n) fin l
 ·have g:(i+(C.toArray.size:Int)).toNat=j:=by
   rw[seqIndex_neg (by lia) G]at e;rw[ZW,← E];exact Zo e
  exact subscriptTail_builtinR (x:=w) f.isList.typeIs slot_list_getitem.lookup
   (wpAny_getItem_list_neg f.isList (by lia) (by rw[ZW]<;>lia) (by lia) (by rw[g];simpa using n) ⟨rfl,fin⟩) l
def AR:II X (DG X.K):=by
 intro value slice e s R H x y v u Q I g f h m;refine L2.ak λP l=>?_;obtain⟨p,D,i,z,rfl,rfl,n,he,q⟩:=h;cases g;obtain⟨t,rfl⟩:=f;obtain⟨E,r,d,F⟩:=I.tuple n;obtain⟨j,A,o,N,L,J⟩:=oi he;obtain⟨w,B,C⟩:=r.get o;refine l ?_;have G:=oa;exact subscriptTail_builtinR (x:=w) d.typeIs slot_tuple_getitem.lookup
  (getItem_tuple (j:=j) d (by lia) (by lia) (by rw[ZW,← r.length];exact A) (by simpa using B) ⟨rfl,(⟨z,H,I,C,q⟩)⟩) m
def AH:II X Dt:=by
 intro value slice d s R H x y v u Q I g f h l;obtain⟨z,i,c,rfl,rfl,w,he,q⟩:=h;obtain⟨t,rfl⟩:=g;obtain⟨r,rfl⟩:=f;obtain⟨j,e,p,B,o,n⟩:=oi he;have m:z.cps.toList.length=z.length:=by simp[Str.length]
 rw[m]at e o n;have A:=oa;exact tail_any (typeIs_str s z t) slot_str_getitem.lookup (getItem_str (c:=c) (by
  rw[(Zb (by lia)),(Zb (by lia)),Bool.or_false]) (by rw[e];simpa using p) ⟨.str ⟨#[c]⟩,H,I.tok _,⟨_,rfl⟩,q⟩) l
def Oj(K:Wv):Fo:=λx y H Q=>Cn K x y H Q\/DG K x y H Q\/Dt x y H Q
def nV:II X (Oj X.K):=y0.or (AR.or AH)
def qO(d:Wh)(n j:Nat)(u:IR):Obj.mapSeq (·.setIfInBounds j u) { cls:=.type "list",data:=.seq d.toArray n }={ cls:=.type "list",data:=.seq (d.set j u).toArray n }:=by
 simp[Obj.mapSeq]
theorem Inv.lst{H:Hp}{xs:List V}(I:Inv X d R H s)(h:H p=Y (.lst xs)) :
  ∃(f:Wh)(n:Nat),aI xs f/\s.heap.get? p=Y { cls:=.type "list",data:=.seq f.toArray n }/\xs.length<=sizeLine:=by
 obtain⟨z,f,n,r,e⟩:=I.Eg p _ h;exact⟨f,n,r,e,z⟩
def Inv.KO{l g:Wh}(I:Inv X d R H s)(h:H p=Y (.lst o))(w:s.heap.get? p=Y { cls:=.type "list",data:=.seq l.toArray n })(m:f { cls:=.type "list",data:=.seq l.toArray n }={ cls:=.type "list",data:=.seq g.toArray j })(r:aI i g)(v:i.length<=FS)(t:Nat) :
  Inv X d R (upd H p (.lst i)) { s with heap:=s.heap.update p f,toks:=t }:=by
 have e:(s.heap.update p f).get? p=Y { cls:=.type "list",data:=.seq g.toArray j }:=by
  rw[Y2 f w (by rw[m]<;>rfl),m]
 refine I.write (x:=p) (e:=p) (by rw[h];trivial) (.inl L) (λb u hb q=>(Yq _ _ (Yb hb)).trans q) ⟨_,e⟩ ?_;exact⟨v,g,j,r,e⟩
def Aa:V->V->V->Hp->(Hp->Prop)->Prop:=λo i v H Q=>∃p d k j,o=.ref p/\i=.int k/\H p=Y (.lst d)/\KS d.length k=Y j/\Q (upd H p (.lst (d.set j v)))
def set_list:BS X Aa:=by
 intro l s R H o i v L iv u Q I C D B h;refine L2.ak λS E=>?_;obtain⟨p,J,k,j,rfl,rfl,w,G,q⟩:=h;cases C;obtain⟨t,rfl⟩:=D;obtain⟨m,n,r,e,F⟩:=I.lst w;obtain⟨d,P,y,x⟩:=rJ G;refine E ?_;have f:=r.length;have N:=oa;have A :=
  I.KO w e (qO m n j u) (r.set B j) (by rw[ZI];exact F) s.toks
 by_cases z:0<=k
 ·have g:k.toNat=j:=by
   rw[seqIndex_of z x]at d;exact Zo d
  exact PySem.W.ki_setAt e z (by lia) (by rw[ZW,← f];exact x) (by rw[g];exact⟨_,A,q⟩)
 ·have g:(k+(m.toArray.size:Int)).toNat=j:=by
   rw[seqIndex_neg (by lia) y]at d;rw[ZW,← f];exact Zo d
  exact PySem.W.ki_setBack e (by lia) (by rw[ZW,← f];exact y) (by lia) (by rw[g];exact⟨_,A,q⟩)
def Jg(a:Int)(n:Nat):max 0 (min a (n:Int))=((min a.toNat n:Nat):Int):=by
 cases a with
 |ofNat k =>
  show max 0 (min (k:Int) (n:Int))=((min k n:Nat):Int);rcases Nat.le_total k n with h | h
  ·rw[Int.min_eq_left (Int.ofNat_le.mpr h),YI h];exact Int.max_eq_right (Xg _)
  ·rw[Int.min_eq_right (Int.ofNat_le.mpr h),Wo h];exact Int.max_eq_right (Xg _)
 |negSucc k =>
  rw[Int.min_eq_left (Int.le_trans (Int.le_of_lt (Int.negSucc_lt_zero k)) (Xg n)),Int.max_eq_left (Int.le_of_lt (Int.negSucc_lt_zero k))];show (0:Int)=((min 0 n:Nat):Int);rw[Nat.zero_min];rfl
def nS(d e:Option Int)(n:Nat):(sliceBounds d e M n).1=((HT.Fe n 0 d:Nat):Int)/\(sliceBounds d e M n).2.1=((HT.Fe n n e:Nat):Int)/\(sliceBounds d e M n).2.2=1:=by
 refine⟨?_,?_,rfl⟩
 ·cases d with
  |none=>simp[sliceBounds,HT.Fe]
  |some i =>
   simp only[sliceBounds,HT.Fe,Option.getD_none,show (1:Int) > 0 by decide,if_true];by_cases h:i<0
   ·simp only[h,if_true];rw[Jg,YI (by omega)]
   ·simp only[h,if_false];exact Jg i n
 ·cases e with
  |none=>simp[sliceBounds,HT.Fe]
  |some i =>
   simp only[sliceBounds,HT.Fe,Option.getD_none,show (1:Int) > 0 by decide,if_true];by_cases h:i<0
   ·simp only[h,if_true];rw[Jg,YI (by omega)]
   ·simp only[h,if_false];exact Jg i n
def mB(d:Wh)(e f:Option Int):slicePick d.toArray e f M=((d.drop (HT.Fe d.length 0 e)).take (HT.Fe d.length d.length f-HT.Fe d.length 0 e)).toArray:=by
 obtain⟨i,h,g⟩:=nS e f d.toArray.size;unfold slicePick;rw[i,h,g];simp only[sliceRange_one,pick_run,ZW]<;>rfl
def CQ(K:Wv):V->Option Int->Option Int->Hp->VK->Prop:=λx lo e H Q=>∃a d,x=.ref a/\EW K H a d/\∀p,H p=M->Q (.ref p) (upd H p (.lst (uY d lo e)))
def zj:Ks X (CQ X.K):=by
 intro e s R H x v p o lo g t Q I i n j pu h;obtain⟨a,d,rfl,m,q⟩:=h;cases i;obtain⟨w,r,f,l⟩:=I.list m;have hlen:=r.length;refine⟨"list",_,slot_list_getitem.lookup,f.isList.typeIs,?_⟩;refine wpAny_getItem_list_slice f.isList n j pu .none (by simp) ?_ (by rw[ZW]<;>lia);rw[mB,← hlen];refine⟨.ref s.heap.objs.size,_,I.laid (λb u q=>Zl _ q) (Zj _) ?_,rfl,q _ (I.Eg.fresh (Zj _))⟩;exact⟨ZF (pE d lo g) l,_,0,(r.drop (HT.Fe d.length 0 lo)).take (HT.Fe d.length d.length g-HT.Fe d.length 0 lo),ZR _ L⟩
noncomputable def fY:V->Bool
 |.non=>Z
 |.bl _=>Z
 |.int _=>Z
 |.str _=>Z
 |_=>O
noncomputable def JI:V->V->Bool
 |.non,.non=>Z
 |.bl a,.bl b=>a==b
 |.bl a,.int b=>(if a then 1 else 0)==b
 |.int a,.bl b=>a==(if b then 1 else 0)
 |.int a,.int b=>a==b
 |.str a,.str b=>a==b
 |_,_=>O
def BA(f:RelV y u)(d:RelV x v)(h:fY y=Z)(g:fY x=Z):SeqAt.EqAt A s u v (JI y x):=by
 cases y with
 |non =>
  cases f;cases x with
  |non=>cases d;exact SeqAt.EqAt.same _
  |bl b=>cases d;exact SeqAt.EqAt.none_bool b
  |int b=>obtain⟨t,rfl⟩:=d;exact SeqAt.EqAt.none_int b t
  |str b=>obtain⟨t,rfl⟩:=d;exact SeqAt.EqAt.none_str b t
  |_=>exact absurd (g) Zh
 |bl a =>
  cases f;cases x with
  |non=>cases d;exact SeqAt.EqAt.bool_none a
  |bl b=>cases d;exact SeqAt.EqAt.bool_bool a b
  |int b=>obtain⟨t,rfl⟩:=d;exact SeqAt.EqAt.bool_int a b t
  |str b=>obtain⟨t,rfl⟩:=d;exact SeqAt.EqAt.bool_str a b t
  |_=>exact absurd (g) Zh
 |int a =>
  obtain⟨e,rfl⟩:=f;cases x with
  |non=>cases d;exact SeqAt.EqAt.int_none a e
  |bl b=>cases d;exact SeqAt.EqAt.int_bool a e b
  |int b=>obtain⟨t,rfl⟩:=d;exact SeqAt.EqAt.int_int a e b t
  |str b=>obtain⟨t,rfl⟩:=d;exact SeqAt.EqAt.int_str a e b t
  |_=>exact absurd (g) Zh
 |str a =>
  obtain⟨e,rfl⟩:=f;cases x with
  |non=>cases d;exact SeqAt.EqAt.str_none a e
  |bl b=>cases d;exact SeqAt.EqAt.str_bool a e b
  |int b=>obtain⟨t,rfl⟩:=d;exact SeqAt.EqAt.str_int a e b t
  |str b=>obtain⟨t,rfl⟩:=d;exact SeqAt.EqAt.str_str a e b t
  |_=>exact absurd (g) Zh
 |_=>exact absurd (h) Zh
def HV(x:V)(u:IR):Bool:=match u with
 |.none=>JI .non x
 |.bool b=>JI (.bl b) x
 |.int i _=>JI (.int i) x
 |.str z _=>JI (.str z) x
 |_=>O
def uw(r:RelV y u)(f:fY y=Z):HV x u=JI y x:=by
 cases y with
 |non=>cases r;rfl
 |bl b=>cases r;rfl
 |int i=>obtain⟨t,rfl⟩:=r;rfl
 |str z=>obtain⟨t,rfl⟩:=r;rfl
 |_=>exact absurd (f) Zh
theorem jO:∀{d:List V}{e:Wh},aI d e->d.all fY=Z->e.any (HV x)=d.any λy=>JI y x
 |_,_,.nil,_=>rfl
 |y :: d,u :: e,.cons r t,f=>by
  rw[XY,Z2]at f;rw[YY,YY,uw r f.1,jO t f.2]
theorem ie(h:RelV x v)(i:fY x=Z):∀{e:List V}{g:Wh},aI e g->e.all fY=Z->∀u∈g,SeqAt.EqAt A s u v (HV x u)
 |_,_,.nil,_=>λu d=>by cases d
 |y :: e,u :: g,.cons r t,f=>λj d=>by
  rw[XY,Z2]at f;rcases Zi.mp d with rfl | d
  ·rw[uw r f.1];exact BA r h f.1 i
  ·exact ie h i t f.2 j d
def MF(x:V)(d:List V):Bool:=d.any λy=>JI y x
def Nv(K:Wv)(e:Bool):Fo:=λx y H Q=>∃p d,y=.ref p/\(EW K H p d\/FX K H p d)/\fY x=Z/\d.all fY=Z/\Q (.bl (if e then !MF x d else MF x d)) H
def t4:OpR X (P3 .In) (Nv X.K O):=by
 intro i s R H x y v u Q I g l h;obtain⟨p,n,rfl,e,j,fs,q⟩:=h;cases l;rcases e with e | e
 ·obtain⟨d,r,f,m⟩:=I.list e;refine SeqAt.in_listAt (HV x) f.isList (λw hw=>ie g j r fs w (by simpa using hw)) ⟨.bl _,H,I,rfl,?_⟩;rw[show d.toArray.any (HV x)=d.any (HV x) by simp,jO r fs];exact q
 ·obtain⟨d,r,f,m⟩:=I.tuple e;refine SeqAt.in_tupleAt (HV x) f (λw hw=>ie g j r fs w (by simpa using hw)) ⟨.bl _,H,I,rfl,?_⟩;rw[show d.toArray.any (HV x)=d.any (HV x) by simp,jO r fs];exact q
def n6:OpR X (P3 .NotIn) (Nv X.K Z):=by
 intro i s R H x y v u Q I g l h;obtain⟨p,n,rfl,e,j,fs,q⟩:=h;cases l;rcases e with e | e
 ·obtain⟨d,r,f,m⟩:=I.list e;refine SeqAt.notIn_listAt (HV x) f.isList (λw hw=>ie g j r fs w (by simpa using hw)) ⟨.bl _,H,I,rfl,?_⟩;rw[show d.toArray.any (HV x)=d.any (HV x) by simp,jO r fs];exact q
 ·obtain⟨d,r,f,m⟩:=I.tuple e;refine SeqAt.notIn_tupleAt (HV x) f (λw hw=>ie g j r fs w (by simpa using hw)) ⟨.bl _,H,I,rfl,?_⟩;rw[show d.toArray.any (HV x)=d.any (HV x) by simp,jO r fs];exact q
def da.or(h:da X f r)(l:da X f j):da X f (λe H Q=>r e H Q\/j e H Q):=by
 intro d s R H e g Q I i q;rcases q with q | q
 ·exact h d s R H e g Q I i q
 ·exact l d s R H e g Q I i q
def oJ:da X (.type "list") (λA H Q=>∃p g,A=[.ref p]/\(EW X.K H p g\/FX X.K H p g)/\∀l,H l=M->Q (.ref l) (upd H l (.lst g))):=by
 intro m s R H A D Q I r h;obtain⟨p,g,rfl,v,q⟩:=h;obtain⟨u,rfl,C⟩:=vals1 r;cases C;have fin:∀(f:Wh),aI g f->g.length<=FS->∀(d:Re)(j:Nat),(∀b B,s.heap.get? b=Y B->d.get? b=Y B) →
   d.get? s.heap.objs.size=Y { cls:=.type "list",dict:=M,data:=.seq f.toArray j,slots:=#[] }->EP X m R Q (.ref s.heap.objs.size) { s with heap:=d }:=λf i t d j kp e =>
  ⟨.ref s.heap.objs.size,_,I.laid kp (Zj _) (show dh X.prog X.w _ d _ (.lst g) from⟨t,f,j,i,e⟩),rfl,q _ (I.Eg.fresh (Zj _))⟩
 rcases v with v | v
 ·obtain⟨f,i,x,t⟩:=I.list v;have hlen:=i.length;obtain⟨o,y,z,n,hd⟩:=x.isList;exact call_list_seq p (.inl L) y z hd (λd j kp e=>fin f i t d j kp e) (by simp only[ZW]<;>lia)
 ·obtain⟨f,i,x,t⟩:=I.tuple v;have hlen:=i.length;obtain⟨o,y,z,n,hd⟩:=x;exact call_list_seq p (.inr L) y z hd (λd j kp e=>fin f i t d j kp e) (by simp only[ZW]<;>lia)
def mI:da X (.type "tuple") (λj H Q=>∃p d,j=[.ref p]/\((EW X.K H p d/\∀l,H l=M->Q (.ref l) (upd H l (.tup d)))\/(FX X.K H p d/\Q (.ref p) H))):=by
 intro m s R H j z Q I r h;obtain⟨p,d,rfl,h⟩:=h;obtain⟨u,rfl,x⟩:=vals1 r;cases x;rcases h with⟨i,q⟩ | ⟨i,q⟩
 ·obtain⟨n,f,g,t⟩:=I.list i;have hlen:=f.length;refine call_tuple_list g.isList (λy kp=>?_) (by simp only[ZW]<;>lia);have v:=I.kept (t':=s.toks) kp;exact⟨.ref y.objs.size,_,(v.laid (t':=s.toks) (λb o e=>Zl _ e) (Zj _) (show dh X.prog X.w _ _ _ (.tup d) from⟨t,n,f,Kt.new _ _,IsTup.new _ _⟩)),rfl,q _ (v.Eg.fresh (Zj _))⟩
 ·obtain⟨n,f,g,t⟩:=I.tuple i;exact call_tuple_same g ⟨.ref p,H,I,rfl,q⟩
def Kb(K:Wv)(T:String)(x:V)(H:Hp):Prop:=match x with
 |.str _=>T = "str"
 |.int _=>T = "int"
 |.ref p=>(T = "list" ∧ ∃e,EW K H p e)\/(T = "tuple" ∧ ∃o,K.lookup p=Y o/\o.cls=.type "tuple" ∧ o.dict=M) ∨
   (T = "dict" ∧ ((∃d,H p=Y (.dK d))\/∃d,H p=Y (.dT d)))\/(T = "set" ∧ ∃S n,H p=Y (.set S n))
 |_=>False
def Ax(I:Inv X f R H s)(r:RelV x v)(g:Kb X.K T x H) :
  s.TypeIs v T/\∀a,v=.ref a->∃j,s.heap.get? a=Y j/\j.dict=M:=by
 cases x with
 |str z =>
  obtain⟨t,rfl⟩:=r;cases (g);exact⟨typeIs_str s z t,λ_ e=>nomatch e⟩
 |int i =>
  obtain⟨t,rfl⟩:=r;cases (g);exact⟨typeIs_int s i t,λ_ e=>nomatch e⟩
 |ref p =>
  cases r;rcases g with⟨rfl,u,l⟩ | ⟨rfl,o,d,m,hd⟩ | ⟨rfl,d⟩ | ⟨rfl,S,n,d⟩
  ·obtain⟨w,_,h,_⟩:=I.list l;refine⟨h.isList.typeIs,λa e=>?_⟩;cases e;obtain⟨o,n,e,c,hd,_⟩:=h;exact⟨o,e,hd⟩
  ·refine⟨⟨o,I.Fc p o d,m⟩,λa e=>?_⟩;cases e;exact⟨o,I.Fc _ o d,hd⟩
  ·have z:∃o,s.heap.get? p=Y o/\o.ExactDict:=by
    rcases d with⟨q,d⟩ | ⟨q,d⟩
    ·obtain⟨_,_,_,_,o,_,_,e,ex,_⟩:=I.Eg p _ d;exact⟨o,e,ex⟩
    ·obtain⟨_,_,_,_,o,_,_,e,ex,_⟩:=I.Eg p _ d;exact⟨o,e,ex⟩
   obtain⟨o,e,ex⟩:=z;refine⟨⟨o,e,ex.1⟩,λa e2=>?_⟩;cases e2;exact⟨o,e,ex.2.1⟩
  ·obtain⟨o,_,_,_,e,ex,_⟩:=I.Eg p _ d;refine⟨⟨o,e,ex.1⟩,λa e2=>?_⟩;cases e2;exact⟨o,e,ex.2.1⟩
 |_=>exact False.elim g
def RS(K:Wv)(T:String)(r:V->List V->Hp->VK->Prop)(f:TE)(t:TA):TE:=λR H Q=>f R H λx d=>Kb K T x d/\t R d λe g=>r x e g Q
def sH{X:Cx}{o:Expr}{es:List Expr}{to:TE}{t:TA}{name:Str}{apos pe:Pos}{T id:String}{r:V->List V->Hp->VK->Prop}(u:PlainAttrs T)(f:Slot T name id)(D:typeOf (.builtin id)=pure (.type "method_descriptor"))(z:Nj X id r)(y:PE X o to)(A:PA X (e :: es) t)(P:{`q2,SL o name X.env (eval o X.env)=eval o X.env})(J:{`q2,((backTo pe (KM (e :: es) X.env)).all (λx=>!x.1)&&(backToKw pe (Pv [] X.env)).all (λx=>x.1.isSome)
   && decide ((e :: es).length+([]:List Keyword).length+(if ([]:List Keyword).isEmpty then 0 else 1)<30))=Z})(S:{`q2,(apos.endLine==pe.line)=Z})(w:{`q2,K1 e es X})(N:{`q2,K2 pe es X}) :
  PE X (.Call (.Attribute o name apos) (e :: es) [] pe) (RS X.K T r to t):=by
 intro d s R H Q I h;refine wpAny_Call_method_late P J S L (thn (y d s R H _ I h) λv p g=>?_);obtain⟨x,G,j,r1,ty,q1⟩:=g;obtain⟨C,B⟩:=Ax j r1 ty;refine⟨T,id,u,f,D,C,B,?_⟩;have i:=A pe d p R G _ j q1;rw[w]at i ⊢;refine Calls.callWith_builtin (by show (O||(backTo pe (KM es X.env)).any (·.1))=O;rw[N]<;>rfl) (Wq ?_);refine thn i λm n g=>?_;obtain⟨l,F,E,r2,q⟩:=g;exact z d n R F x l v m Q E r1 r2 q
end
def Ug(X:Cx)(e:String)(r:V->List V->Hp->VK->Prop):Prop :=
 ∀(a:Xj)(s:FB)(R:St)(H:Hp)(x:V)(b:List V)(v:IR)(d:Wh)(Q:VK),Inv X a R H s->RelV x v->aI b d->r x b H Q →
  KB (FM X.prog X.w) X.A (call (.builtin e) (v :: d)) (EP X a R Q) X.xe s
def aI.nil_inv(h:aI [] a):a=[]:=by
 cases h;rfl
def aI.cons_inv(h:aI (x :: a) d):∃u b,d=u :: b/\RelV x u/\aI a b:=by
 cases h with
 |cons r t=>exact⟨_,_,rfl,r,t⟩
def aI.one(h:aI [x] a):∃u,a=[u]/\RelV x u:=by
 obtain⟨u,b,rfl,r,t⟩:=h.cons_inv;rw[t.nil_inv];exact⟨_,rfl,r⟩
theorem aI.rep(h:aI a b):∀k:Nat,aI (List.replicate k a).flatten (List.replicate k b).flatten
 |0=>.nil
 |k+1=>by
  rw[Z7,Z7,ZZ,ZZ];exact aI.append h (aI.rep h k)
theorem foldl_rep(a:Wh):∀(k:Nat)(acc:Wh),
  List.foldl (λx1 x2=>x1++x2) acc.toArray (List.replicate k a.toArray)=(acc++(List.replicate k a).flatten).toArray
 |0,acc=>by simp
 |k+1,acc=>by
  have e:acc.toArray++a.toArray=(acc++a).toArray:=by simp
  have e2:(acc++a)++(List.replicate k a).flatten=acc++(List.replicate (k+1) a).flatten:=by
   rw[Z7,ZZ,ZA]
  rw[← e2,← foldl_rep a k (acc++a),← e,Z7,Xp]
section
def Inv.OG{d a:Wh}(I:Inv X pins R H s)(o:H l=Y (.lst xs))(e:s.heap.get? l=Y { cls:=.type "list",data:=.seq d.toArray n })(m:f d.toArray=a.toArray)(i:aI ys a)(h:ys.length<=FS) :
  Inv X pins R (upd H l (.lst ys)) { s with heap:=s.heap.update l (Obj.mapSeq f),toks:=g }:=by
 have q:=PySem.IsL.update e f;rw[m]at q;refine I.write (x:=l) (e:=l) (by rw[o];exact trivial) (.inl L) (λp u hb j=>(Yq s.heap (Obj.mapSeq f) (Yb hb)).trans j) ⟨_,q⟩ ?_;exact⟨h,a,_,i,q⟩
def Inv.MA(I:Inv X pins R H s)(f:aI ys a)(e:ys.length<=FS) :
  Inv X pins R (upd H s.heap.objs.size (.lst ys)) { s with heap:=s.heap.push { cls:=.type "list",data:=.seq a.toArray },toks:=d } :=
 I.laid (λ_ _ q=>Zl _ q) (Zj _) ⟨e,a,0,f,ZR _ L⟩
theorem Inv.fresh(I:Inv X pins R H s):H s.heap.objs.size=M:=I.Eg.fresh (Zj _)
def Inv.JT(I:Inv X pins R H s)(d:H l=Y (.lst xs)):xs.length<=FS/\∃(a:Wh)(n:Nat),aI xs a/\xs.length=a.length/\s.heap.get? l=Y { cls:=.type "list",data:=.seq a.toArray n }:=by
 obtain⟨z,a,n,r,e⟩:=I.Eg l _ d;exact⟨z,a,n,r,r.length,e⟩
def v9(h:n<=FS):Builtin.List.listTooLong n=O:=by
 exact Zb (by exact Nat.not_lt_of_le h)
end
section
def sS:V->List V->Hp->VK->Prop:=λx b H Q=>∃l a y,x=.ref l/\b=[y]/\H l=Y (.lst a)/\a.length<FS/\Q .non (upd H l (.lst (a++[y])))
def iF:Ug X "list.append" sS:=by
 intro a s R H x p v t Q I d f h;refine L2.ak λA i=>?_;obtain⟨l,o,y,rfl,rfl,b,m,q⟩:=h;cases d;obtain⟨u,rfl,g⟩:=f.one;obtain⟨z,j,n,r,w,e⟩:=I.JT b;refine i ?_;refine call_meets F.slot_list_append ⟨_,e,rfl⟩ F.entry_list_append (F.args_list_append_2 _ _) (PySem.list_append l j.toArray n u (by rw[ZW];lia)) ⟨e,?_⟩;refine⟨.non,_,I.OG b e (by simp) (r.append (.cons g .nil)) ?_,rfl,q⟩;rw[Zv,ZM];exact Nat.succ_le_of_lt m
def DE:Fo:=λx y H Q=>∃l b d a,x=.ref l/\y=.ref b/\H l=Y (.lst d)/\H b=Y (.lst a)/\d.length+a.length<=FS/\∀p,H p=M->Q (.ref p) (upd H p (.lst (d++a)))
def BK:OpR X (binaryOp .Add) DE:=by
 intro a s R H x y v u Q I i g h;refine L2.ak λE j=>?_;obtain⟨l,b,A,t,rfl,rfl,m,o,C,q⟩:=h;cases i;cases g;obtain⟨z,d,n,r,D,e⟩:=I.JT m;obtain⟨w,f,B,r2,F,e2⟩:=I.JT o;refine j ?_;refine PySem.P.add_list e e2 ?_ (by rw[ZW,ZW];lia);have p:d.toArray++f.toArray=(d++f).toArray:=by simp
 rw[p];exact⟨.ref _,_,I.MA (r.append r2) (by rw[Zv];omega),rfl,q _ I.fresh⟩
def Cq:Fo:=λx y H Q=>∃l k a,x=.ref l/\y=.int k/\H l=Y (.lst a)/\-(2 ^ 63)<=k/\k<2 ^ 63/\a.length*k.toNat<=FS ∧
 ∀p,H p=M->Q (.ref p) (upd H p (.lst (List.replicate k.toNat a).flatten))
def len_rep{α:Type}(a:List α)(k:Nat):(List.replicate k a).flatten.length=k*a.length:=by
 induction k with
 |zero=>simp
 |succ k b=>rw[Z7,ZZ,Zv,b,Nat.succ_mul,Nat.add_comm]
def q9:OpR X (binaryOp .Mult) Cq:=by
 intro d s R H x y v u Q I j i h;obtain⟨l,k,D,rfl,rfl,p,A,w,f,q⟩:=h;cases j;obtain⟨t,rfl⟩:=i;obtain⟨z,b,n,r,o,e⟩:=I.JT p;have hlen:b.toArray.size*k.toNat<=sizeLine:=by rw[ZW,← o];exact f
 have C:List.foldl (λx1 x2=>x1++x2) #[] (List.replicate (if b.toArray.isEmpty=Z then 0 else k.toNat) b.toArray)=(List.replicate k.toNat b).flatten.toArray:=by
  have B:=λm=>by
   have:=foldl_rep b m [];rw[Y6]at this;exact this
  rw[B];cases b with
  |nil=>simp
  |cons a E=>rw[Zp (by simp)]
 refine wpAny_binaryOp_repeat_ref (by decide) ⟨_,e,rfl⟩ (λg=>typeIs_int g k t) noFill_list_mul F.fills_int_mul F.slot_int_rmul repeat_list F.slot_int_index.lookup
  (call_meets F.slot_int_rmul (typeIs_int s k t) F.entry_int_rmul (F.args_int_rmul_2 _ _) (int___rmul___int_list k t l b.toArray n)
   ⟨e,rfl,⟨_,e,rfl⟩,call_meets F.slot_list_mul ⟨_,e,rfl⟩ F.entry_list_mul (F.args_list_mul_2 _ _) (AutoListH.list___mul___list_int_3 l b.toArray n k t (by
  rw[fitsIndex_both A w];exact Zh) (by
  have:(FS:Nat)<=(2 ^ 63-1)/8:=by decide
  lia) (by
  rw[v9 hlen];exact Zh)) ⟨e,?_⟩⟩)
 rw[C];exact⟨.ref _,_,I.MA (r.rep k.toNat) (by rw[len_rep,Nat.mul_comm];exact f),rfl,q _ I.fresh⟩
end
section
set_option maxRecDepth 100000 in
end
section
variable{κ:Type}[DecidableEq κ]
noncomputable def fO(b:List (κ×V))(k:κ):Option V:=(b.find? λa=>decide (a.1=k)).map (·.2)
noncomputable def putK(b:List (κ×V))(k:κ)(v:V):List (κ×V) :=
 if (b.any λa=>decide (a.1=k))=Z then b.map (λa=>if a.1=k then (a.1,v) else a) else b++[(k,v)]
def hU{p:κ×V}(e:p.1=k):fO (p :: r) k=Y p.2:=by simp[fO,Yu,e]
def mh{p:κ×V}(e:¬p.1=k):fO (p :: r) k=fO r k:=by simp[fO,Yu,e]
theorem pS(k:κ):∀a:List (κ×V),(a.any λb=>decide (b.1=k))=(fO a k).isSome
 |[]=>rfl
 |p :: r=>by
  rw[YY];by_cases e:p.1=k
  ·simp only[hU e,decide_eq_true e,Bool.true_or,Option.isSome_some]
  ·rw[mh e,Zb e,Bool.false_or];exact pS k r
def iB(a:List (κ×V))(k:κ)(v:V):(putK a k v).length<=a.length+1:=by
 unfold putK;split
 ·rw[Zw];exact YM _ _
 ·rw[Zv,ZU,XF];exact Zj _
def g7.E6(r:g7 o u):o.isSome=u.isSome:=by
 cases o with
 |none=>cases u with
  |none=>rfl
  |some _=>exact(r).elim
 |some _=>cases u with
  |none=>exact(r).elim
  |some _=>rfl
theorem g7.getD{o:Option V}{d:V}(r:g7 o u)(b:RelV d a):RelV (o.getD d) (u.getD a):=by
 cases o with
 |none=>cases u with
  |none=>exact b
  |some _=>exact(r).elim
 |some _=>cases u with
  |none=>exact(r).elim
  |some _=>exact r
def KV.val(r:KV g d)(k:κ):g7 (fO g k) (valueAt d k):=by
 induction r with
 |nil=>exact True.intro
 |@cons p q m a h t i =>
  obtain⟨f,j⟩:=h;by_cases e:p.1=k
  ·have b:valueAt (q :: a) k=Y q.2:=by simp[valueAt,Yu,(f.symm.trans e)]
   rw[hU e,b];exact j
  ·have l:¬q.1=k:=λz=>e (f.trans z);have b:valueAt (q :: a) k=valueAt a k:=by simp[valueAt,Yu,l]
   rw[mh e,b];exact i
theorem KV.any(r:KV d b)(k:κ):(d.any λa=>decide (a.1=k))=b.any λa=>decide (a.1=k):=by
 induction r with
 |nil=>rfl
 |cons h t e=>rw[YY,YY,e,h.1]
def KV.KA(r:KV f d)(k:κ)(g:RelV y u) :
  KV (f.map λa=>if a.1=k then (a.1,y) else a) (d.map λa=>if a.1=k then (a.1,u) else a):=by
 induction r with
 |nil=>exact .nil
 |@cons p q m l h t i =>
  rw[Zm,Zm];refine .cons ?_ i;obtain⟨b,j⟩:=h;by_cases e:p.1=k
  ·rw[Zr e,Zr (b.symm.trans e)];exact⟨b,g⟩
  ·rw[Zp e,Zp (λz=>e (b.trans z))];exact⟨b,j⟩
def KV.put(r:KV d a)(k:κ)(b:RelV y u):KV (putK d k y) (stored a k u):=by
 unfold putK stored;rw[r.any k];by_cases e:(a.any λf=>decide (f.1=k))=Z
 ·rw[Zr e,Zr e];exact r.KA k b
 ·rw[Zp e,Zp e];exact Paired.snoc r ⟨rfl,b⟩
def KV.keys{b:List (κ×V)}{a:List (κ×IR)}(r:KV b a):b.map (·.1)=a.map (·.1):=by
 induction r with
 |nil=>rfl
 |cons h t d=>rw[Zm,Zm,d,h.1]
theorem KV.length{b:List (κ×V)}{a:List (κ×IR)}(r:KV b a):b.length=a.length:=Y7 r
end
def lE(r:RelV (kV k) u):(bP P w).is k u=Z:=by
 cases k with
 |inl i=>obtain⟨t,e⟩:=(r);subst e;exact o6 P w i t
 |inr x=>obtain⟨t,e⟩:=(r);subst e;exact pT P w x t
theorem mS:∀{a:List Key}{b:Wh},aI (a.map kV) b->ItemsAre (bP P w) a b
 |[],_,r=>by rw[List.map_nil]at r;cases r;exact .nil
 |k :: a,_,r=>by
  rw[Zm]at r;cases r with
  |cons h t=>exact .cons (lE h) (mS t)
abbrev KT(H:Hp):List (List Key×V)->List (List Key×GM×IR)->Prop:=Paired λp q=>p.1=q.1/\H q.2.1=Y (.tup (p.1.map kV))/\RelV p.2 q.2.2
def KT.val(r:KT H g d)(k:List Key):g7 (fO g k) ((atKey d k).map (·.2)):=by
 induction r with
 |nil=>exact True.intro
 |@cons p q m a h t i =>
  obtain⟨f,_,j⟩:=h;by_cases e:p.1=k
  ·have b:atKey (q :: a) k=Y q.2:=by simp[atKey,Yu,(f.symm.trans e)]
   rw[hU e,b];exact j
  ·have l:¬q.1=k:=λz=>e (f.trans z);have b:atKey (q :: a) k=atKey a k:=by simp[atKey,Yu,l]
   rw[mh e,b];exact i
def KT.KA(r:KT H g d)(k:List Key)(i:RelV y u) :
  KT H (g.map λb=>if b.1=k then (b.1,y) else b) (d.map (putAt k u)):=by
 induction r with
 |nil=>exact .nil
 |@cons p q n m h t j =>
  rw[Zm,Zm];refine .cons ?_ j;obtain⟨a,f,l⟩:=h;unfold putAt;by_cases e:p.1=k
  ·rw[Zr e,Zr (a.symm.trans e)];exact⟨a,f,i⟩
  ·rw[Zp e,Zp (λz=>e (a.trans z))];exact⟨a,f,l⟩
def KT.put(r:KT H d a)(k:List Key)(h:H b=Y (.tup (k.map kV)))(f:RelV y u) :
  KT H (putK d k y) (storedH a k b u):=by
 have e:(d.any λg=>decide (g.1=k))=(atKey a k).isSome:=by
  rw[pS,(r.val k).E6,Yf]
 unfold putK storedH;rw[e];by_cases q:(atKey a k).isSome=Z
 ·rw[Zr q,Zr q];exact r.KA k f
 ·rw[Zp q,Zp q];exact Paired.snoc r ⟨rfl,h,f⟩
def KT.keeps(r:KT H e d)(g:∀b a,H b=Y (.tup a)->f b=Y (.tup a)):KT f e d :=
 Paired.JS r λ_ _ z=>⟨z.1,g _ _ z.2.1,z.2.2⟩
section
def zG(b:FC P w H h)(e:Rd H a u):dh P w H h a u:=e.ok b
def kJ(f:FC P w H h)(e:Rd H a (.dK b)):b.length<=FS/\(a==sysModules)=O/\∃d,KV b d/\h.DictOf (bP P w) a d :=
 zG f e
def qj(f:FC P w H h)(e:H a=Y (.dK b)):b.length<=FS/\(a==sysModules)=O/\∃d,KV b d/\h.DictOf (bP P w) a d:=kJ f (.inl e)
def dC{b:List Key}(d:FC P w H h)(e:H a=Y (.tup (b.map kV))):(tupleKind (bP P w)).is h b a:=by
 obtain⟨_,f,r,_,o,j,i,n,g⟩:=(d a _ e)
 exact⟨o,f.toArray,n,j,i,g,by simpa using mS r⟩
def lq(g:FC P w H h)(e:Rd H a (.dT f)):f.length<=FS/\(a==sysModules)=O ∧
  ∃d,KT H f d/\h.DictOfH (tupleKind (bP P w)) a d:=by
 refine L2.ak λG j=>?_;obtain⟨z,y,d,r,o,C,D,B,A,v,u,s⟩:=(zG g e)
 refine j ?_;refine⟨z,y,d,r,o,C,D,B,A,v,u,λx b=>?_,s⟩;have all:∀{l:List (List Key×V)}{m:List (List Key×GM×IR)},KT H l m->∀x∈m,(tupleKind (bP P w)).is h x.1 x.2.1:=by
  intro l m q
  induction q with
  |nil=>intro x b;exact nomatch b
  |@cons p q F E i t n =>
   intro x b;rcases Zi.mp b with e | b
   ·subst e;exact dC g (by rw[← i.1];exact i.2.1)
   ·exact n x b
 exact all r x b
def CS(f:FC P w H h)(e:H a=Y (.dT b)):b.length<=FS/\(a==sysModules)=O ∧
  ∃d,KT H b d/\h.DictOfH (tupleKind (bP P w)) a d:=lq f (.inl e)
end
def gD(H:Hp)(a:GM)(y:V)(r:Option V):Prop :=
 (∃d k,Rd H a (.dK d)/\y=kV k/\r=fO d k)\/∃d k b,Rd H a (.dT d)/\y=.ref b/\H b=Y (.tup (k.map kV))/\r=fO d k
def pM(H:Hp)(a:GM)(y v:V)(e:Hp):Prop :=
 (∃d k,H a=Y (.dK d)/\y=kV k/\d.length<FS/\e=upd H a (.dK (putK d k v))) ∨
 ∃d k b,H a=Y (.dT d)/\y=.ref b/\H b=Y (.tup (k.map kV))/\d.length<FS/\e=upd H a (.dT (putK d k v))
theorem gD.k{a:GM}{b:List (Key×V)}{k:Key}(e:H a=Y (.dK b)):gD H a (kV k) (fO b k):=.inl ⟨b,k,.inl e,rfl,rfl⟩
theorem pM.k{a:GM}{b:List (Key×V)}{k:Key}{v:V}(e:H a=Y (.dK b))(d:b.length<FS):pM H a (kV k) v (upd H a (.dK (putK b k v))):=.inl ⟨b,k,e,rfl,d,rfl⟩
section
def Inv.big(I:Inv X pins R H s):sysModules<s.heap.objs.size:=by
 exact Nat.lt_trans (by decide) ((I.mod.glob.keeps I.bk).lt)
def ud{A:Pi}(q:A.units+1<cLine)(I:Inv X pins R H s)(g:gD H a y (Y v))(n:RelV y u)(h:∀d m,Inv X pins R H m->RelV v d->Q d m) :
  KB (FM X.prog X.w) A (getItem (.ref a) u) Q E s:=by
 rcases g with⟨B,k,e,f,l⟩ | ⟨B,k,b,e,f,x,l⟩
 ·subst f;obtain⟨z,hd,F,rel,i⟩:=kJ I.Eg e;obtain⟨d,hw,j⟩:=g7.some_of (v:=v) (by rw[l];exact rel.val k);exact wpAny_getItem_of (lE n) i.mapOf hw (h d _ (I.tok _) j)
 ·subst f;cases (n);obtain⟨z,hd,D,rel,i⟩:=lq I.Eg e;obtain⟨d,hw,j⟩:=g7.some_of (v:=v) (by rw[l];exact rel.val k);obtain⟨p,t,C⟩:=Zx.mp hw;refine wpAny_getItem_heap (Xz q) (dC I.Eg x) i t ?_;rw[C];exact h d _ (I.tok _) j
def DO{A:Pi}(m:A.units+1<cLine)(I:Inv X pins R H s)(g:gD H a y o)(j:RelV y u)(h:∀i,Inv X pins R H i->Q (.bool o.isSome) i) :
  KB (FM X.prog X.w) A (P3 .In u (.ref a)) Q E s:=by
 rcases g with⟨p,k,e,d,l⟩ | ⟨p,k,b,e,d,n,l⟩
 ·subst d;obtain⟨z,hd,x,rel,f⟩:=kJ I.Eg e;refine wpAny_in_of (lE j) hd f.mapOf ?_;rw[← (rel.val k).E6,← l];exact h _ (I.tok _)
 ·subst d;cases (j);obtain⟨z,hd,t,rel,f⟩:=lq I.Eg e;refine wpAny_in_heap (Xz m) (dC I.Eg n) hd f ?_;have q:=(rel.val k).E6;rw[Yf]at q;rw[← q,← l];exact h _ (I.tok _)
def yG{A:Pi}(m:A.units+1<cLine)(I:Inv X pins R H s)(g:gD H a y o)(j:RelV y u)(h:∀i,Inv X pins R H i->Q (.bool (!o.isSome)) i) :
  KB (FM X.prog X.w) A (P3 .NotIn u (.ref a)) Q E s:=by
 rcases g with⟨p,k,e,d,l⟩ | ⟨p,k,b,e,d,n,l⟩
 ·subst d;obtain⟨z,hd,x,rel,f⟩:=kJ I.Eg e;refine wpAny_notIn_of (lE j) hd f.mapOf ?_;rw[← (rel.val k).E6,← l];exact h _ (I.tok _)
 ·subst d;cases (j);obtain⟨z,hd,t,rel,f⟩:=lq I.Eg e;refine wpAny_notIn_heap (Xz m) (dC I.Eg n) hd f ?_;have q:=(rel.val k).E6;rw[Yf]at q;rw[← q,← l];exact h _ (I.tok _)
def kP(I:Inv X pins R H s)(i:Ep (H a))(j:Heap.SameBut a s.heap d)(he:∃q,d.get? a=Y q)(g:dh X.prog X.w (upd H a f) d a f) :
  Inv X pins R (upd H a f) { s with heap:=d,toks:=h } :=
 I.write (x:=a) (e:=a) i (.inl L) (λb q hb z=>(j.2 b hb).trans z) he g
def qP{f:Re}{e:List (Key×V)}(z:e.length<=FS)(g:(a==sysModules)=O)(d:KV e b)(h:f.DictOf (bP P w) a b) :
  dh P w i f a (.dK e):=⟨z,g,b,d,h⟩
def ur{A:Pi}(G:A.units+1<cLine)(I:Inv X pins R H s)(g:pM H a y v D)(x:RelV y u)(B:RelV v r)(h:∀t,Inv X pins R D t->Q () t) :
  KB (FM X.prog X.w) A (setItem (.ref a) u r) Q E s:=by
 rcases g with⟨p,k,e,j,l,m⟩ | ⟨p,k,b,e,j,C,l,m⟩
 ·subst j m;obtain⟨z,hd,vs,rel,n⟩:=qj I.Eg e;refine wpAny_setItem_pairs (hsz:=(by rw[← rel.length];exact z)) (lE x) n λS f i=>h _ ?_;exact kP I (by rw[e];exact True.intro) i (let ⟨q,_,_,d,_⟩:=f;⟨q,d⟩) (qP (by have:=iB p k v;lia) hd (rel.put k B) f)
 ·subst j m;cases (x);obtain⟨z,hd,xs,rel,n⟩:=CS I.Eg e;refine wpAny_setItem_heap (hsz:=(by rw[← Y7 rel];exact z)) (Xz G) (dC I.Eg C) n λS f i=>h _ ?_;refine L2.ak λP_ F=>?_;obtain⟨q,U,ep,d,P,N,L,_,J⟩:=f;refine F ?_;refine kP I (by rw[e];exact True.intro) i ⟨q,d⟩ ⟨(by have:=iB p k v;lia),hd,_,(rel.put k C B).keeps λc ys ec=>?_,q,U,ep,d,P,N,L,J⟩;rw[ax (C7 ec e (λz=>nomatch z))];exact ec
end
section
def C8(I:Inv X pins R H s)(e:Rd H a (.dK cv))(h:∀t b,Inv X pins R H b->Q (.int cv.length t) b):KB (FM X.prog X.w) A (call (.builtin "len") [.ref a]) Q E s:=by
 obtain⟨z,hd,f,rel,d⟩:=kJ I.Eg e;refine call_len_dict hd d (by rw[← rel.length];rw[Xy]at z;lia) ?_;rw[← rel.length];exact h _ _ (I.tok _)
end
def p8(I:Inv X d R H s)(g:gD H a y o):s.TypeIs (.ref a) "dict" := by
 rcases g with⟨h,k,e,_,_⟩ | ⟨h,k,b,e,_,_,_⟩
 ·obtain⟨_,_,j,_,f⟩:=kJ I.Eg e;exact f.typeIs
 ·obtain⟨_,_,i,_,f⟩:=lq I.Eg e;exact f.typeIs
def pd{w:SC}(h:Re)(a:sysModules<h.objs.size):dh P w H (h.push { cls:=.type "dict",data:=.dict #[] }) h.objs.size (.dK []) :=
 ⟨YT _,beq_eq_false_iff_ne.mpr (Yb (ZV a)),[],.nil,Heap.DictOf.new h⟩
def AX:TE:=λ_ H Q=>∀p,H p=M->Q (.ref p) (upd H p (.dK []))
section
def vD:PE X (.Dict [] [] pos) AX:=λa s R H Q I h =>
 wpAny_Dict_empty ⟨.ref s.heap.objs.size,_,I.laid (λ_ _ q=>Zl _ q) (Zj _) (pd s.heap I.big),rfl,h _ (I.Eg.fresh (Zj _))⟩
end
noncomputable def qZ:List (TE×TE)->St->Hp->(List (V×V)->Hp->Prop)->Prop
 |[],_,H,Q=>Q [] H
 | (b,a) :: r,R,H,Q=>b R H λx g=>a R g λy f=>qZ r R f λd e=>Q ((x,y) :: d) e
abbrev VV:List (V×V)->List (IR×IR)->Prop:=Paired λp q=>RelV p.1 q.1/\RelV p.2 q.2
def PPs(X:Cx)(e:Pos)(d:List (Option Expr))(a:List Expr)(j:List (TE×TE)):Prop :=
 ∀(b:Xj)(s:FB)(R:St)(H:Hp)(Q:List (V×V)->Hp->Prop),Inv X b R H s->qZ j R H Q →
  KB (FM X.prog X.w) X.A (evalPairs (pairTrees d a X.env e)) (λh i=>∃f g,Inv X b R g i/\VV f h/\Q f g) X.xe s
def xN:PPs X a [] [] []:=λb s R H Q I h=>pairTrees_nil_walk ⟨[],H,I,.nil,h⟩
def xq(w:PE X k f)(r:PE X v e)(t:PPs X b g d i) :
  PPs X b (Y k :: g) (v :: d) ((f,e) :: i):=λa s R H Q I h =>
 pairTrees_cons_walk (thn (w a s R H _ I h) λu l ⟨x,E,B,n,q1⟩=>thn (r a l R E _ B q1) λG j ⟨y,D,A,m,p⟩ =>
  thn (t a j R D _ A p) λF J ⟨q,C,z,rel,o⟩=>⟨(x,y) :: q,C,z,.cons ⟨n,m⟩ rel,o⟩)
def nG(d a:List (Key×V)):List (Key×V):=a.foldl (λacc b=>putK acc b.1 b.2) d
def KV.merge:∀{more:List (Key×V)}{d:List (Key×IR)}{b:List (Key×V)}{a:List (Key×IR)},KV more d->KV b a->KV (nG b more) (merged a d):=by
 intro more d b a r
 induction r generalizing b a with
 |nil=>intro q;exact q
 |@cons p q j i h t g =>
  intro f;have e:KV (putK b p.1 p.2) (stored a q.1 q.2):=by
   have:=f.put p.1 h.2;rw[← h.1];exact this
  exact g e
theorem iO:∀(more a:List (Key×V)),(nG a more).length<=a.length+more.length
 |[],a=>by exact YM _ _
 |p :: r,a=>by
  have d:=iO r (putK a p.1 p.2);have b:=iB a p.1 p.2;show (nG (putK a p.1 p.2) r).length<=_;rw[ZU];lia
theorem lN{P:PP}{w:SC}:∀{e:List (Key×V)}{f:List (IR×IR)},VV (e.map λg=>(kV g.1,g.2)) f->∃d,Carries (bP P w) f d/\KV e d
 |[],_,r=>by rw[List.map_nil]at r;cases r;exact⟨[],True.intro,.nil⟩
 |p :: e,_,r=>by
  rw[Zm]at r;cases r with
  |@cons a b l bs h t =>
   obtain⟨d,c,q⟩:=lN (P:=P) (w:=w) t;obtain⟨j,i⟩:=b;exact⟨(p.1,i) :: d,⟨lE h.1,rfl,c⟩,.cons ⟨rfl,h.2⟩ q⟩
def CJ(f:List (TE×TE)):TE:=λR H Q=>∀p,H p=M->qZ f R (upd H p (.dK [])) λe d=>d p=Y (.dK [])/\∃a:List (Key×V),e=a.map (λb=>(kV b.1,b.2))/\a.length<=15/\Q (.ref p) (upd d p (.dK (nG [] a)))
def xJ(h:PPs X d a b g)(F:a.all (·.isSome)=Z)(u:a.length=b.length)(y:a≠[])(D:a.length<=15):PE X (.Dict a b d) (CJ g):=by
 intro f s R H Q I q;have E:=I.laid (t':=s.toks) (λ_ _ q=>Zl _ q) (Zj _) (pd s.heap I.big);refine wpAny_Dict_walk (knd:=bP X.prog X.w) F u y D (thn (h f _ R _ _ E (q _ (I.Eg.fresh (Zj s.heap.objs.size)))) λG J v=>?_);obtain⟨L,U,j,rel,e,C,A,lk,o⟩:=v;refine L2.ak λS p=>?_;subst A;obtain⟨l,c,m⟩:=lN (w:=X.w) rel;obtain⟨z,hd,P,n,B⟩:=qj j.Eg e;cases n;refine p ?_;refine⟨l,c,B,λN i r=>⟨.ref s.heap.objs.size,_,?_,rfl,o⟩⟩;exact kP j (by rw[e];exact True.intro) r (let ⟨q,_,_,t,_⟩:=i;⟨q,t⟩) (qP (by
  have x:=iO C [];rw[XF]at x;rw[Xy];lia) hd (m.merge .nil) i)
structure M1(X:Cx)(o:Expr)(m:Str)(apos:Pos)(e:Expr)(pe:Pos):Prop where
 base:SL o m X.env (eval o X.env)=eval o X.env
 J0:((backTo pe (KM [e] X.env)).all (λx=>!x.1)&&(backToKw pe (Pv [] X.env)).all (λx=>x.1.isSome)
  && decide (([e]:List Expr).length+([]:List Keyword).length+(if ([]:List Keyword).isEmpty then 0 else 1)<30))=true
 line:(apos.endLine==pe.line)=true
 trees:backTo pe (KM [e] X.env)=[(false,eval e X.env)]
def Rz(H:Hp)(a:GM):Prop:=(∃b,Rd H a (.dK b))\/∃b,Rd H a (.dT b)
def Ar(I:Inv X g R H s)(d:Rz H a) :
  s.TypeIs (.ref a) "dict" ∧ (∀b,Value.ref a=.ref b->∃f,s.heap.get? b=Y f/\f.dict=M)/\(a==sysModules)=O:=by
 rcases d with⟨l,e⟩ | ⟨l,e⟩
 ·obtain⟨_,hd,n,_,h⟩:=kJ I.Eg e;refine⟨h.typeIs,λb q=>?_,hd⟩;cases q;obtain⟨f,_,_,j,i,_⟩:=h;exact⟨f,j,i.2.1⟩
 ·obtain⟨_,hd,m,_,h⟩:=lq I.Eg e;refine⟨h.typeIs,λb q=>?_,hd⟩;cases q;obtain⟨f,_,_,j,i,_⟩:=h;exact⟨f,j,i.2.1⟩
section
def B1{A:Pi}(q:A.units+1<cLine)(I:Inv X pins R H s)(g:gD H a y o)(n:RelV y u)(h:∀j m,Inv X pins R H m->RelV (o.getD .non) j->Q j m) :
  KB (FM X.prog X.w) A (call (.builtin "dict.get") [.ref a,u]) Q E s:=by
 rcases g with⟨v,k,e,i,l⟩ | ⟨v,k,b,e,i,t,l⟩
 ·subst i;obtain⟨z,hd,x,rel,f⟩:=kJ I.Eg e;refine call_meetsIn XC f.typeIs PySem.F.entry_dict_get (PySem.F.args_dict_get_2 _ _) (meets_dict_get (bP X.prog X.w) a (lE n) hd) ⟨_,f.mapOf,h _ _ (I.tok _) ?_⟩;rw[l];exact(rel.val k).getD L
 ·subst i;cases (n);obtain⟨z,hd,p,rel,f⟩:=lq I.Eg e;refine call_meetsIn XC f.typeIs PySem.F.entry_dict_get (PySem.F.args_dict_get_2 _ _) (meetsH_dict_get (tupleKind (bP X.prog X.w)) a b hd) ⟨Xz q,k,p,dC I.Eg t,f,h _ _ (I.tok _) ?_⟩;rw[l];exact(rel.val k).getD L
end
def B4(f e:TE):TE:=λR H Q=>f R H λx d=>∃a,x=.ref a/\Rz d a/\e R d λy b=>∃o,gD b a y o/\Q (o.getD .non) b
section
def wJ{X:Cx}(t:X.A.units+1<cLine)(v:PE X o td)(he:PE X e ty)(m:M1 X o "get" apos e pe):PE X (.Call (.Attribute o "get" apos) [e] [] pe) (B4 td ty):=by
 intro b s R H Q I h;refine wpAny_Call_method m.base m.J0 m.line PySem.F.plainAttrs_dict XC PySem.F.type_dict_get (thn (v b s R H _ I h) λu n w=>?_);obtain⟨x,E,i,q,a,ex,d,q1⟩:=w;subst ex;obtain rfl:u=Value.ref a:=q;obtain⟨l,j,_⟩:=Ar i d;refine⟨l,j,?_⟩;rw[m.trees];refine Calls.callWith_builtin L (Wq (Calls.spliced_cons (thn (he b n R E _ i q1) λiv N ⟨y,D,C,p,P,g,r⟩=>Calls.spliced_nil ?_)));exact B1 t C g p λG J B z=>⟨_,D,B,z,r⟩
end
end L2
namespace RE
open PySem PySem.W PySem.Calls PyProof.Rows
def kK:∀(ns:We)(d:Wh),WellAll P h d (ns.map WData.int)->IntsAre d ns:=by
 intro ns
 induction ns with
 |nil =>
  intro d w;rw[List.map_nil]at w;cases w;exact .nil
 |cons n ns e =>
  intro d w;rw[Zm]at w;cases w with
  |cons a b =>
   cases a;exact .cons _ _ (e _ b)
def tH{l:OpenLaw}(t:l.most=Y n)(f:l.row.toRowW.claim.pre b=Z)(g:WellAll P h e b) :
  ∃a j ns,e=[Value.ref a]/\b=[WData.list (ns.map WData.int)]/\h.get? a=Y { cls:=.type "list",data:=.seq j.toArray }/\IntsAre j ns/\ns.length<=n:=by
 have u:l.pre.holds [] { args:=b }=Z:=(pre_splitW f).2;obtain⟨d,r,rfl,x,w⟩:=hasAllW_cons ((pre_splitW f).1);obtain rfl:=hasAllW_nil w;obtain⟨z,rfl,v⟩:=hasW_list x;obtain⟨ns,rfl⟩:=items_int v;have hlen:ns.length<=n:=by
  have i:=condW_of (by
   have m:=(holds_andW u).1;rw[t]at m;exact m) (w_not (w_lt w_lit (w_len_list (w_arg L))))
  rw[Zw]at i;refine ZQ λq=>?_
  first
   | (rw[decide_eq_true (by omega)]at i;exact absurd i (by decide))
   | (omega)
 cases g with
 |cons p o =>
  cases o;cases p with
  |list s y=>exact⟨_,_,ns,rfl,rfl,s,kK ns _ y,hlen⟩
def tN(l:OpenLaw)(a:List WData):l.row.toRowW.claim.post a (.bool Z) a=Z :=
 postW_of
  (by first | rfl | decide | simp[WShape.has,WShape.arms,WShape.armsAll])
  (w_eq_bool (w_res L) w_lit) L
def qh{l:OpenLaw}{d:DefRec}(D:l.most=some n)(P:d.params.defaults=[])(j:∀(w:SC)(p b:FB)(mg mb:Wj)(i:GM)(o:Obj)(pm cd doc:IR)(a:GM)(g:Wh)(ns:We),
   Ground q e [] z w p mg mb b.heap->y w b.heap →
   b.heap.get? i=some o->o.data=.func (docDef d.name d.params d.body d.scope pm cd doc)->b.heap.CodeRec cd d.name->mg d.name=some (.ref i) →
   b.heap.get? a=some { cls:=.type "list",data:=.seq g.toArray }->IntsAre g ns->ns.length<=n->b.gens=#[] →
   codeAny (FM l.prog w) callerA (.call (.ref i) ⟨[.ref a],[]⟩) (λr m=>r=.ok (.ret (.bool Z))/\OldK b.heap m.heap/\m.os=b.os/\AllBare m.gens) b) :
  WalkO q e z y l.row.toRowW d [] (λf g=>PySem.call f g):=by
 intro w p b mg mb G Y i o pm cd doc N kV C hd u x t hg args vals R h v A s F;obtain rfl:N=.none:=Dflts.none x P;obtain rfl:kV=.none:=Dflts.noKw x;obtain⟨a,g,ns,rfl,rfl,Q,hints,hlen⟩:=tH D h s;refine enter_call (YG (j w p b mg mb i o pm cd doc a g ns G Y C (fd_plain hd) u t Q hints hlen hg) λr m B=>?_);obtain⟨rfl,L,J,H⟩:=B;exact⟨.inl ⟨.bool Z,.bool Z,[],rfl,λ_=>rfl,.bool Z,tN l _,λ_=>⟨List.Pairwise.nil,λ_ E=>(nomatch E)⟩⟩,L,J,H⟩
end RE
namespace L2
open PySem PySem.Spec PyProof.Rows
theorem ni:∀{a:Wh}{ns:We},IntsAre a ns->aI (ns.map V.int) a
 |_,_,.nil=>.nil
 |_,_,.cons n t h=>.cons ⟨t,rfl⟩ (ni h)
noncomputable def uO(H:Hp):Prop:=∀b,H b=M\/∃o a,H b=Y (.frz o (.lst a))
def wx{K:Wv}{f:FB}{j:Wh}(KX:K.In f.heap)(NL:f.heap.Ns mainGlobals p)(g:f.heap.Ns builtinsNs C)(LJ:∀x:Str,x ≠ "__name__" → C x=bootBuiltins x)(OU:f.heap.NoLimit)(hg:f.gens=#[])(t:f.heap.get? a=Y { cls:=.type "list",data:=.seq j.toArray })(R:IntsAre j l)(Q:l.length<=FS)(hr:gV k callerA)(F:∀base:Re,K.In base->base.Ns mainGlobals p->FnOk P w K p base CX k E X [x] J)(MQ:∀(s:FB)(u:IR),BindsTo s X ⟨[u],[]⟩ [(x,u)])(Im:∀H:Hp,uO H->EW K H a (l.map V.int)->J [.ref a] H (λv _=>v=.bl Z) λ_ _ _=>False)(O9:∀H e i,CX [] H f (λ_ _ _=>False) e i->False) :
  codeAny (FM P w) callerA (.call (.ref E) ⟨[.ref a],[]⟩) (λr i=>r=.ok (.ret (.bool Z))/\OldK f.heap i.heap/\i.os=f.os/\AllBare i.gens) f:=by
 have N:=ni R;have core:∀H:Hp,uO H->EW K H a (l.map V.int)->FC P w H f.heap->(∀b,H b≠M->b=a)->(H a≠M->K.lookup a=M) →
   codeAny (FM P w) callerA (.call (.ref E) ⟨[.ref a],[]⟩) (λr i=>r=.ok (.ret (.bool Z))/\OldK f.heap i.heap/\i.os=f.os/\AllBare i.gens) f:=by
  intro H S hS Eg U hK;have Ir:∀{b:GM}{o:Obj},f.heap.get? b=Y o->H b=M->(pB f.heap H).get? b=Y o:=λe n=>vz e n;have Mu:∀{b:GM}{o:Obj}{y:Array DictEntry}{A:Nat},f.heap.get? b=Y o->o.data=.dict y A->H b=M:=λ{b o y A} e d=>by
   cases q:H b with
   |none=>rfl
   |some u =>
    have G:b=a:=U b (by rw[q];simp);subst G;rw[t]at e;cases e;cases d
  have B:∀{b:GM}{m:Wj},f.heap.Ns b m->(pB f.heap H).Ns b m:=λ{b m} ⟨o,y,A,e,d,r⟩=>⟨o,y,A,Ir e (Mu e d),d,r⟩
  have QN:=λb o e=>Ir (KX b o e) (by
   cases q:H b with
   |none=>rfl
   |some u =>
    have G:b=a:=U b (by rw[q];simp);subst G;rw[hK (by rw[q];simp)]at e;cases e)
  have hM:Mod K p (pB f.heap H):=⟨QN,B NL,⟨C,B g,LJ⟩,let ⟨mc,h1,h2⟩:=OU;⟨mc,B h1,h2⟩⟩
  refine YG ((F _ QN (B NL)).run callerA [] f H ⟨[.ref a],[]⟩ [.ref a] [.ref a] _ _ hr (⟨rfl,hM,λb q e=>(x9.mp e).1,λb o e=>xK e,Xl (tu _ _),trivial,λb g=>absurd (show b∈([]:Wi) from g) (by simp),Eg,.of_eq hg⟩) (MQ f (.ref a)) (.cons L .nil) (Im H S hS)) λr i h=>?_;cases r with
  |error e=>exact(O9 H e i h).elim
  |ok fl =>
   cases fl with
   |next=>exact False.elim h
   |brk=>exact False.elim h
   |cont=>exact False.elim h
   |ret u =>
    obtain⟨v,H',os,bare,un,OP,r',q⟩:=h;subst q;obtain rfl:u=Value.bool Z:=r';refine⟨rfl,OldK.of_keep λb o e=>?_,os,bare⟩;cases q:H b with
    |none=>exact un.keep b o e q (by intro z;exact absurd (show b∈([]) from z) (by simp)) (by simp)
    |some u =>
     rcases S b with z | ⟨ob,xs,z⟩
     ·rw[q]at z;cases z
     ·obtain⟨e1,_⟩:=Eg b _ z;obtain⟨e2,_⟩:=OP b _ (un.FP b ob _ z);rw[e]at e1;cases e1;exact e2
 cases D:K.lookup a with
 |some o =>
  have e:=KX a o D;rw[t]at e;cases e;refine core (λ_=>M) (λ_=>.inl L) (.inr ⟨_,j.toArray,_,D,rfl,rfl,rfl,by rw[ZW,R.length];exact Q,by simpa using N⟩) (λb u z=>by cases z) (λb z=>absurd L z) λz=>absurd L z
 |none =>
  refine core (λb=>if b=a then Y (.frz { cls:=.type "list",data:=.seq j.toArray } (.lst (l.map V.int))) else M) (λb=>?_) (.inl (.inr ⟨{ cls:=.type "list",data:=.seq j.toArray },Zr L⟩)) (λb u z=>?_) (λb z=>?_) λ_=>D
  ·by_cases g:b=a
   ·exact .inr ⟨_,_,Zr g⟩
   ·exact .inl (Zp g)
  ·by_cases g:b=a
   ·cases ((Zr g).symm.trans z);subst g;exact⟨t,by rw[Zw];exact Q,j,_,N,t⟩
   ·cases ((Zp g).symm.trans z)
  ·by_cases g:b=a
   ·exact g
   ·exact absurd (Zp g) z
def yW{l:PySem.W.OpenLaw}{n k:Nat}{q:PP}{i:List Str}{Q:(Wj)->Re->Prop}{y:SC->Re->Prop}{d:DefRec}{K:Params->Wv}{A:SC->IK}{t:SC->Sp}{x:Str}(D:l.most=some n)(U:n<=FS)(S:d.params.defaults=[])(C:gV k callerA)(J:∀(w:SC)(h:Re),y w h->(K w.params).In h)(F:∀(w:SC)(mg:Wj)(j:GM)(h:Re),(K w.params).In h->h.Ns mainGlobals mg->mg d.name=some (.ref j) →
   ∃fd:On,(∀(s:FB)(u:IR),BindsTo s fd ⟨[u],[]⟩ [(x,u)]) ∧
    ∀base:Re,(K w.params).In base->base.Ns mainGlobals mg->FnOk l.prog w (K w.params) mg base (A w) k j fd [x] (t w))(Im:∀(w:SC)(H:Hp)(a:GM)(ns:We),ns.length<=n->uO H->EW (K w.params) H a (ns.map V.int)->t w [.ref a] H (λv _=>v=.bl Z) λ_ _ _=>False)(R:∀(w:SC)(H:Hp)(s:FB)(e:IR)(m:FB),A w [] H s (λ_ _ _=>False) e m->False) :
  PySem.W.WalkO q i Q y l.row.toRowW d [] (λf r=>PySem.call f r):=by
 refine RE.qh D S λw s₀ B mg mb j o pm cd doc a r ns G Y ho hd E p X hints hlen hg=>?_;have z:=J w _ Y;obtain⟨fd,hb,P⟩:=F w mg j _ z G.T.g p;exact wx z G.T.g G.T.b G.T.builtins G.T.nolimit hg X hints (ZF hlen U) C P hb (λH N L=>Im w H a ns hlen N L) λH e m=>R w H B e m
noncomputable def inClass(s:Stmt)(j:Nat):Stmt:=match s with
 |.ClassDef _ _ _ body _ _ _ _ _ _ _=>body.getD j (.Pass ⟨0,0,0,0⟩)
 |_=>.Pass ⟨0,0,0,0⟩
noncomputable def bW(s:Stmt):Arguments:=match s with
 |.FunctionDef _ a _ _ _ _ _ _ _ _=>a
 |_=>{ posonlyargs:=[],args:=[],vararg:=M,kwonlyargs:=[],kw_defaults:=[],kwarg:=M,defaults:=[] }
noncomputable def aD(s:Stmt):List Stmt:=match s with
 |.FunctionDef _ _ b _ _ _ _ _ _ _=>b
 |_=>[]
noncomputable def ah(s:Stmt):Scope:=match s with
 |.FunctionDef _ _ _ _ _ _ sc _ _ _=>sc
 |_=>{ kind:=.function,names:=[],isGenerator:=O,isCoroutine:=O }
noncomputable abbrev EX:IK:=λ_ _ _ _ _ _=>False
noncomputable abbrev E0:XK:=λ_ _ _=>False
def kG{X:Cx}:iy EX X E0:=λ_ _ _ _ _ _ _ h=>h.elim
structure Er(K:Wv)(x qual:Str)(st:Stmt)(f:GM)(fd:On):Prop where
 ex:∃(oc:IR)(od:Option GM)(kV doc pm:IR)(an:Option GM)(Eh ct:IR)(G8:Array (Wg)),
  fd=PySem.W.fnOf x qual (bW st) (aD st) (ah st) .none kV doc pm an Eh ct/\K.lookup f=some ⟨oc,od,.func fd,G8⟩/\PySem.W.codeIn K Eh qual=true
 kp:PySem.W.keepIn K (.ref f)=true
section
variable{K:Wv}
def Er.ok{k:Nat}(F:Er K x a d f m)(S:cg N i (ah d))(j:∀b H Q E,g b H Q E->b.length=i.length)(r:∀(e:IR)(A:Pi)(outer:List Env)(s:FB)(H:Hp)(b:List V)(Q:VK)(E:XK),gV k (A.deeper (envOfC a (ah d) s.heap.objs.size f e))->g b H Q E →
   ∃t,Gi (fh EX P w K mg base N a (ah d) f e A outer s H E).EO (aD d) t/\t { nx:=λ_ p=>Q .non p,rt:=Q } (start N b) H):FnOk P w K mg base EX (k+1) f m i g:=by
 obtain⟨oc,u,kV,doc,pm,an,e,ct,v,rfl,lk,l⟩:=F.ex;refine rq lk l S j λA outer s H b Q E n o=>?_;obtain⟨t,h,q⟩:=r e A outer s H b Q E n o;exact⟨t,h.EO,q⟩
def Er.binds{e:List Str}(F:Er K x a b f i)(h:∀(kV doc pm:IR)(an:Option GM)(g ct:IR)(d:Wh),d.length=e.length->bindArgs (PySem.W.fnOf x a (bW b) (aD b) (ah b) .none kV doc pm an g ct) ⟨d,[]⟩=pure (e.zip d)):Binds K i e []:=by
 obtain⟨oc,l,kV,doc,pm,an,g,ct,m,rfl,lk,j⟩:=F.ex;exact .all (h kV doc pm an g ct)
def vF{st:Stmt}(l:K.lookup f=Y ⟨m,j,.func (PySem.W.fnOf x a (bW st) (aD st) (ah st) .none g b e i d h),n⟩)(c:PySem.W.codeIn K d a=Z)(k:PySem.W.keepIn K (.ref f)=Z):Er K x a st f (PySem.W.fnOf x a (bW st) (aD st) (ah st) .none g b e i d h):=⟨⟨m,j,g,b,e,i,d,h,n,rfl,l,c⟩,k⟩
end
def iQ(a:gV k A):A.units+1<cLine:=Nat.lt_of_le_of_lt (Nat.add_le_add_left (by decide:1<=64) _) a.units
def qW{A B:Prop}(h:B):if O=Z then A else B:=by
 rw[Zp Zh];exact h
def qF{A B:Prop}(h:A):if Z=Z then A else B:=by
 rw[Zr L];exact h
noncomputable def aM(H a:Hp):Prop:=∀b o,H b=Y o->a b=Y o
def aM.refl(H:Hp):aM H H:=λ_ _ h=>h
def aM.trans(a:aM H e)(b:aM e d):aM H d:=λc o h=>b c o (a c o h)
def aM.free(e:aM H a)(h:a l=M):H l=M:=by
 cases q:H l with
 |none=>rfl
 |some o =>
  rw[e l o q]at h;cases h
end L2
end
section
namespace L2
open PySem PySem.Spec PyProof.Rows
abbrev mH:=List (List Key)
def hN(w:SC)(k:mH):Int:=reduceHash (Builtin.Tuple.tupleHashOf (k.map λx=>reduceHash (Builtin.Tuple.tupleHashOf (x.map (CH w)))))
def DJ(w:SC)(x:mH×GM×IR):DictEntry:=⟨hN w x.1,.ref x.2.1,x.2.2⟩
abbrev KN:List (mH×GM×V)->List (mH×GM×IR)->Prop:=Paired λp q=>p.1=q.1/\p.2.1=q.2.1/\RelV p.2.2 q.2.2
def DN(a:GM)(e:List (mH×GM×V)):HO:=.ext λw h=>e.length<=FS/\(a==sysModules)=O/\∃b:List (mH×GM×IR),KN e b ∧
 ∃o d f,h.get? a=Y o/\o.ExactDict/\o.data=.dict d f/\d.toList=b.map (DJ w)/\(b.map (·.1)).Nodup
def N3(H:Hp)(k:mH)(b:GM):Prop:=∃a:Wi,H b=Y (.tup (a.map V.ref))/\Paired (λ(x:List Key) (c:GM)=>H c=Y (.tup (x.map kV))) k a
def N3.mono{k:mH}(x:N3 H k b)(t:∀a d,H a=Y (.tup d)->e a=Y (.tup d)):N3 e k b:=by
 obtain⟨f,h,r⟩:=x;exact⟨f,t _ _ h,Paired.JS r λ_ _ z=>t _ _ z⟩
end L2
end
section
namespace VS
open PySem PySem.Spec PyProof.Rows L2
noncomputable def sx(s:Tx):Str:=⟨s.toArray⟩
def my(s:Tx):Prop:=s.length<=dH/\∀c∈s,c<1114112
noncomputable abbrev Me:=Nat->Option V
structure Gx where
 K:Wv
 ct:Nat->GM×(Nat->Str)
 me:Me:=λ_=>none
 ec:Nat->Addr:=λ_=>0
noncomputable def Gx.at(G:Gx)(m:Me):Gx:=⟨G.K,G.ct,m,G.ec⟩
noncomputable def aZ:Key->T
 |.inl i=>.int i
 |.inr x=>.str x.cps.toList
def Se(k:mH):T:=.tup (k.map λx=>T.tup (x.map aZ))
def jo(K:Wv)(H:Hp)(a:GM)(d:We):Prop :=
 (∃o,H a=Y (.frz o (.lst (d.map V.int)))) ∨
  ∃(o:Obj)(b:Array IR)(n:Nat),K.lookup a=Y o/\o.cls=.type "list" ∧ o.dict=M/\o.data=.seq b n/\b.size<=FS/\aI (d.map V.int) b.toList
mutual
inductive Rp(G:Gx)(H:Hp):V->T->Wi->Prop
 |non:Rp G H .non .non []
 |bl (b:Bool):Rp G H (.bl b) (.bl b) []
 |int (i:Int):Rp G H (.int i) (.int i) []
 |str (s:Tx):my s->Rp G H (.str (sx s)) (.str s) []
 |scr {a:GM} {ns:We}:jo G.K H a ns->Rp G H (.ref a) (.scr ns) []
 |tup {a:GM} {vs:List V} {ts:W3} {Fs:Xd}:H a=some (.tup vs)->RpL G H vs ts Fs->Rp G H (.ref a) (.tup ts) Fs.flatten
 |lst {a:GM} {vs:List V} {ts:W3} {Fs:Xd}:H a=some (.lst vs)->RpL G H vs ts Fs->Rp G H (.ref a) (.lst ts) (a :: Fs.flatten)
 |dct {a:GM} {ks:List Key} {vs:List V} {ts:W3} {Fs:Xd}:H a=some (.dK (ks.zip vs))->ks.length=vs.length->RpL G H vs ts Fs->Rp G H (.ref a) (.dct 0 ((ks.map aZ).zip ts)) (a :: Fs.flatten)
 |dctT {a:GM} {ks:List (List Key)} {vs:List V} {ts:W3} {Fs:Xd}:H a=some (.dT (ks.zip vs))->ks.length=vs.length->RpL G H vs ts Fs->Rp G H (.ref a) (.dct 1 ((ks.map λk=>T.tup (k.map aZ)).zip ts)) (a :: Fs.flatten)
 |dctN {a:GM} {ks:List (mH×GM)} {vs:List V} {ts:W3} {Fs:Xd}:H a=some (DN a ((ks.zip vs).map λp=>(p.1.1,p.1.2,p.2)))->ks.length=vs.length->(∀p∈ks,N3 H p.1 p.2)->RpL G H vs ts Fs->Rp G H (.ref a) (.dct 2 ((ks.map λp=>Se p.1).zip ts)) (a :: Fs.flatten)
 |dctZ {a:GM} {o:Obj} {ks:List Key} {vs:List V} {ts:W3} {Fs:Xd}:H a=some (.frz o (.dK (ks.zip vs)))->ks.length=vs.length->RpL G H vs ts Fs->Rp G H (.ref a) (.dct 3 ((ks.map aZ).zip ts)) Fs.flatten
 |exc {c:Nat} {a:GM} {o:Obj}:H a=some (.frz o (.own a))->(o.cls=.ref (G.ec c)/\o.dict=none/\∃vs,o.data=.fields vs)->Rp G H (.ref a) (.obj c []) []
 |ins {c:Nat} {a dx:GM} {b:Bool} {ks:Wf} {vs:List V} {ts:W3} {Fs:Xd}:H a=some (.ins (G.ct (c+1)).1 dx ((ks.map (G.ct (c+1)).2).zip vs))->ks.length=vs.length->(b=true->G.me 0=some (.ref a))->RpL G H vs ts Fs->Rp G H (.ref a) (.obj (c+1) ((0,.bl b) :: ks.zip ts)) (a :: Fs.flatten)
 |mk {m:Nat} {a:GM} {t:T} {F:Wi}:G.me m=some (.ref a)->Rp G H (.ref a) t F->Rp G H (.ref a) (.obj 0 [(0,.bl true),(m,t)]) F
inductive RpL(G:Gx)(H:Hp):List V->W3->Xd->Prop
 |nil:RpL G H [] [] []
 |cons {v:V} {t:T} {F:Wi} {vs:List V} {ts:W3} {Fs:Xd}:Rp G H v t F->RpL G H vs ts Fs->RpL G H (v :: vs) (t :: ts) (F :: Fs)
end
def Rx(G:Gx)(H:Hp)(v:V)(F:Wi):T->Prop
 |.non=>v=.non
 |.bl b=>v=.bl b
 |.int b=>v=.int b
 |.str b=>v=.str (sx b)/\my b
 |.scr l=>∃a,v=.ref a/\F=[]/\jo G.K H a l
 |.tup l=>∃a e f,v=.ref a/\F=f.flatten/\H a=Y (.tup e)/\RpL G H e l f
 |.lst l=>∃a e f,v=.ref a/\F=a :: f.flatten/\H a=Y (.lst e)/\RpL G H e l f
 |.dct d l=>match d with
  |0=>∃(a:GM)(g:List Key)(e:List V)(h:W3)(f:Xd),v=.ref a/\F=a :: f.flatten/\H a=Y (.dK (g.zip e))/\g.length=e.length/\l=(g.map aZ).zip h/\RpL G H e h f
  |3=>∃(a:GM)(o:Obj)(g:List Key)(e:List V)(h:W3)(f:Xd),v=.ref a/\F=f.flatten/\H a=Y (.frz o (.dK (g.zip e)))/\g.length=e.length/\l=(g.map aZ).zip h/\RpL G H e h f
  |_=>True
 |.obj c fs=>match c,fs with
  |c+1,q0 :: fs=>∃(i:Nat)(a j:GM)(b:Bool)(g:Wf)(e:List V)(h:W3)(f:Xd),c+1=i+1/\v=.ref a/\q0=(0,.bl b)/\fs=g.zip h/\F=a :: f.flatten/\H a=Y (.ins (G.ct (i+1)).1 j ((g.map (G.ct (i+1)).2).zip e))/\g.length=e.length/\(b=Z->G.me 0=Y (.ref a))/\RpL G H e h f
  |0,fs=>∀m t,fs=[(0,.bl Z),(m,t)]->∃a,v=.ref a/\G.me m=Y (.ref a)/\Rp G H (.ref a) t F
  |_,_=>True
def Rp.inv(r:Rp G H v t F):Rx G H v F t:=by
 cases r with
 |str s h=>exact⟨rfl,h⟩
 |scr h=>exact⟨_,rfl,rfl,h⟩
 |tup h q=>exact⟨_,_,_,rfl,rfl,h,q⟩
 |lst h q=>exact⟨_,_,_,rfl,rfl,h,q⟩
 |dct h a q=>exact⟨_,_,_,_,_,rfl,rfl,h,a,rfl,q⟩
 |dctZ h a q=>exact⟨_,_,_,_,_,_,rfl,rfl,h,a,rfl,q⟩
 |@exc c=>exact Nat.casesOn (motive:=λc=>Rx G H _ [] (.obj c [])) c (λ_ _ e=>nomatch e) λ_=>trivial
 |ins h l m q=>exact⟨_,_,_,_,_,_,_,_,rfl,rfl,rfl,rfl,rfl,h,l,m,q⟩
 |mk h q=>exact λ_ _ e=>by cases e;exact⟨_,rfl,h,q⟩
 |dctT _ _ _=>trivial
 |dctN _ _ _ _=>trivial
 |_=>rfl
structure Kept(H H':Hp):Prop where
 tup:∀a xs,H a=some (.tup xs)->H' a=some (.tup xs)
 frz:∀a o u,H a=some (.frz o u)->H' a=some (.frz o u)
def Kept.refl(H:Hp):Kept H H:=⟨λ_ _ h=>h,λ_ _ _ h=>h⟩
def Kept.trans(a:Kept H e)(b:Kept e d):Kept H d:=⟨λc x h=>b.tup c x (a.tup c x h),λc o u h=>b.frz c o u (a.frz c o u h)⟩
def Kept.of(e:aM H b):Kept H b:=⟨λa _ h=>e a _ h,λa _ _ h=>e a _ h⟩
theorem Kept.upd{H:Hp}(d:Ep (H a)\/H a=M):Kept H (upd H a o):=by
 have ne:∀b u,H b=Y u->¬Ep (Y u)->b≠a:=λb u h nm e=>by
  subst e;rcases d with m | m
  ·rw[h]at m;exact nm m
  ·rw[h]at m;cases m
 exact⟨λb f h=>by rw[ax (ne b _ h λz=>z)];exact h,λb o u h=>by rw[ax (ne b _ h λz=>z)];exact h⟩
def jo.kept{K:Wv}(h:jo K H a b)(k:Kept H d):jo K d a b:=by
 rcases h with⟨o,e⟩ | h
 ·exact .inl ⟨o,k.frz _ _ _ e⟩
 ·exact .inr h
def jo.seq{K:Wv}(h:jo K H a b):EW K H a (b.map V.int):=by
 rcases h with⟨o,e⟩ | h
 ·exact .inl (.inr ⟨o,e⟩)
 ·exact .inr h
def pU{H d:Hp}{a:GM}{F:Wi}(f:∀b∈a :: F,∀o,H b=Y o->d b=Y o):∀b∈F,∀o,H b=Y o->d b=Y o:=λb m=>f b (Zt _ m)
def sF{H a:Hp}{F:Wi}{d:Xd}(f:∀b∈(F :: d).flatten,∀o,H b=Y o->a b=Y o):(∀b∈F,∀o,H b=Y o->a b=Y o)/\∀b∈d.flatten,∀o,H b=Y o->a b=Y o:=by
 rw[ZZ]at f;exact⟨λb m=>f b (Z3 _ m),λb m=>f b (ZK _ m)⟩
def Rp.keep(k:Kept H e)(r:Rp G H v t F):(∀a∈F,∀o,H a=Y o->e a=Y o)->Rp G e v t F :=
 Rp.rec (motive_2:=λj q g _=>(∀a∈g.flatten,∀o,H a=Y o->e a=Y o)->RpL G e j q g)
  (λ_=>.non) (λb _=>.bl b) (λi _=>.int i) (λs h _=>.str s h) (λh _=>.scr (h.kept k)) (λh _ d f=>.tup (k.tup _ _ h) (d f)) (λh _ d f=>.lst (f _ Zu _ h) (d (pU f))) (λh l _ d f=>.dct (f _ Zu _ h) l (d (pU f))) (λh l _ d f=>.dctT (f _ Zu _ h) l (d (pU f)))
  (λh l n _ d f=>.dctN (f _ Zu _ h) l (λp m=>(n p m).mono k.tup) (d (pU f))) (λh l _ d f=>.dctZ (k.frz _ _ _ h) l (d f)) (λh x _=>.exc (k.frz _ _ _ h) x) (λh l m _ d f=>.ins (f _ Zu _ h) l m (d (pU f))) (λh _ d f=>.mk h (d f)) (λ_=>.nil) (λ_ _ w u f=>.cons (w (sF f).1) (u (sF f).2)) r
theorem RpL.keep(k:Kept H g):∀{e:List V}{b:W3}{d:Xd},RpL G H e b d->(∀a∈d.flatten,∀o,H a=Y o->g a=Y o)->RpL G g e b d:=by
 intro e b
 induction b generalizing e with
 |nil=>intro d r f;cases r;exact .nil
 |cons t b h =>
  intro d r f;cases r with
  |cons r q=>exact .cons (r.keep k (sF f).1) (h q (sF f).2)
def Rp.same{G:Gx}{H:Hp}(e:aM H b)(r:Rp G H v t F):Rp G b v t F:=r.keep (Kept.of e) λa _ o h=>e a o h
def RpL.same{G:Gx}{H:Hp}(e:aM H b)(r:RpL G H v t F):RpL G b v t F:=r.keep (Kept.of e) λa _ o h=>e a o h
def vV{H:Hp}{a:GM}{F:Wi}(h:Ep (H a))(d:∀b∈F,Ep (H b)):∀b∈a :: F,Ep (H b):=λb m=>(Zi.mp m).elim (λe=>e ▸ h) (d b)
def wH{H:Hp}{a:GM}{o:HO}(h:H a=Y o)(m:Ep (Y o)):Ep (H a):=by rw[h];exact m
def Du{H:Hp}{F:Wi}{a:Xd}(e:∀b∈F,Ep (H b))(d:∀b∈a.flatten,Ep (H b)):∀b∈(F :: a).flatten,Ep (H b):=λb m=>by
 rw[ZZ]at m;exact(Zc.mp m).elim (e b) (d b)
def Rp.EI(r:Rp G H v t F):∀a∈F,Ep (H a) :=
 Rp.rec
  (λ_ m=>nomatch m) (λ_ _ m=>nomatch m) (λ_ _ m=>nomatch m) (λ_ _ _ m=>nomatch m) (λ_ _ m=>nomatch m) (λ_ _ b=>b) (λh _ b=>vV (wH h True.intro) b) (λh _ _ b=>vV (wH h True.intro) b) (λh _ _ b=>vV (wH h True.intro) b)
  (λh _ _ _ b=>vV (wH h True.intro) b) (λ_ _ _ b=>b) (λ_ _ _ m=>nomatch m) (λh _ _ _ b=>vV (wH h True.intro) b) (λ_ _ b=>b) (λ_ m=>nomatch m) (λ_ _ e d=>Du e d) r
theorem RpL.EI:∀{e:List V}{b:W3}{d:Xd},RpL G H e b d->∀a∈d.flatten,Ep (H a):=by
 intro e b
 induction b generalizing e with
 |nil=>intro d r;cases r;exact λ_ m=>nomatch m
 |cons t b f =>
  intro d r;cases r with
  |cons r q=>exact Du r.EI (f q)
def Ep.xl(m:Ep o):o≠M:=λe=>by subst e;exact m
def Cy{b:Xd}(e:VS.Et t=Z->F=[])(d:VS.gq a=Z->b.flatten=[])(i:VS.gq (t :: a)=Z):(F :: b).flatten=[]:=by
 have i:=Zf.mp i;rw[ZZ,e i.1,d i.2];rfl
theorem Rp.Et(r:Rp G H v t F):VS.Et t=Z->F=[] :=
 Rp.rec
  (λ_=>rfl) (λ_ _=>rfl) (λ_ _=>rfl) (λ_ _ _=>rfl) (λ_ _=>rfl) (λ_ _ a i=>a i) (λ_ _ _ i=>absurd (i) Zh) (λ_ _ _ _ i=>absurd (i) Zh) (λ_ _ _ _ i=>absurd (i) Zh)
  (λ_ _ _ _ _ i=>absurd (i) Zh) (λ_ _ _ _ i=>absurd (i) Zh) (λ_ _ _=>rfl) (λ_ _ _ _ _ i=>absurd (i) Zh) (λ_ _ _ i=>absurd (i) Zh) (λ_=>rfl) (λ_ _ d b i=>Cy d b i) r
theorem RpL.Et:∀{d:List V}{a:W3}{b:Xd},RpL G H d a b->VS.gq a=Z->b.flatten=[]:=by
 intro d a
 induction a generalizing d with
 |nil=>intro b r i;cases r;exact rfl
 |cons t a e =>
  intro b r i;cases r with
  |cons r q=>exact Cy r.Et (e q) i
def RpL.len:∀{b:List V}{a:W3}{d:Xd},RpL G H b a d->b.length=a.length/\d.length=a.length:=by
 intro b a
 induction a generalizing b with
 |nil=>intro d r;cases r;exact⟨rfl,rfl⟩
 |cons t a e =>
  intro d r;cases r with
  |cons r q=>exact⟨congrArg (·+1) (e q).1,congrArg (·+1) (e q).2⟩
theorem RpL.get{G:Gx}:∀{a:List V}{b:W3}{d:Xd}(i:Nat){t:T},RpL G H a b d->b[i]?=Y t->∃v F,a[i]?=Y v/\d[i]?=Y F/\Rp G H v t F
 |_,_,_,_,_,.nil,e=>by simp at e
 |_,_,_,0,_,.cons r _,e=>by
  simp at e;subst e;exact⟨_,_,rfl,rfl,r⟩
 |_,_,_,i+1,_,.cons _ q,e=>by
  obtain⟨v,F,h,g,f⟩:=RpL.get i q (by simpa using e);exact⟨v,F,by simpa using h,by simpa using g,f⟩
def RpL.append:∀{b:List V}{a:W3}{g:Xd}{d:List V}{e:W3}{f:Xd},RpL G H b a g->RpL G H d e f->RpL G H (b++d) (a++e) (g++f):=by
 intro b a
 induction a generalizing b with
 |nil=>intro g d e f r s;cases r;exact s
 |cons t a h =>
  intro g d e f r s;cases r with
  |cons r q=>exact .cons r (h q s)
theorem RpL.take:∀{a:List V}{b:W3}{d:Xd}(n:Nat),RpL G H a b d->RpL G H (a.take n) (b.take n) (d.take n)
 |_,_,_,0,_=>by simpa using RpL.nil
 |_,_,_,n+1,.nil=>.nil
 |_,_,_,n+1,.cons r q=>.cons r (RpL.take n q)
theorem RpL.drop:∀{a:List V}{b:W3}{d:Xd}(n:Nat),RpL G H a b d->RpL G H (a.drop n) (b.drop n) (d.drop n)
 |_,_,_,0,q=>q
 |_,_,_,n+1,.nil=>.nil
 |_,_,_,n+1,.cons r q=>RpL.drop n q
noncomputable def kC:Cell->T
 |.pu t=>t
 |.ow t=>t
noncomputable abbrev Eo:=Nat->Wi
structure SR(G:Gx)(J:Eo)(U:VS.Env)(R:L2.St)(H:Hp):Prop where
 len:U.length=R.length
 rp:∀i c,U[i]?=some (some c)->∃v,R[i]?=some (some v)/\Rp G H v (kC c) (J i)
 nd:∀i t,U[i]?=some (some (.ow t))->(J i).Nodup
 sep:∀i j t c,U[i]?=some (some (.ow t))->U[j]?=some (some c)->i≠j->∀a∈J i,a∉J j
noncomputable def ff(J:Eo)(U:VS.Env)(a:GM):Prop:=∃j t,U[j]?=Y (Y (.pu t))/\a∈J j
noncomputable def cF(J:Eo)(U:VS.Env)(a:GM):Prop:=∃j t,U[j]?=Y (Y (.ow t))/\a∈J j
def Fp(J:Eo)(U:VS.Env)(H:Hp):Md->Wi->Prop
 |.fr,F=>F.Nodup/\∀a∈F,H a=M
 |.pu,F=>∀a∈F,H a=M\/ff J U a
 |.bo,F=>∀a∈F,H a=M\/ff J U a\/cF J U a
theorem SR.same{G:Gx}{H:Hp}(s:SR G J U R H)(e:aM H a):SR G J U R a :=
 ⟨s.len,λi c h=>let ⟨v,d,b⟩:=s.rp i c h;⟨v,d,b.same e⟩,s.nd,s.sep⟩
def SR.Jd(s:SR G J U R H)(h:ff J U a):Ep (H a):=by
 obtain⟨j,t,d,b⟩:=h;obtain⟨v,_,r⟩:=s.rp j _ d;exact r.EI a b
def SR.Fh(s:SR G J U R H)(h:cF J U a):Ep (H a):=by
 obtain⟨j,t,d,b⟩:=h;obtain⟨v,_,r⟩:=s.rp j _ d;exact r.EI a b
def Fp.nil:Fp J U H m []:=by
 cases m
 ·exact⟨Yh,λa h=>by simp at h⟩
 ·exact λa h=>by simp at h
 ·exact λa h=>by simp at h
theorem Fp.bo{U:VS.Env}{H:Hp}:∀{m:Md},Fp J U H m F->Fp J U H .bo F
 |.fr,h=>λa m=>.inl (h.2 a m)
 |.pu,h=>λa m=>(h a m).elim .inl λz=>.inr (.inl z)
 |.bo,h=>h
theorem Fp.pu{U:VS.Env}{H:Hp}:∀{m:Md},m ≠ .bo->Fp J U H m F->Fp J U H .pu F
 |.fr,_,h=>λa m=>.inl (h.2 a m)
 |.pu,_,h=>h
 |.bo,n,_=>absurd L n
theorem Fp.back(e:aM H b):∀{m:Md},Fp J U b m F->Fp J U H m F
 |.fr,h=>⟨h.1,λa m=>e.free (h.2 a m)⟩
 |.pu,h=>λa m=>(h a m).imp e.free id
 |.bo,h=>λa m=>(h a m).imp e.free id
theorem Fp.up{U:VS.Env}{m:Md}{v:V}(f:Fp J U H m F)(r:Rp G a v t F):Fp J U H (VS.up m t).1 F:=by
 unfold VS.up;by_cases h:VS.Et t=Z
 ·rw[r.Et h];exact Fp.nil
 ·simp only[h,if_false,Bool.false_eq_true];exact f
def tE(G:Gx)(c:Ex):TE:=λR H Q=>∃J U m r,SR G J U R H/\c U=Y (m,r)/\∀v a F,aM H a->Rp G a v r F->Fp J U H m F->Q v a
def PV(G:Gx)(X:Cx)(e:Expr)(c:Ex):Prop:=PE X e (tE G c)
def PE.weak{X:Cx}(h:PE X e t)(w:∀R H Q,b R H Q->t R H Q):PE X e b:=λa s R H Q I q=>h a s R H Q I (w R H Q q)
def PT.weak{X:Cx}(h:PT X e t)(w:∀R H Q,b R H Q->t R H Q):PT X e b:=λa s R H Q I q=>h a s R H Q I (w R H Q q)
def PA.weak{X:Cx}(h:PA X e t)(w:∀R H Q,b R H Q->t R H Q):PA X e b:=λpos a s R H Q I q=>h pos a s R H Q I (w R H Q q)
def tT(G:Gx)(c:Ex):TT:=λR H Q=>∃J U m r b,SR G J U R H/\c U=Y (m,r)/\Lz r=Y b/\∀a,aM H a->Q b a
def HF(G:Gx)(X:Cx)(e:Expr)(c:Ex):Prop:=PT X e (tT G c)
noncomputable def FA(l:Wa)(a:Xd):Wi:=match l,a with
 |v :: l,F :: a=>match v.1 with
  |.fr=>F++FA l a
  |_=>FA l a
 |_,_=>[]
structure JJ(J:Eo)(U:VS.Env)(H:Hp)(l:Wa)(Fs:Xd):Prop where
 each:∀(i:Nat) v F,l[i]?=some v->Fs[i]?=some F->Fp J U H v.1 F
 nd:(FA l Fs).Nodup
def Nr(G:Gx)(c:Ew):TA:=λR H Q=>∃J U l,SR G J U R H/\c U=Y l/\∀b a d,aM H a->RpL G a b (trees l) d->JJ J U H l d->Q b a
def E7(G:Gx)(X:Cx)(a:List Expr)(c:Ew):Prop:=PA X a (Nr G c)
section
def aq{i j pos}:PV G X (.Constant (.int i) j pos) (Q2 i):=PE.weak oq λR H Q d=>by
 obtain⟨J,U,m,r,s,e,k⟩:=d;cases (e);exact k _ _ _ (aM.refl _) (.int i) Fp.nil
def eG{i j pos}:PV G X (.Constant (.bool i) j pos) (eC (.bl i)):=PE.weak Ce λR H Q d=>by
 obtain⟨J,U,m,r,s,e,k⟩:=d;cases (e);exact k _ _ _ (aM.refl _) (.bl i) Fp.nil
def qG{j pos}:PV G X (.Constant .none j pos) (eC .non):=PE.weak BE λR H Q d=>by
 obtain⟨J,U,m,r,s,e,k⟩:=d;cases (e);exact k _ _ _ (aM.refl _) .non Fp.nil
def bf{j pos}(h:x=sx t:=by decide +kernel)(f:{`q1,my t}):PV G X (.Constant (.str x) j pos) (eC (.str t)):=PE.weak AQ λR H Q d=>by
 obtain⟨J,U,m,r,s,e,k⟩:=d;cases (e);subst h;exact k _ _ _ (aM.refl _) (.str t f) Fp.nil
def eQ{X:Cx}(i:Nat)(w:{`q2,X.N[i]?=Y x})(p:{`q5,HD X.env.scope x})(u:{`q1,K3 x})(j:{`q1,K4 x}):PV G X (.Name x g) (af i):=PE.weak (eZ w p u j) λR H Q q=>by
 obtain⟨J,U,m,r,s,e,k⟩:=q;unfold af at e;split at e
 ·rename_i t h;obtain⟨v,n,d⟩:=s.rp _ _ h;have o:=Zo e;have y:t=r:=congrArg Prod.snd o;have em:(VS.up .pu t).1=m:=congrArg Prod.fst o;rw[← y,← em]at k;refine⟨v,n,k v H (J i) (aM.refl _) d ?_⟩;have f:Fp J U H .pu (J i):=λa l=>.inr ⟨i,_,h,l⟩;exact f.up d
 ·rename_i t h;obtain⟨v,n,d⟩:=s.rp _ _ h;cases e;exact⟨v,n,k v H (J i) (aM.refl _) d λa l=>.inr (.inr ⟨i,_,h,l⟩)⟩
 ·cases e
def yn{v:V}(i:Gl X x)(h:X.mg x=Y u)(r:RelV v u)(f:∀H,Rp G H v t [])(j:{`q1,K3 x}):PV G X (.Name x d) (eC t) :=
 PE.weak (n4 i h r j) λR H Q g=>by
  obtain⟨J,U,m,l,s,e,k⟩:=g;cases (e);exact k _ _ _ (aM.refl _) (f H) Fp.nil
structure Ng(G:Gx)(J:Eo)(U:VS.Env)(H0 H:Hp)(x y:Val)(u w:V)(F1 F2:Wi):Prop where
 same:aM H0 H
 r1:Rp G H u x.2 F1
 r2:Rp G H w y.2 F2
 f1:Fp J U H0 x.1 F1
 f2:Fp J U H0 y.1 F2
 nd:x.1=.fr->y.1=.fr->(F1++F2).Nodup
def eT(G:Gx)(r:Fo)(f:Val->Val->W0):Prop:=∀(J:Eo)(U:VS.Env)(e H:Hp)(x y:Val)(u w:V)(h g:Wi)(m:Md)(t:T)(Q:VK),Ng G J U e H x y u w h g->f x y=Y (m,t) →
 (∀v d F,aM H d->Rp G d v t F->Fp J U e m F->Q v d)->r u w H Q
def wX{G:Gx}{ca cb:Ex}{R:L2.St}{H:Hp}{Q:V->V->Hp->Prop}{J:Eo}{U:VS.Env}{x y:Val}(s:SR G J U R H)(m:ca U=Y x)(l:cb U=Y y)(k:∀u w d f e,Ng G J U H d x y u w f e->Q u w d):tE G ca R H λu g=>tE G cb R g λw d=>Q u w d:=by
 refine⟨J,U,x.1,x.2,s,m,λu g f e1 r1 f1=>⟨J,U,y.1,y.2,s.same e1,l,λw d e e2 r2 f2=>k u w d f e ⟨e1.trans e2,r1.same e2,r2,f1,f2.back e1,λi h=>?_⟩⟩⟩;rw[i]at f1;rw[h]at f2;refine ZO.mpr ⟨f1.1,f2.1,λa j b hb z=>?_⟩;subst z;exact Ep.xl (r1.EI a j) (f2.2 a hb)
def j6(g:eT G r f)(h:tE G (e2 f ca cb) R H Q):Mj r (tE G ca) (tE G cb) R H Q:=by
 obtain⟨J,U,m,t,s,e,k⟩:=h;obtain⟨x,j,e⟩:=Zz.mp e;obtain⟨y,i,e⟩:=Zz.mp e;exact wX s j i λu w l p o d=>g J U H l x y u w p o m t Q d e λv n F e1 r1 f1=>k v n F (d.same.trans e1) r1 f1
def cO(g:OpR X (binaryOp d) r)(e:eT G r f)(j:PV G X a ca)(i:PV G X b cb):PV G X (.BinOp a d b pos) (e2 f ca cb) :=
 PE.weak (Cu g j i) λR H Q h=>j6 e h
def Bk(g:OpR X (P3 d) r)(e:eT G r f)(l:PV G X a ca)(j:PV G X b cb)(i:behindInMarks d b=O):PV G X (.Compare a [d] [b] pos) (e2 f ca cb) :=
 PE.weak (xY g l j i) λR H Q h=>j6 e h
noncomputable def Tells(f:Val->Val->W0):Prop:=∀x y m t,f x y=Y (m,t)->∃b,t=.bl b
def Rp.EU{b:Bool}(r:Rp G H v (.bl b) F):v=.bl b:=r.inv
def Rp.int_inv{b:Int}(r:Rp G H v (.int b) F):v=.int b:=r.inv
def Rp.str_inv{b:Tx}(r:Rp G H v (.str b) F):v=.str (sx b)/\my b:=r.inv
def o9{c:Ex}(h:tT G c R H Q)(f:∀U m r,c U=Y (m,r)->∃b,r=.bl b)(w:∀Q,tE G c R H Q->t R H Q):u5 t R H Q:=by
 obtain⟨J,U,m,r,b,s,e,d,k⟩:=h;refine w _ ⟨J,U,m,r,s,e,λv i F e1 r1 f1=>?_⟩;obtain⟨j,g⟩:=f U m r e;rw[g]at d r1;cases (d);exact⟨_,r1.EU,k i e1⟩
def dN(j:OpR X (P3 d) r)(g:eT G r f)(i:Tells f)(o:PV G X a ca)(n:PV G X b cb)(l:behindInMarks d b=O):HF G X (.Compare a [d] [b] pos) (e2 f ca cb) :=
 PT.weak (yB j o n l) λR H Q h=>o9 h (λU m r e=>by
  obtain⟨x,_,e⟩:=Zz.mp e;obtain⟨y,_,e⟩:=Zz.mp e;exact i x y m r e) λQ h=>j6 g h
def bw{G:Gx}{J:Eo}{U:VS.Env}{e H:Hp}{m:Md}{t:T}{v:V}{Q:VK}(k:∀v d F,aM H d->Rp G d v t F->Fp J U e m F->Q v d)(r:Rp G H v t []):Q v H:=k v H [] (aM.refl _) r Fp.nil
def cY(h:H p=M):aM H (upd H p o):=λb d e=>by rw[ax (dA e h)];exact e
theorem Fp.new(d:g p=M)(h:p∉F):∀{m:Md},Fp J U g m F->Fp J U g m (p :: F)
 |.fr,f=>⟨Ze.mpr ⟨h,f.1⟩,λa m=>(Zi.mp m).elim (λe=>by rw[e];exact d) (f.2 a)⟩
 |.pu,f=>λa m=>(Zi.mp m).elim (λe=>by rw[e];exact .inl d) (f a)
 |.bo,f=>λa m=>(Zi.mp m).elim (λe=>by rw[e];exact .inl d) (f a)
def nM(e:Hk d l=Y (m,t)):t=.lst l/\l.length<=dH/\m=(if gq l then .fr else d):=by
 unfold Hk at e;split at e
 ·rename_i h;cases e;exact⟨rfl,h,rfl⟩
 ·cases e
def iL{G:Gx}{J:Eo}{U:VS.Env}{i H:Hp}{o m:Md}{l:W3}{t:T}{n:List V}{q:Xd}{Q:VK}(d:aM i H)(e:Hk o l=Y (m,t))(r:RpL G H n l q)(f:Fp J U i o q.flatten)(k:∀v j F,aM H j->Rp G j v t F->Fp J U i m F->Q v j):∀p,H p=M->Q (.ref p) (upd H p (.lst n)):=by
 intro p g;obtain⟨rfl,s,rfl⟩:=nM e;refine k _ _ _ (cY g) (.lst ay (r.same (cY g))) ?_;have np:=λm=>Ep.xl (r.EI p m) g;by_cases h:gq l=Z
 ·rw[h,Zr L];rw[r.Et h]at np ⊢;exact Fp.nil.new (d.free g) np
 ·rw[Zp h];exact f.new (d.free g) np
theorem Ng.join(i:Ng G J U h H x y u w f e){F:Wi}(g:F.Sublist (f++e)):Fp J U h (x.1.join y.1) F:=by
 obtain⟨same,r1,r2,f1,f2,nd⟩:=i;obtain⟨m1,x⟩:=x;obtain⟨j,y⟩:=y;have both:∀{P:GM->Prop},(∀a∈f,P a)->(∀a∈e,P a)->∀a∈F,P a:=λm l a d=>((λa d=>Zc.mp (g.subset d)) a d).elim (m a) (l a);cases m1<;>cases j
 ·exact⟨(nd L L).sublist g,both f1.2 f2.2⟩
 ·exact both (λa d=>.inl (f1.2 a d)) f2
 ·exact both (λa d=>.inl (f1.2 a d)) f2
 ·exact both f1 (λa d=>.inl (f2.2 a d))
 ·exact both f1 f2
 ·exact both (f1.bo) f2
 ·exact both f1 (λa d=>.inl (f2.2 a d))
 ·exact both f1 (f2.bo)
 ·exact both f1 f2
def fS:dH=sizeLine:=rfl
def dU(s:Tx):(sx s).length=s.length:=rfl
def A1(s t:Tx):sx s++sx t=sx (s++t):=by
 show Str.append (sx s) (sx t)=_;simp[sx,Str.append]
def Rp.lst_inv(r:Rp G H v (.lst l) F):∃a d e,v=.ref a/\F=a :: e.flatten/\H a=Y (.lst d)/\RpL G H d l e:=r.inv
def Rp.Gk(r:Rp G H v (.tup l) F):∃a d e,v=.ref a/\F=e.flatten/\H a=Y (.tup d)/\RpL G H d l e:=r.inv
def Rp.JQ(r:Rp G H v (.scr l) F):∃a,v=.ref a/\F=[]/\jo G.K H a l:=r.inv
end
section
def Dq:Fo:=λx y H Q=>Ig (λi j=>.int (i+j)) x y H Q\/(∃i j,x=.str i/\y=.str j/\i.length+j.length<=FS/\Q (.str (i++j)) H)\/DE x y H Q
def yt:OpR X (binaryOp .Add) Dq:=A5.or (qR.or BK)
def Bw:eT G Dq bE:=by
 intro J U C H x y u w A z m t Q f e k;have q:=λ{F:Wi} (h:List.Sublist F (A++z))=>f.join h;obtain⟨m1,x⟩:=x;obtain⟨B,y⟩:=y;obtain⟨same,r1,r2,f1,f2,nd⟩:=f;unfold bE at e;split at e
 ·rename_i i _ j e1 e2;cases e1;cases e2;cases e;exact .inl ⟨_,_,r1.int_inv,r2.int_inv,bw k (.int _)⟩
 ·rename_i s _ p e1 e2;cases e1;cases e2;split at e
  ·rename_i d;cases e;refine .inr (.inl ⟨_,_,r1.str_inv.1,r2.str_inv.1,by rw[dU,dU,← fS];exact d,?_⟩);rw[A1];exact bw k (.str _ ⟨by rw[Zv];exact d,λc r=>(Zc.mp r).elim (r1.str_inv.2.2 c) (r2.str_inv.2.2 c)⟩)
  ·cases e
 ·rename_i s _ p e1 e2;cases e1;cases e2;obtain⟨a,n,E,rfl,rfl,v,l⟩:=r1.lst_inv;obtain⟨b,o,D,rfl,rfl,hb,g⟩:=r2.lst_inv;obtain⟨_,d,_⟩:=nM e;refine .inr (.inr ⟨a,b,n,o,rfl,rfl,v,hb,?_,iL same e (l.append g) (q ?_) k⟩)
  ·rw[Zv]at d;rw[l.len.1,g.len.1,← fS];exact d
  ·rw[Z8];exact(Yw _ _).append (Yw _ _)
 ·cases e
def lF:eT G (Ig λi j=>.int (i-j)) lY:=by
 intro J U d H x y u w g f m t Q a e k;obtain⟨m1,x⟩:=x;obtain⟨b,y⟩:=y;obtain⟨same,r1,r2,f1,f2,nd⟩:=a;unfold lY at e;split at e
 ·rename_i e1 e2;cases e1;cases e2;cases e;exact⟨_,_,r1.int_inv,r2.int_inv,bw k (.int _)⟩
 ·cases e
def ye:eT G (rI Df λi j=>.int (i/j)) bQ:=by
 intro J U d H x y u w g f m t Q a e k;obtain⟨m1,x⟩:=x;obtain⟨b,y⟩:=y;obtain⟨same,r1,r2,f1,f2,nd⟩:=a;unfold bQ at e;split at e
 ·rename_i e1 e2;cases e1;cases e2;split at e
  ·rename_i h;cases e;exact⟨_,_,r1.int_inv,r2.int_inv,h,bw k (.int _)⟩
  ·cases e
 ·cases e
def Ap:eT G (rI (λ_ j=>0<j) λi j=>.int (i%j)) oMod:=by
 intro J U d H x y u w g f m t Q a e k;obtain⟨m1,x⟩:=x;obtain⟨b,y⟩:=y;obtain⟨same,r1,r2,f1,f2,nd⟩:=a;unfold oMod at e;split at e
 ·rename_i e1 e2;cases e1;cases e2;split at e
  ·rename_i h;cases e;exact⟨_,_,r1.int_inv,r2.int_inv,h,bw k (.int _)⟩
  ·cases e
 ·cases e
theorem k9:∀(s t:Tx),IP s t=decide (s<t)
 |[],[]=>by simp[IP]
 |[],_ :: _=>by simp[IP]
 |_ :: _,[]=>by simp[IP]
 |a :: s,b :: t=>by
  unfold IP;rw[k9 s t];by_cases e:a<b
  ·simp[e,Xv]
  ·by_cases d:b<a
   ·have:¬a=b:=by exact Wt d
    simp[e,d,Xv,this]
   ·have:a=b:=by lia
    subst this;simp[Xv]
def P4:Fo:=λx y H Q=>Ig (λi j=>.bl (decide (i<j))) x y H Q\/(∃i j,x=.str i/\y=.str j/\Q (.bl (decide (i.cps.toList<j.cps.toList))) H)
def oF:OpR X (P3 .Lt) P4:=DA.or t7
def rW:eT G P4 oLt:=by
 intro J U f H x y u w h g m t Q b e k;obtain⟨m1,x⟩:=x;obtain⟨d,y⟩:=y;obtain⟨same,r1,r2,f1,f2,nd⟩:=b;unfold oLt at e;split at e
 ·rename_i e1 e2;cases e1;cases e2;cases e;exact .inl ⟨_,_,r1.int_inv,r2.int_inv,bw k (.bl _)⟩
 ·rename_i s _ a e1 e2;cases e1;cases e2;cases e;refine .inr ⟨_,_,r1.str_inv.1,r2.str_inv.1,?_⟩;have:decide ((sx s).cps.toList<(sx a).cps.toList)=IP s a:=by rw[k9];exact decide_eq_decide.mpr (by simp[sx])
  rw[this];exact bw k (.bl _)
 ·cases e
def iz:Tells oLt:=by
 intro x y m t e;unfold oLt at e;split at e<;>first | (cases e;exact⟨_,rfl⟩) | cases e
def AZ:Nl=2 ^ 64:=rfl
def jX:eT G (rI yg λi j=>.int (i*j)) kg:=by
 intro J U d H x y u w g f m t Q a e k;obtain⟨m1,x⟩:=x;obtain⟨b,y⟩:=y;obtain⟨same,r1,r2,f1,f2,nd⟩:=a;unfold kg at e;split at e
 ·rename_i e1 e2;cases e1;cases e2;split at e
  ·rename_i h;cases e;refine⟨_,_,r1.int_inv,r2.int_inv,?_,bw k (.int _)⟩;rw[AZ]at h;exact h
  ·cases e
 ·cases e
def ua:OpR X (P3 .LtE) (λx y H Q=>∃i j,x=.str i/\y=.str j/\Q (.bl (!decide (j.cps.toList<i.cps.toList))) H):=by
 intro a s R H x y v u Q I d b h;obtain⟨i,j,rfl,rfl,q⟩:=h;obtain⟨t,rfl⟩:=d;obtain⟨e,rfl⟩:=b;exact PySem.P.le_str ⟨.bl _,H,I,rfl,q⟩
def P5:Fo:=λx y H Q=>Ig (λi j=>.bl (decide (i<=j))) x y H Q\/(∃i j,x=.str i/\y=.str j/\Q (.bl (!decide (j.cps.toList<i.cps.toList))) H)
def AV:OpR X (P3 .LtE) P5:=CV.or ua
def Dw:eT G P5 oLe:=by
 intro J U f H x y u w h g m t Q b e k;obtain⟨m1,x⟩:=x;obtain⟨d,y⟩:=y;obtain⟨same,r1,r2,f1,f2,nd⟩:=b;unfold oLe at e;split at e
 ·rename_i e1 e2;cases e1;cases e2;cases e;exact .inl ⟨_,_,r1.int_inv,r2.int_inv,bw k (.bl _)⟩
 ·rename_i s _ a e1 e2;cases e1;cases e2;cases e;refine .inr ⟨_,_,r1.str_inv.1,r2.str_inv.1,?_⟩;have:decide ((sx a).cps.toList<(sx s).cps.toList)=IP a s:=by rw[k9];exact decide_eq_decide.mpr (by simp[sx])
  rw[this];exact bw k (.bl _)
 ·cases e
def xi:Tells oLe:=by
 intro x y m t e;unfold oLe at e;split at e<;>first | (cases e;exact⟨_,rfl⟩) | cases e
def nU{i:Int}:Gc n i=KS n i:=by
 unfold Gc KS;by_cases h:0<=i
 ·rw[Zr h,Zr h]
 ·rw[Zp h,Zp h];by_cases a:0<=i+n
  ·rw[Zr a,Zr (by lia)]
  ·rw[Zp a,Zp (by lia)]
def lI{α:Type}{l:List α}{i:Int}{k:Nat}{x:α}(b:Gc l.length i=Y k)(a:l[k]?=Y x):Lu l i=Y x:=by
 unfold Lu;rw[← nU,b];exact a
def dn{a:Xd}{F:Wi}{i:Nat}(h:a[i]?=Y F):F.Sublist a.flatten:=by
 obtain⟨b,rfl⟩:=Zk.mp h;exact List.sublist_flatten_of_mem (Yz b)
theorem Fp.sub{F:Wi}(h:F.Sublist d):∀{m:Md},Fp J U H m d->Fp J U H m F
 |.fr,f=>⟨f.1.sublist h,λa b=>f.2 a (h.subset b)⟩
 |.pu,f=>λa b=>f a (h.subset b)
 |.bo,f=>λa b=>f a (h.subset b)
def uS:eT G (Oj G.K) aT:=by
 intro J U L H x y u w P N m t Q B e k;obtain⟨m1,x⟩:=x;obtain⟨E,y⟩:=y;obtain⟨same,r1,r2,f1,f2,nd⟩:=B;unfold aT at e;split at e
 ·rename_i p l o i e1 e2;cases e1;cases e2;obtain⟨j,d,e⟩:=Zz.mp e;obtain⟨x,b,e⟩:=Zx.mp e;obtain⟨a,n,D,rfl,rfl,q,h⟩:=r1.lst_inv;obtain⟨v,F,s,r,g⟩:=h.get j b;refine .inl ⟨a,n,i,v,rfl,r2.int_inv,EW.of q,lI (by rw[h.len.1];exact d) s,?_⟩;have f:=((f1.sub (Yw _ _)).sub (dn r)).up g;unfold VS.sub at e;rw[e]at f;have z:x=t:=congrArg Prod.snd e;rw[z]at g;exact k v H F (aM.refl _) g f
 ·rename_i p l o i e1 e2;cases e1;cases e2;obtain⟨j,d,e⟩:=Zz.mp e;obtain⟨x,b,e⟩:=Zx.mp e;obtain⟨a,n,D,rfl,rfl,q,h⟩:=r1.Gk;obtain⟨v,F,s,r,g⟩:=h.get j b;refine .inr (.inl ⟨a,n,i,v,rfl,r2.int_inv,FX.of q,lI (by rw[h.len.1];exact d) s,?_⟩);have f:=(f1.sub (dn r)).up g;unfold VS.sub at e;rw[e]at f;have z:x=t:=congrArg Prod.snd e;rw[z]at g;exact k v H F (aM.refl _) g f
 ·rename_i p l o i e1 e2;cases e1;cases e2;obtain⟨j,d,e⟩:=Zz.mp e;obtain⟨x,b,e⟩:=Zx.mp e;cases e;obtain⟨a,rfl,rfl,sa⟩:=r1.JQ;refine .inl ⟨a,l.map V.int,i,.int x,rfl,r2.int_inv,sa.seq,lI (by rw[Zw];exact d) (by rw[ZL,b];rfl),bw k (.int _)⟩
 ·rename_i p l o i e1 e2;cases e1;cases e2;obtain⟨j,d,e⟩:=Zz.mp e;obtain⟨x,b,e⟩:=Zx.mp e;cases e;obtain⟨rfl,A⟩:=r1.str_inv;refine .inr (.inr ⟨sx l,i,x,rfl,r2.int_inv,by rw[dU,← fS];exact A.1,lI (k:=j) (by simpa[sx] using d) (by simpa[sx] using b),?_⟩);exact bw k (.str [x] ⟨by show 1<=dH;decide,λc C=>by rw[Zg.mp C];exact A.2 x (YE b)⟩)
 ·cases e
end
section
theorem rn:∀{l:Wa}{d:Xd},x∈FA l d->∃(i:Nat)(v:Val)(F:Wi),l[i]?=Y v/\v.1=.fr/\d[i]?=Y F/\x∈F
 |[],_,h=>by simp[FA]at h
 |_ :: _,[],h=>by simp[FA]at h
 |v :: l,F :: d,h=>by
  have go:x∈FA l d->∃(i:Nat)(u:Val)(f:Wi),(v :: l)[i]?=Y u/\u.1=.fr/\(F :: d)[i]?=Y f/\x∈f:=λm=>by
   refine L2.ak λs g=>?_;obtain⟨i,u,f,r,q,o,n⟩:=rn m;refine g ?_;exact⟨i+1,u,f,by simpa using r,q,by simpa using o,n⟩
  unfold FA at h;split at h
  ·rename_i j;rcases Zc.mp h with h | h
   ·exact⟨0,v,F,rfl,j,rfl,h⟩
   ·exact go h
  ·exact go h
def ai:E7 G X [] ag:=PA.weak je λR H Q d=>by
 obtain⟨J,U,l,s,e,k⟩:=d;cases (e);exact k [] H [] (aM.refl _) .nil ⟨λi v F h=>by simp at h,by simp[FA]⟩
def ae(C:PV G X e ca)(A:E7 G X es cs)(w:{`q2,K1 e es X}):E7 G X (e :: es) (aa ca cs):=PA.weak (c9 C A w) λR H Q B=>by
 refine L2.ak λP_ n=>?_;obtain⟨J,U,l,s,e,k⟩:=B;obtain⟨x,N,e⟩:=Zz.mp e;obtain⟨j,L,e⟩:=Zz.mp e;cases e;refine n ?_;refine⟨J,U,x.1,x.2,s,N,λv H1 F e1 r1 f1=>⟨J,U,j,s.same e1,L,λm P S e2 r2 f2=>k (v :: m) P (F :: S) (e1.trans e2) (.cons (r1.same e2) r2) ⟨λi u h g d=>?_,?_⟩⟩⟩
 ·cases i with
  |zero =>
   cases (g);cases (d);exact f1
  |succ i=>exact(f2.each i u h (by simpa using g) (by simpa using d)).back e1
 ·unfold FA;split
  ·rename_i t;rw[t]at f1;refine ZO.mpr ⟨f1.1,f2.nd,λy r z o q=>?_⟩;subst q;obtain⟨i,u,h,g,d,E,D⟩:=rn o;have f:=f2.each i u h g E;rw[d]at f;exact Ep.xl (r1.EI y r) (f.2 y D)
  ·exact f2.nd
theorem jR:∀{l:Wa},cI l=.fr->∀v∈l,v.1=.fr
 |[],_,v,h=>by simp at h
 | (m,t) :: r,e,v,h=>by
  have d:m.join (cI r)=.fr:=e;rcases Zi.mp h with rfl | h
  ·exact(by
   revert d;cases m<;>cases cI r<;>simp[Md.join])
  ·exact jR (by
   revert d;cases m<;>cases cI r<;>simp[Md.join]) v h
theorem jQ:∀{l:Wa},cI l ≠ .bo->∀v∈l,v.1 ≠ .bo
 |[],_,v,h=>by simp at h
 | (m,t) :: r,e,v,h=>by
  have d:m.join (cI r) ≠ .bo:=e;rcases Zi.mp h with rfl | h
  ·exact(by
   revert d;cases m<;>cases cI r<;>simp[Md.join])
  ·exact jQ (by
   revert d;cases m<;>cases cI r<;>simp[Md.join]) v h
theorem rV:∀{l:Wa}{d:Xd},l.length=d.length->(∀v∈l,v.1=.fr)->FA l d=d.flatten
 |[],[],_,_=>rfl
 |[],_ :: _,h,_=>by simp at h
 |_ :: _,[],h,_=>by simp at h
 |v :: l,F :: d,h,q=>by
  unfold FA;rw[q v Zu,rV (by simpa using h) λu f=>q u (Zt _ f)];rfl
def fM{d:Xd}(h:x∈d.flatten):∃(i:Nat)(F:Wi),d[i]?=Y F/\x∈F:=by
 obtain⟨F,j,f⟩:=List.mem_flatten.mp h;obtain⟨i,g⟩:=List.mem_iff_getElem?.mp j;exact⟨i,F,g,f⟩
def JJ.join(f:JJ J U H l j)(n:l.length=j.length):Fp J U H (cI l) j.flatten:=by
 have at':∀x∈j.flatten,∃v F,v∈l/\x∈F/\Fp J U H v.1 F:=λx d=>by
  obtain⟨i,F,m,g⟩:=fM d;have:i<l.length:=by
   have:=(Zk.mp m).1;lia
  exact⟨l[i],F,Yz this,g,f.each i _ F (Zn this) m⟩
 cases e:cI l with
 |fr =>
  have al:=jR e;refine⟨by rw[← rV n al];exact f.nd,λx d=>?_⟩;obtain⟨v,F,h,g,q⟩:=at' x d;rw[al v h]at q;exact q.2 x g
 |pu =>
  intro x d;obtain⟨v,F,h,g,q⟩:=at' x d;exact Fp.pu ((jQ (l:=l) (by rw[e];decide)) v h) q x g
 |bo =>
  intro x d;obtain⟨v,F,h,g,q⟩:=at' x d;exact q.bo x g
structure Args(G:Gx)(J:Eo)(U:VS.Env)(H0 H:Hp)(l:Wa)(vs:List V)(Fs:Xd):Prop where
 same:aM H0 H
 rp:RpL G H vs (trees l) Fs
 fp:JJ J U H0 l Fs
theorem Args.len(A:Args G J U g H l f d):l.length=d.length:=by
 have:=A.rp.len.2;simp[trees]at this;exact Eq.symm this
def eR(G:Gx)(r:List V->Hp->VK->Prop)(f:Wa->W0):Prop:=∀(J:Eo)(U:VS.Env)(h H:Hp)(l:Wa)(g:List V)(i:Xd)(m:Md)(t:T)(Q:VK),Args G J U h H l g i->f l=Y (m,t) →
 (∀v d F,aM H d->Rp G d v t F->Fp J U h m F->Q v d)->r g H Q
def Ab(h:eR G r f)(s:SR G J U R H)(i:cs U=Y l)(e:f l=Y (m,t))(k:∀v d F,aM H d->Rp G d v t F->Fp J U H m F->Q v d):Nr G cs R H λg n=>r g n Q :=
 ⟨J,U,l,s,i,λg d o e1 r1 f1=>h J U H d l g o m t Q ⟨e1,r1,f1⟩ e λv j F e2 r2 f2=>k v j F (e1.trans e2) r2 f2⟩
def ik(q:da X (.builtin d) r)(g:eR G r f)(o:Gl X x)(n:X.mg x=M)(h:bootBuiltins x=Y (.builtin d))(u:E7 G X (e :: es) cs)(j:{`q1,x ≠ "__name__"})(w:{`q1,K3 x})(he:{`q2,K1 e es X})(hpl:{`q2,K2 pos es X}):PV G X (.Call (.Name x p) (e :: es) [] pos) (eN f cs) :=
 PE.weak (jG q o n h u j w he hpl) λR H Q i=>by
  obtain⟨J,U,m,t,s,e,k⟩:=i;obtain⟨l,v,e⟩:=Zz.mp e;exact Ab g s v e k
def j9{G:Gx}{X:Cx}{es:List Expr}{cs:Ew}{pos p:Pos}{r:List V->Hp->VK->Prop}{f:Wa->W0}{Ty:String}{x:Str}(q:da X (.type Ty) r)(g:eR G r f)(o:Gl X x)(n:X.mg x=M)(h:bootBuiltins x=Y (.type Ty))(u:E7 G X (e :: es) cs)(j:{`q1,x ≠ "__name__"})(w:{`q1,K3 x})(he:{`q2,K1 e es X})(d:{`q2,K2 pos es X}):PV G X (.Call (.Name x p) (e :: es) [] pos) (eN f cs) :=
 PE.weak (tM q o n h u j w he d) λR H Q i=>by
  obtain⟨J,U,m,t,s,e,k⟩:=i;obtain⟨l,v,e⟩:=Zz.mp e;exact Ab g s v e k
def bH(h:E7 G X es cs):PV G X (.List es pos) (cq cs):=PE.weak (B2 h) λR H Q f=>by
 obtain⟨J,U,m,t,s,e,k⟩:=f;obtain⟨l,i,e⟩:=Zz.mp e;refine⟨J,U,l,s,i,λd n o e1 r1 f1=>?_⟩;have A:Args G J U H n l d o:=⟨e1,r1,f1⟩
 obtain⟨_,g,_⟩:=nM e;refine⟨by rw[r1.len.1,← fS];exact g,iL e1 e r1 (f1.join A.len) λv j F e2 r2 f2=>k v j F (e1.trans e2) r2 f2⟩
def qS{x1}(h:E7 G X es cs):PV G X (.Tuple es x1 pos) (qJ cs):=PE.weak (uM h) λR H Q d=>by
 obtain⟨J,U,m,t,s,e,k⟩:=d;obtain⟨l,n,e⟩:=Zz.mp e;refine⟨J,U,l,s,n,λf g i e1 r1 f1=>?_⟩;have A:Args G J U H g l f i:=⟨e1,r1,f1⟩
 unfold rG at e;split at e
 ·rename_i j;cases e;refine⟨by rw[r1.len.1,← fS,trees,Zw];exact j,λq d=>?_⟩;have r2:Rp G (upd g q (.tup f)) (.ref q) (.tup (trees l)) i.flatten:=.tup ay (r1.same (cY d));exact k _ _ _ (e1.trans (cY d)) r2 (Fp.up (f1.join A.len) r2)
 ·cases e
def yJ(r:Rp G H v t F)(h:Lz t=Y k):Bj G.K v H k:=by
 cases r with
 |non=>cases h;rfl
 |bl b=>cases h;rfl
 |int i=>cases h;rfl
 |str s j =>
  cases h;refine⟨by rw[dU,← fS];exact j.1,?_⟩;rw[dU];cases s with
  |nil=>rfl
  |cons a r =>
   have:((List.length (a :: r):Int) != 0)=Z:=by simp;lia
   rw[this];rfl
 |scr d=>cases h
 |tup d q =>
  cases h;refine .inr (.inl ⟨_,FX.of d,?_⟩);have:=q.len.1;rename_i f g _;cases f<;>cases g<;>simp_all
 |lst d q =>
  cases h;refine .inl ⟨_,EW.of d,?_⟩;have:=q.len.1;rename_i f g _;cases f<;>cases g<;>simp_all
 |dct d j q =>
  cases h;refine .inr (.inr ⟨_,d,?_⟩);have:=q.len.1;rename_i l f g _;cases l<;>cases f<;>cases g<;>simp_all
 |dctT d j q=>cases h
 |dctN d j n q=>cases h
 |dctZ _ _ _=>cases h
 |exc _ _=>cases h
 |ins _ _ _ _=>cases h
 |mk _ _=>cases h
def gE(h:PV G X a ca)(d:{`q2,X.K=G.K})(he:{`q3,∀whole,isTrue a X.env whole=(do let v ← whole;standAt a.pos;holding [v] (truthy v))}):HF G X a ca :=
 PT.weak (vL h he) λR H Q ⟨J,U,m,r,b,s,e,f,k⟩=>⟨J,U,m,r,s,e,λv g F e1 r1 f1=>⟨b,by rw[d];exact yJ r1 f,k g e1⟩⟩
def Iu(G:Gx)(X:Cx)(e:Expr)(c:Ex):Prop:=PW X e (tT G c)
def PW.weak{X:Cx}{e:Expr}{f:TT}(h:PW X e t)(w:∀R H Q,f R H Q->t R H Q):PW X e f:=λg d s R H Q I q=>h g d s R H Q I (w R H Q q)
def Iu.Kg(h:Iu G X e ca):HF G X e ca:=PW.pt h
def pY(e:hJ ca cb U=Y (m,r)):(∃n,ca U=Y (n,.bl Z)/\cb U=Y (m,r))\/(∃n,ca U=Y (n,.bl O)/\m=.fr/\r=.bl O):=by
 obtain⟨⟨n,x⟩,d,e⟩:=Zz.mp e;split at e
 ·rename_i h;cases (h);exact .inl ⟨n,d,e⟩
 ·rename_i h;cases (h);cases e;exact .inr ⟨n,d,rfl,rfl⟩
 ·cases e
def zd(e:Ko ca cb U=Y (m,r)):(∃n,ca U=Y (n,.bl O)/\cb U=Y (m,r))\/(∃n,ca U=Y (n,.bl Z)/\m=.fr/\r=.bl Z):=by
 obtain⟨⟨n,x⟩,d,e⟩:=Zz.mp e;split at e
 ·rename_i h;cases (h);cases e;exact .inr ⟨n,d,rfl,rfl⟩
 ·rename_i h;cases (h);exact .inl ⟨n,d,e⟩
 ·cases e
def kU{G:Gx}{X:Cx}{a:Expr}{ca cb:Ex}{pos:Pos}{rest:List Expr}(j:HF G X a ca)(i:Iu G X (.BoolOp .And (b :: rest) pos) cb):Iu G X (.BoolOp .And (a :: b :: rest) pos) (hJ ca cb) :=
 PW.weak (AD j i) λR H Q h=>by
  obtain⟨J,U,m,r,k,s,e,f,q⟩:=h;rcases pY e with⟨n,d,e2⟩ | ⟨n,d,rfl,rfl⟩
  ·refine⟨J,U,n,_,Z,s,d,rfl,λg e1=>?_⟩;refine qF ?_;exact⟨J,U,m,r,k,s.same e1,e2,f,λl e2=>q l (e1.trans e2)⟩
  ·refine⟨J,U,n,_,O,s,d,rfl,λg e1=>?_⟩;refine qW ?_;cases f;exact q g e1
def oy{G:Gx}{X:Cx}{a:Expr}{ca cb:Ex}{pos:Pos}{rest:List Expr}(j:HF G X a ca)(i:Iu G X (.BoolOp .Or (b :: rest) pos) cb):Iu G X (.BoolOp .Or (a :: b :: rest) pos) (Ko ca cb) :=
 PW.weak (DD j i) λR H Q h=>by
  obtain⟨J,U,m,r,k,s,e,f,q⟩:=h;rcases zd e with⟨n,d,e2⟩ | ⟨n,d,rfl,rfl⟩
  ·refine⟨J,U,n,_,O,s,d,rfl,λg e1=>?_⟩;refine qW ?_;exact⟨J,U,m,r,k,s.same e1,e2,f,λl e2=>q l (e1.trans e2)⟩
  ·refine⟨J,U,n,_,Z,s,d,rfl,λg e1=>?_⟩;refine qF ?_;cases f;exact q g e1
def qb(e:ku ca U=Y (m,r)):∃n b,ca U=Y (n,.bl b)/\m=.fr/\r=.bl (!b):=by
 obtain⟨⟨n,x⟩,d,e⟩:=Zz.mp e;split at e
 ·rename_i b h;cases (h);cases e;exact⟨n,b,d,rfl,rfl⟩
 ·cases e
def fW(f:HF G X a ca):HF G X (.UnaryOp .Not a pos) (ku ca):=PT.weak (Aj f) λR H Q d=>by
 obtain⟨J,U,m,r,k,s,e,g,q⟩:=d;obtain⟨n,b,h,rfl,rfl⟩:=qb e;cases g;exact⟨J,U,n,_,b,s,h,rfl,λi e1=>q i e1⟩
def Cb(f:PV G X a ca):PV G X (.UnaryOp .Not a pos) (ku ca):=PE.weak (BX f) λR H Q d=>by
 obtain⟨J,U,m,r,s,e,q⟩:=d;obtain⟨n,b,g,rfl,rfl⟩:=qb e;exact⟨J,U,n,_,s,g,λv h F e1 r1 f1=>⟨b,r1.EU,q _ h _ e1 (.bl _) Fp.nil⟩⟩
def u0{op}(h:PV G X a ca):PV G X (.BoolOp op [a] pos) ca:=Bu h
def Ai{G:Gx}{X:Cx}{a:Expr}{ca cb:Ex}{pos:Pos}{rest:List Expr}(i:PV G X a ca)(h:PV G X (.BoolOp .And (b :: rest) pos) cb):PV G X (.BoolOp .And (a :: b :: rest) pos) (hJ ca cb) :=
 PE.weak (rh i h) λR H Q g=>by
  obtain⟨J,U,m,r,s,e,q⟩:=g;rcases pY e with⟨n,d,e2⟩ | ⟨n,d,rfl,rfl⟩
  ·refine⟨J,U,n,_,s,d,λv f F e1 r1 f1=>⟨Z,r1.EU,?_⟩⟩;refine qF ?_;exact⟨J,U,m,r,s.same e1,e2,λv j F e2 r2 f2=>q v j F (e1.trans e2) r2 (f2.back e1)⟩
  ·refine⟨J,U,n,_,s,d,λv f F e1 r1 f1=>⟨O,r1.EU,?_⟩⟩;refine qW ?_;exact q _ f _ e1 (.bl _) Fp.nil
def nt(r:Rp G H v t F):decide (v=.non)=KW t:=by
 cases r<;>simp[KW]
def zS{c:Ex}(h:tT G c R H Q)(f:∀U m r,c U=Y (m,r)->∃b,r=.bl b)(w:∀Q,tE G c R H Q->t R H Q):tB t R H Q:=by
 obtain⟨J,U,m,r,b,s,e,d,k⟩:=h;refine w _ ⟨J,U,m,r,s,e,λv i F e1 r1 f1=>?_⟩;obtain⟨j,g⟩:=f U m r e;rw[g]at d r1;cases (d);exact⟨_,r1.EU,k i e1⟩
end
section
def RpL.one(r:RpL G H d [t] f):∃v F,d=[v]/\f=[F]/\Rp G H v t F:=by
 cases r with
 |cons r q=>cases q;exact⟨_,_,rfl,rfl,r⟩
def RpL.two(r:RpL G H g [t,h] i):∃v d F f,g=[v,d]/\i=[F,f]/\Rp G H v t F/\Rp G H d h f:=by
 cases r with
 |cons r q =>
  obtain⟨d,f,rfl,rfl,j⟩:=q.one;exact⟨_,_,_,_,rfl,rfl,r,j⟩
def Dy(K:Wv):List V->Hp->VK->Prop:=λd H Q=>(∃x n,d=[x]/\CF K x H n/\Q (.int n) H)\/(∃a f,d=[V.ref a]/\H a=Y (.dK f)/\Q (.int f.length) H)
def qy:da X (.builtin "len") (λf H Q=>∃a d,f=[V.ref a]/\H a=Y (.dK d)/\Q (.int d.length) H):=by
 intro g s R H f m Q I r h;obtain⟨a,d,rfl,j,q⟩:=h;obtain⟨u,rfl,i⟩:=vals1 r;cases i;exact C8 I (.inl j) λt n l=>⟨.int d.length,H,l,⟨t,rfl⟩,q⟩
def tW:da X (.builtin "len") (Dy X.K):=wI.or qy
def BM:eR G (Dy G.K) cp:=by
 intro J U B H l o C m t Q A e k;refine L2.ak λz f=>?_;unfold cp at e;split at e
 ·rename_i x;obtain⟨w,x⟩:=x;obtain⟨n,d,e⟩:=Zx.mp e;cases e;obtain⟨v,F,rfl,rfl,r⟩:=(A.rp).one;have fin:=bw k (.int _);cases r with
  |non=>cases d
  |bl b=>cases d
  |int i=>cases d
  |str s g =>
   cases d;refine f ?_;exact .inl ⟨_,_,rfl,⟨by rw[dU,← fS];exact g.1,rfl⟩,by rw[dU];exact fin⟩
  |scr h =>
   cases d;refine f ?_;refine .inl ⟨_,_,rfl,.inl ⟨_,h.seq,rfl⟩,?_⟩;rw[Zw];exact fin
  |tup h q =>
   cases d;refine f ?_;refine .inl ⟨_,_,rfl,.inr ⟨_,FX.of h,rfl⟩,?_⟩;rw[q.len.1];exact fin
  |lst h q =>
   cases d;refine f ?_;refine .inl ⟨_,_,rfl,.inl ⟨_,EW.of h,rfl⟩,?_⟩;rw[q.len.1];exact fin
  |dct h g q =>
   cases d;refine f ?_;refine .inr ⟨_,_,rfl,h,?_⟩;rename_i y j u _;rw[Z9,Zw]at fin;rw[Z9,q.len.1];exact fin
  |dctT h g q=>cases d
  |dctN h g n q=>cases d
  |dctZ _ _ _=>cases d
  |exc _ _=>cases d
  |ins _ _ _ _=>cases d
  |mk _ _=>cases d
 ·cases e
def zA:eR G (λd H Q=>∃i j,d=[.int i,.int j]/\Q (.int (if j > i then j else i)) H) p9:=by
 intro J U n H l g o m t Q A e k;unfold p9 at e;split at e
 ·rename_i _ i _ j;cases e;obtain⟨v,h,F,q,rfl,rfl,r,f⟩:=(A.rp).two;exact⟨i,j,by rw[r.int_inv,f.int_inv],bw k (.int _)⟩
 ·cases e
def xV:eR G (λd H Q=>∃i j,d=[.int i,.int j]/\Q (.int (if j<i then j else i)) H) p7:=by
 intro J U n H l g o m t Q A e k;unfold p7 at e;split at e
 ·rename_i _ i _ j;cases e;obtain⟨v,h,F,q,rfl,rfl,r,f⟩:=(A.rp).two;exact⟨i,j,by rw[r.int_inv,f.int_inv],bw k (.int _)⟩
 ·cases e
def zX(K:Wv):List V->Hp->VK->Prop:=λf H Q=>∃p d,f=[.ref p]/\(EW K H p d\/FX K H p d)/\∀l,H l=M->Q (.ref l) (upd H l (.lst d))
def rR:eR G (zX G.K) zB:=by
 intro J U o H l n q m t Q A e k;unfold zB at e;split at e
 ·rename_i i x;obtain⟨v,F,rfl,rfl,f⟩:=(A.rp).one;obtain⟨a,d,j,rfl,rfl,h,g⟩:=f.lst_inv;exact⟨a,d,rfl,.inl (EW.of h),iL A.same e g ((A.fp.each 0 _ _ L L).sub (Yw _ _)) k⟩
 ·rename_i i x;obtain⟨v,F,rfl,rfl,f⟩:=(A.rp).one;obtain⟨a,d,j,rfl,rfl,h,g⟩:=f.Gk;exact⟨a,d,rfl,.inr (FX.of h),iL A.same e g (A.fp.each 0 _ _ L L) k⟩
 ·cases e
def tO(G:Gx)(c:Option Ex):TO:=λR H Q=>∃J U o,SR G J U R H/\ng c U=Y o/\∀d,aM H d->Q o d
def N1(G:Gx)(X:Cx)(e:Option Expr)(c:Option Ex):Prop:=PO X e (tO G c)
def PO.weak{X:Cx}{e:Option Expr}{f:TO}(h:PO X e t)(w:∀R H Q,f R H Q->t R H Q):PO X e f:=λd s R H Q I q=>h d s R H Q I (w R H Q q)
def gs:N1 G X M M:=PO.weak ya λR H Q d=>by
 obtain⟨J,U,o,s,e,k⟩:=d;cases (e);exact k H (aM.refl _)
def gx(h:PV G X a ca):N1 G X (Y a) (Y ca):=PO.weak (x8 h) λR H Q f=>by
 obtain⟨J,U,o,s,e,k⟩:=f;obtain⟨⟨m,y⟩,g,e⟩:=Zz.mp (e);obtain⟨i,d,e⟩:=Zx.mp e;cases e;refine⟨J,U,m,y,s,g,λv l F e1 r1 f1=>?_⟩;cases y with
 |int j =>
  cases d;exact⟨_,r1.int_inv,k l e1⟩
 |_=>cases d
def ko{α:Type}(l:List α)(d f:Option Int):cut l d f=(l.drop (HT.Fe l.length 0 d)).take (HT.Fe l.length l.length f-HT.Fe l.length 0 d):=by
 cases d<;>cases f<;>rfl
theorem Jg(a:Int)(n:Nat):max 0 (min a (n:Int))=((min a.toNat n:Nat):Int):=L2.Jg a n
def NH{k:Nat}(h:(k:Nat)<=n):max 0 (min (k:Int) (n:Int))=(k:Int):=by rw[Jg,Yk,YI h]
def yT(a:Int)(n:Nat):max 0 (min a (n:Int))=max 0 (min ((min a.toNat n:Nat):Int) (n:Int)):=by
 rw[Jg,Jg,Yk,Nat.min_assoc,Y8]
def wR(d f:Option Int)(n:Nat):Builtin.Str.strSliceIndices d f 1 n=Builtin.Str.strSliceIndices (Y ((min (HT.Fe n 0 d) n:Nat):Int)) (Y ((min (HT.Fe n n f) n:Nat):Int)) 1 n:=by
 have nn:∀k:Nat,¬((k:Int)<0):=λk=>by lia
 unfold Builtin.Str.strSliceIndices;simp only[show (1:Int) > 0 by decide,if_true,nn,if_false];congr 1
 ·cases d with
  |none=>simp only[HT.Fe];rw[Jg,Yk,Nat.zero_min,Nat.zero_min];rfl
  |some i =>
   simp only[HT.Fe];by_cases h:i<0
   ·simp only[h,if_true];exact yT _ _
   ·simp only[h,if_false];rw[Nat.min_assoc,Y8];exact yT _ _
 ·cases f with
  |none=>simp only[HT.Fe];rw[Jg,Yk,Y8,Y8]
  |some i =>
   simp only[HT.Fe];by_cases h:i<0
   ·simp only[h,if_true];exact yT _ _
   ·simp only[h,if_false];rw[Nat.min_assoc,Y8];exact yT _ _
def mE(s:Tx)(d f:Option Int):PySem.StrLaws.sliceText (sx s) d f=sx (cut s d f):=by
 have key:PySem.StrLaws.sliceText (sx s) d f=PySem.StrLaws.sliceText (sx s) (Y ((min (HT.Fe s.length 0 d) s.length:Nat):Int)) (Y ((min (HT.Fe s.length s.length f) s.length:Nat):Int)):=by
  unfold PySem.StrLaws.sliceText;rw[dU,wR]
 rw[key];have hd:∀a:Nat,s.drop (min a s.length)=s.drop a:=λa=>by
  by_cases h:a<=s.length
  ·rw[YI h]
  ·rw[Wo (by exact XT h),YZ (Zj _),YZ (by exact XT h)]
 by_cases h:min (HT.Fe s.length 0 d) s.length<=min (HT.Fe s.length s.length f) s.length
 ·rw[PySem.StrLaws.sliceText_nat (sx s) h (by rw[dU];exact YA _ _),ko];show (⟨_⟩:Str)=⟨_⟩;congr 2;have:(sx s).cps.toList=s:=rfl;rw[this,hd];by_cases i:HT.Fe s.length 0 d<=s.length
  ·rw[YI i];by_cases g:HT.Fe s.length s.length f<=s.length
   ·rw[YI g]
   ·rw[Wo (by exact XT g),XJ (by rw[Xu];exact Zj _),XJ (by rw[Xu];lia)]
  ·rw[YZ (by exact XT i)];simp
 ·have j:cut s d f=[]:=by
   rw[ko];have:HT.Fe s.length s.length f-HT.Fe s.length 0 d=0:=by omega
   rw[this,List.take_zero]
  rw[j];unfold PySem.StrLaws.sliceText;have e2:Builtin.Str.strSliceIndices (Y ((min (HT.Fe s.length 0 d) s.length:Nat):Int)) (Y ((min (HT.Fe s.length s.length f) s.length:Nat):Int)) 1 (sx s).length=[]:=by
   have e1:∀k:Nat,¬((k:Int)<0):=λk=>by lia
   unfold Builtin.Str.strSliceIndices sliceRange;simp only[show (1:Int) > 0 by decide,if_true,e1,if_false,dU];rw[NH (YA _ _),NH (YA _ _),Zp λz=>h (Y0 (Int.ofNat_lt.mp z))];rfl
  rw[e2];have:¬((1:Int)==1&&([]:Wf).length==(sx s).length)=Z:=by
   rw[dU];simp;lia
  rw[Zp this];rfl
noncomputable def CN:V->Option Int->Option Int->Hp->VK->Prop:=λx lo d H Q=>∃z,x=.str z/\z.length<=FS/\Q (.str (PySem.StrLaws.sliceText z lo d)) H
def part_of(h:IsPart v o):∃q:Option (Int×Tok),v=partValue q/\o=q.map (·.1):=by
 cases h with
 |none=>exact⟨M,rfl,rfl⟩
 |int i t=>exact⟨Y (i,t),rfl,rfl⟩
def oo{α β:Type}(f:α->Option β)(l:List α):(l.filterMap f).length<=l.length:=List.length_filterMap_le f l
def yh(d f:Option Int)(n:Nat):(Builtin.Str.strSliceIndices d f 1 n).length<=n:=by
 rw[wR];by_cases h:min (HT.Fe n 0 d) n<=min (HT.Fe n n f) n
 ·rw[PySem.StrLaws.strSliceIndices_plain h (by exact YA _ _),Zw,Z4];lia
 ·have e1:∀k:Nat,¬((k:Int)<0):=λk=>by lia
  unfold Builtin.Str.strSliceIndices sliceRange;simp only[show (1:Int) > 0 by decide,if_true,e1,if_false];rw[NH (YA _ _),NH (YA _ _),Zp λz=>h (Y0 (Int.ofNat_lt.mp z))];simp
def Bs:Ks X CN:=by
 intro f s R H x v r o lo y w Q I g n i pu h;refine L2.ak λA j=>?_;obtain⟨z,rfl,m,q⟩:=h;obtain⟨t,rfl⟩:=g;obtain⟨l,rfl,rfl⟩:=part_of i;obtain⟨u,rfl,rfl⟩:=part_of pu;refine j ?_;refine⟨"str",_,F.slot_str_getitem.lookup,typeIs_str s z t,wpAny_getItem_str_slice (l:=l) (u:=u) (st:=M) n L ?_⟩;unfold sliceMade;split
 ·rename_i d;refine⟨.str z,H,I,⟨t,rfl⟩,?_⟩;have e:PySem.StrLaws.sliceText z (l.map (·.1)) (u.map (·.1))=z:=by
   exact Zr d
  rw[e]at q;exact q
 ·rename_i d;refine⟨ZF ?_ m,.str _,H,I.tok _,⟨_,rfl⟩,?_⟩
  ·show (List.filterMap _ _).toArray.size<=_;rw[ZW];exact ZF (oo _ _) (yh _ _ _)
  ·have e:PySem.StrLaws.sliceText z (l.map (·.1)) (u.map (·.1))=⟨((slicePicked z l u M).filterMap (z.cps[·]?)).toArray⟩:=by
    exact Zp d
   rw[e]at q;exact q
def RV(K:Wv):V->Option Int->Option Int->Hp->VK->Prop:=λx lo d H Q=>CN x lo d H Q\/CQ K x lo d H Q
def D8:Ks X (RV X.K):=Bs.or zj
def xI{α:Type}(l:List α)(d f:Option Int):(cut l d f).length<=l.length:=by
 rw[ko,Y1,Xu];lia
theorem RpL.cut(r:RpL G H g i j)(d f:Option Int):RpL G H (uY g d f) (VS.cut i d f) (VS.cut j d f):=by
 have h:=r.len;rw[ko,ko,h.2];unfold uY;rw[h.1];exact(r.drop _).take _
def rQ{α:Type}(l:List α)(d f:Option Int):(VS.cut l d f).Sublist l:=by
 rw[ko];exact(List.take_sublist _ _).trans (List.drop_sublist _ _)
def xm{F G:Xd}(h:F.Sublist G):F.flatten.Sublist G.flatten:=by
 induction h with
 |slnil=>exact Y9 _
 |cons a _ d=>rw[ZZ];exact d.trans (YV _ _)
 |cons_cons a _ d=>rw[ZZ,ZZ];exact(Y9 _).append d
def gC(ha:PV G X a ca)(d:N1 G X j u)(S:N1 G X n w)(hK:{`q2,X.K=G.K}):PV G X (.Subscript a (.Slice j n M D) pos) (IU ca u w) :=
 PE.weak (vJ D8 ha d S) λR H Q P=>by
  refine L2.ak λP_ N=>?_;obtain⟨J,U,m,t,s,e,k⟩:=P;obtain⟨⟨E,x⟩,ea,r⟩:=Zz.mp e;obtain⟨l,el,y⟩:=Zz.mp r;obtain⟨h,eh,f⟩:=Zz.mp y;refine N ?_;clear e r y;refine⟨J,U,E,x,s,ea,λv H1 F e1 r1 f1=>⟨J,U,l,s.same e1,el,λH2 e2=>⟨J,U,h,(s.same e1).same e2,eh,λH3 o=>?_⟩⟩⟩;have g:=(e1.trans e2).trans o;have i:=(r1.same e2).same o;unfold Oz at f;split at f
  ·rename_i L z q;cases q;cases f;obtain⟨rfl,d⟩:=i.str_inv;refine .inl ⟨_,rfl,by rw[dU,← fS];exact d.1,?_⟩;rw[mE];exact k _ H3 _ g (.str _ ⟨ZF (xI _ _ _) d.1,λc hc=>d.2 c ((rQ _ _ _).subset hc)⟩) Fp.nil
  ·rename_i L z q;cases q;obtain⟨a',A,Fs,rfl,rfl,EN,B⟩:=i.lst_inv;refine .inr ⟨a',A,rfl,by rw[hK];exact EW.of EN,iL g f (B.cut l h) ((f1.sub (Yw _ _)).sub (xm (rQ _ _ _))) λv H4 F e5 C f4=>k v H4 F (g.trans e5) C f4⟩
  ·cases f
noncomputable def IL:Ty->String
 |.int => "int"
 |.str => "str"
 |.bool => "bool"
 |.list => "list"
 |.tuple => "tuple"
 |.dict => "dict"
def RW(K:Wv):List V->Hp->VK->Prop:=λd H Q=>∃x c t b,d=[x,.ty c]/\FU K H x t/\PySem.W.kitOne K t (.type c)=Y b/\Q (.bl b) H
def xO:da X (.builtin "isinstance") (RW X.K):=by
 intro d s R H f i Q I r h;obtain⟨x,c,t,b,rfl,ty,e,q⟩:=h;obtain⟨u,g,rfl,r1,r2⟩:=vals2 r;cases r2;exact tD I r1 ty e λj=>⟨.bl b,H,I.tok _,rfl,q⟩
def yV(K:Wv)(d:Ty):(PySem.W.kitOne K (.type "NoneType") (.type (IL d))=Y O)/\(PySem.W.kitOne K (.type "bool") (.type (IL d))=Y (pQ d (.bl Z)))/\(PySem.W.kitOne K (.type "int") (.type (IL d))=Y (pQ d (.int 0))) ∧
  (PySem.W.kitOne K (.type "str") (.type (IL d))=Y (pQ d (.str [])))/\(PySem.W.kitOne K (.type "list") (.type (IL d))=Y (pQ d (.lst [])))/\(PySem.W.kitOne K (.type "tuple") (.type (IL d))=Y (pQ d (.tup [])))/\(PySem.W.kitOne K (.type "dict") (.type (IL d))=Y (pQ d (.dct 0 []))):=by
 cases d<;>refine⟨?_,?_,?_,?_,?_,?_,?_⟩<;>kernel_rfl
def CY(d:Ty)(r:Rp G H v t F)(h:rm t=Z):∃g,FU G.K H v g/\PySem.W.kitOne G.K g (.type (IL d))=Y (pQ d t):=by
 obtain⟨y,x,w,u,o,m,j⟩:=yV G.K d;cases r with
 |non=>exact⟨_,.non,by rw[y];cases d<;>rfl⟩
 |bl b=>exact⟨_,.bl b,by rw[x];cases d<;>rfl⟩
 |int i=>exact⟨_,.int i,by rw[w];cases d<;>rfl⟩
 |str s _=>exact⟨_,.str _,by rw[u];cases d<;>rfl⟩
 |scr _=>cases h
 |tup f q=>exact⟨_,.tup f,by rw[m];cases d<;>rfl⟩
 |lst f q=>exact⟨_,.lst f,by rw[o];cases d<;>rfl⟩
 |dct f l q=>exact⟨_,.dK f,by rw[j];cases d<;>rfl⟩
 |dctT f l q=>exact⟨_,.dT f,by rw[j];cases d<;>rfl⟩
 |dctN f l n q=>simp at h
 |dctZ _ _ _=>cases h
 |exc _ _=>cases h
 |ins _ _ _ _=>cases h
 |mk _ _=>cases h
def Cr(f:Ty)(C:PV G X a ca)(B:Gl X "isinstance")(z:X.mg "isinstance" = M)(P:Gl X x)(S:X.mg x=M)(r:bootBuiltins x=Y (.type (IL f)))(j:{`q2,X.K=G.K})(w:{`q1,x ≠ "__name__"})(EC:{`q1,K3 x})(i:{`q2,KM [a,.Name x d] X.env=(O,eval a X.env) :: KM [.Name x d] X.env})(GV:{`q2,KM [.Name x d] X.env=(O,eval (.Name x d) X.env) :: KM [] X.env})(g:{`q2,(backTo pos (KM [Expr.Name x d] X.env)).any (·.1)=O}) :
  PV G X (.Call (.Name "isinstance" n) [a,.Name x d] [] pos) (NX f ca) :=
 PE.weak (jG xO B z boot_isinstance (c9 C (c9 (rB (v:=.ty (IL f)) P S r L w EC) je GV) i) (by decide) L i g) λR H Q u=>by
  refine L2.ak λP_ q=>?_;obtain⟨J,U,m,t,s,e,k⟩:=u;obtain⟨⟨o,y⟩,N,h⟩:=Zz.mp e;refine q ?_;split at h
  ·rename_i A;cases h;refine⟨J,U,o,y,s,N,λv H' F e1 r1 f1=>?_⟩;obtain⟨l,E,D⟩:=CY f r1 A;exact⟨v,IL f,l,_,rfl,by rw[j];exact E,by rw[j];exact D,k _ H' _ e1 (.bl _) Fp.nil⟩
  ·cases h
end
section
def C5(G:Gx)(r:V->List V->Hp->VK->Prop)(f:Val->Wa->W0):Prop:=∀(J:Eo)(U:VS.Env)(d i H:Hp)(x:Val)(v:V)(F:Wi)(l:Wa)(h:List V)(j:Xd)(m:Md)(t:T)(Q:VK),
 aM d i->Rp G H v x.2 F->Fp J U d x.1 F->Args G J U i H l h j->f x l=Y (m,t)->(∀v g F,aM H g->Rp G g v t F->Fp J U d m F->Q v g)->r v h H Q
def Ci{g:Pos}(A:PlainAttrs n)(h:Slot n d j)(K6:typeOf (.builtin j)=pure (.type "method_descriptor"))(N:Nj X j r)(B:C5 G r f)(S:∀H v (x:Val) F l z,Rp G H v x.2 F->f x l=Y z->Kb G.K n v H)(L:PV G X a ca)(P:E7 G X (e :: es) cs)(hK:{`q2,X.K=G.K})(ES:{`q2,SL a d X.env (eval a X.env)=eval a X.env})(Fm:{`q2,((backTo i (KM (e :: es) X.env)).all (λx=>!x.1)&&(backToKw i (Pv [] X.env)).all (λx=>x.1.isSome)
   && decide ((e :: es).length+([]:List Keyword).length+(if ([]:List Keyword).isEmpty then 0 else 1)<30))=Z})(EA:{`q2,(g.endLine==i.line)=Z})(D:{`q2,K1 e es X})(Ez:{`q2,K2 i es X}) :
  PV G X (.Call (.Attribute a d g) (e :: es) [] i) (eM f ca cs) :=
 PE.weak (sH A h K6 N L P ES Fm EA D Ez) λR H Q E=>by
  refine L2.ak λP_ C=>?_;obtain⟨J,U,m,t,s,e,k⟩:=E;obtain⟨x,ea,e'⟩:=Zz.mp e;obtain⟨l,el,o⟩:=Zz.mp e';refine C ?_;refine⟨J,U,x.1,x.2,s,ea,λv q F e1 r1 f1=>⟨by rw[hK];exact S q v x F l _ r1 o,J,U,l,s.same e1,el,λu H2 Fs e2 r2 f2=>?_⟩⟩;exact B J U H q H2 x v F l u Fs m t Q e1 (r1.same e2) f1 ⟨e2,r2,f2⟩ o λw H3 F' e3 y f3=>k w H3 F' ((e1.trans e2).trans e3) y f3
def yA:∀(sep:Tx)(d:List Tx),Txt.join (sx sep) (d.map sx)=sx (dg sep d):=by
 intro sep d;have fold:∀(l:List Tx)(acc:Tx),(l.map sx).foldl (λacc p=>acc++(sx sep).cps++p.cps) acc.toArray=(l.foldl (λacc p=>acc++sep++p) acc).toArray:=by
  intro l
  induction l with
  |nil=>intro acc;rfl
  |cons x r f =>
   intro acc;rw[Zm,Xp,Xp,← f];congr 1;simp[sx]
 have g:∀(r:List Tx)(acc:Tx),r.foldl (λacc p=>acc++sep++p) acc=dg sep (acc :: r):=by
  intro r
  induction r with
  |nil=>intro acc;rfl
  |cons x r f =>
   intro acc;rw[Xp,f];cases r with
   |nil=>rfl
   |cons y r=>simp[dg]
 cases d with
 |nil=>rfl
 |cons x r =>
  show (⟨_⟩:Str)=⟨_⟩;congr 1;show ((r.map sx).foldl _ x.toArray)=_;rw[fold,g]
theorem rX:∀{d:List V}{l:W3}{g:Xd}{f:List Tx},RpL G H d l g->strs? l=Y f->d=f.map λs=>V.str (sx s)
 |_,_,_,_,.nil,e=>by cases e;rfl
 |_,_,_,_,.cons (t:=t) r q,e=>by
  cases t with
  |str s =>
   obtain⟨h,e1,e2⟩:=Zx.mp e;subst e2;rw[rX q e1,r.str_inv.1];rfl
  |_=>cases e
theorem lV:∀{d:List Tx}{f:Wh},aI (d.map λs=>V.str (sx s)) f->StrsAre f (d.map sx)
 |[],_,h=>by cases h;exact .nil
 |s :: d,_,h=>by
  cases h with
  |cons r q =>
   obtain⟨t,rfl⟩:=r;exact .cons _ _ (lV q)
def rJoin(K:Wv):V->List V->Hp->VK->Prop:=λx f H Q=>∃sep p d,x=.str (sx sep)/\f=[.ref p]/\EW K H p (d.map λs=>V.str (sx s))/\total d+d.length*sep.length<=16777216/\Q (.str (sx (dg sep d))) H
theorem sR:∀d:List Tx,((d.map sx).map (·.length)).sum=total d
 |[]=>rfl
 |s :: r=>by
  rw[Zm,Zm,X8,sR r,dU];rfl
def yz:Nj X "str.join" (rJoin X.K):=by
 intro d s R H x o v w Q I f n h;refine L2.ak λC j=>?_;obtain⟨sep,p,z,rfl,rfl,l,m,q⟩:=h;obtain⟨t,rfl⟩:=f;obtain⟨u,rfl,g⟩:=vals1 n;cases g;obtain⟨A,r,i,B⟩:=I.list l;refine j ?_;refine join_list i.isList (by simpa using lV r) ?_ λy k=>⟨.str _,H,I.tok _,⟨_,by rw[yA]⟩,q⟩
 rw[sR,Zw,dU];exact m
theorem l5(d:Tx):∀f:List Tx,(dg d f).length<=total f+f.length*d.length
 |[]=>by simp[dg,total]
 |[x]=>by simp[dg,total]
 |x :: y :: r=>by
  have:=l5 d (y :: r);simp only[dg,total,Zv,ZU]at this ⊢;lia
theorem lz(d:Tx):∀(f:List Tx)(c:Nat),c∈dg d f->c∈d\/∃s∈f,c∈s
 |[],c,h=>by simp[dg]at h
 |[x],c,h=>.inr ⟨x,Zu,h⟩
 |x :: y :: r,c,h=>by
  simp only[dg,Zc]at h;rcases h with (h | h) | h
  ·exact .inr ⟨x,Zu,h⟩
  ·exact .inl h
  ·refine(lz d (y :: r) c h).imp id λj=>?_;obtain⟨s,g,i⟩:=j;exact⟨s,Zt _ g,i⟩
theorem ll:∀{g:List V}{l:W3}{h:Xd}{f:List Tx},RpL G H g l h->strs? l=Y f->∀s∈f,∀c∈s,c<1114112
 |_,_,_,_,.nil,e,s,d=>by cases e;simp at d
 |_,_,_,_,.cons (t:=t) r q,e,s,d=>by
  cases t with
  |str x =>
   obtain⟨i,e1,e2⟩:=Zx.mp e;subst e2;rcases Zi.mp d with rfl | d
   ·exact r.str_inv.2.2
   ·exact ll q e1 s d
  |_=>cases e
def zb:C5 G (rJoin G.K) gS:=by
 intro J U R P H x v F l C Fs m t Q N r f A e k;unfold gS at e;split at e
 ·rename_i D sep E L;obtain⟨d,n,g⟩:=Zz.mp e;split at g
  ·rename_i i;cases g;obtain⟨B,F',rfl,rfl,q⟩:=(A.rp).one;obtain⟨u,z,S,rfl,rfl,j,h⟩:=q.lst_inv;rw[rX h n]at j;refine⟨sep,u,d,r.str_inv.1,rfl,EW.of j,i,bw k (.str _ ⟨ZF (l5 sep d) i,λc s=>(lz sep d c s).elim (r.str_inv.2.2 c) λ⟨o,y,w⟩=>ll h n o y c w⟩)⟩
  ·cases g
 ·cases e
def uK(r:Rp G H v t F)(h:∃s,t=.str s):Kb G.K "str" v H:=by
 obtain⟨s,rfl⟩:=h;rw[r.str_inv.1];rfl
def n8{d:Pos}(i:PV G X a ca)(j:E7 G X [e] cs)(g:{`q2,X.K=G.K})(o:{`q2,SL a "join" X.env (eval a X.env)=eval a X.env})(m:{`q2,((backTo f (KM [e] X.env)).all (λx=>!x.1)&&(backToKw f (Pv [] X.env)).all (λx=>x.1.isSome)
   && decide ([e].length+([]:List Keyword).length+(if ([]:List Keyword).isEmpty then 0 else 1)<30))=Z})(q:{`q2,(d.endLine==f.line)=Z})(h:{`q2,K1 e [] X})(n:{`q2,(backTo f (KM [] X.env)).any (·.1)=O}) :
  PV G X (.Call (.Attribute a "join" d) [e] [] f) (eM gS ca cs) :=
 Ci PySem.F.plainAttrs_str PySem.F.slot_str_join PySem.F.type_str_join (g ▸ yz) zb (λH v x F l z r e=>uK r (by
  unfold gS at e;split at e
  ·exact⟨_,rfl⟩
  ·cases e)) i j g o m q h n
end
end VS
end
section
namespace VS
@[simp] def Hb(x y:Val):W0:=match x.2 with
 |.dct 0 l=>if iu y.2 then (eV l y.2).map (sub x.1) else M
 |_=>aT x y
noncomputable def flat:T->Bool
 |.non=>Z
 |.bl _=>Z
 |.int _=>Z
 |.str _=>Z
 |_=>O
@[simp] def lG(x y:Val):W0:=match y.2 with
 |.dct 0 l=>if iu x.2 then Y (.fr,.bl (eV l x.2).isSome) else M
 |.lst l=>if flat x.2&&l.all flat then Y (.fr,.bl (l.any λy=>eqT y x.2)) else M
 |.tup l=>if flat x.2&&l.all flat then Y (.fr,.bl (l.any λy=>eqT y x.2)) else M
 |_=>M
@[simp] def du(x y:Val):W0:=match lG x y with
 |some (_,.bl b)=>Y (.fr,.bl (!b))
 |_=>M
def pm{α:Type}(f:T->Option (T×α)):List Ky->T->Option (T×α)
 |[],t=>f t
 |.fld k :: r,t=>match t with
  |.obj (c+1) (q :: fs)=>(fs.findIdx? λp=>p.1==k).bind λi=>(fs[i]?).bind λp=>(pm f r p.2).map λz=>(.obj (c+1) (q :: fs.set i (p.1,z.1)),z.2)
  |_=>M
 |.un :: r,t=>match t with
  |.obj 0 [(0,.bl true),(m,x)]=>(pm f r x).map λz=>(.obj 0 [(0,.bl Z),(m,z.1)],z.2)
  |_=>M
 |.at k :: r,t=>match t with
  |.lst l=>match k with
   |.int i=>(Gc l.length i).bind λj=>(l[j]?).bind λx=>(pm f r x).map λz=>(.lst (l.set j z.1),z.2)
   |_=>M
  |.dct 0 l=>if iu k then (l.findIdx? λp=>eqT p.1 k).bind λi=>(l[i]?).bind λp=>(pm f r p.2).map λz=>(.dct 0 (l.set i (p.1,z.1)),z.2) else M
  |_=>M
end VS
end
section
namespace VS
open PySem PySem.Spec PyProof.Rows L2
section
mutual
def Ib:T->PyData
 |.non=>.none
 |.bl b=>.bool b
 |.int i=>.int i
 |.str s=>.str (sx s)
 |.tup l=>.tuple (mr l)
 |.lst l=>.list (mr l)
 |_=>.none
def mr:W3->List PyData
 |[]=>[]
 |t :: r=>Ib t :: mr r
end
def Cm(h:my s):PyData.strOk (sx s)=Z:=by
 unfold PyData.strOk sx;simp only[Array.all_eq_true,decide_eq_true_eq];intro i a;have:s.toArray[i]∈s:=by simp
 have:=h.2 _ this;simpa using this
def vg:(sx s==sx t)=(s==t):=by
 rw[XD,beq_iff_eq,beq_iff_eq];constructor
 ·intro h;have:(sx s).cps=(sx t).cps:=by rw[h]
  simpa[sx] using this
 ·intro h;rw[h]
mutual
theorem nZ:∀(n k:Nat)(t u:T),Ff n t=Z->Ff k u=Z->PyData.eqv (Ib t) (Ib u)=eqT t u
 |n,k,t,u,b,a=>by
  cases t with
  |scr _=>cases n<;>cases b
  |dct _ _=>cases n<;>cases b
  |obj _ _=>cases n<;>cases b
  |tup l =>
   cases n with
   |zero=>cases b
   |succ n =>
    cases u with
    |tup r =>
     cases k with
     |zero=>cases a
     |succ k =>
      exact ma n k l r (ZE.mp b) (ZE.mp a)
    |scr _=>cases k<;>cases a
    |dct _ _=>cases k<;>cases a
    |obj _ _=>cases k<;>cases a
    |_=>rfl
  |lst l =>
   cases n with
   |zero=>cases b
   |succ n =>
    cases u with
    |lst r =>
     cases k with
     |zero=>cases a
     |succ k =>
      exact ma n k l r (ZE.mp b) (ZE.mp a)
    |scr _=>cases k<;>cases a
    |dct _ _=>cases k<;>cases a
    |obj _ _=>cases k<;>cases a
    |_=>rfl
  |str s =>
   cases u with
   |str r=>exact vg
   |scr _=>cases k<;>cases a
   |dct _ _=>cases k<;>cases a
   |obj _ _=>cases k<;>cases a
   |_=>rfl
  |_ =>
   cases u with
   |scr _=>cases k<;>cases a
   |dct _ _=>cases k<;>cases a
   |obj _ _=>cases k<;>cases a
   |_=>rfl
theorem ma:∀(n k:Nat)(l r:W3),(∀t∈l,Ff n t=Z)->(∀t∈r,Ff k t=Z)->PyData.eqvAll (mr l) (mr r)=sW l r
 |_,_,[],[],_,_=>rfl
 |_,_,[],_ :: _,_,_=>rfl
 |_,_,_ :: _,[],_,_=>rfl
 |n,k,t :: l,u :: r,d,b=>by
  show (PyData.eqv (Ib t) (Ib u)&&PyData.eqvAll (mr l) (mr r))=(eqT t u&&sW l r);rw[nZ n k t u (d t Zu) (b u Zu),ma n k l r (λx a=>d x (Zt _ a)) λx a=>b x (Zt _ a)]
end
def Rp.Ja(r:Rp G H v (.tup d) F):∃b a e,v=.ref b/\H b=Y (.tup a)/\RpL G H a d e:=by
 cases r with
 |tup h q=>exact⟨_,_,_,rfl,h,q⟩
def Rp.Ji(r:Rp G H v (.lst d) F):∃b a e,v=.ref b/\H b=Y (.lst a)/\RpL G H a d e:=by
 cases r with
 |lst h q=>exact⟨_,_,_,rfl,h,q⟩
theorem kb{s:FB}(f:∀{v:V}{t:T}{F:Wi}{u:IR},Rp G H v t F->RelV v u->Ff n t=Z->∃b,Reads s.heap u (Ib t) b/\(Ib t).canLay0=Z/\(Ib t).depth<=n):∀{d:List V}{a:W3}{y:Xd}{e:Wh},RpL G H d a y->aI d e->(∀t∈a,Ff n t=Z) →
  ∃b,ReadsAll s.heap e (mr a) b/\PyData.canLayAll0 (mr a)=Z/\PyData.depthAll (mr a)<=n
 |_,_,_,_,.nil,r,_=>by cases r;exact⟨_,.nil,rfl,YT _⟩
 |_,_,_,_,.cons p q,r,h=>by
  cases r with
  |cons r1 r2 =>
   refine L2.ak λz g=>?_;obtain⟨b,m,l,j⟩:=f p r1 (h _ Zu);obtain⟨bs,x,w,o⟩:=kb f q r2 λt i=>h t (Zt _ i);refine g ?_;exact⟨_,.cons m x,Zf.mpr ⟨l,w⟩,Nat.max_le.mpr ⟨j,o⟩⟩
def lU(r:Rp G H v t F)(a:RelV v u)(d:flat t=Z):∃e,Reads h u (Ib t) e/\(Ib t).canLay0=Z/\(Ib t).depth<=n:=by
 cases r with
 |non=>cases a;exact⟨_,.none,rfl,YT _⟩
 |bl b=>cases a;exact⟨_,.bool b,rfl,YT _⟩
 |int i=>obtain⟨t,rfl⟩:=a;exact⟨_,.int i t,rfl,YT _⟩
 |str s h=>obtain⟨t,rfl⟩:=a;exact⟨_,.str _ t,Cm h,YT _⟩
 |_=>cases d
def jJ(I:Inv X d R H s)(n:Nat):∀{v:V}{t:T}{F:Wi}{u:IR},Rp G H v t F->RelV v u->Ff n t=Z->∃w,Reads s.heap u (Ib t) w/\(Ib t).canLay0=Z/\(Ib t).depth<=n:=by
 induction n with
 |zero =>
  intro v t F u r a h;refine lU r a ?_;cases t<;>first | rfl | exact h
 |succ n x =>
  intro v t F u r a h;cases t with
  |tup l =>
   obtain⟨b,y,E,rfl,e,q⟩:=Rp.Ja r;cases a;obtain⟨C,f,z,D⟩:=I.tuple (FX.of e);obtain⟨w,p,m,j⟩:=kb x q f (ZE.mp h);obtain⟨o,g,i,B,hd⟩:=z;exact⟨_,.tuple g i hd (by simpa using p),m,XU j⟩
  |lst l =>
   obtain⟨b,y,E,rfl,e,q⟩:=Rp.Ji r;cases a;obtain⟨C,f,A,D⟩:=I.list (EW.of e);obtain⟨w,p,m,j⟩:=kb x q f (ZE.mp h);obtain⟨o,g,i,B,hd⟩:=A.isList;exact⟨_,.list g i hd (by simpa using p),m,XU j⟩
  |scr _=>cases h
  |dct _ _=>cases h
  |obj _ _=>cases h
  |_=>exact lU r a L
def yf(G:Gx)(a:Bool):Fo:=λx y H Q=>∃t u F b,Rp G H x t F/\Rp G H y u b/\Ff 60 t=Z/\Ff 60 u=Z/\Q (.bl (if a then !eqT t u else eqT t u)) H
def iE{d:PyData}(h:d.canLay0=Z)(a:d.depth<=60):SeqAt.shaped d=Z:=by
 unfold SeqAt.shaped;rw[h,Bool.true_and];exact decide_eq_true (by lia)
def uv(g:X.A.units+64<cLine):OpR X (P3 .Eq) (yf G O):=by
 intro a s R H x y v u Q I f e h;obtain⟨t,w,F,r,r1,r2,d,b,q⟩:=h;obtain⟨p,o,n,m⟩:=jJ I 60 r1 f d;obtain⟨bs,l,j,i⟩:=jJ I 60 r2 e b;refine eq_dataH o l (iE n m) (iE j i) g ⟨.bl _,H,I,rfl,?_⟩;rw[nZ 60 60 t w d b];exact q
def B5(g:X.A.units+64<cLine):OpR X (P3 .NotEq) (yf G Z):=by
 intro a s R H x y v u Q I f e h;obtain⟨t,w,F,r,r1,r2,d,b,q⟩:=h;obtain⟨p,o,n,m⟩:=jJ I 60 r1 f d;obtain⟨bs,l,j,i⟩:=jJ I 60 r2 e b;refine ne_dataH o l (iE n m) (iE j i) g ⟨.bl _,H,I,rfl,?_⟩;rw[nZ 60 60 t w d b];exact q
def zL:eT G (yf G O) oEq:=by
 intro J U b H x y u w f d m t Q a e k;unfold oEq at e;split at e
 ·rename_i h;cases e;exact⟨_,_,_,_,a.r1,a.r2,h.1,h.2,bw k (.bl _)⟩
 ·cases e
def Ct:eT G (yf G Z) Ik:=by
 intro J U b H x y u w f d m t Q a e k;unfold Ik at e;split at e
 ·rename_i h;cases e;exact⟨_,_,_,_,a.r1,a.r2,h.1,h.2,bw k (.bl _)⟩
 ·cases e
def tells_eq:Tells oEq:=by
 intro x y m t e;unfold oEq at e;split at e<;>first | (cases e;exact⟨_,rfl⟩) | cases e
def wj:Tells Ik:=by
 intro x y m t e;unfold Ik at e;split at e<;>first | (cases e;exact⟨_,rfl⟩) | cases e
end
structure Eu(J:Eo)(U:VS.Env)(H:Hp)(J':Eo)(U':VS.Env)(H':Hp):Prop where
 keep:∀a o,H a=some o->¬cF J U a->H' a=some o/\¬cF J' U' a
 EI:∀a,H a≠none->H' a≠none
 ow:∀a,cF J' U' a->cF J U a\/H a=none
 pu:∀a,ff J' U' a->ff J U a\/cF J U a\/H a=none
 kept:Kept H H'
theorem Eu.refl(J:Eo)(U:VS.Env)(H:Hp):Eu J U H J U H:=⟨λa o h n=>⟨h,n⟩,λ_ h=>h,λ_ h=>.inl h,λ_ h=>.inl h,Kept.refl H⟩
theorem Eu.none{U:VS.Env}(f:Eu J U H g d b)(h:b a=M):H a=M:=by
 cases e:H a with
 |none=>rfl
 |some o=>exact absurd h (f.EI a (by rw[e];exact λz=>nomatch z))
theorem Eu.trans{J e d:Eo}{U U1 b:VS.Env}{H j i:Hp}(f:Eu J U H e U1 j)(g:Eu e U1 j d b i):Eu J U H d b i where
 keep:=λa o h n=>let ⟨m,l⟩:=f.keep a o h n;g.keep a o m l
 EI:=λa h=>g.EI a (f.EI a h)
 ow:=λa h=>by
  rcases g.ow a h with h | h
  ·exact f.ow a h
  ·exact .inr (f.none h)
 pu:=λa h=>by
  rcases g.pu a h with h | h | h
  ·exact f.pu a h
  ·rcases f.ow a h with h | h
   ·exact .inr (.inl h)
   ·exact .inr (.inr h)
  ·exact .inr (.inr (f.none h))
 kept:=f.kept.trans g.kept
def Eu.same{H:Hp}(e:aM H b):Eu J U H J U b :=
 ⟨λa o h n=>⟨e a o h,n⟩,λa h z=>h (e.free z),λ_ h=>.inl h,λ_ h=>.inl h,Kept.of e⟩
def pb(J:Eo)(U:VS.Env)(H:Hp):Md->Wi->Prop
 |.fr,F=>F.Nodup/\∀a∈F,H a=M\/cF J U a
 |_,F=>∀a∈F,H a=M\/ff J U a\/cF J U a
theorem pb.back(f:Eu J U H e d g):∀{m:Md},pb e d g m F->pb J U H m F
 |.fr,h=>⟨h.1,λa b=>(h.2 a b).elim (λz=>.inl (f.none z)) λz=>(f.ow a z).elim .inr .inl⟩
 |.pu,h=>λa b=>by
  rcases h a b with z | z | z
  ·exact .inl (f.none z)
  ·rcases f.pu a z with z | z | z
   ·exact .inr (.inl z)
   ·exact .inr (.inr z)
   ·exact .inl z
  ·exact(f.ow a z).elim (λz=>.inr (.inr z)) .inl
 |.bo,h=>λa b=>by
  rcases h a b with z | z | z
  ·exact .inl (f.none z)
  ·rcases f.pu a z with z | z | z
   ·exact .inr (.inl z)
   ·exact .inr (.inr z)
   ·exact .inl z
  ·exact(f.ow a z).elim (λz=>.inr (.inr z)) .inl
noncomputable def Nx(G:Gx)(J:Eo)(U:VS.Env)(H:Hp)(b:VS.Env)(k:L2.St->Hp->Prop):Prop:=∀e d a,SR G e b d a->Eu J U H e b a->k d a
def nq(G:Gx)(J:Eo)(U:VS.Env)(H:Hp)(D:Ends):Out->Prop
 |.nx a=>Nx G J U H a D.nx
 |.bk a=>Nx G J U H a D.bk
 |.ct a=>Nx G J U H a D.ct
 |.rt v a=>∀u b F d e,SR G d a e b->Eu J U H d a b->Rp G b u v.2 F->pb J U H v.1 F->D.rt u b
def tS(G:Gx)(c:Sx):TS:=λD R H=>∃J U o,SR G J U R H/\c U=Y o/\nq G J U H D o
def PSV(G:Gx)(X:Cx)(a:Stmt)(c:Sx):Prop:=PS X a (tS G c)
def gg(G:Gx)(X:Cx)(a:List Stmt)(c:Sx):Prop:=Gi X a (tS G c)
def PS.weak{X:Cx}(h:PS X e t)(w:∀D R H,b D R H->t D R H):PS X e b:=λa s R H D I q=>h a s R H D I (w D R H q)
def Gi.weak{X:Cx}(h:Gi X e t)(w:∀D R H,b D R H->t D R H):Gi X e b:=λa s R H D I q=>h a s R H D I (w D R H q)
theorem nq.back(f:Eu J U H j i l):∀{o:Out},nq G J U H D o->nq G j i l D o
 |.nx e,h=>λb a d s g=>h b a d s (f.trans g)
 |.bk e,h=>λb a d s g=>h b a d s (f.trans g)
 |.ct e,h=>λb a d s g=>h b a d s (f.trans g)
 |.rt v e,h=>λu d F b a s g r q=>h u d F b a s (f.trans g) r (q.back f)
section
variable{st:Stmt}
def bM:gg G X [] dG:=Gi.weak yb λD R H a=>by
 obtain⟨J,U,o,s,e,k⟩:=a;cases (e);exact k J R H s (Eu.refl _ _ _)
def aj(i:PSV G X st c1)(h:gg G X Iy c2):gg G X (st :: Iy) (ar c1 c2):=Gi.weak (oV i h) λD R H g=>by
 obtain⟨J,U,o,s,e,k⟩:=g;obtain⟨b,e1,e2⟩:=Zz.mp e;refine⟨J,U,b,s,e1,?_⟩;cases b with
 |nx a=>exact λj l m d f=>⟨j,a,o,d,e2,k.back f⟩
 |rt v a=>cases e2;exact k
 |bk a=>cases e2;exact k
 |ct a=>cases e2;exact k
def cN(i:HF G X t f)(l:gg G X a c1)(j:gg G X b c2):PSV G X (.If t a b pos) (FK f c1 c2):=PS.weak (zE i l j) λD R H h=>by
 obtain⟨J,U,o,s,e,k⟩:=h;obtain⟨⟨m,x⟩,ec,e1⟩:=Zz.mp e;obtain⟨g,n,e2⟩:=Zz.mp e1;refine⟨J,U,m,x,g,s,ec,n,λp d=>?_⟩;cases g with
 |true =>
  rw[Zr L]at e2;exact qF ⟨J,U,o,s.same d,e2,k.back (Eu.same d)⟩
 |false =>
  rw[Zp Zh]at e2;exact qW ⟨J,U,o,s.same d,e2,k.back (Eu.same d)⟩
theorem Fp.ret:∀{m:Md},Fp J U H m F->pb J U H (match m with | .bo=>.pu | m=>m) F
 |.fr,f=>⟨f.1,λa b=>.inl (f.2 a b)⟩
 |.pu,f=>λa b=>(f a b).elim .inl λz=>.inr (.inl z)
 |.bo,f=>f
def bF(he:PV G X e ce):PSV G X (.Return (Y e) pos) (eE ce):=PS.weak (ny he) λD R H a=>by
 obtain⟨J,U,o,s,e,k⟩:=a;obtain⟨⟨m,x⟩,ec,e1⟩:=Zz.mp e;cases e1;exact⟨J,U,m,x,s,ec,λv b F e1 r1 f1=>k v b F J R (s.same e1) (Eu.same e1) r1 f1.ret⟩
def cK{U:VS.Env}{c:Cell}(h:(U.set i M)[j]?=Y (Y c)):j≠i/\U[j]?=Y (Y c):=by
 rw[Wr]at h;split at h
 ·split at h<;>cases h
 ·rename_i n;exact⟨λz=>n z.symm,h⟩
def SR.drop(s:SR G J U R H)(i:Nat):SR G J (U.set i M) R H :=
 ⟨by rw[ZI];exact s.len,λj c h=>s.rp j c (cK h).2,λj t h=>s.nd j t (cK h).2,λj k t c b a n=>s.sep j k t c (cK b).2 (cK a).2 n⟩
def Eu.drop(i:Nat):Eu J U H J (U.set i M) H :=
 ⟨λa o h n=>⟨h,λ⟨j,t,d,b⟩=>n ⟨j,t,(cK d).2,b⟩⟩,λ_ h=>h,λa ⟨j,t,d,b⟩=>.inl ⟨j,t,(cK d).2,b⟩,λa ⟨j,t,d,b⟩=>.inl ⟨j,t,(cK d).2,b⟩,Kept.refl H⟩
def gw{X:Cx}(i:Nat)(u:{`q2,X.N[i]?=Y x})(l:{`q5,HD X.env.scope x})(r:{`q1,K3 x})(d:{`q1,K4 x}):PSV G X (.Return (Y (.Name x p)) pos) (iq i):=PS.weak (ny (eZ u l r d)) λD R H n=>by
 obtain⟨J,U,o,s,e,k⟩:=n;unfold iq at e;split at e
 ·rename_i t h;obtain⟨v,j,b⟩:=s.rp _ _ h;cases e;exact⟨v,j,k v H (J i) J R (s.drop i) (Eu.drop i) b ⟨s.nd i t h,λa g=>.inr ⟨i,t,h,g⟩⟩⟩
 ·rename_i t h;obtain⟨v,j,b⟩:=s.rp _ _ h;cases e;refine⟨v,j,k v H (J i) J R s (Eu.refl _ _ _) b ?_⟩;have f:Fp J U H .pu (J i):=λa g=>.inr ⟨i,t,h,g⟩;have f2:=(f.up b).ret;have:(match (VS.up .pu (kC (.pu t))).1 with | .bo=>Md.pu | m=>m)=(VS.up .pu t).1:=by
   show (match (VS.up .pu t).1 with | .bo=>Md.pu | m=>m)=_;unfold VS.up;split<;>(rename_i q;revert q;split<;>simp)
  rw[this]at f2;exact f2
 ·cases e
noncomputable def ki(J:Eo)(i:Nat)(F:Wi):Eo:=λj=>if j=i then F else J j
def iK:ki J i F i=F:=Zr L
def eu(h:j≠i):ki J i F j=J j:=Zp h
def gR{U:VS.Env}{c:Cell}(h:(U.set i (Y c))[j]?=Y (Y a)):(j=i/\a=c)\/(j≠i/\U[j]?=Y (Y a)):=by
 rw[Wr]at h;split at h
 ·rename_i e;split at h
  ·exact .inl ⟨e.symm,(Zo (Zo h)).symm⟩
  ·cases h
 ·rename_i n;exact .inr ⟨λz=>n z.symm,h⟩
def SR.put{G:Gx}{J:Eo}{U:VS.Env}{R:L2.St}{H o:Hp}{i:Nat}{v:V}{c:Cell}{F:Wi}(s:SR G J U R H)(u:i<U.length)(r:Rp G o v (kC c) F)(q:∀j b,j≠i->U[j]?=Y (Y b)->∀w,Rp G H w (kC b) (J j)->Rp G o w (kC b) (J j))(y:∀t,c=.ow t->F.Nodup)(z:∀t,c=.ow t->∀j b,j≠i->U[j]?=Y (Y b)->∀a∈F,a∉J j)(x:∀j t,j≠i->U[j]?=Y (Y (.ow t))->∀a∈J j,a∉F) :
  SR G (ki J i F) (U.set i (Y c)) (R.set i (Y v)) o where
 len:=by rw[ZI,ZI];exact s.len
 rp:=λj b h=>by
  rcases gR h with⟨rfl,rfl⟩ | ⟨n,h⟩
  ·exact⟨v,by rw[Ya (by rw[← s.len];exact u)],by rw[iK];exact r⟩
  ·obtain⟨w,l,f⟩:=s.rp j b h;exact⟨w,by rw[Yo (Yb n)];exact l,by rw[eu n];exact q j b n h w f⟩
 nd:=λj t h=>by
  rcases gR h with⟨rfl,e⟩ | ⟨n,h⟩
  ·rw[iK];exact y t e.symm
  ·rw[eu n];exact s.nd j t h
 sep:=λj k t b l f n=>by
  rcases gR l with⟨rfl,e⟩ | ⟨g,p⟩
  ·rcases gR f with⟨rfl,e2⟩ | ⟨d,m⟩
   ·exact absurd L n
   ·rw[iK,eu d];exact z t e.symm k b d m
  ·rcases gR f with⟨rfl,e2⟩ | ⟨d,m⟩
   ·rw[iK,eu g];exact x j t g p
   ·rw[eu g,eu d];exact s.sep j k t b p m n
def iW{U:VS.Env}{c:Cell}(h:cF (ki J i F) (U.set i (Y c)) a):(∃t,c=.ow t/\a∈F)\/cF J U a:=by
 obtain⟨j,t,d,b⟩:=h;rcases gR d with⟨rfl,e⟩ | ⟨n,d⟩
 ·rw[iK]at b;exact .inl ⟨t,e.symm,b⟩
 ·rw[eu n]at b;exact .inr ⟨j,t,d,b⟩
def n0{U:VS.Env}{c:Cell}(h:ff (ki J i F) (U.set i (Y c)) a):(∃t,c=.pu t/\a∈F)\/ff J U a:=by
 obtain⟨j,t,d,b⟩:=h;rcases gR d with⟨rfl,e⟩ | ⟨n,d⟩
 ·rw[iK]at b;exact .inl ⟨t,e.symm,b⟩
 ·rw[eu n]at b;exact .inr ⟨j,t,d,b⟩
def SR.Ij(s:SR G J U R H)(h:cF J U a)(g:ff J U a):False:=by
 obtain⟨j,t,d,f⟩:=h;obtain⟨k,u,b,i⟩:=g;exact s.sep j k t _ d b (λe=>by subst e;rw[d]at b;cases b) a f i
def SR.val{m:Md}{c:Cell}(s:SR G J U R H)(B:i<U.length)(e:aM H y)(r:Rp G y v t F)(f:Fp J U H m F)(p:(c=.pu t/\m ≠ .bo)\/(c=.ow t/\m=.fr)):SR G (ki J i F) (U.set i (Y c)) (R.set i (Y v)) y/\Eu J U H (ki J i F) (U.set i (Y c)) y:=by
 have EI:∀{a},H a=M->∀j x,U[j]?=Y (Y x)->a∉J j:=λ{a} h j x g b=>by
  obtain⟨w,_,q⟩:=s.rp j x g;exact Ep.xl (q.EI a b) h
 have ct:kC c=t:=by rcases p with⟨rfl,_⟩ | ⟨rfl,_⟩<;>rfl
 have A:∀a∈F,H a=M\/ff J U a:=λa b=>by
  rcases p with⟨_,n⟩ | ⟨_,n⟩
  ·exact f.pu n a b
  ·rw[n]at f;exact .inl (f.2 a b)
 constructor
 ·refine s.put B (by rw[ct];exact r) (λj x n g w q=>q.same e) (λu d=>?_) (λu d j x n g a b=>?_) λj u n g a b C=>?_
  ·rcases p with⟨h,_⟩ | ⟨_,h⟩
   ·rw[h]at d;cases d
   ·rw[h]at f;exact f.1
  ·rcases p with⟨h,_⟩ | ⟨_,h⟩
   ·rw[h]at d;cases d
   ·rw[h]at f;exact EI (f.2 a b) j x g
  ·rcases A a C with z | z
   ·exact EI z j _ g b
   ·exact s.Ij ⟨j,u,g,b⟩ z
 ·refine⟨λa o h n=>⟨e a o h,λz=>?_⟩,λa h z=>h (e.free z),λa h=>?_,λa h=>?_,Kept.of e⟩
  ·rcases iW z with⟨u,d,b⟩ | z
   ·rcases p with⟨l,_⟩ | ⟨_,l⟩
    ·rw[l]at d;cases d
    ·rw[l]at f;rw[f.2 a b]at h;cases h
   ·exact n z
  ·rcases iW h with⟨u,d,b⟩ | z
   ·rcases p with⟨l,_⟩ | ⟨_,l⟩
    ·rw[l]at d;cases d
    ·rw[l]at f;exact .inr (f.2 a b)
   ·exact .inl z
  ·rcases n0 h with⟨u,d,b⟩ | z
   ·exact(A a b).elim (λz=>.inr (.inr z)) .inl
   ·exact .inl z
def gK{pos:Pos}(he:PV G X e ce)(p:X.N.Nodup)(l:{`q2,X.N[i]?=Y x})(f:{`q6,Loc X.env.scope x})(g:{`q2,swapsWith e (Y (.Name x a)) pos.line X.env=pure O})(n:X.fn x=Z\/X.env.scope.names.lookup x=Y .local:=by first | exact .inl L | exact .inr L) :
  PSV G X (.Assign [.Name x a] e pos) (mG i ce):=PS.weak (qx p l f he g n) λD R H h=>by
 obtain⟨J,U,o,s,e,k⟩:=h;obtain⟨⟨m,t⟩,ec,e1⟩:=Zz.mp e;obtain⟨c,eC,e2⟩:=Zz.mp e1;split at e2
 ·rename_i j;cases e2;refine⟨J,U,m,t,s,ec,λv u F r b q=>?_⟩;obtain⟨q1,d⟩:=s.val (c:=c) j r b q (by
   unfold cellOf at eC;cases m with
   |fr =>
    simp only[Option.some.injEq]at eC;split at eC
    ·exact .inr ⟨eC.symm,rfl⟩
    ·exact .inl ⟨eC.symm,by decide⟩
   |pu=>cases eC;exact .inl ⟨rfl,by decide⟩
   |bo=>cases eC)
  exact k _ _ u q1 d
 ·cases e2
def aA{pos:Pos}(he:PV G X e ce)(q:X.N.Nodup)(n:{`q2,X.N[i]?=Y x})(f:{`q6,Loc X.env.scope x})(g:{`q2,swapsWith e (Y (.Name x a)) pos.line X.env=pure O})(p:X.fn x=Z\/X.env.scope.names.lookup x=Y .local:=by first | exact .inl L | exact .inr L) :
  PSV G X (.Assign [.Name x a] e pos) (aG i ce):=PS.weak (qx q n f he g p) λD R H h=>by
 obtain⟨J,U,o,s,e,k⟩:=h;obtain⟨⟨m,t⟩,ec,e1⟩:=Zz.mp e;split at e1
 ·cases e1
 ·rename_i j;split at e1
  ·rename_i l;cases e1;refine⟨J,U,m,t,s,ec,λv w F u b r=>?_⟩;obtain⟨q1,d⟩:=s.val l u b r (.inl ⟨rfl,j⟩);exact k _ _ w q1 d
  ·cases e1
def SR.frz(s:SR G J U R H)(h:U[i]?=Y (Y (.ow t))):SR G J (U.set i (Y (.pu t))) R H/\Eu J U H J (U.set i (Y (.pu t))) H:=by
 have back:∀{j c},(U.set i (Y (.pu t)))[j]?=Y (Y c)->∃l,U[j]?=Y (Y l)/\kC l=kC c/\∀u,c=.ow u->l=.ow u:=λ{j c} g=>by
  rcases gR g with⟨rfl,rfl⟩ | ⟨n,g⟩
  ·exact⟨.ow t,h,rfl,λu p=>nomatch p⟩
  ·exact⟨c,g,rfl,λu p=>p⟩
 refine⟨⟨by rw[ZI];exact s.len,λj c g=>?_,λj u g=>?_,λj k u c b d n=>?_⟩,⟨λa o r n=>⟨r,λ⟨j,u,b,d⟩=>?_⟩,λ_ h=>h,λa ⟨j,u,b,d⟩=>?_,λa ⟨j,u,b,d⟩=>?_,Kept.refl H⟩⟩
 ·obtain⟨l,b,d,_⟩:=back g;obtain⟨v,f,x⟩:=s.rp j l b;exact⟨v,f,by rw[← d];exact x⟩
 ·obtain⟨l,b,_,w⟩:=back g;rw[w u L]at b;exact s.nd j u b
 ·obtain⟨c1,f,_,m⟩:=back b;obtain⟨c2,q,_,_⟩:=back d;rw[m u L]at f;exact s.sep j k u c2 f q n
 ·obtain⟨c1,f,_,m⟩:=back b;rw[m u L]at f;exact n ⟨j,u,f,d⟩
 ·obtain⟨c1,f,_,m⟩:=back b;rw[m u L]at f;exact .inl ⟨j,u,f,d⟩
 ·rcases gR b with⟨rfl,_⟩ | ⟨n,b⟩
  ·exact .inr (.inl ⟨j,t,h,d⟩)
  ·exact .inl ⟨j,u,b,d⟩
def n9(i:Nat)(h:gg G X Iy c):gg G X Iy (ar (uL i) c):=Gi.weak h λD R H d=>by
 obtain⟨J,U,o,s,e,k⟩:=d;obtain⟨f,e1,e2⟩:=Zz.mp e;unfold uL at e1;split at e1
 ·rename_i t b;cases e1;obtain⟨q1,a⟩:=s.frz b;exact⟨J,_,o,q1,e2,k.back a⟩
 ·cases e1;exact⟨J,U,o,s,e2,k⟩
 ·cases e1
end
section
variable{st:Stmt}
structure Chg(G:Gx)(H:Hp)(v:V)(F:Wi)(t':T)(H2:Hp)(F':Wi):Prop where
 kept:Kept H H2
 keep:∀b o,b∉F->H b=some o->H2 b=some o
 EI:∀b,H b≠none->H2 b≠none
 rp:Rp G H2 v t' F'
 nd:F'.Nodup
 sub:∀a∈F',a∈F\/H a=none
def SR.mut(s:SR G J U R H)(m:U[i]?=Y (Y (.ow t)))(A:R[i]?=Y (Y v))(g:Chg G H v (J i) p x r) :
  SR G (ki J i r) (U.set i (Y (.ow p))) R x/\Eu J U H (ki J i r) (U.set i (Y (.ow p))) x:=by
 have off:=λj f n d a b l=>s.sep i j t f m d (Yb n) a l b;have es:R.set i (Y v)=R:=by
  obtain⟨h,e⟩:=Zk.mp A;rw[← e];exact X0 h
 have new:∀a∈r,∀j f,j≠i->U[j]?=Y (Y f)->a∉J j:=λa b j f n d l=>by
  rcases g.sub a b with z | z
  ·exact off j f n d a l z
  ·obtain⟨w,_,q⟩:=s.rp j f d;exact Ep.xl (q.EI a l) z
 constructor
 ·have:=s.put (c:=.ow p) (v:=v) ((Zk.mp m).1) g.rp (λj f n d w q=>q.keep g.kept λa b o B=>g.keep a o (off j f n d a b) B) (λ_ _=>g.nd) (λu y j f n d a b=>new a b j f n d) λj u n d a b l=>new a l j _ n d b;rw[es]at this;exact this
 ·refine⟨λa o h n=>⟨g.keep a o (λz=>n ⟨i,t,m,z⟩) h,λz=>?_⟩,g.EI,λa h=>?_,λa h=>?_,g.kept⟩
  ·rcases iW z with⟨u,_,b⟩ | z
   ·rcases g.sub a b with z | z
    ·exact n ⟨i,t,m,z⟩
    ·rw[z]at h;cases h
   ·exact n z
  ·rcases iW h with⟨u,_,b⟩ | z
   ·rcases g.sub a b with z | z
    ·exact .inl ⟨i,t,m,z⟩
    ·exact .inr z
   ·exact .inl z
  ·rcases n0 h with⟨u,y,b⟩ | z
   ·cases y
   ·exact .inl z
def xw(G:Gx)(r:V->List V->Hp->VK->Prop)(f:T->Wa->Option (T×Val)):Prop:=∀(J:Eo)(U:VS.Env)(H g:Hp)(v:V)(t b:T)(F:Wi)(l:Wa)(a:List V)(h:Xd)(x:Val)(Q:VK),
 Rp G H v t F->F.Nodup->Args G J U H g l a h->f t l=Y (b,x)->(∀u d i,Chg G H v F b d i->Q u d)->r v a g Q
def vi{pos:Pos}{b:Pos}(i:Nat)(pa:PlainAttrs w)(h:Slot w a n)(K6:typeOf (.builtin n)=pure (.type "method_descriptor"))(hm:Nj X n r)(ok:xw G r f)(hT:∀H v t F l z,Rp G H v t F->f t l=Y z->Kb G.K w v H)(ha:E7 G X (e :: es) cs)(hK:{`q2,X.K=G.K})(hN:{`q2,X.N[i]?=Y x})(hv:{`q5,HD X.env.scope x})(hd:{`q1,K3 x})(q:{`q1,K4 x})(ES:{`q2,SL (.Name x j) a X.env (eval (.Name x j) X.env)=eval (.Name x j) X.env})(Fm:{`q2,((backTo d (KM (e :: es) X.env)).all (λx=>!x.1)&&(backToKw d (Pv [] X.env)).all (λx=>x.1.isSome)
   && decide ((e :: es).length+([]:List Keyword).length+(if ([]:List Keyword).isEmpty then 0 else 1)<30))=Z})(EA:{`q2,(b.endLine==d.line)=Z})(hs:{`q2,K1 e es X})(Ez:{`q2,K2 d es X})(Hl:{`q2,swapsWith (.Call (.Attribute (.Name x j) a b) (e :: es) [] d) M pos.line X.env=pure O}) :
  PSV G X (.Expr (.Call (.Attribute (.Name x j) a b) (e :: es) [] d) pos) (sX (mq i [] f cs)) :=
 PS.weak (gf (sH pa h K6 hm (eZ hN hv hd q) ha ES Fm EA hs Ez) Hl) λD R H hq=>by
  refine L2.ak λP_ m=>?_;obtain⟨J,U,o,s,e,k⟩:=hq;unfold sX mq at e;obtain⟨⟨C,U'⟩,e1,e2⟩:=Zx.mp e;refine m ?_;split at e1
  ·rename_i t p;refine L2.ak λP_ m=>?_;obtain⟨ks,ek,e3⟩:=Zz.mp e1;cases (ek);obtain⟨l,el,e4⟩:=Zz.mp e3;obtain⟨⟨S,x2⟩,e5,e6⟩:=Zx.mp e4;cases e6;cases e2;obtain⟨v,A,y⟩:=s.rp _ _ p;refine m ?_;have B:=e5;refine⟨v,A,by rw[hK];exact hT H v t _ l _ y B,J,U,l,s,el,λQ H' Fs q1 q2 q3=>?_⟩;refine ok J U H H' v t S (J i) l Q Fs C _ y (s.nd i t p) ⟨q1,q2,q3⟩ B λu H2 F' g=>?_;obtain⟨P,E⟩:=s.mut p A g;exact k _ R H2 P E
  ·cases e1
theorem Chg.upd{H:Hp}(e:aM H d)(n:a∈F)(m:Ep (d a))(r:Rp G (upd d a o) v i f)(l:f.Nodup)(g:∀a∈f,a∈F\/H a=M):Chg G H v F i (upd d a o) f :=
 ⟨(Kept.of e).trans (Kept.upd (.inl m)),λb j hb h=>by rw[ax (λz=>hb (by rw[z];exact n))];exact e b j h,
  λb h z=>by
   by_cases q:b=a
   ·subst q;rw[ay]at z;cases z
   ·rw[ax q]at z;exact h (e.free z),r,l,g⟩
def RpL.off(r:RpL G H f g d)(j:Ep (H a))(h:a∉d.flatten):RpL G (upd H a o) f g d :=
 r.keep (Kept.upd (.inl j)) λb hb l i=>by rw[ax (λz=>h (by rw[← z];exact hb))];exact i
def jx(h:fit v=Y t):v=(.fr,t):=by
 obtain⟨m,x⟩:=v;cases m<;>first | (cases h;rfl) | cases h
def m9:xw G sS aK:=by
 intro J U H C v t P F l E R x Q r nd A e k;unfold aK at e;split at e
 ·rename_i N y;obtain⟨z,s,e1⟩:=Zz.mp e;have u:=jx s;subst u;split at e1
  ·rename_i p;cases e1;obtain⟨a,j,D,rfl,rfl,g,f⟩:=r.lst_inv;obtain⟨w,i,rfl,rfl,B⟩:=(A.rp).one;have d:=A.fp.each 0 _ _ L L;have h:=A.same a _ g;have m1:Ep (C a):=by rw[h];exact True.intro
   have na:=(Ze.mp nd).1;have nw:a∉i:=λz=>by rw[d.2 a z]at g;cases g
   refine⟨a,j,w,rfl,rfl,h,by rw[f.len.1];exact p,k _ _ (a :: (D++[i]).flatten) ?_⟩;have off:=λb hb hw=>Ep.xl (f.EI b hb) (d.2 b hw);refine Chg.upd A.same Zu m1 (.lst ay (((f.same A.same).off m1 na).append (.cons (B.keep (Kept.upd (.inl m1)) λb hb o n=>by rw[ax (λz=>nw (by rw[← z];exact hb))];exact n) .nil))) ?_ ?_
   ·rw[Z8];refine Ze.mpr ⟨λm=>?_,ZO.mpr ⟨(Ze.mp nd).2,by simpa using d.1,λb hb c q z=>?_⟩⟩
    ·rcases Zc.mp m with m | m
     ·exact na m
     ·exact nw (by simpa using m)
    ·subst z;exact off b hb (by simpa using q)
   ·intro b hb;rcases Zi.mp hb with rfl | hb
    ·exact .inl Zu
    ·rw[Z8]at hb;rcases Zc.mp hb with hb | hb
     ·exact .inl (Zt _ hb)
     ·exact .inr (d.2 b (by simpa using hb))
  ·cases e1
 ·cases e
def we(r:Rp G H v (.lst b) F):Kb G.K "list" v H:=by
 obtain⟨a,f,h,rfl,rfl,d,g⟩:=r.lst_inv;exact .inl ⟨rfl,_,EW.of d⟩
def kD(r:Rp G H v t F)(h:aK t l=Y z):Kb G.K "list" v H:=by
 unfold aK at h;split at h
 ·exact we r
 ·cases h
end
structure Jy(G:Gx)(Jq:It)(l:W3)(C:Wi)(H:Hp):Prop where
 run:∀H2,Kept H H2->(∀a∈C,∀o,H a=some o->H2 a=some o) →
  (∀(i:Nat)(t:T),l[i]?=some t->Jq.go i H2/\∀x H3,Jq.Nm i H2 x H3->aM H2 H3/\∃F,Rp G H3 x t F/\∀a∈F,a∈C\/H2 a=none)/\∀(i:Nat),l.length<=i->Jq.stop i H2
 EI:∀a∈C,H a≠none
def RB(J:Eo)(U:VS.Env)(H:Hp)(m:Md)(C:Wi):Prop:=∀a∈C,H a=M\/ff J U a\/(m=.bo/\cF J U a)
theorem Fp.c{U:VS.Env}:∀{m:Md},Fp J U H m F->RB J U H m F
 |.fr,f=>λa b=>.inl (f.2 a b)
 |.pu,f=>λa b=>(f a b).imp id .inl
 |.bo,f=>λa b=>(f a b).imp id λz=>z.imp id λz=>⟨rfl,z⟩
def tI(G:Gx)(c:Hh):TI:=λR H d=>∃J U m l,SR G J U R H/\c U=Y (m,l)/\∀b a C,aM H a->Jy G b l C a->RB J U H m C->d b a
def Nh(G:Gx)(X:Cx)(b a:Expr)(c:Hh):Prop:=PI X b a (tI G c)
def PI.weak{X:Cx}(h:PI X b e t)(w:∀R H Q,d R H Q->t R H Q):PI X b e d:=λa s R H Q I q=>h a s R H Q I (w R H Q q)
section
def vw(H:Hp)(d:Int)(n:Nat):Jy G (N5 d n) (rng d n) [] H:=by
 refine⟨λr _ _=>⟨λi t h=>?_,λi h=>(by simpa[rng] using h:n<=i)⟩,λa h=>by simp at h⟩;unfold rng at h;rw[ZL]at h;obtain⟨k,g,e⟩:=Zx.mp h;obtain⟨f,e2⟩:=Zk.mp g;rw[Z4]at f;have l:i=k:=by simpa using e2
 subst l;refine⟨f,λx q j=>?_⟩;obtain⟨o,m⟩:=j;subst o;subst m;rw[← e];exact⟨aM.refl _,[],.int _,λa h=>by simp at h⟩
def i9(u:PV G X a ca)(t:Gl X "range")(r:X.mg "range" = M)(o:{`q2,K1 a [] X})(z:{`q2,KM [a] X.env=[(O,eval a X.env)]}):Nh G X tg (.Call (.Name "range" p) [a] [] pos) (dQ ca) :=
 PI.weak (tV t r (c9 u je o) z) λR H C q=>by
  obtain⟨J,U,m,l,s,e,k⟩:=q;obtain⟨⟨n,x⟩,w,e1⟩:=Zz.mp e;obtain⟨j,f,e2⟩:=Zz.mp e1;split at e2
  ·rename_i d;cases e2;refine⟨J,U,n,x,s,w,λv g F y i B=>?_⟩;cases x with
   |int A =>
    cases f;refine⟨j,by rw[i.int_inv],?_,?_,k _ g [] y (vw g 0 j.toNat) λa h=>by simp at h⟩
    ·have:=d.1;unfold Iv at this;lia
    ·have:=d.2;unfold Iv at this;lia
   |_=>cases f
  ·cases e2
def cG{d:Xd}{i:Nat}{F:Wi}(h:d[i]?=Y F){a:GM}(f:a∈F):a∈d.flatten:=(dn h).subset f
def xM{a:GM}(K:Wv)(j:H a=Y (.lst d))(r:RpL G H d g m):Jy G (PM K a) g (a :: m.flatten) H:=by
 refine⟨λy k c=>?_,λb hb=>?_⟩
 ·have f:=c a Zu _ j;refine⟨λi t h=>?_,λi h=>⟨d,EW.of f,by rw[r.len.1];exact h⟩⟩;obtain⟨v,F,l,u,s⟩:=(r.keep k λb hb o n=>c b (Zt _ hb) o n).get i h;refine⟨⟨d,v,EW.of f,l⟩,λx w q=>?_⟩;obtain⟨e1,e2⟩:=q;subst e1;have ex:=e2 d (EW.of f);rw[l]at ex;cases ex;exact⟨aM.refl _,F,s,λb hb=>.inl (Zt _ (cG u hb))⟩
 ·rcases Zi.mp hb with rfl | hb
  ·rw[j];exact λz=>nomatch z
  ·exact Ep.xl (r.EI b hb)
def AF{a:GM}(K:Wv)(n:H a=Y (.tup d))(r:RpL G H d g l):Jy G (PL K a) g l.flatten H:=by
 refine⟨λy k c=>?_,λb hb=>Ep.xl (r.EI b hb)⟩;have f:=k.tup a _ n;refine⟨λi t h=>?_,λi h=>⟨d,FX.of f,by rw[r.len.1];exact h⟩⟩;obtain⟨v,F,j,u,s⟩:=(r.keep k λb hb o m=>c b hb o m).get i h;refine⟨⟨d,v,FX.of f,j⟩,λx w q=>?_⟩;obtain⟨e1,e2⟩:=q;subst e1;have ex:=e2 d (FX.of f);rw[j]at ex;cases ex;exact⟨aM.refl _,F,s,λb hb=>.inl (cG u hb)⟩
def tG(G:Gx)(g:Tg):TG:=λv R H Q=>∃J U t F d,SR G J U R H/\Rp G H v t F/\(∀a∈F,¬cF J U a)/\g t U=Y d ∧
 ∀f h,SR G f d h H->(∀a,cF f d a->cF J U a)->(∀a,ff f d a->ff J U a\/a∈F)->Q h H
def Ni(G:Gx)(X:Cx)(e:Expr)(g:Tg):Prop:=PG X e (tG G g)
def PG.weak{X:Cx}{e:Expr}{f:TG}(h:PG X e t)(w:∀v R H Q,f v R H Q->t v R H Q):PG X e f:=λd s R H v u Q I r q=>h d s R H v u Q I r (w v R H Q q)
def dq{X:Cx}(i:Nat)(B:X.N.Nodup)(y:{`q2,X.N[i]?=Y x})(l:{`q6,Loc X.env.scope x})(A:X.fn x=Z\/X.env.scope.names.lookup x=Y .local:=by first | exact .inl L | exact .inr rfl):Ni G X (.Name x pos) (df i):=PG.weak (zq B y l A) λv R H Q m=>by
 obtain⟨J,U,t,F,E,s,r,no,e,k⟩:=m;unfold df at e;split at e
 ·rename_i o;cases e;refine k (ki J i F) (R.set i (Y v)) (s.put o r (λj D n g w q=>q) (λu d=>nomatch d) (λu d=>nomatch d) λj u n g a f C=>no a C ⟨j,u,g,f⟩) (λa h=>?_) λa h=>?_
  ·rcases iW h with⟨u,d,_⟩ | z
   ·cases d
   ·exact z
  ·rcases n0 h with⟨u,d,f⟩ | z
   ·exact .inr f
   ·exact .inl z
 ·cases e
def mR{tgt:Tg}{body:Sx}{l:W3}{U:VS.Env}(h:l[i]?=Y t):l.drop i=t :: l.drop (i+1):=by
 obtain⟨d,e⟩:=Zk.mp h;rw[← e];exact List.drop_eq_getElem_cons d
def Av{cb:Sx}(hq:tS G (kL g ci cb) D R H):Am (tI G ci) (tG G g) (tS G cb) D R H:=by
 refine L2.ak λP_ k_=>?_;obtain⟨J,U,o,s,e,k⟩:=hq;obtain⟨⟨m,l⟩,el,e1⟩:=Zz.mp e;refine k_ ?_;dsimp only at e1;split at e1
 ·rename_i hm;refine⟨J,U,m,l,s,el,λJq P C e2 ok fc=>?_⟩;have PF:∀a∈C,¬cF J U a:=λa y z=>by
   rcases fc a y with q | q | q
   ·exact Ep.xl (s.Fh z) q
   ·exact s.Ij z q
   ·exact(λz=>by rw[z]at hm;cases hm) q.1
  refine⟨λi n R2 N=>n=l.length-i/\∃S L,SR G S L R2 N/\Eu J U H S L N/\Kept P N/\(∀a∈C,∀o,P a=Y o->N a=Y o/\¬cF S L a)/\forL g cb (l.drop i) L=Y o,
   ⟨l.length-0,rfl,J,U,s.same e2,Eu.same e2,Kept.refl _,λa y w A=>⟨A,PF a y⟩,by rw[X4];exact e1⟩,?_⟩
  rintro i n R2 N ⟨rfl,S,L,s2,f2,kp,con,e3⟩;obtain⟨go,stop⟩:=ok.run N kp λa y w A=>(con a y w A).1;cases hit:l[i]? with
  |none =>
   have hl:=Yx.mp hit;left;rw[YZ hl]at e3;cases (e3);exact⟨stop i hl,k S R2 N s2 f2⟩
  |some t =>
   have hl:=(Zk.mp hit).1;right;obtain⟨g1,y1⟩:=go i t hit;rw[mR (tgt:=g) (body:=cb) (U:=L) hit]at e3;obtain⟨U3,e4,e5⟩:=Zz.mp (e3);obtain⟨w,e6,e7⟩:=Zz.mp e5;refine⟨g1,λB j=>∃d f,SR G d f B j/\Eu J U H d f j/\Kept P j/\(∀a∈C,∀o,P a=Y o->j a=Y o/\¬cF d f a)/\forL g cb (l.drop (i+1)) f=Y o,λB j ⟨d,f,q⟩=>⟨l.length-(i+1),by omega,rfl,d,f,q⟩,λx H3 yl=>?_⟩;obtain⟨Q,F,rF,hF⟩:=y1 x H3 yl;refine⟨S,L,t,F,U3,(s2.same Q),rF,(λa y z=>by
    rcases hF a y with q | q
    ·have GK:=ok.EI a q;cases A:P a with
     |none=>exact GK A
     |some OA=>exact(con a q OA A).2 z
    ·exact Ep.xl (s2.Fh z) q),e4,λJ3 R3 s4 o3 p3=>?_⟩
   have f3:Eu J U H J3 U3 H3:=⟨λa w h n=>let ⟨h1,n1⟩:=f2.keep a w h n;⟨Q a w h1,λz=>n1 (o3 a z)⟩,λa h z=>f2.EI a h (Q.free z),λa h=>f2.ow a (o3 a h),λa h=>by
    rcases p3 a h with h | h
    ·exact f2.pu a h
    ·rcases hF a h with q | q
     ·rcases fc a q with q | q | q
      ·exact .inr (.inr q)
      ·exact .inl q
      ·exact .inr (.inl q.2)
     ·exact .inr (.inr (f2.none q)),f2.kept.trans (Kept.of Q)⟩
   have next:∀{d f j},Eu J3 U3 H3 d f j->Kept P j/\∀a∈C,∀o,P a=Y o->j a=Y o/\¬cF d f a:=λr =>
    ⟨(kp.trans (Kept.of Q)).trans r.kept,λa y w A=>by
     obtain⟨h1,n1⟩:=con a y w A;exact r.keep a w (Q a w h1) λz=>n1 (o3 a z)⟩
   refine⟨J3,U3,w,s4,e6,?_⟩;cases w with
   |nx f=>exact λd B j E r=>⟨d,f,E,f3.trans r,(next r).1,(next r).2,e7⟩
   |ct f=>exact λd B j E r=>⟨d,f,E,f3.trans r,(next r).1,(next r).2,e7⟩
   |bk f =>
    cases (e7);exact λd B j E r=>k d B j E (f3.trans r)
   |rt v f =>
    cases (e7);exact λu j F4 d B E r r5 q5=>k u j F4 d B E (f3.trans r) r5 (q5.back f3)
 ·cases e1
def jS{X:Cx}(m:PassesOwn (FM X.prog X.w) X.A X.env X.xe)(q:X.calm=Z)(n:Nh G X tg d h)(o:Ni G X tg g)(r:gg G X f i)(j:{`q3,∀x,SZ d X.env x=pure x}):PSV G X (.For tg d f [] pos) (kL g h i):=PS.weak (wm m q n o r j) λD R H l=>Av l
end
noncomputable def CK(H:Hp)(b:Xd):Md->Wi->Prop
 |.fr,F=>F.Nodup/\∀a∈F,H a=M
 |_,F=>∀a∈F,H a=M\/a∈b.flatten
def GA(G:Gx)(g:Fn):Sp:=λe H Q _=>∃b d m r,RpL G H e b d/\g b=Y (m,r)/\∀v a F,aM H a->Rp G a v r F->CK H d m F->Q v a
section
def call_of(h:tE G (bq g cs) R H Q):vq (GA G g) [] E (Nr G cs) R H Q:=by
 refine L2.ak λP_ N=>?_;obtain⟨J,U,m,t,s,e,q⟩:=h;obtain⟨l,S,e1⟩:=Zz.mp e;obtain⟨⟨n,r⟩,P,e2⟩:=Zz.mp e1;refine N ?_;refine⟨J,U,l,s,S,λC w B q1 L D=>?_⟩;have A:Args G J U H w l C B:=⟨q1,L,D⟩
 have d:=D.join A.len;show GA G g (C++[]) w Q E;rw[Zd];refine⟨trees l,B,n,r,L,P,λv y F o j i=>?_⟩;have wide:(∀a∈F,w a=M\/a∈B.flatten)->Fp J U H ((Md.pu).join (cI l)) F:=λh=>by
  cases u:cI l with
  |fr =>
   rw[u]at d;exact λa b=>.inl ((h a b).elim q1.free (d.2 a))
  |pu =>
   rw[u]at d;exact λa b=>(h a b).elim (λz=>.inl (q1.free z)) (d a)
  |bo =>
   rw[u]at d;exact λa b=>(h a b).elim (λz=>.inl (q1.free z)) (d a)
 cases n with
 |fr =>
  cases e2;exact q v y F (q1.trans o) j ⟨i.1,λa b=>q1.free (i.2 a b)⟩
 |pu =>
  cases e2;exact q v y F (q1.trans o) j (wide i)
 |bo =>
  cases e2;exact q v y F (q1.trans o) j (wide i)
def yd{X:Cx}(F:FnOk X.prog X.w X.K X.mg X.base EX k f fd ps (GA G g))(b:gV k X.A)(j:Gl X x)(d:X.mg x=Y (.ref f))(i:PySem.W.keepIn X.K (.ref f)=Z)(l:Binds X.K fd ps [])(m:E7 G X (e :: es) cs)(n:{`q1,K3 x})(he:{`q2,K1 e es X})(a:{`q2,K2 pos es X}) :
  PV G X (.Call (.Name x p) (e :: es) [] pos) (bq g cs) :=
 PE.weak (yP F b j d i l .nil kG m n he a) λR H Q h=>call_of h
def oU(r:RpL G H d a s)(n m:Nat)(w:m=d.length):SR G (λi=>s.getD i []) (a.map (λt=>Y (.pu t))++List.replicate (n-a.length) M) (d.map Y++List.replicate (n-m) M) H:=by
 subst w;have A:=r.len;have back:∀{i:Nat}{c:Cell},(a.map (λt=>Y (Cell.pu t))++List.replicate (n-a.length) M)[i]?=Y (Y c)->∃t,a[i]?=Y t/\c=.pu t:=λ{i c} h=>by
  by_cases o:i<a.length
  ·rw[ZC (by rw[Zw];exact o),ZL]at h;obtain⟨t,l,b⟩:=Zx.mp h;exact⟨t,l,(Zo b).symm⟩
  ·rw[Yy (by rw[Zw];exact ZQ o),Yd]at h;split at h<;>cases h
 refine⟨by simp;lia,λi c h=>?_,λi t h=>?_,λi j t c h=>?_⟩
 ·obtain⟨t,l,rfl⟩:=back h;obtain⟨v,F,q,z,y⟩:=r.get i l;refine⟨v,?_,?_⟩
  ·have:=(Zk.mp q).1;rw[ZC (by rw[Zw];exact this),ZL,q];rfl
  ·rw[Zs,z];exact y
 ·obtain⟨u,_,b⟩:=back h;cases b
 ·obtain⟨u,_,b⟩:=back h;cases b
def cR{b:W3}:¬cF J (b.map (λt=>Y (Cell.pu t))++List.replicate n M) a:=by
 rintro⟨i,t,h,_⟩;by_cases d:i<b.length
 ·rw[ZC (by rw[Zw];exact d),ZL]at h;obtain⟨l,_,j⟩:=Zx.mp h;cases j
 ·rw[Yy (by rw[Zw];exact ZQ d),Yd]at h;split at h<;>cases h
def jC{H:Hp}{vs:List V}{j:W3}{d:Xd}(h:ff (λi=>d.getD i []) (j.map (λt=>Y (Cell.pu t))++List.replicate n M) a):a∈d.flatten:=by
 obtain⟨i,t,_,b⟩:=h;simp only[Zs]at b;cases e:d[i]? with
 |none=>rw[e]at b;simp at b
 |some F=>rw[e]at b;exact cG e b
end
section
variable{K:Wv}
def vt{d:List Str}(g:d.length=e)(h:GA G (fn e f c) b H Q E):b.length=d.length:=by
 obtain⟨l,n,m,r,j,a,_⟩:=h;unfold fn at a;split at a
 ·rename_i i;rw[j.len.1,i,g]
 ·cases a
def xp{N:List Str}(s:N.length=f)(h:GA G (fn p f c) vs H Q E):tS G c { nx:=λ_ d=>Q .non d,rt:=Q } (L2.start N vs) H:=by
 obtain⟨D,F,m,r,x,g,q⟩:=h;unfold fn at g;split at g
 ·rename_i t;obtain⟨o,e1,e2⟩:=Zz.mp g;have j:=oU x f vs.length L;rw[t]at j;have y:L2.start N vs=vs.map Y++List.replicate (f-vs.length) M:=by
   unfold L2.start;rw[s]
  rw[y];refine⟨_,_,o,j,e1,?_⟩;cases o with
  |nx i =>
   cases e2;intro B A d l fr;exact q .non d [] (λa o h=>(fr.keep a o h cR).1) .non ⟨Yh,λa h=>by simp at h⟩
  |rt v i =>
   cases e2;intro u d C B A l fr n e;refine q u d C (λa o h=>(fr.keep a o h cR).1) n ?_;cases m with
   |fr=>exact⟨e.1,λa b=>(e.2 a b).elim id λz=>absurd z cR⟩
   |pu=>exact λa b=>(e a b).elim .inl λz=>z.elim (λz=>.inr (jC (H:=H) (vs:=vs) z)) λz=>absurd z cR
   |bo=>exact λa b=>(e a b).elim .inl λz=>z.elim (λz=>.inr (jC (H:=H) (vs:=vs) z)) λz=>absurd z cR
  |bk i=>cases e2
  |ct i=>cases e2
 ·cases g
def Pc(F:Er K x a b f j)(S:cg N e (ah b))(n:e.length=g)(o:N.length=i)(p:∀(d:IR)(A:Pi)(outer:List PySem.Env)(s:FB)(H:Hp)(E:XK),gV k (A.deeper (envOfC a (ah b) s.heap.objs.size f d))->gg G (fh EX P w K mg base N a (ah b) f d A outer s H E).EO (aD b) c) :
  FnOk P w K mg base EX (k+1) f j e (GA G (fn g i c)) :=
 F.ok S (λl H Q E h=>vt n h) λd A outer s H l Q E m h=>⟨_,p d A outer s H E m,xp o h⟩
end
end VS
end
section
namespace L2
open PySem PySem.Spec PyProof.Rows
theorem jW(b:Env):∀(l:List (Str×NameKind))(acc:List (Str×GM)),(∀y∈l,y.2=.free->∃c,b.cells.lookup y.1=Y c)->(∀x c,acc.lookup x=Y c->b.cells.lookup x=Y c) →
  ∃cl,(forIn l acc (λx r=>if (x.snd==NameKind.free)=Z then (do let a ← cellOf b x.fst;pure (ForInStep.yield ((x.fst,a) :: r))) else pure (ForInStep.yield r)):Sem (List (Str×GM)))=pure cl ∧
   (∀x c,cl.lookup x=Y c->b.cells.lookup x=Y c)/\(∀x c,acc.lookup x=Y c->∃f,cl.lookup x=Y f)/\∀y∈l,y.2=.free->∃c,cl.lookup y.1=Y c
 |[],acc,_,i=>⟨acc,rfl,i,λx c h=>⟨c,h⟩,λy d=>nomatch d⟩
 | (n,k) :: l,acc,o,i=>by
  by_cases m:k=.free
  ·refine L2.ak λv u=>?_;subst m;obtain⟨c,t⟩:=o (n,.free) Zu L;have ec:cellOf b n=pure c:=by unfold cellOf;rw[t]
   obtain⟨cl,s,q,e,p⟩:=jW b l ((n,c) :: acc) (λy d=>o y (Zt _ d)) (λx f h=>by
    rw[Yr]at h;split at h
    ·rename_i g;have:x=n:=by simpa using g
     rw[this,← h];exact t
    ·exact i x f h)
   refine u ?_;refine⟨cl,?_,q,λx f h=>?_,λy d j=>?_⟩
   ·rw[List.forIn_cons];rw[Zr (show (NameKind.free==NameKind.free)=Z from rfl),ec,pure_bind,pure_bind];exact s
   ·by_cases g:x=n
    ·exact e x c (by rw[Yr,g];simp)
    ·refine e x f ?_;rw[Yr];have:(x==n)=O:=by simpa using g
     rw[this];exact h
   ·rcases Zi.mp d with rfl | d
    ·exact e n c (by rw[Yr];simp)
    ·exact p y d j
  ·obtain⟨cl,s,q,e,p⟩:=jW b l acc (λy d=>o y (Zt _ d)) i;refine⟨cl,?_,q,e,λy d j=>?_⟩
   ·rw[List.forIn_cons];rw[Zp (by simpa using m),pure_bind];exact s
   ·rcases Zi.mp d with rfl | d
    ·exact absurd j m
    ·exact p y d j
def xX{b:Scope}{a:Env}(d:∀y∈b.names,y.2=.free->∃c,a.cells.lookup y.1=Y c) :
  ∃cl,closureFor b a=pure cl/\(∀x c,cl.lookup x=Y c->a.cells.lookup x=Y c)/\∀y∈b.names,y.2=.free->∃c,cl.lookup y.1=Y c:=by
 obtain⟨cl,g,f,_,e⟩:=jW a b.names [] d (λx c h=>nomatch h);refine⟨cl,?_,f,e⟩;simp only[closureFor];rw[g];rfl
def fX{l:List (Str×NameKind)}(h:l.lookup x=Y k):(x,k)∈l:=by
 induction l with
 |nil=>cases h
 |cons p l a =>
  rw[Yr]at h;split at h
  ·rename_i b;have e:x=p.1:=by simpa using b
   cases h;rw[e];exact Zu
  ·exact Zt _ (a h)
theorem c6{a:Env}:∀{l:List (Str×NameKind)},(l.map λ(n,k)=>if (k==NameKind.free&&a.scope.kind == .function&&a.kindOf n==Y .cell) then (n,NameKind.cell) else (n,k)).lookup x=Y k →
  ∃e,l.lookup x=Y e/\(k=e\/(e=.free/\k=.cell))
 |[],h=>nomatch h
 | (n,d) :: l,h=>by
  rw[Zm,Yr]at h;by_cases f:(d==NameKind.free&&a.scope.kind == .function&&a.kindOf n==Y .cell)=Z
  ·simp only[f,if_true]at h;rw[Yr];cases b:x==n with
   |true =>
    rw[b]at h;have:d=.free:=by
     have:=(Zf.mp (Zf.mp f).1).1;simpa using this
    exact⟨d,rfl,.inr ⟨this,(Zo h).symm⟩⟩
   |false=>rw[b]at h;exact c6 h
  ·simp only[f,if_false,Bool.false_eq_true]at h;rw[Yr];cases b:x==n with
   |true=>rw[b]at h;exact⟨d,rfl,.inl (Zo h).symm⟩
   |false=>rw[b]at h;exact c6 h
def fg(X:Cx)(N:List Str)(a:Scope)(d:List (Str×GM))(C:GM)(s:FB)(H:Hp)(b:Wi):Cx :=
 { X with N:=N,s₀:=s,H₀:=H,env:=compEnvC a d C X.env,outer:=X.stack,ex:=b,fn:=λ_=>false,pn:=[],xe:=λ_ _=>False }
noncomputable def qV(a:Env)(b:Scope):Bool:=b.kind == .function&&b.names.all λy=>match y.2 with
 |.cell=>O
 |.local=>b.names.lookup y.1==Y .local
 |.free=>a.kindOf y.1==Y .cell||a.kindOf y.1==Y .free
 |_=>Z
noncomputable def qK(d:Scope):List Str->List Str->Bool
 |[],[]=>Z
 |a :: e,b :: bs=>((a==b&&d.names.lookup a==Y .free)||d.names.lookup a==M||d.names.lookup a==Y .globalImplicit)&&qK d e bs
 |_,_=>O
theorem rN:∀{f bs:List Str},qK d f bs=Z->f.length=bs.length/\∀(i:Nat)(x:Str),f[i]?=Y x->(bs[i]?=Y x/\d.names.lookup x=Y .free)\/d.names.lookup x=M\/d.names.lookup x=Y .globalImplicit
 |[],[],_=>⟨rfl,λi x h=>by simp at h⟩
 |a :: f,b :: bs,h=>by
  obtain⟨g,n⟩:=Zf.mp (h);obtain⟨l,r⟩:=rN n;refine⟨by simp[l],λi x e=>?_⟩;cases i with
  |zero =>
   have:a=x:=by simpa using e
   subst this;simp only[Bool.or_eq_true,Z2]at g;rcases g with (⟨m,j⟩ | z) | z
   ·exact .inl ⟨by simpa using(by simpa using m:a=b).symm,by simpa using j⟩
   ·exact .inr (.inl (by simpa using z))
   ·exact .inr (.inr (by simpa using z))
  |succ i=>simpa using r i x (by simpa using e)
 |[],_ :: _,h=>nomatch h
 |_ :: _,[],h=>nomatch h
section
def Inv.block{N:List Str}{P:List (Str×GM)}{k:Nat}{A:Re}{t:Nat}(I:Inv X pins R H s)(S:qV X.env g=Z)(JU:qK g (N.drop k) X.N=Z)(JX:k<=N.length)(j:∀x c,P.lookup x=Y c->X.env.cells.lookup x=Y c)(NT:∀y∈g.names,y.2=.free->∃c,P.lookup y.1=Y c)(E:∀b∈G,mD X pins H b)(w:s.heap.objs.size<=D)(hC:s.heap.objs.size<=C)(NU:D≠C)(NQ:C∉G)(a:∀b u,s.heap.get? b=Y u->A.get? b=Y u)(NL:A.Ns C m)(To:A.get? D=Y { cls:=.type "list",data:=.seq ([]:Wh).toArray 0 }) :
  Inv (fg X N g P C s H G) [] (List.replicate k M++R) (upd H D (.lst [])) { s with heap:=A,toks:=t }:=by
 unfold qV at S;rw[Z2,ZE]at S;obtain⟨hk,GR⟩:=S;have Io:g.kind=.function:=by simpa using hk
 obtain⟨hlen,Ti⟩:=rN JU;have Ip:∀y∈g.names,y.2 ≠ .cell:=λy hy e=>by have:=GR y hy;rw[e]at this;cases this
 refine⟨⟨I.mod,Io,I.ok.glob,I.ok.blt,hC,λx y c e1 e2=>I.ok.inj x y c (j x c e1) (j y c e2),λx hx=>?_,λx c e=>(nomatch e),I.ok.hd,I.ok.frames,.inl L,λb hb=>⟨λ(e:b=C)=>NQ (e ▸ hb),λx c e=>(E b hb).2.2.2.2.1 x c (j x c e)⟩,
  I.tb,I.bs,ZF I.ok.IG I.sz,λb o e hb=>?_,λb hb Gg=>?_,I.stack,I.Gm⟩,rfl,I.bare,Un.laid a w (I.Eg.fresh w),⟨m,NL,λi x v e1 e2 J=>?_⟩,λx c e=>?_,?_,λx c e=>?_,λp hp=>(nomatch hp),I.Eg.laid a w ?_,?_⟩
 ·have h:∃f,(relabel g X.env).names.lookup x=Y f/\(f=.cell\/f=.free):=by
   rcases hx with e | e
   ·exact⟨_,e,.inl L⟩
   ·exact⟨_,e,.inr L⟩
  obtain⟨f,B,Q⟩:=h;exact NT _ (fX ((λx f h NM=>by
  obtain⟨F,d,SV⟩:=c6 h;rcases SV with e | ⟨e,_⟩
  ·subst e;rcases NM with e | e
   ·subst e;exact absurd L (Ip _ (fX d))
   ·subst e;exact d
  ·subst e;exact d) x f B Q)) L
 ·rcases (E b hb).2.2.2.1 with z | z
  ·exact I.ok.Hz b o e z
  ·exact absurd (ZY (ZS e) (ZF I.ok.IG z)) (Yi _)
 ·rcases Zi.mp (I.Gz b Gg) with z | z
  ·exact(E b hb).2.1 z
  ·exact(E b hb).2.2.1 z
 ·
  have QH:k<=i:=by
   rcases Nat.lt_or_ge i k with z | z
   ·rw[ZC (by simpa using z),Yd]at e2;split at e2<;>cases e2
   ·exact z
  rw[Yy (by simpa using QH),ZJ]at e2;have RL:g.names.lookup x=Y .free->∃f,(relabel g X.env).names.lookup x=Y f/\(f=.cell\/f=.free):=λd=>by
   rcases J with z | z | z
   ·obtain⟨F,B,Q⟩:=c6 z;rw[d]at B;cases B;rcases Q with q | ⟨_,q⟩<;>cases q
   ·exact⟨_,z,.inl L⟩
   ·exact⟨_,z,.inr L⟩
  rcases Ti _ x (by
   rw[List.getElem?_drop,show k+(i-k)=i by exact Nat.add_sub_of_le QH];exact e1) with⟨hX,d⟩ | d | d
  ·obtain⟨f,LG,MN⟩:=RL d;have Ld:X.env.kindOf x=Y .cell\/X.env.kindOf x=Y .free:=by
    simpa using(GR _ (fX d))
   obtain⟨mX,Uv,SO⟩:=I.loc;obtain⟨u,r,l⟩:=SO _ x v hX e2 (Ld.elim (λz=>.inr (.inl z)) λz=>.inr (.inr z));refine⟨u,r,.inr ⟨?_,?_⟩⟩
   ·rcases MN with z | z
    ·subst z;exact .inl LG
    ·subst z;exact .inr LG
   ·obtain⟨c,U⟩:=NT _ (fX d) L;refine⟨c,U,?_⟩;rcases l with⟨z,_⟩ | ⟨_,c',ID,Lf⟩
    ·rcases Ld with q | q<;>(rw[z]at q;cases q)
    ·have:=j x c U;rw[ID]at this;cases this;exact Lf.keeps a
  ·rcases J with z | z | z<;>(obtain⟨F,n,_⟩:=c6 z;rw[d]at n;cases n)
  ·rcases J with z | z | z<;>(obtain⟨F,n,z2⟩:=c6 z;rw[d]at n;cases n;rcases z2 with q | ⟨q,_⟩<;>cases q)
 ·obtain⟨v,z⟩:=I.cell x c (j x c e);exact⟨v,z.keeps a⟩
 ·show upd H D (.lst []) C=M;rw[ax (Yb NU)];exact(I.Eg.fresh hC)
 ·obtain⟨v,z⟩:=I.cell x c (j x c e);rw[ax (ZV (ZY z.lt w))];exact I.Ey x c (j x c e)
 ·exact⟨YT _,[],0,.nil,To⟩
 ·rw[Zv,ZJ,I.len,← hlen,Xu];exact Nat.add_sub_of_le JX
def AG(X:Cx)(a:List Expr)(t:TT):Prop :=
 ∀(pins:Xj)(s:FB)(R:St)(H:Hp)(Q:Bool->Hp->Prop),Inv X pins R H s->t R H Q →
  KB (FM X.prog X.w) X.A (forIn a Z λc r=>if r=Z then (do let ok ← isTrue c X.env (eval c X.env);pure (ForInStep.yield ok)) else pure (ForInStep.yield r)) (TP X pins R Q) X.xe s
def pR:AG X [] (λR H Q=>Q Z H):=λpins s R H Q I q=>Za ⟨H,I,q⟩
section
def pP{s:FB}(I:Nat->FB->Prop)(f:∀n s,I n s->KB (FM prog w) A (pyNext t) (λr p=>match r with
   |none=>Rq (.ok .next) p
   |some v=>KB (FM prog w) A (letOwnedTupleGo a t v) (λ_ C=>KB (FM prog w) A (assign a d v) (λ_ B =>
     KB (FM prog w) A (forIn i Z λc r=>if r=Z then (do let ok ← isTrue c d (eval c d);pure (ForInStep.yield ok)) else pure (ForInStep.yield r)) (λok o =>
      if ok=Z then KB (FM prog w) A (eval j d) (λx z =>
       KB (FM prog w) A (call (.builtin "list.append") [l,x]) (λ_ y=>∃m,m<n/\I m y) (λ_ _=>False) z) (λ_ _=>False) o
      else ∃m,m<n/\I m o) (λ_ _=>False) B) (λ_ _=>False) C) (λ_ _=>False) p) (λ_ _=>False) s)(n:Nat)(h:I n s) :
  codeAny (FM prog w) A (.compLoop (.ListComp j [⟨a,g,i,0⟩] e q) 0 t l d) Rq s:=by
 refine codeAny_loop L I (λn s J=>?_) n h;refine wpAny_noted ?_;rw[compTurn_list];refine Zq (wpAny_standAt (Zq (Z6 (f n s J) (λr p D=>?_) λ_ _ b=>b.elim)));cases r with
 |none=>exact Za D
 |some v =>
  refine Zq (Z6 D (λ_ C h₀=>?_) λ_ _ b=>b.elim);refine Zq (Z6 h₀ (λ_ B G=>Zq (Z6 G (λok o u=>?_) λ_ _ b=>b.elim)) λ_ _ b=>b.elim);cases ok with
  |false=>exact Za ⟨rfl,u⟩
  |true =>
   rw[Zr L]at u;exact Zq (Zq (Z6 u (λx z F=>Zq (Z6 F (λ_ y E=>Za (Za ⟨rfl,E⟩)) λ_ _ b=>b.elim)) λ_ _ b=>b.elim))
end
def uJ(k:Nat)(q:TI)(g:TG)(t:TT)(r:TE)(R:St)(H:Hp)(Q:VK):Prop:=q R H λh p=>∀D,p D=M->∃W:Nat->Nat->St->Hp->Prop,
 (∃m,W 0 m (List.replicate k M++R) (upd p D (.lst [])))/\∀i m j d,W i m j d->(h.stop i d/\Q (.ref D) d)\/(h.go i d/\∀x o,h.Nm i d x o->g x j o λe u=>t e u λb n =>
  if b=Z then r e n λy l=>∃f,l D=Y (.lst f)/\f.length<FS/\∃a,a<m/\W (i+1) a e (upd l D (.lst (f++[y]))) else ∃a,a<m/\W (i+1) a e n)
def uj{X:Cx}{N:List Str}(Gd:X.calm=Z)(hi:PI X tg a wi)(IT:qV X.env B=Z)(JU:qK B (N.drop k) X.N=Z)(JX:k<=N.length)(JV:∀cl C s H fp,PG (fg X N B cl C s H fp) tg g/\AG (fg X N B cl C s H fp) F tc/\PE (fg X N B cl C s H fp) J te)(hs:∀x,SZ a X.env x=pure x)(I:Inv X pins R H s)(h:uJ k wi g tc te R H Q)(hq:∀s' f D C m,Inv X pins R f s'->Q (.ref D) f->s'.heap.Ns C m->mD X pins f C->compPost (FM X.prog X.w) X.A X.xe E QQ (.ref D) C (.ok .next) s') :
  KB (FM X.prog X.w) X.A (comprehension (.ListComp J [⟨tg,a,F,0⟩] B pos) B X.env pos' (newList []) O (eval a X.env) E) QQ X.xe s:=by
 have K7:=IT;unfold qV at K7;rw[Z2,ZE]at K7;obtain⟨hk,GR⟩:=K7;have Io:B.kind=.function:=by simpa using hk
 obtain⟨cl,Te,JF,NT⟩:=xX λy G e=>I.ok.has y.1 (by
  have:=GR y G;rw[e]at this;simpa using this)
 refine wpAny_comprehension_free L hs Te Io (λy G e=>by
  have:=GR y G;rw[e]at this;simpa using this) (thn (hi pins s R H _ I h) λv s1 h1=>thn h1 λOJ j h2=>?_)
 refine L2.ak λP_ k_=>?_;obtain⟨it,fp,tn,Jq,H2,e,I2,T,Nu,f2,hW⟩:=h2;subst e;refine k_ ?_;refine Xr (wpAny_newFunctionEnv (λy G e=>by have:=GR y G;rw[e]at this;cases this) (by intro y G;simp at G) (λh₁ Jn HP=>?_) Io);generalize hP:j.heap.push { cls:=.type "list",dict:=M,data:=.seq ([]).toArray }=P at Jn HP ⊢;have O8:P.objs.size=j.heap.objs.size+1:=by rw[← hP,XQ]
 have old:=λb o e =>
  HP.extBut b o (by rw[O8];exact ZV (Ye (ZS e))) (Zl _ (hP ▸ Zl _ e))
 have NU:j.heap.objs.size≠P.objs.size:=by rw[O8];exact ZV (Yt _)
 have Lk:j.heap.objs.size<=P.objs.size:=by rw[O8];exact Xb _
 have Ki:=λb hb=>let ⟨o,ho,_⟩:=T.obj 0 _ Nu b hb;ZS ho
 have NQ:P.objs.size∉fp:=λhb=>absurd (ZY (Ki _ hb) Lk) (Yi _);have IY:=I2.block (N:=N) (k:=k) (t:=j.toks+([]:List (Str×IR)).length) IT JU JX JF NT f2 (Zj _) Lk NU NQ old Jn (HP.extBut _ _ NU (Zl _ (hP ▸ ZR _ L)));obtain⟨hG,hT,hE⟩:=JV cl P.objs.size j H2 fp;generalize hY:fg X N B cl P.objs.size j H2 fp=Y at IY hG hT hE;have Tn:Y.prog=X.prog/\Y.w=X.w/\Y.K=X.K/\Y.A=X.A/\Y.env=compEnvC B cl P.objs.size X.env/\Y.calm=X.calm/\(Y.xe=λ_ _=>False):=by rw[← hY];exact⟨rfl,rfl,rfl,rfl,rfl,rfl,rfl⟩
 refine L2.ak λP_ k_=>?_;obtain⟨y1,U,y3,S,y5,y6,y7⟩:=Tn;have HN:∀{f:Hp},(∀b∈fp,f b=M)->∀b∈fp,mD Y [] f b:=λ{f} hn b hb=>by
  rw[← hY];refine⟨hn b hb,λ(e:b=P.objs.size)=>NQ (e ▸ hb),λGg=>?_,.inl hb,λx c e=>(f2 b hb).2.2.2.2.1 x c (JF x c e),λp hp=>(nomatch hp)⟩;rcases Zi.mp (I2.Gz b Gg) with z | z
  ·exact(f2 b hb).2.1 z
  ·exact(f2 b hb).2.2.1 z
 obtain⟨W,⟨m0,w0⟩,turn⟩:=hW j.heap.objs.size (I2.Eg.fresh (Zj _));refine k_ ?_;have Kd:=T.keep _ _ _ Nu λb _ o e=>old b o e;have loop:codeAny (FM X.prog X.w) X.A (.compLoop (.ListComp J [⟨tg,a,F,0⟩] B pos) 0 (.ref it) (.ref j.heap.objs.size) (compEnvC B cl P.objs.size X.env)) (compPost (FM X.prog X.w) X.A X.xe E QQ (.ref j.heap.objs.size) P.objs.size)
   { j with heap:=h₁,toks:=j.toks+([]:List (Str×IR)).length }:=by
  refine pP (λn s'=>∃i R' f,Inv Y [] R' f s'/\tn i s'.heap/\(∀b∈fp,f b=M)/\W i n R' f) ?_ m0 ⟨0,_,_,IY,Kd,(λb hb=>by rw[ax (ZV (Ki b hb))];exact(f2 b hb).1),w0⟩;rintro n s3 ⟨i,R3,H3,I3,Kd,MW,w3⟩;rcases turn i n R3 H3 w3 with⟨stop,qn⟩ | ⟨go,step⟩
  ·have q:=T.done Y y1 U y3 (y6.trans Gd) i [] s3 R3 H3 (λ_ _=>False) I3 (HN MW) Kd stop;rw[S]at q;refine thn q λr s4 l=>?_;obtain⟨hr,I4⟩:=l;subst hr;obtain⟨mC,QE,_⟩:=I4.loc;have f4:=I4.free;rw[y5]at QE f4;exact hq s4 H3 _ P.objs.size mC (by
    have b4:=I4.base;have o4:=I4.os;have k4:=I4.Eg;rw[← hY]at b4 o4 k4;refine I2.Kq (ch:=fp) o4 b4 k4 I4.bare λb hb=>?_;exact⟨(f2 b hb).2.2.2.1,(f2 b hb).2.1,(f2 b hb).2.2.2.2.1,(f2 b hb).2.2.2.2.2⟩) qn QE (I2.JY Lk f4)
  ·have q:=T.item Y y1 U y3 (y6.trans Gd) i [] s3 R3 H3 (λ_ _=>False) I3 (HN MW) Kd go;rw[S]at q;refine thn q λr s4 l=>?_;obtain⟨u,hr,h4⟩:=l;subst hr;refine thn h4 λ_ s5 l=>?_;obtain⟨x,H5,I5,r5,RH,Kx,Pb⟩:=l;have again:∀{R7:St}{H7:Hp}{s7:FB}{m:Nat},Inv Y ([]++lJ fp s5.heap) R7 H7 s7->W (i+1) m R7 H7->∃i R' f,Inv Y [] R' f s7/\tn i s7.heap/\(∀b∈fp,f b=M)/\W i m R' f:=λ{R7 H7 s7 m} I7 w7=>by
    refine⟨i+1,R7,H7,I7.FI,T.keep _ _ _ Kx λb hb o e=>(I7.pin (b,o) (ZK _ (ZK _ (gM hb e)))).1,λb hb=>?_,w7⟩;obtain⟨o,e,d⟩:=T.obj _ _ Kx b hb;exact(I7.pin (b,o) (ZK _ (ZK _ (gM hb e)))).2.1
   have qa:=hG _ s5 R3 H5 x u _ (I5.pinned (HN Pb) (T.obj _ _ Kx)) r5 (step x H5 RH);rw[y1,U,S,y5,y7]at qa;refine thn qa λ_ s6 l=>?_;obtain⟨R6,H6,I6,q6⟩:=l;have qt:=hT _ s6 R6 H6 _ I6 q6;rw[y1,U,S,y5,y7]at qt;refine thn qt λb s7 l=>?_;obtain⟨H7,I7,q7⟩:=l;cases b with
   |false =>
    rw[Zp Zh]at q7 ⊢;obtain⟨m',hm,w7⟩:=q7;exact⟨m',hm,again I7 w7⟩
   |true =>
    rw[Zr L]at q7 ⊢;have qe:=hE _ s7 R6 H7 _ I7 q7;rw[y1,U,S,y5,y7]at qe;refine thn qe λyv s8 l=>?_;obtain⟨y,H8,I8,r8,ys,Tp,SQ,m',hm,w8⟩:=l;have qp:=iF (X:=Y) _ s8 R6 H8 (.ref j.heap.objs.size) [y] (.ref j.heap.objs.size) [yv] (λ_ H9=>W (i+1) m' R6 H9) I8 L (.cons r8 .nil) ⟨_,ys,y,rfl,rfl,Tp,SQ,w8⟩;rw[y1,U,S,y7]at qp;refine thn qp λ_ s9 l=>?_;obtain⟨_,H9,I9,_,w9⟩:=l;exact⟨m',hm,again I9 w9⟩
 exact codeAny_compStart_list loop (T.self _ 0 _ _ _ Kd loop)
def rK{X:Cx}{N:List Str}(J:X.calm=Z)(w:PI X l a p)(B:qV X.env d=Z)(A:qK d (N.drop k) X.N=Z)(y:k<=N.length)(z:∀cl C s H fp,PG (fg X N d cl C s H fp) l g/\AG (fg X N d cl C s H fp) i t/\PE (fg X N d cl C s H fp) j r)(u:{`q3,∀x,SZ a X.env x=pure x}):PE X (.ListComp j [⟨l,a,i,0⟩] d n) (uJ k p g t r):=by
 intro pins s R H Q I h;rw[eval_ListComp];refine uj J w B A y z u I h λL G D C m E q v f=>⟨m,v,λP F=>?_⟩
 exact⟨.ref D,G,E.turned (λb o hb e=>F.extBut b o hb e) f.1 f.2.1 f.2.2.2.1 f.2.2.2.2.1 f.2.2.2.2.2,rfl,q⟩
end
end L2
end
section
namespace VS
open PySem PySem.Spec PyProof.Rows L2
noncomputable def zz(k:Nat)(g:Tg):Prop:=∀t U a,g t U=Y a->a.length=U.length/\∀i,k<=i->a[i]?=U[i]?
def kQ(h:{`q1,i<k}):zz k (df i):=λt U b e=>by
 unfold df at e;split at e
 ·cases e;exact⟨by simp,λj a=>by rw[Yo (by lia)]⟩
 ·cases e
theorem si:∀(l:W3){i:Nat}{t:T},gq l=Z->l[i]?=Y t->Et t=Z
 |[],_,_,_,h=>by simp at h
 |x :: l,0,t,h,e=>by
  simp at e;rw[← e];exact(Zf.mp h).1
 |x :: l,i+1,t,h,e=>by
  exact si l (Zf.mp h).2 (by simpa using e)
def tC(G:Gx):Option Ex->TT
 |none=>λR H Q=>Q Z H
 |some c=>tT G c
section
def jP:(List.replicate k M++U)[i]?=Y (Y c)↔k<=i/\U[i-k]?=Y (Y c):=by
 rcases Nat.lt_or_ge i k with h | h
 ·rw[ZC (by simpa using h),Yd];constructor
  ·intro e;split at e<;>cases e
  ·intro ⟨e,_⟩;lia
 ·rw[Yy (by simpa using h),ZJ];exact⟨λe=>⟨h,e⟩,λe=>e.2⟩
def vx:cF (λi=>J (i-k)) (List.replicate k M++U) a↔cF J U a:=by
 constructor
 ·rintro⟨j,t,d,b⟩;exact⟨j-k,t,(jP.mp d).2,b⟩
 ·rintro⟨j,t,d,b⟩;refine⟨j+k,t,jP.mpr ⟨Nat.le_add_left _ _,by rw[Xi];exact d⟩,?_⟩;show a∈J (j+k-k);rw[Xi];exact b
def vb:ff (λi=>J (i-k)) (List.replicate k M++U) a↔ff J U a:=by
 constructor
 ·rintro⟨j,t,d,b⟩;exact⟨j-k,t,(jP.mp d).2,b⟩
 ·rintro⟨j,t,d,b⟩;refine⟨j+k,t,jP.mpr ⟨Nat.le_add_left _ _,by rw[Xi];exact d⟩,?_⟩;show a∈J (j+k-k);rw[Xi];exact b
def SR.sh(s:SR G J U R H):SR G (λi=>J (i-k)) (List.replicate k M++U) (List.replicate k M++R) H:=by
 refine⟨by simp[s.len],λi c h=>?_,λi t h=>?_,λi j t c b a n=>?_⟩
 ·obtain⟨b,a⟩:=jP.mp h;obtain⟨v,e,d⟩:=s.rp _ c a;refine⟨v,?_,d⟩;rw[Yy (by simpa using b),ZJ];exact e
 ·exact s.nd _ t (jP.mp h).2
 ·obtain⟨m,g⟩:=jP.mp b;obtain⟨l,f⟩:=jP.mp a;exact s.sep _ _ t c g f (by lia)
def SR.less{U:VS.Env}(s:SR G J a R H)(b:U.length=a.length)(h:∀(i:Nat) c,U[i]?=Y (Y c)->a[i]?=Y (Y c)):SR G J U R H :=
 ⟨b.trans s.len,λi c e=>s.rp i c (h i c e),λi t e=>s.nd i t (h i _ e),λi j t c e1 e2 n=>s.sep i j t c (h i _ e1) (h j _ e2) n⟩
def SR.off(s:SR G J U R H)(m:Ep (H D)\/H D=M)(d:¬ff J U D)(a:¬cF J U D):SR G J U R (upd H D o):=by
 refine⟨s.len,λi c e=>?_,s.nd,s.sep⟩;obtain⟨v,h,g⟩:=s.rp i c e;refine⟨v,h,g.keep (Kept.upd m) λb hb j f=>?_⟩;rw[ax λz=>?_]
 ·exact f
 ·subst z;cases c with
  |pu t=>exact d ⟨i,t,e,hb⟩
  |ow t=>exact a ⟨i,t,e,hb⟩
theorem lb:∀(l:Wa)(v:Val),cI (l++[v])=(cI l).join v.1
 |[],(m,t)=>by cases m<;>rfl
 | (m,t) :: l,v=>by
  show m.join (cI (l++[v]))=(m.join (cI l)).join v.1;rw[lb l v];generalize cI l=q;generalize v.1=r;cases m<;>cases q<;>cases r<;>rfl
def Fp.MD(f:Fp J U H m F)(g:Fp J U H n j)(d:n=.fr->∀a∈F,a∉j):Fp J U H (m.join n) (F++j):=by
 have both:∀{P:GM->Prop},(∀a∈F,P a)->(∀a∈j,P a)->∀a∈F++j,P a:=λp q a h=>(Zc.mp h).elim (p a) (q a);cases m<;>cases n
 ·exact⟨ZO.mpr ⟨f.1,g.1,λa i b hb e=>d L a i (e ▸ hb)⟩,both f.2 g.2⟩
 ·exact both (λa i=>.inl (f.2 a i)) g
 ·exact both (λa i=>.inl (f.2 a i)) g
 ·exact both f λa i=>.inl (g.2 a i)
 ·exact both f g
 ·exact both (λa i=>(f a i).imp id .inl) g
 ·exact both f λa i=>.inl (g.2 a i)
 ·exact both f λa i=>(g a i).imp id .inl
 ·exact both f g
def Fp.M8(f:Fp J U H m F)(h:H D=M)(d:D∉F):Fp J U H m (D :: F):=by
 have all:∀{P:GM->Prop},P D->(∀a∈F,P a)->∀a∈D :: F,P a:=λp q a b=>(Zi.mp b).elim (λe=>e ▸ p) (q a);cases m
 ·exact⟨Ze.mpr ⟨d,f.1⟩,all h f.2⟩
 ·exact all (.inl h) f
 ·exact all (.inl h) f
end
section
def CI(G:Gx)(J:Eo)(U b:VS.Env)(H p:Hp)(D:GM)(l:W3)(h:Wa)(q:Tg)(d:Option Ex)(r:Ex)(i n:Nat)(s:L2.St)(f:Hp):Prop:=n=l.length-i/\∃e g j m rest,SR G e b s f/\(∀a,cF e b a->cF J U a)/\(∀a,ff e b a->H a=M\/ff J U a)/\¬ff e b D/\¬cF e b D/\Kept p f ∧
     (∀a o,a≠D->p a=Y o->f a=Y o)/\f D=Y (.lst m)/\RpL G f m (trees g) j/\D∉j.flatten/\Fp J U H (cI g) j.flatten/\lQ q d r b (l.drop i)=Y rest/\g++rest=h
def sE{G:Gx}{k:Nat}{tg:Tg}{ci:Hh}{cond:Option Ex}{ce:Ex}{R:L2.St}{H:Hp}{Q:VK}(JV:zz k tg)(h:tE G (gU k tg ci cond ce) R H Q):uJ k (tI G ci) (tG G tg) (tC G cond) (tE G ce) R H Q:=by
 refine L2.ak λP_ A=>?_;obtain⟨J,U,m,r,s,e,kq⟩:=h;obtain⟨⟨mi,l⟩,el,e1⟩:=Zz.mp e;dsimp only at e1;split at e1
 ·rename_i Eg;obtain⟨all,ea,e2⟩:=Zz.mp e1;unfold Hk at e2;split at e2
  ·rename_i hlen;cases e2;refine A ?_;refine⟨J,U,mi,l,s,el,λJq H1 C e3 ok fc D hD=>?_⟩;have Lj:=e3.free hD;let E:VS.Env:=List.replicate k M++U
   have good:∀{t:T}{i:Nat}{p H2:Hp}{v:V}{F:Wi},l[i]?=Y t->Rp G H2 v t F->(∀a,H1 a≠M->p a≠M)->(∀a∈F,a∈C\/p a=M)->∀a∈F,(H a=M\/ff J U a)/\¬cF J U a:=λ{t i p H2 v F} hi rF keep hF a d=>by
    have EI:∀{b},H b≠M->p b≠M:=λ{b} hb=>keep b λz=>hb (e3.free z);rcases hF a d with z | z
    ·rcases fc a z with q | q | ⟨q,w⟩
     ·exact⟨.inl q,λw=>Ep.xl (s.Fh w) q⟩
     ·exact⟨.inr q,λw=>s.Ij w q⟩
     ·subst q;have:Et t=Z:=by
       exact si l Eg hi
      rw[rF.Et this]at d;simp at d
    ·have hz:=Classical.byContradiction λq=>EI q z;exact⟨.inl hz,λw=>Ep.xl (s.Fh w) hz⟩
   refine⟨CI G J U E H H1 D l all tg cond ce,?_,?_⟩
   ·refine⟨l.length-0,rfl,λi=>J (i-k),[],[],[],all,?_,λa h=>vx.mp h,λa h=>.inr (vb.mp h),λh=>?_,λh=>?_,Kept.upd (.inr hD),λa o n h=>by rw[ax n];exact h,ay,.nil,by simp,Fp.nil,by rw[X4];exact ea,rfl⟩
    ·exact((s.same e3).sh).off (.inr hD) (λh=>Ep.xl (s.Jd (vb.mp h)) Lj) λh=>Ep.xl (s.Fh (vx.mp h)) Lj
    ·exact Ep.xl (s.Jd (vb.mp h)) Lj
    ·exact Ep.xl (s.Fh (vx.mp h)) Lj
   ·intro i n R' p S5;refine L2.ak λP_ A=>?_;obtain⟨rfl,J1,X,Fs,xs,rest,s1,P6,R5,Sb,Sd,kp,old,LL,rp,nD,fp,er,ev⟩:=S5;refine A ?_;have Il:∀a,H1 a≠M->p a≠M:=λa d z=>by
     by_cases q:a=D
     ·subst q;rw[LL]at z;cases z
     ·cases e:H1 a with
      |none=>exact d e
      |some o=>rw[old a o q e]at z;cases z
    refine L2.ak λP_ A=>?_;obtain⟨go,stop⟩:=ok.run p kp λa d o ho=>old a o (λz=>ok.EI a d (z ▸ hD)) ho;cases hit:l[i]? with
    |none =>
     have hl:=Yx.mp hit;refine A ?_;left;refine⟨stop i hl,?_⟩;rw[YZ hl]at er;cases (er);rw[Zd]at ev;subst ev;refine kq (.ref D) p (D :: Fs.flatten) (λa o h=>old a o (λz=>by rw[z,Lj]at h;cases h) (e3 a o h)) (.lst LL rp) ?_;by_cases hi:gq (trees X)=Z
     ·rw[Zr hi,rp.Et hi];exact⟨by simp,λa d=>by rw[Zg.mp d];exact Lj⟩
     ·rw[Zp hi];exact fp.M8 Lj nD
    |some t =>
     have hl:=(Zk.mp hit).1;obtain⟨g1,y1⟩:=go i t hit;refine A ?_;right;refine⟨g1,λx H2 yl=>?_⟩;refine L2.ak λP_ A=>?_;obtain⟨g,F,rF,hF⟩:=y1 x H2 yl;rw[mR (tgt:=tg) (body:=dG) (U:=U) hit]at er;rw[lQ]at er;obtain⟨U3,e4,e5⟩:=Zz.mp er;obtain⟨b,eb,e6⟩:=Zz.mp e5;have gd:=good hit rF Il hF;refine A ?_;refine⟨J1,E,t,F,U3,(s1.same g),rF,λa d z=>(gd a d).2 (P6 a z),e4,λN R3 s3 o3 p3=>?_⟩;obtain⟨tl,Mg⟩:=JV t E U3 e4;have low:∀j c,E[j]?=Y (Y c)->U3[j]?=Y (Y c):=λj c h=>by rw[Mg j (jP.mp h).1];exact h
     have Ny:=λa h=>(p3 a h).elim (R5 a) λh=>(gd a h).1;have Oo:=λa h=>P6 a (o3 a h);have Mr:=λh=>(p3 D h).elim Sb (λh=>by
      rcases hF D h with z | z
      ·exact ok.EI D z hD
      ·rw[LL]at z;cases z)
     have NC:=λh=>Sd (o3 D h);have Nw:∀a,ff N E a->ff N U3 a:=λa ⟨j,u,h1,h2⟩=>⟨j,u,low j _ h1,h2⟩
     have Nz:∀a,cF N E a->cF N U3 a:=λa ⟨j,u,h1,h2⟩=>⟨j,u,low j _ h1,h2⟩
     have Kf:∀S,aM H2 S->(if b=Z then tE G ce R3 S λy P=>∃ys,P D=Y (.lst ys)/\ys.length<FS/\∃m',m'<l.length-i/\CI G J U E H H1 D l all tg cond ce (i+1) m' R3 (upd P D (.lst (ys++[y]))) else ∃m',m'<l.length-i/\CI G J U E H H1 D l all tg cond ce (i+1) m' R3 S):=λS f=>by
      have eo:∀{P},aM S P->∀a o,p a=Y o->P a=Y o:=λ{P} LR a o h=>LR a o (f a o (g a o h));cases b with
      |false =>
       rw[Zp Zh]at e6 ⊢;have same:=eo (aM.refl S);exact⟨_,by lia,rfl,N,X,Fs,xs,rest,(s3.same f).less (by rw[tl]) low,λa h=>Oo a (Nz a h),λa h=>Ny a (Nw a h),λh=>Mr (Nw D h),λh=>NC (Nz D h),kp.trans ((Kept.of g).trans (Kept.of f)),λa o n h=>same a o (old a o n h),same D _ LL,rp.same (aM.trans g f),nD,fp,e6,ev⟩
      |true =>
       rw[Zr L]at e6 ⊢;obtain⟨⟨mv,tv⟩,TQ,e7⟩:=Zz.mp e6;obtain⟨Mn,TL,Rm⟩:=Zx.mp e7;refine⟨N,U3,mv,tv,s3.same f,TQ,λy P Fy LR ry B=>?_⟩;have same:=eo LR;have QP:=same D _ LL;have NI:Ep (P D):=by rw[QP];exact True.intro
       have O7:=f D _ (g D _ LL);have Jf:=λa h=>Classical.byContradiction λq=>Il a (λz=>q (e3.free z)) (g.free (f.free h));have RD:=λh=>by
        cases mv with
        |fr=>have:=B.2 D h;rw[O7]at this;cases this
        |pu=>exact(B D h).elim (λz=>by rw[O7]at z;cases z) Mr
        |bo=>exact(B D h).elim (λz=>by rw[O7]at z;cases z) λz=>z.elim Mr NC
       have Si:xs.length=X.length:=by rw[rp.len.1];simp
       have Sj:X.length<all.length:=by rw[← ev,← Rm];simp
       refine⟨xs,QP,?_,_,by lia,rfl,N,X++[(mv,tv)],Fs++[Fy],xs++[y],Mn,(((s3.same f).same LR).off (.inl NI) Mr NC).less (by rw[tl]) low,λa h=>Oo a (Nz a h),λa h=>Ny a (Nw a h),λh=>Mr (Nw D h),λh=>NC (Nz D h),?_,λa o n h=>?_,ay,?_,?_,?_,TL,?_⟩
       ·have QF:all.length<=dH:=by simpa using hlen
        have:FS=dH:=rfl;lia
       ·exact(kp.trans ((Kept.of g).trans ((Kept.of f).trans (Kept.of LR)))).trans (Kept.upd (.inl NI))
       ·rw[ax n];exact same a o (old a o n h)
       ·have:trees (X++[(mv,tv)])=trees X++[tv]:=by simp
        rw[this];exact((rp.same ((g.trans f).trans LR)).off NI nD).append (.cons (ry.keep (Kept.upd (.inl NI)) λb hb o ho=>by rw[ax (λz=>RD (by rw[← z];exact hb))];exact ho) .nil)
       ·rw[Z8];intro h;rcases Zc.mp h with z | z
        ·exact nD z
        ·exact RD (by simpa using z)
       ·rw[Z8,lb];have:([Fy]).flatten=Fy:=by simp
        rw[this];refine fp.MD (by
        cases mv with
        |fr=>exact⟨B.1,λa d=>Jf a (B.2 a d)⟩
        |pu=>exact λa d=>(B a d).elim (λz=>.inl (Jf a z)) (Ny a)
        |bo=>exact λa d=>(B a d).elim (λz=>.inl (Jf a z)) λz=>z.elim (λz=>(Ny a z).imp id .inl) λz=>.inr (.inr (Oo a z))) λhm a d hb=>?_
        subst hm;have:=(rp.same (g.trans f)).EI a d;rw[(B.2 a hb)]at this;exact this
       ·rw[ZA,← ev,← Rm];rfl
     cases cond with
     |none =>
      cases (eb);exact Kf H2 (aM.refl H2)
     |some c =>
      obtain⟨⟨mc,xc⟩,TU,Ln⟩:=Zz.mp eb;exact⟨N,U3,mc,xc,b,s3,TU,Ln,λS f=>Kf S f⟩
  ·cases e2
 ·cases e1
end
section
def oB{X:Cx}(k:Nat)(N:List Str)(m:X.calm=Z)(b:Nh G X tg iter ci)(f:zz k g)(d:∀cl C s H fp,Ni G (fg X N sc cl C s H fp) tg g)(he:∀cl C s H fp,PV G (fg X N sc cl C s H fp) elt ce)(l:{`q2,qV X.env sc=Z})(j:{`q2,qK sc (N.drop k) X.N=Z})(e:{`q1,k<=N.length})(a:{`q3,∀x,SZ iter X.env x=pure x}) :
  PV G X (.ListComp elt [⟨tg,iter,[],0⟩] sc pos) (gU k g ci M ce) :=
 PE.weak (rK m b l j e (λcl C s H fp=>⟨d cl C s H fp,pR,he cl C s H fp⟩) a) λR H Q h=>sE f h
end
end VS
end
section
namespace VS
open PySem PySem.Spec PyProof.Rows L2
noncomputable instance {s:Tx}:Decidable (my s):=inferInstanceAs (Decidable (_/\_))
section
def w_add(f:PV G X a ca)(d:PV G X b cb):PV G X (.BinOp a .Add b pos) (e2 bE ca cb):=cO yt Bw f d
def fE(f:PV G X a ca)(d:PV G X b cb):PV G X (.BinOp a .FloorDiv b pos) (e2 bQ ca cb):=cO yD ye f d
def w_mod(f:PV G X a ca)(d:PV G X b cb):PV G X (.BinOp a .Mod b pos) (e2 oMod ca cb):=cO AM Ap f d
def w_eq{X:Cx}(d:gV k X.A)(g:PV G X a ca)(f:PV G X b cb):PV G X (.Compare a [.Eq] [b] pos) (e2 oEq ca cb):=Bk (uv d.units) zL g f (gp _)
def pI{X:Cx}(d:gV k X.A)(g:PV G X a ca)(f:PV G X b cb):HF G X (.Compare a [.Eq] [b] pos) (e2 oEq ca cb):=dN (uv d.units) zL tells_eq g f (gp _)
def qf{X:Cx}(d:gV k X.A)(g:PV G X a ca)(f:PV G X b cb):HF G X (.Compare a [.NotEq] [b] pos) (e2 Ik ca cb):=dN (B5 d.units) Ct wj g f (gp _)
def cy(g:PV G X a ca)(f:PV G X b cb)(d:jw b:=by intro _ _;rfl)(i:{`q2,X.K=G.K}):PV G X (.Subscript a b pos) (e2 aT ca cb) :=
 PE.weak (rC nV g f d) λR H Q h=>by rw[i];exact j6 uS h
def dD{X:Cx}(d:X.mg "len" = M)(g:E7 G X [e] cs)(f:{`q2,Gl X "len"})(h:{`q2,X.K=G.K})(he:{`q2,K1 e [] X}):PV G X (.Call (.Name "len" p) [e] [] pos) (eN cp cs) :=
 ik (h ▸ tW) BM f d PySem.boot_len g (he:=he)
def Bb:bootBuiltins ("max" : Str)=Y (.builtin "max"):=by decide +kernel
def Bl:bootBuiltins ("min" : Str)=Y (.builtin "min"):=by decide +kernel
def x5:bootBuiltins ("list" : Str)=Y (.type "list"):=by decide +kernel
def Bp{X:Cx}(d:X.mg "max" = M)(h:E7 G X [a,b] cs)(g:{`q2,X.calm=Z})(f:{`q2,Gl X "max"})(he:{`q2,KM [a,b] X.env=(O,eval a X.env) :: KM [b] X.env})(hpl:{`q2,(backTo pos (KM [b] X.env)).any (·.1)=O}):PV G X (.Call (.Name "max" p) [a,b] [] pos) (eN p9 cs) :=
 ik (tP g) zA f d Bb h (he:=he) (hpl:=hpl)
def Ak{X:Cx}(d:X.mg "min" = M)(h:E7 G X [a,b] cs)(g:{`q2,X.calm=Z})(f:{`q2,Gl X "min"})(he:{`q2,KM [a,b] X.env=(O,eval a X.env) :: KM [b] X.env})(hpl:{`q2,(backTo pos (KM [b] X.env)).any (·.1)=O}):PV G X (.Call (.Name "min" p) [a,b] [] pos) (eN p7 cs) :=
 ik (tY g) xV f d Bl h (he:=he) (hpl:=hpl)
noncomputable def Ly:Ty->Str
 |.int => "int" |.str => "str" |.bool => "bool" |.list => "list" |.tuple => "tuple" |.dict => "dict"
def Da(t:Ty):bootBuiltins (Ly t)=Y (.type (IL t)):=by cases t<;>decide +kernel
def w_is{X:Cx}(t:Ty)(f:X.mg "isinstance" = M)(l:X.mg (Ly t)=M)(h:PV G X a ca)(g:{`q2,Gl X "isinstance"})(j:{`q2,Gl X (Ly t)})(i:{`q2,X.K=G.K})(d:{`q2,KM [a,.Name (Ly t) p2] X.env=(O,eval a X.env) :: KM [.Name (Ly t) p2] X.env}):PV G X (.Call (.Name "isinstance" p1) [a,.Name (Ly t) p2] [] pos) (NX t ca) :=
 Cr t h g f j l (Da t) i (by cases t<;>decide) (by cases t<;>decide) d L L
def jv{apos:Pos}(i:Nat)(m:E7 G X [e] cs)(o:{`q2,X.K=G.K})(n:{`q2,X.N[i]?=Y x})(f:{`q5,HD X.env.scope x})(j:{`q1,K3 x})(d:{`q1,K4 x})(q:{`q2,((backTo pe (KM [e] X.env)).all (λx=>!x.1)&&(backToKw pe (Pv [] X.env)).all (λx=>x.1.isSome)
   && decide ([e].length+([]:List Keyword).length+(if ([]:List Keyword).isEmpty then 0 else 1)<30))=Z})(s:{`q2,(apos.endLine==pe.line)=Z})(g:{`q2,K1 e [] X}) :
  PSV G X (.Expr (.Call (.Attribute (.Name x p1) "append" apos) [e] [] pe) pos) (sX (mq i [] aK cs)) :=
 vi i XW XZ Xa iF m9 (λH v t F l z r h=>kD r h) m o n f j d L q s g L L
end
structure FnAt(P:PP)(w:SC)(K:Wv)(mg:Wj)(base:Re)(k:Nat)(x:Str)(ps:List Str)(G:Gx)(g:Fn):Prop where
 ex:∃f fd,FnOk P w K mg base EX k f fd ps (GA G g)/\mg x=some (.ref f)/\PySem.W.keepIn K (.ref f)=true/\Binds K fd ps []
section
def cT{X:Cx}(F:FnAt X.prog X.w X.K X.mg X.base k x ps G g)(b:gV k' X.A)(i:E7 G X (e :: es) cs)(d:{`q1,k<=k'})(h:{`q2,Gl X x})(o:{`q1,K3 x})(he:{`q2,K1 e es X})(a:{`q2,K2 pos es X}) :
  PV G X (.Call (.Name x p) (e :: es) [] pos) (bq g cs):=by
 obtain⟨f,fd,n,m,l,j⟩:=F.ex;exact yd n (b.mono d) h m l j i o he a
end
section
variable{K:Wv}
def jq(F:Er K x x a f i)(m:mg x=Y (.ref f))(S:cg N b (ah a))(j:b.length=g)(l:N.length=h)(o:∀(kV doc pm:IR)(an:Option GM)(d ct:IR)(e:Wh),e.length=b.length->bindArgs (PySem.W.fnOf x x (bW a) (aD a) (ah a) .none kV doc pm an d ct) ⟨e,[]⟩=pure (b.zip e))(n:∀(d:IR)(A:Pi)(outer:List PySem.Env)(s:FB)(H:Hp)(E:XK),gV k (A.deeper (envOfC x (ah a) s.heap.objs.size f d))->gg G (fh EX P w K mg base N x (ah a) f d A outer s H E).EO (aD a) c) :
  FnAt P w K mg base (k+1) x b G (fn g h c) :=
 ⟨f,i,Pc F S j l n,m,F.kp,F.binds o⟩
end
end VS
end
section
namespace L2
open PySem PySem.Spec PyProof.Rows
noncomputable def Hh(x:Str):It:=⟨λi _=>i<x.cps.size,λi H v a=>a=H/\∃c,x.cps[i]?=Y c/\v=.str ⟨#[c]⟩,λi _=>x.cps.size<=i⟩
def mQ{P:PP}{w:SC}{K:Wv}{F:Expr}(x:Str)(t:Tok)(a:GM)(f:String)(N:["enumerate", "zip", "dict_itemiterator", "dict_reverseitemiterator", "odict_iterator", "itertools.zip_longest", "itertools.pairwise"].contains f=O)(W:∀A:Pi,A.handled=M->Walks P w A a [a] [a] x.cps.size (λi v=>∃c u,x.cps[i]?=Y c/\v=.str ⟨#[c]⟩ u) (λi h=>h.IsStrIter a f x t i))(O0:∀(A:Pi),A.handled=M->∀(i:Nat)(s:FB)(Q:Wg->FB->Prop)(E:Z0),s.heap.IsStrIter a f x t i->x.cps[i]?=M->(∀j,Heap.ExtBut a s.heap j->Q M { s with heap:=j })->KB (FM P w) A (pyNext (.ref a)) Q E s)(MJ:∀(A:Pi)(i:Nat)(s:FB)(Q:Z0)(E:Z0),s.heap.IsStrIter a f x t i->Q (.ref a) s->KB (FM P w) A (pyIter (.ref a)) Q E s) :
  Turn P w K F (Hh x) [a] a (λi h=>h.IsStrIter a f x t i) where
 mem:=by simp
 obj:=λi h st b hb=>by
  rw[Zg.mp hb];obtain⟨o,e,c,d⟩:=st;exact⟨o,e,λv z=>by rw[d]at z;cases z⟩
 keep:=λi h j st k=>let ⟨o,e,r⟩:=st;⟨o,k a (by simp) o e,r⟩
 item:=by
  intro X n hw p m i g s R H E I l st hg;subst n hw p;obtain⟨C,f1,f2,B,y,q⟩:=l a (by simp);refine(W X.A (I.ok.hd m)).item i s _ _ hg st λv j tk L D G=>?_;obtain⟨c,u,ID,rfl⟩:=L;obtain⟨o,e,U,d⟩:=id D;exact⟨_,rfl,pV e U d N ⟨.str ⟨#[c]⟩,H,(I.turned (λb o hb e=>G b o (by simpa using hb) e) C f1 B y q),⟨u,rfl⟩,⟨rfl,c,ID,rfl⟩,D,λb hb=>(l b hb).1⟩⟩
 done:=by
  intro X n hw p m i g s R H E I l st hg;subst n hw p;obtain⟨C,f1,f2,B,y,q⟩:=l a (by simp);have J:x.cps.size<=i:=hg;exact O0 X.A (I.ok.hd m) i s _ _ st (by simp[J]) λj S=>⟨rfl,I.turned (λb o hb e=>S b o hb e) C f1 B y q⟩
 self:=λA i s Q E st h=>MJ A i s Q E st h
def wa{K:Wv}(x:Str)(t:Tok)(a:GM):Turn P w K g (Hh x) [a] a (λi h=>h.IsStrIter a (strIterType x) x t i):=by
 cases f:x.cps.all (· < 128)
 ·have e:strIterType x = "str_iterator" := by simp[strIterType,f]
  rw[e];exact mQ x t a "str_iterator" rfl (λA b=>Walks.strWide b a x t) (λA b i s Q E st d q=>wpAny_pyNext_wide_end b st d q) λA i s Q E st q=>wpAny_pyIter_striter_wide st q
 ·have e:strIterType x = "str_ascii_iterator" := by simp[strIterType,f]
  rw[e];exact mQ x t a "str_ascii_iterator" rfl (λA b=>Walks.strAscii b a x t) (λA b i s Q E st d q=>wpAny_pyNext_ascii_end b st d q) λA i s Q E st q=>wpAny_pyIter_striter_ascii st q
section
def Dc(K:Wv)(g:TE):TI:=λR H f=>g R H λx d=>(∃a,x=.ref a/\(∃e,EW K d a e)/\f (PM K a) d)\/(∃a,x=.ref a/\(∃e,FX K d a e)/\f (PL K a) d)\/∃z,x=.str z/\f (Hh z) d
def yy(A:PE X l tl):PI X tg l (Dc X.K tl):=by
 intro d s R H C I h;refine thn (A d s R H _ I h) λv f B=>?_;obtain⟨x,i,g,r1,q1⟩:=B;have m:∀b∈[f.heap.objs.size],mD X d i b:=λb hb=>by
  rw[Zg.mp hb];exact g.JY (Zj _) (g.Eg.fresh (Zj _))
 rcases q1 with⟨a,e,⟨n,j⟩,q⟩ | ⟨a,e,⟨n,j⟩,q⟩ | ⟨z,e,q⟩
 ·subst e;cases r1;obtain⟨w,r,p,y⟩:=g.list j;exact wpAny_pyIter_list p.isList ⟨f.heap.objs.size,[f.heap.objs.size],_,_,i,rfl,g.kept λb o e=>Zl _ e,uk a _,⟨_,ZR _ L,rfl,rfl⟩,m,q⟩
 ·subst e;cases r1;obtain⟨w,r,p,y⟩:=g.tuple j;exact wpAny_pyIter_tuple (p) ⟨f.heap.objs.size,[f.heap.objs.size],_,_,i,rfl,g.kept λb o e=>Zl _ e,qE a _,⟨_,ZR _ L,rfl,rfl⟩,m,q⟩
 ·refine L2.ak λD u=>?_;subst e;obtain⟨t,rfl⟩:=r1;refine u ?_;exact wpAny_pyIter_strU ⟨f.heap.objs.size,[f.heap.objs.size],_,_,i,rfl,g.kept λb o e=>Zl _ e,wa z t _,⟨_,ZR _ L,rfl,rfl⟩,m,q⟩
def yM{s:FB}{d:Re}(g:∀b x,b∉[s.heap.objs.size]->(s.heap.push o).get? b=Y x->d.get? b=Y x)(b:GM)(x:Obj)(e:s.heap.get? b=Y x):d.get? b=Y x :=
 g b x (λf=>Yi _ (by have:=ZS e;rw[Zg.mp f]at this;exact this)) (Zl _ e)
def u9{X:Cx}(F:X.calm=Z):da X (.builtin "sum") (λr H Q=>∃p,∃ns:We,r=[.ref p]/\EW X.K H p (ns.map V.int)/\Q (.int ns.sum) H):=by
 intro w s R H r J Q I z h;refine L2.ak λU B=>?_;obtain⟨p,ns,rfl,E,q⟩:=h;obtain⟨u,rfl,j⟩:=z.one;cases j;obtain⟨d,g,m,P⟩:=I.list E;refine B ?_;have x:p<s.heap.objs.size:=by obtain⟨_,e,_⟩:=m.isList;exact ZS e
 refine call_sum_walkG (wpAny_pyIter_list m.isList ⟨s.heap.objs.size,[s.heap.objs.size,p],[s.heap.objs.size],d.toArray.size,_,_,λi=>(ns[i]?).getD 0,rfl,Walks.list (A:=X.A.in1) (I.ok.hd F) _ p (ZV x) d.toArray,
  ⟨⟨_,ZR _ L,rfl,rfl⟩,m.isList.push _⟩,λb hb=>?_,λi v G=>?_,λS N y o=>⟨.int ns.sum,H,I.kept (yM o),⟨y,?_⟩,q⟩⟩)
 ·rw[XQ];rcases Zi.mp hb with rfl | hb
  ·exact Yt _
  ·rw[Zg.mp hb];exact Ye x
 ·have f:d[i]?=Y v:=by simpa using G
  cases e:ns[i]? with
  |none =>
   have:=g.none_of (i:=i) (by rw[ZL,e];rfl);rw[this]at f;cases f
  |some n =>
   obtain⟨u,D,j⟩:=g.get (i:=i) (by rw[ZL,e];rfl);rw[D]at f;cases f;obtain⟨t,rfl⟩:=j;exact⟨t,by simp[e]⟩
 ·have hlen:d.toArray.size=ns.length:=by have:=g.length;simp at this ⊢;exact Eq.symm this
  have:∀k,k<=ns.length->preSum (λi=>(ns[i]?).getD 0) k=(ns.take k).sum:=λk=>by
   induction k with
   |zero=>intro _;simp[preSum]
   |succ k C =>
    intro o;rw[List.take_succ,List.sum_append,preSum,C (by exact Nat.le_of_succ_le o)];cases e:ns[k]? <;> simp
  rw[hlen,this _ (Zj _),List.take_length]
def nr:OpR X (P3 .Gt) (λx y H Q=>∃i j,x=.str i/\y=.str j/\Q (.bl (decide (j.cps.toList<i.cps.toList))) H):=by
 intro d s R H x y v u Q I f e h;obtain⟨i,j,rfl,rfl,q⟩:=h;obtain⟨t,rfl⟩:=f;obtain⟨g,rfl⟩:=e;exact PySem.P.gt_str ⟨.bl _,H,I,rfl,q⟩
def mJ:OpR X (P3 .GtE) (λx y H Q=>∃i j,x=.str i/\y=.str j/\Q (.bl (!decide (i.cps.toList<j.cps.toList))) H):=by
 intro d s R H x y v u Q I f e h;obtain⟨i,j,rfl,rfl,q⟩:=h;obtain⟨t,rfl⟩:=f;obtain⟨g,rfl⟩:=e;exact PySem.P.ge_str ⟨.bl _,H,I,rfl,q⟩
end
end L2
end
section
namespace VS
open PySem PySem.Spec PyProof.Rows L2
section
def BC(H:Hp)(s:Tx)(l:my s):Jy G (L2.Hh (sx s)) (s.map λc=>T.str [c]) [] H:=by
 have sz:(sx s).cps.size=s.length:=rfl;refine⟨λo _ _=>⟨λi t h=>?_,λi h=>(by rw[Zw]at h;show (sx s).cps.size<=i;lia)⟩,λa h=>by simp at h⟩;rw[ZL]at h;obtain⟨c,f,rfl⟩:=Zx.mp h;refine⟨(by show i<(sx s).cps.size;have:=(Zk.mp f).1;lia),λx n ⟨e1,g,j,e2⟩=>?_⟩;subst e1;have:g=c:=by
  have m:(sx s).cps[i]?=Y c:=by simp[sx,f]
  rw[m]at j;exact(Zo j).symm
 subst this;rw[e2];exact⟨aM.refl _,[],.str [g] ⟨(by show 1<=dH;decide),λd hd=>by rw[Zg.mp hd];exact l.2 g (YE f)⟩,λa h=>by simp at h⟩
def iG(w:PV G X a ca)(B:{`q2,X.K=G.K}):Nh G X tg a (km ca) :=
 PI.weak (yy w) λR H C u=>by
  obtain⟨J,U,m,l,s,e,k⟩:=u;obtain⟨⟨t,x⟩,y,e1⟩:=Zz.mp e;refine⟨J,U,t,x,s,y,λv f F n j q=>?_⟩;cases x with
  |lst r =>
   cases e1;obtain⟨o,g,A,rfl,rfl,d,i⟩:=j.lst_inv;exact .inl ⟨o,rfl,⟨g,EW.of d⟩,k _ f _ n (xM X.K d i) q.c⟩
  |tup r =>
   cases e1;obtain⟨o,g,A,rfl,rfl,d,i⟩:=j.Gk;exact .inr (.inl ⟨o,rfl,⟨g,FX.of d⟩,k _ f _ n (AF X.K d i) q.c⟩)
  |str z =>
   cases e1;obtain⟨rfl,ok⟩:=j.str_inv;exact .inr (.inr ⟨_,rfl,k _ f [] n (BC f z ok) λa h=>by simp at h⟩)
  |_=>cases e1
theorem se:∀{d:List V}{l:W3}{g:Xd}{f:We},RpL G H d l g->pD l=Y f->d=f.map V.int
 |_,_,_,_,.nil,e=>by cases e;rfl
 |_,_,_,_,.cons (t:=t) r q,e=>by
  cases t with
  |int s =>
   obtain⟨h,e1,e2⟩:=Zx.mp e;subst e2;rw[se q e1,r.int_inv];rfl
  |_=>cases e
def BR:eR G (λd H Q=>∃p,∃ns:We,d=[.ref p]/\EW G.K H p (ns.map V.int)/\Q (.int ns.sum) H) zp:=by
 intro J U s H l o w m t Q A e k;unfold zp at e;split at e
 ·rename_i q x;refine L2.ak λr h=>?_;obtain⟨i,e1,e2⟩:=Zz.mp e;cases e2;obtain⟨v,F,rfl,rfl,f⟩:=(A.rp).one;obtain⟨a,n,u,rfl,rfl,j,g⟩:=f.lst_inv;refine h ?_;exact⟨a,i,rfl,by rw[← se g e1];exact EW.of j,bw k (.int _)⟩
 ·cases e
def Ba:bootBuiltins ("sum" : Str)=Y (.builtin "sum"):=by decide +kernel
def vv:bootBuiltins ("tuple" : Str)=Y (.type "tuple"):=by decide +kernel
def w_sum{X:Cx}(d:X.mg "sum" = M)(h:E7 G X [e] cs)(f:{`q2,Gl X "sum"})(i:{`q2,X.K=G.K})(g:{`q2,X.calm=Z})(he:{`q2,K1 e [] X}):PV G X (.Call (.Name "sum" p) [e] [] pos) (eN zp cs) :=
 ik (u9 g) (i ▸ BR) f d Ba h (he:=he)
def uV:eR G (λg H Q=>∃p d,g=[.ref p]/\((EW G.K H p d/\∀l,H l=M->Q (.ref l) (upd H l (.tup d)))\/(FX G.K H p d/\Q (.ref p) H))) jB:=by
 intro J U B H l u C m t Q A e k;unfold jB at e;split at e
 ·rename_i w x;split at e
  ·rename_i y;refine L2.ak λz j=>?_;cases e;obtain⟨v,F,rfl,rfl,h⟩:=(A.rp).one;obtain⟨a,d,s,rfl,rfl,o,i⟩:=h.lst_inv;refine j ?_;refine⟨a,d,rfl,.inl ⟨EW.of o,λq n=>?_⟩⟩;have f:aM H (upd H q (.tup d)):=cY n;have r:Rp G (upd H q (.tup d)) (.ref q) (.tup x) s.flatten:=.tup ay (i.same f);exact k _ _ _ f r (((A.fp.each 0 _ _ L L).sub (Yw _ _)).up r)
  ·cases e
 ·cases e
def yH{X:Cx}(d:X.mg "tuple" = M)(g:E7 G X [e] cs)(f:{`q2,Gl X "tuple"})(h:{`q2,X.K=G.K})(he:{`q2,K1 e [] X}):PV G X (.Call (.Name "tuple" p) [e] [] pos) (eN jB cs) :=
 j9 mI (h ▸ uV) f d vv g (he:=he)
def RX:Fo:=λx y H Q=>Ig (λi j=>.bl (decide (j<i))) x y H Q\/(∃i j,x=.str i/\y=.str j/\Q (.bl (decide (j.cps.toList<i.cps.toList))) H)
def RY:Fo:=λx y H Q=>Ig (λi j=>.bl (decide (j<=i))) x y H Q\/(∃i j,x=.str i/\y=.str j/\Q (.bl (!decide (i.cps.toList<j.cps.toList))) H)
def wg(s t:Tx):decide ((sx s).cps.toList<(sx t).cps.toList)=IP s t:=by rw[k9];exact decide_eq_decide.mpr (by simp[sx])
def zV:eT G RX KD:=by
 intro J U h H x y u w j i m t Q d e k;obtain⟨m1,x⟩:=x;obtain⟨g,y⟩:=y;obtain⟨same,r1,r2,f1,f2,nd⟩:=d;unfold KD oLt at e;split at e
 ·rename_i e1 e2;cases e1;cases e2;cases e;exact .inl ⟨_,_,r1.int_inv,r2.int_inv,bw k (.bl _)⟩
 ·rename_i s _ f e1 e2;cases e1;cases e2;cases e;refine .inr ⟨_,_,r1.str_inv.1,r2.str_inv.1,?_⟩;rw[wg];exact bw k (.bl _)
 ·cases e
def Ad:eT G RY KG:=by
 intro J U h H x y u w j i m t Q d e k;obtain⟨m1,x⟩:=x;obtain⟨g,y⟩:=y;obtain⟨same,r1,r2,f1,f2,nd⟩:=d;unfold KG oLe at e;split at e
 ·rename_i e1 e2;cases e1;cases e2;cases e;exact .inl ⟨_,_,r1.int_inv,r2.int_inv,bw k (.bl _)⟩
 ·rename_i s _ f e1 e2;cases e1;cases e2;cases e;refine .inr ⟨_,_,r1.str_inv.1,r2.str_inv.1,?_⟩;rw[wg];exact bw k (.bl _)
 ·cases e
def oZ:Tells KD:=λx y m t e=>iz y x m t e
def pX:Tells KG:=λx y m t e=>xi y x m t e
def wU(N:eT G r f)(Sa:eT G o g)(h:tE G (lj f g ca cb cc) R H Q):uX r o (tE G ca) (tE G cb) (tE G cc) R H Q:=by
 refine L2.ak λP_ S=>?_;obtain⟨J,U,m,t,s,e,k⟩:=h;obtain⟨x,ea,e⟩:=Zz.mp e;obtain⟨y,eb,e⟩:=Zz.mp e;obtain⟨⟨P,z⟩,ez,e⟩:=Zz.mp e;refine S ?_;refine wX s ea eb λu w H2 F1 A d=>N J U H H2 x y u w F1 A P z _ d ez λv H3 F e1 r1 f1=>?_;cases z with
 |bl q =>
  refine⟨q,r1.EU,?_⟩;cases q with
  |false =>
   cases e;rw[Zp Zh];exact k _ H3 [] (d.same.trans e1) (.bl O) Fp.nil
  |true =>
   rw[Zr L];obtain⟨l,ec,e⟩:=Zz.mp (e);have i:=d.same.trans e1;refine⟨J,U,l.1,l.2,s.same i,ec,λB H4 F4 n E j=>?_⟩;refine Sa J U H H4 y l w B A F4 m t Q ⟨i.trans n,(d.r2.same e1).same n,E,d.f2,j.back i,λhx hy=>?_⟩ e λC H5 F5 e5 D f5=>k C H5 F5 ((i.trans n).trans e5) D f5;have f2:=d.f2;rw[hx]at f2;rw[hy]at j;refine ZO.mpr ⟨f2.1,j.1,λa ha b hb z=>?_⟩;subst z;exact Ep.xl ((d.r2.same e1).EI a ha) (j.2 a hb)
 |_=>cases e
def kN{X:Cx}{i:Int}(h:∃t,X.mg x=Y (.int i t))(f:{`q2,Gl X x})(g:{`q1,K3 x}):PV G X (.Name x pos) (Q2 i):=by
 obtain⟨t,d⟩:=h;exact yn (v:=.int i) f d ⟨t,rfl⟩ (λH=>.int i) g
theorem RpL.rep(r:RpL G H g h f)(i:f.flatten=[]):∀n:Nat,∃d,RpL G H (List.replicate n g).flatten (List.replicate n h).flatten d/\d.flatten=[]
 |0=>⟨[],.nil,rfl⟩
 |n+1=>by
  obtain⟨d,l,j⟩:=RpL.rep r i n;exact⟨f++d,by simpa[Z7] using r.append l,by rw[Z8,i,j];rfl⟩
def ou:eT G Cq lP:=by
 intro J U B H x y u w E D m t Q i e k;obtain⟨m1,x⟩:=x;obtain⟨A,y⟩:=y;obtain⟨same,r1,r2,f1,f2,nd⟩:=i;unfold lP at e;split at e
 ·rename_i z j e1 e2;cases e1;cases e2;split at e
  ·rename_i d;cases e;obtain⟨a,h,C,rfl,rfl,l,f⟩:=r1.lst_inv;obtain⟨v,o,n⟩:=f.rep (f.Et d.1) j.toNat;have s:=d.2.2.1;have r:=d.2.2.2;unfold Iv at s r;refine⟨a,j,h,rfl,r2.int_inv,l,by lia,by lia,by rw[f.len.1];exact d.2.1,λq g=>?_⟩;refine k _ _ (q :: v.flatten) (cY g) (.lst ay (o.same (cY g))) ?_;rw[n];exact⟨by simp,λb hb=>by rw[Zg.mp hb];exact same.free g⟩
  ·cases e
 ·cases e
end
end VS
end
section
namespace L2
open PySem PySem.Spec PyProof.Rows
section
def sZ{α:Type}(l:List α)(n:Nat):∀acc:List α,List.foldl (λx1 x2=>x1++x2) acc.toArray (List.replicate n l.toArray)=(acc++(List.replicate n l).flatten).toArray:=by
 induction n with
 |zero=>intro acc;simp
 |succ n a =>
  intro acc;rw[Z7,Xp];have e:acc.toArray++l.toArray=(acc++l).toArray:=by simp
  rw[e,a (acc++l),Z7,ZZ,ZA]
def jz:OpR X (binaryOp .Mult) (λx y H Q=>∃(l:Wf)(k:Int),x=.str ⟨l.toArray⟩/\y=.int k/\-(2 ^ 62)<=k/\k<2 ^ 62/\l.length*k.toNat<=FS/\Q (.str ⟨(List.replicate k.toNat l).flatten.toArray⟩) H):=by
 intro f s R H x y v u Q I i g h;obtain⟨l,k,rfl,rfl,p,o,b,q⟩:=h;obtain⟨t,rfl⟩:=i;obtain⟨n,rfl⟩:=g;have hlen:(⟨l.toArray⟩:Str).length=l.length:=rfl;refine PySem.P.mul_str ?_ ?_ ?_ ?_
 ·rw[Bool.or_eq_false_iff];exact⟨Zb (by lia),Zb (by lia)⟩
 ·intro d _ j;rw[hlen]at j;have:(l.length:Int)*k<=16777216:=by
   have r:l.length*k.toNat<=16777216:=b;have:((l.length*k.toNat:Nat):Int)<=16777216:=by lia
   rw[Int.natCast_mul]at this
   rwa [X7 (by lia)]at this
  have m:(l.length:Int)*k<=2 ^ 63-1:=by lia
  have:=(Int.le_ediv_iff_mul_le (by lia)).mpr m;lia
 ·intro _ _;rw[hlen];exact Zb (by exact Nat.not_lt.mpr b)
 ·by_cases d:k<1
  ·rw[Zr d];have e:k.toNat=0:=by lia
   rw[e]at q;exact⟨by decide,⟨.str ⟨#[]⟩,H,I.tok _,⟨_,rfl⟩,q⟩⟩
  ·rw[Zp d];split
   ·rename_i a;have e:(List.replicate k.toNat l).flatten=l:=by
     rw[Bool.or_eq_true]at a;rcases a with a | a
     ·have:k=1:=by simpa using a
      subst this;simp
     ·have:l=[]:=by
       rw[hlen]at a;exact List.eq_nil_of_length_eq_zero (by simpa using a)
      subst this;simp
    rw[e]at q;exact⟨.str ⟨l.toArray⟩,H,I,⟨t,rfl⟩,q⟩
   ·have e:=sZ l k.toNat [];rw[Y6]at e;rw[show (⟨l.toArray⟩:Str).cps=l.toArray from rfl,e];refine⟨?_,⟨.str ⟨(List.replicate k.toNat l).flatten.toArray⟩,H,I.tok _,⟨s.toks,rfl⟩,q⟩⟩;show (⟨(List.replicate k.toNat l).flatten.toArray⟩:Str).length<=FS;show ((List.replicate k.toNat l).flatten.toArray).size<=FS;rw[ZW,(len_rep l k.toNat),Nat.mul_comm];exact b
end
end L2
namespace VS
open PySem PySem.Spec PyProof.Rows L2
section
def jV:eT G (λx y H Q=>∃(l:Wf)(k:Int),x=.str ⟨l.toArray⟩/\y=.int k/\-(2 ^ 62)<=k/\k<2 ^ 62/\l.length*k.toNat<=FS/\Q (.str ⟨(List.replicate k.toNat l).flatten.toArray⟩) H) g5:=by
 intro J U z H x y u w B A m t Q g e k;obtain⟨m1,x⟩:=x;obtain⟨s,y⟩:=y;obtain⟨same,r1,r2,f1,f2,nd⟩:=g;unfold g5 at e;split at e
 ·rename_i _ h _ j e1 e2;refine L2.ak λv i=>?_;cases e1;cases e2;refine i ?_;split at e
  ·rename_i d;cases e;have q:=d.2.1;have o:=d.2.2;unfold Iv at q o;refine⟨h,j,r1.str_inv.1,r2.int_inv,by lia,by lia,d.1,bw k (.str _ ⟨?_,λc r=>?_⟩)⟩
   ·rw[len_rep,Nat.mul_comm];exact d.1
   ·obtain⟨x,n,f⟩:=List.mem_flatten.mp r;rw[(Xh.mp n).2]at f;exact r1.str_inv.2.2 c f
  ·cases e
 ·cases e
def wZ:PV G X (.Dict [] [] pos) (pq 0 []):=PE.weak vD λR H Q d=>by
 obtain⟨J,U,m,t,s,e,k⟩:=d;cases (e);intro q d;have:Rp G (upd H q (.dK [])) (.ref q) (.dct 0 ((([]).map aZ).zip [])) (q :: ([]).flatten):=.dct ay L .nil;exact k _ _ [q] (cY d) this ⟨by simp,λb hb=>by rw[Zg.mp hb];exact d⟩
end
section
def iJ{X:Cx}(hp:PassesOwn (FM X.prog X.w) X.A X.env X.xe)(hc:HF G X c cc)(hb:gg G X h C):PSV G X (.While c h [] pos) (ke cc C) :=
 PS.weak (vP hp hc hb) λD R H hq=>by
  obtain⟨J,U,o,s,e,k⟩:=hq;refine⟨λn E F=>∃y r,SR G y r E F/\Eu J U H y r F/\d3 cc C n r=Y o,⟨um,J,U,s,Eu.refl J U H,e⟩,?_⟩;rintro n E F ⟨y,r,Q,f2,e2⟩;cases n with
  |zero=>cases (e2)
  |succ n =>
   rw[d3]at e2;obtain⟨⟨mx,x⟩,ex,e3⟩:=Zz.mp e2;obtain⟨t,et,B⟩:=Zz.mp e3;refine⟨y,r,mx,x,t,Q,ex,et,λH3 N=>?_⟩;have P:=Q.same N;have m:=f2.trans (Eu.same N);cases t with
   |false =>
    rw[Zp Zh]at B;cases B;show if O=Z then _ else _
    rw[Zp Zh];exact k y E H3 P m
   |true =>
    rw[Zr L]at B;show if Z=Z then _ else _
    rw[Zr L];obtain⟨S,e5,z⟩:=Zz.mp B;refine⟨λi g=>∃d f,SR G d f i g/\Eu J U H d f g/\d3 cc C n f=Y o,λi g q=>⟨n,Yt n,q⟩,y,r,S,P,e5,?_⟩;cases S with
    |nx f=>exact λd i g j l=>⟨d,f,j,m.trans l,z⟩
    |ct f=>exact λd i g j l=>⟨d,f,j,m.trans l,z⟩
    |bk f =>
     cases (z);exact λd i g j l=>k d i g j (m.trans l)
    |rt v f =>
     cases (z);exact λu g F4 d i j l r5 q5=>k u g F4 d i j (m.trans l) r5 (q5.back m)
noncomputable def Oh:Sx:=λ_=>M
def uD:PSV G X f Oh:=λd s R H D I ⟨_,_,_,_,e,_⟩=>nomatch (e)
def dP(r:Rp G H v (.dct 0 l) F):∃(a:GM)(f:List Key)(d:List V)(g:W3)(h:Xd),v=.ref a/\F=a :: h.flatten/\H a=Y (.dK (f.zip d))/\f.length=d.length/\l=(f.map aZ).zip g/\RpL G H d g h:=r.inv
def dC(r:Rp G H v t F)(h:iu t=Z):∃k:Key,v=kV k/\t=aZ k:=by
 cases t with
 |int i=>exact⟨.inl i,r.int_inv,rfl⟩
 |str s=>exact⟨.inr (sx s),r.str_inv.1,by simp[aZ,sx]⟩
 |_=>cases h
theorem jN{k:Key}:∀{d:List Key}{f:List V}{ts:W3}{m:Xd},d.length=f.length->RpL G H f ts m →
  (eV ((d.map aZ).zip ts) (aZ k)=M/\fO (d.zip f) k=M)\/∃(i:Nat)(v:V)(t:T)(F:Wi),eV ((d.map aZ).zip ts) (aZ k)=Y t/\fO (d.zip f) k=Y v/\f[i]?=Y v/\m[i]?=Y F/\Rp G H v t F
 |[],[],_,_,_,.nil=>.inl ⟨rfl,rfl⟩
 |k' :: d,v :: f,_,_,s,.cons (t:=t) (F:=F) (ts:=ts) r q=>by
  have e:eqT (aZ k') (aZ k)=decide (k'=k):=by
   rw[XD,decide_eq_true_eq];cases k with
   |inl i=>cases k'<;>simp[aZ]
   |inr x =>
    obtain⟨⟨x⟩⟩:=x;cases k' with
    |inl j=>simp[aZ]
    |inr y=>obtain⟨⟨y⟩⟩:=y;simp[aZ]
  by_cases g:k'=k
  ·refine .inr ⟨0,v,t,F,?_,hU g,rfl,rfl,r⟩;have l:eqT (aZ k') (aZ k)=Z:=by rw[e];exact decide_eq_true g
   simp only[eV,Zm,ZX,Yu,l];rfl
  ·have w:eV (((k' :: d).map aZ).zip (t :: ts)) (aZ k)=eV ((d.map aZ).zip ts) (aZ k):=by
    have l:eqT (aZ k') (aZ k)=O:=by rw[e];exact Zb g
    simp only[eV,Zm,ZX,Yu,l]
   have u:fO ((k' :: d).zip (v :: f)) k=fO (d.zip f) k:=by simp[fO,g]
   rw[w,u];rcases jN (k:=k) (by simpa using s) q with h | ⟨i,n,o,E,D,C,B,A,z⟩
   ·exact .inl h
   ·exact .inr ⟨i+1,n,o,E,D,C,by simpa using B,by simpa using A,z⟩
def oE{X:Cx}(m:X.A.units+1<cLine):II X (λx y H Q=>∃a v,x=.ref a/\gD H a y (Y v)/\Q v H):=by
 intro value slice d s R H x y v u Q I l j h n;obtain⟨a,w,rfl,g,q⟩:=h;cases l;have f:=p8 I g;refine Zq ?_;rw[getitemInPython_of_ne f.not_modules];refine Zq (wpAny_specialOf f PySem.F.slot_dict_getitem.lookup ?_);have fin:KB (FM X.prog X.w) X.A (subscripted slice O (.ref a) u) (λr i=>KB (FM X.prog X.w) X.A (letTemporaryGo value (.ref a) r >>= λ_=>pure r) (EP X d R Q) X.xe i) X.xe s:=by
  rw[n];exact wpAny_operating (ud m I g j λz B t o=>Zq (wpAny_letTemporaryGo (Za ⟨w,H,t,o,q⟩)))
 first
  |exact Za (Zq fin)
  |exact Zq (Za (Zq fin))
  |exact Zq fin
def Cz(K:Wv):Fo:=λx y H Q=>Oj K x y H Q\/∃a v,x=.ref a/\gD H a y (Y v)/\Q v H
def CC:eT G (Cz G.K) Hb:=by
 intro J U A H x y u w C B m t Q d e k;obtain⟨m1,x⟩:=x;by_cases hd:∃l,x=.dct 0 l
 ·obtain⟨l,rfl⟩:=hd;simp only[Hb]at e;split at e
  ·rename_i h;obtain⟨N,e1,e2⟩:=Zx.mp e;obtain⟨a,P,D,E,Fs,rfl,rfl,j,g,rfl,q⟩:=dP d.r1;obtain⟨R,rfl,o⟩:=dC d.r2 h;rw[o]at e1;rcases jN g q with⟨n,_⟩ | ⟨i,v,L,F,z,s,a3,r,f⟩
   ·rw[n]at e1;cases e1
   ·rw[z]at e1;cases e1;cases e2;refine .inr ⟨a,v,rfl,by rw[← s];exact gD.k j,?_⟩;exact k v H F (aM.refl _) f (((d.f1.sub (Yw _ _)).sub (dn r)).up f)
  ·cases e
 ·exact .inl (uS J U A H (m1,x) y u w C B m t Q d (by
   simp only[Hb]at e;split at e
   ·rename_i l S;exact absurd ⟨_,rfl⟩ hd
   ·exact e) k)
def v7{X:Cx}(f:gV k X.A)(i:PV G X a ca)(g:PV G X b cb)(d:jw b:=by intro _ _;rfl)(j:{`q2,X.K=G.K}):PV G X (.Subscript a b pos) (e2 Hb ca cb) :=
 PE.weak (rC (II.or nV (oE (iQ f))) i g d) λR H Q h=>by rw[j];exact j6 CC h
def fV:T->V
 |.bl b=>.bl b
 |.int i=>.int i
 |.str s=>.str (sx s)
 |_=>.non
def zT(r:Rp G H v t F)(h:flat t=Z):v=fV t/\fY v=Z:=by
 cases r with
 |non=>exact⟨rfl,rfl⟩
 |bl b=>exact⟨rfl,rfl⟩
 |int i=>exact⟨rfl,rfl⟩
 |str s d=>exact⟨rfl,rfl⟩
 |_=>cases h
theorem DB:∀{t u:T},flat t=Z->flat u=Z->JI (fV t) (fV u)=eqT t u
 |.non,.non,_,_=>rfl
 |.non,.bl _,_,_=>rfl
 |.non,.int _,_,_=>rfl
 |.non,.str _,_,_=>rfl
 |.bl _,.non,_,_=>rfl
 |.bl _,.bl _,_,_=>rfl
 |.bl _,.int _,_,_=>rfl
 |.bl _,.str _,_,_=>rfl
 |.int _,.non,_,_=>rfl
 |.int _,.bl _,_,_=>rfl
 |.int _,.int _,_,_=>rfl
 |.int _,.str _,_,_=>rfl
 |.str _,.non,_,_=>rfl
 |.str _,.bl _,_,_=>rfl
 |.str _,.int _,_,_=>rfl
 |.str _,.str _,_,_=>vg
def vI(r:Rp G H v t F)(g:Rp G H w u h)(f:flat t=Z)(d:flat u=Z):JI v w=eqT t u/\fY v=Z/\fY w=Z:=by
 obtain⟨e1,f1⟩:=zT r f;obtain⟨e2,f2⟩:=zT g d;refine⟨?_,f1,f2⟩;rw[e1,e2];exact DB f d
theorem nW(r:Rp G H x t F)(g:flat t=Z):∀{d:List V}{f:W3}{m:Xd},RpL G H d f m->f.all flat=Z->d.all fY=Z/\MF x d=f.any λy=>eqT y t
 |_,_,_,.nil,_=>⟨rfl,rfl⟩
 |_,_,_,.cons j q,h=>by
  rw[XY,Z2]at h;obtain⟨l,i⟩:=nW r g q h.2;obtain⟨e1,e2,n⟩:=vI j r h.1 g;refine⟨by rw[XY,e2,l];rfl,?_⟩;unfold MF at i ⊢;rw[YY,YY,i,e1]
def D7(K:Wv):Fo:=λx y H Q=>Nv K O x y H Q\/∃a o,y=.ref a/\gD H a x o/\Q (.bl o.isSome) H
def zm(K:Wv):Fo:=λx y H Q=>Nv K Z x y H Q\/∃a o,y=.ref a/\gD H a x o/\Q (.bl (!o.isSome)) H
def zy{X:Cx}(j:X.A.units+1<cLine):OpR X (P3 .In) (λx y H Q=>∃a o,y=.ref a/\gD H a x o/\Q (.bl o.isSome) H):=by
 intro d s R H x y v u Q I i f h;obtain⟨a,o,rfl,g,q⟩:=h;cases f;exact DO j I g i λm l=>⟨.bl o.isSome,H,l,rfl,q⟩
def v8{X:Cx}(j:X.A.units+1<cLine):OpR X (P3 .NotIn) (λx y H Q=>∃a o,y=.ref a/\gD H a x o/\Q (.bl (!o.isSome)) H):=by
 intro d s R H x y v u Q I i f h;obtain⟨a,o,rfl,g,q⟩:=h;cases f;exact yG j I g i λm l=>⟨.bl (!o.isSome),H,l,rfl,q⟩
def qo{L:Hp}(f:Ng G J U L H x y u w P N)(e:lG x y=Y (m,t)) :
  ∃b,m=.fr/\t=.bl b/\((∃p n,w=.ref p/\(EW G.K H p n\/FX G.K H p n)/\fY u=Z/\n.all fY=Z/\MF u n=b)\/∃a o,w=.ref a/\gD H a u o/\o.isSome=b):=by
 obtain⟨S,y⟩:=y;simp only[lG]at e;split at e
 ·split at e
  ·rename_i d;cases e;obtain⟨a,z,g,Q,s,rfl,rfl,h,B,rfl,q⟩:=dP f.r2;obtain⟨A,rfl,C⟩:=dC f.r1 d;refine⟨_,rfl,rfl,.inr ⟨a,fO (z.zip g) A,rfl,gD.k h,?_⟩⟩;rw[C];rcases jN B q with⟨l,j⟩ | ⟨i,v,R,F,E,D,_⟩
   ·rw[l,j];rfl
   ·rw[E,D];rfl
  ·cases e
 ·split at e
  ·rename_i d;cases e;rw[Z2]at d;obtain⟨a,g,s,rfl,rfl,h,r⟩:=f.r2.lst_inv;obtain⟨l,j⟩:=nW f.r1 d.1 r d.2;exact⟨_,rfl,rfl,.inl ⟨a,g,rfl,.inl (EW.of h),((vI f.r1 f.r1 d.1 d.1).2.1),l,j⟩⟩
  ·cases e
 ·split at e
  ·rename_i d;cases e;rw[Z2]at d;obtain⟨a,g,s,rfl,rfl,h,r⟩:=f.r2.Gk;obtain⟨l,j⟩:=nW f.r1 d.1 r d.2;exact⟨_,rfl,rfl,.inl ⟨a,g,rfl,.inr (FX.of h),((vI f.r1 f.r1 d.1 d.1).2.1),l,j⟩⟩
  ·cases e
 ·cases e
def C6:eT G (D7 G.K) lG:=by
 intro J U j H x y u w n l m t Q f e k;obtain⟨b,rfl,rfl,h⟩:=qo f e;rcases h with⟨p,d,rfl,i,f1,f2,hb⟩ | ⟨a,o,rfl,g,hb⟩
 ·refine .inl ⟨p,d,rfl,i,f1,f2,?_⟩;rw[hb];exact bw k (.bl b)
 ·refine .inr ⟨a,o,rfl,g,?_⟩;rw[hb];exact bw k (.bl b)
def An:eT G (zm G.K) du:=by
 intro J U r H x y u w v s m t Q i e k;unfold du at e;split at e
 ·rename_i q d l;cases e;obtain⟨b,rfl,n,h⟩:=qo i l;cases n;rcases h with⟨p,f,rfl,j,f1,f2,hb⟩ | ⟨a,o,rfl,g,hb⟩
  ·refine .inl ⟨p,f,rfl,j,f1,f2,?_⟩;rw[hb];exact bw k (.bl (!d))
  ·refine .inr ⟨a,o,rfl,g,?_⟩;rw[hb];exact bw k (.bl (!d))
 ·cases e
def xF:Tells lG:=by
 intro x y m t e;simp only[lG]at e;split at e
 all_goals first | (split at e<;>first | (cases e;exact⟨_,rfl⟩) | cases e) | cases e
def sU:Tells du:=by
 intro x y m t e;unfold du at e;split at e
 ·cases e;exact⟨_,rfl⟩
 ·cases e
def CM{X:Cx}(d:gV k X.A)(h:PV G X a ca)(g:PV G X b cb)(f:{`q4,behindInMarks .In b=O})(i:{`q2,X.K=G.K}):HF G X (.Compare a [.In] [b] pos) (e2 lG ca cb):=dN (t4.or (zy (iQ d))) (i ▸ C6) xF h g f
def uC{X:Cx}(d:gV k X.A)(h:PV G X a ca)(g:PV G X b cb)(f:{`q4,behindInMarks .NotIn b=O})(i:{`q2,X.K=G.K}):HF G X (.Compare a [.NotIn] [b] pos) (e2 du ca cb):=dN (n6.or (v8 (iQ d))) (i ▸ An) sU h g f
end
end VS
end
section
open PySem PyProof.Rows
namespace TS
def mU{a:Array KF}(e:a.Perm (pairsOf d)):(a.map (·.2)).toList.Perm d/\(a.map (·.2)).toList.map (λv=>(v,v))=a.toList:=by
 have b:=Array.perm_iff_toList_perm.mp e;rw[pairsOf_toList]at b;constructor
 ·rw[Array.toList_map];refine(b.map _).trans ?_;rw[show (λx:KF=>x.2)=Prod.snd from rfl,List.map_snd_zip (Zj _)]
 ·rw[Array.toList_map,Yp]
  conv=>rhs;rw[← List.map_id a.toList]
  apply Y5;intro p f;have:=mem_zip_self (b.mem_iff.mp f);exact Prod.ext this.1.symm L
end TS
end
section
namespace L2
open PySem PySem.Spec PyProof.Rows TS
section
theorem oS:∀{a:Wh},(∀v∈a,∃x t,v=Value.str x t)->aI ((a.map strOf).map V.str) a
 |[],_=>.nil
 |u :: a,h=>by
  obtain⟨x,t,rfl⟩:=h u (Zu ..);exact .cons ⟨t,rfl⟩ (oS λv b=>h v (Zt _ b))
end
end L2
end
section
namespace VS
mutual
theorem hV:∀(n:Nat)(t:T),Ff n t=Z->eqT t t=Z
 |n,.non,_=>by simp
 |n,.bl _,_=>by simp
 |n,.int _,_=>by simp
 |n,.str _,_=>by simp
 |n+1,.tup l,h=>by
  exact jZ n l (ZE.mp h)
 |n+1,.lst l,h=>by
  exact jZ n l (ZE.mp h)
 |0,.tup _,h=>nomatch h
 |0,.lst _,h=>nomatch h
 |0,.scr _,h=>nomatch h
 |_+1,.scr _,h=>nomatch h
 |0,.dct _ _,h=>nomatch h
 |_+1,.dct _ _,h=>nomatch h
 |0,.obj _ _,h=>nomatch h
 |_+1,.obj _ _,h=>nomatch h
theorem jZ:∀(n:Nat)(l:W3),(∀t∈l,Ff n t=Z)->sW l l=Z
 |_,[],_=>rfl
 |n,t :: r,h=>by
  exact Zf.mpr ⟨hV n t (h t Zu),jZ n r λu a=>h u (Zt _ a)⟩
end
def js{tg:Tg}{it:Hh}{body:Sx}{U:Env}{m:Md}{l:W3}(e:it U=Y (m,l))(h:Ot m=Z):kL tg it body U=forL tg body l U:=by
 unfold kL;rw[e];exact Zr h
def cf{b:Ew}{t:T}(h:b U=Y a)(d:g (trees a)=Y (.fr,t)):bq g b U=Y (.fr,t):=by
 simp only[bq,h,Zy,d]
def aL{i:Nat}{e:Ex}{U:Env}{m:Md}{t:T}(h:e U=Y (m,t))(a:m ≠ .bo)(b:i<U.length):aG i e U=Y (.nx (U.set i (Y (.pu t)))):=by
 simp only[aG,h,Zy];cases m with
 |bo=>exact absurd L a
 |_=>simp[b]
def wF:bE (m,.lst s) (n,.lst t)=Hk (m.join n) (s++t):=rfl
end VS
end
section
namespace VS
open PySem PySem.Spec PyProof.Rows L2
def DH{a b c:Tx}(h:a<b)(d:¬c<b):a<c:=by
 by_cases e:a<c
 ·exact e
 ·exact absurd (List.lt_of_le_of_lt (List.not_lt.mp e) h) d
theorem ja(x:Tx):∀l:List Tx,(mV x l).Perm (x :: l)
 |[]=>List.Perm.refl _
 |y :: r=>by
  unfold mV;split
  ·exact((ja x r).cons y).trans (List.Perm.swap _ _ _)
  ·exact List.Perm.refl _
theorem il:∀l:List Tx,(eX l).Perm l
 |[]=>List.Perm.refl _
 |x :: l=>(ja x _).trans ((il l).cons x)
theorem pL(x:Tx):∀{l:List Tx},l.Pairwise (λa b=>¬b<a)->(mV x l).Pairwise (λa b=>¬b<a)
 |[],_=>List.pairwise_singleton _ _
 |y :: r,h=>by
  unfold mV;rw[k9];obtain⟨e,g⟩:=Wy.mp h;split
  ·rename_i c;refine Wy.mpr ⟨λz d=>?_,pL x g⟩;rcases Zi.mp ((ja x r).mem_iff.mp d) with rfl | d
   ·exact λz=>List.lt_irrefl _ (List.lt_trans (by simpa using c) z)
   ·exact e z d
  ·rename_i c;have f:¬y<x:=by simpa using c
   refine Wy.mpr ⟨λz d=>?_,h⟩;rcases Zi.mp d with rfl | d
   ·exact f
   ·exact λw=>e z d (DH w f)
theorem nh:∀l:List Tx,(eX l).Pairwise (λa b=>¬b<a)
 |[]=>List.Pairwise.nil
 |x :: l=>pL x (nh l)
def nk{d:List Tx}(h:d.Perm l)(e:d.Pairwise (λa b=>¬b<a)):d=eX l :=
 List.Perm.eq_of_pairwise (λa b _ _ g f=>List.le_antisymm (List.not_lt.mp g) (List.not_lt.mp f)) e (nh l) (h.trans (il l).symm)
def wL(s:Tx):(sx s).cps.toList=s:=rfl
def vW{f:List Tx}{d:List Str}(h:d.Perm (f.map sx))(i:d.Pairwise (λa b=>¬b.cps.toList<a.cps.toList)):d=(eX f).map sx:=by
 have e:d=(d.map λx=>x.cps.toList).map sx:=by
  rw[Yp]
  conv=>lhs;rw[← List.map_id d]
  apply Y5;intro x g;obtain⟨s,_,rfl⟩:=Ym.mp (h.mem_iff.mp g);show sx s=sx (sx s).cps.toList;rw[wL]
 have e2:(d.map λx=>x.cps.toList)=eX f:=by
  refine nk ?_ ?_
  ·have:=h.map λx:Str=>x.cps.toList;rw[Yp]at this;have j:((λx:Str=>x.cps.toList) ∘ sx)=id:=by
    funext s;exact wL s
   rw[j,List.map_id]at this;exact this
  ·rw[Ws];exact i
 rw[e,e2]
def Ob(s:Tx):Bool:=decide (s.length<=dH)&&s.all (λc=>decide (c<1114112))
def Bd(h:Ob s=Z):my s:=by
 unfold Ob at h;simp at h;exact h
section
theorem qQ{H:Hp}:∀{ss:List Tx},(∀s∈ss,my s)->RpL G H (ss.map λs=>V.str (sx s)) (ss.map T.str) (ss.map λ_=>[])
 |[],_=>.nil
 |s :: ss,h=>.cons (.str s (h s (Zu ..))) (qQ λx a=>h x (Zt _ a))
theorem pF{α β:Type}:∀(l:List α),(l.map λ_=>([]:List β)).flatten=[]
 |[]=>rfl
 |_ :: l=>by simp
def vH{G:Gx}{J:Eo}{U:VS.Env}{i H:Hp}{d:List Tx}{Q:VK}(k:∀v g F,aM H g->Rp G g v (.lst ((eX d).map T.str)) F->Fp J U i .fr F->Q v g)(m:aM i H)(j:∀s∈d,my s) :
  ∀(l:GM)(f:List Str),H l=M->f.Perm (d.map sx)->f.Pairwise (λa b=>¬b.cps.toList<a.cps.toList)->Q (.ref l) (upd H l (.lst (f.map V.str))):=λq f h o hw=>by
 rw[vW o hw];have r:Rp G (upd H q (.lst (((eX d).map sx).map V.str))) (.ref q) (.lst ((eX d).map T.str)) (q :: ((eX d).map λ_=>[]).flatten):=.lst (by rw[ay,Yp];rfl) (qQ (G:=G) (H:=upd H q (.lst (((eX d).map sx).map V.str))) λs n=>j s ((il d).mem_iff.mp n));rw[pF]at r;exact k _ _ _ (cY h) r (Fp.new (m.free h) (by simp) Fp.nil)
theorem keys_str:∀{a:List Key}{b:List Tx},strs? (a.map aZ)=Y b->a=(b.map sx).map Sum.inr
 |[],_,e=>by cases e;rfl
 |.inl i :: a,_,e=>by cases e
 |.inr x :: a,b,e=>by
  obtain⟨d,e1,e2⟩:=Zx.mp (e);subst e2;rw[keys_str e1];simp[sx]
def uf:bootBuiltins ("sorted" : Str)=Y (.builtin "sorted"):=by decide +kernel
end
end VS
end
section
namespace VS
open PySem PySem.Spec PyProof.Rows L2
inductive Gu(G:Gx)(H:Hp):List Ky->V->V->Prop
 |nil (v:V):Gu G H [] v v
 |fld {c k:Nat} {a dx:GM} {fs:List (Str×V)} {u w:V} {ks:List Ky}:H a=some (.ins (G.ct (c+1)).1 dx fs)->fs.lookup ((G.ct (c+1)).2 k)=some u->Gu G H ks u w->Gu G H (.fld k :: ks) (.ref a) w
 |ix {a:GM} {vs:List V} {i:Int} {j:Nat} {u w:V} {ks:List Ky}:H a=some (.lst vs)->Gc vs.length i=some j->vs[j]?=some u->Gu G H ks u w->Gu G H (.at (.int i) :: ks) (.ref a) w
 |key {a:GM} {cv:List (Key×V)} {k:Key} {u w:V} {ks:List Ky}:H a=some (.dK cv)->fO cv k=some u->Gu G H ks u w->Gu G H (.at (aZ k) :: ks) (.ref a) w
 |un {v w:V} {ks:List Ky}:Gu G H ks v w->Gu G H (.un :: ks) v w
section
def sg{f:Xd}{i j:Nat}{F h:Wi}(d:f.flatten.Nodup)(b:f[i]?=Y F)(e:f[j]?=Y h)(n:i≠j){a:GM}(g:a∈F):a∉h:=by
 intro hb
 induction f generalizing i j with
 |nil=>simp at b
 |cons G m l =>
  rw[ZZ,ZO]at d;cases i with
  |zero =>
   simp at b;subst b;cases j with
   |zero=>exact n L
   |succ j=>exact d.2.2 a g a (cG (by simpa using e) hb) L
  |succ i =>
   cases j with
   |zero =>
    simp at e;subst e;exact d.2.2 a hb a (cG (by simpa using b) g) L
   |succ j=>exact l d.2.1 (by simpa using b) (by simpa using e) (by lia)
def bU{d:Xd}(h:a∈(d.set j g).flatten):a∈g\/∃i F,i≠j/\d[i]?=Y F/\a∈F:=by
 obtain⟨i,F,b,f⟩:=fM h;by_cases e:i=j
 ·subst e;rw[List.getElem?_set_self' ]at b;cases q:d[i]? with
  |none=>rw[q]at b;cases b
  |some _=>rw[q]at b;cases b;exact .inl f
 ·rw[Yo (Yb e)]at b;exact .inr ⟨i,F,e,b,f⟩
theorem cX:∀{p:Xd}{j:Nat}{f:Wi},p.flatten.Nodup->f.Nodup->(∀i F,i≠j->p[i]?=Y F->∀a∈F,a∉f)->(p.set j f).flatten.Nodup
 |[],_,_,h,_,_=>by simpa using h
 |G :: r,0,f,h,o,d=>by
  rw[ZZ,ZO]at h;rw[List.set_cons_zero,ZZ,ZO];refine⟨o,h.2.1,λa g b hb e=>?_⟩;subst e;obtain⟨i,F,m,l⟩:=fM hb;exact d (i+1) F (by lia) (by simpa using m) a l g
 |G :: r,j+1,f,h,o,d=>by
  rw[ZZ,ZO]at h;rw[List.set_cons_succ,ZZ,ZO];refine⟨h.1,cX h.2.1 o λi F n q=>d (i+1) F (by lia) (by simpa using q),λa g b hb e=>?_⟩;subst e;rcases bU hb with z | ⟨i,F,n,m,l⟩
  ·exact d 0 G (by lia) L a g z
  ·exact h.2.2 a g a (cG m l) L
def RpL.each:∀{f:List V}{e:W3}{g:Xd},RpL G H f e g->(∀(i:Nat) v t F,f[i]?=Y v->e[i]?=Y t->g[i]?=Y F->Rp G H v t F->Rp G h v t F)->RpL G h f e g:=by
 intro f e
 induction e generalizing f with
 |nil=>intro g r k;cases r;exact .nil
 |cons t e j =>
  intro g r k;cases r with
  |cons r q=>exact .cons (k 0 _ _ _ L L L r) (j q λi v t F a b c d=>k (i+1) v t F a b c d)
theorem RpL.setAt:∀{e:List V}{f:W3}{m:Xd}{j:Nat}{u:V}{o:T}{p:Wi},RpL G H e f m->e[j]?=Y u->Rp G l u o p->(∀(i:Nat) v t F,i≠j->e[i]?=Y v->f[i]?=Y t->m[i]?=Y F->Rp G H v t F->Rp G l v t F)->RpL G l e (f.set j o) (m.set j p)
 |_,_,_,_,_,_,_,.nil,h,_,_=>by simp at h
 |_,_,_,0,_,_,_,.cons r q,h,g,k=>by
  simp at h;subst h;exact .cons g (RpL.each q λi v t F a b c d=>k (i+1) v t F (by lia) (by simpa using a) (by simpa using b) (by simpa using c) d)
 |_,_,_,j+1,_,_,_,.cons r q,h,g,k=>.cons (k 0 _ _ _ (by lia) L L L r) (RpL.setAt q (by simpa using h) g λi v t F n a b c d=>k (i+1) v t F (by lia) (by simpa using a) (by simpa using b) (by simpa using c) d)
def oH(J:H a=Y o)(D:RpL G H s C d)(e:(a :: d.flatten).Nodup)(L:s[j]?=Y u)(y:d[j]?=Y A)(g:Chg G H u A B q m):q a=Y o/\RpL G q s (C.set j B) (d.set j m)/\(a :: (d.set j m).flatten).Nodup/\(∀b∈a :: (d.set j m).flatten,b∈a :: d.flatten\/H b=M)/\∀b o,b∉a :: d.flatten->H b=Y o->q b=Y o:=by
 rw[Ze]at e;have p:∀b∈A,b∈d.flatten:=λb hb=>cG y hb;refine⟨g.keep a o (λz=>e.1 (p a z)) J,D.setAt L g.rp (λi v t F n l f N r=>r.keep g.kept λb hb w x=>g.keep b w (sg e.2 N y n hb) x),?_,λb hb=>?_,λb w hb x=>g.keep b w (λz=>hb (Zt _ (p b z))) x⟩
 ·rw[Ze];refine⟨λh=>?_,cX e.2 g.nd (λi F n E b hb P=>by
  rcases g.sub b P with z | z
  ·exact sg e.2 E y n hb z
  ·exact Ep.xl (D.EI b (cG E hb)) z)⟩
  rcases bU h with z | ⟨i,F,n,l,f⟩
  ·rcases g.sub a z with z | z
   ·exact e.1 (p a z)
   ·rw[J]at z;cases z
  ·exact e.1 (cG l f)
 ·rcases Zi.mp hb with rfl | hb
  ·exact .inl Zu
  ·rcases bU hb with z | ⟨i,F,n,l,f⟩
   ·rcases g.sub b z with z | z
    ·exact .inl (Zt _ (p b z))
    ·exact .inr z
   ·exact .inl (Zt _ (cG l f))
theorem nu{α β:Type}:∀(d:List α)(bs:List β)(i:Nat)(a:α)(y:β),d[i]?=Y a->(d.zip bs).set i (a,y)=d.zip (bs.set i y)
 |[],_,_,_,_,h=>by simp at h
 |a :: d,[],i,_,_,_=>by cases i<;>simp
 |a :: d,b :: bs,0,_,y,h=>by simp at h;subst h;rfl
 |a :: d,b :: bs,i+1,_,y,h=>by
  have:=nu d bs i _ y (by simpa using h);simp[this]
theorem jU{α β:Type}(p:α->Bool):∀{e:List α}{bs:List β}{i:Nat},e.length=bs.length->(e.zip bs).findIdx? (λq=>p q.1)=Y i->∃a b,e[i]?=Y a/\bs[i]?=Y b/\p a=Z/\(e.zip bs).find? (λq=>p q.1)=Y (a,b)
 |[],[],_,_,h=>by simp at h
 |a :: e,b :: bs,i,g,h=>by
  rw[ZX,Wx]at h;by_cases d:p a=Z
  ·rw[Zr d]at h;cases h;exact⟨a,b,rfl,rfl,d,by simp[d]⟩
  ·rw[Zp d]at h;refine L2.ak λu f=>?_;obtain⟨j,l,rfl⟩:=Zx.mp h;obtain⟨t,s,r,o,n,m⟩:=jU p (by simpa using g) l;refine f ?_;exact⟨t,s,by simpa using r,by simpa using o,n,by simp[d,m]⟩
def jA(k a:Key):eqT (aZ a) (aZ k)=Z↔a=k:=by
 cases k with
 |inl i=>cases a<;>simp[aZ]
 |inr x =>
  obtain⟨⟨x⟩⟩:=x;cases a with
  |inl j=>simp[aZ]
  |inr y=>obtain⟨⟨y⟩⟩:=y;simp[aZ]
theorem sA:∀{ns:List Key}{d:W3}{a:List V}{i:Nat},ns.length=d.length->ns.length=a.length->((ns.map aZ).zip d).findIdx? (λq=>eqT q.1 (aZ k))=Y i->a[i]?=Y u->fO (ns.zip a) k=Y u
 |[],_,_,_,_,_,h,_=>by simp at h
 |n :: ns,t :: d,v :: a,i,m,l,h,e=>by
  rw[Zm,ZX,Wx]at h;by_cases b:eqT (aZ n) (aZ k)=Z
  ·rw[Zr b]at h;cases h;simp at e;subst e;exact hU ((jA k n).mp b)
  ·rw[Zp b]at h;obtain⟨j,g,rfl⟩:=Zx.mp h;have f:n≠k:=λz=>b ((jA k n).mpr z);have:fO ((n :: ns).zip (v :: a)) k=fO (ns.zip a) k:=by simp[fO,f]
   rw[this];exact sA (by simpa using m) (by simpa using l) g (by simpa using e)
 |_ :: _,[],_,_,h,_,_,_=>by simp at h
 |_ :: _,_ :: _,[],_,_,h,_,_=>by simp at h
def cH(r:Rp G H v (.obj (c+1) (h :: i)) F):∃(f:Nat)(a l:GM)(b:Bool)(e:Wf)(d:List V)(g:W3)(j:Xd),c+1=f+1/\v=.ref a/\h=(0,.bl b)/\i=e.zip g/\F=a :: j.flatten ∧
  H a=Y (.ins (G.ct (f+1)).1 l ((e.map (G.ct (f+1)).2).zip d))/\e.length=d.length/\(b=Z->G.me 0=Y (.ref a))/\RpL G H d g j:=r.inv
def AC(r:Rp G H v (.obj 0 [(0,.bl Z),(m,t)]) F):∃a,v=.ref a/\G.me m=Y (.ref a)/\Rp G H (.ref a) t F:=r.inv _ _ L
def qg{G:Gx}{c a:Nat}(h:∀c k m:Nat,(G.ct c).2 k=(G.ct c).2 m->k=m){e:Wf}{d:List V}{f:W3}{u:V}{i:Nat}(n:e.length=d.length)(b:(e.zip f).findIdx? (λq=>q.1==a)=Y i)(o:e[i]?=Y a)(g:d[i]?=Y u):((e.map (G.ct c).2).zip d).lookup ((G.ct c).2 a)=Y u:=by
 induction e generalizing d f i with
 |nil=>simp at o
 |cons l v p =>
  cases d with
  |nil=>simp at n
  |cons t bs =>
   cases f with
   |nil=>simp at b
   |cons s f =>
    rw[Zm,ZX,Yr];rw[ZX,Wx]at b;by_cases q:(l==a)=Z
    ·rw[Zr q]at b;cases b;have:l=a:=by simpa using q
     subst this;simp at g;simp[g]
    ·rw[Zp q]at b;obtain⟨j,r,rfl⟩:=Zx.mp b;have:((G.ct c).2 a==(G.ct c).2 l)=O:=by
      rw[beq_eq_false_iff_ne];intro z;exact q (by simpa using(h c _ _ z).symm)
     rw[this];exact p (by simpa using n) r (by simpa using o) (by simpa using g)
def Cp{α:Type}{f:T->Option (T×α)}{y:α}(e:pm f (.un :: d) t=Y (a,y)):∃m x z,t=.obj 0 [(0,.bl Z),(m,x)]/\pm f d x=Y (z,y)/\a=.obj 0 [(0,.bl Z),(m,z)]:=by
 cases t with
 |obj c fs =>
  cases c with
  |succ c=>cases e
  |zero =>
   cases fs with
   |nil=>cases e
   |cons q fs =>
    obtain⟨n,v⟩:=q;cases n with
    |succ n=>cases e
    |zero =>
     cases v with
     |bl b =>
      cases b with
      |false=>cases e
      |true =>
       cases fs with
       |nil=>cases e
       |cons g fs =>
        obtain⟨m,x⟩:=g;cases fs with
        |cons _ _=>cases e
        |nil =>
         obtain⟨⟨z,h⟩,e1,e2⟩:=Zx.mp e;cases e2;exact⟨_,_,_,rfl,e1,rfl⟩
     |_=>cases e
 |_=>cases e
noncomputable abbrev PmC(G:Gx)(H:Hp){α:Type}(f:T->Option (T×α))(g:List Ky)(v:V)(e:T)(F:Wi)(y:α):Prop:=∃w x a b,Gu G H g v w/\Rp G H w x a/\a.Nodup/\f x=Y (b,y)/\∀d h,Chg G H w a b d h->∃i,Chg G H v F e d i
def lT{G:Gx}{α:Type}{f:T->Option (T×α)}:∀(ks:List Ky){v:V}{t t':T}{F:Wi}{y:α},(∀c k k':Nat,(G.ct c).2 k=(G.ct c).2 k'->k=k')->Rp G H v t F->F.Nodup->pm f ks t=Y (t',y) →
  PmC G H f ks v t' F y:=by
 intro ks
 induction ks with
 |nil=>intro v t t' F y _ r nd e;exact⟨v,t,F,t',.nil v,r,nd,e,λD o g=>⟨o,g⟩⟩
 |cons ky ks ih =>
 intro v t t' F y inj r nd e;cases ky with
 |fld k =>
  cases t with
  |obj c QT =>
   cases c with
   |zero=>cases e
   |succ c =>
   cases QT with
   |nil=>cases e
   |cons q0 fs =>
   refine L2.ak λP_ R=>?_;obtain⟨i,X,e⟩:=Zz.mp e;obtain⟨p,U,e⟩:=Zz.mp e;obtain⟨⟨z,y'⟩,e1,e2⟩:=Zx.mp e;cases e2;obtain⟨c',a,dx,b,ns,vs,ts,Fs,ec,rfl,rfl,rfl,rfl,C,S,hb,d⟩:=cH r;cases ec;obtain⟨B,x0,g1,g2,g3,g4⟩:=jU (λn=>n==k) (S.trans d.len.1) X;have ek:B=k:=by simpa using g3
   subst ek;have ep:p=(B,x0):=by
    have:(ns.zip ts)[i]?=Y (B,x0):=by rw[YU];exact⟨g1,g2⟩
    rw[this]at U;exact(Zo U).symm
   subst ep;obtain⟨u,Fi,A,q,u3⟩:=d.get i g2;obtain⟨w,x,F1,E,Q,P,N,L,J⟩:=ih inj u3 (((Ze.mp nd).2).sublist (dn q)) e1;refine R ?_;refine⟨w,x,F1,E,.fld (c:=c) C (qg inj S X g1 A) Q,P,N,L,λD o g=>?_⟩;obtain⟨RC,h⟩:=J D o g;obtain⟨s1,s2,s3,s4,s5⟩:=oH C d nd A q h;refine⟨_,h.kept,s5,h.EI,?_,s3,s4⟩;rw[nu ns ts i B z g1];exact .ins s1 S hb s2
  |_=>cases e
 |un =>
  refine L2.ak λP_ R=>?_;obtain⟨m,x,z,rfl,e1,rfl⟩:=Cp e;obtain⟨a,rfl,hm,rx⟩:=AC r;obtain⟨w,x0,F1,E,Q,P,N,L,J⟩:=ih inj rx nd e1;refine R ?_;refine⟨w,x0,F1,E,.un Q,P,N,L,λD o g=>?_⟩;obtain⟨F',g'⟩:=J D o g;exact⟨F',g'.kept,g'.keep,g'.EI,.mk hm g'.rp,g'.nd,g'.sub⟩
 | «at» k =>
  cases t with
  |lst l =>
   cases k with
   |int i =>
    refine L2.ak λP_ R=>?_;obtain⟨j,X,e⟩:=Zz.mp e;obtain⟨x0,U,e⟩:=Zz.mp e;obtain⟨⟨z,y'⟩,e1,e2⟩:=Zx.mp e;cases e2;obtain⟨a,vs,Fs,rfl,rfl,C,d⟩:=r.lst_inv;obtain⟨u,Fi,A,q,u3⟩:=d.get j U;obtain⟨w,x,F1,E,Q,P,N,L,J⟩:=ih inj u3 (((Ze.mp nd).2).sublist (dn q)) e1;refine R ?_;refine⟨w,x,F1,E,.ix C (by rw[d.len.1];exact X) A Q,P,N,L,λD o g=>?_⟩;obtain⟨RC,h⟩:=J D o g;obtain⟨s1,s2,s3,s4,s5⟩:=oH C d nd A q h;exact⟨_,h.kept,s5,h.EI,.lst s1 s2,s3,s4⟩
   |_=>cases e
  |dct kd l =>
   cases kd with
   |zero =>
    have hk:iu k=Z/\((l.findIdx? λp=>eqT p.1 k).bind λi=>(l[i]?).bind λp=>(pm f ks p.2).map λz=>(T.dct 0 (l.set i (p.1,z.1)),z.2))=Y (t',y):=by
     cases k with
     |int i=>exact⟨rfl,e⟩
     |str s=>exact⟨rfl,e⟩
     |_=>cases e
    obtain⟨hk,e⟩:=hk;obtain⟨i,X,e⟩:=Zz.mp e;obtain⟨p,U,e⟩:=Zz.mp e;obtain⟨⟨z,y'⟩,e1,e2⟩:=Zx.mp e;cases e2;obtain⟨a,ns,vs,ts,Fs,rfl,rfl,C,S,rfl,d⟩:=dP r;have KL:(ns.map aZ).length=ts.length:=by rw[Zw];exact S.trans d.len.1
    obtain⟨B,x0,g1,g2,g3,g4⟩:=jU (λn=>eqT n k) KL X;have ep:p=(B,x0):=by
     have:((ns.map aZ).zip ts)[i]?=Y (B,x0):=by rw[YU];exact⟨g1,g2⟩
     rw[this]at U;exact(Zo U).symm
    subst ep;obtain⟨kk,Jv⟩:∃kk:Key,k=aZ kk:=by
     cases k with
     |int i=>exact⟨.inl i,rfl⟩
     |str s=>exact⟨.inr (sx s),by simp[aZ,sx]⟩
     |_=>cases hk
    refine L2.ak λP_ R=>?_;subst Jv;obtain⟨u,Fi,A,q,u3⟩:=d.get i g2;obtain⟨w,x,F1,E,Q,P,N,L,J⟩:=ih inj u3 (((Ze.mp nd).2).sublist (dn q)) e1;refine R ?_;refine⟨w,x,F1,E,.key C ?_ Q,P,N,L,λD o g=>?_⟩
    ·exact sA (by simpa using KL) S X A
    ·obtain⟨RC,h⟩:=J D o g;obtain⟨s1,s2,s3,s4,s5⟩:=oH C d nd A q h;refine⟨_,h.kept,s5,h.EI,?_,s3,s4⟩;rw[nu (ns.map aZ) ts i B z g1];exact .dct s1 S s2
   |succ kd=>cases e
  |_=>cases e
end
section
def Gu.same{H:Hp}(e:aM H d)(p:Gu G H b v w):Gu G d b v w:=by
 induction p with
 |nil v=>exact .nil v
 |fld h l _ a=>exact .fld (e _ _ h) l a
 |ix h l m _ a=>exact .ix (e _ _ h) l m a
 |key h l _ a=>exact .key (e _ _ h) l a
 |un _ a=>exact .un a
theorem Gu.split:∀{d:List Ky}{v:V},Gu G H (d++[k]) v w->∃u,Gu G H d v u/\Gu G H [k] u w
 |[],v,p=>⟨v,.nil v,p⟩
 |_ :: d,_,.fld h l p=>let ⟨u,a,b⟩:=Gu.split p;⟨u,.fld h l a,b⟩
 |_ :: d,_,.ix h l m p=>let ⟨u,a,b⟩:=Gu.split p;⟨u,.ix h l m a,b⟩
 |_ :: d,_,.key h l p=>let ⟨u,a,b⟩:=Gu.split p;⟨u,.key h l a,b⟩
 |_ :: d,_,.un p=>let ⟨u,a,b⟩:=Gu.split p;⟨u,.un a,b⟩
theorem gz:∀{way:List HE}{j:List Ky},keys (way++[s]) U=Y j->∃f k,keys way U=Y f/\keys [s] U=Y [k]/\j=f++[k]
 |[],j,e=>by
  cases s with
  |fld k=>cases e;exact⟨[],.fld k,rfl,rfl,rfl⟩
  |un=>cases e;exact⟨[],.un,rfl,rfl,rfl⟩
  |ix c =>
   obtain⟨x,i,g⟩:=Zz.mp (e);cases g;exact⟨[],.at x.2,rfl,by show ((_:Option _).bind _)=_;rw[i];rfl,rfl⟩
 |.fld k :: way,j,e=>by
  refine L2.ak λo l=>?_;obtain⟨n,i,g⟩:=Zx.mp (e);obtain⟨f,m,a,b,c⟩:=gz i;refine l ?_;exact⟨.fld k :: f,m,by show ((keys _ _).map _)=_;rw[a];rfl,b,by rw[← g,c];rfl⟩
 |.un :: way,j,e=>by
  refine L2.ak λo l=>?_;obtain⟨n,i,g⟩:=Zx.mp (e);obtain⟨f,m,a,b,c⟩:=gz i;refine l ?_;exact⟨.un :: f,m,by show ((keys _ _).map _)=_;rw[a];rfl,b,by rw[← g,c];rfl⟩
 |.ix c :: way,j,e=>by
  refine L2.ak λo l=>?_;obtain⟨x,p,h⟩:=Zz.mp (e);obtain⟨n,i,g⟩:=Zx.mp h;obtain⟨f,m,a,b,d⟩:=gz i;refine l ?_;exact⟨.at x.2 :: f,m,by show ((_:Option _).bind _)=_;rw[p];rw[a];rfl,b,by rw[← g,d];rfl⟩
def Nq(G:Gx)(i:Nat)(a:List HE):TE:=λR H Q=>∃J U t b v w,SR G J U R H/\U[i]?=Y (Y (.ow t))/\R[i]?=Y (Y v)/\keys a U=Y b/\Gu G H b v w/\∀d,aM H d->Q w d
def HX(G:Gx)(X:Cx)(e:Expr)(i:Nat)(a:List HE):Prop:=PE X e (Nq G i a)
def PE.IZ(h:PE X e t)(w:∀R H Q,Nq G i a R H Q->t R H Q):HX G X e i a:=λb s R H Q I q=>h b s R H Q I (w R H Q q)
def bt{X:Cx}(i:Nat)(h:{`q7,X.N[i]?=Y x})(d:HD X.env.scope x:=by exact .inl L)(g:{`q7,K3 x})(a:{`q7,K4 x}):HX G X (.Name x pos) i [] :=
 PE.IZ (eZ h d g a) λR H Q f=>by
  obtain⟨J,U,t,o,v,w,s,p,n,m,l,j⟩:=f;cases (m);cases l;exact⟨v,n,j H (aM.refl _)⟩
structure FE(G:Gx)(K:Wv)(k:Nat)(f:Str):Prop where
 nm:∀c,(G.ct (c+1)).2 k=f
 cl:∀c,FD K (G.ct (c+1)).1
 no:∀c,aX K (G.ct (c+1)).1 f
def eU{X:Cx}(k:Nat)(F:FE G X.K k f)(h:HX G X e i way)(n:{`q7,SL e f X.env (eval e X.env)=eval e X.env}):HX G X (.Attribute e f pos) i (way++[.fld k]) :=
 PE.IZ (vU h n) λR H Q m=>by
  refine L2.ak λN l=>?_;obtain⟨J,U,t,E,v,w,s,z,y,x,r,p⟩:=m;obtain⟨B,L,a,b,rfl⟩:=gz x;cases (b);obtain⟨u,p1,j⟩:=r.split;refine l ?_;refine⟨J,U,t,B,v,u,s,z,y,a,p1,λC d=>?_⟩;cases j with
  |@fld c _ a A fs D _ _ o g q =>
   cases q;rw[F.nm c]at g;exact⟨a,_,A,fs,w,rfl,d a _ o,F.cl c,F.no c,g,p C d⟩
def zH{X:Cx}(S:gV D X.A)(h:HX G X e i way)(hb:PV G X b c)(P:jw b)(hK:X.K=G.K):HX G X (.Subscript e b pos) i (way++[.ix c]) :=
 PE.IZ (rC (II.or nV (oE (iQ S))) h hb P) λR H Q hq=>by
  refine L2.ak λP_ E=>?_;obtain⟨J,U,t,ks,v,w,s,h1,h2,h3,h4,h5⟩:=hq;obtain⟨IQ,k',a,b',rfl⟩:=gz h3;obtain⟨⟨C,x⟩,ec,e2⟩:=Zz.mp (b');cases e2;obtain⟨u,p1,B⟩:=h4.split;refine E ?_;refine⟨J,U,t,IQ,v,u,s,h1,h2,a,p1,λH1 d=>⟨J,U,C,x,s.same d,ec,λy H2 F2 o r2 f2=>?_⟩⟩;have q:=h5 H2 (d.trans o);cases ((B.same d).same o) with
  |@ix a p F j r _ _ l g N f =>
   cases f;refine .inl (.inl ⟨a,p,F,w,rfl,r2.int_inv,EW.of l,lI g N,q⟩)
  |@key a cv m r _ _ l g f =>
   cases f;refine .inr ⟨a,w,rfl,?_,q⟩;have L:y=kV m:=by
    cases m with
    |inl n=>exact r2.int_inv
    |inr z =>
     have:=r2.str_inv.1;rw[this];simp[kV,sx]
   rw[L,← g];exact gD.k l
@[simp] def gT(i:Nat)(a:List HE)(f:T->Wa->Option (T×Val))(h:Ew)(U:VS.Env):Option (Val×VS.Env):=match U[i]? with
 |some (some (.ow t))=>(keys a U).bind λg=>(h U).bind λd=>(pm (λx=>f x d) g t).map λz=>(z.2,U.set i (Y (.ow z.1)))
 |_=>M
noncomputable def iM(G:Gx):Prop:=∀c k a:Nat,(G.ct c).2 k=(G.ct c).2 a->k=a
def vo{pos apos:Pos}(Jq:iM G)(pa:PlainAttrs p)(d:Slot p a m)(K6:typeOf (.builtin m)=pure (.type "method_descriptor"))(hm:Nj X m r)(ok:xw G r f)(hT:∀H v t F l z,Rp G H v t F->f t l=Y z->Kb G.K p v H)(ho:HX G X o i way)(ha:E7 G X (e :: es) cs)(hK:X.K=G.K)(ES:SL o a X.env (eval o X.env)=eval o X.env)(Fm:((backTo pe (KM (e :: es) X.env)).all (λx=>!x.1)&&(backToKw pe (Pv [] X.env)).all (λx=>x.1.isSome)
   && decide ((e :: es).length+([]:List Keyword).length+(if ([]:List Keyword).isEmpty then 0 else 1)<30))=Z)(EA:(apos.endLine==pe.line)=Z)(hs:K1 e es X)(Ez:K2 pe es X)(Hl:swapsWith (.Call (.Attribute o a apos) (e :: es) [] pe) M pos.line X.env=pure O) :
  PSV G X (.Expr (.Call (.Attribute o a apos) (e :: es) [] pe) pos) (sX (gT i way f cs)) :=
 PS.weak (gf (sH pa d K6 hm ho ha ES Fm EA hs Ez) Hl) λD R H hq=>by
  obtain⟨J,U,out,s,e,k⟩:=hq;refine L2.ak λP_ k_=>?_;unfold sX gT at e;obtain⟨⟨x',U'⟩,e1,e2⟩:=Zx.mp e;split at e1
  ·rename_i t h;obtain⟨C,ek,e3⟩:=Zz.mp e1;obtain⟨l,el,e4⟩:=Zz.mp e3;obtain⟨⟨t',x2⟩,e5,e6⟩:=Zx.mp e4;cases e6;cases e2;obtain⟨v,E,h2⟩:=s.rp _ _ h;obtain⟨w,x,F1,Q,w1,A,w3,y,S⟩:=lT C Jq h2 (s.nd i t h) e5;refine k_ ?_;refine⟨J,U,t,C,v,w,s,h,E,ek,w1,λH0 j=>⟨by rw[hK];exact hT H0 w x _ l _ (A.same j) y,J,U,l,s.same j,el,λvs H' Fs q1 q2 B=>?_⟩⟩;refine ok J U H H' w x Q F1 l vs Fs x2 _ A w3 ⟨j.trans q1,q2,⟨λn v' q a1 a2=>(B.each n v' q a1 a2).back j,B.nd⟩⟩ y λu L q g=>?_;obtain⟨F2,g2⟩:=S L q g;obtain⟨P,N⟩:=s.mut h E g2;exact k _ R L P N
  ·cases e1
end
section
def iX(k v:Val):T->Option (T×Unit)
 |.lst l=>match k.2 with
  |.int n=>(fit v).bind λt=>(Gc l.length n).map λj=>(.lst (l.set j t),())
  |_=>M
 |.dct 0 l=>if iu k.2/\Et v.2/\l.length<dH then Y (.dct 0 (dput l k.2 v.2),()) else M
 |_=>M
def dJ(i:Nat)(a:List HE)(k e:Ex)(U:VS.Env):Option Out:=(e U).bind λv=>match U[i]? with
 |some (some (.ow t))=>(keys a U).bind λf=>(k U).bind λd=>(pm (iX d v) f t).map λz=>.nx (U.set i (Y (.ow z.1)))
 |_=>M
theorem RpL.putAt:∀{d:List V}{f:W3}{g:Xd}(j:Nat){u:V}{x:T}{F:Wi},RpL G H d f g->Rp G H u x F->RpL G H (d.set j u) (f.set j x) (g.set j F)
 |_,_,_,_,_,_,_,.nil,_=>.nil
 |_,_,_,0,_,_,_,.cons r q,a=>.cons a q
 |_,_,_,j+1,_,_,_,.cons r q,a=>.cons r (RpL.putAt j q a)
theorem sI(u:Rp G H m t []):∀{a:List Key}{j:List V}{s:W3}{C:Xd},a.length=j.length->RpL G H j s C →
  ∃f g h,(a.zip j).map (λn=>if n.1=d then (n.1,m) else n)=a.zip f/\a.length=f.length/\((a.map aZ).zip s).map (λp=>if eqT p.1 (aZ d) then (p.1,t) else p)=(a.map aZ).zip g/\RpL G H f g h/\h.flatten.Sublist C.flatten
 |[],[],_,_,_,.nil=>⟨[],[],[],rfl,rfl,rfl,.nil,Y9 _⟩
 |k :: a,v :: j,_,_,J,.cons (t:=D) (F:=F) r q=>by
  refine L2.ak λL E=>?_;obtain⟨f,g,h,B,A,y,x,w⟩:=sI u (by simpa using J) q;refine E ?_;by_cases l:k=d
  ·refine⟨m :: f,t :: g,[] :: h,?_,by simp[A],?_,.cons u x,?_⟩
   ·rw[ZX,Zm,B,ZX];simp[l]
   ·rw[Zm,ZX,Zm,y,ZX];simp[((jA d k).mpr l)]
   ·rw[ZZ,ZZ];exact w.trans (YV _ _)
  ·have e:¬eqT (aZ k) (aZ d)=Z:=λz=>l ((jA d k).mp z);refine⟨v :: f,D :: g,F :: h,?_,by simp[A],?_,.cons r x,?_⟩
   ·rw[ZX,Zm,B,ZX];simp[l]
   ·rw[Zm,ZX,Zm,y,ZX];simp[e]
   ·rw[ZZ,ZZ];exact List.Sublist.append (Y9 _) w
theorem pK{kk:Key}:∀{a:List Key}{d:List V}{f:W3},a.length=d.length->a.length=f.length->((a.zip d).any λg=>decide (g.1=kk))=(((a.map aZ).zip f).any λp=>eqT p.1 (aZ kk))
 |[],_,_,_,_=>by simp
 |k :: a,v :: d,t :: f,l,j=>by
  rw[Zm,ZX,ZX,YY,YY,pK (by simpa using l) (by simpa using j)];have:decide (k=kk)=eqT (aZ k) (aZ kk):=by rw[XD,decide_eq_true_eq];exact(jA kk k).symm
  rw[this]
 |_ :: _,[],_,h,_=>by simp at h
 |_ :: _,_ :: _,[],_,h=>by simp at h
def nN(u:Rp G H q t []){a:List Key}{g:List V}(d:a.length=g.length)(l:RpL G H g j s) :
  ∃(r:List Key)(f:List V)(m:W3)(n:Xd),putK (a.zip g) kk q=r.zip f/\r.length=f.length/\dput ((a.map aZ).zip j) (aZ kk) t=(r.map aZ).zip m/\RpL G H f m n/\n.flatten.Sublist s.flatten:=by
 unfold putK dput;rw[(pK (kk:=kk) d (d.trans l.len.1))];by_cases h:(((a.map aZ).zip j).any λp=>eqT p.1 (aZ kk))=Z
 ·rw[Zr h,Zr h];refine L2.ak λB v=>?_;obtain⟨f,m,n,A,z,y,x,w⟩:=sI u d l;refine v ?_;exact⟨a,f,m,n,A,z,y,x,w⟩
 ·rw[Zp h,Zp h];refine⟨a++[kk],g++[q],j++[t],s++[[]],?_,by simp[d],?_,l.append (.cons u .nil),by simp⟩
  ·rw[List.zip_append d];rfl
  ·rw[Yv,List.zip_append (by rw[Zw];exact d.trans l.len.1)];rfl
def zR:xU:=λo i v H Q=>Aa o i v H Q\/∃a d,o=.ref a/\pM H a i v d/\Q d
def rM{X:Cx}(n:X.A.units+1<cLine):BS X zR:=by
 intro d s R H o i v m iv u Q I j l f h;rcases h with h | ⟨a,r,rfl,g,q⟩
 ·exact set_list d s R H o i v m iv u Q I j l f h
 ·cases j;exact ur n I g l f λt p=>⟨r,p,q⟩
def jk{X:Cx}{pos:Pos}(Jq:iM G)(hr:gV kr X.A)(ho:HX G X o i way)(hk:PV G X b ck)(he:PV G X e ce)(ha:∀v,assign (.Subscript o b pos') X.env v=(do
   let P ← holding [v] (eval o X.env)
   let iv ← holding [v,P] (eval b X.env)
   standAt pos'
   holding [v,P,iv] (setItem P iv v)
   release [v,P,iv] []):=by exact λ_=>rfl)(hs:{`q7,swapsWithSole [.Subscript o b pos'] e pos.line X.env=pure O})(hw:{`q7,swappedStores [.Subscript o b pos'] e X.env=pure M})(C:{`q7,(assignEach [.Subscript o b pos'] X.env).map (·.2)=[assign (.Subscript o b pos') X.env]}):PSV G X (.Assign [.Subscript o b pos'] e pos) (dJ i way ck ce) :=
 PS.weak (oK he (nK ho hk (rM (iQ hr)) ha) hs hw C) λD R H hq=>by
  obtain⟨J,U,out,s,e,k⟩:=hq;refine L2.ak λP_ Q=>?_;obtain⟨⟨mv,B⟩,ev,e⟩:=Zz.mp e;split at e
  ·rename_i t S;obtain⟨ks,ek,e⟩:=Zz.mp e;obtain⟨⟨mk,f⟩,Jv,e⟩:=Zz.mp e;obtain⟨⟨t',y'⟩,e5,e6⟩:=Zx.mp e;cases e6;obtain⟨v,g1,g2⟩:=s.rp _ _ S;obtain⟨w,x,F1,x3,w1,w2,w3,y,w5⟩:=lT ks Jq g2 (s.nd i t S) e5;refine Q ?_;refine⟨J,U,mv,B,s,ev,λxv H1 Fv Fg rv fv=>?_⟩;refine⟨J,U,t,ks,v,w,s.same Fg,S,g1,ek,w1.same Fg,λH2 EM=>⟨J,U,mk,f,(s.same Fg).same EM,Jv,λkv H3 Fk GU rk fk=>?_⟩⟩;have m:=(Fg.trans EM).trans GU;have Ie:=(rv.same EM).same GU;have fin:∀E u,Chg G H w F1 x3 E u->D.nx R E:=λE u g=>by
    obtain⟨F2,LM⟩:=w5 E u g;obtain⟨z1,z2⟩:=s.mut S g1 LM;exact k _ R E z1 z2
   refine L2.ak λP_ Q=>?_;cases x with
   |lst l =>
    cases f with
    |int n =>
     obtain⟨tt,et,e7⟩:=Zz.mp (y);obtain⟨j,ej,e8⟩:=Zx.mp e7;cases e8;cases (jx et);obtain⟨a,vs,Fs,rfl,rfl,L,p⟩:=w2.lst_inv;have F:=m a _ L;have nd:=Ze.mp w3;have na:a∉Fv:=λz=>by rw[fv.2 a z]at L;cases L
     have q:Ep (H3 a):=by rw[F];exact True.intro
     have off:=λd hb hv=>Ep.xl (p.EI d hb) (fv.2 d hv);refine Q ?_;refine .inl ⟨a,vs,n,j,rfl,rk.int_inv,F,by rw[← nU,p.len.1];exact ej,fin _ (a :: (Fs.set j Fv).flatten) ?_⟩;refine Chg.upd m Zu q (.lst ay ((((p.same m).off q nd.1)).putAt j ((λr hn=>r.keep (Kept.upd (.inl q)) λd hb o' HQ=>by rw[ax (λz=>hn (by rw[← z];exact hb))];exact HQ) Ie na))) ?_ ?_
     ·rw[Ze];refine⟨λh=>?_,cX nd.2 fv.1 λi' u _ hi d hb=>off d (cG hi hb)⟩;rcases bU h with z | ⟨i',u,_,C,h2⟩
      ·exact na z
      ·exact nd.1 (cG C h2)
     ·intro d hb;rcases Zi.mp hb with rfl | hb
      ·exact .inl Zu
      ·rcases bU hb with z | ⟨i',u,_,C,h2⟩
       ·exact .inr (fv.2 d z)
       ·exact .inl (Zt _ (cG C h2))
    |_=>cases y
   |dct kd l =>
    cases kd with
    |zero =>
     have hc:(iu f=Z/\Et B=Z/\l.length<dH)/\x3=.dct 0 (dput l f B):=by
      have I0:(if iu f/\Et B/\l.length<dH then Y (T.dct 0 (dput l f B),()) else M)=Y (x3,y'):=y;split at I0
      ·rename_i hc;cases I0;exact⟨hc,rfl⟩
      ·cases I0
     obtain⟨⟨c1,c2,c3⟩,rfl⟩:=hc;have eF:=Ie.Et c2;subst eF;obtain⟨a,ns,vs,ts,Fs,rfl,rfl,L,hl,rfl,p⟩:=dP w2;obtain⟨kk,rfl,HW⟩:=dC rk c1;subst HW;have F:=m a _ L;have q:Ep (H3 a):=by rw[F];exact True.intro
     have nd:=Ze.mp w3;obtain⟨KR,HG,HM,GS,q1,q2,q3,q4,N⟩:=nN Ie hl (p.same m);refine Q ?_;refine .inr ⟨a,_,rfl,pM.k F (by
      have:((ns.map aZ).zip ts).length<16777216:=c3;rw[Z9,Zw]at this;rw[Z9];have:=p.len.1;have:(FS:Nat)=16777216:=rfl;lia),fin _ (a :: GS.flatten) ?_⟩
     rw[q1,q3];refine Chg.upd m Zu q (.dct ay q2 (q4.off q λz=>nd.1 (N.subset z))) ?_ ?_
     ·exact Ze.mpr ⟨λz=>nd.1 (N.subset z),nd.2.sublist N⟩
     ·intro d hb;rcases Zi.mp hb with rfl | hb
      ·exact .inl Zu
      ·exact .inl (Zt _ (N.subset hb))
    |succ n=>cases y
   |_=>cases y
  ·cases e
end
end VS
end
section
namespace ST
open PySem PySem.Spec PyProof.Rows
def Cd{A:Pi}{s:FB}(f:A.handled=M)(h:∀(a:Re)(x:GM),(∀b o,s.heap.get? b=Y o->a.get? b=Y o)->(∃o,a.get? x=Y o/\o.cls=.type "StopIteration")->d (.ref x) { s with heap:=a }) :
  KB (FM prog w) A (newExc (.type "StopIteration") [] >>= λe=>raiseNew e) Q d s:=by
 refine Zq (Zq (Xr (Zq (wpAny_of_eq (by first | rfl | (rfl)) (Xr ?_ (by size_fits)))) (by size_fits)));refine Zq (wpAny_handled ?_);rw[f];exact Zq (Za (wpAny_throw (h _ _ (λb o e=>Zl _ (Zl _ e)) ⟨_,ZR _ L,rfl⟩)))
end ST
end
section
namespace VS
open PySem PySem.Spec PyProof.Rows L2
def AW{K:Wv}{b:We}(e:uO H)(d:EW K H a (b.map V.int)):jo K H a b:=by
 rcases d with h | h
 ·rcases h with h | h
  ·rcases e a with z | ⟨o,f,z⟩
   ·rw[z]at h;cases h
   ·rw[z]at h;cases h
  ·exact .inl h
 ·exact .inr h
def Ay{G:Gx}(d:g [.scr b]=Y (.fr,.bl Z))(f:uO H)(e:EW G.K H a (b.map V.int)):GA G g [.ref a] H (λv _=>v=.bl Z) E :=
 ⟨[.scr b],[[]],.fr,.bl Z,.cons (.scr (AW f e)) .nil,d,λv h F _ r _=>r.EU⟩
noncomputable def Pa(K:Wv):Gx:=⟨K,λ_=>(0,λk=>⟨#[k]⟩),λ_=>M,λ_=>0⟩
def vc{l:PySem.W.OpenLaw}{d:DefRec}{K:Params->Wv}{g:Fn}{x:Str}{k:Nat}(m:l.most=Y 63)(t:d.params.defaults=[])(j:gV k callerA)(n:∀ns:We,g [.scr ns]=Y (.fr,.bl Z))(F:∀(w:SC)(mg:Wj)(e:GM)(h:Re),(K w.params).In h->h.Ns mainGlobals mg->mg d.name=Y (.ref e) →
   ∃fd:On,(∀(s:FB)(u:IR),BindsTo s fd ⟨[u],[]⟩ [(x,u)])/\∀base:Re,(K w.params).In base->base.Ns mainGlobals mg->FnOk l.prog w (K w.params) mg base EX k e fd [x] (GA (Pa (K w.params)) g)) :
  PySem.W.WalkO q b r (λw h=>(K w.params).In h) l.row.toRowW d [] (λf i=>PySem.call f i) :=
 L2.yW (k:=k) (x:=x) m (by decide) t j (λ_ _ h=>h) F (λw H a ns _ p o=>Ay (n ns) p o) λ_ _ _ _ _ z=>z
end VS
end
section
namespace L2
open PySem PySem.Spec PyProof.Rows
section
def qH{X:Cx}(y:X.calm=Z):da X (.type "list") (λf H Q=>∃x:Str,f=[.str x]/\x.cps.size<=FS/\∀l,H l=M->Q (.ref l) (upd H l (.lst (x.cps.toList.map λc=>V.str ⟨#[c]⟩)))):=by
 intro j s R H f A Q I p h;obtain⟨x,rfl,m,q⟩:=h;obtain⟨u,rfl,t,rfl⟩:=vals1 p;refine call_list_str (I.ok.hd y) x t (λz B acc c kp g o=>?_) m;refine⟨.ref s.heap.objs.size,_,I.laid kp (Zj _) (show dh X.prog X.w _ z _ (.lst (x.cps.toList.map λc=>V.str ⟨#[c]⟩)) from⟨by rw[Zw,YQ];exact m,acc.toList,c,(by
  have key:∀(b:Wf)(a:Wh),b.length=a.length->(∀(i:Nat)(v:IR),a[i]?=Y v->∃c u,b[i]?=Y c/\v=.str ⟨#[c]⟩ u)->aI (b.map λc=>V.str ⟨#[c]⟩) a:=by
   intro b
   induction b with
   |nil =>
    intro a e _;cases a with
    |nil=>exact .nil
    |cons v a=>simp at e
   |cons c b r =>
    intro a e hg;cases a with
    |nil=>simp at e
    |cons v a =>
     obtain⟨d,u,e1,e2⟩:=hg 0 v L;cases e1;exact .cons ⟨u,e2⟩ (r a (by simpa using e) λi w hw=>by simpa using hg (i+1) w (by simpa using hw))
  refine key _ _ (by rw[YQ,YQ,o.1]) λi v n=>?_;rw[Yj]at n;obtain⟨d,u,e1,e2⟩:=o.2 i v n;exact⟨d,u,by rw[Yj];exact e1,e2⟩),g⟩),rfl,q _ (I.Eg.fresh (Zj _))⟩
end
end L2
namespace VS
open PySem PySem.Spec PyProof.Rows L2
section
def i8:Wa->W0
 |[(m,.lst l)]=>Hk m l
 |[(m,.tup l)]=>Hk m l
 |[(_,.str s)]=>Hk .fr (s.map λc=>.str [c])
 |_=>M
def vO:eR G (λd H Q=>zX G.K d H Q\/∃x:Str,d=[.str x]/\x.cps.size<=FS/\∀l,H l=M->Q (.ref l) (upd H l (.lst (x.cps.toList.map λc=>V.str ⟨#[c]⟩)))) i8:=by
 intro J U i H l f j m t Q A e k;unfold i8 at e;split at e
 ·exact .inl (rR J U i H _ f j m t Q A e k)
 ·exact .inl (rR J U i H _ f j m t Q A e k)
 ·rename_i z x;obtain⟨v,F,rfl,rfl,h⟩:=(A.rp).one;have g:=h.str_inv.2;refine .inr ⟨sx x,by rw[h.str_inv.1],?_,λq r=>?_⟩
  ·have:=g.1;exact this
  ·have ec:(sx x).cps.toList.map (λc=>V.str ⟨#[c]⟩)=(x.map λc=>[c]).map λs=>V.str (sx s):=by
    simp[sx]
   have w:(x.map λc=>T.str [c])=(x.map λc=>[c]).map T.str:=by simp
   rw[ec];rw[w]at e;refine iL A.same e (qQ (G:=G) (H:=H) (ss:=x.map λc=>[c]) λs o=>by
    obtain⟨c,u,rfl⟩:=Ym.mp o;exact⟨by show 1<=dH;decide,λy n=>by rw[Zg.mp n];exact g.2 c u⟩) ?_ k q r
   rw[pF];exact Fp.nil
 ·cases e
def sO{X:Cx}(d:X.mg "list" = M)(h:E7 G X [e] cs)(f:{`q2,Gl X "list"})(i:{`q2,X.K=G.K})(g:{`q2,X.calm=Z})(he:{`q2,K1 e [] X}):PV G X (.Call (.Name "list" p) [e] [] pos) (eN i8 cs) :=
 j9 (oJ.or (qH g)) (i ▸ vO) f d x5 h (he:=he)
def Dm{X:Cx}{pos:Pos}(i:Nat)(Jq:iM G)(hr:gV kr X.A)(hk:PV G X b ck)(he:PV G X e ce)(hN:X.N[i]?=Y x)(hv:HD X.env.scope x)(hd:K3 x)(hcd:K4 x)(ha:∀v,assign (.Subscript (.Name x p1) b pos') X.env v=(do
   let Q ← holding [v] (eval (.Name x p1) X.env)
   let iv ← holding [v,Q] (eval b X.env)
   standAt pos'
   holding [v,Q,iv] (setItem Q iv v)
   release [v,Q,iv] []))(hs:swapsWithSole [.Subscript (.Name x p1) b pos'] e pos.line X.env=pure O)(hw:swappedStores [.Subscript (.Name x p1) b pos'] e X.env=pure M)(B:(assignEach [.Subscript (.Name x p1) b pos'] X.env).map (·.2)=[assign (.Subscript (.Name x p1) b pos') X.env]):PSV G X (.Assign [.Subscript (.Name x p1) b pos'] e pos) (dJ i [] ck ce) :=
 PS.weak (oK he (nK (eZ hN hv hd hcd) hk (rM (iQ hr)) ha) hs hw B) λD R H hq=>by
  obtain⟨J,U,out,s,e,k⟩:=hq;obtain⟨⟨mv,y⟩,ev,e⟩:=Zz.mp e;split at e
  ·rename_i x ht;refine L2.ak λP_ S=>?_;obtain⟨ks,ek,e⟩:=Zz.mp e;cases (ek);obtain⟨⟨mk,m⟩,Jv,e⟩:=Zz.mp e;obtain⟨⟨L,y'⟩,u,e6⟩:=Zx.mp e;cases e6;obtain⟨w,g1,g2⟩:=s.rp _ _ ht;obtain⟨F1,w2,w3,w5⟩:∃F1,Rp G H w x F1/\F1.Nodup/\∀C f,Chg G H w F1 L C f->Chg G H w (J i) L C f:=⟨J i,g2,s.nd i x ht,λ_ _ g=>g⟩
   refine S ?_;clear g2;refine⟨J,U,mv,y,s,ev,λxv H1 Fv Fg rv fv=>⟨w,g1,J,U,mk,m,s.same Fg,Jv,λkv H3 Fk GU rk fk=>?_⟩⟩;have o:=Fg.trans GU;have Ie:=rv.same GU;have fin:=λC f g=>by
    obtain⟨z1,z2⟩:=s.mut ht g1 (w5 C f g);exact k _ R C z1 z2
   refine L2.ak λP_ S=>?_;cases x with
   |lst l =>
    cases m with
    |int n =>
     obtain⟨tt,et,e7⟩:=Zz.mp (u);obtain⟨j,ej,e8⟩:=Zx.mp e7;cases e8;cases (jx et);obtain⟨a,vs,Fs,rfl,rfl,F,q⟩:=w2.lst_inv;have E:=o a _ F;have nd:=Ze.mp w3;have na:a∉Fv:=λz=>by rw[fv.2 a z]at F;cases F
     have t:Ep (H3 a):=by rw[E];exact True.intro
     have off:=λd hb hv=>Ep.xl (q.EI d hb) (fv.2 d hv);refine S ?_;refine .inl ⟨a,vs,n,j,rfl,rk.int_inv,E,by rw[← nU,q.len.1];exact ej,fin _ (a :: (Fs.set j Fv).flatten) ?_⟩;refine Chg.upd o Zu t (.lst ay ((((q.same o).off t nd.1)).putAt j ((λr hn=>r.keep (Kept.upd (.inl t)) λd hb o' HQ=>by rw[ax (λz=>hn (by rw[← z];exact hb))];exact HQ) Ie na))) ?_ ?_
     ·rw[Ze];refine⟨λh=>?_,cX nd.2 fv.1 λi' f _ hi d hb=>off d (cG hi hb)⟩;rcases bU h with z | ⟨i',f,_,B,h2⟩
      ·exact na z
      ·exact nd.1 (cG B h2)
     ·intro d hb;rcases Zi.mp hb with rfl | hb
      ·exact .inl Zu
      ·rcases bU hb with z | ⟨i',f,_,B,h2⟩
       ·exact .inr (fv.2 d z)
       ·exact .inl (Zt _ (cG B h2))
    |_=>cases u
   |dct kd l =>
    cases kd with
    |zero =>
     have hc:(iu m=Z/\Et y=Z/\l.length<dH)/\L=.dct 0 (dput l m y):=by
      have I0:(if iu m/\Et y/\l.length<dH then Y (T.dct 0 (dput l m y),()) else M)=Y (L,y'):=u;split at I0
      ·rename_i hc;cases I0;exact⟨hc,rfl⟩
      ·cases I0
     obtain⟨⟨c1,c2,c3⟩,rfl⟩:=hc;have eF:=Ie.Et c2;subst eF;obtain⟨a,ns,vs,ts,Fs,rfl,rfl,F,hl,rfl,q⟩:=dP w2;obtain⟨kk,rfl,HW⟩:=dC rk c1;subst HW;have E:=o a _ F;have t:Ep (H3 a):=by rw[E];exact True.intro
     have nd:=Ze.mp w3;obtain⟨KR,HG,HM,GS,q1,q2,q3,q4,P⟩:=nN Ie hl (q.same o);refine S ?_;refine .inr ⟨a,_,rfl,pM.k E (by
      have:((ns.map aZ).zip ts).length<16777216:=c3;rw[Z9,Zw]at this;rw[Z9];have:=q.len.1;have:(FS:Nat)=16777216:=rfl;lia),fin _ (a :: GS.flatten) ?_⟩
     rw[q1,q3];refine Chg.upd o Zu t (.dct ay q2 (q4.off t λz=>nd.1 (P.subset z))) ?_ ?_
     ·exact Ze.mpr ⟨λz=>nd.1 (P.subset z),nd.2.sublist P⟩
     ·intro d hb;rcases Zi.mp hb with rfl | hb
      ·exact .inl Zu
      ·exact .inl (Zt _ (P.subset hb))
    |succ n=>cases u
   |_=>cases u
  ·cases e
end
end VS
end
section
namespace ST
open PySem PySem.Spec PyProof.Rows
noncomputable abbrev dO(a:Array DictEntry)(b:Nat):Obj:={ cls:=.type "dict",data:=.dict a b }
noncomputable abbrev kO(d:GM)(i n a:Nat):Obj:={ cls:=.type "dict_keyiterator",data:=.fields #[.ref d,.int i 0,.int n 0,.int a 0] }
def uI{s:FB}(f:(d==sysModules)=O)(a:s.heap.get? d=Y (dO b e))(q:Q (.ref s.heap.objs.size) { s with heap:=s.heap.push (kO d 0 b.size e) }) :
  KB (FM prog w) A (pyIter (.ref d)) Q E s:=by
 have ty:s.TypeIs (.ref d) "dict" := ⟨_,a,rfl⟩
 refine wpAny_pyIter_slot ty F.slot_dict_iter (X2 F.slot_dict_iter ty F.entry_dict_iter (?_) (F.args_dict_iter_1 _));unfold Builtin.«dict.__iter__» Builtin.Dict.dictSlotNone Builtin.Dict.showsAll;refine Zq (Zq (wpAny_notOrdered_dict ty (Za (Zq (Za ?_)))));rw[Zp (by rw[f];exact Zh)];exact Zq (Za (Zq (wpAny_dictEntries a L (Zq (wpAny_dictEpoch a L (Zq (Xr (Za ⟨_,rfl, "dict_keyiterator",_,⟨_,ZR _ L,rfl⟩,YD.lookup,q⟩))))))))
def pZ{A:Pi}{s:FB}{h:Array DictEntry}(t:A.handled=M)(l:s.heap.get? I=Y (kO d i h.size m))(n:s.heap.get? d=Y (dO h m))(y:∀e,h[i]?=Y e->∀a,Heap.SameBut I s.heap a->a.get? I=Y (kO d (i+1) h.size m)->Q (Y e.key) { s with heap:=a })(u:h[i]?=M->∀a,(∀b o,b≠I->s.heap.get? b=Y o->a.get? b=Y o)->Q M { s with heap:=a }):KB (FM prog w) A (pyNext (.ref I)) Q E s:=by
 have ty:s.TypeIs (.ref I) "dict_keyiterator" := ⟨_,l,rfl⟩
 refine Zq (wpAny_attempt (wpAny_callSpecial?_slot ty YD (X2 YD ty F.entry_dict_keyiterator_next (Z6
  (Q:=λf j=>∃v,f=.done (.ret v)/\Q (Y v) j) (E:=λe j=>∃x,e=.ref x/\(∃o,j.heap.get? x=Y o/\o.cls=.type "StopIteration")/\Q M j) ?_ (λf j ⟨v,e,q⟩=>⟨v,e,Za q⟩) λe j ⟨x,e1,⟨o,g,c⟩,q⟩=>?_) (F.args_dict_keyiterator_next_1 _))))
 ·refine Zq (Za (Zq (Zq (Zq (Xk ty (Za (Zq (wpAny_fieldsOf l L ?_))))))));have own:Builtin.Dict_items.ownsTuple "dict_keyiterator" = O:=rfl;refine(show KB _ _ (if (Value.ref d==Value.none)=Z then _ else _) _ _ s from ?_);rw[Zp (λe:(Value.ref d==Value.none)=true=>Zh e)];refine Zq (Za (Zq (wpAny_dictEntries n L ?_)));rw[Zp (by simp)];refine Zq (Za (Zq (wpAny_dictEpoch n L ?_)));rw[Zp (by simp)];refine Za ?_;simp only[show ¬((i:Int)<0) from by lia,↓reduceIte,Yk];cases he:h[i]? with
  |some e =>
   have p:(s.heap.update I (Obj.mapFields (·.setIfInBounds 1 (rawInt ((i:Int)+1))))).get? I=Y (kO d (i+1) h.size m):=Y2 _ l L;refine Zq (Zq (Xk ty (Za (Zq (wpAny_isOneOf_keyiter ty ?_)))));refine(Zq (XX l L (by show 1<4;decide) (Zq (YC ?_))));refine Zq (wpAny_isOneOf_keyiter ⟨_,p,rfl⟩ ?_);refine(Za (Za ⟨_,rfl,y e he _ (Heap.SameBut.update ..) p⟩))
  |none =>
   refine Zq (Zq (Xk ty (Za ?_)));refine(Zq (XX l L (by show 0<4;decide) (Cd t λa x kp r=>⟨x,rfl,r,u he a λb o hb e=>kp b o ?_⟩)));rw[Yq _ _ (Yb hb)];exact e
 ·subst e1;exact Zq (wpAny_isInstance ⟨o,g,c⟩ isSubtype_stop (Za q))
end ST
end
section
namespace VS
open PySem PySem.Spec PyProof.Rows L2
def Dj{i:Int}:PV G X (.UnaryOp .USub (.Constant (.int i) j p) a) (Q2 (-i)) :=
 PE.weak (zY vB oq) λR H Q b=>by
  obtain⟨J,U,m,t,s,e,k⟩:=b;cases (e);exact⟨i,rfl,k _ H [] (aM.refl _) (.int _) Fp.nil⟩
end VS
end
section
namespace L2
open PySem PySem.Spec PyProof.Rows
section
def vA{o:Obj}(h:o.ExactDict)(e:o.data=.dict a b):o=ST.dO a b:=by
 obtain⟨c,d,l,j⟩:=o;obtain⟨i,g,f⟩:=h;subst i g f e;rfl
end
end L2
end
section
namespace VS
open PySem PySem.Spec PyProof.Rows L2
section
def l6{b:Expr}(s:PV G X a i)(o:PV G X b f)(n:PV G X c d)(l:lastMarks [.LtE,.Lt] [b,c]=O):HF G X (.Compare a [.LtE,.Lt] [b,c] pos) (lj oLe oLt i f d) :=
 PT.weak (vK AV oF s o n l) λR H Q h=>o9 h (λU m r e=>by
  obtain⟨x,w,e⟩:=Zz.mp e;obtain⟨y,v,e⟩:=Zz.mp e;obtain⟨⟨t,z⟩,u,e⟩:=Zz.mp e;cases z with
  |bl q =>
   cases q with
   |false=>cases e;exact⟨_,rfl⟩
   |true =>
    obtain⟨j,ec,e⟩:=Zz.mp (e);exact iz y j m r e
  |_=>cases e) λQ h=>wU Dw rW h
def wD{pos:Pos}(h:PV G X e a)(j:swapsWith e M pos.line X.env=pure O):PSV G X (.Expr e pos) (sX (xP a)) :=
 PS.weak (gf h j) λD R H d=>by
  obtain⟨J,U,out,s,e,k⟩:=d;obtain⟨⟨v,n⟩,e1,e2⟩:=Zx.mp e;obtain⟨⟨m,t⟩,i,f⟩:=Zx.mp e1;cases f;cases e2;exact⟨J,U,m,t,s,i,λv l F e1 r1 f1=>k J R l (s.same e1) (Eu.same e1)⟩
end
section
def Ca{j pos'}(g:PV G X a ca):HF G X (.Compare a [.Is] [.Constant .none j pos'] pos) (Dp ca) :=
 PT.weak (wu (wQ g)) λR H Q h=>zS h (λU m r e=>by
  obtain⟨x,_,e⟩:=Zz.mp e;cases e;exact⟨_,rfl⟩) λQ f=>by
   obtain⟨J,U,m,r,s,e,q⟩:=f;obtain⟨⟨n,x⟩,i,e⟩:=Zz.mp e;cases e;refine⟨J,U,n,x,s,i,λv d F e1 r1 f1=>?_⟩;show Q (.bl (decide (v=.non))) d;rw[nt r1];exact q _ d _ e1 (.bl _) Fp.nil
def jK{j pos'}(g:PV G X a ca):HF G X (.Compare a [.IsNot] [.Constant .none j pos'] pos) (fC ca) :=
 PT.weak (wu (zw g)) λR H Q h=>zS h (λU m r e=>by
  obtain⟨x,_,e⟩:=Zz.mp e;cases e;exact⟨_,rfl⟩) λQ f=>by
   obtain⟨J,U,m,r,s,e,q⟩:=f;obtain⟨⟨n,x⟩,i,e⟩:=Zz.mp e;cases e;refine⟨J,U,n,x,s,i,λv d F e1 r1 f1=>?_⟩;show Q (.bl (!decide (v=.non))) d;rw[nt r1];exact q _ d _ e1 (.bl _) Fp.nil
def r9(i:Nat)(k e:Ex)(U:VS.Env):Option Out:=(e U).bind λv=>match U[i]? with
 |some (some (.ow (.dct 0 l)))=>(k U).bind λd=>if iu d.2/\Et v.2/\l.length<dH then Y (.nx (U.set i (Y (.ow (.dct 0 (dput l d.2 v.2)))))) else M
 |_=>M
def Ao{X:Cx}{pos:Pos}(i:Nat)(hr:gV kr X.A)(hk:PV G X b ck)(he:PV G X e ce)(hN:X.N[i]?=Y x)(hv:HD X.env.scope x)(hd:K3 x)(m:K4 x)(ha:∀v,assign (.Subscript (.Name x p1) b pos') X.env v=(do
   let f ← holding [v] (eval (.Name x p1) X.env)
   let iv ← holding [v,f] (eval b X.env)
   standAt pos'
   holding [v,f,iv] (setItem f iv v)
   release [v,f,iv] []))(hs:swapsWithSole [.Subscript (.Name x p1) b pos'] e pos.line X.env=pure O)(hw:swappedStores [.Subscript (.Name x p1) b pos'] e X.env=pure M)(h1:(assignEach [.Subscript (.Name x p1) b pos'] X.env).map (·.2)=[assign (.Subscript (.Name x p1) b pos') X.env]):PSV G X (.Assign [.Subscript (.Name x p1) b pos'] e pos) (r9 i ck ce) :=
 PS.weak (oK he (nK (eZ hN hv hd m) hk (rM (iQ hr)) ha) hs hw h1) λD R H hq=>by
  obtain⟨J,U,out,s,e,k⟩:=hq;obtain⟨⟨mv,o⟩,ev,e⟩:=Zz.mp e;split at e
  ·rename_i l j;obtain⟨⟨mk,tk⟩,Jv,e⟩:=Zz.mp e;split at e
   ·rename_i hc;obtain⟨c1,c2,c3⟩:=hc;cases e;obtain⟨w,u,S⟩:=s.rp _ _ j;have n:=s.nd i _ j;refine⟨J,U,mv,o,s,ev,λxv H1 Fv L rv fv=>⟨w,u,J,U,mk,tk,s.same L,Jv,λkv C Fk E rk fk=>?_⟩⟩;have h:=L.trans E;have B:=rv.same E;have eF:=B.Et c2;refine L2.ak λP_ k_=>?_;subst eF;obtain⟨a,ns,vs,p,Fs,rfl,y,EN,hl,rfl,q⟩:=dP S;rw[y]at n;obtain⟨t,rfl,HW⟩:=dC rk c1;subst HW;have F:=h a _ EN;have r:Ep (C a):=by rw[F];exact True.intro
    have nd:=Ze.mp n;obtain⟨KR,HG,HM,GS,q1,q2,q3,q4,d⟩:=nN B hl (q.same h);refine k_ ?_;refine .inr ⟨a,_,rfl,pM.k F (by
     have:((ns.map aZ).zip p).length<16777216:=c3;rw[Z9,Zw]at this;rw[Z9];have:=q.len.1;have:(FS:Nat)=16777216:=rfl;lia),?_⟩
    have g:Chg G H (.ref a) (J i) (.dct 0 (dput ((ns.map aZ).zip p) (aZ t) o)) (upd C a (.dK (putK (ns.zip vs) t xv))) (a :: GS.flatten):=by
     rw[y,q1,q3];refine Chg.upd h Zu r (.dct ay q2 (q4.off r λz=>nd.1 (d.subset z))) ?_ ?_
     ·exact Ze.mpr ⟨λz=>nd.1 (d.subset z),nd.2.sublist d⟩
     ·intro bb hb;rcases Zi.mp hb with rfl | hb
      ·exact .inl Zu
      ·exact .inl (Zt _ (d.subset hb))
    obtain⟨Q,P⟩:=s.mut j u g;exact k _ R _ Q P
   ·cases e
  ·cases e
end
end VS
end
section
namespace VS
open PySem PySem.Spec PyProof.Rows L2
section
def yK:bootBuiltins ("dict" : Str)=Y (.type "dict"):=by decide +kernel
end
end VS
end
section
namespace L2
open PySem PySem.Spec PyProof.Rows
section
def oM(I:Inv X pins R H s)(e:H d=Y (.dK a))(g:s.heap.get? d=Y o):Inv X pins R (upd H d (.frz o (.dK a))) s :=
 kP I (by rw[e];exact True.intro) ⟨rfl,λ_ _=>rfl⟩ ⟨o,g⟩ ⟨g,I.Eg d _ e⟩
end
def PN(d:GM)(o:Obj)(a:List (Key×V)):It :=
 ⟨λi H=>H d=Y (.frz o (.dK a))/\i<a.length,λi H x b=>b=H/\∃p,a[i]?=Y p/\x=kV p.1,λi H=>H d=Y (.frz o (.dK a))/\a.length<=i⟩
def yU(h:kE k v=Z):RelV (kV k) v:=by
 rcases bX h with⟨i,t,rfl,rfl⟩ | ⟨x,t,rfl,rfl⟩
 ·exact⟨t,rfl⟩
 ·exact⟨t,rfl⟩
def mP{P:PP}{w:SC}{a:List DictEntry}{m:List (Key×IR)}(r:Pairs (bP P w) a m){i:Nat}{e:DictEntry}(h:a[i]?=Y e):∃q,m[i]?=Y q/\kE q.1 e.key=Z:=by
 induction r generalizing i with
 |nil=>simp at h
 |@cons j b a l f g _ d =>
  cases i with
  |zero =>
   simp at h;subst h;exact⟨b,rfl,f⟩
  |succ i=>simpa using d (by simpa using h)
def Ah{l:List (Key×V)}{m:List (Key×IR)}(r:KV l m){i:Nat}{q:Key×IR}(h:m[i]?=Y q):∃p,l[i]?=Y p/\p.1=q.1:=by
 induction r generalizing i with
 |nil=>simp at h
 |@cons a f g e d t b =>
  cases i with
  |zero=>simp at h;subst h;exact⟨a,rfl,d.1⟩
  |succ i=>simpa using b (by simpa using h)
section
def Ag{tg:Expr}{P:PP}{w:SC}{K:Wv}(d f:GM){U:List (Key×V)}{D:Array DictEntry}{S:Nat}{G:List (Key×IR)}(a:KV U G)(he:Pairs (bP P w) D.toList G) :
  Turn P w K tg (PN d (ST.dO D S) U) [f] f (λi h=>h.get? f=Y (ST.kO d i D.size S)) where
 mem:=by simp
 obj:=λi h st b hb=>by
  rw[Zg.mp hb];exact⟨_,st,λv z=>by cases z⟩
 keep:=λi h x st k=>k f (by simp) _ st
 item:=by
  intro X t hw u r i j s R H E I m st hg;subst t hw u;obtain⟨C,f1,f2,B,A,y⟩:=m f (by simp);refine ST.pZ (I.ok.hd r) st ((I.Eg d _ hg.1).1) (λe l x J g=>?_) λN=>?_
  ·rw[← Yj]at l;obtain⟨q,n,Q⟩:=mP he l;obtain⟨p,hp,hb⟩:=Ah a n;exact⟨_,rfl,pV g L L L ⟨kV p.1,H,(I.turned (t':=s.toks) (λb o hb e=>(J.2 b hb).trans e) C f1 B A y),by rw[hb];exact yU Q,⟨rfl,p,hp,rfl⟩,g,λb hb=>(m b hb).1⟩⟩
  ·exfalso;rw[← Yj,Yx,he.length,← Y7 a]at N;exact absurd hg.2 (by lia)
 done:=by
  intro X t hw u r i j s R H E I m st hg;subst t hw u;obtain⟨C,f1,f2,B,A,y⟩:=m f (by simp);refine ST.pZ (I.ok.hd r) st ((I.Eg d _ hg.1).1) (λe l x J g=>?_) λN x kp=>⟨rfl,I.turned (λb o hb e=>kp b o hb e) C f1 B A y⟩
  exfalso;rw[← Yj]at l;obtain⟨q,n,Q⟩:=mP he l;have:=(Zk.mp n).1;have h2:=hg.2;rw[Y7 a]at h2;lia
 self:=λ_ _ _ _ _ st hQ=>wpAny_pyIter_slot ⟨_,st,rfl⟩ F.slot_dict_keyiterator_iter (X2 F.slot_dict_keyiterator_iter ⟨_,st,rfl⟩ F.entry_dict_keyiterator_iter (Za ⟨_,rfl, "dict_keyiterator",_,⟨_,st,rfl⟩,YD.lookup,hQ⟩) (F.args_dict_keyiterator_iter_1 _))
def So(e:TE):TI:=λR H f=>e R H λx b=>∃d a,x=.ref d/\b d=Y (.dK a)/\∀o,f (PN d o a) (upd b d (.frz o (.dK a)))
def C1(n:PE X l j):PI X tg l (So j):=by
 intro a s R H C I h;refine thn (n a s R H _ I h) λv i p=>?_;obtain⟨x,E,f,r1,q1⟩:=p;refine L2.ak λD m=>?_;obtain⟨d,B,ex,e,q⟩:=q1;subst ex;cases r1;obtain⟨z,y,t,rel,o,w,A,g,ex,hd,_,he,u⟩:=qj f.Eg e;have eo:=vA ex hd;subst eo;refine m ?_;refine ST.uI y g ?_;refine⟨i.heap.objs.size,[i.heap.objs.size],_,_,_,rfl,(oM f e g).kept λb o e=>Zl _ e,Ag d _ rel he,ZR _ L,λb hb=>?_,q _⟩;have r:b=i.heap.objs.size:=by simpa using hb
 subst r;exact(oM f e g).JY (Zj _) ((oM f e g).Eg.fresh (Zj _))
end
end L2
namespace VS
open PySem PySem.Spec PyProof.Rows L2
section
noncomputable def tR:Val->Val->W0
 | (_,.int i),(_,.int j)=>if 0<=j/\j<=1000000/\i.natAbs<18446744073709551616 then Y (.fr,.int (i ^ j.toNat)) else M
 |_,_=>M
def xo:eT G (rI CB λi j=>.int (i ^ j.toNat)) tR:=by
 intro J U g H x y u w n l m t Q d e k;obtain⟨m1,x⟩:=x;obtain⟨f,y⟩:=y;obtain⟨same,r1,r2,f1,f2,nd⟩:=d;unfold tR at e;split at e
 ·rename_i e1 e2;cases e1;cases e2;split at e
  ·rename_i h;cases e;exact⟨_,_,r1.int_inv,r2.int_inv,h,bw k (.int _)⟩
  ·cases e
 ·cases e
end
end VS
end
section
namespace L2
def A0{α:Type}{b:List α}(d:b.length=n+1):∃a t,b=a :: t/\t.length=n:=by
 obtain⟨a,t,e⟩:=List.exists_cons_of_length_eq_add_one d;subst e;exact⟨a,t,rfl,Wu d⟩
def iY{α:Type}{b:List α}(d:b.length=1):∃a,b=[a]:=List.length_eq_one_iff.mp d
def eY{α:Type}{d:List α}(f:d.length=2):∃a b,d=[a,b]:=by
 obtain⟨a,t,rfl,e⟩:=A0 f;obtain⟨b,rfl⟩:=iY e;exact⟨a,b,rfl⟩
def qN{α:Type}{d:List α}(f:d.length=3):∃a b c,d=[a,b,c]:=by
 obtain⟨a,t,rfl,e⟩:=A0 f;obtain⟨b,c,rfl⟩:=eY e;exact⟨a,b,c,rfl⟩
def Bv{α:Type}{e:List α}(g:e.length=4):∃a b c d,e=[a,b,c,d]:=by
 obtain⟨a,t,rfl,f⟩:=A0 g;obtain⟨b,c,d,rfl⟩:=qN f;exact⟨a,b,c,d,rfl⟩
end L2
end
section
namespace XN
open PySem PySem.Spec PyProof.Rows L2
noncomputable def Fl(j:IR)(g:Re)(H:Hp)(e:GM)(d:IR)(l:Option GM)(h:Re):Prop :=
 g.get? e=M/\H e=M/\∃b a,h.get? e=Y b/\(b.cls=d/\b.dict=l)/\b.data=.fields a/\1<a.size ∧
  (a[1]?=Y .none\/∃T i f,a[1]?=Y (.ref T)/\g.get? T=M/\H T=M/\T≠e/\h.get? T=Y i/\i.data=.fields f/\f[3]?=Y j)
structure Mv(g:Re)(H:Hp)(fs:Wi)(h h':Re):Prop where
 keep:∀b o,h.get? b=some o->g.get? b≠none\/H b≠none->b∉fs->h'.get? b=some o
 slot:∀b o,h.get? b=some o->(∀vs,o.data ≠ .fields vs)->∃sl,h'.get? b=some { o with slots:=sl }
 there:∀b o,h.get? b=some o->∃o',h'.get? b=some o'
 sz:h.objs.size<=h'.objs.size
def Mv.refl:Mv g H a h h:=⟨λ_ _ e _ _=>e,λ_ o e _=>⟨o.slots,e⟩,λ_ o e=>⟨o,e⟩,Zj _⟩
def Mv.trans{j i:Re}(a:Mv g H d h j)(b:Mv g H d j i):Mv g H d h i :=
 ⟨λc o e k f=>b.keep c o (a.keep c o e k f) k f,λc o e f=>by
  obtain⟨p,q⟩:=a.slot c o e f;obtain⟨n,l⟩:=b.slot c _ q f;exact⟨n,l⟩,λc o e=>by
  obtain⟨m,q⟩:=a.there c o e;exact b.there c m q,ZF a.sz b.sz⟩
def Mv.frames{g:Re}{H:Hp}{base:Re}(m:Mv g H d h a)(f:h.FunFrames base l):a.FunFrames base l :=
 f.of_keeps λb o e k=>by
  obtain⟨i,q⟩:=m.slot b o e k;exact⟨_,q,rfl⟩
def Mv.put{g:Re}{h:Re}(f:Array IR->Array IR)(j:h.get? a=Y o)(l:o.data=.fields i)(m:g.get? a=M)(n:H a=M):Mv g H p h (h.update a (Obj.mapFields f)):=by
 refine⟨λb d e k _=>?_,λb d e k=>?_,λb d e=>?_,by rw[Heap.size_update];exact Zj _⟩
 ·rw[Yq _ _ λz=>by
   subst z;rcases k with k | k
   ·exact k m
   ·exact k n]
  exact e
 ·have ne:a≠b:=λz=>by
   subst z;rw[j]at e;cases e;exact k i l
  exact⟨d.slots,by rw[Yq _ _ ne];exact e⟩
 ·by_cases z:a=b
  ·subst z;exact⟨_,(Y2 (Obj.mapFields f) j (X9 (Obj.data_mapFields l f)))⟩
  ·exact⟨d,by rw[Yq _ _ z];exact e⟩
theorem Mv.push(o:Obj):Mv g H d h (h.push o) :=
 ⟨λb a e _ _=>Zl _ e,λb a e _=>⟨a.slots,Zl _ e⟩,λb a e=>⟨a,Zl _ e⟩,by rw[XQ];exact Xb _⟩
def Mv.slots(x:Heap.SlotsOnly d h a):Mv g H d h a :=
 ⟨λb o e _ f=>(x.2.1 b f).trans e,λb o e _=>x.2.2 b o e,λb o e=>by
  obtain⟨sl,q⟩:=x.2.2 b o e;exact⟨_,q⟩,by rw[x.1];exact Zj _⟩
section
variable{M:Model}{L:GM}
noncomputable abbrev LN(l:List Env):Wi:=l.filterMap (·.frame)
def o7{A:Pi}{s:FB}{g:Re}(N:A.frames=Y (env :: outer))(u:s.heap.FunFrames base (env :: outer))(C:env.frame=Y L)(he:s.heap.get? e=Y j)(v:j.cls=cls/\j.dict=dd)(l:j.data=.fields m)(f:1<m.size)(t:g.get? e=none)(x:H e=none)(G:∀b,s.heap.objs.size<=b->g.get? b=none)(F:∀b,s.heap.objs.size<=b->H b=none)(h:∀p,Mv g H (LN (env :: outer)) s.heap p->Fl (rawInt L) g H e cls dd p->Q () { s with heap:=p }) :
  KB M A (do let a ← frameOf env;let i ← entryPlaceOf L J;let b ← EntryCells.newEntry d a .none (rawInt L) .none i;setField (.ref e) 1 b) Q E s:=by
 refine Zq (wpAny_frameOf_fun N u C λq n=>Zq (wpAny_entryPlaceOf λi z=>?_));refine Zq (Xr ?_ (z.sizeOk5 ..));have e1:=(n.2.1 e (λB=>by
  obtain⟨_,o,r,D⟩:=u.mem B;rw[he]at r;cases r;exact D m l)).trans he
 have sz:=n.1;generalize w:({ cls:=.type "traceback",dict:=none,data:=.fields ([d,.ref L,.none,rawInt L,.none]++(if i.isEmpty then List.replicate 6 Value.none else i)).toArray }:Obj)=oT;have e2:=Zl oT e1;refine XX e2 l f (h _ ?_ ?_)
 ·exact((Mv.slots n).trans (Mv.push oT)).trans (Mv.put _ e2 l t x)
 ·have y:=Obj.data_mapFields l (·.setIfInBounds 1 (Value.ref q.objs.size));have ne:=Wt (ZS e1);refine⟨t,x,_,_,Y2 _ e2 (X9 y),⟨(Obj.cls_mapFields _ _).trans v.1,?_⟩,y,by simp[f],.inr ⟨q.objs.size,oT,([d,.ref L,.none,rawInt L,.none]++(if i.isEmpty then List.replicate 6 Value.none else i)).toArray,?_,G _ (by rw[sz];exact Zj _),F _ (by rw[sz];exact Zj _),ne,?_,by rw[← w],?_⟩⟩
  ·rw[← v.2];unfold Obj.mapFields;split<;>rfl
  ·simp[f]
  ·rw[Yq _ _ (Yb ne)];exact ZR _ (by rw[← w];rfl)
  ·simp
def rE{A:Pi}{s:FB}{g:Re}(y:A.frames=Y (env :: outer))(r:s.heap.FunFrames base (env :: outer))(m:env.frame=Y L)(N:q=.none\/q=rawInt L)(x:∀b,s.heap.objs.size<=b->g.get? b=none)(w:∀b,s.heap.objs.size<=b->H b=none)(F:Fl q g H e cls dd s.heap)(h:∀d,Mv g H (LN (env :: outer)) s.heap d->Fl (rawInt L) g H e cls dd d->Q () { s with heap:=d }):KB M A (noteFrame (.ref e) env) Q E s:=by
 obtain⟨l,o,C,z,he,n,hd,a,J⟩:=F;unfold noteFrame;simp only[m];rcases J with i | ⟨T,D,B,i,v,t,u,f,j,p⟩
 ·refine Zq (Ww he hd i ?_);rw[Zp (by decide)];exact o7 y r m he n hd a l o x w h
 ·refine Zq (Ww he hd i ?_);rw[Zr (by simp)];refine Zq (Ww f j p ?_);rcases N with rfl | rfl
  ·rw[Zp (by simp[rawInt])];refine Zq (XX f j (Xf.mp p).1 ?_);have m1:Mv g H (LN (env :: outer)) s.heap (s.heap.update T (Obj.mapFields (·.setIfInBounds 3 Value.none))):=Mv.put _ f j v t;refine o7 y (m1.frames r) m (by rw[Yq _ _ u];exact he) n hd a l o ?_ ?_ λd G f2=>h d (m1.trans G) f2
   ·intro b hb;rw[Heap.size_update]at hb;exact x b hb
   ·intro b hb;rw[Heap.size_update]at hb;exact w b hb
  ·rw[Zr (by simp[rawInt])];exact Za (h s.heap Mv.refl ⟨l,o,C,z,he,n,hd,a,.inr ⟨T,D,B,i,v,t,u,f,j,p⟩⟩)
def jY{s:FB}{fs:Wi}(F:Fl y g H e cls dd s.heap)(h:∀i,Mv g H fs s.heap i->Fl .none g H e cls dd i->Q () { s with heap:=i }):KB M A (setFlight (.ref e) none) Q E s:=by
 obtain⟨o,q,m,l,he,p,hd,a,w⟩:=F;rcases w with b | ⟨T,B,z,b,v,r,t,d,j,x⟩
 ·refine Zq (Ww he hd b ?_);rw[Zp (by decide)];exact Za (h s.heap Mv.refl ⟨o,q,m,l,he,p,hd,a,.inl b⟩)
 ·refine Zq (Ww he hd b ?_);rw[Zr (by simp)];have u:=Obj.data_mapFields j (·.setIfInBounds 3 (Option.elim none Value.none λf=>rawInt f));have n:=(Xf.mp x).1;refine XX d j n (h _ (Mv.put _ d j v r) ⟨o,q,m,l,by rw[Yq _ _ t];exact he,p,hd,a,.inr ⟨T,_,_,b,v,r,t,Y2 _ d (X9 u),u,by simp[n]⟩⟩)
def xy{A:Pi}{s:FB}{g:Re}(n:A.frames=Y (env :: outer))(f:s.heap.FunFrames base (env :: outer))(i:env.frame=Y L)(m:∀b,s.heap.objs.size<=b->g.get? b=none)(l:∀b,s.heap.objs.size<=b->H b=none)(F:Fl .none g H e cls dd s.heap)(h:∀a,Mv g H (LN (env :: outer)) s.heap a->Fl .none g H e cls dd a->Q () { s with heap:=a }):KB M A (leaving env (.ref e)) Q E s:=by
 refine Zq (rE n f i (.inl rfl) m l F λo m1 f1=>jY f1 λj d f2=>h j (m1.trans d) f2)
end
def Fl.mono{d:Re}(F:Fl l g H e a m h)(w:∀b o,d.get? b=Y o->∃j,g.get? b=Y j):Fl l d H e a m h:=by
 have no:∀b,g.get? b=M->d.get? b=M:=λb q=>by
  cases z:d.get? b with
  |none=>rfl
  |some o =>
   obtain⟨j,i⟩:=w b o z;rw[q]at i;cases i
 obtain⟨v,y,s,n,he,x,hd,f,u⟩:=F;refine⟨no _ v,y,s,n,he,x,hd,f,u.imp id ?_⟩;rintro⟨T,t,p,A,B,r⟩;exact⟨T,t,p,A,no _ B,r⟩
def wG(x:FC P w H h)(m:Mv g H f h d)(i:∀b∈f,H b=M):FC P w H d:=λa o e =>
 (x a o e).Hw (λb u k q=>m.keep b u q (.inr (by
   rcases k with rfl | k
   ·rw[e];exact λz=>nomatch z
   ·rw[k];exact λz=>nomatch z)) λz=>by
    have:=i b z;rcases k with rfl | k
    ·rw[this]at e;cases e
    ·rw[this]at k;cases k) (λ_ q=>q) (λ_ _ q=>q) λ_ _ _ q=>q
def Dl{d r l:Wi}{p H:Hp}{g a h j base:Re}{outer:List Env}(u:Un d l p H a h)(m:Mv g H r h j)(w:∀b o,a.get? b=Y o->g.get? b≠M)(A:∀b∈r,b∈d\/a.objs.size<=b)(B:d=LN outer)(y:h.FunFrames base outer):Un d l p H a j where
 keep:=λb o e n f x=>m.keep b o (u.keep b o e n f x) (.inl (w b o e)) λz=>(A b z).elim f λq=>absurd (ZS e) (Nat.not_lt.mpr q)
 slot:=λb o e n f x=>by
  obtain⟨D,q⟩:=u.slot b o e n f x;rw[B]at f;obtain⟨_,E,i,v⟩:=y.mem f;rw[q]at i;cases i;obtain⟨C,s⟩:=m.slot b _ q v;exact⟨C,s⟩
 free:=u.free
 there:=λb o e x=>by
  obtain⟨t,q⟩:=u.there b o e x;exact m.there b t q
 FY:=u.FY
 FP:=u.FP
 FJ:=u.FJ
def GT(P:PP)(w:SC)(d:Re):IK:=λouter H s E e b=>∃a cls g f,e=.ref a/\b.os=s.os/\AllBare b.gens/\Un (FA outer) [] H f s.heap b.heap/\FC P w f b.heap/\b.heap.FunFrames d outer/\Fl .none s.heap f a cls g b.heap/\E cls g f
structure JK(X:Cx)(pins:Xj)(g h:Re):Prop where
 old:∀b o,X.s₀.heap.get? b=some o->g.get? b≠none
 pin:∀p∈X.pn++pins,g.get? p.1≠none
 new:∀b,h.objs.size<=b->g.get? b=none
def XR(X:Cx)(R:L2.St)(d:IR)(e:Option GM)(H:Hp):Prop:=∀b s a g,Inv X b R H s->JK X b g s.heap->Fl .none g H a d e s.heap->X.xe (.ref a) s
def JK.here{g:Re}(I:Inv X a R H s)(f:X.ex=[])(h:∀b o,s.heap.get? b=Y o->∃d,g.get? b=Y d):JK X a s.heap g:=by
 refine⟨λb o e z=>?_,λp i z=>?_,λb hb=>?_⟩
 ·obtain⟨d,q⟩:=I.base.there b o e (by rw[f];exact λz=>nomatch z);rw[z]at q;cases q
 ·rw[(I.pin p i).1]at z;cases z
 ·cases z:s.heap.get? b with
  |none=>rfl
  |some o =>
   obtain⟨d,q⟩:=h b o z;exact absurd (ZS q) (Nat.not_lt.mpr hb)
section
variable{K:Wv}
def zU(j:E d h H):XR (fh (GT P w base) P w K mg base N qual scope f cd A outer s0 H0 E) R d h H:=by
 intro i s a g I e F;have Eg:=I.Eg;refine xy (g:=g) (H:=H) I.ok.frames I.stack L e.new (λb hb=>Eg.fresh hb) F λl m f2=>?_;exact⟨a,d,h,H,rfl,I.os,I.bare,(Dl (outer:=outer) (base:=base) I.base m e.old (λb hb=>by
  rw[LN,Xo]at hb;rcases Zi.mp (show b∈s0.heap.objs.size :: FA outer from hb) with rfl | hb
  ·exact .inr (Zj _)
  ·exact .inl hb) L I.Fd),wG Eg m I.Gm,m.frames I.Fd,f2.mono (λb o q=>Option.ne_none_iff_exists'.mp (e.old b o q)),j⟩
def XR.G9{E:XK}(I:Inv X d R H s)(h:GT X.prog X.w X.base X.stack H s E e j)(l:X.ex=[])(k:∀cls g i,E cls g i->XR X R cls g i):X.xe e j:=by
 obtain⟨a,cls,g,i,rfl,n,hb,m,Eg,r,q,p⟩:=h;exact k cls g i p d j a s.heap (I.Kq n m Eg hb λb hb=>nomatch hb) (JK.here I l λb o e=>m.there b o e λz=>nomatch z) q
def B3(X:Cx)(b:Sp)(t:TA):TE:=λR H Q=>t R H λa d=>b a d Q (XR X R)
def uT{X:Cx}{f:GM}(F:FnOk X.prog X.w X.K X.mg X.base (GT X.prog X.w X.base) k f y v n)(J:gV k X.A)(U:Gl X x)(L:X.mg x=Y (.ref f))(S:PySem.W.keepIn X.K (.ref f)=Z)(hb:Binds X.K y v [])(ha:PA X (e :: g) t)(EC:K3 x)(he:K1 e g X)(l:K2 a g X)(m:X.ex=[]) :
  PE X (.Call (.Name x p) (e :: g) [] a) (B3 X n t):=by
 intro b s R H Q I h;refine Yg (fj I U L ?_ EC);refine YW I.ok.mod.Jk S (thn (ha a b s R H _ I h) λi o G=>?_) he l;obtain⟨C,H1,d,r,q⟩:=G;refine⟨d.Fc,?_⟩;have B:=hb o i d.Fc (by rw[Zd];exact(by rw[← r.length];exact F.len _ _ _ _ q));rw[Zd]at B;refine Xn (YG (F.run X.A X.stack o H1 ⟨i,[]⟩ i C Q _ J d.IF B r q) λD s' j=>?_);cases D with
 |error e=>exact XR.G9 d j m λ_ _ _ z=>z
 |ok f =>
  cases f with
  |ret u=>exact d.after j
  |_=>exact j.elim
end
end XN
end
section
namespace VS
open PySem PySem.Spec PyProof.Rows L2 XN
inductive Res where | ok (v:Val) | ex (x:Str)
inductive IH where | ok (o:Out) | ex (x:Str) (U:VS.Env)
abbrev IJ:=VS.Env->Option Res
abbrev EV:=VS.Env->Option IH
noncomputable abbrev Gj:=W3->Option Res
def Rw(X:Cx)(R:L2.St)(x:Str)(H:Hp):Prop:=∀cls,X.mg x=Y cls->XR X R cls M H
def Um(G:Gx)(X:Cx)(J:Eo)(U:VS.Env)(R:L2.St)(H:Hp)(Q:VK):Res->Prop
 |.ok v=>∀u a F,aM H a->Rp G a u v.2 F->Fp J U H v.1 F->Q u a
 |.ex x=>∀a,aM H a->Rw X R x a
def RR(G:Gx)(X:Cx)(c:IJ):TE:=λR H Q=>∃J U r,SR G J U R H/\c U=Y r/\Um G X J U R H Q r
def N2(G:Gx)(X:Cx)(J:Eo)(U:VS.Env)(H:Hp)(D:Ends):IH->Prop
 |.ok o=>nq G J U H D o
 |.ex x b=>∀e d a,SR G e b d a->Eu J U H e b a->Rw X d x a
def Np(G:Gx)(X:Cx)(c:EV):TS:=λD R H=>∃J U o,SR G J U R H/\c U=Y o/\N2 G X J U H D o
def PVX(G:Gx)(X:Cx)(e:Expr)(c:IJ):Prop:=PE X e (RR G X c)
def PSX(G:Gx)(X:Cx)(a:Stmt)(c:EV):Prop:=PS X a (Np G X c)
def iZ(G:Gx)(X:Cx)(a:List Stmt)(c:EV):Prop:=Gi X a (Np G X c)
noncomputable def sL(c:Sx):EV:=λU=>(c U).map .ok
noncomputable def iU(a b:EV):EV:=λU=>(a U).bind λo=>match o with
 |.ok (.nx d)=>b d
 |o=>Y o
def J9(t:Ex)(a b:EV):EV:=λU=>(t U).bind λx=>(Lz x.2).bind λr=>if r then a U else b U
noncomputable def KC(c:IJ):Ex:=λU=>match c U with
 |some (.ok v)=>Y v
 |_=>M
def IW(S:Ex->Sx)(c:IJ):EV:=λU=>(c U).bind λr=>match r with
 |.ok _=>(S (KC c) U).map .ok
 |.ex x=>Y (.ex x U)
noncomputable def Je(g:Gj):Fn:=λa=>match g a with
 |some (.ok v)=>Y v
 |_=>M
def ip(g:Gj)(a:Ew):IJ:=λU=>(a U).bind λl=>(g (trees l)).bind λr=>match r with
 |.ok _=>(bq (Je g) a U).map .ok
 |.ex x=>Y (.ex x)
noncomputable def Iq(d e:Nat)(a:EV):Gj:=λb=>if b.length=d then
 (a (b.map (λt=>Y (.pu t))++List.replicate (e-d) M)).bind λo=>match o with
  |.ok (.rt v _)=>Y (.ok v)
  |.ok (.nx _)=>Y (.ok (.fr,.non))
  |.ex x _=>Y (.ex x)
  |_=>M else M
def Kz(G:Gx)(f:Wj)(g:Gj):Sp:=λe H Q E=>∃b d r,RpL G H e b d/\g b=Y r/\(match r with
 |.ok v=>∀u a F,aM H a->Rp G a u v.2 F->CK H d v.1 F->Q u a
 |.ex x=>∀cls a,f x=Y cls->aM H a->E cls M a)
section
variable{st:Stmt}
theorem N2.back(f:Eu J U H i d j):∀{o:IH},N2 G X J U H D o->N2 G X i d j D o
 |.ok _,h=>nq.back f h
 |.ex _ _,h=>λm l n s g=>h m l n s (f.trans g)
def nH{X:Cx}(h:PSV G X.EO st c):PSX G X st (sL c):=λd s R H D I i=>by
 obtain⟨J,U,o,f,e,k⟩:=i;obtain⟨g,e1,rfl⟩:=Zx.mp e;exact Z6 (h d s R H D (I.E8 _) ⟨J,U,g,f,e1,k⟩) (λ_ _ q=>q.Em) λ_ _ z=>False.elim z
def kW{X:Cx}(h:gg G X.EO Iy c):iZ G X Iy (sL c):=λd s R H D I i=>by
 obtain⟨J,U,o,f,e,k⟩:=i;obtain⟨g,e1,rfl⟩:=Zx.mp e;exact Z6 (h d s R H D (I.E8 _) ⟨J,U,g,f,e1,k⟩) (λ_ _ q=>q.Em) λ_ _ z=>False.elim z
def iP(h:PSX G X st a):iZ G X [st] a:=au h
def j4(l:PSX G X st a)(j:iZ G X Iy b):iZ G X (st :: Iy) (iU a b):=Gi.weak (oV l j) λD R H i=>by
 obtain⟨J,U,o,s,e,k⟩:=i;obtain⟨g,e1,e2⟩:=Zz.mp e;refine⟨J,U,g,s,e1,?_⟩;cases g with
 |ex x d=>cases e2;exact k
 |ok g =>
  cases g with
  |nx d=>exact λm n q h f=>⟨m,d,o,h,e2,k.back f⟩
  |rt v d=>cases e2;exact k
  |bk d=>cases e2;exact k
  |ct d=>cases e2;exact k
def yq{X:Cx}(i:HF G X.EO t f)(l:iZ G X A a)(j:iZ G X B b):PSX G X (.If t A B pos) (J9 f a b):=PS.weak (zE (PT.EO i) l j) λD R H h=>by
 obtain⟨J,U,o,s,e,k⟩:=h;obtain⟨⟨m,x⟩,ec,e1⟩:=Zz.mp e;obtain⟨g,n,e2⟩:=Zz.mp e1;refine⟨J,U,m,x,g,s,ec,n,λq d=>?_⟩;cases g with
 |true =>
  rw[Zr L]at e2;exact qF ⟨J,U,o,s.same d,e2,k.back (Eu.same d)⟩
 |false =>
  rw[Zp Zh]at e2;exact qW ⟨J,U,o,s.same d,e2,k.back (Eu.same d)⟩
def BU(h:PVX G X e ce):PV G X e (KC ce):=PE.weak h λR H Q f=>by
 obtain⟨J,U,m,r,s,e,k⟩:=f;unfold KC at e;split at e
 ·rename_i v d;cases e;exact⟨J,U,.ok (m,r),s,d,k⟩
 ·cases e
def Ef{G:Gx}{X:Cx}{e:Expr}{ce:IJ}{S:Ex->Sx}{W:TE->TS}{u:Ends->L2.St->VK}(h:PVX G X e ce)(m:∀{c:Ex},PV G X e c->PSV G X st (S c))(l:∀{t:TE},PE X e t->PS X st (W t))(n:∀t D R H,t R H (u D R)->W t D R H):PSX G X st (IW S ce):=λd s R H D I j=>by
 obtain⟨J,U,o,f,e,k⟩:=j;obtain⟨r,e1,e2⟩:=Zz.mp e;cases r with
 |ok v =>
  obtain⟨i,q,rfl⟩:=Zx.mp e2;exact m (BU h) d s R H D I ⟨J,U,i,f,q,k⟩
 |ex x =>
  cases e2;exact l h d s R H D I (n _ D R H ⟨J,U,.ex x,f,e1,λw g=>k J R w (f.same g) (Eu.same g)⟩)
def nP{pos:Pos}(h:PVX G X e ce)(d:swapsWith e M pos.line X.env=pure O):PSX G X (.Expr e pos) (IW (λc=>sX (xP c)) ce) :=
 Ef h (λq=>wD q d) (λq=>gf q d) λ_ _ _ _ q=>q
def x_call{X:Cx}(F:FnOk X.prog X.w X.K X.mg X.base (GT X.prog X.w X.base) k f N E (Kz G X.mg g))(hr:gV k X.A)(hg:Gl X x)(hm:X.mg x=Y (.ref f))(hk:PySem.W.keepIn X.K (.ref f)=Z)(hb:Binds X.K N E [])(ha:E7 G X.EO (e :: es) P)(EC:K3 x)(he:K1 e es X)(n:K2 pos es X)(o:X.ex=[]) :
  PVX G X (.Call (.Name x p) (e :: es) [] pos) (ip g P):=by
 refine PE.weak (uT F hr hg hm hk hb (λpos h s R H Q I hw=>Z6 (ha pos h s R H Q (I.E8 _) hw) (λ_ _ ⟨d,u,I',r,q⟩=>⟨d,u,I'.Em,r,q⟩) λ_ _ z=>False.elim z) EC he n o) λR H Q hq=>?_;refine L2.ak λP_ k_=>?_;obtain⟨J,U,r,s,e,k⟩:=hq;obtain⟨l,el,e1⟩:=Zz.mp e;obtain⟨r0,er,e2⟩:=Zz.mp e1;refine k_ ?_;cases r0 with
 |ok v =>
  obtain⟨C,ev,rfl⟩:=Zx.mp e2;obtain⟨J2,U2,l2,s2,TM,k2⟩:=call_of (⟨J,U,C.1,C.2,s,ev,k⟩);refine⟨J2,U2,l2,s2,TM,λd t B q1 j D=>?_⟩;have L:GA G (Je g) (d++[]) t Q (XR X R):=k2 d t B q1 j D;rw[Zd]at L;obtain⟨S,GS,m,r,h1,i,h3⟩:=L;unfold Je at i;split at i
  ·rename_i v' hv;cases i;exact⟨S,GS,.ok (m,r),h1,hv,h3⟩
  ·cases i
 |ex y =>
  cases e2;refine⟨J,U,l,s,el,λd t B q1 j D=>⟨trees l,B,.ex y,j,er,λcls u FW sm=>k u (q1.trans sm) cls FW⟩⟩
end
section
variable{K:Wv}
def fnX(F:Er K x b e f fd)(S:cg N B (ah e))(hp:B.length=X)(hn:N.length=l)(hb:∀(p:IR)(A:Pi)(outer:List PySem.Env)(s:FB)(H:Hp)(E:XK),gV k (A.deeper (envOfC b (ah e) s.heap.objs.size f p))->iZ G (fh (GT P w base) P w K mg base N b (ah e) f p A outer s H E) (aD e) c) :
  FnOk P w K mg base (GT P w base) (k+1) f fd B (Kz G mg (Iq X l c)):=by
 refine L2.ak λP_ C=>?_;obtain⟨oc,od,kV,doc,pm,an,p,ct,G8,rfl,lk,J⟩:=F.ex;refine C ?_;refine rq lk J S (λvs H Q E h=>?_) λA outer s H vs Q E hr h=>⟨_,hb p A outer s H E hr,?_⟩
 ·obtain⟨ts,Fs,r,R,d,_⟩:=h;unfold Iq at d;split at d
  ·rename_i D;rw[R.len.1,D,hp]
  ·cases d
 ·refine L2.ak λP_ C=>?_;obtain⟨ts,Fs,r,R,d,q⟩:=h;refine C ?_;unfold Iq at d;split at d
  ·rename_i D;obtain⟨o,e1,e2⟩:=Zz.mp d;have U:=oU R l vs.length L;rw[D]at U;have e3:L2.start N vs=vs.map Y++List.replicate (l-vs.length) M:=by
    unfold L2.start;rw[hn]
   rw[e3];refine⟨_,_,o,U,e1,?_⟩;cases o with
   |ex y n =>
    cases e2;exact λJ' R' i _ fr cls hm=>zU (q cls i hm λa o h=>(fr.keep a o h cR).1)
   |ok o =>
    cases o with
    |nx n =>
     cases e2;intro J' R' i s' fr;exact q .non i [] (λa o h=>(fr.keep a o h cR).1) .non ⟨Yh,λa h=>nomatch h⟩
    |rt v n =>
     cases e2;intro u i F' J' R' s' fr r' j;refine q u i F' (λa o h=>(fr.keep a o h cR).1) r' ?_;obtain⟨m,t⟩:=v;cases m with
     |fr=>exact⟨j.1,λa g=>(j.2 a g).elim id λz=>absurd z cR⟩
     |pu=>exact λa g=>(j a g).elim .inl λz=>z.elim (λz=>.inr (jC (H:=H) (vs:=vs) z)) λz=>absurd z cR
     |bo=>exact λa g=>(j a g).elim .inl λz=>z.elim (λz=>.inr (jC (H:=H) (vs:=vs) z)) λz=>absurd z cR
    |bk n=>cases e2
    |ct n=>cases e2
  ·cases d
def uo{G:Gx}{P:PP}{w:SC}{mg:Wj}{base:Re}{f:GM}{p:On}{n:List Str}{k:Nat}{g:Gj}(F:FnOk P w K mg base (GT P w base) k f p n (Kz G mg g)):FnOk P w K mg base EX k f p n (GA G (Je g)) where
 len:=λb H Q E h=>by
  obtain⟨d,l,m,r,j,a,q⟩:=h;unfold Je at a;split at a
  ·rename_i v i;cases a;exact F.len b H Q (λ_ _ _=>False) ⟨d,l,.ok (m,r),j,i,q⟩
  ·cases a
 run:=λA outer s H args u b Q E B C hb r h=>by
  obtain⟨d,l,m,t,j,a,q⟩:=h;unfold Je at a;split at a
  ·rename_i v i;cases a;refine YG (F.run A outer s H args u b Q (λ_ _ _=>False) B C hb r ⟨d,l,.ok (m,t),j,i,q⟩) λx D o=>?_;cases x with
   |error e =>
    refine L2.ak λJ y=>?_;obtain⟨_,_,_,_,_,_,_,_,_,_,_,z⟩:=o;refine y ?_;exact z
   |ok f=>cases f<;>exact o
  ·cases a
structure FnXt(P:PP)(w:SC)(K:Wv)(mg:Wj)(base:Re)(k:Nat)(x:Str)(ps:List Str)(G:Gx)(g:Gj):Prop where
 ex:∃f fd,FnOk P w K mg base (GT P w base) k f fd ps (Kz G mg g)/\mg x=some (.ref f)/\PySem.W.keepIn K (.ref f)=true/\Binds K fd ps []
def FnXt.plain(F:FnXt P w K mg base k x a G g):FnAt P w K mg base k x a G (Je g):=by
 obtain⟨f,fd,h,e,d,b⟩:=F.ex;exact⟨f,fd,uo h,e,d,b⟩
end
end VS
end
section
namespace XN
open PySem PySem.Spec PyProof.Rows L2
def BD{K:Wv}{C:GM}(X:K.In h)(e:PySem.W.excIn K C o a=Z):∃bm N nm q bs hdct sn sub ab col dd k0 k1 k2 k3 k5 b,
  h.get? C=Y (excClassObj nm q C N bs bm hdct sn sub ab col dd k0 k1 k2 k3 k5 a)/\h.Ns N b/\b "__init__" = M/\OwnTail h o bm:=by
 unfold PySem.W.excIn at e;split at e
 ·rename_i dct c slots at_
  split at e
  ·rename_i R p m l j i J g em H;rw[Z2,Z2,Z2,Z2,Z2]at e;refine L2.ak λQ r=>?_;obtain⟨⟨⟨⟨⟨A,z⟩,y⟩,x⟩,d⟩,w⟩:=e;have v:=eq_of_beq A;have u:=eq_of_beq z;subst v;subst u;obtain⟨f1,f2,P,f,G,F,E,D,B,L,n⟩:=c;have t:n=O:=by
    cases n with
    |false=>rfl
    |true=>cases y
   have s:slots=#[m,l,j,i,Y (.builtin J),g]:=by
    cases slots;exact congrArg Array.mk H
   subst t;subst s;subst em;refine r ?_;exact⟨p,f,f1,G,f2,F,E,D,B,L,dct,m,l,j,i,g,h.nsMap f,X _ _ at_,.of_isNs (PySem.W.isNs_of_in X d),PySem.W.nsMap_none_of_in X d (eq_of_beq w),PySem.W.tail_of_in X x⟩
  ·cases e
 ·cases e
def tm(x:dh P w H h a o):∃u,h.get? a=Y u:=by
 cases o with
 |lst b=>obtain⟨_,_,_,_,e⟩:=x;exact⟨_,e⟩
 |tup b=>obtain⟨_,_,_,_,p⟩:=x;obtain⟨_,e,_⟩:=p;exact⟨_,e⟩
 |dK d=>obtain⟨_,_,_,_,o,_,_,e,_⟩:=x;exact⟨_,e⟩
 |dT d=>obtain⟨_,_,_,_,o,_,_,e,_⟩:=x;exact⟨_,e⟩
 |set S n=>obtain⟨o,_,_,_,e,_⟩:=x;exact⟨_,e⟩
 |ins C j fs=>obtain⟨_,_,_,e,_⟩:=x;exact⟨_,e⟩
 |own y=>exact x
 |xd fs=>obtain⟨_,⟨_,_,_,e,_⟩,_⟩:=x;exact⟨_,e⟩
 |rng lo i=>obtain⟨_,_,_,e⟩:=x;exact⟨_,e⟩
 |frz o u=>exact⟨_,x.1⟩
 |tbl g=>obtain⟨_,e,_⟩:=x;exact⟨_,e⟩
 |met f y=>exact⟨_,x⟩
 |ext φ=>obtain⟨_,⟨_,e⟩,_⟩:=x;exact⟨_,e⟩
end XN
namespace VS
open PySem PySem.Spec PyProof.Rows L2 XN
section
def x_raise{X:Cx}(F:ExcBaseFacts B newId KY LS)(LJ:LS.contains (.type "BaseException")=Z)(hq:PySem.W.excIn X.K C LS newId=Z)(y:X.mg x=Y (.ref C))(hg:Gl X x)(hc:X.calm=Z)(ha:E7 G X.EO [e] cs)(EC:K3 x)(m:K1 e [] X)(n:(backTo pe (KM [] X.env)).any (·.1)=O)(p:X.ex=[]) :
  PSX G X (.Raise (Y (.Call (.Name x np) [e] [] pe)) M pos) (λU=>(cs U).bind λl=>if l.length<=1000 then Y (.ex x U) else M):=λd s R H D I hw=>by
 refine L2.ak λE g=>?_;obtain⟨J,U,o,r,eo,k⟩:=hw;obtain⟨l,el,e2⟩:=Zz.mp eo;refine g ?_;split at e2
 rotate_left
 ·cases e2
 rename_i hl;refine L2.ak λE g=>?_;cases e2;obtain⟨bm,N,nm,q,bs,hdct,sn,sub,ab,col,dd,k0,k1,k2,k3,k5,mN,hC,hN,SH,A⟩:=BD I.ok.mod.Jk hq;refine g ?_;refine wpAny_Raise_call_subT (C:=C) (nm:=nm) (q:=q) (N:=N) (bs:=bs) (hdct:=hdct) (sn:=sn) (sub:=sub) (ab:=ab) (col:=col) (dd:=dd) (k0:=k0) (k1:=k1) (k2:=k2) (k3:=k3) (k5:=k5) F (A.hasType LJ) (I.ok.hd hc) (by
  rw[m];exact n) SH (fj I hg y ⟨rfl,?_⟩ EC)
 rw[m];refine Wq ?_;have hw:=ha pe d s R H (λj f=>∃i,aM H f/\RpL G f j (trees l) i) (I.E8 _) ⟨J,U,l,r,el,λj f i q1 Q q3=>⟨i,q1,Q⟩⟩
 ·rw[m]at hw;refine Z6 hw (λus v S=>?_) λ_ _ z=>False.elim z;refine L2.ak λE g=>?_;obtain⟨j,f,I1,P,i,u,rp⟩:=S;refine g ?_;have h:=I1.Em;have bk:=h.bk;refine⟨rfl,?_,bk _ _ hC,hN.keeps bk,A.keeps bk,λh' a mk=>?_⟩
  ·rw[← P.length,rp.len.1,trees,Zw];exact ZF hl (by decide)
  ·refine k J R f (r.same u) (Eu.same u) _ y d _ a v.heap (h.kept (t':=v.toks) mk.keeps) (JK.here h p λb o e=>⟨o,mk.keeps b o e⟩) ⟨mk.new,?_,?_⟩
   ·cases z:f a with
    |none=>rfl
    |some o =>
     obtain⟨o',w⟩:=tm (h.Eg a o z);rw[mk.new]at w;cases w
   ·obtain⟨t,h1,_,_⟩:=mk.there;exact⟨_,_,h1,⟨rfl,rfl⟩,rfl,(by decide:1<6),.inl L⟩
end
end VS
end
section
namespace VS
open PySem PySem.Spec PyProof.Rows L2
def SR.any(s:SR G J U R H)(a:U[j]?=Y M)(v:Option V):SR G J U (R.set j v) H :=
 ⟨by rw[ZI];exact s.len,λi c h=>by
  obtain⟨u,d,b⟩:=s.rp i c h;exact⟨u,by rw[Yo (λz=>by rw[z,h]at a;cases a)];exact d,b⟩,s.nd,s.sep⟩
end VS
end
section
namespace XN
open PySem PySem.Spec PyProof.Rows L2
section
def rg(I:Inv X pins R H s)(m:Mv g H fs s.heap h')(d:JK X pins g s.heap)(w:∀b∈fs,b∈FA X.stack):Inv X pins R H { s with heap:=h' }:=by
 have sub:=λb hb=>Zi.mp (I.Gz b (w b hb));have cellK:∀c v,s.heap.IsCell c v->h'.IsCell c v:=λc v D=>by
  obtain⟨o,E,hd⟩:=D;obtain⟨y,q⟩:=m.slot c o E λP z=>by rw[hd]at z;cases z
  exact⟨_,q,hd⟩
 refine⟨I.ok,I.os,I.bare,⟨λb o e n hb f=>?_,λb o e n hb f=>?_,I.base.free,λb o e f=>?_,I.base.FY,I.base.FP,I.base.FJ⟩,?_,λx c e=>?_,I.free,I.Ey,λp t=>?_,wG I.Eg m λb hb=>I.Gm b (w b hb),I.len⟩
 ·exact m.keep b o (I.base.keep b o e n hb f) (.inl (d.old b o e)) λz=>(sub b z).elim ((λb o e=>ZV (ZY (ZS e) I.ok.above)) b o e) hb
 ·obtain⟨y,e1⟩:=I.base.slot b o e n hb f;obtain⟨_,Q,j,h⟩:=I.Fd.mem hb;rw[e1]at j;cases j;obtain⟨N,A⟩:=m.slot b _ e1 h;exact⟨N,A⟩
 ·obtain⟨B,e1⟩:=I.base.there b o e f;exact m.there b B e1
 ·obtain⟨C,F,G⟩:=I.loc;refine⟨C,Heap.UpToSlots.ns m.slot F,λi x v e1 e2 J=>?_⟩;obtain⟨u,r,l⟩:=G i x v e1 e2 J;refine⟨u,r,?_⟩;rcases l with l | ⟨k,c,e,z⟩
  ·exact .inl l
  ·exact .inr ⟨k,c,e,cellK c _ z⟩
 ·obtain⟨v,z⟩:=I.cell x c e;exact⟨v,cellK c v z⟩
 ·obtain⟨e,n,ne,h,L⟩:=I.pin p t;exact⟨m.keep p.1 p.2 e (.inl (d.pin p t)) λz=>(sub _ z).elim ne h,n,ne,h,L⟩
def tU(I:Inv X pins R H s)(d:JK X pins g s.heap)(t:g.get? a=M)(C:H a=M)(he:s.heap.get? a=Y i)(w:i.data=.fields y):Inv X pins R (upd H a (.frz i (.own a))) s:=by
 have ne:∀b o,H b=Y o->b≠a:=λb o e z=>by rw[z,C]at e;cases e
 refine⟨I.ok,I.os,I.bare,⟨I.base.keep,I.base.slot,λb o e n B=>?_,I.base.there,λb j e=>?_,λb o u e=>?_,λb A e=>?_⟩,I.loc,I.cell,?_,λx c e=>?_,λp l=>?_,λb o e=>?_,I.len⟩
 ·rw[ax λz=>d.old b o e (by rw[z];exact t)];exact I.base.free b o e n B
 ·have:=I.base.FY b j e;rw[ax (ne b _ this)];exact this
 ·have:=I.base.FP b o u e;rw[ax (ne b _ this)];exact this
 ·have:=I.base.FJ b A e;rw[ax (ne b _ this)];exact this
 ·rw[ax (λz=>by
  obtain⟨m,⟨o,D,E,f,h,_⟩,_⟩:=I.loc;rw[z,he]at f;cases f;rw[w]at h;cases h)]
  exact I.free
 ·rw[ax λz=>by
   obtain⟨v,o,f,h⟩:=I.cell x c e;rw[z,he]at f;cases f;rw[w]at h;cases h]
  exact I.Ey x c e
 ·obtain⟨e,n,r⟩:=I.pin p l;exact⟨e,by rw[ax λz=>d.pin p l (by rw[z];exact t)];exact n,r⟩
 ·by_cases hb:b=a
  ·subst hb;rw[ay]at e;cases e;exact⟨he,⟨i,he⟩⟩
  ·rw[ax hb]at e;refine(I.Eg b o e).Hw (λ_ _ _ q=>q) (λc q=>?_) (λc j q=>?_) λc _ _ q=>?_
   ·rw[ax (ne c _ q)];exact q
   ·rw[ax (ne c _ q)];exact q
   ·rw[ax (ne c _ q)];exact q
def name_goes(I:Inv X pins R H s)(U:X.N.Nodup)(D:X.N[j]?=Y n)(C:X.env.scope.names.lookup n=Y .local)(h:∀P,Inv X pins (R.set j M) H P->Q () P) :
  KB (FM X.prog X.w) A (do bindName X.env n .none;unbindBehindTheSuite X.env n F) Q E s:=by
 have S:X.env.kindOf n=Y .local:=C;have Js:(X.env.scope.kind == .class||(X.env.scope.kind == .module&&X.env.locals != X.env.globals))=O:=by rw[I.ok.kind];rfl
 refine Zq (wpAny_bindName (ju I U D (.inl C) (v:=V.non) L (λJ d=>?_) (.inr C)));refine wpAny_onRaise ?_;refine Zq (wpAny_point (Zq ?_));unfold deleteName;simp only[S,Js];rw[Zp (by decide)];obtain⟨m,hn,HS⟩:=id d.loc;have QG:j<R.length:=by rw[I.len];exact(Zk.mp D).1
 have mn:(m n).isSome=Z:=by
  obtain⟨u,r,l⟩:=HS j n .non D (by rw[Ya QG]) (.inl C);rcases l with⟨_,l⟩ | ⟨k,_⟩
  ·rw[l];rfl
  ·rw[S]at k;rcases k with k | k<;>cases k
 refine Zq (wpAny_nsDel_keeps hn λh2 v Lb GV=>?_);rw[mn];refine Za (wpAny_point (h _ ?_));have t:=λb hb=>GV.2 b hb;have th:∀b o,J.heap.get? b=Y o->∃y,h2.get? b=Y y:=λb o e=>by
  by_cases z:b=X.env.locals
  ·subst z;obtain⟨y,_,_,q,_⟩:=Lb;exact⟨y,q⟩
  ·exact⟨o,(t b z).trans e⟩
 have Mw:∀b o,X.s₀.heap.get? b=Y o->b≠X.env.locals:=λb o e=>ZV (ZY (ZS e) I.ok.above);have cellK:∀x c,X.env.cells.lookup x=Y c->∀v,J.heap.IsCell c v->h2.IsCell c v:=λx c e v hq=>by
  obtain⟨o,ho,hd⟩:=hq;exact⟨o,(t c (I.Kp x c e)).trans ho,hd⟩
 refine⟨d.ok,d.os,d.bare,⟨λb o e n hb B=>(t b (Mw b o e)).trans (d.base.keep b o e n hb B),λb o e n hb B=>?_,d.base.free,λb o e B=>?_,d.base.FY,d.base.FP,d.base.FJ⟩,⟨_,Lb,λi x w e1 e2 e3=>?_⟩,λx c e=>?_,d.free,d.Ey,λp hp=>?_,(λb o e=>(d.Eg b o e).Hw (λc u k q=>(t c λz=>by
  have f:=d.free;rw[← z]at f;rcases k with k | k
  ·rw[k,e]at f;cases f
  ·rw[k]at f;cases f).trans q) (λ_ q=>q) (λ_ _ q=>q) λ_ _ _ q=>q),by rw[ZI];exact I.len⟩
 ·obtain⟨sl,q⟩:=d.base.slot b o e n hb B;exact⟨sl,(t b (Mw b o e)).trans q⟩
 ·obtain⟨y,q⟩:=d.base.there b o e B;exact th b y q
 ·have G:i≠j:=λz=>by
   subst z;rw[Ya QG]at e2;cases e2
  rw[Yo (Yb G)]at e2;obtain⟨u,r,l⟩:=HS i x w e1 (by rw[Yo (Yb G)];exact e2) e3;refine⟨u,r,?_⟩;rcases l with⟨k,l⟩ | ⟨k,c,e,z⟩
  ·refine .inl ⟨k,?_⟩;show (if x=n then v else m x)=Y u;rw[Zp (λz=>by
    subst z;exact G ((List.getElem?_inj (Zk.mp e1).1 U).mp (e1.trans D.symm)))]
   exact l
  ·exact .inr ⟨k,c,e,cellK x c e _ z⟩
 ·obtain⟨v,z⟩:=d.cell x c e;exact⟨v,cellK x c e v z⟩
 ·obtain⟨e,n,ne,r⟩:=d.pin p hp;exact⟨(t _ ne).trans e,n,ne,r⟩
end
noncomputable abbrev Cx.hand(X:Cx)(a:GM):Cx:={ X with A:=X.A.mark (some (.ref a)),calm:=false,xe:=λ_ _=>False }
def p6{s:FB}(I:Inv X b R H s)(a:GM):Inv (Cx.hand X a) b R H s :=
 have ok:=I.ok
 ⟨⟨ok.mod,ok.kind,ok.glob,ok.blt,ok.above,ok.inj,ok.has,ok.Kr,(λz=>nomatch z),ok.frames,ok.JA,ok.M0,ok.tb,ok.bs,ok.IG,ok.Hz,ok.HU,ok.Fd,ok.Ju⟩,I.os,I.bare,I.base,I.loc,I.cell,I.free,I.Ey,I.pin,I.Eg,I.len⟩
def gO{X:Cx}(k:X.Ok)(I:Inv (Cx.hand X a) b R H s):Inv X b R H s :=
 ⟨k,I.os,I.bare,I.base,I.loc,I.cell,I.free,I.Ey,I.pin,I.Eg,I.len⟩
end XN
namespace VS
open PySem PySem.Spec PyProof.Rows L2 XN
noncomputable def Ed(j:Nat):Out->Out
 |.nx U=>.nx (U.set j M)
 |.rt v U=>.rt v (U.set j M)
 |.bk U=>.bk (U.set j M)
 |.ct U=>.ct (U.set j M)
def n5(b:EV)(j:Nat)(d:Str->Option Nat)(hd:Sx):Sx:=λU=>(b U).bind λo=>match o with
 |.ok o=>Y o
 |.ex x a=>(d x).bind λc=>if j<a.length then (hd (a.set j (Y (.pu (.obj c []))))).map (Ed j) else M
section
def CO{G:Gx}{X:Cx}{body Gy:List Stmt}{cb:EV}{ch:Sx}{j:Nat}{mt:Str->Option Nat}{y n:Str}{C:IR}{np pos Jm:Pos}(FG:X.stack=X.env :: X.outer)(Hc:X.env.frame=Y X.env.locals)(m:∀(W:Z0)(pn:Xj),iZ G { X with xe:=W,pn:=pn } body cb)(hh:∀a,gg G (Cx.hand X a) (b₀ :: Gy) ch)(hN:X.N.Nodup)(hj:X.N[j]?=Y n)(hl:X.env.scope.names.lookup n=Y .local)(hm:X.mg y=Y C)(hg:Gl X y)(EC:K3 y)(SM:∀x c,mt x=Y c->X.mg x=Y (.ref (G.ec c))/\PySem.W.exmOne X.K (.ref (G.ec c)) C=Y Z) :
  PSV G X (.Try body [.ExceptHandler (Y (.Name y np)) (Y n) (b₀ :: Gy) Jm] [] [] pos) (n5 cb j mt ch):=λi s R H D I hq=>by
 refine L2.ak λP_ k_=>?_;obtain⟨J,U,o,sr,e,k⟩:=hq;refine k_ ?_;refine wpAny_Try_except ?_;obtain⟨ox,e1,e2⟩:=Zz.mp e;generalize hW:(λ(e:IR) (s₁:FB)=>KB (FM X.prog X.w) X.A (noteFrame e X.env) (λ_ s₂=>KB (FM X.prog X.w) X.A (setFlight e M) (λ_ s₃=>KB (FM X.prog X.w) X.A (handleBy e X.env [.ExceptHandler (Y (.Name y np)) (Y n) (b₀ :: Gy) Jm]) (SP X i D) X.xe s₃) X.xe s₂) X.xe s₁)=W;have back:∀{Hx:Xj}{E:L2.St}{t:Hp}{s':FB},Inv { X with xe:=W,pn:=X.pn++i } Hx E t s'->Inv X i E t s':=λd=>⟨I.ok,d.os,d.bare,d.base,d.loc,d.cell,d.free,d.Ey,λp hp=>d.pin p (Z3 _ hp),d.Eg,d.len⟩
 refine Z6 (m W (X.pn++i) [] s R H D (⟨⟨I.ok.mod,I.ok.kind,I.ok.glob,I.ok.blt,I.ok.above,I.ok.inj,I.ok.has,I.ok.Kr,I.ok.hd,I.ok.frames,I.ok.JA,I.ok.M0,I.ok.tb,I.ok.bs,I.ok.IG,I.ok.Hz,I.ok.HU,I.ok.Fd,I.ok.Ju⟩,I.os,I.bare,I.base,I.loc,I.cell,I.free,I.Ey,λp hp=>I.pin p (by simpa using hp),I.Eg,I.len⟩) ⟨J,U,ox,sr,e1,?_⟩) (λf s1 Q=>?_) λ_ _ z=>z
 ·cases ox with
  |ok o1 =>
   cases e2;exact k
  |ex x U1 =>
   obtain⟨c,ec,e3⟩:=Zz.mp e2;split at e3
   rotate_left
   ·cases e3
   rename_i SW;refine L2.ak λP_ k_=>?_;obtain⟨o2,e4,rfl⟩:=Zx.mp e3;obtain⟨mx,me⟩:=SM x c ec;refine k_ ?_;intro J' E t RT fr cls Js Hx s1 a g d dm F;cases (mx.symm.trans Js);have N4:=back d;have S:JK X i g s1.heap:=⟨dm.old,λp hp=>dm.pin p (Z3 _ hp),dm.new⟩
   have JA:=N4.stack;have QU:=N4.ok.frames;rw[FG]at JA QU;rw[← hW];refine rE (g:=g) (H:=t) QU JA Hc (.inl L) S.new (λb m=>N4.Eg.fresh m) F λh1 m1 f1=>?_;have Uj:=rg N4 m1 S (λb m=>by rw[FG];exact m);have Rr:JK X i g h1:=⟨S.old,S.pin,λb m=>S.new b (ZF m1.sz m)⟩
   refine jY (fs:=L2.FA X.stack) f1 λh2 m2 f2=>?_;have PK:=rg Uj m2 Rr λb m=>m;have Ro:JK X i g h2:=⟨S.old,S.pin,λb m=>Rr.new b (ZF m2.sz m)⟩
   refine L2.ak λP_ k_=>?_;obtain⟨ga,Ha,oe,vs,he,⟨hc,Kl⟩,hd,_,_⟩:=id f2;refine k_ ?_;refine wpAny_handleBy_cons (codeAny_handlers_test (fj (p6 PK a) hg hm ?_ EC)) (λz=>nomatch z);refine(PySem.W.exm_one PK.Fc (hc ▸ (PySem.W.Looks.ld he).andThen .now) me) _ _ _ _ (λ_ _ q=>q) ?_;refine codeAny_handlers_suite_as ?_;refine jY (fs:=L2.FA X.stack) f2 λh3 m3 f3=>?_;refine L2.ak λP_ k_=>?_;obtain⟨ga,Ha,oe,vs,he,⟨hc,Kl⟩,hd,_,_⟩:=f3;refine k_ ?_;have Ui:=tU (rg (s:={ s1 with heap:=h2 }) PK m3 Ro λb m=>m) (⟨S.old,S.pin,λb m=>Ro.new b (ZF m3.sz m)⟩) ga Ha he hd;refine ju Ui hN hj (.inl hl) (v:=V.ref a) L (λs4 Uh=>?_) (.inr hl);have sm:aM t (upd t a (.frz oe (.own a))):=λb o q=>by
    rw[ax λz=>by rw[z,Ha]at q;cases q];exact q
   have f5:Eu J U H (ki J' j []) (U1.set j (Y (.pu (.obj c [])))) (upd t a (.frz oe (.own a))):=fr.trans ⟨λb o q nw=>⟨sm b o q,λz=>by
     rcases iW z with⟨_,z,_⟩ | z
     ·cases z
     ·exact nw z⟩,λb q z=>q ((sm.free z)),λb z=>by
     rcases iW z with⟨_,z,_⟩ | z
     ·cases z
     ·exact .inl z,λb z=>by
     rcases n0 z with⟨_,_,z⟩ | z
     ·cases z
     ·exact .inl z,Kept.of sm⟩
   have off:∀{P:VS.Env}{B:Eo}{l:L2.St}{h:Hp},SR G B P l h->j<P.length->SR G B (P.set j M) (l.set j M) h:=λq GD=>(q.drop j).any (by rw[Ya GD]) M;have OI:∀{P:VS.Env}{B:Eo}{l:L2.St}{h:Hp},SR G B P l h->l.length=X.N.length->SR G B (P.set j M) (l.set j M) h:=λq hlen=>off q (by rw[q.len,hlen];exact(Zk.mp hj).1);refine Z6 (hh a i s4 _ _ { nx:=λl h=>l.length=X.N.length->D.nx (l.set j M) h,rt:=λv h=>D.rt v h,bk:=λl h=>l.length=X.N.length->D.bk (l.set j M) h,ct:=λl h=>l.length=X.N.length->D.ct (l.set j M) h } (p6 Uh a) ⟨_,_,o2,((RT.same sm).put (c:=.pu (.obj c [])) SW (.exc (ay ..) ⟨hc,Kl,vs,hd⟩) (λ_ _ _ _ _ q=>q) (λ_ z=>nomatch z) (λ_ z=>nomatch z) λ_ _ _ _ _ _ z=>nomatch z),e4,?_⟩) (λf s6 Q=>?_) λ_ _ z=>False.elim z
   ·cases o2 with
    |nx P=>exact λB l h q Ll hlen=>k B _ h (OI q hlen) ((f5.trans Ll).trans (Eu.drop j))
    |bk P=>exact λB l h q Ll hlen=>k B _ h (OI q hlen) ((f5.trans Ll).trans (Eu.drop j))
    |ct P=>exact λB l h q Ll hlen=>k B _ h (OI q hlen) ((f5.trans Ll).trans (Eu.drop j))
    |rt v P=>exact λu h F2 B l q Ll r rf=>k u h F2 B _ (q.drop j) ((f5.trans Ll).trans (Eu.drop j)) r (rf.back f5)
   ·cases f with
    |next =>
     obtain⟨l,h,d,q⟩:=Q;exact name_goes (gO I.ok d) hN hj hl λs' Lx=>⟨_,h,Lx,q d.len⟩
    |brk =>
     obtain⟨l,h,d,q⟩:=Q;exact name_goes (gO I.ok d) hN hj hl λs' Lx=>⟨_,h,Lx,q d.len⟩
    |cont =>
     obtain⟨l,h,d,q⟩:=Q;exact name_goes (gO I.ok d) hN hj hl λs' Lx=>⟨_,h,Lx,q d.len⟩
    |ret u =>
     obtain⟨v,l,h,d,r,q⟩:=Q;exact name_goes (gO I.ok d) hN hj hl λs' Lx=>⟨v,_,h,Lx,r,q⟩
 ·cases f with
  |next =>
   obtain⟨E,t,d,q⟩:=Q;exact Xe ⟨E,t,back d,q⟩
  |brk=>obtain⟨E,t,d,q⟩:=Q;exact⟨E,t,back d,q⟩
  |cont=>obtain⟨E,t,d,q⟩:=Q;exact⟨E,t,back d,q⟩
  |ret u=>obtain⟨v,E,t,d,r,q⟩:=Q;exact⟨v,E,t,back d,r,q⟩
end
end VS
end
section
namespace XN
open PySem PySem.Spec PyProof.Rows L2 PySem.W
section
variable{K:Frag}
structure Hm(K:Frag)(D:GM):Prop where
 ga:findIn K (.ref D) "__getattribute__" = some (some (.builtin "BaseException.__getattribute__"))
 gn:findIn K (.ref D) "__getattr__" = some none
 cl:findObj K D none "__class__" = some (.bind (.builtin "getset_descriptor.__get__") (.builtin "object.__class__"))
 mo:mroIn K D (.type "object")=some true
 mb:mroIn K D (.type "BaseException")=some true
def vk{M:Model}(l:Looks M h (isInstance (.ref a) (.type "BaseException")) Z)(i:Q () ⟨h,g,d,t,b⟩):KB M A (checkBuiltinCall "BaseException.__getattribute__" ⟨[.ref a,f],[]⟩) Q E ⟨h,g,d,t,b⟩:=by
 have m:builtinKind "BaseException.__getattribute__" = Y .slot:=by decide +kernel
 have n:splitId "BaseException.__getattribute__" = Y ("BaseException", "__getattribute__"):=by decide +kernel
 have e:=F.args_bexc_ga (.ref a) f;refine Zq (l.at ?_);rw[Zp (by decide)];unfold argsOk at e;cases j:Manifest.signature? "BaseException.__getattribute__" with
 |none=>exact Za i
 |some sig =>
  rw[j]at e;exact((congrArg (λz=>KB M A z Q E ⟨h,g,d,t,b⟩) e).mpr (Za i))
def t9{s:FB}(C:Hm K D)(X:K.In s.heap)(I:InstAt s.heap a oe D none)(h:Q (Y (.ref D)) { s with toks:=s.toks+1 }):KB (FM prog w) A (getAttr? (.ref a) "__class__") Q E s:=by
 obtain⟨f,g,d,t,os⟩:=s;have b:=I.type (M:=FM prog w);have e:(Value.builtin "BaseException.__getattribute__" == Value.builtin "object.__getattribute__")=O:=by decide +kernel
 refine Zq (wpAny_mkText (Zq (wpAny_attempt (YC (Zq (b.at (Zq ((looks_findIn (M:=FM prog w) X C.ga).at ?_))))))));dsimp only;rw[e,Bool.and_false,Zp Zh];unfold getAttrByItsOwn hookBefore callGetattribute;rw[Zr (show onTheHeap (Value.ref D)=Z from rfl)];refine Zq ((looks_findIn (M:=FM prog w) X C.gn).at (Zq (wpAny_attempt (YC ?_))));rw[Bool.false_and,Zp Zh];unfold boundAndCalled;rw[((PySem.F.attr_Exception).ga.bind (.ref a))];refine Zq (Za ?_);refine Xn (codeAny_call_builtin (PySem.F.attr_Exception).ga.plain F.entry_bexc_ga (vk (b.andThen (looks_mroIn (M:=FM prog w) X C.mb)) ?_));refine Zq (Za ?_);refine Zq (Za (Zq (b.at (Zq ((looks_find (M:=FM prog w) X I C.cl).at ?_)))));refine Zq (YC (Xn (class_get X I C.mo (Za ?_))));exact handed_on L (Za h)
def oW(C:Hm K D):KitX K (.ref a) (.ref D) (λh=>InstAt h a oe D M):=by
 obtain⟨cd,b,_⟩:=Zz.mp C.mo;have at_:∃f e g,K.lookup D=Y ⟨f,e,.cls cd,g⟩:=by
  unfold clsIn at b;split at b
  ·rename_i f e r g d;cases b;exact⟨f,e,g,d⟩
  ·cases b
 obtain⟨f,e,g,d⟩:=at_
 refine⟨λ_ _ _ I=>I.type,λ_ _ X _ v t u m k q=>?_,λh j p o n l X i=>?_,λX I k=>t9 C X I k⟩
 ·exact Zq (wpAny_loadPart (k _ _ (X _ _ d)) (Za q))
 ·refine Bool.eq_false_iff.mpr λq=>?_;cases Value.ref.inj (beq_iff_eq.mp q);rw[X _ _ d]at i;cases i
end
end XN
namespace VS
open PySem PySem.Spec PyProof.Rows L2 XN
noncomputable def l8(a:Nat->Option Bool)(d:Ex):Ex:=λU=>(d U).bind λv=>match v.2 with
 |.obj c []=>(a c).map λb=>(.fr,.bl b)
 |_=>M
def DW(K:Wv)(u:V)(c:IR):List V->Hp->VK->Prop:=λd H Q=>∃a o D b,d=[.ref a,u]/\H a=Y (.frz o (.own a))/\(o.cls=.ref D/\o.dict=M/\∃d,o.data=.fields d)/\Hm K D/\PySem.W.kitOne K (.ref D) c=Y b/\Q (.bl b) H
section
def uH(g:∀z,RelV u z->z=c):da X (.builtin "isinstance") (DW X.K u c):=by
 intro d s R H n v Q I r h;refine L2.ak λA f=>?_;obtain⟨a,o,D,b,rfl,i,⟨m,l,t,j⟩,C,e,q⟩:=h;obtain⟨w,p,rfl,r1,r2⟩:=vals2 r;cases (r1);cases g _ r2;obtain⟨hg,_⟩:=(I.Eg a _ i)
 refine f ?_;exact Yn (oW C) I.Fc ⟨hg,m,by unfold PySem.W.notCls;rw[j],by rw[l];trivial⟩ e (λz=>nomatch z) λy=>⟨.bl b,H,I.tok _,rfl,q⟩
def u4(B:PV G X a ca)(r:PE X (.Name x p2) (L2.tC u))(p:∀z,RelV u z->z=c)(hK:X.K=G.K)(A:Gl X "isinstance")(w:X.mg "isinstance" = M)(P:∀k b,tb k=Y b->Hm X.K (G.ec k)/\PySem.W.kitOne X.K (.ref (G.ec k)) c=Y b)(h:KM [a,.Name x p2] X.env=(O,eval a X.env) :: KM [.Name x p2] X.env)(GV:KM [.Name x p2] X.env=(O,eval (.Name x p2) X.env) :: KM [] X.env)(d:(backTo pos (KM [Expr.Name x p2] X.env)).any (·.1)=O) :
  PV G X (.Call (.Name "isinstance" p1) [a,.Name x p2] [] pos) (l8 tb ca) :=
 PE.weak (jG (uH p) A w boot_isinstance (c9 B (c9 r je GV) h) (by decide) L h d) λR H Q q=>by
  refine L2.ak λP_ l=>?_;obtain⟨J,U,m,t,s,e,k⟩:=q;obtain⟨⟨j,y⟩,N,f⟩:=Zz.mp e;refine l ?_;split at f
  ·rename_i n o;obtain⟨b,E,e2⟩:=Zx.mp f;cases e2;obtain⟨D,C⟩:=P _ _ E;refine⟨J,U,j,y,s,N,λv S F e1 r1 f1=>?_⟩;subst o;generalize g:T.obj n []=z at r1;cases r1 with
   |exc q1 i =>
    cases g;exact⟨_,_,_,b,rfl,q1,i,D,C,k _ S _ e1 (.bl _) Fp.nil⟩
   |_=>cases g
  ·cases f
def C9(i:PV G X a ca)(m:Gl X x)(n:X.mg x=Y (.ref D))(p:K3 x)(j:X.K=G.K)(g:Gl X "isinstance")(f:X.mg "isinstance" = M)(l:∀k b,tb k=Y b->Hm X.K (G.ec k)/\PySem.W.kitOne X.K (.ref (G.ec k)) (.ref D)=Y b)(e:KM [a,.Name x p2] X.env=(O,eval a X.env) :: KM [.Name x p2] X.env)(o:KM [.Name x p2] X.env=(O,eval (.Name x p2) X.env) :: KM [] X.env)(d:(backTo pos (KM [Expr.Name x p2] X.env)).any (·.1)=O) :
  PV G X (.Call (.Name "isinstance" p1) [a,.Name x p2] [] pos) (l8 tb ca):=u4 (u:=.ref D) i (n4 m n L p) (λ_ h=>h) j g f l e o d
def Br(j:PV G X a ca)(o:Gl X x)(p:X.mg x=M)(e:bootBuiltins x=Y (.type n))(r:x ≠ "__name__")(s:K3 x)(l:X.K=G.K)(i:Gl X "isinstance")(g:X.mg "isinstance" = M)(m:∀k b,tb k=Y b->Hm X.K (G.ec k)/\PySem.W.kitOne X.K (.ref (G.ec k)) (.type n)=Y b)(f:KM [a,.Name x p2] X.env=(O,eval a X.env) :: KM [.Name x p2] X.env)(q:KM [.Name x p2] X.env=(O,eval (.Name x p2) X.env) :: KM [] X.env)(d:(backTo pos (KM [Expr.Name x p2] X.env)).any (·.1)=O) :
  PV G X (.Call (.Name "isinstance" p1) [a,.Name x p2] [] pos) (l8 tb ca):=u4 (u:=.ty n) j (rB o p e L r s) (λ_ h=>h) l i g m f q d
end
end VS
end
section
namespace VS
open PySem PySem.Spec PyProof.Rows L2 XN PySem.F
noncomputable def oA(x:Str)(a:Ew):EV:=λU=>(a U).bind λl=>if l.length<=1000 then Y (.ex x U) else M
section
variable{st:Stmt}
def zv{X:Cx}(F:FnXt X.prog X.w X.K X.mg X.base k x ps G d)(g:gV k' X.A)(j:E7 G X.EO (e :: es) cs)(h:k<=k')(i:Gl X x)(q:K3 x)(he:K1 e es X)(a:K2 pos es X)(b:X.ex=[]):PVX G X (.Call (.Name x p) (e :: es) [] pos) (ip d cs):=by
 obtain⟨f,fd,o,n,m,l⟩:=F.ex;exact x_call o (g.mono h) i n m l j q he a b
def lR{X:Cx}(h:PySem.W.excIn X.K C [.type "ValueError",.type "Exception",.type "BaseException",.type "object"] "ValueError.__new__" = Z)(i:X.mg x=Y (.ref C))(j:Gl X x)(l:X.calm=Z)(m:E7 G X.EO [e] cs)(n:K3 x)(g:K1 e [] X)(a:(backTo d (KM [] X.env)).any (·.1)=O)(b:X.ex=[]) :
  PSX G X (.Raise (Y (.Call (.Name x f) [e] [] d)) M pos) (oA x cs):=x_raise excBase_ValueError (by decide +kernel) h i j l m n g a b
end
section
variable{K:Wv}
noncomputable def zg:Fn:=λa=>match a with
 |[.scr _]=>Y (.fr,.bl Z)
 |_=>M
end
end VS
end
section
namespace VS
open PySem PySem.Spec PyProof.Rows L2 XN
section
def D5(K:Wv)(e:List V):List V->Hp->VK->Prop:=λd H Q=>∃a o D f b,d=[.ref a,.ref f]/\H a=Y (.frz o (.own a))/\(o.cls=.ref D/\o.dict=M/\∃d,o.data=.fields d)/\Hm K D/\H f=Y (.tup e)/\(∀g,aI e g->PySem.W.kitAny K (.ref D) g=Y b)/\Q (.bl b) H
def xC(f:List V):da X (.builtin "isinstance") (D5 X.K f):=by
 intro d s R H F E Q I r h;refine L2.ak λP_ l=>?_;obtain⟨a,o,D,g,b,rfl,t,⟨w,v,L,u⟩,C,p,e,q⟩:=h;obtain⟨N,J,rfl,r1,r2⟩:=vals2 r;cases (r1);cases (r2);obtain⟨hg,_⟩:=(I.Eg a _ t)
 obtain⟨_,m,i,_,j,B,A,n,x⟩:=(I.Eg g _ p)
 obtain⟨oc,S,U,G8⟩:=j;subst A;subst x;refine l ?_;exact PySem.W.kia_tup (oW C) I.Fc ⟨hg,w,by unfold PySem.W.notCls;rw[u],by rw[v];trivial⟩ B (e m i) (λz=>nomatch z) λP=>⟨.bl b,H,I.tok _,rfl,q⟩
def CT(b:Bool)(ha:PV G X a B)(S8:PA X d t)(ht:∀R H Q,Q h H->t R H Q)(OK:h.length<=1000)(hg:Gl X "isinstance")(hm:X.mg "isinstance" = M)(S:∀k,Hm X.K (G.ec k)/\∀u,aI h u->PySem.W.kitAny X.K (.ref (G.ec k)) u=Y b)(x:KM [a,.Tuple d f g] X.env=(O,eval a X.env) :: KM [.Tuple d f g] X.env)(GV:KM [.Tuple d f g] X.env=(O,eval (.Tuple d f g) X.env) :: KM [] X.env)(j:(backTo pos (KM [Expr.Tuple d f g] X.env)).any (·.1)=O) :
  PV G X (.Call (.Name "isinstance" E) [a,.Tuple d f g] [] pos) (l8 (λ_=>Y b) B) :=
 PE.weak (jG (xC h) hg hm boot_isinstance (c9 ha (c9 (uM S8) je GV) x) (by decide) L x j) λR H Q hq=>by
  refine L2.ak λP_ i=>?_;obtain⟨J,U,m,r,s,e,k⟩:=hq;obtain⟨⟨N,y⟩,ea,l⟩:=Zz.mp e;refine i ?_;split at l
  ·rename_i n P;refine L2.ak λP_ i=>?_;obtain⟨b',eb,e2⟩:=Zx.mp l;cases e2;cases eb;obtain⟨h1,h2⟩:=S n;refine i ?_;refine⟨J,U,N,y,s,ea,λv H' F e1 r1 f1=>ht R H' _ ⟨ZF OK (by decide),λp A=>?_⟩⟩;subst P;generalize w:T.obj n []=z at r1;cases r1 with
   |exc q1 D =>
    cases w;rename_i a1 o1;exact⟨_,_,_,p,b,rfl,by rw[ax (λz=>by rw[z,A]at q1;cases q1)];exact q1,D,h1,ay ..,h2,k _ _ _ (e1.trans (λc o q=>by rw[ax λz=>by rw[z,A]at q;cases q];exact q)) (.bl _) Fp.nil⟩
   |_=>cases w
  ·cases l
end
section
structure Lw(X:Cx)(C:GM)(es:List Expr)(us:List V):Prop where
 pa:PA X es λ_ H Q=>Q us H
 no:∀jj,aI us jj->PySem.W.kitAny X.K (.ref C) jj=some false
def xx:Lw X C [] []:=⟨λpos a s R H Q I h=>je pos a s R H Q I h,λb h=>by cases h;rfl⟩
def dy(m:Gl X x)(j:X.mg x=Y (.ref D))(l:PySem.W.kitOne X.K (.ref C) (.ref D)=Y O)(n:K3 x)(i:KM (.Name x p :: b) X.env=(O,eval (.Name x p) X.env) :: KM b X.env)(r:Lw X C b d):Lw X C (.Name x p :: b) (.ref D :: d) :=
 ⟨λpos a s R H Q I h=>c9 (n4 (v:=.ref D) m j L n) r.pa i pos a s R H Q I h,λo h=>by
  cases h with
  |cons f g =>
  rename_i u e;cases (f);show (match PySem.W.kitOne X.K (.ref C) (.ref D) with | some true=>some true | some false=>PySem.W.kitAny X.K (.ref C) e | none=>none)=_;rw[l];exact r.no e g⟩
def Af{h:List V}(o:PV G X a i)(p:h.length<=1000)(n:Gl X "isinstance")(m:X.mg "isinstance" = M)(f:∀k,Hm X.K (G.ec k)/\Lw X (G.ec k) b h)(l:KM [a,.Tuple b d e] X.env=(O,eval a X.env) :: KM [.Tuple b d e] X.env)(r:KM [.Tuple b d e] X.env=(O,eval (.Tuple b d e) X.env) :: KM [] X.env)(g:(backTo pos (KM [Expr.Tuple b d e] X.env)).any (·.1)=O) :
  PV G X (.Call (.Name "isinstance" j) [a,.Tuple b d e] [] pos) (l8 (λ_=>Y O) i) :=
 CT O o (f 0).2.pa (λ_ _ _ q=>q) p n m (λk=>⟨(f k).1,(f k).2.no⟩) l r g
end
end VS
end
section
namespace TS
open PySem PySem.Spec PyProof.Rows
def t6(o:∀v∈f,∃x t,v=Value.str x t){d:Array KF}(g:d.Perm (pairsOf f))(p:SortedToK strKind d (pairsOf f).size):((d.map (·.2)).toList.map strOf).Pairwise (λa b=>¬b.cps.toList<a.cps.toList):=by
 obtain⟨n,m⟩:=mU g;rw[Ws,List.pairwise_iff_getElem];intro i j r l u;have key:∀i (h:i<(d.map (·.2)).toList.length),KK strKind d i=(strOf (d.map (·.2)).toList[i]).cps.toList:=λi h=>by
  have e:d[i]?=Y ((d.map (·.2)).toList[i],(d.map (·.2)).toList[i]):=by
   rw[← Yj,← m,ZL,Zn h];rfl
  obtain⟨x,t,ex⟩:=o _ (n.mem_iff.mp (Yz h));unfold KK;rw[e];rw[ex];rfl
 have q:=p i j (Y0 u) (by rw[← g.size_eq];simpa using l);rw[key i r,key j l]at q;exact of_decide_eq_false q
def nz{A:Pi}(u:∀(p:Pi)(z:Z0),p.handled=A.handled->KB (FM prog w) p (collect x) (λf d=>(∀v∈f,∃x t,v=Value.str x t)/\f.length<64/\∀(out:Wh)(i:Re)(e:Nat),out.Perm f->(out.map strOf).Pairwise (λa b=>¬b.cps.toList<a.cps.toList)->(∀b o,d.heap.get? b=Y o->i.get? b=Y o)->i.get? d.heap.objs.size=Y (seqObj "list" out.toArray e)->Q (.ref d.heap.objs.size) { d with heap:=i }) z s) :
  KB (FM prog w) A (call (.builtin "sorted") [x]) Q E s:=by
 refine Calls.call_function_entry kind_sorted plain_sorted entry_sorted (args_sorted1 _) (?_);refine Zq (Za (Zq (Z6 (u A.in1 (λ_ _=>False) L) ?_ λ_ _ e=>e.elim)));rintro l d ⟨g,r,h⟩;refine Zq (wpAny_newList ?_ (by rw[Xy];omega));have j:(d.heap.push (seqObj "list" l.toArray 0)).get? d.heap.objs.size=Y (seqObj "list" l.toArray 0):=ZR _ L;refine Zq (YC (X2 slot_list_sort ⟨_,j,rfl⟩ entry_list_sort (list_sort_treeK strKind_oneLt j (strsAre_map _ g).keysOf (λC B rest e=>keyKind_strs (by rw[← e];exact strsAre_map _ g)) r λy n q=>⟨_,rfl,?_⟩) (args_list_sort _)));obtain⟨e,he⟩:=sortedHeap_at j;exact Za ⟨_,rfl,h ((arrOf y).map (·.2)).toList _ e (mU n).1 (t6 g n q) (λb o m=>by
  have hb:=ZS m;rw[sortedHeap_old (ZV hb) (by rw[size_push'];exact Ye hb),Heap.get?_push_ne _ _ _ (ZV hb)];exact m) he⟩
end TS
namespace L2
open PySem PySem.Spec PyProof.Rows TS
section
def jc{X:Cx}(hc:X.calm=Z):da X (.builtin "sorted") (λB H Q=>∃p,∃(d:List Str)(m:List V),B=[.ref p]/\d.length<64/\d.length=m.length/\H p=Y (.dK ((d.map Sum.inr).zip m)) ∧
  ∀(l:GM)(A:List Str),H l=M->A.Perm d->A.Pairwise (λa b=>¬b.cps.toList<a.cps.toList)->Q (.ref l) (upd H l (.lst (A.map V.str)))):=by
 intro f s R H B us Q I L h;refine L2.ak λP_ S=>?_;obtain⟨p,d,m,rfl,QS,hl,hq,q⟩:=h;obtain⟨u,rfl,N⟩:=L.one;cases N;obtain⟨U,hS,E,rel,z⟩:=qj I.Eg hq;obtain⟨ep,z⟩:=z.dictAt;refine S ?_;have SU:E.length=d.length:=by
  have:=rel.length;rw[Z9,Zw]at this;lia
 refine TS.nz λA' E' hA=>PySem.W.kdu_collect (PySem.W.kdl_dict hS) (hA.trans (I.ok.hd hc)) z (by rw[Z9,Zw]at U;lia) λD J acc kp F=>?_;have G:Inv X f R H { s with heap:=D,toks:=J }:=I.kept kp;have Tj:acc.toList.length=d.length:=by rw[YQ,F.1,SU]
 have each:∀i v,acc.toList[i]?=Y v->∃x t,v=Value.str x t/\d[i]?=Y x:=λi v g=>by
  rw[Yj]at g;obtain⟨k,x,e1,e2⟩:=F.2 i v g;have j:=(λi=>by
  have C:((E.map (·.1)))[i]?=(d.map (Sum.inr:Str->Key))[i]?:=by
   rw[← rel.keys];rw[Wm (by rw[Zw];exact Xl hl)]
  rw[ZL,ZL]at C;exact C) i
  rw[e1]at j;cases r:d[i]? with
  |none=>rw[r]at j;cases j
  |some y =>
   rw[r]at j;have e5:=Zo j;subst e5;obtain⟨t,rfl⟩:=Value.isStrOf_shape (e2);exact⟨y,t,rfl,r⟩
 have g:∀v∈acc.toList,∃x t,v=Value.str x t:=λv o=>by
  obtain⟨i,hi,e⟩:=List.getElem_of_mem o;obtain⟨x,t,e1,_⟩:=each i v (by rw[Zn hi,e]);exact⟨x,t,e1⟩
 have es:acc.toList.map strOf=d:=by
  apply List.ext_getElem?;intro i;rw[ZL];cases e:acc.toList[i]? with
  |none =>
   have:=Yx.mp e;rw[Yx.mpr (by lia)];rfl
  |some v =>
   obtain⟨x,t,rfl,e1⟩:=each i v e;rw[e1];rfl
 refine⟨g,by omega,λout h2 e n P NJ he=>?_⟩;exact⟨.ref D.objs.size,_,G.laid NJ (Zj _) (show dh X.prog X.w _ h2 _ (.lst ((out.map strOf).map V.str)) from⟨(by rw[Zw,Zw,n.length_eq,Tj,Xy];omega),out,e,oS (λv o=>g v (n.mem_iff.mp o)),he⟩),rfl,q _ _ (G.Eg.fresh (Zj _)) (by rw[← es];exact n.map _) P⟩
end
end L2
namespace VS
open PySem PySem.Spec PyProof.Rows L2
section
def gj:Wa->W0
 |[(_,.dct 0 l)]=>(strs? (l.map (·.1))).bind λa=>if a.length<64/\a.all Ob=Z then Y (.fr,.lst ((eX a).map .str)) else M
 |_=>M
def w6:eR G (λn H Q=>∃p,∃(d:List Str)(f:List V),n=[.ref p]/\d.length<64/\d.length=f.length/\H p=Y (.dK ((d.map Sum.inr).zip f)) ∧
  ∀(l:GM)(g:List Str),H l=M->g.Perm d->g.Pairwise (λa b=>¬b.cps.toList<a.cps.toList)->Q (.ref l) (upd H l (.lst (g.map V.str)))) gj:=by
 intro J U E H l f N m t Q A e k;unfold gj at e;split at e
 ·rename_i C x;obtain⟨d,e1,e2⟩:=Zz.mp e;split at e2
  ·rename_i hb;refine L2.ak λD w=>?_;cases e2;obtain⟨v,F,rfl,rfl,q⟩:=(A.rp).one;obtain⟨a,u,j,o,L,rfl,rfl,z,h,rfl,r⟩:=dP q;refine w ?_;have B:u.length=o.length:=by rw[h,r.len.1]
   rw[(Wm (by rw[Zw];exact Xl B))]at e1;have i:=keys_str e1;refine⟨a,d.map sx,j,rfl,by rw[Zw];exact hb.1,?_,by rw[← i];exact z,vH k A.same λs y=>Bd (ZE.mp hb.2 s y)⟩;rw[← h,i,Zw,Zw,Zw]
  ·cases e2
 ·cases e
def rH{X:Cx}(a:X.mg "sorted" = M)(f:E7 G X [e] cs)(b:{`q2,Gl X "sorted"})(g:{`q2,X.K=G.K})(d:{`q2,X.calm=Z})(he:{`q2,K1 e [] X}):PV G X (.Call (.Name "sorted" p) [e] [] pos) (eN gj cs) :=
 ik (jc d) w6 b a uf f (he:=he)
end
noncomputable def KU:T->Bool
 |.bl true=>Z
 |_=>O
mutual
def gh:T->Bool
 |.tup l=>cS l
 |.lst l=>cS l
 |.dct _ l=>oY l
 |.obj _ l=>eI l
 |_=>Z
def cS:W3->Bool
 |[]=>Z
 |t :: r=>gh t&&cS r
def oY:List (T×T)->Bool
 |[]=>Z
 | (_,v) :: r=>gh v&&oY r
def eI:List (Nat×T)->Bool
 |[]=>Z
 | (n,v) :: r=>(gh v && !(n==0&&KU v))&&eI r
end
theorem gA:∀{b:W3}{a:W3},b.length=a.length->oY (b.zip a)=Z->cS a=Z
 |[],[],_,_=>rfl
 |_ :: _,[],h,_=>nomatch h
 |[],_ :: _,h,_=>nomatch h
 |k :: b,t :: a,h,e=>by
  have e:=Zf.mp (e);exact Zf.mpr ⟨e.1,gA (Wu h) e.2⟩
theorem d9:∀{b:Wf}{a:W3},b.length=a.length->eI (b.zip a)=Z->cS a=Z
 |[],[],_,_=>rfl
 |_ :: _,[],h,_=>nomatch h
 |[],_ :: _,h,_=>nomatch h
 |k :: b,t :: a,h,e=>by
  have e:=Zf.mp (e);exact Zf.mpr ⟨(Zf.mp e.1).1,d9 (Wu h) e.2⟩
section
theorem Rp.at{v:V}(m:Me)(r:Rp G H v t F):gh t=Z->Rp (G.at m) H v t F :=
 Rp.rec (G:=G) (H:=H) (motive_2:=λg e j _=>cS e=Z->RpL (G.at m) H g e j)
  (λ_=>.non) (λb _=>.bl b) (λi _=>.int i) (λs h _=>.str s h) (λh _=>.scr h) (λh _ d f=>.tup h (d f)) (λh _ d f=>.lst h (d f))
  (λh l q d f=>.dct h l (d (gA (by rw[Zw,l];exact q.len.1) f))) (λh l q d f=>.dctT h l (d (gA (by rw[Zw,l];exact q.len.1) f)))
  (λh l n q d f=>.dctN h l n (d (gA (by rw[Zw,l];exact q.len.1) f))) (λh l q d f=>.dctZ h l (d (gA (by rw[Zw,l];exact q.len.1) f))) (λh u _=>.exc h u)
  (λ{c a y b x g e j} h l w q d f=>by
   have f:=Zf.mp (f);have hb:b=O:=by
    cases b with
    |false=>rfl
    |true=>exact nomatch f.1
   refine .ins h l (λz=>?_) (d (d9 (by rw[l];exact q.len.1) f.2));rw[hb]at z;cases z)
  (λ_ _ _ f=>nomatch f)
  (λ_=>.nil) (λ_ _ p o f=>by
   have f:=Zf.mp f;exact .cons (p f.1) (o f.2)) r
theorem RpL.at(m:Me):∀{b:List V}{a:W3}{d:Xd},RpL G H b a d->cS a=Z->RpL (G.at m) H b a d:=by
 intro b a
 induction a generalizing b with
 |nil=>intro d r f;cases r;exact .nil
 |cons t a e =>
  intro d r f;cases r with
  |cons r q=>exact .cons (r.at m (Zf.mp f).1) (e q (Zf.mp f).2)
mutual
theorem lC:∀t:T,Et t=Z->gh t=Z
 |.non,_=>rfl
 |.bl _,_=>rfl
 |.int _,_=>rfl
 |.str _,_=>rfl
 |.scr _,_=>rfl
 |.tup l,h=>rj l h
 |.lst _,h=>by cases h
 |.dct _ _,h=>by cases h
 |.obj _ _,h=>by cases h
theorem rj:∀l:W3,gq l=Z->cS l=Z
 |[],_=>rfl
 |t :: l,h=>by
  have h:=Zf.mp h;exact Zf.mpr ⟨lC t h.1,rj l h.2⟩
end
end
def nO(k:Nat):T->Option T
 |.obj (_+1) (_ :: fs)=>(fs.findIdx? λp=>p.1==k).bind λi=>(fs[i]?).map (·.2)
 |_=>M
def aU(k:Nat)(a:Ex):Ex:=λU=>(a U).bind λx=>(nO k x.2).map λt=>sub x.1 t
section
def w_fld{X:Cx}(Jq:iM G)(F:FE G X.K k f)(ha:PV G X a ca)(w:{`q7,SL a f X.env (eval a X.env)=eval a X.env}):PV G X (.Attribute a f pos) (aU k ca) :=
 PE.weak (vU ha w) λR H Q hq=>by
  refine L2.ak λP_ h=>?_;obtain⟨J,U,m,t,s,e,kq⟩:=hq;obtain⟨⟨mx,y⟩,ea,e1⟩:=Zz.mp e;obtain⟨z,d,e2⟩:=Zx.mp e1;refine h ?_;refine⟨J,U,mx,y,s,ea,λv H' F' S r1 f1=>?_⟩;unfold nO at d;split at d
  ·rename_i c q0 fs hy;refine L2.ak λP_ h=>?_;subst hy;obtain⟨j,B,e3⟩:=Zz.mp d;obtain⟨p,A,e4⟩:=Zx.mp e3;subst e4;obtain⟨c',a,dx,b,ns,vs,P,Fs,ec,rfl,rfl,rfl,rfl,hA,r,w,q⟩:=cH r1;cases ec;obtain⟨l,x0,D,C,g3,g4⟩:=jU (λn=>n==k) (r.trans q.len.1) B;have ek:l=k:=by simpa using g3
   subst ek;have ep:p=(l,x0):=by
    have:(ns.zip P)[j]?=Y (l,x0):=by rw[YU];exact⟨D,C⟩
    rw[this]at A;exact(Zo A).symm
   subst ep;obtain⟨u,Fi,N,L,g⟩:=q.get j C;refine h ?_;have E:=qg (G:=G) (c:=c+1) Jq r B D N;rw[F.nm c]at E;refine⟨a,_,dx,_,u,rfl,hA,F.cl c,F.no c,E,?_⟩;have fp:=((f1.sub (Yw _ _)).sub (dn L)).up g;unfold VS.sub at e2;rw[e2]at fp;have et:x0=t:=congrArg Prod.snd e2;rw[et]at g;exact kq u H' Fi S g fp
  ·cases d
def fi(i k:Nat)(e:Ex)(U:VS.Env):Option Out:=(e U).bind λv=>match U[i]? with
 |some (some (.ow (.obj (c+1) (q :: fs))))=>(fit v).bind λt=>if fs.length<900/\(fs.all λp=>!(p.1==k))=Z then Y (.nx (U.set i (Y (.ow (.obj (c+1) (q :: (fs++[(k,t)]))))))) else M
 |_=>M
theorem o8{k:Nat}{v:V}(n:∀k m:Nat,g k=g m->k=m):∀{b:Wf}{d:List V}{j:W3},b.length=d.length->b.length=j.length->((b.zip j).all λp=>!(p.1==k))=Z->hZ (g k) v ((b.map g).zip d)=((b++[k]).map g).zip (d++[v])
 |[],[],_,_,_,_=>rfl
 |[],_ :: _,_,h,_,_=>by simp at h
 |_ :: _,[],_,h,_,_=>by simp at h
 |_ :: _,_ :: _,[],_,h,_=>by simp at h
 |u :: b,s :: d,t :: j,r,q,l=>by
  rw[ZX,XY,Z2]at l;rw[Zm,ZX,hZ,Zp (λz=>by
   have:=n _ _ z;subst this;simp at l),o8 n (by simpa using r) (by simpa using q) l.2]
  rfl
def gP{X:Cx}{pos:Pos}(i k:Nat)(Jq:iM G)(F:FE G X.K k f)(he:PV G X e ce)(hN:{`q7,X.N[i]?=Y x})(hv:HD X.env.scope x:=by exact .inl L)(hd:{`q7,K3 x})(w:{`q7,K4 x})(hs:{`q7,swapsWith e (Y (.Attribute (.Name x p1) f pos')) pos.line X.env=pure O}):PSV G X (.Assign [.Attribute (.Name x p1) f pos'] e pos) (fi i k ce) :=
 PS.weak (A3 (eZ hN hv hd w) he hs) λD R H hq=>by
  obtain⟨J,U,out,s,e,kq⟩:=hq;obtain⟨⟨mv,h⟩,ev,e⟩:=Zz.mp e;split at e
  ·rename_i c q0 fs r;obtain⟨t,et,e⟩:=Zz.mp e;cases (jx et);split at e
   ·rename_i j;cases e;obtain⟨v,C,g2⟩:=s.rp _ _ r;refine⟨J,U,.fr,h,s,ev,λy H1 Fy p ry l=>⟨v,C,?_⟩⟩;refine L2.ak λP_ k_=>?_;obtain⟨c',a,Q,b,ns,vs,n,Fs,ec,rfl,rfl,rfl,P,A,u,hb,q⟩:=cH g2;cases ec;refine k_ ?_;have nd:=s.nd i _ r;rw[P]at nd;have B:=Ze.mp nd;have S:=p a _ A;have m1:Ep (H1 a):=by rw[S];exact True.intro
    have KL:=u.trans q.len.1;have na:a∉Fy:=λz=>by rw[l.2 a z]at A;cases A
    refine⟨a,_,Q,_,rfl,S,F.cl c,F.no c,(by
     have:=j.1;rw[Z9]at this ⊢;rw[Zw];lia),?_⟩
    have E:=o8 (k:=k) (v:=y) (Jq (c+1)) u KL j.2;rw[F.nm c]at E;rw[E];have off:=λd hb hw=>Ep.xl (q.EI d hb) (l.2 d hw);have g:Chg G H (.ref a) (J i) (.obj (c+1) ((0,.bl b) :: (ns.zip n++[(k,h)]))) (upd H1 a (.ins (G.ct (c+1)).1 Q (((ns++[k]).map (G.ct (c+1)).2).zip (vs++[y])))) (a :: (Fs++[Fy]).flatten):=by
     rw[P,show ns.zip n++[(k,h)]=(ns++[k]).zip (n++[h]) from by rw[List.zip_append KL];rfl];refine Chg.upd p Zu m1 (.ins ay (by simp[u]) hb (((q.same p).off m1 B.1).append (.cons (ry.keep (Kept.upd (.inl m1)) λd hb o ho=>by rw[ax (λz=>na (by rw[← z];exact hb))];exact ho) .nil))) ?_ ?_
     ·rw[Z8];refine Ze.mpr ⟨λm=>?_,ZO.mpr ⟨B.2,by simpa using l.1,λb hb c j z=>?_⟩⟩
      ·rcases Zc.mp m with m | m
       ·exact B.1 m
       ·exact na (by simpa using m)
      ·subst z;exact off b hb (by simpa using j)
     ·intro d hb;rcases Zi.mp hb with rfl | hb
      ·exact .inl Zu
      ·rw[Z8]at hb;rcases Zc.mp hb with hb | hb
       ·exact .inl (Zt _ hb)
       ·exact .inr (l.2 d (by simpa using hb))
    obtain⟨z1,z2⟩:=s.mut r C g;exact kq _ R _ z1 z2
   ·cases e
  ·cases e
end
noncomputable abbrev mF:=List (Nat×T)
noncomputable def GP(a:GM):Me:=λk=>if k=0 then Y (.ref a) else M
abbrev Mt:=mF->W3->Option (mF×T)
noncomputable def Fz:List Bool->Xd->Wi
 |b :: bs,F :: a=>(if b then F else [])++Fz bs a
 |_,_=>[]
noncomputable def Ih:List Bool->Xd->Wi
 |b :: bs,F :: a=>(if b then [] else F)++Ih bs a
 |_,_=>[]
theorem fR:∀{f:List Bool}{e:Xd}{j:Nat}{F:Wi},f[j]?=Y Z->e[j]?=Y F->F.Sublist (Fz f e)
 |[],_,_,_,h,_=>by simp at h
 |_ :: _,[],_,_,_,h=>by simp at h
 |b :: bs,g :: e,0,F,d,a=>by
  simp at d a;subst d a;rw[Fz,Zr L];exact List.sublist_append_left _ _
 |b :: bs,g :: e,j+1,F,d,a=>by
  rw[Fz];exact(fR (by simpa using d) (by simpa using a)).trans (YV _ _)
theorem oI:∀{f:List Bool}{e:Xd}{j:Nat}{F:Wi},f[j]?=Y O->e[j]?=Y F->F.Sublist (Ih f e)
 |[],_,_,_,h,_=>by simp at h
 |_ :: _,[],_,_,_,h=>by simp at h
 |b :: bs,g :: e,0,F,d,a=>by
  simp at d a;subst d a;rw[Ih];exact List.sublist_append_left _ _
 |b :: bs,g :: e,j+1,F,d,a=>by
  rw[Ih];exact(oI (by simpa using d) (by simpa using a)).trans (YV _ _)
theorem rD:∀{o:List Bool}{d:Xd}{i j:Nat}{F m:Wi},(Fz o d).Nodup->o[i]?=Y Z->o[j]?=Y Z->d[i]?=Y F->d[j]?=Y m->i≠j->∀a∈F,a∉m
 |[],_,_,_,_,_,_,h,_,_,_,_=>by simp at h
 |_ :: _,[],_,_,_,_,_,_,_,h,_,_=>by simp at h
 |b :: bs,q :: d,0,0,F,m,_,_,_,_,_,n=>absurd L n
 |b :: bs,q :: d,0,j+1,F,m,nd,l,g,f,e,n=>λa p r=>by
  simp at l f;subst l f;rw[Fz,Zr L,ZO]at nd;exact nd.2.2 a p a ((fR (by simpa using g) (by simpa using e)).subset r) L
 |b :: bs,q :: d,i+1,0,F,m,nd,l,g,f,e,n=>λa p r=>by
  simp at g e;subst g e;rw[Fz,Zr L,ZO]at nd;exact nd.2.2 a r a ((fR (by simpa using l) (by simpa using f)).subset p) L
 |b :: bs,q :: d,i+1,j+1,F,m,nd,l,g,f,e,n=>by
  rw[Fz,ZO]at nd;exact rD nd.2.1 (by simpa using l) (by simpa using g) (by simpa using f) (by simpa using e) (by lia)
theorem r6:∀{e:List Bool}{d:Xd}{a:GM},a∈Fz e d->∃(j:Nat)(F:Wi),e[j]?=Y Z/\d[j]?=Y F/\a∈F
 |[],_,_,h=>by simp[Fz]at h
 |_ :: _,[],_,h=>by simp[Fz]at h
 |b :: bs,m :: d,a,h=>by
  rw[Fz]at h;rcases Zc.mp h with h | h
  ·cases b with
   |true=>exact⟨0,m,rfl,rfl,h⟩
   |false=>simp at h
  ·refine L2.ak λn f=>?_;obtain⟨j,F,l,i,g⟩:=r6 h;refine f ?_;exact⟨j+1,F,by simpa using l,by simpa using i,g⟩
noncomputable def kz(b:Bool)(t:T):Wb:=Y (if b then .ow t else .pu t)
def xk(c:Nat)(U:VS.Env):Option mF:=match (U[(0:Nat)]?:Option (Wb)) with
 |some (some (.ow (.obj a ((0,.bl true) :: fs))))=>if a=c+1 then Y fs else M
 |_=>M
def GI(c d f:Nat)(e:List Bool)(body:Sx):Mt:=λfs a=>if a.length+1=d/\e.length=a.length then
 (body ((Y (.ow (.obj (c+1) ((0,.bl Z) :: fs))) :: List.zipWith kz e a)++List.replicate (f-d) M)).bind λo=>match o with
  |.rt v U=>(xk c U).bind λb=>if Et v.2 then Y (b,v.2) else M
  |.nx U=>(xk c U).map λb=>(b,.non)
  |_=>M else M
def Ic(G:Gx)(c:Nat)(d:List Bool)(g:Mt):Sp:=λl H Q _=>∃(a:GM)(i:List V)(fs:mF)(f:W3)(F:Wi)(e:Xd)(j:mF)(x:T),l=.ref a :: i/\Rp (G.at (GP a)) H (.ref a) (.obj (c+1) ((0,.bl Z) :: fs)) F ∧
 RpL (G.at (GP a)) H i f e/\d.length=f.length/\(F++Fz d e).Nodup/\(∀b∈F++Fz d e,b∉Ih d e)/\g fs f=Y (j,x) ∧
 ∀u h m,Chg (G.at (GP a)) H (.ref a) (F++Fz d e) (.obj (c+1) ((0,.bl Z) :: j)) h m->Rp (G.at (GP a)) h u x []->Q u h
section
def qm{f:List Bool}(r0:Rp G H v t F)(r:RpL G H D d l)(hm:f.length=d.length)(x:(F++Fz f l).Nodup)(S:∀b∈F++Fz f l,b∉Ih f l)(n U:Nat)(hn:U=D.length+1) :
  SR G (λi=>(F :: l).getD i []) ((Y (.ow t) :: List.zipWith kz f d)++List.replicate (n-(d.length+1)) M) ((v :: D).map Y++List.replicate (n-U) M) H ∧
  ∀a,cF (λi=>(F :: l).getD i []) ((Y (.ow t) :: List.zipWith kz f d)++List.replicate (n-(d.length+1)) M) a->a∈F++Fz f l:=by
 subst hn;have hl:=r.len;have J:(List.zipWith kz f d).length=d.length:=by rw[List.length_zipWith,hm,Y8]
 have back:∀{i:Nat}{c:Cell},((Y (Cell.ow t) :: List.zipWith kz f d)++List.replicate (n-(d.length+1)) M)[i]?=Y (Y c)->(i=0/\c=.ow t)\/∃(j:Nat)(b:Bool)(u:T),i=j+1/\f[j]?=Y b/\d[j]?=Y u/\c=(if b then .ow u else .pu u):=λ{i c} h=>by
  cases i with
  |zero=>exact .inl ⟨rfl,(Zo (Zo h)).symm⟩
  |succ j =>
   rw[XS,List.getElem?_cons_succ]at h;by_cases E:j<d.length
   ·rw[ZC (by rw[J];exact E),List.getElem?_zipWith]at h;have e1:=Zn (by rw[hm];exact E);have e2:=Zn E;rw[e1,e2]at h;exact .inr ⟨j,_,_,rfl,e1,e2,(Zo (Zo h)).symm⟩
   ·rw[Yy (by rw[J];exact ZQ E),Yd]at h;split at h<;>cases h
 have fp:∀{j:Nat}{u:T},d[j]?=Y u->∃w q,D[j]?=Y w/\l[j]?=Y q/\Rp G H w u q:=λ{j u} h=>r.get j h;have ow:∀{i:Nat}{u:T},((Y (Cell.ow t) :: List.zipWith kz f d)++List.replicate (n-(d.length+1)) M)[i]?=Y (Y (.ow u))->i=0\/∃j:Nat,i=j+1/\f[j]?=Y Z/\d[j]?=Y u:=λ{i u} h=>by
  rcases back h with⟨p,g⟩ | ⟨j,b,R,p,g,o,y⟩
  ·exact .inl p
  ·cases b with
   |true=>cases y;exact .inr ⟨j,p,g,o⟩
   |false=>cases y
 rw[ZO]at x;refine⟨⟨?_,λi c h=>?_,λi u h=>?_,λi j u c p g n=>?_⟩,λa ⟨i,u,p,g⟩=>?_⟩
 ·simp[J];lia
 ·rcases back h with⟨rfl,rfl⟩ | ⟨j,b,u,rfl,g,o,y⟩
  ·exact⟨v,rfl,r0⟩
  ·obtain⟨w,q,A,e,B⟩:=fp o;refine⟨w,?_,?_⟩
   ·rw[Zm,XS,List.getElem?_cons_succ,ZC (by rw[Zw];exact(Zk.mp A).1),ZL,A];rfl
   ·rw[YR,Zs,e,y];cases b<;>exact B
 ·rcases ow h with rfl | ⟨j,rfl,g,o⟩
  ·exact x.1
  ·obtain⟨w,q,A,e,B⟩:=fp o;rw[YR,Zs,e];exact x.2.1.sublist (fR g e)
 ·rcases ow p with rfl | ⟨X,rfl,Q,a3⟩
  ·rcases back g with⟨rfl,_⟩ | ⟨j',b,R,rfl,C,P,_⟩
   ·exact absurd L n
   ·obtain⟨w,q,A,e,B⟩:=fp P;intro a m;rw[YR,Zs,e];intro s;cases b with
    |true=>exact x.2.2 a m a ((fR C e).subset s) L
    |false=>exact S a (Z3 _ m) ((oI C e).subset s)
  ·obtain⟨w,Fi,A,e,B⟩:=fp a3;have ei:(F :: l).getD (X+1) []=Fi:=by rw[YR,Zs,e];rfl
   show ∀a∈(F :: l).getD (X+1) [],_;rw[ei];rcases back g with⟨rfl,_⟩ | ⟨j',b,R,rfl,C,P,_⟩
   ·exact λa m s=>x.2.2 a s a ((fR Q e).subset m) L
   ·obtain⟨w',q,k1,N,k3⟩:=fp P;intro a m;rw[YR,Zs,N];intro s;cases b with
    |true=>exact rD x.2.1 Q C e N (λz=>n (by rw[z])) a m s
    |false=>exact S a (ZK _ ((fR Q e).subset m)) ((oI C N).subset s)
 ·rcases ow p with rfl | ⟨j,rfl,o,y⟩
  ·exact Z3 _ g
  ·obtain⟨w,q,A,e,B⟩:=fp y;have JG:a∈(F :: l).getD (j+1) []:=g;rw[YR,Zs,e]at JG;exact ZK _ ((fR o e).subset JG)
def uG(h:xk c U=Y a):U[0]?=Y (Y (.ow (.obj (c+1) ((0,.bl Z) :: a)))):=by
 unfold xk at h;split at h
 ·rename_i d f e;split at h
  ·rename_i b;cases h;rw[e,b]
  ·cases h
 ·cases h
end
section
variable{K:Wv}
def Dn{G:Gx}{X:List Str}(ok:∀{sp:Sp},(∀j H Q E,sp j H Q E->j.length=X.length)->(∀(p:IR)(A:Pi)(outer:List PySem.Env)(s:FB)(H:Hp)(j:List V)(Q:VK)(E:XK),gV k (A.deeper (envOfC d (ah x) s.heap.objs.size f p))->sp j H Q E →
   ∃t,Gi (fh EX P w K mg base N d (ah x) f p A outer s H E).EO (aD x) t/\t { nx:=λ_ g=>Q .non g,rt:=Q } (L2.start N j) H)->FnOk P w K mg base EX (k+1) f fd X sp)(hp:X.length=np)(hn:N.length=J)(hb:∀(a:GM)(p:IR)(A:Pi)(outer:List PySem.Env)(s:FB)(H:Hp)(E:XK),gV k (A.deeper (envOfC d (ah x) s.heap.objs.size f p))->gg (G.at (GP a)) (fh EX P w K mg base N d (ah x) f p A outer s H E).EO (aD x) l) :
  FnOk P w K mg base EX (k+1) f fd X (Ic G c mv (GI c np J mv l)):=by
 refine ok (λj H Q E h=>?_) λp A outer s H j Q E hr h=>?_
 ·refine L2.ak λP_ n=>?_;obtain⟨a,D,fs,ts,F,Fs,Gr,y,rfl,r0,r,hm,nd,sp,e,q⟩:=h;refine n ?_;unfold GI at e;split at e
  ·rename_i hl;rw[ZU,r.len.1,hl.1,hp]
  ·cases e
 ·refine L2.ak λP_ n=>?_;obtain⟨a,D,fs,ts,F,Fs,Gr,y,rfl,r0,r,hm,nd,sp,e,q⟩:=h;refine n ?_;refine⟨_,hb a p A outer s H E hr,?_⟩;unfold GI at e;split at e
  ·rename_i hl;obtain⟨o,e1,e2⟩:=Zz.mp e;obtain⟨s0,IC⟩:=qm r0 r hm nd sp J (D.length+1) L;rw[hl.1]at s0 IC;have e3:L2.start N (V.ref a :: D)=(V.ref a :: D).map Y++List.replicate (J-(D.length+1)) M:=by
    unfold L2.start;rw[hn];rfl
   rw[e3];have fin:∀{m:VS.Env}{C:Eo}{R':L2.St}{g:Hp},xk c m=Y Gr->SR (G.at (GP a)) C m R' g->Eu (λi=>(F :: Fs).getD i []) ((Y (.ow (.obj (c+1) ((0,.bl Z) :: fs))) :: List.zipWith kz mv ts)++List.replicate (J-np) M) H C m g →
     Chg (G.at (GP a)) H (.ref a) (F++Fz mv Fs) (.obj (c+1) ((0,.bl Z) :: Gr)) g (C 0):=λ{m C R' g} SN B fr=>by
    have h0:=uG SN;refine L2.ak λP_ n=>?_;obtain⟨v',g1,g2⟩:=B.rp 0 _ h0;have LM:=g2;obtain⟨c',a',dx,b,ns,j,HM,GS,ec,rfl,eb,_,eF,hA,Uw,U,ra⟩:=cH LM;have IE:b=Z:=by cases eb;rfl
    cases (U IE);refine n ?_;refine⟨fr.kept,λS o' U ho=>(fr.keep S o' ho λz=>U (IC S z)).1,fr.EI,LM,B.nd 0 _ h0,λS U=>?_⟩;rcases fr.ow S ⟨0,_,h0,U⟩ with z | z
    ·exact .inl (IC S z)
    ·exact .inr z
   refine⟨_,_,o,s0,e1,?_⟩;cases o with
   |nx m =>
    refine L2.ak λP_ n=>?_;obtain⟨Tt,e4,R⟩:=Zx.mp e2;cases R;refine n ?_;intro C R' g B fr;exact q .non g _ (fin e4 B fr) .non
   |rt v m =>
    obtain⟨Tt,e4,R⟩:=Zz.mp e2;split at R
    ·rename_i hi;cases R;intro u g F' C R' B fr r' rf;have:=r'.Et hi;subst this;exact q u g _ (fin e4 B fr) r'
    ·cases R
   |bk m=>cases e2
   |ct m=>cases e2
  ·cases e
def QX{G:Gx}(F:Er K x d g f n)(S:cg N h (ah g))(p:h.length=i)(q:N.length=j)(r:∀(a:GM)(o:IR)(A:Pi)(outer:List PySem.Env)(s:FB)(H:Hp)(E:XK),gV k (A.deeper (envOfC d (ah g) s.heap.objs.size f o))->gg (G.at (GP a)) (fh EX P w K mg base N d (ah g) f o A outer s H E).EO (aD g) e) :
  FnOk P w K mg base EX (k+1) f n h (Ic G c m (GI c i j m e)):=Dn (λl b=>F.ok S l b) p q r
structure Hi(K:Wv)(x qual:Str)(st:Stmt)(f:GM)(fd:On):Prop where
 ex:∃(T:GM)(oc:IR)(od:Option GM)(kV doc pm:IR)(an:Option GM)(Eh ct:IR)(G8:Array (Wg))(o:Obj)(n:Nat),
  fd=PySem.W.fnOf x qual (bW st) (aD st) (ah st) (.ref T) kV doc pm an Eh ct/\K.lookup f=some ⟨oc,od,.func fd,G8⟩/\PySem.W.codeIn K Eh qual=true/\K.lookup T=some o/\o.data=.seq #[.none] n
 kp:PySem.W.keepIn K (.ref f)=true
def Hi.ok{k:Nat}(F:Hi K x a d f m)(S:cg N i (ah d))(j:∀b H Q E,g b H Q E->b.length=i.length)(y:∀(e:IR)(A:Pi)(outer:List PySem.Env)(s:FB)(H:Hp)(b:List V)(Q:VK)(E:XK),gV k (A.deeper (envOfC a (ah d) s.heap.objs.size f e))->g b H Q E →
   ∃t,Gi (fh EX P w K mg base N a (ah d) f e A outer s H E).EO (aD d) t/\t { nx:=λ_ v=>Q .non v,rt:=Q } (L2.start N b) H):FnOk P w K mg base EX (k+1) f m i g:=by
 refine L2.ak λB p=>?_;obtain⟨T,oc,z,kV,doc,pm,an,e,ct,C,o,n,rfl,lk,l,_⟩:=F.ex;refine p ?_;refine rq lk l S j λA outer s H b Q E r u=>?_;obtain⟨t,h,q⟩:=y e A outer s H b Q E r u;exact⟨t,h.EO,q⟩
def Hi.binds{e:List Str}(F:Hi K x a d f j)(h:∀(s:FB)(T:GM)(kV doc pm:IR)(an:Option GM)(g ct:IR)(o:Obj)(n:Nat)(b:Wh),K.In s.heap->K.lookup T=Y o->o.data=.seq #[.none] n->b.length=e.length->BindsTo s (PySem.W.fnOf x a (bW d) (aD d) (ah d) (.ref T) kV doc pm an g ct) ⟨b,[]⟩ (e.zip b)):Binds K j e []:=by
 obtain⟨T,oc,q,kV,doc,pm,an,g,ct,r,o,n,rfl,lk,p,m,l⟩:=F.ex;intro s b X i;rw[Zd]at i ⊢;exact h s T kV doc pm an g ct o n b X m l i
end
def argsOk:List Bool->Wa->Bool
 |[],[]=>Z
 |b :: bs,v :: a=>(if b then v.1 == .fr else Et v.2)&&argsOk bs a
 |_,_=>O
def gY(c:Nat)(e:List Bool)(g:Mt)(a:Wa):T->Option (T×Val)
 |.obj d ((0,.bl b) :: fs)=>if d=c+1/\eI fs=Z/\argsOk e a=Z/\cS (trees a)=Z then (g fs (trees a)).bind λz=>if eI z.1=Z/\Et z.2=Z then Y (.obj d ((0,.bl b) :: z.1),(.fr,z.2)) else M else M
 |_=>M
def aV(i:Nat)(a:List HE)(c:Nat)(d:List Bool)(g:Mt)(f:Ew)(U:VS.Env):Option (Val×VS.Env):=match (U[i]?:Option (Wb)) with
 |some (some (.ow t))=>(keys a U).bind λe=>(f U).bind λb=>(pm (gY c d g b) e t).map λz=>(z.2,U.set i (Y (.ow z.1)))
 |_=>M
def tX(G:Gx)(x:Xx):TE:=λR H Q=>∃J U v b,SR G J U R H/\x U=Y (v,b)/\Et v.2=Z/\∀u a d,SR G d b R a->Eu J U H d b a->Rp G a u v.2 []->Q u a
def PX(G:Gx)(X:Cx)(e:Expr)(x:Xx):Prop:=PE X e (tX G x)
theorem jd:∀{d:List Bool}{a:Wa},argsOk d a=Z->d.length=a.length
 |[],[],_=>rfl
 |[],_ :: _,h=>nomatch h
 |_ :: _,[],h=>nomatch h
 |b :: bs,v :: e,h=>by
  rw[ZU,ZU,jd (Zf.mp h).2]
theorem ly:∀{e:List Bool}{d:Wa}{Fs:Xd},argsOk e d=Z->(Fz e Fs).Sublist (FA d Fs)
 |[],[],_,_=>by simp[Fz]
 |[],_ :: _,_,h=>nomatch h
 |_ :: _,[],_,h=>nomatch h
 |b :: bs,v :: f,[],h=>by simp[Fz]
 |b :: bs,(m,t) :: f,F :: Fs,h=>by
  have h:=Zf.mp h;have a:=ly (Fs:=Fs) h.2;rw[Fz];cases b with
  |true =>
   have:m=.fr:=by simpa using h.1
   subst this;exact List.Sublist.append (Y9 _) a
  |false =>
   rw[Zp Zh,Y6];cases m with
   |fr=>exact a.trans (YV _ _)
   |pu=>exact a
   |bo=>exact a
theorem nY:∀{d:List Bool}{a:Wa}{f:List V}{e:Xd},argsOk d a=Z->RpL G H f (trees a) e->Ih d e=[]
 |[],[],_,_,_,_=>by simp[Ih]
 |[],_ :: _,_,_,h,_=>nomatch h
 |_ :: _,[],_,_,h,_=>nomatch h
 |b :: bs,(m,t) :: i,_,_,h,r=>by
  have h:=Zf.mp h;cases r with
  |cons g q =>
   rw[Ih,nY h.2 q,Zd];cases b with
   |true=>rfl
   |false=>exact g.Et (by simpa using h.1)
def su(h:argsOk e d=Z)(f:JJ J U H d l):∀a∈Fz e l,H a=M:=λa n=>by
 obtain⟨j,F,g,p,o⟩:=r6 n;have key:∀{e:List Bool}{d:Wa}{j:Nat},argsOk e d=Z->e[j]?=Y Z->∃v,d[j]?=Y v/\v.1=.fr:=by
  intro e
  induction e with
  |nil=>intro d j _ h;simp at h
  |cons b bs m =>
   intro d j h g;cases d with
   |nil=>exact nomatch h
   |cons v q =>
    have h:=Zf.mp h;cases j with
    |zero =>
     simp at g;subst g;exact⟨v,rfl,by simpa using h.1⟩
    |succ j =>
     obtain⟨w,q1,i⟩:=m h.2 (by simpa using g);exact⟨w,by simpa using q1,i⟩
 obtain⟨v,q1,i⟩:=key h g;have:=f.each j v F q1 p;rw[i]at this;exact this.2 a o
section
def pj(Jq:iM G)(hn:∀k,(G.ct (c+1)).2 k≠m)(ht:∀J U q R H (Rq:List V->Hp->Prop),SR G J U R H->cs U=Y q->(∀j p Fs,aM H p->RpL G p j (trees q) Fs->JJ J U H q Fs->Rq j p)->t R H Rq)(h:tX G (aV i way c mv g cs) R H Q):sj (G.ct (c+1)).1 m (Ic G c mv g) [] E (Nq G i way) t R H Q:=by
 refine L2.ak λP_ l=>?_;obtain⟨J,U,v,U',s,e,NN,kq⟩:=h;refine l ?_;unfold aV at e;split at e
 ·rename_i t0 F;refine L2.ak λP_ l=>?_;obtain⟨ks,ek,e3⟩:=Zz.mp e;obtain⟨q,el,e4⟩:=Zz.mp e3;obtain⟨⟨t',x2⟩,e5,e6⟩:=Zx.mp e4;cases e6;obtain⟨v0,h1,h2⟩:=s.rp _ _ F;obtain⟨w,x,F1,x3,w1,w2,w3,r,w5⟩:=lT ks Jq h2 (s.nd i t0 F) e5;refine l ?_;unfold gY at r;split at r
  ·rename_i c1 b fs;split at r
   ·rename_i hc;obtain⟨rfl,HR,L,Lh⟩:=hc;obtain⟨⟨Gr,y⟩,eg,S⟩:=Zz.mp r;split at S
    ·rename_i Jo;refine L2.ak λP_ l=>?_;cases S;obtain⟨c',a,dx,b',ns,j,ts,Fs,ec,rfl,eb,rfl,eF,hA,hl,hb,ra⟩:=cH w2;cases ec;cases eb;refine l ?_;have KL:=hl.trans ra.len.1;refine⟨J,U,t0,ks,v0,.ref a,s,F,h1,ek,w1,λH1 D=>⟨a,dx,_,rfl,D a _ hA,?_,?_⟩⟩
     ·have key:∀(ns:Wf)(j:List V),((ns.map (G.ct (c+1)).2).zip j).lookup m=M:=by
       intro ns
       induction ns with
       |nil=>intro j;simp
       |cons n ns ih =>
        intro j;cases j with
        |nil=>simp
        |cons v j =>
         rw[Zm,ZX,Yr];have:(m==(G.ct (c+1)).2 n)=O:=by
          rw[beq_eq_false_iff_ne];exact λz=>hn n z.symm
         rw[this];exact ih j
      exact key ns j
     ·refine ht J U q R H1 _ (s.same D) el λus H2 Gs EM JC JZ=>?_;have B:=D.trans EM;have KI:=su L (⟨λn v' N a1 a2=>(JZ.each n v' N a1 a2).back D,JZ.nd⟩);refine⟨a,us,ns.zip ts,trees q,F1,Gs,Gr,y,by rw[Zd],?_,JC.at (GP a) Lh,?_,?_,?_,eg,λu p N A ru=>?_⟩
      ·rw[eF];exact .ins (B a _ hA) hl (λ_=>rfl) ((ra.same B).at (GP a) (d9 KL HR))
      ·rw[jd L];simp[trees]
      ·refine ZO.mpr ⟨w3,JZ.nd.sublist (ly L),λd C b2 HJ z=>?_⟩;subst z;exact Ep.xl (w2.EI d C) (KI d HJ)
      ·rw[nY L JC];exact λd _ z=>nomatch z
      ·have back:Rp G p (.ref a) (.obj (c+1) ((0,.bl b) :: Gr)) N:=by
        refine L2.ak λP_ l=>?_;obtain⟨c2,a2,Rn,b2,OB,PQ,Od,RA,Ln,M3,Px,Pw,M4,MV,HI,HJ,Jc⟩:=cH A.rp;cases Ln;cases M3;subst Pw;refine l ?_;rw[M4];exact .ins MV HI hb (Jc.at G.me (d9 (HI.trans Jc.len.1) Jo.1))
       obtain⟨F2,g2⟩:=w5 p N (⟨(Kept.of B).trans A.kept,λd o1 C P=>A.keep d o1 (λz=>(Zc.mp z).elim C λz=>by rw[KI d z]at P;cases P) (B d o1 P),λd h=>A.EI d λz=>h (B.free z),back,A.nd,λd C=>by
        rcases A.sub d C with z | z
        ·rcases Zc.mp z with z | z
         ·exact .inl z
         ·exact .inr (KI d z)
        ·exact .inr (B.free z)⟩)
       obtain⟨z1,z2⟩:=s.mut F h1 g2;exact kq u p _ z1 z2 (ru.at G.me (lC y Jo.2))
    ·cases S
   ·cases r
  ·cases r
 ·cases e
def zh(y:iM G)(q:∀k,(G.ct (c+1)).2 k≠m)(p:HX G X o i way)(u:FD X.K (G.ct (c+1)).1)(r:Meth X.K (G.ct (c+1)).1 m f)(F:FnOk X.prog X.w X.K X.mg X.base EX k f fd ps (Ic G c mv g))(n:gV k' X.A)(t:k<=k')(v:Binds X.K fd ps [])(x:E7 G X (e :: es) cs)(z:K1 e es X)(a:K2 pos es X)(l:eval (.Call (.Attribute o m apos) (e :: es) [] pos) X.env=(do
   let b ← eval o X.env
   standAt apos.atName
   let (f,first) ← holding [b] (getMethod b m j)
   callWith pos f first (backTo pos (KM (e :: es) X.env)) (backToKw pos (Pv [] X.env)))):PX G X (.Call (.Attribute o m apos) (e :: es) [] pos) (aV i way c mv g cs) :=
 PE.weak (oG p u r F (n.mono t) v .nil kG x z a l) λR H Q h=>pj y q (λJ U d R H B s e k=>⟨J,U,d,s,e,k⟩) h
def vf(u:iM G)(n:∀k,(G.ct (c+1)).2 k≠m)(l:HX G X o i way)(r:FD X.K (G.ct (c+1)).1)(p:Meth X.K (G.ct (c+1)).1 m f)(F:FnOk X.prog X.w X.K X.mg X.base EX k f fd ps (Ic G c mv g))(j:gV k' X.A)(q:k<=k')(t:Binds X.K fd ps [])(d:eval (.Call (.Attribute o m apos) [] [] pos) X.env=(do
   let a ← eval o X.env
   standAt apos.atName
   let (f,first) ← holding [a] (getMethod a m b)
   callWith pos f first (backTo pos (KM [] X.env)) (backToKw pos (Pv [] X.env)))):PX G X (.Call (.Attribute o m apos) [] [] pos) (aV i way c mv g ag) :=
 PE.weak (qq l r p F (j.mono q) t .nil kG d) λR H Q h=>pj u n (λJ U x R H y s e k=>by
  cases (e);exact k [] H [] (aM.refl _) .nil ⟨λi v F h=>by simp at h,by simp[FA]⟩) h
def JB(x:Xx):Sx:=λU=>(x U).bind λz=>if Et z.1.2 then Y (.nx z.2) else M
def iR(j:Nat)(x:Xx):Sx:=λU=>(x U).bind λz=>if Et z.1.2=Z/\j<z.2.length then Y (.nx (z.2.set j (Y (.pu z.1.2)))) else M
def lZ(x:Xx):Sx:=λU=>(x U).bind λz=>if Et z.1.2 then Y (.rt (.fr,z.1.2) z.2) else M
def iA{pos:Pos}(h:PX G X e x)(n:swapsWith e M pos.line X.env=pure O):PSV G X (.Expr e pos) (JB x) :=
 PS.weak (gf h n) λD R H b=>by
  obtain⟨J,U,out,s,e,k⟩:=b;obtain⟨⟨v,j⟩,e1,e2⟩:=Zz.mp e;split at e2
  ·rename_i d;cases e2;exact⟨J,U,v,j,s,e1,d,λu p l a f r=>k l R p a f⟩
  ·cases e2
def rz(h:PX G X e x):PSV G X (.Return (Y e) pos) (lZ x) :=
 PS.weak (ny h) λD R H d=>by
  obtain⟨J,U,out,s,e,k⟩:=d;obtain⟨⟨v,l⟩,e1,e2⟩:=Zz.mp e;split at e2
  ·rename_i j;cases e2;exact⟨J,U,v,l,s,e1,j,λu p n b f r=>k u p [] n R b f r ⟨Yh,λa h=>nomatch h⟩⟩
  ·cases e2
def oQ{pos:Pos}(h:PX G X e x)(A:X.N.Nodup)(l:X.N[j]?=Y d)(t:Loc X.env.scope d)(w:swapsWith e (Y (.Name d b)) pos.line X.env=pure O)(z:X.fn d=Z\/X.env.scope.names.lookup d=Y .local) :
  PSV G X (.Assign [.Name d b] e pos) (iR j x) :=
 PS.weak (qx A l t h w z) λD R H y=>by
  obtain⟨J,U,out,s,e,k⟩:=y;obtain⟨⟨v,B⟩,e1,e2⟩:=Zz.mp e;split at e2
  ·rename_i l;cases e2;refine⟨J,U,v,B,s,e1,l.1,λu n C p f r=>?_⟩;obtain⟨q1,q⟩:=p.val (m:=.fr) l.2 (aM.refl n) r ⟨Yh,λa h=>nomatch h⟩ (.inl ⟨rfl,by decide⟩);exact k _ _ n q1 (f.trans q)
  ·cases e2
def jr(i:Nat)(a:List HE)(k:Ex)(x:Xx):Sx:=λU=>(x U).bind λz=>if Et z.1.2 then dJ i a k (λ_=>Y (.fr,z.1.2)) z.2 else M
def uE{mv:Md}(Jq:iM G)(s:SR G J U R H)(Q:U[i]?=Y (Y (.ow t)))(ek:keys way U=Y N)(Jv:ck U=Y (mk,b))(e5:pm (iX (mk,b) (mv,p)) N t=Y (t',y'))(Fg:aM H H1)(rv:Rp G H1 xv p Fv)(S:Fp J U H mv Fv)(k:∀J' H',SR G J' (U.set i (Y (.ow t'))) R H'->Eu J U H J' (U.set i (Y (.ow t'))) H'->D R H'):Do (Nq G i way) (tE G ck) zR xv R H1 D:=by
   refine L2.ak λP_ P=>?_;obtain⟨v,g1,g2⟩:=s.rp _ _ Q;obtain⟨w,x,F1,x3,w1,w2,w3,B,w5⟩:=lT N Jq g2 (s.nd i t Q) e5;refine P ?_;refine⟨J,U,t,N,v,w,s.same Fg,Q,g1,ek,w1.same Fg,λH2 EM=>⟨J,U,mk,b,(s.same Fg).same EM,Jv,λkv H3 Fk GU rk fk=>?_⟩⟩;have q:=(Fg.trans EM).trans GU;have Ie:=(rv.same EM).same GU;have fin:∀C A,Chg G H w F1 x3 C A->D R C:=λC A g=>by
    obtain⟨F2,LM⟩:=w5 C A g;obtain⟨z1,z2⟩:=s.mut Q g1 LM;exact k _ C z1 z2
   refine L2.ak λP_ P=>?_;cases x with
   |lst l =>
    cases b with
    |int n =>
     obtain⟨tt,et,e7⟩:=Zz.mp (B);obtain⟨j,ej,e8⟩:=Zx.mp e7;cases e8;cases (jx et);obtain⟨a,vs,Fs,rfl,rfl,F,u⟩:=w2.lst_inv;have E:=q a _ F;have nd:=Ze.mp w3;have na:a∉Fv:=λz=>by rw[S.2 a z]at F;cases F
     have y:Ep (H3 a):=by rw[E];exact True.intro
     have off:=λd hb hv=>Ep.xl (u.EI d hb) (S.2 d hv);refine P ?_;refine .inl ⟨a,vs,n,j,rfl,rk.int_inv,E,by rw[← nU,u.len.1];exact ej,fin _ (a :: (Fs.set j Fv).flatten) ?_⟩;refine Chg.upd q Zu y (.lst ay ((((u.same q).off y nd.1)).putAt j ((λr hn=>r.keep (Kept.upd (.inl y)) λd hb o' HQ=>by rw[ax (λz=>hn (by rw[← z];exact hb))];exact HQ) Ie na))) ?_ ?_
     ·rw[Ze];refine⟨λh=>?_,cX nd.2 S.1 λi' A _ hi d hb=>off d (cG hi hb)⟩;rcases bU h with z | ⟨i',A,_,h1,h2⟩
      ·exact na z
      ·exact nd.1 (cG h1 h2)
     ·intro d hb;rcases Zi.mp hb with rfl | hb
      ·exact .inl Zu
      ·rcases bU hb with z | ⟨i',A,_,h1,h2⟩
       ·exact .inr (S.2 d z)
       ·exact .inl (Zt _ (cG h1 h2))
    |_=>cases B
   |dct kd l =>
    cases kd with
    |zero =>
     have hc:(iu b=Z/\Et p=Z/\l.length<dH)/\x3=.dct 0 (dput l b p):=by
      have I0:(if iu b/\Et p/\l.length<dH then Y (T.dct 0 (dput l b p),()) else M)=Y (x3,y'):=B;split at I0
      ·rename_i hc;cases I0;exact⟨hc,rfl⟩
      ·cases I0
     obtain⟨⟨c1,c2,c3⟩,rfl⟩:=hc;have eF:=Ie.Et c2;subst eF;obtain⟨a,ns,vs,ts,Fs,rfl,rfl,F,hl,rfl,u⟩:=dP w2;obtain⟨kk,rfl,HW⟩:=dC rk c1;subst HW;have E:=q a _ F;have y:Ep (H3 a):=by rw[E];exact True.intro
     have nd:=Ze.mp w3;obtain⟨KR,HG,HM,GS,q1,q2,q3,q4,L⟩:=nN Ie hl (u.same q);refine P ?_;refine .inr ⟨a,_,rfl,pM.k E (by
      have:((ns.map aZ).zip ts).length<16777216:=c3;rw[Z9,Zw]at this;rw[Z9];have:=u.len.1;have:(FS:Nat)=16777216:=rfl;lia),fin _ (a :: GS.flatten) ?_⟩
     rw[q1,q3];refine Chg.upd q Zu y (.dct ay q2 (q4.off y λz=>nd.1 (L.subset z))) ?_ ?_
     ·exact Ze.mpr ⟨λz=>nd.1 (L.subset z),nd.2.sublist L⟩
     ·intro d hb;rcases Zi.mp hb with rfl | hb
      ·exact .inl Zu
      ·exact .inl (Zt _ (L.subset hb))
    |succ n=>cases B
   |_=>cases B
def sv{X:Cx}{pos:Pos}(Jq:iM G)(C:gV w X.A)(F:HX G X o i way)(L:PV G X b l)(he:PX G X e x)(P:∀v,assign (.Subscript o b d) X.env v=(do
   let j ← holding [v] (eval o X.env)
   let iv ← holding [v,j] (eval b X.env)
   standAt d
   holding [v,j,iv] (setItem j iv v)
   release [v,j,iv] []))(B:swapsWithSole [.Subscript o b d] e pos.line X.env=pure O)(hw:swappedStores [.Subscript o b d] e X.env=pure M)(Q:(assignEach [.Subscript o b d] X.env).map (·.2)=[assign (.Subscript o b d) X.env]):PSV G X (.Assign [.Subscript o b d] e pos) (jr i way l x) :=
 PS.weak (oK he (nK F L (rM (iQ C)) P) B hw Q) λD R H E=>by
  refine L2.ak λP_ y=>?_;obtain⟨J,U,out,s,e,k⟩:=E;obtain⟨⟨v,U'⟩,e1,e2⟩:=Zz.mp e;refine y ?_;split at e2
  ·rename_i N;refine⟨J,U,v,U',s,e1,N,λu H' J' q f r=>?_⟩;obtain⟨⟨mv,tv⟩,ev,e2⟩:=Zz.mp e2;cases ev;split at e2
   ·rename_i t z;obtain⟨ks,S,e2⟩:=Zz.mp e2;obtain⟨⟨mk,tk⟩,Jv,e2⟩:=Zz.mp e2;obtain⟨⟨t',y'⟩,e5,e6⟩:=Zx.mp e2;cases e6;exact uE Jq q z S Jv e5 (aM.refl H') r ⟨Yh,λa h=>nomatch h⟩ λJ2 H2 p n=>k _ R H2 p (f.trans n)
   ·cases e2
  ·cases e2
end
end VS
end
section
namespace L2
open PySem PySem.Spec PyProof.Rows
def qu:da X (.type "dict") (λf H Q=>∃(d:GM)(a:List (Key×V)),f=[.ref d]/\H d=Y (.dK a)/\∀l,H l=M->Q (.ref l) (upd H l (.dK a))):=by
 intro g s R H f w Q I m h;obtain⟨d,a,rfl,hd,q⟩:=h;obtain⟨u,rfl,n⟩:=m.one;cases n;obtain⟨i,t,v,rel,p⟩:=qj I.Eg hd;refine PySem.kt_call_dict t p (by rw[← Y7 rel];exact i) λx r j=>?_;exact⟨.ref s.heap.objs.size,_,I.laid (λb o e=>(j.2 b (ZV (ZS e))).trans (Zl _ e)) (Zj _) (qP i (beq_eq_false_iff_ne.mpr (Yb (ZV I.big))) rel r),rfl,q _ (I.Eg.fresh (Zj _))⟩
end L2
namespace VS
open PySem PySem.Spec PyProof.Rows L2
def j5:Wa->W0
 |[(_,.dct 0 l)]=>if gq (l.map (·.2))=Z then Y (.fr,.dct 0 l) else M
 |_=>M
section
def wB:eR G (λs H Q=>∃(d:GM)(n:List (Key×V)),s=[.ref d]/\H d=Y (.dK n)/\∀l,H l=M->Q (.ref l) (upd H l (.dK n))) j5:=by
 intro J U L H l z N m t Q A e k;unfold j5 at e;split at e
 ·rename_i C D;split at e
  ·rename_i j;refine L2.ak λE w=>?_;cases e;obtain⟨v,F,rfl,rfl,r⟩:=(A.rp).one;obtain⟨a,ns,u,B,y,rfl,rfl,x,i,rfl,f⟩:=dP r;refine w ?_;refine⟨a,_,rfl,x,λq h=>?_⟩;have g:aM H (upd H q (.dK (ns.zip u))):=cY h;rw[List.map_snd_zip (by rw[Zw,i,f.len.1];exact Zj _)]at j;refine k _ _ (q :: y.flatten) g (.dct ay i (f.same g)) ?_;rw[(f.Et j)];exact Fp.new (A.same.free h) (by simp) Fp.nil
  ·cases e
 ·cases e
def xT{X:Cx}(d:X.mg "dict" = M)(g:E7 G X [e] cs)(f:Gl X "dict")(he:K1 e [] X):PV G X (.Call (.Name "dict" p) [e] [] pos) (eN j5 cs) :=
 j9 qu wB f d yK g (he:=he)
def Aw{i d:Int}:PV G X (.Dict [Y (.Constant (.int i) j q)] [.Constant (.int d) l g] pos) (pq 0 [(Q2 i,Q2 d)]) :=
 PE.weak (xJ (xq oq oq xN) L L (by simp) (by show 1<=15;decide)) λR H Q n=>by
  refine L2.ak λt h=>?_;obtain⟨J,U,m,r,s,e,k⟩:=n;cases (e);refine h ?_;intro p f;refine⟨ay,[(Sum.inl i,.int d)],rfl,(by show 1<=15;decide),?_⟩;rw[zr];have:Rp G (upd H p (.dK [(Sum.inl i,V.int d)])) (.ref p) (.dct 0 ((([Sum.inl i]:List Key).map aZ).zip [.int d])) (p :: ([[]]).flatten) :=
   .dct ay L (.cons (.int d) .nil)
  exact k _ _ _ (cY f) this ⟨by simp,λb hb=>by simp at hb;rw[hb];exact f⟩
def tf(x y:Val):W0:=match x.2 with
 |.dct 0 l=>if iu y.2 then Y (match eV l y.2 with | some t=>sub x.1 t | none=>(.fr,.non)) else none
 |_=>M
def w_get{X:Cx}{apos:Pos}(D:gV kr X.A)(L:PV G X o ca)(he:PV G X e cb)(ES:SL o "get" X.env (eval o X.env)=eval o X.env)(Fm:((backTo pe (KM [e] X.env)).all (λx=>!x.1)&&(backToKw pe (Pv [] X.env)).all (λx=>x.1.isSome)
   && decide (([e]:List Expr).length+([]:List Keyword).length+(if ([]:List Keyword).isEmpty then 0 else 1)<30))=Z)(EA:(apos.endLine==pe.line)=Z)(Sv:backTo pe (KM [e] X.env)=[(O,eval e X.env)]):PV G X (.Call (.Attribute o "get" apos) [e] [] pe) (e2 tf ca cb) :=
 PE.weak (wJ (iQ D) L he ⟨ES,Fm,EA,Sv⟩) λR H Q E=>by
  obtain⟨J,U,m,r,s,e,t⟩:=E;obtain⟨⟨m1,x⟩,ea,e⟩:=Zz.mp e;obtain⟨⟨z,y⟩,eb,e⟩:=Zz.mp e;unfold tf at e;split at e
  ·rename_i l C;subst C;split at e
   ·rename_i P;have d:=Zo e;refine⟨J,U,m1,_,s,ea,λv H1 F1 n r1 f1=>?_⟩;refine L2.ak λP_ B=>?_;obtain⟨a,ks,vs,ts,Fs,rfl,rfl,h,N,rfl,q⟩:=dP r1;refine B ?_;refine⟨a,rfl,.inl ⟨_,.inl h⟩,J,U,z,y,s.same n,eb,λv2 u F2 g r2 f2=>?_⟩;obtain⟨kk,rfl,ek⟩:=dC r2 P;rw[ek]at d;rcases jN N (q.same g) with⟨h1,S⟩ | ⟨i,v,w,F,a1,a2,a3,a4,j⟩
    ·rw[h1]at d;cases d;refine⟨_,gD.k (g a _ h),?_⟩;rw[S];exact t .non u [] (n.trans g) .non Fp.nil
    ·rw[a1]at d;refine⟨_,gD.k (g a _ h),?_⟩;rw[a2];have f:=((f1.sub (Yw _ _)).sub (dn a4)).up j;unfold VS.sub at d;dsimp only at d;rw[d]at f;have et:w=r:=congrArg Prod.snd d;rw[et]at j;exact t v u F (n.trans g) j f
   ·cases e
  ·cases e
def oz(x y:Val):W0:=match x.2 with
 |.dct 3 l=>if iu y.2 then (eV l y.2).map (sub x.1) else M
 |_=>M
def pz(r:Rp G H v (.dct 3 l) F):∃(a:GM)(o:Obj)(f:List Key)(d:List V)(g:W3)(h:Xd),v=.ref a/\F=h.flatten/\H a=Y (.frz o (.dK (f.zip d)))/\f.length=d.length/\l=(f.map aZ).zip g/\RpL G H d g h:=r.inv
def BQ:eT G (Cz G.K) oz:=by
 intro J U S H x y u w F1 F2 m t Q d e k;obtain⟨m1,x⟩:=x;unfold oz at e;split at e
 ·rename_i l h;subst h;split at e
  ·rename_i n;obtain⟨N,e1,e2⟩:=Zx.mp e;obtain⟨a,o,P,D,E,Fs,rfl,rfl,r,j,rfl,q⟩:=pz d.r1;obtain⟨g,rfl,z⟩:=dC d.r2 n;rw[z]at e1;rcases jN j q with⟨s,_⟩ | ⟨i,v,L,F,C,B,R,A,f⟩
   ·rw[s]at e1;cases e1
   ·rw[C]at e1;cases e1;cases e2;refine .inr ⟨a,v,rfl,.inl ⟨_,g,.inr ⟨o,r⟩,rfl,B.symm⟩,?_⟩;exact k v H F (aM.refl _) f ((d.f1.sub (dn A)).up f)
  ·cases e
 ·cases e
def zN{X:Cx}(f:gV kr X.A)(i:PV G X a ca)(g:PV G X b cb)(d:jw b)(j:X.K=G.K):PV G X (.Subscript a b pos) (e2 oz ca cb) :=
 PE.weak (rC (II.or nV (oE (iQ f))) i g d) λR H Q h=>by rw[j];exact j6 BQ h
end
def eNew(c:Nat)(g:Mt)(b:Ew):Ex:=λU=>(b U).bind λa=>if cS (trees a)=Z then (g [] (trees a)).bind λz=>if eI z.1=Z/\KW z.2=Z then Y (.fr,.obj (c+1) ((0,.bl O) :: z.1)) else M else M
def cu(c:Nat)(g:Fn)(d:Ex)(b:Ew):Ex:=λU=>(d U).bind λx=>match x.2 with
 |.obj e (_ :: _)=>if e=c+1 then (b U).bind λa=>(g (x.2 :: trees a)).bind λr=>match r.1 with
  |.fr=>Y r
  |_=>M else M
 |_=>M
theorem qw{α:Type}:∀(l:List α)(a:Xd),Fz (l.map λ_=>O) a=[]
 |[],_=>by simp[Fz]
 |_ :: _,[]=>by simp[Fz]
 |_ :: l,F :: a=>by
  rw[Zm,Fz,Zp Zh,Y6];exact qw l a
theorem qY:∀(e:List Bool)(d:Xd),∀a∈Ih e d,a∈d.flatten
 |[],_,a,h=>by simp[Ih]at h
 |_ :: _,[],a,h=>by simp[Ih]at h
 |b :: bs,F :: d,a,h=>by
  rw[Ih]at h;rw[ZZ];rcases Zc.mp h with h | h
  ·cases b with
   |true=>simp at h
   |false=>exact Z3 _ (by simpa using h)
  ·exact ZK _ (qY bs d a h)
section
def yZ{G:Gx}(r:Rp G H u t F)(h:KW t=Z):u=.non:=by
 cases r with
 |non=>rfl
 |_=>cases h
def vX{X:Cx}(F:∀n,FnOk X.prog X.w X.K X.mg X.base EX k f fd ps (Ic G c (List.replicate n O) g)->True)(ht:∀J U d R H (Rq:List V->Hp->Prop),SR G J U R H->cs U=Y d->(∀v l Fs,aM H l->RpL G l v (trees d) Fs->JJ J U H d Fs->Rq v l)->t R H Rq)(n:Nat)(hn:∀U d,cs U=Y d->d.length=n)(hq:tE G (eNew c g cs) R H Q):vT (G.ct (c+1)).1 (Ic G c (List.replicate n O) g) [] E t R H Q:=by
 refine L2.ak λP_ B=>?_;obtain⟨J,U,mo,r,s,e,kq⟩:=hq;obtain⟨d,el,e1⟩:=Zz.mp e;refine B ?_;split at e1
 ·rename_i Lh;obtain⟨⟨Gr,y⟩,eg,e2⟩:=Zz.mp e1;split at e2
  ·rename_i S;cases e2;refine ht J U d R H _ s el λv H1 Gs N Mm MX a dx C O1 ne=>?_;have QO:=N.free C;have P:aM H1 (upd (upd H1 dx (.own a)) a (.ins (G.ct (c+1)).1 dx [])):=λb A q=>by
    rw[ax (λz=>by rw[z,C]at q;cases q),ax (λz=>by rw[z,O1]at q;cases q)];exact q
   have em:List.replicate n O=(List.range n).map λ_=>O:=by rw[List.map_const',Z4]
   have D:Fz (List.replicate n O) Gs=[]:=by rw[em];exact qw _ _
   refine⟨a,v,[],trees d,[a],Gs,Gr,y,by rw[Zd],.ins (ks:=[]) ay L (λ_=>rfl) .nil,(Mm.same P).at (GP a) Lh,?_,?_,?_,eg,λu l F' j ru=>⟨yZ ru S.2,?_⟩⟩
   ·simp[trees,(hn U d el)]
   ·rw[D];simp
   ·rw[D];intro b hb Gg;have:b=a:=by simpa using hb
    subst this;exact Ep.xl (Mm.EI b (qY _ _ b Gg)) C
   ·rw[D,Zd]at j;refine kq (.ref a) l F' (λb A q=>j.keep b A (λz=>?_) (P b A (N b A q))) (by
     refine L2.ak λP_ B=>?_;obtain⟨c2,a2,Rn,b2,OB,PQ,Od,RA,Ln,M3,Px,Pw,M4,MV,HI,HJ,Jc⟩:=cH j.rp;cases Ln;cases M3;subst Pw;refine B ?_;rw[M4];exact .ins MV HI (λz=>nomatch z) (Jc.at G.me (d9 (HI.trans Jc.len.1) S.1))) ⟨j.nd,λb hb=>?_⟩
    ·have:b=a:=by simpa using z
     rw[this,QO]at q;cases q
    ·rcases j.sub b hb with z | z
     ·have:b=a:=by simpa using z
      rw[this];exact QO
     ·exact(λb z=>N.free (P.free z)) b z
  ·cases e2
 ·cases e1
def Dg{G:Gx}{X:Cx}(n:Nat)(M:Mk X.K (G.ct (c+1)).1 f)(F:FnOk X.prog X.w X.K X.mg X.base EX k f fd ps (Ic G c (List.replicate n O) g))(d:gV k' X.A)(q:k+1<=k')(r:Gl X x)(l:X.mg x=Y (.ref (G.ct (c+1)).1))(t:Binds X.K fd ps [])(u:E7 G X (e :: es) cs)(j:∀U a,cs U=Y a->a.length=n)(v:K3 x)(he:K1 e es X)(b:K2 pos es X):PV G X (.Call (.Name x p) (e :: es) [] pos) (eNew c g cs) :=
 PE.weak (yC M F (d.mono q) r l t .nil kG u v he b) λR H Q h=>vX (X:=X) (k:=k) (f:=f) (fd:=fd) (ps:=ps) (λ_ _=>True.intro) (λJ U a R H y s e k=>⟨J,U,a,s,e,k⟩) n j h
def AN{G:Gx}{X:Cx}(M:Mk X.K (G.ct (c+1)).1 f)(F:FnOk X.prog X.w X.K X.mg X.base EX k f fd ps (Ic G c [] g))(b:gV k' X.A)(j:k+1<=k')(l:Gl X x)(d:X.mg x=Y (.ref (G.ct (c+1)).1))(n:Binds X.K fd ps [])(q:K3 x):PV G X (.Call (.Name x p) [] [] pos) (eNew c g ag) :=
 PE.weak (u6 M F (b.mono j) l d n .nil kG q) λR H Q h=>vX (X:=X) (k:=k) (f:=f) (fd:=fd) (ps:=ps) (λ_ _=>True.intro) (λJ U a R H r s e k=>by
  cases (e);exact k [] H [] (aM.refl _) .nil ⟨λi v F h=>by simp at h,by simp[FA]⟩) 0 (λU a e=>by
  cases (e);rfl) h
theorem iI{g:Nat->Str}(b:∀k,g k≠m):∀(ns:Wf)(a:List V),((ns.map g).zip a).lookup m=M
 |[],a=>by simp
 |_ :: _,[]=>by simp
 |n :: ns,v :: a=>by
  rw[Zm,ZX,Yr];have:(m==g n)=O:=by
   rw[beq_eq_false_iff_ne];exact λz=>b n z.symm
  rw[this];exact iI b ns a
def rT{G:Gx}(hn:∀k,(G.ct (c+1)).2 k≠m)(ht:∀J U d R H (D:List V->Hp->Prop),SR G J U R H->cs U=Y d->(∀l j z,aM H j->RpL G j l (trees d) z->JJ J U H d z->D l j)->t R H D)(hq:tE G (cu c h ca cs) R H Q):sj (G.ct (c+1)).1 m (GA G h) [] E (tE G ca) t R H Q:=by
 refine L2.ak λP_ q=>?_;obtain⟨J,U,mo,r,s,e,P⟩:=hq;obtain⟨⟨N,y⟩,ea,e1⟩:=Zz.mp e;refine q ?_;split at e1
 ·rename_i c' q0 fs S;subst S;split at e1
  ·rename_i hc;subst hc;obtain⟨d,el,e2⟩:=Zz.mp e1;obtain⟨⟨n,L⟩,eg,w⟩:=Zz.mp e2;refine⟨J,U,N,_,s,ea,λv H1 F1 A r1 f1=>?_⟩;refine L2.ak λP_ q=>?_;obtain⟨c2,a,dx,b,ns,l,ts,z,ec,rfl,eb,ef,eF,hA,hl,hb,ra⟩:=cH r1;cases ec;refine q ?_;refine⟨a,dx,_,rfl,hA,iI hn _ _,ht J U d R H1 _ (s.same A) el λus H2 Gs B JC JZ=>?_⟩;rw[Zd];refine⟨_ :: trees d,F1 :: Gs,n,L,.cons (r1.same B) JC,eg,λu j F' GU F C=>?_⟩;cases n with
   |fr =>
    cases w;exact P u j F' ((A.trans B).trans GU) F ⟨C.1,λb hb=>A.free (B.free (C.2 b hb))⟩
   |pu=>cases w
   |bo=>cases w
  ·cases e1
 ·cases e1
def AY{G:Gx}(t:∀k,(G.ct (c+1)).2 k≠m)(r:PV G X o ca)(y:FD X.K (G.ct (c+1)).1)(u:Meth X.K (G.ct (c+1)).1 m f)(F:FnOk X.prog X.w X.K X.mg X.base EX k f fd ps (GA G h))(n:gV k' X.A)(v:k<=k')(z:Binds X.K fd ps [])(B:E7 G X (e :: es) cs)(C:K1 e es X)(a:K2 pos es X)(l:eval (.Call (.Attribute o m apos) (e :: es) [] pos) X.env=(do
   let b ← eval o X.env
   standAt apos.atName
   let (f,first) ← holding [b] (getMethod b m j)
   callWith pos f first (backTo pos (KM (e :: es) X.env)) (backToKw pos (Pv [] X.env)))):PV G X (.Call (.Attribute o m apos) (e :: es) [] pos) (cu c h ca cs) :=
 PE.weak (oG r y u F (n.mono v) z .nil kG B C a l) λR H Q q=>rT t (λJ U d R H D s e k=>⟨J,U,d,s,e,k⟩) q
def yp{G:Gx}(n:∀k,(G.ct (c+1)).2 k≠m)(l:PV G X o ca)(u:FD X.K (G.ct (c+1)).1)(r:Meth X.K (G.ct (c+1)).1 m f)(F:FnOk X.prog X.w X.K X.mg X.base EX k f fd ps (GA G h))(j:gV k' X.A)(t:k<=k')(y:Binds X.K fd ps [])(d:eval (.Call (.Attribute o m apos) [] [] pos) X.env=(do
   let a ← eval o X.env
   standAt apos.atName
   let (f,first) ← holding [a] (getMethod a m b)
   callWith pos f first (backTo pos (KM [] X.env)) (backToKw pos (Pv [] X.env)))):PV G X (.Call (.Attribute o m apos) [] [] pos) (cu c h ca ag) :=
 PE.weak (qq l u r F (j.mono t) y .nil kG d) λR H Q q=>rT n (λJ U z R H B s e k=>by
  cases (e);exact k [] H [] (aM.refl _) .nil ⟨λi v F h=>by simp at h,by simp[FA]⟩) q
end
def l7(i:Nat)(a:List HE)(j:Nat)(U:VS.Env):Option Out:=match (U[i]?:Option (Wb)),(U[j]?:Option (Wb)) with
 |some (some (.ow t)),some (some (.ow u))=>if i≠j then (keys a U).bind λb=>(pm (λx=>aK x [(.fr,u)]) b t).map λz=>.nx ((U.set j M).set i (Y (.ow z.1))) else M
 |_,_=>M
open Classical in
noncomputable def less(H:Hp)(F:Wi):Hp:=λb=>if b∈F then M else H b
section
def oN(h:b∈F):less H F b=M:=Zr h
def gB(h:b∉F):less H F b=H b:=Zp h
def gr{o:HO}(h:less H F b=Y o):H b=Y o/\b∉F:=by
 by_cases q:b∈F
 ·rw[oN q]at h;cases h
 ·rw[gB q]at h;exact⟨h,q⟩
def tj(h:∀b∈F,Ep (H b)):Kept H (less H F) :=
 ⟨λb a e=>by
  rw[gB (λz=>by have:=h b z;rw[e]at this;exact this)];exact e,λb o u e=>by
  rw[gB (λz=>by have:=h b z;rw[e]at this;exact this)];exact e⟩
def ze{apos pos:Pos}(Jq:iM G)(ho:HX G X o i way)(hK:X.K=G.K)(hN:X.N[j]?=Y y)(hv:HD X.env.scope y)(hd:K3 y)(hcd:K4 y)(ES:SL o "append" X.env (eval o X.env)=eval o X.env)(Fm:((backTo pe (KM [.Name y p1] X.env)).all (λx=>!x.1)&&(backToKw pe (Pv [] X.env)).all (λx=>x.1.isSome)
   && decide ([Expr.Name y p1].length+([]:List Keyword).length+(if ([]:List Keyword).isEmpty then 0 else 1)<30))=Z)(EA:(apos.endLine==pe.line)=Z)(hs:KM [.Name y p1] X.env=(O,eval (.Name y p1) X.env) :: KM [] X.env)(Ez:(backTo pe (KM [] X.env)).any (·.1)=O)(Hl:swapsWith (.Call (.Attribute o "append" apos) [.Name y p1] [] pe) M pos.line X.env=pure O) :
  PSV G X (.Expr (.Call (.Attribute o "append" apos) [.Name y p1] [] pe) pos) (l7 i way j) :=
 PS.weak (gf (sH XW XZ Xa iF ho (c9 (eZ hN hv hd hcd) je hs) ES Fm EA hs Ez) Hl) λD R H hq=>by
  obtain⟨J,U,out,s,e,k⟩:=hq;unfold l7 at e;split at e
  ·rename_i t u ht B;split at e
   ·rename_i OX;refine L2.ak λP_ k_=>?_;obtain⟨r,ek,e3⟩:=Zz.mp e;obtain⟨⟨E,x2⟩,e5,e6⟩:=Zx.mp e3;cases e6;obtain⟨vj,j1,j2⟩:=s.rp _ _ B;have Qv:=j2;have Sg:=s.nd j u B;have kp:=tj Qv.EI;have S:SR G J (U.set j M) R (less H (J j)):=⟨(s.drop j).len,λF P h=>by
     obtain⟨n,h'⟩:=cK h;obtain⟨v,L,h2⟩:=s.rp F P h';exact⟨v,L,h2.keep kp λb hb d JD=>by rw[gB ((λF P n h b hb Gg=>s.sep j F u P B h (Yb n) b Gg hb) F P n h' b hb)];exact JD⟩,(s.drop j).nd,(s.drop j).sep⟩
    have OL:(U.set j M)[i]?=Y (Y (.ow t)):=by
     rw[Yo (Yb OX)];exact ht
    obtain⟨v,L,h2⟩:=S.rp _ _ OL;obtain⟨w,x,F1,x3,w1,w2,w3,A,w5⟩:=lT r Jq h2 (S.nd i t OL) e5;refine k_ ?_;unfold aK at A;dsimp only at A;split at A
    ·rename_i l yv heq;cases heq;obtain⟨z,ez,e7⟩:=Zz.mp A;cases (ez);split at e7
     ·rename_i hl;cases e7;obtain⟨a,us,Gs,rfl,rfl,ha,ra⟩:=w2.lst_inv;obtain⟨O5,QL⟩:=gr ha;refine⟨J,U,t,r,v,.ref a,s,ht,L,ek,(by
       have:∀{r:List Ky}{v w:V},Gu G (less H (J j)) r v w->Gu G H r v w:=by
        intro r v w p
        induction p with
        |nil v=>exact .nil v
        |fld h l _ f=>exact .fld (gr h).1 l f
        |ix h l m _ f=>exact .ix (gr h).1 l m f
        |key h l _ f=>exact .key (gr h).1 l f
        |un _ f=>exact .un f
       exact this w1),λH0 g=>⟨.inl ⟨rfl,us,by rw[hK];exact EW.of (g a _ O5)⟩,vj,j1,a,us,vj,rfl,rfl,g a _ O5,by rw[ra.len.1];exact hl,?_⟩⟩
      have m0:Ep (H0 a):=by rw[g a _ O5];exact True.intro
      have NF:=Ze.mp w3;have Ou:=λb hb Gg=>by
       have:=ra.EI b hb;rw[oN Gg]at this;exact this
      have C:∀b d,less H (J j) b=Y d->H0 b=Y d:=λb d h=>g b d (gr h).1;have kl:Kept (less H (J j)) H0:=⟨λb xs h=>C b _ h,λb d u h=>C b _ h⟩
      obtain⟨F2,g2⟩:=w5 _ _ (by
       refine⟨kl.trans (Kept.upd (.inl m0)),λb d hb h=>by rw[ax (λz=>hb (by rw[z];exact Zu))];exact C b d h,λb h z=>?_,.lst ay ((RpL.off (ra.keep kl λb hb d h=>C b d h) m0 NF.1).append (.cons (((Qv.same g)).keep (Kept.upd (.inl m0)) λb hb d ho=>by rw[ax (λz=>QL (by rw[← z];exact hb))];exact ho) .nil)),?_,λb hb=>?_⟩
       ·by_cases q:b=a
        ·rw[q,ay]at z;cases z
        ·rw[ax q]at z;cases e:less H (J j) b with
         |none=>exact h e
         |some d=>rw[C b d e]at z;cases z
       ·rw[Z8];refine Ze.mpr ⟨λm=>?_,ZO.mpr ⟨NF.2,by simpa using Sg,λb hb c hc z=>?_⟩⟩
        ·rcases Zc.mp m with m | m
         ·exact NF.1 m
         ·exact QL (by simpa using m)
        ·subst z;exact Ou b hb (by simpa using hc)
       ·rcases Zi.mp hb with rfl | hb
        ·exact .inl Zu
        ·rw[Z8]at hb;rcases Zc.mp hb with hb | hb
         ·exact .inl (Zt _ hb)
         ·exact .inr (oN (by simpa using hb)))
      obtain⟨z1,Q⟩:=S.mut OL L g2;have back:∀b,less H (J j) b=M->cF J U b\/H b=M:=λb h=>by
       by_cases q:b∈J j
       ·exact .inl ⟨j,u,B,q⟩
       ·rw[gB q]at h;exact .inr h
      have IC:∀b,cF J (U.set j M) b->cF J U b:=λb ⟨j',E,q1,q2⟩=>⟨j',E,(cK q1).2,q2⟩
      have R8:∀b,ff J (U.set j M) b->ff J U b:=λb ⟨j',E,q1,q2⟩=>⟨j',E,(cK q1).2,q2⟩
      refine k _ R _ z1 ⟨λb d h n=>?_,λb h z=>?_,λb h=>?_,λb h=>?_,(Kept.of g).trans (Kept.upd (.inl m0))⟩
      ·exact Q.keep b d (by rw[gB (λz=>n ⟨j,u,B,z⟩)];exact h) λz=>n (IC b z)
      ·by_cases q:b=a
       ·rw[q,ay]at z;cases z
       ·rw[ax q]at z;exact h (g.free z)
      ·rcases Q.ow b h with h | h
       ·exact .inl (IC b h)
       ·exact back b h
      ·rcases Q.pu b h with h | h | h
       ·exact .inl (R8 b h)
       ·exact .inr (.inl (IC b h))
       ·exact(back b h).elim (λz=>.inr (.inl z)) λz=>.inr (.inr z)
     ·cases e7
    ·cases A
   ·cases e
  ·cases e
end
end VS
end
section
namespace VS
open PySem PySem.Spec PyProof.Rows L2
noncomputable def isInt:T->Bool
 |.int _=>Z
 |_=>O
def rA(i:Nat):Hh:=λU=>match (U[i]?:Option (Wb)) with
 |some (some (.pu (.dct 3 l)))=>if (l.all λp=>isInt p.1)=Z then Y (.fr,l.map (·.1)) else M
 |_=>M
def wM(i:Nat)(a:Tg)(b:Ex):Sx:=λU=>match (U[i]?:Option (Wb)) with
 |some (some (.ow (.dct 0 l)))=>(gU 1 a (rA i) M b (U.set i (Y (.pu (.dct 3 l))))).bind λv=>match v.1 with
  |.fr=>Y (.rt v (U.set i M))
  |_=>M
 |_=>M
theorem zip_inj{α β:Type}:∀{a c:List α}{b d:List β},a.length=b.length->c.length=d.length->a.zip b=c.zip d->a=c
 |[],[],_,_,_,_,_=>rfl
 |[],_ :: _,_,[],_,h,_=>by simp at h
 |[],_ :: _,[],_ :: _,_,_,h=>by simp at h
 |[],_ :: _,_ :: _,_ :: _,h,_,_=>by simp at h
 |_ :: _,_,[],_,h,_,_=>by simp at h
 |_ :: _,[],_ :: _,[],_,_,h=>by simp at h
 |_ :: _,[],_ :: _,_ :: _,_,h,_=>by simp at h
 |_ :: _,_ :: _,_ :: _,[],_,h,_=>by simp at h
 |x :: a,y :: c,z :: b,w :: d,f,e,h=>by
  rw[ZX,ZX]at h;obtain⟨e1,e2⟩:=List.cons.inj h;rw[zip_inj (by simpa using f) (by simpa using e) e2,(Xc e1).1]
section
def A7{X:Cx}(i:Nat)(N:List Str)(Gd:X.calm=Z)(hN:X.N[i]?=Y x)(hv:HD X.env.scope x)(hd:K3 x)(hcd:K4 x)(JV:zz 1 g)(hg:∀cl C s H fp,Ni G (fg X N sc cl C s H fp) tg g)(he:∀cl C s H fp,PV G (fg X N sc cl C s H fp) elt ce)(IT:qV X.env sc=Z)(JU:qK sc (N.drop 1) X.N=Z)(JX:1<=N.length)(hs:∀y,SZ (.Name x p1) X.env y=pure y) :
  PSV G X (.Return (Y (.ListComp elt [⟨tg,.Name x p1,[],0⟩] sc pos)) pos') (wM i g ce) :=
 PS.weak (ny (rK Gd (C1 (eZ hN hv hd hcd)) IT JU JX (λcl C s H fp=>⟨hg cl C s H fp,pR,he cl C s H fp⟩) hs)) λD R H hq=>by
  obtain⟨J,U,out,s,e,k⟩:=hq;unfold wM at e;split at e
  ·rename_i l m;refine L2.ak λP_ Q=>?_;obtain⟨⟨mv,tv⟩,ev,e1⟩:=Zz.mp e;have Hc:mv=.fr/\out=.rt (.fr,tv) (U.set i M):=by
    cases mv with
    |fr=>cases e1;exact⟨rfl,rfl⟩
    |pu=>cases e1
    |bo=>cases e1
   obtain⟨rfl,rfl⟩:=Hc;obtain⟨v,g1,g2⟩:=s.rp _ _ m;obtain⟨a,ns,A,P,Fs,rfl,eF,ha,OT,rfl,ra⟩:=dP g2;refine Q ?_;have nd:=s.nd i _ m;rw[eF]at nd;refine⟨.ref a,g1,a,ns.zip A,rfl,ha,λo=>?_⟩;have mu:Ep (H a):=by rw[ha];exact True.intro
   have kp:Kept H (upd H a (.frz o (.dK (ns.zip A)))):=Kept.upd (.inl mu);have es:R.set i (Y (.ref a))=R:=by
    obtain⟨h,e⟩:=Zk.mp g1;rw[← e];exact X0 h
   have aΦ:a∈J i:=by rw[eF];exact Zu
   have sub:∀b∈Fs.flatten,b∈J i:=λb hb=>by rw[eF];exact Zt _ hb
   have s1:SR G (ki J i Fs.flatten) (U.set i (Y (.pu (.dct 3 ((ns.map aZ).zip P))))) R (upd H a (.frz o (.dK (ns.zip A)))):=by
    have:=s.put (c:=.pu (.dct 3 ((ns.map aZ).zip P))) ((Zk.mp m).1) (.dctZ ay OT (ra.off mu (Ze.mp nd).1)) (λj c' n S w q=>q.keep kp λb hb ob ho=>by
     rw[ax (λz=>s.sep i j _ c' m S (Yb n) a aΦ (by rw[← z];exact hb))];exact ho) (λ_ z=>nomatch z) (λ_ z=>nomatch z) λj u n S b hb Gg=>s.sep j i u _ S m n b hb (sub b Gg)
    rw[es]at this;exact this
   refine L2.ak λP_ Q=>?_;obtain⟨J2,U2,m2,l2,s2,e2,k2⟩:=sE JV (by
    refine⟨_,_,.fr,tv,s1,ev,λu H' F L r f=>?_⟩;have ee:(U.set i (Y (.pu (.dct 3 ((ns.map aZ).zip P))))).set i M=U.set i M:=by rw[List.set_set]
    have sd:=(s1.drop i).same L;rw[ee]at sd;have IC:∀b,cF (ki J i Fs.flatten) (U.set i M) b->cF J U b:=λb ⟨j,t,q1,d⟩=>by
     obtain⟨n,Ol⟩:=cK q1;rw[eu n]at d;exact⟨j,t,Ol,d⟩
    refine k u H' F _ R sd ⟨λb ob h n=>?_,λb h z=>?_,λb h=>.inl (IC b h),λb ⟨j,t,q1,d⟩=>?_,kp.trans (Kept.of L)⟩ r ⟨f.1,λb hb=>.inl ?_⟩
    ·have nb:b≠a:=λz=>n ⟨i,_,m,by rw[z];exact aΦ⟩;exact⟨L b ob (by rw[ax nb];exact h),λz=>n (IC b z)⟩
    ·have E:=L.free z;by_cases q:b=a
     ·rw[q,ay]at E;cases E
     ·rw[ax q]at E;exact h E
    ·obtain⟨n,Ol⟩:=cK q1;rw[eu n]at d;exact .inl ⟨j,t,Ol,d⟩
    ·have:=f.2 b hb;by_cases q:b=a
     ·rw[q,ay]at this;cases this
     ·rw[ax q]at this;exact this)
   refine Q ?_;refine k2 (PN a o (ns.zip A)) _ [] (aM.refl _) ?_ (λb hb=>nomatch hb);unfold rA at e2;split at e2
   ·rename_i l3 h3;split at e2
    ·rename_i hint;cases e2;obtain⟨v3,q1,d⟩:=s2.rp _ _ h3;rw[g1]at q1;cases q1;obtain⟨a3,o3,Ut,RK,Oc,Ul,Py,_,GF,LF,rfl,Jc⟩:=pz d;cases Py;rw[ay]at GF;have ek:=zip_inj OT LF (HO.dK.inj (HO.frz.inj (Zo GF)).2);subst ek;have em:((ns.map aZ).zip Oc).map (·.1)=ns.map aZ:=Wm (by rw[Zw,LF,Jc.len.1];exact Zj _);have zl:(ns.zip A).length=ns.length:=by rw[Z9,OT,Y8]
     refine⟨λH2 NJ _=>⟨λn t B=>?_,λn B=>?_⟩,λb hb=>nomatch hb⟩
     ·rw[em,ZL]at B;obtain⟨kk,LG,MN⟩:=Zx.mp B;have QD:=(Zk.mp LG).1;refine⟨⟨NJ.frz _ _ _ ay,by rw[zl];exact QD⟩,λy H3 hy=>?_⟩;obtain⟨rfl,p,hp,rfl⟩:=hy;refine⟨aM.refl _,[],?_,λb hb=>nomatch hb⟩;have SE:p.1=kk:=by
       have KZ:=hp;rw[YU]at KZ;rw[LG]at KZ;exact(Zo KZ.1).symm
      have hi:isInt t=Z:=by
       have:=ZE.mp hint (t,Oc[n]'(by rw[← Jc.len.1,← LF];exact QD)) (by
        refine YE (i:=n) ?_;rw[YU];exact⟨by rw[ZL,LG];exact congrArg Y MN,Zn _⟩)
       exact this
      rw[SE,← MN];rw[← MN]at hi;cases kk with
      |inl n=>exact .int n
      |inr z=>cases hi
     ·refine⟨NJ.frz _ _ _ ay,?_⟩;rw[em,Zw]at B;rw[zl];exact B
    ·cases e2
   ·cases e2
  ·cases e
end
noncomputable def mw(c:Nat):Option (Wb)->Bool
 |some (some (.ow (.obj a (_ :: _))))=>a==c+1
 |_=>O
def md(i c:Nat)(b:List Bool)(g:Mt)(x:Xx)(d:Ew)(U:VS.Env):Option (Val×VS.Env):=if mw c (U[i]?:Option (Wb))=Z then (x U).bind λz=>if Et z.1.2=Z then (match (z.2[i]?:Option (Wb)) with
 |some (some (.ow t))=>(d z.2).bind λa=>(gY c b g ((.fr,z.1.2) :: a) t).map λr=>(r.2,z.2.set i (Y (.ow r.1)))
 |_=>M) else M else M
section
def yk{G:Gx}{X:Cx}(hn:∀k,(G.ct (c+1)).2 k≠m)(hN:X.N[i]?=Y y)(hv:HD X.env.scope y)(hd:K3 y)(hcd:K4 y)(hc:FD X.K (G.ct (c+1)).1)(hm:Meth X.K (G.ct (c+1)).1 m f)(F:FnOk X.prog X.w X.K X.mg X.base EX k f fd ps (Ic G c mv g))(hr:gV k' X.A)(hk:k<=k')(hb:Binds X.K fd ps [])(h1:PX G X e x)(ha:E7 G X es cs)(FG:K1 e es X)(hpl:K2 pos es X)(ht:eval (.Call (.Attribute (.Name y p1) m apos) (e :: es) [] pos) X.env=(do
   let ov ← eval (.Name y p1) X.env
   standAt apos.atName
   let (f,first) ← holding [ov] (getMethod ov m pl)
   callWith pos f first (backTo pos (KM (e :: es) X.env)) (backToKw pos (Pv [] X.env)))):PX G X (.Call (.Attribute (.Name y p1) m apos) (e :: es) [] pos) (md i c mv g x cs) :=
 PE.weak (oG (eZ hN hv hd hcd) hc hm F (hr.mono hk) hb .nil kG (c9 h1 ha FG) FG hpl ht) λR H Q h=>by
  refine L2.ak λD j=>?_;obtain⟨J,U,v,U',s,e,NN,kq⟩:=h;refine j ?_;unfold md at e;split at e
  ·rename_i L;obtain⟨⟨B,U1⟩,e1,e2⟩:=Zz.mp e;split at e2
   ·rename_i Lc;unfold mw at L;split at L
    ·rename_i c0 q0 QT h0;have TV:c0=c+1:=by simpa using L
     refine L2.ak λD j=>?_;subst TV;obtain⟨v0,g1,g2⟩:=s.rp _ _ h0;obtain⟨c',a,dx,b,ns,l,ts,Fs,ec,rfl,eb,ef,eF,hA,hl,LJ,ra⟩:=cH g2;cases ec;refine j ?_;have key:∀(ns:Wf)(l:List V),((ns.map (G.ct (c+1)).2).zip l).lookup m=M:=by
      intro ns
      induction ns with
      |nil=>intro l;simp
      |cons n ns ih =>
       intro l;cases l with
       |nil=>simp
       |cons v l =>
        rw[Zm,ZX,Yr];have:(m==(G.ct (c+1)).2 n)=O:=by
         rw[beq_eq_false_iff_ne];exact λz=>hn n z.symm
        rw[this];exact ih l
     refine⟨.ref a,g1,a,dx,_,rfl,hA,key _ _,J,U,B,U1,s,e1,Lc,λS H1 J1 C f1 r1=>?_⟩;split at e2
     ·rename_i t1 MI;refine L2.ak λD j=>?_;obtain⟨t,el,e3⟩:=Zz.mp e2;obtain⟨⟨x3,y3⟩,p,e4⟩:=Zx.mp e3;cases e4;obtain⟨va,q1,w2⟩:=C.rp _ _ MI;rw[g1]at q1;cases q1;refine j ?_;have w3:=C.nd i t1 MI;refine⟨J1,U1,t,C,el,λP H2 Gs o JC JZ=>?_⟩;show Ic G c mv g (V.ref a :: ((S :: P)++[])) H2 Q E0;rw[Zd];unfold gY at p;split at p
      ·rename_i c1 d fs;split at p
       ·rename_i NS;obtain⟨rfl,HR,E,Lh⟩:=NS;obtain⟨⟨Gr,z⟩,eg,e7⟩:=Zz.mp p;split at e7
        ·rename_i Jo;refine L2.ak λD j=>?_;cases e7;obtain⟨c2,a2,Rn,b2,OB,PQ,Od,RA,Ln,M3,Px,rfl,M4,MV,HI,HJ,P2⟩:=cH w2;cases Ln;cases M3;cases Px;refine j ?_;have QW:JJ J1 U1 H1 ((.fr,B.2) :: t) ([] :: Gs):=⟨λn v' F' a1 a2=>by
          cases n with
          |zero=>cases a1;cases a2;exact Fp.nil
          |succ n=>exact JZ.each n v' F' (by simpa using a1) (by simpa using a2),by
          exact JZ.nd⟩
         have KI:=su E QW;have P1:RpL G H2 (S :: P) (trees ((.fr,B.2) :: t)) ([] :: Gs):=.cons (r1.same o) JC;refine⟨a,S :: P,OB.zip Od,trees ((.fr,B.2) :: t),J1 i,[] :: Gs,Gr,z,rfl,?_,P1.at (GP a) Lh,?_,?_,?_,eg,λu H' F' q ru=>?_⟩
         ·rw[M4];exact .ins (o a _ MV) HI (λ_=>rfl) ((P2.same o).at (GP a) (d9 (HI.trans P2.len.1) HR))
         ·rw[jd E];simp[trees]
         ·refine ZO.mpr ⟨w3,QW.nd.sublist (ly E),λd r b2 HJ z=>?_⟩;subst z;exact Ep.xl (w2.EI d r) (KI d HJ)
         ·rw[nY E P1];exact λd _ z=>nomatch z
         ·have back:Rp G H' (.ref a) (.obj (c+1) ((0,.bl d) :: Gr)) F':=by
           refine L2.ak λD j=>?_;obtain⟨c3,a3,UG,b3,Us,RK,Oc,Ul,TR,Py,UE,TN,TX,Tq,LF,Uy,Jc⟩:=cH q.rp;cases TR;cases Py;subst TN;refine j ?_;rw[TX];exact .ins Tq LF HJ (Jc.at G.me (d9 (LF.trans Jc.len.1) Jo.1))
          obtain⟨z1,z2⟩:=C.mut MI g1 (⟨(Kept.of o).trans q.kept,λd o1 r ho=>q.keep d o1 (λz=>(Zc.mp z).elim r λz=>by rw[KI d z]at ho;cases ho) (o d o1 ho),λd h=>q.EI d λz=>h (o.free z),back,q.nd,λd r=>by
           rcases q.sub d r with z | z
           ·rcases Zc.mp z with z | z
            ·exact .inl z
            ·exact .inr (KI d z)
           ·exact .inr (o.free z)⟩)
          exact kq u H' _ z1 (f1.trans z2) (ru.at G.me (lC z Jo.2))
        ·cases e7
       ·cases p
      ·cases p
     ·cases e2
    ·cases L
   ·cases e2
  ·cases e
end
noncomputable def Kn(a:List Str)(k:Nat):Str:=match a[k]? with
 |some x=>x
 |none=>⟨#[k]⟩
def yR{a:List Str}(i:a.Nodup)(h:∀x∈a,x.cps.size≠1)(k b:Nat)(e:Kn a k=Kn a b):k=b:=by
 unfold Kn at e;by_cases f:k<a.length
 ·by_cases d:b<a.length
  ·rw[Zn f,Zn d]at e;exact(List.getElem_inj i).mp e
  ·rw[Zn f,Z5 (ZQ d)]at e;have g:a[k]=(⟨#[b]⟩:Str):=e;exact absurd (by rw[g];rfl) (h _ (Yz f))
 ·by_cases d:b<a.length
  ·rw[Z5 (ZQ f),Zn d]at e;have g:(⟨#[k]⟩:Str)=a[b]:=e;exact absurd (by rw[← g];rfl) (h _ (Yz d))
  ·rw[Z5 (ZQ f),Z5 (ZQ d)]at e;cases e;rfl
def dZ(h:x∉a)(d:x.cps.size≠1)(k:Nat):Kn a k≠x:=λe=>by
 unfold Kn at e;split at e
 ·rename_i y b;exact h (e ▸ YE b)
 ·exact d (by rw[← e];rfl)
structure MtAt(P:PP)(w:SC)(K:Wv)(mg:Wj)(base:Re)(k:Nat)(G:Gx)(c:Nat)(x:Str)(ps:List Str)(mv:List Bool)(g:Mt):Prop where
 ex:∃f fd,FnOk P w K mg base EX k f fd ps (Ic G c mv g)/\Meth K (G.ct (c+1)).1 x f/\Binds K fd ps []
 cl:FD K (G.ct (c+1)).1
 no:∀k,(G.ct (c+1)).2 k≠x
structure MpAt(P:PP)(w:SC)(K:Wv)(mg:Wj)(base:Re)(k:Nat)(G:Gx)(c:Nat)(x:Str)(ps:List Str)(h:Fn):Prop where
 ex:∃f fd,FnOk P w K mg base EX k f fd ps (GA G h)/\Meth K (G.ct (c+1)).1 x f/\Binds K fd ps []
 cl:FD K (G.ct (c+1)).1
 no:∀k,(G.ct (c+1)).2 k≠x
structure InAt(P:PP)(w:SC)(K:Wv)(mg:Wj)(base:Re)(k:Nat)(G:Gx)(c n:Nat)(x:Str)(ps:List Str)(g:Mt):Prop where
 ex:∃f fd,FnOk P w K mg base EX k f fd ps (Ic G c (List.replicate n false) g)/\Mk K (G.ct (c+1)).1 f/\Binds K fd ps []
 mg:mg x=some (.ref (G.ct (c+1)).1)
section
variable{K:Wv}
theorem MtAt.at{m:Me}(h:MtAt P w K mg base k G c x ps mv g):MtAt P w K mg base k (G.at m) c x ps mv g:=⟨h.ex,h.cl,h.no⟩
theorem InAt.at{P:PP}{w:SC}{mg:Wj}{base:Re}{k c n:Nat}{G:Gx}{x:Str}{ps:List Str}{g:Mt}{m:Me}(h:InAt P w K mg base k G c n x ps g):InAt P w K mg base k (G.at m) c n x ps g:=⟨h.ex,h.mg⟩
def j8{G:Gx}(F:Er K x b d f m)(q:Meth K (G.ct (c+1)).1 x f)(r:FD K (G.ct (c+1)).1)(u:∀k,(G.ct (c+1)).2 k≠x)(S:cg N ps (ah d))(o:ps.length=j)(p:N.length=l)(v:∀(kV doc pm:IR)(an:Option GM)(h ct:IR)(i:Wh),i.length=ps.length->bindArgs (PySem.W.fnOf x b (bW d) (aD d) (ah d) .none kV doc pm an h ct) ⟨i,[]⟩=pure (ps.zip i))(t:∀(a:GM)(h:IR)(A:Pi)(outer:List PySem.Env)(s:FB)(H:Hp)(E:XK),gV k (A.deeper (envOfC b (ah d) s.heap.objs.size f h))->gg (G.at (GP a)) (fh EX P w K mg base N b (ah d) f h A outer s H E).EO (aD d) e) :
  MtAt P w K mg base (k+1) G c x ps mv (GI c j l mv e):=⟨⟨f,m,QX F S o p t,q,F.binds v⟩,r,u⟩
def By{G:Gx}(F:Er K y b d f m)(q:Mk K (G.ct (c+1)).1 f)(r:mg x=Y (.ref (G.ct (c+1)).1))(S:cg N ps (ah d))(o:ps.length=j)(p:N.length=l)(u:∀(kV doc pm:IR)(an:Option GM)(h ct:IR)(i:Wh),i.length=ps.length->bindArgs (PySem.W.fnOf y b (bW d) (aD d) (ah d) .none kV doc pm an h ct) ⟨i,[]⟩=pure (ps.zip i))(t:∀(a:GM)(h:IR)(A:Pi)(outer:List PySem.Env)(s:FB)(H:Hp)(E:XK),gV k (A.deeper (envOfC b (ah d) s.heap.objs.size f h))->gg (G.at (GP a)) (fh EX P w K mg base N b (ah d) f h A outer s H E).EO (aD d) e) :
  InAt P w K mg base (k+1) G c n x ps (GI c j l (List.replicate n O) e):=⟨⟨f,m,QX F S o p t,q,F.binds u⟩,r⟩
def lH{G:Gx}(F:Er K x a b f l)(p:Meth K (G.ct (c+1)).1 x f)(q:FD K (G.ct (c+1)).1)(t:∀k,(G.ct (c+1)).2 k≠x)(S:cg N ps (ah b))(m:ps.length=i)(o:N.length=j)(u:∀(kV doc pm:IR)(an:Option GM)(e ct:IR)(h:Wh),h.length=ps.length->bindArgs (PySem.W.fnOf x a (bW b) (aD b) (ah b) .none kV doc pm an e ct) ⟨h,[]⟩=pure (ps.zip h))(r:∀(e:IR)(A:Pi)(outer:List PySem.Env)(s:FB)(H:Hp)(E:XK),gV k (A.deeper (envOfC a (ah b) s.heap.objs.size f e))->gg G (fh EX P w K mg base N a (ah b) f e A outer s H E).EO (aD b) d) :
  MpAt P w K mg base (k+1) G c x ps (fn i j d):=⟨⟨f,l,Pc F S m o r,p,F.binds u⟩,q,t⟩
def zc{G:Gx}{k:Nat}{g:Fn}(i:G.K=K)(F:FnOk P w K mg base EX k f b [y] (GA G g))(e:∀ns:We,g [.scr ns]=Y (.fr,.bl Z)) :
  FnOk P w K mg base EX k f b [y] (GA (Pa K) zg):=F.imp λo H Q E h=>by
 obtain⟨p,s,m,r,j,a,q⟩:=h;unfold zg at a;split at a
 ·rename_i ns;cases a;cases j with
  |cons r1 r2 =>
   cases r2;cases r1 with
   |scr d=>exact⟨[.scr ns],[[]],.fr,.bl Z,.cons (.scr (by rw[i];exact d)) .nil,e ns,λv l F e1 r f1=>q v l F e1 (by cases r;exact .bl _) f1⟩
 ·cases a
end
section
def fq{X:Cx}(B:iM G)(F:MtAt X.prog X.w X.K X.mg X.base k G c m ps mv g)(r:gV k' X.A)(t:k<=k')(s:HX G X o i way)(u:E7 G X (e :: es) cs)(C:{`q7,K1 e es X})(a:{`q7,K2 pos es X})(q:{`q7,eval (.Call (.Attribute o m apos) (e :: es) [] pos) X.env=(do
   let d ← eval o X.env
   standAt apos.atName
   let (f,first) ← holding [d] (getMethod d m l)
   callWith pos f first (backTo pos (KM (e :: es) X.env)) (backToKw pos (Pv [] X.env)))}):PX G X (.Call (.Attribute o m apos) (e :: es) [] pos) (aV i way c mv g cs):=by
 obtain⟨f,fd,z,y,v⟩:=F.ex;exact zh B F.no s F.cl y z r t v u C a q
def jT{X:Cx}(y:iM G)(F:MtAt X.prog X.w X.K X.mg X.base k G c m ps mv g)(q:gV k' X.A)(s:k<=k')(r:HX G X o i way)(l:eval (.Call (.Attribute o m apos) [] [] pos) X.env=(do
   let a ← eval o X.env
   standAt apos.atName
   let (f,first) ← holding [a] (getMethod a m d)
   callWith pos f first (backTo pos (KM [] X.env)) (backToKw pos (Pv [] X.env)))):PX G X (.Call (.Attribute o m apos) [] [] pos) (aV i way c mv g ag):=by
 obtain⟨f,fd,v,u,t⟩:=F.ex;exact vf y F.no r F.cl u v q s t l
def wo{X:Cx}(F:MtAt X.prog X.w X.K X.mg X.base k G c m ps mv g)(t:gV k' X.A)(u:k<=k')(z:X.N[i]?=Y x)(r:HD X.env.scope x)(v:K3 x)(d:K4 x)(E:PX G X e xc)(y:E7 G X es cs)(H:K1 e es X)(a:K2 pos es X)(s:eval (.Call (.Attribute (.Name x p1) m apos) (e :: es) [] pos) X.env=(do
   let l ← eval (.Name x p1) X.env
   standAt apos.atName
   let (f,first) ← holding [l] (getMethod l m q)
   callWith pos f first (backTo pos (KM (e :: es) X.env)) (backToKw pos (Pv [] X.env)))):PX G X (.Call (.Attribute (.Name x p1) m apos) (e :: es) [] pos) (md i c mv g xc cs):=by
 obtain⟨f,fd,D,C,B⟩:=F.ex;exact yk F.no z r v d F.cl C D t u B E y H a s
def yN{X:Cx}(F:MpAt X.prog X.w X.K X.mg X.base k G c m ps h)(r:gV k' X.A)(t:k<=k')(s:PV G X o ca)(u:E7 G X (e :: es) cs)(B:K1 e es X)(a:K2 pos es X)(q:eval (.Call (.Attribute o m apos) (e :: es) [] pos) X.env=(do
   let d ← eval o X.env
   standAt apos.atName
   let (f,first) ← holding [d] (getMethod d m l)
   callWith pos f first (backTo pos (KM (e :: es) X.env)) (backToKw pos (Pv [] X.env)))):PV G X (.Call (.Attribute o m apos) (e :: es) [] pos) (cu c h ca cs):=by
 obtain⟨f,fd,z,y,v⟩:=F.ex;exact AY F.no s F.cl y z r t v u B a q
def di{X:Cx}(F:MpAt X.prog X.w X.K X.mg X.base k G c m ps h)(q:gV k' X.A)(s:k<=k')(r:PV G X o ca)(l:{`q7,eval (.Call (.Attribute o m apos) [] [] pos) X.env=(do
   let a ← eval o X.env
   standAt apos.atName
   let (f,first) ← holding [a] (getMethod a m d)
   callWith pos f first (backTo pos (KM [] X.env)) (backToKw pos (Pv [] X.env)))}):PV G X (.Call (.Attribute o m apos) [] [] pos) (cu c h ca ag):=by
 obtain⟨f,fd,v,u,t⟩:=F.ex;exact yp F.no r F.cl u v q s t l
def xE{e:Ex}:∀(U:VS.Env)(d:Wa),aa e ag U=Y d->d.length=1:=λU d h=>by
 obtain⟨a,_,h⟩:=Zz.mp h;cases h;rfl
def wt{X:Cx}(F:InAt X.prog X.w X.K X.mg X.base k G c n x ps g)(l:gV k' X.A)(r:k+1<=k')(t:E7 G X (e :: es) cs)(q:∀U d,cs U=Y d->d.length=n)(s:Gl X x)(z:K3 x)(he:K1 e es X)(a:K2 pos es X):PV G X (.Call (.Name x p) (e :: es) [] pos) (eNew c g cs):=by
 obtain⟨f,fd,y,v,u⟩:=F.ex;exact Dg n v y l r s F.mg u t q z he a
def sD{X:Cx}(F:InAt X.prog X.w X.K X.mg X.base k G c 0 x ps g)(a:gV k' X.A)(d:k+1<=k')(l:Gl X x)(t:K3 x):PV G X (.Call (.Name x p) [] [] pos) (eNew c g ag):=by
 obtain⟨f,fd,s,r,q⟩:=F.ex;exact AN r s a d l F.mg q t
def oj{apos pos:Pos}(u:iM G)(d:HX G X o i way)(q:E7 G X [e] cs)(s:{`q7,X.K=G.K})(B:{`q7,SL o "append" X.env (eval o X.env)=eval o X.env})(y:{`q7,((backTo pe (KM [e] X.env)).all (λx=>!x.1)&&(backToKw pe (Pv [] X.env)).all (λx=>x.1.isSome)
   && decide ([e].length+([]:List Keyword).length+(if ([]:List Keyword).isEmpty then 0 else 1)<30))=Z})(C:{`q7,(apos.endLine==pe.line)=Z})(a:{`q7,K1 e [] X})(A:{`q7,(backTo pe (KM [] X.env)).any (·.1)=O})(w:{`q7,swapsWith (.Call (.Attribute o "append" apos) [e] [] pe) M pos.line X.env=pure O}) :
  PSV G X (.Expr (.Call (.Attribute o "append" apos) [e] [] pe) pos) (sX (gT i way aK cs)) :=
 vo u XW XZ Xa iF m9 (λH v t F l z r h=>kD r h) d q s B y C a A w
end
inductive Ia where | io (i:Nat) (un:Bool) | ex (c:Ex)
abbrev Xt:=VS.Env->Option (Bool×VS.Env)
def AE(x:Xx):Xx:=λU=>(x U).bind λz=>if Et z.1.2 then Y ((.fr,.bl (KW z.1.2)),z.2) else M
section
def AO(h:PX G X e x):PX G X (.Compare e [.Is] [.Constant .none j pos'] pos) (AE x):=PE.weak (Bm (wQ h)) λR H Q i=>by
 obtain⟨J,U,v,p,s,e,n,k⟩:=i;obtain⟨⟨⟨m,t⟩,o⟩,e1,e2⟩:=Zz.mp e;split at e2
 ·rename_i hit;cases e2;refine⟨J,U,(m,t),_,s,e1,hit,λu d l g f r=>?_⟩;show Q (.bl (decide (u=.non))) d;rw[nt r];exact k _ d l g f (.bl _)
 ·cases e2
end
end VS
end
section
namespace VS
open PySem PySem.Spec PyProof.Rows L2
structure InAd(P:PP)(w:SC)(K:Wv)(mg:Wj)(base:Re)(k:Nat)(G:Gx)(c n:Nat)(x:Str)(ps:List Str)(g:Mt):Prop where
 ex:∃f fd,FnOk P w K mg base EX k f fd ps (Ic G c (List.replicate n false) g)/\Mk K (G.ct (c+1)).1 f/\Binds K fd ps []/\Binds K fd ps [.none]
 mg:mg x=some (.ref (G.ct (c+1)).1)
section
variable{K:Wv}
theorem InAd.at{P:PP}{w:SC}{mg:Wj}{base:Re}{k c n:Nat}{G:Gx}{x:Str}{ps:List Str}{g:Mt}{m:Me}(h:InAd P w K mg base k G c n x ps g):InAd P w K mg base k (G.at m) c n x ps g:=⟨h.ex,h.mg⟩
def InAd.in{P:PP}{w:SC}{mg:Wj}{base:Re}{k c n:Nat}{G:Gx}{x:Str}{ps:List Str}{g:Mt}(h:InAd P w K mg base k G c n x ps g):InAt P w K mg base k G c n x ps g:=by
 obtain⟨f,fd,d,b,a,_⟩:=h.ex;exact⟨⟨f,fd,d,b,a⟩,h.mg⟩
def vM{G:Gx}(F:Hi K y d e f r)(B:Mk K (G.ct (c+1)).1 f)(C:mg x=Y (.ref (G.ct (c+1)).1))(S:cg N ps (ah e))(v:ps.length=m)(z:N.length=p)(Q:∀(s:FB)(T:GM)(kV doc pm:IR)(an:Option GM)(j ct:IR)(o:Obj)(n:Nat)(h:Wh),K.In s.heap->K.lookup T=Y o->o.data=.seq #[.none] n->h.length=ps.length->BindsTo s (PySem.W.fnOf y d (bW e) (aD e) (ah e) (.ref T) kV doc pm an j ct) ⟨h,[]⟩ (ps.zip h))(L:∀(s:FB)(T:GM)(kV doc pm:IR)(an:Option GM)(j ct:IR)(o:Obj)(n:Nat)(h:Wh),K.In s.heap->K.lookup T=Y o->o.data=.seq #[.none] n->h.length+1=ps.length->BindsTo s (PySem.W.fnOf y d (bW e) (aD e) (ah e) (.ref T) kV doc pm an j ct) ⟨h,[]⟩ (ps.zip (h++[.none])))(J:∀(a:GM)(j:IR)(A:Pi)(outer:List PySem.Env)(s:FB)(H:Hp)(E:XK),gV k (A.deeper (envOfC d (ah e) s.heap.objs.size f j))->gg (G.at (GP a)) (fh EX P w K mg base N d (ah e) f j A outer s H E).EO (aD e) i) :
  InAd P w K mg base (k+1) G c n x ps (GI c m p (List.replicate n O) i):=⟨⟨f,r,Dn (λl b=>F.ok S l b) v z J,B,F.binds Q,by
   obtain⟨T,oc,R,kV,doc,pm,an,j,ct,U,o,n,rfl,lk,D,u,t⟩:=F.ex;intro s h X q;exact L s T kV doc pm an j ct o n h X u t (by rw[Zv]at q;exact q)⟩,C⟩
end
def x2(f:Val->Val->W0)(a b:Xx):Xx:=λU=>(a U).bind λz=>(b z.2).bind λw=>(f (.fr,z.1.2) (.fr,w.1.2)).bind λv=>if Et z.1.2=Z/\Et w.1.2=Z/\Et v.2=Z then Y ((.fr,v.2),w.2) else M
inductive Ix where | io (i:Nat) (un:Bool) | px (x:Xx)
end VS
end
section
namespace XN
open PySem PySem.Spec PyProof.Rows L2
section
def wW(X:Cx)(C:GM)(m:Str)(g:Sp)(ta:TE)(t:TA):TE:=λR H Q=>ta R H λx b=>∃a h fs,x=.ref a/\b a=Y (.ins C h fs)/\fs.lookup m=M/\t R b λd i=>g (x :: d) i Q (XR X R)
def zF{X:Cx}{vs:List V}(F:FnOk X.prog X.w X.K X.mg X.base (GT X.prog X.w X.base) k f fd ps sp)(l:gV k X.A)(n:Binds X.K fd ps [])(g:X.ex=[])(I:Inv X a R H s)(r:aI vs b)(h:sp vs H Q (XR X R)):KB (FM X.prog X.w) X.A (call (.ref f) b) (EP X a R Q) X.xe s:=by
 have i:=n s b I.Fc (by rw[Zd];exact(by rw[← r.length];exact F.len _ _ _ _ h));rw[Zd]at i;refine Xn (YG (F.run X.A X.stack s H ⟨b,[]⟩ b vs Q _ l I.IF i r h) λj q d=>?_);cases j with
 |error e=>exact XR.G9 I d g λ_ _ _ z=>z
 |ok f =>
  cases f with
  |ret u=>exact I.after d
  |_=>exact d.elim
def la(he:PE X o ta)(c:FD X.K C)(j:Meth X.K C m f)(F:FnOk X.prog X.w X.K X.mg X.base (GT X.prog X.w X.base) k f fd ps sp)(E:gV k X.A)(G:Binds X.K fd ps [])(g:X.ex=[])(J:PA X (e :: es) t)(FG:K1 e es X)(d:K2 pos es X)(D:eval (.Call (.Attribute o m apos) (e :: es) [] pos) X.env=(do
   let i ← eval o X.env
   standAt apos.atName
   let (f,first) ← holding [i] (getMethod i m pl)
   callWith pos f first (backTo pos (KM (e :: es) X.env)) (backToKw pos (Pv [] X.env)))) :
  PE X (.Call (.Attribute o m apos) (e :: es) [] pos) (wW X C m sp ta t):=by
 intro b s R H Q I h;refine Xw (pl:=pl) (thn (he b s R H _ I h) λu y N=>?_) D;obtain⟨x,U,v,z,a,dx,fs,ex,P,l,q⟩:=N;subst ex;obtain rfl:u=Value.ref a:=z;refine gL v P c j l ?_;refine YW I.ok.mod.Jk j.kp (thn (J pos b y R U _ v q) λus s2 S=>?_) FG d;obtain⟨vs,H2,n,r,B⟩:=S;exact⟨n.Fc,zF (vs:=.ref a :: vs) F E G g n (.cons L r) B⟩
def sV(he:PE X o ta)(c:FD X.K C)(j:Meth X.K C m f)(F:FnOk X.prog X.w X.K X.mg X.base (GT X.prog X.w X.base) k f fd ps sp)(v:gV k X.A)(y:Binds X.K fd ps [])(d:X.ex=[])(r:eval (.Call (.Attribute o m apos) [] [] pos) X.env=(do
   let i ← eval o X.env
   standAt apos.atName
   let (f,first) ← holding [i] (getMethod i m pl)
   callWith pos f first (backTo pos (KM [] X.env)) (backToKw pos (Pv [] X.env)))) :
  PE X (.Call (.Attribute o m apos) [] [] pos) (wW X C m sp ta yj):=by
 intro b s R H Q I h;refine Xw (pl:=pl) (thn (he b s R H _ I h) λu D z=>?_) r;obtain⟨x,G,g,n,a,E,fs,ex,B,l,q⟩:=z;subst ex;obtain rfl:u=Value.ref a:=n;refine gL g B c j l ?_;exact X6 g.Fc j.kp (zF (vs:=[.ref a]) F v y d g (.cons L .nil) q)
end
end XN
namespace VS
open PySem PySem.Spec PyProof.Rows L2 XN
section
def d6(c:Nat)(g:Gj)(h:Ex)(d:Ew):IJ:=λU=>(h U).bind λx=>match x.2 with
 |.obj (a+1) (q :: fs)=>if a=c then (d U).bind λb=>(g (.obj (a+1) (q :: fs) :: trees b)).bind λr=>match r with
  |.ok _=>M
  |.ex y=>Y (.ex y) else M
 |_=>M
def BW{G:Gx}{X:Cx}(hn:∀k,(G.ct (c+1)).2 k≠m)(ho:PV G X.EO o ca)(l:FD X.K (G.ct (c+1)).1)(hm:Meth X.K (G.ct (c+1)).1 m f)(F:FnOk X.prog X.w X.K X.mg X.base (GT X.prog X.w X.base) k f fd ps (Kz G X.mg g))(hr:gV k' X.A)(hk:k<=k')(x:Binds X.K fd ps [])(ha:E7 G X.EO (e :: es) cs)(j:X.ex=[])(FG:K1 e es X)(i:K2 pos es X)(ht:eval (.Call (.Attribute o m apos) (e :: es) [] pos) X.env=(do
   let u ← eval o X.env
   standAt apos.atName
   let (f,first) ← holding [u] (getMethod u m N)
   callWith pos f first (backTo pos (KM (e :: es) X.env)) (backToKw pos (Pv [] X.env)))):PVX G X (.Call (.Attribute o m apos) (e :: es) [] pos) (d6 c g ca cs):=by
 refine PE.weak (la (PE.EO ho) l hm F (hr.mono hk) x j (λpos d s R H Q I hw=>Z6 (ha pos d s R H Q (I.E8 _) hw) (λ_ _ ⟨t,n,I',r,q⟩=>⟨t,n,I'.Em,r,q⟩) λ_ _ z=>False.elim z) FG i ht) λR H Q hq=>?_;refine L2.ak λP_ h=>?_;obtain⟨J,U,r,s,e,S⟩:=hq;obtain⟨⟨P,y⟩,ea,e1⟩:=Zz.mp e;refine h ?_;split at e1
 ·rename_i c' q0 fs hy;subst hy;split at e1
  ·rename_i l;subst l;obtain⟨p,el,e2⟩:=Zz.mp e1;obtain⟨L,eg,B⟩:=Zz.mp e2;cases L with
   |ok v=>cases B
   |ex y =>
    cases B;refine⟨J,U,P,_,s,ea,λv H1 F1 C r1 f1=>?_⟩;refine L2.ak λP_ h=>?_;obtain⟨c2,a,dx,b,ns,t,ts,Fs,ec,rfl,eb,ef,eF,hA,hl,x,ra⟩:=cH r1;cases ec;refine h ?_;refine⟨a,dx,_,rfl,hA,iI hn _ _,J,U,p,s.same C,el,λus H2 Gs D JC JZ=>?_⟩;exact⟨_ :: trees p,F1 :: Gs,.ex y,.cons (r1.same D) JC,eg,λcls n FW E=>S n ((C.trans D).trans E) cls FW⟩
  ·cases e1
 ·cases e1
def xZ{G:Gx}{X:Cx}(L:∀k,(G.ct (c+1)).2 k≠m)(E:PV G X.EO o ca)(i:FD X.K (G.ct (c+1)).1)(N:Meth X.K (G.ct (c+1)).1 m f)(F:FnOk X.prog X.w X.K X.mg X.base (GT X.prog X.w X.base) k f fd ps (Kz G X.mg g))(C:gV k' X.A)(P:k<=k')(l:Binds X.K fd ps [])(h:X.ex=[])(B:eval (.Call (.Attribute o m apos) [] [] pos) X.env=(do
   let j ← eval o X.env
   standAt apos.atName
   let (f,first) ← holding [j] (getMethod j m t)
   callWith pos f first (backTo pos (KM [] X.env)) (backToKw pos (Pv [] X.env)))):PVX G X (.Call (.Attribute o m apos) [] [] pos) (d6 c g ca ag):=by
 refine PE.weak (sV (PE.EO E) i N F (C.mono P) l h B) λR H Q D=>?_;refine L2.ak λP_ d=>?_;obtain⟨J,U,r,s,e,x⟩:=D;obtain⟨⟨u,y⟩,ea,e1⟩:=Zz.mp e;refine d ?_;split at e1
 ·rename_i c' q0 fs z;subst z;split at e1
  ·rename_i i;subst i;obtain⟨xs,el,e2⟩:=Zz.mp e1;cases el;obtain⟨q,eg,n⟩:=Zz.mp e2;cases q with
   |ok v=>cases n
   |ex y =>
    cases n;refine⟨J,U,u,_,s,ea,λv H1 F1 Fg r1 f1=>?_⟩;refine L2.ak λP_ d=>?_;obtain⟨c2,a,dx,b,ns,vs,ts,Fs,ec,rfl,eb,ef,eF,S,hl,l,ra⟩:=cH r1;cases ec;refine d ?_;exact⟨a,dx,_,rfl,S,iI L _ _,[_],[F1],.ex y,.cons r1 .nil,eg,λcls H' FW p=>x H' (Fg.trans p) cls FW⟩
  ·cases e1
 ·cases e1
def zK:iZ G X d (λ_=>M):=λa s R H D I b=>by
 obtain⟨J,U,o,_,e,_⟩:=b;cases e
end
section
noncomputable def fT(g:Tg)(b:EV):W3->VS.Env->Option IH
 |[],U=>Y (.ok (.nx U))
 |t :: r,U=>(g t U).bind λd=>(b d).bind λo=>match o with
  |.ok (.nx a)=>fT g b r a
  |.ok (.ct a)=>fT g b r a
  |.ok (.bk a)=>Y (.ok (.nx a))
  |.ok (.rt v a)=>Y (.ok (.rt v a))
  |.ex x a=>Y (.ex x a)
def yE(g:Tg)(a:Hh)(b:EV):EV:=λU=>(a U).bind λp=>if Ot p.1 then fT g b p.2 U else M
def qB{tgt:Tg}{body:EV}{l:W3}{U:VS.Env}(h:l[i]?=Y t):fT tgt body (l.drop i) U=((tgt t U).bind λd=>(body d).bind λo=>match o with
  |.ok (.nx a)=>fT tgt body (l.drop (i+1)) a
  |.ok (.ct a)=>fT tgt body (l.drop (i+1)) a
  |.ok (.bk a)=>Y (.ok (.nx a))
  |.ok (.rt v a)=>Y (.ok (.rt v a))
  |.ex x a=>Y (.ex x a)):=by
 obtain⟨b,rfl⟩:=Zk.mp h;rw[List.drop_eq_getElem_cons b];rfl
def xG(hq:Np G X (yE g ci cb) D R H):Am (tI G ci) (tG G g) (Np G X cb) D R H:=by
 refine L2.ak λP_ k_=>?_;obtain⟨J,U,o,s,e,k⟩:=hq;obtain⟨⟨m,l⟩,el,e1⟩:=Zz.mp e;refine k_ ?_;dsimp only at e1;split at e1
 ·rename_i hm;refine⟨J,U,m,l,s,el,λJq L C e2 ok fc=>?_⟩;have PF:∀a∈C,¬cF J U a:=λa y z=>by
   rcases fc a y with q | q | q
   ·exact Ep.xl (s.Fh z) q
   ·exact s.Ij z q
   ·exact(λz=>by rw[z]at hm;cases hm) q.1
  refine⟨λi n R2 E=>n=l.length-i/\∃Q B,SR G Q B R2 E/\Eu J U H Q B E/\Kept L E/\(∀a∈C,∀o,L a=Y o->E a=Y o/\¬cF Q B a)/\fT g cb (l.drop i) B=Y o,
   ⟨l.length-0,rfl,J,U,s.same e2,Eu.same e2,Kept.refl _,λa y p A=>⟨A,PF a y⟩,by rw[X4];exact e1⟩,?_⟩
  rintro i n R2 E ⟨rfl,Q,B,s2,f2,kp,con,e3⟩;obtain⟨go,stop⟩:=ok.run E kp λa y p A=>(con a y p A).1;cases hit:l[i]? with
  |none =>
   have hl:=Yx.mp hit;left;rw[YZ hl]at e3;cases (e3);exact⟨stop i hl,k Q R2 E s2 f2⟩
  |some t =>
   have hl:=(Zk.mp hit).1;right;obtain⟨g1,y1⟩:=go i t hit;rw[qB (tgt:=g) (body:=cb) (U:=B) hit]at e3;obtain⟨U3,e4,e5⟩:=Zz.mp (e3);obtain⟨p,e6,S⟩:=Zz.mp e5;refine⟨g1,λr d=>∃b j,SR G b j r d/\Eu J U H b j d/\Kept L d/\(∀a∈C,∀o,L a=Y o->d a=Y o/\¬cF b j a)/\fT g cb (l.drop (i+1)) j=Y o,λr d ⟨b,j,q⟩=>⟨l.length-(i+1),by omega,rfl,b,j,q⟩,λx H3 yl=>?_⟩;obtain⟨P,F,rF,hF⟩:=y1 x H3 yl;refine⟨Q,B,t,F,U3,(s2.same P),rF,(λa y z=>by
    rcases hF a y with q | q
    ·have GK:=ok.EI a q;cases A:L a with
     |none=>exact GK A
     |some OA=>exact(con a q OA A).2 z
    ·exact Ep.xl (s2.Fh z) q),e4,λJ3 R3 s4 o3 p3=>?_⟩
   have N:Eu J U H J3 U3 H3:=⟨λa p h n=>let ⟨h1,n1⟩:=f2.keep a p h n;⟨P a p h1,λz=>n1 (o3 a z)⟩,λa h z=>f2.EI a h (P.free z),λa h=>f2.ow a (o3 a h),λa h=>by
    rcases p3 a h with h | h
    ·exact f2.pu a h
    ·rcases hF a h with q | q
     ·rcases fc a q with q | q | q
      ·exact .inr (.inr q)
      ·exact .inl q
      ·exact .inr (.inl q.2)
     ·exact .inr (.inr (f2.none q)),f2.kept.trans (Kept.of P)⟩
   have next:∀{b j d},Eu J3 U3 H3 b j d->Kept L d/\∀a∈C,∀o,L a=Y o->d a=Y o/\¬cF b j a:=λf =>
    ⟨(kp.trans (Kept.of P)).trans f.kept,λa y p A=>by
     obtain⟨h1,n1⟩:=con a y p A;exact f.keep a p (P a p h1) λz=>n1 (o3 a z)⟩
   refine⟨J3,U3,p,s4,e6,?_⟩;cases p with
   |ex x j =>
    cases (S);exact λb r d w f=>k b r d w (N.trans f)
   |ok p =>
    cases p with
    |nx j=>exact λb r d w f=>⟨b,j,w,N.trans f,(next f).1,(next f).2,S⟩
    |ct j=>exact λb r d w f=>⟨b,j,w,N.trans f,(next f).1,(next f).2,S⟩
    |bk j =>
     cases (S);exact λb r d w f=>k b r d w (N.trans f)
    |rt v j =>
     cases (S);exact λu d F4 b r w f r5 q5=>k u d F4 b r w (N.trans f) r5 (q5.back N)
 ·cases e1
def CG{X:Cx}(i:PassesOwn (FM X.prog X.w) X.A X.env X.xe)(m:X.calm=Z)(j:Nh G X tg a d)(l:Ni G X tg g)(n:iZ G X b e)(f:{`q3,∀x,SZ a X.env x=pure x}):PSX G X (.For tg a b [] pos) (yE g d e):=PS.weak (wm i m j l n f) λD R H h=>xG h
end
def JH(a:List Str)(K:Wv)(C D A B:GM):Gx:=⟨K,λc=>(if c=2 then D else C,Kn a),λ_=>M,λc=>if c=0 then A else B⟩
def za{a:List Str}{K:Wv}(b:a.Nodup)(h:∀x∈a,x.cps.size≠1):iM ((JH a K C D A B).at m):=λ_ k d e=>yR b h k d e
def ub{a:List Str}{K:Wv}(b:a[k]?=Y f)(h:FD K C)(g:FD K D)(e:aX K C f)(d:aX K D f):FE ((JH a K C D A B).at m) K k f :=
 ⟨λc=>by show Kn a k=f;unfold Kn;rw[b],λc=>by show FD K (if c+1=2 then D else C);split<;>assumption,λc=>by show aX K (if c+1=2 then D else C) f;split<;>assumption⟩
noncomputable def J8(a b:EV):EV:=λU=>match a U with
 |some o=>Y o
 |none=>b U
abbrev Lv:=mF->W3->Option Str
def ui(c d f:Nat)(e:List Bool)(a:EV):Lv:=λfs b=>if b.length+1=d/\e.length=b.length then
 (a ((Y (.ow (.obj (c+1) ((0,.bl Z) :: fs))) :: List.zipWith kz e b)++List.replicate (f-d) M)).bind λo=>match o with
  |.ex x _=>Y x
  |_=>M else M
def Dk(G:Gx)(l:Wj)(c:Nat)(d:List Bool)(g:Lv):Sp:=λj H Q E=>∃(a:GM)(h:List V)(fs:mF)(f:W3)(F:Wi)(e:Xd)(x:Str),j=.ref a :: h/\Rp (G.at (GP a)) H (.ref a) (.obj (c+1) ((0,.bl Z) :: fs)) F ∧
 RpL (G.at (GP a)) H h f e/\d.length=f.length/\(F++Fz d e).Nodup/\(∀b∈F++Fz d e,b∉Ih d e)/\g fs f=Y x ∧
 ∀cls i,l x=Y cls->(∀b o,b∉F++Fz d e->H b=Y o->i b=Y o)->E cls M i
section
variable{K:Wv}
def DL{G:Gx}(F:Hi K x d j f X)(S:cg N u (ah j))(hp:u.length=R)(hn:N.length=m)(C:∀(a:GM)(t:IR)(A:Pi)(outer:List PySem.Env)(s:FB)(H:Hp)(E:XK),gV k (A.deeper (envOfC d (ah j) s.heap.objs.size f t))->iZ (G.at (GP a)) (fh (GT P w base) P w K mg base N d (ah j) f t A outer s H E) (aD j) g) :
  FnOk P w K mg base (GT P w base) (k+1) f X u (Dk G mg c U (ui c R m U g)):=by
 refine L2.ak λP_ l=>?_;obtain⟨T,oc,od,kV,doc,pm,an,t,ct,G8,o,n,rfl,lk,B,_⟩:=F.ex;refine l ?_;refine rq lk B S (λvs H Q E h=>?_) λA outer s H vs Q E hr h=>?_
 ·refine L2.ak λP_ l=>?_;obtain⟨a,i,fs,ts,F,Fs,y,rfl,J,r,p,nd,sp,e,q⟩:=h;refine l ?_;unfold ui at e;split at e
  ·rename_i v;rw[ZU,r.len.1,v.1,hp]
  ·cases e
 ·refine L2.ak λP_ l=>?_;obtain⟨a,i,fs,ts,F,Fs,y,rfl,J,r,p,nd,sp,e,q⟩:=h;refine l ?_;refine⟨_,C a t A outer s H E hr,?_⟩;unfold ui at e;split at e
  ·rename_i v;obtain⟨o,e1,e2⟩:=Zz.mp e;obtain⟨D,IC⟩:=qm J r p nd sp m (i.length+1) L;rw[v.1]at D IC;have e3:L2.start N (V.ref a :: i)=(V.ref a :: i).map Y++List.replicate (m-(i.length+1)) M:=by
    unfold L2.start;rw[hn];rfl
   rw[e3];refine⟨_,_,o,D,e1,?_⟩;cases o with
   |ex z U' =>
    cases e2;exact λJ' R' H' _ fr cls p=>zU (q cls H' p λb o C ho=>(fr.keep b o ho λz=>C (IC b z)).1)
   |ok o=>cases e2
  ·cases e
structure InXt(P:PP)(w:SC)(K:Wv)(mg:Wj)(base:Re)(k:Nat)(G:Gx)(c n:Nat)(x:Str)(ps:List Str)(g:Lv):Prop where
 ex:∃f fd,FnOk P w K mg base (GT P w base) k f fd ps (Dk G mg c (List.replicate n false) g)/\Mk K (G.ct (c+1)).1 f/\Binds K fd ps []
 mg:mg x=some (.ref (G.ct (c+1)).1)
theorem InXt.at{G:Gx}{P:PP}{w:SC}{mg:Wj}{base:Re}{m:Me}{k c n:Nat}{x:Str}{a:List Str}{g:Lv}(h:InXt P w K mg base k G c n x a g):InXt P w K mg base k (G.at m) c n x a g:=⟨h.ex,h.mg⟩
def yc{G:Gx}{n:Nat}(F:Hi K y b d f m)(r:Mk K (G.ct (c+1)).1 f)(t:mg x=Y (.ref (G.ct (c+1)).1))(S:cg N g (ah d))(p:g.length=j)(q:N.length=l)(v:∀(s:FB)(T:GM)(kV doc pm:IR)(an:Option GM)(h ct:IR)(o:Obj)(n:Nat)(i:Wh),K.In s.heap->K.lookup T=Y o->o.data=.seq #[.none] n->i.length=g.length->BindsTo s (PySem.W.fnOf y b (bW d) (aD d) (ah d) (.ref T) kV doc pm an h ct) ⟨i,[]⟩ (g.zip i))(u:∀(a:GM)(h:IR)(A:Pi)(outer:List PySem.Env)(s:FB)(H:Hp)(E:XK),gV k (A.deeper (envOfC b (ah d) s.heap.objs.size f h))->iZ (G.at (GP a)) (fh (GT P w base) P w K mg base N b (ah d) f h A outer s H E) (aD d) e) :
  InXt P w K mg base (k+1) G c n x g (ui c j l (List.replicate n O) e):=⟨⟨f,m,DL F S p q u,r,F.binds v⟩,t⟩
structure MxAt(P:PP)(w:SC)(K:Wv)(mg:Wj)(base:Re)(k:Nat)(G:Gx)(c:Nat)(x:Str)(ps:List Str)(g:Gj):Prop where
 ex:∃f fd,FnOk P w K mg base (GT P w base) k f fd ps (Kz G mg g)/\Meth K (G.ct (c+1)).1 x f/\Binds K fd ps []
 cl:FD K (G.ct (c+1)).1
 no:∀k,(G.ct (c+1)).2 k≠x
def wO(F:Er K x x a f i)(m:mg x=Y (.ref f))(S:cg N b (ah a))(j:b.length=g)(l:N.length=h)(o:∀(kV doc pm:IR)(an:Option GM)(d ct:IR)(e:Wh),e.length=b.length->bindArgs (PySem.W.fnOf x x (bW a) (aD a) (ah a) .none kV doc pm an d ct) ⟨e,[]⟩=pure (b.zip e))(n:∀(d:IR)(A:Pi)(outer:List PySem.Env)(s:FB)(H:Hp)(E:XK),gV k (A.deeper (envOfC x (ah a) s.heap.objs.size f d))->iZ G (fh (GT P w base) P w K mg base N x (ah a) f d A outer s H E) (aD a) c) :
  FnXt P w K mg base (k+1) x b G (Iq g h c):=⟨f,i,fnX F S j l n,m,F.kp,F.binds o⟩
def uQ{G:Gx}(F:Er K x a b f l)(o:Meth K (G.ct (c+1)).1 x f)(p:FD K (G.ct (c+1)).1)(r:∀k,(G.ct (c+1)).2 k≠x)(S:cg N e (ah b))(m:e.length=i)(n:N.length=j)(t:∀(kV doc pm:IR)(an:Option GM)(g ct:IR)(h:Wh),h.length=e.length->bindArgs (PySem.W.fnOf x a (bW b) (aD b) (ah b) .none kV doc pm an g ct) ⟨h,[]⟩=pure (e.zip h))(q:∀(g:IR)(A:Pi)(outer:List PySem.Env)(s:FB)(H:Hp)(E:XK),gV k (A.deeper (envOfC a (ah b) s.heap.objs.size f g))->iZ G (fh (GT P w base) P w K mg base N a (ah b) f g A outer s H E) (aD b) d) :
  MxAt P w K mg base (k+1) G c x e (Iq i j d):=⟨⟨f,l,fnX F S m n q,o,F.binds t⟩,p,r⟩
end
section
variable{st:Stmt}
def zI(j:PSX G X st d)(h:PSX G X st b):PSX G X st (J8 d b):=λa s R H D I g=>by
 obtain⟨J,U,o,f,e,k⟩:=g;unfold J8 at e;split at e
 ·rename_i l he;cases e;exact j a s R H D I ⟨J,U,o,f,he,k⟩
 ·exact h a s R H D I ⟨J,U,o,f,e,k⟩
def yx{X:Cx}(F:MxAt X.prog X.w X.K X.mg X.base k G c m ps d)(q:PV G X.EO o ca)(l:gV k' X.A)(r:k<=k')(s:E7 G X.EO (e :: es) cs)(b:X.ex=[])(z:K1 e es X)(a:K2 pos es X)(j:eval (.Call (.Attribute o m apos) (e :: es) [] pos) X.env=(do
   let g ← eval o X.env
   standAt apos.atName
   let (f,first) ← holding [g] (getMethod g m h)
   callWith pos f first (backTo pos (KM (e :: es) X.env)) (backToKw pos (Pv [] X.env)))):PVX G X (.Call (.Attribute o m apos) (e :: es) [] pos) (d6 c d ca cs):=by
 obtain⟨f,fd,v,u,t⟩:=F.ex;exact BW F.no q F.cl u v l r t s b z a j
def pH{X:Cx}(F:MxAt X.prog X.w X.K X.mg X.base k G c m ps b)(l:PV G X.EO o ca)(j:gV k' X.A)(q:k<=k')(a:X.ex=[])(h:eval (.Call (.Attribute o m apos) [] [] pos) X.env=(do
   let d ← eval o X.env
   standAt apos.atName
   let (f,first) ← holding [d] (getMethod d m g)
   callWith pos f first (backTo pos (KM [] X.env)) (backToKw pos (Pv [] X.env)))):PVX G X (.Call (.Attribute o m apos) [] [] pos) (d6 c b ca ag):=by
 obtain⟨f,fd,t,s,r⟩:=F.ex;exact xZ F.no l F.cl s t j q r a h
def sG(c:Nat)(g:Lv)(b:Ew):IJ:=λU=>(b U).bind λa=>if cS (trees a)=Z then (g [] (trees a)).map .ex else M
def sY{X:Cx}(M:Mk X.K C f)(F:FnOk X.prog X.w X.K X.mg X.base (GT X.prog X.w X.base) k f D ps t)(P:gV (k+1) X.A)(S:Binds X.K D ps [])(q:X.ex=[])(I:Inv X b R H s)(r:aI l a)(h:∀x g,H x=none->H g=none->g≠x->t (.ref x :: l) (upd (upd H g (.own x)) x (.ins C g [])) (λv H2=>v=.non/\Q (.ref x) H2) (XR X R)) :
  KB (FM X.prog X.w) X.A (call (.ref C) a) (EP X b R Q) X.xe s:=by
 have B:=h (s.heap.objs.size+1) s.heap.objs.size (I.Eg.fresh (Xb _)) (I.Eg.fresh (Zj _)) (ZV (Yt _));have j:=Inv.made (C:=C) I;have r2:aI (V.ref (s.heap.objs.size+1) :: l) (Value.ref (s.heap.objs.size+1) :: a):=.cons L r;have E:=S { s with heap:=_ } (Value.ref (s.heap.objs.size+1) :: a) j.Fc (by
  have e:=r2.length;rw[F.len _ _ _ _ B]at e;rw[Zd];exact e.symm)
 rw[Zd]at E;refine Xn (qd (f:=f) I.Fc M.makes M.init (beq_iff_eq.mp M.fn) (YG (F.run _ X.stack _ _ ⟨Value.ref (s.heap.objs.size+1) :: a,[]⟩ (Value.ref (s.heap.objs.size+1) :: a) _ _ (XR X R) (P.make C a [])
  (j.IF.make C a []) E r2 B) λr s' d=>?_))
 cases r with
 |error e=>exact XR.G9 j d q λ_ _ _ z=>z
 |ok U =>
  cases U with
  |ret u =>
   obtain⟨v,H',I3,J,ev,N⟩:=j.after d;subst ev;exact⟨J,⟨V.ref (s.heap.objs.size+1),H',I3,rfl,N⟩⟩
  |next=>exact False.elim d
  |brk=>exact False.elim d
  |cont=>exact False.elim d
def A8{X:Cx}(F:InXt X.prog X.w X.K X.mg X.base k G c n x ps E)(hr:gV k' X.A)(hk:k+1<=k')(j:E7 G X.EO (e :: es) cs)(hn:∀U d,cs U=Y d->d.length=n)(hg:Gl X x)(EC:K3 x)(he:K1 e es X)(B:K2 pos es X)(C:X.ex=[]):PVX G X (.Call (.Name x p) (e :: es) [] pos) (sG c E cs):=λh s R H Q I hq=>by
 refine L2.ak λP_ v=>?_;obtain⟨f,fd,F1,M,hb⟩:=F.ex;obtain⟨J,U,r,sr,e0,kk⟩:=hq;obtain⟨d,N,e1⟩:=Zz.mp e0;refine v ?_;split at e1
 ·rename_i Lh;obtain⟨z,eg,rfl⟩:=Zx.mp e1;refine Yg (fj I hg F.mg ?_ EC);refine YW I.ok.mod.Jk M.kp (Z6 (j pos h s R H (λl g=>∃u,aM H g/\RpL G g l (trees d) u/\JJ J U H d u) (I.E8 _) ⟨J,U,d,sr,N,λl g u q1 q2 q3=>⟨u,q1,q2,q3⟩⟩) (λus s1 hu=>?_) λ_ _ z=>False.elim z) he B;refine L2.ak λP_ v=>?_;obtain⟨l,g,I1,rv,Gs,Fg,Mm,MX⟩:=hu;refine v ?_;have I2:=I1.Em;refine⟨I2.Fc,sY M F1 (hr.mono hk) hb C I2 rv λa P j O1 ne=>?_⟩;have EM:aM g (upd (upd g P (.own a)) a (.ins (G.ct (c+1)).1 P [])):=λb t q=>by
   rw[ax (λz=>by rw[z,j]at q;cases q),ax (λz=>by rw[z,O1]at q;cases q)];exact q
  have em:List.replicate n O=(List.range n).map λ_=>O:=by rw[List.map_const',Z4]
  have D:Fz (List.replicate n O) Gs=[]:=by rw[em];exact qw _ _
  refine⟨a,l,[],trees d,[a],Gs,z,rfl,.ins (ks:=[]) ay L (λ_=>rfl) .nil,(Mm.same EM).at (GP a) Lh,?_,?_,?_,eg,λcls H' Js S=>?_⟩
  ·simp[trees,(hn U d N)]
  ·rw[D];simp
  ·rw[D];intro b hb Gg;have:b=a:=by simpa using hb
   subst this;exact Ep.xl (Mm.EI b (qY _ _ b Gg)) j
  ·rw[D,Zd]at S;refine kk H' (λb t q=>S b t (λz=>?_) (EM b t (Fg b t q))) cls Js;have:b=a:=by simpa using z
   rw[this,Fg.free j]at q;cases q
 ·cases e1
theorem PA.EO{X:Cx}(h:PA X.EO b t):PA X b t:=λpos a s R H Q I hw=>Z6 (h pos a s R H Q (I.E8 _) hw) (λ_ _ f=>by
 obtain⟨d,j,g,r,q⟩:=f;exact⟨d,j,g.Em,r,q⟩) λ_ _ z=>False.elim z
def kc(i c:Nat)(a:IJ):EV:=λU=>if mw c (U[i]?:Option (Wb))=Z then (a U).bind λr=>match r with
 |.ex x=>Y (.ex x U)
 |.ok _=>M else M
def mf(i c:Nat)(b:Xx)(g:Gj)(d:Ew):EV:=λU=>if mw c (U[i]?:Option (Wb))=Z then (b U).bind λz=>if Et z.1.2=Z then (match (z.2[i]?:Option (Wb)) with
 |some (some (.ow t))=>(d z.2).bind λa=>(g (t :: z.1.2 :: trees a)).bind λr=>match r with
  |.ex x=>Y (.ex x z.2)
  |.ok _=>M
 |_=>M) else M else M
def ql{c:Nat}(h:mw c z=Z):∃q fs,z=Y (Y (.ow (.obj (c+1) (q :: fs)))):=by
 unfold mw at h;split at h
 ·rename_i a q fs;rw[show a=c+1 from by simpa using h];exact⟨q,fs,rfl⟩
 ·cases h
def wc{X:Cx}{B:Pos}{L:Sem Bool}(i:Nat)(F:MxAt X.prog X.w X.K X.mg X.base k G c m ps E)(hr:gV k' X.A)(hk:k<=k')(hN:X.N[i]?=Y y)(Q:HD X.env.scope y)(hd:K3 y)(j:K4 y)(h:X.ex=[])(h1:PVX G X e l)(ha:E7 G X.EO es cs)(C:K1 e es X)(g:K2 pos es X)(Hl:swapsWith (.Call (.Attribute (.Name y p1) m apos) (e :: es) [] pos) M B.line X.env=pure O)(S:eval (.Call (.Attribute (.Name y p1) m apos) (e :: es) [] pos) X.env=(do
   let u ← eval (.Name y p1) X.env
   standAt apos.atName
   let (f,first) ← holding [u] (getMethod u m L)
   callWith pos f first (backTo pos (KM (e :: es) X.env)) (backToKw pos (Pv [] X.env)))) :
  PSX G X (.Expr (.Call (.Attribute (.Name y p1) m apos) (e :: es) [] pos) B) (kc i c l):=by
 obtain⟨f,fd,f1,f2,f3⟩:=F.ex;refine PS.weak (gf (la (eZ hN Q hd j) F.cl f2 f1 (hr.mono hk) f3 h (c9 h1 (PA.EO ha) C) C g S) Hl) λD R H hq=>?_;refine L2.ak λP_ d=>?_;obtain⟨J,U,o,s,e,P⟩:=hq;refine d ?_;unfold kc at e;split at e
 ·rename_i JD;obtain⟨q,fs,h0⟩:=ql JD;obtain⟨r,e1,e2⟩:=Zz.mp e;cases r with
  |ok v=>cases e2
  |ex z =>
   cases e2;refine L2.ak λP_ d=>?_;obtain⟨v0,g1,g2⟩:=s.rp _ _ h0;obtain⟨c',a,dx,b,ns,vs,ts,Fs,ec,rfl,eb,ef,eF,hA,hl,LJ,ra⟩:=cH g2;cases ec;refine d ?_;exact⟨.ref a,g1,a,dx,_,rfl,hA,iI F.no _ _,J,U,.ex z,s,e1,λH' t=>P J R H' (s.same t) (Eu.same t)⟩
 ·cases e
def vy{X:Cx}{IA:Pos}(i:Nat)(F:MxAt X.prog X.w X.K X.mg X.base k G c m ps C)(hr:gV k' X.A)(hk:k<=k')(hN:X.N[i]?=Y y)(hv:HD X.env.scope y)(hd:K3 y)(t:K4 y)(l:X.ex=[])(h1:PX G X.EO e E)(ha:E7 G X.EO es cs)(FG:K1 e es X)(j:K2 pos es X)(Hl:swapsWith (.Call (.Attribute (.Name y p1) m apos) (e :: es) [] pos) M IA.line X.env=pure O)(ht:eval (.Call (.Attribute (.Name y p1) m apos) (e :: es) [] pos) X.env=(do
   let Q ← eval (.Name y p1) X.env
   standAt apos.atName
   let (f,first) ← holding [Q] (getMethod Q m pl)
   callWith pos f first (backTo pos (KM (e :: es) X.env)) (backToKw pos (Pv [] X.env)))) :
  PSX G X (.Expr (.Call (.Attribute (.Name y p1) m apos) (e :: es) [] pos) IA) (mf i c E C cs):=by
 obtain⟨f,fd,f1,f2,f3⟩:=F.ex;refine PS.weak (gf (la (eZ hN hv hd t) F.cl f2 f1 (hr.mono hk) f3 l (c9 (PE.EO h1) (PA.EO ha) FG) FG j ht) Hl) λD R H hq=>?_;refine L2.ak λP_ h=>?_;obtain⟨J,U,o,s,e,kk⟩:=hq;refine h ?_;unfold mf at e;split at e
 ·rename_i JD;obtain⟨q,fs,h0⟩:=ql JD;obtain⟨⟨L,U1⟩,e1,e2⟩:=Zz.mp e;split at e2
  ·rename_i Lc;refine L2.ak λP_ h=>?_;obtain⟨v0,S,g2⟩:=s.rp _ _ h0;obtain⟨c',a,dx,b,ns,vs,ts,Fs,ec,rfl,eb,ef,eF,hA,hl,LJ,ra⟩:=cH g2;cases ec;refine h ?_;split at e2
   ·rename_i t1 MI;obtain⟨B,el,e3⟩:=Zz.mp e2;obtain⟨r,eg,e4⟩:=Zz.mp e3;cases r with
    |ok v=>cases e4
    |ex z =>
     cases e4;refine⟨.ref a,S,a,dx,_,rfl,hA,iI F.no _ _,J,U,L,U1,s,e1,Lc,λu1 H1 u g f1 r1=>?_⟩;obtain⟨va,q1,w2⟩:=g.rp _ _ MI;rw[S]at q1;cases q1;refine⟨u,U1,B,g,el,λus H2 Gs d JC JZ=>?_⟩;exact⟨t1 :: L.2 :: trees B,u i :: [] :: Gs,.ex z,.cons (w2.same d) (.cons (r1.same d) JC),eg,λcls H' FW P=>kk u R H' ((g.same d).same P) (f1.trans (Eu.same (d.trans P))) cls FW⟩
   ·cases e2
  ·cases e2
 ·cases e
noncomputable def xR:Val->W0
 | (_,.int i)=>Y (.fr,.int (-i))
 |_=>M
def A4(g:PV G X e ca):PV G X (.UnaryOp .USub e pos) (e1 xR ca):=PE.weak (zY vB g) λR H Q f=>by
 obtain⟨J,U,m,t,s,j,k⟩:=f;obtain⟨⟨b,y⟩,h,a⟩:=Zz.mp j;unfold xR at a;split at a
 ·rename_i i d;cases d;cases a;exact⟨J,U,b,_,s,h,λv l F e1 r1 f1=>⟨i,r1.int_inv,k _ l [] e1 (.int _) Fp.nil⟩⟩
 ·cases a
noncomputable def uB(b:Ex)(a:Xx):Xx:=λU=>(b U).bind λv=>match v.2 with
 |.bl true=>a U
 |.bl false=>Y ((.fr,.bl O),U)
 |_=>M
def xf(a:Xx)(b:Ex):Xx:=λU=>(a U).bind λz=>match z.1.2 with
 |.bl true=>(b z.2).bind λv=>if Et v.2=Z then Y (v,z.2) else M
 |.bl false=>Y ((.fr,.bl O),z.2)
 |_=>M
def xQ(z:PV G X a ca)(w:PX G X (.BoolOp .And (b :: d) pos) h):PX G X (.BoolOp .And (a :: b :: d) pos) (uB ca h):=PE.weak (rh z w) λR H Q q=>by
 obtain⟨J,U,v,B,s,e,C,k⟩:=q;obtain⟨⟨m,t⟩,A,e1⟩:=Zz.mp e;refine⟨J,U,m,t,s,A,λu L F g r f=>?_⟩;dsimp only at e1;split at e1
 ·refine⟨Z,r.EU,qF ⟨J,U,v,B,s.same g,e1,C,λj E D l f2 r2=>k j E D l ((Eu.same g).trans f2) r2⟩⟩
 ·cases e1;exact⟨O,r.EU,qW (k _ L J (s.same g) (Eu.same g) (.bl _))⟩
 ·cases e1
def zo{c:Expr}(B:PX G X b j)(E:PV G X (.BoolOp .And (c :: a) pos) q):PX G X (.BoolOp .And (b :: c :: a) pos) (xf j q):=PE.weak (rh B E) λR H Q C=>by
 obtain⟨J,U,v,h,s,e,P,k⟩:=C;obtain⟨⟨⟨m,t⟩,N⟩,l,e1⟩:=Zz.mp e;dsimp only at e1;split at e1
 ·obtain⟨L,ec,e2⟩:=Zz.mp e1;split at e2
  ·rename_i D;cases e2;refine⟨J,U,(m,.bl Z),h,s,l,rfl,λu w g d f r=>⟨Z,r.EU,qF ⟨g,h,v.1,v.2,d,ec,λA F S z r2 f2=>?_⟩⟩⟩;have:=r2.Et D;subst this;exact k A F g (d.same z) (f.trans (Eu.same z)) r2
  ·cases e2
 ·cases e1;exact⟨J,U,(m,.bl O),h,s,l,rfl,λu w g d f r=>⟨O,r.EU,qW (k _ w g d f (.bl _))⟩⟩
 ·cases e1
noncomputable def My(x y:Str):Str->Option Nat:=λz=>if z=x then Y 0 else if z=y then Y 1 else M
noncomputable def Mh(a b:Bool):Nat->Option Bool:=λk=>Y (if k=0 then a else b)
def om{X:Cx}(j:Nat){y n:Str}{L:Pos}(Q:X.stack=X.env :: X.outer)(P:X.env.frame=Y X.env.locals)(B:∀W pn,iZ G { X with xe:=W,pn:=pn } b q)(z:∀a,gg G (Cx.hand X a) (r :: s) l)(D:X.N.Nodup)(w:X.N[j]?=Y n)(v:X.env.scope.names.lookup n=Y .local)(u:X.mg y=Y C)(A:Gl X y)(R:K3 y)(H:X.mg g=Y (.ref (G.ec 0)))(E:PySem.W.exmOne X.K (.ref (G.ec 0)) C=Y Z)(J:X.mg f=Y (.ref (G.ec 1)))(F:PySem.W.exmOne X.K (.ref (G.ec 1)) C=Y Z) :
  PSV G X (.Try b [.ExceptHandler (Y (.Name y t)) (Y n) (r :: s) L] [] [] pos) (n5 q j (My g f) l):=CO Q P B z D w v u A R λx c h=>by
 unfold My at h;split at h
 ·rename_i d;cases h;rw[d];exact⟨H,E⟩
 ·split at h
  ·rename_i d;cases h;rw[d];exact⟨J,F⟩
  ·cases h
def uU(l j:Bool)(z:PV G X a ca)(F:Gl X x)(H:X.mg x=Y (.ref D))(L:K3 x)(C:X.K=G.K)(w:Gl X "isinstance")(v:X.mg "isinstance" = M)(E:G.ec=λc=>if c=0 then A else B)(r:Hm X.K A)(q:Hm X.K B)(t:PySem.W.kitOne X.K (.ref A) (.ref D)=Y l)(s:PySem.W.kitOne X.K (.ref B) (.ref D)=Y j)(u:KM [a,.Name x d] X.env=(O,eval a X.env) :: KM [.Name x d] X.env)(J:KM [.Name x d] X.env=(O,eval (.Name x d) X.env) :: KM [] X.env)(g:(backTo pos (KM [Expr.Name x d] X.env)).any (·.1)=O) :
  PV G X (.Call (.Name "isinstance" p1) [a,.Name x d] [] pos) (l8 (Mh l j) ca):=C9 z F H L C w v (λk b h=>by
 cases h;rw[E];dsimp only;by_cases f:k=0
 ·rw[Zr f,Zr f];exact⟨r,t⟩
 ·rw[Zp f,Zp f];exact⟨q,s⟩) u J g
def Bh{n:String}(l j:Bool)(C:PV G X a ca)(F:Gl X x)(H:X.mg x=M)(u:bootBuiltins x=Y (.type n))(L:x ≠ "__name__")(N:K3 x)(D:X.K=G.K)(z:Gl X "isinstance")(w:X.mg "isinstance" = M)(E:G.ec=λc=>if c=0 then A else B)(r:Hm X.K A)(q:Hm X.K B)(t:PySem.W.kitOne X.K (.ref A) (.type n)=Y l)(s:PySem.W.kitOne X.K (.ref B) (.type n)=Y j)(v:KM [a,.Name x d] X.env=(O,eval a X.env) :: KM [.Name x d] X.env)(J:KM [.Name x d] X.env=(O,eval (.Name x d) X.env) :: KM [] X.env)(g:(backTo pos (KM [Expr.Name x d] X.env)).any (·.1)=O) :
  PV G X (.Call (.Name "isinstance" p1) [a,.Name x d] [] pos) (l8 (Mh l j) ca):=Br C F H u L N D z w (λk b h=>by
 cases h;rw[E];dsimp only;by_cases f:k=0
 ·rw[Zr f,Zr f];exact⟨r,t⟩
 ·rw[Zp f,Zp f];exact⟨q,s⟩) v J g
def AJ{G:Gx}{X:Cx}(d:G.ec=λc=>if c=0 then A else B)(g:Hm X.K A/\Lw X A b a)(f:Hm X.K B/\Lw X B b a):∀k,Hm X.K (G.ec k)/\Lw X (G.ec k) b a:=λk=>by
 rw[d];dsimp only;split<;>assumption
end
end VS
end
section
namespace L2
open PySem PySem.Spec PyProof.Rows
structure Jx(k:Nat)(A:Pi):Prop where
 dp:A.depth+3*k+5<recursionLimit
 un:A.units+16*k+200<cLine
abbrev NZ(P:PP)(w:SC)(K:Wv)(g:Wj)(e:Re)(N:List Str)(d:Str)(a:Scope)(f:GM)(h:IR)(A:Pi)(b:List Env)(s:FB)(H:Hp)(E:XK):Cx :=
 { fh EX P w K g e N d a f h A b s H E with calm:=false,xe:=λ_ _=>False }
structure FnOkH(P:PP)(w:SC)(K:Wv)(mg:Wj)(base:Re)(k:Nat)(f:GM)(fd:On)(ps:List Str)(sp:Sp):Prop where
 len:∀vs H Q E,sp vs H Q E->vs.length=ps.length
 run:∀(A:Pi)(outer:List Env)(s:FB)(H:Hp)(args:Args)(us:Wh)(vs:List V)(Q:VK)(E:XK),Jx k A->Env0 P w K mg base A outer s H->BindsTo s fd args (ps.zip us)->aI vs us->sp vs H Q E →
  codeAny (FM P w) A (.call (.ref f) args) (CR EX outer P w H s Q E) s
def B6{P:PP}{w:SC}{K:Wv}{G:Wj}{i:Re}{k:Nat}{f:GM}{m d:Str}{g:Arguments}{j:List Stmt}{a:Scope}{dV kV F pm C ct oc:IR}{an od:Option GM}{G8:Array (Wg)}{N ps:List Str}{R:Sp}(lk:K.lookup f=Y ⟨oc,od,.func (PySem.W.fnOf m d g j a dV kV F pm an C ct),G8⟩)(hcd:PySem.W.codeIn K C d=Z)(S:cg N ps a)(D:∀l H Q E,R l H Q E->l.length=ps.length)(GE:∀(A:Pi)(outer:List Env)(s:FB)(H:Hp)(l:List V)(Q:VK)(E:XK),R l H Q E →
   ∃t,Gi (NZ P w K G i N d a f C A outer s H E) j t/\t { nx:=λ_ y=>Q .non y,rt:=Q } (start N l) H) :
  FnOkH P w K G i (k+1) f (PySem.W.fnOf m d g j a dV kV F pm an C ct) ps R:=by
 refine⟨D,λA outer s H args us l Q E hr h hb r Im=>?_⟩;have hl:=D _ _ _ _ Im;have KX:=h.mod.Jk.keeps λb o e=>(h.bs b o e).1;refine codeAny_call_function (by have:=hr.dp;lia) (KX _ _ lk) L S.co S.gen L (PySem.W.codeRec_of KX hcd) (hb _ _ _ _ ?_);refine wpAny_newFunctionEnv_cells S.kind (λ⟨n,v⟩ hy=>by
  rcases S.par n (XG hy).1 with q | q
  ·exact .inl q
  ·exact .inr ⟨q,XM _ _ _ (.inl q)⟩) λenv he s1 x=>?_
 subst he;refine⟨(h.mod.nolimit.keeps λb o e=>(h.bs b o e).1).keeps x.toInCall.keep,codeAny_func ?_⟩;obtain⟨t,ht,hq⟩:=GE A outer s H l Q E Im;have I:=mM (CX:=EX) (E:=E) (A:={ A with handled:=none }) (outer:=outer) S rfl ⟨h.frames,h.mod,h.tb,h.bs,h.IG,h.Fd,h.Ju,h.Eg,h.bare⟩ hl r x;have Uk:Inv (NZ P w K G i N d a f C A outer s H E) [] (start N l) H s1:=⟨⟨I.ok.mod,I.ok.kind,I.ok.glob,I.ok.blt,I.ok.above,I.ok.inj,I.ok.has,I.ok.Kr,(λz=>nomatch z),Around.frames_deeper h.frames,I.ok.JA,I.ok.M0,I.ok.tb,I.ok.bs,I.ok.IG,I.ok.Hz,I.ok.HU,I.ok.Fd,I.ok.Ju⟩,I.os,I.bare,I.base,I.loc,I.cell,I.free,I.Ey,I.pin,I.Eg,I.len⟩
 refine Z6 (ht [] s1 (start N l) H _ Uk hq) (λfl U B=>?_) λe U B=>B.elim;have fin:∀{J:St}{y:Hp}{v:V}{u:IR},Inv (NZ P w K G i N d a f C A outer s H E) [] J y U->RelV v u->Q v y->CE outer P w H s Q u U :=
  λ{J y v u} p X q=>⟨v,y,p.os,p.bare,p.base,p.Eg,X,q⟩
 cases fl with
 |ret u =>
  obtain⟨v,J,y,p,X,q⟩:=B;exact fin p X q
 |next =>
  obtain⟨J,y,p,q⟩:=B;exact fin (v:=V.non) p L q
 |brk =>
  obtain⟨_,_,_,q⟩:=B;exact False.elim q
 |cont =>
  obtain⟨_,_,_,q⟩:=B;exact False.elim q
end L2
namespace VS
open PySem PySem.Spec PyProof.Rows L2 XN
structure FnHt(P:PP)(w:SC)(K:Wv)(mg:Wj)(base:Re)(k:Nat)(x:Str)(ps:List Str)(G:Gx)(g:Fn):Prop where
 ex:∃f fd,FnOkH P w K mg base k f fd ps (GA G g)/\mg x=some (.ref f)/\PySem.W.keepIn K (.ref f)=true/\Binds K fd ps []
section
variable{K:Wv}
def xn(F:Er K x x a f r)(p:mg x=Y (.ref f))(S:cg N b (ah a))(n:b.length=i)(o:N.length=j)(u:∀(kV doc pm:IR)(an:Option GM)(d ct:IR)(e:Wh),e.length=b.length->bindArgs (PySem.W.fnOf x x (bW a) (aD a) (ah a) .none kV doc pm an d ct) ⟨e,[]⟩=pure (b.zip e))(q:∀(d:IR)(A:Pi)(outer:List PySem.Env)(s:FB)(H:Hp)(E:XK),gg G (NZ P w K mg base N x (ah a) f d A outer s H E) (aD a) c) :
  FnHt P w K mg base (k+1) x b G (fn i j c):=by
 refine L2.ak λy m=>?_;have t:=F.binds u;have kp:=F.kp;obtain⟨oc,v,kV,doc,pm,an,d,ct,z,rfl,lk,g⟩:=F.ex;refine m ?_;exact⟨f,_,B6 lk g S (λl H Q E h=>vt n h) λA outer s H l Q E h=>⟨_,q d A outer s H E,xp o h⟩,p,kp,t⟩
end
section
def qC{X:Cx}(b:gV k X.A):Jx k (Cx.hand X a).A:=⟨b.dp,b.un⟩
def oh{X:Cx}(F:FnHt X.prog X.w X.K X.mg X.base k x ps G a)(y:Jx k' X.A)(J:E7 G X (e :: es) cs)(hk:k<=k')(E:Gl X x)(S:K3 x)(he:K1 e es X)(m:K2 pos es X):PV G X (.Call (.Name x p) (e :: es) [] pos) (bq a cs):=by
 obtain⟨f,fd,B,D,P,hb⟩:=F.ex;have pc:PE X (.Call (.Name x p) (e :: es) [] pos) (vq (GA G a) [] (λ_ _ _=>False) (Nr G cs)):=by
  intro b s R H Q I h;refine Yg (fj I E D ?_ S);refine YW I.ok.mod.Jk P (thn (J pos b s R H _ I h) λj o L=>?_) he m;obtain⟨i,n,d,r,q⟩:=L;refine⟨d.Fc,?_⟩;have v:GA G a i n Q (λ_ _ _=>False):=by
   have t:GA G a (i++[]) n Q (λ_ _ _=>False):=q;rw[Zd]at t;exact t
  have z:=hb o j d.Fc (by rw[Zd];exact(by rw[← r.length];exact B.len _ _ _ _ v));rw[Zd]at z;refine Xn (YG (B.run X.A X.stack o n ⟨j,[]⟩ j i Q _ ⟨by have:=y.dp;lia,by have:=y.un;lia⟩ d.IF z r v) λC U l=>?_);cases C with
  |error e=>exact l.elim
  |ok N =>
   cases N with
   |ret u=>exact d.after l
   |_=>exact l.elim
 exact PE.weak pc λR H Q h=>call_of h
end
end VS
end
section
namespace T08
open VS
def aF:Mt:=GI 0 4 4 [O,O,Z]
  (ar (sX (gT 0 [.fld 1] aK (aa (af 1) ag)))
  (ar (sX (gT 0 [.fld 2] aK (aa (af 2) ag)))
  (ar (l7 0 [.fld 3] 3)
  (eE (e2 lY (eN cp (aa (aU 1 (af 0)) ag)) (Q2 1))))))
def bL:Mt:=GI 0 1 1 (List.replicate 0 O)
  (ar (fi 0 1 (cq ag))
  (ar (fi 0 2 (cq ag))
  (ar (fi 0 3 (cq ag))
  (JB (aV 0 [] 0 [O,O,Z] aF (aa (Q2 0) (aa (eC .non) (aa (pq 0 []) ag))))))))
def bT:Sx :=
  (ar (dJ 0 [.fld 3,.ix (af 1)] (af 2) (af 5))
  (aG 1 (e2 aT (aU 2 (af 0)) (af 1))))
def av:Mt:=GI 0 3 6 [O,O]
  (ar (aG 3 (e2 Hb (e2 aT (aU 3 (af 0)) (af 1)) (af 2)))
  (ar (aG 4 (e2 bE (e2 aT (aU 1 (af 0)) (af 1)) (Q2 1)))
  (ar (FK (e2 oEq (e2 aT (aU 1 (af 0)) (af 3)) (af 4)) (iq 3) dG)
  (ar (iR 5 (aV 0 [] 0 [O,O,Z] aF (aa (af 4) (aa (e2 aT (aU 2 (af 0)) (af 3)) (aa (eN j5 (aa (e2 aT (aU 3 (af 0)) (af 3)) ag)) ag)))))
  (ar (dJ 0 [.fld 2] (af 3) (af 5))
  (ar (ke (hJ (fC (af 1)) (e2 oEq (e2 tf (e2 aT (aU 3 (af 0)) (af 1)) (af 2)) (af 3))) bT)
  (iq 5)))))))
def bV:Sx :=
  (ar (dJ 0 [.fld 3,.ix (af 4)] (af 2) (af 3))
  (aG 4 (e2 aT (aU 2 (af 0)) (af 4))))
def bR:Mt:=GI 0 3 5 [O,O]
  (ar (FK (e2 lG (af 2) (e2 aT (aU 3 (af 0)) (af 1))) (lZ (aV 0 [] 0 [O,O] av (aa (af 1) (aa (af 2) ag)))) dG)
  (ar (iR 3 (aV 0 [] 0 [O,O,Z] aF (aa (e2 bE (e2 aT (aU 1 (af 0)) (af 1)) (Q2 1)) (aa (Q2 0) (aa (pq 0 []) ag)))))
  (ar (aG 4 (af 1))
  (ar (ke (hJ (fC (af 4)) (e2 du (af 2) (e2 aT (aU 3 (af 0)) (af 4)))) bV)
  (ar (FK (fC (af 4)) (jr 0 [.fld 2] (af 3) (aV 0 [] 0 [O,O] av (aa (af 4) (aa (af 2) ag)))) dG)
  (iq 3))))))
def cn:Sx :=
  (iR 1 (aV 0 [] 0 [O,O] bR (aa (af 1) (aa (af 3) ag))))
def aP:Mt:=GI 0 3 4 [O,O]
  (ar (kL (df 3) (km (af 2)) cn)
  (iq 1))
def bz:Sx :=
  (FK (e2 du (e2 Hb (af 4) (af 5)) (af 1)) (ar (r9 1 (e2 Hb (af 4) (af 5)) (eN cp (aa (af 2) ag)))
  (sX (mq 2 [] aK (aa (e2 Hb (af 4) (af 5)) ag)))) dG)
def b6:Sx :=
  (ar (aG 4 (e2 aT (aU 3 (af 0)) (e2 aT (af 2) (af 3))))
  (ar (kL (df 5) (km (eN gj (aa (af 4) ag))) bz)
  (aG 3 (e2 bE (af 3) (Q2 1)))))
def aC:Fn:=fn 1 6
  (ar (mG 1 (pq 0 [((Q2 0),(Q2 0))]))
  (ar (mG 2 (cq (aa (Q2 0) ag)))
  (ar (aG 3 (Q2 0))
  (ar (ke (e2 oLt (af 3) (eN cp (aa (af 2) ag))) b6)
  (ar (uL 2)
  (iq 1))))))
def cj:Fn:=fn 3 6
  (ar (aG 3 (e2 aT (aU 2 (af 0)) (af 1)))
  (ar (aG 4 (e2 aT (aU 3 (af 0)) (af 1)))
  (ar (aG 5 (eN jB (aa (gU 1 (df 0) (km (eN gj (aa (af 4) ag))) M (qJ (aa (af 0) (aa (e2 oz (af 3) (e2 Hb (af 5) (af 0))) ag)))) ag)))
  (ar (FK (Dp (af 3)) (eE (qJ (aa (Q2 0) (aa (Q2 0) (aa (eC .non) (aa (af 5) ag)))))) dG)
  (eE (qJ (aa (e2 bE (e2 aT (aU 1 (af 0)) (af 3)) (Q2 1)) (aa (e2 aT (aU 1 (af 0)) (af 1)) (aa (e2 oz (af 2) (af 3)) (aa (af 5) ag))))))))))
def dk:Fn:=fn 1 2
  (ar (mG 1 (cu 0 aC (af 0) ag))
  (wM 1 (df 0) (cu 0 cj (af 1) (aa (af 0) (aa (af 2) ag)))))
def aB:Mt:=GI 1 1 1 []
  (ar (FK (e2 KG (eN cp (aa (aU 4 (af 0)) ag)) (Q2 8)) Oh dG)
  (ar (sX (gT 0 [.fld 4] aK (aa (eC (.str [])) ag)))
  (ar (sX (gT 0 [.fld 5] aK (aa (Q2 0) ag)))
  (eE (e2 lY (eN cp (aa (aU 4 (af 0)) ag)) (Q2 1))))))
def bB:Gj:=Iq 1 1
  (iU (J9 (e2 KG (eN cp (aa (aU 4 (af 0)) ag)) (Q2 8)) (oA ("TooMany" : PySem.Str) (aa (eC (.str [116,104,101,114,101,32,105,115,32,110,111,32,114,111,111,109,32,102,111,114,32,111,110,101,32,109,111,114,101,32,116,101,120,116])) ag)) (sL dG))
  (λ_=>M))
def gH:Fn:=fn 1 1
  (eE (hJ (NX .int (af 0)) (ku (NX .bool (af 0)))))
def aE:Gj:=Iq 2 2
  (J9 (Ko (ku (bq gH (aa (af 1) ag))) (ku (lj oLe oLt (Q2 0) (af 1) (eN cp (aa (af 0) ag))))) (oA ("NoText" : PySem.Str) (aa (eC (.str [116,104,101,114,101,32,105,115,32,110,111,32,116,101,120,116,32,111,102,32,116,104,105,115,32,110,117,109,98,101,114])) ag)) (sL dG))
def bY:Fn:=Je aE
def c4:Fn:=fn 1 1
  (eE (eN zp (aa (gU 1 (df 0) (km (af 0)) M (eN cp (aa (af 0) ag))) ag)))
def aw:Mt:=GI 1 3 3 [O,O]
  (ar (sX (xP (bq bY (aa (aU 4 (af 0)) (aa (af 1) ag)))))
  (ar (FK (e2 KD (e2 bE (bq c4 (aa (aU 4 (af 0)) ag)) (eN cp (aa (af 2) ag))) (Q2 120)) Oh dG)
  (ar (jr 0 [.fld 5] (af 1) (aV 0 [.fld 6] 0 [O,O] aP (aa (e2 aT (aU 5 (af 0)) (af 1)) (aa (af 2) ag))))
  (dJ 0 [.fld 4] (af 1) (e2 bE (e2 aT (aU 4 (af 0)) (af 1)) (af 2))))))
def aR:Gj:=Iq 3 3
  (iU (IW (λc=>sX (xP c)) (ip aE (aa (aU 4 (af 0)) (aa (af 1) ag))))
  (iU (J9 (e2 KD (e2 bE (bq c4 (aa (aU 4 (af 0)) ag)) (eN cp (aa (af 2) ag))) (Q2 120)) (oA ("TooMany" : PySem.Str) (aa (eC (.str [116,104,101,114,101,32,105,115,32,110,111,32,114,111,111,109,32,102,111,114,32,115,111,32,109,97,110,121,32,109,111,114,101,32,115,105,103,110,115])) ag)) (sL dG))
  (λ_=>M)))
def bc:Sx :=
  (JB (md 0 1 [O,O] aw (aV 0 [] 1 [] aB ag) (aa (af 2) ag)))
def aW:Mt:=GI 1 2 3 (List.replicate 1 O)
  (ar (fi 0 4 (cq ag))
  (ar (fi 0 5 (cq ag))
  (ar (fi 0 6 (eNew 0 bL ag))
  (FK (fC (af 1)) (kL (df 2) (km (af 1)) bc) dG))))
def cM:EV :=
  (J8 (kc 0 1 (d6 1 bB (af 0) ag))
  (J8 (mf 0 1 (aV 0 [] 1 [] aB ag) aR (aa (af 2) ag)) (sL (JB (md 0 1 [O,O] aw (aV 0 [] 1 [] aB ag) (aa (af 2) ag))))))
def bK:Lv:=ui 1 2 3 (List.replicate 1 O)
  (iU (sL (fi 0 4 (cq ag)))
  (iU (sL (fi 0 5 (cq ag)))
  (iU (sL (fi 0 6 (eNew 0 bL ag)))
  (J9 (fC (af 1)) (yE (df 2) (km (af 1)) cM) (sL dG)))))
def bg:Fn:=fn 1 1
  (eE (eN i8 (aa (aU 4 (af 0)) ag)))
def bh:Fn:=fn 1 1
  (eE (cu 0 dk (aU 6 (af 0)) ag))
def aJ:Fn:=fn 2 2
  (ar (FK (e2 oLt (af 1) (eN cp (aa (af 0) ag))) (eE (e2 aT (af 0) (af 1))) dG)
  (eE (Q2 0)))
def eK:Fn:=fn 2 3
  (ar (aG 2 (e2 oMod (e2 bE (e2 bE (e2 oMod (af 0) (Q2 2147483629)) (e2 kg (Q2 48271) (af 1))) (Q2 11)) (Q2 2147483629)))
  (ar (aG 2 (e2 bE (e2 oMod (e2 kg (af 2) (af 2)) (Q2 2147483629)) (e2 kg (Q2 7919) (af 1))))
  (eE (e2 oMod (e2 kg (af 2) (af 2)) (Q2 2147483587)))))
def ed:Sx :=
  (FK (e2 oEq (e2 oMod (bq aJ (aa (af 0) (aa (Q2 0) ag))) (Q2 2)) (Q2 0)) (ar (sX (mq 6 [] aK (aa (e2 aT (af 1) (e2 oMod (af 4) (eN cp (aa (af 1) ag)))) ag)))
  (aG 4 (e2 bQ (af 4) (eN cp (aa (af 1) ag))))) (sX (mq 6 [] aK (aa (e2 aT (af 1) (e2 oMod (e2 bQ (bq eK (aa (af 4) (aa (e2 bE (e2 kg (Q2 30) (af 3)) (af 7)) ag))) (Q2 7)) (eN cp (aa (af 1) ag)))) ag))))
def dB:Fn:=fn 4 8
  (ar (aG 4 (bq aJ (aa (af 0) (aa (e2 bE (Q2 1) (af 3)) ag))))
  (ar (aG 5 (e2 oMod (af 4) (e2 bE (af 2) (Q2 1))))
  (ar (aG 4 (e2 bQ (af 4) (e2 bE (af 2) (Q2 1))))
  (ar (mG 6 (cq ag))
  (ar (kL (df 7) (dQ (af 5)) ed)
  (ar (uL 6)
  (eE (eM gS (eC (.str [])) (aa (af 6) ag)))))))))
def gG:Fn:=fn 1 5
  (ar (aG 1 (bq aJ (aa (af 0) (aa (Q2 0) ag))))
  (ar (aG 2 (e2 aT (cq (aa (eC (.str [97,98])) (aa (eC (.str [97,98,99])) (aa (eC (.str [97,98,99,100])) (aa (eC (.str [97,122])) (aa (eC (.str [97])) (aa (eC (.str [97,98,99,100,101,102,103,104,105,106,107,108,109,110,111,112,113,114,115,116,117,118,119,120,121,122])) ag))))))) (e2 oMod (e2 bQ (af 1) (Q2 2)) (Q2 6))))
  (ar (aG 3 (e2 aT (cq (aa (Q2 1) (aa (Q2 2) (aa (Q2 3) (aa (Q2 4) (aa (Q2 2) (aa (Q2 1) (aa (Q2 0) (aa (Q2 8) ag))))))))) (e2 oMod (e2 bQ (af 1) (Q2 12)) (Q2 8))))
  (ar (aG 4 (e2 aT (cq (aa (Q2 24) (aa (Q2 12) (aa (Q2 8) (aa (Q2 6) ag))))) (e2 lY (eN p7 (aa (af 3) (aa (Q2 4) ag))) (Q2 1))))
  (ar (FK (e2 oEq (e2 oMod (e2 bQ (af 1) (Q2 96)) (Q2 8)) (Q2 5)) (aG 4 (e2 bQ (Q2 60) (eN p9 (aa (Q2 1) (aa (af 3) ag))))) dG)
  (ar (FK (hJ (e2 oEq (af 3) (Q2 8)) (e2 Ik (e2 oMod (e2 bQ (af 1) (Q2 96)) (Q2 8)) (Q2 5))) (aG 4 (Q2 3)) dG)
  (eE (gU 1 (df 0) (dQ (af 3)) M (bq dB (aa (af 1) (aa (af 3) (aa (af 5) (aa (af 0) ag)))))))))))))
def cU:Fn:=fn 1 2
  (ar (mG 1 (cq (aa (l8 (Mh Z O) (af 0)) (aa (l8 (Mh O Z) (af 0)) (aa (l8 (Mh Z Z) (af 0)) ag)))))
  (ar (sX (mq 1 [] aK (aa (l8 (λ_=>Y O) (af 0)) ag)))
  (iq 1)))
def fU:Fn:=fn 1 3
  (ar (aG 1 (cq ag))
  (ar (n5 (IW (λc=>sX (xP c)) (d6 1 bB (af 0) ag)) 2 (My ("NoText" : PySem.Str) ("TooMany" : PySem.Str)) (aG 1 (bq cU (aa (af 2) ag))))
  (eE (e2 oEq (af 1) (cq (aa (eC (.bl O)) (aa (eC (.bl Z)) (aa (eC (.bl Z)) (aa (eC (.bl O)) ag)))))))))
def fL:Fn:=fn 1 3
  (ar (aG 1 (cq ag))
  (ar (n5 (IW (λc=>sX (xP c)) (sG 1 bK (aa (af 0) ag))) 2 (My ("NoText" : PySem.Str) ("TooMany" : PySem.Str)) (aG 1 (bq cU (aa (af 2) ag))))
  (eE (e2 oEq (af 1) (cq (aa (eC (.bl O)) (aa (eC (.bl Z)) (aa (eC (.bl Z)) (aa (eC (.bl O)) ag)))))))))
def dE:Fn:=fn 4 6
  (ar (aG 4 (cq ag))
  (ar (n5 (IW (λc=>sX (xP c)) (d6 1 aR (af 0) (aa (af 1) (aa (af 2) ag)))) 5 (My ("NoText" : PySem.Str) ("TooMany" : PySem.Str)) (aG 4 (bq cU (aa (af 5) ag))))
  (eE (e2 oEq (af 4) (cq (aa (e2 oEq (af 3) (eC (.str [116,101,120,116]))) (aa (e2 oEq (af 3) (eC (.str [109,97,110,121]))) (aa (eC (.bl Z)) (aa (eC (.bl O)) ag)))))))))
def iC:Sx :=
  (ar (aG 6 (e2 bE (bq aJ (aa (af 0) (aa (e2 bE (Q2 12) (af 5)) ag))) (e2 kg (Q2 15485863) (af 5))))
  (ar (aG 7 (e2 aT (cq (aa (eN cp (aa (af 1) ag)) (aa (Q2 (-1)) (aa (eC (.bl Z)) (aa (eC .non) (aa (eC (.str [48])) (aa (e2 tR (Q2 10) (Q2 30)) (aa (e1 xR (e2 tR (Q2 10) (Q2 30))) (aa (cq (aa (Q2 0) ag)) (aa (e2 bE (eN cp (aa (af 1) ag)) (Q2 1)) ag)))))))))) (e2 oMod (af 6) (Q2 9))))
  (ar (aG 8 (e2 aT (cq (aa (eC (.str [])) (aa (eC (.str [97])) (aa (e2 g5 (eC (.str [98])) (e2 bE (af 3) (Q2 1))) (aa (eC (.str [97,98])) ag))))) (e2 oMod (e2 bQ (af 6) (Q2 9)) (Q2 4))))
  (ar (FK (ku (bq dE (aa (af 2) (aa (af 7) (aa (af 8) (aa (eC (.str [116,101,120,116])) ag)))))) (eE (eC (.bl O))) dG)
  (ar (aG 9 (IU (e2 g5 (eC (.str [97,98,122])) (Q2 60)) M (Y (e2 bE (e2 bE (af 3) (Q2 1)) (e2 oMod (e2 bQ (af 6) (Q2 300)) (Q2 30))))))
  (FK (hJ (e2 Ik (af 1) (cq ag)) (ku (bq dE (aa (af 2) (aa (e2 oMod (e2 bQ (af 6) (Q2 36)) (eN cp (aa (af 1) ag))) (aa (af 9) (aa (eC (.str [109,97,110,121])) ag))))))) (eE (eC (.bl O))) dG))))))
def pk:Sx :=
  (JB (aV 2 [] 1 [] aB ag))
def uu:Fn:=fn 1 12
  (ar (aG 1 (bq gG (aa (af 0) ag)))
  (ar (mG 2 (eNew 1 aW (aa (eN i8 (aa (af 1) ag)) ag)))
  (ar (aG 3 (e2 lY (Q2 120) (eN cp (aa (eM gS (eC (.str [])) (aa (af 1) ag)) ag))))
  (ar (aG 4 (cu 1 bh (af 2) ag))
  (ar (kL (df 5) (dQ (Q2 12)) iC)
  (ar (FK (Ko (e2 Ik (cu 1 bh (af 2) ag) (af 4)) (e2 Ik (cu 1 bg (af 2) ag) (af 1))) (eE (eC (.bl O))) dG)
  (ar (aG 10 (e2 bE (cq (aa (e2 g5 (eC (.str [97])) (e2 lY (Q2 121) (eN cp (aa (eM gS (eC (.str [])) (aa (IU (af 1) M (Y (Q2 7))) ag)) ag)))) ag)) (IU (af 1) M (Y (Q2 7)))))
  (ar (FK (Ko (ku (bq fL (aa (IU (e2 bE (af 1) (e2 lP (cq (aa (eC (.str [97])) ag)) (Q2 9))) M (Y (Q2 9))) ag))) (ku (bq fL (aa (af 10) ag)))) (eE (eC (.bl O))) dG)
  (ar (ke (e2 oLt (eN cp (aa (cu 1 bg (af 2) ag) ag)) (Q2 8)) pk)
  (ar (FK (Ko (ku (bq fU (aa (af 2) ag))) (e2 Ik (cu 1 bg (af 2) ag) (IU (e2 bE (af 1) (e2 lP (cq (aa (eC (.str [])) ag)) (Q2 8))) M (Y (Q2 8))))) (eE (eC (.bl O))) dG)
  (ar (JB (aV 2 [] 1 [O,O] aw (aa (Q2 7) (aa (e2 g5 (eC (.str [99])) (af 3)) ag))))
  (ar (FK (ku (bq dE (aa (af 2) (aa (Q2 0) (aa (eC (.str [97])) (aa (eC (.str [109,97,110,121])) ag)))))) (eE (eC (.bl O))) dG)
  (ar (mG 11 (IU (e2 bE (af 1) (e2 lP (cq (aa (eC (.str [])) ag)) (Q2 8))) M (Y (Q2 8))))
  (ar (dJ 11 [] (Q2 7) (e2 bE (e2 aT (af 11) (Q2 7)) (e2 g5 (eC (.str [99])) (af 3))))
  (ar (uL 11)
  (lZ (uB (e2 oEq (cu 1 bg (af 2) ag) (af 11)) (xf (AE (aV 2 [] 1 [O,O] aw (aa (Q2 0) (aa (eC (.str [])) ag)))) (e2 oEq (cu 1 bh (af 2) ag) (cu 1 bh (eNew 1 aW (aa (af 11) ag)) ag))))))))))))))))))))
end T08
end
section
namespace AU
structure St where
 lg:Wf
 lk:List (Option Nat)
 wy:List (List (Nat×Nat))
noncomputable def gW(w:List (Nat×Nat))(c:Nat):Option Nat:=(w.find? λp=>p.1==c).map (·.2)
noncomputable def pW(w:List (Nat×Nat))(c m:Nat):List (Nat×Nat):=if w.any (λp=>p.1==c) then w.map (λp=>if p.1==c then (p.1,m) else p) else w++[(c,m)]
structure WF(S:St):Prop where
 lk:S.lk.length=S.lg.length
 wy:S.wy.length=S.lg.length
 pos:0<S.lg.length
 up:∀i n,S.lk.getD i none=some n->n<S.lg.length
 on:∀i c n,gW (S.wy.getD i []) c=some n->n<S.lg.length
 nd:∀w∈S.wy,(w.map (·.1)).Nodup
 az:∀w∈S.wy,∀p∈w,97<=p.1/\p.1<=122
theorem sub_len{α:Type}[DecidableEq α]:∀(l r:List α),l.Nodup->(∀x∈l,x∈r)->l.length<=r.length
 |[],_,_,_=>YT _
 |a :: l,r,nd,h=>by
  obtain⟨g,f⟩:=Ze.mp nd;have d:=h a Zu;have:=sub_len l (r.erase a) f λx b=>(List.mem_erase_of_ne (λe=>g (by rw[← e];exact b))).mpr (h x (Zt _ b));rw[List.length_erase_of_mem d]at this;have:=List.length_pos_of_mem d;rw[ZU];lia
def WF.small(W:WF S)(i:Nat):(S.wy.getD i []).length<16777216:=by
 by_cases h:i<S.wy.length
 ·have a:S.wy.getD i []∈S.wy:=by
   rw[Zs,Zn h];exact Yz h
  have:=sub_len ((S.wy.getD i []).map (·.1)) (List.range 123) (W.nd _ a) λx b=>by
   obtain⟨p,d,rfl⟩:=Ym.mp b;have:=(W.az _ a p d).2;exact YL.mpr (by exact Nat.lt_succ_of_le this)
  rw[Zw,Z4]at this;lia
 ·rw[Zs,Z5 (ZQ h)];decide
def Az(w:List (Nat×Nat))(c:Nat):(w.any λp=>p.1==c)=(gW w c).isSome:=by
 unfold gW;rw[Yf,XD,Xs,List.find?_isSome]
def zW(w:List (Nat×Nat))(c m d:Nat):gW (pW w c m) d=if d=c then Y m else gW w d:=by
 unfold pW;split
 ·rename_i h
  induction w with
  |nil=>simp at h
  |cons p w b =>
   rw[Zm];unfold gW;rw[Yu,Yu];by_cases q:p.1=c
   ·rw[Zr (by simpa using q)];by_cases r:p.1=d
    ·have:(p.1==d)=Z:=by simpa using r
     simp only[this];rw[Zr (by rw[← r,q])];rfl
    ·have a:(p.1==d)=O:=by simpa using r
     have:d≠c:=λe=>r (by rw[e,q]);simp only[a,Zp this];have key:∀w:List (Nat×Nat),(w.map λp=>if p.1==c then (p.1,m) else p).find? (λp=>p.1==d)=w.find? λp=>p.1==d:=by
      intro w
      induction w with
      |nil=>rfl
      |cons x w b =>
       rw[Zm,Yu,Yu,b];by_cases y:x.1=c
       ·rw[Zr (by simpa using y)];have:(x.1==d)=O:=by simpa using λe=>this (by rw[← e,y])
        simp only[this]
       ·rw[Zp (by simpa using y)]
     rw[key w]
   ·rw[Zp (by simpa using q)];have g:=b (by
     rw[YY]at h;simpa[q] using h)
    by_cases r:p.1=d
    ·have a:(p.1==d)=Z:=by simpa using r
     simp only[a];rw[Zp (λe=>q (by rw[r,e]))]
    ·have a:(p.1==d)=O:=by simpa using r
     simp only[a];exact g
 ·rename_i h;unfold gW;rw[List.find?_append];by_cases q:d=c
  ·subst q;have:w.find? (λp=>p.1==d)=M:=by
    rw[List.find?_eq_none];intro p f e;exact h (Xs.mpr ⟨p,f,e⟩)
   rw[this,Zr L];simp
  ·rw[Zp q];have:((c==d)=O):=by simpa using λe=>q e.symm
   simp[this]
def yX(w:List (Nat×Nat))(c m:Nat)(d:(w.map (·.1)).Nodup):((pW w c m).map (·.1)).Nodup:=by
 unfold pW;split
 ·rw[Yp];have:((λp:Nat×Nat=>p.1) ∘ λp=>if (p.1==c)=Z then (p.1,m) else p)=λp=>p.1:=by
   funext p;simp only[Function.comp];split<;>rfl
  rw[this];exact d
 ·rename_i h;rw[Yv,ZO];refine⟨d,by simp,λa g b hb e=>?_⟩;have i:b=c:=by simpa using hb
  subst e i;obtain⟨p,f,e⟩:=Ym.mp g;exact h (Xs.mpr ⟨p,f,by simpa using e⟩)
def BF(h:p∈pW w c m):p.1=c\/p∈w:=by
 unfold pW at h;split at h
 ·obtain⟨q,a,rfl⟩:=Ym.mp h;by_cases r:(q.1==c)=Z
  ·rw[Zr r];exact .inl (by simpa using r)
  ·rw[Zp r];exact .inr a
 ·rcases Zc.mp h with h | h
  ·exact .inr h
  ·rw[Zg.mp h];exact .inl L
def fD{α:Type}(l:List α)(i j:Nat)(x d:α):(l.set i x).getD j d=if i=j/\i<l.length then x else l.getD j d:=by
 rw[Zs,Zs,Wr];by_cases h:i=j
 ·subst h;by_cases a:i<l.length
  ·rw[Zr L,Zr a,Zr ⟨rfl,a⟩];rfl
  ·rw[Zr L,Zp a,Zp (λz=>a z.2),Z5 (ZQ a)]
 ·rw[Zp h,Zp (λz=>h z.1)]
def bG{α:Type}(l:List α)(x d:α)(j:Nat):(l++[x]).getD j d=if j=l.length then x else l.getD j d:=by
 rw[Zs,Zs];by_cases h:j<l.length
 ·rw[ZC h,Zp (ZV h)]
 ·rw[Yy (ZQ h)];by_cases a:j=l.length
  ·rw[Zr a,a,Nat.sub_self];rfl
  ·rw[Zp a,Z5 (ZQ h),Z5 (by simp;lia)]
def WF.way(W:WF S){n c v:Nat}(g:v<S.lg.length)(j:97<=c/\c<=122):WF ⟨S.lg,S.lk,S.wy.set n (pW (S.wy.getD n []) c v)⟩:=by
 refine⟨W.lk,by rw[ZI];exact W.wy,W.pos,W.up,λi d m h=>?_,λw hw=>?_,λw hw p f=>?_⟩
 ·have b:=h;rw[fD]at b;split at b
  ·rw[zW]at b;split at b
   ·cases b;exact g
   ·exact W.on n d m b
  ·exact W.on i d m b
 ·by_cases a:n<S.wy.length
  ·rcases Y3 hw with h | h
   ·exact W.nd w h
   ·rw[h];refine yX _ c v (W.nd _ ?_);rw[Zs,Zn a];exact Yz a
  ·rw[List.set_eq_of_length_le (ZQ a)]at hw;exact W.nd w hw
 ·by_cases a:n<S.wy.length
  ·rcases Y3 hw with h | h
   ·exact W.az w h p f
   ·rw[h]at f;rcases BF f with e | e
    ·rw[e];exact j
    ·refine W.az _ ?_ p e;rw[Zs,Zn a];exact Yz a
  ·rw[List.set_eq_of_length_le (ZQ a)]at hw;exact W.az w hw p f
def WF.link{S:St}(W:WF S){n v:Nat}(b:v<S.lg.length):WF ⟨S.lg,S.lk.set n (Y v),S.wy⟩:=by
 refine⟨by rw[ZI];exact W.lk,W.wy,W.pos,λi m h=>?_,W.on,W.nd,W.az⟩;have a:=h;rw[fD]at a;split at a
 ·cases a;exact b
 ·exact W.up i m a
def WF.more(W:WF S){l:Nat}{o:Option Nat}{w:List (Nat×Nat)}(f:∀n,o=Y n->n<S.lg.length)(hw:∀c n,gW w c=Y n->n<S.lg.length)(e:(w.map (·.1)).Nodup)(g:∀p∈w,97<=p.1/\p.1<=122):WF ⟨S.lg++[l],S.lk++[o],S.wy++[w]⟩:=by
 have b:∀{n},n<S.lg.length->n<(S.lg++[l]).length:=λh=>by rw[Zv,ZM];exact Ye h
 refine⟨by rw[Zv,Zv,W.lk];rfl,by rw[Zv,Zv,W.wy];rfl,by rw[Zv];exact ZY W.pos (YM _ _),λi n h=>?_,λi c n h=>?_,λx d=>?_,λx d=>?_⟩
 ·have a:=h;rw[bG]at a;split at a
  ·exact b (f n a)
  ·exact b (W.up i n a)
 ·have a:=h;rw[bG]at a;split at a
  ·exact b (hw c n a)
  ·exact b (W.on i c n a)
 ·rcases Zc.mp d with h | h
  ·exact W.nd x h
  ·rw[Zg.mp h];exact e
 ·rcases Zc.mp d with h | h
  ·exact W.az x h
  ·rw[Zg.mp h];exact g
def up1(c v:Nat):Nat->St->Option Nat->Option (St×Option Nat)
 |_,S,none=>Y (S,M)
 |0,_,some _=>M
 |k+1,S,some n=>if (gW (S.wy.getD n []) c).isSome then Y (S,Y n) else up1 c v k ⟨S.lg,S.lk,S.wy.set n (pW (S.wy.getD n []) c v)⟩ (S.lk.getD n M)
def Ka(c a v:Nat):Nat->St->Option Nat->Option St
 |_,S,none=>Y S
 |0,_,some _=>M
 |k+1,S,some n=>if gW (S.wy.getD n []) c=Y a then Ka c a v k ⟨S.lg,S.lk,S.wy.set n (pW (S.wy.getD n []) c v)⟩ (S.lk.getD n M) else Y S
def JR(S:St)(n c:Nat):Option (St×Nat):=(gW (S.wy.getD n []) c).bind λold=>if S.lg.getD old 0=S.lg.getD n 0+1 then Y (S,old) else
 (Ka c old S.lg.length 1000 ⟨S.lg++[S.lg.getD n 0+1],(S.lk++[S.lk.getD old M]).set old (Y S.lg.length),S.wy++[S.wy.getD old []]⟩ (Y n)).map λa=>(a,S.lg.length)
def hb(S:St)(h c:Nat):Option (St×Nat):=if (gW (S.wy.getD h []) c).isSome then JR S h c else
 (up1 c S.lg.length 1000 ⟨S.lg++[S.lg.getD h 0+1],S.lk++[Y 0],S.wy++[[]]⟩ (Y h)).bind λz=>match z.2 with
  |none=>Y (z.1,S.lg.length)
  |some n=>(JR z.1 n c).map λy=>(⟨y.1.lg,y.1.lk.set S.lg.length (Y y.2),y.1.wy⟩,S.lg.length)
def hg(S:St)(h:Nat):Wf->Option (St×Nat)
 |[]=>Y (S,h)
 |c :: r=>(hb S h c).bind λz=>hg z.1 z.2 r
noncomputable def Sm(S:St):Prop:=S.lg.length<=100001
def WF.LZ(W:WF S)(i:Nat):((S.wy.getD i []).map (·.1)).Nodup/\∀p∈S.wy.getD i [],97<=p.1/\p.1<=122:=by
 by_cases h:i<S.wy.length
 ·have a:S.wy.getD i []∈S.wy:=by
   rw[Zs,Zn h];exact Yz h
  exact⟨W.nd _ a,W.az _ a⟩
 ·rw[Zs,Z5 (ZQ h)];exact⟨Yh,λp b=>nomatch b⟩
noncomputable def S0:St:=⟨[0],[M],[[]]⟩
def Co:WF S0:=by
 refine⟨rfl,rfl,by decide,λi n h=>?_,λi c n h=>?_,λw hw=>?_,λw hw p a=>?_⟩
 ·cases i with
  |zero=>cases h
  |succ i=>cases h
 ·cases i with
  |zero=>cases h
  |succ i=>cases h
 ·rw[Zg.mp hw];exact Yh
 ·rw[Zg.mp hw]at a;cases a
end AU
end
section
namespace VS
def e2v{b:Ex}{U:Env}{x y:Val}(g:a U=Y x)(e:b U=Y y)(d:f x y=Y z):e2 f a b U=Y z:=by
 show (a U).bind _=_;rw[g,Zy,e];exact d
def xv{a:Ex}{r:Ew}{U:Env}{x:Val}{b:Wa}(e:a U=Y x)(d:r U=Y b):aa a r U=Y (x :: b):=by
 show (a U).bind _=_;rw[e,Zy,d];rfl
def uc{m:Md}(h:c U=Y (m,.bl Z)):FK c a b U=a U:=by
 show (c U).bind _=_;rw[h];rfl
def uF{m:Md}(h:c U=Y (m,.bl O)):FK c a b U=b U:=by
 show (c U).bind _=_;rw[h];rfl
def iN{v:Val}(h:a U=Y b)(d:f b=Y v):eN f a U=Y v:=by
 show (a U).bind f=_;rw[h,Zy,d]
def d7{e:Ex}{U:Env}{t:T}(h:e U=Y (.fr,t)):eE e U=Y (.rt (.fr,t) U):=by
 show (e U).bind _=_;rw[h];rfl
def kZ(h:a U=Y (.rt v d)):ar a b U=Y (.rt v d):=by
 show (a U).bind _=_;rw[h];rfl
def bA{a b:Sx}{U U1:Env}(h:a U=Y (.nx U1)):ar a b U=b U1:=by
 show (a U).bind _=_;rw[h];rfl
def sq{b:Sx}{U U1:Env}{r:Option Out}(h:a U=Y (.nx U1))(q:b U1=r):ar a b U=r:=(bA h).trans q
def MG{m:Md}(h:c U=Y (m,.bl Z))(q:a U=r):FK c a b U=r:=(uc h).trans q
def ji{c:Ex}{b:Sx}{m:Md}{r:Option Out}(h:c U=Y (m,.bl O))(q:b U=r):FK c a b U=r:=(uF h).trans q
def dW{b:Sx}{a:W3}{v:Val}{U:Env}(f:a.length=d)(h:b (a.map (λt=>Y (.pu t))++List.replicate (e-d) M)=Y (.rt v U)):fn d e b a=Y v:=by
 unfold fn;rw[Zr f,h];rfl
def ot{m:Md}{x:Bool}(f:a U=Y (m,.bl x))(e:x=Z->b U=Y v)(d:x=O->v=(.fr,.bl O)):hJ a b U=Y v:=by
 show (a U).bind _=_;rw[f,Zy];cases x with
 |true=>exact e L
 |false=>exact congrArg Y (d L).symm
def sC{b:Ex}{m:Md}{x:Bool}(f:a U=Y (m,.bl x))(e:x=O->b U=Y v)(d:x=Z->v=(.fr,.bl Z)):Ko a b U=Y v:=by
 show (a U).bind _=_;rw[f,Zy];cases x with
 |false=>exact e L
 |true=>exact congrArg Y (d L).symm
def Cs{b:Ex}{m n:Md}{x y:Bool}(f:a U=Y (m,.bl x))(d:b U=Y (.fr,.bl y)):hJ a b U=Y (.fr,.bl (x&&y)):=ot f (λe=>by rw[e];exact d) (λe=>by rw[e];rfl)
def Oq{b:Ex}{m n:Md}{x y:Bool}(f:a U=Y (m,.bl x))(d:b U=Y (.fr,.bl y)):Ko a b U=Y (.fr,.bl (x||y)):=sC f (λe=>by rw[e];exact d) (λe=>by rw[e];rfl)
def fH{m:Md}{b:Bool}(h:a U=Y (m,.bl b)):ku a U=Y (.fr,.bl (!b)):=by
 show (a U).bind _=_;rw[h];rfl
def rS{x y z:Val}(j:a U=Y x)(i:b U=Y y)(h:f x y=Y (.fr,.bl Z))(e:c U=Y z)(d:g y z=Y v):lj f g a b c U=Y v:=by
 show (a U).bind _=_;rw[j,Zy,i,Zy,h,Zy];rw[e];exact d
def zt{x y:Val}(h:a U=Y x)(e:b U=Y y)(d:f x y=Y (.fr,.bl O)):lj f g a b c U=Y (.fr,.bl O):=by
 show (a U).bind _=_;rw[h,Zy,e,Zy,d];rfl
def wV{n:Nat}{i:Int}(b:0<=i)(a:i<n):Gc n i=Y i.toNat:=by rw[Gc,Zr b,Zr a]
def tq{i:Nat}(a:i<n):Gc n (i:Int)=Y i:=by
 rw[Gc,Zr (Xg i),Zr (Int.ofNat_lt.mpr a)];rfl
def yO(l:We)(i:Int)(b:0<=i)(a:i<l.length):aT (m,.scr l) (n,.int i)=Y (.fr,.int (l.getD i.toNat 0)):=by
 show (Gc l.length i).bind _=_;rw[wV b a,Zy,Zs,Zn (by lia)];rfl
def Be(t:Tx)(i:Int)(b:0<=i)(a:i<t.length):aT (m,.str t) (n,.int i)=Y (.fr,.str [t.getD i.toNat 0]):=by
 show (Gc t.length i).bind _=_;rw[wV b a,Zy,Zs,Zn (by lia)];rfl
def kF{b:T}(e:Ff 60 a=Z)(d:Ff 60 b=Z)(h:eqT a b=r):oEq (m,a) (n,b)=Y (.fr,.bl r):=by
 show (if Ff 60 a/\Ff 60 b then Y (Md.fr,T.bl (eqT a b)) else M)=_;rw[Zr ⟨e,d⟩,h]
def sT{m n:Md}{r:Bool}(e:Ff 60 a=Z)(d:Ff 60 b=Z)(h:eqT a b=r):Ik (m,a) (n,b)=Y (.fr,.bl (!r)):=by
 show (if Ff 60 a/\Ff 60 b then Y (Md.fr,T.bl (!eqT a b)) else M)=_;rw[Zr ⟨e,d⟩,h]
def wA{i:Nat}{U:Env}{l:W3}{v:T}(d:U[i]?=Y (Y (.ow (.lst l))))(b:e U=Y (.fr,v))(a:l.length<16777216):sX (mq i [] aK (aa e ag)) U=Y (.nx (U.set i (Y (.ow (.lst (l++[v])))))):=by
 unfold sX mq;rw[d];show ((Y ([])).bind _ |>.map _)=_;rw[Zy,(xv b L),Zy];show ((aK (.lst l) [(.fr,v)]).map _ |>.map _)=_;rw[dY a];rfl
def Bo{m:Md}{x y:Tx}(e:a U=Y (m,.str x))(d:b U=Y (n,.str y))(h:x.length+y.length<=16777216):e2 bE a b U=Y (.fr,.str (x++y)):=e2v e d (qc h)
def vp(l:List Tx)(h:a U=Y (l.map λx=>(Md.fr,T.str x)))(b:l.length<=16777216):cq a U=Y (.fr,.lst (l.map .str)):=by
 unfold cq;rw[h,Zy];have e:trees (l.map λx=>(Md.fr,T.str x))=l.map T.str:=by unfold trees;rw[Yp];rfl
 rw[e,og (by rw[Zw];exact b),jH _ (λ_=>rfl) l];rfl
def qU{b:Ex}{U:Env}{m n:Md}{x y:List Tx}(e:a U=Y (m,.lst (x.map .str)))(d:b U=Y (n,.lst (y.map .str)))(h:x.length+y.length<=16777216):e2 bE a b U=Y (.fr,.lst ((x++y).map .str)):=by
 refine e2v e d ?_;rw[wF,← Yv,og (by rw[Zw,Zv];exact h),jH _ (λ_=>rfl) _];rfl
def sQ(h:c U=Y o):sL c U=Y (.ok o):=by
 unfold sL;rw[h];rfl
def mZ{b:EV}{U1:Env}(h:a U=Y (.ok (.nx U1))):iU a b U=b U1:=by
 unfold iU;rw[h];rfl
def uR{b:EV}{x:PySem.Str}(h:a U=Y (.ex x d)):iU a b U=Y (.ex x d):=by
 unfold iU;rw[h];rfl
def uN{g:Gj}{U:Env}{a:Wa}{t:T}(h:d U=Y a)(b:g (trees a)=Y (.ok (.fr,t))):ip g d U=Y (.ok (.fr,t)):=by
 unfold ip;rw[h,Zy,b,Zy];rw[cf h (by
  unfold Je;rw[b])]
 rfl
def vn{x:PySem.Str}(h:b U=Y a)(d:g (trees a)=Y (.ex x)):ip g b U=Y (.ex x):=by
 unfold ip;rw[h,Zy,d];rfl
def oR{S:Ex->Sx}{x:PySem.Str}(h:a U=Y (.ex x)):IW S a U=Y (.ex x U):=by
 unfold IW;rw[h];rfl
def Dz(h:a U=Y (.ok v)):KC a U=Y v:=by
 unfold KC;rw[h]
def Dd(h:a U=Y (.ok v))(b:S (KC a) U=Y o):IW S a U=Y (.ok o):=by
 unfold IW;rw[h,Zy];rw[b];rfl
def Bg{a:W3}{U:Env}(f:a.length=d)(h:b (a.map (λt=>Y (.pu t))++List.replicate (e-d) M)=Y (.ok (.nx U))):Iq d e b a=Y (.ok (.fr,.non)):=by
 unfold Iq;rw[Zr f,h];rfl
def lW{b:EV}{a:W3}{x:PySem.Str}{U:Env}(f:a.length=d)(h:b (a.map (λt=>Y (.pu t))++List.replicate (e-d) M)=Y (.ex x U)):Iq d e b a=Y (.ex x):=by
 unfold Iq;rw[Zr f,h];rfl
def AA(h:g a=Y (.ok v)):Je g a=Y v:=by
 unfold Je;rw[h]
def pf{b:EV}{m:Md}(h:c U=Y (m,.bl Z)):J9 c a b U=a U:=by
 show (c U).bind _=_;rw[h];rfl
def vS{b:EV}{m:Md}(h:c U=Y (m,.bl O)):J9 c a b U=b U:=by
 show (c U).bind _=_;rw[h];rfl
end VS
end
section
namespace T08
open VS AU
noncomputable abbrev pc(t:T):Wb:=Y (.pu t)
abbrev Q0(i:Int):Option Cell:=Y (.pu (.int i))
abbrev Q1(t:Tx):Option Cell:=Y (.pu (.str t))
noncomputable abbrev oc(t:T):Wb:=Y (.ow t)
noncomputable def EJ(w:List (Nat×Nat)):T:=.dct 0 (w.map λp=>(T.str [p.1],T.int (p.2:Int)))
noncomputable def EK:Option Nat->T
 |none=>.non
 |some n=>.int (n:Int)
def HB(S:St):mF:=[(1,.lst (S.lg.map λ(n:Nat)=>T.int (n:Int))),(2,.lst (S.lk.map EK)),(3,.lst (S.wy.map EJ))]
def Ej(S:St)(b:Bool):T:=.obj 1 ((0,.bl b) :: HB S)
def lK(o:Option Nat):Et (EK o)=Z:=by cases o<;>rfl
theorem dF{α:Type}(f:α->T)(h:∀a,gh (f a)=Z):∀l:List α,cS (l.map f)=Z
 |[]=>rfl
 |a :: l=>by rw[Zm,cS,h a,dF f h l];rfl
def uW(w:List (Nat×Nat)):gh (EJ w)=Z:=by
 show oY (w.map λp=>(T.str [p.1],T.int (p.2:Int)))=Z
 induction w with
 |nil=>rfl
 |cons p w a=>rw[Zm,oY,a];rfl
def jh(S:St):eI (HB S)=Z:=by
 have d:gh (.lst (S.lg.map λ(n:Nat)=>T.int (n:Int)))=Z:=dF _ (λ_=>rfl) _;have b:gh (.lst (S.lk.map EK))=Z:=dF _ (λo=>lC _ (lK o)) _;have a:gh (.lst (S.wy.map EJ))=Z:=dF _ uW _;show ((gh _ && !(1==0&&KU _))&&((gh _ && !(2==0&&KU _))&&((gh _ && !(3==0&&KU _))&&Z)))=Z;rw[d,b,a];rfl
def Dh(S:St)(b:Bool):nO 1 (Ej S b)=Y (.lst (S.lg.map λ(n:Nat)=>T.int (n:Int))):=rfl
def DM(S:St)(b:Bool):nO 2 (Ej S b)=Y (.lst (S.lk.map EK)):=rfl
def D1(S:St)(b:Bool):nO 3 (Ej S b)=Y (.lst (S.wy.map EJ)):=rfl
def dM{a:Ex}{m:Md}{t:T}(h:a U=Y (m,t))(b:nO k t=Y u):aU k a U=Y (sub m u):=by
 unfold aU;rw[h,Zy,b];rfl
def l9{α:Type}{m:Md}(f:α->T)(l:List α)(i:Nat)(d:α)(h:i<l.length):aT (m,.lst (l.map f)) (n,.int (i:Int))=Y (sub m (f (l.getD i d))):=by
 show (Gc (l.map f).length (i:Int)).bind _=_;rw[Zw,tq h,Zy,ZL,Zn h,Zs,Zn h];rfl
section
def pG{i:Nat}(h:a U=Y (m,Ej S b))(he:e U=Y (n,.int (i:Int)))(d:i<S.lg.length):e2 aT (aU 1 a) e U=Y (.fr,.int ((S.lg.getD i 0:Nat):Int)):=e2v (dM h (Dh S b)) he (l9 _ _ i 0 d)
def sP{i:Nat}(h:a U=Y (m,Ej S b))(he:e U=Y (n,.int (i:Int)))(d:i<S.lk.length):e2 aT (aU 2 a) e U=Y (.fr,EK (S.lk.getD i M)):=(e2v (dM h (DM S b)) he (l9 _ _ i M d)).trans (by
 show Y (up _ _)=_;unfold up;rw[lK];rfl)
def lr{i:Nat}(h:a U=Y (m,Ej S b))(he:e U=Y (n,.int (i:Int)))(d:i<S.wy.length):e2 aT (aU 3 a) e U=Y (m,EJ (S.wy.getD i [])):=e2v (dM h (D1 S b)) he (l9 _ _ i [] d)
def BP(h:a U=Y (m,Ej S b)):eN cp (aa (aU 1 a) ag) U=Y (.fr,.int (S.lg.length:Nat)):=iN (xv (dM h (Dh S b)) L) (by
 show Y (Md.fr,T.int (((S.lg.map λ(n:Nat)=>T.int (n:Int)).length:Nat):Int))=_;rw[Zw])
end
def Bx(a c:Nat):eqT (.str [a]) (.str [c])=(a==c):=by
 simp only[eqT];by_cases h:a=c
 ·simp[h]
 ·simp[h]
def nB(w:List (Nat×Nat))(c:Nat):eV (w.map λp=>(T.str [p.1],T.int (p.2:Int))) (.str [c])=(gW w c).map λ(n:Nat)=>T.int (n:Int):=by
 unfold eV gW;rw[List.find?_map];have:((λp:T×T=>eqT p.1 (.str [c])) ∘ λp:Nat×Nat=>(T.str [p.1],T.int (p.2:Int)))=λp:Nat×Nat=>p.1==c:=by
  funext p;exact Bx p.1 c
 rw[this];cases w.find? λp=>p.1==c with
 |none=>rfl
 |some p=>rfl
def Dx(w:List (Nat×Nat))(c m:Nat):dput (w.map λp=>(T.str [p.1],T.int (p.2:Int))) (.str [c]) (.int (m:Int))=(pW w c m).map λp=>(T.str [p.1],T.int (p.2:Int)):=by
 have a:(w.map λp=>(T.str [p.1],T.int (p.2:Int))).any (λp=>eqT p.1 (.str [c]))=w.any λp=>p.1==c:=by
  rw[List.any_map];congr 1;funext p;exact Bx p.1 c
 unfold dput pW;rw[a];split
 ·rw[Yp,Yp];apply Y5;intro p _;simp only[Function.comp,Bx];split<;>rfl
 ·rw[Yv];rfl
section
def Ee(h:a U=Y (m,EJ w))(he:e U=Y (n,.str [c])):e2 lG e a U=Y (.fr,.bl (gW w c).isSome):=e2v he h (by
 show (if Z=Z then Y (Md.fr,T.bl (eV _ _).isSome) else M)=_;rw[Zr L,nB,Yf])
def CA(h:a U=Y (m,EJ w))(he:e U=Y (n,.str [c])):e2 du e a U=Y (.fr,.bl (!(gW w c).isSome)):=e2v he h (by
 show (match (if Z=Z then Y (Md.fr,T.bl (eV (w.map λp=>(T.str [p.1],T.int (p.2:Int))) (.str [c])).isSome) else M) with | some (_,.bl b)=>some (Md.fr,T.bl (!b)) | _=>none)=_;rw[Zr L,nB,Yf])
def vR(h:a U=Y (m,EJ w))(he:e U=Y (n,.str [c]))(d:gW w c=Y v):e2 Hb a e U=Y (.fr,.int (v:Int)):=e2v h he (by
 show (if Z=Z then (eV _ _).map (sub m) else M)=_;rw[Zr L,nB,d];rfl)
def Cj(h:a U=Y (m,EJ w))(he:e U=Y (n,.str [c])):e2 tf a e U=Y (.fr,EK (gW w c)):=e2v h he (by
 show (if Z=Z then Y (match eV (w.map λp=>(T.str [p.1],T.int (p.2:Int))) (.str [c]) with | some t=>sub m t | none=>(.fr,.non)) else none)=_;rw[Zr L,nB];cases gW w c with
 |none=>rfl
 |some v=>rfl)
def vY{S:St}{v:Nat}(d:i<S.wy.length)(he:e (oc (Ej S b) :: r)=Y (n,.int (i:Int)))(l:ec (oc (Ej S b) :: r)=Y (m,.str [c]))(g:ev (oc (Ej S b) :: r)=Y (k,.int (v:Int)))(f:(S.wy.getD i []).length<16777216) :
  dJ 0 [.fld 3,.ix e] ec ev (oc (Ej S b) :: r)=Y (.nx (oc (Ej ⟨S.lg,S.lk,S.wy.set i (pW (S.wy.getD i []) c v)⟩ b) :: r)):=by
 unfold dJ;rw[g,Zy];show ((keys [.fld 3,.ix e] (oc (Ej S b) :: r)).bind _)=_;have j:keys [.fld 3,.ix e] (oc (Ej S b) :: r)=Y [.fld 3,.at (.int (i:Int))]:=by
  show ((e _).bind _).map _=_;rw[he];rfl
 rw[j,Zy,l,Zy];have h:pm (iX (m,.str [c]) (k,.int (v:Int))) [.fld 3,.at (.int (i:Int))] (Ej S b)=Y (Ej ⟨S.lg,S.lk,S.wy.set i (pW (S.wy.getD i []) c v)⟩ b,()):=by
  show ((pm (iX (m,.str [c]) (k,.int (v:Int))) [.at (.int (i:Int))] (.lst (S.wy.map EJ))).map _)=_;have:pm (iX (m,.str [c]) (k,.int (v:Int))) [.at (.int (i:Int))] (.lst (S.wy.map EJ))=Y (.lst ((S.wy.set i (pW (S.wy.getD i []) c v)).map EJ),()):=by
   show ((Gc (S.wy.map EJ).length (i:Int)).bind _)=_;rw[Zw,tq d,Zy,ZL,Zn d];show ((iX (m,.str [c]) (k,.int (v:Int)) (EJ S.wy[i])).map _)=_;have e1:S.wy.getD i []=S.wy[i]:=by rw[Zs,Zn d];rfl
   rw[e1]at f ⊢;show ((if Z=Z/\Z=Z/\(S.wy[i].map _).length<dH then Y (T.dct 0 (dput _ _ _),()) else M).map _)=_;rw[Zr ⟨rfl,rfl,by rw[Zw];exact f⟩,Dx,XI];rfl
  rw[this];rfl
 rw[h];rfl
def vN{S:St}{v:Nat}{r:List (Wb)}(h:i<S.lk.length)(he:e (oc (Ej S b) :: r)=Y (n,.int (i:Int)))(d:ev (oc (Ej S b) :: r)=Y (.fr,.int (v:Int))) :
  dJ 0 [.fld 2] e ev (oc (Ej S b) :: r)=Y (.nx (oc (Ej ⟨S.lg,S.lk.set i (Y v),S.wy⟩ b) :: r)):=by
 unfold dJ;rw[d,Zy];show ((keys [.fld 2] (oc (Ej S b) :: r)).bind _)=_;have g:keys [.fld 2] (oc (Ej S b) :: r)=Y [.fld 2]:=rfl;rw[g,Zy,he,Zy];have f:pm (iX (n,.int (i:Int)) (.fr,.int (v:Int))) [.fld 2] (Ej S b)=Y (Ej ⟨S.lg,S.lk.set i (Y v),S.wy⟩ b,()):=by
  show ((iX (n,.int (i:Int)) (.fr,.int (v:Int)) (.lst (S.lk.map EK))).map _)=_;have:iX (n,.int (i:Int)) (.fr,.int (v:Int)) (.lst (S.lk.map EK))=Y (.lst ((S.lk.set i (Y v)).map EK),()):=by
   show ((Gc (S.lk.map EK).length (i:Int)).map _)=_;rw[Zw,tq h,XI];rfl
  rw[this];rfl
 rw[f];rfl
end
def kT{c:Ex}{n:Nat}{b:Env}{m:Md}(e:c U=Y (m,.bl Z))(d:a U=Y (.nx b)):d3 c a (n+1) U=d3 c a n b:=by
 show (c U).bind _=_;rw[e];show (if Z=Z then (a U).bind _ else Y (.nx U))=_;rw[Zr L,d];rfl
def fz{m:Md}(b:c U=Y (m,.bl O)):d3 c a (n+1) U=Y (.nx U):=by
 show (c U).bind _=_;rw[b];rfl
def g9{mv:List Bool}{as:Ew}{xs:Wa}{S:St}{v:T}{b:Bool}{r:List (Wb)}(h:as (oc (Ej S b) :: r)=Y xs)(i:argsOk mv xs=Z)(j:cS (trees xs)=Z)(f:g (HB S) (trees xs)=Y (HB a,v))(e:Et v=Z) :
  aV 0 [] 0 mv g as (oc (Ej S b) :: r)=Y ((.fr,v),oc (Ej a b) :: r):=by
 show ((Y ([]:List Ky)).bind λd=>(as (oc (Ej S b) :: r)).bind λxs=>(pm (gY 0 mv g xs) d (Ej S b)).map λz=>(z.2,(oc (Ej S b) :: r).set 0 (oc z.1)))=_;rw[Zy,h,Zy];show ((if 1=0+1/\eI (HB S)=Z/\argsOk mv xs=Z/\cS (trees xs)=Z then (g (HB S) (trees xs)).bind λz=>if eI z.1=Z/\Et z.2=Z then Y (T.obj 1 ((0,.bl b) :: z.1),(Md.fr,z.2)) else M else M).map _)=_;rw[Zr ⟨rfl,jh S,i,j⟩,f,Zy,Zr ⟨jh a,e⟩];rfl
def BB{e:Ex}{S:St}{b:Bool}{r:List (Wb)}{v:Nat}(h:e (oc (Ej S b) :: r)=Y (.fr,.int (v:Int)))(f:S.lg.length<16777216):sX (gT 0 [.fld 1] aK (aa e ag)) (oc (Ej S b) :: r)=Y (.nx (oc (Ej ⟨S.lg++[v],S.lk,S.wy⟩ b) :: r)):=by
 show (((Y [Ky.fld 1]).bind λd=>(aa e ag (oc (Ej S b) :: r)).bind λa=>(pm (λx=>aK x a) d (Ej S b)).map _).map _)=_;rw[Zy,xv (r:=ag) h L,Zy];show (((aK (.lst (S.lg.map λ(n:Nat)=>T.int (n:Int))) [(.fr,.int (v:Int))]).map _).map _ |>.map _)=_;rw[dY (by rw[Zw];exact f),show (S.lg.map λ(n:Nat)=>T.int (n:Int))++[.int (v:Int)]=(S.lg++[v]).map λ(n:Nat)=>T.int (n:Int) from by rw[Yv];rfl];rfl
def A2{e:Ex}{S:St}{b:Bool}{r:List (Wb)}{v:Option Nat}(h:e (oc (Ej S b) :: r)=Y (.fr,EK v))(f:S.lk.length<16777216):sX (gT 0 [.fld 2] aK (aa e ag)) (oc (Ej S b) :: r)=Y (.nx (oc (Ej ⟨S.lg,S.lk++[v],S.wy⟩ b) :: r)):=by
 show (((Y [Ky.fld 2]).bind λd=>(aa e ag (oc (Ej S b) :: r)).bind λa=>(pm (λx=>aK x a) d (Ej S b)).map _).map _)=_;rw[Zy,xv (r:=ag) h L,Zy];show (((aK (.lst (S.lk.map EK)) [(.fr,EK v)]).map _).map _ |>.map _)=_;rw[dY (by rw[Zw];exact f),show (S.lk.map EK)++[EK v]=(S.lk++[v]).map EK from by rw[Yv];rfl];rfl
def Bf(o:Option Nat):up .pu (EK o)=(.fr,EK o):=by
 unfold up;rw[lK];rfl
def uz(S:St)(l:Nat)(o:Option Nat)(w:List (Nat×Nat))(f:S.lg.length<16777216)(d:S.lk.length<16777216)(a:S.wy.length<16777216):aF (HB S) [.int (l:Int),EK o,EJ w]=Y (HB ⟨S.lg++[l],S.lk++[o],S.wy++[w]⟩,.int (S.lg.length:Int)):=by
 have j:=BB (S:=S) (b:=Z) (r:=[Q0 (l:Int),pc (EK o),oc (EJ w)]) (e:=af 1) (v:=l) L f;have i:=A2 (S:=⟨S.lg++[l],S.lk,S.wy⟩) (b:=Z) (r:=[Q0 (l:Int),pc (EK o),oc (EJ w)]) (e:=af 2) (v:=o) (congrArg Y (Bf o)) d;have h:l7 0 [.fld 3] 3 [oc (Ej ⟨S.lg++[l],S.lk++[o],S.wy⟩ Z),Q0 (l:Int),pc (EK o),oc (EJ w)]=Y (.nx [oc (Ej ⟨S.lg++[l],S.lk++[o],S.wy++[w]⟩ Z),Q0 (l:Int),pc (EK o),M]):=by
  show ((aK (.lst (S.wy.map EJ)) [(.fr,EJ w)]).map _ |>.map _)=_;rw[dY (by rw[Zw];exact a),show (S.wy.map EJ)++[EJ w]=(S.wy++[w]).map EJ from by rw[Yv];rfl];rfl
 have g:=d7 (e:=e2 lY (eN cp (aa (aU 1 (af 0)) ag)) (Q2 1)) (U:=[oc (Ej ⟨S.lg++[l],S.lk++[o],S.wy++[w]⟩ Z),Q0 (l:Int),pc (EK o),M]) (t:=.int (S.lg.length:Int)) (e2v (BP (m:=.bo) L) L (by
  show Y (Md.fr,T.int ((((S.lg++[l]).length:Nat):Int)-1))=_;rw[Zv,ZM,show (((S.lg.length+1:Nat)):Int)-1=(S.lg.length:Int) by omega]))
 unfold aF GI;rw[Zr ⟨rfl,rfl⟩];have body:=sq (b:=ar (sX (gT 0 [.fld 2] aK (aa (af 2) ag))) (ar (l7 0 [.fld 3] 3) (eE (e2 lY (eN cp (aa (aU 1 (af 0)) ag)) (Q2 1))))) j (sq i (sq h g));exact congrArg (λz:Option Out=>z.bind _) body
def AL(B:97<=c/\c<=122):∀(k:Nat)(S b:St)(o:Option Nat),WF S->v<S.lg.length->(∀n,o=Y n->n<S.lg.length)->Ka c a v k S o=Y b->WF b/\b.lg=S.lg/\∃d,∀N,k<N->∀z:Wb,
  d3 (hJ (fC (af 1)) (e2 oEq (e2 tf (e2 aT (aU 3 (af 0)) (af 1)) (af 2)) (af 3))) bT N [oc (Ej S Z),pc (EK o),Q1 ([c]),Q0 (a:Int),z,Q0 (v:Int)] =
   Y (.nx [oc (Ej b Z),pc (EK d),Q1 ([c]),Q0 (a:Int),z,Q0 (v:Int)]):=by
 intro k
 induction k with
 |zero =>
  intro S b o W f j e;cases o with
  |none =>
   cases (show Y S=Y b from e);refine⟨W,rfl,none,λN hN z=>?_⟩;obtain⟨N,rfl⟩:∃M,N=M+1:=⟨N-1,by omega⟩
   exact fz (m:=.fr) L
  |some n=>cases e
 |succ k w =>
  intro S b o W f j e;cases o with
  |none =>
   cases (show Y S=Y b from e);refine⟨W,rfl,none,λN hN z=>?_⟩;obtain⟨N,rfl⟩:∃M,N=M+1:=⟨N-1,by omega⟩
   exact fz (m:=.fr) L
  |some n =>
   have l:=j n L;have p:n<S.wy.length:=by rw[W.wy];exact l
   have cond:∀z:Wb,hJ (fC (af 1)) (e2 oEq (e2 tf (e2 aT (aU 3 (af 0)) (af 1)) (af 2)) (af 3)) [oc (Ej S Z),Q0 (n:Int),Q1 ([c]),Q0 (a:Int),z,Q0 (v:Int)]=Y (.fr,.bl (decide (gW (S.wy.getD n []) c=Y a))):=λz=>by
    refine ot (m:=.fr) (x:=Z) L (λ_=>?_) (λh=>by cases h);refine e2v (Cj (m:=.bo) (lr (m:=.bo) (n:=.fr) L L p) (n:=.fr) L) (y:=(.fr,.int (a:Int))) L ?_;cases hg:gW (S.wy.getD n []) c with
    |none=>rw[Zb (by simp)];exact kF L L L
    |some q =>
     refine(kF L L (show eqT (.int (q:Int)) (.int (a:Int))=decide (Y q=Y a) from ?_));simp only[eqT];by_cases h:q=a
     ·subst h;simp
     ·have D:¬(q:Int)=(a:Int):=by omega
      have C:¬Y q=Y a:=λz=>h (Zo z);rw[Zb C];exact beq_eq_false_iff_ne.mpr D
   unfold Ka at e;split at e
   ·rename_i g;have E:=W.way (n:=n) (c:=c) (v:=v) f B;obtain⟨u,s,d,r⟩:=w _ b (S.lk.getD n none) E f (λm A=>W.up n m A) e;refine⟨u,s,d,λN hN z=>?_⟩;obtain⟨N,rfl⟩:∃M,N=M+1:=⟨N-1,by omega⟩
    refine(kT (m:=.fr) ((cond z).trans (by rw[decide_eq_true g])) ?_).trans (r N (by omega) z);unfold bT;refine sq (vY (S:=S) (i:=n) (n:=.fr) (m:=.fr) (k:=.fr) (c:=c) (v:=v) p L L L (W.small n)) ?_;have F:n<S.lk.length:=by rw[W.lk];exact l
    exact aL (m:=.fr) (t:=EK (S.lk.getD n none)) (sP (S:=⟨S.lg,S.lk,S.wy.set n (pW (S.wy.getD n []) c v)⟩) (m:=.bo) (n:=.fr) L L F) (by decide) (by decide:1<6)
   ·rename_i g;cases e;refine⟨W,rfl,Y n,λN hN z=>?_⟩;obtain⟨N,rfl⟩:∃M,N=M+1:=⟨N-1,by omega⟩
    exact fz (m:=.fr) ((cond z).trans (by rw[Zb g]))
def Bz(y:97<=c/\c<=122):∀(k:Nat)(S a:St)(o b:Option Nat),WF S->v<S.lg.length->(∀n,o=Y n->n<S.lg.length)->up1 c v k S o=Y (a,b)->WF a/\a.lg=S.lg/\(∀n,b=Y n->n<S.lg.length)/\∀N,k<N->∀z:Wb,
  d3 (hJ (fC (af 4)) (e2 du (af 2) (e2 aT (aU 3 (af 0)) (af 4)))) bV N [oc (Ej S Z),z,Q1 ([c]),Q0 (v:Int),pc (EK o)] =
   Y (.nx [oc (Ej a Z),z,Q1 ([c]),Q0 (v:Int),pc (EK b)]):=by
 intro k
 induction k with
 |zero =>
  intro S a o b W d g e;cases o with
  |none =>
   cases (show Y (S,none)=Y (a,b) from e);refine⟨W,rfl,(λn h=>nomatch h),λN hN z=>?_⟩;obtain⟨N,rfl⟩:∃M,N=M+1:=⟨N-1,by omega⟩
   exact fz (m:=.fr) L
  |some n=>cases e
 |succ k u =>
  intro S a o b W d g e;cases o with
  |none =>
   cases (show Y (S,none)=Y (a,b) from e);refine⟨W,rfl,(λn h=>nomatch h),λN hN z=>?_⟩;obtain⟨N,rfl⟩:∃M,N=M+1:=⟨N-1,by omega⟩
   exact fz (m:=.fr) L
  |some n =>
   have j:=g n L;have l:n<S.wy.length:=by rw[W.wy];exact j
   have cond:∀z:Wb,hJ (fC (af 4)) (e2 du (af 2) (e2 aT (aU 3 (af 0)) (af 4))) [oc (Ej S Z),z,Q1 ([c]),Q0 (v:Int),Q0 (n:Int)]=Y (.fr,.bl (!(gW (S.wy.getD n []) c).isSome)):=λz =>
    ot (m:=.fr) (x:=Z) L (λ_=>CA (m:=.bo) (n:=.fr) (lr (m:=.bo) (n:=.fr) L L l) L) (λh=>by cases h)
   unfold up1 at e;split at e
   ·rename_i f;cases e;refine⟨W,rfl,g,λN hN z=>?_⟩;obtain⟨N,rfl⟩:∃M,N=M+1:=⟨N-1,by omega⟩
    exact fz (m:=.fr) ((cond z).trans (by rw[f];rfl))
   ·rename_i f;have A:=W.way (n:=n) (c:=c) (v:=v) d y;obtain⟨s,r,p,q⟩:=u _ a (S.lk.getD n none) b A d (λm w=>W.up n m w) e;refine⟨s,r,p,λN hN z=>?_⟩;obtain⟨N,rfl⟩:∃M,N=M+1:=⟨N-1,by omega⟩
    have C:(gW (S.wy.getD n []) c).isSome=O:=by simpa using f
    refine(kT (m:=.fr) ((cond z).trans (by rw[C];rfl)) ?_).trans (q N (by omega) z);unfold bV;refine sq (vY (S:=S) (i:=n) (n:=.fr) (m:=.fr) (k:=.fr) (c:=c) (v:=v) l L L L (W.small n)) ?_;have B:n<S.lk.length:=by rw[W.lk];exact j
    exact aL (m:=.fr) (t:=EK (S.lk.getD n none)) (sP (S:=⟨S.lg,S.lk,S.wy.set n (pW (S.wy.getD n []) c v)⟩) (m:=.bo) (n:=.fr) L L B) (by decide) (by decide:4<5)
def A6(a b:Nat):oEq (m,.int (a:Int)) (n,.int (b:Int))=Y (.fr,.bl (decide (a=b))):=kF L L (by
 simp only[eqT];by_cases h:a=b
 ·subst h;simp
 ·rw[Zb h];exact beq_eq_false_iff_ne.mpr (by omega))
def xu{S:St}{n r:Nat}(W:WF S)(F:Sm S)(s:n<S.lg.length)(G:97<=c/\c<=122)(e:JR S n c=Y (a,r)):WF a/\r<a.lg.length/\S.lg.length<=a.lg.length/\a.lg.length<=S.lg.length+1/\av (HB S) [.int (n:Int),.str [c]]=Y (HB a,.int (r:Int)):=by
 unfold JR at e;obtain⟨old,q,e⟩:=Zz.mp e;have hold:=W.on n c old q;have X:n<S.wy.length:=by rw[W.wy];exact s
 have how:old<S.wy.length:=by rw[W.wy];exact hold
 have Eg:old<S.lk.length:=by rw[W.lk];exact hold
 have QB:S.lg.length<=100001:=F;unfold av GI;rw[Zr ⟨rfl,rfl⟩];have j:=aL (i:=3) (m:=.fr) (e:=e2 Hb (e2 aT (aU 3 (af 0)) (af 1)) (af 2)) (U:=[oc (Ej S Z),Q0 (n:Int),Q1 ([c]),M,M,M]) (vR (m:=.bo) (n:=.fr) (lr (m:=.bo) (n:=.fr) L L X) L q) (by decide) (by decide:3<6);have h:=aL (i:=4) (m:=.fr) (e:=e2 bE (e2 aT (aU 1 (af 0)) (af 1)) (Q2 1)) (U:=[oc (Ej S Z),Q0 (n:Int),Q1 ([c]),Q0 (old:Int),M,M]) (t:=.int ((S.lg.getD n 0+1:Nat):Int)) (e2v (pG (m:=.bo) (n:=.fr) L L s) L L) (by decide) (by decide:4<6);have cd:e2 oEq (e2 aT (aU 1 (af 0)) (af 3)) (af 4) [oc (Ej S Z),Q0 (n:Int),Q1 ([c]),Q0 (old:Int),Q0 ((S.lg.getD n 0+1:Nat):Int),M]=Y (.fr,.bl (decide (S.lg.getD old 0=S.lg.getD n 0+1))):=e2v (pG (m:=.bo) (n:=.fr) L L hold) (y:=(.fr,.int ((S.lg.getD n 0+1:Nat):Int))) L (A6 _ _);split at e
 ·rename_i g;obtain⟨rfl,rfl⟩:=Xc (Zo e);rw[decide_eq_true g]at cd;refine⟨W,hold,Zj _,Xb _,?_⟩;have body:∀b:Sx,ar (aG 3 (e2 Hb (e2 aT (aU 3 (af 0)) (af 1)) (af 2))) (ar (aG 4 (e2 bE (e2 aT (aU 1 (af 0)) (af 1)) (Q2 1))) (ar (FK (e2 oEq (e2 aT (aU 1 (af 0)) (af 3)) (af 4)) (iq 3) dG) b)) [oc (Ej S Z),Q0 (n:Int),Q1 ([c]),M,M,M]=Y (.rt (.fr,.int (old:Int)) [oc (Ej S Z),Q0 (n:Int),Q1 ([c]),Q0 (old:Int),Q0 ((S.lg.getD n 0+1:Nat):Int),M]):=λb =>
   sq j (sq h (kZ (MG cd L)))
  exact congrArg (λz:Option Out=>z.bind _) (body _)
 ·rename_i g;rw[Zb g]at cd;obtain⟨u,R,H⟩:=Zx.mp e;obtain⟨rfl,rfl⟩:=Xc H;have wn:=W.LZ old;have Q:=W.more (l:=S.lg.getD n 0+1) (o:=S.lk.getD old M) (w:=S.wy.getD old []) (λm f=>W.up old m f) (λd m f=>W.on old d m f) wn.1 wn.2;have hlen:(S.lg++[S.lg.getD n 0+1]).length=S.lg.length+1:=by rw[Zv];rfl
  have P:=Q.link (n:=old) (v:=S.lg.length) (by show S.lg.length<(S.lg++[S.lg.getD n 0+1]).length;omega);obtain⟨B,A,o',x⟩:=AL G 1000 _ u (Y n) P (by show S.lg.length<(S.lg++[S.lg.getD n 0+1]).length;omega) (λm f=>by cases f;show n<(S.lg++[S.lg.getD n 0+1]).length;omega) R;have RJ:u.lg.length=S.lg.length+1:=by rw[A];exact hlen
  refine⟨B,by omega,by omega,by omega,?_⟩;have nw:=uz S (S.lg.getD n 0+1) (S.lk.getD old M) (S.wy.getD old []) (by omega) (by rw[W.lk];omega) (by rw[W.wy];omega);have args:aa (af 4) (aa (e2 aT (aU 2 (af 0)) (af 3)) (aa (eN j5 (aa (e2 aT (aU 3 (af 0)) (af 3)) ag)) ag)) [oc (Ej S Z),Q0 (n:Int),Q1 ([c]),Q0 (old:Int),Q0 ((S.lg.getD n 0+1:Nat):Int),M]=Y [(.fr,.int ((S.lg.getD n 0+1:Nat):Int)),(.fr,EK (S.lk.getD old M)),(.fr,EJ (S.wy.getD old []))] :=
   xv L (xv (sP (m:=.bo) (n:=.fr) L L Eg) (xv (iN (xv (lr (m:=.bo) (n:=.fr) L L how) L) (by
    show (if gq (((S.wy.getD old []).map λp=>(T.str [p.1],T.int (p.2:Int))).map (·.2))=Z then Y (Md.fr,EJ (S.wy.getD old [])) else M)=_;rw[Zr (by rw[Yp];exact jH _ (λ_=>rfl) _)])) L))
  have N:argsOk [O,O,Z] [(.fr,.int ((S.lg.getD n 0+1:Nat):Int)),(.fr,EK (S.lk.getD old M)),(.fr,EJ (S.wy.getD old []))]=Z:=by
   show (Z&&(Et (EK (S.lk.getD old M))&&Z))=Z;rw[lK];rfl
  have an:cS (trees [(Md.fr,T.int ((S.lg.getD n 0+1:Nat):Int)),(.fr,EK (S.lk.getD old M)),(.fr,EJ (S.wy.getD old []))])=Z:=by
   show (Z&&(gh (EK (S.lk.getD old M))&&(gh (EJ (S.wy.getD old []))&&Z)))=Z;rw[lC _ (lK _),uW];rfl
  have J:=g9 (b:=Z) args N an nw L;have E:iR 5 (aV 0 [] 0 [O,O,Z] aF (aa (af 4) (aa (e2 aT (aU 2 (af 0)) (af 3)) (aa (eN j5 (aa (e2 aT (aU 3 (af 0)) (af 3)) ag)) ag)))) [oc (Ej S Z),Q0 (n:Int),Q1 ([c]),Q0 (old:Int),Q0 ((S.lg.getD n 0+1:Nat):Int),M]=Y (.nx [oc (Ej ⟨S.lg++[S.lg.getD n 0+1],S.lk++[S.lk.getD old M],S.wy++[S.wy.getD old []]⟩ Z),Q0 (n:Int),Q1 ([c]),Q0 (old:Int),Q0 ((S.lg.getD n 0+1:Nat):Int),Q0 (S.lg.length:Int)]):=by
   unfold iR;rw[J];rfl
  have D:=vN (S:=⟨S.lg++[S.lg.getD n 0+1],S.lk++[S.lk.getD old M],S.wy++[S.wy.getD old []]⟩) (b:=Z) (r:=[Q0 (n:Int),Q1 ([c]),Q0 (old:Int),Q0 ((S.lg.getD n 0+1:Nat):Int),Q0 (S.lg.length:Int)]) (i:=old) (v:=S.lg.length) (n:=.fr) (e:=af 3) (ev:=af 5) (by show old<(S.lk++[S.lk.getD old M]).length;rw[Zv];omega) L L;have C:=x um (by decide) (Q0 ((S.lg.getD n 0+1:Nat):Int));exact congrArg (λz:Option Out=>z.bind _) (sq j (sq h (sq (ji cd L) (sq E (sq D (sq C L))))))
def Cc{S S':St}{r:Nat}(W:WF S)(QB:S.lg.length<=100000)(y:h<S.lg.length)(A:97<=c/\c<=122)(e:hb S h c=Y (S',r)):WF S'/\r<S'.lg.length/\S.lg.length<=S'.lg.length/\S'.lg.length<=S.lg.length+2/\bR (HB S) [.int (h:Int),.str [c]]=Y (HB S',.int (r:Int)):=by
 have hw:h<S.wy.length:=by rw[W.wy];exact y
 unfold hb at e;unfold bR GI;rw[Zr ⟨rfl,rfl⟩];have cd:e2 lG (af 2) (e2 aT (aU 3 (af 0)) (af 1)) [oc (Ej S Z),Q0 (h:Int),Q1 ([c]),M,M]=Y (.fr,.bl (gW (S.wy.getD h []) c).isSome):=Ee (m:=.bo) (n:=.fr) (lr (m:=.bo) (n:=.fr) L L hw) L;split at e
 ·rename_i x;rw[x]at cd;obtain⟨s,q,t,B,E⟩:=xu W (Nat.le_succ_of_le QB) y A e;refine⟨s,q,t,by omega,?_⟩;have j:=g9 (mv:=[O,O]) (as:=aa (af 1) (aa (af 2) ag)) (xs:=[(.fr,.int (h:Int)),(.fr,.str [c])]) (b:=Z) (r:=[Q0 (h:Int),Q1 ([c]),M,M]) L L L E L;have u:lZ (aV 0 [] 0 [O,O] av (aa (af 1) (aa (af 2) ag))) [oc (Ej S Z),Q0 (h:Int),Q1 ([c]),M,M]=Y (.rt (.fr,.int (r:Int)) [oc (Ej S' Z),Q0 (h:Int),Q1 ([c]),M,M]):=by
   unfold lZ;rw[j];rfl
  exact congrArg (λz:Option Out=>z.bind _) (kZ (MG cd u))
 ·rename_i x;have GQ:(gW (S.wy.getD h []) c).isSome=O:=by simpa using x
  rw[GQ]at cd;obtain⟨⟨a,o⟩,e1,D⟩:=Zz.mp e;have W1:=W.more (l:=S.lg.getD h 0+1) (o:=Y 0) (w:=[]) (λm g=>by cases g;exact W.pos) (λd m g=>by cases g) Yh (λp Q=>nomatch Q);have hlen:(S.lg++[S.lg.getD h 0+1]).length=S.lg.length+1:=by rw[Zv];rfl
  obtain⟨s,q,t,B⟩:=Bz A 1000 _ a (Y h) o W1 (by show S.lg.length<(S.lg++[S.lg.getD h 0+1]).length;omega) (λm g=>by cases g;show h<(S.lg++[S.lg.getD h 0+1]).length;omega) e1;have RJ:a.lg.length=S.lg.length+1:=by rw[q];exact hlen
  have nw:=uz S (S.lg.getD h 0+1) (Y 0) [] (by omega) (by rw[W.lk];omega) (by rw[W.wy];omega);have args:aa (e2 bE (e2 aT (aU 1 (af 0)) (af 1)) (Q2 1)) (aa (Q2 0) (aa (pq 0 []) ag)) [oc (Ej S Z),Q0 (h:Int),Q1 ([c]),M,M]=Y [(.fr,.int ((S.lg.getD h 0+1:Nat):Int)),(.fr,.int 0),(.fr,.dct 0 [])] :=
   xv (e2v (pG (m:=.bo) (n:=.fr) L L y) L L) (xv L (xv L L))
  have j:=g9 (mv:=[O,O,Z]) (b:=Z) args L L nw L;have u:iR 3 (aV 0 [] 0 [O,O,Z] aF (aa (e2 bE (e2 aT (aU 1 (af 0)) (af 1)) (Q2 1)) (aa (Q2 0) (aa (pq 0 []) ag)))) [oc (Ej S Z),Q0 (h:Int),Q1 ([c]),M,M]=Y (.nx [oc (Ej ⟨S.lg++[S.lg.getD h 0+1],S.lk++[Y 0],S.wy++[[]]⟩ Z),Q0 (h:Int),Q1 ([c]),Q0 (S.lg.length:Int),M]):=by
   unfold iR;rw[j];rfl
  have N:=B um (by decide) (Q0 (h:Int));have hd:∀b:Sx,ar (FK (e2 lG (af 2) (e2 aT (aU 3 (af 0)) (af 1))) (lZ (aV 0 [] 0 [O,O] av (aa (af 1) (aa (af 2) ag)))) dG)
    (ar (iR 3 (aV 0 [] 0 [O,O,Z] aF (aa (e2 bE (e2 aT (aU 1 (af 0)) (af 1)) (Q2 1)) (aa (Q2 0) (aa (pq 0 []) ag)))))
    (ar (aG 4 (af 1)) (ar (ke (hJ (fC (af 4)) (e2 du (af 2) (e2 aT (aU 3 (af 0)) (af 4)))) bV) b))) [oc (Ej S Z),Q0 (h:Int),Q1 ([c]),M,M] =
    b [oc (Ej a Z),Q0 (h:Int),Q1 ([c]),Q0 (S.lg.length:Int),pc (EK o)]:=λb =>
   sq (ji cd L) (sq u (sq L (bA N)))
  cases o with
  |none =>
   obtain⟨rfl,rfl⟩:=Xc (Zo D);have fin:ar (FK (fC (af 4)) (jr 0 [.fld 2] (af 3) (aV 0 [] 0 [O,O] av (aa (af 4) (aa (af 2) ag)))) dG) (iq 3) [oc (Ej a Z),Q0 (h:Int),Q1 ([c]),Q0 (S.lg.length:Int),pc (EK M)] =
     Y (.rt (.fr,.int (S.lg.length:Int)) [oc (Ej a Z),Q0 (h:Int),Q1 ([c]),Q0 (S.lg.length:Int),pc (EK M)]):=sq (ji (m:=.fr) L L) L
   refine⟨s,by show S.lg.length<a.lg.length;omega,by show S.lg.length<=a.lg.length;omega,by show a.lg.length<=_;omega,?_⟩;exact congrArg (λz:Option Out=>z.bind _) ((hd _).trans fin)
  |some n =>
   obtain⟨⟨f,m⟩,X,U⟩:=Zx.mp D;obtain⟨rfl,rfl⟩:=Xc U;have R:n<a.lg.length:=by
    have:=t n L;rw[q];exact this
   obtain⟨C,H,v3,v4,G⟩:=xu s (by show a.lg.length<=100001;omega) R A X;have F:=C.link (n:=S.lg.length) (v:=m) H;have j:=g9 (mv:=[O,O]) (as:=aa (af 4) (aa (af 2) ag)) (xs:=[(.fr,.int (n:Int)),(.fr,.str [c])]) (b:=Z) (r:=[Q0 (h:Int),Q1 ([c]),Q0 (S.lg.length:Int),Q0 (n:Int)]) L L L G L;have P:=vN (S:=f) (b:=Z) (r:=[Q0 (h:Int),Q1 ([c]),Q0 (S.lg.length:Int),Q0 (n:Int)]) (i:=S.lg.length) (v:=m) (n:=.fr) (e:=af 3) (ev:=λ_=>Y (.fr,.int (m:Int))) (by rw[C.lk];omega) L L;have J:jr 0 [.fld 2] (af 3) (aV 0 [] 0 [O,O] av (aa (af 4) (aa (af 2) ag))) [oc (Ej a Z),Q0 (h:Int),Q1 ([c]),Q0 (S.lg.length:Int),Q0 (n:Int)]=Y (.nx [oc (Ej ⟨f.lg,f.lk.set S.lg.length (Y m),f.wy⟩ Z),Q0 (h:Int),Q1 ([c]),Q0 (S.lg.length:Int),Q0 (n:Int)]):=by
    unfold jr;rw[j];exact P
   have fin:ar (FK (fC (af 4)) (jr 0 [.fld 2] (af 3) (aV 0 [] 0 [O,O] av (aa (af 4) (aa (af 2) ag)))) dG) (iq 3) [oc (Ej a Z),Q0 (h:Int),Q1 ([c]),Q0 (S.lg.length:Int),Q0 (n:Int)] =
     Y (.rt (.fr,.int (S.lg.length:Int)) [oc (Ej ⟨f.lg,f.lk.set S.lg.length (Y m),f.wy⟩ Z),Q0 (h:Int),Q1 ([c]),Q0 (S.lg.length:Int),Q0 (n:Int)]):=sq (MG (m:=.fr) L J) L
   refine⟨F,by show S.lg.length<f.lg.length;omega,by show S.lg.length<=f.lg.length;omega,by show f.lg.length<=_;omega,?_⟩;exact congrArg (λz:Option Out=>z.bind _) ((hd _).trans fin)
theorem vG{S S':St}:∀{word:Wf}{h r:Nat},WF S->S.lg.length+2*word.length<=100000->h<S.lg.length->(∀c∈word,97<=c/\c<=122)->hg S h word=Y (S',r) →
  WF S'/\r<S'.lg.length/\S'.lg.length<=S.lg.length+2*word.length/\∀f:Wb,∀a:T,∃j,forL (df 3) cn (word.map λc=>T.str [c]) [oc (Ej S Z),Q0 (h:Int),pc a,f]=Y (.nx [oc (Ej S' Z),Q0 (r:Int),pc a,j])
 |[],h,r,W,l,g,i,e=>by
  obtain⟨rfl,rfl⟩:=Xc (Zo e);exact⟨W,g,by simp,λf a=>⟨f,rfl⟩⟩
 |c :: word,h,r,W,l,g,i,e=>by
  obtain⟨⟨v,A⟩,e1,w⟩:=Zz.mp e;rw[ZU]at l;obtain⟨o,n,y,x,m⟩:=Cc W (by omega) g (i c Zu) e1;obtain⟨t,s,z,p⟩:=vG (S:=v) (S':=S') (word:=word) o (by omega) n (λd hd=>i d (Zt _ hd)) w;refine⟨t,s,by rw[ZU];omega,λf a=>?_⟩;obtain⟨j,q⟩:=p (Q1 ([c])) a;refine⟨j,?_⟩;rw[Zm];refine(jm (U1:=[oc (Ej S Z),Q0 (h:Int),pc a,Q1 ([c])]) L ?_).trans q;have u:=g9 (mv:=[O,O]) (as:=aa (af 1) (aa (af 3) ag)) (xs:=[(.fr,.int (h:Int)),(.fr,.str [c])]) (b:=Z) (r:=[Q0 (h:Int),pc a,Q1 ([c])]) L L L m L;unfold cn iR;rw[u];rfl
def C3{a:Tx}(W:WF S)(n:S.lg.length+2*a.length<=100000)(o:h<S.lg.length)(p:∀c∈a,97<=c/\c<=122)(e:hg S h a=Y (b,r)) :
  WF b/\r<b.lg.length/\b.lg.length<=S.lg.length+2*a.length/\aP (HB S) [.int (h:Int),.str a]=Y (HB b,.int (r:Int)):=by
 obtain⟨i,g,f,d⟩:=vG W n o p e;obtain⟨s,q⟩:=d M (.str a);refine⟨i,g,f,?_⟩;unfold aP GI;rw[Zr ⟨rfl,rfl⟩];have j:=(js (tg:=df 3) (it:=km (af 2)) (body:=cn) (U:=[oc (Ej S Z),Q0 (h:Int),Q1 a,M]) (m:=.fr) (l:=a.map λc=>T.str [c]) L L).trans q;exact congrArg (λz:Option Out=>z.bind _) (sq j L)
end T08
end
section
namespace AU
noncomputable abbrev Wd:=Wf
noncomputable abbrev W(a:List Wd)(n:Nat):Wd:=a.getD n []
structure I(fr:Option Nat)(S:St)(nd:Wd->Option Nat)(wd:List Wd):Prop where
 wf:WF S
 len:wd.length=S.lg.length
 lg:∀n,n<wd.length->S.lg.getD n 0=(W wd n).length
 z:nd []=some 0
 wz:W wd 0=[]
 lt:∀{x n},nd x=some n->n<wd.length
 sf:∀{x n},nd x=some n->x <:+ W wd n
 top:∀{n},n<wd.length->nd (W wd n)=some n
 iv:∀{x y n},nd x=some n->x <:+ y->y <:+ W wd n->nd y=some n
 pre:∀{x c n},nd (x++[c])=some n->∃m,nd x=some m
 JO:∀{x y n},nd y=some n->x <:+ y->∃m,nd x=some m
 KP:S.lk.getD 0 none=none
 lk:∀{n},0<n->n<wd.length->some n≠fr->∃m,S.lk.getD n none=some m/\(m<wd.length/\some m≠fr)/\W wd m <:+ W wd n/\(W wd m).length<(W wd n).length/\∀y,y <:+ W wd n->(W wd m).length<y.length->nd y=some n
 wy:∀{x n},nd x=some n->∀c,gW (S.wy.getD n []) c=nd (x++[c])
def cL{α:Type}{x y w:List α}(d:x <:+ w)(b:y <:+ w)(a:x.length<=y.length):x <:+ y:=List.suffix_of_suffix_length_le d b a
section
def I.up(H:I fr S nd wd):∀(k n:Nat)(x:Wd),(W wd n).length<=k->n<wd.length->Y n≠fr->x <:+ W wd n->∃m,nd x=Y m/\W wd m <:+ W wd n:=by
 intro k
 induction k with
 |zero =>
  intro n x e b f a;rw[(List.length_eq_zero_iff.mp (Nat.le_zero.mp e))]at a;have:x=[]:=YH.mp a;subst this;exact⟨0,H.z,by rw[H.wz];exact Xq⟩
 |succ k j =>
  intro n x e b f a;by_cases h:n=0
  ·subst h;rw[H.wz]at a;have:x=[]:=YH.mp a;subst this;exact⟨0,H.z,Ys _⟩
  ·obtain⟨m,s,⟨o,p⟩,g,r,l⟩:=H.lk (YJ h) b f;by_cases d:(W wd m).length<x.length
   ·exact⟨n,l x a d,Ys _⟩
   ·obtain⟨q,q1,i⟩:=j m x (by lia) o p (cL a g (by exact ZQ d));exact⟨q,q1,i.trans g⟩
def I.Nn(H:I fr S nd wd)(b:n<wd.length)(d:Y n≠fr)(a:x <:+ W wd n):∃m,nd x=Y m/\W wd m <:+ W wd n:=H.up _ n x (Zj _) b d a
def I.all(H:I fr S nd wd)(e:q<wd.length)(f:Y q≠fr)(d:nd x=Y n)(b:nd y=Y n)(h:x <:+ W wd q):y <:+ W wd q:=by
 obtain⟨m,a,g⟩:=H.Nn e f h;rw[d]at a;cases a;exact(H.sf b).trans g
def I.inj(H:I fr S nd wd)(b:m<wd.length)(a:n<wd.length)(h:W wd m=W wd n):m=n:=by
 have:=H.top b;rw[h,H.top a]at this;exact(Zo this).symm
def I.way(H:I fr S nd wd){n c:Nat}(b:n<wd.length)(h:gW (S.wy.getD n []) c=Y a):nd (W wd n++[c])=Y a:=by
 rw[← H.wy (H.top b) c];exact h
def I.zero(H:I fr S nd wd)(h:nd x=Y 0):x=[]:=by
 have:=H.sf h;rw[H.wz]at this;exact YH.mp this
def I.low(H:I fr S nd wd)(g:Y n≠fr)(a:S.lk.getD n M=Y m)(b:nd y=Y n):(W wd m).length<y.length/\m<wd.length/\W wd m <:+ W wd n/\Y m≠fr:=by
 by_cases f:n=0
 ·subst f;rw[H.KP]at a;cases a
 ·obtain⟨l,i,⟨e,j⟩,d,h,o⟩:=H.lk (YJ f) (H.lt b) g;rw[i]at a;cases a;refine⟨Nat.lt_of_not_le λhle=>?_,e,d,j⟩;have:=H.iv b (cL (H.sf b) d hle) d;rw[H.top e]at this;cases this;exact Yi _ h
def I.below(H:I fr S nd wd)(e:n<wd.length)(g:Y n≠fr)(a:S.lk.getD n M=Y q)(f:m<wd.length)(b:W wd m <:+ W wd n)(l:m≠n):W wd m <:+ W wd q:=by
 by_cases d:n=0
 ·subst d;rw[H.KP]at a;cases a
 ·obtain⟨p,j,⟨s,_⟩,i,r,h⟩:=H.lk (YJ d) e g;rw[j]at a;cases a;refine cL b i (ZQ λo=>l ?_);have:=h _ b o;rw[H.top f]at this;exact Zo this
def I.root(H:I fr S nd wd)(b:n<wd.length)(g:Y n≠fr)(d:S.lk.getD n M=M)(f:m<wd.length)(a:W wd m <:+ W wd n):m=n:=by
 have i:n=0:=Nat.eq_zero_of_not_pos λe=>by
  obtain⟨q,h,_⟩:=H.lk e b g;rw[h]at d;cases d
 subst i;rw[H.wz]at a;exact H.inj f b (by rw[H.wz,YH.mp a])
def fG(a:List (List (Nat×Nat)))(n m c v d:Nat)(b:n<a.length):gW ((a.set n (pW (a.getD n []) c v)).getD m []) d=if m=n/\d=c then Y v else gW (a.getD m []) d:=by
 rw[fD];by_cases h:n=m
 ·subst h;rw[Zr ⟨rfl,b⟩,zW];by_cases hd:d=c
  ·rw[Zr hd,Zr ⟨rfl,hd⟩]
  ·rw[Zp hd,Zp (λz=>hd z.2)]
 ·rw[Zp (λz=>h z.1),Zp (λz=>h z.1.symm)]
def I.Lo(H:I fr S nd wd){c v:Nat}:∀(k:Nat)(T:St)(n:Nat),n<wd.length->Y n≠fr->(W wd n).length<k->(∀m,m<wd.length->W wd m <:+ W wd n->T.lk.getD m M=S.lk.getD m M)->wd.length<=T.wy.length →
  (∀m i,m<wd.length->i<wd.length->W wd m <:+ W wd i->W wd i <:+ W wd n->gW (T.wy.getD m []) c=Y b->gW (T.wy.getD i []) c=Y b) →
  ∃l,Ka c b v k T (Y n)=Y ⟨T.lg,T.lk,l⟩/\l.length=T.wy.length/\∀m d,gW (l.getD m []) d=if d=c/\m<wd.length/\W wd m <:+ W wd n/\gW (T.wy.getD m []) c=Y b then Y v else gW (T.wy.getD m []) d:=by
 intro k
 induction k with
 |zero=>intro T n _ _ h;lia
 |succ k C =>
  intro T n f t G y hw mono;have o:=ZY f hw;unfold Ka;by_cases j:gW (T.wy.getD n []) c=Y b
  ·rw[Zr j,y n f (Ys _)];cases s:S.lk.getD n M with
   |none =>
    refine⟨T.wy.set n (pW (T.wy.getD n []) c v),by cases k<;>rfl,ZI,λm d=>?_⟩;rw[fG _ _ _ _ _ _ o];by_cases a:m=n/\d=c
    ·rw[Zr a,Zr ⟨a.2,by rw[a.1];exact f,by rw[a.1];exact Ys _,by rw[a.1];exact j⟩]
    ·rw[Zp a,Zp λz=>a ⟨H.root f t s z.2.1 z.2.2.1,z.1⟩]
   |some q =>
    obtain⟨F,B,r,A⟩:=H.low t s (H.top f);have ne:∀m,W wd m <:+ W wd q->m≠n:=λm a e=>by
     rw[e]at a;have:=a.length_le;lia
    obtain⟨l,e1,e2,D⟩:=C ⟨T.lg,T.lk,T.wy.set n (pW (T.wy.getD n []) c v)⟩ q B A (by lia) (λm a p=>y m a (p.trans r)) (by rw[ZI];exact hw) (λm i a E p u h=>by
     have w:=h;rw[fG _ _ _ _ _ _ o,Zp (λz=>ne m (p.trans u) z.1)]at w;rw[fG _ _ _ _ _ _ o,Zp (λz=>ne i u z.1)];exact mono m i a E p (u.trans r) w)
    refine⟨l,e1,by rw[e2];exact ZI,λm d=>?_⟩;rw[D m d];by_cases a:m=n
    ·subst a;rw[Zp (λz=>ne m z.2.2.1 L),fG _ _ _ _ _ _ o];by_cases hd:d=c
     ·rw[Zr ⟨rfl,hd⟩,Zr ⟨hd,f,Ys _,j⟩]
     ·rw[Zp (λz=>hd z.2),Zp (λz=>hd z.1)]
    ·have x:∀d,gW ((T.wy.set n (pW (T.wy.getD n []) c v)).getD m []) d=gW (T.wy.getD m []) d:=λd=>by rw[fG _ _ _ _ _ _ o,Zp (λz=>a z.1)]
     rw[x,x];by_cases g:d=c/\m<wd.length/\W wd m <:+ W wd n/\gW (T.wy.getD m []) c=Y b
     ·rw[Zr g,Zr ⟨g.1,g.2.1,H.below f t s g.2.1 g.2.2.1 a,g.2.2.2⟩]
     ·rw[Zp g,Zp λz=>g ⟨z.1,z.2.1,z.2.2.1.trans r,z.2.2.2⟩]
  ·rw[Zp j];refine⟨T.wy,rfl,rfl,λm d=>?_⟩;rw[Zp λz=>j (mono m n z.2.1 f z.2.2.1 (Ys _) z.2.2.2)]
def I.Lp(H:I fr S nd wd){c v:Nat}:∀(k:Nat)(T:St)(n:Nat),n<wd.length->Y n≠fr->(W wd n).length<k->(∀m,m<wd.length->W wd m <:+ W wd n->T.lk.getD m M=S.lk.getD m M)->wd.length<=T.wy.length →
  (∀m i,m<wd.length->i<wd.length->W wd m <:+ W wd i->W wd i <:+ W wd n->(gW (T.wy.getD i []) c).isSome->(gW (T.wy.getD m []) c).isSome) →
  ∃w s,up1 c v k T (Y n)=Y (⟨T.lg,T.lk,w⟩,s)/\w.length=T.wy.length/\(∀m d,gW (w.getD m []) d=if d=c/\m<wd.length/\W wd m <:+ W wd n/\gW (T.wy.getD m []) c=M then Y v else gW (T.wy.getD m []) d) ∧
   (s=M->∀m,m<wd.length->W wd m <:+ W wd n->gW (T.wy.getD m []) c=M) ∧
   ∀p,s=Y p->p<wd.length/\W wd p <:+ W wd n/\(gW (T.wy.getD p []) c).isSome/\∀m,m<wd.length->W wd m <:+ W wd n->(W wd p).length<(W wd m).length->gW (T.wy.getD m []) c=M:=by
 intro k
 induction k with
 |zero=>intro T n _ _ h;lia
 |succ k X =>
  intro T n f o hk G hw mono;have r:=ZY f hw;unfold up1;by_cases l:(gW (T.wy.getD n []) c).isSome=Z
  ·rw[Zr l];refine⟨T.wy,Y n,rfl,rfl,λm d=>?_,(λh=>nomatch h),λp t=>?_⟩
   ·rw[Zp λz=>?_];have:=mono m n z.2.1 f z.2.2.1 (Ys _) l;rw[z.2.2.2]at this;cases this
   ·cases t;refine⟨f,Ys _,l,λm a b j=>?_⟩;have:=b.length_le;lia
  ·have y:gW (T.wy.getD n []) c=M:=by
    cases h:gW (T.wy.getD n []) c with
    |none=>rfl
    |some x=>rw[h]at l;exact absurd L l
   rw[Zp l,G n f (Ys _)];cases j:S.lk.getD n M with
   |none =>
    refine⟨T.wy.set n (pW (T.wy.getD n []) c v),M,by cases k<;>rfl,ZI,λm d=>?_,λ_ m a b=>?_,(λp t=>nomatch t)⟩
    ·rw[fG _ _ _ _ _ _ r];by_cases a:m=n/\d=c
     ·rw[Zr a,Zr ⟨a.2,by rw[a.1];exact f,by rw[a.1];exact Ys _,by rw[a.1];exact y⟩]
     ·rw[Zp a,Zp λz=>a ⟨H.root f o j z.2.1 z.2.2.1,z.1⟩]
    ·rw[H.root f o j a b];exact y
   |some q =>
    refine L2.ak λP_ U=>?_;obtain⟨l1,R,A,Q⟩:=H.low o j (H.top f);have ne:∀m,W wd m <:+ W wd q->m≠n:=λm a e=>by
     rw[e]at a;have:=a.length_le;lia
    obtain⟨w,s,e1,e2,e3,e4,e5⟩:=X ⟨T.lg,T.lk,T.wy.set n (pW (T.wy.getD n []) c v)⟩ q R Q (by lia) (λm a b=>G m a (b.trans A)) (by rw[ZI];exact hw) (λm i a FW b B h=>by
     have D:=h;rw[fG _ _ _ _ _ _ r,Zp (λz=>ne i B z.1)]at D;rw[fG _ _ _ _ _ _ r,Zp (λz=>ne m (b.trans B) z.1)];exact mono m i a FW b (B.trans A) D)
    refine U ?_;have old:∀m,W wd m <:+ W wd q->gW ((T.wy.set n (pW (T.wy.getD n []) c v)).getD m []) c=gW (T.wy.getD m []) c:=λm a=>by rw[fG _ _ _ _ _ _ r,Zp (λz=>ne m a z.1)]
    refine⟨w,s,e1,by rw[e2];exact ZI,λm d=>?_,λho m a b=>?_,λp t=>?_⟩
    ·rw[e3 m d];by_cases a:m=n
     ·subst a;rw[Zp (λz=>ne m z.2.2.1 L),fG _ _ _ _ _ _ r];by_cases hd:d=c
      ·rw[Zr ⟨rfl,hd⟩,Zr ⟨hd,f,Ys _,y⟩]
      ·rw[Zp (λz=>hd z.2),Zp (λz=>hd z.1)]
     ·have E:∀d,gW ((T.wy.set n (pW (T.wy.getD n []) c v)).getD m []) d=gW (T.wy.getD m []) d:=λd=>by rw[fG _ _ _ _ _ _ r,Zp (λz=>a z.1)]
      rw[E,E];by_cases g:d=c/\m<wd.length/\W wd m <:+ W wd n/\gW (T.wy.getD m []) c=M
      ·rw[Zr g,Zr ⟨g.1,g.2.1,H.below f o j g.2.1 g.2.2.1 a,g.2.2.2⟩]
      ·rw[Zp g,Zp λz=>g ⟨z.1,z.2.1,z.2.2.1.trans A,z.2.2.2⟩]
    ·by_cases u:m=n
     ·rw[u];exact y
     ·have hb:=H.below f o j a b u;rw[← old m hb];exact e4 ho m a hb
    ·obtain⟨P,C,N,J⟩:=e5 p t;have F:=N;rw[old p C]at F;refine⟨P,C.trans A,F,λm a b GD=>?_⟩;by_cases u:m=n
     ·rw[u];exact y
     ·have hb:=H.below f o j a b u;rw[← old m hb];exact J m a hb GD
end
def As(g:97<=c/\c<=122):∀(k:Nat)(S a:St)(o:Option Nat),WF S->v<S.lg.length->Ka c b v k S o=Y a->WF a:=by
 intro k
 induction k with
 |zero =>
  intro S a o H d e;cases o with
  |none=>cases (e);exact H
  |some n=>cases e
 |succ k f =>
  intro S a o H d e;cases o with
  |none=>cases (e);exact H
  |some n =>
   unfold Ka at e;split at e
   ·exact f ⟨S.lg,S.lk,S.wy.set n (pW (S.wy.getD n []) c v)⟩ a _ (H.way (n:=n) d g) d e
   ·cases e;exact H
def BL(g:97<=c/\c<=122):∀(k:Nat)(S a:St)(o b:Option Nat),WF S->v<S.lg.length->up1 c v k S o=Y (a,b)->WF a:=by
 intro k
 induction k with
 |zero =>
  intro S a o b H d e;cases o with
  |none=>cases (e);exact H
  |some n=>cases e
 |succ k f =>
  intro S a o b H d e;cases o with
  |none=>cases (e);exact H
  |some n =>
   unfold up1 at e;split at e
   ·cases e;exact H
   ·exact f ⟨S.lg,S.lk,S.wy.set n (pW (S.wy.getD n []) c v)⟩ a _ b (H.way (n:=n) d g) d e
def iD{α:Type}{x y:List α}{a b:α}(h:x++[a] <:+ y++[b]):a=b/\x <:+ y:=by
 obtain⟨t,e⟩:=h;rw[← ZA]at e;obtain⟨e1,e2⟩:=List.append_inj' e L;exact⟨by simpa using e2,⟨t,e1⟩⟩
def gv{α:Type}{x y:List α}(a:α)(h:x <:+ y):x++[a] <:+ y++[a]:=by
 obtain⟨t,e⟩:=h;exact⟨t,by rw[← e,ZA]⟩
noncomputable def g6(b:Wd->Option Nat)(a l h:Nat)(x:Wd):Option Nat:=if b x=Y a/\x.length<=l then Y h else b x
theorem I.split(H:I N S o b)(F:n<b.length)(hf:Y n≠N)(hc:97<=c/\c<=122)(ho:gW (S.wy.getD n []) c=Y a)(K8:Y a≠N)(Hc:N≠Y b.length)(GK:S.lg.getD a 0≠S.lg.getD n 0+1)(hk:(W b n).length<1000) :
  ∃S',JR S n c=Y (S',S.lg.length)/\I N S' (g6 o a ((W b n).length+1) b.length) (b++[W b n++[c]]):=by
 have G:=H.len.symm;have hw:=H.way F ho;have hold:=H.lt hw;have t:=H.sf hw;have lw:(W b n++[c]).length=(W b n).length+1:=by rw[Zv];rfl
 rw[H.lg a hold,H.lg n F]at GK;have GD:(W b n).length+1<(W b a).length:=by
  have:=t.length_le;rw[lw]at this;lia
 have U:a≠0:=λe=>by
  rw[e,H.wz]at GD;simp at GD
 have MT:0<b.length:=by rw[H.len];exact H.wf.pos
 have l1:S.lk.length=b.length:=by rw[H.wf.lk,G]
 have l2:S.wy.length=b.length:=by rw[H.wf.wy,G]
 have Kj:∀m,((S.lk++[S.lk.getD a M]).set a (Y S.lg.length)).getD m M=if m=a then Y b.length else if m=b.length then S.lk.getD a M else S.lk.getD m M:=λm=>by
  rw[fD,bG,l1,G];by_cases h:m=a
  ·rw[Zr ⟨h.symm,by rw[Zv,l1];lia⟩,Zr h]
  ·rw[Zp (λz=>h z.1.symm),Zp h]
 have Hn:∀m,(S.wy++[S.wy.getD a []]).getD m []=if m=b.length then S.wy.getD a [] else S.wy.getD m []:=λm=>by rw[bG,l2]
 have IX:∀m,m<b.length->(S.wy++[S.wy.getD a []]).getD m []=S.wy.getD m []:=λm f=>by rw[Hn,Zp (ZV f)]
 obtain⟨w2,e1,e2,e3⟩:=H.Lo (c:=c) (v:=S.lg.length) 1000 ⟨S.lg++[S.lg.getD n 0+1],(S.lk++[S.lk.getD a M]).set a (Y S.lg.length),S.wy++[S.wy.getD a []]⟩ n F hf hk (λm f X=>by
   have:=X.length_le;rw[Kj,Zp (λe=>by rw[e]at this;lia),Zp (ZV f)])
  (by rw[Zv,l2];exact YM _ _)
  (λm u f C X HH h=>by
   have B:=h;rw[IX m f]at B;rw[IX u C,H.wy (H.top C) c];rw[H.wy (H.top f) c]at B;exact H.iv B (gv c X) ((gv c HH).trans t))
 have wn:=H.wf.LZ a;have W1:=H.wf.more (l:=S.lg.getD n 0+1) (λm f=>H.wf.up a m f) (λd m f=>H.wf.on a d m f) wn.1 wn.2;have hlen:(S.lg++[S.lg.getD n 0+1]).length=S.lg.length+1:=by rw[Zv];rfl
 have W2:=W1.link (n:=a) (v:=S.lg.length) (by lia);have N8:=As hc 1000 _ _ _ W2 (by lia) e1;refine⟨⟨S.lg++[S.lg.getD n 0+1],(S.lk++[S.lk.getD a M]).set a (Y S.lg.length),w2⟩,?_,?_⟩
 ·unfold JR;rw[ho,Zy,Zp (by rw[H.lg a hold,H.lg n F];exact GK),e1];rfl
 have Wn:∀m,W (b++[W b n++[c]]) m=if m=b.length then W b n++[c] else W b m:=λm=>bG b _ _ m
 have s:W (b++[W b n++[c]]) b.length=W b n++[c]:=by rw[Wn,Zr L]
 have g:∀{m},m<b.length->W (b++[W b n++[c]]) m=W b m:=λ{m} f=>by rw[Wn,Zp (ZV f)]
 have eY:(b++[W b n++[c]]).length=b.length+1:=by rw[Zv];rfl
 have tell:∀{x m},g6 o a ((W b n).length+1) b.length x=Y m->(m=b.length/\o x=Y a/\x.length<=(W b n).length+1)\/(m<b.length/\o x=Y m/\¬(m=a/\x.length<=(W b n).length+1)):=λ{x m} h=>by
  unfold g6 at h;split at h
  ·rename_i q;cases h;exact .inl ⟨rfl,q.1,q.2⟩
  ·rename_i q;exact .inr ⟨H.lt h,h,λz=>q ⟨by rw[h,z.1],z.2⟩⟩
 have R:∀{x},o x=Y a->x.length<=(W b n).length+1->g6 o a ((W b n).length+1) b.length x=Y b.length:=λ{x} A h2=>Zr ⟨A,h2⟩;have tO:∀{x m},o x=Y m->¬(m=a/\x.length<=(W b n).length+1)->g6 o a ((W b n).length+1) b.length x=Y m:=λ{x m} A h2=>by
  unfold g6;rw[Zp (λz=>h2 ⟨by rw[A]at z;exact Zo z.1,z.2⟩),A]
 have Ke:∀{x m},o x=Y m->∃u,g6 o a ((W b n).length+1) b.length x=Y u:=λ{x m} h=>by
  unfold g6;split
  ·exact⟨_,rfl⟩
  ·exact⟨m,h⟩
 have un:∀{x m},g6 o a ((W b n).length+1) b.length x=Y m->∃u,o x=Y u:=λ{x m} h=>(tell h).elim (λz=>⟨_,z.2.1⟩) λz=>⟨_,z.2.1⟩
 refine⟨N8,by rw[eY,hlen,G],λm f=>?_,tO H.z (λz=>U z.1.symm),by rw[g MT];exact H.wz,λ{x m} h=>by rcases tell h with z | z<;>lia,λ{x m} h=>?_,λ{m} f=>?_,λ{x y m} h P i=>?_,λ{x d m} h=>?_,λ{x y m} h P=>?_,?_,λ{m} h0 f OS=>?_,λ{x m} h d=>?_⟩
 ·rw[eY]at f;rw[bG,G];by_cases e:m=b.length
  ·rw[Zr e,e,s,H.lg n F,lw]
  ·rw[Zp e,g (by lia),H.lg m (by lia)]
 ·rcases tell h with⟨rfl,j,D⟩ | ⟨E,j,_⟩
  ·rw[s];exact cL (H.sf j) t (by rw[lw];exact D)
  ·rw[g E];exact H.sf j
 ·rw[eY]at f;by_cases e:m=b.length
  ·rw[e,s];exact R hw (by rw[lw];exact Zj _)
  ·rw[g (by lia)];exact tO (H.top (by lia)) (λz=>by have:=z.2;rw[z.1]at this;lia)
 ·rcases tell h with⟨rfl,j,D⟩ | ⟨E,j,D⟩
  ·rw[s]at i;have:=i.length_le;rw[lw]at this;exact R (H.iv j P (i.trans t)) this
  ·rw[g E]at i;exact tO (H.iv j P i) (λz=>D ⟨z.1,ZF P.length_le z.2⟩)
 ·obtain⟨u,B⟩:=un h;obtain⟨q,p⟩:=H.pre B;exact Ke p
 ·obtain⟨u,B⟩:=un h;obtain⟨q,p⟩:=H.JO B P;exact Ke p
 ·rw[Kj,Zp (Yb U),Zp (by exact ZV MT)];exact H.KP
 ·rw[eY]at f;show ∃q,((S.lk++[S.lk.getD a M]).set a (Y S.lg.length)).getD m M=Y q/\_;rw[Kj,eY];refine L2.ak λP_ J=>?_;obtain⟨q,q1,⟨Q,R0⟩,q3,q4,q5⟩:=H.lk (YJ U) hold K8;obtain⟨lo,_⟩:=H.low K8 q1 hw;refine J ?_;rw[lw]at lo;by_cases e:m=a
  ·subst e;rw[Zr L];refine⟨b.length,rfl,⟨by exact Yt _,λz=>Hc z.symm⟩,?_,?_,λy i w=>?_⟩
   ·rw[s,g hold];exact t
   ·rw[s,g hold,lw];exact GD
   ·rw[s,lw]at w;rw[g hold]at i;exact tO (H.iv hw (cL t i (by rw[lw];exact Y0 w)) i) (λz=>by have:=z.2;lia)
  ·rw[Zp e];by_cases eL:m=b.length
   ·subst eL;rw[Zr L,q1];refine⟨q,rfl,⟨by exact Ye Q,R0⟩,?_,?_,λy i w=>?_⟩
    ·rw[s,g Q];exact cL q3 t (by rw[lw];exact Y0 lo)
    ·rw[s,g Q,lw];exact lo
    ·rw[s]at i;rw[g Q]at w;have:=i.length_le;rw[lw]at this;exact R (q5 y (i.trans t) w) this
   ·rw[Zp eL];have C:m<b.length:=by lia
    refine L2.ak λP_ J=>?_;obtain⟨r,r1,⟨r2,RZ⟩,r3,r4,r5⟩:=H.lk h0 C OS;refine J ?_;rw[r1];refine⟨r,rfl,⟨by exact Ye r2,RZ⟩,by rw[g r2,g C];exact r3,by rw[g r2,g C];exact r4,λy i w=>?_⟩;rw[g C]at i;rw[g r2]at w;exact tO (r5 y i w) (λz=>e z.1)
 ·rw[e3 m d];rcases tell h with⟨rfl,j,D⟩ | ⟨E,j,D⟩
  ·rw[Zp (λz=>Yi _ z.2.1),Hn,Zr L,H.wy j d];unfold g6;rw[Zp];intro z;have A:=z.1;rw[← H.wy j d,H.wy (H.top hold) d]at A;have:=(H.sf A).length_le;rw[Zv,ZM]at this;lia
  ·rw[IX m E,H.wy j c,H.wy j d];unfold g6;by_cases p:o (x++[d])=Y a/\(x++[d]).length<=(W b n).length+1
   ·refine L2.ak λP_ J=>?_;obtain⟨rfl,hx⟩:=iD (cL (H.sf p.1) t (by rw[lw];exact p.2));obtain⟨u,m1,m2⟩:=H.Nn F hf hx;rw[j]at m1;cases m1;refine J ?_;rw[Zr ⟨rfl,E,m2,p.1⟩,Zr p,G]
   ·rw[Zp p,Zp];rintro⟨rfl,_,a3,a4⟩;refine p ⟨a4,?_⟩;have b1:=(H.sf j).length_le;have b2:=a3.length_le;rw[Zv,ZM];lia
end AU
end
section
namespace AU
open Classical in
noncomputable def gI(a:Wd->Option Nat)(w:Wd)(f:Nat)(x:Wd):Option Nat:=match a x with
 |some m=>Y m
 |none=>if x <:+ w then Y f else M
def dj(h:a x=Y m):gI a w f x=Y m:=by
 unfold gI;rw[h]
def fA(h:a x=M)(b:x <:+ w):gI a w f x=Y f:=by
 unfold gI;rw[h];exact Zr b
def cJ(h:gI a w f x=Y m):a x=Y m\/(m=f/\a x=M/\x <:+ w):=by
 unfold gI at h;split at h
 ·rename_i q e;cases h;exact .inl e
 ·rename_i e;split at h
  ·rename_i b;cases h;exact .inr ⟨rfl,e,b⟩
  ·cases h
def vZ{α:Type}{y t:List α}{c:α}(h:y <:+ t++[c])(d:y≠[]):∃a,y=a++[c]/\a <:+ t:=by
 rcases List.eq_nil_or_concat y with e | ⟨a,b,e⟩
 ·exact absurd e d
 ·rw[List.concat_eq_append]at e;subst e;obtain⟨e1,e2⟩:=iD h;exact⟨a,by rw[e1],e2⟩
section
def I.fresh(H:I M S nd wd)(t:h<wd.length)(hc:97<=c/\c<=122)(hn:gW (S.wy.getD h []) c=M)(hk:(W wd h).length<1000) :
  ∃C u,up1 c S.lg.length 1000 ⟨S.lg++[S.lg.getD h 0+1],S.lk++[Y 0],S.wy++[[]]⟩ (Y h)=Y (C,u)/\I (Y wd.length) C (gI nd (W wd h++[c]) wd.length) (wd++[W wd h++[c]])/\C.lk.getD wd.length M=Y 0/\C.lg.length=S.lg.length+1 ∧
   (∀m,m<wd.length->(gW (S.wy.getD m []) c).isSome->gW (C.wy.getD m []) c=gW (S.wy.getD m []) c) ∧
   (u=M->∀m,m<wd.length->W wd m <:+ W wd h->gW (S.wy.getD m []) c=M) ∧
   ∀p,u=Y p->p<wd.length/\W wd p <:+ W wd h/\(gW (S.wy.getD p []) c).isSome/\∀m,m<wd.length->W wd m <:+ W wd h->(W wd p).length<(W wd m).length->gW (S.wy.getD m []) c=M:=by
 have B:=H.len.symm;have l1:S.lk.length=wd.length:=by rw[H.wf.lk,B]
 have l2:S.wy.length=wd.length:=by rw[H.wf.wy,B]
 have MT:0<wd.length:=by rw[H.len];exact H.wf.pos
 have N:∀m,(S.lk++[Y 0]).getD m M=if m=wd.length then Y 0 else S.lk.getD m M:=λm=>by rw[bG,l1]
 have Hn:∀m,(S.wy++[[]]).getD m []=if m=wd.length then [] else S.wy.getD m []:=λm=>by rw[bG,l2]
 have s:∀m,m<wd.length->(S.wy++[[]]).getD m []=S.wy.getD m []:=λm b=>by rw[Hn,Zp (ZV b)]
 obtain⟨w2,u,e1,e2,e3,e4,e5⟩:=H.Lp (c:=c) (v:=S.lg.length) 1000 ⟨S.lg++[S.lg.getD h 0+1],S.lk++[Y 0],S.wy++[[]]⟩ h t (λz=>nomatch z) hk (λm b _=>by
   rw[N,Zp (ZV b)])
  (by rw[Zv,l2];exact YM _ _)
  (λm m' b j g HH q=>by
   have U:=q;rw[s m' j,H.wy (H.top j) c]at U;rw[s m b,H.wy (H.top b) c];obtain⟨r,f⟩:=YS.mp U;obtain⟨R,Sw⟩:=H.JO f (gv c g);rw[Sw];rfl)
 have hlen:(S.lg++[S.lg.getD h 0+1]).length=S.lg.length+1:=by rw[Zv];rfl
 have N8:=BL hc 1000 _ _ _ _ (H.wf.more (l:=S.lg.getD h 0+1) (o:=Y 0) (w:=[]) (λm b=>by cases b;exact H.wf.pos) (λd m b=>by cases b) Yh (λp Q=>nomatch Q)) (by lia) e1;have lw:(W wd h++[c]).length=(W wd h).length+1:=by rw[Zv];rfl
 have Wn:∀m,W (wd++[W wd h++[c]]) m=if m=wd.length then W wd h++[c] else W wd m:=λm=>bG wd _ _ m
 have J:W (wd++[W wd h++[c]]) wd.length=W wd h++[c]:=by rw[Wn,Zr L]
 have i:∀{m},m<wd.length->W (wd++[W wd h++[c]]) m=W wd m:=λ{m} b=>by rw[Wn,Zp (ZV b)]
 have eY:(wd++[W wd h++[c]]).length=wd.length+1:=by rw[Zv];rfl
 refine⟨⟨S.lg++[S.lg.getD h 0+1],S.lk++[Y 0],w2⟩,u,e1,?_,by rw[N,Zr L],hlen,λm b g=>?_,λho m b g=>?_,λp Q=>?_⟩
 rotate_left
 ·rw[e3 m c];rw[s m b,Zp (λz=>by rw[z.2.2.2]at g;cases g)]
 ·have:=e4 ho m b g;have E:=this;rw[s m b]at E;exact E
 ·obtain⟨X,p2,p3,p4⟩:=e5 p Q;have Mp:=p3;rw[s p X]at Mp;refine⟨X,p2,Mp,λm b g G=>?_⟩;have:=p4 m b g G;have E:=this;rw[s m b]at E;exact E
 refine⟨N8,by rw[eY];rw[hlen,B],λm b=>?_,dj H.z,by rw[i MT];exact H.wz,λ{x m} q=>?_,λ{x m} q=>?_,λ{m} b=>?_,λ{x y m} q D n=>?_,λ{x d m} q=>?_,λ{x y m} q D=>?_,?_,λ{m} h0 b OS=>?_,λ{x m} q d=>?_⟩
 ·rw[eY]at b;rw[bG,B];by_cases e:m=wd.length
  ·rw[Zr e,e,J,H.lg h t,lw]
  ·rw[Zp e,i (by lia),H.lg m (by lia)]
 ·rw[eY];rcases cJ q with z | z
  ·have:=H.lt z;exact Ye this
  ·lia
 ·rcases cJ q with z | ⟨rfl,_,z⟩
  ·rw[i (H.lt z)];exact H.sf z
  ·rw[J];exact z
 ·rw[eY]at b;by_cases e:m=wd.length
  ·rw[e,J];exact fA (by rw[← H.wy (H.top t) c];exact hn) (Ys _)
  ·rw[i (by lia)];exact dj (H.top (by lia))
 ·rcases cJ q with z | ⟨rfl,F,z2⟩
  ·rw[i (H.lt z)]at n;exact dj (H.iv z D n)
  ·rw[J]at n;refine fA ?_ n;cases e:nd y with
   |none=>rfl
   |some r =>
    obtain⟨R,f⟩:=H.JO e D;rw[F]at f;cases f
 ·rcases cJ q with z | ⟨_,_,z⟩
  ·obtain⟨r,f⟩:=H.pre z;exact⟨r,dj f⟩
  ·obtain⟨_,A⟩:=iD z;obtain⟨r,f⟩:=H.JO (H.top t) A;exact⟨r,dj f⟩
 ·rcases cJ q with z | ⟨_,_,z⟩
  ·obtain⟨r,f⟩:=H.JO z D;exact⟨r,dj f⟩
  ·cases e:nd x with
   |none=>exact⟨_,fA e (D.trans z)⟩
   |some r=>exact⟨r,dj e⟩
 ·rw[N,Zp (by exact ZV MT)];exact H.KP
 ·rw[eY]at b;have j:m<wd.length:=by
   have:m≠wd.length:=λe=>OS (by rw[e]);lia
  show ∃q,(S.lk++[Y 0]).getD m M=Y q/\_;rw[N,Zp (ZV j),eY];refine L2.ak λP_ P=>?_;obtain⟨r,r1,⟨r2,_⟩,r3,r4,r5⟩:=H.lk h0 j (λz=>nomatch z);refine P ?_;refine⟨r,r1,⟨by exact Ye r2,λz=>?_⟩,by rw[i r2,i j];exact r3,by rw[i r2,i j];exact r4,λy n G=>?_⟩
  ·have:=Zo z;lia
  ·rw[i j]at n;rw[i r2]at G;exact dj (r5 y n G)
 ·rw[e3 m d];rcases cJ q with z | ⟨rfl,F,z2⟩
  ·have b:=H.lt z;rw[s m b,H.wy z c,H.wy z d];cases e:nd (x++[d]) with
   |some r =>
    rw[dj e,Zp];rintro⟨rfl,_,_,a⟩;rw[e]at a;cases a
   |none =>
    by_cases g:x++[d] <:+ W wd h++[c]
    ·refine L2.ak λP_ P=>?_;obtain⟨rfl,A⟩:=iD g;obtain⟨m',m1,m2⟩:=H.Nn t (λz=>nomatch z) A;rw[z]at m1;cases m1;refine P ?_;rw[fA e g,Zr ⟨rfl,b,m2,e⟩,B]
    ·have:gI nd (W wd h++[c]) wd.length (x++[d])=M:=by
      unfold gI;rw[e];exact Zp g
     rw[this,Zp];rintro⟨rfl,_,a,_⟩;exact g (gv d ((H.sf z).trans a))
  ·rw[Zp (λa=>Yi _ a.2.1),Hn,Zr L];have e:nd (x++[d])=M:=by
    cases e:nd (x++[d]) with
    |none=>rfl
    |some r =>
     obtain⟨R,f⟩:=H.pre e;rw[F]at f;cases f
   have:gI nd (W wd h++[c]) wd.length (x++[d])=M:=by
    unfold gI;rw[e];refine Zp λg=>?_;obtain⟨_,A⟩:=iD g;obtain⟨r,f⟩:=H.JO (H.top t) A;rw[F]at f;cases f
   rw[this];rfl
def I.fix{f m:Nat}(H:I (Y f) S nd wd)(j:f<wd.length)(b:m<wd.length)(h:W wd m <:+ W wd f)(a:(W wd m).length<(W wd f).length)(g:∀y,y <:+ W wd f->(W wd m).length<y.length->nd y=Y f):I M ⟨S.lg,S.lk.set f (Y m),S.wy⟩ nd wd:=by
 refine⟨H.wf.link (by rw[← H.len];exact b),H.len,H.lg,H.z,H.wz,H.lt,H.sf,H.top,H.iv,H.pre,H.JO,?_,λ{n} l i _=>?_,H.wy⟩
 ·rw[fD,Zp (λz=>(λe=>by
  rw[e,H.wz]at a;simp at a) z.1)]
  exact H.KP
 ·show ∃q,(S.lk.set f (Y m)).getD n M=Y q/\_;rw[fD];by_cases e:f=n
  ·subst e;rw[Zr ⟨rfl,(by rw[H.wf.lk,← H.len];exact j)⟩];exact⟨m,rfl,⟨b,λz=>nomatch z⟩,h,a,g⟩
  ·rw[Zp (λz=>e z.1)];obtain⟨r,r1,⟨r2,_⟩,d⟩:=H.lk l i (λz=>e (Zo z).symm);exact⟨r,r1,⟨r2,λz=>nomatch z⟩,d⟩
end
end AU
end
section
namespace AU
structure Nk(nd E5:Wd->Option Nat)(w:Wd):Prop where
 eq:∀{x y m n},E5 x=some m->E5 y=some n->(m=n↔nd x=nd y/\(x <:+ w↔y <:+ w))
section
def I.MC(H:I fr S nd wd){n c:Nat}(t:n<wd.length)(R:Y n≠fr)(U:97<=c/\c<=122)(s:gW (S.wy.getD n []) c=Y a)(j:Y a≠fr)(o:fr≠Y wd.length)(Q:(W wd n).length<1000) :
  ∃i r p e,JR S n c=Y (i,r)/\I fr i p e/\r<e.length/\Y r≠fr/\W e r=W wd n++[c]/\(∀m,m<wd.length->W e m=W wd m)/\wd.length<=e.length/\e.length<=wd.length+1 ∧
   (∀x,(∃m,p x=Y m) ↔ ∃m,nd x=Y m)/\Nk nd p (W wd n++[c])/\∀x f,f≠a->nd x=Y f->p x=Y f:=by
 have hw:=H.way t s;have hold:=H.lt hw;have F:=H.sf hw;have lw:(W wd n++[c]).length=(W wd n).length+1:=by rw[Zv];rfl
 by_cases w:S.lg.getD a 0=S.lg.getD n 0+1
 ·have u:W wd a=W wd n++[c]:=by
   have:=w;rw[H.lg a hold,H.lg n t]at this;exact(F.eq_of_length (by rw[lw,this])).symm
  refine⟨S,a,nd,wd,?_,H,hold,j,u,λm _=>rfl,Zj _,Xb _,λx=>Iff.rfl,⟨λ{x y m k} d b=>?_⟩,λx f _ h=>h⟩
  ·unfold JR;rw[s,Zy,Zr w]
  ·constructor
   ·rintro rfl;exact⟨by rw[d,b],λh=>by rw[← u]at h ⊢;exact H.all hold j d b h,λh=>by rw[← u]at h ⊢;exact H.all hold j b d h⟩
   ·rintro⟨h,_⟩;rw[d,b]at h;exact Zo h
 ·obtain⟨i,e1,v⟩:=H.split t R U s j o w Q;have D:W (wd++[W wd n++[c]]) wd.length=W wd n++[c]:=(bG wd _ _ _).trans (Zr L);have eY:(wd++[W wd n++[c]]).length=wd.length+1:=by rw[Zv];rfl
  have inv:∀{x m},g6 nd a ((W wd n).length+1) wd.length x=Y m->(m=wd.length/\nd x=Y a/\x.length<=(W wd n).length+1)\/nd x=Y m:=λ{x m} h=>by
   unfold g6 at h;split at h
   ·rename_i q;cases h;exact .inl ⟨rfl,q.1,q.2⟩
   ·exact .inr h
  have E:∀{x},nd x=Y a->(x.length<=(W wd n).length+1↔x <:+ W wd n++[c]):=λ{x} h=>⟨λP=>cL (H.sf h) F (by rw[lw];exact P),λg=>by have:=g.length_le;rw[lw]at this;exact this⟩
  refine⟨i,S.lg.length,_,_,e1,v,by rw[eY,← H.len];exact Yt _,by rw[← H.len];exact λz=>o z.symm,by rw[← H.len];exact D,(λm N=>(bG wd _ _ m).trans (Zp (ZV N))),by lia,by exact Xl eY,λx=>⟨λ⟨m,h⟩=>(inv h).elim (λz=>⟨_,z.2.1⟩) λz=>⟨_,z⟩,λ⟨m,h⟩=>?_⟩,⟨λ{x y m k} d b=>?_⟩,λx f X h=>?_⟩
  ·unfold g6;split
   ·exact⟨_,rfl⟩
   ·exact⟨m,h⟩
  ·constructor
   ·rintro rfl;have A:wd.length<(wd++[W wd n++[c]]).length:=by lia
    have C:=λh=>v.all A (λz=>o z.symm) d b h;have B:=λh=>v.all A (λz=>o z.symm) b d h;rw[D]at C B;refine⟨?_,C,B⟩;rcases inv d with⟨z1,G,_⟩ | z
    ·rcases inv b with⟨_,J,_⟩ | y
     ·rw[G,J]
     ·have:=H.lt y;lia
    ·rcases inv b with⟨y1,_,_⟩ | y
     ·have:=H.lt z;lia
     ·rw[z,y]
   ·rintro⟨h,g⟩;have:g6 nd a ((W wd n).length+1) wd.length x=g6 nd a ((W wd n).length+1) wd.length y:=by
     unfold g6;rw[h];by_cases q:nd y=Y a
     ·have e1:=E (by rw[h,q]);have e2:=E q;by_cases l:y.length<=(W wd n).length+1
      ·rw[Zr ⟨q,e1.mpr (g.mpr (e2.mp l))⟩,Zr ⟨q,l⟩]
      ·rw[Zp (λz=>l (e2.mpr (g.mp (e1.mp z.2)))),Zp (λz=>l z.2)]
     ·rw[Zp (λz=>q z.1),Zp (λz=>q z.1)]
    rw[d,b]at this;exact Zo this
  ·unfold g6;rw[Zp (λz=>X (by rw[h]at z;exact Zo z.1))];exact h
end
section
def I.step(H:I M S nd wd)(D:h<wd.length)(hc:97<=c/\c<=122)(hk:(W wd h).length+1<1000) :
  ∃S' r v o,hb S h c=Y (S',r)/\I M S' v o/\r<o.length/\W o r=W wd h++[c]/\(∀m,m<wd.length->W o m=W wd m)/\wd.length<=o.length/\o.length<=wd.length+2 ∧
   (∀x,(∃m,v x=Y m)↔(∃m,nd x=Y m)\/x <:+ W wd h++[c])/\Nk nd v (W wd h++[c]):=by
 cases hg:gW (S.wy.getD h []) c with
 |some old =>
  refine L2.ak λP_ B=>?_;obtain⟨S',r,v,o,e,H',h1,_,h2,h3,h4,h5,h6,h7,_⟩:=H.MC D (λz=>nomatch z) hc hg (λz=>nomatch z) (λz=>nomatch z) (by exact Nat.lt_of_succ_lt hk);refine B ?_;refine⟨S',r,v,o,?_,H',h1,h2,h3,h4,by exact Nat.le_succ_of_le h5,λx=>(h6 x).trans ⟨.inl,λz=>z.elim id λz=>H.JO (H.way D hg) z⟩,h7⟩;unfold hb;rw[hg];exact e
 |none =>
  have E:=H.len.symm;refine L2.ak λP_ B=>?_;obtain⟨s,o',e1,u,k0,k1,k2,k3,k4⟩:=H.fresh D hc hg (by exact Nat.lt_of_succ_lt hk);refine B ?_;have X:W (wd++[W wd h++[c]]) wd.length=W wd h++[c]:=(bG wd _ _ _).trans (Zr L);have U:∀m,m<wd.length->W (wd++[W wd h++[c]]) m=W wd m:=λm hm=>(bG wd _ _ m).trans (Zp (ZV hm));have eY:(wd++[W wd h++[c]]).length=wd.length+1:=by rw[Zv];rfl
  have lw:(W wd h++[c]).length=(W wd h).length+1:=by rw[Zv];rfl
  have ex:∀x,(∃m,gI nd (W wd h++[c]) wd.length x=Y m)↔(∃m,nd x=Y m)\/x <:+ W wd h++[c]:=λx=>⟨λ⟨m,q⟩=>(cJ q).elim (λz=>.inl ⟨_,z⟩) λz=>.inr z.2.2,λq=>by
   cases e:nd x with
   |some m=>exact⟨m,dj e⟩
   |none=>exact q.elim (λ⟨m,z⟩=>by rw[e]at z;cases z) λz=>⟨_,fA e z⟩⟩
  have same:∀{x y m n},gI nd (W wd h++[c]) wd.length x=Y m->gI nd (W wd h++[c]) wd.length y=Y n->(m=n↔nd x=nd y):=λ{x y m n} q1 j=>by
   rcases cJ q1 with z | ⟨z1,z2,_⟩
   ·rcases cJ j with i | ⟨y1,y2,_⟩
    ·rw[z,i];exact⟨λe=>by rw[e],λe=>Zo e⟩
    ·have:=H.lt z;refine⟨λe=>by lia,λe=>?_⟩;rw[z,y2]at e;cases e
   ·rcases cJ j with i | ⟨y1,y2,_⟩
    ·have:=H.lt i;refine⟨λe=>by lia,λe=>?_⟩;rw[z2,i]at e;cases e
    ·exact⟨λ_=>by rw[z2,y2],λ_=>by rw[z1,y1]⟩
  have Kc:∀{y},y <:+ W wd h++[c]->y≠[]->∀{q},nd y=Y q->∃i m,y=i++[c]/\i <:+ W wd h/\nd i=Y m/\m<wd.length/\W wd m <:+ W wd h/\(gW (S.wy.getD m []) c).isSome:=λ{y} d GK {q} P=>by
   obtain⟨i,rfl,Qx⟩:=vZ d GK;obtain⟨m,m1,m2⟩:=H.Nn D (λz=>nomatch z) Qx;exact⟨i,m,rfl,Qx,m1,H.lt m1,m2,by rw[H.wy m1 c,P];rfl⟩
  unfold hb;rw[hg,Zp (by simp),e1];cases o' with
  |none =>
   have none_:∀{y},y <:+ W wd h++[c]->y≠[]->nd y=M:=λ{y} d GK=>by
    cases e:nd y with
    |none=>rfl
    |some q =>
     obtain⟨i,m,_,_,_,m3,m4,A⟩:=Kc d GK e;rw[(k3 L) m m3 m4]at A;cases A
   have H3:=u.fix (m:=0) (by lia) (by lia) (by rw[u.wz];exact Xq) (by rw[u.wz,X,lw];exact Nat.succ_pos _) (λy d g=>by
    rw[X]at d;rw[u.wz]at g;exact fA (none_ d (λe=>by rw[e]at g;cases g)) d)
   have eS:(⟨s.lg,s.lk.set wd.length (Y 0),s.wy⟩:St)=s:=by
    have g:wd.length<s.lk.length:=by rw[u.wf.lk,← u.len,eY];exact Yt _
    have:s.lk.set wd.length (Y 0)=s.lk:=by
     rw[Zs,Zn g,YN]at k0;rw[← k0];exact X0 g
    rw[this]
   rw[eS]at H3;refine⟨s,S.lg.length,_,_,rfl,H3,by rw[eY,E];exact Yt _,by rw[E];exact X,U,by lia,by lia,ex,⟨λ{x y m n} q1 j=>?_⟩⟩;rw[same q1 j];refine⟨λe=>⟨e,?_⟩,λe=>e.1⟩;have key:∀{x y m n},gI nd (W wd h++[c]) wd.length x=Y m->gI nd (W wd h++[c]) wd.length y=Y n->nd x=nd y->x <:+ W wd h++[c]->y <:+ W wd h++[c]:=λ{x y m n} q1 j e hx=>by
    rcases cJ j with z | z
    ·rw[z]at e;by_cases Qy:x=[]
     ·subst Qy;rw[H.z]at e;cases e;rw[H.zero z];exact Xq
     ·rw[none_ hx Qy]at e;cases e
    ·exact z.2.2
   exact⟨key q1 j e,key j q1 e.symm⟩
  |some p =>
   refine L2.ak λP_ B=>?_;obtain⟨w,J,p3,p4⟩:=k4 p L;obtain⟨old,Q⟩:=YS.mp p3;have SG:gW (s.wy.getD p []) c=Y old:=by rw[k2 p w p3];exact Q
   have Qo:=H.way w Q;have hold:=H.lt Qo;have ph:(W wd p).length<(W wd h).length:=by
    rcases Nat.lt_or_eq_of_le J.length_le with l | l
    ·exact l
    ·have:=H.inj w D (J.eq_of_length l);rw[this,hg]at Q;cases Q
   obtain⟨S3,r,v,o,f1,H3,f2,UA,R,f4,f5,f6,f7,f8,f9⟩:=u.MC (n:=p) (c:=c) (by lia) (λz=>by have:=Zo z;lia) hc SG (λz=>by have:=Zo z;lia) (λz=>by have:=Zo z;lia) (by rw[U p w];lia);refine B ?_;rw[U p w]at R f8;have OF:(W wd p++[c]).length=(W wd p).length+1:=by rw[Zv];rfl
   have N0:W o wd.length=W wd h++[c]:=by rw[f4 _ (by lia),X]
   have none_:∀{y},y <:+ W wd h++[c]->(W wd p).length+1<y.length->nd y=M:=λ{y} d g=>by
    cases e:nd y with
    |none=>rfl
    |some q =>
     obtain⟨i,m,rfl,m1,m2,m3,m4,A⟩:=Kc d (λe=>by rw[e]at g;cases g) e;have l1:=(H.sf m2).length_le;rw[Zv,ZM]at g;rw[p4 m m3 m4 (by lia)]at A;cases A
   refine⟨⟨S3.lg,S3.lk.set S.lg.length (Y r),S3.wy⟩,S.lg.length,v,o,?_,by rw[E];exact(H3.fix (f:=wd.length) (m:=r) (by lia) f2 (by rw[R,N0];exact gv c J) (by rw[R,N0,OF,lw];exact Nat.succ_lt_succ ph) (λy d g=>by
    rw[N0]at d;rw[R,OF]at g;exact f9 y wd.length (by exact Wt hold) (fA (none_ d g) d))),by rw[E];lia,by rw[E];exact N0,λm hm=>by rw[f4 m (by lia),U m hm],by lia,by lia,λx=>(f7 x).trans (ex x),⟨λ{x y m n} q1 j=>?_⟩⟩
   ·show (JR s p c).map _=_;rw[f1];rfl
   ·rw[f8.eq q1 j];obtain⟨m1,G⟩:=(f7 x).mp ⟨m,q1⟩;obtain⟨n1,F⟩:=(f7 y).mp ⟨n,j⟩;have e1:gI nd (W wd h++[c]) wd.length x=gI nd (W wd h++[c]) wd.length y↔nd x=nd y:=by
     rw[G,F];exact⟨λe=>(same G F).mp (Zo e),λe=>by rw[(same G F).mpr e]⟩
    rw[e1];have sw:=gv c J;have N:∀{z q},nd z=Y q->(z <:+ W wd h++[c]↔z <:+ W wd p++[c]):=λ{z q} C=>⟨λa=>cL a sw (by
     rw[OF];refine ZQ λb=>?_;rw[none_ a b]at C;cases C),λa=>a.trans sw⟩
    have un:∀{z q},nd z=M->gI nd (W wd h++[c]) wd.length z=Y q->z <:+ W wd h++[c]/\¬z <:+ W wd p++[c]:=λ{z q} C a=>by
     rcases cJ a with b | b
     ·rw[C]at b;cases b
     ·refine⟨b.2.2,λa=>?_⟩;obtain⟨q',P⟩:=H.JO Qo a;rw[C]at P;cases P
    refine⟨λ⟨a,b⟩=>⟨a,?_⟩,λ⟨a,b⟩=>⟨a,?_⟩⟩
    ·cases t:nd x with
     |some q=>rw[N t,N (by rw[← a,t])];exact b
     |none =>
      exact⟨λ_=>(un (show nd y=M by rw[← a,t]) F).1,λ_=>(un t G).1⟩
    ·cases t:nd x with
     |some q=>rw[← N t,← N (by rw[← a,t])];exact b
     |none =>
      exact⟨λz=>absurd z (un t G).2,λz=>absurd z (un (show nd y=M by rw[← a,t]) F).2⟩
end
structure K(P:Wd->Prop)(S:St)(nd:Wd->Option Nat)(wd:List Wd):Prop where
 i:I none S nd wd
 nil:P []
 some:∀x,(∃m,nd x=some m) ↔ ∃p,P p/\x <:+ p
 eq:∀{x y m n},nd x=.some m->nd y=.some n->(m=n ↔ ∀p,P p->(x <:+ p↔y <:+ p))
def K.congr(H:K P S b a)(h:∀p,P p↔Q p):K Q S b a:=by
 have:P=Q:=funext λp=>propext (h p);rw[← this];exact H
noncomputable def NG(x:Wd):Option Nat:=if x=[] then Y 0 else M
def fu(h:NG x=Y n):x=[]/\n=0:=by
 unfold NG at h;split at h
 ·exact⟨by assumption,(Zo h).symm⟩
 ·cases h
def K0:K (λp=>p=[]) S0 NG [[]]:=by
 refine⟨⟨Co,rfl,λn d=>?_,rfl,rfl,λ{x n} h=>?_,λ{x n} h=>?_,λ{n} d=>?_,λ{x y n} h b a=>?_,λ{x c n} h=>?_,λ{x y n} h b=>?_,rfl,λ{n} b a=>?_,λ{x n} h c=>?_⟩,rfl,λx=>?_,λ{x y m n} b a=>?_⟩
 ·have:n=0:=Nat.lt_one_iff.mp d;subst this;rfl
 ·rw[(fu h).2];exact Nat.one_pos
 ·rw[(fu h).1];exact Xq
 ·have:n=0:=Nat.lt_one_iff.mp d;subst this;rfl
 ·have e:=(fu h).2;subst e;have:y=[]:=YH.mp a;subst this;rfl
 ·have:=(fu h).1;exact absurd this (by simp)
 ·have e:=(fu h).1;subst e;have:x=[]:=YH.mp b;subst this;exact⟨0,rfl⟩
 ·have:n<1:=a;lia
 ·obtain⟨rfl,rfl⟩:=(fu h)
  rfl
 ·constructor
  ·rintro⟨m,h⟩;exact⟨[],rfl,by rw[(fu h).1];exact Xq⟩
  ·rintro⟨p,rfl,h⟩;have:x=[]:=YH.mp h;subst this;exact⟨0,rfl⟩
 ·obtain⟨rfl,rfl⟩:=fu b;obtain⟨rfl,rfl⟩:=fu a;exact⟨λ_ _ _=>Iff.rfl,λ_=>rfl⟩
section
theorem K.step(H:K P S nd wd)(B:h<wd.length)(C:97<=c/\c<=122)(A:(W wd h).length+1<1000) :
  ∃j r l f,hb S h c=.some (j,r)/\K (λp=>P p\/p=W wd h++[c]) j l f/\r<f.length/\W f r=W wd h++[c]/\(∀m,m<wd.length->W f m=W wd m)/\wd.length<=f.length/\f.length<=wd.length+2:=by
 refine L2.ak λR v=>?_;obtain⟨j,r,l,f,e,Q,N,J,G,F,E,u,D⟩:=H.i.step B C A;refine v ?_;refine⟨j,r,l,f,e,⟨Q,.inl H.nil,λx=>?_,λ{x y m n} t s=>?_⟩,N,J,G,F,E⟩
 ·rw[u,H.some];constructor
  ·rintro (⟨p,a,b⟩ | a)
   ·exact⟨p,.inl a,b⟩
   ·exact⟨_,.inr L,a⟩
  ·rintro⟨p,a | rfl,b⟩
   ·exact .inl ⟨p,a,b⟩
   ·exact .inr b
 ·rw[D.eq t s];have un:∀{z q},l z=.some q->nd z=M->z <:+ W wd h++[c]/\∀p,P p->¬z <:+ p:=λ{z q} a b=>⟨((u z).mp ⟨q,a⟩).elim (λ⟨m,x⟩=>by rw[b]at x;cases x) id,λp d w=>by
   obtain⟨m,x⟩:=(H.some z).mpr ⟨p,d,w⟩;rw[b]at x;cases x⟩
  have old:nd x=nd y ↔ ∀p,P p->(x <:+ p↔y <:+ p):=by
   cases ex:nd x with
   |some a =>
    cases g:nd y with
    |some b=>exact⟨λe=>(H.eq ex g).mp (Zo e),λe=>by rw[(H.eq ex g).mpr e]⟩
    |none =>
     refine⟨λe=>(nomatch e),λe=>?_⟩;obtain⟨p,d,o⟩:=(H.some x).mp ⟨a,ex⟩;exact absurd ((e p d).mp o) ((un s g).2 p d)
   |none =>
    cases g:nd y with
    |some b =>
     refine⟨λe=>(nomatch e),λe=>?_⟩;obtain⟨p,d,o⟩:=(H.some y).mp ⟨b,g⟩;exact absurd ((e p d).mpr o) ((un t ex).2 p d)
    |none=>exact⟨λ_ p d=>⟨λz=>absurd z ((un t ex).2 p d),λz=>absurd z ((un s g).2 p d)⟩,λ_=>rfl⟩
  rw[old];constructor
  ·rintro⟨a,b⟩ p (d | rfl)
   ·exact a p d
   ·exact b
  ·intro a;exact⟨λp d=>a p (.inl d),a _ (.inr L)⟩
end
def K.grow:∀(w:Wf){P:Wd->Prop}{S:St}{nd:Wd->Option Nat}{b:List Wd}(H:K P S nd b){h:Nat},h<b.length->P (W b h)->(∀c∈w,97<=c/\c<=122)->(W b h).length+w.length<1000 →
  ∃o r J e,hg S h w=.some (o,r)/\K (λp=>P p\/∃v,v <+: w/\p=W b h++v) o J e/\r<e.length/\W e r=W b h++w/\(∀m,m<b.length->W e m=W b m)/\b.length<=e.length/\e.length<=b.length+2*w.length:=by
 intro w
 induction w with
 |nil =>
  intro P S nd b H h i g hw l;refine⟨S,h,nd,b,rfl,H.congr λp=>⟨.inl,?_⟩,i,(Zd _).symm,λ_ _=>rfl,Zj _,Zj _⟩;rintro (a | ⟨v,a,rfl⟩)
  ·exact a
  ·rw[List.prefix_nil.mp a,Zd];exact g
 |cons c w s =>
  intro P S nd b H h i g hw l;rw[ZU]at l;refine L2.ak λU q=>?_;obtain⟨R,r1,X,Q,e1,G,A,f,z,n,N⟩:=H.step i (hw c Zu) (by lia);obtain⟨D,r2,C,E,e2,F,y,x,u,t,L⟩:=s G A (.inr f) (λd hd=>hw d (Zt _ hd)) (by rw[f,Zv,ZM];lia);refine q ?_;refine⟨D,r2,C,E,?_,F.congr λp=>?_,y,?_,λm j=>by rw[u m (by exact ZY j n),z m j],by exact ZF n t,by rw[ZU];lia⟩
  ·show (hb S h c).bind _=_;rw[e1];exact e2
  ·rw[f];constructor
   ·rintro ((a | rfl) | ⟨v,a,rfl⟩)
    ·exact .inl a
    ·exact .inr ⟨[c],X1.mpr ⟨rfl,List.nil_prefix⟩,rfl⟩
    ·exact .inr ⟨c :: v,X1.mpr ⟨rfl,a⟩,by rw[ZA];rfl⟩
   ·rintro (a | ⟨v,a,rfl⟩)
    ·exact .inl (.inl a)
    ·cases v with
     |nil=>rw[Zd];exact .inl (.inl g)
     |cons d v =>
      obtain⟨rfl,B⟩:=X1.mp a;exact .inr ⟨v,B,by rw[ZA];rfl⟩
  ·rw[x,f,ZA];rfl
noncomputable def Hd(b:List Wd)(p:Wd):Prop:=p=[]\/∃t∈b,p <+: t
def sk(w:List (Nat×Nat)):Wf:=(List.range' 97 26).filter λc=>(gW w c).isSome
def visit(w:List (Nat×Nat)):Wf->Wf->Wf
 |[],met=>met
 |c :: r,met=>visit w r (if (gW w c).getD 0∈met then met else met++[(gW w c).getD 0])
def Gh(S:St):Nat->Wf->Nat->Option (Wf)
 |k,met,d=>if d<met.length then (match k with
  |0=>M
  |k+1=>Gh S k (visit (S.wy.getD (met.getD d 0) []) (sk (S.wy.getD (met.getD d 0) [])) met) (d+1)) else Y met
def steps(S:St)(a:Wf)(n:Nat):List (Nat×Nat):=(sk (S.wy.getD n [])).map λc=>(c,a.idxOf ((gW (S.wy.getD n []) c).getD 0))
noncomputable abbrev Row:=Nat×Nat×Option Nat×List (Nat×Nat)
def row(S:St)(a:Wf)(n:Nat):Row:=match S.lk.getD n M with
 |none=>(0,0,M,steps S a n)
 |some l=>(S.lg.getD l 0+1,S.lg.getD n 0,Y (a.idxOf l),steps S a n)
def tab(S:St)(a:Wf):List Row:=a.map (row S a)
structure HZ(S T:St)(f:Nat->Nat):Prop where
 lt:∀{n},n<S.lg.length->f n<T.lg.length
 z:f 0=0
 inj:∀{m n},m<S.lg.length->n<S.lg.length->f m=f n->m=n
 lg:∀{n},n<S.lg.length->T.lg.getD (f n) 0=S.lg.getD n 0
 lk:∀{n},n<S.lg.length->T.lk.getD (f n) none=(S.lk.getD n none).map f
 wy:∀{n},n<S.lg.length->∀c,gW (T.wy.getD (f n) []) c=(gW (S.wy.getD n []) c).map f
section
def HZ.mem{S T:St}{f:Nat->Nat}(F:HZ S T f){m:Nat}{l:Wf}(b:m<S.lg.length)(d:∀x∈l,x<S.lg.length):f m∈l.map f↔m∈l:=by
 rw[Ym];exact⟨λ⟨x,a,e⟩=>by rw[← F.inj (d x a) b e];exact a,λh=>⟨m,h,rfl⟩⟩
theorem HZ.idx(F:HZ S T f)(a:m<S.lg.length):∀{l:Wf},(∀x∈l,x<S.lg.length)->(l.map f).idxOf (f m)=l.idxOf m
 |[],_=>rfl
 |x :: l,b=>by
  rw[Zm,XE,XE,F.idx a λy d=>b y (Zt _ d)];by_cases e:x=m
  ·subst e;simp
  ·have:(x==m)=O:=by simpa using e
   have g:(f x==f m)=O:=by
    have:=λz=>e (F.inj (b x Zu) a z);simpa using this
   rw[this,g]
theorem HZ.sk(F:HZ S T f)(a:n<S.lg.length):sk (T.wy.getD (f n) [])=sk (S.wy.getD n []):=by
 refine congrArg (λp=>List.filter p (List.range' 97 26)) ?_;funext c;rw[F.wy a,Yf]
def ia(h:c∈sk w):∃m,gW w c=Y m:=YS.mp (List.mem_filter.mp h).2
theorem g8(hw:∀c m,gW w c=Y m->m<N):∀(r met:Wf),(∀c∈r,∃m,gW w c=Y m)->(∀x∈met,x<N)->∀x∈visit w r met,x<N
 |[],met,_,a=>a
 |c :: r,met,b,a=>by
  refine g8 hw r _ (λd hd=>b d (Zt _ hd)) ?_;obtain⟨m,e⟩:=b c Zu;rw[e,YN];split
  ·exact a
  ·intro x g;rcases Zc.mp g with h | h
   ·exact a x h
   ·rw[Zg.mp h];exact hw c m e
theorem HZ.visit(F:HZ S T f)(i:WF S)(g:n<S.lg.length):∀(r met:Wf),(∀c∈r,∃m,gW (S.wy.getD n []) c=Y m)->(∀x∈met,x<S.lg.length)->AU.visit (T.wy.getD (f n) []) r (met.map f)=(AU.visit (S.wy.getD n []) r met).map f
 |[],_,_,_=>rfl
 |c :: r,met,b,a=>by
  obtain⟨m,e⟩:=b c Zu;have j:=i.on n c m e;show AU.visit _ r (if (gW (T.wy.getD (f n) []) c).getD 0∈met.map f then met.map f else met.map f++[(gW (T.wy.getD (f n) []) c).getD 0])=(AU.visit _ r (if (gW (S.wy.getD n []) c).getD 0∈met then met else met++[(gW (S.wy.getD n []) c).getD 0])).map f;rw[F.wy g,e];show AU.visit _ r (if f m∈met.map f then met.map f else met.map f++[f m])=(AU.visit _ r (if m∈met then met else met++[m])).map f;by_cases q:m∈met
  ·rw[Zr q,Zr ((F.mem j a).mpr q)];exact F.visit i g r met (λd hd=>b d (Zt _ hd)) a
  ·rw[Zp q,Zp (λz=>q ((F.mem j a).mp z))];have:=F.visit i g r (met++[m]) (λd hd=>b d (Zt _ hd)) (λx l=>by
    rcases Zc.mp l with h | h
    ·exact a x h
    ·rw[Zg.mp h];exact j)
   rw[Yv]at this;exact this
def getD_mem{l:Wf}(h:d<l.length):l.getD d 0∈l:=by
 rw[Zs,Zn h];exact Yz h
def getD_map{l:Wf}(f:Nat->Nat)(h:d<l.length):(l.map f).getD d 0=f (l.getD d 0):=by
 rw[Zs,Zs,ZL,Zn h];rfl
theorem HZ.Gh(F:HZ S T f)(i:WF S):∀(k:Nat)(met:Wf)(d:Nat),(∀x∈met,x<S.lg.length)->AU.Gh T k (met.map f) d=(AU.Gh S k met d).map (·.map f):=by
 intro k
 induction k with
 |zero =>
  intro met d a;unfold AU.Gh;rw[Zw];split<;>rfl
 |succ k j =>
  intro met d a;unfold AU.Gh;rw[Zw];by_cases h:d<met.length
  ·rw[Zr h,Zr h];have g:=a _ (getD_mem h);rw[getD_map f h,F.sk g,F.visit i g _ met (λc b=>ia b) a];exact j _ _ (g8 (λc m e=>i.on _ c m e) _ _ (λc b=>ia b) a)
  ·rw[Zp h,Zp h];rfl
theorem HZ.row(F:HZ S T f)(h:WF S)(d:∀x∈a,x<S.lg.length)(b:n<S.lg.length):AU.row T (a.map f) (f n)=AU.row S a n:=by
 have st:AU.steps T (a.map f) (f n)=AU.steps S a n:=by
  unfold AU.steps;rw[F.sk b];refine Y5 λc i=>?_;obtain⟨m,e⟩:=ia i;rw[F.wy b,e];show (c,(a.map f).idxOf (f m))=(c,a.idxOf m);rw[F.idx (h.on _ c m e) d]
 unfold AU.row;rw[F.lk b,st];cases e:S.lk.getD n M with
 |none=>rfl
 |some l =>
  have g:=h.up n l e;show (T.lg.getD (f l) 0+1,T.lg.getD (f n) 0,Y ((a.map f).idxOf (f l)),_)=_;rw[F.lg g,F.lg b,F.idx g d]
theorem HZ.tab(F:HZ S T f)(e:WF S)(b:∀x∈a,x<S.lg.length):AU.tab T (a.map f)=AU.tab S a:=by
 unfold AU.tab;rw[Yp];exact Y5 λn d=>F.row e b (b n d)
end
def K.iso(H:K P S p f)(G:K P T g r):HZ S T λn=>(g (W f n)).getD 0:=by
 have j:∀{x n},p x=.some n->g x=.some ((g (W f n)).getD 0):=λ{x n} h=>by
  obtain⟨a,o⟩:=(G.some x).mpr ((H.some x).mp ⟨n,h⟩);have l:=H.i.top (H.i.lt h);obtain⟨b,hb⟩:=(G.some (W f n)).mpr ((H.some _).mp ⟨n,l⟩);rw[hb,YN,o,(G.eq o hb).mpr ((H.eq h l).mp rfl)]
 have no:∀{x},p x=M->g x=M:=λ{x} h=>by
  cases e:g x with
  |none=>rfl
  |some m =>
   obtain⟨a,o⟩:=(H.some x).mpr ((G.some x).mp ⟨m,e⟩);rw[h]at o;cases o
 have inj:∀{x y m n},p x=.some m->p y=.some n->(g (W f m)).getD 0=(g (W f n)).getD 0->m=n:=λ{x y m n} D C e=>(H.eq D C).mpr ((G.eq (j D) (j C)).mp e);have L:=H.i.len.symm;have s:∀{n},n<f.length->W r ((g (W f n)).getD 0)=W f n:=λ{n} d=>by
  have l:=H.i.top d;have t:=j l;have w:=G.i.top (G.i.lt t);obtain⟨a,o⟩:=(H.some (W r ((g (W f n)).getD 0))).mpr ((G.some _).mp ⟨_,w⟩);have:=(H.eq o l).mpr ((G.eq w t).mp rfl);subst this;exact((H.i.sf o).eq_of_length_le ((G.i.sf t).length_le))
 refine⟨λ{n} d=>?_,?_,λ{m n} B d e=>?_,λ{n} d=>?_,λ{n} d=>?_,λ{n} d c=>?_⟩
 ·rw[L]at d;rw[G.i.len.symm];exact G.i.lt (j (H.i.top d))
 ·rw[H.i.wz,G.i.z];rfl
 ·rw[L]at B d;exact inj (H.i.top B) (H.i.top d) e
 ·rw[L]at d;rw[G.i.lg _ (G.i.lt (j (H.i.top d))),s d,H.i.lg n d]
 ·rw[L]at d;have X:=G.i.lt (j (H.i.top d));by_cases u:n=0
  ·subst u;rw[H.i.KP,H.i.wz,G.i.z];exact G.i.KP
  ·refine L2.ak λP_ k_=>?_;obtain⟨m,a1,⟨Q,_⟩,N,a4,a5⟩:=H.i.lk (YJ u) d (λz=>nomatch z);obtain⟨A,b1,⟨J,_⟩,v,F,E⟩:=G.i.lk (YJ (λz=>by
    have:=inj (H.i.top d) H.i.z (by rw[z,H.i.wz,G.i.z];rfl);exact u this)) X (λz=>nomatch z)
   refine k_ ?_;rw[s d]at v F E;rw[a1,b1];show Y A=Y ((g (W f m)).getD 0);have U:=j (H.i.top Q);have R:=ZQ λz=>by
    have q:=j (a5 (W r A) v z);rw[G.i.top J]at q;rw[(Zo q),s d]at F;lia
   have e:=(cL v N R).eq_of_length (Nat.le_antisymm R (ZQ λz=>by
    have q:=E (W f m) N z;rw[U]at q;have:=inj (H.i.top Q) (H.i.top d) (Zo q);rw[this]at a4;lia))
   rw[← e,G.i.top J];rfl
 ·rw[L]at d;have l:=H.i.top d;rw[G.i.wy (j l) c,H.i.wy l c];cases e:p (W f n++[c]) with
  |none=>rw[no e];rfl
  |some k=>rw[j e];rfl
def K.same(H:K P S g f)(G:K P T o n)(k:Nat):(Gh T k [0] 0).map (tab T)=(Gh S k [0] 0).map (tab S):=by
 have F:=H.iso G;have b:∀x∈[0],x<S.lg.length:=λx j=>by rw[Zg.mp j];exact H.i.wf.pos
 have e:=F.Gh H.i.wf k [0] 0 b;rw[List.map_singleton,F.z]at e;rw[e];have key:∀(k:Nat)(met:Wf)(d:Nat),(∀x∈met,x<S.lg.length)->∀m,Gh S k met d=Y m->∀x∈m,x<S.lg.length:=by
  intro k
  induction k with
  |zero =>
   intro met d a m e;unfold Gh at e;split at e
   ·cases e
   ·cases e;exact a
  |succ k h =>
   intro met d a m e;unfold Gh at e;split at e
   ·exact h _ _ (g8 (λc m e=>H.i.wf.on _ c m e) _ _ (λc l=>ia l) a) m e
   ·cases e;exact a
 cases e2:Gh S k [0] 0 with
 |none=>rfl
 |some m=>exact congrArg Y (F.tab H.i.wf (key k [0] 0 b m e2))
theorem kx{w:List (Nat×Nat)}:∀(r met:Wf),∃l,visit w r met=met++l
 |[],met=>⟨[],(Zd _).symm⟩
 |c :: r,met=>by
  obtain⟨l,e⟩:=kx (w:=w) r (if (gW w c).getD 0∈met then met else met++[(gW w c).getD 0]);show ∃l,visit w r _=_;rw[e];split
  ·exact⟨l,rfl⟩
  ·exact⟨_,ZA _ _ _⟩
theorem lh{w:List (Nat×Nat)}:∀(r met:Wf),met.Nodup->(visit w r met).Nodup
 |[],met,h=>h
 |c :: r,met,h=>by
  refine lh (w:=w) r _ ?_;split
  ·exact h
  ·rename_i q;rw[ZO];refine⟨h,by simp,λa d b hb e=>q ?_⟩;rw[Zg.mp hb]at e;rw[← e];exact d
theorem mY{w:List (Nat×Nat)}:∀(r met:Wf),∀c∈r,(gW w c).getD 0∈visit w r met
 |d :: r,met,c,a=>by
  rcases Zi.mp a with rfl | a
  ·obtain⟨l,e⟩:=kx (w:=w) r (if (gW w c).getD 0∈met then met else met++[(gW w c).getD 0]);show _∈visit w r _;rw[e];refine Z3 _ ?_;split
   ·assumption
   ·exact ZK _ Zu
  ·exact mY r _ c a
def u7(d:∀p∈w,97<=p.1/\p.1<=122)(h:gW w c=Y m):c∈sk w:=by
 refine List.mem_filter.mpr ⟨?_,by rw[h];rfl⟩;obtain⟨p,a,_⟩:=Zx.mp h;have:=d p (List.mem_of_find?_eq_some a);have b:p.1=c:=by simpa using(List.find?_some a)
 rw[b]at this;rw[List.mem_range'_1];lia
def Bc(o:WF S):∀(k:Nat)(met:Wf)(d:Nat),met.Nodup->(∀x∈met,x<S.lg.length)->d<=met.length->S.lg.length<=k+d->(∀i,i<d->∀c m,gW (S.wy.getD (met.getD i 0) []) c=Y m->m∈met) →
  ∃l,Gh S k met d=Y (met++l)/\(met++l).Nodup/\(∀x∈met++l,x<S.lg.length)/\∀n∈met++l,∀c m,gW (S.wy.getD n []) c=Y m->m∈met++l:=by
 intro k;have fin:∀(met:Wf)(d:Nat),¬d<met.length->d<=met.length->(∀i,i<d->∀c m,gW (S.wy.getD (met.getD i 0) []) c=Y m->m∈met)->∀n∈met,∀c m,gW (S.wy.getD n []) c=Y m->m∈met:=by
  intro met d f b h n t c m e;obtain⟨i,g,q⟩:=X3.mp t;refine h i (by lia) c m ?_;have:met.getD i 0=n:=by rw[Zs,Zn g,q];rfl
  rw[this];exact e
 induction k with
 |zero =>
  intro met d nd lt hd u h;have z:met.length<=S.lg.length:=by
   have:=sub_len met (List.range S.lg.length) nd λx s=>YL.mpr (lt x s)
   rwa [Z4]at this
  have a:¬d<met.length:=by lia
  refine⟨[],?_,?_⟩
  ·unfold Gh;rw[Zp a,Zd]
  ·rw[Zd];exact⟨nd,lt,fin met d a hd h⟩
 |succ k r =>
  intro met d nd lt hd u h;by_cases a:d<met.length
  ·obtain⟨p,e1⟩:=kx (sk (S.wy.getD (met.getD d 0) [])) met;obtain⟨l,e,f,b,j⟩:=r (visit (S.wy.getD (met.getD d 0) []) (sk (S.wy.getD (met.getD d 0) [])) met) (d+1) (lh _ _ nd) (g8 (λc m e=>o.on _ c m e) _ _ (λc v=>ia v) lt) (by rw[e1,Zv];lia) (by lia) (λi g c m e=>by
    have y:(visit (S.wy.getD (met.getD d 0) []) (sk (S.wy.getD (met.getD d 0) [])) met).getD i 0=met.getD i 0:=by
     rw[e1,Zs,Zs,ZC (by lia)]
    rw[y]at e;by_cases q:i=d
    ·subst q;have:=mY (w:=S.wy.getD (met.getD i 0) []) (sk (S.wy.getD (met.getD i 0) [])) met c (u7 (o.LZ _).2 e);rw[e]at this;exact this
    ·rw[e1];exact Z3 _ (h i (by lia) c m e))
   rw[e1,ZA]at f b j;refine⟨p++l,?_,f,b,j⟩;unfold Gh;rw[Zr a];show Gh S k _ (d+1)=_;rw[e,e1,ZA]
  ·refine⟨[],?_,?_⟩
   ·unfold Gh;rw[Zp a,Zd]
   ·rw[Zd];exact⟨nd,lt,fin met d a hd h⟩
def yo{α:Type}{p:List α->Prop}(h0:p [])(h1:∀l a,p l->p (l++[a]))(l:List α):p l:=by
 have:∀l:List α,p l.reverse:=by
  intro l
  induction l with
  |nil=>exact h0
  |cons a l ih=>rw[List.reverse_cons];exact h1 _ a ih
 rw[← List.reverse_reverse l];exact this _
def K.met(H:K P S nd wd){k:Nat}(hk:wd.length<=k):∃l,Gh S k [0] 0=Y (0 :: l)/\(0 :: l).Nodup/\(∀x,x∈0 :: l↔x<wd.length)/\(0 :: l).length=wd.length:=by
 have L:=H.i.len.symm;obtain⟨l,e,h1,h2,h3⟩:=Bc H.i.wf k [0] 0 (by simp) (λx hx=>by rw[Zg.mp hx];exact H.i.wf.pos) (YT _) (by lia) (λi hi=>absurd hi (XH _));have h0:∀(x:Wd) n,nd x=Y n->n∈0 :: l:=by
  intro x
  induction x using yo with
  |h0=>intro n e;rw[H.i.z]at e;cases e;exact Zu
  |h1 x c ih =>
   intro n e;obtain⟨m,hm⟩:=H.i.pre e;exact h3 m (ih m hm) c n (by rw[H.i.wy hm];exact e)
 have hx:∀x,x∈0 :: l↔x<wd.length:=λx=>⟨λz=>by rw[← L];exact h2 x z,λz=>h0 _ x (H.i.top z)⟩
 refine⟨l,e,h1,hx,Nat.le_antisymm ?_ ?_⟩
 ·have:=sub_len (0 :: l) (List.range wd.length) h1 λx z=>YL.mpr ((hx x).mp z)
  rwa [Z4]at this
 ·have:=sub_len (List.range wd.length) (0 :: l) List.nodup_range λx z=>(hx x).mpr (YL.mp z)
  rwa [Z4]at this
end AU
end
section
namespace T08
open VS AU
def xH(w:List (Nat×Nat))(c:Nat):c∈w.map (·.1)↔(gW w c).isSome=Z:=by
 rw[← Az,Xs,Ym];exact⟨λ⟨p,b,a⟩=>⟨p,b,by rw[a];exact beq_self_eq_true c⟩,λ⟨p,b,a⟩=>⟨p,b,by simpa using a⟩⟩
def sN{w:List (Nat×Nat)}(a:(w.map (·.1)).Nodup)(b:∀p∈w,97<=p.1/\p.1<=122):(sk w).Perm (w.map (·.1)):=by
 refine(List.perm_ext_iff_of_nodup ?_ a).mpr λc=>?_
 ·exact List.Nodup.sublist List.filter_sublist List.nodup_range'
 ·rw[xH];constructor
  ·intro h;exact(List.mem_filter.mp h).2
  ·intro h;obtain⟨m,e⟩:=YS.mp h;exact u7 b e
def xj{w:List (Nat×Nat)}(e:(w.map (·.1)).Nodup)(d:∀p∈w,97<=p.1/\p.1<=122):gj [(m,EJ w)]=Y (.fr,.lst ((sk w).map λc=>T.str [c])):=by
 show ((strs? ((w.map λp=>(T.str [p.1],T.int (p.2:Int))).map (·.1))).bind _)=_;have e1:(w.map λp=>(T.str [p.1],T.int (p.2:Int))).map (·.1)=(w.map (·.1)).map λc=>T.str [c]:=by
  rw[Yp,Yp];rfl
 rw[e1,strs_map (λc=>[c]),Zy,Zr]
 ·have:(sk w).map (λc=>[c])=eX ((w.map (·.1)).map λc=>[c]):=by
   refine nk ((sN e d).map _) ?_;rw[Ws];refine List.Pairwise.imp ?_ (List.Pairwise.filter _ (List.pairwise_lt_range' (s:=97) (n:=26)));intro a b j h;rcases Xv.mp h with h | ⟨_,h⟩
   ·omega
   ·exact absurd h (List.not_lt_nil _)
  rw[← this,Yp];rfl
 ·refine⟨?_,ZE.mpr ?_⟩
  ·rw[Zw,← (sN e d).length_eq];have:(sk w).length<=(List.range' 97 26).length:=List.length_filter_le _ _;rw[List.length_range']at this;omega
  intro s f;obtain⟨c,i,rfl⟩:=Ym.mp f;obtain⟨p,g,rfl⟩:=Ym.mp i;have:=d p g;show (decide (1<=dH)&&(decide (p.1<1114112)&&Z))=Z;rw[decide_eq_true (show p.1<1114112 by omega)];rfl
noncomputable def nE:Nat->Wf->List (T×T)
 |_,[]=>[]
 |k,n :: r=>(T.int (n:Int),T.int (k:Int)) :: nE (k+1) r
theorem vQ:∀(met:Wf)(k:Nat),(nE k met).length=met.length
 |[],_=>rfl
 |_ :: r,k=>by rw[nE,ZU,ZU,vQ r]
theorem nI:∀(met:Wf)(k:Nat),(nE k met).map (·.1)=met.map λ(n:Nat)=>T.int (n:Int)
 |[],_=>rfl
 |_ :: r,k=>by rw[nE,Zm,Zm,nI r]
theorem wN:∀(met:Wf)(k n:Nat),nE k (met++[n])=nE k met++[(T.int (n:Int),T.int ((k+met.length:Nat):Int))]
 |[],k,n=>rfl
 |m :: r,k,n=>by
  rw[XS,nE,nE,wN r (k+1) n,ZU,XS];rw[show k+1+r.length=k+(r.length+1) by omega]
def D0(a b:Nat):eqT (.int (a:Int)) (.int (b:Int))=(a==b):=by
 simp only[eqT];by_cases h:a=b
 ·simp[h]
 ·have d:¬(a:Int)=(b:Int):=by omega
  rw[beq_eq_false_iff_ne.mpr h,beq_eq_false_iff_ne.mpr d]
theorem oP:∀(met:Wf)(k n:Nat),eV (nE k met) (.int (n:Int))=if n∈met then Y (T.int ((k+met.idxOf n:Nat):Int)) else M
 |[],_,_=>rfl
 |m :: r,k,n=>by
  show ((((T.int (m:Int),T.int (k:Int)) :: nE (k+1) r).find? λp=>eqT p.1 (.int (n:Int))).map (·.2))=_;rw[Yu];simp only[D0];by_cases h:m=n
  ·subst h;simp[XE]
  ·have hb:(m==n)=O:=beq_eq_false_iff_ne.mpr h;have a:=oP r (k+1) n;unfold eV at a;simp only[hb];rw[a,XE,hb];by_cases q:n∈r
   ·rw[Zr q,Zr (Zt _ q)];show Y (T.int ((k+1+r.idxOf n:Nat):Int))=Y (T.int ((k+(r.idxOf n+1):Nat):Int));rw[show k+1+r.idxOf n=k+(r.idxOf n+1) by omega]
   ·rw[Zp q,Zp (λz=>(Zi.mp z).elim (λe=>h e.symm) q)]
def BH(a:Wf)(n:Nat)(h:n∉a):dput (nE 0 a) (.int (n:Int)) (.int (a.length:Int))=nE 0 (a++[n]):=by
 unfold dput;rw[Zp,wN]
 ·rw[Xm]
 ·intro z;obtain⟨p,b,e⟩:=Xs.mp z;have:(eV (nE 0 a) (.int (n:Int))).isSome=Z:=by
   unfold eV;rw[Yf,List.find?_isSome];exact⟨p,b,e⟩
  rw[oP,Zp h]at this;cases this
def nT(met:Wf):T:=.dct 0 (nE 0 met)
noncomputable def mT(met:Wf):T:=.lst (met.map λ(n:Nat)=>T.int (n:Int))
def zJ{m k:Md}{met:Wf}{n:Nat}(h:a U=Y (m,nT met))(he:e U=Y (k,.int (n:Int))):e2 du e a U=Y (.fr,.bl (decide (n∉met))):=e2v he h (by
 show (match (if Z=Z then Y (Md.fr,T.bl (eV (nE 0 met) (.int (n:Int))).isSome) else M) with | some (_,.bl b)=>some (Md.fr,T.bl (!b)) | _=>none)=_;rw[Zr L,oP];by_cases q:n∈met
 ·rw[Zr q,Zb (λz=>z q)];rfl
 ·rw[Zp q,decide_eq_true q];rfl)
section
theorem wY{d:Nat}{ob:Wb}:∀(r met:Wf)(z:Wb),(∀c∈r,∃m,gW w c=Y m)->met.length+r.length<16777216->∃a,forL (df 5) bz (r.map λc=>T.str [c]) [ob,oc (nT met),oc (mT met),Q0 (d:Int),pc (EJ w),z]=Y (.nx [ob,oc (nT (visit w r met)),oc (mT (visit w r met)),Q0 (d:Int),pc (EJ w),a])
 |[],met,z,_,_=>⟨z,rfl⟩
 |c :: r,met,z,f,p=>by
  obtain⟨m,e⟩:=f c Zu;rw[ZU]at p;have hlen:(nE 0 met).length=met.length:=vQ met 0;by_cases q:m∈met
  ·obtain⟨a,b⟩:=wY r met (Q1 ([c])) (λd hd=>f d (Zt _ hd)) (by omega);refine⟨a,?_⟩;have ev:visit w (c :: r) met=visit w r met:=by
    show visit w r (if (gW w c).getD 0∈met then met else met++[(gW w c).getD 0])=_;rw[e,YN,Zr q]
   rw[ev,Zm];refine(jm (U1:=[ob,oc (nT met),oc (mT met),Q0 (d:Int),pc (EJ w),Q1 ([c])]) L ?_).trans b;unfold bz;refine ji (m:=.fr) ?_ L;refine(zJ (m:=.bo) (k:=.fr) (met:=met) (n:=m) L (vR (m:=.pu) (n:=.fr) (c:=c) (w:=w) L L e)).trans ?_;rw[Zb (λz=>z q)]
  ·obtain⟨a,b⟩:=wY r (met++[m]) (Q1 ([c])) (λd hd=>f d (Zt _ hd)) (by rw[Zv,ZM];omega);refine⟨a,?_⟩;have ev:visit w (c :: r) met=visit w r (met++[m]):=by
    show visit w r (if (gW w c).getD 0∈met then met else met++[(gW w c).getD 0])=_;rw[e,YN,Zp q]
   rw[ev,Zm];refine(jm (U1:=[ob,oc (nT met),oc (mT met),Q0 (d:Int),pc (EJ w),Q1 ([c])]) L ?_).trans b;unfold bz;refine MG (m:=.fr) ?_ ?_
   ·refine(zJ (m:=.bo) (k:=.fr) (met:=met) (n:=m) L (vR (m:=.pu) (n:=.fr) (c:=c) (w:=w) L L e)).trans ?_;rw[decide_eq_true q]
   ·have h:∀nn g:Wb,e2 Hb (af 4) (af 5) [ob,nn,g,Q0 (d:Int),pc (EJ w),Q1 ([c])]=Y (.fr,.int (m:Int)):=λnn g=>vR (m:=.pu) (n:=.fr) (c:=c) (w:=w) L L e;have j:r9 1 (e2 Hb (af 4) (af 5)) (eN cp (aa (af 2) ag)) [ob,oc (nT met),oc (mT met),Q0 (d:Int),pc (EJ w),Q1 ([c])]=Y (.nx [ob,oc (nT (met++[m])),oc (mT met),Q0 (d:Int),pc (EJ w),Q1 ([c])]):=by
     have o:eN cp (aa (af 2) ag) [ob,oc (nT met),oc (mT met),Q0 (d:Int),pc (EJ w),Q1 ([c])]=Y (.fr,.int (met.length:Int)):=iN (xv (x:=(.bo,mT met)) L L) (by
      show Y (Md.fr,T.int (((met.map λ(n:Nat)=>T.int (n:Int)).length:Nat):Int))=_;rw[Zw])
     unfold r9;rw[o,Zy];show ((e2 Hb (af 4) (af 5) [ob,oc (nT met),oc (mT met),Q0 (d:Int),pc (EJ w),Q1 ([c])]).bind _)=_;rw[h,Zy];show (if Z=Z/\Z=Z/\(nE 0 met).length<dH then Y (Out.nx [ob,oc (.dct 0 (dput (nE 0 met) (.int (m:Int)) (.int (met.length:Int)))),oc (mT met),Q0 (d:Int),pc (EJ w),Q1 ([c])]) else M)=_;rw[Zr ⟨rfl,rfl,by rw[hlen];show met.length<16777216;omega⟩,BH met m q];rfl
    refine sq j ?_;refine(wA (i:=2) (l:=met.map λ(n:Nat)=>T.int (n:Int)) (v:=.int (m:Int)) L (h _ _) (by rw[Zw];omega)).trans ?_;rw[show (met.map λ(n:Nat)=>T.int (n:Int))++[.int (m:Int)]=(met++[m]).map λ(n:Nat)=>T.int (n:Int) from by rw[Yv];rfl];rfl
end
def q8(w:List (Nat×Nat)):(sk w).length<=26:=by
 refine ZF (List.length_filter_le _ _) ?_;rw[List.length_range'];exact Zj _
def yF{S:St}{a:Wf}(b:a.Nodup)(d:∀x∈a,x<S.lg.length):a.length<=S.lg.length:=by
 have:=sub_len a (List.range S.lg.length) b λx e=>YL.mpr (d x e)
 rwa [Z4]at this
def Cv(j:WF S)(G:S.lg.length<=100001):∀(k:Nat)(met:Wf)(d:Nat)(M:Wf),met.Nodup->(∀x∈met,x<S.lg.length)->Gh S k met d=Y M->∀N,k<N->∀f a:Wb,∃i B C,
  d3 (e2 oLt (af 3) (eN cp (aa (af 2) ag))) b6 N [pc (Ej S O),oc (nT met),oc (mT met),Q0 ((d:Nat):Int),f,a] =
   Y (.nx [pc (Ej S O),oc (nT M),oc (mT M),pc i,B,C]):=by
 have cond:∀(met:Wf)(d:Nat)(f a:Wb),e2 oLt (af 3) (eN cp (aa (af 2) ag)) [pc (Ej S O),oc (nT met),oc (mT met),Q0 ((d:Nat):Int),f,a]=Y (.fr,.bl (decide (d<met.length))):=λmet d f a =>
  e2v (x:=(.fr,.int (d:Int))) L (iN (v:=(.fr,.int (met.length:Int))) (xv (x:=(.bo,mT met)) L L) (by
   show Y (Md.fr,T.int (((met.map λ(n:Nat)=>T.int (n:Int)).length:Nat):Int))=_;rw[Zw])) (by
   show Y (Md.fr,T.bl (decide ((d:Int)<(met.length:Int))))=_;rw[show decide ((d:Int)<(met.length:Int))=decide (d<met.length) from decide_eq_decide.mpr (by omega)])
 intro k
 induction k with
 |zero =>
  intro met d M nd lt e N hN f a;obtain⟨N,rfl⟩:∃M,N=M+1:=⟨N-1,by omega⟩
  unfold Gh at e;split at e
  ·cases e
  ·rename_i h;cases e;exact⟨_,f,a,fz (m:=.fr) ((cond _ _ _ _).trans (by rw[Zb h]))⟩
 |succ k z =>
  intro met d M nd lt e N hN f a;obtain⟨N,rfl⟩:∃M,N=M+1:=⟨N-1,by omega⟩
  unfold Gh at e;split at e
  ·rename_i h;have A:=lt _ (getD_mem h);have D:met.getD d 0<S.wy.length:=by rw[j.wy];exact A
   have F:=yF nd lt;have E:=q8 (S.wy.getD (met.getD d 0) []);obtain⟨o,u⟩:=wY (w:=S.wy.getD (met.getD d 0) []) (d:=d) (ob:=pc (Ej S O)) (sk (S.wy.getD (met.getD d 0) [])) met a (λc g=>ia g) (by omega);obtain⟨i,r,p,q⟩:=z _ (d+1) M (lh _ _ nd) (g8 (λc m e=>j.on _ c m e) _ _ (λc g=>ia g) lt) e N (by omega) (pc (EJ (S.wy.getD (met.getD d 0) []))) o;refine⟨i,r,p,(kT (m:=.fr) ((cond _ _ _ _).trans (by rw[decide_eq_true h])) ?_).trans q⟩;unfold b6;have ix:e2 aT (af 2) (af 3) [pc (Ej S O),oc (nT met),oc (mT met),Q0 ((d:Nat):Int),f,a]=Y (.fr,.int ((met.getD d 0:Nat):Int)):=e2v (x:=(.bo,mT met)) (y:=(.fr,.int (d:Int))) L L (l9 _ met d 0 h);have s:aG 4 (e2 aT (aU 3 (af 0)) (e2 aT (af 2) (af 3))) [pc (Ej S O),oc (nT met),oc (mT met),Q0 ((d:Nat):Int),f,a]=Y (.nx [pc (Ej S O),oc (nT met),oc (mT met),Q0 ((d:Nat):Int),pc (EJ (S.wy.getD (met.getD d 0) [])),a]) :=
    aL (m:=.pu) (lr (S:=S) (b:=O) (m:=.pu) (n:=.fr) L ix D) (by decide) (by decide:4<6)
   refine sq s ?_;have nw:=j.LZ (met.getD d 0);refine sq ((js (m:=.fr) (l:=(sk (S.wy.getD (met.getD d 0) [])).map λc=>T.str [c]) ?_ L).trans u) ?_
   ·show (eN gj (aa (af 4) ag) _).bind AI=_;rw[iN (xv (x:=(.pu,EJ (S.wy.getD (met.getD d 0) []))) L L) (xj nw.1 nw.2)];rfl
   ·exact aL (m:=.fr) (t:=.int (((d+1:Nat)):Int)) L (by decide) (by decide:3<6)
  ·rename_i h;cases e;exact⟨_,f,a,fz (m:=.fr) ((cond _ _ _ _).trans (by rw[Zb h]))⟩
def AS(a:WF S)(g:S.lg.length<=100001){M:Wf}(h:k<1000000)(e:Gh S k [0] 0=Y M):aC [Ej S O]=Y (.fr,nT M):=by
 obtain⟨i,d,b,q⟩:=Cv a g k [0] 0 M (by simp) (λx f=>by rw[Zg.mp f];exact a.pos) e um (by show k<1000000;exact h) none none;refine dW (U:=[pc (Ej S O),none,pc (mT M),pc i,d,b]) L ?_;exact sq L (sq L (sq L (sq q (sq L L))))
noncomputable def Jb(l:List (Nat×Nat)):T:=.tup (l.map λp=>T.tup [.str [p.1],.int (p.2:Int)])
def qT(r:Row):T:=.tup [.int (r.1:Int),.int (r.2.1:Int),EK r.2.2.1,Jb r.2.2.2]
theorem rO:∀l:List (Nat×Nat),gq (l.map λp=>T.tup [.str [p.1],.int (p.2:Int)])=Z
 |[]=>rfl
 |p :: l=>by
  rw[Zm];show (Z&&gq _)=Z;rw[rO l];rfl
def xD(l:List (Nat×Nat)):Et (Jb l)=Z:=rO l
def Cf(h:a U=Y (.fr,x))(g:b U=Y (.fr,y))(f:c U=Y (.fr,z))(e:d U=Y (.fr,w)):qJ (aa a (aa b (aa c (aa d ag)))) U=Y (.fr,.tup [x,y,z,w]):=by
 show (aa a (aa b (aa c (aa d ag))) U).bind rG=_;rw[xv h (xv g (xv f (xv (r:=ag) e L))),Zy];show Y (up .fr _)=_;unfold up;split<;>rfl
def AK(d:WF S)(p:∀x,x<S.lg.length->x∈a)(j:n<S.lg.length):cj [Ej S O,.int (n:Int),.dct 3 (nE 0 a)]=Y (.fr,qT (row S a n)):=by
 have hw:n<S.wy.length:=by rw[d.wy];exact j
 have A:n<S.lk.length:=by rw[d.lk];exact j
 have nw:=d.LZ n;have get:∀v,v<S.lg.length->eV (nE 0 a) (.int (v:Int))=Y (T.int ((a.idxOf v:Nat):Int)):=λv z=>by rw[oP,Zr (p v z),Xm]
 have g:aG 3 (e2 aT (aU 2 (af 0)) (af 1)) [pc (Ej S O),Q0 (n:Int),pc (.dct 3 (nE 0 a)),M,M,M]=Y (.nx [pc (Ej S O),Q0 (n:Int),pc (.dct 3 (nE 0 a)),pc (EK (S.lk.getD n M)),M,M]):=aL (m:=.fr) (sP (S:=S) (b:=O) (m:=.pu) (n:=.fr) L L A) (by decide) (by decide:3<6);have f:aG 4 (e2 aT (aU 3 (af 0)) (af 1)) [pc (Ej S O),Q0 (n:Int),pc (.dct 3 (nE 0 a)),pc (EK (S.lk.getD n M)),M,M]=Y (.nx [pc (Ej S O),Q0 (n:Int),pc (.dct 3 (nE 0 a)),pc (EK (S.lk.getD n M)),pc (EJ (S.wy.getD n [])),M]):=aL (m:=.pu) (lr (S:=S) (b:=O) (m:=.pu) (n:=.fr) L L hw) (by decide) (by decide:4<6);have C:eN jB (aa (gU 1 (df 0) (km (eN gj (aa (af 4) ag))) M (qJ (aa (af 0) (aa (e2 oz (af 3) (e2 Hb (af 5) (af 0))) ag)))) ag) [pc (Ej S O),Q0 (n:Int),pc (.dct 3 (nE 0 a)),pc (EK (S.lk.getD n M)),pc (EJ (S.wy.getD n [])),M]=Y (.fr,Jb (steps S a n)):=by
  have D:=iH (k:=1) (tg:=df 0) (it:=km (eN gj (aa (af 4) ag))) (elt:=qJ (aa (af 0) (aa (e2 oz (af 3) (e2 Hb (af 5) (af 0))) ag))) (m:=.fr) (U:=[pc (Ej S O),Q0 (n:Int),pc (.dct 3 (nE 0 a)),pc (EK (S.lk.getD n M)),pc (EJ (S.wy.getD n [])),M]) (λc=>T.str [c]) (λc=>T.tup [.str [c],.int ((a.idxOf ((gW (S.wy.getD n []) c).getD 0):Nat):Int)]) (sk (S.wy.getD n [])) (by
   show (eN gj (aa (af 4) ag) _).bind AI=_;rw[iN (xv (x:=(.pu,EJ (S.wy.getD n []))) L L) (xj nw.1 nw.2)];rfl) L (ZF (q8 _) (by decide)) (λc B=>by
   obtain⟨v,ev⟩:=ia B;refine⟨[Q1 ([c]),pc (Ej S O),Q0 (n:Int),pc (.dct 3 (nE 0 a)),pc (EK (S.lk.getD n M)),pc (EJ (S.wy.getD n [])),M],rfl,?_⟩;have u:e2 oz (af 3) (e2 Hb (af 5) (af 0)) [Q1 ([c]),pc (Ej S O),Q0 (n:Int),pc (.dct 3 (nE 0 a)),pc (EK (S.lk.getD n M)),pc (EJ (S.wy.getD n [])),M]=Y (.fr,.int ((a.idxOf v:Nat):Int)) :=
    e2v (x:=(.pu,.dct 3 (nE 0 a))) L (vR (m:=.pu) (n:=.fr) (c:=c) (w:=S.wy.getD n []) L L ev) (by
     show (if Z=Z then (eV (nE 0 a) (.int (v:Int))).map (sub .pu) else M)=_;rw[Zr L,get v (d.on n c v ev)];rfl)
   rw[ev,YN];show (aa (af 0) (aa (e2 oz (af 3) (e2 Hb (af 5) (af 0))) ag) _).bind rG=_;rw[xv (x:=(.fr,.str [c])) L (xv (r:=ag) u L)];rfl)
  refine iN (xv (r:=ag) D L) ?_;show (if _<=dH then Y (up .fr (.tup _)) else M)=_;rw[Zr (by rw[Zw];exact ZF (q8 _) (by decide))];have:T.tup ((sk (S.wy.getD n [])).map λc=>T.tup [.str [c],.int ((a.idxOf ((gW (S.wy.getD n []) c).getD 0):Nat):Int)])=Jb (steps S a n):=by
   unfold Jb steps;rw[Yp];rfl
  rw[this];unfold up;rw[xD];rfl
 have e:=aL (i:=5) C (by decide) (by decide:5<6);have q:∀U:Env,U[5]?=Y (pc (Jb (steps S a n)))->af 5 U=Y (.fr,Jb (steps S a n)):=λU h=>by
  show (match U[5]? with | some (some (.pu t))=>some (up .pu t) | some (some (.ow t))=>some (.bo,t) | _=>none)=_;rw[h];show Y (up .pu _)=_;unfold up;rw[xD];rfl
 unfold row;cases o:S.lk.getD n M with
 |none =>
  rw[o]at g f e;refine dW (v:=(.fr,qT (0,0,M,steps S a n))) (U:=[pc (Ej S O),Q0 (n:Int),pc (.dct 3 (nE 0 a)),pc (EK M),pc (EJ (S.wy.getD n [])),pc (Jb (steps S a n))]) L ?_;refine sq g (sq f (sq e (kZ (MG (m:=.fr) L (d7 (Cf L L L (q _ L)))))))
 |some l =>
  rw[o]at g f e;have s:=d.up n l o;refine dW (v:=(.fr,qT (S.lg.getD l 0+1,S.lg.getD n 0,Y (a.idxOf l),steps S a n))) (U:=[pc (Ej S O),Q0 (n:Int),pc (.dct 3 (nE 0 a)),pc (EK (Y l)),pc (EJ (S.wy.getD n [])),pc (Jb (steps S a n))]) L ?_;refine sq g (sq f (sq e (sq (ji (m:=.fr) L L) (d7 (Cf ?_ ?_ ?_ (q _ L))))))
  ·exact e2v (pG (S:=S) (b:=O) (m:=.pu) (n:=.fr) (i:=l) L L s) L L
  ·exact pG (S:=S) (b:=O) (m:=.pu) (n:=.fr) (i:=n) L L j
  ·exact e2v (x:=(.pu,.dct 3 (nE 0 a))) (y:=(.fr,.int (l:Int))) L L (by
    show (if Z=Z then (eV (nE 0 a) (.int (l:Int))).map (sub .pu) else M)=_;rw[Zr L,get l s];rfl)
def LA(t:List Row):T:=.lst (t.map qT)
def Bt(b:WF S)(h:S.lg.length<=100001){M:Wf}{k:Nat}(o:k<1000000)(e:Gh S k [0] 0=Y M)(a:∀x,x∈M↔x<S.lg.length)(l:M.length<=16777216):dk [Ej S O]=Y (.fr,LA (tab S M)):=by
 have f:=AS b h o e;refine dW (U:=[pc (Ej S O),none]) L ?_;have d:mG 1 (cu 0 aC (af 0) ag) [pc (Ej S O),none]=Y (.nx [pc (Ej S O),oc (nT M)]):=by
  show (cu 0 aC (af 0) ag [pc (Ej S O),none]).bind _=_;have:cu 0 aC (af 0) ag [pc (Ej S O),none]=Y (.fr,nT M):=by
   show ((aC [Ej S O]).bind _)=_;rw[f];rfl
  rw[this];rfl
 refine sq d ?_;have q:=iH (k:=1) (tg:=df 0) (it:=rA 1) (elt:=cu 0 cj (af 1) (aa (af 0) (aa (af 2) ag))) (m:=.fr) (U:=[pc (Ej S O),pc (.dct 3 (nE 0 M))]) (λ(n:Nat)=>T.int (n:Int)) (λn=>qT (row S M n)) M (by
  show (if ((nE 0 M).all λp=>isInt p.1)=Z then Y (Md.fr,(nE 0 M).map (·.1)) else none)=_;rw[Zr,nI];rw[ZE];intro p i;have:p.1∈(nE 0 M).map (·.1):=List.mem_map_of_mem i;rw[nI]at this;obtain⟨n,_,e⟩:=Ym.mp this;rw[← e];rfl) L l (λn j=>by
  refine⟨[Q0 (n:Int),pc (Ej S O),pc (.dct 3 (nE 0 M))],rfl,?_⟩;show ((cj [Ej S O,.int (n:Int),.dct 3 (nE 0 M)]).bind _)=_;rw[AK b (λx g=>(a x).mpr g) ((a n).mp j)];rfl)
 show ((gU 1 (df 0) (rA 1) none (cu 0 cj (af 1) (aa (af 0) (aa (af 2) ag))) [pc (Ej S O),pc (.dct 3 (nE 0 M))]).bind _)=_;rw[q];unfold LA tab;rw[Yp];rfl
def He(a:List Tx)(b:Wf)(S:St):mF:=[(4,.lst (a.map .str)),(5,.lst (b.map λ(n:Nat)=>T.int (n:Int))),(6,Ej S O)]
def lp(tx:List Tx)(hd:Wf)(S:St)(b:Bool):T:=.obj 2 ((0,.bl b) :: He tx hd S)
def ym(S:St):gh (Ej S O)=Z:=by
 show ((Z && !(0==0&&O))&&eI (HB S))=Z;rw[jh];rfl
def jy(a:List Tx)(b:Wf)(S:St):eI (He a b S)=Z:=by
 have e:gh (.lst (a.map T.str))=Z:=dF _ (λ_=>rfl) _;have d:gh (.lst (b.map λ(n:Nat)=>T.int (n:Int)))=Z:=dF _ (λ_=>rfl) _;show ((gh _ && !(4==0&&KU _))&&((gh _ && !(5==0&&KU _))&&((gh _ && !(6==0&&KU _))&&Z)))=Z;rw[e,d,ym];rfl
def pv(a:List Tx)(d:Wf)(S:St)(b:Bool):nO 4 (lp a d S b)=Y (.lst (a.map .str)):=rfl
def DR(d:List Tx)(a:Wf)(S:St)(b:Bool):nO 5 (lp d a S b)=Y (.lst (a.map λ(n:Nat)=>T.int (n:Int))):=rfl
def DQ(a:List Tx)(d:Wf)(S:St)(b:Bool):nO 6 (lp a d S b)=Y (Ej S O):=rfl
section
def qz{m:Md}(h:a U=Y (m,lp tx hd S b)):eN cp (aa (aU 4 a) ag) U=Y (.fr,.int (tx.length:Nat)):=iN (xv (dM h (pv tx hd S b)) L) (by
 show Y (Md.fr,T.int (((tx.map T.str).length:Nat):Int))=_;rw[Zw])
def B8{e:Ex}{v:Tx}(h:e (oc (lp tx hd S b) :: r)=Y (.fr,.str v))(f:tx.length<16777216):sX (gT 0 [.fld 4] aK (aa e ag)) (oc (lp tx hd S b) :: r)=Y (.nx (oc (lp (tx++[v]) hd S b) :: r)):=by
 show (((Y [Ky.fld 4]).bind λd=>(aa e ag (oc (lp tx hd S b) :: r)).bind λa=>(pm (λx=>aK x a) d (lp tx hd S b)).map _).map _)=_;rw[Zy,xv (r:=ag) h L,Zy];show (((aK (.lst (tx.map T.str)) [(.fr,.str v)]).map _).map _ |>.map _)=_;rw[dY (by rw[Zw];exact f),show (tx.map T.str)++[.str v]=(tx++[v]).map T.str from by rw[Yv];rfl];rfl
def Bq{e:Ex}{v:Nat}(h:e (oc (lp tx hd S b) :: r)=Y (.fr,.int (v:Int)))(f:hd.length<16777216):sX (gT 0 [.fld 5] aK (aa e ag)) (oc (lp tx hd S b) :: r)=Y (.nx (oc (lp tx (hd++[v]) S b) :: r)):=by
 show (((Y [Ky.fld 5]).bind λd=>(aa e ag (oc (lp tx hd S b) :: r)).bind λa=>(pm (λx=>aK x a) d (lp tx hd S b)).map _).map _)=_;rw[Zy,xv (r:=ag) h L,Zy];show (((aK (.lst (hd.map λ(n:Nat)=>T.int (n:Int))) [(.fr,.int (v:Int))]).map _).map _ |>.map _)=_;rw[dY (by rw[Zw];exact f),show (hd.map λ(n:Nat)=>T.int (n:Int))++[.int (v:Int)]=(hd++[v]).map λ(n:Nat)=>T.int (n:Int) from by rw[Yv];rfl];rfl
def ux{tx:List Tx}{hd:Wf}(h:tx.length<8)(i:hd.length=tx.length):aB (He tx hd S) []=Y (He (tx++[[]]) (hd++[0]) S,.int (tx.length:Int)):=by
 unfold aB GI;rw[Zr ⟨rfl,rfl⟩];have a:e2 KG (eN cp (aa (aU 4 (af 0)) ag)) (Q2 8) [oc (lp tx hd S Z)]=Y (.fr,.bl O):=e2v (qz (m:=.bo) L) L (by
  show Y (Md.fr,T.bl (decide ((8:Int)<=(tx.length:Int))))=_;rw[Zb (by omega)])
 have g:=B8 (tx:=tx) (hd:=hd) (S:=S) (b:=Z) (r:=[]) (e:=eC (.str [])) (v:=[]) L (by omega);have f:=Bq (tx:=tx++[[]]) (hd:=hd) (S:=S) (b:=Z) (r:=[]) (e:=Q2 0) (v:=0) L (by omega);have d:=d7 (e:=e2 lY (eN cp (aa (aU 4 (af 0)) ag)) (Q2 1)) (U:=[oc (lp (tx++[[]]) (hd++[0]) S Z)]) (t:=.int (tx.length:Int)) (e2v (qz (m:=.bo) L) L (by
  show Y (Md.fr,T.int ((((tx++[[]]).length:Nat):Int)-1))=_;rw[Zv,ZM,show (((tx.length+1:Nat)):Int)-1=(tx.length:Int) by omega]))
 exact congrArg (λz:Option Out=>z.bind _) (sq (ji a L) (sq g (sq f d)))
def zD{l:W3}{i:Nat}(a:i<l.length):aE [.lst l,.int (i:Int)]=Y (.ok (.fr,.non)):=by
 refine Bg (U:=[pc (.lst l),Q0 (i:Int)]) L ((vS (m:=.fr) (sC (m:=.fr) (x:=O) ?_ (λ_=>?_) (λh=>by cases h))).trans (sQ rfl))
 ·exact fH (m:=.fr) (b:=Z) L
 ·refine fH (m:=.fr) (b:=Z) (rS (x:=(.fr,.int 0)) (y:=(.fr,.int (i:Int))) (z:=(.fr,.int (l.length:Int))) L L ?_ (iN (xv (x:=(.pu,.lst l)) L L) L) ?_)
  ·show Y (Md.fr,T.bl (decide ((0:Int)<=(i:Int))))=_;rw[decide_eq_true (by omega)]
  ·show Y (Md.fr,T.bl (decide ((i:Int)<(l.length:Int))))=_;rw[decide_eq_true (by omega)]
def Di{l:W3}(a:i<l.length):bY [.lst l,.int (i:Int)]=Y (.fr,.non):=AA (zD a)
def tJ{tx:List Tx}(a:i<tx.length):bY [.lst (tx.map .str),.int (i:Int)]=Y (.fr,.non):=Di (by rw[Zw];exact a)
end
noncomputable def bu(a:List Tx):Nat:=(a.map List.length).sum
theorem rP:∀a:List Tx,(a.map λt=>(t.length:Int)).sum=(bu a:Int)
 |[]=>rfl
 |t :: a=>by
  rw[Zm,X8,rP a];unfold bu;rw[Zm,X8];omega
def qk(a:List Tx)(b:a.length<=16777216):c4 [.lst (a.map .str)]=Y (.fr,.int (bu a:Int)):=by
 refine dW (U:=[pc (.lst (a.map .str))]) L ?_;refine d7 (iN (xv (r:=ag) (iH (m:=.pu) T.str (λ(t:Tx)=>T.int (t.length:Int)) a L L b (λt d=>⟨[Q1 t,pc (.lst (a.map .str))],rfl,rfl⟩)) L) ?_);show (pD (a.map λ(t:Tx)=>T.int (t.length:Int))).bind _=_;rw[ints_map (λ(t:Tx)=>(t.length:Int)),Zy,rP]
section
def B7{hd:Wf}{i v:Nat}{e ev:Ex}{n:Md}{r:List (Wb)}(g:i<hd.length)(he:e (oc (lp tx hd S b) :: r)=Y (n,.int (i:Int)))(a:ev (oc (lp tx hd S b) :: r)=Y (.fr,.int (v:Int))) :
  dJ 0 [.fld 5] e ev (oc (lp tx hd S b) :: r)=Y (.nx (oc (lp tx (hd.set i v) S b) :: r)):=by
 unfold dJ;rw[a,Zy];show ((keys [.fld 5] (oc (lp tx hd S b) :: r)).bind _)=_;have f:keys [.fld 5] (oc (lp tx hd S b) :: r)=Y [.fld 5]:=rfl;rw[f,Zy,he,Zy];have d:pm (iX (n,.int (i:Int)) (.fr,.int (v:Int))) [.fld 5] (lp tx hd S b)=Y (lp tx (hd.set i v) S b,()):=by
  show ((iX (n,.int (i:Int)) (.fr,.int (v:Int)) (.lst (hd.map λ(n:Nat)=>T.int (n:Int)))).map _)=_;have:iX (n,.int (i:Int)) (.fr,.int (v:Int)) (.lst (hd.map λ(n:Nat)=>T.int (n:Int)))=Y (.lst ((hd.set i v).map λ(n:Nat)=>T.int (n:Int)),()):=by
   show ((Gc (hd.map λ(n:Nat)=>T.int (n:Int)).length (i:Int)).map _)=_;rw[Zw,tq g,XI];rfl
  rw[this];rfl
 rw[d];rfl
def Aq{tx:List Tx}{n:Md}(h:i<tx.length)(he:e (oc (lp tx hd S b) :: r)=Y (n,.int (i:Int)))(d:a (oc (lp tx hd S b) :: r)=Y (.fr,.str v)) :
  dJ 0 [.fld 4] e a (oc (lp tx hd S b) :: r)=Y (.nx (oc (lp (tx.set i v) hd S b) :: r)):=by
 unfold dJ;rw[d,Zy];show ((keys [.fld 4] (oc (lp tx hd S b) :: r)).bind _)=_;have g:keys [.fld 4] (oc (lp tx hd S b) :: r)=Y [.fld 4]:=rfl;rw[g,Zy,he,Zy];have f:pm (iX (n,.int (i:Int)) (.fr,.str v)) [.fld 4] (lp tx hd S b)=Y (lp (tx.set i v) hd S b,()):=by
  show ((iX (n,.int (i:Int)) (.fr,.str v) (.lst (tx.map T.str))).map _)=_;have:iX (n,.int (i:Int)) (.fr,.str v) (.lst (tx.map T.str))=Y (.lst ((tx.set i v).map T.str),()):=by
   show ((Gc (tx.map T.str).length (i:Int)).map _)=_;rw[Zw,tq h,XI];rfl
  rw[this];rfl
 rw[f];rfl
def yw{tx:List Tx}{hd:Wf}{w:Tx}(W:WF S)(G:hd.length=tx.length)(a:i<tx.length)(H:tx.length<=8)(F:bu tx+w.length<=120)(s:S.lg.length+2*w.length<=100000)(q:hd.getD i 0<S.lg.length)(u:∀c∈w,97<=c/\c<=122)(E:(tx.getD i []).length<=120)(e:hg S (hd.getD i 0) w=Y (S',r)) :
  aw (He tx hd S) [.int (i:Int),.str w]=Y (He (tx.set i (tx.getD i []++w)) (hd.set i r) S',.non):=by
 obtain⟨D,C,B,g⟩:=C3 W s q u e;unfold aw GI;rw[Zr ⟨rfl,rfl⟩];have o:sX (xP (bq bY (aa (aU 4 (af 0)) (aa (af 1) ag)))) [oc (lp tx hd S Z),Q0 (i:Int),Q1 w]=Y (.nx [oc (lp tx hd S Z),Q0 (i:Int),Q1 w]):=by
  have:bq bY (aa (aU 4 (af 0)) (aa (af 1) ag)) [oc (lp tx hd S Z),Q0 (i:Int),Q1 w]=Y (.fr,.non):=cf (xv (dM (m:=.bo) (t:=lp tx hd S Z) L (pv tx hd S Z)) (xv (x:=(.fr,.int (i:Int))) L L)) (tJ a);show (((bq bY _ _).map _).map _)=_;rw[this];rfl
 have A:e2 KD (e2 bE (bq c4 (aa (aU 4 (af 0)) ag)) (eN cp (aa (af 2) ag))) (Q2 120) [oc (lp tx hd S Z),Q0 (i:Int),Q1 w]=Y (.fr,.bl O) :=
  e2v (x:=(.fr,.int ((bu tx:Int)+(w.length:Int)))) (e2v (cf (xv (r:=ag) (dM (m:=.bo) (t:=lp tx hd S Z) L (pv tx hd S Z)) L) (qk tx (by omega))) (y:=(.fr,.int (w.length:Int))) L L) L (by
   show Y (Md.fr,T.bl (decide ((120:Int)<(bu tx:Int)+(w.length:Int))))=_;rw[Zb (by omega)])
 have f:aV 0 [.fld 6] 0 [O,O] aP (aa (e2 aT (aU 5 (af 0)) (af 1)) (aa (af 2) ag)) [oc (lp tx hd S Z),Q0 (i:Int),Q1 w]=Y ((.fr,.int (r:Int)),[oc (lp tx hd S' Z),Q0 (i:Int),Q1 w]):=by
  show ((Y [Ky.fld 6]).bind λp=>(aa (e2 aT (aU 5 (af 0)) (af 1)) (aa (af 2) ag) [oc (lp tx hd S Z),Q0 (i:Int),Q1 w]).bind λd=>(pm (gY 0 [O,O] aP d) p (lp tx hd S Z)).map λz=>(z.2,[oc z.1,Q0 (i:Int),Q1 w]))=_;rw[Zy,xv (x:=(.fr,.int ((hd.getD i 0:Nat):Int))) (e2v (dM (m:=.bo) (t:=lp tx hd S Z) L (DR tx hd S Z)) (y:=(.fr,.int (i:Int))) L (l9 _ hd i 0 (by omega))) (xv (r:=ag) (x:=(.fr,.str w)) L L),Zy];show (((if 1=0+1/\eI (HB S)=Z/\argsOk [O,O] [(Md.fr,T.int ((hd.getD i 0:Nat):Int)),(Md.fr,T.str w)]=Z/\cS (trees [(Md.fr,T.int ((hd.getD i 0:Nat):Int)),(Md.fr,T.str w)])=Z then (aP (HB S) [.int ((hd.getD i 0:Nat):Int),.str w]).bind λz=>if eI z.1=Z/\Et z.2=Z then Y (T.obj 1 ((0,.bl O) :: z.1),(Md.fr,z.2)) else M else M).map _).map _)=_;rw[Zr ⟨rfl,jh S,rfl,rfl⟩,g,Zy,Zr ⟨jh S',rfl⟩];rfl
 have l:jr 0 [.fld 5] (af 1) (aV 0 [.fld 6] 0 [O,O] aP (aa (e2 aT (aU 5 (af 0)) (af 1)) (aa (af 2) ag))) [oc (lp tx hd S Z),Q0 (i:Int),Q1 w]=Y (.nx [oc (lp tx (hd.set i r) S' Z),Q0 (i:Int),Q1 w]):=by
  unfold jr;rw[f];exact B7 (tx:=tx) (hd:=hd) (S:=S') (b:=Z) (r:=[Q0 (i:Int),Q1 w]) (e:=af 1) (ev:=λ_=>Y (.fr,.int (r:Int))) (i:=i) (v:=r) (n:=.fr) (by omega) L L
 have j:dJ 0 [.fld 4] (af 1) (e2 bE (e2 aT (aU 4 (af 0)) (af 1)) (af 2)) [oc (lp tx (hd.set i r) S' Z),Q0 (i:Int),Q1 w]=Y (.nx [oc (lp (tx.set i (tx.getD i []++w)) (hd.set i r) S' Z),Q0 (i:Int),Q1 w]) :=
  Aq (n:=.fr) a L (e2v (dM (m:=.bo) (t:=lp tx (hd.set i r) S' Z) L (pv tx (hd.set i r) S' Z) |> λh=>e2v h (y:=(.fr,.int (i:Int))) L (l9 T.str tx i [] a)) (y:=(.fr,.str w)) L (qc (by omega)))
 exact congrArg (λz:Option Out=>z.bind _) (sq o (sq (ji A L) (sq l j)))
end
end T08
end
section
namespace T08
open VS
theorem lD{β:Type}{tg:Tg}{body:Sx}(g:β->T)(Inv:List β->Env->Prop)(h:∀t r U,Inv (t :: r) U->∃e a,tg (g t) U=Y e/\body e=Y (.nx a)/\Inv r a):∀(l:List β)(U:Env),Inv l U->∃b,forL tg body (l.map g) U=Y (.nx b)/\Inv [] b
 |[],U,d=>⟨U,rfl,d⟩
 |t :: l,U,d=>by
  obtain⟨e,a,e1,e2,j⟩:=h t l U d;obtain⟨b,f,i⟩:=lD g Inv h l a j;exact⟨b,(jm e1 e2).trans f,i⟩
noncomputable def cellAt(a:We)(k:Nat):Int:=a.getD k 0
def ug(a:We)(k:Nat):aJ [.scr a,.int k]=Y (.fr,.int (cellAt a k)):=by
 by_cases h:k<a.length
 ·refine dW (U:=[pc (.scr a),Q0 k]) L (kZ ((uc (m:=.fr) ?_).trans (d7 (e2v (x:=(.fr,.scr a)) (y:=(.fr,.int k)) L L ?_))))
  ·refine e2v (x:=(.fr,.int k)) (y:=(.fr,.int (a.length:Int))) L L ?_;show Y (Md.fr,T.bl (decide ((k:Int)<(a.length:Int))))=_;rw[decide_eq_true (by omega)]
  ·rw[yO a k (by omega) (by omega),Yk];rfl
 ·refine dW (U:=[pc (.scr a),Q0 k]) L ((bA ((uF (m:=.fr) ?_).trans L)).trans (d7 ?_))
  ·refine e2v (x:=(.fr,.int k)) (y:=(.fr,.int (a.length:Int))) L L ?_;show Y (Md.fr,T.bl (decide ((k:Int)<(a.length:Int))))=_;rw[Zb (by omega)]
  ·unfold cellAt;rw[Zs,Z5 (by omega)];rfl
def kR{k:Nat}{m:Md}(b:af 0 U=Y (m,.scr a))(h:e U=Y (.fr,.int (k:Int))):bq aJ (aa (af 0) (aa e ag)) U=Y (.fr,.int (cellAt a k)):=cf (xv b (xv (r:=ag) h L)) (ug a k)
def yY(c k:Int)(h:0<=k)(g:k<1000000):∃v,eK [.int c,.int k]=Y (.fr,.int v):=by
 have f:=Yc (c%2147483629+48271*k+11) (b:=2147483629) (by decide);have e1:=Yl (c%2147483629+48271*k+11) (b:=2147483629) (by decide);generalize e:(c%2147483629+48271*k+11)%2147483629=n at f e1;have j:=Yc (n*n) (b:=2147483629) (by decide);have i:=Yl (n*n) (b:=2147483629) (by decide);have d:aG 2 (e2 oMod (e2 bE (e2 bE (e2 oMod (af 0) (Q2 2147483629)) (e2 kg (Q2 48271) (af 1))) (Q2 11)) (Q2 2147483629)) [Q0 c,Q0 k,M]=Y (.nx [Q0 c,Q0 k,Q0 n]):=by
  refine aL (m:=.fr) (e2v (e2v (e2v (e2v (x:=(.fr,.int c)) (y:=(.fr,.int 2147483629)) L L (dI (by decide))) (e2v (x:=(.fr,.int 48271)) (y:=(.fr,.int k)) L L (kf (by decide))) L) (y:=(.fr,.int 11)) L L) (y:=(.fr,.int 2147483629)) L ?_) (by decide) (by show 2<3;decide);rw[dI (by decide),e]
 have a:aG 2 (e2 bE (e2 oMod (e2 kg (af 2) (af 2)) (Q2 2147483629)) (e2 kg (Q2 7919) (af 1))) [Q0 c,Q0 k,Q0 n]=Y (.nx [Q0 c,Q0 k,Q0 (n*n%2147483629+7919*k)]) :=
  aL (m:=.fr) (e2v (e2v (e2v (x:=(.fr,.int n)) (y:=(.fr,.int n)) L L (kf (by omega))) (y:=(.fr,.int 2147483629)) L (dI (by decide))) (e2v (x:=(.fr,.int 7919)) (y:=(.fr,.int k)) L L (kf (by decide))) L) (by decide) (by show 2<3;decide)
 exact⟨_,dW (U:=[Q0 c,Q0 k,Q0 (n*n%2147483629+7919*k)]) L ((bA d).trans ((bA a).trans (d7 (e2v (e2v (x:=(.fr,.int (n*n%2147483629+7919*k))) (y:=(.fr,.int (n*n%2147483629+7919*k))) L L (kf (by omega))) (y:=(.fr,.int 2147483587)) L (dI (by decide))))))⟩
abbrev ET(d:We)(L:Tx)(b j c a:Int)(s:Wf)(z:Wb):Env:=[pc (.scr d),Q1 L,Q0 b,Q0 j,Q0 c,Q0 a,oc (.lst (s.map λx=>T.str [x])),z]
def wb{U:Env}{L:Tx}{e:Ex}{m:Md}{y:Int}(h:0<L.length)(a:af 1 U=Y (m,.str L))(he:e U=Y (.fr,.int y)):∃x∈L,e2 aT (af 1) (e2 oMod e (eN cp (aa (af 1) ag))) U=Y (.fr,.str [x]):=by
 have g:=Yc y (b:=(L.length:Int)) (by omega);have f:=Yl y (b:=(L.length:Int)) (by omega);have d:(y%(L.length:Int)).toNat<L.length:=by omega
 refine⟨L.getD (y%(L.length:Int)).toNat 0,?_,e2v a (e2v he (iN (v:=(.fr,.int (L.length:Int))) (xv (r:=ag) a rfl) rfl) (dI (by omega))) (Be L _ g f)⟩;rw[Zs,Zn d];exact Yz d
def Ae{L:Tx}{b j c a:Int}{x:Nat}(h:e (ET d L b j c a s z)=Y (.fr,.str [x]))(f:s.length<1000):sX (mq 6 [] aK (aa e ag)) (ET d L b j c a s z)=Y (.nx (ET d L b j c a (s++[x]) z)):=by
 rw[wA (i:=6) (l:=s.map λx=>T.str [x]) rfl h (by rw[Zw];omega)];show Y (Out.nx [pc (.scr d),Q1 L,Q0 b,Q0 j,Q0 c,Q0 a,oc (.lst (s.map (λx=>T.str [x])++[T.str [x]])),z])=Y (Out.nx [pc (.scr d),Q1 L,Q0 b,Q0 j,Q0 c,Q0 a,oc (.lst ((s++[x]).map λx=>T.str [x])),z]);rw[Yv];rfl
def vm(d:We)(L:Tx)(b a:Int)(j:Nat)(F:j<=1000)(u:0<L.length)(H:L.length<1000)(n:Nat)(E:n<1000)(c:Int):∃f s z,forL (df 7) ed ((List.range n).map λ(k:Nat)=>T.int (k:Int)) (ET d L b j c a [] M)=Y (.nx (ET d L b j f a s z))/\s.length<=n/\∀x∈s,x∈L:=by
 obtain⟨G,e,f,s,z,rfl,o,l,_⟩:=lD (tg:=df 7) (body:=ed) (λ(k:Nat)=>T.int (k:Int)) (λr U=>∃c s z,U=ET d L b j c a s z/\s.length+r.length<=n/\(∀x∈s,x∈L)/\∀k∈r,k<n) (by
  rintro k r _ ⟨c,s,z,rfl,o,l,w⟩;rw[ZU]at o;have i:=w k Zu;have B:∀U,af 0 U=Y (Md.fr,T.scr d)->e2 oMod (bq aJ (aa (af 0) (aa (Q2 0) ag))) (Q2 2) U=Y (.fr,.int (cellAt d 0%2)):=λU h=>e2v (kR (k:=0) h rfl) (y:=(.fr,.int 2)) rfl (dI (by decide));have A:e2 oEq (e2 oMod (bq aJ (aa (af 0) (aa (Q2 0) ag))) (Q2 2)) (Q2 0) (ET d L b j c a s (Q0 k))=Y (.fr,.bl (cellAt d 0%2==0)):=by
   refine e2v (B _ rfl) (y:=(.fr,.int 0)) rfl (kF rfl rfl ?_);simp only[eqT]
  have fin:∀(f:Int)(x:Nat),x∈L->∃c q z,ET d L b j f a (s++[x]) (Q0 k)=ET d L b j c a q z/\q.length+r.length<=n/\(∀x∈q,x∈L)/\∀k∈r,k<n:=λf x g=>⟨_,_,_,rfl,by rw[Zv,ZM];omega,λy C=>(Zc.mp C).elim (l y) (λh=>Zg.mp h ▸ g),λk i=>w k (Zt _ i)⟩
  by_cases p:cellAt d 0%2=0
  ·obtain⟨x,g,ex⟩:=wb (U:=ET d L b j c a s (Q0 k)) (e:=af 4) (m:=.fr) (y:=c) u rfl rfl;refine⟨ET d L b j c a s (Q0 k),ET d L b j (c/(L.length:Int)) a (s++[x]) (Q0 k),rfl,(uc (A.trans (by rw[beq_iff_eq.mpr p]))).trans ((bA (Ae ex (by omega))).trans ?_),fin _ x g⟩;exact aL (m:=.fr) (t:=.int (c/(L.length:Int))) (e2v (x:=(.fr,.int c)) (y:=(.fr,.int (L.length:Int))) rfl rfl (gu (by omega))) (by decide) (by show 4<8;decide)
  ·obtain⟨v,D⟩:=yY c (30*(j:Int)+k) (by omega) (by omega);obtain⟨x,g,ex⟩:=wb (U:=ET d L b j c a s (Q0 k)) (e:=e2 bQ (bq eK (aa (af 4) (aa (e2 bE (e2 kg (Q2 30) (af 3)) (af 7)) ag))) (Q2 7)) (m:=.fr) (y:=v/7) u rfl (e2v (cf (xv (x:=(.fr,.int c)) rfl (xv (r:=ag) (e2v (e2v (x:=(.fr,.int 30)) (y:=(.fr,.int (j:Int))) rfl rfl (kf (by decide))) (y:=(.fr,.int (k:Int))) rfl rfl) rfl)) D) (y:=(.fr,.int 7)) rfl (gu (by decide)));exact⟨ET d L b j c a s (Q0 k),ET d L b j c a (s++[x]) (Q0 k),rfl,(uF (A.trans (by rw[beq_eq_false_iff_ne.mpr p]))).trans (Ae ex (by omega)),fin _ x g⟩) (List.range n) (ET d L b j c a [] M) ⟨c,[],M,rfl,by rw[Z4];exact Xl (Xm _),(λ_ h=>nomatch h),λk i=>YL.mp i⟩
 exact⟨f,s,z,e,o,l⟩
def BN(d:We)(L:Tx)(a:Int)(j:Nat)(p:j<=1000)(o:0<L.length)(u:L.length<1000)(w:0<=a)(v:a<1000):∃t:Tx,dB [.scr d,.str L,.int a,.int j]=Y (.fr,.str t)/\t.length<=a.toNat/\∀x∈t,x∈L:=by
 generalize q:cellAt d (1+j)=c;have C:=Yc c (b:=a+1) (by omega);have B:=Yl c (b:=a+1) (by omega);obtain⟨f,s,z,e,A,r⟩:=vm d L a (c%(a+1)) j p o u (c%(a+1)).toNat (by omega) (c/(a+1));refine⟨s,?_,by omega,r⟩;have l:aG 4 (bq aJ (aa (af 0) (aa (e2 bE (Q2 1) (af 3)) ag))) [pc (.scr d),Q1 L,Q0 a,Q0 j,M,M,M,M]=Y (.nx [pc (.scr d),Q1 L,Q0 a,Q0 j,Q0 c,M,M,M]):=by
  rw[← q];refine aL (m:=.fr) (kR (k:=1+j) rfl (e2v (x:=(.fr,.int 1)) (y:=(.fr,.int (j:Int))) rfl rfl ?_)) (by decide) (by show 4<8;decide);show Y (Md.fr,T.int (1+(j:Int)))=_;rw[show (1+(j:Int))=((1+j:Nat):Int) by omega]
 have i:aG 5 (e2 oMod (af 4) (e2 bE (af 2) (Q2 1))) [pc (.scr d),Q1 L,Q0 a,Q0 j,Q0 c,M,M,M]=Y (.nx [pc (.scr d),Q1 L,Q0 a,Q0 j,Q0 c,Q0 (c%(a+1)),M,M]):=aL (m:=.fr) (e2v (x:=(.fr,.int c)) (y:=(.fr,.int (a+1))) rfl rfl (dI (by omega))) (by decide) (by show 5<8;decide);have h:aG 4 (e2 bQ (af 4) (e2 bE (af 2) (Q2 1))) [pc (.scr d),Q1 L,Q0 a,Q0 j,Q0 c,Q0 (c%(a+1)),M,M]=Y (.nx [pc (.scr d),Q1 L,Q0 a,Q0 j,Q0 (c/(a+1)),Q0 (c%(a+1)),M,M]):=aL (m:=.fr) (e2v (x:=(.fr,.int c)) (y:=(.fr,.int (a+1))) rfl rfl (gu (by omega))) (by decide) (by show 4<8;decide);have g:kL (df 7) (dQ (af 5)) ed (ET d L a j (c/(a+1)) (c%(a+1)) [] M)=Y (.nx (ET d L a j f (c%(a+1)) s z)):=by
  refine(js (m:=.fr) ?_ rfl).trans e;rw[iV (m:=.fr) (j:=c%(a+1)) rfl (by omega),lA]
 refine dW (U:=[pc (.scr d),Q1 L,Q0 a,Q0 j,Q0 f,Q0 (c%(a+1)),pc (.lst (s.map λx=>T.str [x])),z]) rfl ((bA l).trans ((bA i).trans ((bA h).trans ((bA (U1:=ET d L a j (c/(a+1)) (c%(a+1)) [] M) rfl).trans ((bA g).trans ((bA (U1:=[pc (.scr d),Q1 L,Q0 a,Q0 j,Q0 f,Q0 (c%(a+1)),pc (.lst (s.map λx=>T.str [x])),z]) rfl).trans (d7 ?_)))))));have:=nc (m:=.fr) (n:=(up Md.pu (.lst (s.map λx=>T.str [x]))).1) (strs_map (λx=>[x]) s) (by rw[jD];omega);rw[jD]at this;exact this
abbrev EB(e:We)(d:Int)(L:Tx)(a b:Int):Env:=[pc (.scr e),Q0 d,Q1 L,Q0 a,Q0 b]
def mK(i:We)(L:Tx)(d b g:Int)(y:0<=d)(w:d<1000)(E:0<=b)(D:b<=8)(u:0<L.length)(A:L.length<1000)(z:∀c∈L,97<=c/\c<=122) :
  ∃bk:List Tx,gU 1 (df 0) (dQ (af 3)) M (bq dB (aa (af 1) (aa (af 3) (aa (af 5) (aa (af 0) ag))))) (EB i g L b d)=Y (.fr,.lst (bk.map .str))/\bk.length<=8/\bk.flatten.length<=b.toNat*d.toNat/\∀t∈bk,∀c∈t,97<=c/\c<=122:=by
 have ex:∀j:Nat,∃t:Tx,j<=1000->dB [.scr i,.str L,.int d,.int j]=Y (.fr,.str t)/\t.length<=d.toNat/\∀x∈t,x∈L:=λj=>by
  by_cases e:j<=1000
  ·obtain⟨t,h⟩:=BN i L d j e u A y w;exact⟨t,λ_=>h⟩
  ·exact⟨[],λh=>absurd h e⟩
 obtain⟨f,p⟩:=Classical.axiomOfChoice ex;have o:∀j∈List.range b.toNat,j<=1000:=λj e=>by
  have:=YL.mp e;omega
 refine⟨(List.range b.toNat).map f,?_,by rw[Zw,Z4];omega,?_,λt s c v=>?_⟩
 ·rw[Yp];refine iH (m:=.fr) (λ(j:Nat)=>T.int (j:Int)) (λj=>T.str (f j)) (List.range b.toNat) ?_ rfl (by rw[Z4];omega) λj e=>⟨_,rfl,cf (xv (x:=(.fr,.scr i)) rfl (xv (x:=(.fr,.str L)) rfl (xv (x:=(.fr,.int d)) rfl (xv (x:=(.fr,.int (j:Int))) (r:=ag) rfl rfl)))) (p j (o j e)).1⟩
  rw[iV (m:=.fr) (j:=b) rfl (by omega),lA]
 ·generalize b.toNat=n at o ⊢;have:∀l:Wf,(∀j∈l,j<=1000)->(l.map f).flatten.length<=l.length*d.toNat:=by
   intro l
   induction l with
   |nil=>intro _;exact YT _
   |cons a l q =>
    intro h;have C:=q λj e=>h j (Zt _ e);have B:=(p a (h a Zu)).2.1;rw[Zm,ZZ,Zv,ZU,Nat.succ_mul];omega
  have:=this (List.range n) o;rw[Z4]at this;exact this
 ·obtain⟨j,e,rfl⟩:=Ym.mp s;exact z c ((p j (o j e)).2.2 c v)
noncomputable def d5:List Tx:=[[97,98],[97,98,99],[97,98,99,100],[97,122],[97],[97,98,99,100,101,102,103,104,105,106,107,108,109,110,111,112,113,114,115,116,117,118,119,120,121,122]]
noncomputable def counts:We:=[1,2,3,4,2,1,0,8]
def qi:(∀k,k<6->0<(d5.getD k []).length/\(d5.getD k []).length<1000/\∀c∈d5.getD k [],97<=c/\c<=122)/\∀k,k<8->0<=counts.getD k 0/\counts.getD k 0<=8:=by decide
def zu{m n:Md}(c:Int)(b:0<=c)(a:c<=8):∃most:Int,aT (m,.lst [.int 24,.int 12,.int 8,.int 6]) (n,.int ((if 4<c then 4 else c)-1))=Y (.fr,.int most)/\0<=most/\most<=24/\c.toNat*most.toNat<=60:=by
 have:c=0\/c=1\/c=2\/c=3\/c=4\/4<c:=by omega
 rcases this with rfl | rfl | rfl | rfl | rfl | h
 ·exact⟨6,rfl,by decide,by decide,by decide⟩
 ·exact⟨24,rfl,by decide,by decide,by decide⟩
 ·exact⟨12,rfl,by decide,by decide,by decide⟩
 ·exact⟨8,rfl,by decide,by decide,by decide⟩
 ·exact⟨6,rfl,by decide,by decide,by decide⟩
 ·rw[Zr h];refine⟨6,rfl,by decide,by decide,?_⟩;show c.toNat*6<=60;omega
def AB(a:We):∃bk:List Tx,gG [.scr a]=Y (.fr,.lst (bk.map .str))/\bk.length<=8/\bk.flatten.length<=120/\∀t∈bk,∀c∈t,97<=c/\c<=122:=by
 generalize J:cellAt a 0=cell;have a0:=Yc (cell/2) (b:=6) (by decide);have a1:=Yl (cell/2) (b:=6) (by decide);have X:=Yc (cell/12) (b:=8) (by decide);have S:=Yl (cell/12) (b:=8) (by decide);obtain⟨s,p,o⟩:=qi.1 (cell/2%6).toNat (by omega);obtain⟨d,j⟩:=qi.2 (cell/12%8).toNat (by omega);have li:=vr (m:=.fr) (n:=.fr) T.str d5 (cell/2%6) [] a0 (by show cell/2%6<6;exact a1) rfl;have ci:=vr (m:=.fr) (n:=.fr) T.int counts (cell/12%8) 0 X (by show cell/12%8<8;exact S) rfl;have fd:∀(U:Env)(q:Int),0<q/\q<1073741824->af 1 U=Y (Md.fr,T.int cell)->e2 bQ (af 1) (Q2 q) U=Y (.fr,.int (cell/q)):=λU q u h=>e2v h (y:=(.fr,.int q)) rfl (gu u);have z:∀(U:Env)(q r:Int),0<q/\q<1073741824->0<r->af 1 U=Y (Md.fr,T.int cell)->e2 oMod (e2 bQ (af 1) (Q2 q)) (Q2 r) U=Y (.fr,.int (cell/q%r)):=λU q r u H h=>e2v (fd U q u h) (y:=(.fr,.int r)) rfl (dI H);generalize d5.getD (cell/2%6).toNat []=L at s p o li;generalize counts.getD (cell/12%8).toNat 0=count at d j ci;obtain⟨most,G,m0,m1,m2⟩:=zu (m:=.fr) (n:=.fr) count d j;have E:aG 1 (bq aJ (aa (af 0) (aa (Q2 0) ag))) [pc (.scr a),none,none,none,none]=Y (.nx [pc (.scr a),Q0 cell,none,none,none]):=by
  rw[← J];exact aL (m:=.fr) (kR (k:=0) rfl rfl) (by decide) (by show 1<5;decide)
 have q1:e2 oMod (e2 bQ (af 1) (Q2 2)) (Q2 6) [pc (.scr a),Q0 cell,none,none,none]=Y (.fr,.int (cell/2%6)):=z _ 2 6 (by decide) (by decide) rfl;have F:e2 oMod (e2 bQ (af 1) (Q2 12)) (Q2 8) [pc (.scr a),Q0 cell,Q1 L,none,none]=Y (.fr,.int (cell/12%8)):=z _ 12 8 (by decide) (by decide) rfl;have C:∀x,e2 oMod (e2 bQ (af 1) (Q2 96)) (Q2 8) (EB a cell L count x)=Y (.fr,.int (cell/96%8)):=λx=>z _ 96 8 (by decide) (by decide) rfl;have fin:∀(x:Int),0<=x->x<1000->count.toNat*x.toNat<=120->∃bk:List Tx,(ar (FK (hJ (e2 oEq (af 3) (Q2 8)) (e2 Ik (e2 oMod (e2 bQ (af 1) (Q2 96)) (Q2 8)) (Q2 5))) (aG 4 (Q2 3)) dG) (eE (gU 1 (df 0) (dQ (af 3)) none (bq dB (aa (af 1) (aa (af 3) (aa (af 5) (aa (af 0) ag)))))))) (EB a cell L count x)=Y (.rt (.fr,.lst (bk.map .str)) (EB a cell L count (if (count==8 && !(cell/96%8==5))=Z then 3 else x)))/\bk.length<=8/\bk.flatten.length<=120/\∀t∈bk,∀c∈t,97<=c/\c<=122:=by
  intro x x0 x1 x2;have f:hJ (e2 oEq (af 3) (Q2 8)) (e2 Ik (e2 oMod (e2 bQ (af 1) (Q2 96)) (Q2 8)) (Q2 5)) (EB a cell L count x)=Y (.fr,.bl (count==8 && !(cell/96%8==5))):=by
   refine Cs (m:=.fr) (n:=.fr) (e2v (x:=(.fr,.int count)) (y:=(.fr,.int 8)) rfl rfl (kF rfl rfl ?_)) (e2v (C x) (y:=(.fr,.int 5)) rfl (sT rfl rfl ?_))
   ·simp only[eqT]
   ·simp only[eqT]
  cases hb:(count==8 && !(cell/96%8==5)) with
  |true =>
   rw[hb]at f;have R:count=8:=beq_iff_eq.mp (Zf.mp hb).1;obtain⟨bk,e,w,B,v⟩:=mK a L 3 count cell (by decide) (by decide) d j s p o;exact⟨bk,(bA ((uc f).trans (show aG 4 (Q2 3) (EB a cell L count x)=Y (.nx (EB a cell L count 3)) from rfl))).trans (d7 e),w,ZF B (by rw[R];decide),v⟩
  |false =>
   rw[hb]at f;obtain⟨bk,e,w,B,v⟩:=mK a L x count cell x0 x1 d j s p o;exact⟨bk,(bA ((uF f).trans rfl)).trans (d7 e),w,by omega,v⟩
 have pre:∀rest:Sx,ar (aG 1 (bq aJ (aa (af 0) (aa (Q2 0) ag)))) (ar (aG 2 (e2 aT (cq (aa (eC (.str [97,98])) (aa (eC (.str [97,98,99])) (aa (eC (.str [97,98,99,100])) (aa (eC (.str [97,122])) (aa (eC (.str [97])) (aa (eC (.str [97,98,99,100,101,102,103,104,105,106,107,108,109,110,111,112,113,114,115,116,117,118,119,120,121,122])) ag))))))) (e2 oMod (e2 bQ (af 1) (Q2 2)) (Q2 6)))) (ar (aG 3 (e2 aT (cq (aa (Q2 1) (aa (Q2 2) (aa (Q2 3) (aa (Q2 4) (aa (Q2 2) (aa (Q2 1) (aa (Q2 0) (aa (Q2 8) ag))))))))) (e2 oMod (e2 bQ (af 1) (Q2 12)) (Q2 8)))) (ar (aG 4 (e2 aT (cq (aa (Q2 24) (aa (Q2 12) (aa (Q2 8) (aa (Q2 6) ag))))) (e2 lY (eN p7 (aa (af 3) (aa (Q2 4) ag))) (Q2 1)))) rest))) [pc (.scr a),none,none,none,none]=rest (EB a cell L count most):=λrest =>
  (bA E).trans ((bA (aL (m:=.fr) (e2v (x:=(.fr,.lst (d5.map T.str))) rfl q1 li) (by decide) (by show 2<5;decide))).trans ((bA (aL (m:=.fr) (e2v (x:=(.fr,.lst (counts.map T.int))) rfl F ci) (by decide) (by show 3<5;decide))).trans (bA (aL (m:=.fr) (e2v (x:=(.fr,.lst [.int 24,.int 12,.int 8,.int 6])) rfl (y:=(.fr,.int ((if 4<count then 4 else count)-1))) rfl G) (by decide) (by show 4<5;decide)))))
 have i:e2 oEq (e2 oMod (e2 bQ (af 1) (Q2 96)) (Q2 8)) (Q2 5) (EB a cell L count most)=Y (.fr,.bl (cell/96%8==5)):=by
  refine e2v (C most) (y:=(.fr,.int 5)) rfl (kF rfl rfl ?_);simp only[eqT]
 cases hb:(cell/96%8==5) with
 |true =>
  rw[hb]at i;generalize N:(60:Int)=Q;have l:(1:Int)<=(if count > 1 then count else 1)/\(if count > 1 then count else 1)<=8/\count<=(if count > 1 then count else 1):=by split<;>omega
  generalize P:(if count > 1 then count else 1)=M at l;have A:aG 4 (e2 bQ (Q2 Q) (eN p9 (aa (Q2 1) (aa (af 3) ag)))) (EB a cell L count most)=Y (.nx (EB a cell L count (Q/M))):=by
   refine aL (m:=.fr) (e2v (x:=(.fr,.int Q)) rfl (y:=(.fr,.int M)) ?_ (gu (by omega))) (by decide) (by show 4<5;decide);rw[← P];rfl
  have x0:0<=Q/M:=Int.ediv_nonneg (by omega) (by omega);have x1:M*(Q/M)<=Q:=Int.mul_ediv_self_le (by omega);have x2:count*(Q/M)<=M*(Q/M):=Wk l.2.2 x0;have x3:1*(Q/M)<=M*(Q/M):=Wk l.1 x0;have D:count.toNat*(Q/M).toNat<=120:=by
   have:((count.toNat*(Q/M).toNat:Nat):Int)=count*(Q/M):=by rw[Int.natCast_mul,X7 d,X7 x0]
   omega
  obtain⟨bk,e,g⟩:=fin (Q/M) x0 (by omega) D;rw[← N]at A e;exact⟨bk,dW rfl ((pre _).trans ((bA ((uc i).trans A)).trans e)),g⟩
 |false =>
  rw[hb]at i;obtain⟨bk,e,g⟩:=fin most m0 (by omega) (by omega);exact⟨bk,dW rfl ((pre _).trans ((bA ((uF i).trans rfl)).trans e)),g⟩
def C0{m:Md}{n:Nat}(e:a U=Y (m,.int (n:Int)))(h:n<100000):dQ a U=Y (.fr,(List.range n).map λ(k:Nat)=>T.int (k:Int)):=by
 rw[iV e (by lia),lA];rfl
end T08
end
section
namespace T08
open VS AU
theorem oO:∀l:List Tx,gq (l.map T.str)=Z
 |[]=>rfl
 |_ :: l=>by
  rw[Zm];show (Z&&gq _)=Z;rw[oO l];rfl
def ka(a:List Tx):bu a=a.flatten.length:=by
 unfold bu;rw[List.length_flatten]
def cB(t:Tx)(l:List Tx):bu (t :: l)=t.length+bu l:=by unfold bu;rw[Zm,X8]
def fN(a b:List Tx):bu (a++b)=bu a+bu b:=by
 unfold bu;rw[Yv,List.sum_append]
theorem k8:∀{l:List Tx},t∈l->t.length<=bu l
 |[],h=>nomatch h
 |a :: l,h=>by
  rw[cB];rcases Zi.mp h with rfl | h
  ·omega
  ·have:=k8 h;omega
theorem jl:∀(l:List Tx)(i:Nat)(w:Tx),i<l.length->bu (l.set i (l.getD i []++w))=bu l+w.length
 |[],_,_,h=>absurd h (XH _)
 |a :: l,0,w,_=>by
  show bu ((a++w) :: l)=_;rw[cB,cB,Zv];omega
 |a :: l,i+1,w,h=>by
  show bu (a :: l.set i (l.getD i []++w))=_;rw[cB,cB,jl l i w (by simpa using h)];omega
structure MK(tx:List Tx)(hd:Wf)(S:St):Prop where
 k:∃nd wd,K (Hd tx) S nd wd/\wd.length<=1+2*bu tx/\∀i,i<tx.length->hd.getD i 0<wd.length/\W wd (hd.getD i 0)=tx.getD i []
 len:hd.length=tx.length
 J0:tx.length<=8
 sum:bu tx<=120
 az:∀t∈tx,∀c∈t,97<=c/\c<=122
def Qq:MK [] [] S0:=⟨⟨NG,[[]],K0.congr λp=>⟨λh=>.inl h,λh=>h.elim id (λ⟨_,z,_⟩=>nomatch z)⟩,by decide,λi h=>absurd h (XH _)⟩,rfl,by decide,by decide,λt h=>nomatch h⟩
def lX{α:Type}(l:List α)(x d:α)(h:i<l.length):(l++[x]).getD i d=l.getD i d:=(bG l x d i).trans (Zp (by omega))
def MK.begin{b:List Tx}(h:MK b f S)(o:b.length<8):MK (b++[[]]) (f++[0]) S:=by
 obtain⟨nd,j,H,l,g⟩:=h.k;have d:bu (b++[[]])=bu b:=by rw[fN];rfl
 refine⟨⟨nd,j,H.congr λp=>?_,by rw[d];exact l,λi m=>?_⟩,by rw[Zv,Zv,h.len];rfl,by rw[Zv,ZM];omega,by rw[d];exact h.sum,λt a=>?_⟩
 ·constructor
  ·rintro (z | ⟨t,a,z⟩)
   ·exact .inl z
   ·exact .inr ⟨t,Z3 _ a,z⟩
  ·rintro (z | ⟨t,a,z⟩)
   ·exact .inl z
   ·rcases Zc.mp a with a | a
    ·exact .inr ⟨t,a,z⟩
    ·rw[Zg.mp a]at z;exact .inl (List.prefix_nil.mp z)
 ·rw[Zv,ZM]at m;by_cases q:i<b.length
  ·rw[lX _ _ _ q,lX _ _ _ (by rw[h.len];exact q)];exact g i q
  ·have e:i=b.length:=by omega
   subst e;rw[bG,Zr h.len.symm,bG,Zr L];exact⟨H.i.lt H.i.z,H.i.wz⟩
 ·rcases Zc.mp a with a | a
  ·exact h.az t a
  ·rw[Zg.mp a];exact λc n=>nomatch n
def getD_mem'{l:List Tx}{i:Nat}(h:i<l.length):l.getD i []∈l:=by
 rw[Zs,Zn h];exact Yz h
def BG{a:List Tx}(g:i<a.length)(p:Tx):(Hd a p\/∃v,v <+: w/\p=a.getD i []++v)↔Hd (a.set i (a.getD i []++w)) p:=by
 have d:a.getD i []++w∈a.set i (a.getD i []++w):=List.mem_set g _;constructor
 ·rintro ((z | ⟨t,b,z⟩) | ⟨v,h,rfl⟩)
  ·exact .inl z
  ·obtain⟨j,f,e⟩:=X3.mp b;by_cases q:i=j
   ·subst q;have:a.getD i []=t:=by rw[Zs,Zn f,e];rfl
    exact .inr ⟨_,d,by rw[this];exact z.trans (Wz _ _)⟩
   ·refine .inr ⟨t,X3.mpr ⟨j,by rw[ZI];exact f,by rw[List.getElem_set_ne q];exact e⟩,z⟩
  ·exact .inr ⟨_,d,(List.prefix_append_right_inj _).mpr h⟩
 ·rintro (z | ⟨t,b,z⟩)
  ·exact .inl (.inl z)
  ·rcases Y3 b with b | rfl
   ·exact .inl (.inr ⟨t,b,z⟩)
   ·by_cases q:p.length<=(a.getD i []).length
    ·exact .inl (.inr ⟨_,getD_mem' g,Wp z (Wz _ _) q⟩)
    ·obtain⟨v,rfl⟩:=Wp (Wz _ _) z (by omega);exact .inr ⟨v,(List.prefix_append_right_inj _).mp z,rfl⟩
def m7{α:Type}(l:List α)(x d:α)(a:i<l.length):(l.set i x).getD j d=if i=j then x else l.getD j d:=by
 rw[fD];by_cases h:i=j
 ·rw[Zr ⟨h,a⟩,Zr h]
 ·rw[Zp (λz=>h z.1),Zp h]
theorem MK.grow(h:MK a d S){i:Nat}{w:Tx}(b:i<a.length)(hw:∀c∈w,97<=c/\c<=122)(s:bu a+w.length<=120) :
  ∃x n,aw (He a d S) [.int (i:Int),.str w]=Y (He (a.set i (a.getD i []++w)) x n,.non)/\MK (a.set i (a.getD i []++w)) x n:=by
 obtain⟨nd,y,H,l,g⟩:=h.k;obtain⟨v,m⟩:=g i b;have N:(a.getD i []).length<=bu a:=k8 (getD_mem' b);have z:Hd a (W y (d.getD i 0)):=by rw[m];exact .inr ⟨_,getD_mem' b,List.prefix_rfl⟩
 obtain⟨n,r,L,J,e,G,E,D,C,R,Q⟩:=H.grow w v z hw (by rw[m];have:=h.sum;omega);have P:=h.sum;have F:i<d.length:=by rw[h.len];exact b
 refine⟨d.set i r,n,yw H.i.wf h.len b h.J0 s (by rw[← H.i.len];omega) (by rw[← H.i.len];exact v) hw (by omega) e,⟨⟨L,J,G.congr λp=>?_,by rw[jl a i w b];omega,λj u=>?_⟩,by rw[ZI,ZI,h.len],by rw[ZI];exact h.J0,by rw[jl a i w b];exact s,λt o=>?_⟩⟩
 ·rw[m];exact BG b p
 ·rw[ZI]at u;rw[m7 d r 0 F,m7 a _ [] b];by_cases q:i=j
  ·rw[Zr q,Zr q];exact⟨E,by rw[D,m]⟩
  ·rw[Zp q,Zp q];obtain⟨B,A⟩:=g j u;exact⟨by omega,(C _ B).trans A⟩
 ·rcases Y3 o with o | rfl
  ·exact h.az t o
  ·intro c f;rcases Zc.mp f with f | f
   ·exact h.az _ (getD_mem' b) c f
   ·exact hw c f
def tbl(S:St):List Row:=((Gh S 1000 [0] 0).map (tab S)).getD []
theorem MK.same(h:MK a d S)(e:MK a g b):tbl S=tbl b:=by
 obtain⟨_,_,H,_⟩:=h.k;obtain⟨_,_,f,_⟩:=e.k;unfold tbl;rw[H.same f 1000]
theorem MK.tab(h:MK a d S)(b:Bool):bh [lp a d S b]=Y (.fr,LA (tbl S)):=by
 obtain⟨nd,n,H,l,_⟩:=h.k;have o:=h.sum;obtain⟨m,e2,_,j,p⟩:=H.met (k:=1000) (by omega);have e:=Bt H.i.wf (by rw[← H.i.len];omega) (k:=1000) (by decide) e2 (λx=>by rw[j,H.i.len]) (by omega);have g:tbl S=AU.tab S (0 :: m):=by unfold tbl;rw[e2];rfl
 refine dW (U:=[pc (lp a d S b)]) L (d7 ?_);have f:aU 6 (af 0) [pc (lp a d S b)]=Y (.pu,Ej S O):=dM (m:=.pu) (t:=lp a d S b) L (DQ a d S b);unfold cu;show ((aU 6 (af 0) [pc (lp a d S b)]).bind _)=_;rw[f];show ((dk [Ej S O]).bind _)=_;rw[e,g];rfl
def zC{m:Md}{l:List Tx}(h:a U=Y (m,.lst (l.map .str)))(b:l.length<=8):eN i8 (aa a ag) U=Y (.fr,.lst (l.map .str)):=iN (xv (r:=ag) h L) (by
 show Hk m (l.map T.str)=_;unfold Hk;rw[Zr (by rw[Zw];show l.length<=16777216;omega),oO];rfl)
def MK.book(h:MK a d S)(b:Bool):bg [lp a d S b]=Y (.fr,.lst (a.map .str)) :=
 dW (U:=[pc (lp a d S b)]) L (d7 (zC (dM (m:=.pu) (t:=lp a d S b) L (pv a d S b)) h.J0))
def iT{i:Nat}{U:Env}{b:Bool}(h:MK a d S)(f:a.length<8)(e:U[i]?=Y (oc (lp a d S b))):aV i [] 1 [] aB ag U=Y ((.fr,.int (a.length:Int)),U.set i (oc (lp (a++[[]]) (d++[0]) S b))):=by
 unfold aV;rw[e];show ((gY 1 [] aB [] (lp a d S b)).map _)=_;have:gY 1 [] aB [] (lp a d S b)=Y (lp (a++[[]]) (d++[0]) S b,(.fr,.int (a.length:Int))):=by
  show (if 2=1+1/\eI (He a d S)=Z/\argsOk [] []=Z/\cS (trees [])=Z then (aB (He a d S) (trees [])).bind λz=>if eI z.1=Z/\Et z.2=Z then Y (T.obj 2 ((0,.bl b) :: z.1),(Md.fr,z.2)) else M else M)=_;rw[Zr ⟨rfl,jy a d S,rfl,rfl⟩,show trees []=[] from rfl,ux f h.len,Zy,Zr ⟨jy _ _ _,rfl⟩];rfl
 rw[this];rfl
def lO{i:Nat}(e:aw (He a d S) [.int (i:Int),.str w]=Y (He g h f,.non)):gY 1 [O,O] aw [(.fr,.int (i:Int)),(.fr,.str w)] (lp a d S b)=Y (lp g h f b,(.fr,.non)):=by
 show (if 2=1+1/\eI (He a d S)=Z/\argsOk [O,O] [(Md.fr,T.int (i:Int)),(Md.fr,T.str w)]=Z/\cS (trees [(Md.fr,T.int (i:Int)),(Md.fr,T.str w)])=Z then (aw (He a d S) (trees [(Md.fr,T.int (i:Int)),(Md.fr,T.str w)])).bind λz=>if eI z.1=Z/\Et z.2=Z then Y (T.obj 2 ((0,.bl b) :: z.1),(Md.fr,z.2)) else M else M)=_;rw[Zr ⟨rfl,jy a d S,rfl,rfl⟩,show trees [(Md.fr,T.int (i:Int)),(Md.fr,T.str w)]=[T.int (i:Int),T.str w] from rfl,e,Zy,Zr ⟨jy _ _ _,rfl⟩];rfl
def mW{j:Nat}{U:Env}{b:Bool}{i:Nat}{w:Tx}{e1 e2:Ex}(e:aw (He a d S) [.int (i:Int),.str w]=Y (He g l f,.non))(h:U[j]?=Y (oc (lp a d S b)))(o:e1 U=Y (.fr,.int (i:Int)))(n:e2 U=Y (.fr,.str w)) :
  aV j [] 1 [O,O] aw (aa e1 (aa e2 ag)) U=Y ((.fr,.non),U.set j (oc (lp g l f b))):=by
 unfold aV;rw[h];show ((aa e1 (aa e2 ag) U).bind λm=>(pm (gY 1 [O,O] aw m) [] (lp a d S b)).map _)=_;rw[xv o (xv (r:=ag) n L),Zy];show ((gY 1 [O,O] aw [(.fr,.int (i:Int)),(.fr,.str w)] (lp a d S b)).map _)=_;rw[lO e];rfl
def uy{α:Type}(l:List α)(x d:α):(l++[x]).getD l.length d=x:=(bG l x d l.length).trans (Zr L)
def yI{α:Type}(l:List α)(x y:α):(l++[x]).set l.length y=l++[y]:=by
 rw[List.set_append_right _ _ (Zj _),Nat.sub_self];rfl
def rY{t:Tx}{tx:List Tx}{B:T}(h:MK tx a S)(f:tx.length<8)(m:bu tx+t.length<=120)(l:∀c∈t,97<=c/\c<=122) :
  ∃e d,bc [oc (lp tx a S Z),pc B,Q1 t]=Y (.nx [oc (lp (tx++[t]) e d Z),pc B,Q1 t])/\MK (tx++[t]) e d:=by
 have hb:=h.begin f;have j:bu (tx++[[]])=bu tx:=by rw[fN];rfl
 obtain⟨e,d,g,hg⟩:=hb.grow (i:=tx.length) (w:=t) (by rw[Zv];exact Yt _) l (by rw[j];omega);rw[uy,yI,Y6]at g hg;refine⟨e,d,?_,hg⟩;have x1:=iT (i:=0) (U:=[oc (lp tx a S Z),pc B,Q1 t]) (b:=Z) h f L;have x2:md 0 1 [O,O] aw (aV 0 [] 1 [] aB ag) (aa (af 2) ag) [oc (lp tx a S Z),pc B,Q1 t]=Y ((.fr,.non),[oc (lp (tx++[t]) e d Z),pc B,Q1 t]):=by
  unfold md;rw[Zr (show mw 1 [oc (lp tx a S Z),pc B,pc (T.str t)][0]?=Z from rfl),x1,Zy,Zr (show Et (T.int (tx.length:Int))=Z from rfl)];show ((gY 1 [O,O] aw [(Md.fr,T.int (tx.length:Int)),(Md.fr,T.str t)] (lp (tx++[[]]) (a++[0]) S Z)).map _)=_;rw[lO g];rfl
 unfold bc JB;rw[x2];rfl
def BZ:∀(rest:List Tx){tx:List Tx}{hd:Wf}{S:St}{B:T}{z:Wb},MK tx hd S->tx.length+rest.length<=8->bu tx+bu rest<=120->(∀t∈rest,∀c∈t,97<=c/\c<=122) →
  ∃b a d,forL (df 2) bc (rest.map .str) [oc (lp tx hd S Z),pc B,z]=Y (.nx [oc (lp (tx++rest) b a Z),pc B,d])/\MK (tx++rest) b a:=by
 intro rest
 induction rest with
 |nil =>
  intro tx hd S B z h _ _ _;exact⟨hd,S,z,by rw[Zd];rfl,by rw[Zd];exact h⟩
 |cons t rest i =>
  intro tx hd S B z h m l g;rw[ZU]at m;rw[cB]at l;obtain⟨o,n,e,hg⟩:=rY (B:=B) h (by omega) (by omega) (g t Zu);obtain⟨b,a,d,q,f⟩:=i (tx:=tx++[t]) (B:=B) (z:=Q1 t) hg (by rw[Zv,ZM];omega) (by rw[fN,show bu [t]=t.length from by rw[cB];rfl];omega) (λu j=>g u (Zt _ j));refine⟨b,a,d,?_,by rw[ZA]at f;exact f⟩;rw[Zm];exact(jm (U1:=[oc (lp tx hd S Z),pc B,Q1 t]) L e).trans (q.trans (by rw[ZA];rfl))
def sJ{bk:List Tx}(g:bk.length<=8)(j:bu bk<=120)(h:∀t∈bk,∀c∈t,97<=c/\c<=122){arg:Ex}{U:Env}{m:Md}(e:arg U=Y (m,.lst (bk.map .str))):∃hd S,eNew 1 aW (aa arg ag) U=Y (.fr,lp bk hd S O)/\MK bk hd S:=by
 obtain⟨hd,S,z,q,d⟩:=BZ bk (tx:=[]) (hd:=[]) (S:=S0) (B:=.lst (bk.map .str)) (z:=M) Qq (by rw[XF,Xm];exact g) (by show 0+bu bk<=120;omega) h;rw[Y6]at q d;refine⟨hd,S,?_,d⟩;have im:aW [] [.lst (bk.map .str)]=Y (He bk hd S,.non):=by
  unfold aW GI;rw[Zr ⟨rfl,rfl⟩];have f:=(js (tg:=df 2) (it:=km (af 1)) (body:=bc) (U:=[oc (lp [] [] S0 Z),pc (.lst (bk.map .str)),M]) (m:=.pu) (l:=bk.map .str) L L).trans q;have body:=(bA (a:=fi 0 4 (cq ag)) (b:=ar (fi 0 5 (cq ag)) (ar (fi 0 6 (eNew 0 bL ag)) (FK (fC (af 1)) (kL (df 2) (km (af 1)) bc) dG))) (U:=[oc (.obj 2 [(0,.bl Z)]),pc (.lst (bk.map .str)),M]) (U1:=[oc (.obj 2 [(0,.bl Z),(4,.lst [])]),pc (.lst (bk.map .str)),M]) L).trans
   ((bA (U1:=[oc (.obj 2 [(0,.bl Z),(4,.lst []),(5,.lst [])]),pc (.lst (bk.map .str)),M]) L).trans ((bA (U1:=[oc (lp [] [] S0 Z),pc (.lst (bk.map .str)),M]) L).trans ((uc (m:=.fr) L).trans f)))
  exact congrArg (λz:Option Out=>z.bind _) body
 unfold eNew;rw[xv (r:=ag) e L,Zy];have i:cS (trees [(m,T.lst (bk.map .str))])=Z:=by
  show (cS (bk.map T.str)&&Z)=Z;rw[dF _ (λ_=>rfl)];rfl
 rw[Zr i,show trees [(m,T.lst (bk.map .str))]=[T.lst (bk.map .str)] from rfl,im,Zy,Zr ⟨jy _ _ _,rfl⟩];rfl
noncomputable abbrev LO:PySem.Str := "NoText"
noncomputable abbrev Lm:PySem.Str := "TooMany"
def nL(h:gH [t]=Y (.fr,.bl O)):aE [.lst l,t]=Y (.ex LO) :=
 lW (U:=[pc (.lst l),pc t]) L ((pf (m:=.fr) (sC (m:=.fr) (x:=Z) (fH (m:=.fr) (b:=O) (cf (xv (r:=ag) (x:=up .pu t) L L) h)) (λz=>nomatch z) λ_=>rfl)).trans L)
def lL{l:W3}{i:Int}(h:i<0\/(l.length:Int)<=i):aE [.lst l,.int i]=Y (.ex LO):=by
 refine lW (U:=[pc (.lst l),Q0 i]) L ((pf (m:=.fr) (sC (m:=.fr) (x:=O) (fH (m:=.fr) (b:=Z) L) (λ_=>fH (m:=.fr) (b:=O) ?_) λz=>nomatch z)).trans L);by_cases a:i<0
 ·refine zt (x:=(.fr,.int 0)) (y:=(.fr,.int i)) L L ?_;show Y (Md.fr,T.bl (decide ((0:Int)<=i)))=_;rw[Zb (by omega)]
 ·refine rS (x:=(.fr,.int 0)) (y:=(.fr,.int i)) (z:=(.fr,.int (l.length:Int))) L L ?_ (iN (xv (x:=(.pu,.lst l)) L L) L) ?_
  ·show Y (Md.fr,T.bl (decide ((0:Int)<=i)))=_;rw[decide_eq_true (by omega)]
  ·show Y (Md.fr,T.bl (decide (i<(l.length:Int))))=_;rw[Zb (by omega)]
section
def so(U:Env)(h:U[0]?=Y (pc (lp tx hd S b))):e2 KG (eN cp (aa (aU 4 (af 0)) ag)) (Q2 8) U=Y (.fr,.bl (decide (8<=tx.length))):=by
 have v:af 0 U=Y (.pu,lp tx hd S b):=by
  unfold af;rw[h];rfl
 refine e2v (qz (hd:=hd) (S:=S) (b:=b) v) (y:=(.fr,.int 8)) L ?_;show Y (Md.fr,T.bl (decide ((8:Int)<=(tx.length:Int))))=_;rw[show decide ((8:Int)<=(tx.length:Int))=decide (8<=tx.length) from decide_eq_decide.mpr (by omega)]
def zZ{tx:List Tx}(h:8<=tx.length):bB [lp tx hd S b]=Y (.ex Lm):=lW (U:=[pc (lp tx hd S b)]) L (uR ((pf (m:=.fr) ((so (hd:=hd) (S:=S) (b:=b) _ L).trans (by rw[decide_eq_true h]))).trans L))
def vh{a:W3}(h:c (a.map (λt=>Y (.pu t))++List.replicate (e-d) M)=M):Iq d e c a=M:=by
 unfold Iq;split
 ·rw[h];rfl
 ·rfl
def CZ{tx:List Tx}(h:tx.length<8):bB [lp tx hd S b]=M:=vh ((mZ ((vS (m:=.fr) ((so (hd:=hd) (S:=S) (b:=b) _ L).trans (by rw[Zb (by omega)]))).trans (sQ L))).trans L)
def DF{tx:List Tx}(h:aE [.lst (tx.map .str),t]=Y (.ex LO)):aR [lp tx hd S b,t,.str w]=Y (.ex LO) :=
 lW (U:=[pc (lp tx hd S b),pc t,Q1 w]) L (uR (oR (vn (xv (dM (m:=.pu) (t:=lp tx hd S b) L (pv tx hd S b)) (xv (r:=ag) (x:=up .pu t) L L)) h)))
def rZ{tx:List Tx}(d:i<tx.length)(f:tx.length<=8)(r:EV):(iU (IW (λc=>sX (xP c)) (ip aE (aa (aU 4 (af 0)) (aa (af 1) ag)))) r) [pc (lp tx hd S b),Q0 (i:Int),Q1 w]=r [pc (lp tx hd S b),Q0 (i:Int),Q1 w]:=by
 have e:=uN (g:=aE) (xv (U:=[pc (lp tx hd S b),Q0 (i:Int),Q1 w]) (dM (a:=af 0) (m:=.pu) (t:=lp tx hd S b) L (pv tx hd S b)) (xv (a:=af 1) (r:=ag) (x:=(.fr,.int (i:Int))) L L)) (zD (l:=tx.map .str) (i:=i) (by rw[Zw];exact d));refine mZ (Dd e ?_);show ((KC _ _).map _).map _=_;rw[Dz e];rfl
def rL{tx:List Tx}{i:Nat}(a:tx.length<=8):e2 KD (e2 bE (bq c4 (aa (aU 4 (af 0)) ag)) (eN cp (aa (af 2) ag))) (Q2 120) [pc (lp tx hd S b),Q0 (i:Int),Q1 w]=Y (.fr,.bl (decide (120<bu tx+w.length))):=by
 refine e2v (e2v (cf (xv (r:=ag) (dM (m:=.pu) (t:=lp tx hd S b) L (pv tx hd S b)) L) (qk tx (by omega))) (iN (v:=(.fr,.int (w.length:Int))) (xv (r:=ag) (x:=(.fr,.str w)) L L) L) L) (y:=(.fr,.int 120)) L ?_;show Y (Md.fr,T.bl (decide ((120:Int)<(bu tx:Int)+(w.length:Int))))=_;rw[show decide ((120:Int)<(bu tx:Int)+(w.length:Int))=decide (120<bu tx+w.length) from decide_eq_decide.mpr (by omega)]
def wK{tx:List Tx}{i:Nat}(d:i<tx.length){w:Tx}(a:tx.length<=8)(h:120<bu tx+w.length):aR [lp tx hd S b,.int (i:Int),.str w]=Y (.ex Lm) :=
 lW (U:=[pc (lp tx hd S b),Q0 (i:Int),Q1 w]) L ((rZ d a _).trans (uR ((pf (m:=.fr) ((rL a).trans (by rw[decide_eq_true h]))).trans L)))
def zf{tx:List Tx}(d:i<tx.length){w:Tx}(a:tx.length<=8)(h:bu tx+w.length<=120):aR [lp tx hd S b,.int (i:Int),.str w]=M :=
 vh ((rZ d a _).trans ((mZ ((vS (m:=.fr) ((rL a).trans (by rw[Zb (by omega)]))).trans (sQ L))).trans L))
def uP{m:Md}{xs:Wa}{x:PySem.Str}(e:d U=Y (m,lp tx hd S b))(h:a U=Y xs)(f:g (lp tx hd S b :: trees xs)=Y (.ex x)):d6 1 g d a U=Y (.ex x):=by
 unfold d6;rw[e,Zy];show (if 1=1 then (a U).bind _ else M)=_;rw[Zr L,h,Zy,show g (T.obj (1+1) ((0,T.bl b) :: He tx hd S) :: trees xs)=_ from f];rfl
def yS{tx:List Tx}(h:8<=tx.length):fU [lp tx hd S b]=Y (.fr,.bl Z):=by
 refine dW (U:=[pc (lp tx hd S b),pc (.lst [.bl O,.bl Z,.bl Z,.bl O]),M]) L (sq (U1:=[pc (lp tx hd S b),pc (.lst []),M]) L (sq (U1:=[pc (lp tx hd S b),pc (.lst [.bl O,.bl Z,.bl Z,.bl O]),M]) ?_ L));unfold n5;rw[oR (uP (tx:=tx) (hd:=hd) (S:=S) (b:=b) (m:=.pu) (xs:=[]) L L (zZ h)),Zy];rfl
def nJ{w:Tx}{x:PySem.Str}(h:aR [lp tx hd S b,t,.str w]=Y (.ex x))(d:(x=LO/\a=[116,101,120,116])\/(x=Lm/\a=[109,97,110,121])):dE [lp tx hd S b,t,.str w,.str a]=Y (.fr,.bl Z):=by
 have g:d6 1 aR (af 0) (aa (af 1) (aa (af 2) ag)) [pc (lp tx hd S b),pc t,Q1 w,Q1 a,pc (.lst []),M]=Y (.ex x):=uP (tx:=tx) (hd:=hd) (S:=S) (b:=b) (m:=.pu) L (xv (x:=up .pu t) L (xv (r:=ag) (x:=(.fr,.str w)) L L)) h;rcases d with⟨rfl,rfl⟩ | ⟨rfl,rfl⟩
 ·refine dW (U:=[pc (lp tx hd S b),pc t,Q1 w,Q1 ([116,101,120,116]),pc (.lst [.bl Z,.bl O,.bl Z,.bl O]),M]) L (sq (U1:=[pc (lp tx hd S b),pc t,Q1 w,Q1 ([116,101,120,116]),pc (.lst []),M]) L (sq (U1:=[pc (lp tx hd S b),pc t,Q1 w,Q1 ([116,101,120,116]),pc (.lst [.bl Z,.bl O,.bl Z,.bl O]),M]) ?_ L));unfold n5;rw[oR g,Zy];rfl
 ·refine dW (U:=[pc (lp tx hd S b),pc t,Q1 w,Q1 ([109,97,110,121]),pc (.lst [.bl O,.bl Z,.bl Z,.bl O]),M]) L (sq (U1:=[pc (lp tx hd S b),pc t,Q1 w,Q1 ([109,97,110,121]),pc (.lst []),M]) L (sq (U1:=[pc (lp tx hd S b),pc t,Q1 w,Q1 ([109,97,110,121]),pc (.lst [.bl O,.bl Z,.bl Z,.bl O]),M]) ?_ L));unfold n5;rw[oR g,Zy];rfl
end
section
def CW{m:Md}{xs:Wa}(e:d U=Y (m,lp tx hd S b))(h:a U=Y xs)(f:g (lp tx hd S b :: trees xs)=M):d6 1 g d a U=M:=by
 unfold d6;rw[e,Zy];show (if 1=1 then (a U).bind _ else M)=_;rw[Zr L,h,Zy,show g (T.obj (1+1) ((0,T.bl b) :: He tx hd S) :: trees xs)=_ from f];rfl
def Ck(h:a U=Y o):J8 a c U=Y o:=by
 unfold J8;rw[h]
def BI(h:a U=M):J8 a c U=c U:=by
 unfold J8;rw[h]
def p5{U1 U2:Env}(d:g t U=Y U1)(a:c U1=Y (.ex x U2)):fT g c (t :: r) U=Y (.ex x U2):=by
 unfold fT;rw[d,Zy,a];rfl
def wk{U1:Env}(e:g t U=Y U1)(d:c U1=Y (.ok (.nx a))):fT g c (t :: r) U=fT g c r a:=by
 rw[fT,e,Zy,d];rfl
def zM(h:MK tx hd S)(a:tx.length<8):mf 0 1 (aV 0 [] 1 [] aB ag) aR (aa (af 2) ag) [oc (lp tx hd S Z),pc B,Q1 t] =
  (aR [lp (tx++[[]]) (hd++[0]) S Z,.int (tx.length:Int),.str t]).bind λr=>match r with
   |.ex x=>Y (.ex x [oc (lp (tx++[[]]) (hd++[0]) S Z),pc B,Q1 t])
   |.ok _=>M:=by
 unfold mf;rw[Zr (show mw 1 [oc (lp tx hd S Z),pc B,pc (T.str t)][0]?=Z from rfl),iT (i:=0) (U:=[oc (lp tx hd S Z),pc B,Q1 t]) (b:=Z) h a L,Zy,Zr (show Et (T.int (tx.length:Int))=Z from rfl)];rfl
end
def A9:∀(rest:List Tx){tx:List Tx}{hd:Wf}{S:St}{B:T}{z:Wb},MK tx hd S->8<tx.length+rest.length\/120<bu tx+bu rest->(∀t∈rest,∀c∈t,97<=c/\c<=122) →
  ∃f,fT (df 2) cM (rest.map .str) [oc (lp tx hd S Z),pc B,z]=Y (.ex Lm f):=by
 intro rest
 induction rest with
 |nil =>
  intro tx hd S B z h d _;have s:=h.J0;have r:=h.sum;rw[show ([]:List Tx).length=0 from rfl,show bu []=0 from rfl]at d;omega
 |cons t rest o =>
  intro tx hd S B z h d n;rw[ZU,cB]at d;rw[Zm];have J0:=h.J0;have g:bu (tx++[[]])=bu tx:=by rw[fN];rfl
  by_cases a:tx.length<8
  ·have na:kc 0 1 (d6 1 bB (af 0) ag) [oc (lp tx hd S Z),pc B,Q1 t]=M:=by
    unfold kc;rw[Zr (show mw 1 [oc (lp tx hd S Z),pc B,pc (T.str t)][0]?=Z from rfl),CW (tx:=tx) (hd:=hd) (S:=S) (b:=Z) (m:=.bo) (xs:=[]) L L (CZ a)];rfl
   have j:tx.length<(tx++[[]]).length:=by rw[Zv];exact Yt _
   have i:(tx++[[]]).length<=8:=by rw[Zv,ZM];omega
   by_cases l:120<bu tx+t.length
   ·exact⟨_,p5 (U1:=[oc (lp tx hd S Z),pc B,Q1 t]) L ((BI na).trans (Ck ((zM h a).trans (by rw[wK j i (by rw[g];exact l)];rfl))))⟩
   ·obtain⟨w,v,e,hg⟩:=rY (B:=B) h a (ZQ l) (n t Zu);obtain⟨f,q⟩:=o (tx:=tx++[t]) (B:=B) (z:=Q1 t) hg (by rw[Zv,ZM,fN,show bu [t]=t.length from by rw[cB];rfl];omega) (λu p=>n u (Zt _ p));exact⟨f,(wk (U1:=[oc (lp tx hd S Z),pc B,Q1 t]) L ((BI na).trans ((BI ((zM h a).trans (by rw[zf j i (by rw[g];omega)];rfl))).trans (sQ e)))).trans q⟩
  ·refine⟨_,p5 (U1:=[oc (lp tx hd S Z),pc B,Q1 t]) (U2:=[oc (lp tx hd S Z),pc B,Q1 t]) L (Ck ?_)⟩;unfold kc;rw[Zr (show mw 1 [oc (lp tx hd S Z),pc B,pc (T.str t)][0]?=Z from rfl),uP (tx:=tx) (hd:=hd) (S:=S) (b:=Z) (m:=.bo) (xs:=[]) L L (zZ (ZQ a))];rfl
def x6{a:List Tx}(h:8<a.length\/120<bu a)(b:∀t∈a,∀c∈t,97<=c/\c<=122):bK [] [.lst (a.map .str)]=Y Lm:=by
 obtain⟨d,q⟩:=A9 a (tx:=[]) (hd:=[]) (S:=S0) (B:=.lst (a.map .str)) (z:=M) Qq (by rw[XF,Xm,show bu []=0 from rfl,Xm];exact h) b;unfold bK ui;rw[Zr ⟨rfl,rfl⟩];have body:(iU (sL (fi 0 4 (cq ag))) (iU (sL (fi 0 5 (cq ag))) (iU (sL (fi 0 6 (eNew 0 bL ag))) (J9 (fC (af 1)) (yE (df 2) (km (af 1)) cM) (sL dG))))) [oc (.obj 2 [(0,.bl Z)]),pc (.lst (a.map .str)),M]=Y (.ex Lm d):=by
  refine(mZ (U1:=[oc (.obj 2 [(0,.bl Z),(4,.lst [])]),pc (.lst (a.map .str)),M]) L).trans ((mZ (U1:=[oc (.obj 2 [(0,.bl Z),(4,.lst []),(5,.lst [])]),pc (.lst (a.map .str)),M]) L).trans ((mZ (U1:=[oc (lp [] [] S0 Z),pc (.lst (a.map .str)),M]) L).trans ((pf (m:=.fr) L).trans ?_)));exact q
 exact congrArg (λz:Option IH=>z.bind _) body
def uZ{a:List Tx}(h:8<a.length\/120<bu a)(b:∀t∈a,∀c∈t,97<=c/\c<=122):fL [.lst (a.map .str)]=Y (.fr,.bl Z):=by
 have g:sG 1 bK (aa (af 0) ag) [pc (.lst (a.map .str)),pc (.lst []),M]=Y (.ex Lm):=by
  unfold sG;rw[xv (r:=ag) (x:=(.pu,.lst (a.map .str))) L L,Zy];have d:cS (trees [(Md.pu,T.lst (a.map .str))])=Z:=by
   show (cS (a.map T.str)&&Z)=Z;rw[dF _ (λ_=>rfl)];rfl
  rw[Zr d,show trees [(Md.pu,T.lst (a.map .str))]=[T.lst (a.map .str)] from rfl,x6 h b];rfl
 refine dW (U:=[pc (.lst (a.map .str)),pc (.lst [.bl O,.bl Z,.bl Z,.bl O]),M]) L (sq (U1:=[pc (.lst (a.map .str)),pc (.lst []),M]) L (sq (U1:=[pc (.lst (a.map .str)),pc (.lst [.bl O,.bl Z,.bl Z,.bl O]),M]) ?_ L));unfold n5;rw[oR g,Zy];rfl
def ic(l:List Tx):Ff 60 (.lst (l.map .str))=Z:=by
 show (l.map T.str).all (Ff 59)=Z;rw[ZE];intro x a;obtain⟨t,_,rfl⟩:=Ym.mp a;rfl
def zi(r:Row):Ff 59 (qT r)=Z:=by
 have d:Ff 58 (EK r.2.2.1)=Z:=by cases r.2.2.1<;>rfl
 have b:Ff 58 (Jb r.2.2.2)=Z:=by
  show (r.2.2.2.map λp=>T.tup [.str [p.1],.int (p.2:Int)]).all (Ff 57)=Z;rw[ZE];intro x a;obtain⟨p,_,rfl⟩:=Ym.mp a;rfl
 show (Z&&(Z&&(Ff 58 (EK r.2.2.1)&&(Ff 58 (Jb r.2.2.2)&&Z))))=Z;rw[d,b];rfl
def nR(t:List Row):Ff 60 (LA t)=Z:=by
 show (t.map qT).all (Ff 59)=Z;rw[ZE];intro x a;obtain⟨r,_,rfl⟩:=Ym.mp a;exact zi r
def fQ{U:Env}{m:Md}{b:Bool}(h:e U=Y (m,lp a d S b))(f:g [lp a d S b]=Y (.fr,t)):cu 1 g e ag U=Y (.fr,t):=by
 unfold cu;rw[h];show ((g [lp a d S b]).bind _)=_;rw[f];rfl
def nA{e:Ex}{U:Env}{m:Md}{c:Nat}{j:Int}(h:e U=Y (m,.int j))(d:0<=j)(b:j<=200):e2 g5 (eC (.str [c])) e U=Y (.fr,.str (List.replicate j.toNat c)):=by
 refine e2v (x:=(.fr,.str [c])) L h ((Zr ⟨by show 1*j.toNat<=16777216;omega,by unfold Iv;omega,by unfold Iv;omega⟩).trans ?_);have:∀n,(List.replicate n [c]).flatten=List.replicate n c:=λn=>by
  induction n with
  |zero=>rfl
  |succ n a=>rw[Z7,ZZ,a];rfl
 rw[this]
def ve{α:Type}(l:List α)(k:Nat):cut l M (Y (k:Int))=l.take k:=by
 have a:clip l.length (k:Int)=min k l.length:=by
  unfold clip;rw[Zp (by omega),Yk]
 show (l.drop 0).take (clip l.length (k:Int)-0)=_;rw[a,X4,Nat.sub_zero,← List.take_eq_take_min]
def Cw{x:Val}{l h:Option Int}(e:a U=Y x)(g:ng b U=Y l)(f:ng d U=Y h)(q:Oz x l h=v):IU a b d U=v:=by
 unfold IU;rw[e,Zy,g,Zy,f,Zy];exact q
def nX{U:Env}{m:Md}{l:List Tx}{k:Nat}(b:a U=Y (m,.lst (l.map .str)))(h:l.length<=1000):IU a M (Y (Q2 (k:Int))) U=Y (.fr,.lst ((l.take k).map .str)):=by
 refine Cw (l:=M) (h:=Y (k:Int)) b L L ?_;show Hk m (cut (l.map T.str) M (Y (k:Int)))=_;rw[ve,← List.map_take,og (by rw[Zw];have:=List.length_take_le' k l;omega),oO];rfl
def zP{U:Env}{a:Ex}{m:Md}{l:List Tx}(h:a U=Y (m,.lst (l.map .str))):eN cp (aa a ag) U=Y (.fr,.int (l.length:Int)):=iN (xv (r:=ag) h L) (by
 show Y (Md.fr,T.int (((l.map T.str).length:Nat):Int))=_;rw[Zw])
def vd{m:Md}{l:List Tx}(h:a U=Y (m,.lst (l.map .str)))(d:l.flatten.length<=1000):eN cp (aa (eM gS (eC (.str [])) (aa a ag)) ag) U=Y (.fr,.int (l.flatten.length:Int)):=by
 have e:=strs_map id l;rw[List.map_id]at e;have j:eM gS (eC (.str [])) (aa a ag) U=Y (.fr,.str l.flatten):=by
  show ((Y ((Md.fr,T.str []):Val)).bind λx=>(aa a ag U).bind λb=>gS x b)=_;rw[Zy,xv (r:=ag) h L,Zy];exact nc e (by omega)
 exact iN (xv (r:=ag) j L) L
def yi{l:W3}{n:Md}{i:Int}(d:0<=i)(b:i<l.length):∃t∈l,aT (.fr,.lst l) (n,.int i)=Y (.fr,t):=by
 have a:i.toNat<l.length:=by omega
 refine⟨l[i.toNat],Yz a,?_⟩;show (Gc l.length i).bind _=_;rw[wV d b,Zy,Zn a];show Y (up .fr _)=_;unfold up;split<;>rfl
def pick{a e:Ex}{U:Env}{n:Md}{l:W3}{x d:Int}(h:a U=Y (.fr,.lst l))(he:e U=Y (n,.int x))(j:d=l.length)(f:0<d):∃t∈l,e2 aT a (e2 oMod e (Q2 d)) U=Y (.fr,t):=by
 have i:=Yc x (b:=d) (by omega);have m:=Yl x f;obtain⟨t,g,e1⟩:=yi (l:=l) (n:=.fr) i (by omega);exact⟨t,g,e2v h (e2v he (y:=(.fr,.int d)) L (dI f)) e1⟩
def fd{m:Md}{x d:Int}(he:e U=Y (m,.int x))(h:0<d/\d<1073741824):e2 bQ e (Q2 d) U=Y (.fr,.int (x/d)):=e2v he (y:=(.fr,.int d)) L (gu h)
abbrev EL(j:We)(l:List Tx)(M:T)(L:Nat)(i:List Row)(h g f e d b a:Wb):Env:=[pc (.scr j),pc (.lst (l.map .str)),oc M,Q0 (L:Int),pc (LA i),h,g,f,e,d,b,a]
section
def yr{bk:List Tx}(d:bk.length<=8)(t:T)(a:t∈[T.int (bk.length:Int),.int (-1),.bl Z,.non,.str [48],.int (10 ^ 30),.int (-10 ^ 30),.lst [.int 0],.int ((bk.length:Int)+1)]):aE [.lst (bk.map .str),t]=Y (.ex LO):=by
 have b:(bk.map T.str).length=bk.length:=Zw _;rcases Zi.mp a with rfl | a
 ·exact lL (.inr (by rw[b];exact Int.le_refl _))
 rcases Zi.mp a with rfl | a
 ·exact lL (.inl (by decide))
 rcases Zi.mp a with rfl | a
 ·exact nL L
 rcases Zi.mp a with rfl | a
 ·exact nL L
 rcases Zi.mp a with rfl | a
 ·exact nL L
 rcases Zi.mp a with rfl | a
 ·exact lL (.inr (by rw[b];exact Int.le_trans (show (bk.length:Int)<=8 by omega) (by decide)))
 rcases Zi.mp a with rfl | a
 ·exact lL (.inl (by decide))
 rcases Zi.mp a with rfl | a
 ·exact nL L
 ·rw[Zg.mp a];exact lL (.inr (by rw[b];omega))
def turn(h:MK bk hd S)(k:Nat)(hk:k<12)(L:Nat)(hL:L+bu bk=120)(F D q p o f:Wb):∃A v u s,iC (EL ns bk (lp bk hd S O) L tb (Q0 (k:Int)) F D q p o f)=Y (.nx (EL ns bk (lp bk hd S O) L tb (Q0 (k:Int)) A v u s o f)):=by
 have E:=h.J0;obtain⟨c,J⟩:∃c,c=cellAt ns (12+k)+15485863*(k:Int):=⟨_,rfl⟩
 have C:∀{A v u s:Wb},eN cp (aa (af 1) ag) (EL ns bk (lp bk hd S O) L tb (Q0 (k:Int)) A v u s o f)=Y (.fr,.int (bk.length:Int)):=λ{A v u s}=>zP (m:=.pu) rfl;obtain⟨num,H,B⟩:=pick (a:=cq (aa (eN cp (aa (af 1) ag)) (aa (Q2 (-1)) (aa (eC (.bl Z)) (aa (eC .non) (aa (eC (.str [48])) (aa (e2 tR (Q2 10) (Q2 30)) (aa (e1 xR (e2 tR (Q2 10) (Q2 30))) (aa (cq (aa (Q2 0) ag)) (aa (e2 bE (eN cp (aa (af 1) ag)) (Q2 1)) ag)))))))))) (U:=EL ns bk (lp bk hd S O) L tb (Q0 (k:Int)) (Q0 c) D q p o f) (e:=af 6) (n:=.fr) (x:=c) (d:=9) (l:=[T.int (bk.length:Int),.int (-1),.bl Z,.non,.str [48],.int (10 ^ 30),.int (-10 ^ 30),.lst [.int 0],.int ((bk.length:Int)+1)]) (by
  unfold cq;rw[xv C (xv (x:=(.fr,.int (-1))) rfl (xv (x:=(.fr,.bl Z)) rfl (xv (x:=(.fr,.non)) rfl (xv (x:=(.fr,.str [48])) rfl (xv (x:=(.fr,.int (10 ^ 30))) rfl (xv (x:=(.fr,.int (-10 ^ 30))) rfl (xv (x:=(.fr,.lst [.int 0])) rfl (xv (r:=ag) (x:=(.fr,.int ((bk.length:Int)+1))) (e2v C (y:=(.fr,.int 1)) rfl rfl) rfl)))))))),Zy];rfl) rfl rfl (by decide)
 obtain⟨w,N⟩:∃w:Tx,e2 aT (cq (aa (eC (.str [])) (aa (eC (.str [97])) (aa (e2 g5 (eC (.str [98])) (e2 bE (af 3) (Q2 1))) (aa (eC (.str [97,98])) ag))))) (e2 oMod (e2 bQ (af 6) (Q2 9)) (Q2 4)) (EL ns bk (lp bk hd S O) L tb (Q0 (k:Int)) (Q0 c) (pc num) q p o f)=Y (.fr,.str w):=by
  have r:=nA (U:=EL ns bk (lp bk hd S O) L tb (Q0 (k:Int)) (Q0 c) (pc num) q p o f) (c:=98) (e:=e2 bE (af 3) (Q2 1)) (m:=.fr) (j:=(L:Int)+1) rfl (by omega) (by omega);obtain⟨t,G,e⟩:=pick (a:=cq (aa (eC (.str [])) (aa (eC (.str [97])) (aa (e2 g5 (eC (.str [98])) (e2 bE (af 3) (Q2 1))) (aa (eC (.str [97,98])) ag))))) (U:=EL ns bk (lp bk hd S O) L tb (Q0 (k:Int)) (Q0 c) (pc num) q p o f) (e:=e2 bQ (af 6) (Q2 9)) (n:=.fr) (x:=c/9) (d:=4) (l:=([[],[97],List.replicate ((L:Int)+1).toNat 98,[97,98]]:List Tx).map .str)
   (vp [[],[97],List.replicate ((L:Int)+1).toNat 98,[97,98]] (xv (x:=(.fr,.str [])) rfl (xv (x:=(.fr,.str [97])) rfl (xv r (xv (r:=ag) (x:=(.fr,.str [97,98])) rfl rfl)))) (by show 4<=_;decide)) (fd (m:=.fr) rfl (by decide)) rfl (by decide)
  obtain⟨w,_,rfl⟩:=Ym.mp G;exact⟨w,e⟩
 have b0:=Yc (c/300) (b:=30) (by decide);have b1:=Yl (c/300) (b:=30) (by decide);obtain⟨g,hg,P⟩:∃g:Tx,L<g.length/\IU (e2 g5 (eC (.str [97,98,122])) (Q2 60)) M (Y (e2 bE (e2 bE (af 3) (Q2 1)) (e2 oMod (e2 bQ (af 6) (Q2 300)) (Q2 30)))) (EL ns bk (lp bk hd S O) L tb (Q0 (k:Int)) (Q0 c) (pc num) (Q1 w) p o f)=Y (.fr,.str g):=by
  obtain⟨n,B⟩:∃n:Nat,c/300%30=(n:Int):=⟨(c/300%30).toNat,by omega⟩
  refine⟨((List.replicate 60 ([97,98,122]:Tx)).flatten).take (L+1+n),?_,Cw (x:=(.fr,.str (List.replicate 60 ([97,98,122]:Tx)).flatten)) (l:=M) (h:=Y (((L+1+n:Nat)):Int)) rfl rfl ?_ ?_⟩
  ·rw[Y1,show (List.replicate 60 ([97,98,122]:Tx)).flatten.length=180 from rfl];omega
  ·have R:e2 bE (e2 bE (af 3) (Q2 1)) (e2 oMod (e2 bQ (af 6) (Q2 300)) (Q2 30)) (EL ns bk (lp bk hd S O) L tb (Q0 (k:Int)) (Q0 c) (pc num) (Q1 w) p o f)=Y (.fr,.int ((L:Int)+1+(n:Int))):=e2v (x:=(.fr,.int ((L:Int)+1))) rfl (e2v (fd (m:=.fr) (x:=c) rfl (by decide)) (y:=(.fr,.int 30)) rfl ((dI (by decide)).trans (by rw[B]))) rfl;unfold ng;show (e2 bE _ _ _).bind _=_;rw[R];rfl
  ·show Y (Md.fr,T.str (cut _ M (Y ((L+1+n:Nat):Int))))=_;rw[ve]
 refine⟨Q0 c,pc num,Q1 w,Q1 g,?_⟩;unfold iC;refine sq (aL (m:=.fr) (t:=.int c) (e2v (kR (k:=12+k) rfl (e2v (x:=(.fr,.int 12)) (y:=(.fr,.int (k:Int))) rfl rfl ?_)) (e2v (x:=(.fr,.int 15485863)) (y:=(.fr,.int (k:Int))) rfl rfl (kf (by decide))) (by rw[J];rfl)) (by decide) (by show 6<12;decide)) (sq (aL B (by decide) (by show 7<12;decide)) (sq (aL N (by decide) (by show 8<12;decide)) (sq (U1:=EL ns bk (lp bk hd S O) L tb (Q0 (k:Int)) (Q0 c) (pc num) (Q1 w) p o f) (ji (m:=.fr) (fH (m:=.fr) (b:=Z) (cf (xv (x:=(.bo,lp bk hd S O)) rfl (xv (x:=up .pu num) rfl (xv (x:=(.fr,.str w)) rfl (xv (r:=ag) (x:=(.fr,.str [116,101,120,116])) rfl rfl)))) (nJ (DF (yr E num H)) (.inl ⟨rfl,rfl⟩)))) rfl) (sq (aL P (by decide) (by show 9<12;decide)) ?_))))
 ·show Y (Md.fr,T.int (12+(k:Int)))=_;rw[show (12+(k:Int))=((12+k:Nat):Int) by omega]
 ·have ne:=sT (m:=.pu) (n:=.fr) (r:=eqT (.lst (bk.map .str)) (.lst [])) (ic bk) rfl rfl;by_cases hb:bk=[]
  ·refine ji (m:=.fr) (ot (m:=.fr) (x:=O) (e2v (x:=(.pu,.lst (bk.map .str))) (y:=(.fr,.lst [])) rfl rfl ?_) (λz=>nomatch z) λ_=>rfl) rfl;rw[ne,hb];rfl
  ·have X:0<bk.length:=List.length_pos_iff.mpr hb;have d0:=Yc (c/36) (b:=(bk.length:Int)) (by omega);have d1:=Yl (c/36) (b:=(bk.length:Int)) (by omega);obtain⟨i,Q⟩:∃i:Nat,c/36%(bk.length:Int)=(i:Int):=⟨(c/36%(bk.length:Int)).toNat,by omega⟩
   refine ji (m:=.fr) (Cs (m:=.fr) (n:=.fr) (x:=Z) (y:=O) (e2v (x:=(.pu,.lst (bk.map .str))) (y:=(.fr,.lst [])) rfl rfl ?_) (fH (m:=.fr) (b:=Z) (cf (xv (x:=(.bo,lp bk hd S O)) rfl (xv (x:=(.fr,.int (i:Int))) (e2v (fd (m:=.fr) (x:=c) rfl (by decide)) C ((dI (by omega)).trans (by rw[Q]))) (xv (x:=(.fr,.str g)) rfl (xv (r:=ag) (x:=(.fr,.str [109,97,110,121])) rfl rfl)))) (nJ (wK (by omega) E (by omega)) (.inr ⟨rfl,rfl⟩))))) rfl;rw[ne];obtain⟨t,r,rfl⟩:=List.exists_cons_of_ne_nil hb;rfl
end
section
variable{L:Nat}
def B9(h:MK bk a S)(g:L+bu bk=120):∃z5 z6 z7 z8 z9,kL (df 5) (dQ (Q2 12)) iC (EL ns bk (lp bk a S O) L tb M M M M M M M)=Y (.nx (EL ns bk (lp bk a S O) L tb z5 z6 z7 z8 z9 M M)):=by
 obtain⟨s,e,z5,z6,z7,z8,z9,rfl,_⟩:=lD (tg:=df 5) (body:=iC) (λ(i:Nat)=>T.int (i:Int)) (λr U=>∃z5 z6 z7 z8 z9,U=EL ns bk (lp bk a S O) L tb z5 z6 z7 z8 z9 M M/\∀k∈r,k<12) (by
  rintro k r _ ⟨z5,z6,z7,z8,z9,rfl,b⟩;obtain⟨p,o,l,j,q⟩:=turn (ns:=ns) (tb:=tb) h k (b k Zu) L g z6 z7 z8 z9 M M;exact⟨_,_,rfl,q,_,_,_,_,_,rfl,λi f=>b i (Zt _ f)⟩) (List.range 12) (EL ns bk (lp bk a S O) L tb M M M M M M M) ⟨_,_,_,_,_,rfl,λk d=>YL.mp d⟩
 exact⟨z5,z6,z7,z8,z9,(js (m:=.fr) (C0 (m:=.fr) (n:=12) rfl (by decide)) rfl).trans e⟩
theorem uA{z5 z6 z7 z8 z9 z10 z11:Wb}:∀(d n:Nat){a:List Tx}{hd:Wf}{S:St},MK a hd S->a.length+d=8->d<n →
  ∃e,d3 (e2 oLt (eN cp (aa (cu 1 bg (af 2) ag) ag)) (Q2 8)) pk n (EL ns bk (lp a hd S O) L tb z5 z6 z7 z8 z9 z10 z11)=Y (.nx (EL ns bk (lp (a++List.replicate d []) e S O) L tb z5 z6 z7 z8 z9 z10 z11))/\MK (a++List.replicate d []) e S
 |_,0,_,_,_,_,_,g=>absurd g (XH _)
 |d,n+1,a,hd,S,h,j,g=>by
  have c:e2 oLt (eN cp (aa (cu 1 bg (af 2) ag) ag)) (Q2 8) (EL ns bk (lp a hd S O) L tb z5 z6 z7 z8 z9 z10 z11)=Y (.fr,.bl (decide ((a.length:Int)<8))):=e2v (zP (fQ (m:=.bo) rfl (h.book O))) (y:=(.fr,.int 8)) rfl rfl;cases d with
  |zero =>
   refine⟨hd,?_,by rw[List.replicate_zero,Zd];exact h⟩;rw[List.replicate_zero,Zd];exact fz (m:=.fr) (c.trans (by rw[Zb (by omega)]))
  |succ d =>
   have hb:=h.begin (by omega);obtain⟨e,q,f⟩:=uA d n hb (by rw[Zv,ZM];omega) (by omega);rw[ZA]at q f;refine⟨e,(kT (m:=.fr) (c.trans (by rw[decide_eq_true (by omega)])) ?_).trans q,f⟩;show JB _ _=_;unfold JB;rw[iT (i:=2) (b:=O) h (by omega) rfl];rfl
def D2{U:Env}{l:List Tx}{w:Tx}(a:7<l.length)(h:U[11]?=Y (oc (.lst (l.map .str))))(he:e U=Y (.fr,.str w)):dJ 11 [] (Q2 7) e U=Y (.nx (U.set 11 (oc (.lst ((l.set 7 w).map .str))))):=by
 unfold dJ;rw[he,Zy,h];show ((((Gc (l.map T.str).length 7).map λj=>(T.lst ((l.map T.str).set j (.str w)),())).map _):Option Out)=_;rw[Zw,show Gc l.length 7=Y 7 from tq (i:=7) a];show Y (Out.nx (U.set 11 (oc (.lst ((l.map T.str).set 7 (.str w))))))=_;rw[XI]
def yL{l:W3}(h:e U=Y (.fr,.lst l))(a:i<U.length):mG i e U=Y (.nx (U.set i (Y (.ow (.lst l))))):=by
 show (e U).bind _=_;rw[h];exact Zr a
end
theorem oX:∀d:Nat,bu (List.replicate d [])=0
 |0=>rfl
 |d+1=>by rw[Z7,cB,oX d];rfl
def wC(ns:We):uu [.scr ns]=Y (.fr,.bl Z):=by
 obtain⟨bk,eb,E,b9,F⟩:=AB ns;have hs:bu bk<=120:=by rw[ka];exact b9
 obtain⟨L,hL⟩:∃L:Nat,L+bu bk=120:=⟨120-bu bk,by omega⟩
 obtain⟨hd,S,em,h⟩:=sJ E hs F (arg:=eN i8 (aa (af 1) ag)) (U:=[pc (.scr ns),pc (.lst (bk.map .str)),M,M,M,M,M,M,M,M,M,M]) (zC (m:=.pu) rfl E);obtain⟨z5,z6,z7,z8,z9,TY⟩:=B9 (ns:=ns) (tb:=tbl S) h hL;obtain⟨QJ,X,D⟩:=uA (ns:=ns) (bk:=bk) (L:=L) (tb:=tbl S) (z5:=z5) (z6:=z6) (z7:=z7) (z8:=z8) (z9:=z9) (z10:=pc (.lst ((([List.replicate (121-((bk.take 7).flatten.length:Int)).toNat 97]:List Tx)++bk.take 7).map .str))) (z11:=M) (8-bk.length) um h (by omega) (by show 8-bk.length<1000000;omega);generalize B:bk++List.replicate (8-bk.length) []=tx at X D;have tl:tx.length=8:=by rw[← B,Zv,ZJ];omega
 have J:bu tx=bu bk:=by rw[← B,fN,oX];rfl
 have t8:(bk++List.replicate 8 ([]:Tx)).take 8=tx:=by
  rw[← B,List.take_append,XJ E,List.take_replicate];congr 2;omega
 obtain⟨o,g,R,p⟩:=D.grow (i:=7) (w:=List.replicate L 99) (by omega) (λc f=>by rw[(Xh.mp f).2];decide) (by rw[ZJ,J];omega);generalize A:tx.set 7 (tx.getD 7 []++List.replicate L 99)=ty at R p;have H:ty.length=8:=by rw[← A,ZI];exact tl
 have G:bu ty=120:=by rw[← A,jl tx 7 _ (by omega),ZJ,J];omega
 obtain⟨u,s,Q,C⟩:=p.grow (i:=0) (w:=[]) (by omega) (λc f=>nomatch f) (by rw[G];decide);have sy:ty.set 0 (ty.getD 0 []++[])=ty:=by
  obtain⟨a,r,e⟩:=List.exists_cons_of_ne_nil (show ty≠[] from λz=>by rw[z]at H;cases H);rw[e,Zd];rfl
 rw[sy]at Q C;have c7:∀{U:Env}{m:Md},af 3 U=Y (m,.int (L:Int))->e2 g5 (eC (.str [99])) (af 3) U=Y (.fr,.str (List.replicate L 99)):=λ{U m} q=>by
  have:=nA (c:=99) q (by omega) (by omega);rw[Yk]at this;exact this
 have N:∀{U:Env}{n:Nat}{c:Tx},n<=9->e2 lP (cq (aa (eC (.str c)) ag)) (Q2 (n:Int)) U=Y (.fr,.lst ((List.replicate n c).map .str)):=λ{U n c} hn=>by
  refine e2v (x:=(.fr,.lst [.str c])) (y:=(.fr,.int (n:Int))) rfl rfl ((Zr ⟨rfl,by show 1*_<=16777216;omega,by unfold Iv;omega,by unfold Iv;omega⟩).trans ?_);rw[Yk,List.map_replicate];have:∀n,(List.replicate n [T.str c]).flatten=List.replicate n (T.str c):=λn=>by
   induction n with
   |zero=>rfl
   |succ n ih=>rw[Z7,ZZ,ih];rfl
  rw[this]
 have c8:∀{U:Env},af 1 U=Y (.pu,.lst (bk.map .str))->IU (e2 bE (af 1) (e2 lP (cq (aa (eC (.str [])) ag)) (Q2 8))) M (Y (Q2 8)) U=Y (.fr,.lst (tx.map .str)):=λ{U} q=>by
  have:=nX (k:=8) (qU q (N (U:=U) (n:=8) (c:=[]) (by decide)) (by rw[ZJ];omega)) (by rw[Zv,ZJ];omega);rw[t8]at this;exact this
 have n7:((bk.take 7).flatten.length:Int)<=120:=by
  have:(bk.take 7).flatten.length<=bk.flatten.length:=by
   conv=>rhs;rw[← List.take_append_drop 7 bk,Z8,Zv]
   exact YM _ _
  omega
 have P9:∀{x y:Bool}{r:T},Ff 60 r=Z->Ik (.fr,r) (.pu,r)=Y (.fr,.bl O):=λ{x y r} q=>sT (r:=Z) q q (hV 60 _ q);refine dW (U:=EL ns bk (lp ty u s O) L (tbl S) z5 z6 z7 z8 z9 (pc (.lst ((([List.replicate (121-((bk.take 7).flatten.length:Int)).toNat 97]:List Tx)++bk.take 7).map .str))) (pc (.lst (ty.map .str)))) rfl ?_;refine sq (aL (m:=.fr) (cf (xv (r:=ag) (x:=(.fr,.scr ns)) rfl rfl) eb) (by decide) (by show 1<12;decide)) (sq (U1:=[pc (.scr ns),pc (.lst (bk.map .str)),oc (lp bk hd S O),M,M,M,M,M,M,M,M,M]) ?_ (sq (aL (m:=.fr) (t:=.int (L:Int)) (e2v (x:=(.fr,.int 120)) rfl (vd (m:=.pu) rfl (by omega)) ?_) (by decide) (by show 3<12;decide)) (sq (aL (fQ (m:=.bo) rfl (h.tab O)) (by decide) (by show 4<12;decide)) (sq TY (sq (U1:=EL ns bk (lp bk hd S O) L (tbl S) z5 z6 z7 z8 z9 M M) (ji (m:=.fr) (Oq (m:=.fr) (n:=.fr) (x:=O) (y:=O) (e2v (fQ (m:=.bo) rfl (h.tab O)) (y:=(.pu,LA (tbl S))) rfl (P9 (x:=Z) (y:=Z) (nR _))) (e2v (fQ (m:=.bo) rfl (h.book O)) (y:=(.pu,.lst (bk.map .str))) rfl (P9 (x:=Z) (y:=Z) (ic _)))) rfl) (sq (aL (m:=.fr) (qU (x:=[List.replicate (121-((bk.take 7).flatten.length:Int)).toNat 97]) (vp [List.replicate (121-((bk.take 7).flatten.length:Int)).toNat 97] (xv (r:=ag) (nA (m:=.fr) (e2v (x:=(.fr,.int 121)) rfl (vd (nX (k:=7) (m:=.pu) rfl (by omega)) (by omega)) rfl) (by omega) (by omega)) rfl) (by show 1<=_;decide)) (nX (k:=7) (m:=.pu) rfl (by omega)) (by rw[Y1];show 1+_<=_;omega)) (by decide) (by show 10<12;decide)) (sq (U1:=EL ns bk (lp bk hd S O) L (tbl S) z5 z6 z7 z8 z9 (pc (.lst ((([List.replicate (121-((bk.take 7).flatten.length:Int)).toNat 97]:List Tx)++bk.take 7).map .str))) M) (ji (m:=.fr) (Oq (m:=.fr) (n:=.fr) (x:=O) (y:=O) (fH (m:=.fr) (b:=Z) (cf (xv (r:=ag) (nX (k:=9) (qU (m:=.pu) rfl (N (n:=9) (c:=[97]) (by decide)) (by rw[ZJ];omega)) (by rw[Zv,ZJ];omega)) rfl) (uZ (.inl ?_) ?_))) (fH (m:=.fr) (b:=Z) (cf (xv (r:=ag) (x:=(.pu,.lst ((([List.replicate (121-((bk.take 7).flatten.length:Int)).toNat 97]:List Tx)++bk.take 7).map .str))) rfl rfl) (uZ (.inr ?_) ?_)))) rfl) (sq X (sq (U1:=EL ns bk (lp tx QJ S O) L (tbl S) z5 z6 z7 z8 z9 (pc (.lst ((([List.replicate (121-((bk.take 7).flatten.length:Int)).toNat 97]:List Tx)++bk.take 7).map .str))) M) (ji (m:=.fr) (Oq (m:=.fr) (n:=.fr) (x:=O) (y:=O) (fH (m:=.fr) (b:=Z) (cf (xv (r:=ag) (x:=(.bo,lp tx QJ S O)) rfl rfl) (yS (by omega)))) (e2v (fQ (m:=.bo) rfl (D.book O)) (c8 rfl) (sT (r:=Z) (ic _) (ic _) (hV 60 _ (ic _))))) rfl) (sq (U1:=EL ns bk (lp ty o g O) L (tbl S) z5 z6 z7 z8 z9 (pc (.lst ((([List.replicate (121-((bk.take 7).flatten.length:Int)).toNat 97]:List Tx)++bk.take 7).map .str))) M) ?_ (sq (U1:=EL ns bk (lp ty o g O) L (tbl S) z5 z6 z7 z8 z9 (pc (.lst ((([List.replicate (121-((bk.take 7).flatten.length:Int)).toNat 97]:List Tx)++bk.take 7).map .str))) M) (ji (m:=.fr) (fH (m:=.fr) (b:=Z) (cf (xv (x:=(.bo,lp ty o g O)) rfl (xv (x:=(.fr,.int 0)) rfl (xv (x:=(.fr,.str [97])) rfl (xv (r:=ag) (x:=(.fr,.str [109,97,110,121])) rfl rfl)))) (nJ (wK (i:=0) (by omega) (by omega) (by rw[G];decide)) (.inr ⟨rfl,rfl⟩)))) rfl) (sq (yL (c8 rfl) (by show 11<12;decide)) (sq (D2 (l:=tx) (w:=tx.getD 7 []++List.replicate L 99) (by omega) rfl (Bo (e2v (x:=(.bo,.lst (tx.map .str))) (y:=(.fr,.int 7)) rfl rfl (l9 T.str tx 7 [] (by omega))) (c7 (m:=.fr) rfl) ?_)) (sq (U1:=EL ns bk (lp ty o g O) L (tbl S) z5 z6 z7 z8 z9 (pc (.lst ((([List.replicate (121-((bk.take 7).flatten.length:Int)).toNat 97]:List Tx)++bk.take 7).map .str))) (pc (.lst (ty.map .str)))) ?_ ?_))))))))))))))
 ·exact(congrArg (λz:W0=>z.bind λv=>(cellOf v).bind λc=>Y (Out.nx [pc (.scr ns),pc (.lst (bk.map .str)),Y c,M,M,M,M,M,M,M,M,M])) em).trans rfl
 ·show Y (Md.fr,T.int (120-(bk.flatten.length:Int)))=_;rw[show 120-(bk.flatten.length:Int)=(L:Int) by rw[← ka];omega]
 ·rw[Y1,Zv,ZJ];omega
 ·intro t d;rcases Zc.mp (List.mem_of_mem_take d) with d | d
  ·exact F t d
  ·rw[(Xh.mp d).2];intro c f;rw[Zg.mp f];decide
 ·rw[fN,cB,ZJ,ka (bk.take 7),show bu []=0 from rfl];omega
 ·intro t d;rcases Zc.mp d with d | d
  ·rw[Zg.mp d];intro c f;rw[(Xh.mp f).2];decide
  ·exact F t (List.mem_of_mem_take d)
 ·unfold JB;rw[mW (j:=2) (b:=O) (i:=7) (w:=List.replicate L 99) R rfl rfl (c7 (m:=.fr) rfl)];rfl
 ·have:=k8 (getD_mem' (l:=tx) (i:=7) (by omega));rw[ZJ];omega
 ·rw[← A];rfl
 ·obtain⟨Ux,SB,eB,P⟩:=sJ (bk:=ty) (by omega) (by omega) p.az (arg:=af 11) (U:=EL ns bk (lp ty u s O) L (tbl S) z5 z6 z7 z8 z9 (pc (.lst ((([List.replicate (121-((bk.take 7).flatten.length:Int)).toNat 97]:List Tx)++bk.take 7).map .str))) (pc (.lst (ty.map .str)))) (m:=.pu) rfl;have q1:e2 oEq (cu 1 bg (af 2) ag) (af 11) (EL ns bk (lp ty o g O) L (tbl S) z5 z6 z7 z8 z9 (pc (.lst ((([List.replicate (121-((bk.take 7).flatten.length:Int)).toNat 97]:List Tx)++bk.take 7).map .str))) (pc (.lst (ty.map .str))))=Y (.fr,.bl Z):=e2v (fQ (m:=.bo) rfl (p.book O)) (y:=(.pu,.lst (ty.map .str))) rfl (kF (ic _) (ic _) (hV 60 _ (ic _)));have q2:=mW (j:=2) (U:=EL ns bk (lp ty o g O) L (tbl S) z5 z6 z7 z8 z9 (pc (.lst ((([List.replicate (121-((bk.take 7).flatten.length:Int)).toNat 97]:List Tx)++bk.take 7).map .str))) (pc (.lst (ty.map .str)))) (b:=O) (i:=0) (w:=[]) (e1:=Q2 0) (e2:=eC (.str [])) Q rfl rfl rfl;have q3:e2 oEq (cu 1 bh (af 2) ag) (cu 1 bh (eNew 1 aW (aa (af 11) ag)) ag) (EL ns bk (lp ty u s O) L (tbl S) z5 z6 z7 z8 z9 (pc (.lst ((([List.replicate (121-((bk.take 7).flatten.length:Int)).toNat 97]:List Tx)++bk.take 7).map .str))) (pc (.lst (ty.map .str))))=Y (.fr,.bl Z):=e2v (fQ (m:=.bo) rfl (C.tab O)) (fQ eB (P.tab O)) (by
   rw[C.same P];exact kF (nR _) (nR _) (hV 60 _ (nR _)))
  unfold lZ uB xf AE;rw[q1,Zy];show (((aV 2 [] 1 [O,O] aw _ _).bind _).bind _ |>.bind _)=_;rw[q2,Zy];show (((e2 oEq _ _ (EL ns bk (lp ty u s O) L (tbl S) z5 z6 z7 z8 z9 _ _)).bind _) |>.bind _)=_;rw[q3];rfl
end T08
end
section
namespace T08
open PySem PySem.Spec PyProof.Rows L2 VS
def qv{X:Cx}(i:Nat)(a:{`q7,X.N[i]?=Y x})(b:HD X.env.scope x:=by exact Or.inl L)(c:{`q2,K3 x})(d:{`q2,K4 x}):PV G X (.Name x p) (af i):=eQ i a b c d
def Q3{α:Sort _}{x:α}{b:Prop}:x=x∨b:=.inl L
abbrev Q4:List Str:=["_law_book_here", "_law_marks_here", "e"]
abbrev Q5:List Str:=["_law_cell", "_law_k"]
abbrev Q6:List Str:=["_law_error"]
abbrev Q7:List Str:=["_law_j", "_law_script", "_law_cell", "_law_letters", "_law_count", "_law_most"]
abbrev Q8:List Str:=["_law_machine", "_law_marks_here", "e"]
abbrev Q9:List Str:=["_law_machine", "_law_number", "_law_word", "_law_due", "_law_marks_here", "e"]
abbrev Qa:List Str:=["_law_machine", "_law_number", "_law_word", "_law_due"]
abbrev Qb:List Str:=["_law_script", "_law_k"]
abbrev Qc:List Str:=["_law_script", "_law_letters", "_law_most", "_law_j"]
abbrev Qd:List Str:=["_law_script"]
abbrev Qe:List Str:=["book", "number"]
abbrev Qf:List Str:=["self", "book"]
abbrev Qg:List Str:=["self", "head", "sign"]
abbrev Qh:List Str:=["self", "head", "word"]
abbrev Qi:List Str:=["self", "long", "link", "ways"]
abbrev Qj:List Str:=["self", "node", "numbers"]
abbrev Qk:List Str:=["self", "node", "sign"]
abbrev Ql:List Str:=["self", "text", "word"]
abbrev Qm:List Str:=["self"]
abbrev Qn:List Str:=["sign", "self", "node", "numbers", "link", "ways", "steps"]
noncomputable def top(i:Nat):Stmt:=PySem.Challenge.pw_allparts_k08_what_a_machine_refuses.main.body.getD i (.Pass ⟨0,0,0,0⟩)
structure FV(mg:Wj):Prop where
 Hg:mg "ValueError" = none
 Ls:mg "bool" = none
 Lr:mg "dict" = none
 Nd:mg "int" = none
 En:mg "isinstance" = none
 Es:mg "len" = none
 Jw:mg "list" = none
 Nc:mg "max" = none
 Nb:mg "min" = none
 Hf:mg "range" = none
 HC:mg "sorted" = none
 Na:mg "sum" = none
 J7:mg "tuple" = none
 FR:∃t,mg "MOST_SIGNS" = some (.int 120 t)
 FQ:∃t,mg "MOST_TEXTS" = some (.int 8 t)
structure FT(K:Wv)(mg:Wj)(A B:GM):Prop where
 m0:mg "NoText" = some (.ref A)
 q0:PySem.W.excIn K A [.type "ValueError",.type "Exception",.type "BaseException",.type "object"] "ValueError.__new__" = true
 x0:XN.Hm K A
 m1:mg "TooMany" = some (.ref B)
 q1:PySem.W.excIn K B [.type "ValueError",.type "Exception",.type "BaseException",.type "object"] "ValueError.__new__" = true
 x1:XN.Hm K B
 El:∃D,mg "PartError" = some (.ref D)/\PySem.W.exmOne K (.ref A) (.ref D)=some true/\PySem.W.exmOne K (.ref B) (.ref D)=some true
 FO:∃D,mg "NoBook" = some (.ref D)/\PySem.W.kitOne K (.ref A) (.ref D)=some false/\PySem.W.kitOne K (.ref B) (.ref D)=some false
 Fb:∃D,mg "NoNumber" = some (.ref D)/\PySem.W.kitOne K (.ref A) (.ref D)=some false/\PySem.W.kitOne K (.ref B) (.ref D)=some false
 Gp:∃D,mg "NoRow" = some (.ref D)/\PySem.W.kitOne K (.ref A) (.ref D)=some false/\PySem.W.kitOne K (.ref B) (.ref D)=some false
 Fx:∃D,mg "NoStand" = some (.ref D)/\PySem.W.kitOne K (.ref A) (.ref D)=some false/\PySem.W.kitOne K (.ref B) (.ref D)=some false
 Fu:∃D,mg "NoTable" = some (.ref D)/\PySem.W.kitOne K (.ref A) (.ref D)=some false/\PySem.W.kitOne K (.ref B) (.ref D)=some false
 GC:∃D,mg "NoText" = some (.ref D)/\PySem.W.kitOne K (.ref A) (.ref D)=some true/\PySem.W.kitOne K (.ref B) (.ref D)=some false
 FN:∃D,mg "NoWord" = some (.ref D)/\PySem.W.kitOne K (.ref A) (.ref D)=some false/\PySem.W.kitOne K (.ref B) (.ref D)=some false
 FZ:∃D,mg "TooMany" = some (.ref D)/\PySem.W.kitOne K (.ref A) (.ref D)=some false/\PySem.W.kitOne K (.ref B) (.ref D)=some true
 FL:PySem.W.kitOne K (.ref A) (.type "ValueError")=some true/\PySem.W.kitOne K (.ref B) (.type "ValueError")=some true
noncomputable abbrev Kh:List Str:=["  ", "longs", "links", "ways", "texts", "heads", "nodes"]
abbrev gX(K:Wv)(C D b a:GM):Gx:=JH Kh K C D b a
def gJ{K:Wv}:iM ((JH Kh K C D b a).at m):=za (by decide +kernel) (by decide +kernel)
structure Fq(K:Wv)(mg:Wj)(C D:GM):Prop where
 Ek:FD K C
 Jh:mg "Nodes" = some (.ref C)
 E2:aX K C "longs"
 E3:aX K C "links"
 E9:aX K C "ways"
 EZ:aX K C "texts"
 E4:aX K C "heads"
 E1:aX K C "nodes"
 Ei:FD K D
 GB:mg "Machine" = some (.ref D)
 EF:aX K D "longs"
 EG:aX K D "links"
 ER:aX K D "ways"
 ED:aX K D "texts"
 EH:aX K D "heads"
 EE:aX K D "nodes"
def eP{K:Wv}(O:Fq K a C D):FE ((JH Kh K C D d b).at m) K 1 "longs" := ub L O.Ek O.Ei O.E2 O.EF
def eO{K:Wv}(O:Fq K a C D):FE ((JH Kh K C D d b).at m) K 2 "links" := ub L O.Ek O.Ei O.E3 O.EG
def dR{K:Wv}(O:Fq K a C D):FE ((JH Kh K C D d b).at m) K 3 "ways" := ub L O.Ek O.Ei O.E9 O.ER
def cA{K:Wv}(O:Fq K a C D):FE ((JH Kh K C D d b).at m) K 4 "texts" := ub L O.Ek O.Ei O.EZ O.ED
def ig{K:Wv}(O:Fq K a C D):FE ((JH Kh K C D d b).at m) K 5 "heads" := ub L O.Ek O.Ei O.E4 O.EH
def jL{K:Wv}(O:Fq K a C D):FE ((JH Kh K C D d b).at m) K 6 "nodes" := ub L O.Ek O.Ei O.E1 O.EE
section
variable(P:PP)(w:SC)(base:Re){K:Wv}
abbrev d8:Stmt:=inClass (top 17) 1
def jt:cg Qi Qi (ah d8):=by constructor<;>first | rfl | decide +kernel
def aO(F:Er K "new_node" "Nodes.new_node" d8 f d)(a:Meth K C "new_node" f)(B:FV mg)(O:Fq K mg C D)(Z:FT K mg XA XB) :
  MtAt P w K mg base 1 (gX K C D XA XB) 0 "new_node" Qi [false,false,true] aF:=j8 F a O.Ek (dZ (by decide +kernel) (by decide +kernel)) jt L L (λ_ _ _ _ _ _ e b=>by obtain⟨_,_,_,_,rfl⟩:=L2.Bv b;rfl) λ_ _ _ _ _ _ _ g =>
  (aj (oj gJ (eU 1 (eP O) (bt 0)) (ae (qv 1) ai))
  (aj (oj gJ (eU 2 (eO O) (bt 0)) (ae (qv 2) ai))
  (aj (ze gJ (eU 3 (dR O) (bt 0)) L L Q3 L L L L L L L L)
  (au (bF (cO lB lF (dD B.Es (ae (w_fld gJ (eP O) (qv 0)) ai)) aq))))))
abbrev d2:Stmt:=inClass (top 17) 0
def jM:cg Qm Qm (ah d2):=by constructor<;>first | rfl | decide +kernel
def bj(F:Er K "__init__" "Nodes.__init__" d2 f e)(b:Mk K C f)(B:FV mg)(O:Fq K mg C D)(Z:FT K mg XA XB)(g:MtAt P w K mg base 1 (gX K C D XA XB) 0 "new_node" Qi [false,false,true] aF) :
  InAt P w K mg base 2 (gX K C D XA XB) 0 0 "Nodes" Qm bL:=By F b O.Jh jM L L (λ_ _ _ _ _ _ h d=>by obtain⟨_,rfl⟩:=L2.iY d;rfl) λ_ _ _ _ _ _ _ a =>
  (aj (gP 0 1 gJ (eP O) (bH ai))
  (aj (gP 0 2 gJ (eO O) (bH ai))
  (aj (gP 0 3 gJ (dR O) (bH ai))
  (au (iA (fq gJ g.at a (by decide) (bt 0) (ae aq (ae qG (ae wZ ai)))) L)))))
abbrev cx:Stmt:=inClass (top 17) 4
def ba:cg ["self", "node", "sign", "old", "long", "half"] Qk (ah cx):=by constructor<;>first | rfl | decide +kernel
def aS(F:Er K "node_just_behind" "Nodes.node_just_behind" cx f e)(b:Meth K C "node_just_behind" f)(B:FV mg)(O:Fq K mg C D)(Z:FT K mg XA XB)(g:MtAt P w K mg base 1 (gX K C D XA XB) 0 "new_node" Qi [false,false,true] aF) :
  MtAt P w K mg base 2 (gX K C D XA XB) 0 "node_just_behind" Qk [false,false] av:=j8 F b O.Ek (dZ (by decide +kernel) (by decide +kernel)) ba L L (λ_ _ _ _ _ _ h d=>by obtain⟨_,_,_,rfl⟩:=L2.qN d;rfl) λ_ _ _ _ _ _ _ a =>
  (aj (aA (v7 a (cy (w_fld gJ (dR O) (qv 0)) (qv 1) (λ_ _=>rfl)) (qv 2) (λ_ _=>rfl)) ba.nd L Q3)
  (aj (aA (w_add (cy (w_fld gJ (eP O) (qv 0)) (qv 1) (λ_ _=>rfl)) aq) ba.nd L Q3)
  (aj (cN (pI a (cy (w_fld gJ (eP O) (qv 0)) (qv 3) (λ_ _=>rfl)) (qv 4)) (au (gw 3 L (Or.inl L) L L)) bM)
  (aj (oQ (fq gJ g.at a (by decide) (bt 0) (ae (qv 4) (ae (cy (w_fld gJ (eO O) (qv 0)) (qv 3) (λ_ _=>rfl)) (ae (xT B.Lr (ae (cy (w_fld gJ (dR O) (qv 0)) (qv 3) (λ_ _=>rfl)) ai) L L) ai)))) ba.nd L Q3 L Q3)
  (aj (jk gJ a (eU 2 (eO O) (bt 0)) (qv 3) (qv 5))
  (aj (iJ YX (Iu.Kg (kU (jK (qv 1)) (kY (pI a (w_get a (cy (w_fld gJ (dR O) (qv 0)) (qv 1) (λ_ _=>rfl)) (qv 2) L L L L) (qv 3)))))
  (aj (jk gJ a (zH a (eU 3 (dR O) (bt 0)) (qv 1) (λ_ _=>rfl) L) (qv 2) (qv 5))
  (au (aA (cy (w_fld gJ (eO O) (qv 0)) (qv 1) (λ_ _=>rfl)) ba.nd L Q3))))
  (au (gw 5 L (Or.inl L) L L))))))))
abbrev de:Stmt:=inClass (top 17) 3
def cw:cg ["self", "head", "sign", "fresh", "node"] Qg (ah de):=by constructor<;>first | rfl | decide +kernel
def bS(F:Er K "head_behind" "Nodes.head_behind" de f g)(d:Meth K C "head_behind" f)(B:FV mg)(O:Fq K mg C D)(Z:FT K mg XA XB)(h:MtAt P w K mg base 1 (gX K C D XA XB) 0 "new_node" Qi [false,false,true] aF)(b:MtAt P w K mg base 2 (gX K C D XA XB) 0 "node_just_behind" Qk [false,false] av) :
  MtAt P w K mg base 3 (gX K C D XA XB) 0 "head_behind" Qg [false,false] bR:=j8 F d O.Ek (dZ (by decide +kernel) (by decide +kernel)) cw L L (λ_ _ _ _ _ _ i e=>by obtain⟨_,_,_,rfl⟩:=L2.qN e;rfl) λ_ _ _ _ _ _ _ a =>
  (aj (cN (CM a (qv 2) (cy (w_fld gJ (dR O) (qv 0)) (qv 1) (λ_ _=>rfl)) (by with_unfolding_all rfl) L) (au (rz (fq gJ b.at a (by decide) (bt 0) (ae (qv 1) (ae (qv 2) ai))))) bM)
  (aj (oQ (fq gJ h.at a (by decide) (bt 0) (ae (w_add (cy (w_fld gJ (eP O) (qv 0)) (qv 1) (λ_ _=>rfl)) aq) (ae aq (ae wZ ai)))) cw.nd L Q3 L Q3)
  (aj (aA (qv 1) cw.nd L Q3)
  (aj (iJ YX (Iu.Kg (kU (jK (qv 4)) (kY (uC a (qv 2) (cy (w_fld gJ (dR O) (qv 0)) (qv 4) (λ_ _=>rfl)) (by with_unfolding_all rfl) L))))
  (aj (jk gJ a (zH a (eU 3 (dR O) (bt 0)) (qv 4) (λ_ _=>rfl) L) (qv 2) (qv 3))
  (au (aA (cy (w_fld gJ (eO O) (qv 0)) (qv 4) (λ_ _=>rfl)) cw.nd L Q3))))
  (aj (cN (jK (qv 4)) (au (sv gJ a (eU 2 (eO O) (bt 0)) (qv 3) (fq gJ b.at a (by decide) (bt 0) (ae (qv 4) (ae (qv 2) ai))) (λ_=>rfl) L L L)) bM)
  (au (gw 3 L (Or.inl L) L L)))))))
abbrev dz:Stmt:=inClass (top 17) 2
def dc:cg ["self", "head", "word", "sign"] Qh (ah dz):=by constructor<;>first | rfl | decide +kernel
def bZ(F:Er K "head_grown" "Nodes.head_grown" dz f e)(b:Meth K C "head_grown" f)(B:FV mg)(O:Fq K mg C D)(Z:FT K mg XA XB)(g:MtAt P w K mg base 3 (gX K C D XA XB) 0 "head_behind" Qg [false,false] bR) :
  MtAt P w K mg base 4 (gX K C D XA XB) 0 "head_grown" Qh [false,false] aP:=j8 F b O.Ek (dZ (by decide +kernel) (by decide +kernel)) dc L L (λ_ _ _ _ _ _ h d=>by obtain⟨_,_,_,rfl⟩:=L2.qN d;rfl) λ_ _ _ _ _ _ _ a =>
  (aj (jS YX L (iG (qv 2)) (dq 3 dc.nd L Q3 Q3)
  (au (oQ (fq gJ g.at a (by decide) (bt 0) (ae (qv 1) (ae (qv 3) ai))) dc.nd L Q3 L Q3)))
  (au (gw 1 L (Or.inl L) L L)))
abbrev cE:Stmt:=inClass (top 17) 6
def aH:cg ["self", "numbers", "met", "done", "ways", "sign"] Qm (ah cE):=by constructor<;>first | rfl | decide +kernel
def br{m:Me}(F:Er K "numbers_by_node" "Nodes.numbers_by_node" cE f e)(b:Meth K C "numbers_by_node" f)(B:FV mg)(O:Fq K mg C D)(Z:FT K mg XA XB) :
  MpAt P w K mg base 1 ((gX K C D XA XB).at m) 0 "numbers_by_node" Qm aC:=lH F b O.Ek (dZ (by decide +kernel) (by decide +kernel)) aH L L (λ_ _ _ _ _ _ g d=>by obtain⟨_,rfl⟩:=L2.iY d;rfl) λ_ _ _ _ _ _ a =>
  (aj (gK Aw aH.nd L Q3)
  (aj (gK (bH (ae aq ai)) aH.nd L Q3)
  (aj (aA aq aH.nd L Q3)
  (aj (iJ YX (dN oF rW iz (qv 3) (dD B.Es (ae (qv 2) ai)) (gp _))
  (aj (aA (cy (w_fld gJ (dR O) (qv 0)) (cy (qv 2) (qv 3) (λ_ _=>rfl)) (λ_ _=>rfl)) aH.nd L Q3)
  (aj (jS YX L (iG (rH B.HC (ae (qv 4) ai))) (dq 5 aH.nd L Q3 Q3)
  (au (cN (uC a (v7 a (qv 4) (qv 5) (λ_ _=>rfl)) (qv 1) (by with_unfolding_all rfl) L) (aj (Ao 1 a (v7 a (qv 4) (qv 5) (λ_ _=>rfl)) (dD B.Es (ae (qv 2) ai)) L Q3 L L (λ_=>rfl) L L L)
  (au (jv 2 (ae (v7 a (qv 4) (qv 5) (λ_ _=>rfl)) ai) L L Q3 L L))) bM)))
  (au (aA (w_add (qv 3) aq) aH.nd L Q3)))))
  (n9 2 (au (gw 1 L (Or.inl L) L L)))))))
abbrev fK:Stmt:=inClass (top 17) 7
def dv:cg ["self", "node", "numbers", "link", "ways", "steps"] Qj (ah fK):=by constructor<;>first | rfl | decide +kernel
def cZ{m:Me}(F:Er K "row_of" "Nodes.row_of" fK f e)(b:Meth K C "row_of" f)(B:FV mg)(O:Fq K mg C D)(Z:FT K mg XA XB) :
  MpAt P w K mg base 1 ((gX K C D XA XB).at m) 0 "row_of" Qj cj:=lH F b O.Ek (dZ (by decide +kernel) (by decide +kernel)) dv L L (λ_ _ _ _ _ _ g d=>by obtain⟨_,_,_,rfl⟩:=L2.qN d;rfl) λ_ _ _ _ _ _ a =>
  (aj (aA (cy (w_fld gJ (eO O) (qv 0)) (qv 1) (λ_ _=>rfl)) dv.nd L Q3)
  (aj (aA (cy (w_fld gJ (dR O) (qv 0)) (qv 1) (λ_ _=>rfl)) dv.nd L (Or.inr L))
  (aj (aA (yH B.J7 (ae (oB 1 Qn L (iG (rH B.HC (ae (eQ 4 L (Or.inr Q3) L L) ai))) (kQ) (λ_ _ _ _ _=>(dq 0 (show List.Nodup Qn from by decide +kernel) L Q3 (Or.inr L))) (λ_ _ _ _ _=>(qS (ae (qv 0) (ae (zN a (eQ 3 L (Or.inr Q3) L L) (v7 a (eQ 5 L (Or.inr Q3) L L) (qv 0) (λ_ _=>rfl)) (λ_ _=>rfl) L) ai)))) L L (by decide)) ai)) dv.nd L Q3)
  (aj (cN (Ca (qv 3)) (au (bF (qS (ae aq (ae aq (ae qG (ae (qv 5) ai))))))) bM)
  (au (bF (qS (ae (w_add (cy (w_fld gJ (eP O) (qv 0)) (qv 3) (λ_ _=>rfl)) aq) (ae (cy (w_fld gJ (eP O) (qv 0)) (qv 1) (λ_ _=>rfl)) (ae (zN a (eQ 2 L (Or.inr Q3) L L) (qv 3) (λ_ _=>rfl) L) (ae (qv 5) ai)))))))))))
abbrev gm:Stmt:=inClass (top 17) 5
def ib:cg ["self", "numbers"] Qm (ah gm):=by constructor<;>first | rfl | decide +kernel
def dr{m:Me}(F:Er K "table" "Nodes.table" gm f e)(b:Meth K C "table" f)(B:FV mg)(O:Fq K mg C D)(Z:FT K mg XA XB)(h:∀m,MpAt P w K mg base 1 ((gX K C D XA XB).at m) 0 "numbers_by_node" Qm aC)(g:∀m,MpAt P w K mg base 1 ((gX K C D XA XB).at m) 0 "row_of" Qj cj) :
  MpAt P w K mg base 2 ((gX K C D XA XB).at m) 0 "table" Qm dk:=lH F b O.Ek (dZ (by decide +kernel) (by decide +kernel)) ib L L (λ_ _ _ _ _ _ i d=>by obtain⟨_,rfl⟩:=L2.iY d;rfl) λ_ _ _ _ _ _ a =>
  (aj (gK (di (h _) a (by decide) (eQ 0 L (Or.inr Q3) L L)) ib.nd L (Or.inr L))
  (au (A7 1 ["node", "self", "numbers"] L L (Or.inr Q3) L L (kQ) (λ_ _ _ _ _=>(dq 0 (show List.Nodup (["node", "self", "numbers"]:List Str) from by decide +kernel) L Q3 (Or.inr L))) (λ_ _ _ _ _=>(yN (g _) a (by decide) (eQ 1 L (Or.inr Q3) L L) (ae (qv 0) (ae (eQ 2 L (Or.inr Q3) L L) ai)) L L L)) L L (by decide) (λ_=>rfl))))
abbrev dw:Stmt:=inClass (top 19) 1
def gy:cg Qm Qm (ah dw):=by constructor<;>first | rfl | decide +kernel
def aN(F:Er K "begin" "Machine.begin" dw f d)(a:Meth K D "begin" f)(B:FV mg)(O:Fq K mg C D)(Z:FT K mg XA XB) :
  MtAt P w K mg base 1 (gX K C D XA XB) 1 "begin" Qm [] aB:=j8 F a O.Ei (dZ (by decide +kernel) (by decide +kernel)) gy L L (λ_ _ _ _ _ _ e b=>by obtain⟨_,rfl⟩:=L2.iY b;rfl) λ_ _ _ _ _ _ _ g =>
  (aj (cN (dN (zQ.or mJ) Ad pX (dD B.Es (ae (w_fld gJ (cA O) (qv 0)) ai)) (kN B.FQ L L) (gp _)) (au uD) bM)
  (aj (oj gJ (eU 4 (cA O) (bt 0)) (ae (bf (by decide +kernel) (by decide)) ai))
  (aj (oj gJ (eU 5 (ig O) (bt 0)) (ae aq ai))
  (au (bF (cO lB lF (dD B.Es (ae (w_fld gJ (cA O) (qv 0)) ai)) aq))))))
def bD{m:Me}(F:Er K "begin" "Machine.begin" dw f d)(a:Meth K D "begin" f)(B:FV mg)(O:Fq K mg C D)(Z:FT K mg XA XB) :
  MxAt P w K mg base 1 ((gX K C D XA XB).at m) 1 "begin" Qm bB:=uQ F a O.Ei (dZ (by decide +kernel) (by decide +kernel)) gy L L (λ_ _ _ _ _ _ e b=>by obtain⟨_,rfl⟩:=L2.iY b;rfl) λ_ _ _ _ _ _ g =>
  (j4 (yq (dN (zQ.or mJ) Ad pX (dD B.Es (ae (w_fld gJ (cA O) (qv 0)) ai)) (kN B.FQ L L) (gp _)) (iP (lR Z.q1 Z.m1 L L (ae (bf (by decide +kernel) (by decide)) ai) L L L L)) (kW bM)) zK)
abbrev iS:Stmt:=top 13
def pA:cg ["thing"] ["thing"] (ah iS):=by constructor<;>first | rfl | decide +kernel
def fF{m:Me}(F:Er K "is_whole" "is_whole" iS f d)(a:mg "is_whole" = Y (.ref f))(B:FV mg)(O:Fq K mg C D)(Z:FT K mg XA XB) :
  FnAt P w K mg base 1 "is_whole" ["thing"] ((gX K C D XA XB).at m) gH:=jq F a pA L L (λ_ _ _ _ _ _ e b=>by obtain⟨_,rfl⟩:=L2.iY b;rfl) λ_ _ _ _ _ _ g =>
  (au (bF (Ai (w_is .int B.En B.Nd (qv 0)) (u0 (Cb (w_is .bool B.En B.Ls (qv 0)))))))
abbrev d4:Stmt:=top 14
def jI:cg Qe Qe (ah d4):=by constructor<;>first | rfl | decide +kernel
def bp{m:Me}(F:Er K "refuse_no_text" "refuse_no_text" d4 f e)(b:mg "refuse_no_text" = Y (.ref f))(B:FV mg)(O:Fq K mg C D)(Z:FT K mg XA XB)(g:∀m,FnAt P w K mg base 1 "is_whole" ["thing"] ((gX K C D XA XB).at m) gH) :
  FnXt P w K mg base 2 "refuse_no_text" Qe ((gX K C D XA XB).at m) aE:=wO F b jI L L (λ_ _ _ _ _ _ h d=>by obtain⟨_,_,rfl⟩:=L2.eY d;rfl) λ_ _ _ _ _ _ a =>
  (iP (yq (Iu.Kg (oy (fW (gE (cT (g _) a (ae (qv 1) ai) (by decide) L L L L))) (nQ (fW (l6 aq (qv 1) (dD B.Es (ae (qv 0) ai)) (by with_unfolding_all rfl)))))) (iP (lR Z.q0 Z.m0 L L (ae (bf (by decide +kernel) (by decide)) ai) L L L L)) (kW bM)))
abbrev i7:Stmt:=top 15
def pC:cg ["book"] ["book"] (ah i7):=by constructor<;>first | rfl | decide +kernel
def cV{m:Me}(F:Er K "signs_in" "signs_in" i7 f d)(a:mg "signs_in" = Y (.ref f))(B:FV mg)(O:Fq K mg C D)(Z:FT K mg XA XB) :
  FnAt P w K mg base 1 "signs_in" ["book"] ((gX K C D XA XB).at m) c4:=jq F a pC L L (λ_ _ _ _ _ _ e b=>by obtain⟨_,rfl⟩:=L2.iY b;rfl) λ_ _ _ _ _ _ g =>
  (au (bF (w_sum B.Na (ae (oB 1 ["text", "book"] L (iG (qv 0)) (kQ) (λ_ _ _ _ _=>(dq 0 (show List.Nodup (["text", "book"]:List Str) from by decide +kernel) L Q3 (Or.inr L))) (λ_ _ _ _ _=>(dD B.Es (ae (qv 0) ai))) L L (by decide)) ai))))
abbrev dS:Stmt:=inClass (top 19) 2
def g0:cg Ql Ql (ah dS):=by constructor<;>first | rfl | decide +kernel
def aQ(F:Er K "grow" "Machine.grow" dS f e)(b:Meth K D "grow" f)(B:FV mg)(O:Fq K mg C D)(Z:FT K mg XA XB)(i:MtAt P w K mg base 4 (gX K C D XA XB) 0 "head_grown" Qh [false,false] aP)(h:∀m,FnXt P w K mg base 2 "refuse_no_text" Qe ((gX K C D XA XB).at m) aE)(g:∀m,FnAt P w K mg base 1 "signs_in" ["book"] ((gX K C D XA XB).at m) c4) :
  MtAt P w K mg base 5 (gX K C D XA XB) 1 "grow" Ql [false,false] aw:=j8 F b O.Ei (dZ (by decide +kernel) (by decide +kernel)) g0 L L (λ_ _ _ _ _ _ j d=>by obtain⟨_,_,_,rfl⟩:=L2.qN d;rfl) λ_ _ _ _ _ _ _ a =>
  (aj (wD (cT (h _).plain a (ae (w_fld gJ (cA O) (qv 0)) (ae (qv 1) ai)) (by decide) L L L L) L)
  (aj (cN (dN (zO.or nr) zV oZ (w_add (cT (g _) a (ae (w_fld gJ (cA O) (qv 0)) ai) (by decide) L L L L) (dD B.Es (ae (qv 2) ai))) (kN B.FR L L) (gp _)) (au uD) bM)
  (aj (sv gJ a (eU 5 (ig O) (bt 0)) (qv 1) (fq gJ i.at a (by decide) (eU 6 (jL O) (bt 0)) (ae (cy (w_fld gJ (ig O) (qv 0)) (qv 1) (λ_ _=>rfl)) (ae (qv 2) ai))) (λ_=>rfl) L L L)
  (au (jk gJ a (eU 4 (cA O) (bt 0)) (qv 1) (w_add (cy (w_fld gJ (cA O) (qv 0)) (qv 1) (λ_ _=>rfl)) (qv 2)))))))
def bx{m:Me}(F:Er K "grow" "Machine.grow" dS f e)(b:Meth K D "grow" f)(B:FV mg)(O:Fq K mg C D)(Z:FT K mg XA XB)(h:∀m,FnXt P w K mg base 2 "refuse_no_text" Qe ((gX K C D XA XB).at m) aE)(g:∀m,FnAt P w K mg base 1 "signs_in" ["book"] ((gX K C D XA XB).at m) c4) :
  MxAt P w K mg base 5 ((gX K C D XA XB).at m) 1 "grow" Ql aR:=uQ F b O.Ei (dZ (by decide +kernel) (by decide +kernel)) g0 L L (λ_ _ _ _ _ _ i d=>by obtain⟨_,_,_,rfl⟩:=L2.qN d;rfl) λ_ _ _ _ _ _ a =>
  (j4 (nP (zv (h _) a (ae (w_fld gJ (cA O) (qv 0)) (ae (qv 1) ai)) (by decide) L L L L L) L) (j4 (yq (dN (zO.or nr) zV oZ (w_add (cT (g _) a (ae (w_fld gJ (cA O) (qv 0)) ai) (by decide) L L L L) (dD B.Es (ae (qv 2) ai))) (kN B.FR L L) (gp _)) (iP (lR Z.q1 Z.m1 L L (ae (bf (by decide +kernel) (by decide)) ai) L L L L)) (kW bM)) zK))
abbrev bI:Stmt:=inClass (top 19) 0
def cz:cg ["self", "book", "text"] Qf (ah bI):=by constructor<;>first | rfl | decide +kernel
def bJ(F:Hi K "__init__" "Machine.__init__" bI f i)(h:Mk K D f)(B:FV mg)(O:Fq K mg C D)(Z:FT K mg XA XB)(m:MtAt P w K mg base 1 (gX K C D XA XB) 1 "begin" Qm [] aB)(l:MtAt P w K mg base 5 (gX K C D XA XB) 1 "grow" Ql [false,false] aw)(j:InAt P w K mg base 2 (gX K C D XA XB) 0 0 "Nodes" Qm bL) :
  InAd P w K mg base 6 (gX K C D XA XB) 1 1 "Machine" Qf aW:=vM F h O.GB cz L L (λ_ _ _ _ _ _ _ _ _ _ g X d a e=>by obtain⟨_,_,rfl⟩:=L2.eY e;exact PySem.W.binds_K X L d a L L) (λ_ _ _ _ _ _ _ _ _ _ g X d a e=>by obtain⟨_,rfl⟩:=L2.iY (Wu e);exact PySem.W.binds_K X L d a L L) λ_ _ _ _ _ _ _ b =>
  (aj (gP 0 4 gJ (cA O) (bH ai))
  (aj (gP 0 5 gJ (ig O) (bH ai))
  (aj (gP 0 6 gJ (jL O) (sD j.at b (by decide) L L))
  (au (cN (jK (qv 1)) (au (jS YX L (iG (qv 1)) (dq 2 cz.nd L Q3 Q3)
  (au (iA (wo l.at b (by decide) L Q3 L L (jT gJ m.at b (by decide) (bt 0) L) (ae (qv 2) ai) L L L) L)))) bM)))))
def b7(F:Hi K "__init__" "Machine.__init__" bI f j)(h:Mk K D f)(B:FV mg)(O:Fq K mg C D)(Z:FT K mg XA XB)(d:MtAt P w K mg base 1 (gX K C D XA XB) 1 "begin" Qm [] aB)(o:MtAt P w K mg base 5 (gX K C D XA XB) 1 "grow" Ql [false,false] aw)(l:InAt P w K mg base 2 (gX K C D XA XB) 0 0 "Nodes" Qm bL)(n:∀m,MxAt P w K mg base 1 ((gX K C D XA XB).at m) 1 "begin" Qm bB)(b:∀m,MxAt P w K mg base 5 ((gX K C D XA XB).at m) 1 "grow" Ql aR) :
  InXt P w K mg base 6 (gX K C D XA XB) 1 1 "Machine" Qf bK:=yc F h O.GB cz L L (λ_ _ _ _ _ _ _ _ _ _ p X g e i=>by obtain⟨_,_,rfl⟩:=L2.eY i;exact PySem.W.binds_K X L g e L L) λ_ _ _ _ _ _ _ a =>
  (j4 (nH (gP 0 4 gJ (cA O) (bH ai))) (j4 (nH (gP 0 5 gJ (ig O) (bH ai))) (j4 (nH (gP 0 6 gJ (jL O) (sD l.at a (by decide) L L))) (iP (yq (jK (qv 1)) (iP (CG PassesOwn.leaving L (iG (qv 1)) (dq 2 cz.nd L Q3 Q3) (iP (zI (wc 0 (b _) a (by decide) L Q3 L L L (pH (n _) (qv 0) a (by decide) L L) (ae (qv 2) ai) L L L L)
  (zI (vy 0 (b _) a (by decide) L Q3 L L L (jT gJ d.at a (by decide) (bt 0) L) (ae (qv 2) ai) L L L L)
  (nH (iA (wo o.at a (by decide) L Q3 L L (jT gJ d.at a (by decide) (bt 0) L) (ae (qv 2) ai) L L L) L))))))) (kW bM))))))
abbrev fI:Stmt:=inClass (top 19) 3
def kM:cg Qm Qm (ah fI):=by constructor<;>first | rfl | decide +kernel
def bO{m:Me}(F:Er K "book" "Machine.book" fI f d)(a:Meth K D "book" f)(B:FV mg)(O:Fq K mg C D)(Z:FT K mg XA XB) :
  MpAt P w K mg base 1 ((gX K C D XA XB).at m) 1 "book" Qm bg:=lH F a O.Ei (dZ (by decide +kernel) (by decide +kernel)) kM L L (λ_ _ _ _ _ _ e b=>by obtain⟨_,rfl⟩:=L2.iY b;rfl) λ_ _ _ _ _ _ g =>
  (au (bF (sO B.Jw (ae (w_fld gJ (cA O) (qv 0)) ai))))
abbrev eW:Stmt:=inClass (top 19) 4
def kh:cg Qm Qm (ah eW):=by constructor<;>first | rfl | decide +kernel
def bC{m:Me}(F:Er K "table" "Machine.table" eW f e)(b:Meth K D "table" f)(B:FV mg)(O:Fq K mg C D)(Z:FT K mg XA XB)(g:∀m,MpAt P w K mg base 2 ((gX K C D XA XB).at m) 0 "table" Qm dk) :
  MpAt P w K mg base 3 ((gX K C D XA XB).at m) 1 "table" Qm bh:=lH F b O.Ei (dZ (by decide +kernel) (by decide +kernel)) kh L L (λ_ _ _ _ _ _ h d=>by obtain⟨_,rfl⟩:=L2.iY d;rfl) λ_ _ _ _ _ _ a =>
  (au (bF (di (g _) a (by decide) (w_fld gJ (jL O) (qv 0)))))
abbrev gk:Stmt:=top 21
def lS:cg Qb Qb (ah gk):=by constructor<;>first | rfl | decide +kernel
def aY{m:Me}(F:Er K "_law_cell_at" "_law_cell_at" gk f d)(a:mg "_law_cell_at" = Y (.ref f))(B:FV mg)(O:Fq K mg C D)(Z:FT K mg XA XB) :
  FnAt P w K mg base 1 "_law_cell_at" Qb ((gX K C D XA XB).at m) aJ:=jq F a lS L L (λ_ _ _ _ _ _ e b=>by obtain⟨_,_,rfl⟩:=L2.eY b;rfl) λ_ _ _ _ _ _ g =>
  (aj (cN (dN oF rW iz (qv 1) (dD B.Es (ae (qv 0) ai)) (gp _)) (au (bF (cy (qv 0) (qv 1) (λ_ _=>rfl)))) bM)
  (au (bF aq)))
abbrev iw:Stmt:=top 22
def gQ:cg ["_law_cell", "_law_k", "_law_number"] Q5 (ah iw):=by constructor<;>first | rfl | decide +kernel
def eD{m:Me}(F:Er K "_law_mixed" "_law_mixed" iw f d)(a:mg "_law_mixed" = Y (.ref f))(B:FV mg)(O:Fq K mg C D)(Z:FT K mg XA XB) :
  FnAt P w K mg base 1 "_law_mixed" Q5 ((gX K C D XA XB).at m) eK:=jq F a gQ L L (λ_ _ _ _ _ _ e b=>by obtain⟨_,_,rfl⟩:=L2.eY b;rfl) λ_ _ _ _ _ _ g =>
  (aj (aA (w_mod (w_add (w_add (w_mod (qv 0) aq) (cO j0 jX aq (qv 1))) aq) aq) gQ.nd L Q3)
  (aj (aA (w_add (w_mod (cO j0 jX (qv 2) (qv 2)) aq) (cO j0 jX aq (qv 1))) gQ.nd L Q3)
  (au (bF (w_mod (cO j0 jX (qv 2) (qv 2)) aq)))))
abbrev jb:Stmt:=top 23
def cW:cg ["_law_script", "_law_letters", "_law_most", "_law_j", "_law_cell", "_law_size", "_law_signs", "_law_k"] Qc (ah jb):=by constructor<;>first | rfl | decide +kernel
def fB{m:Me}(F:Er K "_law_text" "_law_text" jb f g)(d:mg "_law_text" = Y (.ref f))(B:FV mg)(O:Fq K mg C D)(Z:FT K mg XA XB)(b:∀m,FnAt P w K mg base 1 "_law_cell_at" Qb ((gX K C D XA XB).at m) aJ)(h:∀m,FnAt P w K mg base 1 "_law_mixed" Q5 ((gX K C D XA XB).at m) eK) :
  FnAt P w K mg base 2 "_law_text" Qc ((gX K C D XA XB).at m) dB:=jq F d cW L L (λ_ _ _ _ _ _ i e=>by obtain⟨_,_,_,_,rfl⟩:=L2.Bv e;rfl) λ_ _ _ _ _ _ a =>
  (aj (aA (cT (b _) a (ae (qv 0) (ae (w_add aq (qv 3)) ai)) (by decide) L L L L) cW.nd L Q3)
  (aj (aA (w_mod (qv 4) (w_add (qv 2) aq)) cW.nd L Q3)
  (aj (aA (fE (qv 4) (w_add (qv 2) aq)) cW.nd L Q3)
  (aj (gK (bH ai) cW.nd L Q3)
  (aj (jS YX L (i9 (qv 5) L B.Hf) (dq 7 cW.nd L Q3 Q3)
  (au (cN (pI a (w_mod (cT (b _) a (ae (qv 0) (ae aq ai)) (by decide) L L L L) aq) aq) (aj (jv 6 (ae (cy (qv 1) (w_mod (qv 4) (dD B.Es (ae (qv 1) ai))) (λ_ _=>rfl)) ai) L L Q3 L L)
  (au (aA (fE (qv 4) (dD B.Es (ae (qv 1) ai))) cW.nd L Q3))) (au (jv 6 (ae (cy (qv 1) (w_mod (fE (cT (h _) a (ae (qv 4) (ae (w_add (cO j0 jX aq (qv 3)) (qv 7)) ai)) (by decide) L L L L) aq) (dD B.Es (ae (qv 1) ai))) (λ_ _=>rfl)) ai) L L Q3 L L)))))
  (n9 6 (au (bF (n8 (bf (by decide +kernel) (by decide)) (ae (qv 6) ai))))))))))
abbrev jg:Stmt:=top 24
def cQ:cg ["_law_script", "_law_cell", "_law_letters", "_law_count", "_law_most"] Qd (ah jg):=by constructor<;>first | rfl | decide +kernel
def fJ{m:Me}(F:Er K "_law_book" "_law_book" jg f e)(b:mg "_law_book" = Y (.ref f))(B:FV mg)(O:Fq K mg C D)(Z:FT K mg XA XB)(h:∀m,FnAt P w K mg base 1 "_law_cell_at" Qb ((gX K C D XA XB).at m) aJ)(g:∀m,FnAt P w K mg base 2 "_law_text" Qc ((gX K C D XA XB).at m) dB) :
  FnAt P w K mg base 3 "_law_book" Qd ((gX K C D XA XB).at m) gG:=jq F b cQ L L (λ_ _ _ _ _ _ i d=>by obtain⟨_,rfl⟩:=L2.iY d;rfl) λ_ _ _ _ _ _ a =>
  (aj (aA (cT (h _) a (ae (eQ 0 L (Or.inr Q3) L L) (ae aq ai)) (by decide) L L L L) cQ.nd L Q3)
  (aj (aA (cy (bH (ae (bf (by decide +kernel) (by decide)) (ae (bf (by decide +kernel) (by decide)) (ae (bf (by decide +kernel) (by decide)) (ae (bf (by decide +kernel) (by decide)) (ae (bf (by decide +kernel) (by decide)) (ae (bf (by decide +kernel) (by decide)) ai))))))) (w_mod (fE (qv 1) aq) aq) (λ_ _=>rfl)) cQ.nd L (Or.inr L))
  (aj (aA (cy (bH (ae aq (ae aq (ae aq (ae aq (ae aq (ae aq (ae aq (ae aq ai))))))))) (w_mod (fE (qv 1) aq) aq) (λ_ _=>rfl)) cQ.nd L Q3)
  (aj (aA (cy (bH (ae aq (ae aq (ae aq (ae aq ai))))) (cO lB lF (Ak B.Nb (ae (qv 3) (ae aq ai))) aq) (λ_ _=>rfl)) cQ.nd L (Or.inr L))
  (aj (cN (pI a (w_mod (fE (qv 1) aq) aq) aq) (au (aA (fE aq (Bp B.Nc (ae aq (ae (qv 3) ai)))) cQ.nd L (Or.inr L))) bM)
  (aj (cN (Iu.Kg (kU (pI a (qv 3) aq) (kY (qf a (w_mod (fE (qv 1) aq) aq) aq)))) (au (aA aq cQ.nd L (Or.inr L))) bM)
  (au (bF (oB 1 Q7 L (i9 (qv 3) L B.Hf) (kQ) (λ_ _ _ _ _=>(dq 0 (show List.Nodup Q7 from by decide +kernel) L Q3 (Or.inr L))) (λ_ _ _ _ _=>(cT (g _) a (ae (eQ 1 L (Or.inr Q3) L L) (ae (eQ 3 L (Or.inr Q3) L L) (ae (eQ 5 L (Or.inr Q3) L L) (ae (qv 0) ai)))) (by decide) L L L L)) L L (by decide))))))))))
abbrev ir:Stmt:=top 25
def jE:cg ["_law_error", "_law_marks_here"] Q6 (ah ir):=by constructor<;>first | rfl | decide +kernel
def bN{m:Me}(F:Er K "_law_marks" "_law_marks" ir f d)(a:mg "_law_marks" = Y (.ref f))(B:FV mg)(O:Fq K mg C D)(Z:FT K mg XA XB) :
  FnHt P w K mg base 1 "_law_marks" Q6 ((gX K C D XA XB).at m) cU:=xn F a jE L L (λ_ _ _ _ _ _ e b=>by obtain⟨_,rfl⟩:=L2.iY b;rfl) λ_ _ _ _ _ _ =>
  (aj (gK (bH (ae (uU true false (qv 0) L Z.GC.choose_spec.1 L L L B.En L Z.x0 Z.x1 Z.GC.choose_spec.2.1 Z.GC.choose_spec.2.2 L L L) (ae (uU false true (qv 0) L Z.FZ.choose_spec.1 L L L B.En L Z.x0 Z.x1 Z.FZ.choose_spec.2.1 Z.FZ.choose_spec.2.2 L L L) (ae (Bh true true (qv 0) L B.Hg L (by decide) L L L B.En L Z.x0 Z.x1 Z.FL.1 Z.FL.2 L L L) ai)))) jE.nd L Q3)
  (aj (jv 1 (ae (Af (qv 0) (Nat.le_of_ble_eq_true L) L B.En (AJ L ⟨Z.x0,(dy L Z.FO.choose_spec.1 Z.FO.choose_spec.2.1 L L (dy L Z.Fb.choose_spec.1 Z.Fb.choose_spec.2.1 L L (dy L Z.Gp.choose_spec.1 Z.Gp.choose_spec.2.1 L L (dy L Z.Fx.choose_spec.1 Z.Fx.choose_spec.2.1 L L (dy L Z.Fu.choose_spec.1 Z.Fu.choose_spec.2.1 L L (dy L Z.FN.choose_spec.1 Z.FN.choose_spec.2.1 L L xx))))))⟩ ⟨Z.x1,(dy L Z.FO.choose_spec.1 Z.FO.choose_spec.2.2 L L (dy L Z.Fb.choose_spec.1 Z.Fb.choose_spec.2.2 L L (dy L Z.Gp.choose_spec.1 Z.Gp.choose_spec.2.2 L L (dy L Z.Fx.choose_spec.1 Z.Fx.choose_spec.2.2 L L (dy L Z.Fu.choose_spec.1 Z.Fu.choose_spec.2.2 L L (dy L Z.FN.choose_spec.1 Z.FN.choose_spec.2.2 L L xx))))))⟩) L L L) ai) L L Q3 L L)
  (au (gw 1 L (Or.inl L) L L))))
abbrev fP:Stmt:=top 26
def ft:cg Q8 ["_law_machine"] (ah fP):=by constructor<;>first | rfl | decide +kernel
def eJ{m:Me}(F:Er K "_law_begun" "_law_begun" fP f e)(b:mg "_law_begun" = Y (.ref f))(B:FV mg)(O:Fq K mg C D)(Z:FT K mg XA XB)(h:∀m,MxAt P w K mg base 1 ((gX K C D XA XB).at m) 1 "begin" Qm bB)(g:∀m,FnHt P w K mg base 1 "_law_marks" Q6 ((gX K C D XA XB).at m) cU) :
  FnAt P w K mg base 2 "_law_begun" ["_law_machine"] ((gX K C D XA XB).at m) fU:=jq F b ft L L (λ_ _ _ _ _ _ j d=>by obtain⟨_,rfl⟩:=L2.iY d;rfl) λi A outer s H E a =>
  (aj (aA (bH ai) ft.nd L Q3)
  (aj (om (X:=(fh EX P w K mg base Q8 "_law_begun" (ah fP) f i A outer s H E).EO) (G:=((gX K C D XA XB).at m)) 2 L L (λ_ _=>(iP (nP (pH (h _) (qv 0) a (by decide) L L) L)))
  (λ_=>(au (aA (oh (g _) (qC a) (ae (qv 2) ai) (by decide) L L L L) ft.nd L Q3))) ft.nd L L Z.El.choose_spec.1 L L Z.m0 Z.El.choose_spec.2.1 Z.m1 Z.El.choose_spec.2.2)
  (au (bF (w_eq a (qv 1) (bH (ae eG (ae eG (ae eG (ae eG ai))))))))))
abbrev gF:Stmt:=top 27
def gb:cg Q4 ["_law_book_here"] (ah gF):=by constructor<;>first | rfl | decide +kernel
def dX{m:Me}(F:Er K "_law_made" "_law_made" gF f e)(b:mg "_law_made" = Y (.ref f))(B:FV mg)(O:Fq K mg C D)(Z:FT K mg XA XB)(h:InXt P w K mg base 6 (gX K C D XA XB) 1 1 "Machine" Qf bK)(g:∀m,FnHt P w K mg base 1 "_law_marks" Q6 ((gX K C D XA XB).at m) cU) :
  FnAt P w K mg base 8 "_law_made" ["_law_book_here"] ((gX K C D XA XB).at m) fL:=jq F b gb L L (λ_ _ _ _ _ _ j d=>by obtain⟨_,rfl⟩:=L2.iY d;rfl) λi A outer s H E a =>
  (aj (aA (bH ai) gb.nd L Q3)
  (aj (om (X:=(fh EX P w K mg base Q4 "_law_made" (ah gF) f i A outer s H E).EO) (G:=((gX K C D XA XB).at m)) 2 L L (λ_ _=>(iP (nP (A8 h.at a (by decide) (ae (qv 0) ai) xE L L L L L) L)))
  (λ_=>(au (aA (oh (g _) (qC a) (ae (qv 2) ai) (by decide) L L L L) gb.nd L Q3))) gb.nd L L Z.El.choose_spec.1 L L Z.m0 Z.El.choose_spec.2.1 Z.m1 Z.El.choose_spec.2.2)
  (au (bF (w_eq a (qv 1) (bH (ae eG (ae eG (ae eG (ae eG ai))))))))))
abbrev fZ:Stmt:=top 28
def fo:cg Q9 Qa (ah fZ):=by constructor<;>first | rfl | decide +kernel
def cP{m:Me}(F:Er K "_law_grown" "_law_grown" fZ f e)(b:mg "_law_grown" = Y (.ref f))(B:FV mg)(O:Fq K mg C D)(Z:FT K mg XA XB)(g:∀m,MxAt P w K mg base 5 ((gX K C D XA XB).at m) 1 "grow" Ql aR)(h:∀m,FnHt P w K mg base 1 "_law_marks" Q6 ((gX K C D XA XB).at m) cU) :
  FnAt P w K mg base 6 "_law_grown" Qa ((gX K C D XA XB).at m) dE:=jq F b fo L L (λ_ _ _ _ _ _ j d=>by obtain⟨_,_,_,_,rfl⟩:=L2.Bv d;rfl) λi A outer s H E a =>
  (aj (aA (bH ai) fo.nd L Q3)
  (aj (om (X:=(fh EX P w K mg base Q9 "_law_grown" (ah fZ) f i A outer s H E).EO) (G:=((gX K C D XA XB).at m)) 5 L L (λ_ _=>(iP (nP (yx (g _) (qv 0) a (by decide) (ae (qv 1) (ae (qv 2) ai)) L L L L) L)))
  (λ_=>(au (aA (oh (h _) (qC a) (ae (qv 5) ai) (by decide) L L L L) fo.nd L Q3))) fo.nd L L Z.El.choose_spec.1 L L Z.m0 Z.El.choose_spec.2.1 Z.m1 Z.El.choose_spec.2.2)
  (au (bF (w_eq a (qv 4) (bH (ae (w_eq a (qv 3) (bf (by decide +kernel) (by decide))) (ae (w_eq a (qv 3) (bf (by decide +kernel) (by decide))) (ae eG (ae eG ai))))))))))
abbrev jF:Stmt:=top 29
def fe:cg ["_law_script", "_law_book_here", "_law_machine", "_law_left", "_law_table", "_law_k", "_law_cell", "_law_number", "_law_word", "_law_long_word", "_law_great", "_law_due"] Qd (ah jF):=by constructor<;>first | rfl | decide +kernel
def BY{m:Me}(F:Er K "law" "law" jF f g)(B:FV mg)(O:Fq K mg C D)(Z:FT K mg XA XB)(i:InAd P w K mg base 6 (gX K C D XA XB) 1 1 "Machine" Qf aW)(p:MtAt P w K mg base 1 (gX K C D XA XB) 1 "begin" Qm [] aB)(b:∀m,MpAt P w K mg base 1 ((gX K C D XA XB).at m) 1 "book" Qm bg)(j:MtAt P w K mg base 5 (gX K C D XA XB) 1 "grow" Ql [false,false] aw)(d:∀m,MpAt P w K mg base 3 ((gX K C D XA XB).at m) 1 "table" Qm bh)(n:∀m,FnAt P w K mg base 2 "_law_begun" ["_law_machine"] ((gX K C D XA XB).at m) fU)(l:∀m,FnAt P w K mg base 3 "_law_book" Qd ((gX K C D XA XB).at m) gG)(o:∀m,FnAt P w K mg base 1 "_law_cell_at" Qb ((gX K C D XA XB).at m) aJ)(e:∀m,FnAt P w K mg base 6 "_law_grown" Qa ((gX K C D XA XB).at m) dE)(h:∀m,FnAt P w K mg base 8 "_law_made" ["_law_book_here"] ((gX K C D XA XB).at m) fL) :
  FnOk P w K mg base EX 9 f g Qd (GA ((gX K C D XA XB).at m) uu):=Pc F fe L L λ_ _ _ _ _ _ a =>
  (aj (aA (cT (l _) a (ae (qv 0) ai) (by decide) L L L L) fe.nd L Q3)
  (aj (gK (wt i.at.in a (by decide) (ae (sO B.Jw (ae (qv 1) ai)) ai) xE L L L L) fe.nd L Q3)
  (aj (aA (cO lB lF aq (dD B.Es (ae (n8 (bf (by decide +kernel) (by decide)) (ae (qv 1) ai)) ai))) fe.nd L Q3)
  (aj (aA (di (d _) a (by decide) (qv 2)) fe.nd L Q3)
  (aj (jS YX L (i9 aq L B.Hf) (dq 5 fe.nd L Q3 Q3)
  (aj (aA (w_add (cT (o _) a (ae (qv 0) (ae (w_add aq (qv 5)) ai)) (by decide) L L L L) (cO j0 jX aq (qv 5))) fe.nd L Q3)
  (aj (aA (cy (bH (ae (dD B.Es (ae (qv 1) ai)) (ae Dj (ae eG (ae qG (ae (bf (by decide +kernel) (by decide)) (ae (cO vC xo aq aq) (ae (A4 (cO vC xo aq aq)) (ae (bH (ae aq ai)) (ae (w_add (dD B.Es (ae (qv 1) ai)) aq) ai)))))))))) (w_mod (qv 6) aq) (λ_ _=>rfl)) fe.nd L Q3)
  (aj (aA (cy (bH (ae (bf (by decide +kernel) (by decide)) (ae (bf (by decide +kernel) (by decide)) (ae (cO jz jV (bf (by decide +kernel) (by decide)) (w_add (qv 3) aq)) (ae (bf (by decide +kernel) (by decide)) ai))))) (w_mod (fE (qv 6) aq) aq) (λ_ _=>rfl)) fe.nd L Q3)
  (aj (cN (fW (gE (cT (e _) a (ae (qv 2) (ae (qv 7) (ae (qv 8) (ae (bf (by decide +kernel) (by decide)) ai)))) (by decide) L L L L))) (au (bF eG)) bM)
  (aj (aA (gC (cO jz jV (bf (by decide +kernel) (by decide)) aq) gs (gx (w_add (w_add (qv 3) aq) (w_mod (fE (qv 6) aq) aq)))) fe.nd L Q3)
  (au (cN (Iu.Kg (kU (qf a (qv 1) (bH ai)) (kY (fW (gE (cT (e _) a (ae (qv 2) (ae (w_mod (fE (qv 6) aq) (dD B.Es (ae (qv 1) ai))) (ae (qv 9) (ae (bf (by decide +kernel) (by decide)) ai)))) (by decide) L L L L)))))) (au (bF eG)) bM))))))))
  (aj (cN (Iu.Kg (oy (qf a (di (d _) a (by decide) (qv 2)) (qv 4)) (nQ (qf a (di (b _) a (by decide) (qv 2)) (qv 1))))) (au (bF eG)) bM)
  (aj (aA (w_add (bH (ae (cO jz jV (bf (by decide +kernel) (by decide)) (cO lB lF aq (dD B.Es (ae (n8 (bf (by decide +kernel) (by decide)) (ae (gC (qv 1) gs (gx aq)) ai)) ai)))) ai)) (gC (qv 1) gs (gx aq))) fe.nd L Q3)
  (aj (cN (Iu.Kg (oy (fW (gE (cT (h _) a (ae (gC (w_add (qv 1) (cO q9 ou (bH (ae (bf (by decide +kernel) (by decide)) ai)) aq)) gs (gx aq)) ai) (by decide) L L L L))) (nQ (fW (gE (cT (h _) a (ae (qv 10) ai) (by decide) L L L L)))))) (au (bF eG)) bM)
  (aj (iJ YX (dN oF rW iz (dD B.Es (ae (di (b _) a (by decide) (qv 2)) ai)) aq (gp _))
  (au (iA (jT gJ p.at a (by decide) (bt 2) L) L)))
  (aj (cN (Iu.Kg (oy (fW (gE (cT (n _) a (ae (qv 2) ai) (by decide) L L L L))) (nQ (qf a (di (b _) a (by decide) (qv 2)) (gC (w_add (qv 1) (cO q9 ou (bH (ae (bf (by decide +kernel) (by decide)) ai)) aq)) gs (gx aq)))))) (au (bF eG)) bM)
  (aj (iA (fq gJ j.at a (by decide) (bt 2) (ae aq (ae (cO jz jV (bf (by decide +kernel) (by decide)) (qv 3)) ai))) L)
  (aj (cN (fW (gE (cT (e _) a (ae (qv 2) (ae aq (ae (bf (by decide +kernel) (by decide)) (ae (bf (by decide +kernel) (by decide)) ai)))) (by decide) L L L L))) (au (bF eG)) bM)
  (aj (gK (gC (w_add (qv 1) (cO q9 ou (bH (ae (bf (by decide +kernel) (by decide)) ai)) aq)) gs (gx aq)) fe.nd L Q3)
  (aj (Dm 11 gJ a aq (w_add (cy (qv 11) aq (λ_ _=>rfl)) (cO jz jV (bf (by decide +kernel) (by decide)) (qv 3))) L Q3 L L (λ_=>rfl) L L L)
  (n9 11 (au (rz (xQ (w_eq a (di (b _) a (by decide) (qv 2)) (qv 11)) (zo (AO (fq gJ j.at a (by decide) (bt 2) (ae aq (ae (bf (by decide +kernel) (by decide)) ai)))) (u0 (w_eq a (di (d _) a (by decide) (qv 2)) (di (d _) a (by decide) (wt i.at.in a (by decide) (ae (qv 11) ai) xE L L L L)))))))))))))))))))))))
end
abbrev gN(K:Wv)(x:Str)(f:GM):Prop:=PySem.W.nsIn K mainGlobals x=Y (Y (.ref f))
abbrev gZ(K:Wv)(x:Str):Prop:=PySem.W.nsIn K mainGlobals x=Y M
def all_mk{l:PySem.W.OpenLaw}{K:Wv}(X:K.In h)(G:h.Ns mainGlobals f)(S7:f "law" = Y (.ref fa))(OV:∀ns:We,uu [.scr ns]=Y (.fr,.bl true))(a0:Meth K C "new_node" f0)(F0:Er K "new_node" "Nodes.new_node" d8 f0 TK)(a1:Mk K C f1)(F1:Er K "__init__" "Nodes.__init__" d2 f1 TJ)(a2:Meth K C "node_just_behind" f2)(F2:Er K "node_just_behind" "Nodes.node_just_behind" cx f2 TH)(a3:Meth K C "head_behind" f3)(F3:Er K "head_behind" "Nodes.head_behind" de f3 TF)(a4:Meth K C "head_grown" f4)(F4:Er K "head_grown" "Nodes.head_grown" dz f4 TC)(a5:Meth K C "numbers_by_node" f5)(F5:Er K "numbers_by_node" "Nodes.numbers_by_node" cE f5 TB)(a6:Meth K C "row_of" f6)(F6:Er K "row_of" "Nodes.row_of" fK f6 Tz)(a7:Meth K C "table" f7)(F7:Er K "table" "Nodes.table" gm f7 Tw)(a8:Meth K D "begin" f8)(F8:Er K "begin" "Machine.begin" dw f8 Tv)(a9:gN K "is_whole" f9)(F9:Er K "is_whole" "is_whole" iS f9 Tu)(Ue:gN K "refuse_no_text" NW)(F10:Er K "refuse_no_text" "refuse_no_text" d4 NW Pq)(Ud:gN K "signs_in" MZ)(U:Er K "signs_in" "signs_in" i7 MZ Pp)(Rv:Meth K D "grow" Rk)(i:Er K "grow" "Machine.grow" dS Rk Po)(Ru:Mk K D j)(Qs:K.lookup j=Y ⟨Oy,Ow,.func (PySem.W.fnOf "__init__" "Machine.__init__" (bW bI) (aD bI) (ah bI) (.ref g) OH PB Om PJ M9 PD),Of⟩)(Rt:PySem.W.codeIn K M9 "Machine.__init__" = true)(Qu:PySem.W.keepIn K (.ref j)=true)(PY:K.lookup g=Y Mq)(PR:Mq.data=.seq #[.none] OE)(Uc:Meth K D "book" Rj)(S:Er K "book" "Machine.book" fI Rj Pn)(Ub:Meth K D "table" Ri)(R:Er K "table" "Machine.table" eW Ri Pm)(Ua:gN K "_law_cell_at" Rh)(Q:Er K "_law_cell_at" "_law_cell_at" gk Rh Pl)(T9:gN K "_law_mixed" Rg)(P:Er K "_law_mixed" "_law_mixed" iw Rg Pk)(T8:gN K "_law_text" Rf)(N:Er K "_law_text" "_law_text" jb Rf Pj)(T7:gN K "_law_book" Rc)(J:Er K "_law_book" "_law_book" jg Rc Ph)(T6:gN K "_law_marks" Rb)(H:Er K "_law_marks" "_law_marks" ir Rb Pg)(T5:gN K "_law_begun" Ra)(E:Er K "_law_begun" "_law_begun" fP Ra Pf)(T4:gN K "_law_made" QZ)(A:Er K "_law_made" "_law_made" gF QZ Pe)(T3:gN K "_law_grown" QY)(z:Er K "_law_grown" "_law_grown" fZ QY Pd)(T2:gN K "law" n)(Sk:K.lookup n=Y ⟨Ox,Ov,.func (PySem.W.fnOf "law" "law" (bW jF) (aD jF) (ah jF) .none MB M6 Mo Nf o M7),Oe⟩)(TZ:PySem.W.codeIn K o "law" = true)(Sl:PySem.W.keepIn K (.ref n)=true)(GX:gZ K "ValueError")(Kw:gZ K "bool")(Kv:gZ K "dict")(LY:gZ K "int")(GW:gZ K "isinstance")(LX:gZ K "len")(Ku:gZ K "list")(LW:gZ K "max")(LV:gZ K "min")(JM:gZ K "range")(IV:gZ K "sorted")(LU:gZ K "sum")(JL:gZ K "tuple")(GZ:PySem.W.nsIn K mainGlobals "MOST_SIGNS" = Y (Y (.int 120 G7)))(GY:PySem.W.nsIn K mainGlobals "MOST_TEXTS" = Y (Y (.int 8 G6)))(w_Nodes:gN K "Nodes" C)(Ek:FD K C)(E2:aX K C "longs")(E3:aX K C "links")(E9:aX K C "ways")(EZ:aX K C "texts")(E4:aX K C "heads")(E1:aX K C "nodes")(w_Machine:gN K "Machine" D)(Ei:FD K D)(EF:aX K D "longs")(EG:aX K D "links")(ER:aX K D "ways")(ED:aX K D "texts")(EH:aX K D "heads")(EE:aX K D "nodes")(w_NoBook:gN K "NoBook" t)(w_NoNumber:gN K "NoNumber" y)(w_NoRow:gN K "NoRow" p)(w_NoStand:gN K "NoStand" q)(w_NoTable:gN K "NoTable" r)(w_NoText:gN K "NoText" b)(w_NoWord:gN K "NoWord" u)(w_PartError:gN K "PartError" x)(w_TooMany:gN K "TooMany" a)(Oa:PySem.W.excIn K b [.type "ValueError",.type "Exception",.type "BaseException",.type "object"] "ValueError.__new__" = true)(Mc:PySem.W.findIn K (.ref b) "__getattribute__" = Y (Y (.builtin "BaseException.__getattribute__")))(Mb:PySem.W.findIn K (.ref b) "__getattr__" = Y M)(Ma:PySem.W.findObj K b M "__class__" = Y (.bind (.builtin "getset_descriptor.__get__") (.builtin "object.__class__")))(L9:PySem.W.mroIn K b (.type "object")=Y true)(L8:PySem.W.mroIn K b (.type "BaseException")=Y true)(N9:PySem.W.excIn K a [.type "ValueError",.type "Exception",.type "BaseException",.type "object"] "ValueError.__new__" = true)(L7:PySem.W.findIn K (.ref a) "__getattribute__" = Y (Y (.builtin "BaseException.__getattribute__")))(L6:PySem.W.findIn K (.ref a) "__getattr__" = Y M)(L5:PySem.W.findObj K a M "__class__" = Y (.bind (.builtin "getset_descriptor.__get__") (.builtin "object.__class__")))(L3:PySem.W.mroIn K a (.type "object")=Y true)(L1:PySem.W.mroIn K a (.type "BaseException")=Y true)(Gw:PySem.W.exmOne K (.ref b) (.ref x)=Y true)(Gv:PySem.W.exmOne K (.ref a) (.ref x)=Y true)(Hu:PySem.W.kitOne K (.ref b) (.ref t)=Y false)(Hr:PySem.W.kitOne K (.ref a) (.ref t)=Y false)(GO:PySem.W.kitOne K (.ref b) (.ref y)=Y false)(GN:PySem.W.kitOne K (.ref a) (.ref y)=Y false)(HL:PySem.W.kitOne K (.ref b) (.ref p)=Y false)(HK:PySem.W.kitOne K (.ref a) (.ref p)=Y false)(G5:PySem.W.kitOne K (.ref b) (.ref q)=Y false)(G2:PySem.W.kitOne K (.ref a) (.ref q)=Y false)(G4:PySem.W.kitOne K (.ref b) (.ref r)=Y false)(G1:PySem.W.kitOne K (.ref a) (.ref r)=Y false)(Ht:PySem.W.kitOne K (.ref b) (.ref b)=Y true)(Hq:PySem.W.kitOne K (.ref a) (.ref b)=Y false)(Hs:PySem.W.kitOne K (.ref b) (.ref u)=Y false)(Ho:PySem.W.kitOne K (.ref a) (.ref u)=Y false)(G3:PySem.W.kitOne K (.ref b) (.ref a)=Y false)(G0:PySem.W.kitOne K (.ref a) (.ref a)=Y true)(Gf:PySem.W.kitOne K (.ref b) (.type "ValueError")=Y true)(Ge:PySem.W.kitOne K (.ref a) (.type "ValueError")=Y true)
  : ∃fd:On,(∀(s:FB)(v:IR),BindsTo s fd ⟨[v],[]⟩ [("_law_script",v)])/\∀base:Re,K.In base->base.Ns mainGlobals f->FnOk l.prog w K f base EX 9 fa fd Qd (GA (Pa K) zg):=by
 have e:=S7.symm.trans (ZP X G T2);cases e;have B:FV f:=⟨Z1 X G GX,Z1 X G Kw,Z1 X G Kv,Z1 X G LY,Z1 X G GW,Z1 X G LX,Z1 X G Ku,Z1 X G LW,Z1 X G LV,Z1 X G JM,Z1 X G IV,Z1 X G LU,Z1 X G JL,⟨_,ZP X G GZ⟩,⟨_,ZP X G GY⟩⟩
 have O:Fq K f C D:=⟨Ek,ZP X G w_Nodes,E2,E3,E9,EZ,E4,E1,Ei,ZP X G w_Machine,EF,EG,ER,ED,EH,EE⟩
 have Z:FT K f b a:=⟨ZP X G w_NoText,Oa,⟨Mc,Mb,Ma,L9,L8⟩,ZP X G w_TooMany,N9,⟨L7,L6,L5,L3,L1⟩,⟨_,ZP X G w_PartError,Gw,Gv⟩,⟨_,ZP X G w_NoBook,Hu,Hr⟩,⟨_,ZP X G w_NoNumber,GO,GN⟩,⟨_,ZP X G w_NoRow,HL,HK⟩,⟨_,ZP X G w_NoStand,G5,G2⟩,⟨_,ZP X G w_NoTable,G4,G1⟩,⟨_,ZP X G w_NoText,Ht,Hq⟩,⟨_,ZP X G w_NoWord,Hs,Ho⟩,⟨_,ZP X G w_TooMany,G3,G0⟩,⟨Gf,Ge⟩⟩
 refine⟨PySem.W.fnOf "law" "law" (bW jF) (aD jF) (ah jF) .none MB M6 Mo Nf o M7,λs v=>.of_eq L,λbase _ _=>?_⟩;have aO:=aO l.prog w base F0 a0 B O Z;have bj:=bj l.prog w base F1 a1 B O Z aO;have aS:=aS l.prog w base F2 a2 B O Z aO;have bS:=bS l.prog w base F3 a3 B O Z aO aS;have bZ:=bZ l.prog w base F4 a4 B O Z bS;have br:=λm=>br (m:=m) l.prog w base F5 a5 B O Z;have cZ:=λm=>cZ (m:=m) l.prog w base F6 a6 B O Z;have dr:=λm=>dr (m:=m) l.prog w base F7 a7 B O Z br cZ;have aN:=aN l.prog w base F8 a8 B O Z;have bD:=λm=>bD (m:=m) l.prog w base F8 a8 B O Z;have fF:=λm=>fF (m:=m) l.prog w base F9 (ZP X G a9) B O Z;have bp:=λm=>bp (m:=m) l.prog w base F10 (ZP X G Ue) B O Z fF;have cV:=λm=>cV (m:=m) l.prog w base U (ZP X G Ud) B O Z;have aQ:=aQ l.prog w base i Rv B O Z bZ bp cV;have bx:=λm=>bx (m:=m) l.prog w base i Rv B O Z bp cV;have bJ:=bJ l.prog w base ⟨⟨_,_,_,_,_,_,_,_,_,_,_,_,rfl,Qs,Rt,PY,PR⟩,Qu⟩ Ru B O Z aN aQ bj;have b7:=b7 l.prog w base ⟨⟨_,_,_,_,_,_,_,_,_,_,_,_,rfl,Qs,Rt,PY,PR⟩,Qu⟩ Ru B O Z aN aQ bj bD bx;have bO:=λm=>bO (m:=m) l.prog w base S Uc B O Z;have bC:=λm=>bC (m:=m) l.prog w base R Ub B O Z dr;have aY:=λm=>aY (m:=m) l.prog w base Q (ZP X G Ua) B O Z;have eD:=λm=>eD (m:=m) l.prog w base P (ZP X G T9) B O Z;have fB:=λm=>fB (m:=m) l.prog w base N (ZP X G T8) B O Z aY eD;have fJ:=λm=>fJ (m:=m) l.prog w base J (ZP X G T7) B O Z aY fB;have bN:=λm=>bN (m:=m) l.prog w base H (ZP X G T6) B O Z;have eJ:=λm=>eJ (m:=m) l.prog w base E (ZP X G T5) B O Z bD bN;have dX:=λm=>dX (m:=m) l.prog w base A (ZP X G T4) B O Z b7 bN;have cP:=λm=>cP (m:=m) l.prog w base z (ZP X G T3) B O Z bx bN;exact zc L (BY l.prog w base (m:=λ_=>M) (vF (st:=jF) Sk TZ Sl) B O Z bJ aN bO aQ bC eJ fJ aY cP dX) OV
end T08
open PySem PySem.W PyProof.Rows PySem.W.X PySem.W.ZRun
set_option maxRecDepth 100000 in
set_option maxHeartbeats 0 in
theorem PySem.Challenge.cw_allparts_k08_what_a_machine_refuses_holds : PySem.Challenge.rw_allparts_k08_what_a_machine_refuses.Holds := by
 w_on;o_law;z_head;(case hw=>w_witness2)
 k_fill
 intro w s₀ s₁ mg mb G y fa o pm cd doc dV kV ho hd hcd hD hmg hg args vals as L hpre hlay hrd hwl hlo
 z_open y L KX ZH ZN ZT
 clear ZH ZN ZT;refine VS.vc (l:=PySem.Challenge.rw_allparts_k08_what_a_machine_refuses) (k:=9) (x := "_law_script") (g:=VS.zg) rfl rfl ⟨rfl,by decide,by decide⟩ (fun _=>rfl) ?F w s₀ s₁ mg mb G KX fa o pm cd doc dV kV ho hd hcd hD hmg hg args vals as hpre hlay hrd hwl hlo
 case F =>
  intro w mg fa h KX G hmg;apply T08.all_mk KX G hmg T08.wC
  (case w_Nodes=>unfold T08.gN;k_is)
  (case w_Machine=>unfold T08.gN;k_is)
  (case w_NoBook=>unfold T08.gN;k_is)
  (case w_NoNumber=>unfold T08.gN;k_is)
  (case w_NoRow=>unfold T08.gN;k_is)
  (case w_NoStand=>unfold T08.gN;k_is)
  (case w_NoTable=>unfold T08.gN;k_is)
  (case w_NoText=>unfold T08.gN;k_is)
  (case w_NoWord=>unfold T08.gN;k_is)
  (case w_PartError=>unfold T08.gN;k_is)
  (case w_TooMany=>unfold T08.gN;k_is)
  all_goals first | (refine' L2.vF ?l ?c ?k;(case l=>k_is);(case c=>k_is);(case k=>k_is)) | (refine' ⟨?l,?c,?k⟩;(case l=>k_is);(case c=>k_is);(case k=>k_is)) | (refine' ⟨?l,?c,?k,?d⟩;(case l=>k_is);(case c=>k_is);(case k=>k_is);(case d=>k_is)) | (unfold T08.gN;k_is) | (unfold T08.gZ;k_is) | (unfold L2.aX;k_is) | k_is | exact rfl | kernel_rfl
end
