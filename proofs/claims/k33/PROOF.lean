import PyProof.Rows.All
import Wide.All
import OpenK.AllK
import PySem.Challenge.RW_allparts_k33_texts_that_are_none
set_option linter.all false
set_option bootstrap.genMatcherCode false
set_option genSizeOf false
noncomputable section
namespace PySem.W.Fast
def tw6172952089438698419:True:=⟨⟩
def tw14873875531007704421:True:=⟨⟩
def tw7784455607674114232:True:=⟨⟩
def tw13401320686329119612:True:=⟨⟩
def tw8820635669064015904:True:=⟨⟩
def tw8333645015118416573:True:=⟨⟩
def tw176310679989838878:True:=⟨⟩
def tw14637312043952787878:True:=⟨⟩
def tw14865777463715064645:True:=⟨⟩
def tw1822370536365673572:True:=⟨⟩
def tw11379509436390045419:True:=⟨⟩
def tw10174859559397328591:True:=⟨⟩
def tw12925746817514236116:True:=⟨⟩
def tw17679301407585393424:True:=⟨⟩
def tw9390532426437721253:True:=⟨⟩
def tw7754659818589175244:True:=⟨⟩
def tw12790945454680531790:True:=⟨⟩
def tw6888662919873851673:True:=⟨⟩
def tw7651273427584174460:True:=⟨⟩
def tw13977949213609589534:True:=⟨⟩
def tw1281771578999060017:True:=⟨⟩
def tw2342562402936116790:True:=⟨⟩
def tw4638580253259285529:True:=⟨⟩
def tw4025413872892599455:True:=⟨⟩
def tw16052976115040133732:True:=⟨⟩
def tw10736855421527717341:True:=⟨⟩
def tw3950927033967735348:True:=⟨⟩
def tw2305155342009679933:True:=⟨⟩
def tw18225483148675355805:True:=⟨⟩
def tw7187139889849198919:True:=⟨⟩
def tw13958012551002389092:True:=⟨⟩
def tw6799593350960472243:True:=⟨⟩
def tw16363968032394526401:True:=⟨⟩
def tw15843598155673198897:True:=⟨⟩
def tw14249453593333049273:True:=⟨⟩
def tw13118603705932253841:True:=⟨⟩
def tw3626802088410074388:True:=⟨⟩
def tw14285787418502681561:True:=⟨⟩
def tw17780687870345305574:True:=⟨⟩
def tw11954186064250680659:True:=⟨⟩
def tw4427462863580906238:True:=⟨⟩
def tw16257906466785957042:True:=⟨⟩
def tw10702267292507043870:True:=⟨⟩
def tw12686279964991762834:True:=⟨⟩
def tw2744254706990632297:True:=⟨⟩
def tw3185535132592868757:True:=⟨⟩
def tw4612947138775272053:True:=⟨⟩
def tw17046444593292037033:True:=⟨⟩
def tw5972773396780891449:True:=⟨⟩
def tw13200409125888568735:True:=⟨⟩
def tw3746826058019175457:True:=⟨⟩
def tw4627157103780866609:True:=⟨⟩
def tw16914581363977590957:True:=⟨⟩
def tw16208328693475570216:True:=⟨⟩
def tw17033354330704816352:True:=⟨⟩
def tw14092393282738374353:True:=⟨⟩
def tw4896312149323582802:True:=⟨⟩
def tw4996729985922338411:True:=⟨⟩
def tw8601033840694604805:True:=⟨⟩
def tw14372849218970711396:True:=⟨⟩
def tw13200773108322002680:True:=⟨⟩
def tw9259015178511492816:True:=⟨⟩
def tw3924638422140817970:True:=⟨⟩
def tw5936156628757090639:True:=⟨⟩
def tw8362371673135765993:True:=⟨⟩
def tw15910695334974696254:True:=⟨⟩
def tw17194445990807202170:True:=⟨⟩
def tw7792104534304729905:True:=⟨⟩
def tw15047577559613654761:True:=⟨⟩
def tw5764920928032781487:True:=⟨⟩
def tw9061050979850120098:True:=⟨⟩
def tw4311085286516565960:True:=⟨⟩
def tw12742709763926358974:True:=⟨⟩
def tw175447946512434993:True:=⟨⟩
def tw8911882814463653473:True:=⟨⟩
def tw831882164273659864:True:=⟨⟩
def tw11654070053065517523:True:=⟨⟩
def tw10606625079095613673:True:=⟨⟩
def tw885277382979110207:True:=⟨⟩
def tw3734829717904592201:True:=⟨⟩
def tw17893801375761549733:True:=⟨⟩
def tw4861352798297707908:True:=⟨⟩
def tw1028523048222766210:True:=⟨⟩
def tw4743427759676490377:True:=⟨⟩
def tw11151910637607674800:True:=⟨⟩
def tw9103347560075874703:True:=⟨⟩
def tw2374267401928256795:True:=⟨⟩
def tw11288745973624708273:True:=⟨⟩
def tw9269272903918985991:True:=⟨⟩
def tw15611141029808448258:True:=⟨⟩
def tw2387501361311101241:True:=⟨⟩
def tw160900619529027602:True:=⟨⟩
def tw4146972489250357128:True:=⟨⟩
def tw18275986273019775805:True:=⟨⟩
def tw15658309767977719331:True:=⟨⟩
def tw7768606553968999800:True:=⟨⟩
def tw10845798770699043258:True:=⟨⟩
def tw4476135182560964416:True:=⟨⟩
def tw5538712138974849738:True:=⟨⟩
def tw1019464912976297418:True:=⟨⟩
def tw3759435329687546275:True:=⟨⟩
def tw12077479946502395448:True:=⟨⟩
def tw5385325503461857525:True:=⟨⟩
def tw4486850205508510777:True:=⟨⟩
def tw7206424597921315302:True:=⟨⟩
def tw2445479449507529165:True:=⟨⟩
def tw400420666646153339:True:=⟨⟩
def tw2647649314214693133:True:=⟨⟩
def tw10944602559598695177:True:=⟨⟩
def tw2017833640390278176:True:=⟨⟩
def tw3768132050662675915:True:=⟨⟩
def tw16752047930147454944:True:=⟨⟩
def tw13247722568016663024:True:=⟨⟩
def tw3487507544205214689:True:=⟨⟩
def tw16231655248065598590:True:=⟨⟩
def tw16075619097825948222:True:=⟨⟩
def tw14657852537538051873:True:=⟨⟩
def tw13777094582096234084:True:=⟨⟩
def tw625707985049777100:True:=⟨⟩
def tw14709155915933430923:True:=⟨⟩
def tw8070436602828467910:True:=⟨⟩
def tw9849506116666859347:True:=⟨⟩
def tw8766880016792903953:True:=⟨⟩
def tw3855148334144324926:True:=⟨⟩
def tw7221829974965256451:True:=⟨⟩
def tw14902665982674245708:True:=⟨⟩
def tw6477250390632763836:True:=⟨⟩
def tw12206949714070022401:True:=⟨⟩
def tw3712088017506493194:True:=⟨⟩
def tw13750189047151718512:True:=⟨⟩
def tw8646790421035033237:True:=⟨⟩
def tw760025543021783680:True:=⟨⟩
def tw1866833258884078881:True:=⟨⟩
def tw3868400932064001190:True:=⟨⟩
def tw522921369176786318:True:=⟨⟩
def tw12828650392964662228:True:=⟨⟩
def tw4719956598285193747:True:=⟨⟩
def tw2816757665018145743:True:=⟨⟩
def tw7557835151718257826:True:=⟨⟩
def tw6941041014442443146:True:=⟨⟩
def tw5626551337993680581:True:=⟨⟩
def tw7513365684752163201:True:=⟨⟩
def tw18438321973894090724:True:=⟨⟩
def tw18291649506235012799:True:=⟨⟩
def tw5992910576814093591:True:=⟨⟩
def tw3013576429531319076:True:=⟨⟩
def tw12237449090108621808:True:=⟨⟩
def tw7148334350313190403:True:=⟨⟩
def tw7548286626761642798:True:=⟨⟩
def tw14289876764022178869:True:=⟨⟩
def tw3569941851700004574:True:=⟨⟩
def tw4207934196876539453:True:=⟨⟩
def tw8548362615081587120:True:=⟨⟩
def tw15773075011384505113:True:=⟨⟩
def tw1919086671197585370:True:=⟨⟩
def tw14285399717739732323:True:=⟨⟩
def tw4055969169708788074:True:=⟨⟩
def tw13561611052242838500:True:=⟨⟩
def tw1920978447650087508:True:=⟨⟩
def tw9495791120556307692:True:=⟨⟩
def tw4959154313006020078:True:=⟨⟩
def tw8739001119612249250:True:=⟨⟩
def tw5017684679920198432:True:=⟨⟩
def tw325274669392765251:True:=⟨⟩
def tw11683720097010187070:True:=⟨⟩
def tw16063149029361712118:True:=⟨⟩
def tw9197595704599593567:True:=⟨⟩
def tw10080612107096433948:True:=⟨⟩
def tw17054958592790744455:True:=⟨⟩
def tw15026217337630478514:True:=⟨⟩
def tw10111738611239088290:True:=⟨⟩
def tw619525016710140753:True:=⟨⟩
def tw535489266024145799:True:=⟨⟩
def tw9722050897698640984:True:=⟨⟩
def tw10732554727845808472:True:=⟨⟩
def tw8702205012407698127:True:=⟨⟩
def tw11408567634898125136:True:=⟨⟩
def tw17112891710119014820:True:=⟨⟩
def tw14143435627531107954:True:=⟨⟩
def tw3409498312299072155:True:=⟨⟩
def tw7870779452944417394:True:=⟨⟩
def tw4029272503399758613:True:=⟨⟩
def tw2408554513964322283:True:=⟨⟩
def tw16912388109264778824:True:=⟨⟩
def tw1801868424443014610:True:=⟨⟩
def tw7043181042633599433:True:=⟨⟩
def tw10835768243768374957:True:=⟨⟩
def tw11827472264604667650:True:=⟨⟩
def tw10912032250097064065:True:=⟨⟩
def tw5110980500876043639:True:=⟨⟩
def tw18290008786504341968:True:=⟨⟩
def tw14960200989198597304:True:=⟨⟩
def tw3209540766093995732:True:=⟨⟩
def tw13383050363534854833:True:=⟨⟩
def tw1417217497319226365:True:=⟨⟩
def tw16428776790856471656:True:=⟨⟩
def tw11286382162710357174:True:=⟨⟩
def tw15182180516957739836:True:=⟨⟩
def tw15161558797046208304:True:=⟨⟩
def tw9760509775858257713:True:=⟨⟩
def tw12261726196005462645:True:=⟨⟩
def tw18164834650474274282:True:=⟨⟩
def tw5644573245248475248:True:=⟨⟩
def tw4815123338534023775:True:=⟨⟩
def tw14609596342265681028:True:=⟨⟩
def tw9762279413379295248:True:=⟨⟩
def tw7643972403379183479:True:=⟨⟩
def tw1871798013382180429:True:=⟨⟩
def tw16303670208489527974:True:=⟨⟩
def tw16030317000659840651:True:=⟨⟩
def tw14366645682258983857:True:=⟨⟩
def tw11098081878145841640:True:=⟨⟩
def tw3169104352485620067:True:=⟨⟩
def tw2101489559134895239:True:=⟨⟩
def tw16483775692122669030:True:=⟨⟩
def tw10236880459074220325:True:=⟨⟩
def tw7543098341977278:True:=⟨⟩
def tw17582801350358041264:True:=⟨⟩
def tw9049822331450459322:True:=⟨⟩
def tw5185610247392117605:True:=⟨⟩
def tw2949101354245358063:True:=⟨⟩
def tw5069873084253953334:True:=⟨⟩
def tw8985743595810558122:True:=⟨⟩
def tw10478868895501542864:True:=⟨⟩
def tw15545760758040499499:True:=⟨⟩
def tw9323947062631373299:True:=⟨⟩
def tw7999766214005881264:True:=⟨⟩
def tw4849909934239219353:True:=⟨⟩
def tw3894711150689025559:True:=⟨⟩
def tw17861068517474854155:True:=⟨⟩
def tw15257148212592787423:True:=⟨⟩
def tw14878545964680679424:True:=⟨⟩
def tw12710185379887102427:True:=⟨⟩
def tw11307110781511739207:True:=⟨⟩
def tw1074316078521354681:True:=⟨⟩
def tw9914549563161858094:True:=⟨⟩
def tw9388132208810380517:True:=⟨⟩
def tw8745840880639696941:True:=⟨⟩
def tw6912381291001841136:True:=⟨⟩
def tw4638880899972042137:True:=⟨⟩
def tw4326279529244821598:True:=⟨⟩
def tw2007627210788929535:True:=⟨⟩
def tw13732848918020046256:True:=⟨⟩
def tw11339381258751958778:True:=⟨⟩
def tw10593140255601831989:True:=⟨⟩
def tw16141271572874204845:True:=⟨⟩
def tw9459648106414204812:True:=⟨⟩
def tw9091720931778668216:True:=⟨⟩
def tw8674024244481391542:True:=⟨⟩
def tw658497802046150169:True:=⟨⟩
def tw509208755889333864:True:=⟨⟩
def tw17896782535678670574:True:=⟨⟩
def tw14128767589484466301:True:=⟨⟩
def tw12522416876821843396:True:=⟨⟩
def tw9642196277068857710:True:=⟨⟩
def tw9214457305316881458:True:=⟨⟩
def tw8405104220875569514:True:=⟨⟩
def tw5049388555467121475:True:=⟨⟩
def tw4819328989580916104:True:=⟨⟩
def tw3224766898985514263:True:=⟨⟩
def tw3052882206683109681:True:=⟨⟩
def tw2556217161905583496:True:=⟨⟩
def tw17932719242261899302:True:=⟨⟩
def tw10481957157183898867:True:=⟨⟩
def tw9991200288529179804:True:=⟨⟩
def tw9854630959925605160:True:=⟨⟩
def tw9487577924220936638:True:=⟨⟩
def tw8845837845767872125:True:=⟨⟩
def tw8550175715127097569:True:=⟨⟩
def tw8464992456956493529:True:=⟨⟩
def tw8301413341972429074:True:=⟨⟩
def tw8115281848122262467:True:=⟨⟩
def tw8103528948930621694:True:=⟨⟩
def tw8025068341053598693:True:=⟨⟩
def tw7863188172482402341:True:=⟨⟩
def tw6541291807469193955:True:=⟨⟩
def tw6448042518724378166:True:=⟨⟩
def tw6136091823614707782:True:=⟨⟩
def tw6115345563486153372:True:=⟨⟩
def tw5988386491062069086:True:=⟨⟩
def tw5591003744718828975:True:=⟨⟩
def tw5451199563247166923:True:=⟨⟩
def tw4923329882254011760:True:=⟨⟩
def tw4361536193497884707:True:=⟨⟩
def tw4216207417869237385:True:=⟨⟩
def tw3841220794902052131:True:=⟨⟩
def tw3768776854143127886:True:=⟨⟩
def tw3754076865648551510:True:=⟨⟩
def tw369705444354380054:True:=⟨⟩
def tw3155156637932330433:True:=⟨⟩
def tw3024056243880475656:True:=⟨⟩
def tw2988430254039778328:True:=⟨⟩
def tw2189162634352864472:True:=⟨⟩
def tw1910177691202783694:True:=⟨⟩
def tw18387101678205779248:True:=⟨⟩
def tw18210860549405717374:True:=⟨⟩
def tw18064276244233477574:True:=⟨⟩
def tw17804784956342193212:True:=⟨⟩
def tw17674648083791855310:True:=⟨⟩
def tw17399201360196208340:True:=⟨⟩
def tw1677763578194600855:True:=⟨⟩
def tw16713081357762190072:True:=⟨⟩
def tw16524578762332833509:True:=⟨⟩
def tw16116910184564246919:True:=⟨⟩
def tw1602458133533284101:True:=⟨⟩
def tw16017885420725255355:True:=⟨⟩
def tw15978132588912324045:True:=⟨⟩
def tw15894282550468018229:True:=⟨⟩
def tw15537818686672660263:True:=⟨⟩
def tw15224827530515382728:True:=⟨⟩
def tw15066433991369964742:True:=⟨⟩
def tw14383778794030985667:True:=⟨⟩
def tw14377384686701450576:True:=⟨⟩
def tw14105206439536221948:True:=⟨⟩
def tw13999536304065610532:True:=⟨⟩
def tw13814189423191653849:True:=⟨⟩
def tw13681901497037240842:True:=⟨⟩
def tw13644961660134892091:True:=⟨⟩
def tw1320918464924623679:True:=⟨⟩
def tw13193574376188641681:True:=⟨⟩
def tw12811127779909889568:True:=⟨⟩
def tw12563855925251218729:True:=⟨⟩
def tw12118795039950867622:True:=⟨⟩
def tw12073139422783385769:True:=⟨⟩
def tw11821351085702094951:True:=⟨⟩
def tw1134644203469977746:True:=⟨⟩
def tw11342851255959830372:True:=⟨⟩
def tw11266315911223648335:True:=⟨⟩
def tw11207338384826583684:True:=⟨⟩
def tw11164885723222350763:True:=⟨⟩
def tw11148835292332409534:True:=⟨⟩
def tw10938398656805891454:True:=⟨⟩
def tw10584832723352204447:True:=⟨⟩
def tw10580869955601792635:True:=⟨⟩
def tw10008549093348787737:True:=⟨⟩
end PySem.W.Fast
open Option renaming some->Y, none->M
open Bool renaming true->J, false->Z
theorem q0(h:True:=by first | exact .inl L | exact .inr L | assumption):True:=h
theorem q1(h:True:=by decide):True:=h
theorem q2(h:True:=by rfl):True:=h
theorem q3(h:True:=by intro _;rfl):True:=h
theorem q4(h:True:=by with_unfolding_all rfl):True:=h
theorem q5(h:True:=by first | exact Or.inl L | exact Or.inr (Or.inl L) | exact Or.inr (Or.inr L)):True:=h
theorem q6(h:True:=by first | exact Or.inl L | exact Or.inr L):True:=h
theorem q7(h:True:=by first | exact .inl L | exact .inr L):True:=h
theorem q8(h:True:=by exact rfl):True:=h
set_option hygiene false
local macro_rules|`({`q0,$x})=>`(autoParam $x q0._auto_1)|`({`q1,$x})=>`(autoParam $x q1._auto_1)|`({`q2,$x})=>`(autoParam $x q2._auto_1)|`({`q3,$x})=>`(autoParam $x q3._auto_1)|`({`q4,$x})=>`(autoParam $x q4._auto_1)|`({`q5,$x})=>`(autoParam $x q5._auto_1)|`({`q6,$x})=>`(autoParam $x q6._auto_1)|`({`q7,$x})=>`(autoParam $x q7._auto_1)|`({`q8,$x})=>`(autoParam $x q8._auto_1)
theorem L.{u}{α:Sort u}{a:α}:a=a:=rfl
open PySem renaming Shared->KB, model->KF, sizeLine->KM, Addr->On, Value->PP, wpAny->Pi, starEach->P3, FuncData->Re, Program->SB, Around->SC, keywordEach->SL, compareOp->SZ, Heap->UF, World->UV, attributeBase->XAA, foldedSetIterable->XAB
open PyProof.Rows renaming Keyed->Pv
set_option linter.all false
set_option maxRecDepth 100000
set_option Elab.async false
set_option maxHeartbeats 4000000
abbrev Yy:=PySem.Value->PySem.Shared->Prop
abbrev Ym:=List (PySem.Addr×PySem.Obj)
abbrev Ye:=List (List PySem.Addr)
abbrev Xd:=PySem.W.Frag
abbrev X4:=PySem.Str->Option PySem.Value
abbrev X6:=List PySem.Addr
abbrev Wu:=List PySem.Value
abbrev Wb:=Option PySem.Value
abbrev Wa:=List Nat
abbrev W0:=List Int
abbrev W3:=List (List (List Nat))
abbrev Zm:=@if_pos
abbrev Zl:=@if_neg
open Option renaming bind_eq_some_iff->Zz,map_eq_some_iff->Zy,bind_some->Zq,isSome_iff_exists->Yw,isSome_map->Y9,getD_some->Xu
open PySem renaming wpAny_bind->Zx,wpAny_pure->Zs,wpAny_holding->ZC,wpAny_mono->Z4,codeAny_builtin->Yn,wpAny_truthy_bool->Yb,wpAny_setField->Ya,wpAny_newObj_type->YZ,plainId_quiet->YT,wpAny_call_entry->YJ,wpAny_setState_of->YD,sizeLine_eq->Y8,wpAny_Call_Name_kw->Xz,codeAny_mono->Xy,wpAny_passesOwn->Xw,mem_of_lookup->Xm,wpAny_tryCatch->Xk,tupleKind_room_in1->XX,wpAny_pyIter_list->XO,builtinLookup_eq_fast->XI,wpAny_call->XH,wpAny_askSetting->XG,wpAny_typeNameOfWhole_keyiter->XE,wpAny_updateSeq->X0,wpAny_execs_nil->X1,wpAny_pyIter_slot->Wy,fits_of_scanBound->Wx,typeIs_str->Ws,typeLookup_type->Wm,wpAny_seqItems->Wf,wpAny_field->We,isSubtype_type->Wc,codeAny_call_builtin->WZ
open List renaming mem_cons_of_mem->Zw,mem_cons_self->Zv,length_map->Zt,getElem?_eq_getElem->Zr,length_append->Zp,getD_eq_getElem?_getD->Zo,getElem?_eq_some_iff->Zk,mem_cons->Zj,map_cons->Zg,length_cons->Ze,nodup_cons->Zd,mem_singleton->Zb,getElem?_map->ZY,mem_append->ZU,append_nil->ZT,all_eq_true->ZS,nodup_append->ZR,mem_map->ZQ,zip_cons_cons->ZP,length_singleton->ZN,mem_append_right->ZL,getElem?_set_ne->ZH,size_toArray->ZG,length_set->ZF,find?_cons->ZD,map_map->ZA,getElem?_append_left->Z0,nodup_nil->Z3,suffix_refl->Z7,getElem?_append_right->Z8,length_range->Yz,mem_of_getElem?->Yx,getElem_mem->Yv,append_assoc->Yu,map_append->Yq,idxOf_lt_length_iff->Yl,getElem?_replicate->Yk,mem_range->Yj,isSuffixOf_iff_suffix->Yi,getElem?_set_self->Yh,flatten_cons->Yg,flatten_append->Yd,drop_eq_getElem_cons->Yc,length_filter_le->YY,mem_append_left->YV,length_eq_zero_iff->YU,length_zip->YS,sublist_cons_self->YO,pairwise_cons->YM,length_replicate->YK,getElem?_zip_eq_some->YI,suffix_nil->YH,mem_filter->YG,map_congr_left->YE,not_mem_nil->YB,length_drop->YA,take_of_length_le->Y1,foldl_cons->Y4,getElem?_eq_none->Y7,lookup_cons->Xp,any_eq_true->Xo,getElem?_eq_none_iff->Xn,getD_cons_succ->Xl,all_cons->Xh,nil_suffix->Xg,ext_getElem?->Xa,drop_of_length_le->XZ,all_map->XY,set_getElem_self->XW,getElem?_toArray->XU,cons_append->XT,append_cons->XS,any_cons->XQ,nil_append->XJ,getElem_idxOf->XC,sublist_append_right->X2,pairwise_map->X3,range'_succ->X5,drop_eq_nil_of_le->X9,cons_lt_cons_iff->Wv,range_eq_range'->Wt,filterMap_cons->Wp,findIdx?_cons->Wg,take_sublist->WU,getElem?_set->WT,zipIdx_cons->WJ,sublist_nil->WI,mem_flatten->WH,map_fst_zip->WG,length_take->WE
open PySem.Heap renaming get?_push_of_some->Zu,get?_push_size->Zh,lt_size->Zf,get?_update_other->ZO,get?_update_self->ZI,size_push->YR,get?_update_ne->Xe
open Nat renaming le_refl->Zn,ne_of_lt->Zi,lt_of_lt_of_le->Zc,le_trans->ZW,le_of_not_lt->Z1,lt_succ_of_lt->Z2,zero_le->Yt,pos_of_ne_zero->Ys,lt_succ_self->Yp,le_succ->YW,le_of_lt->YQ,lt_irrefl->YN,min_eq_left->Y3,ne_of_gt->Xs,min_le_right->Xr,le_add_right->Xq,lt_trans->Xb,lt_of_le_of_lt->XD,le_of_eq->X8,lt_or_eq_of_le->Wh,zero_add->WY,le_succ_of_le->WW,le_of_lt_succ->WV,succ_le_succ->WN,min_eq_right->WM,le_of_not_le->WK
open Bool renaming false_ne_true->Za,and_eq_true_iff->ZZ,and_eq_true->ZJ,eq_iff_iff->Xf
open Option.some renaming inj->ZX
open PySem.W renaming mg_of->ZV,mg_none_of->ZK,kia_one->Yr,plainGet_of->Wq,callWith_K->Wj
open PySem.PassesOwn renaming never->ZE
open PySem.Around renaming under_plainId->Z5
open Array renaming length_toList->Z6,getElem?_eq_getElem->Yo,getElem?_eq_some_iff->Yf,getElem?_toList->YX
open Ne renaming symm->Z9
open Int renaming emod_lt_of_pos->YL,toNat_natCast->YF,emod_nonneg->Y5
open PySem.F renaming plainAttrs_list->YC,plain_min_loop->Y6,slot_dict_keyiterator_next->Xv,type_list_append->Xj,slot_list_append->Xi,plainAttrs_str->X7,slot_tuple_getattribute->Wz,slot_dict_get->Ww
open List.Perm renaming refl->Y0
open PySem.Heap.SameBut renaming update->Y2
open PySem.Paired renaming length->Xc
open Prod.mk renaming inj->XM
open PyProof.Rows renaming callWith_type1->XF
open PySem.Walks renaming list->Wr
open List.cons renaming inj->Wk
open PySem.Obj renaming isFreed_of_fields->Wi
open Nat.succ renaming inj->WX
open List.Sublist renaming refl->WR
open PySem.Calls renaming evalArgs_plain->WQ
open PyProof.Rows.F renaming plain_set_update_loop->WO
section
namespace L2
def ah{G:Prop}(h:∀P:Prop,(G->P)->P):G:=h G id
end L2
namespace VS
noncomputable abbrev Tx:=Wa
inductive T where
 |non | bl (b:Bool) | int (i:Int) | str (s:Tx) | scr (ns:W0)
 |tup (l:List T) | lst (l:List T) | dct (kd:Nat) (l:List (T×T)) | obj (c:Nat) (fs:List (Nat×T))
 deriving Inhabited
abbrev W7:=List T
noncomputable def fB:Nat:=16777216
mutual
def Ko:T->Bool
 |.lst _=>Z
 |.dct _ _=>Z
 |.obj _ _=>Z
 |.tup l=>fD l
 |_=>J
def fD:W7->Bool
 |[]=>J
 |t :: r=>Ko t&&fD r
end
mutual
@[simp] def eqT:T->T->Bool
 |.non,.non=>J
 |.bl a,.bl b=>a==b
 |.bl a,.int i=>(if a then 1 else 0)==i
 |.int i,.bl a=>i==(if a then 1 else 0)
 |.int i,.int j=>i==j
 |.str s,.str t=>s==t
 |.tup a,.tup b=>yJ a b
 |.lst a,.lst b=>yJ a b
 |_,_=>Z
def yJ:W7->W7->Bool
 |[],[]=>J
 |a :: d,b :: bs=>eqT a b&&yJ d bs
 |_,_=>Z
end
noncomputable def LI:Nat->T->Bool
 |_,.non=>J
 |_,.bl _=>J
 |_,.int _=>J
 |_,.str _=>J
 |n+1,.tup l=>l.all (LI n)
 |n+1,.lst l=>l.all (LI n)
 |_,_=>Z
inductive Md where | fr | pu | bo
 deriving DecidableEq,Inhabited
noncomputable def Md.join:Md->Md->Md
 |.bo,_=>.bo
 |_,.bo=>.bo
 |.pu,_=>.pu
 |_,.pu=>.pu
 |.fr,.fr=>.fr
inductive Cell where | pu (t:T) | ow (t:T)
 deriving Inhabited
abbrev W4:=Option Cell
noncomputable abbrev Env:=List (W4)
noncomputable abbrev Val:=Md×T
abbrev W6:=Option Val
abbrev W5:=List Val
abbrev Ex:=Env->W6
abbrev KJ:=Env->Option (W5)
@[simp] def up(m:Md)(t:T):Val:=(if Ko t then .fr else m,t)
noncomputable def oC:T->Bool
 |.lst _=>J
 |.dct _ _=>J
 |.obj _ _=>J
 |_=>Z
@[simp] def cellOf:Val->W4
 | (.fr,t)=>Y (if oC t then .ow t else .pu t)
 | (.pu,t)=>Y (.pu t)
 | (.bo,_)=>M
inductive Out where | nx (U:Env) | rt (v:Val) (U:Env) | bk (U:Env) | ct (U:Env)
abbrev Sx:=Env->Option Out
@[simp] noncomputable def eC(t:T)(_:Env):W6:=Y (.fr,t)
abbrev Q3(i:Int):Ex:=eC (.int i)
@[simp] def aa(i:Nat)(U:Env):W6:=match U[i]? with
 |some (some (.pu t))=>Y (up .pu t)
 |some (some (.ow t))=>Y (.bo,t)
 |_=>M
@[simp] noncomputable def e1(f:Val->W6)(a:Ex)(U:Env):W6:=(a U).bind f
@[simp] noncomputable def e2(f:Val->Val->W6)(a b:Ex)(U:Env):W6:=(a U).bind λx=>(b U).bind λy=>f x y
@[simp] noncomputable def au(_:Env):Option (W5):=Y []
@[simp] noncomputable def af(a:Ex)(r:KJ)(U:Env):Option (W5):=(a U).bind λx=>(r U).bind λb=>Y (x :: b)
@[simp] noncomputable def eN(f:W5->W6)(a:KJ)(U:Env):W6:=(a U).bind f
@[simp] def df:W5->Md
 |[]=>.fr
 |v :: r=>v.1.join (df r)
@[simp] noncomputable def trees(l:W5):W7:=l.map (·.2)
def N9(m:Md)(l:W7):W6:=if l.length<=fB then Y (if fD l then .fr else m,.lst l) else M
@[simp] def dB(a:KJ)(U:Env):W6:=(a U).bind λl=>N9 (df l) (trees l)
def we(l:W5):W6:=if l.length<=fB then Y (up (df l) (.tup (trees l))) else M
@[simp] def i7(a:KJ)(U:Env):W6:=(a U).bind we
def dput(l:List (T×T))(k v:T):List (T×T):=if l.any (λp=>eqT p.1 k) then l.map (λp=>if eqT p.1 k then (p.1,v) else p) else l++[(k,v)]
noncomputable def iI:T->Bool
 |.int _=>J
 |.str _=>J
 |_=>Z
def keyOk:Nat->T->Bool
 |0,t=>iI t
 |1,.tup l=>l.all iI
 |_,_=>Z
noncomputable def pairs:List (Ex×Ex)->Env->Option (List (Val×Val))
 |[],_=>Y []
 | (a,b) :: r,U=>(a U).bind λx=>(b U).bind λy=>(pairs r U).map ((x,y) :: ·)
def u6(a:Nat)(b:List (Ex×Ex))(U:Env):W6:=(pairs b U).bind λl=>if l.all (λp=>keyOk a p.1.2)/\l.length<=15 then
 Y (df (l.map (·.2)),.dct a (l.foldl (λd p=>dput d p.1.2 p.2.2) [])) else M
noncomputable def ON:T->Option Bool
 |.bl b=>Y b
 |.int i=>Y (i != 0)
 |.str s=>Y (!s.isEmpty)
 |.lst l=>Y (!l.isEmpty)
 |.tup l=>Y (!l.isEmpty)
 |.dct 0 l=>Y (!l.isEmpty)
 |.non=>Y Z
 |_=>M
@[simp] noncomputable def ng(a b:Ex)(U:Env):W6:=(a U).bind λx=>match x.2 with
 |.bl true=>b U
 |.bl false=>Y (.fr,.bl Z)
 |_=>M
@[simp] noncomputable def Ou(a b:Ex)(U:Env):W6:=(a U).bind λx=>match x.2 with
 |.bl true=>Y (.fr,.bl J)
 |.bl false=>b U
 |_=>M
@[simp] noncomputable def pd(a:Ex)(U:Env):W6:=(a U).bind λx=>match x.2 with
 |.bl b=>Y (.fr,.bl (!b))
 |_=>M
noncomputable def Sz:T->Bool
 |.non=>J
 |_=>Z
@[simp] def Gd(a:Ex)(U:Env):W6:=(a U).bind λx=>Y (.fr,.bl (Sz x.2))
@[simp] def iN(a:Ex)(U:Env):W6:=(a U).bind λx=>Y (.fr,.bl (!Sz x.2))
@[simp] noncomputable def iJ(f g:Val->Val->W6)(a b c:Ex)(U:Env):W6:=(a U).bind λx=>(b U).bind λy=>(f x y).bind λr=>match r.2 with
 |.bl true=>(c U).bind λz=>g y z
 |.bl false=>Y (.fr,.bl Z)
 |_=>M
@[simp] noncomputable def int?:T->Option Int
 |.int i=>Y i
 |_=>M
def bE:Val->Val->W6
 | (_,.int i),(_,.int j)=>Y (.fr,.int (i+j))
 | (_,.str s),(_,.str t)=>if s.length+t.length<=fB then Y (.fr,.str (s++t)) else M
 | (m,.lst s),(n,.lst t)=>N9 (m.join n) (s++t)
 |_,_=>M
@[simp] noncomputable def t4:Val->Val->W6
 | (_,.int i),(_,.int j)=>Y (.fr,.int (i-j))
 |_,_=>M
noncomputable def Si:Int:=4611686018427387904
noncomputable def UT:Int:=18446744073709551616
def jg:Val->Val->W6
 | (_,.int i),(_,.int j)=>if (-UT<i/\i<UT)\/(-UT<j/\j<UT) then Y (.fr,.int (i*j)) else M
 |_,_=>M
def xR:Val->Val->W6
 | (_,.str s),(_,.int j)=>if s.length*j.toNat<=fB/\-Si<=j/\j<Si then Y (.fr,.str (List.replicate j.toNat s).flatten) else M
 |_,_=>M
noncomputable def oR:Val->Val->W6
 | (_,.int i),(_,.int j)=>if 0<j/\j<1073741824 then Y (.fr,.int (i/j)) else M
 |_,_=>M
noncomputable def oMod:Val->Val->W6
 | (_,.int i),(_,.int j)=>if 0<j then Y (.fr,.int (i%j)) else M
 |_,_=>M
noncomputable def M9:Tx->Tx->Bool
 |[],[]=>Z
 |[],_ :: _=>J
 |_ :: _,[]=>Z
 |a :: d,b :: bs=>if a<b then J else if b<a then Z else M9 d bs
@[simp] def oLt:Val->Val->W6
 | (_,.int i),(_,.int j)=>Y (.fr,.bl (decide (i<j)))
 | (_,.str s),(_,.str t)=>Y (.fr,.bl (M9 s t))
 |_,_=>M
@[simp] def oLe:Val->Val->W6
 | (_,.int i),(_,.int j)=>Y (.fr,.bl (decide (i<=j)))
 | (_,.str s),(_,.str t)=>Y (.fr,.bl (!M9 t s))
 |_,_=>M
@[simp] def QU(a b:Val):W6:=oLt b a
@[simp] def oEq(a b:Val):W6:=if LI 60 a.2/\LI 60 b.2 then Y (.fr,.bl (eqT a.2 b.2)) else M
@[simp] def NQ(a b:Val):W6:=if LI 60 a.2/\LI 60 b.2 then Y (.fr,.bl (!eqT a.2 b.2)) else M
def fM(l:List (T×T))(k:T):Option T:=(l.find? λp=>eqT p.1 k).map (·.2)
noncomputable def Lg(n:Nat)(i:Int):Option Nat:=if 0<=i then (if i<n then Y i.toNat else M) else (if 0<=i+n then Y (i+n).toNat else M)
@[simp] def sub(m:Md)(t:T):Val:=up m t
@[simp] def aL:Val->Val->W6
 | (m,.lst l),(_,.int i)=>(Lg l.length i).bind λk=>(l[k]?).map (sub m)
 | (m,.tup l),(_,.int i)=>(Lg l.length i).bind λk=>(l[k]?).map (sub m)
 | (_,.scr l),(_,.int i)=>(Lg l.length i).bind λk=>(l[k]?).map λn=>(.fr,.int n)
 | (_,.str l),(_,.int i)=>(Lg l.length i).bind λk=>(l[k]?).map λn=>(.fr,.str [n])
 |_,_=>M
noncomputable def clip(n:Nat)(i:Int):Nat:=if i<0 then (i+n).toNat else min i.toNat n
def cut{α:Type}(l:List α)(a b:Option Int):List α :=
 let lo:=match a with | none=>0 | some i=>clip l.length i
 let hi:=match b with | none=>l.length | some i=>clip l.length i
 (l.drop lo).take (hi-lo)
@[simp] def Kj(c:Option Ex)(U:Env):Option (Option Int):=match c with
 |none=>Y M
 |some e=>(e U).bind λy=>(int? y.2).map Y
noncomputable def JG:T->Option Nat
 |.lst l=>Y l.length
 |.tup l=>Y l.length
 |.str l=>Y l.length
 |.scr l=>Y l.length
 |.dct 0 l=>Y l.length
 |_=>M
@[simp] def cB:W5->W6
 |[x]=>(JG x.2).map λn=>(.fr,.int n)
 |_=>M
@[simp] noncomputable def Kk:W5->W6
 |[(_,.int i),(_,.int j)]=>Y (.fr,.int (if j<i then j else i))
 |_=>M
@[simp] noncomputable def p8:W5->W6
 |[(_,.int i),(_,.int j)]=>Y (.fr,.int (if j > i then j else i))
 |_=>M
noncomputable def jO:W7->Option (W0)
 |[]=>Y []
 |.int i :: r=>(jO r).map (i :: ·)
 |_=>M
noncomputable def strs?:W7->Option (List Tx)
 |[]=>Y []
 |.str i :: r=>(strs? r).map (i :: ·)
 |_=>M
noncomputable def l7:W7->Option (List Bool)
 |[]=>Y []
 |.bl i :: r=>(l7 r).map (i :: ·)
 |_=>M
def CF:W5->W6
 |[(_,.lst l)]=>(l7 l).bind λbs=>Y (.fr,.bl (bs.all id))
 |_=>M
@[simp] def ET:W5->W6
 |[(m,.lst l)]=>N9 m l
 |[(m,.tup l)]=>N9 m l
 |_=>M
def lA:W5->W6
 |[(m,.lst l)]=>if l.length<=fB then Y (up m (.tup l)) else M
 |_=>M
def pP(x:Tx):List Tx->List Tx
 |[]=>[x]
 |y :: r=>if M9 y x then y :: pP x r else x :: y :: r
def ip(l:List Tx):List Tx:=l.foldr pP []
noncomputable def mh(x:Int):W0->W0
 |[]=>[x]
 |y :: r=>if y<x then y :: mh x r else x :: y :: r
def fg(l:W0):W0:=l.foldr mh []
inductive Ty where | int | str | bool | list | tuple | dict
noncomputable def tY:Ty->T->Bool
 |.int,.int _=>J
 |.int,.bl _=>J
 |.bool,.bl _=>J
 |.str,.str _=>J
 |.list,.lst _=>J
 |.tuple,.tup _=>J
 |.dict,.dct _ _=>J
 |_,_=>Z
noncomputable def xj:T->Bool
 |.obj _ _=>Z
 |.scr _=>Z
 |.dct 0 _=>J
 |.dct 1 _=>J
 |.dct _ _=>Z
 |_=>J
@[simp] def VN(t:Ty)(a:Ex)(U:Env):W6:=(a U).bind λx=>if xj x.2 then Y (.fr,.bl (tY t x.2)) else M
noncomputable def total:List Tx->Nat
 |[]=>0
 |x :: r=>x.length+total r
noncomputable def dh(a:Tx):List Tx->Tx
 |[]=>[]
 |[x]=>x
 |x :: r=>x++a++dh a r
def lO:Val->W5->W6
 | (_,.str sep),[(_,.lst l)]=>(strs? l).bind λa=>if total a+a.length*sep.length<=fB then Y (.fr,.str (dh sep a)) else M
 |_,_=>M
@[simp] noncomputable def eM(f:Val->W5->W6)(o:Ex)(b:KJ)(U:Env):W6:=(o U).bind λx=>(b U).bind λa=>f x a
noncomputable abbrev Fn:=W7->W6
@[simp] def bu(g:Fn)(b:KJ)(U:Env):W6:=(b U).bind λa=>(g (trees a)).bind λr=>match r with
 | (.fr,t)=>Y (.fr,t)
 | (_,t)=>Y ((Md.pu).join (df a),t)
abbrev MX:=Env->Option (Md×W7)
noncomputable def Kf:Val->Option (Md×W7)
 | (m,.lst l)=>Y (m,l)
 | (m,.tup l)=>Y (m,l)
 | (_,.str l)=>Y (.fr,l.map λc=>.str [c])
 |_=>M
@[simp] def dA(a:Ex)(U:Env):Option (Md×W7):=(a U).bind Kf
noncomputable def rng(a:Int)(n:Nat):W7:=(List.range n).map λ(k:Nat)=>T.int (a+k)
def fG(a:Ex)(U:Env):Option (Md×W7):=(a U).bind λx=>(int? x.2).bind λj=>if -Si<=j/\j<Si then Y (.fr,rng 0 j.toNat) else M
noncomputable def fo(k:Nat):W7->W7
 |[]=>[]
 |t :: r=>.tup [.int k,t] :: fo (k+1) r
def IE:Val->Option (Md×W7)
 | (m,.lst l)=>Y (m,fo 0 l)
 |_=>M
@[simp] def pH(a:Ex)(U:Env):Option (Md×W7):=(a U).bind IE
abbrev Tg:=T->Env->Option Env
@[simp] noncomputable def bh(i:Nat)(t:T)(U:Env):Option Env:=if i<U.length then Y (U.set i (Y (.pu t))) else M
noncomputable def AF:List Tg->W7->Env->Option Env
 |[],[],U=>Y U
 |g :: b,t :: a,U=>(g t U).bind λd=>AF b a d
 |_,_,_=>M
@[simp] def kT(a:List Tg)(t:T)(U:Env):Option Env:=match t with
 |.tup l=>AF a l U
 |_=>M
@[simp] def WD(m:Md)(l:W7):Bool:=match m with
 |.bo=>fD l
 |_=>J
def jP(e:Tg)(a:Option Ex)(d:Ex)(U:Env):W7->Option (W5)
 |[]=>Y []
 |t :: r=>(e t U).bind λf=>(match a with | none=>some true | some c=>(c f).bind λx=>ON x.2).bind λb =>
  if b then (d f).bind λv=>(jP e a d U r).map (v :: ·) else jP e a d U r
def cN(k:Nat)(e:Tg)(f:MX)(a:Option Ex)(b:Ex)(U:Env):W6:=(f U).bind λ(m,l)=>if WD m l then
 (jP e a b (List.replicate k M++U) l).bind λd=>N9 (df d) (trees d) else M
@[simp] noncomputable def fC(U:Env):Option Out:=Y (.nx U)
@[simp] noncomputable def av(a b:Sx)(U:Env):Option Out:=(a U).bind λo=>match o with
 |.nx d=>b d
 |o=>Y o
@[simp] def jM(i:Nat)(e:Ex)(U:Env):Option Out:=(e U).bind λv=>(cellOf v).bind λc=>if i<U.length then Y (.nx (U.set i (Y c))) else M
@[simp] noncomputable def aU(i:Nat)(e:Ex)(U:Env):Option Out:=(e U).bind λv=>match v.1 with
 |.bo=>M
 |_=>if i<U.length then Y (.nx (U.set i (Y (.pu v.2)))) else M
@[simp] noncomputable def fL(e:Ex)(U:Env):Option Out:=(e U).bind λv=>Y (.rt (match v.1 with | .bo=>.pu | m=>m,v.2) U)
@[simp] def eO(i:Nat)(U:Env):Option Out:=match U[i]? with
 |some (some (.ow t))=>Y (.rt (.fr,t) (U.set i M))
 |some (some (.pu t))=>Y (.rt (up .pu t) U)
 |_=>M
@[simp] def Ml(c:Ex)(a b:Sx)(U:Env):Option Out:=(c U).bind λx=>(ON x.2).bind λt=>if t then a U else b U
noncomputable def forL(d:Tg)(a:Sx):W7->Env->Option Out
 |[],U=>Y (.nx U)
 |t :: r,U=>(d t U).bind λe=>(a e).bind λo=>match o with
  |.nx b=>forL d a r b
  |.ct b=>forL d a r b
  |.bk b=>Y (.nx b)
  |.rt v b=>Y (.rt v b)
@[simp] noncomputable def W8:Md->Bool
 |.bo=>Z
 |_=>J
@[simp] def jL(b:Tg)(d:MX)(a:Sx)(U:Env):Option Out:=(d U).bind λ(m,l)=>if W8 m then forL b a l U else M
def dH(c:Ex)(a:Sx):Nat->Env->Option Out
 |0,_=>M
 |n+1,U=>(c U).bind λx=>(ON x.2).bind λt=>if t then (a U).bind λo=>match o with
  |.nx b=>dH c a n b
  |.ct b=>dH c a n b
  |.bk b=>Y (.nx b)
  |.rt v b=>Y (.rt v b)
  else Y (.nx U)
noncomputable def Gp:Nat:=1000000
def j4(c:Ex)(a:Sx)(U:Env):Option Out:=dH c a Gp U
@[simp] noncomputable def qJ(i:Nat)(U:Env):Option Out:=match U[i]? with
 |some (some (.ow t))=>Y (.nx (U.set i (Y (.pu t))))
 |some (some (.pu _))=>Y (.nx U)
 |_=>M
inductive NI where | fld (k:Nat) | ix (e:Ex) | un
inductive Ky where | fld (k:Nat) | at (t:T) | un
def keys:List NI->Env->Option (List Ky)
 |[],_=>Y []
 |.fld k :: r,U=>(keys r U).map (.fld k :: ·)
 |.ix e :: r,U=>(e U).bind λx=>(keys r U).map (.at x.2 :: ·)
 |.un :: r,U=>(keys r U).map (.un :: ·)
noncomputable def Kh(a:List (Nat×T))(k:Nat):Option T:=a.lookup k
noncomputable def JB(a:List (Nat×T))(k:Nat)(v:T):List (Nat×T):=if a.any (λp=>p.1==k) then a.map (λp=>if p.1==k then (p.1,v) else p) else a++[(k,v)]
def Cn{α:Type}(f:T->Option (T×α)):List Ky->T->Option (T×α)
 |[],t=>f t
 |.fld k :: r,.obj c fs=>(Kh fs k).bind λx=>(Cn f r x).map λ(y,a)=>(.obj c (JB fs k y),a)
 |.at (.int i) :: r,.lst l=>(Lg l.length i).bind λj=>(l[j]?).bind λx=>(Cn f r x).map λ(y,a)=>(.lst (l.set j y),a)
 |.at k :: r,.dct d l=>(fM l k).bind λx=>(Cn f r x).map λ(y,a)=>(.dct d (dput l k y),a)
 |_,_=>M
abbrev Xx:=Env->Option (Val×Env)
@[simp] noncomputable def xP(e:Ex)(U:Env):Option (Val×Env):=(e U).map λv=>(v,U)
@[simp] def pG(i:Nat)(a:List NI)(f:T->W5->Option (T×Val))(g:KJ)(U:Env):Option (Val×Env):=match U[i]? with
 |some (some (.ow t))=>(keys a U).bind λe=>(g U).bind λb=>(Cn (λx=>f x b) e t).map λ(d,v)=>(v,U.set i (Y (.ow d)))
 |_=>M
@[simp] noncomputable def fit(v:Val):Option T:=match v.1 with
 |.fr=>Y v.2
 |_=>M
def bc:T->W5->Option (T×Val)
 |.lst l,[v]=>(fit v).bind λt=>if l.length<fB then Y (.lst (l++[t]),(.fr,.non)) else M
 |_,_=>M
@[simp] noncomputable def sX(x:Xx)(U:Env):Option Out:=(x U).map λr=>.nx r.2
@[simp] noncomputable def fn(d e:Nat)(a:Sx):Fn:=λb=>if b.length=d then
 (a (b.map (λt=>Y (.pu t))++List.replicate (e-d) M)).bind λo=>match o with
  |.rt v _=>Y v
  |.nx _=>Y (.fr,.non)
  |_=>M else M
def ll{s t:Tx}(h:s.length+t.length<=16777216):bE (m,.str s) (n,.str t)=Y (.fr,.str (s++t)):=Zm h
def jz{i j:Int}(h:-18446744073709551616<i/\i<18446744073709551616):jg (m,.int i) (n,.int j)=Y (.fr,.int (i*j)):=Zm (.inl h)
def ou{i j:Int}(h:0<j/\j<1073741824):oR (m,.int i) (n,.int j)=Y (.fr,.int (i/j)):=Zm h
def fF{i j:Int}(h:0<j):oMod (m,.int i) (n,.int j)=Y (.fr,.int (i%j)):=Zm h
def fW{l:W7}(h:l.length<16777216):bc (.lst l) [(.fr,t)]=Y (.lst (l++[t]),(.fr,.non)):=by
 exact Zm h
def ir{m:Md}{j:Int}(e:a U=Y (m,.int j))(h:-4611686018427387904<=j/\j<4611686018427387904):fG a U=Y (.fr,rng 0 j.toNat):=by
 simp only[fG,e,Zq,int?];exact Zm h
def mf{m:Md}{l:W7}(h:l.length<=16777216):N9 m l=Y (if fD l then .fr else m,.lst l):=Zm h
def eA{b:Tg}{r:W7}{U1:Env}(f:b t U=Y U1)(e:a U1=Y (.nx d)):forL b a (t :: r) U=forL b a r d:=by
 simp[forL,f,e]
theorem strs_map{α:Type}(f:α->Tx):∀l:List α,strs? (l.map λx=>T.str (f x))=Y (l.map f)
 |[]=>rfl
 |a :: r=>congrArg (Option.map (f a :: ·)) (strs_map f r)
theorem ints_map{α:Type}(f:α->Int):∀l:List α,jO (l.map λx=>T.int (f x))=Y (l.map f)
 |[]=>rfl
 |a :: r=>congrArg (Option.map (f a :: ·)) (ints_map f r)
theorem qq{α:Type}(f:α->Bool):∀l:List α,l7 (l.map λx=>T.bl (f x))=Y (l.map f)
 |[]=>rfl
 |a :: r=>by simp[l7,qq f r]
theorem nY:∀a:List Tx,dh [] a=a.flatten
 |[]=>rfl
 |[x]=>by simp[dh]
 |x :: y :: r=>by
  have:=nY (y :: r);simp[dh]at this ⊢;exact this
theorem om:∀a:List Tx,total a=a.flatten.length
 |[]=>rfl
 |x :: r=>by simp[total,om r]
def qu{m n:Md}(e:strs? l=Y a)(b:a.flatten.length<=16777216):lO (m,.str []) [(n,.lst l)]=Y (.fr,.str a.flatten):=by
 simp only[lO,Zq,e,nY];refine Zm ?_;rw[om];show _<=16777216;simpa using b
def fH{α:Type}(l:List α):(l.map λx=>[x]).flatten=l:=by
 induction l with
 |nil=>rfl
 |cons a r b=>rw[Zg,Yg,b];rfl
def lE(n:Nat):rng 0 n=(List.range n).map λ(k:Nat)=>T.int (k:Int):=by
 unfold rng;simp
theorem jB{α:Type}(f:α->T)(h:∀x,Ko (f x)=J):∀l:List α,fD (l.map f)=J
 |[]=>rfl
 |a :: r=>ZZ.mpr ⟨h a,jB f h r⟩
theorem p9{α:Type}(g:α->T)(f:α->Val):∀l:List α,(∀a∈l,∃e,i (g a) U=Y e/\d e=Y (f a))->jP i M d U (l.map g)=Y (l.map f)
 |[],_=>rfl
 |a :: r,h=>by
  obtain⟨e,m,j⟩:=h a Zv;simp[jP,m,j,p9 g f r λb hb=>h b (Zw _ hb)]
theorem lN{α:Type}{c:Ex}(g:α->T)(p:α->Bool)(f:α->Val):∀l:List α,(∀a∈l,∃i x,j (g a) U=Y i/\c i=Y x/\ON x.2=Y (p a)/\(p a=J->d i=Y (f a))) →
  jP j (Y c) d U (l.map g)=Y ((l.filter p).map f)
 |[],_=>rfl
 |a :: r,h=>by
  obtain⟨i,x,q,o,n,s⟩:=h a Zv;have m:=lN (c:=c) g p f r λb hb=>h b (Zw _ hb);cases e:p a with
  |true=>simp[-ON,jP,q,o,n,e,s e,m]
  |false=>simp[-ON,jP,q,o,n,e,m]
theorem oU{α:Type}(f:α->T):∀l:List α,df (l.map λa=>(Md.fr,f a))=.fr
 |[]=>rfl
 |a :: r=>congrArg (Md.join .fr) (oU f r)
def pV{α:Type}(f:α->Val)(l:List α):trees (l.map f)=l.map λa=>(f a).2:=by simp
def de{α:Type}{k:Nat}{tg:Tg}{it:MX}{elt:Ex}{U:Env}{m:Md}(g:α->T)(f:α->T)(l:List α)(i:it U=Y (m,l.map g))(e:WD m (l.map g)=J)(d:l.length<=16777216)(h:∀a∈l,∃b,tg (g a) (List.replicate k M++U)=Y b/\elt b=Y (.fr,f a)):cN k tg it M elt U=Y (.fr,.lst (l.map f)):=by
 simp only[cN,i,Zq];rw[Zm e,p9 g (λa=>(Md.fr,f a)) l h];simp only[Zq,oU,pV];rw[mf (by rw[Zt];exact d)];simp
def kX{α:Type}{k:Nat}{tg:Tg}{it:MX}{c elt:Ex}{U:Env}{m:Md}(g:α->T)(p:α->Bool)(f:α->T)(l:List α)(i:it U=Y (m,l.map g))(e:WD m (l.map g)=J)(d:l.length<=16777216)(h:∀a∈l,∃b x,tg (g a) (List.replicate k M++U)=Y b/\c b=Y x/\ON x.2=Y (p a)/\(p a=J->elt b=Y (.fr,f a))):cN k tg it (Y c) elt U=Y (.fr,.lst ((l.filter p).map f)):=by
 simp only[cN,i,Zq];rw[Zm e,lN g p (λa=>(Md.fr,f a)) l h];simp only[Zq,oU,pV];rw[mf (by rw[Zt];exact ZW (YY _ _) d)];simp
def G2{α:Type}(f:α->T)(l:List α)(i:Int)(d:α)(g:0<=i)(e:i<l.length)(a:Ko (f (l.getD i.toNat d))=J):aL (m,.lst (l.map f)) (n,.int i)=Y (.fr,f (l.getD i.toNat d)):=by
 have b:i.toNat<l.length:=by lia
 simp only[Zo,Zr b,Xu]at a ⊢;simp[Lg,g,e,b,a]
end VS
end
section
namespace L2
open PySem PySem.Spec PyProof.Rows
noncomputable abbrev Key:=Sum Int Str
def mS:Key->PP->Bool
 |.inl k,v=>Value.isInt k v
 |.inr x,v=>Value.isStrOf x v
noncomputable def ID(w:UV):Key->Int
 |.inl k=>hashInt k
 |.inr x=>hashStr w x
theorem bJ:∀{k:Key}{v:PP},mS k v=J->(∃i t,k=Sum.inl i/\v=Value.int i t)\/(∃x t,k=Sum.inr x/\v=Value.str x t)
 |.inl i,v,h=>by
  obtain⟨t,e⟩:=Value.isInt_shape (k:=i) (v:=v) h;exact .inl ⟨i,t,rfl,e⟩
 |.inr x,v,h=>by
  obtain⟨t,e⟩:=Value.isStrOf_shape (x:=x) (v:=v) h;exact .inr ⟨x,t,rfl,e⟩
def yI(i:Int)(t:Tok):mS (.inl i) (.int i t)=J:=by simp[mS,Value.isInt]
def yb(x:Str)(t:Tok):mS (.inr x) (.str x t)=J:=by simp[mS,Value.isStrOf]
def E9(a b:Int):decide ((Sum.inl a:Key)=Sum.inl b)=(a==b):=by
 grind
def Hr(a b:Str):decide ((Sum.inr a:Key)=Sum.inr b)=decide (a=b):=by
 grind
def Hy(a:Int)(b:Str):decide ((Sum.inl a:Key)=Sum.inr b)=Z:=decide_eq_false (λq=>nomatch q)
def FM(a:Str)(b:Int):decide ((Sum.inr a:Key)=Sum.inl b)=Z:=decide_eq_false (λq=>nomatch q)
def bg(d:SB)(w:UV):PySem.KeyKind d w Key where
 is:=mS
 hash:=ID w
 inj:=λv a b l hb=>by
  rcases bJ l with⟨i,t,rfl,rfl⟩ | ⟨x,t,rfl,rfl⟩
  ·rcases bJ hb with⟨j,u,rfl,e⟩ | ⟨y,u,rfl,e⟩
   ·injection e with e1 _;rw[e1]
   ·exact nomatch e
  ·rcases bJ hb with⟨j,u,rfl,e⟩ | ⟨y,u,rfl,e⟩
   ·exact nomatch e
   ·injection e with e1 _;rw[e1]
 byValue:=λk v h=>by
  rcases bJ h with⟨i,t,rfl,rfl⟩ | ⟨x,t,rfl,rfl⟩<;>rfl
 pyHash:=λf h=>by
  rcases bJ f with⟨i,t,rfl,rfl⟩ | ⟨x,t,rfl,rfl⟩
  ·exact wpAny_pyHash_int h
  ·exact wpAny_pyHash_str h
 eqBool:=λg f h=>by
  rcases bJ g with⟨i,t,rfl,rfl⟩ | ⟨x,t,rfl,rfl⟩
  ·rcases bJ f with⟨j,u,rfl,rfl⟩ | ⟨y,u,rfl,rfl⟩
   ·rw[E9]at h;exact wpAny_eqBool_int h
   ·rw[Hy]at h;exact SeqAt.EqAt.int_str i t y u _ _ _ _ h
  ·rcases bJ f with⟨j,u,rfl,rfl⟩ | ⟨y,u,rfl,rfl⟩
   ·rw[FM]at h;exact SeqAt.EqAt.str_int x t j u _ _ _ _ h
   ·rw[Hr]at h;exact wpAny_eqBool_str h
 «strs» := λk x t v h=>by
  rcases bJ h with⟨i,u,rfl,e⟩ | ⟨y,u,rfl,e⟩
  ·exact nomatch e
  ·injection e with e1 _
   subst e1;cases v<;>rfl
def uH(a:SB)(w:UV)(i:Int)(t:Tok):(bg a w).is (.inl i) (.int i t)=J:=yI i t
def ud(a:SB)(w:UV)(x:Str)(t:Tok):(bg a w).is (.inr x) (.str x t)=J:=yb x t
inductive V where
 |non | bl (b:Bool) | int (i:Int) | str (x:Str) | byt (b:Array UInt8) | flt (b:UInt64) | ref (a:On) | ty (n:String)
 deriving DecidableEq
noncomputable def RelV:V->PP->Prop
 |.non,u=>u=Value.none
 |.bl b,u=>u=Value.bool b
 |.int i,u=>∃t,u=Value.int i t
 |.str x,u=>∃t,u=Value.str x t
 |.byt b,u=>∃t,u=Value.bytes b t
 |.flt b,u=>∃t,u=Value.float b t
 |.ref a,u=>u=Value.ref a
 |.ty n,u=>u=Value.type n
abbrev aN:List V->Wu->Prop:=Paired RelV
theorem aN.length{a:List V}{b:Wu}(r:aN a b):a.length=b.length:=Xc r
theorem aN.get:∀{a:List V}{b:Wu}{i:Nat}{x:V},aN a b->a[i]?=Y x->∃u,b[i]?=Y u/\RelV x u
 |_,_,_,_,.nil,e=>by simp at e
 |_,_,0,_,.cons r _,e=>by simp_all
 |_,_,i+1,x,.cons _ t,e=>by
  obtain⟨u,f,d⟩:=aN.get (i:=i) (x:=x) t (by simpa using e)
  simp_all
theorem aN.set(r:RelV x u):∀{a:List V}{b:Wu}(i:Nat),aN a b->aN (a.set i x) (b.set i u)
 |_,_,_,.nil=>.nil
 |_,_,0,.cons _ t=>.cons r t
 |_,_,i+1,.cons q t=>.cons q (aN.set r i t)
theorem aN.append:∀{b a:List V}{e d:Wu},aN b e->aN a d->aN (b++a) (e++d)
 |_,_,_,_,.nil,s=>s
 |_,_,_,_,.cons r t,s=>.cons r (aN.append t s)
theorem aN.take:∀{a:List V}{b:Wu}(n:Nat),aN a b->aN (a.take n) (b.take n)
 |_,_,0,_=>.nil
 |_,_,_+1,.nil=>.nil
 |_,_,n+1,.cons r t=>.cons r (aN.take n t)
theorem aN.drop:∀{a:List V}{b:Wu}(n:Nat),aN a b->aN (a.drop n) (b.drop n)
 |_,_,0,r=>r
 |_,_,_+1,.nil=>.nil
 |_,_,n+1,.cons _ t=>aN.drop n t
def aN.none_of:∀{a:List V}{b:Wu}{i:Nat},aN a b->a[i]?=M->b[i]?=M:=λ{a b i} r e=>by
 have d:=r.length
 simp_all
def jy:Option V->Wb->Prop
 |some v,some u=>RelV v u
 |none,none=>True
 |_,_=>False
def KV{κ:Type}:List (κ×V)->List (κ×PP)->Prop:=Paired λ(p:κ×V) (q:κ×PP)=>p.1=q.1/\RelV p.2 q.2
noncomputable def kV:Key->V
 |.inl i=>.int i
 |.inr x=>.str x
inductive HO where
 |lst (xs:List V)
 |tup (xs:List V)
 |dK (jj:List (Key×V)) | dT (jj:List (List Key×V))
 |set (S:Int->Bool) (n:Nat)
 |ins (C dx:On) (fs:List (Str×V))
 |own (x:On)
 |xd (fs:List (Str×V))
 |met (f x:On)
 |rng (lo hi:Int)
 |frz (o:Obj) (u:HO)
 |tbl (q:Str)
 |ext (φ:UV->UF->Prop)
noncomputable abbrev Hp:=On->Option HO
noncomputable def upd(H:Hp)(a:On)(o:HO):Hp:=λb=>if b=a then Y o else H b
def aA{H:Hp}:upd H a o a=Y o:=by unfold upd;rw[Zm L]
def ay(h:b≠a):upd H a o b=H b:=by unfold upd;rw[Zl h]
def DO:upd (upd H a o) a u=upd H a u:=by
 funext b;unfold upd;split<;>rfl
def HR{H:Hp}{a b:On}{o u:HO}(h:H a=Y o)(e:H b=Y u)(d:o≠u):a≠b:=by
 grind
def br{H:Hp}{a b:On}{o:HO}(h:H a=Y o)(d:H b=M):a≠b:=by
 grind
noncomputable def QG(h:UF)(a:On):Prop:=∀o,h.get? a=Y o->o.dict=M
def QG.new(h:UF)(a:Array PP):QG (h.push { cls:=.type "tuple",data:=.seq a }) h.objs.size:=λo e=>by
 rw[Zh _ L]at e;cases e;rfl
def QG.of{h:UF}(e:h.get? a=Y o)(d:o.dict=M):QG h a:=λb f=>by
 grind
section
variable(P:SB)(w:UV)
def cR(H:Hp)(h:UF)(a:On):HO->Prop
 |.lst b=>b.length<=KM/\∃(i:Wu)(n:Nat),aN b i/\h.get? a=Y { cls:=.type "list",data:=.seq i.toArray n }
 |.tup b=>b.length<=KM/\∃i:Wu,aN b i/\QG h a/\IsTup h a i.toArray
 |.dK g=>g.length<=KM/\(a==sysModules)=Z/\∃e,KV g e/\h.DictOf (bg P w) a e
 |.dT g=>g.length<=KM/\(a==sysModules)=Z/\∃b:List (List Key×On×PP),
   Paired (λ(p:List Key×V) (q:List Key×On×PP)=>p.1=q.1/\H q.2.1=Y (.tup (p.1.map kV))/\RelV p.2 q.2.2) g b ∧
   ∃o r z,h.get? a=Y o/\o.ExactDict/\o.data=.dict r z/\r.toList=b.map (entryOfKey (tupleKind (bg P w)))/\(b.map (·.1)).Nodup
 |.set S n=>h.SetOf (intKind P w) a S n
 |.ins C j fs=>H j=Y (.own a)/\fs.length<=1000/\j≠a/\h.get? a=Y (PySem.W.instObj C j) ∧
   ∃d,h.Ns1 j d/\(∀f,jy (fs.lookup f) (d f))/\PySem.Within d (fs.map (·.1))
 |.own _=>∃o,h.get? a=Y o
 |.xd fs=>∃d,h.Ns1 a d/\∀f,jy (fs.lookup f) (d f)
 |.rng lo s=>∃t u v,h.get? a=Y { cls:=.type "range",data:=.fields #[.int lo t,.int s u,.int 1 v] }
 |.frz o u=>h.get? a=Y o/\cR H h a u
 |.tbl q=>∃ps,h.get? a=Y { cls:=.none,data:=.fields ps }/\TriplesOk ps.toList/\∀pos v,codeAmong pos ps.toList=Y v->∃c o y e t,v=.ref c/\H c=Y (.frz o (.own y))/\o.data=.fields e/\e[1]?=Y (.str q t)
 |.met f x=>h.get? a=Y (PySem.W.methodObj (.ref f) (.ref x))
 |.ext φ=>φ w h/\(∃o,h.get? a=Y o)/\∀m l:UF,φ w m->(∀o,m.get? a=Y o->l.get? a=Y o)->φ w l
def Lv(H:Hp)(h:UF):Prop:=∀a o,H a=Y o->cR P w H h a o
end
section
variable{H:Hp}
theorem cR.lt(x:cR P w H h a o):a<h.objs.size:=by
 cases o with
 |lst b=>obtain⟨_,_,_,_,e⟩:=x;exact Zf e
 |tup b=>obtain⟨_,_,_,_,p⟩:=x;exact p.lt
 |dK d=>obtain⟨_,_,_,_,o,_,_,e,_⟩:=x;exact Zf e
 |dT d=>obtain⟨_,_,_,_,o,_,_,e,_⟩:=x;exact Zf e
 |set S n=>obtain⟨o,_,_,_,e,_⟩:=x;exact Zf e
 |ins C j fs=>obtain⟨_,_,_,e,_⟩:=x;exact Zf e
 |own y=>obtain⟨_,e⟩:=x;exact Zf e
 |xd fs=>obtain⟨_,⟨_,_,_,e,_⟩,_⟩:=x;exact Zf e
 |rng lo i=>obtain⟨_,_,_,e⟩:=x;exact Zf e
 |frz g u=>obtain⟨e,_⟩:=x;exact Zf e
 |tbl q=>obtain⟨_,e,_⟩:=x;exact Zf e
 |met f y=>exact Zf (x)
 |ext φ=>obtain⟨_,⟨_,e⟩,_⟩:=x;exact Zf e
theorem Paired.PU{α β:Type}{F G:α->β->Prop}:∀{e:List α}{d:List β},Paired F e d->(∀a b,F a b->G a b)->Paired G e d
 |_,_,.nil,_=>.nil
 |_,_,.cons r t,f=>.cons (f _ _ r) (Paired.PU t f)
def cR.ML{h':UF}(x:cR P w H h a o)(k:∀b u,(b=a\/H b=Y (.own a))->h.get? b=Y u->h'.get? b=Y u)(G:∀b,H b=Y (.own a)->H' b=Y (.own a))(F:∀b l,H b=Y (.tup l)->H' b=Y (.tup l))(N:∀b o y,H b=Y (.frz o (.own y))->H' b=Y (.frz o (.own y))):cR P w H' h' a o:=by
 induction o with
 |lst l=>obtain⟨z,O,n,r,e⟩:=x;exact⟨z,_,n,r,k _ _ (.inl L) e⟩
 |tup l=>obtain⟨z,O,r,nd,g,e,c⟩:=x;exact⟨z,_,r,QG.of (k _ _ (.inl L) e) (nd _ e),g,k _ _ (.inl L) e,c⟩
 |dK D=>obtain⟨z,y,m,r,g,i,j,e,c⟩:=x;exact⟨z,y,m,r,g,i,j,k _ _ (.inl L) e,c⟩
 |dT D =>
  obtain⟨z,y,l,r,g,i,j,e,c⟩:=x;exact⟨z,y,l,Paired.PU r λp q z=>⟨z.1,F _ _ z.2.1,z.2.2⟩,g,i,j,k _ _ (.inl L) e,c⟩
 |set S n=>obtain⟨g,i,j,t,e,c⟩:=x;exact⟨g,i,j,t,k _ _ (.inl L) e,c⟩
 |ins C R fs =>
  obtain⟨d,z,ne,e,A,⟨s,i,j,e2,c⟩,r⟩:=x;exact⟨G _ d,z,ne,k _ _ (.inl L) e,A,⟨s,i,j,k _ _ (.inr d) e2,c⟩,r⟩
 |own y=>obtain⟨g,e⟩:=x;exact⟨g,k _ _ (.inl L) e⟩
 |xd fs=>obtain⟨A,⟨s,i,j,e,c⟩,r⟩:=x;exact⟨A,⟨s,i,j,k _ _ (.inl L) e,c⟩,r⟩
 |rng lo Q=>obtain⟨t,u,v,e⟩:=x;exact⟨t,u,v,k _ _ (.inl L) e⟩
 |frz g u E=>obtain⟨e,q⟩:=x;exact⟨k _ _ (.inl L) e,E q⟩
 |tbl q =>
  obtain⟨ps,e,e1,e2⟩:=x;refine⟨ps,k a _ (.inl L) e,e1,λpos v r=>?_⟩;obtain⟨c,o,y,m,t,r1,r2,B⟩:=e2 _ v r;exact⟨c,o,y,m,t,r1,N _ _ _ r2,B⟩
 |met f y =>
  exact k a _ (.inl L) x
 |ext φ=>obtain⟨p,⟨o,e⟩,st⟩:=x;exact⟨st _ _ p λo q=>k _ _ (.inl L) q,⟨o,k _ _ (.inl L) e⟩,st⟩
theorem Lv.lt(x:Lv P w H h)(e:H a=Y o):a<h.objs.size:=(x a o e).lt
def Lv.fresh(x:Lv P w H h)(e:h.objs.size<=a):H a=M:=by
 cases q:H a with
 |none=>rfl
 |some u=>exact absurd (Zc (x.lt q) e) (YN _)
def Lv.kept{h':UF}(x:Lv P w H h)(k:∀b u,h.get? b=Y u->h'.get? b=Y u):Lv P w H h':=λa o e =>
 (x a o e).ML (λb u _ q=>k b u q) (λ_ q=>q) (λ_ _ q=>q) λ_ _ _ q=>q
def Lv.laid{h':UF}(x:Lv P w H h)(k:∀b u,h.get? b=Y u->h'.get? b=Y u)(g:h.objs.size<=a)(d:cR P w (upd H a o) h' a o):Lv P w (upd H a o) h':=λb u e=>by
 have f:=x.fresh g;by_cases hb:b=a
 ·subst hb;rw[aA]at e;cases e;exact d
 ·rw[ay hb]at e;exact(x b u e).ML (λc v _ q=>k c v q) (λc q=>by rw[ay (br q f)];exact q) (λc i q=>by rw[ay (br q f)];exact q) λc _ _ q=>by rw[ay (br q f)];exact q
end
noncomputable def Rd(H:Hp)(a:On)(u:HO):Prop:=H a=Y u\/∃o,H a=Y (.frz o u)
def Rd.ok(r:Rd H a u)(x:Lv P w H h):cR P w H h a u:=by
 rcases r with r | ⟨o,r⟩
 ·exact x a u r
 ·obtain⟨_,q⟩:=x a _ r;exact q
noncomputable def Kv:Option HO->Prop
 |some (.lst _)=>True
 |some (.dK _)=>True
 |some (.dT _)=>True
 |some (.set _ _)=>True
 |some (.ins _ _ _)=>True
 |some (.ext _)=>True
 |_=>False
section
variable{H:Hp}
def Lv.write{h':UF}(l:Lv P w H h)(a:Kv (H x))(he:e=x\/H e=Y (.own x))(k:∀b u,b≠e->h.get? b=Y u->h'.get? b=Y u)(n:∃u,h'.get? e=Y u)(f:cR P w (upd H x o') h' x o'):Lv P w (upd H x o') h':=λb u q=>by
 have d:∀c y,H c=Y (.own y)->c≠x:=λc y r z=>by subst z;rw[r]at a;exact a
 by_cases hb:b=x
 ·subst hb;rw[aA]at q;cases q;exact f
 ·rw[ay hb]at q;by_cases g:b=e
  ·have j:H b=Y (.own x):=by
    grind
   rw[q]at j;cases j;obtain⟨v,m⟩:=n;exact⟨v,by rw[g];exact m⟩
  ·refine(l b u q).ML (λc v o r=>k c v ?_ r) (λc r=>by rw[ay (d c b r)];exact r) (λc i r=>by rw[ay ((λc i r z=>by subst z;rw[r]at a;exact a) c i r)];exact r) λc _ _ r=>by rw[ay λz=>by subst z;rw[r]at a;exact a];exact r
   grind
end
structure Un(fs ex:X6)(H H':Hp)(h h':UF):Prop where
 keep:∀b o,h.get? b=some o->H b=none->b∉fs->b∉ex->h'.get? b=some o
 slot:∀b o,h.get? b=some o->H b=none->b∈fs->b∉ex->∃sl,h'.get? b=some { o with slots:=sl }
 free:∀b o,h.get? b=some o->H b=none->b∉ex->H' b=none
 there:∀b o,h.get? b=some o->b∉ex->∃o',h'.get? b=some o'
 L3:∀b xs,H b=some (.tup xs)->H' b=some (.tup xs)
 LV:∀b o u,H b=some (.frz o u)->H' b=some (.frz o u)
 Ly:∀b q,H b=some (.tbl q)->H' b=some (.tbl q)
section
variable{H:Hp}
def Un.any(u:Un fs ex H H1 h h1)(q:h.get? b=Y d)(n:H b=M)(f:b∉ex):∃g,h1.get? b=Y { d with slots:=g }:=by
 by_cases hb:b∈fs
 ·exact u.slot b d q n hb f
 ·exact⟨_,u.keep b d q n hb f⟩
def Un.kept{h h':UF}(k:∀b u,h.get? b=Y u->h'.get? b=Y u):Un fs ex H H h h' :=
 ⟨λb d q _ _ _=>k b d q,λb d q _ _ _=>⟨_,k b d q⟩,λ_ _ _ n _=>n,λb d q _=>⟨d,k b d q⟩,λ_ _ q=>q,λ_ _ _ q=>q,λ_ _ q=>q⟩
def Un.refl:Un fs ex H H h h:=Un.kept λ_ _ q=>q
def Un.laid{fs ex:X6}{h h':UF}{a:On}{o:HO}(k:∀b u,h.get? b=Y u->h'.get? b=Y u)(g:h.objs.size<=a)(d:H a=M):Un fs ex H (upd H a o) h h' where
 keep:=λb u q _ _ _=>k b u q
 slot:=λb u q _ _ _=>⟨_,k b u q⟩
 free:=λb u q n _=>by rw[ay (Zi (Zc (Zf q) g))];exact n
 there:=λb u q _=>⟨u,k b u q⟩
 L3:=λb f q=>by rw[ay (br q d)];exact q
 LV:=λb u f q=>by rw[ay (br q d)];exact q
 Ly:=λb n q=>by rw[ay (br q d)];exact q
def Un.write{h h':UF}(d:Kv (H x))(he:e=x\/H e=Y (.own x))(k:∀b u,b≠e->h.get? b=Y u->h'.get? b=Y u)(i:∃u,h'.get? e=Y u):Un fs ex H (upd H x o) h h':=by
 have g:∀b,H b=M->b≠x:=λb n z=>by subst z;rw[n]at d;exact d
 have hb:∀b,H b=M->b≠e:=λb n z=>by
  grind
 have hm:∀b u,H b=Y u->¬Kv (Y u)->b≠x:=λb u q nm z=>by simp_all
 refine⟨λb u q n _ _=>k b u (hb b n) q,λb u q n _ _=>⟨_,k b u (hb b n) q⟩,λb u q n _=>by rw[ay (g b n)];exact n,λb u q _=>?_,
  λb f q=>by rw[ay (hm b _ q λz=>z)];exact q,λb u f q=>by rw[ay (hm b _ q λz=>z)];exact q,λb n q=>by rw[ay (hm b _ q λz=>z)];exact q⟩
 grind
end
noncomputable def gone(v:PP):Obj:=⟨v,M,.freed,#[]⟩
def yS(H:Hp)(a:On)(o:Obj):Obj:=match H a with
 |some (.tbl q)=>gone (.str q 0)
 |some _=>gone .none
 |none=>match o.data with
  |.freed=>gone .none
  |_=>o
def t9(h:UF)(H:Hp):Heap:=⟨h.objs.mapIdx λa o=>yS H a o,h.life⟩
def Tb(b:UF)(a:On)(q:Str):Prop:=b.objs[a]?=Y (gone (.str q 0))
def yF(h:UF)(H:Hp):(t9 h H).objs.size=h.objs.size:=Array.size_mapIdx
def rV(h:UF)(H:Hp)(b:On):(t9 h H).objs[b]?=(h.objs[b]?).map (yS H b):=Array.getElem?_mapIdx
def nI{h:UF}:h.get? b=Y o↔h.objs[b]?=Y o/\o.data ≠ .freed:=by
 unfold Heap.get?;split
 ·grind
 ·rename_i n;exact⟨λz=>⟨z,λd=>by
   obtain⟨c,u,e,a⟩:=o;cases (d);exact n _ _ _ z⟩,λz=>z.1⟩
def A2{h:UF}(e:h.get? b=Y o)(n:H b=M):(t9 h H).get? b=Y o:=by
 obtain⟨e1,e2⟩:=nI.mp e;refine nI.mpr ⟨?_,e2⟩;rw[rV,e1,Option.map_some];unfold yS
 simp_all
def CJ(e:(t9 h H).get? b=Y o):h.get? b=Y o/\H b=M:=by
 obtain⟨e1,e2⟩:=nI.mp e;rw[rV]at e1;obtain⟨u,e3,a⟩:=Zy.mp e1;unfold yS at a;cases q:H b with
 |some y =>
  rw[q]at a;cases y<;>(cases a;exact absurd L e2)
 |none =>
  rw[q]at a;refine⟨nI.mpr ?_,rfl⟩;cases d:u.data with
  |freed=>rw[d]at a;cases a;exact absurd L e2
  |_ =>
   have f:u=o:=by rw[d]at a;exact a
   subst f;exact⟨e3,e2⟩
def xK:Tb (t9 h H) b q↔H b=Y (.tbl q)/\b<h.objs.size:=by
 unfold Tb;rw[rV];constructor
 ·intro e;obtain⟨u,e3,a⟩:=Zy.mp e;refine⟨?_,(Yf.mp e3).1⟩;unfold yS at a;cases y:H b with
  |some f =>
   rw[y]at a;cases f with
   |tbl i=>cases a;rfl
   |_=>cases a
  |none =>
   rw[y]at a;cases d:u.data with
   |freed=>rw[d]at a;cases a
   |_ =>
    have g:u=gone (.str q 0):=by rw[d]at a;exact a
    rw[g]at d;cases d
 ·rintro⟨e,l⟩;rw[Yo l,Option.map_some];unfold yS;rw[e]
noncomputable def Db0(g h:UF)(L:On):Ym:=(List.range h.objs.size).filterMap λa=>if a=L\/(g.get? a).isSome=J then M else (h.get? a).map λo=>(a,o)
def rest(g h:UF)(L d:On):Ym:=(Db0 g h L).filter λp=>decide (p.1≠d)
structure Mod(K:Xd)(mg:X4)(base:UF):Prop where
 RJ:K.In base
 glob:base.Ns mainGlobals mg
 blt:∃mb,base.Ns builtinsNs mb/\∀x:Str,x ≠ "__name__" → mb x=bootBuiltins x
 nolimit:base.NoLimit
structure Cx where
 prog:SB
 w:UV
 K:Xd
 mg:X4
 base:UF
 A:SC
 N:List Str
 s₀:KB
 H₀:Hp
 env:Env
 outer:List Env
 stack:List Env
 ex:X6
 fn:Str->Bool
 calm:Bool
 pn:Ym
 xe:Yy
abbrev K1(e:Expr)(l:List Expr)(X:Cx):Prop:=P3 (e :: l) X.env=(Z,eval e X.env) :: P3 l X.env
abbrev K2(p:Pos)(l:List Expr)(X:Cx):Prop:=(backTo p (P3 l X.env)).any (·.1)=Z
abbrev K3(x:Str):Prop:=(x==("__debug__" : Str))=Z
abbrev K4(x:Str):Prop:=(x==("__classdict__" : Str))=Z
noncomputable def Lx(l:List Env):X6:=l.filterMap (·.frame)
abbrev Cx.fs(X:Cx):X6:=Lx X.outer
noncomputable def Ni(a:Scope)(x:Str):Prop:=a.names.lookup x=Y .local\/a.names.lookup x=Y .cell\/a.names.lookup x=Y .free
noncomputable def Loc(a:Scope)(x:Str):Prop:=a.names.lookup x=Y .local\/a.names.lookup x=Y .cell
noncomputable def Look(a:Env)(h:UF)(m:X4)(x:Str)(u:PP):Prop :=
 (a.kindOf x=Y .local/\m x=Y u)\/((a.kindOf x=Y .cell\/a.kindOf x=Y .free)/\∃c,a.cells.lookup x=Y c/\h.IsCell c (Y u))
structure Cx.Ok(X:Cx):Prop where
 mod:Mod X.K X.mg X.base
 kind:X.env.scope.kind=.function
 glob:X.env.globals=mainGlobals
 blt:X.env.builtins=builtinsNs
 above:X.s₀.heap.objs.size<=X.env.locals
 inj:∀x y c,X.env.cells.lookup x=some c->X.env.cells.lookup y=some c->x=y
 has:∀x,(X.env.kindOf x=some .cell\/X.env.kindOf x=some .free)->∃c,X.env.cells.lookup x=some c
 Sf:∀x c,X.fn x=true->X.env.cells.lookup x=some c->X.s₀.heap.objs.size<=c
 hd:X.calm=true->X.A.handled=none
 frames:X.A.frames=some X.stack
 PH:X.stack=X.outer\/(X.stack=X.env :: X.outer/\X.env.frame=some X.env.locals)
 VJ:∀b∈X.ex,b≠X.env.locals/\∀x c,X.env.cells.lookup x=some c->c≠b
 tb:∀b q,Tb X.base b q->X.H₀ b=some (.tbl q)
 bs:∀b o,X.base.get? b=some o->X.s₀.heap.get? b=some o/\X.H₀ b=none
 OF:X.base.objs.size<=X.s₀.heap.objs.size
 NS:∀b o,X.base.get? b=some o->b∉X.ex
 Ot:∀b∈X.ex,b∉X.fs
 Ln:X.s₀.heap.FunFrames X.base X.outer
 Qw:∀b∈X.fs,X.H₀ b=none
structure Inv(X:Cx)(pins:Ym)(O:List (Option V))(H:Hp)(s:KB):Prop where
 ok:X.Ok
 os:s.os=X.s₀.os
 bare:AllBare s.gens
 base:Un X.fs X.ex X.H₀ H X.s₀.heap s.heap
 loc:∃m,s.heap.Ns X.env.locals m/\∀(i:Nat)(x:Str)(v:V),X.N[i]?=some x->O[i]?=some (some v)->Ni X.env.scope x->∃u,RelV v u/\Look X.env s.heap m x u
 cell:∀x c,X.env.cells.lookup x=some c->∃v,s.heap.IsCell c v
 free:H X.env.locals=none
 KH:∀x c,X.env.cells.lookup x=some c->H c=none
 pin:∀p∈X.pn++pins,s.heap.get? p.1=some p.2/\H p.1=none/\p.1≠X.env.locals/\p.1∉X.fs/\∀v,p.2.data ≠ .cell v
 D8:Lv X.prog X.w H s.heap
 len:O.length=X.N.length
section
variable{H:Hp}
def Cx.Ok.nofr{X:Cx}(a:X.Ok)(e:X.base.get? b=Y o):b∉X.fs:=λhb=>by
 have:=(a.Ln.mem hb).1;rw[e]at this;cases this
theorem Inv.bs(I:Inv X pins O H s):∀b o,X.base.get? b=Y o->s.heap.get? b=Y o/\H b=M:=λb o e =>
 ⟨I.base.keep b o (I.ok.bs b o e).1 (I.ok.bs b o e).2 (I.ok.nofr e) (I.ok.NS b o e),I.base.free b o (I.ok.bs b o e).1 (I.ok.bs b o e).2 (I.ok.NS b o e)⟩
theorem Inv.tb(I:Inv X pins O H s):∀b q,Tb X.base b q->H b=Y (.tbl q):=λb q e=>I.base.Ly b q (I.ok.tb b q e)
def Inv.bk(I:Inv X pins O H s):∀b o,X.base.get? b=Y o->s.heap.get? b=Y o:=λb o e=>(I.bs b o e).1
theorem Inv.mod(I:Inv X pins O H s):Mod X.K X.mg X.base:=I.ok.mod
def Inv.LR(I:Inv X pins O H s):X.K.In s.heap:=I.ok.mod.RJ.keeps I.bk
theorem Inv.nolimit(I:Inv X pins O H s):s.heap.NoLimit:=I.ok.mod.nolimit.keeps I.bk
theorem Inv.lt(I:Inv X pins O H s):X.env.locals<s.heap.objs.size:=let ⟨_,a,_⟩:=I.loc;a.lt
def Inv.sz(I:Inv X pins O H s):X.s₀.heap.objs.size<=s.heap.objs.size:=ZW I.ok.above (YQ I.lt)
def Inv.nofs(I:Inv X pins O H s)(h:s.heap.objs.size<=a):a∉X.fs:=λhb=>by
 obtain⟨_,o,b,_⟩:=I.ok.Ln.mem hb;exact absurd (Zc (Zf b) (ZW I.sz h)) (YN _)
def Inv.Rn(I:Inv X pins O H s):∀x c,X.env.cells.lookup x=Y c->c≠X.env.locals:=λx c e z=>by
 obtain⟨v,o,d,hd⟩:=I.cell x c e;obtain⟨m,⟨b,f,g,h,a,_⟩,_⟩:=I.loc;grind
theorem Inv.Ln(I:Inv X pins O H s):s.heap.FunFrames X.base X.outer:=by
 have all:∀(l:List _),(∀b∈Lx l,b∈X.fs)->X.s₀.heap.FunFrames X.base l->s.heap.FunFrames X.base l:=by
  intro l
  induction l with
  |nil=>intro _ _;trivial
  |cons env r g =>
   intro d hl;obtain⟨m,⟨L,o,f,j,i,hd⟩,h⟩:=hl;have a:=d L (by unfold Lx;simp_all);obtain⟨n,e⟩:=I.base.slot L o i (I.ok.Qw L a) a λz=>I.ok.Ot L z a;exact⟨m,⟨L,_,f,j,e,hd⟩,g (λb hb=>d b (by unfold Lx;rw[Wp,f];exact Zw _ hb)) h⟩
 exact all _ (λ_ hb=>hb) I.ok.Ln
theorem Inv.stack(I:Inv X pins O H s):s.heap.FunFrames X.base X.stack:=by
 rcases I.ok.PH with e | ⟨e,b⟩
 ·rw[e];exact I.Ln
 ·rw[e];obtain⟨m,a,_⟩:=I.loc;refine .cons (by rw[I.ok.kind];decide) b a ?_ I.Ln;exact Heap.get?_none_of_le (ZW I.ok.OF I.ok.above)
def Inv.L5(I:Inv X pins O H s):∀b∈Lx X.stack,b∈X.env.locals :: X.fs:=λb hb=>by
 rcases I.ok.PH with e | ⟨e,a⟩
 ·simp_all
 ·rw[e]at hb;unfold Lx at hb;rw[Wp,a]at hb;exact hb
def Inv.LO(I:Inv X pins O H s):∀b∈Lx X.stack,H b=M:=λb hb=>by
 rcases Zj.mp (I.L5 b hb) with e | hb
 ·rw[e];exact I.free
 ·obtain⟨_,o,a,_⟩:=I.ok.Ln.mem hb;exact I.base.free b o a (I.ok.Qw b hb) λz=>I.ok.Ot b z hb
def Inv.step{h':UF}{ch:X6}(I:Inv X pins O H s)(C:∀b∈ch,(b∈X.ex\/X.s₀.heap.objs.size<=b)/\b≠X.env.locals/\(∀x c,X.env.cells.lookup x=Y c->c≠b)/\∀p∈X.pn++pins,p.1≠b)(g:∀b o,b≠X.env.locals->b∉X.fs->b∉ch->s.heap.get? b=Y o->H b=M->h'.get? b=Y o)(j:∀b o,b≠X.env.locals->b∈X.fs->b∉ch->s.heap.get? b=Y o->H b=M->∃E,h'.get? b=Y { o with slots:=E })(f:∀b o,b∉ch->s.heap.get? b=some o->H b=none->H' b=none)(t:∀b o,b∉ch->s.heap.get? b=Y o->∃A,h'.get? b=Y A)(L3:∀b h,H b=Y (.tup h)->H' b=Y (.tup h))(LV:∀b o u,H b=Y (.frz o u)->H' b=Y (.frz o u))(Ly:∀b q,H b=Y (.tbl q)->H' b=Y (.tbl q))(S:∀m,s.heap.Ns X.env.locals m->h'.Ns X.env.locals m)(D8:Lv X.prog X.w H' h')(hg:AllBare P) :
  Inv X pins O H' { s with heap:=h',gens:=P,drawn:=d',toks:=R }:=by
 have Q:∀b o,X.s₀.heap.get? b=Y o->b≠X.env.locals:=λb o e=>Zi (Zc (Zf e) I.ok.above);have D:∀b o,X.s₀.heap.get? b=Y o->b∉X.ex->b∉ch:=λb o e a hb=>by
  rcases (C b hb).1 with z | z
  ·exact a z
  ·exact absurd (Zc (Zf e) z) (YN _)
 have cellK:∀x c,X.env.cells.lookup x=Y c->∀v,s.heap.IsCell c v->h'.IsCell c v:=λx c e v ⟨o,y,hd⟩=>by
  have B:c∉ch:=λz=>(C c z).2.2.1 x c e L;by_cases N:c∈X.fs
  ·obtain⟨E,q⟩:=j c o (I.Rn x c e) N B y (I.KH x c e);exact⟨_,q,hd⟩
  ·exact⟨o,g c o (I.Rn x c e) N B y (I.KH x c e),hd⟩
 refine⟨I.ok,I.os,hg,⟨λb o e n hb a=>?_,λb o e n hb a=>?_,λb o e n a=>?_,λb o e a=>?_,λb h e=>L3 b h (I.base.L3 b h e),λb o h e=>LV b o h (I.base.LV b o h e),λb q e=>Ly b q (I.base.Ly b q e)⟩,?_,λx c e=>?_,?_,λx c e=>?_,λp G=>?_,D8,I.len⟩
 ·exact g b o (Q b o e) hb (D b o e a) (I.base.keep b o e n hb a) (I.base.free b o e n a)
 ·obtain⟨E,e1⟩:=I.base.slot b o e n hb a;obtain⟨Tv,e2⟩:=j b _ (Q b o e) hb (D b o e a) e1 (I.base.free b o e n a);exact⟨_,e2⟩
 ·obtain⟨A,e1⟩:=I.base.there b o e a;exact f b A (D b o e a) e1 (I.base.free b o e n a)
 ·obtain⟨A,e1⟩:=I.base.there b o e a;exact t b A (D b o e a) e1
 ·obtain⟨m,U,hl⟩:=I.loc;refine⟨m,S m U,λi x v e1 e2 e3=>?_⟩;obtain⟨u,r,l⟩:=hl i x v e1 e2 e3;refine⟨u,r,?_⟩;rcases l with l | ⟨k,c,e,z⟩
  ·exact .inl l
  ·exact .inr ⟨k,c,e,cellK x c e _ z⟩
 ·obtain⟨v,z⟩:=I.cell x c e;exact⟨v,cellK x c e v z⟩
 ·obtain⟨m,⟨o,_,_,y,_⟩,_⟩:=I.loc;exact f _ o (λz=>(C _ z).2.1 L) y I.free
 ·obtain⟨v,o,y,hd⟩:=I.cell x c e;exact f c o (λz=>(C c z).2.2.1 x c e L) y (I.KH x c e)
 ·obtain⟨e,n,ne,F,d⟩:=I.pin p G;have B:=λz=>(C _ z).2.2.2 p G L;exact⟨g _ _ ne F B e n,f _ _ B e n,ne,F,d⟩
def Inv.un{t':Nat}(I:Inv X pins O H s)(u:Un X.fs [] H H' s.heap h')(h:Lv X.prog X.w H' h'):Inv X pins O H' { s with heap:=h',toks:=t' }:=by
 obtain⟨m,⟨o,p,q,a,r⟩,_⟩:=id I.loc;obtain⟨i,g⟩:=u.any a I.free (by simp);exact I.step (ch:=[]) (λ_ z=>nomatch z) (λb o _ hb _ e n=>u.keep b o e n hb (by simp)) (λb o _ hb _ e n=>u.slot b o e n hb (by simp)) (λb o _ e n=>u.free b o e n (by simp)) (λb o _ e=>u.there b o e (by simp)) u.L3 u.LV u.Ly (λl hm=>by
  obtain⟨j,v,t,d,f⟩:=hm;rw[a]at d;cases d;exact⟨_,_,_,g,f⟩) h I.bare
def Inv.call{g':Array GenState}{t':Nat}{d':Drawn}{ch:X6}(I:Inv X pins O H s)(u:Un (Lx X.stack) ch H H' s.heap h')(l:Lv X.prog X.w H' h')(j:AllBare g')(g:∀b∈ch,(b∈X.ex\/X.s₀.heap.objs.size<=b)/\b≠X.env.locals/\(∀x c,X.env.cells.lookup x=Y c->c≠b)/\∀p∈X.pn++pins,p.1≠b) :
  Inv X pins O H' { s with heap:=h',gens:=g',drawn:=d',toks:=t' }:=by
 obtain⟨m,⟨o,y,A,f,r⟩,_⟩:=id I.loc;obtain⟨q,d⟩:=u.any f I.free λz=>(g _ z).2.1 L;exact I.step (ch:=ch) g (λb o d hb a e n=>u.keep b o e n (λz=>(Zj.mp (I.L5 b z)).elim d hb) a) (λb o _ _ a e n=>u.any e n a) (λb o a e n=>u.free b o e n a) (λb o a e=>u.there b o e a) u.L3 u.LV u.Ly (λv hm=>by
  obtain⟨t,C,B,h,i⟩:=hm;rw[f]at h;cases h;exact⟨_,_,_,d,i⟩) l j
def Inv.turned{h':UF}{t':Nat}(I:Inv X pins O H s)(k:∀b o,b≠a->s.heap.get? b=Y o->h'.get? b=Y o)(i:H a=M)(g:a≠X.env.locals)(t:a∈X.ex\/X.s₀.heap.objs.size<=a)(l:∀x c,X.env.cells.lookup x=Y c->c≠a)(j:∀p∈X.pn++pins,p.1≠a):Inv X pins O H { s with heap:=h',toks:=t' }:=by
 have f:∀b u,H b=Y u->b≠a:=λb u e z=>by rw[z,i]at e;cases e
 refine I.step (ch:=[a]) (λb hb=>?_) (λb o _ _ d e _=>k b o (λz=>d (by simp[z])) e) (λb o _ _ d e _=>⟨_,k b o (λz=>d (by simp[z])) e⟩) (λ_ _ _ _ n=>n)
  (λb o d e=>⟨o,k b o (λz=>d (by simp[z])) e⟩) (λ_ _ e=>e) (λ_ _ _ e=>e) (λ_ _ e=>e) (λm hm=>?_) (λb u e=>?_) I.bare
 ·have e:b=a:=by simpa using hb
  subst e;exact⟨t,g,l,j⟩
 ·obtain⟨o,w,y,h,r⟩:=hm;exact⟨o,w,y,k _ o (Z9 g) h,r⟩
 ·refine(I.D8 b u e).ML (λc v d q=>k c v ?_ q) (λ_ q=>q) (λ_ _ q=>q) λ_ _ _ q=>q;rcases d with z | z
  ·rw[z];exact f b u e
  ·exact f c _ z
def Inv.tok(I:Inv X pins O H s)(t:Nat):Inv X pins O H { s with toks:=t }:=I.un (t':=t) Un.refl I.D8
theorem Inv.kept{h':UF}{t':Nat}(I:Inv X pins O H s)(k:∀b u,s.heap.get? b=Y u->h'.get? b=Y u):Inv X pins O H { s with heap:=h',toks:=t' }:=I.un (Un.kept k) (I.D8.kept k)
theorem Inv.laid{h':UF}{o:HO}{t':Nat}(I:Inv X pins O H s)(k:∀b u,s.heap.get? b=Y u->h'.get? b=Y u)(e:s.heap.objs.size<=a)(d:cR X.prog X.w (upd H a o) h' a o) :
  Inv X pins O (upd H a o) { s with heap:=h',toks:=t' }:=I.un (Un.laid k e (I.D8.fresh e)) (I.D8.laid k e d)
theorem Inv.write{h':UF}{x e:On}(I:Inv X pins O H s)(d:Kv (H x))(he:e=x\/H e=Y (.own x))(k:∀b u,b≠e->s.heap.get? b=Y u->h'.get? b=Y u)(f:∃u,h'.get? e=Y u)(a:cR X.prog X.w (upd H x o) h' x o):Inv X pins O (upd H x o) { s with heap:=h',toks:=g }:=I.un (Un.write d he k f) (I.D8.write d he k f a)
def Inv.N8(I:Inv X pins O H s)(h:∀p∈a,s.heap.get? p.1=Y p.2/\H p.1=M/\p.1≠X.env.locals/\p.1∉X.fs/\∀v,p.2.data ≠ .cell v):Inv X a O H s :=
 ⟨I.ok,I.os,I.bare,I.base,I.loc,I.cell,I.free,I.KH,λp b=>(ZU.mp b).elim (λz=>I.pin p (YV _ z)) (h p),I.D8,I.len⟩
def sM{N:List Str}(d:N.Nodup){i j:Nat}{x:Str}(a:N[i]?=Y x)(b:N[j]?=Y x):i=j:=by
 obtain⟨f,e1⟩:=Zk.mp a;obtain⟨e,e2⟩:=Zk.mp b;exact(List.getElem_inj d).mp (e1.trans e2.symm)
def qc{v:V}(I:Inv X pins O H s)(hN:X.N.Nodup)(C:X.N[i]?=Y x)(g:Loc X.env.scope x)(r:RelV v u)(h:∀U,Inv X pins (O.set i (Y v)) H U->(∃a,Heap.SameBut a s.heap U.heap/\(a=X.env.locals\/X.env.cells.lookup x=Y a))->Q () U)(hf:{`q0,X.fn x=J\/X.env.scope.names.lookup x=Y .local}):Pi Mq0 A (storeName X.env x u) Q E s:=by
 obtain⟨m,hn,hl⟩:=id I.loc;have B:i<O.length:=by rw[I.len];exact(Zk.mp C).1
 have Rn:=I.Rn;have tracked:∀{a:On}{h':UF},(∃o,s.heap.get? a=Y o/\H a=none)->Heap.SameBut a _ h'->Lv _ _ H h':=λ{a h'} ha f b ob e=>by
  obtain⟨_,_,hfree⟩:=ha;refine(I.D8 b ob e).ML (λc G l q=>(f.2 c ?_).trans q) (λ_ q=>q) (λ_ _ q=>q) λ_ _ _ q=>q;grind
 rcases g with w | w
 ·refine wpAny_storeName_local w hn (λh' hn' f=>?_) (by rw[I.ok.kind];rfl);obtain⟨oL,_,_,P6,_⟩:=id hn;refine h _ ⟨I.ok,I.os,I.bare,⟨λb o e n hb g=>?_,λb o e n hb g=>?_,I.base.free,λb o e g=>?_,I.base.L3,I.base.LV,I.base.Ly⟩,⟨_,hn',λj y P e1 e2 e3=>?_⟩,λy c e=>?_,I.free,I.KH,λp hp=>?_,tracked ⟨oL,P6,I.free⟩ f,by simpa using I.len⟩ ⟨_,f,.inl L⟩
  ·exact(f.2 b (Zi (Zc (Zf e) I.ok.above))).trans (I.base.keep b o e n hb g)
  ·obtain⟨S,e1⟩:=I.base.slot b o e n hb g;exact⟨S,(f.2 b (Zi (Zc (Zf e) I.ok.above))).trans e1⟩
  ·obtain⟨o',e1⟩:=I.base.there b o e g;exact⟨o',(f.2 b (Zi (Zc (Zf e) I.ok.above))).trans e1⟩
  ·by_cases t:j=i
   ·subst t;rw[C]at e1;cases e1;rw[Yh B]at e2;cases e2;exact⟨u,r,.inl ⟨w,by simp⟩⟩
   ·rw[ZH (Z9 t)]at e2;obtain⟨R,r',q⟩:=hl j y P e1 e2 e3;refine⟨R,r',?_⟩;rcases q with⟨k,e⟩ | ⟨k,c,e,z⟩
    ·refine .inl ⟨k,?_⟩;have:y≠x:=λe=>t (sM hN e1 (e ▸ C));simp[this,e]
    ·exact .inr ⟨k,c,e,z.sameBut f (Rn y c e)⟩
  ·obtain⟨G,z⟩:=I.cell y c e;exact⟨G,z.sameBut f (Rn y c e)⟩
  ·obtain⟨e,n,ne,nf,d⟩:=I.pin p hp;exact⟨(f.2 _ ne).trans e,n,ne,nf,d⟩
 ·have Um:X.fn x=J:=by
   grind
  obtain⟨c,l⟩:=I.ok.has x (.inl w);obtain⟨G,z⟩:=I.cell x c l;refine wpAny_storeName_cell I.ok.kind w l z (λh' LU f=>?_);obtain⟨oc,P5,hocd⟩:=id z;refine h _ ⟨I.ok,I.os,I.bare,⟨λb o e n hb g=>?_,λb o e n hb g=>?_,I.base.free,λb o e g=>?_,I.base.L3,I.base.LV,I.base.Ly⟩,⟨m,hn.sameBut f (Z9 (Rn x c l)),λj y P e1 e2 e3=>?_⟩,λy F e=>?_,I.free,I.KH,λp hp=>?_,tracked ⟨oc,P5,I.KH x c l⟩ f,by simpa using I.len⟩ ⟨c,f,.inr l⟩
  ·exact(f.2 b (Zi (Zc (Zf e) (I.ok.Sf x c Um l)))).trans (I.base.keep b o e n hb g)
  ·obtain⟨S,e1⟩:=I.base.slot b o e n hb g;exact⟨S,(f.2 b (Zi (Zc (Zf e) (I.ok.Sf x c Um l)))).trans e1⟩
  ·obtain⟨o',e1⟩:=I.base.there b o e g;exact⟨o',(f.2 b (Zi (Zc (Zf e) (I.ok.Sf x c Um l)))).trans e1⟩
  ·by_cases t:j=i
   ·subst t;rw[C]at e1;cases e1;rw[Yh B]at e2;cases e2;exact⟨u,r,.inr ⟨.inl w,c,l,LU⟩⟩
   ·rw[ZH (Z9 t)]at e2;obtain⟨R,r',q⟩:=hl j y P e1 e2 e3;refine⟨R,r',?_⟩;rcases q with q | ⟨k,F,e,z'⟩
    ·exact .inl q
    ·refine .inr ⟨k,F,e,z'.sameBut f ?_⟩;rintro rfl;exact t (sM hN e1 (I.ok.inj _ _ _ e l ▸ C))
  ·by_cases D:F=c
   ·subst D;exact⟨_,LU⟩
   ·obtain⟨w2,z2⟩:=I.cell y F e;exact⟨w2,z2.sameBut f D⟩
  ·obtain⟨e,n,ne,nf,d⟩:=I.pin p hp;refine⟨(f.2 _ ?_).trans e,n,ne,nf,d⟩;intro q
   simp_all
def k9{v:V}(I:Inv X pins O H s)(g:X.N.Nodup)(e:X.N[i]?=Y x)(d:Loc X.env.scope x)(r:RelV v u)(h:∀a,Inv X pins (O.set i (Y v)) H a->Q () a)(f:{`q0,X.fn x=J\/X.env.scope.names.lookup x=Y .local}):Pi b A (storeName X.env x u) Q E s :=
 qc I g e d r (λa j _=>h a j) f
def Inv.Ro{a:KB}{ch:X6}(I:Inv X pins O H s)(d:a.os=s.os)(u:Un (Lx X.stack) ch H H' s.heap a.heap)(g:Lv X.prog X.w H' a.heap)(e:AllBare a.gens)(f:∀b∈ch,(b∈X.ex\/X.s₀.heap.objs.size<=b)/\b≠X.env.locals/\(∀x c,X.env.cells.lookup x=Y c->c≠b)/\∀p∈X.pn++pins,p.1≠b):Inv X pins O H' a:=by
 obtain⟨h',g',d',t',h⟩:=a;subst d;exact I.call (g':=g') (t':=t') (d':=d') u g e f
end
abbrev XK:=PP->Option On->Hp->Prop
noncomputable abbrev St:=List (Option V)
abbrev VK:=V->Hp->Prop
abbrev TE:=St->Hp->VK->Prop
abbrev TT:=St->Hp->(Bool->Hp->Prop)->Prop
abbrev TA:=St->Hp->(List V->Hp->Prop)->Prop
structure Ends where
 nx:St->Hp->Prop
 rt:VK
 bk:St->Hp->Prop:=λ_ _=>False
 ct:St->Hp->Prop:=λ_ _=>False
abbrev TS:=Ends->St->Hp->Prop
def EP(X:Cx)(a:Ym)(O:St)(Q:VK)(u:PP)(d:KB):Prop:=∃v b,Inv X a O b d/\RelV v u/\Q v b
noncomputable def TP(X:Cx)(a:Ym)(O:St)(Q:Bool->Hp->Prop)(b:Bool)(e:KB):Prop:=∃d,Inv X a O d e/\Q b d
def AP(X:Cx)(a:Ym)(O:St)(Q:List V->Hp->Prop)(e:Wu)(f:KB):Prop:=∃b d,Inv X a O d f/\aN b e/\Q b d
def SP(X:Cx)(a:Ym)(Db:Ends)(f:Flow)(e:KB):Prop :=
 match f with
 |.next=>∃d b,Inv X a d b e/\Db.nx d b
 |.brk=>∃d b,Inv X a d b e/\Db.bk d b
 |.cont=>∃d b,Inv X a d b e/\Db.ct d b
 |.ret u=>∃v d b,Inv X a d b e/\RelV v u/\Db.rt v b
def PE(X:Cx)(e:Expr)(t:TE):Prop :=
 ∀(a:Ym)(s:KB)(O:St)(H:Hp)(Q:VK),Inv X a O H s->t O H Q->Pi (KF X.prog X.w) X.A (eval e X.env) (EP X a O Q) X.xe s
def PT(X:Cx)(e:Expr)(t:TT):Prop :=
 ∀(a:Ym)(s:KB)(O:St)(H:Hp)(Q:Bool->Hp->Prop),Inv X a O H s->t O H Q->Pi (KF X.prog X.w) X.A (isTrue e X.env (eval e X.env)) (TP X a O Q) X.xe s
def PW(X:Cx)(e:Expr)(t:TT):Prop :=
 ∀(whole:Sem PP)(a:Ym)(s:KB)(O:St)(H:Hp)(Q:Bool->Hp->Prop),Inv X a O H s->t O H Q->Pi (KF X.prog X.w) X.A (isTrue e X.env whole) (TP X a O Q) X.xe s
def PW.pt(h:PW X e t):PT X e t:=h _
def PA(X:Cx)(b:List Expr)(t:TA):Prop :=
 ∀(pos:Pos)(a:Ym)(s:KB)(O:St)(H:Hp)(Q:List V->Hp->Prop),Inv X a O H s->t O H Q->Pi (KF X.prog X.w) X.A (spliced (backTo pos (P3 b X.env))) (AP X a O Q) X.xe s
def PS(X:Cx)(b:Stmt)(t:TS):Prop :=
 ∀(a:Ym)(s:KB)(O:St)(H:Hp)(Db:Ends),Inv X a O H s->t Db O H->Pi (KF X.prog X.w) X.A (exec b X.env) (SP X a Db) X.xe s
def Mr(X:Cx)(b:List Stmt)(t:TS):Prop :=
 ∀(a:Ym)(s:KB)(O:St)(H:Hp)(Db:Ends),Inv X a O H s->t Db O H->Pi (KF X.prog X.w) X.A (execs b X.env) (SP X a Db) X.xe s
def thn{α:Type}{t:Sem α}{Q b:α->KB->Prop}{M:Model}(h:Pi M A t Q E s)(d:∀a s,Q a s->b a s):Pi M A t b E s:=Z4 h d λ_ _ x=>x
section
noncomputable def Iq(i:Nat):TE:=λO H Q=>∃v,O[i]?=Y (Y v)/\Q v H
noncomputable def tC(v:V):TE:=λ_ H Q=>Q v H
def dS{X:Cx}(p:X.N[i]?=Y x)(n:Ni X.env.scope x)(d:{`q1,K3 x})(q:{`q1,K4 x}):PE X (.Name x b) (Iq i):=by
 intro f s O H Q I h;obtain⟨v,e,h⟩:=h;obtain⟨m,o,hl⟩:=I.loc;obtain⟨u,r,l⟩:=hl i x v p e n;have fin:EP X _ O Q u s:=⟨v,H,I,r,h⟩
 rcases l with⟨a,hm⟩ | ⟨a,c,g,j⟩
 ·exact wpAny_Name (wpAny_loadName_local I.ok.kind a o hm fin) d
 ·rcases a with a | a
  ·exact wpAny_Name (wpAny_loadName_cell I.ok.kind a g j fin) d
  ·exact wpAny_Name (wpAny_loadName_free I.ok.kind a g j fin q) d
def rm{i j pos}:PE X (.Constant (.int i) j pos) (tC (.int i)):=λ_ _ _ H _ I h=>wpAny_Constant_int ⟨.int i,H,I.tok _,⟨_,rfl⟩,h⟩
def HZ{b j pos}:PE X (.Constant (.bool b) j pos) (tC (.bl b)):=λ_ _ _ H _ I h=>Constant_bool ⟨.bl b,H,I,rfl,h⟩
def GZ{j pos}:PE X (.Constant .none j pos) (tC .non):=λ_ _ _ H _ I h=>Constant_none ⟨.non,H,I,rfl,h⟩
def FP{x j pos}:PE X (.Constant (.str x) j pos) (tC (.str x)):=λ_ _ _ H _ I h=>Calls.Constant_str ⟨.str x,H,I.tok _,⟨_,rfl⟩,h⟩
noncomputable def Gl(X:Cx)(x:Str):Prop:=X.env.kindOf x=Y .globalImplicit
def jK{s:KB}(I:Inv X a O H s)(e:Gl X x)(d:X.mg x=Y u)(h:Q u s)(f:{`q1,K3 x}):Pi (KF X.prog X.w) X.A (eval (.Name x b) X.env) Q E s :=
 Calls.Name_function_global I.ok.kind e (Calls.loadGlobal_global (by rw[I.ok.glob];exact I.mod.glob.keeps I.bk) d h) f
def l9(I:Inv X a O H s)(g:Gl X x)(f:X.mg x=M)(d:bootBuiltins x=Y u)(h:Q u s)(e:{`q1,x ≠ "__name__"})(i:{`q1,K3 x}):Pi (KF X.prog X.w) X.A (eval (.Name x b) X.env) Q E s:=by
 obtain⟨mb,l,j⟩:=I.mod.blt;exact Calls.Name_function_global I.ok.kind g (Calls.loadGlobal_builtin (by rw[I.ok.glob];exact I.mod.glob.keeps I.bk) f (by rw[I.ok.blt];exact l.keeps I.bk) ((j x e).trans d) h) i
def DX(d:Gl X x)(b:X.mg x=Y u)(r:RelV v u)(e:{`q1,K3 x}):PE X (.Name x a) (tC v) :=
 λ_ _ _ H _ I h=>jK I d b ⟨v,H,I,r,h⟩ e
def wx{v:V}(f:Gl X x)(e:X.mg x=M)(b:bootBuiltins x=Y u)(r:RelV v u)(d:{`q1,x ≠ "__name__"})(g:{`q1,K3 x}):PE X (.Name x a) (tC v) :=
 λ_ _ _ H _ I h=>l9 I f e b ⟨v,H,I,r,h⟩ d g
def PC(X:Cx)(g:CmpOp)(a b:Expr)(t:TE):Prop :=
 ∀(d:Ym)(s:KB)(O:St)(H:Hp)(Q:VK),Inv X d O H s->t O H Q →
  Pi (KF X.prog X.w) X.A (eval a X.env) (λv f=>Pi (KF X.prog X.w) X.A (eval b X.env) (λu e=>Pi (KF X.prog X.w) X.A (SZ g v u) (EP X d O Q) X.xe e) X.xe f) X.xe s
def Bd(b:Expr)(h:d ≠ .In)(e:d ≠ .NotIn):behindInMarks d b=Z:=by
 have e1:(d==CmpOp.In)=Z:=by grind
 have e2:(d==CmpOp.NotIn)=Z:=by grind
 cases b<;>simp[behindInMarks,e1,e2]
noncomputable def Ki(ta:TE):TE:=λO H Q=>ta O H λx d=>Q (.bl (decide (x=.non))) d
noncomputable def Ik(ta:TE):TE:=λO H Q=>ta O H λx d=>Q (.bl (!decide (x=.non))) d
def RelV.NA(r:RelV x v):(v==Value.none)=decide (x=.non):=by
 cases x with
 |non=>cases r;rfl
 |bl _=>cases r;rfl
 |int _=>obtain⟨t,rfl⟩:=r;rfl
 |str _=>obtain⟨t,rfl⟩:=r;rfl
 |byt _=>obtain⟨t,rfl⟩:=r;rfl
 |flt _=>obtain⟨t,rfl⟩:=r;rfl
 |ref _=>cases r;rfl
 |ty _=>cases r;rfl
def HE{j pos'}(e:PE X a ta):PC X .Is a (.Constant .none j pos') (Ki ta):=by
 intro d s O H Q I h;refine thn (e _ s O H _ I h) λv s1 f=>?_;obtain⟨x,i,g,r1,q1⟩:=f;exact Constant_none (is_none_gen ⟨_,i,g,by rw[r1.NA];rfl,q1⟩)
def C5{j pos'}(e:PE X a ta):PC X .IsNot a (.Constant .none j pos') (Ik ta):=by
 intro d s O H Q I h;refine thn (e _ s O H _ I h) λv s1 f=>?_;obtain⟨x,i,g,r1,q1⟩:=f;exact Constant_none (isnot_none_gen ⟨_,i,g,by rw[r1.NA];rfl,q1⟩)
noncomputable def tB(t:TE):TT:=λO H Q=>t O H λx d=>∃c,x=.bl c/\Q c d
def BG(h:PC X e a b t)(f:behindInMarks e b=Z:=by first | exact Bd _ (by decide) (by decide) | rfl):PT X (.Compare a [e] [b] pos) (tB t):=by
 intro g s O H Q I hw;refine wpAny_isTrue_Compare1 (thn (h _ s O H _ I hw) λv s1 f=>thn f λu o j=>thn j λc n i=>?_) f;obtain⟨x,m,l,r1,q1⟩:=i;obtain⟨d,rfl,q⟩:=q1;cases r1;exact Yb ⟨m,l,q⟩
noncomputable def JR(t u:TT):TT:=λO H Q=>t O H λc d=>if c=J then u O d Q else Q Z d
noncomputable def tOr(t u:TT):TT:=λO H Q=>t O H λc d=>if c=J then Q J d else u O d Q
noncomputable def JN(t:TT):TT:=λO H Q=>t O H λc d=>Q (!c) d
def nA(f:PT X a tA):PW X (.BoolOp .And [a] pos) tA:=by
 intro g d s O H Q I h;refine isTrue_and (thn (f _ s O H Q I h) λc s1 e=>?_);cases c with
 |true=>exact isTrue_and_nil e
 |false=>exact e
def mr(f:PT X a tA):PW X (.BoolOp .Or [a] pos) tA:=by
 intro g d s O H Q I h;refine isTrue_or (thn (f _ s O H Q I h) λc s1 e=>?_);cases c with
 |false=>exact isTrue_or_nil e
 |true=>exact e
def A0{X:Cx}{a:Expr}{pos:Pos}{tA U9:TT}{rest:List Expr}(j:PT X a tA)(i:PW X (.BoolOp .And (b :: rest) pos) U9):PW X (.BoolOp .And (a :: b :: rest) pos) (JR tA U9):=by
 intro g d s O H Q I h;refine isTrue_and (thn (j _ s O H _ I h) λc s1 l=>?_);obtain⟨f,e,q1⟩:=l;cases c with
 |true=>exact i g _ s1 O f Q e q1
 |false=>exact⟨f,e,q1⟩
def Jw{X:Cx}{a:Expr}{pos:Pos}{tA U9:TT}{rest:List Expr}(j:PT X a tA)(i:PW X (.BoolOp .Or (b :: rest) pos) U9):PW X (.BoolOp .Or (a :: b :: rest) pos) (tOr tA U9):=by
 intro g d s O H Q I h;refine isTrue_or (thn (j _ s O H _ I h) λc s1 l=>?_);obtain⟨f,e,q1⟩:=l;cases c with
 |true=>exact⟨f,e,q1⟩
 |false=>exact i g _ s1 O f Q e q1
def GX(e:PT X a tA):PT X (.UnaryOp .Not a pos) (JN tA):=by
 intro d s O H Q I h;exact isTrue_not (e _ s O H _ I h)
noncomputable def HI(ta e:TE):TE:=λO H Q=>ta O H λx d=>∃c,x=.bl c/\if c=J then e O d Q else Q (.bl Z) d
noncomputable def HV(ta:TE):TE:=λO H Q=>ta O H λx d=>∃c,x=.bl c/\Q (.bl (!c)) d
def FC{op}(h:PE X a t):PE X (.BoolOp op [a] pos) t:=λd s O H Q I hw=>BoolOp_one (h _ s O H Q I hw)
def Gw{X:Cx}{a:Expr}{ta tb:TE}{pos:Pos}{rest:List Expr}(i:PE X a ta)(g:PE X (.BoolOp .And (b :: rest) pos) tb):PE X (.BoolOp .And (a :: b :: rest) pos) (HI ta tb):=by
 intro d s O H Q I h;refine BoolOp_and (thn (i _ s O H _ I h) λv s1 j=>?_);obtain⟨x,f,e,r1,q1⟩:=j;obtain⟨c,rfl,q1⟩:=q1;cases r1;refine Yb ?_;cases c with
 |true=>exact g _ s1 O f Q e q1
 |false=>exact⟨.bl _,f,e,rfl,q1⟩
def HF(e:PE X a ta):PE X (.UnaryOp .Not a pos) (HV ta):=by
 intro d s O H Q I h;refine UnaryOp_ (thn (e _ s O H _ I h) λv s1 f=>?_);obtain⟨x,i,g,r1,q1⟩:=f;obtain⟨c,rfl,q1⟩:=q1;cases r1;exact not_of (Yb ⟨.bl _,i,g,rfl,q1⟩)
end
def KA(K:Xd)(H:Hp)(a:On)(d:List V):Prop :=
 Rd H a (.lst d) ∨
  ∃(o:Obj)(b:Array PP)(n:Nat),K.lookup a=Y o/\o.cls=.type "list" ∧ o.dict=M/\o.data=.seq b n/\b.size<=KM/\aN d b.toList
def LK(K:Xd)(H:Hp)(a:On)(d:List V):Prop :=
 Rd H a (.tup d) ∨
  ∃(o:Obj)(b:Array PP)(n:Nat),K.lookup a=Y o/\o.cls=.type "tuple" ∧ o.data=.seq b n/\b.size<=KM/\aN d b.toList
noncomputable def JS:PP->Option V
 |.none=>Y .non
 |.bool b=>Y (.bl b)
 |.int i _=>Y (.int i)
 |.str x _=>Y (.str x)
 |.bytes b _=>Y (.byt b)
 |.float b _=>Y (.flt b)
 |.ref a=>Y (.ref a)
 |.type n=>Y (.ty n)
 |_=>M
def RelV.abs(r:RelV x u):JS u=Y x:=by
 cases x with
 |non=>cases r;rfl
 |bl _=>cases r;rfl
 |int _=>obtain⟨t,rfl⟩:=r;rfl
 |str _=>obtain⟨t,rfl⟩:=r;rfl
 |byt _=>obtain⟨t,rfl⟩:=r;rfl
 |flt _=>obtain⟨t,rfl⟩:=r;rfl
 |ref _=>cases r;rfl
 |ty _=>cases r;rfl
def RelV.inj(r:RelV x u)(q:RelV y u):x=y:=ZX (r.abs.symm.trans q.abs)
theorem aN.inj:∀{b a:List V}{d:Wu},aN b d->aN a d->b=a
 |_,_,_,.nil,.nil=>rfl
 |_,_,_,.cons r t,.cons f e=>by rw[r.inj f,aN.inj t e]
section
variable{H:Hp}
def KA.of{K:Xd}(h:H a=Y (.lst xs)):KA K H a xs:=.inl (.inl h)
def LK.of{K:Xd}(h:H a=Y (.tup xs)):LK K H a xs:=.inl (.inl h)
def Inv.list(I:Inv X pins O H s)(h:KA X.K H a xs):∃b:Wu,aN xs b/\PlainL s.heap a b.toArray/\xs.length<=sizeLine:=by
 rcases h with h | ⟨o,b,n,f,g,hd,d,i,r⟩
 ·obtain⟨z,b,n,r,e⟩:=h.ok I.D8;exact⟨_,r,⟨_,n,e,rfl,rfl,rfl⟩,z⟩
 ·refine⟨_,r,⟨o,n,I.LR a o f,g,hd,by simpa using d⟩,?_⟩;have e:=r.length;grind
def Inv.tuple(I:Inv X pins O H s)(h:LK X.K H a xs):∃b:Wu,aN xs b/\IsTup s.heap a b.toArray/\xs.length<=sizeLine:=by
 rcases h with h | ⟨o,b,n,f,g,d,i,r⟩
 ·obtain⟨z,b,r,_,p⟩:=h.ok I.D8;exact⟨_,r,p,z⟩
 ·refine⟨_,r,⟨o,I.LR a o f,g,n,by simpa using d⟩,?_⟩;have e:=r.length
  simp_all
def Inv.NB(I:Inv X pins O H s)(h:KA X.K H a xs)(i:KA X.K H a ys):xs=ys:=by
 obtain⟨l,r,⟨o,n,e,_,_,d⟩,_⟩:=I.list h;obtain⟨j,g,⟨m,p,b,_,_,f⟩,_⟩:=I.list i;rw[e]at b;cases b;rw[d]at f;injection f with d1 _
 have:l=j:=by grind
 subst this;exact r.inj g
def Inv.Oh(I:Inv X pins O H s)(h:LK X.K H a xs)(i:LK X.K H a ys):xs=ys:=by
 obtain⟨l,r,⟨o,e,_,n,d⟩,_⟩:=I.tuple h;obtain⟨j,g,⟨m,b,_,p,f⟩,_⟩:=I.tuple i;rw[e]at b;cases b;rw[d]at f;injection f with d1 _
 have:l=j:=by grind
 subst this;exact r.inj g
end
noncomputable abbrev Cx.LL(X:Cx)(E:Yy):Cx:={ X with xe:=E }
abbrev Cx.L6(X:Cx):Cx:=X.LL λ_ _=>False
theorem Cx.Ok.LL{X:Cx}(a:X.Ok)(E:Yy):(X.LL E).Ok :=
 ⟨a.mod,a.kind,a.glob,a.blt,a.above,a.inj,a.has,a.Sf,a.hd,a.frames,a.PH,a.VJ,a.tb,a.bs,a.OF,a.NS,a.Ot,a.Ln,a.Qw⟩
def Cx.Ok.KR{X:Cx}(a:(X.LL E).Ok):X.Ok :=
 ⟨a.mod,a.kind,a.glob,a.blt,a.above,a.inj,a.has,a.Sf,a.hd,a.frames,a.PH,a.VJ,a.tb,a.bs,a.OF,a.NS,a.Ot,a.Ln,a.Qw⟩
section
variable{H:Hp}
theorem Inv.LL(I:Inv X pins O H s)(E:Yy):Inv (X.LL E) pins O H s:=⟨I.ok.LL E,I.os,I.bare,I.base,I.loc,I.cell,I.free,I.KH,I.pin,I.D8,I.len⟩
theorem Inv.KR{X:Cx}(I:Inv (X.LL E) pins O H s):Inv X pins O H s:=⟨I.ok.KR,I.os,I.bare,I.base,I.loc,I.cell,I.free,I.KH,I.pin,I.D8,I.len⟩
theorem SP.KR{X:Cx}(h:SP (X.LL E) pins Db f d):SP X pins Db f d:=by
 cases f with
 |next=>obtain⟨b,a,I,q⟩:=h;exact⟨_,a,I.KR,q⟩
 |brk=>obtain⟨b,a,I,q⟩:=h;exact⟨_,a,I.KR,q⟩
 |cont=>obtain⟨b,a,I,q⟩:=h;exact⟨_,a,I.KR,q⟩
 |ret u=>obtain⟨v,b,a,I,r,q⟩:=h;exact⟨v,_,a,I.KR,r,q⟩
theorem PT.L6{X:Cx}(h:PT X.L6 e t):PT X e t:=λpins s O H Q I hw =>
 Z4 (h pins s O H Q (I.LL _) hw) (λ_ _ ⟨b,a,q⟩=>⟨b,a.KR,q⟩) λ_ _ z=>False.elim z
theorem Mr.L6{X:Cx}(h:Mr X.L6 a t):Mr X a t:=λpins s O H Db I hw =>
 Z4 (h _ s O H Db (I.LL _) hw) (λ_ _ q=>q.KR) λ_ _ z=>False.elim z
end
section
variable{st:Stmt}
noncomputable def Jb:TS:=λDb O H=>Db.nx O H
noncomputable def JQ(t u:TS):TS:=λDb O H=>t { Db with nx:=u Db } O H
def CL:Mr X [] Jb:=λ_ _ O H _ I h=>X1 ⟨O,H,I,h⟩
def tR{X:Cx}{rest:List Stmt}{t u:TS}(d:PS X st t)(b:Mr X rest u):Mr X (st :: rest) (JQ t u):=by
 intro a s O H Db I h;refine wpAny_execs_cons (thn (d _ s O H _ I h) λf s1 q=>?_);cases f with
 |next =>
  obtain⟨j,i,g,q⟩:=q;exact b _ s1 _ i Db g q
 |ret v=>exact q
 |brk=>exact q
 |cont=>exact q
def ax(b:PS X st t):Mr X [st] t:=by
 intro a s O H Db I h;refine wpAny_execs_cons (thn (b _ s O H Db I h) λf s1 q=>?_);cases f with
 |next=>exact X1 q
 |ret v=>exact q
 |brk=>exact q
 |cont=>exact q
def Inv.quiet(I:Inv X a O H s):interactive X.env=Z:=by simp[interactive,I.ok.kind]
noncomputable def Jl(a:TE):TS:=λDb O H=>a O H λ_ b=>Db.nx O b
def gD{pos:Pos}(he:PE X e te)(b:{`q2,swapsWith e M pos.line X.env=pure Z}):PS X (.Expr e pos) (Jl te):=by
 intro a s O H Db I h;exact wpAny_Expr_any (thn (he _ s O H _ I h) λv s1 ⟨x,f,d,r1,q1⟩=>⟨O,f,d,q1⟩) I.quiet b
noncomputable def JX(a:TE):TS:=λDb O H=>a O H Db.rt
def rE(he:PE X e te):PS X (.Return (Y e) pos) (JX te):=by
 intro a s O H Db I h;refine wpAny_Return_some (thn (he _ s O H _ I h) λv s1 b=>?_);obtain⟨x,f,d,r1,q1⟩:=b;exact⟨x,O,f,d,r1,q1⟩
noncomputable def JD(c:TT)(t u:TS):TS:=λDb O H=>c O H λb a=>if b=J then t Db O a else u Db O a
def AY(l:PT X c f)(n:Mr X a t)(m:Mr X b u):PS X (.If c a b pos) (JD f t u):=by
 intro g s O H Db I h;refine wpAny_If (thn (l _ s O H _ I h) λd s1 o=>?_);obtain⟨j,i,q1⟩:=o;cases d with
 |true=>exact n _ s1 O j Db i q1
 |false=>exact m _ s1 O j Db i q1
end
abbrev TG:=V->St->Hp->(St->Hp->Prop)->Prop
abbrev QD:=List V->St->Hp->(St->Hp->Prop)->Prop
def PG(X:Cx)(a:Expr)(t:TG):Prop :=
 ∀(b:Ym)(s:KB)(O:St)(H:Hp)(v:V)(u:PP)(Q:St->Hp->Prop),Inv X b O H s->RelV v u->t v O H Q →
  Pi (KF X.prog X.w) X.A (assign a X.env u) (λ_ f=>∃d e,Inv X b d e f/\Q d e) X.xe s
def Pu(X:Cx)(g:List Expr)(t:QD):Prop :=
 ∀(a:Ym)(s:KB)(O:St)(H:Hp)(b:List V)(d:Wu)(Q:St->Hp->Prop),Inv X a O H s->aN b d->t b O H Q →
  Pi (KF X.prog X.w) X.A (assignInOrder ((assignEach g X.env).map (·.2)) d) (λ_ h=>∃e f,Inv X a e f h/\Q e f) X.xe s
abbrev Cg:=V->V->V->Hp->(Hp->Prop)->Prop
def FT(X:Cx)(t:Cg):Prop :=
 ∀(a:Ym)(s:KB)(O:St)(H:Hp)(o i v:V)(b iv u:PP)(Q:Hp->Prop),Inv X a O H s->RelV o b->RelV i iv->RelV v u->t o i v H Q →
  Pi (KF X.prog X.w) X.A (setItem b iv u) (λ_ e=>∃d,Inv X a O d e/\Q d) X.xe s
section
noncomputable def wb(i:Nat):TG:=λv O H Q=>Q (O.set i (Y v)) H
def qE{X:Cx}(f:X.N.Nodup)(d:X.N[i]?=Y x)(b:Loc X.env.scope x)(e:{`q0,X.fn x=J\/X.env.scope.names.lookup x=Y .local}):PG X (.Name x pos) (wb i):=by
 intro a s O H v u Q I r h;exact wpAny_assign_Name (k9 I f d b r (λj g=>⟨_,H,g,h⟩) e)
noncomputable def J0:QD:=λa O H Q=>a=[]/\Q O H
noncomputable def HK(t:TG)(u:QD):QD:=λa O H Q=>∃v r,a=v :: r/\t v O H λb d=>u r b d Q
def Cm:Pu X [] J0:=by
 intro a s O H b d Q I r h;obtain⟨e,h⟩:=h;subst e;cases r;exact assignInOrder_nil ⟨O,H,I,h⟩
def AG(j:PG X e t)(i:Pu X a u)(f:{`q2,(assignEach (e :: a) X.env).map (·.2)=assign e X.env :: (assignEach a X.env).map (·.2)}):Pu X (e :: a) (HK t u):=by
 intro b s O H n p Q I r h;obtain⟨v,o,e1,h⟩:=h;subst e1;cases r with
 |cons r d =>
  rw[f];refine assignInOrder_cons (thn (j _ s O H _ _ _ I r h) λ_ s1 g=>?_);obtain⟨q,m,l,q1⟩:=g;exact i _ s1 _ m _ _ Q l d q1
def kT(K:Xd)(n:Nat)(t:QD):TG:=λv O H Q=>∃a b,v=.ref a/\LK K H a b/\b.length=n/\t b O H Q
def Gz{X:Cx}(q:X.calm=J)(h:Pu X d t)(p:{`q2,(assignEach d X.env).length=n})(w:{`q2,(assignEach d X.env).findIdx? (·.1)=M}):PG X (.Tuple d k pos) (kT X.K n t):=by
 intro g s O H v u Q I r hw;obtain⟨a,i,e1,m,hl,hw⟩:=hw;subst e1;cases r;obtain⟨z,f,l,x⟩:=I.tuple m;refine assign_Tuple_tuple (I.ok.hd q) l (by simp[p,← hl,f.length]) w λy j=>?_;exact h _ _ O H i _ Q (I.kept (t':=s.toks) λb o e=>j b o (Zi (Zf e)) e) (by simpa using f) hw
noncomputable def Ie(a b:TE)(t:Cg):TG:=λv O H Q=>a O H λo f=>b O f λi e=>t o i v e λd=>Q O d
def uV(n:PE X o d)(p:PE X i e)(m:FT X t)(q:{`q3,∀v,assign (.Subscript o i pos) X.env v=(do
   let a ← holding [v] (eval o X.env)
   let iv ← holding [v,a] (eval i X.env)
   standAt pos
   holding [v,a,iv] (setItem a iv v)
   release [v,a,iv] [])}):PG X (.Subscript o i pos) (Ie d e t):=by
 intro f s O H v u Q I r h;rw[q];refine Zx (ZC (thn (n _ s O H _ I h) λa s1 b=>?_));obtain⟨x,D,A,r1,q1⟩:=b;refine Zx (ZC (thn (p _ s1 O D _ A q1) λiv g b=>?_));obtain⟨y,C,z,r2,l⟩:=b;refine Zx (wpAny_standAt (Zx (ZC (thn (m _ g O C x y v a iv u _ z r1 r2 r l) λ_ E b=>?_))));obtain⟨B,w,j⟩:=b;exact wpAny_release ⟨O,B,w,j⟩
noncomputable def Jm(a:TE)(g:TG):TS:=λDb O H=>a O H λx b=>g x O b Db.nx
def uY{pos:Pos}(he:PE X e b)(i:PG X a g)(f:{`q2,swapsWithSole [a] e pos.line X.env=pure Z})(hw:{`q2,swappedStores [a] e X.env=pure M})(l:{`q2,(assignEach [a] X.env).map (·.2)=[assign a X.env]}):PS X (.Assign [a] e pos) (Jm b g):=by
 intro d s O H Db I h;refine wpAny_Assign_stores (thn (he _ s O H _ I h) λv s1 j=>?_) f hw;obtain⟨x,n,m,r1,q1⟩:=j;rw[l];exact thn (i _ s1 O n x v _ m r1 q1) λ_ o q=>q
def my{X:Cx}{pos:Pos}(n:X.N.Nodup)(j:X.N[i]?=Y x)(f:Loc X.env.scope x)(he:PE X e b)(g:{`q2,swapsWith e (Y (.Name x a)) pos.line X.env=pure Z})(l:{`q0,X.fn x=J\/X.env.scope.names.lookup x=Y .local}) :
  PS X (.Assign [.Name x a] e pos) (Jm b (wb i)):=by
 intro d s O H Db I h;refine wpAny_Assign_Name (thn (he _ s O H _ I h) λv s1 m=>?_) g;obtain⟨y,q,p,r1,q1⟩:=m;exact k9 p n j f r1 (λr o=>⟨_,q,o,q1⟩) l
end
section
def FL(c:TT)(g:TS):TS:=λDb O H=>∃W:Nat->St->Hp->Prop,(∃m,W m O H)/\∀m O H,W m O H →
 c O H λb e=>if b=J then ∃N:St->Hp->Prop,(∀d f,N d f->∃a,a<m/\W a d f)/\g { Db with nx:=N,ct:=N,bk:=Db.nx } O e else Db.nx O e
def zo{X:Cx}(r:PassesOwn (KF X.prog X.w) X.A X.env X.xe)(F:PT X c o)(G:Mr X a p):PS X (.While c a [] pos) (FL o p):=by
 intro q s O H Db I h;obtain⟨W,⟨m0,C⟩,turn⟩:=h;refine wpAny_While (codeAny_whileLoop (λn E=>∃t z,Inv X _ t z E/\W n t z) ?_ m0 ⟨O,H,I,C⟩);rintro n s1 ⟨U,y,R,B⟩;refine Xw r (thn (F _ s1 _ y _ R (turn n _ y B)) λb D P=>?_);obtain⟨x,u,g⟩:=P;cases b with
 |true =>
  obtain⟨N,hN,g⟩:=g;rw[Zm L];refine Xw r (thn (G _ D _ x _ u g) λf S e=>?_);cases f with
  |next =>
   obtain⟨Q,d,m,j⟩:=e;obtain⟨l,hm,i⟩:=hN _ d j;exact⟨l,hm,_,d,m,i⟩
  |cont =>
   obtain⟨Q,d,m,j⟩:=e;obtain⟨l,hm,i⟩:=hN _ d j;exact⟨l,hm,_,d,m,i⟩
  |brk=>exact e
  |ret v=>exact e
 |false =>
  rw[Zl Za];exact X1 ⟨_,x,u,g⟩
end
structure It where
 go:Nat->Hp->Prop
 UU:Nat->Hp->V->Hp->Prop
 stop:Nat->Hp->Prop
def ja(X:Cx)(a:Ym)(H:Hp)(b:On):Prop :=
 H b=M/\b≠X.env.locals/\b∉X.fs/\(b∈X.ex\/X.s₀.heap.objs.size<=b)/\(∀x c,X.env.cells.lookup x=Y c->c≠b)/\∀p∈X.pn++a,p.1≠b
def Inv.NZ(I:Inv X a O H s)(d:s.heap.objs.size<=b)(h:f b=M):ja X a f b:=by
 refine⟨h,Xs (Zc I.lt d),I.nofs d,.inr (ZW I.sz d),λx c e z=>?_,λp g z=>?_⟩
 ·obtain⟨v,q⟩:=I.cell x c e;exact absurd (Zc q.lt (by rw[z];exact d)) (YN _)
 ·exact absurd (Zc (Zf (I.pin p g).1) (by rw[z];exact d)) (YN _)
structure Turn(P:SB)(w:UV)(K:Xd)(tg:Expr)(J:It)(fp:X6)(it:On)(tn:Nat->UF->Prop):Prop where
 mem:it∈fp
 obj:∀i h,tn i h->∀b∈fp,∃o,h.get? b=some o/\∀v,o.data ≠ .cell v
 keep:∀i h h',tn i h->(∀b∈fp,∀o,h.get? b=some o->h'.get? b=some o)->tn i h'
 item:∀(X:Cx),X.prog=P->X.w=w->X.K=K->X.calm=true->∀(i:Nat)(pins:Ym)(s:KB)(O:St)(H:Hp)(E:Yy),Inv X pins O H s->(∀b∈fp,ja X pins H b)->tn i s.heap->J.go i H →
  Pi (KF P w) X.A (pyNext (.ref it)) (λr s1=>∃u,r=some u ∧
   Pi (KF P w) X.A (letOwnedTupleGo tg (.ref it) u) (λ_ s2=>∃x H',Inv X pins O H' s2/\RelV x u/\J.UU i H x H'/\tn (i+1) s2.heap/\∀b∈fp,H' b=none) E s1) E s
 done:∀(X:Cx),X.prog=P->X.w=w->X.K=K->X.calm=true->∀(i:Nat)(pins:Ym)(s:KB)(O:St)(H:Hp)(E:Yy),Inv X pins O H s->(∀b∈fp,ja X pins H b)->tn i s.heap->J.stop i H →
  Pi (KF P w) X.A (pyNext (.ref it)) (λr s1=>r=none/\Inv X pins O H s1) E s
 self:∀(A:SC)(i:Nat)(s:KB)(Q:Yy)(E:Yy),tn i s.heap->Q (.ref it) s->Pi (KF P w) A (pyIter (.ref it)) Q E s
abbrev TI:=St->Hp->(It->Hp->Prop)->Prop
def PIE(X:Cx)(a:Ym)(O:St)(g:Expr)(R:It->Hp->Prop)(d:PP)(f:KB):Prop :=
 ∃(it:On)(fp:X6)(tn:Nat->UF->Prop)(J:It)(e:Hp),d=.ref it/\Inv X a O e f/\Turn X.prog X.w X.K g J fp it tn/\tn 0 f.heap/\(∀b∈fp,ja X a e b)/\R J e
def PI(X:Cx)(e b:Expr)(d:TI):Prop :=
 ∀(a:Ym)(s:KB)(O:St)(H:Hp)(R:It->Hp->Prop),Inv X a O H s->d O H R →
  Pi (KF X.prog X.w) X.A (eval b X.env) (λv s1=>Pi (KF X.prog X.w) X.A (pyIter v) (PIE X a O e R) X.xe s1) X.xe s
def t6{M:Model}{s:KB}(f:s.heap.get? e=Y o)(h:o.cls=.type n)(g:o.data=.fields b)(i:["enumerate", "zip", "dict_itemiterator", "dict_reverseitemiterator", "odict_iterator", "itertools.zip_longest", "itertools.pairwise"].contains n=Z)(a:Q () s):Pi M A (letOwnedTupleGo d (.ref e) u) Q E s:=by
 cases d<;>first
  |exact Zs a
  | (cases u<;>first
    |exact Zs a
    | (refine Zx (wpAny_load f ?_)
       rw[h,g];show Pi M A (if (["enumerate", "zip", "dict_itemiterator", "dict_reverseitemiterator", "odict_iterator", "itertools.zip_longest", "itertools.pairwise"].contains n&&b[0]? == Y _)=J then _ else _) Q E s;rw[Zl (by grind)];exact Zs a))
def Itl(K:Xd)(a:On):It :=
 ⟨λi H=>∃b x,KA K H a b/\b[i]?=Y x,λi H x d=>d=H/\∀b,KA K H a b->b[i]?=Y x,λi H=>∃b,KA K H a b/\b.length<=i⟩
def Itt(K:Xd)(a:On):It :=
 ⟨λi H=>∃b x,LK K H a b/\b[i]?=Y x,λi H x d=>d=H/\∀b,LK K H a b->b[i]?=Y x,λi H=>∃b,LK K H a b/\b.length<=i⟩
noncomputable def VU(a:Int)(n:Nat):It:=⟨λi _=>i<n,λi H x b=>b=H/\x=.int (a+i),λi _=>n<=i⟩
def yr{P:SB}{w:UV}{K:Xd}{G:Expr}(a f:On):Turn P w K G (Itl K a) [f] f (λi h=>h.IsListIter f a i) where
 mem:=by simp
 obj:=λi h st b hb=>by
  have e:b=f:=by simpa using hb
  subst e;obtain⟨o,e,c,d⟩:=st
  simp_all
 keep:=λi h C st k=>st.at λo e=>k f (by simp) o e
 item:=by
  intro X r hw t B i g s O H E I l st hg;refine L2.ah λP_ n=>?_;subst r hw t;obtain⟨F,x,j,q⟩:=hg;obtain⟨D0,m,p,Q⟩:=I.list j;obtain⟨u,S,N⟩:=m.get q;obtain⟨A,f1,f2,z,y,v⟩:=l f (by simp);refine n ?_;refine wpAny_pyNext_list_item st p.isList (x:=u) (by simpa using S) λC D L=>?_;obtain⟨o,e,c,d⟩:=id D;exact⟨u,rfl,t6 e c d (by decide) ⟨x,H,(I.turned (t':=s.toks) (λb o hb e=>(L.2 b hb).trans e) A f1 z y v),N,⟨rfl,λys R=>by rw[I.NB R j];exact q⟩,D,λb hb=>(l b hb).1⟩⟩
 done:=by
  intro X r hw t B i g s O H E I l st hg;refine L2.ah λP_ n=>?_;subst r hw t;obtain⟨F,j,q⟩:=hg;obtain⟨D0,m,p,Q⟩:=I.list j;obtain⟨A,f1,f2,z,y,v⟩:=l f (by simp);refine n ?_;have hl:=m.length;exact wpAny_pyNext_list_end (I.ok.hd B) st p.isList (by simp;lia) λC U=>⟨rfl,I.turned (λb o hb e=>U b o hb e) A f1 z y v⟩
 self:=λ_ _ _ _ _ st h=>wpAny_pyIter_listiter st h
def vN{P:SB}{w:UV}{K:Xd}{G:Expr}(a f:On):Turn P w K G (Itt K a) [f] f (λi h=>h.IsTupleIter f a i) where
 mem:=by simp
 obj:=λi h st b hb=>by
  have e:b=f:=by simpa using hb
  subst e;obtain⟨o,e,c,d⟩:=st
  simp_all
 keep:=λi h C st k=>st.at λo e=>k f (by simp) o e
 item:=by
  intro X r hw t B i g s O H E I l st hg;refine L2.ah λP_ n=>?_;subst r hw t;obtain⟨F,x,j,q⟩:=hg;obtain⟨D0,m,p,Q⟩:=I.tuple j;obtain⟨u,S,N⟩:=m.get q;obtain⟨A,f1,f2,z,y,v⟩:=l f (by simp);refine n ?_;refine wpAny_pyNext_tuple_item st (p) (x:=u) (by simpa using S) λC D L=>?_;obtain⟨o,e,c,d⟩:=id D;exact⟨u,rfl,t6 e c d (by decide) ⟨x,H,(I.turned (t':=s.toks) (λb o hb e=>(L.2 b hb).trans e) A f1 z y v),N,⟨rfl,λys R=>by rw[I.Oh R j];exact q⟩,D,λb hb=>(l b hb).1⟩⟩
 done:=by
  intro X r hw t B i g s O H E I l st hg;refine L2.ah λP_ n=>?_;subst r hw t;obtain⟨F,j,q⟩:=hg;obtain⟨D0,m,p,Q⟩:=I.tuple j;obtain⟨A,f1,f2,z,y,v⟩:=l f (by simp);refine n ?_;have hl:=m.length;exact wpAny_pyNext_tuple_end (I.ok.hd B) st (p) (by simp;lia) λC U=>⟨rfl,I.turned (λb o hb e=>U b o hb e) A f1 z y v⟩
 self:=λ_ _ _ _ _ st h=>wpAny_pyIter_tupleiter st h
def vq{P:SB}{w:UV}{K:Xd}{z:Expr}(a:On)(g:Int)(n:Nat):Turn P w K z (VU g n) [a] a (λi h=>IsRangeIter h a (g+(i:Nat)*1) ((n:Int)-(i:Nat)) 1) where
 mem:=by simp
 obj:=λi h st b hb=>by
  simp_all
 keep:=λi h x st k=>k a (by simp) _ st
 item:=by
  intro X l hw m j i d s O H E I f st hg;subst l hw m;obtain⟨u,f1,f2,r,q,p⟩:=f a (by simp);refine(Walks.range (prog:=X.prog) (w:=X.w) (I.ok.hd j) a g 1 n).item i s _ _ hg st λv x D B y A=>?_;obtain⟨t,rfl⟩:=B;refine⟨_,rfl,t6 y L L (by decide) ⟨.int _,H,(I.turned (λb o hb e=>A b o (by simpa using hb) e) u f1 r q p),⟨t,?_⟩,⟨rfl,rfl⟩,y,λb hb=>(f b hb).1⟩⟩;rw[Int.mul_one]
 done:=by
  intro X l hw m j i d s O H E I f st hg;subst l hw m;obtain⟨u,f1,f2,r,q,p⟩:=f a (by simp);exact wpAny_pyNext_range_end (I.ok.hd j) st (by have:n<=i:=hg;lia) λx C=>⟨rfl,I.turned (λb o hb e=>C b o hb e) u f1 r q p⟩
 self:=λ_ _ _ _ _ st h=>wpAny_pyIter_rangeiter st h
section
def zM{a f:Int}(I:Inv X d O H s)(m:-(2 ^ 62)<=a)(l:a<2 ^ 62)(j:-(2 ^ 62)<=f)(i:f<2 ^ 62)(q:R (VU a (f-a).toNat) H):Pi (KF X.prog X.w) X.A (pyIter (.ref s.heap.objs.size)) (PIE X d O tg R) E { s with heap:=s.heap.push { cls:=.type "range",data:=.fields #[.int a t,.int f u,.int 1 v] },toks:=g }:=by
 refine wpAny_pyIter_range (IsRange.new ..) (small_one m l j i) ?_;have h:Inv X _ O H { s with heap:=s.heap.push { cls:=.type "range",data:=.fields #[.int a t,.int f u,.int 1 v] },toks:=g }:=I.kept λb o e=>Zu _ e;refine⟨_,_,_,_,H,rfl,
  h.kept (t':=g) λb o e=>Zu _ e,vq _ a _,?_,λb hb=>?_,q⟩
 ·have e1:a+((0:Nat):Int)*1=a:=by simp
  have e2:(((f-a).toNat:Nat):Int)-((0:Nat):Int)=Builtin.Range.rangeSize a f 1:=by rw[rangeSize_one];split<;>lia
  rw[e1,e2];exact Zh _ L
 ·have e:b=(s.heap.push { cls:=.type "range",data:=.fields #[.int a t,.int f u,.int 1 v] }).objs.size:=by simpa using hb
  subst e;exact h.NZ (Zn _) (h.D8.fresh (Zn _))
def ER(ta:TA):TI:=λO H R=>ta O H λa b=>∃j:Int,a=[.int j]/\-(2 ^ 62)<=j/\j<2 ^ 62/\R (VU 0 j.toNat) b
def lU(n:Gl X "range")(m:X.mg "range" = M)(o:PA X [a] d)(l:{`q2,P3 [a] X.env=[(Z,eval a X.env)]}):PI X tg (.Call (.Name "range" p) [a] [] b) (ER d):=by
 intro f s O H R I h;refine Call_ (l9 I n m boot_range (XF (thn (o _ _ s O H _ I h) λx s1 u=>?_) l L));obtain⟨w,y,v,r1,q1⟩:=u;obtain⟨j,e,q1,i,q⟩:=q1;subst e;cases r1 with
 |cons r g =>
  cases g;obtain⟨t,rfl⟩:=r;exact call_range_1 (zM v (by lia) (by lia) q1 i (by simpa using q))
def G7(e:TI)(g:TG)(f:TS):TS:=λDb O H=>e O H λJ l=>∃W:Nat->Nat->St->Hp->Prop,(∃m,W 0 m O l)/\∀i m O H,W i m O H →
 (J.stop i H/\Db.nx O H)\/(J.go i H/\∃N:St->Hp->Prop,(∀d a,N d a->∃b,b<m/\W (i+1) b d a)/\∀x a,J.UU i H x a->g x O a λh j=>f { Db with nx:=N,ct:=N,bk:=Db.nx } h j)
noncomputable def u7(a:X6)(h:UF):Ym:=a.filterMap λb=>(h.get? b).map λo=>(b,o)
def iE{h:UF}(d:b∈a)(e:h.get? b=Y o):(b,o)∈u7 a h:=List.mem_filterMap.mpr ⟨b,d,by rw[e];rfl⟩
def yy(d:p∈u7 a h):p.1∈a/\h.get? p.1=Y p.2:=by
 obtain⟨b,hb,e⟩:=List.mem_filterMap.mp d;cases q:h.get? b with
 |none=>rw[q]at e;cases e
 |some o =>
  rw[q]at e;have f:=ZX e;subst f;exact⟨hb,q⟩
def Inv.pinned(I:Inv X a O H s)(i:∀b∈f,ja X a H b)(h:∀b∈f,∃o,s.heap.get? b=Y o/\∀v,o.data ≠ .cell v):Inv X (a++u7 f s.heap) O H s :=
 I.N8 λp g=>(ZU.mp g).elim (λz=>I.pin p (ZL _ z)) λz=>by
  obtain⟨hb,e⟩:=yy z;obtain⟨j,f1,f2,_⟩:=i _ hb;obtain⟨o,l,d⟩:=h _ hb
  simp_all
def Inv.LM(I:Inv X (a++b) O H s):Inv X a O H s:=I.N8 λp d=>I.pin p (ZL _ (YV _ d))
def zv{X:Cx}(E:PassesOwn (KF X.prog X.w) X.A X.env X.xe)(hc:X.calm=true)(hi:PI X tg a wi)(hg:PG X tg g)(j:Mr X y tb)(hs:{`q3,∀x,XAB a X.env x=pure x}):PS X (.For tg a y [] P) (G7 wi g tb):=by
 intro C s O H Db I h;refine wpAny_For (thn (hi _ s O H _ I h) λv s1 h1=>thn h1 λitv s2 h2=>?_) hs;refine L2.ah λP_ k_=>?_;obtain⟨it,fp,tn,J,H2,e,I2,T,Va,f2,W,⟨m0,w0⟩,turn⟩:=h2;subst e;refine k_ ?_;have U:∀{q:Hp},(∀b∈fp,q b=M)->∀b∈fp,ja X _ q b:=λhn b j=>⟨hn b j,(f2 b j).2⟩
 refine codeAny_forLoop_any (λn s'=>∃i F q,Inv X _ F q s'/\tn i s'.heap/\(∀b∈fp,q b=M)/\W i n F q) ?_ m0 ⟨0,O,H2,I2,Va,λb j=>(f2 b j).1,w0⟩;rintro n s3 ⟨i,O3,G,I3,QO,Ux,w3⟩;rcases turn i n _ G w3 with⟨stop,qn⟩ | ⟨go,N,hN,step⟩
 ·refine Xw E (thn (T.done X L L L hc i _ s3 _ G _ I3 (U Ux) QO stop) λr s4 z=>?_);obtain⟨Q,I4⟩:=z;subst Q;exact X1 ⟨_,G,I4,qn⟩
 ·refine Xw E (thn (T.item X L L L hc i _ s3 _ G _ I3 (U Ux) QO go) λr s4 z=>?_);obtain⟨u,Q,h4⟩:=z;subst Q;refine Xw E (thn h4 λ_ s5 z=>?_);obtain⟨x,H5,I5,r5,y5,S,R⟩:=z;refine Xw E (thn (hg _ s5 _ H5 x u _ (I5.pinned (U R) (T.obj _ _ S)) r5 (step x H5 y5)) λ_ s6 z=>?_);obtain⟨O6,H6,I6,q6⟩:=z;refine Xw E (thn (j _ s6 _ H6 _ I6 q6) λf s7 t=>?_);have again:∀{B:St}{p:Hp},Inv X _ _ p s7->N _ p->∃m,m<n/\∃i F q,Inv X C F q s7/\tn i _/\(∀b∈fp,q b=M)/\W i m F q:=λ{B p} l D=>by
   obtain⟨m',hm,w7⟩:=hN _ p D;refine⟨m',hm,_,B,p,l.LM,T.keep _ _ _ S λb j o e=>(l.pin _ (ZL _ (ZL _ (iE j e)))).1,λb j=>?_,w7⟩;obtain⟨o,e,d⟩:=T.obj _ _ S b j;exact(l.pin _ (ZL _ (ZL _ (iE j e)))).2.1
  cases f with
  |next=>obtain⟨B,p,l,D⟩:=t;exact again l D
  |cont=>obtain⟨B,p,l,D⟩:=t;exact again l D
  |brk=>obtain⟨B,p,l,t⟩:=t;exact⟨_,p,l.LM,t⟩
  |ret v=>obtain⟨x7,B,p,l,r7,t⟩:=t;exact⟨x7,_,p,l.LM,r7,t⟩
end
abbrev R2:=V->V->Hp->VK->Prop
def OpR(X:Cx)(f:PP->PP->Sem PP)(r:R2):Prop :=
 ∀(a:Ym)(s:KB)(O:St)(H:Hp)(x y:V)(v u:PP)(Q:VK),Inv X a O H s->RelV x v->RelV y u->r x y H Q →
  Pi (KF X.prog X.w) X.A (f v u) (EP X a O Q) X.xe s
def UnR(X:Cx)(f:PP->Sem PP)(r:V->Hp->VK->Prop):Prop :=
 ∀(a:Ym)(s:KB)(O:St)(H:Hp)(x:V)(v:PP)(Q:VK),Inv X a O H s->RelV x v->r x H Q →
  Pi (KF X.prog X.w) X.A (f v) (EP X a O Q) X.xe s
def cF(X:Cx)(f:PP)(r:List V->Hp->VK->Prop):Prop :=
 ∀(a:Ym)(s:KB)(O:St)(H:Hp)(b:List V)(d:Wu)(Q:VK),Inv X a O H s->aN b d->r b H Q →
  Pi (KF X.prog X.w) X.A (call f d) (EP X a O Q) X.xe s
def Ke(X:Cx)(r:V->Hp->(Bool->Hp->Prop)->Prop):Prop :=
 ∀(a:Ym)(s:KB)(O:St)(H:Hp)(x:V)(v:PP)(Q:Bool->Hp->Prop),Inv X a O H s->RelV x v->r x H Q →
  Pi (KF X.prog X.w) X.A (truthy v) (TP X a O Q) X.xe s
noncomputable def Sr(r:R2)(ta a:TE):TE:=λO H Q=>ta O H λx d=>a O d λy b=>r x y b Q
noncomputable def tUn(r:V->Hp->VK->Prop)(ta:TE):TE:=λO H Q=>ta O H λx a=>r x a Q
noncomputable def rI(C:Int->Int->Prop)(g:Int->Int->V):R2:=λx y H Q=>∃i j,x=.int i/\y=.int j/\C i j/\Q (g i j) H
noncomputable def Oy(g:Int->Int->V):R2:=λx y H Q=>∃i j,x=.int i/\y=.int j/\Q (g i j) H
noncomputable def rU(g:Int->V):V->Hp->VK->Prop:=λx H Q=>∃i,x=.int i/\Q (g i) H
section
def Gm{X:Cx}{a b:Expr}{ta tb:TE}(q:PE X a ta)(p:PE X b tb){d:Ym}{s:KB}{O:St}{H:Hp}{R:V->V->Hp->Prop}(I:Inv X d O H s)(h:ta O H λx j=>tb O j λy e=>R x y e){Q:Yy}{f:PP->PP->Sem PP}(o:∀v u g x y e,Inv X d O e g->RelV x v->RelV y u->R x y e->Pi (KF X.prog X.w) X.A (f v u) Q X.xe g) :
  Pi (KF X.prog X.w) X.A (eval a X.env) (λv m=>Pi (KF X.prog X.w) X.A (eval b X.env) (λu l=>Pi (KF X.prog X.w) X.A (f v u) Q X.xe l) X.xe m) X.xe s:=by
 refine thn (q _ s O H _ I h) λv s1 i=>?_;obtain⟨x,j,t,r1,q1⟩:=i;refine thn (p _ s1 O j _ t q1) λu g i=>?_;obtain⟨y,e,r,r2,n⟩:=i;exact o v u g x y e r r1 r2 n
def Eu(i:OpR X (binaryOp e) r)(l:PE X a ta)(j:PE X b tb):PE X (.BinOp a e b pos) (Sr r ta tb):=by
 intro d s O H Q I h;exact wpAny_BinOp (Gm l j I h λv u f x y n m rx g q=>i _ f O n x y v u Q m rx g q)
def HJ(f:UnR X (unaryOp e) r)(g:PE X a ta):PE X (.UnaryOp e a pos) (tUn r ta):=by
 intro d s O H Q I h;refine UnaryOp_ (thn (g _ s O H _ I h) λv s1 i=>?_);obtain⟨x,l,j,r1,q1⟩:=i;exact f _ s1 O l x v Q j r1 q1
def TJ{X:Cx}{f:PP->PP->Sem PP}{C:Int->Int->Prop}{g:Int->Int->Int}(d:∀(i j:Int)(t u:Tok)(s:KB)(Q:Yy)(E:Yy),C i j->Q (.int (g i j) s.toks) { s with toks:=s.toks+1 }->Pi (KF X.prog X.w) X.A (f (.int i t) (.int j u)) Q E s) :
  OpR X f (rI C λi j=>.int (g i j)):=by
 intro e s O H x y v u Q I rx m h;obtain⟨i,j,rfl,rfl,n,q⟩:=h;obtain⟨t,rfl⟩:=rx;obtain⟨l,rfl⟩:=m;exact d i j t l s _ _ n ⟨.int _,H,I.tok _,⟨_,rfl⟩,q⟩
def HU{X:Cx}{f:PP->PP->Sem PP}{g:Int->Int->Int}(d:∀(i j:Int)(t u:Tok)(s:KB)(Q:Yy)(E:Yy),Q (.int (g i j) s.toks) { s with toks:=s.toks+1 }->Pi (KF X.prog X.w) X.A (f (.int i t) (.int j u)) Q E s) :
  OpR X f (Oy λi j=>.int (g i j)):=by
 intro e s O H x y v u Q I rx m h;obtain⟨i,j,rfl,rfl,q⟩:=h;obtain⟨t,rfl⟩:=rx;obtain⟨l,rfl⟩:=m;exact d i j t l s _ _ ⟨.int _,H,I.tok _,⟨_,rfl⟩,q⟩
def Ht{X:Cx}{f:PP->PP->Sem PP}{g:Int->Int->Bool}(d:∀(i j:Int)(t u:Tok)(s:KB)(Q:Yy)(E:Yy),Q (.bool (g i j)) s->Pi (KF X.prog X.w) X.A (f (.int i t) (.int j u)) Q E s) :
  OpR X f (Oy λi j=>.bl (g i j)):=by
 intro e s O H x y v u Q I rx m h;obtain⟨i,j,rfl,rfl,q⟩:=h;obtain⟨t,rfl⟩:=rx;obtain⟨l,rfl⟩:=m;exact d i j t l s _ _ ⟨.bl _,H,I,rfl,q⟩
noncomputable def Jf(i j:Int):Prop:=0<j/\j<1073741824
noncomputable def Jj(i j:Int):Prop:=0<=j/\j<=1000000/\i.natAbs<2 ^ 64
noncomputable def CH(i j:Int):Prop:=(-(2 ^ 64)<i/\i<2 ^ 64)\/(-(2 ^ 64)<j/\j<2 ^ 64)
def CH.ok{i j:Int}(h:CH i j):IntMulOk i j:=by
 rcases h with⟨e,d⟩ | ⟨e,d⟩
 ·exact .of_left (intBits_le_64 e d)
 ·exact .of_right (intBits_le_64 e d)
def FV:OpR X (binaryOp .Add) (Oy λi j=>.int (i+j)):=HU λ_ _ _ _ _ _ _ q=>add_int q
def vp:OpR X (binaryOp .Sub) (Oy λi j=>.int (i-j)):=HU λ_ _ _ _ _ _ _ q=>sub_int q
def A4:OpR X (binaryOp .Mult) (rI CH λi j=>.int (i*j)):=TJ λ_ _ _ _ _ _ _ d q=>mul_int q d.ok
def rZ:OpR X (binaryOp .FloorDiv) (rI Jf λi j=>.int (i/j)):=TJ λi j _ _ _ _ _ d q=>by
 have f:=d.1;have e:=d.2;exact floordiv_int (by lia) (by rw[Int.fdiv_eq_ediv_of_nonneg i (by lia)];exact q) (.inl (PyProof.noPylong_small (by omega)))
def Ho:OpR X (binaryOp .Mod) (rI (λ_ j=>0<j) λi j=>.int (i%j)):=TJ λi j _ _ _ _ _ d q=>by
 exact mod_int' (by lia) (by rw[Int.fmod_eq_emod_of_nonneg i (by lia)];exact q)
def FA:OpR X (binaryOp .Pow) (rI Jj λi j=>.int (i ^ j.toNat)):=TJ λ_ _ _ _ _ _ _ d q=>pow_int_small d.1 d.2.1 d.2.2 q
def unI{X:Cx}{f:PP->Sem PP}{g:Int->Int}(d:∀(i:Int)(t:Tok)(s:KB)(Q:Yy)(E:Yy),Q (.int (g i) s.toks) { s with toks:=s.toks+1 }->Pi (KF X.prog X.w) X.A (f (.int i t)) Q E s) :
  UnR X f (rU λi=>.int (g i)):=by
 intro e s O H x v Q I rx h;obtain⟨i,rfl,q⟩:=h;obtain⟨t,rfl⟩:=rx;exact d i t s _ _ ⟨.int _,H,I.tok _,⟨_,rfl⟩,q⟩
def E3:UnR X (unaryOp .USub) (rU λi=>.int (-i)):=unI λ_ _ _ _ _ q=>neg_int q
end
section
def G3(I:Inv X d O H s)(q:Q (.bl k) H)(e:k=f):EP X d O Q (.bool f) s:=by
 subst e;exact⟨.bl k,H,I,rfl,q⟩
def IX:OpR X (SZ .Lt) (Oy λi j=>.bl (decide (i<j))):=Ht λ_ _ _ _ _ _ _ q=>lt_int q
def HP:OpR X (SZ .LtE) (Oy λi j=>.bl (decide (i<=j))):=Ht λ_ _ _ _ _ _ _ q=>le_int q
def EC:OpR X (SZ .Gt) (Oy λi j=>.bl (decide (j<i))):=Ht λ_ _ _ _ _ _ _ q=>gt_int q
def yV:OpR X (SZ .Lt) (λx y H Q=>∃i j,x=.str i/\y=.str j/\Q (.bl (decide (i.cps.toList<j.cps.toList))) H):=by
 intro d s O H x y v u Q I rx e h;obtain⟨i,j,rfl,rfl,q⟩:=h;obtain⟨t,rfl⟩:=rx;obtain⟨f,rfl⟩:=e;exact lt_str (G3 I q L)
def OpR.or(h:OpR X f r)(i:OpR X f e):OpR X f (λx y H Q=>r x y H Q\/e x y H Q):=by
 intro g s O H x y v u Q I rx d q;rcases q with q | q
 ·exact h _ s O H x y v u Q I rx d q
 ·exact i _ s O H x y v u Q I rx d q
def iR(b:Expr)(h:{`q1,d ≠ .In})(e:{`q1,d ≠ .NotIn}):behindInMarks d b=Z:=by
 have e1:(d==CmpOp.In)=Z:=by grind
 have e2:(d==CmpOp.NotIn)=Z:=by grind
 cases b<;>simp[behindInMarks,e1,e2]
def CB(i:OpR X (SZ d) r)(m:PE X a ta)(l:PE X b tb)(j:behindInMarks d b=Z):PE X (.Compare a [d] [b] pos) (Sr r ta tb):=by
 intro e s O H Q I h;exact wpAny_Compare1 (Gm m l I h λv u f x y o n rx g q=>i _ f O o x y v u Q n rx g q) j
noncomputable def zy(t:TE):TT:=λO H Q=>t O H λx d=>∃k,x=.bl k/\Q k d
def xM(m:OpR X (SZ d) r)(p:PE X a ta)(o:PE X b tb)(n:behindInMarks d b=Z):PT X (.Compare a [d] [b] pos) (zy (Sr r ta tb)):=by
 intro f s O H Q I h;refine wpAny_isTrue_Compare1 (thn (p _ s O H _ I h) λv s1 ⟨x,D,A,r1,q1⟩=>thn (o _ s1 O D _ A q1) λu g ⟨y,C,w,r2,l⟩ =>
  thn (m _ g O C x y v u _ w r1 r2 l) λc E q=>?_) n
 obtain⟨z,B,t,i,k,e,j⟩:=q;subst e;cases i;exact Yb ⟨B,t,j⟩
noncomputable def zz(r h:R2)(ta g f:TE):TE:=λO H Q=>ta O H λx l=>g O l λy j=>r x y j λz d=>∃k,z=.bl k ∧
 (if k=J then f O d λe i=>h y e i Q else Q (.bl Z) d)
def uu(L:OpR X (SZ f) r)(Oc:OpR X (SZ g) i)(S:PE X a ta)(R:PE X b tb)(P:PE X c tc)(N:{`q4,lastMarks [f,g] [b,c]=Z}):PT X (.Compare a [f,g] [b,c] pos) (zy (zz r i ta tb tc)):=by
 intro l s O H Q I h;refine isTrue_chain (thn (S _ s O H _ I h) λv s1 ⟨x,H1,I1,r1,q1⟩=>test_link (thn (R _ s1 O H1 _ I1 q1) λu w ⟨y,H2,I2,r2,F⟩ =>
  thn (L _ w O H2 x y v u _ I2 r1 r2 F) λd t U=>?_)) N
 obtain⟨z,n,m,C,k,e,j⟩:=U;subst e;cases C;refine Yb ?_;cases k with
 |false =>
  obtain⟨k',e',G⟩:=j;cases e';exact ite_ff ⟨n,m,G⟩
 |true =>
  refine ite_tt (test_last (thn (P _ t O n _ m j) λp q ⟨o,H4,I4,B,E⟩=>thn (Oc _ q O H4 y o u p _ I4 r2 B E) λd' s5 ⟨z2,H5,I5,A,k2,e2,D⟩=>?_));subst e2;cases A;exact Yb ⟨H5,I5,D⟩
def HC(K:Xd)(x:V)(H:Hp)(k:Bool):Prop :=
 match x with
 |.non=>k=Z
 |.bl b=>k=b
 |.int i=>k=(i != 0)
 |.str y=>y.length<=KM/\k=((y.length:Int) != 0)
 |.byt y=>y.size<=KM/\k=((y.size:Int) != 0)
 |.ref p=>(∃d,KA K H p d/\k=!d.isEmpty)\/(∃d,LK K H p d/\k=!d.isEmpty)\/∃e,H p=Y (.dK e)/\k=!e.isEmpty
 |_=>False
def vR{κ:Type}{e:List (κ×V)}{d:List (κ×PP)}(r:KV e d):(!d.isEmpty)=!e.isEmpty:=by
 cases r<;>rfl
def n9(r:aN d e):(!e.toArray.isEmpty)=!d.isEmpty:=by
 cases r<;>simp
def rM:(KM:Nat)<2 ^ 63:=by rw[Y8];decide
def Hg:Ke X (λx H Q=>∃k,HC X.K x H k/\Q k H):=by
 intro l s O H x v Q I rx h;obtain⟨k,e,q⟩:=h;have B:=Y8;cases x with
 |non =>
  cases rx;subst e;exact truthy_none ⟨H,I,q⟩
 |bl b =>
  cases rx;subst e;exact Yb ⟨H,I,q⟩
 |int i =>
  obtain⟨t,rfl⟩:=rx;subst e;exact PySem.P.truthy_int ⟨H,I,q⟩
 |str y =>
  obtain⟨t,rfl⟩:=rx;obtain⟨w,d⟩:y.length<=KM/\k=((y.length:Int) != 0):=e;subst d;exact PySem.P.truthy_str (by lia) ⟨H,I.tok _,q⟩
 |byt y =>
  obtain⟨t,rfl⟩:=rx;obtain⟨w,d⟩:y.size<=KM/\k=((y.size:Int) != 0):=e;subst d;exact PySem.W.truthy_bytes (by lia) ⟨H,I.tok _,q⟩
 |ref p =>
  cases rx;have d:=e;rcases d with⟨o,f,d⟩ | ⟨o,f,d⟩ | ⟨u,f,d⟩
  ·subst d;obtain⟨A,r,j,n⟩:=I.list f;have hlen:=r.length;exact wpAny_truthy_list j.isList (by simp only[ZG];lia) ⟨H,I.tok _,by rw[n9 r];exact q⟩
  ·subst d;obtain⟨A,r,j,n⟩:=I.tuple f;have hlen:=r.length;exact truthy_tuple j (by simp only[ZG];lia) ⟨H,I.tok _,by rw[n9 r];exact q⟩
  ·subst d;obtain⟨n,z,g,r,m⟩:u.length<=KM/\(p==sysModules)=Z/\∃g,KV _ g/\s.heap.DictOf _ p g:=I.D8 p _ f;have hlen:=Xc r;exact wpAny_truthy_dict z m (by lia) ⟨H,I.tok _,by rw[vR r];exact q⟩
 |_=>exact(e).elim
def AM(f:PE X a ta)(he:∀whole,isTrue a X.env whole=(do let v ← whole;standAt a.pos;holding [v] (truthy v))) :
  PT X a (λO H Q=>ta O H λx e=>∃k,HC X.K x e k/\Q k e):=by
 intro d s O H Q I h;exact isTrue_plain (thn (f _ s O H _ I h) λv s1 ⟨x,i,g,r1,q1⟩=>Hg _ s1 O i x v Q g r1 q1) (he _)
def vh:OpR X (binaryOp .Add) (λx y H Q=>∃i j,x=.str i/\y=.str j/\i.length+j.length<=KM/\Q (.str (i++j)) H):=by
 intro d s O H x y v u Q I rx f h;obtain⟨i,j,rfl,rfl,g,q⟩:=h;obtain⟨t,rfl⟩:=rx;obtain⟨e,rfl⟩:=f;exact add_str (λe l=>⟨.str _,H,I.tok _,⟨_,rfl⟩,q⟩) g
def vals1(r:aN [x] d):∃u,d=[u]/\RelV x u:=by
 cases r with
 |cons r1 r2=>cases r2;exact⟨_,rfl,r1⟩
def vals2(r:aN [x,y] e):∃u d,e=[u,d]/\RelV x u/\RelV y d:=by
 cases r with
 |cons r1 r2 =>
  cases r2 with
  |cons g f=>cases f;exact⟨_,_,rfl,r1,g⟩
def yQ{X:Cx}(g:X.calm=J):cF X (.builtin "max") (λe H Q=>∃i j,e=[.int i,.int j]/\Q (.int (if j > i then j else i)) H):=by
 intro f s O H e m Q I r h;obtain⟨i,j,rfl,q⟩:=h;obtain⟨u,l,rfl,⟨t,rfl⟩,⟨o,rfl⟩⟩:=vals2 r;refine max_two_ints (I.ok.hd g) λp n k=>⟨_,H,I.kept k,?_,q⟩
 by_cases d:j > i
 ·rw[Zm d,Zm d];exact⟨_,rfl⟩
 ·rw[Zl d,Zl d];exact⟨_,rfl⟩
def yB:cF X (.type "int") (λd H Q=>(∃i,d=[.int i]/\Q (.int i) H)\/∃k,d=[.bl k]/\Q (.int (if k then 1 else 0)) H):=by
 intro e s O H d f Q I r h;rcases h with⟨i,rfl,q⟩ | ⟨k,rfl,q⟩
 ·obtain⟨u,rfl,t,rfl⟩:=vals1 r;exact call_int_int ⟨.int i,H,I,⟨_,rfl⟩,q⟩
 ·obtain⟨u,rfl,r1⟩:=vals1 r;cases r1;exact call_int_bool ⟨.int (if k then 1 else 0),H,I.tok _,⟨_,rfl⟩,q⟩
def Ii(K:Xd)(x:V)(H:Hp)(n:Nat):Prop :=
 match x with
 |.str y=>y.length<=KM/\n=y.length
 |.byt y=>y.size<=KM/\n=y.size
 |.ref p=>(∃d,KA K H p d/\n=d.length)\/∃d,LK K H p d/\n=d.length
 |_=>False
def AX:cF X (.builtin "len") (λf H Q=>∃x n,f=[x]/\Ii X.K x H n/\Q (.int n) H):=by
 intro l s O H f w Q I r h;obtain⟨x,n,rfl,e,q⟩:=h;obtain⟨u,rfl,rx⟩:=vals1 r;have z:=Y8;cases x with
 |str y =>
  obtain⟨t,rfl⟩:=rx;obtain⟨o,d⟩:y.length<=KM/\n=y.length:=e;subst d;exact len_str (by lia) ⟨.int _,H,I.tok _,⟨_,rfl⟩,q⟩
 |byt y =>
  obtain⟨t,rfl⟩:=rx;obtain⟨o,d⟩:y.size<=KM/\n=y.size:=e;subst d;exact PySem.W.len_bytes (by lia) ⟨.int _,H,I.tok _,⟨_,rfl⟩,q⟩
 |ref p =>
  cases rx;have d:=e;rcases d with⟨f,j,d⟩ | ⟨f,j,d⟩
  ·subst d;obtain⟨v,g,i,m⟩:=I.list j;have hlen:=g.length;exact Calls.call_len_list i.isList (by simp only[ZG];lia) ⟨.int _,H,I.tok _,⟨_,by simp only[ZG];rw[hlen]⟩,q⟩
  ·subst d;obtain⟨v,g,i,m⟩:=I.tuple j;have hlen:=g.length;exact len_tuple i (by simp only[ZG];lia) ⟨.int _,H,I.tok _,⟨_,by simp only[ZG];rw[hlen]⟩,q⟩
 |_=>exact(e).elim
end
structure N5(h:UF)(x dx C:On)(mA:X4):Prop where
 obj:h.get? x=some (PySem.W.instObj C dx)
 ns:h.Ns1 dx mA
 ne:dx≠x
def yD{h:UF}(n:h.Ns1 g f):∃d,h.get? g=Y d/\∀name,PySem.W.lookIn name d=Y (f name):=by
 obtain⟨o,m,p,j,hd,l,_,hm⟩:=n;refine⟨o,j,λname=>?_⟩;have e:=hm name;unfold nsFind findBy at e;rw[← Array.find?_toList]at e;unfold PySem.W.lookIn;rw[hd];dsimp only;split
 ·simp_all
 ·rename_i q;rw[q]at e;have a:m.toList.any (·.refKey)=Z:=by
   rw[List.any_eq_false];intro y i;obtain⟨z,t,b⟩:=l y (Array.mem_toList_iff.mp i);simp[DictEntry.refKey,b]
  grind
def N5.look(I:N5 h x d C b):∃a,PySem.W.InstAt h x (PySem.W.instObj C d) C (Y a)/\∀name,PySem.W.lookIn name a=Y (b name) :=
 let ⟨a,e,hl⟩:=yD I.ns
 ⟨a,⟨I.obj,rfl,rfl,e⟩,hl⟩
section
variable{A:SC}{K:Xd}
def get_map{s:KB}(X:K.In s.heap)(I:N5 s.heap x dx C mA)(g:PySem.W.plainGet K C name=true)(e:PySem.W.hasDictIn K C=true)(i:PySem.W.findIn K (.ref C) name=Y M)(d:mA name=Y v)(b:PySem.W.handedIn v=true)(h:Q v { s with toks:=s.toks+1 }) :
  Pi (KF prog w) A (getAttr (.ref x) name a) Q E s:=by
 obtain⟨j,J,hl⟩:=I.look;exact PySem.W.get_value X J (Wq g).1 (PySem.W.findObj_own e i L (by rw[hl,d])) b h
def BX{s:KB}(X:K.In s.heap)(I:N5 s.heap x dx C mA)(a:PySem.W.plainGet K C name=true)(i:PySem.W.findIn K (.ref C) name=Y (Y (.ref f)))(g:PySem.W.isFn K (.ref f)=true)(e:mA name=M)(h:Q (.ref f,[.ref x]) s) :
  Pi (KF prog w) A (getMethod (.ref x) name b) Q E s:=by
 obtain⟨d,J,hl⟩:=I.look;exact PySem.W.method_fn X J (Wq a).1 (Wq a).2 i (beq_iff_eq.mp g) (by show (PySem.W.lookIn _ d).map _=Y _;rw[hl,e];rfl) h
def CM{s:KB}(X:K.In s.heap)(I:N5 s.heap x dx C mA)(q:PySem.W.findIn K (.ref C) "__setattr__" = Y (Y (.builtin "object.__setattr__")))(r:PySem.W.plainOver K C=true)(o:PySem.W.takerIn K C name=Y M)(t:PySem.W.hasDictIn K C=true)(hw:PySem.Within mA j)(p:j.length<=KM)(h:∀a,N5 a x dx C (λy=>if y=name then Y v else mA y)->Heap.SameBut dx s.heap a->Q () { s with heap:=a,toks:=s.toks+2 }) :
  Pi (KF prog w) A (setAttr (.ref x) name v) Q E s:=by
 obtain⟨D,J,hl⟩:=I.look;refine PySem.W.set_plain X J q (PySem.W.osa_open X J r o λb=>?_);obtain⟨cd,u,g⟩:=PySem.W.any_some t;refine Zx (Zs (Zx (Zx (wpAny_loadPart I.obj (Zx (PySem.W.Looks.here (PySem.W.looks_clsIn X u) ?_))))));rw[g];refine Zs (Zx (Zs (Zx ?_)));refine wpAny_nsSet1 I.ns λa l m=>?_;refine L2.ah λG n=>?_;obtain⟨F,z,B,d,e,i⟩:=l.count (PySem.Within.cons _ v hw);refine n ?_;refine Zx (wpAny_lookBehind d (by rw[e];exact pastItsLine_dict (ZW i (by simp_all))) ?_);exact Zs (h _ ⟨(m.2 _ (Z9 I.ne)).trans I.obj,l,I.ne⟩ m)
def Ac{s:KB}(X:K.In s.heap)(e:PySem.W.makesIn K C=J)(i:PySem.W.findIn K (.ref C) "__init__" = Y (Y (.ref f)))(j:PySem.W.typeIn K (.ref f)=Y (.type "function"))(h:codeAny (KF prog w) (A.under (.builtin "type.__call__" ⟨.ref C :: a,b⟩)) (.call (.ref f) ⟨.ref (s.heap.objs.size+1) :: a,b⟩) (PySem.W.InitBack (s.heap.objs.size+1) R)
   { s with heap:=(s.heap.push PySem.W.emptyDict).push (PySem.W.instObj C s.heap.objs.size) }) :
  codeAny (KF prog w) A (.call (.ref C) ⟨a,b⟩) R s:=by
 obtain⟨l,g,d,t,os⟩:=s;exact PySem.W.make_core (PySem.W.makes_of X e) (PySem.W.looks_findIn X i) (λself=>PySem.W.bind_fn X _ j) (.inl L) h
end
noncomputable def jk(f:Str)(v:V):List (Str×V)->List (Str×V)
 |[]=>[(f,v)]
 | (g,x) :: r=>if g=f then (g,v) :: r else (g,x) :: jk f v r
theorem mW(f g:Str)(v:V):∀fs:List (Str×V),(jk f v fs).lookup g=if g=f then Y v else fs.lookup g
 |[]=>by
  show List.lookup g [(f,v)]=_;grind
 | (k,x) :: r=>by
  rw[show jk f v _=(if k=f then (k,v) :: r else (k,x) :: jk f v r) from rfl];by_cases a:k=f
  ·grind
  ·rw[Zl a];by_cases h:g=k
   ·grind
   ·simp only[List.lookup,(beq_eq_false_iff_ne.mpr h)];exact(mW f g v r)
theorem l5(f:Str)(v:V):∀fs:List (Str×V),f∈(jk f v fs).map (·.1)/\∀g,g∈fs.map (·.1)->g∈(jk f v fs).map (·.1)
 |[]=>⟨by simp[jk],λg h=>by simp at h⟩
 | (k,x) :: r=>by
  obtain⟨b,a⟩:=l5 f v r;rw[show jk f v _=(if k=f then (k,v) :: r else (k,x) :: jk f v r) from rfl];grind
theorem mV(f:Str)(v:V):∀fs:List (Str×V),(jk f v fs).length<=fs.length+1
 |[]=>by simp[jk]
 | (k,x) :: r=>by
  rw[show jk f v _=(if k=f then (k,v) :: r else (k,x) :: jk f v r) from rfl];by_cases a:k=f
  ·simp_all
  ·rw[Zl a,Ze,Ze];exact WN (mV f v r)
def jy.some_of{v:V}(r:jy (Y v) o):∃u,o=Y u/\RelV v u:=by
 cases o with
 |none=>exact(r).elim
 |some u=>exact⟨u,rfl,r⟩
def jy.none_of(r:jy M o):o=M:=by
 cases o with
 |none=>rfl
 |some u=>exact(r).elim
def yo(r:RelV v u):PySem.W.handedIn u=J:=by
 cases v with
 |non=>cases (r);rfl
 |bl b=>cases (r);rfl
 |int i=>obtain⟨t,e⟩:=(r);cases e;rfl
 |str x=>obtain⟨t,e⟩:=(r);cases e;rfl
 |byt b=>obtain⟨t,e⟩:=(r);cases e;rfl
 |flt b=>obtain⟨t,e⟩:=(r);cases e;rfl
 |ref a=>cases (r);rfl
 |ty n=>cases (r);rfl
section
variable{H:Hp}
def jH(i:Lv P w H h)(e:H a=Y (.ins C dx fs)):∃b,N5 h a dx C b/\(∀f,jy (fs.lookup f) (b f))/\PySem.Within b (fs.map (·.1))/\fs.length<=1000/\H dx=Y (.own a):=by
 obtain⟨d,z,ne,g,b,n,r,q⟩:=(i a _ e)
 exact⟨b,⟨g,n,ne⟩,r,q,z,d⟩
end
structure MG(K:Xd)(C:On):Prop where
 pg:PySem.W.plainGet K C Str.empty=true
 hd:PySem.W.hasDictIn K C=true
 po:PySem.W.plainOver K C=true
 sa:PySem.W.findIn K (.ref C) "__setattr__" = some (some (.builtin "object.__setattr__"))
def MG.get{K:Xd}(c:MG K C)(f:Str):PySem.W.plainGet K C f=J:=c.pg
def cW(K:Xd)(C:On)(f:Str):Prop:=PySem.W.findIn K (.ref C) f=Y M
def cW.Tr{K:Xd}(n:cW K C f):PySem.W.takerIn K C f=Y M:=by
 unfold PySem.W.takerIn;rw[n];rfl
structure Meth(K:Xd)(C:On)(m:Str)(f:On):Prop where
 at_:PySem.W.findIn K (.ref C) m=some (some (.ref f))
 fn:PySem.W.isFn K (.ref f)=true
 kp:PySem.W.keepIn K (.ref f)=true
section
variable{H:Hp}{A:SC}
def vL(I:Inv X pins O H s)(e:H a=Y (.ins C dx fs))(c:MG X.K C)(n:cW X.K C f)(l:fs.lookup f=Y v)(h:∀u d,Inv X pins O H d->RelV v u->Q u d):Pi (KF X.prog X.w) A (getAttr (.ref a) f b) Q E s:=by
 obtain⟨m,j,r,_,_,_⟩:=jH I.D8 e;obtain⟨u,i,g⟩:=jy.some_of (v:=v) (by rw[← l];exact r f);exact get_map I.LR j (c.get f) c.hd n i (yo g) (h u _ (I.tok _) g)
def oj(I:Inv X pins O H s)(e:H a=Y (.ins C dx fs))(c:MG X.K C)(k:Meth X.K C m g)(l:fs.lookup m=M)(h:Q (.ref g,[.ref a]) s):Pi (KF X.prog X.w) A (getMethod (.ref a) m b) Q E s:=by
 obtain⟨i,d,r,_,_,_⟩:=jH I.D8 e;exact BX I.LR d (c.get m) k.at_ k.fn (jy.none_of (by rw[← l];exact r m)) h
def vg(I:Inv X pins O H s)(e:H a=Y (.ins C dx fs))(c:MG X.K C)(n:cW X.K C f)(F:fs.length<1000)(t:RelV y u)(h:∀l,Inv X pins O (upd H a (.ins C dx (jk f y fs))) l->Q () l):Pi (KF X.prog X.w) A (setAttr (.ref a) f u) Q E s:=by
 obtain⟨D,i,r,j,_,m⟩:=jH I.D8 e;refine CM I.LR i c.sa c.po n.Tr c.hd j (by rw[Zt,Y8];lia) λG d p=>h _ ?_;refine I.write (x:=a) (e:=dx) (by rw[e];exact True.intro) (.inr m) (λb q hb z=>(p.2 b hb).trans z) (let ⟨o,_,_,B,_⟩:=d.ns;⟨o,B⟩) ?_;refine⟨by rw[ay i.ne];exact m,?_,i.ne,d.obj,_,d.ns,λg=>?_,λg hg=>?_⟩
 ·have:=mV f y fs;lia
 ·rw[mW];by_cases q:g=f
  ·rw[Zm q,Zm q];exact t
  simp_all
 ·by_cases q:g=f
  ·rw[q];exact(l5 f y fs).1
  ·refine(l5 f y fs).2 g (j g λz=>hg ?_);grind
def Inv.made(I:Inv X pins O H s):Inv X pins O (upd (upd H s.heap.objs.size (.own (s.heap.objs.size+1))) (s.heap.objs.size+1) (.ins C s.heap.objs.size []))
  { s with heap:=(s.heap.push PySem.W.emptyDict).push (PySem.W.instObj C s.heap.objs.size) }:=by
 have e1:(s.heap.push _).get? _=Y PySem.W.emptyDict:=Zh _ L;have g:=I.laid (o:=.own (s.heap.objs.size+1)) (t':=s.toks) (λb u q=>Zu _ q) (Zn _) ⟨_,e1⟩;refine g.laid (λb u q=>Zu _ q) (X8 (YR _ _)) ?_;have ne:s.heap.objs.size≠s.heap.objs.size+1:=Zi (Yp _);refine⟨by rw[ay ne,aA],Yt _,ne,(by
  have:=Zh (s.heap.push PySem.W.emptyDict) (o:=PySem.W.instObj C s.heap.objs.size) L
  rwa [YR]at this),_,(Heap.Ns1.of_empty (⟨_,_,_,e1,rfl,(λe he=>absurd he (by simp)),λ_=>rfl⟩)).at λo q=>Zu _ q,λ_=>True.intro,λy d=>absurd L d⟩
def Ci{f:Str}{s:KB}(j:XAA e f d (eval e d)=eval e d)(h:Pi (KF b w) A (eval e d) (λo i=>Pi (KF b w) A (getAttr o f J) Q E i) E s):Pi (KF b w) A (eval (.Attribute e f g) d) Q E s :=
 Attribute_any_ h (by rw[arm_eval_Attribute,j])
end
def JA(K:Xd)(ta:TE)(f:Str):TE:=λO H Q=>ta O H λx b=>∃a C d fs v,x=.ref a/\b a=Y (.ins C d fs)/\MG K C/\cW K C f/\fs.lookup f=Y v/\Q v b
def JM(K:Xd)(ta e:TE)(f:Str):TS:=λDb O H=>e O H λy g=>ta O g λx d=>∃a C b fs,x=.ref a/\d a=Y (.ins C b fs)/\MG K C/\cW K C f/\fs.length<1000 ∧
 Db.nx O (upd d a (.ins C b (jk f y fs)))
section
def BU(he:PE X e ta)(g:XAA e f X.env (eval e X.env)=eval e X.env):PE X (.Attribute e f pos) (JA X.K ta f):=by
 intro b s O H Q I h;refine Ci g (thn (he _ s O H _ I h) λu s1 i=>?_);obtain⟨x,r,p,rx,a,C,y,fs,v,ex,j,c,n,l,q⟩:=i;subst ex;obtain rfl:u=Value.ref a:=rx;exact vL p j c n l λt w m d=>⟨v,r,m,d,q⟩
def Hh{pos:Pos}(p:PE X o ta)(j:PE X value tv)(m:swapsWith value (Y (.Attribute o f pos')) pos.line X.env=pure Z):PS X (.Assign [.Attribute o f pos'] value pos) (JM X.K ta tv f):=by
 intro b s O H Db I h;refine plainObj_wpAny_Assign_Attribute (thn (j _ s O H _ I h) λu s1 ⟨y,A,z,d,q⟩=>thn (p _ s1 O A _ z q) λi D r=>?_) m;obtain⟨x,F,w,rx,a,C,E,fs,ex,t,c,n,l,g⟩:=r;subst ex;obtain rfl:i=Value.ref a:=rx;exact vg w t c n l d λB v=>⟨O,_,v,g⟩
end
section
variable{H:Hp}{A:SC}
inductive LX(K:Xd)(H:Hp):V->PP->Prop where
 |non:LX K H .non (.type "NoneType")
 |bl (x:Bool):LX K H (.bl x) (.type "bool")
 |int (i:Int):LX K H (.int i) (.type "int")
 |str (x:Str):LX K H (.str x) (.type "str")
 |flt (x:UInt64):LX K H (.flt x) (.type "float")
 |lst {a:On} {xs:List V} (e:H a=some (.lst xs)):LX K H (.ref a) (.type "list")
 |frz {a:On} {o:Obj} {xs:List V} (e:H a=some (.frz o (.lst xs))):LX K H (.ref a) (.type "list")
 |tup {a:On} {xs:List V} (e:H a=some (.tup xs)):LX K H (.ref a) (.type "tuple")
 |dK {a:On} {jj:List (Key×V)} (e:H a=some (.dK jj)):LX K H (.ref a) (.type "dict")
 |dT {a:On} {jj:List (List Key×V)} (e:H a=some (.dT jj)):LX K H (.ref a) (.type "dict")
 |ins {a C dx:On} {fs:List (Str×V)} (e:H a=some (.ins C dx fs)) (cl:MG K C) (ha:PySem.W.findIn K (.ref C) "__class__" = some (some (.builtin "object.__class__")))
   (hn:PySem.W.specialIn K (.builtin "object.__class__") "__get__" = some (some (.builtin "getset_descriptor.__get__"))) (htk:PySem.W.takesIn K (.builtin "object.__class__")=some true)
   (hm:PySem.W.mroIn K C (.type "object")=some true):LX K H (.ref a) (.ref C)
def yi(I:Inv X pins O H s)(d:RelV x u)(r:LX X.K H x t)(e:PySem.W.kitOne X.K t c=Y b)(h:∀v,Q (.bool b) { s with toks:=v }) :
  Pi (KF X.prog X.w) A (call (.builtin "isinstance") [u,c]) Q E s:=by
 cases r with
 |non=>cases (d);exact Yr PySem.W.kitx_none I.LR True.intro e (λz=>nomatch z) h
 |bl y=>cases (d);exact Yr PySem.W.kitx_bool I.LR True.intro e (λz=>nomatch z) h
 |int i=>obtain⟨t,q⟩:=(d);cases q;exact Yr PySem.W.kitx_int I.LR True.intro e (λz=>nomatch z) h
 |str y=>obtain⟨t,q⟩:=(d);cases q;exact Yr PySem.W.kitx_str I.LR True.intro e (λz=>nomatch z) h
 |flt y=>obtain⟨t,q⟩:=(d);cases q;exact Yr PySem.W.kitx_float I.LR True.intro e (λz=>nomatch z) h
 |@lst a l f =>
  cases (d);obtain⟨_,_,n,_,g⟩:=(I.D8 a _ f)
  exact Yr PySem.W.kitx_list I.LR ⟨_,g,rfl⟩ e (λz=>nomatch z) h
 |@frz a S l f =>
  cases (d);obtain⟨_,_,_,n,_,g⟩:=(I.D8 a _ f)
  exact Yr PySem.W.kitx_list I.LR ⟨_,g,rfl⟩ e (λz=>nomatch z) h
 |@tup a l f =>
  cases (d);obtain⟨_,_,_,_,p⟩:=(I.D8 a _ f)
  obtain⟨o,g,j,_⟩:=p;exact Yr PySem.W.kitx_tuple I.LR ⟨o,g,j⟩ e (λz=>nomatch z) h
 |@dK a B f =>
  cases (d);obtain⟨_,_,P,_,p⟩:=(I.D8 a _ f)
  obtain⟨o,G,L,g,j,_⟩:=p;exact Yr PySem.W.kitx_dict I.LR ⟨o,g,j.1⟩ e (λz=>nomatch z) h
 |@dT a B f =>
  cases (d);obtain⟨_,_,l,_,o,G,L,g,j,_⟩:=(I.D8 a _ f)
  exact Yr PySem.W.kitx_dict I.LR ⟨o,g,j.1⟩ e (λz=>nomatch z) h
 |@ins a C dx fs f cl F D m hm =>
  cases (d);obtain⟨U,N,_⟩:=jH I.D8 f;obtain⟨R,J,_⟩:=N.look;exact Yr (PySem.W.kitx_own (cl.get _) cl.hd F D m hm) I.LR J e (λz=>nomatch z) h
end
structure D6(k:Nat)(A:SC):Prop where
 hd:A.handled=none
 dp:A.depth+3*k+5<recursionLimit
 un:A.units+16*k+200<cLine
def D6.mono{k:Nat}(r:D6 k A)(h:j<=k):D6 j A:=⟨r.hd,by have:=r.dp;lia,by have:=r.un;lia⟩
theorem D6.deeper(r:D6 (k+1) A)(a:Env):D6 k (A.deeper a) :=
 ⟨r.hd,by have:=r.dp;show A.depth+1+3*k+5<_;lia,by have:=r.un;show A.units+3+16*k+200<_;lia⟩
theorem D6.in1(r:D6 (k+1) A):D6 k A.in1 :=
 ⟨r.hd,by have:=r.dp;lia,by have:=r.un;lia⟩
def vv{A:SC}:(A.under (.builtin "type.__call__" ⟨.ref C :: a,b⟩)).depth=A.depth+1:=by
 first | rfl | simp[Around.under,Code.weight,Code.isCreation,Code.isGuard,Code.isCaller,Code.frames,Code.isFrame,guardIds]
def uP{A:SC}:(A.under (.builtin "type.__call__" ⟨.ref C :: a,b⟩)).units=A.units+1:=by
 first | rfl | simp[Around.under,Code.cUnits,Code.frames,Code.isFrame]
def D6.make(r:D6 (k+1) A)(C:On)(a:Wu)(b:List (Str×PP)):D6 k (A.under (.builtin "type.__call__" ⟨.ref C :: a,b⟩)) :=
 ⟨r.hd,by have:=r.dp;rw[vv];lia,by have:=r.un;rw[uP];lia⟩
theorem D6.depth(r:D6 k A):A.depth<recursionLimit:=by have:=r.dp;lia
theorem D6.units(r:D6 k A):A.units+64<cLine:=by have:=r.un;lia
noncomputable def yk:TA:=λ_ H Q=>Q [] H
noncomputable def xu(ta:TE)(b:TA):TA:=λO H Q=>ta O H λx e=>b O e λa d=>Q (x :: a) d
section
def dQ:PA X [] yk:=λ_ _ _ _ H Q I h=>Calls.spliced_nil ⟨[],H,I,.nil,h⟩
def bA(i:PE X e te)(g:PA X es t)(f:{`q2,K1 e es X}):PA X (e :: es) (xu te t):=by
 intro pos b s O H Q I h;rw[f];refine Calls.spliced_cons (thn (i _ s O H _ I h) λu s1 a=>?_);obtain⟨x,n,l,r1,q1⟩:=a;refine thn (g _ _ s1 O n _ l q1) λp q a=>?_;obtain⟨o,m,j,r2,d⟩:=a;exact⟨_,m,j,.cons r1 r2,d⟩
def J7(t:TA):TE:=λO H Q=>t O H λa b=>a.length<=KM/\∀p,b p=M->Q (.ref p) (upd b p (.tup a))
def JY(t:TA):TE:=λO H Q=>t O H λa b=>a.length<=KM/\∀p,b p=M->Q (.ref p) (upd b p (.lst a))
def Fe{x1}(h:PA X es t):PE X (.Tuple es x1 pos) (J7 t):=by
 intro a s O H Q I g;refine wpAny_Tuple_spliced (thn (h _ _ s O H _ I g) λf s1 ⟨i,j,d,r,z,q⟩=>⟨by rw[← r.length];exact z,?_⟩);refine⟨.ref _,_,d.laid (λb u e=>Zu _ e) (Zn _) ?_,rfl,q _ (d.D8.fresh (Zn _))⟩;exact⟨z,f,r,QG.of (Zh _ L) L,⟨_,Zh _ L,rfl,_,rfl⟩⟩
def zV(h:PA X es t):PE X (.List es pos) (JY t):=by
 intro a s O H Q I g;refine wpAny_List_spliced (thn (h _ _ s O H _ I g) λf s1 ⟨i,j,d,r,z,q⟩=>⟨by rw[← r.length];exact z,?_⟩);refine⟨.ref _,_,d.laid (λb u e=>Zu _ e) (Zn _) ?_,rfl,q _ (d.D8.fresh (Zn _))⟩;exact⟨z,f,0,r,Zh _ L⟩
end
abbrev Sp:=List V->Hp->VK->XK->Prop
abbrev OI:=List Env->Hp->KB->XK->Yy
structure Env0(P:SB)(w:UV)(K:Xd)(mg:X4)(base:UF)(A:SC)(outer:List Env)(s:KB)(H:Hp):Prop where
 frames:A.frames=some outer
 mod:Mod K mg base
 tb:∀b q,Tb base b q->H b=some (.tbl q)
 bs:∀b o,base.get? b=some o->s.heap.get? b=some o/\H b=none
 OF:base.objs.size<=s.heap.objs.size
 Ln:s.heap.FunFrames base outer
 Qw:∀b∈Lx outer,H b=none
 D8:Lv P w H s.heap
 bare:AllBare s.gens
def CE(a:List Env)(P:SB)(w:UV)(H:Hp)(s:KB)(Q:VK)(u:PP)(b:KB):Prop :=
 ∃v d,b.os=s.os/\AllBare b.gens/\Un (Lx a) [] H d s.heap b.heap/\Lv P w d b.heap/\RelV v u/\Q v d
def CR(d:OI)(a:List Env)(P:SB)(w:UV)(H:Hp)(s:KB)(Q:VK)(E:XK)(r:Result)(b:KB):Prop :=
 match r with
 |.ok (.ret u)=>CE a P w H s Q u b
 |.ok _=>False
 |.error e=>d a H s E e b
structure FnOk(P:SB)(w:UV)(K:Xd)(mg:X4)(base:UF)(CX:OI)(k:Nat)(f:On)(fd:Re)(ps:List Str)(sp:Sp):Prop where
 len:∀vs H Q E,sp vs H Q E->vs.length=ps.length
 run:∀(A:SC)(outer:List Env)(s:KB)(H:Hp)(args:Args)(us:Wu)(vs:List V)(Q:VK)(E:XK),D6 k A->Env0 P w K mg base A outer s H->BindsTo s fd args (ps.zip us)->aN vs us->sp vs H Q E →
  codeAny (KF P w) A (.call (.ref f) args) (CR CX outer P w H s Q E) s
def FnOk.imp{K:Xd}(F:FnOk P w K i a l k f j g e)(h:∀b H Q E,d b H Q E->e b H Q E):FnOk P w K i a l k f j g d :=
 ⟨λb H Q E q=>F.len b H Q E (h _ _ _ _ q),λA outer s H args m b Q E p he hb n o=>F.run A _ s H _ m b Q E p he hb n (h _ _ _ _ o)⟩
def Env0.make{K:Xd}(e:Env0 P w K d b A a s H)(C:On)(f:Wu)(g:List (Str×PP)) :
  Env0 P w K d b (A.under (.builtin "type.__call__" ⟨.ref C :: f,g⟩)) a s H:=⟨by first | exact e.frames | (simpa[Around.under,Code.envs,Code.isFrame,pushEnvs] using e.frames),e.mod,e.tb,e.bs,e.OF,e.Ln,e.Qw,e.D8,e.bare⟩
section
variable{H:Hp}
def Inv.Sa(I:Inv X pins O H s):Env0 X.prog X.w X.K X.mg X.base X.A X.stack s H :=
 ⟨I.ok.frames,I.ok.mod,I.tb,I.bs,ZW I.ok.OF I.sz,I.stack,I.LO,I.D8,I.bare⟩
def Inv.after{Q:VK}(I:Inv X pins O H s)(h:CE X.stack X.prog X.w H s Q u s'):EP X pins O Q u s':=by
 obtain⟨v,f,os,bare,un,D8,r,q⟩:=h;obtain⟨a,g,d,t,e⟩:=s';obtain rfl:e=s.os:=os;exact⟨v,f,I.call (h':=a) (g':=g) (d':=d) (t':=t) (ch:=[]) un D8 bare (λb z=>absurd z (by simp)),r,q⟩
end
noncomputable def Ef(b:Sp)(d:List V)(E:XK)(t:TA):TE:=λO H Q=>t O H λa e=>b (a++d) e Q E
def wW(C:On)(m:Str)(e:Sp)(g:List V)(E:XK)(ta:TE)(t:TA):TE:=λO H Q=>ta O H λx b=>∃a f fs,x=.ref a/\b a=Y (.ins C f fs)/\fs.lookup m=M ∧
 t O b λd h=>e (x :: (d++g)) h Q E
def Es(C:On)(e:Sp)(f:List V)(E:XK)(t:TA):TE:=λO H Q=>t O H λd b=>∀x a,b x=M->b a=M->a≠x →
 e (.ref x :: (d++f)) (upd (upd b a (.own x)) x (.ins C a [])) (λv g=>v=.non/\Q (.ref x) g) E
noncomputable def Binds(K:Xd)(d:Re)(b:List Str)(ds:Wu):Prop :=
 ∀(s:KB)(a:Wu),K.In s.heap->(a++ds).length=b.length->BindsTo s d ⟨a,[]⟩ (b.zip (a++ds))
def Binds.all{K:Xd}{b:List Str}(h:∀a:Wu,a.length=b.length->bindArgs d ⟨a,[]⟩=pure (b.zip a)):Binds K d b []:=λs a _ hl=>by
 rw[ZT]at hl ⊢;exact .of_eq (h a hl)
def kD(d:OI)(X:Cx)(E:XK):Prop:=∀(a:Ym)(O:St)(H:Hp)(s:KB)(e:PP)(b:KB),Inv X a O H s->d X.stack H s E e b->X.xe e b
section
def vC{X:Cx}{vs:List V}(F:FnOk X.prog X.w X.K X.mg X.base CX k f fd ps sp)(j:D6 k X.A)(n:Binds X.K fd ps ds)(l:aN Nf ds)(i:kD CX X E)(I:Inv X a O H s)(r:aN vs d)(h:sp (vs++Nf) H Q E):Pi (KF X.prog X.w) X.A (call (.ref f) d) (EP X a O Q) X.xe s:=by
 have r2:=r.append l;refine XH (Xy (F.run _ _ s H _ _ _ Q E j I.Sa (n s d I.LR (by rw[← r2.length];exact F.len _ _ _ _ h)) r2 h) λr g b=>?_);cases r with
 |error e=>exact i _ O H s e g I b
 |ok q =>
  cases q with
  |ret u=>exact I.after b
  |next=>exact False.elim b
  |brk=>exact False.elim b
  |cont=>exact False.elim b
def wa{X:Cx}(F:FnOk X.prog X.w X.K X.mg X.base CX k f fd ps sp)(i:D6 k X.A)(n:Gl X x)(j:X.mg x=Y (.ref f))(l:PySem.W.keepIn X.K (.ref f)=J)(v:Binds X.K fd ps ds)(u:aN Nf ds)(g:kD CX X E)(y:PA X (e :: es) t)(z:{`q1,K3 x})(he:{`q2,K1 e es X})(a:{`q2,K2 pos es X}) :
  PE X (.Call (.Name x p) (e :: es) [] pos) (Ef sp Nf E t):=by
 intro b s O H Q I h;refine Xz (jK I n j ?_ z);refine Wj I.ok.mod.RJ l (thn (y _ _ s O H _ I h) λD s1 ⟨B,G,d,r,q⟩=>⟨d.LR,?_⟩) he a;exact vC F i v u g d r q
def wB(he:PE X o ta)(c:MG X.K C)(i:Meth X.K C m f)(F:FnOk X.prog X.w X.K X.mg X.base CX k f fd ps sp)(B:D6 k X.A)(G:Binds X.K fd ps ds)(D:aN Nf ds)(y:kD CX X E)(N:PA X (e :: es) t)(S:{`q2,K1 e es X})(b:{`q2,K2 pos es X})(z:{`q2,eval (.Call (.Attribute o m apos) (e :: es) [] pos) X.env=(do
   let g ← eval o X.env
   standAt apos.atName
   let (f,first) ← holding [g] (getMethod g m pl)
   callWith pos f first (backTo pos (P3 (e :: es) X.env)) (backToKw pos (SL [] X.env)))}) :
  PE X (.Call (.Attribute o m apos) (e :: es) [] pos) (wW C m sp Nf E ta t):=by
 intro d s O H Q I h;refine PySem.W.methodCall_KW (pl:=pl) (thn (he _ s O H _ I h) λu s1 P=>?_) z;obtain⟨x,U,n,rx,a,dx,fs,ex,R,l,q⟩:=P;subst ex;obtain rfl:u=Value.ref a:=rx;refine oj n R c i l ?_;refine Wj I.ok.mod.RJ i.kp (thn (N _ _ s1 O U _ n q) λus s2 ⟨vs,H2,j,r,v⟩=>⟨j.LR,?_⟩) S b;exact vC (vs:=.ref a :: vs) F B G D y j (.cons L r) v
def zc(he:PE X o ta)(c:MG X.K C)(i:Meth X.K C m f)(F:FnOk X.prog X.w X.K X.mg X.base CX k f fd ps sp)(r:D6 k X.A)(y:Binds X.K fd ps ds)(v:aN Nf ds)(j:kD CX X E)(n:{`q2,eval (.Call (.Attribute o m apos) [] [] pos) X.env=(do
   let g ← eval o X.env
   standAt apos.atName
   let (f,first) ← holding [g] (getMethod g m pl)
   callWith pos f first (backTo pos (P3 [] X.env)) (backToKw pos (SL [] X.env)))}) :
  PE X (.Call (.Attribute o m apos) [] [] pos) (wW C m sp Nf E ta yk):=by
 intro d s O H Q I h;refine PySem.W.methodCall_KW (pl:=pl) (thn (he _ s O H _ I h) λu s1 z=>?_) n;obtain⟨x,G,b,rx,a,D,fs,ex,B,l,q⟩:=z;subst ex;obtain rfl:u=Value.ref a:=rx;refine oj b B c i l ?_;exact PySem.W.callWith_K0 b.LR i.kp (vC (vs:=[.ref a]) F r y v j b (.cons L .nil) q)
structure Mk(K:Xd)(C f:On):Prop where
 makes:PySem.W.makesIn K C=true
 init:PySem.W.findIn K (.ref C) "__init__" = some (some (.ref f))
 fn:PySem.W.isFn K (.ref f)=true
 kp:PySem.W.keepIn K (.ref C)=true
def AZ{X:Cx}{us:Wu}(M:Mk X.K C f)(F:FnOk X.prog X.w X.K X.mg X.base CX k f fd ps sp)(z:D6 (k+1) X.A)(D:Binds X.K fd ps ds)(B:aN Nf ds)(y:kD CX X E)(I:Inv X a O H s)(r:aN i us)(h:∀x d,H x=none->H d=none->d≠x->sp (.ref x :: (i++Nf)) (upd (upd H d (.own x)) x (.ins C d [])) (λv P=>v=.non/\Q (.ref x) P) E) :
  Pi (KF X.prog X.w) X.A (call (.ref C) us) (EP X a O Q) X.xe s:=by
 have j:=h _ _ (I.D8.fresh (YW _)) (I.D8.fresh (Zn _)) (Zi (Yp _));have g:=Inv.made (C:=C) I;have r2:aN (V.ref (s.heap.objs.size+1) :: (i++Nf)) _:=.cons L (r.append B);refine XH (Ac (f:=f) I.LR M.makes M.init (beq_iff_eq.mp M.fn) (Xy (F.run _ _ _ _ _ _ _ _ E (z.make C us [])
  (g.Sa.make C us []) (D _ _ g.LR (by
  have e:=r2.length;rw[F.len _ _ _ _ j]at e;exact e.symm)) r2 j) λr l b=>?_))
 cases r with
 |error e=>exact y _ O _ _ e l g b
 |ok G =>
  cases G with
  |ret u =>
   obtain⟨v,R,N,n,ev,q⟩:=g.after b;subst ev;exact⟨n,⟨V.ref _,R,N,rfl,q⟩⟩
  |next=>exact False.elim b
  |brk=>exact False.elim b
  |cont=>exact False.elim b
def BJ{X:Cx}(M:Mk X.K C f)(F:FnOk X.prog X.w X.K X.mg X.base CX k f fd ps sp)(d:D6 (k+1) X.A)(i:Gl X x)(g:X.mg x=Y (.ref C))(l:Binds X.K fd ps ds)(j:aN Nf ds)(b:kD CX X E)(n:{`q1,K3 x}):PE X (.Call (.Name x p) [] [] pos) (Es C sp Nf E yk):=by
 intro a s O H Q I h;refine Xz (jK I i g ?_ n);exact PySem.W.callWith_K0 I.LR M.kp (AZ (us:=[]) M F d l j b I .nil h)
end
def PK(X:Cx)(b:List Keyword)(t:TA):Prop :=
 ∀(pos:Pos)(a:Ym)(s:KB)(O:St)(H:Hp)(Q:List V->Hp->Prop),Inv X a O H s->t O H Q->Pi (KF X.prog X.w) X.A (evalAll ((backToKw pos (SL b X.env)).map (·.2))) (AP X a O Q) X.xe s
section
def Hu:PK X [] yk:=λ_ _ _ _ H Q I h=>wpAny_evalAll_nil ⟨[],H,I,.nil,h⟩
def Do(g:PE X e te)(d:PK X Vq t):PK X (⟨nm,e,kpos⟩ :: Vq) (xu te t):=by
 intro pos a s O H Q I h;refine wpAny_evalAll_cons (Zx (thn (g _ s O H _ I h) λu s1 ⟨x,n,j,r1,q1⟩=>Zx (wpAny_standAt (Zs ?_))));exact thn (d _ _ s1 O n _ j q1) λr v ⟨q,l,i,r2,b⟩=>⟨_,l,i,.cons r1 r2,b⟩
end
structure bt(N P:List Str)(sc:Scope):Prop where
 kind:sc.kind=.function
 co:sc.isCoroutine=false
 gen:sc.isGenerator=false
 nd:N.Nodup
 pre:N.take P.length=P
 par:∀x∈P,sc.names.lookup x=some .local\/sc.names.lookup x=some .cell
 RF:∀y∈sc.names,y.2 ≠ .free
theorem pY:∀{binds:List (Str×PP)}{m:X4},(∀v,(x,v)∉binds)->bindL a binds m x=m x
 |[],_,_=>rfl
 | (n,v) :: r,m,h=>by
  unfold bindL;rw[pY λw hw=>h w (Zw _ hw)];split
  ·grind
  ·rfl
theorem qo:∀{binds:List (Str×PP)}{m:X4},(∀v,(x,v)∉binds)->bindC a binds m x=m x
 |[],_,_=>rfl
 | (n,v) :: r,m,h=>by
  unfold bindC;rw[qo λw hw=>h w (Zw _ hw)];split
  ·rfl
  grind
theorem ql:∀{P:List Str}{b:Wu}{i:Nat}{m:X4},P.Nodup->P[i]?=Y x->b[i]?=Y v->a x=Y .local →
  bindL a (P.zip b) m x=Y v
 |[],_,_,_,_,h,_,_=>by simp at h
 |_ :: _,[],_,_,_,_,h,_=>by simp at h
 |p :: P,w :: b,0,m,nd,e,d,f=>by
  simp at e d;subst e;subst d;show bindL _ ((p,w) :: P.zip b) m p=_;unfold bindL;rw[pY λv g=>(Zd.mp nd).1 (List.of_mem_zip g).1,Zm f];simp
 |p :: P,w :: b,i+1,m,nd,e,d,f=>by
  unfold bindL;exact ql (i:=i) (Zd.mp nd).2 (by simpa using e) (by simpa using d) f
theorem p6:∀{P:List Str}{b:Wu}{i:Nat}{m:X4},P.Nodup->P[i]?=Y x->b[i]?=Y v->a x≠Y .local →
  bindC a (P.zip b) m x=Y v
 |[],_,_,_,_,h,_,_=>by simp at h
 |_ :: _,[],_,_,_,_,h,_=>by simp at h
 |p :: P,w :: b,0,m,nd,e,d,f=>by
  simp at e d;subst e;subst d;show bindC _ ((p,w) :: P.zip b) m p=_;unfold bindC;rw[qo λv g=>(Zd.mp nd).1 (List.of_mem_zip g).1,Zl f];simp
 |p :: P,w :: b,i+1,m,nd,e,d,f=>by
  unfold bindC;exact p6 (i:=i) (Zd.mp nd).2 (by simpa using e) (by simpa using d) f
noncomputable def start(N:List Str)(a:List V):St:=a.map Y++List.replicate (N.length-a.length) M
def gP(j:OI)(P:SB)(w:UV)(K:Xd)(m:X4)(h:UF)(N:List Str)(d:Str)(a:Scope)(f:On)(g:PP)(A:SC)(b:List Env)(s:KB)(H:Hp)(E:XK):Cx where
 prog:=P
 w:=w
 K:=K
 mg:=m
 base:=h
 A:=A.deeper (envOfC d a s.heap.objs.size f g)
 N:=N
 s₀:=s
 H₀:=H
 env:=envOfC d a s.heap.objs.size f g
 outer:=b
 stack:=envOfC d a s.heap.objs.size f g :: b
 ex:=[]
 calm:=J
 fn:=λ_=>J
 pn:=[]
 xe:=λe l=>Pi (KF P w) (A.deeper (envOfC d a s.heap.objs.size f g)) (leaving (envOfC d a s.heap.objs.size f g) e) (λ_ i=>j b H s E e i) (λn i=>j b H s E n i) l
def tF{a:Scope}(h:a.names.lookup x=Y .cell):∃c,(cellsFrom n a.names []).lookup x=Y c:=by
 exact Yw.mp (PySem.W.cellsFrom_some _ n [] (.inl h))
def yZ{K:Xd}{A:SC}{C:List V}(S:bt N o d)(hd:A.handled=M)(m:Env0 P w K U n A g s H)(hl:C.length=o.length)(r:aN C R)(x:InCallC s s.heap.objs.size (bindL (envOfC j d s.heap.objs.size f Q).kindOf (o.zip R) λ_=>M) (cellsFrom (s.heap.objs.size+1) d.names []) (bindC (envOfC j d s.heap.objs.size f Q).kindOf (o.zip R) λ_=>M) X) :
  Inv (gP CX P w K U n N j d f Q A g s H E) [] (start N C) H X:=by
 have hpl:o.length<=N.length:=by have:=congrArg List.length S.pre;grind
 obtain⟨O,tk,rfl,hk⟩:=x.done;have t:∀b:On,b∉(gP CX P w K U n N j d f Q A g s H E).ex:=λb z=>absurd (show b∈([]) from z) (by simp);refine⟨⟨m.mod,S.kind,rfl,rfl,Zn _,λy z c O l=>?_,λy B=>?_,λy c _ h=>?_,λ_=>hd,Around.frames_deeper m.frames,.inr ⟨rfl,rfl⟩,λb z=>absurd z (t b),m.tb,m.bs,m.OF,λb _ _=>t b,λb z=>absurd z (t b),m.Ln,m.Qw⟩,
  rfl,m.bare,Un.kept hk,⟨_,x.toInCall.ns,λi y v O l h3=>?_⟩,λy c h=>⟨_,x.cell y c h⟩,m.D8.fresh (Zn _),λy c h=>?_,λp F=>absurd (show p∈([]) from F) (by simp),m.D8.kept hk,?_⟩
 ·exact name_of_addr x.apart (Xm O) (Xm l)
 ·have B:=B;rcases B with B | B
  ·exact tF B
  ·exact absurd L (S.RF _ (Xm B))
 ·exact YQ (x.above y c (Xm h))
 ·have G:i<C.length:=by
   unfold start at l;by_cases G:i<C.length
   ·exact G
   ·rw[Z8 (by simpa using G)]at l;rw[Yk]at l;split at l<;>cases l
  obtain⟨u,hu,rv⟩:=r.get (by
   unfold start at l;rw[Z0 (by simpa using G),ZY]at l;cases e:C[i]? with
   |none=>rw[e]at l;cases l
   |some a=>rw[e]at l;cases l;rfl)
  have F:o[i]?=Y y:=by
   rw[← S.pre,List.getElem?_take_of_lt (by lia)];exact O
  have D:o.Nodup:=by rw[← S.pre];exact S.nd.sublist (WU _ _)
  refine⟨u,rv,?_⟩;rcases S.par y (Yx F) with k | k
  ·exact .inl ⟨k,ql D F hu k⟩
  ·obtain⟨c,e⟩:=tF k;refine .inr ⟨.inl k,c,e,?_⟩;have q:=x.cell y c e;rw[p6 D F hu (by show d.names.lookup y≠_;rw[k];decide)]at q;exact q
 ·exact m.D8.fresh (YQ (x.above y c (Xm h)))
 ·unfold start;show _=N.length;grind
def Ak{CX:OI}{P:SB}{w:UV}{K:Xd}{U:X4}{i:UF}{k:Nat}{f:On}{j d:Str}{g:Arguments}{h:List Stmt}{a:Scope}{dV kV C pm y ct oc:PP}{an od:Option On}{Oz:Array (Wb)}{N R:List Str}{F:Sp}(lk:K.lookup f=Y ⟨oc,od,.func (PySem.W.fnOf j d g h a dV kV C pm an y ct),Oz⟩)(KQ:PySem.W.codeIn K y d=true)(S:bt N R a)(z:∀m H Q E,F m H Q E->m.length=R.length)(MC:∀(A:SC)(outer:List Env)(s:KB)(H:Hp)(m:List V)(Q:VK)(E:XK),D6 k (A.deeper (envOfC d a s.heap.objs.size f y))->F m H Q E →
   ∃t,Mr (gP CX P w K U i N d a f y A outer s H E) h t/\t { nx:=λ_ l=>Q .non l,rt:=Q } (start N m) H) :
  FnOk P w K U i CX (k+1) f (PySem.W.fnOf j d g h a dV kV C pm an y ct) R F:=by
 refine⟨z,λA outer s H args us m Q E X B hb r P2=>?_⟩;have hl:=z _ _ _ _ P2;have KX:=B.mod.RJ.keeps λb o e=>(B.bs b o e).1;refine codeAny_call_function X.depth (KX _ _ lk) L S.co S.gen L (PySem.W.codeRec_of KX KQ) (hb _ _ _ _ ?_);refine wpAny_newFunctionEnv_cells S.kind (λ⟨n,v⟩ hy=>by
  rcases S.par n (List.of_mem_zip hy).1 with q | q
  ·exact .inl q
  ·exact .inr ⟨q,PySem.W.cellsFrom_some _ _ _ (.inl q)⟩) λenv he s1 x=>?_
 subst he;refine⟨(B.mod.nolimit.keeps λb o e=>(B.bs b o e).1).keeps x.toInCall.keep,codeAny_func ?_⟩;obtain⟨t,ht,hq⟩:=MC A _ s H m Q E (X.deeper _) P2;refine Z4 (ht [] s1 _ H _ (yZ S X.hd B hl r x) hq) (λfl G p=>?_) λe G p=>p;have fin:∀{D:St}{l:Hp}{v:V}{u:PP},Inv (gP CX P w K U i N d a f y A _ s H E) [] D l G->RelV v u->Q v l->CE outer P w H s Q u G :=
  λ{D l v u} J O q=>⟨v,l,J.os,J.bare,J.base,J.D8,O,q⟩
 cases fl with
 |ret u =>
  obtain⟨v,D,l,J,O,q⟩:=p;exact fin J O q
 |next =>
  obtain⟨D,l,J,q⟩:=p;exact fin (v:=V.non) J L q
 |brk =>
  obtain⟨_,_,_,q⟩:=p;exact False.elim q
 |cont =>
  obtain⟨_,_,_,q⟩:=p;exact False.elim q
section
noncomputable def tCB(r:List V->Hp->VK->Prop)(t:TA):TE:=λO H Q=>t O H λa b=>r a b Q
def lH{X:Cx}{x:Str}{p pos:Pos}{es:List Expr}{t:TA}{id:String}{r:List V->Hp->VK->Prop}(m:cF X (.builtin id) r)(l:Gl X x)(j:X.mg x=M)(g:bootBuiltins x=Y (.builtin id))(n:PA X (e :: es) t)(i:{`q1,x ≠ "__name__"})(o:{`q1,K3 x})(he:{`q2,K1 e es X})(a:{`q2,K2 pos es X}):PE X (.Call (.Name x p) (e :: es) [] pos) (tCB r t):=by
 intro b s O H Q I h;refine Xz (l9 I l j g ?_ i o);exact PyProof.Rows.callWith_builtin1 (thn (n _ _ s O H _ I h) λf s1 ⟨d,u,q,r1,q1⟩=>m _ s1 O u d f Q q r1 q1) he a
def pJ(m:cF X (.type T) r)(l:Gl X x)(j:X.mg x=M)(g:bootBuiltins x=Y (.type T))(n:PA X (e :: es) t)(i:{`q1,x ≠ "__name__"})(o:{`q1,K3 x})(he:{`q2,K1 e es X})(a:{`q2,K2 pos es X}):PE X (.Call (.Name x p) (e :: es) [] pos) (tCB r t):=by
 intro b s O H Q I h;refine Xz (l9 I l j g ?_ i o);exact XF (thn (n _ _ s O H _ I h) λf s1 ⟨d,u,q,r1,q1⟩=>m _ s1 O u d f Q q r1 q1) he a
end
end L2
namespace HT
open PySem PyProof.Rows
section
variable{A:SC}
noncomputable def MN(n d:Nat):Option Int->Nat
 |none=>d
 |some v=>if v<0 then (v+(n:Int)).toNat else min v.toNat n
end
end HT
namespace L2
open PySem PySem.Spec PyProof.Rows
abbrev TO:=St->Hp->(Option Int->Hp->Prop)->Prop
def PO(X:Cx)(e:Option Expr)(t:TO):Prop :=
 ∀(a:Ym)(s:KB)(O:St)(H:Hp)(Q:Option Int->Hp->Prop),Inv X a O H s->t O H Q →
  Pi (KF X.prog X.w) X.A (evalPart e X.env) (λu d=>∃o b,Inv X a O b d/\IsPart u o/\Q o b) X.xe s
noncomputable def DL:TO:=λ_ H Q=>Q M H
noncomputable def Jr(t:TE):TO:=λO H Q=>t O H λx a=>∃i,x=.int i/\Q (Y i) a
section
variable{lo:Option Expr}
def DV:PO X M DL:=by
 intro a s O H Q I h;rw[evalPart_none];exact Zs ⟨_,H,I,.none,h⟩
def C1(h:PE X e te):PO X (Y e) (Jr te):=by
 intro a s O H Q I hw;rw[evalPart_some];refine thn (h _ s O H _ I hw) λu s1 b=>?_;obtain⟨x,f,d,r1,q1⟩:=b;obtain⟨i,rfl,q⟩:=q1;obtain⟨t,rfl⟩:=r1;exact⟨_,f,d,.int i t,q⟩
def SlR(X:Cx)(r:V->Option Int->Option Int->Hp->VK->Prop):Prop :=
 ∀(a:Ym)(s:KB)(O:St)(H:Hp)(x:V)(v d b:PP)(lo hi:Option Int)(f:On)(Q:VK),Inv X a O H s->RelV x v->s.heap.IsSliceOf f d b .none->IsPart d lo->IsPart b hi->r x lo hi H Q →
  ∃T id,typeLookup (.type T) "__getitem__" = pure (Y (.builtin id))/\s.TypeIs v T/\Pi (KF X.prog X.w) X.A (getItem v (.ref f)) (EP X a O Q) X.xe s
noncomputable def tSl(r:V->Option Int->Option Int->Hp->VK->Prop)(d:TE)(a b:TO):TE:=λO H Q=>d O H λx h=>a O h λl g=>b O g λu f=>r x l u f Q
def zA(w:SlR X r)(he:PE X e te)(y:PO X lo tl)(p:PO X hi th):PE X (.Subscript e (.Slice lo hi M p2) pos) (tSl r te tl th):=by
 intro d s O H Q I h;refine Subscript_ (thn (he _ s O H _ I h) λv s1 a=>?_);obtain⟨x,F,C,r1,q1⟩:=a;refine wpAny_Slice (thn (y _ s1 O F _ C q1) λg j ⟨l,E,B,o,n⟩=>thn (p _ j O E _ B n) λf i a=>?_);obtain⟨u,D,A,pu,m⟩:=a;rw[evalPart_none];refine Zs ?_;obtain⟨T,id,z,t,hg⟩:=w _ _ O D x v g f l u _ Q (A.kept (t':=i.toks) λb G q=>Zu _ q) r1 (Heap.IsSliceOf.new ..) o pu m;exact tail_any t z hg (by with_unfolding_all rfl)
end
noncomputable def RK(n:Nat)(i:Int):Option Nat:=if 0<=i then (if i<n then Y i.toNat else M) else if -(n:Int)<=i then Y (i+n).toNat else M
def Sh{α:Type}(a:List α)(i:Int):Option α:=(RK a.length i).bind λj=>a[j]?
def xk{i:Int}(h:RK n i=Y j):seqIndex? i n=Y j/\j<n/\-(n:Int)<=i/\i<n:=by
 unfold RK at h;by_cases h0:0<=i
 ·rw[Zm h0]at h;by_cases a:i<n
  ·rw[Zm a]at h;exact⟨by rw[seqIndex_of h0 a,(ZX h)],by lia,by lia,a⟩
  simp_all
 ·rw[Zl h0]at h;by_cases a:-(n:Int)<=i
  ·rw[Zm a]at h;exact⟨by rw[seqIndex_neg (by lia) a,(ZX h)],by lia,a,by lia⟩
  simp_all
def r9{α:Type}{a:List α}{i:Int}{v:α}(h:Sh a i=Y v):∃j,seqIndex? i a.length=Y j/\a[j]?=Y v/\j<a.length/\-(a.length:Int)<=i/\i<a.length:=by
 unfold Sh at h;cases e:RK _ i with
 |none=>rw[e]at h;cases h
 |some j =>
  rw[e]at h;obtain⟨g,f,d,b⟩:=xk e;exact⟨j,g,h,f,d,b⟩
noncomputable def fi(b:Expr):Prop:=∀o i,subscripted b Z o i=operate [o,i] (getItem o i)
def Ms(X:Cx)(r:R2):Prop :=
 ∀(value slice:Expr)(a:Ym)(s:KB)(O:St)(H:Hp)(x y:V)(v u:PP)(Q:VK),Inv X a O H s->RelV x v->RelV y u->r x y H Q →
  subscripted slice Z v u=operate [v,u] (getItem v u)->Pi (KF X.prog X.w) X.A (subscriptTail value slice v u) (EP X a O Q) X.xe s
def SS(X:Cx)(e:String)(r:V->List V->Hp->VK->Prop):Prop :=
 ∀(a:Ym)(s:KB)(O:St)(H:Hp)(x:V)(b:List V)(v:PP)(d:Wu)(Q:VK),Inv X a O H s->RelV x v->aN b d->r x b H Q →
  Pi (KF X.prog X.w) X.A (call (.builtin e) (v :: d)) (EP X a O Q) X.xe s
section
def Ms.or(h:Ms X r)(i:Ms X e):Ms X (λx y H Q=>r x y H Q\/e x y H Q):=by
 intro value slice f s O H x y v u Q I rx d q g;rcases q with q | q
 ·exact h _ _ _ s O H x y v u Q I rx d q g
 ·exact i _ _ _ s O H x y v u Q I rx d q g
def lQ(i:Ms X r)(l:PE X a ta)(j:PE X b tb)(g:fi b):PE X (.Subscript a b pos) (Sr r ta tb):=by
 intro d s O H Q I h;exact Subscript_ (Gm l j I h λv u e x y n m rx f q=>i a b _ e O n x y v u Q m rx f q (g _ _))
def HM(K:Xd):R2:=λx y H Q=>∃p d i v,x=.ref p/\y=.int i/\KA K H p d/\Sh d i=Y v/\Q v H
def IB(K:Xd):R2:=λx y H Q=>∃p d i v,x=.ref p/\y=.int i/\LK K H p d/\Sh d i=Y v/\Q v H
def Js:R2:=λx y H Q=>∃z i c,x=.str z/\y=.int i/\z.length<=KM/\Sh z.cps.toList i=Y c/\Q (.str ⟨#[c]⟩) H
def xX:Ms X (HM X.K):=by
 intro value slice g s O H x y v u Q I rx n h l;refine L2.ah λR o=>?_;obtain⟨p,G,i,z,rfl,rfl,A,he,q⟩:=h;cases rx;obtain⟨t,rfl⟩:=n;obtain⟨F,r,d,L⟩:=I.list A;obtain⟨j,f,D,P,C,B⟩:=r9 he;obtain⟨w,m,E⟩:=r.get D;refine o ?_;have hl:=r.length;have N:=rM;have fin:EP X _ O Q w s:=⟨z,H,I,E,q⟩
 by_cases h0:0<=i
 ·have e:i.toNat=j:=by
   rw[seqIndex_of h0 B]at f;exact ZX f
  exact item_listR d.isList h0 (by lia) (by rw[e];simpa using m) fin l
 ·have e:(i+(F.toArray.size:Int)).toNat=j:=by
   rw[seqIndex_neg (by lia) C]at f
   simp_all
  exact subscriptTail_builtinR (x:=w) d.isList.typeIs slot_list_getitem.lookup
   (wpAny_getItem_list_neg d.isList (by lia) (by simp_all) (by lia) (by rw[e];simpa using m) ⟨rfl,fin⟩) l
def GY:Ms X (IB X.K):=by
 intro value slice e s O H x y v u Q I rx f h l;refine L2.ah λN g=>?_;obtain⟨p,C,i,z,rfl,rfl,m,he,q⟩:=h;cases rx;obtain⟨t,rfl⟩:=f;obtain⟨P,r,d,D⟩:=I.tuple m;obtain⟨j,o,n,L,G,F⟩:=r9 he;obtain⟨w,A,B⟩:=r.get n;refine g ?_;have E:=rM;exact subscriptTail_builtinR (x:=w) d.typeIs slot_tuple_getitem.lookup
  (getItem_tuple (j:=j) d (by lia) (by lia) (by rw[ZG,← r.length];exact o) (by simpa using A) ⟨rfl,(⟨z,H,I,B,q⟩)⟩) l
def FH:Ms X Js:=by
 intro value slice d s O H x y v u Q I rx f h g;obtain⟨z,i,c,rfl,rfl,p,he,q⟩:=h;obtain⟨t,rfl⟩:=rx;obtain⟨o,rfl⟩:=f;obtain⟨j,e,n,w,m,l⟩:=r9 he;have hl:z.cps.toList.length=z.length:=by simp[Str.length]
 rw[hl]at e m l;have r:=rM;exact tail_any (Ws s z t) slot_str_getitem.lookup (getItem_str (c:=c) (by
  grind) (by rw[e];simpa using n) ⟨.str _,H,I.tok _,⟨_,rfl⟩,q⟩) g
def V9(K:Xd):R2:=λx y H Q=>HM K x y H Q\/IB K x y H Q\/Js x y H Q
def i9:Ms X (V9 X.K):=xX.or (GY.or FH)
def vH(d:Wu)(n j:Nat)(u:PP):Obj.mapSeq (·.setIfInBounds j u) { cls:=.type "list",data:=.seq d.toArray n }={ cls:=.type "list",data:=.seq (d.set j u).toArray n }:=by
 simp[Obj.mapSeq]
theorem Inv.lst{H:Hp}{f:List V}(I:Inv X d O H s)(h:H p=Y (.lst f)) :
  ∃(g:Wu)(n:Nat),aN f g/\s.heap.get? p=Y { cls:=.type "list",data:=.seq g.toArray n }/\f.length<=sizeLine:=by
 obtain⟨z,g,n,r,e⟩:=I.D8 p _ h;exact⟨_,n,r,e,z⟩
def Inv.RH{m j:Wu}(I:Inv X d O H s)(h:H p=Y (.lst o))(w:s.heap.get? p=Y { cls:=.type "list",data:=.seq m.toArray n })(l:f { cls:=.type "list",data:=.seq m.toArray n }={ cls:=.type "list",data:=.seq j.toArray i })(r:aN g j)(v:g.length<=KM)(t:Nat) :
  Inv X d O (upd H p (.lst g)) { s with heap:=s.heap.update p f,toks:=t }:=by
 have e:(s.heap.update p f).get? p=Y { cls:=.type "list",data:=.seq j.toArray i }:=by
  rw[ZI f w (by rw[l]<;>rfl),l]
 refine I.write (x:=p) (e:=p) (by rw[h];trivial) (.inl L) (λb u hb q=>(ZO _ _ (Z9 hb)).trans q) ⟨_,e⟩ ?_;exact⟨v,_,i,r,e⟩
def Et:V->V->V->Hp->(Hp->Prop)->Prop:=λo i v H Q=>∃p d k j,o=.ref p/\i=.int k/\H p=Y (.lst d)/\RK d.length k=Y j/\Q (upd H p (.lst (d.set j v)))
def set_list:FT X Et:=by
 intro g s O H o i v F iv u Q I x y w h;refine L2.ah λP z=>?_;obtain⟨p,E,k,j,rfl,rfl,l,A,q⟩:=h;cases x;obtain⟨t,rfl⟩:=y;obtain⟨D,n,r,d,G⟩:=I.lst l;obtain⟨f,N,C,B⟩:=xk A;refine z ?_;have hl:=r.length;have L:=rM;have m :=
  I.RH l d (vH _ n j u) (r.set w j) (by simp_all) s.toks
 by_cases h0:0<=k
 ·have e:k.toNat=j:=by
   rw[seqIndex_of h0 B]at f;exact ZX f
  exact PySem.W.ki_setAt d h0 (by lia) (by simp_all) (by rw[e];exact⟨_,m,q⟩)
 ·have e:(k+(D.toArray.size:Int)).toNat=j:=by
   rw[seqIndex_neg (by lia) C]at f
   simp_all
  exact PySem.W.ki_setBack d (by lia) (by simp_all) (by lia) (by rw[e];exact⟨_,m,q⟩)
def Sw(a:Int)(n:Nat):max 0 (min a (n:Int))=((min a.toNat n:Nat):Int):=by
 cases a with
 |ofNat k =>
  show max 0 (min (k:Int) _)=((min k n:Nat):Int);rcases Nat.le_total k n with h | h
  ·rw[Int.min_eq_left (Int.ofNat_le.mpr h),Y3 h]
   simp_all
  ·rw[Int.min_eq_right (Int.ofNat_le.mpr h),WM h]
   simp_all
 |negSucc k =>
  rw[Int.min_eq_left (Int.le_trans (Int.le_of_lt (Int.negSucc_lt_zero k)) (Int.natCast_nonneg n)),Int.max_eq_left (Int.le_of_lt (Int.negSucc_lt_zero k))]
  simp_all
noncomputable def gx:V->Bool
 |.non=>J
 |.bl _=>J
 |.int _=>J
 |.str _=>J
 |_=>Z
noncomputable def Pq:V->V->Bool
 |.non,.non=>J
 |.bl a,.bl b=>a==b
 |.bl a,.int b=>(if a then 1 else 0)==b
 |.int a,.bl b=>a==(if b then 1 else 0)
 |.int a,.int b=>a==b
 |.str a,.str b=>a==b
 |_,_=>Z
def Fc(f:RelV y u)(d:RelV x v)(h:gx y=J)(g:gx x=J):SeqAt.EqAt A s u v (Pq y x):=by
 cases y with
 |non =>
  cases f;cases x with
  |non=>cases d;exact SeqAt.EqAt.same _
  |bl b=>cases d;exact SeqAt.EqAt.none_bool b
  |int b=>obtain⟨t,rfl⟩:=d;exact SeqAt.EqAt.none_int b t
  |str b=>obtain⟨t,rfl⟩:=d;exact SeqAt.EqAt.none_str b t
  |_=>exact absurd (g) Za
 |bl a =>
  cases f;cases x with
  |non=>cases d;exact SeqAt.EqAt.bool_none a
  |bl b=>cases d;exact SeqAt.EqAt.bool_bool a b
  |int b=>obtain⟨t,rfl⟩:=d;exact SeqAt.EqAt.bool_int a b t
  |str b=>obtain⟨t,rfl⟩:=d;exact SeqAt.EqAt.bool_str a b t
  |_=>exact absurd (g) Za
 |int a =>
  obtain⟨e,rfl⟩:=f;cases x with
  |non=>cases d;exact SeqAt.EqAt.int_none a e
  |bl b=>cases d;exact SeqAt.EqAt.int_bool a e b
  |int b=>obtain⟨t,rfl⟩:=d;exact SeqAt.EqAt.int_int a e b t
  |str b=>obtain⟨t,rfl⟩:=d;exact SeqAt.EqAt.int_str a e b t
  |_=>exact absurd (g) Za
 |str a =>
  obtain⟨e,rfl⟩:=f;cases x with
  |non=>cases d;exact SeqAt.EqAt.str_none a e
  |bl b=>cases d;exact SeqAt.EqAt.str_bool a e b
  |int b=>obtain⟨t,rfl⟩:=d;exact SeqAt.EqAt.str_int a e b t
  |str b=>obtain⟨t,rfl⟩:=d;exact SeqAt.EqAt.str_str a e b t
  |_=>exact absurd (g) Za
 |_=>exact absurd (h) Za
def R9(x:V)(u:PP):Bool:=match u with
 |.none=>Pq .non x
 |.bool b=>Pq (.bl b) x
 |.int i _=>Pq (.int i) x
 |.str z _=>Pq (.str z) x
 |_=>Z
def BQ(r:RelV y u)(f:gx y=J):R9 x u=Pq y x:=by
 cases y with
 |non=>cases r;rfl
 |bl b=>cases r;rfl
 |int i=>obtain⟨t,rfl⟩:=r;rfl
 |str z=>obtain⟨t,rfl⟩:=r;rfl
 |_=>exact absurd (f) Za
theorem kL:∀{d:List V}{e:Wu},aN d e->d.all gx=J->e.any (R9 x)=d.any λy=>Pq y x
 |_,_,.nil,_=>rfl
 |y :: d,u :: e,.cons r t,f=>by
  rw[Xh,ZJ]at f;rw[XQ,XQ,BQ r f.1,kL t f.2]
theorem iP(h:RelV x v)(i:gx x=J):∀{e:List V}{g:Wu},aN e g->e.all gx=J->∀u∈g,SeqAt.EqAt A s u v (R9 x u)
 |_,_,.nil,_=>λu d=>by cases d
 |y :: e,u :: g,.cons r t,f=>λj d=>by
  rw[Xh,ZJ]at f;rcases Zj.mp d with rfl | d
  ·rw[BQ r f.1];exact Fc r h f.1 i
  ·exact iP h i t f.2 j d
def T6(x:V)(d:List V):Bool:=d.any λy=>Pq y x
def Vf(K:Xd)(e:Bool):R2:=λx y H Q=>∃p d,y=.ref p/\(KA K H p d\/LK K H p d)/\gx x=J/\d.all gx=J/\Q (.bl (if e then !T6 x d else T6 x d)) H
def pO:OpR X (SZ .In) (Vf X.K Z):=by
 intro g s O H x y v u Q I rx j h;obtain⟨p,m,rfl,d,i,fs,q⟩:=h;cases j;rcases d with d | d
 ·obtain⟨e,r,f,l⟩:=I.list d;refine SeqAt.in_listAt _ f.isList (λw hw=>iP rx i r fs w (by simpa using hw)) ⟨.bl _,H,I,rfl,?_⟩;rw[show e.toArray.any _=e.any (R9 x) by simp,kL r fs];exact q
 ·obtain⟨e,r,f,l⟩:=I.tuple d;refine SeqAt.in_tupleAt _ f (λw hw=>iP rx i r fs w (by simpa using hw)) ⟨.bl _,H,I,rfl,?_⟩;rw[show e.toArray.any _=e.any (R9 x) by simp,kL r fs];exact q
def qC:OpR X (SZ .NotIn) (Vf X.K J):=by
 intro g s O H x y v u Q I rx j h;obtain⟨p,m,rfl,d,i,fs,q⟩:=h;cases j;rcases d with d | d
 ·obtain⟨e,r,f,l⟩:=I.list d;refine SeqAt.notIn_listAt _ f.isList (λw hw=>iP rx i r fs w (by simpa using hw)) ⟨.bl _,H,I,rfl,?_⟩;rw[show e.toArray.any _=e.any (R9 x) by simp,kL r fs];exact q
 ·obtain⟨e,r,f,l⟩:=I.tuple d;refine SeqAt.notIn_tupleAt _ f (λw hw=>iP rx i r fs w (by simpa using hw)) ⟨.bl _,H,I,rfl,?_⟩;rw[show e.toArray.any _=e.any (R9 x) by simp,kL r fs];exact q
def cF.or(h:cF X f r)(l:cF X f i):cF X f (λd H Q=>r d H Q\/i d H Q):=by
 intro j s O H d e Q I g q;rcases q with q | q
 ·exact h _ s O H d e Q I g q
 ·exact l _ s O H d e Q I g q
def rJ:cF X (.type "list") (λy H Q=>∃p f,y=[.ref p]/\(KA X.K H p f\/LK X.K H p f)/\∀l,H l=M->Q (.ref l) (upd H l (.lst f))):=by
 intro z s O H y B Q I r h;obtain⟨p,f,rfl,m,q⟩:=h;obtain⟨u,rfl,rx⟩:=vals1 r;cases rx;have fin:∀(t:List _),aN f _->f.length<=KM->∀(d:UF)(i:Nat),(∀b A,s.heap.get? b=Y A->d.get? b=Y A) →
   d.get? _=Y _->EP X _ O Q _ { s with heap:=d }:=λt g j d i kp e =>
  ⟨.ref _,_,I.laid kp (Zn _) (show cR _ _ _ d _ (.lst f) from⟨j,t,i,g,e⟩),rfl,q _ (I.D8.fresh (Zn _))⟩
 rcases m with m | m
 ·obtain⟨t,g,v,j⟩:=I.list m;have hlen:=g.length;obtain⟨o,w,x,n,hd⟩:=v.isList;exact call_list_seq p (.inl L) w x hd (λd i kp e=>fin _ g j d i kp e) (by simp_all)
 ·obtain⟨t,g,v,j⟩:=I.tuple m;have hlen:=g.length;obtain⟨o,w,x,n,hd⟩:=v;exact call_list_seq p (.inr L) w x hd (λd i kp e=>fin _ g j d i kp e) (by simp_all)
def pz:cF X (.type "tuple") (λj H Q=>∃p d,j=[.ref p]/\((KA X.K H p d/\∀l,H l=M->Q (.ref l) (upd H l (.tup d)))\/(LK X.K H p d/\Q (.ref p) H))):=by
 intro m s O H j w Q I r h;obtain⟨p,d,rfl,h⟩:=h;obtain⟨u,rfl,rx⟩:=vals1 r;cases rx;rcases h with⟨i,q⟩ | ⟨i,q⟩
 ·obtain⟨v,f,g,n⟩:=I.list i;have hlen:=f.length;refine call_tuple_list g.isList (λx kp=>?_) (by simp_all);have t:=I.kept (t':=s.toks) kp;exact⟨.ref _,_,(t.laid (t':=s.toks) (λb o e=>Zu _ e) (Zn _) (show cR _ _ _ _ _ (.tup d) from⟨n,_,f,QG.new _ _,IsTup.new _ _⟩)),rfl,q _ (t.D8.fresh (Zn _))⟩
 ·obtain⟨v,f,g,n⟩:=I.tuple i;exact call_tuple_same g ⟨.ref p,H,I,rfl,q⟩
def QL(K:Xd)(T:String)(x:V)(H:Hp):Prop:=match x with
 |.str _=>T = "str"
 |.int _=>T = "int"
 |.ref p=>(T = "list" ∧ ∃e,KA K H p e)\/(T = "tuple" ∧ ∃o,K.lookup p=Y o/\o.cls=.type "tuple" ∧ o.dict=M) ∨
   (T = "dict" ∧ ((∃d,H p=Y (.dK d))\/∃d,H p=Y (.dT d)))\/(T = "set" ∧ ∃S n,H p=Y (.set S n))
 |_=>False
def Fg(I:Inv X f O H s)(r:RelV x v)(g:QL X.K T x H) :
  s.TypeIs v T/\∀a,v=.ref a->∃j,s.heap.get? a=Y j/\j.dict=M:=by
 cases x with
 |str z =>
  obtain⟨t,rfl⟩:=r;cases (g);exact⟨Ws s z t,λ_ e=>nomatch e⟩
 |int i =>
  obtain⟨t,rfl⟩:=r;cases (g);exact⟨typeIs_int s i t,λ_ e=>nomatch e⟩
 |ref p =>
  cases r;rcases g with⟨rfl,u,m⟩ | ⟨rfl,o,d,q,hd⟩ | ⟨rfl,d⟩ | ⟨rfl,S,n,d⟩
  ·obtain⟨w,_,h,_⟩:=I.list m;refine⟨h.isList.typeIs,λa e=>?_⟩;cases e;obtain⟨o,n,e,c,hd,_⟩:=h;exact⟨o,e,hd⟩
  ·refine⟨⟨o,I.LR p o d,q⟩,λa e=>?_⟩;cases e;exact⟨o,I.LR _ o d,hd⟩
  ·have z:∃o,s.heap.get? p=Y o/\o.ExactDict:=by
    rcases d with⟨l,d⟩ | ⟨l,d⟩
    ·obtain⟨_,_,_,_,o,_,_,e,ex,_⟩:=I.D8 p _ d;exact⟨o,e,ex⟩
    ·obtain⟨_,_,_,_,o,_,_,e,ex,_⟩:=I.D8 p _ d;exact⟨o,e,ex⟩
   obtain⟨o,e,ex⟩:=z;refine⟨⟨o,e,ex.1⟩,λa e2=>?_⟩;cases e2;exact⟨o,e,ex.2.1⟩
  ·obtain⟨o,_,_,_,e,ex,_⟩:=I.D8 p _ d;refine⟨⟨o,e,ex.1⟩,λa e2=>?_⟩;cases e2;exact⟨o,e,ex.2.1⟩
 |_=>exact False.elim g
def tBM(K:Xd)(T:String)(r:V->List V->Hp->VK->Prop)(f:TE)(t:TA):TE:=λO H Q=>f O H λx d=>QL K T x d/\t O d λe g=>r x e g Q
def o9{X:Cx}{o:Expr}{es:List Expr}{to:TE}{t:TA}{name:Str}{apos cp:Pos}{T id:String}{r:V->List V->Hp->VK->Prop}(q:PlainAttrs T)(d:Slot T name id)(C:typeOf (.builtin id)=pure (.type "method_descriptor"))(y:SS X id r)(w:PE X o to)(z:PA X (e :: es) t)(D:{`q2,XAA o name X.env (eval o X.env)=eval o X.env})(G:{`q2,((backTo cp (P3 (e :: es) X.env)).all (λx=>!x.1)&&(backToKw cp (SL [] X.env)).all (λx=>x.1.isSome)
   && decide ((e :: es).length+([]:List Keyword).length+(if ([]:List Keyword).isEmpty then 0 else 1)<30))=J})(E:{`q2,(apos.endLine==cp.line)=J})(u:{`q2,K1 e es X})(F:{`q2,K2 cp es X}) :
  PE X (.Call (.Attribute o name apos) (e :: es) [] cp) (tBM X.K T r to t):=by
 intro g s O H Q I h;refine wpAny_Call_method_late D G E L (thn (w _ s O H _ I h) λv s1 f=>?_);obtain⟨x,R,j,r1,ty,q1⟩:=f;obtain⟨B,A⟩:=Fg j r1 ty;refine⟨T,id,q,d,C,B,A,?_⟩;have i:=z cp _ s1 O R _ j q1;rw[u]at i ⊢;refine Calls.callWith_builtin (by show (Z||(backTo _ _).any _)=Z;rw[F]<;>rfl) (WQ ?_);refine thn i λm n f=>?_;obtain⟨l,P,N,r2,p⟩:=f;exact y _ n O P x l v m Q N r1 r2 p
end
def MtM(X:Cx)(e:String)(r:V->List V->Hp->VK->Prop):Prop :=
 ∀(a:Ym)(s:KB)(O:St)(H:Hp)(x:V)(b:List V)(v:PP)(d:Wu)(Q:VK),Inv X a O H s->RelV x v->aN b d->r x b H Q →
  Pi (KF X.prog X.w) X.A (call (.builtin e) (v :: d)) (EP X a O Q) X.xe s
def aN.nil_inv(h:aN [] a):a=[]:=by
 cases h;rfl
def aN.cons_inv(h:aN (x :: a) d):∃u b,d=u :: b/\RelV x u/\aN a b:=by
 cases h with
 |cons r t=>exact⟨_,_,rfl,r,t⟩
def aN.one(h:aN [x] a):∃u,a=[u]/\RelV x u:=by
 obtain⟨u,b,rfl,r,t⟩:=h.cons_inv;rw[t.nil_inv];exact⟨_,rfl,r⟩
def aN.two(h:aN [x,y] a):∃u v,a=[u,v]/\RelV x u/\RelV y v:=by
 obtain⟨u,b,rfl,r,t⟩:=h.cons_inv;obtain⟨v,rfl,q⟩:=t.one;exact⟨_,_,rfl,r,q⟩
section
variable{H:Hp}
def Inv.TU{d a:Wu}(I:Inv X pins O H s)(o:H l=Y (.lst xs))(e:s.heap.get? l=Y { cls:=.type "list",data:=.seq d.toArray n })(m:f d.toArray=a.toArray)(i:aN ys a)(h:ys.length<=KM) :
  Inv X pins O (upd H l (.lst ys)) { s with heap:=s.heap.update l (Obj.mapSeq f),toks:=g }:=by
 have q:=PySem.IsL.update e f;rw[m]at q;refine I.write (x:=l) (e:=l) (by rw[o];exact trivial) (.inl L) (λp u hb j=>(ZO _ _ (Z9 hb)).trans j) ⟨_,q⟩ ?_;exact⟨h,_,_,i,q⟩
def Inv.lnew(I:Inv X pins O H s)(f:aN ys a)(e:ys.length<=KM) :
  Inv X pins O (upd H s.heap.objs.size (.lst ys)) { s with heap:=s.heap.push { cls:=.type "list",data:=.seq a.toArray },toks:=d } :=
 I.laid (λ_ _ q=>Zu _ q) (Zn _) ⟨e,_,0,f,Zh _ L⟩
theorem Inv.fresh(I:Inv X pins O H s):H s.heap.objs.size=M:=I.D8.fresh (Zn _)
def Inv.PZ(I:Inv X pins O H s)(d:H l=Y (.lst xs)):xs.length<=KM/\∃(a:Wu)(n:Nat),aN xs a/\xs.length=a.length/\s.heap.get? l=Y { cls:=.type "list",data:=.seq a.toArray n }:=by
 obtain⟨z,a,n,r,e⟩:=I.D8 l _ d;exact⟨z,_,n,r,r.length,e⟩
end
section
def xT:V->List V->Hp->VK->Prop:=λx b H Q=>∃l a y,x=.ref l/\b=[y]/\H l=Y (.lst a)/\a.length<KM/\Q .non (upd H l (.lst (a++[y])))
def gR:MtM X "list.append" xT:=by
 intro a s O H x m v o Q I rx d h;refine L2.ah λp g=>?_;obtain⟨l,j,y,rfl,rfl,b,i,q⟩:=h;cases rx;obtain⟨u,rfl,f⟩:=d.one;obtain⟨z,t,n,r,hl,e⟩:=I.PZ b;refine g ?_;refine call_meets F.slot_list_append ⟨_,e,rfl⟩ F.entry_list_append (F.args_list_append_2 _ _) (PySem.list_append l _ n u (by grind)) ⟨e,?_⟩;refine⟨.non,_,I.TU b e (by simp) (r.append (.cons f .nil)) ?_,rfl,q⟩;rw[Zp,ZN];exact Nat.succ_le_of_lt i
def Iy:R2:=λx y H Q=>∃l b d a,x=.ref l/\y=.ref b/\H l=Y (.lst d)/\H b=Y (.lst a)/\d.length+a.length<=KM/\∀p,H p=M->Q (.ref p) (upd H p (.lst (d++a)))
def GE:OpR X (binaryOp .Add) Iy:=by
 intro a s O H x y v u Q I rx g h;refine L2.ah λB i=>?_;obtain⟨l,b,t,o,rfl,rfl,j,hB,A,q⟩:=h;cases rx;cases g;obtain⟨z,f,n,r,hl,e⟩:=I.PZ j;obtain⟨p,d,w,r2,C,e2⟩:=I.PZ hB;refine i ?_;refine PySem.P.add_list e e2 ?_ (by simp_all);have m:f.toArray++d.toArray=(f++d).toArray:=by simp
 rw[m];exact⟨.ref _,_,I.lnew (r.append r2) (by simp_all),rfl,q _ I.fresh⟩
def len_rep{α:Type}(a:List α)(k:Nat):(List.replicate k a).flatten.length=k*a.length:=by
 simp_all
end
section
variable{A:SC}
set_option maxRecDepth 100000 in
end
section
variable{κ:Type}[DecidableEq κ]
noncomputable def gK(b:List (κ×V))(k:κ):Option V:=(b.find? λa=>decide (a.1=k)).map (·.2)
noncomputable def putK(b:List (κ×V))(k:κ)(v:V):List (κ×V) :=
 if (b.any λa=>decide (a.1=k))=J then b.map (λa=>if a.1=k then (a.1,v) else a) else b++[(k,v)]
def i8{p:κ×V}(e:p.1=k):gK (p :: r) k=Y p.2:=by simp[gK,ZD,e]
def oZ{p:κ×V}(e:¬p.1=k):gK (p :: r) k=gK r k:=by simp[gK,ZD,e]
theorem tV(k:κ):∀a:List (κ×V),(a.any λb=>decide (b.1=k))=(gK a k).isSome
 |[]=>rfl
 |p :: r=>by
  rw[XQ];by_cases e:p.1=k
  ·simp only[i8 e,decide_eq_true e,Bool.true_or,Option.isSome_some]
  ·rw[oZ e,decide_eq_false e,Bool.false_or];exact tV k r
def gC(a:List (κ×V))(k:κ)(v:V):(putK a k v).length<=a.length+1:=by
 unfold putK;split
 ·simp_all
 simp_all
def jy.K9(r:jy o u):o.isSome=u.isSome:=by
 cases o with
 |none=>cases u with
  |none=>rfl
  |some _=>exact(r).elim
 |some _=>cases u with
  |none=>exact(r).elim
  |some _=>rfl
theorem jy.getD{o:Option V}(r:jy o u)(b:RelV d a):RelV (o.getD d) (u.getD a):=by
 cases o with
 |none=>cases u with
  |none=>exact b
  |some _=>exact(r).elim
 |some _=>cases u with
  |none=>exact(r).elim
  |some _=>exact r
def KV.val(r:KV f d)(k:κ):jy (gK f k) (valueAt d k):=by
 induction r with
 |nil=>exact True.intro
 |@cons p q ps a h t i =>
  obtain⟨g,j⟩:=h;by_cases e:p.1=k
  ·have b:valueAt (q :: a) k=Y q.2:=by simp[valueAt,ZD,(g.symm.trans e)]
   rw[i8 e,b];exact j
  ·have l:¬q.1=k:=λz=>e (g.trans z);have b:valueAt (q :: a) k=valueAt a k:=by simp[valueAt,ZD,l]
   rw[oZ e,b];exact i
theorem KV.any(r:KV d b)(k:κ):(d.any λa=>decide (a.1=k))=b.any λa=>decide (a.1=k):=by
 induction r with
 |nil=>rfl
 |cons h t e=>simp_all
def KV.RC(r:KV d b)(k:κ)(f:RelV y u) :
  KV (d.map λa=>if a.1=k then (a.1,y) else a) (b.map λa=>if a.1=k then (a.1,u) else a):=by
 induction r with
 |nil=>exact .nil
 |@cons p q ps g h t e =>
  rw[Zg,Zg];refine .cons ?_ e;grind
def KV.put(r:KV d a)(k:κ)(b:RelV y u):KV (putK d k y) (stored a k u):=by
 unfold putK stored;rw[r.any k];by_cases e:(a.any λf=>decide (f.1=k))=J
 ·rw[Zm e,Zm e];exact r.RC k b
 ·rw[Zl e,Zl e];exact Paired.snoc r ⟨rfl,b⟩
def KV.keys{b:List (κ×V)}{a:List (κ×PP)}(r:KV b a):b.map (·.1)=a.map (·.1):=by
 induction r with
 |nil=>rfl
 |cons h t d=>simp_all
theorem KV.length{b:List (κ×V)}{a:List (κ×PP)}(r:KV b a):b.length=a.length:=Xc r
end
def mZ(r:RelV (kV k) u):(bg P w).is k u=J:=by
 cases k with
 |inl i=>obtain⟨t,e⟩:=(r);subst e;exact uH P w i t
 |inr x=>obtain⟨t,e⟩:=(r);subst e;exact ud P w x t
theorem qr:∀{a:List Key}{b:Wu},aN (a.map kV) b->ItemsAre (bg P w) a b
 |[],_,r=>by rw[List.map_nil]at r;cases r;exact .nil
 |k :: a,_,r=>by
  rw[Zg]at r;cases r with
  |cons h t=>exact .cons (mZ h) (qr t)
abbrev KT(H:Hp):List (List Key×V)->List (List Key×On×PP)->Prop:=Paired λp q=>p.1=q.1/\H q.2.1=Y (.tup (p.1.map kV))/\RelV p.2 q.2.2
def KT.val(r:KT H f d)(k:List Key):jy (gK f k) ((atKey d k).map (·.2)):=by
 induction r with
 |nil=>exact True.intro
 |@cons p q ps a h t i =>
  obtain⟨g,_,j⟩:=h;by_cases e:p.1=k
  ·have b:atKey (q :: a) k=Y q.2:=by simp[atKey,ZD,(g.symm.trans e)]
   rw[i8 e,b];exact j
  ·have l:¬q.1=k:=λz=>e (g.trans z);have b:atKey (q :: a) k=atKey a k:=by simp[atKey,ZD,l]
   rw[oZ e,b];exact i
def KT.RC(r:KT H f d)(k:List Key)(i:RelV y u) :
  KT H (f.map λb=>if b.1=k then (b.1,y) else b) (d.map (putAt k u)):=by
 induction r with
 |nil=>exact .nil
 |@cons p q ps m h t j =>
  rw[Zg,Zg];refine .cons ?_ j;obtain⟨a,g,l⟩:=h;unfold putAt;by_cases e:p.1=k
  ·rw[Zm e,Zm (a.symm.trans e)];exact⟨a,g,i⟩
  ·rw[Zl e,Zl (λz=>e (a.trans z))];exact⟨a,g,l⟩
def KT.put(r:KT H d a)(k:List Key)(h:H b=Y (.tup (k.map kV)))(f:RelV y u) :
  KT H (putK d k y) (storedH a k b u):=by
 have e:(d.any λg=>decide (g.1=k))=(atKey a k).isSome:=by
  rw[tV,(r.val k).K9,Y9]
 unfold putK storedH;rw[e];by_cases q:(atKey a k).isSome=J
 ·rw[Zm q,Zm q];exact r.RC k f
 ·rw[Zl q,Zl q];exact Paired.snoc r ⟨rfl,h,f⟩
def KT.keeps(r:KT H e d)(g:∀b a,H b=Y (.tup a)->f b=Y (.tup a)):KT f e d :=
 Paired.PU r λ_ _ z=>⟨z.1,g _ _ z.2.1,z.2.2⟩
section
variable{H:Hp}
def Ez(b:Lv P w H h)(e:Rd H a u):cR P w H h a u:=e.ok b
def mO(f:Lv P w H h)(e:Rd H a (.dK b)):b.length<=KM/\(a==sysModules)=Z/\∃d,KV b d/\h.DictOf (bg P w) a d :=
 Ez f e
def sO(f:Lv P w H h)(e:H a=Y (.dK b)):b.length<=KM/\(a==sysModules)=Z/\∃d,KV b d/\h.DictOf (bg P w) a d:=mO f (.inl e)
def dE{b:List Key}(d:Lv P w H h)(e:H a=Y (.tup (b.map kV))):(tupleKind (bg P w)).is h b a:=by
 obtain⟨_,j,r,_,o,i,g,n,f⟩:=(d a _ e)
 exact⟨o,_,n,i,g,f,by simpa using qr r⟩
def nS(g:Lv P w H h)(e:Rd H a (.dT f)):f.length<=KM/\(a==sysModules)=Z ∧
  ∃d,KT H f d/\h.DictOfH (tupleKind (bg P w)) a d:=by
 refine L2.ah λF j=>?_;obtain⟨z,y,d,r,o,C,D,B,A,v,u,s⟩:=(Ez g e)
 refine j ?_;refine⟨z,y,d,r,o,C,D,B,A,v,u,λx b=>?_,s⟩;have all:∀{l:List _}{m:List _},KT H l m->∀x∈m,(tupleKind (bg P w)).is h x.1 x.2.1:=by
  intro l m q
  induction q with
  |nil=>grind
  |@cons p q ps E i t n =>
   intro x b;rcases Zj.mp b with e | b
   ·subst e;exact dE g (by rw[← i.1];exact i.2.1)
   ·exact n x b
 exact all r x b
def II(f:Lv P w H h)(e:H a=Y (.dT b)):b.length<=KM/\(a==sysModules)=Z ∧
  ∃d,KT H b d/\h.DictOfH (tupleKind (bg P w)) a d:=nS f (.inl e)
end
def g9(H:Hp)(a:On)(y:V)(r:Option V):Prop :=
 (∃d k,Rd H a (.dK d)/\y=kV k/\r=gK d k)\/∃d k b,Rd H a (.dT d)/\y=.ref b/\H b=Y (.tup (k.map kV))/\r=gK d k
def uS(H:Hp)(a:On)(y v:V)(e:Hp):Prop :=
 (∃d k,H a=Y (.dK d)/\y=kV k/\d.length<KM/\e=upd H a (.dK (putK d k v))) ∨
 ∃d k b,H a=Y (.dT d)/\y=.ref b/\H b=Y (.tup (k.map kV))/\d.length<KM/\e=upd H a (.dT (putK d k v))
theorem g9.k{a:On}{b:List (Key×V)}{k:Key}(e:H a=Y (.dK b)):g9 H a (kV k) (gK b k):=.inl ⟨_,k,.inl e,rfl,rfl⟩
theorem uS.k{a:On}{b:List (Key×V)}{k:Key}{v:V}(e:H a=Y (.dK b))(d:b.length<KM):uS H a (kV k) v (upd H a (.dK (putK b k v))):=.inl ⟨_,k,e,rfl,d,rfl⟩
section
variable{H:Hp}{A:SC}
def Inv.big(I:Inv X pins O H s):sysModules<s.heap.objs.size:=by
 exact Xb (by decide) ((I.mod.glob.keeps I.bk).lt)
def yN(x:A.units+1<cLine)(I:Inv X pins O H s)(g:g9 H a y (Y v))(q:RelV y u)(h:∀d n,Inv X pins O H n->RelV v d->Q d n) :
  Pi (KF X.prog X.w) A (getItem (.ref a) u) Q E s:=by
 rcases g with⟨t,k,e,i,l⟩ | ⟨t,k,b,e,i,C,l⟩
 ·subst i;obtain⟨z,hd,F,rel,j⟩:=mO I.D8 e;obtain⟨d,hw,m⟩:=jy.some_of (v:=v) (by rw[l];exact rel.val k);exact wpAny_getItem_of (mZ q) j.mapOf hw (h d _ (I.tok _) m)
 ·subst i;cases (q);obtain⟨z,hd,D,rel,j⟩:=nS I.D8 e;obtain⟨d,hw,m⟩:=jy.some_of (v:=v) (by rw[l];exact rel.val k);obtain⟨p,B,f⟩:=Zy.mp hw;refine wpAny_getItem_heap (XX x) (dE I.D8 C) j B ?_;rw[f];exact h d _ (I.tok _) m
def JH(n:A.units+1<cLine)(I:Inv X pins O H s)(g:g9 H a y o)(j:RelV y u)(h:∀i,Inv X pins O H i->Q (.bool o.isSome) i) :
  Pi (KF X.prog X.w) A (SZ .In u (.ref a)) Q E s:=by
 rcases g with⟨m,k,e,d,l⟩ | ⟨m,k,b,e,d,p,l⟩
 ·subst d;obtain⟨z,hd,x,rel,f⟩:=mO I.D8 e;refine wpAny_in_of (mZ j) hd f.mapOf ?_;rw[← (rel.val k).K9,← l];exact h _ (I.tok _)
 ·subst d;cases (j);obtain⟨z,hd,t,rel,f⟩:=nS I.D8 e;refine wpAny_in_heap (XX n) (dE I.D8 p) hd f ?_;have q:=(rel.val k).K9;rw[Y9]at q;rw[← q,← l];exact h _ (I.tok _)
def Db8(n:A.units+1<cLine)(I:Inv X pins O H s)(g:g9 H a y o)(j:RelV y u)(h:∀i,Inv X pins O H i->Q (.bool (!o.isSome)) i) :
  Pi (KF X.prog X.w) A (SZ .NotIn u (.ref a)) Q E s:=by
 rcases g with⟨m,k,e,d,l⟩ | ⟨m,k,b,e,d,p,l⟩
 ·subst d;obtain⟨z,hd,x,rel,f⟩:=mO I.D8 e;refine wpAny_notIn_of (mZ j) hd f.mapOf ?_;rw[← (rel.val k).K9,← l];exact h _ (I.tok _)
 ·subst d;cases (j);obtain⟨z,hd,t,rel,f⟩:=nS I.D8 e;refine wpAny_notIn_heap (XX n) (dE I.D8 p) hd f ?_;have q:=(rel.val k).K9;rw[Y9]at q;rw[← q,← l];exact h _ (I.tok _)
def ni(I:Inv X pins O H s)(i:Kv (H a))(j:Heap.SameBut a s.heap d)(he:∃q,d.get? a=Y q)(g:cR X.prog X.w (upd H a f) d a f) :
  Inv X pins O (upd H a f) { s with heap:=d,toks:=h } :=
 I.write (x:=a) (e:=a) i (.inl L) (λb q hb z=>(j.2 b hb).trans z) he g
def rC{f:UF}{e:List (Key×V)}(z:e.length<=KM)(g:(a==sysModules)=Z)(d:KV e b)(h:f.DictOf (bg P w) a b) :
  cR P w i f a (.dK e):=⟨z,g,b,d,h⟩
def ye(G:A.units+1<cLine)(I:Inv X pins O H s)(g:uS H a y v D)(x:RelV y u)(B:RelV v r)(h:∀t,Inv X pins O D t->Q () t) :
  Pi (KF X.prog X.w) A (setItem (.ref a) u r) Q E s:=by
 rcases g with⟨i,k,e,m,l,n⟩ | ⟨i,k,b,e,m,C,l,n⟩
 ·subst m n;obtain⟨z,hd,vs,rel,p⟩:=sO I.D8 e;refine wpAny_setItem_pairs (hsz:=(by rw[← rel.length];exact z)) (mZ x) p λS f j=>h _ ?_;exact ni I (by rw[e];exact True.intro) j (let ⟨q,_,_,d,_⟩:=f;⟨q,d⟩) (rC (by have:=gC i k v;lia) hd (rel.put k B) f)
 ·subst m n;cases (x);obtain⟨z,hd,xs,rel,p⟩:=II I.D8 e;refine wpAny_setItem_heap (hsz:=(by rw[← Xc rel];exact z)) (XX G) (dE I.D8 C) p λS f j=>h _ ?_;refine L2.ah λP_ F=>?_;obtain⟨q,U,ep,d,R,P,N,_,L⟩:=f;refine F ?_;refine ni I (by rw[e];exact True.intro) j ⟨q,d⟩ ⟨(by have:=gC i k v;lia),hd,_,(rel.put k C B).keeps λc ys ec=>?_,q,U,ep,d,R,P,N,L⟩;rw[ay (HR ec e (λz=>nomatch z))];exact ec
end
section
variable{H:Hp}{A:SC}
def HQ(I:Inv X pins O H s)(e:Rd H a (.dK jj))(h:∀t b,Inv X pins O H b->Q (.int jj.length t) b):Pi (KF X.prog X.w) A (call (.builtin "len") [.ref a]) Q E s:=by
 obtain⟨z,hd,f,rel,d⟩:=mO I.D8 e;refine call_len_dict hd d (by rw[← rel.length];rw[Y8]at z;lia) ?_;rw[← rel.length];exact h _ _ (I.tok _)
end
def t7(I:Inv X d O H s)(g:g9 H a y o):s.TypeIs (.ref a) "dict" := by
 rcases g with⟨h,k,e,_,_⟩ | ⟨h,k,b,e,_,_,_⟩
 ·obtain⟨_,_,j,_,f⟩:=mO I.D8 e;exact f.typeIs
 ·obtain⟨_,_,i,_,f⟩:=nS I.D8 e;exact f.typeIs
def si{w:UV}(h:UF)(a:sysModules<h.objs.size):cR P w H (h.push { cls:=.type "dict",data:=.dict #[] }) h.objs.size (.dK []) :=
 ⟨Yt _,beq_eq_false_iff_ne.mpr (Z9 (Zi a)),[],.nil,Heap.DictOf.new h⟩
def G8:TE:=λ_ H Q=>∀p,H p=M->Q (.ref p) (upd H p (.dK []))
section
def A5:PE X (.Dict [] [] pos) G8:=λa s O H Q I h =>
 wpAny_Dict_empty ⟨.ref _,_,I.laid (λ_ _ q=>Zu _ q) (Zn _) (si _ I.big),rfl,h _ (I.D8.fresh (Zn _))⟩
end
noncomputable def uN:List (TE×TE)->St->Hp->(List (V×V)->Hp->Prop)->Prop
 |[],_,H,Q=>Q [] H
 | (b,a) :: r,O,H,Q=>b O H λx f=>a O f λy e=>uN r O e λps d=>Q ((x,y) :: ps) d
abbrev VV:List (V×V)->List (PP×PP)->Prop:=Paired λp q=>RelV p.1 q.1/\RelV p.2 q.2
def PPs(X:Cx)(e:Pos)(d:List (Option Expr))(a:List Expr)(i:List (TE×TE)):Prop :=
 ∀(b:Ym)(s:KB)(O:St)(H:Hp)(Q:List (V×V)->Hp->Prop),Inv X b O H s->uN i O H Q →
  Pi (KF X.prog X.w) X.A (evalPairs (pairTrees d a X.env e)) (λg h=>∃ps f,Inv X b O f h/\VV ps g/\Q ps f) X.xe s
def DG:PPs X a [] [] []:=λb s O H Q I h=>pairTrees_nil_walk ⟨[],H,I,.nil,h⟩
def An(q:PE X k e)(o:PE X v d)(p:PPs X a g b i) :
  PPs X a (Y k :: g) (v :: b) ((e,d) :: i):=λf s O H Q I h =>
 pairTrees_cons_walk (thn (q _ s O H _ I h) λu s1 ⟨x,B,w,rx,q1⟩=>thn (o _ s1 O B _ w q1) λD j ⟨y,A,t,l,n⟩ =>
  thn (p _ j O A _ t n) λC E ⟨ps,z,r,rel,m⟩=>⟨_,z,r,.cons ⟨rx,l⟩ rel,m⟩)
def rB(d a:List (Key×V)):List (Key×V):=a.foldl (λacc b=>putK acc b.1 b.2) d
def KV.merge:∀{more:List (Key×V)}{d:List (Key×PP)}{b:List (Key×V)}{a:List (Key×PP)},KV more d->KV b a->KV (rB b more) (merged a d):=by
 intro more d b a r
 induction r generalizing b a with
 |nil=>intro q;exact q
 |@cons p q ps i h t g =>
  intro f;have e:KV (putK b p.1 p.2) (stored a q.1 q.2):=by
   have:=f.put p.1 h.2;rw[← h.1];exact this
  exact g e
theorem jT:∀(more a:List (Key×V)),(rB a more).length<=a.length+more.length
 |[],a=>by exact Xq _ _
 |p :: r,a=>by
  have d:=jT r (putK a p.1 p.2);have b:=gC a p.1 p.2;show (rB _ r).length<=_;rw[Ze];lia
theorem oH{P:SB}{w:UV}:∀{e:List (Key×V)}{f:List (PP×PP)},VV (e.map λg=>(kV g.1,g.2)) f->∃d,Carries (bg P w) f d/\KV e d
 |[],_,r=>by rw[List.map_nil]at r;cases r;exact⟨[],True.intro,.nil⟩
 |p :: e,_,r=>by
  rw[Zg]at r;cases r with
  |@cons a b l bs h t =>
   obtain⟨d,c,q⟩:=oH (P:=P) (w:=w) t;obtain⟨j,i⟩:=b;exact⟨(p.1,i) :: d,⟨mZ h.1,rfl,c⟩,.cons ⟨rfl,h.2⟩ q⟩
def tW(e:List (TE×TE)):TE:=λO H Q=>∀p,H p=M->uN e O (upd H p (.dK [])) λps d=>d p=Y (.dK [])/\∃a:List (Key×V),ps=a.map (λb=>(kV b.1,b.2))/\a.length<=15/\Q (.ref p) (upd d p (.dK (rB [] a)))
def Db3(h:PPs X d a b j)(F:a.all (·.isSome)=J)(y:a.length=b.length)(C:a≠[])(f:a.length<=15):PE X (.Dict a b d) (tW j):=by
 intro g s O H Q I q;have G:=I.laid (t':=s.toks) (λ_ _ q=>Zu _ q) (Zn _) (si _ I.big);refine wpAny_Dict_walk (knd:=bg _ _) F y C f (thn (h _ _ O _ _ G (q _ (I.D8.fresh (Zn _)))) λL N A=>?_);obtain⟨ps,S,l,rel,e,u,D,lk,r⟩:=A;refine L2.ah λR t=>?_;subst D;obtain⟨n,c,o⟩:=oH (w:=X.w) rel;obtain⟨z,hd,m,p,E⟩:=sO l.D8 e;cases p;refine t ?_;refine⟨n,c,E,λP i v=>⟨.ref _,_,?_,rfl,r⟩⟩;exact ni l (by rw[e];exact True.intro) v (let ⟨q,_,_,x,_⟩:=i;⟨q,x⟩) (rC (by
  have B:=jT u [];rw[List.length_nil]at B;rw[Y8];lia) hd (o.merge .nil) i)
structure M1(X:Cx)(o:Expr)(m:Str)(apos:Pos)(e:Expr)(cp:Pos):Prop where
 base:XAA o m X.env (eval o X.env)=eval o X.env
 NH:((backTo cp (P3 [e] X.env)).all (λx=>!x.1)&&(backToKw cp (SL [] X.env)).all (λx=>x.1.isSome)
  && decide (([e]:List Expr).length+([]:List Keyword).length+(if ([]:List Keyword).isEmpty then 0 else 1)<30))=true
 line:(apos.endLine==cp.line)=true
 trees:backTo cp (P3 [e] X.env)=[(false,eval e X.env)]
structure M2(X:Cx)(o:Expr)(m:Str)(apos:Pos)(e f:Expr)(cp:Pos):Prop where
 base:XAA o m X.env (eval o X.env)=eval o X.env
 NH:((backTo cp (P3 [e,f] X.env)).all (λx=>!x.1)&&(backToKw cp (SL [] X.env)).all (λx=>x.1.isSome)
  && decide (([e,f]:List Expr).length+([]:List Keyword).length+(if ([]:List Keyword).isEmpty then 0 else 1)<30))=true
 line:(apos.endLine==cp.line)=true
 trees:backTo cp (P3 [e,f] X.env)=[(false,eval e X.env),(false,eval f X.env)]
def IsD(H:Hp)(a:On):Prop:=(∃b,Rd H a (.dK b))\/∃b,Rd H a (.dT b)
def Hl(I:Inv X g O H s)(d:IsD H a) :
  s.TypeIs (.ref a) "dict" ∧ (∀b,Value.ref a=.ref b->∃f,s.heap.get? b=Y f/\f.dict=M)/\(a==sysModules)=Z:=by
 rcases d with⟨l,e⟩ | ⟨l,e⟩
 ·obtain⟨_,hd,n,_,h⟩:=mO I.D8 e;refine⟨h.typeIs,λb q=>?_,hd⟩;cases q;obtain⟨f,_,_,j,i,_⟩:=h;exact⟨f,j,i.2.1⟩
 ·obtain⟨_,hd,m,_,h⟩:=nS I.D8 e;refine⟨h.typeIs,λb q=>?_,hd⟩;cases q;obtain⟨f,_,_,j,i,_⟩:=h;exact⟨f,j,i.2.1⟩
section
variable{H:Hp}{A:SC}
def Hi(t:A.units+1<cLine)(I:Inv X pins O H s)(g:g9 H a y o)(n:RelV y u)(h:∀j m,Inv X pins O H m->RelV (o.getD .non) j->Q j m) :
  Pi (KF X.prog X.w) A (call (.builtin "dict.get") [.ref a,u]) Q E s:=by
 rcases g with⟨q,k,e,i,l⟩ | ⟨q,k,b,e,i,v,l⟩
 ·subst i;obtain⟨z,hd,x,rel,f⟩:=mO I.D8 e;refine call_meetsIn Ww f.typeIs PySem.F.entry_dict_get (PySem.F.args_dict_get_2 _ _) (meets_dict_get _ a (mZ n) hd) ⟨_,f.mapOf,h _ _ (I.tok _) ?_⟩;rw[l];exact(rel.val k).getD L
 ·subst i;cases (n);obtain⟨z,hd,p,rel,f⟩:=nS I.D8 e;refine call_meetsIn Ww f.typeIs PySem.F.entry_dict_get (PySem.F.args_dict_get_2 _ _) (meetsH_dict_get _ a b hd) ⟨XX t,k,p,dE I.D8 v,f,h _ _ (I.tok _) ?_⟩;rw[l];exact(rel.val k).getD L
end
def Gk(f e:TE):TE:=λO H Q=>f O H λx d=>∃a,x=.ref a/\IsD d a/\e O d λy b=>∃o,g9 b a y o/\Q (o.getD .non) b
section
def zZ{X:Cx}(p:X.A.units+1<cLine)(q:PE X o td)(he:PE X e ty)(m:M1 X o "get" apos e cp):PE X (.Call (.Attribute o "get" apos) [e] [] cp) (Gk td ty):=by
 intro b s O H Q I h;refine wpAny_Call_method m.base m.NH m.line PySem.F.plainAttrs_dict Ww PySem.F.type_dict_get (thn (q _ s O H _ I h) λu s1 r=>?_);obtain⟨x,B,i,rx,a,ex,d,q1⟩:=r;subst ex;obtain rfl:u=Value.ref a:=rx;obtain⟨j,t2,_⟩:=Hl i d;refine⟨j,t2,?_⟩;rw[m.trees];refine Calls.callWith_builtin L (WQ (Calls.spliced_cons (thn (he _ s1 O B _ i q1) λiv E ⟨y,z,w,l,G,g,n⟩=>Calls.spliced_nil ?_)));exact Hi p w g l λC D v t=>⟨_,z,v,t,n⟩
end
end L2
namespace Att
open PySem PySem.W PySem.Calls PyProof.Rows
def nc:∀(ns:W0)(d:Wu),WellAll P h d (ns.map WData.int)->IntsAre d ns:=by
 intro ns
 induction ns with
 |nil =>
  intro d w;rw[List.map_nil]at w;cases w;exact .nil
 |cons n ns e =>
  intro d w;rw[Zg]at w;cases w with
  |cons a b =>
   cases a;exact .cons _ _ (e _ b)
def ya{l:OpenLaw}(p:l.most=Y n)(i:l.row.toRowW.claim.pre b=J)(v:WellAll P h e b) :
  ∃a f ns,e=[Value.ref a]/\b=[WData.list (ns.map WData.int)]/\h.get? a=Y { cls:=.type "list",data:=.seq f.toArray }/\IntsAre f ns/\ns.length<=n:=by
 have q:l.pre.holds [] _=J:=(pre_splitW i).2;obtain⟨d,r,rfl,u,t⟩:=hasAllW_cons ((pre_splitW i).1);obtain rfl:=hasAllW_nil t;obtain⟨x,rfl,s⟩:=hasW_list u;obtain⟨ns,rfl⟩:=items_int s;have hlen:ns.length<=n:=by
  have y:=condW_of (by
   have g:=(holds_andW q).1;rw[p]at g;exact g) (w_not (w_lt w_lit (w_len_list (w_arg L))))
  grind
 cases v with
 |cons m j =>
  cases j;cases m with
  |list o w=>exact⟨_,_,ns,rfl,rfl,o,nc ns _ w,hlen⟩
def yw(l:OpenLaw)(a:List WData):l.row.toRowW.claim.post a (.bool J) a=J :=
 postW_of
  (by first | rfl | decide | simp[WShape.has,WShape.arms,WShape.armsAll])
  (w_eq_bool (w_res L) w_lit) L
def tM{l:OpenLaw}{d:DefRec}(z:l.most=some n)(N:d.params.defaults=[])(i:∀(w:UV)(p e:KB)(mg mb:X4)(h:On)(o:Obj)(pm cd doc:PP)(a:On)(g:Wu)(ns:W0),
   Ground q b [] v w p mg mb e.heap->u w e.heap →
   e.heap.get? h=some o->o.data=.func (docDef d.name d.params d.body d.scope pm cd doc)->e.heap.CodeRec cd d.name->mg d.name=some (.ref h) →
   e.heap.get? a=some { cls:=.type "list",data:=.seq g.toArray }->IntsAre g ns->ns.length<=n->e.gens=#[] →
   codeAny (KF l.prog w) callerA (.call (.ref h) ⟨[.ref a],[]⟩) (λr j=>r=.ok (.ret (.bool J))/\OldK e.heap j.heap/\j.os=e.os/\AllBare j.gens) e) :
  WalkO q b v u l.row.toRowW d [] (λf g=>PySem.call f g):=by
 intro w p e mg mb G Y h o pm cd doc E kV y hd O t m hg args vals P L s Q F A;obtain rfl:E=.none:=Dflts.none t N;obtain rfl:kV=.none:=Dflts.noKw t;obtain⟨a,g,ns,rfl,rfl,H,hints,hlen⟩:=ya z L F;refine enter_call (Xy (i w _ _ mg mb h o pm cd _ a g ns G Y y (fd_plain hd) O m H hints hlen hg) λr j x=>?_);obtain⟨rfl,D,C,B⟩:=x;exact⟨.inl ⟨_,_,[],rfl,λ_=>rfl,.bool _,yw l _,λ_=>⟨List.Pairwise.nil,λ_ hm=>(nomatch hm)⟩⟩,D,C,B⟩
end Att
namespace L2
open PySem PySem.Spec PyProof.Rows
theorem mD:∀{a:Wu}{ns:W0},IntsAre a ns->aN (ns.map V.int) a
 |_,_,.nil=>.nil
 |_,_,.cons n t h=>.cons ⟨t,rfl⟩ (mD h)
noncomputable def inClass(s:Stmt)(j:Nat):Stmt:=match s with
 |.ClassDef _ _ _ body _ _ _ _ _ _ _=>body.getD j (.Pass ⟨0,0,0,0⟩)
 |_=>.Pass ⟨0,0,0,0⟩
noncomputable def c8(s:Stmt):Arguments:=match s with
 |.FunctionDef _ a _ _ _ _ _ _ _ _=>a
 |_=>{ posonlyargs:=[],args:=[],vararg:=M,kwonlyargs:=[],kw_defaults:=[],kwarg:=M,defaults:=[] }
noncomputable def aT(s:Stmt):List Stmt:=match s with
 |.FunctionDef _ _ b _ _ _ _ _ _ _=>b
 |_=>[]
def ak(s:Stmt):Scope:=match s with
 |.FunctionDef _ _ _ _ _ _ sc _ _ _=>sc
 |_=>{ kind:=.function,names:=[],isGenerator:=Z,isCoroutine:=Z }
noncomputable abbrev Lc:OI:=λ_ _ _ _ _ _=>False
noncomputable abbrev E0:XK:=λ_ _ _=>False
def pI{X:Cx}:kD Lc X E0:=λ_ _ _ _ _ _ _ h=>h.elim
structure Ku(K:Xd)(x qual:Str)(st:Stmt)(f:On)(fd:Re):Prop where
 ex:∃(oc:PP)(od:Option On)(kV doc pm:PP)(an:Option On)(Kr ct:PP)(Oz:Array (Wb)),
  fd=PySem.W.fnOf x qual (c8 st) (aT st) (ak st) .none kV doc pm an Kr ct/\K.lookup f=some ⟨oc,od,.func fd,Oz⟩/\PySem.W.codeIn K Kr qual=true
 kp:PySem.W.keepIn K (.ref f)=true
section
variable{K:Xd}
def Ku.ok(F:Ku K x a d f l)(S:bt N g (ak d))(i:∀b H Q E,e b H Q E->b.length=g.length)(o:∀(j:PP)(A:SC)(outer:List Env)(s:KB)(H:Hp)(b:List V)(Q:VK)(E:XK),D6 k (A.deeper (envOfC a (ak d) s.heap.objs.size f j))->e b H Q E →
   ∃t,Mr (gP Lc P w K mg base N a (ak d) f j A outer s H E).L6 (aT d) t/\t { nx:=λ_ r=>Q .non r,rt:=Q } (start N b) H):FnOk P w K mg base Lc (k+1) f l g e:=by
 obtain⟨oc,u,kV,doc,pm,an,j,ct,v,rfl,lk,p⟩:=F.ex;refine Ak lk p S i λA outer s H b Q E m n=>?_;obtain⟨t,h,q⟩:=o _ A _ s H b Q E m n;exact⟨t,h.L6,q⟩
def Ku.binds{e:List Str}(F:Ku K x a b f g)(h:∀(kV doc pm:PP)(an:Option On)(i ct:PP)(d:Wu),d.length=e.length->bindArgs (PySem.W.fnOf x a (c8 b) (aT b) (ak b) .none kV doc pm an i ct) ⟨d,[]⟩=pure (e.zip d)):Binds K g e []:=by
 obtain⟨oc,j,kV,doc,pm,an,i,ct,l,rfl,lk,m⟩:=F.ex;exact .all (h kV _ pm an _ ct)
def AD{st:Stmt}(l:K.lookup f=Y ⟨m,j,.func (PySem.W.fnOf x a (c8 st) (aT st) (ak st) .none e b d h i g),n⟩)(c:PySem.W.codeIn K i a=J)(k:PySem.W.keepIn K (.ref f)=J):Ku K x a st f (PySem.W.fnOf x a (c8 st) (aT st) (ak st) .none e b d h i g):=⟨⟨m,j,e,_,d,h,_,g,_,rfl,l,c⟩,k⟩
end
def jN(a:D6 k A):A.units+1<cLine:=XD (Nat.add_le_add_left (by decide:1<=64) _) a.units
section
def pv{X:Cx}(i:Nat)(e:{`q2,X.N[i]?=Y x})(b:{`q5,Ni X.env.scope x})(d:{`q1,K3 x})(f:{`q1,K4 x}):PE X (.Name x a) (Iq i):=dS e b d f
end
def uZ{A B:Prop}(h:B):if Z=J then A else B:=by
 grind
def uL{A B:Prop}(h:A):if J=J then A else B:=by
 rw[Zm L];exact h
noncomputable def aG(H a:Hp):Prop:=∀b o,H b=Y o->a b=Y o
def aG.refl(H:Hp):aG H H:=λ_ _ h=>h
def aG.trans{e:Hp}(a:aG H e)(b:aG e d):aG H d:=λc o h=>b c o (a c o h)
def aG.free(e:aG H a)(h:a l=M):H l=M:=by
 cases q:H l with
 |none=>rfl
 |some o =>
  rw[e l o q]at h;cases h
def aG.seq{K:Xd}(e:aG H d)(h:KA K H a b):KA K d a b:=by
 rcases h with (h | ⟨o,h⟩) | h
 ·exact .inl (.inl (e _ _ h))
 ·exact .inl (.inr ⟨o,e _ _ h⟩)
 ·exact .inr h
end L2
end
section
namespace L2
open PySem PySem.Spec PyProof.Rows
abbrev pq:=List (List Key)
def hN(w:UV)(k:pq):Int:=reduceHash (Builtin.Tuple.tupleHashOf (k.map λx=>reduceHash (Builtin.Tuple.tupleHashOf (x.map (ID w)))))
def JV(w:UV)(x:pq×On×PP):DictEntry:=⟨hN w x.1,.ref x.2.1,x.2.2⟩
abbrev KN:List (pq×On×V)->List (pq×On×PP)->Prop:=Paired λp q=>p.1=q.1/\p.2.1=q.2.1/\RelV p.2.2 q.2.2
def DN(a:On)(d:List (pq×On×V)):HO:=.ext λw h=>d.length<=KM/\(a==sysModules)=Z/\∃b:List (pq×On×PP),KN d b ∧
 ∃o e f,h.get? a=Y o/\o.ExactDict/\o.data=.dict e f/\e.toList=b.map (JV w)/\(b.map (·.1)).Nodup
def VT(H:Hp)(k:pq)(b:On):Prop:=∃a:X6,H b=Y (.tup (a.map V.ref))/\Paired (λ(x:List Key) (c:On)=>H c=Y (.tup (x.map kV))) k a
def VT.mono{k:pq}(x:VT H k b)(t:∀a d,H a=Y (.tup d)->e a=Y (.tup d)):VT e k b:=by
 obtain⟨f,h,r⟩:=x;exact⟨f,t _ _ h,Paired.PU r λ_ _ z=>t _ _ z⟩
end L2
end
section
namespace VS
open PySem PySem.Spec PyProof.Rows L2
noncomputable def sx(s:Tx):Str:=⟨s.toArray⟩
def pC(s:Tx):Prop:=s.length<=fB/\∀c∈s,c<1114112
noncomputable abbrev Me:=Nat->Option V
structure Gx where
 K:Xd
 ct:Nat->On×(Nat->Str)
 me:Me:=λ_=>none
 ec:Nat->Addr:=λ_=>0
noncomputable def Gx.at(G:Gx)(m:Me):Gx:=⟨G.K,G.ct,m,G.ec⟩
noncomputable def bf:Key->T
 |.inl i=>.int i
 |.inr x=>.str x.cps.toList
def nkT(k:pq):T:=.tup (k.map λx=>T.tup (x.map bf))
def k8(K:Xd)(H:Hp)(a:On)(d:W0):Prop :=
 (∃o,H a=Y (.frz o (.lst (d.map V.int)))) ∨
  ∃(o:Obj)(b:Array PP)(n:Nat),K.lookup a=Y o/\o.cls=.type "list" ∧ o.dict=M/\o.data=.seq b n/\b.size<=KM/\aN (d.map V.int) b.toList
mutual
inductive Rp(G:Gx)(H:Hp):V->T->X6->Prop
 |non:Rp G H .non .non []
 |bl (b:Bool):Rp G H (.bl b) (.bl b) []
 |int (i:Int):Rp G H (.int i) (.int i) []
 |str (s:Tx):pC s->Rp G H (.str (sx s)) (.str s) []
 |scr {a:On} {ns:W0}:k8 G.K H a ns->Rp G H (.ref a) (.scr ns) []
 |tup {a:On} {vs:List V} {ts:W7} {Fs:Ye}:H a=some (.tup vs)->RpL G H vs ts Fs->Rp G H (.ref a) (.tup ts) Fs.flatten
 |lst {a:On} {vs:List V} {ts:W7} {Fs:Ye}:H a=some (.lst vs)->RpL G H vs ts Fs->Rp G H (.ref a) (.lst ts) (a :: Fs.flatten)
 |dct {a:On} {ks:List Key} {vs:List V} {ts:W7} {Fs:Ye}:H a=some (.dK (ks.zip vs))->ks.length=vs.length->RpL G H vs ts Fs->Rp G H (.ref a) (.dct 0 ((ks.map bf).zip ts)) (a :: Fs.flatten)
 |dctT {a:On} {ks:List (List Key)} {vs:List V} {ts:W7} {Fs:Ye}:H a=some (.dT (ks.zip vs))->ks.length=vs.length->RpL G H vs ts Fs->Rp G H (.ref a) (.dct 1 ((ks.map λk=>T.tup (k.map bf)).zip ts)) (a :: Fs.flatten)
 |dctN {a:On} {ks:List (pq×On)} {vs:List V} {ts:W7} {Fs:Ye}:H a=some (DN a ((ks.zip vs).map λp=>(p.1.1,p.1.2,p.2)))->ks.length=vs.length->(∀p∈ks,VT H p.1 p.2)->RpL G H vs ts Fs->Rp G H (.ref a) (.dct 2 ((ks.map λp=>nkT p.1).zip ts)) (a :: Fs.flatten)
 |dctZ {a:On} {o:Obj} {ks:List Key} {vs:List V} {ts:W7} {Fs:Ye}:H a=some (.frz o (.dK (ks.zip vs)))->ks.length=vs.length->RpL G H vs ts Fs->Rp G H (.ref a) (.dct 3 ((ks.map bf).zip ts)) Fs.flatten
 |exc {c:Nat} {a:On} {o:Obj}:H a=some (.frz o (.own a))->(o.cls=.ref (G.ec c)/\o.dict=none/\∃vs,o.data=.fields vs)->Rp G H (.ref a) (.obj c []) []
 |ins {c:Nat} {a dx:On} {b:Bool} {ks:Wa} {vs:List V} {ts:W7} {Fs:Ye}:H a=some (.ins (G.ct (c+1)).1 dx ((ks.map (G.ct (c+1)).2).zip vs))->ks.length=vs.length->(b=true->G.me 0=some (.ref a))->RpL G H vs ts Fs->Rp G H (.ref a) (.obj (c+1) ((0,.bl b) :: ks.zip ts)) (a :: Fs.flatten)
 |mk {m:Nat} {a:On} {t:T} {F:X6}:G.me m=some (.ref a)->Rp G H (.ref a) t F->Rp G H (.ref a) (.obj 0 [(0,.bl true),(m,t)]) F
inductive RpL(G:Gx)(H:Hp):List V->W7->Ye->Prop
 |nil:RpL G H [] [] []
 |cons {v:V} {t:T} {F:X6} {vs:List V} {ts:W7} {Fs:Ye}:Rp G H v t F->RpL G H vs ts Fs->RpL G H (v :: vs) (t :: ts) (F :: Fs)
end
def RpI(G:Gx)(H:Hp)(v:V)(F:X6):T->Prop
 |.non=>v=.non
 |.bl b=>v=.bl b
 |.int b=>v=.int b
 |.str b=>v=.str (sx b)/\pC b
 |.scr l=>∃a,v=.ref a/\F=[]/\k8 G.K H a l
 |.tup l=>∃a e f,v=.ref a/\F=f.flatten/\H a=Y (.tup e)/\RpL G H e l f
 |.lst l=>∃a e f,v=.ref a/\F=a :: f.flatten/\H a=Y (.lst e)/\RpL G H e l f
 |.dct d l=>match d with
  |0=>∃(a:On)(g:List Key)(e:List V)(h:W7)(f:Ye),v=.ref a/\F=a :: f.flatten/\H a=Y (.dK (g.zip e))/\g.length=e.length/\l=(g.map bf).zip h/\RpL G H e h f
  |3=>∃(a:On)(o:Obj)(g:List Key)(e:List V)(h:W7)(f:Ye),v=.ref a/\F=f.flatten/\H a=Y (.frz o (.dK (g.zip e)))/\g.length=e.length/\l=(g.map bf).zip h/\RpL G H e h f
  |_=>True
 |.obj c fs=>match c,fs with
  |c+1,q0 :: fs=>∃(i:Nat)(a j:On)(b:Bool)(g:Wa)(e:List V)(h:W7)(f:Ye),c+1=i+1/\v=.ref a/\q0=(0,.bl b)/\fs=g.zip h/\F=a :: f.flatten/\H a=Y (.ins (G.ct (i+1)).1 j ((g.map (G.ct (i+1)).2).zip e))/\g.length=e.length/\(b=J->G.me 0=Y (.ref a))/\RpL G H e h f
  |0,fs=>∀m t,fs=[(0,.bl J),(m,t)]->∃a,v=.ref a/\G.me m=Y (.ref a)/\Rp G H (.ref a) t F
  |_,_=>True
def Rp.inv(r:Rp G H v t F):RpI G H v F t:=by
 cases r with
 |str s h=>exact⟨rfl,h⟩
 |scr h=>exact⟨_,rfl,rfl,h⟩
 |tup h q=>exact⟨_,_,_,rfl,rfl,h,q⟩
 |lst h q=>exact⟨_,_,_,rfl,rfl,h,q⟩
 |dct h hl q=>exact⟨_,_,_,_,_,rfl,rfl,h,hl,rfl,q⟩
 |dctZ h hl q=>exact⟨_,_,_,_,_,_,rfl,rfl,h,hl,rfl,q⟩
 |@exc c=>exact Nat.casesOn (motive:=λc=>RpI G H _ [] (.obj c [])) c (λ_ _ e=>nomatch e) λ_=>trivial
 |ins h l m q=>exact⟨_,_,_,_,_,_,_,_,rfl,rfl,rfl,rfl,rfl,h,l,m,q⟩
 |mk h q=>exact λ_ _ e=>by simp_all
 |dctT _ _ _=>trivial
 |dctN _ _ _ _=>trivial
 |_=>rfl
structure Kept(H H':Hp):Prop where
 tup:∀a xs,H a=some (.tup xs)->H' a=some (.tup xs)
 frz:∀a o u,H a=some (.frz o u)->H' a=some (.frz o u)
def Kept.refl(H:Hp):Kept H H:=⟨λ_ _ h=>h,λ_ _ _ h=>h⟩
def Kept.trans{e:Hp}(a:Kept H e)(b:Kept e d):Kept H d:=⟨λc x h=>b.tup c x (a.tup c x h),λc o u h=>b.frz c o u (a.frz c o u h)⟩
def Kept.of(e:aG H b):Kept H b:=⟨λa _ h=>e a _ h,λa _ _ h=>e a _ h⟩
theorem Kept.upd(f:Kv (H a)\/H a=M):Kept H (upd H a o):=by
 have ne:∀b u,H b=Y u->¬Kv (Y u)->b≠a:=λb u h nm e=>by
  grind
 exact⟨λb d h=>by rw[ay (ne b _ h λz=>z)];exact h,λb o u h=>by rw[ay (ne b _ h λz=>z)];exact h⟩
def k8.kept{K:Xd}(h:k8 K H a b)(k:Kept H d):k8 K d a b:=by
 rcases h with⟨o,e⟩ | h
 ·exact .inl ⟨o,k.frz _ _ _ e⟩
 ·exact .inr h
def k8.seq{K:Xd}(h:k8 K H a b):KA K H a (b.map V.int):=by
 rcases h with⟨o,e⟩ | h
 ·exact .inl (.inr ⟨o,e⟩)
 ·exact .inr h
def tj{H d:Hp}{a:On}{F:X6}(f:∀b∈a :: F,∀o,H b=Y o->d b=Y o):∀b∈F,∀o,H b=Y o->d b=Y o:=λb m=>f b (Zw _ m)
def wZ{H a:Hp}{F:X6}{d:Ye}(f:∀b∈(F :: d).flatten,∀o,H b=Y o->a b=Y o):(∀b∈F,∀o,H b=Y o->a b=Y o)/\∀b∈d.flatten,∀o,H b=Y o->a b=Y o:=by
 simp_all
def Rp.keep(k:Kept H e)(r:Rp G H v t F):(∀a∈F,∀o,H a=Y o->e a=Y o)->Rp G e v t F :=
 Rp.rec (motive_2:=λj q g _=>(∀a∈g.flatten,∀o,H a=Y o->e a=Y o)->RpL G e j q g)
  (λ_=>.non) (λb _=>.bl b) (λi _=>.int i) (λs h _=>.str s h) (λh _=>.scr (h.kept k)) (λh _ d f=>.tup (k.tup _ _ h) (d f)) (λh _ d f=>.lst (f _ Zv _ h) (d (tj f))) (λh l _ d f=>.dct (f _ Zv _ h) l (d (tj f))) (λh l _ d f=>.dctT (f _ Zv _ h) l (d (tj f)))
  (λh l n _ d f=>.dctN (f _ Zv _ h) l (λp m=>(n p m).mono k.tup) (d (tj f))) (λh l _ d f=>.dctZ (k.frz _ _ _ h) l (d f)) (λh x _=>.exc (k.frz _ _ _ h) x) (λh l m _ d f=>.ins (f _ Zv _ h) l m (d (tj f))) (λh _ d f=>.mk h (d f)) (λ_=>.nil) (λ_ _ w u f=>.cons (w (wZ f).1) (u (wZ f).2)) r
theorem RpL.keep(k:Kept H g):∀{e:List V}{b:W7}{d:Ye},RpL G H e b d->(∀a∈d.flatten,∀o,H a=Y o->g a=Y o)->RpL G g e b d:=by
 intro e b
 induction b generalizing e with
 |nil=>intro d r f;cases r;exact .nil
 |cons t b h =>
  intro d r f;cases r with
  |cons r q=>exact .cons (r.keep k (wZ f).1) (h q (wZ f).2)
def Rp.same{G:Gx}{H:Hp}(e:aG H b)(r:Rp G H v t F):Rp G b v t F:=r.keep (Kept.of e) λa _ o h=>e a o h
def RpL.same{G:Gx}{H:Hp}(e:aG H b)(r:RpL G H v t F):RpL G b v t F:=r.keep (Kept.of e) λa _ o h=>e a o h
def zf{H:Hp}{a:On}{F:X6}(h:Kv (H a))(d:∀b∈F,Kv (H b)):∀b∈a :: F,Kv (H b):=λb m=>(Zj.mp m).elim (λe=>e ▸ h) (d b)
def zW{H:Hp}{a:On}{o:HO}(h:H a=Y o)(m:Kv (Y o)):Kv (H a):=by rw[h];exact m
def Iu{H:Hp}{F:X6}{a:Ye}(e:∀b∈F,Kv (H b))(d:∀b∈a.flatten,Kv (H b)):∀b∈(F :: a).flatten,Kv (H b):=λb m=>by
 grind
def Rp.KC(r:Rp G H v t F):∀a∈F,Kv (H a) :=
 Rp.rec
  (λ_ m=>nomatch m) (λ_ _ m=>nomatch m) (λ_ _ m=>nomatch m) (λ_ _ _ m=>nomatch m) (λ_ _ m=>nomatch m) (λ_ _ b=>b) (λh _ b=>zf (zW h True.intro) b) (λh _ _ b=>zf (zW h True.intro) b) (λh _ _ b=>zf (zW h True.intro) b)
  (λh _ _ _ b=>zf (zW h True.intro) b) (λ_ _ _ b=>b) (λ_ _ _ m=>nomatch m) (λh _ _ _ b=>zf (zW h True.intro) b) (λ_ _ b=>b) (λ_ m=>nomatch m) (λ_ _ e d=>Iu e d) r
theorem RpL.KC:∀{e:List V}{b:W7}{d:Ye},RpL G H e b d->∀a∈d.flatten,Kv (H a):=by
 intro e b
 induction b generalizing e with
 |nil=>intro d r;cases r;exact λ_ m=>nomatch m
 |cons t b f =>
  intro d r;cases r with
  |cons r q=>exact Iu r.KC (f q)
def Kv.pe(m:Kv o):o≠M:=λe=>by subst e;exact m
def HW{b:Ye}(e:VS.Ko t=J->F=[])(d:VS.fD a=J->b.flatten=[])(i:VS.fD (t :: a)=J):(F :: b).flatten=[]:=by
 have i:=ZZ.mp i;rw[Yg,e i.1,d i.2];rfl
theorem Rp.Ko(r:Rp G H v t F):VS.Ko t=J->F=[] :=
 Rp.rec
  (λ_=>rfl) (λ_ _=>rfl) (λ_ _=>rfl) (λ_ _ _=>rfl) (λ_ _=>rfl) (λ_ _ a i=>a i) (λ_ _ _ i=>absurd (i) Za) (λ_ _ _ _ i=>absurd (i) Za) (λ_ _ _ _ i=>absurd (i) Za)
  (λ_ _ _ _ _ i=>absurd (i) Za) (λ_ _ _ _ i=>absurd (i) Za) (λ_ _ _=>rfl) (λ_ _ _ _ _ i=>absurd (i) Za) (λ_ _ _ i=>absurd (i) Za) (λ_=>rfl) (λ_ _ d b i=>HW d b i) r
theorem RpL.Ko:∀{d:List V}{a:W7}{b:Ye},RpL G H d a b->VS.fD a=J->b.flatten=[]:=by
 intro d a
 induction a generalizing d with
 |nil=>intro b r i;cases r;exact rfl
 |cons t a e =>
  intro b r i;cases r with
  |cons r q=>exact HW r.Ko (e q) i
def RpL.len:∀{b:List V}{a:W7}{d:Ye},RpL G H b a d->b.length=a.length/\d.length=a.length:=by
 intro b a
 induction a generalizing b with
 |nil=>intro d r;cases r;exact⟨rfl,rfl⟩
 |cons t a e =>
  intro d r;cases r with
  |cons r q=>exact⟨congrArg _ (e q).1,congrArg _ (e q).2⟩
theorem RpL.get{G:Gx}:∀{a:List V}{b:W7}{d:Ye}(i:Nat){t:T},RpL G H a b d->b[i]?=Y t->∃v F,a[i]?=Y v/\d[i]?=Y F/\Rp G H v t F
 |_,_,_,_,_,.nil,e=>by simp at e
 |_,_,_,0,_,.cons r _,e=>by
  simp_all
 |_,_,_,i+1,_,.cons _ q,e=>by
  obtain⟨v,F,h,g,f⟩:=RpL.get i q (by simpa using e)
  simp_all
def RpL.append:∀{b:List V}{a:W7}{f:Ye}{d:List V}{e:W7}{Gs:Ye},RpL G H b a f->RpL G H d e Gs->RpL G H (b++d) (a++e) (f++Gs):=by
 intro b a
 induction a generalizing b with
 |nil=>intro f d e Gs r s;cases r;exact s
 |cons t a g =>
  intro f d e Gs r s;cases r with
  |cons r q=>exact .cons r (g q s)
theorem RpL.take:∀{a:List V}{b:W7}{d:Ye}(n:Nat),RpL G H a b d->RpL G H (a.take n) (b.take n) (d.take n)
 |_,_,_,0,_=>by simpa using RpL.nil
 |_,_,_,n+1,.nil=>.nil
 |_,_,_,n+1,.cons r q=>.cons r (RpL.take n q)
theorem RpL.drop:∀{a:List V}{b:W7}{d:Ye}(n:Nat),RpL G H a b d->RpL G H (a.drop n) (b.drop n) (d.drop n)
 |_,_,_,0,q=>q
 |_,_,_,n+1,.nil=>.nil
 |_,_,_,n+1,.cons r q=>RpL.drop n q
noncomputable def jQ:Cell->T
 |.pu t=>t
 |.ow t=>t
noncomputable abbrev Kn:=Nat->X6
structure SR(G:Gx)(D:Kn)(U:VS.Env)(O:L2.St)(H:Hp):Prop where
 len:U.length=O.length
 rp:∀i c,U[i]?=some (some c)->∃v,O[i]?=some (some v)/\Rp G H v (jQ c) (D i)
 nd:∀i t,U[i]?=some (some (.ow t))->(D i).Nodup
 sep:∀i j t c,U[i]?=some (some (.ow t))->U[j]?=some (some c)->i≠j->∀a∈D i,a∉D j
noncomputable def c9(D:Kn)(U:VS.Env)(a:On):Prop:=∃j t,U[j]?=Y (Y (.pu t))/\a∈D j
noncomputable def bD(D:Kn)(U:VS.Env)(a:On):Prop:=∃j t,U[j]?=Y (Y (.ow t))/\a∈D j
def Fp(D:Kn)(U:VS.Env)(H:Hp):Md->X6->Prop
 |.fr,F=>F.Nodup/\∀a∈F,H a=M
 |.pu,F=>∀a∈F,H a=M\/c9 D U a
 |.bo,F=>∀a∈F,H a=M\/c9 D U a\/bD D U a
theorem SR.same{G:Gx}{H a:Hp}(s:SR G D U O H)(e:aG H a):SR G D U O a :=
 ⟨s.len,λi c h=>let ⟨v,d,b⟩:=s.rp i c h;⟨v,d,b.same e⟩,s.nd,s.sep⟩
def SR.Mx(s:SR G D U O H)(h:c9 D U a):Kv (H a):=by
 obtain⟨j,t,d,b⟩:=h;obtain⟨v,_,r⟩:=s.rp j _ d;exact r.KC a b
def SR.KD(s:SR G D U O H)(h:bD D U a):Kv (H a):=by
 obtain⟨j,t,d,b⟩:=h;obtain⟨v,_,r⟩:=s.rp j _ d;exact r.KC a b
def Fp.nil:Fp D U H m []:=by
 cases m
 ·exact⟨Z3,λa h=>by simp at h⟩
 ·exact λa h=>by simp at h
 ·exact λa h=>by simp at h
theorem Fp.bo{H:Hp}:∀{m:Md},Fp D U H m F->Fp D U H .bo F
 |.fr,h=>λa m=>.inl (h.2 a m)
 |.pu,h=>λa m=>(h a m).elim .inl λz=>.inr (.inl z)
 |.bo,h=>h
theorem Fp.pu{U:VS.Env}{H:Hp}:∀{m:Md},m ≠ .bo->Fp D U H m F->Fp D U H .pu F
 |.fr,_,h=>λa m=>.inl (h.2 a m)
 |.pu,_,h=>h
 |.bo,n,_=>absurd L n
theorem Fp.back(e:aG H b):∀{m:Md},Fp D U b m F->Fp D U H m F
 |.fr,h=>⟨h.1,λa m=>e.free (h.2 a m)⟩
 |.pu,h=>λa m=>(h a m).imp e.free id
 |.bo,h=>λa m=>(h a m).imp e.free id
theorem Fp.up{U:VS.Env}(f:Fp D U H m F)(r:Rp G a v t F):Fp D U H (VS.up m t).1 F:=by
 unfold VS.up;by_cases h:VS.Ko t=J
 ·rw[r.Ko h];exact Fp.nil
 grind
def tE(G:Gx)(c:Ex):TE:=λO H Q=>∃D U m r,SR G D U O H/\c U=Y (m,r)/\∀v a F,aG H a->Rp G a v r F->Fp D U H m F->Q v a
def PV(G:Gx)(X:Cx)(e:Expr)(c:Ex):Prop:=PE X e (tE G c)
def PE.weak{X:Cx}(h:PE X e t)(w:∀O H Q,a O H Q->t O H Q):PE X e a:=λb s O H Q I q=>h _ s O H Q I (w O H Q q)
def PT.weak{X:Cx}(h:PT X e t)(w:∀O H Q,a O H Q->t O H Q):PT X e a:=λb s O H Q I q=>h _ s O H Q I (w O H Q q)
def PA.weak{X:Cx}(h:PA X e t)(w:∀O H Q,a O H Q->t O H Q):PA X e a:=λpos b s O H Q I q=>h _ _ s O H Q I (w O H Q q)
def tT(G:Gx)(c:Ex):TT:=λO H Q=>∃D U m r b,SR G D U O H/\c U=Y (m,r)/\ON r=Y b/\∀a,aG H a->Q b a
def MQ(G:Gx)(X:Cx)(e:Expr)(c:Ex):Prop:=PT X e (tT G c)
noncomputable def Lx(l:W5)(a:Ye):X6:=match l,a with
 |v :: l,F :: a=>match v.1 with
  |.fr=>F++Lx l a
  |_=>Lx l a
 |_,_=>[]
structure Ru(D:Kn)(U:VS.Env)(H:Hp)(l:W5)(Fs:Ye):Prop where
 each:∀(i:Nat) v F,l[i]?=some v->Fs[i]?=some F->Fp D U H v.1 F
 nd:(Lx l Fs).Nodup
def V4(G:Gx)(c:KJ):TA:=λO H Q=>∃D U l,SR G D U O H/\c U=Y l/\∀b a d,aG H a->RpL G a b (trees l) d->Ru D U H l d->Q b a
def Lj(G:Gx)(X:Cx)(a:List Expr)(c:KJ):Prop:=PA X a (V4 G c)
section
def ar{i j pos}:PV G X (.Constant (.int i) j pos) (Q3 i):=PE.weak rm λO H Q d=>by
 obtain⟨D,U,m,r,s,e,k⟩:=d;cases (e);exact k _ _ _ (aG.refl _) (.int i) Fp.nil
def sH{i j pos}:PV G X (.Constant (.bool i) j pos) (eC (.bl i)):=PE.weak HZ λO H Q d=>by
 obtain⟨D,U,m,r,s,e,k⟩:=d;cases (e);exact k _ _ _ (aG.refl _) (.bl i) Fp.nil
def qS{j pos}:PV G X (.Constant .none j pos) (eC .non):=PE.weak GZ λO H Q d=>by
 obtain⟨D,U,m,r,s,e,k⟩:=d;cases (e);exact k _ _ _ (aG.refl _) .non Fp.nil
def eu{j pos}(h:x=sx t:=by decide +kernel)(f:{`q1,pC t}):PV G X (.Constant (.str x) j pos) (eC (.str t)):=PE.weak FP λO H Q d=>by
 obtain⟨D,U,m,r,s,e,k⟩:=d;cases (e);subst h;exact k _ _ _ (aG.refl _) (.str t f) Fp.nil
def aZ{X:Cx}(i:Nat)(u:{`q2,X.N[i]?=Y x})(o:{`q5,Ni X.env.scope x})(q:{`q1,K3 x})(y:{`q1,K4 x}):PV G X (.Name x g) (aa i):=PE.weak (dS u o q y) λO H Q p=>by
 obtain⟨D,U,m,r,s,e,k⟩:=p;unfold aa at e;split at e
 ·rename_i t h;obtain⟨v,l,d⟩:=s.rp _ _ h;have n:=ZX e;have w:t=r:=congrArg Prod.snd n;have em:(VS.up _ t).1=m:=congrArg _ n;rw[← w,← em]at k;refine⟨v,l,k v H _ (aG.refl _) d ?_⟩;have f:Fp D U H .pu _:=λa j=>.inr ⟨i,_,h,j⟩;exact f.up d
 ·rename_i t h;obtain⟨v,l,d⟩:=s.rp _ _ h;cases e;exact⟨v,l,k v H _ (aG.refl _) d λa j=>.inr (.inr ⟨i,_,h,j⟩)⟩
 ·cases e
structure UN(G:Gx)(D:Kn)(U:VS.Env)(H0 H:Hp)(x y:Val)(u w:V)(F1 F2:X6):Prop where
 same:aG H0 H
 r1:Rp G H u x.2 F1
 r2:Rp G H w y.2 F2
 f1:Fp D U H0 x.1 F1
 f2:Fp D U H0 y.1 F2
 nd:x.1=.fr->y.1=.fr->(F1++F2).Nodup
def eY(G:Gx)(r:R2)(f:Val->Val->W6):Prop:=∀(D:Kn)(U:VS.Env)(e H:Hp)(x y:Val)(u w:V)(h g:X6)(m:Md)(t:T)(Q:VK),UN G D U e H x y u w h g->f x y=Y (m,t) →
 (∀v d F,aG H d->Rp G d v t F->Fp D U e m F->Q v d)->r u w H Q
def zH{G:Gx}{ca cb:Ex}{O:L2.St}{H:Hp}{Q:V->V->Hp->Prop}{D:Kn}{U:VS.Env}{x y:Val}(s:SR G D U O H)(m:ca U=Y x)(l:cb U=Y y)(k:∀u w d f e,UN G D U H d x y u w f e->Q u w d):tE G ca O H λu g=>tE G cb O g λw d=>Q u w d:=by
 refine⟨D,U,_,_,s,m,λu g f e1 r1 f1=>⟨D,U,_,_,s.same e1,l,λw d e e2 r2 f2=>k u w d f e ⟨e1.trans e2,r1.same e2,r2,f1,f2.back e1,λi h=>?_⟩⟩⟩;rw[i]at f1;rw[h]at f2;refine ZR.mpr ⟨f1.1,f2.1,λa j b hb z=>?_⟩;subst z;exact Kv.pe (r1.KC a j) (f2.2 a hb)
def l6(g:eY G r f)(h:tE G (e2 f ca cb) O H Q):Sr r (tE G ca) (tE G cb) O H Q:=by
 obtain⟨D,U,m,t,s,e,k⟩:=h;obtain⟨x,j,e⟩:=Zz.mp e;obtain⟨y,i,e⟩:=Zz.mp e;exact zH s j i λu w l p o d=>g D U H l x y u w p o m t Q d e λv n F e1 r1 f1=>k v n F (d.same.trans e1) r1 f1
def iT(g:OpR X (binaryOp d) r)(e:eY G r f)(j:PV G X a ca)(i:PV G X b cb):PV G X (.BinOp a d b pos) (e2 f ca cb) :=
 PE.weak (Eu g j i) λO H Q h=>l6 e h
def B7(g:OpR X (SZ d) r)(e:eY G r f)(l:PV G X a ca)(j:PV G X b cb)(i:behindInMarks d b=Z):PV G X (.Compare a [d] [b] pos) (e2 f ca cb) :=
 PE.weak (CB g l j i) λO H Q h=>l6 e h
noncomputable def Tells(f:Val->Val->W6):Prop:=∀x y m t,f x y=Y (m,t)->∃b,t=.bl b
def Rp.Le{b:Bool}(r:Rp G H v (.bl b) F):v=.bl b:=r.inv
def Rp.int_inv{b:Int}(r:Rp G H v (.int b) F):v=.int b:=r.inv
def Rp.str_inv{b:Tx}(r:Rp G H v (.str b) F):v=.str (sx b)/\pC b:=r.inv
def oV{c:Ex}(h:tT G c O H Q)(f:∀U m r,c U=Y (m,r)->∃b,r=.bl b)(w:∀Q,tE G c O H Q->t O H Q):zy t O H Q:=by
 obtain⟨D,U,m,r,b,s,e,d,k⟩:=h;refine w _ ⟨D,U,m,r,s,e,λv i F e1 r1 f1=>?_⟩;obtain⟨j,g⟩:=f U m r e;rw[g]at d r1;cases (d);exact⟨_,r1.Le,k i e1⟩
def iu(j:OpR X (SZ d) r)(g:eY G r f)(i:Tells f)(o:PV G X a ca)(n:PV G X b cb)(l:behindInMarks d b=Z):MQ G X (.Compare a [d] [b] pos) (e2 f ca cb) :=
 PT.weak (xM j o n l) λO H Q h=>oV h (λU m r e=>by
  obtain⟨x,_,e⟩:=Zz.mp e;obtain⟨y,_,e⟩:=Zz.mp e;exact i x y m r e) λQ h=>l6 g h
def bj{G:Gx}{D:Kn}{U:VS.Env}{e H:Hp}{m:Md}{t:T}{v:V}{Q:VK}(k:∀v d F,aG H d->Rp G d v t F->Fp D U e m F->Q v d)(r:Rp G H v t []):Q v H:=k v H [] (aG.refl _) r Fp.nil
def bN(h:H p=M):aG H (upd H p o):=λb d e=>by rw[ay (br e h)];exact e
theorem Fp.new(d:g p=M)(h:p∉F):∀{m:Md},Fp D U g m F->Fp D U g m (p :: F)
 |.fr,f=>⟨Zd.mpr ⟨h,f.1⟩,λa m=>(Zj.mp m).elim (λe=>by rw[e];exact d) (f.2 a)⟩
 |.pu,f=>λa m=>(Zj.mp m).elim (λe=>by rw[e];exact .inl d) (f a)
 |.bo,f=>λa m=>(Zj.mp m).elim (λe=>by rw[e];exact .inl d) (f a)
def qI(e:N9 d l=Y (m,t)):t=.lst l/\l.length<=fB/\m=(if fD l then .fr else d):=by
 unfold N9 at e
 simp_all
def lF{G:Gx}{D:Kn}{U:VS.Env}{i H:Hp}{o m:Md}{l:W7}{t:T}{n:List V}{q:Ye}{Q:VK}(d:aG i H)(e:N9 o l=Y (m,t))(r:RpL G H n l q)(f:Fp D U i o q.flatten)(k:∀v j F,aG H j->Rp G j v t F->Fp D U i m F->Q v j):∀p,H p=M->Q (.ref p) (upd H p (.lst n)):=by
 intro p g;obtain⟨rfl,hl,rfl⟩:=qI e;refine k _ _ _ (bN g) (.lst aA (r.same (bN g))) ?_;have np:=λm=>Kv.pe (r.KC p m) g;by_cases h:fD l=J
 ·rw[h,Zm L];rw[r.Ko h]at np ⊢;exact Fp.nil.new (d.free g) np
 ·rw[Zl h];exact f.new (d.free g) np
theorem UN.join(i:UN G D U h H x y u w f e){F:X6}(g:F.Sublist (f++e)):Fp D U h (x.1.join y.1) F:=by
 obtain⟨same,r1,r2,f1,f2,nd⟩:=i;obtain⟨m1,x⟩:=x;obtain⟨j,y⟩:=y;have both:∀{P:On->Prop},(∀a∈f,P a)->(∀a∈e,P a)->∀a∈F,P a:=λm l a d=>((λa d=>ZU.mp (g.subset d)) a d).elim (m a) (l a);cases m1<;>cases j
 ·exact⟨(nd L L).sublist g,both f1.2 f2.2⟩
 ·exact both (λa d=>.inl (f1.2 a d)) f2
 ·exact both (λa d=>.inl (f1.2 a d)) f2
 ·exact both f1 (λa d=>.inl (f2.2 a d))
 ·exact both f1 f2
 ·exact both (f1.bo) f2
 ·exact both f1 (λa d=>.inl (f2.2 a d))
 ·exact both f1 (f2.bo)
 ·exact both f1 f2
def gB:fB=sizeLine:=rfl
def ed(s:Tx):(sx s).length=s.length:=rfl
def Gj(s t:Tx):sx s++sx t=sx (s++t):=by
 show Str.append _ _=_;simp[sx,Str.append]
def Rp.lst_inv(r:Rp G H v (.lst l) F):∃a d e,v=.ref a/\F=a :: e.flatten/\H a=Y (.lst d)/\RpL G H d l e:=r.inv
def Rp.LN(r:Rp G H v (.tup l) F):∃a d e,v=.ref a/\F=e.flatten/\H a=Y (.tup d)/\RpL G H d l e:=r.inv
def Rp.PL(r:Rp G H v (.scr l) F):∃a,v=.ref a/\F=[]/\k8 G.K H a l:=r.inv
end
section
def IK:R2:=λx y H Q=>Oy (λi j=>.int (i+j)) x y H Q\/(∃i j,x=.str i/\y=.str j/\i.length+j.length<=KM/\Q (.str (i++j)) H)\/Iy x y H Q
def jG:OpR X (binaryOp .Add) IK:=FV.or (vh.or GE)
def mq:eY G IK bE:=by
 intro D U z H x y u w C B m t Q d e k;have p:=λ{F:List _} (h:List.Sublist F _)=>d.join h;obtain⟨m1,x⟩:=x;obtain⟨v,y⟩:=y;obtain⟨same,r1,r2,f1,f2,nd⟩:=d;unfold bE at e;split at e
 ·rename_i i _ j e1 e2;cases e1;cases e2;cases e;exact .inl ⟨_,_,r1.int_inv,r2.int_inv,bj k (.int _)⟩
 ·rename_i s _ o e1 e2;cases e1;cases e2;split at e
  ·rename_i hl;cases e;refine .inr (.inl ⟨_,_,r1.str_inv.1,r2.str_inv.1,by rw[ed,ed,← gB];exact hl,?_⟩);rw[Gj];exact bj k (.str _ ⟨by simp_all,λc q=>(ZU.mp q).elim (r1.str_inv.2.2 c) (r2.str_inv.2.2 c)⟩)
  ·cases e
 ·rename_i s _ o e1 e2;cases e1;cases e2;obtain⟨a,l,A,rfl,rfl,r,g⟩:=r1.lst_inv;obtain⟨b,n,Gs,rfl,rfl,hb,f⟩:=r2.lst_inv;obtain⟨_,hl,_⟩:=qI e;refine .inr (.inr ⟨a,b,l,n,rfl,rfl,r,hb,?_,lF same e (g.append f) (p ?_) k⟩)
  ·rw[Zp]at hl;rw[g.len.1,f.len.1,← gB];exact hl
  grind
 ·cases e
def uU:eY G (Oy λi j=>.int (i-j)) t4:=by
 intro D U d H x y u w g f m t Q a e k;obtain⟨m1,x⟩:=x;obtain⟨b,y⟩:=y;obtain⟨same,r1,r2,f1,f2,nd⟩:=a;unfold t4 at e;split at e
 ·rename_i e1 e2;cases e1;cases e2;cases e;exact⟨_,_,r1.int_inv,r2.int_inv,bj k (.int _)⟩
 ·cases e
def rR:eY G (rI Jf λi j=>.int (i/j)) oR:=by
 intro D U d H x y u w g f m t Q a e k;obtain⟨m1,x⟩:=x;obtain⟨b,y⟩:=y;obtain⟨same,r1,r2,f1,f2,nd⟩:=a;unfold oR at e;split at e
 ·rename_i e1 e2;cases e1;cases e2;split at e
  ·rename_i h;cases e;exact⟨_,_,r1.int_inv,r2.int_inv,h,bj k (.int _)⟩
  ·cases e
 ·cases e
def Fq:eY G (rI (λ_ j=>0<j) λi j=>.int (i%j)) oMod:=by
 intro D U d H x y u w g f m t Q a e k;obtain⟨m1,x⟩:=x;obtain⟨b,y⟩:=y;obtain⟨same,r1,r2,f1,f2,nd⟩:=a;unfold oMod at e;split at e
 ·rename_i e1 e2;cases e1;cases e2;split at e
  ·rename_i h;cases e;exact⟨_,_,r1.int_inv,r2.int_inv,h,bj k (.int _)⟩
  ·cases e
 ·cases e
theorem jA:∀(s t:Tx),M9 s t=decide (s<t)
 |[],[]=>by simp[M9]
 |[],_ :: _=>by simp[M9]
 |_ :: _,[]=>by simp[M9]
 |a :: s,b :: t=>by
  unfold M9;rw[jA s t];by_cases e:a<b
  ·simp[e,Wv]
  ·by_cases d:b<a
   ·have:¬a=b:=by exact Xs d
    simp[e,d,Wv,this]
   ·have:a=b:=by lia
    simp_all
def rLt:R2:=λx y H Q=>Oy (λi j=>.bl (decide (i<j))) x y H Q\/(∃i j,x=.str i/\y=.str j/\Q (.bl (decide (i.cps.toList<j.cps.toList))) H)
def rq:OpR X (SZ .Lt) rLt:=IX.or yV
def xU:eY G rLt oLt:=by
 intro D U f H x y u w h g m t Q b e k;obtain⟨m1,x⟩:=x;obtain⟨d,y⟩:=y;obtain⟨same,r1,r2,f1,f2,nd⟩:=b;unfold oLt at e;split at e
 ·rename_i e1 e2;cases e1;cases e2;cases e;exact .inl ⟨_,_,r1.int_inv,r2.int_inv,bj k (.bl _)⟩
 ·rename_i s _ a e1 e2;cases e1;cases e2;cases e;refine .inr ⟨_,_,r1.str_inv.1,r2.str_inv.1,?_⟩;have:decide ((sx s).cps.toList<(sx a).cps.toList)=M9 s a:=by rw[jA];exact decide_eq_decide.mpr (by simp[sx])
  rw[this];exact bj k (.bl _)
 ·cases e
def kH:Tells oLt:=by
 intro x y m t e;unfold oLt at e;split at e<;>first | (cases e;exact⟨_,rfl⟩) | cases e
def GF:UT=2 ^ 64:=rfl
def AW:eY G (rI CH λi j=>.int (i*j)) jg:=by
 intro D U d H x y u w g f m t Q a e k;obtain⟨m1,x⟩:=x;obtain⟨b,y⟩:=y;obtain⟨same,r1,r2,f1,f2,nd⟩:=a;unfold jg at e;split at e
 ·rename_i e1 e2;cases e1;cases e2;split at e
  ·rename_i h;cases e;refine⟨_,_,r1.int_inv,r2.int_inv,?_,bj k (.int _)⟩;rw[GF]at h;exact h
  ·cases e
 ·cases e
def yX:OpR X (SZ .LtE) (λx y H Q=>∃i j,x=.str i/\y=.str j/\Q (.bl (!decide (j.cps.toList<i.cps.toList))) H):=by
 intro a s O H x y v u Q I rx b h;obtain⟨i,j,rfl,rfl,q⟩:=h;obtain⟨t,rfl⟩:=rx;obtain⟨d,rfl⟩:=b;exact PySem.P.le_str ⟨.bl _,H,I,rfl,q⟩
def rLe:R2:=λx y H Q=>Oy (λi j=>.bl (decide (i<=j))) x y H Q\/(∃i j,x=.str i/\y=.str j/\Q (.bl (!decide (j.cps.toList<i.cps.toList))) H)
def EZ:OpR X (SZ .LtE) rLe:=HP.or yX
def Jn:eY G rLe oLe:=by
 intro D U f H x y u w h g m t Q b e k;obtain⟨m1,x⟩:=x;obtain⟨d,y⟩:=y;obtain⟨same,r1,r2,f1,f2,nd⟩:=b;unfold oLe at e;split at e
 ·rename_i e1 e2;cases e1;cases e2;cases e;exact .inl ⟨_,_,r1.int_inv,r2.int_inv,bj k (.bl _)⟩
 ·rename_i s _ a e1 e2;cases e1;cases e2;cases e;refine .inr ⟨_,_,r1.str_inv.1,r2.str_inv.1,?_⟩;have:decide ((sx a).cps.toList<(sx s).cps.toList)=M9 a s:=by rw[jA];exact decide_eq_decide.mpr (by simp[sx])
  rw[this];exact bj k (.bl _)
 ·cases e
def uM{i:Int}:Lg n i=RK n i:=by
 unfold Lg RK;grind
def iF{α:Type}{l:List α}{i:Int}{k:Nat}{x:α}(b:Lg l.length i=Y k)(a:l[k]?=Y x):Sh l i=Y x:=by
 unfold Sh;rw[← uM,b];exact a
def bM{a:Ye}{F:X6}{i:Nat}(h:a[i]?=Y F):F.Sublist a.flatten:=by
 obtain⟨b,rfl⟩:=Zk.mp h;exact List.sublist_flatten_of_mem (Yv b)
theorem Fp.sub{F:X6}(h:F.Sublist d):∀{m:Md},Fp D U H m d->Fp D U H m F
 |.fr,f=>⟨f.1.sublist h,λa b=>f.2 a (h.subset b)⟩
 |.pu,f=>λa b=>f a (h.subset b)
 |.bo,f=>λa b=>f a (h.subset b)
def vA:eY G (V9 G.K) aL:=by
 intro D U L H x y u w O N m t Q A e k;obtain⟨m1,x⟩:=x;obtain⟨E,y⟩:=y;obtain⟨same,r1,r2,f1,f2,nd⟩:=A;unfold aL at e;split at e
 ·rename_i p l o i e1 e2;cases e1;cases e2;obtain⟨j,d,e⟩:=Zz.mp e;obtain⟨x,b,e⟩:=Zy.mp e;obtain⟨a,n,C,rfl,rfl,q,h⟩:=r1.lst_inv;obtain⟨v,F,s,r,g⟩:=h.get j b;refine .inl ⟨a,n,i,v,rfl,r2.int_inv,KA.of q,iF (by rw[h.len.1];exact d) s,?_⟩;have f:=((f1.sub (YO _ _)).sub (bM r)).up g;unfold VS.sub at e;rw[e]at f;have z:x=t:=congrArg Prod.snd e;rw[z]at g;exact k v H F (aG.refl _) g f
 ·rename_i p l o i e1 e2;cases e1;cases e2;obtain⟨j,d,e⟩:=Zz.mp e;obtain⟨x,b,e⟩:=Zy.mp e;obtain⟨a,n,C,rfl,rfl,q,h⟩:=r1.LN;obtain⟨v,F,s,r,g⟩:=h.get j b;refine .inr (.inl ⟨a,n,i,v,rfl,r2.int_inv,LK.of q,iF (by rw[h.len.1];exact d) s,?_⟩);have f:=(f1.sub (bM r)).up g;unfold VS.sub at e;rw[e]at f;have z:x=t:=congrArg Prod.snd e;rw[z]at g;exact k v H F (aG.refl _) g f
 ·rename_i p l o i e1 e2;cases e1;cases e2;obtain⟨j,d,e⟩:=Zz.mp e;obtain⟨x,b,e⟩:=Zy.mp e;cases e;obtain⟨a,rfl,rfl,sa⟩:=r1.PL;refine .inl ⟨a,_,i,_,rfl,r2.int_inv,sa.seq,iF (by rw[Zt];exact d) (by simp_all),bj k (.int _)⟩
 ·rename_i p l o i e1 e2;cases e1;cases e2;obtain⟨j,d,e⟩:=Zz.mp e;obtain⟨x,b,e⟩:=Zy.mp e;cases e;obtain⟨rfl,hl⟩:=r1.str_inv;refine .inr (.inr ⟨_,i,x,rfl,r2.int_inv,by rw[ed,← gB];exact hl.1,iF (k:=j) (by simpa[sx] using d) (by simpa[sx] using b),?_⟩);exact bj k (.str _ ⟨by show 1<=fB;decide,λc B=>by rw[Zb.mp B];exact hl.2 x (Yx b)⟩)
 ·cases e
end
section
theorem xS:∀{l:W5}{d:Ye},x∈Lx l d->∃(i:Nat)(v:Val)(F:X6),l[i]?=Y v/\v.1=.fr/\d[i]?=Y F/\x∈F
 |[],_,h=>by simp[Lx]at h
 |_ :: _,[],h=>by simp[Lx]at h
 |v :: l,F :: d,h=>by
  have go:x∈Lx l d->∃(i:Nat)(u:Val)(f:List _),(v :: l)[i]?=Y u/\u.1=.fr/\(F :: d)[i]?=Y f/\x∈f:=λm=>by
   refine L2.ah λs g=>?_;obtain⟨i,u,f,r,q,o,n⟩:=xS m;refine g ?_;exact⟨i+1,u,f,by simpa using r,q,by simpa using o,n⟩
  unfold Lx at h;split at h
  ·rename_i j;rcases ZU.mp h with h | h
   ·exact⟨0,v,F,rfl,j,rfl,h⟩
   ·exact go h
  ·exact go h
def aq:Lj G X [] au:=PA.weak dQ λO H Q d=>by
 obtain⟨D,U,l,s,e,k⟩:=d;cases (e);exact k [] H [] (aG.refl _) .nil ⟨λi v F h=>by simp at h,by simp[Lx]⟩
def ae(B:PV G X e ca)(w:Lj G X es cs)(t:{`q2,K1 e es X}):Lj G X (e :: es) (af ca cs):=PA.weak (bA B w t) λO H Q A=>by
 refine L2.ah λS m=>?_;obtain⟨D,U,l,s,e,k⟩:=A;obtain⟨x,N,e⟩:=Zz.mp e;obtain⟨j,L,e⟩:=Zz.mp e;cases e;refine m ?_;refine⟨D,U,_,_,s,N,λv H1 F e1 r1 f1=>⟨D,U,j,s.same e1,L,λR P Fs e2 r2 f2=>k _ P _ (e1.trans e2) (.cons (r1.same e2) r2) ⟨λi u h g d=>?_,?_⟩⟩⟩
 ·cases i with
  |zero =>
   simp_all
  |succ i=>exact(f2.each i u h (by simpa using g) (by simpa using d)).back e1
 ·unfold Lx;split
  ·rename_i r;rw[r]at f1;refine ZR.mpr ⟨f1.1,f2.nd,λy o z n q=>?_⟩;subst q;obtain⟨i,u,h,g,d,E,C⟩:=xS n;have f:=f2.each i u h g E;rw[d]at f;exact Kv.pe (r1.KC y o) (f.2 y C)
  ·exact f2.nd
theorem lh:∀{l:W5},df l=.fr->∀v∈l,v.1=.fr
 |[],_,v,h=>by simp at h
 | (m,t) :: r,e,v,h=>by
  have d:m.join _=.fr:=e;rcases Zj.mp h with rfl | h
  ·exact(by
   revert d;cases m<;>cases df r<;>simp[Md.join])
  ·exact lh (by
   revert d;cases m<;>cases df r<;>simp[Md.join]) v h
theorem kN:∀{l:W5},df l ≠ .bo->∀v∈l,v.1 ≠ .bo
 |[],_,v,h=>by simp at h
 | (m,t) :: r,e,v,h=>by
  have d:m.join _ ≠ .bo:=e;rcases Zj.mp h with rfl | h
  ·exact(by
   revert d;cases m<;>cases df r<;>simp[Md.join])
  ·exact kN (by
   revert d;cases m<;>cases df r<;>simp[Md.join]) v h
theorem wV:∀{l:W5}{d:Ye},l.length=d.length->(∀v∈l,v.1=.fr)->Lx l d=d.flatten
 |[],[],_,_=>rfl
 |[],_ :: _,h,_=>by simp at h
 |_ :: _,[],h,_=>by simp at h
 |v :: l,F :: d,h,q=>by
  unfold Lx;rw[q v Zv,wV (by simpa using h) λu f=>q u (Zw _ f)];rfl
def gb{d:Ye}(h:x∈d.flatten):∃(i:Nat)(F:X6),d[i]?=Y F/\x∈F:=by
 obtain⟨F,j,f⟩:=WH.mp h;obtain⟨i,g⟩:=List.mem_iff_getElem?.mp j;exact⟨i,F,g,f⟩
def Ru.join(f:Ru D U H l j)(m:l.length=j.length):Fp D U H (df l) j.flatten:=by
 have at':∀x∈j.flatten,∃v F,v∈l/\x∈F/\Fp D U H v.1 F:=λx d=>by
  obtain⟨i,F,n,g⟩:=gb d;have:i<l.length:=by
   grind
  exact⟨_,F,Yv this,g,f.each i _ F (Zr this) n⟩
 cases e:df l with
 |fr =>
  have al:=lh e;refine⟨by rw[← wV m al];exact f.nd,λx d=>?_⟩;obtain⟨v,F,h,g,q⟩:=at' x d;rw[al v h]at q;exact q.2 x g
 |pu =>
  intro x d;obtain⟨v,F,h,g,q⟩:=at' x d;exact Fp.pu ((kN (l:=l) (by rw[e];decide)) v h) q x g
 |bo =>
  intro x d;obtain⟨v,F,h,g,q⟩:=at' x d;exact q.bo x g
structure Args(G:Gx)(D:Kn)(U:VS.Env)(H0 H:Hp)(l:W5)(vs:List V)(Fs:Ye):Prop where
 same:aG H0 H
 rp:RpL G H vs (trees l) Fs
 fp:Ru D U H0 l Fs
theorem Args.len(A:Args G D U g H l f d):l.length=d.length:=by
 have:=A.rp.len.2
 simp_all
def eD(G:Gx)(r:List V->Hp->VK->Prop)(f:W5->W6):Prop:=∀(D:Kn)(U:VS.Env)(h H:Hp)(l:W5)(g:List V)(i:Ye)(m:Md)(t:T)(Q:VK),Args G D U h H l g i->f l=Y (m,t) →
 (∀v d F,aG H d->Rp G d v t F->Fp D U h m F->Q v d)->r g H Q
def EV(h:eD G r f)(s:SR G D U O H)(i:cs U=Y l)(e:f l=Y (m,t))(k:∀v d F,aG H d->Rp G d v t F->Fp D U H m F->Q v d):V4 G cs O H λg n=>r g n Q :=
 ⟨D,U,l,s,i,λg d o e1 r1 f1=>h D U H d l g o m t Q ⟨e1,r1,f1⟩ e λv j F e2 r2 f2=>k v j F (e1.trans e2) r2 f2⟩
def iU(q:cF X (.builtin d) r)(g:eD G r f)(o:Gl X x)(n:X.mg x=M)(h:bootBuiltins x=Y (.builtin d))(u:Lj G X (e :: es) cs)(j:{`q1,x ≠ "__name__"})(w:{`q1,K3 x})(he:{`q2,K1 e es X})(hpl:{`q2,K2 pos es X}):PV G X (.Call (.Name x p) (e :: es) [] pos) (eN f cs) :=
 PE.weak (lH q o n h u j w he hpl) λO H Q i=>by
  obtain⟨D,U,m,t,s,e,k⟩:=i;obtain⟨l,v,e⟩:=Zz.mp e;exact EV g s v e k
def hJ{G:Gx}{X:Cx}{es:List Expr}{cs:KJ}{pos p:Pos}{r:List V->Hp->VK->Prop}{f:W5->W6}{Ty:String}{x:Str}(q:cF X (.type Ty) r)(g:eD G r f)(o:Gl X x)(n:X.mg x=M)(h:bootBuiltins x=Y (.type Ty))(u:Lj G X (e :: es) cs)(j:{`q1,x ≠ "__name__"})(w:{`q1,K3 x})(he:{`q2,K1 e es X})(d:{`q2,K2 pos es X}):PV G X (.Call (.Name x p) (e :: es) [] pos) (eN f cs) :=
 PE.weak (pJ q o n h u j w he d) λO H Q i=>by
  obtain⟨D,U,m,t,s,e,k⟩:=i;obtain⟨l,v,e⟩:=Zz.mp e;exact EV g s v e k
def cw(h:Lj G X es cs):PV G X (.List es pos) (dB cs):=PE.weak (zV h) λO H Q f=>by
 obtain⟨D,U,m,t,s,e,k⟩:=f;obtain⟨l,g,e⟩:=Zz.mp e;refine⟨D,U,l,s,g,λd j n e1 r1 f1=>?_⟩;have A:Args G D U H j l d n:=⟨e1,r1,f1⟩
 obtain⟨_,hl,_⟩:=qI e;refine⟨by rw[r1.len.1,← gB];exact hl,lF e1 e r1 (f1.join A.len) λv i F e2 r2 f2=>k v i F (e1.trans e2) r2 f2⟩
def iD{x1}(h:Lj G X es cs):PV G X (.Tuple es x1 pos) (i7 cs):=PE.weak (Fe h) λO H Q d=>by
 obtain⟨D,U,m,t,s,e,k⟩:=d;obtain⟨l,g,e⟩:=Zz.mp e;refine⟨D,U,l,s,g,λf i j e1 r1 f1=>?_⟩;have A:Args G D U H i l f j:=⟨e1,r1,f1⟩
 unfold we at e;split at e
 ·rename_i hl;cases e;refine⟨by rw[r1.len.1,← gB,trees,Zt];exact hl,λq d=>?_⟩;have r2:Rp G _ _ _ _:=.tup aA (r1.same (bN d));exact k _ _ _ (e1.trans (bN d)) r2 (Fp.up (f1.join A.len) r2)
 ·cases e
def CD(r:Rp G H v t F)(h:ON t=Y k):HC G.K v H k:=by
 cases r with
 |non=>cases h;rfl
 |bl b=>cases h;rfl
 |int i=>cases h;rfl
 |str s hl =>
  cases h;refine⟨by rw[ed,← gB];exact hl.1,?_⟩;rw[ed];cases s with
  |nil=>rfl
  |cons a r =>
   grind
 |scr d=>cases h
 |tup d q =>
  cases h;refine .inr (.inl ⟨_,LK.of d,?_⟩);have:=q.len.1;rename_i f g _;cases f<;>cases g<;>simp_all
 |lst d q =>
  cases h;refine .inl ⟨_,KA.of d,?_⟩;have:=q.len.1;rename_i f g _;cases f<;>cases g<;>simp_all
 |dct d hl q =>
  cases h;refine .inr (.inr ⟨_,d,?_⟩);have:=q.len.1;rename_i j f g _;cases j<;>cases f<;>cases g<;>simp_all
 |dctT d hl q=>cases h
 |dctN d hl n q=>cases h
 |dctZ _ _ _=>cases h
 |exc _ _=>cases h
 |ins _ _ _ _=>cases h
 |mk _ _=>cases h
def d6(h:PV G X a ca)(d:{`q2,X.K=G.K})(he:{`q3,∀whole,isTrue a X.env whole=(do let v ← whole;standAt a.pos;holding [v] (truthy v))}):MQ G X a ca :=
 PT.weak (AM h he) λO H Q ⟨D,U,m,r,b,s,e,f,k⟩=>⟨D,U,m,r,s,e,λv g F e1 r1 f1=>⟨b,by rw[d];exact CD r1 f,k g e1⟩⟩
def N3(G:Gx)(X:Cx)(e:Expr)(c:Ex):Prop:=PW X e (tT G c)
def PW.weak{X:Cx}{e:Expr}(h:PW X e t)(w:∀O H Q,d O H Q->t O H Q):PW X e d:=λg f s O H Q I q=>h g _ s O H Q I (w O H Q q)
def N3.PM(h:N3 G X e ca):MQ G X e ca:=PW.pt h
def tZ(e:ng ca cb U=Y (m,r)):(∃n,ca U=Y (n,.bl J)/\cb U=Y (m,r))\/(∃n,ca U=Y (n,.bl Z)/\m=.fr/\r=.bl Z):=by
 obtain⟨⟨n,x⟩,d,e⟩:=Zz.mp e;grind
def Db5(e:Ou ca cb U=Y (m,r)):(∃n,ca U=Y (n,.bl Z)/\cb U=Y (m,r))\/(∃n,ca U=Y (n,.bl J)/\m=.fr/\r=.bl J):=by
 obtain⟨⟨n,x⟩,d,e⟩:=Zz.mp e;grind
def qP{G:Gx}{X:Cx}{a:Expr}{ca cb:Ex}{pos:Pos}{rest:List Expr}(j:MQ G X a ca)(i:N3 G X (.BoolOp .And (b :: rest) pos) cb):N3 G X (.BoolOp .And (a :: b :: rest) pos) (ng ca cb) :=
 PW.weak (A0 j i) λO H Q h=>by
  obtain⟨D,U,m,r,k,s,e,f,q⟩:=h;rcases tZ e with⟨n,d,e2⟩ | ⟨n,d,rfl,rfl⟩
  ·refine⟨D,U,n,_,_,s,d,rfl,λg e1=>?_⟩;refine uL ?_;exact⟨D,U,m,r,k,s.same e1,e2,f,λl e2=>q l (e1.trans e2)⟩
  ·refine⟨D,U,n,_,_,s,d,rfl,λg e1=>?_⟩;refine uZ ?_;cases f;exact q g e1
def ju{G:Gx}{X:Cx}{a:Expr}{ca cb:Ex}{pos:Pos}{rest:List Expr}(j:MQ G X a ca)(i:N3 G X (.BoolOp .Or (b :: rest) pos) cb):N3 G X (.BoolOp .Or (a :: b :: rest) pos) (Ou ca cb) :=
 PW.weak (Jw j i) λO H Q h=>by
  obtain⟨D,U,m,r,k,s,e,f,q⟩:=h;rcases Db5 e with⟨n,d,e2⟩ | ⟨n,d,rfl,rfl⟩
  ·refine⟨D,U,n,_,_,s,d,rfl,λg e1=>?_⟩;refine uZ ?_;exact⟨D,U,m,r,k,s.same e1,e2,f,λl e2=>q l (e1.trans e2)⟩
  ·refine⟨D,U,n,_,_,s,d,rfl,λg e1=>?_⟩;refine uL ?_;cases f;exact q g e1
def sV(e:pd ca U=Y (m,r)):∃n b,ca U=Y (n,.bl b)/\m=.fr/\r=.bl (!b):=by
 obtain⟨⟨n,x⟩,d,e⟩:=Zz.mp e;grind
def lI(f:MQ G X a ca):MQ G X (.UnaryOp .Not a pos) (pd ca):=PT.weak (GX f) λO H Q d=>by
 obtain⟨D,U,m,r,k,s,e,g,q⟩:=d;obtain⟨n,b,h,rfl,rfl⟩:=sV e;cases g;exact⟨D,U,n,_,b,s,h,rfl,λi e1=>q i e1⟩
def FR(f:PV G X a ca):PV G X (.UnaryOp .Not a pos) (pd ca):=PE.weak (HF f) λO H Q d=>by
 obtain⟨D,U,m,r,s,e,q⟩:=d;obtain⟨n,b,g,rfl,rfl⟩:=sV e;exact⟨D,U,n,_,s,g,λv h F e1 r1 f1=>⟨b,r1.Le,q _ h _ e1 (.bl _) Fp.nil⟩⟩
def HB{op}(h:PV G X a ca):PV G X (.BoolOp op [a] pos) ca:=FC h
def GC{G:Gx}{X:Cx}{a:Expr}{ca cb:Ex}{pos:Pos}{rest:List Expr}(i:PV G X a ca)(h:PV G X (.BoolOp .And (b :: rest) pos) cb):PV G X (.BoolOp .And (a :: b :: rest) pos) (ng ca cb) :=
 PE.weak (Gw i h) λO H Q g=>by
  obtain⟨D,U,m,r,s,e,q⟩:=g;rcases tZ e with⟨n,d,e2⟩ | ⟨n,d,rfl,rfl⟩
  ·refine⟨D,U,n,_,s,d,λv f F e1 r1 f1=>⟨_,r1.Le,?_⟩⟩;refine uL ?_;exact⟨D,U,m,r,s.same e1,e2,λv j F e2 r2 f2=>q v j F (e1.trans e2) r2 (f2.back e1)⟩
  ·refine⟨D,U,n,_,s,d,λv f F e1 r1 f1=>⟨_,r1.Le,?_⟩⟩;refine uZ ?_;exact q _ f _ e1 (.bl _) Fp.nil
def xW(r:Rp G H v t F):decide (v=.non)=Sz t:=by
 cases r<;>simp[Sz]
def Eo{c:Ex}(h:tT G c O H Q)(f:∀U m r,c U=Y (m,r)->∃b,r=.bl b)(w:∀Q,tE G c O H Q->t O H Q):tB t O H Q:=by
 obtain⟨D,U,m,r,b,s,e,d,k⟩:=h;refine w _ ⟨D,U,m,r,s,e,λv i F e1 r1 f1=>?_⟩;obtain⟨j,g⟩:=f U m r e;rw[g]at d r1;cases (d);exact⟨_,r1.Le,k i e1⟩
end
section
def RpL.one(r:RpL G H d [t] f):∃v F,d=[v]/\f=[F]/\Rp G H v t F:=by
 cases r with
 |cons r q=>cases q;exact⟨_,_,rfl,rfl,r⟩
def RpL.two(r:RpL G H g [t,h] i):∃v d F f,g=[v,d]/\i=[F,f]/\Rp G H v t F/\Rp G H d h f:=by
 cases r with
 |cons r q =>
  obtain⟨d,f,rfl,rfl,j⟩:=q.one;exact⟨_,_,_,_,rfl,rfl,r,j⟩
def Jg(K:Xd):List V->Hp->VK->Prop:=λd H Q=>(∃x n,d=[x]/\Ii K x H n/\Q (.int n) H)\/(∃a f,d=[V.ref a]/\H a=Y (.dK f)/\Q (.int f.length) H)
def u0:cF X (.builtin "len") (λf H Q=>∃a d,f=[V.ref a]/\H a=Y (.dK d)/\Q (.int d.length) H):=by
 intro g s O H f m Q I r h;obtain⟨a,d,rfl,j,q⟩:=h;obtain⟨u,rfl,i⟩:=vals1 r;cases i;exact HQ I (.inl j) λt n l=>⟨.int _,H,l,⟨t,rfl⟩,q⟩
def za:cF X (.builtin "len") (Jg X.K):=AX.or u0
def FO:eD G (Jg G.K) cB:=by
 intro D U z H l j B m t Q A e k;refine L2.ah λy f=>?_;unfold cB at e;split at e
 ·rename_i x;obtain⟨u,x⟩:=x;obtain⟨n,d,e⟩:=Zy.mp e;cases e;obtain⟨v,F,rfl,rfl,r⟩:=(A.rp).one;have fin:=bj k (.int _);cases r with
  |non=>cases d
  |bl b=>cases d
  |int i=>cases d
  |str s hl =>
   cases d;refine f ?_;exact .inl ⟨_,_,rfl,⟨by rw[ed,← gB];exact hl.1,rfl⟩,by rw[ed];exact fin⟩
  |scr h =>
   cases d;refine f ?_;refine .inl ⟨_,_,rfl,.inl ⟨_,h.seq,rfl⟩,?_⟩
   simp_all
  |tup h q =>
   cases d;refine f ?_;refine .inl ⟨_,_,rfl,.inr ⟨_,LK.of h,rfl⟩,?_⟩;rw[q.len.1];exact fin
  |lst h q =>
   cases d;refine f ?_;refine .inl ⟨_,_,rfl,.inl ⟨_,KA.of h,rfl⟩,?_⟩;rw[q.len.1];exact fin
  |dct h hl q =>
   cases d;refine f ?_;refine .inr ⟨_,_,rfl,h,?_⟩;rename_i w g o _;rw[YS,Zt]at fin;rw[YS,q.len.1];exact fin
  |dctT h hl q=>cases d
  |dctN h hl n q=>cases d
  |dctZ _ _ _=>cases d
  |exc _ _=>cases d
  |ins _ _ _ _=>cases d
  |mk _ _=>cases d
 ·cases e
def CW:eD G (λd H Q=>∃i j,d=[.int i,.int j]/\Q (.int (if j > i then j else i)) H) p8:=by
 intro D U n H l g o m t Q A e k;unfold p8 at e;split at e
 ·rename_i _ i _ j;cases e;obtain⟨v,h,F,q,rfl,rfl,r,f⟩:=(A.rp).two;exact⟨i,j,by rw[r.int_inv,f.int_inv],bj k (.int _)⟩
 ·cases e
def EG(K:Xd):List V->Hp->VK->Prop:=λf H Q=>∃p d,f=[.ref p]/\(KA K H p d\/LK K H p d)/\∀l,H l=M->Q (.ref l) (upd H l (.lst d))
def wX:eD G (EG G.K) ET:=by
 intro D U j H l i n m t Q A e k;unfold ET at e;split at e
 ·rename_i h x;obtain⟨v,F,rfl,rfl,rx⟩:=(A.rp).one;obtain⟨a,d,Gs,rfl,rfl,g,f⟩:=rx.lst_inv;exact⟨a,d,rfl,.inl (KA.of g),lF A.same e f ((A.fp.each 0 _ _ L L).sub (YO _ _)) k⟩
 ·rename_i h x;obtain⟨v,F,rfl,rfl,rx⟩:=(A.rp).one;obtain⟨a,d,Gs,rfl,rfl,g,f⟩:=rx.LN;exact⟨a,d,rfl,.inr (LK.of g),lF A.same e f (A.fp.each 0 _ _ L L) k⟩
 ·cases e
def PO.weak{X:Cx}{e:Option Expr}(h:PO X e t)(w:∀O H Q,d O H Q->t O H Q):PO X e d:=λf s O H Q I q=>h _ s O H Q I (w O H Q q)
def qG{α:Type}(l:List α)(d f:Option Int):cut l d f=(l.drop (HT.MN l.length 0 d)).take (HT.MN l.length l.length f-HT.MN l.length 0 d):=by
 cases d<;>cases f<;>rfl
theorem Sw(a:Int)(n:Nat):max 0 (min a (n:Int))=((min a.toNat n:Nat):Int):=L2.Sw a n
def Vp{k:Nat}(h:(k:Nat)<=n):max 0 (min (k:Int) (n:Int))=(k:Int):=by rw[Sw,YF,Y3 h]
def DF(a:Int)(n:Nat):max 0 (min a (n:Int))=max 0 (min ((min a.toNat n:Nat):Int) (n:Int)):=by
 rw[Sw,Sw,YF,Nat.min_assoc,Nat.min_self]
def BO(d f:Option Int)(n:Nat):Builtin.Str.strSliceIndices d f 1 n=Builtin.Str.strSliceIndices (Y ((min (HT.MN n 0 d) n:Nat):Int)) (Y ((min (HT.MN n n f) n:Nat):Int)) 1 n:=by
 have nn:∀k:Nat,¬((k:Int)<0):=λk=>by lia
 unfold Builtin.Str.strSliceIndices;simp only[show (1:Int) > 0 by decide,if_true,nn,if_false];congr 1
 ·cases d with
  |none=>simp only[HT.MN];rw[Sw,YF,Nat.zero_min,Nat.zero_min];rfl
  |some i =>
   simp only[HT.MN];by_cases h:i<0
   ·simp only[h,if_true];exact DF _ _
   ·simp only[h,if_false];rw[Nat.min_assoc,Nat.min_self];exact DF _ _
 ·cases f with
  |none=>simp only[HT.MN];simp_all
  |some i =>
   simp only[HT.MN];by_cases h:i<0
   ·simp only[h,if_true];exact DF _ _
   ·simp only[h,if_false];rw[Nat.min_assoc,Nat.min_self];exact DF _ _
def pk(s:Tx)(d f:Option Int):PySem.StrLaws.sliceText (sx s) d f=sx (cut s d f):=by
 have key:PySem.StrLaws.sliceText (sx s) d f=PySem.StrLaws.sliceText (sx s) (Y ((min (HT.MN s.length 0 d) s.length:Nat):Int)) (Y ((min (HT.MN s.length s.length f) s.length:Nat):Int)):=by
  unfold PySem.StrLaws.sliceText;rw[ed,BO]
 rw[key];have hd:∀a:Nat,s.drop (min a s.length)=s.drop a:=λa=>by
  simp_all
 by_cases h:min (HT.MN s.length 0 d) s.length<=min (HT.MN s.length s.length f) s.length
 ·rw[PySem.StrLaws.sliceText_nat _ h (by rw[ed];exact Xr _ _),qG];show (⟨_⟩:Str)=⟨_⟩;congr 2;have:(sx s).cps.toList=s:=rfl;rw[this,hd];by_cases i:HT.MN s.length 0 d<=s.length
  ·rw[Y3 i];by_cases g:HT.MN s.length s.length f<=s.length
   ·rw[Y3 g]
   ·rw[WM (by exact WK g),Y1 (by simp_all),Y1 (by rw[YA];lia)]
  ·rw[XZ (by exact WK i)];simp
 ·have j:cut s d f=[]:=by
   rw[qG];have:HT.MN s.length s.length f-HT.MN s.length 0 d=0:=by omega
   rw[this,List.take_zero]
  rw[j];unfold PySem.StrLaws.sliceText;have e2:Builtin.Str.strSliceIndices (Y ((min (HT.MN s.length 0 d) s.length:Nat):Int)) (Y ((min (HT.MN s.length s.length f) s.length:Nat):Int)) 1 (sx s).length=[]:=by
   have e1:∀k:Nat,¬((k:Int)<0):=λk=>by lia
   unfold Builtin.Str.strSliceIndices sliceRange;simp only[show (1:Int) > 0 by decide,if_true,e1,if_false,ed];rw[Vp (Xr _ _),Vp (Xr _ _),Zl λz=>h (YQ (Int.ofNat_lt.mp z))];rfl
  rw[e2];have:¬((1:Int)==1&&([]:Wa).length==(sx s).length)=J:=by
   rw[ed];simp;lia
  rw[Zl this];rfl
noncomputable def JI:V->Option Int->Option Int->Hp->VK->Prop:=λx lo d H Q=>∃z,x=.str z/\z.length<=KM/\Q (.str (PySem.StrLaws.sliceText z lo d)) H
def part_of(h:IsPart v o):∃q:Option (Int×Tok),v=partValue q/\o=q.map (·.1):=by
 cases h with
 |none=>exact⟨M,rfl,rfl⟩
 |int i t=>exact⟨Y (i,t),rfl,rfl⟩
def qH{α β:Type}(f:α->Option β)(l:List α):(l.filterMap f).length<=l.length:=List.length_filterMap_le f l
def Dd(d f:Option Int)(n:Nat):(Builtin.Str.strSliceIndices d f 1 n).length<=n:=by
 rw[BO];by_cases h:min (HT.MN n 0 d) n<=min (HT.MN n n f) n
 ·rw[PySem.StrLaws.strSliceIndices_plain h (by exact Xr _ _),Zt,Yz];lia
 ·have e1:∀k:Nat,¬((k:Int)<0):=λk=>by lia
  unfold Builtin.Str.strSliceIndices sliceRange;simp only[show (1:Int) > 0 by decide,if_true,e1,if_false];rw[Vp (Xr _ _),Vp (Xr _ _),Zl λz=>h (YQ (Int.ofNat_lt.mp z))];simp
def GD:SlR X JI:=by
 intro f s O H x v o n lo w r Q I rx m g pu h;refine L2.ah λy i=>?_;obtain⟨z,rfl,j,q⟩:=h;obtain⟨t,rfl⟩:=rx;obtain⟨l,rfl,rfl⟩:=part_of g;obtain⟨u,rfl,rfl⟩:=part_of pu;refine i ?_;refine⟨_,_,F.slot_str_getitem.lookup,Ws s z t,wpAny_getItem_str_slice (l:=l) (u:=u) (st:=M) m L ?_⟩;unfold sliceMade;split
 ·rename_i d;refine⟨.str z,H,I,⟨t,rfl⟩,?_⟩;have e:PySem.StrLaws.sliceText z (l.map (·.1)) (u.map (·.1))=z:=by
   exact Zm d
  rw[e]at q;exact q
 ·rename_i d;refine⟨ZW ?_ j,.str _,H,I.tok _,⟨_,rfl⟩,?_⟩
  ·show (List.filterMap _ _).toArray.size<=_;rw[ZG];exact ZW (qH _ _) (Dd _ _ _)
  ·have e:PySem.StrLaws.sliceText z (l.map (·.1)) (u.map (·.1))=⟨((slicePicked z l u M).filterMap (z.cps[·]?)).toArray⟩:=by
    exact Zl d
   rw[e]at q;exact q
def CZ{α:Type}(l:List α)(d f:Option Int):(cut l d f).length<=l.length:=by
 rw[qG,WE,YA];lia
def Ce{α:Type}(l:List α)(d f:Option Int):(VS.cut l d f).Sublist l:=by
 rw[qG];exact(WU _ _).trans (List.drop_sublist _ _)
def sI{F G:Ye}(h:F.Sublist G):F.flatten.Sublist G.flatten:=by
 induction h with
 |slnil=>exact WR _
 |cons a _ d=>grind
 |cons_cons a _ d=>grind
noncomputable def Pj:Ty->String
 |.int => "int"
 |.str => "str"
 |.bool => "bool"
 |.list => "list"
 |.tuple => "tuple"
 |.dict => "dict"
def rIs(K:Xd):List V->Hp->VK->Prop:=λd H Q=>∃x c t b,d=[x,.ty c]/\LX K H x t/\PySem.W.kitOne K t (.type c)=Y b/\Q (.bl b) H
def Ck:cF X (.builtin "isinstance") (rIs X.K):=by
 intro d s O H f i Q I r h;obtain⟨x,c,t,b,rfl,ty,e,q⟩:=h;obtain⟨u,g,rfl,r1,r2⟩:=vals2 r;cases r2;exact yi I r1 ty e λj=>⟨.bl b,H,I.tok _,rfl,q⟩
def Dh(K:Xd)(d:Ty):(PySem.W.kitOne K (.type "NoneType") (.type (Pj d))=Y Z)/\(PySem.W.kitOne K (.type "bool") (.type (Pj d))=Y (tY d (.bl J)))/\(PySem.W.kitOne K (.type "int") (.type (Pj d))=Y (tY d (.int 0))) ∧
  (PySem.W.kitOne K (.type "str") (.type (Pj d))=Y (tY d (.str [])))/\(PySem.W.kitOne K (.type "list") (.type (Pj d))=Y (tY d (.lst [])))/\(PySem.W.kitOne K (.type "tuple") (.type (Pj d))=Y (tY d (.tup [])))/\(PySem.W.kitOne K (.type "dict") (.type (Pj d))=Y (tY d (.dct 0 []))):=by
 cases d<;>refine⟨?_,?_,?_,?_,?_,?_,?_⟩<;>kernel_rfl
def Ip(d:Ty)(r:Rp G H v t F)(h:xj t=J):∃g,LX G.K H v g/\PySem.W.kitOne G.K g (.type (Pj d))=Y (tY d t):=by
 obtain⟨y,x,w,u,o,m,j⟩:=Dh G.K d;cases r with
 |non=>exact⟨_,.non,by rw[y];cases d<;>rfl⟩
 |bl b=>exact⟨_,.bl b,by rw[x];cases d<;>rfl⟩
 |int i=>exact⟨_,.int i,by rw[w];cases d<;>rfl⟩
 |str s _=>exact⟨_,.str _,by rw[u];cases d<;>rfl⟩
 |scr _=>cases h
 |tup f q=>exact⟨_,.tup f,by rw[m];cases d<;>rfl⟩
 |lst f q=>exact⟨_,.lst f,by rw[o];cases d<;>rfl⟩
 |dct f l q=>exact⟨_,.dK f,by rw[j];cases d<;>rfl⟩
 |dctT f l q=>exact⟨_,.dT f,by rw[j];cases d<;>rfl⟩
 |dctN f l n q=>cases h
 |dctZ _ _ _=>cases h
 |exc _ _=>cases h
 |ins _ _ _ _=>cases h
 |mk _ _=>cases h
def IV(f:Ty)(C:PV G X a ca)(B:Gl X "isinstance")(z:X.mg "isinstance" = M)(R:Gl X x)(S:X.mg x=M)(r:bootBuiltins x=Y (.type (Pj f)))(j:{`q2,X.K=G.K})(w:{`q1,x ≠ "__name__"})(K5:{`q1,K3 x})(i:{`q2,P3 [a,.Name x d] X.env=(Z,eval a X.env) :: P3 [.Name x d] X.env})(Mp:{`q2,P3 [.Name x d] X.env=(Z,eval (.Name x d) X.env) :: P3 [] X.env})(g:{`q2,(backTo pos (P3 [Expr.Name x d] X.env)).any (·.1)=Z}) :
  PV G X (.Call (.Name "isinstance" n) [a,.Name x d] [] pos) (VN f ca) :=
 PE.weak (lH Ck B z boot_isinstance (bA C (bA (wx (v:=.ty _) R S r L w K5) dQ Mp) i) (by decide) L i g) λO H Q u=>by
  refine L2.ah λP_ q=>?_;obtain⟨D,U,m,t,s,e,k⟩:=u;obtain⟨⟨o,y⟩,P,h⟩:=Zz.mp e;refine q ?_;split at h
  ·rename_i A;cases h;refine⟨D,U,o,y,s,P,λv H' F e1 r1 f1=>?_⟩;obtain⟨l,N,E⟩:=Ip f r1 A;exact⟨v,_,l,_,rfl,by rw[j];exact N,by rw[j];exact E,k _ H' _ e1 (.bl _) Fp.nil⟩
  ·cases h
end
section
def Hf(G:Gx)(r:V->List V->Hp->VK->Prop)(f:Val->W5->W6):Prop:=∀(D:Kn)(U:VS.Env)(d i H:Hp)(x:Val)(v:V)(F:X6)(l:W5)(h:List V)(j:Ye)(m:Md)(t:T)(Q:VK),
 aG d i->Rp G H v x.2 F->Fp D U d x.1 F->Args G D U i H l h j->f x l=Y (m,t)->(∀v g F,aG H g->Rp G g v t F->Fp D U d m F->Q v g)->r v h H Q
def EN{g:Pos}(A:PlainAttrs o)(h:Slot o d n)(RO:typeOf (.builtin n)=pure (.type "method_descriptor"))(P:SS X n r)(B:Hf G r f)(S:∀H v (x:Val) F l z,Rp G H v x.2 F->f x l=Y z->QL G.K o v H)(N:PV G X a ca)(R:Lj G X (e :: es) cs)(hK:{`q2,X.K=G.K})(Kz:{`q2,XAA a d X.env (eval a X.env)=eval a X.env})(KU:{`q2,((backTo j (P3 (e :: es) X.env)).all (λx=>!x.1)&&(backToKw j (SL [] X.env)).all (λx=>x.1.isSome)
   && decide ((e :: es).length+([]:List Keyword).length+(if ([]:List Keyword).isEmpty then 0 else 1)<30))=J})(Kt:{`q2,(g.endLine==j.line)=J})(E:{`q2,K1 e es X})(Kp:{`q2,K2 j es X}) :
  PV G X (.Call (.Attribute a d g) (e :: es) [] j) (eM f ca cs) :=
 PE.weak (o9 A h RO P N R Kz KU Kt E Kp) λO H Q L=>by
  refine L2.ah λP_ C=>?_;obtain⟨D,U,m,t,s,e,k⟩:=L;obtain⟨x,ea,e'⟩:=Zz.mp e;obtain⟨l,el,i⟩:=Zz.mp e';refine C ?_;refine⟨D,U,_,_,s,ea,λv q F e1 r1 f1=>⟨by rw[hK];exact S q v x F l _ r1 i,D,U,l,s.same e1,el,λu H2 Fs e2 r2 f2=>?_⟩⟩;exact B D U H q H2 x v F l u Fs m t Q e1 (r1.same e2) f1 ⟨e2,r2,f2⟩ i λw H3 F' e3 y f3=>k w H3 F' ((e1.trans e2).trans e3) y f3
def CA:∀(sep:Tx)(d:List Tx),Txt.join (sx sep) (d.map sx)=sx (dh sep d):=by
 intro sep d;have fold:∀(l:List Tx)(acc:Tx),(l.map sx).foldl (λacc p=>acc++(sx sep).cps++p.cps) acc.toArray=(l.foldl (λacc p=>acc++sep++p) acc).toArray:=by
  intro l
  induction l with
  |nil=>intro acc;rfl
  |cons x r f =>
   intro acc;rw[Zg,Y4,Y4,← f];congr 1;simp[sx]
 have g:∀(r:List Tx)(acc:Tx),r.foldl (λacc p=>acc++sep++p) acc=dh sep (acc :: r):=by
  intro r
  induction r with
  |nil=>intro acc;rfl
  |cons x r f =>
   intro acc;rw[Y4,f];cases r with
   |nil=>rfl
   |cons y r=>simp[dh]
 cases d with
 |nil=>rfl
 |cons x r =>
  show (⟨_⟩:Str)=⟨_⟩;congr 1;show ((r.map sx).foldl _ x.toArray)=_;rw[fold,g]
theorem rj:∀{d:List V}{l:W7}{g:Ye}{f:List Tx},RpL G H d l g->strs? l=Y f->d=f.map λs=>V.str (sx s)
 |_,_,_,_,.nil,e=>by cases e;rfl
 |_,_,_,_,.cons (t:=t) r q,e=>by
  cases t with
  |str s =>
   obtain⟨h,e1,e2⟩:=Zy.mp e;subst e2;rw[rj q e1,r.str_inv.1];rfl
  |_=>cases e
theorem nO:∀{d:List Tx}{f:Wu},aN (d.map λs=>V.str (sx s)) f->StrsAre f (d.map sx)
 |[],_,h=>by cases h;exact .nil
 |s :: d,_,h=>by
  cases h with
  |cons r q =>
   obtain⟨t,rfl⟩:=r;exact .cons _ _ (nO q)
def rJoin(K:Xd):V->List V->Hp->VK->Prop:=λx f H Q=>∃sep p d,x=.str (sx sep)/\f=[.ref p]/\KA K H p (d.map λs=>V.str (sx s))/\total d+d.length*sep.length<=16777216/\Q (.str (sx (dh sep d))) H
theorem vZ:∀d:List Tx,((d.map sx).map (·.length)).sum=total d
 |[]=>rfl
 |s :: r=>by
  rw[Zg,Zg,List.sum_cons,vZ r,ed];rfl
def xN:SS X "str.join" (rJoin X.K):=by
 intro d s O H x m v n Q I rx l h;refine L2.ah λz i=>?_;obtain⟨sep,p,w,rfl,rfl,j,hl,q⟩:=h;obtain⟨t,rfl⟩:=rx;obtain⟨u,rfl,f⟩:=vals1 l;cases f;obtain⟨A,r,g,y⟩:=I.list j;refine i ?_;refine join_list g.isList (by simpa using nO r) ?_ λo k=>⟨.str _,H,I.tok _,⟨_,by rw[CA]⟩,q⟩
 rw[vZ,Zt,ed];exact hl
theorem ki(d:Tx):∀f:List Tx,(dh d f).length<=total f+f.length*d.length
 |[]=>by simp[dh,total]
 |[x]=>by simp[dh,total]
 |x :: y :: r=>by
  have:=ki d (y :: r);simp only[dh,total,Zp,Ze]at this ⊢;lia
theorem kF(d:Tx):∀(f:List Tx)(c:Nat),c∈dh d f->c∈d\/∃s∈f,c∈s
 |[],c,h=>by simp[dh]at h
 |[x],c,h=>.inr ⟨x,Zv,h⟩
 |x :: y :: r,c,h=>by
  simp only[dh,ZU]at h;rcases h with (h | h) | h
  ·exact .inr ⟨x,Zv,h⟩
  ·exact .inl h
  ·refine(kF _ _ c h).imp id λg=>?_;grind
theorem jY:∀{g:List V}{l:W7}{h:Ye}{f:List Tx},RpL G H g l h->strs? l=Y f->∀s∈f,∀c∈s,c<1114112
 |_,_,_,_,.nil,e,s,d=>by cases e;simp at d
 |_,_,_,_,.cons (t:=t) r q,e,s,d=>by
  cases t with
  |str x =>
   obtain⟨i,e1,e2⟩:=Zy.mp e;subst e2;rcases Zj.mp d with rfl | d
   ·exact r.str_inv.2.2
   ·exact jY q e1 s d
  |_=>cases e
def Dt:Hf G (rJoin G.K) lO:=by
 intro D U P O H x v F l C R m t Q n r f A e k;unfold lO at e;split at e
 ·rename_i E sep L N;obtain⟨d,j,g⟩:=Zz.mp e;split at g
  ·rename_i hl;cases g;obtain⟨B,S,rfl,rfl,q⟩:=(A.rp).one;obtain⟨u,z,Gs,rfl,rfl,i,h⟩:=q.lst_inv;rw[rj h j]at i;refine⟨_,u,d,r.str_inv.1,rfl,KA.of i,hl,bj k (.str _ ⟨ZW (ki _ d) hl,λc s=>(kF _ d c s).elim (r.str_inv.2.2 c) λ⟨o,y,w⟩=>jY h j o y c w⟩)⟩
  ·cases g
 ·cases e
def oq(r:Rp G H v t F)(h:∃s,t=.str s):QL G.K "str" v H:=by
 obtain⟨s,rfl⟩:=h;rw[r.str_inv.1];rfl
def CS{d:Pos}(i:PV G X a ca)(j:Lj G X [e] cs)(g:{`q2,X.K=G.K})(m:{`q2,XAA a "join" X.env (eval a X.env)=eval a X.env})(q:{`q2,((backTo f (P3 [e] X.env)).all (λx=>!x.1)&&(backToKw f (SL [] X.env)).all (λx=>x.1.isSome)
   && decide ([e].length+([]:List Keyword).length+(if ([]:List Keyword).isEmpty then 0 else 1)<30))=J})(n:{`q2,(d.endLine==f.line)=J})(h:{`q2,K1 e [] X})(o:{`q2,(backTo f (P3 [] X.env)).any (·.1)=Z}) :
  PV G X (.Call (.Attribute a "join" d) [e] [] f) (eM lO ca cs) :=
 EN X7 PySem.F.slot_str_join PySem.F.type_str_join (g ▸ xN) Dt (λH v x F l z r e=>oq r (by
  unfold lO at e;split at e
  ·exact⟨_,rfl⟩
  ·cases e)) i j g m q n h o
end
end VS
end
section
namespace VS
@[simp] def NR(x y:Val):W6:=match x.2 with
 |.dct 0 l=>if iI y.2 then (fM l y.2).map (sub x.1) else M
 |_=>aL x y
noncomputable def flat:T->Bool
 |.non=>J
 |.bl _=>J
 |.int _=>J
 |.str _=>J
 |_=>Z
@[simp] def md(x y:Val):W6:=match y.2 with
 |.dct 0 l=>if iI x.2 then Y (.fr,.bl (fM l x.2).isSome) else M
 |.lst l=>if flat x.2&&l.all flat then Y (.fr,.bl (l.any λy=>eqT y x.2)) else M
 |.tup l=>if flat x.2&&l.all flat then Y (.fr,.bl (l.any λy=>eqT y x.2)) else M
 |_=>M
@[simp] def d9(x y:Val):W6:=match md x y with
 |some (_,.bl b)=>Y (.fr,.bl (!b))
 |_=>M
def pm{α:Type}(f:T->Option (T×α)):List Ky->T->Option (T×α)
 |[],t=>f t
 |.fld k :: r,t=>match t with
  |.obj (c+1) (q :: fs)=>(fs.findIdx? λp=>p.1==k).bind λi=>(fs[i]?).bind λp=>(pm f r p.2).map λz=>(.obj (c+1) (q :: fs.set i (p.1,z.1)),z.2)
  |_=>M
 |.un :: r,t=>match t with
  |.obj 0 [(0,.bl true),(m,x)]=>(pm f r x).map λz=>(.obj 0 [(0,.bl J),(m,z.1)],z.2)
  |_=>M
 |.at k :: r,t=>match t with
  |.lst l=>match k with
   |.int i=>(Lg l.length i).bind λj=>(l[j]?).bind λx=>(pm f r x).map λz=>(.lst (l.set j z.1),z.2)
   |_=>M
  |.dct 0 l=>if iI k then (l.findIdx? λp=>eqT p.1 k).bind λi=>(l[i]?).bind λp=>(pm f r p.2).map λz=>(.dct 0 (l.set i (p.1,z.1)),z.2) else M
  |_=>M
end VS
end
section
namespace VS
open PySem PySem.Spec PyProof.Rows L2
section
mutual
def N7:T->PyData
 |.non=>.none
 |.bl b=>.bool b
 |.int i=>.int i
 |.str s=>.str (sx s)
 |.tup l=>.tuple (pw l)
 |.lst l=>.list (pw l)
 |_=>.none
def pw:W7->List PyData
 |[]=>[]
 |t :: r=>N7 t :: pw r
end
def Jy(h:pC s):PyData.strOk (sx s)=J:=by
 unfold PyData.strOk sx;simp only[Array.all_eq_true,decide_eq_true_eq];intro i a;have:s.toArray[i]∈s:=by simp
 have:=h.2 _ this;simpa using this
def zm:(sx s==sx t)=(s==t):=by
 rw[Xf,beq_iff_eq,beq_iff_eq];constructor
 ·intro h;have:(sx s).cps=(sx t).cps:=by rw[h]
  simpa[sx] using this
 ·intro h;rw[h]
mutual
theorem qO:∀(n k:Nat)(t u:T),LI n t=J->LI k u=J->PyData.eqv (N7 t) (N7 u)=eqT t u
 |n,k,t,u,b,a=>by
  cases t with
  |scr _=>cases n<;>cases b
  |dct _ _=>cases n<;>cases b
  |obj _ _=>cases n<;>cases b
  |tup l =>
   cases n with
   |zero=>cases b
   |succ n =>
    cases u with
    |tup r =>
     cases k with
     |zero=>cases a
     |succ k =>
      exact oM n k l r (ZS.mp b) (ZS.mp a)
    |scr _=>cases k<;>cases a
    |dct _ _=>cases k<;>cases a
    |obj _ _=>cases k<;>cases a
    |_=>rfl
  |lst l =>
   cases n with
   |zero=>cases b
   |succ n =>
    cases u with
    |lst r =>
     cases k with
     |zero=>cases a
     |succ k =>
      exact oM n k l r (ZS.mp b) (ZS.mp a)
    |scr _=>cases k<;>cases a
    |dct _ _=>cases k<;>cases a
    |obj _ _=>cases k<;>cases a
    |_=>rfl
  |str s =>
   cases u with
   |str r=>exact zm
   |scr _=>cases k<;>cases a
   |dct _ _=>cases k<;>cases a
   |obj _ _=>cases k<;>cases a
   |_=>rfl
  |_ =>
   cases u with
   |scr _=>cases k<;>cases a
   |dct _ _=>cases k<;>cases a
   |obj _ _=>cases k<;>cases a
   |_=>rfl
theorem oM:∀(n k:Nat)(l r:W7),(∀t∈l,LI n t=J)->(∀t∈r,LI k t=J)->PyData.eqvAll (pw l) (pw r)=yJ l r
 |_,_,[],[],_,_=>rfl
 |_,_,[],_ :: _,_,_=>rfl
 |_,_,_ :: _,[],_,_=>rfl
 |n,k,t :: l,u :: r,d,b=>by
  show (PyData.eqv (N7 t) (N7 u)&&PyData.eqvAll (pw l) (pw r))=(eqT t u&&yJ l r);rw[qO n k t u (d t Zv) (b u Zv),oM n k l r (λx a=>d x (Zw _ a)) λx a=>b x (Zw _ a)]
end
def Rp.OM(r:Rp G H v (.tup d) F):∃b a e,v=.ref b/\H b=Y (.tup a)/\RpL G H a d e:=by
 cases r with
 |tup h q=>exact⟨_,_,_,rfl,h,q⟩
def Rp.OT(r:Rp G H v (.lst d) F):∃b a e,v=.ref b/\H b=Y (.lst a)/\RpL G H a d e:=by
 cases r with
 |lst h q=>exact⟨_,_,_,rfl,h,q⟩
theorem ma{s:KB}(f:∀{v:V}{t:T}{F:X6}{u:PP},Rp G H v t F->RelV v u->LI n t=J->∃b,Reads s.heap u (N7 t) b/\(N7 t).canLay0=J/\(N7 t).depth<=n):∀{d:List V}{a:W7}{y:Ye}{e:Wu},RpL G H d a y->aN d e->(∀t∈a,LI n t=J) →
  ∃b,ReadsAll s.heap e (pw a) b/\PyData.canLayAll0 (pw a)=J/\PyData.depthAll (pw a)<=n
 |_,_,_,_,.nil,r,_=>by cases r;exact⟨_,.nil,rfl,Yt _⟩
 |_,_,_,_,.cons p q,r,h=>by
  cases r with
  |cons r1 r2 =>
   refine L2.ah λz g=>?_;obtain⟨b,m,l,j⟩:=f p r1 (h _ Zv);obtain⟨bs,x,w,o⟩:=ma f q r2 λt i=>h t (Zw _ i);refine g ?_;exact⟨_,.cons m x,ZZ.mpr ⟨l,w⟩,Nat.max_le.mpr ⟨j,o⟩⟩
def oX(r:Rp G H v t F)(a:RelV v u)(d:flat t=J):∃e,Reads h u (N7 t) e/\(N7 t).canLay0=J/\(N7 t).depth<=n:=by
 cases r with
 |non=>cases a;exact⟨_,.none,rfl,Yt _⟩
 |bl b=>cases a;exact⟨_,.bool b,rfl,Yt _⟩
 |int i=>obtain⟨t,rfl⟩:=a;exact⟨_,.int i t,rfl,Yt _⟩
 |str s h=>obtain⟨t,rfl⟩:=a;exact⟨_,.str _ t,Jy h,Yt _⟩
 |_=>cases d
def kZ(I:Inv X d O H s)(n:Nat):∀{v:V}{t:T}{F:X6}{u:PP},Rp G H v t F->RelV v u->LI n t=J->∃w,Reads s.heap u (N7 t) w/\(N7 t).canLay0=J/\(N7 t).depth<=n:=by
 induction n with
 |zero =>
  intro v t F u r a h;refine oX r a ?_;cases t<;>first | rfl | exact h
 |succ n x =>
  intro v t F u r a h;cases t with
  |tup l =>
   obtain⟨b,y,D,rfl,e,q⟩:=Rp.OM r;cases a;obtain⟨E,f,z,C⟩:=I.tuple (LK.of e);obtain⟨w,p,m,j⟩:=ma x q f (ZS.mp h);obtain⟨o,g,i,B,hd⟩:=z;exact⟨_,.tuple g i hd (by simpa using p),m,WN j⟩
  |lst l =>
   obtain⟨b,y,D,rfl,e,q⟩:=Rp.OT r;cases a;obtain⟨E,f,A,C⟩:=I.list (KA.of e);obtain⟨w,p,m,j⟩:=ma x q f (ZS.mp h);obtain⟨o,g,i,B,hd⟩:=A.isList;exact⟨_,.list g i hd (by simpa using p),m,WN j⟩
  |scr _=>cases h
  |dct _ _=>cases h
  |obj _ _=>cases h
  |_=>exact oX r a L
def Dc(G:Gx)(a:Bool):R2:=λx y H Q=>∃t u F b,Rp G H x t F/\Rp G H y u b/\LI 60 t=J/\LI 60 u=J/\Q (.bl (if a then !eqT t u else eqT t u)) H
def jD{d:PyData}(h:d.canLay0=J)(a:d.depth<=60):SeqAt.shaped d=J:=by
 unfold SeqAt.shaped;grind
def uX(f:X.A.units+64<cLine):OpR X (SZ .Eq) (Dc G Z):=by
 intro a s O H x y v u Q I rx e h;obtain⟨t,w,F,p,r1,r2,d,b,q⟩:=h;obtain⟨o,n,m,l⟩:=kZ I 60 r1 rx d;obtain⟨bs,j,i,g⟩:=kZ I 60 r2 e b;refine eq_dataH n j (jD m l) (jD i g) f ⟨.bl _,H,I,rfl,?_⟩;rw[qO 60 60 t w d b];exact q
def zd(f:X.A.units+64<cLine):OpR X (SZ .NotEq) (Dc G J):=by
 intro a s O H x y v u Q I rx e h;obtain⟨t,w,F,p,r1,r2,d,b,q⟩:=h;obtain⟨o,n,m,l⟩:=kZ I 60 r1 rx d;obtain⟨bs,j,i,g⟩:=kZ I 60 r2 e b;refine ne_dataH n j (jD m l) (jD i g) f ⟨.bl _,H,I,rfl,?_⟩;rw[qO 60 60 t w d b];exact q
def zr:eY G (Dc G Z) oEq:=by
 intro D U b H x y u w f d m t Q a e k;unfold oEq at e;split at e
 ·rename_i h;cases e;exact⟨_,_,_,_,a.r1,a.r2,h.1,h.2,bj k (.bl _)⟩
 ·cases e
def Em:eY G (Dc G J) NQ:=by
 intro D U b H x y u w f d m t Q a e k;unfold NQ at e;split at e
 ·rename_i h;cases e;exact⟨_,_,_,_,a.r1,a.r2,h.1,h.2,bj k (.bl _)⟩
 ·cases e
def tells_eq:Tells oEq:=by
 intro x y m t e;unfold oEq at e;grind
def zB:Tells NQ:=by
 intro x y m t e;unfold NQ at e;grind
end
structure Kq(D:Kn)(U:VS.Env)(H:Hp)(D':Kn)(U':VS.Env)(H':Hp):Prop where
 keep:∀a o,H a=some o->¬bD D U a->H' a=some o/\¬bD D' U' a
 KC:∀a,H a≠none->H' a≠none
 ow:∀a,bD D' U' a->bD D U a\/H a=none
 pu:∀a,c9 D' U' a->c9 D U a\/bD D U a\/H a=none
 kept:Kept H H'
theorem Kq.refl(D:Kn)(U:VS.Env)(H:Hp):Kq D U H D U H:=⟨λa o h n=>⟨h,n⟩,λ_ h=>h,λ_ h=>.inl h,λ_ h=>.inl h,Kept.refl H⟩
theorem Kq.none(f:Kq D U H g d b)(h:b a=M):H a=M:=by
 cases e:H a with
 |none=>rfl
 |some o=>exact absurd h (f.KC a (by grind))
theorem Kq.trans{D l j:Kn}{U d b:VS.Env}{H i e:Hp}(f:Kq D U H l d i)(g:Kq l d i j b e):Kq D U H j b e where
 keep:=λa o h n=>let ⟨p,m⟩:=f.keep a o h n;g.keep a o p m
 KC:=λa h=>g.KC a (f.KC a h)
 ow:=λa h=>by
  rcases g.ow a h with h | h
  ·exact f.ow a h
  ·exact .inr (f.none h)
 pu:=λa h=>by
  rcases g.pu a h with h | h | h
  ·exact f.pu a h
  ·rcases f.ow a h with h | h
   ·exact .inr (.inl h)
   ·exact .inr (.inr h)
  ·exact .inr (.inr (f.none h))
 kept:=f.kept.trans g.kept
def Kq.same{H:Hp}(e:aG H b):Kq D U H D U b :=
 ⟨λa o h n=>⟨e a o h,n⟩,λa h z=>h (e.free z),λ_ h=>.inl h,λ_ h=>.inl h,Kept.of e⟩
def uq(D:Kn)(U:VS.Env)(H:Hp):Md->X6->Prop
 |.fr,F=>F.Nodup/\∀a∈F,H a=M\/bD D U a
 |_,F=>∀a∈F,H a=M\/c9 D U a\/bD D U a
theorem uq.back(f:Kq D U H g d e):∀{m:Md},uq g d e m F->uq D U H m F
 |.fr,h=>⟨h.1,λa b=>(h.2 a b).elim (λz=>.inl (f.none z)) λz=>(f.ow a z).elim .inr .inl⟩
 |.pu,h=>λa b=>by
  rcases h a b with z | z | z
  ·exact .inl (f.none z)
  ·rcases f.pu a z with z | z | z
   ·exact .inr (.inl z)
   ·exact .inr (.inr z)
   ·exact .inl z
  ·exact(f.ow a z).elim (λz=>.inr (.inr z)) .inl
 |.bo,h=>λa b=>by
  rcases h a b with z | z | z
  ·exact .inl (f.none z)
  ·rcases f.pu a z with z | z | z
   ·exact .inr (.inl z)
   ·exact .inr (.inr z)
   ·exact .inl z
  ·exact(f.ow a z).elim (λz=>.inr (.inr z)) .inl
noncomputable def Nx(G:Gx)(D:Kn)(U:VS.Env)(H:Hp)(b:VS.Env)(k:L2.St->Hp->Prop):Prop:=∀e d a,SR G e b d a->Kq D U H e b a->k d a
def qk(G:Gx)(D:Kn)(U:VS.Env)(H:Hp)(Db:Ends):Out->Prop
 |.nx a=>Nx G D U H a Db.nx
 |.bk a=>Nx G D U H a Db.bk
 |.ct a=>Nx G D U H a Db.ct
 |.rt v a=>∀u b F d e,SR G d a e b->Kq D U H d a b->Rp G b u v.2 F->uq D U H v.1 F->Db.rt u b
def tS(G:Gx)(c:Sx):TS:=λDb O H=>∃D U o,SR G D U O H/\c U=Y o/\qk G D U H Db o
def PSV(G:Gx)(X:Cx)(a:Stmt)(c:Sx):Prop:=PS X a (tS G c)
def fK(G:Gx)(X:Cx)(a:List Stmt)(c:Sx):Prop:=Mr X a (tS G c)
def PS.weak{X:Cx}(h:PS X e t)(w:∀Db O H,a Db O H->t Db O H):PS X e a:=λb s O H Db I q=>h _ s O H Db I (w Db O H q)
def Mr.weak{X:Cx}(h:Mr X e t)(w:∀Db O H,a Db O H->t Db O H):Mr X e a:=λb s O H Db I q=>h _ s O H Db I (w Db O H q)
theorem qk.back(f:Kq D U H j e i):∀{o:Out},qk G D U H Db o->qk G j e i Db o
 |.nx _,h=>λd b a s g=>h _ _ a s (f.trans g)
 |.bk _,h=>λd b a s g=>h _ _ a s (f.trans g)
 |.ct _,h=>λd b a s g=>h _ _ a s (f.trans g)
 |.rt v _,h=>λu a F d b s g r q=>h u a F _ _ s (f.trans g) r (q.back f)
section
variable{st:Stmt}
def bI:fK G X [] fC:=Mr.weak CL λDb O H a=>by
 obtain⟨D,U,o,s,e,k⟩:=a;cases (e);exact k D O H s (Kq.refl _ _ _)
def ag(i:PSV G X st c1)(h:fK G X OP c2):fK G X (st :: OP) (av c1 c2):=Mr.weak (tR i h) λDb O H g=>by
 obtain⟨D,U,o,s,e,k⟩:=g;obtain⟨b,e1,e2⟩:=Zz.mp e;refine⟨D,U,b,s,e1,?_⟩;cases b with
 |nx a=>exact λm j l d f=>⟨_,_,o,d,e2,k.back f⟩
 |rt v a=>cases e2;exact k
 |bk a=>cases e2;exact k
 |ct a=>cases e2;exact k
def dk(h:MQ G X t d)(j:fK G X a c1)(i:fK G X b c2):PSV G X (.If t a b pos) (Ml d c1 c2):=PS.weak (AY h j i) λDb O H g=>by
 obtain⟨D,U,o,s,e,k⟩:=g;obtain⟨⟨m,x⟩,ec,e1⟩:=Zz.mp e;obtain⟨f,l,e2⟩:=Zz.mp e1;refine⟨D,U,m,x,f,s,ec,l,λn e3=>?_⟩;cases f with
 |true =>
  rw[Zm L]at e2;exact uL ⟨D,U,o,s.same e3,e2,k.back (Kq.same e3)⟩
 |false =>
  rw[Zl Za]at e2;exact uZ ⟨D,U,o,s.same e3,e2,k.back (Kq.same e3)⟩
theorem Fp.ret:∀{m:Md},Fp D U H m F->uq D U H (match m with | .bo=>.pu | m=>m) F
 |.fr,f=>⟨f.1,λa b=>.inl (f.2 a b)⟩
 |.pu,f=>λa b=>(f a b).elim .inl λz=>.inr (.inl z)
 |.bo,f=>f
def bx(he:PV G X e ce):PSV G X (.Return (Y e) pos) (fL ce):=PS.weak (rE he) λDb O H a=>by
 obtain⟨D,U,o,s,e,k⟩:=a;obtain⟨⟨m,x⟩,ec,e1⟩:=Zz.mp e;cases e1;exact⟨D,U,m,x,s,ec,λv b F e1 r1 f1=>k v b F D O (s.same e1) (Kq.same e1) r1 f1.ret⟩
def cG{U:VS.Env}{c:Cell}(h:(U.set i M)[j]?=Y (Y c)):j≠i/\U[j]?=Y (Y c):=by
 rw[WT]at h;split at h
 ·split at h<;>cases h
 ·rename_i n;exact⟨λz=>n z.symm,h⟩
def SR.drop(s:SR G D U O H)(i:Nat):SR G D (U.set i M) O H :=
 ⟨by rw[ZF];exact s.len,λj c h=>s.rp j c (cG h).2,λj t h=>s.nd j t (cG h).2,λj k t c b a n=>s.sep j k t c (cG b).2 (cG a).2 n⟩
def Kq.drop(i:Nat):Kq D U H D (U.set i M) H :=
 ⟨λa o h n=>⟨h,λ⟨j,t,d,b⟩=>n ⟨j,t,(cG d).2,b⟩⟩,λ_ h=>h,λa ⟨j,t,d,b⟩=>.inl ⟨j,t,(cG d).2,b⟩,λa ⟨j,t,d,b⟩=>.inl ⟨j,t,(cG d).2,b⟩,Kept.refl H⟩
def b7{X:Cx}(i:Nat)(r:{`q2,X.N[i]?=Y x})(j:{`q5,Ni X.env.scope x})(n:{`q1,K3 x})(u:{`q1,K4 x}):PSV G X (.Return (Y (.Name x p)) pos) (eO i):=PS.weak (rE (dS r j n u)) λDb O H l=>by
 obtain⟨D,U,o,s,e,k⟩:=l;unfold eO at e;split at e
 ·rename_i t h;obtain⟨v,g,b⟩:=s.rp _ _ h;cases e;exact⟨v,g,k v H _ D O (s.drop i) (Kq.drop i) b ⟨s.nd i t h,λa d=>.inr ⟨i,t,h,d⟩⟩⟩
 ·rename_i t h;obtain⟨v,g,b⟩:=s.rp _ _ h;cases e;refine⟨v,g,k v H _ D O s (Kq.refl _ _ _) b ?_⟩;have f:Fp D U H .pu _:=λa d=>.inr ⟨i,t,h,d⟩;have f2:=(f.up b).ret;have:(match (VS.up .pu (jQ (.pu t))).1 with | .bo=>Md.pu | m=>m)=(VS.up .pu t).1:=by
   show (match (VS.up _ t).1 with | .bo=>Md.pu | m=>m)=_;unfold VS.up;split<;>(rename_i q;revert q;split<;>simp)
  rw[this]at f2;exact f2
 ·cases e
noncomputable def m8(D:Kn)(i:Nat)(F:X6):Kn:=λj=>if j=i then F else D j
def jJ:m8 D i F i=F:=Zm L
def fj(h:j≠i):m8 D i F j=D j:=Zl h
def ig{U:VS.Env}{c:Cell}(h:(U.set i (Y c))[j]?=Y (Y a)):(j=i/\a=c)\/(j≠i/\U[j]?=Y (Y a)):=by
 rw[WT]at h;split at h
 ·simp_all
 ·rename_i n;exact .inr ⟨λz=>n z.symm,h⟩
def SR.put{G:Gx}{D:Kn}{U:VS.Env}{O:L2.St}{H q:Hp}{i:Nat}{v:V}{c:Cell}{F:X6}(s:SR G D U O H)(y:i<U.length)(r:Rp G q v (jQ c) F)(x:∀j b,j≠i->U[j]?=Y (Y b)->∀w,Rp G H w (jQ b) (D j)->Rp G q w (jQ b) (D j))(z:∀t,c=.ow t->F.Nodup)(d:∀t,c=.ow t->∀j b,j≠i->U[j]?=Y (Y b)->∀a∈F,a∉D j)(m:∀j t,j≠i->U[j]?=Y (Y (.ow t))->∀a∈D j,a∉F) :
  SR G (m8 D i F) (U.set i (Y c)) (O.set i (Y v)) q where
 len:=by rw[ZF,ZF];exact s.len
 rp:=λj b h=>by
  rcases ig h with⟨rfl,rfl⟩ | ⟨n,h⟩
  ·exact⟨v,by rw[Yh (by rw[← s.len];exact y)],by rw[jJ];exact r⟩
  ·obtain⟨w,o,g⟩:=s.rp j b h;exact⟨w,by rw[ZH (Z9 n)];exact o,by rw[fj n];exact x j b n h w g⟩
 nd:=λj t h=>by
  rcases ig h with⟨rfl,e⟩ | ⟨n,h⟩
  ·rw[jJ];exact z t e.symm
  ·rw[fj n];exact s.nd j t h
 sep:=λj k t b o g n=>by
  rcases ig o with⟨rfl,e⟩ | ⟨l,u⟩
  ·rcases ig g with⟨rfl,e2⟩ | ⟨f,p⟩
   ·exact absurd L n
   ·rw[jJ,fj f];exact d t e.symm k b f p
  ·rcases ig g with⟨rfl,e2⟩ | ⟨f,p⟩
   ·rw[jJ,fj l];exact m j t l u
   ·rw[fj l,fj f];exact s.sep j k t b u p n
def dF{U:VS.Env}{c:Cell}(h:bD (m8 D i F) (U.set i (Y c)) a):(∃t,c=.ow t/\a∈F)\/bD D U a:=by
 obtain⟨j,t,d,b⟩:=h;rcases ig d with⟨rfl,e⟩ | ⟨n,d⟩
 ·rw[jJ]at b;exact .inl ⟨t,e.symm,b⟩
 ·rw[fj n]at b;exact .inr ⟨j,t,d,b⟩
def je{U:VS.Env}{c:Cell}(h:c9 (m8 D i F) (U.set i (Y c)) a):(∃t,c=.pu t/\a∈F)\/c9 D U a:=by
 obtain⟨j,t,d,b⟩:=h;rcases ig d with⟨rfl,e⟩ | ⟨n,d⟩
 ·rw[jJ]at b;exact .inl ⟨t,e.symm,b⟩
 ·rw[fj n]at b;exact .inr ⟨j,t,d,b⟩
def SR.MS(s:SR G D U O H)(h:bD D U a)(f:c9 D U a):False:=by
 obtain⟨j,t,d,b⟩:=h;obtain⟨k,u,i,g⟩:=f;exact s.sep j k t _ d i (λe=>by grind) a b g
def SR.val{m:Md}{c:Cell}(s:SR G D U O H)(B:i<U.length)(e:aG H A)(r:Rp G A v t F)(f:Fp D U H m F)(p:(c=.pu t/\m ≠ .bo)\/(c=.ow t/\m=.fr)):SR G (m8 D i F) (U.set i (Y c)) (O.set i (Y v)) A/\Kq D U H (m8 D i F) (U.set i (Y c)) A:=by
 have KC:∀{a},H a=M->∀j y,U[j]?=Y _->a∉D j:=λ{a} h j y g b=>by
  obtain⟨w,_,q⟩:=s.rp j y g;exact Kv.pe (q.KC a b) h
 have ct:jQ c=t:=by rcases p with⟨rfl,_⟩ | ⟨rfl,_⟩<;>rfl
 have x:∀a∈F,H a=M\/c9 D U a:=λa b=>by
  rcases p with⟨_,n⟩ | ⟨_,n⟩
  ·exact f.pu n a b
  ·rw[n]at f;exact .inl (f.2 a b)
 constructor
 ·refine s.put B (by rw[ct];exact r) (λj y n g w q=>q.same e) (λu d=>?_) (λu d j y n g a b=>?_) λj u n g a b C=>?_
  ·rcases p with⟨h,_⟩ | ⟨_,h⟩
   ·rw[h]at d;cases d
   ·rw[h]at f;exact f.1
  ·rcases p with⟨h,_⟩ | ⟨_,h⟩
   ·rw[h]at d;cases d
   ·rw[h]at f;exact KC (f.2 a b) j y g
  ·rcases x a C with z | z
   ·exact KC z j _ g b
   ·exact s.MS ⟨j,u,g,b⟩ z
 ·refine⟨λa o h n=>⟨e a o h,λz=>?_⟩,λa h z=>h (e.free z),λa h=>?_,λa h=>?_,Kept.of e⟩
  ·rcases dF z with⟨u,d,b⟩ | z
   ·rcases p with⟨l,_⟩ | ⟨_,l⟩
    ·rw[l]at d;cases d
    ·rw[l]at f;rw[f.2 a b]at h;cases h
   ·exact n z
  ·rcases dF h with⟨u,d,b⟩ | z
   ·rcases p with⟨l,_⟩ | ⟨_,l⟩
    ·rw[l]at d;cases d
    ·rw[l]at f;exact .inr (f.2 a b)
   ·exact .inl z
  ·rcases je h with⟨u,d,b⟩ | z
   ·exact(x a b).elim (λz=>.inr (.inr z)) .inl
   ·exact .inl z
def dR{pos:Pos}(he:PV G X e ce)(n:X.N.Nodup)(j:{`q2,X.N[i]?=Y x})(f:{`q6,Loc X.env.scope x})(g:{`q2,swapsWith e (Y (.Name x a)) pos.line X.env=pure Z})(l:{`q7,X.fn x=J\/X.env.scope.names.lookup x=Y .local}) :
  PSV G X (.Assign [.Name x a] e pos) (jM i ce):=PS.weak (my n j f he g l) λDb O H h=>by
 obtain⟨D,U,o,s,e,k⟩:=h;obtain⟨⟨m,t⟩,ec,e1⟩:=Zz.mp e;obtain⟨c,eC,e2⟩:=Zz.mp e1;split at e2
 ·rename_i hl;cases e2;refine⟨D,U,m,t,s,ec,λv q F e3 b p=>?_⟩;obtain⟨q1,d⟩:=s.val (c:=c) hl e3 b p (by
   unfold cellOf at eC;grind)
  exact k _ _ q q1 d
 ·cases e2
def aF{pos:Pos}(he:PV G X e ce)(n:X.N.Nodup)(j:{`q2,X.N[i]?=Y x})(f:{`q6,Loc X.env.scope x})(g:{`q2,swapsWith e (Y (.Name x a)) pos.line X.env=pure Z})(l:{`q7,X.fn x=J\/X.env.scope.names.lookup x=Y .local}) :
  PSV G X (.Assign [.Name x a] e pos) (aU i ce):=PS.weak (my n j f he g l) λDb O H h=>by
 obtain⟨D,U,o,s,e,k⟩:=h;obtain⟨⟨m,t⟩,ec,e1⟩:=Zz.mp e;split at e1
 ·cases e1
 ·rename_i hm;split at e1
  ·rename_i hl;cases e1;refine⟨D,U,m,t,s,ec,λv q F e3 b p=>?_⟩;obtain⟨q1,d⟩:=s.val hl e3 b p (.inl ⟨rfl,hm⟩);exact k _ _ q q1 d
  ·cases e1
def SR.frz(s:SR G D U O H)(h:U[i]?=Y (Y (.ow t))):SR G D (U.set i (Y (.pu t))) O H/\Kq D U H D (U.set i (Y (.pu t))) H:=by
 have back:∀{j c},(U.set i (Y (.pu t)))[j]?=Y (Y c)->∃l,U[j]?=Y (Y l)/\jQ l=jQ c/\∀u,c=.ow u->l=.ow u:=λ{j c} g=>by
  rcases ig g with⟨rfl,rfl⟩ | ⟨n,g⟩
  ·exact⟨_,h,rfl,λu p=>nomatch p⟩
  ·exact⟨c,g,rfl,λu p=>p⟩
 refine⟨⟨by rw[ZF];exact s.len,λj c g=>?_,λj u g=>?_,λj k u c b d n=>?_⟩,⟨λa o r n=>⟨r,λ⟨j,u,b,d⟩=>?_⟩,λ_ h=>h,λa ⟨j,u,b,d⟩=>?_,λa ⟨j,u,b,d⟩=>?_,Kept.refl H⟩⟩
 ·obtain⟨l,b,d,_⟩:=back g;obtain⟨v,f,x⟩:=s.rp j l b
  simp_all
 ·obtain⟨l,b,_,w⟩:=back g;rw[w u L]at b;exact s.nd j u b
 ·obtain⟨c1,f,_,m⟩:=back b;obtain⟨c2,q,_,_⟩:=back d;rw[m u L]at f;exact s.sep j k u c2 f q n
 ·obtain⟨c1,f,_,m⟩:=back b;rw[m u L]at f;exact n ⟨j,u,f,d⟩
 ·obtain⟨c1,f,_,m⟩:=back b;rw[m u L]at f;exact .inl ⟨j,u,f,d⟩
 ·rcases ig b with⟨rfl,_⟩ | ⟨n,b⟩
  ·exact .inr (.inl ⟨j,t,h,d⟩)
  ·exact .inl ⟨j,u,b,d⟩
def iC(i:Nat)(h:fK G X OP c):fK G X OP (av (qJ i) c):=Mr.weak h λDb O H d=>by
 obtain⟨D,U,o,s,e,k⟩:=d;obtain⟨f,e1,e2⟩:=Zz.mp e;unfold qJ at e1;split at e1
 ·rename_i t b;cases e1;obtain⟨q1,a⟩:=s.frz b;exact⟨D,_,o,q1,e2,k.back a⟩
 ·cases e1;exact⟨D,U,o,s,e2,k⟩
 ·cases e1
end
section
variable{st:Stmt}
structure Chg(G:Gx)(H:Hp)(v:V)(F:X6)(t':T)(H2:Hp)(F':X6):Prop where
 kept:Kept H H2
 keep:∀b o,b∉F->H b=some o->H2 b=some o
 KC:∀b,H b≠none->H2 b≠none
 rp:Rp G H2 v t' F'
 nd:F'.Nodup
 sub:∀a∈F',a∈F\/H a=none
def SR.mut(s:SR G D U O H)(m:U[i]?=Y (Y (.ow t)))(A:O[i]?=Y (Y v))(g:Chg G H v (D i) p x r) :
  SR G (m8 D i r) (U.set i (Y (.ow p))) O x/\Kq D U H (m8 D i r) (U.set i (Y (.ow p))) x:=by
 have off:=λj f n d a b l=>s.sep i j t f m d (Z9 n) a l b;have es:O.set i (Y v)=O:=by
  obtain⟨h,e⟩:=Zk.mp A;rw[← e];exact XW h
 have new:∀a∈r,∀j f,j≠i->U[j]?=Y _->a∉D j:=λa b j f n d l=>by
  rcases g.sub a b with z | z
  ·exact off j f n d a l z
  ·obtain⟨w,_,q⟩:=s.rp j f d;exact Kv.pe (q.KC a l) z
 constructor
 ·have:=s.put (c:=.ow p) (v:=v) ((Zk.mp m).1) g.rp (λj f n d w q=>q.keep g.kept λa b o B=>g.keep a o (off j f n d a b) B) (λ_ _=>g.nd) (λu y j f n d a b=>new a b j f n d) λj u n d a b l=>new a l j _ n d b
  simp_all
 ·refine⟨λa o h n=>⟨g.keep a o (λz=>n ⟨i,t,m,z⟩) h,λz=>?_⟩,g.KC,λa h=>?_,λa h=>?_,g.kept⟩
  ·rcases dF z with⟨u,_,b⟩ | z
   ·rcases g.sub a b with z | z
    ·exact n ⟨i,t,m,z⟩
    ·rw[z]at h;cases h
   ·exact n z
  ·rcases dF h with⟨u,_,b⟩ | z
   ·rcases g.sub a b with z | z
    ·exact .inl ⟨i,t,m,z⟩
    ·exact .inr z
   ·exact .inl z
  ·rcases je h with⟨u,y,b⟩ | z
   ·cases y
   ·exact .inl z
def Bz(G:Gx)(r:V->List V->Hp->VK->Prop)(f:T->W5->Option (T×Val)):Prop:=∀(D:Kn)(U:VS.Env)(H g:Hp)(v:V)(t b:T)(F:X6)(l:W5)(a:List V)(h:Ye)(x:Val)(Q:VK),
 Rp G H v t F->F.Nodup->Args G D U H g l a h->f t l=Y (b,x)->(∀u d i,Chg G H v F b d i->Q u d)->r v a g Q
def Ag{pos:Pos}{b:Pos}(i:Nat)(pa:PlainAttrs q)(h:Slot q a n)(RO:typeOf (.builtin n)=pure (.type "method_descriptor"))(hm:SS X n r)(ok:Bz G r f)(hT:∀H v t F l z,Rp G H v t F->f t l=Y z->QL G.K q v H)(ha:Lj G X (e :: es) cs)(hK:{`q2,X.K=G.K})(hN:{`q2,X.N[i]?=Y x})(hv:{`q5,Ni X.env.scope x})(hd:{`q1,K3 x})(KQ:{`q1,K4 x})(Kz:{`q2,XAA (.Name x j) a X.env (eval (.Name x j) X.env)=eval (.Name x j) X.env})(KU:{`q2,((backTo d (P3 (e :: es) X.env)).all (λx=>!x.1)&&(backToKw d (SL [] X.env)).all (λx=>x.1.isSome)
   && decide ((e :: es).length+([]:List Keyword).length+(if ([]:List Keyword).isEmpty then 0 else 1)<30))=J})(Kt:{`q2,(b.endLine==d.line)=J})(hs:{`q2,K1 e es X})(Kp:{`q2,K2 d es X})(Lw:{`q2,swapsWith (.Call (.Attribute (.Name x j) a b) (e :: es) [] d) M pos.line X.env=pure Z}) :
  PSV G X (.Expr (.Call (.Attribute (.Name x j) a b) (e :: es) [] d) pos) (sX (pG i [] f cs)) :=
 PS.weak (gD (o9 pa h RO hm (dS hN hv hd KQ) ha Kz KU Kt hs Kp) Lw) λDb O H hq=>by
  refine L2.ah λP_ m=>?_;obtain⟨D,U,o,s,e,k⟩:=hq;unfold sX pG at e;obtain⟨⟨B,U'⟩,e1,e2⟩:=Zy.mp e;refine m ?_;split at e1
  ·rename_i t p;refine L2.ah λP_ m=>?_;obtain⟨ks,ek,e3⟩:=Zz.mp e1;cases (ek);obtain⟨l,el,e4⟩:=Zz.mp e3;obtain⟨⟨Q,x2⟩,e5,e6⟩:=Zy.mp e4;cases e6;cases e2;obtain⟨v,y,w⟩:=s.rp _ _ p;refine m ?_;have A:=e5;refine⟨v,y,by rw[hK];exact hT H v t _ l _ w A,D,U,l,s,el,λP H' Fs q1 S R=>?_⟩;refine ok D U H H' v t Q _ l P Fs B _ w (s.nd i t p) ⟨q1,S,R⟩ A λu H2 F' g=>?_;obtain⟨E,C⟩:=s.mut p y g;exact k _ O H2 E C
  ·cases e1
theorem Chg.upd(e:aG H d)(n:a∈F)(m:Kv (d a))(r:Rp G (upd d a o) v i f)(l:f.Nodup)(g:∀a∈f,a∈F\/H a=M):Chg G H v F i (upd d a o) f :=
 ⟨(Kept.of e).trans (Kept.upd (.inl m)),λb j hb h=>by rw[ay (λz=>hb (by rw[z];exact n))];exact e b j h,
  λb h z=>by
   by_cases q:b=a
   ·subst q;rw[aA]at z;cases z
   ·rw[ay q]at z;exact h (e.free z),r,l,g⟩
def RpL.off{o:HO}(r:RpL G H f g d)(j:Kv (H a))(h:a∉d.flatten):RpL G (upd H a o) f g d :=
 r.keep (Kept.upd (.inl j)) λb hb l i=>by rw[ay (λz=>h (by rw[← z];exact hb))];exact i
def nK(h:fit v=Y t):v=(.fr,t):=by
 obtain⟨m,x⟩:=v;cases m<;>first | (cases h;rfl) | cases h
def l8:Bz G xT bc:=by
 intro D U H B v t N F l C O x Q r nd A e k;unfold bc at e;split at e
 ·rename_i E y;obtain⟨z,q,e1⟩:=Zz.mp e;have s:=nK q;subst s;split at e1
  ·rename_i hl;cases e1;obtain⟨a,j,Gs,rfl,rfl,g,f⟩:=r.lst_inv;obtain⟨w,i,rfl,rfl,u⟩:=(A.rp).one;have d:=A.fp.each 0 _ _ L L;have h:=A.same a _ g;have m1:Kv (B a):=by rw[h];exact True.intro
   have na:=(Zd.mp nd).1;have nw:a∉i:=λz=>by rw[d.2 a z]at g;cases g
   refine⟨a,j,w,rfl,rfl,h,by rw[f.len.1];exact hl,k _ _ (a :: (Gs++[i]).flatten) ?_⟩;have off:=λb hb hw=>Kv.pe (f.KC b hb) (d.2 b hw);refine Chg.upd A.same Zv m1 (.lst aA (((f.same A.same).off m1 na).append (.cons (u.keep (Kept.upd (.inl m1)) λb hb o n=>by rw[ay (λz=>nw (by rw[← z];exact hb))];exact n) .nil))) ?_ ?_
   ·rw[Yd];refine Zd.mpr ⟨λm=>?_,ZR.mpr ⟨(Zd.mp nd).2,by simpa using d.1,λb hb c p z=>?_⟩⟩
    ·grind
    ·subst z;exact off b hb (by simpa using p)
   ·intro b hb;rcases Zj.mp hb with rfl | hb
    ·exact .inl Zv
    ·rw[Yd]at hb;rcases ZU.mp hb with hb | hb
     ·simp_all
     ·exact .inr (d.2 b (by simpa using hb))
  ·cases e1
 ·cases e
def uf(r:Rp G H v (.lst b) F):QL G.K "list" v H:=by
 obtain⟨a,f,Gs,rfl,rfl,d,g⟩:=r.lst_inv;exact .inl ⟨rfl,_,KA.of d⟩
def iV(r:Rp G H v t F)(h:bc t l=Y z):QL G.K "list" v H:=by
 unfold bc at h;split at h
 ·exact uf r
 ·cases h
end
structure Ov(G:Gx)(J:It)(l:W7)(C:X6)(H:Hp):Prop where
 run:∀H2,Kept H H2->(∀a∈C,∀o,H a=some o->H2 a=some o) →
  (∀(i:Nat)(t:T),l[i]?=some t->J.go i H2/\∀x H3,J.UU i H2 x H3->aG H2 H3/\∃F,Rp G H3 x t F/\∀a∈F,a∈C\/H2 a=none)/\∀(i:Nat),l.length<=i->J.stop i H2
 KC:∀a∈C,H a≠none
def FpC(D:Kn)(U:VS.Env)(H:Hp)(m:Md)(C:X6):Prop:=∀a∈C,H a=M\/c9 D U a\/(m=.bo/\bD D U a)
theorem Fp.c{U:VS.Env}:∀{m:Md},Fp D U H m F->FpC D U H m F
 |.fr,f=>λa b=>.inl (f.2 a b)
 |.pu,f=>λa b=>(f a b).imp id .inl
 |.bo,f=>λa b=>(f a b).imp id λz=>z.imp id λz=>⟨rfl,z⟩
def tI(G:Gx)(c:MX):TI:=λO H R=>∃D U m l,SR G D U O H/\c U=Y (m,l)/\∀J a C,aG H a->Ov G J l C a->FpC D U H m C->R J a
def PVI(G:Gx)(X:Cx)(b a:Expr)(c:MX):Prop:=PI X b a (tI G c)
def PI.weak{X:Cx}(h:PI X a e t)(w:∀O H Q,b O H Q->t O H Q):PI X a e b:=λd s O H Q I q=>h _ s O H Q I (w O H Q q)
section
def Ae(H:Hp)(d:Int)(n:Nat):Ov G (VU d n) (rng d n) [] H:=by
 refine⟨λq _ _=>⟨λi t h=>?_,λi h=>(by simpa[rng] using h:n<=i)⟩,λa h=>by simp at h⟩;unfold rng at h;rw[ZY]at h;obtain⟨k,g,e⟩:=Zy.mp h;obtain⟨f,e2⟩:=Zk.mp g;rw[Yz]at f;have l:i=k:=by simpa using e2
 subst l;refine⟨f,λx o j=>?_⟩;obtain⟨e3,m⟩:=j;subst e3;subst m;rw[← e];exact⟨aG.refl _,[],.int _,λa h=>by simp at h⟩
def iy(u:PV G X a ca)(t:Gl X "range")(r:X.mg "range" = M)(o:{`q2,K1 a [] X})(y:{`q2,P3 [a] X.env=[(Z,eval a X.env)]}):PVI G X tg (.Call (.Name "range" p) [a] [] pos) (fG ca) :=
 PI.weak (lU t r (bA u dQ o) y) λO H R q=>by
  obtain⟨D,U,m,l,s,e,k⟩:=q;obtain⟨⟨n,x⟩,w,e1⟩:=Zz.mp e;obtain⟨j,f,e2⟩:=Zz.mp e1;split at e2
  ·rename_i d;cases e2;refine⟨D,U,n,x,s,w,λv g F e3 i A=>?_⟩;cases x with
   |int z =>
    cases f;refine⟨j,by rw[i.int_inv],?_,?_,k _ g [] e3 (Ae g 0 _) λa h=>by simp at h⟩
    ·have:=d.1;unfold Si at this;lia
    ·have:=d.2;unfold Si at this;lia
   |_=>cases f
  ·cases e2
def cQ{d:Ye}{i:Nat}{F:X6}(h:d[i]?=Y F){a:On}(f:a∈F):a∈d.flatten:=(bM h).subset f
def CG{a:On}(K:Xd)(n:H a=Y (.lst d))(r:RpL G H d g l):Ov G (Itl K a) g (a :: l.flatten) H:=by
 refine⟨λy k c=>?_,λb hb=>?_⟩
 ·have f:=c a Zv _ n;refine⟨λi t h=>?_,λi h=>⟨d,KA.of f,by rw[r.len.1];exact h⟩⟩;obtain⟨v,F,j,u,s⟩:=(r.keep k λb hb o m=>c b (Zw _ hb) o m).get i h;refine⟨⟨d,v,KA.of f,j⟩,λx w q=>?_⟩;obtain⟨e1,e2⟩:=q;subst e1;have ex:=e2 d (KA.of f);rw[j]at ex;cases ex;exact⟨aG.refl _,F,s,λb hb=>.inl (Zw _ (cQ u hb))⟩
 ·rcases Zj.mp hb with rfl | hb
  ·grind
  ·exact Kv.pe (r.KC b hb)
def FF{a:On}(K:Xd)(n:H a=Y (.tup d))(r:RpL G H d g l):Ov G (Itt K a) g l.flatten H:=by
 refine⟨λy k c=>?_,λb hb=>Kv.pe (r.KC b hb)⟩;have f:=k.tup a _ n;refine⟨λi t h=>?_,λi h=>⟨d,LK.of f,by rw[r.len.1];exact h⟩⟩;obtain⟨v,F,j,u,s⟩:=(r.keep k λb hb o m=>c b hb o m).get i h;refine⟨⟨d,v,LK.of f,j⟩,λx w q=>?_⟩;obtain⟨e1,e2⟩:=q;subst e1;have ex:=e2 d (LK.of f);rw[j]at ex;cases ex;exact⟨aG.refl _,F,s,λb hb=>.inl (cQ u hb)⟩
def tG(G:Gx)(g:Tg):TG:=λv O H Q=>∃D U t F d,SR G D U O H/\Rp G H v t F/\(∀a∈F,¬bD D U a)/\g t U=Y d ∧
 ∀f h,SR G f d h H->(∀a,bD f d a->bD D U a)->(∀a,c9 f d a->c9 D U a\/a∈F)->Q h H
def tGs(G:Gx)(l:List Tg):QD:=λj O H Q=>∃D U h f d,SR G D U O H/\RpL G H j h f/\(∀a∈f.flatten,¬bD D U a)/\AF l h U=Y d ∧
 ∀g i,SR G g d i H->(∀a,bD g d a->bD D U a)->(∀a,c9 g d a->c9 D U a\/a∈f.flatten)->Q i H
def QE(G:Gx)(X:Cx)(e:Expr)(g:Tg):Prop:=PG X e (tG G g)
def Dw(G:Gx)(X:Cx)(e:List Expr)(g:List Tg):Prop:=Pu X e (tGs G g)
def PG.weak{X:Cx}{e:Expr}(h:PG X e t)(w:∀v O H Q,d v O H Q->t v O H Q):PG X e d:=λf s O H v u Q I r q=>h _ s O H v u Q I r (w v O H Q q)
def Pu.weak{X:Cx}{e:List Expr}(h:Pu X e t)(w:∀v O H Q,d v O H Q->t v O H Q):Pu X e d:=λf s O H v u Q I r q=>h _ s O H v u Q I r (w v O H Q q)
def aK{X:Cx}(i:Nat)(A:X.N.Nodup)(o:{`q2,X.N[i]?=Y x})(l:{`q6,Loc X.env.scope x})(y:X.fn x=J\/X.env.scope.names.lookup x=Y .local:=by first | exact .inl L | exact .inr rfl):QE G X (.Name x pos) (bh i):=PG.weak (qE A o l y) λv O H Q m=>by
 obtain⟨D,U,t,F,E,s,r,no,e,k⟩:=m;unfold bh at e;split at e
 ·rename_i hl;cases e;refine k _ _ (s.put hl r (λj C n g w q=>q) (λu d=>nomatch d) (λu d=>nomatch d) λj u n g a f B=>no a B ⟨j,u,g,f⟩) (λa h=>?_) λa h=>?_
  ·rcases dF h with⟨u,d,_⟩ | z
   ·cases d
   ·exact z
  ·rcases je h with⟨u,d,f⟩ | z
   ·exact .inr f
   ·exact .inl z
 ·cases e
def kJ:Dw G X [] []:=Pu.weak Cm λv O H Q d=>by
 obtain⟨D,U,f,i,g,s,r,no,e,k⟩:=d;cases r with
 |nil =>
  cases (e);exact⟨rfl,k D O s (λ_ h=>h) λ_ h=>.inl h⟩
 |cons r q=>cases (e)
def dP(t:QE G X e g)(o:Dw G X es f)(l:{`q2,(assignEach (e :: es) X.env).map (·.2)=assign e X.env :: (assignEach es X.env).map (·.2)}):Dw G X (e :: es) (g :: f) :=
 Pu.weak (AG t o l) λv O H Q m=>by
  obtain⟨D,U,w,R,C,s,r,no,e,k⟩:=m;cases r with
  |nil=>cases (e)
  |cons r q =>
   rename_i u x S P L N;obtain⟨B,e1,e2⟩:=Zz.mp e;refine⟨_,_,rfl,D,U,_,_,_,s,r,λa n=>no a (by grind),e1,λD1 F s1 d A=>?_⟩;refine⟨_,_,_,_,_,s1,q,λa n z=>no a (by grind) (d a z),e2,λD2 E i j y=>k _ _ i (λa h=>d a (j a h)) λa h=>?_⟩;grind
theorem uh:∀{f:List Tg}{d:W7}{U i:VS.Env},AF f d U=Y i->d.length=f.length
 |[],[],_,_,_=>rfl
 |[],_ :: _,_,_,h=>nomatch h
 |_ :: _,[],_,_,h=>nomatch h
 |g :: f,t :: d,U,i,h=>by
  obtain⟨j,_,e2⟩:=Zz.mp (h);simp[uh e2]
def nH{X:Cx}(m:X.calm=J)(h:Dw G X es d)(j:{`q2,(assignEach es X.env).length=d.length})(o:{`q2,(assignEach es X.env).findIdx? (·.1)=M})(x:{`q2,X.K=G.K}):QE G X (.Tuple es k pos) (kT d) :=
 PG.weak (Gz m h j o) λv O H Q i=>by
  obtain⟨D,U,t,F,y,s,r,no,e,q⟩:=i;unfold kT at e;split at e
  ·rename_i l;obtain⟨n,g,w,rfl,rfl,u,f⟩:=r.LN;exact⟨n,g,rfl,LK.of u,by rw[f.len.1];exact uh e,D,U,l,w,_,s,f,no,e,q⟩
  ·cases e
def p7{tgt:Tg}{body:Sx}{l:W7}{U:VS.Env}(h:l[i]?=Y t):l.drop i=t :: l.drop (i+1):=by
 obtain⟨d,e⟩:=Zk.mp h;rw[← e];exact Yc d
def E7(hq:tS G (jL g ci R) Db O H):G7 (tI G ci) (tG G g) (tS G R) Db O H:=by
 refine L2.ah λP_ k_=>?_;obtain⟨D,U,o,s,e,k⟩:=hq;obtain⟨⟨m,l⟩,el,e1⟩:=Zz.mp e;refine k_ ?_;dsimp only at e1;split at e1
 ·rename_i hm;refine⟨D,U,m,l,s,el,λJ L C e2 ok fc=>?_⟩;have cno:∀a∈C,¬bD D U a:=λa r z=>by
   rcases fc a r with q | q | q
   ·exact Kv.pe (s.KD z) q
   ·exact s.MS z q
   ·exact(λz=>by rw[z]at hm;cases hm) q.1
  refine⟨λi n O2 E=>n=l.length-i/\∃D2 P,SR G D2 P O2 E/\Kq D U H D2 P E/\Kept L E/\(∀a∈C,∀o,L a=Y o->E a=Y o/\¬bD D2 P a)/\forL g R (l.drop i) P=Y o,
   ⟨_,rfl,D,U,s.same e2,Kq.same e2,Kept.refl _,λa r j w=>⟨w,cno a r⟩,by rw[List.drop_zero];exact e1⟩,?_⟩
  rintro i n O2 E ⟨rfl,D2,P,s2,f2,kp,con,e3⟩;obtain⟨go,stop⟩:=ok.run E kp λa r j w=>(con a r j w).1;cases hit:l[i]? with
  |none =>
   have hl:=Xn.mp hit;left;rw[XZ hl]at e3;cases (e3);exact⟨stop i hl,k _ _ E s2 f2⟩
  |some t =>
   have hl:=(Zk.mp hit).1;right;obtain⟨g1,y1⟩:=go i t hit;rw[p7 (tgt:=g) (body:=R) (U:=P) hit]at e3;obtain⟨U3,e4,e5⟩:=Zz.mp (e3);obtain⟨j,e6,e7⟩:=Zz.mp e5;refine⟨g1,λS d=>∃A y,SR G _ _ _ d/\Kq D U H _ _ d/\Kept L d/\(∀a∈C,∀o,L a=Y o->d a=Y o/\¬bD _ _ a)/\forL g R _ _=Y o,λS d ⟨A,y,q⟩=>⟨_,by omega,rfl,A,y,q⟩,λx H3 yl=>?_⟩;obtain⟨N,F,rF,hF⟩:=y1 x H3 yl;refine⟨_,_,t,F,_,(s2.same N),rF,(λa r z=>by
    rcases hF a r with q | q
    ·have Li:=ok.KC a q;cases w:L a with
     |none=>exact Li w
     |some o''=>exact(con a q _ w).2 z
    ·exact Kv.pe (s2.KD z) q),e4,λD3 O3 s4 o3 p3=>?_⟩
   have Q:Kq D U H _ _ H3:=⟨λa j h n=>let ⟨h1,n1⟩:=f2.keep a j h n;⟨N a j h1,λz=>n1 (o3 a z)⟩,λa h z=>f2.KC a h (N.free z),λa h=>f2.ow a (o3 a h),λa h=>by
    rcases p3 a h with h | h
    ·exact f2.pu a h
    ·rcases hF a h with q | q
     ·rcases fc a q with q | q | q
      ·exact .inr (.inr q)
      ·exact .inl q
      ·exact .inr (.inl q.2)
     ·exact .inr (.inr (f2.none q)),f2.kept.trans (Kept.of N)⟩
   have next:∀{A y d},Kq _ _ H3 _ _ d->Kept L d/\∀a∈C,∀o,L a=Y o->d a=Y o/\¬bD A y a:=λf =>
    ⟨(kp.trans (Kept.of N)).trans f.kept,λa r j w=>by
     obtain⟨h1,n1⟩:=con a r j w;exact f.keep a j (N a j h1) λz=>n1 (o3 a z)⟩
   refine⟨_,_,j,s4,e6,?_⟩;cases j with
   |nx y=>exact λA S d B f=>⟨_,_,B,Q.trans f,(next f).1,(next f).2,e7⟩
   |ct y=>exact λA S d B f=>⟨_,_,B,Q.trans f,(next f).1,(next f).2,e7⟩
   |bk y =>
    cases (e7);exact λA S d B f=>k _ _ d B (Q.trans f)
   |rt v y =>
    cases (e7);exact λu d F4 A S B f r5 q5=>k u d F4 _ _ B (Q.trans f) r5 (q5.back Q)
 ·cases e1
def dw{X:Cx}(m:PassesOwn (KF X.prog X.w) X.A X.env X.xe)(q:X.calm=J)(n:PVI G X tg d h)(o:QE G X tg g)(r:fK G X f i)(j:{`q3,∀x,XAB d X.env x=pure x}):PSV G X (.For tg d f [] pos) (jL g h i):=PS.weak (zv m q n o r j) λDb O H l=>E7 l
end
noncomputable def Jk(H:Hp)(b:Ye):Md->X6->Prop
 |.fr,F=>F.Nodup/\∀a∈F,H a=M
 |_,F=>∀a∈F,H a=M\/a∈b.flatten
def Nw(G:Gx)(g:Fn):Sp:=λe H Q _=>∃b d m r,RpL G H e b d/\g b=Y (m,r)/\∀v a F,aG H a->Rp G a v r F->Jk H d m F->Q v a
section
def call_of(h:tE G (bu g cs) O H Q):Ef (Nw G g) [] E (V4 G cs) O H Q:=by
 refine L2.ah λP_ P=>?_;obtain⟨D,U,m,t,s,e,q⟩:=h;obtain⟨l,S,e1⟩:=Zz.mp e;obtain⟨⟨n,r⟩,R,e2⟩:=Zz.mp e1;refine P ?_;refine⟨D,U,l,s,S,λN w B q1 L C=>?_⟩;have A:Args G D U H w l N B:=⟨q1,L,C⟩
 have d:=C.join A.len;show Nw G g _ w Q E;rw[ZT];refine⟨_,B,n,r,L,R,λv y F o j i=>?_⟩;have wide:(∀a∈F,w a=M\/a∈B.flatten)->Fp D U H ((Md.pu).join (df l)) F:=λh=>by
  cases u:df l with
  |fr =>
   rw[u]at d;exact λa b=>.inl ((h a b).elim q1.free (d.2 a))
  |pu =>
   rw[u]at d;exact λa b=>(h a b).elim (λz=>.inl (q1.free z)) (d a)
  |bo =>
   rw[u]at d;exact λa b=>(h a b).elim (λz=>.inl (q1.free z)) (d a)
 cases n with
 |fr =>
  cases e2;exact q v y F (q1.trans o) j ⟨i.1,λa b=>q1.free (i.2 a b)⟩
 |pu =>
  cases e2;exact q v y F (q1.trans o) j (wide i)
 |bo =>
  cases e2;exact q v y F (q1.trans o) j (wide i)
def Co{X:Cx}(F:FnOk X.prog X.w X.K X.mg X.base Lc k f fd ps (Nw G g))(b:D6 k X.A)(j:Gl X x)(d:X.mg x=Y (.ref f))(i:PySem.W.keepIn X.K (.ref f)=J)(l:Binds X.K fd ps [])(m:Lj G X (e :: es) cs)(n:{`q1,K3 x})(he:{`q2,K1 e es X})(a:{`q2,K2 pos es X}) :
  PV G X (.Call (.Name x p) (e :: es) [] pos) (bu g cs) :=
 PE.weak (wa F b j d i l .nil pI m n he a) λO H Q h=>call_of h
def uo(r:RpL G H d a s)(n m:Nat)(w:m=d.length):SR G (λi=>s.getD i []) (a.map (λt=>Y (.pu t))++List.replicate (n-a.length) M) (d.map Y++List.replicate (n-m) M) H:=by
 subst w;have hl:=r.len;have back:∀{i:Nat}{c:Cell},(a.map _++List.replicate (n-a.length) M)[i]?=Y _->∃t,a[i]?=Y t/\c=.pu t:=λ{i c} h=>by
  by_cases o:i<a.length
  ·rw[Z0 (by rw[Zt];exact o),ZY]at h;obtain⟨t,l,b⟩:=Zy.mp h;exact⟨t,l,(ZX b).symm⟩
  ·rw[Z8 (by rw[Zt];exact Z1 o),Yk]at h;split at h<;>cases h
 refine⟨by simp;lia,λi c h=>?_,λi t h=>?_,λi j t c h=>?_⟩
 ·obtain⟨t,l,rfl⟩:=back h;obtain⟨v,F,q,z,y⟩:=r.get i l;refine⟨v,?_,?_⟩
  ·have:=(Zk.mp q).1;rw[Z0 (by rw[Zt];exact this),ZY,q];rfl
  ·rw[Zo,z];exact y
 ·obtain⟨u,_,b⟩:=back h;cases b
 ·obtain⟨u,_,b⟩:=back h;cases b
def cP{b:W7}:¬bD D (b.map (λt=>Y (Cell.pu t))++List.replicate n M) a:=by
 rintro⟨i,t,h,_⟩;by_cases d:i<b.length
 ·rw[Z0 (by rw[Zt];exact d),ZY]at h;obtain⟨l,_,j⟩:=Zy.mp h;cases j
 ·rw[Z8 (by rw[Zt];exact Z1 d),Yk]at h;split at h<;>cases h
def kQ{H:Hp}{vs:List V}{j:W7}{d:Ye}(h:c9 (λi=>d.getD i []) (j.map (λt=>Y (Cell.pu t))++List.replicate n M) a):a∈d.flatten:=by
 obtain⟨i,t,_,b⟩:=h;simp only[Zo]at b;cases e:d[i]? with
 |none=>rw[e]at b;simp at b
 |some F=>rw[e]at b;exact cQ e b
end
section
variable{K:Xd}
def BD{d:List Str}(g:d.length=e)(h:Nw G (fn e f c) b H Q E):b.length=d.length:=by
 obtain⟨j,l,m,r,i,a,_⟩:=h;unfold fn at a;split at a
 ·rename_i hl;rw[i.len.1,hl,g]
 ·cases a
def zw{N:List Str}(s:N.length=f)(h:Nw G (fn p f c) vs H Q E):tS G c { nx:=λ_ d=>Q .non d,rt:=Q } (L2.start N vs) H:=by
 obtain⟨B,C,m,r,t,g,q⟩:=h;unfold fn at g;split at g
 ·rename_i hl;obtain⟨o,e1,e2⟩:=Zz.mp g;have j:=uo t f _ L;rw[hl]at j;have e3:L2.start N vs=vs.map Y++List.replicate (f-vs.length) M:=by
   unfold L2.start;rw[s]
  rw[e3];refine⟨_,_,o,j,e1,?_⟩;cases o with
  |nx i =>
   cases e2;intro A x d l fr;exact q _ d [] (λa o h=>(fr.keep a o h cP).1) .non ⟨Z3,λa h=>by simp at h⟩
  |rt v i =>
   cases e2;intro u d y A x l fr n e;refine q u d y (λa o h=>(fr.keep a o h cP).1) n ?_;cases m with
   |fr=>exact⟨e.1,λa b=>(e.2 a b).elim id λz=>absurd z cP⟩
   |pu=>exact λa b=>(e a b).elim .inl λz=>z.elim (λz=>.inr (kQ (H:=H) (vs:=vs) z)) λz=>absurd z cP
   |bo=>exact λa b=>(e a b).elim .inl λz=>z.elim (λz=>.inr (kQ (H:=H) (vs:=vs) z)) λz=>absurd z cP
  |bk i=>cases e2
  |ct i=>cases e2
 ·cases g
def fnV(F:Ku K x a b f j)(S:bt N d (ak b))(n:d.length=g)(o:N.length=i)(p:∀(e:PP)(A:SC)(outer:List PySem.Env)(s:KB)(H:Hp)(E:XK),D6 k (A.deeper (envOfC a (ak b) s.heap.objs.size f e))->fK G (gP Lc P w K mg base N a (ak b) f e A outer s H E).L6 (aT b) c) :
  FnOk P w K mg base Lc (k+1) f j d (Nw G (fn g i c)) :=
 F.ok S (λl H Q E h=>BD n h) λe A outer s H l Q E m h=>⟨_,p _ A _ s H E m,zw o h⟩
end
end VS
end
section
namespace L2
open PySem PySem.Spec PyProof.Rows
theorem lW(d:Env):∀(l:List (Str×NameKind))(acc:List (Str×On)),(∀y∈l,y.2=.free->∃c,d.cells.lookup y.1=Y c)->(∀x c,acc.lookup x=Y c->d.cells.lookup x=Y c) →
  ∃cl,(forIn l acc (λx r=>if (x.snd==NameKind.free)=J then (do let a ← cellOf d x.fst;pure (ForInStep.yield ((x.fst,a) :: r))) else pure (ForInStep.yield r)):Sem (List (Str×On)))=pure cl ∧
   (∀x c,cl.lookup x=Y c->d.cells.lookup x=Y c)/\(∀x c,acc.lookup x=Y c->∃e,cl.lookup x=Y e)/\∀y∈l,y.2=.free->∃c,cl.lookup y.1=Y c
 |[],acc,_,i=>⟨_,rfl,i,λx c h=>⟨c,h⟩,λy b=>nomatch b⟩
 | (n,k) :: l,acc,g,i=>by
  by_cases p:k=.free
  ·refine L2.ah λv q=>?_;subst p;obtain⟨c,s⟩:=g _ Zv L;have ec:cellOf d n=pure c:=by unfold cellOf;rw[s]
   obtain⟨cl,t,o,m,j⟩:=lW _ l ((n,c) :: acc) (λy b=>g y (Zw _ b)) (λx e h=>by
    grind)
   refine q ?_;refine⟨cl,?_,o,λx e h=>?_,λy b f=>?_⟩
   ·simp_all
   ·by_cases u:x=n
    ·simp_all
    ·refine m x e ?_;grind
   ·rcases Zj.mp b with rfl | b
    ·simp_all
    ·exact j y b f
  ·obtain⟨cl,t,o,m,j⟩:=lW _ l _ (λy b=>g y (Zw _ b)) i;refine⟨cl,?_,o,m,λy b f=>?_⟩
   ·simp_all
   ·rcases Zj.mp b with rfl | b
    ·exact absurd f p
    ·exact j y b f
def vW{b:Scope}{a:Env}(d:∀y∈b.names,y.2=.free->∃c,a.cells.lookup y.1=Y c) :
  ∃cl,closureFor b a=pure cl/\(∀x c,cl.lookup x=Y c->a.cells.lookup x=Y c)/\∀y∈b.names,y.2=.free->∃c,cl.lookup y.1=Y c:=by
 obtain⟨cl,g,f,_,e⟩:=lW _ _ [] d (λx c h=>nomatch h);refine⟨cl,?_,f,e⟩;simp only[closureFor];rw[g];rfl
def cj{l:List (Str×NameKind)}(h:l.lookup x=Y k):(x,k)∈l:=by
 induction l with
 |nil=>cases h
 |cons p l a =>
  grind
theorem da{a:Env}:∀{l:List (Str×NameKind)},(l.map λ(n,k)=>if (k==NameKind.free&&a.scope.kind == .function&&a.kindOf n==Y .cell) then (n,NameKind.cell) else (n,k)).lookup x=Y k →
  ∃d,l.lookup x=Y d/\(k=d\/(d=.free/\k=.cell))
 |[],h=>nomatch h
 | (n,e) :: l,h=>by
  rw[Zg,Xp]at h;by_cases f:(e==NameKind.free&&a.scope.kind == .function&&a.kindOf n==Y .cell)=J
  ·simp only[f,if_true]at h;rw[Xp];cases b:x==n with
   |true =>
    simp_all
   |false=>rw[b]at h;exact da h
  ·simp only[f,if_false,Bool.false_eq_true]at h;rw[Xp];cases b:x==n with
   |true=>rw[b]at h;exact⟨e,rfl,.inl (ZX h).symm⟩
   |false=>rw[b]at h;exact da h
def bH(X:Cx)(N:List Str)(a:Scope)(d:List (Str×On))(C:On)(s:KB)(H:Hp)(b:X6):Cx :=
 { X with N:=N,s₀:=s,H₀:=H,env:=compEnvC a d C X.env,outer:=X.stack,ex:=b,fn:=λ_=>false,pn:=[],xe:=λ_ _=>False }
def iK(a:Env)(b:Scope):Bool:=b.kind == .function&&b.names.all λy=>match y.2 with
 |.cell=>Z
 |.local=>b.names.lookup y.1==Y .local
 |.free=>a.kindOf y.1==Y .cell||a.kindOf y.1==Y .free
 |_=>J
noncomputable def j9(d:Scope):List Str->List Str->Bool
 |[],[]=>J
 |a :: e,b :: bs=>((a==b&&d.names.lookup a==Y .free)||d.names.lookup a==M||d.names.lookup a==Y .globalImplicit)&&j9 d e bs
 |_,_=>Z
theorem rQ:∀{f bs:List Str},j9 d f bs=J->f.length=bs.length/\∀(i:Nat)(x:Str),f[i]?=Y x->(bs[i]?=Y x/\d.names.lookup x=Y .free)\/d.names.lookup x=M\/d.names.lookup x=Y .globalImplicit
 |[],[],_=>⟨rfl,λi x h=>by simp at h⟩
 |a :: f,b :: bs,h=>by
  obtain⟨j,g⟩:=ZZ.mp (h);obtain⟨l,r⟩:=rQ g;refine⟨by simp[l],λi x e=>?_⟩;cases i with
  |zero =>
   grind
  |succ i=>simpa using r i x (by simpa using e)
 |[],_ :: _,h=>nomatch h
 |_ :: _,[],h=>nomatch h
section
variable{H:Hp}
def Inv.block{N:List Str}{R:List (Str×On)}{k:Nat}{w:UF}{t:Nat}(I:Inv X pins O H s)(S:iK X.env f=J)(Mn:j9 f (N.drop k) X.N=J)(Nd:k<=N.length)(g:∀x c,R.lookup x=Y c->X.env.cells.lookup x=Y c)(Pa:∀y∈f.names,y.2=.free->∃c,R.lookup y.1=Y c)(A:∀b∈Q,ja X pins H b)(q:s.heap.objs.size<=Db)(hC:s.heap.objs.size<=C)(VE:Db≠C)(Vz:C∉Q)(a:∀b u,s.heap.get? b=Y u->w.get? b=Y u)(OB:w.Ns C m)(P:w.get? Db=Y { cls:=.type "list",data:=.seq ([]:Wu).toArray 0 }) :
  Inv (bH X N f R C s H Q) [] (List.replicate k M++O) (upd H Db (.lst [])) { s with heap:=w,toks:=t }:=by
 unfold iK at S;rw[ZJ,ZS]at S;obtain⟨hk,Lm⟩:=S;have MU:f.kind=.function:=by simpa using hk
 obtain⟨hlen,R0⟩:=rQ Mn;have Od:∀y∈f.names,y.2 ≠ .cell:=λy hy e=>by have:=Lm y hy;rw[e]at this;cases this
 refine⟨⟨I.mod,MU,I.ok.glob,I.ok.blt,hC,λx y c e1 e2=>I.ok.inj x y c (g x c e1) (g y c e2),λx hx=>?_,λx c e=>(nomatch e),I.ok.hd,I.ok.frames,.inl L,λb hb=>⟨λ(e:b=C)=>Vz (e ▸ hb),λx c e=>(A b hb).2.2.2.2.1 x c (g x c e)⟩,
  I.tb,I.bs,ZW I.ok.OF I.sz,λb o e hb=>?_,λb hb K8=>?_,I.stack,I.LO⟩,rfl,I.bare,Un.laid a q (I.D8.fresh q),⟨m,OB,λi x v e1 e2 e3=>?_⟩,λx c e=>?_,?_,λx c e=>?_,λp hp=>(nomatch hp),I.D8.laid a q ?_,?_⟩
 ·have h:∃d,(relabel f X.env).names.lookup x=Y d/\(d=.cell\/d=.free):=by
   rcases hx with e | e
   ·exact⟨_,e,.inl L⟩
   ·exact⟨_,e,.inr L⟩
  obtain⟨d,n,NF⟩:=h;exact Pa _ (cj ((λx d h Pn=>by
  obtain⟨E,h0,G⟩:=da h;rcases G with e | ⟨e,_⟩
  ·subst e;rcases Pn with e | e
   ·subst e;exact absurd L (Od _ (cj h0))
   ·subst e;exact h0
  ·subst e;exact h0) x d n NF)) L
 ·rcases (A b hb).2.2.2.1 with z | z
  ·exact I.ok.NS b o e z
  ·exact absurd (Zc (Zf e) (ZW I.ok.OF z)) (YN _)
 ·rcases Zj.mp (I.L5 b K8) with z | z
  ·exact(A b hb).2.1 z
  ·exact(A b hb).2.2.1 z
 ·
  have j:k<=i:=by
   rcases Nat.lt_or_ge i k with z | z
   ·rw[Z0 (by simpa using z),Yk]at e2;split at e2<;>cases e2
   ·exact z
  rw[Z8 (by simpa using j),YK]at e2;have D:f.names.lookup x=Y .free->∃d,(relabel f X.env).names.lookup x=Y d/\(d=.cell\/d=.free):=λh0=>by
   rcases e3 with z | z | z
   ·obtain⟨E,n,NF⟩:=da z;grind
   ·exact⟨_,z,.inl L⟩
   ·exact⟨_,z,.inr L⟩
  rcases R0 _ x (by
   rw[List.getElem?_drop,show k+(i-k)=i by exact Nat.add_sub_of_le j];exact e1) with⟨hX,h0⟩ | h0 | h0
  ·obtain⟨d,Uj,Ui⟩:=D h0;have VA:X.env.kindOf x=Y .cell\/X.env.kindOf x=Y .free:=by
    simpa using(Lm _ (cj h0))
   obtain⟨mX,hnX,F⟩:=I.loc;obtain⟨u,r,l⟩:=F _ x v hX e2 (VA.elim (λz=>.inr (.inl z)) λz=>.inr (.inr z));refine⟨u,r,.inr ⟨?_,?_⟩⟩
   ·rcases Ui with z | z
    ·subst z;exact .inl Uj
    ·subst z;exact .inr Uj
   ·obtain⟨c,U⟩:=Pa _ (cj h0) L;refine⟨c,U,?_⟩;rcases l with⟨z,_⟩ | ⟨_,c',LU,NX⟩
    ·simp_all
    ·have:=g x c U;rw[LU]at this;cases this;exact NX.keeps a
  ·rcases e3 with z | z | z<;>(obtain⟨E,B,_⟩:=da z;rw[h0]at B;cases B)
  ·rcases e3 with z | z | z<;>(obtain⟨E,B,z2⟩:=da z;simp_all)
 ·obtain⟨v,z⟩:=I.cell x c (g x c e);exact⟨v,z.keeps a⟩
 ·show upd H Db _ C=M;rw[ay (Z9 VE)];exact(I.D8.fresh hC)
 ·obtain⟨v,z⟩:=I.cell x c (g x c e);rw[ay (Zi (Zc z.lt q))];exact I.KH x c (g x c e)
 ·exact⟨Yt _,[],0,.nil,P⟩
 ·rw[Zp,YK,I.len,← hlen,YA];exact Nat.add_sub_of_le Nd
def BK(X:Cx)(a:List Expr)(t:TT):Prop :=
 ∀(pins:Ym)(s:KB)(O:St)(H:Hp)(Q:Bool->Hp->Prop),Inv X pins O H s->t O H Q →
  Pi (KF X.prog X.w) X.A (forIn a J λc r=>if r=J then (do let ok ← isTrue c X.env (eval c X.env);pure (ForInStep.yield ok)) else pure (ForInStep.yield r)) (TP X pins O Q) X.xe s
def iY:BK X [] (λO H Q=>Q J H):=λpins s O H Q I q=>Zs ⟨H,I,q⟩
def Bv(h:PT X c t):BK X [c] t:=λpins s O H Q I q=>by
 rw[List.forIn_cons,Zm L];refine Zx (Zx (thn (h _ s O H Q I q) λb s1 q1=>Zs ?_));exact Zs q1
section
variable{A:SC}
def tD{s:KB}(I:Nat->KB->Prop)(f:∀n s,I n s->Pi (KF prog w) A (pyNext t) (λr p=>match r with
   |none=>R (.ok .next) p
   |some v=>Pi (KF prog w) A (letOwnedTupleGo a t v) (λ_ C=>Pi (KF prog w) A (assign a d v) (λ_ B =>
     Pi (KF prog w) A (forIn i J λc r=>if r=J then (do let ok ← isTrue c d (eval c d);pure (ForInStep.yield ok)) else pure (ForInStep.yield r)) (λok o =>
      if ok=J then Pi (KF prog w) A (eval j d) (λx z =>
       Pi (KF prog w) A (call (.builtin "list.append") [l,x]) (λ_ y=>∃m,m<n/\I m y) (λ_ _=>False) z) (λ_ _=>False) o
      else ∃m,m<n/\I m o) (λ_ _=>False) B) (λ_ _=>False) C) (λ_ _=>False) p) (λ_ _=>False) s)(n:Nat)(h:I n s) :
  codeAny (KF prog w) A (.compLoop (.ListComp j [⟨a,g,i,0⟩] e q) 0 t l d) R s:=by
 refine codeAny_loop L I (λn s N=>?_) n h;refine wpAny_noted ?_;rw[compTurn_list];refine Zx (wpAny_standAt (Zx (Z4 (f n s N) (λr p D=>?_) λ_ _ b=>b.elim)));cases r with
 |none=>exact Zs D
 |some v =>
  refine Zx (Z4 D (λ_ C h₀=>?_) λ_ _ b=>b.elim);refine Zx (Z4 h₀ (λ_ B G=>Zx (Z4 G (λok o u=>?_) λ_ _ b=>b.elim)) λ_ _ b=>b.elim);cases ok with
  |false=>exact Zs ⟨rfl,u⟩
  |true =>
   rw[Zm L]at u;exact Zx (Zx (Z4 u (λx z F=>Zx (Z4 F (λ_ y E=>Zs (Zs ⟨rfl,E⟩)) λ_ _ b=>b.elim)) λ_ _ b=>b.elim))
end
def sN(k:Nat)(p:TI)(g:TG)(r:TT)(q:TE)(O:St)(H:Hp)(Q:VK):Prop:=p O H λJ o=>∀Db,o Db=M->∃W:Nat->Nat->St->Hp->Prop,
 (∃m,W 0 m (List.replicate k M++O) (upd o Db (.lst [])))/\∀i m h d,W i m h d->(J.stop i d/\Q (.ref Db) d)\/(J.go i d/\∀x n,J.UU i d x n->g x h n λe t=>r e t λb l =>
  if b=true then q e l λy j=>∃f,j Db=Y (.lst f)/\f.length<KM/\∃a,a<m/\W (i+1) a e (upd j Db (.lst (f++[y]))) else ∃a,a<m/\W (i+1) a e l)
def qh{X:Cx}{N:List Str}(KI:X.calm=true)(hi:PI X tg a wi)(Lp:iK X.env l=true)(Mn:j9 l (N.drop k) X.N=true)(Nd:k<=N.length)(L1:∀cl C s H fp,PG (bH X N l cl C s H fp) tg g/\BK (bH X N l cl C s H fp) E tc/\PE (bH X N l cl C s H fp) G te)(hs:∀x,XAB a X.env x=pure x)(I:Inv X pins O H s)(h:sN k wi g tc te O H Q)(hq:∀s' f Db C m,Inv X pins O f s'->Q (.ref Db) f->s'.heap.Ns C m->ja X pins f C->compPost (KF X.prog X.w) X.A X.xe D QQ (.ref Db) C (.ok .next) s') :
  Pi (KF X.prog X.w) X.A (comprehension (.ListComp G [⟨tg,a,E,0⟩] l pos) l X.env pos' (newList []) Z (eval a X.env) D) QQ X.xe s:=by
 have Mm:=Lp;unfold iK at Mm;rw[ZJ,ZS]at Mm;obtain⟨hk,Lm⟩:=Mm;have MU:l.kind=.function:=by simpa using hk
 obtain⟨cl,Om,MV,Pa⟩:=vW λy F e=>I.ok.has _ (by
  have:=Lm y F
  simp_all)
 refine wpAny_comprehension_free L hs Om MU (λy F e=>by
  have:=Lm y F
  simp_all) (thn (hi _ s O H _ I h) λv s1 h1=>thn h1 λitv B h2=>?_)
 refine L2.ah λP_ k_=>?_;obtain⟨it,fp,tn,J,H2,e,I2,T,Va,f2,hW⟩:=h2;subst e;refine k_ ?_;refine YZ (wpAny_newFunctionEnv (λy F e=>by have:=Lm y F;rw[e]at this;cases this) (by intro y F;simp at F) (λh₁ OZ NU=>?_) MU);generalize hP:B.heap.push _=P at OZ NU ⊢;have hCs:P.objs.size=B.heap.objs.size+1:=by rw[← hP,YR]
 have old:=λb o e =>
  NU.extBut b o (by rw[hCs];exact Zi (Z2 (Zf e))) (Zu _ (hP ▸ Zu _ e))
 have VE:B.heap.objs.size≠P.objs.size:=by simp_all
 have R4:B.heap.objs.size<=P.objs.size:=by rw[hCs];exact YW _
 have QX:=λb hb=>let ⟨o,ho,_⟩:=T.obj 0 _ Va b hb;Zf ho
 have Vz:P.objs.size∉fp:=λhb=>absurd (Zc (QX _ hb) R4) (YN _);have IY:=I2.block (N:=N) (k:=k) (t:=B.toks+([]:List (Str×PP)).length) Lp Mn Nd MV Pa f2 (Zn _) R4 VE Vz old OZ (NU.extBut _ _ VE (Zu _ (hP ▸ Zh _ L)));obtain⟨hG,hT,hE⟩:=L1 cl _ B H2 fp;generalize hY:bH X N l cl _ B H2 fp=Y at IY hG hT hE;have hYm:Y.prog=X.prog/\Y.w=X.w/\Y.K=X.K/\Y.A=X.A/\Y.env=compEnvC l cl P.objs.size X.env/\Y.calm=X.calm/\(Y.xe=λ_ _=>False):=by rw[← hY];exact⟨rfl,rfl,rfl,rfl,rfl,rfl,rfl⟩
 refine L2.ah λP_ k_=>?_;obtain⟨U,S,y3,R,y5,y6,y7⟩:=hYm;have NO:∀{f:Hp},(∀b∈fp,f b=M)->∀b∈fp,ja Y [] f b:=λ{f} hn b hb=>by
  rw[← hY];refine⟨hn b hb,λ(e:b=P.objs.size)=>Vz (e ▸ hb),λK8=>?_,.inl hb,λx c e=>(f2 b hb).2.2.2.2.1 x c (MV x c e),λp hp=>(nomatch hp)⟩;rcases Zj.mp (I2.L5 b K8) with z | z
  ·exact(f2 b hb).2.1 z
  ·exact(f2 b hb).2.2.1 z
 obtain⟨W,⟨m0,w0⟩,turn⟩:=hW _ (I2.D8.fresh (Zn _));refine k_ ?_;have QO:=T.keep _ _ _ Va λb _ o e=>old b o e;have loop:codeAny (KF X.prog X.w) X.A (.compLoop (.ListComp G [⟨tg,a,E,0⟩] l pos) 0 (.ref it) (.ref B.heap.objs.size) (compEnvC l cl P.objs.size X.env)) (compPost (KF X.prog X.w) X.A X.xe D QQ (.ref B.heap.objs.size) P.objs.size)
   { B with heap:=h₁,toks:=B.toks+([]:List (Str×PP)).length }:=by
  refine tD (λn s'=>∃i O' f,Inv Y [] O' f s'/\tn i s'.heap/\(∀b∈fp,f b=M)/\W i n O' f) ?_ m0 ⟨0,_,_,IY,QO,(λb hb=>by rw[ay (Zi (QX b hb))];exact(f2 b hb).1),w0⟩;rintro n s3 ⟨i,O3,H3,I3,QO,Ux,w3⟩;rcases turn i n _ H3 w3 with⟨stop,qn⟩ | ⟨go,step⟩
  ·have q:=T.done Y U S y3 (y6.trans KI) i [] s3 _ H3 (λ_ _=>False) I3 (NO Ux) QO stop;rw[R]at q;refine thn q λr s4 j=>?_;obtain⟨hr,I4⟩:=j;subst hr;obtain⟨mC,hmC,_⟩:=I4.loc;have f4:=I4.free;rw[y5]at hmC f4;exact hq s4 H3 _ _ mC (by
    have b4:=I4.base;have o4:=I4.os;have k4:=I4.D8;rw[← hY]at b4 o4 k4;refine I2.Ro (ch:=fp) o4 b4 k4 I4.bare λb hb=>?_;exact⟨(f2 b hb).2.2.2.1,(f2 b hb).2.1,(f2 b hb).2.2.2.2.1,(f2 b hb).2.2.2.2.2⟩) qn hmC (I2.NZ R4 f4)
  ·have q:=T.item Y U S y3 (y6.trans KI) i [] s3 _ H3 (λ_ _=>False) I3 (NO Ux) QO go;rw[R]at q;refine thn q λr s4 j=>?_;obtain⟨u,hr,h4⟩:=j;subst hr;refine thn h4 λ_ s5 j=>?_;obtain⟨x,H5,I5,r5,yl5,RB,fr5⟩:=j;have again:∀{O7:St}{H7:Hp}{s7:KB}{m:Nat},Inv Y _ _ H7 s7->W _ m _ H7->∃i O' f,Inv Y [] O' f s7/\tn i _/\(∀b∈fp,f b=M)/\W i m O' f:=λ{O7 H7 s7 m} I7 w7=>by
    refine⟨_,O7,H7,I7.LM,T.keep _ _ _ RB λb hb o e=>(I7.pin _ (ZL _ (ZL _ (iE hb e)))).1,λb hb=>?_,w7⟩;obtain⟨o,e,d⟩:=T.obj _ _ RB b hb;exact(I7.pin _ (ZL _ (ZL _ (iE hb e)))).2.1
   have qa:=hG _ s5 _ H5 x u _ (I5.pinned (NO fr5) (T.obj _ _ RB)) r5 (step x H5 yl5);rw[U,S,R,y5,y7]at qa;refine thn qa λ_ s6 j=>?_;obtain⟨O6,H6,I6,q6⟩:=j;have qt:=hT _ s6 _ H6 _ I6 q6;rw[U,S,R,y5,y7]at qt;refine thn qt λb s7 j=>?_;obtain⟨H7,I7,q7⟩:=j;cases b with
   |false =>
    rw[Zl Za]at q7 ⊢;obtain⟨m',hm,w7⟩:=q7;exact⟨m',hm,again I7 w7⟩
   |true =>
    rw[Zm L]at q7 ⊢;have qe:=hE _ s7 _ H7 _ I7 q7;rw[U,S,R,y5,y7]at qe;refine thn qe λyv s8 j=>?_;obtain⟨y,H8,I8,r8,ys,hD8,hl8,m',hm,w8⟩:=j;have qp:=gR (X:=Y) _ s8 _ H8 (.ref _) _ _ _ (λ_ H9=>W _ m' _ H9) I8 L (.cons r8 .nil) ⟨_,ys,y,rfl,rfl,hD8,hl8,w8⟩;rw[U,S,R,y7]at qp;refine thn qp λ_ s9 j=>?_;obtain⟨_,H9,I9,_,w9⟩:=j;exact⟨m',hm,again I9 w9⟩
 exact codeAny_compStart_list loop (T.self _ 0 _ _ _ QO loop)
def q8{X:Cx}{N:List Str}(E:X.calm=J)(w:PI X l a p)(A:iK X.env d=J)(z:j9 d (N.drop k) X.N=J)(y:k<=N.length)(D:∀cl C s H fp,PG (bH X N d cl C s H fp) l g/\BK (bH X N d cl C s H fp) i t/\PE (bH X N d cl C s H fp) j r)(u:{`q3,∀x,XAB a X.env x=pure x}):PE X (.ListComp j [⟨l,a,i,0⟩] d n) (sN k p g t r):=by
 intro pins s O H Q I h;rw[eval_ListComp];refine qh E w A z y D u I h λL G Db C m F q v f=>⟨m,v,λP B=>?_⟩
 exact⟨.ref Db,G,F.turned (λb o hb e=>B.extBut b o hb e) f.1 f.2.1 f.2.2.2.1 f.2.2.2.2.1 f.2.2.2.2.2,rfl,q⟩
def kz{X:Cx}{B:Pos}{N:List Str}(hN:X.N.Nodup)(Ul:X.N[i]?=Y x)(E:Loc X.env.scope x)(KI:X.calm=J)(Q:PI X t d w)(Lp:iK X.env l=J)(Mn:j9 l (N.drop k) X.N=J)(Nd:k<=N.length)(L1:∀cl C s H fp,PG (bH X N l cl C s H fp) t g/\BK (bH X N l cl C s H fp) n A/\PE (bH X N l cl C s H fp) p y)(Lw:swapsWith (.ListComp p [⟨t,d,n,0⟩] l r) (Y (.Name x j)) B.line X.env=pure J)(R:X.fn x=J\/X.env.scope.names.lookup x=Y .local)(F:{`q3,∀x,XAB d X.env x=pure x}) :
  PS X (.Assign [.Name x j] (.ListComp p [⟨t,d,n,0⟩] l r) B) (λDb O H=>sN k w g A y O H λv H1=>Db.nx (O.set i (Y v)) H1):=by
 intro pins s O H Db I h;rw[exec_Assign_Name_used _ _ _ _ Lw];refine Zx (wpAny_standAt (Zx ?_));refine Zx (Z4 (qh KI Q Lp Mn Nd L1 F I h λD H' u C m I' q P f=>?_) (λ_ D G=>Zs (Zs G)) λ_ _ e=>e);refine wpAny_assign_Name (qc I' hN Ul E (v:=.ref u) L (λs2 I2 U=>?_) R);obtain⟨a,Vt,S⟩:=U;refine⟨m,P.sameBut Vt (λe=>by
  rcases S with z | z
  ·exact f.2.1 (e.trans z)
  ·exact f.2.2.2.2.1 x a z e.symm),λh' LS=>⟨_,H',?_,q⟩⟩
 exact I2.turned (λb o hb e=>LS.extBut b o hb e) f.1 f.2.1 f.2.2.2.1 f.2.2.2.2.1 f.2.2.2.2.2
end
end L2
end
section
namespace VS
open PySem PySem.Spec PyProof.Rows L2
noncomputable def pA(k:Nat)(g:Tg):Prop:=∀t U a,g t U=Y a->a.length=U.length/\∀i,k<=i->a[i]?=U[i]?
def dv(h:{`q1,i<k}):pA k (bh i):=λt U b e=>by
 unfold bh at e;split at e
 ·cases e;exact⟨by simp,λj a=>by rw[ZH (by lia)]⟩
 ·cases e
theorem xy:∀{d:List Tg},(∀g∈d,pA k g)->∀b U a,AF d b U=Y a->a.length=U.length/\∀i,k<=i->a[i]?=U[i]?
 |[],_,[],U,a,e=>by cases (e);exact⟨rfl,λ_ _=>rfl⟩
 |[],_,_ :: _,U,a,e=>nomatch e
 |_ :: _,_,[],U,a,e=>nomatch e
 |g :: d,h,t :: b,U,a,e=>by
  obtain⟨p,e1,e2⟩:=Zz.mp (e);obtain⟨o,n⟩:=h g Zv t U _ e1;obtain⟨m,l⟩:=xy (λj hg=>h j (Zw _ hg)) b _ _ e2;exact⟨m.trans o,λi f=>(l i f).trans (n i f)⟩
def Bx(f:pA k b)(d:pA k a):pA k (kT [b,a]):=λt U h e=>by
 unfold kT at e;split at e
 ·refine xy (λg hg=>?_) _ U _ e;grind
 ·cases e
theorem xo:∀(l:W7){i:Nat}{t:T},fD l=J->l[i]?=Y t->Ko t=J
 |[],_,_,_,h=>by simp at h
 |x :: l,0,t,h,e=>by
  simp at e;rw[← e];exact(ZZ.mp h).1
 |x :: l,i+1,t,h,e=>by
  exact xo l (ZZ.mp h).2 (by simpa using e)
def tC(G:Gx):Option Ex->TT
 |none=>λO H Q=>Q J H
 |some c=>tT G c
section
variable{H:Hp}
def lj:(List.replicate k M++U)[i]?=Y (Y c)↔k<=i/\U[i-k]?=Y (Y c):=by
 rcases Nat.lt_or_ge i k with h | h
 ·rw[Z0 (by simpa using h),Yk];grind
 ·rw[Z8 (by simpa using h),YK]
  simp_all
def Ca:bD (λi=>D (i-k)) (List.replicate k M++U) a↔bD D U a:=by
 constructor
 ·rintro⟨j,t,d,b⟩;exact⟨_,t,(lj.mp d).2,b⟩
 ·rintro⟨j,t,d,b⟩;refine⟨j+k,t,lj.mpr ⟨Nat.le_add_left _ _,by simp_all⟩,?_⟩
  simp_all
def Bw:c9 (λi=>D (i-k)) (List.replicate k M++U) a↔c9 D U a:=by
 constructor
 ·rintro⟨j,t,d,b⟩;exact⟨_,t,(lj.mp d).2,b⟩
 ·rintro⟨j,t,d,b⟩;refine⟨j+k,t,lj.mpr ⟨Nat.le_add_left _ _,by simp_all⟩,?_⟩
  simp_all
def SR.sh(s:SR G D U O H):SR G (λi=>D (i-k)) (List.replicate k M++U) (List.replicate k M++O) H:=by
 refine⟨by simp[s.len],λi c h=>?_,λi t h=>?_,λi j t c b a n=>?_⟩
 ·obtain⟨b,a⟩:=lj.mp h;obtain⟨v,e,d⟩:=s.rp _ c a;refine⟨v,?_,d⟩;rw[Z8 (by simpa using b),YK];exact e
 ·exact s.nd _ t (lj.mp h).2
 ·obtain⟨m,g⟩:=lj.mp b;obtain⟨l,f⟩:=lj.mp a;exact s.sep _ _ t c g f (by lia)
def SR.less{U:VS.Env}(s:SR G D a O H)(b:U.length=a.length)(h:∀(i:Nat) c,U[i]?=Y (Y c)->a[i]?=Y (Y c)):SR G D U O H :=
 ⟨b.trans s.len,λi c e=>s.rp i c (h i c e),λi t e=>s.nd i t (h i _ e),λi j t c e1 e2 n=>s.sep i j t c (h i _ e1) (h j _ e2) n⟩
def SR.off{o:HO}(s:SR G D U O H)(m:Kv (H Db)\/H Db=M)(d:¬c9 D U Db)(a:¬bD D U Db):SR G D U O (upd H Db o):=by
 refine⟨s.len,λi c e=>?_,s.nd,s.sep⟩;obtain⟨v,h,g⟩:=s.rp i c e;refine⟨v,h,g.keep (Kept.upd m) λb hb j f=>?_⟩;rw[ay λz=>?_]
 ·exact f
 ·subst z;cases c with
  |pu t=>exact d ⟨i,t,e,hb⟩
  |ow t=>exact a ⟨i,t,e,hb⟩
theorem oa:∀(l:W5)(v:Val),df (l++[v])=(df l).join v.1
 |[],(m,t)=>by cases m<;>rfl
 | (m,t) :: l,v=>by
  show m.join (df (l++[v]))=(m.join _).join _;rw[oa l v];generalize df l=q;generalize v.1=r;cases m<;>cases q<;>cases r<;>rfl
def Fp.TY(f:Fp D U H m F)(g:Fp D U H n j)(d:n=.fr->∀a∈F,a∉j):Fp D U H (m.join n) (F++j):=by
 have both:∀{P:On->Prop},(∀a∈F,P a)->(∀a∈j,P a)->∀a∈F++j,P a:=λp q a h=>(ZU.mp h).elim (p a) (q a);cases m<;>cases n
 ·exact⟨ZR.mpr ⟨f.1,g.1,λa i b hb e=>d L a i (e ▸ hb)⟩,both f.2 g.2⟩
 ·exact both (λa i=>.inl (f.2 a i)) g
 ·exact both (λa i=>.inl (f.2 a i)) g
 ·exact both f λa i=>.inl (g.2 a i)
 ·exact both f g
 ·exact both (λa i=>(f a i).imp id .inl) g
 ·exact both f λa i=>.inl (g.2 a i)
 ·exact both f λa i=>(g a i).imp id .inl
 ·exact both f g
def Fp.UJ(f:Fp D U H m F)(h:H Db=M)(d:Db∉F):Fp D U H m (Db :: F):=by
 have all:∀{P:On->Prop},P Db->(∀a∈F,P a)->∀a∈Db :: F,P a:=λp q a b=>(Zj.mp b).elim (λe=>e ▸ p) (q a);cases m
 ·exact⟨Zd.mpr ⟨d,f.1⟩,all h f.2⟩
 ·exact all (.inl h) f
 ·exact all (.inl h) f
end
section
def CI(G:Gx)(D:Kn)(U b:VS.Env)(H p:Hp)(Db:On)(l:W7)(h:W5)(q:Tg)(d:Option Ex)(r:Ex)(i n:Nat)(s:L2.St)(e:Hp):Prop:=n=l.length-i/\∃f g j m rest,SR G f b s e/\(∀a,bD f b a->bD D U a)/\(∀a,c9 f b a->H a=M\/c9 D U a)/\¬c9 f b Db/\¬bD f b Db/\Kept p e ∧
     (∀a o,a≠Db->p a=Y o->e a=Y o)/\e Db=Y (.lst m)/\RpL G e m (trees g) j/\Db∉j.flatten/\Fp D U H (df g) j.flatten/\jP q d r b (l.drop i)=Y rest/\g++rest=h
def nj{G:Gx}{k:Nat}{tg:Tg}{ci:MX}{cond:Option Ex}{ce:Ex}{O:L2.St}{H:Hp}{Q:VK}(L1:pA k tg)(h:tE G (cN k tg ci cond ce) O H Q):sN k (tI G ci) (tG G tg) (tC G cond) (tE G ce) O H Q:=by
 refine L2.ah λP_ A=>?_;obtain⟨D,U,m,r,s,e,kq⟩:=h;obtain⟨⟨mi,l⟩,el,e1⟩:=Zz.mp e;dsimp only at e1;split at e1
 ·rename_i D8;obtain⟨all,ea,e2⟩:=Zz.mp e1;unfold N9 at e2;split at e2
  ·rename_i hlen;cases e2;refine A ?_;refine⟨D,U,mi,l,s,el,λJ H1 C e3 ok fc Db hD=>?_⟩;have R3:=e3.free hD;let U0:VS.Env:=List.replicate k M++U
   have good:∀{t:T}{i:Nat}{p S:Hp}{v:V}{F:List _},l[i]?=Y t->Rp G S v t F->(∀a,H1 a≠M->p a≠M)->(∀a∈F,a∈C\/p a=M)->∀a∈F,(H a=M\/c9 D U a)/\¬bD D U a:=λ{t i p S v F} hi rF keep hF a d=>by
    have KC:∀{b},H b≠M->p b≠M:=λ{b} hb=>keep b λz=>hb (e3.free z);rcases hF a d with z | z
    ·rcases fc a z with q | q | ⟨q,w⟩
     ·exact⟨.inl q,λw=>Kv.pe (s.KD w) q⟩
     ·exact⟨.inr q,λw=>s.MS w q⟩
     ·subst q;have:Ko t=true:=by
       exact xo l D8 hi
      rw[rF.Ko this]at d;simp at d
    ·have hz:=Classical.byContradiction λq=>KC q z;exact⟨.inl hz,λw=>Kv.pe (s.KD w) hz⟩
   refine⟨CI G D U U0 H H1 Db l all tg cond ce,?_,?_⟩
   ·refine⟨_,rfl,_,[],[],[],_,?_,λa h=>Ca.mp h,λa h=>.inr (Bw.mp h),λh=>?_,λh=>?_,Kept.upd (.inr hD),λa o n h=>by rw[ay n];exact h,aA,.nil,by simp,Fp.nil,by rw[List.drop_zero];exact ea,rfl⟩
    ·exact((s.same e3).sh).off (.inr hD) (λh=>Kv.pe (s.Mx (Bw.mp h)) R3) λh=>Kv.pe (s.KD (Ca.mp h)) R3
    ·exact Kv.pe (s.Mx (Bw.mp h)) R3
    ·exact Kv.pe (s.KD (Ca.mp h)) R3
   ·intro i n O' p hh_;refine L2.ah λP_ A=>?_;obtain⟨rfl,D1,P,Fs,xs,rest,s1,Ss,pu1,np1,no1,kp,old,Uw,rp,nD,fp,er,ev⟩:=hh_;refine A ?_;have Oa:∀a,H1 a≠M->p a≠M:=λa d z=>by
     by_cases q:a=Db
     ·grind
     ·cases e:H1 a with
      |none=>exact d e
      |some o=>rw[old a o q e]at z;cases z
    refine L2.ah λP_ A=>?_;obtain⟨go,stop⟩:=ok.run p kp λa d o ho=>old a o (λz=>ok.KC a d (z ▸ hD)) ho;cases hit:l[i]? with
    |none =>
     have hl:=Xn.mp hit;refine A ?_;left;refine⟨stop i hl,?_⟩;rw[XZ hl]at er;cases (er);rw[ZT]at ev;subst ev;refine kq _ p _ (λa o h=>old a o (λz=>by rw[z,R3]at h;cases h) (e3 a o h)) (.lst Uw rp) ?_;by_cases hi:fD (trees P)=true
     ·rw[Zm hi,rp.Ko hi];exact⟨by simp,λa d=>by simp_all⟩
     ·rw[Zl hi];exact fp.UJ R3 nD
    |some t =>
     have hl:=(Zk.mp hit).1;obtain⟨g1,y1⟩:=go i t hit;refine A ?_;right;refine⟨g1,λx S yl=>?_⟩;refine L2.ah λP_ A=>?_;obtain⟨g,F,rF,hF⟩:=y1 x S yl;rw[p7 (tgt:=tg) (body:=fC) (U:=U) hit]at er;rw[jP]at er;obtain⟨U3,e4,e5⟩:=Zz.mp er;obtain⟨b,eb,e6⟩:=Zz.mp e5;have gd:=good hit rF Oa hF;refine A ?_;refine⟨_,_,t,F,_,(s1.same g),rF,λa d z=>(gd a d).2 (Ss a z),e4,λD3 O3 s3 o3 p3=>?_⟩;obtain⟨tl,Tq⟩:=L1 t _ _ e4;have low:∀j c,U0[j]?=Y _->U3[j]?=Y (Y c):=λj c h=>by rw[Tq j (lj.mp h).1];exact h
     have Vh:=λa h=>(p3 a h).elim (pu1 a) λh=>(gd a h).1;have WB:=λa h=>Ss a (o3 a h);have TL:=λh=>(p3 Db h).elim np1 (λh=>by
      rcases hF Db h with z | z
      ·exact ok.KC Db z hD
      ·rw[Uw]at z;cases z)
     have Vn:=λh=>no1 (o3 Db h);have Vg:∀a,c9 _ _ a->c9 D3 _ a:=λa ⟨j,u,h1,h2⟩=>⟨j,u,low j _ h1,h2⟩
     have Vk:∀a,bD _ _ a->bD D3 _ a:=λa ⟨j,u,h1,h2⟩=>⟨j,u,low j _ h1,h2⟩
     have QR:∀N,aG S N->(if b=true then tE G ce _ N λy E=>∃ys,E Db=Y (.lst ys)/\ys.length<KM/\∃m',m'<l.length-i/\CI G D U _ H H1 Db l all tg _ ce _ m' _ (upd E Db (.lst (ys++[y]))) else ∃m',m'<l.length-i/\CI G D U _ H H1 Db l _ tg _ ce _ m' _ N):=λN f=>by
      have eo:∀{E},aG N E->∀a o,p a=Y o->E a=Y o:=λ{E} X a o h=>X a o (f a o (g a o h));cases b with
      |false =>
       rw[Zl Za]at e6 ⊢;have same:=eo (aG.refl N);exact⟨_,by lia,rfl,_,P,Fs,xs,_,(s3.same f).less (by rw[tl]) low,λa h=>WB a (Vk a h),λa h=>Vh a (Vg a h),λh=>TL (Vg Db h),λh=>Vn (Vk Db h),kp.trans ((Kept.of g).trans (Kept.of f)),λa o n h=>same a o (old a o n h),same Db _ Uw,rp.same (aG.trans g f),nD,fp,e6,ev⟩
      |true =>
       rw[Zm L]at e6 ⊢;obtain⟨⟨mv,tv⟩,ece,e7⟩:=Zz.mp e6;obtain⟨rest1,er1,e7'⟩:=Zy.mp e7;refine⟨_,_,mv,tv,s3.same f,ece,λy E Fy X ry B=>?_⟩;have same:=eo X;have Uv:=same Db _ Uw;have PY:Kv (E Db):=by rw[Uv];exact True.intro
       have R:=f Db _ (g Db _ Uw);have OR:=λa h=>Classical.byContradiction λq=>Oa a (λz=>q (e3.free z)) (g.free (f.free h));have DFy:=λh=>by
        cases mv with
        |fr=>have:=B.2 Db h;rw[R]at this;cases this
        |pu=>exact(B Db h).elim (λz=>by rw[R]at z;cases z) TL
        |bo=>exact(B Db h).elim (λz=>by rw[R]at z;cases z) λz=>z.elim TL Vn
       have lenx:xs.length=P.length:=by rw[rp.len.1];simp
       have lenv:P.length<all.length:=by rw[← ev,← e7'];simp
       refine⟨xs,Uv,?_,_,by lia,rfl,_,P++[(mv,tv)],Fs++[Fy],_,_,(((s3.same f).same X).off (.inl PY) TL Vn).less (by rw[tl]) low,λa h=>WB a (Vk a h),λa h=>Vh a (Vg a h),λh=>TL (Vg Db h),λh=>Vn (Vk Db h),?_,λa o n h=>?_,aA,?_,?_,?_,er1,?_⟩
       ·have Ug:all.length<=fB:=by simpa using hlen
        have:KM=fB:=rfl;lia
       ·exact(kp.trans ((Kept.of g).trans ((Kept.of f).trans (Kept.of X)))).trans (Kept.upd (.inl PY))
       ·rw[ay n];exact same a o (old a o n h)
       ·have:trees (P++[(mv,tv)])=trees P++[tv]:=by simp
        rw[this];exact((rp.same ((g.trans f).trans X)).off PY nD).append (.cons (ry.keep (Kept.upd (.inl PY)) λb hb o ho=>by rw[ay (λz=>DFy (by rw[← z];exact hb))];exact ho) .nil)
       ·grind
       ·rw[Yd,oa];have:([Fy]).flatten=Fy:=by simp
        rw[this];refine fp.TY (by
        cases mv with
        |fr=>exact⟨B.1,λa d=>OR a (B.2 a d)⟩
        |pu=>exact λa d=>(B a d).elim (λz=>.inl (OR a z)) (Vh a)
        |bo=>exact λa d=>(B a d).elim (λz=>.inl (OR a z)) λz=>z.elim (λz=>(Vh a z).imp id .inl) λz=>.inr (.inr (WB a z))) λhm a d hb=>?_
        subst hm;have:=(rp.same (g.trans f)).KC a d;rw[(B.2 a hb)]at this;exact this
       simp_all
     cases cond with
     |none =>
      cases (eb);exact QR S (aG.refl S)
     |some c =>
      obtain⟨⟨mc,xc⟩,ec1,UE⟩:=Zz.mp eb;exact⟨_,_,mc,xc,b,s3,ec1,UE,λN f=>QR N f⟩
  ·cases e2
 ·cases e1
end
section
def ic{X:Cx}(k:Nat)(N:List Str)(m:X.calm=J)(b:PVI G X tg iter ci)(l:pA k g)(d:∀cl C s H fp,QE G (bH X N sc cl C s H fp) tg g)(he:∀cl C s H fp,PV G (bH X N sc cl C s H fp) elt ce)(j:{`q2,iK X.env sc=J})(f:{`q2,j9 sc (N.drop k) X.N=J})(e:{`q1,k<=N.length})(a:{`q3,∀x,XAB iter X.env x=pure x}) :
  PV G X (.ListComp elt [⟨tg,iter,[],0⟩] sc pos) (cN k g ci M ce) :=
 PE.weak (q8 m b j f e (λcl C s H fp=>⟨d cl C s H fp,iY,he cl C s H fp⟩) a) λO H Q h=>nj l h
def GN(h:tS G (jM i a) Db O H):tE G a O H λv l=>Db.nx (O.set i (Y v)) l:=by
 refine L2.ah λp f=>?_;obtain⟨D,U,o,s,e,k⟩:=h;obtain⟨⟨m,t⟩,ec,e1⟩:=Zz.mp e;obtain⟨c,eC,e2⟩:=Zz.mp e1;refine f ?_;split at e2
 ·rename_i hl;cases e2;refine⟨D,U,m,t,s,ec,λv n F e3 b j=>?_⟩;obtain⟨q1,d⟩:=s.val (c:=c) hl e3 b j (by
   unfold cellOf at eC;grind)
  exact k _ _ n q1 d
 ·cases e2
def wu(h:tS G (aU i a) Db O H):tE G a O H λv l=>Db.nx (O.set i (Y v)) l:=by
 refine L2.ah λp f=>?_;obtain⟨D,U,o,s,e,k⟩:=h;obtain⟨⟨m,t⟩,ec,e1⟩:=Zz.mp e;refine f ?_;split at e1
 ·cases e1
 ·rename_i hm;split at e1
  ·rename_i hl;cases e1;refine⟨D,U,m,t,s,ec,λv n F e3 b j=>?_⟩;obtain⟨q1,d⟩:=s.val hl e3 b j (.inl ⟨rfl,hm⟩);exact k _ _ n q1 d
  ·cases e1
def Bg{X:Cx}{MM:Pos}(k:Nat)(N:List Str)(l:∀Db O H,tS G a Db O H->tE G (cN k g ci M ce) O H λv w=>Db.nx (O.set i (Y v)) w)(u:X.calm=J)(e:PVI G X tg iter ci)(t:pA k g)(f:∀cl C s H fp,QE G (bH X N sc cl C s H fp) tg g)(he:∀cl C s H fp,PV G (bH X N sc cl C s H fp) elt ce)(m:X.N.Nodup)(n:{`q2,X.N[i]?=Y x})(b:{`q6,Loc X.env.scope x})(r:{`q2,iK X.env sc=J})(p:{`q2,j9 sc (N.drop k) X.N=J})(o:{`q1,k<=N.length})(q:{`q2,swapsWith (.ListComp elt [⟨tg,iter,[],0⟩] sc pos) (Y (.Name x pos')) MM.line X.env=pure J})(j:{`q7,X.fn x=J\/X.env.scope.names.lookup x=Y .local})(d:{`q3,∀x,XAB iter X.env x=pure x}) :
  PSV G X (.Assign [.Name x pos'] (.ListComp elt [⟨tg,iter,[],0⟩] sc pos) MM) a :=
 PS.weak (kz m n b u e r p o (λcl C s H fp=>⟨f cl C s H fp,iY,he cl C s H fp⟩) q j d) λDb O H h=>nj t (l Db O H h)
def oB{X:Cx}{MM:Pos}(k:Nat)(N:List Str)(m:∀Db O H,tS G a Db O H->tE G (cN k g ci (Y cc) ce) O H λv y=>Db.nx (O.set i (Y v)) y)(w:X.calm=J)(e:PVI G X tg iter ci)(u:pA k g)(f:∀cl C s H fp,QE G (bH X N sc cl C s H fp) tg g)(l:∀cl C s H fp,MQ G (bH X N sc cl C s H fp) c cc)(he:∀cl C s H fp,PV G (bH X N sc cl C s H fp) elt ce)(n:X.N.Nodup)(o:{`q2,X.N[i]?=Y x})(b:{`q6,Loc X.env.scope x})(t:{`q2,iK X.env sc=J})(q:{`q2,j9 sc (N.drop k) X.N=J})(p:{`q1,k<=N.length})(r:{`q2,swapsWith (.ListComp elt [⟨tg,iter,[c],0⟩] sc pos) (Y (.Name x pos')) MM.line X.env=pure J})(j:{`q7,X.fn x=J\/X.env.scope.names.lookup x=Y .local})(d:{`q3,∀x,XAB iter X.env x=pure x}) :
  PSV G X (.Assign [.Name x pos'] (.ListComp elt [⟨tg,iter,[c],0⟩] sc pos) MM) a :=
 PS.weak (kz n o b w e t q p (λcl C s H fp=>⟨f cl C s H fp,Bv (l cl C s H fp),he cl C s H fp⟩) r j d) λDb O H h=>nj u (m Db O H h)
end
end VS
end
section
namespace L2
open PySem PySem.Spec PyProof.Rows
def Ite(K:Xd)(a:On):It :=
 ⟨λi H=>∃b x,KA K H a b/\b[i]?=Y x,λi H v d=>∃p x,H p=M/\v=.ref p/\d=upd H p (.tup [.int i,x])/\∀b,KA K H a b->b[i]?=Y x,λi H=>∃b,KA K H a b/\b.length<=i⟩
def yj{P:SB}{w:UV}{K:Xd}{G:List Expr}{n:Nat}{S:Pos}(a e f:On)(Li:e≠f):Turn P w K (.Tuple G n S) (Ite K a) [e,f] e (λi h=>(∃old,IsEnum h e f i old)/\h.IsListIter f a i) where
 mem:=by simp
 obj:=λi h st b hb=>by
  obtain⟨⟨old,he⟩,o,ho,c,d⟩:=st;grind
 keep:=λi h h' st k=>⟨let ⟨_,he⟩:=st.1;⟨_,k e (by simp) _ he⟩,st.2.at λo x=>k f (by simp) o x⟩
 item:=by
  intro X hP hw hK hc i l s O H E I j st hg;refine L2.ah λP_ k_=>?_;subst hP hw hK;obtain⟨xs,x,Q,U⟩:=hg;obtain⟨D0,R,p,hz⟩:=I.list Q;obtain⟨u,hu,ru⟩:=R.get U;obtain⟨⟨old,he⟩,hit⟩:=st;refine k_ ?_;refine wpAny_pyNext_enum_item he hit p.isList (x:=u) (by simpa using hu) Li λh1 ho C hT hsz hk=>⟨_,rfl,?_⟩
  refine wpAny_letOwnedTupleGo_enum ho λh2 Up N=>?_;have N:=N;have A:=Zf he;have Rj:=I.D8.fresh (Zn _);have B:∀b o,b∉[e,f]->s.heap.get? b=Y o->h2.get? b=Y o:=λb o hb q=>by
   have F:b≠e:=λz=>hb (by simp[z]);exact(N.2 b F).trans (hk b o F (λz=>hb (by simp[z])) q)
  have D:=(N.2 _ (Xs A)).trans hT;have t:∀b o,H b=Y o->b∉[e,f]:=λb o q hb=>by rw[(j b hb).1]at q;cases q
  have up:∀b o,H b=Y o->upd H _ (.tup [.int i,x]) b=Y o:=λb o q=>by rw[ay (br q Rj)];exact q
  refine⟨.ref _,_,?_,rfl,⟨_,x,Rj,rfl,rfl,λys hy=>by rw[I.NB hy Q];exact U⟩,⟨⟨u,by simpa using Up⟩,C.at λo y=>(N.2 f Li.symm).trans y⟩,λb hb=>?_⟩
  ·show Inv X _ O _ _;refine I.step (λb hb=>?_) (λb o _ _ g q _=>B b o g q) (λb o _ _ g q _=>⟨_,B b o g q⟩) (λb o _ q r=>by rw[ay ((λb o q=>Zi (Zf q)) b o q)];exact r) (λb o g q=>⟨o,B b o g q⟩)
    (λb ys q=>up b _ q) (λb o v q=>up b _ q) (λb _ q=>up b _ q) (λm hm=>?_) (λb ob q=>by
   by_cases hb:b=s.heap.objs.size
   ·subst hb;rw[aA]at q;cases q;exact⟨by show 2<=KM;decide,_,.cons ⟨_,rfl⟩ (.cons ru .nil),QG.of D L,⟨_,D,rfl,_,rfl⟩⟩
   ·rw[ay hb]at q;refine(I.D8 b ob q).ML (λc v g r=>B c v ?_ r) (λc r=>up c _ r) (λc ys r=>up c _ r) λc _ _ r=>up c _ r;rcases g with z | z
    ·rw[z];exact t b ob q
    ·exact t c _ z) I.bare
   ·obtain⟨f0,f1,f2,f3,f4,f5⟩:=j b hb;exact⟨f3,f1,f4,f5⟩
   ·obtain⟨o,es,ep,Oc,r⟩:=hm;refine⟨o,es,ep,B _ o (λz=>?_) Oc,r⟩;exact(j _ z).2.1 L
  ·have:b≠s.heap.objs.size:=by
    rcases Zj.mp hb with rfl | hb
    ·exact Zi A
    ·rw[Zb.mp hb];exact Zi (let ⟨_,z,_⟩:=hit;Zf z)
   rw[ay this];exact(j b hb).1
 done:=by
  intro X hP hw hK hc i l s O H E I j st hg;subst hP hw hK;obtain⟨xs,Q,U⟩:=hg;obtain⟨D0,R,p,hz⟩:=I.list Q;obtain⟨⟨old,he⟩,hit⟩:=st;obtain⟨f0,f1,f2,f3,f4,f5⟩:=j f (by simp);have hl:=R.length;exact wpAny_pyNext_enum_end (I.ok.hd hc) he hit p.isList (by simp;lia) λh' eb=>⟨rfl,I.turned (λb o hb q=>eb b o hb q) f0 f1 f3 f4 f5⟩
 self:=λ_ _ _ _ _ st h=>let ⟨_,he⟩:=st.1;wpAny_pyIter_enum he h
section
def JW(K:Xd)(ta:TA):TI:=λO H R=>ta O H λe b=>∃l,e=[.ref l]/\(∃d,KA K b l d)/\R (Ite K l) b
def Ea(x:Gl X "enumerate")(v:X.mg "enumerate" = M)(y:PA X [a] ta)(t:{`q2,P3 [a] X.env=[(Z,eval a X.env)]}):PI X (.Tuple d n A) (.Call (.Name "enumerate" p) [a] [] pos) (JW X.K ta):=by
 intro g s O H R I h;refine Call_ (l9 I x v boot_enumerate (XF (thn (y _ _ s O H _ I h) λE s1 z=>?_) t L));obtain⟨D,B,f,r1,q1⟩:=z;obtain⟨l,e,⟨C,u⟩,q⟩:=q1;subst e;cases r1 with
 |cons r j =>
  cases j;cases r;obtain⟨P,F,m,G⟩:=f.list u;refine call_enumerate_list m.isList λN he hit o w=>?_;refine wpAny_pyIter_enum he ?_;refine⟨_,_,_,_,B,rfl,f.kept w,yj l _ _ (Nat.succ_ne_self _),⟨⟨_,he⟩,hit⟩,λb hb=>?_,q⟩;have i:s1.heap.objs.size<=b:=by
   rcases Zj.mp hb with rfl | hb
   ·exact Xq _ _
   simp_all
  exact f.NZ i (f.D8.fresh i)
end
end L2
namespace VS
open PySem PySem.Spec PyProof.Rows L2
section
theorem tU:∀(l:W7)(k i:Nat){t:T},(fo k l)[i]?=Y t->∃x,l[i]?=Y x/\t=.tup [.int ((k+i:Nat):Int),x]
 |[],_,_,_,h=>by simp[fo]at h
 |x :: l,k,0,t,h=>by
  simp[fo]at h
  simp_all
 |x :: l,k,i+1,t,h=>by
  obtain⟨y,d,b⟩:=tU l _ i (by simpa[fo] using h);refine⟨y,by simpa using d,?_⟩;rw[b,show k+1+i=k+(i+1) by lia]
theorem pK:∀(l:W7)(k:Nat),(fo k l).length=l.length
 |[],_=>rfl
 |x :: l,k=>by simp[fo,pK l _]
def Cv{a:On}(K:Xd)(C:H a=Y (.lst d))(r:RpL G H d e s):Ov G (Ite K a) (fo 0 e) (a :: s.flatten) H:=by
 refine⟨λm k c=>?_,λb hb=>?_⟩
 ·have f:=c a Zv _ C;refine⟨λi t h=>?_,λi h=>⟨d,KA.of f,by rw[pK]at h;rw[r.len.1];exact h⟩⟩;refine L2.ah λN u=>?_;obtain⟨y,w,l⟩:=tU e 0 i h;rw[WY]at l;obtain⟨v,F,j,L,E⟩:=(r.keep k λb hb o B=>c b (Zw _ hb) o B).get i w;refine u ?_;refine⟨⟨d,v,KA.of f,j⟩,λx O D=>?_⟩;obtain⟨p,z,A,e1,e2,e3⟩:=D;subst e1 e2;have ex:=e3 d (KA.of f);rw[j]at ex;cases ex;have g:aG m (upd m p (.tup [.int i,v])):=λb o q=>by rw[ay (br q A)];exact q
  refine⟨g,F,?_,λb hb=>.inl (Zw _ (cQ L hb))⟩;rw[l];have:F=([[],F]).flatten:=by simp
  rw[this];exact .tup aA (.cons (.int _) (.cons (E.same g) .nil))
 ·rcases Zj.mp hb with rfl | hb
  ·grind
  ·exact Kv.pe (r.KC b hb)
def lq(t:PV G X a ca)(r:Gl X "enumerate")(q:X.mg "enumerate" = M)(j:{`q2,K1 a [] X})(z:{`q2,P3 [a] X.env=[(Z,eval a X.env)]}) :
  PVI G X (.Tuple elts n PD) (.Call (.Name "enumerate" p) [a] [] pos) (pH ca) :=
 PI.weak (Ea r q (bA t dQ j) z) λO H R o=>by
  obtain⟨D,U,m,l,s,e,k⟩:=o;obtain⟨⟨h,x⟩,w,e1⟩:=Zz.mp e;refine⟨D,U,h,x,s,w,λv A F e3 g u=>?_⟩;cases x with
  |lst B =>
   refine L2.ah λC i=>?_;cases e1;obtain⟨y,d,E,rfl,rfl,b,f⟩:=g.lst_inv;refine i ?_;exact⟨y,rfl,⟨d,KA.of b⟩,k _ A _ e3 (Cv _ b f) u.c⟩
  |_=>cases e1
end
noncomputable instance {s:Tx}:Decidable (pC s):=inferInstanceAs (Decidable (_/\_))
section
def w_add(f:PV G X a ca)(d:PV G X b cb):PV G X (.BinOp a .Add b pos) (e2 bE ca cb):=iT jG mq f d
def w_mul(f:PV G X a ca)(d:PV G X b cb):PV G X (.BinOp a .Mult b pos) (e2 jg ca cb):=iT A4 AW f d
def w_mod(f:PV G X a ca)(d:PV G X b cb):PV G X (.BinOp a .Mod b pos) (e2 oMod ca cb):=iT Ho Fq f d
def uE{X:Cx}(d:D6 k X.A)(g:PV G X a ca)(f:PV G X b cb):MQ G X (.Compare a [.Eq] [b] pos) (e2 oEq ca cb):=iu (uX d.units) zr tells_eq g f (iR _)
def ub{X:Cx}(d:D6 k X.A)(g:PV G X a ca)(f:PV G X b cb):MQ G X (.Compare a [.NotEq] [b] pos) (e2 NQ ca cb):=iu (zd d.units) Em zB g f (iR _)
def aV(g:PV G X a ca)(f:PV G X b cb)(d:fi b:=by intro _ _;rfl)(i:{`q2,X.K=G.K}):PV G X (.Subscript a b pos) (e2 aL ca cb) :=
 PE.weak (lQ i9 g f d) λO H Q h=>by rw[i];exact l6 vA h
def fE{X:Cx}(d:X.mg "len" = M)(g:Lj G X [e] cs)(f:{`q2,Gl X "len"})(h:{`q2,X.K=G.K})(he:{`q2,K1 e [] X}):PV G X (.Call (.Name "len" p) [e] [] pos) (eN cB cs) :=
 iU (h ▸ za) FO f d PySem.boot_len g (he:=he)
def zO:bootBuiltins ("max" : Str)=Y (.builtin "max"):=by decide +kernel
def FN:bootBuiltins ("min" : Str)=Y (.builtin "min"):=by decide +kernel
def Cy:bootBuiltins ("list" : Str)=Y (.type "list"):=by decide +kernel
def Hn{X:Cx}(d:X.mg "max" = M)(h:Lj G X [a,b] cs)(g:{`q2,X.calm=J})(f:{`q2,Gl X "max"})(he:{`q2,P3 [a,b] X.env=(Z,eval a X.env) :: P3 [b] X.env})(hpl:{`q2,(backTo pos (P3 [b] X.env)).any (·.1)=Z}):PV G X (.Call (.Name "max" p) [a,b] [] pos) (eN p8 cs) :=
 iU (yQ g) CW f d zO h (he:=he) (hpl:=hpl)
noncomputable def Sn:Ty->Str
 |.int => "int" |.str => "str" |.bool => "bool" |.list => "list" |.tuple => "tuple" |.dict => "dict"
def Ir(t:Ty):bootBuiltins (Sn t)=Y (.type (Pj t)):=by cases t<;>decide +kernel
def w_is{X:Cx}(t:Ty)(f:X.mg "isinstance" = M)(l:X.mg (Sn t)=M)(h:PV G X a ca)(g:{`q2,Gl X "isinstance"})(j:{`q2,Gl X (Sn t)})(i:{`q2,X.K=G.K})(d:{`q2,P3 [a,.Name (Sn t) p2] X.env=(Z,eval a X.env) :: P3 [.Name (Sn t) p2] X.env}):PV G X (.Call (.Name "isinstance" p1) [a,.Name (Sn t) p2] [] pos) (VN t ca) :=
 IV t h g f j l (Ir t) i (by cases t<;>decide) (by cases t<;>decide) d L L
def lu{apos:Pos}(i:Nat)(j:Lj G X [e] cs)(n:{`q2,X.K=G.K})(m:{`q2,X.N[i]?=Y x})(d:{`q5,Ni X.env.scope x})(g:{`q1,K3 x})(s:{`q1,K4 x})(q:{`q2,((backTo cp (P3 [e] X.env)).all (λx=>!x.1)&&(backToKw cp (SL [] X.env)).all (λx=>x.1.isSome)
   && decide ([e].length+([]:List Keyword).length+(if ([]:List Keyword).isEmpty then 0 else 1)<30))=J})(o:{`q2,(apos.endLine==cp.line)=J})(f:{`q2,K1 e [] X}) :
  PSV G X (.Expr (.Call (.Attribute (.Name x p1) "append" apos) [e] [] cp) pos) (sX (pG i [] bc cs)) :=
 Ag i YC Xi Xj gR l8 (λH v t F l z r h=>iV r h) j n m d g s L q o f L L
end
structure FnAt(P:SB)(w:UV)(K:Xd)(mg:X4)(base:UF)(k:Nat)(x:Str)(ps:List Str)(G:Gx)(g:Fn):Prop where
 ex:∃f fd,FnOk P w K mg base Lc k f fd ps (Nw G g)/\mg x=some (.ref f)/\PySem.W.keepIn K (.ref f)=true/\Binds K fd ps []
section
def bX{X:Cx}(F:FnAt X.prog X.w X.K X.mg X.base k x ps G g)(b:D6 k' X.A)(i:Lj G X (e :: es) cs)(d:{`q1,k<=k'})(h:{`q2,Gl X x})(o:{`q1,K3 x})(he:{`q2,K1 e es X})(a:{`q2,K2 pos es X}) :
  PV G X (.Call (.Name x p) (e :: es) [] pos) (bu g cs):=by
 obtain⟨f,fd,n,m,l,j⟩:=F.ex;exact Co n (b.mono d) h m l j i o he a
end
section
variable{K:Xd}
def gu(F:Ku K x x a f i)(m:mg x=Y (.ref f))(S:bt N b (ak a))(j:b.length=g)(l:N.length=h)(o:∀(kV doc pm:PP)(an:Option On)(d ct:PP)(e:Wu),e.length=b.length->bindArgs (PySem.W.fnOf x x (c8 a) (aT a) (ak a) .none kV doc pm an d ct) ⟨e,[]⟩=pure (b.zip e))(n:∀(d:PP)(A:SC)(outer:List PySem.Env)(s:KB)(H:Hp)(E:XK),D6 k (A.deeper (envOfC x (ak a) s.heap.objs.size f d))->fK G (gP Lc P w K mg base N x (ak a) f d A outer s H E).L6 (aT a) c) :
  FnAt P w K mg base (k+1) x b G (fn g h c) :=
 ⟨f,i,fnV F S j l n,m,F.kp,F.binds o⟩
end
end VS
end
section
namespace L2
open PySem PySem.Spec PyProof.Rows
noncomputable def MX(x:Str):It:=⟨λi _=>i<x.cps.size,λi H v a=>a=H/\∃c,x.cps[i]?=Y c/\v=.str ⟨#[c]⟩,λi _=>x.cps.size<=i⟩
def qg{P:SB}{w:UV}{K:Xd}{F:Expr}(x:Str)(t:Tok)(a:On)(f:String)(R:["enumerate", "zip", "dict_itemiterator", "dict_reverseitemiterator", "odict_iterator", "itertools.zip_longest", "itertools.pairwise"].contains f=Z)(W:∀A:SC,A.handled=M->Walks P w A a [a] [a] x.cps.size (λi v=>∃c u,x.cps[i]?=Y c/\v=.str ⟨#[c]⟩ u) (λi h=>h.IsStrIter a f x t i))(j:∀(A:SC),A.handled=M->∀(i:Nat)(s:KB)(Q:Wb->KB->Prop)(E:Yy),s.heap.IsStrIter a f x t i->x.cps[i]?=M->(∀l,Heap.ExtBut a s.heap l->Q M { s with heap:=l })->Pi (KF P w) A (pyNext (.ref a)) Q E s)(Ua:∀(A:SC)(i:Nat)(s:KB)(Q:Yy)(E:Yy),s.heap.IsStrIter a f x t i->Q (.ref a) s->Pi (KF P w) A (pyIter (.ref a)) Q E s) :
  Turn P w K F (MX x) [a] a (λi h=>h.IsStrIter a f x t i) where
 mem:=by simp
 obj:=λi h st b hb=>by
  rw[Zb.mp hb];obtain⟨o,e,c,d⟩:=st
  simp_all
 keep:=λi h l st k=>let ⟨o,e,r⟩:=st;⟨o,k a (by simp) o e,r⟩
 item:=by
  intro X p hw q n i g s O H E I m st hg;subst p hw q;obtain⟨C,f1,f2,B,z,y⟩:=m a (by simp);refine(W _ (I.ok.hd n)).item i s _ _ hg st λv l tk N D G=>?_;obtain⟨c,u,LU,rfl⟩:=N;obtain⟨o,e,U,d⟩:=id D;exact⟨_,rfl,t6 e U d R ⟨.str _,H,(I.turned (λb o hb e=>G b o (by simpa using hb) e) C f1 B z y),⟨u,rfl⟩,⟨rfl,c,LU,rfl⟩,D,λb hb=>(m b hb).1⟩⟩
 done:=by
  intro X p hw q n i g s O H E I m st hg;subst p hw q;obtain⟨C,f1,f2,B,z,y⟩:=m a (by simp);have L:x.cps.size<=i:=hg;exact j _ (I.ok.hd n) i s _ _ st (by simp[L]) λl S=>⟨rfl,I.turned (λb o hb e=>S b o hb e) C f1 B z y⟩
 self:=λA i s Q E st h=>Ua A i s Q E st h
def B0{K:Xd}(x:Str)(t:Tok)(a:On):Turn P w K g (MX x) [a] a (λi h=>h.IsStrIter a (strIterType x) x t i):=by
 cases f:x.cps.all (· < 128)
 ·have e:strIterType x = "str_iterator" := by simp[strIterType,f]
  rw[e];exact qg x t a _ L (λA b=>Walks.strWide b a x t) (λA b i s Q E st d q=>wpAny_pyNext_wide_end b st d q) λA i s Q E st q=>wpAny_pyIter_striter_wide st q
 ·have e:strIterType x = "str_ascii_iterator" := by simp[strIterType,f]
  rw[e];exact qg x t a _ L (λA b=>Walks.strAscii b a x t) (λA b i s Q E st d q=>wpAny_pyNext_ascii_end b st d q) λA i s Q E st q=>wpAny_pyIter_striter_ascii st q
section
def Jq(K:Xd)(f:TE):TI:=λO H R=>f O H λx d=>(∃a,x=.ref a/\(∃e,KA K d a e)/\R (Itl K a) d)\/(∃a,x=.ref a/\(∃e,LK K d a e)/\R (Itt K a) d)\/∃z,x=.str z/\R (MX z) d
def Db7(w:PE X l tl):PI X tg l (Jq X.K tl):=by
 intro j s O H R I h;refine thn (w _ s O H _ I h) λv s1 y=>?_;obtain⟨x,f,d,r1,q1⟩:=y;have i:∀b∈[s1.heap.objs.size],ja X _ f b:=λb hb=>by
  rw[Zb.mp hb];exact d.NZ (Zn _) (d.D8.fresh (Zn _))
 rcases q1 with⟨a,e,⟨m,g⟩,q⟩ | ⟨a,e,⟨m,g⟩,q⟩ | ⟨z,e,q⟩
 ·subst e;cases r1;obtain⟨A,n,p,u⟩:=d.list g;exact XO p.isList ⟨_,_,_,_,f,rfl,d.kept λb o e=>Zu _ e,yr a _,⟨_,Zh _ L,rfl,rfl⟩,i,q⟩
 ·subst e;cases r1;obtain⟨A,n,p,u⟩:=d.tuple g;exact wpAny_pyIter_tuple (p) ⟨_,_,_,_,f,rfl,d.kept λb o e=>Zu _ e,vN a _,⟨_,Zh _ L,rfl,rfl⟩,i,q⟩
 ·refine L2.ah λB r=>?_;subst e;obtain⟨t,rfl⟩:=r1;refine r ?_;exact wpAny_pyIter_strU ⟨_,_,_,_,f,rfl,d.kept λb o e=>Zu _ e,B0 z t _,⟨_,Zh _ L,rfl,rfl⟩,i,q⟩
def xV{s:KB}{d:UF}(f:∀b x,b∉[s.heap.objs.size]->(s.heap.push o).get? b=Y x->d.get? b=Y x)(b:On)(x:Obj)(e:s.heap.get? b=Y x):d.get? b=Y x :=
 f b x (λhm=>YN _ (by have:=Zf e;rw[Zb.mp hm]at this;exact this)) (Zu _ e)
def BR{X:Cx}(B:X.calm=J):cF X (.builtin "all") (λo H Q=>∃p,∃bs:List Bool,o=[.ref p]/\KA X.K H p (bs.map V.bl)/\Q (.bl (bs.all id)) H):=by
 intro r s O H o D Q I rx h;refine L2.ah λR w=>?_;obtain⟨p,bs,rfl,y,q⟩:=h;obtain⟨u,rfl,j⟩:=rx.one;cases j;obtain⟨f,g,m,G⟩:=I.list y;refine w ?_;refine call_all_walk (XO m.isList ⟨s.heap.objs.size,[s.heap.objs.size,p],[s.heap.objs.size],f.toArray.size,_,_,λi=>(bs[i]?).getD J,rfl,Wr (A:=X.A.in1) (I.ok.hd B) _ p (Zi (by obtain⟨_,e,_⟩:=m.isList;exact Zf e)) f.toArray,
  ⟨⟨_,Zh _ L,rfl,rfl⟩,m.isList.push _⟩,λi v F P S C t=>?_,λN E z=>⟨.bl (bs.all id),H,I.kept (xV z),?_,q⟩⟩)
 ·have d:f[i]?=Y v:=by simpa using C
  cases e:bs[i]? with
  |none =>
   have:=g.none_of (i:=i) (by rw[ZY,e];rfl);rw[this]at d;cases d
  |some n =>
   obtain⟨u,x,j⟩:=g.get (i:=i) (by rw[ZY,e];rfl);rw[x]at d;cases d;cases j;simp only[e,Xu]at t;exact Yb t
 ·have hlen:f.toArray.size=bs.length:=by have:=g.length;simp at this ⊢;exact Eq.symm this
  rw[hlen,LSm.range_all];rfl
def qj:OpR X (SZ .Gt) (λx y H Q=>∃i j,x=.str i/\y=.str j/\Q (.bl (decide (j.cps.toList<i.cps.toList))) H):=by
 intro d s O H x y v u Q I rx e h;obtain⟨i,j,rfl,rfl,q⟩:=h;obtain⟨t,rfl⟩:=rx;obtain⟨f,rfl⟩:=e;exact PySem.P.gt_str ⟨.bl _,H,I,rfl,q⟩
end
end L2
end
section
namespace VS
open PySem PySem.Spec PyProof.Rows L2
section
def HH(H:Hp)(s:Tx)(j:pC s):Ov G (L2.MX (sx s)) (s.map λc=>T.str [c]) [] H:=by
 have sz:(sx s).cps.size=s.length:=rfl;refine⟨λo _ _=>⟨λi t h=>?_,λi h=>(by rw[Zt]at h;show (sx s).cps.size<=i;lia)⟩,λa h=>by simp at h⟩;rw[ZY]at h;obtain⟨c,f,rfl⟩:=Zy.mp h;refine⟨(by show i<(sx s).cps.size;grind),λx n ⟨e1,g,m,e2⟩=>?_⟩;subst e1;have:g=c:=by
  have l:(sx s).cps[i]?=Y c:=by simp[sx,f]
  grind
 subst this;rw[e2];exact⟨aG.refl _,[],.str _ ⟨(by show 1<=fB;decide),λd hd=>by rw[Zb.mp hd];exact j.2 g (Yx f)⟩,λa h=>by simp at h⟩
def cy(u:PV G X a ca)(A:{`q2,X.K=G.K}):PVI G X tg a (dA ca) :=
 PI.weak (Db7 u) λO H R t=>by
  obtain⟨D,U,m,l,s,e,k⟩:=t;obtain⟨⟨r,x⟩,w,e1⟩:=Zz.mp e;refine⟨D,U,r,x,s,w,λv f F e3 j o=>?_⟩;cases x with
  |lst q =>
   cases e1;obtain⟨n,g,y,rfl,rfl,d,i⟩:=j.lst_inv;exact .inl ⟨n,rfl,⟨g,KA.of d⟩,k _ f _ e3 (CG _ d i) o.c⟩
  |tup q =>
   cases e1;obtain⟨n,g,y,rfl,rfl,d,i⟩:=j.LN;exact .inr (.inl ⟨n,rfl,⟨g,LK.of d⟩,k _ f _ e3 (FF _ d i) o.c⟩)
  |str z =>
   cases e1;obtain⟨rfl,ok⟩:=j.str_inv;exact .inr (.inr ⟨_,rfl,k _ f [] e3 (HH f z ok) λa h=>by simp at h⟩)
  |_=>cases e1
theorem nF:∀{d:List V}{l:W7}{g:Ye}{f:W0},RpL G H d l g->jO l=Y f->d=f.map V.int
 |_,_,_,_,.nil,e=>by cases e;rfl
 |_,_,_,_,.cons (t:=t) r q,e=>by
  cases t with
  |int s =>
   obtain⟨h,e1,e2⟩:=Zy.mp e;subst e2;rw[nF q e1,r.int_inv];rfl
  |_=>cases e
theorem ug:∀{d:List V}{l:W7}{g:Ye}{f:List Bool},RpL G H d l g->l7 l=Y f->d=f.map V.bl
 |_,_,_,_,.nil,e=>by cases e;rfl
 |_,_,_,_,.cons (t:=t) r q,e=>by
  cases t with
  |bl s =>
   obtain⟨h,e1,e2⟩:=Zy.mp e;subst e2;rw[ug q e1,r.Le];rfl
  |_=>cases e
def Fm:eD G (λd H Q=>∃p,∃bs:List Bool,d=[.ref p]/\KA G.K H p (bs.map V.bl)/\Q (.bl (bs.all id)) H) CF:=by
 intro D U r H l n s m t Q A e k;unfold CF at e;split at e
 ·rename_i o x;refine L2.ah λq g=>?_;obtain⟨h,e1,e2⟩:=Zz.mp e;cases e2;obtain⟨v,F,rfl,rfl,rx⟩:=(A.rp).one;obtain⟨a,j,Gs,rfl,rfl,i,f⟩:=rx.lst_inv;refine g ?_;exact⟨a,h,rfl,by rw[← ug f e1];exact KA.of i,bj k (.bl _)⟩
 ·cases e
def GQ:bootBuiltins ("all" : Str)=Y (.builtin "all"):=by decide +kernel
def Ar:bootBuiltins ("tuple" : Str)=Y (.type "tuple"):=by decide +kernel
def w_all{X:Cx}(d:X.mg "all" = M)(h:Lj G X [e] cs)(f:{`q2,Gl X "all"})(i:{`q2,X.K=G.K})(g:{`q2,X.calm=J})(he:{`q2,K1 e [] X}):PV G X (.Call (.Name "all" p) [e] [] pos) (eN CF cs) :=
 iU (BR g) (i ▸ Fm) f d GQ h (he:=he)
def zN:eD G (λg H Q=>∃p d,g=[.ref p]/\((KA G.K H p d/\∀l,H l=M->Q (.ref l) (upd H l (.tup d)))\/(LK G.K H p d/\Q (.ref p) H))) lA:=by
 intro D U w H l o y m t Q A e k;unfold lA at e;split at e
 ·rename_i s x;split at e
  ·rename_i hl;refine L2.ah λu i=>?_;cases e;obtain⟨v,F,rfl,rfl,rx⟩:=(A.rp).one;obtain⟨a,d,Gs,rfl,rfl,n,h⟩:=rx.lst_inv;refine i ?_;refine⟨a,d,rfl,.inl ⟨KA.of n,λq j=>?_⟩⟩;have f:aG H (upd H q (.tup d)):=bN j;have r:Rp G _ _ _ _:=.tup aA (h.same f);exact k _ _ _ f r (((A.fp.each 0 _ _ L L).sub (YO _ _)).up r)
  ·cases e
 ·cases e
def Cu{X:Cx}(d:X.mg "tuple" = M)(g:Lj G X [e] cs)(f:{`q2,Gl X "tuple"})(h:{`q2,X.K=G.K})(he:{`q2,K1 e [] X}):PV G X (.Call (.Name "tuple" p) [e] [] pos) (eN lA cs) :=
 hJ pz (h ▸ zN) f d Ar g (he:=he)
def rGt:R2:=λx y H Q=>Oy (λi j=>.bl (decide (j<i))) x y H Q\/(∃i j,x=.str i/\y=.str j/\Q (.bl (decide (j.cps.toList<i.cps.toList))) H)
def Ge(s t:Tx):decide ((sx s).cps.toList<(sx t).cps.toList)=M9 s t:=by rw[jA];exact decide_eq_decide.mpr (by simp[sx])
def EE:eY G rGt QU:=by
 intro D U h H x y u w j i m t Q d e k;obtain⟨m1,x⟩:=x;obtain⟨g,y⟩:=y;obtain⟨same,r1,r2,f1,f2,nd⟩:=d;unfold QU oLt at e;split at e
 ·rename_i e1 e2;cases e1;cases e2;cases e;exact .inl ⟨_,_,r1.int_inv,r2.int_inv,bj k (.bl _)⟩
 ·rename_i s _ f e1 e2;cases e1;cases e2;cases e;refine .inr ⟨_,_,r1.str_inv.1,r2.str_inv.1,?_⟩;rw[Ge];exact bj k (.bl _)
 ·cases e
def sE:Tells QU:=λx y m t e=>kH y x m t e
def su(R:eY G r f)(l:eY G o g)(h:tE G (iJ f g ca cb cc) O H Q):zz r o (tE G ca) (tE G cb) (tE G cc) O H Q:=by
 refine L2.ah λP_ k_=>?_;obtain⟨D,U,m,t,s,e,k⟩:=h;obtain⟨x,ea,e⟩:=Zz.mp e;obtain⟨y,eb,e⟩:=Zz.mp e;obtain⟨⟨S,z⟩,ez,e⟩:=Zz.mp e;refine k_ ?_;refine zH s ea eb λu w H2 F1 A d=>R D U H H2 x y u w F1 A S z _ d ez λv H3 F e1 r1 f1=>?_;cases z with
 |bl q =>
  refine⟨q,r1.Le,?_⟩;cases q with
  |false =>
   cases e;rw[Zl Za];exact k _ H3 [] (d.same.trans e1) (.bl _) Fp.nil
  |true =>
   rw[Zm L];obtain⟨B,ec,e⟩:=Zz.mp (e);have i:=d.same.trans e1;refine⟨D,U,_,_,s.same i,ec,λC H4 F4 n P j=>?_⟩;refine l D U H H4 y B w C A F4 m t Q ⟨i.trans n,(d.r2.same e1).same n,P,d.f2,j.back i,λhx hy=>?_⟩ e λE H5 F5 e5 N f5=>k E H5 F5 ((i.trans n).trans e5) N f5;have f2:=d.f2;rw[hx]at f2;rw[hy]at j;refine ZR.mpr ⟨f2.1,j.1,λa ha b hb z=>?_⟩;subst z;exact Kv.pe ((d.r2.same e1).KC a ha) (j.2 a hb)
 |_=>cases e
end
end VS
end
section
namespace L2
open PySem PySem.Spec PyProof.Rows
section
def yW{α:Type}(l:List α)(n:Nat):∀acc:List α,List.foldl (λx1 x2=>x1++x2) acc.toArray (List.replicate n l.toArray)=(acc++(List.replicate n l).flatten).toArray:=by
 induction n with
 |zero=>intro acc;simp
 |succ n a =>
  grind
def Cd:OpR X (binaryOp .Mult) (λx y H Q=>∃(l:Wa)(k:Int),x=.str ⟨l.toArray⟩/\y=.int k/\-(2 ^ 62)<=k/\k<2 ^ 62/\l.length*k.toNat<=KM/\Q (.str ⟨(List.replicate k.toNat l).flatten.toArray⟩) H):=by
 intro f s O H x y v u Q I rx g h;obtain⟨l,k,rfl,rfl,p,o,b,q⟩:=h;obtain⟨t,rfl⟩:=rx;obtain⟨n,rfl⟩:=g;have hlen:(⟨_⟩:Str).length=l.length:=rfl;refine PySem.P.mul_str ?_ ?_ ?_ ?_
 ·grind
 ·intro d _ j;rw[hlen]at j;have:(l.length:Int)*k<=16777216:=by
   have i:l.length*k.toNat<=16777216:=b;grind
  have m:(l.length:Int)*k<=2 ^ 63-1:=by lia
  have:=(Int.le_ediv_iff_mul_le (by lia)).mpr m;lia
 ·intro _ _;rw[hlen];exact decide_eq_false (by exact Nat.not_lt.mpr b)
 ·by_cases d:k<1
  ·rw[Zm d];have e:k.toNat=0:=by lia
   rw[e]at q;exact⟨by decide,⟨.str _,H,I.tok _,⟨_,rfl⟩,q⟩⟩
  ·rw[Zl d];split
   ·rename_i a;have e:(List.replicate k.toNat l).flatten=l:=by
     rw[Bool.or_eq_true]at a;rcases a with a | a
     ·simp_all
     simp_all
    rw[e]at q;exact⟨.str _,H,I,⟨t,rfl⟩,q⟩
   ·have e:=yW l k.toNat [];rw[XJ]at e;rw[show (⟨_⟩:Str).cps=l.toArray from rfl,e];refine⟨?_,⟨.str _,H,I.tok _,⟨_,rfl⟩,q⟩⟩;show (⟨_⟩:Str).length<=KM;show ((List.replicate _ l).flatten.toArray).size<=KM;rw[ZG,(len_rep l _),Nat.mul_comm];exact b
end
end L2
namespace VS
open PySem PySem.Spec PyProof.Rows L2
section
def CT:eY G (λx y H Q=>∃(l:Wa)(k:Int),x=.str ⟨l.toArray⟩/\y=.int k/\-(2 ^ 62)<=k/\k<2 ^ 62/\l.length*k.toNat<=KM/\Q (.str ⟨(List.replicate k.toNat l).flatten.toArray⟩) H) xR:=by
 intro D U z H x y u w B A m t Q g e k;obtain⟨m1,x⟩:=x;obtain⟨s,y⟩:=y;obtain⟨same,r1,r2,f1,f2,nd⟩:=g;unfold xR at e;split at e
 ·rename_i _ h _ j e1 e2;refine L2.ah λv i=>?_;cases e1;cases e2;refine i ?_;split at e
  ·rename_i f;cases e;have q:=f.2.1;have o:=f.2.2;unfold Si at q o;refine⟨h,j,r1.str_inv.1,r2.int_inv,by lia,by lia,f.1,bj k (.str _ ⟨?_,λc r=>?_⟩)⟩
   ·rw[len_rep,Nat.mul_comm];exact f.1
   ·obtain⟨x,n,d⟩:=WH.mp r;rw[(List.mem_replicate.mp n).2]at d;exact r1.str_inv.2.2 c d
  ·cases e
 ·cases e
def vt:PV G X (.Dict [] [] pos) (u6 0 []):=PE.weak A5 λO H Q d=>by
 obtain⟨D,U,m,t,s,e,k⟩:=d;cases (e);intro q d;have:Rp G (upd H q _) _ (.dct 0 ((([]).map _).zip [])) _:=.dct aA L .nil;exact k _ _ _ (bN d) this ⟨by simp,λb hb=>by simp_all⟩
end
section
def gY{X:Cx}(hp:PassesOwn (KF X.prog X.w) X.A X.env X.xe)(hc:MQ G X c cc)(hb:fK G X d y):PSV G X (.While c d [] pos) (j4 cc y) :=
 PS.weak (zo hp hc hb) λDb O H hq=>by
  obtain⟨D,U,o,s,e,k⟩:=hq;refine⟨λn R B=>∃E m,SR G E m R B/\Kq D U H E m B/\dH cc y n m=Y o,⟨_,D,U,s,Kq.refl D U H,e⟩,?_⟩;rintro n R B ⟨E,m,P,f2,e2⟩;cases n with
  |zero=>cases (e2)
  |succ n =>
   rw[dH]at e2;obtain⟨⟨mx,x⟩,ex,e3⟩:=Zz.mp e2;obtain⟨t,et,l⟩:=Zz.mp e3;refine⟨_,_,mx,x,t,P,ex,et,λH3 F=>?_⟩;have N:=P.same F;have h:=f2.trans (Kq.same F);cases t with
   |false =>
    rw[Zl Za]at l;cases l;show if Z=J then _ else _
    rw[Zl Za];exact k _ _ H3 N h
   |true =>
    rw[Zm L]at l;show if J=J then _ else _
    rw[Zm L];obtain⟨Q,e5,j⟩:=Zz.mp l;refine⟨_,λr i q=>⟨n,Yp n,q⟩,_,_,Q,N,e5,?_⟩;cases Q with
    |nx z=>exact λC r i f g=>⟨_,_,f,h.trans g,j⟩
    |ct z=>exact λC r i f g=>⟨_,_,f,h.trans g,j⟩
    |bk z =>
     cases (j);exact λC r i f g=>k _ _ i f (h.trans g)
    |rt v z =>
     cases (j);exact λu i F4 C r f g S q5=>k u i F4 _ _ f (h.trans g) S (q5.back h)
noncomputable def sNo:Sx:=λ_=>M
def GT:PSV G X f sNo:=λd s O H Db I ⟨_,_,_,_,e,_⟩=>nomatch (e)
def fh(r:Rp G H v (.dct 0 l) F):∃(a:On)(f:List Key)(d:List V)(g:W7)(h:Ye),v=.ref a/\F=a :: h.flatten/\H a=Y (.dK (f.zip d))/\f.length=d.length/\l=(f.map bf).zip g/\RpL G H d g h:=r.inv
def dE(r:Rp G H v t F)(h:iI t=J):∃k:Key,v=kV k/\t=bf k:=by
 cases t with
 |int i=>exact⟨.inl i,r.int_inv,rfl⟩
 |str s=>exact⟨.inr _,r.str_inv.1,by simp[bf,sx]⟩
 |_=>cases h
theorem kR{k:Key}:∀{d:List Key}{f:List V}{ts:W7}{m:Ye},d.length=f.length->RpL G H f ts m →
  (fM ((d.map bf).zip ts) (bf k)=M/\gK (d.zip f) k=M)\/∃(i:Nat)(v:V)(t:T)(F:X6),fM ((d.map bf).zip ts) (bf k)=Y t/\gK (d.zip f) k=Y v/\f[i]?=Y v/\m[i]?=Y F/\Rp G H v t F
 |[],[],_,_,_,.nil=>.inl ⟨rfl,rfl⟩
 |k' :: d,v :: f,_,_,hl,.cons (t:=t) (F:=F) (ts:=ts) r q=>by
  have e:eqT (bf k') (bf k)=decide (k'=k):=by
   rw[Xf,decide_eq_true_eq];cases k with
   |inl i=>cases k'<;>simp[bf]
   |inr x =>
    obtain⟨⟨x⟩⟩:=x;cases k' with
    |inl j=>simp[bf]
    |inr y=>obtain⟨⟨y⟩⟩:=y;simp[bf]
  by_cases g:k'=k
  ·refine .inr ⟨0,v,t,F,?_,i8 g,rfl,rfl,r⟩;have l:eqT (bf k') (bf k)=J:=by rw[e];exact decide_eq_true g
   simp only[fM,Zg,ZP,ZD,l];rfl
  ·have u:fM (((k' :: d).map bf).zip (t :: ts)) (bf k)=fM ((d.map bf).zip ts) (bf k):=by
    have l:eqT (bf k') (bf k)=Z:=by rw[e];exact decide_eq_false g
    simp only[fM,Zg,ZP,ZD,l]
   have s:gK ((k' :: d).zip (v :: f)) k=gK (d.zip f) k:=by simp[gK,g]
   rw[u,s];rcases kR (k:=k) (by simpa using hl) q with h | ⟨i,n,o,D,C,B,A,z,w⟩
   ·exact .inl h
   ·exact .inr ⟨i+1,n,o,D,C,B,by simpa using A,by simpa using z,w⟩
def rG{X:Cx}(l:X.A.units+1<cLine):Ms X (λx y H Q=>∃a v,x=.ref a/\g9 H a y (Y v)/\Q v H):=by
 intro value slice d s O H x y v u Q I rx j h m;obtain⟨a,w,rfl,g,q⟩:=h;cases rx;have f:=t7 I g;refine Zx ?_;rw[getitemInPython_of_ne f.not_modules];refine Zx (wpAny_specialOf f PySem.F.slot_dict_getitem.lookup ?_);have fin:Pi (KF X.prog X.w) X.A (subscripted slice Z (.ref a) u) (λr i=>Pi (KF X.prog X.w) X.A (letTemporaryGo value (.ref a) r >>= λ_=>pure r) (EP X d O Q) X.xe i) X.xe s:=by
  rw[m];exact wpAny_operating (yN l I g j λt z o n=>Zx (wpAny_letTemporaryGo (Zs ⟨w,H,o,n,q⟩)))
 first
  |exact Zs (Zx fin)
  |exact Zx (Zs (Zx fin))
  |exact Zx fin
def IA(K:Xd):R2:=λx y H Q=>V9 K x y H Q\/∃a v,x=.ref a/\g9 H a y (Y v)/\Q v H
def IZ:eY G (IA G.K) NR:=by
 intro D U z H x y u w B A m t Q d e k;obtain⟨m1,x⟩:=x;by_cases hd:∃l,x=.dct 0 l
 ·obtain⟨l,rfl⟩:=hd;simp only[NR]at e;split at e
  ·rename_i g;obtain⟨L,e1,e2⟩:=Zy.mp e;obtain⟨a,N,C,E,S,rfl,rfl,h,hl,rfl,q⟩:=fh d.r1;obtain⟨O,rfl,n⟩:=dE d.r2 g;rw[n]at e1;rcases kR hl q with⟨j,_⟩ | ⟨i,v,t2,F,s,r,R,o,f⟩
   ·rw[j]at e1;cases e1
   ·rw[s]at e1;cases e1;cases e2;refine .inr ⟨a,v,rfl,by rw[← r];exact g9.k h,?_⟩;exact k v H F (aG.refl _) f (((d.f1.sub (YO _ _)).sub (bM o)).up f)
  ·cases e
 ·exact .inl (vA D U z H _ y u w B A m t Q d (by
   simp only[NR]at e;split at e
   ·rename_i l P;exact absurd ⟨_,rfl⟩ hd
   ·exact e) k)
def vf{X:Cx}(f:D6 k X.A)(i:PV G X a ca)(g:PV G X b cb)(d:fi b:=by intro _ _;rfl)(j:{`q2,X.K=G.K}):PV G X (.Subscript a b pos) (e2 NR ca cb) :=
 PE.weak (lQ (Ms.or i9 (rG (jN f))) i g d) λO H Q h=>by rw[j];exact l6 IZ h
def fV:T->V
 |.bl b=>.bl b
 |.int i=>.int i
 |.str s=>.str (sx s)
 |_=>.non
def EF(r:Rp G H v t F)(h:flat t=J):v=fV t/\gx v=J:=by
 cases r with
 |non=>exact⟨rfl,rfl⟩
 |bl b=>exact⟨rfl,rfl⟩
 |int i=>exact⟨rfl,rfl⟩
 |str s hl=>exact⟨rfl,rfl⟩
 |_=>cases h
theorem IC:∀{t u:T},flat t=J->flat u=J->Pq (fV t) (fV u)=eqT t u
 |.non,.non,_,_=>rfl
 |.non,.bl _,_,_=>rfl
 |.non,.int _,_,_=>rfl
 |.non,.str _,_,_=>rfl
 |.bl _,.non,_,_=>rfl
 |.bl _,.bl _,_,_=>rfl
 |.bl _,.int _,_,_=>rfl
 |.bl _,.str _,_,_=>rfl
 |.int _,.non,_,_=>rfl
 |.int _,.bl _,_,_=>rfl
 |.int _,.int _,_,_=>rfl
 |.int _,.str _,_,_=>rfl
 |.str _,.non,_,_=>rfl
 |.str _,.bl _,_,_=>rfl
 |.str _,.int _,_,_=>rfl
 |.str _,.str _,_,_=>zm
def AI(r:Rp G H v t F)(g:Rp G H w u h)(f:flat t=J)(d:flat u=J):Pq v w=eqT t u/\gx v=J/\gx w=J:=by
 obtain⟨e1,f1⟩:=EF r f;obtain⟨e2,f2⟩:=EF g d;refine⟨?_,f1,f2⟩;rw[e1,e2];exact IC f d
theorem rh(r:Rp G H x t F)(g:flat t=J):∀{d:List V}{f:W7}{m:Ye},RpL G H d f m->f.all flat=J->d.all gx=J/\T6 x d=f.any λy=>eqT y t
 |_,_,_,.nil,_=>⟨rfl,rfl⟩
 |_,_,_,.cons i q,h=>by
  rw[Xh,ZJ]at h;obtain⟨l,j⟩:=rh r g q h.2;obtain⟨e1,e2,e3⟩:=AI i r h.1 g;refine⟨by rw[Xh,e2,l];rfl,?_⟩;unfold T6 at j ⊢
  simp_all
def JL(K:Xd):R2:=λx y H Q=>Vf K Z x y H Q\/∃a o,y=.ref a/\g9 H a x o/\Q (.bl o.isSome) H
def CN(K:Xd):R2:=λx y H Q=>Vf K J x y H Q\/∃a o,y=.ref a/\g9 H a x o/\Q (.bl (!o.isSome)) H
def wg{X:Cx}(i:X.A.units+1<cLine):OpR X (SZ .In) (λx y H Q=>∃a o,y=.ref a/\g9 H a x o/\Q (.bl o.isSome) H):=by
 intro d s O H x y v u Q I rx f h;obtain⟨a,o,rfl,g,q⟩:=h;cases f;exact JH i I g rx λl j=>⟨.bl _,H,j,rfl,q⟩
def Bt{X:Cx}(i:X.A.units+1<cLine):OpR X (SZ .NotIn) (λx y H Q=>∃a o,y=.ref a/\g9 H a x o/\Q (.bl (!o.isSome)) H):=by
 intro d s O H x y v u Q I rx f h;obtain⟨a,o,rfl,g,q⟩:=h;cases f;exact Db8 i I g rx λl j=>⟨.bl _,H,j,rfl,q⟩
def uD{L:X6}(f:UN G D U C H x y u w L E)(e:md x y=Y (m,t)) :
  ∃b,m=.fr/\t=.bl b/\((∃p l,w=.ref p/\(KA G.K H p l\/LK G.K H p l)/\gx u=J/\l.all gx=J/\T6 u l=b)\/∃a o,w=.ref a/\g9 H a u o/\o.isSome=b):=by
 obtain⟨O,y⟩:=y;simp only[md]at e;split at e
 ·split at e
  ·rename_i d;cases e;obtain⟨a,P,n,N,s,rfl,rfl,g,hl,rfl,q⟩:=fh f.r2;obtain⟨Q,rfl,z⟩:=dE f.r1 d;refine⟨_,rfl,rfl,.inr ⟨a,_,rfl,g9.k g,?_⟩⟩;rw[z];rcases kR hl q with⟨j,h⟩ | ⟨i,v,t2,F,B,A,_⟩
   ·rw[j,h];rfl
   ·rw[B,A];rfl
  ·cases e
 ·split at e
  ·rename_i d;cases e;rw[ZJ]at d;obtain⟨a,n,s,rfl,rfl,g,r⟩:=f.r2.lst_inv;obtain⟨j,h⟩:=rh f.r1 d.1 r d.2;exact⟨_,rfl,rfl,.inl ⟨a,n,rfl,.inl (KA.of g),((AI f.r1 f.r1 d.1 d.1).2.1),j,h⟩⟩
  ·cases e
 ·split at e
  ·rename_i d;cases e;rw[ZJ]at d;obtain⟨a,n,s,rfl,rfl,g,r⟩:=f.r2.LN;obtain⟨j,h⟩:=rh f.r1 d.1 r d.2;exact⟨_,rfl,rfl,.inl ⟨a,n,rfl,.inr (LK.of g),((AI f.r1 f.r1 d.1 d.1).2.1),j,h⟩⟩
  ·cases e
 ·cases e
def EY:eY G (JL G.K) md:=by
 intro D U j H x y u w n l m t Q f e k;obtain⟨b,rfl,rfl,h⟩:=uD f e;rcases h with⟨p,d,rfl,i,f1,f2,hb⟩ | ⟨a,o,rfl,g,hb⟩
 ·refine .inl ⟨p,d,rfl,i,f1,f2,?_⟩;rw[hb];exact bj k (.bl b)
 ·refine .inr ⟨a,o,rfl,g,?_⟩;rw[hb];exact bj k (.bl b)
def FK:eY G (CN G.K) d9:=by
 intro D U r H x y u w v s m t Q f e k;unfold d9 at e;split at e
 ·rename_i n q j;cases e;obtain⟨b,rfl,l,h⟩:=uD f j;cases l;rcases h with⟨p,d,rfl,i,f1,f2,hb⟩ | ⟨a,o,rfl,g,hb⟩
  ·refine .inl ⟨p,d,rfl,i,f1,f2,?_⟩;rw[hb];exact bj k (.bl _)
  ·refine .inr ⟨a,o,rfl,g,?_⟩;rw[hb];exact bj k (.bl _)
 ·cases e
def zk:Tells md:=by
 intro x y m t e;simp only[md]at e;split at e
 all_goals first | (split at e<;>first | grind | cases e) | cases e
def yA:Tells d9:=by
 intro x y m t e;unfold d9 at e;split at e
 ·cases e;exact⟨_,rfl⟩
 ·cases e
def JC{X:Cx}(d:D6 k X.A)(h:PV G X a ca)(g:PV G X b cb)(f:{`q4,behindInMarks .In b=Z})(i:{`q2,X.K=G.K}):PV G X (.Compare a [.In] [b] pos) (e2 md ca cb):=B7 (pO.or (wg (jN d))) (i ▸ EY) h g f
def Jc{X:Cx}(d:D6 k X.A)(h:PV G X a ca)(g:PV G X b cb)(f:{`q4,behindInMarks .In b=Z})(i:{`q2,X.K=G.K}):MQ G X (.Compare a [.In] [b] pos) (e2 md ca cb):=iu (pO.or (wg (jN d))) (i ▸ EY) zk h g f
def vi{X:Cx}(d:D6 k X.A)(h:PV G X a ca)(g:PV G X b cb)(f:{`q4,behindInMarks .NotIn b=Z})(i:{`q2,X.K=G.K}):MQ G X (.Compare a [.NotIn] [b] pos) (e2 d9 ca cb):=iu (qC.or (Bt (jN d))) (i ▸ FK) yA h g f
end
end VS
end
section
open PySem PyProof.Rows
namespace TS
variable{A:SC}
variable{κ:SortKind}
def mid(h:a<b):a+(b-a)/2<b:=by omega
end TS
end
section
open PySem PyProof.Rows
namespace TS
variable{A:SC}
def qx{a:Array Pv}(f:a.Perm (pairsOf e)):(a.map (·.2)).toList.Perm e/\(a.map (·.2)).toList.map (λv=>(v,v))=a.toList:=by
 have d:=Array.perm_iff_toList_perm.mp f;rw[pairsOf_toList]at d;constructor
 ·rw[Array.toList_map];refine(d.map _).trans ?_;rw[show (λx:Pv=>x.2)=Prod.snd from rfl,List.map_snd_zip (Zn _)]
 ·rw[Array.toList_map,ZA]
  conv=>rhs;rw[← List.map_id a.toList]
  apply YE;intro p b;have:=mem_zip_self (d.mem_iff.mp b);exact Prod.ext this.1.symm L
def nl(h:b<n)(k:Nat):b≠n+k:=Zi (Zc h (Xq _ _))
end TS
end
section
namespace L2
open PySem PySem.Spec PyProof.Rows TS
section
theorem sQ:∀{a:Wu},(∀v∈a,∃x t,v=Value.str x t)->aN ((a.map strOf).map V.str) a
 |[],_=>.nil
 |u :: a,h=>by
  obtain⟨x,t,rfl⟩:=h u (Zv ..);exact .cons ⟨t,rfl⟩ (sQ λv b=>h v (Zw _ b))
end
end L2
end
section
namespace VS
mutual
theorem sT:∀(n:Nat)(t:T),LI n t=J->eqT t t=J
 |n,.non,_=>by simp
 |n,.bl _,_=>by simp
 |n,.int _,_=>by simp
 |n,.str _,_=>by simp
 |n+1,.tup l,h=>by
  exact mH n l (ZS.mp h)
 |n+1,.lst l,h=>by
  exact mH n l (ZS.mp h)
 |0,.tup _,h=>nomatch h
 |0,.lst _,h=>nomatch h
 |0,.scr _,h=>nomatch h
 |_+1,.scr _,h=>nomatch h
 |0,.dct _ _,h=>nomatch h
 |_+1,.dct _ _,h=>nomatch h
 |0,.obj _ _,h=>nomatch h
 |_+1,.obj _ _,h=>nomatch h
theorem mH:∀(n:Nat)(l:W7),(∀t∈l,LI n t=J)->yJ l l=J
 |_,[],_=>rfl
 |n,t :: r,h=>by
  exact ZZ.mpr ⟨sT n t (h t Zv),mH n r λu a=>h u (Zw _ a)⟩
end
def Gh{α:Type}(l:List α)(a b:Option Int):(cut l a b).length<=l.length:=by
 unfold cut;simp only[WE,YA];omega
def C8{α:Type}(l:List α)(a b:Option Int){x:α}(h:x∈cut l a b):x∈l:=by
 exact List.mem_of_mem_drop (List.mem_of_mem_take h)
def Gg{α:Type}(l:List α)(k:Nat):cut l M (Y (k:Int))=l.take k:=by
 have h:¬((k:Int)<0):=by lia
 by_cases a:k<=l.length
 ·simp[cut,clip,h,Y3 a]
 ·rw[Y1 (by lia)];simp[cut,clip,h,WM (WK a)]
def gk(e:a U=Y (m,.lst l)):dA a U=Y (m,l):=by
 show (a U).bind _=_;rw[e];rfl
def dz{it:MX}{m:Md}{l:W7}(e:it U=Y (m,l))(h:W8 m=J):jL b it a U=forL b a l U:=by
 simp_all
def bq{g:Fn}{as:KJ}{U:Env}{a:W5}{t:T}(h:as U=Y a)(b:g (trees a)=Y (.fr,t)):bu g as U=Y (.fr,t):=by
 simp_all
def aI{i:Nat}{e:Ex}{U:Env}{m:Md}{t:T}(h:e U=Y (m,t))(a:m ≠ .bo)(b:i<U.length):aU i e U=Y (.nx (U.set i (Y (.pu t)))):=by
 simp_all
def nz{t:T}(h:e U=Y (.fr,t))(a:oC t=J)(b:i<U.length):jM i e U=Y (.nx (U.set i (Y (.ow t)))):=by
 simp_all
def B5:bE (m,.lst s) (n,.lst t)=N9 (m.join n) (s++t):=rfl
end VS
end
section
namespace VS
open PySem PySem.Spec PyProof.Rows L2
def Ja{a b c:Tx}(h:a<b)(d:¬c<b):a<c:=by
 grind
theorem ko(x:Tx):∀l:List Tx,(pP x l).Perm (x :: l)
 |[]=>Y0 _
 |y :: r=>by
  unfold pP;split
  ·exact((ko x r).cons y).trans (List.Perm.swap _ _ _)
  ·exact Y0 _
theorem jw:∀l:List Tx,(ip l).Perm l
 |[]=>Y0 _
 |x :: l=>(ko x _).trans ((jw l).cons x)
theorem uz(x:Tx):∀{l:List Tx},l.Pairwise (λa b=>¬b<a)->(pP x l).Pairwise (λa b=>¬b<a)
 |[],_=>List.pairwise_singleton _ _
 |y :: r,h=>by
  unfold pP;rw[jA];obtain⟨f,e⟩:=YM.mp h;split
  ·rename_i c;refine YM.mpr ⟨λz d=>?_,uz x e⟩;rcases Zj.mp ((ko x r).mem_iff.mp d) with rfl | d
   ·grind
   ·exact f z d
  ·rename_i c;have g:¬y<x:=by simpa using c
   refine YM.mpr ⟨λz d=>?_,h⟩;grind
theorem qy:∀l:List Tx,(ip l).Pairwise (λa b=>¬b<a)
 |[]=>List.Pairwise.nil
 |x :: l=>uz x (qy l)
def pS{d:List Tx}(h:d.Perm l)(e:d.Pairwise (λa b=>¬b<a)):d=ip l :=
 List.Perm.eq_of_pairwise (λa b _ _ g f=>List.le_antisymm (List.not_lt.mp g) (List.not_lt.mp f)) e (qy l) (h.trans (jw l).symm)
def zE(s:Tx):(sx s).cps.toList=s:=rfl
def zD{f:List Tx}{d:List Str}(h:d.Perm (f.map sx))(i:d.Pairwise (λa b=>¬b.cps.toList<a.cps.toList)):d=(ip f).map sx:=by
 have e:d=(d.map λx=>x.cps.toList).map sx:=by
  rw[ZA]
  conv=>lhs;rw[← List.map_id d]
  apply YE;intro x g;obtain⟨s,_,rfl⟩:=ZQ.mp (h.mem_iff.mp g);show sx s=sx (sx s).cps.toList;rw[zE]
 have e2:(d.map λx=>x.cps.toList)=ip f:=by
  refine pS ?_ ?_
  ·have:=h.map λx:Str=>x.cps.toList;rw[ZA]at this;have e3:((λx:Str=>x.cps.toList) ∘ sx)=id:=by
    funext s;exact zE s
   rw[e3,List.map_id]at this;exact this
  ·rw[X3];exact i
 rw[e,e2]
def Sq(s:Tx):Bool:=decide (s.length<=fB)&&s.all (λc=>decide (c<1114112))
def Hj{s:Tx}(h:Sq s=J):pC s:=by
 unfold Sq at h;simp at h;exact h
section
theorem vE{H:Hp}:∀{ss:List Tx},(∀s∈ss,pC s)->RpL G H (ss.map λs=>V.str (sx s)) (ss.map T.str) (ss.map λ_=>[])
 |[],_=>.nil
 |s :: ss,h=>.cons (.str s (h s (Zv ..))) (vE λx a=>h x (Zw _ a))
theorem n8{α β:Type}:∀(l:List α),(l.map λ_=>([]:List β)).flatten=[]
 |[]=>rfl
 |_ :: l=>by simp
def Aq{G:Gx}{D:Kn}{U:VS.Env}{i H:Hp}{d:List Tx}{Q:VK}(k:∀v g F,aG H g->Rp G g v (.lst ((ip d).map T.str)) F->Fp D U i .fr F->Q v g)(m:aG i H)(j:∀s∈d,pC s) :
  ∀(l:On)(f:List Str),H l=M->f.Perm (d.map sx)->f.Pairwise (λa b=>¬b.cps.toList<a.cps.toList)->Q (.ref l) (upd H l (.lst (f.map V.str))):=λq f h o hw=>by
 rw[zD o hw];have r:Rp G _ _ _ _:=.lst (by rw[aA,ZA];rfl) (vE (G:=G) (H:=upd H q (.lst (((ip d).map sx).map _))) λs n=>j s ((jw d).mem_iff.mp n));rw[n8]at r;exact k _ _ _ (bN h) r (Fp.new (m.free h) (by simp) Fp.nil)
theorem keys_str:∀{a:List Key}{b:List Tx},strs? (a.map bf)=Y b->a=(b.map sx).map Sum.inr
 |[],_,e=>by cases e;rfl
 |.inl i :: a,_,e=>by cases e
 |.inr x :: a,b,e=>by
  obtain⟨d,e1,e2⟩:=Zy.mp (e);subst e2;rw[keys_str e1];simp[sx]
def p5:bootBuiltins ("sorted" : Str)=Y (.builtin "sorted"):=by decide +kernel
end
end VS
end
section
namespace ST
open PySem PySem.Spec PyProof.Rows
variable{A:SC}
noncomputable def QA(w:UV):Bool:=w.params.followText "set-order"
def GB(t:SetTable)(n:Nat):(t.orStandIn n).led=t.led/\(t.plain=Z->(t.orStandIn n).plain=Z):=by
 unfold SetTable.orStandIn;by_cases a:t.fits n=J
 ·simp_all
 ·rw[Zl a];exact⟨rfl,λ_=>rfl⟩
def CV(t:SetTable)(a:Array (Int×PP))(h:Int)(x:PP):(layNew t a h x).2.1.led=t.led/\(t.plain=Z->(layNew t a h x).2.1.plain=Z):=by
 unfold layNew;split
 ·exact GB _ _
 ·exact⟨rfl,λ_=>rfl⟩
def yY(t:SetTable)(e:Array (Int×PP))(n:Nat):(relayAll t e n).2.1.led=t.led/\(t.plain=Z->(relayAll t e n).2.1.plain=Z):=by
 unfold relayAll;cases a:t.relaid _ n with
 |none=>exact⟨rfl,λ_=>rfl⟩
 |some p =>
  obtain⟨b,ord⟩:=p;have f:b.led=t.led/\b.plain=t.plain:=by
   unfold SetTable.relaid SetTable.laid at a;cases d:SetTable.layClean _ _ with
   |none=>rw[d]at a;cases a
   |some o =>
    rw[d]at a;cases a;exact⟨rfl,rfl⟩
  dsimp only;split
  ·simp_all
  ·exact⟨rfl,λ_=>rfl⟩
abbrev bare(w:UV):Obj:={ cls:=.type "set",dict:=M,data:=.set #[] 0 (.fresh 0 0 (!QA w)) }
def CU{s:KB}(v:PP){Q:Yy}(h:Q (.ref s.heap.objs.size) { s with heap:=s.heap.push (bare w) }) :
  codeAny (KF prog w) A (.call (.builtin "set.__new__") ⟨[.type "set",v],[]⟩) (wants Q E) s:=by
 refine codeAny_of_tree (Zx (wpAny_of_eq (F.newCall_set_1 v) (Zs ⟨YT F.plain_set_new _,Yn F.entry_set_new ?_⟩)));rw[Z5 F.plain_set_new];have own:=sub_set_self;cases s;unfold Builtin.«set.__new__» Builtin.Frozenset.newClass
 wp_walk
 refine XG (Zs ?_);exact Zx (wpAny_alloc (Zs (Zs h)))
end ST
end
section
namespace ST
open PySem PySem.Spec PyProof.Rows
variable{A:SC}
def nh:Slot "set_iterator" "__next__" "set_iterator.__next__" := .of (owner := "set_iterator") (n := "__next__") (by rw[Wm,XI];kernel_rfl) (by decide +kernel) (by decide +kernel)
 (by decide +kernel) (by first | exact .inl (by decide +kernel) | exact .inr (by decide +kernel)) (by rw[Wc];kernel_rfl)
def wI:Slot "set_iterator" "__iter__" "set_iterator.__iter__" := .of (owner := "set_iterator") (n := "__iter__") (by rw[Wm,XI];kernel_rfl) (by decide +kernel) (by decide +kernel)
 (by decide +kernel) (by first | exact .inl (by decide +kernel) | exact .inr (by decide +kernel)) (by rw[Wc];kernel_rfl)
def DM:entryFor table "set_iterator.__next__" = Y Builtin.«set_iterator.__next__» := entryFor_of_fast (by kernel_rfl)
def CQ:entryFor table "set_iterator.__iter__" = Y Builtin.«dict_keyiterator.__iter__» := entryFor_alias (id' := "dict_keyiterator.__iter__") (by kernel_rfl) L (by decide +kernel) (by kernel_rfl)
def Cp:entryFor table "set.__iter__" = Y Builtin.«frozenset.__iter__» := entryFor_alias (id' := "frozenset.__iter__") (by kernel_rfl) L (by decide +kernel) (by kernel_rfl)
def DI(v:PP):argsOk "set_iterator.__next__" ⟨[v],[]⟩:=by kernel_rfl
def Eb(v:PP):argsOk "set_iterator.__iter__" ⟨[v],[]⟩:=by kernel_rfl
def wp_choose(b:n≠0)(h:∀i d,i<n->Q i { s with drawn:=d }):Pi (KF prog w) A (choose a n) Q E s:=λΓ p _=>by
 exact⟨b,h _ _ (Nat.mod_lt _ (Ys b))⟩
theorem qz{α:Type}:∀(l:List α){i:Nat}(h:i<l.length),(l[i] :: l.eraseIdx i).Perm l
 |a :: l,0,_=>Y0 _
 |a :: l,i+1,h=>((List.Perm.swap _ _ _).trans ((qz l (by simpa using h)).cons a))
def Dz{α:Type}:∀(n:Nat)(a:List α)(s:KB)(Q:List α->KB->Prop),n=a.length->(∀b d,b.Perm a->Q b { s with drawn:=d })->Pi (KF prog w) A (drawOrder n a) Q E s:=by
 intro n
 induction n with
 |zero =>
  intro a s Q e h;cases a with
  |nil=>exact Zs (h [] _ (Y0 _))
  |cons x a=>exact absurd e (by simp)
 |succ n g =>
  intro a s Q e h;cases a with
  |nil=>exact absurd e (by simp)
  |cons x a =>
   refine Zx (wp_choose (by simp) λi d f=>?_);rw[Zr f];refine Zx (g _ _ _ (by grind) λb l j=>Zs (h _ l ?_));exact(List.Perm.cons _ j).trans (qz _ f)
noncomputable abbrev P1(first:PP)(i:Nat)(a:On)(n b:Nat):Obj:={ cls:=.type "set_iterator",data:=.fields #[first,.int i 0,.ref a,.int n 0,.int b 0] }
def Af{t:SetTable}(h:t.fits n=J):¬((t.place.size != n||decide (t.fill > t.mask))=J):=by
 unfold SetTable.fits at h
 simp_all
def BL{s:KB}(f:A.handled=M)(h:∀(a:UF)(x:On),(∀b o,s.heap.get? b=Y o->a.get? b=Y o)->(∃o,a.get? x=Y o/\o.cls=.type "StopIteration")->d (.ref x) { s with heap:=a }) :
  Pi (KF prog w) A (newExc (.type "StopIteration") [] >>= λe=>raiseNew e) Q d s:=by
 refine Zx (Zx (YZ (Zx (wpAny_of_eq (by first | rfl | (rfl)) (YZ ?_ (by size_fits)))) (by size_fits)));refine Zx (wpAny_handled ?_);rw[f];exact Zx (Zs (wpAny_throw (h _ _ (λb o e=>Zu _ (Zu _ e)) ⟨_,Zh _ L,rfl⟩)))
def v8{s:KB}(i:s.heap.get? I=Y { cls:=.type "set_iterator",data:=.fields j })(h:Pi (KF prog w) A.in1 (Builtin.«set_iterator.__next__» ⟨[.ref I],[]⟩) (λf a=>∃v,f=.done (.ret v)/\Q (Y v) a) (λe a=>∃x,e=.ref x/\(∃o,a.heap.get? x=Y o/\o.cls=.type "StopIteration")/\Q M a) s) :
  Pi (KF prog w) A (pyNext (.ref I)) Q E s:=by
 have ty:s.TypeIs (.ref I) _:=⟨_,i,rfl⟩
 refine Zx (wpAny_attempt (wpAny_callSpecial?_slot ty nh (YJ nh ty DM (Z4 h (λf a d=>?_) λe a he=>?_) (DI _))))
 ·obtain⟨v,rfl,q⟩:=d;exact⟨v,rfl,Zs q⟩
 ·obtain⟨x,rfl,⟨o,b,g⟩,q⟩:=he;exact Zx (wpAny_isInstance ⟨o,b,g⟩ isSubtype_stop (Zs q))
noncomputable abbrev vy(a:Array (Int×PP))(b:Nat)(t:SetTable):Obj:={ cls:=.type "set",dict:=M,data:=.set a b t }
def oP{s:KB}{q:Wa}(z:A.handled=M)(v:s.heap.get? a=Y (vy f m t))(r:t.fits f.size=J)(h:s.heap.get? I=Y (P1 (.ref p) i a f.size m))(y:s.heap.get? p=Y n)(B:n.data=.seq (q.map λ(k:Nat)=>rawInt k).toArray u)(D:∀j x,q[i]?=Y j->f[j]?=Y x->∀d,Heap.SameBut I s.heap d->d.get? I=Y (P1 (.ref p) (i+1) a f.size m)->Q (Y x.2) { s with heap:=d })(F:∀j,q[i]?=Y j->j<f.size)(C:q[i]?=M->∀d,(∀b o,b≠I->s.heap.get? b=Y o->d.get? b=Y o)->Q M { s with heap:=d }) :
  Pi (KF prog w) A (pyNext (.ref I)) Q E s:=by
 refine v8 h ?_
 wp_walk
 rw[Zl (Af r)];refine Zs (Zs ?_);rw[Zl (by simp)];refine Zx (Wf y B ?_);dsimp only;rw[YF];cases g:q[i]? with
 |some j =>
  have e1:(q.map λ(k:Nat)=>rawInt k).toArray[i]?=Y (rawInt j):=by simp[g]
  rw[e1];refine Zx (Zx (YD v L r ?_));dsimp only;rw[YF,Zl (by simp)];rw[YF];cases l:f[j]? with
  |none=>simp_all
  |some x =>
   refine Zs (Zx (Ya h L (by show 1<5;decide) (Zs ⟨_,rfl,D j x g l _ (Y2 ..) ?_⟩)));exact ZI _ h L
 |none =>
  have e1:(q.map λ(k:Nat)=>rawInt k).toArray[i]?=M:=by simp at g ⊢;exact g
  rw[e1];refine Zx (Ya h L (by show 0<5;decide) (Zx (Ya (ZI _ h L) L (by show 2<5;decide) (BL z λd x kp l=>⟨x,rfl,l,C g d λb o hb e=>kp b o ?_⟩))));exact(ZO _ _ (Z9 hb)).trans ((ZO _ _ (Z9 hb)).trans e)
def jF{prog:SB}{w:UV}{s:KB}{I a:On}{i h m:Nat}{g:Array (Int×PP)}{t:SetTable}{r:Option (PP×Nat)}{Q:Wb->KB->Prop}(u:A.handled=M)(y:s.heap.get? a=Y (vy g h t))(v:t.fits g.size=J)(f:s.heap.get? I=Y (P1 (.int m 0) i a g.size h))(q:∀(Q:Option (PP×Nat)->KB->Prop)(E:Yy),Q r s->Pi (KF prog w) A.in1 (setNext a m i h) Q E s)(l:∀x nx,r=Y (x,nx)->∀d,Heap.SameBut I s.heap d->d.get? I=Y (P1 (.int nx 0) (i+1) a g.size h)->Q (Y x) { s with heap:=d })(j:r=M->∀d,(∀b o,b≠I->s.heap.get? b=Y o->d.get? b=Y o)->Q M { s with heap:=d }) :
  Pi (KF prog w) A (pyNext (.ref I)) Q E s:=by
 refine v8 f ?_
 wp_walk
 rw[Zl (Af v)];refine Zs (Zs ?_);rw[Zl (by simp)];refine Zx (q _ _ ?_)
 match r,l,j with
 |some (x,nx),l,_ =>
  have n:=ZI (Obj.mapFields (·.setIfInBounds 0 (rawInt nx))) f L;exact Zx (Ya f L (by show 0<5;decide) (Zx (Ya n L (by show 1<5;decide) (Zs ⟨x,rfl,l x nx L _ (Heap.SameBut.trans (Y2 ..) (Y2 ..)) (ZI _ n L)⟩))))
 |none,_,j =>
  refine Zx (Ya f L (by show 2<5;decide) (BL u λd x kp p=>⟨x,rfl,p,j L d λb o hb e=>kp b o ?_⟩));exact(ZO _ _ (Z9 hb)).trans e
theorem w6{α:Type}(f:Nat->Nat):∀(n k:Nat)(l:List α)(out:Array α),l.length=n->(pickOrder.go f n k l out).toList.Perm (out.toList++l)
 |0,k,l,out,h=>by
  cases l with
  |nil=>unfold pickOrder.go;simp
  |cons a l=>simp at h
 |n+1,k,l,out,h=>by
  have hl:f k%l.length<l.length:=Nat.mod_lt _ (by lia);unfold pickOrder.go;rw[Zr hl];refine(w6 f n _ _ _ (by grind)).trans ?_;rw[Array.toList_push,Yu];exact List.Perm.append_left _ (qz l hl)
def lV{α:Type}(f:Nat->Nat)(a:Array α):(pickOrder f a).toList.Perm a.toList:=by
 unfold pickOrder;simpa using w6 f _ 0 a.toList #[] L
def wD{s:KB}(m:QA w=J)(j:s.heap.get? a=Y (vy b d t))(l:t.fits b.size=J)(Q:Option (PP×Nat)->KB->Prop)(E:Yy)(h:Q (((pickOrder (w.params.setOrder a d) b)[i]?).map λe=>(e.2,f)) s):Pi (KF prog w) A (setNext a f i d) Q E s:=by
 have g:∀(Q:Bool->KB->Prop),Q _ s->Pi (KF prog w) A setsByText Q E s:=λQ q=>Zx (XG (Zs (by show Q (QA w) s;rw[m];exact q)));refine Zx (YD j L l (Zx (g _ ?_)));rw[Zm L,Zl (by simp)];refine Zx (Zx (YD j L l (Zx (g _ ?_))));rw[Zm L];exact Zx (XG (Zs (Zs h)))
end ST
end
section
namespace ST
open PySem PySem.Spec PyProof.Rows
variable{A:SC}
noncomputable abbrev Gs:Array GenState->Array GenState->Prop:=λa b=>b=a
def qQ{prog:SB}{w:UV}{I a:On}{r:X6}{j:Array (Int×PP)}{l:Nat}{t:SetTable}{m:Wu}(first:Nat->PP)(d:UF->Prop)(C:I∈r)(B:a∈r)(D:a≠I)(x:∀h f:UF,d h->(∀b∈r,b≠I->∀o,h.get? b=Y o->f.get? b=Y o)->d f)(step:∀(i:Nat)(s:KB)(Q:Wb->KB->Prop)(E:Yy),i<j.size->s.heap.get? a=Y (vy j l t)->s.heap.get? I=Y (P1 (first i) i a j.size l)->d s.heap →
   (∀v f,m[i]?=Y v->Heap.SameBut I s.heap f->f.get? I=Y (P1 (first (i+1)) (i+1) a j.size l)->Q (Y v) { s with heap:=f })->Pi (KF prog w) A (pyNext (.ref I)) Q E s)(stop:∀(s:KB)(Q:Wb->KB->Prop)(E:Yy),s.heap.get? a=Y (vy j l t)->s.heap.get? I=Y (P1 (first j.size) j.size a j.size l)->d s.heap →
   (∀f,(∀b o,b≠I->s.heap.get? b=Y o->f.get? b=Y o)->Q M { s with heap:=f })->Pi (KF prog w) A (pyNext (.ref I)) Q E s) :
  WalksS prog w A I r [I] Gs j.size (λi v=>m[i]?=Y v) (λi s=>s.heap.get? a=Y (vy j l t)/\s.heap.get? I=Y (P1 (first i) i a j.size l)/\d s.heap) where
 sub:=λb hb=>by simp_all
 grefl:=λ_=>rfl
 gtrans:=λ_ _ _ p q=>q.trans p
 frame:=λi s f F st _ kp=>⟨kp a B _ st.1,kp I C _ st.2.1,x _ _ st.2.2 λb hb _ o e=>kp b hb o e⟩
 item:=λi s Q E z st n=>step i s Q E z st.1 st.2.1 st.2.2 λv f y u g=>n v _ y ⟨(u.2 a D).trans st.1,g,x _ _ st.2.2 λb _ hb o e=>(u.2 b hb).trans e⟩ ⟨λb o hb e=>(u.2 b λq=>hb (by simp_all)).trans e,rfl,rfl,rfl,Zn _⟩
 done:=λs Q E st n=>stop s Q E st.1 st.2.1 st.2.2 λf kp=>n _ ⟨λb o hb e=>kp b o (λq=>hb (by simp_all)) e,rfl,rfl,rfl,Zn _⟩
 self:=λi s Q E st n=>Wy ⟨_,st.2.1,rfl⟩ wI (YJ wI ⟨_,st.2.1,rfl⟩ CQ (Zs ⟨_,rfl,_,_,⟨_,st.2.1,rfl⟩,nh.lookup,n⟩) (Eb _))
def Ready(b:SB)(w:UV)(d:Nat)(a:On)(e:Array (Int×PP))(I:On)(s:KB):Prop :=
 ∃(ord:Wu)(p:On),ord.Perm (e.toList.map (·.2))/\d<=I/\d<=p/\∃St:Nat->KB->Prop,(∀A:SC,A.handled=M->WalksS b w A I [I,a,p] [I] Gs e.size (λi v=>ord[i]?=Y v) St)/\St 0 s
def As{s:KB}(f:s.TypeIs (.ref a) "set")(h:Q Z s):Pi (KF prog w) A (Builtin.List.listLengthHint (.ref a)) Q E s:=by
 refine Zx (wpAny_specialOf f PySem.F.slot_set_len.lookup ?_);generalize d:("set.__len__" : String)=nm
 wp_delta
 rw[show splitId nm=Y ("set", "__len__") from by subst d;decide +kernel];subst d;exact Zx (wpAny_isInstance (T := "set") (b:=J) f sub_set_self (wpAny_ite_split (λe=>absurd e (by decide)) λ_=>wpAny_ite_split (λ_=>Zx (wpAny_typeOf f (Zs h))) λe=>absurd (by decide +kernel) e))
end ST
end
section
namespace L2
open PySem PySem.Spec PyProof.Rows TS
section
def Inv.drew(I:Inv X a O H s)(d:Drawn):Inv X a O H { s with drawn:=d } :=
 ⟨I.ok,I.os,I.bare,I.base,I.loc,I.cell,I.free,I.KH,I.pin,I.D8,I.len⟩
end
end L2
namespace VS
open PySem PySem.Spec PyProof.Rows L2
section
def FZ:bootBuiltins ("set" : Str)=Y (.type "set"):=by decide +kernel
end
inductive Mq(G:Gx)(H:Hp):List Ky->V->V->Prop
 |nil (v:V):Mq G H [] v v
 |fld {c k:Nat} {a dx:On} {fs:List (Str×V)} {u w:V} {ks:List Ky}:H a=some (.ins (G.ct (c+1)).1 dx fs)->fs.lookup ((G.ct (c+1)).2 k)=some u->Mq G H ks u w->Mq G H (.fld k :: ks) (.ref a) w
 |ix {a:On} {vs:List V} {i:Int} {j:Nat} {u w:V} {ks:List Ky}:H a=some (.lst vs)->Lg vs.length i=some j->vs[j]?=some u->Mq G H ks u w->Mq G H (.at (.int i) :: ks) (.ref a) w
 |key {a:On} {jj:List (Key×V)} {k:Key} {u w:V} {ks:List Ky}:H a=some (.dK jj)->gK jj k=some u->Mq G H ks u w->Mq G H (.at (bf k) :: ks) (.ref a) w
 |un {v w:V} {ks:List Ky}:Mq G H ks v w->Mq G H (.un :: ks) v w
section
def rS{f:Ye}{i j:Nat}{F h:X6}(d:f.flatten.Nodup)(b:f[i]?=Y F)(e:f[j]?=Y h)(n:i≠j){a:On}(g:a∈F):a∉h:=by
 intro hb
 induction f generalizing i j with
 |nil=>simp at b
 |cons G Gs l =>
  rw[Yg,ZR]at d;cases i with
  |zero =>
   simp at b;subst b;cases j with
   |zero=>exact n L
   |succ j=>exact d.2.2 a g a (cQ (by simpa using e) hb) L
  |succ i =>
   cases j with
   |zero =>
    simp at e;subst e;exact d.2.2 a hb a (cQ (by simpa using b) g) L
   |succ j=>exact l d.2.1 (by simpa using b) (by simpa using e) (by lia)
def cA{d:Ye}(h:a∈(d.set j f).flatten):a∈f\/∃i F,i≠j/\d[i]?=Y F/\a∈F:=by
 obtain⟨i,F,b,g⟩:=gb h;by_cases e:i=j
 ·subst e;rw[List.getElem?_set_self' ]at b
  simp_all
 ·rw[ZH (Z9 e)]at b;exact .inr ⟨i,F,e,b,g⟩
theorem eI:∀{p:Ye}{j:Nat}{f:X6},p.flatten.Nodup->f.Nodup->(∀i F,i≠j->p[i]?=Y F->∀a∈F,a∉f)->(p.set j f).flatten.Nodup
 |[],_,_,h,_,_=>by simpa using h
 |G :: Gs,0,f,h,o,d=>by
  rw[Yg,ZR]at h;rw[List.set_cons_zero,Yg,ZR];refine⟨o,h.2.1,λa g b hb e=>?_⟩;subst e;obtain⟨i,F,m,l⟩:=gb hb;exact d (i+1) F (by lia) (by simpa using m) a l g
 |G :: Gs,j+1,f,h,o,d=>by
  rw[Yg,ZR]at h;rw[List.set_cons_succ,Yg,ZR];refine⟨h.1,eI h.2.1 o λi F n q=>d (i+1) F (by lia) (by simpa using q),λa g b hb e=>?_⟩;subst e;rcases cA hb with z | ⟨i,F,n,m,l⟩
  ·exact d 0 G (by lia) L a g z
  ·exact h.2.2 a g a (cQ m l) L
def RpL.each:∀{f:List V}{e:W7}{g:Ye},RpL G H f e g->(∀(i:Nat) v t F,f[i]?=Y v->e[i]?=Y t->g[i]?=Y F->Rp G H v t F->Rp G h v t F)->RpL G h f e g:=by
 intro f e
 induction e generalizing f with
 |nil=>intro g r k;cases r;exact .nil
 |cons t e j =>
  intro g r k;cases r with
  |cons r q=>exact .cons (k 0 _ _ _ L L L r) (j q λi v t F a b c d=>k (i+1) v t F a b c d)
theorem RpL.setAt:∀{e:List V}{f:W7}{m:Ye}{j:Nat}{u:V}{o:T}{p:X6},RpL G H e f m->e[j]?=Y u->Rp G l u o p->(∀(i:Nat) v t F,i≠j->e[i]?=Y v->f[i]?=Y t->m[i]?=Y F->Rp G H v t F->Rp G l v t F)->RpL G l e (f.set j o) (m.set j p)
 |_,_,_,_,_,_,_,.nil,h,_,_=>by simp at h
 |_,_,_,0,_,_,_,.cons r q,h,g,k=>by
  simp at h;subst h;exact .cons g (RpL.each q λi v t F a b c d=>k (i+1) v t F (by lia) (by simpa using a) (by simpa using b) (by simpa using c) d)
 |_,_,_,j+1,_,_,_,.cons r q,h,g,k=>.cons (k 0 _ _ _ (by lia) L L L r) (RpL.setAt q (by simpa using h) g λi v t F n a b c d=>k (i+1) v t F (by lia) (by simpa using a) (by simpa using b) (by simpa using c) d)
def nB(L:H a=Y o)(D:RpL G H q C d)(e:(a :: d.flatten).Nodup)(N:q[j]?=Y u)(x:d[j]?=Y A)(g:Chg G H u A B p m):p a=Y o/\RpL G p q (C.set j B) (d.set j m)/\(a :: (d.set j m).flatten).Nodup/\(∀b∈a :: (d.set j m).flatten,b∈a :: d.flatten\/H b=M)/\∀b o,b∉a :: d.flatten->H b=Y o->p b=Y o:=by
 rw[Zd]at e;have y:∀b∈A,b∈d.flatten:=λb hb=>cQ x hb;refine⟨g.keep a o (λz=>e.1 (y a z)) L,D.setAt N g.rp (λi v t F n l f O r=>r.keep g.kept λb hb s w=>g.keep b s (rS e.2 O x n hb) w),?_,λb hb=>?_,λb s hb w=>g.keep b s (λz=>hb (Zw _ (y b z))) w⟩
 ·rw[Zd];refine⟨λh=>?_,eI e.2 g.nd (λi F n E b hb P=>by
  rcases g.sub b P with z | z
  ·exact rS e.2 E x n hb z
  ·exact Kv.pe (D.KC b (cQ E hb)) z)⟩
  rcases cA h with z | ⟨i,F,n,l,f⟩
  ·rcases g.sub a z with z | z
   ·exact e.1 (y a z)
   ·rw[L]at z;cases z
  ·exact e.1 (cQ l f)
 ·rcases Zj.mp hb with rfl | hb
  ·exact .inl Zv
  ·rcases cA hb with z | ⟨i,F,n,l,f⟩
   ·rcases g.sub b z with z | z
    ·simp_all
    ·exact .inr z
   ·exact .inl (Zw _ (cQ l f))
theorem rT{α β:Type}:∀(d:List α)(bs:List β)(i:Nat)(a:α)(y:β),d[i]?=Y a->(d.zip bs).set i (a,y)=d.zip (bs.set i y)
 |[],_,_,_,_,h=>by simp at h
 |a :: d,[],i,_,_,_=>by cases i<;>simp
 |a :: d,b :: bs,0,_,y,h=>by simp at h;subst h;rfl
 |a :: d,b :: bs,i+1,_,y,h=>by
  have:=rT d bs i _ y (by simpa using h);simp[this]
theorem lD{α β:Type}(p:α->Bool):∀{d:List α}{bs:List β}{i:Nat},d.length=bs.length->(d.zip bs).findIdx? (λq=>p q.1)=Y i->∃a b,d[i]?=Y a/\bs[i]?=Y b/\p a=J/\(d.zip bs).find? (λq=>p q.1)=Y (a,b)
 |[],[],_,_,h=>by simp at h
 |a :: d,b :: bs,i,hl,h=>by
  rw[ZP,Wg]at h;by_cases e:p a=J
  ·rw[Zm e]at h;cases h;exact⟨a,b,rfl,rfl,e,by simp[e]⟩
  ·rw[Zl e]at h;refine L2.ah λt g=>?_;obtain⟨j,f,rfl⟩:=Zy.mp h;obtain⟨s,r,o,n,m,l⟩:=lD p (by simpa using hl) f
   simp_all
def lM(k a:Key):eqT (bf a) (bf k)=J↔a=k:=by
 cases k with
 |inl i=>cases a<;>simp[bf]
 |inr x =>
  obtain⟨⟨x⟩⟩:=x;cases a with
  |inl j=>simp[bf]
  |inr y=>obtain⟨⟨y⟩⟩:=y;simp[bf]
theorem wQ:∀{ns:List Key}{d:W7}{a:List V}{i:Nat},ns.length=d.length->ns.length=a.length->((ns.map bf).zip d).findIdx? (λq=>eqT q.1 (bf k))=Y i->a[i]?=Y u->gK (ns.zip a) k=Y u
 |[],_,_,_,_,_,h,_=>by simp at h
 |n :: ns,t :: d,v :: a,i,m,l,h,e=>by
  rw[Zg,ZP,Wg]at h;by_cases b:eqT (bf n) (bf k)=J
  ·rw[Zm b]at h;cases h;simp at e;subst e;exact i8 ((lM k n).mp b)
  ·rw[Zl b]at h;obtain⟨j,g,rfl⟩:=Zy.mp h;have f:n≠k:=λz=>b ((lM k n).mpr z);have:gK ((n :: ns).zip (v :: a)) k=gK (ns.zip a) k:=by simp[gK,f]
   rw[this];exact wQ (by simpa using m) (by simpa using l) g (by simpa using e)
 |_ :: _,[],_,_,h,_,_,_=>by simp at h
 |_ :: _,_ :: _,[],_,_,h,_,_=>by simp at h
def gF(r:Rp G H v (.obj (c+1) (h :: i)) F):∃(f:Nat)(a l:On)(b:Bool)(e:Wa)(d:List V)(g:W7)(j:Ye),c+1=f+1/\v=.ref a/\h=(0,.bl b)/\i=e.zip g/\F=a :: j.flatten ∧
  H a=Y (.ins (G.ct (f+1)).1 l ((e.map (G.ct (f+1)).2).zip d))/\e.length=d.length/\(b=J->G.me 0=Y (.ref a))/\RpL G H d g j:=r.inv
def o7(r:Rp G H v (.obj 0 [(0,.bl J),(m,t)]) F):∃a,v=.ref a/\G.me m=Y (.ref a)/\Rp G H (.ref a) t F:=r.inv _ _ L
def tm{G:Gx}{c e:Nat}(o:∀c k g:Nat,(G.ct c).2 k=(G.ct c).2 g->k=g){d:Wa}{b:List V}{f:W7}{u:V}{i:Nat}(h:d.length=b.length)(a:(d.zip f).findIdx? (λq=>q.1==e)=Y i)(l:d[i]?=Y e)(n:b[i]?=Y u):((d.map (G.ct c).2).zip b).lookup ((G.ct c).2 e)=Y u:=by
 induction d generalizing b f i with
 |nil=>simp at l
 |cons m v p =>
  cases b with
  |nil=>simp at h
  |cons t bs =>
   cases f with
   |nil=>simp at a
   |cons s f =>
    rw[Zg,ZP,Xp];rw[ZP,Wg]at a;by_cases q:(m==e)=J
    ·rw[Zm q]at a;cases a
     simp_all
    ·rw[Zl q]at a;obtain⟨j,r,rfl⟩:=Zy.mp a;have:((G.ct c).2 e==(G.ct c).2 m)=Z:=by
      grind
     rw[this];exact p (by simpa using h) r (by simpa using l) (by simpa using n)
def Ij{α:Type}{f:T->Option (T×α)}{y:α}(e:pm f (.un :: d) t=Y (a,y)):∃m x z,t=.obj 0 [(0,.bl J),(m,x)]/\pm f d x=Y (z,y)/\a=.obj 0 [(0,.bl J),(m,z)]:=by
 cases t with
 |obj c fs =>
  cases c with
  |succ c=>cases e
  |zero =>
   cases fs with
   |nil=>cases e
   |cons q fs =>
    obtain⟨n,v⟩:=q;cases n with
    |succ n=>cases e
    |zero =>
     cases v with
     |bl b =>
      cases b with
      |false=>cases e
      |true =>
       cases fs with
       |nil=>cases e
       |cons g fs =>
        obtain⟨m,x⟩:=g;cases fs with
        |cons _ _=>cases e
        |nil =>
         obtain⟨⟨z,h⟩,e1,e2⟩:=Zy.mp e;cases e2;exact⟨_,_,_,rfl,e1,rfl⟩
     |_=>cases e
 |_=>cases e
noncomputable abbrev PmC(G:Gx)(H:Hp){α:Type}(f:T->Option (T×α))(g:List Ky)(v:V)(e:T)(F:X6)(y:α):Prop:=∃w x a b,Mq G H g v w/\Rp G H w x a/\a.Nodup/\f x=Y (b,y)/\∀d h,Chg G H w a b d h->∃i,Chg G H v F e d i
def o8{G:Gx}{α:Type}{f:T->Option (T×α)}:∀(ks:List Ky){v:V}{t X:T}{F:X6}{y:α},(∀c k k':Nat,(G.ct c).2 k=(G.ct c).2 k'->k=k')->Rp G H v t F->F.Nodup->pm f ks t=Y (X,y) →
  PmC G H f ks v X F y:=by
 intro ks
 induction ks with
 |nil=>intro v t X F y _ r nd e;exact⟨v,t,F,X,.nil v,r,nd,e,λC SU g=>⟨_,g⟩⟩
 |cons ky ks ih =>
 intro v t X F y inj r nd e;cases ky with
 |fld k =>
  cases t with
  |obj c fs0 =>
   cases c with
   |zero=>cases e
   |succ c =>
   cases fs0 with
   |nil=>cases e
   |cons q0 fs =>
   refine L2.ah λP_ Q=>?_;obtain⟨i,R,e⟩:=Zz.mp e;obtain⟨p,h2,e⟩:=Zz.mp e;obtain⟨⟨z,y'⟩,e1,e2⟩:=Zy.mp e;cases e2;obtain⟨c',a,dx,b,ns,vs,U,Fs,ec,rfl,rfl,rfl,rfl,B,hl,hb,d⟩:=gF r;cases ec;obtain⟨A,x0,g1,g2,g3,g4⟩:=lD (λn=>n==k) (hl.trans d.len.1) R;have ek:A=k:=by simpa using g3
   subst ek;have ep:p=(A,x0):=by
    have:(ns.zip U)[i]?=Y (A,x0):=by rw[YI];exact⟨g1,g2⟩
    simp_all
   subst ep;obtain⟨u,Fi,q,o,u3⟩:=d.get i g2;obtain⟨w,x,S,D,P,O,N,L,E⟩:=ih inj u3 (((Zd.mp nd).2).sublist (bM o)) e1;refine Q ?_;refine⟨w,x,S,D,.fld (c:=c) B (tm inj hl R g1 q) P,O,N,L,λC SU g=>?_⟩;obtain⟨Fi',h⟩:=E C _ g;obtain⟨s1,s2,s3,s4,s5⟩:=nB B d nd q o h;refine⟨_,h.kept,s5,h.KC,?_,s3,s4⟩;rw[rT ns U i A z g1];exact .ins s1 hl hb s2
  |_=>cases e
 |un =>
  refine L2.ah λP_ Q=>?_;obtain⟨m,x,z,rfl,e1,rfl⟩:=Ij e;obtain⟨a,rfl,hm,rx⟩:=o7 r;obtain⟨w,x0,S,D,P,O,N,L,E⟩:=ih inj rx nd e1;refine Q ?_;refine⟨w,x0,S,D,.un P,O,N,L,λC SU g=>?_⟩;obtain⟨F',g'⟩:=E C _ g;exact⟨F',g'.kept,g'.keep,g'.KC,.mk hm g'.rp,g'.nd,g'.sub⟩
 | «at» k =>
  cases t with
  |lst l =>
   cases k with
   |int i =>
    refine L2.ah λP_ Q=>?_;obtain⟨j,R,e⟩:=Zz.mp e;obtain⟨x0,h2,e⟩:=Zz.mp e;obtain⟨⟨z,y'⟩,e1,e2⟩:=Zy.mp e;cases e2;obtain⟨a,vs,Fs,rfl,rfl,B,d⟩:=r.lst_inv;obtain⟨u,Fi,q,o,u3⟩:=d.get j h2;obtain⟨w,x,S,D,P,O,N,L,E⟩:=ih inj u3 (((Zd.mp nd).2).sublist (bM o)) e1;refine Q ?_;refine⟨w,x,S,D,.ix B (by rw[d.len.1];exact R) q P,O,N,L,λC SU g=>?_⟩;obtain⟨Fi',h⟩:=E C _ g;obtain⟨s1,s2,s3,s4,s5⟩:=nB B d nd q o h;exact⟨_,h.kept,s5,h.KC,.lst s1 s2,s3,s4⟩
   |_=>cases e
  |dct kd l =>
   cases kd with
   |zero =>
    have hk:iI k=J/\((l.findIdx? λp=>eqT p.1 k).bind λi=>(l[i]?).bind λp=>(pm f ks p.2).map λz=>(T.dct 0 (l.set i (p.1,z.1)),z.2))=Y (X,y):=by
     cases k with
     |int i=>exact⟨rfl,e⟩
     |str s=>exact⟨rfl,e⟩
     |_=>cases e
    obtain⟨hk,e⟩:=hk;obtain⟨i,R,e⟩:=Zz.mp e;obtain⟨p,h2,e⟩:=Zz.mp e;obtain⟨⟨z,y'⟩,e1,e2⟩:=Zy.mp e;cases e2;obtain⟨a,ns,vs,U,Fs,rfl,rfl,B,hl,rfl,d⟩:=fh r;have RG:(ns.map bf).length=U.length:=by rw[Zt];exact hl.trans d.len.1
    obtain⟨A,x0,g1,g2,g3,g4⟩:=lD (λn=>eqT n k) RG R;have ep:p=(A,x0):=by
     have:((ns.map bf).zip U)[i]?=Y (A,x0):=by rw[YI];exact⟨g1,g2⟩
     simp_all
    subst ep;obtain⟨kk,Pd⟩:∃kk:Key,k=bf kk:=by
     cases k with
     |int i=>exact⟨.inl i,rfl⟩
     |str s=>exact⟨.inr (sx s),by simp[bf,sx]⟩
     |_=>cases hk
    refine L2.ah λP_ Q=>?_;subst Pd;obtain⟨u,Fi,q,o,u3⟩:=d.get i g2;obtain⟨w,x,S,D,P,O,N,L,E⟩:=ih inj u3 (((Zd.mp nd).2).sublist (bM o)) e1;refine Q ?_;refine⟨w,x,S,D,.key B ?_ P,O,N,L,λC SU g=>?_⟩
    ·exact wQ (by simpa using RG) hl R q
    ·obtain⟨Fi',h⟩:=E C _ g;obtain⟨s1,s2,s3,s4,s5⟩:=nB B d nd q o h;refine⟨_,h.kept,s5,h.KC,?_,s3,s4⟩;rw[rT _ U i A z g1];exact .dct s1 hl s2
   |succ kd=>cases e
  |_=>cases e
end
section
def Mq.same{H:Hp}(e:aG H d)(p:Mq G H b v w):Mq G d b v w:=by
 induction p with
 |nil v=>exact .nil v
 |fld h l _ a=>exact .fld (e _ _ h) l a
 |ix h l m _ a=>exact .ix (e _ _ h) l m a
 |key h l _ a=>exact .key (e _ _ h) l a
 |un _ a=>exact .un a
theorem Mq.split:∀{d:List Ky}{v:V},Mq G H (d++[k]) v w->∃u,Mq G H d v u/\Mq G H [k] u w
 |[],v,p=>⟨v,.nil v,p⟩
 |_ :: d,_,.fld h l p=>let ⟨u,a,b⟩:=Mq.split p;⟨u,.fld h l a,b⟩
 |_ :: d,_,.ix h l m p=>let ⟨u,a,b⟩:=Mq.split p;⟨u,.ix h l m a,b⟩
 |_ :: d,_,.key h l p=>let ⟨u,a,b⟩:=Mq.split p;⟨u,.key h l a,b⟩
 |_ :: d,_,.un p=>let ⟨u,a,b⟩:=Mq.split p;⟨u,.un a,b⟩
theorem fP:∀{way:List NI}{g:List Ky},keys (way++[s]) U=Y g->∃n k,keys way U=Y n/\keys [s] U=Y [k]/\g=n++[k]
 |[],g,e=>by
  cases s with
  |fld k=>cases e;exact⟨[],_,rfl,rfl,rfl⟩
  |un=>cases e;exact⟨[],_,rfl,rfl,rfl⟩
  |ix c =>
   obtain⟨x,i,f⟩:=Zz.mp (e);cases f;exact⟨[],_,rfl,by simp_all,rfl⟩
 |.fld k :: way,g,e=>by
  refine L2.ah λo l=>?_;obtain⟨j,i,f⟩:=Zy.mp (e);obtain⟨n,m,a,b,c⟩:=fP i;refine l ?_;exact⟨_,m,by show ((keys _ _).map _)=_;rw[a];rfl,b,by rw[← f,c];rfl⟩
 |.un :: way,g,e=>by
  refine L2.ah λo l=>?_;obtain⟨j,i,f⟩:=Zy.mp (e);obtain⟨n,m,a,b,c⟩:=fP i;refine l ?_;exact⟨_,m,by show ((keys _ _).map _)=_;rw[a];rfl,b,by rw[← f,c];rfl⟩
 |.ix c :: way,g,e=>by
  refine L2.ah λo l=>?_;obtain⟨x,h0,h⟩:=Zz.mp (e);obtain⟨j,i,f⟩:=Zy.mp h;obtain⟨n,m,a,b,d⟩:=fP i;refine l ?_;exact⟨_,m,by show ((_:Option _).bind _)=_;rw[h0];rw[a];rfl,b,by rw[← f,d];rfl⟩
def U8(G:Gx)(i:Nat)(a:List NI):TE:=λO H Q=>∃D U t b v w,SR G D U O H/\U[i]?=Y (Y (.ow t))/\O[i]?=Y (Y v)/\keys a U=Y b/\Mq G H b v w/\∀d,aG H d->Q w d
def N4(G:Gx)(X:Cx)(e:Expr)(i:Nat)(a:List NI):Prop:=PE X e (U8 G i a)
def PE.N6(h:PE X e t)(w:∀O H Q,U8 G i a O H Q->t O H Q):N4 G X e i a:=λb s O H Q I q=>h _ s O H Q I (w O H Q q)
def bW{X:Cx}(i:Nat)(g:{`q8,X.N[i]?=Y x})(a:Ni X.env.scope x:=by exact .inl L)(f:{`q8,K3 x})(n:{`q8,K4 x}):N4 G X (.Name x pos) i [] :=
 PE.N6 (dS g a f n) λO H Q d=>by
  obtain⟨D,U,t,o,v,w,s,p,m,l,j,h⟩:=d;cases (l);cases j;exact⟨v,m,h H (aG.refl _)⟩
def Jd(h:N4 G X e i way):N4 G X e i (way++[.un]) :=
 PE.N6 h λO H Q g=>by
  refine L2.ah λy f=>?_;obtain⟨D,U,t,p,v,w,s,o,n,m,l,j⟩:=g;obtain⟨x,r,a,b,rfl⟩:=fP m;cases (b);obtain⟨u,p1,d⟩:=l.split;refine f ?_;cases d with
  |un q =>
   cases q;exact⟨D,U,t,_,v,w,s,o,n,a,p1,j⟩
structure MD(G:Gx)(K:Xd)(k:Nat)(f:Str):Prop where
 nm:∀c,(G.ct (c+1)).2 k=f
 cl:∀c,MG K (G.ct (c+1)).1
 no:∀c,cW K (G.ct (c+1)).1 f
def ka{X:Cx}(k:Nat)(F:MD G X.K k f)(h:N4 G X e i way)(m:{`q8,XAA e f X.env (eval e X.env)=eval e X.env}):N4 G X (.Attribute e f pos) i (way++[.fld k]) :=
 PE.N6 (BU h m) λO H Q l=>by
  refine L2.ah λN j=>?_;obtain⟨D,U,t,C,v,w,s,y,x,r,p,o⟩:=l;obtain⟨L,E,a,b,rfl⟩:=fP r;cases (b);obtain⟨u,p1,g⟩:=p.split;refine j ?_;refine⟨D,U,t,_,v,u,s,y,x,a,p1,λA d=>?_⟩;cases g with
  |@fld c _ a z fs B _ _ n hl q =>
   cases q;rw[F.nm c]at hl;exact⟨a,_,z,fs,w,rfl,d a _ n,F.cl c,F.no c,hl,o A d⟩
def EX{X:Cx}(R:D6 C X.A)(h:N4 G X e i way)(hb:PV G X b c)(P:fi b)(hK:X.K=G.K):N4 G X (.Subscript e b pos) i (way++[.ix c]) :=
 PE.N6 (lQ (Ms.or i9 (rG (jN R))) h hb P) λO H Q S=>by
  refine L2.ah λP_ E=>?_;obtain⟨D,U,t,ks,v,w,s,h1,h2,h3,h4,h5⟩:=S;obtain⟨Ra,k',a,b',rfl⟩:=fP h3;obtain⟨⟨B,x⟩,ec,e2⟩:=Zz.mp (b');cases e2;obtain⟨u,p1,r⟩:=h4.split;refine E ?_;refine⟨D,U,t,_,v,u,s,h1,h2,a,p1,λH1 d=>⟨D,U,B,x,s.same d,ec,λy H2 F2 m r2 f2=>?_⟩⟩;have q:=h5 H2 (d.trans m);cases ((r.same d).same m) with
  |@ix a o F j p _ _ g hl N f =>
   cases f;refine .inl (.inl ⟨a,o,F,w,rfl,r2.int_inv,KA.of g,iF hl N,q⟩)
  |@key a jj l p _ _ g hl f =>
   cases f;refine .inr ⟨a,w,rfl,?_,q⟩;have L:y=kV l:=by
    cases l with
    |inl n=>exact r2.int_inv
    |inr z =>
     have:=r2.str_inv.1;rw[this];simp[kV,sx]
   rw[L,← hl];exact g9.k g
@[simp] def nV(i:Nat)(a:List NI)(f:T->W5->Option (T×Val))(h:KJ)(U:VS.Env):Option (Val×VS.Env):=match U[i]? with
 |some (some (.ow t))=>(keys a U).bind λg=>(h U).bind λd=>(pm (λx=>f x d) g t).map λz=>(z.2,U.set i (Y (.ow z.1)))
 |_=>M
noncomputable def mM(G:Gx):Prop:=∀c k a:Nat,(G.ct c).2 k=(G.ct c).2 a->k=a
def Bl{pos apos:Pos}(J:mM G)(pa:PlainAttrs p)(d:Slot p a m)(RO:typeOf (.builtin m)=pure (.type "method_descriptor"))(hm:SS X m r)(ok:Bz G r f)(hT:∀H v t F l z,Rp G H v t F->f t l=Y z->QL G.K p v H)(ho:N4 G X o i way)(ha:Lj G X (e :: es) cs)(hK:X.K=G.K)(Kz:XAA o a X.env (eval o X.env)=eval o X.env)(KU:((backTo cp (P3 (e :: es) X.env)).all (λx=>!x.1)&&(backToKw cp (SL [] X.env)).all (λx=>x.1.isSome)
   && decide ((e :: es).length+([]:List Keyword).length+(if ([]:List Keyword).isEmpty then 0 else 1)<30))=true)(Kt:(apos.endLine==cp.line)=true)(hs:K1 e es X)(Kp:K2 cp es X)(Lw:swapsWith (.Call (.Attribute o a apos) (e :: es) [] cp) M pos.line X.env=pure Z) :
  PSV G X (.Expr (.Call (.Attribute o a apos) (e :: es) [] cp) pos) (sX (nV i way f cs)) :=
 PS.weak (gD (o9 pa d RO hm ho ha Kz KU Kt hs Kp) Lw) λDb O H hq=>by
  obtain⟨D,U,out,s,e,k⟩:=hq;refine L2.ah λP_ k_=>?_;unfold sX nV at e;obtain⟨⟨x',U'⟩,e1,e2⟩:=Zy.mp e;split at e1
  ·rename_i t h;obtain⟨C,ek,e3⟩:=Zz.mp e1;obtain⟨l,el,e4⟩:=Zz.mp e3;obtain⟨⟨t',x2⟩,e5,e6⟩:=Zy.mp e4;cases e6;cases e2;obtain⟨v,E,h2⟩:=s.rp _ _ h;obtain⟨w,x,F1,Q,w1,A,S,y,R⟩:=o8 C J h2 (s.nd i t h) e5;refine k_ ?_;refine⟨D,U,t,C,v,w,s,h,E,ek,w1,λH0 j=>⟨by rw[hK];exact hT H0 w x _ l _ (A.same j) y,D,U,l,s.same j,el,λvs H' Fs q1 q2 B=>?_⟩⟩;refine ok D U H H' w x Q F1 l vs Fs x2 _ A S ⟨j.trans q1,q2,⟨λn v' q a1 a2=>(B.each n v' q a1 a2).back j,B.nd⟩⟩ y λu L q g=>?_;obtain⟨F2,g2⟩:=R L q g;obtain⟨P,N⟩:=s.mut h E g2;exact k _ O L P N
  ·cases e1
end
section
def uJ(k v:Val):T->Option (T×Unit)
 |.lst l=>match k.2 with
  |.int n=>(fit v).bind λt=>(Lg l.length n).map λj=>(.lst (l.set j t),())
  |_=>M
 |.dct 0 l=>if iI k.2/\Ko v.2/\l.length<fB then Y (.dct 0 (dput l k.2 v.2),()) else M
 |_=>M
def iS(i:Nat)(a:List NI)(k e:Ex)(U:VS.Env):Option Out:=(e U).bind λv=>match U[i]? with
 |some (some (.ow t))=>(keys a U).bind λf=>(k U).bind λd=>(pm (uJ d v) f t).map λz=>.nx (U.set i (Y (.ow z.1)))
 |_=>M
theorem RpL.putAt:∀{d:List V}{f:W7}{g:Ye}(j:Nat){u:V}{x:T}{F:X6},RpL G H d f g->Rp G H u x F->RpL G H (d.set j u) (f.set j x) (g.set j F)
 |_,_,_,_,_,_,_,.nil,_=>.nil
 |_,_,_,0,_,_,_,.cons r q,a=>.cons a q
 |_,_,_,j+1,_,_,_,.cons r q,a=>.cons r (RpL.putAt j q a)
theorem xG(u:Rp G H n t []):∀{a:List Key}{f:List V}{s:W7}{y:Ye},a.length=f.length->RpL G H f s y →
  ∃g l m,(a.zip f).map (λh=>if h.1=d then (h.1,n) else h)=a.zip g/\a.length=g.length/\((a.map bf).zip s).map (λp=>if eqT p.1 (bf d) then (p.1,t) else p)=(a.map bf).zip l/\RpL G H g l m/\m.flatten.Sublist y.flatten
 |[],[],_,_,_,.nil=>⟨[],[],[],rfl,rfl,rfl,.nil,WR _⟩
 |k :: a,v :: f,_,_,hl,.cons (t:=D) (F:=F) r q=>by
  refine L2.ah λL A=>?_;obtain⟨g,l,m,C,x,B,w,E⟩:=xG u (by simpa using hl) q;refine A ?_;by_cases j:k=d
  ·refine⟨_,_,_,?_,by simp[x],?_,.cons u w,?_⟩
   ·rw[ZP,Zg,C,ZP];simp[j]
   ·rw[Zg,ZP,Zg,B,ZP];simp[((lM d k).mpr j)]
   grind
  ·have e:¬eqT _ _=J:=λz=>j ((lM d k).mp z);refine⟨_,_,_,?_,by simp[x],?_,.cons r w,?_⟩
   ·simp_all
   ·simp_all
   grind
theorem uj{kk:Key}:∀{a:List Key}{d:List V}{f:W7},a.length=d.length->a.length=f.length->((a.zip d).any λg=>decide (g.1=kk))=(((a.map bf).zip f).any λp=>eqT p.1 (bf kk))
 |[],_,_,_,_=>by simp
 |k :: a,v :: d,t :: f,l,j=>by
  rw[Zg,ZP,ZP,XQ,XQ,uj (by simpa using l) (by simpa using j)];have:decide (k=kk)=eqT (bf k) (bf kk):=by rw[Xf,decide_eq_true_eq];exact(lM kk k).symm
  rw[this]
 |_ :: _,[],_,h,_=>by simp at h
 |_ :: _,_ :: _,[],_,h=>by simp at h
def rK(s:Rp G H r t []){a:List Key}{j:List V}(d:a.length=j.length)(f:RpL G H j l u) :
  ∃(m:List Key)(g:List V)(n:W7)(q:Ye),putK (a.zip j) kk r=m.zip g/\m.length=g.length/\dput ((a.map bf).zip l) (bf kk) t=(m.map bf).zip n/\RpL G H g n q/\q.flatten.Sublist u.flatten:=by
 unfold putK dput;rw[(uj (kk:=kk) d (d.trans f.len.1))];by_cases h:(((a.map bf).zip l).any λp=>eqT p.1 (bf kk))=J
 ·rw[Zm h,Zm h];refine L2.ah λB v=>?_;obtain⟨g,n,q,A,z,y,x,w⟩:=xG s d f;refine v ?_;exact⟨a,_,_,_,A,z,y,x,w⟩
 ·rw[Zl h,Zl h];refine⟨a++[kk],_,_,_,?_,by simp[d],?_,f.append (.cons s .nil),by simp⟩
  ·rw[List.zip_append d];rfl
  ·rw[Yq,List.zip_append (by rw[Zt];exact d.trans f.len.1)];rfl
def Er:Cg:=λo i v H Q=>Et o i v H Q\/∃a d,o=.ref a/\uS H a i v d/\Q d
def zS{X:Cx}(n:X.A.units+1<cLine):FT X Er:=by
 intro l s O H o i v m iv u Q I f j d h;rcases h with h | ⟨a,r,rfl,g,q⟩
 ·exact set_list _ s O H o i v m iv u Q I f j d h
 ·cases f;exact ye n I g j d λt p=>⟨r,p,q⟩
def ly{X:Cx}{pos:Pos}(J:mM G)(hr:D6 kr X.A)(ho:N4 G X o i way)(hk:PV G X b ck)(he:PV G X e ce)(ha:∀v,assign (.Subscript o b pos') X.env v=(do
   let P ← holding [v] (eval o X.env)
   let iv ← holding [v,P] (eval b X.env)
   standAt pos'
   holding [v,P,iv] (setItem P iv v)
   release [v,P,iv] []):=by exact λ_=>rfl)(hs:{`q8,swapsWithSole [.Subscript o b pos'] e pos.line X.env=pure Z})(hw:{`q8,swappedStores [.Subscript o b pos'] e X.env=pure M})(B:{`q8,(assignEach [.Subscript o b pos'] X.env).map (·.2)=[assign (.Subscript o b pos') X.env]}):PSV G X (.Assign [.Subscript o b pos'] e pos) (iS i way ck ce) :=
 PS.weak (uY he (uV ho hk (zS (jN hr)) ha) hs hw B) λDb O H hq=>by
  obtain⟨D,U,out,s,e,k⟩:=hq;refine L2.ah λP_ Q=>?_;obtain⟨⟨mv,L⟩,ev,e⟩:=Zz.mp e;split at e
  ·rename_i t R;obtain⟨ks,ek,e⟩:=Zz.mp e;obtain⟨⟨mk,y⟩,Pd,e⟩:=Zz.mp e;obtain⟨⟨t',y'⟩,e5,e6⟩:=Zy.mp e;cases e6;obtain⟨v,g1,g2⟩:=s.rp _ _ R;obtain⟨w,x,F1,x3,w1,w2,w3,u,w5⟩:=o8 ks J g2 (s.nd i t R) e5;refine Q ?_;refine⟨D,U,mv,L,s,ev,λxv H1 Fv Ls rv S=>?_⟩;refine⟨D,U,t,ks,v,w,s.same Ls,R,g1,ek,w1.same Ls,λH2 Lk=>⟨D,U,mk,y,(s.same Ls).same Lk,Pd,λkv H3 Fk Mo rk fk=>?_⟩⟩;have f:=(Ls.trans Lk).trans Mo;have Pm:=(rv.same Lk).same Mo;have fin:∀F q,Chg G H w F1 x3 F q->Db.nx O F:=λF q g=>by
    obtain⟨F2,SH⟩:=w5 F q g;obtain⟨z1,z2⟩:=s.mut R g1 SH;exact k _ O F z1 z2
   refine L2.ah λP_ Q=>?_;cases x with
   |lst l =>
    cases y with
    |int n =>
     obtain⟨tt,et,e7⟩:=Zz.mp (u);obtain⟨j,ej,e8⟩:=Zy.mp e7;cases e8;cases (nK et);obtain⟨a,vs,Fs,rfl,rfl,E,m⟩:=w2.lst_inv;have C:=f a _ E;have nd:=Zd.mp w3;have na:a∉Fv:=λz=>by rw[S.2 a z]at E;cases E
     have p:Kv (H3 a):=by rw[C];exact True.intro
     have off:=λd hb hv=>Kv.pe (m.KC d hb) (S.2 d hv);refine Q ?_;refine .inl ⟨a,vs,n,j,rfl,rk.int_inv,C,by rw[← uM,m.len.1];exact ej,fin _ (a :: (Fs.set j Fv).flatten) ?_⟩;refine Chg.upd f Zv p (.lst aA ((((m.same f).off p nd.1)).putAt j ((λr hn=>r.keep (Kept.upd (.inl p)) λd hb o' Oc=>by rw[ay (λz=>hn (by rw[← z];exact hb))];exact Oc) Pm na))) ?_ ?_
     ·rw[Zd];refine⟨λh=>?_,eI nd.2 S.1 λi' q _ hi d hb=>off d (cQ hi hb)⟩;rcases cA h with z | ⟨i',q,_,B,h2⟩
      ·exact na z
      ·exact nd.1 (cQ B h2)
     ·intro d hb;rcases Zj.mp hb with rfl | hb
      ·exact .inl Zv
      ·rcases cA hb with z | ⟨i',q,_,B,h2⟩
       ·exact .inr (S.2 d z)
       ·exact .inl (Zw _ (cQ B h2))
    |_=>cases u
   |dct kd l =>
    cases kd with
    |zero =>
     have hc:(iI y=true/\Ko L=true/\l.length<fB)/\x3=.dct 0 (dput l y L):=by
      have w4':(if iI y/\Ko L/\l.length<fB then Y (T.dct 0 _,()) else M)=Y _:=u
      simp_all
     obtain⟨⟨c1,c2,c3⟩,rfl⟩:=hc;have eF:=Pm.Ko c2;subst eF;obtain⟨a,ns,vs,ts,Fs,rfl,rfl,E,hl,rfl,m⟩:=fh w2;obtain⟨kk,rfl,Pc⟩:=dE rk c1;subst Pc;have C:=f a _ E;have p:Kv (H3 a):=by rw[C];exact True.intro
     have nd:=Zd.mp w3;obtain⟨RI,M0,Mg,MI,q1,q2,q3,q4,N⟩:=rK Pm hl (m.same f);refine Q ?_;refine .inr ⟨a,_,rfl,uS.k C (by
      have:((ns.map bf).zip ts).length<16777216:=c3;rw[YS,Zt]at this;rw[YS];have:=m.len.1;have:(KM:Nat)=16777216:=rfl;lia),fin _ (a :: MI.flatten) ?_⟩
     rw[q1,q3];refine Chg.upd f Zv p (.dct aA q2 (q4.off p λz=>nd.1 (N.subset z))) ?_ ?_
     ·exact Zd.mpr ⟨λz=>nd.1 (N.subset z),nd.2.sublist N⟩
     ·intro d hb;rcases Zj.mp hb with rfl | hb
      ·exact .inl Zv
      ·exact .inl (Zw _ (N.subset hb))
    |succ n=>cases u
   |_=>cases u
  ·cases e
end
noncomputable def gx0(K:Xd):Gx:=⟨K,λ_=>(0,λk=>⟨#[k]⟩),λ_=>M,λ_=>0⟩
end VS
end
section
namespace L2
open PySem PySem.Spec PyProof.Rows
section
def vc{X:Cx}(p:X.calm=J):cF X (.type "list") (λe H Q=>∃x:Str,e=[.str x]/\x.cps.size<=KM/\∀l,H l=M->Q (.ref l) (upd H l (.lst (x.cps.toList.map λc=>V.str ⟨#[c]⟩)))):=by
 intro f s O H e y Q I rx h;obtain⟨x,rfl,o,q⟩:=h;obtain⟨u,rfl,t,rfl⟩:=vals1 rx;refine call_list_str (I.ok.hd p) x t (λr z acc c kp g m=>?_) o;refine⟨.ref _,_,I.laid kp (Zn _) (show cR _ _ _ r _ (.lst _) from⟨by simp_all,_,c,(by
  have key:∀(b:List _)(a:List _),b.length=a.length->(∀(i:Nat)(v:PP),a[i]?=Y v->∃c u,b[i]?=Y c/\v=.str ⟨#[c]⟩ u)->aN (b.map λc=>V.str ⟨#[c]⟩) a:=by
   intro b
   induction b with
   |nil =>
    intro a hl _;cases a with
    |nil=>exact .nil
    |cons v a=>simp at hl
   |cons c b n =>
    intro a hl hg;cases a with
    |nil=>simp at hl
    |cons v a =>
     obtain⟨d,u,e1,e2⟩:=hg 0 v L;cases e1;exact .cons ⟨u,e2⟩ (n a (by simpa using hl) λi w hw=>by simpa using hg (i+1) w (by simpa using hw))
  refine key _ _ (by rw[Z6,Z6,m.1]) λi v j=>?_;rw[YX]at j;obtain⟨d,u,e1,e2⟩:=m.2 i v j
  simp_all),g⟩),rfl,q _ (I.D8.fresh (Zn _))⟩
noncomputable def kK:Int->W0->Int
 |i,[]=>i
 |i,j :: r=>kK (if j > i then j else i) r
theorem rg:∀(l:W0)(i:Int),(i<=kK i l/\∀j∈l,j<=kK i l)/\(kK i l=i\/kK i l∈l)
 |[],i=>⟨⟨Int.le_refl _,λj h=>by simp at h⟩,.inl L⟩
 |a :: l,i=>by
  obtain⟨⟨d,m⟩,g⟩:=rg l (if a > i then a else i);unfold kK;have b:i<=(if a > i then a else i)/\a<=(if a > i then a else i):=by split<;>lia
  refine⟨⟨Int.le_trans b.1 d,λj f=>?_⟩,?_⟩
  ·rcases Zj.mp f with e | e
   ·subst e;exact Int.le_trans b.2 d
   ·exact m j e
  ·rcases g with e | e
   ·split at e
    ·rename_i h;rw[Zm h,e];exact .inr Zv
    ·rename_i h;rw[Zl h,e];exact .inl L
   ·exact .inr (Zw _ e)
def DH{i:Int}{M:Int}(f:M∈i :: l)(d:∀j∈i :: l,j<=M):M=kK i l:=by
 obtain⟨⟨a,b⟩,c⟩:=rg l i;have u:kK i l<=M:=by
  rcases c with e | e
  ·rw[e];exact d i Zv
  ·exact d _ (Zw _ e)
 have v:M<=kK i l:=by
  rcases Zj.mp f with e | e
  ·rw[e];exact a
  ·exact b M e
 lia
def zb{X:Cx}(E:X.calm=J):cF X (.builtin "max") (λr H Q=>∃p,∃(n:Int)(ns:W0),r=[.ref p]/\KA X.K H p ((n :: ns).map V.int)/\Q (.int (kK n ns)) H):=by
 intro w s O H r G Q I rx h;refine L2.ah λU y=>?_;obtain⟨p,n,ns,rfl,B,q⟩:=h;obtain⟨u,rfl,g⟩:=rx.one;cases g;obtain⟨a,f,l,P⟩:=I.list B;refine y ?_;have hl:p<s.heap.objs.size:=by obtain⟨_,e,_⟩:=l.isList;exact Zf e
 have hlen:a.toArray.size=ns.length+1:=by have:=f.length;simp at this ⊢;exact Eq.symm this
 have val:∀(i:Nat)(v:PP),a.toArray[i]?=Y v->∃t,v=.int (((n :: ns)[i]?).getD 0) t:=λi v o=>by
  have d:a[i]?=Y v:=by simpa using o
  cases e:(n :: ns)[i]? with
  |none =>
   have:=f.none_of (i:=i) (by rw[ZY,e];rfl);rw[this]at d;cases d
  |some m =>
   obtain⟨u,z,g⟩:=f.get (i:=i) (by rw[ZY,e];rfl);rw[z]at d;cases d;obtain⟨t,rfl⟩:=g;exact⟨t,by simp⟩
 refine call_max_walk (XO l.isList ⟨s.heap.objs.size,[s.heap.objs.size,p],[s.heap.objs.size],a.toArray.size,_,_,λi j=>decide (((n :: ns)[i]?).getD 0 > ((n :: ns)[j]?).getD 0),rfl,Wr (A:=X.A.in1) (I.ok.hd E) _ p (Zi hl) a.toArray,
  ⟨⟨_,Zh _ L,rfl,rfl⟩,l.isList.push _⟩,λb hb=>?_,by lia,CmpOf.ints_gt (λi=>((n :: ns)[i]?).getD 0) val,λv R N o C=>?_⟩)
 ·rw[YR];rcases Zj.mp hb with rfl | hb
  ·exact Yp _
  ·rw[Zb.mp hb];exact Z2 hl
 ·obtain⟨t,rfl⟩:=val _ _ o;obtain⟨S,F⟩:=argBest_gt (λi=>((n :: ns)[i]?).getD 0) (a.toArray.size-1);refine⟨.int (kK n ns),H,I.kept (xV C),⟨t,?_⟩,q⟩;congr 1;refine DH ?_ λj D=>?_
  ·have hb:argBest (λi j=>decide (((n :: ns)[i]?).getD 0 > ((n :: ns)[j]?).getD 0)) (a.toArray.size-1)<(n :: ns).length:=by simp only[Ze];omega
   rw[Zr hb];exact Yv hb
  ·obtain⟨i,x,e⟩:=List.getElem_of_mem D;have:=F i (by simp at x;lia);rw[Zr x,Xu,e]at this;exact this
end
end L2
namespace VS
open PySem PySem.Spec PyProof.Rows L2
section
def hZ:W5->W6
 |[(m,.lst l)]=>N9 m l
 |[(m,.tup l)]=>N9 m l
 |[(_,.str s)]=>N9 .fr (s.map λc=>.str [c])
 |_=>M
def A3:eD G (λd H Q=>EG G.K d H Q\/∃x:Str,d=[.str x]/\x.cps.size<=KM/\∀l,H l=M->Q (.ref l) (upd H l (.lst (x.cps.toList.map λc=>V.str ⟨#[c]⟩)))) hZ:=by
 intro D U h H l f i m t Q A e k;unfold hZ at e;split at e
 ·exact .inl (wX D U h H _ f i m t Q A e k)
 ·exact .inl (wX D U h H _ f i m t Q A e k)
 ·rename_i w x;obtain⟨v,F,rfl,rfl,rx⟩:=(A.rp).one;have g:=rx.str_inv.2;refine .inr ⟨_,by rw[rx.str_inv.1],?_,λq o=>?_⟩
  ·have:=g.1;exact this
  ·have ec:(sx x).cps.toList.map (λc=>V.str ⟨#[c]⟩)=(x.map λc=>[c]).map λs=>V.str (sx s):=by
    simp[sx]
   have u:(x.map λc=>T.str [c])=(x.map λc=>[c]).map T.str:=by simp
   rw[ec];rw[u]at e;refine lF A.same e (vE (G:=G) (H:=H) (ss:=x.map _) λs n=>by
    obtain⟨c,r,rfl⟩:=ZQ.mp n;exact⟨by show 1<=fB;decide,λy j=>by rw[Zb.mp j];exact g.2 c r⟩) ?_ k q o
   rw[n8];exact Fp.nil
 ·cases e
def qV{X:Cx}(d:X.mg "list" = M)(h:Lj G X [e] cs)(f:{`q2,Gl X "list"})(i:{`q2,X.K=G.K})(g:{`q2,X.calm=J})(he:{`q2,K1 e [] X}):PV G X (.Call (.Name "list" p) [e] [] pos) (eN hZ cs) :=
 hJ (rJ.or (vc g)) (i ▸ A3) f d Cy h (he:=he)
def tN:W5->W6
 |[(_,.lst l)]=>(jO l).bind fun
  |[]=>M
  |i :: r=>Y (.fr,.int (kK i r))
 |_=>M
def DD:eD G (λd H Q=>∃p,∃(n:Int)(ns:W0),d=[.ref p]/\KA G.K H p ((n :: ns).map V.int)/\Q (.int (kK n ns)) H) tN:=by
 intro D U r H l j s m t Q A e k;unfold tN at e;split at e
 ·rename_i o x;obtain⟨ns,e1,e2⟩:=Zz.mp e
  match ns,e1,e2 with
  |n :: ns,e1,e2 =>
   refine L2.ah λq g=>?_;cases e2;obtain⟨v,F,rfl,rfl,rx⟩:=(A.rp).one;obtain⟨a,i,Gs,rfl,rfl,h,f⟩:=rx.lst_inv;have:=nF f e1;subst this;refine g ?_;exact⟨a,n,ns,rfl,KA.of h,bj k (.int _)⟩
 ·cases e
def GL{X:Cx}(d:X.mg "max" = M)(h:Lj G X [e] cs)(g:{`q2,X.calm=J})(f:{`q2,Gl X "max"})(i:{`q2,X.K=G.K})(he:{`q2,K1 e [] X}):PV G X (.Call (.Name "max" p) [e] [] pos) (eN tN cs) :=
 iU (zb g) (i ▸ DD) f d zO h (he:=he)
end
end VS
end
section
open PySem PyProof.Rows
namespace TS
noncomputable abbrev Ky:=Sum Int Str
noncomputable def ltK:Ky->Ky->Bool
 |.inl i,.inl j=>decide (i<j)
 |.inr x,.inr y=>decide (x.cps.toList<y.cps.toList)
 |_,_=>Z
noncomputable def kind(k:Ky):Bool:=k.isLeft
variable{A:SC}
noncomputable def KyV:Ky->PP->Prop
 |.inl i,v=>∃t,v=.int i t
 |.inr x,v=>∃t,v=.str x t
end TS
end
section
namespace ST
open PySem PySem.Spec PyProof.Rows
variable{A:SC}
noncomputable abbrev dO(a:Array DictEntry)(b:Nat):Obj:={ cls:=.type "dict",data:=.dict a b }
noncomputable abbrev kO(d:On)(i n a:Nat):Obj:={ cls:=.type "dict_keyiterator",data:=.fields #[.ref d,.int i 0,.int n 0,.int a 0] }
def Bq{s:KB}(f:(d==sysModules)=Z)(a:s.heap.get? d=Y (dO b e))(q:Q (.ref s.heap.objs.size) { s with heap:=s.heap.push (kO d 0 b.size e) }) :
  Pi (KF prog w) A (pyIter (.ref d)) Q E s:=by
 have ty:s.TypeIs (.ref d) _:=⟨_,a,rfl⟩
 refine Wy ty F.slot_dict_iter (YJ F.slot_dict_iter ty F.entry_dict_iter (?_) (F.args_dict_iter_1 _));unfold Builtin.«dict.__iter__» Builtin.Dict.dictSlotNone Builtin.Dict.showsAll;refine Zx (Zx (wpAny_notOrdered_dict ty (Zs (Zx (Zs ?_)))));rw[Zl (by simp_all)];exact Zx (Zs (Zx (wpAny_dictEntries a L (Zx (wpAny_dictEpoch a L (Zx (YZ (Zs ⟨_,rfl,_,_,⟨_,Zh _ L,rfl⟩,Xv.lookup,q⟩))))))))
def sY{s:KB}{j:Array DictEntry}(t:A.handled=M)(l:s.heap.get? I=Y (kO d i j.size m))(n:s.heap.get? d=Y (dO j m))(y:∀e,j[i]?=Y e->∀a,Heap.SameBut I s.heap a->a.get? I=Y (kO d (i+1) j.size m)->Q (Y e.key) { s with heap:=a })(u:j[i]?=M->∀a,(∀b o,b≠I->s.heap.get? b=Y o->a.get? b=Y o)->Q M { s with heap:=a }):Pi (KF prog w) A (pyNext (.ref I)) Q E s:=by
 have ty:s.TypeIs (.ref I) _:=⟨_,l,rfl⟩
 refine Zx (wpAny_attempt (wpAny_callSpecial?_slot ty Xv (YJ Xv ty F.entry_dict_keyiterator_next (Z4
  (Q:=λf h=>∃v,f=.done (.ret v)/\Q _ h) (E:=λe h=>∃x,e=.ref x/\(∃o,h.heap.get? x=Y o/\o.cls=.type "StopIteration")/\Q M h) ?_ (λf h ⟨v,e,q⟩=>⟨v,e,Zs q⟩) λe h ⟨x,e1,⟨o,g,c⟩,q⟩=>?_) (F.args_dict_keyiterator_next_1 _))))
 ·refine Zx (Zs (Zx (Zx (Zx (XE ty (Zs (Zx (wpAny_fieldsOf l L ?_))))))));have own:Builtin.Dict_items.ownsTuple "dict_keyiterator" = Z:=rfl;refine(show Pi _ _ (if (Value.ref d==Value.none)=J then _ else _) _ _ s from ?_);rw[Zl (λe:(Value.ref d==Value.none)=true=>Za e)];refine Zx (Zs (Zx (wpAny_dictEntries n L ?_)));rw[Zl (by simp)];refine Zx (Zs (Zx (wpAny_dictEpoch n L ?_)));rw[Zl (by simp)];refine Zs ?_;simp only[show ¬((i:Int)<0) from by lia,↓reduceIte,YF];cases he:j[i]? with
  |some e =>
   have p:(s.heap.update I (Obj.mapFields (·.setIfInBounds 1 _))).get? I=Y (kO d (i+1) _ m):=ZI _ l L;refine Zx (Zx (XE ty (Zs (Zx (wpAny_isOneOf_keyiter ty ?_)))));refine(Zx (Ya l L (by show 1<4;decide) (Zx (ZC ?_))));refine Zx (wpAny_isOneOf_keyiter ⟨_,p,rfl⟩ ?_);refine(Zs (Zs ⟨_,rfl,y e he _ (Y2 ..) p⟩))
  |none =>
   refine Zx (Zx (XE ty (Zs ?_)));refine(Zx (Ya l L (by show 0<4;decide) (BL t λa x kp r=>⟨x,rfl,r,u he a λb o hb e=>kp b o ?_⟩)));rw[ZO _ _ (Z9 hb)];exact e
 ·subst e1;exact Zx (wpAny_isInstance ⟨o,g,c⟩ isSubtype_stop (Zs q))
end ST
end
section
namespace VS
open PySem PySem.Spec PyProof.Rows L2
def Ax{i:Int}:PV G X (.UnaryOp .USub (.Constant (.int i) j p) a) (Q3 (-i)) :=
 PE.weak (HJ E3 rm) λO H Q b=>by
  obtain⟨D,U,m,t,s,e,k⟩:=b;cases (e);exact⟨i,rfl,k _ H [] (aG.refl _) (.int _) Fp.nil⟩
end VS
end
section
namespace VS
open PySem PySem.Spec PyProof.Rows L2
section
def Rp.Nu(r:Rp G H v (.tup g) F):∃b d f,v=.ref b/\H b=Y (.tup d)/\RpL G H d g f:=by
 obtain⟨a,d,f,j,_,h⟩:=r.inv;exact⟨a,d,f,j,h⟩
end
end VS
end
section
namespace L2
open PySem PySem.Spec PyProof.Rows
section
def zp{o:Obj}(h:o.ExactDict)(e:o.data=.dict a b):o=ST.dO a b:=by
 obtain⟨c,d,l,j⟩:=o;obtain⟨i,g,f⟩:=h;subst i g f e;rfl
end
end L2
end
section
namespace VS
open PySem PySem.Spec PyProof.Rows L2 TS
noncomputable def lL(a b:Tx):Prop:=a.length<b.length\/a.length=b.length/\a<b
end VS
end
section
namespace VS
open PySem PySem.Spec PyProof.Rows L2
section
def jx{b:Expr}(s:PV G X a i)(o:PV G X b f)(n:PV G X c d)(l:lastMarks [.LtE,.Lt] [b,c]=Z):MQ G X (.Compare a [.LtE,.Lt] [b,c] pos) (iJ oLe oLt i f d) :=
 PT.weak (uu EZ rq s o n l) λO H Q h=>oV h (λU m r e=>by
  obtain⟨x,w,e⟩:=Zz.mp e;obtain⟨y,v,e⟩:=Zz.mp e;obtain⟨⟨t,z⟩,u,e⟩:=Zz.mp e;cases z with
  |bl q =>
   cases q with
   |false=>grind
   |true =>
    obtain⟨j,ec,e⟩:=Zz.mp (e);exact kH y j m r e
  |_=>cases e) λQ h=>su Jn xU h
def vo{pos:Pos}(h:PV G X e a)(i:swapsWith e M pos.line X.env=pure Z):PSV G X (.Expr e pos) (sX (xP a)) :=
 PS.weak (gD h i) λDb O H d=>by
  obtain⟨D,U,out,s,e,k⟩:=d;obtain⟨⟨v,l⟩,e1,e2⟩:=Zy.mp e;obtain⟨⟨m,t⟩,e3,f⟩:=Zy.mp e1;cases f;cases e2;exact⟨D,U,m,t,s,e3,λv j F e1 r1 f1=>k D O j (s.same e1) (Kq.same e1)⟩
@[simp] def sF(i:Nat)(c:Ex)(f:KJ)(U:VS.Env):Option (Val×VS.Env):=match U[i]? with
 |some (some (.ow (.lst l)))=>(c U).bind λd=>(int? d.2).bind λn=>(Lg l.length n).bind λj=>(l[j]?).bind λx=>(f U).bind λa=>(bc x a).map λz=>(z.2,U.set i (Y (.ow (.lst (l.set j z.1)))))
 |_=>M
def E2{X:Cx}{pos apos:Pos}(i:Nat)(hN:X.N[i]?=Y x)(hv:Ni X.env.scope x)(hd:K3 x)(KQ:K4 x)(hb:PV G X b cb)(q:fi b)(ha:Lj G X [e] cs)(hK:X.K=G.K)(Kz:XAA (.Subscript (.Name x p1) b p2) "append" X.env (eval (.Subscript (.Name x p1) b p2) X.env)=eval (.Subscript (.Name x p1) b p2) X.env)(KU:((backTo cp (P3 [e] X.env)).all (λx=>!x.1)&&(backToKw cp (SL [] X.env)).all (λx=>x.1.isSome)
   && decide ([e].length+([]:List Keyword).length+(if ([]:List Keyword).isEmpty then 0 else 1)<30))=J)(Kt:(apos.endLine==cp.line)=J)(hs:K1 e [] X)(Kp:(backTo cp (P3 [] X.env)).any (·.1)=Z)(Lw:swapsWith (.Call (.Attribute (.Subscript (.Name x p1) b p2) "append" apos) [e] [] cp) M pos.line X.env=pure Z) :
  PSV G X (.Expr (.Call (.Attribute (.Subscript (.Name x p1) b p2) "append" apos) [e] [] cp) pos) (sX (sF i cb cs)) :=
 PS.weak (gD (o9 YC Xi Xj gR (lQ xX (dS hN hv hd KQ) hb q) ha Kz KU Kt hs Kp) Lw) λDb O H hq=>by
  refine L2.ah λF d=>?_;obtain⟨D,U,out,s,e,k⟩:=hq;unfold sX sF at e;obtain⟨⟨y',U'⟩,e1,e2⟩:=Zy.mp e;refine d ?_;split at e1
  ·rename_i l0 o;refine L2.ah λF d=>?_;obtain⟨⟨mk,tk⟩,Pd,e3⟩:=Zz.mp e1;obtain⟨n,C,e3⟩:=Zz.mp e3;obtain⟨j,h1,e3⟩:=Zz.mp e3;obtain⟨x0,h2,e3⟩:=Zz.mp e3;obtain⟨l,el,e3⟩:=Zz.mp e3;obtain⟨⟨S,R⟩,r,e6⟩:=Zy.mp e3;cases e6;cases e2;refine d ?_;cases tk with
   |int n0 =>
    refine L2.ah λF d=>?_;cases (C);obtain⟨v,B,g2⟩:=s.rp _ _ o;have nd:=s.nd i _ o;obtain⟨a,vs,Fs,rfl,E,f,m⟩:=g2.lst_inv;obtain⟨u,Fj,z,w,t⟩:=m.get j h2;refine d ?_;rw[E]at nd;refine⟨_,B,D,U,mk,_,s,Pd,λy H1 F1 h r1 f1=>?_⟩;refine⟨a,vs,_,u,rfl,r1.int_inv,KA.of (h a _ f),iF (by rw[m.len.1];exact h1) z,by rw[hK];exact iV (t.same h) r,D,U,l,s.same h,el,λvs2 H4 Fs2 q1 q2 A=>?_⟩;refine l8 D U H H4 u x0 S Fj l _ _ R _ t (((Zd.mp nd).2).sublist (bM w)) ⟨h.trans q1,q2,⟨λn v' L a1 a2=>(A.each n v' L a1 a2).back h,A.nd⟩⟩ r λu' H5 L g=>?_;obtain⟨s1,s2,s3,s4,s5⟩:=nB f m nd z w g;obtain⟨Q,P⟩:=s.mut o B (by
     rw[E];exact⟨g.kept,s5,g.KC,.lst s1 s2,s3,s4⟩)
    exact k _ O H5 Q P
   |_=>cases C
  ·cases e1
end
section
def Ao{j pos'}(g:PV G X a ca):MQ G X (.Compare a [.Is] [.Constant .none j pos'] pos) (Gd ca) :=
 PT.weak (BG (HE g)) λO H Q h=>Eo h (λU m r e=>by
  obtain⟨x,_,e⟩:=Zz.mp e;grind) λQ f=>by
   obtain⟨D,U,m,r,s,e,q⟩:=f;obtain⟨⟨n,x⟩,i,e⟩:=Zz.mp e;cases e;refine⟨D,U,n,x,s,i,λv d F e1 r1 f1=>?_⟩;show Q _ d;rw[xW r1];exact q _ d _ e1 (.bl _) Fp.nil
def nL{j pos'}(g:PV G X a ca):MQ G X (.Compare a [.IsNot] [.Constant .none j pos'] pos) (iN ca) :=
 PT.weak (BG (C5 g)) λO H Q h=>Eo h (λU m r e=>by
  obtain⟨x,_,e⟩:=Zz.mp e;grind) λQ f=>by
   obtain⟨D,U,m,r,s,e,q⟩:=f;obtain⟨⟨n,x⟩,i,e⟩:=Zz.mp e;cases e;refine⟨D,U,n,x,s,i,λv d F e1 r1 f1=>?_⟩;show Q _ d;rw[xW r1];exact q _ d _ e1 (.bl _) Fp.nil
def nM(i:Nat)(k e:Ex)(U:VS.Env):Option Out:=(e U).bind λv=>match U[i]? with
 |some (some (.ow (.dct 0 l)))=>(k U).bind λd=>if iI d.2/\Ko v.2/\l.length<fB then Y (.nx (U.set i (Y (.ow (.dct 0 (dput l d.2 v.2)))))) else M
 |_=>M
def BS{X:Cx}{pos:Pos}(i:Nat)(hr:D6 kr X.A)(hk:PV G X b ck)(he:PV G X e ce)(hN:X.N[i]?=Y x)(hv:Ni X.env.scope x)(hd:K3 x)(KQ:K4 x)(ha:∀v,assign (.Subscript (.Name x p1) b pos') X.env v=(do
   let h ← holding [v] (eval (.Name x p1) X.env)
   let iv ← holding [v,h] (eval b X.env)
   standAt pos'
   holding [v,h,iv] (setItem h iv v)
   release [v,h,iv] []))(hs:swapsWithSole [.Subscript (.Name x p1) b pos'] e pos.line X.env=pure Z)(hw:swappedStores [.Subscript (.Name x p1) b pos'] e X.env=pure M)(h1:(assignEach [.Subscript (.Name x p1) b pos'] X.env).map (·.2)=[assign (.Subscript (.Name x p1) b pos') X.env]):PSV G X (.Assign [.Subscript (.Name x p1) b pos'] e pos) (nM i ck ce) :=
 PS.weak (uY he (uV (dS hN hv hd KQ) hk (zS (jN hr)) ha) hs hw h1) λDb O H hq=>by
  obtain⟨D,U,out,s,e,k⟩:=hq;obtain⟨⟨mv,o⟩,ev,e⟩:=Zz.mp e;split at e
  ·rename_i l m;obtain⟨⟨mk,S⟩,Pd,e⟩:=Zz.mp e;split at e
   ·rename_i hc;obtain⟨c1,c2,c3⟩:=hc;cases e;obtain⟨w,u,Q⟩:=s.rp _ _ m;have n:=s.nd i _ m;refine⟨D,U,mv,o,s,ev,λxv H1 Fv E rv fv=>⟨w,u,D,U,mk,S,s.same E,Pd,λkv F Fk C rk fk=>?_⟩⟩;have j:=E.trans C;have y:=rv.same C;have eF:=y.Ko c2;refine L2.ah λP_ k_=>?_;subst eF;obtain⟨a,ns,R,p,Fs,rfl,d,Kw,hl,rfl,q⟩:=fh Q;rw[d]at n;obtain⟨t,rfl,Pc⟩:=dE rk c1;subst Pc;have B:=j a _ Kw;have r:Kv (F a):=by rw[B];exact True.intro
    have nd:=Zd.mp n;obtain⟨RI,M0,Mg,MI,q1,q2,q3,q4,f⟩:=rK y hl (q.same j);refine k_ ?_;refine .inr ⟨a,_,rfl,uS.k B (by
     have:((ns.map _).zip p).length<16777216:=c3;rw[YS,Zt]at this;rw[YS];have:=q.len.1;have:(KM:Nat)=16777216:=rfl;lia),?_⟩
    have g:Chg G H (.ref a) (D i) (.dct 0 (dput ((ns.map bf).zip p) (bf t) o)) (upd F a (.dK (putK (ns.zip R) t xv))) (a :: MI.flatten):=by
     rw[d,q1,q3];refine Chg.upd j Zv r (.dct aA q2 (q4.off r λz=>nd.1 (f.subset z))) ?_ ?_
     ·exact Zd.mpr ⟨λz=>nd.1 (f.subset z),nd.2.sublist f⟩
     ·intro bb hb;rcases Zj.mp hb with rfl | hb
      ·exact .inl Zv
      ·exact .inl (Zw _ (f.subset hb))
    obtain⟨P,L⟩:=s.mut m u g;exact k _ O _ P L
   ·cases e
  ·cases e
end
end VS
end
section
namespace DP
open PySem PySem.Spec PyProof.Rows
variable{A:SC}
def Cs:typeLookup (.type "tuple") "keys" = pure M:=by rw[Wm,XI];kernel_rfl
def Db6{h:UF}{os}(l:h.get? a=Y { cls:=.type "tuple",dict:=M,data:=.seq i k,slots:=j })(q:A.handled=M)(p:∀f b e,Heap.NewExcOf h f e "AttributeError" → E (.ref e) ⟨f,g,d,b,os⟩):Pi (KF prog w) A (getAttrBy (.ref a) (.str "keys" u) Z) Q E ⟨h,g,d,o,os⟩:=by
 have m:∀b,(⟨h,g,d,b,os⟩:KB).TypeIs (.ref a) _:=λ_=>⟨_,l,rfl⟩
 have f1:=sub_AttributeError;have x:=Wz.lookup;have v:=Wz.bind (.ref a);have t:=am_tuple_getattr_none
 repeat (any_goals (first | assumption | exact m _ | ((with_reducible show Pi _ _ (call _ _ _) _ _ _);refine call_meets Wz (m _) am_entry_tuple_getattribute (F.args_tuple_getattribute_2 _ _) (meets_getattribute_miss_tuple a i k j _ _ Cs (by decide +kernel)) ⟨l,q,λf b e n=>?_⟩) | wp_step))
 obtain⟨s,r,he⟩:=n.there;unfold getattributeRaised
 repeat (any_goals (first | assumption | wp_step))
 exact p _ _ _ n.of
end DP
end
section
namespace DP
open PySem PySem.Spec PyProof.Rows L2
variable{A:SC}
def yH{h:UF}{os}(o:h.get? a=Y { cls:=.type "tuple",dict:=M,data:=.seq j k,slots:=m })(s:A.handled=M)(p:∀b i e,Heap.NewExcOf h b e "AttributeError" → Q M ⟨b,g,d,i,os⟩):Pi (KF prog w) A (getAttr? (.ref a) "keys") Q E ⟨h,g,d,l,os⟩:=by
 have f1:=sub_AttributeError
 repeat (any_goals (first | assumption | (with_reducible refine Db6 o (by assumption) λb i e f=>?_) | wp_step))
 obtain⟨⟨oc,r,n,t⟩,q,ge,ce,_,_⟩:=f.there;dsimp only at ce;subst ce
 repeat (any_goals (first | assumption | wp_step))
 exact p _ _ _ f
def oh:entryFor table "dict.update.loop" = Y Builtin.«dict.update.loop» := entryFor_of_tree (by kernel_rfl)
def ik:plainId "dict.update.loop" = J:=by decide +kernel
section
theorem loop{prog:SB}{w:UV}{R:Result->KB->Prop}{I:On}{fp wr:X6}{G:Array GenState->Array GenState->Prop}{n:Nat}{P:Nat->PP->Prop}{St:Nat->KB->Prop}(W:WalksS prog w A.in1 I fp wr G n P St)(d:On)(OD:d∉fp)(h0:UF)(g:Nat->Key×PP)(hP:∀i v,P i v->∃p m X u,v=.ref p/\h0.get? p=Y { cls:=.type "tuple",dict:=M,data:=.seq #[u,(g i).2] m,slots:=X }/\(bg prog w).is (g i).1 u=J/\p∉d :: wr)(a:n<=KM) :
  ∀(k i:Nat)(s:KB),n-i=k->i<=n->St i s->(∀b o,b∉d :: wr->h0.get? b=Y o->s.heap.get? b=Y o)->s.heap.DictOf (bg prog w) d (merged [] ((List.range i).map g)) →
   (∀f,Moved (d :: wr) G s f->f.heap.DictOf (bg prog w) d (merged [] ((List.range n).map g))->R (.ok (.ret .none)) f) →
   codeAny (KF prog w) A (.builtin "dict.update.loop" ⟨[.ref d,.ref I,rawInt i,.none],[]⟩) R s:=by
 have q:=λh=>OD (W.sub _ h);have x:∀b∈wr,b∈d :: wr:=λb a=>Zw _ a;intro k
 induction k with
 |zero =>
  intro i s hk hi U F H L;have L1:i=n:=by lia
  subst L1;refine Yn oh ?_;rw[Z5 ik _];refine Zx (W.done s _ _ U λf hm=>?_);refine Zx (Zs ?_);exact Zs (L f (hm.mono x) (by
   obtain⟨o,O,S,C,rest⟩:=H;exact⟨o,O,S,hm.heap d _ q C,rest⟩))
 |succ k ih =>
  intro i s hk hi U F H L;have La:i<n:=by omega
  refine Yn oh ?_;rw[Z5 ik _];refine Zx (W.item i s _ _ La U λv f N OY hm=>?_);refine L2.ah λP_ k_=>?_;obtain⟨p,m,X,u,rfl,hp,D,j⟩:=hP i v N;refine k_ ?_;have SD:=hm.heap p _ (λz=>j (x p z)) (F p _ j hp);refine Zx (ZC ?_);refine Zx (thn (Q:=λr B=>r=[u,(g i).2]/\B=f) ?pair λr B hr=>?rest)
  case pair =>
   refine Xk ?_
   repeat (any_goals (first | assumption | wp_step))
   exact⟨rfl,rfl⟩
  case rest =>
   obtain⟨rfl,rfl⟩:=hr;refine ZC ?_;refine wpAny_dictSet_pairs D (by
   obtain⟨o,O,S,C,rest⟩:=H;exact⟨o,O,S,hm.heap d _ q C,rest⟩) (λh' dd y=>?_) (by have:=merged_length_le [] ((List.range i).map g);simp at this;lia)
   have e1:((i:Int)+1)=((i+1:Nat):Int):=by lia
   rw[e1];refine Zs ⟨YT ik _,ih _ _ (by omega) La (W.frame _ B _ _ OY (YW _) λb a o e=>?_) (λb o a e=>?_) (by
    rw[List.range_succ,Yq,show merged _ _=stored _ _ _ by unfold merged;rw[List.foldl_append];rfl];exact dd) λVd l t=>?_⟩
   ·rw[y.2 b (λh:b=d=>OD (by rw[← h];exact a))];exact e
   ·rw[y.2 b (λh:b=d=>a (by rw[h];exact Zv))];exact hm.heap b _ (λz=>a (x b z)) (F b o a e)
   ·refine L _ (Moved.trans W.gtrans ((hm.mono x).then_heap (YW _) λb o a e=>?_) l) t;rw[y.2 b (λh:b=d=>a (by rw[h];exact Zv))];exact e
end
end DP
end
section
namespace DP
open PySem PySem.Spec PyProof.Rows L2
variable{A:SC}
def uc:mroOf (.type "dict")=pure [.type "dict",.type "object"]:=by rw[mroOf_type];kernel_rfl
def m7:typeLookup (.type "dict") "__new__" = pure (Y (.builtin "dict.__new__")):=by rw[Wm,XI];kernel_rfl
def uv:TypeCalled "dict" "dict.__new__" "dict.__init__" :=
 ⟨by decide +kernel,by decide +kernel,⟨_,_,uc⟩,madeBy_type uc m7 (by decide +kernel),by decide +kernel,by rw[Wc];kernel_rfl,F.slot_dict_init⟩
def m9(a:PP):checkTypeCall "dict" ⟨[a],[]⟩=pure ():=by kernel_rfl
def oW(a:PP):checkBuiltinCall "dict.__new__" ⟨[.type "dict",a],[]⟩=pure ():=by kernel_rfl
def oy:entryFor table "dict.__new__" = Y Builtin.«dict.__new__» := entryFor_of_tree (by kernel_rfl)
def iW:plainId "dict.__new__" = J:=by decide +kernel
def pB:isSubtype (.type "dict") (.type "dict")=pure J:=by rw[Wc];kernel_rfl
def pD{s:KB}(a:PP)(h:b (.ref s.heap.objs.size) { s with heap:=s.heap.push { cls:=.type "dict",data:=.dict #[] } }) :
  codeAny (KF prog w) A (.call (.builtin "dict.__new__") ⟨[.type "dict",a],[]⟩) (wants b E) s:=by
 refine codeAny_of_tree (Zx (wpAny_of_eq (oW a) (Zs ⟨YT iW _,Yn oy ?_⟩)));rw[Z5 iW];have own:=pB;cases s
 wp_walk
 exact h
def yE{s:KB}{kv:Nat->Key×PP}(G:A.handled=M)(D:s.heap.get? a=Y { cls:=.type "tuple",dict:=M,data:=.seq r C,slots:=x })(X:r.size<=KM)(hp:∀(i:Nat)(v:PP),r[i]?=Y v->∃p m y t,v=.ref p/\s.heap.get? p=Y { cls:=.type "tuple",dict:=M,data:=.seq #[t,(kv i).2] m,slots:=y }/\(bg prog w).is (kv i).1 t=J)(h:∀(l:UF)(z:Nat),l.DictOf (bg prog w) s.heap.objs.size (merged [] ((List.range r.size).map kv))->(∀b o,s.heap.get? b=Y o->l.get? b=Y o)->Q (.ref s.heap.objs.size) { s with heap:=l,toks:=z }) :
  Pi (KF prog w) A (call (.type "dict") [.ref a]) Q E s:=by
 refine callType_codes (Q₁:=λobj B=>obj=.ref _/\B={ s with heap:=s.heap.push _ }) uv (m9 _) F.entry_dict_init (pD _ ⟨rfl,rfl⟩) λobj B hq=>?_;obtain⟨rfl,rfl⟩:=hq;refine⟨(⟨_,Zh _ L,rfl⟩),F.args_dict_init_2 _ _,?_⟩;obtain⟨n,g,d,z,os⟩:=s;have O:=Zu { cls:=.type "dict",data:=.dict #[] } D;unfold Builtin.«dict.__init__» Builtin.Dict.updateCommon Builtin.Dict.updateFrom;generalize eP:pyIter=itr;generalize eG:getAttr?=ga
 repeat (any_goals (first | assumption | wp_step))
 subst eG;refine yH O (by simp[G]) λH R e ne=>?_;refine Zx (wpAny_rule ?_);subst eP;have u:=Zf (ne.keeps n.objs.size _ (Zh _ L));have f:∀{b:On}{o:Obj},n.get? b=Y o->b<n.objs.size:=λe=>Zf e;have j:∀b o,n.get? b=Y o->H.get? b=Y o:=λb o e=>ne.keeps _ _ (Zu _ e);have tup:H.IsTuple a _:=⟨_,(ne.keeps _ _ O),rfl,C,rfl⟩
 refine Zx (wpAny_pyIter_tuple tup (Zs ⟨YT ik _,?_⟩));have alt:=f D;refine loop ((Walks.tuple (by simp[G]) _ a (Zi (Xb alt u)) _).toS) n.objs.size (by simp only[Zj,YB,or_false,not_or];exact⟨Zi u,Xs alt⟩) _ kv (λi v hv=>?_) X r.size 0 _ (by lia) (Yt _) ?_ (λb o hb e=>Zu _ (j b o e)) (by
  refine L2.ah λP_ U=>?_;obtain⟨o,es,ep,ho,rest⟩:=(Heap.DictOf.new (knd:=bg _ w) _)
  refine U ?_;exact⟨o,es,ep,Zu _ (ne.keeps _ _ ho),rest⟩) λS mv dd=>?_
 ·obtain⟨p,m,y,t,rfl,N,g2⟩:=hp i v hv;have:=f N;exact⟨p,m,y,t,rfl,N,g2,by simp only[Zj,YB,or_false,not_or];exact⟨Zi this,Zi (Xb this u)⟩⟩
 ·exact⟨⟨_,Zh _ L,rfl,rfl⟩,tup.push _⟩
 ·obtain⟨l,g',d',Pk,TH⟩:=S;have e1:g'=g:=mv.gens;have e2:d'=d:=mv.drawn;have e3:=mv.os;subst e1 e2 e3;refine⟨rfl,h l _ dd λb o e=>mv.heap b o (λP=>?_) (Zu _ (j b o e))⟩;have:=f e;simp only[Zj,YB,or_false]at P;rcases P with q | q
  ·exact Zi this q
  ·exact Zi (Xb this u) q
end DP
end
section
namespace L2
open PySem PySem.Spec PyProof.Rows
section
abbrev OH:=On×Key×V
def DC(I:Inv X a O H s){q:OH}(h:H q.1=Y (.tup [kV q.2.1,q.2.2])):∃b m e d,RelV q.2.2 b/\s.heap.get? q.1=Y { cls:=.type "tuple",dict:=M,data:=.seq #[d,b] m,slots:=e }/\(bg X.prog X.w).is q.2.1 d=J:=by
 refine L2.ah λr j=>?_;obtain⟨_,u,f,nd,⟨oc,p,i,t⟩,g,o,n,l⟩:=(I.D8 _ _ h)
 have hd:=nd _ g;subst o l hd;obtain⟨d,b,rfl,r1,r2⟩:=vals2 f;refine j ?_;exact⟨b,n,_,d,r2,g,mZ r1⟩
theorem sS(I:Inv X a O H s):∀(ps:List OH),(∀q∈ps,H q.1=Y (.tup [kV q.2.1,q.2.2])) →
  ∃f:List (Key×PP),Paired (λ(q:OH) (d:Key×PP)=>q.2.1=d.1/\RelV q.2.2 d.2/\∃m e b,s.heap.get? q.1=Y { cls:=.type "tuple",dict:=M,data:=.seq #[b,d.2] m,slots:=e }/\(bg X.prog X.w).is d.1 b=J) ps f
 |[],_=>⟨[],.nil⟩
 |q :: ps,h=>by
  refine L2.ah λn j=>?_;obtain⟨i,m,e,b,r,g,k⟩:=DC I (h q Zv);obtain⟨f,p⟩:=sS I ps λx l=>h x (Zw _ l);refine j ?_;exact⟨(q.2.1,i) :: f,.cons ⟨rfl,r,m,e,b,g,k⟩ p⟩
theorem pR(f:∀q d,R q d->q.2.1=d.1/\RelV q.2.2 d.2):∀{ps:List OH}{e:List (Key×PP)},Paired R ps e->∀{a:List (Key×V)}{b:List (Key×PP)},KV a b->KV (ps.foldl (λacc q=>putK acc q.2.1 q.2.2) a) (merged b e)
 |_,_,.nil,_,_,r=>r
 |_,_,.cons (a:=q) (b:=d) h t,a,b,r=>by
  obtain⟨e1,e2⟩:=f _ _ h;have:=pR f t (r.put d.1 e2);simp only[Y4,merged];rw[e1];exact this
theorem so:∀(ps:List OH)(a:List (Key×V)),(ps.foldl (λacc q=>putK acc q.2.1 q.2.2) a).length<=a.length+ps.length
 |[],a=>Zn _
 |q :: ps,a=>by
  have d:=so ps (putK a q.2.1 q.2.2);have b:=gC a q.2.1 q.2.2;simp only[Y4,Ze];lia
def Paired.at_{α β:Type}{R:α->β->Prop}:∀{l:List α}{m:List β},Paired R l m->∀(i:Nat){a:α},l[i]?=Y a->∃b,m[i]?=Y b/\R a b:=by
 intro l m p
 induction p with
 |nil=>intro i a h;cases h
 |cons r t d =>
  intro i a h;cases i with
  |zero=>simp_all
  |succ i=>exact d i h
def vG{X:Cx}(E:X.calm=J):cF X (.type "dict") (λd H Q=>∃(p:On)(ps:List OH),d=[.ref p]/\H p=Y (.tup (ps.map λq=>V.ref q.1))/\(∀q∈ps,H q.1=Y (.tup [kV q.2.1,q.2.2])) ∧
  ∀l,H l=M->Q (.ref l) (upd H l (.dK (ps.foldl (λacc q=>putK acc q.2.1 q.2.2) [])))):=by
 intro f s O H d S Q I rx h;refine L2.ah λR a=>?_;obtain⟨p,ps,rfl,D,C,q⟩:=h;obtain⟨u,rfl,z⟩:=rx.one;cases z;obtain⟨j,x,e,nd,⟨oc,od,A,Oz⟩,g,G,n,F⟩:=(I.D8 _ _ D)
 have hd:=nd _ g;subst G F hd;obtain⟨b,pr⟩:=sS I ps C;refine a ?_;have l1:x.length=ps.length:=by have:=e.length;simpa using this.symm
 have l2:=pr.length.symm;rw[Zt]at j;have P:(List.range x.toArray.size).map (λi=>(b[i]?).getD (.inl 0,.none))=b:=by
  apply Xa;grind
 refine DP.yE (kv:=λi=>(b[i]?).getD (.inl 0,.none)) (I.ok.hd E) g (by simp;lia) (λi v o=>?_) λh' U t kp=>?_
 ·rw[XU]at o;have r:i<ps.length:=by grind
  refine L2.ah λR a=>?_;obtain⟨w,e1,e2⟩:=Paired.at_ e i (by rw[ZY,Zr r];rfl);rw[o]at e1;cases e1;obtain⟨kv,e3,e4,_,m,y,B,N,L⟩:=Paired.at_ pr i (Zr r);refine a ?_;rw[e3];exact⟨_,m,y,B,e2,N,L⟩
 ·rw[P]at t;have ln:=so ps [];exact⟨.ref _,_,I.laid kp (Zn _) (rC (by simp at ln;exact ZW ln j) (beq_eq_false_iff_ne.mpr (Z9 (Zi I.big))) (pR (λ_ _ h=>⟨h.1,h.2.1⟩) pr (.nil:KV [] [])) t),rfl,q _ (I.D8.fresh (Zn _))⟩
end
end L2
end
section
namespace VS
open PySem PySem.Spec PyProof.Rows L2
def qN:W7->Option (List (T×T))
 |[]=>Y []
 |.tup [k,v] :: r=>if iI k/\Ko v then (qN r).map ((k,v) :: ·) else M
 |_=>M
def nZ:W5->W6
 |[(_,.tup l)]=>(qN l).map λps=>(.fr,.dct 0 (ps.foldl (λd q=>dput d q.1 q.2) []))
 |_=>M
section
def DA(h:qN (t :: l)=Y d):∃k v a,t=.tup [k,v]/\iI k=J/\Ko v=J/\qN l=Y a/\d=(k,v) :: a:=by
 unfold qN at h;split at h
 ·rename_i b;cases b
 ·rename_i k v r b;cases b;split at h
  ·rename_i c;obtain⟨a,e1,e2⟩:=Zy.mp h;exact⟨k,v,a,rfl,c.1,c.2,e1,e2.symm⟩
  ·cases h
 ·cases h
theorem sU:∀{d:W7}{i:List V}{Gs:Ye}{a:List (T×T)},RpL G H i d Gs->qN d=Y a →
  ∃ps:List OH,i=ps.map (λq=>V.ref q.1)/\(∀q∈ps,H q.1=Y (.tup [kV q.2.1,q.2.2]))/\Paired (λ(q:OH) (x:T×T)=>x.1=bf q.2.1/\Rp G H q.2.2 x.2 []) ps a
 |[],_,_,a,r,h=>by
  cases r;cases (h);exact⟨[],rfl,λq s=>by simp at s,.nil⟩
 |t :: d,_,_,a,r,h=>by
  obtain⟨k,v,m,rfl,u,o,w,rfl⟩:=DA h;cases r with
  |cons r1 r2 =>
   refine L2.ah λA f=>?_;obtain⟨ps,e1,e2,e3⟩:=sU r2 w;obtain⟨b,B,C,rfl,hb,q⟩:=Rp.Nu r1;refine f ?_;cases q with
   |cons l q =>
    cases q with
    |cons j q =>
     refine L2.ah λA f=>?_;cases q;obtain⟨n,rfl,y⟩:=dE l u;have z:=j.Ko o;subst z;refine f ?_;refine⟨(b,n,_) :: ps,by rw[e1];rfl,λx g=>?_,.cons ⟨y,j⟩ e3⟩;rcases Zj.mp g with rfl | g
     ·exact hb
     ·exact e2 x g
theorem sD:∀{ps:List OH}{s:List (T×T)},Paired (λ(q:OH) (x:T×T)=>x.1=bf q.2.1/\Rp G H q.2.2 x.2 []) ps s->∀{ns:List Key}{f:List V}{g:W7}{i:Ye},ns.length=f.length->RpL G H f g i->i.flatten=[] →
  ∃(m:List Key)(j:List V)(n:W7)(o:Ye),ps.foldl (λacc q=>putK acc q.2.1 q.2.2) (ns.zip f)=m.zip j/\s.foldl (λd q=>dput d q.1 q.2) ((ns.map bf).zip g)=(m.map bf).zip n/\m.length=j.length/\RpL G H j n o/\o.flatten=[]
 |_,_,.nil,ns,f,g,i,hl,r,l=>⟨ns,f,g,i,rfl,rfl,hl,r,l⟩
 |_,_,.cons (a:=q) (b:=x) h t,ns,f,g,i,hl,r,l=>by
  refine L2.ah λP A=>?_;obtain⟨O,j,n,o,q1,y,L,w,u⟩:=rK h.2 hl r;rw[l]at u;obtain⟨z,v,t2,F,E,N,D,C,B⟩:=sD t y w (WI.mp u);refine A ?_;refine⟨z,v,t2,F,?_,?_,D,C,B⟩
  ·rw[Y4,q1];exact E
  simp_all
def BB:eD G (λi H Q=>∃(p:On)(ps:List OH),i=[.ref p]/\H p=Y (.tup (ps.map λq=>V.ref q.1))/\(∀q∈ps,H q.1=Y (.tup [kV q.2.1,q.2.2])) ∧
  ∀l,H l=M->Q (.ref l) (upd H l (.dK (ps.foldl (λacc q=>putK acc q.2.1 q.2.2) [])))) nZ:=by
 intro D U P H l z R m t Q A e k;unfold nZ at e;split at e
 ·rename_i C B;refine L2.ah λE n=>?_;obtain⟨j,e1,e2⟩:=Zy.mp e;cases e2;obtain⟨v,F,rfl,rfl,r⟩:=(A.rp).one;obtain⟨b,y,Gs,rfl,hb,q⟩:=Rp.Nu r;obtain⟨ps,rfl,a,pr⟩:=sU q e1;refine n ?_;refine⟨b,ps,rfl,hb,a,λl hl=>?_⟩;obtain⟨ns,g,N,O,x,w,u,s,o⟩:=sD pr (ns:=[]) L .nil L;have f:ps.foldl _ []=ns.zip g:=x;have d:j.foldl _ []=(ns.map _).zip _:=w;rw[f];have h:aG H (upd H l (.dK (ns.zip g))):=bN hl;refine k _ _ _ h (by rw[d];exact .dct aA u (s.same h)) ?_;rw[o];exact Fp.new (A.same.free hl) (by simp) Fp.nil
 ·cases e
def wY:bootBuiltins ("dict" : Str)=Y (.type "dict"):=by decide +kernel
def Cq{X:Cx}(a:X.mg "dict" = M)(f:Lj G X [e] cs)(b:{`q2,Gl X "dict"})(d:{`q2,X.calm=J})(he:{`q2,K1 e [] X}):PV G X (.Call (.Name "dict" p) [e] [] pos) (eN nZ cs) :=
 hJ (vG d) BB b a wY f (he:=he)
@[simp] noncomputable def qi:W5->W6
 |[(_,.int i)]=>Y (.fr,.int i)
 |[(_,.bl b)]=>Y (.fr,.int (if b then 1 else 0))
 |_=>M
def Dy:eD G (λa H Q=>(∃i,a=[.int i]/\Q (.int i) H)\/∃k,a=[.bl k]/\Q (.int (if k then 1 else 0)) H) qi:=by
 intro D U g H l f h m t Q A e k;unfold qi at e;split at e
 ·rename_i d i;cases e;obtain⟨v,F,rfl,rfl,r⟩:=(A.rp).one;exact .inl ⟨i,by rw[r.int_inv],bj k (.int _)⟩
 ·rename_i d b;cases e;obtain⟨v,F,rfl,rfl,r⟩:=(A.rp).one;cases r;exact .inr ⟨b,rfl,bj k (.int _)⟩
 ·cases e
def Hv:bootBuiltins ("int" : Str)=Y (.type "int"):=by decide +kernel
def AJ{X:Cx}(a:X.mg "int" = M)(d:Lj G X [e] cs)(b:{`q2,Gl X "int"})(f:{`q2,X.calm=J})(he:{`q2,K1 e [] X}):PV G X (.Call (.Name "int" p) [e] [] pos) (eN qi cs) :=
 hJ yB Dy b a Hv d (he:=he)
end
end VS
end
section
namespace L2
open PySem PySem.Spec PyProof.Rows
section
variable{H:Hp}
def rW(I:Inv X pins O H s)(e:H d=Y (.dK a))(g:s.heap.get? d=Y o):Inv X pins O (upd H d (.frz o (.dK a))) s :=
 ni I (by rw[e];exact True.intro) ⟨rfl,λ_ _=>rfl⟩ ⟨o,g⟩ ⟨g,I.D8 d _ e⟩
end
def Itk(d:On)(o:Obj)(a:List (Key×V)):It :=
 ⟨λi H=>H d=Y (.frz o (.dK a))/\i<a.length,λi H x b=>b=H/\∃p,a[i]?=Y p/\x=kV p.1,λi H=>H d=Y (.frz o (.dK a))/\a.length<=i⟩
def C9(h:mS k v=J):RelV (kV k) v:=by
 rcases bJ h with⟨i,t,rfl,rfl⟩ | ⟨x,t,rfl,rfl⟩
 ·exact⟨t,rfl⟩
 ·exact⟨t,rfl⟩
def qf{P:SB}{w:UV}{a:List DictEntry}{m:List (Key×PP)}(r:Pairs (bg P w) a m){i:Nat}{e:DictEntry}(h:a[i]?=Y e):∃q,m[i]?=Y q/\mS q.1 e.key=J:=by
 induction r generalizing i with
 |nil=>simp at h
 |@cons l b a g f j _ d =>
  cases i with
  |zero =>
   simp at h;subst h;exact⟨b,rfl,f⟩
  |succ i=>simpa using d (by simpa using h)
def FW{l:List (Key×V)}{m:List (Key×PP)}(r:KV l m){i:Nat}{q:Key×PP}(h:m[i]?=Y q):∃p,l[i]?=Y p/\p.1=q.1:=by
 induction r generalizing i with
 |nil=>simp at h
 |@cons e d ps b f t a =>
  cases i with
  |zero=>simp_all
  |succ i=>simpa using a (by simpa using h)
section
def FI{tg:Expr}{P:SB}{w:UV}{K:Xd}(d f:On){G:List (Key×V)}{B:Array DictEntry}{R:Nat}{C:List (Key×PP)}(a:KV G C)(he:Pairs (bg P w) B.toList C) :
  Turn P w K tg (Itk d (ST.dO B R) G) [f] f (λi h=>h.get? f=Y (ST.kO d i B.size R)) where
 mem:=by simp
 obj:=λi h st b hb=>by
  simp_all
 keep:=λi h v st k=>k f (by simp) _ st
 item:=by
  intro X t hw u r i j s O H E I m st hg;subst t hw u;obtain⟨A,f1,f2,z,y,x⟩:=m f (by simp);refine ST.sY (I.ok.hd r) st ((I.D8 d _ hg.1).1) (λe l v D g=>?_) λN=>?_
  ·rw[← YX]at l;obtain⟨q,n,Q⟩:=qf he l;obtain⟨p,S,hb⟩:=FW a n;exact⟨_,rfl,t6 g L L L ⟨_,H,(I.turned (t':=s.toks) (λb o hb e=>(D.2 b hb).trans e) A f1 z y x),by rw[hb];exact C9 Q,⟨rfl,p,S,rfl⟩,g,λb hb=>(m b hb).1⟩⟩
  ·exfalso;rw[← YX,Xn,he.length,← Xc a]at N;exact absurd hg.2 (by lia)
 done:=by
  intro X t hw u r i j s O H E I m st hg;subst t hw u;obtain⟨A,f1,f2,z,y,x⟩:=m f (by simp);refine ST.sY (I.ok.hd r) st ((I.D8 d _ hg.1).1) (λe l v D g=>?_) λN v kp=>⟨rfl,I.turned (λb o hb e=>kp b o hb e) A f1 z y x⟩
  exfalso;rw[← YX]at l;obtain⟨q,n,Q⟩:=qf he l;have:=(Zk.mp n).1;have h2:=hg.2;rw[Xc a]at h2;lia
 self:=λ_ _ _ _ _ st U=>Wy ⟨_,st,rfl⟩ F.slot_dict_keyiterator_iter (YJ F.slot_dict_keyiterator_iter ⟨_,st,rfl⟩ F.entry_dict_keyiterator_iter (Zs ⟨_,rfl,_,_,⟨_,st,rfl⟩,Xv.lookup,U⟩) (F.args_dict_keyiterator_iter_1 _))
def iDk(e:TE):TI:=λO H R=>e O H λx b=>∃d a,x=.ref d/\b d=Y (.dK a)/\∀o,R (Itk d o a) (upd b d (.frz o (.dK a)))
def HS(m:PE X l f):PI X tg l (iDk f):=by
 intro i s O H R I h;refine thn (m _ s O H _ I h) λv s1 n=>?_;obtain⟨x,C,a,r1,q1⟩:=n;refine L2.ah λB j=>?_;obtain⟨d,t,ex,e,q⟩:=q1;subst ex;cases r1;obtain⟨z,y,r,rel,o,w,A,g,ex,hd,_,he,u⟩:=sO a.D8 e;have eo:=zp ex hd;subst eo;refine j ?_;refine ST.Bq y g ?_;refine⟨_,_,_,_,_,rfl,(rW a e g).kept λb o e=>Zu _ e,FI d _ rel he,Zh _ L,λb hb=>?_,q _⟩;have p:b=s1.heap.objs.size:=by simpa using hb
 subst p;exact(rW a e g).NZ (Zn _) ((rW a e g).D8.fresh (Zn _))
end
end L2
namespace VS
open PySem PySem.Spec PyProof.Rows L2
noncomputable def sca:T->Bool
 |.non=>J
 |.bl _=>J
 |.int _=>J
 |.str _=>J
 |_=>Z
section
noncomputable def DR:Val->Val->W6
 | (_,.int i),(_,.int j)=>if 0<=j/\j<=1000000/\i.natAbs<18446744073709551616 then Y (.fr,.int (i ^ j.toNat)) else M
 |_,_=>M
def E8:eY G (rI Jj λi j=>.int (i ^ j.toNat)) DR:=by
 intro D U g H x y u w n l m t Q d e k;obtain⟨m1,x⟩:=x;obtain⟨f,y⟩:=y;obtain⟨same,r1,r2,f1,f2,nd⟩:=d;unfold DR at e;split at e
 ·rename_i e1 e2;cases e1;cases e2;split at e
  ·rename_i h;cases e;exact⟨_,_,r1.int_inv,r2.int_inv,h,bj k (.int _)⟩
  ·cases e
 ·cases e
end
end VS
end
section
namespace L2
def FB{α:Type}{b:List α}(d:b.length=n+1):∃a t,b=a :: t/\t.length=n:=by
 obtain⟨a,t,e⟩:=List.exists_cons_of_length_eq_add_one d;subst e;exact⟨a,t,rfl,WX d⟩
def qZ{α:Type}{b:List α}(d:b.length=1):∃a,b=[a]:=List.length_eq_one_iff.mp d
def cY{α:Type}{d:List α}(f:d.length=2):∃a b,d=[a,b]:=by
 obtain⟨a,t,rfl,e⟩:=FB f;obtain⟨b,rfl⟩:=qZ e;exact⟨a,b,rfl⟩
def yP{α:Type}{d:List α}(f:d.length=3):∃a b c,d=[a,b,c]:=by
 obtain⟨a,t,rfl,e⟩:=FB f;obtain⟨b,c,rfl⟩:=cY e;exact⟨a,b,c,rfl⟩
def JE{α:Type}{e:List α}(g:e.length=4):∃a b c d,e=[a,b,c,d]:=by
 obtain⟨a,t,rfl,f⟩:=FB g;obtain⟨b,c,d,rfl⟩:=yP f;exact⟨a,b,c,d,rfl⟩
end L2
end
section
namespace VS
open PySem PySem.Spec PyProof.Rows L2
def SR.any(s:SR G D U O H)(a:U[j]?=Y M)(v:Option V):SR G D U (O.set j v) H :=
 ⟨by rw[ZF];exact s.len,λi c h=>by
  obtain⟨u,d,b⟩:=s.rp i c h;exact⟨u,by rw[ZH (λz=>by rw[z,h]at a;cases a)];exact d,b⟩,s.nd,s.sep⟩
end VS
end
section
namespace XN
open PySem PySem.Spec PyProof.Rows L2
noncomputable def Fl(j:PP)(g:UF)(H:Hp)(e:On)(d:PP)(l:Option On)(h:UF):Prop :=
 g.get? e=M/\H e=M/\∃b a,h.get? e=Y b/\(b.cls=d/\b.dict=l)/\b.data=.fields a/\1<a.size ∧
  (a[1]?=Y .none\/∃T i f,a[1]?=Y (.ref T)/\g.get? T=M/\H T=M/\T≠e/\h.get? T=Y i/\i.data=.fields f/\f[3]?=Y j)
structure Mv(g:UF)(H:Hp)(fs:X6)(h h':UF):Prop where
 keep:∀b o,h.get? b=some o->g.get? b≠none\/H b≠none->b∉fs->h'.get? b=some o
 slot:∀b o,h.get? b=some o->(∀vs,o.data ≠ .fields vs)->∃sl,h'.get? b=some { o with slots:=sl }
 there:∀b o,h.get? b=some o->∃o',h'.get? b=some o'
 sz:h.objs.size<=h'.objs.size
def Mv.refl:Mv g H a h h:=⟨λ_ _ e _ _=>e,λ_ o e _=>⟨o.slots,e⟩,λ_ o e=>⟨o,e⟩,Zn _⟩
def Mv.trans{g:UF}{j:UF}(a:Mv g H d h j)(b:Mv g H d j i):Mv g H d h i :=
 ⟨λc o e k f=>b.keep c o (a.keep c o e k f) k f,λc o e f=>by
  obtain⟨p,q⟩:=a.slot c o e f;obtain⟨n,l⟩:=b.slot c _ q f;exact⟨n,l⟩,λc o e=>by
  obtain⟨m,q⟩:=a.there c o e;exact b.there c m q,ZW a.sz b.sz⟩
def Mv.frames{g:UF}{H:Hp}{base:UF}(m:Mv g H d h a)(f:h.FunFrames base l):a.FunFrames base l :=
 f.of_keeps λb o e k=>by
  obtain⟨i,q⟩:=m.slot b o e k;exact⟨_,q,rfl⟩
def Mv.put{g:UF}{h:UF}(f:Array PP->Array PP)(j:h.get? a=Y o)(l:o.data=.fields i)(m:g.get? a=M)(n:H a=M):Mv g H p h (h.update a (Obj.mapFields f)):=by
 refine⟨λb d e k _=>?_,λb d e k=>?_,λb d e=>?_,by rw[Heap.size_update];exact Zn _⟩
 ·rw[ZO _ _ λz=>by
   subst z;rcases k with k | k
   ·exact k m
   ·exact k n]
  exact e
 ·have ne:a≠b:=λz=>by
   subst z;rw[j]at e;cases e;exact k i l
  exact⟨d.slots,by rw[ZO _ _ ne];exact e⟩
 ·by_cases z:a=b
  ·subst z;exact⟨_,(ZI (Obj.mapFields f) j (Wi (Obj.data_mapFields l f)))⟩
  ·exact⟨d,by rw[ZO _ _ z];exact e⟩
theorem Mv.push(o:Obj):Mv g H d h (h.push o) :=
 ⟨λb a e _ _=>Zu _ e,λb a e _=>⟨a.slots,Zu _ e⟩,λb a e=>⟨a,Zu _ e⟩,by rw[YR];exact YW _⟩
def Mv.slots(x:Heap.SlotsOnly d h a):Mv g H d h a :=
 ⟨λb o e _ f=>(x.2.1 b f).trans e,λb o e _=>x.2.2 b o e,λb o e=>by
  obtain⟨sl,q⟩:=x.2.2 b o e;exact⟨_,q⟩,by rw[x.1];exact Zn _⟩
section
variable{M:Model}{A:SC}{L:On}{H:Hp}
noncomputable abbrev SJ(l:List Env):X6:=l.filterMap (·.frame)
def tK{s:KB}{g:UF}(N:A.frames=Y (env :: outer))(v:s.heap.FunFrames base (env :: outer))(C:env.frame=Y L)(he:s.heap.get? e=Y j)(w:j.cls=cls/\j.dict=dd)(l:j.data=.fields m)(f:1<m.size)(u:g.get? e=none)(y:H e=none)(F:∀b,s.heap.objs.size<=b->g.get? b=none)(D:∀b,s.heap.objs.size<=b->H b=none)(h:∀q,Mv g H (SJ (env :: outer)) s.heap q->Fl (rawInt L) g H e cls dd q->Q () { s with heap:=q }) :
  Pi M A (do let a ← frameOf env;let i ← entryPlaceOf L G;let b ← EntryCells.newEntry d a .none (rawInt L) .none i;setField (.ref e) 1 b) Q E s:=by
 refine Zx (wpAny_frameOf_fun N v C λr n=>Zx (wpAny_entryPlaceOf λi B=>?_));refine Zx (YZ ?_ (B.sizeOk5 ..));have e1:=(n.2.1 e (λhm=>by
  obtain⟨_,o,t,p⟩:=v.mem hm;rw[he]at t;cases t;exact p m l)).trans he
 have sz:=n.1;generalize x:({ cls:=.type "traceback",dict:=none,data:=.fields ([d,.ref L,.none,rawInt L,.none]++(if i.isEmpty then List.replicate 6 Value.none else i)).toArray }:Obj)=oT;have e2:=Zu oT e1;refine Ya e2 l f (h _ ?_ ?_)
 ·exact((Mv.slots n).trans (Mv.push oT)).trans (Mv.put _ e2 l u y)
 ·have z:=Obj.data_mapFields l (·.setIfInBounds 1 (Value.ref r.objs.size));have ne:=Xs (Zf e1);refine⟨u,y,_,_,ZI _ e2 (Wi z),⟨(Obj.cls_mapFields _ _).trans w.1,?_⟩,z,by simp[f],.inr ⟨r.objs.size,oT,([d,.ref L,.none,rawInt L,.none]++(if i.isEmpty then List.replicate 6 Value.none else i)).toArray,?_,F _ (by rw[sz];exact Zn _),D _ (by rw[sz];exact Zn _),ne,?_,by rw[← x],?_⟩⟩
  ·rw[← w.2];unfold Obj.mapFields;split<;>rfl
  ·simp[f]
  ·rw[ZO _ _ (Z9 ne)];exact Zh _ (by rw[← x];rfl)
  ·simp
def xp{s:KB}{g:UF}(z:A.frames=Y (env :: outer))(t:s.heap.FunFrames base (env :: outer))(n:env.frame=Y L)(m:r=.none\/r=rawInt L)(w:∀b,s.heap.objs.size<=b->g.get? b=none)(v:∀b,s.heap.objs.size<=b->H b=none)(F:Fl r g H e cls dd s.heap)(h:∀d,Mv g H (SJ (env :: outer)) s.heap d->Fl (rawInt L) g H e cls dd d->Q () { s with heap:=d }):Pi M A (noteFrame (.ref e) env) Q E s:=by
 obtain⟨l,p,D,B,he,o,hd,a,O⟩:=F;unfold noteFrame;simp only[n];rcases O with i | ⟨T,G,C,i,y,x,u,f,j,q⟩
 ·refine Zx (We he hd i ?_);rw[Zl (by decide)];exact tK z t n he o hd a l p w v h
 ·refine Zx (We he hd i ?_);rw[Zm (by simp)];refine Zx (We f j q ?_);rcases m with rfl | rfl
  ·rw[Zl (by simp[rawInt])];refine Zx (Ya f j (Yf.mp q).1 ?_);have m1:Mv g H (SJ (env :: outer)) s.heap (s.heap.update T (Obj.mapFields (·.setIfInBounds 3 Value.none))):=Mv.put _ f j y x;refine tK z (m1.frames t) n (by rw[ZO _ _ u];exact he) o hd a l p ?_ ?_ λd N f2=>h d (m1.trans N) f2
   ·intro b hb;rw[Heap.size_update]at hb;exact w b hb
   ·intro b hb;rw[Heap.size_update]at hb;exact v b hb
  ·rw[Zm (by simp[rawInt])];exact Zs (h s.heap Mv.refl ⟨l,p,D,B,he,o,hd,a,.inr ⟨T,G,C,i,y,x,u,f,j,q⟩⟩)
def lY{s:KB}{fs:X6}(F:Fl y g H e cls dd s.heap)(h:∀i,Mv g H fs s.heap i->Fl .none g H e cls dd i->Q () { s with heap:=i }):Pi M A (setFlight (.ref e) none) Q E s:=by
 obtain⟨o,q,m,l,he,p,hd,a,w⟩:=F;rcases w with b | ⟨T,B,z,b,v,u,r,d,j,x⟩
 ·refine Zx (We he hd b ?_);rw[Zl (by decide)];exact Zs (h s.heap Mv.refl ⟨o,q,m,l,he,p,hd,a,.inl b⟩)
 ·refine Zx (We he hd b ?_);rw[Zm (by simp)];have t:=Obj.data_mapFields j (·.setIfInBounds 3 (Option.elim none Value.none λf=>rawInt f));have n:=(Yf.mp x).1;refine Ya d j n (h _ (Mv.put _ d j v u) ⟨o,q,m,l,by rw[ZO _ _ r];exact he,p,hd,a,.inr ⟨T,_,_,b,v,u,r,ZI _ d (Wi t),t,by simp[n]⟩⟩)
def Aw{s:KB}{g:UF}(n:A.frames=Y (env :: outer))(f:s.heap.FunFrames base (env :: outer))(i:env.frame=Y L)(m:∀b,s.heap.objs.size<=b->g.get? b=none)(l:∀b,s.heap.objs.size<=b->H b=none)(F:Fl .none g H e cls dd s.heap)(h:∀a,Mv g H (SJ (env :: outer)) s.heap a->Fl .none g H e cls dd a->Q () { s with heap:=a }):Pi M A (leaving env (.ref e)) Q E s:=by
 refine Zx (xp n f i (.inl rfl) m l F λo m1 f1=>lY f1 λj d f2=>h j (m1.trans d) f2)
end
def Fl.mono{d:UF}(F:Fl l g H e a m h)(w:∀b o,d.get? b=Y o->∃j,g.get? b=Y j):Fl l d H e a m h:=by
 have no:∀b,g.get? b=M->d.get? b=M:=λb q=>by
  cases z:d.get? b with
  |none=>rfl
  |some o =>
   obtain⟨j,i⟩:=w b o z;rw[q]at i;cases i
 obtain⟨v,y,s,n,he,x,hd,f,u⟩:=F;refine⟨no _ v,y,s,n,he,x,hd,f,u.imp id ?_⟩;rintro⟨T,t,p,A,B,r⟩;exact⟨T,t,p,A,no _ B,r⟩
def BI(x:Lv P w H h)(m:Mv g H f h d)(i:∀b∈f,H b=M):Lv P w H d:=λa o e =>
 (x a o e).ML (λb u k q=>m.keep b u q (.inr (by
   rcases k with rfl | k
   ·rw[e];exact λz=>nomatch z
   ·rw[k];exact λz=>nomatch z)) λz=>by
    have:=i b z;rcases k with rfl | k
    ·rw[this]at e;cases e
    ·rw[this]at k;cases k) (λ_ q=>q) (λ_ _ q=>q) λ_ _ _ q=>q
def Je{d p l:X6}{r H:Hp}{g a h j base:UF}{outer:List Env}(u:Un d l r H a h)(m:Mv g H p h j)(w:∀b o,a.get? b=Y o->g.get? b≠M)(C:∀b∈p,b∈d\/a.objs.size<=b)(A:d=SJ outer)(y:h.FunFrames base outer):Un d l r H a j where
 keep:=λb o e n f x=>m.keep b o (u.keep b o e n f x) (.inl (w b o e)) λz=>(C b z).elim f λq=>absurd (Zf e) (Nat.not_lt.mpr q)
 slot:=λb o e n f x=>by
  obtain⟨D,q⟩:=u.slot b o e n f x;rw[A]at f;obtain⟨_,E,i,v⟩:=y.mem f;rw[q]at i;cases i;obtain⟨B,s⟩:=m.slot b _ q v;exact⟨B,s⟩
 free:=u.free
 there:=λb o e x=>by
  obtain⟨t,q⟩:=u.there b o e x;exact m.there b t q
 L3:=u.L3
 LV:=u.LV
 Ly:=u.Ly
def Rv(P:SB)(w:UV)(d:UF):OI:=λouter H s E e b=>∃a cls g f,e=.ref a/\b.os=s.os/\AllBare b.gens/\Un (Lx outer) [] H f s.heap b.heap/\Lv P w f b.heap/\b.heap.FunFrames d outer/\Fl .none s.heap f a cls g b.heap/\E cls g f
structure Pw(X:Cx)(pins:Ym)(g h:UF):Prop where
 old:∀b o,X.s₀.heap.get? b=some o->g.get? b≠none
 pin:∀p∈X.pn++pins,g.get? p.1≠none
 new:∀b,h.objs.size<=b->g.get? b=none
def XR(X:Cx)(O:L2.St)(d:PP)(e:Option On)(H:Hp):Prop:=∀b s a g,Inv X b O H s->Pw X b g s.heap->Fl .none g H a d e s.heap->X.xe (.ref a) s
def Pw.here{g:UF}(I:Inv X a O H s)(f:X.ex=[])(h:∀b o,s.heap.get? b=Y o->∃d,g.get? b=Y d):Pw X a s.heap g:=by
 refine⟨λb o e z=>?_,λp i z=>?_,λb hb=>?_⟩
 ·obtain⟨d,q⟩:=I.base.there b o e (by rw[f];exact λz=>nomatch z);rw[z]at q;cases q
 ·rw[(I.pin p i).1]at z;cases z
 ·cases z:s.heap.get? b with
  |none=>rfl
  |some o =>
   obtain⟨d,q⟩:=h b o z;exact absurd (Zf q) (Nat.not_lt.mpr hb)
section
variable{K:Xd}{A:SC}
def IP(j:E d h H):XR (gP (Rv P w base) P w K mg base N qual scope f cd A outer s0 H0 E) O d h H:=by
 intro i s a g I e F;have D8:=I.D8;refine Aw (g:=g) (H:=H) I.ok.frames I.stack L e.new (λb hb=>D8.fresh hb) F λl m f2=>?_;exact⟨a,d,h,H,rfl,I.os,I.bare,(Je (outer:=outer) (base:=base) I.base m e.old (λb hb=>by
  rw[SJ,Wp]at hb;rcases Zj.mp (show b∈s0.heap.objs.size :: Lx outer from hb) with rfl | hb
  ·exact .inr (Zn _)
  ·exact .inl hb) L I.Ln),BI D8 m I.LO,m.frames I.Ln,f2.mono (λb o q=>Option.ne_none_iff_exists'.mp (e.old b o q)),j⟩
def XR.PN{E:XK}(I:Inv X d O H s)(h:Rv X.prog X.w X.base X.stack H s E e j)(m:X.ex=[])(k:∀cls g i,E cls g i->XR X O cls g i):X.xe e j:=by
 obtain⟨a,cls,g,i,rfl,p,hb,n,D8,r,l,q⟩:=h;exact k cls g i q d j a s.heap (I.Ro p n D8 hb λb hb=>nomatch hb) (Pw.here I m λb o e=>n.there b o e λz=>nomatch z) l
def GG(X:Cx)(b:Sp)(t:TA):TE:=λO H Q=>t O H λa d=>b a d Q (XR X O)
def Bc{X:Cx}{f:On}(F:FnOk X.prog X.w X.K X.mg X.base (Rv X.prog X.w X.base) k f v o n)(G:D6 k X.A)(S:Gl X x)(L:X.mg x=Y (.ref f))(R:PySem.W.keepIn X.K (.ref f)=J)(U:Binds X.K v o [])(ha:PA X (e :: g) t)(K5:K3 x)(he:K1 e g X)(l:K2 a g X)(m:X.ex=[]) :
  PE X (.Call (.Name x p) (e :: g) [] a) (GG X n t):=by
 intro b s O H Q I h;refine Xz (jK I S L ?_ K5);refine Wj I.ok.mod.RJ R (thn (ha a b s O H _ I h) λi s1 D=>?_) he l;obtain⟨B,H1,d,r,q⟩:=D;refine⟨d.LR,?_⟩;have y:=U s1 i d.LR (by rw[ZT];exact(by rw[← r.length];exact F.len _ _ _ _ q));rw[ZT]at y;refine XH (Xy (F.run X.A X.stack s1 H1 ⟨i,[]⟩ i B Q _ G d.Sa y r q) λC s' j=>?_);cases C with
 |error e=>exact XR.PN d j m λ_ _ _ z=>z
 |ok f =>
  cases f with
  |ret u=>exact d.after j
  |_=>exact j.elim
end
end XN
end
section
namespace VS
open PySem PySem.Spec PyProof.Rows L2 XN
inductive Res where | ok (v:Val) | ex (x:Str)
inductive QF where | ok (o:Out) | ex (x:Str) (U:VS.Env)
abbrev QI:=VS.Env->Option Res
abbrev LJ:=VS.Env->Option QF
noncomputable abbrev Pg:=W7->Option Res
def XRs(X:Cx)(O:L2.St)(x:Str)(H:Hp):Prop:=∀cls,X.mg x=Y cls->XR X O cls M H
def EOk(G:Gx)(X:Cx)(D:Kn)(U:VS.Env)(O:L2.St)(H:Hp)(Q:VK):Res->Prop
 |.ok v=>∀u a F,aG H a->Rp G a u v.2 F->Fp D U H v.1 F->Q u a
 |.ex x=>∀a,aG H a->XRs X O x a
def tEX(G:Gx)(X:Cx)(c:QI):TE:=λO H Q=>∃D U r,SR G D U O H/\c U=Y r/\EOk G X D U O H Q r
def VR(G:Gx)(X:Cx)(D:Kn)(U:VS.Env)(H:Hp)(Db:Ends):QF->Prop
 |.ok o=>qk G D U H Db o
 |.ex x b=>∀e d a,SR G e b d a->Kq D U H e b a->XRs X d x a
def U7(G:Gx)(X:Cx)(c:LJ):TS:=λDb O H=>∃D U o,SR G D U O H/\c U=Y o/\VR G X D U H Db o
def PVX(G:Gx)(X:Cx)(e:Expr)(c:QI):Prop:=PE X e (tEX G X c)
def PSX(G:Gx)(X:Cx)(a:Stmt)(c:LJ):Prop:=PS X a (U7 G X c)
def oA(G:Gx)(X:Cx)(a:List Stmt)(c:LJ):Prop:=Mr X a (U7 G X c)
noncomputable def sL(c:Sx):LJ:=λU=>(c U).map .ok
noncomputable def C3(a b:LJ):LJ:=λU=>(a U).bind λo=>match o with
 |.ok (.nx d)=>b d
 |o=>Y o
def UW(t:Ex)(a b:LJ):LJ:=λU=>(t U).bind λx=>(ON x.2).bind λr=>if r then a U else b U
noncomputable def QT(c:QI):Ex:=λU=>match c U with
 |some (.ok v)=>Y v
 |_=>M
def Pz(S:Ex->Sx)(c:QI):LJ:=λU=>(c U).bind λr=>match r with
 |.ok _=>(S (QT c) U).map .ok
 |.ex x=>Y (.ex x U)
noncomputable def Vj(g:Pg):Fn:=λa=>match g a with
 |some (.ok v)=>Y v
 |_=>M
def ie(g:Pg)(a:KJ):QI:=λU=>(a U).bind λl=>(g (trees l)).bind λr=>match r with
 |.ok _=>(bu (Vj g) a U).map .ok
 |.ex x=>Y (.ex x)
noncomputable def OE(d e:Nat)(a:LJ):Pg:=λb=>if b.length=d then
 (a (b.map (λt=>Y (.pu t))++List.replicate (e-d) M)).bind λo=>match o with
  |.ok (.rt v _)=>Y (.ok v)
  |.ok (.nx _)=>Y (.ok (.fr,.non))
  |.ex x _=>Y (.ex x)
  |_=>M else M
def V5(G:Gx)(f:X4)(g:Pg):Sp:=λe H Q E=>∃b d r,RpL G H e b d/\g b=Y r/\(match r with
 |.ok v=>∀u a F,aG H a->Rp G a u v.2 F->Jk H d v.1 F->Q u a
 |.ex x=>∀cls a,f x=Y cls->aG H a->E cls M a)
section
variable{st:Stmt}
theorem VR.back(f:Kq D U H j d i):∀{o:QF},VR G X D U H Db o->VR G X j d i Db o
 |.ok _,h=>qk.back f h
 |.ex _ _,h=>λn l m s g=>h n l m s (f.trans g)
def wG{X:Cx}(h:fK G X.L6 OP c):oA G X OP (sL c):=λd s O H Db I i=>by
 obtain⟨D,U,o,f,e,k⟩:=i;obtain⟨g,e1,rfl⟩:=Zy.mp e;exact Z4 (h d s O H Db (I.LL _) ⟨D,U,g,f,e1,k⟩) (λ_ _ q=>q.KR) λ_ _ z=>False.elim z
def wK(h:PSX G X st a):oA G X [st] a:=ax h
def Hq(l:PSX G X st a)(j:oA G X OP b):oA G X (st :: OP) (C3 a b):=Mr.weak (tR l j) λDb O H i=>by
 obtain⟨D,U,o,s,e,k⟩:=i;obtain⟨g,e1,e2⟩:=Zz.mp e;refine⟨D,U,g,s,e1,?_⟩;cases g with
 |ex x d=>cases e2;exact k
 |ok g =>
  cases g with
  |nx d=>exact λm n q h f=>⟨m,d,o,h,e2,k.back f⟩
  |rt v d=>cases e2;exact k
  |bk d=>cases e2;exact k
  |ct d=>cases e2;exact k
def Kb{X:Cx}(h:MQ G X.L6 t d)(j:oA G X A a)(i:oA G X B b):PSX G X (.If t A B pos) (UW d a b):=PS.weak (AY (PT.L6 h) j i) λDb O H g=>by
 obtain⟨D,U,o,s,e,k⟩:=g;obtain⟨⟨m,x⟩,ec,e1⟩:=Zz.mp e;obtain⟨f,l,e2⟩:=Zz.mp e1;refine⟨D,U,m,x,f,s,ec,l,λn e3=>?_⟩;cases f with
 |true =>
  rw[Zm L]at e2;exact uL ⟨D,U,o,s.same e3,e2,k.back (Kq.same e3)⟩
 |false =>
  rw[Zl Za]at e2;exact uZ ⟨D,U,o,s.same e3,e2,k.back (Kq.same e3)⟩
def Gn(h:PVX G X e ce):PV G X e (QT ce):=PE.weak h λO H Q f=>by
 obtain⟨D,U,m,r,s,e,k⟩:=f;unfold QT at e;split at e
 ·rename_i v d;cases e;exact⟨D,U,.ok (m,r),s,d,k⟩
 ·cases e
def Kg{G:Gx}{X:Cx}{e:Expr}{ce:QI}{S:Ex->Sx}{W:TE->TS}{R:Ends->L2.St->VK}(h:PVX G X e ce)(m:∀{c:Ex},PV G X e c->PSV G X st (S c))(l:∀{t:TE},PE X e t->PS X st (W t))(n:∀t Db O H,t O H (R Db O)->W t Db O H):PSX G X st (Pz S ce):=λd s O H Db I j=>by
 obtain⟨D,U,o,f,e,k⟩:=j;obtain⟨r,e1,e2⟩:=Zz.mp e;cases r with
 |ok v =>
  obtain⟨i,e3,rfl⟩:=Zy.mp e2;exact m (Gn h) d s O H Db I ⟨D,U,i,f,e3,k⟩
 |ex x =>
  cases e2;exact l h d s O H Db I (n _ Db O H ⟨D,U,.ex x,f,e1,λq g=>k D O q (f.same g) (Kq.same g)⟩)
def AR{pos:Pos}(h:PVX G X e ce)(d:swapsWith e M pos.line X.env=pure Z):PSX G X (.Expr e pos) (Pz (λc=>sX (xP c)) ce) :=
 Kg h (λq=>vo q d) (λq=>gD q d) λ_ _ _ _ q=>q
def x_call{X:Cx}(F:FnOk X.prog X.w X.K X.mg X.base (Rv X.prog X.w X.base) k f R N (V5 G X.mg g))(hr:D6 k X.A)(hg:Gl X x)(hm:X.mg x=Y (.ref f))(hk:PySem.W.keepIn X.K (.ref f)=J)(hb:Binds X.K R N [])(ha:Lj G X.L6 (e :: es) S)(K5:K3 x)(he:K1 e es X)(n:K2 pos es X)(o:X.ex=[]) :
  PVX G X (.Call (.Name x p) (e :: es) [] pos) (ie g S):=by
 refine PE.weak (Bc F hr hg hm hk hb (λpos h s O H Q I hw=>Z4 (ha pos h s O H Q (I.LL _) hw) (λ_ _ ⟨d,B,I',r,q⟩=>⟨d,B,I'.KR,r,q⟩) λ_ _ z=>False.elim z) K5 he n o) λO H Q hq=>?_;refine L2.ah λP_ k_=>?_;obtain⟨D,U,r,s,e,k⟩:=hq;obtain⟨l,el,e1⟩:=Zz.mp e;obtain⟨r0,er,e2⟩:=Zz.mp e1;refine k_ ?_;cases r0 with
 |ok v =>
  obtain⟨E,ev,rfl⟩:=Zy.mp e2;obtain⟨D2,U2,l2,s2,t,k2⟩:=call_of (⟨D,U,E.1,E.2,s,ev,k⟩);refine⟨D2,U2,l2,s2,t,λd u C q1 j L=>?_⟩;have P:Nw G (Vj g) (d++[]) u Q (XR X O):=k2 d u C q1 j L;rw[ZT]at P;obtain⟨ts,MI,m,r,h1,i,h3⟩:=P;unfold Vj at i;split at i
  ·rename_i v' hv;cases i;exact⟨ts,MI,.ok (m,r),h1,hv,h3⟩
  ·cases i
 |ex y =>
  cases e2;refine⟨D,U,l,s,el,λd u C q1 j L=>⟨trees l,C,.ex y,j,er,λcls B LZ sm=>k B (q1.trans sm) cls LZ⟩⟩
end
section
variable{K:Xd}
def fnX(F:Ku K x b e f U)(S:bt N B (ak e))(hp:B.length=R)(hn:N.length=l)(hb:∀(p:PP)(A:SC)(outer:List PySem.Env)(s:KB)(H:Hp)(E:XK),D6 k (A.deeper (envOfC b (ak e) s.heap.objs.size f p))->oA G (gP (Rv P w base) P w K mg base N b (ak e) f p A outer s H E) (aT e) c) :
  FnOk P w K mg base (Rv P w base) (k+1) f U B (V5 G mg (OE R l c)):=by
 refine L2.ah λP_ C=>?_;obtain⟨oc,od,kV,doc,pm,an,p,ct,Oz,rfl,lk,KQ⟩:=F.ex;refine C ?_;refine Ak lk KQ S (λvs H Q E h=>?_) λA outer s H vs Q E hr h=>⟨_,hb p A outer s H E hr,?_⟩
 ·obtain⟨ts,Fs,r,D,d,_⟩:=h;unfold OE at d;split at d
  ·rename_i hl;rw[D.len.1,hl,hp]
  ·cases d
 ·refine L2.ah λP_ C=>?_;obtain⟨ts,Fs,r,D,d,q⟩:=h;refine C ?_;unfold OE at d;split at d
  ·rename_i hl;obtain⟨o,e1,e2⟩:=Zz.mp d;have O:=uo D l vs.length L;rw[hl]at O;have e3:L2.start N vs=vs.map Y++List.replicate (l-vs.length) M:=by
    unfold L2.start;rw[hn]
   rw[e3];refine⟨_,_,o,O,e1,?_⟩;cases o with
   |ex y n =>
    cases e2;exact λD' X i _ fr cls hm=>IP (q cls i hm λa o h=>(fr.keep a o h cP).1)
   |ok o =>
    cases o with
    |nx n =>
     cases e2;intro D' X i s' fr;exact q .non i [] (λa o h=>(fr.keep a o h cP).1) .non ⟨Z3,λa h=>nomatch h⟩
    |rt v n =>
     cases e2;intro u i F' D' X s' fr r' j;refine q u i F' (λa o h=>(fr.keep a o h cP).1) r' ?_;obtain⟨m,t⟩:=v;cases m with
     |fr=>exact⟨j.1,λa g=>(j.2 a g).elim id λz=>absurd z cP⟩
     |pu=>exact λa g=>(j a g).elim .inl λz=>z.elim (λz=>.inr (kQ (H:=H) (vs:=vs) z)) λz=>absurd z cP
     |bo=>exact λa g=>(j a g).elim .inl λz=>z.elim (λz=>.inr (kQ (H:=H) (vs:=vs) z)) λz=>absurd z cP
    |bk n=>cases e2
    |ct n=>cases e2
  ·cases d
structure FnXt(P:SB)(w:UV)(K:Xd)(mg:X4)(base:UF)(k:Nat)(x:Str)(ps:List Str)(G:Gx)(g:Pg):Prop where
 ex:∃f fd,FnOk P w K mg base (Rv P w base) k f fd ps (V5 G mg g)/\mg x=some (.ref f)/\PySem.W.keepIn K (.ref f)=true/\Binds K fd ps []
end
end VS
end
section
namespace XN
open PySem PySem.Spec PyProof.Rows L2
def Ff{K:Xd}{C:On}(X:K.In h)(e:PySem.W.excIn K C p a=J):∃bm N nm q bs hdct sn sub ab col dd k0 k1 k2 k3 k5 d,
  h.get? C=Y (excClassObj nm q C N bs bm hdct sn sub ab col dd k0 k1 k2 k3 k5 a)/\h.Ns N d/\d "__init__" = M/\OwnTail h p bm:=by
 unfold PySem.W.excIn at e;split at e
 ·rename_i dct c slots at_
  split at e
  ·rename_i R r n m l j b i em L;rw[ZJ,ZJ,ZJ,ZJ,ZJ]at e;refine L2.ah λQ s=>?_;obtain⟨⟨⟨⟨⟨B,A⟩,z⟩,y⟩,f⟩,x⟩:=e;have w:=eq_of_beq B;have v:=eq_of_beq A;subst w;subst v;obtain⟨f1,f2,P,g,H,G,F,E,D,O,o⟩:=c;have u:o=Z:=by
    cases o with
    |false=>rfl
    |true=>cases z
   have t:slots=#[n,m,l,j,Y (.builtin b),i]:=by
    cases slots;exact congrArg Array.mk L
   subst u;subst t;subst em;refine s ?_;exact⟨r,g,f1,H,f2,G,F,E,D,O,dct,n,m,l,j,i,h.nsMap g,X _ _ at_,.of_isNs (PySem.W.isNs_of_in X f),PySem.W.nsMap_none_of_in X f (eq_of_beq x),PySem.W.tail_of_in X y⟩
  ·cases e
 ·cases e
def yz(x:cR P w H h a o):∃u,h.get? a=Y u:=by
 cases o with
 |lst b=>obtain⟨_,_,_,_,e⟩:=x;exact⟨_,e⟩
 |tup b=>obtain⟨_,_,_,_,p⟩:=x;obtain⟨_,e,_⟩:=p;exact⟨_,e⟩
 |dK d=>obtain⟨_,_,_,_,o,_,_,e,_⟩:=x;exact⟨_,e⟩
 |dT d=>obtain⟨_,_,_,_,o,_,_,e,_⟩:=x;exact⟨_,e⟩
 |set S n=>obtain⟨o,_,_,_,e,_⟩:=x;exact⟨_,e⟩
 |ins C i fs=>obtain⟨_,_,_,e,_⟩:=x;exact⟨_,e⟩
 |own y=>exact x
 |xd fs=>obtain⟨_,⟨_,_,_,e,_⟩,_⟩:=x;exact⟨_,e⟩
 |rng lo g=>obtain⟨_,_,_,e⟩:=x;exact⟨_,e⟩
 |frz o u=>exact⟨_,x.1⟩
 |tbl ps=>obtain⟨_,e,_⟩:=x;exact⟨_,e⟩
 |met f y=>exact⟨_,x⟩
 |ext φ=>obtain⟨_,⟨_,e⟩,_⟩:=x;exact⟨_,e⟩
end XN
namespace VS
open PySem PySem.Spec PyProof.Rows L2 XN
section
def x_raise{X:Cx}(F:ExcBaseFacts B newId RM SO)(VC:SO.contains (.type "BaseException")=J)(hq:PySem.W.excIn X.K C SO newId=J)(A:X.mg x=Y (.ref C))(hg:Gl X x)(hc:X.calm=J)(ha:Lj G X.L6 [e] cs)(K5:K3 x)(m:K1 e [] X)(n:(backTo cp (P3 [] X.env)).any (·.1)=Z)(r:X.ex=[]) :
  PSX G X (.Raise (Y (.Call (.Name x np) [e] [] cp)) M pos) (λU=>(cs U).bind λl=>if l.length<=1000 then Y (.ex x U) else M):=λd s O H Db I hw=>by
 refine L2.ah λP g=>?_;obtain⟨D,U,o,u,eo,k⟩:=hw;obtain⟨l,el,e2⟩:=Zz.mp eo;refine g ?_;split at e2
 rotate_left
 ·cases e2
 rename_i hl;refine L2.ah λP g=>?_;cases e2;obtain⟨bm,N,nm,q,bs,hdct,sn,sub,ab,col,dd,k0,k1,k2,k3,k5,mN,hC,hN,p,E⟩:=Ff I.ok.mod.RJ hq;refine g ?_;refine wpAny_Raise_call_subT (C:=C) (nm:=nm) (q:=q) (N:=N) (bs:=bs) (hdct:=hdct) (sn:=sn) (sub:=sub) (ab:=ab) (col:=col) (dd:=dd) (k0:=k0) (k1:=k1) (k2:=k2) (k3:=k3) (k5:=k5) F (E.hasType VC) (I.ok.hd hc) (by
  rw[m];exact n) p (jK I hg A ⟨rfl,?_⟩ K5)
 rw[m];refine WQ ?_;have hw:=ha cp d s O H (λj f=>∃i,aG H f/\RpL G f j (trees l) i) (I.LL _) ⟨D,U,l,u,el,λj f i q1 R q3=>⟨i,q1,R⟩⟩
 ·rw[m]at hw;refine Z4 hw (λus w S=>?_) λ_ _ z=>False.elim z;refine L2.ah λP g=>?_;obtain⟨j,f,I1,Q,i,v,rp⟩:=S;refine g ?_;have h:=I1.KR;have bk:=h.bk;refine⟨rfl,?_,bk _ _ hC,hN.keeps bk,E.keeps bk,λh' a mk=>?_⟩
  ·rw[← Q.length,rp.len.1,trees,Zt];exact ZW hl (by decide)
  ·refine k D O f (u.same v) (Kq.same v) _ A d _ a w.heap (h.kept (t':=w.toks) mk.keeps) (Pw.here h r λb o e=>⟨o,mk.keeps b o e⟩) ⟨mk.new,?_,?_⟩
   ·cases z:f a with
    |none=>rfl
    |some o =>
     obtain⟨o',y⟩:=yz (h.D8 a o z);rw[mk.new]at y;cases y
   ·obtain⟨t,h1,_,_⟩:=mk.there;exact⟨_,_,h1,⟨rfl,rfl⟩,rfl,(by decide:1<6),.inl L⟩
end
end VS
end
section
namespace XN
open PySem PySem.Spec PyProof.Rows L2
section
variable{H:Hp}
def vT(I:Inv X pins O H s)(m:Mv g H fs s.heap h')(d:Pw X pins g s.heap)(w:∀b∈fs,b∈Lx X.stack):Inv X pins O H { s with heap:=h' }:=by
 have sub:=λb hb=>Zj.mp (I.L5 b (w b hb));have cellK:∀c v,s.heap.IsCell c v->h'.IsCell c v:=λc v D=>by
  obtain⟨o,E,hd⟩:=D;obtain⟨y,q⟩:=m.slot c o E λN z=>by rw[hd]at z;cases z
  exact⟨_,q,hd⟩
 refine⟨I.ok,I.os,I.bare,⟨λb o e n hb f=>?_,λb o e n hb f=>?_,I.base.free,λb o e f=>?_,I.base.L3,I.base.LV,I.base.Ly⟩,?_,λx c e=>?_,I.free,I.KH,λp t=>?_,BI I.D8 m λb hb=>I.LO b (w b hb),I.len⟩
 ·exact m.keep b o (I.base.keep b o e n hb f) (.inl (d.old b o e)) λz=>(sub b z).elim ((λb o e=>Zi (Zc (Zf e) I.ok.above)) b o e) hb
 ·obtain⟨y,e1⟩:=I.base.slot b o e n hb f;obtain⟨_,P,j,h⟩:=I.Ln.mem hb;rw[e1]at j;cases j;obtain⟨L,A⟩:=m.slot b _ e1 h;exact⟨L,A⟩
 ·obtain⟨B,e1⟩:=I.base.there b o e f;exact m.there b B e1
 ·obtain⟨C,F,hl⟩:=I.loc;refine⟨C,Heap.UpToSlots.ns m.slot F,λi x v e1 e2 e3=>?_⟩;obtain⟨u,r,l⟩:=hl i x v e1 e2 e3;refine⟨u,r,?_⟩;rcases l with l | ⟨k,c,e,z⟩
  ·exact .inl l
  ·exact .inr ⟨k,c,e,cellK c _ z⟩
 ·obtain⟨v,z⟩:=I.cell x c e;exact⟨v,cellK c v z⟩
 ·obtain⟨e,n,ne,h,G⟩:=I.pin p t;exact⟨m.keep p.1 p.2 e (.inl (d.pin p t)) λz=>(sub _ z).elim ne h,n,ne,h,G⟩
def x9(I:Inv X pins O H s)(d:Pw X pins g s.heap)(t:g.get? a=M)(B:H a=M)(he:s.heap.get? a=Y i)(w:i.data=.fields y):Inv X pins O (upd H a (.frz i (.own a))) s:=by
 have ne:∀b o,H b=Y o->b≠a:=λb o e z=>by rw[z,B]at e;cases e
 refine⟨I.ok,I.os,I.bare,⟨I.base.keep,I.base.slot,λb o e n A=>?_,I.base.there,λb j e=>?_,λb o u e=>?_,λb ps e=>?_⟩,I.loc,I.cell,?_,λx c e=>?_,λp l=>?_,λb o e=>?_,I.len⟩
 ·rw[ay λz=>d.old b o e (by rw[z];exact t)];exact I.base.free b o e n A
 ·have:=I.base.L3 b j e;rw[ay (ne b _ this)];exact this
 ·have:=I.base.LV b o u e;rw[ay (ne b _ this)];exact this
 ·have:=I.base.Ly b ps e;rw[ay (ne b _ this)];exact this
 ·rw[ay (λz=>by
  obtain⟨m,⟨o,C,D,f,h,_⟩,_⟩:=I.loc;rw[z,he]at f;cases f;rw[w]at h;cases h)]
  exact I.free
 ·rw[ay λz=>by
   obtain⟨v,o,f,h⟩:=I.cell x c e;rw[z,he]at f;cases f;rw[w]at h;cases h]
  exact I.KH x c e
 ·obtain⟨e,n,r⟩:=I.pin p l;exact⟨e,by rw[ay λz=>d.pin p l (by rw[z];exact t)];exact n,r⟩
 ·by_cases hb:b=a
  ·subst hb;rw[aA]at e;cases e;exact⟨he,⟨i,he⟩⟩
  ·rw[ay hb]at e;refine(I.D8 b o e).ML (λ_ _ _ q=>q) (λc q=>?_) (λc j q=>?_) λc _ _ q=>?_
   ·rw[ay (ne c _ q)];exact q
   ·rw[ay (ne c _ q)];exact q
   ·rw[ay (ne c _ q)];exact q
def name_goes(I:Inv X pins O H s)(U:X.N.Nodup)(F:X.N[j]?=Y n)(D:X.env.scope.names.lookup n=Y .local)(h:∀R,Inv X pins (O.set j M) H R->Q () R) :
  Pi (KF X.prog X.w) A (do bindName X.env n .none;unbindBehindTheSuite X.env n G) Q E s:=by
 have S:X.env.kindOf n=Y .local:=D;have RZ:(X.env.scope.kind == .class||(X.env.scope.kind == .module&&X.env.locals != X.env.globals))=Z:=by rw[I.ok.kind];rfl
 refine Zx (wpAny_bindName (k9 I U F (.inl D) (v:=V.non) L (λs1 d=>?_) (.inr D)));refine wpAny_onRaise ?_;refine Zx (wpAny_point (Zx ?_));unfold deleteName;simp only[S,RZ];rw[Zl (by decide)];obtain⟨m,hn,O5⟩:=id d.loc;have C:j<O.length:=by rw[I.len];exact(Zk.mp F).1
 have mn:(m n).isSome=J:=by
  obtain⟨u,r,l⟩:=O5 j n .non F (by rw[Yh C]) (.inl D);rcases l with⟨_,l⟩ | ⟨k,_⟩
  ·rw[l];rfl
  ·rw[S]at k;rcases k with k | k<;>cases k
 refine Zx (wpAny_nsDel_keeps hn λh2 v Rf Mp=>?_);rw[mn];refine Zs (wpAny_point (h _ ?_));have t:=λb hb=>Mp.2 b hb;have th:∀b o,s1.heap.get? b=Y o->∃y,h2.get? b=Y y:=λb o e=>by
  by_cases z:b=X.env.locals
  ·subst z;obtain⟨y,_,_,q,_⟩:=Rf;exact⟨y,q⟩
  ·exact⟨o,(t b z).trans e⟩
 have TM:∀b o,X.s₀.heap.get? b=Y o->b≠X.env.locals:=λb o e=>Zi (Zc (Zf e) I.ok.above);have cellK:∀x c,X.env.cells.lookup x=Y c->∀v,s1.heap.IsCell c v->h2.IsCell c v:=λx c e v hq=>by
  obtain⟨o,ho,hd⟩:=hq;exact⟨o,(t c (I.Rn x c e)).trans ho,hd⟩
 refine⟨d.ok,d.os,d.bare,⟨λb o e n hb B=>(t b (TM b o e)).trans (d.base.keep b o e n hb B),λb o e n hb B=>?_,d.base.free,λb o e B=>?_,d.base.L3,d.base.LV,d.base.Ly⟩,⟨_,Rf,λi x w e1 e2 e3=>?_⟩,λx c e=>?_,d.free,d.KH,λp hp=>?_,(λb o e=>(d.D8 b o e).ML (λc u k q=>(t c λz=>by
  have f:=d.free;rw[← z]at f;rcases k with k | k
  ·rw[k,e]at f;cases f
  ·rw[k]at f;cases f).trans q) (λ_ q=>q) (λ_ _ q=>q) λ_ _ _ q=>q),by rw[ZF];exact I.len⟩
 ·obtain⟨sl,q⟩:=d.base.slot b o e n hb B;exact⟨sl,(t b (TM b o e)).trans q⟩
 ·obtain⟨y,q⟩:=d.base.there b o e B;exact th b y q
 ·have P:i≠j:=λz=>by
   subst z;rw[Yh C]at e2;cases e2
  rw[ZH (Z9 P)]at e2;obtain⟨u,r,l⟩:=O5 i x w e1 (by rw[ZH (Z9 P)];exact e2) e3;refine⟨u,r,?_⟩;rcases l with⟨k,l⟩ | ⟨k,c,e,z⟩
  ·refine .inl ⟨k,?_⟩;show (if x=n then v else m x)=Y u;rw[Zl (λz=>by
    subst z;exact P ((List.getElem?_inj (Zk.mp e1).1 U).mp (e1.trans F.symm)))]
   exact l
  ·exact .inr ⟨k,c,e,cellK x c e _ z⟩
 ·obtain⟨v,z⟩:=d.cell x c e;exact⟨v,cellK x c e v z⟩
 ·obtain⟨e,n,ne,r⟩:=d.pin p hp;exact⟨(t _ ne).trans e,n,ne,r⟩
end
noncomputable abbrev Cx.hand(X:Cx)(a:On):Cx:={ X with A:=X.A.mark (some (.ref a)),calm:=false,xe:=λ_ _=>False }
def uw{s:KB}(I:Inv X b O H s)(a:On):Inv (Cx.hand X a) b O H s :=
 have ok:=I.ok
 ⟨⟨ok.mod,ok.kind,ok.glob,ok.blt,ok.above,ok.inj,ok.has,ok.Sf,(λz=>nomatch z),ok.frames,ok.PH,ok.VJ,ok.tb,ok.bs,ok.OF,ok.NS,ok.Ot,ok.Ln,ok.Qw⟩,I.os,I.bare,I.base,I.loc,I.cell,I.free,I.KH,I.pin,I.D8,I.len⟩
def iB{X:Cx}(k:X.Ok)(I:Inv (Cx.hand X a) b O H s):Inv X b O H s :=
 ⟨k,I.os,I.bare,I.base,I.loc,I.cell,I.free,I.KH,I.pin,I.D8,I.len⟩
end XN
namespace VS
open PySem PySem.Spec PyProof.Rows L2 XN
noncomputable def JJ(j:Nat):Out->Out
 |.nx U=>.nx (U.set j M)
 |.rt v U=>.rt v (U.set j M)
 |.bk U=>.bk (U.set j M)
 |.ct U=>.ct (U.set j M)
def zC(b:LJ)(j:Nat)(d:Str->Option Nat)(e:Sx):Sx:=λU=>(b U).bind λo=>match o with
 |.ok o=>Y o
 |.ex x a=>(d x).bind λc=>if j<a.length then (e (a.set j (Y (.pu (.obj c []))))).map (JJ j) else M
section
def IL{G:Gx}{X:Cx}{body MR:List Stmt}{cb:LJ}{ch:Sx}{j:Nat}{mt:Str->Option Nat}{y n:Str}{C:PP}{np pos Nb:Pos}(MH:X.stack=X.env :: X.outer)(MB:X.env.frame=Y X.env.locals)(l:∀(W:Yy)(pn:Ym),oA G { X with xe:=W,pn:=pn } body cb)(hh:∀a,fK G (Cx.hand X a) (b₀ :: MR) ch)(hN:X.N.Nodup)(hj:X.N[j]?=Y n)(hl:X.env.scope.names.lookup n=Y .local)(hm:X.mg y=Y C)(hg:Gl X y)(K5:K3 y)(hmt:∀x c,mt x=Y c->X.mg x=Y (.ref (G.ec c))/\PySem.W.exmOne X.K (.ref (G.ec c)) C=Y true) :
  PSV G X (.Try body [.ExceptHandler (Y (.Name y np)) (Y n) (b₀ :: MR) Nb] [] [] pos) (zC cb j mt ch):=λh s O H Db I hq=>by
 refine L2.ah λP_ R=>?_;obtain⟨D,U,o,sr,e,k⟩:=hq;refine R ?_;refine wpAny_Try_except ?_;obtain⟨ox,e1,e2⟩:=Zz.mp e;generalize hW:(λ(e:PP) (s₁:KB)=>Pi (KF X.prog X.w) X.A (noteFrame e X.env) (λ_ s₂=>Pi (KF X.prog X.w) X.A (setFlight e M) (λ_ s₃=>Pi (KF X.prog X.w) X.A (handleBy e X.env [.ExceptHandler (Y (.Name y np)) (Y n) (b₀ :: MR) Nb]) (SP X h Db) X.xe s₃) X.xe s₂) X.xe s₁)=W;have back:∀{Nz:Ym}{B:L2.St}{m:Hp}{s':KB},Inv { X with xe:=W,pn:=X.pn++h } Nz B m s'->Inv X h B m s':=λJ=>⟨I.ok,J.os,J.bare,J.base,J.loc,J.cell,J.free,J.KH,λp hp=>J.pin p (YV _ hp),J.D8,J.len⟩
 refine Z4 (l W (X.pn++h) [] s O H Db (⟨⟨I.ok.mod,I.ok.kind,I.ok.glob,I.ok.blt,I.ok.above,I.ok.inj,I.ok.has,I.ok.Sf,I.ok.hd,I.ok.frames,I.ok.PH,I.ok.VJ,I.ok.tb,I.ok.bs,I.ok.OF,I.ok.NS,I.ok.Ot,I.ok.Ln,I.ok.Qw⟩,I.os,I.bare,I.base,I.loc,I.cell,I.free,I.KH,λp hp=>I.pin p (by simpa using hp),I.D8,I.len⟩) ⟨D,U,ox,sr,e1,?_⟩) (λf s1 P=>?_) λ_ _ z=>z
 ·cases ox with
  |ok o1 =>
   cases e2;exact k
  |ex x U1 =>
   obtain⟨c,ec,e3⟩:=Zz.mp e2;split at e3
   rotate_left
   ·cases e3
   rename_i Vw;refine L2.ah λP_ R=>?_;obtain⟨o2,e4,rfl⟩:=Zy.mp e3;obtain⟨mx,me⟩:=hmt x c ec;refine R ?_;intro D' B m sr' fr cls RZ Nz s1 a g J dm F;cases (mx.symm.trans RZ);have J1:=back J;have Q:Pw X h g s1.heap:=⟨dm.old,λp hp=>dm.pin p (YV _ hp),dm.new⟩
   have PH:=J1.stack;have frm:=J1.ok.frames;rw[MH]at PH frm;rw[← hW];refine xp (g:=g) (H:=m) frm PH MB (.inl L) Q.new (λb l=>J1.D8.fresh l) F λh1 m1 f1=>?_;have J2:=vT J1 m1 Q (λb l=>by rw[MH];exact l);have dm2:Pw X h g h1:=⟨Q.old,Q.pin,λb l=>Q.new b (ZW m1.sz l)⟩
   refine lY (fs:=L2.Lx X.stack) f1 λh2 m2 f2=>?_;have J3:=vT J2 m2 dm2 λb l=>l;have dm3:Pw X h g h2:=⟨Q.old,Q.pin,λb l=>dm2.new b (ZW m2.sz l)⟩
   refine L2.ah λP_ R=>?_;obtain⟨ga,Ha,oe,vs,he,⟨hc,Rg⟩,hd,_,_⟩:=id f2;refine R ?_;refine wpAny_handleBy_cons (codeAny_handlers_test (jK (uw J3 a) hg hm ?_ K5)) (λz=>nomatch z);refine(PySem.W.exm_one J3.LR (hc ▸ (PySem.W.Looks.ld he).andThen .now) me) _ _ _ _ (λ_ _ q=>q) ?_;refine codeAny_handlers_suite_as ?_;refine lY (fs:=L2.Lx X.stack) f2 λh3 m3 f3=>?_;refine L2.ah λP_ R=>?_;obtain⟨ga,Ha,oe,vs,he,⟨hc,Rg⟩,hd,_,_⟩:=f3;refine R ?_;have J5:=x9 (vT (s:={ s1 with heap:=h2 }) J3 m3 dm3 λb l=>l) (⟨Q.old,Q.pin,λb l=>dm3.new b (ZW m3.sz l)⟩) ga Ha he hd;refine k9 J5 hN hj (.inl hl) (v:=V.ref a) L (λs4 J6=>?_) (.inr hl);have sm:aG m (upd m a (.frz oe (.own a))):=λb o q=>by
    rw[ay λz=>by rw[z,Ha]at q;cases q];exact q
   have f5:Kq D U H (m8 D' j []) (U1.set j (Y (.pu (.obj c [])))) (upd m a (.frz oe (.own a))):=fr.trans ⟨λb o q nw=>⟨sm b o q,λz=>by
     rcases dF z with⟨_,z,_⟩ | z
     ·cases z
     ·exact nw z⟩,λb q z=>q ((sm.free z)),λb z=>by
     rcases dF z with⟨_,z,_⟩ | z
     ·cases z
     ·exact .inl z,λb z=>by
     rcases je z with⟨_,_,z⟩ | z
     ·cases z
     ·exact .inl z,Kept.of sm⟩
   have off:∀{E:VS.Env}{t:Kn}{i:L2.St}{d:Hp},SR G t E i d->j<E.length->SR G t (E.set j M) (i.set j M) d:=λq La=>(q.drop j).any (by rw[Yh La]) M;have S:∀{E:VS.Env}{t:Kn}{i:L2.St}{d:Hp},SR G t E i d->i.length=X.N.length->SR G t (E.set j M) (i.set j M) d:=λq hlen=>off q (by rw[q.len,hlen];exact(Zk.mp hj).1);refine Z4 (hh a h s4 _ _ { nx:=λi d=>i.length=X.N.length->Db.nx (i.set j M) d,rt:=λv d=>Db.rt v d,bk:=λi d=>i.length=X.N.length->Db.bk (i.set j M) d,ct:=λi d=>i.length=X.N.length->Db.ct (i.set j M) d } (uw J6 a) ⟨_,_,o2,((sr'.same sm).put (c:=.pu (.obj c [])) Vw (.exc (aA ..) ⟨hc,Rg,vs,hd⟩) (λ_ _ _ _ _ q=>q) (λ_ z=>nomatch z) (λ_ z=>nomatch z) λ_ _ _ _ _ _ z=>nomatch z),e4,?_⟩) (λf s6 P=>?_) λ_ _ z=>False.elim z
   ·cases o2 with
    |nx E=>exact λt i d q R6 hlen=>k t _ d (S q hlen) ((f5.trans R6).trans (Kq.drop j))
    |bk E=>exact λt i d q R6 hlen=>k t _ d (S q hlen) ((f5.trans R6).trans (Kq.drop j))
    |ct E=>exact λt i d q R6 hlen=>k t _ d (S q hlen) ((f5.trans R6).trans (Kq.drop j))
    |rt v E=>exact λu d F2 t i q R6 r rf=>k u d F2 t _ (q.drop j) ((f5.trans R6).trans (Kq.drop j)) r (rf.back f5)
   ·cases f with
    |next =>
     obtain⟨i,d,J,q⟩:=P;exact name_goes (iB I.ok J) hN hj hl λs' J'=>⟨_,d,J',q J.len⟩
    |brk =>
     obtain⟨i,d,J,q⟩:=P;exact name_goes (iB I.ok J) hN hj hl λs' J'=>⟨_,d,J',q J.len⟩
    |cont =>
     obtain⟨i,d,J,q⟩:=P;exact name_goes (iB I.ok J) hN hj hl λs' J'=>⟨_,d,J',q J.len⟩
    |ret u =>
     obtain⟨v,i,d,J,r,q⟩:=P;exact name_goes (iB I.ok J) hN hj hl λs' J'=>⟨v,_,d,J',r,q⟩
 ·cases f with
  |next =>
   obtain⟨B,m,J,q⟩:=P;exact X1 ⟨B,m,back J,q⟩
  |brk=>obtain⟨B,m,J,q⟩:=P;exact⟨B,m,back J,q⟩
  |cont=>obtain⟨B,m,J,q⟩:=P;exact⟨B,m,back J,q⟩
  |ret u=>obtain⟨v,B,m,J,r,q⟩:=P;exact⟨v,B,m,back J,r,q⟩
end
end VS
end
section
namespace XN
open PySem PySem.Spec PyProof.Rows L2 PySem.W
section
variable{A:SC}{K:Frag}
structure OG(K:Frag)(Db:On):Prop where
 ga:findIn K (.ref Db) "__getattribute__" = some (some (.builtin "BaseException.__getattribute__"))
 gn:findIn K (.ref Db) "__getattr__" = some none
 cl:findObj K Db none "__class__" = some (.bind (.builtin "getset_descriptor.__get__") (.builtin "object.__class__"))
 mo:mroIn K Db (.type "object")=some true
 mb:mroIn K Db (.type "BaseException")=some true
def zF{M:Model}(l:Looks M h (isInstance (.ref a) (.type "BaseException")) J)(i:Q () ⟨h,g,d,t,e⟩):Pi M A (checkBuiltinCall "BaseException.__getattribute__" ⟨[.ref a,f],[]⟩) Q E ⟨h,g,d,t,e⟩:=by
 have m:builtinKind "BaseException.__getattribute__" = Y .slot:=by decide +kernel
 have n:splitId "BaseException.__getattribute__" = Y ("BaseException", "__getattribute__"):=by decide +kernel
 have b:=F.args_bexc_ga (.ref a) f;refine Zx (l.at ?_);rw[Zl (by decide)];unfold argsOk at b;cases j:Manifest.signature? "BaseException.__getattribute__" with
 |none=>exact Zs i
 |some sig =>
  rw[j]at b;exact((congrArg (λz=>Pi M A z Q E ⟨h,g,d,t,e⟩) b).mpr (Zs i))
def yg{s:KB}(C:OG K Db)(X:K.In s.heap)(I:InstAt s.heap a oe Db none)(h:Q (Y (.ref Db)) { s with toks:=s.toks+1 }):Pi (KF prog w) A (getAttr? (.ref a) "__class__") Q E s:=by
 obtain⟨f,g,d,t,os⟩:=s;have e:=I.type (M:=KF prog w);have b:(Value.builtin "BaseException.__getattribute__" == Value.builtin "object.__getattribute__")=Z:=by decide +kernel
 refine Zx (wpAny_mkText (Zx (wpAny_attempt (ZC (Zx (e.at (Zx ((looks_findIn (M:=KF prog w) X C.ga).at ?_))))))));dsimp only;rw[b,Bool.and_false,Zl Za];unfold getAttrByItsOwn hookBefore callGetattribute;rw[Zm (show onTheHeap (Value.ref Db)=J from rfl)];refine Zx ((looks_findIn (M:=KF prog w) X C.gn).at (Zx (wpAny_attempt (ZC ?_))));rw[Bool.false_and,Zl Za];unfold boundAndCalled;rw[((PySem.F.attr_Exception).ga.bind (.ref a))];refine Zx (Zs ?_);refine XH (WZ (PySem.F.attr_Exception).ga.plain F.entry_bexc_ga (zF (e.andThen (looks_mroIn (M:=KF prog w) X C.mb)) ?_));refine Zx (Zs ?_);refine Zx (Zs (Zx (e.at (Zx ((looks_find (M:=KF prog w) X I C.cl).at ?_)))));refine Zx (ZC (XH (class_get X I C.mo (Zs ?_))));exact handed_on L (Zs h)
def Be(C:OG K Db):KitX K (.ref a) (.ref Db) (λh=>InstAt h a oe Db M):=by
 obtain⟨cd,i,_⟩:=Zz.mp C.mo;have at_:∃f e g,K.lookup Db=Y ⟨f,e,.cls cd,g⟩:=by
  unfold clsIn at i;split at i
  ·rename_i f e j g d;cases i;exact⟨f,e,g,d⟩
  ·cases i
 obtain⟨f,e,g,d⟩:=at_
 refine⟨λ_ _ _ I=>I.type,λ_ _ X _ v r t o k q=>?_,λh l p u n m X b=>?_,λX I k=>yg C X I k⟩
 ·exact Zx (wpAny_loadPart (k _ _ (X _ _ d)) (Zs q))
 ·refine Bool.eq_false_iff.mpr λq=>?_;cases Value.ref.inj (beq_iff_eq.mp q);rw[X _ _ d]at b;cases b
end
end XN
namespace VS
open PySem PySem.Spec PyProof.Rows L2 XN
noncomputable def lT(a:Nat->Option Bool)(d:Ex):Ex:=λU=>(d U).bind λv=>match v.2 with
 |.obj c []=>(a c).map λb=>(.fr,.bl b)
 |_=>M
def Ka(K:Xd)(u:V)(c:PP):List V->Hp->VK->Prop:=λd H Q=>∃a o Db b,d=[.ref a,u]/\H a=Y (.frz o (.own a))/\(o.cls=.ref Db/\o.dict=M/\∃d,o.data=.fields d)/\OG K Db/\PySem.W.kitOne K (.ref Db) c=Y b/\Q (.bl b) H
section
def Bp(g:∀z,RelV u z->z=c):cF X (.builtin "isinstance") (Ka X.K u c):=by
 intro d s O H n v Q I r h;refine L2.ah λA f=>?_;obtain⟨a,o,Db,b,rfl,i,⟨m,l,t,j⟩,C,e,q⟩:=h;obtain⟨w,p,rfl,r1,r2⟩:=vals2 r;cases (r1);cases g _ r2;obtain⟨hg,_⟩:=(I.D8 a _ i)
 refine f ?_;exact Yr (Be C) I.LR ⟨hg,m,by unfold PySem.W.notCls;rw[j],by rw[l];trivial⟩ e (λz=>nomatch z) λy=>⟨.bl b,H,I.tok _,rfl,q⟩
def Ad(B:PV G X a ca)(r:PE X (.Name x p2) (L2.tC u))(p:∀z,RelV u z->z=c)(hK:X.K=G.K)(A:Gl X "isinstance")(w:X.mg "isinstance" = M)(R:∀k b,tb k=Y b->OG X.K (G.ec k)/\PySem.W.kitOne X.K (.ref (G.ec k)) c=Y b)(h:P3 [a,.Name x p2] X.env=(Z,eval a X.env) :: P3 [.Name x p2] X.env)(S:P3 [.Name x p2] X.env=(Z,eval (.Name x p2) X.env) :: P3 [] X.env)(d:(backTo pos (P3 [Expr.Name x p2] X.env)).any (·.1)=Z) :
  PV G X (.Call (.Name "isinstance" p1) [a,.Name x p2] [] pos) (lT tb ca) :=
 PE.weak (lH (Bp p) A w boot_isinstance (bA B (bA r dQ S) h) (by decide) L h d) λO H Q q=>by
  refine L2.ah λP_ l=>?_;obtain⟨D,U,m,t,s,e,k⟩:=q;obtain⟨⟨j,y⟩,P,f⟩:=Zz.mp e;refine l ?_;split at f
  ·rename_i n o;obtain⟨b,N,e2⟩:=Zy.mp f;cases e2;obtain⟨E,C⟩:=R _ _ N;refine⟨D,U,j,y,s,P,λv H' F e1 r1 f1=>?_⟩;subst o;generalize g:T.obj n []=z at r1;cases r1 with
   |exc q1 i =>
    cases g;exact⟨_,_,_,b,rfl,q1,i,E,C,k _ H' _ e1 (.bl _) Fp.nil⟩
   |_=>cases g
  ·cases f
def Jv(i:PV G X a ca)(m:Gl X x)(n:X.mg x=Y (.ref Db))(p:K3 x)(j:X.K=G.K)(g:Gl X "isinstance")(f:X.mg "isinstance" = M)(l:∀k b,tb k=Y b->OG X.K (G.ec k)/\PySem.W.kitOne X.K (.ref (G.ec k)) (.ref Db)=Y b)(e:P3 [a,.Name x p2] X.env=(Z,eval a X.env) :: P3 [.Name x p2] X.env)(o:P3 [.Name x p2] X.env=(Z,eval (.Name x p2) X.env) :: P3 [] X.env)(d:(backTo pos (P3 [Expr.Name x p2] X.env)).any (·.1)=Z) :
  PV G X (.Call (.Name "isinstance" p1) [a,.Name x p2] [] pos) (lT tb ca):=Ad (u:=.ref Db) i (DX m n L p) (λ_ h=>h) j g f l e o d
def FU(j:PV G X a ca)(o:Gl X x)(p:X.mg x=M)(e:bootBuiltins x=Y (.type n))(r:x ≠ "__name__")(s:K3 x)(l:X.K=G.K)(i:Gl X "isinstance")(g:X.mg "isinstance" = M)(m:∀k b,tb k=Y b->OG X.K (G.ec k)/\PySem.W.kitOne X.K (.ref (G.ec k)) (.type n)=Y b)(f:P3 [a,.Name x p2] X.env=(Z,eval a X.env) :: P3 [.Name x p2] X.env)(q:P3 [.Name x p2] X.env=(Z,eval (.Name x p2) X.env) :: P3 [] X.env)(d:(backTo pos (P3 [Expr.Name x p2] X.env)).any (·.1)=Z) :
  PV G X (.Call (.Name "isinstance" p1) [a,.Name x p2] [] pos) (lT tb ca):=Ad (u:=.ty n) j (wx o p e L r s) (λ_ h=>h) l i g m f q d
end
end VS
end
section
namespace VS
open PySem PySem.Spec PyProof.Rows L2 XN PySem.F
noncomputable def zJ(x:Str)(a:KJ):LJ:=λU=>(a U).bind λl=>if l.length<=1000 then Y (.ex x U) else M
section
variable{st:Stmt}
def wF{X:Cx}(F:FnXt X.prog X.w X.K X.mg X.base k x ps G d)(g:D6 k' X.A)(j:Lj G X.L6 (e :: es) cs)(h:k<=k')(i:Gl X x)(q:K3 x)(he:K1 e es X)(a:K2 pos es X)(b:X.ex=[]):PVX G X (.Call (.Name x p) (e :: es) [] pos) (ie d cs):=by
 obtain⟨f,fd,o,n,m,l⟩:=F.ex;exact x_call o (g.mono h) i n m l j q he a b
def zP{X:Cx}(h:PySem.W.excIn X.K C [.type "ValueError",.type "Exception",.type "BaseException",.type "object"] "ValueError.__new__" = J)(i:X.mg x=Y (.ref C))(j:Gl X x)(l:X.calm=J)(m:Lj G X.L6 [e] cs)(n:K3 x)(g:K1 e [] X)(a:(backTo d (P3 [] X.env)).any (·.1)=Z)(b:X.ex=[]) :
  PSX G X (.Raise (Y (.Call (.Name x f) [e] [] d)) M pos) (zJ x cs):=x_raise excBase_ValueError (by decide +kernel) h i j l m n g a b
end
end VS
end
section
namespace L2
open PySem PySem.Spec PyProof.Rows
section
def Df:V->List V->Hp->VK->Prop:=λx b H Q=>∃l a i y,x=.ref l/\b=[.int i,y]/\H l=Y (.lst a)/\0<=i/\i<=a.length/\a.length<KM/\Q .non (upd H l (.lst (a.take i.toNat++y :: a.drop i.toNat)))
def yd:MtM X "list.insert" Df:=by
 intro a s O H x A v B Q I rx f h;refine L2.ah λG j=>?_;obtain⟨l,d,i,y,rfl,rfl,b,E,D,m,q⟩:=h;cases rx;obtain⟨u,w,rfl,g,o⟩:=f.two;obtain⟨t,rfl⟩:=g;obtain⟨z,p,n,r,hl,e⟩:=I.PZ b;refine j ?_;have C:d.length<2 ^ 63:=Zc m (by decide);refine call_meets F.slot_list_insert ⟨_,e,rfl⟩ F.entry_list_insert (F.args_list_insert_3 _ _ _)
  (AutoSeq1.list_insert_list_int_val_1 l p.toArray n i t w (by rw[fitsIndex_both (by omega) (by omega)];decide) (by rw[ZG];lia)) ⟨e,?_⟩
 refine⟨.non,_,I.TU b e ?_ ((r.take i.toNat).append (.cons o (r.drop i.toNat))) ?_,rfl,q⟩
 ·apply Array.toList_inj.mp;simp only[ZG];rw[Zl (by omega),Y3 (by omega)];simp;rw[Y1 (by rw[YA];exact Zn _)]
 ·rw[Zp,Ze,WE,YA];omega
end
end L2
end
section
namespace TS
open PySem PySem.Spec PyProof.Rows
variable{A:SC}
def y0(o:∀v∈f,∃x t,v=Value.str x t){d:Array Pv}(g:d.Perm (pairsOf f))(p:SortedToK strKind d (pairsOf f).size):((d.map (·.2)).toList.map strOf).Pairwise (λa b=>¬b.cps.toList<a.cps.toList):=by
 obtain⟨n,m⟩:=qx g;rw[X3,List.pairwise_iff_getElem];intro i j r l u;have key:∀i (h:i<(d.map _).toList.length),KK strKind d i=(strOf (d.map _).toList[i]).cps.toList:=λi h=>by
  have e:d[i]?=Y ((d.map _).toList[i],(d.map _).toList[i]):=by
   rw[← YX,← m,ZY,Zr h];rfl
  obtain⟨x,t,ex⟩:=o _ (n.mem_iff.mp (Yv h));unfold KK;rw[e];rw[ex];rfl
 have q:=p i j (YQ u) (by rw[← g.size_eq];simpa using l);rw[key i r,key j l]at q;exact of_decide_eq_false q
def qF(r:∀(m:SC)(u:Yy),m.handled=A.handled->Pi (KF prog w) m (collect x) (λd s1=>(∀v∈d,∃x t,v=Value.str x t)/\d.length<64/\∀(out:Wu)(g:UF)(e:Nat),out.Perm d->(out.map strOf).Pairwise (λa b=>¬b.cps.toList<a.cps.toList)->(∀b o,s1.heap.get? b=Y o->g.get? b=Y o)->g.get? s1.heap.objs.size=Y (seqObj "list" out.toArray e)->Q (.ref s1.heap.objs.size) { s1 with heap:=g }) u s) :
  Pi (KF prog w) A (call (.builtin "sorted") [x]) Q E s:=by
 refine Calls.call_function_entry kind_sorted plain_sorted entry_sorted (args_sorted1 _) (?_);refine Zx (Zs (Zx (Z4 (r _ (λ_ _=>False) L) ?_ λ_ _ e=>e.elim)));rintro n s1 ⟨f,q,h⟩;refine Zx (wpAny_newList ?_ (by rw[Y8];omega));have i:(s1.heap.push _).get? _=Y (seqObj "list" n.toArray 0):=Zh _ L;refine Zx (ZC (YJ slot_list_sort ⟨_,i,rfl⟩ entry_list_sort (list_sort_treeK strKind_oneLt i (strsAre_map _ f).keysOf (λz y rest e=>keyKind_strs (by rw[← e];exact strsAre_map _ f)) q λB l p=>⟨_,rfl,?_⟩) (args_list_sort _)));obtain⟨e,he⟩:=sortedHeap_at i;exact Zs ⟨_,rfl,h _ _ e (qx l).1 (y0 f l p) (λb o j=>by
  have hb:=Zf j;rw[sortedHeap_old (Zi hb) (by rw[size_push'];exact Z2 hb),Heap.get?_push_ne _ _ _ (Zi hb)];exact j) he⟩
end TS
namespace L2
open PySem PySem.Spec PyProof.Rows TS
section
def jZ{X:Cx}(S:X.calm=J):cF X (.builtin "sorted") (λz H Q=>∃p,∃(d:List Str)(g:List V),z=[.ref p]/\d.length<64/\d.length=g.length/\H p=Y (.dK ((d.map Sum.inr).zip g)) ∧
  ∀(l:On)(w:List Str),H l=M->w.Perm d->w.Pairwise (λa b=>¬b.cps.toList<a.cps.toList)->Q (.ref l) (upd H l (.lst (w.map V.str)))):=by
 intro A s O H z us Q I rx h;refine L2.ah λP_ N=>?_;obtain⟨p,d,g,rfl,SG,hl,P,q⟩:=h;obtain⟨u,rfl,G⟩:=rx.one;cases G;obtain⟨hz,U,B,rel,r⟩:=sO I.D8 P;obtain⟨ep,r⟩:=r.dictAt;refine N ?_;have m:B.length=d.length:=by
  have:=rel.length;grind
 refine TS.qF λA' E' hA=>PySem.W.kdu_collect (PySem.W.kdl_dict U) (hA.trans (I.ok.hd S)) r (by grind) λh' F acc kp D=>?_;have E:Inv X _ O H { s with heap:=h',toks:=F }:=I.kept kp;have n:acc.toList.length=d.length:=by rw[Z6,D.1,m]
 have each:∀i v,acc.toList[i]?=Y v->∃x t,v=Value.str x t/\d[i]?=Y x:=λi v f=>by
  rw[YX]at f;obtain⟨k,x,e1,e2⟩:=D.2 i v f;have e3:=(λi=>by
  have C:((B.map (·.1)))[i]?=(d.map (Sum.inr:Str->Key))[i]?:=by
   rw[← rel.keys];rw[WG (by simp_all)]
  rw[ZY,ZY]at C;exact C) i
  rw[e1]at e3;cases o:d[i]? with
  |none=>rw[o]at e3;cases e3
  |some y =>
   rw[o]at e3;have e5:=ZX e3;subst e5;obtain⟨t,rfl⟩:=Value.isStrOf_shape (e2);exact⟨y,t,rfl,o⟩
 have f:∀v∈acc.toList,∃x t,v=Value.str x t:=λv hm=>by
  obtain⟨i,R,e⟩:=List.getElem_of_mem hm;obtain⟨x,t,e1,_⟩:=each i v (by rw[Zr R,e]);exact⟨x,t,e1⟩
 have es:acc.toList.map strOf=d:=by
  apply Xa;intro i;rw[ZY];cases e:acc.toList[i]? with
  |none =>
   simp_all
  |some v =>
   obtain⟨x,t,rfl,e1⟩:=each i v e;rw[e1];rfl
 refine⟨f,by omega,λout h2 e j L P0 he=>?_⟩;exact⟨.ref _,_,E.laid P0 (Zn _) (show cR _ _ _ h2 _ (.lst _) from⟨(by rw[Zt,Zt,j.length_eq,n,Y8];omega),_,e,sQ (λv hm=>f v (j.mem_iff.mp hm)),he⟩),rfl,q _ _ (E.D8.fresh (Zn _)) (by rw[← es];exact j.map _) L⟩
end
end L2
namespace VS
open PySem PySem.Spec PyProof.Rows L2
section
def jq:W5->W6
 |[(_,.dct 0 l)]=>(strs? (l.map (·.1))).bind λa=>if a.length<64/\a.all Sq=J then Y (.fr,.lst ((ip a).map .str)) else M
 |_=>M
def Bh:eD G (λi H Q=>∃p,∃(d:List Str)(f:List V),i=[.ref p]/\d.length<64/\d.length=f.length/\H p=Y (.dK ((d.map Sum.inr).zip f)) ∧
  ∀(l:On)(g:List Str),H l=M->g.Perm d->g.Pairwise (λa b=>¬b.cps.toList<a.cps.toList)->Q (.ref l) (upd H l (.lst (g.map V.str)))) jq:=by
 intro D U C H l f E m t Q A e k;unfold jq at e;split at e
 ·rename_i y x;obtain⟨d,e1,e2⟩:=Zz.mp e;split at e2
  ·rename_i hb;refine L2.ah λz q=>?_;cases e2;obtain⟨v,F,rfl,rfl,rx⟩:=(A.rp).one;obtain⟨a,o,h,j,Gs,rfl,rfl,u,hl,rfl,n⟩:=fh rx;refine q ?_;have B:o.length=j.length:=by rw[hl,n.len.1]
   rw[(WG (by simp_all))]at e1;have w:=keys_str e1;refine⟨a,_,h,rfl,by rw[Zt];exact hb.1,?_,by rw[← w];exact u,Aq k A.same λs r=>Hj (ZS.mp hb.2 s r)⟩;grind
  ·cases e2
 ·cases e
def xE{X:Cx}(a:X.mg "sorted" = M)(f:Lj G X [e] cs)(b:{`q2,Gl X "sorted"})(g:{`q2,X.K=G.K})(d:{`q2,X.calm=J})(he:{`q2,K1 e [] X}):PV G X (.Call (.Name "sorted" p) [e] [] pos) (eN jq cs) :=
 iU (jZ d) Bh b a p5 f (he:=he)
end
noncomputable def Vr:T->Bool
 |.bl true=>J
 |_=>Z
mutual
def iq:T->Bool
 |.tup l=>bY l
 |.lst l=>bY l
 |.dct _ l=>t5 l
 |.obj _ l=>lJ l
 |_=>J
def bY:W7->Bool
 |[]=>J
 |t :: r=>iq t&&bY r
def t5:List (T×T)->Bool
 |[]=>J
 | (_,v) :: r=>iq v&&t5 r
def lJ:List (Nat×T)->Bool
 |[]=>J
 | (n,v) :: r=>(iq v && !(n==0&&Vr v))&&lJ r
end
theorem hU:∀{b:W7}{a:W7},b.length=a.length->t5 (b.zip a)=J->bY a=J
 |[],[],_,_=>rfl
 |_ :: _,[],h,_=>nomatch h
 |[],_ :: _,h,_=>nomatch h
 |k :: b,t :: a,h,e=>by
  have e:=ZZ.mp (e);exact ZZ.mpr ⟨e.1,hU (WX h) e.2⟩
theorem g7:∀{b:Wa}{a:W7},b.length=a.length->lJ (b.zip a)=J->bY a=J
 |[],[],_,_=>rfl
 |_ :: _,[],h,_=>nomatch h
 |[],_ :: _,h,_=>nomatch h
 |k :: b,t :: a,h,e=>by
  have e:=ZZ.mp (e);exact ZZ.mpr ⟨(ZZ.mp e.1).1,g7 (WX h) e.2⟩
section
variable{H:Hp}
theorem Rp.at{v:V}(m:Me)(r:Rp G H v t F):iq t=J->Rp (G.at m) H v t F :=
 Rp.rec (G:=G) (H:=H) (motive_2:=λvs e Fs _=>bY e=J->RpL _ H vs e Fs)
  (λ_=>.non) (λb _=>.bl b) (λi _=>.int i) (λs h _=>.str s h) (λh _=>.scr h) (λh _ d f=>.tup h (d f)) (λh _ d f=>.lst h (d f))
  (λh l q d f=>.dct h l (d (hU (by rw[Zt,l];exact q.len.1) f))) (λh l q d f=>.dctT h l (d (hU (by rw[Zt,l];exact q.len.1) f)))
  (λh l n q d f=>.dctN h l n (d (hU (by rw[Zt,l];exact q.len.1) f))) (λh l q d f=>.dctZ h l (d (hU (by rw[Zt,l];exact q.len.1) f))) (λh o _=>.exc h o)
  (λ{c a w b u vs e Fs} h l p q d f=>by
   have f:=ZZ.mp (f);have hb:b=Z:=by
    cases b with
    |false=>rfl
    |true=>exact nomatch f.1
   refine .ins h l (λz=>?_) (d (g7 (by rw[l];exact q.len.1) f.2));rw[hb]at z;cases z)
  (λ_ _ _ f=>nomatch f)
  (λ_=>.nil) (λ_ _ j g f=>by
   have f:=ZZ.mp f;exact .cons (j f.1) (g f.2)) r
theorem RpL.at(m:Me):∀{vs:List V}{a:W7}{Fs:Ye},RpL G H vs a Fs->bY a=J->RpL (G.at m) H vs a Fs:=by
 intro vs a
 induction a generalizing vs with
 |nil=>intro Fs r f;cases r;exact .nil
 |cons t a b =>
  intro Fs r f;cases r with
  |cons r q=>exact .cons (r.at m (ZZ.mp f).1) (b q (ZZ.mp f).2)
mutual
theorem oJ:∀t:T,Ko t=J->iq t=J
 |.non,_=>rfl
 |.bl _,_=>rfl
 |.int _,_=>rfl
 |.str _,_=>rfl
 |.scr _,_=>rfl
 |.tup l,h=>xH l h
 |.lst _,h=>by cases h
 |.dct _ _,h=>by cases h
 |.obj _ _,h=>by cases h
theorem xH:∀l:W7,fD l=J->bY l=J
 |[],_=>rfl
 |t :: l,h=>by
  have h:=ZZ.mp h;exact ZZ.mpr ⟨oJ t h.1,xH l h.2⟩
end
end
def yO(k:Nat):T->Option T
 |.obj (_+1) (_ :: fs)=>(fs.findIdx? λp=>p.1==k).bind λi=>(fs[i]?).map (·.2)
 |_=>M
def cI(k:Nat)(a:Ex):Ex:=λU=>(a U).bind λx=>(yO k x.2).map λt=>sub x.1 t
section
def w_fld{X:Cx}(J:mM G)(F:MD G X.K k f)(ha:PV G X a ca)(r:{`q8,XAA a f X.env (eval a X.env)=eval a X.env}):PV G X (.Attribute a f pos) (cI k ca) :=
 PE.weak (BU ha r) λO H Q hq=>by
  refine L2.ah λP_ h=>?_;obtain⟨D,U,m,t,s,e,S⟩:=hq;obtain⟨⟨R,y⟩,ea,e1⟩:=Zz.mp e;obtain⟨z,d,e2⟩:=Zy.mp e1;refine h ?_;refine⟨D,U,R,y,s,ea,λv H' F' P r1 f1=>?_⟩;unfold yO at d;split at d
  ·rename_i c q0 fs hy;refine L2.ah λP_ h=>?_;subst hy;obtain⟨j,w,e3⟩:=Zz.mp d;obtain⟨p,h2,e4⟩:=Zy.mp e3;subst e4;obtain⟨c',a,dx,b,ns,vs,N,Fs,ec,rfl,rfl,rfl,rfl,hA,hl,r,q⟩:=gF r1;cases ec;obtain⟨l,x0,B,A,g3,g4⟩:=lD (λn=>n==k) (hl.trans q.len.1) w;have ek:l=k:=by simpa using g3
   subst ek;have ep:p=(l,x0):=by
    have:(ns.zip N)[j]?=Y (l,x0):=by rw[YI];exact⟨B,A⟩
    simp_all
   subst ep;obtain⟨u,Fi,L,E,g⟩:=q.get j A;refine h ?_;have C:=tm (G:=G) (c:=c+1) J hl w B L;rw[F.nm c]at C;refine⟨a,_,dx,_,u,rfl,hA,F.cl c,F.no c,C,?_⟩;have fp:=((f1.sub (YO _ _)).sub (bM E)).up g;unfold VS.sub at e2;rw[e2]at fp;have et:x0=t:=congrArg Prod.snd e2;rw[et]at g;exact S u H' Fi P g fp
  ·cases d
def xD(i k:Nat)(e:Ex)(U:VS.Env):Option Out:=(e U).bind λv=>match U[i]? with
 |some (some (.ow (.obj (c+1) (q :: fs))))=>(fit v).bind λt=>if fs.length<900/\(fs.all λp=>!(p.1==k))=J then Y (.nx (U.set i (Y (.ow (.obj (c+1) (q :: (fs++[(k,t)]))))))) else M
 |_=>M
theorem sJ{k:Nat}{v:V}(J:∀k l:Nat,g k=g l->k=l):∀{b:Wa}{d:List V}{j:W7},b.length=d.length->b.length=j.length->((b.zip j).all λp=>!(p.1==k))=true->jk (g k) v ((b.map g).zip d)=((b++[k]).map g).zip (d++[v])
 |[],[],_,_,_,_=>rfl
 |[],_ :: _,_,h,_,_=>by simp at h
 |_ :: _,[],_,h,_,_=>by simp at h
 |_ :: _,_ :: _,[],_,h,_=>by simp at h
 |t :: b,r :: d,s :: j,q,n,m=>by
  rw[ZP,Xh,ZJ]at m;rw[Zg,ZP,jk,Zl (λz=>by
   grind),sJ J (by simpa using q) (by simpa using n) m.2]
  rfl
def va{X:Cx}{pos:Pos}(i k:Nat)(J:mM G)(F:MD G X.K k f)(he:PV G X e ce)(hN:X.N[i]?=Y x)(hv:Ni X.env.scope x)(hd:K3 x)(KQ:K4 x)(hs:swapsWith e (Y (.Attribute (.Name x p1) f pos')) pos.line X.env=pure Z):PSV G X (.Assign [.Attribute (.Name x p1) f pos'] e pos) (xD i k ce) :=
 PS.weak (Hh (dS hN hv hd KQ) he hs) λDb O H hq=>by
  obtain⟨D,U,out,s,e,kq⟩:=hq;obtain⟨⟨mv,j⟩,ev,e⟩:=Zz.mp e;split at e
  ·rename_i c q0 fs u;obtain⟨t,et,e⟩:=Zz.mp e;cases (nK et);split at e
   ·rename_i l;cases e;obtain⟨v,B,g2⟩:=s.rp _ _ u;refine⟨D,U,_,j,s,ev,λy Q R q ry n=>⟨v,B,?_⟩⟩;refine L2.ah λP_ k_=>?_;obtain⟨c',a,L,b,ns,vs,p,Fs,ec,rfl,rfl,rfl,E,w,hl,hb,r⟩:=gF g2;cases ec;refine k_ ?_;have nd:=s.nd i _ u;rw[E]at nd;have A:=Zd.mp nd;have d:=q a _ w;have m1:Kv (Q a):=by rw[d];exact True.intro
    have P:=hl.trans r.len.1;have na:a∉R:=λz=>by rw[n.2 a z]at w;cases w
    refine⟨a,_,L,_,rfl,d,F.cl c,F.no c,(by
     have:=l.1;rw[YS]at this ⊢;rw[Zt];lia),?_⟩
    have C:=sJ (k:=k) (v:=y) (J (c+1)) hl P l.2;rw[F.nm c]at C;rw[C];have off:=λh hb hw=>Kv.pe (r.KC h hb) (n.2 h hw);have g:Chg G H (.ref a) (D i) (.obj (c+1) ((0,.bl b) :: (ns.zip p++[(k,j)]))) (upd Q a (.ins (G.ct (c+1)).1 L (((ns++[k]).map (G.ct (c+1)).2).zip (vs++[y])))) (a :: (Fs++[R]).flatten):=by
     rw[E,show ns.zip p++[(k,j)]=(ns++[k]).zip (p++[j]) from by rw[List.zip_append P];rfl];refine Chg.upd q Zv m1 (.ins aA (by simp[hl]) hb (((r.same q).off m1 A.1).append (.cons (ry.keep (Kept.upd (.inl m1)) λh hb o ho=>by rw[ay (λz=>na (by rw[← z];exact hb))];exact ho) .nil))) ?_ ?_
     ·rw[Yd];refine Zd.mpr ⟨λm=>?_,ZR.mpr ⟨A.2,by simpa using n.1,λb hb c l z=>?_⟩⟩
      ·rcases ZU.mp m with m | m
       ·exact A.1 m
       simp_all
      ·subst z;exact off b hb (by simpa using l)
     ·intro h hb;rcases Zj.mp hb with rfl | hb
      ·exact .inl Zv
      ·rw[Yd]at hb;rcases ZU.mp hb with hb | hb
       ·simp_all
       ·exact .inr (n.2 h (by simpa using hb))
    obtain⟨z1,S⟩:=s.mut u B g;exact kq _ O _ z1 S
   ·cases e
  ·cases e
end
noncomputable abbrev vP:=List (Nat×T)
noncomputable def PR(a:On):Me:=λk=>if k=0 then Y (.ref a) else M
abbrev Mt:=vP->W7->Option (vP×T)
noncomputable def Lf:List Bool->Ye->X6
 |b :: bs,F :: a=>(if b then F else [])++Lf bs a
 |_,_=>[]
noncomputable def NP:List Bool->Ye->X6
 |b :: bs,F :: a=>(if b then [] else F)++NP bs a
 |_,_=>[]
theorem gr:∀{mv:List Bool}{e:Ye}{j:Nat}{F:X6},mv[j]?=Y J->e[j]?=Y F->F.Sublist (Lf mv e)
 |[],_,_,_,h,_=>by simp at h
 |_ :: _,[],_,_,_,h=>by simp at h
 |b :: bs,f :: e,0,F,d,a=>by
  simp at d a;subst d a;rw[Lf,Zm L];grind
 |b :: bs,f :: e,j+1,F,d,a=>by
  rw[Lf];exact(gr (by simpa using d) (by simpa using a)).trans (X2 _ _)
theorem qY:∀{mv:List Bool}{e:Ye}{j:Nat}{F:X6},mv[j]?=Y Z->e[j]?=Y F->F.Sublist (NP mv e)
 |[],_,_,_,h,_=>by simp at h
 |_ :: _,[],_,_,_,h=>by simp at h
 |b :: bs,f :: e,0,F,d,a=>by
  simp at d a;subst d a;rw[NP]
  simp_all
 |b :: bs,f :: e,j+1,F,d,a=>by
  rw[NP];exact(qY (by simpa using d) (by simpa using a)).trans (X2 _ _)
theorem wR:∀{mv:List Bool}{d:Ye}{i j:Nat}{F m:X6},(Lf mv d).Nodup->mv[i]?=Y J->mv[j]?=Y J->d[i]?=Y F->d[j]?=Y m->i≠j->∀a∈F,a∉m
 |[],_,_,_,_,_,_,h,_,_,_,_=>by simp at h
 |_ :: _,[],_,_,_,_,_,_,_,h,_,_=>by simp at h
 |b :: bs,q :: d,0,0,F,m,_,_,_,_,_,n=>absurd L n
 |b :: bs,q :: d,0,j+1,F,m,nd,l,g,f,e,n=>λa o p=>by
  simp at l f;subst l f;rw[Lf,Zm L,ZR]at nd;exact nd.2.2 a o a ((gr (by simpa using g) (by simpa using e)).subset p) L
 |b :: bs,q :: d,i+1,0,F,m,nd,l,g,f,e,n=>λa o p=>by
  simp at g e;subst g e;rw[Lf,Zm L,ZR]at nd;exact nd.2.2 a p a ((gr (by simpa using l) (by simpa using f)).subset o) L
 |b :: bs,q :: d,i+1,j+1,F,m,nd,l,g,f,e,n=>by
  rw[Lf,ZR]at nd;exact wR nd.2.1 (by simpa using l) (by simpa using g) (by simpa using f) (by simpa using e) (by lia)
theorem xC:∀{mv:List Bool}{d:Ye}{a:On},a∈Lf mv d->∃(j:Nat)(F:X6),mv[j]?=Y J/\d[j]?=Y F/\a∈F
 |[],_,_,h=>by simp[Lf]at h
 |_ :: _,[],_,h=>by simp[Lf]at h
 |b :: bs,l :: d,a,h=>by
  rw[Lf]at h;rcases ZU.mp h with h | h
  ·cases b with
   |true=>exact⟨0,l,rfl,rfl,h⟩
   |false=>simp at h
  ·refine L2.ah λm e=>?_;obtain⟨j,F,i,g,f⟩:=xC h;refine e ?_;exact⟨j+1,F,by simpa using i,by simpa using g,f⟩
noncomputable def oY(b:Bool)(t:T):W4:=Y (if b then .ow t else .pu t)
def zY(c:Nat)(U:VS.Env):Option vP:=match (U[(0:Nat)]?:Option (W4)) with
 |some (some (.ow (.obj a ((0,.bl true) :: fs))))=>if a=c+1 then Y fs else M
 |_=>M
def NT(c e g:Nat)(f:List Bool)(a:Sx):Mt:=λfs b=>if b.length+1=e/\f.length=b.length then
 (a ((Y (.ow (.obj (c+1) ((0,.bl J) :: fs))) :: List.zipWith oY f b)++List.replicate (g-e) M)).bind λo=>match o with
  |.rt v U=>(zY c U).bind λd=>if Ko v.2 then Y (d,v.2) else M
  |.nx U=>(zY c U).map λd=>(d,.non)
  |_=>M else M
def PJ(G:Gx)(c:Nat)(d:List Bool)(g:Mt):Sp:=λl H Q _=>∃(a:On)(i:List V)(fs:vP)(f:W7)(F:X6)(e:Ye)(j:vP)(x:T),l=.ref a :: i/\Rp (G.at (PR a)) H (.ref a) (.obj (c+1) ((0,.bl J) :: fs)) F ∧
 RpL (G.at (PR a)) H i f e/\d.length=f.length/\(F++Lf d e).Nodup/\(∀b∈F++Lf d e,b∉NP d e)/\g fs f=Y (j,x) ∧
 ∀u h m,Chg (G.at (PR a)) H (.ref a) (F++Lf d e) (.obj (c+1) ((0,.bl J) :: j)) h m->Rp (G.at (PR a)) h u x []->Q u h
section
variable{H:Hp}
def tu{f:List Bool}(r0:Rp G H v t F)(r:RpL G H D d g)(hm:f.length=d.length)(q:(F++Lf f g).Nodup)(S:∀b∈F++Lf f g,b∉NP f g)(n U:Nat)(hn:U=D.length+1) :
  SR G (λi=>(F :: g).getD i []) ((Y (.ow t) :: List.zipWith oY f d)++List.replicate (n-(d.length+1)) M) ((v :: D).map Y++List.replicate (n-U) M) H ∧
  ∀a,bD (λi=>(F :: g).getD i []) ((Y (.ow t) :: List.zipWith oY f d)++List.replicate (n-(d.length+1)) M) a->a∈F++Lf f g:=by
 subst hn;have hl:=r.len;have N:(List.zipWith oY f d).length=d.length:=by simp_all
 have back:∀{i:Nat}{c:Cell},((Y _ :: List.zipWith _ f d)++List.replicate (n-(d.length+1)) M)[i]?=Y (Y c)->(i=0/\c=.ow t)\/∃(j:Nat)(b:Bool)(u:T),i=j+1/\f[j]?=Y b/\d[j]?=Y u/\c=(if b then .ow u else .pu u):=λ{i c} h=>by
  cases i with
  |zero=>exact .inl ⟨rfl,(ZX (ZX h)).symm⟩
  |succ j =>
   rw[XT,List.getElem?_cons_succ]at h;by_cases E:j<d.length
   ·rw[Z0 (by rw[N];exact E),List.getElem?_zipWith]at h;have e1:=Zr (by rw[hm];exact E);have e2:=Zr E;rw[e1,e2]at h;exact .inr ⟨j,_,_,rfl,e1,e2,(ZX (ZX h)).symm⟩
   ·rw[Z8 (by rw[N];exact Z1 E),Yk]at h;split at h<;>cases h
 have fp:∀{j:Nat}{u:T},d[j]?=Y u->∃w p,D[j]?=Y w/\g[j]?=Y p/\Rp G H w u p:=λ{j u} h=>r.get j h;have ow:∀{i:Nat}{u:T},((Y _ :: List.zipWith oY f d)++List.replicate _ _)[i]?=Y (Y (.ow u))->i=0\/∃j:Nat,i=j+1/\f[j]?=Y J/\d[j]?=Y u:=λ{i u} h=>by
  rcases back h with⟨x,l⟩ | ⟨j,b,R,x,l,s,A⟩
  ·exact .inl x
  ·cases b with
   |true=>simp_all
   |false=>cases A
 rw[ZR]at q;refine⟨⟨?_,λi c h=>?_,λi u h=>?_,λi j u c x l n=>?_⟩,λa ⟨i,u,x,l⟩=>?_⟩
 ·simp[N];lia
 ·rcases back h with⟨rfl,rfl⟩ | ⟨j,b,u,rfl,l,s,A⟩
  ·exact⟨v,rfl,r0⟩
  ·obtain⟨w,p,y,e,B⟩:=fp s;refine⟨w,?_,?_⟩
   ·rw[Zg,XT,List.getElem?_cons_succ,Z0 (by rw[Zt];exact(Zk.mp y).1),ZY,y];rfl
   ·rw[Xl,Zo,e,A];cases b<;>exact B
 ·rcases ow h with rfl | ⟨j,rfl,l,s⟩
  ·exact q.1
  ·obtain⟨w,p,y,e,B⟩:=fp s;rw[Xl,Zo,e];exact q.2.1.sublist (gr l e)
 ·rcases ow x with rfl | ⟨i',rfl,Q,a3⟩
  ·rcases back l with⟨rfl,_⟩ | ⟨j',b,R,rfl,C,P,_⟩
   ·exact absurd L n
   ·obtain⟨w,p,y,e,B⟩:=fp P;intro a m;rw[Xl,Zo,e];intro o;cases b with
    |true=>exact q.2.2 a m a ((gr C e).subset o) L
    |false=>exact S a (YV _ m) ((qY C e).subset o)
  ·obtain⟨w,Fi,y,e,B⟩:=fp a3;have ei:(F :: g).getD (i'+1) []=Fi:=by simp_all
   show ∀a∈(F :: g).getD _ [],_;rw[ei];rcases back l with⟨rfl,_⟩ | ⟨j',b,R,rfl,C,P,_⟩
   ·exact λa m o=>q.2.2 a o a ((gr Q e).subset m) L
   ·obtain⟨w',p,k1,O,k3⟩:=fp P;intro a m;rw[Xl,Zo,O];intro o;cases b with
    |true=>exact wR q.2.1 Q C e O (λz=>n (by rw[z])) a m o
    |false=>exact S a (ZL _ ((gr Q e).subset m)) ((qY C O).subset o)
 ·rcases ow x with rfl | ⟨j,rfl,s,A⟩
  ·exact YV _ l
  ·obtain⟨w,p,y,e,B⟩:=fp A;have X:a∈(F :: g).getD _ []:=l;rw[Xl,Zo,e]at X;exact ZL _ ((gr s e).subset X)
def zQ(h:zY c U=Y d):U[0]?=Y (Y (.ow (.obj (c+1) ((0,.bl J) :: d)))):=by
 delta zY at h
 revert h;generalize U[0]?=o;intro h;rcases o with _ | _ | _ | t
 iterate 3 cases h
 cases t with
 |obj a l =>
  rcases l with _ | ⟨⟨_ | n,x⟩,r⟩
  ·cases h
  ·cases x with
   |bl b =>
    cases b
    ·cases h
    ·by_cases e:a=c+1
     ·subst e;cases (Zm rfl).symm.trans h;rfl
     ·cases (Zl e).symm.trans h
   |_=>cases h
  ·cases h
 |_=>cases h
end
section
variable{K:Xd}
def J8{G:Gx}{R:List Str}(ok:∀{sp:Sp},(∀i H Q E,sp i H Q E->i.length=R.length)->(∀(x:PP)(A:SC)(outer:List PySem.Env)(s:KB)(H:Hp)(i:List V)(Q:VK)(E:XK),D6 k (A.deeper (envOfC d (ak m) s.heap.objs.size f x))->sp i H Q E →
   ∃t,Mr (gP Lc P w K mg base N d (ak m) f x A outer s H E).L6 (aT m) t/\t { nx:=λ_ g=>Q .non g,rt:=Q } (L2.start N i) H)->FnOk P w K mg base Lc (k+1) f fd R sp)(hp:R.length=np)(hn:N.length=S)(hb:∀(a:On)(x:PP)(A:SC)(outer:List PySem.Env)(s:KB)(H:Hp)(E:XK),D6 k (A.deeper (envOfC d (ak m) s.heap.objs.size f x))->fK (G.at (PR a)) (gP Lc P w K mg base N d (ak m) f x A outer s H E).L6 (aT m) j) :
  FnOk P w K mg base Lc (k+1) f fd R (PJ G c mv (NT c np S mv j)):=by
 refine ok (λi H Q E h=>?_) λx A outer s H i Q E hr h=>?_
 ·refine L2.ah λP_ l=>?_;obtain⟨a,O,fs,ts,F,Fs,NG,y,rfl,r0,r,hm,nd,sp,e,q⟩:=h;refine l ?_;unfold NT at e;split at e
  ·rename_i hl;rw[Ze,r.len.1,hl.1,hp]
  ·cases e
 ·refine L2.ah λP_ l=>?_;obtain⟨a,O,fs,ts,F,Fs,NG,y,rfl,r0,r,hm,nd,sp,e,q⟩:=h;refine l ?_;refine⟨_,hb a _ A _ s H E hr,?_⟩;unfold NT at e;split at e
  ·rename_i hl;obtain⟨o,e1,e2⟩:=Zz.mp e;obtain⟨s0,Oi⟩:=tu r0 r hm nd sp S _ L;rw[hl.1]at s0 Oi;have e3:L2.start N (V.ref a :: O)=(V.ref a :: O).map Y++List.replicate (S-(O.length+1)) M:=by
    unfold L2.start;rw[hn];rfl
   rw[e3];have fin:∀{p:VS.Env}{X:Kn}{U:L2.St}{g:Hp},zY c _=Y _->SR (G.at (PR a)) _ _ U g->Kq _ _ H _ p g →
     Chg _ H _ _ (.obj _ ((0,.bl _) :: NG)) g (X 0):=λ{p X U g} RV n fr=>by
    have h0:=zQ RV;refine L2.ah λP_ l=>?_;obtain⟨v',g1,g2⟩:=n.rp 0 _ h0;have SH:=g2;obtain⟨c',a',dx,b,ns,i,Mg,MI,ec,rfl,eb,_,eF,hA,hl',D,ra⟩:=gF SH;have Pp:b=J:=by cases eb;rfl
    cases (D Pp);refine l ?_;refine⟨fr.kept,λC o' D ho=>(fr.keep C o' ho λz=>D (Oi C z)).1,fr.KC,SH,n.nd 0 _ h0,λC D=>?_⟩;rcases fr.ow C ⟨0,_,h0,D⟩ with z | z
    ·exact .inl (Oi C z)
    ·exact .inr z
   refine⟨_,_,o,s0,e1,?_⟩;cases o with
   |nx p =>
    refine L2.ah λP_ l=>?_;obtain⟨fs2,e4,B⟩:=Zy.mp e2;cases B;refine l ?_;intro X U g n fr;exact q _ g _ (fin e4 n fr) .non
   |rt v p =>
    obtain⟨fs2,e4,B⟩:=Zz.mp e2;split at B
    ·rename_i hi;cases B;intro u g F' X U n fr r' rf;have:=r'.Ko hi;subst this;exact q u g _ (fin e4 n fr) r'
    ·cases B
   |bk p=>cases e2
   |ct p=>cases e2
  ·cases e
def fnM{G:Gx}(F:Ku K x d g f n)(S:bt N h (ak g))(p:h.length=i)(q:N.length=j)(r:∀(a:On)(o:PP)(A:SC)(outer:List PySem.Env)(s:KB)(H:Hp)(E:XK),D6 k (A.deeper (envOfC d (ak g) s.heap.objs.size f o))->fK (G.at (PR a)) (gP Lc P w K mg base N d (ak g) f o A outer s H E).L6 (aT g) e) :
  FnOk P w K mg base Lc (k+1) f n h (PJ G c m (NT c i j m e)):=J8 (λl b=>F.ok S l b) p q r
end
def argsOk:List Bool->W5->Bool
 |[],[]=>J
 |b :: bs,v :: a=>(if b then v.1 == .fr else Ko v.2)&&argsOk bs a
 |_,_=>Z
def El(c:Nat)(e:List Bool)(g:Mt)(a:W5):T->Option (T×Val)
 |.obj d ((0,.bl b) :: fs)=>if d=c+1/\lJ fs=J/\argsOk e a=J/\bY (trees a)=J then (g fs (trees a)).bind λz=>if lJ z.1=J/\Ko z.2=J then Y (.obj d ((0,.bl b) :: z.1),(.fr,z.2)) else M else M
 |_=>M
def cL(i:Nat)(a:List NI)(c:Nat)(d:List Bool)(g:Mt)(f:KJ)(U:VS.Env):Option (Val×VS.Env):=match (U[i]?:Option (W4)) with
 |some (some (.ow t))=>(keys a U).bind λe=>(f U).bind λb=>(pm (El c d g b) e t).map λz=>(z.2,U.set i (Y (.ow z.1)))
 |_=>M
def tX(G:Gx)(x:Xx):TE:=λO H Q=>∃D U v b,SR G D U O H/\x U=Y (v,b)/\Ko v.2=J/\∀u a d,SR G d b O a->Kq D U H d b a->Rp G a u v.2 []->Q u a
def PX(G:Gx)(X:Cx)(e:Expr)(x:Xx):Prop:=PE X e (tX G x)
theorem o6:∀{mv:List Bool}{a:W5},argsOk mv a=J->mv.length=a.length
 |[],[],_=>rfl
 |[],_ :: _,h=>nomatch h
 |_ :: _,[],h=>nomatch h
 |b :: bs,v :: d,h=>by
  rw[Ze,Ze,o6 (ZZ.mp h).2]
theorem um:∀{mv:List Bool}{d:W5}{Fs:Ye},argsOk mv d=J->(Lf mv Fs).Sublist (Lx d Fs)
 |[],[],_,_=>by simp[Lf]
 |[],_ :: _,_,h=>nomatch h
 |_ :: _,[],_,h=>nomatch h
 |b :: bs,v :: e,[],h=>by simp[Lf]
 |b :: bs,(m,t) :: e,F :: Fs,h=>by
  have h:=ZZ.mp h;have a:=um (Fs:=Fs) h.2;rw[Lf];cases b with
  |true =>
   have:m=.fr:=by simpa using h.1
   subst this;exact List.Sublist.append (WR _) a
  |false =>
   rw[Zl Za,XJ];cases m with
   |fr=>exact a.trans (X2 _ _)
   |pu=>exact a
   |bo=>exact a
theorem wj:∀{mv:List Bool}{a:W5}{e:List V}{d:Ye},argsOk mv a=J->RpL G H e (trees a) d->NP mv d=[]
 |[],[],_,_,_,_=>by simp[NP]
 |[],_ :: _,_,_,h,_=>nomatch h
 |_ :: _,[],_,_,h,_=>nomatch h
 |b :: bs,(m,t) :: g,_,_,h,r=>by
  have h:=ZZ.mp h;cases r with
  |cons f q =>
   rw[NP,wj h.2 q,ZT];cases b with
   |true=>rfl
   |false=>exact f.Ko (by simpa using h.1)
def Db4(h:argsOk e d=J)(f:Ru D U H d i):∀a∈Lf e i,H a=M:=λa m=>by
 obtain⟨j,F,g,o,n⟩:=xC m;have key:∀{e:List _}{d:List _}{j:Nat},argsOk e d=J->e[j]?=Y J->∃v,d[j]?=Y v/\v.1=.fr:=by
  intro e
  induction e with
  |nil=>intro d j _ h;simp at h
  |cons b bs q =>
   intro d j h g;cases d with
   |nil=>exact nomatch h
   |cons v p =>
    have h:=ZZ.mp h;cases j with
    |zero =>
     simp_all
    |succ j =>
     simp_all
 obtain⟨v,q1,l⟩:=key h g;have:=f.each j v F q1 o;rw[l]at this;exact this.2 a n
section
def zX(J:mM G)(hn:∀k,(G.ct (c+1)).2 k≠m)(ht:∀D U C O H (R:List V->Hp->Prop),SR G D U O H->cs U=Y C->(∀j q Fs,aG H q->RpL G q j (trees C) Fs->Ru D U H C Fs->R j q)->t O H R)(h:tX G (cL i way c mv g cs) O H Q):wW (G.ct (c+1)).1 m (PJ G c mv g) [] E (U8 G i way) t O H Q:=by
 refine L2.ah λP_ p=>?_;obtain⟨D,U,v,U',s,e,P7,kq⟩:=h;refine p ?_;unfold cL at e;split at e
 ·rename_i t0 h0;refine L2.ah λP_ p=>?_;obtain⟨ks,ek,e3⟩:=Zz.mp e;obtain⟨C,el,e4⟩:=Zz.mp e3;obtain⟨⟨t',x2⟩,e5,e6⟩:=Zy.mp e4;cases e6;obtain⟨v0,h1,h2⟩:=s.rp _ _ h0;obtain⟨w,x,F1,x3,w1,w2,w3,r,w5⟩:=o8 ks J h2 (s.nd i t0 h0) e5;refine p ?_;unfold El at r;split at r
  ·rename_i c1 b fs;split at r
   ·rename_i hc;obtain⟨rfl,O0,N,han⟩:=hc;obtain⟨⟨NG,y⟩,eg,e7⟩:=Zz.mp r;split at e7
    ·rename_i Ud;refine L2.ah λP_ p=>?_;cases e7;obtain⟨c',a,dx,b',ns,j,ts,Fs,ec,rfl,eb,rfl,eF,hA,hl,hb,ra⟩:=gF w2;cases ec;cases eb;refine p ?_;have RG:=hl.trans ra.len.1;refine⟨D,U,t0,ks,v0,_,s,h0,h1,ek,w1,λH1 L=>⟨a,dx,_,rfl,L a _ hA,?_,?_⟩⟩
     ·have key:∀(ns:List _)(j:List V),((ns.map (G.ct (c+1)).2).zip j).lookup m=M:=by
       intro ns
       induction ns with
       |nil=>intro j;simp
       |cons n ns ih =>
        intro j;cases j with
        |nil=>simp
        |cons v j =>
         rw[Zg,ZP,Xp];have:(m==(G.ct (c+1)).2 n)=Z:=by
          grind
         rw[this];exact ih j
      exact key ns j
     ·refine ht D U C O H1 _ (s.same L) el λus H2 Gs Lk Ve VF=>?_;have B:=L.trans Lk;have l:=Db4 N (⟨λn v' P a1 a2=>(VF.each n v' P a1 a2).back L,VF.nd⟩);refine⟨a,us,_,_,F1,Gs,_,y,by rw[ZT],?_,Ve.at _ han,?_,?_,?_,eg,λu q P A ru=>?_⟩
      ·rw[eF];exact .ins (B a _ hA) hl (λ_=>rfl) ((ra.same B).at _ (g7 RG O0))
      ·rw[o6 N];simp[trees]
      ·refine ZR.mpr ⟨w3,VF.nd.sublist (um N),λd F b2 P8 z=>?_⟩;subst z;exact Kv.pe (w2.KC d F) (l d P8)
      ·rw[wj N Ve];exact λd _ z=>nomatch z
      ·have back:Rp G q (.ref a) (.obj (c+1) ((0,.bl b) :: NG)) P:=by
        refine L2.ah λP_ p=>?_;obtain⟨c2,a2,dx2,b2,ns2,vs2,ts2,Fs2,UE,ea2,eb2,ef2,eF2,hA2,OC,P8,QS⟩:=gF A.rp;cases UE;cases ea2;subst ef2;refine p ?_;rw[eF2];exact .ins hA2 OC hb (QS.at _ (g7 (OC.trans QS.len.1) Ud.1))
       obtain⟨F2,g2⟩:=w5 q P (⟨(Kept.of B).trans A.kept,λd o1 F S=>A.keep d o1 (λz=>(ZU.mp z).elim F λz=>by rw[l d z]at S;cases S) (B d o1 S),λd h=>A.KC d λz=>h (B.free z),back,A.nd,λd F=>by
        rcases A.sub d F with z | z
        ·rcases ZU.mp z with z | z
         ·exact .inl z
         ·exact .inr (l d z)
        ·exact .inr (B.free z)⟩)
       obtain⟨z1,z2⟩:=s.mut h0 h1 g2;exact kq u q _ z1 z2 (ru.at _ (oJ y Ud.2))
    ·cases e7
   ·cases r
  ·cases r
 ·cases e
def Dl(J:mM G)(q:∀k,(G.ct (c+1)).2 k≠m)(p:N4 G X o i way)(u:MG X.K (G.ct (c+1)).1)(r:Meth X.K (G.ct (c+1)).1 m f)(F:FnOk X.prog X.w X.K X.mg X.base Lc k f fd ps (PJ G c mv g))(n:D6 k' X.A)(t:k<=k')(v:Binds X.K fd ps [])(x:Lj G X (e :: es) cs)(y:K1 e es X)(a:K2 pos es X)(l:eval (.Call (.Attribute o m apos) (e :: es) [] pos) X.env=(do
   let b ← eval o X.env
   standAt apos.atName
   let (f,first) ← holding [b] (getMethod b m j)
   callWith pos f first (backTo pos (P3 (e :: es) X.env)) (backToKw pos (SL [] X.env)))):PX G X (.Call (.Attribute o m apos) (e :: es) [] pos) (cL i way c mv g cs) :=
 PE.weak (wB p u r F (n.mono t) v .nil pI x y a l) λO H Q h=>zX J q (λD U d O H R s e k=>⟨D,U,d,s,e,k⟩) h
def Vc(x:Xx):Sx:=λU=>(x U).bind λz=>if Ko z.1.2 then Y (.nx z.2) else M
def dW(j:Nat)(x:Xx):Sx:=λU=>(x U).bind λz=>if Ko z.1.2=J/\j<z.2.length then Y (.nx (z.2.set j (Y (.pu z.1.2)))) else M
def mU(x:Xx):Sx:=λU=>(x U).bind λz=>if Ko z.1.2 then Y (.rt (.fr,z.1.2) z.2) else M
def uk{pos:Pos}(h:PX G X e x)(j:swapsWith e M pos.line X.env=pure Z):PSV G X (.Expr e pos) (Vc x) :=
 PS.weak (gD h j) λDb O H b=>by
  obtain⟨D,U,out,s,e,k⟩:=b;obtain⟨⟨v,n⟩,e1,e2⟩:=Zz.mp e;split at e2
  ·rename_i d;cases e2;exact⟨D,U,v,_,s,e1,d,λu l p a f r=>k _ O l a f⟩
  ·cases e2
def xn(h:PX G X e x):PSV G X (.Return (Y e) pos) (mU x) :=
 PS.weak (rE h) λDb O H d=>by
  obtain⟨D,U,out,s,e,k⟩:=d;obtain⟨⟨v,n⟩,e1,e2⟩:=Zz.mp e;split at e2
  ·rename_i j;cases e2;exact⟨D,U,v,_,s,e1,j,λu l p b f r=>k u l [] _ O b f r ⟨Z3,λa h=>nomatch h⟩⟩
  ·cases e2
def eJ{pos:Pos}(h:PX G X e x)(A:X.N.Nodup)(l:X.N[j]?=Y d)(t:Loc X.env.scope d)(w:{`q8,swapsWith e (Y (.Name d b)) pos.line X.env=pure Z})(z:X.fn d=J\/X.env.scope.names.lookup d=Y .local:=by exact .inl L) :
  PSV G X (.Assign [.Name d b] e pos) (dW j x) :=
 PS.weak (my A l t h w z) λDb O H y=>by
  obtain⟨D,U,out,s,e,k⟩:=y;obtain⟨⟨v,B⟩,e1,e2⟩:=Zz.mp e;split at e2
  ·rename_i l;cases e2;refine⟨D,U,v,_,s,e1,l.1,λu n C p f r=>?_⟩;obtain⟨q1,q⟩:=p.val (m:=.fr) l.2 (aG.refl n) r ⟨Z3,λa h=>nomatch h⟩ (.inl ⟨rfl,by decide⟩);exact k _ _ n q1 (f.trans q)
  ·cases e2
def qm(i:Nat)(a:List NI)(k:Ex)(x:Xx):Sx:=λU=>(x U).bind λz=>if Ko z.1.2 then iS i a k (λ_=>Y (.fr,z.1.2)) z.2 else M
def Av{mv:Md}(J:mM G)(s:SR G D U O H)(Q:U[i]?=Y (Y (.ow t)))(ek:keys way U=Y N)(Pd:ck U=Y (mk,d))(e5:pm (uJ (mk,d) (mv,B)) N t=Y (t',y'))(S:aG H H1)(rv:Rp G H1 xv B Fv)(R:Fp D U H mv Fv)(k:∀D' H',SR G D' (U.set i (Y (.ow t'))) O H'->Kq D U H D' (U.set i (Y (.ow t'))) H'->Db O H'):Ie (U8 G i way) (tE G ck) Er xv O H1 Db:=by
   refine L2.ah λP_ P=>?_;obtain⟨v,g1,g2⟩:=s.rp _ _ Q;obtain⟨w,x,F1,x3,w1,w2,w3,A,w5⟩:=o8 N J g2 (s.nd i t Q) e5;refine P ?_;refine⟨D,U,t,N,v,w,s.same S,Q,g1,ek,w1.same S,λH2 Lk=>⟨D,U,mk,d,(s.same S).same Lk,Pd,λkv H3 Fk Mo rk fk=>?_⟩⟩;have p:=(S.trans Lk).trans Mo;have Pm:=(rv.same Lk).same Mo;have fin:∀F y,Chg G H w F1 x3 F y->Db O F:=λF y g=>by
    obtain⟨F2,SH⟩:=w5 F y g;obtain⟨z1,z2⟩:=s.mut Q g1 SH;exact k _ F z1 z2
   refine L2.ah λP_ P=>?_;cases x with
   |lst l =>
    cases d with
    |int n =>
     obtain⟨tt,et,e7⟩:=Zz.mp (A);obtain⟨j,ej,e8⟩:=Zy.mp e7;cases e8;cases (nK et);obtain⟨a,vs,Fs,rfl,rfl,E,q⟩:=w2.lst_inv;have C:=p a _ E;have nd:=Zd.mp w3;have na:a∉Fv:=λz=>by rw[R.2 a z]at E;cases E
     have u:Kv (H3 a):=by rw[C];exact True.intro
     have off:=λb hb hv=>Kv.pe (q.KC b hb) (R.2 b hv);refine P ?_;refine .inl ⟨a,vs,n,j,rfl,rk.int_inv,C,by rw[← uM,q.len.1];exact ej,fin _ (a :: (Fs.set j Fv).flatten) ?_⟩;refine Chg.upd p Zv u (.lst aA ((((q.same p).off u nd.1)).putAt j ((λr hn=>r.keep (Kept.upd (.inl u)) λb hb o' Oc=>by rw[ay (λz=>hn (by rw[← z];exact hb))];exact Oc) Pm na))) ?_ ?_
     ·rw[Zd];refine⟨λh=>?_,eI nd.2 R.1 λi' y _ hi b hb=>off b (cQ hi hb)⟩;rcases cA h with z | ⟨i',y,_,h1,h2⟩
      ·exact na z
      ·exact nd.1 (cQ h1 h2)
     ·intro b hb;rcases Zj.mp hb with rfl | hb
      ·exact .inl Zv
      ·rcases cA hb with z | ⟨i',y,_,h1,h2⟩
       ·exact .inr (R.2 b z)
       ·exact .inl (Zw _ (cQ h1 h2))
    |_=>cases A
   |dct kd l =>
    cases kd with
    |zero =>
     have hc:(iI d=true/\Ko B=true/\l.length<fB)/\x3=.dct 0 (dput l d B):=by
      have w4':(if iI d/\Ko B/\l.length<fB then Y (T.dct 0 _,()) else M)=Y _:=A
      simp_all
     obtain⟨⟨c1,c2,c3⟩,rfl⟩:=hc;have eF:=Pm.Ko c2;subst eF;obtain⟨a,ns,vs,ts,Fs,rfl,rfl,E,hl,rfl,q⟩:=fh w2;obtain⟨kk,rfl,Pc⟩:=dE rk c1;subst Pc;have C:=p a _ E;have u:Kv (H3 a):=by rw[C];exact True.intro
     have nd:=Zd.mp w3;obtain⟨RI,M0,Mg,MI,q1,q2,q3,q4,L⟩:=rK Pm hl (q.same p);refine P ?_;refine .inr ⟨a,_,rfl,uS.k C (by
      have:((ns.map bf).zip ts).length<16777216:=c3;rw[YS,Zt]at this;rw[YS];have:=q.len.1;have:(KM:Nat)=16777216:=rfl;lia),fin _ (a :: MI.flatten) ?_⟩
     rw[q1,q3];refine Chg.upd p Zv u (.dct aA q2 (q4.off u λz=>nd.1 (L.subset z))) ?_ ?_
     ·exact Zd.mpr ⟨λz=>nd.1 (L.subset z),nd.2.sublist L⟩
     ·intro b hb;rcases Zj.mp hb with rfl | hb
      ·exact .inl Zv
      ·exact .inl (Zw _ (L.subset hb))
    |succ n=>cases A
   |_=>cases A
def xJ{X:Cx}{pos:Pos}(J:mM G)(C:D6 w X.A)(F:N4 G X o i way)(L:PV G X b l)(he:PX G X e x)(P:∀v,assign (.Subscript o b d) X.env v=(do
   let j ← holding [v] (eval o X.env)
   let iv ← holding [v,j] (eval b X.env)
   standAt d
   holding [v,j,iv] (setItem j iv v)
   release [v,j,iv] []))(B:swapsWithSole [.Subscript o b d] e pos.line X.env=pure Z)(hw:swappedStores [.Subscript o b d] e X.env=pure M)(Q:(assignEach [.Subscript o b d] X.env).map (·.2)=[assign (.Subscript o b d) X.env]):PSV G X (.Assign [.Subscript o b d] e pos) (qm i way l x) :=
 PS.weak (uY he (uV F L (zS (jN C)) P) B hw Q) λDb O H E=>by
  refine L2.ah λP_ y=>?_;obtain⟨D,U,out,s,e,k⟩:=E;obtain⟨⟨v,U'⟩,e1,e2⟩:=Zz.mp e;refine y ?_;split at e2
  ·rename_i N;refine⟨D,U,v,_,s,e1,N,λu H' D' q f r=>?_⟩;obtain⟨⟨mv,tv⟩,ev,e2⟩:=Zz.mp e2;cases ev;split at e2
   ·rename_i t z;obtain⟨ks,R,e2⟩:=Zz.mp e2;obtain⟨⟨mk,tk⟩,Pd,e2⟩:=Zz.mp e2;obtain⟨⟨t',y'⟩,e5,S⟩:=Zy.mp e2;cases S;exact Av J q z R Pd e5 (aG.refl H') r ⟨Z3,λa h=>nomatch h⟩ λD2 H2 p n=>k _ O H2 p (f.trans n)
   ·cases e2
  ·cases e2
end
end VS
end
section
namespace L2
open PySem PySem.Spec PyProof.Rows
def vD:cF X (.type "dict") (λf H Q=>∃(d:On)(a:List (Key×V)),f=[.ref d]/\H d=Y (.dK a)/\∀l,H l=M->Q (.ref l) (upd H l (.dK a))):=by
 intro g s O H f v Q I rx h;obtain⟨d,a,rfl,hd,q⟩:=h;obtain⟨u,rfl,m⟩:=rx.one;cases m;obtain⟨i,r,t,rel,n⟩:=sO I.D8 hd;refine PySem.kt_call_dict r n (by rw[← Xc rel];exact i) λw p j=>?_;exact⟨.ref _,_,I.laid (λb o e=>(j.2 b (Zi (Zf e))).trans (Zu _ e)) (Zn _) (rC i (beq_eq_false_iff_ne.mpr (Z9 (Zi I.big))) rel p),rfl,q _ (I.D8.fresh (Zn _))⟩
end L2
namespace VS
open PySem PySem.Spec PyProof.Rows L2
def oG:W5->W6
 |[(_,.dct 0 l)]=>if fD (l.map (·.2))=J then Y (.fr,.dct 0 l) else M
 |_=>M
section
def BA:eD G (λn H Q=>∃(d:On)(h:List (Key×V)),n=[.ref d]/\H d=Y (.dK h)/\∀l,H l=M->Q (.ref l) (upd H l (.dK h))) oG:=by
 intro D U E H l x L m t Q A e k;unfold oG at e;split at e
 ·rename_i z B;split at e
  ·rename_i j;refine L2.ah λC u=>?_;cases e;obtain⟨v,F,rfl,rfl,r⟩:=(A.rp).one;obtain⟨a,ns,s,y,Gs,rfl,rfl,w,hl,rfl,f⟩:=fh r;refine u ?_;refine⟨a,_,rfl,w,λq i=>?_⟩;have g:aG H (upd H q (.dK (ns.zip s))):=bN i;rw[List.map_snd_zip (by rw[Zt,hl,f.len.1];exact Zn _)]at j;refine k _ _ _ g (.dct aA hl (f.same g)) ?_;rw[(f.Ko j)];exact Fp.new (A.same.free i) (by simp) Fp.nil
  ·cases e
 ·cases e
def Dj{X:Cx}(d:X.mg "dict" = M)(g:Lj G X [e] cs)(f:Gl X "dict")(he:K1 e [] X):PV G X (.Call (.Name "dict" p) [e] [] pos) (eN oG cs) :=
 hJ vD BA f d wY g (he:=he)
def Fd{i d:Int}:PV G X (.Dict [Y (.Constant (.int i) j q)] [.Constant (.int d) l g] pos) (u6 0 [(Q3 i,Q3 d)]) :=
 PE.weak (Db3 (An rm rm DG) L L (by simp) (by show 1<=15;decide)) λO H Q n=>by
  refine L2.ah λt h=>?_;obtain⟨D,U,m,r,s,e,k⟩:=n;cases (e);refine h ?_;intro p f;refine⟨aA,[(Sum.inl i,.int d)],rfl,(by show 1<=15;decide),?_⟩;rw[DO];have:Rp G (upd H p _) _ (.dct 0 ((([Sum.inl i]:List _).map _).zip _)) _ :=
   .dct aA L (.cons (.int d) .nil)
  exact k _ _ _ (bN f) this ⟨by simp,λb hb=>by simp at hb;rw[hb];exact f⟩
def zK(x y:Val):W6:=match x.2 with
 |.dct 0 l=>if iI y.2 then Y (match fM l y.2 with | some t=>sub x.1 t | none=>(.fr,.non)) else none
 |_=>M
def w_get{X:Cx}{apos:Pos}(E:D6 kr X.A)(N:PV G X o ca)(he:PV G X e cb)(Kz:XAA o "get" X.env (eval o X.env)=eval o X.env)(KU:((backTo cp (P3 [e] X.env)).all (λx=>!x.1)&&(backToKw cp (SL [] X.env)).all (λx=>x.1.isSome)
   && decide (([e]:List Expr).length+([]:List Keyword).length+(if ([]:List Keyword).isEmpty then 0 else 1)<30))=J)(Kt:(apos.endLine==cp.line)=J)(h:backTo cp (P3 [e] X.env)=[(Z,eval e X.env)]):PV G X (.Call (.Attribute o "get" apos) [e] [] cp) (e2 zK ca cb) :=
 PE.weak (zZ (jN E) N he ⟨Kz,KU,Kt,h⟩) λO H Q L=>by
  obtain⟨D,U,m,r,s,e,u⟩:=L;obtain⟨⟨m1,x⟩,ea,e⟩:=Zz.mp e;obtain⟨⟨z,y⟩,eb,e⟩:=Zz.mp e;unfold zK at e;split at e
  ·rename_i l C;subst C;split at e
   ·rename_i P;have d:=ZX e;refine⟨D,U,m1,_,s,ea,λv H1 F1 t r1 f1=>?_⟩;refine L2.ah λP_ B=>?_;obtain⟨a,ks,vs,ts,Fs,rfl,rfl,j,hl,rfl,q⟩:=fh r1;refine B ?_;refine⟨a,rfl,.inl ⟨_,.inl j⟩,D,U,z,y,s.same t,eb,λv2 w F2 g r2 f2=>?_⟩;obtain⟨kk,rfl,ek⟩:=dE r2 P;rw[ek]at d;rcases kR hl (q.same g) with⟨S,R⟩ | ⟨i,v,t2,F,a1,a2,a3,a4,n⟩
    ·rw[S]at d;cases d;refine⟨_,g9.k (g a _ j),?_⟩;rw[R];exact u _ w [] (t.trans g) .non Fp.nil
    ·rw[a1]at d;refine⟨_,g9.k (g a _ j),?_⟩;rw[a2];have f:=((f1.sub (YO _ _)).sub (bM a4)).up n;unfold VS.sub at d;dsimp only at d;rw[d]at f;have et:t2=r:=congrArg Prod.snd d;rw[et]at n;exact u v w F (t.trans g) n f
   ·cases e
  ·cases e
def uO(x y:Val):W6:=match x.2 with
 |.dct 3 l=>if iI y.2 then (fM l y.2).map (sub x.1) else M
 |_=>M
def ur(r:Rp G H v (.dct 3 l) F):∃(a:On)(o:Obj)(f:List Key)(d:List V)(g:W7)(h:Ye),v=.ref a/\F=h.flatten/\H a=Y (.frz o (.dK (f.zip d)))/\f.length=d.length/\l=(f.map bf).zip g/\RpL G H d g h:=r.inv
def FQ:eY G (IA G.K) uO:=by
 intro D U P H x y u w F1 S m t Q d e k;obtain⟨m1,x⟩:=x;unfold uO at e;split at e
 ·rename_i l h;subst h;split at e
  ·rename_i j;obtain⟨L,e1,e2⟩:=Zy.mp e;obtain⟨a,o,N,C,E,R,rfl,rfl,n,hl,rfl,q⟩:=ur d.r1;obtain⟨g,rfl,s⟩:=dE d.r2 j;rw[s]at e1;rcases kR hl q with⟨r,_⟩ | ⟨i,v,t2,F,B,A,O,z,f⟩
   ·rw[r]at e1;cases e1
   ·rw[B]at e1;cases e1;cases e2;refine .inr ⟨a,v,rfl,.inl ⟨_,g,.inr ⟨o,n⟩,rfl,A.symm⟩,?_⟩;exact k v H F (aG.refl _) f ((d.f1.sub (bM z)).up f)
  ·cases e
 ·cases e
def EM{X:Cx}(f:D6 kr X.A)(i:PV G X a ca)(g:PV G X b cb)(d:fi b)(j:X.K=G.K):PV G X (.Subscript a b pos) (e2 uO ca cb) :=
 PE.weak (lQ (Ms.or i9 (rG (jN f))) i g d) λO H Q h=>by rw[j];exact l6 FQ h
end
def eNew(c:Nat)(g:Mt)(b:KJ):Ex:=λU=>(b U).bind λa=>if bY (trees a)=J then (g [] (trees a)).bind λz=>if lJ z.1=J/\Sz z.2=J then Y (.fr,.obj (c+1) ((0,.bl Z) :: z.1)) else M else M
def jU(c:Nat)(g:Fn)(d:Ex)(b:KJ):Ex:=λU=>(d U).bind λx=>match x.2 with
 |.obj e (_ :: _)=>if e=c+1 then (b U).bind λa=>(g (x.2 :: trees a)).bind λr=>match r.1 with
  |.fr=>Y r
  |_=>M else M
 |_=>M
theorem Bs{α:Type}:∀(l:List α)(a:Ye),Lf (l.map λ_=>Z) a=[]
 |[],_=>by simp[Lf]
 |_ :: _,[]=>by simp[Lf]
 |_ :: l,F :: a=>by
  rw[Zg,Lf,Zl Za,XJ];exact Bs l a
theorem BV:∀(mv:List Bool)(d:Ye),∀a∈NP mv d,a∈d.flatten
 |[],_,a,h=>by simp[NP]at h
 |_ :: _,[],a,h=>by simp[NP]at h
 |b :: bs,F :: d,a,h=>by
  rw[NP]at h;rw[Yg];rcases ZU.mp h with h | h
  ·grind
  ·exact ZL _ (BV bs d a h)
section
def DB{G:Gx}(r:Rp G H u t F)(h:Sz t=J):u=.non:=by
 cases r with
 |non=>rfl
 |_=>cases h
def Hm{X:Cx}(F:∀n,FnOk X.prog X.w X.K X.mg X.base Lc k f fd ps (PJ G c (List.replicate n Z) g)->True)(ht:∀D U d O H (R:List V->Hp->Prop),SR G D U O H->cs U=Y d->(∀B A Fs,aG H A->RpL G A B (trees d) Fs->Ru D U H d Fs->R B A)->t O H R)(n:Nat)(hn:∀U d,cs U=Y d->d.length=n)(hq:tE G (eNew c g cs) O H Q):Es (G.ct (c+1)).1 (PJ G c (List.replicate n Z) g) [] E t O H Q:=by
 refine L2.ah λP_ N=>?_;obtain⟨D,U,mo,r,s,e,kq⟩:=hq;obtain⟨d,el,e1⟩:=Zz.mp e;refine N ?_;split at e1
 ·rename_i S;obtain⟨⟨NG,y⟩,eg,e2⟩:=Zz.mp e1;split at e2
  ·rename_i hc;cases e2;refine ht D U d O H _ s el λB H1 Gs Ls l VG a dx ha P ne=>?_;have hHa:=Ls.free ha;have Lk:aG H1 (upd (upd H1 dx (.own a)) a (.ins (G.ct (c+1)).1 dx [])):=λb C q=>by
    rw[ay (λz=>by rw[z,ha]at q;cases q),ay (λz=>by rw[z,P]at q;cases q)];exact q
   have em:List.replicate n Z=(List.range n).map λ_=>Z:=by rw[List.map_const',Yz]
   have j:Lf (List.replicate n Z) Gs=[]:=by rw[em];exact Bs _ _
   refine⟨a,B,[],_,_,Gs,_,y,by rw[ZT],.ins (ks:=[]) aA L (λ_=>rfl) .nil,(l.same Lk).at _ S,?_,?_,?_,eg,λu A F' v ru=>⟨DB ru hc.2,?_⟩⟩
   ·simp[trees,(hn U d el)]
   ·rw[j];simp
   ·rw[j];intro b hb K8;have:b=a:=by simpa using hb
    subst this;exact Kv.pe (l.KC b (BV _ _ b K8)) ha
   ·rw[j,ZT]at v;refine kq _ A F' (λb C q=>v.keep b C (λz=>?_) (Lk b C (Ls b C q))) (by
     refine L2.ah λP_ N=>?_;obtain⟨c2,a2,dx2,b2,ns2,vs2,ts2,Fs2,UE,ea2,eb2,ef2,eF2,hA2,OC,P8,QS⟩:=gF v.rp;cases UE;cases ea2;subst ef2;refine N ?_;rw[eF2];exact .ins hA2 OC (λz=>nomatch z) (QS.at _ (g7 (OC.trans QS.len.1) hc.1))) ⟨v.nd,λb hb=>?_⟩
    ·simp_all
    ·rcases v.sub b hb with z | z
     ·simp_all
     ·exact(λb z=>Ls.free (Lk.free z)) b z
  ·cases e2
 ·cases e1
def GK{G:Gx}{X:Cx}(M:Mk X.K (G.ct (c+1)).1 f)(F:FnOk X.prog X.w X.K X.mg X.base Lc k f fd ps (PJ G c [] g))(b:D6 k' X.A)(j:k+1<=k')(l:Gl X x)(d:X.mg x=Y (.ref (G.ct (c+1)).1))(n:Binds X.K fd ps [])(q:K3 x):PV G X (.Call (.Name x p) [] [] pos) (eNew c g au) :=
 PE.weak (BJ M F (b.mono j) l d n .nil pI q) λO H Q h=>Hm (X:=X) (k:=k) (f:=f) (fd:=fd) (ps:=ps) (λ_ _=>True.intro) (λD U a O H R s e k=>by
  cases (e);exact k [] H [] (aG.refl _) .nil ⟨λi v F h=>by simp at h,by simp[Lx]⟩) 0 (λU a e=>by
  cases (e);rfl) h
theorem xQ{g:Nat->Str}(b:∀k,g k≠m):∀(ns:Wa)(a:List V),((ns.map g).zip a).lookup m=M
 |[],a=>by simp
 |_ :: _,[]=>by simp
 |n :: ns,v :: a=>by
  rw[Zg,ZP,Xp];have:(m==g n)=Z:=by
   grind
  rw[this];exact xQ b ns a
def xY{G:Gx}(hn:∀k,(G.ct (c+1)).2 k≠m)(S:∀D U d O H (R:List V->Hp->Prop),SR G D U O H->cs U=Y d->(∀l j A,aG H j->RpL G j l (trees d) A->Ru D U H d A->R l j)->t O H R)(hq:tE G (jU c h ca cs) O H Q):wW (G.ct (c+1)).1 m (Nw G h) [] E (tE G ca) t O H Q:=by
 refine L2.ah λP_ q=>?_;obtain⟨D,U,mo,r,s,e,N⟩:=hq;obtain⟨⟨L,y⟩,ea,e1⟩:=Zz.mp e;refine q ?_;split at e1
 ·rename_i c' q0 fs P;subst P;split at e1
  ·rename_i hc;subst hc;obtain⟨d,el,e2⟩:=Zz.mp e1;obtain⟨⟨n,F⟩,eg,e3⟩:=Zz.mp e2;refine⟨D,U,L,_,s,ea,λv H1 F1 w r1 f1=>?_⟩;refine L2.ah λP_ q=>?_;obtain⟨c2,a,dx,b,ns,l,ts,A,ec,rfl,eb,ef,eF,hA,hl,hb,ra⟩:=gF r1;cases ec;refine q ?_;refine⟨a,dx,_,rfl,hA,xQ hn _ _,S D U d O H1 _ (s.same w) el λus H2 Gs z Ve VF=>?_⟩;rw[ZT];refine⟨_,_,n,F,.cons (r1.same z) Ve,eg,λu j F' Mo C B=>?_⟩;cases n with
   |fr =>
    cases e3;exact N u j F' ((w.trans z).trans Mo) C ⟨B.1,λb hb=>w.free (z.free (B.2 b hb))⟩
   |pu=>cases e3
   |bo=>cases e3
  ·cases e1
 ·cases e1
def FE{G:Gx}(t:∀k,(G.ct (c+1)).2 k≠m)(r:PV G X o ca)(y:MG X.K (G.ct (c+1)).1)(u:Meth X.K (G.ct (c+1)).1 m f)(F:FnOk X.prog X.w X.K X.mg X.base Lc k f fd ps (Nw G h))(n:D6 k' X.A)(v:k<=k')(z:Binds X.K fd ps [])(B:Lj G X (e :: es) cs)(C:K1 e es X)(a:K2 pos es X)(l:eval (.Call (.Attribute o m apos) (e :: es) [] pos) X.env=(do
   let b ← eval o X.env
   standAt apos.atName
   let (f,first) ← holding [b] (getMethod b m j)
   callWith pos f first (backTo pos (P3 (e :: es) X.env)) (backToKw pos (SL [] X.env)))):PV G X (.Call (.Attribute o m apos) (e :: es) [] pos) (jU c h ca cs) :=
 PE.weak (wB r y u F (n.mono v) z .nil pI B C a l) λO H Q q=>xY t (λD U d O H R s e k=>⟨D,U,d,s,e,k⟩) q
def Cb{G:Gx}(n:∀k,(G.ct (c+1)).2 k≠m)(l:PV G X o ca)(u:MG X.K (G.ct (c+1)).1)(r:Meth X.K (G.ct (c+1)).1 m f)(F:FnOk X.prog X.w X.K X.mg X.base Lc k f fd ps (Nw G h))(j:D6 k' X.A)(t:k<=k')(y:Binds X.K fd ps [])(d:eval (.Call (.Attribute o m apos) [] [] pos) X.env=(do
   let a ← eval o X.env
   standAt apos.atName
   let (f,first) ← holding [a] (getMethod a m b)
   callWith pos f first (backTo pos (P3 [] X.env)) (backToKw pos (SL [] X.env)))):PV G X (.Call (.Attribute o m apos) [] [] pos) (jU c h ca au) :=
 PE.weak (zc l u r F (j.mono t) y .nil pI d) λO H Q q=>xY n (λD U z O H R s e k=>by
  cases (e);exact k [] H [] (aG.refl _) .nil ⟨λi v F h=>by simp at h,by simp[Lx]⟩) q
end
def rN(i:Nat)(a:List NI)(j:Nat)(U:VS.Env):Option Out:=match (U[i]?:Option (W4)),(U[j]?:Option (W4)) with
 |some (some (.ow t)),some (some (.ow u))=>if i≠j then (keys a U).bind λb=>(pm (λx=>bc x [(.fr,u)]) b t).map λz=>.nx ((U.set j M).set i (Y (.ow z.1))) else M
 |_,_=>M
open Classical in
noncomputable def less(H:Hp)(F:X6):Hp:=λb=>if b∈F then M else H b
section
def qD(h:b∈F):less H F b=M:=Zm h
def gQ(h:b∉F):less H F b=H b:=Zl h
def g8{o:HO}(h:less H F b=Y o):H b=Y o/\b∉F:=by
 by_cases q:b∈F
 ·rw[qD q]at h;cases h
 ·rw[gQ q]at h;exact⟨h,q⟩
def yG(h:∀b∈F,Kv (H b)):Kept H (less H F) :=
 ⟨λb a e=>by
  rw[gQ (λz=>by have:=h b z;rw[e]at this;exact this)];exact e,λb o u e=>by
  rw[gQ (λz=>by have:=h b z;rw[e]at this;exact this)];exact e⟩
def CK{apos pos:Pos}(J:mM G)(ho:N4 G X o i way)(hK:X.K=G.K)(hN:X.N[j]?=Y y)(hv:Ni X.env.scope y)(hd:K3 y)(KQ:K4 y)(Kz:XAA o "append" X.env (eval o X.env)=eval o X.env)(KU:((backTo cp (P3 [.Name y p1] X.env)).all (λx=>!x.1)&&(backToKw cp (SL [] X.env)).all (λx=>x.1.isSome)
   && decide ([Expr.Name y p1].length+([]:List Keyword).length+(if ([]:List Keyword).isEmpty then 0 else 1)<30))=true)(Kt:(apos.endLine==cp.line)=true)(hs:P3 [.Name y p1] X.env=(Z,eval (.Name y p1) X.env) :: P3 [] X.env)(Kp:(backTo cp (P3 [] X.env)).any (·.1)=Z)(Lw:swapsWith (.Call (.Attribute o "append" apos) [.Name y p1] [] cp) M pos.line X.env=pure Z) :
  PSV G X (.Expr (.Call (.Attribute o "append" apos) [.Name y p1] [] cp) pos) (rN i way j) :=
 PS.weak (gD (o9 YC Xi Xj gR ho (bA (dS hN hv hd KQ) dQ hs) Kz KU Kt hs Kp) Lw) λDb O H hq=>by
  obtain⟨D,U,out,s,e,k⟩:=hq;unfold rN at e;split at e
  ·rename_i t u ht F;split at e
   ·rename_i Uk;refine L2.ah λP_ k_=>?_;obtain⟨B,ek,e3⟩:=Zz.mp e;obtain⟨⟨P,x2⟩,e5,e6⟩:=Zy.mp e3;cases e6;obtain⟨vj,j1,j2⟩:=s.rp _ _ F;have E:=j2;have ndj:=s.nd j u F;have kp:=yG E.KC;have s0:SR G D _ O _:=⟨(s.drop j).len,λQ S h=>by
     obtain⟨n,h'⟩:=cG h;obtain⟨v,R,h2⟩:=s.rp Q S h';exact⟨v,R,h2.keep kp λb hb d hob=>by rw[gQ ((λQ S n h b hb K8=>s.sep j Q u S F h (Z9 n) b K8 hb) Q S n h' b hb)];exact hob⟩,(s.drop j).nd,(s.drop j).sep⟩
    have g:(U.set j M)[i]?=Y (Y (.ow t)):=by
     rw[ZH (Z9 Uk)];exact ht
    obtain⟨v,R,h2⟩:=s0.rp _ _ g;obtain⟨w,x,F1,x3,w1,w2,w3,C,w5⟩:=o8 B J h2 (s0.nd i t g) e5;refine k_ ?_;unfold bc at C;dsimp only at C;split at C
    ·rename_i l yv heq;cases heq;obtain⟨z,ez,e7⟩:=Zz.mp C;cases (ez);split at e7
     ·rename_i hl;cases e7;obtain⟨a,us,Gs,rfl,rfl,ha,ra⟩:=w2.lst_inv;obtain⟨r,haj⟩:=g8 ha;refine⟨D,U,t,B,v,.ref a,s,ht,R,ek,(by
       have:∀{B:List Ky}{v w:V},Mq G (less H (D j)) B v w->Mq G H B v w:=by
        intro B v w p
        induction p with
        |nil v=>exact .nil v
        |fld h l _ f=>exact .fld (g8 h).1 l f
        |ix h l m _ f=>exact .ix (g8 h).1 l m f
        |key h l _ f=>exact .key (g8 h).1 l f
        |un _ f=>exact .un f
       exact this w1),λH0 A=>⟨.inl ⟨rfl,us,by rw[hK];exact KA.of (A a _ r)⟩,vj,j1,a,us,vj,rfl,rfl,A a _ r,by rw[ra.len.1];exact hl,?_⟩⟩
      have m0:Kv (H0 a):=by rw[A a _ r];exact True.intro
      have TN:=Zd.mp w3;have W9:=λb hb K8=>by
       have:=ra.KC b hb;rw[qD K8]at this;exact this
      have L:∀b d,less H (D j) b=Y d->H0 b=Y d:=λb d h=>A b d (g8 h).1;have kl:Kept _ H0:=⟨λb xs h=>L b _ h,λb d u h=>L b _ h⟩
      obtain⟨F2,g2⟩:=w5 _ _ (by
       refine⟨kl.trans (Kept.upd (.inl m0)),λb d hb h=>by rw[ay (λz=>hb (by simp_all))];exact L b d h,λb h z=>?_,.lst aA ((RpL.off (ra.keep kl λb hb d h=>L b d h) m0 TN.1).append (.cons (((E.same A)).keep (Kept.upd (.inl m0)) λb hb d ho=>by rw[ay (λz=>haj (by rw[← z];exact hb))];exact ho) .nil)),?_,λb hb=>?_⟩
       ·by_cases q:b=a
        ·rw[q,aA]at z;cases z
        ·rw[ay q]at z;cases e:less H _ b with
         |none=>exact h e
         |some d=>rw[L b d e]at z;cases z
       ·rw[Yd];refine Zd.mpr ⟨λm=>?_,ZR.mpr ⟨TN.2,by simpa using ndj,λb hb c hc z=>?_⟩⟩
        ·rcases ZU.mp m with m | m
         ·exact TN.1 m
         simp_all
        ·subst z;exact W9 b hb (by simpa using hc)
       ·rcases Zj.mp hb with rfl | hb
        ·exact .inl Zv
        ·rw[Yd]at hb;rcases ZU.mp hb with hb | hb
         ·simp_all
         ·exact .inr (qD (by simpa using hb)))
      obtain⟨z1,z2⟩:=s0.mut g R g2;have back:∀b,less H _ b=M->bD D U b\/H b=M:=λb h=>by
       by_cases q:b∈D j
       ·exact .inl ⟨j,u,F,q⟩
       ·rw[gQ q]at h;exact .inr h
      have Oi:∀b,bD D (U.set j _) b->bD D U b:=λb ⟨j',P,q1,q2⟩=>⟨j',P,(cG q1).2,q2⟩
      have pu0:∀b,c9 D (U.set j _) b->c9 D U b:=λb ⟨j',P,q1,q2⟩=>⟨j',P,(cG q1).2,q2⟩
      refine k _ O _ z1 ⟨λb d h n=>?_,λb h z=>?_,λb h=>?_,λb h=>?_,(Kept.of A).trans (Kept.upd (.inl m0))⟩
      ·exact z2.keep b d (by rw[gQ (λz=>n ⟨j,u,F,z⟩)];exact h) λz=>n (Oi b z)
      ·by_cases q:b=a
       ·rw[q,aA]at z;cases z
       ·rw[ay q]at z;exact h (A.free z)
      ·rcases z2.ow b h with h | h
       ·exact .inl (Oi b h)
       ·exact back b h
      ·rcases z2.pu b h with h | h | h
       ·exact .inl (pu0 b h)
       ·exact .inr (.inl (Oi b h))
       simp_all
     ·cases e7
    ·cases C
   ·cases e
  ·cases e
end
end VS
end
section
namespace VS
open PySem PySem.Spec PyProof.Rows L2
noncomputable def isInt:T->Bool
 |.int _=>J
 |_=>Z
def EO(i:Nat):MX:=λU=>match (U[i]?:Option (W4)) with
 |some (some (.pu (.dct 3 l)))=>if (l.all λp=>isInt p.1)=J then Y (.fr,l.map (·.1)) else M
 |_=>M
def AO(i:Nat)(a:Tg)(b:Ex):Sx:=λU=>match (U[i]?:Option (W4)) with
 |some (some (.ow (.dct 0 l)))=>(cN 1 a (EO i) M b (U.set i (Y (.pu (.dct 3 l))))).bind λv=>match v.1 with
  |.fr=>Y (.rt v (U.set i M))
  |_=>M
 |_=>M
theorem zip_inj{α β:Type}:∀{a c:List α}{b d:List β},a.length=b.length->c.length=d.length->a.zip b=c.zip d->a=c
 |[],[],_,_,_,_,_=>rfl
 |[],_ :: _,_,[],_,h,_=>by simp at h
 |[],_ :: _,[],_ :: _,_,_,h=>by simp at h
 |[],_ :: _,_ :: _,_ :: _,h,_,_=>by simp at h
 |_ :: _,_,[],_,h,_,_=>by simp at h
 |_ :: _,[],_ :: _,[],_,_,h=>by simp at h
 |_ :: _,[],_ :: _,_ :: _,_,h,_=>by simp at h
 |_ :: _,_ :: _,_ :: _,[],_,h,_=>by simp at h
 |x :: a,y :: c,z :: b,w :: d,f,e,h=>by
  rw[ZP,ZP]at h;obtain⟨e1,e2⟩:=Wk h;rw[zip_inj (by simpa using f) (by simpa using e) e2,(XM e1).1]
section
def FJ{X:Cx}(i:Nat)(N:List Str)(KI:X.calm=J)(hN:X.N[i]?=Y x)(hv:Ni X.env.scope x)(hd:K3 x)(KQ:K4 x)(L1:pA 1 g)(hg:∀cl C s H fp,QE G (bH X N sc cl C s H fp) tg g)(he:∀cl C s H fp,PV G (bH X N sc cl C s H fp) elt ce)(Lp:iK X.env sc=J)(Mn:j9 sc (N.drop 1) X.N=J)(Nd:1<=N.length)(hs:∀y,XAB (.Name x p1) X.env y=pure y) :
  PSV G X (.Return (Y (.ListComp elt [⟨tg,.Name x p1,[],0⟩] sc pos)) pos') (AO i g ce) :=
 PS.weak (rE (q8 KI (HS (dS hN hv hd KQ)) Lp Mn Nd (λcl C s H fp=>⟨hg cl C s H fp,iY,he cl C s H fp⟩) hs)) λDb O H hq=>by
  obtain⟨D,U,out,s,e,k⟩:=hq;unfold AO at e;split at e
  ·rename_i l hl;refine L2.ah λP_ R=>?_;obtain⟨⟨mv,tv⟩,ev,e1⟩:=Zz.mp e;have MB:mv=.fr/\out=.rt (.fr,tv) (U.set i M):=by
    cases mv with
    |fr=>simp_all
    |pu=>cases e1
    |bo=>cases e1
   obtain⟨rfl,rfl⟩:=MB;obtain⟨v,g1,g2⟩:=s.rp _ _ hl;obtain⟨a,ns,Q,ts,Fs,rfl,eF,ha,E,rfl,ra⟩:=fh g2;refine R ?_;have nd:=s.nd i _ hl;rw[eF]at nd;refine⟨_,g1,a,_,rfl,ha,λo=>?_⟩;have mu:Kv (H a):=by rw[ha];exact True.intro
   have kp:Kept H (upd H a (.frz o (.dK (ns.zip Q)))):=Kept.upd (.inl mu);have es:O.set i (Y (.ref a))=O:=by
    obtain⟨h,e⟩:=Zk.mp g1;rw[← e];exact XW h
   have aΦ:a∈D i:=by simp_all
   have sub:∀b∈Fs.flatten,b∈D i:=λb hb=>by simp_all
   have s1:SR G (m8 D i Fs.flatten) (U.set i (Y (.pu (.dct 3 ((ns.map bf).zip ts))))) O (upd H a (.frz o (.dK (ns.zip Q)))):=by
    have:=s.put (c:=.pu _) ((Zk.mp hl).1) (.dctZ aA E (ra.off mu (Zd.mp nd).1)) (λj c' n hj w q=>q.keep kp λb hb ob ho=>by
     rw[ay (λz=>s.sep i j _ c' hl hj (Z9 n) a aΦ (by rw[← z];exact hb))];exact ho) (λ_ z=>nomatch z) (λ_ z=>nomatch z) λj u n hj b hb K8=>s.sep j i u _ hj hl n b hb (sub b K8)
    simp_all
   refine L2.ah λP_ R=>?_;obtain⟨D2,U2,m2,l2,s2,e2,k2⟩:=nj L1 (by
    refine⟨_,_,_,tv,s1,ev,λu H' F P r f=>?_⟩;have ee:(U.set i (Y (.pu (.dct 3 ((ns.map bf).zip ts))))).set i M=U.set i M:=by rw[List.set_set]
    have sd:=(s1.drop i).same P;rw[ee]at sd;have Oi:∀b,bD (m8 D i Fs.flatten) (U.set i M) b->bD D U b:=λb ⟨j,t,q1,d⟩=>by
     obtain⟨n,Tz⟩:=cG q1;rw[fj n]at d;exact⟨j,t,Tz,d⟩
    refine k u H' F _ O sd ⟨λb ob h n=>?_,λb h z=>?_,λb h=>.inl (Oi b h),λb ⟨j,t,q1,d⟩=>?_,kp.trans (Kept.of P)⟩ r ⟨f.1,λb hb=>.inl ?_⟩
    ·have nb:b≠a:=λz=>n ⟨i,_,hl,by rw[z];exact aΦ⟩;exact⟨P b ob (by rw[ay nb];exact h),λz=>n (Oi b z)⟩
    ·have L:=P.free z;by_cases q:b=a
     ·rw[q,aA]at L;cases L
     ·rw[ay q]at L;exact h L
    ·obtain⟨n,Tz⟩:=cG q1;rw[fj n]at d;exact .inl ⟨j,t,Tz,d⟩
    ·have:=f.2 b hb;by_cases q:b=a
     ·rw[q,aA]at this;cases this
     ·rw[ay q]at this;exact this)
   refine R ?_;refine k2 _ _ [] (aG.refl _) ?_ (λb hb=>nomatch hb);unfold EO at e2;split at e2
   ·rename_i l3 h3;split at e2
    ·rename_i hint;cases e2;obtain⟨v3,q1,d⟩:=s2.rp _ _ h3;rw[g1]at q1;cases q1;obtain⟨a3,o3,ks3,vs3,m,Fs3,ea3,_,ND,Uh,rfl,QS⟩:=ur d;cases ea3;rw[aA]at ND;have ek:=zip_inj E Uh (HO.dK.inj (HO.frz.inj (ZX ND)).2);subst ek;have em:((ns.map _).zip m).map _=ns.map bf:=WG (by rw[Zt,Uh,QS.len.1];exact Zn _);have zl:(ns.zip Q).length=ns.length:=by simp_all
     refine⟨λH2 P0 _=>⟨λn t hn=>?_,λn hn=>?_⟩,λb hb=>nomatch hb⟩
     ·rw[em,ZY]at hn;obtain⟨kk,Uj,Ui⟩:=Zy.mp hn;have B:=(Zk.mp Uj).1;refine⟨⟨P0.frz _ _ _ aA,by rw[zl];exact B⟩,λy H3 hy=>?_⟩;obtain⟨rfl,p,hp,rfl⟩:=hy;refine⟨aG.refl _,[],?_,λb hb=>nomatch hb⟩;have S:p.1=kk:=by
       have A:=hp;rw[YI]at A
       simp_all
      have hi:isInt t=J:=by
       have:=ZS.mp hint (t,m[n]'(by rw[← QS.len.1,← Uh];exact B)) (by
        refine Yx (i:=n) ?_;rw[YI];exact⟨by rw[ZY,Uj];exact congrArg _ Ui,Zr _⟩)
       exact this
      rw[S,← Ui];rw[← Ui]at hi;cases kk with
      |inl n=>exact .int n
      |inr z=>cases hi
     ·refine⟨P0.frz _ _ _ aA,?_⟩
      simp_all
    ·cases e2
   ·cases e2
  ·cases e
end
noncomputable def Rk(a:List Str)(k:Nat):Str:=match a[k]? with
 |some x=>x
 |none=>⟨#[k]⟩
def Db1{a:List Str}(i:a.Nodup)(h:∀x∈a,x.cps.size≠1)(k b:Nat)(e:Rk a k=Rk a b):k=b:=by
 unfold Rk at e;by_cases f:k<a.length
 ·by_cases d:b<a.length
  ·rw[Zr f,Zr d]at e;exact(List.getElem_inj i).mp e
  ·rw[Zr f,Y7 (Z1 d)]at e;have g:a[k]=(⟨_⟩:Str):=e;exact absurd (by rw[g];rfl) (h _ (Yv f))
 ·by_cases d:b<a.length
  ·rw[Y7 (Z1 f),Zr d]at e;have g:(⟨_⟩:Str)=a[b]:=e;exact absurd (by rw[← g];rfl) (h _ (Yv d))
  simp_all
def ku(h:x∉a)(d:x.cps.size≠1)(k:Nat):Rk a k≠x:=λe=>by
 unfold Rk at e;split at e
 ·rename_i y b;exact h (e ▸ Yx b)
 ·exact d (by rw[← e];rfl)
structure MtAt(P:SB)(w:UV)(K:Xd)(mg:X4)(base:UF)(k:Nat)(G:Gx)(c:Nat)(x:Str)(ps:List Str)(mv:List Bool)(g:Mt):Prop where
 ex:∃f fd,FnOk P w K mg base Lc k f fd ps (PJ G c mv g)/\Meth K (G.ct (c+1)).1 x f/\Binds K fd ps []
 cl:MG K (G.ct (c+1)).1
 no:∀k,(G.ct (c+1)).2 k≠x
structure MpAt(P:SB)(w:UV)(K:Xd)(mg:X4)(base:UF)(k:Nat)(G:Gx)(c:Nat)(x:Str)(ps:List Str)(h:Fn):Prop where
 ex:∃f fd,FnOk P w K mg base Lc k f fd ps (Nw G h)/\Meth K (G.ct (c+1)).1 x f/\Binds K fd ps []
 cl:MG K (G.ct (c+1)).1
 no:∀k,(G.ct (c+1)).2 k≠x
structure InAt(P:SB)(w:UV)(K:Xd)(mg:X4)(base:UF)(k:Nat)(G:Gx)(c n:Nat)(x:Str)(ps:List Str)(g:Mt):Prop where
 ex:∃f fd,FnOk P w K mg base Lc k f fd ps (PJ G c (List.replicate n false) g)/\Mk K (G.ct (c+1)).1 f/\Binds K fd ps []
 mg:mg x=some (.ref (G.ct (c+1)).1)
section
variable{K:Xd}
theorem MtAt.at{m:Me}(h:MtAt P w K mg base k G c x ps mv g):MtAt P w K mg base k (G.at m) c x ps mv g:=⟨h.ex,h.cl,h.no⟩
theorem InAt.at{P:SB}{w:UV}{mg:X4}{base:UF}{k c n:Nat}{G:Gx}{x:Str}{ps:List Str}{g:Mt}{m:Me}(h:InAt P w K mg base k G c n x ps g):InAt P w K mg base k (G.at m) c n x ps g:=⟨h.ex,h.mg⟩
def rY{G:Gx}(F:Ku K x b d f m)(q:Meth K (G.ct (c+1)).1 x f)(r:MG K (G.ct (c+1)).1)(v:∀k,(G.ct (c+1)).2 k≠x)(S:bt N ps (ak d))(o:ps.length=j)(p:N.length=l)(u:∀(kV doc pm:PP)(an:Option On)(h ct:PP)(i:Wu),i.length=ps.length->bindArgs (PySem.W.fnOf x b (c8 d) (aT d) (ak d) .none kV doc pm an h ct) ⟨i,[]⟩=pure (ps.zip i))(t:∀(a:On)(h:PP)(A:SC)(outer:List PySem.Env)(s:KB)(H:Hp)(E:XK),D6 k (A.deeper (envOfC b (ak d) s.heap.objs.size f h))->fK (G.at (PR a)) (gP Lc P w K mg base N b (ak d) f h A outer s H E).L6 (aT d) e) :
  MtAt P w K mg base (k+1) G c x ps mv (NT c j l mv e):=⟨⟨f,m,fnM F S o p t,q,F.binds u⟩,r,v⟩
def Hx{G:Gx}(F:Ku K y b d f m)(q:Mk K (G.ct (c+1)).1 f)(r:mg x=Y (.ref (G.ct (c+1)).1))(S:bt N ps (ak d))(o:ps.length=j)(p:N.length=l)(u:∀(kV doc pm:PP)(an:Option On)(h ct:PP)(i:Wu),i.length=ps.length->bindArgs (PySem.W.fnOf y b (c8 d) (aT d) (ak d) .none kV doc pm an h ct) ⟨i,[]⟩=pure (ps.zip i))(t:∀(a:On)(h:PP)(A:SC)(outer:List PySem.Env)(s:KB)(H:Hp)(E:XK),D6 k (A.deeper (envOfC b (ak d) s.heap.objs.size f h))->fK (G.at (PR a)) (gP Lc P w K mg base N b (ak d) f h A outer s H E).L6 (aT d) e) :
  InAt P w K mg base (k+1) G c n x ps (NT c j l (List.replicate n Z) e):=⟨⟨f,m,fnM F S o p t,q,F.binds u⟩,r⟩
def vn{G:Gx}(F:Ku K x a b f l)(p:Meth K (G.ct (c+1)).1 x f)(q:MG K (G.ct (c+1)).1)(u:∀k,(G.ct (c+1)).2 k≠x)(S:bt N ps (ak b))(m:ps.length=i)(o:N.length=j)(t:∀(kV doc pm:PP)(an:Option On)(e ct:PP)(h:Wu),h.length=ps.length->bindArgs (PySem.W.fnOf x a (c8 b) (aT b) (ak b) .none kV doc pm an e ct) ⟨h,[]⟩=pure (ps.zip h))(r:∀(e:PP)(A:SC)(outer:List PySem.Env)(s:KB)(H:Hp)(E:XK),D6 k (A.deeper (envOfC a (ak b) s.heap.objs.size f e))->fK G (gP Lc P w K mg base N a (ak b) f e A outer s H E).L6 (aT b) d) :
  MpAt P w K mg base (k+1) G c x ps (fn i j d):=⟨⟨f,l,fnV F S m o r,p,F.binds t⟩,q,u⟩
end
section
def iG{X:Cx}(J:mM G)(F:MtAt X.prog X.w X.K X.mg X.base k G c m ps mv g)(r:D6 k' X.A)(t:k<=k')(s:N4 G X o i way)(u:Lj G X (e :: es) cs)(B:{`q8,K1 e es X})(a:{`q8,K2 pos es X})(q:{`q8,eval (.Call (.Attribute o m apos) (e :: es) [] pos) X.env=(do
   let d ← eval o X.env
   standAt apos.atName
   let (f,first) ← holding [d] (getMethod d m l)
   callWith pos f first (backTo pos (P3 (e :: es) X.env)) (backToKw pos (SL [] X.env)))}):PX G X (.Call (.Attribute o m apos) (e :: es) [] pos) (cL i way c mv g cs):=by
 obtain⟨f,fd,z,y,v⟩:=F.ex;exact Dl J F.no s F.cl y z r t v u B a q
def Dk{X:Cx}(F:MpAt X.prog X.w X.K X.mg X.base k G c m ps h)(r:D6 k' X.A)(t:k<=k')(s:PV G X o ca)(u:Lj G X (e :: es) cs)(B:K1 e es X)(a:K2 pos es X)(q:eval (.Call (.Attribute o m apos) (e :: es) [] pos) X.env=(do
   let d ← eval o X.env
   standAt apos.atName
   let (f,first) ← holding [d] (getMethod d m l)
   callWith pos f first (backTo pos (P3 (e :: es) X.env)) (backToKw pos (SL [] X.env)))):PV G X (.Call (.Attribute o m apos) (e :: es) [] pos) (jU c h ca cs):=by
 obtain⟨f,fd,z,y,v⟩:=F.ex;exact FE F.no s F.cl y z r t v u B a q
def sv{X:Cx}(F:MpAt X.prog X.w X.K X.mg X.base k G c m ps h)(q:D6 k' X.A)(s:k<=k')(r:PV G X o ca)(l:eval (.Call (.Attribute o m apos) [] [] pos) X.env=(do
   let a ← eval o X.env
   standAt apos.atName
   let (f,first) ← holding [a] (getMethod a m d)
   callWith pos f first (backTo pos (P3 [] X.env)) (backToKw pos (SL [] X.env)))):PV G X (.Call (.Attribute o m apos) [] [] pos) (jU c h ca au):=by
 obtain⟨f,fd,v,u,t⟩:=F.ex;exact Cb F.no r F.cl u v q s t l
def DS{X:Cx}(F:InAt X.prog X.w X.K X.mg X.base k G c 0 x ps g)(a:D6 k' X.A)(d:k+1<=k')(l:Gl X x)(t:K3 x):PV G X (.Call (.Name x p) [] [] pos) (eNew c g au):=by
 obtain⟨f,fd,s,r,q⟩:=F.ex;exact GK r s a d l F.mg q t
def Bi{apos pos:Pos}(J:mM G)(d:N4 G X o i way)(q:Lj G X [e] cs)(s:X.K=G.K)(w:XAA o "append" X.env (eval o X.env)=eval o X.env)(B:((backTo cp (P3 [e] X.env)).all (λx=>!x.1)&&(backToKw cp (SL [] X.env)).all (λx=>x.1.isSome)
   && decide ([e].length+([]:List Keyword).length+(if ([]:List Keyword).isEmpty then 0 else 1)<30))=true)(y:(apos.endLine==cp.line)=true)(a:K1 e [] X)(A:(backTo cp (P3 [] X.env)).any (·.1)=Z)(u:swapsWith (.Call (.Attribute o "append" apos) [e] [] cp) M pos.line X.env=pure Z) :
  PSV G X (.Expr (.Call (.Attribute o "append" apos) [e] [] cp) pos) (sX (nV i way bc cs)) :=
 Bl J YC Xi Xj gR l8 (λH v t F l z r h=>iV r h) d q s w B y a A u
end
noncomputable def QW(m:Nat)(t:T):T:=.obj 0 [(0,.bl J),(m,t)]
noncomputable def OL:T->Option (Nat×T)
 |.obj 0 [(0,.bl true),(m,t)]=>Y (m,t)
 |_=>M
def nG(h:OL t=Y (m,u)):t=QW m u:=by
 unfold OL at h;split at h
 ·cases h;rfl
 ·cases h
noncomputable def G0(a:List V):Me:=λk=>match k with
 |0=>M
 |k+1=>a[k]?
def markL:Nat->List Bool->W7->W7
 |k,b :: bs,t :: a=>(if b then QW (k+1) t else t) :: markL (k+1) bs a
 |_,_,_=>[]
def mQ(U:VS.Env):Nat->List Bool->Option (W7)
 |_,[]=>Y []
 |k,true :: bs=>match (U[k]?:Option (W4)) with
  |some (some (.ow t))=>(OL t).bind λz=>if z.1=k+1 then (mQ U (k+1) bs).map (z.2 :: ·) else M
  |_=>M
 |k,false :: bs=>mQ U (k+1) bs
noncomputable def dN{α:Type}:List Bool->List α->List α
 |true :: bs,x :: a=>x :: dN bs a
 |false :: bs,_ :: a=>dN bs a
 |_,_=>[]
noncomputable def RL(D:Kn):Nat->List Bool->Ye
 |_,[]=>[]
 |k,true :: bs=>D k :: RL D (k+1) bs
 |k,false :: bs=>RL D (k+1) bs
noncomputable def C6:T->Bool
 |.str _=>J
 |_=>Z
def AQ(b:W7)(v:Val):Bool:=Ko v.2||(match b,v with
 |[.lst [.int _]],(.fr,.lst a)=>a.all C6
 |_,_=>Z)
def DY(h:AQ b v=J):Ko v.2=J\/∃n a,b=[.lst [.int n]]/\v=(.fr,.lst a)/\a.all C6=J:=by
 rcases Bool.or_eq_true_iff.mp h with h | h
 ·exact .inl h
 ·split at h
  ·exact .inr ⟨_,_,rfl,rfl,h⟩
  ·cases h
def sj{a:W7}(h:a.all C6=J):fD a=J/\bY a=J:=by
 induction a with
 |nil=>exact⟨rfl,rfl⟩
 |cons t a b =>
  rw[Xh,ZJ]at h;cases t<;>first | exact b h.2 | cases h.1
def OV(e g:Nat)(a:List Bool)(b:Sx):W7->Option (W7×T)
 |f :: d=>if d.length+1=e/\a.length=d.length then
  (b ((Y (.ow (QW 1 f)) :: List.zipWith oY a (markL 1 a d))++List.replicate (g-e) M)).bind λo=>match o with
   |.rt v U=>(mQ U 0 (J :: a)).bind λos=>if AQ os v=J/\bY os=J then Y (os,v.2) else M
   |.nx U=>(mQ U 0 (J :: a)).bind λos=>if bY os=J then Y (os,.non) else M
   |_=>M else M
 |[]=>M
structure ChI(G:Gx)(H:Hp)(mv:List Bool)(vs:List V)(Fs:Ye)(os:W7)(H2:Hp)(Gs:Ye):Prop where
 kept:Kept H H2
 keep:∀b o,b∉Lf mv Fs->H b=some o->H2 b=some o
 KC:∀b,H b≠none->H2 b≠none
 rp:RpL G H2 (dN mv vs) os Gs
 nd:Gs.flatten.Nodup
 sub:∀a∈Gs.flatten,a∈Lf mv Fs\/H a=none
def Tt(G:Gx)(d:List Bool)(g:W7->Option (W7×T)):Sp:=λm H Q _=>∃(a:On)(i:List V)(j:T)(f:W7)(F:X6)(e:Ye)(os:W7)(x:T),m=.ref a :: i/\Rp G H (.ref a) j F/\RpL G H i f e/\(∀v∈dN d i,∃b,v=.ref b)/\iq j=J/\bY f=J/\d.length=f.length ∧
 (F++Lf d e).Nodup/\(∀b∈F++Lf d e,b∉NP d e)/\g (j :: f)=Y (os,x)/\∀u l Gs h,ChI G H (J :: d) m (F :: e) os l Gs->Rp G l u x h->h.Nodup->(∀a∈h,a∉Gs.flatten)->(∀a∈h,H a=M\/a∈F++Lf d e)->Q u l
section
variable{H:Hp}
def new_apart{n:Int}(r:RpL G H d [.lst [.int n]] Gs)(q:Rp w H u (.lst e) F)(f:e.all C6=J):∀a∈F,a∉Gs.flatten:=by
 cases r with
 |cons i r1 =>
  cases r1;obtain⟨a,d,z,rfl,rfl,t,s⟩:=i.lst_inv;obtain⟨p,x,y,rfl,rfl,h,g⟩:=q.lst_inv;rw[g.Ko (sj f).1];intro b hb v;rw[Zb]at hb;subst hb;cases s with
  |cons o m =>
   cases m;cases o;have:b=a:=by simpa using v
   subst this;rw[t]at h;cases h;cases g with
   |cons l j =>
    cases j;cases l;cases f
theorem wH{G:Gx}{m:Me}:∀{bs:List Bool}{d:List V}{e:W7}{f:Ye}(k:Nat),RpL (G.at m) H d e f->(∀v∈dN bs d,∃b,v=.ref b)->(∀j,m (k+1+j)=d[j]?)->bs.length=e.length->RpL (G.at m) H d (markL k bs e) f
 |[],_,_,_,k,.nil,_,_,_=>.nil
 |[],_,_,_,k,.cons _ _,_,_,h=>by simp at h
 |_ :: _,_,_,_,k,.nil,_,_,h=>by simp at h
 |b :: bs,v :: d,t :: e,F :: f,k,.cons r q,i,hm,hl=>by
  have g:=wH (bs:=bs) _ q (λw hw=>i w (by cases b<;>simp[dN,hw])) (λj=>by rw[show k+1+1+j=k+1+(j+1) by omega,hm _];rfl) (by simpa using hl);cases b with
  |false=>exact .cons r g
  |true =>
   obtain⟨a,rfl⟩:=i v (by simp[dN]);exact .cons (.mk (hm 0) r) g
theorem vm{G:Gx}(s:SR (G.at (G0 f)) D U O H):∀(bs:List Bool)(k:Nat)(os:W7),mQ U k bs=Y os->bY os=J →
  RpL G H (dN bs (f.drop k)) os (RL D k bs)/\(RL D k bs).flatten.Nodup/\∀a∈(RL D k bs).flatten,∃j t,k<=j/\U[j]?=Y (Y (.ow t))/\a∈D j
 |[],k,os,h,_=>by
  cases h;refine⟨?_,Z3,λa h=>nomatch h⟩;cases f.drop k<;>exact .nil
 |false :: bs,k,os,h,g=>by
  obtain⟨d,o,n⟩:=vm s bs _ os h g;refine⟨?_,o,λa B=>?_⟩
  ·rw[← List.drop_drop,List.drop_one]at d;cases q:f.drop k with
   |nil=>rw[q]at d;cases bs<;>(try rename_i b _;cases b)<;>exact d
   |cons v r=>rw[q]at d;exact d
  ·obtain⟨j,t,w,i⟩:=n a B;exact⟨j,t,by omega,i⟩
 |true :: bs,k,os,h,g=>by
  unfold mQ at h;split at h
  ·rename_i t l;obtain⟨⟨m,u⟩,e1,e2⟩:=Zz.mp h;split at e2
   ·rename_i hm;refine L2.ah λR x=>?_;obtain⟨Q,e3,rfl⟩:=Zy.mp e2;have g:=ZZ.mp g;obtain⟨d,o,n⟩:=vm s bs _ _ e3 g.2;have L:=nG e1;subst L;subst hm;obtain⟨v,P,F⟩:=s.rp k _ l;obtain⟨a,rfl,E,C⟩:=o7 (F);refine x ?_;have hd:f.drop k=.ref a :: f.drop (k+1):=by
     obtain⟨y,e⟩:=Zk.mp E;rw[Yc y,e]
    refine⟨?_,?_,λb hb=>?_⟩
    ·rw[hd];exact .cons (C.at _ g.1) d
    ·show (D k++(RL D _ bs).flatten).Nodup;refine ZR.mpr ⟨s.nd k _ l,o,λb hb c A z=>?_⟩;subst z;obtain⟨j,p,w,i,N⟩:=n b A;exact s.sep k j _ _ l i (by omega) b hb N
    ·rcases ZU.mp (hb) with z | z
     ·exact⟨k,_,Zn _,l,z⟩
     ·obtain⟨j,p,w,i⟩:=n b z;exact⟨j,p,by omega,i⟩
   ·cases e2
  ·cases h
end
section
variable{K:Xd}
def fnI{G:Gx}(F:Ku K x g R f fd)(S:bt N ps (ak R))(hp:ps.length=np)(hn:N.length=nn)(hb:∀(m:Me)(Kr:PP)(A:SC)(outer:List PySem.Env)(s:KB)(H:Hp)(E:XK),D6 k (A.deeper (envOfC g (ak R) s.heap.objs.size f Kr))->fK (G.at m) (gP Lc P w K mg base N g (ak R) f Kr A outer s H E).L6 (aT R) l) :
  FnOk P w K mg base Lc (k+1) f fd ps (Tt G mv (OV np nn mv l)):=by
 refine F.ok S (λvs H Q E h=>?_) λKr A outer s H vs Q E hr h=>?_
 ·refine L2.ah λP_ k_=>?_;obtain⟨a,p,t0,d,F0,Fs,os,y,rfl,r0,r,U,no,X,hm,nd,sp,e,q⟩:=h;refine k_ ?_;dsimp only[OV]at e;split at e
  ·rename_i hl;rw[Ze,r.len.1,hl.1,hp]
  ·cases e
 ·refine L2.ah λP_ k_=>?_;obtain⟨a,p,t0,d,F0,Fs,os,y,rfl,r0,r,U,no,X,hm,nd,sp,e,q⟩:=h;refine k_ ?_;refine⟨_,hb (G0 (.ref a :: p)) _ A _ s H E hr,?_⟩;dsimp only[OV]at e;split at e
  ·rename_i hl;obtain⟨o,e1,e2⟩:=Zz.mp e;have hml:∀(bs:List _)(d:W7)(k:Nat),bs.length=d.length->(markL k bs d).length=d.length:=by
    intro bs
    induction bs with
    |nil=>intro d k h;rw[YU.mp h.symm];rfl
    |cons b bs ih =>
     intro d k h;cases d with
     |nil=>simp at h
     |cons t d=>exact congrArg (·+1) (ih d _ (WX h))
   have m1:=wH 1 (r.at (G0 (.ref a :: p)) X) U (λj=>by rw[show 1+1+j=(1+j)+1 by omega];rw[Nat.add_comm 1 j];rfl) hm;obtain⟨s0,Oi⟩:=tu (Rp.mk (m:=1) (rfl) (r0.at _ no)) m1 (by rw[hml mv d 1 hm];exact hm) nd sp nn _ L;rw[hml mv d 1 hm,hl.1]at s0 Oi;have e3:L2.start N (V.ref a :: p)=(V.ref a :: p).map Y++List.replicate (nn-(p.length+1)) M:=by
    unfold L2.start;rw[hn];rfl
   rw[e3];have Ss:=Oi;have fin:∀{O:VS.Env}{D':Kn}{O':L2.St}{i:Hp}{os:W7},mQ _ 0 _=Y os->bY os=J->SR _ _ _ O' i->Kq _ _ H _ O i →
     ChI G H (J :: mv) (.ref a :: p) (F0 :: Fs) os i (RL D' 0 _):=λ{O D' O' i os} ho O0 C fr=>by
    obtain⟨h1,h2,h3⟩:=vm C _ 0 os ho O0;refine⟨fr.kept,λD o' K8 ho=>(fr.keep D o' ho λz=>K8 (Ss D z)).1,fr.KC,h1,h2,λD K8=>?_⟩;obtain⟨j,t,_,a2,a3⟩:=h3 D K8;rcases fr.ow D ⟨j,t,a2,a3⟩ with z | z
    ·exact .inl (Ss D z)
    ·exact .inr z
   refine⟨_,_,o,s0,e1,?_⟩;cases o with
   |nx O =>
    obtain⟨os2,e4,B⟩:=Zz.mp e2;split at B
    ·rename_i hi;cases B;intro D' O' i C fr;exact q _ i _ [] (fin e4 hi C fr) .non Z3 (λa h=>nomatch h) λa h=>nomatch h
    ·cases B
   |rt v O =>
    obtain⟨os2,e4,B⟩:=Zz.mp e2;split at B
    ·rename_i hi;cases B;intro u i F' D' O' C fr r' U;rcases DY hi.1 with z | ⟨n,Mg,rfl,rfl,z⟩
     ·have:=r'.Ko z;subst this;exact q u i _ [] (fin e4 hi.2 C fr) (r'.at _ (oJ _ z)) Z3 (λa h=>nomatch h) λa h=>nomatch h
     ·have ch:=fin e4 hi.2 C fr;exact q u i _ F' ch (r'.at _ (sj z).2) U.1 (new_apart ch.rp r' z) λa ha=>(U.2 a ha).imp id (Ss a)
    ·cases B
   |bk O=>cases e2
   |ct O=>cases e2
  ·cases e
end
section
def SR.mutS{G:Gx}{D x:Kn}{U L:VS.Env}{O:L2.St}{H F:Hp}{S:Nat->Prop}(s:SR G D U O H)(hl:L.length=U.length)(l:∀j,¬S j->L[j]?=U[j]?/\x j=D j)(C:∀j,S j->∃t N v,U[j]?=Y (Y (.ow t))/\L[j]?=Y (Y (.ow N))/\O[j]?=Y (Y v)/\Rp G F v N (x j)/\(x j).Nodup)(ap:∀i j,S i->S j->i≠j->∀a∈x i,a∉x j)(y:Kept H F)(A:∀b o,(∀j,S j->b∉D j)->H b=Y o->F b=Y o)(KC:∀b,H b≠M->F b≠M)(B:∀j,S j->∀a∈x j,(∃i,S i/\a∈D i)\/H a=M) :
  SR G x L O F/\Kq D U H x L F:=by
 have X:∀j c,¬S j->U[j]?=Y _->∀a∈D j,∀i,S i->a∉D i:=λj c d P a u i f E=>by
  obtain⟨t,_,_,m,_⟩:=C i f;exact s.sep i j t c m P (λe=>d (e ▸ f)) a E u
 have new:∀i,S i->∀a∈x i,∀j c,¬S j->U[j]?=Y _->a∉D j:=λi f a u j c d P E=>by
  rcases B i f a u with⟨k,hk,z⟩ | z
  ·exact X j c d P a E k hk z
  ·obtain⟨w,_,q⟩:=s.rp j c P;exact Kv.pe (q.KC a E) z
 refine⟨⟨hl.trans s.len,λi c h=>?_,λi t h=>?_,λi j t c m r n=>?_⟩,⟨λa o h n=>⟨A a o (λj d z=>?_) h,λz=>?_⟩,KC,λa h=>?_,λa h=>?_,y⟩⟩
 ·by_cases f:S i
  ·obtain⟨t,N,v,g,p,R,Q,_⟩:=C i f;rw[p]at h;cases h;exact⟨v,R,Q⟩
  ·obtain⟨g,p⟩:=l i f;rw[g]at h;obtain⟨v,q1,q2⟩:=s.rp i c h;rw[p];exact⟨v,q1,q2.keep y λa u o ho=>A a o (λj d=>X i c f h a u j d) ho⟩
 ·by_cases f:S i
  ·exact(C i f).choose_spec.choose_spec.choose_spec.2.2.2.2
  ·obtain⟨g,p⟩:=l i f;rw[g]at h;rw[p];exact s.nd i t h
 ·by_cases f:S i
  ·by_cases d:S j
   ·exact ap i j f d n
   ·obtain⟨g,p⟩:=l j d;rw[g]at r;rw[p];exact λa u=>new i f a u j c d r
  ·obtain⟨g,p⟩:=l i f;rw[g]at m;rw[p];by_cases d:S j
   ·exact λa u E=>new j d a E i _ f m u
   ·obtain⟨R,Q⟩:=l j d;rw[R]at r;rw[Q];exact s.sep i j t c m r n
 ·obtain⟨t,_,_,m,_⟩:=C j d;exact n ⟨j,t,m,z⟩
 ·obtain⟨j,t,m,r⟩:=z;by_cases d:S j
  ·rcases B j d a r with⟨i,f,z⟩ | z
   ·obtain⟨t,_,_,g,_⟩:=C i f;exact n ⟨i,t,g,z⟩
   ·rw[z]at h;cases h
  ·obtain⟨g,p⟩:=l j d;rw[g]at m;rw[p]at r;exact n ⟨j,t,m,r⟩
 ·obtain⟨j,t,m,r⟩:=h;by_cases d:S j
  ·rcases B j d a r with⟨i,f,z⟩ | z
   ·obtain⟨t,_,_,g,_⟩:=C i f;exact .inl ⟨i,t,g,z⟩
   ·exact .inr z
  ·obtain⟨g,p⟩:=l j d;rw[g]at m;rw[p]at r;exact .inl ⟨j,t,m,r⟩
 ·obtain⟨j,t,m,r⟩:=h;by_cases d:S j
  ·obtain⟨t,N,v,g,p,_⟩:=C j d;grind
  ·obtain⟨g,p⟩:=l j d;rw[g]at m;rw[p]at r;exact .inl ⟨j,t,m,r⟩
end
inductive Ia where | io (i:Nat) (un:Bool) | ex (c:Ex)
def T4(a:Bool):Option (W4)->Option T
 |some (some (.ow t))=>if a then (OL t).map (·.2) else if oC t then Y t else M
 |_=>M
def exV(v:Val):Option T:=match v.1 with
 |.bo=>if Ko v.2 then Y v.2 else M
 |_=>Y v.2
def pj(U:VS.Env):List Ia->Option (W7)
 |[]=>Y []
 |.io i un :: a=>(T4 un U[i]?).bind λt=>(pj U a).map (t :: ·)
 |.ex c :: a=>(c U).bind λv=>(exV v).bind λt=>(pj U a).map (t :: ·)
noncomputable def Mb:List Ia->List Bool
 |[]=>[]
 |.io _ _ :: a=>J :: Mb a
 |.ex _ :: a=>Z :: Mb a
noncomputable def Lh:List Ia->Wa
 |[]=>[]
 |.io i _ :: a=>i :: Lh a
 |.ex _ :: a=>Lh a
def zU(a:Bool)(c:Option (W4))(o:T):T:=if a then (match c with
 |some (some (.ow t))=>(match OL t with
  |some z=>QW z.1 o
  |none=>o)
 |_=>o) else o
def jm:List Ia->W7->VS.Env->VS.Env
 |.io i un :: a,o :: os,U=>jm a os (U.set i (Y (.ow (zU un U[i]? o))))
 |.ex _ :: a,os,U=>jm a os U
 |_,_,U=>U
def oz(a:List Ia)(g:W7->Option (W7×T)):Xx:=λU=>(pj U a).bind λb=>if bY b=J/\(Lh a).Nodup then (g b).map λz=>((.fr,z.2),jm a z.1 U) else M
inductive QH(D:Kn)(U:VS.Env)(O:L2.St)(H:Hp):List Ia->List V->Ye->Prop
 |nil:QH D U O H [] [] []
 |io {i:Nat} {un:Bool} {a:On} {as:List Ia} {vs:List V} {Fs:Ye}:O[i]?=some (some (.ref a))->QH D U O H as vs Fs->QH D U O H (.io i un :: as) (.ref a :: vs) (D i :: Fs)
 |ex {c:Ex} {v:V} {F:X6} {as:List Ia} {vs:List V} {Fs:Ye}:(∀a∈F,H a=none\/c9 D U a)->QH D U O H as vs Fs->QH D U O H (.ex c :: as) (v :: vs) (F :: Fs)
section
def Hz(r:Rp G H v t F)(h:oC t=J):∃a,v=.ref a:=by
 cases r<;>first | exact⟨_,rfl⟩ | (cases h)
end
section
variable{H:Hp}
structure IaF(G:Gx)(D:Kn)(U:VS.Env)(O:L2.St)(H:Hp)(as:List Ia)(ts:W7)(vs:List V)(Fs:Ye):Prop where
 ref:∀v∈dN (Mb as) vs,∃b,v=.ref b
 len:(Mb as).length=ts.length
 mv:∀a,a∈Lf (Mb as) Fs ↔ ∃j∈Lh as,a∈D j
 pu:∀a∈NP (Mb as) Fs,H a=none\/c9 D U a
 ow:∀i un,Ia.io i un∈as->∃t a,U[i]?=some (some (.ow t))/\O[i]?=some (some (.ref a))/\(un=true->∃m u,OL t=some (m,u)/\G.me m=some (.ref a))
 nd:(Lh as).Nodup->(Lf (Mb as) Fs).Nodup
theorem jE:∀{a:List Ia}{i:Nat},i∈Lh a ↔ ∃un,Ia.io i un∈a
 |[],i=>⟨(λh=>nomatch h),λ⟨_,h⟩=>nomatch h⟩
 |.io j un :: a,i=>by
  show i∈j :: Lh a↔_;rw[Zj,jE];grind
 |.ex c :: a,i=>by
  show i∈Lh a↔_;rw[jE];grind
def Ba(s:SR G D U O H):∀{g:List Ia}{p:W7}{n:List V}{l:Ye},pj U g=Y p->QH D U O H g n l->IaF G D U O H g p n l:=by
 intro g
 induction g with
 |nil =>
  intro p n l e r;cases e;cases r;exact⟨(λv h=>nomatch h),rfl,λa=>⟨(λh=>nomatch h),λ⟨_,h,_⟩=>nomatch h⟩,(λa h=>nomatch h),(λi un h=>nomatch h),λ_=>Z3⟩
 |cons x g C =>
  intro p n l e r;cases r with
  |@io i un a _ n l h r =>
   obtain⟨t,e1,e2⟩:=Zz.mp (e);obtain⟨B,e3,rfl⟩:=Zy.mp e2;have f:=C e3 r;have hi:∃o,U[i]?=Y (Y (.ow o))/\(un=J->∃m u,OL o=Y (m,u)/\G.me m=Y (.ref a)):=by
    unfold T4 at e1;split at e1
    ·rename_i o h0;refine⟨o,h0,λE=>?_⟩;rw[E,Zm L]at e1;refine L2.ah λP_ k_=>?_;obtain⟨⟨m,u⟩,A,g2⟩:=Zy.mp e1;obtain⟨v,P,h2⟩:=s.rp _ _ h0;rw[h]at P;cases P;have R:=h2;rw[nG A]at R;obtain⟨a',q1,q2,_⟩:=o7 R
     simp_all
    ·cases e1
   obtain⟨o,h0,E⟩:=hi;have q:∀b,b∈D i++Lf _ l ↔ ∃j∈i :: Lh g,b∈D j:=λb=>by
    rw[ZU,f.mv]
    simp_all
   refine⟨λv y=>?_,?_,q,?_,λw Q d=>?_,λnd=>?_⟩
   ·rcases Zj.mp (y) with rfl | y
    ·exact⟨a,rfl⟩
    ·exact f.ref v y
   ·show (Mb g).length+1=B.length+1;rw[f.len]
   ·exact λb hb=>f.pu b hb
   ·rcases Zj.mp d with d | d
    ·simp_all
    ·exact f.ow w _ d
   ·have S:=Zd.mp (nd);show (D i++Lf _ l).Nodup;refine ZR.mpr ⟨s.nd i _ h0,f.nd S.2,λb hb b' K8 z=>?_⟩;subst z;obtain⟨j,N,z⟩:=(f.mv b).mp K8;obtain⟨Q,Nc⟩:=jE.mp N;obtain⟨X,_,A,_⟩:=f.ow j _ Nc;exact s.sep i j _ _ h0 A (λe=>S.1 (e ▸ N)) b hb z
  |@ex c v F _ n l h r =>
   obtain⟨⟨m,t⟩,e1,e2⟩:=Zz.mp (e);obtain⟨X,_,e4⟩:=Zz.mp e2;obtain⟨B,e5,rfl⟩:=Zy.mp e4;have f:=C e5 r;refine⟨f.ref,?_,f.mv,λa ha=>?_,λw Q d=>?_,f.nd⟩
   ·show (Mb g).length+1=B.length+1;rw[f.len]
   ·rcases ZU.mp (ha) with z | z
    ·exact h a z
    ·exact f.pu a z
   ·rcases Zj.mp d with d | d
    ·cases d
    ·exact f.ow w _ d
def ym{G:Gx}{O:L2.St}:∀{d:List Ia}{vs:List V}{Fs:Ye}{os:W7}{Gs:Ye}{U:VS.Env},(∀i un,Ia.io i un∈d->∃t a,U[i]?=Y (Y (.ow t))/\O[i]?=Y (Y (.ref a))/\(un=J->∃m u,OL t=Y (m,u)/\G.me m=Y (.ref a)))->(Lh d).Nodup →
  (∀(n:Nat)(v:V),(dN (Mb d) vs)[n]?=Y v->∃i:Nat,(Lh d)[n]?=Y i/\O[i]?=Y (Y v))->RpL G R (dN (Mb d) vs) os Gs->(dN (Mb d) vs).length=(Lh d).length →
  (jm d os U).length=U.length/\(∀j:Nat,j∉Lh d->(jm d os U)[j]?=U[j]?)/\∀(n j:Nat),(Lh d)[n]?=Y j->∃(t l:T)(v:V)(F:X6),U[j]?=Y (Y (Cell.ow t))/\(jm d os U)[j]?=Y (Y (Cell.ow l))/\O[j]?=Y (Y v)/\Gs[n]?=Y F/\Rp G R v l F:=by
 intro d
 induction d with
 |nil=>intro vs Fs os Gs U _ _ _ r _;exact⟨rfl,λ_ _=>rfl,λn j h=>by simp[Lh]at h⟩
 |cons x d y =>
  intro vs Fs os Gs U ow nd al r hl;cases x with
  |ex c =>
   cases vs with
   |nil =>
    have e:(dN (Mb (.ex c :: d)) ([]:List V))=[]:=rfl;have e2:Lh d=[]:=YU.mp (by rw[e]at hl;exact hl.symm);rw[e]at r;cases r;obtain⟨C,q,B⟩:=y (vs:=[]) (Fs:=Fs) (λi un h=>ow i un (Zw _ h)) nd (λn v h=>by cases Mb d<;>(try rename_i b _;cases b)<;>simp[dN]at h) (by cases Mb d<;>(try rename_i b _;cases b)<;>exact .nil) (by rw[e2];cases Mb d<;>(try rename_i b _;cases b)<;>rfl);exact⟨C,q,B⟩
   |cons v vs=>exact y (Fs:=Fs) (λi un h=>ow i un (Zw _ h)) nd al r hl
  |io i un =>
   have s:=Zd.mp (nd);cases vs with
   |nil=>simp[Mb,dN,Lh]at hl
   |cons v vs =>
    cases r with
    |@cons _ o F _ os Gs E r =>
     obtain⟨t,a,h0,P,hu⟩:=ow i un Zv;have hv:v=.ref a:=by
      obtain⟨p,g,f⟩:=al 0 v L;cases (g);rw[P]at f;cases f;rfl
     subst hv;obtain⟨C,q,B⟩:=y (Fs:=Fs) (U:=U.set i (Y _)) (λp Sl h=>by
      obtain⟨l,a',g,f⟩:=ow p _ (Zw _ h);have ne:i≠p:=λe=>s.1 (e ▸ jE.mpr ⟨_,h⟩);exact⟨l,a',by rw[ZH ne];exact g,f⟩) s.2 (λn w h=>by
      obtain⟨p,g,f⟩:=al (n+1) w h;exact⟨p,g,f⟩) r (by simpa[Mb,dN,Lh] using hl)
     refine⟨by rw[show jm _ _ U=jm d os (U.set i _) from rfl,C,ZF],λj N=>?_,λn j A=>?_⟩
     ·have Q:j≠i/\j∉Lh d:=⟨λe=>N (e ▸ Zv),λz=>N (Zw _ z)⟩
      exact(q j Q.2).trans (ZH (Z9 Q.1))
     ·cases n with
      |zero =>
       cases (A);refine⟨t,_,_,F,h0,(q i s.1).trans (Yh ((Zk.mp h0).1)),P,rfl,?_⟩;cases un with
       |false=>exact E
       |true =>
        obtain⟨m,u,g,f⟩:=hu L;have:zU J U[i]? o=QW m o:=by
         unfold zU;rw[Zm L,h0];show (match OL t with | some z=>QW _ o | none=>o)=_;rw[g]
        rw[this];exact .mk f E
      |succ n =>
       refine L2.ah λP_ X=>?_;obtain⟨l,t2,S,F',g,f,g3,g4,g5⟩:=B n j A;refine X ?_;have ne:i≠j:=λe=>s.1 (e ▸ Yx (A));rw[ZH ne]at g;exact⟨l,t2,S,F',g,f,g3,g4,g5⟩
def Io:∀{b:List Ia}{d:List V}{f:Ye},QH D U O j b d f->(∀(n:Nat)(v:V),(dN (Mb b) d)[n]?=Y v->∃i:Nat,(Lh b)[n]?=Y i/\O[i]?=Y (Y v))/\(dN (Mb b) d).length=(Lh b).length:=by
 intro b d f r
 induction r with
 |nil=>exact⟨λn v h=>by simp[Mb,dN]at h,rfl⟩
 |@io i un a b d f h _ e =>
  refine⟨λn v g=>?_,by simpa[Mb,dN,Lh] using e.2⟩;cases n with
  |zero=>cases (g);exact⟨i,rfl,h⟩
  |succ n=>exact e.1 n v g
 |ex _ _ e=>exact e
end
section
structure UQ(D:Kn)(U:VS.Env)(H:Hp)(D':Kn)(U':VS.Env)(F:X6):Prop where
 nd:F.Nodup
 ap:∀j c,U'[j]?=some (some c)->∀a∈F,a∉D' j
 of:∀a∈F,H a=none\/bD D U a
noncomputable def V3(G:Gx)(x:Xx):TE:=λO H Q=>∃D U v a,SR G D U O H/\x U=Y (v,a)/\∀u b d F,SR G d a O b->Kq D U H d a b->Rp G b u v.2 F->UQ D U H d a F->Q u b
def PXN(G:Gx)(X:Cx)(e:Expr)(x:Xx):Prop:=PE X e (V3 G x)
def PXN.px{x:Xx}(h:PXN G X e x):PX G X e x:=PE.weak h λO H Q b=>by
 obtain⟨D,U,v,l,s,e,d,k⟩:=b;exact⟨D,U,v,_,s,e,λu j m F a f r _=>k u j _ a f (r.Ko d ▸ r)⟩
def UQ.back(f:Kq D U H j b h)(n:UQ j b h l d F):UQ D U H l d F :=
 ⟨n.nd,n.ap,λa m=>(n.of a m).elim (λz=>.inl (f.none z)) λz=>(f.ow a z).elim .inr .inl⟩
def uK(s:SR G D U O H)(e:oz (.io i un :: as) g U=Y (v,U'))(e0:pj U (.io i un :: as)=Y ts)(S:aG H H1)(rp:RpL G H1 vs ts Fs)(ia:QH D U O H (.io i un :: as) vs Fs)(kq:∀u P D' F,SR G D' U' O P->Kq D U H D' U' P->Rp G P u v.2 F->UQ D U H D' U' F->Q u P):Tt G (Mb as) g vs H1 Q E:=by
 unfold oz at e;rw[e0,Zq]at e;have e2:=e;split at e2
 ·rename_i L;obtain⟨⟨os,y⟩,eg,e3⟩:=Zy.mp e2
  ·cases e3;have r:=Ba s e0 ia;have al:=Io ia;cases ia with
   |@io _ _ a _ us Fs hσ ia =>
    cases rp with
    |@cons _ t0 _ _ Mg _ r0 rp =>
     have no:iq t0=J/\bY Mg=J:=by
      have:=L.1;exact(ZZ.mp this)
     refine⟨a,us,t0,_,_,Fs,os,y,rfl,r0,rp,λv hv=>r.ref v (Zw _ hv),no.1,no.2,by simpa[Mb] using r.len,r.nd L.2,λb hb K8=>?_,eg,λu P Gs Fu ch ru fnd fap fof=>?_⟩
     ·obtain⟨j,d,z⟩:=(r.mv b).mp hb;obtain⟨Sl,N⟩:=jE.mp d;obtain⟨t,_,A,_⟩:=r.ow j _ N;rcases r.pu b K8 with q | ⟨j2,t2,q1,C⟩
      ·exact Kv.pe (s.KD ⟨j,t,A,z⟩) q
      ·refine s.sep j j2 t _ A q1 (λe=>?_) b z C;rw[e,q1]at A;cases A
     ·obtain⟨p1,p2,p3⟩:=ym (Fs:=[]) r.ow L.2 al.1 ch.rp al.2;have at_:∀j,j∈Lh _->∃n F,(Lh _)[n]?=Y j/\n=(Lh _).idxOf j/\Gs[n]?=Y F:=λj d=>by
       have:(Lh (.io i un :: as))[(Lh (.io i un :: as)).idxOf j]?=Y j:=by
        rw[Zr (Yl.mpr d),XC]
       obtain⟨_,_,_,F,_,_,_,q,_⟩:=p3 _ j this;exact⟨_,F,this,rfl,q⟩
      have R:∀j,j∈Lh _->(if j∈Lh (.io i un :: as) then Gs.getD _ [] else D j)=Gs.getD ((Lh (.io i un :: as)).idxOf j) []:=λj d=>Zm d;obtain⟨z1,z2⟩:=s.mutS p1 (λj d=>⟨p2 j d,Zl d⟩) (λj d=>by
       refine L2.ah λP_ k_=>?_;obtain⟨n,F,q1,C,m⟩:=at_ j d
       obtain⟨t,t',v,F',w1,w2,w3,w4,w5⟩:=p3 n j q1;rw[m]at w4;cases w4;refine k_ ?_;have eF:(if j∈Lh (.io i un :: as) then Gs.getD ((Lh (.io i un :: as)).idxOf j) [] else D j)=F:=by rw[R j d,← C,Zo,m];rfl
       refine⟨t,t',v,w1,w2,w3,?_,?_⟩
       ·rw[eF];exact w5
       ·rw[eF];exact ch.nd.sublist (bM m)) (λj j' d N n a l B=>by
       rw[R j d]at l;rw[R j' N]at B;obtain⟨n1,F,q1,C,m⟩:=at_ j d
       obtain⟨n2,F',Tz,WA,q3'⟩:=at_ j' N
       rw[← C,Zo,m]at l;rw[← WA,Zo,q3']at B;exact rS ch.nd m q3' (λe=>n (by rw[e,Tz]at q1;exact(ZX q1).symm)) l B) ((Kept.of S).trans ch.kept) (λb o hb ho=>ch.keep b o (λz=>by
       obtain⟨j,d,z'⟩:=(r.mv b).mp z;exact hb j d z') (S b o ho)) (λb h=>ch.KC b λz=>h (S.free z)) (λj d a l=>by
       rw[R j d]at l;obtain⟨n1,F,q1,C,m⟩:=at_ j d
       rw[← C,Zo,m]at l;rcases ch.sub a ((bM m).subset l) with z | z
       ·exact .inl ((r.mv a).mp z)
       ·exact .inr (S.free z))
      have Uy:∀a∈Fu,H a=M\/∃j t,j∈Lh _/\U[j]?=Y _/\a∈D j:=λa l=>by
       rcases fof a l with z | z
       ·exact .inl (S.free z)
       ·obtain⟨j,d,z'⟩:=(r.mv a).mp z;obtain⟨Sl,N⟩:=jE.mp d;obtain⟨t,_,A,_⟩:=r.ow j _ N;exact .inr ⟨j,t,d,A,z'⟩
      refine kq u P _ Fu z1 z2 ru ⟨fnd,λj c L a l B=>?_,λa l=>(Uy a l).imp id λ⟨j,t,_,A,g2⟩=>⟨j,t,A,g2⟩⟩;by_cases d:j∈Lh (.io i un :: as)
      ·rw[R j d]at B;obtain⟨n1,F,q1,C,m⟩:=at_ j d
       rw[← C,Zo,m]at B;exact fap a l ((bM m).subset B)
      ·rw[Zl d]at B;rw[p2 j d]at L;rcases Uy a l with z | ⟨j2,t,g0,A,g2⟩
       ·obtain⟨w,_,q⟩:=s.rp j c L;exact Kv.pe (q.KC a B) z
       ·exact s.sep j2 j t c A L (λe=>d (e ▸ g0)) a g2 B
 ·cases e2
end
def VM(c:Ex):Ex:=λU=>(c U).bind λv=>(OL v.2).map λz=>(v.1,z.2)
abbrev Xt:=VS.Env->Option (Bool×VS.Env)
noncomputable def tXT(G:Gx)(x:Xt):TT:=λO H Q=>∃D U b a,SR G D U O H/\x U=Y (b,a)/\∀d e,SR G e a O d->Kq D U H e a d->Q b d
def SQ(G:Gx)(X:Cx)(e:Expr)(x:Xt):Prop:=PT X e (tXT G x)
def UP(G:Gx)(X:Cx)(e:Expr)(x:Xt):Prop:=PW X e (tXT G x)
noncomputable def QJ(x:Xx):Xt:=λU=>(x U).bind λz=>match z.1.2 with
 |.bl b=>Y (b,z.2)
 |_=>M
noncomputable def vI(x:Xt)(a b:Sx):Sx:=λU=>(x U).bind λz=>if z.1 then a z.2 else b z.2
section
def Jx(h:PV G X e c):PV G X e (VM c):=PE.weak h λO H Q j=>by
 obtain⟨D,U,m,t,s,e,k⟩:=j;obtain⟨⟨i,y⟩,e1,e2⟩:=Zz.mp e;obtain⟨⟨n,u⟩,e3,l⟩:=Zy.mp e2;cases l;refine⟨D,U,i,y,s,e1,λv o F g r f=>k v o F g ?_ f⟩;have d:=r;rw[nG (show OL y=Y _ from e3)]at d;obtain⟨a,rfl,_,q⟩:=o7 d;exact q
def UP.pxt(h:UP G X e xt):SQ G X e xt:=PW.pt h
def Aa(i:SQ G X e xt)(l:fK G X g c1)(j:fK G X d c2):PSV G X (.If e g d pos) (vI xt c1 c2):=PS.weak (AY i l j) λDb O H h=>by
 obtain⟨D,U,o,s,e,k⟩:=h;obtain⟨⟨f,m⟩,e1,e2⟩:=Zz.mp e;refine⟨D,U,f,_,s,e1,λn p s1 f1=>?_⟩;cases f with
 |true=>exact uL ⟨_,_,o,s1,e2,k.back f1⟩
 |false=>exact uZ ⟨_,_,o,s1,e2,k.back f1⟩
end
structure IoAt(P:SB)(w:UV)(K:Xd)(mg:X4)(base:UF)(k:Nat)(x:Str)(ps:List Str)(G:Gx)(mv:List Bool)(g:W7->Option (W7×T)):Prop where
 ex:∃f fd,FnOk P w K mg base Lc k f fd ps (Tt G mv g)/\mg x=some (.ref f)/\PySem.W.keepIn K (.ref f)=true/\Binds K fd ps []
section
variable{K:Xd}
def qK{G:Gx}(F:Ku K x x a f i)(n:mg x=Y (.ref f))(S:bt N ps (ak a))(j:ps.length=g)(l:N.length=h)(p:∀(kV doc pm:PP)(an:Option On)(d ct:PP)(e:Wu),e.length=ps.length->bindArgs (PySem.W.fnOf x x (c8 a) (aT a) (ak a) .none kV doc pm an d ct) ⟨e,[]⟩=pure (ps.zip e))(o:∀(m:Me)(d:PP)(A:SC)(outer:List PySem.Env)(s:KB)(H:Hp)(E:XK),D6 k (A.deeper (envOfC x (ak a) s.heap.objs.size f d))->fK (G.at m) (gP Lc P w K mg base N x (ak a) f d A outer s H E).L6 (aT a) b) :
  IoAt P w K mg base (k+1) x ps G mv (OV g h mv b):=⟨f,i,fnI F S j l o,n,F.kp,F.binds p⟩
end
end VS
end
section
namespace VS
open PySem PySem.Spec PyProof.Rows L2
section
def nQ{b:Expr}(o:PV G X a g)(n:PV G X b f)(l:PV G X c d)(j:lastMarks [.Lt,.Lt] [b,c]=Z):MQ G X (.Compare a [.Lt,.Lt] [b,c] pos) (iJ oLt oLt g f d) :=
 PT.weak (uu rq rq o n l j) λO H Q h=>oV h (λU m r e=>by
  obtain⟨x,u,e⟩:=Zz.mp e;obtain⟨y,t,e⟩:=Zz.mp e;obtain⟨⟨p,z⟩,s,e⟩:=Zz.mp e;cases z with
  |bl q =>
   cases q with
   |false=>grind
   |true =>
    obtain⟨i,ec,e⟩:=Zz.mp (e);exact kH y i m r e
  |_=>cases e) λQ h=>su xU xU h
end
def xI(c:Ex):Xx:=λU=>(c U).bind λv=>if Ko v.2=J then Y ((.fr,v.2),U) else M
def x2(f:Val->Val->W6)(a b:Xx):Xx:=λU=>(a U).bind λz=>(b z.2).bind λw=>(f (.fr,z.1.2) (.fr,w.1.2)).bind λv=>if Ko z.1.2=J/\Ko w.1.2=J/\Ko v.2=J then Y ((.fr,v.2),w.2) else M
def jR(c:Ex)(x:Xt):Xt:=λU=>(c U).bind λv=>(ON v.2).bind λb=>if b then x U else Y (Z,U)
def mR(c:Ex)(b:Xx):Xx:=λU=>(c U).bind λx=>match x with
 | (.fr,.lst a)=>(b U).bind λz=>match z.1.2 with
  |.int i=>(Lg a.length i).bind λj=>(a[j]?).bind λt=>if fD a=J/\Ko t=J then Y ((.fr,t),z.2) else M
  |_=>M
 |_=>M
def uI(n:Nat)(b:Xx):Xx:=λU=>match (U[n]?:Option (W4)) with
 |some (some _)=>(b U).bind λz=>match z.1.2,(z.2[n]?:Option (W4)) with
  |.int i,some (some c)=>(match jQ c with
   |.lst a=>(Lg a.length i).bind λj=>(a[j]?).bind λt=>if Ko t=J then Y ((.fr,t),z.2) else M
   |_=>M)
  |_,_=>M
 |_=>M
section
def aH(h:PV G X e ca):PX G X e (xI ca):=PE.weak h λO H Q g=>by
 obtain⟨D,U,v,n,s,e,l,k⟩:=g;obtain⟨⟨m,t⟩,e1,e2⟩:=Zz.mp e;split at e2
 ·rename_i i;cases e2;refine⟨D,U,m,t,s,e1,λu j F d r f=>k u j D (s.same d) (Kq.same d) ?_⟩;have:=r.Ko i;subst this;exact r
 ·cases e2
def B6(q:eY G r f)(h:tX G (x2 f xa xb) O H Q):Sr r (tX G xa) (tX G xb) O H Q:=by
 refine L2.ah λP u=>?_;obtain⟨D,U,v,N,s,e,E,k⟩:=h;obtain⟨z,A,e1⟩:=Zz.mp e;obtain⟨w,y,e2⟩:=Zz.mp e1;obtain⟨⟨m,t⟩,x,e3⟩:=Zz.mp e2;refine u ?_;split at e3
 ·rename_i d;cases e3;refine⟨D,U,_,_,s,A,d.1,λo R S s1 f1 r1=>⟨_,_,_,_,s1,y,d.2.1,λn j C p f2 r2=>?_⟩⟩;refine q C w.2 j j (.fr,z.1.2) (.fr,w.1.2) o n [] [] m t Q ⟨aG.refl _,r1.keep f2.kept (λa h=>nomatch h),r2,Fp.nil,Fp.nil,λ_ _=>Z3⟩ x λl B F g i L=>k l B _ (p.same g) ((f1.trans f2).trans (Kq.same g)) ?_;have:=i.Ko d.2.2;subst this;exact i
 ·cases e3
def oO(i:OpR X (binaryOp d) r)(g:eY G r f)(l:PX G X a xa)(j:PX G X b xb):PX G X (.BinOp a d b pos) (x2 f xa xb):=PE.weak (Eu i l j) λO H Q h=>B6 g h
def v7(l:OpR X (SZ d) r)(i:eY G r f)(p:PX G X a xa)(o:PX G X b xb)(n:behindInMarks d b=Z):SQ G X (.Compare a [d] [b] pos) (QJ (x2 f xa xb)):=PT.weak (xM l p o n) λO H Q h=>by
 refine L2.ah λx j=>?_;obtain⟨D,U,b,w,s,e,k⟩:=h;obtain⟨⟨⟨m,t⟩,v⟩,e1,e2⟩:=Zz.mp e;refine j ?_;dsimp only at e2;split at e2
 ·cases e2;exact B6 i ⟨D,U,_,_,s,e1,rfl,λu q y g f r=>⟨b,r.Le,k q _ g f⟩⟩
 ·cases e2
def Iw(i:PX G X a xa)(g:PX G X b xb)(d:fi b)(j:X.K=G.K):PX G X (.Subscript a b pos) (x2 aL xa xb):=PE.weak (lQ i9 i g d) λO H Q h=>by
 rw[j];exact B6 vA h
def Bn(h:SQ G X e xt):UP G X (.BoolOp .And [e] pos) xt:=nA h
def Ct{G:Gx}{X:Cx}{a:Expr}{rest:List Expr}{ca:Ex}{xt:Xt}{pos:Pos}(o:MQ G X a ca)(n:UP G X (.BoolOp .And (b :: rest) pos) xt):UP G X (.BoolOp .And (a :: b :: rest) pos) (jR ca xt):=PW.weak (A0 o n) λO H Q l=>by
 refine L2.ah λv j=>?_;obtain⟨D,U,r,u,s,e,k⟩:=l;obtain⟨⟨m,t⟩,e1,e2⟩:=Zz.mp e;obtain⟨h,e3,g⟩:=Zz.mp e2;refine j ?_;refine⟨D,U,m,t,h,s,e1,e3,λp d=>?_⟩;cases h with
 |true=>exact uL ⟨D,U,r,_,s.same d,g,λq w i f=>k q _ i ((Kq.same d).trans f)⟩
 |false =>
  cases g;exact uZ (k p D (s.same d) (Kq.same d))
def qM(L:PV G X a ca)(F:PX G X b xb)(B:fi b:=by exact λ_ _=>rfl)(N:{`q8,X.K=G.K}):PX G X (.Subscript a b pos) (mR ca xb):=PE.weak (lQ i9 L F B) λO H Q C=>by
 refine L2.ah λP_ q=>?_;obtain⟨D,U,v,U',s,e,hi,k⟩:=C;obtain⟨x,ea,e1⟩:=Zz.mp e;refine q ?_;split at e1
 ·rename_i ts;obtain⟨z,S,e2⟩:=Zz.mp e1;split at e2
  ·rename_i y m;obtain⟨j,R,e3⟩:=Zz.mp e2;obtain⟨t,P,d⟩:=Zz.mp e3;split at d
   ·rename_i E;cases d;refine⟨D,U,_,_,s,ea,λu H1 F1 i r1 f1=>⟨D,U,_,_,s.same i,S,by rw[m];rfl,λw H2 D2 p f2 r2=>?_⟩⟩;obtain⟨a,n,Fs,rfl,rfl,Os,l⟩:=r1.lst_inv;have NY:=(f2.keep a _ Os (λz=>Kv.pe (s.KD z) (f1.2 a Zv))).1;obtain⟨x,Fx,o,u2,g⟩:=l.get j P;have A:=g.Ko E.2;subst A;rw[m]at r2;refine .inl ⟨a,n,y,x,rfl,r2.int_inv,by rw[N];exact KA.of NY,iF (by rw[l.len.1];exact R) o,?_⟩;exact k x H2 _ p ((Kq.same i).trans f2) (g.keep f2.kept (λa h=>nomatch h))
   ·cases d
  ·cases e2
 ·cases e1
end
section
variable{H:Hp}
noncomputable def Vi(D:Kn):Kn:=λi=>match i with
 |0=>[]
 |i+1=>D i
def ze:bD (Vi D) (Y (.pu t) :: U) a↔bD D U a:=by
 constructor
 ·rintro⟨j,u,b,d⟩;cases j with
  |zero=>cases (b)
  |succ j=>exact⟨j,u,b,d⟩
 ·rintro⟨j,u,b,d⟩;exact⟨j+1,u,b,d⟩
def IU(h:c9 (Vi D) (Y (.pu t) :: U) a):c9 D U a:=by
 obtain⟨j,u,d,b⟩:=h;cases j with
 |zero=>exact nomatch b
 |succ j=>exact⟨j,u,d,b⟩
def SR.ps{v:V}{t:T}(s:SR G D U O H)(r:Rp G H v t []):SR G (Vi D) (Y (.pu t) :: U) (Y v :: O) H:=by
 refine⟨by rw[Ze,Ze,s.len],λi c h=>?_,λi u h=>?_,λi j u c b d n=>?_⟩
 ·cases i with
  |zero=>cases (h);exact⟨v,rfl,r⟩
  |succ i=>exact s.rp i c h
 ·cases i with
  |zero=>cases (h)
  |succ i=>exact s.nd i u h
 ·cases i with
  |zero=>cases (b)
  |succ i =>
   cases j with
   |zero=>exact λa _ h=>nomatch h
   |succ j=>exact s.sep i j u c b d (λe=>n (by rw[e]))
def SR.pop(s:SR G D5 (c :: U5) (v :: O) H):SR G (λi=>D5 (i+1)) U5 O H :=
 ⟨by have:=s.len;simpa using this,λi c h=>s.rp (i+1) c h,λi u h=>s.nd _ u h,λi j u c b a n=>s.sep _ _ u c b a (λe=>n (by omega))⟩
def Kq.pop(f:Kq (Vi D) (Y (.pu t) :: U) H D5 (c :: U5) H5):Kq D U H (λi=>D5 (i+1)) U5 H5:=by
 have ow:∀a,bD _ _ a->bD D5 (c :: U5) a:=λa ⟨j,u,d,b⟩=>⟨j+1,u,d,b⟩
 refine⟨λa o h n=>?_,f.KC,λa h=>?_,λa h=>?_,f.kept⟩
 ·obtain⟨d,b⟩:=f.keep a o h λz=>n (ze.mp z);exact⟨d,λz=>b (ow a z)⟩
 ·exact(f.ow a (ow a h)).imp ze.mp id
 ·obtain⟨j,u,d,b⟩:=h;rcases f.pu a ⟨_,u,d,b⟩ with z | z | z
  ·exact .inl (IU z)
  ·exact .inr (.inl (ze.mp z))
  ·exact .inr (.inr z)
end
def gy(x:Xx):W0->VS.Env->Option (W7×VS.Env)
 |[],U=>Y ([],U)
 |i :: r,U=>(x (Y (.pu (.int i)) :: U)).bind λz=>match z.2 with
  |_ :: a=>if Ko z.1.2=J then (gy x r a).map λw=>(z.1.2 :: w.1,w.2) else M
  |[]=>M
noncomputable def OU(i n:Nat):W0:=(List.range' i n).map λ(k:Nat)=>(k:Int)
def jV(a x:Xx)(U:VS.Env):Option (W7×VS.Env):=(a U).bind λz=>match z.1.2 with
 |.int j=>if 0<=j/\j<1000000 then gy x (OU 0 j.toNat) z.2 else M
 |_=>M
def U6(G:Gx)(y:VS.Env->Option (W7×VS.Env)):TE:=λO H Q=>∃D U e a,SR G D U O H/\y U=Y (e,a)/\∀Db f b d,SR G d a O b->Kq D U H d a b->b Db=Y (.lst f)->RpL G b f e (List.replicate e.length [])->H Db=M->¬bD d a Db->¬c9 d a Db->Q (.ref Db) b
theorem DZ{α:Type}:∀n:Nat,(List.replicate n ([]:List α)).flatten=[]
 |0=>rfl
 |n+1=>by simp_all
abbrev CxI(G:Gx)(x:Xx)(n:Nat)(q:Kn)(j:VS.Env)(p:Hp)(Db:On)(g:W7)(l:VS.Env)(O:L2.St):Nat->Nat->L2.St->Hp->Prop:=λi m o b=>m=n-i/\i<=n/\∃d a e f rest h,o=h :: O/\SR G d a O b/\Kq q j p d a b/\b Db=Y (.lst f)/\¬bD d a Db/\¬c9 d a Db/\RpL G b f e (List.replicate e.length [])/\gy x (OU i (n-i)) a=Y (rest,l)/\e++rest=g
section
def ue(hg:∀v O H (R:L2.St->Hp->Prop),R (O.set 0 (Y v)) H->g v O H R)(h:U6 G (jV xa x) O H Q):sN 1 (ER (xu (tX G xa) yk)) g (λO H Q=>Q J H) (tX G x) O H Q:=by
 refine L2.ah λP_ k_=>?_;obtain⟨D,U,ts,U',s,e,kq⟩:=h;obtain⟨z,ea,e1⟩:=Zz.mp e;refine k_ ?_;split at e1
 ·rename_i j hj;split at e1
  ·rename_i hb;obtain⟨n,hn⟩:∃n:Nat,n=j.toNat:=⟨_,rfl⟩
   rw[← hn]at e1;refine⟨D,U,_,_,s,ea,by rw[hj];rfl,λu H1 D1 s1 f1 r1=>⟨j,by rw[hj]at r1;rw[r1.int_inv],by omega,by omega,λDb d=>?_⟩⟩;rw[← hn];refine⟨CxI G x n _ _ H1 Db ts _ O,⟨n,by omega,Yt _,D1,_,[],[],ts,_,rfl,?_,Kq.same (bN d),aA,?_,?_,.nil,e1,rfl⟩,?_⟩
   ·exact s1.off (.inr d) (λq=>Kv.pe (s1.Mx q) d) λq=>Kv.pe (s1.KD q) d
   ·exact λq=>Kv.pe (s1.KD q) d
   ·exact λq=>Kv.pe (s1.Mx q) d
   ·rintro i m O' H' ⟨rfl,L1,D2,U2,vs,xs,rest,c0,rfl,s2,f2,A,f,F,rp,C,ev⟩;by_cases La:i<n
    ·right;refine⟨La,λy H2 yl=>hg _ _ _ _ ?_⟩;obtain⟨rfl,rfl⟩:=yl;rw[show n-i=(n-(i+1))+1 by omega]at C;unfold OU at C;rw[X5,Zg,gy]at C;obtain⟨w,ex,UD⟩:=Zz.mp C;split at UD
     ·rename_i c3 U3 hw;split at UD
      ·rename_i P7;refine L2.ah λP_ k_=>?_;obtain⟨q,eq,e3⟩:=Zy.mp UD;cases e3;refine k_ ?_;rw[Zm L];refine⟨_,_,_,_,(s2.ps (v:=.int _) (t:=.int _) (by rw[Int.zero_add];exact .int _)),ex,P7,λu5 H5 D5 s5 f5 r5=>?_⟩;rw[hw]at s5 f5;have f6:=f5.pop;obtain⟨Uv,P⟩:=f6.keep Db _ A f;have E:¬c9 _ _ Db:=λq=>by
        rcases f6.pu Db q with q | q | q
        ·exact F q
        ·exact f q
        ·rw[A]at q;cases q
       have PY:Kv (H5 Db):=by rw[Uv];exact True.intro
       have lx:=rp.len.1;refine⟨xs,Uv,?_,_,by omega,rfl,La,_,_,vs++[w.1.2],_,_,_,rfl,s5.pop.off (.inl PY) E P,?_,aA,P,E,?_,eq,?_⟩
       ·have:vs.length<=n:=by
         have hc:∀(l:List _)(U:VS.Env)(r:W7)(U':VS.Env),gy x l U=Y (r,U')->r.length=l.length:=by
          intro l
          induction l with
          |nil=>intro U r U' h;cases h;rfl
          |cons a l ih =>
           intro U r U' h;rw[gy]at h;obtain⟨w',_,b⟩:=Zz.mp h;split at b
           ·split at b
            ·obtain⟨q',h3,h4⟩:=Zy.mp b;grind
            ·cases b
           ·cases b
         have B:=hc _ _ _ _ e1;unfold OU at B;grind
        have hs:(KM:Nat)=16777216:=rfl;omega
       ·have S:=f2.trans f6;refine⟨λa o B b=>?_,λa B b=>?_,S.ow,S.pu,S.kept.trans (Kept.upd (.inl PY))⟩
        ·obtain⟨q1,q2⟩:=S.keep a o B b;exact⟨by rw[ay (λz=>by rw[z,d]at B;cases B)];exact q1,q2⟩
        ·by_cases q:a=Db
         ·grind
         ·rw[ay q]at b;exact S.KC a B b
       ·have r2:Rp G (upd H5 Db (.lst (xs++[u5]))) u5 _ []:=r5.keep (Kept.upd (.inl PY)) (λa h=>nomatch h);have:=((rp.keep f6.kept (by simp_all)).keep (Kept.upd (.inl PY)) (by simp_all)).append (.cons r2 .nil);rw[Zp,ZN,List.replicate_succ'];exact this
       simp_all
      ·cases UD
     ·cases UD
    ·left;have hni:n-i=0:=by omega
     rw[hni]at C;cases (C);rw[ZT]at ev;subst ev;refine⟨by show n<=i;omega,kq Db xs H' _ s2 (f1.trans f2) A rp (f1.none d) f F⟩
  ·cases e1
 ·cases e1
end
def EU(a:Tx)(y:VS.Env->Option (W7×VS.Env)):Xx:=λU=>(y U).bind λz=>(lO (.fr,.str a) [(.fr,.lst z.1)]).map λv=>((.fr,v.2),z.2)
section
def CC{b:Pos}(w:PV G X a (eC (.str sep)))(g:PE X e (U6 G y))(m:X.K=G.K)(E:XAA a "join" X.env (eval a X.env)=eval a X.env)(R:((backTo d (P3 [e] X.env)).all (λx=>!x.1)&&(backToKw d (SL [] X.env)).all (λx=>x.1.isSome)
   && decide ([e].length+([]:List Keyword).length+(if ([]:List Keyword).isEmpty then 0 else 1)<30))=J)(L:(b.endLine==d.line)=J)(l:K1 e [] X)(P:(backTo d (P3 [] X.env)).any (·.1)=Z) :
  PX G X (.Call (.Attribute a "join" b) [e] [] d) (EU sep y) :=
 PE.weak (o9 X7 PySem.F.slot_str_join PySem.F.type_str_join xN w (bA g dQ l) E R L l P) λO H Q h=>by
  refine L2.ah λP_ t=>?_;obtain⟨D,U,v,U',s,e,hi,k⟩:=h;obtain⟨z,A,e1⟩:=Zz.mp e;obtain⟨v0,e2,e3⟩:=Zy.mp e1;cases e3;obtain⟨f,o,i⟩:=Zz.mp e2;refine t ?_;split at i
  ·rename_i hl;cases i;refine⟨D,U,_,_,s,rfl,λu H1 F1 j r1 f1=>⟨by rw[m];exact oq r1 ⟨_,rfl⟩,D,U,_,_,s.same j,A,λDb vs S D2 q f2 n rp R3 no np=>?_⟩⟩;rw[rj rp o]at n;refine⟨_,Db,f,r1.str_inv.1,rfl,by rw[m];exact KA.of n,hl,k _ S _ q ((Kq.same j).trans f2) (.str _ ⟨ZW (ki _ f) hl,λc g=>(kF _ f c g).elim (r1.str_inv.2.2 c) λ⟨r,C,B⟩=>jY rp o r C c B⟩)⟩
  ·cases i
end
inductive Ix where | io (i:Nat) (un:Bool) | px (x:Xx)
def mI:List Ix->VS.Env->Option (List Ia×VS.Env)
 |[],U=>Y ([],U)
 |.io i un :: r,U=>match (U[i]?:Option (W4)) with
  |some (some _)=>(mI r U).map λw=>(.io i un :: w.1,w.2)
  |_=>M
 |.px x :: r,U=>(x U).bind λz=>if Ko z.1.2=J then (mI r z.2).map λw=>(.ex (eC z.1.2) :: w.1,w.2) else M
noncomputable def Rb:List Ix->List Bool
 |[]=>[]
 |.io _ _ :: r=>J :: Rb r
 |.px _ :: r=>Z :: Rb r
def aQ(a:List Ix)(g:W7->Option (W7×T)):Xx:=λU=>(mI a U).bind λw=>oz w.1 g w.2
inductive Ms(G:Gx)(O:L2.St)(H:Hp):List Ia->List V->Prop
 |nil:Ms G O H [] []
 |io {i:Nat} {un:Bool} {v:V} {as:List Ia} {vs:List V}:O[i]?=some (some v)->Ms G O H as vs->Ms G O H (.io i un :: as) (v :: vs)
 |ex {t:T} {v:V} {as:List Ia} {vs:List V}:Ko t=true->Rp G H v t []->Ms G O H as vs->Ms G O H (.ex (eC t) :: as) (v :: vs)
def tIx(G:Gx)(g:List Ix):TA:=λO H Q=>∃D U e b,SR G D U O H/\mI g U=Y (e,b)/\∀d a f,SR G f b O a->Kq D U H f b a->Ms G O a e d->Q d a
def Rt(G:Gx)(X:Cx)(a:List Expr)(b:List Ix):Prop:=PA X a (tIx G b)
section
theorem uR:∀{as:List Ix}{U f:VS.Env}{a:List Ia},mI as U=Y (a,f)->Mb a=Rb as
 |[],_,_,_,h=>by cases h;rfl
 |.io i un :: as,U,f,a,h=>by
  unfold mI at h;split at h
  ·obtain⟨w,d,b⟩:=Zy.mp h;cases b;show J :: Mb _=J :: Rb as;rw[uR d]
  ·cases h
 |.px x :: as,U,f,a,h=>by
  obtain⟨z,_,h0⟩:=Zz.mp h;split at h0
  ·obtain⟨w,d,b⟩:=Zy.mp h0;cases b;show Z :: Mb _=Z :: Rb as;rw[uR d]
  ·cases h0
theorem Ms.keep(k:Kept H j)(h:Ms G O H f d):Ms G O j f d:=by
 induction h with
 |nil=>exact .nil
 |io h _ b=>exact .io h b
 |ex l r _ b=>exact .ex l (r.keep k (λa h=>nomatch h)) b
def Jh(s:SR G D U O H)(h:Ms G O H f b):∀{d:W7},pj U f=Y d->∃l,RpL G H b d l/\QH D U O H f b l:=by
 induction h with
 |nil=>intro d e;cases e;exact⟨[],.nil,.nil⟩
 |@io i un v f b w _ n =>
  intro d e;obtain⟨t,e1,e2⟩:=Zz.mp (e);obtain⟨R,e3,rfl⟩:=Zy.mp e2;obtain⟨l,r,q⟩:=n e3;unfold T4 at e1;split at e1
  ·rename_i S h0;obtain⟨o,y,E⟩:=s.rp _ _ h0;rw[w]at y;cases y;have j:=E;have key:∃a,v=.ref a/\Rp G H (.ref a) t (D i):=by
    split at e1
    ·obtain⟨⟨m,u⟩,L,F⟩:=Zy.mp e1;cases F;rw[nG L]at j;obtain⟨a,q1,_,C⟩:=o7 j;exact⟨a,q1,C⟩
    ·split at e1
     ·rename_i hm;cases e1;obtain⟨a,rfl⟩:=Hz j hm;exact⟨a,rfl,j⟩
     ·cases e1
   obtain⟨a,rfl,B⟩:=key;exact⟨_,.cons B r,.io w q⟩
  ·cases e1
 |@ex t v f b hi A _ n =>
  intro d e;obtain⟨o,e1,e2⟩:=Zz.mp (e);have ev:o.2=t:=by
   cases e1;rfl
  obtain⟨z,e3,Q⟩:=Zz.mp e2;obtain⟨R,P,rfl⟩:=Zy.mp Q;have N:z=t:=by
   unfold exV at e3;grind
  subst N;obtain⟨l,r,q⟩:=n P;exact⟨_,.cons A r,.ex (λa h=>nomatch h) q⟩
def bw:Rt G X [] []:=PA.weak dQ λO H Q a=>by
 obtain⟨D,U,d,b,s,e,k⟩:=a;cases e;exact k [] H D s (Kq.refl _ _ _) .nil
def bQ{X:Cx}(i:Nat)(b:Bool)(r:X.N[i]?=Y n)(h:Ni X.env.scope n)(o:K3 n)(t:K4 n)(l:Rt G X es as)(j:{`q8,P3 (.Name n pos :: es) X.env=(Z,eval (.Name n pos) X.env) :: P3 es X.env}):Rt G X (.Name n pos :: es) (.io i b :: as) :=
 PA.weak (bA (dS r h o t) l j) λO H Q m=>by
  obtain⟨D,U,A,z,s,e,k⟩:=m;unfold mI at e;split at e
  ·rename_i c q;obtain⟨w,e1,e2⟩:=Zy.mp e;cases e2;obtain⟨v,a,_⟩:=s.rp _ _ q;exact⟨v,a,D,U,_,_,s,e1,λy u B d f ix=>k _ u _ d f (.io a ix)⟩
  ·cases e
def bP(h:PX G X e x)(l:Rt G X es as)(j:{`q8,K1 e es X}):Rt G X (e :: es) (.px x :: as) :=
 PA.weak (bA h l j) λO H Q m=>by
  obtain⟨D,U,t,r,s,e,k⟩:=m;obtain⟨z,e1,e2⟩:=Zz.mp e;split at e2
  ·rename_i d;obtain⟨w,e3,n⟩:=Zy.mp e2;cases n;exact⟨D,U,_,_,s,e1,d,λu v y s1 f1 r1=>⟨_,_,_,_,s1,e3,λq o A f b ix=>k _ o _ f (f1.trans b) (.ex d (r1.keep b.kept (λa h=>nomatch h)) ix)⟩⟩
  ·cases e2
def pX{X:Cx}(F:FnOk X.prog X.w X.K X.mg X.base Lc k f m l (Tt G (Rb as) g))(z:D6 k X.A)(E:Gl X n)(B:X.mg n=Y (.ref f))(C:PySem.W.keepIn X.K (.ref f)=J)(L:Binds X.K m l [])(N:Rt G X (e :: es) (.io i un :: as))(K5:K3 n)(he:K1 e es X)(b:K2 pos es X):PXN G X (.Call (.Name n p) (e :: es) [] pos) (aQ (.io i un :: as) g) :=
 PE.weak (wa F z E B C L .nil pI N K5 he b) λO H Q h=>by
  refine L2.ah λP_ t=>?_;obtain⟨D,U,v,U',s,e,q⟩:=h;obtain⟨⟨OW,U1⟩,e1,e2⟩:=Zz.mp e;refine t ?_;have j:=uR e1;refine⟨D,U,_,_,s,e1,λvs H1 D1 s1 f1 ix=>?_⟩;show Tt G _ g _ H1 Q _;rw[ZT];cases ix with
  |nil=>cases j
  |ex _ _ _=>cases j
  |@io i' Sl v' R M0 h0 a =>
   have d:=(Wk (j)).2;have S:=e2;obtain⟨ts,e3,_⟩:=Zz.mp S;obtain⟨Fs,rp,y⟩:=Jh s1 (.io h0 a) e3;rw[← d];exact uK s1 e2 e3 (aG.refl _) rp y λu H' D' F o P r n=>q u H' _ F o (f1.trans P) r (n.back f1)
end
noncomputable def mY(j:Nat)(x:Xx):Sx:=λU=>(x U).bind λz=>if j<z.2.length then Y (.nx (z.2.set j (Y (.ow z.1.2)))) else M
section
def wM(l:tS G (mY j x) Db O H):V3 G x O H λu i=>Db.nx (O.set j (Y u)) i:=by
 obtain⟨D,U,o,s,e,k⟩:=l;obtain⟨z,e1,e2⟩:=Zz.mp e;split at e2
 ·rename_i m;cases e2;refine⟨D,U,_,_,s,e1,λu i v F s1 f1 r1 d=>?_⟩;refine k _ _ _ (s1.put m r1 (λ_ _ _ _ _ q=>q) (λ_ _=>d.nd) (λ_ _ f p _ g a b=>d.ap f p g a b) λf t _ g a b r=>d.ap f _ g a r b) ⟨λa o h n=>⟨(f1.keep a o h n).1,λz=>?_⟩,f1.KC,λa h=>?_,λa h=>?_,f1.kept⟩
  ·rcases dF z with⟨_,_,b⟩ | z
   ·rcases d.of a b with q | q
    ·rw[q]at h;cases h
    ·exact n q
   ·exact(f1.keep a o h n).2 z
  ·rcases dF h with⟨_,_,b⟩ | z
   ·exact(d.of a b).symm
   ·exact f1.ow a z
  ·rcases je h with⟨_,q,_⟩ | z
   ·cases q
   ·exact f1.pu a z
 ·cases e2
def BZ{pos:Pos}(h:PXN G X e x)(g:X.N.Nodup)(d:X.N[j]?=Y nm)(a:Loc X.env.scope nm)(i:swapsWith e (Y (.Name nm pos')) pos.line X.env=pure Z)(f:X.fn nm=J\/X.env.scope.names.lookup nm=Y .local) :
  PSV G X (.Assign [.Name nm pos'] e pos) (mY j x) :=
 PS.weak (my g d a h i f) λDb O H b=>wM b
end
noncomputable def qd(o:Option Xx)(U:VS.Env):Option (Option Int×VS.Env):=match o with
 |none=>Y (M,U)
 |some x=>(x U).bind λz=>match z.1.2 with
  |.int i=>Y (Y i,z.2)
  |_=>M
def S7(a:Xx)(b d:Option Xx):Xx:=λU=>(a U).bind λz=>match z.1.2 with
 |.str t=>(qd b z.2).bind λl=>(qd d l.2).map λh=>((.fr,.str (cut t l.1 h.1)),h.2)
 |_=>M
def UZ(G:Gx)(o:Option Xx):TO:=λO H Q=>∃D U i a,SR G D U O H/\qd o U=Y (i,a)/\∀b d,SR G d a O b->Kq D U H d a b->Q i b
section
variable{lo:Option Expr}
def tQ:PO X M (UZ G M):=PO.weak DV λO H Q d=>by
 obtain⟨D,U,o,f,s,e,k⟩:=d;cases e;exact k H D s (Kq.refl _ _ _)
def ui(h:PX G X e x):PO X (Y e) (UZ G (Y x)):=PO.weak (C1 h) λO H Q l=>by
 obtain⟨D,U,o,p,s,e,k⟩:=l;obtain⟨z,e1,e2⟩:=Zz.mp e;split at e2
 ·rename_i j d;cases e2;refine⟨D,U,_,_,s,e1,by rw[d];rfl,λu m q g f r=>⟨j,?_,k m _ g f⟩⟩;rw[d]at r;exact r.int_inv
 ·cases e2
def Ey(r:PX G X a xa)(o:PO X lo (UZ G xl))(p:PO X hi (UZ G xh)):PX G X (.Subscript a (.Slice lo hi M p2) pos) (S7 xa xl xh) :=
 PE.weak (zA GD r o p) λO H Q m=>by
  obtain⟨D,U,v,E,s,e,F,k⟩:=m;obtain⟨z,e1,e2⟩:=Zz.mp e;split at e2
  ·rename_i t f;obtain⟨l,e3,B⟩:=Zz.mp e2;obtain⟨h,A,y⟩:=Zy.mp B;cases y;refine⟨D,U,_,_,s,e1,by rw[f];rfl,λu N S s1 f1 r1=>⟨_,_,_,_,s1,e3,λL R j f2=>⟨_,_,_,_,j,A,λC P g w=>?_⟩⟩⟩;rw[f]at r1;obtain⟨rfl,d⟩:=r1.str_inv;refine⟨_,rfl,by rw[ed,← gB];exact d.1,?_⟩;rw[pk];exact k _ C _ g ((f1.trans f2).trans w) (.str _ ⟨ZW (CZ _ _ _) d.1,λc q=>d.2 c ((Ce _ _ _).subset q)⟩)
  ·cases e2
def FD{X:Cx}(i:Nat)(R:X.N[i]?=Y n)(B:Ni X.env.scope n)(F:K3 n)(KQ:K4 n)(P:PX G X b xb)(C:fi b)(S:X.K=G.K):PX G X (.Subscript (.Name n p2) b pos) (uI i xb) :=
 PE.weak (lQ i9 (dS R B F KQ) P C) λO H Q E=>by
  obtain⟨D,U,v,U',s,e,P7,k⟩:=E;unfold uI at e;split at e
  ·rename_i c0 f;obtain⟨r,h0,_⟩:=s.rp _ _ f;obtain⟨z,e1,e2⟩:=Zz.mp e;split at e2
   ·rename_i y c o L;split at e2
    ·rename_i ts d;obtain⟨j,ej,e3⟩:=Zz.mp e2;obtain⟨t,et,g⟩:=Zz.mp e3;split at g
     ·rename_i hit;cases g;refine⟨r,h0,D,U,_,_,s,e1,by rw[o];rfl,λw H2 D2 l f2 r2=>?_⟩;obtain⟨v1,p,r1⟩:=l.rp _ _ L;rw[h0]at p;cases p;rw[d]at r1;rw[o]at r2;obtain⟨a,q,Fs,rfl,eF,Os,m⟩:=r1.lst_inv;obtain⟨x,Fx,u,u2,h⟩:=m.get j et;have A:=h.Ko hit;subst A;exact .inl ⟨a,q,y,x,rfl,r2.int_inv,by rw[S];exact KA.of Os,iF (by rw[m.len.1];exact ej) u,k x H2 _ l f2 h⟩
     ·cases g
    ·cases e2
   ·cases e2
  ·cases e
end
section
def BF{X:Cx}(N:List Str)(o:X.calm=J)(f:Gl X "range")(e:X.mg "range" = M)(i:PX G X a xa)(b:∀cl C s H fp,PG (bH X N sc cl C s H fp) (.Name nm p2) (wb 0))(he:∀cl C s H fp,PX G (bH X N sc cl C s H fp) elt x)(d:K1 a [] X)(n:P3 [a] X.env=[(Z,eval a X.env)])(m:iK X.env sc=J)(l:j9 sc (N.drop 1) X.N=J)(j:1<=N.length)(g:∀x,XAB (.Call (.Name "range" p) [a] [] p3) X.env x=pure x) :
  PE X (.ListComp elt [⟨.Name nm p2,.Call (.Name "range" p) [a] [] p3,[],0⟩] sc pos) (U6 G (jV xa x)) :=
 PE.weak (q8 o (lU f e (bA i dQ d) n) m l j (λcl C s H fp=>⟨b cl C s H fp,iY,he cl C s H fp⟩) g) λO H Q h=>ue (λv O H R r=>r) h
end
section
variable{lo:Option Expr}
def wC(f:MQ G X a ca)(d:SQ G X b xt):SQ G X (.BoolOp .And [a,b] pos) (jR ca xt):=(Ct f (Bn d)).pxt
def bB{X:Cx}(F:IoAt X.prog X.w X.K X.mg X.base k x ps G (Rb as) g)(h:D6 k' X.A)(o:Rt G X (e :: es) (.io i un :: as))(l:{`q1,k<=k'})(m:{`q8,Gl X x})(u:{`q8,K3 x})(he:{`q8,K1 e es X})(d:{`q8,K2 pos es X}) :
  PX G X (.Call (.Name x p) (e :: es) [] pos) (aQ (.io i un :: as) g):=by
 obtain⟨f,fd,t,s,r,q⟩:=F.ex;exact(pX t (h.mono l) m s r q o u he d).px
def Cf{X:Cx}(F:IoAt X.prog X.w X.K X.mg X.base k x ps G (Rb as) g)(h:D6 k' X.A)(o:Rt G X (e :: es) (.io i un :: as))(l:k<=k')(m:Gl X x)(u:K3 x)(he:K1 e es X)(d:K2 pos es X) :
  PXN G X (.Call (.Name x p) (e :: es) [] pos) (aQ (.io i un :: as) g):=by
 obtain⟨f,fd,t,s,r,q⟩:=F.ex;exact pX t (h.mono l) m s r q o u he d
end
noncomputable def rD(j:Nat)(x:Xx):Sx:=λU=>(x U).bind λz=>if j<z.2.length then Y (.nx (z.2.set j (Y (.pu z.1.2)))) else M
section
def Bk{pos:Pos}(h:PXN G X e xc)(w:X.N.Nodup)(p:X.N[j]?=Y nm)(i:Loc X.env.scope nm)(x:swapsWith e (Y (.Name nm pos')) pos.line X.env=pure Z)(r:X.fn nm=J\/X.env.scope.names.lookup nm=Y .local) :
  PSV G X (.Assign [.Name nm pos'] e pos) (rD j xc) :=
 PS.weak (my w p i h x r) λDb O H l=>by
  obtain⟨D,U,o,s,e,k⟩:=l;obtain⟨z,e1,e2⟩:=Zz.mp e;split at e2
  ·rename_i v;cases e2;refine⟨D,U,z.1,z.2,s,e1,λu B C F s1 f1 r1 f=>?_⟩;refine k _ _ _ (s1.put v r1 (λ_ _ _ _ _ q=>q) (λ_ h=>nomatch h) (λ_ h=>nomatch h) λg t _ m a d A=>f.ap g _ m a A d) ⟨λa o h n=>⟨(f1.keep a o h n).1,λz=>?_⟩,f1.KC,λa h=>?_,λa h=>?_,f1.kept⟩
   ·rcases dF z with⟨_,q,_⟩ | z
    ·cases q
    ·exact(f1.keep a o h n).2 z
   ·rcases dF h with⟨_,q,_⟩ | z
    ·cases q
    ·exact f1.ow a z
   ·rcases je h with⟨_,_,d⟩ | z
    ·rcases f.of a d with q | q
     ·exact .inr (.inr q)
     ·exact .inr (.inl q)
    ·exact f1.pu a z
  ·cases e2
end
noncomputable def qU(y:VS.Env->Option (W7×VS.Env)):Xx:=λU=>(y U).map λz=>((.fr,.lst z.1),z.2)
section
def AS(m:V3 G (qU y) O H Q):U6 G y O H Q:=by
 obtain⟨D,U,v,q,s,e,k⟩:=m;obtain⟨z,e1,e2⟩:=Zy.mp e;cases e2;refine⟨D,U,_,_,s,e1,λDb p h r i f o rp n no np=>k _ h _ [Db] i f ?_ ⟨by simp,λj c d a b g=>?_,λa b=>.inl ?_⟩⟩
 ·have l:Rp G h _ _ _:=.lst o rp
  rwa [DZ]at l
 ·cases Zb.mp b;cases c with
  |ow t=>exact no ⟨j,t,d,g⟩
  |pu t=>exact np ⟨j,t,d,g⟩
 ·cases Zb.mp b;exact n
def DT{X:Cx}{t:Pos}(N:List Str)(KI:X.calm=J)(B:Gl X "range")(z:X.mg "range" = M)(E:PX G X a q)(n:∀cl C s H fp,PG (bH X N f cl C s H fp) (.Name m l) (wb 0))(he:∀cl C s H fp,PX G (bH X N f cl C s H fp) d o)(w:K1 a [] X)(LS:P3 [a] X.env=[(Z,eval a X.env)])(U:iK X.env f=J)(Q:j9 f (N.drop 1) X.N=J)(P:1<=N.length)(D:∀x,XAB (.Call (.Name "range" p) [a] [] i) X.env x=pure x)(F:X.N.Nodup)(A:X.N[j]?=Y x)(u:Loc X.env.scope x)(S:swapsWith (.ListComp d [⟨.Name m l,.Call (.Name "range" p) [a] [] i,[],0⟩] f g) (Y (.Name x b)) t.line X.env=pure J)(L:X.fn x=J\/X.env.scope.names.lookup x=Y .local) :
  PSV G X (.Assign [.Name x b] (.ListComp d [⟨.Name m l,.Call (.Name "range" p) [a] [] i,[],0⟩] f g) t) (mY j (qU (jV q o))) :=
 PS.weak (kz F A u KI (lU B z (bA E dQ w) LS) U Q P (λcl C s H fp=>⟨n cl C s H fp,iY,he cl C s H fp⟩) S L D) λDb O H h=>ue (λv O H R r=>r) (AS (wM h))
end
end VS
end
section
namespace ST
open PySem PySem.Spec PyProof.Rows TS
variable{A:SC}
def JK{k k':Ky}(d:kind k=kind k')(h:KyV k v)(e:KyV k' b)(q:Q (.bool (ltK k k')) s):Pi (KF prog w) A (richCompare .Lt v b) Q E s:=by
 cases k<;>cases k'<;>simp only[kind,Sum.isLeft,Bool.true_eq_false,Bool.false_eq_true]at d<;>obtain⟨t,rfl⟩:=h<;>obtain⟨a,rfl⟩:=e
 ·rename_i i j;refine richCompare_gives (typeIs_int _ _ t) (typeIs_int _ _ a) F.slot_int_lt F.entry_int_lt (F.args_int_lt_2 _ _) (gives_int_lt _ _ t a) (λx=>nomatch x) ?_;exact q
 ·rename_i x y;refine richCompare_gives (Ws _ _ t) (Ws _ _ a) F.slot_str_lt F.entry_str_lt (F.args_str_lt_2 _ _) (gives_str_lt _ _ t a) (λx=>nomatch x) ?_;exact q
noncomputable def SN(a:Nat->Nat->Bool):Nat->Nat->Nat->Nat
 |0,_,c=>c
 |k+1,j,c=>SN a k (j+1) (if a j c then j else c)
end ST
end
section
namespace VS
open PySem PySem.Spec PyProof.Rows L2
def tsc:T->Bool
 |.tup l=>l.all sca
 |t=>sca t
def zg(s t:Tx):Int:=match Builtin.Str.occurrences (sx s) (sx t) 0 (sx s).length 1 with
 |i :: _=>(i:Int)
 |[]=>-1
def se:Val->W5->W6
 | (_,.str s),[(_,.str t)]=>Y (.fr,.int (zg s t))
 |_,_=>M
section
noncomputable def Ei:V->List V->Hp->VK->Prop:=λx b H Q=>∃z y,x=.str z/\b=[.str y]/\Q (.int (match Builtin.Str.occurrences z y 0 z.length 1 with | i :: _=>(i:Int) | []=>-1)) H
def De:SS X "str.find" Ei:=by
 intro b s O H x i v j Q I rx g h;obtain⟨z,y,rfl,rfl,q⟩:=h;obtain⟨t,rfl⟩:=rx;obtain⟨u,rfl,f⟩:=vals1 g;obtain⟨d,rfl⟩:=f;exact call_meets F.slot_str_find (Ws s z t) F.entry_str_find (F.args_str_find_2 _ _) (gives_str_find z y t d).meets (⟨.int _,H,I.tok _,⟨_,rfl⟩,q⟩)
def Cz:Hf G Ei se:=by
 intro D U o n H x v F l h p m t Q b r f A e k;unfold se at e;split at e
 ·rename_i i z j y;cases e;obtain⟨g,q,rfl,rfl,d⟩:=(A.rp).one;exact⟨_,_,r.str_inv.1,by rw[d.str_inv.1],bj k (.int _)⟩
 ·cases e
def w_find{apos:Pos}(d:PV G X a ca)(f:Lj G X [e] cs)(g:{`q2,X.K=G.K})(h:{`q2,XAA a "find" X.env (eval a X.env)=eval a X.env})(m:{`q2,((backTo cp (P3 [e] X.env)).all (λx=>!x.1)&&(backToKw cp (SL [] X.env)).all (λx=>x.1.isSome)
   && decide ([e].length+([]:List Keyword).length+(if ([]:List Keyword).isEmpty then 0 else 1)<30))=J})(i:{`q2,(apos.endLine==cp.line)=J})(b:{`q2,K1 e [] X})(j:{`q2,(backTo cp (P3 [] X.env)).any (·.1)=Z}) :
  PV G X (.Call (.Attribute a "find" apos) [e] [] cp) (eM se ca cs) :=
 EN X7 PySem.F.slot_str_find PySem.F.type_str_find De Cz (λH v x F l z r e=>oq r (by
  unfold se at e;split at e
  ·exact⟨_,rfl⟩
  ·cases e)) d f g h m i b j
end
end VS
end
section
namespace L2
open PySem PySem.Spec PyProof.Rows
def yc{b:Pos}(l:Wu)(h:TriplesOk l)(e:codeAmong a (l++[rawInt b.line,rawInt b.col,c])=Y v):codeAmong a l=Y v\/v=c:=by
 fun_induction TriplesOk l
 ·simp only[XJ,rawInt,codeAmong]at e;split at e
  ·cases e;exact .inr L
  ·cases e
 ·rename_i f;simp only[XT,codeAmong]at e ⊢;split at e
  ·rename_i d;rw[Zm d];exact .inl e
  ·rename_i d;rw[Zl d];exact f h e
 ·exact h.elim
noncomputable def Bm(d:X4)(a:UF):Prop:=∃bm b,d "__builtins__" = Y (.ref bm)/\bm≠builtinsNs/\a.get? bm=Y b/\b.cls=.type "module" ∧ b.dict=Y builtinsNs/\b.data=.plain
abbrev Gf(q:Str)(a:Arguments)(d:Expr)(b:Scope)(g:List (Str×On))(e:PP)(c:On)(f:PP):Obj:=PySem.W.kla_obj "<lambda>" q a d b g e c f
section
variable{H:Hp}
def Inv.known{X:Cx}{pins:Ym}{O:St}{s:KB}{o:Obj}{a:UF}{d:Nat}(I:Inv X pins O H { s with heap:=a,toks:=d })(f:o.isFreed=false):Inv X pins O (upd H a.objs.size (.frz o (.own a.objs.size))) { s with heap:=a.push o,toks:=d } :=
 have e:=Zh _ f
 I.laid (λb u e=>Zu _ e) (Zn _) ⟨e,o,e⟩
def BP(I:Inv X pins O H s)(hq:X.env.qual ++ "<lambda>" = q)(OD:defaultsOf a X.env=([],[]))(Om:closureFor g X.env=pure Qz)(hc:X.env.code=.ref c)(C:PySem.W.CodeHd X.base c P)(ht:Tb X.base P q)(x:Bm X.mg X.base)(h:∀f i ct oc y l t S s',Inv X pins O S s'->aG H S->S f=Y (.frz (Gf q a j g Qz ((X.mg "__name__").getD .none) i ct) (.own f))->S i=Y (.frz oc (.own y))->oc.data=.fields l->l[1]?=Y (.str q t)->Q (.ref f) s') :
  Pi (KF X.prog X.w) A (eval (.Lambda a j g pos) X.env) Q E s:=by
 have B:=I.tb P q ht;refine L2.ah λP_ p=>?_;obtain⟨ps,e,N,cs⟩:=I.D8 P _ B;have hg:=I.mod.glob.keeps I.bk;have C':=C.keeps I.bk;obtain⟨bm,ob,b1,b2,R,b4,b5,b6⟩:=x;obtain⟨og,_,_,eg,dg,_⟩:=I.mod.glob;refine p ?_;have hB:s.heap.BuiltinsAt _ P:=⟨bm,ob,b1,b2,(λz=>by rw[z,eg]at R;cases R;rw[dg]at b6;cases b6),(λz=>by have:=(I.bs _ _ R).2;rw[z,B]at this;cases this),I.bk _ _ R,b4,b5,b6⟩
 refine PySem.W.kla_eval OD ?_;rw[hq];cases hf:codeAmong _ _ with
 |some v =>
  refine L2.ah λP_ p=>?_;obtain⟨i,oc,y,l,t,rfl,r2,r3,r4⟩:=cs _ v hf;refine p ?_;refine PySem.W.kla_makeFunctionHit Om I.ok.glob hg hc C' e N hf hB λct h' U hk hsz=>?_;have J:=I.kept (t':=U) hk;have hn:=J.D8.fresh (Zn _);exact h _ i ct oc y l t _ _ (Inv.known J L) (λb o q=>by rw[ay (br q hn)];exact q) aA (by rw[ay (br r2 hn)];exact r2) r3 r4
 |none =>
  refine PySem.W.kla_makeFunction Om I.ok.glob hg hc C' e N hf (λz=>by have:=(I.bs _ _ eg).2;rw[z,B]at this;cases this) hB λi ct h' U D G La F Rc=>?_;refine L2.ah λP_ p=>?_;obtain⟨c2,oc,l,t,e2,P5,hd,hv⟩:=F;cases e2;refine p ?_;have nP:∀b,H b=M->b≠P:=λb n z=>by rw[z,B]at n;cases n
  have up:∀b o,H b=Y o->upd H i (.frz oc (.own i)) b=Y o:=λb o q=>by rw[ay (br q (I.D8.fresh G))];exact q
  suffices J:Inv X pins O (upd H i _) { s with heap:=h',toks:=U } by
   have Rf:=J.D8.fresh (Zn _);exact h _ i ct oc i l t _ _ (Inv.known J L) (λb o q=>by rw[ay (br (up b o q) Rf)];exact up b o q) aA (by rw[ay (br aA Rf)];exact aA) hd hv
  refine I.step (ch:=[]) (λb z=>nomatch z) (λb o _ _ _ q n=>D b o (nP b n) q) (λb o _ _ _ q n=>⟨_,D b o (nP b n) q⟩) (λb o _ q n=>by rw[ay ((λb u q=>Zi (Zc (Zf q) G)) b o q)];exact n) (λb o _ q=>?_)
   (λb xs q=>up b _ q) (λb o u q=>up b _ q) (λb n q=>up b _ q) (λm hm=>?_) (λb o q=>?_) I.bare
  ·by_cases x:b=P
   ·exact⟨_,by rw[x];exact Rc⟩
   ·exact⟨o,D b o x q⟩
  ·obtain⟨o,es,ep,ho,r⟩:=hm;exact⟨o,es,ep,D _ o (nP _ I.free) ho,r⟩
  ·by_cases x:b=i
   ·subst x;rw[aA]at q;cases q;exact⟨P5,oc,P5⟩
   ·rw[ay x]at q;by_cases P8:b=P
    ·subst P8;rw[B]at q;cases q;refine⟨_,Rc,?_,λpos' v r=>?_⟩
     ·rw[Array.toList_append];exact TriplesOk_snoc _ _ _ _ N
     ·rw[Array.toList_append]at r;rcases yc _ N r with r | r
      ·refine L2.ah λP_ p=>?_;obtain⟨c3,o3,y3,vs3,t3,r1,r2,r3⟩:=cs _ v r;refine p ?_;exact⟨c3,o3,y3,_,t3,r1,up _ _ r2,r3⟩
      ·exact⟨i,oc,i,l,t,r,aA,hd,hv⟩
    ·refine(I.D8 b o q).ML (λd v hd r=>D d v ?_ r) (λd r=>up d _ r) (λd xs r=>up d _ r) λd o y r=>up d _ r;rcases hd with z | z
     ·rw[z];exact P8
     ·intro z';rw[z',B]at z;cases z
end
def AC(X:Cx)(N:List Str)(q:Str)(a:Scope)(f c:On)(b:List (Str×On))(A:SC)(s:KB)(H:Hp):Cx :=
 { X with A:=A.deeper (PySem.W.envX q a s.heap.objs.size f (.ref c) b),N:=N,s₀:=s,H₀:=H,env:=PySem.W.envX q a s.heap.objs.size f (.ref c) b,outer:=X.stack,stack:=PySem.W.envX q a s.heap.objs.size f (.ref c) b :: X.stack,ex:=[],fn:=λ_=>false,calm:=true,pn:=[],xe:=λ_ _=>False }
section
variable{H:Hp}{A:SC}
def Inv.lam{cl:List (Str×On)}{j:UF}{tk:Nat}(I:Inv X pins O H s)(n:iK X.env sc=J)(Mn:j9 sc N X.N=J)(P:sc.names.lookup x=Y .local)(d:∀x c,cl.lookup x=Y c->X.env.cells.lookup x=Y c)(C:∀y∈sc.names,y.2=.free->∃c,cl.lookup y.1=Y c)(MB:A.frames=X.A.frames)(hh:A.handled=M)(F:RelV v u)(OB:j.Ns s.heap.objs.size m)(S:m x=Y u)(a:∀b o,s.heap.get? b=Y o->j.get? b=Y o) :
  Inv (AC X (x :: N) q sc f c cl A s H) [] (Y v :: O) H { s with heap:=j,toks:=tk }:=by
 unfold iK at n;rw[ZJ,ZS]at n;obtain⟨U,D⟩:=n;have MU:sc.kind=.function:=by simpa using U
 obtain⟨hlen,R0⟩:=rQ Mn;refine⟨⟨I.mod,MU,rfl,rfl,Zn _,λx y c e1 e2=>I.ok.inj x y c (d x c e1) (d y c e2),λy G=>C _ (cj ((λy h=>h.elim (λz=>by have:=D _ (cj z);cases this) id) y G)) rfl,λx c e=>(nomatch e),λ_=>hh,Around.frames_deeper (MB.trans I.ok.frames),.inr ⟨rfl,rfl⟩,λb hb=>(nomatch hb),
  I.tb,I.bs,ZW I.ok.OF I.sz,λb o e hb=>(nomatch hb),λb hb K8=>(nomatch hb),I.stack,I.LO⟩,rfl,I.bare,Un.kept a,⟨m,OB,λi y w e1 e2 e3=>?_⟩,λy c e=>?_,I.D8.fresh (Zn _),λy c e=>I.KH y c (d y c e),λp Q=>(nomatch Q),I.D8.kept a,?_⟩
 ·cases i with
  |zero =>
   have ex:x=y:=ZX (e1);have ev:v=w:=by simpa using e2
   subst ex ev;exact⟨u,F,.inl ⟨P,S⟩⟩
  |succ i =>
   have e3:Ni sc y:=e3;rcases R0 i y (by simpa using(show (x :: N)[i+1]?=Y y from e1)) with⟨hX,h0⟩ | h0 | h0
   ·have B:X.env.kindOf y=Y .cell\/X.env.kindOf y=Y .free:=by simpa using D _ (cj h0)
    obtain⟨mX,R,g⟩:=I.loc;obtain⟨E,r,l⟩:=g _ y w hX (by simpa using e2) (B.elim (λz=>.inr (.inl z)) λz=>.inr (.inr z));obtain⟨c,t⟩:=C _ (cj h0) L;refine⟨E,r,.inr ⟨.inr h0,c,t,?_⟩⟩;rcases l with⟨z,_⟩ | ⟨_,c',LU,NX⟩
    ·rcases B with q | q<;>(rw[z]at q;cases q)
    ·have:=d y c t;rw[LU]at this;cases this;exact NX.keeps a
   ·rcases e3 with z | z | z<;>(rw[h0]at z;cases z)
   ·rcases e3 with z | z | z<;>(rw[h0]at z;cases z)
 ·obtain⟨v,z⟩:=I.cell y c (d y c e);exact⟨v,z.keeps a⟩
 ·show (Y v :: O).length=(x :: N).length;rw[Ze,Ze,I.len,hlen]
def Cc{Q:VK}{L:PP}(I:Inv X pins O H s)(hp:H f=Y (.frz (Gf q a d sc cl F c L) (.own f)))(KQ:H c=Y (.frz B (.own y)))(SE:B.data=.fields p)(hv:p[1]?=Y (.str q E))(S:iK X.env sc=true)(Mn:j9 sc N X.N=true)(G:sc.names.lookup x=Y .local)(MV:∀x c,cl.lookup x=Y c->X.env.cells.lookup x=Y c)(Pa:∀y∈sc.names,y.2=.free->∃c,cl.lookup y.1=Y c)(hb:bindArgs (PySem.W.kla_fn "<lambda>" q a d sc cl F (.ref c) L) ⟨[u],[]⟩=pure [(x,u)])(C:sc.isCoroutine=Z)(RX:sc.isGenerator=Z)(MB:A.frames=X.A.frames)(hh:A.handled=M)(hd:A.depth<recursionLimit)(ru:RelV v u)(MC:PE (AC X (x :: N) q sc f c cl A s H) d t)(h:t (Y v :: O) H Q) :
  Pi (KF X.prog X.w) A (call (.ref f) [u]) (λr i=>∃w g,Inv X pins O g i/\RelV w r/\Q w g/\∀b o,ja X pins H b->s.heap.get? b=Y o->i.heap.get? b=Y o/\ja X pins g b) (λ_ _=>False) s:=by
 have m:=S;unfold iK at m;rw[ZJ,ZS]at m;refine XH (Xy (R:=λr i=>match r with | .ok (.ret u)=>CE X.stack X.prog X.w H s Q u i | _=>False) (PySem.W.kla_callFunE hd (I.D8 f _ hp).1 rfl C RX rfl (⟨c,B,p,E,rfl,(I.D8 c _ KQ).1,SE,hv⟩) ?_) λr i j=>?_)
 ·rw[hb];refine Zs (wpAny_newFunctionEnv (λy hy e=>by have:=m.2 y hy;rw[e]at this;cases this) (λz hz=>by rw[Zb.mp hz];exact G) (λh₁ OB P=>⟨I.nolimit.fresh _ P,?_⟩) (by simpa using m.1));have J:=I.lam (N:=N) (q:=q) (x:=x) (f:=f) (c:=c) (A:=A) (tk:=s.toks+([(x,u)]).length) S Mn G MV Pa MB hh ru OB (by simp) (λb o e=>P.extBut b o (Zi (Zf e)) (Zu _ e));refine PySem.W.kla_codeExpr (Z4 (MC [] _ _ H Q J h) (λr i hr=>?_) λ_ _ z=>z.elim);obtain⟨w,g,n,Ny,qw⟩:=hr;exact⟨w,g,n.os,n.bare,n.base,n.D8,Ny,qw⟩
 ·cases r with
  |error e=>exact j.elim
  |ok fl =>
   cases fl with
   |ret u =>
    refine L2.ah λP_ k_=>?_;obtain⟨v,g,os,bare,un,D8,r,q⟩:=j;obtain⟨v2,H2,I2,r2,rfl,rfl,q2⟩:=I.after (Q:=λD U=>D=v/\U=g/\Q D U) ⟨v,g,os,bare,un,D8,r,rfl,rfl,q⟩;refine k_ ?_;refine⟨v2,H2,I2,r2,q2,λb o l e=>?_⟩;exact⟨un.keep b o e l.1 (λz=>(Zj.mp (I.L5 b z)).elim l.2.1 l.2.2.1) (by simp),un.free b o e l.1 (by simp),l.2⟩
   |next=>exact False.elim j
   |brk=>exact False.elim j
   |cont=>exact False.elim j
end
end L2
end
section
open PySem PyProof.Rows
namespace TS
variable{A:SC}
noncomputable def oS:PP->Int
 |.int i _=>i
 |_=>0
theorem ints_in:∀{l:Wu},(∀u∈l,∃i t,u=Value.int i t)->IntsAre l (l.map oS)
 |[],_=>.nil
 |u :: l,h=>by
  obtain⟨i,t,rfl⟩:=h u Zv;exact .cons _ _ (ints_in λv a=>h v (Zw _ a))
end TS
end
section
namespace L2
open PySem PySem.Spec PyProof.Rows
noncomputable abbrev JP(X:Cx)(b:Scope)(a:List (Str×On)):Prop:=(∀x c,a.lookup x=Y c->X.env.cells.lookup x=Y c)/\∀y∈b.names,y.2=.free->∃c,a.lookup y.1=Y c
structure NJ(X:Cx)(q:Str)(params:Arguments)(body:Expr)(sc:Scope)(H:Hp)(f:On):Prop where
 ex:∃cl c ct oc y vs t,JP X sc cl/\H f=some (.frz (Gf q params body sc cl ((X.mg "__name__").getD .none) c ct) (.own f))/\H c=some (.frz oc (.own y))/\oc.data=.fields vs/\vs[1]?=some (.str q t)
section
def NJ.same{H a:Hp}(l:NJ X q params body sc H f)(e:aG H a):NJ X q params body sc a f:=by
 obtain⟨cl,c,ct,oc,y,b,t,i,h,g,d⟩:=l.ex;exact⟨cl,c,ct,oc,y,b,t,i,e _ _ h,e _ _ g,d⟩
def Ft{X:Cx}(m:X.env.qual ++ "<lambda>" = q)(A:defaultsOf params X.env=([],[]))(D:iK X.env sc=J)(o:X.env.code=.ref c)(C:PySem.W.codeHdIn X.K c P=J)(l:Tb X.base P q)(p:Bm X.mg X.base) :
  PE X (.Lambda params body sc pos) (λO H Q=>∀f a,aG H a->NJ X q params body sc a f->Q (.ref f) a):=by
 intro d s O H Q I h;have b:=D;unfold iK at b;rw[ZJ,ZS]at b;obtain⟨cl,z,B,x⟩:=vW λy j e=>I.ok.has y.1 (by
  have:=b.2 y j;rw[e]at this;simpa using this)
 refine BP I m A z o (PySem.W.codeHd_of_K I.mod.RJ C) l p λf w ct oc y g t a F E i n v u r=>?_;exact⟨.ref f,a,E,rfl,h f a i ⟨cl,w,ct,oc,y,g,t,⟨B,x⟩,n,v,u,r⟩⟩
end
end L2
namespace VS
open PySem PySem.Spec PyProof.Rows L2
section
def SR.under(s:SR G D U O H)(i:Int):SR G (λn=>match n with | 0=>[] | n+1=>D n) (some (.pu (.int i)) :: U) (some (.int i) :: O) H:=by
 refine⟨by rw[Ze,Ze,s.len],λn c h=>?_,λn t h=>?_,λn m t c h d ne a b=>?_⟩
 ·cases n with
  |zero=>cases h;exact⟨_,rfl,.int i⟩
  |succ n=>exact s.rp n c h
 ·cases n with
  |zero=>cases h
  |succ n=>exact s.nd n t h
 ·cases n with
  |zero=>cases h
  |succ n =>
   cases m with
   |zero=>exact λz=>nomatch z
   |succ m=>exact s.sep n m t c h d (λe=>ne (by rw[e])) a b
end
noncomputable def Cr:Fn:=λa=>match a with
 |[.scr ns]=>if ns.length<=63 then Y (.fr,.bl J) else M
 |_=>M
section
variable{K:Xd}
def Du{G:Gx}(j:G.K=K)(F:FnOk P w K mg base Lc k f b [y] (Nw G g))(i:∀ns:W0,ns.length<=63->g [.scr ns]=Y (.fr,.bl J)) :
  FnOk P w K mg base Lc k f b [y] (Nw (gx0 K) Cr):=F.imp λo H Q E h=>by
 obtain⟨p,s,m,r,l,a,q⟩:=h;unfold Cr at a;split at a
 ·rename_i ns;split at a
  ·rename_i e;cases a;cases l with
   |cons r1 r2 =>
    cases r2;cases r1 with
    |scr d=>exact⟨_,_,_,_,.cons (.scr (by rw[j];exact d)) .nil,i ns e,λv n F e1 r f1=>q v n F e1 (by cases r;exact .bl _) f1⟩
  ·cases a
 ·cases a
end
end VS
end
section
namespace L2
open PySem PySem.Spec PyProof.Rows
noncomputable abbrev UO:=List (On×On×Str)
noncomputable def yU(a:UO)(b:On):Option Str:=(a.find? λp=>p.2.1==b).map (·.2.2)
def lP(h:yU a b=Y q):∃c,(c,b,q)∈a:=by
 obtain⟨⟨c,P,d⟩,e,rfl⟩:=Zy.mp h;have:=List.find?_some e;cases (eq_of_beq this);exact⟨c,List.mem_of_find?_eq_some e⟩
def yu{K:Xd}{f:KB}{i:Wu}(KX:K.In f.heap)(OB:f.heap.Ns mainGlobals t)(X:f.heap.Ns builtinsNs R)(VC:∀x:Str,x ≠ "__name__" → R x=bootBuiltins x)(D:f.heap.NoLimit)(hg:f.gens=#[])(j:f.heap.get? a=Y { cls:=.type "list",data:=.seq i.toArray })(hi:IntsAre i B)(hl:B.length<=KM)(hr:D6 k callerA)(U:Bm t f.heap)(E:∀p∈g,PySem.W.CodeHd f.heap p.1 p.2.1/\f.heap.get? p.2.1=Y (PySem.W.tabObj #[]))(hf:∀p∈g,yU g p.2.1=Y p.2.2)(hN:PySem.W.noTabs K=J)(F:∀base:UF,K.In base->base.Ns mainGlobals t->Bm t base->(∀p∈g,Tb base p.2.1 p.2.2)->FnOk P w K t base Lc k fa fd [x] sp)(Pb:∀(s:KB)(u:PP),BindsTo s fd ⟨[u],[]⟩ [(x,u)])(P2:∀H:Hp,VS.k8 K H a B->sp [.ref a] H (λv _=>v=.bl J) λ_ _ _=>False) :
  codeAny (KF P w) callerA (.call (.ref fa) ⟨[.ref a],[]⟩) (λr l=>r=.ok (.ret (.bool J))/\OldK f.heap l.heap/\l.os=f.os/\AllBare l.gens) f:=by
 have rv:=mD hi;have C:=hi.length;obtain⟨H,hH⟩:∃H:Hp,H=λb=>if b=a/\K.lookup a=M then Y (.frz { cls:=.type "list",data:=.seq i.toArray } (.lst (B.map V.int))) else (yU g b).map HO.tbl:=⟨_,rfl⟩
 have cs:∀b,H b=M\/(b=a/\K.lookup a=M/\H b=Y (.frz { cls:=.type "list",data:=.seq i.toArray } (.lst (B.map V.int))))\/∃q,yU g b=Y q/\H b=Y (.tbl q):=λb=>by
  rw[hH];dsimp only;split
  ·rename_i z;exact .inr (.inl ⟨z.1,z.2,rfl⟩)
  ·cases e:yU g b with
   |none=>exact .inl L
   |some q=>exact .inr (.inr ⟨q,rfl,rfl⟩)
 have hP:∀p∈g,H p.2.1=Y (.tbl p.2.2):=λp N=>by
  have e:=hf p N;rw[hH];dsimp only;rw[Zl λz=>(λe z=>by
  obtain⟨c,hm⟩:=lP e;have:=(E _ hm).2;rw[z,j]at this;cases this) e z.1,e]
  rfl
 have D8:Lv P w H f.heap:=λb u e=>by
  rcases cs b with z | ⟨rfl,_,z⟩ | ⟨q,e2,z⟩
  ·rw[z]at e;cases e
  ·rw[z]at e;cases e;exact⟨j,by rw[Zt];exact hl,i,_,rv,j⟩
  ·rw[z]at e;cases e;obtain⟨c,hm⟩:=lP e2;exact⟨#[],(E _ hm).2,trivial,λpos v e=>nomatch e⟩
 have none_of:∀{b:On}{o:Obj},f.heap.get? b=Y o->(b=a->K.lookup a≠M)->o≠PySem.W.tabObj #[]->H b=M:=λ{b o} e n d=>by
  rcases cs b with z | ⟨z1,z2,_⟩ | ⟨q,e2,_⟩
  ·exact z
  ·exact absurd z2 (n z1)
  ·obtain⟨c,hm⟩:=lP e2;have:=(E _ hm).2;rw[show (c,b,q).2.1=b from rfl,e]at this;cases this;exact absurd L d
 have Ng:∀{b:On}{o:Obj},f.heap.get? b=Y o->(b=a->K.lookup a≠M)->o≠PySem.W.tabObj #[]->(t9 f.heap H).get? b=Y o:=λe n d=>A2 e (none_of e n d);have Q:∀{b:On}{m:X4},f.heap.Ns b m->(t9 f.heap H).Ns b m:=λ{b m} ⟨o,es,ep,e,d,r⟩=>⟨o,es,ep,Ng e (λz=>by
  rw[z,j]at e;cases e;cases d) (λz=>by rw[z]at d;cases d),d,r⟩
 have G:=λb o e=>Ng (KX b o e) (λz=>by rw[← z,e];exact λy=>nomatch y) λz=>by
  have A:=ZS.mp hN (b,o) (PySem.W.mem_of_lookupK e);subst z;exact absurd (A) Za
 have hM:Mod K t (t9 f.heap H):=⟨G,Q OB,⟨R,Q X,VC⟩,let ⟨mc,h1,A⟩:=D;⟨mc,Q h1,A⟩⟩
 refine Xy ((F _ G (Q OB) (by
  obtain⟨bm,ob,b1,b2,b3,b4,b5,O⟩:=U;exact⟨bm,ob,b1,b2,Ng b3 (λz=>by rw[z,j]at b3;cases b3;cases O) (λz=>by rw[z]at O;cases O),b4,b5,O⟩) λp N=>xK.mpr ⟨hP p N,Zf (E p N).2⟩).run callerA [] f H ⟨[.ref a],[]⟩ [.ref a] [.ref a] _ _ hr (⟨rfl,hM,λb q e=>(xK.mp e).1,λb o e=>CJ e,X8 (yF _ _),trivial,λb X=>absurd (show b∈([]:X6) from X) (by simp),D8,.of_eq hg⟩) (Pb f (.ref a)) (.cons L .nil) (P2 H (by
  cases S:K.lookup a with
  |some o =>
   have e:=KX a o S;rw[j]at e;cases e;exact .inr ⟨_,i.toArray,_,S,rfl,rfl,rfl,by rw[ZG,C];exact hl,by simpa using rv⟩
  |none=>exact .inl ⟨{ cls:=.type "list",data:=.seq i.toArray },by rw[hH];exact Zm ⟨rfl,S⟩⟩))) λr l h=>?_
 cases r with
 |error e=>exact h.elim
 |ok fl =>
  cases fl with
  |next=>exact False.elim h
  |brk=>exact False.elim h
  |cont=>exact False.elim h
  |ret u =>
   obtain⟨v,H',os,bare,un,Uc,r',q⟩:=h;subst q;obtain rfl:u=Value.bool J:=r';have main:∀b o,f.heap.get? b=Y o->asItWas f.heap l.heap b o/\∃o',l.heap.get? b=Y o':=λb o e=>by
    rcases cs b with z | ⟨rfl,_,z⟩ | ⟨q,e2,z⟩
    ·have:=un.keep b o e z (by intro z;exact absurd (show b∈([]) from z) (by simp)) (by simp);exact⟨.inl this,o,this⟩
    ·obtain⟨e1,_⟩:=Uc b _ (un.LV b _ _ z);rw[j]at e;cases e;exact⟨.inl e1,_,e1⟩
    ·obtain⟨c,hm⟩:=lP e2;obtain⟨h1,A⟩:=E _ hm;obtain⟨ps,e1,_⟩:=Uc b _ (un.Ly b _ z);rw[A]at e;cases e;exact⟨.inr (.inl ⟨(h1.tab A).isCodeTable,rfl,#[],ps,rfl,by rw[Array.empty_append];exact e1⟩),_,e1⟩
   exact⟨rfl,⟨λb o e=>(main b o e).1,λb o e=>(main b o e).2⟩,os,bare⟩
end L2
namespace VS
open PySem PySem.Spec PyProof.Rows L2
def Ah{l:PySem.W.OpenLaw}{q:SB}{i:List Str}{R:(X4)->UF->Prop}{d:DefRec}{K:Params->Xd}{B:X6}{e:∀P,B=(K P).map (·.1)}{z:X6}{x:Str}{k:Nat}{tb:UO}(D:l.most=some 63)(U:d.params.defaults=[])(C:D6 k callerA)(m:∀p∈tb,p.2.1∈z)(E:∀p∈tb,yU tb p.2.1=some p.2.2)(N:∀P,PySem.W.noTabs (K P)=J)(Q:∀P,∀p∈tb,PySem.W.codeHdIn (K P) p.1 p.2.1=J)(F:∀(w:UV)(mg:X4)(j:On)(h:UF),(K w.params).In h->h.Ns mainGlobals mg->mg d.name=some (.ref j) →
   ∃fd:Re,(∀(s:KB)(u:PP),BindsTo s fd ⟨[u],[]⟩ [(x,u)])/\∀base:UF,(K w.params).In base->base.Ns mainGlobals mg->Bm mg base->(∀p∈tb,Tb base p.2.1 p.2.2)->FnOk l.prog w (K w.params) mg base Lc k j fd [x] (Nw (gx0 (K w.params)) Cr)) :
  PySem.W.WalkO q i R (PySem.W.kmHook K B e z).says l.row.toRowW d [] (λf y=>PySem.call f y):=by
 refine Att.tM D U λw s₀ X mg mb j o pm cd doc a y ns G Y ho hd KQ n S hints hlen hg=>?_;have t:=PySem.W.km_in_of Y;obtain⟨fd,hb,O⟩:=F w mg j _ t G.T.g n;exact yu t G.T.g G.T.b G.T.builtins G.T.nolimit hg S hints (ZW hlen (by decide)) C G.T.bmain (λp A=>⟨PySem.W.codeHd_of_K t (Q _ p A),(PySem.W.km_tabs_of Y) _ (m p A)⟩) E (N _) O hb λH L=>⟨[.scr ns],[[]],.fr,.bl J,.cons (.scr L) .nil,Zm hlen,λv H' F _ r _=>r.Le⟩
end VS
namespace L2
open PySem PySem.Spec PyProof.Rows
def Ku.okC{K:Xd}(F:Ku K x a e f g)(S:bt N j (ak e))(l:∀d H Q E,i d H Q E->d.length=j.length)(r:∀(A:SC)(outer:List Env)(s:KB)(H:Hp)(d:List V)(Q:VK)(E:XK),D6 k (A.deeper (envOfC a (ak e) s.heap.objs.size f g.code))->i d H Q E →
   ∃t,Mr (gP Lc P w K m b N a (ak e) f g.code A outer s H E).L6 (aT e) t/\t { nx:=λ_ v=>Q .non v,rt:=Q } (start N d) H):FnOk P w K m b Lc (k+1) f g j i:=by
 refine L2.ah λz n=>?_;obtain⟨oc,y,kV,doc,pm,an,C,ct,B,rfl,lk,u⟩:=F.ex;refine n ?_;refine Ak lk u S l λA outer s H d Q E o p=>?_;obtain⟨t,h,q⟩:=r A outer s H d Q E o p;exact⟨t,h.L6,q⟩
end L2
namespace VS
open PySem PySem.Spec PyProof.Rows L2
section
variable{K:Xd}
def GI(F:Ku K x x a f e)(p:mg x=Y (.ref f))(u:e.code=.ref g)(S:bt N b (ak a))(n:b.length=i)(o:N.length=j)(r:∀(kV doc pm:PP)(an:Option On)(t ct:PP)(d:Wu),d.length=b.length->bindArgs (PySem.W.fnOf x x (c8 a) (aT a) (ak a) .none kV doc pm an t ct) ⟨d,[]⟩=pure (b.zip d))(q:∀(A:SC)(outer:List PySem.Env)(s:KB)(H:Hp)(E:XK),D6 k (A.deeper (envOfC x (ak a) s.heap.objs.size f (.ref g)))->fK G (gP Lc P w K mg base N x (ak a) f (.ref g) A outer s H E).L6 (aT a) c) :
  FnAt P w K mg base (k+1) x b G (fn i j c):=by
 refine⟨f,e,F.okC S (λm H Q E h=>BD n h) λA outer s H m Q E l h=>?_,p,F.kp,F.binds r⟩;rw[u]at l ⊢;exact⟨_,q A outer s H E l,zw o h⟩
end
end VS
end
section
namespace L2
open PySem PySem.Spec PyProof.Rows TS
section
variable{H:Hp}
def Sy(a:Nat->Str)(i j:Nat):Bool:=ltK (.inr (a i)) (.inr (a j))
def Ji(X:Cx)(a:Ym)(O:St)(H:Hp)(f:On)(l:W0)(g:Nat->Str):Prop:=∀(i:Nat)(u:PP)(e:KB)(d:Hp),i<l.length->RelV (.int (l.getD i 0)) u->Inv X a O d e->aG H d →
 Pi (KF X.prog X.w) X.A.in1 (call (.ref f) [u]) (λr j=>∃w h,Inv X a O h j/\RelV w r/\(w=.str (g i)/\aG d h)/\∀b o,ja X a d b->e.heap.get? b=Y o->j.heap.get? b=Y o/\ja X a h b) (λ_ _=>False) e
def Inv.tn{a:UF}(e:Inv X pins O H s)(g:ja X pins H I)(k:∀b o,b≠I->s.heap.get? b=Y o->a.get? b=Y o):Inv X pins O H { s with heap:=a,toks:=d } :=
 e.turned k g.1 g.2.1 g.2.2.2.1 g.2.2.2.2.1 g.2.2.2.2.2
def Inv.ints{ns:W0}(n:Inv X pins O H s)(m:KA X.K H p (ns.map V.int)):∃a:Wu,a.length=ns.length/\s.heap.IsList p a.toArray/\∀(j:Nat)(v:PP),a.toArray[j]?=Y v->RelV (.int (ns.getD j 0)) v:=by
 obtain⟨a,d,h,_⟩:=n.list m;have hl:a.length=ns.length:=by rw[← d.length,Zt]
 refine⟨a,hl,h.isList,λj v b=>?_⟩;rw[XU]at b;have e:j<ns.length:=by rw[← hl];exact(Zk.mp b).1
 obtain⟨u,l,g⟩:=d.get (i:=j) (x:=V.int (ns.getD j 0)) (by rw[ZY,Zr e,Zo,Zr e];rfl);rw[l]at b;cases b;exact g
def yR{X:Cx}{ns:W0}(hc:X.calm=J)(hq:KA X.K H p (ns.map V.int))(R1:S≠I)(Ub:p≠I)(C:Ji X pins O H f ns key) :
  ∀(k j:Nat)(a:KB)(c:Nat)(l r:PP)(e:Nat)(d:Hp),ns.length-j=k->j<=ns.length->Inv X pins O d a->aG H d->ja X pins d I->ja X pins d S->a.heap.IsListIter I p j->a.heap.get? S=Y (seqObj "list" #[l,r] e)->RelV (.int (ns.getD c 0)) l->RelV (.str (key c)) r →
  (∀v y q,Inv X pins O q y->aG H q->RelV (.int (ns.getD (ST.SN (Sy key) k j c) 0)) v->R (.ok (.ret v)) y) →
  codeAny (KF X.prog X.w) X.A (.builtin "min.loop" ⟨[.ref I,.ref f,.ref S],[]⟩) R a:=by
 have NC:(toString "min" ++ toString ".loop" : String) = "min.loop" := by decide
 intro k
 induction k with
 |zero =>
  intro j a c l r e d hk hj i g s Q hit m B D h;refine L2.ah λP_ G=>?_;obtain⟨u,hl,E,_⟩:=i.ints (p:=p) (g.seq hq);refine G ?_;have hn:u.toArray.size=j:=by rw[ZG];lia
  refine Yn F.entry_min_loop ?_;rw[Z5 Y6 _];refine(Zx (Wf m L ?_));refine(Zx (Xk ((Wr (prog:=X.prog) (w:=X.w) (A:=X.A.in1) (i.ok.hd hc) I p Ub u.toArray).done a _ _ ⟨by rw[hn];exact hit,E⟩ λh' tk n=>?_)));refine(Zx ?_);refine X0 (n S _ (λz=>R1 (Zb.mp z)) m) L (Zx (wpAny_letGo (Zs ?_)));exact h l _ d ((i.tn s λb o hb e=>n b o (λz=>hb (Zb.mp z)) e).tn Q λb o hb e=>by rw[Xe _ _ _ _ hb];exact e) g B
 |succ k ih =>
  intro j a c l r e d hk hj i g s Q hit m B D h;have t:j<ns.length:=by omega
  obtain⟨u,hl,E,R0⟩:=i.ints (p:=p) (g.seq hq);refine Yn F.entry_min_loop ?_;rw[Z5 Y6 _];refine(Zx (Wf m L ?_));refine(Zx (Xk ((Wr (prog:=X.prog) (w:=X.w) (A:=X.A.in1) (i.ok.hd hc) I p Ub u.toArray).item j a _ _ (by rw[ZG,hl];exact t) ⟨hit,E⟩ λv h' tk hP OY n=>?_)));have ru:=R0 j v hP;obtain⟨oI,P,P5,SE⟩:=id OY.1;refine(?_);refine Zx (Xk (ZC (Z4 (C j v _ d t ru (i.tn s λb o hb e=>n b o (λz=>hb (Zb.mp z)) e) g) (λx y he=>?_) λ_ _ z=>z.elim)));refine L2.ah λP_ G=>?_;obtain⟨w,q,I3,rx,⟨rfl,Lk⟩,kp⟩:=he;obtain⟨N,U⟩:=kp _ _ Q (n S _ (λz=>R1 (Zb.mp z)) m);obtain⟨kI,VH⟩:=kp _ _ s P;obtain⟨UY,rfl⟩:=id rx;obtain⟨tb,rfl⟩:=id D;refine G ?_;refine(?_);refine Zx (Xk (ZC (Zx (ST.JK (k:=.inr (key j)) (k':=.inr (key c)) L ⟨UY,rfl⟩ ⟨tb,rfl⟩ ?_))));refine Zx (ZC (Yb ?_));refine Zx (wpAny_letGo (Zs ?_));unfold ST.SN at h;have eb:ltK (.inr (key j)) (.inr (key c))=Sy key j c:=rfl;rw[eb];cases hb:Sy key j c with
  |false =>
   rw[hb]at h;refine Zx (wpAny_letGo ?_);rw[NC];exact Zs ⟨YT Y6 _,ih (j+1) _ c l _ e q (by lia) t I3 (g.trans Lk) VH U ⟨oI,kI,P5,SE⟩ N B D h⟩
  |true =>
   rw[hb]at h;refine Zx (X0 N L (Zx (wpAny_letGo ?_)));rw[NC];exact Zs ⟨YT Y6 _,ih (j+1) _ j v _ _ q (by lia) t (I3.tn U λb o hb e=>by rw[Xe _ _ _ _ hb];exact e) (g.trans Lk) VH U ⟨oI,by rw[Xe _ _ _ _ (Z9 R1)];exact kI,P5,SE⟩ (get?_update_seq N λ_=>#[v,.str (key j) UY]) ru rx h⟩
def yt(a v:PP):argsOk "min" ⟨[a],[(("key" : Str),v)]⟩:=by kernel_rfl
def yq{A:SC}(o:builtinKind h=M)(n:plainId h=J)(q:entryFor table h=Y b)(t:argsOk h ⟨d,j⟩)(l:Pi (KF a w) A.in1 (b ⟨d,j⟩) (λfin g=>match fin with
   |.done f=>(match (Except.ok f:Result) with | .ok (.ret v)=>Q v g | .ok _=>False | .error e=>E e g)
   |.again m=>m.quiet=J/\codeAny (KF a w) A m (λr g=>match r with | .ok (.ret v)=>Q v g | .ok _=>False | .error e=>E e g) g) E s) :
  Pi (KF a w) A (call (.builtin h) d j) Q E s:=by
 refine XH (WZ n q ?_);simp only[checkBuiltinCall,o];cases i:Manifest.signature? h with
 |none=>exact Zs l
 |some sig =>
  simp only[by simpa only[argsOk,i] using t];exact Zs l
def ve{X:Cx}{ns:W0}(B:X.calm=J)(a:Inv X pins O H s)(j:KA X.K H p (ns.map V.int))(n:0<ns.length)(d:Ji X pins O H f ns key)(q:∀i,aG H i->Q (.int (ns.getD (ST.SN (Sy key) (ns.length-1) 1 0) 0)) i) :
  Pi (KF X.prog X.w) X.A (call (.builtin "min") [.ref p] [(("key" : Str),.ref f)]) (EP X pins O Q) X.xe s:=by
 have NC:(toString "min" ++ toString ".loop" : String) = "min.loop" := by decide
 obtain⟨y,_,g,_⟩:=a.ints j;have G:=Zi (by obtain⟨_,e,_⟩:=g;exact Zf e);refine yq F.kind_min F.plain_min F.entry_min (yt _ _) ?_;refine(?_);refine Zx (wpAny_of_eq (rfl) ?_);refine Zx (Zs ?_);refine Zx (XO g ?_);refine Zx (YZ ?_);rw[NC];have r:Inv X pins O H { s with heap:=(s.heap.push { cls:=.type "list_iterator",data:=.fields #[.ref p,.int 0 0] }).push { cls:=.type "list",data:=.seq #[] } }:=a.kept (λb o e=>Zu _ (Zu _ e));have E:(s.heap.push { cls:=.type "list_iterator",data:=.fields #[.ref p,.int 0 0] }).objs.size=s.heap.objs.size+1:=size_push' ..;have m:(s.heap.push { cls:=.type "list_iterator",data:=.fields #[.ref p,.int 0 0] }).objs.size≠s.heap.objs.size:=by rw[E];exact Nat.succ_ne_self _
 have D:=a.NZ (Zn _) (a.D8.fresh (Zn _));have C:((s.heap.push { cls:=.type "list_iterator",data:=.fields #[.ref p,.int 0 0] }).push { cls:=.type "list",data:=.seq #[] }).get? (s.heap.push { cls:=.type "list_iterator",data:=.fields #[.ref p,.int 0 0] }).objs.size=Y (seqObj "list" #[] 0):=Zh _ L;refine Zs ⟨YT Y6 _,?_⟩;refine L2.ah λU h=>?_;obtain⟨D0,hl,pl,R0⟩:=r.ints j;refine h ?_;refine Yn F.entry_min_loop ?_;rw[Z5 Y6 _];refine(Zx (Wf C L ?_));refine(Zx (Xk ((Wr (prog:=X.prog) (w:=X.w) (A:=X.A.in1) (r.ok.hd B) s.heap.objs.size p G D0.toArray).item 0 _ _ _ (by rw[ZG,hl];exact n) ⟨⟨_,(Zu _ (Zh _ L)),rfl,rfl⟩,pl⟩ λv h' tk hP OY P=>?_)));have t:=R0 0 v hP;refine L2.ah λU h=>?_;obtain⟨oI,l,P5,SE⟩:=id OY.1;refine h ?_;refine(?_);refine Zx (Xk (ZC (Z4 (d 0 v _ H n t (r.tn D λb o hb e=>P b o (λz=>hb (Zb.mp z)) e) (aG.refl _)) (λx s2 he=>?_) λ_ _ z=>z.elim)));refine L2.ah λU h=>?_;obtain⟨w,i,I3,rx,⟨rfl,Lk⟩,kp⟩:=he;obtain⟨u,N⟩:=kp _ _ (by rw[E];exact a.NZ (YW _) (a.D8.fresh (YW _))) (P _ _ (λz=>m (Zb.mp z)) C);obtain⟨kI,VH⟩:=kp _ _ D l;obtain⟨UY,rfl⟩:=id rx;refine h ?_;refine(Zx ?_);refine X0 u L ?_;rw[NC];exact Zs ⟨YT Y6 _,yR B j m G d (ns.length-1) 1 _ 0 v _ _ i L n (I3.tn N λb o hb e=>by rw[Xe _ _ _ _ hb];exact e) Lk VH N ⟨oI,by rw[Xe _ _ _ _ (Z9 m)];exact kI,P5,SE⟩ (get?_update_seq u λ_=>#[v,.str (key 0) UY]) t rx λv s3 H3 I4 Mo rv=>⟨_,H3,I4,rv,q H3 Mo⟩⟩
end
end L2
namespace VS
open PySem PySem.Spec PyProof.Rows L2 TS
def J4:T->Option (W0)
 |.lst l=>jO l
 |_=>M
noncomputable def IG:T->Option Tx
 |.str x=>Y x
 |_=>M
def pf(a:Ex)(U:VS.Env)(i:Int):Option Tx:=(a (Y (.pu (.int i)) :: U)).bind λv=>IG v.2
def PQ(k:Int->Tx)(c:Int)(r:W0):Int:=r.foldl (λc i=>if M9 (k i) (k c) then i else c) c
def FS(k:Int->Option Tx):W0->W6
 |[]=>M
 |c :: r=>if (c :: r).all (λi=>(k i).isSome)=J then Y (.fr,.int (PQ (λi=>(k i).getD []) c r)) else M
def BW(b a:Ex):Ex:=λU=>(b U).bind λx=>(J4 x.2).bind (FS (pf a U))
def Dg(k:Nat->Tx)(i j:Nat):Sy (λi=>sx (k i)) i j=M9 (k i) (k j):=by
 rw[jA];exact decide_eq_decide.mpr (by simp[sx])
def yC(a:W0)(k:Int->Tx):∀(m j c:Nat),j+m=a.length->a.getD (ST.SN (Sy λi=>sx (k (a.getD i 0))) m j c) 0=(a.drop j).foldl (λc i=>if M9 (k i) (k c) then i else c) (a.getD c 0):=by
 intro m
 induction m with
 |zero =>
  intro j c h;rw[X9 (by lia)];rfl
 |succ m d =>
  intro j c h;have b:j<a.length:=by lia
  have e:a.getD j 0=a[j]:=by rw[Zo,Zr b];rfl
  unfold ST.SN;rw[d (j+1) _ (by lia),Yc b,Y4,← e,Dg];congr 1;split<;>rfl
section
def HA{X:Cx}{k0:Nat}{y:Str}{N:List Str}(hr:D6 k' X.A)(hk:k0+2<=k')(hm:X.mg "min" = M)(ha:PV G X a ca)(E:∀(f c:On)(cl:List (Str×On))(A:SC)(s:KB)(H:Hp),D6 k0 (A.deeper (PySem.W.envX q h s.heap.objs.size f (.ref c) cl))->PV G (AC X (y :: N) q h f c cl A s H) g B)(C:PySem.W.codeHdIn X.K c P=J)(ht:Tb X.base P q)(hb0:Bm X.mg X.base)(hg:Gl X "min")(hc:X.calm=J)(hs:K1 a [] X)(hq:X.env.qual ++ "<lambda>" = q)(OD:defaultsOf d X.env=([],[]))(Lp:iK X.env h=J)(Mn:j9 h N X.N=J)(KQ:X.env.code=.ref c)(hx:h.names.lookup y=Y .local)(hco:h.isCoroutine=Z)(RX:h.isGenerator=Z)(Pb:∀(cl:List (Str×On))(pm ct u:PP)(c:On),bindArgs (PySem.W.kla_fn "<lambda>" q d g h cl pm (.ref c) ct) ⟨[u],[]⟩=pure [(y,u)])(Up:backTo pos (P3 [a] X.env)=(Z,eval a X.env) :: backTo pos (P3 [] X.env))(hpl:(backTo pos (P3 [a] X.env)).any (·.1)=Z) :
  PV G X (.Call (.Name "min" p) [a] [⟨Y "key",.Lambda d g h kp,P0⟩] pos) (BW ca B):=by
 rintro o s O H Q I ⟨D,U,m,r,sr,e,k⟩;refine L2.ah λP_ k_=>?_;obtain⟨⟨mx,x⟩,ea,e1⟩:=Zz.mp e;obtain⟨ns,S,e2⟩:=Zz.mp e1;refine k_ ?_;obtain⟨l,rfl,el⟩:∃l,x=.lst l/\jO l=Y ns:=by
  have S:=S;cases x with
  |lst l=>exact⟨l,rfl,S⟩
  |_=>cases S
 match ns,el,e2 with
 |n :: j,el,e2 =>
 by_cases Lm:(n :: j).all (λi=>(pf B U i).isSome)=J
 ·rw[show FS (pf B U) (n :: j)=_ from Zm Lm]at e2;cases e2;refine Xz (l9 I hg hm FN ?_ (by decide) L);refine PyProof.Rows.callWith_kw (thn ((bA ha dQ hs) pos o s O H (λvs R=>∃b,vs=[.ref b]/\aG H R/\R b=Y (.lst ((n :: j).map V.int))) I ⟨D,U,mx,_,sr,ea,λv H' F e1 e2 e3=>?_⟩) λus s1 ⟨vs,R,I1,r1,b,ev,Ls,hb⟩=>?_) Up hpl L L
  ·obtain⟨b,ys,Gs,rfl,_,hb,rl⟩:=e2.lst_inv;rw[nF rl el]at hb;exact⟨b,rfl,e1,hb⟩
  ·subst ev;obtain⟨u,rfl,ru⟩:=r1.one;obtain rfl:=(ru)
   refine thn ((Do (Ft hq OD Lp KQ C ht hb0) Hu) pos o s1 O R (λzs H2=>∃f,zs=[.ref f]/\aG R H2/\NJ X q d g h H2 f) I1 (λf H' sm la=>⟨f,rfl,sm,la⟩)) λws s2 h_=>?_;obtain⟨zs,H2,I2,rz,f,ez,Lk,la⟩:=h_;subst ez;cases rz with
   |cons z1 z2 =>
    cases z2;cases z1;refine(?_);refine ve (key:=λi=>sx ((pf B U ((n :: j).getD i 0)).getD [])) hc I2 (KA.of (Lk _ _ hb)) (Nat.succ_pos _) (λi u s' H3 hi ru I3 Mo=>?_) λH3 Mo=>?_
    ·refine L2.ah λP_ k_=>?_;obtain⟨cl,c',ct,oc,y',vs,t,Om,hf,LU,h3,h4⟩:=(la.same Mo).ex;obtain⟨kv,Vv⟩:=Yw.mp (ZS.mp Lm _ (Yx (l:=n :: j) (i:=i) (a:=(n :: j).getD i 0) (by rw[Zo,Zr hi];rfl)));obtain⟨⟨mk,tk⟩,ek,VL⟩:=Zz.mp Vv;refine k_ ?_;have r2:=D6.in1 (hr.mono hk);refine Cc (N:=N) (x:=y) (Q:=λw H'=>w=.str (sx ((pf B U ((n :: j).getD i 0)).getD []))/\aG H3 H') I3 hf LU h3 h4 Lp Mn hx Om.1 Om.2 (Pb _ _ _ _ _) hco RX L r2.hd r2.depth ru (E f c' cl _ s' H3 (r2.deeper _)) ⟨_,_,mk,tk,((sr.same Ls).same (Lk.trans Mo)).under _,ek,λw H' F sm r _=>⟨?_,sm⟩⟩;rw[Vv];unfold IG at VL;split at VL
     ·rename_i z hz;cases VL;rw[show tk=T.str _ from hz]at r;exact r.str_inv.1
     ·cases VL
    ·have:=yC (n :: j) (λi=>(pf B U i).getD []) ((n :: j).length-1) 1 0 (by rw[Ze];lia);rw[this];exact k _ H3 [] ((Ls.trans Lk).trans Mo) (.int _) Fp.nil
 ·rw[show FS (pf B U) (n :: j)=_ from Zl Lm]at e2;cases e2
end
end VS
end
section
namespace VS
open PySem PySem.Spec PyProof.Rows L2 TS
theorem jv(x:Int):∀l:W0,(mh x l).Perm (x :: l)
 |[]=>.refl _
 |y :: l=>by
  unfold mh;split
  ·exact((jv x l).cons y).trans (.swap x y l)
  ·exact .refl _
theorem dZ:∀l:W0,(fg l).Perm l
 |[]=>.refl _
 |x :: l=>(jv x _).trans ((dZ l).cons x)
theorem pN(x:Int):∀l:W0,l.Pairwise (·<=·)->(mh x l).Pairwise (·<=·)
 |[],_=>List.pairwise_singleton _ _
 |y :: l,h=>by
  unfold mh;have b:=(YM.mp h).1;split
  ·refine YM.mpr ⟨λz a=>?_,pN x l (YM.mp h).2⟩;rcases Zj.mp ((jv x l).mem_iff.mp a) with rfl | a
   ·lia
   ·exact b z a
  ·refine YM.mpr ⟨λz a=>?_,h⟩;grind
theorem oQ:∀l:W0,(fg l).Pairwise (·<=·)
 |[]=>.nil
 |x :: l=>pN x _ (oQ l)
def qA{d:W0}(p:d.Perm l)(w:d.Pairwise (·<=·)):d=fg l :=
 (p.trans (dZ l).symm).eq_of_pairwise (λa b _ _ f e=>Int.le_antisymm f e) w (oQ l)
section
theorem xf:∀(l:W0),RpL G H (l.map V.int) (l.map T.int) (l.map λ_=>[])
 |[]=>.nil
 |i :: l=>.cons (.int _) (xf l)
end
end VS
end
section
namespace VS
open PySem PySem.Spec PyProof.Rows L2
noncomputable def e3(f:Val->Val->Val->W6)(a b c:Ex):Ex:=λU=>(a U).bind λx=>(b U).bind λy=>(c U).bind λz=>f x y z
end VS
end
section
namespace SI
open PySem PySem.Spec PyProof.Rows TS ST
noncomputable abbrev uA(a:Array Nat):Prop:=∀i j u v:Nat,i<j->a[i]?=Y u->a[j]?=Y v->u<v
theorem oN(d:uA b):∀(fuel lo a:Nat),a-lo<=fuel->lo<=a->a<=b.size->(∀i v,i<lo->b[i]?=Y v->v<j)->(∀i v,a<=i->b[i]?=Y v->j<=v) →
  (∀i v,i<SetTable.below.go b j fuel lo a->b[i]?=Y v->v<j)/\(∀i v,SetTable.below.go b j fuel lo a<=i->b[i]?=Y v->j<=v)/\SetTable.below.go b j fuel lo a<=b.size
 |0,lo,a,q,p,l,h,g=>by
  have e:lo=a:=by lia
  subst e;exact⟨h,g,l⟩
 |n+1,lo,a,q,p,l,h,g=>by
  unfold SetTable.below.go;by_cases o:lo<a
  ·rw[Zm o];have hm:(lo+a)/2<b.size:=by lia
   have hg:b[(lo+a)/2]?=Y (b.getD ((lo+a)/2) j):=by
    simp_all
   by_cases f:b.getD ((lo+a)/2) j<j
   ·rw[Zm f];refine oN d n _ a (by omega) (by lia) l (λi v m e=>?_) g;by_cases he:i=(lo+a)/2
    ·simp_all
    ·exact Xb (d i _ v _ (by lia) e hg) f
   ·rw[Zl f];refine oN d n lo _ (by omega) (by lia) (by exact YQ hm) h (λi v m e=>?_);by_cases he:i=(lo+a)/2
    ·simp_all
    ·exact ZW (Z1 f) (YQ (d _ i _ v (by lia) hg e))
  ·rw[Zl o];have e:lo=a:=by lia
   subst e;exact⟨h,g,l⟩
def j5(b:uA a)(j:Nat):(∀i v,i<SetTable.below a j->a[i]?=Y v->v<j)/\(∀i v,SetTable.below a j<=i->a[i]?=Y v->j<=v)/\SetTable.below a j<=a.size :=
 oN b _ 0 _ (by exact Nat.sub_le _ _) (Yt _) (Zn _) (λi v h=>absurd h (Nat.not_lt_zero _)) λi v h e=>by
  grind
def u9(b:uA a):SetTable.below a 0=0:=by
 obtain⟨e,f,d⟩:=j5 b 0;rcases Nat.eq_zero_or_pos _ with h | h
 ·exact h
 ·have:=e 0 _ h (Yo (by exact Zc h d));lia
def uQ(f:uA d)(e:d[i]?=Y v):SetTable.below d (v+1)=i+1:=by
 obtain⟨m,l,j⟩:=j5 f _;rcases Nat.lt_trichotomy (SetTable.below d (v+1)) (i+1) with h | h | h
 ·have:=l i v (by exact WV h) e;lia
 ·exact h
 ·have g:=Yo (by exact Zc h j);have a:=m _ _ h g;have b:=f i _ v _ (by exact Yp _) e g;lia
def jH{α:Type}{a:Array α}{x:α}(f:p<=a.size)(i:Nat):(SetTable.insertAt a p x)[i]?=if i<p then a[i]? else if i=p then Y x else a[i-1]?:=by
 unfold SetTable.insertAt;rw[Array.getElem?_append];simp only[Array.size_push,Array.size_extract,Y3 f,Nat.sub_zero];by_cases b:i<p
 ·rw[Zm (by exact Z2 b),Zm b,Array.getElem?_push,Zl (by simp;lia),Array.getElem?_extract];simp;lia
 ·rw[Zl b];by_cases d:i=p
  ·rw[Zm (by lia),Zm d,Array.getElem?_push,Zm (by simp;lia)]
  ·rw[Zl (by lia),Zl d,Array.getElem?_extract];have e:p+(i-(p+1))=i-1:=by lia
   rw[e];by_cases g:i-1<a.size
   ·rw[Zm (by simp;lia)]
   simp_all
def A1(n:uA d)(y:d[SetTable.below d j]? ≠ Y j):uA (SetTable.insertAt d (SetTable.below d j) j):=by
 obtain⟨t,s,w⟩:=j5 n j;have r:∀i v,SetTable.below d j<=i->d[i]?=Y v->j<v:=λi v o e=>by
  rcases Wh (s i v o e) with h | h
  ·exact h
  ·subst h;rcases Wh o with q | q
   ·have g:=Yo (by
     have:=(Yf.mp e).1;exact XD o this)
    exact XD (s _ _ (Zn _) g) (n _ _ _ _ q g e)
   simp_all
 intro a b u v x l f;rw[jH w]at l f;by_cases q1:a<SetTable.below d j
 ·rw[Zm q1]at l;by_cases p:b<SetTable.below d j
  ·rw[Zm p]at f;exact n a b u v x l f
  ·rw[Zl p]at f;by_cases m:b=SetTable.below d j
   ·rw[Zm m]at f;cases f;exact t a u q1 l
   ·rw[Zl m]at f;exact Xb (t a u q1 l) (r _ v (by lia) f)
 ·rw[Zl q1]at l;rw[Zl (by lia),Zl (by lia)]at f;by_cases m:a=SetTable.below d j
  ·rw[Zm m]at l;cases l;exact r _ v (by lia) f
  ·rw[Zl m]at l;exact n _ _ u v (by lia) l f
def iw(n:Nat):uA (Array.range n):=λi j u v h e1 e2=>by
 obtain⟨_,a⟩:=Yf.mp e1;obtain⟨_,b⟩:=Yf.mp e2;simp at a b;lia
structure RD(t:SetTable):Prop where
 V8:uA t.place
 dum:t.dummies=#[]
theorem mP{t:SetTable}(d:t.dummies=#[]){h:Int}:∀(fuel:Nat)(p:SetTable.Probe),p.dummy=M->SetTable.probe.go t f h fuel p=Y (.empty j g)->g=M/\t.place[SetTable.below t.place j]? ≠ Y j
 |0,p,_,e=>by cases e
 |n+1,p,b,e=>by
  unfold SetTable.probe.go at e;split at e
  ·rename_i a;cases e;refine⟨b,λq=>?_⟩;unfold SetTable.slot at a
   simp_all
  ·rename_i a;unfold SetTable.slot at a;dsimp only at a;rw[d]at a;split at a
   ·cases a
   ·simp[SetTable.has]at a
  ·split at e
   ·cases e
   ·exact mP d n _ (by
   unfold SetTable.advance;split
   ·exact b
   ·exact b) e
def Ih(d:RD t)(n:Nat):RD (t.orStandIn n):=by
 unfold SetTable.orStandIn;split
 ·exact d
 ·exact⟨iw _,rfl⟩
def zq(d:RD t)(e:Array (Int×PP))(h:Int)(x:PP):RD (layNew t e h x).2.1:=by
 unfold layNew;split
 ·rename_i g f a;unfold SetTable.freeSlot SetTable.probe at a;split at a
  ·rename_i j i hm;obtain⟨rfl,b⟩:=mP d.dum _ _ L hm;cases a;refine Ih ⟨A1 d.V8 b,?_⟩ _;show (if SetTable.has _ _=J then _ else _)=_;rw[d.dum];simp[SetTable.has]
  ·cases a
 ·exact⟨iw _,rfl⟩
def vd{t:SetTable}(h:Array (Int×PP))(n:Nat):RD (relayAll t h n).2.1:=by
 unfold relayAll;split
 ·rename_i s order f;dsimp only;split
  ·obtain⟨ow,w,g⟩:=Zz.mp f;cases g;refine⟨λi j u v r e1 e2=>?_,rfl⟩;rw[XU]at e1 e2;obtain⟨p,m⟩:=Zk.mp e1;obtain⟨o,l⟩:=Zk.mp e2;rw[← m,← l];exact List.pairwise_iff_getElem.mp (by
    rw[X3];refine List.Pairwise.filterMap _ (R:=(· < ·)) (λa b q x e y d=>?_) List.pairwise_lt_range;obtain⟨_,_,rfl⟩:=Zy.mp e;obtain⟨_,_,rfl⟩:=Zy.mp d;exact q) i j p o r
  ·exact⟨iw _,rfl⟩
 ·exact⟨iw _,rfl⟩
variable{A:SC}
def intKind_is(a:SB)(w:UV)(x:Int)(b:Tok):(intKind a w).is x (.int x b)=J:=by
 show Value.isInt x (.int x b)=J;simp[Value.isInt]
structure TbI(w:UV)(n:Nat)(t:SetTable):Prop where
 fit:t.fits n=true
 led:t.led=!QA w
 rd:RD t
noncomputable def US(w:UV)(l:List (Int×PP)):Prop:=∀e∈l,∃x a,e=(hashInt x,Value.int x a)
def nm(l:List (Int×PP)):W0:=l.map λe=>oS e.2
structure Ts(w:UV)(h:UF)(a:On)(ss:W0)(es:Array (Int×PP))(ep:Nat)(t:SetTable):Prop where
 at_:h.get? a=some { cls:=.type "set",dict:=none,data:=.set es ep t }
 tb:TbI w es.size t
 Pr:US w es.toList
 pm:(nm es.toList).Perm ss
 nd:ss.Nodup
 NH:es.size<scanBound
def US.of(h:US w l):ElemsOf (intKind prog w) l:=λe he=>by
 obtain⟨x,a,rfl⟩:=h e he;exact⟨⟨x,intKind_is _ w x a,rfl⟩,rfl⟩
def B3(h:US w l)(he:e∈l){k:Int}:(intKind prog w).is k e.2=J↔oS e.2=k:=by
 obtain⟨x,b,rfl⟩:=h e he;constructor
 ·intro a;obtain⟨u,e⟩:=Value.isInt_shape (show Value.isInt k (.int x b)=J from a);cases e;rfl
 ·intro a;cases a;exact intKind_is _ w _ b
def AN{s:KB}{x:Int}(T:Ts w s.heap a i p ep t)(hr:i.length+1<scanBound)(h:∀n KL N1 Rm t' b,Heap.SameBut a s.heap n->Ts w n a KL N1 Rm t'->(∀y,y∈KL↔y∈i\/y=x)->KL.length<=i.length+1->Q b { s with heap:=n }) :
  Pi (KF prog w) A (setAddHashed a (.int x l) (hashInt x)) Q E s:=by
 have B:=T.Pr.of (prog:=prog);refine ZC (Zx (YD T.at_ rfl T.tb.fit ?_));dsimp only;rw[byScan_of rfl T.NH B,Zm rfl];refine Zx (Zx (wpAny_rule (Zx (wpAny_setScan_of (intKind_is _ w x l) T.at_ rfl T.tb.fit B ?_))));cases H:List.findIdx? _ _ with
 |some j =>
  obtain⟨hj,U,_⟩:=List.findIdx?_eq_some_iff_getElem.mp H;refine Zs (Zs ?_);exact h _ i p ep t _ (Heap.SameBut.refl a _) T (λy=>⟨.inl,λz=>z.elim id λe=>e ▸ (T.pm.mem_iff.mp (ZQ.mpr ⟨_,Yv hj,(B3 T.Pr (Yv hj)).mp U⟩))⟩) (YW _)
 |none =>
  have hx:x∉i:=λhm=>by
   obtain⟨e,he,q⟩:=ZQ.mp (T.pm.mem_iff.mpr hm);have:=List.findIdx?_eq_none_iff.mp H e he;rw[(B3 T.Pr he).mpr q]at this;cases this
  have N:=layNew_perm t p (hashInt x) (.int x l);have O9:=layNew_fits t p (hashInt x) (.int x l);have RW:=CV t p (hashInt x) (.int x l);have Vu:=zq T.tb.rd p (hashInt x) (.int x l);generalize layNew t p _ _=L at N O9 RW Vu ⊢;obtain⟨d,O,wd,gv⟩:=L;rw[Array.toList_push]at N;have F:US w d.toList:=λe he=>by
   rcases ZU.mp (N.mem_iff.mp he) with q | q
   ·exact T.Pr e q
   ·exact⟨x,l,Zb.mp q⟩
  have v:(nm _).Perm (i++[x]):=(N.map _).trans (by
   rw[Yq];exact T.pm.append_right _)
  have P:d.size=i.length+1:=by
   have:=v.length_eq;simpa[nm] using this
  have R7:d.size<scanBound:=by rw[P];exact hr
  have fin:∀(u:Array _)(D:Nat)(t2:SetTable)(n:UF)(b:Bool),u.toList.Perm _->t2.fits _=J->t2.led=t.led->RD t2->Heap.SameBut a _ n →
    n.get? a=Y _->Q b _:=λu D t2 n b S f2 G d2 sb C =>
   h n (i++[x]) u D t2 b sb ⟨C,⟨f2,G.trans T.tb.led,d2⟩,λe he=>F e (S.mem_iff.mp he),(S.map _).trans v,(ZR.mpr ⟨T.nd,by simp,λy hy z hz e=>hx (by simp_all)⟩),by
    rw[← Z6,S.length_eq,Z6];exact R7⟩ (λy=>by simp) (by simp)
  have rest:∀(t2:SetTable),t2.fits d.size=J->t2.led=t.led->RD t2->Pi (KF _ w) A (do
    storeSet a _ t2
    if (!wd&&t2.tooFull)=J then
     let r:=relayAll t2 _ (SetTable.grown d.size)
     (match r.2.2 with
      |true=>rule "set.scan.the-table-gave-way"
      |false=>pure ())
     storeSet a r.1 r.2.1
     pure (Y J)
    else pure (Y J)) (λo g=>∃b,o=Y b/\Q b g) E s:=λt2 f2 G d2=>by
   refine Zx (wpAny_storeSet_of T.at_ rfl ?_ (Wx R7));have C:(s.heap.update a (Obj.putSet d t2)).get? a=Y { cls:=.type "set",dict:=M,data:=.set _ _ t2 }:=ZI _ T.at_ rfl;have Vb:Heap.SameBut a s.heap (s.heap.update a (Obj.putSet d t2)):=Y2 ..;by_cases hq:(!wd&&t2.tooFull)=J
   ·rw[Zm hq];have rp:=relayAll_perm t2 d (SetTable.grown d.size);have rf:=relayAll_fits t2 d (SetTable.grown d.size);have rl:=yY t2 d (SetTable.grown d.size);have rr:=vd (t:=t2) d (SetTable.grown d.size);generalize relayAll t2 _ _=R at rp rf rl rr ⊢;obtain⟨u,t3,X⟩:=R;have st:Pi (KF prog w) A (storeSet a u t3 >>= λ_=>pure _) (λo g=>∃b,o=Y b/\Q b g) E { s with heap:=s.heap.update a _ } :=
     Zx (wpAny_storeSet_of C rfl (Zs ⟨J,rfl,fin u _ t3 _ _ rp rf (rl.1.trans G) rr (Vb.trans (Y2 ..)) (ZI _ C rfl)⟩) (Wx (by rw[← Z6,rp.length_eq,Z6];exact R7)))
    cases X with
    |true=>exact Zx (wpAny_rule st)
    |false=>exact Zx (Zs st)
   ·rw[Zl hq];exact Zs ⟨_,rfl,fin _ _ t2 _ _ (Y0 _) f2 G d2 Vb C⟩
  have out:∀(m:Sem _),Pi _ A m (λo g=>∃b,o=Y b/\Q b g) E s->Pi (KF prog w) A m (λo g=>Pi (KF prog w) A (match o with | some added=>pure added | none=>setAddHashedIn a (.int x l) (hashInt x) 99999) Q E g) E s:=λm hm =>
   Z4 hm (λo g ⟨b,e,q⟩=>by subst e;exact Zs q) λ_ _ e=>e
  refine out _ ?_;have mid:∀(m:Sem Unit),(∀(s1:KB)(Q1:Unit->KB->Prop),Q1 () s1->Pi _ A m Q1 E s1)->∀(f:Unit->Sem _),Pi _ A _ _ E s->Pi (KF prog w) A (m>>=f) (λo g=>∃b,o=Y b/\Q b g) E s:=λm hm f H=>Zx (hm s _ H);refine mid _ (λs1 Q1 q1=>by cases gv<;>first | exact Zs q1 | exact wpAny_rule q1) _ ?_;by_cases hp:O.plain=J
  ·rw[Zm hp];refine Zx (Zs ?_);exact rest O O9 RW.1 Vu
  ·rw[Zl hp];refine Zx (Zs ?_);exact rest O O9 RW.1 Vu
theorem ux{prog:SB}{w:UV}{R:Result->KB->Prop}{I S:On}{N D:X6}{G:Array GenState->Array GenState->Prop}{n:Nat}{P:Nat->PP->Prop}{St:Nat->KB->Prop}{j:W0}(W:WalksS prog w A.in1 I N D G n P St)(a:S∉N)(hn:n=j.length)(L:∀i v,P i v->∃x t,v=.int x t/\j[i]?=Y x)(g:n+1<scanBound) :
  ∀(k i:Nat)(s:KB)(d:W0)(l:Array (Int×PP))(m:Nat)(t:SetTable),i+k=n->St i s->Ts w s.heap S d l m t->(∀y,y∈d↔y∈j.take i)->d.length<=i →
   (∀f p U Q q,Moved (S :: D) G s f->Ts w f.heap S p U Q q->(∀y,y∈p↔y∈j)->p.length<=n->R (.ok (.ret .none)) f) →
   codeAny (KF prog w) A (.builtin "set.update.loop" ⟨[.ref S,.ref I],[]⟩) R s
 |0,i,s,d,l,m,t,hk,st,T,hm,hl,C=>by
  have hi:i=n:=by omega
  subst hi;refine Yn F.entry_set_update_loop ?_;rw[Z5 WO];refine Zx (W.done s _ _ st λf mv=>Zs (C f d l m t (mv.mono λb g=>Zw _ g) ⟨mv.heap S _ (λh=>a (W.sub _ h)) T.at_,T.tb,T.Pr,T.pm,T.nd,T.NH⟩ (λy=>?_) hl))
  simp_all
 |k+1,i,s,d,l,m,t,hk,st,T,hm,hl,C=>by
  refine Yn F.entry_set_update_loop ?_;rw[Z5 WO];refine Zx (W.item i s _ _ (by lia) st λv s1 pv r mv=>?_);obtain⟨x,tk,rfl,hx⟩:=L i v pv;refine Zx (ZC ?_);refine ZC (Zx (wpAny_pyHash_int (AN (⟨mv.heap S _ (λh=>a (W.sub _ h)) T.at_,T.tb,T.Pr,T.pm,T.nd,T.NH⟩) (by lia) λh' p U Q q b H T2 NW OC=>?_)));refine Zs ⟨YT WO _,ux W a hn L g k _ _ _ _ _ q (by lia) (W.frame _ s1 _ _ r (YW _) λc B o e=>?_) T2 (λy=>?_) (by lia) λs2 X R8 ep2 t2 u T3 z Uh=>?_⟩
  ·rw[H.2 c λO=>a (O ▸ B)];exact e
  ·rw[NW y,hm y,List.take_add_one,hx,ZU];simp
  ·refine C s2 _ _ _ t2 (Moved.trans W.gtrans (Moved.then_heap (mv.mono λb g=>Zw _ g) (YW _) λc o B e=>?_) u) T3 z Uh;rw[H.2 c λO=>B (by simp_all)];exact e
theorem Ts.bare(h:UF):Ts w (h.push (ST.bare w)) h.objs.size [] #[] 0 (.fresh 0 0 (!QA w)) :=
 ⟨Zh _ L,⟨rfl,rfl,⟨λi j u v _ e=>by simp[SetTable.fresh]at e,rfl⟩⟩,λe he=>by simp at he,Y0 _,Z3,by decide⟩
def Ap{s:KB}{u:W0}(X:A.handled=M)(U:s.heap.IsList l j)(S:∀(i:Nat)(v:PP),j[i]?=Y v->∃x t,v=.int x t/\u[i]?=Y x)(P:j.size=u.length)(hb:u.length+1<scanBound)(h:∀(p:UF)(G:Nat) ss es ep t,Ts w p s.heap.objs.size ss es ep t->(∀y,y∈ss↔y∈u)->(∀b o,s.heap.get? b=Y o->p.get? b=Y o)->Q (.ref s.heap.objs.size) { s with heap:=p,toks:=G }) :
  Pi (KF prog w) A (call (.type "set") [.ref l]) Q E s:=by
 have f:=F.called_set;obtain⟨c,tl,mro⟩:=f.mro;have made:=f.made;have sub:=f.sub;have nt:=f.notType;have cc:=f.canCreate;refine XH (codeAny_of_tree (Zs (⟨Code.quiet_builtin _ (by decide +kernel),Yn F.entry_type_call ?_⟩)));rw[Around.under_plain (weight_type_call_type _ _ []) L]
 repeat any_goals first | assumption | wp_step
 refine Xy (CU _ (E:=E) (Q:=λv s1=>v=.ref _/\s1={ s with heap:=s.heap.push (bare w) }) ⟨rfl,rfl⟩) λr s1 a=>?_
 match r,a with
 |.error e,a=>exact a
 |.ok (.ret v),⟨e1,e2⟩ =>
  subst e1 e2;have g:=Ts.bare (w:=w) s.heap;have ty:Shared.TypeIs { s with heap:=s.heap.push (bare w) } (.ref s.heap.objs.size) "set" := ⟨_,g.at_,rfl⟩
  have il:=f.init.lookup;have ib:=f.init.bind (.ref s.heap.objs.size)
  repeat any_goals first | assumption | wp_step
  refine Xy (WZ (R:=wants (λv B=>v=.none/\Q (.ref s.heap.objs.size) B) E) f.init.plain F.entry_set_init (check_set_init_1 ty ?_)) λr2 B d=>?_
  ·refine L2.ah λP_ O=>?_;obtain⟨ol,m,C,nl,n⟩:=U;cases ol;dsimp only at C n;subst C n;refine O ?_;have La:=Zf m;have VP:=Zu (bare w) m;have lst:(s.heap.push (bare w)).IsList l j:=⟨_,VP,rfl,nl,rfl⟩
   have n1:=F.sub_list_set;have n2:=F.sub_list_frozenset;unfold Builtin.«set.__init__» noKeywords Builtin.Frozenset.updateFrom;generalize eP:pyIter=itr
   wp_walk
   subst eP;refine XO lst (Zx (wpAny_runValue ?_));refine ux ((Wr (by simp[X]) _ l (by rw[YR];exact Zi (Z2 La)) j).toS) (by
    rw[YR];grind) P S (by lia) j.size 0 _ [] #[] 0 _ (by exact WY _) ⟨⟨_,Zh _ L,rfl,rfl⟩,lst.push _⟩ (⟨Zu _ g.at_,g.tb,g.Pr,g.pm,g.nd,g.NH⟩) (by simp) (Zn _) λN KL N1 Rm H mv T hm _=>?_
   obtain⟨p,g',d',Pk,TH⟩:=N;have e1:g'=s.gens:=mv.gens;have e2:d'=s.drawn:=mv.drawn;have e3:TH=s.os:=mv.os;subst e1 e2 e3;refine Zs (Zs ⟨rfl,h p Pk KL N1 Rm H T hm λb o e=>mv.heap b o (λz=>?_) (Zu _ (Zu _ e))⟩);have D:=Zf e;rw[YR]at z;simp only[Zj,YB,or_false]at z;rcases z with q | q
   ·exact Zi D q
   ·exact Zi (Z2 D) q
  ·match r2,d with
   |.error e,d=>exact d
   |.ok (.ret v),⟨e1,e2⟩ =>
    subst e1
    repeat any_goals first | assumption | wp_step
   |.ok .next,d=>exact d.elim
   |.ok .brk,d=>exact d.elim
   |.ok .cont,d=>exact d.elim
 |.ok .next,a=>exact a.elim
 |.ok .brk,a=>exact a.elim
 |.ok .cont,a=>exact a.elim
end SI
end
section
namespace SI
open PySem PySem.Spec PyProof.Rows TS ST
variable{A:SC}
noncomputable def slt(t:SetTable):Nat->Nat
 |0=>0
 |i+1=>t.place.getD i 0+1
def x8{s:KB}(n:QA w=Z)(g:s.heap.get? a=Y (vy b e t))(m:t.fits b.size=J)(l:t.led=J)(o:(!t.plain&&decide (b.size > 1))=Z)(Q:Option (PP×Nat)->KB->Prop)(E:Yy)(h:Q (match b[SetTable.below t.place d]?,t.place[SetTable.below t.place d]? with | some (_,x),some j=>some (x,j+1) | _,_=>none) s):Pi (KF prog w) A (setNext a d i e) Q E s:=by
 have f:∀(Q:Bool->KB->Prop),Q _ s->Pi (KF prog w) A setsByText Q E s:=λQ q=>Zx (XG (Zs (by show Q (QA w) s;rw[n];exact q)));refine Zx (YD g L m (Zx (f _ ?_)));rw[Zl Za];refine(show Pi _ _ (if (!t.plain&&decide _)=J then _ else _) _ _ _ from ?_);rw[Zl (by rw[o];exact Za)];refine Zx (show Pi _ _ (if (!t.led && !b.isEmpty)=J then _ else _) _ _ _ from ?_);rw[Zl (by rw[l];simp)];exact Zs (Zs h)
def Ab{s:KB}(T:Ts w s.heap a ss l O t)(h:∀(I:On)(n:UF) d,(∀b o,s.heap.get? b=Y o->n.get? b=Y o)->Ready prog w s.heap.objs.size a l I { s with heap:=n,drawn:=d }->I<n.objs.size->Q (.ref I) { s with heap:=n,drawn:=d }) :
  Pi (KF prog w) A (pyIter (.ref a)) Q E s:=by
 have B:=T.at_;have La:=Zf B;have ty:s.TypeIs (.ref a) _:=⟨_,B,rfl⟩
 refine Wy ty F.slot_set_iter (YJ F.slot_set_iter ty Cp ?_ (F.args_set_iter_1 _));refine Zx (Zs ?_);refine Zx (Zx (Zx (YD B L T.tb.fit (Zs (Zs ?_)))));have p:∀(Q:Bool->KB->Prop)(E:Yy),Q _ s->Pi (KF prog w) A.in1 setsByText Q E s:=λQ E q=>Zx (XG (Zs q));refine Zx (Zx (YD B L T.tb.fit (Zx (p _ _ (Zs ?_)))));refine(show Pi _ _ (if (!QA w&&(!t.plain&&decide _))=J then _ else _) _ _ _ from ?_);have fin:∀(first:PP)(m:UF)(d:_),(∀b o,s.heap.get? b=Y o->m.get? b=Y o)->Ready _ w _ a l _ { s with heap:=m.push (P1 _ 0 a _ O),drawn:=d } →
   Pi (KF prog w) A.in1 (do
    let e ← setEpoch a
    let v ← newFields _ [first,rawInt 0,Value.ref a,rawInt l.size,rawInt e]
    ret v) (λf s'=>∃v,f=.done (.ret v)/\∃T' r,s'.TypeIs v T'/\typeLookup (Value.type T') _=pure (Y r)/\Q v s') E { s with heap:=m,drawn:=d }:=λfirst m d kp rd=>by
  refine Zx (wpAny_setEpoch_of (kp _ _ B) L T.tb.fit (Zx (YZ (Zs ⟨_,rfl,_,_,⟨_,Zh _ L,rfl⟩,nh.lookup,?_⟩))));exact h m.objs.size _ d (λb o e=>Zu _ (kp b o e)) rd (by simp_all)
 have Li:=Zi La;cases hb:QA w with
 |true =>
  rw[Zl (by simp)];refine Zx (Zs (fin _ _ _ (λb o e=>e) ⟨(pickOrder (w.params.setOrder a O) l).toList.map _,_,(lV _ _).map _,Zn _,Zn _,_,λS D =>
   qQ (t:=t) (λ_=>rawInt 0) _ (by simp) (by simp) Li (λ_ _ _ _=>trivial) ?step ?stop,⟨Zu _ B,Zh _ L,trivial⟩⟩))
  case step =>
   intro i s1 P R C m h2 _ q;have hl:(pickOrder (w.params.setOrder a O) l).size=l.size:=by rw[← Z6,(lV _ l).length_eq,Z6]
   refine jF D m T.tb.fit h2 (λQ E u=>wD hb m T.tb.fit Q E u) (λx nx e n p g=>?_) λe=>?_
   ·rw[Yo (by lia)]at e;cases e;exact q _ n (by simp_all) p g
   simp_all
  case stop =>
   intro s1 P R m h2 _ q;refine jF D m T.tb.fit h2 (λQ E u=>wD hb m T.tb.fit Q E u) (λx nx e n p g=>?_) λe=>q;rw[Array.getElem?_eq_none (by exact X8 (by rw[← Z6,(lV _ l).length_eq,Z6]))]at e;cases e
 |false =>
  by_cases m:t.plain=Z/\l.size > 1
  ·rw[Zm (by simp[m.1,m.2])];refine Zx (Dz _ _ _ _ (by simp) λq d u=>Zx (YZ (fin _ _ d (λb o e=>Zu _ e) ?_) ?_))
   ·have U:q.length=l.size:=by rw[u.length_eq,Yz]
    have H:∀j∈q,j<l.size:=λj hj=>Yj.mp (u.mem_iff.mp hj);refine⟨q.map λj=>((l[j]?).map (·.2)).getD .none,_,?_,by simp_all,Zn _,_,λS D =>
     qQ (t:=t) (λ_=>.ref _) _ (by simp) (by simp)
      (by rw[YR];exact Zi (Z2 La)) (λx y e k=>k _ (by simp) (by simp_all) _ e) ?step ?stop,⟨Zu _ (Zu _ B),Zh _ L,Zu _ (Zh _ L)⟩⟩
    case step =>
     intro i s1 P R C z G g3 q1;refine oP D z T.tb.fit G g3 L (λj x e1 e2 n p g=>q1 _ n ?_ p g) (λj e=>H j (Yx e)) λe=>?_
     ·simp_all
     simp_all
    case stop =>
     intro s1 P R z G g3 q1;refine oP D z T.tb.fit G g3 L (λj x e1 e2 n p g=>?_) (λj e=>H j (Yx e)) λe=>q1
     simp_all
    refine(u.map _).trans (List.Perm.of_eq ?_);apply Xa;intro i;rw[ZY,ZY];by_cases C:i<l.size
    ·simp_all
    simp_all
   ·show _<=KM;have U:q.length=l.size:=by rw[u.length_eq,Yz]
    have:=Wx T.NH;simp;lia
  ·have VB:(!t.plain&&decide (l.size > 1))=Z:=by
    simp_all
   rw[Zl (by rw[VB];simp)];have hps:t.place.size=l.size:=by
    have:=T.tb.fit;unfold SetTable.fits at this
    simp_all
   have X:∀i,i<=l.size->SetTable.below _ (slt t i)=i:=λi C=>by
    cases i with
    |zero=>exact u9 T.tb.rd.V8
    |succ i =>
     refine uQ T.tb.rd.V8 ?_;rw[Yo (by omega)];simp[Array.getD,show i<t.place.size by omega]
   have N:∀(i:Nat)(s1:KB),i<=l.size->s1.heap.get? a=Y _->∀(S:SC)(Q:Option _->KB->Prop)(E:Yy),Q _ s1 →
     Pi (KF prog w) S (setNext a _ i O) Q E s1:=λi s1 C g S Q E u=>x8 hb g T.tb.fit (by rw[T.tb.led,hb];rfl) VB Q E (by rw[X i C];exact u)
   refine Zx (Zs (fin _ _ _ (λb o e=>e) ⟨_,_,Y0 _,Zn _,Zn _,_,λS D =>
    qQ (t:=t) (λi=>.int ((slt t i:Nat):Int) 0) _ (by simp) (by simp) Li (λ_ _ _ _=>trivial) ?step ?stop,⟨Zu _ B,Zh _ L,trivial⟩⟩))
   case step =>
    intro i s1 P R C z G _ q;have ep1:t.place[i]?=Y (t.place.getD i 0):=by
     simp_all
    refine jF D z T.tb.fit G (N i s1 (YQ C) z _) (λx nx e n p g=>?_) λe=>?_
    ·rw[Yo C,ep1]at e;cases e;exact q _ n (by simp_all) p g
    simp_all
   case stop =>
    intro s1 P R z G _ q;refine jF D z T.tb.fit G (N l.size s1 (Zn _) z _) (λx nx e n p g=>?_) λe=>q
    simp_all
def Cw{s:KB}(hh:A.handled=M)(T:Ts w s.heap a z D U t)(h:∀(Q:UF) d (tk:Nat) (y:Wu),(∀b o,s.heap.get? b=Y o->Q.get? b=Y o)->(∀v∈y,∃x u,v=Value.int x u)->(y.map oS).Perm z->R y { s with heap:=Q,drawn:=d,toks:=tk }) :
  Pi (KF prog w) A (collect (.ref a)) R E s:=by
 have O:=T.at_;have La:=Zf O;have hz:=Wx T.NH;refine Zx (wpAny_runValue (Yn entry_proto_collect' ?_));rw[Z5 PySem.F.plain_proto_collect];refine Zx (YZ (Zs ⟨YT PySem.F.plain_list_iadd _,Yn entry_list_iadd' ?_⟩));rw[Z5 PySem.F.plain_list_iadd];refine(show Pi _ _ (Builtin.List.listExtendWith _ _ _) _ _ _ from ?_);have G:Ts w (s.heap.push { cls:=.type "list",data:=.seq ([]).toArray }) a z D U t:=⟨Zu _ O,T.tb,T.Pr,T.pm,T.nd,T.NH⟩
 refine Zx (wpAny_typeOf (⟨_,G.at_,rfl⟩) ?_);rw[Zl (by
  have:Builtin.List.listSameRef (.ref s.heap.objs.size) (.ref a)=Z:=by simp[Builtin.List.listSameRef];exact Xs La
  rw[this];decide)]
 refine Zx (Ab G λI h1 d kp rd hI=>?_);refine L2.ah λP_ k_=>?_;obtain⟨ord,p,H,B,RP,St,W,st⟩:=rd;refine k_ ?_;refine Zx (ZC (As (⟨_,kp _ _ G.at_,rfl⟩) ?_));have l:=Zc (by rw[YR];exact Yp _) B;have off:s.heap.objs.size∉[I,a,p]:=by
  simp only[Zj,YB,or_false,not_or];exact⟨Zi l,Xs La,Zi (Zc (by simp_all) RP)⟩
 have W1:=W A.in1 hh;have loop:∀(g:UF)(c:Nat),(∀b o,b≠s.heap.objs.size->h1.get? b=Y o->g.get? b=Y o)->g.get? _=Y _ →
   codeAny _ A _ (λr f=>∃acc n,r=.ok (.ret (.ref s.heap.objs.size))/\f.heap.get? _=Y { cls:=.type _,data:=.seq acc n }/\R acc.toList f) { s with heap:=g,drawn:=d }:=λg c m j=>by
  refine codeAny_extend_loopS W1 hz _ off _ _ 0 _ _ c L (Yt _) (W1.frame 0 _ g _ st (Zn _) λb hb o e=>m b o (λq=>off (q ▸ hb)) e) j (ItemsOf.nil _) λf acc n mv C P=>⟨_,n,rfl,C,?_⟩
  obtain⟨h3,g3,X,tk3,os3⟩:=f;have e1:=mv.gens;have e2:X=d:=mv.drawn;have e3:=mv.os;subst e1 e2 e3;have UG:acc.toList=ord:=by
   apply Xa;intro i;rw[YX];cases e:acc[i]? with
   |some v=>exact(P.2 i v e).symm
   |none =>
    have h5:ord.length=D.size:=by rw[H.length_eq];simp
    exact(Y7 (by rw[h5,← P.1];simp_all)).symm
  refine h h3 X _ _ (λb o e=>?_) (λv N=>?_) ?_
  ·have hb:=Zf e;refine mv.heap b o (λL1=>?_) (m b o (Zi hb) (kp b o (Zu _ e)));simp only[Zj,YB,or_false]at L1;rcases L1 with q | q
   ·exact Zi hb q
   ·exact Zi (Xb hb l) q
  ·rw[UG]at N;obtain⟨e,he,rfl⟩:=ZQ.mp (H.mem_iff.mp N);obtain⟨x,u,rfl⟩:=T.Pr e he;exact⟨x,u,rfl⟩
  ·rw[UG];refine(H.map _).trans (List.Perm.trans (List.Perm.of_eq ?_) T.pm);rw[ZA];rfl
 have S:=kp _ _ (Zh _ L);rw[Zm (by decide)];have j:=ZI (Obj.mapSeq (·.push Value.none)) S L;refine Zx (wpAny_rule (Zx ?_));refine(?_);refine Zx (X0 S L (X0 j L (Zs ⟨YT PySem.F.plain_extend_loop _,(λg c m j =>
  Xy (loop g c m j) (R':=λr f=>match r with | .ok (.ret v)=>Pi _ A (match v with | .ref a=>load a >>= λo=>(match o.data with | .seq xs _=>pure xs.toList | _=>unsupported _) | _=>unsupported _) R E f | .ok _=>False | .error e=>E e f) λr f hq=>by
   obtain⟨acc,n,e,C,q⟩:=hq;subst e;exact Zx (wpAny_load C (Zs q))) _ _ (λb o hb e=>?_) (ZI _ j L)⟩)))
 exact(ZO _ _ (Z9 hb)).trans ((ZO _ _ (Z9 hb)).trans e)
end SI
namespace TS
open PySem PySem.Spec PyProof.Rows
variable{A:SC}
theorem in_of:∀{l:Wu}{ns:W0},IntsAre l ns->l.map oS=ns/\∀v∈l,∃x t,v=Value.int x t
 |_,_,.nil=>⟨rfl,λv h=>by cases h⟩
 |_,_,.cons x t r=>⟨by rw[Zg,(in_of r).1];rfl,λv h=>by
   rcases Zj.mp h with rfl | h
   ·exact⟨x,t,rfl⟩
   ·exact(in_of r).2 v h⟩
def pE(y:∀(l:SC)(z:Yy),l.handled=A.handled->Pi (KF prog w) l (collect x) (λa s1=>(∀v∈a,∃x t,v=Value.int x t)/\a.length<64/\∀(out:Wu)(d:UF)(e:Nat),(∀v∈out,∃x t,v=Value.int x t)->(out.map oS).Perm (a.map oS)->(out.map oS).Pairwise (·<=·)->(∀b o,s1.heap.get? b=Y o->d.get? b=Y o)->d.get? s1.heap.objs.size=Y (seqObj "list" out.toArray e)->Q (.ref s1.heap.objs.size) { s1 with heap:=d }) z s) :
  Pi (KF prog w) A (call (.builtin "sorted") [x]) Q E s:=by
 refine Calls.call_function_entry kind_sorted plain_sorted entry_sorted (args_sorted1 _) (?_);refine Zx (Zs (Zx (Z4 (y A.in1 (λ_ _=>False) L) ?_ λ_ _ e=>e.elim)));rintro g s1 ⟨m,u,h⟩;refine Zx (wpAny_newList ?_ (by rw[Y8];omega));have f:(s1.heap.push (seqObj "list" g.toArray 0)).get? s1.heap.objs.size=Y (seqObj "list" g.toArray 0):=Zh _ L;refine Zx (ZC (YJ slot_list_sort ⟨_,f,rfl⟩ entry_list_sort (list_sort_tree f (ints_in m) u λout B r q p=>⟨_,rfl,?_⟩) (args_list_sort _)));obtain⟨e,he⟩:=sortedHeap_at f;obtain⟨j,n⟩:=in_of r;refine Zs ⟨_,rfl,h out.toList _ e n (by rw[j];exact q) (by rw[j];exact p) (λb o i=>by
  have hb:=Zf i;rw[sortedHeap_old (Zi hb) (by rw[size_push'];exact Z2 hb),Heap.get?_push_ne _ _ _ (Zi hb)];exact i) he⟩
end TS
namespace L2
open PySem PySem.Spec PyProof.Rows TS
section
noncomputable def B2(w:UV)(a:On)(d:W0):HO:=.ext λ_ h=>∃b e f t,SI.Ts w h a b e f t/\∀y,y∈b↔y∈d
theorem oF:∀{ns:W0}{a:Wu},aN (ns.map V.int) a->(∀v∈a,∃x t,v=Value.int x t)/\a.map oS=ns
 |[],_,.nil=>⟨λv h=>(by cases h),rfl⟩
 |n :: ns,_,.cons ⟨t,e⟩ r=>⟨λv h=>by
   rcases Zj.mp h with rfl | h
   ·exact⟨n,t,e⟩
   ·exact(oF r).1 v h,by rw[Zg,(oF r).2,e];rfl⟩
def yx{X:Cx}(y:X.calm=J):cF X (.type "set") (λe H Q=>∃p,∃b:W0,e=[.ref p]/\KA X.K H p (b.map V.int)/\b.length+1<scanBound/\∀l,H l=M->Q (.ref l) (upd H l (B2 X.w l b))):=by
 intro f s O H e L Q I rx h;refine L2.ah λU n=>?_;obtain⟨p,b,rfl,r,hb,q⟩:=h;obtain⟨u,rfl,j⟩:=rx.one;cases j;obtain⟨D0,g,m,P⟩:=I.list r;obtain⟨o,A⟩:=oF g;refine n ?_;refine SI.Ap (I.ok.hd y) m.isList (λi v d=>?_) (by grind) hb λz N KL N1 B t T hm kp=>?_
 ·rw[XU]at d;obtain⟨x,t,rfl⟩:=o v (Yx d);refine⟨x,t,rfl,?_⟩;rw[← A,ZY,d];rfl
 ·refine⟨.ref _,_,I.laid kp (Zn _) (show cR _ _ _ z _ (B2 _ _ b) from⟨⟨_,_,B,t,T,hm⟩,⟨_,T.at_⟩,λS R ⟨G,F,E,D,a,C⟩ k=>⟨G,F,E,D,⟨k _ a.at_,a.tb,a.Pr,a.pm,a.nd,a.NH⟩,C⟩⟩),rfl,q _ (I.D8.fresh (Zn _))⟩
def mK{X:Cx}(D:X.calm=J):cF X (.builtin "sorted") (λj H Q=>∃p,∃f:W0,j=[.ref p]/\H p=Y (B2 X.w p f)/\(∀a:W0,a.Nodup->(∀y,y∈a↔y∈f)->a.length<64) ∧
  ∀(l:On)(a:W0),H l=M->a.Nodup->(∀y,y∈a↔y∈f)->a.Pairwise (·<=·)->Q (.ref l) (upd H l (.lst (a.map V.int)))):=by
 intro b s O H j R Q I rx h;refine L2.ah λP_ A=>?_;obtain⟨p,f,rfl,C,N,q⟩:=h;obtain⟨u,rfl,v⟩:=rx.one;cases v;obtain⟨⟨r,S,U,t,T,hm⟩,_,_⟩:=I.D8 p _ C;refine A ?_;refine TS.pE λA' E' E=>SI.Cw (E.trans (I.ok.hd D)) T λL d o m kp B g=>?_;have n:Inv X b O H { s with heap:=L,drawn:=d,toks:=o }:=(I.kept kp).drew d;have F:m.length<64:=by
  have:=N (m.map oS) ((g.nodup_iff).mpr T.nd) λy=>(g.mem_iff).trans (hm y);simpa using this
 refine⟨B,F,λout G e z i x P he=>?_⟩;exact⟨.ref _,_,n.laid P (Zn _) (show cR X.prog X.w _ G _ (.lst ((out.map oS).map V.int)) from⟨(by rw[Zt,i.length_eq,Zt,Y8];omega),out,e,mD (ints_in z),he⟩),rfl,q _ _ (n.D8.fresh (Zn _)) (((i.trans g).nodup_iff).mpr T.nd) (λy=>((i.trans g).mem_iff).trans (hm y)) x⟩
end
end L2
namespace VS
open PySem PySem.Spec PyProof.Rows L2
section
noncomputable def jb:W0->W0
 |[]=>[]
 |a :: l=>a :: (jb l).filter (· ≠ a)
theorem iX:∀(l:W0)(x:Int),x∈jb l↔x∈l
 |[],x=>by simp[jb]
 |a :: l,x=>by
  simp only[jb,Zj,YG,iX l x,ne_eq,decide_not,Bool.not_eq_eq_eq_not,Bool.not_true,decide_eq_false_iff_not];by_cases h:x=a
  ·simp[h]
  ·simp[h]
theorem j6:∀(l:W0),(jb l).Nodup
 |[]=>by simp[jb]
 |a :: l=>by
  simp only[jb,Zd];exact⟨by simp,(j6 l).filter _⟩
def gU:W5->W6
 |[(_,.lst l)]=>(jO l).bind λns=>if ns.length+1<4096/\(jb ns).length<64 then Y (.fr,.lst ((fg (jb ns)).map .int)) else M
 |_=>M
def kM{X:Cx}(C:X.mg "sorted" = M)(NW:X.mg "set" = M)(L:Lj G X [e] cs)(E:{`q2,Gl X "sorted"})(Ol:{`q2,Gl X "set"})(P:{`q2,X.K=G.K})(o:{`q2,X.calm=J})(he:{`q2,K1 e [] X})(S:{`q2,P3 [.Call (.Name "set" p2) [e] [] pos'] X.env=(Z,eval (.Call (.Name "set" p2) [e] [] pos') X.env) :: P3 [] X.env}) :
  PV G X (.Call (.Name "sorted" p) [.Call (.Name "set" p2) [e] [] pos'] [] pos) (eN gU cs):=by
 refine PE.weak (lH (mK o) E C p5 (bA (pJ (yx o) Ol NW FZ L (he:=he)) dQ S)) λO H Q N=>?_;obtain⟨D,U,m,t,s,d,k⟩:=N;obtain⟨l,R,d⟩:=Zz.mp d;refine⟨D,U,l,s,R,λvs j Fs s1 r1 f1=>?_⟩;unfold gU at d;split at d
 ·rename_i mx x;obtain⟨ns,e1,e2⟩:=Zz.mp d;split at e2
  ·rename_i hb;refine L2.ah λP_ A=>?_;cases e2;obtain⟨v,F,rfl,rfl,rx⟩:=(r1).one;obtain⟨a,ys,Gs,rfl,rfl,Os,z⟩:=rx.lst_inv;refine A ?_;have pm:∀b:W0,b.Nodup->(∀y,y∈b↔y∈ns)->b.Perm (jb ns):=λb g f=>(List.perm_ext_iff_of_nodup g (j6 _)).mpr λy=>by rw[f y,iX]
   refine⟨a,ns,rfl,?_,hb.1,λq B=>⟨q,ns,rfl,aA,λb g f=>by rw[(pm b g f).length_eq];exact hb.2,λh b u g f i=>?_⟩⟩
   ·rw[P,← nF z e1];exact KA.of Os
   ·have n:aG j (upd j q (B2 X.w q ns)):=bN B;rw[qA (pm b g f) i];have r:Rp G (upd (upd j q (B2 X.w q ns)) h (.lst ((fg (jb ns)).map V.int))) (.ref h) (.lst ((fg (jb ns)).map T.int)) (h :: ((fg (jb ns)).map λ_=>[]).flatten):=.lst aA (xf _);rw[n8]at r;exact k _ _ _ ((s1.trans n).trans (bN u)) r (Fp.new ((s1.trans n).free u) (by simp) Fp.nil)
  ·cases e2
 ·cases d
end
def t2:T->Bool
 |.lst l=>l.all tsc
 |t=>tsc t
def t3:T->Bool
 |.tup l=>l.all t2
 |t=>t2 t
end VS
end
section
namespace VS
open PySem PySem.Spec PyProof.Rows L2
def jW:List Xx->VS.Env->Option (W7×VS.Env)
 |[],U=>Y ([],U)
 |x :: r,U=>(x U).bind λz=>if Ko z.1.2=J then (jW r z.2).map λw=>(z.1.2 :: w.1,w.2) else M
def tW(G:Gx):List Xx->TA
 |[]=>yk
 |x :: r=>xu (tX G x) (tW G r)
section
theorem xO:∀(xs:List Xx){D:Kn}{U g:VS.Env}{f:W7}{O:L2.St}{H:Hp}{Q:List V->Hp->Prop},SR G D U O H->jW xs U=Y (f,g) →
  (∀b d i,SR G i g O d->Kq D U H i g d->RpL G d b f (List.replicate f.length [])->b.length=xs.length->Q b d)->tW G xs O H Q
 |[],D,U,_,_,_,H,_,s,e,k=>by
  cases e;exact k [] _ _ s (Kq.refl D U H) .nil L
 |x :: r,D,U,_,_,_,_,_,s,e,k=>by
  obtain⟨z,e1,e2⟩:=Zz.mp (show (x U).bind _=_ from e);split at e2
  ·rename_i m;obtain⟨w,e3,n⟩:=Zy.mp e2;cases n;exact⟨D,U,z.1,z.2,s,e1,m,λu q t s1 f1 r1=>xO r s1 e3 λb o p j f2 rp l=>k (u :: b) o p j (f1.trans f2) (.cons (r1.keep f2.kept λa h=>nomatch h) rp) (congrArg Nat.succ l)⟩
  ·cases e2
def PDs(G:Gx)(X:Cx)(b:List Expr)(a:List Xx):Prop:=PA X b (tW G a)
end
noncomputable def rH:Val->Val->W6
 | (_,.int i),(_,.int j)=>if 0<j/\j<1000000000000000000000000000000000000000000000000000000000000 then Y (.fr,.int (i/j)) else M
 |_,_=>M
noncomputable def Ee(_ j:Int):Prop:=0<j/\j<1000000000000000000000000000000000000000000000000000000000000
def Al:OpR X (binaryOp .FloorDiv) (rI Ee λi j=>.int (i/j)):=TJ λi j _ _ _ _ _ a q=>by
 have e:(0:Int)<j:=a.1;have d:j<1000000000000000000000000000000000000000000000000000000000000:=a.2;refine floordiv_int (by omega) (by rw[Int.fdiv_eq_ediv_of_nonneg i (by omega)];exact q) (.inl (PyProof.noPylong_of_log2 ?_));have b:j.natAbs<2 ^ 200:=by
  have:(2:Nat) ^ 200=1606938044258990275541962092341162602522202993782792835301376:=by decide
  omega
 have:=(Nat.log2_lt (n:=j.natAbs) (k:=200) (by omega)).mpr b;omega
section
def By:eY G (rI Ee λi j=>.int (i/j)) rH:=by
 intro D U g H x y u w n l m t Q d e k;obtain⟨m1,x⟩:=x;obtain⟨f,y⟩:=y;obtain⟨same,r1,r2,f1,f2,nd⟩:=d;unfold rH at e;split at e
 ·rename_i e1 e2;cases e1;cases e2;split at e
  ·rename_i h;cases e;exact⟨_,_,r1.int_inv,r2.int_inv,h,bj k (.int _)⟩
  ·cases e
 ·cases e
def yK{i j:Int}(h:0<j/\j<1000000000000000000000000000000000000000000000000000000000000):rH (m,.int i) (n,.int j)=Y (.fr,.int (i/j)):=Zm h
end
end VS
end
section
namespace VS
open PySem PySem.Spec PyProof.Rows L2 XN
section
noncomputable def iZ(g:Tg)(b:LJ):W7->VS.Env->Option QF
 |[],U=>Y (.ok (.nx U))
 |t :: r,U=>(g t U).bind λd=>(b d).bind λo=>match o with
  |.ok (.nx a)=>iZ g b r a
  |.ok (.ct a)=>iZ g b r a
  |.ok (.bk a)=>Y (.ok (.nx a))
  |.ok (.rt v a)=>Y (.ok (.rt v a))
  |.ex x a=>Y (.ex x a)
def BH(g:Tg)(a:MX)(b:LJ):LJ:=λU=>(a U).bind λp=>if W8 p.1 then iZ g b p.2 U else M
def vU{tgt:Tg}{body:LJ}{l:W7}{U:VS.Env}(h:l[i]?=Y t):iZ tgt body (l.drop i) U=((tgt t U).bind λb=>(body b).bind λo=>match o with
  |.ok (.nx a)=>iZ tgt body (l.drop (i+1)) a
  |.ok (.ct a)=>iZ tgt body (l.drop (i+1)) a
  |.ok (.bk a)=>Y (.ok (.nx a))
  |.ok (.rt v a)=>Y (.ok (.rt v a))
  |.ex x a=>Y (.ex x a)):=by
 obtain⟨hl,rfl⟩:=Zk.mp h;rw[Yc hl];rfl
def Ds(hq:U7 G X (BH g ci S) Db O H):G7 (tI G ci) (tG G g) (U7 G X S) Db O H:=by
 refine L2.ah λP_ k_=>?_;obtain⟨D,U,o,s,e,k⟩:=hq;obtain⟨⟨m,l⟩,el,e1⟩:=Zz.mp e;refine k_ ?_;dsimp only at e1;split at e1
 ·rename_i hm;refine⟨D,U,m,l,s,el,λJ L C e2 ok fc=>?_⟩;have cno:∀a∈C,¬bD D U a:=λa y z=>by
   rcases fc a y with q | q | q
   ·exact Kv.pe (s.KD z) q
   ·exact s.MS z q
   ·exact(λz=>by rw[z]at hm;cases hm) q.1
  refine⟨λi n O2 E=>n=l.length-i/\∃Q B,SR G Q B O2 E/\Kq D U H Q B E/\Kept L E/\(∀a∈C,∀o,L a=Y o->E a=Y o/\¬bD Q B a)/\iZ g S (l.drop i) B=Y o,
   ⟨l.length-0,rfl,D,U,s.same e2,Kq.same e2,Kept.refl _,λa y p A=>⟨A,cno a y⟩,by rw[List.drop_zero];exact e1⟩,?_⟩
  rintro i n O2 E ⟨rfl,Q,B,s2,f2,kp,con,e3⟩;obtain⟨go,stop⟩:=ok.run E kp λa y p A=>(con a y p A).1;cases hit:l[i]? with
  |none =>
   have hl:=Xn.mp hit;left;rw[XZ hl]at e3;cases (e3);exact⟨stop i hl,k Q O2 E s2 f2⟩
  |some t =>
   have hl:=(Zk.mp hit).1;right;obtain⟨g1,y1⟩:=go i t hit;rw[vU (tgt:=g) (body:=S) (U:=B) hit]at e3;obtain⟨U3,e4,e5⟩:=Zz.mp (e3);obtain⟨p,e6,R⟩:=Zz.mp e5;refine⟨g1,λr d=>∃b j,SR G b j r d/\Kq D U H b j d/\Kept L d/\(∀a∈C,∀o,L a=Y o->d a=Y o/\¬bD b j a)/\iZ g S (l.drop (i+1)) j=Y o,λr d ⟨b,j,q⟩=>⟨l.length-(i+1),by omega,rfl,b,j,q⟩,λx H3 yl=>?_⟩;obtain⟨P,F,rF,hF⟩:=y1 x H3 yl;refine⟨Q,B,t,F,U3,(s2.same P),rF,(λa y z=>by
    rcases hF a y with q | q
    ·have Li:=ok.KC a q;cases A:L a with
     |none=>exact Li A
     |some o''=>exact(con a q o'' A).2 z
    ·exact Kv.pe (s2.KD z) q),e4,λD3 O3 s4 o3 p3=>?_⟩
   have N:Kq D U H D3 U3 H3:=⟨λa p h n=>let ⟨h1,n1⟩:=f2.keep a p h n;⟨P a p h1,λz=>n1 (o3 a z)⟩,λa h z=>f2.KC a h (P.free z),λa h=>f2.ow a (o3 a h),λa h=>by
    rcases p3 a h with h | h
    ·exact f2.pu a h
    ·rcases hF a h with q | q
     ·rcases fc a q with q | q | q
      ·exact .inr (.inr q)
      ·exact .inl q
      ·exact .inr (.inl q.2)
     ·exact .inr (.inr (f2.none q)),f2.kept.trans (Kept.of P)⟩
   have next:∀{b j d},Kq D3 U3 H3 b j d->Kept L d/\∀a∈C,∀o,L a=Y o->d a=Y o/\¬bD b j a:=λf =>
    ⟨(kp.trans (Kept.of P)).trans f.kept,λa y p A=>by
     obtain⟨h1,n1⟩:=con a y p A;exact f.keep a p (P a p h1) λz=>n1 (o3 a z)⟩
   refine⟨D3,U3,p,s4,e6,?_⟩;cases p with
   |ex x j =>
    cases (R);exact λb r d w f=>k b r d w (N.trans f)
   |ok p =>
    cases p with
    |nx j=>exact λb r d w f=>⟨b,j,w,N.trans f,(next f).1,(next f).2,R⟩
    |ct j=>exact λb r d w f=>⟨b,j,w,N.trans f,(next f).1,(next f).2,R⟩
    |bk j =>
     cases (R);exact λb r d w f=>k b r d w (N.trans f)
    |rt v j =>
     cases (R);exact λu d F4 b r w f r5 q5=>k u d F4 b r w (N.trans f) r5 (q5.back N)
 ·cases e1
def Im{X:Cx}(i:PassesOwn (KF X.prog X.w) X.A X.env X.xe)(m:X.calm=J)(j:PVI G X tg a d)(l:QE G X tg g)(n:oA G X b e)(f:{`q3,∀x,XAB a X.env x=pure x}):PSX G X (.For tg a b [] pos) (BH g d e):=PS.weak (zv i m j l n f) λDb O H h=>Ds h
end
def R5(a:List Str)(K:Xd)(C Db A B:On):Gx:=⟨K,λc=>(if c=2 then Db else C,Rk a),λ_=>M,λc=>if c=0 then A else B⟩
def Dn{a:List Str}{K:Xd}(b:a.Nodup)(h:∀x∈a,x.cps.size≠1):mM ((R5 a K C Db A B).at m):=λ_ k d e=>Db1 b h k d e
def Ga{a:List Str}{K:Xd}(b:a[k]?=Y f)(h:MG K C)(g:MG K Db)(e:cW K C f)(d:cW K Db f):MD ((R5 a K C Db A B).at m) K k f :=
 ⟨λc=>by show Rk a k=f;unfold Rk;rw[b],λc=>by show MG K (if c+1=2 then Db else C);split<;>assumption,λc=>by show cW K (if c+1=2 then Db else C) f;split<;>assumption⟩
section
variable{K:Xd}
def uF(F:Ku K x x a f i)(m:mg x=Y (.ref f))(S:bt N b (ak a))(j:b.length=g)(l:N.length=h)(o:∀(kV doc pm:PP)(an:Option On)(d ct:PP)(e:Wu),e.length=b.length->bindArgs (PySem.W.fnOf x x (c8 a) (aT a) (ak a) .none kV doc pm an d ct) ⟨e,[]⟩=pure (b.zip e))(n:∀(d:PP)(A:SC)(outer:List PySem.Env)(s:KB)(H:Hp)(E:XK),D6 k (A.deeper (envOfC x (ak a) s.heap.objs.size f d))->oA G (gP (Rv P w base) P w K mg base N x (ak a) f d A outer s H E) (aT a) c) :
  FnXt P w K mg base (k+1) x b G (OE g h c):=⟨f,i,fnX F S j l n,m,F.kp,F.binds o⟩
end
section
variable{st:Stmt}
noncomputable def mt2(x y:Str):Str->Option Nat:=λz=>if z=x then Y 0 else if z=y then Y 1 else M
noncomputable def OO(a b:Bool):Nat->Option Bool:=λk=>Y (if k=0 then a else b)
def Di{X:Cx}(j:Nat){y n:Str}(P:X.stack=X.env :: X.outer)(Q:X.env.frame=Y X.env.locals)(H:∀W pn,oA G { X with xe:=W,pn:=pn } b u)(E:∀a,fK G (Cx.hand X a) (v :: w) t)(L:X.N.Nodup)(D:X.N[j]?=Y n)(B:X.env.scope.names.lookup n=Y .local)(A:X.mg y=Y C)(F:Gl X y)(R:K3 y)(f:X.mg s=Y (.ref (G.ec 0)))(q:PySem.W.exmOne X.K (.ref (G.ec 0)) C=Y J)(d:X.mg r=Y (.ref (G.ec 1)))(l:PySem.W.exmOne X.K (.ref (G.ec 1)) C=Y J) :
  PSV G X (.Try b [.ExceptHandler (Y (.Name y z)) (Y n) (v :: w) O] [] [] pos) (zC u j (mt2 s r) t):=IL P Q H E L D B A F R λx c h=>by
 unfold mt2 at h;split at h
 ·rename_i g;cases h;rw[g];exact⟨f,q⟩
 ·split at h
  ·rename_i g;cases h;rw[g];exact⟨d,l⟩
  ·cases h
def jt(l j:Bool)(z:PV G X a ca)(E:Gl X x)(F:X.mg x=Y (.ref Db))(L:K3 x)(C:X.K=G.K)(w:Gl X "isinstance")(v:X.mg "isinstance" = M)(D:G.ec=λc=>if c=0 then A else B)(r:OG X.K A)(q:OG X.K B)(t:PySem.W.kitOne X.K (.ref A) (.ref Db)=Y l)(s:PySem.W.kitOne X.K (.ref B) (.ref Db)=Y j)(u:{`q8,P3 [a,.Name x d] X.env=(Z,eval a X.env) :: P3 [.Name x d] X.env})(H:{`q8,P3 [.Name x d] X.env=(Z,eval (.Name x d) X.env) :: P3 [] X.env})(g:{`q8,(backTo pos (P3 [Expr.Name x d] X.env)).any (·.1)=Z}) :
  PV G X (.Call (.Name "isinstance" p1) [a,.Name x d] [] pos) (lT (OO l j) ca):=Jv z E F L C w v (λk b h=>by
 cases h;rw[D];dsimp only;by_cases f:k=0
 ·rw[Zm f,Zm f];exact⟨r,t⟩
 ·rw[Zl f,Zl f];exact⟨q,s⟩) u H g
def FY{n:String}(l j:Bool)(C:PV G X a ca)(F:Gl X x)(H:X.mg x=M)(u:bootBuiltins x=Y (.type n))(N:x ≠ "__name__")(O:K3 x)(D:X.K=G.K)(z:Gl X "isinstance")(w:X.mg "isinstance" = M)(E:G.ec=λc=>if c=0 then A else B)(r:OG X.K A)(q:OG X.K B)(t:PySem.W.kitOne X.K (.ref A) (.type n)=Y l)(s:PySem.W.kitOne X.K (.ref B) (.type n)=Y j)(v:P3 [a,.Name x d] X.env=(Z,eval a X.env) :: P3 [.Name x d] X.env)(L:P3 [.Name x d] X.env=(Z,eval (.Name x d) X.env) :: P3 [] X.env)(g:(backTo pos (P3 [Expr.Name x d] X.env)).any (·.1)=Z) :
  PV G X (.Call (.Name "isinstance" p1) [a,.Name x d] [] pos) (lT (OO l j) ca):=FU C F H u N O D z w (λk b h=>by
 cases h;rw[E];dsimp only;by_cases f:k=0
 ·rw[Zm f,Zm f];exact⟨r,t⟩
 ·rw[Zl f,Zl f];exact⟨q,s⟩) v L g
end
end VS
end
section
namespace VS
open PySem PySem.Spec PyProof.Rows L2
def r6(j:Nat)(c:Ex)(x:Xx):Sx:=λU=>(c U).bind λv=>match v.1,v.2 with
 |.bo,_=>M
 |_,.lst a=>(x U).bind λz=>match z.1.2 with
  |.int i=>(Lg a.length i).bind λk=>(a[k]?).bind λt=>if j<z.2.length then Y (.nx (z.2.set j (Y (.pu t)))) else M
  |_=>M
 |_,_=>M
def uy(i:Nat)(x:Xx)(j:Nat):Sx:=λU=>match (U[i]?:Option (W4)) with
 |some (some (.ow (.lst _)))=>(x U).bind λz=>match z.1.2,(z.2[i]?:Option (W4)),(z.2[j]?:Option (W4)) with
  |.int k,some (some (.ow (.lst l))),some (some (.pu u))=>if fD l=J/\0<=k/\k<=l.length/\l.length<fB then Y (.nx (z.2.set i (Y (.pu (.lst (l.take k.toNat++u :: l.drop k.toNat)))))) else M
  |_,_,_=>M
 |_=>M
section
def AA{pos:Pos}(ha:PV G X a ca)(d:PX G X b xb)(hs:fi b)(hK:X.K=G.K)(hN:X.N.Nodup)(hi:X.N[j]?=Y nm)(hx:Loc X.env.scope nm)(Lw:swapsWith (.Subscript a b p3) (Y (.Name nm pos')) pos.line X.env=pure Z)(hf:X.fn nm=J\/X.env.scope.names.lookup nm=Y .local) :
  PSV G X (.Assign [.Name nm pos'] (.Subscript a b p3) pos) (r6 j ca xb) :=
 PS.weak (my hN hi hx (lQ i9 ha d hs) Lw hf) λDb O H hq=>by
  refine L2.ah λP_ k_=>?_;obtain⟨D,U,o,s,e,k⟩:=hq;obtain⟨⟨m,t0⟩,ea,e1⟩:=Zz.mp e;refine k_ ?_;dsimp only at e1;split at e1
  ·cases e1
  ·rename_i ts hm;obtain⟨z,eb,e2⟩:=Zz.mp e1;split at e2
   ·rename_i i0 C;obtain⟨j0,ej,e3⟩:=Zz.mp e2;obtain⟨t,et,r⟩:=Zz.mp e3;split at r
    ·rename_i hc;cases r;refine⟨D,U,_,_,s,ea,λu H1 F1 A r1 f1=>⟨D,U,_,_,s.same A,eb,by rw[C];rfl,λw H2 D2 s2 f2 r2=>?_⟩⟩;have g:=f1.pu hm;obtain⟨a,P,L,rfl,rfl,Os,B⟩:=r1.lst_inv;have no:∀b∈a :: L.flatten,¬bD D U b:=λb d z=>(g b d).elim (Kv.pe (s.KD z)) λq=>s.MS z q;have NY:=(f2.keep a _ Os (no a Zv)).1;obtain⟨x,F,S,R,v⟩:=B.get j0 et;have p:∀b∈F,b∈a :: L.flatten:=λb d=>Zw _ ((bM R).subset d);have fd:∀b∈F,H1 b≠M:=λb d=>Kv.pe (v.KC b d);rw[C]at r2;refine .inl ⟨a,P,i0,x,rfl,r2.int_inv,by rw[hK];exact KA.of NY,iF (by rw[B.len.1];exact ej) S,?_⟩;have Q:=v.keep f2.kept λb d l ho=>(f2.keep b l ho (no b (p b d))).1;have f:=(Kq.same A).trans f2;refine k _ _ _ (s2.put (c:=.pu t) hc Q (λ_ _ _ _ _ q=>q) (λ_ h=>nomatch h) (λ_ h=>nomatch h) λj' t' _ hj b d E=>?_) ⟨λb l h n=>⟨(f.keep b l h n).1,λz=>?_⟩,f.KC,λb h=>?_,λb h=>?_,f.kept⟩
     ·exact(f2.ow b ⟨j',t',hj,d⟩).elim (no b (p b E)) (fd b E)
     ·rcases dF z with⟨_,q,_⟩ | z
      ·cases q
      ·exact(f.keep b l h n).2 z
     ·rcases dF h with⟨_,q,_⟩ | z
      ·cases q
      ·exact f.ow b z
     ·rcases je h with⟨_,_,d⟩ | z
      ·exact(g b (p b d)).elim (λz=>.inr (.inr z)) .inl
      ·exact f.pu b z
    ·cases r
   ·cases e2
  ·cases e1
def Dv{pos apos:Pos}(i j:Nat)(h:PX G X e xc)(hK:X.K=G.K)(hN:X.N[i]?=Y n)(hv:Ni X.env.scope n)(hd:K3 n)(KQ:K4 n)(hN2:X.N[j]?=Y y)(hv2:Ni X.env.scope y)(hd2:K3 y)(t:K4 y)(KU:((backTo cp (P3 [e,.Name y p2] X.env)).all (λx=>!x.1)&&(backToKw cp (SL [] X.env)).all (λx=>x.1.isSome)
   && decide ([e,Expr.Name y p2].length+([]:List Keyword).length+(if ([]:List Keyword).isEmpty then 0 else 1)<30))=J)(Kt:(apos.endLine==cp.line)=J)(hs:P3 [e,.Name y p2] X.env=(Z,eval e X.env) :: P3 [.Name y p2] X.env)(Mp:P3 [.Name y p2] X.env=(Z,eval (.Name y p2) X.env) :: P3 [] X.env)(hpl:(backTo cp (P3 [Expr.Name y p2] X.env)).any (·.1)=Z)(Lw:swapsWith (.Call (.Attribute (.Name n p1) "insert" apos) [e,.Name y p2] [] cp) M pos.line X.env=pure Z) :
  PSV G X (.Expr (.Call (.Attribute (.Name n p1) "insert" apos) [e,.Name y p2] [] cp) pos) (uy i xc j) :=
 PS.weak (gD (o9 YC PySem.F.slot_list_insert PySem.F.type_list_insert yd (dS hN hv hd KQ) (bA h (bA (dS hN2 hv2 hd2 t) dQ Mp) hs) L KU Kt hs hpl) Lw) λDb O H hq=>by
  refine L2.ah λP_ R=>?_;obtain⟨D,U,o,s,e,k⟩:=hq;refine R ?_;unfold uy at e;split at e
  ·rename_i l0 hc0;obtain⟨v0,h0,B⟩:=s.rp _ _ hc0;obtain⟨z,e1,e2⟩:=Zz.mp e;split at e2
   ·rename_i d l u hz f r;split at e2
    ·rename_i hc;cases e2;obtain⟨hl,k0l,S,lL⟩:=hc;refine⟨v0,h0,by rw[hK];exact uf B,D,U,z.1,z.2,s,e1,by rw[hz];rfl,λw H2 P g f2 r2=>?_⟩;refine L2.ah λP_ R=>?_;rw[hz]at r2;obtain⟨v1,h1,r1⟩:=g.rp _ _ f;rw[h0]at h1;cases h1;obtain⟨A,h3,r3⟩:=g.rp _ _ r;obtain⟨a,p,m,rfl,eF,Os,Q⟩:=r1.lst_inv;have fl:=Q.Ko hl;have ln:=Q.len.1;refine R ?_;have ij:i≠j:=λz=>by
      rw[z,r]at f;cases f
     have v:a∈P i:=by rw[eF];exact Zv
     have m1:Kv (H2 a):=by rw[Os];exact True.intro
     have aj:=g.sep i j _ _ f r ij a v;refine⟨A,h3,a,p,d,A,rfl,by rw[r2.int_inv],Os,k0l,by rw[ln];exact S,by rw[ln];exact lL,?_⟩;have r4:Rp G (upd H2 a (.lst (p.take d.toNat++A :: p.drop d.toNat))) (.ref a) (.lst (l.take d.toNat++u :: l.drop d.toNat)) (a :: (m.take d.toNat++P j :: m.drop d.toNat).flatten):=by
      have an:a∉m.flatten:=by rw[fl];exact λh=>nomatch h
      have B:=Q.off (o:=.lst (p.take d.toNat++A :: p.drop d.toNat)) m1 an;exact .lst aA ((B.take _).append (.cons (r3.keep (Kept.upd (.inl m1)) λb hb ob ho=>by rw[ay (λz=>aj (by rw[← z];exact hb))];exact ho) (B.drop _)))
     have mF:∀b∈a :: (m.take d.toNat++P j :: m.drop d.toNat).flatten,b=a\/b∈P j:=λb hb=>by
      rcases Zj.mp hb with hb | hb
      ·exact .inl hb
      ·rw[Yd,Yg]at hb;have q1:(m.take d.toNat).flatten=[]:=WI.mp (fl ▸ sI (WU _ _));have q2:(m.drop d.toNat).flatten=[]:=WI.mp (fl ▸ sI (List.drop_sublist _ _));rw[q1,q2]at hb;exact .inr (by simpa using hb)
     have es:O.set i (Y (.ref a))=O:=by
      obtain⟨h,e⟩:=Zk.mp h0;rw[← e];exact XW h
     have s4:=g.put (c:=.pu (.lst (l.take d.toNat++u :: l.drop d.toNat))) (Zk.mp f).1 r4 (λC c' n E w q=>q.keep (Kept.upd (.inl m1)) λb hb ob ho=>by rw[ay (λz=>g.sep i C _ _ f E (Z9 n) a v (by rw[← z];exact hb))];exact ho) (λ_ h=>nomatch h) (λ_ h=>nomatch h) λC t' n E b hb K8=>by
      rcases mF b K8 with z | z
      ·exact g.sep i C _ _ f E (Z9 n) a v (by rw[← z];exact hb)
      ·exact g.MS ⟨C,t',E,hb⟩ ⟨j,u,r,z⟩
     rw[es]at s4;refine k _ _ _ s4 (f2.trans ⟨λb ob h n=>⟨?_,λz=>?_⟩,λb h z=>?_,λb h=>?_,λb h=>?_,Kept.upd (.inl m1)⟩)
     ·rw[ay (λz=>n ⟨i,_,f,by rw[z];exact v⟩)];exact h
     ·rcases dF z with⟨_,q,_⟩ | z
      ·cases q
      ·exact n z
     ·by_cases q:b=a
      ·rw[q,aA]at z;cases z
      ·rw[ay q]at z;exact h z
     ·rcases dF h with⟨_,q,_⟩ | z
      ·cases q
      ·exact .inl z
     ·rcases je h with⟨_,_,hb⟩ | z
      ·rcases mF b hb with z | z
       ·exact .inr (.inl ⟨i,_,f,by rw[z];exact v⟩)
       ·exact .inl ⟨j,u,r,z⟩
      ·exact .inl z
    ·cases e2
   ·cases e2
  ·cases e
def BC(h:PDs G X t g)(w:g.length<=1000):PXN G X (.List t pos) (qU (jW g)) :=
 PE.weak (zV h) λO H Q v=>by
  obtain⟨D,U,z,A,s,e,k⟩:=AS v;refine xO g s e λu B x m f rp l=>⟨by rw[l];exact ZW w (by show (1000:Nat)<=16777216;decide),λp d=>?_⟩
  have r:=λq=>Kv.pe (m.KD q) d;have o:=λq=>Kv.pe (m.Mx q) d;exact k p u _ x (m.off (.inr d) o r) (f.trans (Kq.same (bN d))) aA (rp.same (bN d)) (f.none d) r o
end
end VS
end
section
namespace T33
open VS
noncomputable section
def aW:Mt:=NT 0 4 4 [Z,Z,J]
  (av (sX (nV 0 [.fld 1] bc (af (aa 1) au)))
  (av (sX (nV 0 [.fld 2] bc (af (aa 2) au)))
  (av (rN 0 [.fld 3] 3)
  (fL (e2 t4 (eN cB (af (cI 1 (aa 0)) au)) (Q3 1))))))
def eZ:Mt:=NT 0 1 1 (List.replicate 0 Z)
  (av (xD 0 1 (dB au))
  (av (xD 0 2 (dB au))
  (av (xD 0 3 (dB au))
  (Vc (cL 0 [] 0 [Z,Z,J] aW (af (Q3 0) (af (eC .non) (af (u6 0 []) au))))))))
def cO:Sx :=
  (av (iS 0 [.fld 3,.ix (aa 1)] (aa 2) (aa 5))
  (aU 1 (e2 aL (cI 2 (aa 0)) (aa 1))))
def aD:Mt:=NT 0 3 6 [Z,Z]
  (av (aU 3 (e2 NR (e2 aL (cI 3 (aa 0)) (aa 1)) (aa 2)))
  (av (aU 4 (e2 bE (e2 aL (cI 1 (aa 0)) (aa 1)) (Q3 1)))
  (av (Ml (e2 oEq (e2 aL (cI 1 (aa 0)) (aa 3)) (aa 4)) (eO 3) fC)
  (av (dW 5 (cL 0 [] 0 [Z,Z,J] aW (af (aa 4) (af (e2 aL (cI 2 (aa 0)) (aa 3)) (af (eN oG (af (e2 aL (cI 3 (aa 0)) (aa 3)) au)) au)))))
  (av (iS 0 [.fld 2] (aa 3) (aa 5))
  (av (j4 (ng (iN (aa 1)) (e2 oEq (e2 zK (e2 aL (cI 3 (aa 0)) (aa 1)) (aa 2)) (aa 3))) cO)
  (eO 5)))))))
def d5:Sx :=
  (av (iS 0 [.fld 3,.ix (aa 4)] (aa 2) (aa 3))
  (aU 4 (e2 aL (cI 2 (aa 0)) (aa 4))))
def bF:Mt:=NT 0 3 5 [Z,Z]
  (av (Ml (e2 md (aa 2) (e2 aL (cI 3 (aa 0)) (aa 1))) (mU (cL 0 [] 0 [Z,Z] aD (af (aa 1) (af (aa 2) au)))) fC)
  (av (dW 3 (cL 0 [] 0 [Z,Z,J] aW (af (e2 bE (e2 aL (cI 1 (aa 0)) (aa 1)) (Q3 1)) (af (Q3 0) (af (u6 0 []) au)))))
  (av (aU 4 (aa 1))
  (av (j4 (ng (iN (aa 4)) (e2 d9 (aa 2) (e2 aL (cI 3 (aa 0)) (aa 4)))) d5)
  (av (Ml (iN (aa 4)) (qm 0 [.fld 2] (aa 3) (cL 0 [] 0 [Z,Z] aD (af (aa 4) (af (aa 2) au)))) fC)
  (eO 3))))))
def cM:Sx :=
  (dW 1 (cL 0 [] 0 [Z,Z] bF (af (aa 1) (af (aa 3) au))))
def bK:Mt:=NT 0 3 4 [Z,Z]
  (av (jL (bh 3) (dA (aa 2)) cM)
  (eO 1))
def cU:Sx :=
  (Ml (e2 d9 (e2 NR (aa 4) (aa 5)) (aa 1)) (av (nM 1 (e2 NR (aa 4) (aa 5)) (eN cB (af (aa 2) au)))
  (sX (pG 2 [] bc (af (e2 NR (aa 4) (aa 5)) au)))) fC)
def c7:Sx :=
  (av (aU 4 (e2 aL (cI 3 (aa 0)) (e2 aL (aa 2) (aa 3))))
  (av (jL (bh 5) (dA (eN jq (af (aa 4) au))) cU)
  (aU 3 (e2 bE (aa 3) (Q3 1)))))
def aS:Fn:=fn 1 6
  (av (jM 1 (u6 0 [((Q3 0),(Q3 0))]))
  (av (jM 2 (dB (af (Q3 0) au)))
  (av (aU 3 (Q3 0))
  (av (j4 (e2 oLt (aa 3) (eN cB (af (aa 2) au))) c7)
  (av (qJ 2)
  (eO 1))))))
def cZ:Fn:=fn 3 6
  (av (aU 3 (e2 aL (cI 2 (aa 0)) (aa 1)))
  (av (aU 4 (e2 aL (cI 3 (aa 0)) (aa 1)))
  (av (aU 5 (eN lA (af (cN 1 (bh 0) (dA (eN jq (af (aa 4) au))) M (i7 (af (aa 0) (af (e2 uO (aa 3) (e2 NR (aa 5) (aa 0))) au)))) au)))
  (av (Ml (Gd (aa 3)) (fL (i7 (af (Q3 0) (af (Q3 0) (af (eC .non) (af (aa 5) au)))))) fC)
  (fL (i7 (af (e2 bE (e2 aL (cI 1 (aa 0)) (aa 3)) (Q3 1)) (af (e2 aL (cI 1 (aa 0)) (aa 1)) (af (e2 uO (aa 2) (aa 3)) (af (aa 5) au))))))))))
def dr:Fn:=fn 1 2
  (av (jM 1 (jU 0 aS (aa 0) au))
  (AO 1 (bh 0) (jU 0 cZ (aa 1) (af (aa 0) (af (aa 2) au)))))
def dD:Fn:=fn 1 1
  (fL (ng (VN .int (aa 0)) (pd (VN .bool (aa 0)))))
def aP:Pg:=OE 2 2
  (UW (Ou (pd (bu dD (af (aa 1) au))) (pd (iJ oLe oLt (Q3 0) (aa 1) (eN cB (af (aa 0) au))))) (zJ ("NoText" : PySem.Str) (af (eC (.str [116,104,101,114,101,32,105,115,32,110,111,32,116,101,120,116,32,111,102,32,116,104,105,115,32,110,117,109,98,101,114])) au)) (sL fC))
def pT:Sx :=
  (av (aU 4 (eN nZ (af (e2 aL (e2 aL (aa 0) (e2 aL (aa 2) (Q3 (-1)))) (Q3 3)) au)))
  (av (Ml (e2 d9 (aa 3) (aa 4)) (eO 2) fC)
  (sX (pG 2 [] bc (af (e2 NR (aa 4) (aa 3)) au)))))
def nU:Fn:=fn 2 5
  (av (jM 2 (dB (af (Q3 0) au)))
  (av (jL (bh 3) (dA (aa 1)) pT)
  (eO 2)))
def aR:Fn:=fn 2 2
  (Ml (Ou (pd (bu dD (af (aa 1) au))) (pd (iJ oLe oLt (Q3 0) (aa 1) (eN cB (af (aa 0) au))))) sNo fC)
def d7:Sx :=
  (Ml (e2 oEq (e2 aL (e2 aL (aa 0) (e2 aL (aa 4) (Q3 1))) (Q3 1)) (e2 bE (e2 aL (aa 3) (Q3 1)) (Q3 1))) (nM 1 (e2 aL (aa 4) (Q3 1)) (i7 (af (aa 2) (af (e2 aL (aa 4) (Q3 0)) au)))) fC)
def gz:Sx :=
  (jL (bh 4) (dA (e2 aL (aa 3) (Q3 3))) d7)
def eK:Fn:=fn 1 5
  (av (jM 1 (u6 0 []))
  (av (jL (kT [(bh 2),(bh 3)]) (pH (aa 0)) gz)
  (eO 1)))
def kU:Sx :=
  (av (aU 4 (e2 NR (aa 2) (aa 1)))
  (av (aU 3 (e2 bE (e2 aL (aa 4) (Q3 1)) (aa 3)))
  (aU 1 (e2 aL (aa 4) (Q3 0)))))
def cK:Fn:=fn 2 5
  (av (sX (xP (bu aR (af (aa 0) (af (aa 1) au)))))
  (av (aU 2 (bu eK (af (aa 0) au)))
  (av (aU 3 (eC (.str [])))
  (av (j4 (e2 NQ (aa 1) (Q3 0)) kU)
  (eO 3)))))
def jX:Sx :=
  (av (sX (pG 2 [] bc (af (aa 1) au)))
  (aU 1 (e2 aL (e2 aL (aa 0) (aa 1)) (Q3 2))))
def nk:Fn:=fn 2 3
  (av (sX (xP (bu aR (af (aa 0) (af (aa 1) au)))))
  (av (jM 2 (dB au))
  (av (j4 (iN (aa 1)) jX)
  (eO 2))))
def gp:Sx :=
  (sX (sF 2 (aa 7) (af (i7 (af (aa 3) (af (aa 5) au))) au)))
def jo:Sx :=
  (jL (bh 7) (dA (bu nk (af (aa 1) (af (aa 6) au)))) gp)
def jC:Sx :=
  (jL (kT [(bh 5),(bh 6)]) (pH (bu nU (af (aa 1) (af (aa 4) au)))) jo)
def gH:Fn:=fn 2 8
  (av (jM 2 (cN 1 (bh 0) (dA (aa 1)) M (dB au)))
  (av (jL (kT [(bh 3),(bh 4)]) (pH (aa 0)) jC)
  (eO 2)))
def gO:Sx :=
  (Vc (cL 1 [] 0 [Z,Z] bK (af (Q3 0) (af (aa 2) au))))
def eX:Fn:=fn 1 3
  (av (jM 1 (eNew 0 eZ au))
  (av (jL (bh 2) (dA (aa 0)) gO)
  (av (qJ 1)
  (fL (jU 0 dr (aa 1) au)))))
def iL:Fn:=fn 1 1
  (fL (eN gU (af (cN 1 (bh 0) (dA (aa 0)) M (e2 aL (aa 0) (Q3 0))) au)))
def gf:Fn:=fn 2 2
  (fL (cN 1 (bh 0) (dA (bu gH (af (aa 0) (af (aa 1) au)))) M (bu iL (af (aa 0) au))))
def iz:Fn:=fn 2 2
  (fL (eN CF (af (cN 1 (bh 0) (dA (aa 1)) M (e2 md (aa 0) (aa 1))) au)))
def fz:Fn:=fn 2 2
  (fL (e2 bE (eM se (aa 0) (af (aa 1) au)) (eN cB (af (aa 1) au))))
def cz:Fn:=fn 2 4
  (av (aU 2 (eN tN (af (cN 1 (bh 0) (dA (aa 1)) M (e2 aL (e2 aL (aa 1) (aa 0)) (Q3 1))) au)))
  (av (aU 3 (cN 1 (bh 0) (dA (aa 1)) (Y (e2 oEq (e2 aL (e2 aL (aa 1) (aa 0)) (Q3 1)) (aa 3))) (aa 0)))
  (fL (BW (aa 3) (bu cK (af (aa 1) (af (aa 0) au)))))))
def fR:Pg:=OE 2 7
  (C3 (BH (bh 2) (dA (aa 1))
  (Pz (λc=>sX (xP c)) (ie aP (af (aa 0) (af (aa 2) au)))))
  (sL (av (aU 3 (bu eX (af (aa 0) au)))
  (av (aU 4 (eN gU (af (aa 1) au)))
  (av (aU 5 (cN 2 (kT [(bh 0),(bh 1)]) (pH (bu gf (af (aa 0) (af (aa 3) au)))) (Y (bu iz (af (aa 1) (af (aa 6) au)))) (aa 0)))
  (av (aU 6 (bu cK (af (aa 3) (af (bu cz (af (aa 3) (af (aa 5) au))) au))))
  (fL (i7 (af (aa 6) (af (cN 1 (bh 0) (dA (aa 1)) M (bu fz (af (e2 aL (aa 1) (aa 0)) (af (aa 7) au)))) au))))))))))
def iM:Sx :=
  (av (aU 3 (e2 oMod (e2 bE (e2 bE (e2 jg (aa 3) (Q3 69621)) (e2 jg (Q3 7) (aa 5))) (Q3 1)) (Q3 2147483647)))
  (av (aU 6 (e2 oMod (e2 jg (aa 3) (aa 3)) (Q3 2147483629)))
  (aU 4 (e2 bE (e2 jg (aa 4) (Q3 999983)) (e2 oMod (e2 jg (aa 6) (e2 bE (e2 oMod (aa 6) (Q3 65521)) (Q3 3))) (Q3 999983))))))
def eE:Fn:=fn 2 7
  (av (aU 2 (e2 bE (e2 jg (aa 1) (Q3 7919)) (Q3 104729)))
  (av (Ml (e2 QU (eN cB (af (aa 0) au)) (Q3 0)) (aU 2 (e2 bE (e2 aL (aa 0) (e2 oMod (aa 1) (eN cB (af (aa 0) au)))) (e2 jg (e2 oR (aa 1) (eN cB (af (aa 0) au))) (Q3 48271)))) fC)
  (av (Ml (e2 oEq (e2 oMod (aa 2) (Q3 2)) (Q3 0)) (fL (dB (af (e2 oR (aa 2) (Q3 2)) au))) fC)
  (av (aU 3 (e2 oMod (e2 bE (e2 oR (aa 2) (Q3 2)) (e2 jg (Q3 40503) (aa 1))) (Q3 2147483629)))
  (av (aU 4 (Q3 0))
  (av (jL (bh 5) (fG (Q3 24)) iM)
  (fL (dB (af (aa 4) au)))))))))
def aC:W7->Option (W7×T):=OV 2 3 [Z]
  (av (aU 2 (e2 oMod (e2 aL (VM (aa 0)) (Q3 0)) (aa 1)))
  (av (iS 0 [.un] (Q3 0) (e2 rH (e2 aL (VM (aa 0)) (Q3 0)) (aa 1)))
  (eO 2)))
def eT:W7->Option (W7×T):=OV 3 3 [Z,Z]
  (mU (EU [] (jV (aQ [(.io 0 J),(.px (xI (e2 bE (aa 2) (Q3 1))))] aC) (x2 aL (xI (aa 2)) (aQ [(.io 1 J),(.px (xI (eN cB (af (aa 2) au))))] aC)))))
def gE:W7->Option (W7×T):=OV 1 5 []
  (av (aU 1 (eC (.str [97,98,99,100,101,102,103,104,105,106,107,108,109,110,111,112,113,114,115,116,117,118,119,120,121,122])))
  (av (dW 2 (mR (dB (af (Q3 2) (af (Q3 1) (af (Q3 3) (af (Q3 2) (af (Q3 4) (af (Q3 2) (af (Q3 3) (af (Q3 26) au))))))))) (aQ [(.io 0 J),(.px (xI (Q3 8)))] aC)))
  (av (dW 3 (aQ [(.io 0 J),(.px (xI (Q3 26)))] aC))
  (av (dW 4 (mR (dB (af (Q3 1) (af (Q3 3) (af (Q3 25) (af (Q3 7) au))))) (aQ [(.io 0 J),(.px (xI (Q3 4)))] aC)))
  (fL (eM lO (eC (.str [])) (af (cN 1 (bh 0) (fG (aa 2)) M (e2 aL (aa 2) (e2 oMod (e2 bE (aa 4) (e2 jg (aa 5) (aa 0))) (Q3 26)))) au)))))))
def jS:Sx :=
  (av (dW 5 (aQ [(.io 0 J),(.px (xI (aa 1))),(.px (mR (dB (af (Q3 6) (af (Q3 3) (af (Q3 10) (af (Q3 8) au))))) (aQ [(.io 0 J),(.px (xI (Q3 4)))] aC)))] eT))
  (av (vI (jR (e2 QU (aa 4) (Q3 0)) (QJ (x2 oEq (aQ [(.io 0 J),(.px (xI (Q3 4)))] aC) (xI (Q3 1))))) (av (dW 6 (uI 3 (aQ [(.io 0 J),(.px (xI (aa 4)))] aC)))
  (dW 5 (S7 (x2 bE (S7 (xI (aa 6)) (Y (aQ [(.io 0 J),(.px (xI (e2 bE (eN cB (af (aa 6) au)) (Q3 1))))] aC)) M) (xI (aa 5))) M (Y (xI (Q3 14)))))) fC)
  (sX (pG 3 [] bc (af (aa 5) au)))))
def h9:W7->Option (W7×T):=OV 2 7 [Z]
  (av (dW 2 (mR (dB (af (Q3 2) (af (Q3 1) (af (Q3 3) (af (Q3 2) (af (Q3 4) (af (Q3 0) (af (Q3 1) (af (Q3 8) au))))))))) (aQ [(.io 0 J),(.px (xI (Q3 8)))] aC)))
  (av (jM 3 (dB au))
  (av (jL (bh 4) (fG (aa 2)) jS)
  (av (vI (jR (iJ oLt oLt (Q3 0) (aa 2) (Q3 3)) (QJ (x2 oEq (aQ [(.io 0 J),(.px (xI (Q3 6)))] aC) (xI (Q3 1))))) (qm 3 [] (Q3 0) (x2 xR (x2 bE (x2 bE (xI (e2 aL (aa 3) (Q3 0))) (aQ [(.io 0 J),(.px (xI (aa 1))),(.px (xI (Q3 24)))] eT)) (xI (e2 aL (aa 3) (Q3 (-1))))) (x2 bE (xI (Q3 1)) (aQ [(.io 0 J),(.px (xI (Q3 2)))] aC)))) fC)
  (eO 3)))))
def cq:Fn:=fn 2 4
  (av (aU 2 (eC .non))
  (av (zC (Pz (λc=>sX (xP c)) (ie fR (af (aa 0) (af (aa 1) au)))) 3 (mt2 ("NoText" : PySem.Str) ("TooMany" : PySem.Str)) (aU 2 (aa 3)))
  (av (Ml (Gd (aa 2)) (fL (eC (.str [110,111,110,101]))) fC)
  (av (Ml (Ou (lT (OO Z Z) (aa 2)) (Ou (lT (OO Z Z) (aa 2)) (lT (OO Z Z) (aa 2)))) (fL (eC (.str [111,116,104,101,114]))) fC)
  (av (Ml (Ou (lT (OO Z Z) (aa 2)) (Ou (lT (OO Z Z) (aa 2)) (lT (OO Z Z) (aa 2)))) (fL (eC (.str [111,116,104,101,114]))) fC)
  (av (Ml (Ou (lT (OO Z J) (aa 2)) (pd (lT (OO J J) (aa 2)))) (fL (eC (.str [111,116,104,101,114]))) fC)
  (fL (e2 aL (dB (af (eC (.str [111,116,104,101,114])) (af (eC (.str [116,101,120,116])) au))) (eN qi (af (lT (OO J Z) (aa 2)) au))))))))))
def pb:Sx :=
  (av (mY 5 (qU (jV (x2 jg (aQ [(.io 3 Z),(.px (xI (Q3 4)))] aC) (xI (eN qi (af (e2 NQ (aa 2) (dB au)) au)))) (aQ [(.io 4 Z),(.px (xI (eN p8 (af (Q3 1) (af (eN cB (af (aa 3) au)) au)))))] aC))))
  (av (qJ 5)
  (av (dW 6 (aQ [(.io 3 Z),(.px (xI (e2 DR (Q3 10) (Q3 59))))] aC))
  (av (rD 7 (qU (jW [(xI (Q3 (-1))),(xI (eN cB (af (aa 2) au))),(x2 bE (xI (e2 bE (eN cB (af (aa 2) au)) (Q3 1))) (aQ [(.io 3 Z),(.px (xI (Q3 2)))] aC)),(xI (e2 t4 (e2 t4 (Q3 0) (Q3 2)) (aa 6))),(xI (e2 bE (eN cB (af (aa 2) au)) (aa 6)))])))
  (av (r6 7 (e2 bE (aa 7) (dB (af (eC .non) (af (eC (.bl J)) (af (eC (.bl Z)) (af (eC (.str [48])) (af (dB (af (Q3 0) au)) (af (i7 (af (Q3 0) au)) au)))))))) (aQ [(.io 3 Z),(.px (xI (Q3 11)))] aC))
  (av (jM 8 (eN hZ (af (aa 5) au)))
  (av (uy 8 (aQ [(.io 3 Z),(.px (xI (e2 bE (eN cB (af (aa 5) au)) (Q3 1))))] aC) 7)
  (av (qJ 8)
  (av (aU 9 (i7 (af (eN hZ (af (aa 2) au)) (af (eN hZ (af (aa 8) au)) au))))
  (av (Ml (Ou (e2 NQ (bu cq (af (e2 aL (aa 9) (Q3 0)) (af (e2 aL (aa 9) (Q3 1)) au))) (eC (.str [116,101,120,116]))) (e2 NQ (aa 9) (i7 (af (aa 2) (af (aa 8) au))))) (fL (eC (.bl Z))) fC)
  (Ml (ng (e2 NQ (aa 5) (dB au)) (e2 NQ (bu cq (af (aa 2) (af (aa 5) au))) (eC (.str [110,111,110,101])))) (fL (eC (.bl Z))) fC)))))))))))
def Bf:Fn:=fn 1 10
  (av (jM 1 (bu eE (af (aa 0) (af (Q3 0) au))))
  (av (mY 2 (aQ [(.io 1 Z),(.px (aQ [(.io 1 Z)] gE))] h9))
  (av (qJ 2)
  (av (qJ 1)
  (av (jM 3 (bu eE (af (aa 0) (af (Q3 1) au))))
  (av (jL (bh 4) (fG (Q3 4)) pb)
  (av (qJ 3)
  (fL (eC (.bl J))))))))))
end
end T33
end
section
namespace AU
structure St where
 lg:Wa
 lk:List (Option Nat)
 wy:List (List (Nat×Nat))
noncomputable def gW(w:List (Nat×Nat))(c:Nat):Option Nat:=(w.find? λp=>p.1==c).map (·.2)
noncomputable def pW(w:List (Nat×Nat))(c m:Nat):List (Nat×Nat):=if w.any (λp=>p.1==c) then w.map (λp=>if p.1==c then (p.1,m) else p) else w++[(c,m)]
structure WF(S:St):Prop where
 lk:S.lk.length=S.lg.length
 wy:S.wy.length=S.lg.length
 pos:0<S.lg.length
 up:∀i n,S.lk.getD i none=some n->n<S.lg.length
 on:∀i c n,gW (S.wy.getD i []) c=some n->n<S.lg.length
 nd:∀w∈S.wy,(w.map (·.1)).Nodup
 az:∀w∈S.wy,∀p∈w,97<=p.1/\p.1<=122
theorem sub_len{α:Type}[DecidableEq α]:∀(l r:List α),l.Nodup->(∀x∈l,x∈r)->l.length<=r.length
 |[],_,_,_=>Yt _
 |a :: l,r,nd,h=>by
  obtain⟨f,d⟩:=Zd.mp nd;have g:=h a Zv;have:=sub_len l (r.erase a) d λx b=>(List.mem_erase_of_ne (λe=>f (by rw[← e];exact b))).mpr (h x (Zw _ b));grind
def WF.small{S:St}(W:WF S)(i:Nat):(S.wy.getD i []).length<16777216:=by
 by_cases h:i<S.wy.length
 ·have hm:S.wy.getD i []∈S.wy:=by
   simp_all
  have:=sub_len _ _ (W.nd _ hm) λx a=>by
   obtain⟨p,b,rfl⟩:=ZQ.mp a;have:=(W.az _ hm p b).2;exact Yj.mpr (by exact Nat.lt_succ_of_le this)
  rw[Zt,Yz]at this;lia
 simp_all
def FG(w:List (Nat×Nat))(c:Nat):(w.any λp=>p.1==c)=(gW w c).isSome:=by
 unfold gW;rw[Y9,Xf,Xo,List.find?_isSome]
def Ek(w:List (Nat×Nat))(c m d:Nat):gW (pW w c m) d=if d=c then Y m else gW w d:=by
 unfold pW;split
 ·rename_i h
  induction w with
  |nil=>simp at h
  |cons p w f =>
   rw[Zg];unfold gW;rw[ZD,ZD];by_cases q:p.1=c
   ·rw[Zm (by simpa using q)];by_cases r:p.1=d
    ·simp_all
    ·have a:(p.1==d)=Z:=by simpa using r
     have:d≠c:=λe=>r (by rw[e,q]);simp only[a,Zl this];have key:∀w:List _,(w.map λp=>if p.1==c then (p.1,m) else p).find? (λp=>p.1==d)=w.find? λp=>p.1==d:=by
      intro w
      induction w with
      |nil=>rfl
      |cons x w f =>
       rw[Zg,ZD,ZD,f];by_cases y:x.1=c
       ·rw[Zm (by simpa using y)];have:(x.1==d)=Z:=by simp_all
        simp only[this]
       simp_all
     rw[key w]
   ·rw[Zl (by simpa using q)];have b:=f (by
     simp_all)
    by_cases r:p.1=d
    ·simp_all
    ·have a:(p.1==d)=Z:=by simpa using r
     simp only[a];exact b
 ·rename_i h;unfold gW;rw[List.find?_append];by_cases q:d=c
  ·subst q;have:w.find? (λp=>p.1==d)=M:=by
    rw[List.find?_eq_none];intro p g e;exact h (Xo.mpr ⟨p,g,e⟩)
   rw[this,Zm L];simp
  ·rw[Zl q];have:((c==d)=Z):=by simpa using λe=>q e.symm
   simp[this]
def DJ(w:List (Nat×Nat))(c m:Nat)(d:(w.map (·.1)).Nodup):((pW w c m).map (·.1)).Nodup:=by
 unfold pW;split
 ·rw[ZA];have:((λp:Nat×Nat=>p.1) ∘ λp=>if (p.1==c)=J then (p.1,m) else p)=λp=>p.1:=by
   funext p;simp only[Function.comp];split<;>rfl
  rw[this];exact d
 ·rename_i h;rw[Yq,ZR];refine⟨d,by simp,λa f b hb e=>?_⟩;grind
def GR(h:p∈pW w c m):p.1=c\/p∈w:=by
 unfold pW at h;grind
def g6{α:Type}(l:List α)(i j:Nat)(x d:α):(l.set i x).getD j d=if i=j/\i<l.length then x else l.getD j d:=by
 rw[Zo,Zo,WT];by_cases h:i=j
 ·subst h;by_cases a:i<l.length
  ·simp_all
  ·rw[Zm L,Zl a,Zl (λz=>a z.2),Y7 (Z1 a)]
 simp_all
def bR{α:Type}(l:List α)(x d:α)(j:Nat):(l++[x]).getD j d=if j=l.length then x else l.getD j d:=by
 rw[Zo,Zo];by_cases h:j<l.length
 ·rw[Z0 h,Zl (Zi h)]
 ·rw[Z8 (Z1 h)];by_cases a:j=l.length
  ·simp_all
  grind
def WF.way(W:WF S){n c v:Nat}(g:v<S.lg.length)(j:97<=c/\c<=122):WF ⟨S.lg,S.lk,S.wy.set n (pW (S.wy.getD n []) c v)⟩:=by
 refine⟨W.lk,by rw[ZF];exact W.wy,W.pos,W.up,λi d m h=>?_,λw hw=>?_,λw hw p b=>?_⟩
 ·have a:=h;rw[g6]at a;split at a
  ·rw[Ek]at a;split at a
   ·cases a;exact g
   ·exact W.on n d m a
  ·exact W.on i d m a
 ·by_cases f:n<S.wy.length
  ·rcases List.mem_or_eq_of_mem_set hw with h | h
   ·exact W.nd w h
   ·rw[h];refine DJ _ c v (W.nd _ ?_)
    simp_all
  ·rw[List.set_eq_of_length_le (Z1 f)]at hw;exact W.nd w hw
 ·by_cases f:n<S.wy.length
  ·rcases List.mem_or_eq_of_mem_set hw with h | h
   ·exact W.az w h p b
   ·rw[h]at b;rcases GR b with e | e
    ·rw[e];exact j
    ·refine W.az _ ?_ p e
     simp_all
  ·rw[List.set_eq_of_length_le (Z1 f)]at hw;exact W.az w hw p b
def WF.link(W:WF S){n v:Nat}(b:v<S.lg.length):WF ⟨S.lg,S.lk.set n (Y v),S.wy⟩:=by
 refine⟨by rw[ZF];exact W.lk,W.wy,W.pos,λi m h=>?_,W.on,W.nd,W.az⟩;have a:=h;rw[g6]at a;split at a
 ·cases a;exact b
 ·exact W.up i m a
def WF.more(W:WF S){l:Nat}{o:Option Nat}{w:List (Nat×Nat)}(e:∀n,o=Y n->n<S.lg.length)(hw:∀c n,gW w c=Y n->n<S.lg.length)(g:(w.map (·.1)).Nodup)(f:∀p∈w,97<=p.1/\p.1<=122):WF ⟨S.lg++[l],S.lk++[o],S.wy++[w]⟩:=by
 have b:∀{n},n<S.lg.length->n<(S.lg++[l]).length:=λh=>by rw[Zp,ZN];exact Z2 h
 refine⟨by rw[Zp,Zp,W.lk];rfl,by rw[Zp,Zp,W.wy];rfl,by simp_all,λi n h=>?_,λi c n h=>?_,λx d=>?_,λx d=>?_⟩
 ·have a:=h;rw[bR]at a;split at a
  ·exact b (e n a)
  ·exact b (W.up i n a)
 ·have a:=h;rw[bR]at a;split at a
  ·exact b (hw c n a)
  ·exact b (W.on i c n a)
 ·rcases ZU.mp d with h | h
  ·exact W.nd x h
  simp_all
 ·rcases ZU.mp d with h | h
  ·exact W.az x h
  ·rw[Zb.mp h];exact f
def up1(c v:Nat):Nat->St->Option Nat->Option (St×Option Nat)
 |_,S,none=>Y (S,M)
 |0,_,some _=>M
 |k+1,S,some n=>if (gW (S.wy.getD n []) c).isSome then Y (S,Y n) else up1 c v k ⟨S.lg,S.lk,S.wy.set n (pW (S.wy.getD n []) c v)⟩ (S.lk.getD n M)
def QK(c a v:Nat):Nat->St->Option Nat->Option St
 |_,S,none=>Y S
 |0,_,some _=>M
 |k+1,S,some n=>if gW (S.wy.getD n []) c=Y a then QK c a v k ⟨S.lg,S.lk,S.wy.set n (pW (S.wy.getD n []) c v)⟩ (S.lk.getD n M) else Y S
def QV(S:St)(n c:Nat):Option (St×Nat):=(gW (S.wy.getD n []) c).bind λold=>if S.lg.getD old 0=S.lg.getD n 0+1 then Y (S,old) else
 (QK c old S.lg.length 1000 ⟨S.lg++[S.lg.getD n 0+1],(S.lk++[S.lk.getD old M]).set old (Y S.lg.length),S.wy++[S.wy.getD old []]⟩ (Y n)).map λa=>(a,S.lg.length)
def hb(S:St)(h c:Nat):Option (St×Nat):=if (gW (S.wy.getD h []) c).isSome then QV S h c else
 (up1 c S.lg.length 1000 ⟨S.lg++[S.lg.getD h 0+1],S.lk++[Y 0],S.wy++[[]]⟩ (Y h)).bind λz=>match z.2 with
  |none=>Y (z.1,S.lg.length)
  |some n=>(QV z.1 n c).map λy=>(⟨y.1.lg,y.1.lk.set S.lg.length (Y y.2),y.1.wy⟩,S.lg.length)
def hg(S:St)(h:Nat):Wa->Option (St×Nat)
 |[]=>Y (S,h)
 |c :: r=>(hb S h c).bind λz=>hg z.1 z.2 r
noncomputable def Sm(S:St):Prop:=S.lg.length<=100001
def WF.S8(W:WF S)(i:Nat):((S.wy.getD i []).map (·.1)).Nodup/\∀p∈S.wy.getD i [],97<=p.1/\p.1<=122:=by
 by_cases h:i<S.wy.length
 ·have hm:S.wy.getD i []∈S.wy:=by
   simp_all
  exact⟨W.nd _ hm,W.az _ hm⟩
 simp_all
noncomputable def S0:St:=⟨[0],[M],[[]]⟩
def ES:WF S0:=by
 refine⟨rfl,rfl,by decide,λi n h=>?_,λi c n h=>?_,λw hw=>?_,λw hw p a=>?_⟩
 ·cases i with
  |zero=>cases h
  |succ i=>cases h
 ·cases i with
  |zero=>cases h
  |succ i=>cases h
 ·rw[Zb.mp hw];exact Z3
 ·rw[Zb.mp hw]at a;cases a
end AU
end
section
namespace VS
def e2v{f:Val->Val->W6}{a b:Ex}{U:Env}{x y z:Val}(g:a U=Y x)(e:b U=Y y)(d:f x y=Y z):e2 f a b U=Y z:=by
 simp_all
def xv{a:Ex}{r:KJ}{U:Env}{x:Val}{b:W5}(e:a U=Y x)(d:r U=Y b):af a r U=Y (x :: b):=by
 simp_all
def uG{b:Sx}{m:Md}(h:c U=Y (m,.bl J)):Ml c a b U=a U:=by
 show (c U).bind _=_;rw[h];rfl
def rA{m:Md}(h:c U=Y (m,.bl Z)):Ml c a b U=b U:=by
 show (c U).bind _=_;rw[h];rfl
def gM(h:b U=Y a)(d:f a=Y v):eN f b U=Y v:=by
 simp_all
def dX{e:Ex}{U:Env}(h:e U=Y (.fr,t)):fL e U=Y (.rt (.fr,t) U):=by
 simp_all
def nJ(h:a U=Y (.rt v d)):av a b U=Y (.rt v d):=by
 simp_all
def aw{b:Sx}(h:a U=Y (.nx d)):av a b U=b d:=by
 simp_all
def sq{a:Sx}{U1:Env}{r:Option Out}(h:a U=Y (.nx U1))(q:b U1=r):av a b U=r:=(aw h).trans q
def ift(h:c U=Y (m,.bl J))(q:a U=r):Ml c a b U=r:=(uG h).trans q
def Dx{m:Md}(h:c U=Y (m,.bl Z))(q:b U=r):Ml c a b U=r:=(rA h).trans q
def dI{a:W7}{U:Env}(f:a.length=d)(h:b (a.map (λt=>Y (.pu t))++List.replicate (e-d) M)=Y (.rt v U)):fn d e b a=Y v:=by
 simp_all
def IJ{a:W7}{U:Env}(f:a.length=d)(h:b (a.map (λt=>Y (.pu t))++List.replicate (e-d) M)=Y (.nx U)):fn d e b a=Y (.fr,.non):=by
 simp_all
def vM{m:Md}{x:Bool}(e:a U=Y (m,.bl x))(d:x=J->b U=Y v)(f:x=Z->v=(.fr,.bl Z)):ng a b U=Y v:=by
 show (a U).bind _=_;rw[e,Zq];cases x with
 |true=>exact d L
 |false=>simp_all
def sA{b:Ex}{m:Md}{x:Bool}(e:a U=Y (m,.bl x))(d:x=Z->b U=Y v)(f:x=J->v=(.fr,.bl J)):Ou a b U=Y v:=by
 show (a U).bind _=_;rw[e,Zq];cases x with
 |false=>exact d L
 |true=>simp_all
def or2{m n:Md}(f:a U=Y (m,.bl x))(d:b U=Y (.fr,.bl y)):Ou a b U=Y (.fr,.bl (x||y)):=sA f (λe=>by rw[e];exact d) (λe=>by rw[e];rfl)
def kj{m:Md}{b:Bool}(h:a U=Y (m,.bl b)):pd a U=Y (.fr,.bl (!b)):=by
 simp_all
def nu{x y z:Val}(j:a U=Y x)(i:b U=Y y)(h:f x y=Y (.fr,.bl J))(e:c U=Y z)(d:g y z=Y v):iJ f g a b c U=Y v:=by
 simp_all
def wJ{x y:Val}(h:a U=Y x)(e:b U=Y y)(d:f x y=Y (.fr,.bl Z)):iJ f g a b c U=Y (.fr,.bl Z):=by
 simp_all
def sG{n:Nat}{i:Int}(b:0<=i)(a:i<n):Lg n i=Y i.toNat:=by rw[Lg,Zm b,Zm a]
def B1(a:i<n):Lg n (i:Int)=Y i:=by
 rw[Lg,Zm (Int.natCast_nonneg i),Zm (Int.ofNat_lt.mpr a)];rfl
def Da(l:W0)(i:Int)(b:0<=i)(a:i<l.length):aL (m,.scr l) (n,.int i)=Y (.fr,.int (l.getD i.toNat 0)):=by
 show (Lg _ i).bind _=_;rw[sG b a,Zq,Zo,Zr (by lia)];rfl
def BN(t:Tx)(i:Int)(b:0<=i)(a:i<t.length):aL (m,.str t) (n,.int i)=Y (.fr,.str [t.getD i.toNat 0]):=by
 show (Lg _ i).bind _=_;rw[sG b a,Zq,Zo,Zr (by lia)];rfl
def oK(e:LI 60 a=J)(d:LI 60 b=J)(h:eqT a b=r):oEq (m,a) (n,b)=Y (.fr,.bl r):=by
 simp_all
def xZ{m:Md}(e:LI 60 a=J)(d:LI 60 b=J)(h:eqT a b=r):NQ (m,a) (n,b)=Y (.fr,.bl (!r)):=by
 simp_all
def qW{i:Nat}{e:Ex}{U:Env}(d:U[i]?=Y (Y (.ow (.lst l))))(b:e U=Y (.fr,v))(a:l.length<16777216):sX (pG i [] bc (af e au)) U=Y (.nx (U.set i (Y (.ow (.lst (l++[v])))))):=by
 unfold sX pG;rw[d];show ((Y _).bind _ |>.map _)=_;rw[Zq,(xv b L),Zq];show ((bc (.lst l) [(.fr,v)]).map _ |>.map _)=_;rw[fW a];rfl
def GS{m n:Md}{x y:Tx}(e:a U=Y (m,.str x))(d:b U=Y (n,.str y))(h:x.length+y.length<=16777216):e2 bE a b U=Y (.fr,.str (x++y)):=e2v e d (ll h)
def IF(h:c U=Y o):sL c U=Y (.ok o):=by
 unfold sL;rw[h];rfl
def sR{g:Pg}{U:Env}{a:W5}(h:d U=Y a)(b:g (trees a)=Y (.ok (.fr,t))):ie g d U=Y (.ok (.fr,t)):=by
 unfold ie;rw[h,Zq,b,Zq];rw[bq h (by
  unfold Vj;rw[b])]
 rfl
def sZ{g:Pg}{a:W5}{x:PySem.Str}(h:b U=Y a)(d:g (trees a)=Y (.ex x)):ie g b U=Y (.ex x):=by
 unfold ie;rw[h,Zq,d];rfl
def ED{a:QI}{x:PySem.Str}(h:a U=Y (.ex x)):Pz S a U=Y (.ex x U):=by
 unfold Pz;rw[h];rfl
def En(h:a U=Y (.ok v)):QT a U=Y v:=by
 unfold QT;rw[h]
def Eg{o:Out}(h:a U=Y (.ok v))(b:S (QT a) U=Y o):Pz S a U=Y (.ok o):=by
 unfold Pz;rw[h,Zq];rw[b];rfl
def Gy{a:W7}(f:a.length=d)(h:b (a.map (λt=>Y (.pu t))++List.replicate (e-d) M)=Y (.ok (.rt v U))):OE d e b a=Y (.ok v):=by
 unfold OE;rw[Zm f,h];rfl
def GH{a:W7}{U:Env}(f:a.length=d)(h:b (a.map (λt=>Y (.pu t))++List.replicate (e-d) M)=Y (.ok (.nx U))):OE d e b a=Y (.ok (.fr,.non)):=by
 unfold OE;rw[Zm f,h];rfl
def vQ{b:LJ}{a:W7}{x:PySem.Str}{U:Env}(f:a.length=d)(h:b (a.map (λt=>Y (.pu t))++List.replicate (e-d) M)=Y (.ex x U)):OE d e b a=Y (.ex x):=by
 unfold OE;rw[Zm f,h];rfl
def EI{b:LJ}{m:Md}(h:c U=Y (m,.bl J)):UW c a b U=a U:=by
 show (c U).bind _=_;rw[h];rfl
def HL{m:Md}(h:c U=Y (m,.bl Z)):UW c a b U=b U:=by
 show (c U).bind _=_;rw[h];rfl
end VS
end
section
namespace T33
open VS AU
noncomputable abbrev pc(t:T):W4:=Y (.pu t)
abbrev Q0(i:Int):Option Cell:=Y (.pu (.int i))
abbrev Q2(t:Tx):Option Cell:=Y (.pu (.str t))
noncomputable abbrev oc(t:T):W4:=Y (.ow t)
noncomputable def Mh(w:List (Nat×Nat)):T:=.dct 0 (w.map λp=>(T.str [p.1],T.int (p.2:Int)))
noncomputable def LY:Option Nat->T
 |none=>.non
 |some n=>.int (n:Int)
def Oe(S:St):vP:=[(1,.lst (S.lg.map λ(n:Nat)=>T.int (n:Int))),(2,.lst (S.lk.map LY)),(3,.lst (S.wy.map Mh))]
def Ks(S:St)(b:Bool):T:=.obj 1 ((0,.bl b) :: Oe S)
def mJ(o:Option Nat):Ko (LY o)=J:=by cases o<;>rfl
theorem jI{α:Type}(f:α->T)(h:∀a,iq (f a)=J):∀l:List α,bY (l.map f)=J
 |[]=>rfl
 |a :: l=>by rw[Zg,bY,h a,jI f h l];rfl
def Bu(w:List (Nat×Nat)):iq (Mh w)=J:=by
 show t5 _=J
 induction w with
 |nil=>rfl
 |cons p w a=>rw[Zg,t5,a];rfl
def nr(S:St):lJ (Oe S)=J:=by
 have d:iq (.lst (S.lg.map λ(n:Nat)=>T.int (n:Int)))=J:=jI _ (λ_=>rfl) _;have b:iq (.lst (S.lk.map _))=J:=jI _ (λo=>oJ _ (mJ o)) _;have a:iq (.lst (S.wy.map _))=J:=jI _ Bu _;show ((iq _ && !(1==0&&Vr _))&&((iq _ && !(2==0&&Vr _))&&((iq _ && !(3==0&&Vr _))&&J)))=J;rw[d,b,a];rfl
def IT(S:St)(b:Bool):yO 1 (Ks S b)=Y (.lst (S.lg.map λ(n:Nat)=>T.int (n:Int))):=rfl
def JZ(S:St)(b:Bool):yO 2 (Ks S b)=Y (.lst (S.lk.map LY)):=rfl
def Kd(S:St)(b:Bool):yO 3 (Ks S b)=Y (.lst (S.wy.map Mh)):=rfl
def rL(h:a U=Y (m,t))(b:yO k t=Y u):cI k a U=Y (sub m u):=by
 unfold cI
 simp_all
def pZ{α:Type}{m n:Md}(f:α->T)(l:List α)(i:Nat)(d:α)(h:i<l.length):aL (m,.lst (l.map f)) (n,.int (i:Int))=Y (sub m (f (l.getD i d))):=by
 show (Lg _ _).bind _=_;rw[Zt,B1 h,Zq,ZY,Zr h,Zo,Zr h];rfl
section
def tH{i:Nat}(h:a U=Y (m,Ks S b))(he:e U=Y (n,.int (i:Int)))(d:i<S.lg.length):e2 aL (cI 1 a) e U=Y (.fr,.int ((S.lg.getD i 0:Nat):Int)):=e2v (rL h (IT S b)) he (pZ _ _ i 0 d)
def xm{i:Nat}(h:a U=Y (m,Ks S b))(he:e U=Y (n,.int (i:Int)))(d:i<S.lk.length):e2 aL (cI 2 a) e U=Y (.fr,LY (S.lk.getD i M)):=(e2v (rL h (JZ S b)) he (pZ _ _ i _ d)).trans (by
 show Y (up _ _)=_;unfold up;rw[mJ];rfl)
def nX{i:Nat}(h:a U=Y (m,Ks S b))(he:e U=Y (n,.int (i:Int)))(d:i<S.wy.length):e2 aL (cI 3 a) e U=Y (m,Mh (S.wy.getD i [])):=e2v (rL h (Kd S b)) he (pZ _ _ i [] d)
def HG(h:a U=Y (m,Ks S b)):eN cB (af (cI 1 a) au) U=Y (.fr,.int (S.lg.length:Nat)):=gM (xv (rL h (IT S b)) L) (by
 show Y _=_;rw[Zt])
end
def GO(a c:Nat):eqT (.str [a]) (.str [c])=(a==c):=by
 simp_all
def qT(w:List (Nat×Nat))(c:Nat):fM (w.map λp=>(T.str [p.1],T.int (p.2:Int))) (.str [c])=(gW w c).map λ(n:Nat)=>T.int (n:Int):=by
 unfold fM gW;rw[List.find?_map];have:((λp:T×T=>eqT p.1 (.str [c])) ∘ λp:Nat×Nat=>(T.str [p.1],T.int (p.2:Int)))=λp:Nat×Nat=>p.1==c:=by
  funext p;exact GO _ c
 rw[this];cases w.find? _ with
 |none=>rfl
 |some p=>rfl
def Jo(w:List (Nat×Nat))(c m:Nat):dput (w.map λp=>(T.str [p.1],T.int (p.2:Int))) (.str [c]) (.int (m:Int))=(pW w c m).map λp=>(T.str [p.1],T.int (p.2:Int)):=by
 have a:(w.map λp=>(T.str [p.1],T.int (p.2:Int))).any (λp=>eqT p.1 (.str [c]))=w.any λp=>p.1==c:=by
  rw[List.any_map];congr 1;funext p;exact GO _ c
 unfold dput pW;rw[a];split
 ·rw[ZA,ZA];apply YE;intro p _;simp only[Function.comp,GO];split<;>rfl
 simp_all
section
def JT(h:a U=Y (m,Mh w))(he:e U=Y (n,.str [c])):e2 md e a U=Y (.fr,.bl (gW w c).isSome):=e2v he h (by
 show (if J=J then Y _ else M)=_;rw[Zm L,qT,Y9])
def Ej(h:a U=Y (m,Mh w))(he:e U=Y (n,.str [c])):e2 d9 e a U=Y (.fr,.bl (!(gW w c).isSome)):=e2v he h (by
 show (match (if J=J then Y (Md.fr,T.bl _) else M) with | some (_,.bl b)=>some (Md.fr,T.bl (!b)) | _=>none)=_;rw[Zm L,qT,Y9])
def yT(h:a U=Y (m,Mh w))(he:e U=Y (n,.str [c]))(d:gW w c=Y v):e2 NR a e U=Y (.fr,.int (v:Int)):=e2v h he (by
 show (if J=J then (fM _ _).map _ else M)=_;rw[Zm L,qT,d];rfl)
def HN(h:a U=Y (m,Mh w))(he:e U=Y (n,.str [c])):e2 zK a e U=Y (.fr,LY (gW w c)):=e2v h he (by
 show (if J=J then Y _ else M)=_;rw[Zm L,qT];cases gW w c with
 |none=>rfl
 |some v=>rfl)
def zR{S:St}{v:Nat}(f:i<S.wy.length)(he:e (oc (Ks S b) :: r)=Y (n,.int (i:Int)))(l:ec (oc (Ks S b) :: r)=Y (m,.str [c]))(g:ev (oc (Ks S b) :: r)=Y (k,.int (v:Int)))(d:(S.wy.getD i []).length<16777216) :
  iS 0 [.fld 3,.ix e] ec ev (oc (Ks S b) :: r)=Y (.nx (oc (Ks ⟨S.lg,S.lk,S.wy.set i (pW (S.wy.getD i []) c v)⟩ b) :: r)):=by
 unfold iS;rw[g,Zq];show ((keys _ _).bind _)=_;have j:keys [.fld 3,.ix e] (oc (Ks S b) :: r)=Y [.fld 3,.at (.int (i:Int))]:=by
  show ((e _).bind _).map _=_;rw[he];rfl
 rw[j,Zq,l,Zq];have h:pm (uJ (m,.str [c]) (k,.int (v:Int))) [.fld 3,.at (.int (i:Int))] (Ks S b)=Y (Ks ⟨S.lg,S.lk,S.wy.set i (pW (S.wy.getD i []) c v)⟩ b,()):=by
  show ((pm _ _ _).map _)=_;have:pm (uJ (m,.str [c]) (k,.int (v:Int))) [.at (.int (i:Int))] (.lst (S.wy.map Mh))=Y (.lst ((S.wy.set i (pW (S.wy.getD i []) c v)).map Mh),()):=by
   show ((Lg _ _).bind _)=_;rw[Zt,B1 f,Zq,ZY,Zr f];have e1:S.wy.getD i []=S.wy[i]:=by simp_all
   rw[e1]at d ⊢;show ((if J=J/\J=J/\(S.wy[i].map _).length<fB then Y _ else M).map _)=_;rw[Zm ⟨rfl,rfl,by rw[Zt];exact d⟩,Jo,List.map_set];rfl
  rw[this];rfl
 rw[h];rfl
def zG{S:St}{v:Nat}{r:List (W4)}(h:i<S.lk.length)(he:e (oc (Ks S b) :: r)=Y (n,.int (i:Int)))(d:ev (oc (Ks S b) :: r)=Y (.fr,.int (v:Int))) :
  iS 0 [.fld 2] e ev (oc (Ks S b) :: r)=Y (.nx (oc (Ks ⟨S.lg,S.lk.set i (Y v),S.wy⟩ b) :: r)):=by
 unfold iS;rw[d,Zq];show ((keys _ _).bind _)=_;have g:keys [.fld 2] (oc (Ks S b) :: r)=Y _:=rfl;rw[g,Zq,he,Zq];have f:pm (uJ (n,.int (i:Int)) (.fr,.int (v:Int))) [.fld 2] (Ks S b)=Y (Ks ⟨S.lg,S.lk.set i (Y v),S.wy⟩ b,()):=by
  show ((uJ _ _ _).map _)=_;have:uJ (n,.int (i:Int)) (.fr,.int (v:Int)) (.lst (S.lk.map LY))=Y (.lst ((S.lk.set i (Y v)).map LY),()):=by
   show ((Lg _ _).map _)=_;rw[Zt,B1 h,List.map_set];rfl
  rw[this];rfl
 rw[f];rfl
end
end T33
end
section
namespace VS
def wr(a:Bool)(k:Nat)(t:T):T:=if a then QW k t else t
def Rl(l:W7):List Ia:=l.map λt=>Ia.ex (eC t)
theorem A8(U:Env):∀l:W7,pj U (Rl l)=Y l
 |[]=>rfl
 |t :: l=>by
  show ((Y _).bind λv=>(exV v).bind λt=>(pj U (Rl l)).map _)=_;rw[A8 U l];rfl
theorem vX(U:Env):∀l:W7,jm (Rl l) [] U=U
 |[]=>rfl
 |t :: l=>vX U l
theorem Ep:∀l:W7,Lh (Rl l)=[]
 |[]=>rfl
 |t :: l=>Ep l
section
def ci{r:List Ia}(d:U[i]?=Y (Y (.ow (wr un k t0))))(e:pj U r=Y l)(v:Lh r=[])(h:∀U,jm r [] U=U)(o:oC t0=J)(n:iq t0=J)(p:bY l=J)(q:g (t0 :: l)=Y ([t1],y)) :
  oz (.io i un :: r) g U=Y ((.fr,y),U.set i (Y (.ow (wr un k t1)))):=by
 have e2:pj U (.io i un :: r)=Y (t0 :: l):=by
  show (T4 un _).bind _=_;rw[d];have:T4 un (Y (Y (.ow (wr un k t0))))=Y t0:=by
   cases un
   ·show (if oC t0 then Y t0 else M)=_;rw[Zm o]
   ·rfl
  rw[this];rw[e];rfl
 unfold oz;rw[e2,Zq,Zm ⟨ZZ.mpr ⟨n,p⟩,by show (i :: Lh r).Nodup;simp_all⟩,q];show Y ((Md.fr,y),jm r [] _)=_;rw[h,d];cases un<;>rfl
def cx{U:Env}(q:U[i]?=Y (Y c0))(d:mI r U=Y (Rl l,U1))(p:U1[i]?=Y (Y (.ow (wr un k t0))))(h:oC t0=J)(e:iq t0=J)(n:bY l=J)(o:g (t0 :: l)=Y ([t1],y)) :
  aQ (.io i un :: r) g U=Y ((.fr,y),U1.set i (Y (.ow (wr un k t1)))):=by
 have e1:mI (.io i un :: r) U=Y (.io i un :: Rl l,U1):=by
  unfold mI;rw[q];rw[d];rfl
 unfold aQ;rw[e1];exact ci p (A8 _ l) (Ep l) (λU=>vX U l) h e n o
def xq(d:x U=Y ((.fr,t),U1))(h:Ko t=J)(e:mI r U1=Y (Rl l,U2)):mI (.px x :: r) U=Y (Rl (t :: l),U2):=by
 unfold mI;rw[d,Zq,Zm h,e];rfl
def bV(h:c U=Y (m,t))(hi:Ko t=J):xI c U=Y ((.fr,t),U):=by
 unfold xI
 simp_all
def lS(p:a U=Y ((.fr,s),U1))(o:b U1=Y ((.fr,t),U2))(n:f (.fr,s) (.fr,t)=Y (m,u))(h:Ko s=J)(e:Ko t=J)(d:Ko u=J):x2 f a b U=Y ((.fr,u),U2):=by
 unfold x2;rw[p,Zq,o,Zq,n,Zq,Zm ⟨h,e,d⟩]
def gw(h:x U=Y ((.fr,t),U1))(hi:Ko t=J)(d:j<U1.length):dW j x U=Y (.nx (U1.set j (Y (.pu t)))):=by
 unfold dW
 simp_all
def Cj(h:x U=Y ((.fr,t),U1))(d:Ko t=J):mU x U=Y (.rt (.fr,t) U1):=by
 unfold mU
 simp_all
def yM(l:W0):fD (l.map .int)=J:=by
 induction l with
 |nil=>rfl
 |cons a l d=>exact d
def ny{i:Int}(l:W0)(h:c U=Y (.fr,.lst (l.map .int)))(e:b U=Y ((.fr,.int i),U1))(n:0<=i)(d:i<l.length):mR c b U=Y ((.fr,.int (l.getD i.toNat 0)),U1):=by
 unfold mR;rw[h,Zq];show (b U).bind _=_;rw[e,Zq];show (Lg _ i).bind _=_;rw[Zt,sG n d,Zq,ZY,Zr (by omega)];show (if fD _=J/\Ko _=J then Y _ else M)=_;rw[Zm ⟨yM l,rfl⟩,Zo,Zr (by omega)];rfl
def C4{U:Env}{n:Nat}{c:Cell}{i:Int}(l:List Tx)(h:U[n]?=Y (Y c))(q:b U=Y ((.fr,.int i),U1))(p:U1[n]?=Y (Y d))(o:jQ d=.lst (l.map .str))(v:0<=i)(e:i<l.length):uI n b U=Y ((.fr,.str (l.getD i.toNat [])),U1):=by
 unfold uI;rw[h];rw[q,Zq];rw[p];dsimp only;rw[o];show (Lg _ i).bind _=_;rw[Zt,sG v e,Zq,ZY,Zr (by omega)];rw[Zo,Zr (by omega)];rfl
def wm{i:Int}(h:x U=Y ((.fr,.int i),U1)):qd (Y x) U=Y (Y i,U1):=by
 show (x U).bind _=_;rw[h];rfl
def EK{lo hi:Option Xx}(h:a U=Y ((.fr,.str w),U1))(e:qd lo U1=Y (p,U2))(d:qd hi U2=Y (q,U3)):S7 a lo hi U=Y ((.fr,.str (cut w p q)),U3):=by
 unfold S7
 simp_all
def qL{e:List Bool}{h n:W7}{v:Val}(q:h.length+1=o/\e.length=h.length)(w:d ((Y (.ow (QW 1 t0)) :: List.zipWith oY e (markL 1 e h))++List.replicate (p-o) M)=Y (.rt v U))(z:mQ U 0 (J :: e)=Y n)(B:AQ n v=J)(A:bY n=J):OV o p e d (t0 :: h)=Y (n,v.2):=by
 dsimp only[OV];rw[Zm q,w,Zq]
 simp_all
def EA(h:d U=Y (J,U1)):vI d p q U=p U1:=by
 unfold vI;rw[h];rfl
def wo(h:d U=Y (Z,U1)):vI d p q U=q U1:=by
 unfold vI;rw[h];rfl
def Au(h:c U=Y (m,.bl Z)):jR c d U=Y (Z,U):=by
 unfold jR;rw[h];rfl
def zi(h:c U=Y (m,.bl J)):jR c d U=d U:=by
 unfold jR;rw[h];rfl
def Ig{b:Bool}(h:x U=Y ((.fr,.bl b),U1)):QJ x U=Y (b,U1):=by
 unfold QJ;rw[h];rfl
def wO{i j:Int}(e:a U=Y ((.fr,.int i),U1))(d:b U1=Y ((.fr,.int j),U2)):QJ (x2 oEq a b) U=Y (i==j,U2):=Ig (lS e d (oK L L (by simp only[eqT])) L L L)
def Gv{f:Val->W5->W6}{x:Val}(p:o U=Y x)(n:e U=Y d)(h:f x d=Y v):eM f o e U=Y v:=by
 simp_all
def xF(h:x U=Y ((m,t),U1))(d:j<U1.length):mY j x U=Y (.nx (U1.set j (Y (.ow t)))):=by
 unfold mY
 simp_all
end
end VS
end
section
namespace T33
open VS
abbrev sp(a:Bool)(n:Int):W4:=oc (wr a 1 (.lst [.int n]))
def GJ(n m:Int)(h:0<m/\m<1000000000000000000000000000000000000000000000000000000000000):aC [.lst [.int n],.int m]=Y ([.lst [.int (n/m)]],.int (n%m)):=by
 have s1:aU 2 (e2 oMod (e2 aL (VM (aa 0)) (Q3 0)) (aa 1)) [sp J n,Q0 m,M]=Y (.nx [sp J n,Q0 m,Q0 (n%m)]) :=
  aI (e2v L L (fF h.1)) (by decide) (by show 2<3;decide)
 exact qL (v:=(.fr,.int _)) ⟨rfl,rfl⟩ ((aw s1).trans ((aw (by
  unfold iS;rw[e2v L L (yK h)];rfl)).trans L)) L L L
section
variable{n m:Int}
def nx{U:Env}(a:0<m/\m<1000000000000000000000000000000000000000000000000000000000000)(g:U[i]?=Y (Y c0))(e:x U=Y ((.fr,.int m),U1))(f:U1[i]?=Y (sp un n)):∃d b,0<=d/\d<m/\aQ [.io i un,.px x] aC U=Y ((.fr,.int d),U1.set i (sp un b)) :=
 ⟨_,_,Y5 _ (by lia),YL _ a.1,cx g (xq e L L) f L L L (GJ n m a)⟩
end
def nR{i:Int}(h:x (Q0 i :: U)=Y ((.fr,t),c :: d))(f:Ko t=J)(e:gy x r d=Y (a,b)):gy x (i :: r) U=Y (t :: a,b):=by
 unfold gy
 simp_all
def GP(L:Tx)(a n:Int)(w:0<L.length)(B:L.length<1000)(A:0<=a)(y:a<1000):∃(b:Int)(t:Tx),eT [.lst [.int n],.str L,.int a]=Y ([.lst [.int b]],.str t)/\t.length<=a.toNat/\∀c∈t,c∈L:=by
 have loop:∀(r:List _)(n:Int),∃(b:Int)(s:Tx),gy (x2 aL (xI (aa 2)) (aQ [(.io 1 J),(.px (xI (eN cB (af (aa 2) au))))] aC)) r [sp J n,Q2 L,Q0 a]=Y (s.map λc=>T.str [c],[sp J b,Q2 L,Q0 a])/\s.length=r.length/\∀c∈s,c∈L:=by
  intro r
  induction r with
  |nil=>intro n;exact⟨n,[],rfl,rfl,λ_ h=>nomatch h⟩
  |cons i r q =>
   intro n;obtain⟨d,f,g,p,e⟩:=nx (i:=1) (x:=xI (eN cB (af (aa 2) au))) (U:=[pc _,sp _ n,Q2 L,pc _]) (by lia) rfl (bV rfl rfl) rfl;obtain⟨b,s,j,l,o⟩:=q f;have hd:d.toNat<L.length:=by lia
   refine⟨b,L.getD _ 0 :: s,nR (lS (bV rfl rfl) e (BN L d g p) rfl rfl rfl) rfl j,by simp_all,λc C=>?_⟩;grind
 obtain⟨d,f,g,p,e⟩:=nx (i:=0) (x:=xI (e2 bE (aa 2) (Q3 1))) (U:=[sp _ n,pc _,Q0 a]) (by lia) rfl (bV rfl rfl) rfl;obtain⟨b,s,j,l,o⟩:=loop (OU 0 d.toNat) f;have u:s.length=d.toNat:=by rw[l];unfold OU;grind
 refine⟨b,s,?_,by lia,o⟩;have v:jV (aQ [(.io 0 J),(.px (xI (e2 bE (aa 2) (Q3 1))))] aC) (x2 aL (xI (aa 2)) (aQ [(.io 1 J),(.px (xI (eN cB (af (aa 2) au))))] aC)) [sp J n,Q2 L,Q0 a]=Y (s.map λc=>T.str [c],[sp J b,Q2 L,Q0 a]):=by
  unfold jV;rw[e,Zq];show (if 0<=d/\d<1000000 then gy _ _ _ else M)=_;rw[Zm ⟨g,by lia⟩];exact j
 refine qL (U:=[sp J b,Q2 L,Q0 a]) ⟨rfl,rfl⟩ (Cj ?_ rfl) rfl rfl rfl;refine(congrArg (λz=>Option.bind z _) v).trans ?_;have:=qu (m:=.fr) (n:=.fr) (strs_map _ s) (by rw[fH];lia);rw[fH]at this;show (lO _ _).map _=_;rw[this];rfl
noncomputable def az:Tx:=[97,98,99,100,101,102,103,104,105,106,107,108,109,110,111,112,113,114,115,116,117,118,119,120,121,122]
def Fo:∀c∈az,97<=c/\c<=122:=by decide
def getD_mem'{l:Tx}(h:i<l.length):l.getD i 0∈l:=by
 simp_all
def Dp(n:Int):∃(q:Int)(s:Tx),gE [.lst [.int n]]=Y ([.lst [.int q]],.str s)/\0<s.length/\s.length<=26/\∀c∈s,97<=c/\c<=122:=by
 obtain⟨d,p,B,A,e⟩:=nx (i:=0) (x:=xI (Q3 8)) (U:=[sp _ n,pc _,M,M,M]) (by decide) L (bV L L) L;have t:∀k,k<8->1<=([2,1,3,2,4,2,3,26]:W0).getD k 0/\([2,1,3,2,4,2,3,26]:W0).getD k 0<=26:=by decide
 have f1:=t d.toNat (by lia);have g:=gw (ny (c:=(dB (af (Q3 2) (af (Q3 1) (af (Q3 3) (af (Q3 2) (af (Q3 4) (af (Q3 2) (af (Q3 3) (af (Q3 26) au)))))))))) ([2,1,3,2,4,2,3,26]) L e B A) L (by show 2<5;decide);generalize ([2,1,3,2,4,2,3,26]:W0).getD _ 0=NH at f1 g;obtain⟨a,o,H,G,e3⟩:=nx (i:=0) (x:=xI (Q3 26)) (U:=[sp _ p,pc _,pc _,M,M]) (by decide) L (bV L L) L;obtain⟨z,h,E,D,y⟩:=nx (i:=0) (x:=xI (Q3 4)) (U:=[sp _ o,pc _,pc _,pc _,M]) (by decide) L (bV L L) L;have f:=gw (ny (c:=(dB (af (Q3 1) (af (Q3 3) (af (Q3 25) (af (Q3 7) au)))))) ([1,3,25,7]) L y E D) L (by show 4<5;decide);have r:∀k,k<4->0<=([1,3,25,7]:W0).getD k 0/\([1,3,25,7]:W0).getD k 0<=26:=by decide
 have w:=r z.toNat (by lia);generalize ([1,3,25,7]:W0).getD _ 0=st at w f;have C:=de (k:=1) (tg:=bh 0) (it:=fG (aa 2)) (elt:=e2 _ (aa 2) (e2 _ (e2 bE (aa 4) (e2 _ (aa 5) (aa 0))) (Q3 26))) (U:=[sp J h,pc _,Q0 NH,Q0 a,Q0 st]) _ _ _ (by
   rw[ir L (by lia),lE]) L (by rw[Yz];lia) λj F=>⟨_,rfl,by
   refine e2v L (e2v (e2v L (e2v L L (jz (by omega))) L) L (fF (by decide))) (BN az _ (Y5 _ (by decide)) (YL _ (by decide)))⟩
 have l:=qu (m:=.fr) (n:=.fr) (strs_map _ _) (by rw[show (List.range _).map (λ(j:Nat)=>[az.getD _ 0])=((List.range NH.toNat).map λ(j:Nat)=>az.getD ((a+st*(j:Int))%26).toNat 0).map (λx=>[x]) from by rw[ZA];rfl,fH,Zt,Yz];lia);rw[show (List.range _).map _=((List.range _).map _).map (λx=>[x]) from by rw[ZA];rfl,fH]at l;refine⟨h,(List.range NH.toNat).map λ(j:Nat)=>az.getD ((a+st*(j:Int))%26).toNat 0,qL (v:=(.fr,.str _)) ⟨rfl,rfl⟩ ((aw L).trans ((aw g).trans ((aw (gw e3 L (by show 3<5;decide))).trans ((aw f).trans (dX ?_))))) L L L,by grind,by simp_all,λc u=>?_⟩
 ·exact Gv L (xv C L) l
 ·obtain⟨j,_,rfl⟩:=ZQ.mp u;have:=Y5 (a+st*(j:Int)) (b:=26) (by decide);have:=YL (a+st*(j:Int)) (b:=26) (by decide);exact Fo _ (getD_mem' (by show _<26;lia))
theorem lC{β:Type}{tg:Tg}{body:Sx}(g:β->T)(Inv:List β->Env->Prop)(h:∀t r U,Inv (t :: r) U->∃f e,tg (g t) U=Y f/\body f=Y (.nx e)/\Inv r e):∀(l:List β)(U:Env),Inv l U->∃i,forL tg body (l.map g) U=Y (.nx i)/\Inv [] i
 |[],U,d=>⟨U,rfl,d⟩
 |t :: l,U,d=>by
  obtain⟨f,e,e1,e2,b⟩:=h t l U d;obtain⟨i,e3,a⟩:=lC g _ h l _ b;exact⟨_,(eA e1 e2).trans e3,a⟩
noncomputable def Az(t:Tx):Prop:=∀c∈t,97<=c/\c<=122
abbrev EB(n:Int)(L:Tx)(a:Int)(f:List Tx)(e d b:W4):Env:=[sp J n,Q2 L,Q0 a,oc (.lst (f.map .str)),e,d,b]
section
variable{L:Tx}{many:Int}
def Sv(n m:Int)(b:0<m/\m<1000000000000000000000000000000000000000000000000000000000000){c:Ex}(e:c (EB n L many bk z4 z5 z6)=Y (.fr,.int m)):∃d a,0<=d/\d<m/\aQ [.io 0 J,.px (xI c)] aC (EB n L many bk z4 z5 z6)=Y ((.fr,.int d),EB a L many bk z4 z5 z6) :=
 nx b rfl (bV e rfl) rfl
def Sq{bk:List Tx}{z4 z5 z6:W4}(g:0<L.length/\L.length<=26/\Az L)(n d a:Int)(f:0<=a/\a<1000){x:Xx}(i:x (EB n L many bk z4 z5 z6)=Y ((.fr,.int a),EB d L many bk z4 z5 z6)):∃(b:Int)(t:Tx),t.length<=a.toNat/\Az t/\aQ [.io 0 J,.px (xI (aa 1)),.px x] eT (EB n L many bk z4 z5 z6)=Y ((.fr,.str t),EB b L many bk z4 z5 z6):=by
 obtain⟨b,t,e,m,j⟩:=GP L _ d g.1 (by lia) f.1 f.2;exact⟨b,t,m,λc h=>g.2.2 c (j c h),cx (r:=[.px _,.px x]) (l:=[.str L,.int _]) rfl (xq (bV rfl rfl) rfl (xq i rfl rfl)) rfl rfl rfl rfl e⟩
end
def BE(h:Az t):Az (cut t p q):=λc a=>h c (C8 t p q a)
def uW(h:Az s)(g:Az t):Az (s++t):=λc a=>(ZU.mp a).elim (h c) (g c)
def zt(t:Tx)(k:Nat):(cut t M (Y (k:Int))).length<=k:=by
 rw[Gg];exact List.length_take_le _ _
def DQ:∀k,k<8->0<=([2,1,3,2,4,0,1,8]:W0).getD k 0/\([2,1,3,2,4,0,1,8]:W0).getD k 0<=8:=by decide
def CY:∀k,k<4->0<=([6,3,10,8]:W0).getD k 0/\([6,3,10,8]:W0).getD k 0<=10:=by decide
def lZ{l:List Tx}{i:Nat}(h:i<l.length):l.getD i []∈l:=by
 simp_all
def yp{L:Tx}(Q:0<L.length/\L.length<=26/\Az L){h:Int}(P:∀t∈bk,t.length<=14/\Az t)(h8:bk.length<8)(n:Int)(D z6:W4) :
  ∃(o:Int)(t:Tx)(x p:W4),jS (EB n L h bk (Q0 (bk.length:Int)) D z6)=Y (.nx (EB o L h (bk++[t]) (Q0 (bk.length:Int)) x p))/\t.length<=14/\Az t:=by
 obtain⟨d,N,d0,d1,e⟩:=Sv (bk:=bk) n 4 (by decide) (c:=eC _) rfl;have g:=CY d.toNat (by lia);obtain⟨u,t,ht,w,LD⟩:=Sq Q n N _ ⟨g.1,by lia⟩ (ny (c:=dB (af (Q3 6) (af (Q3 3) (af (Q3 10) (af (Q3 8) au))))) _ rfl e d0 d1);have C:t.length<=14:=by lia
 have s1:=gw LD rfl (by show 5<7;decide);have fin:∀(o:Int)(t:Tx)(p:Option _),t.length<=14->Az t->∃(v:Int)(r:Tx)(x VY:Option _),sX (pG 3 [] _ (af (aa 5) _)) (EB o L h bk (Q0 (bk.length:Int)) (Q2 t) p)=Y (.nx (EB v L h (bk++[r]) (Q0 (bk.length:Int)) x VY))/\r.length<=14/\Az r:=λo t p S R=>by
  refine⟨o,t,Q2 t,p,?_,S,R⟩;rw[qW rfl rfl (by rw[Zt];lia)];grind
 by_cases hk:bk.length=0
 ·obtain⟨l,t3,a,b,f1,f2⟩:=fin u t z6 C w;refine⟨l,t3,a,b,(aw s1).trans ((aw ((wo (Au (m:=.fr) ?_)).trans rfl)).trans f1),f2⟩
  simp_all
 ·obtain⟨B,l,a0,a1,e3⟩:=Sv (z6:=z6) u 4 (by decide) (c:=eC _) rfl;have tt:jR (e2 QU (aa 4) (Q3 0)) (QJ (x2 oEq (aQ [(.io 0 J),(.px (xI (Q3 4)))] aC) (xI (Q3 1)))) (EB u L h bk (Q0 (bk.length:Int)) (Q2 t) z6)=Y (B==1,EB l L h bk (Q0 (bk.length:Int)) (Q2 t) z6):=by
   refine(zi (m:=.fr) ?_).trans (wO e3 (bV rfl rfl));refine e2v rfl rfl ?_;show Y _=_;rw[decide_eq_true (by lia)]
  cases hd:(B==1) with
  |false =>
   rw[hd]at tt;obtain⟨q,t3,a,b,f1,f2⟩:=fin l t z6 C w;exact⟨q,t3,a,b,(aw s1).trans ((aw ((wo tt).trans rfl)).trans f1),f2⟩
  |true =>
   rw[hd]at tt;obtain⟨d3,q,b0,b1,X⟩:=Sv (z4:=Q0 (bk.length:Int)) l _ (by lia) (c:=aa 4) rfl;have y:=gw (C4 (n:=3) bk rfl X rfl rfl b0 b1) rfl (by show 6<7;decide);have z:=P _ (lZ (i:=d3.toNat) (by lia));generalize bk.getD _ []=old at y z;refine L2.ah λP_ O=>?_;obtain⟨A,s,_,_,U⟩:=Sv (z6:=Q2 old) q _ (by lia) (c:=e2 bE (eN cB (af (aa 6) au)) (Q3 1)) rfl;have Om:=Gh old (Y A) M;have G:xI (aa 6) (EB q L h bk (Q0 (bk.length:Int)) (Q2 t) (pc _))=Y ((.fr,.str old),_):=bV rfl rfl;have F:xI (aa 5) (EB s L h bk (Q0 (bk.length:Int)) (pc _) (Q2 old))=Y ((.fr,.str t),_):=bV rfl rfl;have E:xI (eC _) (EB s L h bk (Q0 (bk.length:Int)) (Q2 t) (Q2 old))=Y ((.fr,.int 14),_):=bV rfl rfl;obtain⟨H,t3,a,b,f1,f2⟩:=fin s (cut (cut old (Y A) M++t) M (Y 14)) (Q2 old) (zt _ 14) (BE (uW (BE z.2) w));refine O ?_;exact⟨H,t3,a,b,(aw s1).trans ((aw ((EA tt).trans ((aw y).trans (gw (j:=5) (EK (lS (f:=bE) (EK (hi:=M) G (wm U) rfl) F (ll (by lia)) rfl rfl rfl) (lo:=M) rfl (wm E)) rfl (by show 5<7;decide))))).trans f1),f2⟩
def Hc{b:List Tx}(h:∀t∈b,t.length<=14):(b.map List.length).sum<=14*b.length:=by
 induction b with
 |nil=>exact Zn _
 |cons a l d =>
  grind
def Ai(n:Int)(a:List Tx):AQ [.lst [.int n]] (.fr,.lst (a.map .str))=J:=by
 unfold AQ;rw[Bool.or_eq_true];refine .inr ?_;show (a.map _).all _=J;rw[XY];exact ZS.mpr λ_ _=>rfl
def zu(l:List Tx)(h:0<l.length):aL (m,.lst (l.map .str)) (n,.int (-1))=Y (.fr,.str (l.getD (l.length-1) [])):=by
 show ((Lg _ _).bind _)=_;have:Lg (l.map T.str).length (-1)=Y (l.length-1):=by
  unfold Lg;rw[Zt,Zl (by decide),Zm (by lia)];congr 1;lia
 rw[this,Zq,ZY,Zo,Zr (by omega)];rfl
theorem Ec(w:Tx):∀k,(List.replicate k w).flatten.length=k*w.length
 |0=>by rw[Nat.zero_mul];rfl
 |k+1=>by simp_all
def GW{L:Tx}(hL:0<L.length/\L.length<=26/\Az L)(n:Int):∃(E:Int)(bk:List Tx),h9 [.lst [.int n],.str L]=Y ([.lst [.int E]],.lst (bk.map .str))/\bk.length<=8/\(bk.map List.length).sum<=120/\∀t∈bk,Az t:=by
 obtain⟨d,n1,d0,d1,e⟩:=nx (i:=0) (x:=xI (Q3 8)) (U:=[sp _ n,Q2 L,M,M,M,M,M]) (by decide) rfl (bV rfl rfl) rfl;have hf:=DQ d.toNat (by lia);have s1:=gw (ny (c:=(dB (af (Q3 2) (af (Q3 1) (af (Q3 3) (af (Q3 2) (af (Q3 4) (af (Q3 0) (af (Q3 1) (af (Q3 8) au)))))))))) ([2,1,3,2,4,0,1,8]) rfl e d0 d1) rfl (by show 2<7;decide);generalize ([2,1,3,2,4,0,1,8]:W0).getD _ 0=many at hf s1;obtain⟨U',f1,D,bk,o,l,g,rfl,_,hb,hlen⟩:=lC (tg:=bh 4) (λ(k:Nat)=>T.int _) (λr U=>∃(n:Int)(bk:List Tx)(o l g:Option _),U=EB n L many bk o l g/\r=List.range' bk.length r.length/\(∀t∈bk,t.length<=14/\Az t)/\bk.length+r.length=many.toNat) (by
  rintro k r _ ⟨n,bk,o,l,g,rfl,X,hb,hl⟩;rw[Ze]at hl;rw[Ze,X5]at X;obtain⟨rfl,G⟩:=Wk X;obtain⟨E,t,Sk,Sj,e,h1,h2⟩:=yp hL hb (by lia) n l g;refine⟨_,_,rfl,e,E,_,_,_,_,rfl,by rw[Zp];exact G,λu F=>?_,by rw[Zp,ZN];lia⟩;rcases ZU.mp F with h | h
  ·exact hb u h
  ·rw[Zb.mp h];exact⟨h1,h2⟩) (List.range many.toNat) _ ⟨n1,[],_,_,_,rfl,by rw[Yz];exact Wt,(λ_ h=>nomatch h),by simp_all⟩
 have Ug:bk.length=many.toNat:=hlen;have fin:∀{q:Int}{H:List Tx}(b:Sx),b _=Y (.nx (EB q L many _ o l g))->OV 2 7 [Z] (av (dW 2 (mR _ (aQ [(.io 0 J),(.px _)] _))) (av (jM 3 (dB au)) (av (jL _ (fG (aa 2)) _) (av b (eO 3))))) [.lst _,.str L]=Y ([.lst _],.lst (H.map .str)):=λb hb =>
  qL ⟨rfl,rfl⟩ ((aw s1).trans ((aw rfl).trans ((aw (by
  refine(dz (m:=.fr) ?_ rfl).trans f1;rw[ir (m:=.fr) (j:=many) rfl (by lia),lE])).trans ((aw hb).trans rfl)))) rfl (Ai _ _) rfl
 have Uz:bk.length<=8/\(bk.map List.length).sum<=120/\∀t∈bk,Az t:=⟨by lia,by have:=Hc λt s=>(hb t s).1;lia,λt s=>(hb t s).2⟩
 obtain⟨d2,q,a0,a1,e3⟩:=Sv D 6 (by decide) (c:=Q3 6) rfl;by_cases hm:0<many/\many<3
 ·have tt:jR (iJ oLt oLt (Q3 0) (aa 2) (Q3 3)) (QJ (x2 oEq (aQ [(.io 0 J),(.px (xI (Q3 6)))] aC) (xI (Q3 1)))) (EB D L many bk o l g)=Y (d2==1,EB q L many bk o l g):=by
   refine(zi (m:=.fr) (nu rfl rfl ?_ rfl ?_)).trans (wO e3 (bV rfl rfl))
   ·simp_all
   simp_all
  cases hd:(d2==1) with
  |false =>
   rw[hd]at tt;exact⟨q,bk,fin _ ((wo tt).trans rfl),Uz⟩
  |true =>
   rw[hd]at tt;have C:0<bk.length:=by lia
   obtain⟨Q,t,s,hz,e4⟩:=Sq hL q q 24 (by decide) (x:=xI (Q3 24)) (bV rfl rfl);obtain⟨p,n5,b0,b1,e5⟩:=Sv Q 2 (by decide) (c:=Q3 2) rfl;have S:e2 aL (aa 3) (Q3 0) (EB q L many bk o l g)=Y (.fr,.str (bk.getD 0 [])):=e2v rfl rfl (pZ T.str bk 0 [] C);have R:e2 aL (aa 3) (Q3 (-1)) (EB Q L many bk o l g)=Y (.fr,.str (bk.getD (bk.length-1) [])):=e2v rfl rfl (zu bk C);have q0:=hb _ (lZ C);have q1:=hb _ (lZ (i:=bk.length-1) (by lia));generalize hA:bk.getD 0 []=A at S q0;generalize bk.getD (bk.length-1) []=B at R q1;have P:=lS (lS (bV S rfl) e4 (ll (by lia)) rfl rfl rfl) (bV R rfl) (ll (by rw[Zp];lia)) rfl rfl rfl;have xr:=lS (f:=bE) (bV (c:=Q3 1) rfl rfl) e5 rfl rfl rfl rfl;have N:(A++t++B).length<=52:=by rw[Zp,Zp];lia
   have Ur:=uW (uW q0.2 hz) q1.2;generalize A++t++B=w at P N Ur;have O:=lS P xr (f:=xR) (by
    show (if w.length*(1+p).toNat<=16777216/\-4611686018427387904<=1+p/\1+p<4611686018427387904 then _ else _)=_;rw[Zm ⟨by
     have:w.length*(1+p).toNat<=52*2:=Nat.mul_le_mul N (by lia);lia,by lia,by lia⟩]) rfl rfl rfl
   have T8:(List.replicate (1+p).toNat w).flatten.length<=104:=by
    rw[Ec];have:(1+p).toNat*w.length<=2*52:=Nat.mul_le_mul (by lia) N;omega
   have v:Az (List.replicate (1+p).toNat w).flatten:=λc hc=>by
    obtain⟨u,F,LU⟩:=WH.mp hc;rw[(List.mem_replicate.mp F).2]at LU;exact Ur c LU
   generalize (List.replicate (1+p).toNat w).flatten=W at O T8 v;refine⟨n5,bk.set 0 W,fin _ ((EA tt).trans ?_),?_⟩
   ·refine(congrArg (λz=>Option.bind z _) O).trans ?_;show ((((Lg (bk.map T.str).length 0).map λj=>(T.lst ((bk.map T.str).set j (.str W)),())).map _))=_;rw[Zt,show Lg bk.length 0=Y 0 from B1 C]
    simp_all
   ·have:bk.length=1\/bk.length=2:=by lia
    rcases this with h | h
    ·obtain⟨a,rfl⟩:=List.length_eq_one_iff.mp h;refine⟨by show 1<=8;decide,by show W.length+0<=120;lia,λt s=>?_⟩;rw[Zb.mp (s)];exact v
    ·match bk,h with
     |[a,b],_ =>
      have VC:=hb b (by simp);refine⟨by show 2<=8;decide,by show W.length+(b.length+0)<=120;lia,λt s=>?_⟩;grind
 ·exact⟨D,bk,fin _ ((wo (by
   refine Au (m:=.fr) ?_;by_cases h0:0<many
   ·simp_all
   ·refine wJ (x:=(.fr,.int 0)) (y:=(.fr,.int many)) rfl rfl ?_
    simp_all)).trans rfl),Uz⟩
noncomputable abbrev s1(c:Nat):T:=.str [c]
def eq_int{i:Int}(k:Int)(h:a U=Y (m,.int i)):e2 oEq a (Q3 k) U=Y (.fr,.bl (i==k)):=e2v h L (oK L L (by simp only[eqT]))
def mul_r{i j:Int}(h:-18446744073709551616<j/\j<18446744073709551616):jg (m,.int i) (n,.int j)=Y (.fr,.int (i*j)):=Zm (.inr h)
def sy(d:W0)(O:d.length<=63)(k:Nat)(G:k<1000):∃n,eE [.scr d,.int k]=Y (.fr,.lst [.int n]):=by
 have s1:aU 2 (e2 bE (e2 _ (aa 1) (eC _)) (Q3 _)) [pc _,pc _,M,M,M,M,M]=Y (.nx [pc (.scr d),pc _,Q0 ((k:Int)*7919+104729),M,M,M,M]) :=
  aI (e2v (e2v L L (jz (by lia))) L L) (by decide) (by show 2<7;decide)
 have o:∃c,Ml (e2 QU (eN cB (af (aa 0) au)) (Q3 0)) (aU 2 (e2 bE (e2 aL (aa 0) (e2 oMod (aa 1) (eN cB (af (aa 0) au)))) (e2 jg (e2 oR (aa 1) (eN cB (af (aa 0) au))) (Q3 48271)))) fC [pc (.scr d),Q0 k,Q0 ((k:Int)*7919+104729),M,M,M,M]=Y (.nx [pc (.scr d),Q0 k,Q0 c,M,M,M,M]):=by
  have z:e2 QU (eN cB (af (aa 0) au)) (Q3 0) [pc (.scr d),Q0 k,Q0 ((k:Int)*7919+104729),M,M,M,M]=Y _:=e2v L L L;by_cases h:0<d.length
  ·exact⟨_,(uG (z.trans (by rw[decide_eq_true (by lia)]))).trans (aI (e2v (e2v L (e2v L L (fF (by lia))) (Da d _ (Y5 _ (b:=(d.length:Int)) (by lia)) (YL _ (b:=(d.length:Int)) (by lia)))) (e2v (e2v L L (ou (by lia))) L (mul_r (by decide))) L) (by decide) (by show 2<7;decide))⟩
  ·exact⟨_,(rA (z.trans (by rw[decide_eq_false (by lia)]))).trans L⟩
 obtain⟨c,o⟩:=o;have p:e2 _ (e2 _ (aa 2) (eC _)) _ [pc (.scr d),Q0 k,pc _,M,M,M,M]=Y (.fr,.bl (c%2==0)):=eq_int 0 (e2v L L (fF (by decide)));cases hb:(c%2==0) with
 |true =>
  rw[hb]at p;refine⟨c/2,dI L ((aw s1).trans ((aw o).trans (nJ ((uG p).trans (dX ?_)))))⟩;unfold dB;rw[xv (e2v L L (ou (by decide))) L];rfl
 |false =>
  rw[hb]at p;have t:=aI (U:=[pc (.scr d),Q0 k,Q0 c,M,M,M,M]) (e2v (e2v (f:=bE) (e2v (a:=aa 2) (b:=Q3 2) L L (ou (by decide))) (e2v (a:=Q3 40503) (b:=aa 1) L L (jz (by decide))) L) (b:=Q3 2147483629) L (fF (by decide))) (by decide) (by show 3<7;decide);have u:=Y5 (c/2+40503*(k:Int)) (b:=2147483629) (by decide);have C:=YL (c/2+40503*(k:Int)) (b:=2147483629) (by decide);generalize (c/2+40503*(k:Int))%2147483629=left at t u C;obtain⟨N,f1,l,n,q,g,rfl,_⟩:=lC (tg:=bh 5) (body:=iM) _ (λr U=>∃(l n:Int)(q g:Option _),U=[pc (.scr d),Q0 k,Q0 c,Q0 l,Q0 n,q,g]/\0<=l/\l<2147483647/\∀j∈r,j<24) (by
   rintro j r _ ⟨l,n,q,g,rfl,h0,H,s⟩;have B:aU 3 (e2 _ (e2 bE (e2 bE (e2 _ (aa 3) (eC _)) (e2 _ (eC _) (aa 5))) (Q3 1)) (eC _)) [pc _,pc _,pc _,pc _,pc _,pc _,g]=Y (.nx [pc (.scr d),Q0 k,Q0 c,Q0 ((l*69621+7*(j:Int)+1)%2147483647),Q0 n,pc _,g]) :=
    aI (e2v (e2v (e2v (e2v L L (jz (by lia))) (e2v L L (jz (by decide))) L) L L) L (fF (by decide))) (by decide) (by show 3<7;decide)
   have w:=Y5 (l*69621+7*(j:Int)+1) (b:=2147483647) (by decide);have v:=YL (l*69621+7*(j:Int)+1) (b:=2147483647) (by decide);generalize (l*69621+7*(j:Int)+1)%2147483647=e at B w v;have A:aU 6 (e2 _ (e2 _ (aa 3) (aa 3)) (eC _)) [pc _,pc _,pc _,pc _,pc _,pc _,g]=Y (.nx [pc (.scr d),Q0 k,Q0 c,pc _,Q0 n,Q0 (j:Int),Q0 (e*e%2147483629)]) :=
    aI (e2v (e2v L L (jz (by lia))) L (fF (by decide))) (by decide) (by show 6<7;decide)
   have E:=Y5 (e*e) (b:=2147483629) (by decide);have D:=YL (e*e) (b:=2147483629) (by decide);generalize e*e%2147483629=mo at A E D;exact⟨_,_,rfl,(aw B).trans ((aw A).trans (aI (m:=.fr) (e2v (e2v (x:=(.fr,.int n)) (y:=(.fr,.int _)) L L (mul_r (by decide))) (e2v (e2v (x:=(.fr,.int mo)) L (e2v (e2v (x:=(.fr,.int mo)) (y:=(.fr,.int _)) L L (fF (by decide))) (y:=(.fr,.int 3)) L L) (jz (by lia))) (y:=(.fr,.int _)) L (fF (by decide))) L) (by decide) (by show 4<7;decide))),e,_,_,_,rfl,w,v,λi F=>s i (Zw _ F)⟩) _ _ ⟨_,0,_,_,rfl,u,by lia,λj s=>Yj.mp s⟩
  refine⟨n,dI L ((aw s1).trans ((aw o).trans ((aw ((rA p).trans L)).trans ((aw t).trans ((aw L).trans ((aw (by
   refine(dz (m:=.fr) ?_ L).trans f1;rw[ir (m:=.fr) (j:=24) L (by decide),lE];rfl)).trans (dX ?_)))))))⟩
  rfl
end T33
end
section
namespace T33
open VS AU
def lR{n:Nat}{b:Env}{m:Md}(e:c U=Y (m,.bl J))(d:a U=Y (.nx b)):dH c a (n+1) U=dH c a n b:=by
 show (c U).bind _=_;rw[e];show (if J=J then (a U).bind _ else Y (.nx U))=_;rw[Zm L,d];rfl
def dY(b:c U=Y (m,.bl Z)):dH c a (n+1) U=Y (.nx U):=by
 show (c U).bind _=_;rw[b];rfl
def jr{mv:List Bool}{as:KJ}{b:Bool}{r:List (W4)}(h:as (oc (Ks S b) :: r)=Y a)(i:argsOk mv a=J)(j:bY (trees a)=J)(f:g (Oe S) (trees a)=Y (Oe d,v))(e:Ko v=J) :
  cL 0 [] 0 mv g as (oc (Ks S b) :: r)=Y ((.fr,v),oc (Ks d b) :: r):=by
 show ((Y _).bind λl=>(as _).bind _)=_;rw[Zq,h,Zq];show ((if 1=0+1/\lJ _=J/\argsOk mv a=J/\bY _=J then (g _ _).bind _ else M).map _)=_;rw[Zm ⟨rfl,nr S,i,j⟩,f,Zq,Zm ⟨nr d,e⟩];rfl
def Hk{e:Ex}{S:St}{b:Bool}{r:List (W4)}{v:Nat}(h:e (oc (Ks S b) :: r)=Y (.fr,.int (v:Int)))(f:S.lg.length<16777216):sX (nV 0 [.fld 1] bc (af e au)) (oc (Ks S b) :: r)=Y (.nx (oc (Ks ⟨S.lg++[v],S.lk,S.wy⟩ b) :: r)):=by
 show (((Y _).bind λd=>(af e _ _).bind λa=>(pm (λx=>bc x a) d _).map _).map _)=_;rw[Zq,xv h L,Zq];show (((bc (.lst _) [(.fr,.int _)]).map _).map _ |>.map _)=_;rw[fW (by simp_all),show (S.lg.map _)++[.int _]=(S.lg++[v]).map λ(n:Nat)=>T.int _ from by rw[Yq];rfl];rfl
def Gq{e:Ex}{S:St}{b:Bool}{r:List (W4)}{v:Option Nat}(h:e (oc (Ks S b) :: r)=Y (.fr,LY v))(f:S.lk.length<16777216):sX (nV 0 [.fld 2] bc (af e au)) (oc (Ks S b) :: r)=Y (.nx (oc (Ks ⟨S.lg,S.lk++[v],S.wy⟩ b) :: r)):=by
 show (((Y _).bind λd=>(af e _ _).bind λa=>(pm (λx=>bc x a) d _).map _).map _)=_;rw[Zq,xv h L,Zq];show (((bc (.lst _) [(.fr,LY v)]).map _).map _ |>.map _)=_;rw[fW (by simp_all),show (S.lk.map _)++[LY v]=(S.lk++[v]).map _ from by rw[Yq];rfl];rfl
def G9(o:Option Nat):up .pu (LY o)=(.fr,LY o):=by
 unfold up;rw[mJ];rfl
def AL(S:St)(l:Nat)(o:Option Nat)(w:List (Nat×Nat))(d:S.lg.length<16777216)(a:S.lk.length<16777216)(g:S.wy.length<16777216):aW (Oe S) [.int (l:Int),LY o,Mh w]=Y (Oe ⟨S.lg++[l],S.lk++[o],S.wy++[w]⟩,.int (S.lg.length:Int)):=by
 have f:=dX (e:=e2 t4 (eN _ (af (cI 1 (aa 0)) _)) (Q3 1)) (U:=[oc (Ks ⟨_,S.lk++[o],S.wy++[w]⟩ J),Q0 (l:Int),pc (LY o),M]) (e2v (HG L) L (by
  show Y (Md.fr,T.int ((((S.lg++[l]).length:Nat):Int)-1))=_;rw[Zp,ZN,show (((S.lg.length+1:Nat)):Int)-1=(S.lg.length:Int) by lia]))
 unfold aW NT;rw[Zm ⟨rfl,rfl⟩];have body:=(aw (b:=av _ (av (rN 0 [.fld 3] 3) _)) (Hk (S:=S) (b:=J) (r:=[pc _,pc _,oc _]) (e:=aa 1) (v:=l) L d)).trans ((aw (Gq (S:=⟨S.lg++[l],_,_⟩) (b:=J) (r:=[pc _,pc _,oc _]) (e:=aa 2) (v:=o) (congrArg _ (G9 o)) a)).trans ((aw (by
  show ((bc (.lst _) [(.fr,Mh w)]).map _ |>.map _)=_;rw[fW (by simp_all),show (S.wy.map _)++[Mh w]=(S.wy++[w]).map _ from by rw[Yq];rfl];rfl)).trans f))
 exact congrArg (λz:Option _=>z.bind _) body
def GU(u:97<=c/\c<=122):∀(k:Nat)(S b:St)(o:Option Nat),WF S->v<S.lg.length->(∀n,o=Y n->n<S.lg.length)->QK c a v k S o=Y b->WF b/\b.lg=S.lg/\∃d,∀N,k<N->∀z:W4,
  dH (ng (iN (aa 1)) (e2 oEq (e2 zK (e2 aL (cI 3 (aa 0)) (aa 1)) (aa 2)) (aa 3))) cO N [oc (Ks S J),pc (LY o),Q2 ([c]),Q0 (a:Int),z,Q0 (v:Int)] =
   Y (.nx [oc (Ks b J),pc (LY d),Q2 ([c]),Q0 (a:Int),z,Q0 (v:Int)]):=by
 intro k
 induction k with
 |zero =>
  intro S b o W f i e;cases o with
  |none =>
   cases (e);refine⟨W,rfl,none,λN hN z=>?_⟩;obtain⟨N,rfl⟩:∃M,N=M+1:=⟨N-1,by lia⟩
   exact dY L
  |some n=>cases e
 |succ k t =>
  intro S b o W f i e;cases o with
  |none =>
   cases (e);refine⟨W,rfl,none,λN hN z=>?_⟩;obtain⟨N,rfl⟩:∃M,N=M+1:=⟨N-1,by lia⟩
   exact dY L
  |some n =>
   have j:=i n L;have l:n<S.wy.length:=by rw[W.wy];exact j
   have cond:∀z:Option _,ng (iN (aa 1)) (e2 _ (e2 _ (e2 _ (cI 3 (aa 0)) (aa 1)) (aa 2)) (aa 3)) [oc (Ks S J),Q0 _,Q2 ([c]),Q0 _,z,Q0 (v:Int)]=Y (.fr,.bl (decide (gW _ c=Y _))):=λz=>by
    refine vM L (λ_=>?_) (λh=>by cases h);refine e2v (HN (nX L L l) L) L ?_;cases hg:gW _ c with
    |none=>rw[decide_eq_false (by simp)];exact oK L L L
    |some q =>
     refine(oK L L (show eqT (.int _) (.int (a:Int))=decide (Y q=Y a) from ?_));by_cases h:q=a
     ·subst h;simp
     ·rw[decide_eq_false (λz=>h (ZX z))];exact beq_eq_false_iff_ne.mpr (by lia)
   unfold QK at e;split at e
   ·rename_i g;obtain⟨s,r,d,p⟩:=t _ b _ (W.way (n:=n) (c:=c) (v:=v) f u) f (λm hm=>W.up n m hm) e;refine⟨s,r,d,λN hN z=>?_⟩;obtain⟨N,rfl⟩:∃M,N=M+1:=⟨N-1,by lia⟩
    refine(lR ((cond z).trans (by rw[decide_eq_true g])) ?_).trans (p N (by simp_all) z);refine(aw (zR l L L L (W.small n))).trans ?_;exact aI (xm (S:=⟨_,_,S.wy.set n _⟩) L L (by rw[W.lk];exact j)) (by decide) (by decide:1<6)
   ·rename_i g;cases e;refine⟨W,rfl,Y n,λN hN z=>?_⟩;obtain⟨N,rfl⟩:∃M,N=M+1:=⟨N-1,by lia⟩
    exact dY ((cond z).trans (by rw[decide_eq_false g]))
def Hw(t:97<=c/\c<=122):∀(k:Nat)(S a:St)(o b:Option Nat),WF S->v<S.lg.length->(∀n,o=Y n->n<S.lg.length)->up1 c v k S o=Y (a,b)->WF a/\a.lg=S.lg/\(∀n,b=Y n->n<S.lg.length)/\∀N,k<N->∀z:W4,
  dH (ng (iN (aa 4)) (e2 d9 (aa 2) (e2 aL (cI 3 (aa 0)) (aa 4)))) d5 N [oc (Ks S J),z,Q2 ([c]),Q0 (v:Int),pc (LY o)] =
   Y (.nx [oc (Ks a J),z,Q2 ([c]),Q0 (v:Int),pc (LY b)]):=by
 intro k
 induction k with
 |zero =>
  intro S a o b W d g e;cases o with
  |none =>
   cases (e);refine⟨W,rfl,(λn h=>nomatch h),λN hN z=>?_⟩;obtain⟨N,rfl⟩:∃M,N=M+1:=⟨N-1,by lia⟩
   exact dY L
  |some n=>cases e
 |succ k s =>
  intro S a o b W d g e;cases o with
  |none =>
   cases (e);refine⟨W,rfl,(λn h=>nomatch h),λN hN z=>?_⟩;obtain⟨N,rfl⟩:∃M,N=M+1:=⟨N-1,by lia⟩
   exact dY L
  |some n =>
   have i:=g n L;have j:n<S.wy.length:=by rw[W.wy];exact i
   have cond:∀z:Option _,ng (iN (aa 4)) (e2 _ (aa 2) (e2 _ (cI 3 (aa 0)) (aa 4))) [oc (Ks S J),z,pc _,Q0 (v:Int),pc _]=Y (.fr,.bl (!(gW _ c).isSome)):=λz =>
    vM L (λ_=>Ej (nX L L j) L) (λh=>by cases h)
   unfold up1 at e;split at e
   ·rename_i f;cases e;refine⟨W,rfl,g,λN hN z=>?_⟩;obtain⟨N,rfl⟩:∃M,N=M+1:=⟨N-1,by lia⟩
    exact dY ((cond z).trans (by rw[f];rfl))
   ·rename_i f;obtain⟨r,q,l,p⟩:=s _ a _ b (W.way (n:=n) (c:=c) (v:=v) d t) d (λm hm=>W.up n m hm) e;refine⟨r,q,l,λN hN z=>?_⟩;obtain⟨N,rfl⟩:∃M,N=M+1:=⟨N-1,by lia⟩
    have u:(gW (S.wy.getD n []) c).isSome=Z:=by simpa using f
    refine(lR ((cond z).trans (by rw[u];rfl)) ?_).trans (p N (by simp_all) z);refine(aw (zR j L L L (W.small n))).trans ?_;exact aI (xm (S:=⟨_,_,S.wy.set n _⟩) L L (by rw[W.lk];exact i)) (by decide) (by decide:4<5)
def Gu(a b:Nat):oEq (m,.int (a:Int)) (n,.int (b:Int))=Y (.fr,.bl (decide (a=b))):=oK L L (by
 by_cases h:a=b
 ·subst h;simp
 ·rw[decide_eq_false h];exact beq_eq_false_iff_ne.mpr (by lia))
def AK{r:Nat}(W:WF S)(t:Sm S)(i:n<S.lg.length)(u:97<=c/\c<=122)(e:QV S n c=Y (a,r)):WF a/\r<a.lg.length/\S.lg.length<=a.lg.length/\a.lg.length<=S.lg.length+1/\aD (Oe S) [.int (n:Int),.str [c]]=Y (Oe a,.int (r:Int)):=by
 obtain⟨old,h,e⟩:=Zz.mp e;have hold:=W.on n c _ h;have D8:old<S.lk.length:=by rw[W.lk];exact hold
 have s:S.lg.length<=100001:=t;unfold aD NT;rw[Zm ⟨rfl,rfl⟩];have s1:=aI (e:=e2 _ (e2 _ (cI 3 (aa 0)) (aa 1)) (aa 2)) (U:=[oc (Ks S J),pc _,pc _,M,M,M]) (yT (nX L L (by rw[W.wy];exact i)) L h) (by decide) (by decide:3<6);have g:=aI (e:=e2 bE (e2 _ (cI 1 (aa 0)) (aa 1)) (Q3 1)) (U:=[oc (Ks S J),pc _,Q2 ([c]),Q0 (old:Int),M,M]) (e2v (tH L L i) L L) (by decide) (by decide:4<6);have cd:e2 _ (e2 _ (cI 1 (aa 0)) (aa 3)) (aa 4) [oc (Ks S J),Q0 (n:Int),Q2 ([c]),pc _,pc _,M]=Y (.fr,.bl (decide (S.lg.getD _ 0=S.lg.getD n 0+1))):=e2v (tH L L hold) L (Gu _ _);split at e
 ·rename_i f;obtain⟨rfl,rfl⟩:=XM (ZX e);rw[decide_eq_true f]at cd;refine⟨W,hold,Zn _,YW _,?_⟩;have body:∀b:Sx,av _ (av _ (av (Ml _ (eO 3) fC) b)) _=Y _:=λb =>
   (aw s1).trans ((aw g).trans (nJ ((uG cd).trans L)))
  exact congrArg (λz:Option _=>z.bind _) (body _)
 ·rename_i f;rw[decide_eq_false f]at cd;obtain⟨B,C,e3⟩:=Zy.mp e;obtain⟨rfl,rfl⟩:=XM e3;have wn:=W.S8 old;have A:=W.more (l:=S.lg.getD n 0+1) (λm hm=>W.up old m hm) (λd m hm=>W.on _ d m hm) wn.1 wn.2;have hlen:(S.lg++[S.lg.getD n 0+1]).length=S.lg.length+1:=by rw[Zp];rfl
  have y:=A.link (n:=old) (v:=S.lg.length) (by lia);obtain⟨p,o,D,j⟩:=GU u _ _ B _ y (by lia) (λm hm=>by cases hm;lia) C;refine⟨p,by lia,by lia,by exact X8 (by rw[o];exact hlen),?_⟩;have args:af (aa 4) (af (e2 _ (cI 2 (aa 0)) (aa 3)) (af (eN oG (af (e2 _ (cI 3 (aa 0)) (aa 3)) au)) au)) [oc (Ks S J),Q0 (n:Int),Q2 ([c]),pc _,Q0 _,M]=Y [(.fr,.int ((S.lg.getD n 0+1:Nat):Int)),(.fr,LY _),(.fr,Mh _)] :=
   xv L (xv (xm L L D8) (xv (gM (xv (nX L L (by rw[W.wy];exact hold)) L) (by
    show (if fD _=J then Y (Md.fr,Mh _) else M)=_;rw[Zm (by rw[ZA];exact jB _ (λ_=>rfl) _)])) L))
  have x:argsOk [Z,Z,J] [(.fr,.int ((S.lg.getD n 0+1:Nat):Int)),(.fr,LY (S.lk.getD old M)),(.fr,Mh (S.wy.getD old []))]=J:=by
   show (J&&(Ko _&&J))=J;rw[mJ];rfl
  have w:=jr args x (by
   show (J&&(iq _&&(iq _&&J)))=J;rw[oJ _ (mJ _),Bu];rfl) (AL S _ _ _ (by lia) (by rw[W.lk];lia) (by rw[W.wy];lia)) L
  have q:=zG (S:=⟨S.lg++[S.lg.getD n 0+1],S.lk++[S.lk.getD old M],S.wy++[S.wy.getD old []]⟩) (b:=J) (r:=[Q0 (n:Int),Q2 ([c]),Q0 (old:Int),Q0 ((S.lg.getD n 0+1:Nat):Int),Q0 (S.lg.length:Int)]) (e:=aa 3) (ev:=aa 5) (by rw[Zp];lia) L L;exact congrArg (λz:Option _=>z.bind _) ((aw s1).trans ((aw g).trans ((aw ((rA cd).trans L)).trans ((aw (by
   unfold dW;rw[w];rfl)).trans ((aw q).trans ((aw (j _ (by decide) _)).trans L))))))
def Jp{r:Nat}(W:WF S)(t:S.lg.length<=100000)(x:h<S.lg.length)(y:97<=c/\c<=122)(e:hb S h c=Y (a,r)):WF a/\r<a.lg.length/\S.lg.length<=a.lg.length/\a.lg.length<=S.lg.length+2/\bF (Oe S) [.int (h:Int),.str [c]]=Y (Oe a,.int (r:Int)):=by
 unfold hb at e;unfold bF NT;rw[Zm ⟨rfl,rfl⟩];have cd:e2 _ (aa 2) (e2 _ (cI 3 (aa 0)) (aa 1)) [oc (Ks S J),pc _,pc _,M,M]=Y (.fr,.bl (gW _ c).isSome):=JT (nX L L (by rw[W.wy];exact x)) L;split at e
 ·rename_i u;rw[u]at cd;obtain⟨i,s,q,j,D⟩:=AK W (WW t) x y e;refine⟨i,s,q,by exact WW j,?_⟩;have f:=jr (mv:=[Z,Z]) (as:=af (aa 1) (af (aa 2) au)) (b:=J) (r:=[pc _,pc _,M,M]) L L L D L;have s1:mU (cL 0 [] 0 [Z,Z] aD (af (aa 1) (af (aa 2) au))) [oc (Ks S J),Q0 (h:Int),Q2 ([c]),M,M]=Y (.rt (.fr,.int (r:Int)) [oc (Ks a J),Q0 (h:Int),Q2 ([c]),M,M]):=by
   unfold mU;rw[f];rfl
  exact congrArg (λz:Option _=>z.bind _) (nJ ((uG cd).trans s1))
 ·rename_i u;have P:(gW (S.wy.getD h []) c).isSome=Z:=by simpa using u
  rw[P]at cd;obtain⟨⟨g,o⟩,e1,C⟩:=Zz.mp e;have hlen:(S.lg++[S.lg.getD h 0+1]).length=S.lg.length+1:=by rw[Zp];rfl
  obtain⟨i,s,q,j⟩:=Hw y _ _ g _ o (W.more (l:=S.lg.getD h 0+1) (o:=Y 0) (w:=[]) (λm hm=>by cases hm;exact W.pos) (λd m hm=>by cases hm) Z3 (λp N=>nomatch N)) (by lia) (λm hm=>by cases hm;lia) e1;have args:af (e2 bE (e2 _ (cI 1 (aa 0)) (aa 1)) (Q3 1)) (af (eC _) (af (u6 0 []) au)) [oc (Ks S J),pc _,Q2 ([c]),M,M]=Y [(.fr,.int _),(.fr,.int 0),(.fr,.dct 0 [])] :=
   xv (e2v (tH L L x) L L) (xv L (xv L L))
  have f:=jr (mv:=[Z,Z,J]) args L L (AL S _ (Y 0) [] (by lia) (by rw[W.lk];lia) (by rw[W.wy];lia)) L;have hd:∀b:Sx,av (Ml (e2 md _ _) (mU (cL 0 [] 0 [Z,Z] aD (af (aa 1) (af (aa 2) au)))) fC)
    (av (dW 3 (cL 0 [] 0 _ _ (af (e2 _ _ _) _)))
    (av (aU 4 (aa 1)) (av (j4 _ _) b))) [oc _,pc _,pc _,M,M] =
    b _:=λb =>
   (aw ((rA cd).trans L)).trans ((aw (by
   unfold dW;rw[f];rfl)).trans ((aw L).trans (aw (j Gp (by decide) (Q0 (h:Int))))))
  cases o with
  |none =>
   obtain⟨rfl,rfl⟩:=XM (ZX C);have fin:av (Ml (iN (aa 4)) (qm 0 [.fld 2] (aa 3) (cL 0 [] 0 [Z,Z] aD (af (aa 4) (af (aa 2) au)))) fC) (eO 3) [oc (Ks g _),pc _,pc _,Q0 _,pc _] =
     Y (.rt (.fr,.int (S.lg.length:Int)) [oc (Ks g J),Q0 (h:Int),Q2 ([c]),Q0 (S.lg.length:Int),pc (LY M)]):=(aw ((rA L).trans L)).trans L
   refine⟨i,by lia,by lia,by lia,?_⟩;exact congrArg (λz:Option Out=>z.bind _) ((hd _).trans fin)
  |some n =>
   obtain⟨⟨A,m⟩,e3,O⟩:=Zy.mp C;obtain⟨rfl,rfl⟩:=XM O;obtain⟨B,F,R,Q,E⟩:=AK i (by show g.lg.length<=100001;lia) (by
    have:=q n L;rw[s];exact this) y e3
   have f:=jr (mv:=[Z,Z]) (as:=af (aa 4) (af (aa 2) au)) (b:=J) (r:=[Q0 (h:Int),Q2 ([c]),Q0 (S.lg.length:Int),Q0 (n:Int)]) L L L E L;have H:=zG (b:=J) (r:=[Q0 (h:Int),Q2 ([c]),Q0 (S.lg.length:Int),Q0 (n:Int)]) (e:=aa 3) (ev:=λ_=>Y (.fr,.int (m:Int))) (by rw[B.lk];lia) L L;have G:qm 0 [.fld 2] (aa 3) (cL 0 [] 0 [Z,Z] aD (af (aa 4) (af (aa 2) au))) [oc (Ks g J),Q0 (h:Int),Q2 ([c]),Q0 (S.lg.length:Int),Q0 (n:Int)]=Y (.nx [oc (Ks ⟨A.lg,A.lk.set S.lg.length (Y m),A.wy⟩ J),Q0 (h:Int),Q2 ([c]),Q0 (S.lg.length:Int),Q0 (n:Int)]):=by
    unfold qm;rw[f];exact H
   refine⟨(B.link (n:=S.lg.length) (v:=m) F),by lia,by lia,by lia,?_⟩;exact congrArg (λz:Option Out=>z.bind _) ((hd _).trans ((aw ((uG (m:=.fr) L).trans G)).trans L))
theorem BY:∀{word:Wa}{h r:Nat},WF S->S.lg.length+2*word.length<=100000->h<S.lg.length->(∀c∈word,97<=c/\c<=122)->hg S h word=Y (f,r) →
  WF f/\r<f.lg.length/\f.lg.length<=S.lg.length+2*word.length/\∀g:W4,∀a:T,∃l,forL (bh 3) cM (word.map λc=>T.str [c]) [oc (Ks S J),Q0 (h:Int),pc a,g]=Y (.nx [oc (Ks f J),Q0 (r:Int),pc a,l])
 |[],h,r,W,hl,i,j,e=>by
  obtain⟨rfl,rfl⟩:=XM (ZX e);exact⟨W,i,by simp,λg a=>⟨g,rfl⟩⟩
 |c :: word,h,r,W,hl,i,j,e=>by
  refine L2.ah λC u=>?_;obtain⟨⟨B,A⟩,e1,w⟩:=Zz.mp e;rw[Ze]at hl;obtain⟨o,n,y,x,m⟩:=Jp W (by lia) i (j c Zv) e1;obtain⟨t,s,z,p⟩:=BY o (by lia) n (λd hd=>j d (Zw _ hd)) w;refine u ?_;refine⟨t,s,by rw[Ze];lia,λg a=>?_⟩;obtain⟨l,q⟩:=p (Q2 ([c])) a;refine⟨l,?_⟩;rw[Zg];refine(eA (U1:=[oc (Ks S J),Q0 (h:Int),pc a,Q2 ([c])]) L ?_).trans q;have v:=jr (mv:=[Z,Z]) (as:=af (aa 1) (af (aa 3) au)) (b:=J) (r:=[Q0 (h:Int),pc a,Q2 ([c])]) L L L m L;unfold cM dW;rw[v];rfl
def Ic{a:Tx}(W:WF S)(j:S.lg.length+2*a.length<=100000)(l:h<S.lg.length)(m:∀c∈a,97<=c/\c<=122)(e:hg S h a=Y (b,r)) :
  WF b/\r<b.lg.length/\b.lg.length<=S.lg.length+2*a.length/\bK (Oe S) [.int (h:Int),.str a]=Y (Oe b,.int (r:Int)):=by
 obtain⟨i,g,f,d⟩:=BY W j l m e;obtain⟨n,q⟩:=d M (.str a);refine⟨i,g,f,?_⟩;unfold bK NT;rw[Zm ⟨rfl,rfl⟩];have s1:=(dz (it:=dA (aa 2)) L L).trans q;exact congrArg (λz:Option Out=>z.bind _) ((aw s1).trans L)
end T33
end
section
namespace AU
noncomputable abbrev Wd:=Wa
noncomputable abbrev W(a:List Wd)(n:Nat):Wd:=a.getD n []
structure I(fr:Option Nat)(S:St)(nd:Wd->Option Nat)(wd:List Wd):Prop where
 wf:WF S
 len:wd.length=S.lg.length
 lg:∀n,n<wd.length->S.lg.getD n 0=(W wd n).length
 z:nd []=some 0
 wz:W wd 0=[]
 lt:∀{x n},nd x=some n->n<wd.length
 sf:∀{x n},nd x=some n->x <:+ W wd n
 top:∀{n},n<wd.length->nd (W wd n)=some n
 iv:∀{x y n},nd x=some n->x <:+ y->y <:+ W wd n->nd y=some n
 pre:∀{x c n},nd (x++[c])=some n->∃m,nd x=some m
 PF:∀{x y n},nd y=some n->x <:+ y->∃m,nd x=some m
 QY:S.lk.getD 0 none=none
 lk:∀{n},0<n->n<wd.length->some n≠fr->∃m,S.lk.getD n none=some m/\(m<wd.length/\some m≠fr)/\W wd m <:+ W wd n/\(W wd m).length<(W wd n).length/\∀y,y <:+ W wd n->(W wd m).length<y.length->nd y=some n
 wy:∀{x n},nd x=some n->∀c,gW (S.wy.getD n []) c=nd (x++[c])
def cJ{α:Type}{x y w:List α}(d:x <:+ w)(b:y <:+ w)(a:x.length<=y.length):x <:+ y:=List.suffix_of_suffix_length_le d b a
section
def I.up(H:I fr S nd wd):∀(k n:Nat)(x:Wd),(W wd n).length<=k->n<wd.length->Y n≠fr->x <:+ W wd n->∃m,nd x=Y m/\W wd m <:+ W wd n:=by
 intro k
 induction k with
 |zero =>
  intro n x d b e a;rw[(YU.mp (Nat.le_zero.mp d))]at a;have:x=[]:=YH.mp a;subst this;exact⟨0,H.z,by rw[H.wz];exact Xg⟩
 |succ k h =>
  intro n x d b e a;by_cases h0:n=0
  ·subst h0;rw[H.wz]at a;have:x=[]:=YH.mp a;subst this;exact⟨0,H.z,Z7 _⟩
  ·obtain⟨m,p,⟨j,l⟩,f,o,i⟩:=H.lk (Ys h0) b e;by_cases hl:(W wd m).length<x.length
   ·exact⟨n,i x a hl,Z7 _⟩
   ·obtain⟨q,q1,g⟩:=h m x (by lia) j l (cJ a f (by exact Z1 hl));exact⟨q,q1,g.trans f⟩
def I.UX(H:I fr S nd wd)(b:n<wd.length)(d:Y n≠fr)(a:x <:+ W wd n):∃m,nd x=Y m/\W wd m <:+ W wd n:=H.up _ n x (Zn _) b d a
def I.all(H:I fr S nd wd)(e:q<wd.length)(f:Y q≠fr)(d:nd x=Y n)(b:nd y=Y n)(h:x <:+ W wd q):y <:+ W wd q:=by
 obtain⟨m,a,g⟩:=H.UX e f h;rw[d]at a;cases a;exact(H.sf b).trans g
def I.inj(H:I fr S nd wd)(b:m<wd.length)(a:n<wd.length)(h:W wd m=W wd n):m=n:=by
 have:=H.top b;rw[h,H.top a]at this
 simp_all
def I.way(H:I fr S nd wd){n c:Nat}(b:n<wd.length)(h:gW (S.wy.getD n []) c=Y a):nd (W wd n++[c])=Y a:=by
 rw[← H.wy (H.top b) c];exact h
def I.zero(H:I fr S nd wd)(h:nd x=Y 0):x=[]:=by
 have:=H.sf h;rw[H.wz]at this;exact YH.mp this
def I.low(H:I fr S nd wd)(f:Y n≠fr)(a:S.lk.getD n M=Y m)(b:nd y=Y n):(W wd m).length<y.length/\m<wd.length/\W wd m <:+ W wd n/\Y m≠fr:=by
 by_cases h0:n=0
 ·subst h0;rw[H.QY]at a;cases a
 ·obtain⟨i,g,⟨e,h⟩,d,l,j⟩:=H.lk (Ys h0) (H.lt b) f;rw[g]at a;cases a;refine⟨Nat.lt_of_not_le λhle=>?_,e,d,h⟩;have:=H.iv b (cJ (H.sf b) d hle) d;rw[H.top e]at this
  simp_all
def I.below(H:I fr S nd wd)(d:n<wd.length)(f:Y n≠fr)(a:S.lk.getD n M=Y q)(e:m<wd.length)(b:W wd m <:+ W wd n)(j:m≠n):W wd m <:+ W wd q:=by
 by_cases h0:n=0
 ·subst h0;rw[H.QY]at a;cases a
 ·obtain⟨o,i,⟨r,_⟩,h,p,g⟩:=H.lk (Ys h0) d f;rw[i]at a;cases a;refine cJ b h (Z1 λl=>j ?_);have:=g _ b l;rw[H.top e]at this;exact ZX this
def I.root(H:I fr S nd wd)(b:n<wd.length)(g:Y n≠fr)(d:S.lk.getD n M=M)(f:m<wd.length)(a:W wd m <:+ W wd n):m=n:=by
 have h0:n=0:=Nat.eq_zero_of_not_pos λe=>by
  obtain⟨q,h,_⟩:=H.lk e b g;rw[h]at d;cases d
 subst h0;rw[H.wz]at a;exact H.inj f b (by rw[H.wz,YH.mp a])
def fQ(a:List (List (Nat×Nat)))(n m c v d:Nat)(b:n<a.length):gW ((a.set n (pW (a.getD n []) c v)).getD m []) d=if m=n/\d=c then Y v else gW (a.getD m []) d:=by
 rw[g6];by_cases h:n=m
 ·subst h;rw[Zm ⟨rfl,b⟩,Ek];grind
 ·rw[Zl (λz=>h z.1),Zl (λz=>h z.1.symm)]
def I.Sb(H:I fr S nd wd){c v:Nat}:∀(k:Nat)(T:St)(n:Nat),n<wd.length->Y n≠fr->(W wd n).length<k->(∀m,m<wd.length->W wd m <:+ W wd n->T.lk.getD m M=S.lk.getD m M)->wd.length<=T.wy.length →
  (∀m f,m<wd.length->f<wd.length->W wd m <:+ W wd f->W wd f <:+ W wd n->gW (T.wy.getD m []) c=Y a->gW (T.wy.getD f []) c=Y a) →
  ∃l,QK c a v k T (Y n)=Y ⟨T.lg,T.lk,l⟩/\l.length=T.wy.length/\∀m d,gW (l.getD m []) d=if d=c/\m<wd.length/\W wd m <:+ W wd n/\gW (T.wy.getD m []) c=Y a then Y v else gW (T.wy.getD m []) d:=by
 intro k
 induction k with
 |zero=>intro T n _ _ h;lia
 |succ k A =>
  intro T n g r D w hw mono;have i:=Zc g hw;unfold QK;by_cases p:gW (T.wy.getD n []) c=Y a
  ·rw[Zm p,w n g (Z7 _)];cases hl:S.lk.getD n _ with
   |none =>
    refine⟨_,by cases k<;>rfl,ZF,λm d=>?_⟩;rw[fQ _ _ _ _ _ _ i];by_cases hm:m=n/\d=c
    ·simp_all
    ·rw[Zl hm,Zl λz=>hm ⟨H.root g r hl z.2.1 z.2.2.1,z.1⟩]
   |some q =>
    obtain⟨C,y,o,x⟩:=H.low r hl (H.top g);have ne:∀m,W wd m <:+ W wd q->m≠n:=λm hm e=>by
     rw[e]at hm;grind
    obtain⟨l,e1,e2,e3⟩:=A ⟨_,_,T.wy.set n (pW _ c v)⟩ q y x (by lia) (λm hm j=>w m hm (j.trans o)) (by rw[ZF];exact hw) (λm f hm B j s h=>by
     have t:=h;rw[fQ _ _ _ _ _ _ i,Zl (λz=>ne m (j.trans s) z.1)]at t;rw[fQ _ _ _ _ _ _ i,Zl (λz=>ne f s z.1)];exact mono m f hm B j (s.trans o) t)
    refine⟨_,e1,by rw[e2];exact ZF,λm d=>?_⟩;rw[e3 m d];by_cases hm:m=n
    ·subst hm;rw[Zl (λz=>ne m z.2.2.1 L),fQ _ _ _ _ _ _ i]
     simp_all
    ·have u:∀d,gW ((T.wy.set n (pW _ c v)).getD m []) d=gW (T.wy.getD m []) d:=λd=>by rw[fQ _ _ _ _ _ _ i,Zl (λz=>hm z.1)]
     rw[u,u];by_cases b:d=c/\m<wd.length/\W wd m <:+ W wd n/\gW (T.wy.getD m []) c=Y a
     ·rw[Zm b,Zm ⟨b.1,b.2.1,H.below g r hl b.2.1 b.2.2.1 hm,b.2.2.2⟩]
     ·rw[Zl b,Zl λz=>b ⟨z.1,z.2.1,z.2.2.1.trans o,z.2.2.2⟩]
  ·rw[Zl p];refine⟨_,rfl,rfl,λm d=>?_⟩;rw[Zl λz=>p (mono m n z.2.1 g z.2.2.1 (Z7 _) z.2.2.2)]
def I.Sd(H:I fr S nd wd){c v:Nat}:∀(k:Nat)(T:St)(n:Nat),n<wd.length->Y n≠fr->(W wd n).length<k->(∀m,m<wd.length->W wd m <:+ W wd n->T.lk.getD m M=S.lk.getD m M)->wd.length<=T.wy.length →
  (∀m g,m<wd.length->g<wd.length->W wd m <:+ W wd g->W wd g <:+ W wd n->(gW (T.wy.getD g []) c).isSome->(gW (T.wy.getD m []) c).isSome) →
  ∃u o,up1 c v k T (Y n)=Y (⟨T.lg,T.lk,u⟩,o)/\u.length=T.wy.length/\(∀m d,gW (u.getD m []) d=if d=c/\m<wd.length/\W wd m <:+ W wd n/\gW (T.wy.getD m []) c=M then Y v else gW (T.wy.getD m []) d) ∧
   (o=M->∀m,m<wd.length->W wd m <:+ W wd n->gW (T.wy.getD m []) c=M) ∧
   ∀p,o=Y p->p<wd.length/\W wd p <:+ W wd n/\(gW (T.wy.getD p []) c).isSome/\∀m,m<wd.length->W wd m <:+ W wd n->(W wd p).length<(W wd m).length->gW (T.wy.getD m []) c=M:=by
 intro k
 induction k with
 |zero=>intro T n _ _ h;lia
 |succ k R =>
  intro T n b j hk E hw mono;have l:=Zc b hw;unfold up1;by_cases i:(gW (T.wy.getD n []) c).isSome=J
  ·rw[Zm i];refine⟨_,_,rfl,rfl,λm d=>?_,(λh=>nomatch h),λp r=>?_⟩
   ·rw[Zl λz=>?_];have:=mono m n z.2.1 b z.2.2.1 (Z7 _) i;rw[z.2.2.2]at this;cases this
   ·cases r;refine⟨b,Z7 _,i,λm hm a hl=>?_⟩;have:=a.length_le;lia
  ·have w:gW (T.wy.getD n []) c=M:=by
    cases h:gW _ c with
    |none=>rfl
    |some x=>rw[h]at i;exact absurd L i
   rw[Zl i,E n b (Z7 _)];cases hl:S.lk.getD n _ with
   |none =>
    refine⟨_,M,by cases k<;>rfl,ZF,λm d=>?_,λ_ m hm a=>?_,(λp r=>nomatch r)⟩
    ·rw[fQ _ _ _ _ _ _ l];by_cases hm:m=n/\d=c
     ·simp_all
     ·rw[Zl hm,Zl λz=>hm ⟨H.root b j hl z.2.1 z.2.2.1,z.1⟩]
    ·rw[H.root b j hl hm a];exact w
   |some q =>
    refine L2.ah λP_ Q=>?_;obtain⟨l1,P,t,O⟩:=H.low j hl (H.top b);have ne:∀m,W wd m <:+ W wd q->m≠n:=λm hm e=>by
     rw[e]at hm;have:=hm.length_le;lia
    obtain⟨u,o,e1,e2,e3,e4,X⟩:=R ⟨_,_,T.wy.set n (pW _ c v)⟩ q P O (by lia) (λm hm a=>E m hm (a.trans t)) (by rw[ZF];exact hw) (λm g hm LZ a y h=>by
     have B:=h;rw[fQ _ _ _ _ _ _ l,Zl (λz=>ne g y z.1)]at B;rw[fQ _ _ _ _ _ _ l,Zl (λz=>ne m (a.trans y) z.1)];exact mono m g hm LZ a (y.trans t) B)
    refine Q ?_;have old:∀m,W wd m <:+ W wd q->gW ((T.wy.set n (pW _ c v)).getD m []) c=gW (T.wy.getD m []) c:=λm hm=>by rw[fQ _ _ _ _ _ _ l,Zl (λz=>ne m hm z.1)]
    refine⟨_,o,e1,by rw[e2];exact ZF,λm d=>?_,λU m hm a=>?_,λp r=>?_⟩
    ·rw[e3 m d];by_cases hm:m=n
     ·subst hm;rw[Zl (λz=>ne m z.2.2.1 L),fQ _ _ _ _ _ _ l]
      simp_all
     ·have C:∀d,gW ((T.wy.set n (pW _ c v)).getD m []) d=gW (T.wy.getD m []) d:=λd=>by rw[fQ _ _ _ _ _ _ l,Zl (λz=>hm z.1)]
      rw[C,C];by_cases f:d=c/\m<wd.length/\W wd m <:+ W wd n/\gW (T.wy.getD m []) c=M
      ·rw[Zm f,Zm ⟨f.1,f.2.1,H.below b j hl f.2.1 f.2.2.1 hm,f.2.2.2⟩]
      ·rw[Zl f,Zl λz=>f ⟨z.1,z.2.1,z.2.2.1.trans t,z.2.2.2⟩]
    ·by_cases s:m=n
     ·rw[s];exact w
     ·have hb:=H.below b j hl hm a s;rw[← old m hb];exact e4 U m hm hb
    ·obtain⟨N,A,G,F⟩:=X p r;have D:=G;rw[old p A]at D;refine⟨N,A.trans t,D,λm hm a La=>?_⟩;by_cases s:m=n
     ·rw[s];exact w
     ·have hb:=H.below b j hl hm a s;rw[← old m hb];exact F m hm hb La
end
def Fh(g:97<=c/\c<=122):∀(k:Nat)(S a:St)(o:Option Nat),WF S->v<S.lg.length->QK c b v k S o=Y a->WF a:=by
 intro k
 induction k with
 |zero =>
  intro S a o H d e;cases o with
  |none=>cases (e);exact H
  |some n=>cases e
 |succ k f =>
  intro S a o H d e;cases o with
  |none=>cases (e);exact H
  |some n =>
   unfold QK at e;split at e
   ·exact f _ a _ (H.way (n:=n) d g) d e
   ·cases e;exact H
def Hb(g:97<=c/\c<=122):∀(k:Nat)(S a:St)(o b:Option Nat),WF S->v<S.lg.length->up1 c v k S o=Y (a,b)->WF a:=by
 intro k
 induction k with
 |zero =>
  intro S a o b H d e;cases o with
  |none=>cases (e);exact H
  |some n=>cases e
 |succ k f =>
  intro S a o b H d e;cases o with
  |none=>cases (e);exact H
  |some n =>
   unfold up1 at e;split at e
   ·cases e;exact H
   ·exact f _ a _ b (H.way (n:=n) d g) d e
def iQ{α:Type}{x y:List α}{a b:α}(h:x++[a] <:+ y++[b]):a=b/\x <:+ y:=by
 obtain⟨t,e⟩:=h;rw[← Yu]at e;obtain⟨e1,e2⟩:=List.append_inj' e L;exact⟨by simpa using e2,⟨t,e1⟩⟩
def hV{α:Type}{x y:List α}(a:α)(h:x <:+ y):x++[a] <:+ y++[a]:=by
 obtain⟨t,e⟩:=h;exact⟨t,by rw[← e,Yu]⟩
noncomputable def iO(b:Wd->Option Nat)(a l h:Nat)(x:Wd):Option Nat:=if b x=Y a/\x.length<=l then Y h else b x
theorem I.split(H:I N S j b)(D:n<b.length)(hf:Y n≠N)(hc:97<=c/\c<=122)(ho:gW (S.wy.getD n []) c=Y a)(RR:Y a≠N)(MB:N≠Y b.length)(Li:S.lg.getD a 0≠S.lg.getD n 0+1)(hk:(W b n).length<1000) :
  ∃S',QV S n c=Y (S',S.lg.length)/\I N S' (iO j a ((W b n).length+1) b.length) (b++[W b n++[c]]):=by
 have E:=H.len.symm;have hw:=H.way D ho;have hold:=H.lt hw;have s:=H.sf hw;have lw:(W b n++[c]).length=(W b n).length+1:=by rw[Zp];rfl
 rw[H.lg _ hold,H.lg n D]at Li;have La:(W b n).length+1<(W b a).length:=by
  have:=s.length_le;rw[lw]at this;lia
 have U:a≠0:=λe=>by
  rw[e,H.wz]at La;simp at La
 have Uu:0<b.length:=by rw[H.len];exact H.wf.pos
 have l1:S.lk.length=b.length:=by rw[H.wf.lk,E]
 have l2:S.wy.length=b.length:=by rw[H.wf.wy,E]
 have QZ:∀m,((S.lk++[S.lk.getD _ M]).set _ (Y S.lg.length)).getD m _=if m=a then Y _ else if m=b.length then S.lk.getD a _ else S.lk.getD m M:=λm=>by
  rw[g6,bR,l1,E];by_cases h:m=a
  ·rw[Zm ⟨h.symm,by rw[Zp,l1];lia⟩,Zm h]
  ·rw[Zl (λz=>h z.1.symm),Zl h]
 have NL:∀m,(S.wy++[S.wy.getD _ []]).getD m []=if m=b.length then S.wy.getD a [] else S.wy.getD m []:=λm=>by rw[bR,l2]
 have OK:∀m,m<b.length->(S.wy++[S.wy.getD _ []]).getD m []=S.wy.getD m []:=λm hm=>by rw[NL,Zl (Zi hm)]
 obtain⟨w2,e1,e2,e3⟩:=H.Sb (c:=c) (v:=S.lg.length) _ ⟨S.lg++[S.lg.getD n 0+1],_,S.wy++[S.wy.getD _ []]⟩ n D hf hk (λm hm X=>by
   have:=X.length_le;rw[QZ,Zl (λe=>by rw[e]at this;lia),Zl (Zi hm)])
  (by rw[Zp,l2];exact Xq _ _)
  (λm t hm A X LS h=>by
   have w:=h;rw[OK m hm]at w;rw[OK t A,H.wy (H.top A) c];rw[H.wy (H.top hm) c]at w;exact H.iv w (hV c X) ((hV c LS).trans s))
 have wn:=H.wf.S8 a;have W1:=H.wf.more (l:=S.lg.getD n 0+1) (λm hm=>H.wf.up a m hm) (λd m hm=>H.wf.on _ d m hm) wn.1 wn.2;have hlen:(S.lg++[S.lg.getD n 0+1]).length=S.lg.length+1:=by rw[Zp];rfl
 have W2:=W1.link (n:=a) (v:=S.lg.length) (by lia);have V0:=Fh hc _ _ _ _ W2 (by lia) e1;refine⟨⟨S.lg++[S.lg.getD n 0+1],(S.lk++[S.lk.getD a M]).set a (Y S.lg.length),w2⟩,?_,?_⟩
 ·unfold QV;rw[ho,Zq,Zl (by rw[H.lg a hold,H.lg n D];exact Li),e1];rfl
 have Wn:∀m,W (b++[W b n++[c]]) m=if m=b.length then W b n++[c] else W b m:=λm=>bR b _ _ m
 have p:W (b++[W b n++[c]]) b.length=W b n++[c]:=by rw[Wn,Zm L]
 have f:∀{m},m<b.length->W _ m=W b m:=λ{m} hm=>by rw[Wn,Zl (Zi hm)]
 have cY:(b++[W b n++[c]]).length=b.length+1:=by rw[Zp];rfl
 have tell:∀{x m},iO j _ _ b.length x=Y m->(m=b.length/\j x=Y a/\x.length<=(W b n).length+1)\/(m<b.length/\j x=Y m/\¬(m=a/\x.length<=(W b n).length+1)):=λ{x m} h=>by
  unfold iO at h;split at h
  ·rename_i q;cases h;exact .inl ⟨rfl,q.1,q.2⟩
  ·rename_i q;exact .inr ⟨H.lt h,h,λz=>q ⟨by rw[h,z.1],z.2⟩⟩
 have Q:∀{x},j x=Y a->x.length<=(W b n).length+1->iO j a ((W b n).length+1) b.length x=Y b.length:=λ{x} u h2=>Zm ⟨u,h2⟩;have F:∀{x m},j x=Y m->¬(m=a/\x.length<=(W b n).length+1)->iO j a ((W b n).length+1) b.length x=Y m:=λ{x m} u h2=>by
  unfold iO;rw[Zl (λz=>h2 ⟨by rw[u]at z;exact ZX z.1,z.2⟩),u]
 have QP:∀{x m},j x=Y m->∃t,iO j a ((W b n).length+1) b.length x=Y t:=λ{x m} h=>by
  unfold iO;split
  ·exact⟨_,rfl⟩
  ·exact⟨m,h⟩
 have un:∀{x m},iO j a _ _ x=Y m->∃t,j x=Y t:=λ{x m} h=>(tell h).elim (λz=>⟨_,z.2.1⟩) λz=>⟨_,z.2.1⟩
 refine⟨V0,by rw[cY,hlen,E],λm hm=>?_,F H.z (λz=>U z.1.symm),by rw[f Uu];exact H.wz,λ{x m} h=>by rcases tell h with z | z<;>lia,λ{x m} h=>?_,λ{m} hm=>?_,λ{x y m} h O g=>?_,λ{x d m} h=>?_,λ{x y m} h O=>?_,?_,λ{m} h0 hm hmf=>?_,λ{x m} h d=>?_⟩
 ·rw[cY]at hm;rw[bR,E];by_cases e:m=b.length
  ·rw[Zm e,e,p,H.lg n D,lw]
  ·rw[Zl e,f (by lia),H.lg m (by lia)]
 ·rcases tell h with⟨rfl,i,B⟩ | ⟨C,i,_⟩
  ·rw[p];exact cJ (H.sf i) s (by rw[lw];exact B)
  ·rw[f C];exact H.sf i
 ·rw[cY]at hm;by_cases e:m=b.length
  ·rw[e,p];exact Q hw (by rw[lw];exact Zn _)
  ·rw[f (by lia)];exact F (H.top (by lia)) (λz=>by have:=z.2;rw[z.1]at this;lia)
 ·rcases tell h with⟨rfl,i,B⟩ | ⟨C,i,B⟩
  ·rw[p]at g;have:=g.length_le;rw[lw]at this;exact Q (H.iv i O (g.trans s)) this
  ·rw[f C]at g;exact F (H.iv i O g) (λz=>B ⟨z.1,ZW O.length_le z.2⟩)
 ·obtain⟨t,w⟩:=un h;obtain⟨q,o⟩:=H.pre w;exact QP o
 ·obtain⟨t,w⟩:=un h;obtain⟨q,o⟩:=H.PF w O;exact QP o
 ·rw[QZ,Zl (Z9 U),Zl (by exact Zi Uu)];exact H.QY
 ·rw[cY]at hm;show ∃q,((S.lk++[S.lk.getD a M]).set a (Y S.lg.length)).getD m M=Y q/\_;rw[QZ,cY];refine L2.ah λP_ G=>?_;obtain⟨q,q1,⟨P,WA⟩,q3,q4,q5⟩:=H.lk (Ys U) hold RR;obtain⟨lo,_⟩:=H.low RR q1 hw;refine G ?_;rw[lw]at lo;by_cases e:m=a
  ·subst e;rw[Zm L];refine⟨b.length,rfl,⟨by exact Yp _,λz=>MB z.symm⟩,?_,?_,λy g hl=>?_⟩
   ·rw[p,f hold];exact s
   ·rw[p,f hold,lw];exact La
   ·rw[p,lw]at hl;rw[f hold]at g;exact F (H.iv hw (cJ s g (by rw[lw];exact YQ hl)) g) (λz=>by have:=z.2;lia)
  ·rw[Zl e];by_cases eL:m=b.length
   ·subst eL;rw[Zm L,q1];refine⟨q,rfl,⟨by exact Z2 P,WA⟩,?_,?_,λy g hl=>?_⟩
    ·rw[p,f P];exact cJ q3 s (by rw[lw];exact YQ lo)
    ·rw[p,f P,lw];exact lo
    ·rw[p]at g;rw[f P]at hl;have:=g.length_le;rw[lw]at this;exact Q (q5 y (g.trans s) hl) this
   ·rw[Zl eL];have A:m<b.length:=by lia
    refine L2.ah λP_ G=>?_;obtain⟨r,r1,⟨r2,R⟩,r3,r4,r5⟩:=H.lk h0 A hmf;refine G ?_;rw[r1];refine⟨r,rfl,⟨by exact Z2 r2,R⟩,by rw[f r2,f A];exact r3,by rw[f r2,f A];exact r4,λy g hl=>?_⟩;rw[f A]at g;rw[f r2]at hl;exact F (r5 y g hl) (λz=>e z.1)
 ·rw[e3 m d];rcases tell h with⟨rfl,i,B⟩ | ⟨C,i,B⟩
  ·rw[Zl (λz=>YN _ z.2.1),NL,Zm L,H.wy i d];unfold iO;rw[Zl];intro z;have u:=z.1;rw[← H.wy i d,H.wy (H.top hold) d]at u;have:=(H.sf u).length_le;rw[Zp,ZN]at this;lia
  ·rw[OK m C,H.wy i c,H.wy i d];unfold iO;by_cases o:j (x++[d])=Y a/\(x++[d]).length<=(W b n).length+1
   ·refine L2.ah λP_ G=>?_;obtain⟨rfl,hx⟩:=iQ (cJ (H.sf o.1) s (by rw[lw];exact o.2));obtain⟨t,m1,m2⟩:=H.UX D hf hx;rw[i]at m1;cases m1;refine G ?_;rw[Zm ⟨rfl,C,m2,o.1⟩,Zm o,E]
   ·rw[Zl o,Zl];rintro⟨rfl,_,a3,a4⟩;refine o ⟨a4,?_⟩;have b1:=(H.sf i).length_le;have b2:=a3.length_le;rw[Zp,ZN];lia
end AU
end
section
namespace AU
open Classical in
noncomputable def iH(a:Wd->Option Nat)(w:Wd)(f:Nat)(x:Wd):Option Nat:=match a x with
 |some m=>Y m
 |none=>if x <:+ w then Y f else M
def du(h:a x=Y m):iH a w f x=Y m:=by
 unfold iH;rw[h]
def gm(h:a x=M)(b:x <:+ w):iH a w f x=Y f:=by
 unfold iH;rw[h];exact Zm b
def cH(h:iH a w f x=Y m):a x=Y m\/(m=f/\a x=M/\x <:+ w):=by
 unfold iH at h;grind
def Bb{α:Type}{y t:List α}{c:α}(h:y <:+ t++[c])(d:y≠[]):∃a,y=a++[c]/\a <:+ t:=by
 rcases List.eq_nil_or_concat y with e | ⟨a,b,e⟩
 ·exact absurd e d
 ·rw[List.concat_eq_append]at e;subst e;obtain⟨e1,e2⟩:=iQ h
  simp_all
section
def I.fresh(H:I M S nd wd){c:Nat}(s:h<wd.length)(hc:97<=c/\c<=122)(hn:gW (S.wy.getD h []) c=M)(hk:(W wd h).length<1000) :
  ∃B t,up1 c S.lg.length 1000 ⟨S.lg++[S.lg.getD h 0+1],S.lk++[Y 0],S.wy++[[]]⟩ (Y h)=Y (B,t)/\I (Y wd.length) B (iH nd (W wd h++[c]) wd.length) (wd++[W wd h++[c]])/\B.lk.getD wd.length M=Y 0/\B.lg.length=S.lg.length+1 ∧
   (∀m,m<wd.length->(gW (S.wy.getD m []) c).isSome->gW (B.wy.getD m []) c=gW (S.wy.getD m []) c) ∧
   (t=M->∀m,m<wd.length->W wd m <:+ W wd h->gW (S.wy.getD m []) c=M) ∧
   ∀p,t=Y p->p<wd.length/\W wd p <:+ W wd h/\(gW (S.wy.getD p []) c).isSome/\∀m,m<wd.length->W wd m <:+ W wd h->(W wd p).length<(W wd m).length->gW (S.wy.getD m []) c=M:=by
 have A:=H.len.symm;have l1:S.lk.length=wd.length:=by rw[H.wf.lk,A]
 have l2:S.wy.length=wd.length:=by rw[H.wf.wy,A]
 have Uu:0<wd.length:=by rw[H.len];exact H.wf.pos
 have G:∀m,(S.lk++[Y 0]).getD m M=if m=wd.length then Y 0 else S.lk.getD m _:=λm=>by rw[bR,l1]
 have NL:∀m,(S.wy++[[]]).getD m []=if m=wd.length then [] else S.wy.getD m []:=λm=>by rw[bR,l2]
 have n:∀m,m<wd.length->(S.wy++[[]]).getD m []=S.wy.getD m []:=λm hm=>by rw[NL,Zl (Zi hm)]
 obtain⟨w2,t,e1,e2,e3,e4,e5⟩:=H.Sd (c:=c) (v:=S.lg.length) _ ⟨_,_,S.wy++[[]]⟩ h s (λz=>nomatch z) hk (λm hm _=>by
   rw[G,Zl (Zi hm)])
  (by simp_all)
  (λm X hm i f LS q=>by
   have R:=q;rw[n X i,H.wy (H.top i) c]at R;rw[n m hm,H.wy (H.top hm) c];obtain⟨r,b⟩:=Yw.mp R;obtain⟨Q,O⟩:=H.PF b (hV c f);rw[O];rfl)
 have hlen:(S.lg++[S.lg.getD h 0+1]).length=S.lg.length+1:=by rw[Zp];rfl
 have V0:=Hb hc _ _ _ _ _ (H.wf.more (l:=S.lg.getD h 0+1) (o:=Y 0) (w:=[]) (λm hm=>by cases hm;exact H.wf.pos) (λd m hm=>by cases hm) Z3 (λp P=>nomatch P)) (by lia) e1;have lw:(W wd h++[c]).length=(W wd h).length+1:=by rw[Zp];rfl
 have Wn:∀m,W _ m=if m=wd.length then W wd h++[c] else W wd m:=λm=>bR wd _ _ m
 have F:W (wd++[W wd h++[c]]) wd.length=W wd h++[c]:=by rw[Wn,Zm L]
 have g:∀{m},m<wd.length->W _ m=W wd m:=λ{m} hm=>by rw[Wn,Zl (Zi hm)]
 have cY:(wd++[W wd h++[c]]).length=wd.length+1:=by rw[Zp];rfl
 refine⟨_,t,e1,?_,by rw[G,Zm L],hlen,λm hm f=>?_,λho m hm f=>?_,λp P=>?_⟩
 rotate_left
 ·rw[e3 m c];rw[n m hm,Zl (λz=>by rw[z.2.2.2]at f;cases f)]
 ·have:=e4 ho m hm f;have D:=this;rw[n m hm]at D;exact D
 ·obtain⟨U,p2,p3,p4⟩:=e5 p P;have TF:=p3;rw[n p U]at TF;refine⟨U,p2,TF,λm hm f hl=>?_⟩;have:=p4 m hm f hl;have D:=this;rw[n m hm]at D;exact D
 refine⟨V0,by rw[cY];rw[hlen,A],λm hm=>?_,du H.z,by rw[g Uu];exact H.wz,λ{x m} q=>?_,λ{x m} q=>?_,λ{m} hm=>?_,λ{x y m} q C j=>?_,λ{x d m} q=>?_,λ{x y m} q C=>?_,?_,λ{m} h0 hm hmf=>?_,λ{x m} q d=>?_⟩
 ·rw[cY]at hm;rw[bR,A];by_cases e:m=wd.length
  ·rw[Zm e,e,F,H.lg h s,lw]
  ·rw[Zl e,g (by lia),H.lg m (by lia)]
 ·rw[cY];rcases cH q with z | z
  ·have:=H.lt z;exact Z2 this
  ·lia
 ·rcases cH q with z | ⟨rfl,_,z⟩
  ·rw[g (H.lt z)];exact H.sf z
  ·rw[F];exact z
 ·rw[cY]at hm;by_cases e:m=wd.length
  ·rw[e,F];exact gm (by rw[← H.wy (H.top s) c];exact hn) (Z7 _)
  ·rw[g (by lia)];exact du (H.top (by lia))
 ·rcases cH q with z | ⟨rfl,E,z2⟩
  ·rw[g (H.lt z)]at j;exact du (H.iv z C j)
  ·rw[F]at j;refine gm ?_ j;cases e:nd y with
   |none=>rfl
   |some r =>
    obtain⟨Q,b⟩:=H.PF e C;rw[E]at b;cases b
 ·rcases cH q with z | ⟨_,_,z⟩
  ·obtain⟨r,b⟩:=H.pre z;exact⟨r,du b⟩
  ·obtain⟨_,u⟩:=iQ z;obtain⟨r,b⟩:=H.PF (H.top s) u;exact⟨r,du b⟩
 ·rcases cH q with z | ⟨_,_,z⟩
  ·obtain⟨r,b⟩:=H.PF z C;exact⟨r,du b⟩
  ·cases e:nd x with
   |none=>exact⟨_,gm e (C.trans z)⟩
   |some r=>exact⟨r,du e⟩
 ·rw[G,Zl (by exact Zi Uu)];exact H.QY
 ·rw[cY]at hm;have i:m<wd.length:=by
   grind
  show ∃q,(S.lk++[Y 0]).getD m M=Y q/\_;rw[G,Zl (Zi i),cY];refine L2.ah λP_ N=>?_;obtain⟨r,r1,⟨r2,_⟩,r3,r4,r5⟩:=H.lk h0 i (λz=>nomatch z);refine N ?_;refine⟨r,r1,⟨by exact Z2 r2,λz=>?_⟩,by rw[g r2,g i];exact r3,by rw[g r2,g i];exact r4,λy j hl=>?_⟩
  ·grind
  ·rw[g i]at j;rw[g r2]at hl;exact du (r5 y j hl)
 ·rw[e3 m d];rcases cH q with z | ⟨rfl,E,z2⟩
  ·have hm:=H.lt z;rw[n m hm,H.wy z c,H.wy z d];cases e:nd (x++[d]) with
   |some r =>
    rw[du e,Zl];grind
   |none =>
    by_cases f:x++[d] <:+ W wd h++[c]
    ·refine L2.ah λP_ N=>?_;obtain⟨rfl,u⟩:=iQ f;obtain⟨X,m1,m2⟩:=H.UX s (λz=>nomatch z) u;rw[z]at m1;cases m1;refine N ?_;rw[gm e f,Zm ⟨rfl,hm,m2,e⟩,A]
    ·have:iH nd (W wd h++[c]) wd.length (x++[d])=M:=by
      unfold iH;rw[e];exact Zl f
     rw[this,Zl];rintro⟨rfl,_,a,_⟩;exact f (hV d ((H.sf z).trans a))
  ·rw[Zl (λa=>YN _ a.2.1),NL,Zm L];have e:nd (x++[d])=M:=by
    cases e:nd _ with
    |none=>rfl
    |some r =>
     obtain⟨Q,b⟩:=H.pre e;rw[E]at b;cases b
   have:iH nd (W wd h++[c]) wd.length (x++[d])=M:=by
    unfold iH;rw[e];refine Zl λf=>?_;obtain⟨_,u⟩:=iQ f;obtain⟨r,b⟩:=H.PF (H.top s) u;rw[E]at b;cases b
   rw[this];rfl
def I.fix{f m:Nat}(H:I (Y f) S nd wd)(j:f<wd.length)(b:m<wd.length)(h:W wd m <:+ W wd f)(a:(W wd m).length<(W wd f).length)(g:∀y,y <:+ W wd f->(W wd m).length<y.length->nd y=Y f):I M ⟨S.lg,S.lk.set f (Y m),S.wy⟩ nd wd:=by
 refine⟨H.wf.link (by rw[← H.len];exact b),H.len,H.lg,H.z,H.wz,H.lt,H.sf,H.top,H.iv,H.pre,H.PF,?_,λ{n} h0 i _=>?_,H.wy⟩
 ·rw[g6,Zl (λz=>(λe=>by
  rw[e,H.wz]at a;simp at a) z.1)]
  exact H.QY
 ·show ∃q,(S.lk.set f _).getD n _=Y q/\_;rw[g6];by_cases e:f=n
  ·subst e;rw[Zm ⟨rfl,(by rw[H.wf.lk,← H.len];exact j)⟩];exact⟨m,rfl,⟨b,λz=>nomatch z⟩,h,a,g⟩
  ·rw[Zl (λz=>e z.1)];obtain⟨r,r1,⟨r2,_⟩,d⟩:=H.lk h0 i (λz=>e (ZX z).symm);exact⟨r,r1,⟨r2,λz=>nomatch z⟩,d⟩
end
end AU
end
section
namespace AU
structure UR(nd Lu:Wd->Option Nat)(w:Wd):Prop where
 eq:∀{x y m n},Lu x=some m->Lu y=some n->(m=n↔nd x=nd y/\(x <:+ w↔y <:+ w))
section
def I.TX(H:I fr S nd wd){n c:Nat}(p:n<wd.length)(O:Y n≠fr)(P:97<=c/\c<=122)(o:gW (S.wy.getD n []) c=Y a)(i:Y a≠fr)(j:fr≠Y wd.length)(G:(W wd n).length<1000) :
  ∃g r l K6,QV S n c=Y (g,r)/\I fr g l K6/\r<K6.length/\Y r≠fr/\W K6 r=W wd n++[c]/\(∀m,m<wd.length->W K6 m=W wd m)/\wd.length<=K6.length/\K6.length<=wd.length+1 ∧
   (∀x,(∃m,l x=Y m) ↔ ∃m,nd x=Y m)/\UR nd l (W wd n++[c])/\∀x f,f≠a->nd x=Y f->l x=Y f:=by
 have hw:=H.way p o;have hold:=H.lt hw;have C:=H.sf hw;have lw:(W wd n++[c]).length=(W wd n).length+1:=by rw[Zp];rfl
 by_cases s:S.lg.getD a 0=S.lg.getD n 0+1
 ·have d:W wd a=W wd n++[c]:=by
   have:=s;rw[H.lg _ hold,H.lg n p]at this;exact(C.eq_of_length (by rw[lw,this])).symm
  refine⟨S,_,nd,wd,?_,H,hold,i,d,λm _=>rfl,Zn _,YW _,λx=>Iff.rfl,⟨λ{x y m k} e b=>?_⟩,λx f _ h=>h⟩
  ·unfold QV;rw[o,Zq,Zm s]
  ·constructor
   ·rintro rfl;exact⟨by rw[e,b],λh=>by rw[← d]at h ⊢;exact H.all hold i e b h,λh=>by rw[← d]at h ⊢;exact H.all hold i b e h⟩
   simp_all
 ·obtain⟨g,e1,t⟩:=H.split p O P o i j s G;have B:W _ _=W wd n++[c]:=(bR wd _ _ _).trans (Zm L);have cY:(wd++[W wd n++[c]]).length=wd.length+1:=by rw[Zp];rfl
  have inv:∀{x m},iO nd a ((W wd n).length+1) wd.length x=Y m->(m=wd.length/\nd x=Y a/\x.length<=(W wd n).length+1)\/nd x=Y m:=λ{x m} h=>by
   unfold iO at h;split at h
   ·simp_all
   ·exact .inr h
  have F:∀{x},nd x=Y _->(x.length<=(W wd n).length+1↔x <:+ W wd n++[c]):=λ{x} h=>⟨λhl=>cJ (H.sf h) C (by rw[lw];exact hl),λu=>by have:=u.length_le;rw[lw]at this;exact this⟩
  refine⟨g,_,_,_,e1,t,by rw[cY,← H.len];exact Yp _,by rw[← H.len];exact λz=>j z.symm,by rw[← H.len];exact B,(λm hm=>(bR wd _ _ m).trans (Zl (Zi hm))),by lia,by exact X8 cY,λx=>⟨λ⟨m,h⟩=>(inv h).elim (λz=>⟨_,z.2.1⟩) λz=>⟨_,z⟩,λ⟨m,h⟩=>?_⟩,⟨λ{x y m k} e b=>?_⟩,λx f N h=>?_⟩
  ·unfold iO;split
   ·exact⟨_,rfl⟩
   ·exact⟨m,h⟩
  ·constructor
   ·rintro rfl;have v:wd.length<(wd++[W wd n++[c]]).length:=by lia
    have A:=λh=>t.all v (λz=>j z.symm) e b h;have w:=λh=>t.all v (λz=>j z.symm) b e h;rw[B]at A w;refine⟨?_,A,w⟩;rcases inv e with⟨Q,D,_⟩ | z
    ·rcases inv b with⟨_,E,_⟩ | y
     ·rw[D,E]
     ·have:=H.lt y;lia
    ·rcases inv b with⟨R,_,_⟩ | y
     ·have:=H.lt z;lia
     ·rw[z,y]
   ·rintro⟨h,u⟩;have:iO nd a ((W wd n).length+1) wd.length x=iO nd a ((W wd n).length+1) wd.length y:=by
     unfold iO;rw[h];by_cases q:nd y=Y a
     ·simp_all
     simp_all
    simp_all
  ·unfold iO
   simp_all
end
section
def I.step(H:I M S nd wd)(E:h<wd.length)(hc:97<=c/\c<=122)(hk:(W wd h).length+1<1000) :
  ∃S' r O K6,hb S h c=Y (S',r)/\I M S' O K6/\r<K6.length/\W K6 r=W wd h++[c]/\(∀m,m<wd.length->W K6 m=W wd m)/\wd.length<=K6.length/\K6.length<=wd.length+2 ∧
   (∀x,(∃m,O x=Y m)↔(∃m,nd x=Y m)\/x <:+ W wd h++[c])/\UR nd O (W wd h++[c]):=by
 cases hg:gW _ c with
 |some old =>
  refine L2.ah λP_ A=>?_;obtain⟨S',r,O,K6,e,H',h1,_,h2,h3,h4,h5,h6,h7,_⟩:=H.TX E (λz=>nomatch z) hc hg (λz=>nomatch z) (λz=>nomatch z) (by exact Nat.lt_of_succ_lt hk);refine A ?_;refine⟨S',r,_,_,?_,H',h1,h2,h3,h4,by exact WW h5,λx=>(h6 x).trans ⟨.inl,λz=>z.elim id λz=>H.PF (H.way E hg) z⟩,h7⟩;unfold hb;rw[hg];exact e
 |none =>
  have F:=H.len.symm;refine L2.ah λP_ A=>?_;obtain⟨j,o',e1,t,k0,k1,k2,k3,k4⟩:=H.fresh E hc hg (by exact Nat.lt_of_succ_lt hk);refine A ?_;have WL:W _ _=W wd h++[c]:=(bR wd _ _ _).trans (Zm L);have Wl:∀m,m<wd.length->W (wd++[W wd h++[c]]) m=W wd m:=λm hm=>(bR wd _ _ m).trans (Zl (Zi hm));have cY:(wd++[W wd h++[c]]).length=wd.length+1:=by rw[Zp];rfl
  have lw:(W wd h++[c]).length=(W wd h).length+1:=by rw[Zp];rfl
  have ex:∀x,(∃m,iH nd _ wd.length x=Y m)↔(∃m,nd x=Y m)\/x <:+ W wd h++[c]:=λx=>⟨λ⟨m,q⟩=>(cH q).elim (λz=>.inl ⟨_,z⟩) λz=>.inr z.2.2,λq=>by
   cases e:nd x with
   |some m=>exact⟨m,du e⟩
   |none=>exact q.elim (λ⟨m,z⟩=>by rw[e]at z;cases z) λz=>⟨_,gm e z⟩⟩
  have same:∀{x y m n},iH nd (W wd h++[c]) wd.length x=Y m->iH nd (W wd h++[c]) wd.length y=Y n->(m=n↔nd x=nd y):=λ{x y m n} q1 g=>by
   rcases cH q1 with z | ⟨z1,z2,_⟩
   ·rcases cH g with i | ⟨y1,y2,_⟩
    ·simp_all
    ·have:=H.lt z;grind
   ·rcases cH g with i | ⟨y1,y2,_⟩
    ·have:=H.lt i;grind
    ·exact⟨λ_=>by rw[z2,y2],λ_=>by rw[z1,y1]⟩
  have QM:∀{y},y <:+ W wd h++[c]->y≠[]->∀{q},nd y=Y q->∃i m,y=i++[c]/\i <:+ W wd h/\nd i=Y m/\m<wd.length/\W wd m <:+ W wd h/\(gW (S.wy.getD m []) c).isSome:=λ{y} d Li {q} R=>by
   obtain⟨i,rfl,C⟩:=Bb d Li;obtain⟨m,m1,m2⟩:=H.UX E (λz=>nomatch z) C;exact⟨i,m,rfl,C,m1,H.lt m1,m2,by rw[H.wy m1 c,R];rfl⟩
  unfold hb;rw[hg,Zl (by simp),e1];cases o' with
  |none =>
   have none_:∀{y},y <:+ W wd h++[c]->y≠[]->nd y=M:=λ{y} d Li=>by
    cases e:nd y with
    |none=>rfl
    |some q =>
     obtain⟨i,m,_,_,_,m3,m4,w⟩:=QM d Li e;rw[(k3 L) m m3 m4]at w;cases w
   have H3:=t.fix (m:=0) (by lia) (by lia) (by rw[t.wz];exact Xg) (by rw[t.wz,WL,lw];exact Nat.succ_pos _) (λy d hl=>by
    rw[WL]at d;rw[t.wz]at hl;exact gm (none_ d (λe=>by rw[e]at hl;cases hl)) d)
   have eS:(⟨j.lg,j.lk.set wd.length (Y 0),j.wy⟩:St)=j:=by
    have hl:wd.length<j.lk.length:=by rw[t.wf.lk,← t.len,cY];exact Yp _
    have:j.lk.set wd.length (Y 0)=j.lk:=by
     rw[Zo,Zr hl,Xu]at k0;rw[← k0];exact XW hl
    rw[this]
   rw[eS]at H3;refine⟨j,_,_,_,rfl,H3,by rw[cY,F];exact Yp _,by rw[F];exact WL,Wl,by lia,by lia,ex,⟨λ{x y m n} q1 g=>?_⟩⟩;rw[same q1 g];refine⟨λe=>⟨e,?_⟩,λe=>e.1⟩;have key:∀{x y m n},iH nd (W wd h++[c]) wd.length x=Y m->iH nd _ wd.length y=Y n->nd x=nd y->x <:+ W wd h++[c]->y <:+ W wd h++[c]:=λ{x y m n} q1 g e hx=>by
    rcases cH g with z | z
    ·rw[z]at e;by_cases D:x=[]
     ·subst D;rw[H.z]at e;cases e;rw[H.zero z];exact Xg
     ·rw[none_ hx D]at e;cases e
    ·exact z.2.2
   exact⟨key q1 g e,key g q1 e.symm⟩
  |some p =>
   refine L2.ah λP_ A=>?_;obtain⟨u,P,p3,p4⟩:=k4 p L;obtain⟨old,U⟩:=Yw.mp p3;have ho2:gW (j.wy.getD p []) c=Y old:=by rw[k2 p u p3];exact U
   have v:=H.way u U;have hold:=H.lt v;have ph:(W wd p).length<(W wd h).length:=by
    rcases Wh P.length_le with l | l
    ·exact l
    ·have:=H.inj u E (P.eq_of_length l);rw[this,hg]at U;cases U
   obtain⟨S3,r,O,K6,f1,H3,f2,f2',X,f4,f5,f6,f7,f8,f9⟩:=t.TX (n:=p) (c:=c) (by lia) (λz=>by have:=ZX z;lia) hc ho2 (λz=>by have:=ZX z;lia) (λz=>by have:=ZX z;lia) (by rw[Wl p u];lia);refine A ?_;rw[Wl p u]at X f8;have s:(W wd p++[c]).length=(W wd p).length+1:=by rw[Zp];rfl
   have VQ:W K6 wd.length=W wd h++[c]:=by rw[f4 _ (by lia),WL]
   have none_:∀{y},y <:+ W wd h++[c]->(W wd p).length+1<y.length->nd y=M:=λ{y} d hl=>by
    cases e:nd y with
    |none=>rfl
    |some q =>
     obtain⟨i,m,rfl,m1,m2,m3,m4,w⟩:=QM d (λe=>by rw[e]at hl;cases hl) e;have l1:=(H.sf m2).length_le;rw[Zp,ZN]at hl;rw[p4 m m3 m4 (by lia)]at w;cases w
   refine⟨⟨_,S3.lk.set S.lg.length _,_⟩,S.lg.length,_,_,?_,by rw[F];exact(H3.fix (f:=wd.length) (m:=r) (by lia) f2 (by rw[X,VQ];exact hV c P) (by rw[X,VQ,s,lw];exact Nat.succ_lt_succ ph) (λy d hl=>by
    rw[VQ]at d;rw[X,s]at hl;exact f9 y _ (by exact Xs hold) (gm (none_ d hl) d))),by rw[F];lia,by rw[F];exact VQ,λm hm=>by rw[f4 m (by lia),Wl m hm],by lia,by lia,λx=>(f7 x).trans (ex x),⟨λ{x y m n} q1 g=>?_⟩⟩
   ·show (QV j p c).map _=_;rw[f1];rfl
   ·rw[f8.eq q1 g];obtain⟨m1,N⟩:=(f7 x).mp ⟨m,q1⟩;obtain⟨n1,G⟩:=(f7 y).mp ⟨n,g⟩;have e1:iH nd (W wd h++[c]) wd.length x=iH nd (W wd h++[c]) wd.length y↔nd x=nd y:=by
     rw[N,G];exact⟨λe=>(same N G).mp (ZX e),λe=>by rw[(same N G).mpr e]⟩
    rw[e1];have sw:=hV c P;have Q:∀{z q},nd z=Y q->(z <:+ W wd h++[c]↔z <:+ W wd p++[c]):=λ{z q} B=>⟨λa=>cJ a sw (by
     rw[s];refine Z1 λb=>?_;rw[none_ a b]at B;cases B),λa=>a.trans sw⟩
    have un:∀{z q},nd z=M->iH nd (W wd h++[c]) wd.length z=Y q->z <:+ W wd h++[c]/\¬z <:+ W wd p++[c]:=λ{z q} B a=>by
     rcases cH a with b | b
     ·rw[B]at b;cases b
     ·refine⟨b.2.2,λa=>?_⟩;obtain⟨q',R⟩:=H.PF v a;rw[B]at R;cases R
    refine⟨λ⟨a,b⟩=>⟨a,?_⟩,λ⟨a,b⟩=>⟨a,?_⟩⟩
    ·cases o:nd x with
     |some q=>rw[Q o,Q (by rw[← a,o])];exact b
     |none =>
      exact⟨λ_=>(un (show nd y=M by rw[← a,o]) G).1,λ_=>(un o N).1⟩
    ·cases o:nd x with
     |some q=>rw[← Q o,← Q (by rw[← a,o])];exact b
     |none =>
      exact⟨λz=>absurd z (un o N).2,λz=>absurd z (un (show nd y=M by rw[← a,o]) G).2⟩
end
structure K(P:Wd->Prop)(S:St)(nd:Wd->Option Nat)(wd:List Wd):Prop where
 i:I none S nd wd
 nil:P []
 some:∀x,(∃m,nd x=some m) ↔ ∃p,P p/\x <:+ p
 eq:∀{x y m n},nd x=.some m->nd y=.some n->(m=n ↔ ∀p,P p->(x <:+ p↔y <:+ p))
def K.congr(H:K P S b a)(h:∀p,P p↔Q p):K Q S b a:=by
 have:P=Q:=funext λp=>propext (h p);rw[← this];exact H
noncomputable def nd0(x:Wd):Option Nat:=if x=[] then Y 0 else M
def fN(h:nd0 x=Y n):x=[]/\n=0:=by
 unfold nd0 at h;grind
def K0:K (λp=>p=[]) S0 nd0 [[]]:=by
 refine⟨⟨ES,rfl,λn d=>?_,rfl,rfl,λ{x n} h=>?_,λ{x n} h=>?_,λ{n} d=>?_,λ{x y n} h b a=>?_,λ{x c n} h=>?_,λ{x y n} h b=>?_,rfl,λ{n} b a=>?_,λ{x n} h c=>?_⟩,rfl,λx=>?_,λ{x y m n} b a=>?_⟩
 ·have:n=0:=Nat.lt_one_iff.mp d;subst this;rfl
 ·rw[(fN h).2];exact Nat.one_pos
 ·rw[(fN h).1];exact Xg
 ·have:n=0:=Nat.lt_one_iff.mp d;subst this;rfl
 ·have e:=(fN h).2
  simp_all
 ·have:=(fN h).1;exact absurd this (by simp)
 ·have e:=(fN h).1;grind
 ·have:n<1:=a;lia
 ·obtain⟨rfl,rfl⟩:=(fN h)
  rfl
 ·constructor
  ·rintro⟨m,h⟩;exact⟨[],rfl,by rw[(fN h).1];exact Xg⟩
  ·rintro⟨p,rfl,h⟩;have:x=[]:=YH.mp h;subst this;exact⟨0,rfl⟩
 ·obtain⟨rfl,rfl⟩:=fN b;obtain⟨rfl,rfl⟩:=fN a
  simp_all
section
theorem K.step(H:K P S nd wd)(A:h<wd.length)(B:97<=c/\c<=122)(w:(W wd h).length+1<1000) :
  ∃g r l K6,hb S h c=.some (g,r)/\K (λp=>P p\/p=W wd h++[c]) g l K6/\r<K6.length/\W K6 r=W wd h++[c]/\(∀m,m<wd.length->W K6 m=W wd m)/\wd.length<=K6.length/\K6.length<=wd.length+2:=by
 refine L2.ah λO u=>?_;obtain⟨g,r,l,K6,e,N,L,G,F,E,D,o,C⟩:=H.i.step A B w;refine u ?_;refine⟨g,r,_,_,e,⟨N,.inl H.nil,λx=>?_,λ{x y m n} t s=>?_⟩,L,G,F,E,D⟩
 ·rw[o,H.some]
  simp_all
 ·rw[C.eq t s];have un:∀{z q},l z=.some q->nd z=M->z <:+ W wd h++[c]/\∀p,P p->¬z <:+ p:=λ{z q} a b=>⟨((o z).mp ⟨q,a⟩).elim (λ⟨m,x⟩=>by rw[b]at x;cases x) id,λp d v=>by
   obtain⟨m,x⟩:=(H.some z).mpr ⟨p,d,v⟩;rw[b]at x;cases x⟩
  have old:nd x=nd y ↔ ∀p,P p->(x <:+ p↔y <:+ p):=by
   cases ex:nd x with
   |some a =>
    cases f:nd y with
    |some b=>exact⟨λe=>(H.eq ex f).mp (ZX e),λe=>by rw[(H.eq ex f).mpr e]⟩
    |none =>
     refine⟨λe=>(nomatch e),λe=>?_⟩;obtain⟨p,d,j⟩:=(H.some x).mp ⟨a,ex⟩;exact absurd ((e p d).mp j) ((un s f).2 p d)
   |none =>
    cases f:nd y with
    |some b =>
     refine⟨λe=>(nomatch e),λe=>?_⟩;obtain⟨p,d,j⟩:=(H.some y).mp ⟨b,f⟩;exact absurd ((e p d).mpr j) ((un t ex).2 p d)
    |none=>simp_all
  rw[old];constructor
  ·rintro⟨a,b⟩ p (d | rfl)
   ·exact a p d
   ·exact b
  simp_all
end
def K.grow:∀(w:Wa){P:Wd->Prop}{S:St}{nd:Wd->Option Nat}{b:List Wd}(H:K P S nd b){h:Nat},h<b.length->P (W b h)->(∀c∈w,97<=c/\c<=122)->(W b h).length+w.length<1000 →
  ∃l r D K6,hg S h w=.some (l,r)/\K (λp=>P p\/∃v,v <+: w/\p=W b h++v) l D K6/\r<K6.length/\W K6 r=W b h++w/\(∀m,m<b.length->W K6 m=W b m)/\b.length<=K6.length/\K6.length<=b.length+2*w.length:=by
 intro w
 induction w with
 |nil =>
  intro P S nd b H h f g hw i;refine⟨S,h,nd,b,rfl,H.congr λp=>⟨.inl,?_⟩,f,(ZT _).symm,λ_ _=>rfl,Zn _,Zn _⟩;rintro (a | ⟨v,a,rfl⟩)
  ·exact a
  simp_all
 |cons c w t =>
  intro P S nd b H h f g hw i;rw[Ze]at i;refine L2.ah λQ s=>?_;obtain⟨O,r1,N,o,e1,F,B,e,A,j,L⟩:=H.step f (hw c Zv) (by lia);obtain⟨C,r2,q,n,e2,E,z,y,x,u,G⟩:=t F B (.inr e) (λd hd=>hw d (Zw _ hd)) (by rw[e,Zp,ZN];lia);refine s ?_;refine⟨C,r2,_,_,?_,E.congr λp=>?_,z,?_,λm hm=>by rw[x m (by exact Zc hm j),A m hm],by exact ZW j u,by rw[Ze];lia⟩
  ·show (hb S h c).bind _=_;rw[e1];exact e2
  ·rw[e];constructor
   ·rintro ((a | rfl) | ⟨v,a,rfl⟩)
    ·exact .inl a
    ·simp_all
    simp_all
   ·rintro (a | ⟨v,a,rfl⟩)
    ·exact .inl (.inl a)
    ·cases v with
     |nil=>rw[ZT];exact .inl (.inl g)
     |cons d v =>
      simp_all
  ·rw[y,e,Yu];rfl
def mB(S:St):List Wd->Option St
 |[]=>Y S
 |t :: b=>(hg S 0 t).bind λz=>mB z.1 b
def K.book:∀(b:List Wd){P:Wd->Prop}{S:St}{nd:Wd->Option Nat}{a:List Wd}(H:K P S nd a),(∀t∈b,∀c∈t,97<=c/\c<=122)->(∀t∈b,t.length<1000) →
  ∃f r K6,mB S b=.some f/\K (λp=>P p\/∃t∈b,p <+: t) f r K6/\a.length<=K6.length/\K6.length<=a.length+2*(b.map List.length).sum:=by
 intro b
 induction b with
 |nil =>
  intro P S nd a H _ _;refine⟨S,nd,a,rfl,H.congr λp=>⟨.inl,?_⟩,Zn _,Xq _ _⟩;grind
 |cons t b m =>
  intro P S nd a H e hl;refine L2.ah λD l=>?_;obtain⟨C,r1,B,h,e1,u,A,y,x,o,w⟩:=H.grow t (H.i.lt H.i.z) (by rw[H.i.wz];exact H.nil) (e t Zv) (by rw[H.i.wz];simp_all);obtain⟨q,j,g,e2,s,n,v⟩:=m u (λt d=>e t (Zw _ d)) (λt d=>hl t (Zw _ d));refine l ?_;refine⟨q,_,_,?_,s.congr λp=>?_,by exact ZW o n,by grind⟩
  ·show (hg S 0 t).bind _=_;rw[e1];exact e2
  ·rw[H.i.wz];grind
noncomputable def Hd(b:List Wd)(p:Wd):Prop:=p=[]\/∃t∈b,p <+: t
def K.of(b:List Wd)(f:∀t∈b,∀c∈t,97<=c/\c<=122)(d:∀t∈b,t.length<1000):∃S nd a,mB S0 b=.some S/\K (Hd b) S nd a/\a.length<=1+2*(b.map List.length).sum:=by
 obtain⟨S,nd,a,e,H,_,l⟩:=K0.book b f d;exact⟨S,nd,a,e,H,l⟩
def sk(w:List (Nat×Nat)):Wa:=(List.range' 97 26).filter λc=>(gW w c).isSome
def visit(w:List (Nat×Nat)):Wa->Wa->Wa
 |[],met=>met
 |c :: r,met=>visit w r (if (gW w c).getD 0∈met then met else met++[(gW w c).getD 0])
def Of(S:St):Nat->Wa->Nat->Option (Wa)
 |k,met,d=>if d<met.length then (match k with
  |0=>M
  |k+1=>Of S k (visit (S.wy.getD (met.getD d 0) []) (sk (S.wy.getD (met.getD d 0) [])) met) (d+1)) else Y met
def steps(S:St)(a:Wa)(n:Nat):List (Nat×Nat):=(sk (S.wy.getD n [])).map λc=>(c,a.idxOf ((gW (S.wy.getD n []) c).getD 0))
noncomputable abbrev Row:=Nat×Nat×Option Nat×List (Nat×Nat)
def row(S:St)(a:Wa)(n:Nat):Row:=match S.lk.getD n M with
 |none=>(0,0,M,steps S a n)
 |some l=>(S.lg.getD l 0+1,S.lg.getD n 0,Y (a.idxOf l),steps S a n)
def tab(S:St)(a:Wa):List Row:=a.map (row S a)
section
def mG{w:List (Nat×Nat)}{c:Nat}(h:c∈sk w):∃m,gW w c=Y m:=Yw.mp (YG.mp h).2
theorem nW(hw:∀c m,gW w c=Y m->m<N):∀(r met:Wa),(∀c∈r,∃m,gW w c=Y m)->(∀x∈met,x<N)->∀x∈visit w r met,x<N
 |[],met,_,hm=>hm
 |c :: r,met,a,hm=>by
  refine nW hw r _ (λd hd=>a d (Zw _ hd)) ?_;obtain⟨m,e⟩:=a c Zv;rw[e,Xu];split
  ·exact hm
  ·intro x b;rcases ZU.mp b with h | h
   ·exact hm x h
   ·rw[Zb.mp h];exact hw c m e
def getD_mem{l:Wa}(h:d<l.length):l.getD d 0∈l:=by
 simp_all
end
theorem mE{w:List (Nat×Nat)}:∀(r met:Wa),∃l,visit w r met=met++l
 |[],met=>⟨[],(ZT _).symm⟩
 |c :: r,met=>by
  obtain⟨l,e⟩:=mE (w:=w) r _;show ∃l,visit w r _=_;rw[e];split
  ·exact⟨l,rfl⟩
  simp_all
theorem ot{w:List (Nat×Nat)}:∀(r met:Wa),met.Nodup->(visit w r met).Nodup
 |[],met,h=>h
 |c :: r,met,h=>by
  refine ot (w:=w) r _ ?_;split
  ·exact h
  ·rename_i q;rw[ZR];grind
theorem pU{w:List (Nat×Nat)}:∀(r met:Wa),∀c∈r,(gW w c).getD 0∈visit w r met
 |d :: r,met,c,a=>by
  rcases Zj.mp a with rfl | a
  ·obtain⟨l,e⟩:=mE (w:=w) r (if (gW w c).getD 0∈met then met else met++[(gW w c).getD 0]);show _∈visit w r _;grind
  ·exact pU r _ c a
def zh(b:∀p∈w,97<=p.1/\p.1<=122)(h:gW w c=Y m):c∈sk w:=by
 refine YG.mpr ⟨?_,by rw[h];rfl⟩;obtain⟨p,a,_⟩:=Zy.mp h;grind
def G4(j:WF S):∀(k:Nat)(met:Wa)(d:Nat),met.Nodup->(∀x∈met,x<S.lg.length)->d<=met.length->S.lg.length<=k+d->(∀i,i<d->∀c m,gW (S.wy.getD (met.getD i 0) []) c=Y m->m∈met) →
  ∃l,Of S k met d=Y (met++l)/\(met++l).Nodup/\(∀x∈met++l,x<S.lg.length)/\∀n∈met++l,∀c m,gW (S.wy.getD n []) c=Y m->m∈met++l:=by
 intro k;have fin:∀(met:List _)(d:Nat),¬d<met.length->d<=met.length->(∀i,i<d->∀c m,gW (S.wy.getD (met.getD i 0) []) c=Y m->m∈met)->∀n∈met,∀c m,gW (S.wy.getD n []) c=Y m->m∈met:=by
  intro met d f b h n r c m e;obtain⟨i,t,q⟩:=List.mem_iff_getElem.mp r;refine h i (by lia) c m ?_
  simp_all
 induction k with
 |zero =>
  intro met d nd lt hd s h;have hl:met.length<=S.lg.length:=by
   have:=sub_len _ _ nd λx p=>Yj.mpr (lt x p)
   simp_all
  have a:¬d<met.length:=by lia
  refine⟨[],?_,?_⟩
  ·unfold Of
   simp_all
  ·rw[ZT];exact⟨nd,lt,fin _ d a hd h⟩
 |succ k o =>
  intro met d nd lt hd s h;by_cases a:d<met.length
  ·obtain⟨y,e1⟩:=mE _ _;obtain⟨l,e,f,b,g⟩:=o (visit _ (sk (S.wy.getD (met.getD d 0) [])) _) (d+1) (ot _ _ nd) (nW (λc m e=>j.on _ c m e) _ _ (λc u=>mG u) lt) (by rw[e1,Zp];lia) (by lia) (λi t c m e=>by
    have v:(visit (S.wy.getD (met.getD d 0) []) (sk (S.wy.getD (met.getD d 0) [])) met).getD i 0=met.getD i 0:=by
     grind
    rw[v]at e;by_cases q:i=d
    ·subst q;have:=pU (w:=S.wy.getD (met.getD i 0) []) _ met c (zh (j.S8 _).2 e);rw[e]at this;exact this
    ·rw[e1];exact YV _ (h i (by lia) c m e))
   rw[e1,Yu]at f b g;refine⟨_,?_,f,b,g⟩;unfold Of
   simp_all
  ·refine⟨[],?_,?_⟩
   ·unfold Of;rw[Zl a,ZT]
   ·rw[ZT];exact⟨nd,lt,fin _ d a hd h⟩
def C0{α:Type}{p:List α->Prop}(h0:p [])(h1:∀l a,p l->p (l++[a]))(l:List α):p l:=by
 have:∀l:List α,p l.reverse:=by
  intro l
  induction l with
  |nil=>exact h0
  |cons a l ih=>simp_all
 rw[← List.reverse_reverse l];exact this _
def K.met{S:St}(H:K P S nd wd){k:Nat}(hk:wd.length<=k):∃l,Of S k [0] 0=Y (0 :: l)/\(0 :: l).Nodup/\(∀x,x∈0 :: l↔x<wd.length)/\(0 :: l).length=wd.length:=by
 have L:=H.i.len.symm;obtain⟨l,e,h1,h2,h3⟩:=G4 H.i.wf k [0] 0 (by simp) (λx hx=>by rw[Zb.mp hx];exact H.i.wf.pos) (Yt _) (by lia) (λi hi=>absurd hi (Nat.not_lt_zero _));have h0:∀(x:Wd) n,nd x=Y n->n∈0 :: l:=by
  intro x
  induction x using C0 with
  |h0=>intro n e;rw[H.i.z]at e;simp_all
  |h1 x c ih =>
   intro n e;obtain⟨m,hm⟩:=H.i.pre e;exact h3 m (ih m hm) c n (by rw[H.i.wy hm];exact e)
 have hx:∀x,x∈0 :: l↔x<wd.length:=λx=>⟨λz=>by rw[← L];exact h2 x z,λz=>h0 _ x (H.i.top z)⟩
 refine⟨l,e,h1,hx,Nat.le_antisymm ?_ ?_⟩
 ·have:=sub_len _ _ h1 λx z=>Yj.mpr ((hx x).mp z)
  simp_all
 ·have:=sub_len _ _ List.nodup_range λx z=>(hx x).mpr (Yj.mp z)
  simp_all
end AU
end
section
namespace T33
open VS AU
def Dq(w:List (Nat×Nat))(c:Nat):c∈w.map (·.1)↔(gW w c).isSome=J:=by
 rw[← FG,Xo,ZQ];grind
def wt{w:List (Nat×Nat)}(a:(w.map (·.1)).Nodup)(b:∀p∈w,97<=p.1/\p.1<=122):(sk w).Perm (w.map (·.1)):=by
 refine(List.perm_ext_iff_of_nodup ?_ a).mpr λc=>?_
 ·exact List.Nodup.sublist List.filter_sublist List.nodup_range'
 ·rw[Dq];constructor
  ·intro h;exact(YG.mp h).2
  ·intro h;obtain⟨m,e⟩:=Yw.mp h;exact zh b e
def BM{w:List (Nat×Nat)}(e:(w.map (·.1)).Nodup)(d:∀p∈w,97<=p.1/\p.1<=122):jq [(m,Mh w)]=Y (.fr,.lst ((sk w).map λc=>T.str [c])):=by
 show ((strs? _).bind _)=_;have e1:(w.map λp=>(T.str [p.1],T.int (p.2:Int))).map (·.1)=(w.map (·.1)).map λc=>T.str [c]:=by
  simp_all
 rw[e1,strs_map _,Zq,Zm]
 ·have:(sk w).map (λc=>[c])=ip ((w.map (·.1)).map λc=>[c]):=by
   refine pS ((wt e d).map _) ?_;rw[X3];refine List.Pairwise.imp ?_ (List.Pairwise.filter _ (List.pairwise_lt_range'));intro a b j h;rcases Wv.mp h with h | ⟨_,h⟩
   ·lia
   simp_all
  rw[← this,ZA];rfl
 ·refine⟨?_,ZS.mpr ?_⟩
  ·rw[Zt,← (wt e d).length_eq];have:(sk w).length<=(List.range' 97 26).length:=YY _ _;rw[List.length_range']at this;lia
  intro s f;obtain⟨c,i,rfl⟩:=ZQ.mp f;obtain⟨p,g,rfl⟩:=ZQ.mp i;have:=d p g;show (decide _&&(decide _&&J))=J;rw[decide_eq_true (show p.1<1114112 by lia)];rfl
noncomputable def nE:Nat->Wa->List (T×T)
 |_,[]=>[]
 |k,n :: r=>(T.int (n:Int),T.int (k:Int)) :: nE (k+1) r
theorem AE:∀(met:Wa)(k:Nat),(nE k met).length=met.length
 |[],_=>rfl
 |_ :: r,k=>by rw[nE,Ze,Ze,AE r]
theorem qR:∀(met:Wa)(k:Nat),(nE k met).map (·.1)=met.map λ(n:Nat)=>T.int (n:Int)
 |[],_=>rfl
 |_ :: r,k=>by rw[nE,Zg,Zg,qR r]
theorem Am:∀(met:Wa)(k n:Nat),nE k (met++[n])=nE k met++[(T.int (n:Int),T.int ((k+met.length:Nat):Int))]
 |[],k,n=>rfl
 |m :: r,k,n=>by
  rw[XT,nE,nE,Am r _ n,Ze,XT];rw[show k+1+r.length=k+(r.length+1) by lia]
def J9(a b:Nat):eqT (.int (a:Int)) (.int (b:Int))=(a==b):=by
 simp only[eqT];grind
theorem rX:∀(met:Wa)(k n:Nat),fM (nE k met) (.int (n:Int))=if n∈met then Y (T.int ((k+met.idxOf n:Nat):Int)) else M
 |[],_,_=>rfl
 |m :: r,k,n=>by
  show ((((T.int _,T.int _) :: nE _ r).find? _).map _)=_;rw[ZD];simp only[J9];by_cases h:m=n
  ·simp_all
  ·have hb:=beq_eq_false_iff_ne.mpr h;have a:=rX r (k+1) n;unfold fM at a;simp only[hb];grind
def FX(a:Wa)(n:Nat)(h:n∉a):dput (nE 0 a) (.int (n:Int)) (.int (a.length:Int))=nE 0 (a++[n]):=by
 unfold dput;rw[Zl,Am]
 ·rw[WY]
 ·intro z;obtain⟨p,b,e⟩:=Xo.mp z;have:(fM (nE 0 a) (.int (n:Int))).isSome=J:=by
   unfold fM;grind
  rw[rX,Zl h]at this;cases this
def nT(a:Wa):T:=.dct 0 (nE 0 a)
noncomputable def mT(a:Wa):T:=.lst (a.map λ(n:Nat)=>T.int (n:Int))
def EL{n:Nat}(h:a U=Y (m,nT d))(he:e U=Y (k,.int (n:Int))):e2 d9 e a U=Y (.fr,.bl (decide (n∉d))):=e2v he h (by
 show (match (if J=J then Y (Md.fr,T.bl _) else M) with | some (_,.bl b)=>some (Md.fr,T.bl (!b)) | _=>none)=_;rw[Zm L,rX];by_cases q:n∈d
 ·simp_all
 simp_all)
section
theorem zx{d:Nat}{b:W4}:∀(r met:Wa)(z:W4),(∀c∈r,∃m,gW w c=Y m)->met.length+r.length<16777216->∃a,forL (bh 5) cU (r.map λc=>T.str [c]) [b,oc (nT met),oc (mT met),Q0 (d:Int),pc (Mh w),z]=Y (.nx [b,oc (nT (visit w r met)),oc (mT (visit w r met)),Q0 (d:Int),pc (Mh w),a])
 |[],met,z,_,_=>⟨z,rfl⟩
 |c :: r,met,z,h,hl=>by
  obtain⟨m,e⟩:=h c Zv;rw[Ze]at hl;by_cases q:m∈met
  ·obtain⟨a,g⟩:=zx r met _ (λd hd=>h d (Zw _ hd)) (by lia);refine⟨a,?_⟩;have ev:visit w (c :: r) met=visit w r met:=by
    show visit w r _=_
    simp_all
   rw[ev,Zg];refine(eA L ?_).trans g;refine(rA (m:=.fr) ?_).trans L;refine(EL L (yT L L e)).trans ?_
   simp_all
  ·obtain⟨a,g⟩:=zx r (met++[m]) _ (λd hd=>h d (Zw _ hd)) (by rw[Zp,ZN];lia);refine⟨a,?_⟩;have ev:visit w (c :: r) met=visit w r (met++[m]):=by
    show visit w r _=_
    simp_all
   rw[ev,Zg];refine(eA L ?_).trans g;refine(uG (m:=.fr) ?_).trans ?_
   ·refine(EL L (yT L L e)).trans ?_;rw[decide_eq_true q]
   ·have f:∀nn i:Option _,e2 _ (aa 4) (aa 5) [b,nn,i,Q0 (d:Int),pc _,pc _]=Y _:=λnn i=>yT L L e;have j:nM 1 (e2 NR (aa 4) (aa 5)) (eN cB (af (aa 2) au)) [b,oc (nT met),oc (mT met),Q0 (d:Int),pc (Mh w),Q2 ([c])]=Y (.nx [b,oc (nT (met++[m])),oc (mT met),Q0 (d:Int),pc (Mh w),Q2 ([c])]):=by
     unfold nM;rw[(gM (xv (x:=(.bo,mT _)) L L) (by
      show Y _=_;rw[Zt])),Zq]
     show ((e2 _ _ _ _).bind _)=_;rw[f,Zq];rw[Zm ⟨rfl,rfl,by rw[(AE _ 0)];show met.length<16777216;lia⟩,FX _ m q];rfl
    refine(aw j).trans ?_;refine(qW L (f _ _) (by rw[Zt];lia)).trans ?_;rw[show (met.map _)++[.int _]=(met++[m]).map λ(n:Nat)=>T.int _ from by rw[Yq];rfl];rfl
end
def vJ(w:List (Nat×Nat)):(sk w).length<=26:=by
 refine ZW (YY _ _) ?_
 simp_all
def DE{S:St}{a:Wa}(b:a.Nodup)(d:∀x∈a,x<S.lg.length):a.length<=S.lg.length:=by
 have:=sub_len _ _ b λx e=>Yj.mpr (d x e)
 simp_all
def HY(l:WF S)(z:S.lg.length<=100001):∀(k:Nat)(met:Wa)(d:Nat)(M:Wa),met.Nodup->(∀x∈met,x<S.lg.length)->Of S k met d=Y M->∀N,k<N->∀f a:W4,∃j g u,
  dH (e2 oLt (aa 3) (eN cB (af (aa 2) au))) c7 N [pc (Ks S Z),oc (nT met),oc (mT met),Q0 ((d:Nat):Int),f,a] =
   Y (.nx [pc (Ks S Z),oc (nT M),oc (mT M),pc j,g,u]):=by
 have cond:∀(met:List _)(d:Nat)(f a:Option _),e2 oLt (aa 3) (eN cB (af (aa 2) au)) [pc (Ks S Z),oc (nT met),oc (mT _),Q0 ((d:Nat):Int),f,a]=Y (.fr,.bl (decide (d<met.length))):=λmet d f a =>
  e2v L (gM (xv L L) (by
   show Y (Md.fr,T.int (((met.map _).length:Nat):Int))=_;rw[Zt])) (by
   simp_all)
 intro k
 induction k with
 |zero =>
  intro met d M nd lt e N hN f a;obtain⟨N,rfl⟩:∃M,N=M+1:=⟨N-1,by lia⟩
  unfold Of at e;split at e
  ·cases e
  ·rename_i h;cases e;exact⟨_,f,a,dY ((cond _ _ _ _).trans (by rw[decide_eq_false h]))⟩
 |succ k t =>
  intro met d M nd lt e N hN f a;obtain⟨N,rfl⟩:∃M,N=M+1:=⟨N-1,by lia⟩
  unfold Of at e;split at e
  ·rename_i h;have v:met.getD d 0<S.wy.length:=by rw[l.wy];exact(lt _ (getD_mem h))
   have y:=DE nd lt;have w:=vJ (S.wy.getD (met.getD d 0) []);obtain⟨o,s⟩:=zx (sk (S.wy.getD (met.getD d 0) [])) met a (λc i=>mG i) (by lia);obtain⟨j,r,p,q⟩:=t _ _ M (ot _ _ nd) (nW (λc m e=>l.on _ c m e) _ _ (λc i=>mG i) lt) e N (by simp_all) _ o;refine⟨j,r,p,(lR ((cond _ _ _ _).trans (by rw[decide_eq_true h])) ?_).trans q⟩;have ix:e2 _ (aa 2) (aa 3) [pc (Ks S Z),oc (nT met),oc (mT _),pc _,f,a]=Y _:=e2v L L (pZ _ _ d 0 h);refine(aw (aI (m:=.pu) (nX (S:=S) (b:=Z) (m:=.pu) (n:=.fr) L ix v) (by decide) (by decide:4<6))).trans ?_;have nw:=l.S8 (met.getD d 0);refine(aw ((dz (m:=.fr) ?_ L).trans s)).trans ?_
   ·show (eN _ _ _).bind _=_;rw[gM (xv L L) (BM nw.1 nw.2)];rfl
   ·exact aI L (by decide) (by decide:3<6)
  ·rename_i h;cases e;exact⟨_,f,a,dY ((cond _ _ _ _).trans (by rw[decide_eq_false h]))⟩
def Gr(a:WF S)(g:S.lg.length<=100001){M:Wa}(h:k<1000000)(e:Of S k [0] 0=Y M):aS [Ks S Z]=Y (.fr,nT M):=by
 obtain⟨i,d,b,q⟩:=HY a g k _ 0 M (by simp) (λx f=>by rw[Zb.mp f];exact a.pos) e _ (by exact h) _ _;refine dI (U:=[pc (Ks S Z),none,pc (mT M),pc i,d,b]) L ?_;exact(aw L).trans ((aw L).trans ((aw L).trans ((aw q).trans ((aw L).trans L))))
noncomputable def OQ(l:List (Nat×Nat)):T:=.tup (l.map λp=>T.tup [.str [p.1],.int (p.2:Int)])
def kg(r:Row):T:=.tup [.int (r.1:Int),.int (r.2.1:Int),LY r.2.2.1,OQ r.2.2.2]
theorem vY:∀l:List (Nat×Nat),fD (l.map λp=>T.tup [.str [p.1],.int (p.2:Int)])=J
 |[]=>rfl
 |p :: l=>by
  rw[Zg];show (J&&fD _)=J;rw[vY l];rfl
def vK(l:List (Nat×Nat)):Ko (OQ l)=J:=vY l
def qB(r:Row):Ko (kg r)=J:=by
 show (J&&(J&&(Ko _&&(Ko _&&J))))=J;rw[mJ,vK];rfl
def IQ(h:a U=Y (.fr,x))(g:b U=Y (.fr,y))(f:c U=Y (.fr,z))(e:d U=Y (.fr,w)):i7 (af a (af b (af c (af d au)))) U=Y (.fr,.tup [x,y,z,w]):=by
 show (af a _ U).bind _=_;rw[xv h (xv g (xv f (xv e L))),Zq];show Y _=_;unfold up;split<;>rfl
def G5(b:WF S)(i:∀x,x<S.lg.length->x∈a)(f:n<S.lg.length):cZ [Ks S Z,.int (n:Int),.dct 3 (nE 0 a)]=Y (.fr,kg (row S a n)):=by
 have nw:=b.S8 n;have get:∀v,v<S.lg.length->fM _ _=Y _:=λv o=>by rw[rX,Zm (i v o),WY]
 have s1:aU 3 (e2 _ (cI 2 (aa 0)) (aa 1)) [pc _,pc _,pc _,M,M,M]=Y (.nx [pc (Ks S Z),pc _,pc (.dct 3 (nE 0 a)),pc _,M,M]):=aI (xm L L (by rw[b.lk];exact f)) (by decide) (by decide:3<6);have e:aU 4 (e2 _ (cI 3 (aa 0)) (aa 1)) [pc _,pc _,pc _,pc _,M,M]=Y (.nx [pc (Ks S Z),pc _,pc (.dct 3 (nE 0 a)),pc (LY (S.lk.getD n M)),pc _,M]):=aI (m:=.pu) (nX L L (by rw[b.wy];exact f)) (by decide) (by decide:4<6);have q:eN lA (af (cN 1 (bh 0) (dA (eN jq (af (aa 4) au))) M (i7 (af (aa 0) (af (e2 uO (aa 3) (e2 NR (aa 5) (aa 0))) au)))) au) [pc (Ks S Z),Q0 (n:Int),pc (.dct 3 (nE 0 a)),pc (LY (S.lk.getD n M)),pc (Mh (S.wy.getD n [])),M]=Y (.fr,OQ (steps S a n)):=by
  have r:=de (k:=1) (tg:=bh 0) (it:=dA _) (elt:=i7 _) (U:=[pc _,pc _,pc _,pc _,pc _,M]) _ (λc=>T.tup [.str _,.int ((a.idxOf ((gW _ c).getD 0):Nat):Int)]) _ (by
   show (eN jq (af (aa 4) au) _).bind _=_;rw[gM (xv L L) (BM nw.1 nw.2)];rfl) L (ZW (vJ _) (by decide)) (λc p=>by
   obtain⟨v,ev⟩:=mG p;refine⟨[pc _,pc (Ks S Z),Q0 (n:Int),pc (.dct 3 (nE 0 a)),pc (LY (S.lk.getD n M)),pc _,M],rfl,?_⟩;rw[ev,Xu];show (af (aa 0) (af (e2 uO (aa 3) (e2 NR (aa 5) (aa 0))) au) _).bind _=_;rw[xv L (xv (e2v (x:=(.pu,.dct 3 _)) L (yT (m:=.pu) (n:=.fr) (c:=c) (w:=S.wy.getD n []) L L ev) (by
     show (if J=J then (fM _ _).map _ else M)=_;rw[Zm L,get v (b.on n c v ev)];rfl)) L)]
   rfl)
  refine gM (xv r L) ?_;show (if _<=fB then Y _ else M)=_;rw[Zm (by rw[Zt];exact ZW (vJ _) (by decide))];have:T.tup ((sk (S.wy.getD n [])).map λc=>T.tup [.str [c],.int ((a.idxOf ((gW (S.wy.getD n []) c).getD 0):Nat):Int)])=OQ (steps S a n):=by
   unfold OQ steps;rw[ZA];rfl
  rw[this];unfold up;rw[vK];rfl
 have d:=aI q (by decide) (by decide:5<6);have j:∀U:Env,U[5]?=Y (pc _)->aa 5 U=Y (.fr,OQ (steps S a n)):=λU h=>by
  show (match U[5]? with | some (some (.pu t))=>some (up _ t) | some (some (.ow t))=>some _ | _=>none)=_;rw[h];show Y _=_;unfold up;rw[vK];rfl
 unfold row;cases g:S.lk.getD n _ with
 |none =>
  rw[g]at s1 e d;refine dI (U:=[pc (Ks S Z),Q0 (n:Int),pc (.dct 3 (nE 0 a)),pc (LY M),pc (Mh (S.wy.getD n [])),pc (OQ (steps S a n))]) L ?_;refine(aw s1).trans ((aw e).trans ((aw d).trans (nJ ((uG L).trans (dX (IQ L L L (j _ L)))))))
 |some l =>
  rw[g]at s1 e d;have hl:=b.up n l g;refine dI (U:=[pc (Ks S Z),Q0 (n:Int),pc (.dct 3 (nE 0 a)),pc (LY (Y l)),pc (Mh (S.wy.getD n [])),pc (OQ (steps S a n))]) L ?_;refine(aw s1).trans ((aw e).trans ((aw d).trans ((aw ((rA L).trans L)).trans (dX (IQ ?_ ?_ ?_ (j _ L))))))
  ·exact e2v (tH L L hl) L L
  ·exact tH L L f
  ·exact e2v L L (by
    show (if J=J then (fM _ (.int _)).map _ else M)=_;rw[Zm L,get l hl];rfl)
def KS(t:List Row):T:=.lst (t.map kg)
def Fz(b:WF S)(f:S.lg.length<=100001){M:Wa}(j:k<1000000)(e:Of S k [0] 0=Y M)(a:∀x,x∈M↔x<S.lg.length)(i:M.length<=16777216):dr [Ks S Z]=Y (.fr,KS (tab S M)):=by
 refine dI (U:=[pc (Ks S Z),none]) L ?_;refine(aw (by
  show (jU 0 _ _ _ [pc _,none]).bind _=_;have:jU 0 aS (aa 0) au [pc (Ks S Z),none]=Y (.fr,nT M):=by
   show ((aS [Ks S _]).bind _)=_;rw[(Gr b f j e)];rfl
  rw[this];rfl)).trans ?_
 show ((cN 1 _ _ _ _ _).bind _)=_;rw[(de _ _ M (by
  show (if ((nE 0 M).all _)=J then Y _ else none)=_;rw[Zm,qR];rw[ZS];intro p g;have:p.1∈(nE 0 M).map _:=List.mem_map_of_mem g;rw[qR]at this;obtain⟨n,_,e⟩:=ZQ.mp this;rw[← e];rfl) L i (λn h=>by
  refine⟨_,rfl,?_⟩;show ((cZ [Ks S _,.int _,.dct 3 _]).bind _)=_;rw[G5 b (λx d=>(a x).mpr d) ((a n).mp h)];rfl))]
 unfold KS tab;rw[ZA];rfl
noncomputable def oE(a:List Tx):Nat:=(a.map List.length).sum
structure SV(bk:List Tx):Prop where
 NH:bk.length<=8
 sum:oE bk<=120
 az:∀t∈bk,∀c∈t,97<=c/\c<=122
theorem rP:∀{l:List Tx},t∈l->t.length<=oE l
 |a :: l,h=>by
  have e:oE (a :: l)=a.length+oE l:=by unfold oE;grind
  rw[e];rcases Zj.mp h with rfl | h
  ·exact Xq _ _
  ·have:=rP h;lia
def SV.len(h:SV a):∀t∈a,t.length<=120:=λt b=>ZW (rP b) h.sum
def aX(a:List Tx):St:=(mB S0 a).getD S0
def aB(a:List Tx):Wa:=(Of (aX a) 1000 [0] 0).getD []
def tabOf(a:List Tx):List Row:=tab (aX a) (aB a)
theorem SV.k{bk:List Tx}(h:SV bk):mB S0 bk=Y (aX bk)/\∃nd a,K (Hd bk) (aX bk) nd a/\a.length<=241/\Of (aX bk) 1000 [0] 0=Y (aB bk)/\(∀x,x∈aB bk↔x<(aX bk).lg.length)/\(aB bk).length=a.length/\(aB bk).idxOf 0=0:=by
 refine L2.ah λn b=>?_;obtain⟨S,nd,a,e,H,l⟩:=K.of bk h.az λt g=>by have:=h.len t g;lia
 refine b ?_;have d:aX bk=S:=by unfold aX;rw[e];rfl
 rw[d];have f:a.length<=241:=by
  have:=h.sum;unfold oE at this;lia
 refine L2.ah λn b=>?_;obtain⟨m,e2,_,e3,j⟩:=H.met (k:=1000) (by lia);refine b ?_;have eM:aB bk=0 :: m:=by unfold aB;rw[d,e2];rfl
 rw[eM];exact⟨e,nd,a,H,f,e2,λx=>by rw[e3,H.i.len],j,List.idxOf_cons_self⟩
def Fb(j:e [B,oc (Ks S b),z]=Y a)(l:argsOk d a=J)(m:bY (trees a)=J)(i:g (Oe S) (trees a)=Y (Oe f,v))(h:Ko v=J) :
  cL 1 [] 0 d g e [B,oc (Ks S b),z]=Y ((.fr,v),[B,oc (Ks f b),z]):=by
 show ((Y _).bind λn=>(e _).bind _)=_;rw[Zq,j,Zq];show ((if 1=0+1/\lJ _=J/\argsOk d a=J/\bY _=J then (g _ _).bind _ else M).map _)=_;rw[Zm ⟨rfl,nr S,l,m⟩,i,Zq,Zm ⟨nr f,h⟩];rfl
def GV:∀(rest:List Tx){S b:St}{z:W4},WF S->S.lg.length+2*oE rest<=100000->(∀t∈rest,∀c∈t,97<=c/\c<=122)->mB S rest=Y b →
  ∃d,forL (bh 2) gO (rest.map .str) [B,oc (Ks S Z),z]=Y (.nx [B,oc (Ks b Z),d]):=by
 intro rest
 induction rest with
 |nil =>
  intro S b z _ _ _ e;cases (e);exact⟨z,rfl⟩
 |cons t rest j =>
  intro S b z W hl f e;refine L2.ah λp i=>?_;obtain⟨⟨o,r⟩,e1,m⟩:=Zz.mp (e);have a:oE (t :: rest)=t.length+oE rest:=by unfold oE;simp_all
  rw[a]at hl;obtain⟨h,_,n,g⟩:=Ic W (by lia) W.pos (f t Zv) e1;obtain⟨d,q⟩:=j h (by lia) (λu l=>f u (Zw _ l)) m;refine i ?_;refine⟨d,?_⟩;rw[Zg];refine(eA (U1:=[B,oc _,pc _]) L ?_).trans q;unfold gO Vc;rw[Fb L L L g L];rfl
def GA(h:SV a):eX [.lst (a.map .str)]=Y (.fr,KS (tabOf a)):=by
 refine L2.ah λj b=>?_;obtain⟨e,nd,d,H,l,e2,e3,g,_⟩:=h.k;obtain⟨z,f⟩:=GV a ES (by have:=h.sum;show 1+2*oE a<=100000;lia) h.az e;refine b ?_;refine dI L ((aw L).trans ((aw ((dz L L).trans f)).trans ((aw L).trans (dX ?_))));show ((dr [Ks _ _]).bind _)=_;rw[(Fz H.i.wf (by rw[← H.i.len];lia) (by decide) e2 e3 (by lia))];rfl
noncomputable abbrev K6(a:List (Nat×Nat)):List (T×T):=a.map λp=>(T.str [p.1],T.int (p.2:Int))
noncomputable abbrev Ta(p:Nat×Nat):T:=.tup [.str [p.1],.int (p.2:Int)]
def IH(a:List (Nat×Nat)):qN (a.map Ta)=Y (K6 a):=by
 induction a with
 |nil=>rfl
 |cons w a b =>
  show (if iI _/\Ko _ then (qN _).map _ else M)=_;rw[Zm ⟨rfl,rfl⟩,b];rfl
theorem uC:∀(a acc:List (Nat×Nat)),((acc++a).map (·.1)).Nodup->(K6 a).foldl (λd q=>dput d q.1 q.2) (K6 acc)=K6 (acc++a)
 |[],acc,_=>by rw[ZT];rfl
 |w :: a,acc,h=>by
  have e:dput (K6 acc) (T.str [w.1]) (T.int (w.2:Int))=K6 (acc++[w]):=by
   unfold dput;rw[Zl (by
    simp only[Xo,not_exists,not_and];intro p b;obtain⟨q,f,rfl⟩:=ZQ.mp b;simp only[eqT,beq_iff_eq,List.cons.injEq,and_true];grind)]
   simp[K6]
  show (K6 a).foldl _ (dput _ _ _)=_;rw[e,uC a _ (by simp_all),Yu];rfl
def Ay(w:List (Nat×Nat)):(sk w).Nodup:=by
 exact List.Nodup.sublist List.filter_sublist (by decide)
def vF(S:St)(M:Wa)(n:Nat):(steps S M n).map (·.1)=sk (S.wy.getD n []):=by
 unfold steps;rw[ZA];exact List.map_id' _
def JO(S:St)(M:Wa)(n:Nat):nZ [(m,OQ (steps S M n))]=Y (.fr,.dct 0 (K6 (steps S M n))):=by
 show (qN _).map _=_;rw[IH,Option.map_some];have:=uC (steps S M n) [] (by rw[XJ,vF];exact Ay _)
 simp_all
def tf(S:St)(M:Wa)(n c:Nat)(d:97<=c/\c<=122):gW (steps S M n) c=(gW (S.wy.getD n []) c).map λm=>M.idxOf m:=by
 have key:∀l:List _,gW (l.map λc=>(c,M.idxOf ((gW (S.wy.getD n []) c).getD 0))) c=if c∈l then Y (M.idxOf ((gW (S.wy.getD n []) c).getD 0)) else none:=by
  intro l
  induction l with
  |nil=>rfl
  |cons a l b =>
   unfold gW at b ⊢;rw[Zg,ZD];by_cases h:a=c
   ·subst h;simp
   ·have:(a==c)=Z:=by simpa using h
    rw[this];rw[b];simp[Z9 h]
 unfold steps;rw[key];cases hg:gW _ c with
 |none =>
  rw[Zl λz=>by
   obtain⟨m,hm⟩:=mG z;grind]
  rfl
 |some m =>
  rw[Zm (by
   refine YG.mpr ⟨List.mem_range'_1.mpr (by lia),by rw[hg];rfl⟩)]
  rfl
def pL(S:St)(M:Wa)(n:Nat):(row S M n).2.2.2=steps S M n:=by
 unfold row;split<;>rfl
noncomputable abbrev Pl:=Nat×Nat
noncomputable def tP(p:Pl):T:=.tup [.int p.1,.int p.2]
noncomputable def TC(w t:Tx):Wa:=(List.range (t.length+1)).filter λe=>w.isSuffixOf (t.take e)
def NK(a:List Tx)(w:Tx):List Pl:=(a.zipIdx 0).flatMap λp=>(TC w p.1).map λe=>(p.2,e)
noncomputable def Pt(a:List Tx)(w:Tx):Prop:=w=[]\/∃t∈a,w <:+: t
def xw:p∈NK d w ↔ ∃t,d[p.1]?=Y t/\p.2<=t.length/\w <:+ t.take p.2:=by
 unfold NK;rw[List.mem_flatMap];constructor
 ·rintro⟨⟨t,n⟩,f,h⟩;obtain⟨e,he,rfl⟩:=ZQ.mp h;obtain⟨b,a⟩:=YG.mp he;have:=Yj.mp b;exact⟨t,by simpa using List.mem_zipIdx_iff_getElem?.mp f,WV this,Yi.mp a⟩
 ·rintro⟨t,b,a,g⟩;exact⟨(t,p.1),List.mem_zipIdx_iff_getElem?.mpr b,ZQ.mpr ⟨_,YG.mpr ⟨Yj.mpr (Nat.lt_succ_of_le a),Yi.mpr g⟩,rfl⟩⟩
def GM{α:Type}(g:α->T)(l:List α):∀n:Nat,fo n (l.map g)=(l.zipIdx n).map λp=>T.tup [.int p.2,g p.1]:=by
 induction l with
 |nil=>intro n;rfl
 |cons t l a=>intro n;rw[WJ,Zg,Zg,fo,a _]
def enum_zip(l:List Tx)(n:Nat):fo n (l.map T.str)=(l.zipIdx n).map λp=>T.tup [.int p.2,.str p.1]:=GM _ l n
end T33
end
section
namespace AU
section
def I.RE(H:I M S nd wd):∀(z u:Wd){n:Nat},nd (u++z)=Y n->∃m,nd u=Y m:=by
 intro z
 induction z with
 |nil=>simp_all
 |cons c z a =>
  intro u n h;rw[XS]at h;obtain⟨m,hm⟩:=a _ h;exact H.pre hm
def I.ext(H:I M S nd wd):∀(z x y:Wd){n:Nat},nd x=Y n->nd y=Y n->nd (x++z)=nd (y++z):=by
 intro z
 induction z with
 |nil=>intro x y n d b;rw[ZT,ZT,d,b]
 |cons c z g =>
  intro x y n d b;rw[XS x,XS y];have e:=(H.wy d c).symm.trans (H.wy b c);cases a:nd (x++[c]) with
  |some m=>exact g _ _ a (e ▸ a)
  |none =>
   have f:∀u,nd u=M->nd (u++z)=M:=λu i=>by
    cases h:nd (u++z) with
    |none=>rfl
    |some k =>
     obtain⟨m,hm⟩:=H.RE z u h;rw[i]at hm;cases hm
   rw[f _ a,f _ (e ▸ a)]
def I.head(H:I M S nd wd)(b:n<wd.length)(e:W wd n=x++y):∃m,m<wd.length/\W wd m=x:=by
 have a:=(H.top b)
 rw[e]at a;obtain⟨m,hm⟩:=H.RE y x a;have hl:=H.lt hm;refine⟨m,hl,?_⟩;have:=H.ext y _ _ hm (H.top hl);rw[a]at this;have s:=(H.sf this.symm).length_le;rw[e,Zp,Zp]at s;exact((H.sf hm).eq_of_length_le (by lia)).symm
noncomputable def ends(b:List Wd):List Wd:=b.flatMap λt=>(List.range t.length).map λk=>t.drop k
def Ju{l:Wa}(a:l.Nodup)(h:k<l.length):l.idxOf l[k]=k:=by
 grind
end
noncomputable def Tw(S:St)(t:Nat):Nat:=match S.lk.getD t M with
 |none=>0
 |some m=>S.lg.getD m 0+1
def sw(S:St)(a:List Wd)(t:Nat):Wd:=(W a t).drop ((W a t).length-Tw S t)
section
variable{P:Wd->Prop}{S:St}{nd:Wd->Option Nat}{wd:List Wd}(H:I none S nd wd)
include H
theorem I.sh(a:t<wd.length):Tw S t<=(W wd t).length/\∀y,nd y=Y t↔y <:+ W wd t/\Tw S t<=y.length:=by
 unfold Tw;by_cases h:t=0
 ·subst h;rw[H.QY,H.wz];exact⟨Yt _,λy=>⟨λz=>⟨by rw[H.zero z];exact Z7 _,Yt _⟩,λz=>by rw[YH.mp z.1];exact H.z⟩⟩
 ·obtain⟨m,e,⟨f,_⟩,g,d,b⟩:=H.lk (Ys h) a (by simp);rw[e];show S.lg.getD m 0+1<=_/\∀y,_↔_/\S.lg.getD m 0+1<=_;rw[H.lg m f];exact⟨d,λy=>⟨λz=>⟨H.sf z,(H.low (by simp) e z).1⟩,λz=>b y z.1 z.2⟩⟩
theorem I.Rz(a:t<wd.length):(sw S wd t).length=Tw S t:=by
 have:=(H.sh a).1;unfold sw;rw[YA];lia
theorem I.QN(a:t<wd.length):nd (sw S wd t)=Y t:=((H.sh a).2 _).mpr ⟨List.drop_suffix _ _,by rw[H.Rz a];exact Zn _⟩
end
end AU
end
section
namespace T33
open VS AU
def yL{α:Type}(f:α->T)(l:List α)(d:α)(h:0<l.length):aL (m,.lst (l.map f)) (n,.int (-1))=Y (sub m (f (l.getD (l.length-1) d))):=by
 show ((Lg _ _).bind _)=_;have:Lg (l.map f).length (-1)=Y (l.length-1):=by
  unfold Lg;rw[Zt,Zl (by decide),Zm (by lia)];congr 1;lia
 rw[this,Zq,ZY,Zo,Zr (by omega)];rfl
noncomputable abbrev KG(l:Wa):T:=.lst (l.map λ(n:Nat)=>T.int (n:Int))
abbrev ix(a:List Tx)(m:Nat):Nat:=(aB a).idxOf m
def num(b:List Tx)(a:Wd->Option Nat)(w:Tx):Nat:=(aB b).idxOf ((a w).getD 0)
noncomputable def vB(v:Nat×Nat):T:=.tup [.int (v.1:Int),.str [v.2]]
noncomputable abbrev Og:=List (Nat×(Nat×Nat))
def bT(m:Og):List (T×T):=m.map λp=>(T.int (p.1:Int),vB p.2)
noncomputable def pF(m:Og)(j:Nat)(v:Nat×Nat):Og:=if j∈m.map (·.1) then m.map (λp=>if p.1=j then (p.1,v) else p) else m++[(j,v)]
def qb(a b:Nat):eqT (T.int (a:Int)) (T.int (b:Int))=decide (a=b):=by
 by_cases h:a=b
 ·simp[h]
 ·rw[decide_eq_false h];exact beq_eq_false_iff_ne.mpr (by lia)
def Dr(m:Og)(j:Nat)(v:Nat×Nat):dput (bT m) (.int (j:Int)) (vB v)=bT (pF m j v):=by
 have e:(bT m).any (λp=>eqT p.1 (.int (j:Int)))=decide (j∈m.map (·.1)):=by
  induction m with
  |nil=>rfl
  |cons a m d =>
   rw[show bT _=(T.int _,vB _) :: bT m from rfl,XQ,d,qb,Zg];by_cases q:a.1=j
   ·simp[q]
   ·have b:¬j=a.1:=λz=>q z.symm;simp[q,b]
 unfold dput pF;rw[e];by_cases q:j∈m.map (·.1)
 ·rw[Zm (by simpa using q),Zm q];unfold bT;rw[ZA,ZA];apply YE;intro p _;simp only[Function.comp,qb];by_cases r:p.1=j
  ·simp[r]
  ·simp[r]
 ·rw[Zl (by simpa using q),Zl q];simp[bT]
def AV(m:Og)(j:Nat)(v:Nat×Nat):(pF m j v).length<=m.length+1:=by
 unfold pF;split<;>simp
def pM(m:Og)(j:Nat)(v:Nat×Nat)(k:Nat)(h:k∈m.map (·.1)\/k=j):k∈(pF m j v).map (·.1):=by
 unfold pF;split
 ·rename_i q;obtain⟨p,a,rfl⟩:=ZQ.mp (h.elim id λz=>z ▸ q);refine ZQ.mpr ⟨_,ZQ.mpr ⟨p,a,rfl⟩,?_⟩;by_cases r:p.1=j
  ·rw[Zm r]
  ·rw[Zl r]
 ·rw[Yq,ZU];exact h.imp id λz=>by simp[z]
def A9(m:Og)(j:Nat)(v:Nat×Nat)(q:Nat×(Nat×Nat))(h:q∈pF m j v):q∈m\/q=(j,v):=by
 unfold pF at h;split at h
 ·obtain⟨p,a,rfl⟩:=ZQ.mp h;by_cases r:p.1=j
  ·rw[Zm r];right;rw[r]
  ·rw[Zl r];exact .inl a
 ·rcases ZU.mp h with h | h
  ·exact .inl h
  ·exact .inr (Zb.mp h)
def Kc(m:Og)(i:Nat)(h:i∈m.map (·.1)):∃v,fM (bT m) (.int (i:Int))=Y (vB v)/\(i,v)∈m:=by
 induction m with
 |nil=>simp at h
 |cons a m d =>
  obtain⟨j,v⟩:=a;rw[show bT _=(T.int _,vB v) :: bT m from rfl];unfold fM;by_cases q:j=i
  ·subst q;exact⟨v,by rw[ZD,qb];simp,Zv⟩
  ·rw[ZD,qb,decide_eq_false q];rw[Zg,Zj]at h;obtain⟨b,f,e⟩:=d (h.resolve_left λz=>q z.symm);exact⟨b,f,Zw _ e⟩
def CO{U:Env}{v:T}(h:U[i]?=Y (Y (.ow (.dct 0 l))))(he:e U=Y (m,v))(b:k U=Y (n,a))(g:iI a=J)(f:Ko v=J)(d:l.length<16777216):nM i k e U=Y (.nx (U.set i (Y (.ow (.dct 0 (dput l a v)))))):=by
 unfold nM;rw[he,Zq,h,b];exact Zm ⟨g,f,d⟩
noncomputable def MW(S:St):Nat->Nat->Wa
 |0,m=>[m]
 |k+1,m=>m :: match S.lk.getD m M with
  |none=>[]
  |some r=>MW S k r
def B8{l:W7}(a:i<l.length):aR [.lst l,.int (i:Int)]=Y (.fr,.non):=by
 refine IJ (U:=[pc (.lst l),Q0 (i:Int)]) L ?_;refine(rA (m:=.fr) (sA (m:=.fr) (x:=Z) ?_ (λ_=>?_) (λh=>by cases h))).trans rfl
 ·exact kj (b:=J) L
 ·refine kj (m:=.fr) (b:=J) (nu L L ?_ (gM (xv L L) L) ?_)
  ·simp_all
  simp_all
section
variable{bk:List Tx}{nd:Wd->Option Nat}{wd:List Wd}(H:K (Hd bk) (aX bk) nd wd)(hM:∀x,x∈aB bk↔x<(aX bk).lg.length)(h0:(aB bk).idxOf 0=0)
include hM
theorem Ew(a:m<(aX bk).lg.length):ix bk m<(tabOf bk).length:=by
 unfold tabOf tab;rw[Zt];exact Yl.mpr ((hM m).mpr a)
theorem rn(d:m<(aX bk).lg.length){n:Md}(f:a U=Y (.pu,KS (tabOf bk)))(e:b U=Y (n,.int (ix bk m:Int))):e2 aL a b U=Y (.fr,kg (row (aX bk) (aB bk) m)):=by
 refine e2v f e ?_;have hl:=Yl.mpr ((hM m).mpr d);unfold KS tabOf tab;rw[ZA,pZ _ _ _ 0 hl,Zo,Zr hl];show Y (up _ (kg _))=_;rw[XC _];unfold up;rw[qB];rfl
include H
theorem Bo(a:m<wd.length):(row (aX bk) (aB bk) m).2.1=(W wd m).length:=by
 unfold row;rw[← H.i.lg m a];split
 ·rename_i h;by_cases h0:m=0
  ·rw[h0,H.i.lg 0 (by exact Nat.zero_lt_of_lt a),H.i.wz];rfl
  ·obtain⟨r,e,_⟩:=H.i.lk (Ys h0) a (by simp);rw[h]at e;cases e
 ·rfl
include h0
def wl(b:List Tx)(a:Wd->Option Nat)(p:Tx):Wa:=(List.range (p.length+1)).map λi=>num b a (p.take i)
omit H hM h0 in
theorem Db2(p:Tx)(c:Nat):wl bk nd (p++[c])=wl bk nd p++[num bk nd (p++[c])]:=by
 unfold wl;rw[Zp,ZN,List.range_succ,Yq];congr 1
 ·refine YE λi a=>?_;have:=Yj.mp a;rw[List.take_append_of_le_length (by exact WV this)]
 ·show [num bk nd ((p++[c]).take (p.length+1))]=_;rw[Y1 (by rw[Zp];exact Zn _)]
omit H hM h0 in
theorem q9(h:nd w=Y m):num bk nd w=ix bk m:=by
 unfold num;rw[h];rfl
theorem wk(d:Tx):∀(v p:Tx)(f b:W4),(nd (p++v)).isSome=J->Az v->p.length+v.length<1000000->∃h g,forL (bh 3) pT (v.map s1) [pc (KS (tabOf bk)),Q2 d,oc (KG (wl bk nd p)),f,b]=Y (.nx [pc (KS (tabOf bk)),Q2 d,oc (KG (wl bk nd (p++v))),h,g]):=by
 intro v
 induction v with
 |nil=>exact λp f b _ _ _=>⟨f,b,by rw[ZT];rfl⟩
 |cons c v s =>
  intro p f b j o hl;rw[Ze]at hl;obtain⟨A,q⟩:=Yw.mp j;rw[XS]at q j;obtain⟨m1,n⟩:=H.i.RE v _ q;obtain⟨m,l⟩:=H.i.pre n;have z:m<(aX bk).lg.length:=by rw[← H.i.len];exact H.i.lt l
  have w:(wl bk nd p).length=p.length+1:=by unfold wl;simp_all
  have t:e2 aL (aa 2) (Q3 (-1)) [pc (KS (tabOf bk)),Q2 d,oc (KG (wl bk nd p)),pc (s1 c),b]=Y (.fr,.int (ix bk m:Int)):=by
   refine e2v L L ?_;rw[yL _ _ 0 (by lia),w,Nat.add_sub_cancel,← q9 l];have:(wl bk nd p).getD p.length 0=num bk nd p:=by
    unfold wl
    simp_all
   rw[this];rfl
  have hg:gW (steps (aX bk) (aB bk) m) c=Y (ix bk m1):=by rw[tf _ _ _ _ (o c Zv),H.i.wy l c,n];rfl
  have ap:=qW (i:=2) (U:=[pc (KS (tabOf bk)),Q2 d,oc (KG (wl bk nd p)),pc _,pc _]) (e:=e2 _ (aa 4) (aa 3)) L (yT L L hg) (by rw[Zt];lia);rw[show (wl bk nd p).map _++[T.int _]=(wl bk nd _).map _ from by rw[Db2,Yq,q9 n];rfl]at ap;obtain⟨h,g,e⟩:=s _ _ _ j (λx u=>o x (Zw _ u)) (by rw[Zp,ZN];lia);rw[XS p c v];refine⟨h,g,(eA L (sq (by
   refine aI (m:=.fr) (gM (xv (r:=au) (x:=(.fr,OQ _)) (e2v (rn hM z L t) (y:=(.fr,.int 3)) L ?_) L) (JO _ _ _)) (by decide) (by show 4<5;decide);rw[← pL];show Y _=_
   simp_all) (sq (Dx (m:=.fr) ?_ L) ap))).trans e⟩
  have:=Ej (U:=[pc (KS (tabOf bk)),Q2 d,oc (KG (wl bk nd p)),pc (s1 c),pc (Mh (steps (aX bk) (aB bk) m))]) (a:=aa 4) (e:=aa 3) L L;rw[hg]at this;exact this
theorem G6(hw:(nd w).isSome=J)(a:Az w)(g:w.length<=1000):nU [KS (tabOf bk),.str w]=Y (.fr,KG (wl bk nd w)):=by
 obtain⟨f,d,e⟩:=wk H hM h0 w w [] _ _ (by simp_all) a (by show 0+_<_;lia);have b:wl bk nd []=[0]:=by
  show [num bk nd []]=_;rw[q9 H.i.z,show ix bk 0=0 from h0]
 rw[b]at e;exact dI L (sq L (sq ((dz L L).trans e) L))
omit h0
theorem Il:∀(k m:Nat)(acc:Wa)(F:Nat),m<wd.length->(W wd m).length<=k->k+1<F->acc.length+k<1000000->dH (iN (aa 1)) jX F [pc (KS (tabOf bk)),Q0 (ix bk m:Int),oc (KG acc)]=Y (.nx [pc (KS (tabOf bk)),pc .non,oc (KG (acc++(MW (aX bk) k m).map (ix bk)))]):=by
 intro k
 induction k using Nat.strongRecOn with
 |ind k ih =>
  intro m acc F hm hk hF ha;obtain⟨F,rfl⟩:∃j,F=j+2:=⟨F-2,by lia⟩
  have LZ:m<(aX bk).lg.length:=by rw[← H.i.len];exact hm
  have a1:=qW (i:=2) (U:=[pc (KS (tabOf bk)),Q0 (ix bk m:Int),oc (KG acc)]) (e:=aa 1) L L (by rw[Zt];lia);rw[show acc.map _++[T.int _]=(acc++[ix bk m]).map _ from by rw[Yq];rfl]at a1;have st:dH _ _ _ _=dH (iN (aa 1)) jX (F+1) [pc _,pc (LY (((aX bk).lk.getD m _).map _)),oc _]:=lR L ((aw a1).trans (by
   refine aI (m:=.fr) (e2v (rn hM LZ (n:=.fr) L L) (y:=(.fr,.int 2)) L ?_) (by decide) (by show 1<3;decide);show Y _=_;unfold row;split<;>(rename_i e;rw[e];rfl)))
  rw[st];cases hl:(aX bk).lk.getD m M with
  |none =>
   rw[show MW (aX bk) k m=[m] from by cases k with | zero=>rfl | succ k=>rw[MW,hl]];exact dY L
  |some r =>
   refine L2.ah λP_ k_=>?_;obtain⟨r',e,⟨g1,_⟩,_,g2,_⟩:=H.i.lk (Ys λz=>by rw[z,H.i.QY]at hl;cases hl) hm (by simp);rw[hl]at e;cases e;obtain⟨k,rfl⟩:∃j,k=j+1:=⟨k-1,by lia⟩
   refine k_ ?_;have:=ih k (Yp _) r (acc++[ix bk m]) (F+1) g1 (by lia) (by simp_all) (by rw[Zp,ZN];lia);rw[show MW (aX bk) _ m=m :: MW _ k r from by rw[MW,hl]];exact this.trans (by rw[Yu];rfl)
theorem Dm(a:m<wd.length)(b:(W wd m).length<=1000):nk [KS (tabOf bk),.int (ix bk m:Int)]=Y (.fr,KG ((MW (aX bk) 1000 m).map (ix bk))):=by
 have d:m<(aX bk).lg.length:=by rw[← H.i.len];exact a
 exact dI L ((aw (by
  show (((bu _ _ _).map _).map _)=_;rw[bq (xv (x:=(.pu,KS _)) L (xv (r:=au) (x:=(.fr,.int _)) L L)) (show aR _=Y _ from B8 (by rw[Zt];exact Ew hM d))];rfl)).trans ((aw L).trans ((aw (Il H hM _ m [] _ a b (by decide) (by decide))).trans L)))
end
def Eh:Pt f w ↔ ∃p,Hd f p/\w <:+ p:=by
 constructor
 ·rintro (rfl | ⟨t,d,a,b,rfl⟩)
  ·exact⟨[],.inl L,Z7 _⟩
  ·exact⟨_,.inr ⟨_,d,⟨b,rfl⟩⟩,⟨a,rfl⟩⟩
 ·rintro⟨p,rfl | ⟨t,d,g⟩,e⟩
  ·exact .inl (YH.mp e)
  ·exact .inr ⟨t,d,e.isInfix.trans g.isInfix⟩
def wq(H:K (Hd b) (aX b) o a):∀(k m:Nat),m<a.length->(W a m).length<=k->(∀j,j∈MW (aX b) k m↔j<a.length/\W a j <:+ W a m)/\(MW (aX b) k m).Nodup:=by
 have top:∀{j:Nat},j<a.length->W a j=[]->j=0:=λs e=>by
  have:=H.i.top s;rw[e,H.i.z]at this
  simp_all
 have n:∀j,j∈([0])↔j<a.length/\W a j <:+ W a 0:=λj=>by
  rw[Zb,H.i.wz,YH];exact⟨λe=>by rw[e];exact⟨H.i.lt H.i.z,H.i.wz⟩,λe=>top e.1 e.2⟩
 intro k
 induction k with
 |zero =>
  intro m hm h;have e:=top hm (YU.mp (Nat.le_zero.mp h));subst e;exact⟨n,Zd.mpr ⟨(λz=>nomatch z),Z3⟩⟩
 |succ k p =>
  intro m hm h;by_cases h0:m=0
  ·subst h0;have:MW (aX b) (k+1) 0=[0]:=by unfold MW;rw[H.i.QY]
   simp_all
  ·obtain⟨r,e,⟨u,_⟩,l,v,t⟩:=H.i.lk (Ys h0) hm (by simp);have ec:MW (aX b) (k+1) m=m :: MW (aX b) k r:=by
    conv=>lhs;unfold MW
    rw[e]
   obtain⟨g,q⟩:=p r u (by lia);rw[ec];refine⟨λj=>?_,Zd.mpr ⟨λz=>?_,q⟩⟩
   ·rw[Zj,g];constructor
    ·rintro (rfl | ⟨f,d⟩)
     ·simp_all
     ·exact⟨f,d.trans l⟩
    ·rintro⟨f,d⟩;by_cases hl:(W a r).length<(W a j).length
     ·have:=t _ d hl;rw[H.i.top f]at this;exact .inl (ZX this)
     ·exact .inr ⟨f,cJ d l (by exact Z1 hl)⟩
   ·have:=((g m).mp z).2.length_le;lia
def DU(H:K (Hd b) (aX b) d e)(g:(W e m).length<=1000)(a:d p=Y m)(f:Hd b p)(hw:d w=Y j):j∈MW (aX b) 1000 m↔w <:+ p:=by
 rw[(wq H _ m (H.i.lt a) g).1 j];constructor
 ·exact λh=>(H.i.sf hw).trans (h.2.trans (((H.eq (H.i.top (H.i.lt a)) a).mp L p f).mpr (Z7 _)))
 ·exact λh=>⟨H.i.lt hw,(((H.eq hw (H.i.top (H.i.lt hw))).mp L p f).mp h).trans (H.i.sf a)⟩
abbrev E5(f:List Tx)(b:Og)(e d a:W4):Env:=[pc (KS (tabOf f)),oc (.dct 0 (bT b)),e,d,a]
def vw(b:List Tx)(a:List Wd)(q:Nat×(Nat×Nat)):Prop:=∃t p,q.1=ix b t/\q.2.1=ix b p/\t<a.length/\p<a.length/\W a t=W a p++[q.2.2]
section
variable{bk:List Tx}{nd:Wd->Option Nat}{wd:List Wd}(H:K (Hd bk) (aX bk) nd wd)(hM:∀x,x∈aB bk↔x<(aX bk).lg.length)(hN:(aB bk).Nodup)
include H hM
theorem zL{c:Nat}(d:p<wd.length)(h:(c,j)∈steps (aX bk) (aB bk) p):∃t,t<wd.length/\j=ix bk t/\nd (W wd p++[c])=Y t:=by
 obtain⟨g,f,e⟩:=ZQ.mp h;obtain⟨rfl,rfl⟩:=XM e;obtain⟨t,b⟩:=mG f;have a:=H.i.wy (H.i.top d) g;rw[b]at a;exact⟨t,H.i.lt a.symm,by rw[b];rfl,a.symm⟩
theorem sb1{c i:Nat}(d:p<wd.length)(a:t<wd.length)(b:Og)(e:b.length<16777216):d7 (E5 bk b (Q0 (i:Int)) (pc (kg (row (aX bk) (aB bk) p))) (pc (Ta (c,ix bk t))))=Y (.nx (E5 bk (if (W wd t).length=(W wd p).length+1 then pF b (ix bk t) (i,c) else b) (Q0 (i:Int)) (pc (kg (row (aX bk) (aB bk) p))) (pc (Ta (c,ix bk t))))):=by
 have lg:∀{x},x<wd.length->aL (.fr,kg _) (.fr,.int 1)=Y (.fr,.int ((W wd x).length:Int)):=λh=>by rw[← Bo H hM h];rfl
 have cd:e2 oEq (e2 aL (e2 aL (aa 0) (e2 aL (aa 4) (Q3 1))) (Q3 1)) (e2 bE (e2 aL (aa 3) (Q3 1)) (Q3 1)) (E5 bk b (Q0 (i:Int)) (pc (kg (row (aX bk) (aB bk) p))) (pc (Ta (c,ix bk t))))=Y (.fr,.bl (decide ((W wd t).length=(W wd p).length+1))):=by
  refine e2v (e2v (rn hM ((λh=>by rw[← H.i.len];exact h) a) L L) L (lg a)) (e2v (e2v (by
  show Y _=_;unfold up;rw[qB];rfl) L (lg d)) L L) ?_
  exact oK L L (qb _ _)
 by_cases q:(W wd t).length=(W wd p).length+1
 ·rw[Zm q];refine ift (cd.trans (by rw[decide_eq_true q])) ((CO (v:=vB (i,c)) L L L L L (by rw[bT,Zt];exact e)).trans ?_);rw[Dr];rfl
 ·rw[Zl q];exact Dx (cd.trans (by rw[decide_eq_false q])) L
theorem Vb(r:p<wd.length)(D:i=ix bk p):∀(a:List (Nat×Nat))(b:Og)(m:W4),(∀w∈a,w∈steps (aX bk) (aB bk) p)->(∀q∈b,vw bk wd q)->b.length+a.length<1000000->∃f n,forL (bh 4) d7 (a.map Ta) (E5 bk b (Q0 (i:Int)) (pc (kg (row (aX bk) (aB bk) p))) m)=Y (.nx (E5 bk f (Q0 (i:Int)) (pc (kg (row (aX bk) (aB bk) p))) n))/\(∀q∈f,vw bk wd q)/\(∀k∈b.map (·.1),k∈f.map (·.1))/\(∀c t,(c,ix bk t)∈a->t<wd.length->nd (W wd p++[c])=Y t->W wd t=W wd p++[c]->ix bk t∈f.map (·.1))/\f.length<=b.length+a.length:=by
 intro a
 induction a with
 |nil=>exact λb m _ g _=>⟨b,m,rfl,g,λk h=>h,λc t h=>(λh=>nomatch h) h,Zn _⟩
 |cons w a A =>
  intro b m hw g hl;rw[Ze]at hl;refine L2.ah λP_ v=>?_;obtain⟨c,j⟩:=w;obtain⟨t,s,rfl,C⟩:=zL H hM r (hw _ Zv);have bo:=sb1 H hM (c:=c) (i:=i) r s b (by omega);obtain⟨d,u⟩:∃d,d=if (W wd t).length=(W wd p).length+1 then pF b (ix bk t) (i,c) else b:=⟨_,rfl⟩
  rw[← u]at bo;have e1:(∀q∈d,vw bk wd q)/\(∀k∈b.map (·.1),k∈d.map (·.1))/\(W wd t=W wd p++[c]->ix bk t∈d.map (·.1))/\d.length<=b.length+1:=by
   rw[u];split
   ·rename_i o;refine⟨λq G=>?_,λk l=>pM b _ _ k (.inl l),λ_=>pM b _ _ _ (.inr L),AV _ _ _⟩;rcases A9 b _ _ q G with z | rfl
    ·exact g q z
    ·exact⟨t,p,rfl,D,s,r,((H.i.sf C).eq_of_length (by rw[o,Zp];rfl)).symm⟩
   ·rename_i o;exact⟨g,λk l=>l,λz=>absurd (by rw[z,Zp];rfl) o,YW _⟩
  obtain⟨F,E,S,R⟩:=e1;obtain⟨f,n,e,y,x,P,O⟩:=A d _ (λw h=>hw w (Zw _ h)) F (by omega);refine v ?_;refine⟨f,n,(eA L bo).trans e,y,λk l=>x k (E k l),λU N hm X B Q=>?_,by grind⟩;grind
include hN
theorem HD(a:i<(aB bk).length):ix bk (aB bk)[i]=i:=Ju hN a
theorem sb3:∀(r:Wa)(i:Nat)(b:Og)(o n d:W4),(aB bk).drop i=r->(∀q∈b,vw bk wd q)->b.length+30*r.length<1000000->(∀x,x∈aB bk->x<wd.length)->∃f v u s,forL (kT [bh 2,bh 3]) gz (fo i ((r.map (row (aX bk) (aB bk))).map kg)) (E5 bk b o n d)=Y (.nx (E5 bk f v u s))/\(∀q∈f,vw bk wd q)/\(∀k∈b.map (·.1),k∈f.map (·.1))/\∀p∈r,∀c t,t<wd.length->nd (W wd p++[c])=Y t->W wd t=W wd p++[c]->97<=c/\c<=122->ix bk t∈f.map (·.1):=by
 intro r
 induction r with
 |nil=>exact λi b o n d _ g _ _=>⟨b,o,n,d,rfl,g,λk h=>h,λp h=>nomatch h⟩
 |cons p r S =>
  intro i b o n d hd g hl D;rw[Ze]at hl;have a:=Nat.lt_of_not_le λy=>by rw[X9 y]at hd;cases hd
  rw[Yc a]at hd;refine L2.ah λP_ P=>?_;obtain⟨j,hd2⟩:=Wk hd;have F:=D p (by rw[← j];exact Yv a);have hi:i=ix bk p:=by rw[← j];exact(HD H hM hN a).symm
  have U:(steps (aX bk) (aB bk) p).length<=26:=by
   unfold steps sk;rw[Zt];exact ZW (YY _ _) (by decide)
  obtain⟨b1,s,e,g1,g2,g3,g4⟩:=Vb H hM F hi _ b d (λw h=>h) g (by omega);obtain⟨f,v,u,O,e',R,C,Q⟩:=S _ b1 _ _ s hd2 g1 (by omega) D;refine P ?_;refine⟨f,v,u,_,(eA L ((dz (m:=.fr) ?_ L).trans e)).trans e',R,λk hk=>C k (g2 k hk),λB SD c t E A N G=>?_⟩
  ·have er:e2 aL (aa 3) (Q3 3) (E5 bk b (Q0 (i:Int)) (pc (kg (row (aX bk) (aB bk) p))) d)=Y (.fr,OQ (steps (aX bk) (aB bk) p)):=by
    refine e2v (x:=(.fr,kg (row (aX bk) (aB bk) p))) ?_ L ?_
    ·show Y _=_;unfold up;rw[qB];rfl
    ·rw[← pL];show Y _=_
     simp_all
   show (e2 _ _ _ _).bind _=_;rw[er];rfl
  ·rcases Zj.mp SD with rfl | z
   ·refine C _ (g3 c t ?_ E A N);have l:=tf (aX bk) (aB bk) B c G;rw[H.i.wy (H.i.top F) c,A]at l;obtain⟨q,hq1,X⟩:=Zy.mp l;grind
   ·exact Q B z c t E A N G
theorem B9(w:wd.length<=241)(v:(aB bk).length=wd.length)(n:∀t,t<wd.length->Az (W wd t)):∃b:Og,eK [KS (tabOf bk)]=Y (.fr,.dct 0 (bT b))/\(∀q∈b,vw bk wd q)/\∀t,0<t->t<wd.length->ix bk t∈b.map (·.1):=by
 obtain⟨b,u,s,r,e,m,_,l⟩:=sb3 H hM hN (aB bk) 0 [] _ _ _ L (λq h=>nomatch h) (by show 0+_<_;omega) (λx h=>by rw[H.i.len];exact(hM x).mp h);refine⟨b,dI L (sq L (sq ((dz L L).trans e) L)),m,λt h0 d=>?_⟩;have o:W wd t≠[]:=λz=>by
  have:=H.i.top d;rw[z,H.i.z]at this;grind
 obtain⟨x,c,a⟩:∃x c,W wd t=x++[c]:=⟨_,_,(List.dropLast_concat_getLast o).symm⟩
 obtain⟨p,j,f⟩:=H.i.head d a;have g:W wd t=W wd p++[c]:=by rw[f];exact a
 exact l p ((hM p).mpr (by rw[← H.i.len];exact j)) c t d (by rw[← g];exact H.i.top d) g (n t d c (by simp_all))
end
section
variable{bk:List Tx}{nd:Wd->Option Nat}{wd:List Wd}(H:K (Hd bk) (aX bk) nd wd)(hM:∀x,x∈aB bk↔x<(aX bk).lg.length)(hN:(aB bk).Nodup)(h0:(aB bk).idxOf 0=0)(hl:wd.length<=241)(hm:(aB bk).length=wd.length)(MP:∀t,t<wd.length->Az (W wd t)/\(W wd t).length<=120)
include H hM
theorem AH{t:Nat}(b:s<wd.length)(d:t<wd.length)(h:ix bk s=ix bk t):s=t:=by
 have g:∀{x},x<wd.length->(aB bk)[ix bk x]?=Y x:=λ{x} a=>by
  have hm:=(hM x).mpr (by rw[← H.i.len];exact a);rw[Zr (Yl.mpr hm),XC]
 have:=g b
 simp_all
include h0
theorem C7(N:∀q∈b,vw bk wd q)(G:∀t,0<t->t<wd.length->ix bk t∈b.map (·.1)):∀(k t:Nat)(u:Tx)(F:Nat)(a:W4),(W wd t).length<=k->t<wd.length->k<F->u.length+k<=1000->∃l,dH (e2 NQ (aa 1) (Q3 0)) kU F [pc (KS (tabOf bk)),Q0 (ix bk t:Int),pc (.dct 0 (bT b)),Q2 u,a]=Y (.nx [pc (KS (tabOf bk)),Q0 0,pc (.dct 0 (bT b)),Q2 (W wd t++u),l]):=by
 have cd:∀(t:Nat)(u:Tx)(a:Option _),e2 _ (aa 1) (eC _) [pc (KS (tabOf bk)),Q0 _,pc (.dct 0 (bT b)),Q2 u,a]=Y _:=λt u a=>e2v (x:=(.fr,.int (ix bk t:Int))) (y:=(.fr,.int ((0:Nat):Int))) L L (xZ L L (qb _ _));have w:0<wd.length:=H.i.lt H.i.z;intro k
 induction k with
 |zero =>
  intro t u F a h f A _;obtain⟨F,rfl⟩:∃j,F=j+1:=⟨F-1,by omega⟩
  have r:W wd t=[]:=YU.mp (Nat.le_zero.mp h);have d:t=0:=by
   have:=H.i.top f;rw[r,H.i.z]at this
   simp_all
  subst d;have c:=cd 0 u a;rw[show ix bk 0=0 from h0]at c ⊢;exact⟨a,by rw[r];exact dY c⟩
 |succ k v =>
  intro t u F a h f A Q;obtain⟨F,rfl⟩:∃j,F=j+1:=⟨F-1,by omega⟩
  by_cases d:t=0
  ·subst d;have c:=cd 0 u a;rw[show ix bk 0=0 from h0]at c ⊢;exact⟨a,by rw[H.i.wz];exact dY c⟩
  ·refine L2.ah λR s=>?_;obtain⟨⟨i,c⟩,e1,O⟩:=Kc b _ (G t (Ys d) f);obtain⟨P,p,E,D,C,B,g⟩:=N _ O;cases AH H hM f C E;cases (show i=ix bk p from D);have g:W wd t=W wd p++[c]:=g;have o:=congrArg List.length g;rw[Zp,ZN]at o;obtain⟨l,e⟩:=v p ([c]++u) F (pc (vB (ix bk p,c))) (by omega) B (by omega) (by grind);refine s ?_;refine⟨l,(lR ((cd t u a).trans (by rw[decide_eq_false λz=>d (AH H hM f w (z.trans h0.symm))];rfl)) (sq (aI (m:=.fr) (e2v (x:=(.pu,.dct 0 _)) (y:=(.fr,.int _)) L L ?_) (by decide) (by show 4<5;decide)) (sq (aI (m:=.fr) (GS (m:=.fr) (n:=.fr) (x:=[c]) (y:=u) L L (by show 1+_<=_;omega)) (by decide) (by show 3<5;decide)) (aI (m:=.fr) (t:=.int _) L (by decide) (by show 1<5;decide))))).trans (e.trans (by rw[g,Yu]))⟩;show (if J=J then (fM _ _).map _ else M)=_;rw[Zm L,e1];rfl
include hN hl hm MP
theorem yh(a:t<wd.length):cK [KS (tabOf bk),.int (ix bk t:Int)]=Y (.fr,.str (W wd t)):=by
 have j:t<(aX bk).lg.length:=by rw[← H.i.len];exact a
 obtain⟨b,e,g,f⟩:=B9 H hM hN hl hm λt h=>(MP t h).1;obtain⟨l,d⟩:=C7 H hM h0 g f _ t [] Gp _ (MP t a).2 a (by decide) (by decide);rw[ZT]at d;have r1:sX (xP (bu aR (af (aa 0) (af (aa 1) au)))) [pc (KS (tabOf bk)),Q0 (ix bk t:Int),M,M,M]=Y (.nx [pc (KS (tabOf bk)),Q0 (ix bk t:Int),M,M,M]):=by
  show (((bu _ _ _).map _).map _)=_;rw[bq (xv (x:=(.pu,KS _)) L (xv (r:=au) (x:=(.fr,.int _)) L L)) (show aR _=Y _ from B8 (by rw[Zt];exact Ew hM j))];rfl
 exact dI L (sq r1 (sq (aI (m:=.fr) (bq (xv (r:=au) (x:=(.pu,KS _)) L L) e) (by decide) (by show 2<5;decide)) (sq (U1:=[pc _,pc _,pc _,pc _,M]) L (sq d L))))
end
abbrev gT(G:List (List Pl)):T:=.lst (G.map λl=>T.lst (l.map tP))
noncomputable def QC(G:List (List Pl))(i:Nat)(p:Pl):List (List Pl):=G.set i (G.getD i []++[p])
abbrev Ph(B:T)(g:T)(G:List (List Pl))(f e d b a:W4):Env:=[pc B,pc g,oc (gT G),f,e,d,b,a]
def JF{G:List (List Pl)}{n e:Nat}(f:i<G.length)(g:(G.getD i []).length<16777216)(d b:W4):gp (Ph B a G (Q0 (n:Int)) d (Q0 (e:Int)) b (Q0 (i:Int)))=Y (.nx (Ph B a (QC G i (n,e)) (Q0 (n:Int)) d (Q0 (e:Int)) b (Q0 (i:Int)))):=by
 have h:sF 2 (aa 7) (af (i7 (af (aa 3) (af (aa 5) au))) au) (Ph B a G (Q0 (n:Int)) d (Q0 (e:Int)) b (Q0 (i:Int)))=Y ((.fr,.non),Ph B a (QC G i (n,e)) (Q0 (n:Int)) d (Q0 (e:Int)) b (Q0 (i:Int))):=by
  show ((Lg _ _).bind _)=_;rw[Zt,B1 f,Zq,ZY,Zr f];show ((bc _ [(.fr,tP (n,e))]).map _)=_;have hg:G.getD i []=G[i]:=by simp_all
  rw[hg]at g;rw[fW (by simp_all)];show Y ((Md.fr,T.non),[pc B,pc a,oc _,_,_,_,_,_])=_;unfold QC;rw[hg,show T.lst (G[i].map tP++[tP _])=(λl:List Pl=>T.lst (l.map tP)) (G[i]++[(n,e)]) from by simp,← List.map_set]
 show (sF 2 _ _ _).map _=_;rw[h];rfl
def uB{G:List (List Pl)}(p:Pl)(a:i<G.length)(k:Nat):(QC G i p).getD k []=G.getD k []++if k=i then [p] else []:=by
 unfold QC;rw[Zo];by_cases h:k=i
 ·simp_all
 ·rw[ZH (Z9 h),Zl h,ZT,← Zo]
section
def pb1{n e:Nat}(g f:W4):∀(a:Wa)(G:List (List Pl))(d:W4),a.Nodup->(∀i∈a,i<G.length/\(G.getD i []).length<100000)->∃b h,forL (bh 7) gp (a.map λ(i:Nat)=>T.int (i:Int)) (Ph B tb G (Q0 (n:Int)) g (Q0 (e:Int)) f d)=Y (.nx (Ph B tb b (Q0 (n:Int)) g (Q0 (e:Int)) f h))/\b.length=G.length/\∀k,b.getD k []=G.getD k []++if k∈a then [(n,e)] else []:=by
 intro a
 induction a with
 |nil=>exact λG d _ _=>⟨G,d,rfl,rfl,λk=>by simp⟩
 |cons i a q =>
  intro G d nd m;obtain⟨p,o⟩:=Zd.mp nd;obtain⟨h0,t⟩:=m i Zv;obtain⟨b,h,e1,r,e3⟩:=q (QC G i (n,e)) _ o (λj l=>⟨by unfold QC;rw[ZF];exact(m j (Zw _ l)).1,by
   rw[uB _ h0,Zl (λz=>p (by rw[← z];exact l)),ZT];exact(m j (Zw _ l)).2⟩)
  refine⟨b,h,(eA L (JF h0 (by lia) g f)).trans e1,r.trans (by unfold QC;rw[ZF]),λk=>?_⟩;rw[e3,uB _ h0,Yu];congr 1;by_cases s:k=i
  ·grind
  simp_all
def vV{l:Wa}{a b:Nat}(f:a∈l)(h:b∈l)(e:l.idxOf a=l.idxOf b):a=b:=by
 have g:∀{x},x∈l->l[l.idxOf x]?=Y x:=λ{x} d=>by rw[Zr (Yl.mpr d),XC]
 have:=g f
 simp_all
end
section
variable{bk:List Tx}{nd:Wd->Option Nat}{wd:List Wd}(H:K (Hd bk) (aX bk) nd wd)(hM:∀x,x∈aB bk↔x<(aX bk).lg.length)(hN:(aB bk).Nodup)(h0:(aB bk).idxOf 0=0)(hw:∀m,m<wd.length->(W wd m).length<=1000)
def wN(a:List Tx)(b:List Wd)(k:Nat):Tx:=sw (aX a) b ((aB a).getD k 0)
include H hM hN hw
theorem IM(f:nd p=Y m)(t:Hd bk p):((MW (aX bk) 1000 m).map (ix bk)).Nodup/\(∀i∈(MW (aX bk) 1000 m).map (ix bk),i<(aB bk).length)/\∀k,k<(aB bk).length->(k∈(MW (aX bk) 1000 m).map (ix bk)↔wN bk wd k <:+ p):=by
 obtain⟨l,v⟩:=wq H _ m (H.i.lt f) (hw m (H.i.lt f));have d:∀{j},j<wd.length->j∈aB bk:=λh=>(hM _).mpr (by rw[← H.i.len];exact h);refine⟨List.Pairwise.map _ (R:=λa b=>a∈aB bk/\b∈aB bk/\a≠b) (λa b h e=>h.2.2 (vV h.1 h.2.1 e)) (v.imp_of_mem λ{a b} u hb q=>⟨d ((l a).mp u).1,d ((l b).mp hb).1,q⟩),λi s=>?_,λk n=>?_⟩
 ·obtain⟨j,g,rfl⟩:=ZQ.mp s;exact Yl.mpr (d ((l j).mp g).1)
 ·have o:ix bk ((aB bk).getD k 0)=k:=by
   simp_all
  have g:(aB bk).getD k 0<wd.length:=by
   rw[H.i.len];refine(hM _).mp ?_;rw[Zo,Zr n];exact Yv n
  rw[show wN bk wd k <:+ p↔(aB bk).getD k 0∈MW _ _ m from(DU H (hw m (H.i.lt f)) f t (H.i.QN g)).symm];constructor
  ·intro h;obtain⟨j,r,e⟩:=ZQ.mp h;have:=vV (d ((l j).mp r).1) (d g) (e.trans o.symm);rw[← this];exact r
  ·exact λh=>ZQ.mpr ⟨_,h,o⟩
include h0
def plR(r:List Tx)(n:Nat)(w:Tx):List Pl:=(r.zipIdx n).flatMap λp=>(TC w p.1).map λe=>(p.2,e)
theorem pb2(t:Tx)(n:Nat)(D:t∈bk)(h:W4):∀(k e:Nat)(G:List (List Pl))(g f a:W4),e+k=t.length+1->G.length=(aB bk).length->(∀i,(G.getD i []).length+k<100000)->∃d o l j,forL (kT [bh 5,bh 6]) jo (fo e (((wl bk nd t).drop e).map λ(n:Nat)=>T.int (n:Int))) (Ph (.lst (bk.map .str)) (KS (tabOf bk)) G (Q0 (n:Int)) h g f a)=Y (.nx (Ph (.lst (bk.map .str)) (KS (tabOf bk)) d (Q0 (n:Int)) h o l j))/\d.length=G.length/\∀i,i<(aB bk).length->d.getD i []=G.getD i []++((List.range' e k).filter λe=>(wN bk wd i).isSuffixOf (t.take e)).map λe=>(n,e):=by
 have R:(wl bk nd t).length=t.length+1:=by unfold wl;grind
 intro k
 induction k with
 |zero =>
  intro e G g f a E hl p;rw[X9 (by omega)];exact⟨G,g,f,a,rfl,rfl,λi _=>by simp⟩
 |succ k C =>
  intro e G g f a E hl p;have u:Hd bk (t.take e):=.inr ⟨t,D,List.take_prefix _ _⟩;refine L2.ah λS B=>?_;obtain⟨m,hm⟩:=(H.some _).mpr ⟨_,u,Z7 _⟩;obtain⟨O,N,w⟩:=IM H hM hN hw hm u;have hd:(wl bk nd t).drop e=ix bk m :: (wl bk nd t).drop (e+1):=by
   rw[Yc (by omega)];congr 1;unfold wl;rw[List.getElem_map,List.getElem_range,q9 hm]
  obtain⟨Q,j,e1,s,v⟩:=pb1 h _ _ G a O λi b=>⟨by rw[hl];exact N i b,by have:=p i;omega⟩
  obtain⟨d,o,l,y,P,A,F⟩:=C (e+1) Q _ _ j (by omega) (s.trans hl) λi=>by
   have:=p i;rw[v,Zp];split
   ·show _+1+k<_;omega
   grind
  refine B ?_;refine⟨d,o,l,y,?_,A.trans s,λi b=>?_⟩
  ·rw[hd];exact(eA L ((dz (m:=.fr) (gk (bq (xv (x:=(.pu,KS _)) L (xv (r:=au) (x:=(.fr,.int _)) L L)) (Dm H hM (H.i.lt hm) (hw m (H.i.lt hm))))) L).trans e1)).trans P
  ·rw[F i b,v,Yu,X5,List.filter_cons];congr 1;by_cases q:wN bk wd i <:+ t.take e
   ·rw[Zm ((w i b).mpr q),Zm (Yi.mpr q)];rfl
   ·rw[Zl (λz=>q ((w i b).mp z)),Zl (λz=>q (Yi.mp z))];rfl
theorem pb3(hb:∀t∈bk,t.length<=120/\Az t):∀(r:List Tx)(n:Nat)(G:List (List Pl))(j h d b a:W4),(∀t∈r,t∈bk)->G.length=(aB bk).length->(∀i,(G.getD i []).length+121*r.length<90000)->∃f D C w u s,forL (kT [bh 3,bh 4]) jC ((r.zipIdx n).map λp=>T.tup [.int p.2,.str p.1]) (Ph (.lst (bk.map .str)) (KS (tabOf bk)) G j h d b a)=Y (.nx (Ph (.lst (bk.map .str)) (KS (tabOf bk)) f D C w u s))/\f.length=G.length/\∀i,i<(aB bk).length->f.getD i []=G.getD i []++plR r n (wN bk wd i):=by
 intro r
 induction r with
 |nil=>exact λn G j h d b a _ _ _=>⟨G,j,h,d,b,a,rfl,rfl,λi _=>(ZT _).symm⟩
 |cons t r ih =>
  intro n G j h d b a A hl o;have y:=A t Zv;refine L2.ah λP_ X=>?_;obtain⟨tl,tz⟩:=hb t y;simp only[Ze]at o;obtain⟨G1,w,u,s,e1,z,B⟩:=pb2 H hM hN h0 hw t n y _ _ 0 G d b a (by exact Nat.add_comm _ _) hl λi=>by have:=o i;lia
  have Q:=Yw.mpr ((H.some t).mpr ⟨t,.inr ⟨t,y,List.prefix_refl _⟩,Z7 _⟩);have R:∀i,((((List.range' 0 (t.length+1)).filter λe=>(wN bk wd i).isSuffixOf (t.take e)).map λe=>((n,e):Pl))).length<=121:=λi=>by
   rw[Zt];exact ZW (YY _ _) (by simp_all)
  obtain⟨f,P,O,N,F,E,LD,S,g2⟩:=ih _ G1 _ _ w u s (λv hv=>A v (Zw _ hv)) (z.trans hl) (λi=>by
   by_cases q:i<(aB bk).length
   ·rw[B i q,Zp];have:=o i;have:=R i;lia
   ·rw[Zo,Y7 (by lia)];have:=o i;show 0+_<_;lia)
  refine X ?_;refine⟨f,P,O,N,F,E,?_,S.trans z,λi q=>?_⟩
  ·rw[WJ,Zg];exact(eA L ((dz (m:=.fr) (l:=fo 0 _) (by
   have:=bq (g:=nU) (as:=af (aa 1) (af (aa 4) au)) (U:=Ph (.lst (bk.map .str)) (KS (tabOf bk)) G (Q0 (n:Int)) (Q2 t) d b a) (xv (x:=(.pu,KS (tabOf bk))) L (xv (r:=au) (x:=(.fr,.str t)) L L)) (G6 H hM h0 Q tz (by lia));show (bu _ _ _).bind _=_;rw[this];rfl) L).trans e1)).trans LD
  ·rw[g2 i q,B i q,Yu];unfold plR;rw[WJ,List.flatMap_cons];unfold TC;rw[Wt]
theorem t8(e:∀t∈bk,t.length<=120/\Az t)(r:bk.length<=8)(q:(aB bk).length<=1000):∃G:List (List Pl),gH [.lst (bk.map .str),KS (tabOf bk)]=Y (.fr,gT G)/\G.length=(aB bk).length/\∀i,i<(aB bk).length->G.getD i []=NK bk (wN bk wd i):=by
 have a:∀i,((List.replicate (aB bk).length ([]:List Pl)).getD i [])=[]:=λi=>by
  rw[Zo,Yk];split<;>rfl
 obtain⟨G,p,o,n,j,g,e1,b,f⟩:=pb3 H hM hN h0 hw e bk 0 _ _ _ _ _ _ (λ_ h=>h) YK λi=>by
  rw[a i];show 0+_<_;lia
 refine⟨G,?_,b.trans YK,λi d=>by rw[f i d,a i];rfl⟩;exact dI L (sq (by
  have c:=de (k:=1) (tg:=bh 0) (it:=dA (aa 1)) (elt:=dB au) (U:=[pc (.lst (bk.map .str)),pc (KS _),M,M,M,M,M,M]) (m:=.pu) (λm=>kg (row _ _ m)) (λ_=>T.lst []) _ (by
    show Y (Md.pu,(tabOf bk).map _)=_;unfold tabOf tab;rw[ZA];rfl) L (by lia) λm _=>⟨_,rfl,rfl⟩
  refine(nz c L (by show 2<8;decide)).trans ?_;rw[show (aB bk).map _=(List.replicate _ ([]:List Pl)).map λl=>T.lst (l.map tP) from by rw[List.map_const',List.map_replicate];rfl];rfl) (sq ((dz (by rw[← enum_zip];rfl) L).trans e1) L))
end
noncomputable abbrev zT(l:W0):T:=.lst (l.map .int)
def So(l:List Pl):W0:=fg (jb (l.map λp=>(p.1:Int)))
def xi(l:List Pl)(i:Int):i∈So l ↔ ∃p∈l,(p.1:Int)=i:=by
 unfold So;rw[(dZ _).mem_iff,iX,ZQ]
theorem pQ:∀(N:Nat)(l:W0),l.Nodup->(∀x∈l,0<=x/\x<(N:Int))->l.length<=N
 |0,l,_,h=>by
  cases l with
  |nil=>exact Zn _
  |cons a l=>have:=h a Zv;lia
 |N+1,l,nd,h=>by
  have e:=pQ N (l.erase (N:Int)) (nd.erase _) λx b=>by
   grind
  grind
def wA{N:Nat}(h:∀x∈l,0<=x/\x<(N:Int)):(jb l).length<=N:=pQ N _ (j6 l) λx a=>h x ((iX l x).mp a)
def sset{a:Ex}{N:Nat}(d:a U=Y (m,zT l))(b:l.length+1<4096)(h:∀x∈l,0<=x/\x<(N:Int))(e:N<64):eN gU (af a au) U=Y (.fr,zT (fg (jb l))):=gM (xv d L) (by
 show (jO _).bind _=_;rw[ints_map _,List.map_id'];show (if l.length+1<4096/\(jb l).length<64 then _ else _)=_;rw[Zm ⟨b,XD (wA h) e⟩])
def vS(l:List Pl)(d:l.length+1<4096)(h:∀p∈l,p.1<8):iL [.lst (l.map tP)]=Y (.fr,zT (So l)):=by
 have c:cN 1 (bh 0) (dA (aa 0)) M (e2 aL (aa 0) (Q3 0)) [pc (.lst (l.map tP))]=Y (.fr,zT (l.map λp=>(p.1:Int))):=by
  have:=de (k:=1) (tg:=bh 0) (it:=dA (aa 0)) (elt:=e2 aL (aa 0) (Q3 0)) (U:=[pc _]) tP _ l (gk L) L (by lia) λp _=>⟨_,rfl,rfl⟩
  simp_all
 exact dI L (dX (sset c (by simp_all) (λx a=>by
  obtain⟨p,b,rfl⟩:=ZQ.mp a;have:=h p b;lia) (N:=8) (by decide)))
def Ib{x:Int}:md (m,.int x) (n,zT l)=Y (.fr,.bl (decide (x∈l))):=by
 show (if (J&&(l.map _).all _)=J then Y _ else M)=_;have a:(l.map T.int).all flat=J:=by
  rw[XY];exact ZS.mpr λ_ _=>rfl
 rw[a,Bool.true_and,Zm L,List.any_map];congr 3;rw[Xf,Xo,decide_eq_true_iff]
 simp_all
def uT(l a:W0)(hw:a.length<=1000):iz [zT l,zT a]=Y (.fr,.bl (a.all λn=>decide (n∈l))):=by
 have c:=de (k:=1) (tg:=bh 0) (it:=dA (aa 1)) (elt:=e2 _ (aa 0) (aa 1)) (U:=[pc (zT l),pc (zT a)]) _ _ a (gk L) L (by lia) λn _=>⟨_,rfl,e2v L L Ib⟩
 refine dI L (dX (gM (xv c L) ?_));show (l7 _).bind _=_;rw[qq _]
 simp_all
section
variable{bk:List Tx}{nd:Wd->Option Nat}{wd:List Wd}(H:K (Hd bk) (aX bk) nd wd)(hM:∀x,x∈aB bk↔x<(aX bk).lg.length)(hN:(aB bk).Nodup)(h0:(aB bk).idxOf 0=0)(hl:wd.length<=241)(hm:(aB bk).length=wd.length)(MP:∀t,t<wd.length->Az (W wd t)/\(W wd t).length<=120)
def wc(g:∀t∈bk,t.length<=120)(i:bk.length<=8)(w:Tx):(NK bk w).length+1<4096/\∀p∈NK bk w,p.1<8:=by
 refine⟨?_,λp b=>?_⟩
 ·have key:∀(l:List (Tx×Nat)),(∀p∈l,p.1.length<=120)->(l.flatMap λp=>(TC w p.1).map λe=>(p.2,e)).length<=121*l.length:=λl=>by
   induction l with
   |nil=>intro _;exact Zn _
   |cons a l d =>
    intro h;rw[List.flatMap_cons,Zp,Zt,Ze];have n:=d λp b=>h p (Zw _ b);have m:(TC w a.1).length<=a.1.length+1:=by
     exact ZW (YY _ _) (by simp_all)
    have j:=h a Zv;lia
  have:=key (bk.zipIdx 0) λp b=>g _ (List.fst_mem_of_mem_zipIdx b);rw[List.length_zipIdx]at this;unfold NK;lia
 ·obtain⟨t,f,_⟩:=xw.mp b;have:=(Zk.mp f).1;exact Zc this i
include H hM hN h0 hl hm MP
theorem vO(b:∀t∈bk,t.length<=120/\Az t)(d:bk.length<=8):gf [.lst (bk.map .str),KS (tabOf bk)]=Y (.fr,.lst ((List.range (aB bk).length).map λk=>zT (So (NK bk (wN bk wd k))))):=by
 obtain⟨G,e1,f,j⟩:=t8 H hM hN h0 (λm h=>by have:=(MP m h).2;lia) b d (by lia);have l:G=(List.range (aB bk).length).map λk=>NK bk (wN bk wd k):=by
  apply Xa;intro i;by_cases g:i<(aB bk).length
  ·simp_all
  simp_all
 have e:gT G=.lst ((List.range (aB bk).length).map λk=>T.lst ((NK bk (wN bk wd k)).map tP)):=by
  simp_all
 rw[e]at e1;refine dI L (dX (de _ _ _ (gk (bq (xv L (xv L L)) e1)) L (by rw[Yz];lia) λk _=>⟨_,rfl,bq (xv L L) (vS _ (wc (λt a=>(b t a).1) d _).1 (wc (λt a=>(b t a).1) d _).2)⟩))
end
def wL(b:List Tx)(a:List Wd)(k:Nat):Tx:=W a ((aB b).getD k 0)
theorem A6(f:Int->Tx):∀(r:W0)(c:Int),(PQ f c r=c\/PQ f c r∈r)/\∀j,(j=c\/j∈r)->¬f j<f (PQ f c r)
 |[],c=>⟨.inl L,λj h=>by
   rcases h with rfl | h
   ·exact List.lt_irrefl _
   ·cases h⟩
 |i :: r,c=>by
  have e:PQ f c (i :: r)=PQ f (if M9 _ _ then i else c) r:=rfl;obtain⟨l,a⟩:=A6 f r _;rw[e];have hd:∀d,¬f d<f _->¬f d<f (PQ f (if M9 (f i) (f c) then i else c) r):=λd hd q=>hd (Ja q (a _ (.inl L)));have b:¬f i<f (if M9 (f i) (f c) then i else c):=by
   rw[jA];grind
  have g:¬f c<f (if M9 (f i) (f c) then i else c):=by
   rw[jA];grind
  grind
def Jz{i j:Int}(e:a U=Y (m,.int i))(d:b U=Y (n,.int j)):e2 oEq a b U=Y (.fr,.bl (decide (i=j))):=e2v e d (oK L L (by
 simp only[eqT];grind))
section
variable{bk:List Tx}{nd:Wd->Option Nat}{wd:List Wd}(H:K (Hd bk) (aX bk) nd wd)(hM:∀x,x∈aB bk↔x<(aX bk).lg.length)(hN:(aB bk).Nodup)(h0:(aB bk).idxOf 0=0)(hl:wd.length<=241)(hm:(aB bk).length=wd.length)(MP:∀t,t<wd.length->Az (W wd t)/\(W wd t).length<=120)
include H hM hN h0 hl hm MP
theorem HX(a:k<(aB bk).length):ix bk ((aB bk).getD k 0)=k/\(aB bk).getD k 0<wd.length:=by
 refine⟨?_,?_⟩
 ·simp_all
 ·rw[H.i.len];refine(hM _).mp ?_;rw[Zo,Zr a];exact Yv a
theorem Iv{k:Nat}(a:k<(aB bk).length):cK [KS (tabOf bk),.int (k:Int)]=Y (.fr,.str (wL bk wd k)):=by
 obtain⟨d,b⟩:=HX H hM hN h0 hl hm MP a;have:=yh H hM hN h0 hl hm MP b;rw[d]at this;exact this
theorem cell(e:k<(aB bk).length)(g:a U=Y (.pu,KS (tabOf bk)))(f:b U=Y (n,.int (k:Int))):e2 aL (e2 aL a b) (Q3 1) U=Y (.fr,.int ((wL bk wd k).length:Int)):=by
 obtain⟨h,d⟩:=HX H hM hN h0 hl hm MP e;refine e2v (rn hM (by rw[← H.i.len];exact d) g (by rw[h];exact f)) L ?_;unfold wL;rw[← Bo H hM d];rfl
theorem IS(g:∀k∈a,k<(aB bk).length)(v:a≠[])(w:a.length<=1000):∃k∈a,cz [KS (tabOf bk),KG a]=Y (.fr,.int (k:Int))/\(∀j∈a,(wL bk wd j).length<=(wL bk wd k).length)/\∀j∈a,(wL bk wd j).length=(wL bk wd k).length->¬wL bk wd j<wL bk wd k:=by
 have A:=de (k:=1) (tg:=bh 0) (it:=dA (aa 1)) (elt:=e2 _ (e2 _ (aa 1) (aa 0)) _) (U:=[pc (KS _),pc _,none,none]) _ _ a (gk L) L (by lia) λk h=>⟨_,rfl,cell H hM hN h0 hl hm MP (g k h) L L⟩
 obtain⟨M,t,M1,M2⟩:∃M:Int,eN tN (af (cN 1 _ _ _ _) au) [pc (KS (tabOf bk)),pc (KG a),none,none]=Y (.fr,.int M)/\(∃k∈a,((wL bk wd k).length:Int)=M)/\∀k∈a,((wL bk wd k).length:Int)<=M:=by
  cases a with
  |nil=>exact absurd L v
  |cons m l =>
   obtain⟨⟨D,G⟩,C⟩:=L2.rg (l.map λk=>((wL bk wd k).length:Int)) ((wL bk wd m).length:Int);refine⟨L2.kK ((wL bk wd m).length:Int) (l.map λk=>((wL bk wd k).length:Int)),gM (xv A L) ?_,?_,λk h=>?_⟩
   ·show (jO _).bind _=_;rw[ints_map _];rfl
   ·rcases C with q | q
    ·simp_all
    simp_all
   ·rcases Zj.mp h with rfl | h
    ·exact D
    simp_all
 have r:=kX (k:=1) (tg:=bh 0) (it:=dA (aa 1)) (c:=e2 oEq (e2 aL (e2 _ (aa 1) (aa 0)) _) (aa 3)) (elt:=aa 0) (U:=[pc (KS (tabOf bk)),pc (KG a),Q0 M,none]) _ _ _ a (gk L) L (by lia) λk h=>⟨_,_,rfl,Jz (cell H hM hN h0 hl hm MP (g k h) L L) L,rfl,λ_=>rfl⟩
 have f:∀k,k∈a.filter (λk=>decide (((wL bk wd k).length:Int)=M))↔k∈a/\((wL bk wd k).length:Int)=M:=λk=>by simp_all
 generalize F:a.filter (λk=>decide (((wL bk wd k).length:Int)=M))=fs at r f;have u:∀k∈fs,pf (bu cK (af (aa 1) (af (aa 0) au))) [pc (KS (tabOf bk)),pc (KG a),Q0 M,pc (KG fs)] (k:Int)=Y _:=λk h=>by
  unfold pf;rw[bq (xv L (xv L L)) (Iv H hM hN h0 hl hm MP (g k ((f k).mp h).1))];rfl
 cases fs with
 |nil =>
  obtain⟨k,b,p⟩:=M1
  simp_all
 |cons d fr =>
  obtain⟨s,B⟩:=A6 _ _ _;have mk:BW (aa 3) (bu cK (af (aa 1) (af (aa 0) au))) [pc (KS (tabOf bk)),pc (KG a),Q0 M,pc (KG (d :: fr))]=Y (.fr,.int (PQ (λi=>(pf (bu cK (af (aa 1) (af (aa 0) au))) [pc (KS (tabOf bk)),pc (KG a),Q0 M,pc (KG (d :: fr))] i).getD []) (d:Int) (fr.map λ(n:Nat)=>(n:Int)))):=by
   show (jO ((d :: fr).map λ(n:Nat)=>T.int (n:Int))).bind _=_;rw[ints_map _];show (if _ then _ else _)=_;rw[Zm];refine ZS.mpr λi x=>?_;obtain⟨k,b,rfl⟩:=ZQ.mp (show i∈(d :: fr).map _ from x);rw[u k b];rfl
  generalize E:PQ _ _ _=z at s B mk;obtain⟨k,b,rfl⟩:∃k∈d :: fr,z=(k:Int):=by
   rcases s with h | h
   ·exact⟨d,Zv,h⟩
   ·obtain⟨k,b,p⟩:=ZQ.mp h;exact⟨k,Zw _ b,p.symm⟩
  have y:=((f k).mp b).2;refine⟨k,((f k).mp b).1,dI L (sq (aI t (by decide) (by show 2<4;decide)) (sq (aI r (by decide) (by show 3<4;decide)) (dX mk))),λj o=>?_,λj o e=>?_⟩
  ·have:=M2 j o;lia
  grind
end
noncomputable abbrev UC:PySem.Str := "NoText"
def E6(h:dD [t]=Y (.fr,.bl Z)):aP [.lst l,t]=Y (.ex UC) :=
 vQ (U:=[pc (.lst l),pc t]) L ((EI (m:=.fr) (sA (m:=.fr) (x:=J) (kj (m:=.fr) (b:=Z) (bq (xv (r:=au) (x:=up .pu t) L L) h)) (λz=>nomatch z) λ_=>rfl)).trans L)
def Gi{l:W7}{i:Int}(h:i<0\/(l.length:Int)<=i):aP [.lst l,.int i]=Y (.ex UC):=by
 refine vQ (U:=[pc (.lst l),Q0 i]) L ((EI (m:=.fr) (sA (m:=.fr) (x:=Z) (kj (m:=.fr) (b:=J) L) (λ_=>kj (m:=.fr) (b:=Z) ?_) λz=>nomatch z)).trans L);by_cases h0:i<0
 ·refine wJ (x:=(.fr,.int 0)) (y:=(.fr,.int i)) L L ?_;show Y (Md.fr,T.bl (decide ((0:Int)<=i)))=_;rw[decide_eq_false (by omega)]
 ·refine nu (x:=(.fr,.int 0)) (y:=(.fr,.int i)) (z:=(.fr,.int (l.length:Int))) L L ?_ (gM (xv (x:=(.pu,.lst l)) L L) L) ?_
  ·show Y (Md.fr,T.bl (decide ((0:Int)<=i)))=_;rw[decide_eq_true (by omega)]
  ·show Y (Md.fr,T.bl (decide (i<(l.length:Int))))=_;rw[decide_eq_false (by omega)]
def Jt{l:W7}(a:i<l.length):aP [.lst l,.int (i:Int)]=Y (.ok (.fr,.non)):=by
 refine GH (U:=[pc (.lst l),Q0 (i:Int)]) L ((HL (m:=.fr) (sA (m:=.fr) (x:=Z) ?_ (λ_=>?_) (λh=>by cases h))).trans rfl)
 ·exact kj (b:=J) L
 ·refine kj (m:=.fr) (b:=J) (nu L L ?_ (gM (xv L L) L) ?_)
  ·simp_all
  simp_all
def VX(n:Nat)(t:T):Prop:=dD [t]=Y (.fr,.bl Z)\/∃i:Int,t=.int i/\(i<0\/(n:Int)<=i)
def rx{a:List Tx}(h:VX a.length t):aP [.lst (a.map .str),t]=Y (.ex UC):=by
 rcases h with h | ⟨i,rfl,h⟩
 ·exact E6 h
 ·exact Gi (by rw[Zt];exact h)
abbrev LB:LJ:=Pz (λc=>sX (xP c)) (ie aP (af (aa 0) (af (aa 2) au)))
abbrev EH(a:List Tx)(s:T)(z:W4):Env:=[pc (.lst (a.map .str)),pc s,z,M,M,M,M]
theorem zj{b:List Tx}{s:T}:∀(d:Wa)(z:W4),(∀n∈d,n<b.length)->∃f,∀r,iZ (bh 2) LB (d.map (λ(n:Nat)=>T.int (n:Int))++r) (EH b s z)=iZ (bh 2) LB r (EH b s f)
 |[],z,_=>⟨z,λ_=>rfl⟩
 |n :: d,z,h=>by
  obtain⟨f,e⟩:=zj d (Q0 (n:Int)) λm hm=>h m (Zw _ hm);refine⟨f,λr=>?_⟩;rw[← e r];have c:=sR (g:=aP) (U:=EH b s (Q0 (n:Int))) (xv (a:=aa 0) (x:=(.pu,.lst (b.map .str))) L (xv (a:=aa 2) (r:=au) (x:=(.fr,.int (n:Int))) L L)) (Jt (by rw[Zt];exact h n Zv));show (LB (EH b s (Q0 (n:Int)))).bind _=_;have i:LB (EH b s (Q0 (n:Int)))=Y (.ok (.nx (EH b s (Q0 (n:Int))))):=Eg c (by
   show ((QT _ _).map _).map _=_;rw[En c];rfl)
  rw[i];rfl
def EJ{a:List Tx}(r:LJ):(C3 (BH (bh 2) (dA (aa 1)) LB) r) (EH a (.lst l) M)=(iZ (bh 2) LB l (EH a (.lst l) M)).bind λo=>match o with
  |.ok (.nx b)=>r b
  |o=>Y o:=by
 have:dA (aa 1) (EH a (.lst l) M)=Y ((up .pu (.lst l)).1,l):=by
  unfold dA aa up;dsimp only;rfl
 unfold C3 BH;rw[this,Zq];dsimp only;rw[Zm (by unfold up;split<;>rfl)];try rfl
def Gc{d:List Tx}{b:Wa}{t:T}{rs:W7}(f:∀n∈b,n<d.length)(h:VX d.length t):fR [.lst (d.map .str),.lst (b.map (λ(n:Nat)=>T.int (n:Int))++t :: rs)]=Y (.ex UC):=by
 obtain⟨z,e⟩:=zj (s:=.lst (b.map (λ(n:Nat)=>T.int (n:Int))++t :: rs)) b M f;refine vQ (U:=EH d (.lst (b.map (λ(n:Nat)=>T.int (n:Int))++t :: rs)) (pc t)) L ((EJ _).trans ?_);rw[e (t :: rs)];have c:LB (EH d (.lst (b.map (λ(n:Nat)=>T.int (n:Int))++t :: rs)) (pc t))=Y (.ex UC _):=ED (sZ (g:=aP) (xv (a:=aa 0) (x:=(.pu,.lst (d.map .str))) L (xv (a:=aa 2) (r:=au) (x:=up .pu t) L L)) (rx h));show ((LB (EH d (.lst (b.map (λ(n:Nat)=>T.int (n:Int))++t :: rs)) (pc t))).bind _).bind _=_;rw[c];rfl
theorem wU(g:Nat->T):∀(n k:Nat),fo k ((List.range' k n).map g)=(List.range' k n).map λ(j:Nat)=>T.tup [.int (j:Int),g j]
 |0,k=>rfl
 |n+1,k=>by
  rw[X5,Zg,Zg];show T.tup _ :: fo _ _=_;rw[wU g n _]
def sW(t w:Tx):fz [.str t,.str w]=Y (.fr,.int (zg t w+(w.length:Int))):=dI L (dX (e2v L L L))
def Holds(b:List Tx)(a:Wa)(w:Tx):Prop:=∀n∈a,∃p∈NK b w,p.1=n
def JU(b:List Tx)(a:Wa)(w:Tx):T:=.tup [.str w,.lst (a.map λn=>T.int (zg (b.getD n []) w+(w.length:Int)))]
section
variable{bk:List Tx}{nd:Wd->Option Nat}{wd:List Wd}(H:K (Hd bk) (aX bk) nd wd)(hM:∀x,x∈aB bk↔x<(aX bk).lg.length)(hN:(aB bk).Nodup)(h0:(aB bk).idxOf 0=0)(hl:wd.length<=241)(hm:(aB bk).length=wd.length)(MP:∀t,t<wd.length->Az (W wd t)/\(W wd t).length<=120)
include H hM hN h0 hl hm MP
theorem zI(A:eX [.lst (bk.map .str)]=Y (.fr,KS (tabOf bk)))(E:∀t∈bk,t.length<=120/\Az t)(G:bk.length<=8)(i:∀n∈b,n<bk.length)(B:b.length<=100)(D:∃k,k<(aB bk).length/\Holds bk b (wN bk wd k)) :
  ∃v,fR [.lst (bk.map .str),KG b]=Y (.ok (.fr,v)):=by
 obtain⟨e,Q⟩:=zj (s:=KG b) b M i;have s1:=aI (U:=[pc _,pc (KG b),e,M,M,M,M]) (bq (as:=af (aa 0) au) (xv L L) A) (by decide) (by show 3<7;decide);have l:=aI (U:=[pc (.lst (bk.map .str)),pc (KG b),e,pc (KS (tabOf bk)),M,M,M]) (sset (a:=aa 1) (N:=8) (by
  unfold zT KG;rw[ZA];rfl) (by rw[Zt];lia) (λx f=>by
   obtain⟨n,d,rfl⟩:=ZQ.mp f;have:=i n d;lia) (by decide)) (by decide) (by show 4<7;decide)
 generalize g:fg _=ws at l;have o:∀x,x∈ws ↔ ∃n∈b,(n:Int)=x:=λx=>by
  rw[← g,(dZ _).mem_iff,iX,ZQ]
 have F:∀k,(ws.all λn=>decide (n∈So _))=J↔Holds bk b (wN bk wd k):=λk=>by
  rw[ZS];constructor
  ·intro h n d;obtain⟨p,j,O⟩:=(xi _ _).mp (of_decide_eq_true (h _ ((o _).mpr ⟨n,d,rfl⟩)));exact⟨p,j,by lia⟩
  ·intro h x f;obtain⟨n,d,rfl⟩:=(o x).mp f;obtain⟨p,j,O⟩:=h n d;exact decide_eq_true ((xi _ _).mpr ⟨p,j,by lia⟩)
 have it:pH (bu gf (af (aa 0) (af (aa 3) au))) [pc (.lst (bk.map .str)),pc (KG b),e,pc (KS (tabOf bk)),pc (zT ws),M,M]=Y (.fr,(List.range (aB bk).length).map λ(k:Nat)=>T.tup [.int (k:Int),zT (So (NK bk (wN bk wd k)))]):=by
  show (bu _ _ _).bind _=_;rw[bq (xv L (xv L L)) (vO H hM hN h0 hl hm MP E G)];show Y _=_;rw[Wt,wU]
 have u:=kX (k:=2) (tg:=kT [bh 0,bh 1]) (c:=bu _ (af (aa 1) (af (aa 6) _))) (elt:=aa 0) (m:=.fr) _ _ _ _ it L (by rw[Yz];lia) λk _=>⟨_,_,rfl,bq (xv L (xv (r:=au) L L)) (uT _ ws (by
  rw[← g,(dZ _).length_eq];exact ZW (wA (N:=8) λx f=>by
   obtain⟨n,d,rfl⟩:=ZQ.mp f;have:=i n d;lia) (by decide))),rfl,λ_=>rfl⟩
 generalize q:(List.range _).filter _=ks at u;have mk:∀k,k∈ks↔k<(aB bk).length/\Holds bk b _:=λk=>by
  rw[← q,YG,Yj,F k]
 obtain⟨k,C,P,X,S⟩:=IS H hM hN h0 hl hm MP (λk h=>((mk k).mp h).1) (λz=>by
  obtain⟨k,h⟩:=D;have:=(mk k).mpr h;grind) (by
  rw[← q];exact ZW (YY _ _) (by rw[Yz];lia))
 have w:=aI (U:=[pc (.lst (bk.map .str)),pc (KG b),e,pc _,pc (zT ws),pc _,M]) (bq (as:=af (aa 3) (af (bu _ (af (aa 3) (af (aa 5) au))) au)) (xv L (xv (bq (xv L (xv L L)) P) L)) (Iv H hM hN h0 hl hm MP ((mk k).mp C).1)) (by decide) (by show 6<7;decide);have R:=de (k:=1) (tg:=bh 0) (it:=dA (aa 1)) (elt:=bu _ (af (e2 _ (aa 1) (aa 0)) (af (aa 7) au))) (U:=[pc _,pc _,e,pc (KS (tabOf bk)),pc (zT ws),pc (KG ks),Q2 (wL bk wd k)]) _ _ b (gk L) L (by lia) λn d=>⟨_,rfl,bq (xv (e2v L L (G2 _ bk (n:Int) [] (by lia) (by have:=i n d;lia) L)) (xv L L)) (sW _ _)⟩
 have y:i7 (af (aa 6) (af (cN 1 (bh 0) (dA (aa 1)) M (bu fz (af (e2 aL (aa 1) (aa 0)) (af (aa 7) au)))) au)) [pc (.lst (bk.map .str)),pc (KG b),e,pc (KS (tabOf bk)),pc (zT ws),pc (KG ks),Q2 (wL bk wd k)]=Y (.fr,JU bk b (wL bk wd k)):=by
  show (af _ _ _).bind we=_;rw[xv (x:=(.fr,.str (wL bk wd k))) L (xv R L)];show Y (up _ (.tup _))=_;unfold up;split<;>rfl
 have e1:=Q [];rw[ZT]at e1;have fin:=IF (sq s1 (sq l (sq (aI (m:=.fr) u (by decide) (by show 5<7;decide)) (sq w (dX y)))));exact⟨_,Gy L ((EJ _).trans (by
  rw[e1];exact fin))⟩
end
section
variable{bk:List Tx}{nd:Wd->Option Nat}{wd:List Wd}(H:K (Hd bk) (aX bk) nd wd)(hM:∀x,x∈aB bk↔x<(aX bk).lg.length)
include H
theorem DK(hw:nd w=Y j)(a:nd v=Y j):NK bk w=NK bk v:=by
 unfold NK;rw[List.flatMap_def,List.flatMap_def];congr 1;refine YE λq b=>?_;congr 1;refine List.filter_congr λe _=>?_;have:=(H.eq hw a).mp L (q.1.take e) (.inr ⟨_,List.fst_mem_of_mem_zipIdx b,List.take_prefix _ _⟩);rw[Xf,Yi,Yi];exact this
include hM
theorem Bj{w:Tx}(e:Pt bk w):∃k,k<(aB bk).length/\NK bk w=NK bk (wN bk wd k)/\w <:+ wL bk wd k:=by
 obtain⟨j,a⟩:=(H.some w).mpr (Eh.mp e);have d:=H.i.lt a;have f:=Yl.mpr ((hM j).mpr (by rw[← H.i.len];exact d));have b:(aB bk).getD (ix bk j) 0=j:=by
  simp_all
 have g:wN bk wd (ix bk j)=sw (aX bk) wd j:=by unfold wN;rw[b]
 refine⟨_,f,?_,?_⟩
 ·rw[g];exact DK H a (H.i.QN d)
 ·unfold wL;rw[b];exact H.i.sf a
end
structure Ma(bk:List Tx)(nd:Wd->Option Nat)(wd:List Wd):Prop where
 H:K (Hd bk) (aX bk) nd wd
 hM:∀x,x∈aB bk↔x<(aX bk).lg.length
 hN:(aB bk).Nodup
 h0:(aB bk).idxOf 0=0
 hl:wd.length<=241
 hm:(aB bk).length=wd.length
 hb:∀t∈bk,t.length<=120/\Az t
 h8:bk.length<=8
 hB:Of (aX bk) 1000 [0] 0=some (aB bk)
 tb:eX [.lst (bk.map .str)]=some (.fr,KS (tabOf bk))
def IR{bk:List Tx}(B:SV bk):∃nd a,Ma bk nd a:=by
 obtain⟨_,nd,a,H,hl,hB,hM,hm,h0⟩:=B.k;refine⟨nd,a,H,hM,?_,h0,hl,hm,λt b=>⟨ZW (rP b) B.sum,B.az t b⟩,B.NH,hB,GA B⟩;obtain⟨l,e,q,_⟩:=H.met (k:=1000) (by omega)
 simp_all
section
variable{bk:List Tx}{nd:Wd->Option Nat}{wd:List Wd}(A:Ma bk nd wd)
include A
theorem Ma.pt:(∃m,nd w=Y m)↔Pt bk w:=(A.H.some w).trans Eh.symm
theorem Ma.wrd(d:m<wd.length):Az (W wd m)/\(W wd m).length<=120:=by
 rcases A.pt.mp ⟨m,A.H.i.top d⟩ with h | ⟨t,b,h⟩
 ·rw[h];exact⟨(λc a=>nomatch a),by decide⟩
 ·exact⟨λc a=>(A.hb t b).2 c (h.subset a),ZW h.length_le (A.hb t b).1⟩
theorem Ma.shared{a:Wa}(f:∀n∈a,n<bk.length)(e:a.length<=100):∃v,fR [.lst (bk.map .str),KG a]=Y (.ok (.fr,v)):=by
 obtain⟨g,d,b,_⟩:=Bj A.H A.hM (w:=[]) (.inl L);exact zI A.H A.hM A.hN A.h0 A.hl A.hm (λm h=>A.wrd h) A.tb A.hb A.h8 f e ⟨g,d,λn i=>⟨(n,0),by
  rw[← b];exact xw.mpr ⟨bk[n]'(f n i),Zr _,Yt _,Xg⟩,rfl⟩⟩
end
def yf{b:List Tx}{d:Wa}{t:T}{rs:W7}(f:∀n∈d,n<b.length)(h:VX b.length t):cq [.lst (b.map .str),.lst (d.map (λ(n:Nat)=>T.int (n:Int))++t :: rs)]=Y (.fr,.str [116,101,120,116]):=by
 have e:=Gc (rs:=rs) f h;generalize d.map (λ(n:Nat)=>T.int (n:Int))++t :: rs=l at e;refine dI (U:=[pc (.lst (b.map .str)),pc (.lst l),pc (.obj 0 []),M]) L (sq (U1:=[pc (.lst (b.map .str)),pc (.lst l),pc .non,M]) L (sq (U1:=[pc (.lst (b.map .str)),pc (.lst l),pc (.obj 0 []),M]) ?_ L));unfold zC;rw[ED (sZ (xv (a:=aa 0) (x:=(.pu,.lst (b.map .str))) L (xv (a:=aa 1) (r:=au) (x:=up .pu (.lst l)) L L)) e),Zq];rfl
def vz{d:List Tx}(e:fR [.lst (d.map .str),KG b]=Y (.ok (.fr,v))):cq [.lst (d.map .str),KG b]=Y (.fr,.str [110,111,110,101]):=by
 have c:=sR (U:=[pc (.lst (d.map .str)),pc (KG b),pc .non,M]) (xv (a:=aa 0) (x:=(.pu,.lst (d.map .str))) L (xv (a:=aa 1) (r:=au) (x:=(.pu,KG b)) L L)) e;refine dI (U:=[pc (.lst (d.map .str)),pc (KG b),pc .non,M]) L (sq (U1:=[pc (.lst (d.map .str)),pc (KG b),pc .non,M]) L (sq (U1:=[pc (.lst (d.map .str)),pc (KG b),pc .non,M]) ?_ L));unfold zC;rw[Eg c (o:=.nx [pc (.lst (d.map .str)),pc (KG b),pc .non,M]) (by
  show ((QT _ _).map _).map _=_;rw[En c];rfl)]
 rfl
def Iz{a:W7}(f:a.length=d)(h:∃U,b (a.map (λt=>Y (.pu t))++List.replicate (e-d) M)=Y (.rt v U)):fn d e b a=Y v:=by
 obtain⟨U,h⟩:=h;exact dI f h
def oo(h:a U=Y (.nx d))(q:∃z,b d=Y (.rt v z)):∃z,av a b U=Y (.rt v z):=by
 simp_all
def Ed{j:Int}(g:a U=Y ((.fr,.int j),e))(f:0<=j/\j<1000000)(h:gy x (OU 0 j.toNat) e=Y (b,d)):jV a x U=Y (b,d):=by
 unfold jV
 simp_all
def CP(n:Nat):(OU 0 n).length=n:=by
 unfold OU;grind
def len_T{α:Type}{f:α->T}{U:Env}{m:Md}{l:List α}(h:a U=Y (m,.lst (l.map f))):eN cB (af a au) U=Y (.fr,.int (l.length:Int)):=gM (xv (r:=au) h L) (by
 show Y _=_;rw[Zt])
def IW{m n:Md}(e:a U=Y (m,.bl Z))(d:b U=Y (.fr,.bl Z)):Ou a b U=Y (.fr,.bl Z):=or2 (m:=m) (n:=n) e d
def eqB(a:List Tx):LI 60 (.lst (a.map .str))=J:=by
 show (a.map _).all _=J;rw[XY];exact ZS.mpr λ_ _=>rfl
def eqN(a:Wa):LI 60 (KG a)=J:=by
 show (a.map _).all _=J;rw[XY];exact ZS.mpr λ_ _=>rfl
abbrev EW(g:W0)(h:Int)(bk:List Tx)(k t:Int)(f e d b a:W4):Env:=[pc (.scr g),pc (.lst [.int h]),pc (.lst (bk.map .str)),sp Z k,Q0 t,f,e,d,b,a]
section
variable{n2:Int}{t:Int}
def Gb{bk:List Tx}{m:Md}{a:Ex}(h:a U=Y (m,.lst (bk.map .str))):eN p8 (af (Q3 1) (af (eN cB (af a au)) au)) U=Y (.fr,.int (max 1 (bk.length:Int))):=gM (xv (x:=(.fr,.int 1)) L (xv (r:=au) (len_T h) L)) (by
 show Y _=_;congr 3;grind)
def draw{bk:List Tx}(s:bk.length<=8):∀(r:W0)(k:Int),∃(j:Int)(b:Wa),gy (aQ [(.io 4 Z),(.px (xI (eN p8 (af (Q3 1) (af (eN cB (af (aa 3) au)) au)))))] aC) r (EW ns n2 bk k t z5 z6 z7 z8 z9)=Y (b.map λ(k:Nat)=>T.int (k:Int),EW ns n2 bk j t z5 z6 z7 z8 z9)/\b.length=r.length/\∀k∈b,k<max 1 bk.length:=by
 intro r
 induction r with
 |nil=>intro k;exact⟨k,[],rfl,rfl,λ_ h=>nomatch h⟩
 |cons i r l =>
  intro k;obtain⟨d,f,v,u,e⟩:=nx (i:=4) (m:=max 1 (bk.length:Int)) (x:=xI (eN _ _)) (U:=Q0 i :: EW ns n2 bk k t z5 z6 z7 z8 z9) (by omega) L (bV (m:=.fr) (Gb (bk:=bk) (m:=.pu) (a:=aa 3) L) L) L;obtain⟨g,b,n,o,q⟩:=l f;refine⟨g,d.toNat :: b,?_,by simp_all,λk p=>?_⟩
  ·rw[Zg,show ((d.toNat:Nat):Int)=d by omega];exact nR e L n
  grind
noncomputable def yn(n:Nat)(a b:Int):W7:=[.int (-1),.int (n:Int),.int ((n:Int)+1+a),.int (0-2-b),.int ((n:Int)+b),.non,.bl J,.bl Z,.str [48],.lst [.int 0],.tup [.int 0]]
def DW{a b:Int}(e:0<=a)(d:0<=b):∀t∈yn n a b,VX n t/\LI 58 t=J:=by
 intro t h;simp only[yn,Zj,YB,or_false]at h;rcases h with rfl | rfl | rfl | rfl | rfl | rfl | rfl | rfl | rfl | rfl | rfl
 ·exact⟨.inr ⟨_,rfl,by omega⟩,rfl⟩
 ·exact⟨.inr ⟨_,rfl,by omega⟩,rfl⟩
 ·exact⟨.inr ⟨_,rfl,by omega⟩,rfl⟩
 ·exact⟨.inr ⟨_,rfl,by omega⟩,rfl⟩
 ·exact⟨.inr ⟨_,rfl,by omega⟩,rfl⟩
 all_goals exact⟨.inl L,rfl⟩
def He{bk:List Tx}{U:Env}{m:Md}{a:Ex}(h:a U=Y (m,.lst (bk.map .str))):∃e:Int,eN qi (af (e2 NQ a (dB au)) au) U=Y (.fr,.int e)/\0<=e/\e<=1/\(bk=[]->e=0):=by
 have c:e2 NQ a (dB au) U=Y (.fr,.bl (!bk.isEmpty)):=e2v h (y:=(.fr,.lst [])) L (xZ (eqB bk) L (by cases bk<;>rfl));cases bk with
 |nil=>exact⟨0,gM (xv (r:=au) c L) L,by decide,by decide,λ_=>rfl⟩
 |cons _ _=>exact⟨1,gM (xv (r:=au) c L) L,by decide,by decide,λh=>nomatch h⟩
end
section
variable{z:Int}
def setC{a:Wa}(e:xa U=Y ((.fr,.int z),U1))(b:0<=z/\z<1000000)(h:gy x (OU 0 z.toNat) U1=Y (a.map λ(k:Nat)=>T.int (k:Int),U2))(d:j<U2.length):mY j (qU (jV xa x)) U=Y (.nx (U2.set j (oc (KG a)))):=xF (m:=.fr) (t:=KG a) (by
 unfold qU;rw[Ed e b h];rfl) d
def hO(h:x U=Y ((.fr,v),U1))(b:Ko v=J)(a:jW r U1=Y (ts,U2)):jW (x :: r) U=Y (v :: ts,U2):=by
 unfold jW;rw[h,Zq,Zm b,a];rfl
def Br:jW [] U=Y ([],U):=rfl
def AB(h:jW r U=Y (ts,U1))(a:j<U1.length):rD j (qU (jW r)) U=Y (.nx (U1.set j (pc (.lst ts)))):=by
 unfold rD qU;rw[h];exact Zm a
def Aj(g:c U=Y (m,.lst ts))(e:m ≠ .bo)(d:x U=Y ((.fr,.int z),U1))(h:0<=z)(b:z<ts.length)(f:j<U1.length):∃t∈ts,r6 j c x U=Y (.nx (U1.set j (pc t))):=by
 have a:z.toNat<ts.length:=by omega
 refine⟨ts[z.toNat],Yv _,?_⟩;unfold r6;rw[g,Zq];cases m with
 |bo=>exact absurd L e
 |_ =>
  show (x U).bind _=_;rw[d,Zq];show (Lg _ z).bind _=_;rw[sG h b,Zq,Zr a,Zq];exact Zm f
def Db9{U:Env}(n:U[i]?=Y (Y (.ow (.lst b))))(d:x U=Y ((.fr,.int z),U1))(h:U1[i]?=Y (Y (.ow (.lst l))))(g:U1[j]?=Y (Y (.pu u)))(e:fD l=J)(a:0<=z/\z<=l.length)(f:l.length<16777216):uy i x j U=Y (.nx (U1.set i (pc (.lst (l.take z.toNat++u :: l.drop z.toNat))))):=by
 unfold uy;rw[n];show (x U).bind _=_;rw[d,Zq];dsimp only;rw[h,g];exact Zm ⟨e,a.1,a.2,f⟩
end
def B4{ns:W0}{n2:Int}(A:Ma bk nd wd)(k t:Int)(z5 z6 z7 z8 z9:W4):∃k' y5 y6 y7 y8 X,pb (EW ns n2 bk k t z5 z6 z7 z8 z9)=Y (.nx (EW ns n2 bk k' t y5 y6 y7 y8 X)):=by
 obtain⟨d,R,d0,d1,f1⟩:=nx (i:=3) (x:=xI (Q3 4)) (U:=EW ns n2 bk k t z5 z6 z7 z8 z9) (by decide) rfl (bV rfl rfl) rfl;obtain⟨e,fe,e0,e1,ez⟩:=He (bk:=bk) (U:=EW ns n2 bk R t z5 z6 z7 z8 z9) (a:=aa 2) (m:=.pu) rfl;have x1:=lS (f:=jg) f1 (bV fe rfl) (jz (by omega)) rfl rfl rfl;have b0:0<=d*e/\d*e<=3:=by
  have:e=0\/e=1:=by omega
  rcases this with rfl | rfl<;>omega
 obtain⟨Q,h,f2,E,hs⟩:=draw (ns:=ns) (n2:=n2) (t:=t) (z5:=z5) (z6:=z6) (z7:=z7) (z8:=z8) (z9:=z9) A.h8 (OU 0 (d*e).toNat) R;rw[CP]at E;have S:∀n∈h,n<bk.length:=λn u=>by
  have h1:=hs n u;cases bk with
  |nil =>
   rw[ez rfl,Int.mul_zero]at E;rw[YU.mp E]at u;cases u
  |cons _ _ =>
   rw[Ze]at *;omega
 have s1:=setC (j:=5) x1 ⟨b0.1,by omega⟩ f2 (by show 5<10;decide);obtain⟨l,P,g0,g1,f3⟩:=nx (i:=3) (x:=xI (e2 DR (Q3 10) (Q3 59))) (m:=100000000000000000000000000000000000000000000000000000000000) (U:=EW ns n2 bk Q t (pc (KG h)) z6 z7 z8 z9) (by decide) rfl (bV (m:=.fr) (e2v (x:=(.fr,.int 10)) (y:=(.fr,.int 59)) rfl rfl rfl) rfl) rfl;obtain⟨a,G,a0,a1,f4⟩:=nx (i:=3) (x:=xI (Q3 2)) (U:=EW ns n2 bk P t (pc (KG h)) (Q0 l) z7 z8 z9) (by decide) rfl (bV rfl rfl) rfl;have F:∀{k:Int},eN cB (af (aa 2) au) (EW ns n2 bk k t (pc (KG h)) (Q0 l) z7 z8 z9)=Y (.fr,.int (bk.length:Int)):=len_T (m:=.pu) rfl;have l1:∀{k:Int},e2 bE (eN cB (af (aa 2) au)) (Q3 1) (EW ns n2 bk k t (pc (KG h)) (Q0 l) z7 z8 z9)=Y (.fr,.int ((bk.length:Int)+1)):=e2v F rfl rfl;have s4:=AB (j:=7) (hO (x:=xI (Q3 (-1))) (U:=EW ns n2 bk P t (pc (KG h)) (Q0 l) z7 z8 z9) rfl rfl (hO (bV F rfl) rfl (hO (lS (f:=bE) (bV l1 rfl) f4 rfl rfl rfl rfl) rfl (hO (x:=xI (e2 t4 (e2 t4 (Q3 0) (Q3 2)) (aa 6))) rfl rfl (hO (x:=xI (e2 bE (eN cB (af (aa 2) au)) (aa 6))) (bV (e2v (F (k:=G)) rfl rfl) rfl) rfl Br))))) (by show 7<10;decide);obtain⟨q,k5,q0,q1,f5⟩:=nx (i:=3) (x:=xI (Q3 11)) (U:=EW ns n2 bk G t (pc (KG h)) (Q0 l) (pc (.lst ((yn bk.length a l).take 5))) z8 z9) (by decide) rfl (bV rfl rfl) rfl;have c5:e2 bE (aa 7) (dB (af (eC .non) (af (eC (.bl J)) (af (eC (.bl Z)) (af (eC (.str [48])) (af (dB (af (Q3 0) au)) (af (i7 (af (Q3 0) au)) au))))))) (EW ns n2 bk G t (pc (KG h)) (Q0 l) (pc (.lst ((yn bk.length a l).take 5))) z8 z9)=Y (.pu,.lst (yn bk.length a l)) :=
  e2v (x:=(.pu,.lst ((yn bk.length a l).take 5))) (y:=(.fr,.lst [.non,.bl J,.bl Z,.str [48],.lst [.int 0],.tup [.int 0]])) rfl rfl (by
   rw[B5,mf (by show 11<=16777216;decide)];rfl)
 obtain⟨b,hb,s5⟩:=Aj (j:=7) c5 (by decide) f5 q0 q1 (by show 7<10;decide);obtain⟨w,H⟩:=DW a0 g0 b hb;obtain⟨p,B,p0,p1,f6⟩:=nx (i:=3) (m:=(h.length:Int)+1) (x:=xI (e2 bE (eN cB (af (aa 5) au)) (Q3 1))) (U:=EW ns n2 bk k5 t (pc (KG h)) (Q0 l) (pc b) (oc (KG h)) z9) (by omega) rfl (bV (m:=.fr) (e2v (len_T (m:=.pu) rfl) rfl rfl) rfl) rfl;have D:=Db9 (i:=8) (j:=7) rfl f6 rfl rfl (jB _ (λ_=>rfl) h) ⟨p0,by rw[Zt];omega⟩ (by rw[Zt];omega);rw[← List.map_take,← List.map_drop]at D;generalize N:(List.map (λ(k:Nat)=>T.int (k:Int)) (h.take p.toNat))++b :: List.map (λ(k:Nat)=>T.int (k:Int)) (h.drop p.toNat)=L at D;have eL:LI 59 (.lst L)=J:=by
  show L.all _=J;rw[← N,List.all_append,Xh,XY,XY,H];simp[LI]
 have o:LI 60 (.tup [.lst (bk.map .str),.lst L])=J:=by
  show (LI 59 _&&(LI 59 _&&J))=J;rw[eL,show LI 59 (.lst (bk.map .str))=J from by
   show (bk.map _).all _=J;rw[XY];exact ZS.mpr λ_ _=>rfl]
  rfl
 obtain⟨s,hm,e8⟩:∃s:Md,s ≠ .bo/\eN hZ (af (aa 8) au) (EW ns n2 bk B t (pc (KG h)) (Q0 l) (pc b) (pc (.lst L)) z9)=Y (s,.lst L):=by
  refine⟨if fD L then .fr else .pu,by split<;>decide,gM (xv (x:=(.pu,.lst L)) rfl rfl) (mf ?_)⟩;rw[← N,Zp,Ze,Zt,Zt];grind
 have s9:=aI (i:=9) (m:=s) (t:=.tup [.lst (bk.map .str),.lst L]) (e:=i7 (af (eN hZ (af (aa 2) au)) (af (eN hZ (af (aa 8) au)) au))) (U:=EW ns n2 bk B t (pc (KG h)) (Q0 l) (pc b) (pc (.lst L)) z9) (by
  show (af _ _ _).bind we=_;rw[xv (x:=(.fr,.lst (bk.map .str))) (gM (xv (r:=au) (x:=(.pu,.lst (bk.map .str))) rfl rfl) ((mf (by rw[Zt];have:=A.h8;omega)).trans (by rw[jB _ (λ_=>rfl)];rfl))) (xv e8 rfl)];cases s<;>first | rfl | exact absurd rfl hm) hm (by show 9<10;decide)
 have C:aa 9 (EW ns n2 bk B t (pc (KG h)) (Q0 l) (pc b) (pc (.lst L)) (pc (.tup [.lst (bk.map .str),.lst L])))=Y (.pu,.tup [.lst (bk.map .str),.lst L]):=rfl;have O:=bq (g:=cq) (xv (e2v (f:=aL) C (b:=Q3 0) rfl (z:=(.pu,.lst (bk.map .str))) rfl) (xv (r:=au) (e2v (f:=aL) C (b:=Q3 1) rfl (z:=(.pu,.lst L)) rfl) rfl)) (by
  rw[← N];exact yf (λn u=>S n (List.mem_of_mem_take u)) w)
 obtain⟨v,hv⟩:=A.shared S (by omega);have cn:=bq (g:=cq) (U:=EW ns n2 bk B t (pc (KG h)) (Q0 l) (pc b) (pc (.lst L)) (pc (.tup [.lst (bk.map .str),.lst L]))) (xv (a:=aa 2) (x:=(.pu,.lst (bk.map .str))) rfl (xv (a:=aa 5) (r:=au) (x:=(.pu,KG h)) rfl rfl)) (vz hv);refine⟨_,_,_,_,_,_,sq s1 (sq (U1:=EW ns n2 bk Q t (pc (KG h)) z6 z7 z8 z9) rfl (sq (gw f3 rfl (by show 6<10;decide)) (sq s4 (sq s5 (sq (nz (t:=KG h) (gM (xv (r:=au) (x:=(.pu,KG h)) rfl rfl) ((mf (by rw[Zt];omega)).trans (by rw[jB _ (λ_=>rfl)];rfl))) rfl (by show 8<10;decide)) (sq D (sq rfl (sq s9 (sq (Dx (IW (m:=.fr) (n:=.fr) (e2v O (y:=(.fr,.str [116,101,120,116])) rfl rfl) (e2v C (y:=(.pu,.tup [.lst (bk.map .str),.lst L])) rfl (xZ o o (sT 60 _ o)))) rfl) (Dx (m:=.fr) (vM (m:=.fr) (x:=!h.isEmpty) (e2v (x:=(.pu,KG h)) (y:=(.fr,.lst [])) rfl rfl (xZ (eqN h) rfl (by cases h<;>rfl))) (λ_=>e2v cn (y:=(.fr,.str [110,111,110,101])) rfl rfl) λ_=>rfl) rfl))))))))))⟩
def A7(ns:W0)(p:ns.length<=63):Bf [.scr ns]=Y (.fr,.bl J):=by
 obtain⟨n,e1⟩:=sy ns p 0 (by decide);obtain⟨q,L,z,u,i,s⟩:=Dp n;obtain⟨n2,bk,e3,y,bs,x⟩:=GW ⟨u,i,s⟩ q;obtain⟨v,w⟩:=sy ns p 1 (by decide);obtain⟨nd,G,A⟩:=IR (bk:=bk) ⟨y,bs,x⟩;obtain⟨_,f,k,t,h,g,d,b,a,rfl⟩:=lC (tg:=bh 4) (body:=pb) (λ(k:Nat)=>T.int (k:Int)) (λ_ U=>∃k o h g d b a,U=[pc (.scr ns),pc (.lst [.int n2]),pc (.lst (bk.map .str)),sp Z k,o,h,g,d,b,a]) (by
  rintro j r _ ⟨k,o,h,g,d,b,a,rfl⟩;obtain⟨H,F,E,D,C,B,e⟩:=B4 (ns:=ns) (n2:=n2) A k (j:Int) h g d b a;exact⟨_,_,rfl,e,_,_,_,_,_,_,_,rfl⟩) (List.range 4) _ ⟨v,M,M,M,M,M,M,rfl⟩
 refine Iz rfl (oo (nz (bq (xv rfl (xv rfl rfl)) e1) rfl (by show 1<10;decide)) (oo (xF (cx (l:=[.str L]) rfl (xq (cx (un:=Z) (k:=0) (l:=[]) rfl rfl rfl rfl rfl rfl z) rfl rfl) rfl rfl rfl rfl e3) (by show 2<10;decide)) (oo rfl (oo rfl (oo (nz (bq (xv rfl (xv rfl rfl)) w) rfl (by show 3<10;decide)) (oo ((dz (m:=.fr) ?_ rfl).trans f) (oo rfl ⟨_,dX rfl⟩)))))));rw[ir (m:=.fr) (j:=4) rfl (by decide),lE];rfl
end T33
end
section
namespace T33
open PySem PySem.Spec PyProof.Rows L2 VS
def qv{X:Cx}(i:Nat)(a:{`q8,X.N[i]?=Y x})(b:Ni X.env.scope x:=by exact Or.inl L)(c:{`q2,K3 x})(d:{`q2,K4 x}):PV G X (.Name x p) (aa i):=aZ i a b c d
def Q4{α:Sort _}{x:α}{b:Prop}:x=x∨b:=.inl L
abbrev Q5:List Str:=["_law_book_here", "_law_some", "_law_caught", "e"]
abbrev Q6:List Str:=["_law_book_here", "_law_some"]
abbrev Q7:List Str:=["_law_k", "_law_script", "_law_spring_here", "_law_book_here", "_law_more", "_law_turn", "_law_good", "_law_far", "_law_bad", "_law_some", "_law_handed"]
abbrev Q8:List Str:=["_law_k", "_law_spring_here", "_law_letters", "_law_few", "_law_start", "_law_step"]
abbrev Q9:List Str:=["_law_k", "_law_spring_here", "_law_signs_here", "_law_most"]
abbrev Qa:List Str:=["_law_script", "_law_k"]
abbrev Qb:List Str:=["_law_spring_here", "_law_most"]
abbrev Qc:List Str:=["_law_spring_here", "_law_signs_here", "_law_most"]
abbrev Qd:List Str:=["_law_spring_here", "_law_signs_here"]
abbrev Qe:List Str:=["_law_spring_here"]
abbrev Qf:List Str:=["book", "number"]
abbrev Qg:List Str:=["book", "table"]
abbrev Qh:List Str:=["number", "book", "some", "-3", "table", "wanted", "fitting", "word"]
abbrev Qi:List Str:=["row", "book", "table", "found", "number", "text", "end", "head", "stand"]
abbrev Qj:List Str:=["self", "head", "sign"]
abbrev Qk:List Str:=["self", "head", "word"]
abbrev Ql:List Str:=["self", "long", "link", "ways"]
abbrev Qm:List Str:=["self", "node", "numbers"]
abbrev Qn:List Str:=["self", "node", "sign"]
abbrev Qo:List Str:=["self"]
abbrev Qp:List Str:=["sign", "self", "node", "numbers", "link", "ways", "steps"]
abbrev Qq:List Str:=["stand", "table", "stands", "long", "as_long"]
abbrev Qr:List Str:=["stand", "texts", "book", "some", "number", "table", "wanted", "fitting", "word"]
abbrev Qs:List Str:=["table", "stand"]
abbrev Qt:List Str:=["table", "stands", "long", "as_long"]
abbrev Qu:List Str:=["text", "word"]
abbrev Qv:List Str:=["texts", "wanted"]
noncomputable def top(i:Nat):Stmt:=PySem.Challenge.pw_allparts_k33_texts_that_are_none.main.body.getD i (.Pass ⟨0,0,0,0⟩)
structure LH(mg:X4):Prop where
 Nh:mg "ValueError" = none
 UL:mg "all" = none
 Sg:mg "bool" = none
 Pf:mg "dict" = none
 K7:mg "enumerate" = none
 Pe:mg "int" = none
 Kl:mg "isinstance" = none
 KW:mg "len" = none
 N2:mg "list" = none
 Rr:mg "max" = none
 UK:mg "min" = none
 Lq:mg "range" = none
 Rq:mg "set" = none
 LW:mg "sorted" = none
 QB:mg "tuple" = none
structure LF(K:Xd)(mg:X4)(A B:On):Prop where
 m0:mg "NoText" = some (.ref A)
 q0:PySem.W.excIn K A [.type "ValueError",.type "Exception",.type "BaseException",.type "object"] "ValueError.__new__" = true
 x0:XN.OG K A
 m1:mg "TooMany" = some (.ref B)
 q1:PySem.W.excIn K B [.type "ValueError",.type "Exception",.type "BaseException",.type "object"] "ValueError.__new__" = true
 x1:XN.OG K B
 Ll:∃Db,mg "PartError" = some (.ref Db)/\PySem.W.exmOne K (.ref A) (.ref Db)=some true/\PySem.W.exmOne K (.ref B) (.ref Db)=some true
 MA:∃Db,mg "NoBook" = some (.ref Db)/\PySem.W.kitOne K (.ref A) (.ref Db)=some false/\PySem.W.kitOne K (.ref B) (.ref Db)=some false
 Lz:∃Db,mg "NoNumber" = some (.ref Db)/\PySem.W.kitOne K (.ref A) (.ref Db)=some false/\PySem.W.kitOne K (.ref B) (.ref Db)=some false
 Na:∃Db,mg "NoRow" = some (.ref Db)/\PySem.W.kitOne K (.ref A) (.ref Db)=some false/\PySem.W.kitOne K (.ref B) (.ref Db)=some false
 L9:∃Db,mg "NoStand" = some (.ref Db)/\PySem.W.kitOne K (.ref A) (.ref Db)=some false/\PySem.W.kitOne K (.ref B) (.ref Db)=some false
 L8:∃Db,mg "NoTable" = some (.ref Db)/\PySem.W.kitOne K (.ref A) (.ref Db)=some false/\PySem.W.kitOne K (.ref B) (.ref Db)=some false
 Mz:∃Db,mg "NoText" = some (.ref Db)/\PySem.W.kitOne K (.ref A) (.ref Db)=some true/\PySem.W.kitOne K (.ref B) (.ref Db)=some false
 My:∃Db,mg "NoWord" = some (.ref Db)/\PySem.W.kitOne K (.ref A) (.ref Db)=some false/\PySem.W.kitOne K (.ref B) (.ref Db)=some false
 L7:∃Db,mg "TooMany" = some (.ref Db)/\PySem.W.kitOne K (.ref A) (.ref Db)=some false/\PySem.W.kitOne K (.ref B) (.ref Db)=some true
 LQ:PySem.W.kitOne K (.ref A) (.type "ValueError")=some true/\PySem.W.kitOne K (.ref B) (.type "ValueError")=some true
noncomputable abbrev TK:List Str:=["  ", "longs", "links", "ways"]
abbrev gX(K:Xd)(C Db b a:On):Gx:=R5 TK K C Db b a
def gJ{K:Xd}:mM ((R5 TK K C Db b a).at m):=Dn (by decide +kernel) (by decide +kernel)
structure Lr(K:Xd)(mg:X4)(C Db:On):Prop where
 one:C=Db
 Km:MG K C
 OS:mg "Nodes" = some (.ref C)
 KO:cW K C "longs"
 KP:cW K C "links"
 KZ:cW K C "ways"
def fm{K:Xd}(a:Lr K b C Db):MD ((R5 TK K C Db e d).at m) K 1 "longs" := Ga L a.Km (a.one ▸ a.Km) a.KO (a.one ▸ a.KO)
def fA{K:Xd}(a:Lr K b C Db):MD ((R5 TK K C Db e d).at m) K 2 "links" := Ga L a.Km (a.one ▸ a.Km) a.KP (a.one ▸ a.KP)
def eh{K:Xd}(a:Lr K b C Db):MD ((R5 TK K C Db e d).at m) K 3 "ways" := Ga L a.Km (a.one ▸ a.Km) a.KZ (a.one ▸ a.KZ)
section
variable(P:SB)(w:UV)(base:UF){K:Xd}
abbrev eR:Stmt:=inClass (top 22) 1
def kP:bt Ql Ql (ak eR):=by constructor<;>first | rfl | decide +kernel
def aM(F:Ku K "new_node" "Nodes.new_node" eR f d)(b:Meth K C "new_node" f)(B:LH mg)(a:Lr K mg C Db)(Z:LF K mg XA XB) :
  MtAt P w K mg base 1 (gX K C Db XA XB) 0 "new_node" Ql [false,false,J] aW:=rY F b a.Km (ku (by decide +kernel) (by decide +kernel)) kP L L (λ_ _ _ _ _ _ e hl=>by obtain⟨_,_,_,_,rfl⟩:=L2.JE hl;rfl) λ_ _ _ _ _ _ _ g =>
  (ag (Bi gJ (ka 1 (fm a) (bW 0)) (ae (qv 1) aq) L L L L L L L)
  (ag (Bi gJ (ka 2 (fA a) (bW 0)) (ae (qv 2) aq) L L L L L L L)
  (ag (CK gJ (ka 3 (eh a) (bW 0)) L L Q4 L L L L L L L L)
  (ax (bx (iT vp uU (fE B.KW (ae (w_fld gJ (fm a) (qv 0)) aq)) ar))))))
abbrev eQ:Stmt:=inClass (top 22) 0
def kY:bt Qo Qo (ak eQ):=by constructor<;>first | rfl | decide +kernel
def cf(F:Ku K "__init__" "Nodes.__init__" eQ f e)(d:Mk K C f)(B:LH mg)(a:Lr K mg C Db)(Z:LF K mg XA XB)(g:MtAt P w K mg base 1 (gX K C Db XA XB) 0 "new_node" Ql [false,false,J] aW) :
  InAt P w K mg base 2 (gX K C Db XA XB) 0 0 "Nodes" Qo eZ:=Hx F d a.OS kY L L (λ_ _ _ _ _ _ h hl=>by obtain⟨_,rfl⟩:=L2.qZ hl;rfl) λ_ _ _ _ _ _ _ b =>
  (ag (va 0 1 gJ (fm a) (cw aq) L Q4 L L L)
  (ag (va 0 2 gJ (fA a) (cw aq) L Q4 L L L)
  (ag (va 0 3 gJ (eh a) (cw aq) L Q4 L L L)
  (ax (uk (iG gJ g.at b (by decide) (bW 0) (ae ar (ae qS (ae vt aq)))) L)))))
abbrev bU:Stmt:=inClass (top 22) 4
def aY:bt ["self", "node", "sign", "old", "long", "half"] Qn (ak bU):=by constructor<;>first | rfl | decide +kernel
def aO(F:Ku K "node_just_behind" "Nodes.node_just_behind" bU f e)(d:Meth K C "node_just_behind" f)(B:LH mg)(a:Lr K mg C Db)(Z:LF K mg XA XB)(g:MtAt P w K mg base 1 (gX K C Db XA XB) 0 "new_node" Ql [false,false,J] aW) :
  MtAt P w K mg base 2 (gX K C Db XA XB) 0 "node_just_behind" Qn [false,false] aD:=rY F d a.Km (ku (by decide +kernel) (by decide +kernel)) aY L L (λ_ _ _ _ _ _ h hl=>by obtain⟨_,_,_,rfl⟩:=L2.yP hl;rfl) λ_ _ _ _ _ _ _ b =>
  (ag (aF (vf b (aV (w_fld gJ (eh a) (qv 0)) (qv 1) (λ_ _=>rfl)) (qv 2) (λ_ _=>rfl)) aY.nd L Q4)
  (ag (aF (w_add (aV (w_fld gJ (fm a) (qv 0)) (qv 1) (λ_ _=>rfl)) ar) aY.nd L Q4)
  (ag (dk (uE b (aV (w_fld gJ (fm a) (qv 0)) (qv 3) (λ_ _=>rfl)) (qv 4)) (ax (b7 3 L (Or.inl L) L L)) bI)
  (ag (eJ (iG gJ g.at b (by decide) (bW 0) (ae (qv 4) (ae (aV (w_fld gJ (fA a) (qv 0)) (qv 3) (λ_ _=>rfl)) (ae (Dj B.Pf (ae (aV (w_fld gJ (eh a) (qv 0)) (qv 3) (λ_ _=>rfl)) aq) L L) aq)))) aY.nd L Q4)
  (ag (ly gJ b (ka 2 (fA a) (bW 0)) (qv 3) (qv 5))
  (ag (gY ZE (N3.PM (qP (nL (qv 1)) (nA (uE b (w_get b (aV (w_fld gJ (eh a) (qv 0)) (qv 1) (λ_ _=>rfl)) (qv 2) L L L L) (qv 3)))))
  (ag (ly gJ b (EX b (ka 3 (eh a) (bW 0)) (qv 1) (λ_ _=>rfl) L) (qv 2) (qv 5))
  (ax (aF (aV (w_fld gJ (fA a) (qv 0)) (qv 1) (λ_ _=>rfl)) aY.nd L Q4))))
  (ax (b7 5 L (Or.inl L) L L))))))))
abbrev di:Stmt:=inClass (top 22) 3
def bS:bt ["self", "head", "sign", "fresh", "node"] Qj (ak di):=by constructor<;>first | rfl | decide +kernel
def bG(F:Ku K "head_behind" "Nodes.head_behind" di f g)(e:Meth K C "head_behind" f)(B:LH mg)(b:Lr K mg C Db)(Z:LF K mg XA XB)(h:MtAt P w K mg base 1 (gX K C Db XA XB) 0 "new_node" Ql [false,false,J] aW)(d:MtAt P w K mg base 2 (gX K C Db XA XB) 0 "node_just_behind" Qn [false,false] aD) :
  MtAt P w K mg base 3 (gX K C Db XA XB) 0 "head_behind" Qj [false,false] bF:=rY F e b.Km (ku (by decide +kernel) (by decide +kernel)) bS L L (λ_ _ _ _ _ _ i hl=>by obtain⟨_,_,_,rfl⟩:=L2.yP hl;rfl) λ_ _ _ _ _ _ _ a =>
  (ag (dk (Jc a (qv 2) (aV (w_fld gJ (eh b) (qv 0)) (qv 1) (λ_ _=>rfl)) (by with_unfolding_all rfl) L) (ax (xn (iG gJ d.at a (by decide) (bW 0) (ae (qv 1) (ae (qv 2) aq))))) bI)
  (ag (eJ (iG gJ h.at a (by decide) (bW 0) (ae (w_add (aV (w_fld gJ (fm b) (qv 0)) (qv 1) (λ_ _=>rfl)) ar) (ae ar (ae vt aq)))) bS.nd L Q4)
  (ag (aF (qv 1) bS.nd L Q4)
  (ag (gY ZE (N3.PM (qP (nL (qv 4)) (nA (vi a (qv 2) (aV (w_fld gJ (eh b) (qv 0)) (qv 4) (λ_ _=>rfl)) (by with_unfolding_all rfl)))))
  (ag (ly gJ a (EX a (ka 3 (eh b) (bW 0)) (qv 4) (λ_ _=>rfl) L) (qv 2) (qv 3))
  (ax (aF (aV (w_fld gJ (fA b) (qv 0)) (qv 4) (λ_ _=>rfl)) bS.nd L Q4))))
  (ag (dk (nL (qv 4)) (ax (xJ gJ a (ka 2 (fA b) (bW 0)) (qv 3) (iG gJ d.at a (by decide) (bW 0) (ae (qv 4) (ae (qv 2) aq))) (λ_=>rfl) L L L)) bI)
  (ax (b7 3 L (Or.inl L) L L)))))))
abbrev dC:Stmt:=inClass (top 22) 2
def dj:bt ["self", "head", "word", "sign"] Qk (ak dC):=by constructor<;>first | rfl | decide +kernel
def bO(F:Ku K "head_grown" "Nodes.head_grown" dC f d)(b:Meth K C "head_grown" f)(B:LH mg)(g:Lr K mg C Db)(Z:LF K mg XA XB)(e:MtAt P w K mg base 3 (gX K C Db XA XB) 0 "head_behind" Qj [false,false] bF) :
  MtAt P w K mg base 4 (gX K C Db XA XB) 0 "head_grown" Qk [false,false] bK:=rY F b g.Km (ku (by decide +kernel) (by decide +kernel)) dj L L (λ_ _ _ _ _ _ h hl=>by obtain⟨_,_,_,rfl⟩:=L2.yP hl;rfl) λ_ _ _ _ _ _ _ a =>
  (ag (dw ZE L (cy (qv 2)) (aK 3 dj.nd L Q4 Q4)
  (ax (eJ (iG gJ e.at a (by decide) (bW 0) (ae (qv 1) (ae (qv 3) aq))) dj.nd L Q4)))
  (ax (b7 1 L (Or.inl L) L L)))
abbrev bZ:Stmt:=inClass (top 22) 6
def aJ:bt ["self", "numbers", "met", "done", "ways", "sign"] Qo (ak bZ):=by constructor<;>first | rfl | decide +kernel
def bp{m:Me}(F:Ku K "numbers_by_node" "Nodes.numbers_by_node" bZ f e)(d:Meth K C "numbers_by_node" f)(B:LH mg)(b:Lr K mg C Db)(Z:LF K mg XA XB) :
  MpAt P w K mg base 1 ((gX K C Db XA XB).at m) 0 "numbers_by_node" Qo aS:=vn F d b.Km (ku (by decide +kernel) (by decide +kernel)) aJ L L (λ_ _ _ _ _ _ g hl=>by obtain⟨_,rfl⟩:=L2.qZ hl;rfl) λ_ _ _ _ _ _ a =>
  (ag (dR Fd aJ.nd L Q4)
  (ag (dR (cw (ae ar aq)) aJ.nd L Q4)
  (ag (aF ar aJ.nd L Q4)
  (ag (gY ZE (iu rq xU kH (qv 3) (fE B.KW (ae (qv 2) aq)) (iR _))
  (ag (aF (aV (w_fld gJ (eh b) (qv 0)) (aV (qv 2) (qv 3) (λ_ _=>rfl)) (λ_ _=>rfl)) aJ.nd L Q4)
  (ag (dw ZE L (cy (xE B.LW (ae (qv 4) aq))) (aK 5 aJ.nd L Q4 Q4)
  (ax (dk (vi a (vf a (qv 4) (qv 5) (λ_ _=>rfl)) (qv 1) (by with_unfolding_all rfl)) (ag (BS 1 a (vf a (qv 4) (qv 5) (λ_ _=>rfl)) (fE B.KW (ae (qv 2) aq)) L Q4 L L (λ_=>rfl) L L L)
  (ax (lu 2 (ae (vf a (qv 4) (qv 5) (λ_ _=>rfl)) aq) L L Q4 L L))) bI)))
  (ax (aF (w_add (qv 3) ar) aJ.nd L Q4)))))
  (iC 2 (ax (b7 1 L (Or.inl L) L L)))))))
abbrev gh:Stmt:=inClass (top 22) 7
def dy:bt ["self", "node", "numbers", "link", "ways", "steps"] Qm (ak gh):=by constructor<;>first | rfl | decide +kernel
def cV{m:Me}(F:Ku K "row_of" "Nodes.row_of" gh f e)(d:Meth K C "row_of" f)(B:LH mg)(a:Lr K mg C Db)(Z:LF K mg XA XB) :
  MpAt P w K mg base 1 ((gX K C Db XA XB).at m) 0 "row_of" Qm cZ:=vn F d a.Km (ku (by decide +kernel) (by decide +kernel)) dy L L (λ_ _ _ _ _ _ g hl=>by obtain⟨_,_,_,rfl⟩:=L2.yP hl;rfl) λ_ _ _ _ _ _ b =>
  (ag (aF (aV (w_fld gJ (fA a) (qv 0)) (qv 1) (λ_ _=>rfl)) dy.nd L Q4)
  (ag (aF (aV (w_fld gJ (eh a) (qv 0)) (qv 1) (λ_ _=>rfl)) dy.nd L (Or.inr L))
  (ag (aF (Cu B.QB (ae (ic 1 Qp L (cy (xE B.LW (ae (aZ 4 L (Or.inr Q4) L L) aq))) (dv) (λ_ _ _ _ _=>(aK 0 (show List.Nodup Qp from by decide +kernel) L Q4 (Or.inr L))) (λ_ _ _ _ _=>(iD (ae (qv 0) (ae (EM b (aZ 3 L (Or.inr Q4) L L) (vf b (aZ 5 L (Or.inr Q4) L L) (qv 0) (λ_ _=>rfl)) (λ_ _=>rfl) L) aq)))) L L (by decide)) aq)) dy.nd L Q4)
  (ag (dk (Ao (qv 3)) (ax (bx (iD (ae ar (ae ar (ae qS (ae (qv 5) aq))))))) bI)
  (ax (bx (iD (ae (w_add (aV (w_fld gJ (fm a) (qv 0)) (qv 3) (λ_ _=>rfl)) ar) (ae (aV (w_fld gJ (fm a) (qv 0)) (qv 1) (λ_ _=>rfl)) (ae (EM b (aZ 2 L (Or.inr Q4) L L) (qv 3) (λ_ _=>rfl) L) (ae (qv 5) aq)))))))))))
abbrev gI:Stmt:=inClass (top 22) 5
def ji:bt ["self", "numbers"] Qo (ak gI):=by constructor<;>first | rfl | decide +kernel
def dq{m:Me}(F:Ku K "table" "Nodes.table" gI f d)(b:Meth K C "table" f)(B:LH mg)(h:Lr K mg C Db)(Z:LF K mg XA XB)(g:∀m,MpAt P w K mg base 1 ((gX K C Db XA XB).at m) 0 "numbers_by_node" Qo aS)(e:∀m,MpAt P w K mg base 1 ((gX K C Db XA XB).at m) 0 "row_of" Qm cZ) :
  MpAt P w K mg base 2 ((gX K C Db XA XB).at m) 0 "table" Qo dr:=vn F b h.Km (ku (by decide +kernel) (by decide +kernel)) ji L L (λ_ _ _ _ _ _ i hl=>by obtain⟨_,rfl⟩:=L2.qZ hl;rfl) λ_ _ _ _ _ _ a =>
  (ag (dR (sv (g _) a (by decide) (aZ 0 L (Or.inr Q4) L L) L) ji.nd L (Or.inr L))
  (ax (FJ 1 ["node", "self", "numbers"] L L (Or.inr Q4) L L (dv) (λ_ _ _ _ _=>(aK 0 (show List.Nodup (["node", "self", "numbers"]:List Str) from by decide +kernel) L Q4 (Or.inr L))) (λ_ _ _ _ _=>(Dk (e _) a (by decide) (aZ 1 L (Or.inr Q4) L L) (ae (qv 0) (ae (aZ 2 L (Or.inr Q4) L L) aq)) L L L)) L L (by decide) (λ_=>rfl))))
abbrev kC:Stmt:=top 11
def tJ:bt ["thing"] ["thing"] (ak kC):=by constructor<;>first | rfl | decide +kernel
def c4{m:Me}(F:Ku K "is_whole" "is_whole" kC f b)(a:mg "is_whole" = Y (.ref f))(B:LH mg)(g:Lr K mg C Db)(Z:LF K mg XA XB) :
  FnAt P w K mg base 1 "is_whole" ["thing"] ((gX K C Db XA XB).at m) dD:=gu F a tJ L L (λ_ _ _ _ _ _ d hl=>by obtain⟨_,rfl⟩:=L2.qZ hl;rfl) λ_ _ _ _ _ _ e =>
  (ax (bx (GC (w_is .int B.Kl B.Pe (qv 0)) (HB (FR (w_is .bool B.Kl B.Sg (qv 0)))))))
abbrev eU:Stmt:=top 12
def lB:bt Qf Qf (ak eU):=by constructor<;>first | rfl | decide +kernel
def b9{m:Me}(F:Ku K "refuse_no_text" "refuse_no_text" eU f d)(b:mg "refuse_no_text" = Y (.ref f))(B:LH mg)(h:Lr K mg C Db)(Z:LF K mg XA XB)(e:∀m,FnAt P w K mg base 1 "is_whole" ["thing"] ((gX K C Db XA XB).at m) dD) :
  FnXt P w K mg base 2 "refuse_no_text" Qf ((gX K C Db XA XB).at m) aP:=uF F b lB L L (λ_ _ _ _ _ _ g hl=>by obtain⟨_,_,rfl⟩:=L2.cY hl;rfl) λ_ _ _ _ _ _ a =>
  (wK (Kb (N3.PM (ju (lI (d6 (bX (e _) a (ae (qv 1) aq) (by decide) L L))) (mr (lI (jx ar (qv 1) (fE B.KW (ae (qv 0) aq)) (by with_unfolding_all rfl)))))) (wK (zP Z.q0 Z.m0 L L (ae (eu (by decide +kernel) (by decide)) aq) L L L L)) (wG bI)))
abbrev vk:Stmt:=top 14
def nq:bt ["table", "word", "stands", "sign", "ways"] ["table", "word"] (ak vk):=by constructor<;>first | rfl | decide +kernel
def nN{m:Me}(F:Ku K "walk" "walk" vk f d)(b:mg "walk" = Y (.ref f))(B:LH mg)(g:Lr K mg C Db)(Z:LF K mg XA XB) :
  FnAt P w K mg base 1 "walk" ["table", "word"] ((gX K C Db XA XB).at m) nU:=gu F b nq L L (λ_ _ _ _ _ _ e hl=>by obtain⟨_,_,rfl⟩:=L2.cY hl;rfl) λ_ _ _ _ _ _ a =>
  (ag (dR (cw (ae ar aq)) nq.nd L Q4)
  (ag (dw ZE L (cy (qv 1)) (aK 3 nq.nd L Q4 Q4)
  (ag (aF (Cq B.Pf (ae (aV (aV (qv 0) (aV (qv 2) Ax (λ_ _=>rfl)) (λ_ _=>rfl)) ar (λ_ _=>rfl)) aq)) nq.nd L Q4)
  (ag (dk (vi a (qv 3) (qv 4) (by with_unfolding_all rfl)) (ax (b7 2 L (Or.inl L) L L)) bI)
  (ax (lu 2 (ae (vf a (qv 4) (qv 3) (λ_ _=>rfl)) aq) L L Q4 L L)))))
  (ax (b7 2 L (Or.inl L) L L))))
abbrev dU:Stmt:=top 16
def km:bt Qs Qs (ak dU):=by constructor<;>first | rfl | decide +kernel
def ba{m:Me}(F:Ku K "refuse_no_stand" "refuse_no_stand" dU f d)(b:mg "refuse_no_stand" = Y (.ref f))(B:LH mg)(h:Lr K mg C Db)(Z:LF K mg XA XB)(e:∀m,FnAt P w K mg base 1 "is_whole" ["thing"] ((gX K C Db XA XB).at m) dD) :
  FnAt P w K mg base 2 "refuse_no_stand" Qs ((gX K C Db XA XB).at m) aR:=gu F b km L L (λ_ _ _ _ _ _ g hl=>by obtain⟨_,_,rfl⟩:=L2.cY hl;rfl) λ_ _ _ _ _ _ a =>
  (ax (dk (N3.PM (ju (lI (d6 (bX (e _) a (ae (qv 1) aq) (by decide) L L))) (mr (lI (jx ar (qv 1) (fE B.KW (ae (qv 0) aq)) (by with_unfolding_all rfl)))))) (ax GT) bI))
abbrev fX:Stmt:=top 17
def cE:bt ["table", "before", "number", "row", "way"] ["table"] (ak fX):=by constructor<;>first | rfl | decide +kernel
def cT{m:Me}(F:Ku K "steps_before" "steps_before" fX f d)(b:mg "steps_before" = Y (.ref f))(B:LH mg)(g:Lr K mg C Db)(Z:LF K mg XA XB) :
  FnAt P w K mg base 1 "steps_before" ["table"] ((gX K C Db XA XB).at m) eK:=gu F b cE L L (λ_ _ _ _ _ _ e hl=>by obtain⟨_,rfl⟩:=L2.qZ hl;rfl) λ_ _ _ _ _ _ a =>
  (ag (dR vt cE.nd L Q4)
  (ag (dw ZE L (lq (qv 0) L B.K7) (nH L (dP (aK 2 cE.nd L Q4 Q4) (dP (aK 3 cE.nd L Q4 Q4) kJ)))
  (ax (dw ZE L (cy (aV (qv 3) ar (λ_ _=>rfl))) (aK 4 cE.nd L Q4 Q4)
  (ax (dk (uE a (aV (aV (qv 0) (aV (qv 4) ar (λ_ _=>rfl)) (λ_ _=>rfl)) ar (λ_ _=>rfl)) (w_add (aV (qv 3) ar (λ_ _=>rfl)) ar)) (ax (BS 1 a (aV (qv 4) ar (λ_ _=>rfl)) (iD (ae (qv 2) (ae (aV (qv 4) ar (λ_ _=>rfl)) aq))) L Q4 L L (λ_=>rfl) L L L)) bI)))))
  (ax (b7 1 L (Or.inl L) L L))))
abbrev lX:Stmt:=top 15
def eW:bt ["table", "stand", "before", "word", "step"] Qs (ak lX):=by constructor<;>first | rfl | decide +kernel
def dM{m:Me}(F:Ku K "longest" "longest" lX f d)(b:mg "longest" = Y (.ref f))(B:LH mg)(i:Lr K mg C Db)(Z:LF K mg XA XB)(g:∀m,FnAt P w K mg base 2 "refuse_no_stand" Qs ((gX K C Db XA XB).at m) aR)(e:∀m,FnAt P w K mg base 1 "steps_before" ["table"] ((gX K C Db XA XB).at m) eK) :
  FnAt P w K mg base 3 "longest" Qs ((gX K C Db XA XB).at m) cK:=gu F b eW L L (λ_ _ _ _ _ _ h hl=>by obtain⟨_,_,rfl⟩:=L2.cY hl;rfl) λ_ _ _ _ _ _ a =>
  (ag (vo (bX (g _) a (ae (qv 0) (ae (qv 1) aq)) (by decide) L L) L)
  (ag (aF (bX (e _) a (ae (qv 0) aq) (by decide) L L) eW.nd L Q4)
  (ag (aF (eu (by decide +kernel) (by decide)) eW.nd L Q4)
  (ag (gY ZE (ub a (qv 1) ar)
  (ag (aF (vf a (qv 2) (qv 1) (λ_ _=>rfl)) eW.nd L Q4)
  (ag (aF (w_add (aV (qv 4) ar (λ_ _=>rfl)) (qv 3)) eW.nd L Q4)
  (ax (aF (aV (qv 4) ar (λ_ _=>rfl)) eW.nd L Q4)))))
  (ax (b7 3 L (Or.inl L) L L))))))
abbrev qX:Stmt:=top 19
def oi:bt ["table", "stand", "met"] Qs (ak qX):=by constructor<;>first | rfl | decide +kernel
def lK{m:Me}(F:Ku K "chain" "chain" qX f d)(b:mg "chain" = Y (.ref f))(B:LH mg)(h:Lr K mg C Db)(Z:LF K mg XA XB)(e:∀m,FnAt P w K mg base 2 "refuse_no_stand" Qs ((gX K C Db XA XB).at m) aR) :
  FnAt P w K mg base 3 "chain" Qs ((gX K C Db XA XB).at m) nk:=gu F b oi L L (λ_ _ _ _ _ _ g hl=>by obtain⟨_,_,rfl⟩:=L2.cY hl;rfl) λ_ _ _ _ _ _ a =>
  (ag (vo (bX (e _) a (ae (qv 0) (ae (qv 1) aq)) (by decide) L L) L)
  (ag (dR (cw aq) oi.nd L Q4)
  (ag (gY ZE (nL (qv 1))
  (ag (lu 2 (ae (qv 1) aq) L L Q4 L L)
  (ax (aF (aV (aV (qv 0) (qv 1) (λ_ _=>rfl)) ar (λ_ _=>rfl)) oi.nd L Q4))))
  (ax (b7 2 L (Or.inl L) L L)))))
abbrev jl:Stmt:=top 20
def cu:bt ["book", "table", "found", "number", "text", "end", "head", "stand"] Qg (ak jl):=by constructor<;>first | rfl | decide +kernel
def ft{m:Me}(F:Ku K "places_by" "places_by" jl f g)(e:mg "places_by" = Y (.ref f))(B:LH mg)(j:Lr K mg C Db)(Z:LF K mg XA XB)(d:∀m,FnAt P w K mg base 3 "chain" Qs ((gX K C Db XA XB).at m) nk)(b:∀m,FnAt P w K mg base 1 "walk" ["table", "word"] ((gX K C Db XA XB).at m) nU) :
  FnAt P w K mg base 4 "places_by" Qg ((gX K C Db XA XB).at m) gH:=gu F e cu L L (λ_ _ _ _ _ _ i hl=>by obtain⟨_,_,rfl⟩:=L2.cY hl;rfl) λ_ _ _ _ _ _ a =>
  (ag (Bg 1 Qi (λ_ _ _ h=>GN h) L (cy (qv 1)) (dv) (λ_ _ _ _ _=>(aK 0 (show List.Nodup Qi from by decide +kernel) L Q4 (Or.inr L))) (λ_ _ _ _ _=>(cw aq)) cu.nd L Q4 L L (by decide))
  (ag (dw ZE L (lq (qv 0) L B.K7) (nH L (dP (aK 3 cu.nd L Q4 Q4) (dP (aK 4 cu.nd L Q4 Q4) kJ)))
  (ax (dw ZE L (lq (bX (b _) a (ae (qv 1) (ae (qv 4) aq)) (by decide) L L) L B.K7) (nH L (dP (aK 5 cu.nd L Q4 Q4) (dP (aK 6 cu.nd L Q4 Q4) kJ)))
  (ax (dw ZE L (cy (bX (d _) a (ae (qv 1) (ae (qv 6) aq)) (by decide) L L)) (aK 7 cu.nd L Q4 Q4)
  (ax (E2 2 L (Or.inl L) L L (qv 7) (λ_ _=>rfl) (ae (iD (ae (qv 3) (ae (qv 5) aq))) aq) L L L L L L L)))))))
  (ax (b7 2 L (Or.inl L) L L))))
abbrev j8:Stmt:=top 23
def jd:bt ["book", "nodes", "text"] ["book"] (ak j8):=by constructor<;>first | rfl | decide +kernel
def fZ{m:Me}(F:Ku K "table_of" "table_of" j8 f d)(b:mg "table_of" = Y (.ref f))(B:LH mg)(j:Lr K mg C Db)(Z:LF K mg XA XB)(g:InAt P w K mg base 2 (gX K C Db XA XB) 0 0 "Nodes" Qo eZ)(h:MtAt P w K mg base 4 (gX K C Db XA XB) 0 "head_grown" Qk [false,false] bK)(e:∀m,MpAt P w K mg base 2 ((gX K C Db XA XB).at m) 0 "table" Qo dr) :
  FnAt P w K mg base 5 "table_of" ["book"] ((gX K C Db XA XB).at m) eX:=gu F b jd L L (λ_ _ _ _ _ _ i hl=>by obtain⟨_,rfl⟩:=L2.qZ hl;rfl) λ_ _ _ _ _ _ a =>
  (ag (dR (DS g.at a (by decide) L L) jd.nd L Q4)
  (ag (dw ZE L (cy (qv 0)) (aK 2 jd.nd L Q4 Q4)
  (ax (uk (iG gJ h.at a (by decide) (bW 1) (ae ar (ae (qv 2) aq))) L)))
  (iC 1 (ax (bx (sv (e _) a (by decide) (qv 1) L))))))
abbrev ke:Stmt:=top 27
def sg:bt ["places"] ["places"] (ak ke):=by constructor<;>first | rfl | decide +kernel
def fT{m:Me}(F:Ku K "texts_in" "texts_in" ke f b)(a:mg "texts_in" = Y (.ref f))(B:LH mg)(g:Lr K mg C Db)(Z:LF K mg XA XB) :
  FnAt P w K mg base 1 "texts_in" ["places"] ((gX K C Db XA XB).at m) iL:=gu F a sg L L (λ_ _ _ _ _ _ d hl=>by obtain⟨_,rfl⟩:=L2.qZ hl;rfl) λ_ _ _ _ _ _ e =>
  (ax (bx (kM B.LW B.Rq (ae (ic 1 ["place", "places"] L (cy (qv 0)) (dv) (λ_ _ _ _ _=>(aK 0 (show List.Nodup (["place", "places"]:List Str) from by decide +kernel) L Q4 (Or.inr L))) (λ_ _ _ _ _=>(aV (qv 0) ar (λ_ _=>rfl))) L L (by decide)) aq))))
abbrev kh:Stmt:=top 25
def sC:bt Qg Qg (ak kh):=by constructor<;>first | rfl | decide +kernel
def gq{m:Me}(F:Ku K "texts_by" "texts_by" kh f e)(b:mg "texts_by" = Y (.ref f))(B:LH mg)(i:Lr K mg C Db)(Z:LF K mg XA XB)(d:∀m,FnAt P w K mg base 4 "places_by" Qg ((gX K C Db XA XB).at m) gH)(g:∀m,FnAt P w K mg base 1 "texts_in" ["places"] ((gX K C Db XA XB).at m) iL) :
  FnAt P w K mg base 5 "texts_by" Qg ((gX K C Db XA XB).at m) gf:=gu F b sC L L (λ_ _ _ _ _ _ h hl=>by obtain⟨_,_,rfl⟩:=L2.cY hl;rfl) λ_ _ _ _ _ _ a =>
  (ax (bx (ic 1 ["places", "book", "table"] L (cy (bX (d _) a (ae (qv 0) (ae (qv 1) aq)) (by decide) L L)) (dv) (λ_ _ _ _ _=>(aK 0 (show List.Nodup (["places", "book", "table"]:List Str) from by decide +kernel) L Q4 (Or.inr L))) (λ_ _ _ _ _=>(bX (g _) a (ae (qv 0) aq) (by decide) L L)) L L (by decide))))
abbrev kE:Stmt:=top 28
def ua:bt Qv Qv (ak kE):=by constructor<;>first | rfl | decide +kernel
def fU{m:Me}(F:Ku K "has_each" "has_each" kE f d)(b:mg "has_each" = Y (.ref f))(B:LH mg)(g:Lr K mg C Db)(Z:LF K mg XA XB) :
  FnAt P w K mg base 1 "has_each" Qv ((gX K C Db XA XB).at m) iz:=gu F b ua L L (λ_ _ _ _ _ _ e hl=>by obtain⟨_,_,rfl⟩:=L2.cY hl;rfl) λ_ _ _ _ _ _ a =>
  (ax (bx (w_all B.UL (ae (ic 1 ["number", "texts", "wanted"] L (cy (qv 1)) (dv) (λ_ _ _ _ _=>(aK 0 (show List.Nodup (["number", "texts", "wanted"]:List Str) from by decide +kernel) L Q4 (Or.inr L))) (λ_ _ _ _ _=>(JC a (qv 0) (aZ 1 L (Or.inr Q4) L L) (by with_unfolding_all rfl) L)) L L (by decide)) aq))))
abbrev js:Stmt:=top 30
def rO:bt Qu Qu (ak js):=by constructor<;>first | rfl | decide +kernel
def fu{m:Me}(F:Ku K "least_end" "least_end" js f b)(a:mg "least_end" = Y (.ref f))(B:LH mg)(g:Lr K mg C Db)(Z:LF K mg XA XB) :
  FnAt P w K mg base 1 "least_end" Qu ((gX K C Db XA XB).at m) fz:=gu F a rO L L (λ_ _ _ _ _ _ d hl=>by obtain⟨_,_,rfl⟩:=L2.cY hl;rfl) λ_ _ _ _ _ _ e =>
  (ax (bx (w_add (w_find (qv 0) (ae (qv 1) aq)) (fE B.KW (ae (qv 1) aq)))))
abbrev dG:Stmt:=top 29
def dn:bt Qt ["table", "stands"] (ak dG):=by constructor<;>first | rfl | decide +kernel
def bL{m:Me}(F:Ku K "stand_of_longest" "stand_of_longest" dG f b)(g:mg "stand_of_longest" = Y (.ref f))(B:LH mg)(o:Lr K mg C Db)(Z:LF K mg XA XB)(i:∀m,FnAt P w K mg base 3 "longest" Qs ((gX K C Db XA XB).at m) cK)(l:PySem.W.codeHdIn K e d=J)(LT:Tb base d "stand_of_longest.<locals>.<lambda>")(LB:Bm mg base)(j:b.code=.ref e) :
  FnAt P w K mg base 6 "stand_of_longest" ["table", "stands"] ((gX K C Db XA XB).at m) cz:=GI F g j dn L L (λ_ _ _ _ _ _ n hl=>by obtain⟨_,_,rfl⟩:=L2.cY hl;rfl) λA outer s H E a=>(
  (ag (aF (GL B.Rr (ae (ic 1 Qq L (cy (qv 1)) (dv) (λ_ _ _ _ _=>(aK 0 (show List.Nodup Qq from by decide +kernel) L Q4 (Or.inr L))) (λ_ _ _ _ _=>(aV (aV (aZ 1 L (Or.inr Q4) L L) (qv 0) (λ_ _=>rfl)) ar (λ_ _=>rfl))) L L (by decide)) aq)) dn.nd L (Or.inr L))
  (ag (oB 1 Qq (λ_ _ _ h=>wu h) L (cy (qv 1)) (dv) (λ_ _ _ _ _=>(aK 0 (show List.Nodup Qq from by decide +kernel) L Q4 (Or.inr L))) (λ_ _ _ _ _=>(uE a (aV (aV (aZ 1 L (Or.inr Q4) L L) (qv 0) (λ_ _=>rfl)) ar (λ_ _=>rfl)) (aZ 3 L (Or.inr Q4) L L))) (λ_ _ _ _ _=>(qv 0)) dn.nd L Q4 L L (by decide))
  (ax (bx (HA (k0:=3) (y := "number") (N:=Qt) a (by decide) B.UK (qv 3) (λ_ _ _ _ _ _ a=>((bX (i _) a (ae (aZ 1 L (Or.inr (Or.inr L)) L L) (ae (qv 0) aq)) (by decide) L L))) l LT LB L L L L L L L L L L L (λ_ _ _ _ _=>rfl) L L))))))
abbrev o5:Stmt:=top 26
def fO:bt ["book", "some", "number", "table", "wanted", "fitting", "word"] ["book", "some"] (ak o5):=by constructor<;>first | rfl | decide +kernel
def jh{m:Me}(F:Ku K "shared" "shared" o5 f g)(b:mg "shared" = Y (.ref f))(B:LH mg)(q:Lr K mg C Db)(Z:LF K mg XA XB)(j:∀m,FnAt P w K mg base 1 "has_each" Qv ((gX K C Db XA XB).at m) iz)(e:∀m,FnAt P w K mg base 1 "least_end" Qu ((gX K C Db XA XB).at m) fz)(l:∀m,FnAt P w K mg base 3 "longest" Qs ((gX K C Db XA XB).at m) cK)(o:∀m,FnXt P w K mg base 2 "refuse_no_text" Qf ((gX K C Db XA XB).at m) aP)(n:∀m,FnAt P w K mg base 6 "stand_of_longest" ["table", "stands"] ((gX K C Db XA XB).at m) cz)(i:∀m,FnAt P w K mg base 5 "table_of" ["book"] ((gX K C Db XA XB).at m) eX)(d:∀m,FnAt P w K mg base 5 "texts_by" Qg ((gX K C Db XA XB).at m) gf) :
  FnXt P w K mg base 7 "shared" ["book", "some"] ((gX K C Db XA XB).at m) fR:=uF F b fO L L (λ_ _ _ _ _ _ p hl=>by obtain⟨_,_,rfl⟩:=L2.cY hl;rfl) λ_ _ _ _ _ _ a =>
  (Hq (Im PassesOwn.leaving L (cy (qv 1)) (aK 2 fO.nd L Q4 Q4) (wK (AR (wF (o _) a (ae (aZ 0 L (Or.inr Q4) L L) (ae (qv 2) aq)) (by decide) L L L L L) L))) (wG (ag (aF (bX (i _) a (ae (aZ 0 L (Or.inr Q4) L L) aq) (by decide) L L) fO.nd L Q4)
  (ag (aF (kM B.LW B.Rq (ae (qv 1) aq)) fO.nd L (Or.inr L))
  (ag (oB 2 Qr (λ_ _ _ h=>wu h) L (lq (bX (d _) a (ae (aZ 0 L (Or.inr Q4) L L) (ae (qv 3) aq)) (by decide) L L) L B.K7) (Bx (dv) (dv)) (λ_ _ _ _ _=>(nH L (dP (aK 0 (show List.Nodup Qr from by decide +kernel) L Q4 (Or.inr L)) (dP (aK 1 (show List.Nodup Qr from by decide +kernel) L Q4 (Or.inr L)) kJ)))) (λ_ _ _ _ _=>(d6 (bX (j _) a (ae (qv 1) (ae (aZ 6 L (Or.inr Q4) L L) aq)) (by decide) L L))) (λ_ _ _ _ _=>(qv 0)) fO.nd L Q4 L L (by decide))
  (ag (aF (bX (l _) a (ae (qv 3) (ae (bX (n _) a (ae (qv 3) (ae (qv 5) aq)) (by decide) L L) aq)) (by decide) L L) fO.nd L (Or.inr L))
  (ax (bx (iD (ae (aZ 6 L (Or.inr Q4) L L) (ae (ic 1 Qh L (cy (qv 1)) (dv) (λ_ _ _ _ _=>(aK 0 (show List.Nodup Qh from by decide +kernel) L Q4 (Or.inr L))) (λ_ _ _ _ _=>(bX (e _) a (ae (aV (aZ 1 L (Or.inr Q4) L L) (qv 0) (λ_ _=>rfl)) (ae (aZ 7 L (Or.inr Q4) L L) aq)) (by decide) L L)) L L (by decide)) aq)))))))))))
abbrev iA:Stmt:=top 32
def bC:bt ["_law_script", "_law_k", "_law_cell", "_law_left", "_law_number", "_law_turn", "_law_more"] Qa (ak iA):=by constructor<;>first | rfl | decide +kernel
def dc{m:Me}(F:Ku K "_law_spring" "_law_spring" iA f d)(b:mg "_law_spring" = Y (.ref f))(B:LH mg)(g:Lr K mg C Db)(Z:LF K mg XA XB) :
  FnAt P w K mg base 1 "_law_spring" Qa ((gX K C Db XA XB).at m) eE:=gu F b bC L L (λ_ _ _ _ _ _ e hl=>by obtain⟨_,_,rfl⟩:=L2.cY hl;rfl) λ_ _ _ _ _ _ a =>
  (ag (aF (w_add (w_mul (qv 1) ar) ar) bC.nd L Q4)
  (ag (dk (iu (EC.or qj) EE sE (fE B.KW (ae (qv 0) aq)) ar (iR _)) (ax (aF (w_add (aV (qv 0) (w_mod (qv 1) (fE B.KW (ae (qv 0) aq))) (λ_ _=>rfl)) (w_mul (iT rZ rR (qv 1) (fE B.KW (ae (qv 0) aq))) ar)) bC.nd L Q4)) bI)
  (ag (dk (uE a (w_mod (qv 2) ar) ar) (ax (bx (cw (ae (iT rZ rR (qv 2) ar) aq)))) bI)
  (ag (aF (w_mod (w_add (iT rZ rR (qv 2) ar) (w_mul ar (qv 1))) ar) bC.nd L Q4)
  (ag (aF ar bC.nd L Q4)
  (ag (dw ZE L (iy ar L B.Lq) (aK 5 bC.nd L Q4 Q4)
  (ag (aF (w_mod (w_add (w_add (w_mul (qv 3) ar) (w_mul ar (qv 5))) ar) ar) bC.nd L Q4)
  (ag (aF (w_mod (w_mul (qv 3) (qv 3)) ar) bC.nd L Q4)
  (ax (aF (w_add (w_mul (qv 4) ar) (w_mod (w_mul (qv 6) (w_add (w_mod (qv 6) ar) ar)) ar)) bC.nd L Q4)))))
  (ax (bx (cw (ae (qv 4) aq))))))))))
abbrev kf:Stmt:=top 33
def m6:bt ["_law_spring_here", "_law_most", "_law_digit"] Qb (ak kf):=by constructor<;>first | rfl | decide +kernel
def aE{m:Me}(F:Ku K "_law_next" "_law_next" kf f d)(b:mg "_law_next" = Y (.ref f))(B:LH mg)(g:Lr K mg C Db)(Z:LF K mg XA XB) :
  IoAt P w K mg base 1 "_law_next" Qb ((gX K C Db XA XB).at m) [false] aC:=qK F b m6 L L (λ_ _ _ _ _ _ e hl=>by obtain⟨_,_,rfl⟩:=L2.cY hl;rfl) λ_ _ _ _ _ _ _ a =>
  (ag (aF (w_mod (aV (Jx (qv 0)) ar (λ_ _=>rfl)) (qv 1)) m6.nd L Q4)
  (ag (ly gJ a (Jd (bW 0)) ar (iT Al By (aV (Jx (qv 0)) ar (λ_ _=>rfl)) (qv 1)))
  (ax (b7 2 L (Or.inl L) L L))))
abbrev kc:Stmt:=top 34
def sP:bt Qc Qc (ak kc):=by constructor<;>first | rfl | decide +kernel
def eV{m:Me}(F:Ku K "_law_text" "_law_text" kc f e)(d:mg "_law_text" = Y (.ref f))(B:LH mg)(h:Lr K mg C Db)(Z:LF K mg XA XB)(b:∀m,IoAt P w K mg base 1 "_law_next" Qb ((gX K C Db XA XB).at m) [false] aC) :
  IoAt P w K mg base 2 "_law_text" Qc ((gX K C Db XA XB).at m) [false,false] eT:=qK F d sP L L (λ_ _ _ _ _ _ g hl=>by obtain⟨_,_,_,rfl⟩:=L2.yP hl;rfl) λ_ _ _ _ _ _ _ a =>
  (ax (xn (CC (eu (by decide +kernel) (by decide)) (BF Q9 L L B.Lq (bB (b _) a (bQ 0 J L (Or.inr Q4) L L (bP (aH (w_add (qv 2) ar)) bw))) (λ_ _ _ _ _=>L2.qE (show List.Nodup Q9 from by decide +kernel) L Q4 (Or.inr L)) (λ_ _ _ _ _=>(Iw (aH (aZ 2 L (Or.inr Q4) L L)) (bB (b _) a (bQ 1 J L (Or.inr Q4) L L (bP (aH (fE B.KW (ae (aZ 2 L (Or.inr Q4) L L) aq))) bw))) (λ_ _=>rfl) L)) L L L L (by decide) (λ_=>rfl)) L L L L L L)))
abbrev jc:Stmt:=top 35
def d8:bt ["_law_spring_here", "_law_letters", "_law_few", "_law_start", "_law_step"] Qe (ak jc):=by constructor<;>first | rfl | decide +kernel
def fq{m:Me}(F:Ku K "_law_signs" "_law_signs" jc f e)(d:mg "_law_signs" = Y (.ref f))(B:LH mg)(h:Lr K mg C Db)(Z:LF K mg XA XB)(b:∀m,IoAt P w K mg base 1 "_law_next" Qb ((gX K C Db XA XB).at m) [false] aC) :
  IoAt P w K mg base 2 "_law_signs" Qe ((gX K C Db XA XB).at m) [] gE:=qK F d d8 L L (λ_ _ _ _ _ _ g hl=>by obtain⟨_,rfl⟩:=L2.qZ hl;rfl) λ_ _ _ _ _ _ _ a =>
  (ag (aF (eu (by decide +kernel) (by decide)) d8.nd L (Or.inr L))
  (ag (eJ (qM (cw (ae ar (ae ar (ae ar (ae ar (ae ar (ae ar (ae ar (ae ar aq))))))))) (bB (b _) a (bQ 0 J L (Or.inl L) L L (bP (aH ar) bw)))) d8.nd L Q4)
  (ag (eJ (bB (b _) a (bQ 0 J L (Or.inl L) L L (bP (aH ar) bw))) d8.nd L (Or.inr L))
  (ag (eJ (qM (cw (ae ar (ae ar (ae ar (ae ar aq))))) (bB (b _) a (bQ 0 J L (Or.inl L) L L (bP (aH ar) bw)))) d8.nd L (Or.inr L))
  (ax (bx (CS (eu (by decide +kernel) (by decide)) (ae (ic 1 Q8 L (iy (qv 2) L B.Lq) (dv) (λ_ _ _ _ _=>(aK 0 (show List.Nodup Q8 from by decide +kernel) L Q4 (Or.inr L))) (λ_ _ _ _ _=>(aV (aZ 2 L (Or.inr Q4) L L) (w_mod (w_add (aZ 4 L (Or.inr Q4) L L) (w_mul (aZ 5 L (Or.inr Q4) L L) (qv 0))) ar) (λ_ _=>rfl))) L L (by decide)) aq))))))))
abbrev kG:Stmt:=top 36
def cX:bt ["_law_spring_here", "_law_signs_here", "_law_many", "_law_book_here", "_law_k", "_law_text_here", "_law_old"] Qd (ak kG):=by constructor<;>first | rfl | decide +kernel
def fY{m:Me}(F:Ku K "_law_book" "_law_book" kG f g)(e:mg "_law_book" = Y (.ref f))(B:LH mg)(i:Lr K mg C Db)(Z:LF K mg XA XB)(b:∀m,IoAt P w K mg base 1 "_law_next" Qb ((gX K C Db XA XB).at m) [false] aC)(d:∀m,IoAt P w K mg base 2 "_law_text" Qc ((gX K C Db XA XB).at m) [false,false] eT) :
  IoAt P w K mg base 3 "_law_book" Qd ((gX K C Db XA XB).at m) [false] h9:=qK F e cX L L (λ_ _ _ _ _ _ h hl=>by obtain⟨_,_,rfl⟩:=L2.cY hl;rfl) λ_ _ _ _ _ _ _ a =>
  (ag (eJ (qM (cw (ae ar (ae ar (ae ar (ae ar (ae ar (ae ar (ae ar (ae ar aq))))))))) (bB (b _) a (bQ 0 J L (Or.inl L) L L (bP (aH ar) bw)))) cX.nd L Q4)
  (ag (dR (cw aq) cX.nd L Q4)
  (ag (dw ZE L (iy (qv 2) L B.Lq) (aK 4 cX.nd L Q4 Q4)
  (ag (eJ (bB (d _) a (bQ 0 J L (Or.inl L) L L (bP (aH (qv 1)) (bP (qM (cw (ae ar (ae ar (ae ar (ae ar aq))))) (bB (b _) a (bQ 0 J L (Or.inl L) L L (bP (aH ar) bw)))) bw)))) cX.nd L Q4)
  (ag (Aa (wC (iu (EC.or qj) EE sE (qv 4) ar (iR _)) (v7 (uX a.units) zr (bB (b _) a (bQ 0 J L (Or.inl L) L L (bP (aH ar) bw))) (aH ar) (iR _))) (ag (eJ (FD 3 L (Or.inl L) L L (bB (b _) a (bQ 0 J L (Or.inl L) L L (bP (aH (qv 4)) bw))) (λ_ _=>rfl) L) cX.nd L Q4)
  (ax (eJ (Ey (oO jG mq (Ey (aH (qv 6)) (ui (bB (b _) a (bQ 0 J L (Or.inl L) L L (bP (aH (w_add (fE B.KW (ae (qv 6) aq)) ar)) bw)))) tQ) (aH (qv 5))) tQ (ui (aH ar))) cX.nd L Q4))) bI)
  (ax (lu 3 (ae (qv 5) aq) L L Q4 L L)))))
  (ag (Aa (wC (nQ ar (qv 2) ar (by with_unfolding_all rfl)) (v7 (uX a.units) zr (bB (b _) a (bQ 0 J L (Or.inl L) L L (bP (aH ar) bw))) (aH ar) (iR _))) (ax (xJ gJ a (bW 3) ar (oO Cd CT (oO jG mq (oO jG mq (aH (aV (qv 3) ar (λ_ _=>rfl))) (bB (d _) a (bQ 0 J L (Or.inl L) L L (bP (aH (qv 1)) (bP (aH ar) bw))))) (aH (aV (qv 3) Ax (λ_ _=>rfl)))) (oO jG mq (aH ar) (bB (b _) a (bQ 0 J L (Or.inl L) L L (bP (aH ar) bw))))) (λ_=>rfl) L L L)) bI)
  (ax (b7 3 L (Or.inl L) L L))))))
abbrev gA:Stmt:=top 37
def fJ:bt Q5 Q6 (ak gA):=by constructor<;>first | rfl | decide +kernel
def dJ{m:Me}(F:Ku K "_law_heard" "_law_heard" gA f e)(d:mg "_law_heard" = Y (.ref f))(B:LH mg)(i:Lr K mg C Db)(Z:LF K mg XA XB)(a:∀m,FnXt P w K mg base 7 "shared" ["book", "some"] ((gX K C Db XA XB).at m) fR) :
  FnAt P w K mg base 8 "_law_heard" Q6 ((gX K C Db XA XB).at m) cq:=gu F d fJ L L (λ_ _ _ _ _ _ h hl=>by obtain⟨_,_,rfl⟩:=L2.cY hl;rfl) λg A outer s H E b =>
  (ag (aF qS fJ.nd L Q4)
  (ag (Di (X:=(gP Lc P w K mg base Q5 "_law_heard" (ak gA) f g A outer s H E).L6) (G:=((gX K C Db XA XB).at m)) 3 L L (λ_ _=>(wK (AR (wF (a _) b (ae (qv 0) (ae (qv 1) aq)) (by decide) L L L L L) L)))
  (λ_=>(ax (aF (qv 3) fJ.nd L Q4))) fJ.nd L L Z.Ll.choose_spec.1 L L Z.m0 Z.Ll.choose_spec.2.1 Z.m1 Z.Ll.choose_spec.2.2)
  (ag (dk (Ao (qv 2)) (ax (bx (eu (by decide +kernel) (by decide)))) bI)
  (ag (dk (N3.PM (ju (d6 (jt false false (qv 2) L Z.MA.choose_spec.1 L L L B.Kl L Z.x0 Z.x1 Z.MA.choose_spec.2.1 Z.MA.choose_spec.2.2)) (ju (d6 (jt false false (qv 2) L Z.Lz.choose_spec.1 L L L B.Kl L Z.x0 Z.x1 Z.Lz.choose_spec.2.1 Z.Lz.choose_spec.2.2)) (mr (d6 (jt false false (qv 2) L Z.Na.choose_spec.1 L L L B.Kl L Z.x0 Z.x1 Z.Na.choose_spec.2.1 Z.Na.choose_spec.2.2)))))) (ax (bx (eu (by decide +kernel) (by decide)))) bI)
  (ag (dk (N3.PM (ju (d6 (jt false false (qv 2) L Z.L9.choose_spec.1 L L L B.Kl L Z.x0 Z.x1 Z.L9.choose_spec.2.1 Z.L9.choose_spec.2.2)) (ju (d6 (jt false false (qv 2) L Z.L8.choose_spec.1 L L L B.Kl L Z.x0 Z.x1 Z.L8.choose_spec.2.1 Z.L8.choose_spec.2.2)) (mr (d6 (jt false false (qv 2) L Z.My.choose_spec.1 L L L B.Kl L Z.x0 Z.x1 Z.My.choose_spec.2.1 Z.My.choose_spec.2.2)))))) (ax (bx (eu (by decide +kernel) (by decide)))) bI)
  (ag (dk (N3.PM (ju (d6 (jt false J (qv 2) L Z.L7.choose_spec.1 L L L B.Kl L Z.x0 Z.x1 Z.L7.choose_spec.2.1 Z.L7.choose_spec.2.2)) (mr (lI (d6 (FY J J (qv 2) L B.Nh L (by decide) L L L B.Kl L Z.x0 Z.x1 Z.LQ.1 Z.LQ.2 L L L)))))) (ax (bx (eu (by decide +kernel) (by decide)))) bI)
  (ax (bx (aV (cw (ae (eu (by decide +kernel) (by decide)) (ae (eu (by decide +kernel) (by decide)) aq))) (AJ B.Pe (ae (jt J false (qv 2) L Z.Mz.choose_spec.1 L L L B.Kl L Z.x0 Z.x1 Z.Mz.choose_spec.2.1 Z.Mz.choose_spec.2.2) aq)) (λ_ _=>rfl))))))))))
abbrev kW:Stmt:=top 38
def gg:bt ["_law_script", "_law_spring_here", "_law_book_here", "_law_more", "_law_turn", "_law_good", "_law_far", "_law_bad", "_law_some", "_law_handed"] ["_law_script"] (ak kW):=by constructor<;>first | rfl | decide +kernel
def E4{m:Me}(F:Ku K "law" "law" kW f d)(B:LH mg)(j:Lr K mg C Db)(Z:LF K mg XA XB)(i:∀m,IoAt P w K mg base 3 "_law_book" Qd ((gX K C Db XA XB).at m) [false] h9)(g:∀m,FnAt P w K mg base 8 "_law_heard" Q6 ((gX K C Db XA XB).at m) cq)(b:∀m,IoAt P w K mg base 1 "_law_next" Qb ((gX K C Db XA XB).at m) [false] aC)(h:∀m,IoAt P w K mg base 2 "_law_signs" Qe ((gX K C Db XA XB).at m) [] gE)(e:∀m,FnAt P w K mg base 1 "_law_spring" Qa ((gX K C Db XA XB).at m) eE) :
  FnOk P w K mg base Lc 9 f d ["_law_script"] (Nw ((gX K C Db XA XB).at m) Bf):=fnV F gg L L λ_ _ _ _ _ _ a =>
  (ag (dR (bX (e _) a (ae (qv 0) (ae ar aq)) (by decide) L L) gg.nd L Q4)
  (ag (BZ (Cf (i _) a (bQ 1 false L (Or.inl L) L L (bP (bB (h _) a (bQ 1 false L (Or.inl L) L L bw)) bw)) (by decide) L L L L) gg.nd L (Or.inr L) L Q4)
  (iC 2 (iC 1 (ag (dR (bX (e _) a (ae (qv 0) (ae ar aq)) (by decide) L L) gg.nd L (Or.inr L))
  (ag (dw ZE L (iy ar L B.Lq) (aK 4 gg.nd L Q4 Q4)
  (ag (DT Q7 L L B.Lq (oO A4 AW (bB (b _) a (bQ 3 false L (Or.inr Q4) L L (bP (aH ar) bw))) (aH (AJ B.Pe (ae (B7 (zd a.units) Em (aZ 2 L (Or.inr Q4) L L) (cw aq) (iR _)) aq)))) (λ_ _ _ _ _=>L2.qE (show List.Nodup Q7 from by decide +kernel) L Q4 (Or.inr L)) (λ_ _ _ _ _=>(bB (b _) a (bQ 4 false L (Or.inr Q4) L L (bP (aH (Hn B.Rr (ae ar (ae (fE B.KW (ae (aZ 3 L (Or.inr Q4) L L) aq)) aq)))) bw)))) L L L L (by decide) (λ_=>rfl) gg.nd L Q4 L Q4)
  (iC 5 (ag (eJ (bB (b _) a (bQ 3 false L (Or.inr Q4) L L (bP (aH (iT FA E8 ar ar)) bw))) gg.nd L Q4)
  (ag (Bk (BC (bA (aH Ax) (bA (aH (fE B.KW (ae (aZ 2 L (Or.inr Q4) L L) aq))) (bA (oO jG mq (aH (w_add (fE B.KW (ae (aZ 2 L (Or.inr Q4) L L) aq)) ar)) (bB (b _) a (bQ 3 false L (Or.inr Q4) L L (bP (aH ar) bw)))) (bA (aH (iT vp uU (iT vp uU ar ar) (qv 6))) (bA (aH (w_add (fE B.KW (ae (aZ 2 L (Or.inr Q4) L L) aq)) (qv 6))) dQ))))) (by decide)) gg.nd L Q4 L Q4)
  (ag (AA (w_add (qv 7) (cw (ae qS (ae sH (ae sH (ae (eu (by decide +kernel) (by decide)) (ae (cw (ae ar aq)) (ae (iD (ae ar aq)) aq)))))))) (bB (b _) a (bQ 3 false L (Or.inr Q4) L L (bP (aH ar) bw))) (λ_ _=>rfl) L gg.nd L Q4 L Q4)
  (ag (dR (qV B.N2 (ae (qv 5) aq)) gg.nd L Q4)
  (ag (Dv 8 7 (bB (b _) a (bQ 3 false L (Or.inr Q4) L L (bP (aH (w_add (fE B.KW (ae (qv 5) aq)) ar)) bw))) L L Q4 L L L Q4 L L L L L L L L)
  (iC 8 (ag (aF (iD (ae (qV B.N2 (ae (aZ 2 L (Or.inr Q4) L L) aq)) (ae (qV B.N2 (ae (qv 8) aq)) aq))) gg.nd L Q4)
  (ag (dk (N3.PM (ju (ub a (bX (g _) a (ae (aV (qv 9) ar (λ_ _=>rfl)) (ae (aV (qv 9) ar (λ_ _=>rfl)) aq)) (by decide) L L) (eu (by decide +kernel) (by decide))) (mr (ub a (qv 9) (iD (ae (aZ 2 L (Or.inr Q4) L L) (ae (qv 8) aq))))))) (ax (bx sH)) bI)
  (ax (dk (N3.PM (qP (ub a (qv 5) (cw aq)) (nA (ub a (bX (g _) a (ae (aZ 2 L (Or.inr Q4) L L) (ae (qv 5) aq)) (by decide) L L) (eu (by decide +kernel) (by decide)))))) (ax (bx sH)) bI)))))))))))))
  (iC 3 (ax (bx sH)))))))))
end
abbrev gN(K:Xd)(x:Str)(f:On):Prop:=PySem.W.nsIn K mainGlobals x=Y (Y (.ref f))
abbrev gZ(K:Xd)(x:Str):Prop:=PySem.W.nsIn K mainGlobals x=Y M
def all_mk{l:PySem.W.OpenLaw}{K:Xd}(X:K.In h)(G:h.Ns mainGlobals g)(hfa:g "law" = Y (.ref fa))(n:∀ns:W0,ns.length<=63->Bf [.scr ns]=Y (.fr,.bl J))(a0:Meth K C "new_node" f0)(F0:Ku K "new_node" "Nodes.new_node" eR f0 fd0)(a1:Mk K C f1)(F1:Ku K "__init__" "Nodes.__init__" eQ f1 fd1)(a2:Meth K C "node_just_behind" f2)(F2:Ku K "node_just_behind" "Nodes.node_just_behind" bU f2 fd2)(a3:Meth K C "head_behind" f3)(F3:Ku K "head_behind" "Nodes.head_behind" di f3 fd3)(a4:Meth K C "head_grown" f4)(F4:Ku K "head_grown" "Nodes.head_grown" dC f4 fd4)(a5:Meth K C "numbers_by_node" f5)(F5:Ku K "numbers_by_node" "Nodes.numbers_by_node" bZ f5 fd5)(a6:Meth K C "row_of" f6)(F6:Ku K "row_of" "Nodes.row_of" gh f6 fd6)(a7:Meth K C "table" f7)(F7:Ku K "table" "Nodes.table" gI f7 fd7)(a8:gN K "is_whole" f8)(F8:Ku K "is_whole" "is_whole" kC f8 fd8)(a9:gN K "refuse_no_text" f9)(F9:Ku K "refuse_no_text" "refuse_no_text" eU f9 fd9)(a10:gN K "walk" VI)(F10:Ku K "walk" "walk" vk VI S)(a11:gN K "refuse_no_stand" UB)(F11:Ku K "refuse_no_stand" "refuse_no_stand" dU UB R)(a12:gN K "steps_before" f12)(F12:Ku K "steps_before" "steps_before" fX f12 Q)(a13:gN K "longest" f13)(F13:Ku K "longest" "longest" lX f13 P)(a14:gN K "chain" f14)(F14:Ku K "chain" "chain" qX f14 O)(a15:gN K "places_by" f15)(F15:Ku K "places_by" "places_by" jl f15 N)(a16:gN K "table_of" f16)(F16:Ku K "table_of" "table_of" j8 f16 H)(a17:gN K "texts_in" f17)(F17:Ku K "texts_in" "texts_in" ke f17 E)(a18:gN K "texts_by" f18)(F18:Ku K "texts_by" "texts_by" kh f18 D)(a19:gN K "has_each" f19)(F19:Ku K "has_each" "has_each" kE f19 A)(a20:gN K "least_end" f20)(F20:Ku K "least_end" "least_end" js f20 z)(a21:gN K "stand_of_longest" f21)(F21:Ku K "stand_of_longest" "stand_of_longest" dG f21 UA)(d21:UA.code=.ref Kx)(h21:PySem.W.codeHdIn K Kx KY=J)(a22:gN K "shared" f22)(F22:Ku K "shared" "shared" o5 f22 y)(a23:gN K "_law_spring" f23)(F23:Ku K "_law_spring" "_law_spring" iA f23 x)(a24:gN K "_law_next" f24)(F24:Ku K "_law_next" "_law_next" kf f24 u)(a25:gN K "_law_text" f25)(F25:Ku K "_law_text" "_law_text" kc f25 t)(a26:gN K "_law_signs" f26)(F26:Ku K "_law_signs" "_law_signs" jc f26 r)(a27:gN K "_law_book" f27)(F27:Ku K "_law_book" "_law_book" kG f27 q)(a28:gN K "_law_heard" U)(F28:Ku K "_law_heard" "_law_heard" gA U o)(a29:gN K "law" i)(l29:K.lookup i=Y ⟨j,ZM,.func (PySem.W.fnOf "law" "law" (c8 kW) (aT kW) (ak kW) .none TV UH TB UM Se UI),V6⟩)(c29:PySem.W.codeIn K Se "law" = J)(k29:PySem.W.keepIn K (.ref i)=J)(MZ:gZ K "ValueError")(S6:gZ K "all")(Ry:gZ K "bool")(Rx:gZ K "dict")(Nl:gZ K "enumerate")(S5:gZ K "int")(MY:gZ K "isinstance")(S4:gZ K "len")(Rw:gZ K "list")(SY:gZ K "max")(SX:gZ K "min")(Py:gZ K "range")(SW:gZ K "set")(OJ:gZ K "sorted")(Px:gZ K "tuple")(w_Nodes:gN K "Nodes" C)(Km:MG K C)(KO:cW K C "longs")(KP:cW K C "links")(KZ:cW K C "ways")(w_NoBook:gN K "NoBook" MF)(w_NoNumber:gN K "NoNumber" LG)(w_NoRow:gN K "NoRow" Nj)(w_NoStand:gN K "NoStand" Mf)(w_NoTable:gN K "NoTable" Mc)(w_NoText:gN K "NoText" b)(w_NoWord:gN K "NoWord" ME)(w_PartError:gN K "PartError" Lo)(w_TooMany:gN K "TooMany" f)(V2:PySem.W.excIn K b [.type "ValueError",.type "Exception",.type "BaseException",.type "object"] "ValueError.__new__" = J)(Tp:PySem.W.findIn K (.ref b) "__getattribute__" = Y (Y (.builtin "BaseException.__getattribute__")))(To:PySem.W.findIn K (.ref b) "__getattr__" = Y M)(Tn:PySem.W.findObj K b M "__class__" = Y (.bind (.builtin "getset_descriptor.__get__") (.builtin "object.__class__")))(Tj:PySem.W.mroIn K b (.type "object")=Y J)(Ti:PySem.W.mroIn K b (.type "BaseException")=Y J)(V1:PySem.W.excIn K f [.type "ValueError",.type "Exception",.type "BaseException",.type "object"] "ValueError.__new__" = J)(Th:PySem.W.findIn K (.ref f) "__getattribute__" = Y (Y (.builtin "BaseException.__getattribute__")))(Tf:PySem.W.findIn K (.ref f) "__getattr__" = Y M)(Te:PySem.W.findObj K f M "__class__" = Y (.bind (.builtin "getset_descriptor.__get__") (.builtin "object.__class__")))(Td:PySem.W.mroIn K f (.type "object")=Y J)(Tc:PySem.W.mroIn K f (.type "BaseException")=Y J)(Mw:PySem.W.exmOne K (.ref b) (.ref Lo)=Y J)(Mu:PySem.W.exmOne K (.ref f) (.ref Lo)=Y J)(Nt:PySem.W.kitOne K (.ref b) (.ref MF)=Y false)(Np:PySem.W.kitOne K (.ref f) (.ref MF)=Y false)(MK:PySem.W.kitOne K (.ref b) (.ref LG)=Y false)(MJ:PySem.W.kitOne K (.ref f) (.ref LG)=Y false)(NN:PySem.W.kitOne K (.ref b) (.ref Nj)=Y false)(NM:PySem.W.kitOne K (.ref f) (.ref Nj)=Y false)(M8:PySem.W.kitOne K (.ref b) (.ref Mf)=Y false)(M5:PySem.W.kitOne K (.ref f) (.ref Mf)=Y false)(M7:PySem.W.kitOne K (.ref b) (.ref Mc)=Y false)(M4:PySem.W.kitOne K (.ref f) (.ref Mc)=Y false)(Nr:PySem.W.kitOne K (.ref b) (.ref b)=Y J)(Nn:PySem.W.kitOne K (.ref f) (.ref b)=Y false)(Nq:PySem.W.kitOne K (.ref b) (.ref ME)=Y false)(Nm:PySem.W.kitOne K (.ref f) (.ref ME)=Y false)(M6:PySem.W.kitOne K (.ref b) (.ref f)=Y false)(M3:PySem.W.kitOne K (.ref f) (.ref f)=Y J)(Mj:PySem.W.kitOne K (.ref b) (.type "ValueError")=Y J)(Mi:PySem.W.kitOne K (.ref f) (.type "ValueError")=Y J)
  : ∃fd:Re,(∀(s:KB)(v:PP),BindsTo s fd ⟨[v],[]⟩ [("_law_script",v)])/\∀base:UF,K.In base->base.Ns mainGlobals g->Bm g base->(∀p∈([(Kx,KY, "stand_of_longest.<locals>.<lambda>")]:L2.UO),Tb base p.2.1 p.2.2)->FnOk l.prog w K g base Lc 9 fa fd ["_law_script"] (Nw (gx0 K) Cr):=by
 have e:=hfa.symm.trans (ZV X G a29);cases e;have B:LH g:=⟨ZK X G MZ,ZK X G S6,ZK X G Ry,ZK X G Rx,ZK X G Nl,ZK X G S5,ZK X G MY,ZK X G S4,ZK X G Rw,ZK X G SY,ZK X G SX,ZK X G Py,ZK X G SW,ZK X G OJ,ZK X G Px⟩
 have a:Lr K g C C:=⟨rfl,Km,ZV X G w_Nodes,KO,KP,KZ⟩
 have Z:LF K g b f:=⟨ZV X G w_NoText,V2,⟨Tp,To,Tn,Tj,Ti⟩,ZV X G w_TooMany,V1,⟨Th,Tf,Te,Td,Tc⟩,⟨_,ZV X G w_PartError,Mw,Mu⟩,⟨_,ZV X G w_NoBook,Nt,Np⟩,⟨_,ZV X G w_NoNumber,MK,MJ⟩,⟨_,ZV X G w_NoRow,NN,NM⟩,⟨_,ZV X G w_NoStand,M8,M5⟩,⟨_,ZV X G w_NoTable,M7,M4⟩,⟨_,ZV X G w_NoText,Nr,Nn⟩,⟨_,ZV X G w_NoWord,Nq,Nm⟩,⟨_,ZV X G w_TooMany,M6,M3⟩,⟨Mj,Mi⟩⟩
 refine⟨PySem.W.fnOf "law" "law" (c8 kW) (aT kW) (ak kW) .none TV UH TB UM Se UI,λs v=>.of_eq L,λbase _ _ Lb Lt=>?_⟩;have aM:=aM l.prog w base F0 a0 B a Z;have cf:=cf l.prog w base F1 a1 B a Z aM;have aO:=aO l.prog w base F2 a2 B a Z aM;have bG:=bG l.prog w base F3 a3 B a Z aM aO;have bO:=bO l.prog w base F4 a4 B a Z bG;have bp:=λm=>bp (m:=m) l.prog w base F5 a5 B a Z;have cV:=λm=>cV (m:=m) l.prog w base F6 a6 B a Z;have dq:=λm=>dq (m:=m) l.prog w base F7 a7 B a Z bp cV;have c4:=λm=>c4 (m:=m) l.prog w base F8 (ZV X G a8) B a Z;have b9:=λm=>b9 (m:=m) l.prog w base F9 (ZV X G a9) B a Z c4;have nN:=λm=>nN (m:=m) l.prog w base F10 (ZV X G a10) B a Z;have ba:=λm=>ba (m:=m) l.prog w base F11 (ZV X G a11) B a Z c4;have cT:=λm=>cT (m:=m) l.prog w base F12 (ZV X G a12) B a Z;have dM:=λm=>dM (m:=m) l.prog w base F13 (ZV X G a13) B a Z ba cT;have lK:=λm=>lK (m:=m) l.prog w base F14 (ZV X G a14) B a Z ba;have ft:=λm=>ft (m:=m) l.prog w base F15 (ZV X G a15) B a Z lK nN;have fZ:=λm=>fZ (m:=m) l.prog w base F16 (ZV X G a16) B a Z cf bO dq;have fT:=λm=>fT (m:=m) l.prog w base F17 (ZV X G a17) B a Z;have gq:=λm=>gq (m:=m) l.prog w base F18 (ZV X G a18) B a Z ft fT;have fU:=λm=>fU (m:=m) l.prog w base F19 (ZV X G a19) B a Z;have fu:=λm=>fu (m:=m) l.prog w base F20 (ZV X G a20) B a Z;have bL:=λm=>bL (m:=m) l.prog w base F21 (ZV X G a21) B a Z dM h21 (Lt _ (.head _)) Lb d21;have jh:=λm=>jh (m:=m) l.prog w base F22 (ZV X G a22) B a Z fU fu dM b9 bL fZ gq;have dc:=λm=>dc (m:=m) l.prog w base F23 (ZV X G a23) B a Z;have aE:=λm=>aE (m:=m) l.prog w base F24 (ZV X G a24) B a Z;have eV:=λm=>eV (m:=m) l.prog w base F25 (ZV X G a25) B a Z aE;have fq:=λm=>fq (m:=m) l.prog w base F26 (ZV X G a26) B a Z aE;have fY:=λm=>fY (m:=m) l.prog w base F27 (ZV X G a27) B a Z aE eV;have dJ:=λm=>dJ (m:=m) l.prog w base F28 (ZV X G a28) B a Z jh;exact Du L (E4 l.prog w base (m:=λ_=>M) (AD (st:=kW) l29 c29 k29) B a Z fY dJ aE fq dc) n
end T33
open PySem PySem.W PyProof.Rows PySem.W.X PySem.W.ZRun
set_option maxRecDepth 100000 in
set_option maxHeartbeats 0 in
theorem PySem.Challenge.cw_allparts_k33_texts_that_are_none_holds : PySem.Challenge.rw_allparts_k33_texts_that_are_none.Holds := by
 w_on;o_law;k_head;(case hw=>w_witness2)
 k_fill
 refine VS.Ah (l:=PySem.Challenge.rw_allparts_k33_texts_that_are_none) (k:=9) (x := "_law_script") (tb:=[(281,279, "stand_of_longest.<locals>.<lambda>")]) rfl rfl ⟨rfl,by decide,by decide⟩ (by decide) (by decide +kernel) (fun _=>by kernel_rfl) (fun _=>(List.forall_mem_cons.mpr ⟨by kernel_rfl,(fun _ h=>nomatch h)⟩)) ?F
 case F =>
  intro w mg fa h KX G hmg;apply T33.all_mk KX G hmg T33.A7
  (case w_Nodes=>unfold T33.gN;k_is)
  (case w_NoBook=>unfold T33.gN;k_is)
  (case w_NoNumber=>unfold T33.gN;k_is)
  (case w_NoRow=>unfold T33.gN;k_is)
  (case w_NoStand=>unfold T33.gN;k_is)
  (case w_NoTable=>unfold T33.gN;k_is)
  (case w_NoText=>unfold T33.gN;k_is)
  (case w_NoWord=>unfold T33.gN;k_is)
  (case w_PartError=>unfold T33.gN;k_is)
  (case w_TooMany=>unfold T33.gN;k_is)
  all_goals first | (refine' L2.AD ?l ?c ?k;(case l=>k_is);(case c=>k_is);(case k=>k_is)) | (refine' ⟨?l,?c,?k⟩;(case l=>k_is);(case c=>k_is);(case k=>k_is)) | (refine' ⟨?l,?c,?k,?d⟩;(case l=>k_is);(case c=>k_is);(case k=>k_is);(case d=>k_is)) | (unfold T33.gN;k_is) | (unfold T33.gZ;k_is) | (unfold L2.cW;k_is) | k_is | exact rfl | kernel_rfl
end
