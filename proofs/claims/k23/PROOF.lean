import PyProof.Rows.All
import Wide.All
import OpenK.AllK
import PySem.Challenge.RW_allparts_k23_whole_links_add_up
set_option linter.all false
set_option bootstrap.genMatcherCode false
set_option genSizeOf false
set_option genInjectivity false
noncomputable section
namespace PySem.W.Fast
def tw16513597367213491780:True:=⟨⟩
def tw18176366557752059126:True:=⟨⟩
def tw4557943222773986439:True:=⟨⟩
def tw6516629695114665584:True:=⟨⟩
def tw16762658491234476375:True:=⟨⟩
def tw4248128810357162337:True:=⟨⟩
def tw18443650772272101831:True:=⟨⟩
def tw5754392441997626278:True:=⟨⟩
def tw17794607371749514575:True:=⟨⟩
def tw16089687469964665962:True:=⟨⟩
def tw9571962387805778976:True:=⟨⟩
def tw688124195532034837:True:=⟨⟩
def tw15227378892700491047:True:=⟨⟩
def tw14136736199883598584:True:=⟨⟩
def tw14944453636254934726:True:=⟨⟩
def tw10392109908997201044:True:=⟨⟩
def tw6864899381899258727:True:=⟨⟩
def tw4594311446987537022:True:=⟨⟩
def tw763640890148743767:True:=⟨⟩
def tw4095934135496299841:True:=⟨⟩
def tw12790564864582068245:True:=⟨⟩
def tw5658222670582063855:True:=⟨⟩
def tw3134485593684291777:True:=⟨⟩
def tw3981370924263890324:True:=⟨⟩
def tw13477620826270898241:True:=⟨⟩
def tw7536731014706858873:True:=⟨⟩
def tw10116763042397717777:True:=⟨⟩
def tw13648002691346033394:True:=⟨⟩
def tw13765916597701030819:True:=⟨⟩
def tw14475570538505520478:True:=⟨⟩
def tw13740799613578748081:True:=⟨⟩
def tw8988209517285335714:True:=⟨⟩
def tw16311860169457043527:True:=⟨⟩
def tw10445774533904331009:True:=⟨⟩
def tw2504904728223830899:True:=⟨⟩
def tw2508717395112256831:True:=⟨⟩
def tw14923846532470866643:True:=⟨⟩
def tw5857538862533986929:True:=⟨⟩
def tw5571895712261532185:True:=⟨⟩
def tw5256663717134863410:True:=⟨⟩
def tw7015019366980140580:True:=⟨⟩
def tw11998521144813725229:True:=⟨⟩
def tw7539284888868947499:True:=⟨⟩
def tw6940909813346235546:True:=⟨⟩
def tw16215257042425033477:True:=⟨⟩
def tw12051441250423163011:True:=⟨⟩
def tw14342746766152560744:True:=⟨⟩
def tw3508045164892978857:True:=⟨⟩
def tw6208028364754263500:True:=⟨⟩
def tw17642873717074039656:True:=⟨⟩
def tw8254003961460109132:True:=⟨⟩
def tw2843067027501739463:True:=⟨⟩
def tw1675867859868052021:True:=⟨⟩
def tw5017864484245333236:True:=⟨⟩
def tw1149070634198319790:True:=⟨⟩
def tw5153424406397528126:True:=⟨⟩
def tw1135425055956022782:True:=⟨⟩
def tw3486603267747470624:True:=⟨⟩
def tw16208487566517998198:True:=⟨⟩
def tw5879591615167342478:True:=⟨⟩
def tw3743133166203126093:True:=⟨⟩
def tw6508869379356881364:True:=⟨⟩
def tw6165067758184831295:True:=⟨⟩
def tw6317023537751887234:True:=⟨⟩
def tw17289310248022712852:True:=⟨⟩
def tw17049995585183102552:True:=⟨⟩
def tw10151741389880350818:True:=⟨⟩
def tw13706836292572713503:True:=⟨⟩
def tw8391920363278871363:True:=⟨⟩
def tw6423749017953057504:True:=⟨⟩
def tw3722347124008559065:True:=⟨⟩
def tw18259152602475078425:True:=⟨⟩
def tw3788402686262394123:True:=⟨⟩
def tw5092712935369412091:True:=⟨⟩
def tw5428471556081655732:True:=⟨⟩
def tw15086608209969259536:True:=⟨⟩
def tw9969375350933267348:True:=⟨⟩
def tw6400725664818382530:True:=⟨⟩
def tw5588887191402425046:True:=⟨⟩
def tw3356807325233872119:True:=⟨⟩
def tw8160573230717683817:True:=⟨⟩
def tw9380081777954468942:True:=⟨⟩
def tw5660274738524052806:True:=⟨⟩
def tw17296144990943147601:True:=⟨⟩
def tw8538135588289372127:True:=⟨⟩
def tw1578046474812381300:True:=⟨⟩
def tw3074564063505074332:True:=⟨⟩
def tw12651884144771591756:True:=⟨⟩
def tw2192650065000218334:True:=⟨⟩
def tw6252896122780195045:True:=⟨⟩
def tw2511294616172200733:True:=⟨⟩
def tw14057381056360516993:True:=⟨⟩
def tw5064424347104915821:True:=⟨⟩
def tw12107763535727413860:True:=⟨⟩
def tw14200865471246617290:True:=⟨⟩
def tw9953213974272762530:True:=⟨⟩
def tw15248295244738194993:True:=⟨⟩
def tw9948878764426590462:True:=⟨⟩
def tw509696722247499649:True:=⟨⟩
def tw5799164484737276798:True:=⟨⟩
def tw3064955780777483021:True:=⟨⟩
def tw11487008086582246024:True:=⟨⟩
def tw3184832853783723327:True:=⟨⟩
def tw14081288853513300612:True:=⟨⟩
def tw13235625645456570911:True:=⟨⟩
def tw916660124405654051:True:=⟨⟩
def tw13585190134281650811:True:=⟨⟩
def tw12615690162322662737:True:=⟨⟩
def tw12041971489295937585:True:=⟨⟩
def tw1399103508971804194:True:=⟨⟩
def tw15824769462760411013:True:=⟨⟩
def tw6832686885255097266:True:=⟨⟩
def tw2335043225907682010:True:=⟨⟩
def tw14283745491858830124:True:=⟨⟩
def tw10323361252207058585:True:=⟨⟩
def tw9434171488035202520:True:=⟨⟩
def tw5547848255867332019:True:=⟨⟩
def tw9392662734770701039:True:=⟨⟩
def tw441016702689892781:True:=⟨⟩
def tw9377534934602635472:True:=⟨⟩
def tw8694612500939985002:True:=⟨⟩
def tw18383943253973546696:True:=⟨⟩
def tw6397996696364654971:True:=⟨⟩
def tw16865564021816380672:True:=⟨⟩
def tw7712597519050266242:True:=⟨⟩
def tw7953682411006333576:True:=⟨⟩
def tw7437086119767234072:True:=⟨⟩
def tw7358179663933886530:True:=⟨⟩
def tw9166585416494884559:True:=⟨⟩
def tw8343315206839376252:True:=⟨⟩
def tw15955934578622590744:True:=⟨⟩
def tw555837999656149248:True:=⟨⟩
def tw7234819311715734242:True:=⟨⟩
def tw6250937524739221285:True:=⟨⟩
def tw12780241138277086820:True:=⟨⟩
def tw9319732596204816601:True:=⟨⟩
def tw14330345111703332647:True:=⟨⟩
def tw10217061919670575342:True:=⟨⟩
def tw942736783455889797:True:=⟨⟩
def tw1876080802703118359:True:=⟨⟩
def tw1168451969354786120:True:=⟨⟩
def tw3821619211480037275:True:=⟨⟩
def tw15232470378437837216:True:=⟨⟩
def tw12500420913446467572:True:=⟨⟩
def tw10079539401294751630:True:=⟨⟩
def tw17094509395839715582:True:=⟨⟩
def tw7451507344436120185:True:=⟨⟩
def tw1260343296615495464:True:=⟨⟩
def tw1637946279389199892:True:=⟨⟩
def tw12303790871133727073:True:=⟨⟩
def tw6641914073135057115:True:=⟨⟩
def tw18361835405825834538:True:=⟨⟩
def tw16696869583849766962:True:=⟨⟩
def tw6028023108253762720:True:=⟨⟩
def tw9561764969083312532:True:=⟨⟩
def tw9247758107074160237:True:=⟨⟩
def tw1321269956361503388:True:=⟨⟩
def tw14720213463507417743:True:=⟨⟩
def tw16488152456441110324:True:=⟨⟩
def tw10957082510022521337:True:=⟨⟩
def tw7549059774653061577:True:=⟨⟩
def tw3186394568642838371:True:=⟨⟩
def tw10132181627516255306:True:=⟨⟩
def tw8626056416305520084:True:=⟨⟩
def tw4738300705054357264:True:=⟨⟩
def tw13053914333970128007:True:=⟨⟩
def tw14262049908410065863:True:=⟨⟩
def tw4416109898955504284:True:=⟨⟩
def tw6695890745637540301:True:=⟨⟩
def tw1528753511466942163:True:=⟨⟩
def tw12079777402222654259:True:=⟨⟩
def tw2067951140405057307:True:=⟨⟩
def tw17919595545294820238:True:=⟨⟩
def tw14018068666028123258:True:=⟨⟩
def tw3854687026853775186:True:=⟨⟩
def tw12299385829733125791:True:=⟨⟩
def tw16656236257434600331:True:=⟨⟩
def tw10413261691373569528:True:=⟨⟩
def tw9162508639671384467:True:=⟨⟩
def tw17113182065596146052:True:=⟨⟩
def tw16738160287773919362:True:=⟨⟩
def tw10822401934907686514:True:=⟨⟩
def tw894421265820627984:True:=⟨⟩
def tw6953300859239799295:True:=⟨⟩
def tw16901183485405955380:True:=⟨⟩
def tw3595870973321904581:True:=⟨⟩
def tw3063162360487105662:True:=⟨⟩
def tw180536742977287078:True:=⟨⟩
def tw15111042783728248991:True:=⟨⟩
def tw8176837507996475603:True:=⟨⟩
def tw4788602988249095407:True:=⟨⟩
def tw3909459242886538304:True:=⟨⟩
def tw49131646661318669:True:=⟨⟩
def tw18003937389070204895:True:=⟨⟩
def tw15274082197334170147:True:=⟨⟩
def tw10359094477784857818:True:=⟨⟩
def tw8625833148215907818:True:=⟨⟩
def tw665352739365691334:True:=⟨⟩
def tw3878299383207497862:True:=⟨⟩
def tw16590527090721535328:True:=⟨⟩
def tw10430927308234366633:True:=⟨⟩
def tw8598603772194588045:True:=⟨⟩
def tw8032313518859786146:True:=⟨⟩
def tw2199176571034118673:True:=⟨⟩
def tw1537868598152239121:True:=⟨⟩
def tw14902167709664509324:True:=⟨⟩
def tw11448657573852403457:True:=⟨⟩
def tw570567289759479332:True:=⟨⟩
def tw2158285359214090806:True:=⟨⟩
def tw1727010335069726237:True:=⟨⟩
def tw14779474565045829745:True:=⟨⟩
def tw14370993440698838372:True:=⟨⟩
def tw13463497152479959533:True:=⟨⟩
def tw12697574410696271253:True:=⟨⟩
def tw7959249800106427281:True:=⟨⟩
def tw15633194275905684357:True:=⟨⟩
def tw12983335841927084115:True:=⟨⟩
def tw8246877958459508592:True:=⟨⟩
def tw7915402268307902136:True:=⟨⟩
def tw7267239019392347442:True:=⟨⟩
def tw17580036894734750303:True:=⟨⟩
def tw13815635396441675769:True:=⟨⟩
def tw10549834017969387627:True:=⟨⟩
def tw16479714466622677057:True:=⟨⟩
def tw9912815189383423852:True:=⟨⟩
def tw9799757554968384544:True:=⟨⟩
def tw9797034460582539005:True:=⟨⟩
def tw9602179191477916271:True:=⟨⟩
def tw9319311458714773355:True:=⟨⟩
def tw9237144193493648227:True:=⟨⟩
def tw8702682651820413865:True:=⟨⟩
def tw8410938177947173142:True:=⟨⟩
def tw8259435048106986149:True:=⟨⟩
def tw7867189752267260660:True:=⟨⟩
def tw6473294767642240545:True:=⟨⟩
def tw6446857345536572510:True:=⟨⟩
def tw6329221135725646138:True:=⟨⟩
def tw6176884194627764606:True:=⟨⟩
def tw6021899679235969276:True:=⟨⟩
def tw5988266746419314855:True:=⟨⟩
def tw5774699766964585251:True:=⟨⟩
def tw5483136698368145863:True:=⟨⟩
def tw5296656587323980972:True:=⟨⟩
def tw5076891250242682573:True:=⟨⟩
def tw4948126453662025480:True:=⟨⟩
def tw3989044278441508051:True:=⟨⟩
def tw3849703638028709423:True:=⟨⟩
def tw3816758119046148150:True:=⟨⟩
def tw2996886699367703411:True:=⟨⟩
def tw2555325455097745097:True:=⟨⟩
def tw2121020632344286782:True:=⟨⟩
def tw1892023995264480702:True:=⟨⟩
def tw1859364886238546133:True:=⟨⟩
def tw18353529324100282398:True:=⟨⟩
def tw18241831027587933308:True:=⟨⟩
def tw18062948340082771813:True:=⟨⟩
def tw17999091217172993872:True:=⟨⟩
def tw17985094176725737401:True:=⟨⟩
def tw17788674597350366355:True:=⟨⟩
def tw1773178929357243397:True:=⟨⟩
def tw1745190247571439739:True:=⟨⟩
def tw17388371981679702641:True:=⟨⟩
def tw17080785592755130020:True:=⟨⟩
def tw16573572738136830351:True:=⟨⟩
def tw16210724199513273879:True:=⟨⟩
def tw15638274894686235243:True:=⟨⟩
def tw15624402700554929472:True:=⟨⟩
def tw15287091889158377626:True:=⟨⟩
def tw15244397396734063316:True:=⟨⟩
def tw14480342418211843886:True:=⟨⟩
def tw1414408504106460952:True:=⟨⟩
def tw13887037036385354853:True:=⟨⟩
def tw13879897147552680776:True:=⟨⟩
def tw13677284777905316574:True:=⟨⟩
def tw13473822274822530268:True:=⟨⟩
def tw13455817846076725813:True:=⟨⟩
def tw13352028779280329895:True:=⟨⟩
def tw13294369894809297818:True:=⟨⟩
def tw13276222097964809988:True:=⟨⟩
def tw13085634251924524481:True:=⟨⟩
def tw1249147269107878105:True:=⟨⟩
def tw12277265073250406273:True:=⟨⟩
def tw12207577022776683350:True:=⟨⟩
def tw12157886536551850935:True:=⟨⟩
def tw12140500940301888243:True:=⟨⟩
def tw11858279400583600152:True:=⟨⟩
def tw11703886828157658452:True:=⟨⟩
def tw11213989866675598088:True:=⟨⟩
def tw1082131767730742478:True:=⟨⟩
def tw10795221134994674594:True:=⟨⟩
def tw10613115106558746295:True:=⟨⟩
def tw10504052613470637356:True:=⟨⟩
def tw10310233695147457884:True:=⟨⟩
def tw10290304701004720264:True:=⟨⟩
def tw10085976716439406046:True:=⟨⟩
end PySem.W.Fast
open Option renaming some->Y, none->J
open Bool renaming true->M, false->R
theorem q0(h:True:=by first | exact .inl L | exact .inr L | assumption):True:=h
theorem q1(h:True:=by decide):True:=h
theorem q2(h:True:=by rfl):True:=h
theorem q3(h:True:=by intro _;rfl):True:=h
theorem q4(h:True:=by with_unfolding_all rfl):True:=h
theorem q5(h:True:=by first | exact Or.inl L | exact Or.inr (Or.inl L) | exact Or.inr (Or.inr L)):True:=h
theorem q6(h:True:=by first | exact Or.inl L | exact Or.inr L):True:=h
theorem q7(h:True:=by first | exact .inl L | exact .inr L):True:=h
theorem q8(h:True:=by exact rfl):True:=h
set_option hygiene false
local macro_rules|`({`q0,$x})=>`(autoParam $x q0._auto_1)|`({`q1,$x})=>`(autoParam $x q1._auto_1)|`({`q2,$x})=>`(autoParam $x q2._auto_1)|`({`q3,$x})=>`(autoParam $x q3._auto_1)|`({`q4,$x})=>`(autoParam $x q4._auto_1)|`({`q5,$x})=>`(autoParam $x q5._auto_1)|`({`q6,$x})=>`(autoParam $x q6._auto_1)|`({`q7,$x})=>`(autoParam $x q7._auto_1)|`({`q8,$x})=>`(autoParam $x q8._auto_1)
theorem L.{u}{α:Sort u}{a:α}:a=a:=rfl
open PySem renaming Shared->KB, model->KF, sizeLine->KM, Addr->On, Value->PP, wpAny->Pi, starEach->P3, FuncData->Re, Program->SB, Around->SC, keywordEach->SZ, compareOp->UV, Heap->XAA, World->XAB, attributeBase->XAC, foldedSetIterable->XAD
open PyProof.Rows renaming Keyed->Pv, SortSt->SL, pendingOf->UF
set_option linter.all false
set_option maxRecDepth 100000
set_option Elab.async false
set_option maxHeartbeats 4000000
abbrev Yx:=PySem.Value->PySem.Shared->Prop
abbrev Yw:=List (PySem.Addr×PySem.Obj)
abbrev X5:=List (List PySem.Addr)
abbrev Wy:=PySem.W.Frag
abbrev Wf:=PySem.Str->Option PySem.Value
abbrev W5:=List PySem.Addr
abbrev Vq:=List PySem.Value
abbrev V6:=Option PySem.Value
abbrev Uv:=List Nat
abbrev Uu:=List Int
abbrev Ut:=List (List (List Nat))
abbrev Zs:=@if_pos
abbrev Zo:=@if_neg
abbrev ZZ:=@decide_eq_false
abbrev Lu:=@decide_eq_true
open Option renaming bind_eq_some_iff->Zz,map_eq_some_iff->Zt,bind_some->Zr,isSome_iff_exists->YC,isSome_map->Xd,getD_some->Wx,map_some->Vf
open PySem renaming wpAny_bind->Zy,wpAny_pure->Zm,wpAny_holding->YK,wpAny_truthy_bool->Y2,wpAny_mono->Xy,codeAny_builtin->Xu,sizeLine_eq->XW,wpAny_Call_Name_kw->X2,tupleKind_room_in1->X3,wpAny_passesOwn->X4,plainId_quiet->X9,mem_of_lookup->Wq,wpAny_call_entry->Wg,wpAny_tryCatch->WJ,wpAny_setState_of->WI,wpAny_newObj_type->WH,wpAny_forIn_list->WC,wpAny_typeNameOfWhole_keyiter->W4,codeAny_mono->Vt,wpAny_seqItems->Vr,wpAny_pyIter_list->Vg,wpAny_execs_nil->VM
open List renaming length_append->Zx,length_map->Zw,mem_cons_self->Zv,mem_cons_of_mem->Zu,getD_eq_getElem?_getD->Zq,getElem?_eq_getElem->Zp,map_cons->Zk,mem_cons->Zg,length_cons->Zf,mem_append->Zd,mem_singleton->Zc,append_assoc->Zb,getElem?_eq_some_iff->ZY,nodup_cons->ZW,length_singleton->ZR,append_nil->ZL,zip_cons_cons->ZJ,mem_append_right->ZI,getElem?_map->ZG,size_toArray->ZF,mem_map->ZC,nodup_append->ZA,suffix_refl->Lx,all_eq_true->Lw,length_range->LM,flatten_cons->LL,pairwise_append->MS,map_map->La,length_take->LX,map_append->Yy,take_of_length_le->Yu,getElem?_append_left->Yr,mem_range->Yq,getElem_mem->Yp,find?_cons->Yo,getElem?_append_right->Yn,length_drop->Yl,getElem?_eq_none->Yk,flatten_append->Yh,mem_append_left->Ye,getElem_of_mem->Yb,length_set->Ya,mem_of_getElem?->YZ,suffix_nil->YW,nil_append->YV,mem_of_mem_take->YS,sublist_cons_self->YR,drop_eq_nil_of_le->YQ,lookup_cons->YO,any_cons->YN,take_append_drop->YM,mem_of_mem_drop->YI,length_zip->YH,pairwise_iff_getElem->YG,getElem?_eq_none_iff->YF,drop_eq_getElem_cons->YE,idxOf_lt_length_iff->YB,getElem?_replicate->Y5,nodup_nil->Y6,isSuffixOf_iff_suffix->Y7,map_congr_left->Y8,filterMap_cons->Y9,mem_filter->Xz,perm_append_comm->Xw,length_replicate->Xv,getElem?_set_ne->Xs,pairwise_map->Xq,length_nil->Xn,pairwise_cons->Xk,length_filter_le->Xj,sublist_append_right->Xh,getElem?_zip_eq_some->Xg,getD_cons_succ->XX,mem_reverse->XT,any_eq_true->XS,take_append_of_le_length->XO,drop_of_length_le->XI,mem_zipIdx_iff_getElem?->XH,getElem?_toArray->XE,getElem_take->XA,getElem_drop->X0,zipIdx_cons->Ws,all_cons->Wj,foldl_cons->Wi,mem_filterMap->We,getElem_idxOf->Wc,length_eq_zero_iff->WY,getElem?_set_self->WU,drop_zero->WT,cons_lt_cons_iff->WO,not_mem_nil->WN,drop_append->WM,append_cons->WK,nil_suffix->WE,map_set->WA,all_map->W0,length_range'->W8,sum_cons->Vs,pairwise_singleton->Vo,getElem?_cons_succ->Vn,cons_append->Vm,flatten_singleton->Vi,find?_some->Vd,set_getElem_self->Vb,cons_prefix_cons->Va,take_zero->VX,not_lt->VW,map_id->VU,filter_sublist->VN,findIdx?_cons->VI,map_nil->V1,getElem?_set->V2,flatMap_cons->V3,ext_getElem?->V4,take_prefix->V7,take_length->V8,nodup_range->V9,mem_flatMap->Uz,map_fst_zip->Uy,getElem_map->Ux,getElem_inj->Uw
open Nat renaming le_refl->Zn,lt_of_lt_of_le->Zi,ne_of_lt->Ze,le_add_right->Za,le_trans->ZS,le_of_lt->ZO,lt_of_le_of_lt->ZK,zero_le->ZE,le_of_not_lt->ZD,lt_succ_of_lt->L7,le_of_lt_succ->Yv,pos_of_ne_zero->Ys,lt_succ_self->Ym,sub_le->Yj,min_eq_left->Yi,lt_irrefl->Yf,add_lt_add_left->YY,zero_add->YL,le_add_left->Y1,add_sub_cancel_left->Y4,lt_of_succ_lt->Xr,le_antisymm->Xo,succ_pos->Xm,min_le_right->Xl,le_sub_one_of_lt->Xc,add_assoc->XZ,add_le_add_left->XY,le_of_not_le->XU,lt_trans->XM,add_sub_cancel->XJ,zero_lt_of_lt->XB,succ_le_succ->Ww,min_eq_right->Wv,lt_of_not_le->Wu,le_of_eq->Wt,add_sub_cancel'->Wp,le_succ->WZ,ne_of_gt->WX,min_self->WW,lt_of_succ_lt_succ->WV,min_le_left->WG,sub_lt->W6,lt_of_le_of_ne->W7,sub_pos_of_lt->Vy,le_succ_of_le->Vx,add_sub_assoc->Vw,lt_add_of_pos_right->Vp,sub_self->Vl,mod_lt->Vk,lt_or_ge->Vj,zero_lt_one->Ve,sub_one_lt_of_le->VY,sub_le_sub_left->VO,lt_or_eq_of_le->VJ,lt_succ_of_le->VD,lt_of_succ_le->VC,le_of_succ_le->VB,add_zero->VA,add_sub_of_le->V0
open Option.some renaming inj->Zl
open PySem.Heap renaming get?_push_of_some->Zj,lt_size->ZV,get?_push_size->ZM,get?_update_other->Xi,size_push->Xb,get?_push_ne->XR,get?_update_self->Wr,size_update->VR
open Bool renaming false_ne_true->Zh,and_eq_true_iff->ZP,and_eq_true->YT,false_eq_true->Y3,eq_iff_iff->XG,true_eq_false->VG
open Array renaming getElem_mem->ZX,getElem?_toList->MY,length_toList->Yg,toList_append->YX,getElem?_eq_getElem->Xe,toList_extract->Xa,size_push->XF,size_append->X1,perm_iff_toList_perm->X8,getD_eq_getD_getElem?->W3,getElem?_eq_some_iff->Vz,toList_push->Vu,toList_reverse->VQ,size_extract->VF
open PyProof.Rows renaming wpS_pure->ZU,wpS_bind->ZQ,wpS_forRange->YJ,wpS_mono->XQ,callWith_type1->XC,wpS_modify->WD,wpS_get->VZ
open PySem.W renaming mg_of->Yz,mg_none_of->Yd,kia_one->YA,plainGet_of->VP,callWith_K->VL
open PySem.PassesOwn renaming never->Yt
open Int renaming emod_lt_of_pos->Yc,emod_nonneg->YU,toNat_natCast->Xp,natCast_nonneg->W9
open PySem.Around renaming under_plainId->YD
open Ne renaming symm->Y0
open Classical renaming byContradiction->Xf
open Prod.mk renaming inj->X6
open PySem.F renaming slot_dict_keyiterator_next->X7,type_list_append->Wm,slot_list_append->Wk,plain_min_loop->Wb,plainAttrs_list->Wa,slot_tuple_getattribute->Vh,slot_dict_get->Vc
open PySem.Paired renaming length->Wz
open List.cons renaming injEq->Wh
open List.Sublist renaming refl->WR
open List.Perm renaming refl->WQ
open PySem.Heap.SameBut renaming update->Vv
open List.Pairwise renaming filter->VT
open List.Nodup renaming sublist->VH
open PyProof.Rows.F renaming plain_set_update_loop->V5
section
namespace L2
def aq{G:Prop}(h:∀P:Prop,(G->P)->P):G:=h G id
end L2
namespace VS
noncomputable abbrev Tx:=Uv
inductive T where
 |non | bl (b:Bool) | int (i:Int) | str (s:Tx) | scr (ns:Uu)
 |tup (l:List T) | lst (l:List T) | dct (kd:Nat) (l:List (T×T)) | obj (c:Nat) (fs:List (Nat×T))
 deriving Inhabited
abbrev Up:=List T
noncomputable def gL:Nat:=16777216
mutual
def JU:T->Bool
 |.lst _=>R
 |.dct _ _=>R
 |.obj _ _=>R
 |.tup l=>hJ l
 |_=>M
def hJ:Up->Bool
 |[]=>M
 |t :: r=>JU t&&hJ r
end
mutual
@[simp] def eqT:T->T->Bool
 |.non,.non=>M
 |.bl a,.bl b=>a==b
 |.bl a,.int i=>(if a then 1 else 0)==i
 |.int i,.bl a=>i==(if a then 1 else 0)
 |.int i,.int j=>i==j
 |.str s,.str t=>s==t
 |.tup a,.tup b=>om a b
 |.lst a,.lst b=>om a b
 |_,_=>R
def om:Up->Up->Bool
 |[],[]=>M
 |a :: d,b :: bs=>eqT a b&&om d bs
 |_,_=>R
end
noncomputable def KC:Nat->T->Bool
 |_,.non=>M
 |_,.bl _=>M
 |_,.int _=>M
 |_,.str _=>M
 |n+1,.tup l=>l.all (KC n)
 |n+1,.lst l=>l.all (KC n)
 |_,_=>R
inductive Md where | fr | pu | bo
 deriving DecidableEq,Inhabited
noncomputable def Md.join:Md->Md->Md
 |.bo,_=>.bo
 |_,.bo=>.bo
 |.pu,_=>.pu
 |_,.pu=>.pu
 |.fr,.fr=>.fr
inductive Cell where | pu (t:T) | ow (t:T)
 deriving Inhabited
abbrev Us:=Option Cell
noncomputable abbrev Env:=List (Us)
noncomputable abbrev Val:=Md×T
abbrev Uq:=Option Val
abbrev Ur:=List Val
abbrev Ex:=Env->Uq
abbrev J8:=Env->Option (Ur)
@[simp] def up(m:Md)(t:T):Val:=(if JU t then .fr else m,t)
noncomputable def D2:T->Bool
 |.lst _=>M
 |.dct _ _=>M
 |.obj _ _=>M
 |_=>R
@[simp] def cellOf:Val->Us
 | (.fr,t)=>Y (if D2 t then .ow t else .pu t)
 | (.pu,t)=>Y (.pu t)
 | (.bo,_)=>J
inductive Out where | nx (U:Env) | rt (v:Val) (U:Env) | bk (U:Env) | ct (U:Env)
abbrev Sx:=Env->Option Out
@[simp] noncomputable def eC(t:T)(_:Env):Uq:=Y (.fr,t)
abbrev Q3(i:Int):Ex:=eC (.int i)
@[simp] def ab(i:Nat)(U:Env):Uq:=match U[i]? with
 |some (some (.pu t))=>Y (up .pu t)
 |some (some (.ow t))=>Y (.bo,t)
 |_=>J
@[simp] noncomputable def e1(f:Val->Uq)(a:Ex)(U:Env):Uq:=(a U).bind f
@[simp] noncomputable def e2(f:Val->Val->Uq)(a b:Ex)(U:Env):Uq:=(a U).bind λx=>(b U).bind λy=>f x y
@[simp] noncomputable def ak(_:Env):Option (Ur):=Y []
@[simp] noncomputable def ae(a:Ex)(r:J8)(U:Env):Option (Ur):=(a U).bind λx=>(r U).bind λb=>Y (x :: b)
@[simp] noncomputable def eN(f:Ur->Uq)(a:J8)(U:Env):Uq:=(a U).bind f
@[simp] def cJ:Ur->Md
 |[]=>.fr
 |v :: r=>v.1.join (cJ r)
@[simp] noncomputable def trees(l:Ur):Up:=l.map (·.2)
def L4(m:Md)(l:Up):Uq:=if l.length<=gL then Y (if hJ l then .fr else m,.lst l) else J
@[simp] def ic(a:J8)(U:Env):Uq:=(a U).bind λl=>L4 (cJ l) (trees l)
def p9(l:Ur):Uq:=if l.length<=gL then Y (up (cJ l) (.tup (trees l))) else J
@[simp] def lY(a:J8)(U:Env):Uq:=(a U).bind p9
def dput(l:List (T×T))(k v:T):List (T×T):=if l.any (λp=>eqT p.1 k) then l.map (λp=>if eqT p.1 k then (p.1,v) else p) else l++[(k,v)]
noncomputable def hZ:T->Bool
 |.int _=>M
 |.str _=>M
 |_=>R
def keyOk:Nat->T->Bool
 |0,t=>hZ t
 |1,.tup l=>l.all hZ
 |_,_=>R
noncomputable def pairs:List (Ex×Ex)->Env->Option (List (Val×Val))
 |[],_=>Y []
 | (a,b) :: r,U=>(a U).bind λx=>(b U).bind λy=>(pairs r U).map ((x,y) :: ·)
def sS(a:Nat)(b:List (Ex×Ex))(U:Env):Uq:=(pairs b U).bind λl=>if l.all (λp=>keyOk a p.1.2)/\l.length<=15 then
 Y (cJ (l.map (·.2)),.dct a (l.foldl (λd p=>dput d p.1.2 p.2.2) [])) else J
noncomputable def OM:T->Option Bool
 |.bl b=>Y b
 |.int i=>Y (i != 0)
 |.str s=>Y (!s.isEmpty)
 |.lst l=>Y (!l.isEmpty)
 |.tup l=>Y (!l.isEmpty)
 |.dct 0 l=>Y (!l.isEmpty)
 |.non=>Y R
 |_=>J
@[simp] noncomputable def ik(a b:Ex)(U:Env):Uq:=(a U).bind λx=>match x.2 with
 |.bl true=>b U
 |.bl false=>Y (.fr,.bl R)
 |_=>J
@[simp] noncomputable def RE(a b:Ex)(U:Env):Uq:=(a U).bind λx=>match x.2 with
 |.bl true=>Y (.fr,.bl M)
 |.bl false=>b U
 |_=>J
@[simp] noncomputable def ny(a:Ex)(U:Env):Uq:=(a U).bind λx=>match x.2 with
 |.bl b=>Y (.fr,.bl (!b))
 |_=>J
@[simp] def Sf(c a b:Ex)(U:Env):Uq:=(c U).bind λx=>(OM x.2).bind λt=>if t then a U else b U
noncomputable def RW:T->Bool
 |.non=>M
 |_=>R
@[simp] def IW(a:Ex)(U:Env):Uq:=(a U).bind λx=>Y (.fr,.bl (RW x.2))
@[simp] def fR(a:Ex)(U:Env):Uq:=(a U).bind λx=>Y (.fr,.bl (!RW x.2))
@[simp] noncomputable def oP(f g:Val->Val->Uq)(a b c:Ex)(U:Env):Uq:=(a U).bind λx=>(b U).bind λy=>(f x y).bind λr=>match r.2 with
 |.bl true=>(c U).bind λz=>g y z
 |.bl false=>Y (.fr,.bl R)
 |_=>J
@[simp] noncomputable def int?:T->Option Int
 |.int i=>Y i
 |_=>J
def cu:Val->Val->Uq
 | (_,.int i),(_,.int j)=>Y (.fr,.int (i+j))
 | (_,.str s),(_,.str t)=>if s.length+t.length<=gL then Y (.fr,.str (s++t)) else J
 | (m,.lst s),(n,.lst t)=>L4 (m.join n) (s++t)
 |_,_=>J
@[simp] noncomputable def kZ:Val->Val->Uq
 | (_,.int i),(_,.int j)=>Y (.fr,.int (i-j))
 |_,_=>J
noncomputable def PL:Int:=4611686018427387904
noncomputable def Ub:Int:=18446744073709551616
def ig:Val->Val->Uq
 | (_,.int i),(_,.int j)=>if (-Ub<i/\i<Ub)\/(-Ub<j/\j<Ub) then Y (.fr,.int (i*j)) else J
 |_,_=>J
noncomputable def iy:Val->Val->Uq
 | (_,.int i),(_,.int j)=>if 0<j/\j<1073741824 then Y (.fr,.int (i/j)) else J
 |_,_=>J
noncomputable def oMod:Val->Val->Uq
 | (_,.int i),(_,.int j)=>if 0<j then Y (.fr,.int (i%j)) else J
 |_,_=>J
noncomputable def NY:Tx->Tx->Bool
 |[],[]=>R
 |[],_ :: _=>M
 |_ :: _,[]=>R
 |a :: d,b :: bs=>if a<b then M else if b<a then R else NY d bs
@[simp] def oLt:Val->Val->Uq
 | (_,.int i),(_,.int j)=>Y (.fr,.bl (decide (i<j)))
 | (_,.str s),(_,.str t)=>Y (.fr,.bl (NY s t))
 |_,_=>J
@[simp] def oLe:Val->Val->Uq
 | (_,.int i),(_,.int j)=>Y (.fr,.bl (decide (i<=j)))
 | (_,.str s),(_,.str t)=>Y (.fr,.bl (!NY t s))
 |_,_=>J
@[simp] def M6(a b:Val):Uq:=oLt b a
@[simp] def OQ(a b:Val):Uq:=oLe b a
@[simp] def oEq(a b:Val):Uq:=if KC 60 a.2/\KC 60 b.2 then Y (.fr,.bl (eqT a.2 b.2)) else J
@[simp] def NX(a b:Val):Uq:=if KC 60 a.2/\KC 60 b.2 then Y (.fr,.bl (!eqT a.2 b.2)) else J
def dR(l:List (T×T))(k:T):Option T:=(l.find? λp=>eqT p.1 k).map (·.2)
noncomputable def Lf(n:Nat)(i:Int):Option Nat:=if 0<=i then (if i<n then Y i.toNat else J) else (if 0<=i+n then Y (i+n).toNat else J)
@[simp] def sub(m:Md)(t:T):Val:=up m t
@[simp] def aJ:Val->Val->Uq
 | (m,.lst l),(_,.int i)=>(Lf l.length i).bind λk=>(l[k]?).map (sub m)
 | (m,.tup l),(_,.int i)=>(Lf l.length i).bind λk=>(l[k]?).map (sub m)
 | (_,.scr l),(_,.int i)=>(Lf l.length i).bind λk=>(l[k]?).map λn=>(.fr,.int n)
 | (_,.str l),(_,.int i)=>(Lf l.length i).bind λk=>(l[k]?).map λn=>(.fr,.str [n])
 |_,_=>J
noncomputable def clip(n:Nat)(i:Int):Nat:=if i<0 then (i+n).toNat else min i.toNat n
def cut{α:Type}(l:List α)(a b:Option Int):List α :=
 let lo:=match a with | none=>0 | some i=>clip l.length i
 let d:=match b with | none=>l.length | some i=>clip l.length i
 (l.drop lo).take (d-lo)
@[simp] def oSl(v:Val)(a b:Option Int):Uq:=match v with
 | (_,.str s)=>Y (.fr,.str (cut s a b))
 | (m,.lst l)=>L4 m (cut l a b)
 |_=>J
@[simp] def tY(c:Option Ex)(U:Env):Option (Option Int):=match c with
 |none=>Y J
 |some e=>(e U).bind λy=>(int? y.2).map Y
@[simp] def OF(a:Ex)(b d:Option Ex)(U:Env):Uq:=(a U).bind λx=>(tY b U).bind λl=>(tY d U).bind λh=>oSl x l h
noncomputable def Jm:T->Option Nat
 |.lst l=>Y l.length
 |.tup l=>Y l.length
 |.str l=>Y l.length
 |.scr l=>Y l.length
 |.dct 0 l=>Y l.length
 |_=>J
@[simp] def bU:Ur->Uq
 |[x]=>(Jm x.2).map λn=>(.fr,.int n)
 |_=>J
@[simp] noncomputable def tq:Ur->Uq
 |[(_,.int i),(_,.int j)]=>Y (.fr,.int (if j<i then j else i))
 |_=>J
noncomputable def uD:Up->Option (Uu)
 |[]=>Y []
 |.int i :: r=>(uD r).map (i :: ·)
 |_=>J
noncomputable def strs?:Up->Option (List Tx)
 |[]=>Y []
 |.str i :: r=>(strs? r).map (i :: ·)
 |_=>J
def Ci:Ur->Uq
 |[(_,.lst l)]=>(uD l).bind λa=>Y (.fr,.int a.sum)
 |_=>J
@[simp] def D5:Ur->Uq
 |[(m,.lst l)]=>L4 m l
 |[(m,.tup l)]=>L4 m l
 |_=>J
def kM:Ur->Uq
 |[(m,.lst l)]=>if l.length<=gL then Y (up m (.tup l)) else J
 |_=>J
def qc(x:Tx):List Tx->List Tx
 |[]=>[x]
 |y :: r=>if NY y x then y :: qc x r else x :: y :: r
def fM(l:List Tx):List Tx:=l.foldr qc []
inductive Ty where | int | str | bool | list | tuple | dict
@[simp] noncomputable def sR:Ty->T->Bool
 |.int,.int _=>M
 |.int,.bl _=>M
 |.bool,.bl _=>M
 |.str,.str _=>M
 |.list,.lst _=>M
 |.tuple,.tup _=>M
 |.dict,.dct _ _=>M
 |_,_=>R
@[simp] noncomputable def xm:T->Bool
 |.obj _ _=>R
 |.scr _=>R
 |.dct 0 _=>M
 |.dct 1 _=>M
 |.dct _ _=>R
 |_=>M
@[simp] def U8(t:Ty)(a:Ex)(U:Env):Uq:=(a U).bind λx=>if xm x.2 then Y (.fr,.bl (sR t x.2)) else J
@[simp] noncomputable def eM(f:Val->Ur->Uq)(o:Ex)(b:J8)(U:Env):Uq:=(o U).bind λx=>(b U).bind λa=>f x a
noncomputable abbrev Fn:=Up->Uq
@[simp] def aT(g:Fn)(b:J8)(U:Env):Uq:=(b U).bind λa=>(g (trees a)).bind λr=>match r with
 | (.fr,t)=>Y (.fr,t)
 | (_,t)=>Y ((Md.pu).join (cJ a),t)
abbrev Mr:=Env->Option (Md×Up)
noncomputable def BN:Val->Option (Md×Up)
 | (m,.lst l)=>Y (m,l)
 | (m,.tup l)=>Y (m,l)
 | (_,.str l)=>Y (.fr,l.map λc=>.str [c])
 |_=>J
@[simp] def fW(a:Ex)(U:Env):Option (Md×Up):=(a U).bind BN
noncomputable def rng(a:Int)(n:Nat):Up:=(List.range n).map λ(k:Nat)=>T.int (a+k)
def dY(a:Ex)(U:Env):Option (Md×Up):=(a U).bind λx=>(int? x.2).bind λj=>if -PL<=j/\j<PL then Y (.fr,rng 0 j.toNat) else J
def mU(a b:Ex)(U:Env):Option (Md×Up):=(a U).bind λx=>(b U).bind λy=>(int? x.2).bind λi=>(int? y.2).bind λj =>
 if (-PL<=i/\i<PL)/\-PL<=j/\j<PL then Y (.fr,rng i (j-i).toNat) else J
noncomputable def fP(k:Nat):Up->Up
 |[]=>[]
 |t :: r=>.tup [.int k,t] :: fP (k+1) r
def Hv:Val->Option (Md×Up)
 | (m,.lst l)=>Y (m,fP 0 l)
 |_=>J
@[simp] def pN(a:Ex)(U:Env):Option (Md×Up):=(a U).bind Hv
abbrev Tg:=T->Env->Option Env
@[simp] noncomputable def bx(i:Nat)(t:T)(U:Env):Option Env:=if i<U.length then Y (U.set i (Y (.pu t))) else J
noncomputable def Ag:List Tg->Up->Env->Option Env
 |[],[],U=>Y U
 |g :: b,t :: a,U=>(g t U).bind λd=>Ag b a d
 |_,_,_=>J
@[simp] def kA(a:List Tg)(t:T)(U:Env):Option Env:=match t with
 |.tup l=>Ag a l U
 |_=>J
@[simp] def UC(m:Md)(l:Up):Bool:=match m with
 |.bo=>hJ l
 |_=>M
def jS(e:Tg)(a:Option Ex)(d:Ex)(U:Env):Up->Option (Ur)
 |[]=>Y []
 |t :: r=>(e t U).bind λf=>(match a with | none=>some true | some c=>(c f).bind λx=>OM x.2).bind λb =>
  if b then (d f).bind λv=>(jS e a d U r).map (v :: ·) else jS e a d U r
def cG(k:Nat)(e:Tg)(f:Mr)(a:Option Ex)(b:Ex)(U:Env):Uq:=(f U).bind λ(m,l)=>if UC m l then
 (jS e a b (List.replicate k J++U) l).bind λd=>L4 (cJ d) (trees d) else J
@[simp] noncomputable def eU(U:Env):Option Out:=Y (.nx U)
@[simp] noncomputable def ar(a b:Sx)(U:Env):Option Out:=(a U).bind λo=>match o with
 |.nx d=>b d
 |o=>Y o
@[simp] def k8(i:Nat)(e:Ex)(U:Env):Option Out:=(e U).bind λv=>(cellOf v).bind λc=>if i<U.length then Y (.nx (U.set i (Y c))) else J
@[simp] noncomputable def aK(i:Nat)(e:Ex)(U:Env):Option Out:=(e U).bind λv=>match v.1 with
 |.bo=>J
 |_=>if i<U.length then Y (.nx (U.set i (Y (.pu v.2)))) else J
@[simp] noncomputable def d5(e:Ex)(U:Env):Option Out:=(e U).bind λv=>Y (.rt (match v.1 with | .bo=>.pu | m=>m,v.2) U)
@[simp] def fT(i:Nat)(U:Env):Option Out:=match U[i]? with
 |some (some (.ow t))=>Y (.rt (.fr,t) (U.set i J))
 |some (some (.pu t))=>Y (.rt (up .pu t) U)
 |_=>J
@[simp] def KH(c:Ex)(a b:Sx)(U:Env):Option Out:=(c U).bind λx=>(OM x.2).bind λt=>if t then a U else b U
noncomputable def forL(d:Tg)(a:Sx):Up->Env->Option Out
 |[],U=>Y (.nx U)
 |t :: r,U=>(d t U).bind λe=>(a e).bind λo=>match o with
  |.nx b=>forL d a r b
  |.ct b=>forL d a r b
  |.bk b=>Y (.nx b)
  |.rt v b=>Y (.rt v b)
@[simp] noncomputable def okF:Md->Bool
 |.bo=>R
 |_=>M
@[simp] def gu(b:Tg)(d:Mr)(a:Sx)(U:Env):Option Out:=(d U).bind λ(m,l)=>if okF m then forL b a l U else J
def dG(c:Ex)(a:Sx):Nat->Env->Option Out
 |0,_=>J
 |n+1,U=>(c U).bind λx=>(OM x.2).bind λt=>if t then (a U).bind λo=>match o with
  |.nx b=>dG c a n b
  |.ct b=>dG c a n b
  |.bk b=>Y (.nx b)
  |.rt v b=>Y (.rt v b)
  else Y (.nx U)
noncomputable def vE:Nat:=1000000
def ke(c:Ex)(a:Sx)(U:Env):Option Out:=dG c a vE U
@[simp] noncomputable def Df(i:Nat)(U:Env):Option Out:=match U[i]? with
 |some (some (.ow t))=>Y (.nx (U.set i (Y (.pu t))))
 |some (some (.pu _))=>Y (.nx U)
 |_=>J
inductive MT where | fld (k:Nat) | ix (e:Ex) | un
inductive Ky where | fld (k:Nat) | at (t:T) | un
def keys:List MT->Env->Option (List Ky)
 |[],_=>Y []
 |.fld k :: r,U=>(keys r U).map (.fld k :: ·)
 |.ix e :: r,U=>(e U).bind λx=>(keys r U).map (.at x.2 :: ·)
 |.un :: r,U=>(keys r U).map (.un :: ·)
noncomputable def Jr(a:List (Nat×T))(k:Nat):Option T:=a.lookup k
noncomputable def Js(a:List (Nat×T))(k:Nat)(v:T):List (Nat×T):=if a.any (λp=>p.1==k) then a.map (λp=>if p.1==k then (p.1,v) else p) else a++[(k,v)]
def DM{α:Type}(f:T->Option (T×α)):List Ky->T->Option (T×α)
 |[],t=>f t
 |.fld k :: r,.obj c fs=>(Jr fs k).bind λx=>(DM f r x).map λ(y,a)=>(.obj c (Js fs k y),a)
 |.at (.int i) :: r,.lst l=>(Lf l.length i).bind λj=>(l[j]?).bind λx=>(DM f r x).map λ(y,a)=>(.lst (l.set j y),a)
 |.at k :: r,.dct d l=>(dR l k).bind λx=>(DM f r x).map λ(y,a)=>(.dct d (dput l k y),a)
 |_,_=>J
abbrev Xx:=Env->Option (Val×Env)
@[simp] noncomputable def xP(e:Ex)(U:Env):Option (Val×Env):=(e U).map λv=>(v,U)
@[simp] def nt(i:Nat)(a:List MT)(f:T->Ur->Option (T×Val))(g:J8)(U:Env):Option (Val×Env):=match U[i]? with
 |some (some (.ow t))=>(keys a U).bind λe=>(g U).bind λb=>(DM (λx=>f x b) e t).map λ(d,v)=>(v,U.set i (Y (.ow d)))
 |_=>J
@[simp] noncomputable def fit(v:Val):Option T:=match v.1 with
 |.fr=>Y v.2
 |_=>J
def aN:T->Ur->Option (T×Val)
 |.lst l,[v]=>(fit v).bind λt=>if l.length<gL then Y (.lst (l++[t]),(.fr,.non)) else J
 |_,_=>J
@[simp] noncomputable def sX(x:Xx)(U:Env):Option Out:=(x U).map λr=>.nx r.2
@[simp] noncomputable def fn(d e:Nat)(a:Sx):Fn:=λb=>if b.length=d then
 (a (b.map (λt=>Y (.pu t))++List.replicate (e-d) J)).bind λo=>match o with
  |.rt v _=>Y v
  |.nx _=>Y (.fr,.non)
  |_=>J else J
def kI{s t:Tx}(h:s.length+t.length<=16777216):cu (m,.str s) (n,.str t)=Y (.fr,.str (s++t)):=Zs h
def lN{i j:Int}(h:-18446744073709551616<i/\i<18446744073709551616):ig (m,.int i) (n,.int j)=Y (.fr,.int (i*j)):=Zs (.inl h)
def gf{i j:Int}(h:0<j/\j<1073741824):iy (m,.int i) (n,.int j)=Y (.fr,.int (i/j)):=Zs h
def bL{i j:Int}(h:0<j):oMod (m,.int i) (n,.int j)=Y (.fr,.int (i%j)):=Zs h
def d7{l:Up}(h:l.length<16777216):aN (.lst l) [(.fr,t)]=Y (.lst (l++[t]),(.fr,.non)):=by
 exact Zs h
def iT{j:Int}(e:a U=Y (m,.int j))(h:-4611686018427387904<=j/\j<4611686018427387904):dY a U=Y (.fr,rng 0 j.toNat):=by
 simp only[dY,e,Zr,int?];exact Zs h
def nQ{l:Up}(h:l.length<=16777216):L4 m l=Y (if hJ l then .fr else m,.lst l):=Zs h
def bR{b:Tg}{r:Up}{U1 U2:Env}(e:b t U=Y U1)(d:a U1=Y (.nx U2)):forL b a (t :: r) U=forL b a r U2:=by
 simp[forL,e,d]
theorem strs_map{α:Type}(f:α->Tx):∀l:List α,strs? (l.map λx=>T.str (f x))=Y (l.map f)
 |[]=>rfl
 |a :: r=>congrArg (Option.map (f a :: ·)) (strs_map f r)
theorem ints_map{α:Type}(f:α->Int):∀l:List α,uD (l.map λx=>T.int (f x))=Y (l.map f)
 |[]=>rfl
 |a :: r=>congrArg (Option.map (f a :: ·)) (ints_map f r)
def lA(n:Nat):rng 0 n=(List.range n).map λ(k:Nat)=>T.int (k:Int):=by
 unfold rng;simp
theorem jb{α:Type}(f:α->T)(h:∀x,JU (f x)=M):∀l:List α,hJ (l.map f)=M
 |[]=>rfl
 |a :: r=>ZP.mpr ⟨h a,jb f h r⟩
theorem pE{α:Type}(g:α->T)(f:α->Val):∀l:List α,(∀a∈l,∃e,i (g a) U=Y e/\d e=Y (f a))->jS i J d U (l.map g)=Y (l.map f)
 |[],_=>rfl
 |a :: r,h=>by
  obtain⟨e,m,j⟩:=h a Zv;simp[jS,m,j,pE g f r λb hb=>h b (Zu _ hb)]
theorem lB{α:Type}{c:Ex}(g:α->T)(p:α->Bool)(f:α->Val):∀l:List α,(∀a∈l,∃i x,j (g a) U=Y i/\c i=Y x/\OM x.2=Y (p a)/\(p a=M->d i=Y (f a))) →
  jS j (Y c) d U (l.map g)=Y ((l.filter p).map f)
 |[],_=>rfl
 |a :: r,h=>by
  obtain⟨i,x,q,o,n,s⟩:=h a Zv;have m:=lB (c:=c) g p f r λb hb=>h b (Zu _ hb);cases e:p a with
  |true=>simp[-OM,jS,q,o,n,e,s e,m]
  |false=>simp[-OM,jS,q,o,n,e,m]
theorem oV{α:Type}(f:α->T):∀l:List α,cJ (l.map λa=>(Md.fr,f a))=.fr
 |[]=>rfl
 |a :: r=>congrArg (Md.join .fr) (oV f r)
def pJ{α:Type}(f:α->Val)(l:List α):trees (l.map f)=l.map λa=>(f a).2:=by simp
def da{α:Type}{k:Nat}{tg:Tg}{it:Mr}{elt:Ex}{U:Env}{m:Md}(g:α->T)(f:α->T)(l:List α)(i:it U=Y (m,l.map g))(e:UC m (l.map g)=M)(d:l.length<=16777216)(h:∀a∈l,∃b,tg (g a) (List.replicate k J++U)=Y b/\elt b=Y (.fr,f a)):cG k tg it J elt U=Y (.fr,.lst (l.map f)):=by
 simp only[cG,i,Zr];rw[Zs e,pE g (λa=>(Md.fr,f a)) l h];simp only[Zr,oV,pJ];rw[nQ (by rw[Zw];exact d)];simp
def iQ{α:Type}{m:Md}(g:α->T)(p:α->Bool)(f:α->T)(l:List α)(o:i U=Y (m,l.map g))(n:UC m (l.map g)=M)(j:l.length<=16777216)(h:∀a∈l,∃d x,e (g a) (List.replicate k J++U)=Y d/\c d=Y x/\OM x.2=Y (p a)/\(p a=M->b d=Y (.fr,f a))):cG k e i (Y c) b U=Y (.fr,.lst ((l.filter p).map f)):=by
 simp only[cG,o,Zr];rw[Zs n,lB g p (λa=>(Md.fr,f a)) l h];simp only[Zr,oV,pJ];rw[nQ (by rw[Zw];exact ZS (Xj _ _) j)];simp
def nU{α:Type}{m n:Md}(f:α->T)(l:List α)(i:Int)(d:α)(g:0<=i)(e:i<l.length)(a:JU (f (l.getD i.toNat d))=M):aJ (m,.lst (l.map f)) (n,.int i)=Y (.fr,f (l.getD i.toNat d)):=by
 have b:i.toNat<l.length:=by lia
 simp only[Zq,Zp b,Wx]at a ⊢;simp[Lf,g,e,b,a]
def yL{l:Ur}(h:l.length<=16777216):p9 l=Y (up (cJ l) (.tup (trees l))):=Zs h
end VS
end
section
namespace L2
open PySem PySem.Spec PyProof.Rows
noncomputable abbrev Key:=Sum Int Str
def mf:Key->PP->Bool
 |.inl k,v=>Value.isInt k v
 |.inr x,v=>Value.isStrOf x v
noncomputable def IX(w:XAB):Key->Int
 |.inl k=>hashInt k
 |.inr x=>hashStr w x
theorem bS:∀{k:Key}{v:PP},mf k v=M->(∃i t,k=Sum.inl i/\v=Value.int i t)\/(∃x t,k=Sum.inr x/\v=Value.str x t)
 |.inl i,v,h=>by
  obtain⟨t,e⟩:=Value.isInt_shape (k:=i) (v:=v) h;exact .inl ⟨i,t,rfl,e⟩
 |.inr x,v,h=>by
  obtain⟨t,e⟩:=Value.isStrOf_shape (x:=x) (v:=v) h;exact .inr ⟨x,t,rfl,e⟩
def xO(i:Int)(t:Tok):mf (.inl i) (.int i t)=M:=by simp[mf,Value.isInt]
def xY(x:Str)(t:Tok):mf (.inr x) (.str x t)=M:=by simp[mf,Value.isStrOf]
def EM(a b:Int):decide ((Sum.inl a:Key)=Sum.inl b)=(a==b):=by
 by_cases e:a=b
 ·subst e;simp
 ·rw[ZZ (λq=>e (Sum.inl.inj q))];exact(beq_eq_false_iff_ne.mpr e).symm
def FR(a b:Str):decide ((Sum.inr a:Key)=Sum.inr b)=decide (a=b):=by
 by_cases e:a=b
 ·subst e;simp
 ·rw[ZZ (λq=>e (Sum.inr.inj q)),ZZ e]
def GG(a:Int)(b:Str):decide ((Sum.inl a:Key)=Sum.inr b)=R:=ZZ (λq=>nomatch q)
def FK(a:Str)(b:Int):decide ((Sum.inr a:Key)=Sum.inl b)=R:=ZZ (λq=>nomatch q)
def ba(d:SB)(w:XAB):PySem.KeyKind d w Key where
 is:=mf
 hash:=IX w
 inj:=λv a b l hb=>by
  rcases bS l with⟨i,t,rfl,rfl⟩ | ⟨x,t,rfl,rfl⟩
  ·rcases bS hb with⟨j,u,rfl,e⟩ | ⟨y,u,rfl,e⟩
   ·injection e with e1 _;rw[e1]
   ·exact nomatch e
  ·rcases bS hb with⟨j,u,rfl,e⟩ | ⟨y,u,rfl,e⟩
   ·exact nomatch e
   ·injection e with e1 _;rw[e1]
 byValue:=λk v h=>by
  rcases bS h with⟨i,t,rfl,rfl⟩ | ⟨x,t,rfl,rfl⟩<;>rfl
 pyHash:=λf h=>by
  rcases bS f with⟨i,t,rfl,rfl⟩ | ⟨x,t,rfl,rfl⟩
  ·exact wpAny_pyHash_int h
  ·exact wpAny_pyHash_str h
 eqBool:=λg f h=>by
  rcases bS g with⟨i,t,rfl,rfl⟩ | ⟨x,t,rfl,rfl⟩
  ·rcases bS f with⟨j,u,rfl,rfl⟩ | ⟨y,u,rfl,rfl⟩
   ·rw[EM]at h;exact wpAny_eqBool_int h
   ·rw[GG]at h;exact SeqAt.EqAt.int_str i t y u _ _ _ _ h
  ·rcases bS f with⟨j,u,rfl,rfl⟩ | ⟨y,u,rfl,rfl⟩
   ·rw[FK]at h;exact SeqAt.EqAt.str_int x t j u _ _ _ _ h
   ·rw[FR]at h;exact wpAny_eqBool_str h
 «strs» := λk x t v h=>by
  rcases bS h with⟨i,u,rfl,e⟩ | ⟨y,u,rfl,e⟩
  ·exact nomatch e
  ·injection e with e1 _
   subst e1;cases v<;>rfl
def sZ(a:SB)(w:XAB)(i:Int)(t:Tok):(ba a w).is (.inl i) (.int i t)=M:=xO i t
def rP(a:SB)(w:XAB)(x:Str)(t:Tok):(ba a w).is (.inr x) (.str x t)=M:=xY x t
inductive V where
 |non | bl (b:Bool) | int (i:Int) | str (x:Str) | byt (b:Array UInt8) | flt (b:UInt64) | ref (a:On) | ty (n:String)
 deriving DecidableEq
noncomputable def RelV:V->PP->Prop
 |.non,u=>u=Value.none
 |.bl b,u=>u=Value.bool b
 |.int i,u=>∃t,u=Value.int i t
 |.str x,u=>∃t,u=Value.str x t
 |.byt b,u=>∃t,u=Value.bytes b t
 |.flt b,u=>∃t,u=Value.float b t
 |.ref a,u=>u=Value.ref a
 |.ty n,u=>u=Value.type n
abbrev aW:List V->Vq->Prop:=Paired RelV
theorem aW.length{b:Vq}(r:aW a b):a.length=b.length:=Wz r
theorem aW.get:∀{a:List V}{b:Vq}{i:Nat}{x:V},aW a b->a[i]?=Y x->∃u,b[i]?=Y u/\RelV x u
 |_,_,_,_,.nil,e=>by simp at e
 |_,_,0,_,.cons r _,e=>by simp at e;subst e;exact⟨_,rfl,r⟩
 |_,_,i+1,x,.cons _ t,e=>by
  obtain⟨u,f,d⟩:=aW.get (i:=i) (x:=x) t (by simpa using e);exact⟨u,by simpa using f,d⟩
theorem aW.set(r:RelV x u):∀{a:List V}{b:Vq}(i:Nat),aW a b->aW (a.set i x) (b.set i u)
 |_,_,_,.nil=>.nil
 |_,_,0,.cons _ t=>.cons r t
 |_,_,i+1,.cons q t=>.cons q (aW.set r i t)
theorem aW.append:∀{b a:List V}{d ws:Vq},aW b d->aW a ws->aW (b++a) (d++ws)
 |_,_,_,_,.nil,s=>s
 |_,_,_,_,.cons r t,s=>.cons r (aW.append t s)
theorem aW.take:∀{a:List V}{b:Vq}(n:Nat),aW a b->aW (a.take n) (b.take n)
 |_,_,0,_=>.nil
 |_,_,_+1,.nil=>.nil
 |_,_,n+1,.cons r t=>.cons r (aW.take n t)
theorem aW.drop:∀{a:List V}{b:Vq}(n:Nat),aW a b->aW (a.drop n) (b.drop n)
 |_,_,0,r=>r
 |_,_,_+1,.nil=>.nil
 |_,_,n+1,.cons _ t=>aW.drop n t
def aW.none_of:∀{a:List V}{b:Vq}{i:Nat},aW a b->a[i]?=J->b[i]?=J:=λ{a b i} r e=>by
 have f:=r.length;have d:=YF.mp e;exact YF.mpr (by lia)
def ja:Option V->V6->Prop
 |some v,some u=>RelV v u
 |none,none=>True
 |_,_=>False
def KV{κ:Type}:List (κ×V)->List (κ×PP)->Prop:=Paired λ(p:κ×V) (q:κ×PP)=>p.1=q.1/\RelV p.2 q.2
noncomputable def kV:Key->V
 |.inl i=>.int i
 |.inr x=>.str x
set_option genInjectivity true in
inductive HO where
 |lst (xs:List V)
 |tup (xs:List V)
 |dK (cp:List (Key×V)) | dT (cp:List (List Key×V))
 |set (S:Int->Bool) (n:Nat)
 |ins (C dx:On) (fs:List (Str×V))
 |own (x:On)
 |xd (fs:List (Str×V))
 |met (f x:On)
 |rng (lo hi:Int)
 |frz (o:Obj) (u:HO)
 |tbl (q:Str)
 |ext (φ:XAB->XAA->Prop)
noncomputable abbrev Hp:=On->Option HO
noncomputable def upd(H:Hp)(a:On)(o:HO):Hp:=λb=>if b=a then Y o else H b
def aH{H:Hp}:upd H a o a=Y o:=by unfold upd;rw[Zs L]
def aM(h:b≠a):upd H a o b=H b:=by unfold upd;rw[Zo h]
def C3:upd (upd H a o) a u=upd H a u:=by
 funext b;unfold upd;split<;>rfl
def Ht{H:Hp}{a b:On}{o u:HO}(h:H a=Y o)(f:H b=Y u)(d:o≠u):a≠b:=by
 intro e;subst e;rw[h]at f;exact d (Zl f)
def cO{H:Hp}{a b:On}{o:HO}(h:H a=Y o)(d:H b=J):a≠b:=by
 intro e;subst e;rw[h]at d;cases d
noncomputable def PH(h:XAA)(a:On):Prop:=∀o,h.get? a=Y o->o.dict=J
def PH.new(h:XAA)(a:Array PP):PH (h.push { cls:=.type "tuple",data:=.seq a }) h.objs.size:=λo e=>by
 rw[ZM _ L]at e;cases e;rfl
def PH.of{h:XAA}(e:h.get? a=Y o)(d:o.dict=J):PH h a:=λf b=>by
 rw[e]at b;cases b;exact d
section
variable(P:SB)(w:XAB)
def dE(H:Hp)(h:XAA)(a:On):HO->Prop
 |.lst b=>b.length<=KM/\∃(g:Vq)(n:Nat),aW b g/\h.get? a=Y { cls:=.type "list",data:=.seq g.toArray n }
 |.tup b=>b.length<=KM/\∃g:Vq,aW b g/\PH h a/\IsTup h a g.toArray
 |.dK i=>i.length<=KM/\(a==sysModules)=R/\∃e,KV i e/\h.DictOf (ba P w) a e
 |.dT i=>i.length<=KM/\(a==sysModules)=R/\∃b:List (List Key×On×PP),
   Paired (λ(p:List Key×V) (q:List Key×On×PP)=>p.1=q.1/\H q.2.1=Y (.tup (p.1.map kV))/\RelV p.2 q.2.2) i b ∧
   ∃o s A,h.get? a=Y o/\o.ExactDict/\o.data=.dict s A/\s.toList=b.map (entryOfKey (tupleKind (ba P w)))/\(b.map (·.1)).Nodup
 |.set S n=>h.SetOf (intKind P w) a S n
 |.ins C j fs=>H j=Y (.own a)/\fs.length<=1000/\j≠a/\h.get? a=Y (PySem.W.instObj C j) ∧
   ∃d,h.Ns1 j d/\(∀f,ja (fs.lookup f) (d f))/\PySem.Within d (fs.map (·.1))
 |.own _=>∃o,h.get? a=Y o
 |.xd fs=>∃d,h.Ns1 a d/\∀f,ja (fs.lookup f) (d f)
 |.rng lo z=>∃t u v,h.get? a=Y { cls:=.type "range",data:=.fields #[.int lo t,.int z u,.int 1 v] }
 |.frz o u=>h.get? a=Y o/\dE H h a u
 |.tbl q=>∃l,h.get? a=Y { cls:=.none,data:=.fields l }/\TriplesOk l.toList/\∀pos v,codeAmong pos l.toList=Y v->∃c o y e t,v=.ref c/\H c=Y (.frz o (.own y))/\o.data=.fields e/\e[1]?=Y (.str q t)
 |.met f x=>h.get? a=Y (PySem.W.methodObj (.ref f) (.ref x))
 |.ext φ=>φ w h/\(∃o,h.get? a=Y o)/\∀r m:XAA,φ w r->(∀o,r.get? a=Y o->m.get? a=Y o)->φ w m
def KL(H:Hp)(h:XAA):Prop:=∀a o,H a=Y o->dE P w H h a o
end
section
variable{H:Hp}
theorem dE.lt(x:dE P w H h a o):a<h.objs.size:=by
 cases o with
 |lst b=>obtain⟨_,_,_,_,e⟩:=x;exact ZV e
 |tup b=>obtain⟨_,_,_,_,p⟩:=x;exact p.lt
 |dK d=>obtain⟨_,_,_,_,o,_,_,e,_⟩:=x;exact ZV e
 |dT d=>obtain⟨_,_,_,_,o,_,_,e,_⟩:=x;exact ZV e
 |set S n=>obtain⟨o,_,_,_,e,_⟩:=x;exact ZV e
 |ins C j fs=>obtain⟨_,_,_,e,_⟩:=x;exact ZV e
 |own y=>obtain⟨_,e⟩:=x;exact ZV e
 |xd fs=>obtain⟨_,⟨_,_,_,e,_⟩,_⟩:=x;exact ZV e
 |rng lo i=>obtain⟨_,_,_,e⟩:=x;exact ZV e
 |frz g u=>obtain⟨e,_⟩:=x;exact ZV e
 |tbl q=>obtain⟨_,e,_⟩:=x;exact ZV e
 |met f y=>exact ZV (x)
 |ext φ=>obtain⟨_,⟨_,e⟩,_⟩:=x;exact ZV e
theorem Paired.Pe{α β:Type}{F G:α->β->Prop}:∀{e:List α}{d:List β},Paired F e d->(∀a b,F a b->G a b)->Paired G e d
 |_,_,.nil,_=>.nil
 |_,_,.cons r t,f=>.cons (f _ _ r) (Paired.Pe t f)
def dE.NJ{h':XAA}(x:dE P w H h a o)(k:∀b u,(b=a\/H b=Y (.own a))->h.get? b=Y u->h'.get? b=Y u)(N:∀b,H b=Y (.own a)->H' b=Y (.own a))(G:∀b l,H b=Y (.tup l)->H' b=Y (.tup l))(O:∀b o y,H b=Y (.frz o (.own y))->H' b=Y (.frz o (.own y))):dE P w H' h' a o:=by
 induction o with
 |lst l=>obtain⟨z,s,n,r,e⟩:=x;exact⟨z,s,n,r,k _ _ (.inl L) e⟩
 |tup l=>obtain⟨z,s,r,nd,g,e,c⟩:=x;exact⟨z,s,r,PH.of (k _ _ (.inl L) e) (nd _ e),g,k _ _ (.inl L) e,c⟩
 |dK Q=>obtain⟨z,y,m,r,g,i,j,e,c⟩:=x;exact⟨z,y,m,r,g,i,j,k _ _ (.inl L) e,c⟩
 |dT Q =>
  obtain⟨z,y,l,r,g,i,j,e,c⟩:=x;exact⟨z,y,l,Paired.Pe r λp q z=>⟨z.1,G _ _ z.2.1,z.2.2⟩,g,i,j,k _ _ (.inl L) e,c⟩
 |set S n=>obtain⟨g,i,j,t,e,c⟩:=x;exact⟨g,i,j,t,k _ _ (.inl L) e,c⟩
 |ins C X fs =>
  obtain⟨d,z,ne,e,B,⟨A,i,j,e2,c⟩,r⟩:=x;exact⟨N _ d,z,ne,k _ _ (.inl L) e,B,⟨A,i,j,k _ _ (.inr d) e2,c⟩,r⟩
 |own y=>obtain⟨g,e⟩:=x;exact⟨g,k _ _ (.inl L) e⟩
 |xd fs=>obtain⟨B,⟨A,i,j,e,c⟩,r⟩:=x;exact⟨B,⟨A,i,j,k _ _ (.inl L) e,c⟩,r⟩
 |rng lo U=>obtain⟨t,u,v,e⟩:=x;exact⟨t,u,v,k _ _ (.inl L) e⟩
 |frz g u F=>obtain⟨e,q⟩:=x;exact⟨k _ _ (.inl L) e,F q⟩
 |tbl q =>
  obtain⟨E,e,e1,e2⟩:=x;refine⟨E,k a _ (.inl L) e,e1,λpos v r=>?_⟩;obtain⟨c,o,y,m,t,r1,r2,D⟩:=e2 pos v r;exact⟨c,o,y,m,t,r1,O _ _ _ r2,D⟩
 |met f y =>
  exact k a _ (.inl L) x
 |ext φ=>obtain⟨p,⟨o,e⟩,st⟩:=x;exact⟨st _ _ p λo q=>k _ _ (.inl L) q,⟨o,k _ _ (.inl L) e⟩,st⟩
theorem KL.lt(x:KL P w H h)(e:H a=Y o):a<h.objs.size:=(x a o e).lt
def KL.fresh(x:KL P w H h)(e:h.objs.size<=a):H a=J:=by
 cases q:H a with
 |none=>rfl
 |some u=>exact absurd (Zi (x.lt q) e) (Yf _)
def KL.kept{h':XAA}(x:KL P w H h)(k:∀b u,h.get? b=Y u->h'.get? b=Y u):KL P w H h':=λa o e =>
 (x a o e).NJ (λb u _ q=>k b u q) (λ_ q=>q) (λ_ _ q=>q) λ_ _ _ q=>q
def KL.laid{h':XAA}(x:KL P w H h)(k:∀b u,h.get? b=Y u->h'.get? b=Y u)(g:h.objs.size<=a)(d:dE P w (upd H a o) h' a o):KL P w (upd H a o) h':=λb u e=>by
 have f:=x.fresh g;by_cases hb:b=a
 ·subst hb;rw[aH]at e;cases e;exact d
 ·rw[aM hb]at e;exact(x b u e).NJ (λc v _ q=>k c v q) (λc q=>by rw[aM (cO q f)];exact q) (λc i q=>by rw[aM (cO q f)];exact q) λc _ _ q=>by rw[aM (cO q f)];exact q
end
noncomputable def Rd(H:Hp)(a:On)(u:HO):Prop:=H a=Y u\/∃o,H a=Y (.frz o u)
def Rd.ok(r:Rd H a u)(x:KL P w H h):dE P w H h a u:=by
 rcases r with r | ⟨o,r⟩
 ·exact x a u r
 ·obtain⟨_,q⟩:=x a _ r;exact q
noncomputable def JT:Option HO->Prop
 |some (.lst _)=>True
 |some (.dK _)=>True
 |some (.dT _)=>True
 |some (.set _ _)=>True
 |some (.ins _ _ _)=>True
 |some (.ext _)=>True
 |_=>False
section
variable{H:Hp}
def KL.write{h':XAA}(m:KL P w H h)(a:JT (H x))(he:e=x\/H e=Y (.own x))(k:∀b u,b≠e->h.get? b=Y u->h'.get? b=Y u)(o:∃u,h'.get? e=Y u)(g:dE P w (upd H x o') h' x o'):KL P w (upd H x o') h':=λb u q=>by
 have l:∀c y,H c=Y (.own y)->c≠x:=λc y r z=>by subst z;rw[r]at a;exact a
 by_cases hb:b=x
 ·subst hb;rw[aH]at q;cases q;exact g
 ·rw[aM hb]at q;by_cases f:b=e
  ·have j:H b=Y (.own x):=by
    rcases he with z | z
    ·exact absurd (f.trans z) hb
    ·rw[f];exact z
   rw[q]at j;cases j;obtain⟨v,n⟩:=o;exact⟨v,by rw[f];exact n⟩
  ·refine(m b u q).NJ (λc v d r=>k c v ?_ r) (λc r=>by rw[aM (l c b r)];exact r) (λc i r=>by rw[aM ((λc i r z=>by subst z;rw[r]at a;exact a) c i r)];exact r) λc _ _ r=>by rw[aM λz=>by subst z;rw[r]at a;exact a];exact r
   rcases d with rfl | d
   ·exact f
   ·rintro rfl;rcases he with z | z
    ·exact l c b d z
    ·rw[d]at z;cases z;exact hb L
end
structure Un(fs ex:W5)(H H':Hp)(h h':XAA):Prop where
 keep:∀b o,h.get? b=some o->H b=none->b∉fs->b∉ex->h'.get? b=some o
 slot:∀b o,h.get? b=some o->H b=none->b∈fs->b∉ex->∃sl,h'.get? b=some { o with slots:=sl }
 free:∀b o,h.get? b=some o->H b=none->b∉ex->H' b=none
 there:∀b o,h.get? b=some o->b∉ex->∃o',h'.get? b=some o'
 My:∀b xs,H b=some (.tup xs)->H' b=some (.tup xs)
 Mm:∀b o u,H b=some (.frz o u)->H' b=some (.frz o u)
 Mf:∀b q,H b=some (.tbl q)->H' b=some (.tbl q)
section
variable{H:Hp}
def Un.any(u:Un fs ex H H1 h h1)(q:h.get? b=Y d)(n:H b=J)(f:b∉ex):∃g,h1.get? b=Y { d with slots:=g }:=by
 by_cases hb:b∈fs
 ·exact u.slot b d q n hb f
 ·exact⟨d.slots,u.keep b d q n hb f⟩
def Un.kept{h h':XAA}(k:∀b u,h.get? b=Y u->h'.get? b=Y u):Un fs ex H H h h' :=
 ⟨λb d q _ _ _=>k b d q,λb d q _ _ _=>⟨d.slots,k b d q⟩,λ_ _ _ n _=>n,λb d q _=>⟨d,k b d q⟩,λ_ _ q=>q,λ_ _ _ q=>q,λ_ _ q=>q⟩
def Un.refl:Un fs ex H H h h:=Un.kept λ_ _ q=>q
def Un.laid{h h':XAA}(k:∀b u,h.get? b=Y u->h'.get? b=Y u)(g:h.objs.size<=a)(d:H a=J):Un fs ex H (upd H a o) h h' where
 keep:=λb u q _ _ _=>k b u q
 slot:=λb u q _ _ _=>⟨u.slots,k b u q⟩
 free:=λb u q n _=>by rw[aM (Ze (Zi (ZV q) g))];exact n
 there:=λb u q _=>⟨u,k b u q⟩
 My:=λb f q=>by rw[aM (cO q d)];exact q
 Mm:=λb u f q=>by rw[aM (cO q d)];exact q
 Mf:=λb n q=>by rw[aM (cO q d)];exact q
def Un.write{h h':XAA}(d:JT (H x))(he:e=x\/H e=Y (.own x))(k:∀b u,b≠e->h.get? b=Y u->h'.get? b=Y u)(l:∃u,h'.get? e=Y u):Un fs ex H (upd H x o) h h':=by
 have g:∀b,H b=J->b≠x:=λb n z=>by subst z;rw[n]at d;exact d
 have hb:∀b,H b=J->b≠e:=λb n z=>by
  subst z;rcases he with r | r
  ·exact g b n r
  ·rw[n]at r;cases r
 have f:∀b u,H b=Y u->¬JT (Y u)->b≠x:=λb u q nm z=>by subst z;rw[q]at d;exact nm d
 refine⟨λb u q n _ _=>k b u (hb b n) q,λb u q n _ _=>⟨u.slots,k b u (hb b n) q⟩,λb u q n _=>by rw[aM (g b n)];exact n,λb u q _=>?_,
  λb j q=>by rw[aM (f b _ q λz=>z)];exact q,λb u j q=>by rw[aM (f b _ q λz=>z)];exact q,λb n q=>by rw[aM (f b _ q λz=>z)];exact q⟩
 by_cases i:b=e
 ·subst i;exact l
 ·exact⟨u,k b u i q⟩
end
noncomputable def gone(v:PP):Obj:=⟨v,J,.freed,#[]⟩
def xJ(H:Hp)(a:On)(o:Obj):Obj:=match H a with
 |some (.tbl q)=>gone (.str q 0)
 |some _=>gone .none
 |none=>match o.data with
  |.freed=>gone .none
  |_=>o
def uk(h:XAA)(H:Hp):Heap:=⟨h.objs.mapIdx λa o=>xJ H a o,h.life⟩
def Tb(b:XAA)(a:On)(q:Str):Prop:=b.objs[a]?=Y (gone (.str q 0))
def xA(h:XAA)(H:Hp):(uk h H).objs.size=h.objs.size:=Array.size_mapIdx
def qW(h:XAA)(H:Hp)(b:On):(uk h H).objs[b]?=(h.objs[b]?).map (xJ H b):=Array.getElem?_mapIdx
def m9{h:XAA}:h.get? b=Y o↔h.objs[b]?=Y o/\o.data ≠ .freed:=by
 unfold Heap.get?;split
 ·rename_i e;exact⟨λz=>(nomatch z),λ⟨z,n⟩=>by rw[e]at z;cases z;exact absurd L n⟩
 ·rename_i n;exact⟨λz=>⟨z,λd=>by
   obtain⟨c,u,f,a⟩:=o;cases (d);exact n _ _ _ z⟩,λz=>z.1⟩
def Av{h:XAA}(e:h.get? b=Y o)(n:H b=J):(uk h H).get? b=Y o:=by
 obtain⟨e1,e2⟩:=m9.mp e;refine m9.mpr ⟨?_,e2⟩;rw[qW,e1,Vf];unfold xJ;rw[n];cases h:o.data with
 |freed=>exact absurd h e2
 |_=>rfl
def Cz(e:(uk h H).get? b=Y o):h.get? b=Y o/\H b=J:=by
 obtain⟨e1,e2⟩:=m9.mp e;rw[qW]at e1;obtain⟨u,e3,a⟩:=Zt.mp e1;unfold xJ at a;cases q:H b with
 |some y =>
  rw[q]at a;cases y<;>(cases a;exact absurd L e2)
 |none =>
  rw[q]at a;refine⟨m9.mpr ?_,rfl⟩;cases d:u.data with
  |freed=>rw[d]at a;cases a;exact absurd L e2
  |_ =>
   have f:u=o:=by rw[d]at a;exact a
   subst f;exact⟨e3,e2⟩
def C5:Tb (uk h H) b q↔H b=Y (.tbl q)/\b<h.objs.size:=by
 unfold Tb;rw[qW];constructor
 ·intro e;obtain⟨u,e3,a⟩:=Zt.mp e;refine⟨?_,(Vz.mp e3).1⟩;unfold xJ at a;cases y:H b with
  |some f =>
   rw[y]at a;cases f with
   |tbl i=>cases a;rfl
   |_=>cases a
  |none =>
   rw[y]at a;cases d:u.data with
   |freed=>rw[d]at a;cases a
   |_ =>
    have g:u=gone (.str q 0):=by rw[d]at a;exact a
    rw[g]at d;cases d
 ·rintro⟨e,l⟩;rw[Xe l,Vf];unfold xJ;rw[e]
noncomputable def Ck(g h:XAA)(L:On):Yw:=(List.range h.objs.size).filterMap λa=>if a=L\/(g.get? a).isSome=M then J else (h.get? a).map λo=>(a,o)
def rest(g h:XAA)(L d:On):Yw:=(Ck g h L).filter λp=>decide (p.1≠d)
structure Mod(K:Wy)(mg:Wf)(base:XAA):Prop where
 Ta:K.In base
 glob:base.Ns mainGlobals mg
 blt:∃mb,base.Ns builtinsNs mb/\∀x:Str,x ≠ "__name__" → mb x=bootBuiltins x
 nolimit:base.NoLimit
structure Cx where
 prog:SB
 w:XAB
 K:Wy
 mg:Wf
 base:XAA
 A:SC
 N:List Str
 s₀:KB
 H₀:Hp
 env:Env
 outer:List Env
 stack:List Env
 ex:W5
 fn:Str->Bool
 calm:Bool
 pn:Yw
 xe:Yx
abbrev K1(e:Expr)(l:List Expr)(X:Cx):Prop:=P3 (e :: l) X.env=(R,eval e X.env) :: P3 l X.env
abbrev K2(p:Pos)(l:List Expr)(X:Cx):Prop:=(backTo p (P3 l X.env)).any (·.1)=R
abbrev K3(x:Str):Prop:=(x==("__debug__" : Str))=R
abbrev K4(x:Str):Prop:=(x==("__classdict__" : Str))=R
noncomputable def Lk(l:List Env):W5:=l.filterMap (·.frame)
abbrev Cx.fs(X:Cx):W5:=Lk X.outer
noncomputable def MZ(a:Scope)(x:Str):Prop:=a.names.lookup x=Y .local\/a.names.lookup x=Y .cell\/a.names.lookup x=Y .free
noncomputable def Loc(a:Scope)(x:Str):Prop:=a.names.lookup x=Y .local\/a.names.lookup x=Y .cell
noncomputable def Look(a:Env)(h:XAA)(m:Wf)(x:Str)(u:PP):Prop :=
 (a.kindOf x=Y .local/\m x=Y u)\/((a.kindOf x=Y .cell\/a.kindOf x=Y .free)/\∃c,a.cells.lookup x=Y c/\h.IsCell c (Y u))
structure Cx.Ok(X:Cx):Prop where
 mod:Mod X.K X.mg X.base
 kind:X.env.scope.kind=.function
 glob:X.env.globals=mainGlobals
 blt:X.env.builtins=builtinsNs
 above:X.s₀.heap.objs.size<=X.env.locals
 inj:∀x y c,X.env.cells.lookup x=some c->X.env.cells.lookup y=some c->x=y
 has:∀x,(X.env.kindOf x=some .cell\/X.env.kindOf x=some .free)->∃c,X.env.cells.lookup x=some c
 TZ:∀x c,X.fn x=true->X.env.cells.lookup x=some c->X.s₀.heap.objs.size<=c
 hd:X.calm=true->X.A.handled=none
 frames:X.A.frames=some X.stack
 Ui:X.stack=X.outer\/(X.stack=X.env :: X.outer/\X.env.frame=some X.env.locals)
 exf:∀b∈X.ex,b≠X.env.locals/\∀x c,X.env.cells.lookup x=some c->c≠b
 tb:∀b q,Tb X.base b q->X.H₀ b=some (.tbl q)
 bs:∀b o,X.base.get? b=some o->X.s₀.heap.get? b=some o/\X.H₀ b=none
 Px:X.base.objs.size<=X.s₀.heap.objs.size
 Oi:∀b o,X.base.get? b=some o->b∉X.ex
 Pr:∀b∈X.ex,b∉X.fs
 Ls:X.s₀.heap.FunFrames X.base X.outer
 RA:∀b∈X.fs,X.H₀ b=none
structure Inv(X:Cx)(pins:Yw)(O:List (Option V))(H:Hp)(s:KB):Prop where
 ok:X.Ok
 os:s.os=X.s₀.os
 bare:AllBare s.gens
 base:Un X.fs X.ex X.H₀ H X.s₀.heap s.heap
 loc:∃m,s.heap.Ns X.env.locals m/\∀(i:Nat)(x:Str)(v:V),X.N[i]?=some x->O[i]?=some (some v)->MZ X.env.scope x->∃u,RelV v u/\Look X.env s.heap m x u
 cell:∀x c,X.env.cells.lookup x=some c->∃v,s.heap.IsCell c v
 free:H X.env.locals=none
 KJ:∀x c,X.env.cells.lookup x=some c->H c=none
 pin:∀p∈X.pn++pins,s.heap.get? p.1=some p.2/\H p.1=none/\p.1≠X.env.locals/\p.1∉X.fs/\∀v,p.2.data ≠ .cell v
 xb:KL X.prog X.w H s.heap
 len:O.length=X.N.length
section
variable{H:Hp}
def Cx.Ok.nofr{X:Cx}(a:X.Ok)(e:X.base.get? b=Y o):b∉X.fs:=λhb=>by
 have:=(a.Ls.mem hb).1;rw[e]at this;cases this
theorem Inv.bs(I:Inv X pins O H s):∀b o,X.base.get? b=Y o->s.heap.get? b=Y o/\H b=J:=λb o e =>
 ⟨I.base.keep b o (I.ok.bs b o e).1 (I.ok.bs b o e).2 (I.ok.nofr e) (I.ok.Oi b o e),I.base.free b o (I.ok.bs b o e).1 (I.ok.bs b o e).2 (I.ok.Oi b o e)⟩
theorem Inv.tb(I:Inv X pins O H s):∀b q,Tb X.base b q->H b=Y (.tbl q):=λb q e=>I.base.Mf b q (I.ok.tb b q e)
def Inv.bk(I:Inv X pins O H s):∀b o,X.base.get? b=Y o->s.heap.get? b=Y o:=λb o e=>(I.bs b o e).1
theorem Inv.mod(I:Inv X pins O H s):Mod X.K X.mg X.base:=I.ok.mod
def Inv.Lp(I:Inv X pins O H s):X.K.In s.heap:=I.ok.mod.Ta.keeps I.bk
theorem Inv.lt(I:Inv X pins O H s):X.env.locals<s.heap.objs.size:=let ⟨_,a,_⟩:=I.loc;a.lt
def Inv.sz(I:Inv X pins O H s):X.s₀.heap.objs.size<=s.heap.objs.size:=ZS I.ok.above (ZO I.lt)
def Inv.nofs(I:Inv X pins O H s)(h:s.heap.objs.size<=a):a∉X.fs:=λhb=>by
 obtain⟨_,o,b,_⟩:=I.ok.Ls.mem hb;exact absurd (Zi (ZV b) (ZS I.sz h)) (Yf _)
def Inv.RF(I:Inv X pins O H s):∀x c,X.env.cells.lookup x=Y c->c≠X.env.locals:=λx c e z=>by
 obtain⟨v,o,a,hd⟩:=I.cell x c e;obtain⟨m,⟨f,g,h,d,b,_⟩,_⟩:=I.loc;rw[z,d]at a;cases a;rw[b]at hd;cases hd
theorem Inv.Ls(I:Inv X pins O H s):s.heap.FunFrames X.base X.outer:=by
 have all:∀(l:List Env),(∀b∈Lk l,b∈X.fs)->X.s₀.heap.FunFrames X.base l->s.heap.FunFrames X.base l:=by
  intro l
  induction l with
  |nil=>intro _ _;trivial
  |cons env r g =>
   intro f m;obtain⟨n,⟨L,o,a,j,i,hd⟩,h⟩:=m;have d:=f L (by unfold Lk;rw[Y9,a];exact Zv);obtain⟨p,e⟩:=I.base.slot L o i (I.ok.RA L d) d λz=>I.ok.Pr L z d;exact⟨n,⟨L,_,a,j,e,hd⟩,g (λb hb=>f b (by unfold Lk;rw[Y9,a];exact Zu _ hb)) h⟩
 exact all X.outer (λ_ hb=>hb) I.ok.Ls
theorem Inv.stack(I:Inv X pins O H s):s.heap.FunFrames X.base X.stack:=by
 rcases I.ok.Ui with e | ⟨e,b⟩
 ·rw[e];exact I.Ls
 ·rw[e];obtain⟨m,a,_⟩:=I.loc;refine .cons (by rw[I.ok.kind];decide) b a ?_ I.Ls;exact Heap.get?_none_of_le (ZS I.ok.Px I.ok.above)
def Inv.Mi(I:Inv X pins O H s):∀b∈Lk X.stack,b∈X.env.locals :: X.fs:=λb hb=>by
 rcases I.ok.Ui with e | ⟨e,a⟩
 ·rw[e]at hb;exact Zu _ hb
 ·rw[e]at hb;unfold Lk at hb;rw[Y9,a]at hb;exact hb
def Inv.Nk(I:Inv X pins O H s):∀b∈Lk X.stack,H b=J:=λb hb=>by
 rcases Zg.mp (I.Mi b hb) with e | hb
 ·rw[e];exact I.free
 ·obtain⟨_,o,a,_⟩:=I.ok.Ls.mem hb;exact I.base.free b o a (I.ok.RA b hb) λz=>I.ok.Pr b z hb
def Inv.step{h':XAA}{ch:W5}(I:Inv X pins O H s)(E:∀b∈ch,(b∈X.ex\/X.s₀.heap.objs.size<=b)/\b≠X.env.locals/\(∀x c,X.env.cells.lookup x=Y c->c≠b)/\∀p∈X.pn++pins,p.1≠b)(g:∀b o,b≠X.env.locals->b∉X.fs->b∉ch->s.heap.get? b=Y o->H b=J->h'.get? b=Y o)(j:∀b o,b≠X.env.locals->b∈X.fs->b∉ch->s.heap.get? b=Y o->H b=J->∃N,h'.get? b=Y { o with slots:=N })(f:∀b o,b∉ch->s.heap.get? b=some o->H b=none->H' b=none)(y:∀b o,b∉ch->s.heap.get? b=Y o->∃B,h'.get? b=Y B)(My:∀b h,H b=Y (.tup h)->H' b=Y (.tup h))(Mm:∀b o u,H b=Y (.frz o u)->H' b=Y (.frz o u))(Mf:∀b q,H b=Y (.tbl q)->H' b=Y (.tbl q))(ns:∀m,s.heap.Ns X.env.locals m->h'.Ns X.env.locals m)(U:KL X.prog X.w H' h')(hg:AllBare S) :
  Inv X pins O H' { s with heap:=h',gens:=S,drawn:=d',toks:=Z }:=by
 have C:∀b o,X.s₀.heap.get? b=Y o->b≠X.env.locals:=λb o e=>Ze (Zi (ZV e) I.ok.above);have F:∀b o,X.s₀.heap.get? b=Y o->b∉X.ex->b∉ch:=λb o e a hb=>by
  rcases (E b hb).1 with z | z
  ·exact a z
  ·exact absurd (Zi (ZV e) z) (Yf _)
 have cellK:∀x c,X.env.cells.lookup x=Y c->∀v,s.heap.IsCell c v->h'.IsCell c v:=λx c e v ⟨o,A,hd⟩=>by
  have D:c∉ch:=λz=>(E c z).2.2.1 x c e L;by_cases Q:c∈X.fs
  ·obtain⟨N,q⟩:=j c o (I.RF x c e) Q D A (I.KJ x c e);exact⟨_,q,hd⟩
  ·exact⟨o,g c o (I.RF x c e) Q D A (I.KJ x c e),hd⟩
 refine⟨I.ok,I.os,hg,⟨λb o e n hb a=>?_,λb o e n hb a=>?_,λb o e n a=>?_,λb o e a=>?_,λb h e=>My b h (I.base.My b h e),λb o h e=>Mm b o h (I.base.Mm b o h e),λb q e=>Mf b q (I.base.Mf b q e)⟩,?_,λx c e=>?_,?_,λx c e=>?_,λp P=>?_,U,I.len⟩
 ·exact g b o (C b o e) hb (F b o e a) (I.base.keep b o e n hb a) (I.base.free b o e n a)
 ·obtain⟨N,e1⟩:=I.base.slot b o e n hb a;obtain⟨G,e2⟩:=j b _ (C b o e) hb (F b o e a) e1 (I.base.free b o e n a);exact⟨G,e2⟩
 ·obtain⟨B,e1⟩:=I.base.there b o e a;exact f b B (F b o e a) e1 (I.base.free b o e n a)
 ·obtain⟨B,e1⟩:=I.base.there b o e a;exact y b B (F b o e a) e1
 ·obtain⟨m,hn,hl⟩:=I.loc;refine⟨m,ns m hn,λi x v e1 e2 e3=>?_⟩;obtain⟨u,r,l⟩:=hl i x v e1 e2 e3;refine⟨u,r,?_⟩;rcases l with l | ⟨k,c,e,z⟩
  ·exact .inl l
  ·exact .inr ⟨k,c,e,cellK x c e _ z⟩
 ·obtain⟨v,z⟩:=I.cell x c e;exact⟨v,cellK x c e v z⟩
 ·obtain⟨m,⟨o,_,_,A,_⟩,_⟩:=I.loc;exact f _ o (λz=>(E _ z).2.1 L) A I.free
 ·obtain⟨v,o,A,hd⟩:=I.cell x c e;exact f c o (λz=>(E c z).2.2.1 x c e L) A (I.KJ x c e)
 ·obtain⟨e,n,ne,nf,d⟩:=I.pin p P;have D:=λz=>(E p.1 z).2.2.2 p P L;exact⟨g p.1 p.2 ne nf D e n,f p.1 p.2 D e n,ne,nf,d⟩
def Inv.un{t':Nat}(I:Inv X pins O H s)(u:Un X.fs [] H H' s.heap h')(f:KL X.prog X.w H' h'):Inv X pins O H' { s with heap:=h',toks:=t' }:=by
 obtain⟨m,⟨o,x,y,a,r⟩,_⟩:=id I.loc;obtain⟨p,i⟩:=u.any a I.free (by simp);exact I.step (ch:=[]) (λ_ z=>nomatch z) (λb o _ hb _ e n=>u.keep b o e n hb (by simp)) (λb o _ hb _ e n=>u.slot b o e n hb (by simp)) (λb o _ e n=>u.free b o e n (by simp)) (λb o _ e=>u.there b o e (by simp)) u.My u.Mm u.Mf (λv h=>by
  obtain⟨q,l,j,d,g⟩:=h;rw[a]at d;cases d;exact⟨_,l,j,i,g⟩) f I.bare
def Inv.call{g':Array GenState}{t':Nat}{d':Drawn}{ch:W5}(I:Inv X pins O H s)(u:Un (Lk X.stack) ch H H' s.heap h')(i:KL X.prog X.w H' h')(q:AllBare g')(g:∀b∈ch,(b∈X.ex\/X.s₀.heap.objs.size<=b)/\b≠X.env.locals/\(∀x c,X.env.cells.lookup x=Y c->c≠b)/\∀p∈X.pn++pins,p.1≠b) :
  Inv X pins O H' { s with heap:=h',gens:=g',drawn:=d',toks:=t' }:=by
 obtain⟨m,⟨o,D,E,f,r⟩,_⟩:=id I.loc;obtain⟨A,d⟩:=u.any f I.free λz=>(g _ z).2.1 L;exact I.step (ch:=ch) g (λb o d hb a e n=>u.keep b o e n (λz=>(Zg.mp (I.Mi b z)).elim d hb) a) (λb o _ _ a e n=>u.any e n a) (λb o a e n=>u.free b o e n a) (λb o a e=>u.there b o e a) u.My u.Mm u.Mf (λC l=>by
  obtain⟨B,y,v,h,j⟩:=l;rw[f]at h;cases h;exact⟨_,y,v,d,j⟩) i q
def Inv.turned{h':XAA}{t':Nat}(I:Inv X pins O H s)(k:∀b o,b≠a->s.heap.get? b=Y o->h'.get? b=Y o)(i:H a=J)(g:a≠X.env.locals)(y:a∈X.ex\/X.s₀.heap.objs.size<=a)(w:∀x c,X.env.cells.lookup x=Y c->c≠a)(l:∀p∈X.pn++pins,p.1≠a):Inv X pins O H { s with heap:=h',toks:=t' }:=by
 have f:∀b u,H b=Y u->b≠a:=λb u e z=>by rw[z,i]at e;cases e
 refine I.step (ch:=[a]) (λb hb=>?_) (λb o _ _ d e _=>k b o (λz=>d (by simp[z])) e) (λb o _ _ d e _=>⟨o.slots,k b o (λz=>d (by simp[z])) e⟩) (λ_ _ _ _ n=>n)
  (λb o d e=>⟨o,k b o (λz=>d (by simp[z])) e⟩) (λ_ _ e=>e) (λ_ _ _ e=>e) (λ_ _ e=>e) (λm j=>?_) (λb u e=>?_) I.bare
 ·have e:b=a:=by simpa using hb
  subst e;exact⟨y,g,w,l⟩
 ·obtain⟨o,A,B,h,r⟩:=j;exact⟨o,A,B,k _ o (Y0 g) h,r⟩
 ·refine(I.xb b u e).NJ (λc v d q=>k c v ?_ q) (λ_ q=>q) (λ_ _ q=>q) λ_ _ _ q=>q;rcases d with z | z
  ·rw[z];exact f b u e
  ·exact f c _ z
def Inv.tok(I:Inv X pins O H s)(t:Nat):Inv X pins O H { s with toks:=t }:=I.un (t':=t) Un.refl I.xb
theorem Inv.kept{h':XAA}{t':Nat}(I:Inv X pins O H s)(k:∀b u,s.heap.get? b=Y u->h'.get? b=Y u):Inv X pins O H { s with heap:=h',toks:=t' }:=I.un (Un.kept k) (I.xb.kept k)
theorem Inv.laid{h':XAA}{o:HO}{t':Nat}(I:Inv X pins O H s)(k:∀b u,s.heap.get? b=Y u->h'.get? b=Y u)(e:s.heap.objs.size<=a)(d:dE X.prog X.w (upd H a o) h' a o) :
  Inv X pins O (upd H a o) { s with heap:=h',toks:=t' }:=I.un (Un.laid k e (I.xb.fresh e)) (I.xb.laid k e d)
theorem Inv.write{h':XAA}{x e:On}(I:Inv X pins O H s)(d:JT (H x))(he:e=x\/H e=Y (.own x))(k:∀b u,b≠e->s.heap.get? b=Y u->h'.get? b=Y u)(f:∃u,h'.get? e=Y u)(a:dE X.prog X.w (upd H x o) h' x o):Inv X pins O (upd H x o) { s with heap:=h',toks:=g }:=I.un (Un.write d he k f) (I.xb.write d he k f a)
def Inv.Nn(I:Inv X pins O H s)(h:∀p∈a,s.heap.get? p.1=Y p.2/\H p.1=J/\p.1≠X.env.locals/\p.1∉X.fs/\∀v,p.2.data ≠ .cell v):Inv X a O H s :=
 ⟨I.ok,I.os,I.bare,I.base,I.loc,I.cell,I.free,I.KJ,λp b=>(Zd.mp b).elim (λz=>I.pin p (Ye _ z)) (h p),I.xb,I.len⟩
def ux{N:List Str}(d:N.Nodup){i j:Nat}{x:Str}(a:N[i]?=Y x)(b:N[j]?=Y x):i=j:=by
 obtain⟨f,e1⟩:=ZY.mp a;obtain⟨e,e2⟩:=ZY.mp b;exact(Uw d).mp (e1.trans e2.symm)
def pL{v:V}(I:Inv X pins O H s)(hN:X.N.Nodup)(S:X.N[i]?=Y x)(l:Loc X.env.scope x)(r:RelV v u)(h:∀s',Inv X pins (O.set i (Y v)) H s'->(∃a,Heap.SameBut a s.heap s'.heap/\(a=X.env.locals\/X.env.cells.lookup x=Y a))->Q () s')(hf:{`q0,X.fn x=true\/X.env.scope.names.lookup x=Y .local}):Pi Mq0 A (storeName X.env x u) Q E s:=by
 obtain⟨m,hn,hl⟩:=id I.loc;have P:i<O.length:=by rw[I.len];exact(ZY.mp S).1
 have RF:=I.RF;have tracked:∀{a:On}{h':XAA},(∃o,s.heap.get? a=Y o/\H a=J)->Heap.SameBut a s.heap h'->KL X.prog X.w H h':=λ{a h'} ha f b ob e=>by
  obtain⟨_,_,QB⟩:=ha;refine(I.xb b ob e).NJ (λc U g q=>(f.2 c ?_).trans q) (λ_ q=>q) (λ_ _ q=>q) λ_ _ _ q=>q;rintro rfl;rcases g with rfl | g
  ·rw[QB]at e;cases e
  ·rw[QB]at g;cases g
 rcases l with B | B
 ·refine wpAny_storeName_local B hn (λh' Tq f=>?_) (by rw[I.ok.kind];rfl);obtain⟨oL,_,_,Pk,_⟩:=id hn;refine h _ ⟨I.ok,I.os,I.bare,⟨λb o e n hb l=>?_,λb o e n hb l=>?_,I.base.free,λb o e l=>?_,I.base.My,I.base.Mm,I.base.Mf⟩,⟨_,Tq,λj y v' e1 e2 e3=>?_⟩,λy c e=>?_,I.free,I.KJ,λp hp=>?_,tracked ⟨oL,Pk,I.free⟩ f,by simpa using I.len⟩ ⟨_,f,.inl L⟩
  ·exact(f.2 b (Ze (Zi (ZV e) I.ok.above))).trans (I.base.keep b o e n hb l)
  ·obtain⟨sl,e1⟩:=I.base.slot b o e n hb l;exact⟨sl,(f.2 b (Ze (Zi (ZV e) I.ok.above))).trans e1⟩
  ·obtain⟨o',e1⟩:=I.base.there b o e l;exact⟨o',(f.2 b (Ze (Zi (ZV e) I.ok.above))).trans e1⟩
  ·by_cases C:j=i
   ·subst C;rw[S]at e1;cases e1;rw[WU P]at e2;cases e2;exact⟨u,r,.inl ⟨B,by simp⟩⟩
   ·rw[Xs (Y0 C)]at e2;obtain⟨u',r',q⟩:=hl j y v' e1 e2 e3;refine⟨u',r',?_⟩;rcases q with⟨k,e⟩ | ⟨k,c,e,z⟩
    ·refine .inl ⟨k,?_⟩;have:y≠x:=λe=>C (ux hN e1 (e ▸ S));simp[this,e]
    ·exact .inr ⟨k,c,e,z.sameBut f (RF y c e)⟩
  ·obtain⟨U,z⟩:=I.cell y c e;exact⟨U,z.sameBut f (RF y c e)⟩
  ·obtain⟨e,n,ne,nf,d⟩:=I.pin p hp;exact⟨(f.2 p.1 ne).trans e,n,ne,nf,d⟩
 ·have D:X.fn x=true:=by
   rcases hf with z | z
   ·exact z
   ·rw[z]at B;cases B
  obtain⟨c,g⟩:=I.ok.has x (.inl B);obtain⟨U,z⟩:=I.cell x c g;refine wpAny_storeName_cell I.ok.kind B g z (λh' ML f=>?_);obtain⟨oc,G,F⟩:=id z;refine h { s with heap:=h' } ⟨I.ok,I.os,I.bare,⟨λb o e n hb l=>?_,λb o e n hb l=>?_,I.base.free,λb o e l=>?_,I.base.My,I.base.Mm,I.base.Mf⟩,⟨m,hn.sameBut f (Y0 (RF x c g)),λj y v' e1 e2 e3=>?_⟩,λy Z e=>?_,I.free,I.KJ,λp hp=>?_,tracked ⟨oc,G,I.KJ x c g⟩ f,by simpa using I.len⟩ ⟨c,f,.inr g⟩
  ·exact(f.2 b (Ze (Zi (ZV e) (I.ok.TZ x c D g)))).trans (I.base.keep b o e n hb l)
  ·obtain⟨sl,e1⟩:=I.base.slot b o e n hb l;exact⟨sl,(f.2 b (Ze (Zi (ZV e) (I.ok.TZ x c D g)))).trans e1⟩
  ·obtain⟨o',e1⟩:=I.base.there b o e l;exact⟨o',(f.2 b (Ze (Zi (ZV e) (I.ok.TZ x c D g)))).trans e1⟩
  ·by_cases C:j=i
   ·subst C;rw[S]at e1;cases e1;rw[WU P]at e2;cases e2;exact⟨u,r,.inr ⟨.inl B,c,g,ML⟩⟩
   ·rw[Xs (Y0 C)]at e2;obtain⟨u',r',q⟩:=hl j y v' e1 e2 e3;refine⟨u',r',?_⟩;rcases q with q | ⟨k,Z,e,z'⟩
    ·exact .inl q
    ·refine .inr ⟨k,Z,e,z'.sameBut f ?_⟩;rintro rfl;exact C (ux hN e1 (I.ok.inj _ _ _ e g ▸ S))
  ·by_cases UW:Z=c
   ·subst UW;exact⟨_,ML⟩
   ·obtain⟨w2,z2⟩:=I.cell y Z e;exact⟨w2,z2.sameBut f UW⟩
  ·obtain⟨e,n,ne,nf,d⟩:=I.pin p hp;refine⟨(f.2 p.1 ?_).trans e,n,ne,nf,d⟩;intro q;rw[q,G]at e;exact d U (by rw[← (Zl e)];exact F)
def tu(I:Inv X pins O H s)(g:X.N.Nodup)(e:X.N[i]?=Y x)(d:Loc X.env.scope x)(r:RelV v u)(h:∀a,Inv X pins (O.set i (Y v)) H a->Q () a)(f:{`q0,X.fn x=true\/X.env.scope.names.lookup x=Y .local}):Pi b A (storeName X.env x u) Q E s :=
 pL I g e d r (λa j _=>h a j) f
def Inv.TY{a:KB}{ch:W5}(I:Inv X pins O H s)(e:a.os=s.os)(u:Un (Lk X.stack) ch H H' s.heap a.heap)(d:KL X.prog X.w H' a.heap)(f:AllBare a.gens)(g:∀b∈ch,(b∈X.ex\/X.s₀.heap.objs.size<=b)/\b≠X.env.locals/\(∀x c,X.env.cells.lookup x=Y c->c≠b)/\∀p∈X.pn++pins,p.1≠b):Inv X pins O H' a:=by
 obtain⟨h',g',d',t',h⟩:=a;subst e;exact I.call (g':=g') (t':=t') (d':=d') u d f g
end
abbrev XK:=PP->Option On->Hp->Prop
noncomputable abbrev St:=List (Option V)
abbrev VK:=V->Hp->Prop
abbrev TE:=St->Hp->VK->Prop
abbrev TT:=St->Hp->(Bool->Hp->Prop)->Prop
abbrev TA:=St->Hp->(List V->Hp->Prop)->Prop
structure Ends where
 nx:St->Hp->Prop
 rt:VK
 bk:St->Hp->Prop:=λ_ _=>False
 ct:St->Hp->Prop:=λ_ _=>False
abbrev TS:=Ends->St->Hp->Prop
def EP(X:Cx)(a:Yw)(O:St)(Q:VK)(u:PP)(d:KB):Prop:=∃v b,Inv X a O b d/\RelV v u/\Q v b
noncomputable def TP(X:Cx)(a:Yw)(O:St)(Q:Bool->Hp->Prop)(b:Bool)(e:KB):Prop:=∃d,Inv X a O d e/\Q b d
def AP(X:Cx)(a:Yw)(O:St)(Q:List V->Hp->Prop)(e:Vq)(f:KB):Prop:=∃b d,Inv X a O d f/\aW b e/\Q b d
def SP(X:Cx)(a:Yw)(D:Ends)(f:Flow)(e:KB):Prop :=
 match f with
 |.next=>∃d b,Inv X a d b e/\D.nx d b
 |.brk=>∃d b,Inv X a d b e/\D.bk d b
 |.cont=>∃d b,Inv X a d b e/\D.ct d b
 |.ret u=>∃v d b,Inv X a d b e/\RelV v u/\D.rt v b
def PE(X:Cx)(e:Expr)(t:TE):Prop :=
 ∀(a:Yw)(s:KB)(O:St)(H:Hp)(Q:VK),Inv X a O H s->t O H Q->Pi (KF X.prog X.w) X.A (eval e X.env) (EP X a O Q) X.xe s
def PT(X:Cx)(e:Expr)(t:TT):Prop :=
 ∀(a:Yw)(s:KB)(O:St)(H:Hp)(Q:Bool->Hp->Prop),Inv X a O H s->t O H Q->Pi (KF X.prog X.w) X.A (isTrue e X.env (eval e X.env)) (TP X a O Q) X.xe s
def PW(X:Cx)(e:Expr)(t:TT):Prop :=
 ∀(whole:Sem PP)(a:Yw)(s:KB)(O:St)(H:Hp)(Q:Bool->Hp->Prop),Inv X a O H s->t O H Q->Pi (KF X.prog X.w) X.A (isTrue e X.env whole) (TP X a O Q) X.xe s
def PW.pt(h:PW X e t):PT X e t:=h _
def PA(X:Cx)(b:List Expr)(t:TA):Prop :=
 ∀(pos:Pos)(a:Yw)(s:KB)(O:St)(H:Hp)(Q:List V->Hp->Prop),Inv X a O H s->t O H Q->Pi (KF X.prog X.w) X.A (spliced (backTo pos (P3 b X.env))) (AP X a O Q) X.xe s
def PS(X:Cx)(b:Stmt)(t:TS):Prop :=
 ∀(a:Yw)(s:KB)(O:St)(H:Hp)(D:Ends),Inv X a O H s->t D O H->Pi (KF X.prog X.w) X.A (exec b X.env) (SP X a D) X.xe s
def LN(X:Cx)(b:List Stmt)(t:TS):Prop :=
 ∀(a:Yw)(s:KB)(O:St)(H:Hp)(D:Ends),Inv X a O H s->t D O H->Pi (KF X.prog X.w) X.A (execs b X.env) (SP X a D) X.xe s
def thn{α:Type}{t:Sem α}{Q b:α->KB->Prop}{M:Model}(h:Pi M A t Q E s)(d:∀a s,Q a s->b a s):Pi M A t b E s:=Xy h d λ_ _ x=>x
section
noncomputable def Im(i:Nat):TE:=λO H Q=>∃v,O[i]?=Y (Y v)/\Q v H
noncomputable def tC(v:V):TE:=λ_ H Q=>Q v H
def gp{X:Cx}(y:X.N[i]?=Y x)(o:MZ X.env.scope x)(f:{`q1,K3 x})(g:{`q1,K4 x}):PE X (.Name x d) (Im i):=by
 intro b s O H Q I h;obtain⟨v,e,h⟩:=h;obtain⟨m,p,w⟩:=I.loc;obtain⟨u,r,l⟩:=w i x v y e o;have fin:EP X b O Q u s:=⟨v,H,I,r,h⟩
 rcases l with⟨a,q⟩ | ⟨a,c,j,n⟩
 ·exact wpAny_Name (wpAny_loadName_local I.ok.kind a p q fin) f
 ·rcases a with a | a
  ·exact wpAny_Name (wpAny_loadName_cell I.ok.kind a j n fin) f
  ·exact wpAny_Name (wpAny_loadName_free I.ok.kind a j n fin g) f
def qU{i j pos}:PE X (.Constant (.int i) j pos) (tC (.int i)):=λ_ _ _ H _ I h=>wpAny_Constant_int ⟨.int i,H,I.tok _,⟨_,rfl⟩,h⟩
def Hc{b j pos}:PE X (.Constant (.bool b) j pos) (tC (.bl b)):=λ_ _ _ H _ I h=>Constant_bool ⟨.bl b,H,I,rfl,h⟩
def BA{j pos}:PE X (.Constant .none j pos) (tC .non):=λ_ _ _ H _ I h=>Constant_none ⟨.non,H,I,rfl,h⟩
def Gg{x j pos}:PE X (.Constant (.str x) j pos) (tC (.str x)):=λ_ _ _ H _ I h=>Calls.Constant_str ⟨.str x,H,I.tok _,⟨_,rfl⟩,h⟩
noncomputable def Gl(X:Cx)(x:Str):Prop:=X.env.kindOf x=Y .globalImplicit
def nj(I:Inv X a O H s)(e:Gl X x)(d:X.mg x=Y u)(h:Q u s)(f:{`q1,K3 x}):Pi (KF X.prog X.w) X.A (eval (.Name x b) X.env) Q E s :=
 Calls.Name_function_global I.ok.kind e (Calls.loadGlobal_global (by rw[I.ok.glob];exact I.mod.glob.keeps I.bk) d h) f
def jX(I:Inv X a O H s)(g:Gl X x)(f:X.mg x=J)(d:bootBuiltins x=Y u)(h:Q u s)(e:{`q1,x ≠ "__name__"})(i:{`q1,K3 x}):Pi (KF X.prog X.w) X.A (eval (.Name x b) X.env) Q E s:=by
 obtain⟨m,l,j⟩:=I.mod.blt;exact Calls.Name_function_global I.ok.kind g (Calls.loadGlobal_builtin (by rw[I.ok.glob];exact I.mod.glob.keeps I.bk) f (by rw[I.ok.blt];exact l.keeps I.bk) ((j x e).trans d) h) i
def C1(d:Gl X x)(b:X.mg x=Y u)(r:RelV v u)(e:{`q1,K3 x}):PE X (.Name x a) (tC v) :=
 λ_ _ _ H _ I h=>nj I d b ⟨v,H,I,r,h⟩ e
def Dw{v:V}(f:Gl X x)(e:X.mg x=J)(b:bootBuiltins x=Y u)(r:RelV v u)(d:{`q1,x ≠ "__name__"})(g:{`q1,K3 x}):PE X (.Name x a) (tC v) :=
 λ_ _ _ H _ I h=>jX I f e b ⟨v,H,I,r,h⟩ d g
def PC(X:Cx)(g:CmpOp)(a b:Expr)(t:TE):Prop :=
 ∀(d:Yw)(s:KB)(O:St)(H:Hp)(Q:VK),Inv X d O H s->t O H Q →
  Pi (KF X.prog X.w) X.A (eval a X.env) (λv f=>Pi (KF X.prog X.w) X.A (eval b X.env) (λu e=>Pi (KF X.prog X.w) X.A (UV g v u) (EP X d O Q) X.xe e) X.xe f) X.xe s
def Bs(b:Expr)(h:d ≠ .In)(e:d ≠ .NotIn):behindInMarks d b=R:=by
 have e1:(d==CmpOp.In)=R:=by cases d<;>first | rfl | exact absurd L h
 have e2:(d==CmpOp.NotIn)=R:=by cases d<;>first | rfl | exact absurd L e
 cases b<;>simp[behindInMarks,e1,e2]
noncomputable def Ju(ta:TE):TE:=λO H Q=>ta O H λx d=>Q (.bl (decide (x=.non))) d
noncomputable def Hr(ta:TE):TE:=λO H Q=>ta O H λx d=>Q (.bl (!decide (x=.non))) d
def RelV.MG(r:RelV x v):(v==Value.none)=decide (x=.non):=by
 cases x with
 |non=>cases r;rfl
 |bl _=>cases r;rfl
 |int _=>obtain⟨t,rfl⟩:=r;rfl
 |str _=>obtain⟨t,rfl⟩:=r;rfl
 |byt _=>obtain⟨t,rfl⟩:=r;rfl
 |flt _=>obtain⟨t,rfl⟩:=r;rfl
 |ref _=>cases r;rfl
 |ty _=>cases r;rfl
def Ff{j pos'}(f:PE X a ta):PC X .Is a (.Constant .none j pos') (Ju ta):=by
 intro d s O H Q I h;refine thn (f d s O H _ I h) λv s1 g=>?_;obtain⟨x,l,i,r1,e⟩:=g;exact Constant_none (is_none_gen ⟨.bl _,l,i,by rw[r1.MG];rfl,e⟩)
def BO{j pos'}(f:PE X a ta):PC X .IsNot a (.Constant .none j pos') (Hr ta):=by
 intro d s O H Q I h;refine thn (f d s O H _ I h) λv s1 g=>?_;obtain⟨x,l,i,r1,e⟩:=g;exact Constant_none (isnot_none_gen ⟨.bl _,l,i,by rw[r1.MG];rfl,e⟩)
noncomputable def tB(t:TE):TT:=λO H Q=>t O H λx d=>∃c,x=.bl c/\Q c d
def zK(h:PC X f a b t)(g:behindInMarks f b=R:=by first | exact Bs _ (by decide) (by decide) | rfl):PT X (.Compare a [f] [b] pos) (tB t):=by
 intro e s O H Q I hw;refine wpAny_isTrue_Compare1 (thn (h e s O H _ I hw) λv s1 g=>thn g λu p l=>thn l λc o j=>?_) g;obtain⟨x,n,m,r1,i⟩:=j;obtain⟨d,rfl,q⟩:=i;cases r1;exact Y2 ⟨n,m,q⟩
noncomputable def Jb(t u:TT):TT:=λO H Q=>t O H λc d=>if c=M then u O d Q else Q R d
noncomputable def tOr(t u:TT):TT:=λO H Q=>t O H λc d=>if c=M then Q M d else u O d Q
noncomputable def Jz(t:TT):TT:=λO H Q=>t O H λc d=>Q (!c) d
def lq(f:PT X a tA):PW X (.BoolOp .And [a] pos) tA:=by
 intro g d s O H Q I h;refine isTrue_and (thn (f d s O H Q I h) λc s1 e=>?_);cases c with
 |true=>exact isTrue_and_nil e
 |false=>exact e
def uF(f:PT X a tA):PW X (.BoolOp .Or [a] pos) tA:=by
 intro g d s O H Q I h;refine isTrue_or (thn (f d s O H Q I h) λc s1 e=>?_);cases c with
 |false=>exact isTrue_or_nil e
 |true=>exact e
def Ga{X:Cx}{a:Expr}{pos:Pos}{tA Uh:TT}{rest:List Expr}(l:PT X a tA)(j:PW X (.BoolOp .And (b :: rest) pos) Uh):PW X (.BoolOp .And (a :: b :: rest) pos) (Jb tA Uh):=by
 intro i d s O H Q I h;refine isTrue_and (thn (l d s O H _ I h) λc s1 m=>?_);obtain⟨g,f,e⟩:=m;cases c with
 |true=>exact j i d s1 O g Q f e
 |false=>exact⟨g,f,e⟩
def Ig{X:Cx}{a:Expr}{pos:Pos}{tA Uh:TT}{rest:List Expr}(l:PT X a tA)(j:PW X (.BoolOp .Or (b :: rest) pos) Uh):PW X (.BoolOp .Or (a :: b :: rest) pos) (tOr tA Uh):=by
 intro i d s O H Q I h;refine isTrue_or (thn (l d s O H _ I h) λc s1 m=>?_);obtain⟨g,f,e⟩:=m;cases c with
 |true=>exact⟨g,f,e⟩
 |false=>exact j i d s1 O g Q f e
def GW(e:PT X a tA):PT X (.UnaryOp .Not a pos) (Jz tA):=by
 intro d s O H Q I h;exact isTrue_not (e d s O H (λc f=>Q (!c) f) I h)
noncomputable def Ii(ta e:TE):TE:=λO H Q=>ta O H λx d=>∃c,x=.bl c/\if c=M then e O d Q else Q (.bl R) d
noncomputable def II(ta:TE):TE:=λO H Q=>ta O H λx d=>∃c,x=.bl c/\Q (.bl (!c)) d
def GS{op}(h:PE X a t):PE X (.BoolOp op [a] pos) t:=λd s O H Q I hw=>BoolOp_one (h d s O H Q I hw)
def FB{X:Cx}{a:Expr}{ta tb:TE}{pos:Pos}{rest:List Expr}(j:PE X a ta)(i:PE X (.BoolOp .And (b :: rest) pos) tb):PE X (.BoolOp .And (a :: b :: rest) pos) (Ii ta tb):=by
 intro d s O H Q I h;refine BoolOp_and (thn (j d s O H _ I h) λv s1 l=>?_);obtain⟨x,g,f,r1,e⟩:=l;obtain⟨c,rfl,e⟩:=e;cases r1;refine Y2 ?_;cases c with
 |true=>exact i d s1 O g Q f e
 |false=>exact⟨.bl R,g,f,rfl,e⟩
def Fu(f:PE X a ta):PE X (.UnaryOp .Not a pos) (II ta):=by
 intro d s O H Q I h;refine UnaryOp_ (thn (f d s O H _ I h) λv s1 g=>?_);obtain⟨x,j,i,r1,e⟩:=g;obtain⟨c,rfl,e⟩:=e;cases r1;exact not_of (Y2 ⟨.bl (!c),j,i,rfl,e⟩)
noncomputable def tIf(t:TT)(ta e:TE):TE:=λO H Q=>t O H λc d=>if c=M then ta O d Q else e O d Q
def yK(j:PT X c tA)(m:PE X a ta)(l:PE X b tb):PE X (.IfExp c a b pos) (tIf tA ta tb):=by
 intro e s O H Q I h;refine wpAny_IfExp (thn (j e s O H _ I h) λd s1 n=>?_);obtain⟨i,g,f⟩:=n;cases d with
 |true=>exact m e s1 O i Q g f
 |false=>exact l e s1 O i Q g f
end
def JV(K:Wy)(H:Hp)(a:On)(d:List V):Prop :=
 Rd H a (.lst d) ∨
  ∃(o:Obj)(b:Array PP)(n:Nat),K.lookup a=Y o/\o.cls=.type "list" ∧ o.dict=J/\o.data=.seq b n/\b.size<=KM/\aW d b.toList
def KY(K:Wy)(H:Hp)(a:On)(d:List V):Prop :=
 Rd H a (.tup d) ∨
  ∃(o:Obj)(b:Array PP)(n:Nat),K.lookup a=Y o/\o.cls=.type "tuple" ∧ o.data=.seq b n/\b.size<=KM/\aW d b.toList
noncomputable def Jt:PP->Option V
 |.none=>Y .non
 |.bool b=>Y (.bl b)
 |.int i _=>Y (.int i)
 |.str x _=>Y (.str x)
 |.bytes b _=>Y (.byt b)
 |.float b _=>Y (.flt b)
 |.ref a=>Y (.ref a)
 |.type n=>Y (.ty n)
 |_=>J
def RelV.abs(r:RelV x u):Jt u=Y x:=by
 cases x with
 |non=>cases r;rfl
 |bl _=>cases r;rfl
 |int _=>obtain⟨t,rfl⟩:=r;rfl
 |str _=>obtain⟨t,rfl⟩:=r;rfl
 |byt _=>obtain⟨t,rfl⟩:=r;rfl
 |flt _=>obtain⟨t,rfl⟩:=r;rfl
 |ref _=>cases r;rfl
 |ty _=>cases r;rfl
def RelV.inj(r:RelV x u)(q:RelV y u):x=y:=Zl (r.abs.symm.trans q.abs)
theorem aW.inj:∀{b a:List V}{d:Vq},aW b d->aW a d->b=a
 |_,_,_,.nil,.nil=>rfl
 |_,_,_,.cons r t,.cons f e=>by rw[r.inj f,aW.inj t e]
section
variable{H:Hp}
def JV.of{K:Wy}(h:H a=Y (.lst xs)):JV K H a xs:=.inl (.inl h)
def KY.of{K:Wy}(h:H a=Y (.tup xs)):KY K H a xs:=.inl (.inl h)
def Inv.list(I:Inv X pins O H s)(h:JV X.K H a xs):∃b:Vq,aW xs b/\PlainL s.heap a b.toArray/\xs.length<=sizeLine:=by
 rcases h with h | ⟨o,b,n,f,g,hd,d,i,r⟩
 ·obtain⟨z,b,n,r,e⟩:=h.ok I.xb;exact⟨b,r,⟨_,n,e,rfl,rfl,rfl⟩,z⟩
 ·refine⟨b.toList,r,⟨o,n,I.Lp a o f,g,hd,by simpa using d⟩,?_⟩;have e:=r.length;simp only[Yg]at e;lia
def Inv.tuple(I:Inv X pins O H s)(h:KY X.K H a xs):∃b:Vq,aW xs b/\IsTup s.heap a b.toArray/\xs.length<=sizeLine:=by
 rcases h with h | ⟨o,b,n,f,g,d,i,r⟩
 ·obtain⟨z,b,r,_,p⟩:=h.ok I.xb;exact⟨b,r,p,z⟩
 ·refine⟨b.toList,r,⟨o,I.Lp a o f,g,n,by simpa using d⟩,?_⟩;have e:=r.length;simp only[Yg]at e;lia
def Inv.MH(I:Inv X pins O H s)(h:JV X.K H a xs)(j:JV X.K H a ys):xs=ys:=by
 obtain⟨i,r,⟨o,n,e,_,_,d⟩,_⟩:=I.list h;obtain⟨l,g,⟨m,p,b,_,_,f⟩,_⟩:=I.list j;rw[e]at b;cases b;rw[d]at f;injection f with d1 _
 have:i=l:=by simpa using congrArg Array.toList d1
 subst this;exact r.inj g
def Inv.NI(I:Inv X pins O H s)(h:KY X.K H a xs)(j:KY X.K H a ys):xs=ys:=by
 obtain⟨i,r,⟨o,e,_,n,d⟩,_⟩:=I.tuple h;obtain⟨l,g,⟨m,b,_,p,f⟩,_⟩:=I.tuple j;rw[e]at b;cases b;rw[d]at f;injection f with d1 _
 have:i=l:=by simpa using congrArg Array.toList d1
 subst this;exact r.inj g
end
noncomputable abbrev Cx.LP(X:Cx)(E:Yx):Cx:={ X with xe:=E }
abbrev Cx.M7(X:Cx):Cx:=X.LP λ_ _=>False
theorem Cx.Ok.LP{X:Cx}(a:X.Ok)(E:Yx):(X.LP E).Ok :=
 ⟨a.mod,a.kind,a.glob,a.blt,a.above,a.inj,a.has,a.TZ,a.hd,a.frames,a.Ui,a.exf,a.tb,a.bs,a.Px,a.Oi,a.Pr,a.Ls,a.RA⟩
def Cx.Ok.Kx{X:Cx}(a:(X.LP E).Ok):X.Ok :=
 ⟨a.mod,a.kind,a.glob,a.blt,a.above,a.inj,a.has,a.TZ,a.hd,a.frames,a.Ui,a.exf,a.tb,a.bs,a.Px,a.Oi,a.Pr,a.Ls,a.RA⟩
section
variable{H:Hp}
theorem Inv.LP(I:Inv X pins O H s)(E:Yx):Inv (X.LP E) pins O H s:=⟨I.ok.LP E,I.os,I.bare,I.base,I.loc,I.cell,I.free,I.KJ,I.pin,I.xb,I.len⟩
theorem Inv.Kx{X:Cx}(I:Inv (X.LP E) pins O H s):Inv X pins O H s:=⟨I.ok.Kx,I.os,I.bare,I.base,I.loc,I.cell,I.free,I.KJ,I.pin,I.xb,I.len⟩
theorem SP.Kx{X:Cx}(h:SP (X.LP E) pins D f d):SP X pins D f d:=by
 cases f with
 |next=>obtain⟨a,b,I,q⟩:=h;exact⟨a,b,I.Kx,q⟩
 |brk=>obtain⟨a,b,I,q⟩:=h;exact⟨a,b,I.Kx,q⟩
 |cont=>obtain⟨a,b,I,q⟩:=h;exact⟨a,b,I.Kx,q⟩
 |ret u=>obtain⟨v,a,b,I,r,q⟩:=h;exact⟨v,a,b,I.Kx,r,q⟩
theorem LN.M7{X:Cx}(h:LN X.M7 a t):LN X a t:=λpins s O H D I hw =>
 Xy (h pins s O H D (I.LP _) hw) (λ_ _ q=>q.Kx) λ_ _ z=>False.elim z
end
section
variable{st:Stmt}
noncomputable def HR:TS:=λD O H=>D.nx O H
noncomputable def IZ(t u:TS):TS:=λD O H=>t { D with nx:=u D } O H
def Cc:LN X [] HR:=λ_ _ O H _ I h=>VM ⟨O,H,I,h⟩
def AK{X:Cx}{rest:List Stmt}{t u:TS}(d:PS X st t)(b:LN X rest u):LN X (st :: rest) (IZ t u):=by
 intro a s O H D I h;refine wpAny_execs_cons (thn (d a s O H { D with nx:=u D } I h) λf s1 q=>?_);cases f with
 |next =>
  obtain⟨g,j,i,q⟩:=q;exact b a s1 g j D i q
 |ret v=>exact q
 |brk=>exact q
 |cont=>exact q
def au(b:PS X st t):LN X [st] t:=by
 intro a s O H D I h;refine wpAny_execs_cons (thn (b a s O H D I h) λf s1 q=>?_);cases f with
 |next=>exact VM q
 |ret v=>exact q
 |brk=>exact q
 |cont=>exact q
def Inv.quiet(I:Inv X a O H s):interactive X.env=R:=by simp[interactive,I.ok.kind]
noncomputable def IM(a:TE):TS:=λD O H=>a O H λ_ b=>D.nx O b
def jF{pos:Pos}(he:PE X e te)(d:{`q2,swapsWith e J pos.line X.env=pure R}):PS X (.Expr e pos) (IM te):=by
 intro a s O H D I h;exact wpAny_Expr_any (thn (he a s O H _ I h) λv s1 ⟨x,g,f,r1,b⟩=>⟨O,g,f,b⟩) I.quiet d
noncomputable def JD(a:TE):TS:=λD O H=>a O H D.rt
def qX(he:PE X e te):PS X (.Return (Y e) pos) (JD te):=by
 intro a s O H D I h;refine wpAny_Return_some (thn (he a s O H _ I h) λv s1 d=>?_);obtain⟨x,g,f,r1,b⟩:=d;exact⟨x,O,g,f,r1,b⟩
noncomputable def Je(c:TT)(t u:TS):TS:=λD O H=>c O H λb a=>if b=M then t D O a else u D O a
def Iy(m:PT X c g)(o:LN X a t)(n:LN X b u):PS X (.If c a b pos) (Je g t u):=by
 intro f s O H D I h;refine wpAny_If (thn (m f s O H _ I h) λd s1 p=>?_);obtain⟨l,j,i⟩:=p;cases d with
 |true=>exact o f s1 O l D j i
 |false=>exact n f s1 O l D j i
end
abbrev TG:=V->St->Hp->(St->Hp->Prop)->Prop
abbrev PD:=List V->St->Hp->(St->Hp->Prop)->Prop
def PG(X:Cx)(a:Expr)(t:TG):Prop :=
 ∀(b:Yw)(s:KB)(O:St)(H:Hp)(v:V)(u:PP)(Q:St->Hp->Prop),Inv X b O H s->RelV v u->t v O H Q →
  Pi (KF X.prog X.w) X.A (assign a X.env u) (λ_ f=>∃d e,Inv X b d e f/\Q d e) X.xe s
def O0(X:Cx)(g:List Expr)(t:PD):Prop :=
 ∀(a:Yw)(s:KB)(O:St)(H:Hp)(b:List V)(d:Vq)(Q:St->Hp->Prop),Inv X a O H s->aW b d->t b O H Q →
  Pi (KF X.prog X.w) X.A (assignInOrder ((assignEach g X.env).map (·.2)) d) (λ_ h=>∃e f,Inv X a e f h/\Q e f) X.xe s
abbrev CD:=V->V->V->Hp->(Hp->Prop)->Prop
def G5(X:Cx)(t:CD):Prop :=
 ∀(a:Yw)(s:KB)(O:St)(H:Hp)(o i v:V)(b iv u:PP)(Q:Hp->Prop),Inv X a O H s->RelV o b->RelV i iv->RelV v u->t o i v H Q →
  Pi (KF X.prog X.w) X.A (setItem b iv u) (λ_ e=>∃d,Inv X a O d e/\Q d) X.xe s
section
noncomputable def Er(i:Nat):TG:=λv O H Q=>Q (O.set i (Y v)) H
def Cm{X:Cx}(f:X.N.Nodup)(d:X.N[i]?=Y x)(b:Loc X.env.scope x)(e:{`q0,X.fn x=M\/X.env.scope.names.lookup x=Y .local}):PG X (.Name x pos) (Er i):=by
 intro a s O H v u Q I r h;exact wpAny_assign_Name (tu I f d b r (λj g=>⟨_,H,g,h⟩) e)
noncomputable def Ji:PD:=λa O H Q=>a=[]/\Q O H
noncomputable def Hf(t:TG)(u:PD):PD:=λa O H Q=>∃v r,a=v :: r/\t v O H λb d=>u r b d Q
def BR:O0 X [] Ji:=by
 intro a s O H b d Q I r h;obtain⟨e,h⟩:=h;subst e;cases r;exact assignInOrder_nil ⟨O,H,I,h⟩
def zj(l:PG X e t)(j:O0 X b u)(g:{`q2,(assignEach (e :: b) X.env).map (·.2)=assign e X.env :: (assignEach b X.env).map (·.2)}):O0 X (e :: b) (Hf t u):=by
 intro a s O H p w Q I r h;obtain⟨v,q,e1,h⟩:=h;subst e1;cases r with
 |cons r d =>
  rw[g];refine assignInOrder_cons (thn (l a s O H _ _ _ I r h) λ_ s1 i=>?_);obtain⟨m,o,n,f⟩:=i;exact j a s1 m o _ _ Q n d f
def kA(K:Wy)(n:Nat)(t:PD):TG:=λv O H Q=>∃a b,v=.ref a/\KY K H a b/\b.length=n/\t b O H Q
def Gu{X:Cx}(w:X.calm=M)(h:O0 X f t)(p:{`q2,(assignEach f X.env).length=n})(x:{`q2,(assignEach f X.env).findIdx? (·.1)=J}):PG X (.Tuple f k pos) (kA X.K n t):=by
 intro d s O H v u Q I r hw;obtain⟨a,i,e1,m,q,hw⟩:=hw;subst e1;cases r;obtain⟨y,g,l,z⟩:=I.tuple m;refine assign_Tuple_tuple (I.ok.hd w) l (by simp[p,← q,g.length]) x λA j=>?_;exact h d _ O H i _ Q (I.kept (t':=s.toks) λb o e=>j b o (Ze (ZV e)) e) (by simpa using g) hw
noncomputable def Hz(a b:TE)(t:CD):TG:=λv O H Q=>a O H λo f=>b O f λi e=>t o i v e λd=>Q O d
def vv(p:PE X o e)(q:PE X i f)(n:G5 X t)(w:{`q3,∀v,assign (.Subscript o i pos) X.env v=(do
   let b ← holding [v] (eval o X.env)
   let iv ← holding [v,b] (eval i X.env)
   standAt pos
   holding [v,b,iv] (setItem b iv v)
   release [v,b,iv] [])}):PG X (.Subscript o i pos) (Hz e f t):=by
 intro a s O H v u Q I r h;rw[w];refine Zy (YK (thn (p a s O H _ I h) λb s1 d=>?_));obtain⟨x,E,B,r1,m⟩:=d;refine Zy (YK (thn (q a s1 O E _ B m) λiv g d=>?_));obtain⟨y,D,A,r2,l⟩:=d;refine Zy (wpAny_standAt (Zy (YK (thn (n a g O D x y v b iv u _ A r1 r2 r l) λ_ F d=>?_))));obtain⟨C,z,j⟩:=d;exact wpAny_release ⟨O,C,z,j⟩
noncomputable def Ie(a:TE)(g:TG):TS:=λD O H=>a O H λx b=>g x O b D.nx
def vd{pos:Pos}(he:PE X e d)(j:PG X b g)(i:{`q2,swapsWithSole [b] e pos.line X.env=pure R})(hw:{`q2,swappedStores [b] e X.env=pure J})(m:{`q2,(assignEach [b] X.env).map (·.2)=[assign b X.env]}):PS X (.Assign [b] e pos) (Ie d g):=by
 intro a s O H D I h;refine wpAny_Assign_stores (thn (he a s O H _ I h) λv s1 l=>?_) i hw;obtain⟨x,o,n,r1,f⟩:=l;rw[m];exact thn (j a s1 O o x v _ n r1 f) λ_ p q=>q
def vq{X:Cx}{pos:Pos}(o:X.N.Nodup)(l:X.N[i]?=Y x)(g:Loc X.env.scope x)(he:PE X e d)(j:{`q2,swapsWith e (Y (.Name x a)) pos.line X.env=pure R})(m:{`q0,X.fn x=M\/X.env.scope.names.lookup x=Y .local}) :
  PS X (.Assign [.Name x a] e pos) (Ie d (Er i)):=by
 intro b s O H D I h;refine wpAny_Assign_Name (thn (he b s O H _ I h) λv s1 n=>?_) j;obtain⟨y,r,q,r1,f⟩:=n;exact tu q o l g r1 (λu p=>⟨_,r,p,f⟩) m
end
section
def Gv(c:TT)(g:TS):TS:=λD O H=>∃W:Nat->St->Hp->Prop,(∃m,W m O H)/\∀m O H,W m O H →
 c O H λb e=>if b=M then ∃N:St->Hp->Prop,(∀d f,N d f->∃a,a<m/\W a d f)/\g { D with nx:=N,ct:=N,bk:=D.nx } O e else D.nx O e
def zP{X:Cx}(y:PassesOwn (KF X.prog X.w) X.A X.env X.xe)(Z:PT X c u)(hb:LN X d x):PS X (.While c d [] pos) (Gv u x):=by
 intro a s O H D I h;obtain⟨W,⟨U,P⟩,turn⟩:=h;refine wpAny_While (codeAny_whileLoop (λn S=>∃z F,Inv X a z F S/\W n z F) ?_ U ⟨O,H,I,P⟩);rintro n s1 ⟨l,E,I1,G⟩;refine X4 y (thn (Z a s1 l E _ I1 (turn n l E G)) λb Q h_=>?_);obtain⟨C,B,j⟩:=h_;cases b with
 |true =>
  obtain⟨N,hN,j⟩:=j;rw[Zs L];refine X4 y (thn (hb a Q l C _ B j) λf s3 i=>?_);cases f with
  |next =>
   obtain⟨e,g,r,o⟩:=i;obtain⟨p,q,m⟩:=hN e g o;exact⟨p,q,e,g,r,m⟩
  |cont =>
   obtain⟨e,g,r,o⟩:=i;obtain⟨p,q,m⟩:=hN e g o;exact⟨p,q,e,g,r,m⟩
  |brk=>exact i
  |ret v=>exact i
 |false =>
  rw[Zo Zh];exact VM ⟨l,C,B,j⟩
end
structure It where
 go:Nat->Hp->Prop
 Uc:Nat->Hp->V->Hp->Prop
 stop:Nat->Hp->Prop
def o8(X:Cx)(a:Yw)(H:Hp)(b:On):Prop :=
 H b=J/\b≠X.env.locals/\b∉X.fs/\(b∈X.ex\/X.s₀.heap.objs.size<=b)/\(∀x c,X.env.cells.lookup x=Y c->c≠b)/\∀p∈X.pn++a,p.1≠b
def Inv.OB(I:Inv X a O H s)(d:s.heap.objs.size<=b)(h:f b=J):o8 X a f b:=by
 refine⟨h,WX (Zi I.lt d),I.nofs d,.inr (ZS I.sz d),λx c e z=>?_,λp g z=>?_⟩
 ·obtain⟨v,q⟩:=I.cell x c e;exact absurd (Zi q.lt (by rw[z];exact d)) (Yf _)
 ·exact absurd (Zi (ZV (I.pin p g).1) (by rw[z];exact d)) (Yf _)
structure Turn(P:SB)(w:XAB)(K:Wy)(tg:Expr)(J:It)(fp:W5)(it:On)(tn:Nat->XAA->Prop):Prop where
 mem:it∈fp
 obj:∀i h,tn i h->∀b∈fp,∃o,h.get? b=some o/\∀v,o.data ≠ .cell v
 keep:∀i h h',tn i h->(∀b∈fp,∀o,h.get? b=some o->h'.get? b=some o)->tn i h'
 item:∀(X:Cx),X.prog=P->X.w=w->X.K=K->X.calm=true->∀(i:Nat)(pins:Yw)(s:KB)(O:St)(H:Hp)(E:Yx),Inv X pins O H s->(∀b∈fp,o8 X pins H b)->tn i s.heap->J.go i H →
  Pi (KF P w) X.A (pyNext (.ref it)) (λr s1=>∃u,r=some u ∧
   Pi (KF P w) X.A (letOwnedTupleGo tg (.ref it) u) (λ_ s2=>∃x H',Inv X pins O H' s2/\RelV x u/\J.Uc i H x H'/\tn (i+1) s2.heap/\∀b∈fp,H' b=none) E s1) E s
 done:∀(X:Cx),X.prog=P->X.w=w->X.K=K->X.calm=true->∀(i:Nat)(pins:Yw)(s:KB)(O:St)(H:Hp)(E:Yx),Inv X pins O H s->(∀b∈fp,o8 X pins H b)->tn i s.heap->J.stop i H →
  Pi (KF P w) X.A (pyNext (.ref it)) (λr s1=>r=none/\Inv X pins O H s1) E s
 self:∀(A:SC)(i:Nat)(s:KB)(Q:Yx)(E:Yx),tn i s.heap->Q (.ref it) s->Pi (KF P w) A (pyIter (.ref it)) Q E s
abbrev TI:=St->Hp->(It->Hp->Prop)->Prop
def PIE(X:Cx)(a:Yw)(O:St)(h:Expr)(R:It->Hp->Prop)(d:PP)(g:KB):Prop :=
 ∃(it:On)(fp:W5)(f:Nat->XAA->Prop)(J:It)(e:Hp),d=.ref it/\Inv X a O e g/\Turn X.prog X.w X.K h J fp it f/\f 0 g.heap/\(∀b∈fp,o8 X a e b)/\R J e
def PI(X:Cx)(e b:Expr)(d:TI):Prop :=
 ∀(a:Yw)(s:KB)(O:St)(H:Hp)(R:It->Hp->Prop),Inv X a O H s->d O H R →
  Pi (KF X.prog X.w) X.A (eval b X.env) (λv s1=>Pi (KF X.prog X.w) X.A (pyIter v) (PIE X a O e R) X.xe s1) X.xe s
def um{M:Model}{s:KB}(f:s.heap.get? e=Y o)(j:o.cls=.type n)(i:o.data=.fields b)(g:["enumerate", "zip", "dict_itemiterator", "dict_reverseitemiterator", "odict_iterator", "itertools.zip_longest", "itertools.pairwise"].contains n=R)(a:Q () s):Pi M A (letOwnedTupleGo d (.ref e) u) Q E s:=by
 cases d<;>first
  |exact Zm a
  | (cases u<;>first
    |exact Zm a
    | (refine Zy (wpAny_load f ?_)
       rw[j,i];show Pi M A (if (["enumerate", "zip", "dict_itemiterator", "dict_reverseitemiterator", "odict_iterator", "itertools.zip_longest", "itertools.pairwise"].contains n&&b[0]? == Y (rawInt _))=true then _ else _) Q E s;rw[Zo (by intro h;rw[g,Bool.false_and]at h;cases h)];exact Zm a))
def Itl(K:Wy)(a:On):It :=
 ⟨λi H=>∃b x,JV K H a b/\b[i]?=Y x,λi H x d=>d=H/\∀b,JV K H a b->b[i]?=Y x,λi H=>∃b,JV K H a b/\b.length<=i⟩
def Itt(K:Wy)(a:On):It :=
 ⟨λi H=>∃b x,KY K H a b/\b[i]?=Y x,λi H x d=>d=H/\∀b,KY K H a b->b[i]?=Y x,λi H=>∃b,KY K H a b/\b.length<=i⟩
noncomputable def T9(a:Int)(n:Nat):It:=⟨λi _=>i<n,λi H x b=>b=H/\x=.int (a+i),λi _=>n<=i⟩
def yc{K:Wy}(a f:On):Turn P w K N (Itl K a) [f] f (λi h=>h.IsListIter f a i) where
 mem:=by simp
 obj:=λi h st b hb=>by
  have e:b=f:=by simpa using hb
  subst e;obtain⟨o,e,c,d⟩:=st;exact⟨o,e,λv z=>by rw[d]at z;cases z⟩
 keep:=λi h F st k=>st.at λo e=>k f (by simp) o e
 item:=by
  intro X r hw y D i g s O H E I l st hg;refine L2.aq λP_ n=>?_;subst r hw y;obtain⟨L,x,j,q⟩:=hg;obtain⟨S,m,p,U⟩:=I.list j;obtain⟨u,hu,Q⟩:=m.get q;obtain⟨C,f1,f2,B,A,f5⟩:=l f (by simp);refine n ?_;refine wpAny_pyNext_list_item st p.isList (x:=u) (by simpa using hu) λF G sb=>?_;obtain⟨o,e,c,d⟩:=id G;exact⟨u,rfl,um e c d (by decide) ⟨x,H,(I.turned (t':=s.toks) (λb o hb e=>(sb.2 b hb).trans e) C f1 B A f5),Q,⟨rfl,λys Z=>by rw[I.MH Z j];exact q⟩,G,λb hb=>(l b hb).1⟩⟩
 done:=by
  intro X r hw y D i g s O H E I l st hg;refine L2.aq λP_ n=>?_;subst r hw y;obtain⟨L,j,q⟩:=hg;obtain⟨S,m,p,U⟩:=I.list j;obtain⟨C,f1,f2,B,A,f5⟩:=l f (by simp);refine n ?_;have hl:=m.length;exact wpAny_pyNext_list_end (I.ok.hd D) st p.isList (by simp;lia) λF eb=>⟨rfl,I.turned (λb o hb e=>eb b o hb e) C f1 B A f5⟩
 self:=λ_ _ _ _ _ st h=>wpAny_pyIter_listiter st h
def uY{K:Wy}(a f:On):Turn P w K N (Itt K a) [f] f (λi h=>h.IsTupleIter f a i) where
 mem:=by simp
 obj:=λi h st b hb=>by
  have e:b=f:=by simpa using hb
  subst e;obtain⟨o,e,c,d⟩:=st;exact⟨o,e,λv z=>by rw[d]at z;cases z⟩
 keep:=λi h F st k=>st.at λo e=>k f (by simp) o e
 item:=by
  intro X r hw y D i g s O H E I l st hg;refine L2.aq λP_ n=>?_;subst r hw y;obtain⟨L,x,j,q⟩:=hg;obtain⟨S,m,p,U⟩:=I.tuple j;obtain⟨u,hu,Q⟩:=m.get q;obtain⟨C,f1,f2,B,A,f5⟩:=l f (by simp);refine n ?_;refine wpAny_pyNext_tuple_item st (p) (x:=u) (by simpa using hu) λF G sb=>?_;obtain⟨o,e,c,d⟩:=id G;exact⟨u,rfl,um e c d (by decide) ⟨x,H,(I.turned (t':=s.toks) (λb o hb e=>(sb.2 b hb).trans e) C f1 B A f5),Q,⟨rfl,λys Z=>by rw[I.NI Z j];exact q⟩,G,λb hb=>(l b hb).1⟩⟩
 done:=by
  intro X r hw y D i g s O H E I l st hg;refine L2.aq λP_ n=>?_;subst r hw y;obtain⟨L,j,q⟩:=hg;obtain⟨S,m,p,U⟩:=I.tuple j;obtain⟨C,f1,f2,B,A,f5⟩:=l f (by simp);refine n ?_;have hl:=m.length;exact wpAny_pyNext_tuple_end (I.ok.hd D) st (p) (by simp;lia) λF eb=>⟨rfl,I.turned (λb o hb e=>eb b o hb e) C f1 B A f5⟩
 self:=λ_ _ _ _ _ st h=>wpAny_pyIter_tupleiter st h
def u0{K:Wy}(a:On)(f:Int)(n:Nat):Turn P w K y (T9 f n) [a] a (λi h=>IsRangeIter h a (f+(i:Nat)*1) ((n:Int)-(i:Nat)) 1) where
 mem:=by simp
 obj:=λi h st b hb=>by
  have e:b=a:=by simpa using hb
  subst e;exact⟨_,st,λv z=>by
   cases z⟩
 keep:=λi h u st k=>k a (by simp) _ st
 item:=by
  intro X l hw m j i d s O H E I g st hg;subst l hw m;obtain⟨r,f1,f2,q,p,f5⟩:=g a (by simp);refine(Walks.range (prog:=X.prog) (w:=X.w) (I.ok.hd j) a f 1 n).item i s _ _ hg st λv u D B x A=>?_;obtain⟨t,rfl⟩:=B;refine⟨_,rfl,um x L L (by decide) ⟨.int (f+i),H,(I.turned (λb o hb e=>A b o (by simpa using hb) e) r f1 q p f5),⟨t,?_⟩,⟨rfl,rfl⟩,x,λb hb=>(g b hb).1⟩⟩;rw[Int.mul_one]
 done:=by
  intro X l hw m j i d s O H E I g st hg;subst l hw m;obtain⟨r,f1,f2,q,p,f5⟩:=g a (by simp);exact wpAny_pyNext_range_end (I.ok.hd j) st (by have:n<=i:=hg;lia) λu C=>⟨rfl,I.turned (λb o hb e=>C b o hb e) r f1 q p f5⟩
 self:=λ_ _ _ _ _ st h=>wpAny_pyIter_rangeiter st h
section
def uw{R:It->Hp->Prop}{a f:Int}(I:Inv X d O H s)(m:-(2 ^ 62)<=a)(l:a<2 ^ 62)(j:-(2 ^ 62)<=f)(i:f<2 ^ 62)(q:R (T9 a (f-a).toNat) H):Pi (KF X.prog X.w) X.A (pyIter (.ref s.heap.objs.size)) (PIE X d O tg R) E { s with heap:=s.heap.push { cls:=.type "range",data:=.fields #[.int a t,.int f u,.int 1 v] },toks:=g }:=by
 refine wpAny_pyIter_range (IsRange.new ..) (small_one m l j i) ?_;have h:Inv X d O H { s with heap:=s.heap.push { cls:=.type "range",data:=.fields #[.int a t,.int f u,.int 1 v] },toks:=g }:=I.kept λb o e=>Zj _ e;refine⟨(s.heap.push { cls:=.type "range",data:=.fields #[.int a t,.int f u,.int 1 v] }).objs.size,[(s.heap.push { cls:=.type "range",data:=.fields #[.int a t,.int f u,.int 1 v] }).objs.size],_,_,H,rfl,
  h.kept (t':=g) λb o e=>Zj _ e,u0 _ a (f-a).toNat,?_,λb hb=>?_,q⟩
 ·have e1:a+((0:Nat):Int)*1=a:=by simp
  have e2:(((f-a).toNat:Nat):Int)-((0:Nat):Int)=Builtin.Range.rangeSize a f 1:=by rw[rangeSize_one];split<;>lia
  rw[e1,e2];exact ZM _ L
 ·have e:b=(s.heap.push { cls:=.type "range",data:=.fields #[.int a t,.int f u,.int 1 v] }).objs.size:=by simpa using hb
  subst e;exact h.OB (Zn _) (h.xb.fresh (Zn _))
def Ij(ta:TA):TI:=λO H R=>ta O H λa b=>∃j:Int,a=[.int j]/\-(2 ^ 62)<=j/\j<2 ^ 62/\R (T9 0 j.toNat) b
def IV(ta:TA):TI:=λO H R=>ta O H λa b=>∃i j:Int,a=[.int i,.int j]/\(-(2 ^ 62)<=i/\i<2 ^ 62/\-(2 ^ 62)<=j/\j<2 ^ 62)/\R (T9 i (j-i).toNat) b
def yp(o:Gl X "range")(n:X.mg "range" = J)(u:PA X [a] g)(m:{`q2,P3 [a] X.env=[(false,eval a X.env)]}):PI X tg (.Call (.Name "range" p) [a] [] b) (Ij g):=by
 intro d s O H R I h;refine Call_ (jX I o n boot_range (XC (thn (u b d s O H _ I h) λy s1 v=>?_) m L));obtain⟨x,z,w,r1,f⟩:=v;obtain⟨j,e,f,l,q⟩:=f;subst e;cases r1 with
 |cons r i =>
  cases i;obtain⟨t,rfl⟩:=r;exact call_range_1 (uw w (by lia) (by lia) f l (by simpa using q))
def xy(z:Gl X "range")(y:X.mg "range" = J)(A:PA X [a,b] m)(x:{`q2,P3 [a,b] X.env=[(false,eval a X.env),(false,eval b X.env)]})(n:{`q2,P3 [b] X.env=[(false,eval b X.env)]}) :
  PI X tg (.Call (.Name "range" p) [a,b] [] d) (IV m):=by
 intro f s O H R I h;refine Call_ (jX I z y boot_range (XC (thn (A d f s O H _ I h) λE s1 B=>?_) (by rw[x,n]) (by rw[n];rfl)));obtain⟨D,G,C,r1,l⟩:=B;obtain⟨i,j,e,⟨l,w,v,u⟩,q⟩:=l;subst e;cases r1 with
 |cons r g =>
  cases g with
  |cons o g =>
   cases g;obtain⟨t,rfl⟩:=r;obtain⟨F,rfl⟩:=o;exact call_range_2 (uw C l w v u q)
def HY(e:TI)(g:TG)(f:TS):TS:=λD O H=>e O H λJ l=>∃W:Nat->Nat->St->Hp->Prop,(∃m,W 0 m O l)/\∀i m O H,W i m O H →
 (J.stop i H/\D.nx O H)\/(J.go i H/\∃N:St->Hp->Prop,(∀d a,N d a->∃b,b<m/\W (i+1) b d a)/\∀x a,J.Uc i H x a->g x O a λh j=>f { D with nx:=N,ct:=N,bk:=D.nx } h j)
noncomputable def ox(a:W5)(h:XAA):Yw:=a.filterMap λb=>(h.get? b).map λo=>(b,o)
def iN{h:XAA}(d:b∈a)(e:h.get? b=Y o):(b,o)∈ox a h:=We.mpr ⟨b,d,by rw[e];rfl⟩
def yg(d:p∈ox a h):p.1∈a/\h.get? p.1=Y p.2:=by
 obtain⟨b,hb,e⟩:=We.mp d;cases q:h.get? b with
 |none=>rw[q]at e;cases e
 |some o =>
  rw[q]at e;have f:=Zl e;subst f;exact⟨hb,q⟩
def Inv.pinned(I:Inv X a O H s)(j:∀b∈f,o8 X a H b)(i:∀b∈f,∃o,s.heap.get? b=Y o/\∀v,o.data ≠ .cell v):Inv X (a++ox f s.heap) O H s :=
 I.Nn λp h=>(Zd.mp h).elim (λz=>I.pin p (ZI _ z)) λz=>by
  obtain⟨hb,e⟩:=yg z;obtain⟨l,f1,f2,_⟩:=j p.1 hb;obtain⟨o,g,d⟩:=i p.1 hb;rw[e]at g;cases g;exact⟨e,l,f1,f2,d⟩
def Inv.KZ(I:Inv X (a++b) O H s):Inv X a O H s:=I.Nn λp d=>I.pin p (ZI _ (Ye _ d))
def GR{X:Cx}(G:PassesOwn (KF X.prog X.w) X.A X.env X.xe)(hc:X.calm=M)(hi:PI X tg j wi)(hg:PG X tg g)(l:LN X C tb)(hs:{`q3,∀x,XAD j X.env x=pure x}):PS X (.For tg j C [] Z) (HY wi g tb):=by
 intro a s O H D I h;refine wpAny_For (thn (hi a s O H _ I h) λv s1 h1=>thn h1 λitv s2 h2=>?_) hs;refine L2.aq λP_ k_=>?_;obtain⟨it,fp,tn,J,H2,e,I2,T,Ll,f2,W,⟨m0,w0⟩,turn⟩:=h2;subst e;refine k_ ?_;have M0:∀{z:Hp},(∀b∈fp,z b=none)->∀b∈fp,o8 X a z b:=λhn b l=>⟨hn b l,(f2 b l).2⟩
 refine codeAny_forLoop_any (λn s'=>∃i Q z,Inv X a Q z s'/\tn i s'.heap/\(∀b∈fp,z b=none)/\W i n Q z) ?_ m0 ⟨0,O,H2,I2,Ll,λb l=>(f2 b l).1,w0⟩;rintro n s3 ⟨i,P,S,I3,M4,TJ,w3⟩;rcases turn i n P S w3 with⟨stop,qn⟩ | ⟨go,N,hN,step⟩
 ·refine X4 G (thn (T.done X L L L hc i a s3 P S X.xe I3 (M0 TJ) M4 stop) λr s4 E=>?_);obtain⟨hr,I4⟩:=E;subst hr;exact VM ⟨P,S,I4,qn⟩
 ·refine X4 G (thn (T.item X L L L hc i a s3 P S X.xe I3 (M0 TJ) M4 go) λr s4 E=>?_);obtain⟨u,hr,h4⟩:=E;subst hr;refine X4 G (thn h4 λ_ s5 E=>?_);obtain⟨x,H5,I5,r5,y5,QS,fr5⟩:=E;refine X4 G (thn (hg _ s5 P H5 x u _ (I5.pinned (M0 fr5) (T.obj _ _ QS)) r5 (step x H5 y5)) λ_ s6 E=>?_);obtain⟨O6,H6,I6,q6⟩:=E;refine X4 G (thn (l _ s6 O6 H6 _ I6 q6) λf U B=>?_);have again:∀{p:St}{y:Hp},Inv X (a++ox fp s5.heap) p y U->N p y->∃m,m<n/\∃i Q z,Inv X a Q z U/\tn i U.heap/\(∀b∈fp,z b=none)/\W i m Q z:=λ{p y} q F=>by
   obtain⟨m',hm,w7⟩:=hN p y F;refine⟨m',hm,i+1,p,y,q.KZ,T.keep _ _ _ QS λb l o e=>(q.pin (b,o) (ZI _ (ZI _ (iN l e)))).1,λb l=>?_,w7⟩;obtain⟨o,e,d⟩:=T.obj _ _ QS b l;exact(q.pin (b,o) (ZI _ (ZI _ (iN l e)))).2.1
  cases f with
  |next=>obtain⟨p,y,q,F⟩:=B;exact again q F
  |cont=>obtain⟨p,y,q,F⟩:=B;exact again q F
  |brk=>obtain⟨p,y,q,B⟩:=B;exact⟨p,y,q.KZ,B⟩
  |ret v=>obtain⟨x7,p,y,q,r7,B⟩:=B;exact⟨x7,p,y,q.KZ,r7,B⟩
end
abbrev R2:=V->V->Hp->VK->Prop
def OpR(X:Cx)(f:PP->PP->Sem PP)(r:R2):Prop :=
 ∀(a:Yw)(s:KB)(O:St)(H:Hp)(x y:V)(v u:PP)(Q:VK),Inv X a O H s->RelV x v->RelV y u->r x y H Q →
  Pi (KF X.prog X.w) X.A (f v u) (EP X a O Q) X.xe s
def UnR(X:Cx)(f:PP->Sem PP)(r:V->Hp->VK->Prop):Prop :=
 ∀(a:Yw)(s:KB)(O:St)(H:Hp)(x:V)(v:PP)(Q:VK),Inv X a O H s->RelV x v->r x H Q →
  Pi (KF X.prog X.w) X.A (f v) (EP X a O Q) X.xe s
def dm(X:Cx)(f:PP)(r:List V->Hp->VK->Prop):Prop :=
 ∀(a:Yw)(s:KB)(O:St)(H:Hp)(b:List V)(d:Vq)(Q:VK),Inv X a O H s->aW b d->r b H Q →
  Pi (KF X.prog X.w) X.A (call f d) (EP X a O Q) X.xe s
def Jo(X:Cx)(r:V->Hp->(Bool->Hp->Prop)->Prop):Prop :=
 ∀(a:Yw)(s:KB)(O:St)(H:Hp)(x:V)(v:PP)(Q:Bool->Hp->Prop),Inv X a O H s->RelV x v->r x H Q →
  Pi (KF X.prog X.w) X.A (truthy v) (TP X a O Q) X.xe s
noncomputable def SJ(r:R2)(ta a:TE):TE:=λO H Q=>ta O H λx d=>a O d λy b=>r x y b Q
noncomputable def tUn(r:V->Hp->VK->Prop)(ta:TE):TE:=λO H Q=>ta O H λx a=>r x a Q
noncomputable def rI(C:Int->Int->Prop)(g:Int->Int->V):R2:=λx y H Q=>∃i j,x=.int i/\y=.int j/\C i j/\Q (g i j) H
noncomputable def Nm(g:Int->Int->V):R2:=λx y H Q=>∃i j,x=.int i/\y=.int j/\Q (g i j) H
noncomputable def rU(g:Int->V):V->Hp->VK->Prop:=λx H Q=>∃i,x=.int i/\Q (g i) H
section
def Gk{X:Cx}{a b:Expr}{ta tb:TE}(r:PE X a ta)(q:PE X b tb){d:Yw}{s:KB}{O:St}{H:Hp}{R:V->V->Hp->Prop}(I:Inv X d O H s)(h:ta O H λx j=>tb O j λy e=>R x y e){Q:Yx}{f:PP->PP->Sem PP}(p:∀v u g x y e,Inv X d O e g->RelV x v->RelV y u->R x y e->Pi (KF X.prog X.w) X.A (f v u) Q X.xe g) :
  Pi (KF X.prog X.w) X.A (eval a X.env) (λv m=>Pi (KF X.prog X.w) X.A (eval b X.env) (λu l=>Pi (KF X.prog X.w) X.A (f v u) Q X.xe l) X.xe m) X.xe s:=by
 refine thn (r d s O H _ I h) λv s1 i=>?_;obtain⟨x,j,B,r1,o⟩:=i;refine thn (q d s1 O j _ B o) λu g i=>?_;obtain⟨y,e,z,r2,n⟩:=i;exact p v u g x y e z r1 r2 n
def HP(j:OpR X (binaryOp e) r)(m:PE X a ta)(l:PE X b tb):PE X (.BinOp a e b pos) (SJ r ta tb):=by
 intro d s O H Q I h;exact wpAny_BinOp (Gk m l I h λv u f x y o n i g q=>j d f O o x y v u Q n i g q)
def Io(g:UnR X (unaryOp e) r)(i:PE X a ta):PE X (.UnaryOp e a pos) (tUn r ta):=by
 intro d s O H Q I h;refine UnaryOp_ (thn (i d s O H _ I h) λv s1 j=>?_);obtain⟨x,m,l,r1,f⟩:=j;exact g d s1 O m x v Q l r1 f
def opI{X:Cx}{f:PP->PP->Sem PP}{C:Int->Int->Prop}{g:Int->Int->Int}(d:∀(i j:Int)(t u:Tok)(s:KB)(Q:Yx)(E:Yx),C i j->Q (.int (g i j) s.toks) { s with toks:=s.toks+1 }->Pi (KF X.prog X.w) X.A (f (.int i t) (.int j u)) Q E s) :
  OpR X f (rI C λi j=>.int (g i j)):=by
 intro e s O H x y v u Q I n m h;obtain⟨i,j,rfl,rfl,o,q⟩:=h;obtain⟨t,rfl⟩:=n;obtain⟨l,rfl⟩:=m;exact d i j t l s _ _ o ⟨.int (g i j),H,I.tok _,⟨_,rfl⟩,q⟩
def Iu{X:Cx}{f:PP->PP->Sem PP}{g:Int->Int->Int}(d:∀(i j:Int)(t u:Tok)(s:KB)(Q:Yx)(E:Yx),Q (.int (g i j) s.toks) { s with toks:=s.toks+1 }->Pi (KF X.prog X.w) X.A (f (.int i t) (.int j u)) Q E s) :
  OpR X f (Nm λi j=>.int (g i j)):=by
 intro e s O H x y v u Q I n m h;obtain⟨i,j,rfl,rfl,q⟩:=h;obtain⟨t,rfl⟩:=n;obtain⟨l,rfl⟩:=m;exact d i j t l s _ _ ⟨.int (g i j),H,I.tok _,⟨_,rfl⟩,q⟩
def Dr{X:Cx}{f:PP->PP->Sem PP}{g:Int->Int->Bool}(d:∀(i j:Int)(t u:Tok)(s:KB)(Q:Yx)(E:Yx),Q (.bool (g i j)) s->Pi (KF X.prog X.w) X.A (f (.int i t) (.int j u)) Q E s) :
  OpR X f (Nm λi j=>.bl (g i j)):=by
 intro e s O H x y v u Q I n m h;obtain⟨i,j,rfl,rfl,q⟩:=h;obtain⟨t,rfl⟩:=n;obtain⟨l,rfl⟩:=m;exact d i j t l s _ _ ⟨.bl (g i j),H,I,rfl,q⟩
noncomputable def Ih(i j:Int):Prop:=0<j/\j<1073741824
noncomputable def Dx(i j:Int):Prop:=(-(2 ^ 64)<i/\i<2 ^ 64)\/(-(2 ^ 64)<j/\j<2 ^ 64)
def Dx.ok{i j:Int}(h:Dx i j):IntMulOk i j:=by
 rcases h with⟨e,d⟩ | ⟨e,d⟩
 ·exact .of_left (intBits_le_64 e d)
 ·exact .of_right (intBits_le_64 e d)
def G7:OpR X (binaryOp .Add) (Nm λi j=>.int (i+j)):=Iu λ_ _ _ _ _ _ _ q=>add_int q
def GI:OpR X (binaryOp .Sub) (Nm λi j=>.int (i-j)):=Iu λ_ _ _ _ _ _ _ q=>sub_int q
def Gw:OpR X (binaryOp .Mult) (rI Dx λi j=>.int (i*j)):=opI λ_ _ _ _ _ _ _ d q=>mul_int q d.ok
def Cu:OpR X (binaryOp .FloorDiv) (rI Ih λi j=>.int (i/j)):=opI λi j _ _ _ _ _ d q=>by
 have f:=d.1;have e:=d.2;exact floordiv_int (by lia) (by rw[Int.fdiv_eq_ediv_of_nonneg i (by lia)];exact q) (.inl (PyProof.noPylong_small (by omega)))
def FL:OpR X (binaryOp .Mod) (rI (λ_ j=>0<j) λi j=>.int (i%j)):=opI λi j _ _ _ _ _ d q=>by
 exact mod_int' (by lia) (by rw[Int.fmod_eq_emod_of_nonneg i (by lia)];exact q)
def unI{X:Cx}{f:PP->Sem PP}{g:Int->Int}(d:∀(i:Int)(t:Tok)(s:KB)(Q:Yx)(E:Yx),Q (.int (g i) s.toks) { s with toks:=s.toks+1 }->Pi (KF X.prog X.w) X.A (f (.int i t)) Q E s) :
  UnR X f (rU λi=>.int (g i)):=by
 intro e s O H x v Q I j h;obtain⟨i,rfl,q⟩:=h;obtain⟨t,rfl⟩:=j;exact d i t s _ _ ⟨.int (g i),H,I.tok _,⟨_,rfl⟩,q⟩
def GV:UnR X (unaryOp .USub) (rU λi=>.int (-i)):=unI λ_ _ _ _ _ q=>neg_int q
end
section
def Gd(I:Inv X d O H s)(q:Q (.bl k) H)(e:k=f):EP X d O Q (.bool f) s:=by
 subst e;exact⟨.bl k,H,I,rfl,q⟩
def Iq:OpR X (UV .Lt) (Nm λi j=>.bl (decide (i<j))):=Dr λ_ _ _ _ _ _ _ q=>lt_int q
def Hm:OpR X (UV .LtE) (Nm λi j=>.bl (decide (i<=j))):=Dr λ_ _ _ _ _ _ _ q=>le_int q
def HZ:OpR X (UV .Gt) (Nm λi j=>.bl (decide (j<i))):=Dr λ_ _ _ _ _ _ _ q=>gt_int q
def Il:OpR X (UV .GtE) (Nm λi j=>.bl (decide (j<=i))):=Dr λ_ _ _ _ _ _ _ q=>ge_int q
def yj:OpR X (UV .Lt) (λx y H Q=>∃i j,x=.str i/\y=.str j/\Q (.bl (decide (i.cps.toList<j.cps.toList))) H):=by
 intro d s O H x y v u Q I f e h;obtain⟨i,j,rfl,rfl,q⟩:=h;obtain⟨t,rfl⟩:=f;obtain⟨g,rfl⟩:=e;exact lt_str (Gd I q L)
def OpR.or(h:OpR X f r)(j:OpR X f i):OpR X f (λx y H Q=>r x y H Q\/i x y H Q):=by
 intro d s O H x y v u Q I g e q;rcases q with q | q
 ·exact h d s O H x y v u Q I g e q
 ·exact j d s O H x y v u Q I g e q
def gF(b:Expr)(h:{`q1,d ≠ .In})(e:{`q1,d ≠ .NotIn}):behindInMarks d b=R:=by
 have e1:(d==CmpOp.In)=R:=by cases d<;>first | rfl | exact absurd L h
 have e2:(d==CmpOp.NotIn)=R:=by cases d<;>first | rfl | exact absurd L e
 cases b<;>simp[behindInMarks,e1,e2]
def Dz(j:OpR X (UV e) r)(n:PE X a ta)(m:PE X b tb)(l:behindInMarks e b=R):PE X (.Compare a [e] [b] pos) (SJ r ta tb):=by
 intro d s O H Q I h;exact wpAny_Compare1 (Gk n m I h λv u f x y p o i g q=>j d f O p x y v u Q o i g q) l
noncomputable def Bg(t:TE):TT:=λO H Q=>t O H λx d=>∃k,x=.bl k/\Q k d
def CC(n:OpR X (UV f) r)(q:PE X a ta)(p:PE X b tb)(o:behindInMarks f b=R):PT X (.Compare a [f] [b] pos) (Bg (SJ r ta tb)):=by
 intro d s O H Q I h;refine wpAny_isTrue_Compare1 (thn (q d s O H _ I h) λv s1 ⟨x,F,C,r1,m⟩=>thn (p d s1 O F _ C m) λu g ⟨y,E,B,r2,l⟩ =>
  thn (n d g O E x y v u _ B r1 r2 l) λc G w=>?_) o
 obtain⟨z,D,A,i,k,e,j⟩:=w;subst e;cases i;exact Y2 ⟨D,A,j⟩
noncomputable def AZ(r h:R2)(ta g f:TE):TE:=λO H Q=>ta O H λx l=>g O l λy j=>r x y j λz d=>∃k,z=.bl k ∧
 (if k=M then f O d λe i=>h y e i Q else Q (.bl R) d)
def Ac(P:OpR X (UV i) r)(Nb:OpR X (UV g) j)(ha:PE X a ta)(Z:PE X b tb)(U:PE X c tc)(S:{`q4,lastMarks [i,g] [b,c]=R}):PT X (.Compare a [i,g] [b,c] pos) (Bg (AZ r j ta tb tc)):=by
 intro f s O H Q I h;refine isTrue_chain (thn (ha f s O H _ I h) λv s1 ⟨x,H1,I1,r1,L⟩=>test_link (thn (Z f s1 O H1 _ I1 L) λu A ⟨y,H2,I2,r2,G⟩ =>
  thn (P f A O H2 x y v u _ I2 r1 r2 G) λd w h_=>?_)) S
 obtain⟨z,n,m,D,k,e,l⟩:=h_;subst e;cases D;refine Y2 ?_;cases k with
 |false =>
  obtain⟨k',e',N⟩:=l;cases e';exact ite_ff ⟨n,m,N⟩
 |true =>
  refine ite_tt (test_last (thn (U f w O n _ m l) λp q ⟨o,H4,I4,C,F⟩=>thn (Nb f q O H4 y o u p _ I4 r2 C F) λd' s5 ⟨z2,H5,I5,B,k2,e2,E⟩=>?_));subst e2;cases B;exact Y2 ⟨H5,I5,E⟩
def FS(K:Wy)(x:V)(H:Hp)(k:Bool):Prop :=
 match x with
 |.non=>k=R
 |.bl b=>k=b
 |.int i=>k=(i != 0)
 |.str y=>y.length<=KM/\k=((y.length:Int) != 0)
 |.byt y=>y.size<=KM/\k=((y.size:Int) != 0)
 |.ref p=>(∃d,JV K H p d/\k=!d.isEmpty)\/(∃d,KY K H p d/\k=!d.isEmpty)\/∃e,H p=Y (.dK e)/\k=!e.isEmpty
 |_=>False
def vF{κ:Type}{e:List (κ×V)}{d:List (κ×PP)}(r:KV e d):(!d.isEmpty)=!e.isEmpty:=by
 cases r<;>rfl
def oq(r:aW d e):(!e.toArray.isEmpty)=!d.isEmpty:=by
 cases r<;>simp
def qy:(KM:Nat)<2 ^ 63:=by rw[XW];decide
def Eu:Jo X (λx H Q=>∃k,FS X.K x H k/\Q k H):=by
 intro n s O H x v Q I f h;obtain⟨k,e,q⟩:=h;have D:=XW;cases x with
 |non =>
  cases f;subst e;exact truthy_none ⟨H,I,q⟩
 |bl b =>
  cases f;subst e;exact Y2 ⟨H,I,q⟩
 |int i =>
  obtain⟨t,rfl⟩:=f;subst e;exact PySem.P.truthy_int ⟨H,I,q⟩
 |str y =>
  obtain⟨t,rfl⟩:=f;obtain⟨B,d⟩:y.length<=KM/\k=((y.length:Int) != 0):=e;subst d;exact PySem.P.truthy_str (by lia) ⟨H,I.tok _,q⟩
 |byt y =>
  obtain⟨t,rfl⟩:=f;obtain⟨B,d⟩:y.size<=KM/\k=((y.size:Int) != 0):=e;subst d;exact PySem.W.truthy_bytes (by lia) ⟨H,I.tok _,q⟩
 |ref p =>
  cases f;have d:=e;rcases d with⟨z,g,d⟩ | ⟨z,g,d⟩ | ⟨u,g,d⟩
  ·subst d;obtain⟨A,r,l,o⟩:=I.list g;have hlen:=r.length;exact wpAny_truthy_list l.isList (by simp only[ZF];lia) ⟨H,I.tok _,by rw[oq r];exact q⟩
  ·subst d;obtain⟨A,r,l,o⟩:=I.tuple g;have hlen:=r.length;exact truthy_tuple l (by simp only[ZF];lia) ⟨H,I.tok _,by rw[oq r];exact q⟩
  ·subst d;obtain⟨o,C,j,r,m⟩:u.length<=KM/\(p==sysModules)=R/\∃j,KV u j/\s.heap.DictOf (ba X.prog X.w) p j:=I.xb p _ g;have hlen:=Wz r;exact wpAny_truthy_dict C m (by lia) ⟨H,I.tok _,by rw[vF r];exact q⟩
 |_=>exact(e).elim
def AO(g:PE X a ta)(he:∀whole,isTrue a X.env whole=(do let v ← whole;standAt a.pos;holding [v] (truthy v))) :
  PT X a (λO H Q=>ta O H λx e=>∃k,FS X.K x e k/\Q k e):=by
 intro d s O H Q I h;exact isTrue_plain (thn (g d s O H _ I h) λv s1 ⟨x,j,i,r1,f⟩=>Eu d s1 O j x v Q i r1 f) (he _)
def u4:OpR X (binaryOp .Add) (λx y H Q=>∃i j,x=.str i/\y=.str j/\i.length+j.length<=KM/\Q (.str (i++j)) H):=by
 intro d s O H x y v u Q I g f h;obtain⟨i,j,rfl,rfl,l,q⟩:=h;obtain⟨t,rfl⟩:=g;obtain⟨e,rfl⟩:=f;exact add_str (λe m=>⟨.str (i++j),H,I.tok _,⟨_,rfl⟩,q⟩) l
def vals1(r:aW [x] d):∃u,d=[u]/\RelV x u:=by
 cases r with
 |cons r1 r2=>cases r2;exact⟨_,rfl,r1⟩
def vals2(r:aW [x,y] e):∃u d,e=[u,d]/\RelV x u/\RelV y d:=by
 cases r with
 |cons r1 r2 =>
  cases r2 with
  |cons g f=>cases f;exact⟨_,_,rfl,r1,g⟩
def yd{X:Cx}(g:X.calm=M):dm X (.builtin "min") (λe H Q=>∃i j,e=[.int i,.int j]/\Q (.int (if j<i then j else i)) H):=by
 intro f s O H e m Q I r h;obtain⟨i,j,rfl,q⟩:=h;obtain⟨u,l,rfl,⟨t,rfl⟩,⟨o,rfl⟩⟩:=vals2 r;refine min_two_ints (I.ok.hd g) λp n k=>⟨_,H,I.kept k,?_,q⟩
 by_cases d:j<i
 ·rw[Zs d,Zs d];exact⟨_,rfl⟩
 ·rw[Zo d,Zo d];exact⟨_,rfl⟩
def HA(K:Wy)(x:V)(H:Hp)(n:Nat):Prop :=
 match x with
 |.str y=>y.length<=KM/\n=y.length
 |.byt y=>y.size<=KM/\n=y.size
 |.ref p=>(∃d,JV K H p d/\n=d.length)\/∃d,KY K H p d/\n=d.length
 |_=>False
def zr:dm X (.builtin "len") (λf H Q=>∃x n,f=[x]/\HA X.K x H n/\Q (.int n) H):=by
 intro m s O H f z Q I r h;obtain⟨x,n,rfl,e,q⟩:=h;obtain⟨u,rfl,g⟩:=vals1 r;have A:=XW;cases x with
 |str y =>
  obtain⟨t,rfl⟩:=g;obtain⟨w,d⟩:y.length<=KM/\n=y.length:=e;subst d;exact len_str (by lia) ⟨.int _,H,I.tok _,⟨_,rfl⟩,q⟩
 |byt y =>
  obtain⟨t,rfl⟩:=g;obtain⟨w,d⟩:y.size<=KM/\n=y.size:=e;subst d;exact PySem.W.len_bytes (by lia) ⟨.int _,H,I.tok _,⟨_,rfl⟩,q⟩
 |ref p =>
  cases g;have d:=e;rcases d with⟨f,l,d⟩ | ⟨f,l,d⟩
  ·subst d;obtain⟨o,i,j,v⟩:=I.list l;have hlen:=i.length;exact Calls.call_len_list j.isList (by simp only[ZF];lia) ⟨.int f.length,H,I.tok _,⟨_,by simp only[ZF];rw[hlen]⟩,q⟩
  ·subst d;obtain⟨o,i,j,v⟩:=I.tuple l;have hlen:=i.length;exact len_tuple j (by simp only[ZF];lia) ⟨.int f.length,H,I.tok _,⟨_,by simp only[ZF];rw[hlen]⟩,q⟩
 |_=>exact(e).elim
end
structure Ni(h:XAA)(x dx C:On)(mA:Wf):Prop where
 obj:h.get? x=some (PySem.W.instObj C dx)
 ns:h.Ns1 dx mA
 ne:dx≠x
def xK{h:XAA}(n:h.Ns1 g f):∃d,h.get? g=Y d/\∀name,PySem.W.lookIn name d=Y (f name):=by
 obtain⟨o,p,r,j,hd,m,_,l⟩:=n;refine⟨o,j,λname=>?_⟩;have e:=l name;unfold nsFind findBy at e;rw[← Array.find?_toList]at e;unfold PySem.W.lookIn;rw[hd];dsimp only;split
 ·rename_i y q;rw[q]at e;exact congrArg Y e
 ·rename_i q;rw[q]at e;have a:p.toList.any (·.refKey)=R:=by
   rw[List.any_eq_false];intro y i;obtain⟨z,t,b⟩:=m y (Array.mem_toList_iff.mp i);simp[DictEntry.refKey,b]
  rw[Zo (by rw[a];exact Zh)];exact congrArg Y e
def Ni.look(I:Ni h x d C b):∃a,PySem.W.InstAt h x (PySem.W.instObj C d) C (Y a)/\∀name,PySem.W.lookIn name a=Y (b name) :=
 let ⟨a,e,f⟩:=xK I.ns
 ⟨a,⟨I.obj,rfl,rfl,e⟩,f⟩
section
variable{K:Wy}
def get_map{s:KB}(X:K.In s.heap)(I:Ni s.heap x dx C mA)(i:PySem.W.plainGet K C name=M)(g:PySem.W.hasDictIn K C=M)(j:PySem.W.findIn K (.ref C) name=Y none)(d:mA name=Y v)(b:PySem.W.handedIn v=M)(h:Q v { s with toks:=s.toks+1 }) :
  Pi (KF prog w) A (getAttr (.ref x) name a) Q E s:=by
 obtain⟨l,J,e⟩:=I.look;exact PySem.W.get_value X J (VP i).1 (PySem.W.findObj_own g j L (by rw[e,d])) b h
def Bl{s:KB}(X:K.In s.heap)(I:Ni s.heap x dx C mA)(a:PySem.W.plainGet K C name=M)(j:PySem.W.findIn K (.ref C) name=Y (Y (.ref f)))(g:PySem.W.isFn K (.ref f)=M)(e:mA name=none)(h:Q (.ref f,[.ref x]) s) :
  Pi (KF prog w) A (getMethod (.ref x) name b) Q E s:=by
 obtain⟨d,J,i⟩:=I.look;exact PySem.W.method_fn X J (VP a).1 (VP a).2 j (beq_iff_eq.mp g) (by show (PySem.W.lookIn name d).map (·.isSome)=Y R;rw[i,e];rfl) h
def BX{s:KB}(X:K.In s.heap)(I:Ni s.heap x dx C mA)(p:PySem.W.findIn K (.ref C) "__setattr__" = Y (Y (.builtin "object.__setattr__")))(q:PySem.W.plainOver K C=M)(o:PySem.W.takerIn K C name=Y none)(r:PySem.W.hasDictIn K C=M)(hw:PySem.Within mA j)(d:j.length<=KM)(h:∀a,Ni a x dx C (λy=>if y=name then Y v else mA y)->Heap.SameBut dx s.heap a->Q () { s with heap:=a,toks:=s.toks+2 }) :
  Pi (KF prog w) A (setAttr (.ref x) name v) Q E s:=by
 obtain⟨F,J,H⟩:=I.look;refine PySem.W.set_plain X J p (PySem.W.osa_open X J q o λb=>?_);obtain⟨cd,u,D⟩:=PySem.W.any_some r;refine Zy (Zm (Zy (Zy (wpAny_loadPart I.obj (Zy (PySem.W.Looks.here (PySem.W.looks_clsIn X u) ?_))))));rw[D];refine Zm (Zy (Zm (Zy ?_)));refine wpAny_nsSet1 I.ns λa l m=>?_;refine L2.aq λL n=>?_;obtain⟨G,z,B,e,g,i⟩:=l.count (PySem.Within.cons name v hw);refine n ?_;refine Zy (wpAny_lookBehind e (by rw[g];exact pastItsLine_dict (ZS i (by rw[Zf];exact Ww d))) ?_);exact Zm (h _ ⟨(m.2 _ (Y0 I.ne)).trans I.obj,l,I.ne⟩ m)
def Bw{A:SC}{s:KB}{R:Result->KB->Prop}(X:K.In s.heap)(e:PySem.W.makesIn K C=M)(i:PySem.W.findIn K (.ref C) "__init__" = Y (Y (.ref f)))(j:PySem.W.typeIn K (.ref f)=Y (.type "function"))(h:codeAny (KF prog w) (A.under (.builtin "type.__call__" ⟨.ref C :: a,b⟩)) (.call (.ref f) ⟨.ref (s.heap.objs.size+1) :: a,b⟩) (PySem.W.InitBack (s.heap.objs.size+1) R)
   { s with heap:=(s.heap.push PySem.W.emptyDict).push (PySem.W.instObj C s.heap.objs.size) }) :
  codeAny (KF prog w) A (.call (.ref C) ⟨a,b⟩) R s:=by
 obtain⟨l,g,d,t,os⟩:=s;exact PySem.W.make_core (PySem.W.makes_of X e) (PySem.W.looks_findIn X i) (λself=>PySem.W.bind_fn X self j) (.inl L) h
end
noncomputable def ju(f:Str)(v:V):List (Str×V)->List (Str×V)
 |[]=>[(f,v)]
 | (g,x) :: r=>if g=f then (g,v) :: r else (g,x) :: ju f v r
theorem mH(f g:Str)(v:V):∀fs:List (Str×V),(ju f v fs).lookup g=if g=f then Y v else fs.lookup g
 |[]=>by
  show List.lookup g [(f,v)]=_;by_cases h:g=f
  ·simp only[List.lookup,(beq_iff_eq.mpr h),Zs h]
  ·simp only[List.lookup,(beq_eq_false_iff_ne.mpr h),Zo h]
 | (k,x) :: r=>by
  rw[show ju f v ((k,x) :: r)=(if k=f then (k,v) :: r else (k,x) :: ju f v r) from rfl];by_cases a:k=f
  ·rw[Zs a];by_cases h:g=k
   ·simp only[List.lookup,(beq_iff_eq.mpr h),Zs (h.trans a)]
   ·simp only[List.lookup,(beq_eq_false_iff_ne.mpr h),Zo (λe:g=f=>h (e.trans a.symm))]
  ·rw[Zo a];by_cases h:g=k
   ·simp only[List.lookup,(beq_iff_eq.mpr h),Zo (λe:g=f=>a (h.symm.trans e))]
   ·simp only[List.lookup,(beq_eq_false_iff_ne.mpr h)];exact(mH f g v r)
theorem lD(f:Str)(v:V):∀fs:List (Str×V),f∈(ju f v fs).map (·.1)/\∀g,g∈fs.map (·.1)->g∈(ju f v fs).map (·.1)
 |[]=>⟨by simp[ju],λg h=>by simp at h⟩
 | (k,x) :: r=>by
  obtain⟨d,b⟩:=lD f v r;rw[show ju f v ((k,x) :: r)=(if k=f then (k,v) :: r else (k,x) :: ju f v r) from rfl];by_cases a:k=f
  ·rw[Zs a];subst a;exact⟨by simp,λg h=>by simpa using h⟩
  ·rw[Zo a];refine⟨?_,λg h=>?_⟩
   ·rw[Zk];exact Zu _ d
   ·rw[Zk]at h ⊢;rcases Zg.mp h with e | e
    ·exact Zg.mpr (.inl e)
    ·exact Zu _ (b g e)
theorem mh(f:Str)(v:V):∀fs:List (Str×V),(ju f v fs).length<=fs.length+1
 |[]=>by simp[ju]
 | (k,x) :: r=>by
  rw[show ju f v ((k,x) :: r)=(if k=f then (k,v) :: r else (k,x) :: ju f v r) from rfl];by_cases a:k=f
  ·rw[Zs a,Zf,Zf];exact Za _ _
  ·rw[Zo a,Zf,Zf];exact Ww (mh f v r)
def ja.some_of{v:V}(r:ja (Y v) o):∃u,o=Y u/\RelV v u:=by
 cases o with
 |none=>exact(r).elim
 |some u=>exact⟨u,rfl,r⟩
def ja.none_of(r:ja J o):o=J:=by
 cases o with
 |none=>rfl
 |some u=>exact(r).elim
def xG(r:RelV v u):PySem.W.handedIn u=M:=by
 cases v with
 |non=>cases (r);rfl
 |bl b=>cases (r);rfl
 |int i=>obtain⟨t,e⟩:=(r);cases e;rfl
 |str x=>obtain⟨t,e⟩:=(r);cases e;rfl
 |byt b=>obtain⟨t,e⟩:=(r);cases e;rfl
 |flt b=>obtain⟨t,e⟩:=(r);cases e;rfl
 |ref a=>cases (r);rfl
 |ty n=>cases (r);rfl
section
variable{H:Hp}
def iH(g:KL P w H h)(e:H a=Y (.ins C dx fs)):∃b,Ni h a dx C b/\(∀f,ja (fs.lookup f) (b f))/\PySem.Within b (fs.map (·.1))/\fs.length<=1000/\H dx=Y (.own a):=by
 obtain⟨d,z,ne,i,b,n,r,q⟩:=(g a _ e)
 exact⟨b,⟨i,n,ne⟩,r,q,z,d⟩
end
structure Ln(K:Wy)(C:On):Prop where
 pg:PySem.W.plainGet K C Str.empty=true
 hd:PySem.W.hasDictIn K C=true
 po:PySem.W.plainOver K C=true
 sa:PySem.W.findIn K (.ref C) "__setattr__" = some (some (.builtin "object.__setattr__"))
def Ln.get{K:Wy}(c:Ln K C)(f:Str):PySem.W.plainGet K C f=M:=c.pg
def bq(K:Wy)(C:On)(f:Str):Prop:=PySem.W.findIn K (.ref C) f=Y J
def bq.SH{K:Wy}(n:bq K C f):PySem.W.takerIn K C f=Y J:=by
 unfold PySem.W.takerIn;rw[n];rfl
structure Meth(K:Wy)(C:On)(m:Str)(f:On):Prop where
 at_:PySem.W.findIn K (.ref C) m=some (some (.ref f))
 fn:PySem.W.isFn K (.ref f)=true
 kp:PySem.W.keepIn K (.ref f)=true
section
variable{H:Hp}
def uX(I:Inv X pins O H s)(e:H a=Y (.ins C dx fs))(c:Ln X.K C)(n:bq X.K C f)(l:fs.lookup f=Y v)(h:∀u d,Inv X pins O H d->RelV v u->Q u d):Pi (KF X.prog X.w) A (getAttr (.ref a) f b) Q E s:=by
 obtain⟨m,j,r,_,_,_⟩:=iH I.xb e;obtain⟨u,i,g⟩:=ja.some_of (v:=v) (by rw[← l];exact r f);exact get_map I.Lp j (c.get f) c.hd n i (xG g) (h u _ (I.tok _) g)
def oC(I:Inv X pins O H s)(e:H a=Y (.ins C dx fs))(c:Ln X.K C)(k:Meth X.K C m g)(l:fs.lookup m=J)(h:Q (.ref g,[.ref a]) s):Pi (KF X.prog X.w) A (getMethod (.ref a) m b) Q E s:=by
 obtain⟨i,d,r,_,_,_⟩:=iH I.xb e;exact Bl I.Lp d (c.get m) k.at_ k.fn (ja.none_of (by rw[← l];exact r m)) h
def uN(I:Inv X pins O H s)(e:H a=Y (.ins C dx fs))(c:Ln X.K C)(n:bq X.K C f)(F:fs.length<1000)(p:RelV y u)(h:∀l,Inv X pins O (upd H a (.ins C dx (ju f y fs))) l->Q () l):Pi (KF X.prog X.w) A (setAttr (.ref a) f u) Q E s:=by
 obtain⟨B,i,r,j,_,m⟩:=iH I.xb e;refine BX I.Lp i c.sa c.po n.SH c.hd j (by rw[Zw,XW];lia) λG d sb=>h _ ?_;refine I.write (x:=a) (e:=dx) (by rw[e];exact True.intro) (.inr m) (λb q hb z=>(sb.2 b hb).trans z) (let ⟨o,_,_,D,_⟩:=d.ns;⟨o,D⟩) ?_;refine⟨by rw[aM i.ne];exact m,?_,i.ne,d.obj,_,d.ns,λg=>?_,λg hg=>?_⟩
 ·have:=mh f y fs;lia
 ·rw[mH];by_cases q:g=f
  ·rw[Zs q,Zs q];exact p
  ·rw[Zo q,Zo q];exact r g
 ·by_cases q:g=f
  ·rw[q];exact(lD f y fs).1
  ·refine(lD f y fs).2 g (j g λz=>hg ?_);show (if g=f then Y u else B g)=J;rw[Zo q];exact z
def Inv.made(I:Inv X pins O H s):Inv X pins O (upd (upd H s.heap.objs.size (.own (s.heap.objs.size+1))) (s.heap.objs.size+1) (.ins C s.heap.objs.size []))
  { s with heap:=(s.heap.push PySem.W.emptyDict).push (PySem.W.instObj C s.heap.objs.size) }:=by
 have e1:(s.heap.push PySem.W.emptyDict).get? s.heap.objs.size=Y PySem.W.emptyDict:=ZM s.heap L;have g:=I.laid (o:=.own (s.heap.objs.size+1)) (t':=s.toks) (λb u q=>Zj _ q) (Zn _) ⟨_,e1⟩;refine g.laid (λb u q=>Zj _ q) (Wt (Xb _ _)) ?_;have ne:s.heap.objs.size≠s.heap.objs.size+1:=Ze (Ym _);refine⟨by rw[aM ne,aH],ZE _,ne,(by
  have:=ZM (s.heap.push PySem.W.emptyDict) (o:=PySem.W.instObj C s.heap.objs.size) L
  rwa [Xb]at this),λ_=>J,(Heap.Ns1.of_empty (⟨PySem.W.emptyDict,#[],_,e1,rfl,(λe he=>absurd he (by simp)),λ_=>rfl⟩)).at λo q=>Zj _ q,λ_=>True.intro,λy d=>absurd L d⟩
def CP{f:Str}{s:KB}(j:XAC e f d (eval e d)=eval e d)(h:Pi (KF b w) A (eval e d) (λo i=>Pi (KF b w) A (getAttr o f M) Q E i) E s):Pi (KF b w) A (eval (.Attribute e f g) d) Q E s :=
 Attribute_any_ h (by rw[arm_eval_Attribute,j])
end
def JG(K:Wy)(ta:TE)(f:Str):TE:=λO H Q=>ta O H λx b=>∃a C d fs v,x=.ref a/\b a=Y (.ins C d fs)/\Ln K C/\bq K C f/\fs.lookup f=Y v/\Q v b
def JH(K:Wy)(ta e:TE)(f:Str):TS:=λD O H=>e O H λy g=>ta O g λx d=>∃a C b fs,x=.ref a/\d a=Y (.ins C b fs)/\Ln K C/\bq K C f/\fs.length<1000 ∧
 D.nx O (upd d a (.ins C b (ju f y fs)))
section
def yW(he:PE X e ta)(i:XAC e f X.env (eval e X.env)=eval e X.env):PE X (.Attribute e f pos) (JG X.K ta f):=by
 intro b s O H Q I h;refine CP i (thn (he b s O H _ I h) λu s1 j=>?_);obtain⟨x,w,r,d,a,C,A,fs,v,ex,m,c,n,l,q⟩:=j;subst ex;obtain rfl:u=Value.ref a:=d;exact uX r m c n l λy z p g=>⟨v,w,p,g,q⟩
def Fx{pos:Pos}(r:PE X o ta)(m:PE X value tv)(p:swapsWith value (Y (.Attribute o f pos')) pos.line X.env=pure R):PS X (.Assign [.Attribute o f pos'] value pos) (JH X.K ta tv f):=by
 intro b s O H D I h;refine plainObj_wpAny_Assign_Attribute (thn (m b s O H _ I h) λu s1 ⟨y,E,B,d,q⟩=>thn (r b s1 O E _ B q) λj G v=>?_) p;obtain⟨x,N,A,g,a,C,L,fs,ex,w,c,n,l,i⟩:=v;subst ex;obtain rfl:j=Value.ref a:=g;exact uN A w c n l d λF z=>⟨O,_,z,i⟩
end
section
variable{H:Hp}
inductive Lb(K:Wy)(H:Hp):V->PP->Prop where
 |non:Lb K H .non (.type "NoneType")
 |bl (x:Bool):Lb K H (.bl x) (.type "bool")
 |int (i:Int):Lb K H (.int i) (.type "int")
 |str (x:Str):Lb K H (.str x) (.type "str")
 |flt (x:UInt64):Lb K H (.flt x) (.type "float")
 |lst {a:On} {xs:List V} (e:H a=some (.lst xs)):Lb K H (.ref a) (.type "list")
 |frz {a:On} {o:Obj} {xs:List V} (e:H a=some (.frz o (.lst xs))):Lb K H (.ref a) (.type "list")
 |tup {a:On} {xs:List V} (e:H a=some (.tup xs)):Lb K H (.ref a) (.type "tuple")
 |dK {a:On} {cp:List (Key×V)} (e:H a=some (.dK cp)):Lb K H (.ref a) (.type "dict")
 |dT {a:On} {cp:List (List Key×V)} (e:H a=some (.dT cp)):Lb K H (.ref a) (.type "dict")
 |ins {a C dx:On} {fs:List (Str×V)} (e:H a=some (.ins C dx fs)) (cl:Ln K C) (ha:PySem.W.findIn K (.ref C) "__class__" = some (some (.builtin "object.__class__")))
   (hn:PySem.W.specialIn K (.builtin "object.__class__") "__get__" = some (some (.builtin "getset_descriptor.__get__"))) (htk:PySem.W.takesIn K (.builtin "object.__class__")=some true)
   (hm:PySem.W.mroIn K C (.type "object")=some true):Lb K H (.ref a) (.ref C)
def xR(I:Inv X pins O H s)(d:RelV x u)(r:Lb X.K H x t)(e:PySem.W.kitOne X.K t c=Y b)(h:∀v,Q (.bool b) { s with toks:=v }) :
  Pi (KF X.prog X.w) A (call (.builtin "isinstance") [u,c]) Q E s:=by
 cases r with
 |non=>cases (d);exact YA PySem.W.kitx_none I.Lp True.intro e (λz=>nomatch z) h
 |bl y=>cases (d);exact YA PySem.W.kitx_bool I.Lp True.intro e (λz=>nomatch z) h
 |int i=>obtain⟨t,q⟩:=(d);cases q;exact YA PySem.W.kitx_int I.Lp True.intro e (λz=>nomatch z) h
 |str y=>obtain⟨t,q⟩:=(d);cases q;exact YA PySem.W.kitx_str I.Lp True.intro e (λz=>nomatch z) h
 |flt y=>obtain⟨t,q⟩:=(d);cases q;exact YA PySem.W.kitx_float I.Lp True.intro e (λz=>nomatch z) h
 |@lst a l f =>
  cases (d);obtain⟨_,_,n,_,g⟩:=(I.xb a _ f)
  exact YA PySem.W.kitx_list I.Lp ⟨_,g,rfl⟩ e (λz=>nomatch z) h
 |@frz a Z l f =>
  cases (d);obtain⟨_,_,_,n,_,g⟩:=(I.xb a _ f)
  exact YA PySem.W.kitx_list I.Lp ⟨_,g,rfl⟩ e (λz=>nomatch z) h
 |@tup a l f =>
  cases (d);obtain⟨_,_,_,_,p⟩:=(I.xb a _ f)
  obtain⟨o,g,j,_⟩:=p;exact YA PySem.W.kitx_tuple I.Lp ⟨o,g,j⟩ e (λz=>nomatch z) h
 |@dK a N f =>
  cases (d);obtain⟨_,_,S,_,p⟩:=(I.xb a _ f)
  obtain⟨o,G,L,g,j,_⟩:=p;exact YA PySem.W.kitx_dict I.Lp ⟨o,g,j.1⟩ e (λz=>nomatch z) h
 |@dT a N f =>
  cases (d);obtain⟨_,_,l,_,o,G,L,g,j,_⟩:=(I.xb a _ f)
  exact YA PySem.W.kitx_dict I.Lp ⟨o,g,j.1⟩ e (λz=>nomatch z) h
 |@ins a C dx fs f cl F B m D =>
  cases (d);obtain⟨mA,P,_⟩:=iH I.xb f;obtain⟨U,J,_⟩:=P.look;exact YA (PySem.W.kitx_own (cl.get _) cl.hd F B m D) I.Lp J e (λz=>nomatch z) h
end
structure p0(k:Nat)(A:SC):Prop where
 hd:A.handled=none
 dp:A.depth+3*k+5<recursionLimit
 un:A.units+16*k+200<cLine
def p0.mono{k:Nat}(r:p0 k A)(h:j<=k):p0 j A:=⟨r.hd,by have:=r.dp;lia,by have:=r.un;lia⟩
theorem p0.deeper(r:p0 (k+1) A)(a:Env):p0 k (A.deeper a) :=
 ⟨r.hd,by have:=r.dp;show A.depth+1+3*k+5<_;lia,by have:=r.un;show A.units+3+16*k+200<_;lia⟩
def uV{A:SC}:(A.under (.builtin "type.__call__" ⟨.ref C :: a,b⟩)).depth=A.depth+1:=by
 first | rfl | simp[Around.under,Code.weight,Code.isCreation,Code.isGuard,Code.isCaller,Code.frames,Code.isFrame,guardIds]
def uI{A:SC}:(A.under (.builtin "type.__call__" ⟨.ref C :: a,b⟩)).units=A.units+1:=by
 first | rfl | simp[Around.under,Code.cUnits,Code.frames,Code.isFrame]
def p0.make(r:p0 (k+1) A)(C:On)(a:Vq)(b:List (Str×PP)):p0 k (A.under (.builtin "type.__call__" ⟨.ref C :: a,b⟩)) :=
 ⟨r.hd,by have:=r.dp;rw[uV];lia,by have:=r.un;rw[uI];lia⟩
theorem p0.depth(r:p0 k A):A.depth<recursionLimit:=by have:=r.dp;lia
theorem p0.units(r:p0 k A):A.units+64<cLine:=by have:=r.un;lia
noncomputable def C6:TA:=λ_ H Q=>Q [] H
noncomputable def D3(ta:TE)(b:TA):TA:=λO H Q=>ta O H λx e=>b O e λa d=>Q (x :: a) d
section
def j6:PA X [] C6:=λ_ _ _ _ H Q I h=>Calls.spliced_nil ⟨[],H,I,.nil,h⟩
def fu(l:PE X e te)(j:PA X es t)(i:{`q2,K1 e es X}):PA X (e :: es) (D3 te t):=by
 intro pos a s O H Q I h;rw[i];refine Calls.spliced_cons (thn (l a s O H _ I h) λu s1 b=>?_);obtain⟨x,p,n,r1,g⟩:=b;refine thn (j pos a s1 O p _ n g) λq r b=>?_;obtain⟨d,o,m,r2,f⟩:=b;exact⟨x :: d,o,m,.cons r1 r2,f⟩
def JB(t:TA):TE:=λO H Q=>t O H λa b=>a.length<=KM/\∀p,b p=J->Q (.ref p) (upd b p (.tup a))
def Jg(t:TA):TE:=λO H Q=>t O H λa b=>a.length<=KM/\∀p,b p=J->Q (.ref p) (upd b p (.lst a))
def GL{x1}(h:PA X es t):PE X (.Tuple es x1 pos) (JB t):=by
 intro a s O H Q I i;refine wpAny_Tuple_spliced (thn (h pos a s O H _ I i) λg s1 ⟨f,j,d,r,z,q⟩=>⟨by rw[← r.length];exact z,?_⟩);refine⟨.ref s1.heap.objs.size,upd j s1.heap.objs.size (.tup f),d.laid (λb u e=>Zj _ e) (Zn _) ?_,rfl,q _ (d.xb.fresh (Zn _))⟩;exact⟨z,g,r,PH.of (ZM _ L) L,⟨_,ZM _ L,rfl,_,rfl⟩⟩
def FC(h:PA X es t):PE X (.List es pos) (Jg t):=by
 intro a s O H Q I i;refine wpAny_List_spliced (thn (h pos a s O H _ I i) λg s1 ⟨f,j,d,r,z,q⟩=>⟨by rw[← r.length];exact z,?_⟩);refine⟨.ref s1.heap.objs.size,upd j s1.heap.objs.size (.lst f),d.laid (λb u e=>Zj _ e) (Zn _) ?_,rfl,q _ (d.xb.fresh (Zn _))⟩;exact⟨z,g,0,r,ZM _ L⟩
end
abbrev Sp:=List V->Hp->VK->XK->Prop
abbrev NT:=List Env->Hp->KB->XK->Yx
structure Env0(P:SB)(w:XAB)(K:Wy)(mg:Wf)(base:XAA)(A:SC)(outer:List Env)(s:KB)(H:Hp):Prop where
 frames:A.frames=some outer
 mod:Mod K mg base
 tb:∀b q,Tb base b q->H b=some (.tbl q)
 bs:∀b o,base.get? b=some o->s.heap.get? b=some o/\H b=none
 Px:base.objs.size<=s.heap.objs.size
 Ls:s.heap.FunFrames base outer
 RA:∀b∈Lk outer,H b=none
 xb:KL P w H s.heap
 bare:AllBare s.gens
def CE(a:List Env)(P:SB)(w:XAB)(H:Hp)(s:KB)(Q:VK)(u:PP)(b:KB):Prop :=
 ∃v d,b.os=s.os/\AllBare b.gens/\Un (Lk a) [] H d s.heap b.heap/\KL P w d b.heap/\RelV v u/\Q v d
def CR(d:NT)(a:List Env)(P:SB)(w:XAB)(H:Hp)(s:KB)(Q:VK)(E:XK)(r:Result)(b:KB):Prop :=
 match r with
 |.ok (.ret u)=>CE a P w H s Q u b
 |.ok _=>False
 |.error e=>d a H s E e b
structure FnOk(P:SB)(w:XAB)(K:Wy)(mg:Wf)(base:XAA)(CX:NT)(k:Nat)(f:On)(fd:Re)(ps:List Str)(sp:Sp):Prop where
 len:∀vs H Q E,sp vs H Q E->vs.length=ps.length
 run:∀(A:SC)(outer:List Env)(s:KB)(H:Hp)(args:Args)(us:Vq)(vs:List V)(Q:VK)(E:XK),p0 k A->Env0 P w K mg base A outer s H->BindsTo s fd args (ps.zip us)->aW vs us->sp vs H Q E →
  codeAny (KF P w) A (.call (.ref f) args) (CR CX outer P w H s Q E) s
def FnOk.imp{K:Wy}(F:FnOk P w K i a l k f j g e)(h:∀b H Q E,d b H Q E->e b H Q E):FnOk P w K i a l k f j g d :=
 ⟨λb H Q E q=>F.len b H Q E (h _ _ _ _ q),λA outer s H args m b Q E p he hb n o=>F.run A outer s H args m b Q E p he hb n (h _ _ _ _ o)⟩
def Env0.make{K:Wy}(e:Env0 P w K d b A a s H)(C:On)(f:Vq)(g:List (Str×PP)) :
  Env0 P w K d b (A.under (.builtin "type.__call__" ⟨.ref C :: f,g⟩)) a s H:=⟨by first | exact e.frames | (simpa[Around.under,Code.envs,Code.isFrame,pushEnvs] using e.frames),e.mod,e.tb,e.bs,e.Px,e.Ls,e.RA,e.xb,e.bare⟩
section
variable{H:Hp}
def Inv.TK(I:Inv X pins O H s):Env0 X.prog X.w X.K X.mg X.base X.A X.stack s H :=
 ⟨I.ok.frames,I.ok.mod,I.tb,I.bs,ZS I.ok.Px I.sz,I.stack,I.Nk,I.xb,I.bare⟩
def Inv.after(I:Inv X pins O H s)(h:CE X.stack X.prog X.w H s Q u s'):EP X pins O Q u s':=by
 obtain⟨v,f,os,bare,un,xb,r,q⟩:=h;obtain⟨a,g,d,t,e⟩:=s';obtain rfl:e=s.os:=os;exact⟨v,f,I.call (h':=a) (g':=g) (d':=d) (t':=t) (ch:=[]) un xb bare (λb z=>absurd z (by simp)),r,q⟩
end
noncomputable def Eo(b:Sp)(d:List V)(E:XK)(t:TA):TE:=λO H Q=>t O H λa e=>b (a++d) e Q E
def wg(C:On)(m:Str)(e:Sp)(g:List V)(E:XK)(ta:TE)(t:TA):TE:=λO H Q=>ta O H λx b=>∃a f fs,x=.ref a/\b a=Y (.ins C f fs)/\fs.lookup m=J ∧
 t O b λd h=>e (x :: (d++g)) h Q E
def zv(C:On)(e:Sp)(f:List V)(E:XK)(t:TA):TE:=λO H Q=>t O H λd b=>∀x a,b x=J->b a=J->a≠x →
 e (.ref x :: (d++f)) (upd (upd b a (.own x)) x (.ins C a [])) (λv g=>v=.non/\Q (.ref x) g) E
def Binds(K:Wy)(d:Re)(b:List Str)(ds:Vq):Prop :=
 ∀(s:KB)(a:Vq),K.In s.heap->(a++ds).length=b.length->BindsTo s d ⟨a,[]⟩ (b.zip (a++ds))
def Binds.all{K:Wy}{b:List Str}(h:∀a:Vq,a.length=b.length->bindArgs e ⟨a,[]⟩=pure (b.zip a)):Binds K e b []:=λs a _ d=>by
 rw[ZL]at d ⊢;exact .of_eq (h a d)
def jy(d:NT)(X:Cx)(E:XK):Prop:=∀(a:Yw)(O:St)(H:Hp)(s:KB)(e:PP)(b:KB),Inv X a O H s->d X.stack H s E e b->X.xe e b
section
def uL{X:Cx}{vs:List V}(F:FnOk X.prog X.w X.K X.mg X.base CX k f fd ps sp)(j:p0 k X.A)(n:Binds X.K fd ps ds)(l:aW LK ds)(i:jy CX X E)(I:Inv X a O H s)(r:aW vs b)(h:sp (vs++LK) H Q E):Pi (KF X.prog X.w) X.A (call (.ref f) b) (EP X a O Q) X.xe s:=by
 have r2:=r.append l;refine wpAny_call (Vt (F.run X.A X.stack s H ⟨b,[]⟩ (b++ds) (vs++LK) Q E j I.TK (n s b I.Lp (by rw[← r2.length];exact F.len _ _ _ _ h)) r2 h) λr g d=>?_);cases r with
 |error e=>exact i a O H s e g I d
 |ok q =>
  cases q with
  |ret u=>exact I.after d
  |next=>exact False.elim d
  |brk=>exact False.elim d
  |cont=>exact False.elim d
def Dg{X:Cx}(F:FnOk X.prog X.w X.K X.mg X.base CX k f fd ps sp)(i:p0 k X.A)(n:Gl X x)(j:X.mg x=Y (.ref f))(l:PySem.W.keepIn X.K (.ref f)=M)(v:Binds X.K fd ps ds)(u:aW LK ds)(g:jy CX X E)(y:PA X (e :: es) t)(z:{`q1,K3 x})(he:{`q2,K1 e es X})(b:{`q2,K2 pos es X}) :
  PE X (.Call (.Name x p) (e :: es) [] pos) (Eo sp LK E t):=by
 intro a s O H Q I h;refine X2 (nj I n j ?_ z);refine VL I.ok.mod.Ta l (thn (y pos a s O H _ I h) λD s1 ⟨B,G,d,r,q⟩=>⟨d.Lp,?_⟩) he b;exact uL F i v u g d r q
def rC(he:PE X o ta)(c:Ln X.K C)(i:Meth X.K C m f)(F:FnOk X.prog X.w X.K X.mg X.base CX k f fd ps sp)(D:p0 k X.A)(N:Binds X.K fd ps ds)(G:aW LK ds)(z:jy CX X E)(P:PA X (e :: es) t)(Z:{`q2,K1 e es X})(d:{`q2,K2 pos es X})(B:{`q2,eval (.Call (.Attribute o m apos) (e :: es) [] pos) X.env=(do
   let g ← eval o X.env
   standAt apos.atName
   let (f,first) ← holding [g] (getMethod g m pl)
   callWith pos f first (backTo pos (P3 (e :: es) X.env)) (backToKw pos (SZ [] X.env)))}) :
  PE X (.Call (.Attribute o m apos) (e :: es) [] pos) (wg C m sp LK E ta t):=by
 intro b s O H Q I h;refine PySem.W.methodCall_KW (pl:=pl) (thn (he b s O H _ I h) λu s1 S=>?_) B;obtain⟨x,H1,n,v,a,dx,fs,ex,U,l,q⟩:=S;subst ex;obtain rfl:u=Value.ref a:=v;refine oC n U c i l ?_;refine VL I.ok.mod.Ta i.kp (thn (P pos b s1 O H1 _ n q) λus s2 ⟨vs,H2,j,r,y⟩=>⟨j.Lp,?_⟩) Z d;exact uL (vs:=.ref a :: vs) F D N G z j (.cons L r) y
def tF(he:PE X o ta)(c:Ln X.K C)(i:Meth X.K C m f)(F:FnOk X.prog X.w X.K X.mg X.base CX k f fd ps sp)(v:p0 k X.A)(z:Binds X.K fd ps ds)(y:aW LK ds)(n:jy CX X E)(r:{`q2,eval (.Call (.Attribute o m apos) [] [] pos) X.env=(do
   let g ← eval o X.env
   standAt apos.atName
   let (f,first) ← holding [g] (getMethod g m pl)
   callWith pos f first (backTo pos (P3 [] X.env)) (backToKw pos (SZ [] X.env)))}) :
  PE X (.Call (.Attribute o m apos) [] [] pos) (wg C m sp LK E ta C6):=by
 intro b s O H Q I h;refine PySem.W.methodCall_KW (pl:=pl) (thn (he b s O H _ I h) λu s1 B=>?_) r;obtain⟨x,N,d,j,a,G,fs,ex,D,l,q⟩:=B;subst ex;obtain rfl:u=Value.ref a:=j;refine oC d D c i l ?_;exact PySem.W.callWith_K0 d.Lp i.kp (uL (vs:=[.ref a]) F v z y n d (.cons L .nil) q)
structure Mk(K:Wy)(C f:On):Prop where
 makes:PySem.W.makesIn K C=true
 init:PySem.W.findIn K (.ref C) "__init__" = some (some (.ref f))
 fn:PySem.W.isFn K (.ref f)=true
 kp:PySem.W.keepIn K (.ref C)=true
def rR{X:Cx}{us:Vq}(M:Mk X.K C f)(F:FnOk X.prog X.w X.K X.mg X.base CX k f fd ps sp)(z:p0 (k+1) X.A)(D:Binds X.K fd ps ds)(B:aW LK ds)(y:jy CX X E)(I:Inv X a O H s)(r:aW i us)(h:∀x d,H x=J->H d=J->d≠x->sp (.ref x :: (i++LK)) (upd (upd H d (.own x)) x (.ins C d [])) (λv P=>v=.non/\Q (.ref x) P) E) :
  Pi (KF X.prog X.w) X.A (call (.ref C) us) (EP X a O Q) X.xe s:=by
 have j:=h (s.heap.objs.size+1) s.heap.objs.size (I.xb.fresh (WZ _)) (I.xb.fresh (Zn _)) (Ze (Ym _));have g:=Inv.made (C:=C) I;have r2:aW (V.ref (s.heap.objs.size+1) :: (i++LK)) (Value.ref (s.heap.objs.size+1) :: (us++ds)):=.cons L (r.append B);refine wpAny_call (Bw (f:=f) I.Lp M.makes M.init (beq_iff_eq.mp M.fn) (Vt (F.run _ X.stack _ _ ⟨Value.ref (s.heap.objs.size+1) :: us,[]⟩ (Value.ref (s.heap.objs.size+1) :: (us++ds)) _ _ E (z.make C us [])
  (g.TK.make C us []) (D _ (Value.ref (s.heap.objs.size+1) :: us) g.Lp (by
  have e:=r2.length;rw[F.len _ _ _ _ j]at e;exact e.symm)) r2 j) λr l b=>?_))
 cases r with
 |error e=>exact y a O _ _ e l g b
 |ok G =>
  cases G with
  |ret u =>
   obtain⟨v,S,N,n,ev,q⟩:=g.after b;subst ev;exact⟨n,⟨V.ref (s.heap.objs.size+1),S,N,rfl,q⟩⟩
  |next=>exact False.elim b
  |brk=>exact False.elim b
  |cont=>exact False.elim b
def DW{X:Cx}(M:Mk X.K C f)(F:FnOk X.prog X.w X.K X.mg X.base CX k f fd ps sp)(i:p0 (k+1) X.A)(l:Gl X x)(j:X.mg x=Y (.ref C))(u:Binds X.K fd ps ds)(n:aW LK ds)(g:jy CX X E)(v:PA X (e :: es) t)(y:{`q1,K3 x})(he:{`q2,K1 e es X})(b:{`q2,K2 pos es X}) :
  PE X (.Call (.Name x p) (e :: es) [] pos) (zv C sp LK E t):=by
 intro a s O H Q I h;refine X2 (nj I l j ?_ y);refine VL I.ok.mod.Ta M.kp (thn (v pos a s O H _ I h) λB s1 ⟨z,D,d,r,q⟩=>⟨d.Lp,?_⟩) he b;exact rR M F i u n g d r q
def AB{X:Cx}(M:Mk X.K C f)(F:FnOk X.prog X.w X.K X.mg X.base CX k f fd ps sp)(d:p0 (k+1) X.A)(i:Gl X x)(g:X.mg x=Y (.ref C))(l:Binds X.K fd ps ds)(j:aW LK ds)(b:jy CX X E)(n:{`q1,K3 x}):PE X (.Call (.Name x p) [] [] pos) (zv C sp LK E C6):=by
 intro a s O H Q I h;refine X2 (nj I i g ?_ n);exact PySem.W.callWith_K0 I.Lp M.kp (rR (us:=[]) M F d l j b I .nil h)
end
def PK(X:Cx)(b:List Keyword)(t:TA):Prop :=
 ∀(pos:Pos)(a:Yw)(s:KB)(O:St)(H:Hp)(Q:List V->Hp->Prop),Inv X a O H s->t O H Q->Pi (KF X.prog X.w) X.A (evalAll ((backToKw pos (SZ b X.env)).map (·.2))) (AP X a O Q) X.xe s
section
def FG:PK X [] C6:=λ_ _ _ _ H Q I h=>wpAny_evalAll_nil ⟨[],H,I,.nil,h⟩
def B0(j:PE X e te)(i:PK X UK t):PK X (⟨nm,e,kpos⟩ :: UK) (D3 te t):=by
 intro pos a s O H Q I h;refine wpAny_evalAll_cons (Zy (thn (j a s O H _ I h) λu s1 ⟨x,r,n,r1,g⟩=>Zy (wpAny_standAt (Zm ?_))));exact thn (i pos a s1 O r _ n g) λv w ⟨b,q,l,r2,d⟩=>⟨x :: b,q,l,.cons r1 r2,d⟩
end
structure bt(N P:List Str)(sc:Scope):Prop where
 kind:sc.kind=.function
 co:sc.isCoroutine=false
 gen:sc.isGenerator=false
 nd:N.Nodup
 pre:N.take P.length=P
 par:∀x∈P,sc.names.lookup x=some .local\/sc.names.lookup x=some .cell
 QW:∀y∈sc.names,y.2 ≠ .free
theorem pD:∀{binds:List (Str×PP)}{m:Wf},(∀v,(x,v)∉binds)->bindL a binds m x=m x
 |[],_,_=>rfl
 | (n,v) :: r,m,h=>by
  unfold bindL;rw[pD λw hw=>h w (Zu _ hw)];split
  ·have:x≠n:=by rintro rfl;exact h v Zv
   simp[this]
  ·rfl
theorem qb:∀{binds:List (Str×PP)}{m:Wf},(∀v,(x,v)∉binds)->bindC a binds m x=m x
 |[],_,_=>rfl
 | (n,v) :: r,m,h=>by
  unfold bindC;rw[qb λw hw=>h w (Zu _ hw)];split
  ·rfl
  ·have:x≠n:=by rintro rfl;exact h v Zv
   simp[this]
theorem pO:∀{P:List Str}{b:Vq}{i:Nat}{m:Wf},P.Nodup->P[i]?=Y x->b[i]?=Y v->a x=Y .local →
  bindL a (P.zip b) m x=Y v
 |[],_,_,_,_,h,_,_=>by simp at h
 |_ :: _,[],_,_,_,_,h,_=>by simp at h
 |p :: P,w :: b,0,m,nd,e,d,f=>by
  simp at e d;subst e;subst d;show bindL a ((p,w) :: P.zip b) m p=_;unfold bindL;rw[pD λv g=>(ZW.mp nd).1 (List.of_mem_zip g).1,Zs f];simp
 |p :: P,w :: b,i+1,m,nd,e,d,f=>by
  unfold bindL;exact pO (i:=i) (ZW.mp nd).2 (by simpa using e) (by simpa using d) f
theorem pU:∀{P:List Str}{b:Vq}{i:Nat}{m:Wf},P.Nodup->P[i]?=Y x->b[i]?=Y v->a x≠Y .local →
  bindC a (P.zip b) m x=Y v
 |[],_,_,_,_,h,_,_=>by simp at h
 |_ :: _,[],_,_,_,_,h,_=>by simp at h
 |p :: P,w :: b,0,m,nd,e,d,f=>by
  simp at e d;subst e;subst d;show bindC a ((p,w) :: P.zip b) m p=_;unfold bindC;rw[qb λv g=>(ZW.mp nd).1 (List.of_mem_zip g).1,Zo f];simp
 |p :: P,w :: b,i+1,m,nd,e,d,f=>by
  unfold bindC;exact pU (i:=i) (ZW.mp nd).2 (by simpa using e) (by simpa using d) f
noncomputable def start(N:List Str)(a:List V):St:=a.map Y++List.replicate (N.length-a.length) J
def j7(j:NT)(P:SB)(w:XAB)(K:Wy)(m:Wf)(h:XAA)(N:List Str)(d:Str)(a:Scope)(f:On)(g:PP)(A:SC)(b:List Env)(s:KB)(H:Hp)(E:XK):Cx where
 prog:=P
 w:=w
 K:=K
 mg:=m
 base:=h
 A:=A.deeper (envOfC d a s.heap.objs.size f g)
 N:=N
 s₀:=s
 H₀:=H
 env:=envOfC d a s.heap.objs.size f g
 outer:=b
 stack:=envOfC d a s.heap.objs.size f g :: b
 ex:=[]
 calm:=M
 fn:=λ_=>M
 pn:=[]
 xe:=λe l=>Pi (KF P w) (A.deeper (envOfC d a s.heap.objs.size f g)) (leaving (envOfC d a s.heap.objs.size f g) e) (λ_ i=>j b H s E e i) (λn i=>j b H s E n i) l
def sG{a:Scope}(h:a.names.lookup x=Y .cell):∃c,(cellsFrom n a.names []).lookup x=Y c:=by
 exact YC.mp (PySem.W.cellsFrom_some a.names n [] (.inl h))
def yt{K:Wy}{A:SC}{C:List V}(S:bt N o d)(hd:A.handled=J)(m:Env0 P w K X n A g s H)(hl:C.length=o.length)(r:aW C U)(x:InCallC s s.heap.objs.size (bindL (envOfC j d s.heap.objs.size f Q).kindOf (o.zip U) λ_=>J) (cellsFrom (s.heap.objs.size+1) d.names []) (bindC (envOfC j d s.heap.objs.size f Q).kindOf (o.zip U) λ_=>J) s1) :
  Inv (j7 CX P w K X n N j d f Q A g s H E) [] (start N C) H s1:=by
 have hpl:o.length<=N.length:=by have:=congrArg List.length S.pre;rw[LX]at this;lia
 obtain⟨O,tk,rfl,hk⟩:=x.done;have Z:∀b:On,b∉(j7 CX P w K X n N j d f Q A g s H E).ex:=λb z=>absurd (show b∈([]) from z) (by simp);refine⟨⟨m.mod,S.kind,rfl,rfl,Zn _,λy z c O l=>?_,λy B=>?_,λy c _ h=>?_,λ_=>hd,Around.frames_deeper m.frames,.inr ⟨rfl,rfl⟩,λb z=>absurd z (Z b),m.tb,m.bs,m.Px,λb _ _=>Z b,λb z=>absurd z (Z b),m.Ls,m.RA⟩,
  rfl,m.bare,Un.kept hk,⟨_,x.toInCall.ns,λi y v O l h3=>?_⟩,λy c h=>⟨_,x.cell y c h⟩,m.xb.fresh (Zn _),λy c h=>?_,λp F=>absurd (show p∈([]) from F) (by simp),m.xb.kept hk,?_⟩
 ·exact name_of_addr x.apart (Wq O) (Wq l)
 ·have B:=B;rcases B with B | B
  ·exact sG B
  ·exact absurd L (S.QW _ (Wq B))
 ·exact ZO (x.above y c (Wq h))
 ·have G:i<C.length:=by
   unfold start at l;by_cases G:i<C.length
   ·exact G
   ·rw[Yn (by simpa using G)]at l;rw[Y5]at l;split at l<;>cases l
  obtain⟨u,hu,rv⟩:=r.get (by
   unfold start at l;rw[Yr (by simpa using G),ZG]at l;cases e:C[i]? with
   |none=>rw[e]at l;cases l
   |some a=>rw[e]at l;cases l;rfl)
  have F:o[i]?=Y y:=by
   rw[← S.pre,List.getElem?_take_of_lt (by lia)];exact O
  have D:o.Nodup:=by rw[← S.pre];exact S.nd.sublist (List.take_sublist _ _)
  refine⟨u,rv,?_⟩;rcases S.par y (YZ F) with k | k
  ·exact .inl ⟨k,pO D F hu k⟩
  ·obtain⟨c,e⟩:=sG k;refine .inr ⟨.inl k,c,e,?_⟩;have q:=x.cell y c e;rw[pU D F hu (by show d.names.lookup y≠_;rw[k];decide)]at q;exact q
 ·exact m.xb.fresh (ZO (x.above y c (Wq h)))
 ·unfold start;show _=N.length;rw[Zx,Zw,Xv];lia
def Ed{CX:NT}{P:SB}{w:XAB}{K:Wy}{X:Wf}{i:XAA}{k:Nat}{f:On}{l d:Str}{g:Arguments}{h:List Stmt}{a:Scope}{dV kV C pm y ct oc:PP}{an od:Option On}{MU:Array (V6)}{N U:List Str}{F:Sp}(lk:K.lookup f=Y ⟨oc,od,.func (PySem.W.fnOf l d g h a dV kV C pm an y ct),MU⟩)(hcd:PySem.W.codeIn K y d=M)(S:bt N U a)(z:∀j H Q E,F j H Q E->j.length=U.length)(MM:∀(A:SC)(outer:List Env)(s:KB)(H:Hp)(j:List V)(Q:VK)(E:XK),p0 k (A.deeper (envOfC d a s.heap.objs.size f y))->F j H Q E →
   ∃t,LN (j7 CX P w K X i N d a f y A outer s H E) h t/\t { nx:=λ_ m=>Q .non m,rt:=Q } (start N j) H) :
  FnOk P w K X i CX (k+1) f (PySem.W.fnOf l d g h a dV kV C pm an y ct) U F:=by
 refine⟨z,λA outer s H args us j Q E Z B hb r OT=>?_⟩;have hl:=z _ _ _ _ OT;have KX:=B.mod.Ta.keeps λb o e=>(B.bs b o e).1;refine codeAny_call_function Z.depth (KX _ _ lk) L S.co S.gen L (PySem.W.codeRec_of KX hcd) (hb _ _ _ _ ?_);refine wpAny_newFunctionEnv_cells S.kind (λ⟨n,v⟩ hy=>by
  rcases S.par n (List.of_mem_zip hy).1 with q | q
  ·exact .inl q
  ·exact .inr ⟨q,PySem.W.cellsFrom_some _ _ _ (.inl q)⟩) λenv he s1 x=>?_
 subst he;refine⟨(B.mod.nolimit.keeps λb o e=>(B.bs b o e).1).keeps x.toInCall.keep,codeAny_func ?_⟩;obtain⟨t,ht,hq⟩:=MM A outer s H j Q E (Z.deeper _) OT;refine Xy (ht [] s1 (start N j) H _ (yt S Z.hd B hl r x) hq) (λfl G p=>?_) λe G p=>p;have fin:∀{D:St}{m:Hp}{v:V}{u:PP},Inv (j7 CX P w K X i N d a f y A outer s H E) [] D m G->RelV v u->Q v m->CE outer P w H s Q u G :=
  λ{D m v u} J O q=>⟨v,m,J.os,J.bare,J.base,J.xb,O,q⟩
 cases fl with
 |ret u =>
  obtain⟨v,D,m,J,O,q⟩:=p;exact fin J O q
 |next =>
  obtain⟨D,m,J,q⟩:=p;exact fin (v:=V.non) J L q
 |brk =>
  obtain⟨_,_,_,q⟩:=p;exact False.elim q
 |cont =>
  obtain⟨_,_,_,q⟩:=p;exact False.elim q
section
noncomputable def tCB(r:List V->Hp->VK->Prop)(t:TA):TE:=λO H Q=>t O H λa b=>r a b Q
def n9{X:Cx}{x:Str}{p pos:Pos}{es:List Expr}{t:TA}{id:String}{r:List V->Hp->VK->Prop}(n:dm X (.builtin id) r)(m:Gl X x)(l:X.mg x=J)(i:bootBuiltins x=Y (.builtin id))(o:PA X (e :: es) t)(j:{`q1,x ≠ "__name__"})(q:{`q1,K3 x})(he:{`q2,K1 e es X})(b:{`q2,K2 pos es X}):PE X (.Call (.Name x p) (e :: es) [] pos) (tCB r t):=by
 intro a s O H Q I h;refine X2 (jX I m l i ?_ j q);exact PyProof.Rows.callWith_builtin1 (thn (o pos a s O H _ I h) λf s1 ⟨d,v,u,r1,g⟩=>n a s1 O v d f Q u r1 g) he b
def pR(n:dm X (.type T) r)(m:Gl X x)(l:X.mg x=J)(i:bootBuiltins x=Y (.type T))(o:PA X (e :: es) t)(j:{`q1,x ≠ "__name__"})(q:{`q1,K3 x})(he:{`q2,K1 e es X})(b:{`q2,K2 pos es X}):PE X (.Call (.Name x p) (e :: es) [] pos) (tCB r t):=by
 intro a s O H Q I h;refine X2 (jX I m l i ?_ j q);exact XC (thn (o pos a s O H _ I h) λf s1 ⟨d,v,u,r1,g⟩=>n a s1 O v d f Q u r1 g) he b
end
end L2
namespace HT
open PySem PyProof.Rows
section
noncomputable def Ku(n d:Nat):Option Int->Nat
 |none=>d
 |some v=>if v<0 then (v+(n:Int)).toNat else min v.toNat n
end
end HT
namespace L2
open PySem PySem.Spec PyProof.Rows
abbrev TO:=St->Hp->(Option Int->Hp->Prop)->Prop
def PO(X:Cx)(e:Option Expr)(t:TO):Prop :=
 ∀(a:Yw)(s:KB)(O:St)(H:Hp)(Q:Option Int->Hp->Prop),Inv X a O H s->t O H Q →
  Pi (KF X.prog X.w) X.A (evalPart e X.env) (λu d=>∃o b,Inv X a O b d/\IsPart u o/\Q o b) X.xe s
noncomputable def DG:TO:=λ_ H Q=>Q J H
noncomputable def HE(t:TE):TO:=λO H Q=>t O H λx a=>∃i,x=.int i/\Q (Y i) a
section
variable{lo:Option Expr}
def B9:PO X J DG:=by
 intro a s O H Q I h;rw[evalPart_none];exact Zm ⟨J,H,I,.none,h⟩
def Do(h:PE X e te):PO X (Y e) (HE te):=by
 intro a s O H Q I hw;rw[evalPart_some];refine thn (h a s O H _ I hw) λu s1 d=>?_;obtain⟨x,g,f,r1,b⟩:=d;obtain⟨i,rfl,q⟩:=b;obtain⟨t,rfl⟩:=r1;exact⟨Y i,g,f,.int i t,q⟩
def QH(X:Cx)(r:V->Option Int->Option Int->Hp->VK->Prop):Prop :=
 ∀(a:Yw)(s:KB)(O:St)(H:Hp)(x:V)(v d b:PP)(lo hi:Option Int)(f:On)(Q:VK),Inv X a O H s->RelV x v->s.heap.IsSliceOf f d b .none->IsPart d lo->IsPart b hi->r x lo hi H Q →
  ∃T id,typeLookup (.type T) "__getitem__" = pure (Y (.builtin id))/\s.TypeIs v T/\Pi (KF X.prog X.w) X.A (getItem v (.ref f)) (EP X a O Q) X.xe s
def QH.or(h:QH X r)(m:QH X i):QH X (λx lo hi H Q=>r x lo hi H Q\/i x lo hi H Q):=by
 intro a s O H x v d b lo hi f Q I g l j pu q;rcases q with q | q
 ·exact h a s O H x v d b lo hi f Q I g l j pu q
 ·exact m a s O H x v d b lo hi f Q I g l j pu q
noncomputable def tSl(r:V->Option Int->Option Int->Hp->VK->Prop)(d:TE)(a b:TO):TE:=λO H Q=>d O H λx h=>a O h λl g=>b O g λu f=>r x l u f Q
def AJ(z:QH X r)(he:PE X e te)(A:PO X lo tl)(w:PO X hi th):PE X (.Subscript e (.Slice lo hi J p2) pos) (tSl r te tl th):=by
 intro a s O H Q I h;refine Subscript_ (thn (he a s O H _ I h) λv s1 f=>?_);obtain⟨x,G,D,r1,o⟩:=f;refine wpAny_Slice (thn (A a s1 O G _ D o) λi j ⟨l,F,C,p,n⟩=>thn (w a j O F _ C n) λg d f=>?_);obtain⟨u,E,B,pu,m⟩:=f;rw[evalPart_none];refine Zm ?_;obtain⟨T,id,hT,y,hg⟩:=z a { d with heap:=d.heap.push { cls:=.type "slice",data:=.fields #[i,g,.none] } } O E x v i g l u d.heap.objs.size Q (B.kept (t':=d.toks) λb L q=>Zj _ q) r1 (Heap.IsSliceOf.new ..) p pu m;exact tail_any y hT hg (by with_unfolding_all rfl)
def yZ(a:List V)(b d:Option Int):List V:=(a.drop (HT.Ku a.length 0 b)).take (HT.Ku a.length a.length d-HT.Ku a.length 0 b)
def si(a:List V)(b d:Option Int):(yZ a b d).length<=a.length:=by
 unfold yZ;rw[LX,Yl];lia
end
noncomputable def Rf(n:Nat)(i:Int):Option Nat:=if 0<=i then (if i<n then Y i.toNat else J) else if -(n:Int)<=i then Y (i+n).toNat else J
def RL{α:Type}(a:List α)(i:Int):Option α:=(Rf a.length i).bind λj=>a[j]?
def vT{i:Int}(h:Rf n i=Y j):seqIndex? i n=Y j/\j<n/\-(n:Int)<=i/\i<n:=by
 unfold Rf at h;by_cases b:0<=i
 ·rw[Zs b]at h;by_cases a:i<n
  ·rw[Zs a]at h;exact⟨by rw[seqIndex_of b a,(Zl h)],by lia,by lia,a⟩
  ·rw[Zo a]at h;cases h
 ·rw[Zo b]at h;by_cases a:-(n:Int)<=i
  ·rw[Zs a]at h;exact⟨by rw[seqIndex_neg (by lia) a,(Zl h)],by lia,a,by lia⟩
  ·rw[Zo a]at h;cases h
def rG{α:Type}{a:List α}{i:Int}{v:α}(h:RL a i=Y v):∃j,seqIndex? i a.length=Y j/\a[j]?=Y v/\j<a.length/\-(a.length:Int)<=i/\i<a.length:=by
 unfold RL at h;cases e:Rf a.length i with
 |none=>rw[e]at h;cases h
 |some j =>
  rw[e]at h;obtain⟨g,f,d,b⟩:=vT e;exact⟨j,g,h,f,d,b⟩
noncomputable def jI(b:Expr):Prop:=∀o i,subscripted b R o i=operate [o,i] (getItem o i)
def NQ(X:Cx)(r:R2):Prop :=
 ∀(value slice:Expr)(a:Yw)(s:KB)(O:St)(H:Hp)(x y:V)(v u:PP)(Q:VK),Inv X a O H s->RelV x v->RelV y u->r x y H Q →
  subscripted slice R v u=operate [v,u] (getItem v u)->Pi (KF X.prog X.w) X.A (subscriptTail value slice v u) (EP X a O Q) X.xe s
def MtR(X:Cx)(e:String)(r:V->List V->Hp->VK->Prop):Prop :=
 ∀(a:Yw)(s:KB)(O:St)(H:Hp)(x:V)(b:List V)(v:PP)(d:Vq)(Q:VK),Inv X a O H s->RelV x v->aW b d->r x b H Q →
  Pi (KF X.prog X.w) X.A (call (.builtin e) (v :: d)) (EP X a O Q) X.xe s
section
def NQ.or(h:NQ X r)(j:NQ X g):NQ X (λx y H Q=>r x y H Q\/g x y H Q):=by
 intro value slice d s O H x y v u Q I f e q i;rcases q with q | q
 ·exact h value slice d s O H x y v u Q I f e q i
 ·exact j value slice d s O H x y v u Q I f e q i
def tD(j:NQ X r)(m:PE X a ta)(l:PE X b tb)(i:jI b):PE X (.Subscript a b pos) (SJ r ta tb):=by
 intro d s O H Q I h;exact Subscript_ (Gk m l I h λv u e x y o n g f q=>j a b d e O o x y v u Q n g f q (i _ _))
def HS(K:Wy):R2:=λx y H Q=>∃p d i v,x=.ref p/\y=.int i/\JV K H p d/\RL d i=Y v/\Q v H
def HF(K:Wy):R2:=λx y H Q=>∃p d i v,x=.ref p/\y=.int i/\KY K H p d/\RL d i=Y v/\Q v H
def Ho:R2:=λx y H Q=>∃z i c,x=.str z/\y=.int i/\z.length<=KM/\RL z.cps.toList i=Y c/\Q (.str ⟨#[c]⟩) H
def wq:NQ X (HS X.K):=by
 intro value slice d s O H x y v u Q I A o h l;refine L2.aq λP_ C=>?_;obtain⟨p,P,i,z,rfl,rfl,D,he,q⟩:=h;cases A;obtain⟨t,rfl⟩:=o;obtain⟨B,r,f,S⟩:=I.list D;obtain⟨j,e,L,Z,G,F⟩:=rG he;obtain⟨w,n,N⟩:=r.get L;refine C ?_;have E:=r.length;have U:=qy;have fin:EP X d O Q w s:=⟨z,H,I,N,q⟩
 by_cases m:0<=i
 ·have g:i.toNat=j:=by
   rw[seqIndex_of m F]at e;exact Zl e
  exact item_listR f.isList m (by lia) (by rw[g];simpa using n) fin l
 ·have g:(i+(B.toArray.size:Int)).toNat=j:=by
   rw[seqIndex_neg (by lia) G]at e;rw[ZF,← E];exact Zl e
  exact subscriptTail_builtinR (x:=w) f.isList.typeIs slot_list_getitem.lookup
   (wpAny_getItem_list_neg f.isList (by lia) (by rw[ZF]<;>lia) (by lia) (by rw[g];simpa using n) ⟨rfl,fin⟩) l
def FW:NQ X (HF X.K):=by
 intro value slice e s O H x y v u Q I g f h m;refine L2.aq λS l=>?_;obtain⟨p,D,i,z,rfl,rfl,n,he,q⟩:=h;cases g;obtain⟨t,rfl⟩:=f;obtain⟨E,r,d,F⟩:=I.tuple n;obtain⟨j,A,o,P,N,L⟩:=rG he;obtain⟨w,B,C⟩:=r.get o;refine l ?_;have G:=qy;exact subscriptTail_builtinR (x:=w) d.typeIs slot_tuple_getitem.lookup
  (getItem_tuple (j:=j) d (by lia) (by lia) (by rw[ZF,← r.length];exact A) (by simpa using B) ⟨rfl,(⟨z,H,I,C,q⟩)⟩) m
def G3:NQ X Ho:=by
 intro value slice d s O H x y v u Q I g f h l;obtain⟨z,i,c,rfl,rfl,w,he,q⟩:=h;obtain⟨t,rfl⟩:=g;obtain⟨r,rfl⟩:=f;obtain⟨j,e,p,B,o,n⟩:=rG he;have m:z.cps.toList.length=z.length:=by simp[Str.length]
 rw[m]at e o n;have A:=qy;exact tail_any (typeIs_str s z t) slot_str_getitem.lookup (getItem_str (c:=c) (by
  rw[(ZZ (by lia)),(ZZ (by lia)),Bool.or_false]) (by rw[e];simpa using p) ⟨.str ⟨#[c]⟩,H,I.tok _,⟨_,rfl⟩,q⟩) l
def rIx(K:Wy):R2:=λx y H Q=>HS K x y H Q\/HF K x y H Q\/Ho x y H Q
def qC:NQ X (rIx X.K):=wq.or (FW.or G3)
def ve(d:Vq)(n j:Nat)(u:PP):Obj.mapSeq (·.setIfInBounds j u) { cls:=.type "list",data:=.seq d.toArray n }={ cls:=.type "list",data:=.seq (d.set j u).toArray n }:=by
 simp[Obj.mapSeq]
theorem Inv.lst{H:Hp}(I:Inv X d O H s)(h:H p=Y (.lst g)) :
  ∃(f:Vq)(n:Nat),aW g f/\s.heap.get? p=Y { cls:=.type "list",data:=.seq f.toArray n }/\g.length<=sizeLine:=by
 obtain⟨z,f,n,r,e⟩:=I.xb p _ h;exact⟨f,n,r,e,z⟩
def Inv.Ra{l g:Vq}(I:Inv X d O H s)(h:H p=Y (.lst o))(w:s.heap.get? p=Y { cls:=.type "list",data:=.seq l.toArray n })(m:f { cls:=.type "list",data:=.seq l.toArray n }={ cls:=.type "list",data:=.seq g.toArray j })(r:aW i g)(v:i.length<=KM)(t:Nat) :
  Inv X d O (upd H p (.lst i)) { s with heap:=s.heap.update p f,toks:=t }:=by
 have e:(s.heap.update p f).get? p=Y { cls:=.type "list",data:=.seq g.toArray j }:=by
  rw[Wr f w (by rw[m]<;>rfl),m]
 refine I.write (x:=p) (e:=p) (by rw[h];trivial) (.inl L) (λb u hb q=>(Xi _ _ (Y0 hb)).trans q) ⟨_,e⟩ ?_;exact⟨v,g,j,r,e⟩
def Ep:V->V->V->Hp->(Hp->Prop)->Prop:=λo i v H Q=>∃p d k j,o=.ref p/\i=.int k/\H p=Y (.lst d)/\Rf d.length k=Y j/\Q (upd H p (.lst (d.set j v)))
def set_list:G5 X Ep:=by
 intro l s O H o i v N iv u Q I C D B h;refine L2.aq λU E=>?_;obtain⟨p,L,k,j,rfl,rfl,w,G,q⟩:=h;cases C;obtain⟨t,rfl⟩:=D;obtain⟨m,n,r,e,F⟩:=I.lst w;obtain⟨d,S,y,x⟩:=vT G;refine E ?_;have f:=r.length;have P:=qy;have A :=
  I.Ra w e (ve m n j u) (r.set B j) (by rw[Ya];exact F) s.toks
 by_cases z:0<=k
 ·have g:k.toNat=j:=by
   rw[seqIndex_of z x]at d;exact Zl d
  exact PySem.W.ki_setAt e z (by lia) (by rw[ZF,← f];exact x) (by rw[g];exact⟨_,A,q⟩)
 ·have g:(k+(m.toArray.size:Int)).toNat=j:=by
   rw[seqIndex_neg (by lia) y]at d;rw[ZF,← f];exact Zl d
  exact PySem.W.ki_setBack e (by lia) (by rw[ZF,← f];exact y) (by lia) (by rw[g];exact⟨_,A,q⟩)
def Oj(a:Int)(n:Nat):max 0 (min a (n:Int))=((min a.toNat n:Nat):Int):=by
 cases a with
 |ofNat k =>
  show max 0 (min (k:Int) (n:Int))=((min k n:Nat):Int);rcases Nat.le_total k n with h | h
  ·rw[Int.min_eq_left (Int.ofNat_le.mpr h),Yi h];exact Int.max_eq_right (W9 _)
  ·rw[Int.min_eq_right (Int.ofNat_le.mpr h),Wv h];exact Int.max_eq_right (W9 _)
 |negSucc k =>
  rw[Int.min_eq_left (Int.le_trans (Int.le_of_lt (Int.negSucc_lt_zero k)) (W9 n)),Int.max_eq_left (Int.le_of_lt (Int.negSucc_lt_zero k))];show (0:Int)=((min 0 n:Nat):Int);rw[Nat.zero_min];rfl
def qY(d e:Option Int)(n:Nat):(sliceBounds d e J n).1=((HT.Ku n 0 d:Nat):Int)/\(sliceBounds d e J n).2.1=((HT.Ku n n e:Nat):Int)/\(sliceBounds d e J n).2.2=1:=by
 refine⟨?_,?_,rfl⟩
 ·cases d with
  |none=>simp[sliceBounds,HT.Ku]
  |some i =>
   simp only[sliceBounds,HT.Ku,Option.getD_none,show (1:Int) > 0 by decide,if_true];by_cases h:i<0
   ·simp only[h,if_true];rw[Oj,Yi (by omega)]
   ·simp only[h,if_false];exact Oj i n
 ·cases e with
  |none=>simp[sliceBounds,HT.Ku]
  |some i =>
   simp only[sliceBounds,HT.Ku,Option.getD_none,show (1:Int) > 0 by decide,if_true];by_cases h:i<0
   ·simp only[h,if_true];rw[Oj,Yi (by omega)]
   ·simp only[h,if_false];exact Oj i n
def pq(d:Vq)(e f:Option Int):slicePick d.toArray e f J=((d.drop (HT.Ku d.length 0 e)).take (HT.Ku d.length d.length f-HT.Ku d.length 0 e)).toArray:=by
 obtain⟨i,h,g⟩:=qY e f d.toArray.size;unfold slicePick;rw[i,h,g];simp only[sliceRange_one,pick_run,ZF]<;>rfl
def HK(K:Wy):V->Option Int->Option Int->Hp->VK->Prop:=λx lo e H Q=>∃a d,x=.ref a/\JV K H a d/\∀p,H p=J->Q (.ref p) (upd H p (.lst (yZ d lo e)))
def Cf:QH X (HK X.K):=by
 intro e s O H x v p o lo g u Q I i n j pu h;obtain⟨a,d,rfl,m,q⟩:=h;cases i;obtain⟨w,r,f,l⟩:=I.list m;have hlen:=r.length;refine⟨"list",_,slot_list_getitem.lookup,f.isList.typeIs,?_⟩;refine wpAny_getItem_list_slice f.isList n j pu .none (by simp) ?_ (by rw[ZF]<;>lia);rw[pq,← hlen];refine⟨.ref s.heap.objs.size,_,I.laid (λb y q=>Zj _ q) (Zn _) ?_,rfl,q _ (I.xb.fresh (Zn _))⟩;exact⟨ZS (si d lo g) l,_,0,(r.drop (HT.Ku d.length 0 lo)).take (HT.Ku d.length d.length g-HT.Ku d.length 0 lo),ZM _ L⟩
noncomputable def gP:V->Bool
 |.non=>M
 |.bl _=>M
 |.int _=>M
 |.str _=>M
 |_=>R
noncomputable def OZ:V->V->Bool
 |.non,.non=>M
 |.bl a,.bl b=>a==b
 |.bl a,.int b=>(if a then 1 else 0)==b
 |.int a,.bl b=>a==(if b then 1 else 0)
 |.int a,.int b=>a==b
 |.str a,.str b=>a==b
 |_,_=>R
def Gh(f:RelV y u)(d:RelV x v)(h:gP y=M)(g:gP x=M):SeqAt.EqAt A s u v (OZ y x):=by
 cases y with
 |non =>
  cases f;cases x with
  |non=>cases d;exact SeqAt.EqAt.same _
  |bl b=>cases d;exact SeqAt.EqAt.none_bool b
  |int b=>obtain⟨t,rfl⟩:=d;exact SeqAt.EqAt.none_int b t
  |str b=>obtain⟨t,rfl⟩:=d;exact SeqAt.EqAt.none_str b t
  |_=>exact absurd (g) Zh
 |bl a =>
  cases f;cases x with
  |non=>cases d;exact SeqAt.EqAt.bool_none a
  |bl b=>cases d;exact SeqAt.EqAt.bool_bool a b
  |int b=>obtain⟨t,rfl⟩:=d;exact SeqAt.EqAt.bool_int a b t
  |str b=>obtain⟨t,rfl⟩:=d;exact SeqAt.EqAt.bool_str a b t
  |_=>exact absurd (g) Zh
 |int a =>
  obtain⟨e,rfl⟩:=f;cases x with
  |non=>cases d;exact SeqAt.EqAt.int_none a e
  |bl b=>cases d;exact SeqAt.EqAt.int_bool a e b
  |int b=>obtain⟨t,rfl⟩:=d;exact SeqAt.EqAt.int_int a e b t
  |str b=>obtain⟨t,rfl⟩:=d;exact SeqAt.EqAt.int_str a e b t
  |_=>exact absurd (g) Zh
 |str a =>
  obtain⟨e,rfl⟩:=f;cases x with
  |non=>cases d;exact SeqAt.EqAt.str_none a e
  |bl b=>cases d;exact SeqAt.EqAt.str_bool a e b
  |int b=>obtain⟨t,rfl⟩:=d;exact SeqAt.EqAt.str_int a e b t
  |str b=>obtain⟨t,rfl⟩:=d;exact SeqAt.EqAt.str_str a e b t
  |_=>exact absurd (g) Zh
 |_=>exact absurd (h) Zh
def Nf(x:V)(u:PP):Bool:=match u with
 |.none=>OZ .non x
 |.bool b=>OZ (.bl b) x
 |.int i _=>OZ (.int i) x
 |.str z _=>OZ (.str z) x
 |_=>R
def AS(r:RelV y u)(f:gP y=M):Nf x u=OZ y x:=by
 cases y with
 |non=>cases r;rfl
 |bl b=>cases r;rfl
 |int i=>obtain⟨t,rfl⟩:=r;rfl
 |str z=>obtain⟨t,rfl⟩:=r;rfl
 |_=>exact absurd (f) Zh
theorem kz:∀{d:List V}{e:Vq},aW d e->d.all gP=M->e.any (Nf x)=d.any λy=>OZ y x
 |_,_,.nil,_=>rfl
 |y :: d,u :: e,.cons r t,f=>by
  rw[Wj,YT]at f;rw[YN,YN,AS r f.1,kz t f.2]
theorem jm(h:RelV x v)(i:gP x=M):∀{e:List V}{g:Vq},aW e g->e.all gP=M->∀u∈g,SeqAt.EqAt A s u v (Nf x u)
 |_,_,.nil,_=>λu d=>by cases d
 |y :: e,u :: g,.cons r t,f=>λj d=>by
  rw[Wj,YT]at f;rcases Zg.mp d with rfl | d
  ·rw[AS r f.1];exact Gh r h f.1 i
  ·exact jm h i t f.2 j d
def Th(x:V)(d:List V):Bool:=d.any λy=>OZ y x
def Uk(K:Wy)(e:Bool):R2:=λx y H Q=>∃p d,y=.ref p/\(JV K H p d\/KY K H p d)/\gP x=M/\d.all gP=M/\Q (.bl (if e then !Th x d else Th x d)) H
def yD:OpR X (UV .In) (Uk X.K R):=by
 intro i s O H x y v u Q I g l h;obtain⟨p,n,rfl,e,j,fs,q⟩:=h;cases l;rcases e with e | e
 ·obtain⟨d,r,f,m⟩:=I.list e;refine SeqAt.in_listAt (Nf x) f.isList (λw hw=>jm g j r fs w (by simpa using hw)) ⟨.bl _,H,I,rfl,?_⟩;rw[show d.toArray.any (Nf x)=d.any (Nf x) by simp,kz r fs];exact q
 ·obtain⟨d,r,f,m⟩:=I.tuple e;refine SeqAt.in_tupleAt (Nf x) f (λw hw=>jm g j r fs w (by simpa using hw)) ⟨.bl _,H,I,rfl,?_⟩;rw[show d.toArray.any (Nf x)=d.any (Nf x) by simp,kz r fs];exact q
def qo:OpR X (UV .NotIn) (Uk X.K M):=by
 intro i s O H x y v u Q I g l h;obtain⟨p,n,rfl,e,j,fs,q⟩:=h;cases l;rcases e with e | e
 ·obtain⟨d,r,f,m⟩:=I.list e;refine SeqAt.notIn_listAt (Nf x) f.isList (λw hw=>jm g j r fs w (by simpa using hw)) ⟨.bl _,H,I,rfl,?_⟩;rw[show d.toArray.any (Nf x)=d.any (Nf x) by simp,kz r fs];exact q
 ·obtain⟨d,r,f,m⟩:=I.tuple e;refine SeqAt.notIn_tupleAt (Nf x) f (λw hw=>jm g j r fs w (by simpa using hw)) ⟨.bl _,H,I,rfl,?_⟩;rw[show d.toArray.any (Nf x)=d.any (Nf x) by simp,kz r fs];exact q
def dm.or(h:dm X f r)(l:dm X f j):dm X f (λe H Q=>r e H Q\/j e H Q):=by
 intro d s O H e g Q I i q;rcases q with q | q
 ·exact h d s O H e g Q I i q
 ·exact l d s O H e g Q I i q
def qE:dm X (.type "list") (λB H Q=>∃p g,B=[.ref p]/\(JV X.K H p g\/KY X.K H p g)/\∀l,H l=J->Q (.ref l) (upd H l (.lst g))):=by
 intro m s O H B E Q I r h;obtain⟨p,g,rfl,x,q⟩:=h;obtain⟨u,rfl,D⟩:=vals1 r;cases D;have fin:∀(f:Vq),aW g f->g.length<=KM->∀(d:XAA)(j:Nat),(∀b C,s.heap.get? b=Y C->d.get? b=Y C) →
   d.get? s.heap.objs.size=Y { cls:=.type "list",dict:=J,data:=.seq f.toArray j,slots:=#[] }->EP X m O Q (.ref s.heap.objs.size) { s with heap:=d }:=λf i v d j kp e =>
  ⟨.ref s.heap.objs.size,_,I.laid kp (Zn _) (show dE X.prog X.w _ d _ (.lst g) from⟨v,f,j,i,e⟩),rfl,q _ (I.xb.fresh (Zn _))⟩
 rcases x with x | x
 ·obtain⟨f,i,y,v⟩:=I.list x;have hlen:=i.length;obtain⟨o,z,A,n,hd⟩:=y.isList;exact call_list_seq p (.inl L) z A hd (λd j kp e=>fin f i v d j kp e) (by simp only[ZF]<;>lia)
 ·obtain⟨f,i,y,v⟩:=I.tuple x;have hlen:=i.length;obtain⟨o,z,A,n,hd⟩:=y;exact call_list_seq p (.inr L) z A hd (λd j kp e=>fin f i v d j kp e) (by simp only[ZF]<;>lia)
def o5:dm X (.type "tuple") (λj H Q=>∃p d,j=[.ref p]/\((JV X.K H p d/\∀l,H l=J->Q (.ref l) (upd H l (.tup d)))\/(KY X.K H p d/\Q (.ref p) H))):=by
 intro m s O H j A Q I r h;obtain⟨p,d,rfl,h⟩:=h;obtain⟨u,rfl,y⟩:=vals1 r;cases y;rcases h with⟨i,q⟩ | ⟨i,q⟩
 ·obtain⟨n,f,g,v⟩:=I.list i;have hlen:=f.length;refine call_tuple_list g.isList (λz kp=>?_) (by simp only[ZF]<;>lia);have x:=I.kept (t':=s.toks) kp;exact⟨.ref z.objs.size,_,(x.laid (t':=s.toks) (λb o e=>Zj _ e) (Zn _) (show dE X.prog X.w _ _ _ (.tup d) from⟨v,n,f,PH.new _ _,IsTup.new _ _⟩)),rfl,q _ (x.xb.fresh (Zn _))⟩
 ·obtain⟨n,f,g,v⟩:=I.tuple i;exact call_tuple_same g ⟨.ref p,H,I,rfl,q⟩
def RP(K:Wy)(T:String)(x:V)(H:Hp):Prop:=match x with
 |.str _=>T = "str"
 |.int _=>T = "int"
 |.ref p=>(T = "list" ∧ ∃e,JV K H p e)\/(T = "tuple" ∧ ∃o,K.lookup p=Y o/\o.cls=.type "tuple" ∧ o.dict=J) ∨
   (T = "dict" ∧ ((∃d,H p=Y (.dK d))\/∃d,H p=Y (.dT d)))\/(T = "set" ∧ ∃S n,H p=Y (.set S n))
 |_=>False
def Gb(I:Inv X f O H s)(r:RelV x v)(g:RP X.K T x H) :
  s.TypeIs v T/\∀a,v=.ref a->∃j,s.heap.get? a=Y j/\j.dict=J:=by
 cases x with
 |str z =>
  obtain⟨t,rfl⟩:=r;cases (g);exact⟨typeIs_str s z t,λ_ e=>nomatch e⟩
 |int i =>
  obtain⟨t,rfl⟩:=r;cases (g);exact⟨typeIs_int s i t,λ_ e=>nomatch e⟩
 |ref p =>
  cases r;rcases g with⟨rfl,u,l⟩ | ⟨rfl,o,d,m,hd⟩ | ⟨rfl,d⟩ | ⟨rfl,S,n,d⟩
  ·obtain⟨w,_,h,_⟩:=I.list l;refine⟨h.isList.typeIs,λa e=>?_⟩;cases e;obtain⟨o,n,e,c,hd,_⟩:=h;exact⟨o,e,hd⟩
  ·refine⟨⟨o,I.Lp p o d,m⟩,λa e=>?_⟩;cases e;exact⟨o,I.Lp _ o d,hd⟩
  ·have z:∃o,s.heap.get? p=Y o/\o.ExactDict:=by
    rcases d with⟨q,d⟩ | ⟨q,d⟩
    ·obtain⟨_,_,_,_,o,_,_,e,ex,_⟩:=I.xb p _ d;exact⟨o,e,ex⟩
    ·obtain⟨_,_,_,_,o,_,_,e,ex,_⟩:=I.xb p _ d;exact⟨o,e,ex⟩
   obtain⟨o,e,ex⟩:=z;refine⟨⟨o,e,ex.1⟩,λa e2=>?_⟩;cases e2;exact⟨o,e,ex.2.1⟩
  ·obtain⟨o,_,_,_,e,ex,_⟩:=I.xb p _ d;refine⟨⟨o,e,ex.1⟩,λa e2=>?_⟩;cases e2;exact⟨o,e,ex.2.1⟩
 |_=>exact False.elim g
def tBM(K:Wy)(T:String)(r:V->List V->Hp->VK->Prop)(f:TE)(t:TA):TE:=λO H Q=>f O H λx d=>RP K T x d/\t O d λe g=>r x e g Q
def wB{X:Cx}{o:Expr}{es:List Expr}{to:TE}{t:TA}{name:Str}{apos pe:Pos}{T id:String}{r:V->List V->Hp->VK->Prop}(u:PlainAttrs T)(f:Slot T name id)(D:typeOf (.builtin id)=pure (.type "method_descriptor"))(z:MtR X id r)(y:PE X o to)(A:PA X (e :: es) t)(E:{`q2,XAC o name X.env (eval o X.env)=eval o X.env})(N:{`q2,((backTo pe (P3 (e :: es) X.env)).all (λx=>!x.1)&&(backToKw pe (SZ [] X.env)).all (λx=>x.1.isSome)
   && decide ((e :: es).length+([]:List Keyword).length+(if ([]:List Keyword).isEmpty then 0 else 1)<30))=M})(F:{`q2,(apos.endLine==pe.line)=M})(w:{`q2,K1 e es X})(G:{`q2,K2 pe es X}) :
  PE X (.Call (.Attribute o name apos) (e :: es) [] pe) (tBM X.K T r to t):=by
 intro d s O H Q I h;refine wpAny_Call_method_late E N F L (thn (y d s O H _ I h) λv s1 g=>?_);obtain⟨x,U,j,r1,ty,q⟩:=g;obtain⟨C,B⟩:=Gb j r1 ty;refine⟨T,id,u,f,D,C,B,?_⟩;have i:=A pe d s1 O U _ j q;rw[w]at i ⊢;refine Calls.callWith_builtin (by show (R||(backTo pe (P3 es X.env)).any (·.1))=R;rw[G]<;>rfl) (Calls.evalArgs_plain ?_);refine thn i λm n g=>?_;obtain⟨l,S,P,r2,p⟩:=g;exact z d n O S x l v m Q P r1 r2 p
end
def MtM(X:Cx)(e:String)(r:V->List V->Hp->VK->Prop):Prop :=
 ∀(a:Yw)(s:KB)(O:St)(H:Hp)(x:V)(b:List V)(v:PP)(d:Vq)(Q:VK),Inv X a O H s->RelV x v->aW b d->r x b H Q →
  Pi (KF X.prog X.w) X.A (call (.builtin e) (v :: d)) (EP X a O Q) X.xe s
def aW.nil_inv(h:aW [] a):a=[]:=by
 cases h;rfl
def aW.cons_inv(h:aW (x :: a) d):∃u b,d=u :: b/\RelV x u/\aW a b:=by
 cases h with
 |cons r t=>exact⟨_,_,rfl,r,t⟩
def aW.one(h:aW [x] a):∃u,a=[u]/\RelV x u:=by
 obtain⟨u,b,rfl,r,t⟩:=h.cons_inv;rw[t.nil_inv];exact⟨_,rfl,r⟩
section
variable{H:Hp}
def Inv.lset{d a:Vq}(I:Inv X pins O H s)(o:H l=Y (.lst xs))(e:s.heap.get? l=Y { cls:=.type "list",data:=.seq d.toArray n })(m:f d.toArray=a.toArray)(i:aW ys a)(h:ys.length<=KM) :
  Inv X pins O (upd H l (.lst ys)) { s with heap:=s.heap.update l (Obj.mapSeq f),toks:=g }:=by
 have q:=PySem.IsL.update e f;rw[m]at q;refine I.write (x:=l) (e:=l) (by rw[o];exact trivial) (.inl L) (λp u hb j=>(Xi s.heap (Obj.mapSeq f) (Y0 hb)).trans j) ⟨_,q⟩ ?_;exact⟨h,a,_,i,q⟩
def Inv.lnew(I:Inv X pins O H s)(f:aW ys a)(e:ys.length<=KM) :
  Inv X pins O (upd H s.heap.objs.size (.lst ys)) { s with heap:=s.heap.push { cls:=.type "list",data:=.seq a.toArray },toks:=d } :=
 I.laid (λ_ _ q=>Zj _ q) (Zn _) ⟨e,a,0,f,ZM _ L⟩
theorem Inv.fresh(I:Inv X pins O H s):H s.heap.objs.size=J:=I.xb.fresh (Zn _)
def Inv.Rb(I:Inv X pins O H s)(d:H l=Y (.lst xs)):xs.length<=KM/\∃(a:Vq)(n:Nat),aW xs a/\xs.length=a.length/\s.heap.get? l=Y { cls:=.type "list",data:=.seq a.toArray n }:=by
 obtain⟨z,a,n,r,e⟩:=I.xb l _ d;exact⟨z,a,n,r,r.length,e⟩
end
section
def vJ:V->List V->Hp->VK->Prop:=λx b H Q=>∃l a y,x=.ref l/\b=[y]/\H l=Y (.lst a)/\a.length<KM/\Q .non (upd H l (.lst (a++[y])))
def ip:MtM X "list.append" vJ:=by
 intro a s O H x p v w Q I d f h;refine L2.aq λB j=>?_;obtain⟨l,o,y,rfl,rfl,b,m,q⟩:=h;cases d;obtain⟨u,rfl,g⟩:=f.one;obtain⟨z,i,n,r,A,e⟩:=I.Rb b;refine j ?_;refine call_meets F.slot_list_append ⟨_,e,rfl⟩ F.entry_list_append (F.args_list_append_2 _ _) (PySem.list_append l i.toArray n u (by rw[ZF];lia)) ⟨e,?_⟩;refine⟨.non,_,I.lset b e (by simp) (r.append (.cons g .nil)) ?_,rfl,q⟩;rw[Zx,ZR];exact Nat.succ_le_of_lt m
def Iw:R2:=λx y H Q=>∃l b d a,x=.ref l/\y=.ref b/\H l=Y (.lst d)/\H b=Y (.lst a)/\d.length+a.length<=KM/\∀p,H p=J->Q (.ref p) (upd H p (.lst (d++a)))
def E7:OpR X (binaryOp .Add) Iw:=by
 intro a s O H x y v u Q I i g h;refine L2.aq λF j=>?_;obtain⟨l,b,B,w,rfl,rfl,m,o,D,q⟩:=h;cases i;cases g;obtain⟨z,d,n,r,E,e⟩:=I.Rb m;obtain⟨A,f,C,r2,G,e2⟩:=I.Rb o;refine j ?_;refine PySem.P.add_list e e2 ?_ (by rw[ZF,ZF];lia);have p:d.toArray++f.toArray=(d++f).toArray:=by simp
 rw[p];exact⟨.ref _,_,I.lnew (r.append r2) (by rw[Zx];omega),rfl,q _ I.fresh⟩
end
section
set_option maxRecDepth 100000 in
end
section
variable{κ:Type}[DecidableEq κ]
noncomputable def eY(b:List (κ×V))(k:κ):Option V:=(b.find? λa=>decide (a.1=k)).map (·.2)
noncomputable def putK(b:List (κ×V))(k:κ)(v:V):List (κ×V) :=
 if (b.any λa=>decide (a.1=k))=M then b.map (λa=>if a.1=k then (a.1,v) else a) else b++[(k,v)]
def jx{p:κ×V}(e:p.1=k):eY (p :: r) k=Y p.2:=by simp[eY,Yo,e]
def nW{p:κ×V}(e:¬p.1=k):eY (p :: r) k=eY r k:=by simp[eY,Yo,e]
theorem sN(k:κ):∀a:List (κ×V),(a.any λb=>decide (b.1=k))=(eY a k).isSome
 |[]=>rfl
 |p :: r=>by
  rw[YN];by_cases e:p.1=k
  ·simp only[jx e,Lu e,Bool.true_or,Option.isSome_some]
  ·rw[nW e,ZZ e,Bool.false_or];exact sN k r
def gS(a:List (κ×V))(k:κ)(v:V):(putK a k v).length<=a.length+1:=by
 unfold putK;split
 ·rw[Zw];exact Za _ _
 ·rw[Zx,Zf,Xn];exact Zn _
def ja.Ko(r:ja o u):o.isSome=u.isSome:=by
 cases o with
 |none=>cases u with
  |none=>rfl
  |some _=>exact(r).elim
 |some _=>cases u with
  |none=>exact(r).elim
  |some _=>rfl
theorem ja.getD{o:Option V}(r:ja o u)(b:RelV d a):RelV (o.getD d) (u.getD a):=by
 cases o with
 |none=>cases u with
  |none=>exact b
  |some _=>exact(r).elim
 |some _=>cases u with
  |none=>exact(r).elim
  |some _=>exact r
def KV.val(r:KV g d)(k:κ):ja (eY g k) (valueAt d k):=by
 induction r with
 |nil=>exact True.intro
 |@cons p q m a h t i =>
  obtain⟨f,j⟩:=h;by_cases e:p.1=k
  ·have b:valueAt (q :: a) k=Y q.2:=by simp[valueAt,Yo,(f.symm.trans e)]
   rw[jx e,b];exact j
  ·have l:¬q.1=k:=λz=>e (f.trans z);have b:valueAt (q :: a) k=valueAt a k:=by simp[valueAt,Yo,l]
   rw[nW e,b];exact i
theorem KV.any(r:KV d b)(k:κ):(d.any λa=>decide (a.1=k))=b.any λa=>decide (a.1=k):=by
 induction r with
 |nil=>rfl
 |cons h t e=>rw[YN,YN,e,h.1]
def KV.QU(r:KV f d)(k:κ)(g:RelV y u) :
  KV (f.map λa=>if a.1=k then (a.1,y) else a) (d.map λa=>if a.1=k then (a.1,u) else a):=by
 induction r with
 |nil=>exact .nil
 |@cons p q m l h t i =>
  rw[Zk,Zk];refine .cons ?_ i;obtain⟨b,j⟩:=h;by_cases e:p.1=k
  ·rw[Zs e,Zs (b.symm.trans e)];exact⟨b,g⟩
  ·rw[Zo e,Zo (λz=>e (b.trans z))];exact⟨b,j⟩
def KV.put(r:KV d a)(k:κ)(b:RelV y u):KV (putK d k y) (stored a k u):=by
 unfold putK stored;rw[r.any k];by_cases e:(a.any λf=>decide (f.1=k))=M
 ·rw[Zs e,Zs e];exact r.QU k b
 ·rw[Zo e,Zo e];exact Paired.snoc r ⟨rfl,b⟩
def KV.keys{b:List (κ×V)}{a:List (κ×PP)}(r:KV b a):b.map (·.1)=a.map (·.1):=by
 induction r with
 |nil=>rfl
 |cons h t d=>rw[Zk,Zk,d,h.1]
theorem KV.length{b:List (κ×V)}(r:KV b a):b.length=a.length:=Wz r
end
def l9(r:RelV (kV k) u):(ba P w).is k u=M:=by
 cases k with
 |inl i=>obtain⟨t,e⟩:=(r);subst e;exact sZ P w i t
 |inr x=>obtain⟨t,e⟩:=(r);subst e;exact rP P w x t
def FZ(e:kV a=kV b):a=b:=by
 cases a with
 |inl i=>cases b with
  |inl j=>have d:=e;injection d with d;rw[d]
  |inr y=>exact nomatch (e)
 |inr x=>cases b with
  |inl j=>exact nomatch (e)
  |inr y=>have d:=e;injection d with d;rw[d]
theorem qT:∀{a b:List Key},a.map kV=b.map kV->a=b
 |[],[],_=>rfl
 |[],_ :: _,e=>by simp at e
 |_ :: _,[],e=>by simp at e
 |x :: f,y :: d,e=>by
  rw[Zk,Zk]at e;injection e with e1 e2
  rw[FZ e1,qT e2]
theorem lZ:∀{a:List Key}{b:Vq},aW (a.map kV) b->ItemsAre (ba P w) a b
 |[],_,r=>by rw[V1]at r;cases r;exact .nil
 |k :: a,_,r=>by
  rw[Zk]at r;cases r with
  |cons h t=>exact .cons (l9 h) (lZ t)
abbrev KT(H:Hp):List (List Key×V)->List (List Key×On×PP)->Prop:=Paired λp q=>p.1=q.1/\H q.2.1=Y (.tup (p.1.map kV))/\RelV p.2 q.2.2
def KT.val(r:KT H g d)(k:List Key):ja (eY g k) ((atKey d k).map (·.2)):=by
 induction r with
 |nil=>exact True.intro
 |@cons p q m a h t i =>
  obtain⟨f,_,j⟩:=h;by_cases e:p.1=k
  ·have b:atKey (q :: a) k=Y q.2:=by simp[atKey,Yo,(f.symm.trans e)]
   rw[jx e,b];exact j
  ·have l:¬q.1=k:=λz=>e (f.trans z);have b:atKey (q :: a) k=atKey a k:=by simp[atKey,Yo,l]
   rw[nW e,b];exact i
def KT.QU(r:KT H g d)(k:List Key)(i:RelV y u) :
  KT H (g.map λb=>if b.1=k then (b.1,y) else b) (d.map (putAt k u)):=by
 induction r with
 |nil=>exact .nil
 |@cons p q n m h t j =>
  rw[Zk,Zk];refine .cons ?_ j;obtain⟨a,f,l⟩:=h;unfold putAt;by_cases e:p.1=k
  ·rw[Zs e,Zs (a.symm.trans e)];exact⟨a,f,i⟩
  ·rw[Zo e,Zo (λz=>e (a.trans z))];exact⟨a,f,l⟩
def KT.put(r:KT H d a)(k:List Key)(h:H b=Y (.tup (k.map kV)))(f:RelV y u) :
  KT H (putK d k y) (storedH a k b u):=by
 have e:(d.any λg=>decide (g.1=k))=(atKey a k).isSome:=by
  rw[sN,(r.val k).Ko,Xd]
 unfold putK storedH;rw[e];by_cases q:(atKey a k).isSome=M
 ·rw[Zs q,Zs q];exact r.QU k f
 ·rw[Zo q,Zo q];exact Paired.snoc r ⟨rfl,h,f⟩
def KT.keeps(r:KT H e d)(g:∀b a,H b=Y (.tup a)->f b=Y (.tup a)):KT f e d :=
 Paired.Pe r λ_ _ z=>⟨z.1,g _ _ z.2.1,z.2.2⟩
section
variable{H:Hp}
def D1(b:KL P w H h)(e:Rd H a u):dE P w H h a u:=e.ok b
def md(f:KL P w H h)(e:Rd H a (.dK b)):b.length<=KM/\(a==sysModules)=R/\∃d,KV b d/\h.DictOf (ba P w) a d :=
 D1 f e
def rS(f:KL P w H h)(e:H a=Y (.dK b)):b.length<=KM/\(a==sysModules)=R/\∃d,KV b d/\h.DictOf (ba P w) a d:=md f (.inl e)
def dr{b:List Key}(d:KL P w H h)(e:H a=Y (.tup (b.map kV))):(tupleKind (ba P w)).is h b a:=by
 obtain⟨_,f,r,_,o,j,i,n,g⟩:=(d a _ e)
 exact⟨o,f.toArray,n,j,i,g,by simpa using lZ r⟩
def oo(g:KL P w H h)(e:Rd H a (.dT f)):f.length<=KM/\(a==sysModules)=R ∧
  ∃d,KT H f d/\h.DictOfH (tupleKind (ba P w)) a d:=by
 refine L2.aq λG j=>?_;obtain⟨z,y,d,r,o,C,D,B,A,v,u,s⟩:=(D1 g e)
 refine j ?_;refine⟨z,y,d,r,o,C,D,B,A,v,u,λx b=>?_,s⟩;have all:∀{l:List (List Key×V)}{m:List (List Key×On×PP)},KT H l m->∀x∈m,(tupleKind (ba P w)).is h x.1 x.2.1:=by
  intro l m q
  induction q with
  |nil=>intro x b;exact nomatch b
  |@cons p q F E i t n =>
   intro x b;rcases Zg.mp b with e | b
   ·subst e;exact dr g (by rw[← i.1];exact i.2.1)
   ·exact n x b
 exact all r x b
def Hy(f:KL P w H h)(e:H a=Y (.dT b)):b.length<=KM/\(a==sysModules)=R ∧
  ∃d,KT H b d/\h.DictOfH (tupleKind (ba P w)) a d:=oo f (.inl e)
end
def fH(H:Hp)(a:On)(y:V)(r:Option V):Prop :=
 (∃d k,Rd H a (.dK d)/\y=kV k/\r=eY d k)\/∃d k b,Rd H a (.dT d)/\y=.ref b/\H b=Y (.tup (k.map kV))/\r=eY d k
def uU(H:Hp)(a:On)(y v:V)(e:Hp):Prop :=
 (∃d k,H a=Y (.dK d)/\y=kV k/\d.length<KM/\e=upd H a (.dK (putK d k v))) ∨
 ∃d k b,H a=Y (.dT d)/\y=.ref b/\H b=Y (.tup (k.map kV))/\d.length<KM/\e=upd H a (.dT (putK d k v))
theorem fH.k{H:Hp}{a:On}{b:List (Key×V)}{k:Key}(e:H a=Y (.dK b)):fH H a (kV k) (eY b k):=.inl ⟨b,k,.inl e,rfl,rfl⟩
def fH.t{b:On}{k:List Key}(e:H a=Y (.dT d))(f:H b=Y (.tup (k.map kV))):fH H a (.ref b) (eY d k):=.inr ⟨d,k,b,.inl e,rfl,f,rfl⟩
theorem uU.k{H:Hp}{a:On}{b:List (Key×V)}{k:Key}{v:V}(e:H a=Y (.dK b))(d:b.length<KM):uU H a (kV k) v (upd H a (.dK (putK b k v))):=.inl ⟨b,k,e,rfl,d,rfl⟩
section
variable{H:Hp}
def Inv.big(I:Inv X pins O H s):sysModules<s.heap.objs.size:=by
 exact XM (by decide) ((I.mod.glob.keeps I.bk).lt)
def xD{A:SC}(q:A.units+1<cLine)(I:Inv X pins O H s)(g:fH H a y (Y v))(n:RelV y u)(h:∀d m,Inv X pins O H m->RelV v d->Q d m) :
  Pi (KF X.prog X.w) A (getItem (.ref a) u) Q E s:=by
 rcases g with⟨C,k,e,f,l⟩ | ⟨C,k,b,e,f,B,l⟩
 ·subst f;obtain⟨z,hd,G,rel,i⟩:=md I.xb e;obtain⟨d,hw,j⟩:=ja.some_of (v:=v) (by rw[l];exact rel.val k);exact wpAny_getItem_of (l9 n) i.mapOf hw (h d _ (I.tok _) j)
 ·subst f;cases (n);obtain⟨z,hd,F,rel,i⟩:=oo I.xb e;obtain⟨d,hw,j⟩:=ja.some_of (v:=v) (by rw[l];exact rel.val k);obtain⟨p,x,D⟩:=Zt.mp hw;refine wpAny_getItem_heap (X3 q) (dr I.xb B) i x ?_;rw[D];exact h d _ (I.tok _) j
def Jp{A:SC}(m:A.units+1<cLine)(I:Inv X pins O H s)(g:fH H a y o)(j:RelV y u)(h:∀i,Inv X pins O H i->Q (.bool o.isSome) i) :
  Pi (KF X.prog X.w) A (UV .In u (.ref a)) Q E s:=by
 rcases g with⟨p,k,e,d,l⟩ | ⟨p,k,b,e,d,n,l⟩
 ·subst d;obtain⟨z,hd,B,rel,f⟩:=md I.xb e;refine wpAny_in_of (l9 j) hd f.mapOf ?_;rw[← (rel.val k).Ko,← l];exact h _ (I.tok _)
 ·subst d;cases (j);obtain⟨z,hd,x,rel,f⟩:=oo I.xb e;refine wpAny_in_heap (X3 m) (dr I.xb n) hd f ?_;have q:=(rel.val k).Ko;rw[Xd]at q;rw[← q,← l];exact h _ (I.tok _)
def BM{A:SC}(m:A.units+1<cLine)(I:Inv X pins O H s)(g:fH H a y o)(j:RelV y u)(h:∀i,Inv X pins O H i->Q (.bool (!o.isSome)) i) :
  Pi (KF X.prog X.w) A (UV .NotIn u (.ref a)) Q E s:=by
 rcases g with⟨p,k,e,d,l⟩ | ⟨p,k,b,e,d,n,l⟩
 ·subst d;obtain⟨z,hd,B,rel,f⟩:=md I.xb e;refine wpAny_notIn_of (l9 j) hd f.mapOf ?_;rw[← (rel.val k).Ko,← l];exact h _ (I.tok _)
 ·subst d;cases (j);obtain⟨z,hd,x,rel,f⟩:=oo I.xb e;refine wpAny_notIn_heap (X3 m) (dr I.xb n) hd f ?_;have q:=(rel.val k).Ko;rw[Xd]at q;rw[← q,← l];exact h _ (I.tok _)
def mV(I:Inv X pins O H s)(i:JT (H a))(j:Heap.SameBut a s.heap d)(he:∃q,d.get? a=Y q)(g:dE X.prog X.w (upd H a f) d a f) :
  Inv X pins O (upd H a f) { s with heap:=d,toks:=h } :=
 I.write (x:=a) (e:=a) i (.inl L) (λb q hb z=>(j.2 b hb).trans z) he g
def qr{f:XAA}{e:List (Key×V)}(z:e.length<=KM)(g:(a==sysModules)=R)(d:KV e b)(h:f.DictOf (ba P w) a b) :
  dE P w i f a (.dK e):=⟨z,g,b,d,h⟩
def yu{A:SC}(N:A.units+1<cLine)(I:Inv X pins O H s)(g:uU H a y v G)(B:RelV y u)(C:RelV v r)(h:∀x,Inv X pins O G x->Q () x) :
  Pi (KF X.prog X.w) A (setItem (.ref a) u r) Q E s:=by
 rcases g with⟨p,k,e,j,l,m⟩ | ⟨p,k,b,e,j,F,l,m⟩
 ·subst j m;obtain⟨z,hd,vs,rel,n⟩:=rS I.xb e;refine wpAny_setItem_pairs (hsz:=(by rw[← rel.length];exact z)) (l9 B) n λh' f i=>h _ ?_;exact mV I (by rw[e];exact True.intro) i (let ⟨q,_,_,d,_⟩:=f;⟨q,d⟩) (qr (by have:=gS p k v;lia) hd (rel.put k C) f)
 ·subst j m;cases (B);obtain⟨z,hd,xs,rel,n⟩:=Hy I.xb e;refine wpAny_setItem_heap (hsz:=(by rw[← Wz rel];exact z)) (X3 N) (dr I.xb F) n λh' f i=>h _ ?_;refine L2.aq λP_ L=>?_;obtain⟨q,es,ep,d,Z,U,S,_,P⟩:=f;refine L ?_;refine mV I (by rw[e];exact True.intro) i ⟨q,d⟩ ⟨(by have:=gS p k v;lia),hd,_,(rel.put k F C).keeps λc ys D=>?_,q,es,ep,d,Z,U,S,P⟩;rw[aM (Ht D e (λz=>nomatch z))];exact D
end
section
variable{H:Hp}
def HG(I:Inv X pins O H s)(e:Rd H a (.dK cp))(h:∀t b,Inv X pins O H b->Q (.int cp.length t) b):Pi (KF X.prog X.w) A (call (.builtin "len") [.ref a]) Q E s:=by
 obtain⟨z,hd,f,rel,d⟩:=md I.xb e;refine call_len_dict hd d (by rw[← rel.length];rw[XW]at z;lia) ?_;rw[← rel.length];exact h _ _ (I.tok _)
end
def sV(I:Inv X d O H s)(g:fH H a y o):s.TypeIs (.ref a) "dict" := by
 rcases g with⟨h,k,e,_,_⟩ | ⟨h,k,b,e,_,_,_⟩
 ·obtain⟨_,_,j,_,f⟩:=md I.xb e;exact f.typeIs
 ·obtain⟨_,_,i,_,f⟩:=oo I.xb e;exact f.typeIs
def tj{w:XAB}(h:XAA)(a:sysModules<h.objs.size):dE P w H (h.push { cls:=.type "dict",data:=.dict #[] }) h.objs.size (.dK []) :=
 ⟨ZE _,beq_eq_false_iff_ne.mpr (Y0 (Ze a)),[],.nil,Heap.DictOf.new h⟩
def Gr:TE:=λ_ H Q=>∀p,H p=J->Q (.ref p) (upd H p (.dK []))
section
def yP:PE X (.Dict [] [] pos) Gr:=λa s O H Q I h =>
 wpAny_Dict_empty ⟨.ref s.heap.objs.size,_,I.laid (λ_ _ q=>Zj _ q) (Zn _) (tj s.heap I.big),rfl,h _ (I.xb.fresh (Zn _))⟩
end
noncomputable def u9:List (TE×TE)->St->Hp->(List (V×V)->Hp->Prop)->Prop
 |[],_,H,Q=>Q [] H
 | (b,a) :: r,O,H,Q=>b O H λx g=>a O g λy f=>u9 r O f λd e=>Q ((x,y) :: d) e
abbrev VV:List (V×V)->List (PP×PP)->Prop:=Paired λp q=>RelV p.1 q.1/\RelV p.2 q.2
def PPs(X:Cx)(e:Pos)(d:List (Option Expr))(a:List Expr)(j:List (TE×TE)):Prop :=
 ∀(b:Yw)(s:KB)(O:St)(H:Hp)(Q:List (V×V)->Hp->Prop),Inv X b O H s->u9 j O H Q →
  Pi (KF X.prog X.w) X.A (evalPairs (pairTrees d a X.env e)) (λh i=>∃f g,Inv X b O g i/\VV f h/\Q f g) X.xe s
def C2:PPs X a [] [] []:=λb s O H Q I h=>pairTrees_nil_walk ⟨[],H,I,.nil,h⟩
def zN(z:PE X k f)(r:PE X v e)(w:PPs X b g d i) :
  PPs X b (Y k :: g) (v :: d) ((f,e) :: i):=λa s O H Q I h =>
 pairTrees_cons_walk (thn (z a s O H _ I h) λu s1 ⟨x,F,C,m,p⟩=>thn (r a s1 O F _ C p) λG j ⟨y,E,B,l,o⟩ =>
  thn (w a j O E _ B o) λws L ⟨q,D,A,rel,n⟩=>⟨(x,y) :: q,D,A,.cons ⟨m,l⟩ rel,n⟩)
def qA(d a:List (Key×V)):List (Key×V):=a.foldl (λacc b=>putK acc b.1 b.2) d
def KV.merge:∀{more:List (Key×V)}{d:List (Key×PP)}{b:List (Key×V)}{a:List (Key×PP)},KV more d->KV b a->KV (qA b more) (merged a d):=by
 intro more d b a r
 induction r generalizing b a with
 |nil=>intro q;exact q
 |@cons p q j i h t g =>
  intro f;have e:KV (putK b p.1 p.2) (stored a q.1 q.2):=by
   have:=f.put p.1 h.2;rw[← h.1];exact this
  exact g e
theorem jU:∀(more a:List (Key×V)),(qA a more).length<=a.length+more.length
 |[],a=>by exact Za _ _
 |p :: r,a=>by
  have d:=jU r (putK a p.1 p.2);have b:=gS a p.1 p.2;show (qA (putK a p.1 p.2) r).length<=_;rw[Zf];lia
theorem nz{P:SB}{w:XAB}:∀{e:List (Key×V)}{ws:List (PP×PP)},VV (e.map λf=>(kV f.1,f.2)) ws->∃d,Carries (ba P w) ws d/\KV e d
 |[],_,r=>by rw[V1]at r;cases r;exact⟨[],True.intro,.nil⟩
 |p :: e,_,r=>by
  rw[Zk]at r;cases r with
  |@cons a b j bs h t =>
   obtain⟨d,c,q⟩:=nz (P:=P) (w:=w) t;obtain⟨i,g⟩:=b;exact⟨(p.1,g) :: d,⟨l9 h.1,rfl,c⟩,.cons ⟨rfl,h.2⟩ q⟩
def HQ(f:List (TE×TE)):TE:=λO H Q=>∀p,H p=J->u9 f O (upd H p (.dK [])) λe d=>d p=Y (.dK [])/\∃a:List (Key×V),e=a.map (λb=>(kV b.1,b.2))/\a.length<=15/\Q (.ref p) (upd d p (.dK (qA [] a)))
def BS(h:PPs X d a b j)(G:a.all (·.isSome)=M)(y:a.length=b.length)(C:a≠[])(g:a.length<=15):PE X (.Dict a b d) (HQ j):=by
 intro f s O H Q I q;have L:=I.laid (t':=s.toks) (λ_ _ q=>Zj _ q) (Zn _) (tj s.heap I.big);refine wpAny_Dict_walk (knd:=ba X.prog X.w) G y C g (thn (h f _ O _ _ L (q _ (I.xb.fresh (Zn s.heap.objs.size)))) λws N A=>?_);obtain⟨P,Z,l,rel,e,F,D,lk,r⟩:=A;refine L2.aq λU u=>?_;subst D;obtain⟨n,c,o⟩:=nz (w:=X.w) rel;obtain⟨z,hd,m,p,E⟩:=rS l.xb e;cases p;refine u ?_;refine⟨n,c,E,λS i v=>⟨.ref s.heap.objs.size,_,?_,rfl,r⟩⟩;exact mV l (by rw[e];exact True.intro) v (let ⟨q,_,_,x,_⟩:=i;⟨q,x⟩) (qr (by
  have B:=jU F [];rw[Xn]at B;rw[XW];lia) hd (o.merge .nil) i)
structure M1(X:Cx)(o:Expr)(m:Str)(apos:Pos)(e:Expr)(pe:Pos):Prop where
 base:XAC o m X.env (eval o X.env)=eval o X.env
 Pq:((backTo pe (P3 [e] X.env)).all (λx=>!x.1)&&(backToKw pe (SZ [] X.env)).all (λx=>x.1.isSome)
  && decide (([e]:List Expr).length+([]:List Keyword).length+(if ([]:List Keyword).isEmpty then 0 else 1)<30))=true
 line:(apos.endLine==pe.line)=true
 trees:backTo pe (P3 [e] X.env)=[(false,eval e X.env)]
def IsD(H:Hp)(a:On):Prop:=(∃b,Rd H a (.dK b))\/∃b,Rd H a (.dT b)
def FE(I:Inv X g O H s)(d:IsD H a) :
  s.TypeIs (.ref a) "dict" ∧ (∀b,Value.ref a=.ref b->∃f,s.heap.get? b=Y f/\f.dict=J)/\(a==sysModules)=R:=by
 rcases d with⟨l,e⟩ | ⟨l,e⟩
 ·obtain⟨_,hd,n,_,h⟩:=md I.xb e;refine⟨h.typeIs,λb q=>?_,hd⟩;cases q;obtain⟨f,_,_,j,i,_⟩:=h;exact⟨f,j,i.2.1⟩
 ·obtain⟨_,hd,m,_,h⟩:=oo I.xb e;refine⟨h.typeIs,λb q=>?_,hd⟩;cases q;obtain⟨f,_,_,j,i,_⟩:=h;exact⟨f,j,i.2.1⟩
section
variable{H:Hp}
def EH{A:SC}(q:A.units+1<cLine)(I:Inv X pins O H s)(g:fH H a y o)(n:RelV y u)(h:∀j m,Inv X pins O H m->RelV (o.getD .non) j->Q j m) :
  Pi (KF X.prog X.w) A (call (.builtin "dict.get") [.ref a,u]) Q E s:=by
 rcases g with⟨x,k,e,i,l⟩ | ⟨x,k,b,e,i,v,l⟩
 ·subst i;obtain⟨z,hd,B,rel,f⟩:=md I.xb e;refine call_meetsIn Vc f.typeIs PySem.F.entry_dict_get (PySem.F.args_dict_get_2 _ _) (meets_dict_get (ba X.prog X.w) a (l9 n) hd) ⟨_,f.mapOf,h _ _ (I.tok _) ?_⟩;rw[l];exact(rel.val k).getD L
 ·subst i;cases (n);obtain⟨z,hd,p,rel,f⟩:=oo I.xb e;refine call_meetsIn Vc f.typeIs PySem.F.entry_dict_get (PySem.F.args_dict_get_2 _ _) (meetsH_dict_get (tupleKind (ba X.prog X.w)) a b hd) ⟨X3 q,k,p,dr I.xb v,f,h _ _ (I.tok _) ?_⟩;rw[l];exact(rel.val k).getD L
end
def EC(f e:TE):TE:=λO H Q=>f O H λx d=>∃a,x=.ref a/\IsD d a/\e O d λy b=>∃o,fH b a y o/\Q (o.getD .non) b
section
def Bn{X:Cx}(r:X.A.units+1<cLine)(v:PE X o td)(he:PE X e ty)(m:M1 X o "get" apos e pe):PE X (.Call (.Attribute o "get" apos) [e] [] pe) (EC td ty):=by
 intro b s O H Q I h;refine wpAny_Call_method m.base m.Pq m.line PySem.F.plainAttrs_dict Vc PySem.F.type_dict_get (thn (v b s O H _ I h) λu s1 w=>?_);obtain⟨x,E,i,n,a,ex,d,q⟩:=w;subst ex;obtain rfl:u=Value.ref a:=n;obtain⟨j,t2,_⟩:=FE i d;refine⟨j,t2,?_⟩;rw[m.trees];refine Calls.callWith_builtin L (Calls.evalArgs_plain (Calls.spliced_cons (thn (he b s1 O E _ i q) λiv P ⟨y,D,C,l,S,g,p⟩=>Calls.spliced_nil ?_)));exact EH r C g l λG N B z=>⟨_,D,B,z,p⟩
end
end L2
namespace Att
open PySem PySem.W PySem.Calls PyProof.Rows
def mK:∀(ns:Uu)(d:Vq),WellAll P h d (ns.map WData.int)->IntsAre d ns:=by
 intro ns
 induction ns with
 |nil =>
  intro d w;rw[V1]at w;cases w;exact .nil
 |cons n ns e =>
  intro d w;rw[Zk]at w;cases w with
  |cons a b =>
   cases a;exact .cons _ _ (e _ b)
def ym{l:OpenLaw}(u:l.most=Y n)(f:l.row.toRowW.claim.pre b=M)(g:WellAll P h e b) :
  ∃a j ns,e=[Value.ref a]/\b=[WData.list (ns.map WData.int)]/\h.get? a=Y { cls:=.type "list",data:=.seq j.toArray }/\IntsAre j ns/\ns.length<=n:=by
 have v:l.pre.holds [] { args:=b }=M:=(pre_splitW f).2;obtain⟨d,r,rfl,y,x⟩:=hasAllW_cons ((pre_splitW f).1);obtain rfl:=hasAllW_nil x;obtain⟨A,rfl,w⟩:=hasW_list y;obtain⟨ns,rfl⟩:=items_int w;have hlen:ns.length<=n:=by
  have i:=condW_of (by
   have m:=(holds_andW v).1;rw[u]at m;exact m) (w_not (w_lt w_lit (w_len_list (w_arg L))))
  rw[Zw]at i;refine ZD λq=>?_
  first
   | (rw[Lu (by omega)]at i;exact absurd i (by decide))
   | (omega)
 cases g with
 |cons p o =>
  cases o;cases p with
  |list s z=>exact⟨_,_,ns,rfl,rfl,s,mK ns _ z,hlen⟩
def xS(l:OpenLaw)(a:List WData):l.row.toRowW.claim.post a (.bool M) a=M :=
 postW_of
  (by first | rfl | decide | simp[WShape.has,WShape.arms,WShape.armsAll])
  (w_eq_bool (w_res L) w_lit) L
def rY{l:OpenLaw}{d:DefRec}(F:l.most=some n)(U:d.params.defaults=[])(j:∀(w:XAB)(p b:KB)(mg s:Wf)(i:On)(o:Obj)(pm cd doc:PP)(a:On)(g:Vq)(ns:Uu),
   Ground q e [] B w p mg s b.heap->A w b.heap →
   b.heap.get? i=some o->o.data=.func (docDef d.name d.params d.body d.scope pm cd doc)->b.heap.CodeRec cd d.name->mg d.name=some (.ref i) →
   b.heap.get? a=some { cls:=.type "list",data:=.seq g.toArray }->IntsAre g ns->ns.length<=n->b.gens=#[] →
   codeAny (KF l.prog w) callerA (.call (.ref i) ⟨[.ref a],[]⟩) (λr m=>r=.ok (.ret (.bool M))/\OldK b.heap m.heap/\m.os=b.os/\AllBare m.gens) b) :
  WalkO q e B A l.row.toRowW d [] (λf g=>PySem.call f g):=by
 intro w p b mg s G Y i o pm cd doc Q kV E hd x z v hg args vals X h y C u L;obtain rfl:Q=.none:=Dflts.none z U;obtain rfl:kV=.none:=Dflts.noKw z;obtain⟨a,g,ns,rfl,rfl,S,hints,hlen⟩:=ym F h u;refine enter_call (Vt (j w p b mg s i o pm cd doc a g ns G Y E (fd_plain hd) x v S hints hlen hg) λr m D=>?_);obtain⟨rfl,P,O,N⟩:=D;exact⟨.inl ⟨.bool M,.bool M,[],rfl,λ_=>rfl,.bool M,xS l _,λ_=>⟨List.Pairwise.nil,λ_ H=>(nomatch H)⟩⟩,P,O,N⟩
end Att
namespace L2
open PySem PySem.Spec PyProof.Rows
theorem pH:∀{a:Vq}{ns:Uu},IntsAre a ns->aW (ns.map V.int) a
 |_,_,.nil=>.nil
 |_,_,.cons n t h=>.cons ⟨t,rfl⟩ (pH h)
noncomputable def Bf(H:Hp):Prop:=∀b,H b=J\/∃o a,H b=Y (.frz o (.lst a))
def AN{K:Wy}{f:KB}{j:Vq}(KX:K.In f.heap)(UO:f.heap.Ns mainGlobals B)(g:f.heap.Ns builtinsNs N)(Q:∀x:Str,x ≠ "__name__" → N x=bootBuiltins x)(y:f.heap.NoLimit)(hg:f.gens=#[])(C:f.heap.get? a=Y { cls:=.type "list",data:=.seq j.toArray })(hi:IntsAre j l)(hl:l.length<=KM)(hr:p0 k callerA)(F:∀base:XAA,K.In base->base.Ns mainGlobals B->FnOk P w K B base CX k U fd [x] Z)(Tu:∀(s:KB)(u:PP),BindsTo s fd ⟨[u],[]⟩ [(x,u)])(OT:∀H:Hp,Bf H->JV K H a (l.map V.int)->Z [.ref a] H (λv _=>v=.bl M) λ_ _ _=>False)(S:∀H e i,CX [] H f (λ_ _ _=>False) e i->False) :
  codeAny (KF P w) callerA (.call (.ref U) ⟨[.ref a],[]⟩) (λr i=>r=.ok (.ret (.bool M))/\OldK f.heap i.heap/\i.os=f.os/\AllBare i.gens) f:=by
 have rv:=pH hi;have core:∀H:Hp,Bf H->JV K H a (l.map V.int)->KL P w H f.heap->(∀b,H b≠J->b=a)->(H a≠J->K.lookup a=J) →
   codeAny (KF P w) callerA (.call (.ref U) ⟨[.ref a],[]⟩) (λr i=>r=.ok (.ret (.bool M))/\OldK f.heap i.heap/\i.os=f.os/\AllBare i.gens) f:=by
  intro H hO hS xb hA hK;have NA:∀{b:On}{o:Obj},f.heap.get? b=Y o->H b=J->(uk f.heap H).get? b=Y o:=λe n=>Av e n;have S5:∀{b:On}{o:Obj}{D:Array DictEntry}{E:Nat},f.heap.get? b=Y o->o.data=.dict D E->H b=J:=λ{b o D E} e d=>by
   cases q:H b with
   |none=>rfl
   |some u =>
    have X:b=a:=hA b (by rw[q];simp);subst X;rw[C]at e;cases e;cases d
  have G:∀{b:On}{m:Wf},f.heap.Ns b m->(uk f.heap H).Ns b m:=λ{b m} ⟨o,D,E,e,d,r⟩=>⟨o,D,E,NA e (S5 e d),d,r⟩
  have A:=λb o e=>NA (KX b o e) (by
   cases q:H b with
   |none=>rfl
   |some u =>
    have X:b=a:=hA b (by rw[q];simp);subst X;rw[hK (by rw[q];simp)]at e;cases e)
  have hM:Mod K B (uk f.heap H):=⟨A,G UO,⟨N,G g,Q⟩,let ⟨mc,h1,h2⟩:=y;⟨mc,G h1,h2⟩⟩
  refine Vt ((F _ A (G UO)).run callerA [] f H ⟨[.ref a],[]⟩ [.ref a] [.ref a] _ _ hr (⟨rfl,hM,λb q e=>(C5.mp e).1,λb o e=>Cz e,Wt (xA _ _),trivial,λb g=>absurd (show b∈([]:W5) from g) (by simp),xb,.of_eq hg⟩) (Tu f (.ref a)) (.cons L .nil) (OT H hO hS)) λr i h=>?_;cases r with
  |error e=>exact(S H e i h).elim
  |ok fl =>
   cases fl with
   |next=>exact False.elim h
   |brk=>exact False.elim h
   |cont=>exact False.elim h
   |ret u =>
    obtain⟨v,H',os,bare,un,p,r',q⟩:=h;subst q;obtain rfl:u=Value.bool M:=r';refine⟨rfl,OldK.of_keep λb o e=>?_,os,bare⟩;cases q:H b with
    |none=>exact un.keep b o e q (by intro z;exact absurd (show b∈([]) from z) (by simp)) (by simp)
    |some u =>
     rcases hO b with z | ⟨ob,xs,z⟩
     ·rw[q]at z;cases z
     ·obtain⟨e1,_⟩:=xb b _ z;obtain⟨e2,_⟩:=p b _ (un.Mm b ob _ z);rw[e]at e1;cases e1;exact e2
 cases O:K.lookup a with
 |some o =>
  have e:=KX a o O;rw[C]at e;cases e;refine core (λ_=>J) (λ_=>.inl L) (.inr ⟨_,j.toArray,_,O,rfl,rfl,rfl,by rw[ZF,hi.length];exact hl,by simpa using rv⟩) (λb u z=>by cases z) (λb z=>absurd L z) λz=>absurd L z
 |none =>
  refine core (λb=>if b=a then Y (.frz { cls:=.type "list",data:=.seq j.toArray } (.lst (l.map V.int))) else J) (λb=>?_) (.inl (.inr ⟨{ cls:=.type "list",data:=.seq j.toArray },Zs L⟩)) (λb u z=>?_) (λb z=>?_) λ_=>O
  ·by_cases g:b=a
   ·exact .inr ⟨_,_,Zs g⟩
   ·exact .inl (Zo g)
  ·by_cases g:b=a
   ·cases ((Zs g).symm.trans z);subst g;exact⟨C,by rw[Zw];exact hl,j,_,rv,C⟩
   ·cases ((Zo g).symm.trans z)
  ·by_cases g:b=a
   ·exact g
   ·exact absurd (Zo g) z
def CZ{l:PySem.W.OpenLaw}{n k:Nat}{q:SB}{i:List Str}{U:(Wf)->XAA->Prop}{A:XAB->XAA->Prop}{d:DefRec}{K:Params->Wy}{C:XAB->NT}{z:XAB->Sp}{x:Str}(L:l.most=some n)(Z:n<=KM)(QD:d.params.defaults=[])(E:p0 k callerA)(O:∀(w:XAB)(h:XAA),A w h->(K w.params).In h)(F:∀(w:XAB)(mg:Wf)(j:On)(h:XAA),(K w.params).In h->h.Ns mainGlobals mg->mg d.name=some (.ref j) →
   ∃fd:Re,(∀(s:KB)(u:PP),BindsTo s fd ⟨[u],[]⟩ [(x,u)]) ∧
    ∀base:XAA,(K w.params).In base->base.Ns mainGlobals mg->FnOk l.prog w (K w.params) mg base (C w) k j fd [x] (z w))(OT:∀(w:XAB)(H:Hp)(a:On)(ns:Uu),ns.length<=n->Bf H->JV (K w.params) H a (ns.map V.int)->z w [.ref a] H (λv _=>v=.bl M) λ_ _ _=>False)(r:∀(w:XAB)(H:Hp)(s:KB)(e:PP)(m:KB),C w [] H s (λ_ _ _=>False) e m->False) :
  PySem.W.WalkO q i U A l.row.toRowW d [] (λf y=>PySem.call f y):=by
 refine Att.rY L QD λw s₀ D mg mb j o pm cd doc a y ns G Y ho hd N p X hints hlen hg=>?_;have B:=O w _ Y;obtain⟨fd,hb,S⟩:=F w mg j _ B G.T.g p;exact AN B G.T.g G.T.b G.T.builtins G.T.nolimit hg X hints (ZS hlen Z) E S hb (λH Q P=>OT w H a ns hlen Q P) λH e m=>r w H D e m
noncomputable def inClass(s:Stmt)(j:Nat):Stmt:=match s with
 |.ClassDef _ _ _ body _ _ _ _ _ _ _=>body.getD j (.Pass ⟨0,0,0,0⟩)
 |_=>.Pass ⟨0,0,0,0⟩
noncomputable def dg(s:Stmt):Arguments:=match s with
 |.FunctionDef _ a _ _ _ _ _ _ _ _=>a
 |_=>{ posonlyargs:=[],args:=[],vararg:=J,kwonlyargs:=[],kw_defaults:=[],kwarg:=J,defaults:=[] }
noncomputable def bC(s:Stmt):List Stmt:=match s with
 |.FunctionDef _ _ b _ _ _ _ _ _ _=>b
 |_=>[]
def ai(s:Stmt):Scope:=match s with
 |.FunctionDef _ _ _ _ _ _ sc _ _ _=>sc
 |_=>{ kind:=.function,names:=[],isGenerator:=R,isCoroutine:=R }
noncomputable abbrev Kv:NT:=λ_ _ _ _ _ _=>False
noncomputable abbrev E0:XK:=λ_ _ _=>False
def mw{X:Cx}:jy Kv X E0:=λ_ _ _ _ _ _ _ h=>h.elim
structure JP(K:Wy)(x qual:Str)(st:Stmt)(f:On)(fd:Re):Prop where
 ex:∃(oc:PP)(od:Option On)(kV doc pm:PP)(an:Option On)(JQ ct:PP)(MU:Array (V6)),
  fd=PySem.W.fnOf x qual (dg st) (bC st) (ai st) .none kV doc pm an JQ ct/\K.lookup f=some ⟨oc,od,.func fd,MU⟩/\PySem.W.codeIn K JQ qual=true
 kp:PySem.W.keepIn K (.ref f)=true
section
variable{K:Wy}
def JP.ok(F:JP K x a d f m)(S:bt N i (ai d))(j:∀b H Q E,g b H Q E->b.length=i.length)(p:∀(e:PP)(A:SC)(outer:List Env)(s:KB)(H:Hp)(b:List V)(Q:VK)(E:XK),p0 k (A.deeper (envOfC a (ai d) s.heap.objs.size f e))->g b H Q E →
   ∃t,LN (j7 Kv P w K mg base N a (ai d) f e A outer s H E).M7 (bC d) t/\t { nx:=λ_ r=>Q .non r,rt:=Q } (start N b) H):FnOk P w K mg base Kv (k+1) f m i g:=by
 obtain⟨oc,u,kV,doc,pm,an,e,ct,v,rfl,lk,l⟩:=F.ex;refine Ed lk l S j λA outer s H b Q E n o=>?_;obtain⟨t,h,q⟩:=p e A outer s H b Q E n o;exact⟨t,h.M7,q⟩
def JP.binds{e:List Str}(F:JP K x a b f i)(h:∀(kV doc pm:PP)(an:Option On)(g ct:PP)(d:Vq),d.length=e.length->bindArgs (PySem.W.fnOf x a (dg b) (bC b) (ai b) .none kV doc pm an g ct) ⟨d,[]⟩=pure (e.zip d)):Binds K i e []:=by
 obtain⟨oc,l,kV,doc,pm,an,g,ct,m,rfl,lk,j⟩:=F.ex;exact .all (h kV doc pm an g ct)
def za{st:Stmt}(l:K.lookup f=Y ⟨m,j,.func (PySem.W.fnOf x a (dg st) (bC st) (ai st) .none g b e i d h),n⟩)(c:PySem.W.codeIn K d a=M)(k:PySem.W.keepIn K (.ref f)=M):JP K x a st f (PySem.W.fnOf x a (dg st) (bC st) (ai st) .none g b e i d h):=⟨⟨m,j,g,b,e,i,d,h,n,rfl,l,c⟩,k⟩
end
def jR(a:p0 k A):A.units+1<cLine:=ZK (XY (by decide:1<=64) _) a.units
section
def pv{X:Cx}(i:Nat)(f:{`q2,X.N[i]?=Y x})(d:{`q5,MZ X.env.scope x})(e:{`q1,K3 x})(b:{`q1,K4 x}):PE X (.Name x a) (Im i):=gp f d e b
end
def zX{A B:Prop}(h:B):if R=M then A else B:=by
 rw[Zo Zh];exact h
def Bj{A B:Prop}(h:A):if M=M then A else B:=by
 rw[Zs L];exact h
noncomputable def bg(H a:Hp):Prop:=∀b o,H b=Y o->a b=Y o
def bg.refl(H:Hp):bg H H:=λ_ _ h=>h
def bg.trans{e:Hp}(a:bg H e)(b:bg e d):bg H d:=λc o h=>b c o (a c o h)
def bg.free(e:bg H a)(h:a l=J):H l=J:=by
 cases q:H l with
 |none=>rfl
 |some o =>
  rw[e l o q]at h;cases h
end L2
end
section
namespace L2
open PySem PySem.Spec PyProof.Rows
abbrev pd:=List (List Key)
def hN(w:XAB)(k:pd):Int:=reduceHash (Builtin.Tuple.tupleHashOf (k.map λx=>reduceHash (Builtin.Tuple.tupleHashOf (x.map (IX w)))))
def Jl(w:XAB)(x:pd×On×PP):DictEntry:=⟨hN w x.1,.ref x.2.1,x.2.2⟩
abbrev KN:List (pd×On×V)->List (pd×On×PP)->Prop:=Paired λp q=>p.1=q.1/\p.2.1=q.2.1/\RelV p.2.2 q.2.2
def DN(a:On)(e:List (pd×On×V)):HO:=.ext λw h=>e.length<=KM/\(a==sysModules)=R/\∃b:List (pd×On×PP),KN e b ∧
 ∃o d f,h.get? a=Y o/\o.ExactDict/\o.data=.dict d f/\d.toList=b.map (Jl w)/\(b.map (·.1)).Nodup
def XD(H:Hp)(k:pd)(b:On):Prop:=∃a:W5,H b=Y (.tup (a.map V.ref))/\Paired (λ(x:List Key) (c:On)=>H c=Y (.tup (x.map kV))) k a
def XD.mono{k:pd}(x:XD H k b)(t:∀a d,H a=Y (.tup d)->e a=Y (.tup d)):XD e k b:=by
 obtain⟨f,h,r⟩:=x;exact⟨f,t _ _ h,Paired.Pe r λ_ _ z=>t _ _ z⟩
end L2
end
section
namespace VS
open PySem PySem.Spec PyProof.Rows L2
noncomputable def sx(s:Tx):Str:=⟨s.toArray⟩
def jW(s:Tx):Prop:=s.length<=gL/\∀c∈s,c<1114112
noncomputable abbrev Me:=Nat->Option V
structure Gx where
 K:Wy
 ct:Nat->On×(Nat->Str)
 me:Me:=λ_=>none
def Gx.at(G:Gx)(m:Me):Gx:=⟨G.K,G.ct,m⟩
noncomputable def aR:Key->T
 |.inl i=>.int i
 |.inr x=>.str x.cps.toList
def nkT(k:pd):T:=.tup (k.map λx=>T.tup (x.map aR))
def lj(K:Wy)(H:Hp)(a:On)(d:Uu):Prop :=
 (∃o,H a=Y (.frz o (.lst (d.map V.int)))) ∨
  ∃(o:Obj)(b:Array PP)(n:Nat),K.lookup a=Y o/\o.cls=.type "list" ∧ o.dict=J/\o.data=.seq b n/\b.size<=KM/\aW (d.map V.int) b.toList
mutual
inductive Rp(G:Gx)(H:Hp):V->T->W5->Prop
 |non:Rp G H .non .non []
 |bl (b:Bool):Rp G H (.bl b) (.bl b) []
 |int (i:Int):Rp G H (.int i) (.int i) []
 |str (s:Tx):jW s->Rp G H (.str (sx s)) (.str s) []
 |scr {a:On} {ns:Uu}:lj G.K H a ns->Rp G H (.ref a) (.scr ns) []
 |tup {a:On} {vs:List V} {ts:Up} {Fs:X5}:H a=some (.tup vs)->RpL G H vs ts Fs->Rp G H (.ref a) (.tup ts) Fs.flatten
 |lst {a:On} {vs:List V} {ts:Up} {Fs:X5}:H a=some (.lst vs)->RpL G H vs ts Fs->Rp G H (.ref a) (.lst ts) (a :: Fs.flatten)
 |dct {a:On} {ks:List Key} {vs:List V} {ts:Up} {Fs:X5}:H a=some (.dK (ks.zip vs))->ks.length=vs.length->RpL G H vs ts Fs->Rp G H (.ref a) (.dct 0 ((ks.map aR).zip ts)) (a :: Fs.flatten)
 |dctT {a:On} {ks:List (List Key)} {vs:List V} {ts:Up} {Fs:X5}:H a=some (.dT (ks.zip vs))->ks.length=vs.length->RpL G H vs ts Fs->Rp G H (.ref a) (.dct 1 ((ks.map λk=>T.tup (k.map aR)).zip ts)) (a :: Fs.flatten)
 |dctN {a:On} {ks:List (pd×On)} {vs:List V} {ts:Up} {Fs:X5}:H a=some (DN a ((ks.zip vs).map λp=>(p.1.1,p.1.2,p.2)))->ks.length=vs.length->(∀p∈ks,XD H p.1 p.2)->RpL G H vs ts Fs->Rp G H (.ref a) (.dct 2 ((ks.map λp=>nkT p.1).zip ts)) (a :: Fs.flatten)
 |dctZ {a:On} {o:Obj} {ks:List Key} {vs:List V} {ts:Up} {Fs:X5}:H a=some (.frz o (.dK (ks.zip vs)))->ks.length=vs.length->RpL G H vs ts Fs->Rp G H (.ref a) (.dct 3 ((ks.map aR).zip ts)) Fs.flatten
 |exc {c:Nat} {a:On} {o:Obj}:H a=some (.frz o (.own a))->(o.cls=.ref (G.ct c).1/\o.dict=none/\∃vs,o.data=.fields vs)->Rp G H (.ref a) (.obj c []) []
 |ins {c:Nat} {a dx:On} {b:Bool} {ks:Uv} {vs:List V} {ts:Up} {Fs:X5}:H a=some (.ins (G.ct (c+1)).1 dx ((ks.map (G.ct (c+1)).2).zip vs))->ks.length=vs.length->(b=true->G.me 0=some (.ref a))->RpL G H vs ts Fs->Rp G H (.ref a) (.obj (c+1) ((0,.bl b) :: ks.zip ts)) (a :: Fs.flatten)
 |mk {m:Nat} {a:On} {t:T} {F:W5}:G.me m=some (.ref a)->Rp G H (.ref a) t F->Rp G H (.ref a) (.obj 0 [(0,.bl true),(m,t)]) F
inductive RpL(G:Gx)(H:Hp):List V->Up->X5->Prop
 |nil:RpL G H [] [] []
 |cons {v:V} {t:T} {F:W5} {vs:List V} {ts:Up} {Fs:X5}:Rp G H v t F->RpL G H vs ts Fs->RpL G H (v :: vs) (t :: ts) (F :: Fs)
end
def RpI(G:Gx)(H:Hp)(v:V)(F:W5):T->Prop
 |.non=>v=.non
 |.bl b=>v=.bl b
 |.int b=>v=.int b
 |.str b=>v=.str (sx b)/\jW b
 |.scr l=>∃a,v=.ref a/\F=[]/\lj G.K H a l
 |.tup l=>∃a e f,v=.ref a/\F=f.flatten/\H a=Y (.tup e)/\RpL G H e l f
 |.lst l=>∃a e f,v=.ref a/\F=a :: f.flatten/\H a=Y (.lst e)/\RpL G H e l f
 |.dct d l=>match d with
  |0=>∃(a:On)(g:List Key)(e:List V)(h:Up)(f:X5),v=.ref a/\F=a :: f.flatten/\H a=Y (.dK (g.zip e))/\g.length=e.length/\l=(g.map aR).zip h/\RpL G H e h f
  |3=>∃(a:On)(o:Obj)(g:List Key)(e:List V)(h:Up)(f:X5),v=.ref a/\F=f.flatten/\H a=Y (.frz o (.dK (g.zip e)))/\g.length=e.length/\l=(g.map aR).zip h/\RpL G H e h f
  |_=>True
 |.obj c fs=>match c,fs with
  |c+1,j :: fs=>∃(i:Nat)(a n:On)(b:Bool)(g:Uv)(e:List V)(h:Up)(f:X5),c+1=i+1/\v=.ref a/\j=(0,.bl b)/\fs=g.zip h/\F=a :: f.flatten/\H a=Y (.ins (G.ct (i+1)).1 n ((g.map (G.ct (i+1)).2).zip e))/\g.length=e.length/\(b=M->G.me 0=Y (.ref a))/\RpL G H e h f
  |0,fs=>∀m t,fs=[(0,.bl M),(m,t)]->∃a,v=.ref a/\G.me m=Y (.ref a)/\Rp G H (.ref a) t F
  |_,_=>True
def Rp.inv(r:Rp G H v t F):RpI G H v F t:=by
 cases r with
 |str s h=>exact⟨rfl,h⟩
 |scr h=>exact⟨_,rfl,rfl,h⟩
 |tup h q=>exact⟨_,_,_,rfl,rfl,h,q⟩
 |lst h q=>exact⟨_,_,_,rfl,rfl,h,q⟩
 |dct h a q=>exact⟨_,_,_,_,_,rfl,rfl,h,a,rfl,q⟩
 |dctZ h a q=>exact⟨_,_,_,_,_,_,rfl,rfl,h,a,rfl,q⟩
 |@exc c=>exact Nat.casesOn (motive:=λc=>RpI G H _ [] (.obj c [])) c (λ_ _ e=>nomatch e) λ_=>trivial
 |ins h l m q=>exact⟨_,_,_,_,_,_,_,_,rfl,rfl,rfl,rfl,rfl,h,l,m,q⟩
 |mk h q=>exact λ_ _ e=>by cases e;exact⟨_,rfl,h,q⟩
 |dctT _ _ _=>trivial
 |dctN _ _ _ _=>trivial
 |_=>rfl
structure Kept(H H':Hp):Prop where
 tup:∀a xs,H a=some (.tup xs)->H' a=some (.tup xs)
 frz:∀a o u,H a=some (.frz o u)->H' a=some (.frz o u)
def Kept.refl(H:Hp):Kept H H:=⟨λ_ _ h=>h,λ_ _ _ h=>h⟩
def Kept.trans{e:Hp}(a:Kept H e)(b:Kept e d):Kept H d:=⟨λc x h=>b.tup c x (a.tup c x h),λc o u h=>b.frz c o u (a.frz c o u h)⟩
def Kept.of(e:bg H b):Kept H b:=⟨λa _ h=>e a _ h,λa _ _ h=>e a _ h⟩
theorem Kept.upd{H:Hp}(d:JT (H a)\/H a=J):Kept H (upd H a o):=by
 have ne:∀b u,H b=Y u->¬JT (Y u)->b≠a:=λb u h nm e=>by
  subst e;rcases d with m | m
  ·rw[h]at m;exact nm m
  ·rw[h]at m;cases m
 exact⟨λb f h=>by rw[aM (ne b _ h λz=>z)];exact h,λb o u h=>by rw[aM (ne b _ h λz=>z)];exact h⟩
def lj.kept{K:Wy}(h:lj K H a b)(k:Kept H d):lj K d a b:=by
 rcases h with⟨o,e⟩ | h
 ·exact .inl ⟨o,k.frz _ _ _ e⟩
 ·exact .inr h
def lj.seq{K:Wy}(h:lj K H a b):JV K H a (b.map V.int):=by
 rcases h with⟨o,e⟩ | h
 ·exact .inl (.inr ⟨o,e⟩)
 ·exact .inr h
def ue{H d:Hp}{a:On}{F:W5}(f:∀b∈a :: F,∀o,H b=Y o->d b=Y o):∀b∈F,∀o,H b=Y o->d b=Y o:=λb m=>f b (Zu _ m)
def wH{H a:Hp}{F:W5}{d:X5}(f:∀b∈(F :: d).flatten,∀o,H b=Y o->a b=Y o):(∀b∈F,∀o,H b=Y o->a b=Y o)/\∀b∈d.flatten,∀o,H b=Y o->a b=Y o:=by
 rw[LL]at f;exact⟨λb m=>f b (Ye _ m),λb m=>f b (ZI _ m)⟩
def Rp.keep(k:Kept H e)(r:Rp G H v t F):(∀a∈F,∀o,H a=Y o->e a=Y o)->Rp G e v t F :=
 Rp.rec (motive_2:=λj q g _=>(∀a∈g.flatten,∀o,H a=Y o->e a=Y o)->RpL G e j q g)
  (λ_=>.non) (λb _=>.bl b) (λi _=>.int i) (λs h _=>.str s h) (λh _=>.scr (h.kept k)) (λh _ d f=>.tup (k.tup _ _ h) (d f)) (λh _ d f=>.lst (f _ Zv _ h) (d (ue f))) (λh l _ d f=>.dct (f _ Zv _ h) l (d (ue f))) (λh l _ d f=>.dctT (f _ Zv _ h) l (d (ue f)))
  (λh l n _ d f=>.dctN (f _ Zv _ h) l (λp m=>(n p m).mono k.tup) (d (ue f))) (λh l _ d f=>.dctZ (k.frz _ _ _ h) l (d f)) (λh x _=>.exc (k.frz _ _ _ h) x) (λh l m _ d f=>.ins (f _ Zv _ h) l m (d (ue f))) (λh _ d f=>.mk h (d f)) (λ_=>.nil) (λ_ _ w u f=>.cons (w (wH f).1) (u (wH f).2)) r
theorem RpL.keep(k:Kept H g):∀{e:List V}{b:Up}{d:X5},RpL G H e b d->(∀a∈d.flatten,∀o,H a=Y o->g a=Y o)->RpL G g e b d:=by
 intro e b
 induction b generalizing e with
 |nil=>intro d r f;cases r;exact .nil
 |cons t b h =>
  intro d r f;cases r with
  |cons r q=>exact .cons (r.keep k (wH f).1) (h q (wH f).2)
def Rp.same{G:Gx}{H:Hp}(e:bg H b)(r:Rp G H v t F):Rp G b v t F:=r.keep (Kept.of e) λa _ o h=>e a o h
def RpL.same{G:Gx}{H:Hp}(e:bg H b)(r:RpL G H v t F):RpL G b v t F:=r.keep (Kept.of e) λa _ o h=>e a o h
def zB{H:Hp}{a:On}{F:W5}(h:JT (H a))(d:∀b∈F,JT (H b)):∀b∈a :: F,JT (H b):=λb m=>(Zg.mp m).elim (λe=>e ▸ h) (d b)
def zW{H:Hp}{a:On}{o:HO}(h:H a=Y o)(m:JT (Y o)):JT (H a):=by rw[h];exact m
def Ir{H:Hp}{F:W5}{a:X5}(e:∀b∈F,JT (H b))(d:∀b∈a.flatten,JT (H b)):∀b∈(F :: a).flatten,JT (H b):=λb m=>by
 rw[LL]at m;exact(Zd.mp m).elim (e b) (d b)
def Rp.J6(r:Rp G H v t F):∀a∈F,JT (H a) :=
 Rp.rec
  (λ_ m=>nomatch m) (λ_ _ m=>nomatch m) (λ_ _ m=>nomatch m) (λ_ _ _ m=>nomatch m) (λ_ _ m=>nomatch m) (λ_ _ b=>b) (λh _ b=>zB (zW h True.intro) b) (λh _ _ b=>zB (zW h True.intro) b) (λh _ _ b=>zB (zW h True.intro) b)
  (λh _ _ _ b=>zB (zW h True.intro) b) (λ_ _ _ b=>b) (λ_ _ _ m=>nomatch m) (λh _ _ _ b=>zB (zW h True.intro) b) (λ_ _ b=>b) (λ_ m=>nomatch m) (λ_ _ e d=>Ir e d) r
theorem RpL.J6:∀{e:List V}{b:Up}{d:X5},RpL G H e b d->∀a∈d.flatten,JT (H a):=by
 intro e b
 induction b generalizing e with
 |nil=>intro d r;cases r;exact λ_ m=>nomatch m
 |cons t b f =>
  intro d r;cases r with
  |cons r q=>exact Ir r.J6 (f q)
def JT.xa(m:JT o):o≠J:=λe=>by subst e;exact m
def Hw{b:X5}(e:VS.JU t=M->F=[])(d:VS.hJ a=M->b.flatten=[])(i:VS.hJ (t :: a)=M):(F :: b).flatten=[]:=by
 have i:=ZP.mp i;rw[LL,e i.1,d i.2];rfl
theorem Rp.JU(r:Rp G H v t F):VS.JU t=M->F=[] :=
 Rp.rec
  (λ_=>rfl) (λ_ _=>rfl) (λ_ _=>rfl) (λ_ _ _=>rfl) (λ_ _=>rfl) (λ_ _ a i=>a i) (λ_ _ _ i=>absurd (i) Zh) (λ_ _ _ _ i=>absurd (i) Zh) (λ_ _ _ _ i=>absurd (i) Zh)
  (λ_ _ _ _ _ i=>absurd (i) Zh) (λ_ _ _ _ i=>absurd (i) Zh) (λ_ _ _=>rfl) (λ_ _ _ _ _ i=>absurd (i) Zh) (λ_ _ _ i=>absurd (i) Zh) (λ_=>rfl) (λ_ _ d b i=>Hw d b i) r
theorem RpL.JU:∀{d:List V}{a:Up}{b:X5},RpL G H d a b->VS.hJ a=M->b.flatten=[]:=by
 intro d a
 induction a generalizing d with
 |nil=>intro b r i;cases r;exact rfl
 |cons t a e =>
  intro b r i;cases r with
  |cons r q=>exact Hw r.JU (e q) i
def RpL.len:∀{b:List V}{a:Up}{d:X5},RpL G H b a d->b.length=a.length/\d.length=a.length:=by
 intro b a
 induction a generalizing b with
 |nil=>intro d r;cases r;exact⟨rfl,rfl⟩
 |cons t a e =>
  intro d r;cases r with
  |cons r q=>exact⟨congrArg (·+1) (e q).1,congrArg (·+1) (e q).2⟩
theorem RpL.get{G:Gx}:∀{a:List V}{b:Up}{d:X5}(i:Nat){t:T},RpL G H a b d->b[i]?=Y t->∃v F,a[i]?=Y v/\d[i]?=Y F/\Rp G H v t F
 |_,_,_,_,_,.nil,e=>by simp at e
 |_,_,_,0,_,.cons r _,e=>by
  simp at e;subst e;exact⟨_,_,rfl,rfl,r⟩
 |_,_,_,i+1,_,.cons _ q,e=>by
  obtain⟨v,F,h,g,f⟩:=RpL.get i q (by simpa using e);exact⟨v,F,by simpa using h,by simpa using g,f⟩
def RpL.append:∀{b:List V}{a:Up}{g:X5}{d:List V}{e:Up}{f:X5},RpL G H b a g->RpL G H d e f->RpL G H (b++d) (a++e) (g++f):=by
 intro b a
 induction a generalizing b with
 |nil=>intro g d e f r s;cases r;exact s
 |cons t a h =>
  intro g d e f r s;cases r with
  |cons r q=>exact .cons r (h q s)
theorem RpL.take:∀{a:List V}{b:Up}{d:X5}(n:Nat),RpL G H a b d->RpL G H (a.take n) (b.take n) (d.take n)
 |_,_,_,0,_=>by simpa using RpL.nil
 |_,_,_,n+1,.nil=>.nil
 |_,_,_,n+1,.cons r q=>.cons r (RpL.take n q)
theorem RpL.drop:∀{a:List V}{b:Up}{d:X5}(n:Nat),RpL G H a b d->RpL G H (a.drop n) (b.drop n) (d.drop n)
 |_,_,_,0,q=>q
 |_,_,_,n+1,.nil=>.nil
 |_,_,_,n+1,.cons r q=>RpL.drop n q
noncomputable def mI:Cell->T
 |.pu t=>t
 |.ow t=>t
noncomputable abbrev JS:=Nat->W5
structure SR(G:Gx)(Z:JS)(U:VS.Env)(O:L2.St)(H:Hp):Prop where
 len:U.length=O.length
 rp:∀i c,U[i]?=some (some c)->∃v,O[i]?=some (some v)/\Rp G H v (mI c) (Z i)
 nd:∀i t,U[i]?=some (some (.ow t))->(Z i).Nodup
 sep:∀i j t c,U[i]?=some (some (.ow t))->U[j]?=some (some c)->i≠j->∀a∈Z i,a∉Z j
noncomputable def fo(Z:JS)(U:VS.Env)(a:On):Prop:=∃j t,U[j]?=Y (Y (.pu t))/\a∈Z j
noncomputable def cQ(Z:JS)(U:VS.Env)(a:On):Prop:=∃j t,U[j]?=Y (Y (.ow t))/\a∈Z j
def Fp(Z:JS)(U:VS.Env)(H:Hp):Md->W5->Prop
 |.fr,F=>F.Nodup/\∀a∈F,H a=J
 |.pu,F=>∀a∈F,H a=J\/fo Z U a
 |.bo,F=>∀a∈F,H a=J\/fo Z U a\/cQ Z U a
theorem SR.same{G:Gx}{H:Hp}(s:SR G Z U O H)(e:bg H a):SR G Z U O a :=
 ⟨s.len,λi c h=>let ⟨v,d,b⟩:=s.rp i c h;⟨v,d,b.same e⟩,s.nd,s.sep⟩
def SR.Oe(s:SR G Z U O H)(h:fo Z U a):JT (H a):=by
 obtain⟨j,t,d,b⟩:=h;obtain⟨v,_,r⟩:=s.rp j _ d;exact r.J6 a b
def SR.Lm(s:SR G Z U O H)(h:cQ Z U a):JT (H a):=by
 obtain⟨j,t,d,b⟩:=h;obtain⟨v,_,r⟩:=s.rp j _ d;exact r.J6 a b
def Fp.nil:Fp Z U H m []:=by
 cases m
 ·exact⟨Y6,λa h=>by simp at h⟩
 ·exact λa h=>by simp at h
 ·exact λa h=>by simp at h
theorem Fp.bo{H:Hp}:∀{m:Md},Fp Z U H m F->Fp Z U H .bo F
 |.fr,h=>λa m=>.inl (h.2 a m)
 |.pu,h=>λa m=>(h a m).elim .inl λz=>.inr (.inl z)
 |.bo,h=>h
theorem Fp.pu{U:VS.Env}{H:Hp}:∀{m:Md},m ≠ .bo->Fp Z U H m F->Fp Z U H .pu F
 |.fr,_,h=>λa m=>.inl (h.2 a m)
 |.pu,_,h=>h
 |.bo,n,_=>absurd L n
theorem Fp.back(e:bg H b):∀{m:Md},Fp Z U b m F->Fp Z U H m F
 |.fr,h=>⟨h.1,λa m=>e.free (h.2 a m)⟩
 |.pu,h=>λa m=>(h a m).imp e.free id
 |.bo,h=>λa m=>(h a m).imp e.free id
theorem Fp.up{U:VS.Env}{m:Md}(f:Fp Z U H m F)(r:Rp G a v t F):Fp Z U H (VS.up m t).1 F:=by
 unfold VS.up;by_cases h:VS.JU t=M
 ·rw[r.JU h];exact Fp.nil
 ·simp only[h,if_false,Y3];exact f
def tE(G:Gx)(c:Ex):TE:=λO H Q=>∃Z U m r,SR G Z U O H/\c U=Y (m,r)/\∀v a F,bg H a->Rp G a v r F->Fp Z U H m F->Q v a
def PV(G:Gx)(X:Cx)(e:Expr)(c:Ex):Prop:=PE X e (tE G c)
def PE.weak{X:Cx}(h:PE X e t)(w:∀O H Q,b O H Q->t O H Q):PE X e b:=λa s O H Q I q=>h a s O H Q I (w O H Q q)
def PT.weak{X:Cx}(h:PT X e t)(w:∀O H Q,b O H Q->t O H Q):PT X e b:=λa s O H Q I q=>h a s O H Q I (w O H Q q)
def PA.weak{X:Cx}(h:PA X e t)(w:∀O H Q,b O H Q->t O H Q):PA X e b:=λpos a s O H Q I q=>h pos a s O H Q I (w O H Q q)
def tT(G:Gx)(c:Ex):TT:=λO H Q=>∃Z U m r b,SR G Z U O H/\c U=Y (m,r)/\OM r=Y b/\∀a,bg H a->Q b a
def LY(G:Gx)(X:Cx)(e:Expr)(c:Ex):Prop:=PT X e (tT G c)
noncomputable def Lk(l:Ur)(a:X5):W5:=match l,a with
 |v :: l,F :: a=>match v.1 with
  |.fr=>F++Lk l a
  |_=>Lk l a
 |_,_=>[]
structure PJ(Z:JS)(U:VS.Env)(H:Hp)(l:Ur)(Fs:X5):Prop where
 each:∀(i:Nat) v F,l[i]?=some v->Fs[i]?=some F->Fp Z U H v.1 F
 nd:(Lk l Fs).Nodup
def tEs(G:Gx)(c:J8):TA:=λO H Q=>∃Z U l,SR G Z U O H/\c U=Y l/\∀b a d,bg H a->RpL G a b (trees l) d->PJ Z U H l d->Q b a
def KD(G:Gx)(X:Cx)(a:List Expr)(c:J8):Prop:=PA X a (tEs G c)
section
def ah{i j pos}:PV G X (.Constant (.int i) j pos) (Q3 i):=PE.weak qU λO H Q d=>by
 obtain⟨Z,U,m,r,s,e,k⟩:=d;cases (e);exact k _ _ _ (bg.refl _) (.int i) Fp.nil
def ub{i j pos}:PV G X (.Constant (.bool i) j pos) (eC (.bl i)):=PE.weak Hc λO H Q d=>by
 obtain⟨Z,U,m,r,s,e,k⟩:=d;cases (e);exact k _ _ _ (bg.refl _) (.bl i) Fp.nil
def vp{j pos}:PV G X (.Constant .none j pos) (eC .non):=PE.weak BA λO H Q d=>by
 obtain⟨Z,U,m,r,s,e,k⟩:=d;cases (e);exact k _ _ _ (bg.refl _) .non Fp.nil
def oH{j pos}(h:x=sx t:=by decide +kernel)(f:{`q1,jW t}):PV G X (.Constant (.str x) j pos) (eC (.str t)):=PE.weak Gg λO H Q d=>by
 obtain⟨Z,U,m,r,s,e,k⟩:=d;cases (e);subst h;exact k _ _ _ (bg.refl _) (.str t f) Fp.nil
def bH{X:Cx}(i:Nat)(w:{`q2,X.N[i]?=Y x})(p:{`q5,MZ X.env.scope x})(u:{`q1,K3 x})(j:{`q1,K4 x}):PV G X (.Name x g) (ab i):=PE.weak (gp w p u j) λO H Q q=>by
 obtain⟨Z,U,m,r,s,e,k⟩:=q;unfold ab at e;split at e
 ·rename_i t h;obtain⟨v,n,d⟩:=s.rp _ _ h;have o:=Zl e;have y:t=r:=congrArg Prod.snd o;have em:(VS.up .pu t).1=m:=congrArg Prod.fst o;rw[← y,← em]at k;refine⟨v,n,k v H (Z i) (bg.refl _) d ?_⟩;have f:Fp Z U H .pu (Z i):=λa l=>.inr ⟨i,_,h,l⟩;exact f.up d
 ·rename_i t h;obtain⟨v,n,d⟩:=s.rp _ _ h;cases e;exact⟨v,n,k v H (Z i) (bg.refl _) d λa l=>.inr (.inr ⟨i,_,h,l⟩)⟩
 ·cases e
def Di{v:V}(i:Gl X x)(h:X.mg x=Y u)(r:RelV v u)(f:∀H,Rp G H v t [])(j:{`q1,K3 x}):PV G X (.Name x d) (eC t) :=
 PE.weak (C1 i h r j) λO H Q g=>by
  obtain⟨Z,U,m,l,s,e,k⟩:=g;cases (e);exact k _ _ _ (bg.refl _) (f H) Fp.nil
structure Si(G:Gx)(Z:JS)(U:VS.Env)(H0 H:Hp)(x y:Val)(u w:V)(F1 F2:W5):Prop where
 same:bg H0 H
 r1:Rp G H u x.2 F1
 r2:Rp G H w y.2 F2
 f1:Fp Z U H0 x.1 F1
 f2:Fp Z U H0 y.1 F2
 nd:x.1=.fr->y.1=.fr->(F1++F2).Nodup
def fZ(G:Gx)(r:R2)(f:Val->Val->Uq):Prop:=∀(Z:JS)(U:VS.Env)(e H:Hp)(x y:Val)(u w:V)(h g:W5)(m:Md)(t:T)(Q:VK),Si G Z U e H x y u w h g->f x y=Y (m,t) →
 (∀v d F,bg H d->Rp G d v t F->Fp Z U e m F->Q v d)->r u w H Q
def Aa{G:Gx}{ca cb:Ex}{O:L2.St}{H:Hp}{Q:V->V->Hp->Prop}{Z:JS}{U:VS.Env}{x y:Val}(s:SR G Z U O H)(m:ca U=Y x)(l:cb U=Y y)(k:∀u w d f e,Si G Z U H d x y u w f e->Q u w d):tE G ca O H λu g=>tE G cb O g λw d=>Q u w d:=by
 refine⟨Z,U,x.1,x.2,s,m,λu g f e1 r1 f1=>⟨Z,U,y.1,y.2,s.same e1,l,λw d e e2 r2 f2=>k u w d f e ⟨e1.trans e2,r1.same e2,r2,f1,f2.back e1,λi h=>?_⟩⟩⟩;rw[i]at f1;rw[h]at f2;refine ZA.mpr ⟨f1.1,f2.1,λa j b hb z=>?_⟩;subst z;exact JT.xa (r1.J6 a j) (f2.2 a hb)
def lV(g:fZ G r f)(h:tE G (e2 f ca cb) O H Q):SJ r (tE G ca) (tE G cb) O H Q:=by
 obtain⟨Z,U,m,t,s,e,k⟩:=h;obtain⟨x,j,e⟩:=Zz.mp e;obtain⟨y,i,e⟩:=Zz.mp e;exact Aa s j i λu w l p o d=>g Z U H l x y u w p o m t Q d e λv n F e1 r1 f1=>k v n F (d.same.trans e1) r1 f1
def sJ(g:OpR X (binaryOp d) r)(e:fZ G r f)(j:PV G X a ca)(i:PV G X b cb):PV G X (.BinOp a d b pos) (e2 f ca cb) :=
 PE.weak (HP g j i) λO H Q h=>lV e h
def q9(g:OpR X (UV d) r)(e:fZ G r f)(l:PV G X a ca)(j:PV G X b cb)(i:behindInMarks d b=R):PV G X (.Compare a [d] [b] pos) (e2 f ca cb) :=
 PE.weak (Dz g l j i) λO H Q h=>lV e h
noncomputable def Tells(f:Val->Val->Uq):Prop:=∀x y m t,f x y=Y (m,t)->∃b,t=.bl b
def Rp.KR{b:Bool}(r:Rp G H v (.bl b) F):v=.bl b:=r.inv
def Rp.int_inv{b:Int}(r:Rp G H v (.int b) F):v=.int b:=r.inv
def Rp.str_inv{b:Tx}(r:Rp G H v (.str b) F):v=.str (sx b)/\jW b:=r.inv
def rX{c:Ex}(h:tT G c O H Q)(f:∀U m r,c U=Y (m,r)->∃b,r=.bl b)(w:∀Q,tE G c O H Q->t O H Q):Bg t O H Q:=by
 obtain⟨Z,U,m,r,b,s,e,d,k⟩:=h;refine w _ ⟨Z,U,m,r,s,e,λv i F e1 r1 f1=>?_⟩;obtain⟨j,g⟩:=f U m r e;rw[g]at d r1;cases (d);exact⟨_,r1.KR,k i e1⟩
def fz(j:OpR X (UV d) r)(g:fZ G r f)(i:Tells f)(o:PV G X a ca)(n:PV G X b cb)(l:behindInMarks d b=R):LY G X (.Compare a [d] [b] pos) (e2 f ca cb) :=
 PT.weak (CC j o n l) λO H Q h=>rX h (λU m r e=>by
  obtain⟨x,_,e⟩:=Zz.mp e;obtain⟨y,_,e⟩:=Zz.mp e;exact i x y m r e) λQ h=>lV g h
def bJ{G:Gx}{Z:JS}{U:VS.Env}{e H:Hp}{m:Md}{t:T}{v:V}{Q:VK}(k:∀v d F,bg H d->Rp G d v t F->Fp Z U e m F->Q v d)(r:Rp G H v t []):Q v H:=k v H [] (bg.refl _) r Fp.nil
def cV(h:H p=J):bg H (upd H p o):=λb d e=>by rw[aM (cO e h)];exact e
theorem Fp.new(d:g p=J)(h:p∉F):∀{m:Md},Fp Z U g m F->Fp Z U g m (p :: F)
 |.fr,f=>⟨ZW.mpr ⟨h,f.1⟩,λa m=>(Zg.mp m).elim (λe=>by rw[e];exact d) (f.2 a)⟩
 |.pu,f=>λa m=>(Zg.mp m).elim (λe=>by rw[e];exact .inl d) (f a)
 |.bo,f=>λa m=>(Zg.mp m).elim (λe=>by rw[e];exact .inl d) (f a)
def rD(e:L4 d l=Y (m,t)):t=.lst l/\l.length<=gL/\m=(if hJ l then .fr else d):=by
 unfold L4 at e;split at e
 ·rename_i h;cases e;exact⟨rfl,h,rfl⟩
 ·cases e
def jG{G:Gx}{Z:JS}{U:VS.Env}{i H:Hp}{o m:Md}{l:Up}{t:T}{n:List V}{q:X5}{Q:VK}(d:bg i H)(e:L4 o l=Y (m,t))(r:RpL G H n l q)(f:Fp Z U i o q.flatten)(k:∀v j F,bg H j->Rp G j v t F->Fp Z U i m F->Q v j):∀p,H p=J->Q (.ref p) (upd H p (.lst n)):=by
 intro p g;obtain⟨rfl,s,rfl⟩:=rD e;refine k _ _ _ (cV g) (.lst aH (r.same (cV g))) ?_;have np:=λm=>JT.xa (r.J6 p m) g;by_cases h:hJ l=M
 ·rw[h,Zs L];rw[r.JU h]at np ⊢;exact Fp.nil.new (d.free g) np
 ·rw[Zo h];exact f.new (d.free g) np
theorem Si.join(i:Si G Z U h H x y u w f e){F:W5}(g:F.Sublist (f++e)):Fp Z U h (x.1.join y.1) F:=by
 obtain⟨same,r1,r2,f1,f2,nd⟩:=i;obtain⟨l,x⟩:=x;obtain⟨j,y⟩:=y;have both:∀{P:On->Prop},(∀a∈f,P a)->(∀a∈e,P a)->∀a∈F,P a:=λn m a d=>((λa d=>Zd.mp (g.subset d)) a d).elim (n a) (m a);cases l<;>cases j
 ·exact⟨(nd L L).sublist g,both f1.2 f2.2⟩
 ·exact both (λa d=>.inl (f1.2 a d)) f2
 ·exact both (λa d=>.inl (f1.2 a d)) f2
 ·exact both f1 (λa d=>.inl (f2.2 a d))
 ·exact both f1 f2
 ·exact both (f1.bo) f2
 ·exact both f1 (λa d=>.inl (f2.2 a d))
 ·exact both f1 (f2.bo)
 ·exact both f1 f2
def gU:gL=sizeLine:=rfl
def fL(s:Tx):(sx s).length=s.length:=rfl
def GB(s t:Tx):sx s++sx t=sx (s++t):=by
 show Str.append (sx s) (sx t)=_;simp[sx,Str.append]
def Rp.lst_inv(r:Rp G H v (.lst l) F):∃a d e,v=.ref a/\F=a :: e.flatten/\H a=Y (.lst d)/\RpL G H d l e:=r.inv
def Rp.Kq(r:Rp G H v (.tup l) F):∃a d e,v=.ref a/\F=e.flatten/\H a=Y (.tup d)/\RpL G H d l e:=r.inv
def Rp.Pd(r:Rp G H v (.scr l) F):∃a,v=.ref a/\F=[]/\lj G.K H a l:=r.inv
end
section
def Hs:R2:=λx y H Q=>Nm (λi j=>.int (i+j)) x y H Q\/(∃i j,x=.str i/\y=.str j/\i.length+j.length<=KM/\Q (.str (i++j)) H)\/Iw x y H Q
def Dy:OpR X (binaryOp .Add) Hs:=G7.or (u4.or E7)
def GD:fZ G Hs cu:=by
 intro Z U D H x y u w A z m t Q f e k;have q:=λ{F:W5} (h:List.Sublist F (A++z))=>f.join h;obtain⟨C,x⟩:=x;obtain⟨B,y⟩:=y;obtain⟨same,r1,r2,f1,f2,nd⟩:=f;unfold cu at e;split at e
 ·rename_i i _ j e1 e2;cases e1;cases e2;cases e;exact .inl ⟨_,_,r1.int_inv,r2.int_inv,bJ k (.int _)⟩
 ·rename_i s _ p e1 e2;cases e1;cases e2;split at e
  ·rename_i d;cases e;refine .inr (.inl ⟨_,_,r1.str_inv.1,r2.str_inv.1,by rw[fL,fL,← gU];exact d,?_⟩);rw[GB];exact bJ k (.str _ ⟨by rw[Zx];exact d,λc r=>(Zd.mp r).elim (r1.str_inv.2.2 c) (r2.str_inv.2.2 c)⟩)
  ·cases e
 ·rename_i s _ p e1 e2;cases e1;cases e2;obtain⟨a,n,L,rfl,rfl,v,l⟩:=r1.lst_inv;obtain⟨b,o,E,rfl,rfl,hb,g⟩:=r2.lst_inv;obtain⟨_,d,_⟩:=rD e;refine .inr (.inr ⟨a,b,n,o,rfl,rfl,v,hb,?_,jG same e (l.append g) (q ?_) k⟩)
  ·rw[Zx]at d;rw[l.len.1,g.len.1,← gU];exact d
  ·rw[Yh];exact(YR _ _).append (YR _ _)
 ·cases e
def GZ:fZ G (Nm λi j=>.int (i-j)) kZ:=by
 intro Z U f H x y u w h g m t Q a e k;obtain⟨d,x⟩:=x;obtain⟨b,y⟩:=y;obtain⟨same,r1,r2,f1,f2,nd⟩:=a;unfold kZ at e;split at e
 ·rename_i e1 e2;cases e1;cases e2;cases e;exact⟨_,_,r1.int_inv,r2.int_inv,bJ k (.int _)⟩
 ·cases e
def BZ:fZ G (rI Ih λi j=>.int (i/j)) iy:=by
 intro Z U f H x y u w l g m t Q a e k;obtain⟨d,x⟩:=x;obtain⟨b,y⟩:=y;obtain⟨same,r1,r2,f1,f2,nd⟩:=a;unfold iy at e;split at e
 ·rename_i e1 e2;cases e1;cases e2;split at e
  ·rename_i h;cases e;exact⟨_,_,r1.int_inv,r2.int_inv,h,bJ k (.int _)⟩
  ·cases e
 ·cases e
def E4:fZ G (rI (λ_ j=>0<j) λi j=>.int (i%j)) oMod:=by
 intro Z U f H x y u w l g m t Q a e k;obtain⟨d,x⟩:=x;obtain⟨b,y⟩:=y;obtain⟨same,r1,r2,f1,f2,nd⟩:=a;unfold oMod at e;split at e
 ·rename_i e1 e2;cases e1;cases e2;split at e
  ·rename_i h;cases e;exact⟨_,_,r1.int_inv,r2.int_inv,h,bJ k (.int _)⟩
  ·cases e
 ·cases e
theorem oN:∀(s t:Tx),NY s t=decide (s<t)
 |[],[]=>by simp[NY]
 |[],_ :: _=>by simp[NY]
 |_ :: _,[]=>by simp[NY]
 |a :: s,b :: t=>by
  unfold NY;rw[oN s t];by_cases e:a<b
  ·simp[e,WO]
  ·by_cases d:b<a
   ·have:¬a=b:=by exact WX d
    simp[e,d,WO,this]
   ·have:a=b:=by lia
    subst this;simp[WO]
def rLt:R2:=λx y H Q=>Nm (λi j=>.bl (decide (i<j))) x y H Q\/(∃i j,x=.str i/\y=.str j/\Q (.bl (decide (i.cps.toList<j.cps.toList))) H)
def vm:OpR X (UV .Lt) rLt:=Iq.or yj
def BE:fZ G rLt oLt:=by
 intro Z U g H x y u w i h m t Q b e k;obtain⟨f,x⟩:=x;obtain⟨d,y⟩:=y;obtain⟨same,r1,r2,f1,f2,nd⟩:=b;unfold oLt at e;split at e
 ·rename_i e1 e2;cases e1;cases e2;cases e;exact .inl ⟨_,_,r1.int_inv,r2.int_inv,bJ k (.bl _)⟩
 ·rename_i s _ a e1 e2;cases e1;cases e2;cases e;refine .inr ⟨_,_,r1.str_inv.1,r2.str_inv.1,?_⟩;have:decide ((sx s).cps.toList<(sx a).cps.toList)=NY s a:=by rw[oN];exact decide_eq_decide.mpr (by simp[sx])
  rw[this];exact bJ k (.bl _)
 ·cases e
def kL:Tells oLt:=by
 intro x y m t e;unfold oLt at e;split at e<;>first | (cases e;exact⟨_,rfl⟩) | cases e
def GX:Ub=2 ^ 64:=rfl
def FV:fZ G (rI Dx λi j=>.int (i*j)) ig:=by
 intro Z U f H x y u w l g m t Q a e k;obtain⟨d,x⟩:=x;obtain⟨b,y⟩:=y;obtain⟨same,r1,r2,f1,f2,nd⟩:=a;unfold ig at e;split at e
 ·rename_i e1 e2;cases e1;cases e2;split at e
  ·rename_i h;cases e;refine⟨_,_,r1.int_inv,r2.int_inv,?_,bJ k (.int _)⟩;rw[GX]at h;exact h
  ·cases e
 ·cases e
def yf:OpR X (UV .LtE) (λx y H Q=>∃i j,x=.str i/\y=.str j/\Q (.bl (!decide (j.cps.toList<i.cps.toList))) H):=by
 intro a s O H x y v u Q I d b h;obtain⟨i,j,rfl,rfl,q⟩:=h;obtain⟨t,rfl⟩:=d;obtain⟨e,rfl⟩:=b;exact PySem.P.le_str ⟨.bl _,H,I,rfl,q⟩
def rLe:R2:=λx y H Q=>Nm (λi j=>.bl (decide (i<=j))) x y H Q\/(∃i j,x=.str i/\y=.str j/\Q (.bl (!decide (j.cps.toList<i.cps.toList))) H)
def Bm:OpR X (UV .LtE) rLe:=Hm.or yf
def El:fZ G rLe oLe:=by
 intro Z U g H x y u w i h m t Q b e k;obtain⟨f,x⟩:=x;obtain⟨d,y⟩:=y;obtain⟨same,r1,r2,f1,f2,nd⟩:=b;unfold oLe at e;split at e
 ·rename_i e1 e2;cases e1;cases e2;cases e;exact .inl ⟨_,_,r1.int_inv,r2.int_inv,bJ k (.bl _)⟩
 ·rename_i s _ a e1 e2;cases e1;cases e2;cases e;refine .inr ⟨_,_,r1.str_inv.1,r2.str_inv.1,?_⟩;have:decide ((sx a).cps.toList<(sx s).cps.toList)=NY a s:=by rw[oN];exact decide_eq_decide.mpr (by simp[sx])
  rw[this];exact bJ k (.bl _)
 ·cases e
def t4:Tells oLe:=by
 intro x y m t e;unfold oLe at e;split at e<;>first | (cases e;exact⟨_,rfl⟩) | cases e
def vt{i:Int}:Lf n i=Rf n i:=by
 unfold Lf Rf;by_cases h:0<=i
 ·rw[Zs h,Zs h]
 ·rw[Zo h,Zo h];by_cases a:0<=i+n
  ·rw[Zs a,Zs (by lia)]
  ·rw[Zo a,Zo (by lia)]
def l5{α:Type}{l:List α}{i:Int}{k:Nat}{x:α}(b:Lf l.length i=Y k)(a:l[k]?=Y x):RL l i=Y x:=by
 unfold RL;rw[← vt,b];exact a
def du{a:X5}{F:W5}{i:Nat}(h:a[i]?=Y F):F.Sublist a.flatten:=by
 obtain⟨b,rfl⟩:=ZY.mp h;exact List.sublist_flatten_of_mem (Yp b)
theorem Fp.sub{F:W5}(h:F.Sublist d):∀{m:Md},Fp Z U H m d->Fp Z U H m F
 |.fr,f=>⟨f.1.sublist h,λa b=>f.2 a (h.subset b)⟩
 |.pu,f=>λa b=>f a (h.subset b)
 |.bo,f=>λa b=>f a (h.subset b)
def AG:fZ G (rIx G.K) aJ:=by
 intro Z U N H x y u w P O m t Q B e k;obtain⟨L,x⟩:=x;obtain⟨E,y⟩:=y;obtain⟨same,r1,r2,f1,f2,nd⟩:=B;unfold aJ at e;split at e
 ·rename_i p l o i e1 e2;cases e1;cases e2;obtain⟨j,d,e⟩:=Zz.mp e;obtain⟨x,b,e⟩:=Zt.mp e;obtain⟨a,n,D,rfl,rfl,q,h⟩:=r1.lst_inv;obtain⟨v,F,s,r,g⟩:=h.get j b;refine .inl ⟨a,n,i,v,rfl,r2.int_inv,JV.of q,l5 (by rw[h.len.1];exact d) s,?_⟩;have f:=((f1.sub (YR _ _)).sub (du r)).up g;unfold VS.sub at e;rw[e]at f;have z:x=t:=congrArg Prod.snd e;rw[z]at g;exact k v H F (bg.refl _) g f
 ·rename_i p l o i e1 e2;cases e1;cases e2;obtain⟨j,d,e⟩:=Zz.mp e;obtain⟨x,b,e⟩:=Zt.mp e;obtain⟨a,n,D,rfl,rfl,q,h⟩:=r1.Kq;obtain⟨v,F,s,r,g⟩:=h.get j b;refine .inr (.inl ⟨a,n,i,v,rfl,r2.int_inv,KY.of q,l5 (by rw[h.len.1];exact d) s,?_⟩);have f:=(f1.sub (du r)).up g;unfold VS.sub at e;rw[e]at f;have z:x=t:=congrArg Prod.snd e;rw[z]at g;exact k v H F (bg.refl _) g f
 ·rename_i p l o i e1 e2;cases e1;cases e2;obtain⟨j,d,e⟩:=Zz.mp e;obtain⟨x,b,e⟩:=Zt.mp e;cases e;obtain⟨a,rfl,rfl,sa⟩:=r1.Pd;refine .inl ⟨a,l.map V.int,i,.int x,rfl,r2.int_inv,sa.seq,l5 (by rw[Zw];exact d) (by rw[ZG,b];rfl),bJ k (.int _)⟩
 ·rename_i p l o i e1 e2;cases e1;cases e2;obtain⟨j,d,e⟩:=Zz.mp e;obtain⟨x,b,e⟩:=Zt.mp e;cases e;obtain⟨rfl,A⟩:=r1.str_inv;refine .inr (.inr ⟨sx l,i,x,rfl,r2.int_inv,by rw[fL,← gU];exact A.1,l5 (k:=j) (by simpa[sx] using d) (by simpa[sx] using b),?_⟩);exact bJ k (.str [x] ⟨by show 1<=gL;decide,λc C=>by rw[Zc.mp C];exact A.2 x (YZ b)⟩)
 ·cases e
end
section
theorem xu:∀{l:Ur}{d:X5},x∈Lk l d->∃(i:Nat)(v:Val)(F:W5),l[i]?=Y v/\v.1=.fr/\d[i]?=Y F/\x∈F
 |[],_,h=>by simp[Lk]at h
 |_ :: _,[],h=>by simp[Lk]at h
 |v :: l,F :: d,h=>by
  have go:x∈Lk l d->∃(i:Nat)(u:Val)(f:W5),(v :: l)[i]?=Y u/\u.1=.fr/\(F :: d)[i]?=Y f/\x∈f:=λm=>by
   refine L2.aq λs g=>?_;obtain⟨i,u,f,r,q,o,n⟩:=xu m;refine g ?_;exact⟨i+1,u,f,by simpa using r,q,by simpa using o,n⟩
  unfold Lk at h;split at h
  ·rename_i j;rcases Zd.mp h with h | h
   ·exact⟨0,v,F,rfl,j,rfl,h⟩
   ·exact go h
  ·exact go h
def ag:KD G X [] ak:=PA.weak j6 λO H Q d=>by
 obtain⟨Z,U,l,s,e,k⟩:=d;cases (e);exact k [] H [] (bg.refl _) .nil ⟨λi v F h=>by simp at h,by simp[Lk]⟩
def aa(D:PV G X e ca)(B:KD G X es cs)(A:{`q2,K1 e es X}):KD G X (e :: es) (ae ca cs):=PA.weak (fu D B A) λO H Q C=>by
 refine L2.aq λP_ n=>?_;obtain⟨Z,U,l,s,e,k⟩:=C;obtain⟨x,P,e⟩:=Zz.mp e;obtain⟨j,N,e⟩:=Zz.mp e;cases e;refine n ?_;refine⟨Z,U,x.1,x.2,s,P,λv H1 F e1 r1 f1=>⟨Z,U,j,s.same e1,N,λm S Fs e2 r2 f2=>k (v :: m) S (F :: Fs) (e1.trans e2) (.cons (r1.same e2) r2) ⟨λi u h g d=>?_,?_⟩⟩⟩
 ·cases i with
  |zero =>
   cases (g);cases (d);exact f1
  |succ i=>exact(f2.each i u h (by simpa using g) (by simpa using d)).back e1
 ·unfold Lk;split
  ·rename_i w;rw[w]at f1;refine ZA.mpr ⟨f1.1,f2.nd,λy r z o q=>?_⟩;subst q;obtain⟨i,u,h,g,d,L,E⟩:=xu o;have f:=f2.each i u h g L;rw[d]at f;exact JT.xa (r1.J6 y r) (f.2 y E)
  ·exact f2.nd
theorem kU:∀{l:Ur},cJ l=.fr->∀v∈l,v.1=.fr
 |[],_,v,h=>by simp at h
 | (m,t) :: r,e,v,h=>by
  have d:m.join (cJ r)=.fr:=e;rcases Zg.mp h with rfl | h
  ·exact(by
   revert d;cases m<;>cases cJ r<;>simp[Md.join])
  ·exact kU (by
   revert d;cases m<;>cases cJ r<;>simp[Md.join]) v h
theorem k9:∀{l:Ur},cJ l ≠ .bo->∀v∈l,v.1 ≠ .bo
 |[],_,v,h=>by simp at h
 | (m,t) :: r,e,v,h=>by
  have d:m.join (cJ r) ≠ .bo:=e;rcases Zg.mp h with rfl | h
  ·exact(by
   revert d;cases m<;>cases cJ r<;>simp[Md.join])
  ·exact k9 (by
   revert d;cases m<;>cases cJ r<;>simp[Md.join]) v h
theorem wO:∀{l:Ur}{d:X5},l.length=d.length->(∀v∈l,v.1=.fr)->Lk l d=d.flatten
 |[],[],_,_=>rfl
 |[],_ :: _,h,_=>by simp at h
 |_ :: _,[],h,_=>by simp at h
 |v :: l,F :: d,h,q=>by
  unfold Lk;rw[q v Zv,wO (by simpa using h) λu f=>q u (Zu _ f)];rfl
def gH{d:X5}(h:x∈d.flatten):∃(i:Nat)(F:W5),d[i]?=Y F/\x∈F:=by
 obtain⟨F,j,f⟩:=List.mem_flatten.mp h;obtain⟨i,g⟩:=List.mem_iff_getElem?.mp j;exact⟨i,F,g,f⟩
def PJ.join(f:PJ Z U H l j)(n:l.length=j.length):Fp Z U H (cJ l) j.flatten:=by
 have at':∀x∈j.flatten,∃v F,v∈l/\x∈F/\Fp Z U H v.1 F:=λx d=>by
  obtain⟨i,F,m,g⟩:=gH d;have:i<l.length:=by
   have:=(ZY.mp m).1;lia
  exact⟨l[i],F,Yp this,g,f.each i _ F (Zp this) m⟩
 cases e:cJ l with
 |fr =>
  have al:=kU e;refine⟨by rw[← wO n al];exact f.nd,λx d=>?_⟩;obtain⟨v,F,h,g,q⟩:=at' x d;rw[al v h]at q;exact q.2 x g
 |pu =>
  intro x d;obtain⟨v,F,h,g,q⟩:=at' x d;exact Fp.pu ((k9 (l:=l) (by rw[e];decide)) v h) q x g
 |bo =>
  intro x d;obtain⟨v,F,h,g,q⟩:=at' x d;exact q.bo x g
structure Args(G:Gx)(Z:JS)(U:VS.Env)(H0 H:Hp)(l:Ur)(vs:List V)(Fs:X5):Prop where
 same:bg H0 H
 rp:RpL G H vs (trees l) Fs
 fp:PJ Z U H0 l Fs
theorem Args.len(A:Args G Z U g H l f d):l.length=d.length:=by
 have:=A.rp.len.2;simp[trees]at this;exact Eq.symm this
def fj(G:Gx)(r:List V->Hp->VK->Prop)(f:Ur->Uq):Prop:=∀(Z:JS)(U:VS.Env)(h H:Hp)(l:Ur)(g:List V)(i:X5)(m:Md)(t:T)(Q:VK),Args G Z U h H l g i->f l=Y (m,t) →
 (∀v d F,bg H d->Rp G d v t F->Fp Z U h m F->Q v d)->r g H Q
def Ej(h:fj G r f)(s:SR G Z U O H)(i:cs U=Y l)(e:f l=Y (m,t))(k:∀v d F,bg H d->Rp G d v t F->Fp Z U H m F->Q v d):tEs G cs O H λg n=>r g n Q :=
 ⟨Z,U,l,s,i,λg d o e1 r1 f1=>h Z U H d l g o m t Q ⟨e1,r1,f1⟩ e λv j F e2 r2 f2=>k v j F (e1.trans e2) r2 f2⟩
def jh(q:dm X (.builtin d) r)(g:fj G r f)(o:Gl X x)(n:X.mg x=J)(h:bootBuiltins x=Y (.builtin d))(u:KD G X (e :: es) cs)(j:{`q1,x ≠ "__name__"})(w:{`q1,K3 x})(he:{`q2,K1 e es X})(hpl:{`q2,K2 pos es X}):PV G X (.Call (.Name x p) (e :: es) [] pos) (eN f cs) :=
 PE.weak (n9 q o n h u j w he hpl) λO H Q i=>by
  obtain⟨Z,U,m,t,s,e,k⟩:=i;obtain⟨l,v,e⟩:=Zz.mp e;exact Ej g s v e k
def jM{G:Gx}{X:Cx}{es:List Expr}{cs:J8}{pos p:Pos}{r:List V->Hp->VK->Prop}{f:Ur->Uq}{Ty:String}{x:Str}(q:dm X (.type Ty) r)(g:fj G r f)(o:Gl X x)(n:X.mg x=J)(h:bootBuiltins x=Y (.type Ty))(u:KD G X (e :: es) cs)(j:{`q1,x ≠ "__name__"})(w:{`q1,K3 x})(he:{`q2,K1 e es X})(d:{`q2,K2 pos es X}):PV G X (.Call (.Name x p) (e :: es) [] pos) (eN f cs) :=
 PE.weak (pR q o n h u j w he d) λO H Q i=>by
  obtain⟨Z,U,m,t,s,e,k⟩:=i;obtain⟨l,v,e⟩:=Zz.mp e;exact Ej g s v e k
def dn(h:KD G X es cs):PV G X (.List es pos) (ic cs):=PE.weak (FC h) λO H Q f=>by
 obtain⟨Z,U,m,t,s,e,k⟩:=f;obtain⟨l,i,e⟩:=Zz.mp e;refine⟨Z,U,l,s,i,λd n o e1 r1 f1=>?_⟩;have A:Args G Z U H n l d o:=⟨e1,r1,f1⟩
 obtain⟨_,g,_⟩:=rD e;refine⟨by rw[r1.len.1,← gU];exact g,jG e1 e r1 (f1.join A.len) λv j F e2 r2 f2=>k v j F (e1.trans e2) r2 f2⟩
def lT{x1}(h:KD G X es cs):PV G X (.Tuple es x1 pos) (lY cs):=PE.weak (GL h) λO H Q d=>by
 obtain⟨Z,U,m,t,s,e,k⟩:=d;obtain⟨l,n,e⟩:=Zz.mp e;refine⟨Z,U,l,s,n,λf g i e1 r1 f1=>?_⟩;have A:Args G Z U H g l f i:=⟨e1,r1,f1⟩
 unfold p9 at e;split at e
 ·rename_i j;cases e;refine⟨by rw[r1.len.1,← gU,trees,Zw];exact j,λq d=>?_⟩;have r2:Rp G (upd g q (.tup f)) (.ref q) (.tup (trees l)) i.flatten:=.tup aH (r1.same (cV d));exact k _ _ _ (e1.trans (cV d)) r2 (Fp.up (f1.join A.len) r2)
 ·cases e
def Dd(r:Rp G H v t F)(h:OM t=Y k):FS G.K v H k:=by
 cases r with
 |non=>cases h;rfl
 |bl b=>cases h;rfl
 |int i=>cases h;rfl
 |str s j =>
  cases h;refine⟨by rw[fL,← gU];exact j.1,?_⟩;rw[fL];cases s with
  |nil=>rfl
  |cons a r =>
   have:((List.length (a :: r):Int) != 0)=M:=by simp;lia
   rw[this];rfl
 |scr d=>cases h
 |tup d q =>
  cases h;refine .inr (.inl ⟨_,KY.of d,?_⟩);have:=q.len.1;rename_i f g _;cases f<;>cases g<;>simp_all
 |lst d q =>
  cases h;refine .inl ⟨_,JV.of d,?_⟩;have:=q.len.1;rename_i f g _;cases f<;>cases g<;>simp_all
 |dct d j q =>
  cases h;refine .inr (.inr ⟨_,d,?_⟩);have:=q.len.1;rename_i l f g _;cases l<;>cases f<;>cases g<;>simp_all
 |dctT d j q=>cases h
 |dctN d j n q=>cases h
 |dctZ _ _ _=>cases h
 |exc _ _=>cases h
 |ins _ _ _ _=>cases h
 |mk _ _=>cases h
def mY(h:PV G X a ca)(d:{`q2,X.K=G.K})(he:{`q3,∀whole,isTrue a X.env whole=(do let v ← whole;standAt a.pos;holding [v] (truthy v))}):LY G X a ca :=
 PT.weak (AO h he) λO H Q ⟨Z,U,m,r,b,s,e,f,k⟩=>⟨Z,U,m,r,s,e,λv g F e1 r1 f1=>⟨b,by rw[d];exact Dd r1 f,k g e1⟩⟩
def NC(G:Gx)(X:Cx)(e:Expr)(c:Ex):Prop:=PW X e (tT G c)
def PW.weak{X:Cx}{e:Expr}{f:TT}(h:PW X e t)(w:∀O H Q,f O H Q->t O H Q):PW X e f:=λg d s O H Q I q=>h g d s O H Q I (w O H Q q)
def NC.PZ(h:NC G X e ca):LY G X e ca:=PW.pt h
def sj(e:ik ca cb U=Y (m,r)):(∃n,ca U=Y (n,.bl M)/\cb U=Y (m,r))\/(∃n,ca U=Y (n,.bl R)/\m=.fr/\r=.bl R):=by
 obtain⟨⟨n,x⟩,d,e⟩:=Zz.mp e;split at e
 ·rename_i h;cases (h);exact .inl ⟨n,d,e⟩
 ·rename_i h;cases (h);cases e;exact .inr ⟨n,d,rfl,rfl⟩
 ·cases e
def B7(e:RE ca cb U=Y (m,r)):(∃n,ca U=Y (n,.bl R)/\cb U=Y (m,r))\/(∃n,ca U=Y (n,.bl M)/\m=.fr/\r=.bl M):=by
 obtain⟨⟨n,x⟩,d,e⟩:=Zz.mp e;split at e
 ·rename_i h;cases (h);cases e;exact .inr ⟨n,d,rfl,rfl⟩
 ·rename_i h;cases (h);exact .inl ⟨n,d,e⟩
 ·cases e
def jO{G:Gx}{X:Cx}{a:Expr}{ca cb:Ex}{pos:Pos}{rest:List Expr}(j:LY G X a ca)(i:NC G X (.BoolOp .And (b :: rest) pos) cb):NC G X (.BoolOp .And (a :: b :: rest) pos) (ik ca cb) :=
 PW.weak (Ga j i) λO H Q h=>by
  obtain⟨Z,U,m,r,k,s,e,f,q⟩:=h;rcases sj e with⟨n,d,e2⟩ | ⟨n,d,rfl,rfl⟩
  ·refine⟨Z,U,n,_,M,s,d,rfl,λg e1=>?_⟩;refine Bj ?_;exact⟨Z,U,m,r,k,s.same e1,e2,f,λl e2=>q l (e1.trans e2)⟩
  ·refine⟨Z,U,n,_,R,s,d,rfl,λg e1=>?_⟩;refine zX ?_;cases f;exact q g e1
def uE{G:Gx}{X:Cx}{a:Expr}{ca cb:Ex}{pos:Pos}{rest:List Expr}(j:LY G X a ca)(i:NC G X (.BoolOp .Or (b :: rest) pos) cb):NC G X (.BoolOp .Or (a :: b :: rest) pos) (RE ca cb) :=
 PW.weak (Ig j i) λO H Q h=>by
  obtain⟨Z,U,m,r,k,s,e,f,q⟩:=h;rcases B7 e with⟨n,d,e2⟩ | ⟨n,d,rfl,rfl⟩
  ·refine⟨Z,U,n,_,R,s,d,rfl,λg e1=>?_⟩;refine zX ?_;exact⟨Z,U,m,r,k,s.same e1,e2,f,λl e2=>q l (e1.trans e2)⟩
  ·refine⟨Z,U,n,_,M,s,d,rfl,λg e1=>?_⟩;refine Bj ?_;cases f;exact q g e1
def uv(e:ny ca U=Y (m,r)):∃n b,ca U=Y (n,.bl b)/\m=.fr/\r=.bl (!b):=by
 obtain⟨⟨n,x⟩,d,e⟩:=Zz.mp e;split at e
 ·rename_i b h;cases (h);cases e;exact⟨n,b,d,rfl,rfl⟩
 ·cases e
def jL(f:LY G X a ca):LY G X (.UnaryOp .Not a pos) (ny ca):=PT.weak (GW f) λO H Q d=>by
 obtain⟨Z,U,m,r,k,s,e,g,q⟩:=d;obtain⟨n,b,h,rfl,rfl⟩:=uv e;cases g;exact⟨Z,U,n,_,b,s,h,rfl,λi e1=>q i e1⟩
def FI(f:PV G X a ca):PV G X (.UnaryOp .Not a pos) (ny ca):=PE.weak (Fu f) λO H Q d=>by
 obtain⟨Z,U,m,r,s,e,q⟩:=d;obtain⟨n,b,g,rfl,rfl⟩:=uv e;exact⟨Z,U,n,_,s,g,λv h F e1 r1 f1=>⟨b,r1.KR,q _ h _ e1 (.bl _) Fp.nil⟩⟩
def Aq{op}(h:PV G X a ca):PV G X (.BoolOp op [a] pos) ca:=GS h
def zO{G:Gx}{X:Cx}{a:Expr}{ca cb:Ex}{pos:Pos}{rest:List Expr}(i:PV G X a ca)(h:PV G X (.BoolOp .And (b :: rest) pos) cb):PV G X (.BoolOp .And (a :: b :: rest) pos) (ik ca cb) :=
 PE.weak (FB i h) λO H Q g=>by
  obtain⟨Z,U,m,r,s,e,q⟩:=g;rcases sj e with⟨n,d,e2⟩ | ⟨n,d,rfl,rfl⟩
  ·refine⟨Z,U,n,_,s,d,λv f F e1 r1 f1=>⟨M,r1.KR,?_⟩⟩;refine Bj ?_;exact⟨Z,U,m,r,s.same e1,e2,λv j F e2 r2 f2=>q v j F (e1.trans e2) r2 (f2.back e1)⟩
  ·refine⟨Z,U,n,_,s,d,λv f F e1 r1 f1=>⟨R,r1.KR,?_⟩⟩;refine zX ?_;exact q _ f _ e1 (.bl _) Fp.nil
def Hh(h:LY G X c cc)(j:PV G X a ca)(i:PV G X b cb):PV G X (.IfExp c a b pos) (Sf cc ca cb) :=
 PE.weak (yK h j i) λO H Q g=>by
  refine L2.aq λu f=>?_;obtain⟨Z,U,m,r,s,e,q⟩:=g;obtain⟨⟨n,x⟩,o,e⟩:=Zz.mp e;obtain⟨k,l,e⟩:=Zz.mp e;refine f ?_;refine⟨Z,U,n,x,k,s,o,l,λw e1=>?_⟩;cases k with
  |true =>
   rw[Zs L]at e;refine Bj ?_;exact⟨Z,U,m,r,s.same e1,e,λv d F e2 r2 f2=>q v d F (e1.trans e2) r2 (f2.back e1)⟩
  |false =>
   rw[Zo Zh]at e;refine zX ?_;exact⟨Z,U,m,r,s.same e1,e,λv d F e2 r2 f2=>q v d F (e1.trans e2) r2 (f2.back e1)⟩
def w6(r:Rp G H v t F):decide (v=.non)=RW t:=by
 cases r<;>simp[RW]
def D9{c:Ex}(h:tT G c O H Q)(f:∀U m r,c U=Y (m,r)->∃b,r=.bl b)(w:∀Q,tE G c O H Q->t O H Q):tB t O H Q:=by
 obtain⟨Z,U,m,r,b,s,e,d,k⟩:=h;refine w _ ⟨Z,U,m,r,s,e,λv i F e1 r1 f1=>?_⟩;obtain⟨j,g⟩:=f U m r e;rw[g]at d r1;cases (d);exact⟨_,r1.KR,k i e1⟩
end
section
def RpL.one(r:RpL G H d [t] f):∃v F,d=[v]/\f=[F]/\Rp G H v t F:=by
 cases r with
 |cons r q=>cases q;exact⟨_,_,rfl,rfl,r⟩
def RpL.two(r:RpL G H g [t,h] i):∃v d F f,g=[v,d]/\i=[F,f]/\Rp G H v t F/\Rp G H d h f:=by
 cases r with
 |cons r q =>
  obtain⟨d,f,rfl,rfl,j⟩:=q.one;exact⟨_,_,_,_,rfl,rfl,r,j⟩
def Hn(K:Wy):List V->Hp->VK->Prop:=λd H Q=>(∃x n,d=[x]/\HA K x H n/\Q (.int n) H)\/(∃a f,d=[V.ref a]/\H a=Y (.dK f)/\Q (.int f.length) H)
def vk:dm X (.builtin "len") (λf H Q=>∃a d,f=[V.ref a]/\H a=Y (.dK d)/\Q (.int d.length) H):=by
 intro g s O H f m Q I r h;obtain⟨a,d,rfl,j,q⟩:=h;obtain⟨u,rfl,i⟩:=vals1 r;cases i;exact HG I (.inl j) λt n l=>⟨.int d.length,H,l,⟨t,rfl⟩,q⟩
def xH:dm X (.builtin "len") (Hn X.K):=zr.or vk
def Gy:fj G (Hn G.K) bU:=by
 intro Z U z H l j B m t Q A e k;refine L2.aq λy f=>?_;unfold bU at e;split at e
 ·rename_i x;obtain⟨u,x⟩:=x;obtain⟨n,d,e⟩:=Zt.mp e;cases e;obtain⟨v,F,rfl,rfl,r⟩:=(A.rp).one;have fin:=bJ k (.int _);cases r with
  |non=>cases d
  |bl b=>cases d
  |int i=>cases d
  |str s g =>
   cases d;refine f ?_;exact .inl ⟨_,_,rfl,⟨by rw[fL,← gU];exact g.1,rfl⟩,by rw[fL];exact fin⟩
  |scr h =>
   cases d;refine f ?_;refine .inl ⟨_,_,rfl,.inl ⟨_,h.seq,rfl⟩,?_⟩;rw[Zw];exact fin
  |tup h q =>
   cases d;refine f ?_;refine .inl ⟨_,_,rfl,.inr ⟨_,KY.of h,rfl⟩,?_⟩;rw[q.len.1];exact fin
  |lst h q =>
   cases d;refine f ?_;refine .inl ⟨_,_,rfl,.inl ⟨_,JV.of h,rfl⟩,?_⟩;rw[q.len.1];exact fin
  |dct h g q =>
   cases d;refine f ?_;refine .inr ⟨_,_,rfl,h,?_⟩;rename_i w ws o _;rw[YH,Zw]at fin;rw[YH,q.len.1];exact fin
  |dctT h g q=>cases d
  |dctN h g n q=>cases d
  |dctZ _ _ _=>cases d
  |exc _ _=>cases d
  |ins _ _ _ _=>cases d
  |mk _ _=>cases d
 ·cases e
def C9:fj G (λd H Q=>∃i j,d=[.int i,.int j]/\Q (.int (if j<i then j else i)) H) tq:=by
 intro Z U n H l g o m t Q A e k;unfold tq at e;split at e
 ·rename_i _ i _ j;cases e;obtain⟨v,h,F,q,rfl,rfl,r,f⟩:=(A.rp).two;exact⟨i,j,by rw[r.int_inv,f.int_inv],bJ k (.int _)⟩
 ·cases e
def Eh(K:Wy):List V->Hp->VK->Prop:=λf H Q=>∃p d,f=[.ref p]/\(JV K H p d\/KY K H p d)/\∀l,H l=J->Q (.ref l) (upd H l (.lst d))
def vU:fj G (Eh G.K) D5:=by
 intro Z U o H l n q m t Q A e k;unfold D5 at e;split at e
 ·rename_i i x;obtain⟨v,F,rfl,rfl,f⟩:=(A.rp).one;obtain⟨a,d,j,rfl,rfl,h,g⟩:=f.lst_inv;exact⟨a,d,rfl,.inl (JV.of h),jG A.same e g ((A.fp.each 0 _ _ L L).sub (YR _ _)) k⟩
 ·rename_i i x;obtain⟨v,F,rfl,rfl,f⟩:=(A.rp).one;obtain⟨a,d,j,rfl,rfl,h,g⟩:=f.Kq;exact⟨a,d,rfl,.inr (KY.of h),jG A.same e g (A.fp.each 0 _ _ L L) k⟩
 ·cases e
def tO(G:Gx)(c:Option Ex):TO:=λO H Q=>∃Z U o,SR G Z U O H/\tY c U=Y o/\∀d,bg H d->Q o d
def WB(G:Gx)(X:Cx)(e:Option Expr)(c:Option Ex):Prop:=PO X e (tO G c)
def PO.weak{X:Cx}{e:Option Expr}{f:TO}(h:PO X e t)(w:∀O H Q,f O H Q->t O H Q):PO X e f:=λd s O H Q I q=>h d s O H Q I (w O H Q q)
def kD:WB G X J J:=PO.weak B9 λO H Q d=>by
 obtain⟨Z,U,o,s,e,k⟩:=d;cases (e);exact k H (bg.refl _)
def iq(h:PV G X a ca):WB G X (Y a) (Y ca):=PO.weak (Do h) λO H Q f=>by
 obtain⟨Z,U,o,s,e,k⟩:=f;obtain⟨⟨m,y⟩,g,e⟩:=Zz.mp (e);obtain⟨i,d,e⟩:=Zt.mp e;cases e;refine⟨Z,U,m,y,s,g,λv l F e1 r1 f1=>?_⟩;cases y with
 |int j =>
  cases d;exact⟨_,r1.int_inv,k l e1⟩
 |_=>cases d
def lR{α:Type}(l:List α)(d f:Option Int):cut l d f=(l.drop (HT.Ku l.length 0 d)).take (HT.Ku l.length l.length f-HT.Ku l.length 0 d):=by
 cases d<;>cases f<;>rfl
theorem Oj(a:Int)(n:Nat):max 0 (min a (n:Int))=((min a.toNat n:Nat):Int):=L2.Oj a n
def UH{k:Nat}(h:(k:Nat)<=n):max 0 (min (k:Int) (n:Int))=(k:Int):=by rw[Oj,Xp,Yi h]
def Cs(a:Int)(n:Nat):max 0 (min a (n:Int))=max 0 (min ((min a.toNat n:Nat):Int) (n:Int)):=by
 rw[Oj,Oj,Xp,Nat.min_assoc,WW]
def Bi(d f:Option Int)(n:Nat):Builtin.Str.strSliceIndices d f 1 n=Builtin.Str.strSliceIndices (Y ((min (HT.Ku n 0 d) n:Nat):Int)) (Y ((min (HT.Ku n n f) n:Nat):Int)) 1 n:=by
 have nn:∀k:Nat,¬((k:Int)<0):=λk=>by lia
 unfold Builtin.Str.strSliceIndices;simp only[show (1:Int) > 0 by decide,if_true,nn,if_false];congr 1
 ·cases d with
  |none=>simp only[HT.Ku];rw[Oj,Xp,Nat.zero_min,Nat.zero_min];rfl
  |some i =>
   simp only[HT.Ku];by_cases h:i<0
   ·simp only[h,if_true];exact Cs _ _
   ·simp only[h,if_false];rw[Nat.min_assoc,WW];exact Cs _ _
 ·cases f with
  |none=>simp only[HT.Ku];rw[Oj,Xp,WW,WW]
  |some i =>
   simp only[HT.Ku];by_cases h:i<0
   ·simp only[h,if_true];exact Cs _ _
   ·simp only[h,if_false];rw[Nat.min_assoc,WW];exact Cs _ _
def pA(s:Tx)(d f:Option Int):PySem.StrLaws.sliceText (sx s) d f=sx (cut s d f):=by
 have key:PySem.StrLaws.sliceText (sx s) d f=PySem.StrLaws.sliceText (sx s) (Y ((min (HT.Ku s.length 0 d) s.length:Nat):Int)) (Y ((min (HT.Ku s.length s.length f) s.length:Nat):Int)):=by
  unfold PySem.StrLaws.sliceText;rw[fL,Bi]
 rw[key];have hd:∀a:Nat,s.drop (min a s.length)=s.drop a:=λa=>by
  by_cases h:a<=s.length
  ·rw[Yi h]
  ·rw[Wv (by exact XU h),XI (Zn _),XI (by exact XU h)]
 by_cases h:min (HT.Ku s.length 0 d) s.length<=min (HT.Ku s.length s.length f) s.length
 ·rw[PySem.StrLaws.sliceText_nat (sx s) h (by rw[fL];exact Xl _ _),lR];show (⟨_⟩:Str)=⟨_⟩;congr 2;have:(sx s).cps.toList=s:=rfl;rw[this,hd];by_cases i:HT.Ku s.length 0 d<=s.length
  ·rw[Yi i];by_cases g:HT.Ku s.length s.length f<=s.length
   ·rw[Yi g]
   ·rw[Wv (by exact XU g),Yu (by rw[Yl];exact Zn _),Yu (by rw[Yl];lia)]
  ·rw[XI (by exact XU i)];simp
 ·have j:cut s d f=[]:=by
   rw[lR];have:HT.Ku s.length s.length f-HT.Ku s.length 0 d=0:=by omega
   rw[this,VX]
  rw[j];unfold PySem.StrLaws.sliceText;have e2:Builtin.Str.strSliceIndices (Y ((min (HT.Ku s.length 0 d) s.length:Nat):Int)) (Y ((min (HT.Ku s.length s.length f) s.length:Nat):Int)) 1 (sx s).length=[]:=by
   have e1:∀k:Nat,¬((k:Int)<0):=λk=>by lia
   unfold Builtin.Str.strSliceIndices sliceRange;simp only[show (1:Int) > 0 by decide,if_true,e1,if_false,fL];rw[UH (Xl _ _),UH (Xl _ _),Zo λz=>h (ZO (Int.ofNat_lt.mp z))];rfl
  rw[e2];have:¬((1:Int)==1&&([]:Uv).length==(sx s).length)=M:=by
   rw[fL];simp;lia
  rw[Zo this];rfl
noncomputable def Ha:V->Option Int->Option Int->Hp->VK->Prop:=λx lo d H Q=>∃z,x=.str z/\z.length<=KM/\Q (.str (PySem.StrLaws.sliceText z lo d)) H
def part_of(h:IsPart v o):∃q:Option (Int×Tok),v=partValue q/\o=q.map (·.1):=by
 cases h with
 |none=>exact⟨J,rfl,rfl⟩
 |int i t=>exact⟨Y (i,t),rfl,rfl⟩
def rE{α β:Type}(f:α->Option β)(l:List α):(l.filterMap f).length<=l.length:=List.length_filterMap_le f l
def Dv(d f:Option Int)(n:Nat):(Builtin.Str.strSliceIndices d f 1 n).length<=n:=by
 rw[Bi];by_cases h:min (HT.Ku n 0 d) n<=min (HT.Ku n n f) n
 ·rw[PySem.StrLaws.strSliceIndices_plain h (by exact Xl _ _),Zw,LM];lia
 ·have e1:∀k:Nat,¬((k:Int)<0):=λk=>by lia
  unfold Builtin.Str.strSliceIndices sliceRange;simp only[show (1:Int) > 0 by decide,if_true,e1,if_false];rw[UH (Xl _ _),UH (Xl _ _),Zo λz=>h (ZO (Int.ofNat_lt.mp z))];simp
def GQ:QH X Ha:=by
 intro f s O H x v r o lo y w Q I g n i pu h;refine L2.aq λA j=>?_;obtain⟨z,rfl,m,q⟩:=h;obtain⟨t,rfl⟩:=g;obtain⟨l,rfl,rfl⟩:=part_of i;obtain⟨u,rfl,rfl⟩:=part_of pu;refine j ?_;refine⟨"str",_,F.slot_str_getitem.lookup,typeIs_str s z t,wpAny_getItem_str_slice (l:=l) (u:=u) (st:=J) n L ?_⟩;unfold sliceMade;split
 ·rename_i d;refine⟨.str z,H,I,⟨t,rfl⟩,?_⟩;have e:PySem.StrLaws.sliceText z (l.map (·.1)) (u.map (·.1))=z:=by
   exact Zs d
  rw[e]at q;exact q
 ·rename_i d;refine⟨ZS ?_ m,.str _,H,I.tok _,⟨_,rfl⟩,?_⟩
  ·show (List.filterMap _ _).toArray.size<=_;rw[ZF];exact ZS (rE _ _) (Dv _ _ _)
  ·have e:PySem.StrLaws.sliceText z (l.map (·.1)) (u.map (·.1))=⟨((slicePicked z l u J).filterMap (z.cps[·]?)).toArray⟩:=by
    exact Zo d
   rw[e]at q;exact q
def rSl(K:Wy):V->Option Int->Option Int->Hp->VK->Prop:=λx lo d H Q=>Ha x lo d H Q\/HK K x lo d H Q
def Jv:QH X (rSl X.K):=GQ.or Cf
def B8{α:Type}(l:List α)(d f:Option Int):(cut l d f).length<=l.length:=by
 rw[lR,LX,Yl];lia
theorem RpL.cut(r:RpL G H g i j)(d f:Option Int):RpL G H (yZ g d f) (VS.cut i d f) (VS.cut j d f):=by
 have h:=r.len;rw[lR,lR,h.2];unfold yZ;rw[h.1];exact(r.drop _).take _
def vM{α:Type}(l:List α)(d f:Option Int):(VS.cut l d f).Sublist l:=by
 rw[lR];exact(List.take_sublist _ _).trans (List.drop_sublist _ _)
def Aj{F G:X5}(h:F.Sublist G):F.flatten.Sublist G.flatten:=by
 induction h with
 |slnil=>exact WR _
 |cons a _ d=>rw[LL];exact d.trans (Xh _ _)
 |cons_cons a _ d=>rw[LL,LL];exact(WR _).append d
def jz(ha:PV G X a ca)(f:WB G X n u)(P:WB G X o w)(hK:{`q2,X.K=G.K}):PV G X (.Subscript a (.Slice n o J C) pos) (OF ca u w) :=
 PE.weak (AJ Jv ha f P) λO H Q N=>by
  refine L2.aq λP_ L=>?_;obtain⟨Z,U,m,t,s,e,k⟩:=N;obtain⟨⟨D,x⟩,ea,r⟩:=Zz.mp e;obtain⟨l,el,i⟩:=Zz.mp r;obtain⟨h,eh,g⟩:=Zz.mp i;refine L ?_;clear e r i;refine⟨Z,U,D,x,s,ea,λv H1 F e1 r1 f1=>⟨Z,U,l,s.same e1,el,λH2 e2=>⟨Z,U,h,(s.same e1).same e2,eh,λH3 e3=>?_⟩⟩⟩;have d:=(e1.trans e2).trans e3;have j:=(r1.same e2).same e3;unfold oSl at g;split at g
  ·rename_i E z q;cases q;cases g;obtain⟨rfl,f⟩:=j.str_inv;refine .inl ⟨_,rfl,by rw[fL,← gU];exact f.1,?_⟩;rw[pA];exact k _ H3 _ d (.str _ ⟨ZS (B8 _ _ _) f.1,λc S=>f.2 c ((vM _ _ _).subset S)⟩) Fp.nil
  ·rename_i E z q;cases q;obtain⟨a',y,Fs,rfl,rfl,J5,A⟩:=j.lst_inv;refine .inr ⟨a',y,rfl,by rw[hK];exact JV.of J5,jG d g (A.cut l h) ((f1.sub (YR _ _)).sub (Aj (vM _ _ _))) λv H4 F e5 B f4=>k v H4 F (d.trans e5) B f4⟩
  ·cases g
noncomputable def NU:Ty->String
 |.int => "int"
 |.str => "str"
 |.bool => "bool"
 |.list => "list"
 |.tuple => "tuple"
 |.dict => "dict"
def rIs(K:Wy):List V->Hp->VK->Prop:=λd H Q=>∃x c t b,d=[x,.ty c]/\Lb K H x t/\PySem.W.kitOne K t (.type c)=Y b/\Q (.bl b) H
def DA:dm X (.builtin "isinstance") (rIs X.K):=by
 intro d s O H f i Q I r h;obtain⟨x,c,t,b,rfl,ty,e,q⟩:=h;obtain⟨u,g,rfl,r1,r2⟩:=vals2 r;cases r2;exact xR I r1 ty e λj=>⟨.bl b,H,I.tok _,rfl,q⟩
def CW(K:Wy)(d:Ty):(PySem.W.kitOne K (.type "NoneType") (.type (NU d))=Y R)/\(PySem.W.kitOne K (.type "bool") (.type (NU d))=Y (sR d (.bl M)))/\(PySem.W.kitOne K (.type "int") (.type (NU d))=Y (sR d (.int 0))) ∧
  (PySem.W.kitOne K (.type "str") (.type (NU d))=Y (sR d (.str [])))/\(PySem.W.kitOne K (.type "list") (.type (NU d))=Y (sR d (.lst [])))/\(PySem.W.kitOne K (.type "tuple") (.type (NU d))=Y (sR d (.tup [])))/\(PySem.W.kitOne K (.type "dict") (.type (NU d))=Y (sR d (.dct 0 []))):=by
 cases d<;>refine⟨?_,?_,?_,?_,?_,?_,?_⟩<;>kernel_rfl
def HW(d:Ty)(r:Rp G H v t F)(h:xm t=M):∃g,Lb G.K H v g/\PySem.W.kitOne G.K g (.type (NU d))=Y (sR d t):=by
 obtain⟨y,x,w,u,o,m,j⟩:=CW G.K d;cases r with
 |non=>exact⟨_,.non,by rw[y];cases d<;>rfl⟩
 |bl b=>exact⟨_,.bl b,by rw[x];cases d<;>rfl⟩
 |int i=>exact⟨_,.int i,by rw[w];cases d<;>rfl⟩
 |str s _=>exact⟨_,.str _,by rw[u];cases d<;>rfl⟩
 |scr _=>cases h
 |tup f q=>exact⟨_,.tup f,by rw[m];cases d<;>rfl⟩
 |lst f q=>exact⟨_,.lst f,by rw[o];cases d<;>rfl⟩
 |dct f l q=>exact⟨_,.dK f,by rw[j];cases d<;>rfl⟩
 |dctT f l q=>exact⟨_,.dT f,by rw[j];cases d<;>rfl⟩
 |dctN f l n q=>simp at h
 |dctZ _ _ _=>cases h
 |exc _ _=>cases h
 |ins _ _ _ _=>cases h
 |mk _ _=>cases h
def IQ(f:Ty)(C:PV G X a ca)(B:Gl X "isinstance")(z:X.mg "isinstance" = J)(P:Gl X x)(S:X.mg x=J)(r:bootBuiltins x=Y (.type (NU f)))(j:{`q2,X.K=G.K})(w:{`q1,x ≠ "__name__"})(K8:{`q1,K3 x})(i:{`q2,P3 [a,.Name x d] X.env=(R,eval a X.env) :: P3 [.Name x d] X.env})(MW:{`q2,P3 [.Name x d] X.env=(R,eval (.Name x d) X.env) :: P3 [] X.env})(g:{`q2,(backTo pos (P3 [Expr.Name x d] X.env)).any (·.1)=R}) :
  PV G X (.Call (.Name "isinstance" n) [a,.Name x d] [] pos) (U8 f ca) :=
 PE.weak (n9 DA B z boot_isinstance (fu C (fu (Dw (v:=.ty (NU f)) P S r L w K8) j6 MW) i) (by decide) L i g) λO H Q u=>by
  refine L2.aq λP_ q=>?_;obtain⟨Z,U,m,t,s,e,k⟩:=u;obtain⟨⟨o,y⟩,N,h⟩:=Zz.mp e;refine q ?_;split at h
  ·rename_i A;cases h;refine⟨Z,U,o,y,s,N,λv H' F e1 r1 f1=>?_⟩;obtain⟨l,E,D⟩:=HW f r1 A;exact⟨v,NU f,l,_,rfl,by rw[j];exact E,by rw[j];exact D,k _ H' _ e1 (.bl _) Fp.nil⟩
  ·cases h
end
end VS
end
section
namespace VS
@[simp] def LU(x y:Val):Uq:=match x.2 with
 |.dct 0 l=>if hZ y.2 then (dR l y.2).map (sub x.1) else J
 |_=>aJ x y
noncomputable def flat:T->Bool
 |.non=>M
 |.bl _=>M
 |.int _=>M
 |.str _=>M
 |_=>R
@[simp] def nR(x y:Val):Uq:=match y.2 with
 |.dct 0 l=>if hZ x.2 then Y (.fr,.bl (dR l x.2).isSome) else J
 |.lst l=>if flat x.2&&l.all flat then Y (.fr,.bl (l.any λy=>eqT y x.2)) else J
 |.tup l=>if flat x.2&&l.all flat then Y (.fr,.bl (l.any λy=>eqT y x.2)) else J
 |_=>J
@[simp] def dB(x y:Val):Uq:=match nR x y with
 |some (_,.bl b)=>Y (.fr,.bl (!b))
 |_=>J
def pm{α:Type}(f:T->Option (T×α)):List Ky->T->Option (T×α)
 |[],t=>f t
 |.fld k :: r,t=>match t with
  |.obj (c+1) (q :: fs)=>(fs.findIdx? λp=>p.1==k).bind λi=>(fs[i]?).bind λp=>(pm f r p.2).map λz=>(.obj (c+1) (q :: fs.set i (p.1,z.1)),z.2)
  |_=>J
 |.un :: r,t=>match t with
  |.obj 0 [(0,.bl true),(m,x)]=>(pm f r x).map λz=>(.obj 0 [(0,.bl M),(m,z.1)],z.2)
  |_=>J
 |.at k :: r,t=>match t with
  |.lst l=>match k with
   |.int i=>(Lf l.length i).bind λj=>(l[j]?).bind λx=>(pm f r x).map λz=>(.lst (l.set j z.1),z.2)
   |_=>J
  |.dct 0 l=>if hZ k then (l.findIdx? λp=>eqT p.1 k).bind λi=>(l[i]?).bind λp=>(pm f r p.2).map λz=>(.dct 0 (l.set i (p.1,z.1)),z.2) else J
  |_=>J
end VS
end
section
namespace VS
open PySem PySem.Spec PyProof.Rows L2
section
mutual
def Nj:T->PyData
 |.non=>.none
 |.bl b=>.bool b
 |.int i=>.int i
 |.str s=>.str (sx s)
 |.tup l=>.tuple (pB l)
 |.lst l=>.list (pB l)
 |_=>.none
def pB:Up->List PyData
 |[]=>[]
 |t :: r=>Nj t :: pB r
end
def Ib(h:jW s):PyData.strOk (sx s)=M:=by
 unfold PyData.strOk sx;simp only[Array.all_eq_true,decide_eq_true_eq];intro i a;have:s.toArray[i]∈s:=by simp
 have:=h.2 _ this;simpa using this
def yG:(sx s==sx t)=(s==t):=by
 rw[XG,beq_iff_eq,beq_iff_eq];constructor
 ·intro h;have:(sx s).cps=(sx t).cps:=by rw[h]
  simpa[sx] using this
 ·intro h;rw[h]
mutual
theorem qN:∀(n k:Nat)(t u:T),KC n t=M->KC k u=M->PyData.eqv (Nj t) (Nj u)=eqT t u
 |n,k,t,u,b,a=>by
  cases t with
  |scr _=>cases n<;>cases b
  |dct _ _=>cases n<;>cases b
  |obj _ _=>cases n<;>cases b
  |tup l =>
   cases n with
   |zero=>cases b
   |succ n =>
    cases u with
    |tup r =>
     cases k with
     |zero=>cases a
     |succ k =>
      exact nF n k l r (Lw.mp b) (Lw.mp a)
    |scr _=>cases k<;>cases a
    |dct _ _=>cases k<;>cases a
    |obj _ _=>cases k<;>cases a
    |_=>rfl
  |lst l =>
   cases n with
   |zero=>cases b
   |succ n =>
    cases u with
    |lst r =>
     cases k with
     |zero=>cases a
     |succ k =>
      exact nF n k l r (Lw.mp b) (Lw.mp a)
    |scr _=>cases k<;>cases a
    |dct _ _=>cases k<;>cases a
    |obj _ _=>cases k<;>cases a
    |_=>rfl
  |str s =>
   cases u with
   |str r=>exact yG
   |scr _=>cases k<;>cases a
   |dct _ _=>cases k<;>cases a
   |obj _ _=>cases k<;>cases a
   |_=>rfl
  |_ =>
   cases u with
   |scr _=>cases k<;>cases a
   |dct _ _=>cases k<;>cases a
   |obj _ _=>cases k<;>cases a
   |_=>rfl
theorem nF:∀(n k:Nat)(l r:Up),(∀t∈l,KC n t=M)->(∀t∈r,KC k t=M)->PyData.eqvAll (pB l) (pB r)=om l r
 |_,_,[],[],_,_=>rfl
 |_,_,[],_ :: _,_,_=>rfl
 |_,_,_ :: _,[],_,_=>rfl
 |n,k,t :: l,u :: r,d,b=>by
  show (PyData.eqv (Nj t) (Nj u)&&PyData.eqvAll (pB l) (pB r))=(eqT t u&&om l r);rw[qN n k t u (d t Zv) (b u Zv),nF n k l r (λx a=>d x (Zu _ a)) λx a=>b x (Zu _ a)]
end
def Rp.Oa(r:Rp G H v (.tup d) F):∃b a e,v=.ref b/\H b=Y (.tup a)/\RpL G H a d e:=by
 cases r with
 |tup h q=>exact⟨_,_,_,rfl,h,q⟩
def Rp.Om(r:Rp G H v (.lst d) F):∃b a e,v=.ref b/\H b=Y (.lst a)/\RpL G H a d e:=by
 cases r with
 |lst h q=>exact⟨_,_,_,rfl,h,q⟩
theorem l6{s:KB}(f:∀{v:V}{t:T}{F:W5}{u:PP},Rp G H v t F->RelV v u->KC n t=M->∃b,Reads s.heap u (Nj t) b/\(Nj t).canLay0=M/\(Nj t).depth<=n):∀{d:List V}{a:Up}{y:X5}{e:Vq},RpL G H d a y->aW d e->(∀t∈a,KC n t=M) →
  ∃b,ReadsAll s.heap e (pB a) b/\PyData.canLayAll0 (pB a)=M/\PyData.depthAll (pB a)<=n
 |_,_,_,_,.nil,r,_=>by cases r;exact⟨_,.nil,rfl,ZE _⟩
 |_,_,_,_,.cons p q,r,h=>by
  cases r with
  |cons r1 r2 =>
   refine L2.aq λz g=>?_;obtain⟨b,m,l,j⟩:=f p r1 (h _ Zv);obtain⟨bs,x,w,o⟩:=l6 f q r2 λt i=>h t (Zu _ i);refine g ?_;exact⟨_,.cons m x,ZP.mpr ⟨l,w⟩,Nat.max_le.mpr ⟨j,o⟩⟩
def oT(r:Rp G H v t F)(a:RelV v u)(d:flat t=M):∃e,Reads h u (Nj t) e/\(Nj t).canLay0=M/\(Nj t).depth<=n:=by
 cases r with
 |non=>cases a;exact⟨_,.none,rfl,ZE _⟩
 |bl b=>cases a;exact⟨_,.bool b,rfl,ZE _⟩
 |int i=>obtain⟨t,rfl⟩:=a;exact⟨_,.int i t,rfl,ZE _⟩
 |str s h=>obtain⟨t,rfl⟩:=a;exact⟨_,.str _ t,Ib h,ZE _⟩
 |_=>cases d
def kB(I:Inv X d O H s)(n:Nat):∀{v:V}{t:T}{F:W5}{u:PP},Rp G H v t F->RelV v u->KC n t=M->∃w,Reads s.heap u (Nj t) w/\(Nj t).canLay0=M/\(Nj t).depth<=n:=by
 induction n with
 |zero =>
  intro v t F u r a h;refine oT r a ?_;cases t<;>first | rfl | exact h
 |succ n x =>
  intro v t F u r a h;cases t with
  |tup l =>
   obtain⟨b,y,E,rfl,e,q⟩:=Rp.Oa r;cases a;obtain⟨B,f,z,D⟩:=I.tuple (KY.of e);obtain⟨w,p,m,j⟩:=l6 x q f (Lw.mp h);obtain⟨o,g,i,C,hd⟩:=z;exact⟨_,.tuple g i hd (by simpa using p),m,Ww j⟩
  |lst l =>
   obtain⟨b,y,E,rfl,e,q⟩:=Rp.Om r;cases a;obtain⟨B,f,A,D⟩:=I.list (JV.of e);obtain⟨w,p,m,j⟩:=l6 x q f (Lw.mp h);obtain⟨o,g,i,C,hd⟩:=A.isList;exact⟨_,.list g i hd (by simpa using p),m,Ww j⟩
  |scr _=>cases h
  |dct _ _=>cases h
  |obj _ _=>cases h
  |_=>exact oT r a L
def Dl(G:Gx)(a:Bool):R2:=λx y H Q=>∃t u F b,Rp G H x t F/\Rp G H y u b/\KC 60 t=M/\KC 60 u=M/\Q (.bl (if a then !eqT t u else eqT t u)) H
def jQ{d:PyData}(h:d.canLay0=M)(a:d.depth<=60):SeqAt.shaped d=M:=by
 unfold SeqAt.shaped;rw[h,Bool.true_and];exact Lu (by lia)
def oW(g:X.A.units+64<cLine):OpR X (UV .Eq) (Dl G R):=by
 intro a s O H x y v u Q I f e h;obtain⟨t,w,F,r,r1,r2,d,b,q⟩:=h;obtain⟨p,o,n,m⟩:=kB I 60 r1 f d;obtain⟨bs,l,j,i⟩:=kB I 60 r2 e b;refine eq_dataH o l (jQ n m) (jQ j i) g ⟨.bl _,H,I,rfl,?_⟩;rw[qN 60 60 t w d b];exact q
def EX(g:X.A.units+64<cLine):OpR X (UV .NotEq) (Dl G M):=by
 intro a s O H x y v u Q I f e h;obtain⟨t,w,F,r,r1,r2,d,b,q⟩:=h;obtain⟨p,o,n,m⟩:=kB I 60 r1 f d;obtain⟨bs,l,j,i⟩:=kB I 60 r2 e b;refine ne_dataH o l (jQ n m) (jQ j i) g ⟨.bl _,H,I,rfl,?_⟩;rw[qN 60 60 t w d b];exact q
def uz:fZ G (Dl G R) oEq:=by
 intro Z U b H x y u w f d m t Q a e k;unfold oEq at e;split at e
 ·rename_i h;cases e;exact⟨_,_,_,_,a.r1,a.r2,h.1,h.2,bJ k (.bl _)⟩
 ·cases e
def IU:fZ G (Dl G M) NX:=by
 intro Z U b H x y u w f d m t Q a e k;unfold NX at e;split at e
 ·rename_i h;cases e;exact⟨_,_,_,_,a.r1,a.r2,h.1,h.2,bJ k (.bl _)⟩
 ·cases e
def tells_eq:Tells oEq:=by
 intro x y m t e;unfold oEq at e;split at e<;>first | (cases e;exact⟨_,rfl⟩) | cases e
def yO:Tells NX:=by
 intro x y m t e;unfold NX at e;split at e<;>first | (cases e;exact⟨_,rfl⟩) | cases e
end
structure Ks(Z:JS)(U:VS.Env)(H:Hp)(Z':JS)(U':VS.Env)(H':Hp):Prop where
 keep:∀a o,H a=some o->¬cQ Z U a->H' a=some o/\¬cQ Z' U' a
 J6:∀a,H a≠none->H' a≠none
 ow:∀a,cQ Z' U' a->cQ Z U a\/H a=none
 pu:∀a,fo Z' U' a->fo Z U a\/cQ Z U a\/H a=none
 kept:Kept H H'
theorem Ks.refl(Z:JS)(U:VS.Env)(H:Hp):Ks Z U H Z U H:=⟨λa o h n=>⟨h,n⟩,λ_ h=>h,λ_ h=>.inl h,λ_ h=>.inl h,Kept.refl H⟩
theorem Ks.none(f:Ks Z U H d g b)(h:b a=J):H a=J:=by
 cases e:H a with
 |none=>rfl
 |some o=>exact absurd h (f.J6 a (by rw[e];exact λz=>nomatch z))
theorem Ks.trans{b:JS}{U U1 e:VS.Env}(f:Ks Z U H d U1 j)(g:Ks d U1 j b e i):Ks Z U H b e i where
 keep:=λa o h n=>let ⟨m,l⟩:=f.keep a o h n;g.keep a o m l
 J6:=λa h=>g.J6 a (f.J6 a h)
 ow:=λa h=>by
  rcases g.ow a h with h | h
  ·exact f.ow a h
  ·exact .inr (f.none h)
 pu:=λa h=>by
  rcases g.pu a h with h | h | h
  ·exact f.pu a h
  ·rcases f.ow a h with h | h
   ·exact .inr (.inl h)
   ·exact .inr (.inr h)
  ·exact .inr (.inr (f.none h))
 kept:=f.kept.trans g.kept
def Ks.same{H:Hp}(e:bg H b):Ks Z U H Z U b :=
 ⟨λa o h n=>⟨e a o h,n⟩,λa h z=>h (e.free z),λ_ h=>.inl h,λ_ h=>.inl h,Kept.of e⟩
def tJ(Z:JS)(U:VS.Env)(H:Hp):Md->W5->Prop
 |.fr,F=>F.Nodup/\∀a∈F,H a=J\/cQ Z U a
 |_,F=>∀a∈F,H a=J\/fo Z U a\/cQ Z U a
theorem tJ.back(f:Ks Z U H d e g):∀{m:Md},tJ d e g m F->tJ Z U H m F
 |.fr,h=>⟨h.1,λa b=>(h.2 a b).elim (λz=>.inl (f.none z)) λz=>(f.ow a z).elim .inr .inl⟩
 |.pu,h=>λa b=>by
  rcases h a b with z | z | z
  ·exact .inl (f.none z)
  ·rcases f.pu a z with z | z | z
   ·exact .inr (.inl z)
   ·exact .inr (.inr z)
   ·exact .inl z
  ·exact(f.ow a z).elim (λz=>.inr (.inr z)) .inl
 |.bo,h=>λa b=>by
  rcases h a b with z | z | z
  ·exact .inl (f.none z)
  ·rcases f.pu a z with z | z | z
   ·exact .inr (.inl z)
   ·exact .inr (.inr z)
   ·exact .inl z
  ·exact(f.ow a z).elim (λz=>.inr (.inr z)) .inl
noncomputable def Nx(G:Gx)(Z:JS)(U:VS.Env)(H:Hp)(d:VS.Env)(k:L2.St->Hp->Prop):Prop:=∀b e a,SR G b d e a->Ks Z U H b d a->k e a
def wL(G:Gx)(Z:JS)(U:VS.Env)(H:Hp)(D:Ends):Out->Prop
 |.nx a=>Nx G Z U H a D.nx
 |.bk a=>Nx G Z U H a D.bk
 |.ct a=>Nx G Z U H a D.ct
 |.rt v a=>∀u b F d e,SR G d a e b->Ks Z U H d a b->Rp G b u v.2 F->tJ Z U H v.1 F->D.rt u b
def tS(G:Gx)(c:Sx):TS:=λD O H=>∃Z U o,SR G Z U O H/\c U=Y o/\wL G Z U H D o
def PSV(G:Gx)(X:Cx)(a:Stmt)(c:Sx):Prop:=PS X a (tS G c)
def jd(G:Gx)(X:Cx)(a:List Stmt)(c:Sx):Prop:=LN X a (tS G c)
def PS.weak{X:Cx}(h:PS X e t)(w:∀D O H,b D O H->t D O H):PS X e b:=λa s O H D I q=>h a s O H D I (w D O H q)
def LN.weak{X:Cx}(h:LN X e t)(w:∀D O H,b D O H->t D O H):LN X e b:=λa s O H D I q=>h a s O H D I (w D O H q)
theorem wL.back(f:Ks Z U H i j l):∀{o:Out},wL G Z U H D o->wL G i j l D o
 |.nx e,h=>λa b d s g=>h a b d s (f.trans g)
 |.bk e,h=>λa b d s g=>h a b d s (f.trans g)
 |.ct e,h=>λa b d s g=>h a b d s (f.trans g)
 |.rt v e,h=>λu d F a b s g r q=>h u d F a b s (f.trans g) r (q.back f)
section
variable{st:Stmt}
def bK:jd G X [] eU:=LN.weak Cc λD O H a=>by
 obtain⟨Z,U,o,s,e,k⟩:=a;cases (e);exact k Z O H s (Ks.refl _ _ _)
def af(i:PSV G X st c1)(h:jd G X SK c2):jd G X (st :: SK) (ar c1 c2):=LN.weak (AK i h) λD O H g=>by
 obtain⟨Z,U,o,s,e,k⟩:=g;obtain⟨b,e1,e2⟩:=Zz.mp e;refine⟨Z,U,b,s,e1,?_⟩;cases b with
 |nx a=>exact λj l m d f=>⟨j,a,o,d,e2,k.back f⟩
 |rt v a=>cases e2;exact k
 |bk a=>cases e2;exact k
 |ct a=>cases e2;exact k
def b9(h:LY G X t d)(j:jd G X a c1)(i:jd G X b c2):PSV G X (.If t a b pos) (KH d c1 c2):=PS.weak (Iy h j i) λD O H g=>by
 obtain⟨Z,U,o,s,e,k⟩:=g;obtain⟨⟨m,x⟩,l,e1⟩:=Zz.mp e;obtain⟨f,n,e2⟩:=Zz.mp e1;refine⟨Z,U,m,x,f,s,l,n,λp e3=>?_⟩;cases f with
 |true =>
  rw[Zs L]at e2;exact Bj ⟨Z,U,o,s.same e3,e2,k.back (Ks.same e3)⟩
 |false =>
  rw[Zo Zh]at e2;exact zX ⟨Z,U,o,s.same e3,e2,k.back (Ks.same e3)⟩
theorem Fp.ret:∀{m:Md},Fp Z U H m F->tJ Z U H (match m with | .bo=>.pu | m=>m) F
 |.fr,f=>⟨f.1,λa b=>.inl (f.2 a b)⟩
 |.pu,f=>λa b=>(f a b).elim .inl λz=>.inr (.inl z)
 |.bo,f=>f
def bu(he:PV G X e ce):PSV G X (.Return (Y e) pos) (d5 ce):=PS.weak (qX he) λD O H a=>by
 obtain⟨Z,U,o,s,e,k⟩:=a;obtain⟨⟨m,x⟩,b,e1⟩:=Zz.mp e;cases e1;exact⟨Z,U,m,x,s,b,λv d F e1 r1 f1=>k v d F Z O (s.same e1) (Ks.same e1) r1 f1.ret⟩
def cW{U:VS.Env}{c:Cell}(h:(U.set i J)[j]?=Y (Y c)):j≠i/\U[j]?=Y (Y c):=by
 rw[V2]at h;split at h
 ·split at h<;>cases h
 ·rename_i n;exact⟨λz=>n z.symm,h⟩
def SR.drop(s:SR G Z U O H)(i:Nat):SR G Z (U.set i J) O H :=
 ⟨by rw[Ya];exact s.len,λj c h=>s.rp j c (cW h).2,λj t h=>s.nd j t (cW h).2,λj k t c b a n=>s.sep j k t c (cW b).2 (cW a).2 n⟩
def Ks.drop(i:Nat):Ks Z U H Z (U.set i J) H :=
 ⟨λa o h n=>⟨h,λ⟨j,t,d,b⟩=>n ⟨j,t,(cW d).2,b⟩⟩,λ_ h=>h,λa ⟨j,t,d,b⟩=>.inl ⟨j,t,(cW d).2,b⟩,λa ⟨j,t,d,b⟩=>.inl ⟨j,t,(cW d).2,b⟩,Kept.refl H⟩
def cY{X:Cx}(i:Nat)(u:{`q2,X.N[i]?=Y x})(l:{`q5,MZ X.env.scope x})(r:{`q1,K3 x})(d:{`q1,K4 x}):PSV G X (.Return (Y (.Name x p)) pos) (fT i):=PS.weak (qX (gp u l r d)) λD O H n=>by
 obtain⟨Z,U,o,s,e,k⟩:=n;unfold fT at e;split at e
 ·rename_i t h;obtain⟨v,j,b⟩:=s.rp _ _ h;cases e;exact⟨v,j,k v H (Z i) Z O (s.drop i) (Ks.drop i) b ⟨s.nd i t h,λa g=>.inr ⟨i,t,h,g⟩⟩⟩
 ·rename_i t h;obtain⟨v,j,b⟩:=s.rp _ _ h;cases e;refine⟨v,j,k v H (Z i) Z O s (Ks.refl _ _ _) b ?_⟩;have f:Fp Z U H .pu (Z i):=λa g=>.inr ⟨i,t,h,g⟩;have f2:=(f.up b).ret;have:(match (VS.up .pu (mI (.pu t))).1 with | .bo=>Md.pu | m=>m)=(VS.up .pu t).1:=by
   show (match (VS.up .pu t).1 with | .bo=>Md.pu | m=>m)=_;unfold VS.up;split<;>(rename_i q;revert q;split<;>simp)
  rw[this]at f2;exact f2
 ·cases e
noncomputable def mM(Z:JS)(i:Nat)(F:W5):JS:=λj=>if j=i then F else Z j
def jJ:mM Z i F i=F:=Zs L
def fA(h:j≠i):mM Z i F j=Z j:=Zo h
def iM{U:VS.Env}{c:Cell}(h:(U.set i (Y c))[j]?=Y (Y a)):(j=i/\a=c)\/(j≠i/\U[j]?=Y (Y a)):=by
 rw[V2]at h;split at h
 ·rename_i e;split at h
  ·exact .inl ⟨e.symm,(Zl (Zl h)).symm⟩
  ·cases h
 ·rename_i n;exact .inr ⟨λz=>n z.symm,h⟩
def SR.put{v:V}{c:Cell}(s:SR G Z U O H)(z:i<U.length)(r:Rp G u v (mI c) F)(y:∀j b,j≠i->U[j]?=Y (Y b)->∀w,Rp G H w (mI b) (Z j)->Rp G u w (mI b) (Z j))(o:∀t,c=.ow t->F.Nodup)(d:∀t,c=.ow t->∀j b,j≠i->U[j]?=Y (Y b)->∀a∈F,a∉Z j)(m:∀j t,j≠i->U[j]?=Y (Y (.ow t))->∀a∈Z j,a∉F) :
  SR G (mM Z i F) (U.set i (Y c)) (O.set i (Y v)) u where
 len:=by rw[Ya,Ya];exact s.len
 rp:=λj b h=>by
  rcases iM h with⟨rfl,rfl⟩ | ⟨n,h⟩
  ·exact⟨v,by rw[WU (by rw[← s.len];exact z)],by rw[jJ];exact r⟩
  ·obtain⟨w,p,g⟩:=s.rp j b h;exact⟨w,by rw[Xs (Y0 n)];exact p,by rw[fA n];exact y j b n h w g⟩
 nd:=λj t h=>by
  rcases iM h with⟨rfl,e⟩ | ⟨n,h⟩
  ·rw[jJ];exact o t e.symm
  ·rw[fA n];exact s.nd j t h
 sep:=λj k t b p g n=>by
  rcases iM p with⟨rfl,e⟩ | ⟨l,x⟩
  ·rcases iM g with⟨rfl,e2⟩ | ⟨f,q⟩
   ·exact absurd L n
   ·rw[jJ,fA f];exact d t e.symm k b f q
  ·rcases iM g with⟨rfl,e2⟩ | ⟨f,q⟩
   ·rw[jJ,fA l];exact m j t l x
   ·rw[fA l,fA f];exact s.sep j k t b x q n
def oU{U:VS.Env}{c:Cell}(h:cQ (mM Z i F) (U.set i (Y c)) a):(∃t,c=.ow t/\a∈F)\/cQ Z U a:=by
 obtain⟨j,t,d,b⟩:=h;rcases iM d with⟨rfl,e⟩ | ⟨n,d⟩
 ·rw[jJ]at b;exact .inl ⟨t,e.symm,b⟩
 ·rw[fA n]at b;exact .inr ⟨j,t,d,b⟩
def u6{U:VS.Env}{c:Cell}(h:fo (mM Z i F) (U.set i (Y c)) a):(∃t,c=.pu t/\a∈F)\/fo Z U a:=by
 obtain⟨j,t,d,b⟩:=h;rcases iM d with⟨rfl,e⟩ | ⟨n,d⟩
 ·rw[jJ]at b;exact .inl ⟨t,e.symm,b⟩
 ·rw[fA n]at b;exact .inr ⟨j,t,d,b⟩
def SR.Of(s:SR G Z U O H)(h:cQ Z U a)(g:fo Z U a):False:=by
 obtain⟨j,t,d,f⟩:=h;obtain⟨k,u,b,i⟩:=g;exact s.sep j k t _ d b (λe=>by subst e;rw[d]at b;cases b) a f i
def SR.val{m:Md}{c:Cell}(s:SR G Z U O H)(B:i<U.length)(e:bg H A)(r:Rp G A v t F)(f:Fp Z U H m F)(p:(c=.pu t/\m ≠ .bo)\/(c=.ow t/\m=.fr)):SR G (mM Z i F) (U.set i (Y c)) (O.set i (Y v)) A/\Ks Z U H (mM Z i F) (U.set i (Y c)) A:=by
 have J6:∀{a},H a=J->∀j x,U[j]?=Y (Y x)->a∉Z j:=λ{a} h j x g b=>by
  obtain⟨w,_,q⟩:=s.rp j x g;exact JT.xa (q.J6 a b) h
 have ct:mI c=t:=by rcases p with⟨rfl,_⟩ | ⟨rfl,_⟩<;>rfl
 have y:∀a∈F,H a=J\/fo Z U a:=λa b=>by
  rcases p with⟨_,n⟩ | ⟨_,n⟩
  ·exact f.pu n a b
  ·rw[n]at f;exact .inl (f.2 a b)
 constructor
 ·refine s.put B (by rw[ct];exact r) (λj x n g w q=>q.same e) (λu d=>?_) (λu d j x n g a b=>?_) λj u n g a b C=>?_
  ·rcases p with⟨h,_⟩ | ⟨_,h⟩
   ·rw[h]at d;cases d
   ·rw[h]at f;exact f.1
  ·rcases p with⟨h,_⟩ | ⟨_,h⟩
   ·rw[h]at d;cases d
   ·rw[h]at f;exact J6 (f.2 a b) j x g
  ·rcases y a C with z | z
   ·exact J6 z j _ g b
   ·exact s.Of ⟨j,u,g,b⟩ z
 ·refine⟨λa o h n=>⟨e a o h,λz=>?_⟩,λa h z=>h (e.free z),λa h=>?_,λa h=>?_,Kept.of e⟩
  ·rcases oU z with⟨u,d,b⟩ | z
   ·rcases p with⟨l,_⟩ | ⟨_,l⟩
    ·rw[l]at d;cases d
    ·rw[l]at f;rw[f.2 a b]at h;cases h
   ·exact n z
  ·rcases oU h with⟨u,d,b⟩ | z
   ·rcases p with⟨l,_⟩ | ⟨_,l⟩
    ·rw[l]at d;cases d
    ·rw[l]at f;exact .inr (f.2 a b)
   ·exact .inl z
  ·rcases u6 h with⟨u,d,b⟩ | z
   ·exact(y a b).elim (λz=>.inr (.inr z)) .inl
   ·exact .inl z
def g8{pos:Pos}(he:PV G X e ce)(q:X.N.Nodup)(n:{`q2,X.N[i]?=Y x})(g:{`q6,Loc X.env.scope x})(h:{`q2,swapsWith e (Y (.Name x a)) pos.line X.env=pure R})(p:{`q7,X.fn x=M\/X.env.scope.names.lookup x=Y .local}) :
  PSV G X (.Assign [.Name x a] e pos) (k8 i ce):=PS.weak (vq q n g he h p) λD O H j=>by
 obtain⟨Z,U,o,s,e,k⟩:=j;obtain⟨⟨m,t⟩,u,e1⟩:=Zz.mp e;obtain⟨c,eC,e2⟩:=Zz.mp e1;split at e2
 ·rename_i l;cases e2;refine⟨Z,U,m,t,s,u,λv w F e3 b r=>?_⟩;obtain⟨f,d⟩:=s.val (c:=c) l e3 b r (by
   unfold cellOf at eC;cases m with
   |fr =>
    simp only[Option.some.injEq]at eC;split at eC
    ·exact .inr ⟨eC.symm,rfl⟩
    ·exact .inl ⟨eC.symm,by decide⟩
   |pu=>cases eC;exact .inl ⟨rfl,by decide⟩
   |bo=>cases eC)
  exact k _ _ w f d
 ·cases e2
def aw{pos:Pos}(he:PV G X e ce)(r:X.N.Nodup)(p:{`q2,X.N[i]?=Y x})(g:{`q6,Loc X.env.scope x})(h:{`q2,swapsWith e (Y (.Name x a)) pos.line X.env=pure R})(q:{`q7,X.fn x=M\/X.env.scope.names.lookup x=Y .local}) :
  PSV G X (.Assign [.Name x a] e pos) (aK i ce):=PS.weak (vq r p g he h q) λD O H j=>by
 obtain⟨Z,U,o,s,e,k⟩:=j;obtain⟨⟨m,t⟩,w,e1⟩:=Zz.mp e;split at e1
 ·cases e1
 ·rename_i l;split at e1
  ·rename_i n;cases e1;refine⟨Z,U,m,t,s,w,λv y F e3 b u=>?_⟩;obtain⟨f,d⟩:=s.val n e3 b u (.inl ⟨rfl,l⟩);exact k _ _ y f d
  ·cases e1
def SR.frz(s:SR G Z U O H)(h:U[i]?=Y (Y (.ow t))):SR G Z (U.set i (Y (.pu t))) O H/\Ks Z U H Z (U.set i (Y (.pu t))) H:=by
 have back:∀{j c},(U.set i (Y (.pu t)))[j]?=Y (Y c)->∃l,U[j]?=Y (Y l)/\mI l=mI c/\∀u,c=.ow u->l=.ow u:=λ{j c} g=>by
  rcases iM g with⟨rfl,rfl⟩ | ⟨n,g⟩
  ·exact⟨.ow t,h,rfl,λu p=>nomatch p⟩
  ·exact⟨c,g,rfl,λu p=>p⟩
 refine⟨⟨by rw[Ya];exact s.len,λj c g=>?_,λj u g=>?_,λj k u c b d n=>?_⟩,⟨λa o r n=>⟨r,λ⟨j,u,b,d⟩=>?_⟩,λ_ h=>h,λa ⟨j,u,b,d⟩=>?_,λa ⟨j,u,b,d⟩=>?_,Kept.refl H⟩⟩
 ·obtain⟨l,b,d,_⟩:=back g;obtain⟨v,f,x⟩:=s.rp j l b;exact⟨v,f,by rw[← d];exact x⟩
 ·obtain⟨l,b,_,w⟩:=back g;rw[w u L]at b;exact s.nd j u b
 ·obtain⟨c1,f,_,m⟩:=back b;obtain⟨c2,q,_,_⟩:=back d;rw[m u L]at f;exact s.sep j k u c2 f q n
 ·obtain⟨c1,f,_,m⟩:=back b;rw[m u L]at f;exact n ⟨j,u,f,d⟩
 ·obtain⟨c1,f,_,m⟩:=back b;rw[m u L]at f;exact .inl ⟨j,u,f,d⟩
 ·rcases iM b with⟨rfl,_⟩ | ⟨n,b⟩
  ·exact .inr (.inl ⟨j,t,h,d⟩)
  ·exact .inl ⟨j,u,b,d⟩
def vI(i:Nat)(h:jd G X SK c):jd G X SK (ar (Df i) c):=LN.weak h λD O H f=>by
 obtain⟨Z,U,o,s,e,k⟩:=f;obtain⟨g,e1,e2⟩:=Zz.mp e;unfold Df at e1;split at e1
 ·rename_i t d;cases e1;obtain⟨b,a⟩:=s.frz d;exact⟨Z,_,o,b,e2,k.back a⟩
 ·cases e1;exact⟨Z,U,o,s,e2,k⟩
 ·cases e1
end
section
variable{st:Stmt}
structure Chg(G:Gx)(H:Hp)(v:V)(F:W5)(t':T)(H2:Hp)(F':W5):Prop where
 kept:Kept H H2
 keep:∀b o,b∉F->H b=some o->H2 b=some o
 J6:∀b,H b≠none->H2 b≠none
 rp:Rp G H2 v t' F'
 nd:F'.Nodup
 sub:∀a∈F',a∈F\/H a=none
def SR.mut(s:SR G Z U O H)(m:U[i]?=Y (Y (.ow t)))(A:O[i]?=Y (Y v))(g:Chg G H v (Z i) p x r) :
  SR G (mM Z i r) (U.set i (Y (.ow p))) O x/\Ks Z U H (mM Z i r) (U.set i (Y (.ow p))) x:=by
 have off:=λj f n d a b l=>s.sep i j t f m d (Y0 n) a l b;have es:O.set i (Y v)=O:=by
  obtain⟨h,e⟩:=ZY.mp A;rw[← e];exact Vb h
 have new:∀a∈r,∀j f,j≠i->U[j]?=Y (Y f)->a∉Z j:=λa b j f n d l=>by
  rcases g.sub a b with z | z
  ·exact off j f n d a l z
  ·obtain⟨w,_,q⟩:=s.rp j f d;exact JT.xa (q.J6 a l) z
 constructor
 ·have:=s.put (c:=.ow p) (v:=v) ((ZY.mp m).1) g.rp (λj f n d w q=>q.keep g.kept λa b o B=>g.keep a o (off j f n d a b) B) (λ_ _=>g.nd) (λu y j f n d a b=>new a b j f n d) λj u n d a b l=>new a l j _ n d b;rw[es]at this;exact this
 ·refine⟨λa o h n=>⟨g.keep a o (λz=>n ⟨i,t,m,z⟩) h,λz=>?_⟩,g.J6,λa h=>?_,λa h=>?_,g.kept⟩
  ·rcases oU z with⟨u,_,b⟩ | z
   ·rcases g.sub a b with z | z
    ·exact n ⟨i,t,m,z⟩
    ·rw[z]at h;cases h
   ·exact n z
  ·rcases oU h with⟨u,_,b⟩ | z
   ·rcases g.sub a b with z | z
    ·exact .inl ⟨i,t,m,z⟩
    ·exact .inr z
   ·exact .inl z
  ·rcases u6 h with⟨u,y,b⟩ | z
   ·cases y
   ·exact .inl z
def A7(G:Gx)(r:V->List V->Hp->VK->Prop)(f:T->Ur->Option (T×Val)):Prop:=∀(Z:JS)(U:VS.Env)(H g:Hp)(v:V)(t b:T)(F:W5)(l:Ur)(a:List V)(h:X5)(x:Val)(Q:VK),
 Rp G H v t F->F.Nodup->Args G Z U H g l a h->f t l=Y (b,x)->(∀u d i,Chg G H v F b d i->Q u d)->r v a g Q
def Aw{pos:Pos}{b:Pos}(i:Nat)(pa:PlainAttrs w)(h:Slot w a n)(Tj:typeOf (.builtin n)=pure (.type "method_descriptor"))(hm:MtR X n r)(ok:A7 G r f)(hT:∀H v t F l z,Rp G H v t F->f t l=Y z->RP G.K w v H)(ha:KD G X (e :: es) cs)(hK:{`q2,X.K=G.K})(hN:{`q2,X.N[i]?=Y x})(hv:{`q5,MZ X.env.scope x})(hd:{`q1,K3 x})(q:{`q1,K4 x})(Kp:{`q2,XAC (.Name x j) a X.env (eval (.Name x j) X.env)=eval (.Name x j) X.env})(KP:{`q2,((backTo d (P3 (e :: es) X.env)).all (λx=>!x.1)&&(backToKw d (SZ [] X.env)).all (λx=>x.1.isSome)
   && decide ((e :: es).length+([]:List Keyword).length+(if ([]:List Keyword).isEmpty then 0 else 1)<30))=M})(Kc:{`q2,(b.endLine==d.line)=M})(hs:{`q2,K1 e es X})(Kb:{`q2,K2 d es X})(Mj:{`q2,swapsWith (.Call (.Attribute (.Name x j) a b) (e :: es) [] d) J pos.line X.env=pure R}) :
  PSV G X (.Expr (.Call (.Attribute (.Name x j) a b) (e :: es) [] d) pos) (sX (nt i [] f cs)) :=
 PS.weak (jF (wB pa h Tj hm (gp hN hv hd q) ha Kp KP Kc hs Kb) Mj) λD O H hq=>by
  refine L2.aq λP_ m=>?_;obtain⟨Z,U,o,s,e,k⟩:=hq;unfold sX nt at e;obtain⟨⟨C,U'⟩,e1,e2⟩:=Zt.mp e;refine m ?_;split at e1
  ·rename_i t p;refine L2.aq λP_ m=>?_;obtain⟨ks,ek,e3⟩:=Zz.mp e1;cases (ek);obtain⟨l,el,e4⟩:=Zz.mp e3;obtain⟨⟨S,x2⟩,e5,e6⟩:=Zt.mp e4;cases e6;cases e2;obtain⟨v,A,y⟩:=s.rp _ _ p;refine m ?_;have B:=e5;refine⟨v,A,by rw[hK];exact hT H v t _ l _ y B,Z,U,l,s,el,λQ H' Fs q1 q2 q3=>?_⟩;refine ok Z U H H' v t S (Z i) l Q Fs C _ y (s.nd i t p) ⟨q1,q2,q3⟩ B λu H2 F' g=>?_;obtain⟨P,E⟩:=s.mut p A g;exact k _ O H2 P E
  ·cases e1
theorem Chg.upd{H:Hp}(e:bg H d)(n:a∈F)(m:JT (d a))(r:Rp G (upd d a o) v i f)(l:f.Nodup)(g:∀a∈f,a∈F\/H a=J):Chg G H v F i (upd d a o) f :=
 ⟨(Kept.of e).trans (Kept.upd (.inl m)),λb j hb h=>by rw[aM (λz=>hb (by rw[z];exact n))];exact e b j h,
  λb h z=>by
   by_cases q:b=a
   ·subst q;rw[aH]at z;cases z
   ·rw[aM q]at z;exact h (e.free z),r,l,g⟩
def RpL.off(r:RpL G H f g d)(j:JT (H a))(h:a∉d.flatten):RpL G (upd H a o) f g d :=
 r.keep (Kept.upd (.inl j)) λb hb l i=>by rw[aM (λz=>h (by rw[← z];exact hb))];exact i
def m7(h:fit v=Y t):v=(.fr,t):=by
 obtain⟨m,x⟩:=v;cases m<;>first | (cases h;rfl) | cases h
def lJ:A7 G vJ aN:=by
 intro Z U H D v t P F l N S x Q r nd A e k;unfold aN at e;split at e
 ·rename_i O y;obtain⟨z,u,e1⟩:=Zz.mp e;have B:=m7 u;subst B;split at e1
  ·rename_i q;cases e1;obtain⟨a,n,E,rfl,rfl,h,f⟩:=r.lst_inv;obtain⟨w,j,rfl,rfl,C⟩:=(A.rp).one;have d:=A.fp.each 0 _ _ L L;have i:=A.same a _ h;have g:JT (D a):=by rw[i];exact True.intro
   have na:=(ZW.mp nd).1;have nw:a∉j:=λz=>by rw[d.2 a z]at h;cases h
   refine⟨a,n,w,rfl,rfl,i,by rw[f.len.1];exact q,k _ _ (a :: (E++[j]).flatten) ?_⟩;have off:=λb hb hw=>JT.xa (f.J6 b hb) (d.2 b hw);refine Chg.upd A.same Zv g (.lst aH (((f.same A.same).off g na).append (.cons (C.keep (Kept.upd (.inl g)) λb hb o p=>by rw[aM (λz=>nw (by rw[← z];exact hb))];exact p) .nil))) ?_ ?_
   ·rw[Yh];refine ZW.mpr ⟨λm=>?_,ZA.mpr ⟨(ZW.mp nd).2,by simpa using d.1,λb hb c s z=>?_⟩⟩
    ·rcases Zd.mp m with m | m
     ·exact na m
     ·exact nw (by simpa using m)
    ·subst z;exact off b hb (by simpa using s)
   ·intro b hb;rcases Zg.mp hb with rfl | hb
    ·exact .inl Zv
    ·rw[Yh]at hb;rcases Zd.mp hb with hb | hb
     ·exact .inl (Zu _ hb)
     ·exact .inr (d.2 b (by simpa using hb))
  ·cases e1
 ·cases e
def Ah(r:Rp G H v (.lst b) F):RP G.K "list" v H:=by
 obtain⟨a,f,h,rfl,rfl,d,g⟩:=r.lst_inv;exact .inl ⟨rfl,_,JV.of d⟩
def jv(r:Rp G H v t F)(h:aN t l=Y z):RP G.K "list" v H:=by
 unfold aN at h;split at h
 ·exact Ah r
 ·cases h
end
structure NR(G:Gx)(J:It)(l:Up)(C:W5)(H:Hp):Prop where
 run:∀H2,Kept H H2->(∀a∈C,∀o,H a=some o->H2 a=some o) →
  (∀(i:Nat)(t:T),l[i]?=some t->J.go i H2/\∀x H3,J.Uc i H2 x H3->bg H2 H3/\∃F,Rp G H3 x t F/\∀a∈F,a∈C\/H2 a=none)/\∀(i:Nat),l.length<=i->J.stop i H2
 J6:∀a∈C,H a≠none
def FpC(Z:JS)(U:VS.Env)(H:Hp)(m:Md)(C:W5):Prop:=∀a∈C,H a=J\/fo Z U a\/(m=.bo/\cQ Z U a)
theorem Fp.c{U:VS.Env}:∀{m:Md},Fp Z U H m F->FpC Z U H m F
 |.fr,f=>λa b=>.inl (f.2 a b)
 |.pu,f=>λa b=>(f a b).imp id .inl
 |.bo,f=>λa b=>(f a b).imp id λz=>z.imp id λz=>⟨rfl,z⟩
def tI(G:Gx)(c:Mr):TI:=λO H R=>∃Z U m l,SR G Z U O H/\c U=Y (m,l)/\∀J a C,bg H a->NR G J l C a->FpC Z U H m C->R J a
def PVI(G:Gx)(X:Cx)(b a:Expr)(c:Mr):Prop:=PI X b a (tI G c)
def PI.weak{X:Cx}(h:PI X b e t)(w:∀O H Q,d O H Q->t O H Q):PI X b e d:=λa s O H Q I q=>h a s O H Q I (w O H Q q)
section
def sT(H:Hp)(d:Int)(n:Nat):NR G (T9 d n) (rng d n) [] H:=by
 refine⟨λq _ _=>⟨λi t h=>?_,λi h=>(by simpa[rng] using h:n<=i)⟩,λa h=>by simp at h⟩;unfold rng at h;rw[ZG]at h;obtain⟨k,g,e⟩:=Zt.mp h;obtain⟨f,e2⟩:=ZY.mp g;rw[LM]at f;have l:i=k:=by simpa using e2
 subst l;refine⟨f,λx o j=>?_⟩;obtain⟨e3,m⟩:=j;subst e3;subst m;rw[← e];exact⟨bg.refl _,[],.int _,λa h=>by simp at h⟩
def d6(w:PV G X a ca)(u:Gl X "range")(r:X.mg "range" = J)(o:{`q2,K1 a [] X})(z:{`q2,P3 [a] X.env=[(false,eval a X.env)]}):PVI G X tg (.Call (.Name "range" p) [a] [] pos) (dY ca) :=
 PI.weak (yp u r (fu w j6 o) z) λO H R q=>by
  obtain⟨Z,U,m,l,s,e,k⟩:=q;obtain⟨⟨n,x⟩,y,e1⟩:=Zz.mp e;obtain⟨j,f,e2⟩:=Zz.mp e1;split at e2
  ·rename_i d;cases e2;refine⟨Z,U,n,x,s,y,λv g F e3 i B=>?_⟩;cases x with
   |int A =>
    cases f;refine⟨j,by rw[i.int_inv],?_,?_,k _ g [] e3 (sT g 0 j.toNat) λa h=>by simp at h⟩
    ·have:=d.1;unfold PL at this;lia
    ·have:=d.2;unfold PL at this;lia
   |_=>cases f
  ·cases e2
def uG(L:PV G X a ca)(E:PV G X b cb)(D:Gl X "range")(B:X.mg "range" = J)(z:{`q2,P3 [a,b] X.env=(false,eval a X.env) :: P3 [b] X.env})(Lg:{`q2,P3 [a,b] X.env=[(false,eval a X.env),(false,eval b X.env)]})(S:{`q2,K1 b [] X})(MW:{`q2,P3 [b] X.env=[(false,eval b X.env)]}) :
  PVI G X tg (.Call (.Name "range" p) [a,b] [] pos) (mU ca cb) :=
 PI.weak (xy D B (fu L (fu E j6 S) z) Lg MW) λO H R A=>by
  refine L2.aq λP_ u=>?_;obtain⟨Z,U,m,l,s,e,k⟩:=A;obtain⟨⟨r,x⟩,P,e1⟩:=Zz.mp e;obtain⟨⟨q,y⟩,N,e1⟩:=Zz.mp e1;obtain⟨i,f,e2⟩:=Zz.mp e1;obtain⟨j,d,e2⟩:=Zz.mp e2;refine u ?_;split at e2
  ·rename_i C;cases e2;refine⟨Z,U,r,x,s,P,λv H' F e3 o f3=>⟨Z,U,q,y,s.same e3,N,λw g F2 Q n f4=>?_⟩⟩;cases x with
   |int i' =>
    cases f;cases y with
    |int j' =>
     cases d;refine⟨i,j,by rw[o.int_inv,n.int_inv],?_,k _ g [] (e3.trans Q) (sT g i (j-i).toNat) λa h=>by simp at h⟩;unfold PL at C;omega
    |_=>cases d
   |_=>cases f
  ·cases e2
def di{d:X5}{i:Nat}{F:W5}(h:d[i]?=Y F){a:On}(f:a∈F):a∈d.flatten:=(du h).subset f
def Cy{a:On}(K:Wy)(j:H a=Y (.lst d))(r:RpL G H d g m):NR G (Itl K a) g (a :: m.flatten) H:=by
 refine⟨λy k c=>?_,λb hb=>?_⟩
 ·have f:=c a Zv _ j;refine⟨λi t h=>?_,λi h=>⟨d,JV.of f,by rw[r.len.1];exact h⟩⟩;obtain⟨v,F,l,u,s⟩:=(r.keep k λb hb o n=>c b (Zu _ hb) o n).get i h;refine⟨⟨d,v,JV.of f,l⟩,λx w q=>?_⟩;obtain⟨e1,e2⟩:=q;subst e1;have ex:=e2 d (JV.of f);rw[l]at ex;cases ex;exact⟨bg.refl _,F,s,λb hb=>.inl (Zu _ (di u hb))⟩
 ·rcases Zg.mp hb with rfl | hb
  ·rw[j];exact λz=>nomatch z
  ·exact JT.xa (r.J6 b hb)
def FQ{a:On}(K:Wy)(n:H a=Y (.tup d))(r:RpL G H d g l):NR G (Itt K a) g l.flatten H:=by
 refine⟨λy k c=>?_,λb hb=>JT.xa (r.J6 b hb)⟩;have f:=k.tup a _ n;refine⟨λi t h=>?_,λi h=>⟨d,KY.of f,by rw[r.len.1];exact h⟩⟩;obtain⟨v,F,j,u,s⟩:=(r.keep k λb hb o m=>c b hb o m).get i h;refine⟨⟨d,v,KY.of f,j⟩,λx w q=>?_⟩;obtain⟨e1,e2⟩:=q;subst e1;have ex:=e2 d (KY.of f);rw[j]at ex;cases ex;exact⟨bg.refl _,F,s,λb hb=>.inl (di u hb)⟩
def tG(G:Gx)(g:Tg):TG:=λv O H Q=>∃Z U t F d,SR G Z U O H/\Rp G H v t F/\(∀a∈F,¬cQ Z U a)/\g t U=Y d ∧
 ∀f h,SR G f d h H->(∀a,cQ f d a->cQ Z U a)->(∀a,fo f d a->fo Z U a\/a∈F)->Q h H
def tGs(G:Gx)(l:List Tg):PD:=λj O H Q=>∃Z U h g d,SR G Z U O H/\RpL G H j h g/\(∀a∈g.flatten,¬cQ Z U a)/\Ag l h U=Y d ∧
 ∀f i,SR G f d i H->(∀a,cQ f d a->cQ Z U a)->(∀a,fo f d a->fo Z U a\/a∈g.flatten)->Q i H
def PF(G:Gx)(X:Cx)(e:Expr)(g:Tg):Prop:=PG X e (tG G g)
def DH(G:Gx)(X:Cx)(e:List Expr)(g:List Tg):Prop:=O0 X e (tGs G g)
def PG.weak{X:Cx}{e:Expr}{f:TG}(h:PG X e t)(w:∀v O H Q,f v O H Q->t v O H Q):PG X e f:=λd s O H v u Q I r q=>h d s O H v u Q I r (w v O H Q q)
def O0.weak{X:Cx}{e:List Expr}{f:PD}(h:O0 X e t)(w:∀v O H Q,f v O H Q->t v O H Q):O0 X e f:=λd s O H v u Q I r q=>h d s O H v u Q I r (w v O H Q q)
def aI{X:Cx}(i:Nat)(B:X.N.Nodup)(y:{`q2,X.N[i]?=Y x})(l:{`q6,Loc X.env.scope x})(A:X.fn x=M\/X.env.scope.names.lookup x=Y .local:=by first | exact .inl L | exact .inr rfl):PF G X (.Name x pos) (bx i):=PG.weak (Cm B y l A) λv O H Q m=>by
 obtain⟨Z,U,t,F,E,s,r,no,e,k⟩:=m;unfold bx at e;split at e
 ·rename_i o;cases e;refine k (mM Z i F) (O.set i (Y v)) (s.put o r (λj D n g w q=>q) (λu d=>nomatch d) (λu d=>nomatch d) λj u n g a f C=>no a C ⟨j,u,g,f⟩) (λa h=>?_) λa h=>?_
  ·rcases oU h with⟨u,d,_⟩ | z
   ·cases d
   ·exact z
  ·rcases u6 h with⟨u,d,f⟩ | z
   ·exact .inr f
   ·exact .inl z
 ·cases e
def jf:DH G X [] []:=O0.weak BR λv O H Q d=>by
 obtain⟨Z,U,f,i,g,s,r,no,e,k⟩:=d;cases r with
 |nil =>
  cases (e);exact⟨rfl,k Z O s (λ_ h=>h) λ_ h=>.inl h⟩
 |cons r q=>cases (e)
def c9(y:PF G X e g)(x:DH G X es i)(u:{`q2,(assignEach (e :: es) X.env).map (·.2)=assign e X.env :: (assignEach es X.env).map (·.2)}):DH G X (e :: es) (g :: i) :=
 O0.weak (zj y x u) λv O H Q w=>by
  obtain⟨Z,U,F,Fs,C,s,r,no,e,k⟩:=w;cases r with
  |nil=>cases (e)
  |cons r q =>
   rename_i E L F' LR S P;obtain⟨j,e1,e2⟩:=Zz.mp e;refine⟨_,_,rfl,Z,U,_,_,j,s,r,λa d=>no a (by rw[LL];exact Ye _ d),e1,λB N s1 f n=>?_⟩;refine⟨B,j,_,_,C,s1,q,λa d z=>no a (by rw[LL];exact ZI _ d) (f a z),e2,λA D l o m=>k A D l (λa h=>f a (o a h)) λa h=>?_⟩;rcases m a h with h | h
   ·rcases n a h with h | h
    ·exact .inl h
    ·exact .inr (by rw[LL];exact Ye _ h)
   ·exact .inr (by rw[LL];exact ZI _ h)
theorem uq:∀{f:List Tg}{d:Up}{U i:VS.Env},Ag f d U=Y i->d.length=f.length
 |[],[],_,_,_=>rfl
 |[],_ :: _,_,_,h=>nomatch h
 |_ :: _,[],_,_,h=>nomatch h
 |g :: f,t :: d,U,i,h=>by
  obtain⟨j,_,e2⟩:=Zz.mp (h);simp[uq e2]
def kC{X:Cx}(m:X.calm=M)(h:DH G X es d)(j:{`q2,(assignEach es X.env).length=d.length})(u:{`q2,(assignEach es X.env).findIdx? (·.1)=J})(y:{`q2,X.K=G.K}):PF G X (.Tuple es k pos) (kA d) :=
 PG.weak (Gu m h j u) λv O H Q i=>by
  obtain⟨Z,U,t,F,o,s,r,no,e,q⟩:=i;unfold kA at e;split at e
  ·rename_i l;obtain⟨n,g,x,rfl,rfl,w,f⟩:=r.Kq;exact⟨n,g,rfl,KY.of w,by rw[f.len.1];exact uq e,Z,U,l,x,o,s,f,no,e,q⟩
  ·cases e
def qk{tgt:Tg}{body:Sx}{l:Up}{U:VS.Env}(h:l[i]?=Y t):l.drop i=t :: l.drop (i+1):=by
 obtain⟨d,e⟩:=ZY.mp h;rw[← e];exact YE d
def EG{cb:Sx}(hq:tS G (gu g ci cb) D O H):HY (tI G ci) (tG G g) (tS G cb) D O H:=by
 refine L2.aq λP_ k_=>?_;obtain⟨Z,U,o,s,e,k⟩:=hq;obtain⟨⟨m,l⟩,el,e1⟩:=Zz.mp e;refine k_ ?_;dsimp only at e1;split at e1
 ·rename_i hm;refine⟨Z,U,m,l,s,el,λJ P C e2 ok fc=>?_⟩;have cno:∀a∈C,¬cQ Z U a:=λa y z=>by
   rcases fc a y with q | q | q
   ·exact JT.xa (s.Lm z) q
   ·exact s.Of z q
   ·exact(λz=>by rw[z]at hm;cases hm) q.1
  refine⟨λi n O2 N=>n=l.length-i/\∃S L,SR G S L O2 N/\Ks Z U H S L N/\Kept P N/\(∀a∈C,∀o,P a=Y o->N a=Y o/\¬cQ S L a)/\forL g cb (l.drop i) L=Y o,
   ⟨l.length-0,rfl,Z,U,s.same e2,Ks.same e2,Kept.refl _,λa y w A=>⟨A,cno a y⟩,by rw[WT];exact e1⟩,?_⟩
  rintro i n O2 N ⟨rfl,S,L,s2,f2,kp,con,e3⟩;obtain⟨go,stop⟩:=ok.run N kp λa y w A=>(con a y w A).1;cases hit:l[i]? with
  |none =>
   have hl:=YF.mp hit;left;rw[XI hl]at e3;cases (e3);exact⟨stop i hl,k S O2 N s2 f2⟩
  |some t =>
   have hl:=(ZY.mp hit).1;right;obtain⟨g1,y1⟩:=go i t hit;rw[qk (tgt:=g) (body:=cb) (U:=L) hit]at e3;obtain⟨U3,e4,e5⟩:=Zz.mp (e3);obtain⟨w,e6,e7⟩:=Zz.mp e5;refine⟨g1,λB j=>∃d f,SR G d f B j/\Ks Z U H d f j/\Kept P j/\(∀a∈C,∀o,P a=Y o->j a=Y o/\¬cQ d f a)/\forL g cb (l.drop (i+1)) f=Y o,λB j ⟨d,f,q⟩=>⟨l.length-(i+1),by omega,rfl,d,f,q⟩,λx H3 yl=>?_⟩;obtain⟨Q,F,rF,hF⟩:=y1 x H3 yl;refine⟨S,L,t,F,U3,(s2.same Q),rF,(λa y z=>by
    rcases hF a y with q | q
    ·have K6:=ok.J6 a q;cases A:P a with
     |none=>exact K6 A
     |some o''=>exact(con a q o'' A).2 z
    ·exact JT.xa (s2.Lm z) q),e4,λZ3 O3 s4 o3 p3=>?_⟩
   have f3:Ks Z U H Z3 U3 H3:=⟨λa w h n=>let ⟨h1,n1⟩:=f2.keep a w h n;⟨Q a w h1,λz=>n1 (o3 a z)⟩,λa h z=>f2.J6 a h (Q.free z),λa h=>f2.ow a (o3 a h),λa h=>by
    rcases p3 a h with h | h
    ·exact f2.pu a h
    ·rcases hF a h with q | q
     ·rcases fc a q with q | q | q
      ·exact .inr (.inr q)
      ·exact .inl q
      ·exact .inr (.inl q.2)
     ·exact .inr (.inr (f2.none q)),f2.kept.trans (Kept.of Q)⟩
   have next:∀{d f j},Ks Z3 U3 H3 d f j->Kept P j/\∀a∈C,∀o,P a=Y o->j a=Y o/\¬cQ d f a:=λr =>
    ⟨(kp.trans (Kept.of Q)).trans r.kept,λa y w A=>by
     obtain⟨h1,n1⟩:=con a y w A;exact r.keep a w (Q a w h1) λz=>n1 (o3 a z)⟩
   refine⟨Z3,U3,w,s4,e6,?_⟩;cases w with
   |nx f=>exact λd B j E r=>⟨d,f,E,f3.trans r,(next r).1,(next r).2,e7⟩
   |ct f=>exact λd B j E r=>⟨d,f,E,f3.trans r,(next r).1,(next r).2,e7⟩
   |bk f =>
    cases (e7);exact λd B j E r=>k d B j E (f3.trans r)
   |rt v f =>
    cases (e7);exact λu j F4 d B E r r5 q5=>k u j F4 d B E (f3.trans r) r5 (q5.back f3)
 ·cases e1
def cz{X:Cx}(m:PassesOwn (KF X.prog X.w) X.A X.env X.xe)(q:X.calm=M)(n:PVI G X tg d h)(o:PF G X tg g)(r:jd G X f i)(j:{`q3,∀x,XAD d X.env x=pure x}):PSV G X (.For tg d f [] pos) (gu g h i):=PS.weak (GR m q n o r j) λD O H l=>EG l
end
noncomputable def JE(H:Hp)(b:X5):Md->W5->Prop
 |.fr,F=>F.Nodup/\∀a∈F,H a=J
 |_,F=>∀a∈F,H a=J\/a∈b.flatten
def MB(G:Gx)(g:Fn):Sp:=λe H Q _=>∃b d m r,RpL G H e b d/\g b=Y (m,r)/\∀v a F,bg H a->Rp G a v r F->JE H d m F->Q v a
section
def call_of(h:tE G (aT g cs) O H Q):Eo (MB G g) [] E (tEs G cs) O H Q:=by
 refine L2.aq λP_ P=>?_;obtain⟨Z,U,m,t,s,e,u⟩:=h;obtain⟨l,el,e1⟩:=Zz.mp e;obtain⟨⟨n,r⟩,S,e2⟩:=Zz.mp e1;refine P ?_;refine⟨Z,U,l,s,el,λD y C b N L=>?_⟩;have A:Args G Z U H y l D C:=⟨b,N,L⟩
 have i:=L.join A.len;show MB G g (D++[]) y Q E;rw[ZL];refine⟨trees l,C,n,r,N,S,λv B F q o j=>?_⟩;have wide:(∀a∈F,y a=J\/a∈C.flatten)->Fp Z U H ((Md.pu).join (cJ l)) F:=λh=>by
  cases w:cJ l with
  |fr =>
   rw[w]at i;exact λa d=>.inl ((h a d).elim b.free (i.2 a))
  |pu =>
   rw[w]at i;exact λa d=>(h a d).elim (λz=>.inl (b.free z)) (i a)
  |bo =>
   rw[w]at i;exact λa d=>(h a d).elim (λz=>.inl (b.free z)) (i a)
 cases n with
 |fr =>
  cases e2;exact u v B F (b.trans q) o ⟨j.1,λa d=>b.free (j.2 a d)⟩
 |pu =>
  cases e2;exact u v B F (b.trans q) o (wide j)
 |bo =>
  cases e2;exact u v B F (b.trans q) o (wide j)
def DV{X:Cx}(F:FnOk X.prog X.w X.K X.mg X.base Kv k f fd ps (MB G g))(b:p0 k X.A)(j:Gl X x)(d:X.mg x=Y (.ref f))(i:PySem.W.keepIn X.K (.ref f)=M)(l:Binds X.K fd ps [])(m:KD G X (e :: es) cs)(n:{`q1,K3 x})(he:{`q2,K1 e es X})(a:{`q2,K2 pos es X}) :
  PV G X (.Call (.Name x p) (e :: es) [] pos) (aT g cs) :=
 PE.weak (Dg F b j d i l .nil mw m n he a) λO H Q h=>call_of h
def Au(r:RpL G H d a s)(n m:Nat)(w:m=d.length):SR G (λi=>s.getD i []) (a.map (λt=>Y (.pu t))++List.replicate (n-a.length) J) (d.map Y++List.replicate (n-m) J) H:=by
 subst w;have A:=r.len;have back:∀{i:Nat}{c:Cell},(a.map (λt=>Y (Cell.pu t))++List.replicate (n-a.length) J)[i]?=Y (Y c)->∃t,a[i]?=Y t/\c=.pu t:=λ{i c} h=>by
  by_cases o:i<a.length
  ·rw[Yr (by rw[Zw];exact o),ZG]at h;obtain⟨t,l,b⟩:=Zt.mp h;exact⟨t,l,(Zl b).symm⟩
  ·rw[Yn (by rw[Zw];exact ZD o),Y5]at h;split at h<;>cases h
 refine⟨by simp;lia,λi c h=>?_,λi t h=>?_,λi j t c h=>?_⟩
 ·obtain⟨t,l,rfl⟩:=back h;obtain⟨v,F,q,z,y⟩:=r.get i l;refine⟨v,?_,?_⟩
  ·have:=(ZY.mp q).1;rw[Yr (by rw[Zw];exact this),ZG,q];rfl
  ·rw[Zq,z];exact y
 ·obtain⟨u,_,b⟩:=back h;cases b
 ·obtain⟨u,_,b⟩:=back h;cases b
def jC{b:Up}:¬cQ Z (b.map (λt=>Y (Cell.pu t))++List.replicate n J) a:=by
 rintro⟨i,t,h,_⟩;by_cases d:i<b.length
 ·rw[Yr (by rw[Zw];exact d),ZG]at h;obtain⟨l,_,j⟩:=Zt.mp h;cases j
 ·rw[Yn (by rw[Zw];exact ZD d),Y5]at h;split at h<;>cases h
def uB{H:Hp}{vs:List V}{j:Up}{d:X5}(h:fo (λi=>d.getD i []) (j.map (λt=>Y (Cell.pu t))++List.replicate n J) a):a∈d.flatten:=by
 obtain⟨i,t,_,b⟩:=h;simp only[Zq]at b;cases e:d[i]? with
 |none=>rw[e]at b;simp at b
 |some F=>rw[e]at b;exact di e b
end
section
variable{K:Wy}
def Fo{d:List Str}(g:d.length=e)(h:MB G (fn e f c) b H Q E):b.length=d.length:=by
 obtain⟨l,n,m,r,j,a,_⟩:=h;unfold fn at a;split at a
 ·rename_i i;rw[j.len.1,i,g]
 ·cases a
def Ew{N:List Str}(s:N.length=f)(h:MB G (fn p f c) vs H Q E):tS G c { nx:=λ_ d=>Q .non d,rt:=Q } (L2.start N vs) H:=by
 obtain⟨D,F,m,r,y,g,q⟩:=h;unfold fn at g;split at g
 ·rename_i x;obtain⟨o,e1,e2⟩:=Zz.mp g;have j:=Au y f vs.length L;rw[x]at j;have e3:L2.start N vs=vs.map Y++List.replicate (f-vs.length) J:=by
   unfold L2.start;rw[s]
  rw[e3];refine⟨_,_,o,j,e1,?_⟩;cases o with
  |nx i =>
   cases e2;intro A B d l fr;exact q .non d [] (λa o h=>(fr.keep a o h jC).1) .non ⟨Y6,λa h=>by simp at h⟩
  |rt v i =>
   cases e2;intro u d C A B l fr n e;refine q u d C (λa o h=>(fr.keep a o h jC).1) n ?_;cases m with
   |fr=>exact⟨e.1,λa b=>(e.2 a b).elim id λz=>absurd z jC⟩
   |pu=>exact λa b=>(e a b).elim .inl λz=>z.elim (λz=>.inr (uB (H:=H) (vs:=vs) z)) λz=>absurd z jC
   |bo=>exact λa b=>(e a b).elim .inl λz=>z.elim (λz=>.inr (uB (H:=H) (vs:=vs) z)) λz=>absurd z jC
  |bk i=>cases e2
  |ct i=>cases e2
 ·cases g
def fnV(F:JP K x a b f j)(S:bt N e (ai b))(n:e.length=g)(o:N.length=i)(p:∀(d:PP)(A:SC)(outer:List PySem.Env)(s:KB)(H:Hp)(E:XK),p0 k (A.deeper (envOfC a (ai b) s.heap.objs.size f d))->jd G (j7 Kv P w K mg base N a (ai b) f d A outer s H E).M7 (bC b) c) :
  FnOk P w K mg base Kv (k+1) f j e (MB G (fn g i c)) :=
 F.ok S (λl H Q E h=>Fo n h) λd A outer s H l Q E m h=>⟨_,p d A outer s H E m,Ew o h⟩
end
end VS
end
section
namespace L2
open PySem PySem.Spec PyProof.Rows
theorem lW(b:Env):∀(l:List (Str×NameKind))(acc:List (Str×On)),(∀y∈l,y.2=.free->∃c,b.cells.lookup y.1=Y c)->(∀x c,acc.lookup x=Y c->b.cells.lookup x=Y c) →
  ∃cl,(forIn l acc (λx r=>if (x.snd==NameKind.free)=M then (do let a ← cellOf b x.fst;pure (ForInStep.yield ((x.fst,a) :: r))) else pure (ForInStep.yield r)):Sem (List (Str×On)))=pure cl ∧
   (∀x c,cl.lookup x=Y c->b.cells.lookup x=Y c)/\(∀x c,acc.lookup x=Y c->∃f,cl.lookup x=Y f)/\∀y∈l,y.2=.free->∃c,cl.lookup y.1=Y c
 |[],acc,_,i=>⟨acc,rfl,i,λx c h=>⟨c,h⟩,λy d=>nomatch d⟩
 | (n,k) :: l,acc,o,i=>by
  by_cases m:k=.free
  ·refine L2.aq λz v=>?_;subst m;obtain⟨c,u⟩:=o (n,.free) Zv L;have w:cellOf b n=pure c:=by unfold cellOf;rw[u]
   obtain⟨cl,s,q,e,p⟩:=lW b l ((n,c) :: acc) (λy d=>o y (Zu _ d)) (λx f h=>by
    rw[YO]at h;split at h
    ·rename_i g;have:x=n:=by simpa using g
     rw[this,← h];exact u
    ·exact i x f h)
   refine v ?_;refine⟨cl,?_,q,λx f h=>?_,λy d j=>?_⟩
   ·rw[List.forIn_cons];rw[Zs (show (NameKind.free==NameKind.free)=M from rfl),w,pure_bind,pure_bind];exact s
   ·by_cases g:x=n
    ·exact e x c (by rw[YO,g];simp)
    ·refine e x f ?_;rw[YO];have:(x==n)=R:=by simpa using g
     rw[this];exact h
   ·rcases Zg.mp d with rfl | d
    ·exact e n c (by rw[YO];simp)
    ·exact p y d j
  ·obtain⟨cl,s,q,e,p⟩:=lW b l acc (λy d=>o y (Zu _ d)) i;refine⟨cl,?_,q,e,λy d j=>?_⟩
   ·rw[List.forIn_cons];rw[Zo (by simpa using m),pure_bind];exact s
   ·rcases Zg.mp d with rfl | d
    ·exact absurd j m
    ·exact p y d j
def CM{b:Scope}{a:Env}(d:∀y∈b.names,y.2=.free->∃c,a.cells.lookup y.1=Y c) :
  ∃cl,closureFor b a=pure cl/\(∀x c,cl.lookup x=Y c->a.cells.lookup x=Y c)/\∀y∈b.names,y.2=.free->∃c,cl.lookup y.1=Y c:=by
 obtain⟨cl,g,f,_,e⟩:=lW a b.names [] d (λx c h=>nomatch h);refine⟨cl,?_,f,e⟩;simp only[closureFor];rw[g];rfl
def gO{l:List (Str×NameKind)}(h:l.lookup x=Y k):(x,k)∈l:=by
 induction l with
 |nil=>cases h
 |cons p l a =>
  rw[YO]at h;split at h
  ·rename_i b;have e:x=p.1:=by simpa using b
   cases h;rw[e];exact Zv
  ·exact Zu _ (a h)
theorem dC{a:Env}:∀{l:List (Str×NameKind)},(l.map λ(n,k)=>if (k==NameKind.free&&a.scope.kind == .function&&a.kindOf n==Y .cell) then (n,NameKind.cell) else (n,k)).lookup x=Y k →
  ∃e,l.lookup x=Y e/\(k=e\/(e=.free/\k=.cell))
 |[],h=>nomatch h
 | (n,d) :: l,h=>by
  rw[Zk,YO]at h;by_cases f:(d==NameKind.free&&a.scope.kind == .function&&a.kindOf n==Y .cell)=M
  ·simp only[f,if_true]at h;rw[YO];cases b:x==n with
   |true =>
    rw[b]at h;have:d=.free:=by
     have:=(ZP.mp (ZP.mp f).1).1;simpa using this
    exact⟨d,rfl,.inr ⟨this,(Zl h).symm⟩⟩
   |false=>rw[b]at h;exact dC h
  ·simp only[f,if_false,Y3]at h;rw[YO];cases b:x==n with
   |true=>rw[b]at h;exact⟨d,rfl,.inl (Zl h).symm⟩
   |false=>rw[b]at h;exact dC h
def bY(X:Cx)(N:List Str)(a:Scope)(d:List (Str×On))(C:On)(s:KB)(H:Hp)(b:W5):Cx :=
 { X with N:=N,s₀:=s,H₀:=H,env:=compEnvC a d C X.env,outer:=X.stack,ex:=b,fn:=λ_=>false,pn:=[],xe:=λ_ _=>False }
def nN(a:Env)(b:Scope):Bool:=b.kind == .function&&b.names.all λy=>match y.2 with
 |.cell=>R
 |.local=>b.names.lookup y.1==Y .local
 |.free=>a.kindOf y.1==Y .cell||a.kindOf y.1==Y .free
 |_=>M
noncomputable def oB(d:Scope):List Str->List Str->Bool
 |[],[]=>M
 |a :: e,b :: bs=>((a==b&&d.names.lookup a==Y .free)||d.names.lookup a==J||d.names.lookup a==Y .globalImplicit)&&oB d e bs
 |_,_=>R
theorem wJ:∀{f bs:List Str},oB d f bs=M->f.length=bs.length/\∀(i:Nat)(x:Str),f[i]?=Y x->(bs[i]?=Y x/\d.names.lookup x=Y .free)\/d.names.lookup x=J\/d.names.lookup x=Y .globalImplicit
 |[],[],_=>⟨rfl,λi x h=>by simp at h⟩
 |a :: f,b :: bs,h=>by
  obtain⟨g,n⟩:=ZP.mp (h);obtain⟨l,r⟩:=wJ n;refine⟨by simp[l],λi x e=>?_⟩;cases i with
  |zero =>
   have:a=x:=by simpa using e
   subst this;simp only[Bool.or_eq_true,YT]at g;rcases g with (⟨m,j⟩ | z) | z
   ·exact .inl ⟨by simpa using(by simpa using m:a=b).symm,by simpa using j⟩
   ·exact .inr (.inl (by simpa using z))
   ·exact .inr (.inr (by simpa using z))
  |succ i=>simpa using r i x (by simpa using e)
 |[],_ :: _,h=>nomatch h
 |_ :: _,[],h=>nomatch h
section
variable{H:Hp}
def Inv.block{N:List Str}{Z:List (Str×On)}{k:Nat}{B:XAA}{t:Nat}(I:Inv X pins O H s)(L5:nN X.env g=M)(MK:oB g (N.drop k) X.N=M)(MO:k<=N.length)(j:∀x c,Z.lookup x=Y c->X.env.cells.lookup x=Y c)(UX:∀y∈g.names,y.2=.free->∃c,Z.lookup y.1=Y c)(F:∀b∈U,o8 X pins H b)(A:s.heap.objs.size<=D)(hC:s.heap.objs.size<=C)(UZ:D≠C)(UU:C∉U)(a:∀b u,s.heap.get? b=Y u->B.get? b=Y u)(UO:B.Ns C m)(S:B.get? D=Y { cls:=.type "list",data:=.seq ([]:Vq).toArray 0 }) :
  Inv (bY X N g Z C s H U) [] (List.replicate k J++O) (upd H D (.lst [])) { s with heap:=B,toks:=t }:=by
 unfold nN at L5;rw[YT,Lw]at L5;obtain⟨hk,Kk⟩:=L5;have Nu:g.kind=.function:=by simpa using hk
 obtain⟨hlen,LJ⟩:=wJ MK;have Nw:∀y∈g.names,y.2 ≠ .cell:=λy hy e=>by have:=Kk y hy;rw[e]at this;cases this
 refine⟨⟨I.mod,Nu,I.ok.glob,I.ok.blt,hC,λx y c e1 e2=>I.ok.inj x y c (j x c e1) (j y c e2),λx hx=>?_,λx c e=>(nomatch e),I.ok.hd,I.ok.frames,.inl L,λb hb=>⟨λ(e:b=C)=>UU (e ▸ hb),λx c e=>(F b hb).2.2.2.2.1 x c (j x c e)⟩,
  I.tb,I.bs,ZS I.ok.Px I.sz,λb o e hb=>?_,λb hb KQ=>?_,I.stack,I.Nk⟩,rfl,I.bare,Un.laid a A (I.xb.fresh A),⟨m,UO,λi x v e1 e2 e3=>?_⟩,λx c e=>?_,?_,λx c e=>?_,λp hp=>(nomatch hp),I.xb.laid a A ?_,?_⟩
 ·have h:∃f,(relabel g X.env).names.lookup x=Y f/\(f=.cell\/f=.free):=by
   rcases hx with e | e
   ·exact⟨_,e,.inl L⟩
   ·exact⟨_,e,.inr L⟩
  obtain⟨f,E,OX⟩:=h;exact UX _ (gO ((λx f h KW=>by
  obtain⟨P,d,US⟩:=dC h;rcases US with e | ⟨e,_⟩
  ·subst e;rcases KW with e | e
   ·subst e;exact absurd L (Nw _ (gO d))
   ·subst e;exact d
  ·subst e;exact d) x f E OX)) L
 ·rcases (F b hb).2.2.2.1 with z | z
  ·exact I.ok.Oi b o e z
  ·exact absurd (Zi (ZV e) (ZS I.ok.Px z)) (Yf _)
 ·rcases Zg.mp (I.Mi b KQ) with z | z
  ·exact(F b hb).2.1 z
  ·exact(F b hb).2.2.1 z
 ·
  have Qy:k<=i:=by
   rcases Vj i k with z | z
   ·rw[Yr (by simpa using z),Y5]at e2;split at e2<;>cases e2
   ·exact z
  rw[Yn (by simpa using Qy),Xv]at e2;have G:g.names.lookup x=Y .free->∃f,(relabel g X.env).names.lookup x=Y f/\(f=.cell\/f=.free):=λd=>by
   rcases e3 with z | z | z
   ·obtain⟨P,E,OX⟩:=dC z;rw[d]at E;cases E;rcases OX with q | ⟨_,q⟩<;>cases q
   ·exact⟨_,z,.inl L⟩
   ·exact⟨_,z,.inr L⟩
  rcases LJ _ x (by
   rw[List.getElem?_drop,show k+(i-k)=i by exact V0 Qy];exact e1) with⟨hX,d⟩ | d | d
  ·obtain⟨f,Nv,LV⟩:=G d;have w:X.env.kindOf x=Y .cell\/X.env.kindOf x=Y .free:=by
    simpa using(Kk _ (gO d))
   obtain⟨mX,hnX,Q⟩:=I.loc;obtain⟨u,r,l⟩:=Q _ x v hX e2 (w.elim (λz=>.inr (.inl z)) λz=>.inr (.inr z));refine⟨u,r,.inr ⟨?_,?_⟩⟩
   ·rcases LV with z | z
    ·subst z;exact .inl Nv
    ·subst z;exact .inr Nv
   ·obtain⟨c,hc⟩:=UX _ (gO d) L;refine⟨c,hc,?_⟩;rcases l with⟨z,_⟩ | ⟨_,c',ML,Rv⟩
    ·rcases w with q | q<;>(rw[z]at q;cases q)
    ·have:=j x c hc;rw[ML]at this;cases this;exact Rv.keeps a
  ·rcases e3 with z | z | z<;>(obtain⟨P,n,_⟩:=dC z;rw[d]at n;cases n)
  ·rcases e3 with z | z | z<;>(obtain⟨P,n,z2⟩:=dC z;rw[d]at n;cases n;rcases z2 with q | ⟨q,_⟩<;>cases q)
 ·obtain⟨v,z⟩:=I.cell x c (j x c e);exact⟨v,z.keeps a⟩
 ·show upd H D (.lst []) C=J;rw[aM (Y0 UZ)];exact(I.xb.fresh hC)
 ·obtain⟨v,z⟩:=I.cell x c (j x c e);rw[aM (Ze (Zi z.lt A))];exact I.KJ x c (j x c e)
 ·exact⟨ZE _,[],0,.nil,S⟩
 ·rw[Zx,Xv,I.len,← hlen,Yl];exact V0 MO
def zI(X:Cx)(a:List Expr)(t:TT):Prop :=
 ∀(pins:Yw)(s:KB)(O:St)(H:Hp)(Q:Bool->Hp->Prop),Inv X pins O H s->t O H Q →
  Pi (KF X.prog X.w) X.A (forIn a M λc r=>if r=M then (do let ok ← isTrue c X.env (eval c X.env);pure (ForInStep.yield ok)) else pure (ForInStep.yield r)) (TP X pins O Q) X.xe s
def nV:zI X [] (λO H Q=>Q M H):=λpins s O H Q I q=>Zm ⟨H,I,q⟩
def t7(h:PT X c t):zI X [c] t:=λpins s O H Q I q=>by
 rw[List.forIn_cons,Zs L];refine Zy (Zy (thn (h pins s O H Q I q) λb s1 a=>Zm ?_));exact Zm a
section
variable{R:Result->KB->Prop}
def rV{s:KB}(I:Nat->KB->Prop)(turn:∀n s,I n s->Pi (KF prog w) A (pyNext q) (λr o=>match r with
   |none=>R (.ok .next) o
   |some v=>Pi (KF prog w) A (letOwnedTupleGo a q v) (λ_ C=>Pi (KF prog w) A (assign a d v) (λ_ B =>
     Pi (KF prog w) A (forIn g M λc r=>if r=M then (do let ok ← isTrue c d (eval c d);pure (ForInStep.yield ok)) else pure (ForInStep.yield r)) (λok l =>
      if ok=M then Pi (KF prog w) A (eval i d) (λx z =>
       Pi (KF prog w) A (call (.builtin "list.append") [j,x]) (λ_ y=>∃m,m<n/\I m y) (λ_ _=>False) z) (λ_ _=>False) l
      else ∃m,m<n/\I m l) (λ_ _=>False) B) (λ_ _=>False) C) (λ_ _=>False) o) (λ_ _=>False) s)(n:Nat)(h:I n s) :
  codeAny (KF prog w) A (.compLoop (.ListComp i [⟨a,f,g,0⟩] e p) 0 q j d) R s:=by
 refine codeAny_loop L I (λn s N=>?_) n h;refine wpAny_noted ?_;rw[compTurn_list];refine Zy (wpAny_standAt (Zy (Xy (turn n s N) (λr o D=>?_) λ_ _ b=>b.elim)));cases r with
 |none=>exact Zm D
 |some v =>
  refine Zy (Xy D (λ_ C h₀=>?_) λ_ _ b=>b.elim);refine Zy (Xy h₀ (λ_ B G=>Zy (Xy G (λok l u=>?_) λ_ _ b=>b.elim)) λ_ _ b=>b.elim);cases ok with
  |false=>exact Zm ⟨rfl,u⟩
  |true =>
   rw[Zs L]at u;exact Zy (Zy (Xy u (λx z F=>Zy (Xy F (λ_ y E=>Zm (Zm ⟨rfl,E⟩)) λ_ _ b=>b.elim)) λ_ _ b=>b.elim))
end
def vP(k:Nat)(p:TI)(g:TG)(r:TT)(q:TE)(O:St)(H:Hp)(Q:VK):Prop:=p O H λJ o=>∀D,o D=none->∃W:Nat->Nat->St->Hp->Prop,
 (∃m,W 0 m (List.replicate k none++O) (upd o D (.lst [])))/\∀i m h d,W i m h d->(J.stop i d/\Q (.ref D) d)\/(J.go i d/\∀x n,J.Uc i d x n->g x h n λe u=>r e u λb l =>
  if b=M then q e l λy j=>∃f,j D=Y (.lst f)/\f.length<KM/\∃a,a<m/\W (i+1) a e (upd j D (.lst (f++[y]))) else ∃a,a<m/\W (i+1) a e l)
def pV{X:Cx}{N:List Str}(J3:X.calm=M)(hi:PI X tg a wi)(L5:nN X.env B=M)(MK:oB B (N.drop k) X.N=M)(MO:k<=N.length)(Lh:∀cl C s H fp,PG (bY X N B cl C s H fp) tg g/\zI (bY X N B cl C s H fp) F tc/\PE (bY X N B cl C s H fp) U te)(hs:∀x,XAD a X.env x=pure x)(I:Inv X pins O H s)(h:vP k wi g tc te O H Q)(hq:∀s' f D C m,Inv X pins O f s'->Q (.ref D) f->s'.heap.Ns C m->o8 X pins f C->compPost (KF X.prog X.w) X.A X.xe E QQ (.ref D) C (.ok .next) s') :
  Pi (KF X.prog X.w) X.A (comprehension (.ListComp U [⟨tg,a,F,0⟩] B pos) B X.env pos' (newList []) R (eval a X.env) E) QQ X.xe s:=by
 have Rk:=L5;unfold nN at Rk;rw[YT,Lw]at Rk;obtain⟨hk,Kk⟩:=Rk;have Nu:B.kind=.function:=by simpa using hk
 obtain⟨cl,hcl,OV,UX⟩:=CM λy G e=>I.ok.has y.1 (by
  have:=Kk y G;rw[e]at this;simpa using this)
 refine wpAny_comprehension_free L hs hcl Nu (λy G e=>by
  have:=Kk y G;rw[e]at this;simpa using this) (thn (hi pins s O H _ I h) λv s1 h1=>thn h1 λitv j h2=>?_)
 refine L2.aq λP_ k_=>?_;obtain⟨it,fp,tn,J,H2,e,I2,T,Ll,f2,hW⟩:=h2;subst e;refine k_ ?_;refine WH (wpAny_newFunctionEnv (λy G e=>by have:=Kk y G;rw[e]at this;cases this) (by intro y G;simp at G) (λh₁ Ot Na=>?_) Nu);generalize hP:j.heap.push { cls:=.type "list",dict:=none,data:=.seq ([]).toArray }=P at Ot Na ⊢;have S:P.objs.size=j.heap.objs.size+1:=by rw[← hP,Xb]
 have old:=λb o e =>
  Na.extBut b o (by rw[S];exact Ze (L7 (ZV e))) (Zj _ (hP ▸ Zj _ e))
 have UZ:j.heap.objs.size≠P.objs.size:=by rw[S];exact Ze (Ym _)
 have Ry:j.heap.objs.size<=P.objs.size:=by rw[S];exact WZ _
 have P8:=λb hb=>let ⟨o,ho,_⟩:=T.obj 0 _ Ll b hb;ZV ho
 have UU:P.objs.size∉fp:=λhb=>absurd (Zi (P8 _ hb) Ry) (Yf _);have IY:=I2.block (N:=N) (k:=k) (t:=j.toks+([]:List (Str×PP)).length) L5 MK MO OV UX f2 (Zn _) Ry UZ UU old Ot (Na.extBut _ _ UZ (Zj _ (hP ▸ ZM _ L)));obtain⟨hG,hT,hE⟩:=Lh cl P.objs.size j H2 fp;generalize hY:bY X N B cl P.objs.size j H2 fp=Y at IY hG hT hE;have hYm:Y.prog=X.prog/\Y.w=X.w/\Y.K=X.K/\Y.A=X.A/\Y.env=compEnvC B cl P.objs.size X.env/\Y.calm=X.calm/\(Y.xe=λ_ _=>False):=by rw[← hY];exact⟨rfl,rfl,rfl,rfl,rfl,rfl,rfl⟩
 refine L2.aq λP_ k_=>?_;obtain⟨y1,y2,y3,Z,y5,y6,y7⟩:=hYm;have M0:∀{f:Hp},(∀b∈fp,f b=none)->∀b∈fp,o8 Y [] f b:=λ{f} hn b hb=>by
  rw[← hY];refine⟨hn b hb,λ(e:b=P.objs.size)=>UU (e ▸ hb),λKQ=>?_,.inl hb,λx c e=>(f2 b hb).2.2.2.2.1 x c (OV x c e),λp hp=>(nomatch hp)⟩;rcases Zg.mp (I2.Mi b KQ) with z | z
  ·exact(f2 b hb).2.1 z
  ·exact(f2 b hb).2.2.1 z
 obtain⟨W,⟨m0,w0⟩,turn⟩:=hW j.heap.objs.size (I2.xb.fresh (Zn _));refine k_ ?_;have M4:=T.keep _ _ _ Ll λb _ o e=>old b o e;have loop:codeAny (KF X.prog X.w) X.A (.compLoop (.ListComp U [⟨tg,a,F,0⟩] B pos) 0 (.ref it) (.ref j.heap.objs.size) (compEnvC B cl P.objs.size X.env)) (compPost (KF X.prog X.w) X.A X.xe E QQ (.ref j.heap.objs.size) P.objs.size)
   { j with heap:=h₁,toks:=j.toks+([]:List (Str×PP)).length }:=by
  refine rV (λn s'=>∃i O' f,Inv Y [] O' f s'/\tn i s'.heap/\(∀b∈fp,f b=none)/\W i n O' f) ?_ m0 ⟨0,_,_,IY,M4,(λb hb=>by rw[aM (Ze (P8 b hb))];exact(f2 b hb).1),w0⟩;rintro n s3 ⟨i,O3,H3,I3,M4,TJ,w3⟩;rcases turn i n O3 H3 w3 with⟨stop,qn⟩ | ⟨go,step⟩
  ·have q:=T.done Y y1 y2 y3 (y6.trans J3) i [] s3 O3 H3 (λ_ _=>False) I3 (M0 TJ) M4 stop;rw[Z]at q;refine thn q λr s4 l=>?_;obtain⟨hr,I4⟩:=l;subst hr;obtain⟨mC,hmC,_⟩:=I4.loc;have f4:=I4.free;rw[y5]at hmC f4;exact hq s4 H3 _ P.objs.size mC (by
    have b4:=I4.base;have o4:=I4.os;have k4:=I4.xb;rw[← hY]at b4 o4 k4;refine I2.TY (ch:=fp) o4 b4 k4 I4.bare λb hb=>?_;exact⟨(f2 b hb).2.2.2.1,(f2 b hb).2.1,(f2 b hb).2.2.2.2.1,(f2 b hb).2.2.2.2.2⟩) qn hmC (I2.OB Ry f4)
  ·have q:=T.item Y y1 y2 y3 (y6.trans J3) i [] s3 O3 H3 (λ_ _=>False) I3 (M0 TJ) M4 go;rw[Z]at q;refine thn q λr s4 l=>?_;obtain⟨u,hr,h4⟩:=l;subst hr;refine thn h4 λ_ s5 l=>?_;obtain⟨x,H5,I5,r5,yl5,QS,fr5⟩:=l;have again:∀{O7:St}{H7:Hp}{s7:KB}{m:Nat},Inv Y ([]++ox fp s5.heap) O7 H7 s7->W (i+1) m O7 H7->∃i O' f,Inv Y [] O' f s7/\tn i s7.heap/\(∀b∈fp,f b=none)/\W i m O' f:=λ{O7 H7 s7 m} I7 w7=>by
    refine⟨i+1,O7,H7,I7.KZ,T.keep _ _ _ QS λb hb o e=>(I7.pin (b,o) (ZI _ (ZI _ (iN hb e)))).1,λb hb=>?_,w7⟩;obtain⟨o,e,d⟩:=T.obj _ _ QS b hb;exact(I7.pin (b,o) (ZI _ (ZI _ (iN hb e)))).2.1
   have qa:=hG _ s5 O3 H5 x u _ (I5.pinned (M0 fr5) (T.obj _ _ QS)) r5 (step x H5 yl5);rw[y1,y2,Z,y5,y7]at qa;refine thn qa λ_ s6 l=>?_;obtain⟨O6,H6,I6,q6⟩:=l;have qt:=hT _ s6 O6 H6 _ I6 q6;rw[y1,y2,Z,y5,y7]at qt;refine thn qt λb s7 l=>?_;obtain⟨H7,I7,q7⟩:=l;cases b with
   |false =>
    rw[Zo Zh]at q7 ⊢;obtain⟨m',hm,w7⟩:=q7;exact⟨m',hm,again I7 w7⟩
   |true =>
    rw[Zs L]at q7 ⊢;have qe:=hE _ s7 O6 H7 _ I7 q7;rw[y1,y2,Z,y5,y7]at qe;refine thn qe λyv s8 l=>?_;obtain⟨y,H8,I8,r8,ys,hD8,hl8,m',hm,w8⟩:=l;have qp:=ip (X:=Y) _ s8 O6 H8 (.ref j.heap.objs.size) [y] (.ref j.heap.objs.size) [yv] (λ_ H9=>W (i+1) m' O6 H9) I8 L (.cons r8 .nil) ⟨_,ys,y,rfl,rfl,hD8,hl8,w8⟩;rw[y1,y2,Z,y7]at qp;refine thn qp λ_ s9 l=>?_;obtain⟨_,H9,I9,_,w9⟩:=l;exact⟨m',hm,again I9 w9⟩
 exact codeAny_compStart_list loop (T.self _ 0 _ _ _ M4 loop)
def rJ{X:Cx}{N:List Str}(G:X.calm=M)(y:PI X l a p)(F:nN X.env d=M)(A:oB d (N.drop k) X.N=M)(z:k<=N.length)(B:∀cl C s H fp,PG (bY X N d cl C s H fp) l g/\zI (bY X N d cl C s H fp) i u/\PE (bY X N d cl C s H fp) j r)(v:{`q3,∀x,XAD a X.env x=pure x}):PE X (.ListComp j [⟨l,a,i,0⟩] d n) (vP k p g u r):=by
 intro pins s O H Q I h;rw[eval_ListComp];refine pV G y F A z B v I h λS P D C m L q w f=>⟨m,w,λU E=>?_⟩
 exact⟨.ref D,P,L.turned (λb o hb e=>E.extBut b o hb e) f.1 f.2.1 f.2.2.2.1 f.2.2.2.2.1 f.2.2.2.2.2,rfl,q⟩
def nO{X:Cx}{E:Pos}{N:List Str}(hN:X.N.Nodup)(Tr:X.N[i]?=Y x)(G:Loc X.env.scope x)(J3:X.calm=M)(U:PI X u d y)(L5:nN X.env l=M)(MK:oB l (N.drop k) X.N=M)(MO:k<=N.length)(Lh:∀cl C s H fp,PG (bY X N l cl C s H fp) u g/\zI (bY X N l cl C s H fp) n B/\PE (bY X N l cl C s H fp) p A)(Mj:swapsWith (.ListComp p [⟨u,d,n,0⟩] l r) (Y (.Name x j)) E.line X.env=pure M)(Z:X.fn x=M\/X.env.scope.names.lookup x=Y .local)(P:{`q3,∀x,XAD d X.env x=pure x}) :
  PS X (.Assign [.Name x j] (.ListComp p [⟨u,d,n,0⟩] l r) E) (λD O H=>vP k y g B A O H λv H1=>D.nx (O.set i (Y v)) H1):=by
 intro pins s O H D I h;rw[exec_Assign_Name_used _ _ _ _ Mj];refine Zy (wpAny_standAt (Zy ?_));refine Zy (Xy (pV J3 U L5 MK MO Lh P I h λF H' D' C m I' q S f=>?_) (λ_ F Q=>Zm (Zm Q)) λ_ _ e=>e);refine wpAny_assign_Name (pL I' hN Tr G (v:=.ref D') L (λs2 I2 h_=>?_) Z);obtain⟨a,w,ha⟩:=h_;refine⟨m,S.sameBut w (λe=>by
  rcases ha with z | z
  ·exact f.2.1 (e.trans z)
  ·exact f.2.2.2.2.1 x a z e.symm),λh' Lg=>⟨_,H',?_,q⟩⟩
 exact I2.turned (λb o hb e=>Lg.extBut b o hb e) f.1 f.2.1 f.2.2.2.1 f.2.2.2.2.1 f.2.2.2.2.2
end
end L2
end
section
namespace VS
open PySem PySem.Spec PyProof.Rows L2
noncomputable def oA(k:Nat)(g:Tg):Prop:=∀t U a,g t U=Y a->a.length=U.length/\∀i,k<=i->a[i]?=U[i]?
def cx(h:{`q1,i<k}):oA k (bx i):=λt U b e=>by
 unfold bx at e;split at e
 ·cases e;exact⟨by simp,λj a=>by rw[Xs (by lia)]⟩
 ·cases e
theorem wb:∀{d:List Tg},(∀g∈d,oA k g)->∀b U a,Ag d b U=Y a->a.length=U.length/\∀i,k<=i->a[i]?=U[i]?
 |[],_,[],U,a,e=>by cases (e);exact⟨rfl,λ_ _=>rfl⟩
 |[],_,_ :: _,U,a,e=>nomatch e
 |_ :: _,_,[],U,a,e=>nomatch e
 |g :: d,h,t :: b,U,a,e=>by
  obtain⟨j,e1,e2⟩:=Zz.mp (e);obtain⟨p,o⟩:=h g Zv t U j e1;obtain⟨n,m⟩:=wb (λl hg=>h l (Zu _ hg)) b j a e2;exact⟨n.trans p,λi f=>(m i f).trans (o i f)⟩
def su(f:oA k b)(d:oA k a):oA k (kA [b,a]):=λt U h e=>by
 unfold kA at e;split at e
 ·refine wb (λg hg=>?_) _ U h e;rcases Zg.mp hg with rfl | hg
  ·exact f
  ·rw[Zc.mp hg];exact d
 ·cases e
theorem wm:∀(l:Up){i:Nat}{t:T},hJ l=M->l[i]?=Y t->JU t=M
 |[],_,_,_,h=>by simp at h
 |x :: l,0,t,h,e=>by
  simp at e;rw[← e];exact(ZP.mp h).1
 |x :: l,i+1,t,h,e=>by
  exact wm l (ZP.mp h).2 (by simpa using e)
def tC(G:Gx):Option Ex->TT
 |none=>λO H Q=>Q M H
 |some c=>tT G c
section
variable{H:Hp}
def kG:(List.replicate k J++U)[i]?=Y (Y c)↔k<=i/\U[i-k]?=Y (Y c):=by
 rcases Vj i k with h | h
 ·rw[Yr (by simpa using h),Y5];constructor
  ·intro e;split at e<;>cases e
  ·intro ⟨e,_⟩;lia
 ·rw[Yn (by simpa using h),Xv];exact⟨λe=>⟨h,e⟩,λe=>e.2⟩
def yF:cQ (λi=>Z (i-k)) (List.replicate k J++U) a↔cQ Z U a:=by
 constructor
 ·rintro⟨j,t,d,b⟩;exact⟨j-k,t,(kG.mp d).2,b⟩
 ·rintro⟨j,t,d,b⟩;refine⟨j+k,t,kG.mpr ⟨Y1 _ _,by rw[XJ];exact d⟩,?_⟩;show a∈Z (j+k-k);rw[XJ];exact b
def An:fo (λi=>Z (i-k)) (List.replicate k J++U) a↔fo Z U a:=by
 constructor
 ·rintro⟨j,t,d,b⟩;exact⟨j-k,t,(kG.mp d).2,b⟩
 ·rintro⟨j,t,d,b⟩;refine⟨j+k,t,kG.mpr ⟨Y1 _ _,by rw[XJ];exact d⟩,?_⟩;show a∈Z (j+k-k);rw[XJ];exact b
def SR.sh(s:SR G Z U O H):SR G (λi=>Z (i-k)) (List.replicate k J++U) (List.replicate k J++O) H:=by
 refine⟨by simp[s.len],λi c h=>?_,λi t h=>?_,λi j t c b a n=>?_⟩
 ·obtain⟨b,a⟩:=kG.mp h;obtain⟨v,e,d⟩:=s.rp _ c a;refine⟨v,?_,d⟩;rw[Yn (by simpa using b),Xv];exact e
 ·exact s.nd _ t (kG.mp h).2
 ·obtain⟨m,g⟩:=kG.mp b;obtain⟨l,f⟩:=kG.mp a;exact s.sep _ _ t c g f (by lia)
def SR.less{U:VS.Env}(s:SR G Z a O H)(b:U.length=a.length)(h:∀(i:Nat) c,U[i]?=Y (Y c)->a[i]?=Y (Y c)):SR G Z U O H :=
 ⟨b.trans s.len,λi c e=>s.rp i c (h i c e),λi t e=>s.nd i t (h i _ e),λi j t c e1 e2 n=>s.sep i j t c (h i _ e1) (h j _ e2) n⟩
def SR.off(s:SR G Z U O H)(m:JT (H D)\/H D=J)(d:¬fo Z U D)(a:¬cQ Z U D):SR G Z U O (upd H D o):=by
 refine⟨s.len,λi c e=>?_,s.nd,s.sep⟩;obtain⟨v,h,g⟩:=s.rp i c e;refine⟨v,h,g.keep (Kept.upd m) λb hb j f=>?_⟩;rw[aM λz=>?_]
 ·exact f
 ·subst z;cases c with
  |pu t=>exact d ⟨i,t,e,hb⟩
  |ow t=>exact a ⟨i,t,e,hb⟩
theorem oI:∀(l:Ur)(v:Val),cJ (l++[v])=(cJ l).join v.1
 |[],(m,t)=>by cases m<;>rfl
 | (m,t) :: l,v=>by
  show m.join (cJ (l++[v]))=(m.join (cJ l)).join v.1;rw[oI l v];generalize cJ l=q;generalize v.1=r;cases m<;>cases q<;>cases r<;>rfl
def Fp.Te(f:Fp Z U H m F)(g:Fp Z U H n j)(d:n=.fr->∀a∈F,a∉j):Fp Z U H (m.join n) (F++j):=by
 have both:∀{P:On->Prop},(∀a∈F,P a)->(∀a∈j,P a)->∀a∈F++j,P a:=λp q a h=>(Zd.mp h).elim (p a) (q a);cases m<;>cases n
 ·exact⟨ZA.mpr ⟨f.1,g.1,λa i b hb e=>d L a i (e ▸ hb)⟩,both f.2 g.2⟩
 ·exact both (λa i=>.inl (f.2 a i)) g
 ·exact both (λa i=>.inl (f.2 a i)) g
 ·exact both f λa i=>.inl (g.2 a i)
 ·exact both f g
 ·exact both (λa i=>(f a i).imp id .inl) g
 ·exact both f λa i=>.inl (g.2 a i)
 ·exact both f λa i=>(g a i).imp id .inl
 ·exact both f g
def Fp.TV(f:Fp Z U H m F)(h:H D=J)(d:D∉F):Fp Z U H m (D :: F):=by
 have all:∀{P:On->Prop},P D->(∀a∈F,P a)->∀a∈D :: F,P a:=λp q a b=>(Zg.mp b).elim (λe=>e ▸ p) (q a);cases m
 ·exact⟨ZW.mpr ⟨d,f.1⟩,all h f.2⟩
 ·exact all (.inl h) f
 ·exact all (.inl h) f
end
section
def CI(G:Gx)(Z:JS)(U b:VS.Env)(H p:Hp)(D:On)(l:Up)(h:Ur)(q:Tg)(d:Option Ex)(r:Ex)(i n:Nat)(s:L2.St)(f:Hp):Prop:=n=l.length-i/\∃e g j m rest,SR G e b s f/\(∀a,cQ e b a->cQ Z U a)/\(∀a,fo e b a->H a=J\/fo Z U a)/\¬fo e b D/\¬cQ e b D/\Kept p f ∧
     (∀a o,a≠D->p a=Y o->f a=Y o)/\f D=Y (.lst m)/\RpL G f m (trees g) j/\D∉j.flatten/\Fp Z U H (cJ g) j.flatten/\jS q d r b (l.drop i)=Y rest/\g++rest=h
def kX{G:Gx}{k:Nat}{tg:Tg}{ci:Mr}{cond:Option Ex}{ce:Ex}{O:L2.St}{H:Hp}{Q:VK}(Lh:oA k tg)(h:tE G (cG k tg ci cond ce) O H Q):vP k (tI G ci) (tG G tg) (tC G cond) (tE G ce) O H Q:=by
 refine L2.aq λP_ A=>?_;obtain⟨Z,U,m,r,s,e,kq⟩:=h;obtain⟨⟨mi,l⟩,el,e1⟩:=Zz.mp e;dsimp only at e1;split at e1
 ·rename_i xb;obtain⟨all,ea,e2⟩:=Zz.mp e1;unfold L4 at e2;split at e2
  ·rename_i hlen;cases e2;refine A ?_;refine⟨Z,U,mi,l,s,el,λJ H1 C e3 ok fc D hD=>?_⟩;have Rx:=e3.free hD;let N:VS.Env:=List.replicate k none++U
   have good:∀{t:T}{i:Nat}{p H2:Hp}{v:V}{F:W5},l[i]?=Y t->Rp G H2 v t F->(∀a,H1 a≠none->p a≠none)->(∀a∈F,a∈C\/p a=none)->∀a∈F,(H a=none\/fo Z U a)/\¬cQ Z U a:=λ{t i p H2 v F} hi rF keep hF a d=>by
    have J6:∀{b},H b≠none->p b≠none:=λ{b} hb=>keep b λz=>hb (e3.free z);rcases hF a d with z | z
    ·rcases fc a z with q | q | ⟨q,w⟩
     ·exact⟨.inl q,λw=>JT.xa (s.Lm w) q⟩
     ·exact⟨.inr q,λw=>s.Of w q⟩
     ·subst q;have:JU t=M:=by
       exact wm l xb hi
      rw[rF.JU this]at d;simp at d
    ·have hz:=Xf λq=>J6 q z;exact⟨.inl hz,λw=>JT.xa (s.Lm w) hz⟩
   refine⟨CI G Z U N H H1 D l all tg cond ce,?_,?_⟩
   ·refine⟨l.length-0,rfl,λi=>Z (i-k),[],[],[],all,?_,λa h=>yF.mp h,λa h=>.inr (An.mp h),λh=>?_,λh=>?_,Kept.upd (.inr hD),λa o n h=>by rw[aM n];exact h,aH,.nil,by simp,Fp.nil,by rw[WT];exact ea,rfl⟩
    ·exact((s.same e3).sh).off (.inr hD) (λh=>JT.xa (s.Oe (An.mp h)) Rx) λh=>JT.xa (s.Lm (yF.mp h)) Rx
    ·exact JT.xa (s.Oe (An.mp h)) Rx
    ·exact JT.xa (s.Lm (yF.mp h)) Rx
   ·intro i n O' p hh_;refine L2.aq λP_ A=>?_;obtain⟨rfl,Z1,X,Fs,xs,rest,s1,ow1,pu1,np1,no1,kp,old,Sb,rp,nD,fp,er,ev⟩:=hh_;refine A ?_;have Nr:∀a,H1 a≠none->p a≠none:=λa d z=>by
     by_cases q:a=D
     ·subst q;rw[Sb]at z;cases z
     ·cases e:H1 a with
      |none=>exact d e
      |some o=>rw[old a o q e]at z;cases z
    refine L2.aq λP_ A=>?_;obtain⟨go,stop⟩:=ok.run p kp λa d o ho=>old a o (λz=>ok.J6 a d (z ▸ hD)) ho;cases hit:l[i]? with
    |none =>
     have hl:=YF.mp hit;refine A ?_;left;refine⟨stop i hl,?_⟩;rw[XI hl]at er;cases (er);rw[ZL]at ev;subst ev;refine kq (.ref D) p (D :: Fs.flatten) (λa o h=>old a o (λz=>by rw[z,Rx]at h;cases h) (e3 a o h)) (.lst Sb rp) ?_;by_cases hi:hJ (trees X)=M
     ·rw[Zs hi,rp.JU hi];exact⟨by simp,λa d=>by rw[Zc.mp d];exact Rx⟩
     ·rw[Zo hi];exact fp.TV Rx nD
    |some t =>
     have hl:=(ZY.mp hit).1;obtain⟨g1,y1⟩:=go i t hit;refine A ?_;right;refine⟨g1,λx H2 yl=>?_⟩;refine L2.aq λP_ A=>?_;obtain⟨g,F,rF,hF⟩:=y1 x H2 yl;rw[qk (tgt:=tg) (body:=eU) (U:=U) hit]at er;rw[jS]at er;obtain⟨U3,e4,e5⟩:=Zz.mp er;obtain⟨b,eb,e6⟩:=Zz.mp e5;have gd:=good hit rF Nr hF;refine A ?_;refine⟨Z1,N,t,F,U3,(s1.same g),rF,λa d z=>(gd a d).2 (ow1 a z),e4,λE O3 s3 o3 p3=>?_⟩;obtain⟨tl,SG⟩:=Lh t N U3 e4;have low:∀j c,N[j]?=Y (Y c)->U3[j]?=Y (Y c):=λj c h=>by rw[SG j (kG.mp h).1];exact h
     have Um:=λa h=>(p3 a h).elim (pu1 a) λh=>(gd a h).1;have ow3:=λa h=>ow1 a (o3 a h);have SY:=λh=>(p3 D h).elim np1 (λh=>by
      rcases hF D h with z | z
      ·exact ok.J6 D z hD
      ·rw[Sb]at z;cases z)
     have UE:=λh=>no1 (o3 D h);have Ul:∀a,fo E N a->fo E U3 a:=λa ⟨j,u,h1,h2⟩=>⟨j,u,low j _ h1,h2⟩
     have Uo:∀a,cQ E N a->cQ E U3 a:=λa ⟨j,u,h1,h2⟩=>⟨j,u,low j _ h1,h2⟩
     have PY:∀S,bg H2 S->(if b=M then tE G ce O3 S λy P=>∃ys,P D=Y (.lst ys)/\ys.length<KM/\∃m',m'<l.length-i/\CI G Z U N H H1 D l all tg cond ce (i+1) m' O3 (upd P D (.lst (ys++[y]))) else ∃m',m'<l.length-i/\CI G Z U N H H1 D l all tg cond ce (i+1) m' O3 S):=λS f=>by
      have eo:∀{P},bg S P->∀a o,p a=Y o->P a=Y o:=λ{P} Sh a o h=>Sh a o (f a o (g a o h));cases b with
      |false =>
       rw[Zo Zh]at e6 ⊢;have same:=eo (bg.refl S);exact⟨_,by lia,rfl,E,X,Fs,xs,rest,(s3.same f).less (by rw[tl]) low,λa h=>ow3 a (Uo a h),λa h=>Um a (Ul a h),λh=>SY (Ul D h),λh=>UE (Uo D h),kp.trans ((Kept.of g).trans (Kept.of f)),λa o n h=>same a o (old a o n h),same D _ Sb,rp.same (bg.trans g f),nD,fp,e6,ev⟩
      |true =>
       rw[Zs L]at e6 ⊢;obtain⟨⟨mv,tv⟩,ece,e7⟩:=Zz.mp e6;obtain⟨SS,er1,e7'⟩:=Zt.mp e7;refine⟨E,U3,mv,tv,s3.same f,ece,λy P Fy Sh ry B=>?_⟩;have same:=eo Sh;have hD5:=same D _ Sb;have UI:JT (P D):=by rw[hD5];exact True.intro
       have hD4:=f D _ (g D _ Sb);have Oh:=λa h=>Xf λq=>Nr a (λz=>q (e3.free z)) (g.free (f.free h));have DFy:=λh=>by
        cases mv with
        |fr=>have:=B.2 D h;rw[hD4]at this;cases this
        |pu=>exact(B D h).elim (λz=>by rw[hD4]at z;cases z) SY
        |bo=>exact(B D h).elim (λz=>by rw[hD4]at z;cases z) λz=>z.elim SY UE
       have lenx:xs.length=X.length:=by rw[rp.len.1];simp
       have lenv:X.length<all.length:=by rw[← ev,← e7'];simp
       refine⟨xs,hD5,?_,_,by lia,rfl,E,X++[(mv,tv)],Fs++[Fy],xs++[y],SS,(((s3.same f).same Sh).off (.inl UI) SY UE).less (by rw[tl]) low,λa h=>ow3 a (Uo a h),λa h=>Um a (Ul a h),λh=>SY (Ul D h),λh=>UE (Uo D h),?_,λa o n h=>?_,aH,?_,?_,?_,er1,?_⟩
       ·have hlen':all.length<=gL:=by simpa using hlen
        have:KM=gL:=rfl;lia
       ·exact(kp.trans ((Kept.of g).trans ((Kept.of f).trans (Kept.of Sh)))).trans (Kept.upd (.inl UI))
       ·rw[aM n];exact same a o (old a o n h)
       ·have:trees (X++[(mv,tv)])=trees X++[tv]:=by simp
        rw[this];exact((rp.same ((g.trans f).trans Sh)).off UI nD).append (.cons (ry.keep (Kept.upd (.inl UI)) λb hb o ho=>by rw[aM (λz=>DFy (by rw[← z];exact hb))];exact ho) .nil)
       ·rw[Yh];intro h;rcases Zd.mp h with z | z
        ·exact nD z
        ·exact DFy (by simpa using z)
       ·rw[Yh,oI];have:([Fy]).flatten=Fy:=by simp
        rw[this];refine fp.Te (by
        cases mv with
        |fr=>exact⟨B.1,λa d=>Oh a (B.2 a d)⟩
        |pu=>exact λa d=>(B a d).elim (λz=>.inl (Oh a z)) (Um a)
        |bo=>exact λa d=>(B a d).elim (λz=>.inl (Oh a z)) λz=>z.elim (λz=>(Um a z).imp id .inl) λz=>.inr (.inr (ow3 a z))) λhm a d hb=>?_
        subst hm;have:=(rp.same (g.trans f)).J6 a d;rw[(B.2 a hb)]at this;exact this
       ·rw[Zb,← ev,← e7'];rfl
     cases cond with
     |none =>
      cases (eb);exact PY H2 (bg.refl H2)
     |some c =>
      obtain⟨⟨mc,xc⟩,ec1,RD⟩:=Zz.mp eb;exact⟨E,U3,mc,xc,b,s3,ec1,RD,λS f=>PY S f⟩
  ·cases e2
 ·cases e1
end
section
def fX{X:Cx}(k:Nat)(N:List Str)(m:X.calm=M)(b:PVI G X tg iter ci)(j:oA k g)(d:∀cl C s H fp,PF G (bY X N sc cl C s H fp) tg g)(he:∀cl C s H fp,PV G (bY X N sc cl C s H fp) elt ce)(l:{`q2,nN X.env sc=M})(f:{`q2,oB sc (N.drop k) X.N=M})(e:{`q1,k<=N.length})(a:{`q3,∀x,XAD iter X.env x=pure x}) :
  PV G X (.ListComp elt [⟨tg,iter,[],0⟩] sc pos) (cG k g ci J ce) :=
 PE.weak (rJ m b l f e (λcl C s H fp=>⟨d cl C s H fp,nV,he cl C s H fp⟩) a) λO H Q h=>kX j h
def pP{X:Cx}(k:Nat)(N:List Str)(n:X.calm=M)(b:PVI G X tg iter ci)(l:oA k g)(d:∀cl C s H fp,PF G (bY X N sc cl C s H fp) tg g)(e:∀cl C s H fp,LY G (bY X N sc cl C s H fp) c cc)(he:∀cl C s H fp,PV G (bY X N sc cl C s H fp) elt ce)(m:{`q2,nN X.env sc=M})(j:{`q2,oB sc (N.drop k) X.N=M})(f:{`q1,k<=N.length})(a:{`q3,∀x,XAD iter X.env x=pure x}) :
  PV G X (.ListComp elt [⟨tg,iter,[c],0⟩] sc pos) (cG k g ci (Y cc) ce) :=
 PE.weak (rJ n b m j f (λcl C s H fp=>⟨d cl C s H fp,t7 (e cl C s H fp),he cl C s H fp⟩) a) λO H Q h=>kX l h
def Gf(h:tS G (k8 i a) D O H):tE G a O H λv q=>D.nx (O.set i (Y v)) q:=by
 refine L2.aq λu j=>?_;obtain⟨Z,U,o,s,e,k⟩:=h;obtain⟨⟨m,t⟩,p,e1⟩:=Zz.mp e;obtain⟨c,eC,e2⟩:=Zz.mp e1;refine j ?_;split at e2
 ·rename_i l;cases e2;refine⟨Z,U,m,t,s,p,λv r F e3 b n=>?_⟩;obtain⟨f,d⟩:=s.val (c:=c) l e3 b n (by
   unfold cellOf at eC;cases m with
   |fr =>
    simp only[Option.some.injEq]at eC;split at eC
    ·exact .inr ⟨eC.symm,rfl⟩
    ·exact .inl ⟨eC.symm,by decide⟩
   |pu=>cases eC;exact .inl ⟨rfl,by decide⟩
   |bo=>cases eC)
  exact k _ _ r f d
 ·cases e2
def CN(h:tS G (aK i a) D O H):tE G a O H λv r=>D.nx (O.set i (Y v)) r:=by
 refine L2.aq λw j=>?_;obtain⟨Z,U,o,s,e,k⟩:=h;obtain⟨⟨m,t⟩,q,e1⟩:=Zz.mp e;refine j ?_;split at e1
 ·cases e1
 ·rename_i l;split at e1
  ·rename_i n;cases e1;refine⟨Z,U,m,t,s,q,λv u F e3 b p=>?_⟩;obtain⟨f,d⟩:=s.val n e3 b p (.inl ⟨rfl,l⟩);exact k _ _ u f d
  ·cases e1
def BH{X:Cx}{M5:Pos}(k:Nat)(N:List Str)(l:∀D O H,tS G a D O H->tE G (cG k g ci J ce) O H λv y=>D.nx (O.set i (Y v)) y)(w:X.calm=M)(e:PVI G X tg iter ci)(r:oA k g)(f:∀cl C s H fp,PF G (bY X N sc cl C s H fp) tg g)(he:∀cl C s H fp,PV G (bY X N sc cl C s H fp) elt ce)(m:X.N.Nodup)(n:{`q2,X.N[i]?=Y x})(b:{`q6,Loc X.env.scope x})(u:{`q2,nN X.env sc=M})(q:{`q2,oB sc (N.drop k) X.N=M})(p:{`q1,k<=N.length})(o:{`q2,swapsWith (.ListComp elt [⟨tg,iter,[],0⟩] sc pos) (Y (.Name x pos')) M5.line X.env=pure M})(j:{`q7,X.fn x=M\/X.env.scope.names.lookup x=Y .local})(d:{`q3,∀x,XAD iter X.env x=pure x}) :
  PSV G X (.Assign [.Name x pos'] (.ListComp elt [⟨tg,iter,[],0⟩] sc pos) M5) a :=
 PS.weak (nO m n b w e u q p (λcl C s H fp=>⟨f cl C s H fp,nV,he cl C s H fp⟩) o j d) λD O H h=>kX r (l D O H h)
def vf{X:Cx}{M5:Pos}(k:Nat)(N:List Str)(m:∀D O H,tS G a D O H->tE G (cG k g ci (Y cc) ce) O H λv z=>D.nx (O.set i (Y v)) z)(y:X.calm=M)(e:PVI G X tg iter ci)(u:oA k g)(f:∀cl C s H fp,PF G (bY X N sc cl C s H fp) tg g)(l:∀cl C s H fp,LY G (bY X N sc cl C s H fp) c cc)(he:∀cl C s H fp,PV G (bY X N sc cl C s H fp) elt ce)(n:X.N.Nodup)(o:{`q2,X.N[i]?=Y x})(b:{`q6,Loc X.env.scope x})(w:{`q2,nN X.env sc=M})(r:{`q2,oB sc (N.drop k) X.N=M})(q:{`q1,k<=N.length})(p:{`q2,swapsWith (.ListComp elt [⟨tg,iter,[c],0⟩] sc pos) (Y (.Name x pos')) M5.line X.env=pure M})(j:{`q7,X.fn x=M\/X.env.scope.names.lookup x=Y .local})(d:{`q3,∀x,XAD iter X.env x=pure x}) :
  PSV G X (.Assign [.Name x pos'] (.ListComp elt [⟨tg,iter,[c],0⟩] sc pos) M5) a :=
 PS.weak (nO n o b y e w r q (λcl C s H fp=>⟨f cl C s H fp,t7 (l cl C s H fp),he cl C s H fp⟩) p j d) λD O H h=>kX u (m D O H h)
end
end VS
end
section
namespace L2
open PySem PySem.Spec PyProof.Rows
def Ite(K:Wy)(a:On):It :=
 ⟨λi H=>∃b x,JV K H a b/\b[i]?=Y x,λi H v d=>∃p x,H p=J/\v=.ref p/\d=upd H p (.tup [.int i,x])/\∀b,JV K H a b->b[i]?=Y x,λi H=>∃b,JV K H a b/\b.length<=i⟩
def xI{K:Wy}(a e f:On)(K6:e≠f):Turn P w K (.Tuple Q n pos) (Ite K a) [e,f] e (λi h=>(∃old,IsEnum h e f i old)/\h.IsListIter f a i) where
 mem:=by simp
 obj:=λi h st b hb=>by
  obtain⟨⟨old,he⟩,o,ho,c,d⟩:=st;rcases Zg.mp hb with rfl | hb
  ·exact⟨_,he,λv z=>by cases (z)⟩
  ·rw[Zc.mp hb];exact⟨o,ho,λv z=>by rw[d]at z;cases z⟩
 keep:=λi h h' st k=>⟨let ⟨old,he⟩:=st.1;⟨old,k e (by simp) _ he⟩,st.2.at λo x=>k f (by simp) o x⟩
 item:=by
  intro X hP hw hK hc i g s O H E I l st hg;refine L2.aq λP_ k_=>?_;subst hP hw hK;obtain⟨xs,x,U,hx⟩:=hg;obtain⟨oe,Z,p,hz⟩:=I.list U;obtain⟨u,hu,ru⟩:=Z.get hx;obtain⟨⟨old,he⟩,hit⟩:=st;refine k_ ?_;refine wpAny_pyNext_enum_item he hit p.isList (x:=u) (by simpa using hu) K6 λh1 ho D hT hsz hk=>⟨_,rfl,?_⟩
  refine wpAny_letOwnedTupleGo_enum ho λh2 he2 S=>?_;have S:=S;have B:=ZV he;have G:=I.xb.fresh (Zn _);have C:∀b o,b∉[e,f]->s.heap.get? b=Y o->h2.get? b=Y o:=λb o hb q=>by
   have N:b≠e:=λz=>hb (by simp[z]);exact(S.2 b N).trans (hk b o N (λz=>hb (by simp[z])) q)
  have F:=(S.2 _ (WX B)).trans hT;have A:∀b o,H b=Y o->b∉[e,f]:=λb o q hb=>by rw[(l b hb).1]at q;cases q
  have up:∀b o,H b=Y o->upd H s.heap.objs.size (.tup [.int i,x]) b=Y o:=λb o q=>by rw[aM (cO q G)];exact q
  refine⟨.ref s.heap.objs.size,upd H s.heap.objs.size (.tup [.int i,x]),?_,rfl,⟨_,x,G,rfl,rfl,λys hy=>by rw[I.MH hy U];exact hx⟩,⟨⟨u,by simpa using he2⟩,D.at λo y=>(S.2 f K6.symm).trans y⟩,λb hb=>?_⟩
  ·show Inv X g O _ { s with heap:=h2,gens:=s.gens,drawn:=s.drawn,toks:=s.toks+1 };refine I.step (λb hb=>?_) (λb o _ _ j q _=>C b o j q) (λb o _ _ j q _=>⟨o.slots,C b o j q⟩) (λb o _ q r=>by rw[aM ((λb o q=>Ze (ZV q)) b o q)];exact r) (λb o j q=>⟨o,C b o j q⟩)
    (λb ys q=>up b _ q) (λb o v q=>up b _ q) (λb _ q=>up b _ q) (λm hm=>?_) (λb ob q=>by
   by_cases hb:b=s.heap.objs.size
   ·subst hb;rw[aH]at q;cases q;exact⟨by show 2<=KM;decide,[.int i s.toks,u],.cons ⟨_,rfl⟩ (.cons ru .nil),PH.of F L,⟨_,F,rfl,_,rfl⟩⟩
   ·rw[aM hb]at q;refine(I.xb b ob q).NJ (λc v j r=>C c v ?_ r) (λc r=>up c _ r) (λc ys r=>up c _ r) λc _ _ r=>up c _ r;rcases j with z | z
    ·rw[z];exact A b ob q
    ·exact A c _ z) I.bare
   ·obtain⟨f0,f1,f2,f3,f4,f5⟩:=l b hb;exact⟨f3,f1,f4,f5⟩
   ·obtain⟨o,es,ep,Nb,r⟩:=hm;refine⟨o,es,ep,C _ o (λz=>?_) Nb,r⟩;exact(l _ z).2.1 L
  ·have:b≠s.heap.objs.size:=by
    rcases Zg.mp hb with rfl | hb
    ·exact Ze B
    ·rw[Zc.mp hb];exact Ze (let ⟨_,z,_⟩:=hit;ZV z)
   rw[aM this];exact(l b hb).1
 done:=by
  intro X hP hw hK hc i g s O H E I l st hg;subst hP hw hK;obtain⟨xs,U,hx⟩:=hg;obtain⟨oe,Z,p,hz⟩:=I.list U;obtain⟨⟨old,he⟩,hit⟩:=st;obtain⟨f0,f1,f2,f3,f4,f5⟩:=l f (by simp);have hl:=Z.length;exact wpAny_pyNext_enum_end (I.ok.hd hc) he hit p.isList (by simp;lia) λh' eb=>⟨rfl,I.turned (λb o hb q=>eb b o hb q) f0 f1 f3 f4 f5⟩
 self:=λ_ _ _ _ _ st h=>let ⟨_,he⟩:=st.1;wpAny_pyIter_enum he h
section
def Ja(K:Wy)(ta:TA):TI:=λO H R=>ta O H λe b=>∃l,e=[.ref l]/\(∃d,JV K b l d)/\R (Ite K l) b
def CL(z:Gl X "enumerate")(x:X.mg "enumerate" = J)(A:PA X [a] ta)(v:{`q2,P3 [a] X.env=[(false,eval a X.env)]}):PI X (.Tuple f n C) (.Call (.Name "enumerate" p) [a] [] pos) (Ja X.K ta):=by
 intro d s O H R I h;refine Call_ (jX I z x boot_enumerate (XC (thn (A pos d s O H _ I h) λG s1 B=>?_) v L));obtain⟨F,D,g,r1,m⟩:=B;obtain⟨l,e,⟨E,w⟩,q⟩:=m;subst e;cases r1 with
 |cons r j =>
  cases j;cases r;obtain⟨P,N,o,Q⟩:=g.list w;refine call_enumerate_list o.isList λS he hit u y=>?_;refine wpAny_pyIter_enum he ?_;refine⟨_,_,_,_,D,rfl,g.kept y,xI l (s1.heap.objs.size+1) s1.heap.objs.size (Nat.succ_ne_self _),⟨⟨_,he⟩,hit⟩,λb hb=>?_,q⟩;have i:s1.heap.objs.size<=b:=by
   rcases Zg.mp hb with rfl | hb
   ·exact Za _ _
   ·rw[Zc.mp hb];exact Zn _
  exact g.OB i (g.xb.fresh i)
end
end L2
namespace VS
open PySem PySem.Spec PyProof.Rows L2
section
theorem ua:∀(l:Up)(k i:Nat){t:T},(fP k l)[i]?=Y t->∃x,l[i]?=Y x/\t=.tup [.int ((k+i:Nat):Int),x]
 |[],_,_,_,h=>by simp[fP]at h
 |x :: l,k,0,t,h=>by
  simp[fP]at h;exact⟨x,rfl,by rw[← h];rfl⟩
 |x :: l,k,i+1,t,h=>by
  obtain⟨y,d,b⟩:=ua l (k+1) i (by simpa[fP] using h);refine⟨y,by simpa using d,?_⟩;rw[b,show k+1+i=k+(i+1) by lia]
theorem qd:∀(l:Up)(k:Nat),(fP k l).length=l.length
 |[],_=>rfl
 |x :: l,k=>by simp[fP,qd l (k+1)]
def Cr{a:On}(K:Wy)(j:H a=Y (.lst d))(r:RpL G H d e u):NR G (Ite K a) (fP 0 e) (a :: u.flatten) H:=by
 refine⟨λs k c=>?_,λb hb=>?_⟩
 ·have f:=c a Zv _ j;refine⟨λi t h=>?_,λi h=>⟨d,JV.of f,by rw[qd]at h;rw[r.len.1];exact h⟩⟩;refine L2.aq λN w=>?_;obtain⟨y,A,m⟩:=ua e 0 i h;rw[YL]at m;obtain⟨v,F,l,L,E⟩:=(r.keep k λb hb o C=>c b (Zu _ hb) o C).get i A;refine w ?_;refine⟨⟨d,v,JV.of f,l⟩,λx O D=>?_⟩;obtain⟨p,z,B,e1,e2,e3⟩:=D;subst e1 e2;have ex:=e3 d (JV.of f);rw[l]at ex;cases ex;have g:bg s (upd s p (.tup [.int i,v])):=λb o q=>by rw[aM (cO q B)];exact q
  refine⟨g,F,?_,λb hb=>.inl (Zu _ (di L hb))⟩;rw[m];have:F=([[],F]).flatten:=by simp
  rw[this];exact .tup aH (.cons (.int _) (.cons (E.same g) .nil))
 ·rcases Zg.mp hb with rfl | hb
  ·rw[j];exact λz=>nomatch z
  ·exact JT.xa (r.J6 b hb)
def i5(u:PV G X a ca)(r:Gl X "enumerate")(q:X.mg "enumerate" = J)(j:{`q2,K1 a [] X})(A:{`q2,P3 [a] X.env=[(false,eval a X.env)]}) :
  PVI G X (.Tuple elts n Pa) (.Call (.Name "enumerate" p) [a] [] pos) (pN ca) :=
 PI.weak (CL r q (fu u j6 j) A) λO H R o=>by
  obtain⟨Z,U,m,l,s,e,k⟩:=o;obtain⟨⟨h,x⟩,y,e1⟩:=Zz.mp e;refine⟨Z,U,h,x,s,y,λv B F e3 g w=>?_⟩;cases x with
  |lst C =>
   refine L2.aq λD i=>?_;cases e1;obtain⟨z,d,E,rfl,rfl,b,f⟩:=g.lst_inv;refine i ?_;exact⟨z,rfl,⟨d,JV.of b⟩,k _ B _ e3 (Cr X.K b f) w.c⟩
  |_=>cases e1
end
noncomputable instance {s:Tx}:Decidable (jW s):=inferInstanceAs (Decidable (_/\_))
section
def w_add(f:PV G X a ca)(d:PV G X b cb):PV G X (.BinOp a .Add b pos) (e2 cu ca cb):=sJ Dy GD f d
def w_sub(f:PV G X a ca)(d:PV G X b cb):PV G X (.BinOp a .Sub b pos) (e2 kZ ca cb):=sJ GI GZ f d
def w_mul(f:PV G X a ca)(d:PV G X b cb):PV G X (.BinOp a .Mult b pos) (e2 ig ca cb):=sJ Gw FV f d
def iO(f:PV G X a ca)(d:PV G X b cb):PV G X (.BinOp a .FloorDiv b pos) (e2 iy ca cb):=sJ Cu BZ f d
def w_mod(f:PV G X a ca)(d:PV G X b cb):PV G X (.BinOp a .Mod b pos) (e2 oMod ca cb):=sJ FL E4 f d
def ou{X:Cx}(d:p0 k X.A)(g:PV G X a ca)(f:PV G X b cb):LY G X (.Compare a [.Eq] [b] pos) (e2 oEq ca cb):=fz (oW d.units) uz tells_eq g f (gF _)
def xp{X:Cx}(d:p0 k X.A)(g:PV G X a ca)(f:PV G X b cb):LY G X (.Compare a [.NotEq] [b] pos) (e2 NX ca cb):=fz (EX d.units) IU yO g f (gF _)
def aV(g:PV G X a ca)(f:PV G X b cb)(d:jI b:=by intro _ _;rfl)(i:{`q2,X.K=G.K}):PV G X (.Subscript a b pos) (e2 aJ ca cb) :=
 PE.weak (tD qC g f d) λO H Q h=>by rw[i];exact lV AG h
def cn{X:Cx}(d:X.mg "len" = J)(g:KD G X [e] cs)(f:{`q2,Gl X "len"})(h:{`q2,X.K=G.K})(he:{`q2,K1 e [] X}):PV G X (.Call (.Name "len" p) [e] [] pos) (eN bU cs) :=
 jh (h ▸ xH) Gy f d PySem.boot_len g (he:=he)
def zm:bootBuiltins ("min" : Str)=Y (.builtin "min"):=by decide +kernel
def Ca:bootBuiltins ("list" : Str)=Y (.type "list"):=by decide +kernel
def zE{X:Cx}(d:X.mg "min" = J)(h:KD G X [a,b] cs)(g:{`q2,X.calm=M})(f:{`q2,Gl X "min"})(he:{`q2,P3 [a,b] X.env=(R,eval a X.env) :: P3 [b] X.env})(hpl:{`q2,(backTo pos (P3 [b] X.env)).any (·.1)=R}):PV G X (.Call (.Name "min" p) [a,b] [] pos) (eN tq cs) :=
 jh (yd g) C9 f d zm h (he:=he) (hpl:=hpl)
noncomputable def RQ:Ty->Str
 |.int => "int" |.str => "str" |.bool => "bool" |.list => "list" |.tuple => "tuple" |.dict => "dict"
def Hu(t:Ty):bootBuiltins (RQ t)=Y (.type (NU t)):=by cases t<;>decide +kernel
def w_is{X:Cx}(t:Ty)(f:X.mg "isinstance" = J)(l:X.mg (RQ t)=J)(h:PV G X a ca)(g:{`q2,Gl X "isinstance"})(j:{`q2,Gl X (RQ t)})(i:{`q2,X.K=G.K})(d:{`q2,P3 [a,.Name (RQ t) p2] X.env=(R,eval a X.env) :: P3 [.Name (RQ t) p2] X.env}):PV G X (.Call (.Name "isinstance" p1) [a,.Name (RQ t) p2] [] pos) (U8 t ca) :=
 IQ t h g f j l (Hu t) i (by cases t<;>decide) (by cases t<;>decide) d L L
def iB{apos:Pos}(i:Nat)(m:KD G X [e] cs)(o:{`q2,X.K=G.K})(n:{`q2,X.N[i]?=Y x})(f:{`q5,MZ X.env.scope x})(j:{`q1,K3 x})(d:{`q1,K4 x})(s:{`q2,((backTo pe (P3 [e] X.env)).all (λx=>!x.1)&&(backToKw pe (SZ [] X.env)).all (λx=>x.1.isSome)
   && decide ([e].length+([]:List Keyword).length+(if ([]:List Keyword).isEmpty then 0 else 1)<30))=M})(q:{`q2,(apos.endLine==pe.line)=M})(g:{`q2,K1 e [] X}) :
  PSV G X (.Expr (.Call (.Attribute (.Name x p1) "append" apos) [e] [] pe) pos) (sX (nt i [] aN cs)) :=
 Aw i Wa Wk Wm ip lJ (λH v t F l z r h=>jv r h) m o n f j d L s q g L L
end
structure FnAt(P:SB)(w:XAB)(K:Wy)(mg:Wf)(base:XAA)(k:Nat)(x:Str)(ps:List Str)(G:Gx)(g:Fn):Prop where
 ex:∃f fd,FnOk P w K mg base Kv k f fd ps (MB G g)/\mg x=some (.ref f)/\PySem.W.keepIn K (.ref f)=true/\Binds K fd ps []
section
def bh{X:Cx}(F:FnAt X.prog X.w X.K X.mg X.base k x ps G g)(b:p0 k' X.A)(i:KD G X (e :: es) cs)(d:{`q1,k<=k'})(h:{`q2,Gl X x})(o:{`q1,K3 x})(he:{`q2,K1 e es X})(a:{`q2,K2 pos es X}) :
  PV G X (.Call (.Name x p) (e :: es) [] pos) (aT g cs):=by
 obtain⟨f,fd,n,m,l,j⟩:=F.ex;exact DV n (b.mono d) h m l j i o he a
end
section
variable{K:Wy}
def dN(F:JP K x x a f i)(m:mg x=Y (.ref f))(S:bt N b (ai a))(j:b.length=g)(l:N.length=h)(o:∀(kV doc pm:PP)(an:Option On)(d ct:PP)(e:Vq),e.length=b.length->bindArgs (PySem.W.fnOf x x (dg a) (bC a) (ai a) .none kV doc pm an d ct) ⟨e,[]⟩=pure (b.zip e))(n:∀(d:PP)(A:SC)(outer:List PySem.Env)(s:KB)(H:Hp)(E:XK),p0 k (A.deeper (envOfC x (ai a) s.heap.objs.size f d))->jd G (j7 Kv P w K mg base N x (ai a) f d A outer s H E).M7 (bC a) c) :
  FnAt P w K mg base (k+1) x b G (fn g h c) :=
 ⟨f,i,fnV F S j l n,m,F.kp,F.binds o⟩
end
end VS
end
section
namespace L2
open PySem PySem.Spec PyProof.Rows
noncomputable def Mr(x:Str):It:=⟨λi _=>i<x.cps.size,λi H v a=>a=H/\∃c,x.cps[i]?=Y c/\v=.str ⟨#[c]⟩,λi _=>x.cps.size<=i⟩
def qg{K:Wy}(x:Str)(t:Tok)(a:On)(f:String)(S:["enumerate", "zip", "dict_itemiterator", "dict_reverseitemiterator", "odict_iterator", "itertools.zip_longest", "itertools.pairwise"].contains f=R)(W:∀A:SC,A.handled=J->Walks P w A a [a] [a] x.cps.size (λi v=>∃c u,x.cps[i]?=Y c/\v=.str ⟨#[c]⟩ u) (λi h=>h.IsStrIter a f x t i))(j:∀(A:SC),A.handled=J->∀(i:Nat)(s:KB)(Q:V6->KB->Prop)(E:Yx),s.heap.IsStrIter a f x t i->x.cps[i]?=J->(∀l,Heap.ExtBut a s.heap l->Q J { s with heap:=l })->Pi (KF P w) A (pyNext (.ref a)) Q E s)(Tn:∀(A:SC)(i:Nat)(s:KB)(Q:Yx)(E:Yx),s.heap.IsStrIter a f x t i->Q (.ref a) s->Pi (KF P w) A (pyIter (.ref a)) Q E s) :
  Turn P w K F (Mr x) [a] a (λi h=>h.IsStrIter a f x t i) where
 mem:=by simp
 obj:=λi h st b hb=>by
  rw[Zc.mp hb];obtain⟨o,e,c,d⟩:=st;exact⟨o,e,λv z=>by rw[d]at z;cases z⟩
 keep:=λi h l st k=>let ⟨o,e,r⟩:=st;⟨o,k a (by simp) o e,r⟩
 item:=by
  intro X p hw q n i g s O H E I m st hg;subst p hw q;obtain⟨C,f1,f2,B,y,f5⟩:=m a (by simp);refine(W X.A (I.ok.hd n)).item i s _ _ hg st λv l tk N D G=>?_;obtain⟨c,u,ML,rfl⟩:=N;obtain⟨o,e,Z,d⟩:=id D;exact⟨_,rfl,um e Z d S ⟨.str ⟨#[c]⟩,H,(I.turned (λb o hb e=>G b o (by simpa using hb) e) C f1 B y f5),⟨u,rfl⟩,⟨rfl,c,ML,rfl⟩,D,λb hb=>(m b hb).1⟩⟩
 done:=by
  intro X p hw q n i g s O H E I m st hg;subst p hw q;obtain⟨C,f1,f2,B,y,f5⟩:=m a (by simp);have L:x.cps.size<=i:=hg;exact j X.A (I.ok.hd n) i s _ _ st (by simp[L]) λl U=>⟨rfl,I.turned (λb o hb e=>U b o hb e) C f1 B y f5⟩
 self:=λA i s Q E st h=>Tn A i s Q E st h
def AR{K:Wy}(x:Str)(t:Tok)(a:On):Turn P w K g (Mr x) [a] a (λi h=>h.IsStrIter a (strIterType x) x t i):=by
 cases f:x.cps.all (· < 128)
 ·have e:strIterType x = "str_iterator" := by simp[strIterType,f]
  rw[e];exact qg x t a "str_iterator" rfl (λA b=>Walks.strWide b a x t) (λA b i s Q E st d q=>wpAny_pyNext_wide_end b st d q) λA i s Q E st q=>wpAny_pyIter_striter_wide st q
 ·have e:strIterType x = "str_ascii_iterator" := by simp[strIterType,f]
  rw[e];exact qg x t a "str_ascii_iterator" rfl (λA b=>Walks.strAscii b a x t) (λA b i s Q E st d q=>wpAny_pyNext_ascii_end b st d q) λA i s Q E st q=>wpAny_pyIter_striter_ascii st q
section
def HL(K:Wy)(f:TE):TI:=λO H R=>f O H λx d=>(∃a,x=.ref a/\(∃e,JV K d a e)/\R (Itl K a) d)\/(∃a,x=.ref a/\(∃e,KY K d a e)/\R (Itt K a) d)\/∃z,x=.str z/\R (Mr z) d
def BU(A:PE X l tl):PI X tg l (HL X.K tl):=by
 intro d s O H R I h;refine thn (A d s O H _ I h) λv s1 B=>?_;obtain⟨x,g,f,r1,r⟩:=B;have j:∀b∈[s1.heap.objs.size],o8 X d g b:=λb hb=>by
  rw[Zc.mp hb];exact f.OB (Zn _) (f.xb.fresh (Zn _))
 rcases r with⟨a,e,⟨m,i⟩,q⟩ | ⟨a,e,⟨m,i⟩,q⟩ | ⟨z,e,q⟩
 ·subst e;cases r1;obtain⟨u,n,p,y⟩:=f.list i;exact Vg p.isList ⟨s1.heap.objs.size,[s1.heap.objs.size],_,_,g,rfl,f.kept λb o e=>Zj _ e,yc a _,⟨_,ZM _ L,rfl,rfl⟩,j,q⟩
 ·subst e;cases r1;obtain⟨u,n,p,y⟩:=f.tuple i;exact wpAny_pyIter_tuple (p) ⟨s1.heap.objs.size,[s1.heap.objs.size],_,_,g,rfl,f.kept λb o e=>Zj _ e,uY a _,⟨_,ZM _ L,rfl,rfl⟩,j,q⟩
 ·refine L2.aq λC w=>?_;subst e;obtain⟨t,rfl⟩:=r1;refine w ?_;exact wpAny_pyIter_strU ⟨s1.heap.objs.size,[s1.heap.objs.size],_,_,g,rfl,f.kept λb o e=>Zj _ e,AR z t _,⟨_,ZM _ L,rfl,rfl⟩,j,q⟩
def rH{s:KB}{d:XAA}(g:∀b x,b∉[s.heap.objs.size]->(s.heap.push o).get? b=Y x->d.get? b=Y x)(b:On)(x:Obj)(e:s.heap.get? b=Y x):d.get? b=Y x :=
 g b x (λf=>Yf _ (by have:=ZV e;rw[Zc.mp f]at this;exact this)) (Zj _ e)
def zU{X:Cx}(F:X.calm=M):dm X (.builtin "sum") (λr H Q=>∃p,∃ns:Uu,r=[.ref p]/\JV X.K H p (ns.map V.int)/\Q (.int ns.sum) H):=by
 intro w s O H r N Q I z h;refine L2.aq λZ B=>?_;obtain⟨p,ns,rfl,E,q⟩:=h;obtain⟨u,rfl,j⟩:=z.one;cases j;obtain⟨d,g,m,S⟩:=I.list E;refine B ?_;have x:p<s.heap.objs.size:=by obtain⟨_,e,_⟩:=m.isList;exact ZV e
 refine call_sum_walkG (Vg m.isList ⟨s.heap.objs.size,[s.heap.objs.size,p],[s.heap.objs.size],d.toArray.size,_,_,λi=>(ns[i]?).getD 0,rfl,Walks.list (A:=X.A.in1) (I.ok.hd F) _ p (Ze x) d.toArray,
  ⟨⟨_,ZM _ L,rfl,rfl⟩,m.isList.push _⟩,λb hb=>?_,λi v G=>?_,λU P y o=>⟨.int ns.sum,H,I.kept (rH o),⟨y,?_⟩,q⟩⟩)
 ·rw[Xb];rcases Zg.mp hb with rfl | hb
  ·exact Ym _
  ·rw[Zc.mp hb];exact L7 x
 ·have f:d[i]?=Y v:=by simpa using G
  cases e:ns[i]? with
  |none =>
   have:=g.none_of (i:=i) (by rw[ZG,e];rfl);rw[this]at f;cases f
  |some n =>
   obtain⟨u,D,j⟩:=g.get (i:=i) (by rw[ZG,e];rfl);rw[D]at f;cases f;obtain⟨t,rfl⟩:=j;exact⟨t,by simp[e]⟩
 ·have hlen:d.toArray.size=ns.length:=by have:=g.length;simp at this ⊢;exact Eq.symm this
  have:∀k,k<=ns.length->preSum (λi=>(ns[i]?).getD 0) k=(ns.take k).sum:=λk=>by
   induction k with
   |zero=>intro _;simp[preSum]
   |succ k C =>
    intro o;rw[List.take_succ,List.sum_append,preSum,C (by exact VB o)];cases e:ns[k]? <;> simp
  rw[hlen,this _ (Zn _),V8]
def yb:OpR X (UV .Gt) (λx y H Q=>∃i j,x=.str i/\y=.str j/\Q (.bl (decide (j.cps.toList<i.cps.toList))) H):=by
 intro d s O H x y v u Q I f e h;obtain⟨i,j,rfl,rfl,q⟩:=h;obtain⟨t,rfl⟩:=f;obtain⟨g,rfl⟩:=e;exact PySem.P.gt_str ⟨.bl _,H,I,rfl,q⟩
def xZ:OpR X (UV .GtE) (λx y H Q=>∃i j,x=.str i/\y=.str j/\Q (.bl (!decide (i.cps.toList<j.cps.toList))) H):=by
 intro d s O H x y v u Q I f e h;obtain⟨i,j,rfl,rfl,q⟩:=h;obtain⟨t,rfl⟩:=f;obtain⟨g,rfl⟩:=e;exact PySem.P.ge_str ⟨.bl _,H,I,rfl,q⟩
end
end L2
end
section
namespace VS
open PySem PySem.Spec PyProof.Rows L2
section
def FN(H:Hp)(s:Tx)(l:jW s):NR G (L2.Mr (sx s)) (s.map λc=>T.str [c]) [] H:=by
 have sz:(sx s).cps.size=s.length:=rfl;refine⟨λo _ _=>⟨λi t h=>?_,λi h=>(by rw[Zw]at h;show (sx s).cps.size<=i;lia)⟩,λa h=>by simp at h⟩;rw[ZG]at h;obtain⟨c,f,rfl⟩:=Zt.mp h;refine⟨(by show i<(sx s).cps.size;have:=(ZY.mp f).1;lia),λx n ⟨e1,g,j,e2⟩=>?_⟩;subst e1;have:g=c:=by
  have m:(sx s).cps[i]?=Y c:=by simp[sx,f]
  rw[m]at j;exact(Zl j).symm
 subst this;rw[e2];exact⟨bg.refl _,[],.str [g] ⟨(by show 1<=gL;decide),λd hd=>by rw[Zc.mp hd];exact l.2 g (YZ f)⟩,λa h=>by simp at h⟩
def cy(w:PV G X a ca)(B:{`q2,X.K=G.K}):PVI G X tg a (fW ca) :=
 PI.weak (BU w) λO H R u=>by
  obtain⟨Z,U,m,l,s,e,k⟩:=u;obtain⟨⟨r,x⟩,y,e1⟩:=Zz.mp e;refine⟨Z,U,r,x,s,y,λv f F e3 j o=>?_⟩;cases x with
  |lst q =>
   cases e1;obtain⟨n,g,A,rfl,rfl,d,i⟩:=j.lst_inv;exact .inl ⟨n,rfl,⟨g,JV.of d⟩,k _ f _ e3 (Cy X.K d i) o.c⟩
  |tup q =>
   cases e1;obtain⟨n,g,A,rfl,rfl,d,i⟩:=j.Kq;exact .inr (.inl ⟨n,rfl,⟨g,KY.of d⟩,k _ f _ e3 (FQ X.K d i) o.c⟩)
  |str z =>
   cases e1;obtain⟨rfl,ok⟩:=j.str_inv;exact .inr (.inr ⟨_,rfl,k _ f [] e3 (FN f z ok) λa h=>by simp at h⟩)
  |_=>cases e1
theorem wQ:∀{d:List V}{l:Up}{g:X5}{f:Uu},RpL G H d l g->uD l=Y f->d=f.map V.int
 |_,_,_,_,.nil,e=>by cases e;rfl
 |_,_,_,_,.cons (t:=t) r q,e=>by
  cases t with
  |int s =>
   obtain⟨h,e1,e2⟩:=Zt.mp e;subst e2;rw[wQ q e1,r.int_inv];rfl
  |_=>cases e
def Gj:fj G (λd H Q=>∃p,∃ns:Uu,d=[.ref p]/\JV G.K H p (ns.map V.int)/\Q (.int ns.sum) H) Ci:=by
 intro Z U s H l o w m t Q A e k;unfold Ci at e;split at e
 ·rename_i q x;refine L2.aq λr h=>?_;obtain⟨i,e1,e2⟩:=Zz.mp e;cases e2;obtain⟨v,F,rfl,rfl,f⟩:=(A.rp).one;obtain⟨a,n,u,rfl,rfl,j,g⟩:=f.lst_inv;refine h ?_;exact⟨a,i,rfl,by rw[← wQ g e1];exact JV.of j,bJ k (.int _)⟩
 ·cases e
def G0:bootBuiltins ("sum" : Str)=Y (.builtin "sum"):=by decide +kernel
def zQ:bootBuiltins ("tuple" : Str)=Y (.type "tuple"):=by decide +kernel
def w_sum{X:Cx}(d:X.mg "sum" = J)(h:KD G X [e] cs)(f:{`q2,Gl X "sum"})(i:{`q2,X.K=G.K})(g:{`q2,X.calm=M})(he:{`q2,K1 e [] X}):PV G X (.Call (.Name "sum" p) [e] [] pos) (eN Ci cs) :=
 jh (zU g) (i ▸ Gj) f d G0 h (he:=he)
def AL:fj G (λg H Q=>∃p d,g=[.ref p]/\((JV G.K H p d/\∀l,H l=J->Q (.ref l) (upd H l (.tup d)))\/(KY G.K H p d/\Q (.ref p) H))) kM:=by
 intro Z U B H l u C m t Q A e k;unfold kM at e;split at e
 ·rename_i w x;split at e
  ·rename_i y;refine L2.aq λz j=>?_;cases e;obtain⟨v,F,rfl,rfl,h⟩:=(A.rp).one;obtain⟨a,d,s,rfl,rfl,o,i⟩:=h.lst_inv;refine j ?_;refine⟨a,d,rfl,.inl ⟨JV.of o,λq n=>?_⟩⟩;have f:bg H (upd H q (.tup d)):=cV n;have r:Rp G (upd H q (.tup d)) (.ref q) (.tup x) s.flatten:=.tup aH (i.same f);exact k _ _ _ f r (((A.fp.each 0 _ _ L L).sub (YR _ _)).up r)
  ·cases e
 ·cases e
def Dq{X:Cx}(d:X.mg "tuple" = J)(g:KD G X [e] cs)(f:{`q2,Gl X "tuple"})(h:{`q2,X.K=G.K})(he:{`q2,K1 e [] X}):PV G X (.Call (.Name "tuple" p) [e] [] pos) (eN kM cs) :=
 jM o5 (h ▸ AL) f d zQ g (he:=he)
def rGt:R2:=λx y H Q=>Nm (λi j=>.bl (decide (j<i))) x y H Q\/(∃i j,x=.str i/\y=.str j/\Q (.bl (decide (j.cps.toList<i.cps.toList))) H)
def rGe:R2:=λx y H Q=>Nm (λi j=>.bl (decide (j<=i))) x y H Q\/(∃i j,x=.str i/\y=.str j/\Q (.bl (!decide (i.cps.toList<j.cps.toList))) H)
def Bb(s t:Tx):decide ((sx s).cps.toList<(sx t).cps.toList)=NY s t:=by rw[oN];exact decide_eq_decide.mpr (by simp[sx])
def G9:fZ G rGt M6:=by
 intro Z U i H x y u w l j m t Q d e k;obtain⟨h,x⟩:=x;obtain⟨g,y⟩:=y;obtain⟨same,r1,r2,f1,f2,nd⟩:=d;unfold M6 oLt at e;split at e
 ·rename_i e1 e2;cases e1;cases e2;cases e;exact .inl ⟨_,_,r1.int_inv,r2.int_inv,bJ k (.bl _)⟩
 ·rename_i s _ f e1 e2;cases e1;cases e2;cases e;refine .inr ⟨_,_,r1.str_inv.1,r2.str_inv.1,?_⟩;rw[Bb];exact bJ k (.bl _)
 ·cases e
def Hx:fZ G rGe OQ:=by
 intro Z U i H x y u w l j m t Q d e k;obtain⟨h,x⟩:=x;obtain⟨g,y⟩:=y;obtain⟨same,r1,r2,f1,f2,nd⟩:=d;unfold OQ oLe at e;split at e
 ·rename_i e1 e2;cases e1;cases e2;cases e;exact .inl ⟨_,_,r1.int_inv,r2.int_inv,bJ k (.bl _)⟩
 ·rename_i s _ f e1 e2;cases e1;cases e2;cases e;refine .inr ⟨_,_,r1.str_inv.1,r2.str_inv.1,?_⟩;rw[Bb];exact bJ k (.bl _)
 ·cases e
def zZ:Tells M6:=λx y m t e=>kL y x m t e
def AA:Tells OQ:=λx y m t e=>t4 y x m t e
def p7(f:PV G X a ca)(d:PV G X b cb):LY G X (.Compare a [.Gt] [b] pos) (e2 M6 ca cb):=fz (HZ.or yb) G9 zZ f d (gF _)
def zA(f:PV G X a ca)(d:PV G X b cb):LY G X (.Compare a [.GtE] [b] pos) (e2 OQ ca cb):=fz (Il.or xZ) Hx AA f d (gF _)
def yX(P:fZ G r f)(n:fZ G A g)(h:tE G (oP f g ca cb cc) O H Q):AZ r A (tE G ca) (tE G cb) (tE G cc) O H Q:=by
 refine L2.aq λP_ k_=>?_;obtain⟨Z,U,m,t,s,e,k⟩:=h;obtain⟨x,ea,e⟩:=Zz.mp e;obtain⟨y,eb,e⟩:=Zz.mp e;obtain⟨⟨S,z⟩,ez,e⟩:=Zz.mp e;refine k_ ?_;refine Aa s ea eb λu w H2 F1 B d=>P Z U H H2 x y u w F1 B S z _ d ez λv H3 F e1 r1 f1=>?_;cases z with
 |bl q =>
  refine⟨q,r1.KR,?_⟩;cases q with
  |false =>
   cases e;rw[Zo Zh];exact k _ H3 [] (d.same.trans e1) (.bl R) Fp.nil
  |true =>
   rw[Zs L];obtain⟨l,ec,e⟩:=Zz.mp (e);have i:=d.same.trans e1;refine⟨Z,U,l.1,l.2,s.same i,ec,λC H4 F4 o N j=>?_⟩;refine n Z U H H4 y l w C B F4 m t Q ⟨i.trans o,(d.r2.same e1).same o,N,d.f2,j.back i,λhx hy=>?_⟩ e λD H5 F5 e5 E f5=>k D H5 F5 ((i.trans o).trans e5) E f5;have f2:=d.f2;rw[hx]at f2;rw[hy]at j;refine ZA.mpr ⟨f2.1,j.1,λa ha b hb z=>?_⟩;subst z;exact JT.xa ((d.r2.same e1).J6 a ha) (j.2 a hb)
 |_=>cases e
def xj{X:Cx}{i:Int}(h:∃t,X.mg x=Y (.int i t))(f:{`q2,Gl X x})(g:{`q1,K3 x}):PV G X (.Name x pos) (Q3 i):=by
 obtain⟨t,d⟩:=h;exact Di (v:=.int i) f d ⟨t,rfl⟩ (λH=>.int i) g
end
end VS
end
section
namespace VS
open PySem PySem.Spec PyProof.Rows L2
section
def vw:PV G X (.Dict [] [] pos) (sS 0 []):=PE.weak yP λO H Q d=>by
 obtain⟨Z,U,m,t,s,e,k⟩:=d;cases (e);intro q d;have:Rp G (upd H q (.dK [])) (.ref q) (.dct 0 ((([]).map aR).zip [])) (q :: ([]).flatten):=.dct aH L .nil;exact k _ _ [q] (cV d) this ⟨by simp,λb hb=>by rw[Zc.mp hb];exact d⟩
end
section
def iw{X:Cx}(hp:PassesOwn (KF X.prog X.w) X.A X.env X.xe)(hc:LY G X c cc)(hb:jd G X h C):PSV G X (.While c h [] pos) (ke cc C) :=
 PS.weak (zP hp hc hb) λD O H hq=>by
  obtain⟨Z,U,o,s,e,k⟩:=hq;refine⟨λn E F=>∃r y,SR G r y E F/\Ks Z U H r y F/\dG cc C n y=Y o,⟨vE,Z,U,s,Ks.refl Z U H,e⟩,?_⟩;rintro n E F ⟨r,y,Q,f2,e2⟩;cases n with
  |zero=>cases (e2)
  |succ n =>
   rw[dG]at e2;obtain⟨⟨mx,x⟩,ex,e3⟩:=Zz.mp e2;obtain⟨t,et,B⟩:=Zz.mp e3;refine⟨r,y,mx,x,t,Q,ex,et,λH3 N=>?_⟩;have P:=Q.same N;have m:=f2.trans (Ks.same N);cases t with
   |false =>
    rw[Zo Zh]at B;cases B;show if R=M then _ else _
    rw[Zo Zh];exact k r E H3 P m
   |true =>
    rw[Zs L]at B;show if M=M then _ else _
    rw[Zs L];obtain⟨S,e5,z⟩:=Zz.mp B;refine⟨λi g=>∃d f,SR G d f i g/\Ks Z U H d f g/\dG cc C n f=Y o,λi g q=>⟨n,Ym n,q⟩,r,y,S,P,e5,?_⟩;cases S with
    |nx f=>exact λd i g j l=>⟨d,f,j,m.trans l,z⟩
    |ct f=>exact λd i g j l=>⟨d,f,j,m.trans l,z⟩
    |bk f =>
     cases (z);exact λd i g j l=>k d i g j (m.trans l)
    |rt v f =>
     cases (z);exact λu g F4 d i j l r5 q5=>k u g F4 d i j (m.trans l) r5 (q5.back m)
noncomputable def SO:Sx:=λ_=>J
def rK:PSV G X f SO:=λd s O H D I ⟨_,_,_,_,e,_⟩=>nomatch (e)
def fq(r:Rp G H v (.dct 0 l) F):∃(a:On)(f:List Key)(d:List V)(g:Up)(h:X5),v=.ref a/\F=a :: h.flatten/\H a=Y (.dK (f.zip d))/\f.length=d.length/\l=(f.map aR).zip g/\RpL G H d g h:=r.inv
def dr(r:Rp G H v t F)(h:hZ t=M):∃k:Key,v=kV k/\t=aR k:=by
 cases t with
 |int i=>exact⟨.inl i,r.int_inv,rfl⟩
 |str s=>exact⟨.inr (sx s),r.str_inv.1,by simp[aR,sx]⟩
 |_=>cases h
theorem lx{k:Key}:∀{d:List Key}{f:List V}{ts:Up}{m:X5},d.length=f.length->RpL G H f ts m →
  (dR ((d.map aR).zip ts) (aR k)=J/\eY (d.zip f) k=J)\/∃(i:Nat)(v:V)(t:T)(F:W5),dR ((d.map aR).zip ts) (aR k)=Y t/\eY (d.zip f) k=Y v/\f[i]?=Y v/\m[i]?=Y F/\Rp G H v t F
 |[],[],_,_,_,.nil=>.inl ⟨rfl,rfl⟩
 |k' :: d,v :: f,_,_,s,.cons (t:=t) (F:=F) (ts:=ts) r q=>by
  have e:eqT (aR k') (aR k)=decide (k'=k):=by
   rw[XG,decide_eq_true_eq];cases k with
   |inl i=>cases k'<;>simp[aR]
   |inr x =>
    obtain⟨⟨x⟩⟩:=x;cases k' with
    |inl j=>simp[aR]
    |inr y=>obtain⟨⟨y⟩⟩:=y;simp[aR]
  by_cases g:k'=k
  ·refine .inr ⟨0,v,t,F,?_,jx g,rfl,rfl,r⟩;have l:eqT (aR k') (aR k)=M:=by rw[e];exact Lu g
   simp only[dR,Zk,ZJ,Yo,l];rfl
  ·have w:dR (((k' :: d).map aR).zip (t :: ts)) (aR k)=dR ((d.map aR).zip ts) (aR k):=by
    have l:eqT (aR k') (aR k)=R:=by rw[e];exact ZZ g
    simp only[dR,Zk,ZJ,Yo,l]
   have u:eY ((k' :: d).zip (v :: f)) k=eY (d.zip f) k:=by simp[eY,g]
   rw[w,u];rcases lx (k:=k) (by simpa using s) q with h | ⟨i,n,o,E,D,C,B,A,z⟩
   ·exact .inl h
   ·exact .inr ⟨i+1,n,o,E,D,C,by simpa using B,by simpa using A,z⟩
def qx{X:Cx}(l:X.A.units+1<cLine):NQ X (λx y H Q=>∃a v,x=.ref a/\fH H a y (Y v)/\Q v H):=by
 intro value slice d s O H x y v u Q I j i h m;obtain⟨a,w,rfl,g,q⟩:=h;cases j;have hT:=sV I g;refine Zy ?_;rw[getitemInPython_of_ne hT.not_modules];refine Zy (wpAny_specialOf hT PySem.F.slot_dict_getitem.lookup ?_);have fin:Pi (KF X.prog X.w) X.A (subscripted slice R (.ref a) u) (λr f=>Pi (KF X.prog X.w) X.A (letTemporaryGo value (.ref a) r >>= λ_=>pure r) (EP X d O Q) X.xe f) X.xe s:=by
  rw[m];exact wpAny_operating (xD l I g i λz B o n=>Zy (wpAny_letTemporaryGo (Zm ⟨w,H,o,n,q⟩)))
 first
  |exact Zm (Zy fin)
  |exact Zy (Zm (Zy fin))
  |exact Zy fin
def IP(K:Wy):R2:=λx y H Q=>rIx K x y H Q\/∃a v,x=.ref a/\fH H a y (Y v)/\Q v H
def He:fZ G (IP G.K) LU:=by
 intro Z U B H x y u w D C m t Q d e k;obtain⟨g,x⟩:=x;by_cases hd:∃l,x=.dct 0 l
 ·obtain⟨l,rfl⟩:=hd;simp only[LU]at e;split at e
  ·rename_i j;obtain⟨N,e1,e2⟩:=Zt.mp e;obtain⟨a,O,E,L,Fs,rfl,rfl,n,h,rfl,q⟩:=fq d.r1;obtain⟨P,rfl,r⟩:=dr d.r2 j;rw[r]at e1;rcases lx h q with⟨o,_⟩ | ⟨i,v,t2,F,A,z,a3,s,f⟩
   ·rw[o]at e1;cases e1
   ·rw[A]at e1;cases e1;cases e2;refine .inr ⟨a,v,rfl,by rw[← z];exact fH.k n,?_⟩;exact k v H F (bg.refl _) f (((d.f1.sub (YR _ _)).sub (du s)).up f)
  ·cases e
 ·exact .inl (AG Z U B H (g,x) y u w D C m t Q d (by
   simp only[LU]at e;split at e
   ·rename_i l S;exact absurd ⟨_,rfl⟩ hd
   ·exact e) k)
def uJ{X:Cx}(f:p0 k X.A)(i:PV G X a ca)(g:PV G X b cb)(d:jI b:=by intro _ _;rfl)(j:{`q2,X.K=G.K}):PV G X (.Subscript a b pos) (e2 LU ca cb) :=
 PE.weak (tD (NQ.or qC (qx (jR f))) i g d) λO H Q h=>by rw[j];exact lV He h
def fV:T->V
 |.bl b=>.bl b
 |.int i=>.int i
 |.str s=>.str (sx s)
 |_=>.non
def D8(r:Rp G H v t F)(h:flat t=M):v=fV t/\gP v=M:=by
 cases r with
 |non=>exact⟨rfl,rfl⟩
 |bl b=>exact⟨rfl,rfl⟩
 |int i=>exact⟨rfl,rfl⟩
 |str s d=>exact⟨rfl,rfl⟩
 |_=>cases h
theorem HM:∀{t u:T},flat t=M->flat u=M->OZ (fV t) (fV u)=eqT t u
 |.non,.non,_,_=>rfl
 |.non,.bl _,_,_=>rfl
 |.non,.int _,_,_=>rfl
 |.non,.str _,_,_=>rfl
 |.bl _,.non,_,_=>rfl
 |.bl _,.bl _,_,_=>rfl
 |.bl _,.int _,_,_=>rfl
 |.bl _,.str _,_,_=>rfl
 |.int _,.non,_,_=>rfl
 |.int _,.bl _,_,_=>rfl
 |.int _,.int _,_,_=>rfl
 |.int _,.str _,_,_=>rfl
 |.str _,.non,_,_=>rfl
 |.str _,.bl _,_,_=>rfl
 |.str _,.int _,_,_=>rfl
 |.str _,.str _,_,_=>yG
def Al(r:Rp G H v t F)(g:Rp G H w u h)(f:flat t=M)(d:flat u=M):OZ v w=eqT t u/\gP v=M/\gP w=M:=by
 obtain⟨e1,f1⟩:=D8 r f;obtain⟨e2,f2⟩:=D8 g d;refine⟨?_,f1,f2⟩;rw[e1,e2];exact HM f d
theorem rA(r:Rp G H x t F)(g:flat t=M):∀{d:List V}{f:Up}{m:X5},RpL G H d f m->f.all flat=M->d.all gP=M/\Th x d=f.any λy=>eqT y t
 |_,_,_,.nil,_=>⟨rfl,rfl⟩
 |_,_,_,.cons j q,h=>by
  rw[Wj,YT]at h;obtain⟨l,i⟩:=rA r g q h.2;obtain⟨e1,e2,e3⟩:=Al j r h.1 g;refine⟨by rw[Wj,e2,l];rfl,?_⟩;unfold Th at i ⊢;rw[YN,YN,i,e1]
def Jj(K:Wy):R2:=λx y H Q=>Uk K R x y H Q\/∃a o,y=.ref a/\fH H a x o/\Q (.bl o.isSome) H
def DC(K:Wy):R2:=λx y H Q=>Uk K M x y H Q\/∃a o,y=.ref a/\fH H a x o/\Q (.bl (!o.isSome)) H
def B4{X:Cx}(j:X.A.units+1<cLine):OpR X (UV .In) (λx y H Q=>∃a o,y=.ref a/\fH H a x o/\Q (.bl o.isSome) H):=by
 intro d s O H x y v u Q I i f h;obtain⟨a,o,rfl,g,q⟩:=h;cases f;exact Jp j I g i λm l=>⟨.bl o.isSome,H,l,rfl,q⟩
def t8{X:Cx}(j:X.A.units+1<cLine):OpR X (UV .NotIn) (λx y H Q=>∃a o,y=.ref a/\fH H a x o/\Q (.bl (!o.isSome)) H):=by
 intro d s O H x y v u Q I i f h;obtain⟨a,o,rfl,g,q⟩:=h;cases f;exact BM j I g i λm l=>⟨.bl (!o.isSome),H,l,rfl,q⟩
def tK{L:Hp}(f:Si G Z U L H x y u w O N)(e:nR x y=Y (m,t)) :
  ∃b,m=.fr/\t=.bl b/\((∃p n,w=.ref p/\(JV G.K H p n\/KY G.K H p n)/\gP u=M/\n.all gP=M/\Th u n=b)\/∃a o,w=.ref a/\fH H a u o/\o.isSome=b):=by
 obtain⟨Q,y⟩:=y;simp only[nR]at e;split at e
 ·split at e
  ·rename_i d;cases e;obtain⟨a,z,g,P,s,rfl,rfl,h,B,rfl,q⟩:=fq f.r2;obtain⟨A,rfl,C⟩:=dr f.r1 d;refine⟨_,rfl,rfl,.inr ⟨a,eY (z.zip g) A,rfl,fH.k h,?_⟩⟩;rw[C];rcases lx B q with⟨l,j⟩ | ⟨i,v,t2,F,E,D,_⟩
   ·rw[l,j];rfl
   ·rw[E,D];rfl
  ·cases e
 ·split at e
  ·rename_i d;cases e;rw[YT]at d;obtain⟨a,g,s,rfl,rfl,h,r⟩:=f.r2.lst_inv;obtain⟨l,j⟩:=rA f.r1 d.1 r d.2;exact⟨_,rfl,rfl,.inl ⟨a,g,rfl,.inl (JV.of h),((Al f.r1 f.r1 d.1 d.1).2.1),l,j⟩⟩
  ·cases e
 ·split at e
  ·rename_i d;cases e;rw[YT]at d;obtain⟨a,g,s,rfl,rfl,h,r⟩:=f.r2.Kq;obtain⟨l,j⟩:=rA f.r1 d.1 r d.2;exact⟨_,rfl,rfl,.inl ⟨a,g,rfl,.inr (KY.of h),((Al f.r1 f.r1 d.1 d.1).2.1),l,j⟩⟩
  ·cases e
 ·cases e
def IH:fZ G (Jj G.K) nR:=by
 intro Z U j H x y u w n l m t Q f e k;obtain⟨b,rfl,rfl,h⟩:=tK f e;rcases h with⟨p,d,rfl,i,f1,f2,hb⟩ | ⟨a,o,rfl,g,hb⟩
 ·refine .inl ⟨p,d,rfl,i,f1,f2,?_⟩;rw[hb];exact bJ k (.bl b)
 ·refine .inr ⟨a,o,rfl,g,?_⟩;rw[hb];exact bJ k (.bl b)
def GY:fZ G (DC G.K) dB:=by
 intro Z U r H x y u w v s m t Q i e k;unfold dB at e;split at e
 ·rename_i q d l;cases e;obtain⟨b,rfl,n,h⟩:=tK i l;cases n;rcases h with⟨p,f,rfl,j,f1,f2,hb⟩ | ⟨a,o,rfl,g,hb⟩
  ·refine .inl ⟨p,f,rfl,j,f1,f2,?_⟩;rw[hb];exact bJ k (.bl (!d))
  ·refine .inr ⟨a,o,rfl,g,?_⟩;rw[hb];exact bJ k (.bl (!d))
 ·cases e
def Bo:Tells nR:=by
 intro x y m t e;simp only[nR]at e;split at e
 all_goals first | (split at e<;>first | (cases e;exact⟨_,rfl⟩) | cases e) | cases e
def xX:Tells dB:=by
 intro x y m t e;unfold dB at e;split at e
 ·cases e;exact⟨_,rfl⟩
 ·cases e
def G8{X:Cx}(d:p0 k X.A)(h:PV G X a ca)(g:PV G X b cb)(f:{`q4,behindInMarks .In b=R})(i:{`q2,X.K=G.K}):LY G X (.Compare a [.In] [b] pos) (e2 nR ca cb):=fz (yD.or (B4 (jR d))) (i ▸ IH) Bo h g f
def vc{X:Cx}(d:p0 k X.A)(h:PV G X a ca)(g:PV G X b cb)(f:{`q4,behindInMarks .NotIn b=R})(i:{`q2,X.K=G.K}):LY G X (.Compare a [.NotIn] [b] pos) (e2 dB ca cb):=fz (qo.or (t8 (jR d))) (i ▸ GY) xX h g f
end
end VS
end
section
open PySem PyProof.Rows
namespace TS
noncomputable def wG:Bool->Pv->Array Pv->Nat->Nat->Nat->StateT SL Sem (Option Nat):=sortPriv% PySem.Builtin.gallop
noncomputable def BG:Array Pv->Array Pv->StateT SL Sem (Array Pv):=sortPriv% PySem.Builtin.mergeLo
noncomputable def By:Array Pv->Array Pv->StateT SL Sem (Array Pv):=sortPriv% PySem.Builtin.mergeHi
def all2{e d:Type}{P:e×d->Prop}(h:∀b a,P (b,a)):∀x,P x:=λ(b,a)=>h b a
def kg{g f e:Type}{P:g×f×e->Prop}(h:∀d b a,P (d,b,a)):∀x,P x:=λ(d,b,a)=>h d b a
def yC{m l j i g:Type}{P:m×l×j×i×g->Prop}(h:∀f e d b a,P (f,e,d,b,a)):∀x,P x:=λ(f,e,d,b,a)=>h f e d b a
def tU{o n m l j i:Type}{P:o×n×m×l×j×i->Prop}(h:∀g f e d b a,P (g,f,e,d,b,a)):∀x,P x:=λ(g,f,e,d,b,a)=>h g f e d b a
def CV{q p o n m l j:Type}{P:q×p×o×n×m×l×j->Prop}(h:∀i g f e d b a,P (i,g,f,e,d,b,a)):∀x,P x:=λ(i,g,f,e,d,b,a)=>h i g f e d b a
structure Ld(prog:SB)(w:XAB)(A:SC)(E:Yx)(s:KB)(κ:SortKind)(G:Pv->Prop)(r:Pv->Pv->Bool):Prop where
 run:∀(st:SL)(x y:Pv)(Q:Option Bool->SL->Prop),kindOf st=κ->G x->G y->Q (some (r x y)) st->wpS (KF prog w) A E s (lt' x y) Q st
 T7:∀x y,G x->G y->r x y=true->r y x=false
 trans:∀x y z,G x->G y->G z->r y x=false->r z y=false->r z x=false
variable{κ:SortKind}
noncomputable def le(r:Pv->Pv->Bool)(x y:Pv):Prop:=r y x=R
def eA{a:Array Pv}(d:i<a.size)(h:Q a[i] b):wpS (KF prog w) A E s (elem' a i) Q b:=by
 rw[elem'_eq,getElem?_pos a i d];exact ZU h
noncomputable def Nz(r:Pv->Pv->Bool)(left:Bool)(a x:Pv):Bool:=if left then r x a else !(r a x)
noncomputable def bf(left:Bool)(a:Pv)(b:Array Pv)(i:Nat):StateT SL Sem (Option Bool):=do
 let x ← elem' b i
 if left=M then lt' x a else do
  let l ← lt' a x
  pure (Option.map (λx=>!x) l)
def nk(C:Ld prog w A E s κ G r)(e:kindOf d=κ)(j:G b)(l:∀x∈a,G x)(f:i<a.size)(h:Q (Y (Nz r left b a[i])) d) :
  wpS (KF prog w) A E s (bf left b a i) Q d:=by
 refine ZQ (eA f ?_);have g:=l _ (ZX f);cases left with
 |true=>exact C.run d _ _ _ e g j h
 |false=>exact ZQ (C.run d _ _ _ e j g (ZU h))
def mid(h:a<b):a+(b-a)/2<b:=by omega
def sea(left:Bool)(e:Pv)(g:Array Pv)(a n d f:Nat):StateT SL Sem (Option Nat):=do
 let mut lo:=d
 let mut b:=f
 for _ in [0:n] do
  if lo ≥ b then break
  let m:=lo+(b-lo)/2
  let Y more ← bf left e g (a+m) | return J
  if more then lo:=m+1 else b:=m
 return Y b
section
variable{st:SL}
def Bd{prog:SB}{w:XAB}{A:SC}{E:Yx}{s:KB}{G:Pv->Prop}{r:Pv->Pv->Bool}{left:Bool}{key:Pv}{base n:Nat}{Q:Option Nat->SL->Prop}{f:Nat->Bool}(C:Ld prog w A E s κ G r){v a:Nat}(hk:kindOf st=κ)(gk:G key)(N:∀x∈arr,G x)(B:∀i,i<n->base+i<arr.size)(O:∀i (a:base+i<arr.size),f i=Nz r left key arr[base+i])(z:∀i j,i<=j->j<n->f j=M->f i=M)(fin:∀k,k<=n->(∀i,i<k->f i=M)->(∀i,k<=i->i<n->f i=R)->Q (Y k) st)(H:v<=a)(y:a<=n)(F:∀i,i<v->f i=M)(D:∀i,a<=i->i<n->f i=R):wpS (KF prog w) A E s (sea left key arr base n v a) Q st:=by
 refine ZQ (XQ (YJ
  (I:=λx c l=>st=l/\c.1=J/\c.2.1<=c.2.2/\c.2.2<=n/\(∀i,i<c.2.1->f i=M)/\(∀i,c.2.2<=i->i<n->f i=R)/\c.2.2+x<=n+c.2.1)
  (Q:=λc l=>st=l/\c.1=J/\c.2.1=c.2.2/\c.2.2<=n/\(∀i,i<c.2.1->f i=M)/\(∀i,c.2.2<=i->i<n->f i=R)) ?step ?fin ?init) ?post)
 case init=>exact⟨rfl,rfl,H,y,F,D,ZS y (Za n v)⟩
 case fin =>
  refine kg λX h u=>?_;rintro l ⟨rfl,e1,p,b,g,d,U⟩;exact⟨rfl,e1,Xo p (Nat.le_of_add_le_add_left (by rw[Nat.add_comm];exact U)),b,g,d⟩
 case step =>
  intro x;refine kg λX h u=>?_;rintro l _ hx ⟨rfl,e1,p,b,g,d,U⟩
  try dsimp only at *
  split
  ·rename_i q;exact ZU ⟨rfl,rfl,Xo p q,b,g,d⟩
  ·rename_i q;have o:=mid (Nat.lt_of_not_ge q);have P:h<=h+(u-h)/2:=Za _ _;generalize h+(u-h)/2=m at o P ⊢;have S:=B m (Zi o b);refine ZQ (nk C hk gk N S ?_)
   try dsimp only
   rw[← O _ S];cases e:f m with
   |true =>
    rw[Zs L];exact ZU ⟨rfl,rfl,o,b,λi a=>z i _ (Yv a) (Zi o b) e,d,by(try dsimp only);clear g d z O fin B N H y F D;omega⟩
   |false =>
    rw[Zo Zh];refine ZU ⟨rfl,rfl,P,ZO (Zi o b),g,λi a Z=>?_,by(try dsimp only);clear g d z O fin B N H y F D;omega⟩;cases e2:f i with
    |false=>rfl
    |true=>rw[z _ i a Z e2]at e;cases e
 case post =>
  refine kg λX h u=>?_;rintro l ⟨rfl,e1,p,b,g,d⟩
  try dsimp only at *
  subst e1;exact ZU (fin u b (λi a=>g i (p ▸ a)) d)
def ar1{n:Nat}(h:b<c)(g:a+b<n):a+b+1<=a+min c (n-a):=by omega
def ar2{n:Nat}(h:a<n):a+min c (n-a)<=n:=by omega
def ar3{n:Nat}(h:a+min c (n-a)<=i)(g:i<n):a+c<=i:=by omega
def ar4(h:b<c)(g:b<=a):a+1-min c (a+1)<=a-b:=by omega
def ar5(h:i<a+1-min c (a+1)):c<=a/\i<=a-c:=by omega
def ar6{n:Nat}(h:¬c ≥ n-a):a+c<n:=by omega
def ar7{n:Nat}(h:c ≥ n-a):¬a+c<n:=by omega
def ar8(h:x<c):x+1<2*c+1:=by omega
def ar9:c<2*c+1:=by omega
def vi(C:Ld prog w A E s κ G r)(H:kindOf st=κ)(N:G key)(O:∀x∈arr,G x)(X:base+n<=arr.size)(y:a<n)(u:∀i j (b:base+i<arr.size) (U:base+j<arr.size),i<=j->j<n->Nz r left key arr[base+j]=M->Nz r left key arr[base+i]=M)(h:∀k,k<=n->(∀i (b:base+i<arr.size),i<k->Nz r left key arr[base+i]=M)->(∀i (b:base+i<arr.size),k<=i->i<n->Nz r left key arr[base+i]=R)->Q (Y k) st) :
  wpS (KF prog w) A E s (wG left key arr base n a) Q st:=by
 obtain⟨f,p⟩:∃f:Nat->Bool,∀i (b:base+i<arr.size),f i=Nz r left key arr[base+i]:=⟨λi=>if b:base+i<arr.size then Nz r left key arr[base+i] else R,λi b=>dif_pos b⟩
 have lt:∀i,i<n->base+i<arr.size:=λi b=>Zi (YY b base) X;have B:∀i j,i<=j->j<n->f j=M->f i=M:=λi j Mu U e=>by
  have b2:=lt j U;have b1:=lt i (ZK Mu U);rw[p j b2]at e;rw[p i b1];exact u i j b1 b2 Mu U e
 have fin:∀k,k<=n->(∀i,i<k->f i=M)->(∀i,k<=i->i<n->f i=R)->Q (Y k) st:=λk h1 h2 h3 =>
  h k h1 (λi b Qy=>by rw[← p i b];exact h2 i Qy) λi b h4 h5=>by rw[← p i b];exact h3 i h4 h5
 clear h u X;change wpS (KF prog w) A E s (_>>=_) Q st;have Z:=lt a y;refine ZQ (nk C H N O Z ?_);dsimp only;rw[← p _ Z];cases e0:f a with
 |true =>
  rw[Zs L];refine ZQ (XQ (YJ
   (I:=λx c m=>st=m/\c.1=J/\f (a+c.2.1)=M/\c.2.1<c.2.2/\a+c.2.1<n/\x<c.2.2)
   (Q:=λc m=>st=m/\c.1=J/\f (a+c.2.1)=M/\c.2.1<c.2.2/\a+c.2.1<n/\(a+c.2.2<n->f (a+c.2.2)=R)) ?step1 ?fin1 ?init1) ?post1)
  case init1=>exact⟨rfl,rfl,e0,Ve,y,Ve⟩
  case fin1 =>
   refine kg λS P v=>?_;rintro m ⟨rfl,e1,l,g,d,o⟩;exact⟨rfl,e1,l,g,d,λz=>absurd (ZK (Y1 _ _) z) (Nat.lt_asymm o)⟩
  case step1 =>
   intro x;refine kg λS P v=>?_;rintro m _ hx ⟨rfl,e1,l,g,d,o⟩;split
   ·rename_i q;exact ZU ⟨rfl,rfl,l,g,d,λz=>absurd z (ar7 q)⟩
   ·rename_i q;have F:=lt _ (ar6 q);refine ZQ (nk C H N O F ?_);rw[← p _ F];cases e:f (a+v) with
    |true=>exact ZU ⟨rfl,rfl,e,ar9,ar6 q,ar8 o⟩
    |false=>exact ZU ⟨rfl,rfl,l,g,d,λ_=>e⟩
  case post1 =>
   refine kg λS P v=>?_;rintro m ⟨rfl,e1,l,g,d,o⟩;subst e1;refine Bd C H N O lt p B fin (ar1 g d) (ar2 y) (λi b=>B i _ (Yv b) d l) λi b D=>?_;cases e2:f i with
   |false=>rfl
   |true =>
    have q:=ar3 b D;rw[← o (ZK q D),B _ i q D e2]
 |false =>
  rw[Zo Zh];refine ZQ (XQ (YJ
   (I:=λx c m=>st=m/\c.1=J/\f (a-c.2.1)=R/\c.2.1<c.2.2/\c.2.1<=a/\x<c.2.2)
   (Q:=λc m=>st=m/\c.1=J/\f (a-c.2.1)=R/\c.2.1<c.2.2/\c.2.1<=a/\(c.2.2<=a->f (a-c.2.2)=M)) ?step1 ?fin1 ?init1) ?post1)
  case init1=>exact⟨rfl,rfl,e0,Ve,ZE _,Ve⟩
  case fin1 =>
   refine kg λS P v=>?_;rintro m ⟨rfl,e1,l,g,d,o⟩;exact⟨rfl,e1,l,g,d,λz=>absurd (ZK z y) (Nat.lt_asymm o)⟩
  case step1 =>
   intro x;refine kg λS P v=>?_;rintro m _ hx ⟨rfl,e1,l,g,d,o⟩;split
   ·rename_i q;exact ZU ⟨rfl,rfl,l,g,d,λz=>absurd z (Nat.not_le_of_gt q)⟩
   ·rename_i q;have F:=lt _ (ZK (Yj a v) y);refine ZQ (nk C H N O F ?_);rw[← p _ F];cases e:f (a-v) with
    |true=>exact ZU ⟨rfl,rfl,l,g,d,λ_=>e⟩
    |false=>exact ZU ⟨rfl,rfl,e,ar9,Yv (Nat.lt_of_not_ge q),ar8 o⟩
  case post1 =>
   refine kg λS P v=>?_;rintro m ⟨rfl,e1,l,g,d,o⟩;subst e1;refine Bd C H N O lt p B fin (ar4 g d) (ZS (Yj _ _) (ZO y)) (λi b=>?_) λi b D=>?_
   ·have q:=ar5 b;exact B i _ q.2 (ZK (Yj _ _) y) (o q.1)
   ·cases e2:f i with
    |false=>rfl
    |true=>rw[← l,B _ i b D e2]
end
end TS
end
section
open PySem PyProof.Rows
namespace TS
variable{κ:SortKind}
def Ld.refl(C:Ld prog w A E s κ G r)(h:G x):le r x x:=by
 unfold le;cases e:r x x with
 |false=>rfl
 |true=>exact absurd (C.T7 x x h h e) (by rw[e];exact λz=>nomatch z)
def Ld.tr(C:Ld prog w A E s κ G r)(d:G x)(b:G y)(a:G z)(f:le r x y)(e:le r y z):le r x z:=C.trans x y z d b a f e
def Ld.LA(C:Ld prog w A E s κ G r)(b:G x)(a:G y)(h:r x y=M):le r x y:=C.T7 x y b a h
def Seg(r:Pv->Pv->Bool)(a:Array Pv)(b d:Nat):Prop:=∀i j (f:i<a.size) (e:j<a.size),b<=i->i<=j->j<d->le r a[i] a[j]
def jN(C:Ld prog w A E s κ G r)(y:kindOf o=κ)(m:G d)(u:∀x∈b,G x)(D:a+n<=b.size)(B:l<n)(v:Seg r b a (a+n))(h:∀k,k<=n->(∀i (f:i<b.size),a<=i->i<a+k->le r b[i] d)->(∀i (f:i<b.size),a+k<=i->i<a+n->le r d b[i])->Q (Y k) o) :
  wpS (KF prog w) A E s (wG left d b a n l) Q o:=by
 have g:∀i (f:i<b.size),G b[i]:=λi f=>u _ (ZX f);refine vi C y m u D B (λi j f p U z e=>?_) λk O N H=>h k O (λi f q F=>?_) λi f q F=>?_
 ·have s1:=v (a+i) (a+j) f p (by exact Za _ _) (by lia) (by lia);cases left with
  |true =>
   unfold Nz at e ⊢;rw[Zs L]at e ⊢;cases e2:r b[a+i] d with
   |true=>rfl
   |false=>rw[C.tr m (g _ f) (g _ p) e2 s1]at e;cases e
  |false =>
   unfold Nz at e ⊢;rw[Zo Zh]at e ⊢;have S:r d b[a+j]=R:=by simpa using e
   have:=C.tr (g _ f) (g _ p) m s1 S;rw[this];rfl
 ·have e:=N (i-a) (by lia) (by lia);simp only[(by exact V0 q)]at e;cases left with
  |true =>
   unfold Nz at e;rw[Zs L]at e;exact C.LA (g _ f) m e
  |false =>
   unfold Nz at e;rw[Zo Zh]at e;show r d b[i]=R;simpa using e
 ·have e:=H (i-a) (by lia) (by lia) (by omega);have P:a+(i-a)=i:=by lia
  simp only[P]at e;cases left with
  |true =>
   unfold Nz at e;rw[Zs L]at e;exact e
  |false =>
   unfold Nz at e;rw[Zo Zh]at e;exact C.LA m (g _ f) (by simpa using e)
def sO{a:Array Pv}(h:x∈a.toList.drop i):∃j,∃(d:j<a.size),i<=j/\a[j]=x:=by
 obtain⟨k,b,e⟩:=Yb h;rw[Yl]at b;rw[X0]at e;have:i+k<a.size:=by simpa using(by omega:i+k<a.toList.length)
 exact⟨i+k,this,by exact Za _ _,by simpa using e⟩
def lu{a:Array Pv}(h:x∈(a.toList.drop i).take k):∃j,∃(d:j<a.size),i<=j/\j<i+k/\a[j]=x:=by
 obtain⟨m,b,e⟩:=Yb h;rw[LX,Yl]at b;rw[XA,X0]at e;have:i+m<a.size:=by simpa using(by omega:i+m<a.toList.length)
 exact⟨i+m,this,by exact Za _ _,by lia,by simpa using e⟩
def vX{a:Array Pv}(h:i<a.size):a.toList.drop i=a[i] :: a.toList.drop (i+1):=by
 have:i<a.toList.length:=by simpa using h
 rw[YE this];simp
def i4(h:Seg r a 0 a.size):a.toList.Pairwise (le r):=by
 rw[YG];intro i j d b e;simpa using h i j (by simpa using d) (by simpa using b) (ZE _) (by exact ZO e) (by simpa using b)
def Bt(C:Ld prog w A E s κ G r)(f:∀x∈a,G x)(h:a.toList.Pairwise (le r)):Seg r a 0 a.size:=by
 intro i j d e _ g _;rcases Vj i j with l | b
 ·have:=YG.mp h i j (by simpa using d) (by simpa using e) l;simpa using this
 ·have:i=j:=by exact Xo g b
  subst this;exact C.refl (f _ (ZX d))
structure MI(r:Pv->Pv->Bool)(a b out:Array Pv)(ia ib:Nat):Prop where
 pm:(out.toList++(a.toList.drop ia++b.toList.drop ib)).Perm (a.toList++b.toList)
 so:out.toList.Pairwise (le r)
 la:∀x∈out.toList,∀y∈a.toList.drop ia,le r x y
 lb:∀x∈out.toList,∀y∈b.toList.drop ib,le r x y
def MR(r:Pv->Pv->Bool)(a b d:Array Pv):Prop:=d.toList.Perm (a.toList++b.toList)/\d.toList.Pairwise (le r)
theorem MI.size{f:Nat}(m:MI r a b d f e)(h:f<=a.size)(g:e<=b.size):d.size+(a.size-f)+(b.size-e)=a.size+b.size:=by
 have:=m.pm.length_eq;simp at this;lia
def MI.Ng{k:Nat}(m:MI r a b f d l)(p:Seg r a 0 a.size)(q:∀i (o:i<a.size),d<=i->i<d+k->∀j (n:j<b.size),l<=j->le r a[i] b[j]) :
  MI r a b (f++a.extract d (d+k)) (d+k) l:=by
 have e1:(f++a.extract d (d+k)).toList=f.toList++(a.toList.drop d).take k:=by
  simp[List.extract_eq_drop_take]
 have e2:a.toList.drop d=(a.toList.drop d).take k++a.toList.drop (d+k):=by
  rw[← List.drop_drop];exact(YM _ _).symm
 have h:(a.toList.drop d).Pairwise (le r):=(i4 p).drop;rw[e2,MS]at h;refine⟨?_,?_,?_,?_⟩
 ·rw[e1];have:=m.pm;rw[e2]at this;simpa[Zb] using this
 ·rw[e1,MS];refine⟨m.so,h.1,λx e y g=>m.la x e y ?_⟩;exact YS g
 ·rw[e1];intro x e y g;rcases Zd.mp e with e | e
  ·exact m.la x e y (by rw[e2];exact ZI _ g)
  ·exact h.2.2 x e y g
 ·rw[e1];intro x e y g;rcases Zd.mp e with e | e
  ·exact m.lb x e y g
  ·obtain⟨i,o,z,v,rfl⟩:=lu e;obtain⟨j,n,u,rfl⟩:=sO g;exact q i o z v j n u
def MI.swap(m:MI r a b d f e):MI r b a d e f :=
 ⟨((Xw.append_left _).trans m.pm).trans Xw,m.so,m.lb,m.la⟩
def MI.RN(m:MI r a b e f d)(g:Seg r b 0 b.size)(h:∀i (n:i<b.size),d<=i->i<d+k->∀j (l:j<a.size),f<=j->le r b[i] a[j]) :
  MI r a b (e++b.extract d (d+k)) f (d+k):=(m.swap.Ng g h).swap
def zg{a b:Array Pv}(h:i<a.size):b.push a[i]=b++a.extract i (i+1):=by
 apply Array.ext';have:(a.extract i (i+1)).toList=[a[i]]:=by
  have e:i<a.toList.length:=by simpa using h
  simp[List.extract_eq_drop_take,YE e]
 rw[YX,this,Vu]
def MI.Lo(m:MI r a b e d f)(l:Seg r a 0 a.size)(h:d<a.size)(n:∀j (g:j<b.size),f<=j->le r a[d] b[j]):MI r a b (e.push a[d]) (d+1) f:=by
 rw[zg h];refine m.Ng l λi p u q j g o=>?_;have:i=d:=by lia
 subst this;exact n j g o
def MI.LZ(m:MI r a b d f e)(g:Seg r b 0 b.size)(h:e<b.size)(i:∀j (l:j<a.size),f<=j->le r b[e] a[j]):MI r a b (d.push b[e]) f (e+1):=(m.swap.Lo g h i).swap
def nc{a:Array Pv}:(a.extract i a.size).toList=a.toList.drop i:=by
 rw[Xa,List.extract_eq_drop_take,Yu (by simp)]
def MI.fin(m:MI r a b d g f)(n:Seg r a 0 a.size)(l:Seg r b 0 b.size)(h:g=a.size\/f=b.size):MR r a b (d++a.extract g a.size++b.extract f b.size):=by
 have e:(d++a.extract g a.size++b.extract f b.size).toList=d.toList++(a.toList.drop g++b.toList.drop f):=by
  rw[YX,YX,nc,nc,Zb]
 refine⟨by rw[e];exact m.pm,?_⟩;rw[e,MS];refine⟨m.so,?_,λx j y i=>?_⟩
 ·rcases h with h | h
  ·rw[YQ (by simp[h]),YV];exact(i4 l).drop
  ·rw[YQ (as:=b.toList) (by simp[h]),ZL];exact(i4 n).drop
 ·rcases Zd.mp i with i | i
  ·exact m.la x j y i
  ·exact m.lb x j y i
def MI.last(m:MI r a b d f i)(o:Seg r b 0 b.size)(h:f+1=a.size)(p:∀j (n:j<b.size),le r b[j] a[f]):MR r a b (d++b.extract i b.size++a.extract f a.size):=by
 have e:(d++b.extract i b.size++a.extract f a.size).toList=d.toList++(b.toList.drop i++a.toList.drop f):=by
  rw[YX,YX,nc,nc,Zb]
 have e2:a.toList.drop f=[a[f]]:=by rw[vX (by omega),YQ (by simp;lia)]
 refine⟨by rw[e];exact(Xw.append_left _).trans m.pm,?_⟩;rw[e,MS];refine⟨m.so,?_,λx l y g=>?_⟩
 ·rw[MS];refine⟨(i4 o).drop,by rw[e2];exact Vo _ _,λx l y g=>?_⟩;rw[e2]at g;obtain⟨j,n,_,rfl⟩:=sO l;rw[Zc.mp g];exact p j n
 ·rcases Zd.mp g with g | g
  ·exact m.lb x l y g
  ·exact m.la x l y g
end TS
end
section
open PySem PyProof.Rows
namespace TS
variable{κ:SortKind}
noncomputable def iZ(a b:SL):Prop:=kindOf b=kindOf a/\arrOf b=arrOf a/\UF b=UF a/\failedOf b=failedOf a
noncomputable def o9:Nat->StateT SL Sem Unit:=sortPriv% PySem.Builtin.setMinGallop
def iI(e:iZ d a)(h:∀b,iZ d b->Q () b):wpS (KF prog w) A E s (o9 g) Q a:=by
 exact WD (h _ e)
def ir(h:Q () a):wpS (KF prog w) A E s (liftM (rule t)) Q a:=wpS_lift (wpAny_rule ⟨rfl,h⟩)
def aZ{α:Type}{c:Prop}[Decidable c]{x y:StateT SL Sem α}{Q:α->SL->Prop}(d:c->wpS (KF prog w) A E s x Q b)(e:¬c->wpS (KF prog w) A E s y Q b) :
  wpS (KF prog w) A E s (if c then x else y) Q b:=by
 by_cases a:c
 ·rw[Zs a];exact d a
 ·rw[Zo a];exact e a
def xi{prog:SB}{w:XAB}{A:SC}{E:Yx}{s:KB}{α:Type}{c:Nat->Prop}[∀n,Decidable (c n)]{d a:Nat->StateT SL Sem α}{Q:α->SL->Prop}{b:SL}(e:∀n,d n=a (n-1))(h:∀n,wpS (KF prog w) A E s (a n) Q b):∀n,wpS (KF prog w) A E s (if c n then d n else a n) Q b :=
 λn=>aZ (λ_=>by rw[e];exact h _) λ_=>h n
def dJ{prog:SB}{w:XAB}{A:SC}{E:Yx}{s:KB}{α:Type}{a:Array Pv}{i:Nat}{c:Pv->Prop}[∀v,Decidable (c v)]{x y:Pv->StateT SL Sem α}{Q:α->SL->Prop}{b:SL}(e:i<a.size)(d:c a[i]->wpS (KF prog w) A E s (x a[i]) Q b)(f:¬c a[i]->wpS (KF prog w) A E s (y a[i]) Q b) :
  wpS (KF prog w) A E s (elem' a i >>= λv=>if c v then x v else y v) Q b:=ZQ (eA e (aZ d f))
def yJ{α:Type}{c d:Prop}[Decidable c][Decidable d]{x y z:StateT SL Sem α}{Q:α->SL->Prop}(g:c->wpS (KF prog w) A E s x Q a)(f:¬c->d->wpS (KF prog w) A E s y Q a)(b:¬c->¬d->wpS (KF prog w) A E s z Q a) :
  wpS (KF prog w) A E s (if c then x else if d then y else z) Q a:=aZ g λe=>aZ (f e) (b e)
def lF{α β:Type}{a:Array Pv}{m:Pv->StateT SL Sem β}{f:Pv->β->StateT SL Sem α}{Q:α->SL->Prop}(d:i<a.size)(h:wpS (KF prog w) A E s (m a[i]) (λv e=>wpS (KF prog w) A E s (f a[i] v) Q e) b) :
  wpS (KF prog w) A E s (elem' a i >>= λu=>m u >>= λv=>f u v) Q b:=ZQ (eA d (ZQ h))
structure MC(G:Pv->Prop)(r:Pv->Pv->Bool)(a b:Array Pv):Prop where
 ga:∀x∈a,G x
 gb:∀x∈b,G x
 sa:Seg r a 0 a.size
 sb:Seg r b 0 b.size
 na:0<a.size
 nb:0<b.size
 first:le r b[0] a[0]
 last:∀j (hj:j<b.size),le r b[j] a[a.size-1]
def MC.Np(M:MC G r a b)(f:i<a.size)(h:i+1=a.size):∀j (d:j<b.size),le r b[j] a[i]:=by
 intro j d;have:=M.last j d;have e:a.size-1=i:=by lia
 simpa[e] using this
def MC.bA(C:Ld prog w A E s κ G r)(M:MC G r a b)(e:i<a.size)(f:j<b.size)(h:le r b[j] a[i]):∀k (d:k<a.size),i<=k->le r b[j] a[k]:=λk d g =>
 C.tr (M.gb _ (ZX f)) (M.ga _ (ZX e)) (M.ga _ (ZX d)) h (M.sa i k e d (ZE _) g d)
def MC.aB(C:Ld prog w A E s κ G r)(M:MC G r a b)(f:i<a.size)(e:j<b.size)(h:le r a[i] b[j]):∀k (d:k<b.size),j<=k->le r a[i] b[k]:=λk d g =>
 C.tr (M.ga _ (ZX f)) (M.gb _ (ZX e)) (M.gb _ (ZX d)) h (M.sb j k e d (ZE _) g d)
def m8(h:Seg r a 0 a.size)(d e:Nat):Seg r a d e:=λi j g b m f l=>h i j g b (ZE _) f b
noncomputable abbrev LO(r:Pv->Pv->Bool)(a b:Array Pv)(x:Nat)(o:Array Pv)(i j:Nat):Prop:=MI r a b o i j/\i+1<a.size/\j<b.size/\x<o.size
abbrev LQ(d:SL)(r:Pv->Pv->Bool)(a b:Array Pv)(x:Nat)(c:Option (Array Pv))(o:Array Pv)(i j:Nat)(e:SL):Prop:=iZ d e/\((∃res,c=Y res/\MR r a b res)\/(c=J/\LO r a b x o i j))
def mW{α β γ:Type}{c:α->β->Prop}{_:∀o i,Decidable (c o i)}{x F:α->β->StateT SL Sem γ}{Q:γ->SL->Prop}{j g f e d b:α->β->Prop}(P:α->β->Prop)(l:∀o i,P o i->wpS (KF prog w) A E s (F o i) Q a)(z:(∀o i,P o i->wpS (KF prog w) A E s (F o i) Q a)->∀o i,j o i->g o i->f o i->e o i->d o i->b o i->c o i->wpS (KF prog w) A E s (x o i) Q a)(h:∀o i,j o i->g o i->f o i->e o i->d o i->b o i->¬c o i->P o i) :
  ∀o i,j o i->g o i->f o i->e o i->d o i->b o i->wpS (KF prog w) A E s (if c o i then x o i else F o i) Q a :=
 λo i y v u q p m=>aZ (z l o i y v u q p m) λn=>l o i (h o i y v u q p m n)
def IF(C:Ld prog w A E s κ G r)(hk:kindOf B=κ)(M:MC G r a b)(h:∀res l,iZ B l->MR r a b res->Q res l) :
  wpS (KF prog w) A E s (BG a b) Q B:=by
 have hna:=M.na;have hnb:=M.nb;change wpS (KF prog w) A E s (_>>=_) Q B;refine ZQ (ir ?_);have m0:MI r a b #[] 0 0:=⟨by simp,by simp,by simp,by simp⟩
 have m1:=m0.LZ M.sb M.nb λj u _=>M.bA C M.na M.nb M.first j u (ZE _);have Rc:iZ B B:=⟨rfl,rfl,rfl,rfl⟩
 refine dJ M.nb (λe=>?_) λe1=>?_
 ·exact ZU (h _ _ Rc (m1.fin M.sa M.sb (.inr (by simpa using e))))
 refine aZ (λe=>?_) λe2=>?_
 ·exact ZU (h _ _ Rc (m1.last M.sb (by simpa using e) (M.Np M.na (by simpa using e))))
 refine ZQ (VZ ?_);refine ZQ (XQ (YJ
  (I:=λx c l=>iZ B l/\c.1=J/\LO r a b x c.2.1 c.2.2.1 c.2.2.2.1)
  (Q:=λc l=>iZ B l/\∃res,c.1=Y res/\MR r a b res) ?step ?fin ?init) ?post)
 case init=>exact⟨Rc,rfl,m1,(by simp at e2;lia),(by simp at e1;lia),by simp⟩
 case fin =>
  refine yC λO out n q mg l d=>?_;have m:=d.2.2.1;have g:=d.2.2.2.1;have f:=d.2.2.2.2.1;have p:=d.2.2.2.2.2;clear d;have:=m.size (by lia) (by exact ZO f);lia
 case post =>
  refine yC λO out n q mg=>?_;rintro l ⟨kp,res,v,g⟩;subst v;exact ZU (h _ _ kp g)
 case step =>
  intro x;refine yC λO out n q mg l _ hx d=>?_;have kp:=d.1;have v:=d.2.1;have m:=d.2.2.1;have g:=d.2.2.2.1;have f:=d.2.2.2.2.1;have p:=d.2.2.2.2.2;clear d;refine ZQ (XQ (YJ
   (I:=λy c l=>iZ B l/\c.1=J/\LO r a b (x+y) c.2.1 c.2.2.1 c.2.2.2.1)
   (Q:=λc l=>LQ B r a b (x+1) c.1 c.2.1 c.2.2.1 c.2.2.2.1 l) ?step2 ?fin2 ?init2) ?post2)
  case init2=>exact⟨kp,rfl,m,g,f,by simpa using p⟩
  case fin2 =>
   refine tU λO out n q ac bc l d=>?_;have kp:=d.1;have v:=d.2.1;have m:=d.2.2.1;have g:=d.2.2.2.1;have f:=d.2.2.2.2.1;have p:=d.2.2.2.2.2;clear d;exact⟨kp,.inr ⟨v,m,g,f,by(try dsimp only);lia⟩⟩
  case step2 =>
   intro y;refine tU λO out n q ac bc l _ hy d=>?_;have kp:=d.1;have m:=d.2.2.1;have g:=d.2.2.2.1;have f:=d.2.2.2.2.1;have p:=d.2.2.2.2.2;clear d;have X:n<a.size:=by exact Xr g
   have gA:=M.ga _ (ZX X);have gB:=M.gb _ (ZX f);refine lF f (eA X ?_);refine ZQ (C.run _ _ _ _ (kp.1.trans hk) gB gA ?_);dsimp only;cases e:r b[q] a[n] with
   |true =>
    rw[Zs L];have D:=m.LZ M.sb f (M.bA C X f (C.LA gB gA e));refine dJ f (λe3=>?_) λe3=>?_
    ·exact ZU ⟨kp,.inl ⟨_,rfl,D.fin M.sa M.sb (.inr (by simpa using e3))⟩⟩
    ·have OG:q+1<b.size:=by lia
     refine aZ (λ_=>?_) λ_=>?_
     ·exact ZU ⟨kp,.inr ⟨rfl,D,g,OG,by simp;lia⟩⟩
     ·exact ZU ⟨kp,rfl,D,g,OG,by simp;lia⟩
   |false =>
    rw[Zo Zh];have D:=m.Lo M.sa X (M.aB C X f e);refine dJ X (λe3=>?_) λe3=>?_
    ·exact ZU ⟨kp,.inl ⟨_,rfl,D.last M.sb (by simpa using e3) (M.Np (by omega) (by simpa using e3))⟩⟩
    ·have OG:n+1+1<a.size:=by lia
     refine aZ (λ_=>?_) λ_=>?_
     ·exact ZU ⟨kp,.inr ⟨rfl,D,OG,f,by simp;lia⟩⟩
     ·exact ZU ⟨kp,rfl,D,OG,f,by simp;lia⟩
  case post2 =>
   refine tU λO out n q ac bc=>?_;rintro l ⟨kp,⟨res,v,g⟩ | ⟨v,m,g,f,p⟩⟩
   ·subst v;exact ZU ⟨kp,res,rfl,g⟩
   ·subst v;refine ZQ (ir ?_);refine ZQ (XQ (YJ
     (I:=λy c l=>iZ B l/\c.1=J/\LO r a b (x+1) c.2.1 c.2.2.1 c.2.2.2.1)
     (Q:=λc l=>LQ B r a b (x+1) c.1 c.2.1 c.2.2.1 c.2.2.2.1 l) ?step3 ?fin3 ?init3) ?post3)
    case init3=>exact⟨kp,rfl,m,g,f,p⟩
    case fin3 =>
     refine tU λO out n q ac bc l d=>?_;have kp:=d.1;have v:=d.2.1;have m:=d.2.2.1;have g:=d.2.2.2.1;have f:=d.2.2.2.2.1;have p:=d.2.2.2.2.2;clear d;exact⟨kp,.inr ⟨v,m,g,f,p⟩⟩
    case post3 =>
     refine CV λO out n q mg ac bc=>?_;rintro l ⟨kp,⟨res,v,g⟩ | ⟨v,m,g,f,p⟩⟩
     ·subst v;exact ZU ⟨kp,res,rfl,g⟩
     ·subst v;exact ZQ (iI kp λLl z=>ZU ⟨z,rfl,m,g,f,p⟩)
    case step3 =>
     intro y;refine CV λO out n q mg ac bc l _ hy d=>?_;have kp:=d.1;have m:=d.2.2.1;have g:=d.2.2.2.1;have f:=d.2.2.2.2.1;have p:=d.2.2.2.2.2;clear d;dsimp only at *;revert mg;refine xi (λ_=>rfl) λmg2=>?_;refine(λhF=>ZQ (iI kp λLl z=>hF Ll z)) λLl z=>?_;have gB:=M.gb _ (ZX f);refine lF f (jN C (z.1.trans hk) gB M.ga (by lia) (by exact Vy (by exact Xr g)) (m8 M.sa _ _) λk Nv LV Z=>?_);revert out n;refine mW (λo i=>MI r a b o i q/\i+1<a.size/\x+1<o.size/\∀j u,i<=j->le r b[q] (a[j]'u)) (λout n d=>?_) (λtail out n m g p Nv LV Z e5=>?_) λout n m g p Nv LV Z e5=>⟨m,g,p,λj u h=>Z j u (by lia) (by lia)⟩
     ·refine L2.aq λP_ k_=>?_;obtain⟨m,g,p,Z⟩:=d;refine k_ ?_;have Lj:n<a.size:=Xr g;have P:=m.LZ M.sb f Z;refine dJ f (λe4=>?_) λe4=>?_
      ·exact ZU ⟨z,.inl ⟨_,rfl,P.fin M.sa M.sb (.inr (by simpa using e4))⟩⟩
      have N4:q+1<b.size:=by lia
      have U:x+1<(out.push b[q]).size/\q+1<=q+1:=by rw[XF];exact⟨L7 p,Zn _⟩
      refine lF Lj (jN C (z.1.trans hk) (M.ga _ (ZX Lj)) M.gb (by lia) (by exact Vy N4) (m8 M.sb _ _) λk2 N2 Lr S=>?_);generalize out.push b[q]=o1 at P U ⊢;generalize q+1=j1 at U P N4 N2 Lr S ⊢;revert o1 j1;refine mW (λo j=>MI r a b o n j/\j<b.size/\x+1<o.size/\∀i F,j<=i->le r a[n] (b[i]'F)) (λout q d=>?_) (λtail o1 j1 U P N4 N2 Lr S e5=>?_) λo1 j1 U P N4 N2 Lr S e5=>⟨P,N4,U.1,λi F h=>S i F (by lia) (by lia)⟩
      ·refine L2.aq λP_ k_=>?_;obtain⟨m,f,p,S⟩:=d;refine k_ ?_;have m5:=m.Lo M.sa Lj S;refine dJ Lj (λN=>?_) λN=>?_
       ·exact ZU ⟨z,.inl ⟨_,rfl,m5.last M.sb (by simpa using N) (M.Np (by omega) (by simpa using N))⟩⟩
       have e8:n+1+1<a.size:=by simp at N;lia
       have q6:x+1<(out.push a[n]).size:=by rw[XF];exact L7 p
       exact aZ (λ_=>ZU ⟨z,.inr ⟨rfl,m5,e8,f,q6⟩⟩) λ_=>ZU ⟨z,rfl,m5,e8,f,q6⟩
      ·have m4:=P.RN M.sb (λi F h1 h2 j u h3=>C.tr (M.gb _ (ZX F)) (M.ga _ (ZX Lj)) (M.ga _ (ZX u)) (Lr i F h1 h2) (M.sa _ j Lj u (ZE _) h3 u));refine aZ (λH=>?_) λH=>?_
       ·exact ZU ⟨z,.inl ⟨_,rfl,m4.fin M.sa M.sb (.inr (by simpa using H))⟩⟩
       ·exact tail _ _ ⟨m4,by simp at H;lia,by rw[X1];exact Zi U.1 (Za _ _),λi F h=>S i F h (by lia)⟩
     ·have D:=m.Ng (k:=k) M.sa (λi F h1 h2 j u h3=>C.tr (M.ga _ (ZX F)) gB (M.gb _ (ZX u)) (LV i F h1 h2) (M.sb _ j f u (ZE _) h3 u));refine yJ (λH=>?_) (λH N=>?_) λH N=>?_
      ·exact ZU ⟨z,.inl ⟨_,rfl,D.last M.sb (by simpa using H) (M.Np (by lia) (by simpa using H))⟩⟩
      ·exact ZU ⟨z,.inl ⟨_,rfl,D.fin M.sa M.sb (.inl (by simpa using N))⟩⟩
      ·exact tail _ _ ⟨D,by simp at H N;lia,by rw[X1];exact Zi p (Za _ _),λj u h=>Z j u h (by lia)⟩
end TS
end
section
open PySem PyProof.Rows
namespace TS
variable{κ:SortKind}
def zb{a:Array Pv}(h:x∈a.toList.take n):∃j,∃(d:j<a.size),j<n/\a[j]=x:=by
 obtain⟨m,b,e⟩:=Yb h;rw[LX]at b;rw[XA]at e;have:m<a.size:=by simpa using(by lia:m<a.toList.length)
 exact⟨m,this,by lia,by simpa using e⟩
structure HI(r:Pv->Pv->Bool)(a b out:Array Pv)(na nb:Nat):Prop where
 pm:(a.toList.take na++(b.toList.take nb++out.toList.reverse)).Perm (a.toList++b.toList)
 so:out.toList.reverse.Pairwise (le r)
 la:∀x∈out.toList,∀y∈a.toList.take na,le r y x
 lb:∀x∈out.toList,∀y∈b.toList.take nb,le r y x
theorem HI.size{f:Nat}(m:HI r a b d f e)(h:f<=a.size)(g:e<=b.size):d.size+f+e=a.size+b.size:=by
 have:=m.pm.length_eq;simp at this;lia
def HI.Ng{k:Nat}(m:HI r a b e f n)(q:Seg r a 0 a.size)(v:k<=f)(u:∀i (p:i<a.size),k<=i->i<f->∀j (o:j<b.size),j<n->le r b[j] a[i]) :
  HI r a b (e++(a.extract k f).reverse) k n:=by
 have e1:(e++(a.extract k f).reverse).toList.reverse=(a.toList.drop k).take (f-k)++e.toList.reverse:=by
  simp[List.extract_eq_drop_take]
 have e2:a.toList.take f=a.toList.take k++(a.toList.drop k).take (f-k):=by
  rw[← YM k (a.toList.take f),List.take_take,List.drop_take,Yi v]
 have l:(a.toList.take f).Pairwise (le r):=(i4 q).take;rw[e2,MS]at l;have mem:∀x,x∈(e++(a.extract k f).reverse).toList->x∈e.toList\/x∈(a.toList.drop k).take (f-k):=λx d=>by
  have:=XT.mpr d;rw[e1]at this;rcases Zd.mp this with h | h
  ·exact .inr h
  ·exact .inl (XT.mp h)
 refine⟨?_,?_,?_,?_⟩
 ·rw[e1];have:=m.pm;rw[e2]at this;refine List.Perm.trans ?_ this;rw[Zb];refine List.Perm.append_left _ ?_;rw[← Zb,← Zb];exact List.Perm.append_right _ Xw
 ·rw[e1,MS];refine⟨l.2.1,m.so,λx d y g=>m.la y (XT.mp g) x ?_⟩;rw[e2];exact ZI _ d
 ·intro x d y g;rcases mem x d with d | d
  ·exact m.la x d y (by rw[e2];exact Ye _ g)
  ·exact l.2.2 y g x d
 ·intro x d y g;rcases mem x d with d | d
  ·exact m.lb x d y g
  ·obtain⟨i,p,B,C,rfl⟩:=lu d;obtain⟨j,o,z,rfl⟩:=zb g;exact u i p B (by lia) j o z
def HI.swap(m:HI r a b d f e):HI r b a d e f:=by
 refine⟨?_,m.so,m.lb,m.la⟩;refine List.Perm.trans ?_ (m.pm.trans Xw);rw[← Zb,← Zb];exact List.Perm.append_right _ Xw
def HI.RN(m:HI r a b d f e)(g:Seg r b 0 b.size)(l:k<=e)(h:∀i (o:i<b.size),k<=i->i<e->∀j (n:j<a.size),j<f->le r a[j] b[i]) :
  HI r a b (d++(b.extract k e).reverse) f k:=(m.swap.Ng g l h).swap
def Bz{a b:Array Pv}(h:i<a.size):b.push a[i]=b++(a.extract i (i+1)).reverse:=by
 apply Array.ext';have:(a.extract i (i+1)).toList=[a[i]]:=by
  have e:i<a.toList.length:=by simpa using h
  simp[List.extract_eq_drop_take,YE e]
 rw[YX,VQ,this,Vu];rfl
def HI.Lo(m:HI r a b f d g)(n:Seg r a 0 a.size)(x:0<d)(h:d-1<a.size)(o:∀j (l:j<b.size),j<g->le r b[j] a[d-1]):HI r a b (f.push a[d-1]) (d-1) g:=by
 rw[Bz h];have e:d-1+1=d:=by lia
 rw[e];refine m.Ng n (by exact Yj _ _) λi q v u j l p=>?_;have:i=d-1:=by lia
 subst this;exact o j l p
def HI.LZ(m:HI r a b e f d)(g:Seg r b 0 b.size)(l:0<d)(h:d-1<b.size)(i:∀j (n:j<a.size),j<f->le r a[j] b[d-1]):HI r a b (e.push b[d-1]) f (d-1):=(m.swap.Lo g l h i).swap
def BW{a:Array Pv}:(a.extract 0 n).toList=a.toList.take n:=by
 rw[Xa,List.extract_eq_drop_take,WT,Nat.sub_zero]
def HI.fin(m:HI r a b d g f)(n:Seg r a 0 a.size)(l:Seg r b 0 b.size)(h:g=0\/f=0):MR r a b (a.extract 0 g++b.extract 0 f++d.reverse):=by
 have e:(a.extract 0 g++b.extract 0 f++d.reverse).toList=a.toList.take g++(b.toList.take f++d.toList.reverse):=by
  rw[YX,YX,BW,BW,Zb,VQ]
 refine⟨by rw[e];exact m.pm,?_⟩;rw[e,← Zb,MS];refine⟨?_,m.so,λx i y j=>?_⟩
 ·rcases h with h | h
  ·subst h;rw[VX,YV];exact(i4 l).take
  ·subst h;rw[VX,ZL];exact(i4 n).take
 ·rcases Zd.mp i with i | i
  ·exact m.la y (XT.mp j) x i
  ·exact m.lb y (XT.mp j) x i
def HI.first(m:HI r a b d i g)(o:Seg r a 0 a.size)(h:g=1)(q:0<b.size)(p:∀j (n:j<a.size),le r b[0] a[j]):MR r a b (b.extract 0 g++a.extract 0 i++d.reverse):=by
 have e:(b.extract 0 g++a.extract 0 i++d.reverse).toList=b.toList.take g++(a.toList.take i++d.toList.reverse):=by
  rw[YX,YX,BW,BW,Zb,VQ]
 have e2:b.toList.take g=[b[0]]:=by
  subst h;have:=vX q;rw[WT]at this;rw[this];rfl
 refine⟨?_,?_⟩
 ·rw[e];exact m.swap.pm.trans Xw
 rw[e,← Zb,MS];refine⟨?_,m.so,λx f y l=>?_⟩
 ·rw[MS];refine⟨by rw[e2];exact Vo _ _,(i4 o).take,λx f y l=>?_⟩;rw[e2]at f;obtain⟨j,n,_,rfl⟩:=zb l;rw[Zc.mp f];exact p j n
 ·rcases Zd.mp f with f | f
  ·exact m.lb y (XT.mp l) x f
  ·exact m.la y (XT.mp l) x f
def MC.Mn(C:Ld prog w A E s κ G r)(M:MC G r a b):∀j (d:j<a.size),le r (b[0]'M.nb) a[j]:=λj d=>M.bA C M.na M.nb M.first j d (ZE _)
def IL(C:Ld prog w A E s κ G r)(hk:kindOf H=κ)(M:MC G r a b)(h:∀res l,iZ H l->MR r a b res->Q res l) :
  wpS (KF prog w) A E s (By a b) Q H:=by
 have hna:=M.na;have hnb:=M.nb;change wpS (KF prog w) A E s (_>>=_) Q H;have Z:a.size-1<a.size:=by omega
 refine ZQ (ir ?_);have m0:HI r a b #[] a.size b.size:=⟨by simp[Yu],by simp,by simp,by simp⟩
 have m1:=m0.Lo M.sa hna Z λj g _=>M.last j g;have Rc:iZ H H:=⟨rfl,rfl,rfl,rfl⟩
 refine dJ Z (λe=>?_) λe1=>?_
 ·exact ZU (h _ _ Rc (m1.fin M.sa M.sb (.inl (by simpa using e))))
 refine aZ (λe=>?_) λe2=>?_
 ·exact ZU (h _ _ Rc (m1.first M.sa (by simpa using e) M.nb (M.Mn C)))
 refine ZQ (VZ ?_);refine ZQ (XQ (YJ
  (I:=λx c l=>iZ H l/\c.1=J/\HI r a b c.2.2.2.1 c.2.1 c.2.2.1/\0<c.2.1/\c.2.1<=a.size/\1<c.2.2.1/\c.2.2.1<=b.size/\x<c.2.2.2.1.size)
  (Q:=λc l=>iZ H l/\∃res,c.1=Y res/\MR r a b res) ?step ?fin ?init) ?post)
 case init=>exact⟨Rc,rfl,m1,(by simp at e1;exact Ys e1),by(try dsimp only);exact Yj _ _,(by simp at e2;lia),Zn _,by simp⟩
 case fin =>
  refine yC λP na nb out mg l d=>?_;have m:=d.2.2.1;have z:=d.2.2.2.2.1;have v:=d.2.2.2.2.2.2.1;have q:=d.2.2.2.2.2.2.2;clear d;have:=m.size (by omega) (by omega);lia
 case post =>
  refine yC λP na nb out mg=>?_;rintro l ⟨kp,res,D,p⟩;subst D;exact ZU (h _ _ kp p)
 case step =>
  intro x;refine yC λP na nb out mg l _ hx d=>?_;have kp:=d.1;have D:=d.2.1;have m:=d.2.2.1;have p:=d.2.2.2.1;have z:=d.2.2.2.2.1;have f:=d.2.2.2.2.2.1;have v:=d.2.2.2.2.2.2.1;have q:=d.2.2.2.2.2.2.2;clear d;refine ZQ (XQ (YJ
   (I:=λy c l=>iZ H l/\c.1=J/\HI r a b c.2.2.2.1 c.2.1 c.2.2.1/\0<c.2.1/\c.2.1<=a.size/\1<c.2.2.1/\c.2.2.1<=b.size/\x+y<c.2.2.2.1.size)
   (Q:=λc l=>iZ H l/\((∃res,c.1=Y res/\MR r a b res)\/(c.1=J/\HI r a b c.2.2.2.1 c.2.1 c.2.2.1/\0<c.2.1/\c.2.1<=a.size/\1<c.2.2.1/\c.2.2.1<=b.size/\x+1<c.2.2.2.1.size))) ?step2 ?fin2 ?init2) ?post2)
  case init2=>exact⟨kp,rfl,m,p,z,f,v,by simpa using q⟩
  case fin2 =>
   refine tU λP na nb out ac bc l d=>?_;have kp:=d.1;have D:=d.2.1;have m:=d.2.2.1;have p:=d.2.2.2.1;have z:=d.2.2.2.2.1;have f:=d.2.2.2.2.2.1;have v:=d.2.2.2.2.2.2.1;have q:=d.2.2.2.2.2.2.2;clear d;exact⟨kp,.inr ⟨D,m,p,z,f,v,by(try dsimp only);lia⟩⟩
  case step2 =>
   intro y;refine tU λP na nb out ac bc l _ hy d=>?_;have kp:=d.1;have m:=d.2.2.1;have p:=d.2.2.2.1;have z:=d.2.2.2.2.1;have f:=d.2.2.2.2.2.1;have v:=d.2.2.2.2.2.2.1;have q:=d.2.2.2.2.2.2.2;clear d;have u:na-1<a.size:=by lia
   have B:nb-1<b.size:=by lia
   have gA:=M.ga _ (ZX u);have U:=M.gb _ (ZX B);refine lF B (eA u ?_);refine ZQ (C.run _ _ _ _ (kp.1.trans hk) U gA ?_);dsimp only;cases e:r b[nb-1] a[na-1] with
   |true =>
    rw[Zs L];have N:=m.Lo M.sa p u (λj g hjn=>C.tr (M.gb _ (ZX g)) U gA (M.sb j _ g B (ZE _) (by lia) B) (C.LA U gA e));refine dJ u (λe3=>?_) λe3=>?_
    ·exact ZU ⟨kp,.inl ⟨_,rfl,N.fin M.sa M.sb (.inl (by simpa using e3))⟩⟩
    ·have OG:0<na-1:=by simp at e3;exact Ys e3
     refine aZ (λ_=>?_) λ_=>?_
     ·exact ZU ⟨kp,.inr ⟨rfl,N,OG,by(try dsimp only);exact ZO u,f,v,by simp;lia⟩⟩
     ·exact ZU ⟨kp,rfl,N,OG,by(try dsimp only);exact ZO u,f,v,by simp;lia⟩
   |false =>
    rw[Zo Zh];have N:=m.LZ M.sb (by exact Xr f) B (λj g hjn=>C.tr (M.ga _ (ZX g)) gA U (M.sa j _ g u (ZE _) (by lia) u) e);refine dJ B (λe3=>?_) λe3=>?_
    ·exact ZU ⟨kp,.inl ⟨_,rfl,N.first M.sa (by simpa using e3) M.nb (M.Mn C)⟩⟩
    ·have OG:1<nb-1:=by lia
     refine aZ (λ_=>?_) λ_=>?_
     ·exact ZU ⟨kp,.inr ⟨rfl,N,p,z,OG,by(try dsimp only);exact ZO B,by simp;lia⟩⟩
     ·exact ZU ⟨kp,rfl,N,p,z,OG,by(try dsimp only);exact ZO B,by simp;lia⟩
  case post2 =>
   refine tU λP na nb out ac bc=>?_;rintro l ⟨kp,⟨res,D,p⟩ | ⟨D,m,p,z,f,v,q⟩⟩
   ·subst D;exact ZU ⟨kp,res,rfl,p⟩
   ·subst D;refine ZQ (ir ?_);refine ZQ (XQ (YJ
     (I:=λy c l=>iZ H l/\c.1=J/\HI r a b c.2.2.2.1 c.2.1 c.2.2.1/\0<c.2.1/\c.2.1<=a.size/\1<c.2.2.1/\c.2.2.1<=b.size/\x+1<c.2.2.2.1.size)
     (Q:=λc l=>iZ H l/\((∃res,c.1=Y res/\MR r a b res)\/(c.1=J/\HI r a b c.2.2.2.1 c.2.1 c.2.2.1/\0<c.2.1/\c.2.1<=a.size/\1<c.2.2.1/\c.2.2.1<=b.size/\x+1<c.2.2.2.1.size))) ?step3 ?fin3 ?init3) ?post3)
    case init3=>exact⟨kp,rfl,m,p,z,f,v,q⟩
    case fin3 =>
     refine tU λP na nb out ac bc l d=>?_;have kp:=d.1;have D:=d.2.1;have m:=d.2.2.1;have p:=d.2.2.2.1;have z:=d.2.2.2.2.1;have f:=d.2.2.2.2.2.1;have v:=d.2.2.2.2.2.2.1;have q:=d.2.2.2.2.2.2.2;clear d;exact⟨kp,.inr ⟨D,m,p,z,f,v,q⟩⟩
    case post3 =>
     refine CV λP na nb out mg ac bc=>?_;rintro l ⟨kp,⟨res,D,p⟩ | ⟨D,m,p,z,f,v,q⟩⟩
     ·subst D;exact ZU ⟨kp,res,rfl,p⟩
     ·subst D;exact ZQ (iI kp λLl F=>ZU ⟨F,rfl,m,p,z,f,v,q⟩)
    case step3 =>
     intro y;refine CV λP na nb out mg ac bc l _ hy d=>?_;have kp:=d.1;have m:=d.2.2.1;have p:=d.2.2.2.1;have z:=d.2.2.2.2.1;have f:=d.2.2.2.2.2.1;have v:=d.2.2.2.2.2.2.1;have q:=d.2.2.2.2.2.2.2;clear d;dsimp only at *;revert mg;refine xi (λ_=>rfl) λmg2=>?_;refine(λhF=>ZQ (iI kp λLl F=>hF Ll F)) λLl F=>?_;have hB0:0<nb:=by exact Xr f
     have B:nb-1<b.size:=by lia
     have U:=M.gb _ (ZX B);refine lF B (jN C (F.1.trans hk) U M.ga (by lia) (by lia) (m8 M.sa _ _) λk Nv LV N3=>?_);have hw:=And.intro p z;clear p z;dsimp only;generalize Sa:na-k=a1;revert na out;refine mW (λna out=>HI r a b out na nb/\(0<na/\na<=a.size)/\x+1<out.size/\∀j g,j<na->le r (a[j]'g) b[nb-1]) (λna out d=>?_) (λtail na out m q Nv N3 hw Sa e5=>?_) λna out m q Nv N3 hw Sa e5=>⟨m,hw,q,λj g h=>LV j g (ZE _) (by lia)⟩
     ·refine L2.aq λP_ k_=>?_;obtain⟨m,⟨hA0,z⟩,q,LV⟩:=d;refine k_ ?_;have u:na-1<a.size:=by lia
      have S:=m.LZ M.sb hB0 B LV;refine dJ B (λe4=>?_) λe4=>?_
      ·exact ZU ⟨F,.inl ⟨_,rfl,S.first M.sa (by simpa using e4) M.nb (M.Mn C)⟩⟩
      have N4:1<nb-1/\nb-1<=b.size:=by lia
      have f:x+1<(out.push b[nb-1]).size/\nb-1<=nb-1:=by rw[XF];exact⟨L7 q,Zn _⟩
      refine lF u (jN C (F.1.trans hk) (M.ga _ (ZX u)) M.gb (by lia) (by lia) (m8 M.sb _ _) λk2 N2 Lr LI=>?_);dsimp only;generalize out.push b[nb-1]=o1 at S f ⊢;generalize nb-1=n1 at f S N4 N2 LI ⊢;generalize Tz:n1-k2=b1;revert o1 n1;refine mW (λo n=>HI r a b o na n/\(1<n/\n<=b.size)/\x+1<o.size/\∀j g,j<n->le r (b[j]'g) a[na-1]) (λout nb d=>?_) (λtail o1 n1 f S N4 N2 LI Tz e5=>?_) λo1 n1 f S N4 N2 LI Tz e5=>⟨S,N4,f.1,λj g h=>Lr j g (ZE _) (by lia)⟩
      ·refine L2.aq λP_ k_=>?_;obtain⟨m,⟨f,v⟩,q,Lr⟩:=d;refine k_ ?_;have m5:=m.Lo M.sa hA0 u Lr;refine dJ u (λO=>?_) λO=>?_
       ·exact ZU ⟨F,.inl ⟨_,rfl,m5.fin M.sa M.sb (.inl (by simpa using O))⟩⟩
       have X:0<na-1:=by simp at O;exact Ys O
       have q7:x+1<(out.push a[na-1]).size:=by rw[XF];exact L7 q
       exact aZ (λ_=>ZU ⟨F,.inr ⟨rfl,m5,X,ZO u,f,v,q7⟩⟩) λ_=>ZU ⟨F,rfl,m5,X,ZO u,f,v,q7⟩
      ·have m4:=S.RN M.sb (by omega) (λi hi h1 h2 j g h3=>C.tr (M.ga _ (ZX g)) (M.ga _ (ZX u)) (M.gb _ (ZX hi)) (M.sa j _ g u (ZE _) (by lia) u) (LI i hi (by lia) (by lia)));refine aZ (λe6=>?_) λe6=>?_
       ·exact ZU ⟨F,.inl ⟨_,rfl,m4.first M.sa (by simpa using e6) M.nb (M.Mn C)⟩⟩
       refine aZ (λX=>?_) λX=>?_
       ·exact ZU ⟨F,.inl ⟨_,rfl,m4.fin M.sa M.sb (.inr (by simpa using X))⟩⟩
       ·exact tail _ _ ⟨m4,by simp at e6 X;lia,by rw[X1];exact Zi f.1 (Za _ _),λj g h=>Lr j g (ZE _) (by lia)⟩
     ·have N:=m.Ng (k:=k) M.sa (by omega) (λi hi h1 h2 j g h3=>C.tr (M.gb _ (ZX g)) U (M.ga _ (ZX hi)) (M.sb j _ g B (ZE _) (by lia) B) (N3 i hi (by lia) (by lia)));refine aZ (λO=>?_) λO=>?_
      ·exact ZU ⟨F,.inl ⟨_,rfl,N.fin M.sa M.sb (.inl (by simpa using O))⟩⟩
      ·exact tail _ _ ⟨N,by simp at O;lia,by rw[X1];exact Zi q (Za _ _),λj g h=>LV j g (ZE _) (by lia)⟩
end TS
end
section
open PySem PyProof.Rows
namespace TS
variable{κ:SortKind}
noncomputable def K(a:Array Pv)(i:Nat):Keyed:=(a[i]?).getD (.none,.none)
def BF{a:Array Pv}(h:i<a.size):K a i=a[i]:=by unfold K;rw[getElem?_pos a i h];rfl
def Sg(r:Pv->Pv->Bool)(a:Array Pv)(b d:Nat):Prop:=∀i j,b<=i->i<=j->j<d->le r (K a i) (K a j)
def Ds(r:Pv->Pv->Bool)(a:Array Pv)(b d:Nat):Prop:=∀i j,b<=i->i<=j->j<d->le r (K a j) (K a i)
def mE{a:Array Pv}(b:j<=a.size)(k:Nat):K (mirror a i j ((j-i)/2)) k=if i<=k/\k<j then K a (i+j-1-k) else K a k:=by
 unfold K;rw[getElem?_mirror_all b];split<;>rfl
def D0{b:Array Pv}(e:a<b.size)(f:d<=a)(k:Nat):K (bubble b a d) k=if k=a-d then K b a else if a-d<k/\k<=a then K b (k-1) else K b k:=by
 unfold K;rw[getElem?_bubble e d f];split
 ·rfl
 ·split<;>rfl
structure Lc(lo:Nat)(KG st:SL):Prop where
 kind:kindOf st=kindOf KG
 pend:UF st=UF KG
 fail:failedOf st=failedOf KG
 perm:(arrOf st).Perm (arrOf KG)
 pre:∀j,j<lo->(arrOf st)[j]?=(arrOf KG)[j]?
theorem Lc.refl(b:Nat)(a:SL):Lc b a a:=⟨rfl,rfl,rfl,Array.Perm.refl _,λ_ _=>rfl⟩
theorem Lc.size(L:Lc d b a):(arrOf a).size=(arrOf b).size:=L.perm.size_eq
def Lc.good{G:Pv->Prop}{e:Nat}{b a:SL}(L:Lc e b a)(g:∀x∈arrOf b,G x){i:Nat}(d:i<(arrOf b).size):G (K (arrOf a) i):=by
 rw[BF (by rw[L.size];exact d)];refine g _ ?_;have:(arrOf a)[i]'(by rw[L.size];exact d)∈(arrOf a).toList:=by simp
 have:=(X8.mp L.perm).mem_iff.mp this;simpa using this
def Lc.arr(L:Lc d f a){b:Array Pv}(h:b.Perm (arrOf a))(g:∀j,j<d->b[j]?=(arrOf a)[j]?):Lc d f (setArr a b) :=
 ⟨L.kind,L.pend,L.fail,h.trans L.perm,λj e=>(g j e).trans (L.pre j e)⟩
def Lc.P7(L:Lc b d a){i j:Nat}(g:b<=i)(e:j<=(arrOf d).size):Lc b d (setArr a (mirror (arrOf a) i j ((j-i)/2))) :=
 L.arr (mirror_perm _ _ _ _) λk f=>by rw[getElem?_mirror_all (by rw[L.size];exact e),Zo (by lia)]
def lX(C:Ld prog w A E s κ G r)(p:kindOf b=κ)(g:∀x∈arrOf b,G x)(L:Lc o b a)(e:i<(arrOf b).size)(d:j<(arrOf b).size)(h:Q (Y (r (K (arrOf a) i) (K (arrOf a) j))) a):wpS (KF prog w) A E s (ltAt' i j) Q a:=by
 have l:=L.good g e;have f:=L.good g d;have m:i<(arrOf a).size:=by rw[L.size];exact e
 have n:j<(arrOf a).size:=by rw[L.size];exact d
 rw[ltAt'_eq];refine ZQ (VZ ?_);refine ZQ (eA m (ZQ (eA n ?_)));rw[BF m]at l h;rw[BF n]at f h;exact C.run a _ _ _ (L.kind.trans p) l f h
def Ds.P7(C:Ld prog w A E s κ G r){i:Nat}(D:Ds r f g e)(h:∀k,k<e->G (K f k))(o:g<=i)(l:e<=f.size)(n:∀k,i<=k->k<e->le r (K f k) (K f (e-1))) :
  Ds r (mirror f i e ((e-i)/2)) g e:=λp q j x m=>by
 rw[mE l,mE l];split
 ·split
  ·exact(λu v a b c d=>C.tr (h u b) (h _ (by lia)) (h v d) (n u a b) (D v (e-1) (by exact ZS o c) (by lia) (by lia))) _ _ (by omega) (by omega) (by lia) (by omega)
  ·exact D p _ j (by lia) (by omega)
 ·split
  ·lia
  ·exact D p q j x m
def mi1(h:1<=b):a+b-1-(b-1)=a:=by rw[Vw h,XJ]
def Ds.rev(D:Ds r e b a)(f:a<=e.size):Sg r (mirror e b a ((a-b)/2)) b a:=λp q h d g=>by
 rw[mE f,mE f,Zs ⟨h,by exact ZK d g⟩,Zs ⟨by exact ZS h d,g⟩];exact D _ _ (by omega) (VO d _) (by(clear d f;omega))
def Sg.snoc(C:Ld prog w A E s κ G r)(S:Sg r b a (a+n))(d:∀k,k<=a+n->G (K b k))(m:1<=n)(h:le r (K b (a+n-1)) (K b (a+n))):Sg r b a (a+n+1):=λi j f g l=>by
 by_cases e:j<a+n
 ·exact S i j f g e
 ·have:j=a+n:=by lia
  subst this;by_cases e2:i=a+n
  ·subst e2;exact C.refl (d _ (Zn _))
  ·exact C.tr (d i (by omega)) (d _ (by exact Yj _ _)) (d _ (Zn _)) (S i (a+n-1) f (by lia) (by omega)) h
def Ds.snoc(C:Ld prog w A E s κ G r)(S:Ds r b a (a+n))(d:∀k,k<=a+n->G (K b k))(m:1<=n)(h:le r (K b (a+n)) (K b (a+n-1))):Ds r b a (a+n+1):=λi j f g l=>by
 by_cases e:j<a+n
 ·exact S i j f g e
 ·have:j=a+n:=by lia
  subst this;by_cases e2:i=a+n
  ·subst e2;exact C.refl (d _ (Zn _))
  ·exact C.tr (d _ (Zn _)) (d _ (by exact Yj _ _)) (d i (by omega)) h (S i (a+n-1) f (by lia) (by omega))
def mZ{i j:Nat}(h:Q () (setArr a (mirror (arrOf a) i j ((j-i)/2)))):wpS (KF prog w) A E s (reverseSlice' i j) Q a:=by
 rw[reverseSlice'_eq];exact WD h
def r9{α:Type}{c:Prop}[Decidable c]{x R:StateT SL Sem α}{Q:α->SL->Prop}{P:SL->Prop}(D:∀a,P a->wpS (KF prog w) A E s R Q a)(d:¬c->P b)(e:c->(∀a,P a->wpS (KF prog w) A E s R Q a)->wpS (KF prog w) A E s x Q b):wpS (KF prog w) A E s (if c then x else R) Q b :=
 aZ (λz=>e z D) λz=>D b (d z)
def G4(C:Ld prog w A E s κ G r)(l:kindOf v=κ)(g:∀x∈arrOf v,G x)(h0:1<=n)(hn:a+n<=(arrOf v).size)(h:∀m b,Lc a v b->1<=m->m<=n->Sg r (arrOf b) a (a+m)->Q (Y m) b):wpS (KF prog w) A E s (countRun' a n) Q v:=by
 change wpS (KF prog w) A E s (_>>=_) Q v;have L0:=Lc.refl a v;have n01:1<=1:=Zn _;have s0:Sg r (arrOf v) a (a+1):=λi j y B Z=>by
  rw[(Xo (ZS B (Yv Z)) y),(Xo (Yv Z) (ZS y B))];exact C.refl (L0.good g (Zi (Vp h0) hn))
 refine ZQ (XQ (YJ
  (I:=λx c b=>Lc a v b/\c.1=J/\c.2=x/\1<=x/\Sg r (arrOf b) a (a+x))
  (Q:=λc b=>Lc a v b/\c.1=J/\1<=c.2/\c.2<=n/\Sg r (arrOf b) a (a+c.2)/\(c.2<n->r (K (arrOf b) (a+c.2)) (K (arrOf b) (a+c.2-1))=M)) ?stepA ?finA ?initA) ?postA)
 case initA=>exact⟨L0,rfl,rfl,n01,s0⟩
 case finA =>
  refine all2 λU u=>?_;rintro b ⟨L,F,o,p,d⟩;subst o;refine⟨L,F,by(try dsimp only);omega,by(try dsimp only);lia,d,λz=>?_⟩
  (try dsimp only at z)
  lia
 case stepA =>
  intro x;refine all2 λU u=>?_;rintro b Rj X ⟨L,F,o,p,d⟩;subst o;have O:=Zi (YY X a) hn;refine ZQ (lX C l g L O (ZK (Yj _ _) O) ?_);cases e:r (K (arrOf b) (a+u)) (K (arrOf b) (a+u-1)) with
  |true=>exact ZU ⟨L,rfl,p,by(try dsimp only);exact ZO X,d,λ_=>e⟩
  |false=>exact ZU ⟨L,rfl,rfl,by exact Y1 _ _,Sg.snoc C d (λk l=>L.good g (ZK l O)) p e⟩
 case postA =>
  refine all2 λU u=>?_;rintro b ⟨L,F,o,p,d,H⟩;subst F;refine aZ (λe=>?_) λe=>?_
  ·exact ZU (h u b L o p d)
  have e':u<n:=by simp at e;exact W7 p e
  have O:=Zi (YY e' a) hn;have f:∀k,k<=a+u->G (K (arrOf b) k):=λk l=>L.good g (ZK l O);have S8:=C.LA (f _ (by exact Zn _)) (f _ (by exact Yj _ _)) (H e');have N:=L.size;refine r9 (P:=λKz=>Lc a v Kz/\Ds r (arrOf Kz) a (a+(u+1))) ?D ?two ?one
  case one =>
   intro e3 Dk;refine ZQ (lX C l g L (ZK (Za _ _) O) (ZK (Yj _ _) O) ?_);dsimp only;cases e4:r (K (arrOf b) a) (K (arrOf b) (a+u-1)) with
   |true=>exact ZU (h u b L o p d)
   |false =>
    rw[Zo Zh];refine ZQ (mZ ?_);have L1:=L.P7 (j:=a+u) (by exact Zn _) (by exact ZO O);have d0:Ds r (arrOf b) a (a+u):=λi j y B Z=>C.tr (f j (by exact ZO Z)) (f _ (by exact Yj _ _)) (f i (by lia)) (d j (a+u-1) (by exact ZS y B) (by lia) (by omega))
     (C.tr (f _ (by exact Yj _ _)) (f _ (by exact Za _ _)) (f i (by lia)) e4 (d a i (by exact Zn _) y (by exact ZK B Z)))
    have d2:=Ds.P7 C d0 (λk l=>f k (by exact ZO l)) (by exact Zn _) (by(clear e hn;lia)) (λk y B=>d k _ y (by lia) (by omega));exact Dk _ ⟨L1,(Ds.snoc C d2 (λk l=>L1.good g (ZK l O)) o (by
     rw[mE (by lia),mE (by lia),Zo (by lia),Zs ⟨Xc (Vp (by exact VC o)),W6 (by lia) Nat.one_pos⟩,mi1 (by lia)];exact C.tr (f _ (by exact Zn _)) (f _ (by exact Yj _ _)) (f _ (by exact Za _ _)) S8 (d0 _ _ (by exact Zn _) (Xc (Vp (by exact VC o))) (W6 (by lia) Nat.one_pos))))⟩
  case two =>
   intro e3;have d1:=Ds.snoc C (λi j y B Z=>by
    have e1:i=a:=by lia
    have e2:j=a:=by lia
    subst e1 e2;exact C.refl (f _ (by exact Za _ _))) f o S8
   exact⟨L,d1⟩
  case D =>
   rintro b ⟨L1,d1⟩;clear f N;refine ZQ (ir ?_);refine ZQ (XQ (YJ
    (I:=λx c b=>Lc a v b/\c.1=J/\c.2.1=x/\c.2.2+1<=x/\Ds r (arrOf b) a (a+x)/\(∀k,a+x-(c.2.2+1)<=k->k<a+x->le r (K (arrOf b) k) (K (arrOf b) (a+x-1))))
    (Q:=λc b=>Lc a v b/\c.1=J/\c.2.2+1<=c.2.1/\c.2.1<=n/\Ds r (arrOf b) a (a+c.2.1)/\(∀k,a+c.2.1-(c.2.2+1)<=k->k<a+c.2.1->le r (K (arrOf b) k) (K (arrOf b) (a+c.2.1-1)))) ?stepD ?finD ?initD) ?postD)
   case initD =>
    refine⟨L1,rfl,rfl,by(try dsimp only);exact Y1 _ _,d1,λk y B=>?_⟩
    (try dsimp only at y B)
    have e:k=a+(u+1)-1:=by lia
    subst e;exact C.refl (L1.good g O)
   case finD =>
    refine kg λU q RT=>?_;rintro b ⟨L,F,o,p,d,H⟩;subst o;exact⟨L,F,p,by(try dsimp only);lia,d,H⟩
   case stepD =>
    intro x;refine kg λU q RT=>?_;rintro b Rj X ⟨L,F,o,p,d,H⟩;subst o;have S:=Zi (YY X a) hn;refine ZQ (lX C l g L S (ZK (Yj _ _) S) ?_);dsimp only;have f:∀k,k<=a+q->G (K (arrOf b) k):=λk l=>L.good g (ZK l S);have N:=L.size;cases e:r (K (arrOf b) (a+q)) (K (arrOf b) (a+q-1)) with
    |true =>
     rw[Zs rfl];have S8:=C.LA (f _ (by exact Zn _)) (f _ (by exact Yj _ _)) e;refine aZ (λz=>?_) λz=>?_
     ·refine ZQ (mZ ?_);have L2:=L.P7 (i:=a+q-(RT+1)) (j:=a+q) (by lia) (by exact ZO S);have d2:=Ds.P7 C d (λk l=>f k (by exact ZO l)) (by lia) (by lia) H;refine ZU ⟨L2,rfl,rfl,by(try dsimp only);exact Y1 _ _,Ds.snoc C d2 (λk l=>L2.good g (ZK l S)) (by lia) ?_,λk y B=>?_⟩
      ·rw[mE (by lia),mE (by lia),Zo (by lia),Zs ⟨VO (Y1 1 RT) _,W6 (by lia) Nat.one_pos⟩,mi1 (by lia)];exact C.tr (f _ (by exact Zn _)) (f _ (by exact Yj _ _)) (f _ (by exact Yj _ _)) S8 (d _ _ (by lia) (VO (Y1 1 RT) _) (W6 (by lia) Nat.one_pos))
      ·(try dsimp only at y B)
       have e:k=a+(q+1)-1:=by lia
       subst e;exact C.refl (L2.good g S)
     ·refine ZU ⟨L,rfl,rfl,by(try dsimp only);exact Y1 _ _,Ds.snoc C d f (by(clear z;lia)) S8,λk y B=>?_⟩
      (try dsimp only at y B)
      have e:k=a+(q+1)-1:=by lia
      subst e;exact C.refl (L.good g S)
    |false =>
     rw[Zo Zh];refine ZQ (lX C l g L (ZK (Yj _ _) S) S ?_);cases e2:r (K (arrOf b) (a+q-1)) (K (arrOf b) (a+q)) with
     |true=>exact ZU ⟨L,rfl,p,by(try dsimp only);exact ZO X,d,H⟩
     |false =>
      refine ZU ⟨L,rfl,rfl,by(try dsimp only);exact Ww p,Ds.snoc C d f (by lia) e2,λk y B=>?_⟩
      (try dsimp only at y B)
      have ee:a+(q+1)-1=a+q:=by lia
      rw[ee];by_cases ek:k=a+q
      ·subst ek;exact C.refl (f _ (by exact Zn _))
      ·exact C.tr (f _ (by lia)) (f _ (by exact Yj _ _)) (f _ (by exact Zn _)) (H k (by lia) (by lia)) e
   case postD =>
    refine kg λU q RT=>?_;rintro b ⟨L,F,p,q6,d,H⟩;subst F;have f:∀k,k<a+q->G (K (arrOf b) k):=λk l=>L.good g (by lia);have N:=L.size;refine r9 (P:=λKz=>Lc a v Kz/\Ds r (arrOf Kz) a (a+q)) ?R ?two2 ?one2
    case one2 =>
     intro z Dk2;refine ZQ (mZ ?_);have d2:=Ds.P7 C d f (by lia) (by lia) H;exact Dk2 _ ⟨(L.P7 (i:=a+q-(RT+1)) (j:=a+q) (by lia) (by lia)),d2⟩
    case two2=>exact λ_=>⟨L,d⟩
    case R =>
     clear d H f N L;rintro b ⟨L,d⟩;have N:=L.size;refine ZQ (mZ ?_);refine ZQ (XQ (YJ
      (I:=λx c b=>Lc a v b/\c.1=J/\c.2=x/\1<=x/\Sg r (arrOf b) a (a+x))
      (Q:=λc b=>Lc a v b/\c.1=J/\1<=c.2/\c.2<=n/\Sg r (arrOf b) a (a+c.2)/\(c.2<n->r (K (arrOf b) (a+c.2)) (K (arrOf b) (a+c.2-1))=M)) ?stepA ?finA ?initA) ?postA)
     case initA=>exact⟨(L.P7 (i:=a) (j:=a+q) (by exact Zn _) (by lia)),rfl,rfl,(by lia),(d.rev (by lia))⟩
     case finA =>
      refine all2 λU u=>?_;rintro b ⟨L,F,o,p,d⟩;subst o;refine⟨L,F,by(try dsimp only);omega,by(try dsimp only);lia,d,λz=>?_⟩
      (try dsimp only at z)
      lia
     case stepA =>
      intro x;refine all2 λU u=>?_;rintro b Rj X ⟨L,F,o,p,d⟩;subst o;refine ZQ (lX C l g L (by lia) (by lia) ?_);cases e:r (K (arrOf b) (a+u)) (K (arrOf b) (a+u-1)) with
      |true=>exact ZU ⟨L,rfl,p,by(try dsimp only);exact ZO X,d,λ_=>e⟩
      |false=>exact ZU ⟨L,rfl,rfl,by exact Y1 _ _,Sg.snoc C d (λk l=>L.good g (by lia)) p e⟩
     case postA =>
      refine all2 λU c3=>?_;rintro b ⟨L,F,o,p,d,H⟩;subst F;exact ZU (h c3 b L o p d)
end TS
end
section
open PySem PyProof.Rows
namespace TS
variable{κ:SortKind}
def Bx(h:Q () (setArr a (bubble (arrOf a) i (i-j)))):wpS (KF prog w) A E s (moveDown' i j) Q a:=by
 rw[moveDown'_eq];exact WD h
def Lc.bub(L:Lc b e a)(h:b+d<=i)(f:i<(arrOf e).size):Lc b e (setArr a (bubble (arrOf a) i d)) :=
 L.arr (bubble_perm _ _ _) λk g=>by rw[getElem?_bubble (by rw[L.size];exact f) d (by lia),Zo (by lia),Zo (by lia)]
def Jc(h:¬a ≥ b):a<=(a+b)/2/\(a+b)/2<b:=by omega
def EO(C:Ld prog w A E s κ G r)(hk:kindOf u=κ)(g:∀x∈arrOf u,G x)(h0:1<=ok)(xb:ok<=n)(hn:a+n<=(arrOf u).size)(S:Sg r (arrOf u) a (a+ok))(h:∀b,Lc a u b->Sg r (arrOf b) a (a+n)->Q M b):wpS (KF prog w) A E s (binarySort' a n ok) Q u:=by
 change wpS (KF prog w) A E s (_>>=_) Q u;rw[(Nat.max_eq_left h0)];refine ZQ (XQ (YJ
  (I:=λx c b=>Lc a u b/\c.1=J/\Sg r (arrOf b) a (a+x))
  (Q:=λc b=>Lc a u b/\c.1=J/\Sg r (arrOf b) a (a+n)) ?step ?fin ?init) ?post)
 case init=>exact⟨Lc.refl _ _,rfl,S⟩
 case fin =>
  refine all2 λH q=>?_;rintro b ⟨L,Z,f⟩;rw[(Nat.max_eq_right xb)]at f;exact⟨L,Z,f⟩
 case post =>
  refine all2 λH q=>?_;rintro b ⟨L,Z,f⟩;subst Z;exact ZU (h b L f)
 case step =>
  intro k;refine all2 λH q=>?_;rintro b Nv LV ⟨L,Z,f⟩;have bk:=Zi (YY LV a) hn;have p:∀j,j<=a+k->G (K (arrOf b) j):=λj hj=>L.good g (ZK hj bk);refine ZQ (XQ (YJ
   (I:=λx c N=>b=N/\c.1=J/\c.2.1<=c.2.2/\c.2.2<=k/\c.2.2+x<=k+c.2.1/\(∀i,a<=i->i<a+c.2.1->le r (K (arrOf b) i) (K (arrOf b) (a+k)))/\(∀i,a+c.2.2<=i->i<a+k->le r (K (arrOf b) (a+k)) (K (arrOf b) i)))
   (Q:=λc N=>b=N/\c.1=J/\c.2.1=c.2.2/\c.2.2<=k/\(∀i,a<=i->i<a+c.2.1->le r (K (arrOf b) i) (K (arrOf b) (a+k)))/\(∀i,a+c.2.2<=i->i<a+k->le r (K (arrOf b) (a+k)) (K (arrOf b) i))) ?step2 ?fin2 ?init2) ?post2)
  case init2=>exact⟨rfl,rfl,by(try dsimp only);exact ZE _,by(try dsimp only);exact Zn _,Zn _,λi o d=>absurd d (Nat.not_lt_of_ge o),λi o d=>absurd d (Nat.not_lt_of_ge o)⟩
  case fin2 =>
   refine kg λd1 l rr=>?_;rintro N ⟨e,X,O,v,q6,B,y⟩;exact⟨e,X,Xo O (Nat.le_of_add_le_add_left (by rw[Nat.add_comm];exact q6)),v,B,y⟩
  case step2 =>
   intro x;refine kg λd1 l rr=>?_;rintro N _ hx ⟨e,X,O,v,q6,B,y⟩;subst e;dsimp only at *;refine aZ (λz=>?_) λz=>?_
   ·exact ZU ⟨rfl,rfl,by(try dsimp only);exact Xo O z,v,B,y⟩
   ·obtain⟨m1,m2⟩:=Jc z;generalize (l+rr)/2=m at m1 m2 ⊢;have mk:=YY (Zi m2 v) a;refine ZQ (lX C hk g L bk (XM mk bk) ?_);cases e2:r (K (arrOf b) (a+k)) (K (arrOf b) (a+m)) with
    |true =>
     exact ZU ⟨rfl,rfl,m1,ZS (ZO m2) v,by(try dsimp only);clear f B y p g hn bk mk;omega,B,λi o d=>C.tr (p _ (Zn _)) (p _ (ZO mk)) (p _ (ZO d)) (C.LA (p _ (Zn _)) (p _ (ZO mk)) e2) (f _ i (by exact Za _ _) o d)⟩
    |false =>
     refine ZU ⟨rfl,rfl,m2,v,by(try dsimp only);clear f B y p g hn bk mk;omega,λi o d=>?_,y⟩
     (try dsimp only at d)
     have h3:=Yv d;exact C.tr (p _ (ZS h3 (ZO mk))) (p _ (ZO mk)) (p _ (Zn _)) (f i (a+m) o h3 mk) e2
  case post2 =>
   refine kg λd1 l rr=>?_;rintro N ⟨e,X,O,v,B,y⟩;subst e;dsimp only at *;subst X;refine ZQ (Bx ?_);rw[Nat.add_sub_add_left];subst O;have Mv:a+k<(arrOf b).size:=by rw[L.size];exact bk
   have kl:=ZS (Yj k l) (Y1 k a);refine ZU ⟨L.bub (XY (Yj k l) a) bk,rfl,λi j o d h3=>?_⟩;rw[D0 Mv kl,D0 Mv kl,show a+k-(k-l)=a+l by rw[Vw (Yj k l),Nat.sub_sub_self v]];have U:=Yv h3;by_cases H:i=a+l
   ·rw[Zs H];by_cases q:j=a+l
    ·rw[Zs q];exact C.refl (p _ (by exact Zn _))
    ·have D:=W7 (H ▸ d) (Y0 q);rw[Zo q,Zs ⟨D,U⟩];exact y _ (Xc D) (VY (XB D) U)
   ·rw[Zo H];by_cases P:a+l<i/\i<=a+k
    ·rw[Zs P];have D:=Zi P.1 d;rw[Zo (WX D),Zs ⟨D,U⟩];exact f _ _ (Xc (ZK (Za _ _) P.1)) (Nat.sub_le_sub_right d 1) (VY (XB D) U)
    ·rw[Zo P];by_cases q:j=a+l
     ·rw[Zs q];exact B i o (W7 (q ▸ d) H)
     ·rw[Zo q];by_cases F:a+l<j/\j<=a+k
      ·rw[Zs F];exact f _ _ o (Xc (ZK (ZD λz=>P ⟨z,ZS d F.2⟩) F.1)) (VY (XB F.1) F.2)
      ·rw[Zo F];exact f _ _ o d (Zi (W7 (ZD λz=>F ⟨z,U⟩) q) (XY v a))
theorem xk(b:Nat):∀(l:List Pv)(off:Nat)(arr:Array Pv),b+off+l.length<=arr.size →
  ((l.zipIdx off).foldl (λa x=>a.setIfInBounds (b+x.snd) x.fst) arr).toList=arr.toList.take (b+off)++l++arr.toList.drop (b+off+l.length)
 |[],off,arr,h=>by simp
 |x :: l,off,arr,h=>by
  rw[Ws,Wi];rw[Zf]at h;rw[xk b l (off+1) _ (by rw[Array.size_setIfInBounds];lia)];have d:b+off<arr.toList.length:=by simp;lia
  rw[Array.toList_setIfInBounds,List.set_eq_take_append_cons_drop,Zs d];have e1:(arr.toList.take (b+off)++x :: arr.toList.drop (b+off+1)).take (b+(off+1))=arr.toList.take (b+off)++[x]:=by
   have:(arr.toList.take (b+off)).length=b+off:=by rw[LX];lia
   rw[List.take_append,this,Yu (by rw[this];lia)];have:b+(off+1)-(b+off)=1:=by lia
   rw[this];rfl
  have e2:(arr.toList.take (b+off)++x :: arr.toList.drop (b+off+1)).drop (b+(off+1)+l.length)=arr.toList.drop (b+off+(l.length+1)):=by
   have:(arr.toList.take (b+off)).length=b+off:=by rw[LX];lia
   rw[WM,this,YQ (by rw[this];lia),YV];have:b+(off+1)+l.length-(b+off)=l.length+1:=by lia
   rw[this,List.drop_succ_cons,List.drop_drop];congr 1;lia
  rw[e1,e2];simp
end TS
end
section
open PySem PyProof.Rows
namespace TS
variable{κ:SortKind}
def iP{a:Array Pv}(e:a.toList=P++X++S)(j:Nat)(b:j<X.length):∃h:P.length+j<a.size,a[P.length+j]=X[j]:=by
 have f:a.size=P.length+X.length+S.length:=by
  have:=congrArg List.length e;simp at this;lia
 have h:P.length+j<a.size:=by lia
 refine⟨h,?_⟩;have d:a[P.length+j]?=X[j]?:=by
  rw[← MY,e,Zb,Yn (by exact Za _ _),Y4,Yr b]
 rw[getElem?_pos a _ h,getElem?_pos X _ b]at d;exact Zl d
def xq(C:Ld prog w A E s κ G r){a:Array Pv}(e:a.toList=P++X++S)(g:∀x∈a,G x)(f:X.Pairwise (le r)):Seg r a P.length (P.length+X.length):=by
 intro i j h n q p o;obtain⟨d,rfl⟩:∃d,i=P.length+d:=⟨i-P.length,by lia⟩
 obtain⟨b,rfl⟩:∃b,j=P.length+b:=⟨j-P.length,by lia⟩
 obtain⟨_,e1⟩:=iP e d (by lia);obtain⟨_,e2⟩:=iP e b (by lia);rcases Vj d b with m | l
 ·rw[e1,e2];exact YG.mp f d b (by lia) (by lia) m
 ·have:d=b:=by lia
  subst this;exact C.refl (g _ (ZX h))
def ml8{p k x m:Nat}(h:k<=x):p+k+(x-k+m)=p+x+m:=by rw[XZ,← XZ k,Wp h,XZ]
def ml7{s:Nat}(h:k<=x)(g:m<=y):p+k+(x-k+m)<=p+x+y+s:=by
 rw[ml8 h];exact ZS (XY g _) (Za _ _)
def FM(C:Ld prog w A E s κ G r){X Y S:List Pv}(hk:kindOf d=κ)(g:∀x∈arrOf d,G x)(hf:failedOf d=J)(u:(arrOf d).toList=P++X++(Y++S))(p1:(UF d)[i]?=some (P.length,X.length,pw))(p2:(UF d)[i+1]?=some (P.length+X.length,Y.length,pw2))(F:X.Pairwise (le r))(Z:Y.Pairwise (le r))(nX:0<X.length)(nY:0<Y.length)(h:∀cg M,M.Perm (X++Y)->M.Pairwise (le r)->(arrOf cg).toList=P++M++S->kindOf cg=kindOf d->failedOf cg=J →
   UF cg=((UF d).setIfInBounds i (P.length,X.length+Y.length,pw)).eraseIdxIfInBounds (i+1)->Q true cg):wpS (KF prog w) A E s (mergeAt' i) Q d:=by
 have e2:(arrOf d).toList=(P++X)++Y++S:=by rw[u];simp
 have hs:(arrOf d).size=P.length+X.length+Y.length+S.length:=by
  have:=congrArg List.length u;simp at this;lia
 have gm:∀x,x∈(arrOf d).toList->G x:=λx b=>g x (by simpa using b);have gX:∀x∈X,G x:=λx b=>gm x (by rw[u];simp[b]);have gY:∀x∈Y,G x:=λx b=>gm x (by rw[u];simp[b]);have QT:=xq C e2 g Z;rw[Zx]at QT;obtain⟨hb,eb⟩:=iP e2 0 nY;simp only[Zx,VA]at hb eb;obtain⟨hl,el⟩:=iP u (X.length-1) (W6 nX Nat.one_pos);have gb:=g _ (ZX hb);change wpS (KF prog w) A E s (_>>=_) Q d;refine ZQ (VZ ?_);rw[show (sortPriv% PySem.Builtin.SortState.pending) d=UF d from rfl,p1,p2];refine ZQ (?_);refine(WD ?_);refine ZQ (eA hb ?_);refine ZQ (jN C (by exact hk) gb g (by exact ZO hb) nX (xq C u g F) λk Nv LV N3=>?_);have z1:∀x∈X.take k,le r x (arrOf d)[P.length+X.length]:=λx b=>by
  obtain⟨j,e,rfl⟩:=Yb b;rw[LX]at e;obtain⟨o,e3⟩:=iP u j (Zi e (Xl _ _));rw[XA,← e3];exact LV _ o (by exact Za _ _) (YY (Zi e (WG _ _)) _)
 have z2:∀x∈X.drop k,le r (arrOf d)[P.length+X.length] x:=λx b=>by
  obtain⟨j,e,rfl⟩:=Yb b;rw[Yl]at e;have Ow:=Nat.add_lt_of_lt_sub' e;obtain⟨o,e3⟩:=iP u (k+j) Ow;rw[X0,← e3];exact N3 _ o (XY (Za _ _) _) (YY Ow _)
 have U:∀y∈Y,le r (arrOf d)[P.length+X.length] y:=λy f=>by
  obtain⟨j,e,rfl⟩:=Yb f;obtain⟨o,e3⟩:=iP e2 j e;simp only[Zx]at o e3;rw[← e3];exact QT _ _ hb o (by exact Zn _) (by exact Za _ _) (YY e _)
 refine aZ (λe3=>?_) λe3=>?_
 ·refine ZU (h _ (X++Y) (WQ _) ?_ (by rw[u];simp) L hf L);rw[MS];refine⟨F,Z,λx b y f=>C.tr (gX x b) gb (gY y f) (z1 x (by rw[Yu (by simp at e3;lia)];exact b)) (U y f)⟩
 have v:k<X.length:=by lia
 have Rj:=W6 (XB v) Nat.one_pos;have ei:Unit->P.length+k+(X.length-k)-1=P.length+(X.length-1):=λ_=>by rw[XZ,Wp (ZO v),Vw (XB v)]
 refine ZQ (eA (by rw[ei ()];exact hl) ?_);have elst:∀(q:P.length+k+(X.length-k)-1<(arrOf d).size),(arrOf d)[P.length+k+(X.length-k)-1]=X[X.length-1]:=λq=>by
  simp only[ei ()];exact el
 rw[elst];have gl:G X[X.length-1]:=gX _ (Yp _);refine ZQ (jN C (by exact hk) gl g (by rw[hs];exact Za _ _) (W6 nY Nat.one_pos) QT λm Pn Ro hm3=>?_);have y1:∀x∈Y.take m,le r x X[X.length-1]:=λx b=>by
  obtain⟨j,e,rfl⟩:=Yb b;rw[LX]at e;obtain⟨o,e3⟩:=iP e2 j (Zi e (Xl _ _));simp only[Zx]at o e3;rw[XA,← e3];exact Ro _ o (by exact Za _ _) (YY (Zi e (WG _ _)) _)
 have y2:∀x∈Y.drop m,le r X[X.length-1] x:=λx b=>by
  obtain⟨j,e,rfl⟩:=Yb b;rw[Yl]at e;have Ow:=Nat.add_lt_of_lt_sub' e;obtain⟨o,e3⟩:=iP e2 (m+j) Ow;simp only[Zx]at o e3;rw[X0,← e3];exact hm3 _ o (XY (Za _ _) _) (YY Ow _)
 have xl:∀x∈X,le r x X[X.length-1]:=λx b=>by
  obtain⟨j,e,rfl⟩:=Yb b;rcases Vj j (X.length-1) with Kt | hge
  ·exact YG.mp F j _ e Rj Kt
  ·have:=Xo (Xc e) hge;subst this;exact C.refl gl
 refine aZ (λe4=>?_) λe4=>?_
 ·have N4:m=0:=by simpa using e4
  subst N4;refine ZU (h _ (X++Y) (WQ _) ?_ (by rw[u];simp) L hf L);rw[MS];exact⟨F,Z,λx b y f=>C.tr (gX x b) gl (gY y f) (xl x b) (y2 y f)⟩
 have K7:0<m:=by simp at e4;exact Ys e4
 have ex:((arrOf d).extract (P.length+k) (P.length+X.length)).toList=X.drop k:=by
  rw[Xa,List.extract_eq_drop_take,u,Zb,WM,YQ (by exact Za _ _),YV];have:P.length+k-P.length=k:=by exact Y4 _ _
  rw[this,WM,Nat.sub_eq_zero_of_le (ZO v),WT];rw[XO (by rw[Yl];lia),Yu (by rw[Yl];lia)]
 have D:((arrOf d).extract (P.length+X.length) (P.length+X.length+m)).toList=Y.take m:=by
  rw[Xa,List.extract_eq_drop_take,e2,Zb,WM,YQ (by simp),YV];have:P.length+X.length-(P++X).length=0:=by simp
  rw[this,WT];have:P.length+X.length+m-(P.length+X.length)=m:=by exact Y4 _ _
  rw[this,XO Pn]
 obtain⟨n,O⟩:∃n,n=(arrOf d).extract (P.length+k) (P.length+X.length):=⟨_,rfl⟩
 obtain⟨z,N⟩:∃z,z=(arrOf d).extract (P.length+X.length) (P.length+X.length+m):=⟨_,rfl⟩
 rw[← O]at ex;rw[← N]at D;have mx:∀x,x∈n->x∈X.drop k:=λx b=>by rw[← ex];simpa using b
 have my:∀x,x∈z->x∈Y.take m:=λx b=>by rw[← D];simpa using b
 have szx:n.size=X.length-k:=by have:=congrArg List.length ex;simpa using this
 have szy:z.size=m:=by have:=congrArg List.length D;simp at this;lia
 have gax:=λx b=>gX x (YI (mx x b));have gay:=λx b=>gY x (YS (my x b));have y0:∀(q:0<z.size),z[0]=(arrOf d)[P.length+X.length]:=λq=>by
  rw[eb];have:z[0]?=Y[0]?:=by rw[← MY,D,List.getElem?_take_of_lt K7]
  rw[getElem?_pos z 0 q,getElem?_pos Y 0 nY]at this;exact Zl this
 have xl0:∀(q:n.size-1<n.size),n[n.size-1]=X[X.length-1]:=λq=>by
  have:n[n.size-1]?=X[X.length-1]?:=by
   rw[← MY,ex,List.getElem?_drop];congr 1;rw[szx,← Vw (Vy v),Wp (ZO v)]
  rw[getElem?_pos n _ q,getElem?_pos X _ Rj]at this;exact Zl this
 have M:MC G r n z:=by
  refine⟨gax,gay,Bt C gax (by rw[ex];exact F.drop),Bt C gay (by rw[D];exact Z.take),by rw[szx];exact Vy v,by rw[szy];exact K7,?_,λj e=>?_⟩
  ·rw[y0];exact z2 _ (mx _ (ZX _))
  ·rw[xl0];exact y1 _ (my _ (ZX e))
 have fin:∀(l:SL)(res:Array Pv),iZ (SortSt.mk' (kindOf d) (arrOf d) (((UF d).setIfInBounds i (P.length,X.length+Y.length,pw)).eraseIdxIfInBounds (i+1)) (gallopOf d) (failedOf d)) l->MR r n z res →
   Q (failedOf l).isNone (SortSt.mk' (kindOf l) (res.toList.zipIdx.foldl (λa x=>a.setIfInBounds (P.length+k+x.snd) x.fst) (arrOf l)) (UF l) (gallopOf l) (failedOf l)):=λl res kp B=>by
  obtain⟨k1,k2,k3,k4⟩:=kp;have H:arrOf l=arrOf d:=k2;rw[(k4.trans hf)];have hl:res.toList.length=X.length-k+m:=by
   rw[B.1.length_eq,ex,D];simp;exact Yi Pn
  have mem:∀x,x∈res.toList->x∈X.drop k\/x∈Y.take m:=λx b=>by
   have:=B.1.mem_iff.mp b;rw[ex,D]at this;exact Zd.mp this
  have bk:=xk (P.length+k) res.toList 0 (arrOf l) (by rw[H,hs,hl,VA];exact ml7 (ZO v) Pn);rw[H,VA]at bk;have t1:(arrOf d).toList.take (P.length+k)=P++X.take k:=by
   rw[u,Zb,List.take_append,Yu (by exact Za _ _),Y4,XO (ZO v)]
  have t2:(arrOf d).toList.drop (P.length+k+res.toList.length)=Y.drop m++S:=by
   rw[e2,Zb,WM,YQ (by rw[Zx,hl,ml8 (ZO v)];exact Za _ _),YV];have:P.length+k+res.toList.length-(P++X).length=m:=by rw[Zx,hl,ml8 (ZO v),Y4]
   rw[this,List.drop_append_of_le_length Pn]
  refine h _ (X.take k++res.toList++Y.drop m) ?_ ?_ ?_ k1 L k3
  ·have p:(X.take k++(X.drop k++Y.take m)++Y.drop m)=X++Y:=by
    rw[← Zb,YM,Zb,YM]
   rw[← p];have:=B.1;rw[ex,D]at this;exact(this.append_left _).append_right _
  ·rw[MS,MS];refine⟨⟨F.take,B.2,λx b y f=>?_⟩,Z.drop,λx b y f=>?_⟩
   ·rcases mem y f with f | f
    ·have:=F;rw[← YM k X,MS]at this;exact this.2.2 x b y f
    ·exact C.tr (gX _ (YS b)) gb (gY _ (YS f)) (z1 x b) (U y (YS f))
   ·rcases Zd.mp b with b | b
    ·exact C.tr (gX _ (YS b)) gb (gY _ (YI f)) (z1 x b) (U y (YI f))
    ·rcases mem x b with b | b
     ·exact C.tr (gX _ (YI b)) gl (gY _ (YI f)) (xl x (YI b)) (y2 y f)
     ·have:=Z;rw[← YM m Y,MS]at this;exact this.2.2 x b y f
  ·rw[H,bk,t1,t2];simp
 refine aZ (λ_=>?_) λ_=>?_
 ·refine ZQ (?_);rw[← O,← N];refine IF C (by exact hk) M λres l kp B=>?_;exact ZQ (WD (ZQ (VZ (ZU (fin l res kp B)))))
 ·refine ZQ (?_);rw[← O,← N];refine IL C (by exact hk) M λres l kp B=>?_;exact ZQ (WD (ZQ (VZ (ZU (fin l res kp B)))))
end TS
end
section
open PySem PyProof.Rows
namespace TS
variable{κ:SortKind}
noncomputable def kJ:Nat->List (List Pv)->List (Nat×Nat)
 |_,[]=>[]
 |o,a :: Rs=>(o,a.length) :: kJ (o+a.length) Rs
theorem i8:∀(a b:List (List Pv))(o:Nat),kJ o (a++b)=kJ o a++kJ (o+a.flatten.length) b
 |[],b,o=>by simp[kJ]
 |d :: a,b,o=>by
  show (o,d.length) :: kJ (o+d.length) (a++b)=(o,d.length) :: (kJ (o+d.length) a++_);rw[i8 a b];simp[XZ]
theorem i6:∀(a:List (List Pv))(o:Nat),(kJ o a).length=a.length
 |[],o=>rfl
 |b :: a,o=>by show (kJ _ a).length+1=_;rw[i6 a];rfl
theorem pM{α β:Type}(f:α->β):∀(l:List α)(i:Nat),(l.eraseIdx i).map f=(l.map f).eraseIdx i
 |[],i=>rfl
 |x :: l,0=>rfl
 |x :: l,i+1=>by show f x :: (l.eraseIdx i).map f=f x :: (l.map f).eraseIdx i;rw[pM f l i]
structure RI(κ:SortKind)(r:Pv->Pv->Bool)(a₀:Array Pv)(st:SL)(runs:List (List Pv))(rest:List Pv):Prop where
 kind:kindOf st=κ
 fail:failedOf st=none
 arr:(arrOf st).toList=runs.flatten++rest
 pend:(UF st).toList.map (λp=>(p.1,p.2.1))=kJ 0 runs
 ok:∀R∈runs,0<R.length/\R.Pairwise (le r)
 perm:(arrOf st).Perm a₀
def RI.good{G:Pv->Prop}{r:Pv->Pv->Bool}{d:Array Pv}{b:SL}{a:List (List Pv)}{rest:List Pv}(h:RI κ r d b a rest)(g:∀x∈d,G x):∀x∈arrOf b,G x:=λx e=>by
 have:x∈(arrOf b).toList:=by simpa using e
 exact g x (by simpa using(X8.mp h.perm).mem_iff.mp this)
def RI.P0(h:RI κ r d b a rest):(UF b).size=a.length:=by
 have:=congrArg List.length h.pend;rw[Zw,i6]at this;simpa using this
theorem RI.at{X:List Pv}(h:RI κ r g f (d++X :: post) rest):∃pw,(UF f)[d.length]?=Y (d.flatten.length,X.length,pw):=by
 have e:((UF f).toList.map (λp=>(p.1,p.2.1)))[d.length]?=Y (d.flatten.length,X.length):=by
  rw[h.pend,i8,Yn (by rw[i6];exact Zn _),i6,Vl,YL];rfl
 rw[ZG,MY]at e;obtain⟨⟨a,b,c⟩,e1,e2⟩:=Zt.mp e;injection e2 with e3 e4
 dsimp only at e3 e4;exact⟨c,by rw[e1,e3,e4]⟩
theorem sU{α:Type}:∀{l:List α}{i:Nat},i+1<l.length->∃pre X Y post,l=pre++X :: Y :: post/\pre.length=i
 |[],i,h=>by simp at h
 |[x],i,h=>by simp at h
 |x :: y :: l,0,h=>⟨[],x,y,l,rfl,rfl⟩
 |x :: y :: l,i+1,h=>by
  obtain⟨pre,X,Y,post,e,a⟩:=sU (l:=y :: l) (i:=i) (by simp at h ⊢;omega);exact⟨x :: pre,X,Y,post,by rw[e];rfl,by rw[Zf,a]⟩
def RI.merge(C:Ld prog w A E s κ G r)(h:RI κ r j d a rest)(g:∀x∈j,G x)(Z:i+1<a.length)(U:∀f m,RI κ r j f m rest->m.length+1=a.length->m.flatten.length=a.flatten.length->Q true f):wpS (KF prog w) A E s (mergeAt' i) Q d:=by
 obtain⟨pre,X,Y,post,rfl,rfl⟩:=sU Z;obtain⟨pw,H⟩:=h.at;have h':RI κ r j d ((pre++[X])++Y :: post) rest:=by
  have e:(pre++[X])++Y :: post=pre++X :: Y :: post:=by simp
  rw[e];exact h
 obtain⟨D,F⟩:=h'.at;have o:=h.ok X (by simp);have n:=h.ok Y (by simp);refine FM C (X:=X) (Y:=Y) (S:=post.flatten++rest) h.kind (h.good g) h.fail (by rw[h.arr];simp) H (by
  simpa using F) o.2 n.2 o.1 n.1 λf M q P p O N L=>?_
 have B:=q.length_eq;rw[Zx]at B;refine U f (pre++M :: post) ⟨O.trans h.kind,N,by rw[p];simp,?_,λR b=>?_,?_⟩ (by simp;exact XZ _ _ _) (by simp;lia)
 ·rw[L];have e0:(((UF d).setIfInBounds pre.length (pre.flatten.length,X.length+Y.length,pw)).eraseIdxIfInBounds (pre.length+1)).toList=((UF d).toList.set pre.length (pre.flatten.length,X.length+Y.length,pw)).eraseIdx (pre.length+1):=by
   simp
  rw[e0,pM,WA,h.pend];rw[i8,i8];have e1:∀(u v t:List (Nat×Nat))(x y z:Nat×Nat),u.length=pre.length->((u++x :: y :: t).set pre.length z).eraseIdx (pre.length+1)=u++z :: t:=λu v t x y z l=>by
   rw[List.set_append_right _ _ (by exact Wt l),l,Vl,List.eraseIdx_append_of_length_le (by lia),l];have:pre.length+1-pre.length=1:=by exact Y4 _ _
   rw[this];rfl
  show ((kJ 0 pre++(0+pre.flatten.length,X.length) :: (0+pre.flatten.length+X.length,Y.length) :: kJ (0+pre.flatten.length+X.length+Y.length) post).set _ _).eraseIdx _=kJ 0 pre++(0+pre.flatten.length,M.length) :: kJ (0+pre.flatten.length+M.length) post;rw[e1 _ [] _ _ _ _ (i6 pre 0),B,YL,XZ]
 ·rcases Zd.mp b with b | b
  ·exact h.ok R (by simp[b])
  ·rcases Zg.mp b with rfl | b
   ·exact⟨by lia,P⟩
   ·exact h.ok R (by simp[b])
 ·refine Array.Perm.trans ?_ h.perm;rw[X8,p,h.arr];have e:(pre++X :: Y :: post).flatten++rest=pre.flatten++(X++Y)++(post.flatten++rest):=by simp
  rw[e];exact(q.append_left _).append_right _
end TS
end
section
open PySem PyProof.Rows
namespace TS
variable{κ:SortKind}
def RI.loc(h:RI κ r f d a rest)(L:Lc a.flatten.length d b):RI κ r f b a ((arrOf b).toList.drop a.flatten.length):=by
 refine⟨L.kind.trans h.kind,L.fail.trans h.fail,?_,by rw[L.pend];exact h.pend,h.ok,L.perm.trans h.perm⟩;have e:(arrOf b).toList.take a.flatten.length=a.flatten:=by
  have e2:(arrOf d).toList.take a.flatten.length=a.flatten:=by rw[h.arr,List.take_left]
  refine Eq.trans ?_ e2;apply V4;intro i;rw[List.getElem?_take,List.getElem?_take];split
  ·rename_i g;rw[MY,MY];exact L.pre i g
  ·rfl
 conv=>lhs;rw[← YM a.flatten.length (arrOf b).toList,e]
theorem RI.push(h:RI κ r f e a rest)(j:a.flatten.length=d)(l:0<n)(i:n<=rest.length)(g:(rest.take n).Pairwise (le r)) :
  RI κ r f (setPending e ((UF e).push (d,n,0))) (a++[rest.take n]) (rest.drop n):=by
 refine⟨h.kind,h.fail,?_,?_,λR b=>?_,h.perm⟩
 ·rw[h.arr];simp
 ·rw[Vu,Yy,h.pend,i8,YL,j];show _++[(d,n)]=_++[(d,(rest.take n).length)];rw[LX,Yi i]
 ·rcases Zd.mp b with b | b
  ·exact h.ok R b
  ·rw[Zc.mp b];exact⟨by rw[LX];lia,g⟩
theorem xn{α β:Type}(f:α->β)(g:α->α)(a:∀x,f (g x)=f x):∀(l:List α)(i:Nat),(l.modify i g).map f=l.map f
 |[],i=>by simp
 |x :: l,0=>by simp[a]
 |x :: l,i+1=>by simp[xn f g a l i]
def RI.mod(h:RI κ r e b a rest)(i d:Nat):RI κ r e (setPending b ((UF b).modify i λx=>(x.1,x.2.1,d))) a rest :=
 ⟨h.kind,h.fail,h.arr,by
  rw[Array.toList_modify,xn (λp:Nat×Nat×Nat=>(p.1,p.2.1)) (λx=>(x.1,x.2.1,d)) (λx=>rfl),h.pend],h.ok,h.perm⟩
def Sg.pw(h:Sg r b a (a+n))(f:a+n<=b.size):((b.toList.drop a).take n).Pairwise (le r):=by
 rw[YG];intro i j e d g;rw[LX,Yl]at e d;rw[XA,XA,X0,X0];have:=h (a+i) (a+j) (by exact Za _ _) (by lia) (by lia);rw[BF (by lia),BF (by lia)]at this;simpa using this
theorem RI.size(h:RI κ r b d a rest):a.flatten.length+rest.length=b.size:=by
 have e:=congrArg List.length h.arr;rw[Zx,Yg,h.perm.size_eq]at e;exact e.symm
def Cv{r:Pv->Pv->Bool}{a:List (List Pv)}(h:∀b∈a,0<b.length/\b.Pairwise (le r)):a.length<=a.flatten.length:=by
 induction a with
 |nil=>exact Zn _
 |cons b Rs d =>
  have g:=(h b (Zv ..)).1;have f:=d λx e=>h x (Zu _ e);simp only[Zf,LL,Zx];lia
def Fb{c:Prop}[Decidable c](e:a+1<n)(d:b+1<n):(if c then a else b)+1<n:=by
 split
 ·exact e
 ·exact d
def xN{prog:SB}{w:XAB}{A:SC}{E:Yx}{s:KB}{α:Type}{a b d:Nat->Prop}{c:Nat->Prop}[∀n,Decidable (c n)]{x R:Nat->StateT SL Sem α}{Q:α->SL->Prop}{P:Nat->SL->Prop}{f:SL}(D:∀n e,P n e->wpS (KF prog w) A E s (R n) Q e)(g:∀m,a m->b m->d m->¬c m->P m f)(h:∀m,a m->b m->d m->c m->(∀n e,P n e->wpS (KF prog w) A E s (R n) Q e)->wpS (KF prog w) A E s (x m) Q f):∀m,a m->b m->d m->wpS (KF prog w) A E s (if c m then x m else R m) Q f :=
 λm p q z=>aZ (λy=>h m p q z y D) λy=>D m f (g m p q z y)
def DR(C:Ld prog w A E s κ G r){a₀:Array Pv}(hk:kindOf o=κ)(g:∀x∈a₀,G x)(ha:arrOf o=a₀)(hp:UF o=#[])(hf:failedOf o=J)(h:∀d,(arrOf d).Perm a₀->failedOf d=J->(arrOf d).toList.Pairwise (le r)->Q () d):wpS (KF prog w) A E s sortRuns' Q o:=by
 have R0:RI κ r a₀ o [] a₀.toList:=⟨hk,hf,by rw[ha];rfl,by rw[hp];rfl,λR u=>by simp at u,by rw[ha]⟩
 change wpS (KF prog w) A E s (_>>=_) Q o;dsimp only;refine ZQ (VZ ?_);have esz:((sortPriv% PySem.Builtin.SortState.a) o).size=a₀.size:=by rw[← ha]
 rw[esz];refine ZQ (XQ (YJ
  (I:=λx c d=>c.1=J/\∃runs rest,RI κ r a₀ d runs rest/\runs.flatten.length=c.2/\x<=c.2)
  (Q:=λc d=>c.1=J/\∃runs,RI κ r a₀ d runs []) ?step ?fin ?init) ?post)
 case init=>exact⟨rfl,_,_,R0,rfl,Zn _⟩
 case fin =>
  refine all2 λy lo=>?_;rintro d ⟨i,runs,rest,R,p,hx⟩;have:=R.size;have e:rest=[]:=List.eq_nil_of_length_eq_zero (by lia);subst e;exact⟨i,runs,R⟩
 case step =>
  intro x;refine all2 λy lo=>?_;rintro d _ hx ⟨i,runs,rest,R,p,hxl⟩;have q:=R.size;refine aZ (λe=>?_) λe=>?_
  ·have e:rest=[]:=List.eq_nil_of_length_eq_zero (by lia);subst e;exact ZU ⟨rfl,runs,R⟩
  refine ZQ (G4 C R.kind (R.good g) (by lia) (by rw[R.perm.size_eq];lia) λm Ll L2 m1 m2 S2=>?_);have I2:=R.loc (by rw[p];exact L2);have U:=I2.perm.size_eq;revert m;refine xN (P:=λnn F=>∃f,RI κ r a₀ F runs f/\f.length=a₀.size-lo/\0<nn/\nn<=f.length/\(f.take nn).Pairwise (le r)) ?D ?two ?one
  case one =>
   intro m m1 m2 S2 e2 Dk;refine ZQ (ir ?_);refine ZQ (EO C I2.kind (I2.good g) m1 (by omega) (by lia) S2 λF L3 S3=>?_);refine aZ (λe=>absurd e (by decide)) λ_=>?_;have Z:=I2.loc (by rw[p];exact L3);have S:=Z.perm.size_eq;obtain⟨f,B⟩:∃l,l=(arrOf F).toList.drop runs.flatten.length:=⟨_,rfl⟩
   have U5:f.length=a₀.size-lo:=by rw[B,Yl,Yg,S,p]
   obtain⟨n3,en3⟩:∃n,n=min (a₀.size-lo) ((sortPriv% PySem.Builtin.minRun) a₀.size a₀.size 0):=⟨_,rfl⟩
   rw[← en3]at S3 ⊢;exact Dk n3 F ⟨f,(by rw[B];exact Z),U5,(by lia),(by omega),(by rw[B,p];exact S3.pw (by lia))⟩
  case two =>
   intro m m1 m2 S2 e2;obtain⟨f,B⟩:∃l,l=(arrOf Ll).toList.drop runs.flatten.length:=⟨_,rfl⟩
   have U5:f.length=a₀.size-lo:=by rw[B,Yl,Yg,U,p]
   exact⟨f,(by rw[B];exact I2),U5,(by exact VC m1),(by lia),(by rw[B,p];exact S2.pw (by lia))⟩
  case D =>
   rintro nn F ⟨f,I3,U5,O,N,L⟩;have LI:=p;refine ZQ (VZ ?_);cases hb:(UF F).back? with
   |none =>
    refine ZQ (WD ?_);refine ZU ⟨rfl,_,_,I3.push LI O N L,?_,by(try dsimp only);lia⟩;rw[Yh,Zx,Vi,LX]
    (try dsimp only)
    lia
   |some v =>
    obtain⟨s1,n1,pw1⟩:=v;refine ZQ (XQ (YJ
     (I:=λx c d=>c.1=J/\∃j,RI κ r a₀ d j f/\j.flatten.length=lo)
     (Q:=λc d=>c.1=J/\∃j,RI κ r a₀ d j f/\j.flatten.length=lo) ?stepM ?finM ?initM) ?postM)
    case initM=>exact⟨rfl,_,I3,LI⟩
    case finM=>exact λc d h=>h
    case stepM =>
     intro x;refine all2 λy c2=>?_;rintro d _ hx ⟨i,j,R,u⟩;refine ZQ (VZ ?_);split
     ·rename_i a b c hh;refine aZ (λ_=>?_) λ_=>?_
      ·exact ZU ⟨rfl,j,R,u⟩
      ·have hp1:(UF d).size > 1:=by
        by_cases z:(UF d).size > 1
        ·exact z
        ·rw[Zo z]at hh;cases hh
       have Tp:=R.P0;refine ZQ (R.merge C g (show (UF d).size-2+1<j.length by omega) λst4 Oc R4 l4 f4=>?_);refine aZ (λe=>absurd e (by decide)) λ_=>?_;exact ZU ⟨rfl,Oc,R4,by rw[f4,u]⟩
     ·exact ZU ⟨rfl,j,R,u⟩
    case postM =>
     refine all2 λy c2=>?_;rintro d ⟨i,j,R,u⟩;subst i;refine ZQ (WD ?_);refine ZQ (WD ?_);refine ZU ⟨rfl,_,_,(R.mod _ _).push u O N L,?_,by(try dsimp only);lia⟩;rw[Yh,Zx,Vi,LX]
     (try dsimp only)
     lia
 case post =>
  refine all2 λy lo=>?_;rintro d ⟨i,runs,R⟩;subst i;have rl:=Cv R.ok;have q:=R.size;refine ZQ (XQ (YJ
   (I:=λx c d=>c.1=J/\∃runs,RI κ r a₀ d runs []/\(runs.length<=1\/runs.length+x<=a₀.size))
   (Q:=λc d=>c.1=J/\∃runs,RI κ r a₀ d runs []/\runs.length<=1) ?step2 ?fin2 ?init2) ?post2)
  case init2=>exact⟨rfl,runs,R,.inr (by lia)⟩
  case fin2 =>
   refine all2 λy c2=>?_;rintro d ⟨i,runs,R,H⟩;exact⟨i,runs,R,by(clear q;lia)⟩
  case step2 =>
   intro x;refine all2 λy c2=>?_;rintro d _ hx ⟨i,runs,R,H⟩;have Tp:=R.P0;refine ZQ (VZ ?_);refine aZ (λe=>?_) λe=>?_
   ·exact ZU ⟨rfl,runs,R,by rw[← Tp];exact e⟩
   ·have e':1<runs.length:=by rw[← Tp];exact Wu e
    refine ZQ (R.merge C g ?_ λst4 Oc R4 l4 f4=>?_)
    ·exact Fb (show (UF d).size-2-1+1<_ by omega) (by lia)
    ·refine aZ (λe=>absurd e (by decide)) λ_=>?_;exact ZU ⟨rfl,Oc,R4,by(clear e q;lia)⟩
  case post2 =>
   refine all2 λy c2=>?_;rintro d ⟨i,runs,R,H⟩;subst i;refine ZU (h d R.perm R.fail ?_);rw[R.arr,ZL]
   match runs,H,R.ok with
   |[],_,_=>exact List.Pairwise.nil
   |[X],_,ok =>
    rw[Vi];exact(ok X (Zv ..)).2
   |X :: Yq0 :: t,H,_=>simp at H
end TS
end
section
open PySem PyProof.Rows
namespace TS
noncomputable def jH(h:XAA)(a:On)(b:Vq):Heap:=((h.update a (Obj.mapSeq λ_=>#[])).push (seqObj "tuple" b.toArray 0)).push (seqObj "list" #[] 0)
def l7{a:Array Pv}(f:a.Perm (pairsOf e)):(a.map (·.2)).toList.Perm e/\(a.map (·.2)).toList.map (λv=>(v,v))=a.toList:=by
 have d:=X8.mp f;rw[pairsOf_toList]at d;constructor
 ·rw[Array.toList_map];refine(d.map _).trans ?_;rw[show (λx:Pv=>x.2)=Prod.snd from rfl,List.map_snd_zip (Zn _)]
 ·rw[Array.toList_map,La]
  conv=>rhs;rw[← VU a.toList]
  apply Y8;intro p b;have:=mem_zip_self (d.mem_iff.mp b);exact Prod.ext this.1.symm L
def ED{h:XAA}{vs:Vq}(b:a<h.objs.size)(g:(h.update a (Obj.mapSeq λ_=>#[])).get? a=Y o):(jH h a vs).get? a=Y o:=by
 exact(XR _ _ _ (by rw[size_push',VR];exact Ze (L7 b))).trans ((XR _ _ _ (by rw[VR];exact Ze b)).trans g)
def Ab{s:KB}{vs:Vq}{l:SortKind}(i:s.heap.get? a=Y (seqObj "list" vs.toArray n))(D:Ld prog w A E { s with heap:=jH s.heap a vs } l G r)(C:∀v∈vs,G (v,v))(f:vs.length<=KM)(O:2<=vs.length->∀Q:SortKind->KB->Prop,Q l { s with heap:=jH s.heap a vs }->Pi (KF prog w) A (keyKind' vs.toArray) Q E { s with heap:=jH s.heap a vs })(h:∀out:Vq,out.Perm vs->(out.map λv=>(v,v)).Pairwise (le r)->P (.done (.ret .none)) { s with heap:=sortedHeap s.heap a vs out.toArray }) :
  Pi (KF prog w) A (Builtin.«list.sort» ⟨[.ref a],[]⟩) P E s:=by
 have Pq:vs.toArray.size=vs.length:=rfl;obtain⟨U,o⟩:∃k,(s.heap.update a (Obj.mapSeq λ_=>#[])).get? a=Y (seqObj "list" #[] k):=⟨_,get?_update_seq i _⟩
 have at2:=ED (vs:=vs) (ZV i) o;have done:∀b:Array Pv,b.Perm (pairsOf vs)->b.toList.Pairwise (le r)->P (.done (.ret .none)) { s with heap:=sortedHeap s.heap a vs (b.map (·.2)) }:=λb d j=>by
  obtain⟨y,u⟩:=l7 d;have:=h _ y (by rw[u];exact j)
  rwa [Array.toArray_toList]at this
 have room:∀b:Array Pv,b.Perm (pairsOf vs)->(b.map (·.2)).size<=KM+1:=λb d=>by
  rw[Array.size_map,d.size_eq,pairsOf_size];exact Vx f
 rw[list_sort_plain];refine Zy (listItems_at i L (Zy (listUpdate_at i L (Zy (seqEpoch_at o L (Zy (wpAny_newTuple (Zy (wpAny_newList (YK ?_))))))))));refine(?_);by_cases two:2<=vs.length
 ·have no:¬(vs.toArray.size<2):=by lia
  rw[Zo no,Zo no];refine Zy (O two _ (Zy (Xy (DR D (a₀:=pairsOf vs)
   (Q:=λ_ g=>(arrOf g).Perm (pairsOf vs)/\failedOf g=J/\(arrOf g).toList.Pairwise (le r)) L (λx B=>by
   have m:x∈(pairsOf vs).toList:=by simpa using B
   rw[pairsOf_toList]at m;obtain⟨e1,e2⟩:=mem_zip_self m;have:=C x.1 e2;obtain⟨p,q⟩:=x;dsimp only at e1 this;rw[← e1];exact this) L L L λg N H F=>⟨N,H,F⟩) ?_ λ_ _ e=>e)))
  rintro⟨⟨⟩,g⟩ S ⟨rfl,d,j,z⟩;refine Zy (seqEpoch_at at2 L (Zy (listUpdate_at at2 L ?_ (hsz2:=room _ d))));rw[j];simp only[bne_self_eq_false,Y3,↓reduceIte];exact Zm (done _ d z)
 ·have no:vs.toArray.size<2:=by lia
  rw[Zs no,Zs no];refine Zy (Zm (Zy ?_));rw[StateT.run_pure];refine Zm (Zy (seqEpoch_at at2 L (Zy (listUpdate_at at2 L ?_ (hsz2:=room _ (Array.Perm.refl _))))));simp only[bne_self_eq_false,Y3,↓reduceIte];refine Zm (done (vs.toArray.zip vs.toArray) (Array.Perm.refl _) ?_)
  match vs,two with
  |[],_=>simp
  |[_],_=>simp
  |_ :: _ :: _,q=>simp at q
def nl(h:b<n)(k:Nat):b≠n+k:=Ze (Zi h (Za _ _))
structure NB(prog:SB)(w:XAB)(Q:Yx)(vs:Vq)(s1:KB) where
 G:Pv->Prop
 r:Pv->Pv->Bool
 kd:SortKind
 hC:∀(A:SC)(E:Yx)(h:XAA),(∀b o,s1.heap.get? b=some o->h.get? b=some o)->Ld prog w A E { s1 with heap:=h } kd G r
 hG:∀v∈vs,G (v,v)
 hlen:vs.length<=KM
 UR:2<=vs.length->∀(A:SC)(E:Yx)(h:XAA),(∀b o,s1.heap.get? b=some o->h.get? b=some o)->∀Q:SortKind->KB->Prop,Q kd { s1 with heap:=h }->Pi (KF prog w) A (keyKind' vs.toArray) Q E { s1 with heap:=h }
 h:∀(out:Vq)(h':XAA)(e:Nat),out.Perm vs->(out.map λv=>(v,v)).Pairwise (le r)->(∀b o,s1.heap.get? b=some o->h'.get? b=some o)->h'.get? s1.heap.objs.size=some (seqObj "list" out.toArray e)->Q (.ref s1.heap.objs.size) { s1 with heap:=h' }
def vn{A:SC}(m:∀(g:SC)(n:Yx),g.handled=A.handled->Pi (KF prog w) g (collect x) (λa s1=>Nonempty (NB prog w Q a s1)) n s) :
  Pi (KF prog w) A (call (.builtin "sorted") [x]) Q E s:=by
 refine Calls.call_function_entry kind_sorted plain_sorted entry_sorted (args_sorted1 _) (?_);refine Zy (Zm (Zy (Xy (m A.in1 (λ_ _=>False) L) ?_ λ_ _ e=>e.elim)));rintro a s1 ⟨⟨G,r,kd,hC,hG,hlen,UR,h⟩⟩;refine Zy (wpAny_newList ?_ (by exact hlen));have d:(s1.heap.push (seqObj "list" a.toArray 0)).get? s1.heap.objs.size=Y (seqObj "list" a.toArray 0):=ZM _ L;have old:∀b o,s1.heap.get? b=Y o->(jH (s1.heap.push (seqObj "list" a.toArray 0)) s1.heap.objs.size a).get? b=Y o:=λb o e=>by
  have hb:=ZV e;unfold jH;rw[XR _ _ _ (by rw[size_push',VR,size_push'];exact nl hb 2),XR _ _ _ (by rw[VR,size_push'];exact nl hb 1),Heap.get?_update_ne _ _ _ _ (Ze hb),XR _ _ _ (Ze hb)];exact e
 refine Zy (YK (Wg slot_list_sort ⟨_,d,rfl⟩ entry_list_sort (Ab d (hC _ _ _ old) hG hlen (λl=>UR l _ _ _ old) λout j i=>⟨_,rfl,?_⟩) (args_list_sort _)));obtain⟨e,he⟩:=sortedHeap_at d;exact Zm ⟨_,rfl,h out _ e j i (λb o f=>by
  have hb:=ZV f;rw[sortedHeap_old (Ze hb) (by rw[size_push'];exact L7 hb),XR _ _ _ (Ze hb)];exact f) he⟩
end TS
end
section
namespace L2
open PySem PySem.Spec PyProof.Rows TS
section
theorem sD:∀{a:Vq},(∀v∈a,∃x t,v=Value.str x t)->aW ((a.map strOf).map V.str) a
 |[],_=>.nil
 |u :: a,h=>by
  obtain⟨x,t,rfl⟩:=h u (Zv ..);exact .cons ⟨t,rfl⟩ (sD λv b=>h v (Zu _ b))
end
end L2
end
section
namespace VS
mutual
theorem fC:∀(n:Nat)(t:T),KC n t=M->eqT t t=M
 |n,.non,_=>by simp
 |n,.bl _,_=>by simp
 |n,.int _,_=>by simp
 |n,.str _,_=>by simp
 |n+1,.tup l,h=>by
  exact lI n l (Lw.mp h)
 |n+1,.lst l,h=>by
  exact lI n l (Lw.mp h)
 |0,.tup _,h=>nomatch h
 |0,.lst _,h=>nomatch h
 |0,.scr _,h=>nomatch h
 |_+1,.scr _,h=>nomatch h
 |0,.dct _ _,h=>nomatch h
 |_+1,.dct _ _,h=>nomatch h
 |0,.obj _ _,h=>nomatch h
 |_+1,.obj _ _,h=>nomatch h
theorem lI:∀(n:Nat)(l:Up),(∀t∈l,KC n t=M)->om l l=M
 |_,[],_=>rfl
 |n,t :: r,h=>by
  exact ZP.mpr ⟨fC n t (h t Zv),lI n r λu a=>h u (Zu _ a)⟩
end
def GH{α:Type}(l:List α)(k:Nat):cut l J (Y (k:Int))=l.take k:=by
 have h:¬((k:Int)<0):=by lia
 by_cases a:k<=l.length
 ·simp[cut,clip,h,Yi a]
 ·rw[Yu (by lia)];simp[cut,clip,h,Wv (XU a)]
def jB{m:Md}(e:a U=Y (m,.lst l)):fW a U=Y (m,l):=by
 show (a U).bind BN=_;rw[e];rfl
def dU{tg:Tg}{it:Mr}{body:Sx}{U:Env}{m:Md}{l:Up}(e:it U=Y (m,l))(h:okF m=M):gu tg it body U=forL tg body l U:=by
 unfold gu;rw[e];exact Zs h
def aP{g:Fn}{as:J8}{U:Env}{t:T}(h:as U=Y a)(b:g (trees a)=Y (.fr,t)):aT g as U=Y (.fr,t):=by
 simp only[aT,h,Zr,b]
def aC{e:Ex}{U:Env}{m:Md}{t:T}(h:e U=Y (m,t))(a:m ≠ .bo)(b:i<U.length):aK i e U=Y (.nx (U.set i (Y (.pu t)))):=by
 simp only[aK,h,Zr];cases m with
 |bo=>exact absurd L a
 |_=>simp[b]
def B5(h:e U=Y (.fr,t))(a:D2 t=M)(b:i<U.length):k8 i e U=Y (.nx (U.set i (Y (.ow t)))):=by
 simp only[k8,h,Zr,cellOf,a,if_true,Zs b]
def gD{a b:Sx}{U U':Env}(h:a U=Y (.nx U')):ar a b U=b U':=by simp only[ar,h,Zr]
def zD{b:Up}(U:Env){U':Env}(f:b.length=d)(he:b.map (λt=>Y (Cell.pu t))++List.replicate (e-d) J=U)(h:a U=Y (.rt v U')):fn d e a b=Y v:=by
 unfold fn;rw[Zs f,he,h];rfl
end VS
end
section
namespace VS
open PySem PySem.Spec PyProof.Rows L2
def Ic{a b c:Tx}(h:a<b)(d:¬c<b):a<c:=by
 by_cases e:a<c
 ·exact e
 ·exact absurd (List.lt_of_le_of_lt (VW.mp e) h) d
theorem jY(x:Tx):∀l:List Tx,(qc x l).Perm (x :: l)
 |[]=>WQ _
 |y :: r=>by
  unfold qc;split
  ·exact((jY x r).cons y).trans (List.Perm.swap _ _ _)
  ·exact WQ _
theorem jc:∀l:List Tx,(fM l).Perm l
 |[]=>WQ _
 |x :: l=>(jY x _).trans ((jc l).cons x)
theorem uC(x:Tx):∀{l:List Tx},l.Pairwise (λa b=>¬b<a)->(qc x l).Pairwise (λa b=>¬b<a)
 |[],_=>Vo _ _
 |y :: r,h=>by
  unfold qc;rw[oN];obtain⟨e,g⟩:=Xk.mp h;split
  ·rename_i c;refine Xk.mpr ⟨λz d=>?_,uC x g⟩;rcases Zg.mp ((jY x r).mem_iff.mp d) with rfl | d
   ·exact λz=>List.lt_irrefl _ (List.lt_trans (by simpa using c) z)
   ·exact e z d
  ·rename_i c;have f:¬y<x:=by simpa using c
   refine Xk.mpr ⟨λz d=>?_,h⟩;rcases Zg.mp d with rfl | d
   ·exact f
   ·exact λw=>e z d (Ic w f)
theorem pK:∀l:List Tx,(fM l).Pairwise (λa b=>¬b<a)
 |[]=>List.Pairwise.nil
 |x :: l=>uC x (pK l)
def pX{d:List Tx}(h:d.Perm l)(e:d.Pairwise (λa b=>¬b<a)):d=fM l :=
 List.Perm.eq_of_pairwise (λa b _ _ g f=>List.le_antisymm (VW.mp g) (VW.mp f)) e (pK l) (h.trans (jc l).symm)
def Ax(s:Tx):(sx s).cps.toList=s:=rfl
def yH{f:List Tx}{d:List Str}(h:d.Perm (f.map sx))(i:d.Pairwise (λa b=>¬b.cps.toList<a.cps.toList)):d=(fM f).map sx:=by
 have e:d=(d.map λx=>x.cps.toList).map sx:=by
  rw[La]
  conv=>lhs;rw[← VU d]
  apply Y8;intro x g;obtain⟨s,_,rfl⟩:=ZC.mp (h.mem_iff.mp g);show sx s=sx (sx s).cps.toList;rw[Ax]
 have e2:(d.map λx=>x.cps.toList)=fM f:=by
  refine pX ?_ ?_
  ·have:=h.map λx:Str=>x.cps.toList;rw[La]at this;have e3:((λx:Str=>x.cps.toList) ∘ sx)=id:=by
    funext s;exact Ax s
   rw[e3,VU]at this;exact this
  ·rw[Xq];exact i
 rw[e,e2]
def txB(s:Tx):Bool:=decide (s.length<=gL)&&s.all (λc=>decide (c<1114112))
def Fg(h:txB s=M):jW s:=by
 unfold txB at h;simp at h;exact h
section
theorem vy{H:Hp}:∀{ss:List Tx},(∀s∈ss,jW s)->RpL G H (ss.map λs=>V.str (sx s)) (ss.map T.str) (ss.map λ_=>[])
 |[],_=>.nil
 |s :: ss,h=>.cons (.str s (h s (Zv ..))) (vy λx a=>h x (Zu _ a))
theorem lh{α β:Type}:∀(l:List α),(l.map λ_=>([]:List β)).flatten=[]
 |[]=>rfl
 |_ :: l=>by simp
def AW{G:Gx}{Z:JS}{U:VS.Env}{i H:Hp}{d:List Tx}{Q:VK}(k:∀v g F,bg H g->Rp G g v (.lst ((fM d).map T.str)) F->Fp Z U i .fr F->Q v g)(m:bg i H)(j:∀s∈d,jW s) :
  ∀(l:On)(f:List Str),H l=J->f.Perm (d.map sx)->f.Pairwise (λa b=>¬b.cps.toList<a.cps.toList)->Q (.ref l) (upd H l (.lst (f.map V.str))):=λq f h o hw=>by
 rw[yH o hw];have r:Rp G (upd H q (.lst (((fM d).map sx).map V.str))) (.ref q) (.lst ((fM d).map T.str)) (q :: ((fM d).map λ_=>[]).flatten):=.lst (by rw[aH,La];rfl) (vy (G:=G) (H:=upd H q (.lst (((fM d).map sx).map V.str))) λs n=>j s ((jc d).mem_iff.mp n));rw[lh]at r;exact k _ _ _ (cV h) r (Fp.new (m.free h) (by simp) Fp.nil)
theorem keys_str:∀{a:List Key}{b:List Tx},strs? (a.map aR)=Y b->a=(b.map sx).map Sum.inr
 |[],_,e=>by cases e;rfl
 |.inl i :: a,_,e=>by cases e
 |.inr x :: a,b,e=>by
  obtain⟨d,e1,e2⟩:=Zt.mp (e);subst e2;rw[keys_str e1];simp[sx]
def qi:bootBuiltins ("sorted" : Str)=Y (.builtin "sorted"):=by decide +kernel
end
end VS
end
section
namespace ST
open PySem PySem.Spec PyProof.Rows
noncomputable def byT(w:XAB):Bool:=w.params.followText "set-order"
abbrev bare(w:XAB):Obj:={ cls:=.type "set",dict:=J,data:=.set #[] 0 (.fresh 0 0 (!byT w)) }
def CB{s:KB}(v:PP){Q:Yx}(h:Q (.ref s.heap.objs.size) { s with heap:=s.heap.push (bare w) }) :
  codeAny (KF prog w) A (.call (.builtin "set.__new__") ⟨[.type "set",v],[]⟩) (wants Q E) s:=by
 refine codeAny_of_tree (Zy (wpAny_of_eq (F.newCall_set_1 v) (Zm ⟨X9 F.plain_set_new _,Xu F.entry_set_new ?_⟩)));rw[YD F.plain_set_new];have own:=sub_set_self;cases s;unfold Builtin.«set.__new__» Builtin.Frozenset.newClass
 wp_walk
 refine wpAny_askSetting (Zm ?_);exact Zy (wpAny_alloc (Zm (Zm h)))
end ST
end
section
namespace ST
open PySem PySem.Spec PyProof.Rows
def HV{A:SC}{s:KB}(f:A.handled=J)(h:∀(a:XAA)(x:On),(∀b o,s.heap.get? b=Y o->a.get? b=Y o)->(∃o,a.get? x=Y o/\o.cls=.type "StopIteration")->d (.ref x) { s with heap:=a }) :
  Pi (KF prog w) A (newExc (.type "StopIteration") [] >>= λe=>raiseNew e) Q d s:=by
 refine Zy (Zy (WH (Zy (wpAny_of_eq (by first | rfl | (rfl)) (WH ?_ (by size_fits)))) (by size_fits)));refine Zy (wpAny_handled ?_);rw[f];exact Zy (Zm (wpAny_throw (h _ _ (λb o e=>Zj _ (Zj _ e)) ⟨_,ZM _ L,rfl⟩)))
end ST
end
section
namespace VS
open PySem PySem.Spec PyProof.Rows L2
section
def Gm:bootBuiltins ("set" : Str)=Y (.type "set"):=by decide +kernel
end
inductive Ly(G:Gx)(H:Hp):List Ky->V->V->Prop
 |nil (v:V):Ly G H [] v v
 |fld {c k:Nat} {a dx:On} {fs:List (Str×V)} {u w:V} {ks:List Ky}:H a=some (.ins (G.ct (c+1)).1 dx fs)->fs.lookup ((G.ct (c+1)).2 k)=some u->Ly G H ks u w->Ly G H (.fld k :: ks) (.ref a) w
 |ix {a:On} {vs:List V} {i:Int} {j:Nat} {u w:V} {ks:List Ky}:H a=some (.lst vs)->Lf vs.length i=some j->vs[j]?=some u->Ly G H ks u w->Ly G H (.at (.int i) :: ks) (.ref a) w
 |key {a:On} {cp:List (Key×V)} {k:Key} {u w:V} {ks:List Ky}:H a=some (.dK cp)->eY cp k=some u->Ly G H ks u w->Ly G H (.at (aR k) :: ks) (.ref a) w
 |un {v w:V} {ks:List Ky}:Ly G H ks v w->Ly G H (.un :: ks) v w
section
def xr{f:X5}{i j:Nat}{F h:W5}(d:f.flatten.Nodup)(b:f[i]?=Y F)(e:f[j]?=Y h)(n:i≠j){a:On}(g:a∈F):a∉h:=by
 intro hb
 induction f generalizing i j with
 |nil=>simp at b
 |cons G m l =>
  rw[LL,ZA]at d;cases i with
  |zero =>
   simp at b;subst b;cases j with
   |zero=>exact n L
   |succ j=>exact d.2.2 a g a (di (by simpa using e) hb) L
  |succ i =>
   cases j with
   |zero =>
    simp at e;subst e;exact d.2.2 a hb a (di (by simpa using b) g) L
   |succ j=>exact l d.2.1 (by simpa using b) (by simpa using e) (by lia)
def cK{d:X5}(h:a∈(d.set j g).flatten):a∈g\/∃i F,i≠j/\d[i]?=Y F/\a∈F:=by
 obtain⟨i,F,b,f⟩:=gH h;by_cases e:i=j
 ·subst e;rw[List.getElem?_set_self' ]at b;cases q:d[i]? with
  |none=>rw[q]at b;cases b
  |some _=>rw[q]at b;cases b;exact .inl f
 ·rw[Xs (Y0 e)]at b;exact .inr ⟨i,F,e,b,f⟩
theorem eK:∀{p:X5}{j:Nat}{f:W5},p.flatten.Nodup->f.Nodup->(∀i F,i≠j->p[i]?=Y F->∀a∈F,a∉f)->(p.set j f).flatten.Nodup
 |[],_,_,h,_,_=>by simpa using h
 |G :: r,0,f,h,o,d=>by
  rw[LL,ZA]at h;rw[List.set_cons_zero,LL,ZA];refine⟨o,h.2.1,λa g b hb e=>?_⟩;subst e;obtain⟨i,F,m,l⟩:=gH hb;exact d (i+1) F (by lia) (by simpa using m) a l g
 |G :: r,j+1,f,h,o,d=>by
  rw[LL,ZA]at h;rw[List.set_cons_succ,LL,ZA];refine⟨h.1,eK h.2.1 o λi F n q=>d (i+1) F (by lia) (by simpa using q),λa g b hb e=>?_⟩;subst e;rcases cK hb with z | ⟨i,F,n,m,l⟩
  ·exact d 0 G (by lia) L a g z
  ·exact h.2.2 a g a (di m l) L
def RpL.each:∀{f:List V}{e:Up}{g:X5},RpL G H f e g->(∀(i:Nat) v t F,f[i]?=Y v->e[i]?=Y t->g[i]?=Y F->Rp G H v t F->Rp G h v t F)->RpL G h f e g:=by
 intro f e
 induction e generalizing f with
 |nil=>intro g r k;cases r;exact .nil
 |cons t e j =>
  intro g r k;cases r with
  |cons r q=>exact .cons (k 0 _ _ _ L L L r) (j q λi v t F a b c d=>k (i+1) v t F a b c d)
theorem RpL.setAt:∀{e:List V}{f:Up}{m:X5}{j:Nat}{u:V}{o:T}{p:W5},RpL G H e f m->e[j]?=Y u->Rp G l u o p->(∀(i:Nat) v t F,i≠j->e[i]?=Y v->f[i]?=Y t->m[i]?=Y F->Rp G H v t F->Rp G l v t F)->RpL G l e (f.set j o) (m.set j p)
 |_,_,_,_,_,_,_,.nil,h,_,_=>by simp at h
 |_,_,_,0,_,_,_,.cons r q,h,g,k=>by
  simp at h;subst h;exact .cons g (RpL.each q λi v t F a b c d=>k (i+1) v t F (by lia) (by simpa using a) (by simpa using b) (by simpa using c) d)
 |_,_,_,j+1,_,_,_,.cons r q,h,g,k=>.cons (k 0 _ _ _ (by lia) L L L r) (RpL.setAt q (by simpa using h) g λi v t F n a b c d=>k (i+1) v t F (by lia) (by simpa using a) (by simpa using b) (by simpa using c) d)
def nh(L:H a=Y o)(D:RpL G H s C d)(e:(a :: d.flatten).Nodup)(N:s[j]?=Y u)(y:d[j]?=Y A)(g:Chg G H u A B q m):q a=Y o/\RpL G q s (C.set j B) (d.set j m)/\(a :: (d.set j m).flatten).Nodup/\(∀b∈a :: (d.set j m).flatten,b∈a :: d.flatten\/H b=J)/\∀b o,b∉a :: d.flatten->H b=Y o->q b=Y o:=by
 rw[ZW]at e;have p:∀b∈A,b∈d.flatten:=λb hb=>di y hb;refine⟨g.keep a o (λz=>e.1 (p a z)) L,D.setAt N g.rp (λi v t F n l f O r=>r.keep g.kept λb hb w x=>g.keep b w (xr e.2 O y n hb) x),?_,λb hb=>?_,λb w hb x=>g.keep b w (λz=>hb (Zu _ (p b z))) x⟩
 ·rw[ZW];refine⟨λh=>?_,eK e.2 g.nd (λi F n E b hb P=>by
  rcases g.sub b P with z | z
  ·exact xr e.2 E y n hb z
  ·exact JT.xa (D.J6 b (di E hb)) z)⟩
  rcases cK h with z | ⟨i,F,n,l,f⟩
  ·rcases g.sub a z with z | z
   ·exact e.1 (p a z)
   ·rw[L]at z;cases z
  ·exact e.1 (di l f)
 ·rcases Zg.mp hb with rfl | hb
  ·exact .inl Zv
  ·rcases cK hb with z | ⟨i,F,n,l,f⟩
   ·rcases g.sub b z with z | z
    ·exact .inl (Zu _ (p b z))
    ·exact .inr z
   ·exact .inl (Zu _ (di l f))
theorem qD{α β:Type}:∀(d:List α)(bs:List β)(i:Nat)(a:α)(y:β),d[i]?=Y a->(d.zip bs).set i (a,y)=d.zip (bs.set i y)
 |[],_,_,_,_,h=>by simp at h
 |a :: d,[],i,_,_,_=>by cases i<;>simp
 |a :: d,b :: bs,0,_,y,h=>by simp at h;subst h;rfl
 |a :: d,b :: bs,i+1,_,y,h=>by
  have:=qD d bs i _ y (by simpa using h);simp[this]
theorem lC{α β:Type}(p:α->Bool):∀{e:List α}{bs:List β}{i:Nat},e.length=bs.length->(e.zip bs).findIdx? (λq=>p q.1)=Y i->∃a b,e[i]?=Y a/\bs[i]?=Y b/\p a=M/\(e.zip bs).find? (λq=>p q.1)=Y (a,b)
 |[],[],_,_,h=>by simp at h
 |a :: e,b :: bs,i,g,h=>by
  rw[ZJ,VI]at h;by_cases d:p a=M
  ·rw[Zs d]at h;cases h;exact⟨a,b,rfl,rfl,d,by simp[d]⟩
  ·rw[Zo d]at h;refine L2.aq λv f=>?_;obtain⟨j,l,rfl⟩:=Zt.mp h;obtain⟨u,s,r,o,n,m⟩:=lC p (by simpa using g) l;refine f ?_;exact⟨u,s,by simpa using r,by simpa using o,n,by simp[d,m]⟩
def jP(k a:Key):eqT (aR a) (aR k)=M↔a=k:=by
 cases k with
 |inl i=>cases a<;>simp[aR]
 |inr x =>
  obtain⟨⟨x⟩⟩:=x;cases a with
  |inl j=>simp[aR]
  |inr y=>obtain⟨⟨y⟩⟩:=y;simp[aR]
theorem wY:∀{ns:List Key}{d:Up}{a:List V}{i:Nat},ns.length=d.length->ns.length=a.length->((ns.map aR).zip d).findIdx? (λq=>eqT q.1 (aR k))=Y i->a[i]?=Y u->eY (ns.zip a) k=Y u
 |[],_,_,_,_,_,h,_=>by simp at h
 |n :: ns,t :: d,v :: a,i,m,l,h,e=>by
  rw[Zk,ZJ,VI]at h;by_cases b:eqT (aR n) (aR k)=M
  ·rw[Zs b]at h;cases h;simp at e;subst e;exact jx ((jP k n).mp b)
  ·rw[Zo b]at h;obtain⟨j,g,rfl⟩:=Zt.mp h;have f:n≠k:=λz=>b ((jP k n).mpr z);have:eY ((n :: ns).zip (v :: a)) k=eY (ns.zip a) k:=by simp[eY,f]
   rw[this];exact wY (by simpa using m) (by simpa using l) g (by simpa using e)
 |_ :: _,[],_,_,h,_,_,_=>by simp at h
 |_ :: _,_ :: _,[],_,_,h,_,_=>by simp at h
def eE(r:Rp G H v (.obj (c+1) (h :: i)) F):∃(f:Nat)(a l:On)(b:Bool)(e:Uv)(d:List V)(g:Up)(j:X5),c+1=f+1/\v=.ref a/\h=(0,.bl b)/\i=e.zip g/\F=a :: j.flatten ∧
  H a=Y (.ins (G.ct (f+1)).1 l ((e.map (G.ct (f+1)).2).zip d))/\e.length=d.length/\(b=M->G.me 0=Y (.ref a))/\RpL G H d g j:=r.inv
def EF(r:Rp G H v (.obj 0 [(0,.bl M),(m,t)]) F):∃a,v=.ref a/\G.me m=Y (.ref a)/\Rp G H (.ref a) t F:=r.inv _ _ L
def ug{G:Gx}{c a:Nat}(h:∀c k m:Nat,(G.ct c).2 k=(G.ct c).2 m->k=m){e:Uv}{d:List V}{f:Up}{u:V}{i:Nat}(n:e.length=d.length)(b:(e.zip f).findIdx? (λq=>q.1==a)=Y i)(o:e[i]?=Y a)(g:d[i]?=Y u):((e.map (G.ct c).2).zip d).lookup ((G.ct c).2 a)=Y u:=by
 induction e generalizing d f i with
 |nil=>simp at o
 |cons l w p =>
  cases d with
  |nil=>simp at n
  |cons v bs =>
   cases f with
   |nil=>simp at b
   |cons s f =>
    rw[Zk,ZJ,YO];rw[ZJ,VI]at b;by_cases q:(l==a)=M
    ·rw[Zs q]at b;cases b;have:l=a:=by simpa using q
     subst this;simp at g;simp[g]
    ·rw[Zo q]at b;obtain⟨j,r,rfl⟩:=Zt.mp b;have:((G.ct c).2 a==(G.ct c).2 l)=R:=by
      rw[beq_eq_false_iff_ne];intro z;exact q (by simpa using(h c _ _ z).symm)
     rw[this];exact p (by simpa using n) r (by simpa using o) (by simpa using g)
def HH{α:Type}{f:T->Option (T×α)}{y:α}(e:pm f (.un :: d) t=Y (a,y)):∃m x z,t=.obj 0 [(0,.bl M),(m,x)]/\pm f d x=Y (z,y)/\a=.obj 0 [(0,.bl M),(m,z)]:=by
 cases t with
 |obj c fs =>
  cases c with
  |succ c=>cases e
  |zero =>
   cases fs with
   |nil=>cases e
   |cons q fs =>
    obtain⟨n,v⟩:=q;cases n with
    |succ n=>cases e
    |zero =>
     cases v with
     |bl b =>
      cases b with
      |false=>cases e
      |true =>
       cases fs with
       |nil=>cases e
       |cons g fs =>
        obtain⟨m,x⟩:=g;cases fs with
        |cons _ _=>cases e
        |nil =>
         obtain⟨⟨z,h⟩,e1,e2⟩:=Zt.mp e;cases e2;exact⟨_,_,_,rfl,e1,rfl⟩
     |_=>cases e
 |_=>cases e
noncomputable abbrev PmC(G:Gx)(H:Hp){α:Type}(f:T->Option (T×α))(g:List Ky)(v:V)(e:T)(F:W5)(y:α):Prop:=∃w x a b,Ly G H g v w/\Rp G H w x a/\a.Nodup/\f x=Y (b,y)/\∀d h,Chg G H w a b d h->∃i,Chg G H v F e d i
def oK{G:Gx}{α:Type}{f:T->Option (T×α)}:∀(ks:List Ky){v:V}{t t':T}{F:W5}{y:α},(∀c k k':Nat,(G.ct c).2 k=(G.ct c).2 k'->k=k')->Rp G H v t F->F.Nodup->pm f ks t=Y (t',y) →
  PmC G H f ks v t' F y:=by
 intro ks
 induction ks with
 |nil=>intro v t t' F y _ r nd e;exact⟨v,t,F,t',.nil v,r,nd,e,λE o g=>⟨o,g⟩⟩
 |cons ky ks ih =>
 intro v t t' F y inj r nd e;cases ky with
 |fld k =>
  cases t with
  |obj c fs0 =>
   cases c with
   |zero=>cases e
   |succ c =>
   cases fs0 with
   |nil=>cases e
   |cons q0 fs =>
   refine L2.aq λP_ U=>?_;obtain⟨i,h1,e⟩:=Zz.mp e;obtain⟨p,Z,e⟩:=Zz.mp e;obtain⟨⟨z,y'⟩,e1,e2⟩:=Zt.mp e;cases e2;obtain⟨c',a,dx,b,ns,vs,ts,Fs,ec,rfl,rfl,rfl,rfl,D,X,hb,d⟩:=eE r;cases ec;obtain⟨C,q,g1,g2,g3,g4⟩:=lC (λn=>n==k) (X.trans d.len.1) h1;have ek:C=k:=by simpa using g3
   subst ek;have ep:p=(C,q):=by
    have:(ns.zip ts)[i]?=Y (C,q):=by rw[Xg];exact⟨g1,g2⟩
    rw[this]at Z;exact(Zl Z).symm
   subst ep;obtain⟨u,Fi,B,A,u3⟩:=d.get i g2;obtain⟨w,x,F1,L,S,Q,P,O,N⟩:=ih inj u3 (((ZW.mp nd).2).sublist (du A)) e1;refine U ?_;refine⟨w,x,F1,L,.fld (c:=c) D (ug inj X h1 g1 B) S,Q,P,O,λE o g=>?_⟩;obtain⟨Fi',h⟩:=N E o g;obtain⟨s1,s2,s3,s4,s5⟩:=nh D d nd B A h;refine⟨_,h.kept,s5,h.J6,?_,s3,s4⟩;rw[qD ns ts i C z g1];exact .ins s1 X hb s2
  |_=>cases e
 |un =>
  refine L2.aq λP_ U=>?_;obtain⟨m,x,z,rfl,e1,rfl⟩:=HH e;obtain⟨a,rfl,hm,rx⟩:=EF r;obtain⟨w,q,F1,L,S,Q,P,O,N⟩:=ih inj rx nd e1;refine U ?_;refine⟨w,q,F1,L,.un S,Q,P,O,λE o g=>?_⟩;obtain⟨F',g'⟩:=N E o g;exact⟨F',g'.kept,g'.keep,g'.J6,.mk hm g'.rp,g'.nd,g'.sub⟩
 | «at» k =>
  cases t with
  |lst l =>
   cases k with
   |int i =>
    refine L2.aq λP_ U=>?_;obtain⟨j,h1,e⟩:=Zz.mp e;obtain⟨q,Z,e⟩:=Zz.mp e;obtain⟨⟨z,y'⟩,e1,e2⟩:=Zt.mp e;cases e2;obtain⟨a,vs,Fs,rfl,rfl,D,d⟩:=r.lst_inv;obtain⟨u,Fi,B,A,u3⟩:=d.get j Z;obtain⟨w,x,F1,L,S,Q,P,O,N⟩:=ih inj u3 (((ZW.mp nd).2).sublist (du A)) e1;refine U ?_;refine⟨w,x,F1,L,.ix D (by rw[d.len.1];exact h1) B S,Q,P,O,λE o g=>?_⟩;obtain⟨Fi',h⟩:=N E o g;obtain⟨s1,s2,s3,s4,s5⟩:=nh D d nd B A h;exact⟨_,h.kept,s5,h.J6,.lst s1 s2,s3,s4⟩
   |_=>cases e
  |dct kd l =>
   cases kd with
   |zero =>
    have hk:hZ k=M/\((l.findIdx? λp=>eqT p.1 k).bind λi=>(l[i]?).bind λp=>(pm f ks p.2).map λz=>(T.dct 0 (l.set i (p.1,z.1)),z.2))=Y (t',y):=by
     cases k with
     |int i=>exact⟨rfl,e⟩
     |str s=>exact⟨rfl,e⟩
     |_=>cases e
    obtain⟨hk,e⟩:=hk;obtain⟨i,h1,e⟩:=Zz.mp e;obtain⟨p,Z,e⟩:=Zz.mp e;obtain⟨⟨z,y'⟩,e1,e2⟩:=Zt.mp e;cases e2;obtain⟨a,ns,vs,ts,Fs,rfl,rfl,D,X,rfl,d⟩:=fq r;have QZ:(ns.map aR).length=ts.length:=by rw[Zw];exact X.trans d.len.1
    obtain⟨C,q,g1,g2,g3,g4⟩:=lC (λn=>eqT n k) QZ h1;have ep:p=(C,q):=by
     have:((ns.map aR).zip ts)[i]?=Y (C,q):=by rw[Xg];exact⟨g1,g2⟩
     rw[this]at Z;exact(Zl Z).symm
    subst ep;obtain⟨kk,OE⟩:∃kk:Key,k=aR kk:=by
     cases k with
     |int i=>exact⟨.inl i,rfl⟩
     |str s=>exact⟨.inr (sx s),by simp[aR,sx]⟩
     |_=>cases hk
    refine L2.aq λP_ U=>?_;subst OE;obtain⟨u,Fi,B,A,u3⟩:=d.get i g2;obtain⟨w,x,F1,L,S,Q,P,O,N⟩:=ih inj u3 (((ZW.mp nd).2).sublist (du A)) e1;refine U ?_;refine⟨w,x,F1,L,.key D ?_ S,Q,P,O,λE o g=>?_⟩
    ·exact wY (by simpa using QZ) X h1 B
    ·obtain⟨Fi',h⟩:=N E o g;obtain⟨s1,s2,s3,s4,s5⟩:=nh D d nd B A h;refine⟨_,h.kept,s5,h.J6,?_,s3,s4⟩;rw[qD (ns.map aR) ts i C z g1];exact .dct s1 X s2
   |succ kd=>cases e
  |_=>cases e
end
section
def Ly.same{H:Hp}(e:bg H d)(p:Ly G H b v w):Ly G d b v w:=by
 induction p with
 |nil v=>exact .nil v
 |fld h l _ a=>exact .fld (e _ _ h) l a
 |ix h l m _ a=>exact .ix (e _ _ h) l m a
 |key h l _ a=>exact .key (e _ _ h) l a
 |un _ a=>exact .un a
theorem Ly.split:∀{d:List Ky}{v:V},Ly G H (d++[k]) v w->∃u,Ly G H d v u/\Ly G H [k] u w
 |[],v,p=>⟨v,.nil v,p⟩
 |_ :: d,_,.fld h l p=>let ⟨u,a,b⟩:=Ly.split p;⟨u,.fld h l a,b⟩
 |_ :: d,_,.ix h l m p=>let ⟨u,a,b⟩:=Ly.split p;⟨u,.ix h l m a,b⟩
 |_ :: d,_,.key h l p=>let ⟨u,a,b⟩:=Ly.split p;⟨u,.key h l a,b⟩
 |_ :: d,_,.un p=>let ⟨u,a,b⟩:=Ly.split p;⟨u,.un a,b⟩
theorem iA:∀{way:List MT}{j:List Ky},keys (way++[s]) U=Y j->∃f k,keys way U=Y f/\keys [s] U=Y [k]/\j=f++[k]
 |[],j,e=>by
  cases s with
  |fld k=>cases e;exact⟨[],.fld k,rfl,rfl,rfl⟩
  |un=>cases e;exact⟨[],.un,rfl,rfl,rfl⟩
  |ix c =>
   obtain⟨x,i,g⟩:=Zz.mp (e);cases g;exact⟨[],.at x.2,rfl,by show ((_:Option _).bind _)=_;rw[i];rfl,rfl⟩
 |.fld k :: way,j,e=>by
  refine L2.aq λo l=>?_;obtain⟨n,i,g⟩:=Zt.mp (e);obtain⟨f,m,a,b,c⟩:=iA i;refine l ?_;exact⟨.fld k :: f,m,by show ((keys _ _).map _)=_;rw[a];rfl,b,by rw[← g,c];rfl⟩
 |.un :: way,j,e=>by
  refine L2.aq λo l=>?_;obtain⟨n,i,g⟩:=Zt.mp (e);obtain⟨f,m,a,b,c⟩:=iA i;refine l ?_;exact⟨.un :: f,m,by show ((keys _ _).map _)=_;rw[a];rfl,b,by rw[← g,c];rfl⟩
 |.ix c :: way,j,e=>by
  refine L2.aq λo l=>?_;obtain⟨x,p,h⟩:=Zz.mp (e);obtain⟨n,i,g⟩:=Zt.mp h;obtain⟨f,m,a,b,d⟩:=iA i;refine l ?_;exact⟨.at x.2 :: f,m,by show ((_:Option _).bind _)=_;rw[p];rw[a];rfl,b,by rw[← g,d];rfl⟩
def Ug(G:Gx)(i:Nat)(a:List MT):TE:=λO H Q=>∃Z U t b v w,SR G Z U O H/\U[i]?=Y (Y (.ow t))/\O[i]?=Y (Y v)/\keys a U=Y b/\Ly G H b v w/\∀d,bg H d->Q w d
def Nh(G:Gx)(X:Cx)(e:Expr)(i:Nat)(a:List MT):Prop:=PE X e (Ug G i a)
def PE.N9(h:PE X e t)(w:∀O H Q,Ug G i a O H Q->t O H Q):Nh G X e i a:=λb s O H Q I q=>h b s O H Q I (w O H Q q)
def bP{X:Cx}(i:Nat)(h:{`q8,X.N[i]?=Y x})(d:MZ X.env.scope x:=by exact .inl L)(g:{`q8,K3 x})(a:{`q8,K4 x}):Nh G X (.Name x pos) i [] :=
 PE.N9 (gp h d g a) λO H Q f=>by
  obtain⟨Z,U,t,o,v,w,s,p,n,m,l,j⟩:=f;cases (m);cases l;exact⟨v,n,j H (bg.refl _)⟩
structure KO(G:Gx)(K:Wy)(k:Nat)(f:Str):Prop where
 nm:∀c,(G.ct (c+1)).2 k=f
 cl:∀c,Ln K (G.ct (c+1)).1
 no:∀c,bq K (G.ct (c+1)).1 f
def fO{X:Cx}(k:Nat)(F:KO G X.K k f)(h:Nh G X e i way)(n:{`q8,XAC e f X.env (eval e X.env)=eval e X.env}):Nh G X (.Attribute e f pos) i (way++[.fld k]) :=
 PE.N9 (yW h n) λO H Q m=>by
  refine L2.aq λN l=>?_;obtain⟨Z,U,t,E,v,w,s,z,y,x,r,p⟩:=m;obtain⟨B,L,a,b,rfl⟩:=iA x;cases (b);obtain⟨u,p1,j⟩:=r.split;refine l ?_;refine⟨Z,U,t,B,v,u,s,z,y,a,p1,λC d=>?_⟩;cases j with
  |@fld c _ a A fs D _ _ o g q =>
   cases q;rw[F.nm c]at g;exact⟨a,_,A,fs,w,rfl,d a _ o,F.cl c,F.no c,g,p C d⟩
def D7{X:Cx}(S:p0 D X.A)(h:Nh G X e i way)(hb:PV G X b c)(P:jI b)(hK:X.K=G.K):Nh G X (.Subscript e b pos) i (way++[.ix c]) :=
 PE.N9 (tD (NQ.or qC (qx (jR S))) h hb P) λO H Q hq=>by
  refine L2.aq λP_ E=>?_;obtain⟨Z,U,t,ks,v,w,s,h1,h2,h3,h4,h5⟩:=hq;obtain⟨NZ,k',a,b',rfl⟩:=iA h3;obtain⟨⟨C,x⟩,ec,e2⟩:=Zz.mp (b');cases e2;obtain⟨u,p1,B⟩:=h4.split;refine E ?_;refine⟨Z,U,t,NZ,v,u,s,h1,h2,a,p1,λH1 d=>⟨Z,U,C,x,s.same d,ec,λy H2 F2 o r2 f2=>?_⟩⟩;have q:=h5 H2 (d.trans o);cases ((B.same d).same o) with
  |@ix a p F j r _ _ l g N f =>
   cases f;refine .inl (.inl ⟨a,p,F,w,rfl,r2.int_inv,JV.of l,l5 g N,q⟩)
  |@key a cp m r _ _ l g f =>
   cases f;refine .inr ⟨a,w,rfl,?_,q⟩;have L:y=kV m:=by
    cases m with
    |inl n=>exact r2.int_inv
    |inr z =>
     have:=r2.str_inv.1;rw[this];simp[kV,sx]
   rw[L,← g];exact fH.k l
@[simp] def iX(i:Nat)(a:List MT)(f:T->Ur->Option (T×Val))(h:J8)(U:VS.Env):Option (Val×VS.Env):=match U[i]? with
 |some (some (.ow t))=>(keys a U).bind λg=>(h U).bind λd=>(pm (λx=>f x d) g t).map λz=>(z.2,U.set i (Y (.ow z.1)))
 |_=>J
noncomputable def j4(G:Gx):Prop:=∀c k a:Nat,(G.ct c).2 k=(G.ct c).2 a->k=a
def zw{pos apos:Pos}(J:j4 G)(pa:PlainAttrs p)(d:Slot p a m)(Tj:typeOf (.builtin m)=pure (.type "method_descriptor"))(hm:MtR X m r)(ok:A7 G r f)(hT:∀H v t F l z,Rp G H v t F->f t l=Y z->RP G.K p v H)(ho:Nh G X o i way)(ha:KD G X (e :: es) cs)(hK:X.K=G.K)(Kp:XAC o a X.env (eval o X.env)=eval o X.env)(KP:((backTo pe (P3 (e :: es) X.env)).all (λx=>!x.1)&&(backToKw pe (SZ [] X.env)).all (λx=>x.1.isSome)
   && decide ((e :: es).length+([]:List Keyword).length+(if ([]:List Keyword).isEmpty then 0 else 1)<30))=M)(Kc:(apos.endLine==pe.line)=M)(hs:K1 e es X)(Kb:K2 pe es X)(Mj:swapsWith (.Call (.Attribute o a apos) (e :: es) [] pe) none pos.line X.env=pure R) :
  PSV G X (.Expr (.Call (.Attribute o a apos) (e :: es) [] pe) pos) (sX (iX i way f cs)) :=
 PS.weak (jF (wB pa d Tj hm ho ha Kp KP Kc hs Kb) Mj) λD O H hq=>by
  obtain⟨Z,U,out,s,e,k⟩:=hq;refine L2.aq λP_ k_=>?_;unfold sX iX at e;obtain⟨⟨x',U'⟩,e1,e2⟩:=Zt.mp e;split at e1
  ·rename_i t h;obtain⟨C,ek,e3⟩:=Zz.mp e1;obtain⟨l,el,e4⟩:=Zz.mp e3;obtain⟨⟨t',x2⟩,e5,e6⟩:=Zt.mp e4;cases e6;cases e2;obtain⟨v,E,h2⟩:=s.rp _ _ h;obtain⟨w,x,F1,Q,w1,A,w3,y,S⟩:=oK C J h2 (s.nd i t h) e5;refine k_ ?_;refine⟨Z,U,t,C,v,w,s,h,E,ek,w1,λH0 j=>⟨by rw[hK];exact hT H0 w x _ l _ (A.same j) y,Z,U,l,s.same j,el,λvs H' Fs q1 q2 B=>?_⟩⟩;refine ok Z U H H' w x Q F1 l vs Fs x2 _ A w3 ⟨j.trans q1,q2,⟨λn v' q a1 a2=>(B.each n v' q a1 a2).back j,B.nd⟩⟩ y λu L q g=>?_;obtain⟨F2,g2⟩:=S L q g;obtain⟨P,N⟩:=s.mut h E g2;exact k _ O L P N
  ·cases e1
end
section
def ly(k v:Val):T->Option (T×Unit)
 |.lst l=>match k.2 with
  |.int n=>(fit v).bind λt=>(Lf l.length n).map λj=>(.lst (l.set j t),())
  |_=>J
 |.dct 0 l=>if hZ k.2/\JU v.2/\l.length<gL then Y (.dct 0 (dput l k.2 v.2),()) else J
 |_=>J
def gg(i:Nat)(a:List MT)(k e:Ex)(U:VS.Env):Option Out:=(e U).bind λv=>match U[i]? with
 |some (some (.ow t))=>(keys a U).bind λf=>(k U).bind λd=>(pm (ly d v) f t).map λz=>.nx (U.set i (Y (.ow z.1)))
 |_=>J
theorem RpL.putAt:∀{d:List V}{f:Up}{g:X5}(j:Nat){u:V}{x:T}{F:W5},RpL G H d f g->Rp G H u x F->RpL G H (d.set j u) (f.set j x) (g.set j F)
 |_,_,_,_,_,_,_,.nil,_=>.nil
 |_,_,_,0,_,_,_,.cons r q,a=>.cons a q
 |_,_,_,j+1,_,_,_,.cons r q,a=>.cons r (RpL.putAt j q a)
theorem vO(u:Rp G H m t []):∀{a:List Key}{j:List V}{s:Up}{C:X5},a.length=j.length->RpL G H j s C →
  ∃f h g,(a.zip j).map (λn=>if n.1=d then (n.1,m) else n)=a.zip f/\a.length=f.length/\((a.map aR).zip s).map (λp=>if eqT p.1 (aR d) then (p.1,t) else p)=(a.map aR).zip h/\RpL G H f h g/\g.flatten.Sublist C.flatten
 |[],[],_,_,_,.nil=>⟨[],[],[],rfl,rfl,rfl,.nil,WR _⟩
 |k :: a,v :: j,_,_,L,.cons (t:=D) (F:=F) r q=>by
  refine L2.aq λN E=>?_;obtain⟨f,h,g,B,A,y,x,w⟩:=vO u (by simpa using L) q;refine E ?_;by_cases l:k=d
  ·refine⟨m :: f,t :: h,[] :: g,?_,by simp[A],?_,.cons u x,?_⟩
   ·rw[ZJ,Zk,B,ZJ];simp[l]
   ·rw[Zk,ZJ,Zk,y,ZJ];simp[((jP d k).mpr l)]
   ·rw[LL,LL];exact w.trans (Xh _ _)
  ·have e:¬eqT (aR k) (aR d)=M:=λz=>l ((jP d k).mp z);refine⟨v :: f,D :: h,F :: g,?_,by simp[A],?_,.cons r x,?_⟩
   ·rw[ZJ,Zk,B,ZJ];simp[l]
   ·rw[Zk,ZJ,Zk,y,ZJ];simp[e]
   ·rw[LL,LL];exact List.Sublist.append (WR _) w
theorem tN{kk:Key}:∀{a:List Key}{d:List V}{f:Up},a.length=d.length->a.length=f.length->((a.zip d).any λg=>decide (g.1=kk))=(((a.map aR).zip f).any λp=>eqT p.1 (aR kk))
 |[],_,_,_,_=>by simp
 |k :: a,v :: d,t :: f,l,j=>by
  rw[Zk,ZJ,ZJ,YN,YN,tN (by simpa using l) (by simpa using j)];have:decide (k=kk)=eqT (aR k) (aR kk):=by rw[XG,decide_eq_true_eq];exact(jP kk k).symm
  rw[this]
 |_ :: _,[],_,h,_=>by simp at h
 |_ :: _,_ :: _,[],_,h=>by simp at h
def rq(u:Rp G H q t []){a:List Key}{g:List V}(d:a.length=g.length)(l:RpL G H g j s) :
  ∃(r:List Key)(f:List V)(n:Up)(m:X5),putK (a.zip g) kk q=r.zip f/\r.length=f.length/\dput ((a.map aR).zip j) (aR kk) t=(r.map aR).zip n/\RpL G H f n m/\m.flatten.Sublist s.flatten:=by
 unfold putK dput;rw[(tN (kk:=kk) d (d.trans l.len.1))];by_cases h:(((a.map aR).zip j).any λp=>eqT p.1 (aR kk))=M
 ·rw[Zs h,Zs h];refine L2.aq λB v=>?_;obtain⟨f,n,m,A,z,y,x,w⟩:=vO u d l;refine v ?_;exact⟨a,f,n,m,A,z,y,x,w⟩
 ·rw[Zo h,Zo h];refine⟨a++[kk],g++[q],j++[t],s++[[]],?_,by simp[d],?_,l.append (.cons u .nil),by simp⟩
  ·rw[List.zip_append d];rfl
  ·rw[Yy,List.zip_append (by rw[Zw];exact d.trans l.len.1)];rfl
def Ef:CD:=λo i v H Q=>Ep o i v H Q\/∃a d,o=.ref a/\uU H a i v d/\Q d
def AE{X:Cx}(n:X.A.units+1<cLine):G5 X Ef:=by
 intro d s O H o i v m iv u Q I j l f h;rcases h with h | ⟨a,r,rfl,g,q⟩
 ·exact set_list d s O H o i v m iv u Q I j l f h
 ·cases j;exact yu n I g l f λw p=>⟨r,p,q⟩
def kQ{X:Cx}{pos:Pos}(J:j4 G)(hr:p0 kr X.A)(ho:Nh G X o i way)(hk:PV G X b ck)(he:PV G X e ce)(ha:∀v,assign (.Subscript o b pos') X.env v=(do
   let P ← holding [v] (eval o X.env)
   let iv ← holding [v,P] (eval b X.env)
   standAt pos'
   holding [v,P,iv] (setItem P iv v)
   release [v,P,iv] []):=by exact λ_=>rfl)(hs:{`q8,swapsWithSole [.Subscript o b pos'] e pos.line X.env=pure R})(hw:{`q8,swappedStores [.Subscript o b pos'] e X.env=pure none})(C:{`q8,(assignEach [.Subscript o b pos'] X.env).map (·.2)=[assign (.Subscript o b pos') X.env]}):PSV G X (.Assign [.Subscript o b pos'] e pos) (gg i way ck ce) :=
 PS.weak (vd he (vv ho hk (AE (jR hr)) ha) hs hw C) λD O H hq=>by
  obtain⟨Z,U,out,s,e,k⟩:=hq;refine L2.aq λP_ Q=>?_;obtain⟨⟨mv,B⟩,ev,e⟩:=Zz.mp e;split at e
  ·rename_i t S;obtain⟨ks,ek,e⟩:=Zz.mp e;obtain⟨⟨mk,f⟩,OE,e⟩:=Zz.mp e;obtain⟨⟨t',y'⟩,e5,e6⟩:=Zt.mp e;cases e6;obtain⟨v,g1,g2⟩:=s.rp _ _ S;obtain⟨w,x,F1,x3,w1,w2,w3,y,w5⟩:=oK ks J g2 (s.nd i t S) e5;refine Q ?_;refine⟨Z,U,mv,B,s,ev,λxv H1 Fv KS rv fv=>?_⟩;refine⟨Z,U,t,ks,v,w,s.same KS,S,g1,ek,w1.same KS,λH2 KA=>⟨Z,U,mk,f,(s.same KS).same KA,OE,λkv H3 Fk MD rk fk=>?_⟩⟩;have m:=(KS.trans KA).trans MD;have OO:=(rv.same KA).same MD;have fin:∀L u,Chg G H w F1 x3 L u->D.nx O L:=λL u g=>by
    obtain⟨F2,Sd⟩:=w5 L u g;obtain⟨z1,z2⟩:=s.mut S g1 Sd;exact k _ O L z1 z2
   refine L2.aq λP_ Q=>?_;cases x with
   |lst l =>
    cases f with
    |int n =>
     obtain⟨tt,et,e7⟩:=Zz.mp (y);obtain⟨j,ej,e8⟩:=Zt.mp e7;cases e8;cases (m7 et);obtain⟨a,vs,Fs,rfl,rfl,F,p⟩:=w2.lst_inv;have E:=m a _ F;have nd:=ZW.mp w3;have na:a∉Fv:=λz=>by rw[fv.2 a z]at F;cases F
     have q:JT (H3 a):=by rw[E];exact True.intro
     have off:=λd hb hv=>JT.xa (p.J6 d hb) (fv.2 d hv);refine Q ?_;refine .inl ⟨a,vs,n,j,rfl,rk.int_inv,E,by rw[← vt,p.len.1];exact ej,fin _ (a :: (Fs.set j Fv).flatten) ?_⟩;refine Chg.upd m Zv q (.lst aH ((((p.same m).off q nd.1)).putAt j ((λr hn=>r.keep (Kept.upd (.inl q)) λd hb o' Nb=>by rw[aM (λz=>hn (by rw[← z];exact hb))];exact Nb) OO na))) ?_ ?_
     ·rw[ZW];refine⟨λh=>?_,eK nd.2 fv.1 λi' u _ hi d hb=>off d (di hi hb)⟩;rcases cK h with z | ⟨i',u,_,C,h2⟩
      ·exact na z
      ·exact nd.1 (di C h2)
     ·intro d hb;rcases Zg.mp hb with rfl | hb
      ·exact .inl Zv
      ·rcases cK hb with z | ⟨i',u,_,C,h2⟩
       ·exact .inr (fv.2 d z)
       ·exact .inl (Zu _ (di C h2))
    |_=>cases y
   |dct kd l =>
    cases kd with
    |zero =>
     have hc:(hZ f=M/\JU B=M/\l.length<gL)/\x3=.dct 0 (dput l f B):=by
      have QN:(if hZ f/\JU B/\l.length<gL then Y (T.dct 0 (dput l f B),()) else none)=Y (x3,y'):=y;split at QN
      ·rename_i hc;cases QN;exact⟨hc,rfl⟩
      ·cases QN
     obtain⟨⟨c1,c2,c3⟩,rfl⟩:=hc;have eF:=OO.JU c2;subst eF;obtain⟨a,ns,vs,ts,Fs,rfl,rfl,F,hl,rfl,p⟩:=fq w2;obtain⟨kk,rfl,OD⟩:=dr rk c1;subst OD;have E:=m a _ F;have q:JT (H3 a):=by rw[E];exact True.intro
     have nd:=ZW.mp w3;obtain⟨Nq,LR,LS,Lz,q1,q2,q3,q4,N⟩:=rq OO hl (p.same m);refine Q ?_;refine .inr ⟨a,_,rfl,uU.k E (by
      have:((ns.map aR).zip ts).length<16777216:=c3;rw[YH,Zw]at this;rw[YH];have:=p.len.1;have:(KM:Nat)=16777216:=rfl;lia),fin _ (a :: Lz.flatten) ?_⟩
     rw[q1,q3];refine Chg.upd m Zv q (.dct aH q2 (q4.off q λz=>nd.1 (N.subset z))) ?_ ?_
     ·exact ZW.mpr ⟨λz=>nd.1 (N.subset z),nd.2.sublist N⟩
     ·intro d hb;rcases Zg.mp hb with rfl | hb
      ·exact .inl Zv
      ·exact .inl (Zu _ (N.subset hb))
    |succ n=>cases y
   |_=>cases y
  ·cases e
end
def Fz{K:Wy}{b:Uu}(e:Bf H)(d:JV K H a (b.map V.int)):lj K H a b:=by
 rcases d with h | h
 ·rcases h with h | h
  ·rcases e a with z | ⟨o,f,z⟩
   ·rw[z]at h;cases h
   ·rw[z]at h;cases h
  ·exact .inl h
 ·exact .inr h
def FT{G:Gx}(d:g [.scr b]=Y (.fr,.bl M))(f:Bf H)(e:JV G.K H a (b.map V.int)):MB G g [.ref a] H (λv _=>v=.bl M) E :=
 ⟨[.scr b],[[]],.fr,.bl M,.cons (.scr (Fz f e)) .nil,d,λv h F _ r _=>r.KR⟩
def gx0(K:Wy):Gx:=⟨K,λ_=>(0,λk=>⟨#[k]⟩),λ_=>J⟩
def Ad{l:PySem.W.OpenLaw}{d:DefRec}{K:Params->Wy}{g:Fn}{x:Str}{k:Nat}(m:l.most=Y 63)(v:d.params.defaults=[])(j:p0 k callerA)(n:∀ns:Uu,g [.scr ns]=Y (.fr,.bl M))(F:∀(w:XAB)(mg:Wf)(e:On)(h:XAA),(K w.params).In h->h.Ns mainGlobals mg->mg d.name=Y (.ref e) →
   ∃fd:Re,(∀(s:KB)(u:PP),BindsTo s fd ⟨[u],[]⟩ [(x,u)])/\∀base:XAA,(K w.params).In base->base.Ns mainGlobals mg->FnOk l.prog w (K w.params) mg base Kv k e fd [x] (MB (gx0 (K w.params)) g)) :
  PySem.W.WalkO q b r (λw h=>(K w.params).In h) l.row.toRowW d [] (λf i=>PySem.call f i) :=
 L2.CZ (k:=k) (x:=x) m (by decide) v j (λ_ _ h=>h) F (λw H a ns _ p o=>FT (n ns) p o) λ_ _ _ _ _ z=>z
end VS
end
section
namespace L2
open PySem PySem.Spec PyProof.Rows
section
def uQ{X:Cx}(y:X.calm=M):dm X (.type "list") (λf H Q=>∃x:Str,f=[.str x]/\x.cps.size<=KM/\∀l,H l=J->Q (.ref l) (upd H l (.lst (x.cps.toList.map λc=>V.str ⟨#[c]⟩)))):=by
 intro j s O H f A Q I p h;obtain⟨x,rfl,m,q⟩:=h;obtain⟨u,rfl,t,rfl⟩:=vals1 p;refine call_list_str (I.ok.hd y) x t (λz B acc c kp g o=>?_) m;refine⟨.ref s.heap.objs.size,_,I.laid kp (Zn _) (show dE X.prog X.w _ z _ (.lst (x.cps.toList.map λc=>V.str ⟨#[c]⟩)) from⟨by rw[Zw,Yg];exact m,acc.toList,c,(by
  have key:∀(b:Uv)(a:Vq),b.length=a.length->(∀(i:Nat)(v:PP),a[i]?=Y v->∃c u,b[i]?=Y c/\v=.str ⟨#[c]⟩ u)->aW (b.map λc=>V.str ⟨#[c]⟩) a:=by
   intro b
   induction b with
   |nil =>
    intro a e _;cases a with
    |nil=>exact .nil
    |cons v a=>simp at e
   |cons c b r =>
    intro a e hg;cases a with
    |nil=>simp at e
    |cons v a =>
     obtain⟨d,u,e1,e2⟩:=hg 0 v L;cases e1;exact .cons ⟨u,e2⟩ (r a (by simpa using e) λi w hw=>by simpa using hg (i+1) w (by simpa using hw))
  refine key _ _ (by rw[Yg,Yg,o.1]) λi v n=>?_;rw[MY]at n;obtain⟨d,u,e1,e2⟩:=o.2 i v n;exact⟨d,u,by rw[MY];exact e1,e2⟩),g⟩),rfl,q _ (I.xb.fresh (Zn _))⟩
end
end L2
namespace VS
open PySem PySem.Spec PyProof.Rows L2
section
def nI:Ur->Uq
 |[(m,.lst l)]=>L4 m l
 |[(m,.tup l)]=>L4 m l
 |[(_,.str s)]=>L4 .fr (s.map λc=>.str [c])
 |_=>J
def zf:fj G (λd H Q=>Eh G.K d H Q\/∃x:Str,d=[.str x]/\x.cps.size<=KM/\∀l,H l=J->Q (.ref l) (upd H l (.lst (x.cps.toList.map λc=>V.str ⟨#[c]⟩)))) nI:=by
 intro Z U i H l f j m t Q A e k;unfold nI at e;split at e
 ·exact .inl (vU Z U i H _ f j m t Q A e k)
 ·exact .inl (vU Z U i H _ f j m t Q A e k)
 ·rename_i B x;obtain⟨v,F,rfl,rfl,h⟩:=(A.rp).one;have g:=h.str_inv.2;refine .inr ⟨sx x,by rw[h.str_inv.1],?_,λq r=>?_⟩
  ·have:=g.1;exact this
  ·have z:(sx x).cps.toList.map (λc=>V.str ⟨#[c]⟩)=(x.map λc=>[c]).map λs=>V.str (sx s):=by
    simp[sx]
   have w:(x.map λc=>T.str [c])=(x.map λc=>[c]).map T.str:=by simp
   rw[z];rw[w]at e;refine jG A.same e (vy (G:=G) (H:=H) (ss:=x.map λc=>[c]) λs o=>by
    obtain⟨c,u,rfl⟩:=ZC.mp o;exact⟨by show 1<=gL;decide,λy n=>by rw[Zc.mp n];exact g.2 c u⟩) ?_ k q r
   rw[lh];exact Fp.nil
 ·cases e
def wZ{X:Cx}(d:X.mg "list" = J)(h:KD G X [e] cs)(f:{`q2,Gl X "list"})(i:{`q2,X.K=G.K})(g:{`q2,X.calm=M})(he:{`q2,K1 e [] X}):PV G X (.Call (.Name "list" p) [e] [] pos) (eN nI cs) :=
 jM (qE.or (uQ g)) (i ▸ zf) f d Ca h (he:=he)
end
end VS
end
section
open PySem PyProof.Rows
namespace TS
noncomputable abbrev Ky:=Sum Int Str
noncomputable def Ms:Ky->Ky->Bool
 |.inl i,.inl j=>decide (i<j)
 |.inr x,.inr y=>decide (x.cps.toList<y.cps.toList)
 |_,_=>R
def eD:List Ky->List Ky->Bool
 |[],[]=>R
 |[],_ :: _=>M
 |_ :: _,[]=>R
 |a :: d,b :: bs=>if a=b then eD d bs else Ms a b
noncomputable def kind(k:Ky):Bool:=k.isLeft
def Cw{x y:Str}(h:x.cps.toList=y.cps.toList):x=y:=by
 cases x;cases y;simp only[Str.mk.injEq];exact Array.toList_inj.mp h
def CY(a:Ky):Ms a a=R:=by
 cases a with
 |inl i=>simp[Ms]
 |inr x=>simp[Ms,List.lt_irrefl]
def uc(h:Ms a b=M):Ms b a=R:=by
 cases a<;>cases b<;>simp only[Ms,decide_eq_true_eq,decide_eq_false_iff_not,Y3]at h ⊢
 ·lia
 ·exact λq=>List.lt_irrefl _ (List.lt_trans h q)
def yn(h:Ms a b=M)(d:Ms b c=M):Ms a c=M:=by
 cases a<;>cases b<;>cases c<;>simp only[Ms,decide_eq_true_eq,Y3]at h d ⊢
 ·lia
 ·exact List.lt_trans h d
def qP(k:kind a=kind b)(h:Ms a b=R)(d:Ms b a=R):a=b:=by
 cases a<;>cases b<;>simp only[Ms,decide_eq_false_iff_not,kind,Sum.isLeft,VG,Y3]at h d k ⊢
 ·congr 1;lia
 ·congr 1;exact Cw (List.le_antisymm (VW.mp d) (VW.mp h))
theorem pS:∀{l m:List Ky},eD l m=M->eD m l=R
 |[],[],h=>by simp[eD]at h
 |[],_ :: _,_=>rfl
 |_ :: _,[],h=>by simp[eD]at h
 |a :: l,b :: m,h=>by
  unfold eD at h ⊢;by_cases e:a=b
  ·rw[Zs e]at h;rw[Zs e.symm];exact pS h
  ·rw[Zo e]at h;rw[Zo (Y0 e)];exact uc h
theorem v7:∀{l m n:List Ky},l.map kind=m.map kind->m.map kind=n.map kind->eD m l=R->eD n m=R->eD n l=R
 |[],[],[],_,_,_,_=>rfl
 |[],[],_ :: _,_,h,_,_=>by simp at h
 |[],_ :: _,_,h,_,_,_=>by simp at h
 |_ :: _,[],_,h,_,_,_=>by simp at h
 |_ :: _,_ :: _,[],_,h,_,_=>by simp at h
 |a :: l,b :: m,c :: n,i,g,f,d=>by
  simp only[Zk,Wh]at i g;unfold eD at f d ⊢;by_cases e1:b=a
  ·subst e1;rw[Zs L]at f;by_cases e2:c=b
   ·rw[Zs e2]at d ⊢;exact v7 i.2 g.2 f d
   ·rw[Zo e2]at d ⊢;exact d
  ·rw[Zo e1]at f;by_cases e2:c=b
   ·subst e2;rw[Zo e1];exact f
   ·rw[Zo e2]at d;have j:=yn (by
    cases q:Ms a b with
    |true=>rfl
    |false=>exact absurd (qP i.1 q f).symm e1) (by
     cases q:Ms b c with
     |true=>rfl
     |false=>exact absurd (qP g.1 q d).symm e2)
    rw[Zo (λe=>by rw[e,CY]at j;cases j)];exact uc j
noncomputable def QI:Ky->PP->Prop
 |.inl i,v=>∃t,v=.int i t
 |.inr x,v=>∃t,v=.str x t
inductive LD:List Ky->Vq->Prop where
 |nil:LD [] []
 |cons {k:Ky} {v:PP} {ks:List Ky} {vs:Vq}:QI k v->LD ks vs->LD (k :: ks) (v :: vs)
def QI.fn(h:QI k v)(b:QI a v):k=a:=by
 cases k<;>cases a<;>obtain⟨t,rfl⟩:=h<;>obtain⟨d,e⟩:=b<;>cases e<;>rfl
theorem LD.fn:∀{d b:List Ky}{a:Vq},LD d a->LD b a->d=b
 |_,_,_,.nil,.nil=>rfl
 |_,_,_,.cons h q,.cons f e=>by rw[h.fn f,q.fn e]
noncomputable def ij(h:XAA)(v:PP)(a:List Ky):Prop:=∃b o items n,v=.ref b/\h.get? b=Y o/\o.cls=.type "tuple" ∧ o.data=.seq items n/\LD a items.toList
theorem ij.fn(x:ij h v f)(y:ij h v a):f=a:=by
 obtain⟨b,o,items,n,rfl,g,_,d,k⟩:=x;obtain⟨q,m,r,p,e,i,_,j,l⟩:=y;cases e;rw[g]at i;cases i;rw[d]at j;cases j;exact k.fn l
def HB(d:kind k=kind a)(h:QI k v)(f:QI a b)(q:Q (decide (k=a)) s):Pi (KF prog w) A (eqBool v b) Q E s:=by
 cases k<;>cases a<;>simp only[kind,Sum.isLeft,VG,Y3]at d<;>obtain⟨t,rfl⟩:=h<;>obtain⟨g,rfl⟩:=f
 ·exact wpAny_eqBool_int (by have e:∀i j:Int,(i==j)=decide (Sum.inl (β:=Str) i=.inl j):=λi j=>by by_cases z:i=j<;>simp[z]
                             rw[e];exact q)
 ·exact wpAny_eqBool_str (by simpa using q)
def Hj(e:kind k=kind a)(h:QI k v)(f:QI a d)(q:Q (Ms k a) s):Pi (KF prog w) A (oneLt' b v d) Q E s:=by
 cases k<;>cases a<;>simp only[kind,Sum.isLeft,VG,Y3]at e<;>obtain⟨t,rfl⟩:=h<;>obtain⟨g,rfl⟩:=f
 ·cases b with
  |true=>exact oneLt_int q
  |false =>
   rw[oneLt'_eq,Zo Zh];exact Zy (PyProof.Rows.lt_int (Y2 q))
 ·cases b with
  |true=>exact oneLt_str q
  |false =>
   rw[oneLt'_eq,Zo Zh];exact Zy (PySem.P.lt_str (Y2 q))
def xW(a b:Ky)(l m:List Ky):eD (a :: l) (b :: m)=if a=b then eD l m else Ms a b:=rfl
def E9{s:KB}(hx:ij s.heap x j)(hy:ij s.heap y r)(U:j.map kind=r.map kind)(q:Q (eD j r) s):Pi (KF prog w) A (keyLt' (tuples' f) x y) Q E s:=by
 obtain⟨b,o,items,n,rfl,g,_,d,k⟩:=hx;obtain⟨b',o',Z,n',rfl,g',_,d',S⟩:=hy;refine(?_);refine Zy (listItems_at g d (Zy (listItems_at g' d' ?_)));have P:items.size=Z.size:=by
  have e1:∀{j:List Ky}{l:Vq},LD j l->j.length=l.length:=λh=>by induction h with | nil=>rfl | cons _ _ ih=>simp[ih]
  have h1:=e1 k;have h2:=e1 S;have h3:=congrArg List.length U;simp at h1 h2 h3;lia
 refine Zy (WC _ (λrest b N=>b=(J,())/\N=s/\∃(D C:List Ky)(l F:Vq)(i:Nat),rest=(l.zip F).zipIdx i/\LD D l/\LD C F/\D.map kind=C.map kind/\eD j r=eD D C) _ ?turn ?fin _ _ ⟨rfl,rfl,j,r,_,_,0,rfl,k,S,U,rfl⟩)
 case turn =>
  rintro x rest b N ⟨rfl,rfl,D,C,l,F,i,e,B,z,p,m⟩;cases B with
  |nil=>simp at e
  |@cons a v S9 H X B =>
   cases z with
   |nil=>simp at e
   |@cons b u O L hb z =>
    obtain⟨rfl,rfl⟩:=e;simp only[Zk,Wh]at p;refine Zy (HB p.1 X hb ?_);rw[xW]at m;by_cases G:a=b
    ·rw[Zs G]at m;rw[Lu G,Zo (by simp)];exact Zm ⟨rfl,rfl,S9,O,H,L,i+1,rfl,B,z,p.2,m⟩
    ·rw[Zo G]at m;rw[ZZ G,Zs (by simp)];refine Zy (Hj p.1 X hb (Zm (Zm ?_)));rw[← m];exact q
 case fin =>
  rintro b N ⟨rfl,rfl,D,C,l,F,i,e,B,z,p,m⟩;have:eD j r=decide (items.size<Z.size):=by
   rw[m,P];cases B with
   |nil =>
    cases z with
    |nil=>simp[eD]
    |cons _ _=>simp at p
   |cons _ _ =>
    cases z with
    |nil=>simp at p
    |cons _ _=>simp at e
  refine Zm ?_;rw[← this];exact q
theorem rL{α β:Type}{f:α->Sem β}{P:β->Prop}:∀{b:List α}{Q:List β->KB->Prop},(∀v∈b,∃x,P x/\∀(Q:β->KB->Prop),Q x s->Pi (KF prog w) A (f v) Q E s)->(∀a:List β,a.length=b.length->(∀x∈a,P x)->Q a s)->Pi (KF prog w) A (b.mapM f) Q E s
 |[],Q,_,q=>by
  rw[List.mapM_nil];exact Zm (q [] L (by simp))
 |v :: b,Q,h,q=>by
  rw[List.mapM_cons];obtain⟨x,px,g⟩:=h v Zv;refine Zy (g _ (Zy (rL (λu i=>h u (Zu _ i)) λa l j=>Zm (q _ (by simp[l]) λy d=>?_))));rcases Zg.mp d with e | e
  ·rw[e];exact px
  ·exact j y e
def Ba{s:KB}{B:Vq}{Q:SortKind->KB->Prop}(h2:0<B.length)(hv:∀v∈B,∃G,ij s.heap v G/\G.map kind=C :: sh)(q:Q (tuples' M) s):Pi (KF prog w) A (keyKind' B.toArray) Q E s:=by
 have fst:∀v∈B,∃x,(∀(Q:V6->KB->Prop),Q (Y x) s->Pi (KF prog w) A (firstOfTuple' v) Q E s)/\(∀(Q:Yx),Q (.type (if C then "int" else "str")) s->Pi (KF prog w) A (typeOf x) Q E s):=λv p=>by
  refine L2.aq λP_ H=>?_;obtain⟨G,⟨b,o,items,n,rfl,g,c,d,k⟩,D⟩:=hv v p;refine H ?_;cases N:items.toList with
  |nil =>
   rw[N]at k;cases k;simp at D
  |cons x j =>
   rw[N]at k;cases k with
   |@cons a _ S9 _ X k1 =>
    simp only[Zk,Wh]at D;have hx:items[0]?=Y x:=by rw[← MY,N];rfl
    refine⟨x,λQ q=>?_,λQ q=>?_⟩
    ·refine(Zy (wpAny_typeOf ⟨o,g,c⟩ ?_));rw[Zo (by decide)];refine Zy (listItems_at g d (Zm ?_));rw[hx];exact q
    ·cases a with
     |inl i =>
      obtain⟨t,rfl⟩:=X;have:=D.1.symm;subst this;exact wpAny_typeOf L q
     |inr y =>
      obtain⟨t,rfl⟩:=X;have:=D.1.symm;subst this;exact wpAny_typeOf L q
 obtain⟨r,u⟩:∃r:String,r=(if C then "int" else "str"):=⟨_,rfl⟩
 have K6:(Value.type r != Value.type "tuple")=M:=by subst u;cases C<;>decide
 rw[← u]at fst;have mp:∀{α β:Type}(f:α->Sem β)(l:List α)(Q:Array β->KB->Prop),Pi (KF prog w) A (l.mapM f) (λj s'=>Q j.toArray s') E s->Pi (KF prog w) A (l.toArray.mapM f) Q E s:=λf l Q p=>by
  rw[List.mapM_toArray];exact Zy (Xy p (λ_ _ z=>Zm z) λ_ _ e=>e)
 rw[keyKind'_eq];refine Zy (mp _ _ _ (rL (P:=λo=>∃x,o=Y x/\∀(Q:Yx),Q (.type r) s->Pi (KF prog w) A (typeOf x) Q E s) (λv p=>by
  obtain⟨x,h1,S⟩:=fst v p;exact⟨Y x,⟨x,rfl,S⟩,h1⟩) λj hl O=>?_))
 rw[Zs (by
  rw[List.all_toArray,Lw];intro o m;obtain⟨x,rfl,_⟩:=O o m;rfl)]
 refine Zy (wpAny_rule (Zy ?_));rw[oneTypeOnly'_eq];have hf:(j.toArray.filterMap id)=(j.filterMap id).toArray:=by simp
 rw[hf];refine Zy (mp _ _ _ (rL (λv p=>by
  refine L2.aq λP_ H=>?_;obtain⟨o,m,e⟩:=We.mp p;obtain⟨x,rfl,S⟩:=O o m;cases e;refine H ?_;exact⟨_,rfl,S⟩) λF Lr U=>?_))
 have hfl:(j.filterMap id).length=j.length:=by
  have:∀l:List (V6),(∀o∈l,∃x,o=Y x)->(l.filterMap id).length=l.length:=λl=>by
   induction l with
   |nil=>intro _;rfl
   |cons o l ih =>
    intro h;obtain⟨x,rfl⟩:=h o Zv;simp[ih λo m=>h o (Zu _ m)]
  exact this j λo m=>let ⟨x,e,_⟩:=O o m;⟨x,e⟩
 cases F with
 |nil=>simp at Lr;lia
 |cons Z F =>
  have e0:=U Z Zv;subst e0;have e1:(Value.type r :: F).toArray[0]?=Y (Value.type r):=rfl;rw[e1];dsimp only;rw[Zs (by
   rw[List.all_toArray,Lw];intro y hy;rw[U y hy];simp)]
  refine Zm (Zm ?_);simp only[Option.any_some,K6];exact q
def GT(h:XAA)(b:List Bool)(x:Pv):Prop:=∃a,ij h x.1 a/\a.map kind=b
open Classical in
def rT(h:XAA)(x y:Pv):Bool:=decide (∃b a,ij h x.1 b/\ij h y.1 a/\eD b a=M)
open Classical in
def ot{x y:Pv}(f:ij h x.1 b)(d:ij h y.1 a):rT h x y=eD b a:=by
 unfold rT;cases e:eD b a with
 |true=>exact Lu ⟨b,a,f,d,e⟩
 |false =>
  refine ZZ λ⟨m,l,j,i,g⟩=>?_;rw[j.fn f,i.fn d,e]at g;cases g
def DO{s:KB}(n:∀v d,ij h v d->ij s.heap v d):Ld prog w A E s (tuples' f) (GT h o) (rT h):=by
 refine⟨?_,?_,?_⟩
 ·rintro st x y Q g ⟨d,b,ex⟩ ⟨l,a,e⟩ q;rw[lt'_eq];refine ZQ (VZ ?_);rw[g];rw[ot b a]at q;exact ZQ (wpS_lift (wpAny_attempt (E9 (n _ _ b) (n _ _ a) (ex.trans e.symm) ⟨rfl,ZU q⟩)))
 ·rintro x y ⟨d,b,_⟩ ⟨l,a,_⟩ q;rw[ot b a]at q;rw[ot a b];exact pS q
 ·rintro x y z ⟨d,b,ex⟩ ⟨l,a,e⟩ ⟨r,m,p⟩ j i;rw[ot a b]at j;rw[ot m a]at i;rw[ot m b];exact v7 (ex.trans e.symm) (e.trans p.symm) j i
end TS
end
section
namespace ST
open PySem PySem.Spec PyProof.Rows
noncomputable abbrev dO(a:Array DictEntry)(b:Nat):Obj:={ cls:=.type "dict",data:=.dict a b }
noncomputable abbrev kO(d:On)(i n a:Nat):Obj:={ cls:=.type "dict_keyiterator",data:=.fields #[.ref d,.int i 0,.int n 0,.int a 0] }
def zH{s:KB}(f:(d==sysModules)=R)(a:s.heap.get? d=Y (dO b e))(q:Q (.ref s.heap.objs.size) { s with heap:=s.heap.push (kO d 0 b.size e) }) :
  Pi (KF prog w) A (pyIter (.ref d)) Q E s:=by
 have ty:s.TypeIs (.ref d) "dict" := ⟨_,a,rfl⟩
 refine wpAny_pyIter_slot ty F.slot_dict_iter (Wg F.slot_dict_iter ty F.entry_dict_iter (?_) (F.args_dict_iter_1 _));unfold Builtin.«dict.__iter__» Builtin.Dict.dictSlotNone Builtin.Dict.showsAll;refine Zy (Zy (wpAny_notOrdered_dict ty (Zm (Zy (Zm ?_)))));rw[Zo (by rw[f];exact Zh)];exact Zy (Zm (Zy (wpAny_dictEntries a L (Zy (wpAny_dictEpoch a L (Zy (WH (Zm ⟨_,rfl, "dict_keyiterator",_,⟨_,ZM _ L,rfl⟩,X7.lookup,q⟩))))))))
def uo{A:SC}{s:KB}{h:Array DictEntry}(u:A.handled=J)(l:s.heap.get? I=Y (kO d i h.size m))(n:s.heap.get? d=Y (dO h m))(z:∀e,h[i]?=Y e->∀a,Heap.SameBut I s.heap a->a.get? I=Y (kO d (i+1) h.size m)->Q (Y e.key) { s with heap:=a })(y:h[i]?=J->∀a,(∀b o,b≠I->s.heap.get? b=Y o->a.get? b=Y o)->Q J { s with heap:=a }):Pi (KF prog w) A (pyNext (.ref I)) Q E s:=by
 have ty:s.TypeIs (.ref I) "dict_keyiterator" := ⟨_,l,rfl⟩
 refine Zy (wpAny_attempt (wpAny_callSpecial?_slot ty X7 (Wg X7 ty F.entry_dict_keyiterator_next (Xy
  (Q:=λf j=>∃v,f=.done (.ret v)/\Q (Y v) j) (E:=λe j=>∃x,e=.ref x/\(∃o,j.heap.get? x=Y o/\o.cls=.type "StopIteration")/\Q J j) ?_ (λf j ⟨v,e,q⟩=>⟨v,e,Zm q⟩) λe j ⟨x,e1,⟨o,g,c⟩,q⟩=>?_) (F.args_dict_keyiterator_next_1 _))))
 ·refine Zy (Zm (Zy (Zy (Zy (W4 ty (Zm (Zy (wpAny_fieldsOf l L ?_))))))));have own:Builtin.Dict_items.ownsTuple "dict_keyiterator" = R:=rfl;refine(show Pi _ _ (if (Value.ref d==Value.none)=M then _ else _) _ _ s from ?_);rw[Zo (λe:(Value.ref d==Value.none)=true=>Zh e)];refine Zy (Zm (Zy (wpAny_dictEntries n L ?_)));rw[Zo (by simp)];refine Zy (Zm (Zy (wpAny_dictEpoch n L ?_)));rw[Zo (by simp)];refine Zm ?_;simp only[show ¬((i:Int)<0) from by lia,↓reduceIte,Xp];cases he:h[i]? with
  |some e =>
   have p:(s.heap.update I (Obj.mapFields (·.setIfInBounds 1 (rawInt ((i:Int)+1))))).get? I=Y (kO d (i+1) h.size m):=Wr _ l L;refine Zy (Zy (W4 ty (Zm (Zy (wpAny_isOneOf_keyiter ty ?_)))));refine(Zy (wpAny_setField l L (by show 1<4;decide) (Zy (YK ?_))));refine Zy (wpAny_isOneOf_keyiter ⟨_,p,rfl⟩ ?_);refine(Zm (Zm ⟨_,rfl,z e he _ (Vv ..) p⟩))
  |none =>
   refine Zy (Zy (W4 ty (Zm ?_)));refine(Zy (wpAny_setField l L (by show 0<4;decide) (HV u λa x kp r=>⟨x,rfl,r,y he a λb o hb e=>kp b o ?_⟩)));rw[Xi _ _ (Y0 hb)];exact e
 ·subst e1;exact Zy (wpAny_isInstance ⟨o,g,c⟩ isSubtype_stop (Zm q))
end ST
end
section
namespace L2
open PySem PySem.Spec PyProof.Rows TS
section
theorem Ap:∀{b:List Key}{a:Vq},aW (b.map kV) a->LD b a
 |[],[],_=>.nil
 |k :: b,v :: a,h=>by
  cases h with
  |cons r q =>
   refine .cons ?_ (Ap q);cases k with
   |inl i=>exact r
   |inr x=>exact r
def wW{b:List Key}(d:KL P w H h)(e:H a=Y (.tup (b.map kV))):ij h (.ref a) b:=by
 obtain⟨_,f,r,_,o,j,i,n,g⟩:=(d a _ e)
 exact⟨a,o,f.toArray,n,rfl,j,i,g,Ap r⟩
def ij.kept{h d:XAA}(k:∀b o,h.get? b=Y o->d.get? b=Y o)(x:ij h v a):ij d v a:=by
 obtain⟨b,o,items,n,e,g,r⟩:=x;exact⟨b,o,items,n,e,k _ _ g,r⟩
inductive At(H:Hp):List (List Key)->W5->Prop where
 |nil:At H [] []
 |cons {k:List Key} {a:On} {ks:List (List Key)} {as:W5}:H a=some (.tup (k.map kV))->At H ks as->At H (k :: ks) (a :: as)
theorem At.get:∀{b:List (List Key)}{d:W5},At H b d->∀(i:Nat){a:On},d[i]?=Y a->∃k,b[i]?=Y k/\H a=Y (.tup (k.map kV))
 |_,_,.nil,i,a,e=>by simp at e
 |_,_,.cons h q,0,a,e=>by cases e;exact⟨_,rfl,h⟩
 |_,_,.cons h q,i+1,a,e=>by
  obtain⟨k,g,f⟩:=q.get i (by simpa using e);exact⟨k,by simpa using g,f⟩
def At.len(h:At H a b):a.length=b.length:=by
 induction h with
 |nil=>rfl
 |cons _ _ d=>simp[d]
def At.mem(h:At H b d)(g:a∈d):∃k∈b,H a=Y (.tup (k.map kV)):=by
 obtain⟨i,f,e⟩:=Yb g;obtain⟨k,l,j⟩:=h.get i (by rw[Zp f,e]);exact⟨k,YZ l,j⟩
def At.keep(k:∀a b,H a=Y (.tup b)->g a=Y (.tup b))(h:At H d f):At g d f:=by
 induction h with
 |nil=>exact .nil
 |cons e _ i=>exact .cons (k _ _ e) i
def At.perm{m:W5}(p:m.Perm j):∀{a:List (List Key)},At H a j->∃b,At H b m/\b.Perm a:=by
 induction p with
 |nil=>intro a h;cases h;exact⟨[],.nil,WQ _⟩
 |cons x _ r =>
  intro a h;cases h with
  |cons e q =>
   obtain⟨b,i,g⟩:=r q;exact⟨_,.cons e i,g.cons _⟩
 |swap x y l =>
  intro a h;cases h with
  |cons e q =>
   cases q with
   |cons v n=>exact⟨_,.cons v (.cons e n),List.Perm.swap _ _ _⟩
 |trans _ _ f d =>
  intro a h;obtain⟨b,i,g⟩:=d h;obtain⟨o,u,s⟩:=f i;exact⟨o,u,s.trans g⟩
theorem pY:∀(b:W5),aW (b.map V.ref) (b.map Value.ref)
 |[]=>.nil
 |a :: b=>.cons L (pY b)
def C4:∀{b:Vq}{bs:W5},b.Perm (bs.map Value.ref)->∃g:W5,b=g.map Value.ref/\g.Perm bs:=by
 intro b bs p;have h:∀v∈b,∃a,v=Value.ref a:=λv d=>by
  obtain⟨a,_,e⟩:=ZC.mp (p.mem_iff.mp d);exact⟨a,e.symm⟩
 let f:PP->Addr:=λv=>match v with | .ref a=>a | _=>0
 refine⟨b.map f,(by
  rw[La]
  conv=>lhs;rw[← VU b]
  refine Y8 λv d=>?_;obtain⟨a,rfl⟩:=h v d;rfl),?_⟩
 have:=p.map f;rw[La]at this;have e:(f ∘ Value.ref)=id:=rfl;rw[e,VU]at this;exact this
end
section
def we{b:List Key}(f:KL P w H h)(e:H a=Y (.tup (b.map kV)))(m:SB)(d:XAB):(tupleKind (ba m d)).is h b a:=by
 obtain⟨_,g,r,_,o,l,j,n,i⟩:=(f a _ e)
 refine⟨o,g.toArray,n,l,j,i,?_⟩;simpa using lZ r
noncomputable def Qt(k:List Key)(a:List (List Key)):Bool:=a.any λz=>decide (z=k)
def Iv(b:Bool):R2:=λx y H Q=>∃(a p:On)(k:List Key)(d:List (List Key))(e:W5),x=.ref a/\y=.ref p/\H a=Y (.tup (k.map kV))/\H p=Y (.lst (e.map V.ref))/\At H d e/\Q (.bl (b != Qt k d)) H
open Classical in
def CK{X:Cx}(F:X.A.units+1<cLine){k:List Key}{d:W5}(I:Inv X j O H s)(L:H a=Y (.tup (k.map kV)))(G:H p=Y (.lst (d.map V.ref)))(B:At H g d) :
  ∃(f:Array PP)(e:PP->Bool),s.heap.IsList p f/\(∀w∈f,SeqAt.EqAt X.A.in1 s w (.ref a) (e w))/\f.any e=Qt k g:=by
 obtain⟨f,C,D,P⟩:=I.list (JV.of G);have m:f=d.map Value.ref:=by
  have:∀{d:W5}{f:Vq},aW (d.map V.ref) f->f=d.map Value.ref:=λ{d}=>by
   induction d with
   |nil=>intro f h;cases h;rfl
   |cons b d n =>
    intro f h;cases h with
    |cons r q=>rw[n q,show _=Value.ref b from r];rfl
  exact this C
 subst m;let e:PP->Bool:=λw=>match w with | .ref b=>decide (H b=some (.tup (k.map kV))) | _=>false
 have he:∀w∈(d.map Value.ref).toArray,SeqAt.EqAt X.A.in1 s w (.ref a) (e w):=λw hw=>by
  have o:w∈d.map Value.ref:=by simpa using hw
  obtain⟨b,hb,rfl⟩:=ZC.mp o;obtain⟨i,_,v⟩:=B.mem hb;intro prog w E Q u;refine(tupleKind (ba prog w)).eqBool (x:=i) (y:=k) (X3 F) (we I.xb v prog w) (we I.xb L prog w) ?_;have:e (.ref b)=decide (i=k):=by
   show decide (H b=Y (.tup (k.map kV)))=_;rw[v];by_cases z:i=k
   ·simp[z]
   ·rw[ZZ z];exact ZZ λq=>z (qT (by injection q with q;injection q))
  rw[this]at u;exact u
 have l:(d.map Value.ref).toArray.any e=Qt k g:=by
  have gen:∀{g:List (List Key)}{d:W5},At H g d->(d.map Value.ref).any e=Qt k g:=λh=>by
   induction h with
   |nil=>rfl
   |@cons i b g d N q n =>
    rw[Zk,YN,n];have:e (.ref b)=decide (i=k):=by
     show decide (H b=Y (.tup (k.map kV)))=_;rw[N];by_cases z:i=k
     ·simp[z]
     ·rw[ZZ z];exact ZZ λq=>z (qT (by injection q with q;injection q))
    rw[this];unfold Qt;rw[YN]
  simpa using gen B
 exact⟨_,e,D.isList,he,l⟩
def se{X:Cx}(i:X.A.units+1<cLine):OpR X (UV .NotIn) (Iv M):=by
 intro b s O H x y v u Q I f d h;refine L2.aq λC g=>?_;obtain⟨a,p,k,z,B,rfl,rfl,l,j,r,q⟩:=h;cases f;cases d;obtain⟨w,e,o,n,m⟩:=CK i I l j r;refine g ?_;refine SeqAt.notIn_listAt e o n ⟨.bl _,H,I,rfl,?_⟩;rw[m];simpa using q
end
end L2
end
section
namespace VS
open PySem PySem.Spec PyProof.Rows L2 TS
section
def kT(k:List Key):T:=.tup (k.map aR)
theorem sQ:∀(k k':List Key),om (k'.map aR) (k.map aR)=M↔k'=k
 |[],[]=>by simp[om]
 |[],_ :: _=>by simp[om]
 |_ :: _,[]=>by simp[om]
 |a :: k,b :: k'=>by
  simp only[Zk,om,YT,sQ k k',jP,Wh]
def FH(k d:List Key):eqT (kT d) (kT k)=M↔d=k:=by
 exact sQ k d
def vG(k d:List Key):eqT (kT d) (kT k)=decide (d=k):=by rw[XG,decide_eq_true_eq];exact FH k d
def xV:T->Bool
 |.tup l=>l.all hZ
 |_=>R
theorem sy:∀{f:List V}{l:Up}{i:X5},RpL G H f l i->l.all hZ=M->∃d:List Key,f=d.map kV/\l=d.map aR
 |_,_,_,.nil,_=>⟨[],rfl,rfl⟩
 |_,_,_,.cons r q,h=>by
  rw[Wj,YT]at h;obtain⟨k,rfl,e⟩:=dr r h.1;obtain⟨d,rfl,g⟩:=sy q h.2;exact⟨k :: d,rfl,by rw[e,g];rfl⟩
def qV(r:Rp G H v t F)(h:xV t=M):∃(a:On)(d:List Key),v=.ref a/\t=kT d/\H a=Y (.tup (d.map kV)):=by
 cases t with
 |tup l =>
  obtain⟨a,i,j,rfl,_,g,f⟩:=r.Kq;obtain⟨d,rfl,rfl⟩:=sy f h;exact⟨a,d,rfl,rfl,g⟩
 |_=>cases h
theorem pZ:∀{g:List V}{l:Up}{n:X5},RpL G H g l n->l.all xV=M->∃(f:W5)(d:List (List Key)),g=f.map V.ref/\l=d.map kT/\At H d f
 |_,_,_,.nil,_=>⟨[],[],rfl,rfl,.nil⟩
 |_,_,_,.cons r q,h=>by
  rw[Wj,YT]at h;obtain⟨a,k,rfl,e,i⟩:=qV r h.1;obtain⟨f,d,rfl,j,m⟩:=pZ q h.2;exact⟨a :: f,k :: d,rfl,by rw[e,j];rfl,.cons i m⟩
def AM(r:Rp G H v (.dct 1 l) F):∃(a:On)(f:List (List Key))(d:List V)(g:Up)(i:X5),v=.ref a/\F=a :: i.flatten/\H a=Y (.dT (f.zip d))/\f.length=d.length/\l=(f.map kT).zip g/\RpL G H d g i:=by
 cases r with
 |dctT h j q=>exact⟨_,_,_,_,_,rfl,rfl,h,j,rfl,q⟩
theorem nP{k:List Key}:∀{ks:List (List Key)}{vs:List V}{ts:Up},ks.length=vs.length->ks.length=ts.length->(dR ((ks.map kT).zip ts) (kT k)).isSome=(eY (ks.zip vs) k).isSome
 |[],_,_,_,_=>by simp[dR,eY]
 |k' :: ks,v :: vs,t :: ts,f,d=>by
  unfold dR eY at *;rw[Zk,ZJ,ZJ,Yo,Yo];rw[(vG k k')];cases decide (k'=k) with
  |true=>rfl
  |false=>exact(nP (k:=k) (ks:=ks) (vs:=vs) (ts:=ts) (by simpa using f) (by simpa using d))
 |_ :: _,[],_,h,_=>by simp at h
 |_ :: _,_ :: _,[],_,h=>by simp at h
@[simp] def De(x y:Val):Uq:=match y.2 with
 |.dct 1 l=>if xV x.2 then Y (.fr,.bl (dR l x.2).isSome) else J
 |.lst l=>if xV x.2&&l.all xV then Y (.fr,.bl (l.any λz=>eqT z x.2)) else J
 |_=>J
@[simp] def iR(x y:Val):Uq:=match De x y with
 |some (_,.bl b)=>Y (.fr,.bl (!b))
 |_=>J
def Ik(d:Bool):R2:=λx y H Q=>Iv d x y H Q\/∃a o,y=.ref a/\fH H a x o/\Q (.bl (d != o.isSome)) H
theorem zc(k:List Key):∀d:List (List Key),(d.map kT).any (λz=>eqT z (kT k))=Qt k d
 |[]=>rfl
 |a :: d=>by
  unfold Qt;rw[Zk,YN,zc k d,vG,YN];rfl
def xE(g:Si G Z U C H x y u w F E)(e:De x y=Y (m,t)) :
  ∃b,m=.fr/\t=.bl b/\((∃a p k d i,u=.ref a/\w=.ref p/\H a=Y (.tup (k.map kV))/\H p=Y (.lst (i.map V.ref))/\At H d i/\Qt k d=b)\/∃a o,w=.ref a/\fH H a u o/\o.isSome=b):=by
 obtain⟨N,y⟩:=y;simp only[De]at e;split at e
 ·split at e
  ·rename_i f;refine L2.aq λA j=>?_;cases e;obtain⟨a,d,n,L,D,rfl,rfl,z,r,rfl,q⟩:=AM g.r2;obtain⟨b,h,rfl,l,hb⟩:=qV g.r1 f;refine j ?_;refine⟨_,rfl,rfl,.inr ⟨a,eY (d.zip n) h,rfl,fH.t z hb,?_⟩⟩;rw[l];exact(nP r (r.trans q.len.1)).symm
  ·cases e
 ·split at e
  ·rename_i f;refine L2.aq λA j=>?_;cases e;rw[YT]at f;obtain⟨p,n,D,rfl,rfl,v,s⟩:=g.r2.lst_inv;obtain⟨b,h,rfl,l,hb⟩:=qV g.r1 f.1;obtain⟨i,d,rfl,rfl,B⟩:=pZ s f.2;refine j ?_;refine⟨_,rfl,rfl,.inl ⟨b,p,h,d,i,rfl,rfl,hb,v,B,?_⟩⟩;rw[l];exact(zc h d).symm
  ·cases e
 ·cases e
def Dj:fZ G (Ik M) iR:=by
 intro Z U C H x y u w E D m t Q f e k;unfold iR at e;split at e
 ·rename_i B d v;cases e;obtain⟨b,rfl,A,h⟩:=xE f v;cases A;rcases h with⟨a,p,j,i,z,s,r,q,n,l,hb⟩ | ⟨a,o,rfl,g,hb⟩
  ·refine .inl ⟨a,p,j,i,z,s,r,q,n,l,?_⟩;rw[hb,show (M != d)=!d by cases d<;>rfl];exact bJ k (.bl (!d))
  ·refine .inr ⟨a,o,rfl,g,?_⟩;rw[hb,show (M != d)=!d by cases d<;>rfl];exact bJ k (.bl (!d))
 ·cases e
def uR:Tells iR:=by
 intro x y m t e;unfold iR at e;split at e
 ·cases e;exact⟨_,rfl⟩
 ·cases e
def Cd{X:Cx}(f:X.A.units+1<cLine):OpR X (UV .NotIn) (Ik M):=(se f).or λd s O H x y v u Q I i h ⟨a,o,e,g,q⟩=>t8 f d s O H x y v u Q I i h ⟨a,o,e,g,by simpa using q⟩
end
end VS
namespace VS
open PySem PySem.Spec PyProof.Rows L2
def IT{i:Int}:PV G X (.UnaryOp .USub (.Constant (.int i) j p) a) (Q3 (-i)) :=
 PE.weak (Io GV qU) λO H Q b=>by
  obtain⟨Z,U,m,t,s,e,k⟩:=b;cases (e);exact⟨i,rfl,k _ H [] (bg.refl _) (.int _) Fp.nil⟩
end VS
end
section
namespace VS
open PySem PySem.Spec PyProof.Rows L2
def nkI:T->Option Key
 |.int i=>Y (.inl i)
 |.str x=>Y (.inr (sx x))
 |_=>J
def QX:T->Option (List Key)
 |.tup l=>l.mapM nkI
 |_=>J
def DT(h:nkI t=Y i):t=aR i:=by cases t<;>simp[nkI]at h<;>subst h<;>rfl
theorem kE{α β:Type}{f:α->Option β}{g:β->α}(h:∀a b,f a=Y b->a=g b):∀{l:List α}{m:List β},l.mapM f=Y m->l=m.map g
 |[],m,e=>by simp at e;subst e;rfl
 |a :: l,m,e=>by
  simp only[List.mapM_cons,Option.pure_def,Option.bind_eq_bind]at e;obtain⟨b,hb,e⟩:=Zz.mp e;obtain⟨bs,d,e⟩:=Zz.mp e;cases e;rw[Zk,← h a b hb,← kE h d]
def xf(h:QX t=Y k):t=.tup (k.map aR):=by
 cases t with
 |tup l=>exact congrArg T.tup (kE (λa b=>DT) h)
 |_=>simp[QX]at h
section
def Rp.Mz(r:Rp G H v (.tup g) F):∃b d f,v=.ref b/\H b=Y (.tup d)/\RpL G H d g f:=by
 obtain⟨a,d,f,j,_,h⟩:=r.inv;exact⟨a,d,f,j,h⟩
end
end VS
end
section
namespace L2
open PySem PySem.Spec PyProof.Rows
section
def zq{o:Obj}(h:o.ExactDict)(e:o.data=.dict a b):o=ST.dO a b:=by
 obtain⟨c,d,l,j⟩:=o;obtain⟨i,g,f⟩:=h;subst i g f e;rfl
end
end L2
end
section
namespace VS
open PySem PySem.Spec PyProof.Rows L2
section
def jt{b:Expr}(s:PV G X a i)(o:PV G X b f)(n:PV G X c d)(l:lastMarks [.LtE,.Lt] [b,c]=R):LY G X (.Compare a [.LtE,.Lt] [b,c] pos) (oP oLe oLt i f d) :=
 PT.weak (Ac Bm vm s o n l) λO H Q h=>rX h (λU m r e=>by
  obtain⟨x,B,e⟩:=Zz.mp e;obtain⟨y,A,e⟩:=Zz.mp e;obtain⟨⟨u,z⟩,v,e⟩:=Zz.mp e;cases z with
  |bl q =>
   cases q with
   |false=>cases e;exact⟨_,rfl⟩
   |true =>
    obtain⟨j,w,e⟩:=Zz.mp (e);exact kL y j m r e
  |_=>cases e) λQ h=>yX El BE h
def qK{pos:Pos}(h:PV G X e a)(i:swapsWith e J pos.line X.env=pure R):PSV G X (.Expr e pos) (sX (xP a)) :=
 PS.weak (jF h i) λD O H d=>by
  obtain⟨Z,U,out,s,e,k⟩:=d;obtain⟨⟨v,l⟩,e1,e2⟩:=Zt.mp e;obtain⟨⟨m,t⟩,e3,f⟩:=Zt.mp e1;cases f;cases e2;exact⟨Z,U,m,t,s,e3,λv j F e1 r1 f1=>k Z O j (s.same e1) (Ks.same e1)⟩
@[simp] def sH(i:Nat)(c:Ex)(f:J8)(U:VS.Env):Option (Val×VS.Env):=match U[i]? with
 |some (some (.ow (.lst l)))=>(c U).bind λd=>(int? d.2).bind λn=>(Lf l.length n).bind λj=>(l[j]?).bind λx=>(f U).bind λa=>(aN x a).map λz=>(z.2,U.set i (Y (.ow (.lst (l.set j z.1)))))
 |_=>J
def EB{X:Cx}{pos apos:Pos}(i:Nat)(hN:X.N[i]?=Y x)(hv:MZ X.env.scope x)(hd:K3 x)(r:K4 x)(hb:PV G X b cb)(q:jI b)(ha:KD G X [e] cs)(hK:X.K=G.K)(Kp:XAC (.Subscript (.Name x p1) b p2) "append" X.env (eval (.Subscript (.Name x p1) b p2) X.env)=eval (.Subscript (.Name x p1) b p2) X.env)(KP:((backTo pe (P3 [e] X.env)).all (λx=>!x.1)&&(backToKw pe (SZ [] X.env)).all (λx=>x.1.isSome)
   && decide ([e].length+([]:List Keyword).length+(if ([]:List Keyword).isEmpty then 0 else 1)<30))=M)(Kc:(apos.endLine==pe.line)=M)(hs:K1 e [] X)(Kb:(backTo pe (P3 [] X.env)).any (·.1)=R)(Mj:swapsWith (.Call (.Attribute (.Subscript (.Name x p1) b p2) "append" apos) [e] [] pe) J pos.line X.env=pure R) :
  PSV G X (.Expr (.Call (.Attribute (.Subscript (.Name x p1) b p2) "append" apos) [e] [] pe) pos) (sX (sH i cb cs)) :=
 PS.weak (jF (wB Wa Wk Wm ip (tD wq (gp hN hv hd r) hb q) ha Kp KP Kc hs Kb) Mj) λD O H hq=>by
  refine L2.aq λP d=>?_;obtain⟨Z,U,out,s,e,k⟩:=hq;unfold sX sH at e;obtain⟨⟨y',U'⟩,e1,e2⟩:=Zt.mp e;refine d ?_;split at e1
  ·rename_i l0 o;refine L2.aq λP d=>?_;obtain⟨⟨mk,tk⟩,OE,e3⟩:=Zz.mp e1;obtain⟨n,F,e3⟩:=Zz.mp e3;obtain⟨j,h1,e3⟩:=Zz.mp e3;obtain⟨x0,h2,e3⟩:=Zz.mp e3;obtain⟨l,el,e3⟩:=Zz.mp e3;obtain⟨⟨x3,y3⟩,w,e6⟩:=Zt.mp e3;cases e6;cases e2;refine d ?_;cases tk with
   |int n0 =>
    refine L2.aq λP d=>?_;cases (F);obtain⟨v,E,g2⟩:=s.rp _ _ o;have nd:=s.nd i _ o;obtain⟨a,vs,Fs,rfl,L,f,m⟩:=g2.lst_inv;obtain⟨u,Fj,B,A,z⟩:=m.get j h2;refine d ?_;rw[L]at nd;refine⟨.ref a,E,Z,U,mk,_,s,OE,λy H1 F1 h r1 f1=>?_⟩;refine⟨a,vs,_,u,rfl,r1.int_inv,JV.of (h a _ f),l5 (by rw[m.len.1];exact h1) B,by rw[hK];exact jv (z.same h) w,Z,U,l,s.same h,el,λUd H4 XN q1 q2 C=>?_⟩;refine lJ Z U H H4 u x0 x3 Fj l Ud XN y3 _ z (((ZW.mp nd).2).sublist (du A)) ⟨h.trans q1,q2,⟨λn v' Q a1 a2=>(C.each n v' Q a1 a2).back h,C.nd⟩⟩ w λu' H5 Q g=>?_;obtain⟨s1,s2,s3,s4,s5⟩:=nh f m nd B A g;obtain⟨z1,S⟩:=s.mut o E (by
     rw[L];exact⟨g.kept,s5,g.J6,.lst s1 s2,s3,s4⟩)
    exact k _ O H5 z1 S
   |_=>cases F
  ·cases e1
end
section
def Fq{j pos'}(g:PV G X a ca):LY G X (.Compare a [.Is] [.Constant .none j pos'] pos) (IW ca) :=
 PT.weak (zK (Ff g)) λO H Q h=>D9 h (λU m r e=>by
  obtain⟨x,_,e⟩:=Zz.mp e;cases e;exact⟨_,rfl⟩) λQ f=>by
   obtain⟨Z,U,m,r,s,e,q⟩:=f;obtain⟨⟨n,x⟩,i,e⟩:=Zz.mp e;cases e;refine⟨Z,U,n,x,s,i,λv d F e1 r1 f1=>?_⟩;show Q (.bl (decide (v=.non))) d;rw[w6 r1];exact q _ d _ e1 (.bl _) Fp.nil
def ku{j pos'}(g:PV G X a ca):LY G X (.Compare a [.IsNot] [.Constant .none j pos'] pos) (fR ca) :=
 PT.weak (zK (BO g)) λO H Q h=>D9 h (λU m r e=>by
  obtain⟨x,_,e⟩:=Zz.mp e;cases e;exact⟨_,rfl⟩) λQ f=>by
   obtain⟨Z,U,m,r,s,e,q⟩:=f;obtain⟨⟨n,x⟩,i,e⟩:=Zz.mp e;cases e;refine⟨Z,U,n,x,s,i,λv d F e1 r1 f1=>?_⟩;show Q (.bl (!decide (v=.non))) d;rw[w6 r1];exact q _ d _ e1 (.bl _) Fp.nil
def nK(i:Nat)(k e:Ex)(U:VS.Env):Option Out:=(e U).bind λv=>match U[i]? with
 |some (some (.ow (.dct 0 l)))=>(k U).bind λd=>if hZ d.2/\JU v.2/\l.length<gL then Y (.nx (U.set i (Y (.ow (.dct 0 (dput l d.2 v.2)))))) else J
 |_=>J
def Ai{X:Cx}{pos:Pos}(i:Nat)(hr:p0 kr X.A)(hk:PV G X b ck)(he:PV G X e ce)(hN:X.N[i]?=Y x)(hv:MZ X.env.scope x)(hd:K3 x)(n:K4 x)(ha:∀v,assign (.Subscript (.Name x p1) b pos') X.env v=(do
   let h ← holding [v] (eval (.Name x p1) X.env)
   let iv ← holding [v,h] (eval b X.env)
   standAt pos'
   holding [v,h,iv] (setItem h iv v)
   release [v,h,iv] []))(hs:swapsWithSole [.Subscript (.Name x p1) b pos'] e pos.line X.env=pure R)(hw:swappedStores [.Subscript (.Name x p1) b pos'] e X.env=pure J)(h1:(assignEach [.Subscript (.Name x p1) b pos'] X.env).map (·.2)=[assign (.Subscript (.Name x p1) b pos') X.env]):PSV G X (.Assign [.Subscript (.Name x p1) b pos'] e pos) (nK i ck ce) :=
 PS.weak (vd he (vv (gp hN hv hd n) hk (AE (jR hr)) ha) hs hw h1) λD O H hq=>by
  obtain⟨Z,U,out,s,e,k⟩:=hq;obtain⟨⟨mv,p⟩,ev,e⟩:=Zz.mp e;split at e
  ·rename_i l m;obtain⟨⟨mk,tk⟩,OE,e⟩:=Zz.mp e;split at e
   ·rename_i hc;obtain⟨c1,c2,c3⟩:=hc;cases e;obtain⟨w,B,w2⟩:=s.rp _ _ m;have o:=s.nd i _ m;refine⟨Z,U,mv,p,s,ev,λxv H1 Fv L rv fv=>⟨w,B,Z,U,mk,tk,s.same L,OE,λkv P Fk F rk fk=>?_⟩⟩;have j:=L.trans F;have C:=rv.same F;have eF:=C.JU c2;refine L2.aq λP_ k_=>?_;subst eF;obtain⟨a,ns,vs,q,Fs,rfl,d,J5,hl,rfl,r⟩:=fq w2;rw[d]at o;obtain⟨y,rfl,OD⟩:=dr rk c1;subst OD;have E:=j a _ J5;have u:JT (P a):=by rw[E];exact True.intro
    have nd:=ZW.mp o;obtain⟨Nq,LR,LS,Lz,q1,q2,q3,q4,f⟩:=rq C hl (r.same j);refine k_ ?_;refine .inr ⟨a,_,rfl,uU.k E (by
     have:((ns.map aR).zip q).length<16777216:=c3;rw[YH,Zw]at this;rw[YH];have:=r.len.1;have:(KM:Nat)=16777216:=rfl;lia),?_⟩
    have g:Chg G H (.ref a) (Z i) (.dct 0 (dput ((ns.map aR).zip q) (aR y) p)) (upd P a (.dK (putK (ns.zip vs) y xv))) (a :: Lz.flatten):=by
     rw[d,q1,q3];refine Chg.upd j Zv u (.dct aH q2 (q4.off u λz=>nd.1 (f.subset z))) ?_ ?_
     ·exact ZW.mpr ⟨λz=>nd.1 (f.subset z),nd.2.sublist f⟩
     ·intro bb hb;rcases Zg.mp hb with rfl | hb
      ·exact .inl Zv
      ·exact .inl (Zu _ (f.subset hb))
    obtain⟨S,Q⟩:=s.mut m B g;exact k _ O _ S Q
   ·cases e
  ·cases e
end
end VS
end
section
namespace DP
open PySem PySem.Spec PyProof.Rows
def DL:typeLookup (.type "tuple") "keys" = pure J:=by rw[typeLookup_type,builtinLookup_eq_fast];kernel_rfl
def Cb{A:SC}{h:XAA}{os}(l:h.get? a=Y { cls:=.type "tuple",dict:=J,data:=.seq i k,slots:=j })(p:A.handled=J)(o:∀f b e,Heap.NewExcOf h f e "AttributeError" → E (.ref e) ⟨f,g,d,b,os⟩):Pi (KF prog w) A (getAttrBy (.ref a) (.str "keys" u) R) Q E ⟨h,g,d,n,os⟩:=by
 have hT:∀b,(⟨h,g,d,b,os⟩:KB).TypeIs (.ref a) "tuple" := λ_=>⟨_,l,rfl⟩
 have f1:=sub_AttributeError;have v:=Vh.lookup;have s:=Vh.bind (.ref a);have f5:=am_tuple_getattr_none
 repeat (any_goals (first | assumption | exact hT _ | ((with_reducible show Pi _ _ (call (Value.builtin "tuple.__getattribute__") _ _) _ _ _);refine call_meets Vh (hT _) am_entry_tuple_getattribute (F.args_tuple_getattribute_2 _ _) (meets_getattribute_miss_tuple a i k j "keys" _ DL (by decide +kernel)) ⟨l,p,λf b e m=>?_⟩) | wp_step))
 obtain⟨r,q,he⟩:=m.there;unfold getattributeRaised
 repeat (any_goals (first | assumption | wp_step))
 exact o _ _ _ m.of
end DP
end
section
namespace DP
open PySem PySem.Spec PyProof.Rows L2
def yk{A:SC}{h:XAA}{os}(o:h.get? a=Y { cls:=.type "tuple",dict:=J,data:=.seq j k,slots:=m })(s:A.handled=J)(p:∀b i e,Heap.NewExcOf h b e "AttributeError" → Q J ⟨b,g,d,i,os⟩):Pi (KF prog w) A (getAttr? (.ref a) "keys") Q E ⟨h,g,d,l,os⟩:=by
 have f1:=sub_AttributeError
 repeat (any_goals (first | assumption | (with_reducible refine Cb o (by assumption) λb i e f=>?_) | wp_step))
 obtain⟨⟨oc,r,n,u⟩,q,ge,ce,_,_⟩:=f.there;dsimp only at ce;subst ce
 repeat (any_goals (first | assumption | wp_step))
 exact p _ _ _ f
def nS:entryFor table "dict.update.loop" = Y Builtin.«dict.update.loop» := entryFor_of_tree (by kernel_rfl)
def iW:plainId "dict.update.loop" = M:=by decide +kernel
section
variable{R:Result->KB->Prop}
theorem loop{prog:SB}{w:XAB}{A:SC}{I:On}{fp wr:W5}{G:Array GenState->Array GenState->Prop}{n:Nat}{P:Nat->PP->Prop}{St:Nat->KB->Prop}(W:WalksS prog w A.in1 I fp wr G n P St)(d:On)(QD:d∉fp)(Z:XAA)(a:Nat->Key×PP)(hP:∀i v,P i v->∃p m X x,v=.ref p/\Z.get? p=Y { cls:=.type "tuple",dict:=J,data:=.seq #[x,(a i).2] m,slots:=X }/\(ba prog w).is (a i).1 x=M/\p∉d :: wr)(f:n<=KM) :
  ∀(k i:Nat)(s:KB),n-i=k->i<=n->St i s->(∀b o,b∉d :: wr->Z.get? b=Y o->s.heap.get? b=Y o)->s.heap.DictOf (ba prog w) d (merged [] ((List.range i).map a)) →
   (∀g,Moved (d :: wr) G s g->g.heap.DictOf (ba prog w) d (merged [] ((List.range n).map a))->R (.ok (.ret .none)) g) →
   codeAny (KF prog w) A (.builtin "dict.update.loop" ⟨[.ref d,.ref I,rawInt i,.none],[]⟩) R s:=by
 have TB:=λh=>QD (W.sub _ h);have y:∀b∈wr,b∈d :: wr:=λb f=>Zu _ f;intro k
 induction k with
 |zero =>
  intro i s hk hi U F H L;have Lh:i=n:=by lia
  subst Lh;refine Xu nS ?_;rw[YD iW _];refine Zy (W.done s _ _ U λg j=>?_);refine Zy (Zm ?_);exact Zm (L g (j.mono y) (by
   obtain⟨o,O,S,C,rest⟩:=H;exact⟨o,O,S,j.heap d _ TB C,rest⟩))
 |succ k ih =>
  intro i s hk hi U F H L;have Kt:i<n:=by omega
  refine Xu nS ?_;rw[YD iW _];refine Zy (W.item i s _ _ Kt U λv g N NO j=>?_);refine L2.aq λP_ k_=>?_;obtain⟨p,m,X,x,rfl,hp,D,l⟩:=hP i v N;refine k_ ?_;have RZ:=j.heap p _ (λz=>l (y p z)) (F p _ l hp);refine Zy (YK ?_);refine Zy (thn (Q:=λr B=>r=[x,(a i).2]/\B=g) ?pair λr B hr=>?rest)
  case pair =>
   refine WJ ?_
   repeat (any_goals (first | assumption | wp_step))
   exact⟨rfl,rfl⟩
  case rest =>
   obtain⟨rfl,rfl⟩:=hr;refine YK ?_;refine wpAny_dictSet_pairs D (by
   obtain⟨o,O,S,C,rest⟩:=H;exact⟨o,O,S,j.heap d _ TB C,rest⟩) (λh' dd sb=>?_) (by have:=merged_length_le [] ((List.range i).map a);simp at this;lia)
   have e1:((i:Int)+1)=((i+1:Nat):Int):=by lia
   rw[e1];refine Zm ⟨X9 iW _,ih (i+1) _ (by omega) Kt (W.frame _ B _ _ NO (WZ _) λb f o e=>?_) (λb o f e=>?_) (by
    rw[List.range_succ,Yy,show merged ([]:List (Key×PP)) ((List.range i).map a++[i].map a)=stored (merged [] ((List.range i).map a)) (a i).1 (a i).2 by unfold merged;rw[List.foldl_append];rfl];exact dd) λSQ q u=>?_⟩
   ·rw[sb.2 b (λh:b=d=>QD (by rw[← h];exact f))];exact e
   ·rw[sb.2 b (λh:b=d=>f (by rw[h];exact Zv))];exact j.heap b _ (λz=>f (y b z)) (F b o f e)
   ·refine L SQ (Moved.trans W.gtrans ((j.mono y).then_heap (WZ _) λb o f e=>?_) q) u;rw[sb.2 b (λh:b=d=>f (by rw[h];exact Zv))];exact e
end
end DP
end
section
namespace DP
open PySem PySem.Spec PyProof.Rows L2
def sI:mroOf (.type "dict")=pure [.type "dict",.type "object"]:=by rw[mroOf_type];kernel_rfl
def mN:typeLookup (.type "dict") "__new__" = pure (Y (.builtin "dict.__new__")):=by rw[typeLookup_type,builtinLookup_eq_fast];kernel_rfl
def tQ:TypeCalled "dict" "dict.__new__" "dict.__init__" :=
 ⟨by decide +kernel,by decide +kernel,⟨_,_,sI⟩,madeBy_type sI mN (by decide +kernel),by decide +kernel,by rw[isSubtype_type];kernel_rfl,F.slot_dict_init⟩
def mP(a:PP):checkTypeCall "dict" ⟨[a],[]⟩=pure ():=by kernel_rfl
def oy(a:PP):checkBuiltinCall "dict.__new__" ⟨[.type "dict",a],[]⟩=pure ():=by kernel_rfl
def og:entryFor table "dict.__new__" = Y Builtin.«dict.__new__» := entryFor_of_tree (by kernel_rfl)
def jk:plainId "dict.__new__" = M:=by decide +kernel
def o6:isSubtype (.type "dict") (.type "dict")=pure M:=by rw[isSubtype_type];kernel_rfl
def o7{s:KB}(a:PP)(h:b (.ref s.heap.objs.size) { s with heap:=s.heap.push { cls:=.type "dict",data:=.dict #[] } }) :
  codeAny (KF prog w) A (.call (.builtin "dict.__new__") ⟨[.type "dict",a],[]⟩) (wants b E) s:=by
 refine codeAny_of_tree (Zy (wpAny_of_eq (oy a) (Zm ⟨X9 jk _,Xu og ?_⟩)));rw[YD jk];have own:=o6;cases s
 wp_walk
 exact h
def yE{A:SC}{s:KB}{kv:Nat->Key×PP}(O:A.handled=J)(N:s.heap.get? a=Y { cls:=.type "tuple",dict:=J,data:=.seq f H,slots:=z })(hz:f.size<=KM)(hp:∀(i:Nat)(v:PP),f[i]?=Y v->∃p m B x,v=.ref p/\s.heap.get? p=Y { cls:=.type "tuple",dict:=J,data:=.seq #[x,(kv i).2] m,slots:=B }/\(ba prog w).is (kv i).1 x=M)(h:∀(r:XAA)(D:Nat),r.DictOf (ba prog w) s.heap.objs.size (merged [] ((List.range f.size).map kv))->(∀b o,s.heap.get? b=Y o->r.get? b=Y o)->Q (.ref s.heap.objs.size) { s with heap:=r,toks:=D }) :
  Pi (KF prog w) A (call (.type "dict") [.ref a]) Q E s:=by
 refine callType_codes (Q₁:=λobj G=>obj=.ref s.heap.objs.size/\G={ s with heap:=s.heap.push { cls:=.type "dict",data:=.dict #[] } }) tQ (mP _) F.entry_dict_init (o7 _ ⟨rfl,rfl⟩) λobj G hq=>?_;obtain⟨rfl,rfl⟩:=hq;refine⟨(⟨_,ZM _ L,rfl⟩),F.args_dict_init_2 _ _,?_⟩;obtain⟨l,g,d,D,os⟩:=s;have S:=Zj { cls:=.type "dict",data:=.dict #[] } N;unfold Builtin.«dict.__init__» Builtin.Dict.updateCommon Builtin.Dict.updateFrom;generalize eP:pyIter=itr;generalize eG:getAttr?=ga
 repeat (any_goals (first | assumption | wp_step))
 subst eG;refine yk S (by simp[O]) λC X e ne=>?_;refine Zy (wpAny_rule ?_);subst eP;have y:=ZV (ne.keeps l.objs.size { cls:=.type "dict",data:=.dict #[] } (ZM _ L));have j:∀{b:On}{o:Obj},l.get? b=Y o->b<l.objs.size:=λe=>ZV e;have n:∀b o,l.get? b=Y o->C.get? b=Y o:=λb o e=>ne.keeps _ _ (Zj _ e);have tup:C.IsTuple a f:=⟨_,(ne.keeps _ _ S),rfl,H,rfl⟩
 refine Zy (wpAny_pyIter_tuple tup (Zm ⟨X9 iW _,?_⟩));have alt:=j N;refine loop ((Walks.tuple (by simp[O]) C.objs.size a (Ze (XM alt y)) f).toS) l.objs.size (by simp only[Zg,WN,or_false,not_or];exact⟨Ze y,WX alt⟩) l kv (λi v hv=>?_) hz f.size 0 _ (by lia) (ZE _) ?_ (λb o hb e=>Zj _ (n b o e)) (by
  refine L2.aq λP_ k_=>?_;obtain⟨o,es,ep,ho,rest⟩:=(Heap.DictOf.new (knd:=ba prog w) l)
  refine k_ ?_;exact⟨o,es,ep,Zj _ (ne.keeps _ _ ho),rest⟩) λZ u dd=>?_
 ·obtain⟨p,m,B,x,rfl,P,g2⟩:=hp i v hv;have:=j P;exact⟨p,m,B,x,rfl,P,g2,by simp only[Zg,WN,or_false,not_or];exact⟨Ze this,Ze (XM this y)⟩⟩
 ·exact⟨⟨_,ZM _ L,rfl,rfl⟩,tup.push _⟩
 ·obtain⟨r,g',d',Ob,UB⟩:=Z;have e1:g'=g:=u.gens;have e2:d'=d:=u.drawn;have e3:=u.os;subst e1 e2 e3;refine⟨rfl,h r Ob dd λb o e=>u.heap b o (λU=>?_) (Zj _ (n b o e))⟩;have:=j e;simp only[Zg,WN,or_false]at U;rcases U with q | q
  ·exact Ze this q
  ·exact Ze (XM this y) q
end DP
end
section
namespace L2
open PySem PySem.Spec PyProof.Rows
section
abbrev N6:=On×Key×V
def DJ(I:Inv X a O H s){q:N6}(h:H q.1=Y (.tup [kV q.2.1,q.2.2])):∃b m e d,RelV q.2.2 b/\s.heap.get? q.1=Y { cls:=.type "tuple",dict:=J,data:=.seq #[d,b] m,slots:=e }/\(ba X.prog X.w).is q.2.1 d=M:=by
 refine L2.aq λv j=>?_;obtain⟨_,r,f,nd,⟨oc,u,i,p⟩,g,o,n,l⟩:=(I.xb _ _ h)
 have hd:=nd _ g;subst o l hd;obtain⟨d,b,rfl,r1,r2⟩:=vals2 f;refine j ?_;exact⟨b,n,p,d,r2,g,l9 r1⟩
theorem sA(I:Inv X a O H s):∀(b:List N6),(∀q∈b,H q.1=Y (.tup [kV q.2.1,q.2.2])) →
  ∃i:List (Key×PP),Paired (λ(q:N6) (e:Key×PP)=>q.2.1=e.1/\RelV q.2.2 e.2/\∃m f d,s.heap.get? q.1=Y { cls:=.type "tuple",dict:=J,data:=.seq #[d,e.2] m,slots:=f }/\(ba X.prog X.w).is e.1 d=M) b i
 |[],_=>⟨[],.nil⟩
 |q :: b,h=>by
  refine L2.aq λo l=>?_;obtain⟨j,m,f,d,r,g,k⟩:=DJ I (h q Zv);obtain⟨i,p⟩:=sA I b λx n=>h x (Zu _ n);refine l ?_;exact⟨(q.2.1,j) :: i,.cons ⟨rfl,r,m,f,d,g,k⟩ p⟩
theorem qj{R:N6->Key×PP->Prop}(f:∀q d,R q d->q.2.1=d.1/\RelV q.2.2 d.2):∀{e:List N6}{g:List (Key×PP)},Paired R e g->∀{a:List (Key×V)}{b:List (Key×PP)},KV a b->KV (e.foldl (λacc q=>putK acc q.2.1 q.2.2) a) (merged b g)
 |_,_,.nil,_,_,r=>r
 |_,_,.cons (a:=q) (b:=d) h t,a,b,r=>by
  obtain⟨e1,e2⟩:=f _ _ h;have:=qj f t (r.put d.1 e2);simp only[Wi,merged];rw[e1];exact this
theorem rQ:∀(b:List N6)(a:List (Key×V)),(b.foldl (λacc q=>putK acc q.2.1 q.2.2) a).length<=a.length+b.length
 |[],a=>Zn _
 |q :: b,a=>by
  have e:=rQ b (putK a q.2.1 q.2.2);have d:=gS a q.2.1 q.2.2;simp only[Wi,Zf];lia
def Paired.at_{α β:Type}{R:α->β->Prop}:∀{l:List α}{m:List β},Paired R l m->∀(i:Nat){a:α},l[i]?=Y a->∃b,m[i]?=Y b/\R a b:=by
 intro l m p
 induction p with
 |nil=>intro i a h;cases h
 |cons r t d =>
  intro i a h;cases i with
  |zero=>cases h;exact⟨_,rfl,r⟩
  |succ i=>exact d i h
def uZ{X:Cx}(N:X.calm=M):dm X (.type "dict") (λo H Q=>∃(p:On)(a:List N6),o=[.ref p]/\H p=Y (.tup (a.map λq=>V.ref q.1))/\(∀q∈a,H q.1=Y (.tup [kV q.2.1,q.2.2])) ∧
  ∀l,H l=J->Q (.ref l) (upd H l (.dK (a.foldl (λacc q=>putK acc q.2.1 q.2.2) [])))):=by
 intro x s O H o us Q I C h;refine L2.aq λP_ e=>?_;obtain⟨p,a,rfl,L,G,q⟩:=h;obtain⟨u,rfl,D⟩:=C.one;cases D;obtain⟨z,y,r,nd,⟨oc,od,E,MU⟩,g,S,n,P⟩:=(I.xb _ _ L)
 have hd:=nd _ g;subst S P hd;obtain⟨d,pr⟩:=sA I a G;refine e ?_;have l1:y.length=a.length:=by have:=r.length;simpa using this.symm
 have l2:=pr.length.symm;rw[Zw]at z;have j:(List.range y.toArray.size).map (λi=>(d[i]?).getD (.inl 0,.none))=d:=by
  apply V4;intro i;rw[ZG];by_cases b:i<d.length
  ·rw[List.getElem?_range (by simp;lia),Zp b];simp[b]
  ·rw[Yk (by simp;lia),Yk (by exact ZD b)];rfl
 refine DP.yE (kv:=λi=>(d[i]?).getD (.inl 0,.none)) (I.ok.hd N) g (by simp;lia) (λi v f=>?_) λh' tk A kp=>?_
 ·rw[XE]at f;have b:i<a.length:=by have:=(ZY.mp f).1;lia
  refine L2.aq λP_ e=>?_;obtain⟨w,e1,e2⟩:=Paired.at_ r i (by rw[ZG,Zp b];rfl);rw[f]at e1;cases e1;obtain⟨kv,e3,e4,_,m,B,F,Z,U⟩:=Paired.at_ pr i (Zp b);refine e ?_;rw[e3];exact⟨a[i].1,m,B,F,e2,Z,U⟩
 ·rw[j]at A;have ln:=rQ a [];exact⟨.ref s.heap.objs.size,_,I.laid kp (Zn _) (qr (by simp at ln;exact ZS ln z) (beq_eq_false_iff_ne.mpr (Y0 (Ze I.big))) (qj (λ_ _ h=>⟨h.1,h.2.1⟩) pr (.nil:KV [] [])) A),rfl,q _ (I.xb.fresh (Zn _))⟩
end
end L2
end
section
namespace VS
open PySem PySem.Spec PyProof.Rows L2
def qZ:Up->Option (List (T×T))
 |[]=>Y []
 |.tup [k,v] :: r=>if hZ k/\JU v then (qZ r).map ((k,v) :: ·) else J
 |_=>J
def oE:Ur->Uq
 |[(_,.tup l)]=>(qZ l).map λa=>(.fr,.dct 0 (a.foldl (λd q=>dput d q.1 q.2) []))
 |_=>J
section
def DI(h:qZ (t :: l)=Y d):∃k v a,t=.tup [k,v]/\hZ k=M/\JU v=M/\qZ l=Y a/\d=(k,v) :: a:=by
 unfold qZ at h;split at h
 ·rename_i b;cases b
 ·rename_i k v r b;cases b;split at h
  ·rename_i c;obtain⟨a,e1,e2⟩:=Zt.mp h;exact⟨k,v,a,rfl,c.1,c.2,e1,e2.symm⟩
  ·cases h
 ·cases h
theorem uA:∀{f:Up}{ws:List V}{B:X5}{d:List (T×T)},RpL G H ws f B->qZ f=Y d →
  ∃a:List N6,ws=a.map (λq=>V.ref q.1)/\(∀q∈a,H q.1=Y (.tup [kV q.2.1,q.2.2]))/\Paired (λ(q:N6) (x:T×T)=>x.1=aR q.2.1/\Rp G H q.2.2 x.2 []) a d
 |[],_,_,d,r,h=>by
  cases r;cases (h);exact⟨[],rfl,λq s=>by simp at s,.nil⟩
 |t :: f,_,_,d,r,h=>by
  obtain⟨k,v,m,rfl,u,o,w,rfl⟩:=DI h;cases r with
  |cons r1 r2 =>
   refine L2.aq λA g=>?_;obtain⟨a,e1,e2,e3⟩:=uA r2 w;obtain⟨b,C,D,rfl,hb,q⟩:=Rp.Mz r1;refine g ?_;cases q with
   |cons l q =>
    cases q with
    |cons j q =>
     refine L2.aq λA g=>?_;cases q;obtain⟨n,rfl,y⟩:=dr l u;have z:=j.JU o;subst z;refine g ?_;refine⟨(b,n,_) :: a,by rw[e1];rfl,λx i=>?_,.cons ⟨y,j⟩ e3⟩;rcases Zg.mp i with rfl | i
     ·exact hb
     ·exact e2 x i
theorem tR:∀{w:List N6}{u:List (T×T)},Paired (λ(q:N6) (x:T×T)=>x.1=aR q.2.1/\Rp G H q.2.2 x.2 []) w u->∀{ns:List Key}{g:List V}{i:Up}{j:X5},ns.length=g.length->RpL G H g i j->j.flatten=[] →
  ∃(f:List Key)(l:List V)(s:Up)(o:X5),w.foldl (λacc q=>putK acc q.2.1 q.2.2) (ns.zip g)=f.zip l/\u.foldl (λd q=>dput d q.1 q.2) ((ns.map aR).zip i)=(f.map aR).zip s/\f.length=l.length/\RpL G H l s o/\o.flatten=[]
 |_,_,.nil,ns,g,i,j,m,r,n=>⟨ns,g,i,j,rfl,rfl,m,r,n⟩
 |_,_,.cons (a:=q) (b:=x) h t,ns,g,i,j,m,r,n=>by
  refine L2.aq λS E=>?_;obtain⟨U,l,s,o,C,B,A,z,v⟩:=rq h.2 m r;rw[n]at v;obtain⟨D,y,t2,Q,P,O,N,L,F⟩:=tR t B z (List.sublist_nil.mp v);refine E ?_;refine⟨D,y,t2,Q,?_,?_,N,L,F⟩
  ·rw[Wi,C];exact P
  ·rw[Wi,h.1,A];exact O
def yU:fj G (λo H Q=>∃(p:On)(a:List N6),o=[.ref p]/\H p=Y (.tup (a.map λq=>V.ref q.1))/\(∀q∈a,H q.1=Y (.tup [kV q.2.1,q.2.2])) ∧
  ∀l,H l=J->Q (.ref l) (upd H l (.dK (a.foldl (λacc q=>putK acc q.2.1 q.2.2) [])))) oE:=by
 intro Z U S H l E Fs m t Q A e k;unfold oE at e;split at e
 ·rename_i O N;refine L2.aq λP u=>?_;obtain⟨s,e1,e2⟩:=Zt.mp e;cases e2;obtain⟨v,F,rfl,rfl,r⟩:=(A.rp).one;obtain⟨b,ws,Gs,rfl,hb,q⟩:=Rp.Mz r;obtain⟨a,rfl,f,pr⟩:=uA q e1;refine u ?_;refine⟨b,a,rfl,hb,f,λl n=>?_⟩;obtain⟨ns,i,D,C,B,z,y,x,w⟩:=tR pr (ns:=[]) L .nil L;have h:a.foldl (λacc q=>putK acc q.2.1 q.2.2) []=ns.zip i:=B;have g:s.foldl (λd q=>dput d q.1 q.2) []=(ns.map aR).zip D:=z;rw[h];have j:bg H (upd H l (.dK (ns.zip i))):=cV n;refine k _ _ (l :: C.flatten) j (by rw[g];exact .dct aH y (x.same j)) ?_;rw[w];exact Fp.new (A.same.free n) (by simp) Fp.nil
 ·cases e
def vH:bootBuiltins ("dict" : Str)=Y (.type "dict"):=by decide +kernel
def DF{X:Cx}(a:X.mg "dict" = J)(f:KD G X [e] cs)(b:{`q2,Gl X "dict"})(d:{`q2,X.calm=M})(he:{`q2,K1 e [] X}):PV G X (.Call (.Name "dict" p) [e] [] pos) (eN oE cs) :=
 jM (uZ d) yU b a vH f (he:=he)
end
end VS
end
section
namespace L2
open PySem PySem.Spec PyProof.Rows
section
variable{H:Hp}
def ql(I:Inv X pins O H s)(e:H d=Y (.dK a))(g:s.heap.get? d=Y o):Inv X pins O (upd H d (.frz o (.dK a))) s :=
 mV I (by rw[e];exact True.intro) ⟨rfl,λ_ _=>rfl⟩ ⟨o,g⟩ ⟨g,I.xb d _ e⟩
end
def Itk(d:On)(o:Obj)(a:List (Key×V)):It :=
 ⟨λi H=>H d=Y (.frz o (.dK a))/\i<a.length,λi H x b=>b=H/\∃p,a[i]?=Y p/\x=kV p.1,λi H=>H d=Y (.frz o (.dK a))/\a.length<=i⟩
def BQ(h:mf k v=M):RelV (kV k) v:=by
 rcases bS h with⟨i,t,rfl,rfl⟩ | ⟨x,t,rfl,rfl⟩
 ·exact⟨t,rfl⟩
 ·exact⟨t,rfl⟩
def pQ{P:SB}{w:XAB}{a:List DictEntry}{m:List (Key×PP)}(r:Pairs (ba P w) a m){i:Nat}{e:DictEntry}(h:a[i]?=Y e):∃q,m[i]?=Y q/\mf q.1 e.key=M:=by
 induction r generalizing i with
 |nil=>simp at h
 |@cons j b a l f g _ d =>
  cases i with
  |zero =>
   simp at h;subst h;exact⟨b,rfl,f⟩
  |succ i=>simpa using d (by simpa using h)
def Ge{l:List (Key×V)}{m:List (Key×PP)}(r:KV l m){i:Nat}{q:Key×PP}(h:m[i]?=Y q):∃p,l[i]?=Y p/\p.1=q.1:=by
 induction r generalizing i with
 |nil=>simp at h
 |@cons a f g e d t b =>
  cases i with
  |zero=>simp at h;subst h;exact⟨a,rfl,d.1⟩
  |succ i=>simpa using b (by simpa using h)
section
def FJ{K:Wy}(d f:On){D:Array DictEntry}(a:KV U G)(he:Pairs (ba P w) D.toList G) :
  Turn P w K tg (Itk d (ST.dO D S) U) [f] f (λi h=>h.get? f=Y (ST.kO d i D.size S)) where
 mem:=by simp
 obj:=λi h st b hb=>by
  rw[Zc.mp hb];exact⟨_,st,λv z=>by cases z⟩
 keep:=λi h y st k=>k f (by simp) _ st
 item:=by
  intro X u hw x r i j s O H E I m st hg;subst u hw x;obtain⟨C,f1,f2,B,A,f5⟩:=m f (by simp);refine ST.uo (I.ok.hd r) st ((I.xb d _ hg.1).1) (λe l y sb g=>?_) λN=>?_
  ·rw[← MY]at l;obtain⟨q,n,Q⟩:=pQ he l;obtain⟨p,Z,hb⟩:=Ge a n;exact⟨_,rfl,um g L L L ⟨kV p.1,H,(I.turned (t':=s.toks) (λb o hb e=>(sb.2 b hb).trans e) C f1 B A f5),by rw[hb];exact BQ Q,⟨rfl,p,Z,rfl⟩,g,λb hb=>(m b hb).1⟩⟩
  ·exfalso;rw[← MY,YF,he.length,← Wz a]at N;exact absurd hg.2 (by lia)
 done:=by
  intro X u hw x r i j s O H E I m st hg;subst u hw x;obtain⟨C,f1,f2,B,A,f5⟩:=m f (by simp);refine ST.uo (I.ok.hd r) st ((I.xb d _ hg.1).1) (λe l y sb g=>?_) λN y kp=>⟨rfl,I.turned (λb o hb e=>kp b o hb e) C f1 B A f5⟩
  exfalso;rw[← MY]at l;obtain⟨q,n,Q⟩:=pQ he l;have:=(ZY.mp n).1;have h2:=hg.2;rw[Wz a]at h2;lia
 self:=λ_ _ _ _ _ st hQ=>wpAny_pyIter_slot ⟨_,st,rfl⟩ F.slot_dict_keyiterator_iter (Wg F.slot_dict_keyiterator_iter ⟨_,st,rfl⟩ F.entry_dict_keyiterator_iter (Zm ⟨_,rfl, "dict_keyiterator",_,⟨_,st,rfl⟩,X7.lookup,hQ⟩) (F.args_dict_keyiterator_iter_1 _))
def iDk(e:TE):TI:=λO H R=>e O H λx b=>∃d a,x=.ref d/\b d=Y (.dK a)/\∀o,R (Itk d o a) (upd b d (.frz o (.dK a)))
def Hi(n:PE X l i):PI X tg l (iDk i):=by
 intro a s O H R I h;refine thn (n a s O H _ I h) λv s1 p=>?_;obtain⟨x,E,f,r1,j⟩:=p;refine L2.aq λD m=>?_;obtain⟨d,C,ex,e,q⟩:=j;subst ex;cases r1;obtain⟨z,y,u,rel,o,A,B,g,ex,hd,_,he,w⟩:=rS f.xb e;have eo:=zq ex hd;subst eo;refine m ?_;refine ST.zH y g ?_;refine⟨s1.heap.objs.size,[s1.heap.objs.size],_,_,_,rfl,(ql f e g).kept λb o e=>Zj _ e,FJ d _ rel he,ZM _ L,λb hb=>?_,q _⟩;have r:b=s1.heap.objs.size:=by simpa using hb
 subst r;exact(ql f e g).OB (Zn _) ((ql f e g).xb.fresh (Zn _))
end
end L2
namespace VS
open PySem PySem.Spec PyProof.Rows L2
noncomputable def sca:T->Bool
 |.non=>M
 |.bl _=>M
 |.int _=>M
 |.str _=>M
 |_=>R
end VS
end
section
namespace L2
def E8{α:Type}{b:List α}(d:b.length=n+1):∃a t,b=a :: t/\t.length=n:=by
 obtain⟨a,t,e⟩:=List.exists_cons_of_length_eq_add_one d;subst e;exact⟨a,t,rfl,Nat.succ.inj d⟩
def mO{α:Type}{b:List α}(d:b.length=1):∃a,b=[a]:=List.length_eq_one_iff.mp d
def dh{α:Type}{d:List α}(f:d.length=2):∃a b,d=[a,b]:=by
 obtain⟨a,t,rfl,e⟩:=E8 f;obtain⟨b,rfl⟩:=mO e;exact⟨a,b,rfl⟩
def uP{α:Type}{d:List α}(f:d.length=3):∃a b c,d=[a,b,c]:=by
 obtain⟨a,t,rfl,e⟩:=E8 f;obtain⟨b,c,rfl⟩:=dh e;exact⟨a,b,c,rfl⟩
def Iz{α:Type}{e:List α}(g:e.length=4):∃a b c d,e=[a,b,c,d]:=by
 obtain⟨a,t,rfl,f⟩:=E8 g;obtain⟨b,c,d,rfl⟩:=uP f;exact⟨a,b,c,d,rfl⟩
end L2
end
section
namespace ST
open PySem PySem.Spec PyProof.Rows
noncomputable def j8:Uu->Uu->Bool
 |[],[]=>R
 |[],_ :: _=>M
 |_ :: _,[]=>R
 |a :: d,b :: bs=>if a=b then j8 d bs else decide (a<b)
def Dh{s:KB}(hx:IsTupleKey (intKind prog w) s.heap x a)(Z:IsTupleKey (intKind prog w) s.heap y b)(h:P (.done (.ret (.bool (j8 x y)))) s) :
  Pi (KF prog w) A (Builtin.«tuple.__lt__» ⟨[.ref a,.ref b],[]⟩) P E s:=by
 have O:=Z.typeIs;refine L2.aq λP_ k_=>?_;obtain⟨oa,n,na,D,_,N,Qz⟩:=hx;obtain⟨ob,l,nb,Qv,_,K8,H⟩:=Z;refine k_ ?_;refine(show Pi _ _ (isInstance (.ref b) (.type "tuple")>>=_) _ _ s from ?_);refine Zy (wpAny_isInstance O isSubtype_tuple_tuple ?_);refine Zy (wpAny_tupleItemsOf D N ?_);refine Zy (wpAny_tupleItemsOf Qv K8 ?_);refine Zy ?_;refine WC _
  (λrest r p=>r.1=J/\p=s/\∃o m i j,rest=List.zip i j/\ItemsAre (intKind prog w) o i/\ItemsAre (intKind prog w) m j/\j8 o m=j8 x y/\decide (i.length<j.length)=decide (n.size<l.size))
  _ ?_ ?_ _ _ ⟨rfl,rfl,x,y,n.toList,l.toList,rfl,Qz,H,rfl,by simp⟩
 ·rintro⟨u,v⟩ rest r p ⟨hr,rfl,o,m,i,j,d,Q,z,q,hlen⟩;cases Q with
  |nil=>simp at d
  |@cons X u' C Z9 h1 f =>
   cases z with
   |nil=>simp at d
   |@cons U v' B Z8 h2 e =>
    obtain⟨⟨rfl,rfl⟩,rfl⟩:=d;refine Zy ((intKind prog w).eqBool h1 h2 ?_);by_cases G:X=U
    ·subst G;rw[Lu L];refine Zm ⟨rfl,rfl,C,B,Z9,Z8,rfl,f,e,?_,by simpa using hlen⟩;rw[← q,j8,Zs L]
    ·rw[ZZ G];have hf:j8 x y=decide (X<U):=by rw[← q,j8,Zo G]
     rw[hf]at h;obtain⟨S,rfl⟩:=Value.isInt_shape (h1);obtain⟨t2,rfl⟩:=Value.isInt_shape (h2);refine Zy (wpAny_rule (Zy (richCompare_gives (typeIs_int _ _ S) (typeIs_int _ _ t2) F.slot_int_lt F.entry_int_lt (F.args_int_lt_2 _ _) (gives_int_lt _ _ S t2) (λx=>nomatch x) ?_)));exact Zy (Zm (Zm (Zm h)))
 ·rintro⟨r1,r2⟩ p ⟨hr,rfl,o,m,i,j,d,Q,z,q,hlen⟩;subst hr;refine Zm ?_;have g:decide (n.size<l.size)=j8 x y:=by
   rw[← q,← hlen];cases Q with
   |nil =>
    cases z with
    |nil=>rfl
    |cons _ _=>simp[j8]
   |cons _ _ =>
    cases z with
    |nil=>simp[j8]
    |cons _ _=>simp at d
  refine(show P (.done (.ret (.bool (decide (n.size<l.size))))) p from ?_);rw[g];exact h
def IE{A:SC}{s:KB}(g:A.units<cLine)(d:IsTupleKey (intKind prog w) s.heap x a)(f:IsTupleKey (intKind prog w) s.heap y b)(h:Q (.bool (j8 x y)) s) :
  Pi (KF prog w) A (richCompare .Lt (.ref a) (.ref b)) Q E s :=
 wpAny_richCompare_same_room d.typeIs f.typeIs F.slot_tuple_lt (Wg F.slot_tuple_lt d.typeIs F.entry_tuple_lt (Dh d f ⟨_,rfl,(λe=>nomatch e),h⟩) (F.args_tuple_lt_2 _ _)) g
section
variable{R:Result->KB->Prop}{K:XAA->Prop}
def zR{prog:SB}{w:XAB}{A:SC}{I S:On}{fp wr:W5}{n:Nat}{P:Nat->PP->Prop}{St:Nat->XAA->Prop}{v0:PP}{kw:List (Str×PP)}(W:Walks prog w A.in1 I fp wr n P St)(H:S∉fp)(G:∀h d,K h->(∀b o,b∉wr->b≠S->h.get? b=Y o->d.get? b=Y o)->K d)(N:∀(j:Nat)(v:PP)(s:KB)(Q:Yx)(E:Yx),P (j+1) v->K s.heap->Q (.bool false) s->Pi (KF prog w) A.in1 (richCompare .Lt v v0) Q E s) :
  ∀(k j:Nat)(s:KB)(c:Nat),n-(j+1)=k->j+1<=n->St (j+1) s.heap->K s.heap →
  s.heap.get? S=Y { cls:=.type "list",dict:=J,data:=.seq #[v0,v0] c,slots:=#[] } →
  (∀d m,(∀b o,b∉wr->b≠S->s.heap.get? b=Y o->d.get? b=Y o)->R (.ok (.ret v0)) { s with heap:=d,toks:=m }) →
  codeAny (KF prog w) A (.builtin "min.loop" ⟨[.ref I,.none,.ref S],kw⟩) R s:=by
 have x:=λh=>H (W.sub _ h);have X:(toString "min" ++ toString ".loop" : String) = "min.loop" := by decide
 intro k
 induction k with
 |zero =>
  intro j s c B C u i g q;have Lh:j+1=n:=by lia
  refine Xu F.entry_min_loop ?_;rw[YD Wb _];refine(Zy (Vr g L ?_));refine(Zy (WJ (W.done s _ _ (Lh ▸ u) λd m f=>?_)));refine(Zy ?_);refine wpAny_updateSeq (f S _ x g) L (Zy (wpAny_letGo (Zm ?_)));exact q _ m λb o p a e=>(Xi _ _ (Y0 a)).trans (f b o p e)
 |succ k z =>
  intro j s c B C u i g q;have y:j+1<n:=by omega
  refine Xu F.entry_min_loop ?_;rw[YD Wb _];refine(Zy (Vr g L ?_));refine(Zy (WJ (W.item (j+1) s _ _ y u λv d m D Z f=>?_)));have l:=G _ _ i λb o hb _ e=>f b o hb e;refine(show Pi _ A.in1 (tryCatch (holding [v,v] (richCompare .Lt v v0>>=_)) _>>=_) _ _ _ from ?_);refine Zy (WJ (YK (Zy (N j v _ _ _ D l ?_))));refine Zy (YK (Y2 ?_));refine Zy (wpAny_letGo (Zm ?_));refine Zy (wpAny_letGo ?_);rw[X];refine Zm ⟨X9 Wb _,z (j+1) _ c (by omega) y Z l (f S _ x g) λr U O=>?_⟩;exact q r U λb o p a e=>O b o p a (f b o p e)
end
def xM(a d:PP):argsOk "min" ⟨[a],[(("default" : Str),d)]⟩:=by kernel_rfl
def yq{A:SC}(h:Pi (KF prog w) A.in1 (pyIter x) (λit a=>∃I fp wr n P St,it=.ref I/\Walks prog w A.in1 I fp wr n P St/\St 0 a.heap/\(∀b∈fp,b<a.heap.objs.size) ∧
   ((n=0/\∀d i,(∀b o,b∉wr->a.heap.get? b=Y o->d.get? b=Y o)->Q .none { a with heap:=d,toks:=i }) ∨
    (0<n/\∀z,P 0 z->(∀(j:Nat)(v:PP)(s:KB)(Q:Yx)(E:Yx),P (j+1) v->(∀b o,b∉wr->a.heap.get? b=Y o->s.heap.get? b=Y o)->Q (.bool R) s->Pi (KF prog w) A.in1 (richCompare .Lt v z) Q E s) ∧
     ∀d i,(∀b o,b∉wr->a.heap.get? b=Y o->d.get? b=Y o)->Q z { a with heap:=d,toks:=i }))) E s) :
  Pi (KF prog w) A (call (.builtin "min") [x] [(("default" : Str),.none)]) Q E s:=by
 have U:(toString "min" ++ toString ".loop" : String) = "min.loop" := by decide
 refine wpAny_call (codeAny_call_builtin F.plain_min F.entry_min ?_);have N:=xM x .none;have H:Pi (KF prog w) A.in1 (Builtin.«min» ⟨[x],[(("default" : Str),.none)]⟩) (λfin l=>match fin with
   |.done f=>(match (Except.ok f:Result) with | .ok (.ret v)=>Q v l | .ok _=>False | .error e=>E e l)
   |.again S=>S.quiet=M/\codeAny (KF prog w) A S (λr l=>match r with | .ok (.ret v)=>Q v l | .ok _=>False | .error e=>E e l) l) E s:=by
  refine(?_);refine Zy (wpAny_of_eq (show Builtin.Builtins.bindParams "min" ["key", "default"] 0 ⟨[],[(("default" : Str),.none)]⟩=pure [J,Y .none] from by kernel_rfl) ?_);refine Zy (Zm ?_);refine Zy (Xy h (λit a h₂=>?_) λ_ _ e=>e);refine L2.aq λP_ Z=>?_;obtain⟨I,fp,wr,n,P,St,rfl,W,KU,R8,g⟩:=h₂;refine Z ?_;refine Zy (WH ?_);have D:=λhm=>Yf _ (R8 _ hm);have O:(a.heap.push { cls:=.type "list",data:=.seq #[] }).get? a.heap.objs.size=Y { cls:=.type "list",dict:=J,data:=.seq #[] 0,slots:=#[] }:=ZM _ L;have X:=W.frame 0 a.heap (a.heap.push { cls:=.type "list",data:=.seq #[] }) KU λb _ o e=>Zj _ e;rw[U];refine Zm ⟨X9 Wb _,Xu F.entry_min_loop ?_⟩;rw[YD Wb _];refine(Zy (Vr O L ?_));rcases g with⟨rfl,g⟩ | ⟨G,g⟩
  ·refine(Zy (WJ (W.done { a with heap:=a.heap.push { cls:=.type "list",data:=.seq #[] } } _ _ X λd i y=>?_)));exact Zy (wpAny_rule (Zm (g d i λb o m e=>y b o m (Zj _ e))))
  ·refine(Zy (WJ (W.item 0 { a with heap:=a.heap.push { cls:=.type "list",data:=.seq #[] } } _ _ G X λv d i hP p y=>?_)));have u:=y _ _ (λh=>D (W.sub _ h)) O;obtain⟨Ru,g⟩:=g v hP;refine(show Pi _ A.in1 (updateSeq a.heap.objs.size (λ_=>#[v,v])>>=_) _ _ _ from Zy ?_);refine wpAny_updateSeq u L ?_;rw[U];have kp:∀b o,b∉wr->a.heap.get? b=Y o->(d.update a.heap.objs.size (Obj.mapSeq λ_=>#[v,v])).get? b=Y o:=λb o m e =>
    (Xi _ _ (Y0 (Ze (ZV e)))).trans (y b o m (Zj _ e))
   refine Zm ⟨X9 Wb _,zR (K:=λh=>∀b o,b∉wr->a.heap.get? b=Y o->h.get? b=Y o) W D (λh1 h2 k1 k2 b o hb e=>k2 b o hb (Ze (ZV e)) (k1 b o hb e)) Ru _ 0 _ _ L G (W.frame _ _ _ p λb B o e=>?_) kp (Wr _ u L) λC QO Rq=>?_⟩
   ·exact(Xi _ _ (λh:a.heap.objs.size=b=>D (by rw[h];exact B))).trans e
   ·exact g C QO λb o m e=>Rq b o m (Ze (ZV e)) (kp b o m e)
 simp only[checkBuiltinCall,F.kind_min];cases q:Manifest.signature? "min" with
 |none=>exact Zm H
 |some sig =>
  simp only[argsOk,q]at N;refine(show Pi _ A.in1 (Bind.checkArgs "min" sig ⟨[x],[(("default" : Str),.none)]⟩) _ _ s from ?_);rw[N];exact Zm H
end ST
namespace VS
noncomputable def pr2:T->Option (Int×Int)
 |.tup [.int a,.int b]=>Y (a,b)
 |_=>J
def pF:Up->Option (List (Int×Int))
 |[]=>Y []
 |t :: r=>(pr2 t).bind λp=>(pF r).map (p :: ·)
noncomputable def zx(p q:Int×Int):Bool:=if p.1=q.1 then decide (p.2<q.2) else decide (p.1<q.1)
def vS:Ur->Uq
 |[(_,.lst l)]=>(pF l).bind fun
  |[]=>Y (.fr,.non)
  |p :: r=>if r.all (λq=>!zx q p) then Y (.fr,.tup [.int p.1,.int p.2]) else J
 |_=>J
end VS
namespace VS
open PySem PySem.Spec PyProof.Rows L2
section
def Dp{p:Int×Int}(h:pr2 t=Y p):t=.tup [.int p.1,.int p.2]:=by
 unfold pr2 at h;split at h
 ·cases h;rfl
 ·cases h
def CU{a b:Int}(r:Rp G H v (.tup [.int a,.int b]) F):∃c,v=.ref c/\H c=Y (.tup [.int a,.int b]):=by
 obtain⟨c,h,i,rfl,_,f,d⟩:=r.Kq;cases d with
 |cons g d =>
  cases d with
  |cons x2 d =>
   cases d;rw[g.int_inv,x2.int_inv]at f;exact⟨c,rfl,f⟩
def FX(d:Up):∀{f:List (Int×Int)}{b:List V}{i:X5},pF d=Y f->RpL G H b d i->∃g:W5,b=g.map V.ref/\Paired (λ(a:On) (q:Int×Int)=>H a=Y (.tup [.int q.1,.int q.2])) g f:=by
 induction d with
 |nil =>
  intro f b i h r;cases h;cases r;exact⟨[],rfl,.nil⟩
 |cons t d j =>
  intro f b i h r;obtain⟨p,o,m⟩:=Zz.mp (h);obtain⟨s,n,rfl⟩:=Zt.mp m;cases r with
  |cons r1 r2 =>
   obtain⟨g,rfl,q⟩:=j n r2;rw[Dp o]at r1;obtain⟨c,rfl,l⟩:=CU r1;exact⟨c :: g,rfl,.cons l q⟩
def yx{α β:Type}{F:α->β->Prop}{l:List α}{m:List β}(r:Paired F l m):∀(i:Nat)(a:α),l[i]?=Y a->∃b,m[i]?=Y b/\F a b:=by
 induction r with
 |nil=>intro i a h;simp at h
 |@cons x y g f h t d =>
  intro i a e;cases i with
  |zero=>simp at e;subst e;exact⟨y,rfl,h⟩
  |succ i=>simpa using d i a (by simpa using e)
def JI(q p:Int×Int):ST.j8 [q.1,q.2] [p.1,p.2]=zx q p:=by
 unfold zx ST.j8 ST.j8 ST.j8;by_cases h:q.1=p.1
 ·rw[Zs h,Zs h];by_cases g:q.2=p.2
  ·rw[Zs g,ZZ (by lia)]
  ·rw[Zo g]
 ·rw[Zo h,Zo h]
theorem items_int{P:SB}{w:XAB}:∀{ks:Uu}{a:Vq},aW (ks.map V.int) a->ItemsAre (intKind P w) ks a
 |[],_,r=>by rw[V1]at r;cases r;exact .nil
 |k :: ks,_,r=>by
  rw[Zk]at r;cases r with
  |@cons _ u _ _ h t =>
   refine .cons ?_ (items_int t);obtain⟨q,rfl⟩:=(h)
   show Value.isInt k (.int k q)=M;simp[Value.isInt]
def EI{X:Cx}(hr:p0 kr X.A)(hm:X.mg "min" = J)(ha:KD G X [e] cs)(hg:Gl X "min")(hc:X.calm=M)(hK:X.K=G.K)(he:backTo pos (P3 [e] X.env)=(R,eval e X.env) :: backTo pos (P3 [] X.env))(hpl:(backTo pos (P3 [e] X.env)).any (·.1)=R) :
  PV G X (.Call (.Name "min" p) [e] [⟨Y "default",.Constant .none jj p2,kp⟩] pos) (eN vS cs):=by
 intro d s O H Q I h;refine L2.aq λP_ f=>?_;obtain⟨Z,U,m,t,sr,n,kk⟩:=h;obtain⟨l,el,n⟩:=Zz.mp n;refine f ?_;refine X2 (jX I hg hm zm ?_ (by decide) L);refine PyProof.Rows.callWith_kw (thn (ha pos d s O H (λvs C=>∃S,Args G Z U H C l vs S) I ⟨Z,U,l,sr,el,λvs C S q1 q2 q3=>⟨S,q1,q2,q3⟩⟩) λus s1 h_=>?_) he hpl L L;obtain⟨vs,C,I1,r1,S,A⟩:=h_;refine thn ((B0 (BA) FG) pos d s1 O C (λzs r=>zs=[.non]/\r=C) I1 ⟨rfl,rfl⟩) λws g h_=>?_;obtain⟨zs,r,B,rz,ez,eH⟩:=h_;subst ez eH;obtain⟨u,rfl,x⟩:=rz.one;obtain rfl:=(x)
 refine(?_);refine L2.aq λP_ f=>?_;unfold vS at n;split at n
 ·rename_i mx y ap;obtain⟨ps,e1,e2⟩:=Zz.mp n;obtain⟨v,F',rfl,rfl,rx⟩:=(A.rp).one;obtain⟨N,ys,Gs,rfl,rfl,J5,ra⟩:=rx.lst_inv;obtain⟨u,rfl,x⟩:=r1.one;obtain rfl:=(x)
  obtain⟨F,rfl,qs⟩:=FX _ e1 ra;obtain⟨D,rv,pl,hz⟩:=B.list (by rw[hK];exact JV.of J5);have hl:N<g.heap.objs.size:=by obtain⟨_,e,_⟩:=pl.isList;exact ZV e
  have hlen:D.length=F.length:=by have:=rv.length;rw[Zw]at this;exact this.symm
  have To:=(Wz qs).symm;have at_:∀(i:Nat)(v:PP),D.toArray[i]?=Y v->∃a q,v=.ref a/\ps[i]?=Y q/\r a=Y (.tup [.int q.1,.int q.2]):=λi v E=>by
   rw[XE]at E;have QA:=(ZY.mp E).1;have ia:i<F.length:=by lia
   obtain⟨u,hu,x⟩:=rv.get (i:=i) (by rw[ZG,Zp ia];rfl);rw[hu]at E;cases E;obtain⟨q,UN,hq2⟩:=yx qs i F[i] (Zp ia);exact⟨F[i],q,x,UN,hq2⟩
  have key:∀{h:XAA}{a:On}{q:Int×Int},r a=Y (.tup [.int q.1,.int q.2])->(∀b o,b∉[g.heap.objs.size]->(g.heap.push { cls:=.type "list_iterator",data:=.fields #[.ref N,.int 0 0] }).get? b=Y o->h.get? b=Y o)->IsTupleKey (intKind X.prog X.w) h [q.1,q.2] a:=λ{h a q} ea kp=>by
   refine L2.aq λP_ f=>?_;obtain⟨_,Pf,v2,_,o2,g1,g2,n2,g3⟩:=(B.xb a _ ea)
   refine f ?_;refine⟨o2,Pf.toArray,n2,kp a o2 (λz=>?_) (Zj _ g1),g2,g3,?_⟩
   ·rw[Zc.mp z]at g1;exact absurd (ZV g1) (Yf _)
   ·have:=items_int (P:=X.prog) (w:=X.w) (ks:=[q.1,q.2]) v2;simpa using this
  refine f ?_;refine ST.yq (Vg pl.isList ⟨g.heap.objs.size,[g.heap.objs.size,N],[g.heap.objs.size],D.toArray.size,_,_,rfl,Walks.list (A:=X.A.in1) (B.ok.hd hc) _ N (Ze hl) D.toArray,
   ⟨⟨_,ZM _ L,rfl,rfl⟩,pl.isList.push _⟩,λb hb=>?_,?_⟩)
  ·rw[Xb];rcases Zg.mp hb with rfl | hb
   ·exact Ym _
   ·rw[Zc.mp hb];exact L7 hl
  ·cases ps with
   |nil =>
    cases e2;refine .inl ⟨by rw[ZF,hlen,← To];rfl,λh' tk hk=>⟨.non,r,B.kept (rH hk),rfl,kk _ _ _ A.same .non Fp.nil⟩⟩
   |cons q0 ps =>
    dsimp only at e2;split at e2
    ·rename_i Kk;cases e2;refine .inr ⟨by rw[ZF,hlen,← To,Zf];exact Xm _,λv0 hv0=>?_⟩;refine L2.aq λP_ f=>?_;obtain⟨a0,r0,rfl,h0,RX⟩:=at_ 0 v0 hv0
     cases h0;refine f ?_;refine⟨λj v s' Q' E' hv kp hQ'=>?_,λh' tk hk=>⟨.ref a0,r,B.kept (rH hk),rfl,?_⟩⟩
     ·obtain⟨aj,rj,rfl,hj,htj⟩:=at_ (j+1) v hv
      refine ST.IE (by have:=hr.un;show X.A.units+1<cLine;lia) (key htj kp) (key RX kp) ?_;have:=Lw.mp Kk rj (YZ (by simpa using hj));rw[JI];cases Kt:zx rj q0 with
      |false=>exact hQ'
      |true=>rw[Kt]at this;cases this
     ·exact kk _ _ _ A.same (.tup RX (.cons (.int _) (.cons (.int _) .nil))) Fp.nil
    ·cases e2
 ·cases n
end
end VS
end
section
namespace VS
open PySem PySem.Spec PyProof.Rows L2
inductive Res where | ok (v:Val) | ex (x:Str)
inductive OutX where | ok (o:Out) | ex (x:Str) (U:VS.Env)
abbrev ExX:=VS.Env->Option Res
abbrev SxX:=VS.Env->Option OutX
end VS
end
section
namespace VS
open PySem PySem.Spec PyProof.Rows L2 PySem.F
section
variable{K:Wy}
noncomputable def B6:Fn:=λa=>match a with
 |[.scr _]=>Y (.fr,.bl M)
 |_=>J
end
end VS
end
section
namespace TS
open PySem PySem.Spec PyProof.Rows
def xQ(o:∀v∈f,∃x t,v=Value.str x t){d:Array Pv}(g:d.Perm (pairsOf f))(p:SortedToK strKind d (pairsOf f).size):((d.map (·.2)).toList.map strOf).Pairwise (λa b=>¬b.cps.toList<a.cps.toList):=by
 obtain⟨n,m⟩:=l7 g;rw[Xq,YG];intro i j r l u;have key:∀i (h:i<(d.map (·.2)).toList.length),KK strKind d i=(strOf (d.map (·.2)).toList[i]).cps.toList:=λi h=>by
  have e:d[i]?=Y ((d.map (·.2)).toList[i],(d.map (·.2)).toList[i]):=by
   rw[← MY,← m,ZG,Zp h];rfl
  obtain⟨x,t,ex⟩:=o _ (n.mem_iff.mp (Yp h));unfold KK;rw[e];rw[ex];rfl
 have q:=p i j (ZO u) (by rw[← g.size_eq];simpa using l);rw[key i r,key j l]at q;exact of_decide_eq_false q
def qu{A:SC}(u:∀(p:SC)(y:Yx),p.handled=A.handled->Pi (KF prog w) p (collect x) (λd s1=>(∀v∈d,∃x t,v=Value.str x t)/\d.length<64/\∀(out:Vq)(i:XAA)(e:Nat),out.Perm d->(out.map strOf).Pairwise (λa b=>¬b.cps.toList<a.cps.toList)->(∀b o,s1.heap.get? b=Y o->i.get? b=Y o)->i.get? s1.heap.objs.size=Y (seqObj "list" out.toArray e)->Q (.ref s1.heap.objs.size) { s1 with heap:=i }) y s) :
  Pi (KF prog w) A (call (.builtin "sorted") [x]) Q E s:=by
 refine Calls.call_function_entry kind_sorted plain_sorted entry_sorted (args_sorted1 _) (?_);refine Zy (Zm (Zy (Xy (u A.in1 (λ_ _=>False) L) ?_ λ_ _ e=>e.elim)));rintro l s1 ⟨f,g,h⟩;refine Zy (wpAny_newList ?_ (by rw[XW];omega));have j:(s1.heap.push (seqObj "list" l.toArray 0)).get? s1.heap.objs.size=Y (seqObj "list" l.toArray 0):=ZM _ L;refine Zy (YK (Wg slot_list_sort ⟨_,j,rfl⟩ entry_list_sort (list_sort_treeK strKind_oneLt j (strsAre_map _ f).keysOf (λB z rest e=>keyKind_strs (by rw[← e];exact strsAre_map _ f)) g λq n r=>⟨_,rfl,?_⟩) (args_list_sort _)));obtain⟨e,he⟩:=sortedHeap_at j;exact Zm ⟨_,rfl,h ((arrOf q).map (·.2)).toList _ e (l7 n).1 (xQ f n r) (λb o m=>by
  have hb:=ZV m;rw[sortedHeap_old (Ze hb) (by rw[size_push'];exact L7 hb),XR _ _ _ (Ze hb)];exact m) he⟩
end TS
namespace L2
open PySem PySem.Spec PyProof.Rows TS
section
def jZ{X:Cx}(hc:X.calm=M):dm X (.builtin "sorted") (λC H Q=>∃p,∃(d:List Str)(j:List V),C=[.ref p]/\d.length<64/\d.length=j.length/\H p=Y (.dK ((d.map Sum.inr).zip j)) ∧
  ∀(l:On)(B:List Str),H l=J->B.Perm d->B.Pairwise (λa b=>¬b.cps.toList<a.cps.toList)->Q (.ref l) (upd H l (.lst (B.map V.str)))):=by
 intro f s O H C us Q I P h;refine L2.aq λP_ Z=>?_;obtain⟨p,d,j,rfl,h64,hl,hq,q⟩:=h;obtain⟨u,rfl,S⟩:=P.one;cases S;obtain⟨hz,hS,F,rel,A⟩:=rS I.xb hq;obtain⟨ep,A⟩:=A.dictAt;refine Z ?_;have o:F.length=d.length:=by
  have:=rel.length;rw[YH,Zw]at this;lia
 refine TS.qu λA' E' hA=>PySem.W.kdu_collect (PySem.W.kdl_dict hS) (hA.trans (I.ok.hd hc)) A (by rw[YH,Zw]at hz;lia) λE N acc kp G=>?_;have L:Inv X f O H { s with heap:=E,toks:=N }:=I.kept kp;have r:acc.toList.length=d.length:=by rw[Yg,G.1,o]
 have each:∀i v,acc.toList[i]?=Y v->∃x t,v=Value.str x t/\d[i]?=Y x:=λi v g=>by
  rw[MY]at g;obtain⟨k,x,e1,e2⟩:=G.2 i v g;have e3:=(λi=>by
  have D:((F.map (·.1)))[i]?=(d.map (Sum.inr:Str->Key))[i]?:=by
   rw[← rel.keys];rw[Uy (by rw[Zw];exact Wt hl)]
  rw[ZG,ZG]at D;exact D) i
  rw[e1]at e3;cases z:d[i]? with
  |none=>rw[z]at e3;cases e3
  |some y =>
   rw[z]at e3;have e5:=Zl e3;subst e5;obtain⟨t,rfl⟩:=Value.isStrOf_shape (e2);exact⟨y,t,rfl,z⟩
 have g:∀v∈acc.toList,∃x t,v=Value.str x t:=λv n=>by
  obtain⟨i,hi,e⟩:=Yb n;obtain⟨x,t,e1,_⟩:=each i v (by rw[Zp hi,e]);exact⟨x,t,e1⟩
 have es:acc.toList.map strOf=d:=by
  apply V4;intro i;rw[ZG];cases e:acc.toList[i]? with
  |none =>
   have:=YF.mp e;rw[YF.mpr (by lia)];rfl
  |some v =>
   obtain⟨x,t,rfl,e1⟩:=each i v e;rw[e1];rfl
 refine⟨g,by omega,λout h2 e m U KI he=>?_⟩;exact⟨.ref E.objs.size,_,L.laid KI (Zn _) (show dE X.prog X.w _ h2 _ (.lst ((out.map strOf).map V.str)) from⟨(by rw[Zw,Zw,m.length_eq,r,XW];omega),out,e,sD (λv n=>g v (m.mem_iff.mp n)),he⟩),rfl,q _ _ (L.xb.fresh (Zn _)) (by rw[← es];exact m.map _) U⟩
end
end L2
namespace VS
open PySem PySem.Spec PyProof.Rows L2
section
def hV:Ur->Uq
 |[(_,.dct 0 l)]=>(strs? (l.map (·.1))).bind λa=>if a.length<64/\a.all txB=M then Y (.fr,.lst ((fM a).map .str)) else J
 |_=>J
def AH:fj G (λn H Q=>∃p,∃(d:List Str)(f:List V),n=[.ref p]/\d.length<64/\d.length=f.length/\H p=Y (.dK ((d.map Sum.inr).zip f)) ∧
  ∀(l:On)(g:List Str),H l=J->g.Perm d->g.Pairwise (λa b=>¬b.cps.toList<a.cps.toList)->Q (.ref l) (upd H l (.lst (g.map V.str)))) hV:=by
 intro Z U E H l f N m t Q A e k;unfold hV at e;split at e
 ·rename_i C x;obtain⟨d,e1,e2⟩:=Zz.mp e;split at e2
  ·rename_i hb;refine L2.aq λD w=>?_;cases e2;obtain⟨v,F,rfl,rfl,q⟩:=(A.rp).one;obtain⟨a,u,j,o,L,rfl,rfl,z,h,rfl,r⟩:=fq q;refine w ?_;have B:u.length=o.length:=by rw[h,r.len.1]
   rw[(Uy (by rw[Zw];exact Wt B))]at e1;have i:=keys_str e1;refine⟨a,d.map sx,j,rfl,by rw[Zw];exact hb.1,?_,by rw[← i];exact z,AW k A.same λs y=>Fg (Lw.mp hb.2 s y)⟩;rw[← h,i,Zw,Zw,Zw]
  ·cases e2
 ·cases e
def v9{X:Cx}(a:X.mg "sorted" = J)(f:KD G X [e] cs)(b:{`q2,Gl X "sorted"})(g:{`q2,X.K=G.K})(d:{`q2,X.calm=M})(he:{`q2,K1 e [] X}):PV G X (.Call (.Name "sorted" p) [e] [] pos) (eN hV cs) :=
 jh (jZ d) AH b a qi f (he:=he)
end
noncomputable def Rg:T->Bool
 |.bl true=>M
 |_=>R
mutual
def h9:T->Bool
 |.tup l=>eJ l
 |.lst l=>eJ l
 |.dct _ l=>ui l
 |.obj _ l=>fE l
 |_=>M
def eJ:Up->Bool
 |[]=>M
 |t :: r=>h9 t&&eJ r
def ui:List (T×T)->Bool
 |[]=>M
 | (_,v) :: r=>h9 v&&ui r
def fE:List (Nat×T)->Bool
 |[]=>M
 | (n,v) :: r=>(h9 v && !(n==0&&Rg v))&&fE r
end
theorem iz:∀{b:Up}{a:Up},b.length=a.length->ui (b.zip a)=M->eJ a=M
 |[],[],_,_=>rfl
 |_ :: _,[],h,_=>nomatch h
 |[],_ :: _,h,_=>nomatch h
 |k :: b,t :: a,h,e=>by
  have e:=ZP.mp (e);exact ZP.mpr ⟨e.1,iz (Nat.succ.inj h) e.2⟩
theorem eZ:∀{b:Uv}{a:Up},b.length=a.length->fE (b.zip a)=M->eJ a=M
 |[],[],_,_=>rfl
 |_ :: _,[],h,_=>nomatch h
 |[],_ :: _,h,_=>nomatch h
 |k :: b,t :: a,h,e=>by
  have e:=ZP.mp (e);exact ZP.mpr ⟨(ZP.mp e.1).1,eZ (Nat.succ.inj h) e.2⟩
section
variable{H:Hp}
theorem Rp.at{t:T}(m:Me)(r:Rp G H v t F):h9 t=M->Rp (G.at m) H v t F :=
 Rp.rec (G:=G) (H:=H) (motive_2:=λg e j _=>eJ e=M->RpL (G.at m) H g e j)
  (λ_=>.non) (λb _=>.bl b) (λi _=>.int i) (λs h _=>.str s h) (λh _=>.scr h) (λh _ d f=>.tup h (d f)) (λh _ d f=>.lst h (d f))
  (λh l q d f=>.dct h l (d (iz (by rw[Zw,l];exact q.len.1) f))) (λh l q d f=>.dctT h l (d (iz (by rw[Zw,l];exact q.len.1) f)))
  (λh l n q d f=>.dctN h l n (d (iz (by rw[Zw,l];exact q.len.1) f))) (λh l q d f=>.dctZ h l (d (iz (by rw[Zw,l];exact q.len.1) f))) (λh u _=>.exc h u)
  (λ{c a y b x g e j} h l w q d f=>by
   have f:=ZP.mp (f);have hb:b=R:=by
    cases b with
    |false=>rfl
    |true=>exact nomatch f.1
   refine .ins h l (λz=>?_) (d (eZ (by rw[l];exact q.len.1) f.2));rw[hb]at z;cases z)
  (λ_ _ _ f=>nomatch f)
  (λ_=>.nil) (λ_ _ p o f=>by
   have f:=ZP.mp f;exact .cons (p f.1) (o f.2)) r
theorem RpL.at(m:Me):∀{b:List V}{a:Up}{d:X5},RpL G H b a d->eJ a=M->RpL (G.at m) H b a d:=by
 intro b a
 induction a generalizing b with
 |nil=>intro d r f;cases r;exact .nil
 |cons t a e =>
  intro d r f;cases r with
  |cons r q=>exact .cons (r.at m (ZP.mp f).1) (e q (ZP.mp f).2)
mutual
theorem nA:∀t:T,JU t=M->h9 t=M
 |.non,_=>rfl
 |.bl _,_=>rfl
 |.int _,_=>rfl
 |.str _,_=>rfl
 |.scr _,_=>rfl
 |.tup l,h=>xo l h
 |.lst _,h=>by cases h
 |.dct _ _,h=>by cases h
 |.obj _ _,h=>by cases h
theorem xo:∀l:Up,hJ l=M->eJ l=M
 |[],_=>rfl
 |t :: l,h=>by
  have h:=ZP.mp h;exact ZP.mpr ⟨nA t h.1,xo l h.2⟩
end
end
def qq(k:Nat):T->Option T
 |.obj (_+1) (_ :: fs)=>(fs.findIdx? λp=>p.1==k).bind λi=>(fs[i]?).map (·.2)
 |_=>J
def bB(k:Nat)(a:Ex):Ex:=λU=>(a U).bind λx=>(qq k x.2).map λt=>sub x.1 t
section
def w_fld{X:Cx}(J:j4 G)(F:KO G X.K k f)(ha:PV G X a ca)(A:{`q8,XAC a f X.env (eval a X.env)=eval a X.env}):PV G X (.Attribute a f pos) (bB k ca) :=
 PE.weak (yW ha A) λO H Q hq=>by
  refine L2.aq λP_ l=>?_;obtain⟨Z,U,m,t,s,e,kq⟩:=hq;obtain⟨⟨mx,y⟩,ea,e1⟩:=Zz.mp e;obtain⟨z,d,e2⟩:=Zt.mp e1;refine l ?_;refine⟨Z,U,mx,y,s,ea,λv H' F' sm r1 f1=>?_⟩;unfold qq at d;split at d
  ·rename_i c q0 fs hy;refine L2.aq λP_ l=>?_;subst hy;obtain⟨j,C,e3⟩:=Zz.mp d;obtain⟨p,B,e4⟩:=Zt.mp e3;subst e4;obtain⟨c',a,dx,b,ns,vs,S,Fs,ec,rfl,rfl,rfl,rfl,hA,w,A,r⟩:=eE r1;cases ec;obtain⟨q,g,E,D,g3,g4⟩:=lC (λn=>n==k) (w.trans r.len.1) C;have ek:q=k:=by simpa using g3
   subst ek;have ep:p=(q,g):=by
    have:(ns.zip S)[j]?=Y (q,g):=by rw[Xg];exact⟨E,D⟩
    rw[this]at B;exact(Zl B).symm
   subst ep;obtain⟨u,Fi,P,N,h⟩:=r.get j D;refine l ?_;have L:=ug (G:=G) (c:=c+1) J w C E P;rw[F.nm c]at L;refine⟨a,_,dx,_,u,rfl,hA,F.cl c,F.no c,L,?_⟩;have fp:=((f1.sub (YR _ _)).sub (du N)).up h;unfold VS.sub at e2;rw[e2]at fp;have et:g=t:=congrArg Prod.snd e2;rw[et]at h;exact kq u H' Fi sm h fp
  ·cases d
def jT(i k:Nat)(e:Ex)(U:VS.Env):Option Out:=(e U).bind λv=>match U[i]? with
 |some (some (.ow (.obj (c+1) (q :: fs))))=>(fit v).bind λt=>if fs.length<900/\(fs.all λp=>!(p.1==k))=M then Y (.nx (U.set i (Y (.ow (.obj (c+1) (q :: (fs++[(k,t)]))))))) else J
 |_=>J
theorem rO{k:Nat}{v:V}(J:∀k m:Nat,g k=g m->k=m):∀{b:Uv}{d:List V}{j:Up},b.length=d.length->b.length=j.length->((b.zip j).all λp=>!(p.1==k))=M->ju (g k) v ((b.map g).zip d)=((b++[k]).map g).zip (d++[v])
 |[],[],_,_,_,_=>rfl
 |[],_ :: _,_,h,_,_=>by simp at h
 |_ :: _,[],_,h,_,_=>by simp at h
 |_ :: _,_ :: _,[],_,h,_=>by simp at h
 |u :: b,r :: d,s :: j,q,n,l=>by
  rw[ZJ,Wj,YT]at l;rw[Zk,ZJ,ju,Zo (λz=>by
   have:=J _ _ z;subst this;simp at l),rO J (by simpa using q) (by simpa using n) l.2]
  rfl
def lS{X:Cx}{pos:Pos}(i k:Nat)(J:j4 G)(F:KO G X.K k f)(he:PV G X e ce)(hN:{`q8,X.N[i]?=Y x})(hv:MZ X.env.scope x:=by exact .inl L)(hd:{`q8,K3 x})(A:{`q8,K4 x})(hs:{`q8,swapsWith e (Y (.Attribute (.Name x p1) f pos')) pos.line X.env=pure R}):PSV G X (.Assign [.Attribute (.Name x p1) f pos'] e pos) (jT i k ce) :=
 PS.weak (Fx (gp hN hv hd A) he hs) λD O H hq=>by
  obtain⟨Z,U,out,s,e,kq⟩:=hq;obtain⟨⟨mv,h⟩,ev,e⟩:=Zz.mp e;split at e
  ·rename_i c q0 fs u;obtain⟨t,et,e⟩:=Zz.mp e;cases (m7 et);split at e
   ·rename_i j;cases e;obtain⟨v,E,g2⟩:=s.rp _ _ u;refine⟨Z,U,.fr,h,s,ev,λy H1 Fy p ry l=>⟨v,E,?_⟩⟩;refine L2.aq λP_ k_=>?_;obtain⟨c',a,S,b,ns,vs,n,Fs,ec,rfl,rfl,rfl,Q,B,w,hb,q⟩:=eE g2;cases ec;refine k_ ?_;have nd:=s.nd i _ u;rw[Q]at nd;have C:=ZW.mp nd;have Lj:=p a _ B;have r:JT (H1 a):=by rw[Lj];exact True.intro
    have QZ:=w.trans q.len.1;have na:a∉Fy:=λz=>by rw[l.2 a z]at B;cases B
    refine⟨a,_,S,_,rfl,Lj,F.cl c,F.no c,(by
     have:=j.1;rw[YH]at this ⊢;rw[Zw];lia),?_⟩
    have P:=rO (k:=k) (v:=y) (J (c+1)) w QZ j.2;rw[F.nm c]at P;rw[P];have off:=λd hb hw=>JT.xa (q.J6 d hb) (l.2 d hw);have g:Chg G H (.ref a) (Z i) (.obj (c+1) ((0,.bl b) :: (ns.zip n++[(k,h)]))) (upd H1 a (.ins (G.ct (c+1)).1 S (((ns++[k]).map (G.ct (c+1)).2).zip (vs++[y])))) (a :: (Fs++[Fy]).flatten):=by
     rw[Q,show ns.zip n++[(k,h)]=(ns++[k]).zip (n++[h]) from by rw[List.zip_append QZ];rfl];refine Chg.upd p Zv r (.ins aH (by simp[w]) hb (((q.same p).off r C.1).append (.cons (ry.keep (Kept.upd (.inl r)) λd hb o ho=>by rw[aM (λz=>na (by rw[← z];exact hb))];exact ho) .nil))) ?_ ?_
     ·rw[Yh];refine ZW.mpr ⟨λm=>?_,ZA.mpr ⟨C.2,by simpa using l.1,λb hb c j z=>?_⟩⟩
      ·rcases Zd.mp m with m | m
       ·exact C.1 m
       ·exact na (by simpa using m)
      ·subst z;exact off b hb (by simpa using j)
     ·intro d hb;rcases Zg.mp hb with rfl | hb
      ·exact .inl Zv
      ·rw[Yh]at hb;rcases Zd.mp hb with hb | hb
       ·exact .inl (Zu _ hb)
       ·exact .inr (l.2 d (by simpa using hb))
    obtain⟨z1,z2⟩:=s.mut u E g;exact kq _ O _ z1 z2
   ·cases e
  ·cases e
end
noncomputable abbrev ud:=List (Nat×T)
noncomputable def MV(a:On):Me:=λk=>if k=0 then Y (.ref a) else J
abbrev Mt:=ud->Up->Option (ud×T)
noncomputable def K5:List Bool->X5->W5
 |b :: bs,F :: a=>(if b then F else [])++K5 bs a
 |_,_=>[]
noncomputable def NM:List Bool->X5->W5
 |b :: bs,F :: a=>(if b then [] else F)++NM bs a
 |_,_=>[]
theorem gR:∀{f:List Bool}{e:X5}{j:Nat}{F:W5},f[j]?=Y M->e[j]?=Y F->F.Sublist (K5 f e)
 |[],_,_,_,h,_=>by simp at h
 |_ :: _,[],_,_,_,h=>by simp at h
 |b :: bs,g :: e,0,F,d,a=>by
  simp at d a;subst d a;rw[K5,Zs L];exact List.sublist_append_left _ _
 |b :: bs,g :: e,j+1,F,d,a=>by
  rw[K5];exact(gR (by simpa using d) (by simpa using a)).trans (Xh _ _)
theorem qJ:∀{f:List Bool}{e:X5}{j:Nat}{F:W5},f[j]?=Y R->e[j]?=Y F->F.Sublist (NM f e)
 |[],_,_,_,h,_=>by simp at h
 |_ :: _,[],_,_,_,h=>by simp at h
 |b :: bs,g :: e,0,F,d,a=>by
  simp at d a;subst d a;rw[NM];exact List.sublist_append_left _ _
 |b :: bs,g :: e,j+1,F,d,a=>by
  rw[NM];exact(qJ (by simpa using d) (by simpa using a)).trans (Xh _ _)
theorem wU:∀{o:List Bool}{d:X5}{i j:Nat}{F m:W5},(K5 o d).Nodup->o[i]?=Y M->o[j]?=Y M->d[i]?=Y F->d[j]?=Y m->i≠j->∀a∈F,a∉m
 |[],_,_,_,_,_,_,h,_,_,_,_=>by simp at h
 |_ :: _,[],_,_,_,_,_,_,_,h,_,_=>by simp at h
 |b :: bs,r :: d,0,0,F,m,_,_,_,_,_,n=>absurd L n
 |b :: bs,r :: d,0,j+1,F,m,nd,l,g,f,e,n=>λa p q=>by
  simp at l f;subst l f;rw[K5,Zs L,ZA]at nd;exact nd.2.2 a p a ((gR (by simpa using g) (by simpa using e)).subset q) L
 |b :: bs,r :: d,i+1,0,F,m,nd,l,g,f,e,n=>λa p q=>by
  simp at g e;subst g e;rw[K5,Zs L,ZA]at nd;exact nd.2.2 a q a ((gR (by simpa using l) (by simpa using f)).subset p) L
 |b :: bs,r :: d,i+1,j+1,F,m,nd,l,g,f,e,n=>by
  rw[K5,ZA]at nd;exact wU nd.2.1 (by simpa using l) (by simpa using g) (by simpa using f) (by simpa using e) (by lia)
theorem vW:∀{e:List Bool}{d:X5}{a:On},a∈K5 e d->∃(j:Nat)(F:W5),e[j]?=Y M/\d[j]?=Y F/\a∈F
 |[],_,_,h=>by simp[K5]at h
 |_ :: _,[],_,h=>by simp[K5]at h
 |b :: bs,m :: d,a,h=>by
  rw[K5]at h;rcases Zd.mp h with h | h
  ·cases b with
   |true=>exact⟨0,m,rfl,rfl,h⟩
   |false=>simp at h
  ·refine L2.aq λn f=>?_;obtain⟨j,F,l,i,g⟩:=vW h;refine f ?_;exact⟨j+1,F,by simpa using l,by simpa using i,g⟩
noncomputable def nB(b:Bool)(t:T):Us:=Y (if b then .ow t else .pu t)
def BB(c:Nat)(U:VS.Env):Option ud:=match (U[(0:Nat)]?:Option (Us)) with
 |some (some (.ow (.obj a ((0,.bl true) :: fs))))=>if a=c+1 then Y fs else J
 |_=>J
def LH(c d f:Nat)(e:List Bool)(body:Sx):Mt:=λfs a=>if a.length+1=d/\e.length=a.length then
 (body ((Y (.ow (.obj (c+1) ((0,.bl M) :: fs))) :: List.zipWith nB e a)++List.replicate (f-d) J)).bind λo=>match o with
  |.rt v U=>(BB c U).bind λb=>if JU v.2 then Y (b,v.2) else J
  |.nx U=>(BB c U).map λb=>(b,.non)
  |_=>J else J
def NK(G:Gx)(c:Nat)(d:List Bool)(g:Mt):Sp:=λl H Q _=>∃(a:On)(i:List V)(fs:ud)(f:Up)(F:W5)(e:X5)(j:ud)(x:T),l=.ref a :: i/\Rp (G.at (MV a)) H (.ref a) (.obj (c+1) ((0,.bl M) :: fs)) F ∧
 RpL (G.at (MV a)) H i f e/\d.length=f.length/\(F++K5 d e).Nodup/\(∀b∈F++K5 d e,b∉NM d e)/\g fs f=Y (j,x) ∧
 ∀u h m,Chg (G.at (MV a)) H (.ref a) (F++K5 d e) (.obj (c+1) ((0,.bl M) :: j)) h m->Rp (G.at (MV a)) h u x []->Q u h
section
variable{H:Hp}
def AF{f:List Bool}(r0:Rp G H v t F)(r:RpL G H D d l)(hm:f.length=d.length)(x:(F++K5 f l).Nodup)(U:∀b∈F++K5 f l,b∉NM f l)(n X:Nat)(hn:X=D.length+1) :
  SR G (λi=>(F :: l).getD i []) ((Y (.ow t) :: List.zipWith nB f d)++List.replicate (n-(d.length+1)) J) ((v :: D).map Y++List.replicate (n-X) J) H ∧
  ∀a,cQ (λi=>(F :: l).getD i []) ((Y (.ow t) :: List.zipWith nB f d)++List.replicate (n-(d.length+1)) J) a->a∈F++K5 f l:=by
 subst hn;have hl:=r.len;have N:(List.zipWith nB f d).length=d.length:=by rw[List.length_zipWith,hm,WW]
 have back:∀{i:Nat}{c:Cell},((Y (Cell.ow t) :: List.zipWith nB f d)++List.replicate (n-(d.length+1)) J)[i]?=Y (Y c)->(i=0/\c=.ow t)\/∃(j:Nat)(b:Bool)(u:T),i=j+1/\f[j]?=Y b/\d[j]?=Y u/\c=(if b then .ow u else .pu u):=λ{i c} h=>by
  cases i with
  |zero=>exact .inl ⟨rfl,(Zl (Zl h)).symm⟩
  |succ j =>
   rw[Vm,Vn]at h;by_cases E:j<d.length
   ·rw[Yr (by rw[N];exact E),List.getElem?_zipWith]at h;have e1:=Zp (by rw[hm];exact E);have e2:=Zp E;rw[e1,e2]at h;exact .inr ⟨j,_,_,rfl,e1,e2,(Zl (Zl h)).symm⟩
   ·rw[Yn (by rw[N];exact ZD E),Y5]at h;split at h<;>cases h
 have fp:∀{j:Nat}{u:T},d[j]?=Y u->∃w s,D[j]?=Y w/\l[j]?=Y s/\Rp G H w u s:=λ{j u} h=>r.get j h;have ow:∀{i:Nat}{u:T},((Y (Cell.ow t) :: List.zipWith nB f d)++List.replicate (n-(d.length+1)) J)[i]?=Y (Y (.ow u))->i=0\/∃j:Nat,i=j+1/\f[j]?=Y M/\d[j]?=Y u:=λ{i u} h=>by
  rcases back h with⟨p,g⟩ | ⟨j,b,S,p,g,o,y⟩
  ·exact .inl p
  ·cases b with
   |true=>cases y;exact .inr ⟨j,p,g,o⟩
   |false=>cases y
 rw[ZA]at x;refine⟨⟨?_,λi c h=>?_,λi u h=>?_,λi j u c p g n=>?_⟩,λa ⟨i,u,p,g⟩=>?_⟩
 ·simp[N];lia
 ·rcases back h with⟨rfl,rfl⟩ | ⟨j,b,u,rfl,g,o,y⟩
  ·exact⟨v,rfl,r0⟩
  ·obtain⟨w,s,A,e,B⟩:=fp o;refine⟨w,?_,?_⟩
   ·rw[Zk,Vm,Vn,Yr (by rw[Zw];exact(ZY.mp A).1),ZG,A];rfl
   ·rw[XX,Zq,e,y];cases b<;>exact B
 ·rcases ow h with rfl | ⟨j,rfl,g,o⟩
  ·exact x.1
  ·obtain⟨w,s,A,e,B⟩:=fp o;rw[XX,Zq,e];exact x.2.1.sublist (gR g e)
 ·rcases ow p with rfl | ⟨Z,rfl,Q,a3⟩
  ·rcases back g with⟨rfl,_⟩ | ⟨j',b,S,rfl,C,P,_⟩
   ·exact absurd L n
   ·obtain⟨w,s,A,e,B⟩:=fp P;intro a m;rw[XX,Zq,e];intro q;cases b with
    |true=>exact x.2.2 a m a ((gR C e).subset q) L
    |false=>exact U a (Ye _ m) ((qJ C e).subset q)
  ·obtain⟨w,Fi,A,e,B⟩:=fp a3;have ei:(F :: l).getD (Z+1) []=Fi:=by rw[XX,Zq,e];rfl
   show ∀a∈(F :: l).getD (Z+1) [],_;rw[ei];rcases back g with⟨rfl,_⟩ | ⟨j',b,S,rfl,C,P,_⟩
   ·exact λa m q=>x.2.2 a q a ((gR Q e).subset m) L
   ·obtain⟨w',s,k1,O,k3⟩:=fp P;intro a m;rw[XX,Zq,O];intro q;cases b with
    |true=>exact wU x.2.1 Q C e O (λz=>n (by rw[z])) a m q
    |false=>exact U a (ZI _ ((gR Q e).subset m)) ((qJ C O).subset q)
 ·rcases ow p with rfl | ⟨j,rfl,o,y⟩
  ·exact Ye _ g
  ·obtain⟨w,s,A,e,B⟩:=fp y;have OX:a∈(F :: l).getD (j+1) []:=g;rw[XX,Zq,e]at OX;exact ZI _ ((gR o e).subset OX)
def BK(h:BB c U=Y a):U[0]?=Y (Y (.ow (.obj (c+1) ((0,.bl M) :: a)))):=by
 unfold BB at h;split at h
 ·rename_i d f e;split at h
  ·rename_i b;cases h;rw[e,b]
  ·cases h
 ·cases h
end
section
variable{K:Wy}
def Ip{G:Gx}{Z:List Str}(ok:∀{sp:Sp},(∀j H Q E,sp j H Q E->j.length=Z.length)->(∀(p:PP)(A:SC)(outer:List PySem.Env)(s:KB)(H:Hp)(j:List V)(Q:VK)(E:XK),p0 k (A.deeper (envOfC d (ai x) s.heap.objs.size f p))->sp j H Q E →
   ∃t,LN (j7 Kv P w K mg base N d (ai x) f p A outer s H E).M7 (bC x) t/\t { nx:=λ_ g=>Q .non g,rt:=Q } (L2.start N j) H)->FnOk P w K mg base Kv (k+1) f fd Z sp)(hp:Z.length=np)(hn:N.length=O)(hb:∀(a:On)(p:PP)(A:SC)(outer:List PySem.Env)(s:KB)(H:Hp)(E:XK),p0 k (A.deeper (envOfC d (ai x) s.heap.objs.size f p))->jd (G.at (MV a)) (j7 Kv P w K mg base N d (ai x) f p A outer s H E).M7 (bC x) l) :
  FnOk P w K mg base Kv (k+1) f fd Z (NK G c mv (LH c np O mv l)):=by
 refine ok (λj H Q E h=>?_) λp A outer s H j Q E hr h=>?_
 ·refine L2.aq λP_ n=>?_;obtain⟨a,D,fs,ts,F,Fs,LW,y,rfl,r0,r,hm,nd,sp,e,q⟩:=h;refine n ?_;unfold LH at e;split at e
  ·rename_i hl;rw[Zf,r.len.1,hl.1,hp]
  ·cases e
 ·refine L2.aq λP_ n=>?_;obtain⟨a,D,fs,ts,F,Fs,LW,y,rfl,r0,r,hm,nd,sp,e,q⟩:=h;refine n ?_;refine⟨_,hb a p A outer s H E hr,?_⟩;unfold LH at e;split at e
  ·rename_i hl;obtain⟨o,e1,e2⟩:=Zz.mp e;obtain⟨s0,OP⟩:=AF r0 r hm nd sp O (D.length+1) L;rw[hl.1]at s0 OP;have e3:L2.start N (V.ref a :: D)=(V.ref a :: D).map Y++List.replicate (O-(D.length+1)) J:=by
    unfold L2.start;rw[hn];rfl
   rw[e3];have fin:∀{m:VS.Env}{C:JS}{O':L2.St}{g:Hp},BB c m=Y LW->SR (G.at (MV a)) C m O' g->Ks (λi=>(F :: Fs).getD i []) ((Y (.ow (.obj (c+1) ((0,.bl M) :: fs))) :: List.zipWith nB mv ts)++List.replicate (O-np) J) H C m g →
     Chg (G.at (MV a)) H (.ref a) (F++K5 mv Fs) (.obj (c+1) ((0,.bl M) :: LW)) g (C 0):=λ{m C O' g} hme B fr=>by
    have h0:=BK hme;refine L2.aq λP_ n=>?_;obtain⟨v',g1,g2⟩:=B.rp 0 _ h0;have Sd:=g2;obtain⟨c',a',dx,b,ns,j,LS,Lz,ec,rfl,eb,_,eF,hA,Qx,X,ra⟩:=eE Sd;have MX:b=M:=by cases eb;rfl
    cases (X MX);refine n ?_;refine⟨fr.kept,λU o' X ho=>(fr.keep U o' ho λz=>X (OP U z)).1,fr.J6,Sd,B.nd 0 _ h0,λU X=>?_⟩;rcases fr.ow U ⟨0,_,h0,X⟩ with z | z
    ·exact .inl (OP U z)
    ·exact .inr z
   refine⟨_,_,o,s0,e1,?_⟩;cases o with
   |nx m =>
    refine L2.aq λP_ n=>?_;obtain⟨fs2,e4,S⟩:=Zt.mp e2;cases S;refine n ?_;intro C O' g B fr;exact q .non g _ (fin e4 B fr) .non
   |rt v m =>
    obtain⟨fs2,e4,S⟩:=Zz.mp e2;split at S
    ·rename_i hi;cases S;intro u g F' C O' B fr r' rf;have:=r'.JU hi;subst this;exact q u g _ (fin e4 B fr) r'
    ·cases S
   |bk m=>cases e2
   |ct m=>cases e2
  ·cases e
def fnM{G:Gx}(F:JP K x d g f n)(S:bt N h (ai g))(p:h.length=i)(q:N.length=j)(r:∀(a:On)(o:PP)(A:SC)(outer:List PySem.Env)(s:KB)(H:Hp)(E:XK),p0 k (A.deeper (envOfC d (ai g) s.heap.objs.size f o))->jd (G.at (MV a)) (j7 Kv P w K mg base N d (ai g) f o A outer s H E).M7 (bC g) e) :
  FnOk P w K mg base Kv (k+1) f n h (NK G c m (LH c i j m e)):=Ip (λl b=>F.ok S l b) p q r
structure NS(K:Wy)(x qual:Str)(st:Stmt)(f:On)(fd:Re):Prop where
 ex:∃(T:On)(oc:PP)(od:Option On)(kV doc pm:PP)(an:Option On)(JQ ct:PP)(MU:Array (V6))(o:Obj)(n:Nat),
  fd=PySem.W.fnOf x qual (dg st) (bC st) (ai st) (.ref T) kV doc pm an JQ ct/\K.lookup f=some ⟨oc,od,.func fd,MU⟩/\PySem.W.codeIn K JQ qual=true/\K.lookup T=some o/\o.data=.seq #[.none] n
 kp:PySem.W.keepIn K (.ref f)=true
def NS.ok(F:NS K x a d f m)(S:bt N i (ai d))(j:∀b H Q E,g b H Q E->b.length=i.length)(v:∀(e:PP)(A:SC)(outer:List PySem.Env)(s:KB)(H:Hp)(b:List V)(Q:VK)(E:XK),p0 k (A.deeper (envOfC a (ai d) s.heap.objs.size f e))->g b H Q E →
   ∃t,LN (j7 Kv P w K mg base N a (ai d) f e A outer s H E).M7 (bC d) t/\t { nx:=λ_ y=>Q .non y,rt:=Q } (L2.start N b) H):FnOk P w K mg base Kv (k+1) f m i g:=by
 refine L2.aq λB p=>?_;obtain⟨T,oc,z,kV,doc,pm,an,e,ct,C,o,n,rfl,lk,l,_⟩:=F.ex;refine p ?_;refine Ed lk l S j λA outer s H b Q E r u=>?_;obtain⟨t,h,q⟩:=v e A outer s H b Q E r u;exact⟨t,h.M7,q⟩
def NS.binds{e:List Str}(F:NS K x a d f j)(h:∀(s:KB)(T:On)(kV doc pm:PP)(an:Option On)(g ct:PP)(o:Obj)(n:Nat)(b:Vq),K.In s.heap->K.lookup T=Y o->o.data=.seq #[.none] n->b.length=e.length->BindsTo s (PySem.W.fnOf x a (dg d) (bC d) (ai d) (.ref T) kV doc pm an g ct) ⟨b,[]⟩ (e.zip b)):Binds K j e []:=by
 obtain⟨T,oc,q,kV,doc,pm,an,g,ct,r,o,n,rfl,lk,p,m,l⟩:=F.ex;intro s b X i;rw[ZL]at i ⊢;exact h s T kV doc pm an g ct o n b X m l i
end
def argsOk:List Bool->Ur->Bool
 |[],[]=>M
 |b :: bs,v :: a=>(if b then v.1 == .fr else JU v.2)&&argsOk bs a
 |_,_=>R
def mq(c:Nat)(e:List Bool)(g:Mt)(a:Ur):T->Option (T×Val)
 |.obj d ((0,.bl b) :: fs)=>if d=c+1/\fE fs=M/\argsOk e a=M/\eJ (trees a)=M then (g fs (trees a)).bind λz=>if fE z.1=M/\JU z.2=M then Y (.obj d ((0,.bl b) :: z.1),(.fr,z.2)) else J else J
 |_=>J
def bQ(i:Nat)(a:List MT)(c:Nat)(d:List Bool)(g:Mt)(f:J8)(U:VS.Env):Option (Val×VS.Env):=match (U[i]?:Option (Us)) with
 |some (some (.ow t))=>(keys a U).bind λe=>(f U).bind λb=>(pm (mq c d g b) e t).map λz=>(z.2,U.set i (Y (.ow z.1)))
 |_=>J
def tX(G:Gx)(x:Xx):TE:=λO H Q=>∃Z U v b,SR G Z U O H/\x U=Y (v,b)/\JU v.2=M/\∀u a d,SR G d b O a->Ks Z U H d b a->Rp G a u v.2 []->Q u a
def PX(G:Gx)(X:Cx)(e:Expr)(x:Xx):Prop:=PE X e (tX G x)
theorem ka:∀{d:List Bool}{a:Ur},argsOk d a=M->d.length=a.length
 |[],[],_=>rfl
 |[],_ :: _,h=>nomatch h
 |_ :: _,[],h=>nomatch h
 |b :: bs,v :: e,h=>by
  rw[Zf,Zf,ka (ZP.mp h).2]
theorem nJ:∀{e:List Bool}{d:Ur}{Fs:X5},argsOk e d=M->(K5 e Fs).Sublist (Lk d Fs)
 |[],[],_,_=>by simp[K5]
 |[],_ :: _,_,h=>nomatch h
 |_ :: _,[],_,h=>nomatch h
 |b :: bs,v :: f,[],h=>by simp[K5]
 |b :: bs,(m,t) :: f,F :: Fs,h=>by
  have h:=ZP.mp h;have a:=nJ (Fs:=Fs) h.2;rw[K5];cases b with
  |true =>
   have:m=.fr:=by simpa using h.1
   subst this;exact List.Sublist.append (WR _) a
  |false =>
   rw[Zo Zh,YV];cases m with
   |fr=>exact a.trans (Xh _ _)
   |pu=>exact a
   |bo=>exact a
theorem qR:∀{d:List Bool}{a:Ur}{f:List V}{e:X5},argsOk d a=M->RpL G H f (trees a) e->NM d e=[]
 |[],[],_,_,_,_=>by simp[NM]
 |[],_ :: _,_,_,h,_=>nomatch h
 |_ :: _,[],_,_,h,_=>nomatch h
 |b :: bs,(m,t) :: i,_,_,h,r=>by
  have h:=ZP.mp h;cases r with
  |cons g q =>
   rw[NM,qR h.2 q,ZL];cases b with
   |true=>rfl
   |false=>exact g.JU (by simpa using h.1)
def vN(h:argsOk e d=M)(f:PJ Z U H d m):∀a∈K5 e m,H a=J:=λa o=>by
 obtain⟨j,F,g,q,p⟩:=vW o;have key:∀{e:List Bool}{d:Ur}{j:Nat},argsOk e d=M->e[j]?=Y M->∃v,d[j]?=Y v/\v.1=.fr:=by
  intro e
  induction e with
  |nil=>intro d j _ h;simp at h
  |cons b bs n =>
   intro d j h g;cases d with
   |nil=>exact nomatch h
   |cons v r =>
    have h:=ZP.mp h;cases j with
    |zero =>
     simp at g;subst g;exact⟨v,rfl,by simpa using h.1⟩
    |succ j =>
     obtain⟨w,l,i⟩:=n h.2 (by simpa using g);exact⟨w,by simpa using l,i⟩
 obtain⟨v,l,i⟩:=key h g;have:=f.each j v F l q;rw[i]at this;exact this.2 a p
section
def tm(J:j4 G)(hn:∀k,(G.ct (c+1)).2 k≠m)(ht:∀Z U q O H (R:List V->Hp->Prop),SR G Z U O H->cs U=Y q->(∀j p Fs,bg H p->RpL G p j (trees q) Fs->PJ Z U H q Fs->R j p)->t O H R)(h:tX G (bQ i way c mv g cs) O H Q):wg (G.ct (c+1)).1 m (NK G c mv g) [] E (Ug G i way) t O H Q:=by
 refine L2.aq λP_ l=>?_;obtain⟨Z,U,v,U',s,e,him,kq⟩:=h;refine l ?_;unfold bQ at e;split at e
 ·rename_i t0 F;refine L2.aq λP_ l=>?_;obtain⟨ks,ek,e3⟩:=Zz.mp e;obtain⟨q,el,e4⟩:=Zz.mp e3;obtain⟨⟨t',x2⟩,e5,e6⟩:=Zt.mp e4;cases e6;obtain⟨v0,h1,h2⟩:=s.rp _ _ F;obtain⟨w,x,F1,x3,w1,w2,w3,r,w5⟩:=oK ks J h2 (s.nd i t0 F) e5;refine l ?_;unfold mq at r;split at r
  ·rename_i c1 b fs;split at r
   ·rename_i hc;obtain⟨rfl,Ov,L,Tv⟩:=hc;obtain⟨⟨LW,y⟩,eg,e7⟩:=Zz.mp r;split at e7
    ·rename_i Ou;refine L2.aq λP_ l=>?_;cases e7;obtain⟨c',a,dx,b',ns,j,ts,Fs,ec,rfl,eb,rfl,eF,hA,hl,hb,ra⟩:=eE w2;cases ec;cases eb;refine l ?_;have QZ:=hl.trans ra.len.1;refine⟨Z,U,t0,ks,v0,.ref a,s,F,h1,ek,w1,λH1 D=>⟨a,dx,_,rfl,D a _ hA,?_,?_⟩⟩
     ·have key:∀(ns:Uv)(j:List V),((ns.map (G.ct (c+1)).2).zip j).lookup m=none:=by
       intro ns
       induction ns with
       |nil=>intro j;simp
       |cons n ns ih =>
        intro j;cases j with
        |nil=>simp
        |cons v j =>
         rw[Zk,ZJ,YO];have:(m==(G.ct (c+1)).2 n)=false:=by
          rw[beq_eq_false_iff_ne];exact λz=>hn n z.symm
         rw[this];exact ih j
      exact key ns j
     ·refine ht Z U q O H1 _ (s.same D) el λus H2 Gs KA RS RB=>?_;have B:=D.trans KA;have QY:=vN L (⟨λn v' N a1 a2=>(RB.each n v' N a1 a2).back D,RB.nd⟩);refine⟨a,us,ns.zip ts,trees q,F1,Gs,LW,y,by rw[ZL],?_,RS.at (MV a) Tv,?_,?_,?_,eg,λu p N A ru=>?_⟩
      ·rw[eF];exact .ins (B a _ hA) hl (λ_=>rfl) ((ra.same B).at (MV a) (eZ QZ Ov))
      ·rw[ka L];simp[trees]
      ·refine ZA.mpr ⟨w3,RB.nd.sublist (nJ L),λd C b2 OW z=>?_⟩;subst z;exact JT.xa (w2.J6 d C) (QY d OW)
      ·rw[qR L RS];exact λd _ z=>nomatch z
      ·have back:Rp G p (.ref a) (.obj (c+1) ((0,.bl b) :: LW)) N:=by
        refine L2.aq λP_ l=>?_;obtain⟨c2,a2,dx2,b2,ns2,Ud,ts2,XN,RD,TN,eb2,S,TQ,Rz,Lr,OW,Od⟩:=eE A.rp;cases RD;cases TN;subst S;refine l ?_;rw[TQ];exact .ins Rz Lr hb (Od.at G.me (eZ (Lr.trans Od.len.1) Ou.1))
       obtain⟨F2,g2⟩:=w5 p N (⟨(Kept.of B).trans A.kept,λd o1 C P=>A.keep d o1 (λz=>(Zd.mp z).elim C λz=>by rw[QY d z]at P;cases P) (B d o1 P),λd h=>A.J6 d λz=>h (B.free z),back,A.nd,λd C=>by
        rcases A.sub d C with z | z
        ·rcases Zd.mp z with z | z
         ·exact .inl z
         ·exact .inr (QY d z)
        ·exact .inr (B.free z)⟩)
       obtain⟨z1,z2⟩:=s.mut F h1 g2;exact kq u p _ z1 z2 (ru.at G.me (nA y Ou.2))
    ·cases e7
   ·cases r
  ·cases r
 ·cases e
def DE(J:j4 G)(q:∀k,(G.ct (c+1)).2 k≠m)(p:Nh G X o i way)(v:Ln X.K (G.ct (c+1)).1)(r:Meth X.K (G.ct (c+1)).1 m f)(F:FnOk X.prog X.w X.K X.mg X.base Kv k f fd ps (NK G c mv g))(n:p0 k' X.A)(u:k<=k')(x:Binds X.K fd ps [])(y:KD G X (e :: es) cs)(z:K1 e es X)(a:K2 pos es X)(l:eval (.Call (.Attribute o m apos) (e :: es) [] pos) X.env=(do
   let b ← eval o X.env
   standAt apos.atName
   let (f,first) ← holding [b] (getMethod b m j)
   callWith pos f first (backTo pos (P3 (e :: es) X.env)) (backToKw pos (SZ [] X.env)))):PX G X (.Call (.Attribute o m apos) (e :: es) [] pos) (bQ i way c mv g cs) :=
 PE.weak (rC p v r F (n.mono u) x .nil mw y z a l) λO H Q h=>tm J q (λZ U d O H R s e k=>⟨Z,U,d,s,e,k⟩) h
def Ar(J:j4 G)(n:∀k,(G.ct (c+1)).2 k≠m)(l:Nh G X o i way)(r:Ln X.K (G.ct (c+1)).1)(p:Meth X.K (G.ct (c+1)).1 m f)(F:FnOk X.prog X.w X.K X.mg X.base Kv k f fd ps (NK G c mv g))(j:p0 k' X.A)(q:k<=k')(u:Binds X.K fd ps [])(d:eval (.Call (.Attribute o m apos) [] [] pos) X.env=(do
   let a ← eval o X.env
   standAt apos.atName
   let (f,first) ← holding [a] (getMethod a m b)
   callWith pos f first (backTo pos (P3 [] X.env)) (backToKw pos (SZ [] X.env)))):PX G X (.Call (.Attribute o m apos) [] [] pos) (bQ i way c mv g ak) :=
 PE.weak (tF l r p F (j.mono q) u .nil mw d) λO H Q h=>tm J n (λZ U x O H R s e k=>by
  cases (e);exact k [] H [] (bg.refl _) .nil ⟨λi v F h=>by simp at h,by simp[Lk]⟩) h
def Uj(x:Xx):Sx:=λU=>(x U).bind λz=>if JU z.1.2 then Y (.nx z.2) else J
def mD(j:Nat)(x:Xx):Sx:=λU=>(x U).bind λz=>if JU z.1.2=M/\j<z.2.length then Y (.nx (z.2.set j (Y (.pu z.1.2)))) else J
def sC(x:Xx):Sx:=λU=>(x U).bind λz=>if JU z.1.2 then Y (.rt (.fr,z.1.2) z.2) else J
def uy{pos:Pos}(h:PX G X e x)(n:swapsWith e J pos.line X.env=pure R):PSV G X (.Expr e pos) (Uj x) :=
 PS.weak (jF h n) λD O H b=>by
  obtain⟨Z,U,out,s,e,k⟩:=b;obtain⟨⟨v,l⟩,e1,e2⟩:=Zz.mp e;split at e2
  ·rename_i d;cases e2;exact⟨Z,U,v,l,s,e1,d,λu p j a f r=>k j O p a f⟩
  ·cases e2
def DQ(h:PX G X e x):PSV G X (.Return (Y e) pos) (sC x) :=
 PS.weak (qX h) λD O H d=>by
  obtain⟨Z,U,out,s,e,k⟩:=d;obtain⟨⟨v,n⟩,e1,e2⟩:=Zz.mp e;split at e2
  ·rename_i j;cases e2;exact⟨Z,U,v,n,s,e1,j,λu p l b f r=>k u p [] l O b f r ⟨Y6,λa h=>nomatch h⟩⟩
  ·cases e2
def qL{pos:Pos}(h:PX G X e x)(C:X.N.Nodup)(l:X.N[j]?=Y d)(y:Loc X.env.scope d)(z:swapsWith e (Y (.Name d b)) pos.line X.env=pure R)(B:X.fn d=M\/X.env.scope.names.lookup d=Y .local) :
  PSV G X (.Assign [.Name d b] e pos) (mD j x) :=
 PS.weak (vq C l y h z B) λD O H A=>by
  obtain⟨Z,U,out,s,e,k⟩:=A;obtain⟨⟨v,E⟩,e1,e2⟩:=Zz.mp e;split at e2
  ·rename_i l;cases e2;refine⟨Z,U,v,E,s,e1,l.1,λu n F p f r=>?_⟩;obtain⟨w,q⟩:=p.val (m:=.fr) l.2 (bg.refl n) r ⟨Y6,λa h=>nomatch h⟩ (.inl ⟨rfl,by decide⟩);exact k _ _ n w (f.trans q)
  ·cases e2
def ma(i:Nat)(a:List MT)(k:Ex)(x:Xx):Sx:=λU=>(x U).bind λz=>if JU z.1.2 then gg i a k (λ_=>Y (.fr,z.1.2)) z.2 else J
def A9{mv:Md}(J:j4 G)(s:SR G Z U O H)(Q:U[i]?=Y (Y (.ow t)))(ek:keys way U=Y N)(OE:ck U=Y (mk,b))(e5:pm (ly (mk,b) (mv,p)) N t=Y (t',y'))(KS:bg H H1)(rv:Rp G H1 xv p Fv)(S:Fp Z U H mv Fv)(k:∀Z' H',SR G Z' (U.set i (Y (.ow t'))) O H'->Ks Z U H Z' (U.set i (Y (.ow t'))) H'->D O H'):Hz (Ug G i way) (tE G ck) Ef xv O H1 D:=by
   refine L2.aq λP_ P=>?_;obtain⟨v,g1,g2⟩:=s.rp _ _ Q;obtain⟨w,x,F1,x3,w1,w2,w3,B,w5⟩:=oK N J g2 (s.nd i t Q) e5;refine P ?_;refine⟨Z,U,t,N,v,w,s.same KS,Q,g1,ek,w1.same KS,λH2 KA=>⟨Z,U,mk,b,(s.same KS).same KA,OE,λkv H3 Fk MD rk fk=>?_⟩⟩;have q:=(KS.trans KA).trans MD;have OO:=(rv.same KA).same MD;have fin:∀F A,Chg G H w F1 x3 F A->D O F:=λF A g=>by
    obtain⟨F2,Sd⟩:=w5 F A g;obtain⟨z1,z2⟩:=s.mut Q g1 Sd;exact k _ F z1 z2
   refine L2.aq λP_ P=>?_;cases x with
   |lst l =>
    cases b with
    |int n =>
     obtain⟨tt,et,e7⟩:=Zz.mp (B);obtain⟨j,ej,e8⟩:=Zt.mp e7;cases e8;cases (m7 et);obtain⟨a,vs,Fs,rfl,rfl,E,u⟩:=w2.lst_inv;have C:=q a _ E;have nd:=ZW.mp w3;have na:a∉Fv:=λz=>by rw[S.2 a z]at E;cases E
     have y:JT (H3 a):=by rw[C];exact True.intro
     have off:=λd hb hv=>JT.xa (u.J6 d hb) (S.2 d hv);refine P ?_;refine .inl ⟨a,vs,n,j,rfl,rk.int_inv,C,by rw[← vt,u.len.1];exact ej,fin _ (a :: (Fs.set j Fv).flatten) ?_⟩;refine Chg.upd q Zv y (.lst aH ((((u.same q).off y nd.1)).putAt j ((λr hn=>r.keep (Kept.upd (.inl y)) λd hb o' Nb=>by rw[aM (λz=>hn (by rw[← z];exact hb))];exact Nb) OO na))) ?_ ?_
     ·rw[ZW];refine⟨λh=>?_,eK nd.2 S.1 λi' A _ hi d hb=>off d (di hi hb)⟩;rcases cK h with z | ⟨i',A,_,h1,h2⟩
      ·exact na z
      ·exact nd.1 (di h1 h2)
     ·intro d hb;rcases Zg.mp hb with rfl | hb
      ·exact .inl Zv
      ·rcases cK hb with z | ⟨i',A,_,h1,h2⟩
       ·exact .inr (S.2 d z)
       ·exact .inl (Zu _ (di h1 h2))
    |_=>cases B
   |dct kd l =>
    cases kd with
    |zero =>
     have hc:(hZ b=M/\JU p=M/\l.length<gL)/\x3=.dct 0 (dput l b p):=by
      have QN:(if hZ b/\JU p/\l.length<gL then Y (T.dct 0 (dput l b p),()) else none)=Y (x3,y'):=B;split at QN
      ·rename_i hc;cases QN;exact⟨hc,rfl⟩
      ·cases QN
     obtain⟨⟨c1,c2,c3⟩,rfl⟩:=hc;have eF:=OO.JU c2;subst eF;obtain⟨a,ns,vs,ts,Fs,rfl,rfl,E,hl,rfl,u⟩:=fq w2;obtain⟨kk,rfl,OD⟩:=dr rk c1;subst OD;have C:=q a _ E;have y:JT (H3 a):=by rw[C];exact True.intro
     have nd:=ZW.mp w3;obtain⟨Nq,LR,LS,Lz,q1,q2,q3,q4,L⟩:=rq OO hl (u.same q);refine P ?_;refine .inr ⟨a,_,rfl,uU.k C (by
      have:((ns.map aR).zip ts).length<16777216:=c3;rw[YH,Zw]at this;rw[YH];have:=u.len.1;have:(KM:Nat)=16777216:=rfl;lia),fin _ (a :: Lz.flatten) ?_⟩
     rw[q1,q3];refine Chg.upd q Zv y (.dct aH q2 (q4.off y λz=>nd.1 (L.subset z))) ?_ ?_
     ·exact ZW.mpr ⟨λz=>nd.1 (L.subset z),nd.2.sublist L⟩
     ·intro d hb;rcases Zg.mp hb with rfl | hb
      ·exact .inl Zv
      ·exact .inl (Zu _ (L.subset hb))
    |succ n=>cases B
   |_=>cases B
def vV{X:Cx}{pos:Pos}(J:j4 G)(C:p0 w X.A)(F:Nh G X o i way)(L:PV G X b l)(he:PX G X e x)(P:∀v,assign (.Subscript o b d) X.env v=(do
   let j ← holding [v] (eval o X.env)
   let iv ← holding [v,j] (eval b X.env)
   standAt d
   holding [v,j,iv] (setItem j iv v)
   release [v,j,iv] []))(B:swapsWithSole [.Subscript o b d] e pos.line X.env=pure R)(hw:swappedStores [.Subscript o b d] e X.env=pure none)(Q:(assignEach [.Subscript o b d] X.env).map (·.2)=[assign (.Subscript o b d) X.env]):PSV G X (.Assign [.Subscript o b d] e pos) (ma i way l x) :=
 PS.weak (vd he (vv F L (AE (jR C)) P) B hw Q) λD O H E=>by
  refine L2.aq λP_ y=>?_;obtain⟨Z,U,out,s,e,k⟩:=E;obtain⟨⟨v,U'⟩,e1,e2⟩:=Zz.mp e;refine y ?_;split at e2
  ·rename_i N;refine⟨Z,U,v,U',s,e1,N,λu H' Z' q f r=>?_⟩;obtain⟨⟨mv,tv⟩,ev,e2⟩:=Zz.mp e2;cases ev;split at e2
   ·rename_i t z;obtain⟨ks,S,e2⟩:=Zz.mp e2;obtain⟨⟨mk,tk⟩,OE,e2⟩:=Zz.mp e2;obtain⟨⟨t',y'⟩,e5,e6⟩:=Zt.mp e2;cases e6;exact A9 J q z S OE e5 (bg.refl H') r ⟨Y6,λa h=>nomatch h⟩ λZ2 H2 p n=>k _ O H2 p (f.trans n)
   ·cases e2
  ·cases e2
end
end VS
end
section
namespace L2
open PySem PySem.Spec PyProof.Rows
def vz:dm X (.type "dict") (λf H Q=>∃(d:On)(a:List (Key×V)),f=[.ref d]/\H d=Y (.dK a)/\∀l,H l=J->Q (.ref l) (upd H l (.dK a))):=by
 intro g s O H f w Q I j h;obtain⟨d,a,rfl,hd,q⟩:=h;obtain⟨u,rfl,m⟩:=j.one;cases m;obtain⟨i,r,v,rel,n⟩:=rS I.xb hd;refine PySem.kt_call_dict r n (by rw[← Wz rel];exact i) λx p sb=>?_;exact⟨.ref s.heap.objs.size,_,I.laid (λb o e=>(sb.2 b (Ze (ZV e))).trans (Zj _ e)) (Zn _) (qr i (beq_eq_false_iff_ne.mpr (Y0 (Ze I.big))) rel p),rfl,q _ (I.xb.fresh (Zn _))⟩
end L2
namespace VS
open PySem PySem.Spec PyProof.Rows L2
def oG:Ur->Uq
 |[(_,.dct 0 l)]=>if hJ (l.map (·.2))=M then Y (.fr,.dct 0 l) else J
 |_=>J
section
def zS:fj G (λs H Q=>∃(d:On)(n:List (Key×V)),s=[.ref d]/\H d=Y (.dK n)/\∀l,H l=J->Q (.ref l) (upd H l (.dK n))) oG:=by
 intro Z U L H l z N m t Q A e k;unfold oG at e;split at e
 ·rename_i C D;split at e
  ·rename_i j;refine L2.aq λE w=>?_;cases e;obtain⟨v,F,rfl,rfl,r⟩:=(A.rp).one;obtain⟨a,ns,u,B,y,rfl,rfl,x,i,rfl,f⟩:=fq r;refine w ?_;refine⟨a,_,rfl,x,λq h=>?_⟩;have g:bg H (upd H q (.dK (ns.zip u))):=cV h;rw[List.map_snd_zip (by rw[Zw,i,f.len.1];exact Zn _)]at j;refine k _ _ (q :: y.flatten) g (.dct aH i (f.same g)) ?_;rw[(f.JU j)];exact Fp.new (A.same.free h) (by simp) Fp.nil
  ·cases e
 ·cases e
def Da{X:Cx}(d:X.mg "dict" = J)(g:KD G X [e] cs)(f:Gl X "dict")(he:K1 e [] X):PV G X (.Call (.Name "dict" p) [e] [] pos) (eN oG cs) :=
 jM vz zS f d vH g (he:=he)
def EL{i d:Int}:PV G X (.Dict [Y (.Constant (.int i) j q)] [.Constant (.int d) l g] pos) (sS 0 [(Q3 i,Q3 d)]) :=
 PE.weak (BS (zN qU qU C2) L L (by simp) (by show 1<=15;decide)) λO H Q n=>by
  refine L2.aq λu h=>?_;obtain⟨Z,U,m,r,s,e,k⟩:=n;cases (e);refine h ?_;intro p f;refine⟨aH,[(Sum.inl i,.int d)],rfl,(by show 1<=15;decide),?_⟩;rw[C3];have:Rp G (upd H p (.dK [(Sum.inl i,V.int d)])) (.ref p) (.dct 0 ((([Sum.inl i]:List Key).map aR).zip [.int d])) (p :: ([[]]).flatten) :=
   .dct aH L (.cons (.int d) .nil)
  exact k _ _ _ (cV f) this ⟨by simp,λb hb=>by simp at hb;rw[hb];exact f⟩
def yA(x y:Val):Uq:=match x.2 with
 |.dct 0 l=>if hZ y.2 then Y (match dR l y.2 with | some t=>sub x.1 t | none=>(.fr,.non)) else none
 |_=>J
def w_get{X:Cx}{apos:Pos}(L:p0 kr X.A)(P:PV G X o ca)(he:PV G X e cb)(Kp:XAC o "get" X.env (eval o X.env)=eval o X.env)(KP:((backTo pe (P3 [e] X.env)).all (λx=>!x.1)&&(backToKw pe (SZ [] X.env)).all (λx=>x.1.isSome)
   && decide (([e]:List Expr).length+([]:List Keyword).length+(if ([]:List Keyword).isEmpty then 0 else 1)<30))=M)(Kc:(apos.endLine==pe.line)=M)(h:backTo pe (P3 [e] X.env)=[(R,eval e X.env)]):PV G X (.Call (.Attribute o "get" apos) [e] [] pe) (e2 yA ca cb) :=
 PE.weak (Bn (jR L) P he ⟨Kp,KP,Kc,h⟩) λO H Q N=>by
  obtain⟨Z,U,m,r,s,e,w⟩:=N;obtain⟨⟨C,x⟩,ea,e⟩:=Zz.mp e;obtain⟨⟨B,y⟩,eb,e⟩:=Zz.mp e;unfold yA at e;split at e
  ·rename_i l E;subst E;split at e
   ·rename_i hk;have d:=Zl e;refine⟨Z,U,C,_,s,ea,λv H1 F1 u r1 f1=>?_⟩;refine L2.aq λP_ D=>?_;obtain⟨a,ks,vs,ts,Fs,rfl,rfl,j,S,rfl,q⟩:=fq r1;refine D ?_;refine⟨a,rfl,.inl ⟨_,.inl j⟩,Z,U,B,y,s.same u,eb,λv2 z F2 g r2 f2=>?_⟩;obtain⟨kk,rfl,ek⟩:=dr r2 hk;rw[ek]at d;rcases lx S (q.same g) with⟨h1,h2⟩ | ⟨i,v,t2,F,a1,a2,a3,a4,n⟩
    ·rw[h1]at d;cases d;refine⟨_,fH.k (g a _ j),?_⟩;rw[h2];exact w .non z [] (u.trans g) .non Fp.nil
    ·rw[a1]at d;refine⟨_,fH.k (g a _ j),?_⟩;rw[a2];have f:=((f1.sub (YR _ _)).sub (du a4)).up n;unfold VS.sub at d;dsimp only at d;rw[d]at f;have et:t2=r:=congrArg Prod.snd d;rw[et]at n;exact w v z F (u.trans g) n f
   ·cases e
  ·cases e
def ur(x y:Val):Uq:=match x.2 with
 |.dct 3 l=>if hZ y.2 then (dR l y.2).map (sub x.1) else J
 |_=>J
def t6(r:Rp G H v (.dct 3 l) F):∃(a:On)(o:Obj)(f:List Key)(d:List V)(g:Up)(h:X5),v=.ref a/\F=h.flatten/\H a=Y (.frz o (.dK (f.zip d)))/\f.length=d.length/\l=(f.map aR).zip g/\RpL G H d g h:=r.inv
def Gz:fZ G (IP G.K) ur:=by
 intro Z U S H x y u w F1 F2 m t Q d e k;obtain⟨N,x⟩:=x;unfold ur at e;split at e
 ·rename_i l h;subst h;split at e
  ·rename_i n;obtain⟨L,e1,e2⟩:=Zt.mp e;obtain⟨a,o,O,D,E,Fs,rfl,rfl,r,j,rfl,q⟩:=t6 d.r1;obtain⟨g,rfl,z⟩:=dr d.r2 n;rw[z]at e1;rcases lx j q with⟨s,_⟩ | ⟨i,v,t2,F,C,B,P,A,f⟩
   ·rw[s]at e1;cases e1
   ·rw[C]at e1;cases e1;cases e2;refine .inr ⟨a,v,rfl,.inl ⟨_,g,.inr ⟨o,r⟩,rfl,B.symm⟩,?_⟩;exact k v H F (bg.refl _) f ((d.f1.sub (du A)).up f)
  ·cases e
 ·cases e
def Ec{X:Cx}(f:p0 kr X.A)(i:PV G X a ca)(g:PV G X b cb)(d:jI b)(j:X.K=G.K):PV G X (.Subscript a b pos) (e2 ur ca cb) :=
 PE.weak (tD (NQ.or qC (qx (jR f))) i g d) λO H Q h=>by rw[j];exact lV Gz h
end
def eNew(c:Nat)(g:Mt)(b:J8):Ex:=λU=>(b U).bind λa=>if eJ (trees a)=M then (g [] (trees a)).bind λz=>if fE z.1=M/\RW z.2=M then Y (.fr,.obj (c+1) ((0,.bl R) :: z.1)) else J else J
def fQ(c:Nat)(g:Fn)(d:Ex)(b:J8):Ex:=λU=>(d U).bind λx=>match x.2 with
 |.obj e (_ :: _)=>if e=c+1 then (b U).bind λa=>(g (x.2 :: trees a)).bind λr=>match r.1 with
  |.fr=>Y r
  |_=>J else J
 |_=>J
theorem Af{α:Type}:∀(l:List α)(a:X5),K5 (l.map λ_=>R) a=[]
 |[],_=>by simp[K5]
 |_ :: _,[]=>by simp[K5]
 |_ :: l,F :: a=>by
  rw[Zk,K5,Zo Zh,YV];exact Af l a
theorem zM:∀(e:List Bool)(d:X5),∀a∈NM e d,a∈d.flatten
 |[],_,a,h=>by simp[NM]at h
 |_ :: _,[],a,h=>by simp[NM]at h
 |b :: bs,F :: d,a,h=>by
  rw[NM]at h;rw[LL];rcases Zd.mp h with h | h
  ·cases b with
   |true=>simp at h
   |false=>exact Ye _ (by simpa using h)
  ·exact ZI _ (zM bs d a h)
section
def BY{G:Gx}(r:Rp G H u t F)(h:RW t=M):u=.non:=by
 cases r with
 |non=>rfl
 |_=>cases h
def zC{X:Cx}(F:∀n,FnOk X.prog X.w X.K X.mg X.base Kv k f fd ps (NK G c (List.replicate n false) g)->True)(ht:∀Z U d O H (R:List V->Hp->Prop),SR G Z U O H->cs U=Y d->(∀C B Fs,bg H B->RpL G B C (trees d) Fs->PJ Z U H d Fs->R C B)->t O H R)(n:Nat)(hn:∀U d,cs U=Y d->d.length=n)(hq:tE G (eNew c g cs) O H Q):zv (G.ct (c+1)).1 (NK G c (List.replicate n false) g) [] E t O H Q:=by
 refine L2.aq λP_ N=>?_;obtain⟨Z,U,mo,r,s,e,kq⟩:=hq;obtain⟨d,el,e1⟩:=Zz.mp e;refine N ?_;split at e1
 ·rename_i Tv;obtain⟨⟨LW,y⟩,eg,e2⟩:=Zz.mp e1;split at e2
  ·rename_i hc;cases e2;refine ht Z U d O H _ s el λC H1 Gs KS l U7 a dx S P ne=>?_;have v:=KS.free S;have KA:bg H1 (upd (upd H1 dx (.own a)) a (.ins (G.ct (c+1)).1 dx [])):=λb D q=>by
    rw[aM (λz=>by rw[z,S]at q;cases q),aM (λz=>by rw[z,P]at q;cases q)];exact q
   have em:List.replicate n false=(List.range n).map λ_=>false:=by rw[List.map_const',LM]
   have j:K5 (List.replicate n false) Gs=[]:=by rw[em];exact Af _ _
   refine⟨a,C,[],trees d,[a],Gs,LW,y,by rw[ZL],.ins (ks:=[]) aH L (λ_=>rfl) .nil,(l.same KA).at (MV a) Tv,?_,?_,?_,eg,λu B F' A ru=>⟨BY ru hc.2,?_⟩⟩
   ·simp[trees,(hn U d el)]
   ·rw[j];simp
   ·rw[j];intro b hb KQ;have:b=a:=by simpa using hb
    subst this;exact JT.xa (l.J6 b (zM _ _ b KQ)) S
   ·rw[j,ZL]at A;refine kq (.ref a) B F' (λb D q=>A.keep b D (λz=>?_) (KA b D (KS b D q))) (by
     refine L2.aq λP_ N=>?_;obtain⟨c2,a2,dx2,b2,ns2,Ud,ts2,XN,RD,TN,eb2,ef2,TQ,Rz,Lr,OW,Od⟩:=eE A.rp;cases RD;cases TN;subst ef2;refine N ?_;rw[TQ];exact .ins Rz Lr (λz=>nomatch z) (Od.at G.me (eZ (Lr.trans Od.len.1) hc.1))) ⟨A.nd,λb hb=>?_⟩
    ·have:b=a:=by simpa using z
     rw[this,v]at q;cases q
    ·rcases A.sub b hb with z | z
     ·have:b=a:=by simpa using z
      rw[this];exact v
     ·exact(λb z=>KS.free (KA.free z)) b z
  ·cases e2
 ·cases e1
def HJ{G:Gx}{X:Cx}(n:Nat)(M:Mk X.K (G.ct (c+1)).1 f)(F:FnOk X.prog X.w X.K X.mg X.base Kv k f fd ps (NK G c (List.replicate n false) g))(d:p0 k' X.A)(q:k+1<=k')(r:Gl X x)(l:X.mg x=Y (.ref (G.ct (c+1)).1))(u:Binds X.K fd ps [])(v:KD G X (e :: es) cs)(j:∀U a,cs U=Y a->a.length=n)(y:K3 x)(he:K1 e es X)(b:K2 pos es X):PV G X (.Call (.Name x p) (e :: es) [] pos) (eNew c g cs) :=
 PE.weak (DW M F (d.mono q) r l u .nil mw v y he b) λO H Q h=>zC (X:=X) (k:=k) (f:=f) (fd:=fd) (ps:=ps) (λ_ _=>True.intro) (λZ U a O H R s e k=>⟨Z,U,a,s,e,k⟩) n j h
def Ey{G:Gx}{X:Cx}(M:Mk X.K (G.ct (c+1)).1 f)(F:FnOk X.prog X.w X.K X.mg X.base Kv k f fd ps (NK G c [] g))(b:p0 k' X.A)(j:k+1<=k')(l:Gl X x)(d:X.mg x=Y (.ref (G.ct (c+1)).1))(n:Binds X.K fd ps [])(q:K3 x):PV G X (.Call (.Name x p) [] [] pos) (eNew c g ak) :=
 PE.weak (AB M F (b.mono j) l d n .nil mw q) λO H Q h=>zC (X:=X) (k:=k) (f:=f) (fd:=fd) (ps:=ps) (λ_ _=>True.intro) (λZ U a O H R s e k=>by
  cases (e);exact k [] H [] (bg.refl _) .nil ⟨λi v F h=>by simp at h,by simp[Lk]⟩) 0 (λU a e=>by
  cases (e);rfl) h
theorem wI{g:Nat->Str}(b:∀k,g k≠m):∀(ns:Uv)(a:List V),((ns.map g).zip a).lookup m=J
 |[],a=>by simp
 |_ :: _,[]=>by simp
 |n :: ns,v :: a=>by
  rw[Zk,ZJ,YO];have:(m==g n)=R:=by
   rw[beq_eq_false_iff_ne];exact λz=>b n z.symm
  rw[this];exact wI b ns a
def xg{G:Gx}(hn:∀k,(G.ct (c+1)).2 k≠m)(P:∀Z U d O H (R:List V->Hp->Prop),SR G Z U O H->cs U=Y d->(∀l j A,bg H j->RpL G j l (trees d) A->PJ Z U H d A->R l j)->t O H R)(S:tE G (fQ c h ca cs) O H Q):wg (G.ct (c+1)).1 m (MB G h) [] E (tE G ca) t O H Q:=by
 refine L2.aq λP_ q=>?_;obtain⟨Z,U,mo,r,s,e,L⟩:=S;obtain⟨⟨F,y⟩,ea,e1⟩:=Zz.mp e;refine q ?_;split at e1
 ·rename_i c' q0 fs N;subst N;split at e1
  ·rename_i hc;subst hc;obtain⟨d,el,e2⟩:=Zz.mp e1;obtain⟨⟨n,D⟩,eg,e3⟩:=Zz.mp e2;refine⟨Z,U,F,_,s,ea,λv H1 F1 w r1 f1=>?_⟩;refine L2.aq λP_ q=>?_;obtain⟨c2,a,dx,b,ns,l,ts,A,ec,rfl,eb,ef,eF,hA,hl,hb,ra⟩:=eE r1;cases ec;refine q ?_;refine⟨a,dx,_,rfl,hA,wI hn _ _,P Z U d O H1 _ (s.same w) el λus H2 Gs z RS RB=>?_⟩;rw[ZL];refine⟨_ :: trees d,F1 :: Gs,n,D,.cons (r1.same z) RS,eg,λu j F' MD C B=>?_⟩;cases n with
   |fr =>
    cases e3;exact L u j F' ((w.trans z).trans MD) C ⟨B.1,λb hb=>w.free (z.free (B.2 b hb))⟩
   |pu=>cases e3
   |bo=>cases e3
  ·cases e1
 ·cases e1
def Fl{G:Gx}(u:∀k,(G.ct (c+1)).2 k≠m)(r:PV G X o ca)(z:Ln X.K (G.ct (c+1)).1)(v:Meth X.K (G.ct (c+1)).1 m f)(F:FnOk X.prog X.w X.K X.mg X.base Kv k f fd ps (MB G h))(n:p0 k' X.A)(y:k<=k')(B:Binds X.K fd ps [])(C:KD G X (e :: es) cs)(D:K1 e es X)(a:K2 pos es X)(l:eval (.Call (.Attribute o m apos) (e :: es) [] pos) X.env=(do
   let b ← eval o X.env
   standAt apos.atName
   let (f,first) ← holding [b] (getMethod b m j)
   callWith pos f first (backTo pos (P3 (e :: es) X.env)) (backToKw pos (SZ [] X.env)))):PV G X (.Call (.Attribute o m apos) (e :: es) [] pos) (fQ c h ca cs) :=
 PE.weak (rC r z v F (n.mono y) B .nil mw C D a l) λO H Q q=>xg u (λZ U d O H R s e k=>⟨Z,U,d,s,e,k⟩) q
def Ct{G:Gx}(n:∀k,(G.ct (c+1)).2 k≠m)(l:PV G X o ca)(y:Ln X.K (G.ct (c+1)).1)(r:Meth X.K (G.ct (c+1)).1 m f)(F:FnOk X.prog X.w X.K X.mg X.base Kv k f fd ps (MB G h))(j:p0 k' X.A)(u:k<=k')(z:Binds X.K fd ps [])(d:eval (.Call (.Attribute o m apos) [] [] pos) X.env=(do
   let a ← eval o X.env
   standAt apos.atName
   let (f,first) ← holding [a] (getMethod a m b)
   callWith pos f first (backTo pos (P3 [] X.env)) (backToKw pos (SZ [] X.env)))):PV G X (.Call (.Attribute o m apos) [] [] pos) (fQ c h ca ak) :=
 PE.weak (tF l y r F (j.mono u) z .nil mw d) λO H Q q=>xg n (λZ U B O H R s e k=>by
  cases (e);exact k [] H [] (bg.refl _) .nil ⟨λi v F h=>by simp at h,by simp[Lk]⟩) q
end
def qw(i:Nat)(a:List MT)(j:Nat)(U:VS.Env):Option Out:=match (U[i]?:Option (Us)),(U[j]?:Option (Us)) with
 |some (some (.ow t)),some (some (.ow u))=>if i≠j then (keys a U).bind λb=>(pm (λx=>aN x [(.fr,u)]) b t).map λz=>.nx ((U.set j J).set i (Y (.ow z.1))) else J
 |_,_=>J
open Classical in
noncomputable def less(H:Hp)(F:W5):Hp:=λb=>if b∈F then J else H b
section
def qQ(h:b∈F):less H F b=J:=Zs h
def iu(h:b∉F):less H F b=H b:=Zo h
def iD{o:HO}(h:less H F b=Y o):H b=Y o/\b∉F:=by
 by_cases q:b∈F
 ·rw[qQ q]at h;cases h
 ·rw[iu q]at h;exact⟨h,q⟩
def xT(h:∀b∈F,JT (H b)):Kept H (less H F) :=
 ⟨λb a e=>by
  rw[iu (λz=>by have:=h b z;rw[e]at this;exact this)];exact e,λb o u e=>by
  rw[iu (λz=>by have:=h b z;rw[e]at this;exact this)];exact e⟩
def Cn{apos pos:Pos}(J:j4 G)(ho:Nh G X o i way)(hK:X.K=G.K)(hN:X.N[j]?=Y y)(hv:MZ X.env.scope y)(hd:K3 y)(hcd:K4 y)(Kp:XAC o "append" X.env (eval o X.env)=eval o X.env)(KP:((backTo pe (P3 [.Name y p1] X.env)).all (λx=>!x.1)&&(backToKw pe (SZ [] X.env)).all (λx=>x.1.isSome)
   && decide ([Expr.Name y p1].length+([]:List Keyword).length+(if ([]:List Keyword).isEmpty then 0 else 1)<30))=M)(Kc:(apos.endLine==pe.line)=M)(hs:P3 [.Name y p1] X.env=(R,eval (.Name y p1) X.env) :: P3 [] X.env)(Kb:(backTo pe (P3 [] X.env)).any (·.1)=R)(Mj:swapsWith (.Call (.Attribute o "append" apos) [.Name y p1] [] pe) none pos.line X.env=pure R) :
  PSV G X (.Expr (.Call (.Attribute o "append" apos) [.Name y p1] [] pe) pos) (qw i way j) :=
 PS.weak (jF (wB Wa Wk Wm ip ho (fu (gp hN hv hd hcd) j6 hs) Kp KP Kc hs Kb) Mj) λD O H hq=>by
  obtain⟨Z,U,out,s,e,k⟩:=hq;unfold qw at e;split at e
  ·rename_i t u ht F;split at e
   ·rename_i Mu;refine L2.aq λP_ k_=>?_;obtain⟨A,ek,e3⟩:=Zz.mp e;obtain⟨⟨Q,x2⟩,e5,e6⟩:=Zt.mp e3;cases e6;obtain⟨vj,j1,j2⟩:=s.rp _ _ F;have E:=j2;have ndj:=s.nd j u F;have kp:=xT E.J6;have s0:SR G Z (U.set j none) O (less H (Z j)):=⟨(s.drop j).len,λi' c' h=>by
     obtain⟨n,h'⟩:=cW h;obtain⟨v,h1,h2⟩:=s.rp i' c' h';exact⟨v,h1,h2.keep kp λb hb d Qv=>by rw[iu ((λi' c' n h b hb KQ=>s.sep j i' u c' F h (Y0 n) b KQ hb) i' c' n h' b hb)];exact Qv⟩,(s.drop j).nd,(s.drop j).sep⟩
    have RX:(U.set j none)[i]?=Y (Y (.ow t)):=by
     rw[Xs (Y0 Mu)];exact ht
    obtain⟨v,h1,h2⟩:=s0.rp _ _ RX;obtain⟨w,x,F1,x3,w1,w2,w3,B,w5⟩:=oK A J h2 (s0.nd i t RX) e5;refine k_ ?_;unfold aN at B;dsimp only at B;split at B
    ·rename_i l yv heq;cases heq;obtain⟨z,ez,e7⟩:=Zz.mp B;cases (ez);split at e7
     ·rename_i hl;cases e7;obtain⟨a,us,Gs,rfl,rfl,ha,ra⟩:=w2.lst_inv;obtain⟨g,L⟩:=iD ha;refine⟨Z,U,t,A,v,.ref a,s,ht,h1,ek,(by
       have:∀{A:List Ky}{v w:V},Ly G (less H (Z j)) A v w->Ly G H A v w:=by
        intro A v w p
        induction p with
        |nil v=>exact .nil v
        |fld h l _ f=>exact .fld (iD h).1 l f
        |ix h l m _ f=>exact .ix (iD h).1 l m f
        |key h l _ f=>exact .key (iD h).1 l f
        |un _ f=>exact .un f
       exact this w1),λH0 r=>⟨.inl ⟨rfl,us,by rw[hK];exact JV.of (r a _ g)⟩,vj,j1,a,us,vj,rfl,rfl,r a _ g,by rw[ra.len.1];exact hl,?_⟩⟩
      have S:JT (H0 a):=by rw[r a _ g];exact True.intro
      have P6:=ZW.mp w3;have C:=λb hb KQ=>by
       have:=ra.J6 b hb;rw[qQ KQ]at this;exact this
      have P:∀b d,less H (Z j) b=Y d->H0 b=Y d:=λb d h=>r b d (iD h).1;have kl:Kept (less H (Z j)) H0:=⟨λb xs h=>P b _ h,λb d u h=>P b _ h⟩
      obtain⟨F2,g2⟩:=w5 _ _ (by
       refine⟨kl.trans (Kept.upd (.inl S)),λb d hb h=>by rw[aM (λz=>hb (by rw[z];exact Zv))];exact P b d h,λb h z=>?_,.lst aH ((RpL.off (ra.keep kl λb hb d h=>P b d h) S P6.1).append (.cons (((E.same r)).keep (Kept.upd (.inl S)) λb hb d ho=>by rw[aM (λz=>L (by rw[← z];exact hb))];exact ho) .nil)),?_,λb hb=>?_⟩
       ·by_cases q:b=a
        ·rw[q,aH]at z;cases z
        ·rw[aM q]at z;cases e:less H (Z j) b with
         |none=>exact h e
         |some d=>rw[P b d e]at z;cases z
       ·rw[Yh];refine ZW.mpr ⟨λm=>?_,ZA.mpr ⟨P6.2,by simpa using ndj,λb hb c hc z=>?_⟩⟩
        ·rcases Zd.mp m with m | m
         ·exact P6.1 m
         ·exact L (by simpa using m)
        ·subst z;exact C b hb (by simpa using hc)
       ·rcases Zg.mp hb with rfl | hb
        ·exact .inl Zv
        ·rw[Yh]at hb;rcases Zd.mp hb with hb | hb
         ·exact .inl (Zu _ hb)
         ·exact .inr (qQ (by simpa using hb)))
      obtain⟨z1,z2⟩:=s0.mut RX h1 g2;have back:∀b,less H (Z j) b=none->cQ Z U b\/H b=none:=λb h=>by
       by_cases q:b∈Z j
       ·exact .inl ⟨j,u,F,q⟩
       ·rw[iu q]at h;exact .inr h
      have OP:∀b,cQ Z (U.set j none) b->cQ Z U b:=λb ⟨j',Q,q1,q2⟩=>⟨j',Q,(cW q1).2,q2⟩
      have pu0:∀b,fo Z (U.set j none) b->fo Z U b:=λb ⟨j',Q,q1,q2⟩=>⟨j',Q,(cW q1).2,q2⟩
      refine k _ O _ z1 ⟨λb d h n=>?_,λb h z=>?_,λb h=>?_,λb h=>?_,(Kept.of r).trans (Kept.upd (.inl S))⟩
      ·exact z2.keep b d (by rw[iu (λz=>n ⟨j,u,F,z⟩)];exact h) λz=>n (OP b z)
      ·by_cases q:b=a
       ·rw[q,aH]at z;cases z
       ·rw[aM q]at z;exact h (r.free z)
      ·rcases z2.ow b h with h | h
       ·exact .inl (OP b h)
       ·exact back b h
      ·rcases z2.pu b h with h | h | h
       ·exact .inl (pu0 b h)
       ·exact .inr (.inl (OP b h))
       ·exact(back b h).elim (λz=>.inr (.inl z)) λz=>.inr (.inr z)
     ·cases e7
    ·cases B
   ·cases e
  ·cases e
end
end VS
end
section
namespace VS
open PySem PySem.Spec PyProof.Rows L2
noncomputable def isInt:T->Bool
 |.int _=>M
 |_=>R
def wM(i:Nat):Mr:=λU=>match (U[i]?:Option (Us)) with
 |some (some (.pu (.dct 3 l)))=>if (l.all λp=>isInt p.1)=M then Y (.fr,l.map (·.1)) else J
 |_=>J
def yS(i:Nat)(a:Tg)(b:Ex):Sx:=λU=>match (U[i]?:Option (Us)) with
 |some (some (.ow (.dct 0 l)))=>(cG 1 a (wM i) J b (U.set i (Y (.pu (.dct 3 l))))).bind λv=>match v.1 with
  |.fr=>Y (.rt v (U.set i J))
  |_=>J
 |_=>J
theorem zip_inj{α β:Type}:∀{a c:List α}{b d:List β},a.length=b.length->c.length=d.length->a.zip b=c.zip d->a=c
 |[],[],_,_,_,_,_=>rfl
 |[],_ :: _,_,[],_,h,_=>by simp at h
 |[],_ :: _,[],_ :: _,_,_,h=>by simp at h
 |[],_ :: _,_ :: _,_ :: _,h,_,_=>by simp at h
 |_ :: _,_,[],_,h,_,_=>by simp at h
 |_ :: _,[],_ :: _,[],_,_,h=>by simp at h
 |_ :: _,[],_ :: _,_ :: _,_,h,_=>by simp at h
 |_ :: _,_ :: _,_ :: _,[],_,h,_=>by simp at h
 |x :: a,y :: c,z :: b,w :: d,f,e,h=>by
  rw[ZJ,ZJ]at h;obtain⟨e1,e2⟩:=List.cons.inj h;rw[zip_inj (by simpa using f) (by simpa using e) e2,(X6 e1).1]
section
def Gn{X:Cx}(i:Nat)(N:List Str)(J3:X.calm=M)(hN:X.N[i]?=Y x)(hv:MZ X.env.scope x)(hd:K3 x)(hcd:K4 x)(Lh:oA 1 g)(hg:∀cl C s H fp,PF G (bY X N sc cl C s H fp) tg g)(he:∀cl C s H fp,PV G (bY X N sc cl C s H fp) elt ce)(L5:nN X.env sc=M)(MK:oB sc (N.drop 1) X.N=M)(MO:1<=N.length)(hs:∀y,XAD (.Name x p1) X.env y=pure y) :
  PSV G X (.Return (Y (.ListComp elt [⟨tg,.Name x p1,[],0⟩] sc pos)) pos') (yS i g ce) :=
 PS.weak (qX (rJ J3 (Hi (gp hN hv hd hcd)) L5 MK MO (λcl C s H fp=>⟨hg cl C s H fp,nV,he cl C s H fp⟩) hs)) λD O H hq=>by
  obtain⟨Z,U,out,s,e,k⟩:=hq;unfold yS at e;split at e
  ·rename_i l E;refine L2.aq λP_ k_=>?_;obtain⟨⟨mv,tv⟩,ev,e1⟩:=Zz.mp e;have QC:mv=.fr/\out=.rt (.fr,tv) (U.set i J):=by
    cases mv with
    |fr=>cases e1;exact⟨rfl,rfl⟩
    |pu=>cases e1
    |bo=>cases e1
   obtain⟨rfl,rfl⟩:=QC;obtain⟨v,g1,g2⟩:=s.rp _ _ E;obtain⟨a,ns,L,ts,Fs,rfl,eF,ha,A,rfl,ra⟩:=fq g2;refine k_ ?_;have nd:=s.nd i _ E;rw[eF]at nd;refine⟨.ref a,g1,a,ns.zip L,rfl,ha,λo=>?_⟩;have mu:JT (H a):=by rw[ha];exact True.intro
   have kp:Kept H (upd H a (.frz o (.dK (ns.zip L)))):=Kept.upd (.inl mu);have es:O.set i (Y (.ref a))=O:=by
    obtain⟨h,e⟩:=ZY.mp g1;rw[← e];exact Vb h
   have aΦ:a∈Z i:=by rw[eF];exact Zv
   have sub:∀b∈Fs.flatten,b∈Z i:=λb hb=>by rw[eF];exact Zu _ hb
   have s1:SR G (mM Z i Fs.flatten) (U.set i (Y (.pu (.dct 3 ((ns.map aR).zip ts))))) O (upd H a (.frz o (.dK (ns.zip L)))):=by
    have:=s.put (c:=.pu (.dct 3 ((ns.map aR).zip ts))) ((ZY.mp E).1) (.dctZ aH A (ra.off mu (ZW.mp nd).1)) (λj c' n hj w q=>q.keep kp λb hb ob ho=>by
     rw[aM (λz=>s.sep i j _ c' E hj (Y0 n) a aΦ (by rw[← z];exact hb))];exact ho) (λ_ z=>nomatch z) (λ_ z=>nomatch z) λj u n hj b hb KQ=>s.sep j i u _ hj E n b hb (sub b KQ)
    rw[es]at this;exact this
   refine L2.aq λP_ k_=>?_;obtain⟨Z2,U2,m2,l2,s2,e2,k2⟩:=kX Lh (by
    refine⟨_,_,.fr,tv,s1,ev,λu H' F sm r f=>?_⟩;have ee:(U.set i (Y (.pu (.dct 3 ((ns.map aR).zip ts))))).set i J=U.set i J:=by rw[List.set_set]
    have sd:=(s1.drop i).same sm;rw[ee]at sd;have OP:∀b,cQ (mM Z i Fs.flatten) (U.set i J) b->cQ Z U b:=λb ⟨j,t,B,d⟩=>by
     obtain⟨n,m⟩:=cW B;rw[fA n]at d;exact⟨j,t,m,d⟩
    refine k u H' F _ O sd ⟨λb ob h n=>?_,λb h z=>?_,λb h=>.inl (OP b h),λb ⟨j,t,B,d⟩=>?_,kp.trans (Kept.of sm)⟩ r ⟨f.1,λb hb=>.inl ?_⟩
    ·have nb:b≠a:=λz=>n ⟨i,_,E,by rw[z];exact aΦ⟩;exact⟨sm b ob (by rw[aM nb];exact h),λz=>n (OP b z)⟩
    ·have z1:=sm.free z;by_cases q:b=a
     ·rw[q,aH]at z1;cases z1
     ·rw[aM q]at z1;exact h z1
    ·obtain⟨n,m⟩:=cW B;rw[fA n]at d;exact .inl ⟨j,t,m,d⟩
    ·have:=f.2 b hb;by_cases q:b=a
     ·rw[q,aH]at this;cases this
     ·rw[aM q]at this;exact this)
   refine k_ ?_;refine k2 (Itk a o (ns.zip L)) _ [] (bg.refl _) ?_ (λb hb=>nomatch hb);unfold wM at e2;split at e2
   ·rename_i l3 h3;split at e2
    ·rename_i hint;cases e2;obtain⟨v3,B,d⟩:=s2.rp _ _ h3;rw[g1]at B;cases B;obtain⟨a3,o3,ks3,vs3,P,Fs3,ea3,_,MN,LI,rfl,Od⟩:=t6 d;cases ea3;rw[aH]at MN;have ek:=zip_inj A LI (HO.dK.inj (HO.frz.inj (Zl MN)).2);subst ek;have em:((ns.map aR).zip P).map (·.1)=ns.map aR:=Uy (by rw[Zw,LI,Od.len.1];exact Zn _);have zl:(ns.zip L).length=ns.length:=by rw[YH,A,WW]
     refine⟨λH2 KI _=>⟨λn t S=>?_,λn S=>?_⟩,λb hb=>nomatch hb⟩
     ·rw[em,ZG]at S;obtain⟨kk,Nv,LV⟩:=Zt.mp S;have Q:=(ZY.mp Nv).1;refine⟨⟨KI.frz _ _ _ aH,by rw[zl];exact Q⟩,λy H3 hy=>?_⟩;obtain⟨rfl,p,hp,rfl⟩:=hy;refine⟨bg.refl _,[],?_,λb hb=>nomatch hb⟩;have hp1:p.1=kk:=by
       have Rh:=hp;rw[Xg]at Rh;rw[Nv]at Rh;exact(Zl Rh.1).symm
      have hi:isInt t=M:=by
       have:=Lw.mp hint (t,P[n]'(by rw[← Od.len.1,← LI];exact Q)) (by
        refine YZ (i:=n) ?_;rw[Xg];exact⟨by rw[ZG,Nv];exact congrArg Y LV,Zp _⟩)
       exact this
      rw[hp1,← LV];rw[← LV]at hi;cases kk with
      |inl n=>exact .int n
      |inr z=>cases hi
     ·refine⟨KI.frz _ _ _ aH,?_⟩;rw[em,Zw]at S;rw[zl];exact S
    ·cases e2
   ·cases e2
  ·cases e
end
noncomputable def GO(c:Nat):Option (Us)->Bool
 |some (some (.ow (.obj a (_ :: _))))=>a==c+1
 |_=>R
def p8(i c:Nat)(b:List Bool)(g:Mt)(x:Xx)(d:J8)(U:VS.Env):Option (Val×VS.Env):=if GO c (U[i]?:Option (Us))=M then (x U).bind λz=>if JU z.1.2=M then (match (z.2[i]?:Option (Us)) with
 |some (some (.ow t))=>(d z.2).bind λa=>(mq c b g ((.fr,z.1.2) :: a) t).map λr=>(r.2,z.2.set i (Y (.ow r.1)))
 |_=>J) else J else J
section
def DS{G:Gx}{X:Cx}(hn:∀k,(G.ct (c+1)).2 k≠m)(hN:X.N[i]?=Y y)(hv:MZ X.env.scope y)(hd:K3 y)(hcd:K4 y)(hc:Ln X.K (G.ct (c+1)).1)(hm:Meth X.K (G.ct (c+1)).1 m f)(F:FnOk X.prog X.w X.K X.mg X.base Kv k f fd ps (NK G c mv g))(hr:p0 k' X.A)(hk:k<=k')(hb:Binds X.K fd ps [])(h1:PX G X e x)(ha:KD G X es cs)(KU:K1 e es X)(hpl:K2 pos es X)(ht:eval (.Call (.Attribute (.Name y p1) m apos) (e :: es) [] pos) X.env=(do
   let ov ← eval (.Name y p1) X.env
   standAt apos.atName
   let (f,first) ← holding [ov] (getMethod ov m pl)
   callWith pos f first (backTo pos (P3 (e :: es) X.env)) (backToKw pos (SZ [] X.env)))):PX G X (.Call (.Attribute (.Name y p1) m apos) (e :: es) [] pos) (p8 i c mv g x cs) :=
 PE.weak (rC (gp hN hv hd hcd) hc hm F (hr.mono hk) hb .nil mw (fu h1 ha KU) KU hpl ht) λO H Q h=>by
  refine L2.aq λP_ j=>?_;obtain⟨Z,U,v,U',s,e,him,kq⟩:=h;refine j ?_;unfold p8 at e;split at e
  ·rename_i S;obtain⟨⟨P,U1⟩,e1,e2⟩:=Zz.mp e;split at e2
   ·rename_i C;unfold GO at S;split at S
    ·rename_i c0 q0 fs0 h0;have ec0:c0=c+1:=by simpa using S
     refine L2.aq λP_ j=>?_;subst ec0;obtain⟨v0,g1,g2⟩:=s.rp _ _ h0;obtain⟨c',a,dx,b,ns,l,ts,Fs,ec,rfl,eb,ef,eF,hA,hl,hbb,ra⟩:=eE g2;cases ec;refine j ?_;have key:∀(ns:Uv)(l:List V),((ns.map (G.ct (c+1)).2).zip l).lookup m=J:=by
      intro ns
      induction ns with
      |nil=>intro l;simp
      |cons n ns ih =>
       intro l;cases l with
       |nil=>simp
       |cons v l =>
        rw[Zk,ZJ,YO];have:(m==(G.ct (c+1)).2 n)=R:=by
         rw[beq_eq_false_iff_ne];exact λz=>hn n z.symm
        rw[this];exact ih l
     refine⟨.ref a,g1,a,dx,_,rfl,hA,key _ _,Z,U,P,U1,s,e1,C,λu1 H1 Z1 s1 f1 r1=>?_⟩;split at e2
     ·rename_i t1 Qu;refine L2.aq λP_ j=>?_;obtain⟨L,el,e3⟩:=Zz.mp e2;obtain⟨⟨x3,y3⟩,p,e4⟩:=Zt.mp e3;cases e4;obtain⟨va,q1,w2⟩:=s1.rp _ _ Qu;rw[g1]at q1;cases q1;refine j ?_;have w3:=s1.nd i t1 Qu;refine⟨Z1,U1,L,s1,el,λus H2 Gs o RS RB=>?_⟩;show NK G c mv g (V.ref a :: ((u1 :: us)++[])) H2 Q E0;rw[ZL];unfold mq at p;split at p
      ·rename_i c1 d fs;split at p
       ·rename_i UW;obtain⟨rfl,Ov,Oy,Tv⟩:=UW;obtain⟨⟨LW,z⟩,eg,e7⟩:=Zz.mp p;split at e7
        ·rename_i Ou;refine L2.aq λP_ j=>?_;cases e7;obtain⟨c2,a2,dx2,b2,ns2,Ud,ts2,XN,RD,TN,eb2,rfl,TQ,Rz,Lr,OW,B⟩:=eE w2;cases RD;cases TN;cases eb2;refine j ?_;have D:PJ Z1 U1 H1 ((.fr,P.2) :: L) ([] :: Gs):=⟨λn v' F' a1 a2=>by
          cases n with
          |zero=>cases a1;cases a2;exact Fp.nil
          |succ n=>exact RB.each n v' F' (by simpa using a1) (by simpa using a2),by
          exact RB.nd⟩
         have QY:=vN Oy D;have r:RpL G H2 (u1 :: us) (trees ((.fr,P.2) :: L)) ([] :: Gs):=.cons (r1.same o) RS;refine⟨a,u1 :: us,ns2.zip ts2,trees ((.fr,P.2) :: L),Z1 i,[] :: Gs,LW,z,rfl,?_,r.at (MV a) Tv,?_,?_,?_,eg,λu H' F' q ru=>?_⟩
         ·rw[TQ];exact .ins (o a _ Rz) Lr (λ_=>rfl) ((B.same o).at (MV a) (eZ (Lr.trans B.len.1) Ov))
         ·rw[ka Oy];simp[trees]
         ·refine ZA.mpr ⟨w3,D.nd.sublist (nJ Oy),λd E b2 OW z=>?_⟩;subst z;exact JT.xa (w2.J6 d E) (QY d OW)
         ·rw[qR Oy r];exact λd _ z=>nomatch z
         ·have back:Rp G H' (.ref a) (.obj (c+1) ((0,.bl d) :: LW)) F':=by
           refine L2.aq λP_ j=>?_;obtain⟨c3,a3,dx3,b3,ns3,vs3,ts3,Fs3,ec3,ea3,eb3,ef3,eF3,hA3,LI,hb3,Od⟩:=eE q.rp;cases ec3;cases ea3;subst ef3;refine j ?_;rw[eF3];exact .ins hA3 LI OW (Od.at G.me (eZ (LI.trans Od.len.1) Ou.1))
          obtain⟨z1,z2⟩:=s1.mut Qu g1 (⟨(Kept.of o).trans q.kept,λd o1 E ho=>q.keep d o1 (λz=>(Zd.mp z).elim E λz=>by rw[QY d z]at ho;cases ho) (o d o1 ho),λd h=>q.J6 d λz=>h (o.free z),back,q.nd,λd E=>by
           rcases q.sub d E with z | z
           ·rcases Zd.mp z with z | z
            ·exact .inl z
            ·exact .inr (QY d z)
           ·exact .inr (o.free z)⟩)
          exact kq u H' _ z1 (f1.trans z2) (ru.at G.me (nA z Ou.2))
        ·cases e7
       ·cases p
      ·cases p
     ·cases e2
    ·cases S
   ·cases e2
  ·cases e
end
noncomputable def QE(a:List Str)(k:Nat):Str:=match a[k]? with
 |some x=>x
 |none=>⟨#[k]⟩
def OY(a:List Str)(K:Wy)(C D:On):Gx:=⟨K,λc=>(if c=2 then D else C,QE a),λ_=>J⟩
def C0{a:List Str}(i:a.Nodup)(h:∀x∈a,x.cps.size≠1)(k b:Nat)(e:QE a k=QE a b):k=b:=by
 unfold QE at e;by_cases f:k<a.length
 ·by_cases d:b<a.length
  ·rw[Zp f,Zp d]at e;exact(Uw i).mp e
  ·rw[Zp f,Yk (ZD d)]at e;have g:a[k]=(⟨#[b]⟩:Str):=e;exact absurd (by rw[g];rfl) (h _ (Yp f))
 ·by_cases d:b<a.length
  ·rw[Yk (ZD f),Zp d]at e;have g:(⟨#[k]⟩:Str)=a[b]:=e;exact absurd (by rw[← g];rfl) (h _ (Yp d))
  ·rw[Yk (ZD f),Yk (ZD d)]at e;cases e;rfl
def CH{a:List Str}{K:Wy}(b:a.Nodup)(h:∀x∈a,x.cps.size≠1):j4 ((OY a K C D).at m):=λ_ k d e=>C0 b h k d e
def gy(h:x∉a)(d:x.cps.size≠1)(k:Nat):QE a k≠x:=λe=>by
 unfold QE at e;split at e
 ·rename_i y b;exact h (e ▸ YZ b)
 ·exact d (by rw[← e];rfl)
def yi{a:List Str}{K:Wy}(b:a[k]?=Y f)(h:Ln K C)(g:Ln K D)(e:bq K C f)(d:bq K D f):KO ((OY a K C D).at m) K k f :=
 ⟨λc=>by show QE a k=f;unfold QE;rw[b],λc=>by show Ln K (if c+1=2 then D else C);split<;>assumption,λc=>by show bq K (if c+1=2 then D else C) f;split<;>assumption⟩
structure MtAt(P:SB)(w:XAB)(K:Wy)(mg:Wf)(base:XAA)(k:Nat)(G:Gx)(c:Nat)(x:Str)(ps:List Str)(mv:List Bool)(g:Mt):Prop where
 ex:∃f fd,FnOk P w K mg base Kv k f fd ps (NK G c mv g)/\Meth K (G.ct (c+1)).1 x f/\Binds K fd ps []
 cl:Ln K (G.ct (c+1)).1
 no:∀k,(G.ct (c+1)).2 k≠x
structure MpAt(P:SB)(w:XAB)(K:Wy)(mg:Wf)(base:XAA)(k:Nat)(G:Gx)(c:Nat)(x:Str)(ps:List Str)(h:Fn):Prop where
 ex:∃f fd,FnOk P w K mg base Kv k f fd ps (MB G h)/\Meth K (G.ct (c+1)).1 x f/\Binds K fd ps []
 cl:Ln K (G.ct (c+1)).1
 no:∀k,(G.ct (c+1)).2 k≠x
structure InAt(P:SB)(w:XAB)(K:Wy)(mg:Wf)(base:XAA)(k:Nat)(G:Gx)(c n:Nat)(x:Str)(ps:List Str)(g:Mt):Prop where
 ex:∃f fd,FnOk P w K mg base Kv k f fd ps (NK G c (List.replicate n false) g)/\Mk K (G.ct (c+1)).1 f/\Binds K fd ps []
 mg:mg x=some (.ref (G.ct (c+1)).1)
section
variable{K:Wy}
theorem MtAt.at{m:Me}(h:MtAt P w K mg base k G c x ps mv g):MtAt P w K mg base k (G.at m) c x ps mv g:=⟨h.ex,h.cl,h.no⟩
theorem InAt.at{P:SB}{w:XAB}{mg:Wf}{base:XAA}{k c n:Nat}{G:Gx}{x:Str}{ps:List Str}{g:Mt}{m:Me}(h:InAt P w K mg base k G c n x ps g):InAt P w K mg base k (G.at m) c n x ps g:=⟨h.ex,h.mg⟩
def lQ{G:Gx}(F:JP K x b d f m)(q:Meth K (G.ct (c+1)).1 x f)(r:Ln K (G.ct (c+1)).1)(y:∀k,(G.ct (c+1)).2 k≠x)(S:bt N ps (ai d))(o:ps.length=j)(p:N.length=l)(v:∀(kV doc pm:PP)(an:Option On)(h ct:PP)(i:Vq),i.length=ps.length->bindArgs (PySem.W.fnOf x b (dg d) (bC d) (ai d) .none kV doc pm an h ct) ⟨i,[]⟩=pure (ps.zip i))(u:∀(a:On)(h:PP)(A:SC)(outer:List PySem.Env)(s:KB)(H:Hp)(E:XK),p0 k (A.deeper (envOfC b (ai d) s.heap.objs.size f h))->jd (G.at (MV a)) (j7 Kv P w K mg base N b (ai d) f h A outer s H E).M7 (bC d) e) :
  MtAt P w K mg base (k+1) G c x ps mv (LH c j l mv e):=⟨⟨f,m,fnM F S o p u,q,F.binds v⟩,r,y⟩
def GJ{G:Gx}(F:JP K y b d f m)(q:Mk K (G.ct (c+1)).1 f)(r:mg x=Y (.ref (G.ct (c+1)).1))(S:bt N ps (ai d))(o:ps.length=j)(p:N.length=l)(v:∀(kV doc pm:PP)(an:Option On)(h ct:PP)(i:Vq),i.length=ps.length->bindArgs (PySem.W.fnOf y b (dg d) (bC d) (ai d) .none kV doc pm an h ct) ⟨i,[]⟩=pure (ps.zip i))(u:∀(a:On)(h:PP)(A:SC)(outer:List PySem.Env)(s:KB)(H:Hp)(E:XK),p0 k (A.deeper (envOfC b (ai d) s.heap.objs.size f h))->jd (G.at (MV a)) (j7 Kv P w K mg base N b (ai d) f h A outer s H E).M7 (bC d) e) :
  InAt P w K mg base (k+1) G c n x ps (LH c j l (List.replicate n R) e):=⟨⟨f,m,fnM F S o p u,q,F.binds v⟩,r⟩
def DX{G:Gx}(F:NS K y d e f q)(v:Mk K (G.ct (c+1)).1 f)(z:mg x=Y (.ref (G.ct (c+1)).1))(S:bt N ps (ai e))(r:ps.length=m)(u:N.length=p)(C:∀(s:KB)(T:On)(kV doc pm:PP)(an:Option On)(i ct:PP)(o:Obj)(n:Nat)(j:Vq),K.In s.heap->K.lookup T=Y o->o.data=.seq #[.none] n->j.length=ps.length->BindsTo s (PySem.W.fnOf y d (dg e) (bC e) (ai e) (.ref T) kV doc pm an i ct) ⟨j,[]⟩ (ps.zip j))(B:∀(a:On)(i:PP)(A:SC)(outer:List PySem.Env)(s:KB)(H:Hp)(E:XK),p0 k (A.deeper (envOfC d (ai e) s.heap.objs.size f i))->jd (G.at (MV a)) (j7 Kv P w K mg base N d (ai e) f i A outer s H E).M7 (bC e) h) :
  InAt P w K mg base (k+1) G c n x ps (LH c m p (List.replicate n R) h):=⟨⟨f,q,Ip (λl b=>F.ok S l b) r u B,v,F.binds C⟩,z⟩
def oi{G:Gx}(F:JP K x a b f l)(p:Meth K (G.ct (c+1)).1 x f)(q:Ln K (G.ct (c+1)).1)(v:∀k,(G.ct (c+1)).2 k≠x)(S:bt N ps (ai b))(m:ps.length=i)(o:N.length=j)(u:∀(kV doc pm:PP)(an:Option On)(e ct:PP)(h:Vq),h.length=ps.length->bindArgs (PySem.W.fnOf x a (dg b) (bC b) (ai b) .none kV doc pm an e ct) ⟨h,[]⟩=pure (ps.zip h))(r:∀(e:PP)(A:SC)(outer:List PySem.Env)(s:KB)(H:Hp)(E:XK),p0 k (A.deeper (envOfC a (ai b) s.heap.objs.size f e))->jd G (j7 Kv P w K mg base N a (ai b) f e A outer s H E).M7 (bC b) d) :
  MpAt P w K mg base (k+1) G c x ps (fn i j d):=⟨⟨f,l,fnV F S m o r,p,F.binds u⟩,q,v⟩
def BP{G:Gx}{k:Nat}{g:Fn}(i:G.K=K)(F:FnOk P w K mg base Kv k f b [y] (MB G g))(e:∀ns:Uu,g [.scr ns]=Y (.fr,.bl M)) :
  FnOk P w K mg base Kv k f b [y] (MB (gx0 K) B6):=F.imp λo H Q E h=>by
 obtain⟨p,s,m,r,j,a,q⟩:=h;unfold B6 at a;split at a
 ·rename_i ns;cases a;cases j with
  |cons r1 r2 =>
   cases r2;cases r1 with
   |scr d=>exact⟨[.scr ns],[[]],.fr,.bl M,.cons (.scr (by rw[i];exact d)) .nil,e ns,λv l F e1 r f1=>q v l F e1 (by cases r;exact .bl _) f1⟩
 ·cases a
end
section
def iS{X:Cx}(J:j4 G)(F:MtAt X.prog X.w X.K X.mg X.base k G c m ps mv g)(r:p0 k' X.A)(u:k<=k')(s:Nh G X o i way)(v:KD G X (e :: es) cs)(C:{`q8,K1 e es X})(a:{`q8,K2 pos es X})(q:{`q8,eval (.Call (.Attribute o m apos) (e :: es) [] pos) X.env=(do
   let d ← eval o X.env
   standAt apos.atName
   let (f,first) ← holding [d] (getMethod d m l)
   callWith pos f first (backTo pos (P3 (e :: es) X.env)) (backToKw pos (SZ [] X.env)))}):PX G X (.Call (.Attribute o m apos) (e :: es) [] pos) (bQ i way c mv g cs):=by
 obtain⟨f,fd,B,z,y⟩:=F.ex;exact DE J F.no s F.cl z B r u y v C a q
def yI{X:Cx}(J:j4 G)(F:MtAt X.prog X.w X.K X.mg X.base k G c m ps mv g)(q:p0 k' X.A)(s:k<=k')(r:Nh G X o i way)(l:eval (.Call (.Attribute o m apos) [] [] pos) X.env=(do
   let a ← eval o X.env
   standAt apos.atName
   let (f,first) ← holding [a] (getMethod a m d)
   callWith pos f first (backTo pos (P3 [] X.env)) (backToKw pos (SZ [] X.env)))):PX G X (.Call (.Attribute o m apos) [] [] pos) (bQ i way c mv g ak):=by
 obtain⟨f,fd,y,v,u⟩:=F.ex;exact Ar J F.no r F.cl v y q s u l
def E1{X:Cx}(F:MtAt X.prog X.w X.K X.mg X.base k G c m ps mv g)(u:p0 k' X.A)(v:k<=k')(B:X.N[i]?=Y x)(r:MZ X.env.scope x)(y:K3 x)(d:K4 x)(H:PX G X e xc)(z:KD G X es cs)(L:K1 e es X)(a:K2 pos es X)(s:eval (.Call (.Attribute (.Name x p1) m apos) (e :: es) [] pos) X.env=(do
   let l ← eval (.Name x p1) X.env
   standAt apos.atName
   let (f,first) ← holding [l] (getMethod l m q)
   callWith pos f first (backTo pos (P3 (e :: es) X.env)) (backToKw pos (SZ [] X.env)))):PX G X (.Call (.Attribute (.Name x p1) m apos) (e :: es) [] pos) (p8 i c mv g xc cs):=by
 obtain⟨f,fd,E,D,C⟩:=F.ex;exact DS F.no B r y d F.cl D E u v C H z L a s
def C7{X:Cx}(F:MpAt X.prog X.w X.K X.mg X.base k G c m ps h)(r:p0 k' X.A)(u:k<=k')(s:PV G X o ca)(v:KD G X (e :: es) cs)(C:K1 e es X)(a:K2 pos es X)(q:eval (.Call (.Attribute o m apos) (e :: es) [] pos) X.env=(do
   let d ← eval o X.env
   standAt apos.atName
   let (f,first) ← holding [d] (getMethod d m l)
   callWith pos f first (backTo pos (P3 (e :: es) X.env)) (backToKw pos (SZ [] X.env)))):PV G X (.Call (.Attribute o m apos) (e :: es) [] pos) (fQ c h ca cs):=by
 obtain⟨f,fd,B,z,y⟩:=F.ex;exact Fl F.no s F.cl z B r u y v C a q
def oR{X:Cx}(F:MpAt X.prog X.w X.K X.mg X.base k G c m ps h)(q:p0 k' X.A)(s:k<=k')(r:PV G X o ca)(l:eval (.Call (.Attribute o m apos) [] [] pos) X.env=(do
   let a ← eval o X.env
   standAt apos.atName
   let (f,first) ← holding [a] (getMethod a m d)
   callWith pos f first (backTo pos (P3 [] X.env)) (backToKw pos (SZ [] X.env)))):PV G X (.Call (.Attribute o m apos) [] [] pos) (fQ c h ca ak):=by
 obtain⟨f,fd,y,v,u⟩:=F.ex;exact Ct F.no r F.cl v y q s u l
def IA{e:Ex}:∀(U:VS.Env)(d:Ur),ae e ak U=Y d->d.length=1:=λU d h=>by
 obtain⟨a,_,h⟩:=Zz.mp h;cases h;rfl
def GK{X:Cx}(F:InAt X.prog X.w X.K X.mg X.base k G c n x ps g)(l:p0 k' X.A)(r:k+1<=k')(u:KD G X (e :: es) cs)(q:∀U d,cs U=Y d->d.length=n)(s:Gl X x)(B:K3 x)(he:K1 e es X)(a:K2 pos es X):PV G X (.Call (.Name x p) (e :: es) [] pos) (eNew c g cs):=by
 obtain⟨f,fd,z,y,v⟩:=F.ex;exact HJ n y z l r s F.mg v u q B he a
def Cj{X:Cx}(F:InAt X.prog X.w X.K X.mg X.base k G c 0 x ps g)(a:p0 k' X.A)(d:k+1<=k')(l:Gl X x)(u:K3 x):PV G X (.Call (.Name x p) [] [] pos) (eNew c g ak):=by
 obtain⟨f,fd,s,r,q⟩:=F.ex;exact Ey r s a d l F.mg q u
def rM{apos pos:Pos}(J:j4 G)(d:Nh G X o i way)(q:KD G X [e] cs)(s:{`q8,X.K=G.K})(w:{`q8,XAC o "append" X.env (eval o X.env)=eval o X.env})(B:{`q8,((backTo pe (P3 [e] X.env)).all (λx=>!x.1)&&(backToKw pe (SZ [] X.env)).all (λx=>x.1.isSome)
   && decide ([e].length+([]:List Keyword).length+(if ([]:List Keyword).isEmpty then 0 else 1)<30))=M})(y:{`q8,(apos.endLine==pe.line)=M})(a:{`q8,K1 e [] X})(A:{`q8,(backTo pe (P3 [] X.env)).any (·.1)=R})(u:{`q8,swapsWith (.Call (.Attribute o "append" apos) [e] [] pe) none pos.line X.env=pure R}) :
  PSV G X (.Expr (.Call (.Attribute o "append" apos) [e] [] pe) pos) (sX (iX i way aN cs)) :=
 zw J Wa Wk Wm ip lJ (λH v t F l z r h=>jv r h) d q s w B y a A u
end
inductive Ia where | io (i:Nat) (un:Bool) | ex (c:Ex)
abbrev Xt:=VS.Env->Option (Bool×VS.Env)
end VS
end
section
namespace VS
open PySem PySem.Spec PyProof.Rows L2
def x2(f:Val->Val->Uq)(a b:Xx):Xx:=λU=>(a U).bind λz=>(b z.2).bind λw=>(f (.fr,z.1.2) (.fr,w.1.2)).bind λv=>if JU z.1.2=M/\JU w.1.2=M/\JU v.2=M then Y ((.fr,v.2),w.2) else J
inductive Ix where | io (i:Nat) (un:Bool) | px (x:Xx)
end VS
end
section
namespace VS
open PySem PySem.Spec PyProof.Rows L2
def tsc:T->Bool
 |.tup l=>l.all sca
 |t=>sca t
end VS
end
section
namespace VS
open PySem PySem.Spec PyProof.Rows L2
noncomputable def e3(f:Val->Val->Val->Uq)(a b c:Ex):Ex:=λU=>(a U).bind λx=>(b U).bind λy=>(c U).bind λz=>f x y z
end VS
end
section
namespace SI
open PySem PySem.Spec PyProof.Rows TS ST
noncomputable abbrev A8(a:Array Nat):Prop:=∀i j u v:Nat,i<j->a[i]?=Y u->a[j]?=Y v->u<v
theorem oh(f:A8 b):∀(fuel lo a:Nat),a-lo<=fuel->lo<=a->a<=b.size->(∀i v,i<lo->b[i]?=Y v->v<j)->(∀i v,a<=i->b[i]?=Y v->j<=v) →
  (∀i v,i<SetTable.below.go b j fuel lo a->b[i]?=Y v->v<j)/\(∀i v,SetTable.below.go b j fuel lo a<=i->b[i]?=Y v->j<=v)/\SetTable.below.go b j fuel lo a<=b.size
 |0,lo,a,q,p,l,h,g=>by
  have e:lo=a:=by lia
  subst e;exact⟨h,g,l⟩
 |n+1,lo,a,q,p,l,h,g=>by
  unfold SetTable.below.go;by_cases o:lo<a
  ·rw[Zs o];have m:(lo+a)/2<b.size:=by lia
   have hg:b[(lo+a)/2]?=Y (b.getD ((lo+a)/2) j):=by
    rw[Xe m];simp[Array.getD,m]
   by_cases d:b.getD ((lo+a)/2) j<j
   ·rw[Zs d];refine oh f n _ a (by omega) (by lia) l (λi v r e=>?_) g;by_cases he:i=(lo+a)/2
    ·subst he;rw[hg]at e;cases e;exact d
    ·exact XM (f i _ v _ (by lia) e hg) d
   ·rw[Zo d];refine oh f n lo _ (by omega) (by lia) (by exact ZO m) h (λi v r e=>?_);by_cases he:i=(lo+a)/2
    ·subst he;rw[hg]at e;cases e;exact ZD d
    ·exact ZS (ZD d) (ZO (f _ i _ v (by lia) hg e))
  ·rw[Zo o];have e:lo=a:=by lia
   subst e;exact⟨h,g,l⟩
def nq(b:A8 a)(j:Nat):(∀i v,i<SetTable.below a j->a[i]?=Y v->v<j)/\(∀i v,SetTable.below a j<=i->a[i]?=Y v->j<=v)/\SetTable.below a j<=a.size :=
 oh b _ 0 _ (by exact Yj _ _) (ZE _) (Zn _) (λi v h=>absurd h (Nat.not_lt_zero _)) λi v h e=>by
  rw[Array.getElem?_eq_none h]at e;cases e
def iH{α:Type}{a:Array α}{x:α}(f:p<=a.size)(i:Nat):(SetTable.insertAt a p x)[i]?=if i<p then a[i]? else if i=p then Y x else a[i-1]?:=by
 unfold SetTable.insertAt;rw[Array.getElem?_append];simp only[XF,VF,Yi f,Nat.sub_zero];by_cases b:i<p
 ·rw[Zs (by exact L7 b),Zs b,Array.getElem?_push,Zo (by simp;lia),Array.getElem?_extract];simp;lia
 ·rw[Zo b];by_cases d:i=p
  ·rw[Zs (by lia),Zs d,Array.getElem?_push,Zs (by simp;lia)]
  ·rw[Zo (by lia),Zo d,Array.getElem?_extract];have e:p+(i-(p+1))=i-1:=by lia
   rw[e];by_cases g:i-1<a.size
   ·rw[Zs (by simp;lia)]
   ·rw[Array.getElem?_eq_none (by exact ZD g)];simp
def BD(o:A8 d)(y:d[SetTable.below d j]? ≠ Y j):A8 (SetTable.insertAt d (SetTable.below d j) j):=by
 obtain⟨x,w,z⟩:=nq o j;have s:∀i v,SetTable.below d j<=i->d[i]?=Y v->j<v:=λi v p e=>by
  rcases VJ (w i v p e) with h | h
  ·exact h
  ·subst h;rcases VJ p with q | q
   ·have g:=Xe (by
     have:=(Vz.mp e).1;exact ZK p this)
    exact ZK (w _ _ (Zn _) g) (o _ _ _ _ q g e)
   ·rw[← q]at e;exact absurd e y
 intro a b u v A l f;rw[iH z]at l f;by_cases n:a<SetTable.below d j
 ·rw[Zs n]at l;by_cases r:b<SetTable.below d j
  ·rw[Zs r]at f;exact o a b u v A l f
  ·rw[Zo r]at f;by_cases m:b=SetTable.below d j
   ·rw[Zs m]at f;cases f;exact x a u n l
   ·rw[Zo m]at f;exact XM (x a u n l) (s (b-1) v (by lia) f)
 ·rw[Zo n]at l;rw[Zo (by lia),Zo (by lia)]at f;by_cases m:a=SetTable.below d j
  ·rw[Zs m]at l;cases l;exact s (b-1) v (by lia) f
  ·rw[Zo m]at l;exact o (a-1) (b-1) u v (by lia) l f
end SI
end
section
namespace VS
open PySem PySem.Spec PyProof.Rows L2
def t2:T->Bool
 |.lst l=>l.all tsc
 |t=>tsc t
end VS
end
section
namespace L2
open PySem PySem.Spec PyProof.Rows TS
section
theorem sM:∀{b:W5}{d:Vq},aW (b.map V.ref) d->d=b.map Value.ref
 |[],_,h=>by cases h;rfl
 |a :: b,_,h=>by
  cases h with
  |cons r q=>rw[sM q];cases r;rfl
def At.pw(g:∀{a:On}{k:List Key},H a=Y (.tup (k.map kV))->ij h (.ref a) k)(p:At H j d):((d.map Value.ref).map λv=>(v,v)).Pairwise (le (rT h))->j.Pairwise (λa b=>eD b a=R):=by
 induction p with
 |nil=>exact λ_=>List.Pairwise.nil
 |@cons k a u d e q o =>
  intro f;simp only[Zk]at f;rw[Xk]at f;refine Xk.mpr ⟨λb hb=>?_,o f.2⟩;obtain⟨i,l,s⟩:=Yb hb;have n:i<d.length:=by rw[← q.len];exact l
  obtain⟨w,m,r⟩:=q.get i (Zp n);rw[Zp l,s]at m;cases m;have:=f.1 (Value.ref d[i],Value.ref d[i]) (ZC.mpr ⟨_,ZC.mpr ⟨_,Yp n,rfl⟩,rfl⟩);unfold le at this;rw[ot (g r) (g e)]at this;exact this
def DZ(r:Inv X g O H i)(F:At H d p)(z:∀k∈d,k.map kind=y :: s)(f:(p.map Value.ref).length<=KM)(q:∀(l:On)(m:List (List Key))(h:W5),H l=J->At H m h->m.Perm d->m.Pairwise (λa b=>eD b a=R)->Q (.ref l) (upd H l (.lst (h.map V.ref)))) :
  Nonempty (NB X.prog X.w (EP X g O Q) (p.map Value.ref) i):=by
 have o:∀v∈p.map Value.ref,∃d,ij i.heap v d/\d.map kind=y :: s:=λv n=>by
  obtain⟨a,U,rfl⟩:=ZC.mp n;obtain⟨k,S,e⟩:=F.mem U;exact⟨k,wW r.xb e,z k S⟩
 refine⟨⟨GT i.heap (y :: s),rT i.heap,tuples' M,λA E Z P=>DO λv d t=>ij.kept P t,λv n=>?_,f,λZ A E C x Q1 G=>?_,λout C B N L x g3=>?_⟩⟩
 ·obtain⟨d,t,e⟩:=o v n;exact⟨d,t,e⟩
 ·exact Ba (by lia) (λv n=>by obtain⟨d,t,e⟩:=o v n;exact⟨d,ij.kept x t,e⟩) G
 ·obtain⟨h,rfl,j⟩:=C4 N;obtain⟨m,D,u⟩:=At.perm j F;exact⟨.ref _,_,r.laid x (Zn _) (show dE X.prog X.w _ C _ (.lst (h.map V.ref)) from⟨(by
   rw[Zw,j.length_eq];rw[Zw]at f;exact f),h.map Value.ref,B,pY h,g3⟩),rfl,q _ m h (r.xb.fresh (Zn _)) D u (D.pw (λe=>wW r.xb e) L)⟩
def wa(K:Wy):List V->Hp->VK->Prop:=λg H Q=>∃p,∃(e:List (List Key))(bs:W5)(h:Bool)(sh:List Bool),g=[.ref p]/\JV K H p (bs.map V.ref)/\At H e bs/\(∀k∈e,k.map kind=h :: sh) ∧
  ∀(l:On)(d:List (List Key))(f:W5),H l=J->At H d f->d.Perm e->d.Pairwise (λa b=>eD b a=R)->Q (.ref l) (upd H l (.lst (f.map V.ref)))
def oz:dm X (.builtin "sorted") (wa X.K):=by
 intro f s O H r v Q I g h;refine L2.aq λA l=>?_;obtain⟨p,x,bs,y,sh,rfl,m,n,a,q⟩:=h;obtain⟨u,rfl,i⟩:=g.one;cases i;obtain⟨w,d,j,z⟩:=I.list m;obtain rfl:=sM d;refine l ?_;have hlen:(bs.map Value.ref).length<=sizeLine:=by have:=d.length;lia
 exact vn λC B _=>collect_list j.isList (DZ (I.kept (t':=s.toks) λb o e=>by
  rw[Heap.get?_update_ne _ _ _ _ (Ze (ZV e))];exact Zj _ e) n a hlen q) hlen
end
end L2
namespace VS
open PySem PySem.Spec PyProof.Rows L2 TS
section
def Srt(f d:List (List Key)):Prop:=d.Perm f/\d.Pairwise (λa b=>eD b a=R)
open Classical in
def Fh(b:List (List Key)):List (List Key):=if h:∃a,Srt b a then h.choose else []
def shp(a:List (List Key)):Prop:=∃b sh,∀k∈a,k.map kind=b :: sh
theorem rZ:∀{a b:List Key},a.map kind=b.map kind->eD a b=R->eD b a=R->a=b
 |[],[],_,_,_=>rfl
 |[],_ :: _,h,_,_=>by cases h
 |_ :: _,[],h,_,_=>by cases h
 |x :: a,y :: b,h,f,d=>by
  rw[Zk,Zk,Wh]at h;unfold eD at f d;by_cases e:x=y
  ·subst e;rw[Zs L]at f d;rw[rZ h.2 f d]
  ·rw[Zo e]at f;rw[Zo (Y0 e)]at d;exact absurd (qP h.1 f d) e
def wK(h:Srt f d)(i:shp f):Fh f=d:=by
 unfold Fh;rw[dif_pos ⟨d,h⟩];have q:=Exists.choose_spec (p:=λd=>Srt f d) ⟨d,h⟩;obtain⟨n,sh,g⟩:=i;exact List.Perm.eq_of_pairwise (λa b j hb m l=>rZ ((g a (q.1.mem_iff.mp j)).trans (g b (h.1.mem_iff.mp hb)).symm) l m) q.2 h.2 (q.1.trans h.1.symm)
open Classical in
def kY:Ur->Uq
 |[(_,.lst l)]=>(l.mapM QX).bind λa=>if shp a then Y (.fr,.lst ((Fh a).map λk=>T.tup (k.map aR))) else J
 |_=>J
def FO{k:List Key}(r:Rp G H v (.tup (k.map aR)) F):∃a,v=.ref a/\H a=Y (.tup (k.map kV))/\∀x,.inr x∈k->jW x.cps.toList:=by
 obtain⟨a,b,g,rfl,rfl,l,q⟩:=r.inv;have:∀{k:List Key}{b:List V}{g:X5},RpL G H b (k.map aR) g->b=k.map kV/\∀x,.inr x∈k->jW x.cps.toList:=λ{k}=>by
  induction k with
  |nil=>intro b g q;cases q;exact⟨rfl,λ_ m=>nomatch m⟩
  |cons y k h =>
   intro b g q;cases q with
   |cons r q =>
    obtain⟨f,d⟩:=h q;cases y with
    |inl i =>
     obtain rfl:=r.inv;exact⟨by rw[f];rfl,λx m=>(Zg.mp m).elim (λe=>nomatch e) (d x)⟩
    |inr s =>
     obtain⟨rfl,j⟩:=r.inv;refine⟨by rw[f];simp[kV,sx],λx m=>(Zg.mp m).elim (λe=>?_) (d x)⟩;cases e;exact j
 obtain⟨f,d⟩:=this q;exact⟨a,rfl,by rw[← f];exact l,d⟩
theorem qO:∀{b:List (List Key)}{f:List V}{l:X5},RpL G H f (b.map λk=>T.tup (k.map aR)) l->∃d:W5,f=d.map V.ref/\At H b d/\∀k∈b,∀x,.inr x∈k->jW x.cps.toList
 |[],_,_,q=>by cases q;exact⟨[],rfl,.nil,λ_ m=>nomatch m⟩
 |k :: b,_,_,q=>by
  cases q with
  |cons r q =>
   obtain⟨a,rfl,j,i⟩:=FO r;obtain⟨d,rfl,h,g⟩:=qO q;exact⟨a :: d,rfl,.cons j h,λk m=>(Zg.mp m).elim (λe=>e ▸ i) (g k)⟩
def CG(h:At H b d):(∀k∈b,∀x,.inr x∈k->jW x.cps.toList)->RpL G H (d.map V.ref) (b.map λk=>T.tup (k.map aR)) (d.map λ_=>[]):=by
 induction h with
 |nil=>exact λ_=>.nil
 |@cons k a b d e _ f =>
  intro g;have inner:∀{k:List Key},(∀x,.inr x∈k->jW x.cps.toList)->RpL G H (k.map kV) (k.map aR) (k.map λ_=>[]):=λ{k}=>by
   induction k with
   |nil=>exact λ_=>.nil
   |cons y k f =>
    intro h;refine .cons ?_ (f λx m=>h x (Zu _ m));cases y with
    |inl i=>exact .int i
    |inr s =>
     have:=Rp.str (G:=G) (H:=H) s.cps.toList (h s Zv);rw[show sx s.cps.toList=s by simp[sx]]at this;exact this
  have q:Rp G H (.ref a) (.tup (k.map aR)) (k.map λ_=>([]:W5)).flatten:=.tup e (inner (g k Zv));rw[lh]at q;exact .cons q (f λk m=>g k (Zu _ m))
def yw:fj G (wa G.K) kY:=by
 intro Z U N H l j P m t Q A e k;unfold kY at e;split at e
 ·rename_i L x;obtain⟨u,e1,e2⟩:=Zz.mp e;split at e2
  ·rename_i f;cases e2;obtain⟨v,F,rfl,rfl,n⟩:=(A.rp).one;obtain⟨a,E,O,rfl,rfl,B,o⟩:=n.lst_inv;obtain rfl:=kE (λ_ _=>xf) e1;obtain⟨bs,rfl,D,y⟩:=qO o;obtain⟨w,sh,z⟩:=id f;refine⟨a,u,bs,w,sh,rfl,JV.of B,D,z,λq s b g C i hw=>?_⟩;rw[wK ⟨i,hw⟩ f]at k;have d:bg H (upd H q (.lst (b.map V.ref))):=cV g;have r:Rp G (upd H q (.lst (b.map V.ref))) (.ref q) (.lst (s.map λk=>T.tup (k.map aR))) (q :: (b.map λ_=>[]).flatten):=.lst aH (CG (C.keep λa j h=>d a _ h) λk m=>y k (i.mem_iff.mp m));rw[lh]at r;exact k _ _ _ d r (Fp.new (A.same.free g) (by simp) Fp.nil)
  ·cases e2
 ·cases e
def Ao{X:Cx}(a:X.mg "sorted" = J)(d:KD G X [e] cs)(b:{`q2,Gl X "sorted"})(f:{`q2,X.K=G.K})(he:{`q2,K1 e [] X}):PV G X (.Call (.Name "sorted" p) [e] [] pos) (eN kY cs) :=
 jh oz (f ▸ yw) b a qi d (he:=he)
end
end VS
end
section
namespace AU
structure St where
 lg:Uv
 lk:List (Option Nat)
 wy:List (List (Nat×Nat))
noncomputable def gW(w:List (Nat×Nat))(c:Nat):Option Nat:=(w.find? λp=>p.1==c).map (·.2)
noncomputable def pW(w:List (Nat×Nat))(c m:Nat):List (Nat×Nat):=if w.any (λp=>p.1==c) then w.map (λp=>if p.1==c then (p.1,m) else p) else w++[(c,m)]
structure WF(S:St):Prop where
 lk:S.lk.length=S.lg.length
 wy:S.wy.length=S.lg.length
 pos:0<S.lg.length
 up:∀i n,S.lk.getD i none=some n->n<S.lg.length
 on:∀i c n,gW (S.wy.getD i []) c=some n->n<S.lg.length
 nd:∀w∈S.wy,(w.map (·.1)).Nodup
 az:∀w∈S.wy,∀p∈w,97<=p.1/\p.1<=122
theorem sub_len{α:Type}[DecidableEq α]:∀(l r:List α),l.Nodup->(∀x∈l,x∈r)->l.length<=r.length
 |[],_,_,_=>ZE _
 |a :: l,r,nd,h=>by
  obtain⟨g,f⟩:=ZW.mp nd;have d:=h a Zv;have:=sub_len l (r.erase a) f λx b=>(List.mem_erase_of_ne (λe=>g (by rw[← e];exact b))).mpr (h x (Zu _ b));rw[List.length_erase_of_mem d]at this;have:=List.length_pos_of_mem d;rw[Zf];lia
def WF.small{S:St}(W:WF S)(i:Nat):(S.wy.getD i []).length<16777216:=by
 by_cases h:i<S.wy.length
 ·have a:S.wy.getD i []∈S.wy:=by
   rw[Zq,Zp h];exact Yp h
  have:=sub_len ((S.wy.getD i []).map (·.1)) (List.range 123) (W.nd _ a) λx b=>by
   obtain⟨p,d,rfl⟩:=ZC.mp b;have:=(W.az _ a p d).2;exact Yq.mpr (by exact VD this)
  rw[Zw,LM]at this;lia
 ·rw[Zq,Yk (ZD h)];decide
def FP(w:List (Nat×Nat))(c:Nat):(w.any λp=>p.1==c)=(gW w c).isSome:=by
 unfold gW;rw[Xd,XG,XS,List.find?_isSome]
def D4(w:List (Nat×Nat))(c m d:Nat):gW (pW w c m) d=if d=c then Y m else gW w d:=by
 unfold pW;split
 ·rename_i h
  induction w with
  |nil=>simp at h
  |cons p w f =>
   rw[Zk];unfold gW;rw[Yo,Yo];by_cases q:p.1=c
   ·rw[Zs (by simpa using q)];by_cases r:p.1=d
    ·have:(p.1==d)=M:=by simpa using r
     simp only[this];rw[Zs (by rw[← r,q])];rfl
    ·have a:(p.1==d)=R:=by simpa using r
     have:d≠c:=λe=>r (by rw[e,q]);simp only[a,Zo this];have key:∀w:List (Nat×Nat),(w.map λp=>if p.1==c then (p.1,m) else p).find? (λp=>p.1==d)=w.find? λp=>p.1==d:=by
      intro w
      induction w with
      |nil=>rfl
      |cons x w f =>
       rw[Zk,Yo,Yo,f];by_cases y:x.1=c
       ·rw[Zs (by simpa using y)];have:(x.1==d)=R:=by simpa using λe=>this (by rw[← e,y])
        simp only[this]
       ·rw[Zo (by simpa using y)]
     rw[key w]
   ·rw[Zo (by simpa using q)];have b:=f (by
     rw[YN]at h;simpa[q] using h)
    by_cases r:p.1=d
    ·have a:(p.1==d)=M:=by simpa using r
     simp only[a];rw[Zo (λe=>q (by rw[r,e]))]
    ·have a:(p.1==d)=R:=by simpa using r
     simp only[a];exact b
 ·rename_i h;unfold gW;rw[List.find?_append];by_cases q:d=c
  ·subst q;have:w.find? (λp=>p.1==d)=J:=by
    rw[List.find?_eq_none];intro p g e;exact h (XS.mpr ⟨p,g,e⟩)
   rw[this,Zs L];simp
  ·rw[Zo q];have:((c==d)=R):=by simpa using λe=>q e.symm
   simp[this]
def CJ(w:List (Nat×Nat))(c m:Nat)(d:(w.map (·.1)).Nodup):((pW w c m).map (·.1)).Nodup:=by
 unfold pW;split
 ·rw[La];have:((λp:Nat×Nat=>p.1) ∘ λp=>if (p.1==c)=M then (p.1,m) else p)=λp=>p.1:=by
   funext p;simp only[Function.comp];split<;>rfl
  rw[this];exact d
 ·rename_i h;rw[Yy,ZA];refine⟨d,by simp,λa g b hb e=>?_⟩;have i:b=c:=by simpa using hb
  subst e i;obtain⟨p,f,e⟩:=ZC.mp g;exact h (XS.mpr ⟨p,f,by simpa using e⟩)
def E6(h:p∈pW w c m):p.1=c\/p∈w:=by
 unfold pW at h;split at h
 ·obtain⟨q,a,rfl⟩:=ZC.mp h;by_cases r:(q.1==c)=M
  ·rw[Zs r];exact .inl (by simpa using r)
  ·rw[Zo r];exact .inr a
 ·rcases Zd.mp h with h | h
  ·exact .inr h
  ·rw[Zc.mp h];exact .inl L
def iG{α:Type}(l:List α)(i j:Nat)(x d:α):(l.set i x).getD j d=if i=j/\i<l.length then x else l.getD j d:=by
 rw[Zq,Zq,V2];by_cases h:i=j
 ·subst h;by_cases a:i<l.length
  ·rw[Zs L,Zs a,Zs ⟨rfl,a⟩];rfl
  ·rw[Zs L,Zo a,Zo (λz=>a z.2),Yk (ZD a)]
 ·rw[Zo h,Zo (λz=>h z.1)]
def bZ{α:Type}(l:List α)(x d:α)(j:Nat):(l++[x]).getD j d=if j=l.length then x else l.getD j d:=by
 rw[Zq,Zq];by_cases h:j<l.length
 ·rw[Yr h,Zo (Ze h)]
 ·rw[Yn (ZD h)];by_cases a:j=l.length
  ·rw[Zs a,a,Vl];rfl
  ·rw[Zo a,Yk (ZD h),Yk (by simp;lia)]
def WF.way(W:WF S){n c v:Nat}(g:v<S.lg.length)(j:97<=c/\c<=122):WF ⟨S.lg,S.lk,S.wy.set n (pW (S.wy.getD n []) c v)⟩:=by
 refine⟨W.lk,by rw[Ya];exact W.wy,W.pos,W.up,λi d m h=>?_,λw hw=>?_,λw hw p f=>?_⟩
 ·have b:=h;rw[iG]at b;split at b
  ·rw[D4]at b;split at b
   ·cases b;exact g
   ·exact W.on n d m b
  ·exact W.on i d m b
 ·by_cases a:n<S.wy.length
  ·rcases List.mem_or_eq_of_mem_set hw with h | h
   ·exact W.nd w h
   ·rw[h];refine CJ _ c v (W.nd _ ?_);rw[Zq,Zp a];exact Yp a
  ·rw[List.set_eq_of_length_le (ZD a)]at hw;exact W.nd w hw
 ·by_cases a:n<S.wy.length
  ·rcases List.mem_or_eq_of_mem_set hw with h | h
   ·exact W.az w h p f
   ·rw[h]at f;rcases E6 f with e | e
    ·rw[e];exact j
    ·refine W.az _ ?_ p e;rw[Zq,Zp a];exact Yp a
  ·rw[List.set_eq_of_length_le (ZD a)]at hw;exact W.az w hw p f
def WF.link(W:WF S){n v:Nat}(b:v<S.lg.length):WF ⟨S.lg,S.lk.set n (Y v),S.wy⟩:=by
 refine⟨by rw[Ya];exact W.lk,W.wy,W.pos,λi m h=>?_,W.on,W.nd,W.az⟩;have a:=h;rw[iG]at a;split at a
 ·cases a;exact b
 ·exact W.up i m a
def WF.more(W:WF S){l:Nat}{o:Option Nat}{w:List (Nat×Nat)}(f:∀n,o=Y n->n<S.lg.length)(hw:∀c n,gW w c=Y n->n<S.lg.length)(e:(w.map (·.1)).Nodup)(g:∀p∈w,97<=p.1/\p.1<=122):WF ⟨S.lg++[l],S.lk++[o],S.wy++[w]⟩:=by
 have b:∀{n},n<S.lg.length->n<(S.lg++[l]).length:=λh=>by rw[Zx,ZR];exact L7 h
 refine⟨by rw[Zx,Zx,W.lk];rfl,by rw[Zx,Zx,W.wy];rfl,by rw[Zx];exact Zi W.pos (Za _ _),λi n h=>?_,λi c n h=>?_,λx d=>?_,λx d=>?_⟩
 ·have a:=h;rw[bZ]at a;split at a
  ·exact b (f n a)
  ·exact b (W.up i n a)
 ·have a:=h;rw[bZ]at a;split at a
  ·exact b (hw c n a)
  ·exact b (W.on i c n a)
 ·rcases Zd.mp d with h | h
  ·exact W.nd x h
  ·rw[Zc.mp h];exact e
 ·rcases Zd.mp d with h | h
  ·exact W.az x h
  ·rw[Zc.mp h];exact g
def up1(c v:Nat):Nat->St->Option Nat->Option (St×Option Nat)
 |_,S,none=>Y (S,J)
 |0,_,some _=>J
 |k+1,S,some n=>if (gW (S.wy.getD n []) c).isSome then Y (S,Y n) else up1 c v k ⟨S.lg,S.lk,S.wy.set n (pW (S.wy.getD n []) c v)⟩ (S.lk.getD n J)
def PN(c a v:Nat):Nat->St->Option Nat->Option St
 |_,S,none=>Y S
 |0,_,some _=>J
 |k+1,S,some n=>if gW (S.wy.getD n []) c=Y a then PN c a v k ⟨S.lg,S.lk,S.wy.set n (pW (S.wy.getD n []) c v)⟩ (S.lk.getD n J) else Y S
def P5(S:St)(n c:Nat):Option (St×Nat):=(gW (S.wy.getD n []) c).bind λold=>if S.lg.getD old 0=S.lg.getD n 0+1 then Y (S,old) else
 (PN c old S.lg.length 1000 ⟨S.lg++[S.lg.getD n 0+1],(S.lk++[S.lk.getD old J]).set old (Y S.lg.length),S.wy++[S.wy.getD old []]⟩ (Y n)).map λa=>(a,S.lg.length)
def hb(S:St)(h c:Nat):Option (St×Nat):=if (gW (S.wy.getD h []) c).isSome then P5 S h c else
 (up1 c S.lg.length 1000 ⟨S.lg++[S.lg.getD h 0+1],S.lk++[Y 0],S.wy++[[]]⟩ (Y h)).bind λz=>match z.2 with
  |none=>Y (z.1,S.lg.length)
  |some n=>(P5 z.1 n c).map λy=>(⟨y.1.lg,y.1.lk.set S.lg.length (Y y.2),y.1.wy⟩,S.lg.length)
def hg(S:St)(h:Nat):Uv->Option (St×Nat)
 |[]=>Y (S,h)
 |c :: r=>(hb S h c).bind λz=>hg z.1 z.2 r
noncomputable def Sm(S:St):Prop:=S.lg.length<=100001
def WF.SD(W:WF S)(i:Nat):((S.wy.getD i []).map (·.1)).Nodup/\∀p∈S.wy.getD i [],97<=p.1/\p.1<=122:=by
 by_cases h:i<S.wy.length
 ·have a:S.wy.getD i []∈S.wy:=by
   rw[Zq,Zp h];exact Yp h
  exact⟨W.nd _ a,W.az _ a⟩
 ·rw[Zq,Yk (ZD h)];exact⟨Y6,λp b=>nomatch b⟩
noncomputable def S0:St:=⟨[0],[J],[[]]⟩
def Et:WF S0:=by
 refine⟨rfl,rfl,by decide,λi n h=>?_,λi c n h=>?_,λw hw=>?_,λw hw p a=>?_⟩
 ·cases i with
  |zero=>cases h
  |succ i=>cases h
 ·cases i with
  |zero=>cases h
  |succ i=>cases h
 ·rw[Zc.mp hw];exact Y6
 ·rw[Zc.mp hw]at a;cases a
end AU
end
section
namespace SP
open PySem PySem.Spec PyProof.Rows SI
noncomputable def f5(m i:Nat):Nat:=(i*5+1)%(m+1)
def it(m:Nat):Nat->Nat->Nat
 |0,i=>i
 |n+1,i=>it m n (f5 m i)
def orb(m:Nat):Nat->Nat->Uv
 |0,_=>[]
 |n+1,i=>i :: orb m n (f5 m i)
noncomputable def Og(m:Nat):Prop:=m=7\/m=31\/m=127\/m=511
theorem AC:∀(k i:Nat),j∈orb m k i->∃n,n<k/\it m n i=j
 |0,_,h=>nomatch h
 |k+1,i,h=>by
  rcases Zg.mp h with rfl | h
  ·exact⟨0,Xm _,rfl⟩
  ·obtain⟨n,b,a⟩:=AC k _ h;exact⟨n+1,Nat.succ_lt_succ b,a⟩
theorem qG(m:Nat):∀(a b i:Nat),it m (a+b) i=it m b (it m a i)
 |0,b,i=>by rw[YL];rfl
 |a+1,b,i=>by rw[Nat.succ_add];exact qG m a b _
def allM(m:Nat):Bool:=it m (m+1) 0==0&&(List.range (m+1)).all λj=>(orb m (m+1) 0).elem j
def Gi(h:Og m):it m (m+1) 0=0/\∀j,j<=m->∃n,n<=m/\it m n 0=j:=by
 have:allM m=M:=by
  rcases h with rfl | rfl | rfl | rfl<;>decide +kernel
 obtain⟨f,e⟩:=ZP.mp this;refine⟨eq_of_beq f,λj a=>?_⟩;obtain⟨n,d,b⟩:=AC (m+1) 0 (List.elem_iff.mp (Lw.mp e j (Yq.mpr (VD a))));exact⟨n,Yv d,b⟩
def reach(h:Og m)(f:i<=m)(e:j<=m):∃n,n<=m/\it m n i=j:=by
 obtain⟨g,d⟩:=Gi h;obtain⟨a,o,rfl⟩:=d i f;obtain⟨b,l,rfl⟩:=d j e;by_cases q:a<=b
 ·exact⟨b-a,by lia,by rw[← qG,Wp q]⟩
 ·refine⟨m+1-a+b,by lia,?_⟩;rw[qG,← qG m a,Wp (by lia),g]
noncomputable def lp(m:Nat):Nat->Nat×Nat->Nat×Nat
 |0,q=>q
 |n+1,q=>lp m n (SetTable.leap m q.1 q.2)
theorem AI(m:Nat):∀(a b:Nat)(q:Nat×Nat),lp m (a+b) q=lp m b (lp m a q)
 |0,b,q=>by rw[YL];rfl
 |a+1,b,q=>by rw[Nat.succ_add];exact AI m a b _
theorem wA(m:Nat):∀(n i:Nat),lp m n (i,0)=(it m n i,0)
 |0,i=>rfl
 |n+1,i=>by
  show lp m n ((i*5+1+0/32)%(m+1),0/32)=_;rw[Nat.zero_div,VA];exact wA m n (f5 m i)
theorem Ea(m:Nat):∀(n:Nat)(q:Nat×Nat),q.1<=m->(lp m n q).1<=m/\(lp m n q).2=q.2/32 ^ n
 |0,q,h=>⟨h,by rw[Nat.pow_zero,Nat.div_one];rfl⟩
 |n+1,q,h=>by
  obtain⟨b,a⟩:=Ea m n (SetTable.leap m q.1 q.2) (Yv (Vk _ (Xm m)));refine⟨b,a.trans ?_⟩;show q.2/32/32 ^ n=_;rw[Nat.div_div_eq_div_mul,Nat.pow_succ,Nat.mul_comm]
def zh(h:Og m)(g:i<=m)(e:a<2 ^ 64)(f:j<=m):∃n,n<=m+13/\(lp m n (i,a)).1=j:=by
 obtain⟨l,b⟩:=Ea m 13 (i,a) g;rw[Nat.div_eq_of_lt (XM e (by decide))]at b;obtain⟨n,o,d⟩:=reach h l f;refine⟨13+n,by lia,?_⟩;rw[AI,show lp m 13 (i,a)=((lp m 13 (i,a)).1,0) from Prod.ext L b,wA];exact d
def vQ(h:Int):SetTable.bits h<2 ^ 64:=by
 unfold SetTable.bits;omega
noncomputable def NN(t:SetTable):Nat->SetTable.Probe->SetTable.Probe
 |0,p=>p
 |n+1,p=>NN t n (t.advance p)
theorem wt(t:SetTable):∀(a b:Nat)(p:SetTable.Probe),NN t (a+b) p=NN t b (NN t a p)
 |0,b,p=>by rw[YL];rfl
 |a+1,b,p=>by rw[Nat.succ_add];exact wt t a b _
def rh(h:i<=m):SetTable.runEnd m i<=m/\SetTable.runEnd m i<=i+9/\i<=SetTable.runEnd m i:=by
 unfold SetTable.runEnd;split<;>lia
theorem wu(t:SetTable):∀(q:Nat)(p:SetTable.Probe),p.more=q->NN t (q+1) p={ j:=(SetTable.leap t.mask p.i p.perturb).1,more:=SetTable.runEnd t.mask (SetTable.leap t.mask p.i p.perturb).1-(SetTable.leap t.mask p.i p.perturb).1,i:=(SetTable.leap t.mask p.i p.perturb).1,perturb:=(SetTable.leap t.mask p.i p.perturb).2,dummy:=p.dummy }
 |0,p,h=>by
  show t.advance p=_;unfold SetTable.advance;rw[Zo (by rw[h];exact Yf _)]
 |q+1,p,h=>by
  show NN t (q+1) (t.advance p)=_;unfold SetTable.advance;rw[Zs (by rw[h];exact Xm _),wu t q _ (by rw[h];rfl)]
structure Ksr(t:SetTable)(p:SetTable.Probe):Prop where
 le:p.i<=t.mask
 j:p.j=p.i
 more:p.more=SetTable.runEnd t.mask p.i-p.i
theorem zY(t:SetTable):∀(n:Nat)(p:SetTable.Probe),Ksr t p->∃k,k<=10*n/\(NN t k p).j=(lp t.mask n (p.i,p.perturb)).1
 |0,p,h=>⟨0,Zn _,h.j⟩
 |n+1,p,h=>by
  obtain⟨k,b,a⟩:=zY t n _ (show Ksr t { j:=(SetTable.leap t.mask p.i p.perturb).1,more:=SetTable.runEnd t.mask (SetTable.leap t.mask p.i p.perturb).1-(SetTable.leap t.mask p.i p.perturb).1,i:=(SetTable.leap t.mask p.i p.perturb).1,perturb:=(SetTable.leap t.mask p.i p.perturb).2,dummy:=p.dummy } from⟨(Yv (Vk (p.i*5+1+p.perturb/32) (Xm t.mask))),rfl,rfl⟩);have:=rh h.le;refine⟨p.more+1+k,by rw[h.more];lia,?_⟩;rw[wt,wu t _ p L];exact a
def t9(t:SetTable)(h:Int):Ksr t (t.probeStart h):=⟨Yv (Vk _ (Xm _)),rfl,rfl⟩
def sE{t:SetTable}(h:Og t.mask)(x:Int)(d:j<=t.mask):∃k,k<10*SetTable.turns t.mask/\(NN t k (t.probeStart x)).j=j:=by
 have s:=t9 t x;obtain⟨n,e,a⟩:=zh h s.le (vQ x) d;obtain⟨k,f,b⟩:=zY t n _ s;exact⟨k,by unfold SetTable.turns;lia,b.trans a⟩
noncomputable def Pj(t:SetTable)(p:SetTable.Probe):Prop:=p.j+p.more<=t.mask/\p.dummy=J
def Pj.adv(h:Pj t p):Pj t (t.advance p):=by
 unfold SetTable.advance;split
 ·rename_i q;exact⟨by have:=h.1;lia,h.2⟩
 ·have:=rh (Yv (Vk (p.i*5+1+p.perturb/32) (Xm t.mask)));refine⟨?_,h.2⟩;show (p.i*5+1+p.perturb/32)%(t.mask+1)+(SetTable.runEnd t.mask ((p.i*5+1+p.perturb/32)%(t.mask+1))-(p.i*5+1+p.perturb/32)%(t.mask+1))<=_;lia
def Ak(t:SetTable)(x:Int):Pj t (t.probeStart x):=by
 have s:=t9 t x;have:=rh s.le;exact⟨by rw[s.j,s.more];lia,rfl⟩
def mQ{t:SetTable}(a:t.dummies=#[])(j:Nat):(t.slot j=.empty/\t.place[SetTable.below t.place j]? ≠ Y j)\/(t.slot j=.live (SetTable.below t.place j)/\t.place[SetTable.below t.place j]?=Y j):=by
 unfold SetTable.slot;by_cases h:(t.place[SetTable.below t.place j]? == Y j)=M
 ·rw[Zs h];exact .inr ⟨rfl,eq_of_beq h⟩
 ·rw[Zo h,a];exact .inl ⟨by simp[SetTable.has],λz=>h (beq_iff_eq.mpr z)⟩
def HC{t:SetTable}(s:t.dummies=#[])(f:Nat->Int)(h:Int):∀(k fuel:Nat)(p:SetTable.Probe),k<fuel->Pj t p->t.slot (NN t k p).j=.empty →
  (∃j,SetTable.probe.go t f h fuel p=Y (.empty j J)/\j<=t.mask/\t.slot j=.empty)\/∃j i q m,SetTable.probe.go t f h fuel p=Y (.candidate j i q)/\t.slot j=.live i/\Pj t q/\m<k/\t.slot (NN t m q).j=.empty:=by
 intro k
 induction k with
 |zero =>
  intro fuel p r g he;obtain⟨n,rfl⟩:∃n,fuel=n+1:=⟨fuel-1,by lia⟩
  refine .inl ⟨p.j,?_,by have:=g.1;lia,he⟩;unfold SetTable.probe.go;rw[show t.slot p.j=.empty from he];rw[g.2]
 |succ k o =>
  intro fuel p r g he;obtain⟨n,rfl⟩:∃n,fuel=n+1:=⟨fuel-1,by lia⟩
  unfold SetTable.probe.go;rcases mQ s p.j with⟨l,_⟩ | ⟨l,_⟩
  ·refine .inl ⟨p.j,?_,by have:=g.1;lia,l⟩;rw[l];rw[g.2]
  ·rw[l];dsimp only;split
   ·exact .inr ⟨p.j,_,t.advance p,k,rfl,l,g.adv,Ym _,he⟩
   ·rcases o n (t.advance p) (by lia) g.adv he with q | ⟨j,i,q,m,a,b,c,d,e⟩
    ·exact .inl q
    ·exact .inr ⟨j,i,q,m,a,b,c,L7 d,e⟩
structure N5(t:SetTable)(n:Nat):Prop where
 m:Og t.mask
 sz:t.place.size=n
 ris:A8 t.place
 Pu:t.dummies=#[]
 le:∀(i v:Nat),t.place[i]?=some v->v<=t.mask
 Pq:n<=t.mask
theorem N5.fits(h:N5 t n):t.fits n=M:=by
 unfold SetTable.fits SetTable.fill;rw[h.sz,h.Pu,beq_self_eq_true,Bool.true_and,decide_eq_true_iff];exact h.Pq
def N5.odd(h:N5 t n):t.gaveWay=R:=by
 unfold SetTable.gaveWay;rcases h.m with e | e | e | e<;>rw[e]<;>rfl
def N5.room(h:N5 t n):∃j,j<=t.mask/\t.slot j=.empty:=Xf λz=>by
 have:=AU.sub_len _ _ V9 (λj d=>by
  rcases mQ h.Pu j with⟨a,_⟩ | ⟨_,b⟩
  ·exact absurd ⟨j,Yv (Yq.mp d),a⟩ z
  ·rw[← MY]at b;exact YZ b)
 rw[LM,Yg,h.sz]at this;have:=h.Pq;lia
theorem N5.put(h:N5 t n)(g:j<=t.mask)(he:t.slot j=.empty)(f:n<t.mask):N5 (t.put j).1 (n+1):=by
 obtain⟨_,_,d⟩:=nq h.ris j;refine⟨h.m,?_,BD h.ris (by
  rcases mQ h.Pu j with⟨_,b⟩ | ⟨a,_⟩
  ·exact b
  ·rw[a]at he;cases he),?_,λi v e=>?_,f⟩
 ·show (SetTable.insertAt t.place (SetTable.below t.place j) j).size=_;unfold SetTable.insertAt;simp only[X1,XF,VF,h.sz]at d ⊢;lia
 ·show (if SetTable.has t.dummies _=M then _ else _)=_;rw[h.Pu];simp[SetTable.has]
 ·have e:(SetTable.insertAt t.place (SetTable.below t.place j) j)[i]?=Y v:=e;rw[iH d]at e;split at e
  ·exact h.le i v e
  ·split at e
   ·cases e;exact g
   ·exact h.le _ v e
noncomputable def live(m:Nat)(a:Array (Option Nat)):List (Nat×Nat):=(List.range (m+1)).filterMap λj=>(a.getD j J).map (j,·)
structure QJ(m:Nat)(ow:Array (Option Nat))(k:Nat):Prop where
 sz:ow.size=m+1
 len:(live m ow).length=k
 lt:∀j v,ow.getD j none=some v->v<k
def CA{a:Array (Option Nat)}(l:(a.getD d (Y 0)).isNone=M):∀(n fuel i pt:Nat),n<fuel->i<=m->(lp m n (i,pt)).1=d->∃j,SetTable.layClean.free m a fuel i pt=Y j/\(a.getD j (Y 0)).isNone=M:=by
 intro n
 induction n with
 |zero =>
  intro fuel i pt h f e;obtain⟨q,rfl⟩:∃n,fuel=n+1:=⟨fuel-1,by lia⟩
  subst e;unfold SetTable.layClean.free;cases b:(List.range (SetTable.runEnd m i+1-i)).find? λk=>(a.getD (i+k) (Y 0)).isNone with
  |some k=>exact⟨i+k,rfl,Vd (p:=λk=>(a.getD (i+k) (Y 0)).isNone) b⟩
  |none =>
   have:=List.find?_eq_none.mp b 0 (Yq.mpr (by have:=rh f;lia));exact absurd l this
 |succ n g =>
  intro fuel i pt h f e;obtain⟨q,rfl⟩:∃n,fuel=n+1:=⟨fuel-1,by lia⟩
  unfold SetTable.layClean.free;cases b:(List.range (SetTable.runEnd m i+1-i)).find? λk=>(a.getD (i+k) (Y 0)).isNone with
  |some k=>exact⟨i+k,rfl,Vd (p:=λk=>(a.getD (i+k) (Y 0)).isNone) b⟩
  |none=>exact g q _ _ (by lia) (Yv (Vk _ (Xm m))) e
theorem vh{α β:Type}{f:α->Option β}:∀{l:List α},(∀x∈l,∃y,f x=Y y)->(l.filterMap f).length=l.length
 |[],_=>rfl
 |x :: l,h=>by
  obtain⟨y,e⟩:=h x Zv;rw[Y9,e];exact congrArg (·+1) (vh λx a=>h x (Zu _ a))
theorem uj{β:Type}{f g:Nat->Option β}:∀{l:Uv},(∀i∈l,g i=f i)->l.filterMap g=l.filterMap f
 |[],_=>rfl
 |x :: l,h=>by rw[Y9,Y9,h x Zv,uj λi a=>h i (Zu _ a)]
theorem yN{β:Type}{f g:Nat->Option β}{y:β}(d:f j=J)(b:g j=Y y)(he:∀i,i≠j->g i=f i):∀{l:Uv},l.Nodup->j∈l->(l.filterMap g).length=(l.filterMap f).length+1
 |[],_,h=>nomatch h
 |x :: l,n,h=>by
  obtain⟨m,e⟩:=ZW.mp n;rw[Y9,Y9];by_cases q:x=j
  ·subst q;rw[d,b];show _+1=_+1;rw[uj λi o=>he i λz:i=x=>m (z ▸ o)]
  ·have a:=yN d b he e ((Zg.mp h).resolve_left λz=>q z.symm);rw[he x q];cases f x with
   |none=>exact a
   |some z=>exact congrArg (·+1) a
def getD_some{a:Array (Option Nat)}(h:(a.getD j (Y 0)).isNone=M):j<a.size/\a.getD j J=J:=by
 by_cases q:j<a.size
 ·refine⟨q,?_⟩;rw[Array.getD,dif_pos q]at h ⊢;exact Option.isNone_iff_eq_none.mp h
 ·rw[Array.getD,dif_neg q]at h;cases h
theorem QJ.free(h:QJ m a k)(g:Og m)(s:k<=m)(x:Int):∃j,SetTable.layClean.free m a (SetTable.turns m) (SetTable.bits x%(m+1)) (SetTable.bits x)=Y j/\(a.getD j (Y 0)).isNone=M:=by
 obtain⟨r,o,i⟩:∃j,j<=m/\(a.getD j (Y 0)).isNone=M:=Xf λz=>by
  have:=vh (f:=λj=>(a.getD j J).map (j,·)) (l:=List.range (m+1)) λj b=>by
   have b:=Yq.mp b;cases e:a.getD j J with
   |none =>
    refine absurd ⟨j,Yv b,?_⟩ z;rw[Array.getD,dif_pos (by rw[h.sz];exact b)]at e ⊢;rw[e];rfl
   |some v=>exact⟨_,rfl⟩
  rw[LM]at this;have q:=h.len;unfold live at q;lia
 have le:=Yv (Vk (SetTable.bits x) (Xm m));obtain⟨n,p,d⟩:=zh g le (vQ x) o;exact CA i n _ _ _ (by unfold SetTable.turns;lia) le d
def QJ.set{m:Nat}(h:QJ m a k)(l:(a.getD j (Y 0)).isNone=M):QJ m (a.setIfInBounds j (Y k)) (k+1):=by
 obtain⟨b,d⟩:=getD_some l;have g:∀i,(a.setIfInBounds j (Y k)).getD i J=if i=j then Y k else a.getD i J:=λi=>by
  rw[W3,W3,Array.getElem?_setIfInBounds];by_cases q:i=j
  ·rw[Zs q.symm,Zs q,Zs b];rfl
  ·rw[Zo (Y0 q),Zo q]
 refine⟨by rw[Array.size_setIfInBounds];exact h.sz,?_,λi v e=>?_⟩
 ·unfold live;rw[yN (f:=λj=>(a.getD j J).map (j,·)) (by rw[d];rfl) (by rw[g,Zs L];rfl) (λi n=>by rw[g,Zo n]) V9 (Yq.mpr (by rw[← h.sz];exact b))];exact congrArg (·+1) h.len
 ·rw[g]at e;split at e
  ·cases e;exact Ym _
  ·exact L7 (h.lt i v e)
noncomputable abbrev D6(m:Nat)(a:Option (Array (Option Nat)×Nat))(h:Int):Option (Array (Option Nat)×Nat):=do
 let (owner,k) ← a
 let j ← SetTable.layClean.free m owner (SetTable.turns m) (SetTable.bits h%(m+1)) (SetTable.bits h)
 pure (owner.setIfInBounds j (Y k),k+1)
theorem wj(d:Og m):∀(a:Uu)(ow:Array (Option Nat))(k:Nat),QJ m ow k->k+a.length<=m+1->∃b,a.foldl (D6 m) (Y (ow,k))=Y (b,k+a.length)/\QJ m b (k+a.length)
 |[],ow,k,h,_=>⟨ow,rfl,h⟩
 |x :: a,ow,k,h,f=>by
  rw[Zf]at f;obtain⟨j,e,g⟩:=h.free d (by lia) x;obtain⟨b,e2,i⟩:=wj d a _ (k+1) (h.set g) (by lia);refine⟨b,?_,by rw[Zf,← XZ,Nat.add_right_comm];exact i⟩;rw[Wi,show D6 m (Y (ow,k)) x=Y (ow.setIfInBounds j (Y k),k+1) from by
   show (SetTable.layClean.free m ow (SetTable.turns m) (SetTable.bits x%(m+1)) (SetTable.bits x)).bind _=_;rw[e];rfl,e2,Zf,Nat.add_right_comm,XZ]
def zk(b:Og m)(a:Array Int)(d:a.size<=m+1):∃ow,SetTable.layClean m a=Y ow/\QJ m ow a.size:=by
 obtain⟨ow,e,h⟩:=wj b a.toList _ 0 (by
  have g:∀j,(Array.replicate (m+1) (J:Option Nat)).getD j J=J:=λj=>by
   rw[W3,Array.getElem?_replicate];split<;>rfl
  refine⟨Array.size_replicate,?_,λj v e=>by rw[g]at e;cases e⟩;unfold live;rw[List.filterMap_eq_nil_iff.mpr λj _=>by rw[g];rfl];rfl) (by rw[YL,Yg];exact d)
 rw[YL,Yg]at e h;refine⟨ow,?_,h⟩;unfold SetTable.layClean;rw[← Array.foldl_toList];rw[e];rfl
def ya{t:SetTable}{d:Array (Int×PP)}(hw:SetTable.sizeAbove n-1=m)(s:Og m)(z:d.size<=m):∃g l,t.relaid (d.map (·.1)) n=Y (g,l)/\N5 g d.size/\g.mask=m/\g.led=t.led/\(l.filterMap (d[·]?)).size=d.size/\∀e∈(l.filterMap (d[·]?)).toList,e∈d.toList:=by
 obtain⟨ow,e,o⟩:=zk s (d.map (·.1)) (by rw[Array.size_map];lia);rw[Array.size_map]at o;have r:=o.len;have lm:∀p∈live m ow,p.1<=m/\p.2<d.size:=λp f=>by
  obtain⟨j,A,q⟩:=We.mp f;obtain⟨v,C,rfl⟩:=Zt.mp q;exact⟨Yv (Yq.mp A),o.lt j v C⟩
 refine⟨{ mask:=m,place:=((live m ow).map (·.1)).toArray,dummies:=#[],finger:=t.finger,led:=t.led,moves:=t.movedTo m,plain:=t.plain },((live m ow).map (·.2)).toArray,?_,⟨s,by rw[ZF,Zw,r],λi j u v H e1 e2=>?_,rfl,λi v q=>?_,z⟩,rfl,rfl,?_,λx h=>?_⟩
 ·unfold SetTable.relaid SetTable.laid;rw[hw,e];rfl
 ·have e1:=e1;have e2:=e2;rw[XE]at e1 e2;obtain⟨G,E⟩:=ZY.mp e1;obtain⟨F,D⟩:=ZY.mp e2;rw[← E,← D];exact YG.mp (by
   rw[Xq];refine List.Pairwise.filterMap _ (λa b L x h y w=>?_) List.pairwise_lt_range;obtain⟨_,_,rfl⟩:=Zt.mp h;obtain⟨_,_,rfl⟩:=Zt.mp w;exact L) i j G F H
 ·have q:=q;rw[XE]at q;obtain⟨p,f,rfl⟩:=ZC.mp (YZ q);exact(lm p f).1
 ·rw[← Yg,Array.toList_filterMap];rw[vh λi B=>?_,Zw,r];obtain⟨p,f,rfl⟩:=ZC.mp B;exact⟨_,Xe (lm p f).2⟩
 ·rw[Array.toList_filterMap]at h;obtain⟨i,_,q⟩:=We.mp h;rw[← MY]at q;exact YZ q
end SP
end
section
namespace SP
open PySem PySem.Spec PyProof.Rows SI ST
variable{K:Type}[DecidableEq K]
def tZ{prog:SB}{w:XAB}{knd:KeyKind prog w K}{A:SC}{E:Yx}{s:KB}{k:List K}{b:On}{Q:Bool->KB->Prop}(f:IsTupleKey knd s.heap k b)(q:Q R s):Pi (KF prog w) A (ofAClassStatement 8 (.ref b)) Q E s:=by
 have ty:=f.typeIs;obtain⟨o,items,n,h,_,hd,i⟩:=f;unfold ofAClassStatement;refine Zy (wpAny_typeOf ty ?_);refine Zy (Zm ?_);refine(?_);refine Zy (Vr h hd (Zy ?_));rw[← Array.forIn_toList];refine WC _ (λrest r d=>r.1=J/\d=s/\∀v∈rest,carriedByValue v=M) _ ?_ ?_ _ _ ⟨rfl,rfl,i.byValue⟩
 ·rintro v rest r d ⟨e,rfl,g⟩;have:ofAClassStatement 7 v=pure R:=by
   have:=g v Zv;cases v with
   |ref a=>simp[carriedByValue]at this
   |_=>rfl
  rw[this];exact Zy (Zm (Zm ⟨rfl,rfl,λu j=>g u (Zu _ j)⟩))
 ·rintro⟨r1,r2⟩ d ⟨e,rfl,_⟩;subst e;exact Zm q
def xF{prog:SB}{w:XAB}{knd:KeyKind prog w K}{A:SC}{E:Yx}{s:KB}{k:List K}{b:On}{Q:Bool->KB->Prop}(f:IsTupleKey knd s.heap k b)(q:∀r,Q r s):Pi (KF prog w) A (hashByValue 8 (.ref b)) Q E s:=by
 have ty:=f.typeIs;obtain⟨o,items,n,h,_,hd,i⟩:=f;refine Zy (wpAny_specialOf ty F.slot_tuple_hash.lookup ?_);refine Zy (Vr h hd (Zy ?_));rw[← Array.forIn_toList];refine WC _ (λrest r d=>d=s/\(r.1=J\/rest=[])/\∀v∈rest,carriedByValue v=M) _ ?_ ?_ _ _ ⟨rfl,.inl L,i.byValue⟩
 ·rintro v rest r d ⟨rfl,l,g⟩;have:∃b,hashByValue 7 v=pure b:=by
   have:=g v Zv;cases v with
   |ref a=>simp[carriedByValue]at this
   |_=>exact⟨_,by rfl⟩
  obtain⟨b,e⟩:=this;rw[e];refine Zy (Zm ?_);cases b with
  |true=>exact Zm ⟨rfl,.inl L,λu j=>g u (Zu _ j)⟩
  |false=>exact Zm (Zm (q _))
 ·rintro⟨r1,r2⟩ d ⟨rfl,_,_⟩;cases r1 with
  |none=>exact Zm (q _)
  |some b=>exact Zm (q _)
def B3{prog:SB}{w:XAB}{knd:KeyKind prog w K}{A:SC}{E:Yx}{s:KB}{k:List K}{b:On}{Q:Bool->KB->Prop}(f:IsTupleKey knd s.heap k b){l:Vq}(i:∀y∈l,∃c d,y=.ref c/\IsTupleKey knd s.heap d c)(q:Q R s):Pi (KF prog w) A (searchCouldBeSeen (.ref b) l) Q E s:=by
 refine Zy ?_;refine WC _ (λrest r a=>r.1=J/\a=s/\∀y∈rest,∃c d,y=.ref c/\IsTupleKey knd s.heap d c) _ ?_ ?_ _ _ ⟨rfl,rfl,i⟩
 ·rintro v rest r a ⟨e,rfl,h⟩;obtain⟨c,d,rfl,g⟩:=h v Zv;have fin:r.1=J/\a=a/\∀y∈rest,∃c d,y=.ref c/\IsTupleKey knd a.heap d c:=⟨e,rfl,λu j=>h u (Zu _ j)⟩
  dsimp only;split
  ·exact Zm ⟨rfl,fin.2⟩
  ·refine Zy (wpAny_eqIsQuiet_tuple f ?_);refine Zy (wpAny_eqIsQuiet_tuple g ?_);refine Zy (tZ f ?_);refine Zy (tZ g ?_);exact Zm ⟨rfl,fin.2⟩
 ·rintro⟨r1,r2⟩ a ⟨e,rfl,_⟩;subst e;exact Zm q
structure ND{prog:SB}{w:XAB}(knd:KeyKind prog w K)(h0 h:XAA)(a:On)(ks:List (List K))(es:Array (Int×PP))(ep:Nat)(t:SetTable):Prop where
 at_:h.get? a=some { cls:=.type "set",dict:=none,data:=.set es ep t }
 tb:N5 t es.size
 nf:es.size*5<t.mask*3
 Se:∀e∈es.toList,∃b k,e.2=.ref b/\k∈ks/\IsTupleKey knd h0 k b
 sz:es.size=ks.length
 kp:∀b o,h0.get? b=some o->o.cls=.type "tuple" → h.get? b=some o
def ND.up{prog:SB}{w:XAB}{knd:KeyKind prog w K}{e h:XAA}{a b:On}{k:List K}{i:List (List K)}{j:Array (Int×PP)}{l:Nat}{t:SetTable}(T:ND knd e h a i j l t)(x:IsTupleKey knd e k b):IsTupleKey knd h k b :=
 let ⟨o,f,n,g,c,d⟩:=x;⟨o,f,n,T.kp _ _ g c,c,d⟩
def ND.same{prog:SB}{w:XAB}{knd:KeyKind prog w K}{f h g:XAA}{a:On}{i:List (List K)}{l:Array (Int×PP)}{m:Nat}{t:SetTable}(T:ND knd f h a i l m t)(j:Heap.SameBut a h g)(b:On)(o:Obj)(e:f.get? b=Y o)(d:o.cls=.type "tuple"):g.get? b=Y o:=by
 refine(j.2 b λz=>?_).trans (T.kp b o e d);subst z;have:=T.at_;rw[T.kp _ o e d]at this;cases this;injection d with d
 exact absurd d (by decide)
def yy{prog:SB}{w:XAB}{knd:KeyKind prog w K}{A:SC}{E:Yx}{s:KB}{a b:On}{k:List K}{ks:List (List K)}{es:Array (Int×PP)}{ep:Nat}{t:SetTable}{h:Int}{h0:XAA}{Q:SetFound->KB->Prop}(T:ND knd h0 s.heap a ks es ep t)(hu:A.units<cLine)(hk:IsTupleKey knd s.heap k b)(hn:k∉ks)(q:∀j,j<=t.mask->t.slot j=.empty->Q (.free j R) s):∀(n fuel:Nat)(st:Option SetTable.Probe),n<fuel->n<10*SetTable.turns t.mask->Pj t (st.getD (t.probeStart h))->t.slot (NN t n (st.getD (t.probeStart h))).j=.empty->Pi (KF prog w) A (setSearchFrom a (.ref b) h M fuel st) Q E s:=by
 intro n
 induction n using Nat.strongRecOn with
 |_ n ih =>
  intro fuel st hf hm hp he;obtain⟨fuel,rfl⟩:∃n,fuel=n+1:=⟨fuel-1,by lia⟩
  refine Zy (WI T.at_ L T.tb.fits ?_);dsimp only;rw[Zo (by rw[T.tb.odd];exact Zh)];generalize hg:SetTable.probe t _ h (st.getD (t.probeStart h))=met;unfold SetTable.probe at hg;rcases HC T.tb.Pu _ h n _ _ hm hp he with⟨j,e1,e2,e3⟩ | ⟨j,i,p',k',e1,e2,e3,e4,e5⟩
  ·rw[e1]at hg;subst hg;exact Zm (q j e2 e3)
  ·rw[e1]at hg;subst hg;have hi:i<es.size:=by
    rcases mQ T.tb.Pu j with⟨z,_⟩ | ⟨z1,z2⟩
    ·rw[e2]at z;cases z
    ·rw[e2]at z1;cases z1;rw[← T.tb.sz];exact(Vz.mp z2).1
   obtain⟨c,k2,c1,c2,c3⟩:=T.Se es[i] (Array.getElem_mem_toList hi);have rest:Pi (KF prog w) A (do
     let Y (_,y):=es[i]? | unsupported "internal:set-entry"
     let equal ← holding [y] (eqBool y (.ref b))
     let (Nd,_,t') ← setState a
     if M&&equal then return .there J
     let Y same:=t'.sameMemory t.moves t.mask | unsupported "set.changed-during-lookup:is-the-new-block-at-the-old-address"
     let SM ← match (if same then t'.slot j else .empty) with
      |.live i'=>match Nd[i']? with
       |some (_,y')=>do pure (if ← isSame y' y then Y i' else J)
       |none=>pure J
      |_=>pure J
     match SM with
     |none=>rule "set.search.anew";setSearchFrom a (.ref b) h M fuel J
     |some i'=>if equal then return .there (Y i') else setSearchFrom a (.ref b) h M fuel (Y p')) Q E s:=by
    have g:es[i]?=Y (es[i].1,.ref c):=by
     rw[Xe hi,← c1]
    rw[g];refine Zy (YK (wpAny_eqBool_tuple hu (T.up c3) hk ?_));rw[ZZ λz:k2=k=>hn (z ▸ c2)];refine Zy (WI T.at_ L T.tb.fits ?_);dsimp only;rw[show SetTable.sameMemory t t.moves t.mask=Y M from Zs (beq_self_eq_true _)];rw[Zo (by decide)];dsimp only;rw[Zs L,e2];dsimp only;rw[g];refine Zy (wpAny_isSame_ref_self (Zy (Zm ?_)));exact ih k' e4 fuel (Y p') (by lia) (by lia) e3 e5
   by_cases hl:t.led=M
   ·refine(show Pi _ _ (if (!t.led)=M then _ else _) Q E s from ?_);rw[Zo (by rw[hl];exact Zh)];exact rest
   ·refine(show Pi _ _ (if (!t.led)=M then _ else _) Q E s from ?_);rw[Zs (by rw[Bool.eq_false_iff.mpr hl];rfl)];refine Zy (B3 hk (λy hy=>?_) ?_)
    ·obtain⟨e,he,rfl⟩:=ZC.mp hy;rw[Array.toList_filter]at he;obtain⟨b',k',h1,_,h2⟩:=T.Se e (Xz.mp he).1;exact⟨b',k',h1,T.up h2⟩
    ·exact rest
end SP
end
section
namespace SP
open PySem PySem.Spec PyProof.Rows SI ST
variable{K:Type}[DecidableEq K]
def rn(h:Og m)(a:n*5<m*3)(d:(n+1)*5 ≥ m*3)(b:n<300):Og (SetTable.sizeAbove (SetTable.grown (n+1))-1)/\(n+1)*5<(SetTable.sizeAbove (SetTable.grown (n+1))-1)*3/\SetTable.sizeAbove (SetTable.grown (n+1))<=512:=by
 rcases h with rfl | rfl | rfl | rfl
 ·have:n=4:=by lia
  subst this;exact⟨.inr (.inl (by decide)),by decide,by decide⟩
 ·have:n=18:=by lia
  subst this;exact⟨.inr (.inr (.inl (by decide))),by decide,by decide⟩
 ·have:n=76:=by lia
  subst this;exact⟨.inr (.inr (.inr (by decide))),by decide,by decide⟩
 ·lia
def CF{prog:SB}{w:XAB}{knd:KeyKind prog w K}{A:SC}{E:Yx}{s:KB}{a b:On}{k:List K}{u:List (List K)}{g:Array (Int×PP)}{F:Nat}{t:SetTable}{h:Int}{x:XAA}{Q:Bool->KB->Prop}(T:ND knd x s.heap a u g F t)(hu:A.units<cLine)(G:IsTupleKey knd x k b)(hn:k∉u)(hl:u.length<300)(q:∀z Nd OC U,Heap.SameBut a s.heap z->ND knd x z a (u++[k]) Nd OC U->Q M { s with heap:=z }) :
  Pi (KF prog w) A (setAddHashed a (.ref b) h) Q E s:=by
 have D:=T.up G;refine YK (Zy (WI T.at_ L T.tb.fits ?_));dsimp only;rw[Zo (by show ¬(R&&_&&_)=M;simp)];obtain⟨j0,j1,j2⟩:=T.tb.room;obtain⟨n,n1,n2⟩:=sE T.tb.m h j1;refine Zy (yy T hu D hn (λj g1 l=>?_) n 100000 J (by
  have:SetTable.turns t.mask<=526:=by
   rcases T.tb.m with e | e | e | e<;>rw[e]<;>decide
  lia) n1 (Ak t h) (by rw[show (J).getD (t.probeStart h)=t.probeStart h from rfl,n2];exact j2))
 refine Zy (WI T.at_ L T.tb.fits ?_);have i:=T.tb.put g1 l (by have:=T.nf;have:=T.tb.Pq;lia);have d:(SetTable.insertAt g (SetTable.below t.place j) (h,.ref b)).size=g.size+1:=by
  have:=T.tb.sz;unfold SetTable.insertAt;simp only[X1,XF,VF];lia
 have H:∀e∈(SetTable.insertAt g (SetTable.below t.place j) (h,.ref b)).toList,e∈g.toList\/e=(h,.ref b):=λe he=>by
  unfold SetTable.insertAt at he;rw[YX,Vu,Zd,Zd,Xa,Xa]at he;rcases he with (he | he) | he
  ·exact .inl (YI (YS he))
  ·exact .inr (Zc.mp he)
  ·exact .inl (YI (YS he))
 generalize y:SetTable.insertAt g (SetTable.below t.place j) (h,Value.ref b)=QF at d H;have rest:∀t2:SetTable,N5 t2 (g.size+1)->t2.mask=t.mask->Pi (KF prog w) A (do
   storeSet a QF t2
   if (!R&&t2.tooFull)=M then setRelay a (SetTable.grown (g.size+1))
   return M) Q E s:=λt2 o m2=>by
  refine Zy (wpAny_storeSet_of T.at_ L ?_ (by rw[d,T.sz,XW];lia));have l:(s.heap.update a (Obj.putSet QF t2)).get? a=Y { cls:=.type "set",dict:=J,data:=.set QF (F+1) t2 }:=Wr _ T.at_ L;have RR:Heap.SameBut a s.heap (s.heap.update a (Obj.putSet QF t2)):=Vv ..;have N:∀e∈QF.toList,∃b v,e.2=.ref b/\v∈u++[k]/\IsTupleKey knd x v b:=λe he=>by
   rcases H e he with he | rfl
   ·obtain⟨c,v,h1,h2,h3⟩:=T.Se e he;exact⟨c,v,h1,Ye _ h2,h3⟩
   ·exact⟨b,k,rfl,ZI _ (Zc.mpr L),G⟩
  by_cases f:t2.tooFull=M
  ·rw[Zs (by rw[f];rfl)];obtain⟨P,O,u3⟩:=rn T.tb.m T.nf (by
    unfold SetTable.tooFull SetTable.fill at f;rw[o.sz,o.Pu,m2]at f;exact of_decide_eq_true f) (by rw[T.sz];exact hl)
   obtain⟨S,B,r1,r2,Z,_,p,X⟩:=ya L P (by rw[d];lia);refine Zy ?_;refine Zy (WI l L (by rw[d];exact o.fits) ?_);dsimp only;rw[Zo (by rw[XW];lia),r1];refine Zy (show Pi _ _ (if ((B.filterMap (QF[·]?)).size != QF.size)=M then _ else pure (B.filterMap (QF[·]?),S)) _ _ _ from ?_);rw[Zo (by rw[p];simp)];refine Zm (wpAny_storeSet_of l L (Zm (q _ _ _ _ (RR.trans (Vv ..)) ⟨Wr _ l L,by rw[p];exact r2,by rw[p,Z,d];exact O,λe he=>N e (X e he),by rw[p,d,T.sz,Zx];rfl,T.same (RR.trans (Vv ..))⟩)) (by rw[p,d,T.sz,XW];lia))
  ·rw[Zo (by rw[Bool.eq_false_iff.mpr f];exact Zh)];refine Zy (Zm (Zm (q _ _ _ _ RR ⟨l,by rw[d];exact o,?_,N,by rw[d,T.sz,Zx];rfl,T.same RR⟩)));unfold SetTable.tooFull SetTable.fill at f;rw[o.sz,o.Pu,decide_eq_true_iff]at f;rw[d];exact Wu f
 subst y;refine(?_);by_cases C:(t.put j).1.plain=M
 ·rw[Zs C];refine Zy (xF D λr=>?_);cases r with
  |true=>exact rest (t.put j).1 i L
  |false=>exact rest { (t.put j).1 with plain:=false } ⟨i.m,i.sz,i.ris,i.Pu,i.le,i.Pq⟩ rfl
 ·rw[Zo C];exact rest (t.put j).1 i L
theorem tW{prog:SB}{w:XAB}{knd:KeyKind prog w K}{A:SC}{R:Result->KB->Prop}{I S:On}{fp r:W5}{G:Array GenState->Array GenState->Prop}{n:Nat}{P:Nat->PP->Prop}{St:Nat->KB->Prop}{a:List (List K)}(W:WalksS prog w A.in1 I fp r G n P St)(d:S∉fp)(hn:n=a.length)(j:n<300)(B:A.units+1<cLine)(Z:a.Nodup){h0:XAA}(hP:∀i v,P i v->∃b x,v=.ref b/\a[i]?=Y x/\IsTupleKey knd h0 x b)(C:∀b o,h0.get? b=Y o->o.cls=.type "tuple" → b∉r) :
  ∀(k i:Nat)(s:KB)(p:Array (Int×PP))(q:Nat)(t:SetTable),i+k=n->St i s->ND knd h0 s.heap S (a.take i) p q t →
   (∀g X U u,Moved (S :: r) G s g->ND knd h0 g.heap S a X U u->R (.ok (.ret .none)) g) →
   codeAny (KF prog w) A (.builtin "set.update.loop" ⟨[.ref S,.ref I],[]⟩) R s
 |0,i,s,p,q,t,hk,st,T,H=>by
  have hi:i=n:=by omega
  subst hi;refine Xu F.entry_set_update_loop ?_;rw[YD V5];rw[hn,V8]at T;exact Zy (W.done s _ _ st λg f=>Zm (H g p q t (f.mono λb j=>Zu _ j) ⟨f.heap S _ (λh=>d (W.sub _ h)) T.at_,T.tb,T.nf,T.Se,T.sz,λb o m l=>f.heap b o (C b o m l) (T.kp b o m l)⟩))
 |k+1,i,s,p,q,t,hk,st,T,H=>by
  refine Xu F.entry_set_update_loop ?_;rw[YD V5];refine Zy (W.item i s _ _ (by lia) st λv s1 pv Kz f=>?_);obtain⟨b,x,rfl,N0,LV⟩:=hP i v pv;have T1:ND knd h0 s1.heap S (a.take i) p q t:=⟨f.heap S _ (λh=>d (W.sub _ h)) T.at_,T.tb,T.nf,T.Se,T.sz,λb o m l=>f.heap b o (C b o m l) (T.kp b o m l)⟩
  have nx:x∉a.take i:=λz=>by
   obtain⟨_,e⟩:=ZY.mp N0;have:=(ZA.mp (by rw[YM];exact Z)).2.2 x z x (by rw[YE (by lia),e];exact Zv);exact this L
  refine Zy (YK ?_);refine YK (Zy (wpAny_pyHash_tuple (by exact B) (T1.up LV) (CF T1 (by exact B) LV nx (by rw[LX];lia) λh' X U u sb T2=>?_)));rw[show a.take i++[x]=a.take (i+1) from by rw[List.take_add_one,N0];rfl]at T2;refine Zm ⟨X9 V5 _,tW W d hn j B Z hP C k (i+1) _ X U u (by lia) (W.frame _ s1 _ _ Kz (Za _ _) λc D o e=>?_) T2 λs2 N O t2 y T3=>?_⟩
  ·rw[sb.2 c λQ=>d (Q ▸ D)];exact e
  ·refine H s2 N O t2 (Moved.trans W.gtrans (Moved.then_heap (f.mono λb j=>Zu _ j) (Za _ _) λc o D e=>?_) y) T3;rw[sb.2 c λQ=>D (by rw[Q];exact Zv)];exact e
theorem ND.bare{prog:SB}{w:XAB}{knd:KeyKind prog w K}(a h:XAA)(d:∀b o,a.get? b=Y o->h.get? b=Y o):ND knd a (h.push (ST.bare w)) h.objs.size [] #[] 0 (.fresh 0 0 (!byT w)) :=
 ⟨ZM _ L,⟨.inl L,rfl,λi j u v _ e=>by simp[SetTable.fresh]at e,rfl,λi v e=>by simp[SetTable.fresh]at e,ZE _⟩,(show 0*5<7*3 by decide),λe he=>by simp at he,rfl,λb o f _=>Zj _ (d b o f)⟩
def Bc{prog:SB}{w:XAB}{knd:KeyKind prog w K}{A:SC}{s:KB}{m:List (List K)}(hh:A.handled=J)(hu:A.units+9<cLine)(hl:s.heap.IsList l j)(Z:∀(i:Nat)(v:PP),j[i]?=Y v->∃b x,v=.ref b/\m[i]?=Y x/\IsTupleKey knd s.heap x b)(U:j.size=m.length)(X:m.Nodup)(hb:m.length<300)(h:∀(p:XAA)(N:Nat) es ep t,ND knd s.heap p s.heap.objs.size m es ep t->(∀b o,s.heap.get? b=Y o->p.get? b=Y o)->Q (.ref s.heap.objs.size) { s with heap:=p,toks:=N }) :
  Pi (KF prog w) A (call (.type "set") [.ref l]) Q E s:=by
 have f:=F.called_set;obtain⟨c,tl,mro⟩:=f.mro;have made:=f.made;have sub:=f.sub;have tc:=F.typeCall_set_1 (.ref l);refine wpAny_call (codeAny_of_tree (Zm (⟨Code.quiet_builtin _ (by decide +kernel),Xu F.entry_type_call ?_⟩)));rw[Around.under_plain (weight_type_call_type "set" [.ref l] []) L]
 repeat any_goals first | assumption | wp_step
 refine Vt (CB (.ref l) (E:=E) (Q:=λv s1=>v=.ref s.heap.objs.size/\s1={ s with heap:=s.heap.push (bare w) }) ⟨rfl,rfl⟩) λr s1 d=>?_
 match r,d with
 |.error e,d=>exact d
 |.ok (.ret v),⟨e1,e2⟩ =>
  subst e1 e2;have g:=ND.bare (knd:=knd) s.heap s.heap λ_ _ e=>e;have il:=f.init.lookup;have ib:=f.init.bind (.ref s.heap.objs.size)
  repeat any_goals first | assumption | wp_step
  refine Vt (codeAny_call_builtin (R:=wants (λv D=>v=.none/\Q (.ref s.heap.objs.size) D) E) f.init.plain F.entry_set_init (check_set_init_1 (⟨_,g.at_,rfl⟩) ?_)) λr2 D a=>?_
  ·refine L2.aq λP_ S=>?_;obtain⟨ol,n,B,nl,y⟩:=hl;cases ol;subst B y;refine S ?_;have G:=ZV n;have RM:=Zj (bare w) n;have lst:(s.heap.push (bare w)).IsList l j:=⟨_,RM,rfl,nl,rfl⟩
   have n1:=F.sub_list_set;have n2:=F.sub_list_frozenset;unfold Builtin.«set.__init__» noKeywords Builtin.Frozenset.updateFrom;generalize eP:pyIter=itr
   wp_walk
   subst eP;refine Vg lst (Zy (wpAny_runValue ?_));refine tW (knd:=knd) (h0:=s.heap) ((Walks.list (by simp[hh]) _ l (by rw[Xb];exact Ze (L7 G)) j).toS) (by
    rw[Xb];simp only[Zg,WN,or_false,not_or];exact⟨Ze (Ym _),WX G⟩) U (by lia) (by lia) X Z (λb o e _ z=>by
    have:=ZV e;rw[Zc.mp z,Xb]at this;exact Yf _ (Xr this)) j.size 0 _ #[] 0 _ (by exact YL _) ⟨⟨_,ZM _ L,rfl,rfl⟩,lst.push _⟩ (⟨Zj _ g.at_,g.tb,g.nf,g.Se,g.sz,λb o h1 a=>Zj _ (g.kp b o h1 a)⟩) λP Nd OC O u T=>?_
   obtain⟨p,g',d',Ob,UB⟩:=P;have e1:g'=s.gens:=u.gens;have e2:d'=s.drawn:=u.drawn;have e3:UB=s.os:=u.os;subst e1 e2 e3;refine Zm (Zm ⟨rfl,h p Ob Nd OC O T λb o e=>u.heap b o (λC=>?_) (Zj _ (Zj _ e))⟩);have H:=ZV e;rw[Xb]at C;simp only[Zg,WN,or_false]at C;rcases C with q | q
   ·exact Ze H q
   ·exact Ze (L7 H) q
  ·match r2,a with
   |.error e,a=>exact a
   |.ok (.ret v),⟨e1,e2⟩ =>
    subst e1
    repeat any_goals first | assumption | wp_step
   |.ok .next,a=>exact a.elim
   |.ok .brk,a=>exact a.elim
   |.ok .cont,a=>exact a.elim
 |.ok .next,d=>exact d.elim
 |.ok .brk,d=>exact d.elim
 |.ok .cont,d=>exact d.elim
end SP
end
section
namespace L2
open PySem PySem.Spec PyProof.Rows TS
section
noncomputable def E2(a:On)(n:Nat):HO:=.ext λ_ h=>∃b d t,h.get? a=Y { cls:=.type "set",dict:=J,data:=.set b d t }/\t.fits b.size=M/\b.size=n/\n<300
def At.NN(h:At H b d):∀(i:Nat)(a:On),d[i]?=Y a->∃k:List Key,b[i]?=Y k/\H a=Y (.tup (k.map kV)):=by
 induction h with
 |nil=>intro i a e;simp at e
 |cons e _ f =>
  intro i a q;cases i with
  |zero =>
   rw[List.getElem?_cons_zero]at q;cases q;exact⟨_,rfl,e⟩
  |succ i =>
   rw[Vn]at q;exact f i a q
theorem pI:∀{b:W5}{d:Vq},aW (b.map V.ref) d->d=b.map Value.ref
 |[],_,.nil=>rfl
 |a :: b,_,.cons e r=>by
  cases e;rw[Zk,pI r]
def yo{X:Cx}(E:X.calm=M)(B:X.A.units+9<cLine):dm X (.type "set") (λe H Q=>∃p,∃b d,e=[.ref p]/\JV X.K H p (d.map V.ref)/\At H b d/\b.Nodup/\b.length<300/\∀l,H l=J->Q (.ref l) (upd H l (E2 l b.length))):=by
 intro g s O H e us Q I r h;refine L2.aq λP_ z=>?_;obtain⟨p,b,d,rfl,C,o,D,hb,q⟩:=h;obtain⟨u,rfl,x⟩:=r.one;cases x;obtain⟨oe,f,y,hz⟩:=I.list C;refine z ?_;refine SP.Bc (knd:=ba X.prog X.w) (I.ok.hd E) B y.isList (λi v j=>?_) (by simpa[o.len] using(by have:=f.length;simpa using this.symm)) D hb λG tk Nd L t T kp=>?_
 ·rw[XE,(pI f),ZG]at j;obtain⟨a,F,rfl⟩:=Zt.mp j;obtain⟨k,n,m⟩:=o.NN i a F;exact⟨a,k,rfl,n,dr I.xb m⟩
 ·exact⟨.ref s.heap.objs.size,_,I.laid kp (Zn _) (show dE X.prog X.w _ G _ (E2 s.heap.objs.size b.length) from⟨⟨Nd,L,t,T.at_,T.tb.fits,T.sz,hb⟩,⟨_,T.at_⟩,λn m ⟨Z,U,S,P,N⟩ k=>⟨Z,U,S,k _ P,N⟩⟩),rfl,q _ (I.xb.fresh (Zn _))⟩
def pz:dm X (.builtin "len") (λa H Q=>∃p n,a=[.ref p]/\H p=Y (E2 p n)/\Q (.int n) H):=by
 intro b s O H a l Q I d h;obtain⟨p,n,rfl,f,q⟩:=h;obtain⟨u,rfl,e⟩:=d.one;cases e;obtain⟨⟨o,r,t,j,i,g,m⟩,_,_⟩:=I.xb p _ f;exact call_len_set j ⟨rfl,rfl,rfl⟩ L i (by omega) ⟨.int n,H,(I.tok _).tok _,⟨_,by rw[g]⟩,q⟩
end
end L2
namespace VS
open PySem PySem.Spec PyProof.Rows L2
section
def ng:Ur->Uq
 |[(_,.lst l)]=>(l.mapM QX).bind λa=>if a.Nodup/\a.length<300 then Y (.fr,.int a.length) else J
 |_=>J
def Be{X:Cx}(n:p0 k X.A)(r:X.mg "len" = J)(L:X.mg "set" = J)(y:KD G X [e] cs)(u:{`q2,Gl X "len"})(E:{`q2,Gl X "set"})(B:{`q2,X.K=G.K})(w:{`q2,X.calm=M})(he:{`q2,K1 e [] X})(d:{`q2,P3 [.Call (.Name "set" p2) [e] [] pos'] X.env=(R,eval (.Call (.Name "set" p2) [e] [] pos') X.env) :: P3 [] X.env}) :
  PV G X (.Call (.Name "len" p) [.Call (.Name "set" p2) [e] [] pos'] [] pos) (eN ng cs):=by
 refine PE.weak (n9 pz u r PySem.boot_len (fu (pR (yo w (by have:=n.un;lia)) E L Gm y (he:=he)) j6 d)) λO H Q z=>?_;obtain⟨Z,U,m,t,s,b,i⟩:=z;obtain⟨l,C,b⟩:=Zz.mp b;refine⟨Z,U,l,s,C,λS H1 Fs s1 r1 f1=>?_⟩;unfold ng at b;split at b
 ·rename_i mx x;obtain⟨f,e1,e2⟩:=Zz.mp b;split at e2
  ·rename_i hb;refine L2.aq λP_ j=>?_;cases e2;obtain⟨v,F,rfl,rfl,g⟩:=(r1).one;obtain⟨a,P,Gs,rfl,rfl,D,h⟩:=g.lst_inv;obtain rfl:=kE (λ_ _=>xf) e1;obtain⟨bs,rfl,N,ht⟩:=qO h;refine j ?_;refine⟨a,f,bs,rfl,by rw[B];exact JV.of D,N,hb.1,hb.2,λq o=>⟨q,f.length,rfl,aH,?_⟩⟩;exact i _ _ _ (s1.trans (cV o)) (.int _) Fp.nil
  ·cases e2
 ·cases b
end
end VS
end
section
namespace T23
open VS
noncomputable section
def bj:Mt:=LH 0 4 4 [R,R,M]
  (ar (sX (iX 0 [.fld 1] aN (ae (ab 1) ak)))
  (ar (sX (iX 0 [.fld 2] aN (ae (ab 2) ak)))
  (ar (qw 0 [.fld 3] 3)
  (d5 (e2 kZ (eN bU (ae (bB 1 (ab 0)) ak)) (Q3 1))))))
def dA:Mt:=LH 0 1 1 (List.replicate 0 R)
  (ar (jT 0 1 (ic ak))
  (ar (jT 0 2 (ic ak))
  (ar (jT 0 3 (ic ak))
  (Uj (bQ 0 [] 0 [R,R,M] bj (ae (Q3 0) (ae (eC .non) (ae (sS 0 []) ak))))))))
def df:Sx :=
  (ar (gg 0 [.fld 3,.ix (ab 1)] (ab 2) (ab 5))
  (aK 1 (e2 aJ (bB 2 (ab 0)) (ab 1))))
def aE:Mt:=LH 0 3 6 [R,R]
  (ar (aK 3 (e2 LU (e2 aJ (bB 3 (ab 0)) (ab 1)) (ab 2)))
  (ar (aK 4 (e2 cu (e2 aJ (bB 1 (ab 0)) (ab 1)) (Q3 1)))
  (ar (KH (e2 oEq (e2 aJ (bB 1 (ab 0)) (ab 3)) (ab 4)) (fT 3) eU)
  (ar (mD 5 (bQ 0 [] 0 [R,R,M] bj (ae (ab 4) (ae (e2 aJ (bB 2 (ab 0)) (ab 3)) (ae (eN oG (ae (e2 aJ (bB 3 (ab 0)) (ab 3)) ak)) ak)))))
  (ar (gg 0 [.fld 2] (ab 3) (ab 5))
  (ar (ke (ik (fR (ab 1)) (e2 oEq (e2 yA (e2 aJ (bB 3 (ab 0)) (ab 1)) (ab 2)) (ab 3))) df)
  (fT 5)))))))
def cR:Sx :=
  (ar (gg 0 [.fld 3,.ix (ab 4)] (ab 2) (ab 3))
  (aK 4 (e2 aJ (bB 2 (ab 0)) (ab 4))))
def bO:Mt:=LH 0 3 5 [R,R]
  (ar (KH (e2 nR (ab 2) (e2 aJ (bB 3 (ab 0)) (ab 1))) (sC (bQ 0 [] 0 [R,R] aE (ae (ab 1) (ae (ab 2) ak)))) eU)
  (ar (mD 3 (bQ 0 [] 0 [R,R,M] bj (ae (e2 cu (e2 aJ (bB 1 (ab 0)) (ab 1)) (Q3 1)) (ae (Q3 0) (ae (sS 0 []) ak)))))
  (ar (aK 4 (ab 1))
  (ar (ke (ik (fR (ab 4)) (e2 dB (ab 2) (e2 aJ (bB 3 (ab 0)) (ab 4)))) cR)
  (ar (KH (fR (ab 4)) (ma 0 [.fld 2] (ab 3) (bQ 0 [] 0 [R,R] aE (ae (ab 4) (ae (ab 2) ak)))) eU)
  (fT 3))))))
def de:Sx :=
  (mD 1 (bQ 0 [] 0 [R,R] bO (ae (ab 1) (ae (ab 3) ak))))
def aY:Mt:=LH 0 3 4 [R,R]
  (ar (gu (bx 3) (fW (ab 2)) de)
  (fT 1))
def dw:Sx :=
  (KH (e2 dB (e2 LU (ab 4) (ab 5)) (ab 1)) (ar (nK 1 (e2 LU (ab 4) (ab 5)) (eN bU (ae (ab 2) ak)))
  (sX (nt 2 [] aN (ae (e2 LU (ab 4) (ab 5)) ak)))) eU)
def dy:Sx :=
  (ar (aK 4 (e2 aJ (bB 3 (ab 0)) (e2 aJ (ab 2) (ab 3))))
  (ar (gu (bx 5) (fW (eN hV (ae (ab 4) ak))) dw)
  (aK 3 (e2 cu (ab 3) (Q3 1)))))
def aO:Fn:=fn 1 6
  (ar (k8 1 (sS 0 [((Q3 0),(Q3 0))]))
  (ar (k8 2 (ic (ae (Q3 0) ak)))
  (ar (aK 3 (Q3 0))
  (ar (ke (e2 oLt (ab 3) (eN bU (ae (ab 2) ak))) dy)
  (ar (Df 2)
  (fT 1))))))
def bX:Fn:=fn 3 6
  (ar (aK 3 (e2 aJ (bB 2 (ab 0)) (ab 1)))
  (ar (aK 4 (e2 aJ (bB 3 (ab 0)) (ab 1)))
  (ar (aK 5 (eN kM (ae (cG 1 (bx 0) (fW (eN hV (ae (ab 4) ak))) J (lY (ae (ab 0) (ae (e2 ur (ab 3) (e2 LU (ab 5) (ab 0))) ak)))) ak)))
  (ar (KH (IW (ab 3)) (d5 (lY (ae (Q3 0) (ae (Q3 0) (ae (eC .non) (ae (ab 5) ak)))))) eU)
  (d5 (lY (ae (e2 cu (e2 aJ (bB 1 (ab 0)) (ab 3)) (Q3 1)) (ae (e2 aJ (bB 1 (ab 0)) (ab 1)) (ae (e2 ur (ab 2) (ab 3)) (ae (ab 5) ak))))))))))
def dM:Fn:=fn 1 2
  (ar (k8 1 (fQ 0 aO (ab 0) ak))
  (yS 1 (bx 0) (fQ 0 bX (ab 1) (ae (ab 0) (ae (ab 2) ak)))))
def bG:Mt:=LH 1 1 1 []
  (ar (KH (e2 OQ (eN bU (ae (bB 4 (ab 0)) ak)) (Q3 8)) SO eU)
  (ar (sX (iX 0 [.fld 4] aN (ae (eC (.str [])) ak)))
  (ar (sX (iX 0 [.fld 5] aN (ae (Q3 0) ak)))
  (d5 (e2 kZ (eN bU (ae (bB 4 (ab 0)) ak)) (Q3 1))))))
def gI:Fn:=fn 1 1
  (d5 (ik (U8 .int (ab 0)) (ny (U8 .bool (ab 0)))))
def bE:Fn:=fn 2 2
  (KH (RE (ny (aT gI (ae (ab 1) ak))) (ny (oP oLe oLt (Q3 0) (ab 1) (eN bU (ae (ab 0) ak))))) SO eU)
def gn:Fn:=fn 1 1
  (d5 (eN Ci (ae (cG 1 (bx 0) (fW (ab 0)) J (eN bU (ae (ab 0) ak))) ak)))
def bF:Mt:=LH 1 3 3 [R,R]
  (ar (sX (xP (aT bE (ae (bB 4 (ab 0)) (ae (ab 1) ak)))))
  (ar (KH (e2 M6 (e2 cu (aT gn (ae (bB 4 (ab 0)) ak)) (eN bU (ae (ab 2) ak))) (Q3 120)) SO eU)
  (ar (ma 0 [.fld 5] (ab 1) (bQ 0 [.fld 6] 0 [R,R] aY (ae (e2 aJ (bB 5 (ab 0)) (ab 1)) (ae (ab 2) ak))))
  (gg 0 [.fld 4] (ab 1) (e2 cu (e2 aJ (bB 4 (ab 0)) (ab 1)) (ab 2))))))
def bI:Sx :=
  (Uj (p8 0 1 [R,R] bF (bQ 0 [] 1 [] bG ak) (ae (ab 2) ak)))
def br:Mt:=LH 1 2 3 (List.replicate 1 R)
  (ar (jT 0 4 (ic ak))
  (ar (jT 0 5 (ic ak))
  (ar (jT 0 6 (eNew 0 dA ak))
  (KH (fR (ab 1)) (gu (bx 2) (fW (ab 1)) bI) eU))))
def nG:Fn:=fn 1 1
  (d5 (eN nI (ae (bB 4 (ab 0)) ak)))
def cf:Fn:=fn 1 1
  (d5 (fQ 0 dM (bB 6 (ab 0)) ak))
def qh:Sx :=
  (ar (aK 4 (eN oE (ae (e2 aJ (e2 aJ (ab 0) (e2 aJ (ab 2) (Q3 (-1)))) (Q3 3)) ak)))
  (ar (KH (e2 dB (ab 3) (ab 4)) (fT 2) eU)
  (sX (nt 2 [] aN (ae (e2 LU (ab 4) (ab 3)) ak)))))
def n8:Fn:=fn 2 5
  (ar (k8 2 (ic (ae (Q3 0) ak)))
  (ar (gu (bx 3) (fW (ab 1)) qh)
  (fT 2)))
def aL:Fn:=fn 2 2
  (KH (RE (ny (aT gI (ae (ab 1) ak))) (ny (oP oLe oLt (Q3 0) (ab 1) (eN bU (ae (ab 0) ak))))) SO eU)
def eQ:Sx :=
  (KH (e2 oEq (e2 aJ (e2 aJ (ab 0) (e2 aJ (ab 4) (Q3 1))) (Q3 1)) (e2 cu (e2 aJ (ab 3) (Q3 1)) (Q3 1))) (nK 1 (e2 aJ (ab 4) (Q3 1)) (lY (ae (ab 2) (ae (e2 aJ (ab 4) (Q3 0)) ak)))) eU)
def g7:Sx :=
  (gu (bx 4) (fW (e2 aJ (ab 3) (Q3 3))) eQ)
def eR:Fn:=fn 1 5
  (ar (k8 1 (sS 0 []))
  (ar (gu (kA [(bx 2),(bx 3)]) (pN (ab 0)) g7)
  (fT 1)))
def kH:Sx :=
  (ar (aK 4 (e2 LU (ab 2) (ab 1)))
  (ar (aK 3 (e2 cu (e2 aJ (ab 4) (Q3 1)) (ab 3)))
  (aK 1 (e2 aJ (ab 4) (Q3 0)))))
def d9:Fn:=fn 2 5
  (ar (sX (xP (aT aL (ae (ab 0) (ae (ab 1) ak)))))
  (ar (aK 2 (aT eR (ae (ab 0) ak)))
  (ar (aK 3 (eC (.str [])))
  (ar (ke (e2 NX (ab 1) (Q3 0)) kH)
  (fT 3)))))
def mS:Fn:=fn 2 3
  (ar (aK 2 (aT d9 (ae (ab 0) (ae (ab 1) ak))))
  (d5 (cG 1 (bx 0) (mU (e2 aJ (e2 aJ (ab 0) (ab 1)) (Q3 0)) (e2 cu (e2 aJ (e2 aJ (ab 0) (ab 1)) (Q3 1)) (Q3 1))) J (OF (ab 3) (Y (e2 kZ (eN bU (ae (ab 3) ak)) (ab 0))) J))))
def iL:Sx :=
  (ar (sX (nt 2 [] aN (ae (ab 1) ak)))
  (aK 1 (e2 aJ (e2 aJ (ab 0) (ab 1)) (Q3 2))))
def jK:Fn:=fn 2 3
  (ar (sX (xP (aT aL (ae (ab 0) (ae (ab 1) ak)))))
  (ar (k8 2 (ic ak))
  (ar (ke (fR (ab 1)) iL)
  (fT 2))))
def qB:Fn:=fn 2 2
  (ar (sX (xP (aT aL (ae (ab 0) (ae (ab 1) ak)))))
  (d5 (cG 2 (kA [(bx 0),(bx 1)]) (pN (ab 0)) (Y (e2 oEq (e2 aJ (ab 1) (Q3 2)) (ab 3))) (ab 0))))
def gq:Sx :=
  (sX (sH 2 (ab 7) (ae (lY (ae (ab 3) (ae (ab 5) ak))) ak)))
def ji:Sx :=
  (gu (bx 7) (fW (aT jK (ae (ab 1) (ae (ab 6) ak)))) gq)
def jg:Sx :=
  (gu (kA [(bx 5),(bx 6)]) (pN (aT n8 (ae (ab 1) (ae (ab 4) ak)))) ji)
def cj:Fn:=fn 2 8
  (ar (k8 2 (cG 1 (bx 0) (fW (ab 1)) J (ic ak)))
  (ar (gu (kA [(bx 3),(bx 4)]) (pN (ab 0)) jg)
  (fT 2)))
def oF:Fn:=fn 2 2
  (d5 (cG 1 (bx 0) (fW (aT cj (ae (ab 0) (ae (ab 1) ak)))) J (eN bU (ae (ab 0) ak))))
def oZ:Fn:=fn 2 2
  (d5 (cG 1 (bx 0) (fW (aT cj (ae (ab 0) (ae (ab 1) ak)))) J (Sf (e2 M6 (eN bU (ae (ab 0) ak)) (Q3 0)) (e2 aJ (ab 0) (Q3 0)) (eC .non))))
def fg:Fn:=fn 2 2
  (ar (KH (e2 oLt (ab 1) (eN bU (ae (ab 0) ak))) (d5 (e2 aJ (ab 0) (ab 1))) eU)
  (d5 (Q3 0)))
def aX:Fn:=fn 2 4
  (ar (aK 2 (Q3 7))
  (ar (KH (e2 M6 (eN bU (ae (ab 0) ak)) (Q3 0)) (aK 2 (e2 aJ (ab 0) (e2 oMod (ab 1) (eN bU (ae (ab 0) ak))))) eU)
  (ar (aK 3 (e2 oMod (e2 ig (e2 cu (e2 cu (e2 oMod (ab 2) (Q3 2147483629)) (e2 ig (Q3 40503) (ab 1))) (Q3 1)) (Q3 48271)) (Q3 2147483647)))
  (ar (aK 3 (e2 oMod (e2 ig (ab 3) (ab 3)) (Q3 2147483629)))
  (ar (aK 3 (e2 oMod (e2 ig (e2 cu (ab 3) (ab 1)) (Q3 69621)) (Q3 2147483587)))
  (d5 (e2 iy (e2 oMod (e2 ig (ab 3) (ab 3)) (Q3 2147483563)) (Q3 3))))))))
def ed:Fn:=fn 1 3
  (ar (aK 1 (e2 oMod (ab 0) (Q3 26)))
  (ar (aK 2 (e2 aJ (ic (ae (Q3 1) (ae (Q3 3) (ae (Q3 5) (ae (Q3 7) (ae (Q3 9) ak)))))) (e2 oMod (e2 iy (ab 0) (Q3 26)) (Q3 5))))
  (d5 (cG 1 (bx 0) (dY (Q3 26)) J (e2 aJ (eC (.str [97,98,99,100,101,102,103,104,105,106,107,108,109,110,111,112,113,114,115,116,117,118,119,120,121,122])) (e2 oMod (e2 cu (ab 2) (e2 ig (ab 3) (ab 0))) (Q3 26)))))))
def d3:Sx :=
  (ar (aK 8 (e2 cu (ab 8) (e2 aJ (ab 1) (e2 oMod (ab 0) (ab 2)))))
  (aK 0 (e2 iy (ab 0) (ab 2))))
def cL:Sx :=
  (ar (aK 7 (eN tq (ae (ab 4) (ae (e2 oMod (ab 0) (Q3 25)) ak))))
  (ar (aK 0 (e2 iy (ab 0) (Q3 25)))
  (ar (aK 4 (e2 kZ (ab 4) (ab 7)))
  (ar (aK 8 (eC (.str [])))
  (ar (gu (bx 9) (dY (ab 7)) d3)
  (sX (nt 5 [] aN (ae (ab 8) ak))))))))
def dX:Fn:=fn 1 10
  (ar (aK 1 (aT ed (ae (ab 0) ak)))
  (ar (aK 2 (e2 aJ (ic (ae (Q3 1) (ae (Q3 2) (ae (Q3 3) (ae (Q3 4) (ae (Q3 2) (ae (Q3 3) (ae (Q3 4) (ae (Q3 26) ak))))))))) (e2 oMod (e2 iy (ab 0) (Q3 130)) (Q3 8))))
  (ar (aK 3 (e2 oMod (e2 iy (ab 0) (Q3 1040)) (Q3 5)))
  (ar (aK 0 (e2 iy (ab 0) (Q3 5200)))
  (ar (aK 4 (Q3 24))
  (ar (k8 5 (ic ak))
  (ar (gu (bx 6) (dY (ab 3)) cL)
  (fT 5))))))))
def cT:Sx :=
  (ar (aK 11 (aT aX (ae (ab 0) (ae (e2 cu (e2 cu (e2 ig (Q3 20) (ab 6)) (Q3 6)) (ab 10)) ak))))
  (KH (ik (e2 OQ (eN bU (ae (ab 9) ak)) (ab 8)) (e2 M6 (e2 oMod (ab 11) (Q3 4)) (Q3 0))) (aK 9 (e2 cu (ab 9) (e2 aJ (ab 9) (e2 kZ (eN bU (ae (ab 9) ak)) (ab 8))))) (aK 9 (e2 cu (ab 9) (e2 aJ (ab 2) (e2 oMod (e2 iy (ab 11) (Q3 4)) (ab 3)))))))
def cM:Sx :=
  (ar (aK 7 (eN tq (ae (ab 4) (ae (e2 oMod (aT aX (ae (ab 0) (ae (e2 cu (e2 ig (Q3 20) (ab 6)) (Q3 4)) ak))) (e2 cu (ab 1) (Q3 1))) ak))))
  (ar (aK 4 (e2 kZ (ab 4) (ab 7)))
  (ar (aK 8 (e2 cu (Q3 1) (e2 oMod (aT aX (ae (ab 0) (ae (e2 cu (e2 ig (Q3 20) (ab 6)) (Q3 5)) ak))) (Q3 5))))
  (ar (aK 9 (eC (.str [])))
  (ar (gu (bx 10) (dY (ab 7)) cT)
  (ar (sX (nt 5 [] aN (ae (ab 9) ak)))
  (KH (ik (e2 M6 (ab 7) (Q3 2)) (ik (e2 oEq (e2 oMod (aT aX (ae (ab 0) (ae (e2 cu (e2 ig (Q3 20) (ab 6)) (Q3 5)) ak))) (Q3 3)) (Q3 0)) (e2 OQ (ab 4) (Q3 2)))) (ar (sX (nt 5 [] aN (ae (OF (ab 9) (Y (Q3 1)) (Y (Q3 3))) ak)))
  (aK 4 (e2 kZ (ab 4) (Q3 2)))) eU)))))))
def dS:Fn:=fn 2 12
  (ar (aK 2 (aT ed (ae (aT aX (ae (ab 0) (ae (Q3 1) ak))) ak)))
  (ar (aK 3 (e2 aJ (ic (ae (Q3 1) (ae (Q3 2) (ae (Q3 3) (ae (Q3 4) (ae (Q3 2) (ae (Q3 3) (ae (Q3 9) (ae (Q3 26) ak))))))))) (e2 oMod (aT aX (ae (ab 0) (ae (Q3 2) ak))) (Q3 8))))
  (ar (aK 4 (ab 1))
  (ar (k8 5 (ic ak))
  (ar (gu (bx 6) (dY (e2 oMod (aT aX (ae (ab 0) (ae (Q3 3) ak))) (Q3 6))) cM)
  (ar (Df 5)
  (d5 (OF (ab 5) J (Y (Q3 8))))))))))
def iU:Fn:=fn 2 2
  (ar (KH (e2 oEq (e2 oMod (aT fg (ae (ab 0) (ae (Q3 0) ak))) (Q3 2)) (Q3 0)) (d5 (aT dX (ae (e2 iy (aT fg (ae (ab 0) (ae (Q3 0) ak))) (Q3 2)) ak))) eU)
  (d5 (aT dS (ae (ab 0) (ae (e2 aJ (ic (ae (Q3 24) (ae (Q3 24) (ae (Q3 24) (ae (ab 1) ak))))) (e2 oMod (aT aX (ae (ab 0) (ae (Q3 0) ak))) (Q3 4))) ak)))))
def iE:Sx :=
  (aK 5 (e2 cu (ab 5) (e2 aJ (ab 2) (ab 6))))
def ft:Fn:=fn 4 7
  (ar (aK 4 (aT d9 (ae (ab 1) (ae (ab 3) ak))))
  (ar (aK 5 (cG 2 (kA [(bx 0),(bx 1)]) (pN (ab 0)) (Y (e2 oEq (OF (ab 1) J (Y (eN bU (ae (ab 6) ak)))) (ab 6))) (lY (ae (ab 0) (ae (eN bU (ae (ab 6) ak)) ak)))))
  (ar (gu (bx 6) (fW (aT qB (ae (ab 1) (ae (ab 3) ak)))) iE)
  (d5 (ik (e2 oEq (eN kY (ae (ab 5) ak)) (e2 aJ (ab 2) (ab 3))) (e2 oEq (eN ng (ae (ab 5) ak)) (eN bU (ae (ab 5) ak))))))))
def gK:Sx :=
  (ar (aK 3 (e2 cu (aT mS (ae (ab 0) (ae (ab 5) ak))) (ab 3)))
  (ar (KH (e2 M6 (eN bU (ae (cG 1 (bx 0) (fW (ab 4)) (Y (e2 iR (ab 0) (e2 aJ (ab 2) (ab 6)))) (ab 0)) ak)) (Q3 0)) (d5 (eC (.bl R))) eU)
  (ar (KH (ik (e2 NX (ab 5) (ab 2)) (e2 oLe (eN bU (ae (e2 aJ (ab 1) (ab 5)) ak)) (eN bU (ae (ab 4) ak)))) (d5 (eC (.bl R))) eU)
  (aK 4 (e2 aJ (ab 1) (ab 5))))))
def gQ:Fn:=fn 3 7
  (ar (aK 3 (ic ak))
  (ar (aK 4 (ic ak))
  (ar (gu (bx 5) (fW (aT jK (ae (ab 0) (ae (ab 2) ak)))) gK)
  (ar (aK 6 (aT d9 (ae (ab 0) (ae (ab 2) ak))))
  (d5 (e2 oEq (ab 3) (cG 1 (bx 0) (dY (e2 cu (eN bU (ae (ab 6) ak)) (Q3 1))) J (OF (ab 7) (Y (e2 kZ (eN bU (ae (ab 7) ak)) (ab 0))) J))))))))
def sP:Sx :=
  (KH (RE (ny (aT ft (ae (ab 1) (ae (ab 2) (ae (ab 3) (ae (ab 4) ak)))))) (ny (aT gQ (ae (ab 2) (ae (ab 3) (ae (ab 4) ak)))))) (d5 (eC (.bl R))) eU)
def Ay:Fn:=fn 1 5
  (ar (aK 1 (aT iU (ae (ab 0) (ae (Q3 30) ak))))
  (ar (aK 2 (fQ 1 cf (eNew 1 br (ae (eN nI (ae (ab 1) ak)) ak)) ak))
  (ar (aK 3 (aT cj (ae (ab 1) (ae (ab 2) ak))))
  (ar (KH (e2 NX (aT oF (ae (ab 1) (ae (ab 2) ak))) (cG 1 (bx 0) (fW (ab 3)) J (eN bU (ae (ab 0) ak)))) (d5 (eC (.bl R))) eU)
  (ar (KH (e2 NX (aT oZ (ae (ab 1) (ae (ab 2) ak))) (cG 1 (bx 0) (fW (ab 3)) J (eN vS (ae (ab 0) ak)))) (d5 (eC (.bl R))) eU)
  (ar (gu (bx 4) (dY (eN bU (ae (ab 2) ak))) sP)
  (d5 (e2 oEq (eN bU (ae (ab 3) ak)) (eN bU (ae (ab 2) ak))))))))))
end
end T23
end
section
namespace VS
def e2v{f:Val->Val->Uq}{a b:Ex}{U:Env}{x y z:Val}(g:a U=Y x)(e:b U=Y y)(d:f x y=Y z):e2 f a b U=Y z:=by
 show (a U).bind _=_;rw[g,Zr,e];exact d
def xv{a:Ex}{r:J8}{x:Val}{b:Ur}(e:a U=Y x)(d:r U=Y b):ae a r U=Y (x :: b):=by
 show (a U).bind _=_;rw[e,Zr,d];rfl
def oj{m:Md}(h:c U=Y (m,.bl M)):KH c a b U=a U:=by
 show (c U).bind _=_;rw[h];rfl
def lL{m:Md}(h:c U=Y (m,.bl R)):KH c a b U=b U:=by
 show (c U).bind _=_;rw[h];rfl
def gM(h:a U=Y b)(d:f b=Y v):eN f a U=Y v:=by
 show (a U).bind f=_;rw[h,Zr,d]
def dc{e:Ex}{U:Env}{t:T}(h:e U=Y (.fr,t)):d5 e U=Y (.rt (.fr,t) U):=by
 show (e U).bind _=_;rw[h];rfl
def ki(h:a U=Y (.rt v d)):ar a b U=Y (.rt v d):=by
 show (a U).bind _=_;rw[h];rfl
def av{a b:Sx}{U U1:Env}(h:a U=Y (.nx U1)):ar a b U=b U1:=by
 show (a U).bind _=_;rw[h];rfl
def sq(h:a U=Y (.nx d))(q:b d=r):ar a b U=r:=(av h).trans q
def ift(h:c U=Y (m,.bl M))(q:a U=r):KH c a b U=r:=(oj h).trans q
def vb{m:Md}{r:Option Out}(h:c U=Y (m,.bl R))(q:b U=r):KH c a b U=r:=(lL h).trans q
def d8{a:Up}{U:Env}(f:a.length=d)(h:b (a.map (λt=>Y (.pu t))++List.replicate (e-d) J)=Y (.rt v U)):fn d e b a=Y v:=by
 unfold fn;rw[Zs f,h];rfl
def Ei{a:Up}{U:Env}(f:a.length=d)(h:b (a.map (λt=>Y (.pu t))++List.replicate (e-d) J)=Y (.nx U)):fn d e b a=Y (.fr,.non):=by
 unfold fn;rw[Zs f,h];rfl
def qF(f:a U=Y (m,.bl x))(e:x=M->b U=Y v)(d:x=R->v=(.fr,.bl R)):ik a b U=Y v:=by
 show (a U).bind _=_;rw[f,Zr];cases x with
 |true=>exact e L
 |false=>exact congrArg Y (d L).symm
def zF{m:Md}{x:Bool}(f:a U=Y (m,.bl x))(e:x=R->b U=Y v)(d:x=M->v=(.fr,.bl M)):RE a b U=Y v:=by
 show (a U).bind _=_;rw[f,Zr];cases x with
 |false=>exact e L
 |true=>exact congrArg Y (d L).symm
def Jn{n:Md}{x y:Bool}(f:a U=Y (m,.bl x))(d:b U=Y (.fr,.bl y)):ik a b U=Y (.fr,.bl (x&&y)):=qF f (λe=>by rw[e];exact d) (λe=>by rw[e];rfl)
def or2{n:Md}{x:Bool}(f:a U=Y (m,.bl x))(d:b U=Y (.fr,.bl y)):RE a b U=Y (.fr,.bl (x||y)):=zF f (λe=>by rw[e];exact d) (λe=>by rw[e];rfl)
def lP{m:Md}{b:Bool}(h:a U=Y (m,.bl b)):ny a U=Y (.fr,.bl (!b)):=by
 show (a U).bind _=_;rw[h];rfl
def wx{x y z:Val}(j:a U=Y x)(i:b U=Y y)(h:f x y=Y (.fr,.bl M))(e:c U=Y z)(d:g y z=Y v):oP f g a b c U=Y v:=by
 show (a U).bind _=_;rw[j,Zr,i,Zr,h,Zr];rw[e];exact d
def Es{n:Nat}{i:Int}(b:0<=i)(a:i<n):Lf n i=Y i.toNat:=by rw[Lf,Zs b,Zs a]
def xC(a:i<n):Lf n (i:Int)=Y i:=by
 rw[Lf,Zs (W9 i),Zs (Int.ofNat_lt.mpr a)];rfl
def wC(l:Uu)(i:Int)(b:0<=i)(a:i<l.length):aJ (m,.scr l) (n,.int i)=Y (.fr,.int (l.getD i.toNat 0)):=by
 show (Lf l.length i).bind _=_;rw[Es b a,Zr,Zq,Zp (by lia)];rfl
def zp{m n:Md}(t:Tx)(i:Int)(b:0<=i)(a:i<t.length):aJ (m,.str t) (n,.int i)=Y (.fr,.str [t.getD i.toNat 0]):=by
 show (Lf t.length i).bind _=_;rw[Es b a,Zr,Zq,Zp (by lia)];rfl
def i9(e:KC 60 a=M)(d:KC 60 b=M)(h:eqT a b=r):oEq (m,a) (n,b)=Y (.fr,.bl r):=by
 show (if KC 60 a/\KC 60 b then Y (Md.fr,T.bl (eqT a b)) else J)=_;rw[Zs ⟨e,d⟩,h]
def wc{m n:Md}(e:KC 60 a=M)(d:KC 60 b=M)(h:eqT a b=r):NX (m,a) (n,b)=Y (.fr,.bl (!r)):=by
 show (if KC 60 a/\KC 60 b then Y (Md.fr,T.bl (!eqT a b)) else J)=_;rw[Zs ⟨e,d⟩,h]
def lE{i:Nat}{e:Ex}{U:Env}{v:T}(d:U[i]?=Y (Y (.ow (.lst l))))(b:e U=Y (.fr,v))(a:l.length<16777216):sX (nt i [] aN (ae e ak)) U=Y (.nx (U.set i (Y (.ow (.lst (l++[v])))))):=by
 unfold sX nt;rw[d];show ((Y ([])).bind _ |>.map _)=_;rw[Zr,(xv b L),Zr];show ((aN (.lst l) [(.fr,v)]).map _ |>.map _)=_;rw[d7 a];rfl
def Fd{m:Md}(e:a U=Y (m,.str x))(d:b U=Y (n,.str y))(h:x.length+y.length<=16777216):e2 cu a b U=Y (.fr,.str (x++y)):=e2v e d (kI h)
end VS
end
section
namespace T23
open VS AU
noncomputable abbrev pc(t:T):Us:=Y (.pu t)
abbrev Q0(i:Int):Option Cell:=Y (.pu (.int i))
abbrev Q2(t:Tx):Option Cell:=Y (.pu (.str t))
noncomputable abbrev oc(t:T):Us:=Y (.ow t)
noncomputable def Kl(w:List (Nat×Nat)):T:=.dct 0 (w.map λp=>(T.str [p.1],T.int (p.2:Int)))
noncomputable def Ka:Option Nat->T
 |none=>.non
 |some n=>.int (n:Int)
def MP(S:St):ud:=[(1,.lst (S.lg.map λ(n:Nat)=>T.int (n:Int))),(2,.lst (S.lk.map Ka)),(3,.lst (S.wy.map Kl))]
def xt(S:St)(b:Bool):T:=.obj 1 ((0,.bl b) :: MP S)
def jV(o:Option Nat):JU (Ka o)=M:=by cases o<;>rfl
theorem ff{α:Type}(f:α->T)(h:∀a,h9 (f a)=M):∀l:List α,eJ (l.map f)=M
 |[]=>rfl
 |a :: l=>by rw[Zk,eJ,h a,ff f h l];rfl
def BI(w:List (Nat×Nat)):h9 (Kl w)=M:=by
 show ui (w.map λp=>(T.str [p.1],T.int (p.2:Int)))=M
 induction w with
 |nil=>rfl
 |cons p w a=>rw[Zk,ui,a];rfl
def kF(S:St):fE (MP S)=M:=by
 have d:h9 (.lst (S.lg.map λ(n:Nat)=>T.int (n:Int)))=M:=ff _ (λ_=>rfl) _;have b:h9 (.lst (S.lk.map Ka))=M:=ff _ (λo=>nA _ (jV o)) _;have a:h9 (.lst (S.wy.map Kl))=M:=ff _ BI _;show ((h9 _ && !(1==0&&Rg _))&&((h9 _ && !(2==0&&Rg _))&&((h9 _ && !(3==0&&Rg _))&&M)))=M;rw[d,b,a];rfl
def Hb(S:St)(b:Bool):qq 1 (xt S b)=Y (.lst (S.lg.map λ(n:Nat)=>T.int (n:Int))):=rfl
def JM(S:St)(b:Bool):qq 2 (xt S b)=Y (.lst (S.lk.map Ka)):=rfl
def JJ(S:St)(b:Bool):qq 3 (xt S b)=Y (.lst (S.wy.map Kl)):=rfl
def hU{m:Md}{t:T}(h:a U=Y (m,t))(b:qq k t=Y u):bB k a U=Y (sub m u):=by
 unfold bB;rw[h,Zr,b];rfl
def jA{α:Type}{m n:Md}(f:α->T)(l:List α)(i:Nat)(d:α)(h:i<l.length):aJ (m,.lst (l.map f)) (n,.int (i:Int))=Y (sub m (f (l.getD i d))):=by
 show (Lf (l.map f).length (i:Int)).bind _=_;rw[Zw,xC h,Zr,ZG,Zp h,Zq,Zp h];rfl
section
def uh{i:Nat}(h:a U=Y (m,xt S b))(he:e U=Y (n,.int (i:Int)))(d:i<S.lg.length):e2 aJ (bB 1 a) e U=Y (.fr,.int ((S.lg.getD i 0:Nat):Int)):=e2v (hU h (Hb S b)) he (jA _ _ i 0 d)
def xw{i:Nat}(h:a U=Y (m,xt S b))(he:e U=Y (n,.int (i:Int)))(d:i<S.lk.length):e2 aJ (bB 2 a) e U=Y (.fr,Ka (S.lk.getD i J)):=(e2v (hU h (JM S b)) he (jA _ _ i J d)).trans (by
 show Y (up _ _)=_;unfold up;rw[jV];rfl)
def nM{i:Nat}(h:a U=Y (m,xt S b))(he:e U=Y (n,.int (i:Int)))(d:i<S.wy.length):e2 aJ (bB 3 a) e U=Y (m,Kl (S.wy.getD i [])):=e2v (hU h (JJ S b)) he (jA _ _ i [] d)
def FU(h:a U=Y (m,xt S b)):eN bU (ae (bB 1 a) ak) U=Y (.fr,.int (S.lg.length:Nat)):=gM (xv (hU h (Hb S b)) L) (by
 show Y (Md.fr,T.int (((S.lg.map λ(n:Nat)=>T.int (n:Int)).length:Nat):Int))=_;rw[Zw])
end
def ES(a c:Nat):eqT (.str [a]) (.str [c])=(a==c):=by
 by_cases h:a=c
 ·simp[h]
 ·simp[h]
def rN(w:List (Nat×Nat))(c:Nat):dR (w.map λp=>(T.str [p.1],T.int (p.2:Int))) (.str [c])=(gW w c).map λ(n:Nat)=>T.int (n:Int):=by
 unfold dR gW;rw[List.find?_map];have:((λp:T×T=>eqT p.1 (.str [c])) ∘ λp:Nat×Nat=>(T.str [p.1],T.int (p.2:Int)))=λp:Nat×Nat=>p.1==c:=by
  funext p;exact ES p.1 c
 rw[this];cases w.find? λp=>p.1==c with
 |none=>rfl
 |some p=>rfl
def Hk(w:List (Nat×Nat))(c m:Nat):dput (w.map λp=>(T.str [p.1],T.int (p.2:Int))) (.str [c]) (.int (m:Int))=(pW w c m).map λp=>(T.str [p.1],T.int (p.2:Int)):=by
 have a:(w.map λp=>(T.str [p.1],T.int (p.2:Int))).any (λp=>eqT p.1 (.str [c]))=w.any λp=>p.1==c:=by
  rw[List.any_map];congr 1;funext p;exact ES p.1 c
 unfold dput pW;rw[a];split
 ·rw[La,La];apply Y8;intro p _;simp only[Function.comp,ES];split<;>rfl
 ·rw[Yy];rfl
section
def Jw(h:a U=Y (m,Kl w))(he:e U=Y (n,.str [c])):e2 nR e a U=Y (.fr,.bl (gW w c).isSome):=e2v he h (by
 show (if M=M then Y (Md.fr,T.bl (dR _ _).isSome) else J)=_;rw[Zs L,rN,Xd])
def Eb(h:a U=Y (m,Kl w))(he:e U=Y (n,.str [c])):e2 dB e a U=Y (.fr,.bl (!(gW w c).isSome)):=e2v he h (by
 show (match (if M=M then Y (Md.fr,T.bl (dR (w.map λp=>(T.str [p.1],T.int (p.2:Int))) (.str [c])).isSome) else J) with | some (_,.bl b)=>some (Md.fr,T.bl (!b)) | _=>none)=_;rw[Zs L,rN,Xd])
def xx(h:a U=Y (m,Kl w))(he:e U=Y (n,.str [c]))(d:gW w c=Y v):e2 LU a e U=Y (.fr,.int (v:Int)):=e2v h he (by
 show (if M=M then (dR _ _).map (sub m) else J)=_;rw[Zs L,rN,d];rfl)
def IK(h:a U=Y (m,Kl w))(he:e U=Y (n,.str [c])):e2 yA a e U=Y (.fr,Ka (gW w c)):=e2v h he (by
 show (if M=M then Y (match dR (w.map λp=>(T.str [p.1],T.int (p.2:Int))) (.str [c]) with | some t=>sub m t | none=>(.fr,.non)) else none)=_;rw[Zs L,rN];cases gW w c with
 |none=>rfl
 |some v=>rfl)
def AD{S:St}{v:Nat}(d:i<S.wy.length)(he:e (oc (xt S b) :: r)=Y (n,.int (i:Int)))(l:ec (oc (xt S b) :: r)=Y (m,.str [c]))(g:ev (oc (xt S b) :: r)=Y (k,.int (v:Int)))(f:(S.wy.getD i []).length<16777216) :
  gg 0 [.fld 3,.ix e] ec ev (oc (xt S b) :: r)=Y (.nx (oc (xt ⟨S.lg,S.lk,S.wy.set i (pW (S.wy.getD i []) c v)⟩ b) :: r)):=by
 unfold gg;rw[g,Zr];show ((keys [.fld 3,.ix e] (oc (xt S b) :: r)).bind _)=_;have j:keys [.fld 3,.ix e] (oc (xt S b) :: r)=Y [.fld 3,.at (.int (i:Int))]:=by
  show ((e _).bind _).map _=_;rw[he];rfl
 rw[j,Zr,l,Zr];have h:pm (ly (m,.str [c]) (k,.int (v:Int))) [.fld 3,.at (.int (i:Int))] (xt S b)=Y (xt ⟨S.lg,S.lk,S.wy.set i (pW (S.wy.getD i []) c v)⟩ b,()):=by
  show ((pm (ly (m,.str [c]) (k,.int (v:Int))) [.at (.int (i:Int))] (.lst (S.wy.map Kl))).map _)=_;have:pm (ly (m,.str [c]) (k,.int (v:Int))) [.at (.int (i:Int))] (.lst (S.wy.map Kl))=Y (.lst ((S.wy.set i (pW (S.wy.getD i []) c v)).map Kl),()):=by
   show ((Lf (S.wy.map Kl).length (i:Int)).bind _)=_;rw[Zw,xC d,Zr,ZG,Zp d];have e1:S.wy.getD i []=S.wy[i]:=by rw[Zq,Zp d];rfl
   rw[e1]at f ⊢;show ((if M=M/\M=M/\(S.wy[i].map _).length<gL then Y (T.dct 0 (dput _ _ _),()) else J).map _)=_;rw[Zs ⟨rfl,rfl,by rw[Zw];exact f⟩,Hk,WA];rfl
  rw[this];rfl
 rw[h];rfl
def AY{S:St}{v:Nat}{r:List (Us)}(h:i<S.lk.length)(he:e (oc (xt S b) :: r)=Y (n,.int (i:Int)))(d:ev (oc (xt S b) :: r)=Y (.fr,.int (v:Int))) :
  gg 0 [.fld 2] e ev (oc (xt S b) :: r)=Y (.nx (oc (xt ⟨S.lg,S.lk.set i (Y v),S.wy⟩ b) :: r)):=by
 unfold gg;rw[d,Zr];show ((keys [.fld 2] (oc (xt S b) :: r)).bind _)=_;have g:keys [.fld 2] (oc (xt S b) :: r)=Y [.fld 2]:=rfl;rw[g,Zr,he,Zr];have f:pm (ly (n,.int (i:Int)) (.fr,.int (v:Int))) [.fld 2] (xt S b)=Y (xt ⟨S.lg,S.lk.set i (Y v),S.wy⟩ b,()):=by
  show ((ly (n,.int (i:Int)) (.fr,.int (v:Int)) (.lst (S.lk.map Ka))).map _)=_;have:ly (n,.int (i:Int)) (.fr,.int (v:Int)) (.lst (S.lk.map Ka))=Y (.lst ((S.lk.set i (Y v)).map Ka),()):=by
   show ((Lf (S.lk.map Ka).length (i:Int)).map _)=_;rw[Zw,xC h,WA];rfl
  rw[this];rfl
 rw[f];rfl
end
def kh{n:Nat}{b:Env}{m:Md}(e:c U=Y (m,.bl M))(d:a U=Y (.nx b)):dG c a (n+1) U=dG c a n b:=by
 show (c U).bind _=_;rw[e];show (if M=M then (a U).bind _ else Y (.nx U))=_;rw[Zs L,d];rfl
def eu(b:c U=Y (m,.bl R)):dG c a (n+1) U=Y (.nx U):=by
 show (c U).bind _=_;rw[b];rfl
def jD{mv:List Bool}{as:J8}{b:Bool}{r:List (Us)}(i:as (oc (xt S b) :: r)=Y a)(j:argsOk mv a=M)(l:eJ (trees a)=M)(h:g (MP S) (trees a)=Y (MP d,v))(f:JU v=M) :
  bQ 0 [] 0 mv g as (oc (xt S b) :: r)=Y ((.fr,v),oc (xt d b) :: r):=by
 show ((Y ([])).bind λe=>(as (oc (xt S b) :: r)).bind λa=>(pm (mq 0 mv g a) e (xt S b)).map λz=>(z.2,(oc (xt S b) :: r).set 0 (oc z.1)))=_;rw[Zr,i,Zr];show ((if 1=0+1/\fE (MP S)=M/\argsOk mv a=M/\eJ (trees a)=M then (g (MP S) (trees a)).bind λz=>if fE z.1=M/\JU z.2=M then Y (T.obj 1 ((0,.bl b) :: z.1),(Md.fr,z.2)) else J else J).map _)=_;rw[Zs ⟨rfl,kF S,j,l⟩,h,Zr,Zs ⟨kF d,f⟩];rfl
def Ft{e:Ex}{S:St}{b:Bool}{r:List (Us)}{v:Nat}(h:e (oc (xt S b) :: r)=Y (.fr,.int (v:Int)))(f:S.lg.length<16777216):sX (iX 0 [.fld 1] aN (ae e ak)) (oc (xt S b) :: r)=Y (.nx (oc (xt ⟨S.lg++[v],S.lk,S.wy⟩ b) :: r)):=by
 show (((Y [Ky.fld 1]).bind λd=>(ae e ak (oc (xt S b) :: r)).bind λa=>(pm (λx=>aN x a) d (xt S b)).map _).map _)=_;rw[Zr,xv h L,Zr];show (((aN (.lst (S.lg.map λ(n:Nat)=>T.int (n:Int))) [(.fr,.int (v:Int))]).map _).map _ |>.map _)=_;rw[d7 (by rw[Zw];exact f),show (S.lg.map λ(n:Nat)=>T.int (n:Int))++[.int (v:Int)]=(S.lg++[v]).map λ(n:Nat)=>T.int (n:Int) from by rw[Yy];rfl];rfl
def EU{e:Ex}{S:St}{b:Bool}{r:List (Us)}{v:Option Nat}(h:e (oc (xt S b) :: r)=Y (.fr,Ka v))(f:S.lk.length<16777216):sX (iX 0 [.fld 2] aN (ae e ak)) (oc (xt S b) :: r)=Y (.nx (oc (xt ⟨S.lg,S.lk++[v],S.wy⟩ b) :: r)):=by
 show (((Y [Ky.fld 2]).bind λd=>(ae e ak (oc (xt S b) :: r)).bind λa=>(pm (λx=>aN x a) d (xt S b)).map _).map _)=_;rw[Zr,xv h L,Zr];show (((aN (.lst (S.lk.map Ka)) [(.fr,Ka v)]).map _).map _ |>.map _)=_;rw[d7 (by rw[Zw];exact f),show (S.lk.map Ka)++[Ka v]=(S.lk++[v]).map Ka from by rw[Yy];rfl];rfl
def Fc(o:Option Nat):up .pu (Ka o)=(.fr,Ka o):=by
 unfold up;rw[jV];rfl
def ze(S:St)(l:Nat)(o:Option Nat)(w:List (Nat×Nat))(f:S.lg.length<16777216)(d:S.lk.length<16777216)(a:S.wy.length<16777216):bj (MP S) [.int (l:Int),Ka o,Kl w]=Y (MP ⟨S.lg++[l],S.lk++[o],S.wy++[w]⟩,.int (S.lg.length:Int)):=by
 have g:=dc (e:=e2 kZ (eN bU (ae (bB 1 (ab 0)) ak)) (Q3 1)) (U:=[oc (xt ⟨S.lg++[l],S.lk++[o],S.wy++[w]⟩ M),Q0 (l:Int),pc (Ka o),J]) (e2v (FU L) L (by
  show Y (Md.fr,T.int ((((S.lg++[l]).length:Nat):Int)-1))=_;rw[Zx,ZR,show (((S.lg.length+1:Nat)):Int)-1=(S.lg.length:Int) by lia]))
 unfold bj LH;rw[Zs ⟨rfl,rfl⟩];have body:=(av (b:=ar (sX (iX 0 [.fld 2] aN (ae (ab 2) ak))) (ar (qw 0 [.fld 3] 3) (d5 (e2 kZ (eN bU (ae (bB 1 (ab 0)) ak)) (Q3 1))))) (Ft (S:=S) (b:=M) (r:=[Q0 (l:Int),pc (Ka o),oc (Kl w)]) (e:=ab 1) (v:=l) L f)).trans ((av (EU (S:=⟨S.lg++[l],S.lk,S.wy⟩) (b:=M) (r:=[Q0 (l:Int),pc (Ka o),oc (Kl w)]) (e:=ab 2) (v:=o) (congrArg Y (Fc o)) d)).trans ((av (by
  show ((aN (.lst (S.wy.map Kl)) [(.fr,Kl w)]).map _ |>.map _)=_;rw[d7 (by rw[Zw];exact a),show (S.wy.map Kl)++[Kl w]=(S.wy++[w]).map Kl from by rw[Yy];rfl];rfl)).trans g))
 exact congrArg (λz:Option Out=>z.bind _) body
def EJ(x:97<=c/\c<=122):∀(k:Nat)(S b:St)(o:Option Nat),WF S->v<S.lg.length->(∀n,o=Y n->n<S.lg.length)->PN c a v k S o=Y b->WF b/\b.lg=S.lg/\∃d,∀N,k<N->∀z:Us,
  dG (ik (fR (ab 1)) (e2 oEq (e2 yA (e2 aJ (bB 3 (ab 0)) (ab 1)) (ab 2)) (ab 3))) df N [oc (xt S true),pc (Ka o),Q2 ([c]),Q0 (a:Int),z,Q0 (v:Int)] =
   Y (.nx [oc (xt b true),pc (Ka d),Q2 ([c]),Q0 (a:Int),z,Q0 (v:Int)]):=by
 intro k
 induction k with
 |zero =>
  intro S b o W f i e;cases o with
  |none =>
   cases (e);refine⟨W,rfl,J,λN hN z=>?_⟩;obtain⟨N,rfl⟩:∃M,N=M+1:=⟨N-1,by lia⟩
   exact eu L
  |some n=>cases e
 |succ k u =>
  intro S b o W f i e;cases o with
  |none =>
   cases (e);refine⟨W,rfl,J,λN hN z=>?_⟩;obtain⟨N,rfl⟩:∃M,N=M+1:=⟨N-1,by lia⟩
   exact eu L
  |some n =>
   have j:=i n L;have l:n<S.wy.length:=by rw[W.wy];exact j
   have cond:∀z:Us,ik (fR (ab 1)) (e2 oEq (e2 yA (e2 aJ (bB 3 (ab 0)) (ab 1)) (ab 2)) (ab 3)) [oc (xt S true),Q0 (n:Int),Q2 ([c]),Q0 (a:Int),z,Q0 (v:Int)]=Y (.fr,.bl (decide (gW (S.wy.getD n []) c=Y a))):=λz=>by
    refine qF L (λ_=>?_) (λh=>by cases h);refine e2v (IK (nM L L l) L) L ?_;cases hg:gW (S.wy.getD n []) c with
    |none=>rw[ZZ (by simp)];exact i9 L L L
    |some q =>
     refine(i9 L L (show eqT (.int (q:Int)) (.int (a:Int))=decide (Y q=Y a) from ?_));by_cases h:q=a
     ·subst h;simp
     ·rw[ZZ (λz=>h (Zl z))];exact beq_eq_false_iff_ne.mpr (by lia)
   unfold PN at e;split at e
   ·rename_i g;obtain⟨s,r,d,p⟩:=u _ b (S.lk.getD n J) (W.way (n:=n) (c:=c) (v:=v) f x) f (λm w=>W.up n m w) e;refine⟨s,r,d,λN hN z=>?_⟩;obtain⟨N,rfl⟩:∃M,N=M+1:=⟨N-1,by lia⟩
    refine(kh ((cond z).trans (by rw[Lu g])) ?_).trans (p N (by exact WV hN) z);refine(av (AD l L L L (W.small n))).trans ?_;exact aC (xw (S:=⟨S.lg,S.lk,S.wy.set n (pW (S.wy.getD n []) c v)⟩) L L (by rw[W.lk];exact j)) (by decide) (by decide:1<6)
   ·rename_i g;cases e;refine⟨W,rfl,Y n,λN hN z=>?_⟩;obtain⟨N,rfl⟩:∃M,N=M+1:=⟨N-1,by lia⟩
    exact eu ((cond z).trans (by rw[ZZ g]))
def G2(w:97<=c/\c<=122):∀(k:Nat)(S a:St)(o b:Option Nat),WF S->v<S.lg.length->(∀n,o=Y n->n<S.lg.length)->up1 c v k S o=Y (a,b)->WF a/\a.lg=S.lg/\(∀n,b=Y n->n<S.lg.length)/\∀N,k<N->∀z:Us,
  dG (ik (fR (ab 4)) (e2 dB (ab 2) (e2 aJ (bB 3 (ab 0)) (ab 4)))) cR N [oc (xt S true),z,Q2 ([c]),Q0 (v:Int),pc (Ka o)] =
   Y (.nx [oc (xt a true),z,Q2 ([c]),Q0 (v:Int),pc (Ka b)]):=by
 intro k
 induction k with
 |zero =>
  intro S a o b W d g e;cases o with
  |none =>
   cases (e);refine⟨W,rfl,(λn h=>nomatch h),λN hN z=>?_⟩;obtain⟨N,rfl⟩:∃M,N=M+1:=⟨N-1,by lia⟩
   exact eu L
  |some n=>cases e
 |succ k s =>
  intro S a o b W d g e;cases o with
  |none =>
   cases (e);refine⟨W,rfl,(λn h=>nomatch h),λN hN z=>?_⟩;obtain⟨N,rfl⟩:∃M,N=M+1:=⟨N-1,by lia⟩
   exact eu L
  |some n =>
   have i:=g n L;have j:n<S.wy.length:=by rw[W.wy];exact i
   have cond:∀z:Us,ik (fR (ab 4)) (e2 dB (ab 2) (e2 aJ (bB 3 (ab 0)) (ab 4))) [oc (xt S true),z,Q2 ([c]),Q0 (v:Int),Q0 (n:Int)]=Y (.fr,.bl (!(gW (S.wy.getD n []) c).isSome)):=λz =>
    qF L (λ_=>Eb (nM L L j) L) (λh=>by cases h)
   unfold up1 at e;split at e
   ·rename_i f;cases e;refine⟨W,rfl,g,λN hN z=>?_⟩;obtain⟨N,rfl⟩:∃M,N=M+1:=⟨N-1,by lia⟩
    exact eu ((cond z).trans (by rw[f];rfl))
   ·rename_i f;obtain⟨r,q,l,p⟩:=s _ a (S.lk.getD n J) b (W.way (n:=n) (c:=c) (v:=v) d w) d (λm u=>W.up n m u) e;refine⟨r,q,l,λN hN z=>?_⟩;obtain⟨N,rfl⟩:∃M,N=M+1:=⟨N-1,by lia⟩
    have x:(gW (S.wy.getD n []) c).isSome=R:=by simpa using f
    refine(kh ((cond z).trans (by rw[x];rfl)) ?_).trans (p N (by exact WV hN) z);refine(av (AD j L L L (W.small n))).trans ?_;exact aC (xw (S:=⟨S.lg,S.lk,S.wy.set n (pW (S.wy.getD n []) c v)⟩) L L (by rw[W.lk];exact i)) (by decide) (by decide:4<5)
def GP(a b:Nat):oEq (m,.int (a:Int)) (n,.int (b:Int))=Y (.fr,.bl (decide (a=b))):=i9 L L (by
 by_cases h:a=b
 ·subst h;simp
 ·rw[ZZ h];exact beq_eq_false_iff_ne.mpr (by lia))
def yM{r:Nat}(W:WF S)(w:Sm S)(j:n<S.lg.length)(x:97<=c/\c<=122)(e:P5 S n c=Y (a,r)):WF a/\r<a.lg.length/\S.lg.length<=a.lg.length/\a.lg.length<=S.lg.length+1/\aE (MP S) [.int (n:Int),.str [c]]=Y (MP a,.int (r:Int)):=by
 obtain⟨old,i,e⟩:=Zz.mp e;have hold:=W.on n c old i;have xb:old<S.lk.length:=by rw[W.lk];exact hold
 have G:S.lg.length<=100001:=w;unfold aE LH;rw[Zs ⟨rfl,rfl⟩];have s1:=aC (e:=e2 LU (e2 aJ (bB 3 (ab 0)) (ab 1)) (ab 2)) (U:=[oc (xt S M),Q0 (n:Int),Q2 ([c]),J,J,J]) (xx (nM L L (by rw[W.wy];exact j)) L i) (by decide) (by decide:3<6);have h:=aC (e:=e2 cu (e2 aJ (bB 1 (ab 0)) (ab 1)) (Q3 1)) (U:=[oc (xt S M),Q0 (n:Int),Q2 ([c]),Q0 (old:Int),J,J]) (e2v (uh L L j) L L) (by decide) (by decide:4<6);have cd:e2 oEq (e2 aJ (bB 1 (ab 0)) (ab 3)) (ab 4) [oc (xt S M),Q0 (n:Int),Q2 ([c]),Q0 (old:Int),Q0 ((S.lg.getD n 0+1:Nat):Int),J]=Y (.fr,.bl (decide (S.lg.getD old 0=S.lg.getD n 0+1))):=e2v (uh L L hold) L (GP _ _);split at e
 ·rename_i g;obtain⟨rfl,rfl⟩:=X6 (Zl e);rw[Lu g]at cd;refine⟨W,hold,Zn _,WZ _,?_⟩;have body:∀b:Sx,ar (aK 3 (e2 LU (e2 aJ (bB 3 (ab 0)) (ab 1)) (ab 2))) (ar (aK 4 (e2 cu (e2 aJ (bB 1 (ab 0)) (ab 1)) (Q3 1))) (ar (KH (e2 oEq (e2 aJ (bB 1 (ab 0)) (ab 3)) (ab 4)) (fT 3) eU) b)) [oc (xt S M),Q0 (n:Int),Q2 ([c]),J,J,J]=Y (.rt (.fr,.int (old:Int)) [oc (xt S M),Q0 (n:Int),Q2 ([c]),Q0 (old:Int),Q0 ((S.lg.getD n 0+1:Nat):Int),J]):=λb =>
   (av s1).trans ((av h).trans (ki ((oj cd).trans L)))
  exact congrArg (λz:Option Out=>z.bind _) (body _)
 ·rename_i g;rw[ZZ g]at cd;obtain⟨D,E,e3⟩:=Zt.mp e;obtain⟨rfl,rfl⟩:=X6 e3;have wn:=W.SD old;have C:=W.more (l:=S.lg.getD n 0+1) (λm f=>W.up old m f) (λd m f=>W.on old d m f) wn.1 wn.2;have hlen:(S.lg++[S.lg.getD n 0+1]).length=S.lg.length+1:=by rw[Zx];rfl
  have B:=C.link (n:=old) (v:=S.lg.length) (by lia);obtain⟨s,q,F,o⟩:=EJ x 1000 _ D (Y n) B (by lia) (λm f=>by cases f;lia) E;refine⟨s,by lia,by lia,by exact Wt (by rw[q];exact hlen),?_⟩;have args:ae (ab 4) (ae (e2 aJ (bB 2 (ab 0)) (ab 3)) (ae (eN oG (ae (e2 aJ (bB 3 (ab 0)) (ab 3)) ak)) ak)) [oc (xt S M),Q0 (n:Int),Q2 ([c]),Q0 (old:Int),Q0 ((S.lg.getD n 0+1:Nat):Int),J]=Y [(.fr,.int ((S.lg.getD n 0+1:Nat):Int)),(.fr,Ka (S.lk.getD old J)),(.fr,Kl (S.wy.getD old []))] :=
   xv L (xv (xw L L xb) (xv (gM (xv (nM L L (by rw[W.wy];exact hold)) L) (by
    show (if hJ (((S.wy.getD old []).map λp=>(T.str [p.1],T.int (p.2:Int))).map (·.2))=M then Y (Md.fr,Kl (S.wy.getD old [])) else J)=_;rw[Zs (by rw[La];exact jb _ (λ_=>rfl) _)])) L))
  have A:argsOk [R,R,M] [(.fr,.int ((S.lg.getD n 0+1:Nat):Int)),(.fr,Ka (S.lk.getD old J)),(.fr,Kl (S.wy.getD old []))]=M:=by
   show (M&&(JU (Ka (S.lk.getD old J))&&M))=M;rw[jV];rfl
  have y:=jD args A (by
   show (M&&(h9 (Ka (S.lk.getD old J))&&(h9 (Kl (S.wy.getD old []))&&M)))=M;rw[nA _ (jV _),BI];rfl) (ze S (S.lg.getD n 0+1) (S.lk.getD old J) (S.wy.getD old []) (by lia) (by rw[W.lk];lia) (by rw[W.wy];lia)) L
  have u:=AY (S:=⟨S.lg++[S.lg.getD n 0+1],S.lk++[S.lk.getD old J],S.wy++[S.wy.getD old []]⟩) (b:=M) (r:=[Q0 (n:Int),Q2 ([c]),Q0 (old:Int),Q0 ((S.lg.getD n 0+1:Nat):Int),Q0 (S.lg.length:Int)]) (e:=ab 3) (ev:=ab 5) (by rw[Zx];lia) L L;exact congrArg (λz:Option Out=>z.bind _) ((av s1).trans ((av h).trans ((av ((lL cd).trans L)).trans ((av (by
   unfold mD;rw[y];rfl)).trans ((av u).trans ((av (o vE (by decide) (Q0 ((S.lg.getD n 0+1:Nat):Int)))).trans L))))))
def HX{r:Nat}(W:WF S)(Q:S.lg.length<=100000)(y:h<S.lg.length)(A:97<=c/\c<=122)(e:hb S h c=Y (a,r)):WF a/\r<a.lg.length/\S.lg.length<=a.lg.length/\a.lg.length<=S.lg.length+2/\bO (MP S) [.int (h:Int),.str [c]]=Y (MP a,.int (r:Int)):=by
 unfold hb at e;unfold bO LH;rw[Zs ⟨rfl,rfl⟩];have cd:e2 nR (ab 2) (e2 aJ (bB 3 (ab 0)) (ab 1)) [oc (xt S M),Q0 (h:Int),Q2 ([c]),J,J]=Y (.fr,.bl (gW (S.wy.getD h []) c).isSome):=Jw (nM L L (by rw[W.wy];exact y)) L;split at e
 ·rename_i x;rw[x]at cd;obtain⟨j,u,s,q,E⟩:=yM W (Vx Q) y A e;refine⟨j,u,s,by exact Vx q,?_⟩;have i:=jD (mv:=[R,R]) (as:=ae (ab 1) (ae (ab 2) ak)) (b:=M) (r:=[Q0 (h:Int),Q2 ([c]),J,J]) L L L E L;have s1:sC (bQ 0 [] 0 [R,R] aE (ae (ab 1) (ae (ab 2) ak))) [oc (xt S M),Q0 (h:Int),Q2 ([c]),J,J]=Y (.rt (.fr,.int (r:Int)) [oc (xt a M),Q0 (h:Int),Q2 ([c]),J,J]):=by
   unfold sC;rw[i];rfl
  exact congrArg (λz:Option Out=>z.bind _) (ki ((oj cd).trans s1))
 ·rename_i x;have U:(gW (S.wy.getD h []) c).isSome=R:=by simpa using x
  rw[U]at cd;obtain⟨⟨f,o⟩,e1,D⟩:=Zz.mp e;have hlen:(S.lg++[S.lg.getD h 0+1]).length=S.lg.length+1:=by rw[Zx];rfl
  obtain⟨j,u,s,q⟩:=G2 A 1000 _ f (Y h) o (W.more (l:=S.lg.getD h 0+1) (o:=Y 0) (w:=[]) (λm g=>by cases g;exact W.pos) (λd m g=>by cases g) Y6 (λp O=>nomatch O)) (by lia) (λm g=>by cases g;lia) e1;have args:ae (e2 cu (e2 aJ (bB 1 (ab 0)) (ab 1)) (Q3 1)) (ae (Q3 0) (ae (sS 0 []) ak)) [oc (xt S M),Q0 (h:Int),Q2 ([c]),J,J]=Y [(.fr,.int ((S.lg.getD h 0+1:Nat):Int)),(.fr,.int 0),(.fr,.dct 0 [])] :=
   xv (e2v (uh L L y) L L) (xv L (xv L L))
  have i:=jD (mv:=[R,R,M]) args L L (ze S (S.lg.getD h 0+1) (Y 0) [] (by lia) (by rw[W.lk];lia) (by rw[W.wy];lia)) L;have hd:∀b:Sx,ar (KH (e2 nR (ab 2) (e2 aJ (bB 3 (ab 0)) (ab 1))) (sC (bQ 0 [] 0 [R,R] aE (ae (ab 1) (ae (ab 2) ak)))) eU)
    (ar (mD 3 (bQ 0 [] 0 [R,R,M] bj (ae (e2 cu (e2 aJ (bB 1 (ab 0)) (ab 1)) (Q3 1)) (ae (Q3 0) (ae (sS 0 []) ak)))))
    (ar (aK 4 (ab 1)) (ar (ke (ik (fR (ab 4)) (e2 dB (ab 2) (e2 aJ (bB 3 (ab 0)) (ab 4)))) cR) b))) [oc (xt S M),Q0 (h:Int),Q2 ([c]),J,J] =
    b [oc (xt f M),Q0 (h:Int),Q2 ([c]),Q0 (S.lg.length:Int),pc (Ka o)]:=λb =>
   (av ((lL cd).trans L)).trans ((av (by
   unfold mD;rw[i];rfl)).trans ((av L).trans (av (q vE (by decide) (Q0 (h:Int))))))
  cases o with
  |none =>
   obtain⟨rfl,rfl⟩:=X6 (Zl D);have fin:ar (KH (fR (ab 4)) (ma 0 [.fld 2] (ab 3) (bQ 0 [] 0 [R,R] aE (ae (ab 4) (ae (ab 2) ak)))) eU) (fT 3) [oc (xt f M),Q0 (h:Int),Q2 ([c]),Q0 (S.lg.length:Int),pc (Ka J)] =
     Y (.rt (.fr,.int (S.lg.length:Int)) [oc (xt f M),Q0 (h:Int),Q2 ([c]),Q0 (S.lg.length:Int),pc (Ka J)]):=(av ((lL L).trans L)).trans L
   refine⟨j,by lia,by lia,by lia,?_⟩;exact congrArg (λz:Option Out=>z.bind _) ((hd _).trans fin)
  |some n =>
   obtain⟨⟨B,m⟩,e3,P⟩:=Zt.mp D;obtain⟨rfl,rfl⟩:=X6 P;obtain⟨C,G,Z,X,F⟩:=yM j (by show f.lg.length<=100001;lia) (by
    have:=s n L;rw[u];exact this) A e3
   have i:=jD (mv:=[R,R]) (as:=ae (ab 4) (ae (ab 2) ak)) (b:=M) (r:=[Q0 (h:Int),Q2 ([c]),Q0 (S.lg.length:Int),Q0 (n:Int)]) L L L F L;have N:=AY (b:=M) (r:=[Q0 (h:Int),Q2 ([c]),Q0 (S.lg.length:Int),Q0 (n:Int)]) (e:=ab 3) (ev:=λ_=>Y (.fr,.int (m:Int))) (by rw[C.lk];lia) L L;have H:ma 0 [.fld 2] (ab 3) (bQ 0 [] 0 [R,R] aE (ae (ab 4) (ae (ab 2) ak))) [oc (xt f M),Q0 (h:Int),Q2 ([c]),Q0 (S.lg.length:Int),Q0 (n:Int)]=Y (.nx [oc (xt ⟨B.lg,B.lk.set S.lg.length (Y m),B.wy⟩ M),Q0 (h:Int),Q2 ([c]),Q0 (S.lg.length:Int),Q0 (n:Int)]):=by
    unfold ma;rw[i];exact N
   refine⟨(C.link (n:=S.lg.length) (v:=m) G),by lia,by lia,by lia,?_⟩;exact congrArg (λz:Option Out=>z.bind _) ((hd _).trans ((av ((oj (m:=.fr) L).trans H)).trans L))
theorem zG:∀{word:Uv}{h r:Nat},WF S->S.lg.length+2*word.length<=100000->h<S.lg.length->(∀c∈word,97<=c/\c<=122)->hg S h word=Y (f,r) →
  WF f/\r<f.lg.length/\f.lg.length<=S.lg.length+2*word.length/\∀g:Us,∀a:T,∃l,forL (bx 3) de (word.map λc=>T.str [c]) [oc (xt S M),Q0 (h:Int),pc a,g]=Y (.nx [oc (xt f M),Q0 (r:Int),pc a,l])
 |[],h,r,W,m,i,j,e=>by
  obtain⟨rfl,rfl⟩:=X6 (Zl e);exact⟨W,i,by simp,λg a=>⟨g,rfl⟩⟩
 |c :: word,h,r,W,m,i,j,e=>by
  obtain⟨⟨C,B⟩,e1,x⟩:=Zz.mp e;rw[Zf]at m;obtain⟨p,o,z,y,n⟩:=HX W (by lia) i (j c Zv) e1;obtain⟨v,u,A,s⟩:=zG p (by lia) o (λd hd=>j d (Zu _ hd)) x;refine⟨v,u,by rw[Zf];lia,λg a=>?_⟩;obtain⟨l,q⟩:=s (Q2 ([c])) a;refine⟨l,?_⟩;rw[Zk];refine(bR (U1:=[oc (xt S M),Q0 (h:Int),pc a,Q2 ([c])]) L ?_).trans q;have w:=jD (mv:=[R,R]) (as:=ae (ab 1) (ae (ab 3) ak)) (b:=M) (r:=[Q0 (h:Int),pc a,Q2 ([c])]) L L L n L;unfold de mD;rw[w];rfl
def Ek{S S':St}{a:Tx}{r:Nat}(W:WF S)(i:S.lg.length+2*a.length<=100000)(j:h<S.lg.length)(l:∀c∈a,97<=c/\c<=122)(e:hg S h a=Y (S',r)) :
  WF S'/\r<S'.lg.length/\S'.lg.length<=S.lg.length+2*a.length/\aY (MP S) [.int (h:Int),.str a]=Y (MP S',.int (r:Int)):=by
 obtain⟨g,f,d,b⟩:=zG W i j l e;obtain⟨m,q⟩:=b J (.str a);refine⟨g,f,d,?_⟩;unfold aY LH;rw[Zs ⟨rfl,rfl⟩];have s1:=(dU (it:=fW (ab 2)) L L).trans q;exact congrArg (λz:Option Out=>z.bind _) ((av s1).trans L)
end T23
end
section
namespace AU
noncomputable abbrev Wd:=Uv
noncomputable abbrev W(a:List Wd)(n:Nat):Wd:=a.getD n []
structure I(fr:Option Nat)(S:St)(nd:Wd->Option Nat)(wd:List Wd):Prop where
 wf:WF S
 len:wd.length=S.lg.length
 lg:∀n,n<wd.length->S.lg.getD n 0=(W wd n).length
 z:nd []=some 0
 wz:W wd 0=[]
 lt:∀{x n},nd x=some n->n<wd.length
 sf:∀{x n},nd x=some n->x <:+ W wd n
 top:∀{n},n<wd.length->nd (W wd n)=some n
 iv:∀{x y n},nd x=some n->x <:+ y->y <:+ W wd n->nd y=some n
 pre:∀{x c n},nd (x++[c])=some n->∃m,nd x=some m
 Pb:∀{x y n},nd y=some n->x <:+ y->∃m,nd x=some m
 OR:S.lk.getD 0 none=none
 lk:∀{n},0<n->n<wd.length->some n≠fr->∃m,S.lk.getD n none=some m/\(m<wd.length/\some m≠fr)/\W wd m <:+ W wd n/\(W wd m).length<(W wd n).length/\∀y,y <:+ W wd n->(W wd m).length<y.length->nd y=some n
 wy:∀{x n},nd x=some n->∀c,gW (S.wy.getD n []) c=nd (x++[c])
def bV{α:Type}{x y w:List α}(d:x <:+ w)(b:y <:+ w)(a:x.length<=y.length):x <:+ y:=List.suffix_of_suffix_length_le d b a
section
def I.up(H:I fr S nd wd):∀(k n:Nat)(x:Wd),(W wd n).length<=k->n<wd.length->Y n≠fr->x <:+ W wd n->∃m,nd x=Y m/\W wd m <:+ W wd n:=by
 intro k
 induction k with
 |zero =>
  intro n x e b f a;rw[(WY.mp (Nat.le_zero.mp e))]at a;have:x=[]:=YW.mp a;subst this;exact⟨0,H.z,by rw[H.wz];exact WE⟩
 |succ k l =>
  intro n x e b f a;by_cases h:n=0
  ·subst h;rw[H.wz]at a;have:x=[]:=YW.mp a;subst this;exact⟨0,H.z,Lx _⟩
  ·obtain⟨m,u,⟨p,r⟩,g,s,o⟩:=H.lk (Ys h) b f;by_cases d:(W wd m).length<x.length
   ·exact⟨n,o x a d,Lx _⟩
   ·obtain⟨q,j,i⟩:=l m x (by lia) p r (bV a g (by exact ZD d));exact⟨q,j,i.trans g⟩
def I.Ue(H:I fr S nd wd)(b:n<wd.length)(d:Y n≠fr)(a:x <:+ W wd n):∃m,nd x=Y m/\W wd m <:+ W wd n:=H.up _ n x (Zn _) b d a
def I.all(H:I fr S nd wd)(e:q<wd.length)(f:Y q≠fr)(d:nd x=Y n)(b:nd y=Y n)(h:x <:+ W wd q):y <:+ W wd q:=by
 obtain⟨m,a,g⟩:=H.Ue e f h;rw[d]at a;cases a;exact(H.sf b).trans g
def I.inj(H:I fr S nd wd)(b:m<wd.length)(a:n<wd.length)(h:W wd m=W wd n):m=n:=by
 have:=H.top b;rw[h,H.top a]at this;exact(Zl this).symm
def I.way(H:I fr S nd wd){n c:Nat}(b:n<wd.length)(h:gW (S.wy.getD n []) c=Y a):nd (W wd n++[c])=Y a:=by
 rw[← H.wy (H.top b) c];exact h
def I.zero(H:I fr S nd wd)(h:nd x=Y 0):x=[]:=by
 have:=H.sf h;rw[H.wz]at this;exact YW.mp this
def I.low(H:I fr S nd wd)(g:Y n≠fr)(a:S.lk.getD n J=Y m)(b:nd y=Y n):(W wd m).length<y.length/\m<wd.length/\W wd m <:+ W wd n/\Y m≠fr:=by
 by_cases f:n=0
 ·subst f;rw[H.OR]at a;cases a
 ·obtain⟨l,i,⟨e,j⟩,d,h,o⟩:=H.lk (Ys f) (H.lt b) g;rw[i]at a;cases a;refine⟨Wu λhle=>?_,e,d,j⟩;have:=H.iv b (bV (H.sf b) d hle) d;rw[H.top e]at this;cases this;exact Yf _ h
def I.below(H:I fr S nd wd)(e:n<wd.length)(g:Y n≠fr)(a:S.lk.getD n J=Y q)(f:m<wd.length)(b:W wd m <:+ W wd n)(o:m≠n):W wd m <:+ W wd q:=by
 by_cases d:n=0
 ·subst d;rw[H.OR]at a;cases a
 ·obtain⟨p,j,⟨s,_⟩,i,r,h⟩:=H.lk (Ys d) e g;rw[j]at a;cases a;refine bV b i (ZD λl=>o ?_);have:=h _ b l;rw[H.top f]at this;exact Zl this
def I.root(H:I fr S nd wd)(b:n<wd.length)(g:Y n≠fr)(d:S.lk.getD n J=J)(f:m<wd.length)(a:W wd m <:+ W wd n):m=n:=by
 have i:n=0:=Nat.eq_zero_of_not_pos λe=>by
  obtain⟨q,h,_⟩:=H.lk e b g;rw[h]at d;cases d
 subst i;rw[H.wz]at a;exact H.inj f b (by rw[H.wz,YW.mp a])
def gv(a:List (List (Nat×Nat)))(n m c v d:Nat)(b:n<a.length):gW ((a.set n (pW (a.getD n []) c v)).getD m []) d=if m=n/\d=c then Y v else gW (a.getD m []) d:=by
 rw[iG];by_cases h:n=m
 ·subst h;rw[Zs ⟨rfl,b⟩,D4];by_cases hd:d=c
  ·rw[Zs hd,Zs ⟨rfl,hd⟩]
  ·rw[Zo hd,Zo (λz=>hd z.2)]
 ·rw[Zo (λz=>h z.1),Zo (λz=>h z.1.symm)]
def I.RG(H:I fr S nd wd){c v:Nat}:∀(k:Nat)(T:St)(n:Nat),n<wd.length->Y n≠fr->(W wd n).length<k->(∀m,m<wd.length->W wd m <:+ W wd n->T.lk.getD m J=S.lk.getD m J)->wd.length<=T.wy.length →
  (∀m i,m<wd.length->i<wd.length->W wd m <:+ W wd i->W wd i <:+ W wd n->gW (T.wy.getD m []) c=Y b->gW (T.wy.getD i []) c=Y b) →
  ∃l,PN c b v k T (Y n)=Y ⟨T.lg,T.lk,l⟩/\l.length=T.wy.length/\∀m d,gW (l.getD m []) d=if d=c/\m<wd.length/\W wd m <:+ W wd n/\gW (T.wy.getD m []) c=Y b then Y v else gW (T.wy.getD m []) d:=by
 intro k
 induction k with
 |zero=>intro T n _ _ h;lia
 |succ k D =>
  intro T n f u G A hw mono;have o:=Zi f hw;unfold PN;by_cases j:gW (T.wy.getD n []) c=Y b
  ·rw[Zs j,A n f (Lx _)];cases s:S.lk.getD n J with
   |none =>
    refine⟨T.wy.set n (pW (T.wy.getD n []) c v),by cases k<;>rfl,Ya,λm d=>?_⟩;rw[gv _ _ _ _ _ _ o];by_cases a:m=n/\d=c
    ·rw[Zs a,Zs ⟨a.2,by rw[a.1];exact f,by rw[a.1];exact Lx _,by rw[a.1];exact j⟩]
    ·rw[Zo a,Zo λz=>a ⟨H.root f u s z.2.1 z.2.2.1,z.1⟩]
   |some q =>
    obtain⟨F,C,r,B⟩:=H.low u s (H.top f);have ne:∀m,W wd m <:+ W wd q->m≠n:=λm a e=>by
     rw[e]at a;have:=a.length_le;lia
    obtain⟨l,e1,e2,e3⟩:=D ⟨T.lg,T.lk,T.wy.set n (pW (T.wy.getD n []) c v)⟩ q C B (by lia) (λm a p=>A m a (p.trans r)) (by rw[Ya];exact hw) (λm i a E p w h=>by
     have x:=h;rw[gv _ _ _ _ _ _ o,Zo (λz=>ne m (p.trans w) z.1)]at x;rw[gv _ _ _ _ _ _ o,Zo (λz=>ne i w z.1)];exact mono m i a E p (w.trans r) x)
    refine⟨l,e1,by rw[e2];exact Ya,λm d=>?_⟩;rw[e3 m d];by_cases a:m=n
    ·subst a;rw[Zo (λz=>ne m z.2.2.1 L),gv _ _ _ _ _ _ o];by_cases hd:d=c
     ·rw[Zs ⟨rfl,hd⟩,Zs ⟨hd,f,Lx _,j⟩]
     ·rw[Zo (λz=>hd z.2),Zo (λz=>hd z.1)]
    ·have y:∀d,gW ((T.wy.set n (pW (T.wy.getD n []) c v)).getD m []) d=gW (T.wy.getD m []) d:=λd=>by rw[gv _ _ _ _ _ _ o,Zo (λz=>a z.1)]
     rw[y,y];by_cases g:d=c/\m<wd.length/\W wd m <:+ W wd n/\gW (T.wy.getD m []) c=Y b
     ·rw[Zs g,Zs ⟨g.1,g.2.1,H.below f u s g.2.1 g.2.2.1 a,g.2.2.2⟩]
     ·rw[Zo g,Zo λz=>g ⟨z.1,z.2.1,z.2.2.1.trans r,z.2.2.2⟩]
  ·rw[Zo j];refine⟨T.wy,rfl,rfl,λm d=>?_⟩;rw[Zo λz=>j (mono m n z.2.1 f z.2.2.1 (Lx _) z.2.2.2)]
def I.RH(H:I fr S nd wd){c v:Nat}:∀(k:Nat)(T:St)(n:Nat),n<wd.length->Y n≠fr->(W wd n).length<k->(∀m,m<wd.length->W wd m <:+ W wd n->T.lk.getD m J=S.lk.getD m J)->wd.length<=T.wy.length →
  (∀m i,m<wd.length->i<wd.length->W wd m <:+ W wd i->W wd i <:+ W wd n->(gW (T.wy.getD i []) c).isSome->(gW (T.wy.getD m []) c).isSome) →
  ∃y s,up1 c v k T (Y n)=Y (⟨T.lg,T.lk,y⟩,s)/\y.length=T.wy.length/\(∀m d,gW (y.getD m []) d=if d=c/\m<wd.length/\W wd m <:+ W wd n/\gW (T.wy.getD m []) c=J then Y v else gW (T.wy.getD m []) d) ∧
   (s=J->∀m,m<wd.length->W wd m <:+ W wd n->gW (T.wy.getD m []) c=J) ∧
   ∀p,s=Y p->p<wd.length/\W wd p <:+ W wd n/\(gW (T.wy.getD p []) c).isSome/\∀m,m<wd.length->W wd m <:+ W wd n->(W wd p).length<(W wd m).length->gW (T.wy.getD m []) c=J:=by
 intro k
 induction k with
 |zero=>intro T n _ _ h;lia
 |succ k ih =>
  intro T n f o hk N hw mono;have r:=Zi f hw;unfold up1;by_cases l:(gW (T.wy.getD n []) c).isSome=M
  ·rw[Zs l];refine⟨T.wy,Y n,rfl,rfl,λm d=>?_,(λh=>nomatch h),λp u=>?_⟩
   ·rw[Zo λz=>?_];have:=mono m n z.2.1 f z.2.2.1 (Lx _) l;rw[z.2.2.2]at this;cases this
   ·cases u;refine⟨f,Lx _,l,λm a b j=>?_⟩;have:=b.length_le;lia
  ·have A:gW (T.wy.getD n []) c=J:=by
    cases h:gW (T.wy.getD n []) c with
    |none=>rfl
    |some x=>rw[h]at l;exact absurd L l
   rw[Zo l,N n f (Lx _)];cases j:S.lk.getD n J with
   |none =>
    refine⟨T.wy.set n (pW (T.wy.getD n []) c v),J,by cases k<;>rfl,Ya,λm d=>?_,λ_ m a b=>?_,(λp u=>nomatch u)⟩
    ·rw[gv _ _ _ _ _ _ r];by_cases a:m=n/\d=c
     ·rw[Zs a,Zs ⟨a.2,by rw[a.1];exact f,by rw[a.1];exact Lx _,by rw[a.1];exact A⟩]
     ·rw[Zo a,Zo λz=>a ⟨H.root f o j z.2.1 z.2.2.1,z.1⟩]
    ·rw[H.root f o j a b];exact A
   |some q =>
    refine L2.aq λP_ Z=>?_;obtain⟨l1,X,B,U⟩:=H.low o j (H.top f);have ne:∀m,W wd m <:+ W wd q->m≠n:=λm a e=>by
     rw[e]at a;have:=a.length_le;lia
    obtain⟨y,s,e1,e2,e3,e4,e5⟩:=ih ⟨T.lg,T.lk,T.wy.set n (pW (T.wy.getD n []) c v)⟩ q X U (by lia) (λm a b=>N m a (b.trans B)) (by rw[Ya];exact hw) (λm i a K7 b C h=>by
     have E:=h;rw[gv _ _ _ _ _ _ r,Zo (λz=>ne i C z.1)]at E;rw[gv _ _ _ _ _ _ r,Zo (λz=>ne m (b.trans C) z.1)];exact mono m i a K7 b (C.trans B) E)
    refine Z ?_;have old:∀m,W wd m <:+ W wd q->gW ((T.wy.set n (pW (T.wy.getD n []) c v)).getD m []) c=gW (T.wy.getD m []) c:=λm a=>by rw[gv _ _ _ _ _ _ r,Zo (λz=>ne m a z.1)]
    refine⟨y,s,e1,by rw[e2];exact Ya,λm d=>?_,λho m a b=>?_,λp u=>?_⟩
    ·rw[e3 m d];by_cases a:m=n
     ·subst a;rw[Zo (λz=>ne m z.2.2.1 L),gv _ _ _ _ _ _ r];by_cases hd:d=c
      ·rw[Zs ⟨rfl,hd⟩,Zs ⟨hd,f,Lx _,A⟩]
      ·rw[Zo (λz=>hd z.2),Zo (λz=>hd z.1)]
     ·have F:∀d,gW ((T.wy.set n (pW (T.wy.getD n []) c v)).getD m []) d=gW (T.wy.getD m []) d:=λd=>by rw[gv _ _ _ _ _ _ r,Zo (λz=>a z.1)]
      rw[F,F];by_cases g:d=c/\m<wd.length/\W wd m <:+ W wd n/\gW (T.wy.getD m []) c=J
      ·rw[Zs g,Zs ⟨g.1,g.2.1,H.below f o j g.2.1 g.2.2.1 a,g.2.2.2⟩]
      ·rw[Zo g,Zo λz=>g ⟨z.1,z.2.1,z.2.2.1.trans B,z.2.2.2⟩]
    ·by_cases w:m=n
     ·rw[w];exact A
     ·have hb:=H.below f o j a b w;rw[← old m hb];exact e4 ho m a hb
    ·obtain⟨Q,D,P,O⟩:=e5 p u;have G:=P;rw[old p D]at G;refine⟨Q,D.trans B,G,λm a b Kt=>?_⟩;by_cases w:m=n
     ·rw[w];exact A
     ·have hb:=H.below f o j a b w;rw[← old m hb];exact O m a hb Kt
end
def FA(g:97<=c/\c<=122):∀(k:Nat)(S a:St)(o:Option Nat),WF S->v<S.lg.length->PN c b v k S o=Y a->WF a:=by
 intro k
 induction k with
 |zero =>
  intro S a o H d e;cases o with
  |none=>cases (e);exact H
  |some n=>cases e
 |succ k f =>
  intro S a o H d e;cases o with
  |none=>cases (e);exact H
  |some n =>
   unfold PN at e;split at e
   ·exact f ⟨S.lg,S.lk,S.wy.set n (pW (S.wy.getD n []) c v)⟩ a _ (H.way (n:=n) d g) d e
   ·cases e;exact H
def Ez(g:97<=c/\c<=122):∀(k:Nat)(S a:St)(o b:Option Nat),WF S->v<S.lg.length->up1 c v k S o=Y (a,b)->WF a:=by
 intro k
 induction k with
 |zero =>
  intro S a o b H d e;cases o with
  |none=>cases (e);exact H
  |some n=>cases e
 |succ k f =>
  intro S a o b H d e;cases o with
  |none=>cases (e);exact H
  |some n =>
   unfold up1 at e;split at e
   ·cases e;exact H
   ·exact f ⟨S.lg,S.lk,S.wy.set n (pW (S.wy.getD n []) c v)⟩ a _ b (H.way (n:=n) d g) d e
def jw{α:Type}{x y:List α}{a b:α}(h:x++[a] <:+ y++[b]):a=b/\x <:+ y:=by
 obtain⟨t,e⟩:=h;rw[← Zb]at e;obtain⟨e1,e2⟩:=List.append_inj' e L;exact⟨by simpa using e2,⟨t,e1⟩⟩
def iF{α:Type}{x y:List α}(a:α)(h:x <:+ y):x++[a] <:+ y++[a]:=by
 obtain⟨t,e⟩:=h;exact⟨t,by rw[← e,Zb]⟩
noncomputable def iY(b:Wd->Option Nat)(a l h:Nat)(x:Wd):Option Nat:=if b x=Y a/\x.length<=l then Y h else b x
theorem I.split(H:I P S o b)(G:n<b.length)(hf:Y n≠P)(hc:97<=c/\c<=122)(ho:gW (S.wy.getD n []) c=Y a)(Rm:Y a≠P)(QC:P≠Y b.length)(K6:S.lg.getD a 0≠S.lg.getD n 0+1)(hk:(W b n).length<1000) :
  ∃S',P5 S n c=Y (S',S.lg.length)/\I P S' (iY o a ((W b n).length+1) b.length) (b++[W b n++[c]]):=by
 have N:=H.len.symm;have hw:=H.way G ho;have hold:=H.lt hw;have u:=H.sf hw;have lw:(W b n++[c]).length=(W b n).length+1:=by rw[Zx];rfl
 rw[H.lg a hold,H.lg n G]at K6;have Kt:(W b n).length+1<(W b a).length:=by
  have:=u.length_le;rw[lw]at this;lia
 have o0:a≠0:=λe=>by
  rw[e,H.wz]at Kt;simp at Kt
 have TF:0<b.length:=by rw[H.len];exact H.wf.pos
 have l1:S.lk.length=b.length:=by rw[H.wf.lk,N]
 have l2:S.wy.length=b.length:=by rw[H.wf.wy,N]
 have P9:∀m,((S.lk++[S.lk.getD a J]).set a (Y S.lg.length)).getD m J=if m=a then Y b.length else if m=b.length then S.lk.getD a J else S.lk.getD m J:=λm=>by
  rw[iG,bZ,l1,N];by_cases h:m=a
  ·rw[Zs ⟨h.symm,by rw[Zx,l1];lia⟩,Zs h]
  ·rw[Zo (λz=>h z.1.symm),Zo h]
 have Mx:∀m,(S.wy++[S.wy.getD a []]).getD m []=if m=b.length then S.wy.getD a [] else S.wy.getD m []:=λm=>by rw[bZ,l2]
 have N8:∀m,m<b.length->(S.wy++[S.wy.getD a []]).getD m []=S.wy.getD m []:=λm f=>by rw[Mx,Zo (Ze f)]
 obtain⟨w2,e1,e2,e3⟩:=H.RG (c:=c) (v:=S.lg.length) 1000 ⟨S.lg++[S.lg.getD n 0+1],(S.lk++[S.lk.getD a J]).set a (Y S.lg.length),S.wy++[S.wy.getD a []]⟩ n G hf hk (λm f hs=>by
   have:=hs.length_le;rw[P9,Zo (λe=>by rw[e]at this;lia),Zo (Ze f)])
  (by rw[Zx,l2];exact Za _ _)
  (λm w f D hs Lg h=>by
   have C:=h;rw[N8 m f]at C;rw[N8 w D,H.wy (H.top D) c];rw[H.wy (H.top f) c]at C;exact H.iv C (iF c hs) ((iF c Lg).trans u))
 have wn:=H.wf.SD a;have W1:=H.wf.more (l:=S.lg.getD n 0+1) (λm f=>H.wf.up a m f) (λd m f=>H.wf.on a d m f) wn.1 wn.2;have hlen:(S.lg++[S.lg.getD n 0+1]).length=S.lg.length+1:=by rw[Zx];rfl
 have W2:=W1.link (n:=a) (v:=S.lg.length) (by lia);have X:=FA hc 1000 _ _ _ W2 (by lia) e1;refine⟨⟨S.lg++[S.lg.getD n 0+1],(S.lk++[S.lk.getD a J]).set a (Y S.lg.length),w2⟩,?_,?_⟩
 ·unfold P5;rw[ho,Zr,Zo (by rw[H.lg a hold,H.lg n G];exact K6),e1];rfl
 have Wn:∀m,W (b++[W b n++[c]]) m=if m=b.length then W b n++[c] else W b m:=λm=>bZ b _ _ m
 have s:W (b++[W b n++[c]]) b.length=W b n++[c]:=by rw[Wn,Zs L]
 have g:∀{m},m<b.length->W (b++[W b n++[c]]) m=W b m:=λ{m} f=>by rw[Wn,Zo (Ze f)]
 have dh:(b++[W b n++[c]]).length=b.length+1:=by rw[Zx];rfl
 have tell:∀{x m},iY o a ((W b n).length+1) b.length x=Y m->(m=b.length/\o x=Y a/\x.length<=(W b n).length+1)\/(m<b.length/\o x=Y m/\¬(m=a/\x.length<=(W b n).length+1)):=λ{x m} h=>by
  unfold iY at h;split at h
  ·rename_i q;cases h;exact .inl ⟨rfl,q.1,q.2⟩
  ·rename_i q;exact .inr ⟨H.lt h,h,λz=>q ⟨by rw[h,z.1],z.2⟩⟩
 have Z:∀{x},o x=Y a->x.length<=(W b n).length+1->iY o a ((W b n).length+1) b.length x=Y b.length:=λ{x} B h2=>Zs ⟨B,h2⟩;have tO:∀{x m},o x=Y m->¬(m=a/\x.length<=(W b n).length+1)->iY o a ((W b n).length+1) b.length x=Y m:=λ{x m} B h2=>by
  unfold iY;rw[Zo (λz=>h2 ⟨by rw[B]at z;exact Zl z.1,z.2⟩),B]
 have PU:∀{x m},o x=Y m->∃w,iY o a ((W b n).length+1) b.length x=Y w:=λ{x m} h=>by
  unfold iY;split
  ·exact⟨_,rfl⟩
  ·exact⟨m,h⟩
 have un:∀{x m},iY o a ((W b n).length+1) b.length x=Y m->∃w,o x=Y w:=λ{x m} h=>(tell h).elim (λz=>⟨_,z.2.1⟩) λz=>⟨_,z.2.1⟩
 refine⟨X,by rw[dh,hlen,N],λm f=>?_,tO H.z (λz=>o0 z.1.symm),by rw[g TF];exact H.wz,λ{x m} h=>by rcases tell h with z | z<;>lia,λ{x m} h=>?_,λ{m} f=>?_,λ{x y m} h Q i=>?_,λ{x d m} h=>?_,λ{x y m} h Q=>?_,?_,λ{m} h0 f hmf=>?_,λ{x m} h d=>?_⟩
 ·rw[dh]at f;rw[bZ,N];by_cases e:m=b.length
  ·rw[Zs e,e,s,H.lg n G,lw]
  ·rw[Zo e,g (by lia),H.lg m (by lia)]
 ·rcases tell h with⟨rfl,j,E⟩ | ⟨F,j,_⟩
  ·rw[s];exact bV (H.sf j) u (by rw[lw];exact E)
  ·rw[g F];exact H.sf j
 ·rw[dh]at f;by_cases e:m=b.length
  ·rw[e,s];exact Z hw (by rw[lw];exact Zn _)
  ·rw[g (by lia)];exact tO (H.top (by lia)) (λz=>by have:=z.2;rw[z.1]at this;lia)
 ·rcases tell h with⟨rfl,j,E⟩ | ⟨F,j,E⟩
  ·rw[s]at i;have:=i.length_le;rw[lw]at this;exact Z (H.iv j Q (i.trans u)) this
  ·rw[g F]at i;exact tO (H.iv j Q i) (λz=>E ⟨z.1,ZS Q.length_le z.2⟩)
 ·obtain⟨w,C⟩:=un h;obtain⟨q,p⟩:=H.pre C;exact PU p
 ·obtain⟨w,C⟩:=un h;obtain⟨q,p⟩:=H.Pb C Q;exact PU p
 ·rw[P9,Zo (Y0 o0),Zo (by exact Ze TF)];exact H.OR
 ·rw[dh]at f;show ∃q,((S.lk++[S.lk.getD a J]).set a (Y S.lg.length)).getD m J=Y q/\_;rw[P9,dh];refine L2.aq λP_ O=>?_;obtain⟨q,q1,⟨U,q2'⟩,q3,q4,q5⟩:=H.lk (Ys o0) hold Rm;obtain⟨lo,_⟩:=H.low Rm q1 hw;refine O ?_;rw[lw]at lo;by_cases e:m=a
  ·subst e;rw[Zs L];refine⟨b.length,rfl,⟨by exact Ym _,λz=>QC z.symm⟩,?_,?_,λy i A=>?_⟩
   ·rw[s,g hold];exact u
   ·rw[s,g hold,lw];exact Kt
   ·rw[s,lw]at A;rw[g hold]at i;exact tO (H.iv hw (bV u i (by rw[lw];exact ZO A)) i) (λz=>by have:=z.2;lia)
  ·rw[Zo e];by_cases eL:m=b.length
   ·subst eL;rw[Zs L,q1];refine⟨q,rfl,⟨by exact L7 U,q2'⟩,?_,?_,λy i A=>?_⟩
    ·rw[s,g U];exact bV q3 u (by rw[lw];exact ZO lo)
    ·rw[s,g U,lw];exact lo
    ·rw[s]at i;rw[g U]at A;have:=i.length_le;rw[lw]at this;exact Z (q5 y (i.trans u) A) this
   ·rw[Zo eL];have D:m<b.length:=by lia
    refine L2.aq λP_ O=>?_;obtain⟨r,r1,⟨r2,r2'⟩,r3,r4,r5⟩:=H.lk h0 D hmf;refine O ?_;rw[r1];refine⟨r,rfl,⟨by exact L7 r2,r2'⟩,by rw[g r2,g D];exact r3,by rw[g r2,g D];exact r4,λy i A=>?_⟩;rw[g D]at i;rw[g r2]at A;exact tO (r5 y i A) (λz=>e z.1)
 ·rw[e3 m d];rcases tell h with⟨rfl,j,E⟩ | ⟨F,j,E⟩
  ·rw[Zo (λz=>Yf _ z.2.1),Mx,Zs L,H.wy j d];unfold iY;rw[Zo];intro z;have B:=z.1;rw[← H.wy j d,H.wy (H.top hold) d]at B;have:=(H.sf B).length_le;rw[Zx,ZR]at this;lia
  ·rw[N8 m F,H.wy j c,H.wy j d];unfold iY;by_cases p:o (x++[d])=Y a/\(x++[d]).length<=(W b n).length+1
   ·refine L2.aq λP_ O=>?_;obtain⟨rfl,hx⟩:=jw (bV (H.sf p.1) u (by rw[lw];exact p.2));obtain⟨w,m1,m2⟩:=H.Ue G hf hx;rw[j]at m1;cases m1;refine O ?_;rw[Zs ⟨rfl,F,m2,p.1⟩,Zs p,N]
   ·rw[Zo p,Zo];rintro⟨rfl,_,a3,a4⟩;refine p ⟨a4,?_⟩;have b1:=(H.sf j).length_le;have b2:=a3.length_le;rw[Zx,ZR];lia
end AU
end
section
namespace AU
open Classical in
noncomputable def iJ(a:Wd->Option Nat)(w:Wd)(f:Nat)(x:Wd):Option Nat:=match a x with
 |some m=>Y m
 |none=>if x <:+ w then Y f else J
def dI(h:a x=Y m):iJ a w f x=Y m:=by
 unfold iJ;rw[h]
def fY(h:a x=J)(b:x <:+ w):iJ a w f x=Y f:=by
 unfold iJ;rw[h];exact Zs b
def c6(h:iJ a w f x=Y m):a x=Y m\/(m=f/\a x=J/\x <:+ w):=by
 unfold iJ at h;split at h
 ·rename_i q e;cases h;exact .inl e
 ·rename_i e;split at h
  ·rename_i b;cases h;exact .inr ⟨rfl,e,b⟩
  ·cases h
def yY{α:Type}{y t:List α}{c:α}(h:y <:+ t++[c])(d:y≠[]):∃a,y=a++[c]/\a <:+ t:=by
 rcases List.eq_nil_or_concat y with e | ⟨a,b,e⟩
 ·exact absurd e d
 ·rw[List.concat_eq_append]at e;subst e;obtain⟨e1,e2⟩:=jw h;exact⟨a,by rw[e1],e2⟩
section
def I.fresh(H:I J S nd wd)(u:h<wd.length)(hc:97<=c/\c<=122)(hn:gW (S.wy.getD h []) c=J)(hk:(W wd h).length<1000) :
  ∃D A,up1 c S.lg.length 1000 ⟨S.lg++[S.lg.getD h 0+1],S.lk++[Y 0],S.wy++[[]]⟩ (Y h)=Y (D,A)/\I (Y wd.length) D (iJ nd (W wd h++[c]) wd.length) (wd++[W wd h++[c]])/\D.lk.getD wd.length J=Y 0/\D.lg.length=S.lg.length+1 ∧
   (∀m,m<wd.length->(gW (S.wy.getD m []) c).isSome->gW (D.wy.getD m []) c=gW (S.wy.getD m []) c) ∧
   (A=J->∀m,m<wd.length->W wd m <:+ W wd h->gW (S.wy.getD m []) c=J) ∧
   ∀p,A=Y p->p<wd.length/\W wd p <:+ W wd h/\(gW (S.wy.getD p []) c).isSome/\∀m,m<wd.length->W wd m <:+ W wd h->(W wd p).length<(W wd m).length->gW (S.wy.getD m []) c=J:=by
 have C:=H.len.symm;have l1:S.lk.length=wd.length:=by rw[H.wf.lk,C]
 have l2:S.wy.length=wd.length:=by rw[H.wf.wy,C]
 have TF:0<wd.length:=by rw[H.len];exact H.wf.pos
 have P:∀m,(S.lk++[Y 0]).getD m J=if m=wd.length then Y 0 else S.lk.getD m J:=λm=>by rw[bZ,l1]
 have Mx:∀m,(S.wy++[[]]).getD m []=if m=wd.length then [] else S.wy.getD m []:=λm=>by rw[bZ,l2]
 have s:∀m,m<wd.length->(S.wy++[[]]).getD m []=S.wy.getD m []:=λm b=>by rw[Mx,Zo (Ze b)]
 obtain⟨w2,A,e1,e2,e3,e4,e5⟩:=H.RH (c:=c) (v:=S.lg.length) 1000 ⟨S.lg++[S.lg.getD h 0+1],S.lk++[Y 0],S.wy++[[]]⟩ h u (λz=>nomatch z) hk (λm b _=>by
   rw[P,Zo (Ze b)])
  (by rw[Zx,l2];exact Za _ _)
  (λm m' b j g Lg q=>by
   have q':=q;rw[s m' j,H.wy (H.top j) c]at q';rw[s m b,H.wy (H.top b) c];obtain⟨r,f⟩:=YC.mp q';obtain⟨r',X⟩:=H.Pb f (iF c g);rw[X];rfl)
 have hlen:(S.lg++[S.lg.getD h 0+1]).length=S.lg.length+1:=by rw[Zx];rfl
 have Q:=Ez hc 1000 _ _ _ _ (H.wf.more (l:=S.lg.getD h 0+1) (o:=Y 0) (w:=[]) (λm b=>by cases b;exact H.wf.pos) (λd m b=>by cases b) Y6 (λp Z=>nomatch Z)) (by lia) e1;have lw:(W wd h++[c]).length=(W wd h).length+1:=by rw[Zx];rfl
 have Wn:∀m,W (wd++[W wd h++[c]]) m=if m=wd.length then W wd h++[c] else W wd m:=λm=>bZ wd _ _ m
 have O:W (wd++[W wd h++[c]]) wd.length=W wd h++[c]:=by rw[Wn,Zs L]
 have i:∀{m},m<wd.length->W (wd++[W wd h++[c]]) m=W wd m:=λ{m} b=>by rw[Wn,Zo (Ze b)]
 have dh:(wd++[W wd h++[c]]).length=wd.length+1:=by rw[Zx];rfl
 refine⟨⟨S.lg++[S.lg.getD h 0+1],S.lk++[Y 0],w2⟩,A,e1,?_,by rw[P,Zs L],hlen,λm b g=>?_,λho m b g=>?_,λp Z=>?_⟩
 rotate_left
 ·rw[e3 m c];rw[s m b,Zo (λz=>by rw[z.2.2.2]at g;cases g)]
 ·have:=e4 ho m b g;have F:=this;rw[s m b]at F;exact F
 ·obtain⟨p1,p2,p3,p4⟩:=e5 p Z;have SW:=p3;rw[s p p1]at SW;refine⟨p1,p2,SW,λm b g N=>?_⟩;have:=p4 m b g N;have F:=this;rw[s m b]at F;exact F
 refine⟨Q,by rw[dh];rw[hlen,C],λm b=>?_,dI H.z,by rw[i TF];exact H.wz,λ{x m} q=>?_,λ{x m} q=>?_,λ{m} b=>?_,λ{x y m} q E n=>?_,λ{x d m} q=>?_,λ{x y m} q E=>?_,?_,λ{m} h0 b hmf=>?_,λ{x m} q d=>?_⟩
 ·rw[dh]at b;rw[bZ,C];by_cases e:m=wd.length
  ·rw[Zs e,e,O,H.lg h u,lw]
  ·rw[Zo e,i (by lia),H.lg m (by lia)]
 ·rw[dh];rcases c6 q with z | z
  ·have:=H.lt z;exact L7 this
  ·lia
 ·rcases c6 q with z | ⟨rfl,_,z⟩
  ·rw[i (H.lt z)];exact H.sf z
  ·rw[O];exact z
 ·rw[dh]at b;by_cases e:m=wd.length
  ·rw[e,O];exact fY (by rw[← H.wy (H.top u) c];exact hn) (Lx _)
  ·rw[i (by lia)];exact dI (H.top (by lia))
 ·rcases c6 q with z | ⟨rfl,G,z2⟩
  ·rw[i (H.lt z)]at n;exact dI (H.iv z E n)
  ·rw[O]at n;refine fY ?_ n;cases e:nd y with
   |none=>rfl
   |some r =>
    obtain⟨r',f⟩:=H.Pb e E;rw[G]at f;cases f
 ·rcases c6 q with z | ⟨_,_,z⟩
  ·obtain⟨r,f⟩:=H.pre z;exact⟨r,dI f⟩
  ·obtain⟨_,B⟩:=jw z;obtain⟨r,f⟩:=H.Pb (H.top u) B;exact⟨r,dI f⟩
 ·rcases c6 q with z | ⟨_,_,z⟩
  ·obtain⟨r,f⟩:=H.Pb z E;exact⟨r,dI f⟩
  ·cases e:nd x with
   |none=>exact⟨_,fY e (E.trans z)⟩
   |some r=>exact⟨r,dI e⟩
 ·rw[P,Zo (by exact Ze TF)];exact H.OR
 ·rw[dh]at b;have j:m<wd.length:=by
   have:m≠wd.length:=λe=>hmf (by rw[e]);lia
  show ∃q,(S.lk++[Y 0]).getD m J=Y q/\_;rw[P,Zo (Ze j),dh];refine L2.aq λP_ U=>?_;obtain⟨r,r1,⟨r2,_⟩,r3,r4,r5⟩:=H.lk h0 j (λz=>nomatch z);refine U ?_;refine⟨r,r1,⟨by exact L7 r2,λz=>?_⟩,by rw[i r2,i j];exact r3,by rw[i r2,i j];exact r4,λy n N=>?_⟩
  ·have:=Zl z;lia
  ·rw[i j]at n;rw[i r2]at N;exact dI (r5 y n N)
 ·rw[e3 m d];rcases c6 q with z | ⟨rfl,G,z2⟩
  ·have b:=H.lt z;rw[s m b,H.wy z c,H.wy z d];cases e:nd (x++[d]) with
   |some r =>
    rw[dI e,Zo];rintro⟨rfl,_,_,a⟩;rw[e]at a;cases a
   |none =>
    by_cases g:x++[d] <:+ W wd h++[c]
    ·refine L2.aq λP_ U=>?_;obtain⟨rfl,B⟩:=jw g;obtain⟨m',m1,m2⟩:=H.Ue u (λz=>nomatch z) B;rw[z]at m1;cases m1;refine U ?_;rw[fY e g,Zs ⟨rfl,b,m2,e⟩,C]
    ·have:iJ nd (W wd h++[c]) wd.length (x++[d])=J:=by
      unfold iJ;rw[e];exact Zo g
     rw[this,Zo];rintro⟨rfl,_,a,_⟩;exact g (iF d ((H.sf z).trans a))
  ·rw[Zo (λa=>Yf _ a.2.1),Mx,Zs L];have e:nd (x++[d])=J:=by
    cases e:nd (x++[d]) with
    |none=>rfl
    |some r =>
     obtain⟨r',f⟩:=H.pre e;rw[G]at f;cases f
   have:iJ nd (W wd h++[c]) wd.length (x++[d])=J:=by
    unfold iJ;rw[e];refine Zo λg=>?_;obtain⟨_,B⟩:=jw g;obtain⟨r,f⟩:=H.Pb (H.top u) B;rw[G]at f;cases f
   rw[this];rfl
def I.fix{f m:Nat}(H:I (Y f) S nd wd)(j:f<wd.length)(b:m<wd.length)(h:W wd m <:+ W wd f)(a:(W wd m).length<(W wd f).length)(g:∀y,y <:+ W wd f->(W wd m).length<y.length->nd y=Y f):I J ⟨S.lg,S.lk.set f (Y m),S.wy⟩ nd wd:=by
 refine⟨H.wf.link (by rw[← H.len];exact b),H.len,H.lg,H.z,H.wz,H.lt,H.sf,H.top,H.iv,H.pre,H.Pb,?_,λ{n} l i _=>?_,H.wy⟩
 ·rw[iG,Zo (λz=>(λe=>by
  rw[e,H.wz]at a;simp at a) z.1)]
  exact H.OR
 ·show ∃q,(S.lk.set f (Y m)).getD n J=Y q/\_;rw[iG];by_cases e:f=n
  ·subst e;rw[Zs ⟨rfl,(by rw[H.wf.lk,← H.len];exact j)⟩];exact⟨m,rfl,⟨b,λz=>nomatch z⟩,h,a,g⟩
  ·rw[Zo (λz=>e z.1)];obtain⟨r,r1,⟨r2,_⟩,d⟩:=H.lk l i (λz=>e (Zl z).symm);exact⟨r,r1,⟨r2,λz=>nomatch z⟩,d⟩
end
end AU
end
section
namespace AU
structure Ua(nd Le:Wd->Option Nat)(w:Wd):Prop where
 eq:∀{x y m n},Le x=some m->Le y=some n->(m=n↔nd x=nd y/\(x <:+ w↔y <:+ w))
section
def I.Td(H:I fr S nd wd){n c:Nat}(u:n<wd.length)(U:Y n≠fr)(X:97<=c/\c<=122)(s:gW (S.wy.getD n []) c=Y a)(j:Y a≠fr)(o:fr≠Y wd.length)(Q:(W wd n).length<1000) :
  ∃i r p J4,P5 S n c=Y (i,r)/\I fr i p J4/\r<J4.length/\Y r≠fr/\W J4 r=W wd n++[c]/\(∀m,m<wd.length->W J4 m=W wd m)/\wd.length<=J4.length/\J4.length<=wd.length+1 ∧
   (∀x,(∃m,p x=Y m) ↔ ∃m,nd x=Y m)/\Ua nd p (W wd n++[c])/\∀x f,f≠a->nd x=Y f->p x=Y f:=by
 have hw:=H.way u s;have hold:=H.lt hw;have F:=H.sf hw;have lw:(W wd n++[c]).length=(W wd n).length+1:=by rw[Zx];rfl
 by_cases w:S.lg.getD a 0=S.lg.getD n 0+1
 ·have e:W wd a=W wd n++[c]:=by
   have:=w;rw[H.lg a hold,H.lg n u]at this;exact(F.eq_of_length (by rw[lw,this])).symm
  refine⟨S,a,nd,wd,?_,H,hold,j,e,λm _=>rfl,Zn _,WZ _,λx=>Iff.rfl,⟨λ{x y m k} d b=>?_⟩,λx f _ h=>h⟩
  ·unfold P5;rw[s,Zr,Zs w]
  ·constructor
   ·rintro rfl;exact⟨by rw[d,b],λh=>by rw[← e]at h ⊢;exact H.all hold j d b h,λh=>by rw[← e]at h ⊢;exact H.all hold j b d h⟩
   ·rintro⟨h,_⟩;rw[d,b]at h;exact Zl h
 ·obtain⟨i,e1,A⟩:=H.split u U X s j o w Q;have E:W (wd++[W wd n++[c]]) wd.length=W wd n++[c]:=(bZ wd _ _ _).trans (Zs L);have dh:(wd++[W wd n++[c]]).length=wd.length+1:=by rw[Zx];rfl
  have inv:∀{x m},iY nd a ((W wd n).length+1) wd.length x=Y m->(m=wd.length/\nd x=Y a/\x.length<=(W wd n).length+1)\/nd x=Y m:=λ{x m} h=>by
   unfold iY at h;split at h
   ·rename_i q;cases h;exact .inl ⟨rfl,q.1,q.2⟩
   ·exact .inr h
  have Nl:∀{x},nd x=Y a->(x.length<=(W wd n).length+1↔x <:+ W wd n++[c]):=λ{x} h=>⟨λP=>bV (H.sf h) F (by rw[lw];exact P),λg=>by have:=g.length_le;rw[lw]at this;exact this⟩
  refine⟨i,S.lg.length,_,_,e1,A,by rw[dh,← H.len];exact Ym _,by rw[← H.len];exact λz=>o z.symm,by rw[← H.len];exact E,(λm O=>(bZ wd _ _ m).trans (Zo (Ze O))),by lia,by exact Wt dh,λx=>⟨λ⟨m,h⟩=>(inv h).elim (λz=>⟨_,z.2.1⟩) λz=>⟨_,z⟩,λ⟨m,h⟩=>?_⟩,⟨λ{x y m k} d b=>?_⟩,λx f v h=>?_⟩
  ·unfold iY;split
   ·exact⟨_,rfl⟩
   ·exact⟨m,h⟩
  ·constructor
   ·rintro rfl;have B:wd.length<(wd++[W wd n++[c]]).length:=by lia
    have D:=λh=>A.all B (λz=>o z.symm) d b h;have C:=λh=>A.all B (λz=>o z.symm) b d h;rw[E]at D C;refine⟨?_,D,C⟩;rcases inv d with⟨Z,G,_⟩ | z
    ·rcases inv b with⟨_,N,_⟩ | y
     ·rw[G,N]
     ·have:=H.lt y;lia
    ·rcases inv b with⟨y1,_,_⟩ | y
     ·have:=H.lt z;lia
     ·rw[z,y]
   ·rintro⟨h,g⟩;have:iY nd a ((W wd n).length+1) wd.length x=iY nd a ((W wd n).length+1) wd.length y:=by
     unfold iY;rw[h];by_cases q:nd y=Y a
     ·have e1:=Nl (by rw[h,q]);have e2:=Nl q;by_cases l:y.length<=(W wd n).length+1
      ·rw[Zs ⟨q,e1.mpr (g.mpr (e2.mp l))⟩,Zs ⟨q,l⟩]
      ·rw[Zo (λz=>l (e2.mpr (g.mp (e1.mp z.2)))),Zo (λz=>l z.2)]
     ·rw[Zo (λz=>q z.1),Zo (λz=>q z.1)]
    rw[d,b]at this;exact Zl this
  ·unfold iY;rw[Zo (λz=>v (by rw[h]at z;exact Zl z.1))];exact h
end
section
def I.step(H:I J S nd wd)(O:h<wd.length)(hc:97<=c/\c<=122)(hk:(W wd h).length+1<1000) :
  ∃S' r w J4,hb S h c=Y (S',r)/\I J S' w J4/\r<J4.length/\W J4 r=W wd h++[c]/\(∀m,m<wd.length->W J4 m=W wd m)/\wd.length<=J4.length/\J4.length<=wd.length+2 ∧
   (∀x,(∃m,w x=Y m)↔(∃m,nd x=Y m)\/x <:+ W wd h++[c])/\Ua nd w (W wd h++[c]):=by
 cases hg:gW (S.wy.getD h []) c with
 |some old =>
  refine L2.aq λP_ F=>?_;obtain⟨S',r,w,J4,e,H',h1,_,h2,h3,h4,h5,h6,h7,_⟩:=H.Td O (λz=>nomatch z) hc hg (λz=>nomatch z) (λz=>nomatch z) (by exact Xr hk);refine F ?_;refine⟨S',r,w,J4,?_,H',h1,h2,h3,h4,by exact Vx h5,λx=>(h6 x).trans ⟨.inl,λz=>z.elim id λz=>H.Pb (H.way O hg) z⟩,h7⟩;unfold hb;rw[hg];exact e
 |none =>
  have P:=H.len.symm;refine L2.aq λP_ F=>?_;obtain⟨o,o',e1,A,k0,k1,k2,k3,k4⟩:=H.fresh O hc hg (by exact Xr hk);refine F ?_;have WL:W (wd++[W wd h++[c]]) wd.length=W wd h++[c]:=(bZ wd _ _ _).trans (Zs L);have Wl:∀m,m<wd.length->W (wd++[W wd h++[c]]) m=W wd m:=λm hm=>(bZ wd _ _ m).trans (Zo (Ze hm));have dh:(wd++[W wd h++[c]]).length=wd.length+1:=by rw[Zx];rfl
  have lw:(W wd h++[c]).length=(W wd h).length+1:=by rw[Zx];rfl
  have ex:∀x,(∃m,iJ nd (W wd h++[c]) wd.length x=Y m)↔(∃m,nd x=Y m)\/x <:+ W wd h++[c]:=λx=>⟨λ⟨m,q⟩=>(c6 q).elim (λz=>.inl ⟨_,z⟩) λz=>.inr z.2.2,λq=>by
   cases e:nd x with
   |some m=>exact⟨m,dI e⟩
   |none=>exact q.elim (λ⟨m,z⟩=>by rw[e]at z;cases z) λz=>⟨_,fY e z⟩⟩
  have same:∀{x y m n},iJ nd (W wd h++[c]) wd.length x=Y m->iJ nd (W wd h++[c]) wd.length y=Y n->(m=n↔nd x=nd y):=λ{x y m n} s j=>by
   rcases c6 s with z | ⟨z1,z2,_⟩
   ·rcases c6 j with i | ⟨y1,y2,_⟩
    ·rw[z,i];exact⟨λe=>by rw[e],λe=>Zl e⟩
    ·have:=H.lt z;refine⟨λe=>by lia,λe=>?_⟩;rw[z,y2]at e;cases e
   ·rcases c6 j with i | ⟨y1,y2,_⟩
    ·have:=H.lt i;refine⟨λe=>by lia,λe=>?_⟩;rw[z2,i]at e;cases e
    ·exact⟨λ_=>by rw[z2,y2],λ_=>by rw[z1,y1]⟩
  have PQ:∀{y},y <:+ W wd h++[c]->y≠[]->∀{q},nd y=Y q->∃i m,y=i++[c]/\i <:+ W wd h/\nd i=Y m/\m<wd.length/\W wd m <:+ W wd h/\(gW (S.wy.getD m []) c).isSome:=λ{y} d K6 {q} Z=>by
   obtain⟨i,rfl,Pg⟩:=yY d K6;obtain⟨m,E,m2⟩:=H.Ue O (λz=>nomatch z) Pg;exact⟨i,m,rfl,Pg,E,H.lt E,m2,by rw[H.wy E c,Z];rfl⟩
  unfold hb;rw[hg,Zo (by simp),e1];cases o' with
  |none =>
   have none_:∀{y},y <:+ W wd h++[c]->y≠[]->nd y=J:=λ{y} d K6=>by
    cases e:nd y with
    |none=>rfl
    |some q =>
     obtain⟨i,m,_,_,_,m3,m4,D⟩:=PQ d K6 e;rw[(k3 L) m m3 m4]at D;cases D
   have H3:=A.fix (m:=0) (by lia) (by lia) (by rw[A.wz];exact WE) (by rw[A.wz,WL,lw];exact Xm _) (λy d g=>by
    rw[WL]at d;rw[A.wz]at g;exact fY (none_ d (λe=>by rw[e]at g;cases g)) d)
   have eS:(⟨o.lg,o.lk.set wd.length (Y 0),o.wy⟩:St)=o:=by
    have g:wd.length<o.lk.length:=by rw[A.wf.lk,← A.len,dh];exact Ym _
    have:o.lk.set wd.length (Y 0)=o.lk:=by
     rw[Zq,Zp g,Wx]at k0;rw[← k0];exact Vb g
    rw[this]
   rw[eS]at H3;refine⟨o,S.lg.length,_,_,rfl,H3,by rw[dh,P];exact Ym _,by rw[P];exact WL,Wl,by lia,by lia,ex,⟨λ{x y m n} s j=>?_⟩⟩;rw[same s j];refine⟨λe=>⟨e,?_⟩,λe=>e.1⟩;have key:∀{x y m n},iJ nd (W wd h++[c]) wd.length x=Y m->iJ nd (W wd h++[c]) wd.length y=Y n->nd x=nd y->x <:+ W wd h++[c]->y <:+ W wd h++[c]:=λ{x y m n} s j e hx=>by
    rcases c6 j with z | z
    ·rw[z]at e;by_cases N:x=[]
     ·subst N;rw[H.z]at e;cases e;rw[H.zero z];exact WE
     ·rw[none_ hx N]at e;cases e
    ·exact z.2.2
   exact⟨key s j e,key j s e.symm⟩
  |some p =>
   refine L2.aq λP_ F=>?_;obtain⟨B,X,p3,p4⟩:=k4 p L;obtain⟨old,ho⟩:=YC.mp p3;have ho2:gW (o.wy.getD p []) c=Y old:=by rw[k2 p B p3];exact ho
   have C:=H.way B ho;have hold:=H.lt C;have ph:(W wd p).length<(W wd h).length:=by
    rcases VJ X.length_le with l | l
    ·exact l
    ·have:=H.inj B O (X.eq_of_length l);rw[this,hg]at ho;cases ho
   obtain⟨S3,r,w,J4,f1,H3,f2,f2',f3,f4,f5,f6,f7,f8,f9⟩:=A.Td (n:=p) (c:=c) (by lia) (λz=>by have:=Zl z;lia) hc ho2 (λz=>by have:=Zl z;lia) (λz=>by have:=Zl z;lia) (by rw[Wl p B];lia);refine F ?_;rw[Wl p B]at f3 f8;have v:(W wd p++[c]).length=(W wd p).length+1:=by rw[Zx];rfl
   have VE:W J4 wd.length=W wd h++[c]:=by rw[f4 _ (by lia),WL]
   have none_:∀{y},y <:+ W wd h++[c]->(W wd p).length+1<y.length->nd y=J:=λ{y} d g=>by
    cases e:nd y with
    |none=>rfl
    |some q =>
     obtain⟨i,m,rfl,E,m2,m3,m4,D⟩:=PQ d (λe=>by rw[e]at g;cases g) e;have l1:=(H.sf m2).length_le;rw[Zx,ZR]at g;rw[p4 m m3 m4 (by lia)]at D;cases D
   refine⟨⟨S3.lg,S3.lk.set S.lg.length (Y r),S3.wy⟩,S.lg.length,w,J4,?_,by rw[P];exact(H3.fix (f:=wd.length) (m:=r) (by lia) f2 (by rw[f3,VE];exact iF c X) (by rw[f3,VE,v,lw];exact Nat.succ_lt_succ ph) (λy d g=>by
    rw[VE]at d;rw[f3,v]at g;exact f9 y wd.length (by exact WX hold) (fY (none_ d g) d))),by rw[P];lia,by rw[P];exact VE,λm hm=>by rw[f4 m (by lia),Wl m hm],by lia,by lia,λx=>(f7 x).trans (ex x),⟨λ{x y m n} s j=>?_⟩⟩
   ·show (P5 o p c).map _=_;rw[f1];rfl
   ·rw[f8.eq s j];obtain⟨E,U⟩:=(f7 x).mp ⟨m,s⟩;obtain⟨n1,Q⟩:=(f7 y).mp ⟨n,j⟩;have e1:iJ nd (W wd h++[c]) wd.length x=iJ nd (W wd h++[c]) wd.length y↔nd x=nd y:=by
     rw[U,Q];exact⟨λe=>(same U Q).mp (Zl e),λe=>by rw[(same U Q).mpr e]⟩
    rw[e1];have sw:=iF c X;have kn:∀{z q},nd z=Y q->(z <:+ W wd h++[c]↔z <:+ W wd p++[c]):=λ{z q} G=>⟨λa=>bV a sw (by
     rw[v];refine ZD λb=>?_;rw[none_ a b]at G;cases G),λa=>a.trans sw⟩
    have un:∀{z q},nd z=J->iJ nd (W wd h++[c]) wd.length z=Y q->z <:+ W wd h++[c]/\¬z <:+ W wd p++[c]:=λ{z q} G a=>by
     rcases c6 a with b | b
     ·rw[G]at b;cases b
     ·refine⟨b.2.2,λa=>?_⟩;obtain⟨q',Z⟩:=H.Pb C a;rw[G]at Z;cases Z
    refine⟨λ⟨a,b⟩=>⟨a,?_⟩,λ⟨a,b⟩=>⟨a,?_⟩⟩
    ·cases u:nd x with
     |some q=>rw[kn u,kn (by rw[← a,u])];exact b
     |none =>
      exact⟨λ_=>(un (show nd y=J by rw[← a,u]) Q).1,λ_=>(un u U).1⟩
    ·cases u:nd x with
     |some q=>rw[← kn u,← kn (by rw[← a,u])];exact b
     |none =>
      exact⟨λz=>absurd z (un u U).2,λz=>absurd z (un (show nd y=J by rw[← a,u]) Q).2⟩
end
structure K(P:Wd->Prop)(S:St)(nd:Wd->Option Nat)(wd:List Wd):Prop where
 i:I none S nd wd
 nil:P []
 some:∀x,(∃m,nd x=some m) ↔ ∃p,P p/\x <:+ p
 eq:∀{x y m n},nd x=.some m->nd y=.some n->(m=n ↔ ∀p,P p->(x <:+ p↔y <:+ p))
def K.congr(H:K P S b a)(h:∀p,P p↔Q p):K Q S b a:=by
 have:P=Q:=funext λp=>propext (h p);rw[← this];exact H
noncomputable def nd0(x:Wd):Option Nat:=if x=[] then Y 0 else J
def fU(h:nd0 x=Y n):x=[]/\n=0:=by
 unfold nd0 at h;split at h
 ·exact⟨by assumption,(Zl h).symm⟩
 ·cases h
def K0:K (λp=>p=[]) S0 nd0 [[]]:=by
 refine⟨⟨Et,rfl,λn d=>?_,rfl,rfl,λ{x n} h=>?_,λ{x n} h=>?_,λ{n} d=>?_,λ{x y n} h b a=>?_,λ{x c n} h=>?_,λ{x y n} h b=>?_,rfl,λ{n} b a=>?_,λ{x n} h c=>?_⟩,rfl,λx=>?_,λ{x y m n} b a=>?_⟩
 ·have:n=0:=Nat.lt_one_iff.mp d;subst this;rfl
 ·rw[(fU h).2];exact Nat.one_pos
 ·rw[(fU h).1];exact WE
 ·have:n=0:=Nat.lt_one_iff.mp d;subst this;rfl
 ·have e:=(fU h).2;subst e;have:y=[]:=YW.mp a;subst this;rfl
 ·have:=(fU h).1;exact absurd this (by simp)
 ·have e:=(fU h).1;subst e;have:x=[]:=YW.mp b;subst this;exact⟨0,rfl⟩
 ·have:n<1:=a;lia
 ·obtain⟨rfl,rfl⟩:=(fU h)
  rfl
 ·constructor
  ·rintro⟨m,h⟩;exact⟨[],rfl,by rw[(fU h).1];exact WE⟩
  ·rintro⟨p,rfl,h⟩;have:x=[]:=YW.mp h;subst this;exact⟨0,rfl⟩
 ·obtain⟨rfl,rfl⟩:=fU b;obtain⟨rfl,rfl⟩:=fU a;exact⟨λ_ _ _=>Iff.rfl,λ_=>rfl⟩
section
theorem K.step(H:K P S nd wd)(B:h<wd.length)(C:97<=c/\c<=122)(A:(W wd h).length+1<1000) :
  ∃g r j J4,hb S h c=.some (g,r)/\K (λp=>P p\/p=W wd h++[c]) g j J4/\r<J4.length/\W J4 r=W wd h++[c]/\(∀m,m<wd.length->W J4 m=W wd m)/\wd.length<=J4.length/\J4.length<=wd.length+2:=by
 refine L2.aq λU v=>?_;obtain⟨g,r,j,J4,e,Q,O,N,G,F,E,u,D⟩:=H.i.step B C A;refine v ?_;refine⟨g,r,j,J4,e,⟨Q,.inl H.nil,λx=>?_,λ{x y m n} s o=>?_⟩,O,N,G,F,E⟩
 ·rw[u,H.some];constructor
  ·rintro (⟨p,a,b⟩ | a)
   ·exact⟨p,.inl a,b⟩
   ·exact⟨_,.inr L,a⟩
  ·rintro⟨p,a | rfl,b⟩
   ·exact .inl ⟨p,a,b⟩
   ·exact .inr b
 ·rw[D.eq s o];have un:∀{z q},j z=.some q->nd z=J->z <:+ W wd h++[c]/\∀p,P p->¬z <:+ p:=λ{z q} a b=>⟨((u z).mp ⟨q,a⟩).elim (λ⟨m,x⟩=>by rw[b]at x;cases x) id,λp d w=>by
   obtain⟨m,x⟩:=(H.some z).mpr ⟨p,d,w⟩;rw[b]at x;cases x⟩
  have old:nd x=nd y ↔ ∀p,P p->(x <:+ p↔y <:+ p):=by
   cases ex:nd x with
   |some a =>
    cases f:nd y with
    |some b=>exact⟨λe=>(H.eq ex f).mp (Zl e),λe=>by rw[(H.eq ex f).mpr e]⟩
    |none =>
     refine⟨λe=>(nomatch e),λe=>?_⟩;obtain⟨p,d,l⟩:=(H.some x).mp ⟨a,ex⟩;exact absurd ((e p d).mp l) ((un o f).2 p d)
   |none =>
    cases f:nd y with
    |some b =>
     refine⟨λe=>(nomatch e),λe=>?_⟩;obtain⟨p,d,l⟩:=(H.some y).mp ⟨b,f⟩;exact absurd ((e p d).mpr l) ((un s ex).2 p d)
    |none=>exact⟨λ_ p d=>⟨λz=>absurd z ((un s ex).2 p d),λz=>absurd z ((un o f).2 p d)⟩,λ_=>rfl⟩
  rw[old];constructor
  ·rintro⟨a,b⟩ p (d | rfl)
   ·exact a p d
   ·exact b
  ·intro a;exact⟨λp d=>a p (.inl d),a _ (.inr L)⟩
end
def K.grow:∀(w:Uv){P:Wd->Prop}{S:St}{nd:Wd->Option Nat}{b:List Wd}(H:K P S nd b){h:Nat},h<b.length->P (W b h)->(∀c∈w,97<=c/\c<=122)->(W b h).length+w.length<1000 →
  ∃q r F J4,hg S h w=.some (q,r)/\K (λp=>P p\/∃v,v <+: w/\p=W b h++v) q F J4/\r<J4.length/\W J4 r=W b h++w/\(∀m,m<b.length->W J4 m=W b m)/\b.length<=J4.length/\J4.length<=b.length+2*w.length:=by
 intro w
 induction w with
 |nil =>
  intro P S nd b H h j i hw n;refine⟨S,h,nd,b,rfl,H.congr λp=>⟨.inl,?_⟩,j,(ZL _).symm,λ_ _=>rfl,Zn _,Zn _⟩;rintro (a | ⟨v,a,rfl⟩)
  ·exact a
  ·rw[List.prefix_nil.mp a,ZL];exact i
 |cons c w u =>
  intro P S nd b H h j i hw n;rw[Zf]at n;refine L2.aq λX s=>?_;obtain⟨U,r1,Z,Q,e1,L,C,e,B,o,O⟩:=H.step j (hw c Zv) (by lia);obtain⟨E,r2,g,f,e2,G,A,z,y,x,N⟩:=u L C (.inr e) (λd hd=>hw d (Zu _ hd)) (by rw[e,Zx,ZR];lia);refine s ?_;refine⟨E,r2,g,f,?_,G.congr λp=>?_,A,?_,λm l=>by rw[y m (by exact Zi l o),B m l],by exact ZS o x,by rw[Zf];lia⟩
  ·show (hb S h c).bind _=_;rw[e1];exact e2
  ·rw[e];constructor
   ·rintro ((a | rfl) | ⟨v,a,rfl⟩)
    ·exact .inl a
    ·exact .inr ⟨[c],Va.mpr ⟨rfl,List.nil_prefix⟩,rfl⟩
    ·exact .inr ⟨c :: v,Va.mpr ⟨rfl,a⟩,by rw[Zb];rfl⟩
   ·rintro (a | ⟨v,a,rfl⟩)
    ·exact .inl (.inl a)
    ·cases v with
     |nil=>rw[ZL];exact .inl (.inl i)
     |cons d v =>
      obtain⟨rfl,D⟩:=Va.mp a;exact .inr ⟨v,D,by rw[Zb];rfl⟩
  ·rw[z,e,Zb];rfl
def mB(S:St):List Wd->Option St
 |[]=>Y S
 |t :: b=>(hg S 0 t).bind λz=>mB z.1 b
def K.book:∀(b:List Wd){P:Wd->Prop}{S:St}{nd:Wd->Option Nat}{d:List Wd}(H:K P S nd d),(∀t∈b,∀c∈t,97<=c/\c<=122)->(∀t∈b,t.length<1000) →
  ∃m w J4,mB S b=.some m/\K (λp=>P p\/∃t∈b,p <+: t) m w J4/\d.length<=J4.length/\J4.length<=d.length+2*(b.map List.length).sum:=by
 intro b
 induction b with
 |nil =>
  intro P S nd d H _ _;refine⟨S,nd,d,rfl,H.congr λp=>⟨.inl,?_⟩,Zn _,Za _ _⟩;rintro (a | ⟨t,f,_⟩)
  ·exact a
  ·cases f
 |cons t b o =>
  intro P S nd d H l j;refine L2.aq λL n=>?_;obtain⟨G,r1,N,F,e1,y,E,D,C,r,B⟩:=H.grow t (H.i.lt H.i.z) (by rw[H.i.wz];exact H.nil) (l t Zv) (by rw[H.i.wz];have:=j t Zv;simpa using this);obtain⟨s,h,g,e2,x,q,A⟩:=o y (λt f=>l t (Zu _ f)) (λt f=>j t (Zu _ f));refine n ?_;refine⟨s,h,g,?_,x.congr λp=>?_,by exact ZS r q,by rw[Zk,Vs];lia⟩
  ·show (hg S 0 t).bind _=_;rw[e1];exact e2
  ·rw[H.i.wz];constructor
   ·rintro ((a | ⟨v,a,rfl⟩) | ⟨u,e,a⟩)
    ·exact .inl a
    ·exact .inr ⟨t,Zv,a⟩
    ·exact .inr ⟨u,Zu _ e,a⟩
   ·rintro (a | ⟨u,e,a⟩)
    ·exact .inl (.inl a)
    ·rcases Zg.mp e with rfl | e
     ·exact .inl (.inr ⟨p,a,rfl⟩)
     ·exact .inr ⟨u,e,a⟩
noncomputable def Hd(b:List Wd)(p:Wd):Prop:=p=[]\/∃t∈b,p <+: t
def K.of(b:List Wd)(f:∀t∈b,∀c∈t,97<=c/\c<=122)(d:∀t∈b,t.length<1000):∃S nd a,mB S0 b=.some S/\K (Hd b) S nd a/\a.length<=1+2*(b.map List.length).sum:=by
 obtain⟨S,nd,a,e,H,_,l⟩:=K0.book b f d;exact⟨S,nd,a,e,H,l⟩
def sk(w:List (Nat×Nat)):Uv:=(List.range' 97 26).filter λc=>(gW w c).isSome
def visit(w:List (Nat×Nat)):Uv->Uv->Uv
 |[],met=>met
 |c :: r,met=>visit w r (if (gW w c).getD 0∈met then met else met++[(gW w c).getD 0])
def Ny(S:St):Nat->Uv->Nat->Option (Uv)
 |k,met,d=>if d<met.length then (match k with
  |0=>J
  |k+1=>Ny S k (visit (S.wy.getD (met.getD d 0) []) (sk (S.wy.getD (met.getD d 0) [])) met) (d+1)) else Y met
def steps(S:St)(a:Uv)(n:Nat):List (Nat×Nat):=(sk (S.wy.getD n [])).map λc=>(c,a.idxOf ((gW (S.wy.getD n []) c).getD 0))
noncomputable abbrev Row:=Nat×Nat×Option Nat×List (Nat×Nat)
def row(S:St)(a:Uv)(n:Nat):Row:=match S.lk.getD n J with
 |none=>(0,0,J,steps S a n)
 |some l=>(S.lg.getD l 0+1,S.lg.getD n 0,Y (a.idxOf l),steps S a n)
def tab(S:St)(a:Uv):List Row:=a.map (row S a)
section
def lK{w:List (Nat×Nat)}{c:Nat}(h:c∈sk w):∃m,gW w c=Y m:=YC.mp (Xz.mp h).2
theorem nu(hw:∀c m,gW w c=Y m->m<N):∀(r met:Uv),(∀c∈r,∃m,gW w c=Y m)->(∀x∈met,x<N)->∀x∈visit w r met,x<N
 |[],met,_,a=>a
 |c :: r,met,b,a=>by
  refine nu hw r _ (λd hd=>b d (Zu _ hd)) ?_;obtain⟨m,e⟩:=b c Zv;rw[e,Wx];split
  ·exact a
  ·intro x g;rcases Zd.mp g with h | h
   ·exact a x h
   ·rw[Zc.mp h];exact hw c m e
def getD_mem{l:Uv}(h:d<l.length):l.getD d 0∈l:=by
 rw[Zq,Zp h];exact Yp h
end
theorem lM{w:List (Nat×Nat)}:∀(r met:Uv),∃l,visit w r met=met++l
 |[],met=>⟨[],(ZL _).symm⟩
 |c :: r,met=>by
  obtain⟨l,e⟩:=lM (w:=w) r (if (gW w c).getD 0∈met then met else met++[(gW w c).getD 0]);show ∃l,visit w r _=_;rw[e];split
  ·exact⟨l,rfl⟩
  ·exact⟨_,Zb _ _ _⟩
theorem nr{w:List (Nat×Nat)}:∀(r met:Uv),met.Nodup->(visit w r met).Nodup
 |[],met,h=>h
 |c :: r,met,h=>by
  refine nr (w:=w) r _ ?_;split
  ·exact h
  ·rename_i q;rw[ZA];refine⟨h,by simp,λa d b hb e=>q ?_⟩;rw[Zc.mp hb]at e;rw[← e];exact d
theorem p5{w:List (Nat×Nat)}:∀(r met:Uv),∀c∈r,(gW w c).getD 0∈visit w r met
 |d :: r,met,c,a=>by
  rcases Zg.mp a with rfl | a
  ·obtain⟨l,e⟩:=lM (w:=w) r (if (gW w c).getD 0∈met then met else met++[(gW w c).getD 0]);show _∈visit w r _;rw[e];refine Ye _ ?_;split
   ·assumption
   ·exact ZI _ Zv
  ·exact p5 r _ c a
def Bq(d:∀p∈w,97<=p.1/\p.1<=122)(h:gW w c=Y m):c∈sk w:=by
 refine Xz.mpr ⟨?_,by rw[h];rfl⟩;obtain⟨p,a,_⟩:=Zt.mp h;have:=d p (List.mem_of_find?_eq_some a);have b:p.1=c:=by simpa using(Vd a)
 rw[b]at this;rw[List.mem_range'_1];lia
def GA(o:WF S):∀(k:Nat)(met:Uv)(d:Nat),met.Nodup->(∀x∈met,x<S.lg.length)->d<=met.length->S.lg.length<=k+d->(∀i,i<d->∀c m,gW (S.wy.getD (met.getD i 0) []) c=Y m->m∈met) →
  ∃l,Ny S k met d=Y (met++l)/\(met++l).Nodup/\(∀x∈met++l,x<S.lg.length)/\∀n∈met++l,∀c m,gW (S.wy.getD n []) c=Y m->m∈met++l:=by
 intro k;have fin:∀(met:Uv)(d:Nat),¬d<met.length->d<=met.length->(∀i,i<d->∀c m,gW (S.wy.getD (met.getD i 0) []) c=Y m->m∈met)->∀n∈met,∀c m,gW (S.wy.getD n []) c=Y m->m∈met:=by
  intro met d f b h n u c m e;obtain⟨i,g,q⟩:=List.mem_iff_getElem.mp u;refine h i (by lia) c m ?_;have:met.getD i 0=n:=by rw[Zq,Zp g,q];rfl
  rw[this];exact e
 induction k with
 |zero =>
  intro met d nd lt hd v h;have A:met.length<=S.lg.length:=by
   have:=sub_len met (List.range S.lg.length) nd λx s=>Yq.mpr (lt x s)
   rwa [LM]at this
  have a:¬d<met.length:=by lia
  refine⟨[],?_,?_⟩
  ·unfold Ny;rw[Zo a,ZL]
  ·rw[ZL];exact⟨nd,lt,fin met d a hd h⟩
 |succ k r =>
  intro met d nd lt hd v h;by_cases a:d<met.length
  ·obtain⟨p,e1⟩:=lM (sk (S.wy.getD (met.getD d 0) [])) met;obtain⟨l,e,f,b,j⟩:=r (visit (S.wy.getD (met.getD d 0) []) (sk (S.wy.getD (met.getD d 0) [])) met) (d+1) (nr _ _ nd) (nu (λc m e=>o.on _ c m e) _ _ (λc y=>lK y) lt) (by rw[e1,Zx];lia) (by lia) (λi g c m e=>by
    have z:(visit (S.wy.getD (met.getD d 0) []) (sk (S.wy.getD (met.getD d 0) [])) met).getD i 0=met.getD i 0:=by
     rw[e1,Zq,Zq,Yr (by lia)]
    rw[z]at e;by_cases q:i=d
    ·subst q;have:=p5 (w:=S.wy.getD (met.getD i 0) []) (sk (S.wy.getD (met.getD i 0) [])) met c (Bq (o.SD _).2 e);rw[e]at this;exact this
    ·rw[e1];exact Ye _ (h i (by lia) c m e))
   rw[e1,Zb]at f b j;refine⟨p++l,?_,f,b,j⟩;unfold Ny;rw[Zs a];show Ny S k _ (d+1)=_;rw[e,e1,Zb]
  ·refine⟨[],?_,?_⟩
   ·unfold Ny;rw[Zo a,ZL]
   ·rw[ZL];exact⟨nd,lt,fin met d a hd h⟩
def DY{α:Type}{p:List α->Prop}(h0:p [])(h1:∀l a,p l->p (l++[a]))(l:List α):p l:=by
 have:∀l:List α,p l.reverse:=by
  intro l
  induction l with
  |nil=>exact h0
  |cons a l ih=>rw[List.reverse_cons];exact h1 _ a ih
 rw[← List.reverse_reverse l];exact this _
def K.met{S:St}(H:K P S nd wd){k:Nat}(hk:wd.length<=k):∃l,Ny S k [0] 0=Y (0 :: l)/\(0 :: l).Nodup/\(∀x,x∈0 :: l↔x<wd.length)/\(0 :: l).length=wd.length:=by
 have L:=H.i.len.symm;obtain⟨l,e,h1,h2,h3⟩:=GA H.i.wf k [0] 0 (by simp) (λx hx=>by rw[Zc.mp hx];exact H.i.wf.pos) (ZE _) (by lia) (λi hi=>absurd hi (Nat.not_lt_zero _));have h0:∀(x:Wd) n,nd x=Y n->n∈0 :: l:=by
  intro x
  induction x using DY with
  |h0=>intro n e;rw[H.i.z]at e;cases e;exact Zv
  |h1 x c ih =>
   intro n e;obtain⟨m,hm⟩:=H.i.pre e;exact h3 m (ih m hm) c n (by rw[H.i.wy hm];exact e)
 have hx:∀x,x∈0 :: l↔x<wd.length:=λx=>⟨λz=>by rw[← L];exact h2 x z,λz=>h0 _ x (H.i.top z)⟩
 refine⟨l,e,h1,hx,Xo ?_ ?_⟩
 ·have:=sub_len (0 :: l) (List.range wd.length) h1 λx z=>Yq.mpr ((hx x).mp z)
  rwa [LM]at this
 ·have:=sub_len (List.range wd.length) (0 :: l) V9 λx z=>(hx x).mpr (Yq.mp z)
  rwa [LM]at this
end AU
end
section
namespace T23
open VS AU
def Cp(w:List (Nat×Nat))(c:Nat):c∈w.map (·.1)↔(gW w c).isSome=M:=by
 rw[← FP,XS,ZC];exact⟨λ⟨p,b,a⟩=>⟨p,b,by rw[a];exact beq_self_eq_true c⟩,λ⟨p,b,a⟩=>⟨p,b,by simpa using a⟩⟩
def vZ{w:List (Nat×Nat)}(a:(w.map (·.1)).Nodup)(b:∀p∈w,97<=p.1/\p.1<=122):(sk w).Perm (w.map (·.1)):=by
 refine(List.perm_ext_iff_of_nodup ?_ a).mpr λc=>?_
 ·exact VH VN List.nodup_range'
 ·rw[Cp];constructor
  ·intro h;exact(Xz.mp h).2
  ·intro h;obtain⟨m,e⟩:=YC.mp h;exact Bq b e
def zL{w:List (Nat×Nat)}(e:(w.map (·.1)).Nodup)(d:∀p∈w,97<=p.1/\p.1<=122):hV [(m,Kl w)]=Y (.fr,.lst ((sk w).map λc=>T.str [c])):=by
 show ((strs? ((w.map λp=>(T.str [p.1],T.int (p.2:Int))).map (·.1))).bind _)=_;have e1:(w.map λp=>(T.str [p.1],T.int (p.2:Int))).map (·.1)=(w.map (·.1)).map λc=>T.str [c]:=by
  rw[La,La];rfl
 rw[e1,strs_map (λc=>[c]),Zr,Zs]
 ·have:(sk w).map (λc=>[c])=fM ((w.map (·.1)).map λc=>[c]):=by
   refine pX ((vZ e d).map _) ?_;rw[Xq];refine List.Pairwise.imp ?_ (VT _ (List.pairwise_lt_range'));intro a b j h;rcases WO.mp h with h | ⟨_,h⟩
   ·lia
   ·exact absurd h (List.not_lt_nil _)
  rw[← this,La];rfl
 ·refine⟨?_,Lw.mpr ?_⟩
  ·rw[Zw,← (vZ e d).length_eq];have:(sk w).length<=(List.range' 97 26).length:=Xj _ _;rw[W8]at this;lia
  intro s f;obtain⟨c,i,rfl⟩:=ZC.mp f;obtain⟨p,g,rfl⟩:=ZC.mp i;have:=d p g;show (decide (1<=gL)&&(decide (p.1<1114112)&&M))=M;rw[Lu (show p.1<1114112 by lia)];rfl
noncomputable def nE:Nat->Uv->List (T×T)
 |_,[]=>[]
 |k,n :: r=>(T.int (n:Int),T.int (k:Int)) :: nE (k+1) r
theorem Bv:∀(met:Uv)(k:Nat),(nE k met).length=met.length
 |[],_=>rfl
 |_ :: r,k=>by rw[nE,Zf,Zf,Bv r]
theorem rB:∀(met:Uv)(k:Nat),(nE k met).map (·.1)=met.map λ(n:Nat)=>T.int (n:Int)
 |[],_=>rfl
 |_ :: r,k=>by rw[nE,Zk,Zk,rB r]
theorem Bp:∀(met:Uv)(k n:Nat),nE k (met++[n])=nE k met++[(T.int (n:Int),T.int ((k+met.length:Nat):Int))]
 |[],k,n=>rfl
 |m :: r,k,n=>by
  rw[Vm,nE,nE,Bp r (k+1) n,Zf,Vm];rw[show k+1+r.length=k+(r.length+1) by lia]
def Jx(a b:Nat):eqT (.int (a:Int)) (.int (b:Int))=(a==b):=by
 simp only[eqT];by_cases h:a=b
 ·simp[h]
 ·rw[beq_eq_false_iff_ne.mpr h,beq_eq_false_iff_ne.mpr (by lia)]
theorem qz:∀(met:Uv)(k n:Nat),dR (nE k met) (.int (n:Int))=if n∈met then Y (T.int ((k+met.idxOf n:Nat):Int)) else J
 |[],_,_=>rfl
 |m :: r,k,n=>by
  show ((((T.int (m:Int),T.int (k:Int)) :: nE (k+1) r).find? λp=>eqT p.1 (.int (n:Int))).map (·.2))=_;rw[Yo];simp only[Jx];by_cases h:m=n
  ·subst h;simp[List.idxOf_cons]
  ·have hb:=beq_eq_false_iff_ne.mpr h;have a:=qz r (k+1) n;unfold dR at a;simp only[hb];rw[a,List.idxOf_cons,hb];by_cases q:n∈r
   ·rw[Zs q,Zs (Zu _ q)];show Y (T.int ((k+1+r.idxOf n:Nat):Int))=Y (T.int ((k+(r.idxOf n+1):Nat):Int));rw[show k+1+r.idxOf n=k+(r.idxOf n+1) by lia]
   ·rw[Zo q,Zo (λz=>(Zg.mp z).elim (λe=>h e.symm) q)]
def G6(a:Uv)(n:Nat)(h:n∉a):dput (nE 0 a) (.int (n:Int)) (.int (a.length:Int))=nE 0 (a++[n]):=by
 unfold dput;rw[Zo,Bp]
 ·rw[YL]
 ·intro z;obtain⟨p,b,e⟩:=XS.mp z;have:(dR (nE 0 a) (.int (n:Int))).isSome=M:=by
   unfold dR;rw[Xd,List.find?_isSome];exact⟨p,b,e⟩
  rw[qz,Zo h]at this;cases this
def nT(a:Uv):T:=.dct 0 (nE 0 a)
noncomputable def mT(a:Uv):T:=.lst (a.map λ(n:Nat)=>T.int (n:Int))
def Eg{n:Nat}(h:a U=Y (m,nT d))(he:e U=Y (k,.int (n:Int))):e2 dB e a U=Y (.fr,.bl (decide (n∉d))):=e2v he h (by
 show (match (if M=M then Y (Md.fr,T.bl (dR (nE 0 d) (.int (n:Int))).isSome) else J) with | some (_,.bl b)=>some (Md.fr,T.bl (!b)) | _=>none)=_;rw[Zs L,qz];by_cases q:n∈d
 ·rw[Zs q,ZZ (λz=>z q)];rfl
 ·rw[Zo q,Lu q];rfl)
section
theorem zV{d:Nat}:∀(r met:Uv)(z:Us),(∀c∈r,∃m,gW w c=Y m)->met.length+r.length<16777216->∃b,forL (bx 5) dw (r.map λc=>T.str [c]) [a,oc (nT met),oc (mT met),Q0 (d:Int),pc (Kl w),z]=Y (.nx [a,oc (nT (visit w r met)),oc (mT (visit w r met)),Q0 (d:Int),pc (Kl w),b])
 |[],met,z,_,_=>⟨z,rfl⟩
 |c :: r,met,z,h,l=>by
  obtain⟨m,e⟩:=h c Zv;rw[Zf]at l;by_cases q:m∈met
  ·obtain⟨b,g⟩:=zV r met (Q2 ([c])) (λd hd=>h d (Zu _ hd)) (by lia);refine⟨b,?_⟩;have ev:visit w (c :: r) met=visit w r met:=by
    show visit w r (if (gW w c).getD 0∈met then met else met++[(gW w c).getD 0])=_;rw[e,Wx,Zs q]
   rw[ev,Zk];refine(bR L ?_).trans g;refine(lL (m:=.fr) ?_).trans L;refine(Eg L (xx L L e)).trans ?_;rw[ZZ (λz=>z q)]
  ·obtain⟨b,g⟩:=zV r (met++[m]) (Q2 ([c])) (λd hd=>h d (Zu _ hd)) (by rw[Zx,ZR];lia);refine⟨b,?_⟩;have ev:visit w (c :: r) met=visit w r (met++[m]):=by
    show visit w r (if (gW w c).getD 0∈met then met else met++[(gW w c).getD 0])=_;rw[e,Wx,Zo q]
   rw[ev,Zk];refine(bR L ?_).trans g;refine(oj (m:=.fr) ?_).trans ?_
   ·refine(Eg L (xx L L e)).trans ?_;rw[Lu q]
   ·have f:∀nn i:Us,e2 LU (ab 4) (ab 5) [a,nn,i,Q0 (d:Int),pc (Kl w),Q2 ([c])]=Y (.fr,.int (m:Int)):=λnn i=>xx L L e;have j:nK 1 (e2 LU (ab 4) (ab 5)) (eN bU (ae (ab 2) ak)) [a,oc (nT met),oc (mT met),Q0 (d:Int),pc (Kl w),Q2 ([c])]=Y (.nx [a,oc (nT (met++[m])),oc (mT met),Q0 (d:Int),pc (Kl w),Q2 ([c])]):=by
     unfold nK;rw[(gM (xv (x:=(.bo,mT met)) L L) (by
      show Y (Md.fr,T.int (((met.map λ(n:Nat)=>T.int (n:Int)).length:Nat):Int))=_;rw[Zw])),Zr]
     show ((e2 LU (ab 4) (ab 5) [a,oc (nT met),oc (mT met),Q0 (d:Int),pc (Kl w),Q2 ([c])]).bind _)=_;rw[f,Zr];rw[Zs ⟨rfl,rfl,by rw[(Bv met 0)];show met.length<16777216;lia⟩,G6 met m q];rfl
    refine(av j).trans ?_;refine(lE L (f _ _) (by rw[Zw];lia)).trans ?_;rw[show (met.map λ(n:Nat)=>T.int (n:Int))++[.int (m:Int)]=(met++[m]).map λ(n:Nat)=>T.int (n:Int) from by rw[Yy];rfl];rfl
end
def uK(w:List (Nat×Nat)):(sk w).length<=26:=by
 refine ZS (Xj _ _) ?_;rw[W8];exact Zn _
def Ce{S:St}{a:Uv}(b:a.Nodup)(d:∀x∈a,x<S.lg.length):a.length<=S.lg.length:=by
 have:=sub_len a (List.range S.lg.length) b λx e=>Yq.mpr (d x e)
 rwa [LM]at this
def HN(o:WF S)(A:S.lg.length<=100001):∀(k:Nat)(met:Uv)(d:Nat)(M:Uv),met.Nodup->(∀x∈met,x<S.lg.length)->Ny S k met d=Y M->∀N,k<N->∀f a:Us,∃l i g,
  dG (e2 oLt (ab 3) (eN bU (ae (ab 2) ak))) dy N [pc (xt S R),oc (nT met),oc (mT met),Q0 ((d:Nat):Int),f,a] =
   Y (.nx [pc (xt S R),oc (nT M),oc (mT M),pc l,i,g]):=by
 have cond:∀(met:Uv)(d:Nat)(f a:Us),e2 oLt (ab 3) (eN bU (ae (ab 2) ak)) [pc (xt S R),oc (nT met),oc (mT met),Q0 ((d:Nat):Int),f,a]=Y (.fr,.bl (decide (d<met.length))):=λmet d f a =>
  e2v L (gM (xv L L) (by
   show Y (Md.fr,T.int (((met.map λ(n:Nat)=>T.int (n:Int)).length:Nat):Int))=_;rw[Zw])) (by
   show Y (Md.fr,T.bl (decide ((d:Int)<(met.length:Int))))=_;rw[show decide ((d:Int)<(met.length:Int))=decide (d<met.length) from decide_eq_decide.mpr (by lia)])
 intro k
 induction k with
 |zero =>
  intro met d M nd lt e N hN f a;obtain⟨N,rfl⟩:∃M,N=M+1:=⟨N-1,by lia⟩
  unfold Ny at e;split at e
  ·cases e
  ·rename_i h;cases e;exact⟨_,f,a,eu ((cond _ _ _ _).trans (by rw[ZZ h]))⟩
 |succ k v =>
  intro met d M nd lt e N hN f a;obtain⟨N,rfl⟩:∃M,N=M+1:=⟨N-1,by lia⟩
  unfold Ny at e;split at e
  ·rename_i h;have w:met.getD d 0<S.wy.length:=by rw[o.wy];exact(lt _ (getD_mem h))
   have z:=Ce nd lt;have y:=uK (S.wy.getD (met.getD d 0) []);obtain⟨p,u⟩:=zV (sk (S.wy.getD (met.getD d 0) [])) met a (λc j=>lK j) (by lia);obtain⟨l,s,r,q⟩:=v _ (d+1) M (nr _ _ nd) (nu (λc m e=>o.on _ c m e) _ _ (λc j=>lK j) lt) e N (by exact WV hN) (pc (Kl (S.wy.getD (met.getD d 0) []))) p;refine⟨l,s,r,(kh ((cond _ _ _ _).trans (by rw[Lu h])) ?_).trans q⟩;have ix:e2 aJ (ab 2) (ab 3) [pc (xt S R),oc (nT met),oc (mT met),Q0 ((d:Nat):Int),f,a]=Y (.fr,.int ((met.getD d 0:Nat):Int)):=e2v L L (jA _ met d 0 h);refine(av (aC (m:=.pu) (nM (S:=S) (b:=R) (m:=.pu) (n:=.fr) L ix w) (by decide) (by decide:4<6))).trans ?_;have nw:=o.SD (met.getD d 0);refine(av ((dU (m:=.fr) ?_ L).trans u)).trans ?_
   ·show (eN hV (ae (ab 4) ak) _).bind BN=_;rw[gM (xv L L) (zL nw.1 nw.2)];rfl
   ·exact aC L (by decide) (by decide:3<6)
  ·rename_i h;cases e;exact⟨_,f,a,eu ((cond _ _ _ _).trans (by rw[ZZ h]))⟩
def Fe(a:WF S)(g:S.lg.length<=100001){M:Uv}(h:k<1000000)(e:Ny S k [0] 0=Y M):aO [xt S R]=Y (.fr,nT M):=by
 obtain⟨i,d,b,q⟩:=HN a g k [0] 0 M (by simp) (λx f=>by rw[Zc.mp f];exact a.pos) e vE (by exact h) J J;refine d8 (U:=[pc (xt S R),J,pc (mT M),pc i,d,b]) L ?_;exact(av L).trans ((av L).trans ((av L).trans ((av q).trans ((av L).trans L))))
noncomputable def M3(l:List (Nat×Nat)):T:=.tup (l.map λp=>T.tup [.str [p.1],.int (p.2:Int)])
def fG(r:Row):T:=.tup [.int (r.1:Int),.int (r.2.1:Int),Ka r.2.2.1,M3 r.2.2.2]
theorem vL:∀l:List (Nat×Nat),hJ (l.map λp=>T.tup [.str [p.1],.int (p.2:Int)])=M
 |[]=>rfl
 |p :: l=>by
  rw[Zk];show (M&&hJ _)=M;rw[vL l];rfl
def oS(l:List (Nat×Nat)):JU (M3 l)=M:=vL l
def qH(r:Row):JU (fG r)=M:=by
 show (M&&(M&&(JU (Ka r.2.2.1)&&(JU (M3 r.2.2.2)&&M))))=M;rw[jV,oS];rfl
def HU(h:a U=Y (.fr,x))(g:b U=Y (.fr,y))(f:c U=Y (.fr,z))(e:d U=Y (.fr,w)):lY (ae a (ae b (ae c (ae d ak)))) U=Y (.fr,.tup [x,y,z,w]):=by
 show (ae a (ae b (ae c (ae d ak))) U).bind p9=_;rw[xv h (xv g (xv f (xv e L))),Zr];show Y (up .fr _)=_;unfold up;split<;>rfl
def Gq(b:WF S)(i:∀x,x<S.lg.length->x∈a)(f:n<S.lg.length):bX [xt S R,.int (n:Int),.dct 3 (nE 0 a)]=Y (.fr,fG (row S a n)):=by
 have nw:=b.SD n;have get:∀v,v<S.lg.length->dR (nE 0 a) (.int (v:Int))=Y (T.int ((a.idxOf v:Nat):Int)):=λv p=>by rw[qz,Zs (i v p),YL]
 have s1:aK 3 (e2 aJ (bB 2 (ab 0)) (ab 1)) [pc (xt S R),Q0 (n:Int),pc (.dct 3 (nE 0 a)),J,J,J]=Y (.nx [pc (xt S R),Q0 (n:Int),pc (.dct 3 (nE 0 a)),pc (Ka (S.lk.getD n J)),J,J]):=aC (xw L L (by rw[b.lk];exact f)) (by decide) (by decide:3<6);have e:aK 4 (e2 aJ (bB 3 (ab 0)) (ab 1)) [pc (xt S R),Q0 (n:Int),pc (.dct 3 (nE 0 a)),pc (Ka (S.lk.getD n J)),J,J]=Y (.nx [pc (xt S R),Q0 (n:Int),pc (.dct 3 (nE 0 a)),pc (Ka (S.lk.getD n J)),pc (Kl (S.wy.getD n [])),J]):=aC (m:=.pu) (nM L L (by rw[b.wy];exact f)) (by decide) (by decide:4<6);have r:eN kM (ae (cG 1 (bx 0) (fW (eN hV (ae (ab 4) ak))) J (lY (ae (ab 0) (ae (e2 ur (ab 3) (e2 LU (ab 5) (ab 0))) ak)))) ak) [pc (xt S R),Q0 (n:Int),pc (.dct 3 (nE 0 a)),pc (Ka (S.lk.getD n J)),pc (Kl (S.wy.getD n [])),J]=Y (.fr,M3 (steps S a n)):=by
  have s:=da (k:=1) (tg:=bx 0) (it:=fW (eN hV (ae (ab 4) ak))) (elt:=lY (ae (ab 0) (ae (e2 ur (ab 3) (e2 LU (ab 5) (ab 0))) ak))) (U:=[pc (xt S R),Q0 (n:Int),pc (.dct 3 (nE 0 a)),pc (Ka (S.lk.getD n J)),pc (Kl (S.wy.getD n [])),J]) (λc=>T.str [c]) (λc=>T.tup [.str [c],.int ((a.idxOf ((gW (S.wy.getD n []) c).getD 0):Nat):Int)]) (sk (S.wy.getD n [])) (by
   show (eN hV (ae (ab 4) ak) _).bind BN=_;rw[gM (xv L L) (zL nw.1 nw.2)];rfl) L (ZS (uK _) (by decide)) (λc q=>by
   obtain⟨v,ev⟩:=lK q;refine⟨[Q2 ([c]),pc (xt S R),Q0 (n:Int),pc (.dct 3 (nE 0 a)),pc (Ka (S.lk.getD n J)),pc (Kl (S.wy.getD n [])),J],rfl,?_⟩;rw[ev,Wx];show (ae (ab 0) (ae (e2 ur (ab 3) (e2 LU (ab 5) (ab 0))) ak) _).bind p9=_;rw[xv L (xv (e2v (x:=(.pu,.dct 3 (nE 0 a))) L (xx (m:=.pu) (n:=.fr) (c:=c) (w:=S.wy.getD n []) L L ev) (by
     show (if M=M then (dR (nE 0 a) (.int (v:Int))).map (sub .pu) else J)=_;rw[Zs L,get v (b.on n c v ev)];rfl)) L)]
   rfl)
  refine gM (xv s L) ?_;show (if _<=gL then Y (up .fr (.tup _)) else J)=_;rw[Zs (by rw[Zw];exact ZS (uK _) (by decide))];have:T.tup ((sk (S.wy.getD n [])).map λc=>T.tup [.str [c],.int ((a.idxOf ((gW (S.wy.getD n []) c).getD 0):Nat):Int)])=M3 (steps S a n):=by
   unfold M3 steps;rw[La];rfl
  rw[this];unfold up;rw[oS];rfl
 have d:=aC r (by decide) (by decide:5<6);have j:∀U:Env,U[5]?=Y (pc (M3 (steps S a n)))->ab 5 U=Y (.fr,M3 (steps S a n)):=λU h=>by
  show (match U[5]? with | some (some (.pu t))=>some (up .pu t) | some (some (.ow t))=>some (.bo,t) | _=>none)=_;rw[h];show Y (up .pu _)=_;unfold up;rw[oS];rfl
 unfold row;cases g:S.lk.getD n J with
 |none =>
  rw[g]at s1 e d;refine d8 (U:=[pc (xt S R),Q0 (n:Int),pc (.dct 3 (nE 0 a)),pc (Ka J),pc (Kl (S.wy.getD n [])),pc (M3 (steps S a n))]) L ?_;refine(av s1).trans ((av e).trans ((av d).trans (ki ((oj L).trans (dc (HU L L L (j _ L)))))))
 |some l =>
  rw[g]at s1 e d;have o:=b.up n l g;refine d8 (U:=[pc (xt S R),Q0 (n:Int),pc (.dct 3 (nE 0 a)),pc (Ka (Y l)),pc (Kl (S.wy.getD n [])),pc (M3 (steps S a n))]) L ?_;refine(av s1).trans ((av e).trans ((av d).trans ((av ((lL L).trans L)).trans (dc (HU ?_ ?_ ?_ (j _ L))))))
  ·exact e2v (uh L L o) L L
  ·exact uh L L f
  ·exact e2v L L (by
    show (if M=M then (dR (nE 0 a) (.int (l:Int))).map (sub .pu) else J)=_;rw[Zs L,get l o];rfl)
def JW(t:List Row):T:=.lst (t.map fG)
def E3(b:WF S)(g:S.lg.length<=100001){M:Uv}{k:Nat}(l:k<1000000)(e:Ny S k [0] 0=Y M)(a:∀x,x∈M↔x<S.lg.length)(j:M.length<=16777216):dM [xt S R]=Y (.fr,JW (tab S M)):=by
 have d:=Fe b g l e;refine d8 (U:=[pc (xt S R),J]) L ?_;have s1:k8 1 (fQ 0 aO (ab 0) ak) [pc (xt S R),J]=Y (.nx [pc (xt S R),oc (nT M)]):=by
  show (fQ 0 aO (ab 0) ak [pc (xt S R),J]).bind _=_;have:fQ 0 aO (ab 0) ak [pc (xt S R),J]=Y (.fr,nT M):=by
   show ((aO [xt S R]).bind _)=_;rw[d];rfl
  rw[this];rfl
 refine(av s1).trans ?_;have o:=da (k:=1) (tg:=bx 0) (it:=wM 1) (elt:=fQ 0 bX (ab 1) (ae (ab 0) (ae (ab 2) ak))) (m:=.fr) (U:=[pc (xt S R),pc (.dct 3 (nE 0 M))]) (λ(n:Nat)=>T.int (n:Int)) (λn=>fG (row S M n)) M (by
  show (if ((nE 0 M).all λp=>isInt p.1)=true then Y (Md.fr,(nE 0 M).map (·.1)) else J)=_;rw[Zs,rB];rw[Lw];intro p h;have:p.1∈(nE 0 M).map (·.1):=List.mem_map_of_mem h;rw[rB]at this;obtain⟨n,_,e⟩:=ZC.mp this;rw[← e];rfl) L j (λn i=>by
  refine⟨[Q0 (n:Int),pc (xt S R),pc (.dct 3 (nE 0 M))],rfl,?_⟩;show ((bX [xt S R,.int (n:Int),.dct 3 (nE 0 M)]).bind _)=_;rw[Gq b (λx f=>(a x).mpr f) ((a n).mp i)];rfl)
 show ((cG 1 (bx 0) (wM 1) J (fQ 0 bX (ab 1) (ae (ab 0) (ae (ab 2) ak))) [pc (xt S R),pc (.dct 3 (nE 0 M))]).bind _)=_;rw[o];unfold JW tab;rw[La];rfl
def OA(a:List Tx)(b:Uv)(S:St):ud:=[(4,.lst (a.map .str)),(5,.lst (b.map λ(n:Nat)=>T.int (n:Int))),(6,xt S R)]
def JR(a:List Tx)(d:Uv)(S:St)(b:Bool):T:=.obj 2 ((0,.bl b) :: OA a d S)
def Dc(S:St):h9 (xt S R)=M:=by
 show ((M && !(0==0&&R))&&fE (MP S))=M;rw[kF];rfl
def kN(a:List Tx)(b:Uv)(S:St):fE (OA a b S)=M:=by
 have e:h9 (.lst (a.map T.str))=M:=ff _ (λ_=>rfl) _;have d:h9 (.lst (b.map λ(n:Nat)=>T.int (n:Int)))=M:=ff _ (λ_=>rfl) _;show ((h9 _ && !(4==0&&Rg _))&&((h9 _ && !(5==0&&Rg _))&&((h9 _ && !(6==0&&Rg _))&&M)))=M;rw[e,d,Dc];rfl
def DU(a:List Tx)(d:Uv)(S:St)(b:Bool):qq 4 (JR a d S b)=Y (.lst (a.map .str)):=rfl
def JK(d:List Tx)(a:Uv)(S:St)(b:Bool):qq 5 (JR d a S b)=Y (.lst (a.map λ(n:Nat)=>T.int (n:Int))):=rfl
def Jd(a:List Tx)(d:Uv)(S:St)(b:Bool):qq 6 (JR a d S b)=Y (xt S R):=rfl
section
def As{m:Md}(h:a U=Y (m,JR tx hd S b)):eN bU (ae (bB 4 a) ak) U=Y (.fr,.int (tx.length:Nat)):=gM (xv (hU h (DU tx hd S b)) L) (by
 show Y (Md.fr,T.int (((tx.map T.str).length:Nat):Int))=_;rw[Zw])
def Gp{e:Ex}{v:Tx}(h:e (oc (JR tx hd S b) :: r)=Y (.fr,.str v))(f:tx.length<16777216):sX (iX 0 [.fld 4] aN (ae e ak)) (oc (JR tx hd S b) :: r)=Y (.nx (oc (JR (tx++[v]) hd S b) :: r)):=by
 show (((Y [Ky.fld 4]).bind λd=>(ae e ak (oc (JR tx hd S b) :: r)).bind λa=>(pm (λx=>aN x a) d (JR tx hd S b)).map _).map _)=_;rw[Zr,xv (r:=ak) h L,Zr];show (((aN (.lst (tx.map T.str)) [(.fr,.str v)]).map _).map _ |>.map _)=_;rw[d7 (by rw[Zw];exact f),show (tx.map T.str)++[.str v]=(tx++[v]).map T.str from by rw[Yy];rfl];rfl
def EV{e:Ex}{v:Nat}(h:e (oc (JR tx hd S b) :: r)=Y (.fr,.int (v:Int)))(f:hd.length<16777216):sX (iX 0 [.fld 5] aN (ae e ak)) (oc (JR tx hd S b) :: r)=Y (.nx (oc (JR tx (hd++[v]) S b) :: r)):=by
 show (((Y [Ky.fld 5]).bind λd=>(ae e ak (oc (JR tx hd S b) :: r)).bind λa=>(pm (λx=>aN x a) d (JR tx hd S b)).map _).map _)=_;rw[Zr,xv (r:=ak) h L,Zr];show (((aN (.lst (hd.map λ(n:Nat)=>T.int (n:Int))) [(.fr,.int (v:Int))]).map _).map _ |>.map _)=_;rw[d7 (by rw[Zw];exact f),show (hd.map λ(n:Nat)=>T.int (n:Int))++[.int (v:Int)]=(hd++[v]).map λ(n:Nat)=>T.int (n:Int) from by rw[Yy];rfl];rfl
def Bu{tx:List Tx}{hd:Uv}(h:tx.length<8)(i:hd.length=tx.length):bG (OA tx hd S) []=Y (OA (tx++[[]]) (hd++[0]) S,.int (tx.length:Int)):=by
 unfold bG LH;rw[Zs ⟨rfl,rfl⟩];have a:e2 OQ (eN bU (ae (bB 4 (ab 0)) ak)) (Q3 8) [oc (JR tx hd S M)]=Y (.fr,.bl R):=e2v (As (m:=.bo) L) L (by
  show Y (Md.fr,T.bl (decide ((8:Int)<=(tx.length:Int))))=_;rw[ZZ (by omega)])
 have g:=Gp (tx:=tx) (hd:=hd) (S:=S) (b:=M) (r:=[]) (e:=eC (.str [])) (v:=[]) L (by omega);have f:=EV (tx:=tx++[[]]) (hd:=hd) (S:=S) (b:=M) (r:=[]) (e:=Q3 0) (v:=0) L (by omega);have d:=dc (e:=e2 kZ (eN bU (ae (bB 4 (ab 0)) ak)) (Q3 1)) (U:=[oc (JR (tx++[[]]) (hd++[0]) S M)]) (t:=.int (tx.length:Int)) (e2v (As (m:=.bo) L) L (by
  show Y (Md.fr,T.int ((((tx++[[]]).length:Nat):Int)-1))=_;rw[Zx,ZR,show (((tx.length+1:Nat)):Int)-1=(tx.length:Int) by omega]))
 exact congrArg (λz:Option Out=>z.bind _) ((av ((lL a).trans L)).trans ((av g).trans ((av f).trans d)))
def Hl{l:Up}(a:i<l.length):bE [.lst l,.int (i:Int)]=Y (.fr,.non):=by
 refine Ei (U:=[pc (.lst l),Q0 (i:Int)]) L ?_;refine(lL (m:=.fr) (zF (m:=.fr) (x:=R) ?_ (λ_=>?_) (λh=>by cases h))).trans rfl
 ·exact lP (m:=.fr) (b:=M) L
 ·refine lP (m:=.fr) (b:=M) (wx (x:=(.fr,.int 0)) (y:=(.fr,.int (i:Int))) (z:=(.fr,.int (l.length:Int))) L L ?_ (gM (xv (x:=(.pu,.lst l)) L L) L) ?_)
  ·show Y (Md.fr,T.bl (decide ((0:Int)<=(i:Int))))=_;rw[Lu (by omega)]
  ·show Y (Md.fr,T.bl (decide ((i:Int)<(l.length:Int))))=_;rw[Lu (by omega)]
def yB{tx:List Tx}(a:i<tx.length):bE [.lst (tx.map .str),.int (i:Int)]=Y (.fr,.non):=Hl (by rw[Zw];exact a)
end
noncomputable def eO(a:List Tx):Nat:=(a.map List.length).sum
theorem vR:∀a:List Tx,(a.map λt=>(t.length:Int)).sum=(eO a:Int)
 |[]=>rfl
 |t :: a=>by
  rw[Zk,Vs,vR a];unfold eO;rw[Zk,Vs];omega
def zz(a:List Tx)(b:a.length<=16777216):gn [.lst (a.map .str)]=Y (.fr,.int (eO a:Int)):=by
 refine d8 (U:=[pc (.lst (a.map .str))]) L ?_;refine dc (gM (xv (r:=ak) (da (m:=.pu) T.str (λ(t:Tx)=>T.int (t.length:Int)) a L L b (λt d=>⟨[Q2 t,pc (.lst (a.map .str))],rfl,rfl⟩)) L) ?_);show (uD (a.map λ(t:Tx)=>T.int (t.length:Int))).bind _=_;rw[ints_map (λ(t:Tx)=>(t.length:Int)),Zr,vR]
section
def Gc{hd:Uv}{i v:Nat}{e ev:Ex}{n:Md}{r:List (Us)}(g:i<hd.length)(he:e (oc (JR tx hd S b) :: r)=Y (n,.int (i:Int)))(a:ev (oc (JR tx hd S b) :: r)=Y (.fr,.int (v:Int))) :
  gg 0 [.fld 5] e ev (oc (JR tx hd S b) :: r)=Y (.nx (oc (JR tx (hd.set i v) S b) :: r)):=by
 unfold gg;rw[a,Zr];show ((keys [.fld 5] (oc (JR tx hd S b) :: r)).bind _)=_;have f:keys [.fld 5] (oc (JR tx hd S b) :: r)=Y [.fld 5]:=rfl;rw[f,Zr,he,Zr];have d:pm (ly (n,.int (i:Int)) (.fr,.int (v:Int))) [.fld 5] (JR tx hd S b)=Y (JR tx (hd.set i v) S b,()):=by
  show ((ly (n,.int (i:Int)) (.fr,.int (v:Int)) (.lst (hd.map λ(n:Nat)=>T.int (n:Int)))).map _)=_;have:ly (n,.int (i:Int)) (.fr,.int (v:Int)) (.lst (hd.map λ(n:Nat)=>T.int (n:Int)))=Y (.lst ((hd.set i v).map λ(n:Nat)=>T.int (n:Int)),()):=by
   show ((Lf (hd.map λ(n:Nat)=>T.int (n:Int)).length (i:Int)).map _)=_;rw[Zw,xC g,WA];rfl
  rw[this];rfl
 rw[d];rfl
def GC{tx:List Tx}{n:Md}(h:i<tx.length)(he:e (oc (JR tx hd S b) :: r)=Y (n,.int (i:Int)))(d:a (oc (JR tx hd S b) :: r)=Y (.fr,.str v)) :
  gg 0 [.fld 4] e a (oc (JR tx hd S b) :: r)=Y (.nx (oc (JR (tx.set i v) hd S b) :: r)):=by
 unfold gg;rw[d,Zr];show ((keys [.fld 4] (oc (JR tx hd S b) :: r)).bind _)=_;have g:keys [.fld 4] (oc (JR tx hd S b) :: r)=Y [.fld 4]:=rfl;rw[g,Zr,he,Zr];have f:pm (ly (n,.int (i:Int)) (.fr,.str v)) [.fld 4] (JR tx hd S b)=Y (JR (tx.set i v) hd S b,()):=by
  show ((ly (n,.int (i:Int)) (.fr,.str v) (.lst (tx.map T.str))).map _)=_;have:ly (n,.int (i:Int)) (.fr,.str v) (.lst (tx.map T.str))=Y (.lst ((tx.set i v).map T.str),()):=by
   show ((Lf (tx.map T.str).length (i:Int)).map _)=_;rw[Zw,xC h,WA];rfl
  rw[this];rfl
 rw[f];rfl
def rn{tx:List Tx}{hd:Uv}{i r:Nat}{w:Tx}(W:WF S)(F:hd.length=tx.length)(a:i<tx.length)(G:tx.length<=8)(E:eO tx+w.length<=120)(q:S.lg.length+2*w.length<=100000)(p:hd.getD i 0<S.lg.length)(s:∀c∈w,97<=c/\c<=122)(D:(tx.getD i []).length<=120)(e:hg S (hd.getD i 0) w=Y (S',r)) :
  bF (OA tx hd S) [.int (i:Int),.str w]=Y (OA (tx.set i (tx.getD i []++w)) (hd.set i r) S',.non):=by
 obtain⟨C,B,A,g⟩:=Ek W q p s e;unfold bF LH;rw[Zs ⟨rfl,rfl⟩];have s1:sX (xP (aT bE (ae (bB 4 (ab 0)) (ae (ab 1) ak)))) [oc (JR tx hd S M),Q0 (i:Int),Q2 w]=Y (.nx [oc (JR tx hd S M),Q0 (i:Int),Q2 w]):=by
  have:aT bE (ae (bB 4 (ab 0)) (ae (ab 1) ak)) [oc (JR tx hd S M),Q0 (i:Int),Q2 w]=Y (.fr,.non):=aP (xv (hU (m:=.bo) (t:=JR tx hd S M) L (DU tx hd S M)) (xv (x:=(.fr,.int (i:Int))) L L)) (yB a);show (((aT bE _ _).map _).map _)=_;rw[this];rfl
 have u:e2 M6 (e2 cu (aT gn (ae (bB 4 (ab 0)) ak)) (eN bU (ae (ab 2) ak))) (Q3 120) [oc (JR tx hd S M),Q0 (i:Int),Q2 w]=Y (.fr,.bl R) :=
  e2v (x:=(.fr,.int ((eO tx:Int)+(w.length:Int)))) (e2v (aP (xv (r:=ak) (hU (m:=.bo) (t:=JR tx hd S M) L (DU tx hd S M)) L) (zz tx (by omega))) (y:=(.fr,.int (w.length:Int))) L L) L (by
   show Y (Md.fr,T.bl (decide ((120:Int)<(eO tx:Int)+(w.length:Int))))=_;rw[ZZ (by omega)])
 have f:bQ 0 [.fld 6] 0 [R,R] aY (ae (e2 aJ (bB 5 (ab 0)) (ab 1)) (ae (ab 2) ak)) [oc (JR tx hd S M),Q0 (i:Int),Q2 w]=Y ((.fr,.int (r:Int)),[oc (JR tx hd S' M),Q0 (i:Int),Q2 w]):=by
  show ((Y [Ky.fld 6]).bind λo=>(ae (e2 aJ (bB 5 (ab 0)) (ab 1)) (ae (ab 2) ak) [oc (JR tx hd S M),Q0 (i:Int),Q2 w]).bind λd=>(pm (mq 0 [R,R] aY d) o (JR tx hd S M)).map λz=>(z.2,[oc z.1,Q0 (i:Int),Q2 w]))=_;rw[Zr,xv (x:=(.fr,.int ((hd.getD i 0:Nat):Int))) (e2v (hU (m:=.bo) (t:=JR tx hd S M) L (JK tx hd S M)) (y:=(.fr,.int (i:Int))) L (jA _ hd i 0 (by omega))) (xv (r:=ak) (x:=(.fr,.str w)) L L),Zr];show (((if 1=0+1/\fE (MP S)=M/\argsOk [R,R] [(Md.fr,T.int ((hd.getD i 0:Nat):Int)),(Md.fr,T.str w)]=M/\eJ (trees [(Md.fr,T.int ((hd.getD i 0:Nat):Int)),(Md.fr,T.str w)])=M then (aY (MP S) [.int ((hd.getD i 0:Nat):Int),.str w]).bind λz=>if fE z.1=M/\JU z.2=M then Y (T.obj 1 ((0,.bl R) :: z.1),(Md.fr,z.2)) else J else J).map _).map _)=_;rw[Zs ⟨rfl,kF S,rfl,rfl⟩,g,Zr,Zs ⟨kF S',rfl⟩];rfl
 have l:ma 0 [.fld 5] (ab 1) (bQ 0 [.fld 6] 0 [R,R] aY (ae (e2 aJ (bB 5 (ab 0)) (ab 1)) (ae (ab 2) ak))) [oc (JR tx hd S M),Q0 (i:Int),Q2 w]=Y (.nx [oc (JR tx (hd.set i r) S' M),Q0 (i:Int),Q2 w]):=by
  unfold ma;rw[f];exact Gc (tx:=tx) (hd:=hd) (S:=S') (b:=M) (r:=[Q0 (i:Int),Q2 w]) (e:=ab 1) (ev:=λ_=>Y (.fr,.int (r:Int))) (i:=i) (v:=r) (n:=.fr) (by omega) L L
 have j:gg 0 [.fld 4] (ab 1) (e2 cu (e2 aJ (bB 4 (ab 0)) (ab 1)) (ab 2)) [oc (JR tx (hd.set i r) S' M),Q0 (i:Int),Q2 w]=Y (.nx [oc (JR (tx.set i (tx.getD i []++w)) (hd.set i r) S' M),Q0 (i:Int),Q2 w]) :=
  GC (n:=.fr) a L (e2v (hU (m:=.bo) (t:=JR tx (hd.set i r) S' M) L (DU tx (hd.set i r) S' M) |> λh=>e2v h (y:=(.fr,.int (i:Int))) L (jA T.str tx i [] a)) (y:=(.fr,.str w)) L (kI (by omega)))
 exact congrArg (λz:Option Out=>z.bind _) ((av s1).trans ((av ((lL u).trans L)).trans ((av l).trans j)))
end
def kS{α:Type}(l:List α)(x d:α):(l++[x]).getD l.length d=x:=(bZ l x d l.length).trans (Zs L)
def wV{α:Type}(l:List α)(x y:α):(l++[x]).set l.length y=l++[y]:=by
 rw[List.set_append_right _ _ (Zn _),Vl];rfl
def sv(a b:List Tx):eO (a++b)=eO a+eO b:=by
 unfold eO;rw[Yy,List.sum_append]
def GF:∀(rest:List Tx){tx:List Tx}{hd:Uv}{S S':St}{B:T}{z:Us},WF S->hd.length=tx.length->tx.length+rest.length<=8->eO tx+eO rest<=120->S.lg.length+2*eO rest<=100000->(∀t∈rest,∀c∈t,97<=c/\c<=122)->mB S rest=Y S' →
  ∃n l,forL (bx 2) bI (rest.map .str) [oc (JR tx hd S M),pc B,z]=Y (.nx [oc (JR (tx++rest) n S' M),pc B,l]):=by
 intro rest
 induction rest with
 |nil =>
  intro tx hd S S' B z W a s o p j e;cases (show Y S=Y S' from e);exact⟨hd,z,by rw[ZL];rfl⟩
 |cons t rest x =>
  intro tx hd S S' B z W a s o p j e;obtain⟨⟨h,r⟩,e1,C⟩:=Zz.mp (show (hg S 0 t).bind _=Y S' from e);rw[Zf]at s;have d:eO (t :: rest)=t.length+eO rest:=by unfold eO;rw[Zk,Vs]
  rw[d]at o p;have m:hg S ((hd++[0]).getD tx.length 0) t=Y (h,r):=by rw[← a,kS];exact e1
  have f:=Ek W (by omega) W.pos (j t Zv) e1;have g:=rn (tx:=tx++[[]]) (hd:=hd++[0]) (S:=S) (S':=h) (i:=tx.length) (r:=r) (w:=t) W (by rw[Zx,Zx,a];rfl) (by rw[Zx];exact Ym _) (by rw[Zx];show tx.length+1<=8;omega) (by rw[sv];show eO tx+0+t.length<=120;omega) (by omega) (by rw[← a,kS];exact W.pos) (j t Zv) (by rw[kS];exact ZE _) m;rw[kS,wV,YV]at g;have A:(hd++[0]).set tx.length r=hd++[r]:=by rw[← a];exact wV hd 0 r
  rw[A]at g;have b:=Bu (tx:=tx) (hd:=hd) (S:=S) (by omega) a;obtain⟨n,l,q⟩:=x (tx:=tx++[t]) (hd:=hd++[r]) (S:=h) (S':=S') (B:=B) (z:=Q2 t) f.1 (by rw[Zx,Zx,a];rfl) (by rw[Zx,ZR];omega) (by rw[sv];show eO tx+(t.length+0)+eO rest<=120;omega) (by have:=f.2.2.1;omega) (λu y=>j u (Zu _ y)) C;refine⟨n,l,?_⟩;rw[Zk];refine(bR (U1:=[oc (JR tx hd S M),pc B,Q2 t]) L ?_).trans (q.trans (by rw[Zb];rfl));have v:bQ 0 [] 1 [] bG ak [oc (JR tx hd S M),pc B,Q2 t]=Y ((.fr,.int (tx.length:Int)),[oc (JR (tx++[[]]) (hd++[0]) S M),pc B,Q2 t]):=by
   show (((if 2=1+1/\fE (OA tx hd S)=M/\argsOk [] []=M/\eJ (trees [])=M then (bG (OA tx hd S) (trees [])).bind λz=>if fE z.1=M/\JU z.2=M then Y (T.obj 2 ((0,.bl M) :: z.1),(Md.fr,z.2)) else J else J).map _))=_;rw[Zs ⟨rfl,kN tx hd S,rfl,rfl⟩,show trees []=[] from rfl,b,Zr,Zs ⟨kN _ _ _,rfl⟩];rfl
  have x2:p8 0 1 [R,R] bF (bQ 0 [] 1 [] bG ak) (ae (ab 2) ak) [oc (JR tx hd S M),pc B,Q2 t]=Y ((.fr,.non),[oc (JR (tx++[t]) (hd++[r]) h M),pc B,Q2 t]):=by
   unfold p8;rw[Zs (show GO 1 [oc (JR tx hd S M),pc B,pc (T.str t)][0]?=M from rfl),v,Zr,Zs (show JU (T.int (tx.length:Int))=M from rfl)];have ct:mq 1 [R,R] bF [(Md.fr,T.int (tx.length:Int)),(Md.fr,T.str t)] (JR (tx++[[]]) (hd++[0]) S M)=Y (JR (tx++[t]) (hd++[r]) h M,(Md.fr,T.non)):=by
    show (if 2=1+1/\fE (OA (tx++[[]]) (hd++[0]) S)=M/\argsOk [R,R] [(Md.fr,T.int (tx.length:Int)),(Md.fr,T.str t)]=M/\eJ (trees [(Md.fr,T.int (tx.length:Int)),(Md.fr,T.str t)])=M then (bF (OA (tx++[[]]) (hd++[0]) S) (trees [(Md.fr,T.int (tx.length:Int)),(Md.fr,T.str t)])).bind λz=>if fE z.1=M/\JU z.2=M then Y (T.obj 2 ((0,.bl M) :: z.1),(Md.fr,z.2)) else J else J)=_;rw[Zs ⟨rfl,kN _ _ _,rfl,rfl⟩,show trees [(Md.fr,T.int (tx.length:Int)),(Md.fr,T.str t)]=[T.int (tx.length:Int),T.str t] from rfl,g,Zr,Zs ⟨kN _ _ _,rfl⟩];rfl
   show ((mq 1 [R,R] bF [(Md.fr,T.int (tx.length:Int)),(Md.fr,T.str t)] (JR (tx++[[]]) (hd++[0]) S M)).map _)=_;rw[ct];rfl
  unfold bI Uj;rw[x2];rfl
structure OL(bk:List Tx):Prop where
 Pq:bk.length<=8
 sum:eO bk<=120
 az:∀t∈bk,∀c∈t,97<=c/\c<=122
theorem OL.QR:∀{l:List Tx},t∈l->t.length<=eO l
 |a :: l,h=>by
  have e:eO (a :: l)=a.length+eO l:=by unfold eO;rw[Zk,Vs]
  rw[e];rcases Zg.mp h with rfl | h
  ·omega
  ·have:=OL.QR h;omega
def OL.len(h:OL a):∀t∈a,t.length<1000:=λt b=>ZK (OL.QR b) (ZK h.sum (by decide))
def aD(a:List Tx):St:=(mB S0 a).getD S0
def aA(a:List Tx):Uv:=(Ny (aD a) 1000 [0] 0).getD []
def tabOf(a:List Tx):List Row:=tab (aD a) (aA a)
theorem OL.k{a:List Tx}(h:OL a):mB S0 a=Y (aD a)/\∃nd b,K (Hd a) (aD a) nd b/\b.length<=241/\Ny (aD a) 1000 [0] 0=Y (aA a)/\(∀x,x∈aA a↔x<(aD a).lg.length)/\(aA a).length=b.length/\(aA a).idxOf 0=0:=by
 obtain⟨S,nd,b,e,H,l⟩:=K.of a h.az h.len;have d:aD a=S:=by unfold aD;rw[e];rfl
 rw[d];have f:b.length<=241:=by
  have:=h.sum;unfold eO at this;omega
 obtain⟨m,e2,_,e3,g⟩:=H.met (k:=1000) (by omega);have eM:aA a=0 :: m:=by unfold aA;rw[d,e2];rfl
 rw[eM];exact⟨e,nd,b,H,f,e2,λx=>by rw[e3,H.i.len],g,List.idxOf_cons_self⟩
def EK(h:OL d):∃hd,br [] [.lst (d.map .str)]=Y (OA d hd (aD d),.non):=by
 obtain⟨e,_⟩:=h.k;have g:=h.sum;obtain⟨hd,z,q⟩:=GF d (tx:=[]) (hd:=[]) (S:=S0) (S':=aD d) (B:=.lst (d.map .str)) (z:=J) Et L (by have:=h.Pq;simpa using this) (by show 0+eO d<=120;omega) (by show 1+2*eO d<=100000;omega) h.az e;rw[YV]at q;refine⟨hd,?_⟩;unfold br LH;rw[Zs ⟨rfl,rfl⟩];have f:=(dU (tg:=bx 2) (it:=fW (ab 1)) (body:=bI) (U:=[oc (JR [] [] S0 M),pc (.lst (d.map .str)),J]) (m:=.pu) (l:=d.map .str) L L).trans q;have body:=(av (a:=jT 0 4 (ic ak)) (b:=ar (jT 0 5 (ic ak)) (ar (jT 0 6 (eNew 0 dA ak)) (KH (fR (ab 1)) (gu (bx 2) (fW (ab 1)) bI) eU))) (U:=[oc (.obj 2 [(0,.bl M)]),pc (.lst (d.map .str)),J]) (U1:=[oc (.obj 2 [(0,.bl M),(4,.lst [])]),pc (.lst (d.map .str)),J]) L).trans
  ((av (U1:=[oc (.obj 2 [(0,.bl M),(4,.lst []),(5,.lst [])]),pc (.lst (d.map .str)),J]) L).trans ((av (U1:=[oc (JR [] [] S0 M),pc (.lst (d.map .str)),J]) L).trans ((oj (m:=.fr) L).trans f)))
 exact congrArg (λz:Option Out=>z.bind _) body
def Dn(h:OL a){m:Md}(f:arg U=Y (m,.lst (a.map .str))):fQ 1 cf (eNew 1 br (ae arg ak)) ak U=Y (.fr,JW (tabOf a)):=by
 obtain⟨hd,e⟩:=EK h;obtain⟨_,nd,n,H,l,e2,e3,o,_⟩:=h.k;have hlen:(aD a).lg.length<=100001:=by rw[← H.i.len];omega
 have b:=E3 H.i.wf hlen (k:=1000) (by decide) e2 e3 (by omega);have d:eNew 1 br (ae arg ak) U=Y (.fr,JR a hd (aD a) R):=by
  unfold eNew;rw[xv (r:=ak) f L,Zr];have j:eJ (trees [(m,T.lst (a.map .str))])=M:=by
   show (eJ (a.map T.str)&&M)=M;rw[ff _ (λ_=>rfl)];rfl
  rw[Zs j,show trees [(m,T.lst (a.map .str))]=[T.lst (a.map .str)] from rfl,e,Zr,Zs ⟨kN _ _ _,rfl⟩];rfl
 have t2:cf [JR a hd (aD a) R]=Y (.fr,JW (tabOf a)):=by
  refine d8 (U:=[pc (JR a hd (aD a) R)]) L (dc ?_);have g:bB 6 (ab 0) [pc (JR a hd (aD a) R)]=Y (.pu,xt (aD a) R):=hU (m:=.pu) (t:=JR a hd (aD a) R) L (Jd a hd (aD a) R);unfold fQ;show ((bB 6 (ab 0) [pc (JR a hd (aD a) R)]).bind _)=_;rw[g];show ((dM [xt (aD a) R]).bind _)=_;rw[b];rfl
 show ((eNew 1 br (ae arg ak) U).bind _)=_;rw[d];show ((cf [JR a hd (aD a) R]).bind _)=_;rw[t2];rfl
end T23
end
section
namespace T23
open VS
def Fm(d:Uu):∃c,fg [.scr d,.int 0]=Y (.fr,.int c):=by
 cases d with
 |cons a r =>
  have e:(0:Int)<((a :: r).length:Int):=by rw[Zf];lia
  exact⟨_,zD [Y (.pu (.scr (a :: r))),Y (.pu (.int 0))] L L (ki ((oj (e2v L (gM (xv L L) L) (congrArg (λb=>Y (Md.fr,T.bl b)) (Lu e)))).trans (dc (e2v L L (wC _ 0 (by decide) e)))))⟩
 |nil=>exact⟨0,rfl⟩
def iV(d:Uu)(k:Int)(z:0<=k)(y:k<1000):∃n,aX [.scr d,.int k]=Y (.fr,.int n)/\0<=n/\n<2147483648:=by
 obtain⟨c,j⟩:∃c,(KH (e2 M6 (eN bU (ae (ab 0) ak)) (Q3 0)) (aK 2 (e2 aJ (ab 0) (e2 oMod (ab 1) (eN bU (ae (ab 0) ak))))) eU) [Y (.pu (.scr d)),Y (.pu (.int k)),Y (.pu (.int 7)),J]=Y (.nx [Y (.pu (.scr d)),Y (.pu (.int k)),Y (.pu (.int c)),J]):=by
  cases d with
  |nil=>exact⟨7,rfl⟩
  |cons a r =>
   have e:(0:Int)<((a :: r).length:Int):=by rw[Zf];lia
   exact⟨_,(oj (e2v (gM (xv L L) L) L (congrArg (λb=>Y (Md.fr,T.bl b)) (Lu e)))).trans (aC (e2v L (e2v L (gM (xv L L) L) (bL e)) (wC _ _ (YU k (Int.ne_of_gt e)) (Yc k e))) (by decide) (by decide:2<4))⟩
 have v:=YU c (b:=2147483629) (by decide);have u:=Yc c (b:=2147483629) (by decide);generalize w:c%2147483629=x1 at v u;have s:=YU ((x1+40503*k+1)*48271) (b:=2147483647) (by decide);have q:=Yc ((x1+40503*k+1)*48271) (b:=2147483647) (by decide);generalize x:(x1+40503*k+1)*48271%2147483647=x2 at s q;have p:=YU (x2*x2) (b:=2147483629) (by decide);have o:=Yc (x2*x2) (b:=2147483629) (by decide);generalize g:x2*x2%2147483629=x3 at p o;have d0:=YU ((x3+k)*69621) (b:=2147483587) (by decide);have l:=Yc ((x3+k)*69621) (b:=2147483587) (by decide);generalize f:(x3+k)*69621%2147483587=x4 at d0 l;refine⟨x4*x4%2147483563/3,?_,by lia,by lia⟩;have h:∀m n,ig (m,.int (x3+k)) (n,.int 69621)=Y (.fr,.int ((x3+k)*69621)):=λm n=>lN (by lia);have i:∀m n,ig (m,.int 40503) (n,.int k)=Y (.fr,.int (40503*k)):=λm n=>lN (by decide);refine zD [Y (.pu (.scr d)),Y (.pu (.int k)),J,J] (U':=[Y (.pu (.scr d)),Y (.pu (.int k)),Y (.pu (.int c)),Y (.pu (.int x4))]) L L ?_;rw[gD (U':=[Y (.pu (.scr d)),Y (.pu (.int k)),Y (.pu (.int 7)),J]) L,gD j];rw[gD (aC (e2v (e2v (e2v (e2v (e2v L L ((bL (by decide)).trans (by rw[w]))) (e2v L L (i _ _)) L) L L) L ((λm n=>lN (by lia)) _ _)) L ((bL (by decide)).trans (by rw[x]))) (by decide) (by decide:3<4))];refine(?_);rw[gD (aC (e2v (e2v L L ((λm n=>lN (by lia)) _ _)) L ((bL (by decide)).trans (by rw[g]))) (by decide) (by decide:3<4))];refine(?_);rw[gD (aC (e2v (e2v (e2v L L L) L (h _ _)) L ((bL (by decide)).trans (by rw[f]))) (by decide) (by decide:3<4))];refine(?_);refine dc ?_;have r:=e2v (U:=[Y (.pu (.scr d)),Y (.pu (.int k)),Y (.pu (.int c)),Y (.pu (.int x4))]) (e2v (a:=e2 ig (ab 3) (ab 3)) (b:=Q3 2147483563) (e2v L L ((λm n=>lN (by lia)) _ _)) L (bL (by decide))) (show Q3 3 _=Y (.fr,.int 3) from rfl) (gf (by decide));exact r
noncomputable abbrev QG:Tx:=[97,98,99,100,101,102,103,104,105,106,107,108,109,110,111,112,113,114,115,116,117,118,119,120,121,122]
def EZ(i:Nat)(h:i<26):97<=QG.getD i 0/\QG.getD i 0<=122:=by
 have:∀i,i<26->97<=QG.getD i 0/\QG.getD i 0<=122:=by decide
 exact this i h
def wo(c:Int):∃a:Uv,ed [.int c]=Y (.fr,.lst (a.map λx=>T.str [x]))/\a.length=26/\∀x∈a,97<=x/\x<=122:=by
 have li:=nU (m:=.fr) (n:=.fr) T.int [1,3,5,7,9] (c/26%5) 0 (YU (c/26) (b:=5) (by decide)) (by simpa using(Yc (c/26) (b:=5) (by decide))) L;obtain⟨st,o,p,s1⟩:∃st:Int,List.getD [1,3,5,7,9] (c/26%5).toNat 0=st/\0<=st/\st<10:=by
  have d:∀i,i<5->0<=(List.getD [1,3,5,7,9] i 0:Int)/\(List.getD [1,3,5,7,9] i 0:Int)<10:=by decide
  have h:=d (c/26%5).toNat (by lia);exact⟨_,rfl,h.1,h.2⟩
 rw[o]at li;have f:=YU c (b:=26) (by decide);have e:=Yc c (b:=26) (by decide);generalize l:c%26=s at f e;have comp:=da (k:=1) (tg:=bx 0) (it:=dY (Q3 26)) (elt:=e2 aJ (eC (.str QG)) (e2 oMod (e2 cu (ab 2) (e2 ig (ab 3) (ab 0))) (Q3 26)))
  (λ(j:Nat)=>T.int (j:Int)) (λj:Nat=>T.str [QG.getD ((s+st*(j:Int))%26).toNat 0]) (List.range 26)
  (by rw[iT L (by lia),lA];rfl) L (by decide) (λj q=>⟨[Y (.pu (.int j)),Y (.pu (.int c)),Y (.pu (.int s)),Y (.pu (.int st))],rfl,by
   have ix:=zp (m:=.fr) (n:=.fr) QG ((s+st*(j:Int))%26) (YU (s+st*(j:Int)) (b:=26) (by decide)) (by exact(Yc (s+st*(j:Int)) (b:=26) (by decide)));exact e2v L (e2v (e2v L (e2v L L ((λm n=>lN (by lia)) _ _)) L) L (bL (by decide))) ix⟩)
 refine⟨(List.range 26).map λj:Nat=>QG.getD ((s+st*(j:Int))%26).toNat 0,?_,by simp,λx g=>?_⟩
 ·refine zD [Y (.pu (.int c)),J,J] (U':=[Y (.pu (.int c)),Y (.pu (.int s)),Y (.pu (.int st))]) L L ?_;rw[gD (aC (e2v L L ((bL (by decide)).trans (by rw[l]))) (by decide) (by decide:1<3)),
   gD (aC (e2v L (e2v (e2v L L (gf (by decide))) L (bL (by decide))) li) (by decide) (by decide:2<3))]
  refine(dc comp).trans ?_;rw[La];rfl
 ·obtain⟨j,_,rfl⟩:=ZC.mp g;exact EZ _ (by lia)
noncomputable def Az(t:Uv):Prop:=∀x∈t,97<=x/\x<=122
def Az.app(a:Az s)(b:Az t):Az (s++t):=λx d=>(Zd.mp d).elim (a x) (b x)
noncomputable abbrev NW(a:Uv):T:=.lst (a.map λx=>T.str [x])
def AV(a:Uv)(i:Int)(d:0<=i)(b:i<a.length):aJ (m,NW a) (n,.int i)=Y (.fr,.str [a.getD i.toNat 0]):=nU (λx=>T.str [x]) a i 0 d b L
def qm(h:Az a)(b:i<a.length):Az [a.getD i 0]:=λx d=>by
 rw[Zc.mp d,Zq,Zp b];exact h _ (Yp b)
abbrev RO(c:Int)(i:Uv)(h b a:Int)(j:Up)(g f e d:Us):Env:=[Y (.pu (.int c)),Y (.pu (NW i)),Y (.pu (.int h)),Y (.pu (.int b)),Y (.pu (.int a)),Y (.ow (.lst j)),g,f,e,d]
def Jy(h:Uv)(w:Az h)(a g f d:Int)(q:0<a)(y:a<=h.length)(x:a<1000)(p:Up)(m:Us)(j:Uv):∀(c:Int)(t:Tx)(z:Us),t.length+j.length<=1000->Az t →
  ∃o i l,forL (bx 9) d3 (j.map λ(k:Nat)=>T.int (k:Int)) (RO c h a g f p m (Y (.pu (.int d))) (Y (.pu (.str t))) z)=Y (.nx (RO o h a g f p m (Y (.pu (.int d))) (Y (.pu (.str i))) l))/\i.length=t.length+j.length/\Az i:=by
 induction j with
 |nil=>exact λc t z _ n=>⟨c,t,z,rfl,rfl,n⟩
 |cons k j r =>
  intro c t z s n;have e1:=Yc c q;rw[Zf]at s;obtain⟨o,i,l,e,u,v⟩:=r (c/a) (t++[h.getD (c%a).toNat 0]) (Y (.pu (.int k))) (by rw[Zx,ZR];lia) (n.app (qm w (by lia)));refine⟨o,i,l,?_,by rw[u,Zx,ZR,Zf];lia,v⟩;rw[Zk,bR (U2:=RO (c/a) h a g f p m (Y (.pu (.int d))) (Y (.pu (.str (t++[h.getD (c%a).toNat 0])))) (Y (.pu (.int k)))) L (by
   unfold d3;rw[av (aC (e2v L (e2v L (e2v L L (bL q)) (AV h _ (YU c (b:=a) (by lia)) (by lia))) (kI (show t.length+1<=16777216 by lia))) (by decide) (by decide:8<10))];exact aC (e2v L L (gf (by lia))) (by decide) (by decide:0<10)),e]
structure Bk(most:Nat)(bk:List Tx):Prop where
 n:bk.flatten.length<=most
 az:∀t∈bk,Az t
def Bk.snoc{t:Tx}(B:Bk m d)(h:m+t.length<=b)(e:Az t):Bk b (d++[t]):=by
 refine⟨?_,λs a=>?_⟩
 ·have:=B.n;rw[Yh,Zx,show [t].flatten=t by simp];lia
 ·rcases Zd.mp a with a | a
  ·exact B.az s a
  ·rw[Zc.mp a];exact e
def wF{n:Nat}(e:a U=Y (m,.int (n:Int)))(h:n<100000):dY a U=Y (.fr,(List.range n).map λ(k:Nat)=>T.int (k:Int)):=by
 rw[iT e (by lia),lA];rfl
def wX(h:d U=Y (.fr,l)):gu b d a U=forL b a l U:=by
 simp[gu,h]
def ye(g:Uv)(C:Az g)(d b:Int)(y:0<d)(w:d<=g.length)(v:d<1000)(k:Nat)(c:Int)(a:Nat)(e:List Tx)(q p n:Us)(u:a<=24)(B:Bk (24-a) e)(E:e.length<1000) :
  ∃(m:Int)(sz:Nat)(f:Tx)(i:Us),sz<=a/\Bk (24-(a-sz)) (e++[f])/\cL (RO c g d b a (e.map T.str) (Y (.pu (.int k))) q p n)=Y (.nx (RO m g d b ((a-sz:Nat):Int) ((e++[f]).map T.str) (Y (.pu (.int k))) (Y (.pu (.int sz))) (Y (.pu (.str f))) i)):=by
 obtain⟨sz,j,l,F⟩:∃sz:Nat,(if c%25<(a:Int) then c%25 else (a:Int))=(sz:Int)/\sz<=a/\sz<=24:=by
  by_cases h:c%25<(a:Int)
  ·exact⟨(c%25).toNat,by rw[Zs h];lia,by lia,by lia⟩
  ·exact⟨a,by rw[Zo h],Zn _,u⟩
 have o:((a:Int)-(sz:Int))=((a-sz:Nat):Int):=by lia
 generalize s:(a-sz:Nat)=r1 at o;obtain⟨m,f,i,z,D,A⟩:=Jy g C d b (r1:Int) (sz:Int) y w v (e.map T.str) (Y (.pu (.int k))) (List.range sz) (c/25) [] n (by rw[LM,Xn];lia) (λx r=>nomatch r);rw[LM,Xn,YL]at D;refine⟨m,sz,f,i,l,B.snoc (by lia) A,?_⟩;rw[s];unfold cL;rw[av (aC (t:=.int sz) (by rw[← j];rfl) (by decide) (by decide:7<10))];rw[av L];rw[av (aC (t:=.int r1) (by rw[← o];rfl) (by decide) (by decide:4<10))];rw[av L];rw[av (by rw[wX (wF L (by lia))];exact z)];rw[lE L L (by rw[Zw];lia),Yy];rfl
def I0(h:Uv)(H:Az h)(b a:Int)(D:0<b)(C:b<=h.length)(A:b<1000)(i:Uv):∀(c:Int)(room:Nat)(bk:List Tx)(l g f d:Us),room<=24->Bk (24-room) bk->bk.length+i.length<=1000 →
  ∃p m j q r s u,forL (bx 6) cL (i.map λ(k:Nat)=>T.int (k:Int)) (RO c h b a room (bk.map T.str) l g f d)=Y (.nx (RO p h b a m (j.map T.str) q r s u))/\Bk 24 j/\j.length=bk.length+i.length:=by
 induction i with
 |nil=>exact λc room bk l g f d o B _=>⟨c,room,bk,l,g,f,d,rfl,⟨ZS B.n (Yj _ _),B.az⟩,rfl⟩
 |cons k i x =>
  intro c room bk l g f d o B z;rw[Zf]at z;obtain⟨F,sz,v,w,y,N,E⟩:=ye h H b a D C A k c room bk g f d o B (by lia);obtain⟨p,m,j,q,r,s,u,e,O,G⟩:=x F (room-sz) (bk++[v]) (Y (.pu (.int k))) (Y (.pu (.int sz))) (Y (.pu (.str v))) w (ZS (Yj _ _) o) N (by rw[Zx,ZR];lia);refine⟨p,m,j,q,r,s,u,?_,O,by rw[G,Zx,ZR,Zf];lia⟩;rw[Zk,bR L E,e]
def Am(c:Int):∃bk:List Tx,dX [.int c]=Y (.fr,.lst (bk.map T.str))/\Bk 24 bk/\bk.length<=4:=by
 obtain⟨d,n,A,x⟩:=wo c;have li:aJ (.fr,.lst [.int 1,.int 2,.int 3,.int 4,.int 2,.int 3,.int 4,.int 26]) (.fr,.int (c/130%8))=_:=nU T.int [1,2,3,4,2,3,4,26] (c/130%8) 0 (YU (c/130) (b:=8) (by decide)) (Yc (c/130) (b:=8) (by decide)) L;obtain⟨so,f,g,s1⟩:∃so:Int,List.getD [1,2,3,4,2,3,4,26] (c/130%8).toNat 0=so/\0<so/\so<=26:=by
  have l:∀i,i<8->0<(List.getD [1,2,3,4,2,3,4,26] i 0:Int)/\(List.getD [1,2,3,4,2,3,4,26] i 0:Int)<=26:=by decide
  have h:=l (c/130%8).toNat (by lia);exact⟨_,rfl,h.1,h.2⟩
 rw[f]at li;obtain⟨a,v,z⟩:∃a:Nat,c/1040%5=(a:Int)/\a<=4:=⟨(c/1040%5).toNat,by lia,by lia⟩
 obtain⟨o,j,w,p,q,r,s,e,y,u⟩:=I0 d x so a g (by lia) (by lia) (List.range a) (c/5200) 24 [] J J J J (Zn _) ⟨ZE _,λt m=>nomatch m⟩ (by rw[LM,Xn];lia);rw[LM,Xn,YL]at u;refine⟨w,?_,y,by lia⟩;refine d8 L (U:=[Y (.pu (.int o)),Y (.pu (NW d)),Y (.pu (.int so)),Y (.pu (.int a)),Y (.pu (.int j)),J,p,q,r,s]) ?_;refine(?_);rw[av (aC (aP L n) (by decide) (by decide:1<10))];rw[av (aC (e2v L (e2v (e2v L L (gf (by decide))) L (bL (by decide))) li) (by decide) (by decide:2<10))];rw[av (U1:=[Y (.pu (.int c)),Y (.pu (NW d)),Y (.pu (.int so)),Y (.pu (.int a)),J,J,J,J,J,J]) (aC (e2v (e2v L L (gf (by decide))) L (by rw[← v];exact bL (by decide))) (by decide) (by decide:3<10))];rw[av L];rw[av L];rw[av L];rw[av (by
  rw[wX (wF L (by lia))];exact e)]
 rfl
abbrev L8(i:Uu)(h:Uv)(b g a:Int)(j:Up)(k:Nat)(f e d l m:Us):Env:=[Y (.pu (.scr i)),Y (.pu (.int b)),Y (.pu (NW h)),Y (.pu (.int g)),Y (.pu (.int a)),Y (.ow (.lst j)),Y (.pu (.int k)),f,e,d,l,m]
noncomputable abbrev cI(i:Int):Us:=Y (.pu (.int i))
noncomputable abbrev cS(t:Tx):Us:=Y (.pu (.str t))
def ni(e:a U=Y (.fr,.bl x))(d:b U=Y (.fr,.bl y)):ik a b U=Y (.fr,.bl (x&&y)):=by
 unfold ik;rw[e,Zr];cases x with
 |true=>exact d
 |false=>rfl
def xB(m:Uu)(l:Uv)(y:Az l)(g i f d:Int)(q:0<i)(F:i<=l.length)(o:Up)(k a:Nat)(C:k<6)(E:1<=a)(G:a<=5)(j:Nat)(D:j<200)(t:Tx)(u:Az t)(w:t.length<=1000)(z:Us) :
  ∃x n,Az [x]/\cT (L8 m l g i f o k (cI d) (cI a) (cS t) (cI j) z)=Y (.nx (L8 m l g i f o k (cI d) (cI a) (cS (t++[x])) (cI j) (cI n))):=by
 obtain⟨n,v,B,A⟩:=iV m (20*(k:Int)+6+(j:Int)) (by lia) (by lia);have s:e2 OQ (eN bU (ae (ab 9) ak)) (ab 8) (L8 m l g i f o k (cI d) (cI a) (cS t) (cI j) (cI n))=Y (.fr,.bl (decide ((a:Int)<=(t.length:Int)))):=rfl;have r:e2 M6 (e2 oMod (ab 11) (Q3 4)) (Q3 0) (L8 m l g i f o k (cI d) (cI a) (cS t) (cI j) (cI n))=Y (.fr,.bl (decide (0<n%4))):=e2v (e2v L L (bL (by decide))) L L;have st:∀{e:Ex}{x:Nat},e (L8 m l g i f o k (cI d) (cI a) (cS t) (cI j) (cI n))=Y (.fr,.str [x])->aK 9 (e2 cu (ab 9) e) (L8 m l g i f o k (cI d) (cI a) (cS t) (cI j) (cI n))=Y (.nx (L8 m l g i f o k (cI d) (cI a) (cS (t++[x])) (cI j) (cI n))):=λ{e x} h =>
  aC (e2v L h ((λx=>kI (ZS (Nat.add_le_add_right w 1) (by decide))) x)) (by decide) (by decide:9<12)
 unfold cT;rw[av (U1:=L8 m l g i f o k (cI d) (cI a) (cS t) (cI j) (cI n)) (aC (aP L v) (by decide) (by decide:11<12))];by_cases p:(a:Int)<=(t.length:Int)/\0<n%4
 ·refine⟨t.getD ((t.length:Int)-(a:Int)).toNat 0,n,qm u (by lia),?_⟩;rw[oj (by rw[ni s r,Lu p.1,Lu p.2];rfl)];exact st (e2v L L (zp t _ (by lia) (by lia)))
 ·have e1:=Yc (n/4) q;refine⟨l.getD (n/4%i).toNat 0,n,qm y (by lia),?_⟩;rw[lL (by
   rw[ni s r,← Bool.decide_and,ZZ p])]
  exact st (e2v L (e2v (e2v L L (gf (by decide))) L (bL q)) (AV l _ (YU (n/4) (b:=i) (by lia)) (by lia)))
def JA(u:Uu)(p:Uv)(S:Az p)(h o g f:Int)(F:0<o)(E:o<=p.length)(v:Up)(k d:Nat)(B:k<6)(D:1<=d)(P:d<=5)(l:Uv):∀(t:Tx)(s q:Us),(∀j∈l,j<200)->t.length+l.length<=1000->Az t →
  ∃m H N,forL (bx 10) cT (l.map λ(j:Nat)=>T.int (j:Int)) (L8 u p h o g v k (cI f) (cI d) (cS t) s q)=Y (.nx (L8 u p h o g v k (cI f) (cI d) (cS m) H N))/\m.length=t.length+l.length/\Az m:=by
 induction l with
 |nil=>exact λt s q _ _ r=>⟨t,s,q,rfl,rfl,r⟩
 |cons j l y =>
  intro t s q w A r;rw[Zf]at A;obtain⟨x,n,z,G⟩:=xB u p S h o g f F E v k d B D P j (w j Zv) t r (by lia) q;obtain⟨m,a,b,e,O,Q⟩:=y (t++[x]) (cI j) (cI n) (λi C=>w i (Zu _ C)) (by rw[Zx,ZR];lia) (r.app z);refine⟨m,a,b,?_,by rw[O,Zx,ZR,Zf];lia,Q⟩;rw[Zk,bR L G,e]
def CS(t:Tx)(i L:Nat)(h:i<=t.length):cut t (Y (i:Int)) (Y ((i:Int)+(L:Int)))=(t.drop i).take L:=by
 have b:¬((i:Int)<0):=by lia
 have a:¬((i:Int)+(L:Int)<0):=by lia
 simp only[cut,clip,Zo b,Zo a,Xp];rw[show ((i:Int)+(L:Int)).toNat=i+L by lia,Yi h];by_cases q:i+L<=t.length
 ·rw[Yi q,show i+L-i=L by exact Y4 _ _]
 ·rw[Wv (by exact XU q),Yu (by simp),Yu (by simp;lia)]
def yz(n:Uu)(m:Uv)(NP:Az m)(d l:Int)(UP:0<=d)(Pn:d<=120)(h0:0<l)(h1:l<=m.length)(k:Nat)(hk:k<6)(e:Nat)(hr:(e:Int)<=d)(i:List Tx)(B:Bk (d.toNat-e) i)(hl:i.length<=100)(D A z w y:Us) :
  ∃(P:Nat)(O:List Tx)(y7 y8 Z p s:Us),P<=e/\Bk (d.toNat-P) O/\O.length<=i.length+2/\cM (L8 n m d l e (i.map T.str) k D A z w y)=Y (.nx (L8 n m d l P (O.map T.str) k y7 y8 Z p s)):=by
 obtain⟨u,H,n40,n41⟩:=iV n (20*(k:Int)+4) (by lia) (by lia);obtain⟨C,G,n50,n51⟩:=iV n (20*(k:Int)+5) (by lia) (by lia);have e0:=YU u (b:=d+1) (by lia);obtain⟨sz,F,hsr⟩:∃sz:Nat,(if u%(d+1)<(e:Int) then u%(d+1) else (e:Int))=(sz:Int)/\sz<=e:=by
  by_cases h:u%(d+1)<(e:Int)
  ·exact⟨(u%(d+1)).toNat,by rw[Zs h];lia,by lia⟩
  ·exact⟨e,by rw[Zo h],Zn _⟩
 have S:((e:Int)-(sz:Int))=((e-sz:Nat):Int):=by lia
 generalize ht:(e-sz:Nat)=r1 at S;obtain⟨o,N,c0,c1⟩:∃o:Nat,1+C%5=(o:Int)/\1<=o/\o<=5:=⟨(1+C%5).toNat,by lia,by lia,by lia⟩
 obtain⟨f,p,s,ee,N2,U⟩:=JA n m NP d l (r1:Int) (sz:Int) h0 h1 (i.map T.str) k o hk c0 c1 (List.range sz) [] w y (λj hj=>by have:=Yq.mp hj;lia) (by rw[LM,Xn];lia) (λx E=>nomatch E);rw[LM,Xn,YL]at N2;have X:Bk (d.toNat-r1) (i++[f]):=B.snoc (by lia) U;have Q:∀(r:Int)(b:Up)(D A z w y:Us),aT aX (ae (ab 0) (ae (e2 cu (e2 ig (Q3 20) (ab 6)) (Q3 5)) ak)) (L8 n m d l r b k D A z w y)=Y (.fr,.int C):=λr b _ _ _ _ _=>aP L G;have m4:aT aX (ae (ab 0) (ae (e2 cu (e2 ig (Q3 20) (ab 6)) (Q3 4)) ak)) (L8 n m d l e (i.map T.str) k D A z w y)=Y (.fr,.int u):=aP L H;have mp:∀(b:List Tx)(t:Tx),(b++[t]).map T.str=b.map T.str++[T.str t]:=λb t=>by rw[Yy];rfl
 unfold cM;rw[av (aC (t:=.int sz) (by
  have a:=xv (a:=ab 4) L (xv (e2v m4 (b:=e2 cu (ab 1) (Q3 1)) L (bL (by lia))) (r:=ak) L);show (ae _ _ _).bind _=_;rw[a,← F];rfl) (by decide) (by decide:7<12))]
 rw[av (U1:=L8 n m d l r1 (i.map T.str) k (cI sz) A z w y) (aC (by rw[← S];rfl) (by decide) (by decide:4<12))];rw[av (aC (t:=.int o) (e2v L (e2v (Q r1 _ _ _ _ _ _) L (bL (by decide))) (by rw[← N];rfl)) (by decide) (by decide:8<12))];rw[av L];rw[av (by rw[wX (wF L (by lia))];exact ee)];rw[av (U1:=L8 n m d l r1 ((i++[f]).map T.str) k (cI sz) (cI o) (cS f) p s) (by rw[mp,lE L L (by rw[Zw];lia)];rfl)];have g1:e2 M6 (ab 7) (Q3 2) (L8 n m d l r1 ((i++[f]).map T.str) k (cI sz) (cI o) (cS f) p s)=Y (.fr,.bl (decide ((2:Int)<(sz:Int)))):=rfl;have g2:e2 oEq (e2 oMod (aT aX (ae (ab 0) (ae (e2 cu (e2 ig (Q3 20) (ab 6)) (Q3 5)) ak))) (Q3 3)) (Q3 0) (L8 n m d l r1 ((i++[f]).map T.str) k (cI sz) (cI o) (cS f) p s)=Y (.fr,.bl (C%3==0)):=e2v (e2v (Q _ _ _ _ _ _ _) L (bL (by decide))) L L;have g3:e2 OQ (ab 4) (Q3 2) (L8 n m d l r1 ((i++[f]).map T.str) k (cI sz) (cI o) (cS f) p s)=Y (.fr,.bl (decide ((2:Int)<=(r1:Int)))):=rfl;have g:=ni g1 (ni g2 g3);cases hg:(decide ((2:Int)<(sz:Int))&&((C%3==0)&&decide ((2:Int)<=(r1:Int)))) with
 |true =>
  rw[hg]at g;have q:=ZP.mp hg;have l2:((f.drop 1).take 2).length<=2:=by rw[LX];exact WG _ _
  have LB:((r1:Int)-2)=((r1-2:Nat):Int):=by lia
  refine⟨r1-2,i++[f]++[(f.drop 1).take 2],cI sz,cI o,cS f,p,s,by lia,X.snoc (by lia) (λx E=>U x (YI (YS E))),by rw[Zx,Zx,ZR,ZR];exact Zn _,?_⟩;rw[oj g];rw[av (U1:=L8 n m d l r1 ((i++[f]++[(f.drop 1).take 2]).map T.str) k (cI sz) (cI o) (cS f) p s) (by
   rw[mp (i++[f]),lE (v:=.str ((f.drop 1).take 2)) L (by rw[← (CS f 1 2 (by lia))];rfl) (by rw[Zw,Zx,ZR];lia)];rfl)]
  rw[← LB];rfl
 |false =>
  rw[hg]at g;refine⟨r1,i++[f],cI sz,cI o,cS f,p,s,by lia,X,by rw[Zx,ZR];exact WZ _,?_⟩;rw[lL g];rfl
def Jh(s:Uu)(j:Uv)(NP:Az j)(a h:Int)(X:0<=a)(Pn:a<=120)(P:0<h)(O:h<=j.length)(b:Uv):∀(room:Nat)(bk:List Tx)(o g f d l m:Us),(∀k∈b,k<6)->(room:Int)<=a->Bk (a.toNat-room) bk->bk.length+2*b.length<=100 →
  ∃(ME:Int)(w:List Tx)(z r q p u v:Us),Bk a.toNat w/\w.length<=bk.length+2*b.length/\forL (bx 6) cM (b.map λ(k:Nat)=>T.int (k:Int)) [Y (.pu (.scr s)),Y (.pu (.int a)),Y (.pu (NW j)),Y (.pu (.int h)),Y (.pu (.int (room:Int))),Y (.ow (.lst (bk.map T.str))),o,g,f,d,l,m] =
   Y (.nx [Y (.pu (.scr s)),Y (.pu (.int a)),Y (.pu (NW j)),Y (.pu (.int h)),Y (.pu (.int ME)),Y (.ow (.lst (w.map T.str))),z,r,q,p,u,v]):=by
 induction b with
 |nil=>exact λroom bk o g f d l m _ x B _=>⟨room,bk,o,g,f,d,l,m,⟨ZS B.n (Yj _ _),B.az⟩,Zn _,rfl⟩
 |cons k b F =>
  intro room bk o g f d l m y x B H;rw[Zf]at H;obtain⟨r1,U,r,q,p,u,v,G,B1,N2,Q⟩:=yz s j NP a h X Pn P O k (y k Zv) room x bk B (by lia) g f d l m;obtain⟨r2,S,E,D,C,A,SA,Z,B2,Lr,e⟩:=F r1 U (cI k) r q p u v (λi N=>y i (Zu _ N)) (by lia) B1 (by lia);refine⟨r2,S,E,D,C,A,SA,Z,B2,by rw[Zf];lia,?_⟩;rw[Zk,bR L Q,e]
def JF{α:Type}(l:List α):cut l J (Y 8)=l.take 8:=by
 simp only[cut,clip];by_cases h:8<=l.length
 ·simp[Yi h]
 ·simp[Wv (ZO (Wu h))];rw[Yu (by exact XU h)]
theorem Bk.take(B:Bk m a)(n:Nat):Bk m (a.take n):=by
 refine⟨?_,λt b=>B.az t (YS b)⟩;have h:a.flatten=(a.take n).flatten++(a.drop n).flatten:=by rw[← Yh,YM]
 have:=B.n;rw[h,Zx]at this;lia
def zi(l:List Tx):hJ (l.map T.str)=M:=by
 induction l with
 |nil=>rfl
 |cons a l b=>simpa[hJ,JU] using b
def yQ(d:Uu)(a:Int)(O:0<=a)(Q:a<=120):∃bk:List Tx,dS [.scr d,.int a]=Y (.fr,.lst (bk.map T.str))/\Bk a.toNat bk/\bk.length<=8:=by
 obtain⟨B,y,_,_⟩:=iV d 1 (by decide) (by decide);obtain⟨j,P,_,_⟩:=iV d 2 (by decide) (by decide);obtain⟨u,x,_,_⟩:=iV d 3 (by decide) (by decide);obtain⟨l,H,hl,X⟩:=wo B;have li:aJ (.fr,.lst [.int 1,.int 2,.int 3,.int 4,.int 2,.int 3,.int 9,.int 26]) (.fr,.int (j%8))=_:=nU T.int [1,2,3,4,2,3,9,26] (j%8) 0 (YU j (b:=8) (by decide)) (Yc j (b:=8) (by decide)) L;obtain⟨so,w,D,s1⟩:∃so:Int,List.getD [1,2,3,4,2,3,9,26] (j%8).toNat 0=so/\0<so/\so<=26:=by
  have E:∀i,i<8->0<(List.getD [1,2,3,4,2,3,9,26] i 0:Int)/\(List.getD [1,2,3,4,2,3,9,26] i 0:Int)<=26:=by decide
  have h:=E (j%8).toNat (by lia);exact⟨_,rfl,h.1,h.2⟩
 rw[w]at li;obtain⟨m,S,F⟩:∃m:Nat,u%6=(m:Int)/\m<6:=⟨(u%6).toNat,by lia,by lia⟩
 obtain⟨f,rfl⟩:∃f:Nat,a=(f:Int):=⟨a.toNat,by lia⟩
 obtain⟨r2,g,s,q,p,o,A,z,Z,Lr,e⟩:=Jh d l X f so O Q D (by lia) (List.range m) f [] J J J J J J (λk N=>XM (Yq.mp N) F) (Int.le_refl _) ⟨ZE _,λt G=>nomatch G⟩ (by rw[LM,Xn];lia);have v:∀(i n:Int)(r:Env),aX [.scr d,.int i]=Y (.fr,.int n)->aT aX (ae (ab 0) (ae (Q3 i) ak)) (Y (.pu (.scr d)) :: r)=Y (.fr,.int n):=λi n r h=>aP L h;have mk:L4 .pu ((g.take 8).map T.str)=Y (.fr,.lst ((g.take 8).map T.str)):=by
  unfold L4;rw[Zs (by rw[Zw,LX];exact ZS (WG _ _) (by decide)),Zs (zi _)]
 refine⟨g.take 8,?_,Z.take 8,by rw[LX];exact WG _ _⟩;refine d8 L (U:=[Y (.pu (.scr d)),Y (.pu (.int f)),Y (.pu (NW l)),Y (.pu (.int so)),Y (.pu (.int r2)),Y (.pu (.lst (g.map T.str))),s,q,p,o,A,z]) ?_;refine(?_);rw[av (U1:=[Y (.pu (.scr d)),Y (.pu (.int f)),Y (.pu (NW l)),J,J,J,J,J,J,J,J,J]) (aC (aP (xv (v 1 B _ y) L) H) (by decide) (by decide:2<12))];rw[av (aC (e2v L (e2v (v 2 j _ P) L (bL (by decide))) li) (by decide) (by decide:3<12))];rw[av L];rw[av (U1:=[Y (.pu (.scr d)),Y (.pu (.int f)),Y (.pu (NW l)),Y (.pu (.int so)),Y (.pu (.int (f:Int))),Y (.ow (.lst (([]).map T.str))),J,J,J,J,J,J]) L];rw[av (by
  rw[wX (wF (e2v (v 3 u _ x) L (by rw[← S];exact bL (by decide))) (by lia))];exact e)]
 rw[av (U1:=[Y (.pu (.scr d)),Y (.pu (.int f)),Y (.pu (NW l)),Y (.pu (.int so)),Y (.pu (.int r2)),Y (.pu (.lst (g.map T.str))),s,q,p,o,A,z]) L];have C:OF (ab 5) J (Y (Q3 8)) [Y (.pu (.scr d)),Y (.pu (.int f)),Y (.pu (NW l)),Y (.pu (.int so)),Y (.pu (.int r2)),Y (.pu (.lst (g.map T.str))),s,q,p,o,A,z]=Y (.fr,.lst ((g.take 8).map T.str)):=by
  show L4 .pu (cut (g.map T.str) J (Y 8))=_;rw[JF,← List.map_take,mk]
 simp only[d5,C,Zr]
def Bk.up{m n:Nat}{a:List Tx}(B:Bk m a)(h:m<=n):Bk n a:=⟨ZS B.n h,B.az⟩
def eq0(i:Int):oEq (m,.int i) (n,.int 0)=Y (.fr,.bl (decide (i=0))):=by
 show (if _ then Y (Md.fr,T.bl (eqT (.int i) (.int 0))) else J)=_;rw[Zs ⟨rfl,rfl⟩];rfl
def EE(a:Uu):∃bk:List Tx,iU [.scr a,.int 30]=Y (.fr,.lst (bk.map T.str))/\Bk 30 bk/\bk.length<=8:=by
 obtain⟨c,q⟩:=Fm a;obtain⟨d,f,_,_⟩:=iV a 0 (by decide) (by decide);have ca:aT fg (ae (ab 0) (ae (Q3 0) ak)) [Y (.pu (.scr a)),Y (.pu (.int 30))]=Y (.fr,.int c):=aP L q;have e:=e2v (b:=Q3 0) (e2v (b:=Q3 2) ca L (bL (by decide))) L (eq0 (c%2));by_cases p:c%2=0
 ·rw[Lu p]at e;obtain⟨bk,hb,B,j⟩:=Am (c/2);exact⟨bk,d8 L (ki (ift e (dc (aP (xv (e2v ca L (gf (by decide))) L) hb)))),B.up (by decide),ZS j (by decide)⟩
 rw[ZZ p]at e;have li:=λm n=>nU (m:=m) (n:=n) T.int [24,24,24,30] (d%4) 0 (YU d (b:=4) (by decide)) (Yc d (b:=4) (by decide)) L;obtain⟨mo,g,o,r⟩:∃mo:Int,List.getD [24,24,24,30] (d%4).toNat 0=mo/\0<=mo/\mo<=30:=by
  have l:∀i,i<4->0<=(List.getD [24,24,24,30] i 0:Int)/\(List.getD [24,24,24,30] i 0:Int)<=30:=by decide
  have h:=l (d%4).toNat (by lia);exact⟨_,rfl,h.1,h.2⟩
 rw[g]at li;obtain⟨bk,hb,B,j⟩:=yQ a mo o (by lia);exact⟨bk,d8 L (sq (lL e) (dc (aP (xv L (xv (e2v L (e2v (aP L f) L (bL (by decide))) (li _ _)) L)) hb))),B.up (by lia),j⟩
end T23
end
section
namespace T23
open VS AU
theorem tM{β:Type}{tg:Tg}{body:Sx}(g:β->T)(Inv:List β->Env->Prop)(h:∀t r U,Inv (t :: r) U->∃f a,tg (g t) U=Y f/\body f=Y (.nx a)/\Inv r a):∀(l:List β)(U:Env),Inv l U->∃b,forL tg body (l.map g) U=Y (.nx b)/\Inv [] b
 |[],U,e=>⟨U,rfl,e⟩
 |t :: l,U,e=>by
  obtain⟨f,a,e1,e2,i⟩:=h t l U e;obtain⟨b,e3,d⟩:=tM g Inv h l a i;exact⟨b,(bR e1 e2).trans e3,d⟩
noncomputable abbrev s1(c:Nat):T:=.str [c]
def zu{a:Up}(f:a.length=d)(h:∃U,b (a.map (λt=>Y (.pu t))++List.replicate (e-d) J)=Y (.rt v U)):fn d e b a=Y v:=by
 obtain⟨U,h⟩:=h;exact d8 f h
def iC(h:a U=Y (.nx d))(q:∃z,b d=Y (.rt v z)):∃z,ar a b U=Y (.rt v z):=by
 rw[av h];exact q
noncomputable abbrev J4(a:List (Nat×Nat)):List (T×T):=a.map λp=>(T.str [p.1],T.int (p.2:Int))
noncomputable abbrev PM(p:Nat×Nat):T:=.tup [.str [p.1],.int (p.2:Int)]
def ID(a:List (Nat×Nat)):qZ (a.map PM)=Y (J4 a):=by
 induction a with
 |nil=>rfl
 |cons w a b =>
  show (if hZ (T.str [w.1])/\JU (T.int (w.2:Int)) then (qZ (a.map PM)).map _ else J)=_;rw[Zs ⟨rfl,rfl⟩,b];rfl
theorem sW:∀(ws acc:List (Nat×Nat)),((acc++ws).map (·.1)).Nodup->(J4 ws).foldl (λd q=>dput d q.1 q.2) (J4 acc)=J4 (acc++ws)
 |[],acc,_=>by rw[ZL];rfl
 |w :: ws,acc,h=>by
  have e:dput (J4 acc) (T.str [w.1]) (T.int (w.2:Int))=J4 (acc++[w]):=by
   unfold dput;rw[Zo (by
    simp only[XS,not_exists,not_and];intro p b;obtain⟨q,a,rfl⟩:=ZC.mp b;simp only[eqT,beq_iff_eq,Wh,and_true];intro z;exact(λz=>by
   rw[Yy,Zk]at h;exact(ZA.mp h).2.2 w.1 z w.1 Zv L) (ZC.mpr ⟨q,a,z⟩))]
   simp[J4]
  show (J4 ws).foldl _ (dput (J4 acc) (T.str [w.1]) (T.int (w.2:Int)))=_;rw[e,sW ws (acc++[w]) (by rw[Zb];exact h),Zb];rfl
def yV(w:List (Nat×Nat)):(sk w).Nodup:=by
 exact VH VN (by decide)
def u7(S:St)(M:Uv)(n:Nat):(steps S M n).map (·.1)=sk (S.wy.getD n []):=by
 unfold steps;rw[La];exact List.map_id' _
def Jk{m:Md}(S:St)(M:Uv)(n:Nat):oE [(m,M3 (steps S M n))]=Y (.fr,.dct 0 (J4 (steps S M n))):=by
 show (qZ ((steps S M n).map PM)).map _=_;rw[ID,Vf];have:=sW (steps S M n) [] (by rw[YV,u7];exact yV _);rw[YV]at this;exact congrArg (λz=>Y (Md.fr,T.dct 0 z)) this
def rW(S:St)(M:Uv)(n c:Nat)(e:97<=c/\c<=122):gW (steps S M n) c=(gW (S.wy.getD n []) c).map λm=>M.idxOf m:=by
 have key:∀l:Uv,gW (l.map λc=>(c,M.idxOf ((gW (S.wy.getD n []) c).getD 0))) c=if c∈l then Y (M.idxOf ((gW (S.wy.getD n []) c).getD 0)) else J:=by
  intro l
  induction l with
  |nil=>rfl
  |cons a l b =>
   unfold gW at b ⊢;rw[Zk,Yo];by_cases h:a=c
   ·subst h;simp
   ·have:(a==c)=R:=by simpa using h
    rw[this];rw[b];simp[Y0 h]
 unfold steps;rw[key];cases hg:gW (S.wy.getD n []) c with
 |none =>
  rw[Zo λz=>by
   obtain⟨m,d⟩:=lK z;rw[hg]at d;cases d]
  rfl
 |some m =>
  rw[Zs (by
   refine Xz.mpr ⟨List.mem_range'_1.mpr (by lia),by rw[hg];rfl⟩)]
  rfl
def pC(S:St)(M:Uv)(n:Nat):(row S M n).2.2.2=steps S M n:=by
 unfold row;split<;>rfl
noncomputable abbrev Pl:=Nat×Nat
noncomputable def tP(p:Pl):T:=.tup [.int p.1,.int p.2]
noncomputable def SV(w t:Tx):Uv:=(List.range (t.length+1)).filter λe=>w.isSuffixOf (t.take e)
def J7(a:List Tx)(w:Tx):List Pl:=(a.zipIdx 0).flatMap λp=>(SV w p.1).map λe=>(p.2,e)
def BL(l:List Pl):hJ (l.map tP)=M:=jb tP (λ_=>rfl) l
noncomputable def Pt(a:List Tx)(w:Tx):Prop:=w=[]\/∃t∈a,w <:+: t
def dW:p∈J7 d w ↔ ∃t,d[p.1]?=Y t/\p.2<=t.length/\w <:+ t.take p.2:=by
 unfold J7;rw[Uz];constructor
 ·rintro⟨⟨t,n⟩,f,h⟩;obtain⟨e,he,rfl⟩:=ZC.mp h;obtain⟨b,a⟩:=Xz.mp he;have:=Yq.mp b;exact⟨t,by simpa using XH.mp f,Yv this,Y7.mp a⟩
 ·rintro⟨t,b,a,g⟩;exact⟨(t,p.1),XH.mpr b,ZC.mpr ⟨p.2,Xz.mpr ⟨Yq.mpr (VD a),Y7.mpr g⟩,rfl⟩⟩
def AX{α:Type}(g:α->T)(l:List α):∀n:Nat,fP n (l.map g)=(l.zipIdx n).map λp=>T.tup [.int p.2,g p.1]:=by
 induction l with
 |nil=>intro n;rfl
 |cons t l a=>intro n;rw[Ws,Zk,Zk,fP,a (n+1)]
def enum_zip(l:List Tx)(n:Nat):fP n (l.map T.str)=(l.zipIdx n).map λp=>T.tup [.int p.2,.str p.1]:=AX T.str l n
end T23
end
section
namespace AU
section
def I.QV(H:I J S nd wd):∀(z u:Wd){n:Nat},nd (u++z)=Y n->∃m,nd u=Y m:=by
 intro z
 induction z with
 |nil=>intro u n h;rw[ZL]at h;exact⟨n,h⟩
 |cons c z a =>
  intro u n h;rw[WK]at h;obtain⟨m,b⟩:=a _ h;exact H.pre b
def I.ext(H:I J S nd wd):∀(z x y:Wd){n:Nat},nd x=Y n->nd y=Y n->nd (x++z)=nd (y++z):=by
 intro z
 induction z with
 |nil=>intro x y n d b;rw[ZL,ZL,d,b]
 |cons c z h =>
  intro x y n d b;rw[WK x,WK y];have e:=(H.wy d c).symm.trans (H.wy b c);cases a:nd (x++[c]) with
  |some m=>exact h _ _ a (e ▸ a)
  |none =>
   have f:∀u,nd u=J->nd (u++z)=J:=λu j=>by
    cases i:nd (u++z) with
    |none=>rfl
    |some k =>
     obtain⟨m,g⟩:=H.QV z u i;rw[j]at g;cases g
   rw[f _ a,f _ (e ▸ a)]
def I.head(H:I J S nd wd)(f:n<wd.length)(e:W wd n=x++y):∃m,m<wd.length/\W wd m=x:=by
 have a:=(H.top f)
 rw[e]at a;obtain⟨m,b⟩:=H.QV y x a;have d:=H.lt b;refine⟨m,d,?_⟩;have:=H.ext y _ _ b (H.top d);rw[a]at this;have s:=(H.sf this.symm).length_le;rw[e,Zx,Zx]at s;exact((H.sf b).eq_of_length_le (by lia)).symm
noncomputable def ends(b:List Wd):List Wd:=b.flatMap λt=>(List.range t.length).map λk=>t.drop k
def Ee{l:Uv}(a:l.Nodup)(h:k<l.length):l.idxOf l[k]=k:=by
 exact(Uw a).mp (Wc (YB.mpr (Yp h)))
end
noncomputable def SN(S:St)(t:Nat):Nat:=match S.lk.getD t J with
 |none=>0
 |some m=>S.lg.getD m 0+1
def sw(S:St)(a:List Wd)(t:Nat):Wd:=(W a t).drop ((W a t).length-SN S t)
section
variable{P:Wd->Prop}{S:St}{nd:Wd->Option Nat}{wd:List Wd}(H:I none S nd wd)
include H
theorem I.sh(a:t<wd.length):SN S t<=(W wd t).length/\∀y,nd y=Y t↔y <:+ W wd t/\SN S t<=y.length:=by
 unfold SN;by_cases h:t=0
 ·subst h;rw[H.OR,H.wz];exact⟨ZE _,λy=>⟨λz=>⟨by rw[H.zero z];exact Lx _,ZE _⟩,λz=>by rw[YW.mp z.1];exact H.z⟩⟩
 ·obtain⟨m,e,⟨f,_⟩,g,d,b⟩:=H.lk (Ys h) a (by simp);rw[e];show S.lg.getD m 0+1<=_/\∀y,_↔_/\S.lg.getD m 0+1<=_;rw[H.lg m f];exact⟨d,λy=>⟨λz=>⟨H.sf z,(H.low (by simp) e z).1⟩,λz=>b y z.1 z.2⟩⟩
theorem I.QP(a:t<wd.length):(sw S wd t).length=SN S t:=by
 have:=(H.sh a).1;unfold sw;rw[Yl];lia
theorem I.PR(a:t<wd.length):nd (sw S wd t)=Y t:=((H.sh a).2 _).mpr ⟨List.drop_suffix _ _,by rw[H.QP a];exact Zn _⟩
end
end AU
end
section
namespace T23
open VS AU
def yr{α:Type}(f:α->T)(l:List α)(d:α)(h:0<l.length):aJ (m,.lst (l.map f)) (n,.int (-1))=Y (sub m (f (l.getD (l.length-1) d))):=by
 show ((Lf (l.map f).length (-1)).bind _)=_;have:Lf (l.map f).length (-1)=Y (l.length-1):=by
  unfold Lf;rw[Zw,Zo (by decide),Zs (by lia)];congr 1;lia
 rw[this,Zr,ZG,Zq,Zp (by omega)];rfl
noncomputable abbrev MF(l:Uv):T:=.lst (l.map λ(n:Nat)=>T.int (n:Int))
abbrev ix(a:List Tx)(m:Nat):Nat:=(aA a).idxOf m
def num(b:List Tx)(a:Wd->Option Nat)(w:Tx):Nat:=(aA b).idxOf ((a w).getD 0)
noncomputable def vB(v:Nat×Nat):T:=.tup [.int (v.1:Int),.str [v.2]]
noncomputable abbrev NF:=List (Nat×(Nat×Nat))
def bT(m:NF):List (T×T):=m.map λp=>(T.int (p.1:Int),vB p.2)
noncomputable def pf(m:NF)(j:Nat)(v:Nat×Nat):NF:=if j∈m.map (·.1) then m.map (λp=>if p.1=j then (p.1,v) else p) else m++[(j,v)]
def mF(a b:Nat):eqT (T.int (a:Int)) (T.int (b:Int))=decide (a=b):=by
 by_cases h:a=b
 ·simp[h]
 ·rw[ZZ h];exact beq_eq_false_iff_ne.mpr (by lia)
def Dt(m:NF)(j:Nat)(v:Nat×Nat):dput (bT m) (.int (j:Int)) (vB v)=bT (pf m j v):=by
 have e:(bT m).any (λp=>eqT p.1 (.int (j:Int)))=decide (j∈m.map (·.1)):=by
  induction m with
  |nil=>rfl
  |cons a m d =>
   rw[show bT (a :: m)=(T.int (a.1:Int),vB a.2) :: bT m from rfl,YN,d,mF,Zk];by_cases q:a.1=j
   ·simp[q]
   ·have b:¬j=a.1:=λz=>q z.symm;simp[q,b]
 unfold dput pf;rw[e];by_cases q:j∈m.map (·.1)
 ·rw[Zs (by simpa using q),Zs q];unfold bT;rw[La,La];apply Y8;intro p _;simp only[Function.comp,mF];by_cases r:p.1=j
  ·simp[r]
  ·simp[r]
 ·rw[Zo (by simpa using q),Zo q];simp[bT]
def Bh(m:NF)(j:Nat)(v:Nat×Nat):(pf m j v).length<=m.length+1:=by
 unfold pf;split<;>simp
def p6(m:NF)(j:Nat)(v:Nat×Nat)(k:Nat)(h:k∈m.map (·.1)\/k=j):k∈(pf m j v).map (·.1):=by
 unfold pf;split
 ·rename_i q;obtain⟨p,a,rfl⟩:=ZC.mp (h.elim id λz=>z ▸ q);refine ZC.mpr ⟨_,ZC.mpr ⟨p,a,rfl⟩,?_⟩;by_cases r:p.1=j
  ·rw[Zs r]
  ·rw[Zo r]
 ·rw[Yy,Zd];exact h.imp id λz=>by simp[z]
def zt(m:NF)(j:Nat)(v:Nat×Nat)(q:Nat×(Nat×Nat))(h:q∈pf m j v):q∈m\/q=(j,v):=by
 unfold pf at h;split at h
 ·obtain⟨p,a,rfl⟩:=ZC.mp h;by_cases r:p.1=j
  ·rw[Zs r];right;rw[r]
  ·rw[Zo r];exact .inl a
 ·rcases Zd.mp h with h | h
  ·exact .inl h
  ·exact .inr (Zc.mp h)
def JC(m:NF)(i:Nat)(h:i∈m.map (·.1)):∃v,dR (bT m) (.int (i:Int))=Y (vB v)/\(i,v)∈m:=by
 induction m with
 |nil=>simp at h
 |cons a m d =>
  obtain⟨j,v⟩:=a;rw[show bT ((j,v) :: m)=(T.int (j:Int),vB v) :: bT m from rfl];unfold dR;by_cases q:j=i
  ·subst q;exact⟨v,by rw[Yo,mF];simp,Zv⟩
  ·rw[Yo,mF,ZZ q];rw[Zk,Zg]at h;obtain⟨b,f,e⟩:=d (h.resolve_left λz=>q z.symm);exact⟨b,f,Zu _ e⟩
def CT{U:Env}{v:T}(h:U[i]?=Y (Y (.ow (.dct 0 l))))(he:e U=Y (m,v))(b:k U=Y (n,a))(g:hZ a=M)(f:JU v=M)(d:l.length<16777216):nK i k e U=Y (.nx (U.set i (Y (.ow (.dct 0 (dput l a v)))))):=by
 unfold nK;rw[he,Zr,h,b];exact Zs ⟨g,f,d⟩
noncomputable def Lv(S:St):Nat->Nat->Uv
 |0,m=>[m]
 |k+1,m=>m :: match S.lk.getD m J with
  |none=>[]
  |some r=>Lv S k r
def uH{l:Up}(a:i<l.length):aL [.lst l,.int (i:Int)]=Y (.fr,.non):=by
 refine Ei (U:=[pc (.lst l),Q0 (i:Int)]) L ?_;refine(lL (m:=.fr) (zF (m:=.fr) (x:=R) ?_ (λ_=>?_) (λh=>by cases h))).trans rfl
 ·exact lP (b:=M) L
 ·refine lP (m:=.fr) (b:=M) (wx L L ?_ (gM (xv L L) L) ?_)
  ·show Y (Md.fr,T.bl (decide ((0:Int)<=(i:Int))))=_;rw[Lu (by lia)]
  ·show Y (Md.fr,T.bl (decide ((i:Int)<(l.length:Int))))=_;rw[Lu (by lia)]
section
variable{bk:List Tx}{nd:Wd->Option Nat}{wd:List Wd}(H:K (Hd bk) (aD bk) nd wd)(hM:∀x,x∈aA bk↔x<(aD bk).lg.length)(h0:(aA bk).idxOf 0=0)
include hM
theorem zT(a:m<(aD bk).lg.length):ix bk m<(tabOf bk).length:=by
 unfold tabOf tab;rw[Zw];exact YB.mpr ((hM m).mpr a)
theorem oM{m:Nat}(e:m<(aD bk).lg.length){n:Md}(g:a U=Y (.pu,JW (tabOf bk)))(f:b U=Y (n,.int (ix bk m:Int))):e2 aJ a b U=Y (.fr,fG (row (aD bk) (aA bk) m)):=by
 refine e2v g f ?_;have d:=YB.mpr ((hM m).mpr e);unfold JW tabOf tab;rw[La,jA (fG ∘ row (aD bk) (aA bk)) (aA bk) (ix bk m) 0 d,Zq,Zp d];show Y (up .pu (fG (row (aD bk) (aA bk) (aA bk)[ix bk m])))=_;rw[Wc _];unfold up;rw[qH];rfl
include H
theorem Br(a:m<wd.length):(row (aD bk) (aA bk) m).2.1=(W wd m).length:=by
 unfold row;rw[← H.i.lg m a];split
 ·rename_i h;by_cases h0:m=0
  ·rw[h0,H.i.lg 0 (by exact XB a),H.i.wz];rfl
  ·obtain⟨r,e,_⟩:=H.i.lk (Ys h0) a (by simp);rw[h]at e;cases e
 ·rfl
include h0
def wl(b:List Tx)(a:Wd->Option Nat)(p:Tx):Uv:=(List.range (p.length+1)).map λi=>num b a (p.take i)
omit H hM h0 in
theorem Cg(p:Tx)(c:Nat):wl bk nd (p++[c])=wl bk nd p++[num bk nd (p++[c])]:=by
 unfold wl;rw[Zx,ZR,List.range_succ,Yy];congr 1
 ·refine Y8 λi a=>?_;have:=Yq.mp a;rw[XO (by exact Yv this)]
 ·show [num bk nd ((p++[c]).take (p.length+1))]=_;rw[Yu (by rw[Zx];exact Zn _)]
omit H hM h0 in
theorem qM(h:nd w=Y m):num bk nd w=ix bk m:=by
 unfold num;rw[h];rfl
theorem wk(d:Tx):∀(v p:Tx)(f b:Us),(nd (p++v)).isSome=M->Az v->p.length+v.length<1000000->∃h g,forL (bx 3) qh (v.map s1) [pc (JW (tabOf bk)),Q2 d,oc (MF (wl bk nd p)),f,b]=Y (.nx [pc (JW (tabOf bk)),Q2 d,oc (MF (wl bk nd (p++v))),h,g]):=by
 intro v
 induction v with
 |nil=>exact λp f b _ _ _=>⟨f,b,by rw[ZL];rfl⟩
 |cons c v w =>
  intro p f b j s B;rw[Zf]at B;obtain⟨E,u⟩:=YC.mp j;rw[WK]at u j;obtain⟨q,o⟩:=H.i.QV v (p++[c]) u;obtain⟨m,l⟩:=H.i.pre o;have D:m<(aD bk).lg.length:=by rw[← H.i.len];exact H.i.lt l
  have C:(wl bk nd p).length=p.length+1:=by unfold wl;rw[Zw,LM]
  have z:e2 aJ (ab 2) (Q3 (-1)) [pc (JW (tabOf bk)),Q2 d,oc (MF (wl bk nd p)),pc (s1 c),b]=Y (.fr,.int (ix bk m:Int)):=by
   refine e2v L L ?_;rw[yr (λ(n:Nat)=>T.int (n:Int)) (wl bk nd p) 0 (by lia),C,XJ,← qM l];have:(wl bk nd p).getD p.length 0=num bk nd p:=by
    unfold wl;rw[Zq,ZG,List.getElem?_range (Ym _),Vf,V8];rfl
   rw[this];rfl
  have hg:gW (steps (aD bk) (aA bk) m) c=Y (ix bk q):=by rw[rW _ _ _ _ (s c Zv),H.i.wy l c,o];rfl
  have ap:=lE (i:=2) (U:=[pc (JW (tabOf bk)),Q2 d,oc (MF (wl bk nd p)),pc (s1 c),pc (Kl (steps (aD bk) (aA bk) m))]) (e:=e2 LU (ab 4) (ab 3)) L (xx L L hg) (by rw[Zw];lia);rw[show (wl bk nd p).map (λ(n:Nat)=>T.int (n:Int))++[T.int (ix bk q:Int)]=(wl bk nd (p++[c])).map λ(n:Nat)=>T.int (n:Int) from by rw[Cg,Yy,qM o];rfl]at ap;obtain⟨h,g,e⟩:=w (p++[c]) (pc (s1 c)) (pc (Kl (steps (aD bk) (aA bk) m))) j (λx A=>s x (Zu _ A)) (by rw[Zx,ZR];lia);rw[WK p c v];refine⟨h,g,(bR L (sq (by
   refine aC (m:=.fr) (gM (xv (r:=ak) (x:=(.fr,M3 (steps (aD bk) (aA bk) m))) (e2v (oM hM D L z) (y:=(.fr,.int 3)) L ?_) L) (Jk _ _ _)) (by decide) (by show 4<5;decide);rw[← pC];show Y (up .fr (M3 _))=_;unfold up;rw[oS];rfl) (sq (vb (m:=.fr) ?_ L) ap))).trans e⟩
  have:=Eb (U:=[pc (JW (tabOf bk)),Q2 d,oc (MF (wl bk nd p)),pc (s1 c),pc (Kl (steps (aD bk) (aA bk) m))]) (a:=ab 4) (e:=ab 3) L L;rw[hg]at this;exact this
theorem GM(hw:(nd w).isSome=M)(a:Az w)(g:w.length<=1000):n8 [JW (tabOf bk),.str w]=Y (.fr,MF (wl bk nd w)):=by
 obtain⟨f,d,e⟩:=wk H hM h0 w w [] J J (by rw[YV];exact hw) a (by show 0+_<_;lia);have b:wl bk nd []=[0]:=by
  show [num bk nd []]=_;rw[qM H.i.z,show ix bk 0=0 from h0]
 rw[b]at e;exact d8 L (sq L (sq ((dU L L).trans e) L))
omit h0
theorem IG:∀(k m:Nat)(acc:Uv)(F:Nat),m<wd.length->(W wd m).length<=k->k+1<F->acc.length+k<1000000->dG (fR (ab 1)) iL F [pc (JW (tabOf bk)),Q0 (ix bk m:Int),oc (MF acc)]=Y (.nx [pc (JW (tabOf bk)),pc .non,oc (MF (acc++(Lv (aD bk) k m).map (ix bk)))]):=by
 intro k
 induction k using Nat.strongRecOn with
 |ind k ih =>
  intro m acc F hm hk hF ha;obtain⟨F,rfl⟩:∃j,F=j+2:=⟨F-2,by lia⟩
  have K7:m<(aD bk).lg.length:=by rw[← H.i.len];exact hm
  have a1:=lE (i:=2) (U:=[pc (JW (tabOf bk)),Q0 (ix bk m:Int),oc (MF acc)]) (e:=ab 1) L L (by rw[Zw];lia);rw[show acc.map (λ(n:Nat)=>T.int (n:Int))++[T.int (ix bk m:Int)]=(acc++[ix bk m]).map λ(n:Nat)=>T.int (n:Int) from by rw[Yy];rfl]at a1;have st:dG (fR (ab 1)) iL (F+2) [pc (JW (tabOf bk)),Q0 (ix bk m:Int),oc (MF acc)]=dG (fR (ab 1)) iL (F+1) [pc (JW (tabOf bk)),pc (Ka (((aD bk).lk.getD m J).map (ix bk))),oc (MF (acc++[ix bk m]))]:=kh L ((av a1).trans (by
   refine aC (m:=.fr) (e2v (oM hM K7 (n:=.fr) L L) (y:=(.fr,.int 2)) L ?_) (by decide) (by show 1<3;decide);show Y (up .fr (Ka (row (aD bk) (aA bk) m).2.2.1))=_;unfold row;split<;>(rename_i e;rw[e];rfl)))
  rw[st];cases hl:(aD bk).lk.getD m J with
  |none =>
   rw[show Lv (aD bk) k m=[m] from by cases k with | zero=>rfl | succ k=>rw[Lv,hl]];exact eu L
  |some r =>
   obtain⟨r',e,⟨g1,_⟩,_,g2,_⟩:=H.i.lk (Ys λz=>by rw[z,H.i.OR]at hl;cases hl) hm (by simp);rw[hl]at e;cases e;obtain⟨k,rfl⟩:∃j,k=j+1:=⟨k-1,by lia⟩
   have:=ih k (Ym _) r (acc++[ix bk m]) (F+1) g1 (by lia) (by exact WV hF) (by rw[Zx,ZR];lia);rw[show Lv (aD bk) (k+1) m=m :: Lv (aD bk) k r from by rw[Lv,hl]];exact this.trans (by rw[Zb];rfl)
theorem wD{m:Nat}(a:m<wd.length)(b:(W wd m).length<=1000):jK [JW (tabOf bk),.int (ix bk m:Int)]=Y (.fr,MF ((Lv (aD bk) 1000 m).map (ix bk))):=by
 have d:m<(aD bk).lg.length:=by rw[← H.i.len];exact a
 exact d8 L ((av (by
  show (((aT aL _ _).map _).map _)=_;rw[aP (xv (x:=(.pu,JW (tabOf bk))) L (xv (r:=ak) (x:=(.fr,.int (ix bk m:Int))) L L)) (show aL [JW (tabOf bk),.int (ix bk m:Int)]=Y (.fr,.non) from uH (by rw[Zw];exact zT hM d))];rfl)).trans ((av L).trans ((av (IG H hM 1000 m [] vE a b (by decide) (by decide))).trans L)))
end
def IB:Pt f w ↔ ∃p,Hd f p/\w <:+ p:=by
 constructor
 ·rintro (rfl | ⟨t,d,a,b,rfl⟩)
  ·exact⟨[],.inl L,Lx _⟩
  ·exact⟨a++w,.inr ⟨_,d,⟨b,rfl⟩⟩,⟨a,rfl⟩⟩
 ·rintro⟨p,rfl | ⟨t,d,g⟩,e⟩
  ·exact .inl (YW.mp e)
  ·exact .inr ⟨t,d,e.isInfix.trans g.isInfix⟩
def vY(H:K (Hd b) (aD b) s a):∀(k m:Nat),m<a.length->(W a m).length<=k->(∀j,j∈Lv (aD b) k m↔j<a.length/\W a j <:+ W a m)/\(Lv (aD b) k m).Nodup:=by
 have top:∀{j:Nat},j<a.length->W a j=[]->j=0:=λw e=>by
  have:=H.i.top w;rw[e,H.i.z]at this;exact(Zl this).symm
 have h:∀j,j∈([0])↔j<a.length/\W a j <:+ W a 0:=λj=>by
  rw[Zc,H.i.wz,YW];exact⟨λe=>by rw[e];exact⟨H.i.lt H.i.z,H.i.wz⟩,λe=>top e.1 e.2⟩
 intro k
 induction k with
 |zero =>
  intro m d o;have e:=top d (WY.mp (Nat.le_zero.mp o));subst e;exact⟨h,ZW.mpr ⟨(λz=>nomatch z),Y6⟩⟩
 |succ k u =>
  intro m d o;by_cases p:m=0
  ·subst p;have:Lv (aD b) (k+1) 0=[0]:=by unfold Lv;rw[H.i.OR]
   rw[this];exact⟨h,ZW.mpr ⟨(λz=>nomatch z),Y6⟩⟩
  ·obtain⟨r,e,⟨y,_⟩,q,B,x⟩:=H.i.lk (Ys p) d (by simp);have A:Lv (aD b) (k+1) m=m :: Lv (aD b) k r:=by
    conv=>lhs;unfold Lv
    rw[e]
   obtain⟨l,v⟩:=u r y (by lia);rw[A];refine⟨λj=>?_,ZW.mpr ⟨λz=>?_,v⟩⟩
   ·rw[Zg,l];constructor
    ·rintro (rfl | ⟨g,f⟩)
     ·exact⟨d,Lx _⟩
     ·exact⟨g,f.trans q⟩
    ·rintro⟨g,f⟩;by_cases n:(W a r).length<(W a j).length
     ·have:=x _ f n;rw[H.i.top g]at this;exact .inl (Zl this)
     ·exact .inr ⟨g,bV f q (by exact ZD n)⟩
   ·have:=((l m).mp z).2.length_le;lia
def Co(H:K (Hd b) (aD b) d e)(g:(W e m).length<=1000)(a:d p=Y m)(f:Hd b p)(hw:d w=Y j):j∈Lv (aD b) 1000 m↔w <:+ p:=by
 rw[(vY H 1000 m (H.i.lt a) g).1 j];constructor
 ·exact λh=>(H.i.sf hw).trans (h.2.trans (((H.eq (H.i.top (H.i.lt a)) a).mp L p f).mpr (Lx _)))
 ·exact λh=>⟨H.i.lt hw,(((H.eq hw (H.i.top (H.i.lt hw))).mp L p f).mp h).trans (H.i.sf a)⟩
abbrev gT(G:List (List Pl)):T:=.lst (G.map λl=>T.lst (l.map tP))
noncomputable def PB(G:List (List Pl))(i:Nat)(p:Pl):List (List Pl):=G.set i (G.getD i []++[p])
abbrev OK(B:T)(g:T)(G:List (List Pl))(f e d b a:Us):Env:=[pc B,pc g,oc (gT G),f,e,d,b,a]
def JL{G:List (List Pl)}{n e:Nat}(f:i<G.length)(g:(G.getD i []).length<16777216)(d b:Us):gq (OK B a G (Q0 (n:Int)) d (Q0 (e:Int)) b (Q0 (i:Int)))=Y (.nx (OK B a (PB G i (n,e)) (Q0 (n:Int)) d (Q0 (e:Int)) b (Q0 (i:Int)))):=by
 have h:sH 2 (ab 7) (ae (lY (ae (ab 3) (ae (ab 5) ak))) ak) (OK B a G (Q0 (n:Int)) d (Q0 (e:Int)) b (Q0 (i:Int)))=Y ((.fr,.non),OK B a (PB G i (n,e)) (Q0 (n:Int)) d (Q0 (e:Int)) b (Q0 (i:Int))):=by
  show ((Lf (G.map λl=>T.lst (l.map tP)).length (i:Int)).bind _)=_;rw[Zw,xC f,Zr,ZG,Zp f];show ((aN (.lst (G[i].map tP)) [(.fr,tP (n,e))]).map _)=_;have hg:G.getD i []=G[i]:=by rw[Zq,Zp f];rfl
  rw[hg]at g;rw[d7 (by rw[Zw];exact g)];show Y ((Md.fr,T.non),[pc B,pc a,oc (.lst ((G.map λl=>T.lst (l.map tP)).set i (.lst (G[i].map tP++[tP (n,e)])))),_,_,_,_,_])=_;unfold PB;rw[hg,show T.lst (G[i].map tP++[tP (n,e)])=(λl:List Pl=>T.lst (l.map tP)) (G[i]++[(n,e)]) from by simp,← WA]
 show (sH 2 (ab 7) (ae (lY (ae (ab 3) (ae (ab 5) ak))) ak) _).map _=_;rw[h];rfl
def tV{G:List (List Pl)}(p:Pl)(a:i<G.length)(k:Nat):(PB G i p).getD k []=G.getD k []++if k=i then [p] else []:=by
 unfold PB;rw[Zq];by_cases h:k=i
 ·subst h;rw[WU a,Zs L];rfl
 ·rw[Xs (Y0 h),Zo h,ZL,← Zq]
section
def pb1{n e:Nat}(h g:Us):∀(a:Uv)(G:List (List Pl))(d:Us),a.Nodup->(∀i∈a,i<G.length/\(G.getD i []).length<100000)->∃b l,forL (bx 7) gq (a.map λ(i:Nat)=>T.int (i:Int)) (OK B tb G (Q0 (n:Int)) h (Q0 (e:Int)) g d)=Y (.nx (OK B tb b (Q0 (n:Int)) h (Q0 (e:Int)) g l))/\b.length=G.length/\∀k,b.getD k []=G.getD k []++if k∈a then [(n,e)] else []:=by
 intro a
 induction a with
 |nil=>exact λG d _ _=>⟨G,d,rfl,rfl,λk=>by simp⟩
 |cons i a u =>
  intro G d nd p;obtain⟨r,s⟩:=ZW.mp nd;obtain⟨q,w⟩:=p i Zv;obtain⟨b,l,e1,v,e3⟩:=u (PB G i (n,e)) (Q0 (i:Int)) s (λj o=>⟨by unfold PB;rw[Ya];exact(p j (Zu _ o)).1,by
   rw[tV _ q,Zo (λz=>r (by rw[← z];exact o)),ZL];exact(p j (Zu _ o)).2⟩)
  refine⟨b,l,(bR L (JL q (by lia) h g)).trans e1,v.trans (by unfold PB;rw[Ya]),λk=>?_⟩;rw[e3,tV _ q,Zb];congr 1;by_cases m:k=i
  ·subst m;rw[Zs L,Zo r,Zs Zv];rfl
  ·rw[Zo m,YV];by_cases f:k∈a
   ·rw[Zs f,Zs (Zu _ f)]
   ·rw[Zo f,Zo (λz=>(Zg.mp z).elim m f)]
def vK{l:Uv}{a b:Nat}(h:a∈l)(f:b∈l)(e:l.idxOf a=l.idxOf b):a=b:=by
 have g:∀{x},x∈l->l[l.idxOf x]?=Y x:=λ{x} d=>by rw[Zp (YB.mpr d),Wc]
 have:=g h;rw[e,g f]at this;exact(Zl this).symm
end
section
variable{bk:List Tx}{nd:Wd->Option Nat}{wd:List Wd}(H:K (Hd bk) (aD bk) nd wd)(hM:∀x,x∈aA bk↔x<(aD bk).lg.length)(hN:(aA bk).Nodup)(h0:(aA bk).idxOf 0=0)(hw:∀m,m<wd.length->(W wd m).length<=1000)
def wN(a:List Tx)(b:List Wd)(k:Nat):Tx:=sw (aD a) b ((aA a).getD k 0)
include H hM hN hw
theorem IS(f:nd p=Y m)(u:Hd bk p):((Lv (aD bk) 1000 m).map (ix bk)).Nodup/\(∀i∈(Lv (aD bk) 1000 m).map (ix bk),i<(aA bk).length)/\∀k,k<(aA bk).length->(k∈(Lv (aD bk) 1000 m).map (ix bk)↔wN bk wd k <:+ p):=by
 obtain⟨n,w⟩:=vY H 1000 m (H.i.lt f) (hw m (H.i.lt f));have d:∀{j},j<wd.length->j∈aA bk:=λh=>(hM _).mpr (by rw[← H.i.len];exact h);refine⟨List.Pairwise.map (ix bk) (R:=λa b=>a∈aA bk/\b∈aA bk/\a≠b) (λa b h e=>h.2.2 (vK h.1 h.2.1 e)) (w.imp_of_mem λ{a b} v hb q=>⟨d ((n a).mp v).1,d ((n b).mp hb).1,q⟩),λi s=>?_,λk g=>?_⟩
 ·obtain⟨j,l,rfl⟩:=ZC.mp s;exact YB.mpr (d ((n j).mp l).1)
 ·have o:ix bk ((aA bk).getD k 0)=k:=by
   rw[Zq,Zp g];exact Ee hN g
  have l:(aA bk).getD k 0<wd.length:=by
   rw[H.i.len];refine(hM _).mp ?_;rw[Zq,Zp g];exact Yp g
  rw[show wN bk wd k <:+ p↔(aA bk).getD k 0∈Lv (aD bk) 1000 m from(Co H (hw m (H.i.lt f)) f u (H.i.PR l)).symm];constructor
  ·intro h;obtain⟨j,r,e⟩:=ZC.mp h;have:=vK (d ((n j).mp r).1) (d l) (e.trans o.symm);rw[← this];exact r
  ·exact λh=>ZC.mpr ⟨_,h,o⟩
include h0
def P1(r:List Tx)(n:Nat)(w:Tx):List Pl:=(r.zipIdx n).flatMap λp=>(SV w p.1).map λe=>(p.2,e)
theorem pb2(t:Tx)(n:Nat)(E:t∈bk)(j:Us):∀(k e:Nat)(G:List (List Pl))(g f a:Us),e+k=t.length+1->G.length=(aA bk).length->(∀i,(G.getD i []).length+k<100000)->∃d p o l,forL (kA [bx 5,bx 6]) ji (fP e (((wl bk nd t).drop e).map λ(n:Nat)=>T.int (n:Int))) (OK (.lst (bk.map .str)) (JW (tabOf bk)) G (Q0 (n:Int)) j g f a)=Y (.nx (OK (.lst (bk.map .str)) (JW (tabOf bk)) d (Q0 (n:Int)) j p o l))/\d.length=G.length/\∀i,i<(aA bk).length->d.getD i []=G.getD i []++((List.range' e k).filter λe=>(wN bk wd i).isSuffixOf (t.take e)).map λe=>(n,e):=by
 have U:(wl bk nd t).length=t.length+1:=by unfold wl;rw[Zw,LM]
 intro k
 induction k with
 |zero =>
  intro e G g f a F u s;rw[YQ (by omega)];exact⟨G,g,f,a,rfl,rfl,λi _=>by simp⟩
 |succ k D =>
  intro e G g f a F u s;have w:Hd bk (t.take e):=.inr ⟨t,E,V7 _ _⟩;obtain⟨m,h⟩:=(H.some (t.take e)).mpr ⟨_,w,Lx _⟩;obtain⟨P,O,A⟩:=IS H hM hN hw h w;have hd:(wl bk nd t).drop e=ix bk m :: (wl bk nd t).drop (e+1):=by
   rw[YE (by omega)];congr 1;unfold wl;rw[Ux,List.getElem_range,qM h]
  obtain⟨S,l,e1,v,y⟩:=pb1 j (Q0 (ix bk m:Int)) ((Lv (aD bk) 1000 m).map (ix bk)) G a P λi b=>⟨by rw[u];exact O i b,by have:=s i;omega⟩
  obtain⟨d,p,o,B,Q,C,N⟩:=D (e+1) S (Q0 (e:Int)) (Q0 (ix bk m:Int)) l (by omega) (v.trans u) λi=>by
   have:=s i;rw[y,Zx];split
   ·show _+1+k<_;omega
   ·show _+0+k<_;omega
  refine⟨d,p,o,B,?_,C.trans v,λi b=>?_⟩
  ·rw[hd];exact(bR L ((dU (m:=.fr) (jB (aP (xv (x:=(.pu,JW (tabOf bk))) L (xv (r:=ak) (x:=(.fr,.int (ix bk m:Int))) L L)) (wD H hM (H.i.lt h) (hw m (H.i.lt h))))) L).trans e1)).trans Q
  ·rw[N i b,y,Zb,List.range'_succ,List.filter_cons];congr 1;by_cases q:wN bk wd i <:+ t.take e
   ·rw[Zs ((A i b).mpr q),Zs (Y7.mpr q)];rfl
   ·rw[Zo (λz=>q ((A i b).mp z)),Zo (λz=>q (Y7.mp z))];rfl
theorem pb3(hb:∀t∈bk,t.length<=120/\Az t):∀(r:List Tx)(n:Nat)(G:List (List Pl))(j h d b a:Us),(∀t∈r,t∈bk)->G.length=(aA bk).length->(∀i,(G.getD i []).length+121*r.length<90000)->∃f E D w u s,forL (kA [bx 3,bx 4]) jg ((r.zipIdx n).map λp=>T.tup [.int p.2,.str p.1]) (OK (.lst (bk.map .str)) (JW (tabOf bk)) G j h d b a)=Y (.nx (OK (.lst (bk.map .str)) (JW (tabOf bk)) f E D w u s))/\f.length=G.length/\∀i,i<(aA bk).length->f.getD i []=G.getD i []++P1 r n (wN bk wd i):=by
 intro r
 induction r with
 |nil=>exact λn G j h d b a _ _ _=>⟨G,j,h,d,b,a,rfl,rfl,λi _=>(ZL _).symm⟩
 |cons t r ih =>
  intro n G j h d b a A B o;have y:=A t Zv;obtain⟨S,tz⟩:=hb t y;simp only[Zf]at o;obtain⟨G1,w,u,s,e1,z,C⟩:=pb2 H hM hN h0 hw t n y (Q2 t) (t.length+1) 0 G d b a (by exact Nat.add_comm _ _) B λi=>by have:=o i;lia
  have X:=YC.mpr ((H.some t).mpr ⟨t,.inr ⟨t,y,List.prefix_refl _⟩,Lx _⟩);have Z:∀i,((((List.range' 0 (t.length+1)).filter λe=>(wN bk wd i).isSuffixOf (t.take e)).map λe=>((n,e):Pl))).length<=121:=λi=>by
   rw[Zw];exact ZS (Xj _ _) (by rw[W8];exact Ww S)
  obtain⟨f,Q,P,O,N,F,LB,l2,g2⟩:=ih (n+1) G1 (Q0 (n:Int)) (Q2 t) w u s (λv hv=>A v (Zu _ hv)) (z.trans B) (λi=>by
   by_cases q:i<(aA bk).length
   ·rw[C i q,Zx];have:=o i;have:=Z i;lia
   ·rw[Zq,Yk (by lia)];have:=o i;show 0+_<_;lia)
  refine⟨f,Q,P,O,N,F,?_,l2.trans z,λi q=>?_⟩
  ·rw[Ws,Zk];exact(bR L ((dU (m:=.fr) (l:=fP 0 ((wl bk nd t).map λ(n:Nat)=>T.int (n:Int))) (by
   have:=aP (g:=n8) (as:=ae (ab 1) (ae (ab 4) ak)) (U:=OK (.lst (bk.map .str)) (JW (tabOf bk)) G (Q0 (n:Int)) (Q2 t) d b a) (xv (x:=(.pu,JW (tabOf bk))) L (xv (r:=ak) (x:=(.fr,.str t)) L L)) (GM H hM h0 X tz (by lia));show (aT _ _ _).bind _=_;rw[this];rfl) L).trans e1)).trans LB
  ·rw[g2 i q,C i q,Zb];unfold P1;rw[Ws,V3];unfold SV;rw[List.range_eq_range']
theorem tH(e:∀t∈bk,t.length<=120/\Az t)(r:bk.length<=8)(q:(aA bk).length<=1000):∃G:List (List Pl),cj [.lst (bk.map .str),JW (tabOf bk)]=Y (.fr,gT G)/\G.length=(aA bk).length/\∀i,i<(aA bk).length->G.getD i []=J7 bk (wN bk wd i):=by
 have a:∀i,((List.replicate (aA bk).length ([]:List Pl)).getD i [])=[]:=λi=>by
  rw[Zq,Y5];split<;>rfl
 obtain⟨G,p,o,n,j,g,e1,b,f⟩:=pb3 H hM hN h0 hw e bk 0 (List.replicate (aA bk).length []) J J J J J (λ_ h=>h) Xv λi=>by
  rw[a i];show 0+_<_;lia
 refine⟨G,?_,b.trans Xv,λi d=>by rw[f i d,a i];rfl⟩;exact d8 L (sq (by
  have c:=da (k:=1) (tg:=bx 0) (it:=fW (ab 1)) (elt:=ic ak) (U:=[pc (.lst (bk.map .str)),pc (JW (tabOf bk)),J,J,J,J,J,J]) (m:=.pu) (λm=>fG (row (aD bk) (aA bk) m)) (λ_=>T.lst []) (aA bk) (by
    show Y (Md.pu,(tabOf bk).map fG)=_;unfold tabOf tab;rw[La];rfl) L (by lia) λm _=>⟨_,rfl,rfl⟩
  refine(B5 c L (by show 2<8;decide)).trans ?_;rw[show (aA bk).map (λ_=>T.lst [])=(List.replicate (aA bk).length ([]:List Pl)).map λl=>T.lst (l.map tP) from by rw[List.map_const',List.map_replicate];rfl];rfl) (sq ((dU (by rw[← enum_zip];rfl) L).trans e1) L))
end
abbrev E5(f:List Tx)(b:NF)(e d a:Us):Env:=[pc (JW (tabOf f)),oc (.dct 0 (bT b)),e,d,a]
def vA(b:List Tx)(a:List Wd)(q:Nat×(Nat×Nat)):Prop:=∃t p,q.1=ix b t/\q.2.1=ix b p/\t<a.length/\p<a.length/\W a t=W a p++[q.2.2]
section
variable{bk:List Tx}{nd:Wd->Option Nat}{wd:List Wd}(H:K (Hd bk) (aD bk) nd wd)(hM:∀x,x∈aA bk↔x<(aD bk).lg.length)(hN:(aA bk).Nodup)
include H hM
theorem BJ{c:Nat}(d:p<wd.length)(h:(c,j)∈steps (aD bk) (aA bk) p):∃t,t<wd.length/\j=ix bk t/\nd (W wd p++[c])=Y t:=by
 obtain⟨g,f,e⟩:=ZC.mp h;obtain⟨rfl,rfl⟩:=X6 e;obtain⟨t,b⟩:=lK f;have a:=H.i.wy (H.i.top d) g;rw[b]at a;exact⟨t,H.i.lt a.symm,by rw[b];rfl,a.symm⟩
theorem sb1{c i:Nat}(d:p<wd.length)(a:t<wd.length)(b:NF)(e:b.length<16777216):eQ (E5 bk b (Q0 (i:Int)) (pc (fG (row (aD bk) (aA bk) p))) (pc (PM (c,ix bk t))))=Y (.nx (E5 bk (if (W wd t).length=(W wd p).length+1 then pf b (ix bk t) (i,c) else b) (Q0 (i:Int)) (pc (fG (row (aD bk) (aA bk) p))) (pc (PM (c,ix bk t))))):=by
 have lg:∀{x},x<wd.length->aJ (.fr,fG (row (aD bk) (aA bk) x)) (.fr,.int 1)=Y (.fr,.int ((W wd x).length:Int)):=λh=>by rw[← Br H hM h];rfl
 have cd:e2 oEq (e2 aJ (e2 aJ (ab 0) (e2 aJ (ab 4) (Q3 1))) (Q3 1)) (e2 cu (e2 aJ (ab 3) (Q3 1)) (Q3 1)) (E5 bk b (Q0 (i:Int)) (pc (fG (row (aD bk) (aA bk) p))) (pc (PM (c,ix bk t))))=Y (.fr,.bl (decide ((W wd t).length=(W wd p).length+1))):=by
  refine e2v (e2v (oM hM ((λh=>by rw[← H.i.len];exact h) a) L L) L (lg a)) (e2v (e2v (by
  show Y (up .pu (fG _))=_;unfold up;rw[qH];rfl) L (lg d)) L L) ?_
  exact i9 L L (mF _ _)
 by_cases q:(W wd t).length=(W wd p).length+1
 ·rw[Zs q];refine ift (cd.trans (by rw[Lu q])) ((CT (v:=vB (i,c)) L L L L L (by rw[bT,Zw];exact e)).trans ?_);rw[Dt];rfl
 ·rw[Zo q];exact vb (cd.trans (by rw[ZZ q])) L
theorem RR(o:p<wd.length)(N:i=ix bk p):∀(ws:List (Nat×Nat))(b:NF)(l:Us),(∀w∈ws,w∈steps (aD bk) (aA bk) p)->(∀q∈b,vA bk wd q)->b.length+ws.length<1000000->∃d m,forL (bx 4) eQ (ws.map PM) (E5 bk b (Q0 (i:Int)) (pc (fG (row (aD bk) (aA bk) p))) l)=Y (.nx (E5 bk d (Q0 (i:Int)) (pc (fG (row (aD bk) (aA bk) p))) m))/\(∀q∈d,vA bk wd q)/\(∀k∈b.map (·.1),k∈d.map (·.1))/\(∀c t,(c,ix bk t)∈ws->t<wd.length->nd (W wd p++[c])=Y t->W wd t=W wd p++[c]->ix bk t∈d.map (·.1))/\d.length<=b.length+ws.length:=by
 intro ws
 induction ws with
 |nil=>exact λb l _ g _=>⟨b,l,rfl,g,λk h=>h,λc t h=>(λh=>nomatch h) h,Zn _⟩
 |cons w ws E =>
  intro b l hw g G;rw[Zf]at G;obtain⟨c,j⟩:=w;obtain⟨t,u,rfl,v⟩:=BJ H hM o (hw _ Zv);have bo:=sb1 H hM (c:=c) (i:=i) o u b (by omega);obtain⟨a,y⟩:∃a,a=if (W wd t).length=(W wd p).length+1 then pf b (ix bk t) (i,c) else b:=⟨_,rfl⟩
  rw[← y]at bo;have e1:(∀q∈a,vA bk wd q)/\(∀k∈b.map (·.1),k∈a.map (·.1))/\(W wd t=W wd p++[c]->ix bk t∈a.map (·.1))/\a.length<=b.length+1:=by
   rw[y];split
   ·rename_i n;refine⟨λq X=>?_,λk f=>p6 b _ _ k (.inl f),λ_=>p6 b _ _ _ (.inr L),Bh _ _ _⟩;rcases zt b _ _ q X with z | rfl
    ·exact g q z
    ·exact⟨t,p,rfl,N,u,o,((H.i.sf v).eq_of_length (by rw[n,Zx];rfl)).symm⟩
   ·rename_i n;exact⟨g,λk f=>f,λz=>absurd (by rw[z,Zx];rfl) n,WZ _⟩
  obtain⟨Q,P,O,g4⟩:=e1;obtain⟨d,m,e,D,s,C,k4⟩:=E a (pc (PM (c,ix bk t))) (λw h=>hw w (Zu _ h)) Q (by omega);refine⟨d,m,(bR L bo).trans e,D,λk f=>s k (P k f),λS B F U r x=>?_,by rw[Zf];omega⟩;rcases Zg.mp F with z | z
  ·obtain⟨A,Z⟩:=X6 z;subst A;rw[v]at r;cases r;exact s _ (O x)
  ·exact C S B z U r x
include hN
theorem GN(a:i<(aA bk).length):ix bk (aA bk)[i]=i:=Ee hN a
theorem sb3:∀(r:Uv)(i:Nat)(b:NF)(o n d:Us),(aA bk).drop i=r->(∀q∈b,vA bk wd q)->b.length+30*r.length<1000000->(∀x,x∈aA bk->x<wd.length)->∃f A v u,forL (kA [bx 2,bx 3]) g7 (fP i ((r.map (row (aD bk) (aA bk))).map fG)) (E5 bk b o n d)=Y (.nx (E5 bk f A v u))/\(∀q∈f,vA bk wd q)/\(∀k∈b.map (·.1),k∈f.map (·.1))/\∀p∈r,∀c t,t<wd.length->nd (W wd p++[c])=Y t->W wd t=W wd p++[c]->97<=c/\c<=122->ix bk t∈f.map (·.1):=by
 intro r
 induction r with
 |nil=>exact λi b o n d _ g _ _=>⟨b,o,n,d,rfl,g,λk h=>h,λp h=>nomatch h⟩
 |cons p r X =>
  intro i b o n d hd g hl F;rw[Zf]at hl;have a:=Wu λy=>by rw[YQ y]at hd;cases hd
  rw[YE a]at hd;obtain⟨j,hd2⟩:=List.cons.inj hd;have N:=F p (by rw[← j];exact Yp a);have hi:i=ix bk p:=by rw[← j];exact(GN H hM hN a).symm
  have Z:(steps (aD bk) (aA bk) p).length<=26:=by
   unfold steps sk;rw[Zw];exact ZS (Xj _ _) (by decide)
  obtain⟨b1,u,e,g1,g2,g3,g4⟩:=RR H hM N hi (steps (aD bk) (aA bk) p) b d (λw h=>h) g (by omega);obtain⟨f,A,v,s,e',U,E,S⟩:=X (i+1) b1 (Q0 (i:Int)) (pc (fG (row (aD bk) (aA bk) p))) u hd2 g1 (by omega) F;refine⟨f,A,v,s,(bR L ((dU (m:=.fr) ?_ L).trans e)).trans e',U,λk hk=>E k (g2 k hk),λD RZ c t G C P O=>?_⟩
  ·have er:e2 aJ (ab 3) (Q3 3) (E5 bk b (Q0 (i:Int)) (pc (fG (row (aD bk) (aA bk) p))) d)=Y (.fr,M3 (steps (aD bk) (aA bk) p)):=by
    refine e2v (x:=(.fr,fG (row (aD bk) (aA bk) p))) ?_ L ?_
    ·show Y (up .pu (fG _))=_;unfold up;rw[qH];rfl
    ·rw[← pC];show Y (up .fr (M3 _))=_;unfold up;rw[oS];rfl
   show (e2 aJ (ab 3) (Q3 3) _).bind _=_;rw[er];rfl
  ·rcases Zg.mp RZ with rfl | z
   ·refine E _ (g3 c t ?_ G C P);have l:=rW (aD bk) (aA bk) D c O;rw[H.i.wy (H.i.top N) c,C]at l;obtain⟨q,Q,B⟩:=Zt.mp l;have:=Vd Q;obtain⟨q1,q2⟩:=q;cases (by simpa using this);cases (B);exact(List.mem_of_find?_eq_some Q)
   ·exact S D z c t G C P O
theorem yT(y:wd.length<=241)(w:(aA bk).length=wd.length)(r:∀t,t<wd.length->Az (W wd t)):∃b:NF,eR [JW (tabOf bk)]=Y (.fr,.dct 0 (bT b))/\(∀q∈b,vA bk wd q)/\∀t,0<t->t<wd.length->ix bk t∈b.map (·.1):=by
 obtain⟨b,v,u,s,e,o,_,n⟩:=sb3 H hM hN (aA bk) 0 [] J J J L (λq h=>nomatch h) (by show 0+_<_;omega) (λx h=>by rw[H.i.len];exact(hM x).mp h);refine⟨b,d8 L (sq L (sq ((dU L L).trans e) L)),o,λt m d=>?_⟩;have j:W wd t≠[]:=λz=>by
  have:=H.i.top d;rw[z,H.i.z]at this;cases this;exact absurd m (Yf _)
 obtain⟨x,c,a⟩:∃x c,W wd t=x++[c]:=⟨(W wd t).dropLast,(W wd t).getLast j,(List.dropLast_concat_getLast j).symm⟩
 obtain⟨p,l,f⟩:=H.i.head d a;have g:W wd t=W wd p++[c]:=by rw[f];exact a
 exact n p ((hM p).mpr (by rw[← H.i.len];exact l)) c t d (by rw[← g];exact H.i.top d) g (r t d c (by rw[a];exact ZI _ Zv))
end
def vg{n:Md}{i j:Int}(e:a U=Y (m,.int i))(d:b U=Y (n,.int j))(h:(-4611686018427387904<=i/\i<4611686018427387904)/\-4611686018427387904<=j/\j<4611686018427387904):mU a b U=Y (.fr,rng i (j-i).toNat):=by
 simp only[mU,e,d,Zr,int?];exact Zs h
def BC{α:Type}(l:List α)(k:Nat)(h:k<=l.length):cut l (Y (k:Int)) J=l.drop k:=by
 have a:clip l.length (k:Int)=k:=by
  unfold clip;rw[Zo (by omega),Xp,Yi h]
 show (l.drop (clip l.length (k:Int))).take (l.length-clip l.length (k:Int))=_;rw[a];exact Yu (by rw[Yl];exact Zn _)
def v8{i:Int}{k:Nat}(f:a U=Y (m,.str t))(e:b U=Y (n,.int i))(d:i=(k:Int))(h:k<=t.length):OF a (Y b) J U=Y (.fr,.str (t.drop k)):=by
 unfold OF tY;dsimp only;rw[f,e,d];show Y (Md.fr,T.str (cut t (Y (k:Int)) J))=_;rw[BC t k h]
def sh(a:List Tx)(t:Nat):Nat:=(row (aD a) (aA a) t).1
def ws(b:List Tx)(a:List Wd)(t:Nat):List Tx:=(List.range ((W a t).length+1-sh b t)).map λi=>(W a t).drop ((W a t).length-(sh b t+i))
section
variable{bk:List Tx}{nd:Wd->Option Nat}{wd:List Wd}(H:K (Hd bk) (aD bk) nd wd)(hM:∀x,x∈aA bk↔x<(aD bk).lg.length)(hN:(aA bk).Nodup)(h0:(aA bk).idxOf 0=0)(hl:wd.length<=241)(hm:(aA bk).length=wd.length)(Li:∀t,t<wd.length->Az (W wd t)/\(W wd t).length<=120)
include H hM
theorem uT(d:s<wd.length)(b:t<wd.length)(h:ix bk s=ix bk t):s=t:=by
 have g:∀{x},x<wd.length->(aA bk)[ix bk x]?=Y x:=λ{x} a=>by
  rw[Zp (YB.mpr ((hM x).mpr (by rw[← H.i.len];exact a))),Wc]
 have:=g d;rw[h,g b]at this;exact(Zl this).symm
theorem zd(a:t<wd.length):sh bk t<=(W wd t).length/\∀y,nd y=Y t↔y <:+ W wd t/\sh bk t<=y.length:=by
 unfold sh row;by_cases h:t=0
 ·subst h;rw[H.i.OR,H.i.wz];refine⟨ZE _,λy=>⟨λz=>⟨by rw[H.i.zero z];exact Lx _,ZE _⟩,λz=>by rw[YW.mp z.1];exact H.i.z⟩⟩
 ·obtain⟨m,e,⟨f,_⟩,g,d,b⟩:=H.i.lk (Ys h) a (by simp);rw[e];show (aD bk).lg.getD m 0+1<=_/\∀y,_↔_/\(aD bk).lg.getD m 0+1<=_;rw[H.i.lg m f];exact⟨d,λy=>⟨λz=>⟨H.i.sf z,(H.i.low (by simp) e z).1⟩,λz=>b y z.1 z.2⟩⟩
include h0
theorem DB(C:∀q∈b,vA bk wd q)(B:∀t,0<t->t<wd.length->ix bk t∈b.map (·.1)):∀(k t:Nat)(u:Tx)(F:Nat)(a:Us),(W wd t).length<=k->t<wd.length->k<F->u.length+k<=1000->∃l,dG (e2 NX (ab 1) (Q3 0)) kH F [pc (JW (tabOf bk)),Q0 (ix bk t:Int),pc (.dct 0 (bT b)),Q2 u,a]=Y (.nx [pc (JW (tabOf bk)),Q0 0,pc (.dct 0 (bT b)),Q2 (W wd t++u),l]):=by
 have cd:∀(t:Nat)(u:Tx)(a:Us),e2 NX (ab 1) (Q3 0) [pc (JW (tabOf bk)),Q0 (ix bk t:Int),pc (.dct 0 (bT b)),Q2 u,a]=Y (.fr,.bl (!decide (ix bk t=0))):=λt u a=>e2v L L (wc L L (mF _ _));intro k
 induction k with
 |zero =>
  intro t u F a h f s _;obtain⟨F,rfl⟩:∃j,F=j+1:=⟨F-1,by omega⟩
  have o:=WY.mp (Nat.le_zero.mp h);have d:t=0:=by
   have:=H.i.top f;rw[o,H.i.z]at this;exact(Zl this).symm
  subst d;have c:=cd 0 u a;rw[show ix bk 0=0 from h0]at c ⊢;exact⟨a,by rw[o];exact eu c⟩
 |succ k r =>
  intro t u F a h f s G;obtain⟨F,rfl⟩:∃j,F=j+1:=⟨F-1,by omega⟩
  by_cases d:t=0
  ·subst d;have c:=cd 0 u a;rw[show ix bk 0=0 from h0]at c ⊢;exact⟨a,by rw[H.i.wz];exact eu c⟩
  ·obtain⟨⟨i,c⟩,e1,D⟩:=JC b (ix bk t) (B t (Ys d) f);obtain⟨E,p,A,x,w,v,g⟩:=C _ D;cases uT H hM f w A;cases (x);have g:=g;have n:=congrArg List.length g;rw[Zx,ZR]at n;obtain⟨l,e⟩:=r p ([c]++u) F (pc (vB (ix bk p,c))) (by omega) v (by omega) (by rw[Zx,ZR];omega);refine⟨l,(kh ((cd t u a).trans (by rw[ZZ λz=>d (uT H hM f (H.i.lt H.i.z) (z.trans h0.symm))];rfl)) (sq (aC (m:=.fr) (e2v (y:=(.fr,.int (ix bk t:Int))) L L ?_) (by decide) (by show 4<5;decide)) (sq (aC (Fd L L (by show 1+_<=_;omega)) (by decide) (by show 3<5;decide)) (aC (m:=.fr) L (by decide) (by show 1<5;decide))))).trans (e.trans (by rw[g,Zb]))⟩;show (if M=M then (dR (bT b) _).map (sub .pu) else J)=_;rw[Zs L,e1];rfl
include hN hl hm Li
theorem lU(a:t<wd.length):d9 [JW (tabOf bk),.int (ix bk t:Int)]=Y (.fr,.str (W wd t)):=by
 have j:t<(aD bk).lg.length:=by rw[← H.i.len];exact a
 obtain⟨b,e,g,f⟩:=yT H hM hN hl hm λt h=>(Li t h).1;obtain⟨l,d⟩:=DB H hM h0 g f 120 t [] vE J (Li t a).2 a (by decide) (by decide);rw[ZL]at d;exact d8 L (sq (by
  show (((aT aL _ _).map _).map _)=_;rw[aP (xv (x:=(.pu,JW (tabOf bk))) L (xv (r:=ak) (x:=(.fr,.int (ix bk t:Int))) L L)) (show aL [JW (tabOf bk),.int (ix bk t:Int)]=Y (.fr,.non) from uH (by rw[Zw];exact zT hM j))];rfl) (sq (aC (aP (xv (x:=(.pu,JW (tabOf bk))) L L) e) (by decide) (by show 2<5;decide)) (sq L (sq d L))))
theorem Cq(a:t<wd.length):mS [JW (tabOf bk),.int (ix bk t:Int)]=Y (.fr,.lst ((ws bk wd t).map .str)):=by
 have b:t<(aD bk).lg.length:=by rw[← H.i.len];exact a
 obtain⟨s1,_⟩:=zd H hM a;have f:=(Li t a).2;have d:e2 aJ (e2 aJ (ab 0) (ab 1)) (Q3 0) [pc (JW (tabOf bk)),Q0 (ix bk t:Int),Q2 (W wd t)]=Y (.fr,.int (sh bk t:Int)):=e2v (oM hM b L L) L L;refine d8 L (sq (aC (aP (xv L (xv L L)) (lU H hM hN h0 hl hm Li a)) (by decide) (by show 2<3;decide)) (dc ?_));unfold ws;rw[La];refine da (m:=.fr) (λ(i:Nat)=>T.int ((sh bk t:Int)+(i:Int))) _ (List.range ((W wd t).length+1-sh bk t)) ?_ L (by rw[LM];omega) λi e=>⟨_,rfl,?_⟩
 ·refine(vg d (e2v (e2v (oM hM b (n:=.fr) L L) (y:=(.fr,.int 1)) (z:=(.fr,.int ((W wd t).length:Int))) L (by rw[← Br H hM a];rfl)) (y:=(.fr,.int 1)) L L) (by omega)).trans ?_;rw[show (((W wd t).length:Int)+1-(sh bk t:Int)).toNat=(W wd t).length+1-sh bk t by omega];rfl
 ·have:=Yq.mp e;exact v8 L L (by omega) (by omega)
end
end T23
end
section
namespace T23
open VS AU TS
noncomputable def RU(a b:Pl):Prop:=a.1<b.1\/a.1=b.1/\a.2<b.2
theorem uO(w:Tx):∀(r:List Tx)(n:Nat),(P1 r n w).Pairwise RU/\(∀p∈P1 r n w,n<=p.1)/\(P1 r n w).length<=r.flatten.length+r.length
 |[],n=>⟨.nil,(λp h=>nomatch h),Zn _⟩
 |t :: r,n=>by
  obtain⟨i,f,m⟩:=uO w r (n+1);have e:P1 (t :: r) n w=(SV w t).map (λe=>(n,e))++P1 r (n+1) w:=by
   unfold P1;rw[Ws,V3]
  have l:(SV w t).length<=t.length+1:=ZS (Xj _ _) (Wt LM);rw[e];refine⟨MS.mpr ⟨Xq.mpr ((VT _ List.pairwise_lt_range).imp λ{a b} j=>.inr ⟨rfl,j⟩),i,λa g b hb=>?_⟩,λp d=>?_,?_⟩
  ·obtain⟨x,_,rfl⟩:=ZC.mp g;exact .inl (f b hb)
  ·rcases Zd.mp d with d | d
   ·obtain⟨x,_,rfl⟩:=ZC.mp d;exact Zn _
   ·exact VB (f p d)
  ·rw[Zx,Zw,LL,Zx,Zf];lia
def EN(h:RU a b):a≠b:=λz=>by
 subst z;rcases h with h | ⟨_,h⟩
 ·exact Yf _ h
 ·exact Yf _ h
def u5(a:List Tx)(w:Tx):(J7 a w).Pairwise RU:=(uO w a 0).1
def uS(a:List Tx)(w:Tx):(J7 a w).Nodup:=(u5 a w).imp EN
def wR(a:List Tx)(w:Tx):(J7 a w).length<=a.flatten.length+a.length:=(uO w a 0).2.2
noncomputable def kP(p:Pl):List L2.Key:=[.inl (p.1:Int),.inl (p.2:Int)]
def GE(h:kP a=kP b):a=b:=by
 obtain⟨e,d⟩:=List.cons.inj h;exact Prod.ext (by lia) (by lia)
theorem rg:∀l:List Pl,(l.map tP).mapM QX=Y (l.map kP)
 |[]=>rfl
 |q :: l=>by
  rw[Zk,List.mapM_cons,rg l];rfl
def HD{r:List Pl}(h:r.Perm l)(hw:r.Pairwise RU):kY [(m,.lst (l.map tP))]=Y (.fr,.lst (r.map tP)):=by
 have f:shp (l.map kP):=⟨M,[M],λk m=>by
  obtain⟨q,_,rfl⟩:=ZC.mp m;rfl⟩
 show ((l.map tP).mapM QX).bind _=_;rw[rg,Zr,Zs f,wK ⟨h.map _,Xq.mpr (hw.imp λ{a b} d=>?_)⟩ f,La]
 ·congr 3
 ·unfold kP eD;rcases d with d | ⟨e,d⟩
  ·rw[Zo (λz=>by have:=Sum.inl.inj z;lia)];exact ZZ (by lia)
  ·rw[Zs (by rw[e])];unfold eD;rw[Zo (λz=>by have:=Sum.inl.inj z;lia)];exact ZZ (by lia)
def DD{l:List Pl}(h:l.Nodup)(d:l.length<300):ng [(m,.lst (l.map tP))]=Y (.fr,.int (l.length:Int)):=by
 show ((l.map tP).mapM QX).bind _=_;rw[rg,Zr,Zs ⟨(Xq.mpr (h.imp λ{a b} e z=>e (GE z))),by rw[Zw];exact d⟩,Zw]
def Tt:List Pl->T
 |[]=>.non
 |p :: _=>tP p
theorem Em:∀l:List Pl,pF (l.map tP)=Y (l.map λp=>((p.1:Int),(p.2:Int)))
 |[]=>rfl
 |p :: l=>by
  show (pF (l.map tP)).map _=_;rw[Em l];rfl
def MQ{m:Md}(l:List Pl)(h:l.Pairwise RU):vS [(m,.lst (l.map tP))]=Y (.fr,Tt l):=by
 show (pF (l.map tP)).bind _=_;rw[Em];cases l with
 |nil=>rfl
 |cons p l =>
  show (if ((l.map λp=>((p.1:Int),(p.2:Int))).all λq=>!zx q ((p.1:Int),(p.2:Int)))=M then _ else _)=_;rw[Zs]
  ·rfl
  rw[W0];refine Lw.mpr λq a=>?_;have:=(Xk.mp h).1 q a;show (!(if (q.1:Int)=(p.1:Int) then decide ((q.2:Int)<(p.2:Int)) else decide ((q.1:Int)<(p.1:Int))))=M;rcases this with g | ⟨e,g⟩
  ·rw[Zo (by lia),ZZ (by lia)];rfl
  ·rw[Zs (by lia),ZZ (by lia)];rfl
section
variable{bk:List Tx}{nd:Wd->Option Nat}{wd:List Wd}(H:K (Hd bk) (aD bk) nd wd)(hM:∀x,x∈aA bk↔x<(aD bk).lg.length)(hN:(aA bk).Nodup)
include H
theorem CO(hw:nd w=Y j)(a:nd v=Y j):J7 bk w=J7 bk v:=by
 unfold J7;rw[List.flatMap_def,List.flatMap_def];congr 1;refine Y8 λq b=>?_;congr 1;refine List.filter_congr λe _=>?_;have:=(H.eq hw a).mp L (q.1.take e) (.inr ⟨q.1,List.fst_mem_of_mem_zipIdx b,V7 _ _⟩);rw[XG,Y7,Y7];exact this
theorem ER(b:Hd bk x):∃k,k<wd.length/\W wd k=x:=by
 obtain⟨k,a⟩:=(H.some x).mpr ⟨x,b,Lx _⟩;refine⟨k,H.i.lt a,?_⟩;exact(((H.eq (H.i.top (H.i.lt a)) a).mp L x b).mpr (Lx _)).eq_of_length_le (H.i.sf a).length_le
theorem mG(b:j<wd.length)(e:(aD bk).lk.getD j J=Y m):m<wd.length/\W wd m <:+ W wd j/\(W wd m).length<(W wd j).length/\∀y,y <:+ W wd j->(W wd m).length<y.length->nd y=Y j:=by
 obtain⟨f,a,⟨d,_⟩,g⟩:=H.i.lk (Ys λz=>by
  rw[z,H.i.OR]at e;cases e) b (by simp)
 rw[e]at a;cases a;exact⟨d,g⟩
theorem FF(h:m<wd.length):∀(n k:Nat),(W wd k).length<=n->k<wd.length->W wd m <:+ W wd k->m≠k->∃j,j<wd.length/\(aD bk).lk.getD j J=Y m/\W wd j <:+ W wd k:=by
 intro n
 induction n with
 |zero =>
  intro k o f d g;have e1:=WY.mp (Nat.le_zero.mp o);rw[e1]at d;have a:=H.i.top h;have b:=H.i.top f;rw[YW.mp d]at a;rw[e1,a]at b;exact absurd (Zl b) g
 |succ n v =>
  intro k o f d g;obtain⟨l,e,_⟩:=H.i.lk (Ys λz=>by
   subst z;rw[H.i.wz]at d;have a:=H.i.top h;rw[YW.mp d,H.i.z]at a;exact g (Zl a).symm) f (by simp)
  obtain⟨x,p,y,w⟩:=mG H f e;by_cases q:m=l
  ·exact⟨k,f,by rw[e,q],Lx _⟩
  ·obtain⟨j,u,s,r⟩:=v l (by lia) x (bV d p (ZD λz=>by
    have:=w _ d z;rw[H.i.top h]at this;exact g (Zl this))) q
   exact⟨j,u,s,r.trans p⟩
theorem BV(o:m<wd.length):p∈J7 bk (W wd m)↔(p.2=(W wd m).length/\∃t,bk[p.1]?=Y t/\t.take (W wd m).length=W wd m)\/∃j,j<wd.length/\(aD bk).lk.getD j J=Y m/\p∈J7 bk (W wd j):=by
 constructor
 ·intro h;obtain⟨t,a,d,b⟩:=dW.mp h;obtain⟨k,n,f⟩:=ER H (.inr ⟨t,YZ a,V7 _ _⟩);by_cases q:m=k
  ·have e:(W wd m).length=p.2:=by rw[q,f,LX,Yi d]
   exact .inl ⟨e.symm,t,a,by rw[e,q,f]⟩
  ·obtain⟨j,l,i,g⟩:=FF H o _ k (Zn _) n (by rw[f];exact b) q;exact .inr ⟨j,l,i,dW.mpr ⟨t,a,d,by rw[← f];exact g⟩⟩
 ·rintro (⟨a,t,d,b⟩ | ⟨j,l,i,g⟩)
  ·refine dW.mpr ⟨t,d,?_,by rw[a,b];exact Lx _⟩;have:=congrArg List.length b;rw[LX]at this;lia
  ·obtain⟨t,a,d,b⟩:=dW.mp g;exact dW.mpr ⟨t,a,d,(mG H l i).2.1.trans b⟩
theorem zJ(a:j<wd.length)(b:i<wd.length)(s:(aD bk).lk.getD j J=Y m)(v:(aD bk).lk.getD i J=Y m)(h:p∈J7 bk (W wd j))(l:p∈J7 bk (W wd i)):j=i:=by
 obtain⟨t,r,_,d⟩:=dW.mp h;obtain⟨u,f,_,e⟩:=dW.mp l;rw[r]at f;cases f;obtain⟨_,_,o,g⟩:=mG H a s;obtain⟨_,_,n,x2⟩:=mG H b v;rcases Nat.le_total (W wd j).length (W wd i).length with q | q
 ·have:=x2 _ (bV d e q) o;rw[H.i.top a]at this;exact Zl this
 ·have:=g _ (bV e d q) n;rw[H.i.top b]at this;exact(Zl this).symm
theorem Ae(b:j<wd.length)(e:(aD bk).lk.getD j J=Y m)(a:p∈J7 bk (W wd j)):p.2≠(W wd m).length:=λz=>by
 obtain⟨t,_,f,d⟩:=dW.mp a;have:=d.length_le;have:=(mG H b e).2.2.1;rw[LX]at *;lia
end
end T23
end
section
namespace T23
open VS AU
def IR{k:Nat}(e:a U=Y (m,.str t))(d:b U=Y (n,.int (k:Int))):OF a J (Y b) U=Y (.fr,.str (t.take k)):=by
 unfold OF tY;dsimp only;rw[e,d];show Y (Md.fr,T.str (cut t J (Y (k:Int))))=_;rw[GH]
def Jf(e:a U=Y (.fr,x))(d:b U=Y (.fr,y)):lY (ae a (ae b ak)) U=Y (.fr,.tup [x,y]):=by
 show (ae a (ae b ak) U).bind p9=_;rw[xv e (xv d L),Zr,yL (by show 2<=16777216;decide)];show Y (up .fr _)=_;unfold up;rw[ite_self];rfl
def eqs(a b:Tx):eqT (.str a) (.str b)=(a==b):=by simp only[eqT]
abbrev pT(l:List Pl):T:=.lst (l.map tP)
def vo(l:List Pl):KC 60 (pT l)=M:=by
 show ((l.map tP).all (KC 59))=M;rw[W0];exact Lw.mpr λ_ _=>rfl
def qf{U:Env}{a:Ex}{m:Md}{l:List Pl}(h:a U=Y (m,pT l)):eN bU (ae a ak) U=Y (.fr,.int (l.length:Int)):=gM (xv h L) (by
 show Y (Md.fr,T.int (((l.map tP).length:Nat):Int))=_;rw[Zw])
def FD(S:AU.St)(M:Uv)(n:Nat):(row S M n).2.2.1=(S.lk.getD n J).map M.idxOf:=by
 unfold row;cases S.lk.getD n J<;>rfl
section
variable{bk:List Tx}{nd:Wd->Option Nat}{wd:List Wd}(H:K (Hd bk) (aD bk) nd wd)(hM:∀x,x∈aA bk↔x<(aD bk).lg.length)(hN:(aA bk).Nodup)(h0:(aA bk).idxOf 0=0)(hl:wd.length<=241)(hm:(aA bk).length=wd.length)(Li:∀t,t<wd.length->Az (W wd t)/\(W wd t).length<=120)
def kn(a:List Tx)(m:Nat):Uv:=(aA a).filter λx=>decide ((aD a).lk.getD x J=Y m)
include H hM hN
theorem zy{m x:Nat}:x∈kn bk m↔x<wd.length/\(aD bk).lk.getD x J=Y m:=by
 unfold kn;rw[Xz,hM,decide_eq_true_iff,H.i.len]
include hm hl
theorem GU(d:m<wd.length):qB [JW (tabOf bk),.int (ix bk m:Int)]=Y (.fr,MF ((kn bk m).map (ix bk))):=by
 have g:fP 0 ((tabOf bk).map fG)=(aA bk).map λx=>T.tup [.int (ix bk x:Int),fG (row (aD bk) (aA bk) x)]:=by
  unfold tabOf tab;rw[La,AX];refine List.ext_getElem (by rw[Zw,Zw,List.length_zipIdx]) λi a b=>?_;rw[Zw]at b;rw[Ux,Ux,List.getElem_zipIdx];rw[YL,show ix bk (aA bk)[i]=i from hN.idxOf_getElem i b];rfl
 refine d8 L (sq ?_ (dc ((iQ (m:=.pu) (λx=>T.tup [.int (ix bk x:Int),fG (row (aD bk) (aA bk) x)]) (λx=>decide ((aD bk).lk.getD x J=Y m)) (λx=>T.int (ix bk x:Int)) (aA bk) ?_ L (by lia) λx f=>⟨[Q0 (ix bk x:Int),pc (fG (row (aD bk) (aA bk) x)),pc (JW (tabOf bk)),Q0 (ix bk m:Int)],(.fr,.bl (decide ((aD bk).lk.getD x J=Y m))),rfl,e2v (x:=(.fr,Ka (((aD bk).lk.getD x J).map (aA bk).idxOf))) (e2v L L ?_) L ?_,rfl,λ_=>rfl⟩).trans ?_)))
 ·show (((aT aL _ _).map _).map _)=_;rw[aP (xv L (xv L L)) (uH (by rw[Zw];exact zT hM (by rw[← H.i.len];exact d)))];rfl
 ·rw[← g];rfl
 ·show Y (up (up .pu _).1 (Ka (row (aD bk) (aA bk) x).2.2.1))=_;rw[FD,up,jV];rfl
 ·cases e:(aD bk).lk.getD x J with
  |none=>exact i9 L L L
  |some l =>
   refine i9 L L ?_;show eqT (T.int (ix bk l:Int)) (T.int (ix bk m:Int))=_;rw[mF,XG,decide_eq_true_iff,decide_eq_true_iff];exact⟨λz=>by rw[uT H hM (mG H (by rw[H.i.len];exact(hM x).mp f) e).1 d z],λz=>by rw[Zl z]⟩
 ·unfold MF kn;rw[La];rfl
end
noncomputable def d0(a:List Tx)(w:Tx):List Pl:=((a.zipIdx 0).filter λp=>p.1.take w.length==w).map λp=>(p.2,w.length)
def yR:p∈d0 d w↔p.2=w.length/\∃t,d[p.1]?=Y t/\t.take w.length=w:=by
 unfold d0;rw[ZC];constructor
 ·rintro⟨q,e,rfl⟩;obtain⟨b,a⟩:=Xz.mp e;exact⟨rfl,q.1,by simpa using XH.mp b,eq_of_beq a⟩
 ·rintro⟨b,t,a,f⟩;exact⟨(t,p.1),Xz.mpr ⟨XH.mpr a,beq_iff_eq.mpr f⟩,Prod.ext L b.symm⟩
theorem En:∀(l:List Tx)(n:Nat),(l.zipIdx n).Pairwise (λa b=>a.2<b.2)/\∀p∈l.zipIdx n,n<=p.2
 |[],n=>⟨.nil,λp h=>nomatch h⟩
 |t :: l,n=>by
  obtain⟨f,e⟩:=En l (n+1);rw[Ws];refine⟨Xk.mpr ⟨λp d=>e p d,f⟩,λp d=>?_⟩;rcases Zg.mp d with rfl | d
  ·exact Zn _
  ·exact VB (e p d)
def Hg(a:List Tx)(w:Tx):(d0 a w).Nodup:=Xq.mpr ((VT _ (En a 0).1).imp λh z=>Ze h (X6 z).1)
abbrev EA(a:List Tx)(G:List (List Pl))(m:Nat)(e d b:Us):Env:=[pc (.lst (a.map .str)),pc (JW (tabOf a)),pc (gT G),Q0 (ix a m:Int),e,d,b]
section
variable{bk:List Tx}{nd:Wd->Option Nat}{wd:List Wd}(H:K (Hd bk) (aD bk) nd wd)(hM:∀x,x∈aA bk↔x<(aD bk).lg.length)(hN:(aA bk).Nodup)(h0:(aA bk).idxOf 0=0)(hl:wd.length<=241)(hm:(aA bk).length=wd.length)(Li:∀t,t<wd.length->Az (W wd t)/\(W wd t).length<=120)(hf:bk.flatten.length<=30)(h8:bk.length<=8){G:List (List Pl)}(hG:∀m,m<wd.length->ix bk m<G.length/\G.getD (ix bk m) []=J7 bk (W wd m))
include H hM hN
theorem zo(r:m<wd.length):(d0 bk (W wd m)++(kn bk m).flatMap λj=>J7 bk (W wd j)).Nodup/\(J7 bk (W wd m)).Perm (d0 bk (W wd m)++(kn bk m).flatMap λj=>J7 bk (W wd j)):=by
 have d:=λx=>zy H hM hN (m:=m) (x:=x);have l:(d0 bk (W wd m)++(kn bk m).flatMap λj=>J7 bk (W wd j)).Nodup:=by
  refine ZA.mpr ⟨Hg _ _,List.pairwise_flatMap.mpr ⟨λj _=>uS _ _,?_⟩,λa i b hb z=>?_⟩
  ·refine List.Pairwise.imp_of_mem (λ{a b} i hb B x o y n z=>B ?_) (VH VN hN);obtain⟨A,w⟩:=(d a).mp i;obtain⟨v,u⟩:=(d b).mp hb;subst z;exact zJ H A v w u o n
  ·subst z;obtain⟨j,s,q⟩:=Uz.mp hb;obtain⟨e,g⟩:=(d j).mp s;exact Ae H e g q (yR.mp i).1
 refine⟨l,(List.perm_ext_iff_of_nodup (uS _ _) l).mpr λp=>?_⟩;rw[BV H r,Zd,yR,Uz];constructor
 ·rintro (h | ⟨j,e,g,f⟩)
  ·exact .inl h
  ·exact .inr ⟨j,(d j).mpr ⟨e,g⟩,f⟩
 ·rintro (h | ⟨j,e,f⟩)
  ·exact .inl h
  ·obtain⟨a,b⟩:=(d j).mp e;exact .inr ⟨j,a,b,f⟩
include hl hm Li hf h8 h0 hG
theorem EY(d:m<wd.length):ft [.lst (bk.map .str),JW (tabOf bk),gT G,.int (ix bk m:Int)]=Y (.fr,.bl M):=by
 obtain⟨f,pm⟩:=zo H hM hN d;obtain⟨w,v⟩:=hG m d;have A:=wR bk (W wd m);have dl:=pm.length_eq;have loop:∀(l:Uv)(acc:List Pl)(a:Us),(∀j∈l,j<wd.length)->(acc++l.flatMap λj=>J7 bk (W wd j)).length<=16777216->∃b,forL (bx 6) iE ((l.map (ix bk)).map λ(i:Nat)=>T.int (i:Int)) (EA bk G m (Q2 (W wd m)) (pc (pT acc)) a)=Y (.nx (EA bk G m (Q2 (W wd m)) (pc (pT (acc++l.flatMap λj=>J7 bk (W wd j)))) b)):=λl=>by
  induction l with
  |nil=>exact λacc a _ _=>⟨a,by rw[List.flatMap_nil,ZL];rfl⟩
  |cons j l o =>
   intro acc a h hb;rw[V3,← Zb]at hb ⊢;obtain⟨u,s⟩:=hG j (h j Zv);obtain⟨b,e⟩:=o (acc++J7 bk (W wd j)) (Q0 (ix bk j:Int)) (λi r=>h i (Zu _ r)) hb;refine⟨b,(bR (U1:=EA bk G m (Q2 (W wd m)) (pc (pT acc)) (Q0 (ix bk j:Int))) L (aC (m:=.fr) (e2v L (e2v (x:=(.pu,gT G)) (y:=(.fr,.int (ix bk j:Int))) (z:=(.pu,pT (J7 bk (W wd j)))) L L ?_) ?_) (by decide) (by show 5<7;decide))).trans e⟩
   ·rw[jA (λl=>T.lst (l.map tP)) G (ix bk j) [] u,s];rfl
   ·show L4 _ (acc.map tP++(J7 bk (W wd j)).map tP)=_;rw[← Yy,nQ (by rw[Zw];rw[Zx]at hb;exact ZS (Za _ _) hb),Zs (BL _)]
 obtain⟨b,g⟩:=loop (kn bk m) (d0 bk (W wd m)) J (λj q=>((zy H hM hN).mp q).1) (by rw[← dl];lia);generalize B:(d0 bk (W wd m)++(kn bk m).flatMap λj=>J7 bk (W wd j))=D at f pm dl g;refine zu L (iC (aC (aP (xv L (xv L L)) (lU H hM hN h0 hl hm Li d)) (by decide) (by show 4<7;decide)) (iC (aC (m:=.fr) ?_ (by decide) (by show 5<7;decide)) (iC ((dU (jB (aP (xv L (xv L L)) (GU H hM hN hl hm d))) L).trans g) ⟨_,dc (Jn (n:=.fr) (e2v (gM (xv L L) (HD pm (u5 _ _))) (e2v (x:=(.pu,gT G)) (y:=(.fr,.int (ix bk m:Int))) (z:=(.pu,pT (J7 bk (W wd m)))) L L ?_) (i9 (vo _) (vo _) (fC 60 _ (vo _)))) (e2v (gM (xv L L) (DD f (by lia))) (qf L) (i9 L L (fC 60 _ L))))⟩)))
 ·unfold d0;rw[pT,La];refine iQ (m:=.pu) (λp:Tx×Nat=>T.tup [.int (p.2:Int),.str p.1]) (λp=>p.1.take (W wd m).length==W wd m) _ (bk.zipIdx 0) ?_ L (by rw[List.length_zipIdx];lia) λp _=>⟨_,(.fr,.bl (p.1.take (W wd m).length==W wd m)),rfl,e2v (IR L L) L (i9 L L (eqs _ _)),rfl,λ_=>Jf L L⟩
  rw[← enum_zip];rfl
 ·rw[jA (λl=>T.lst (l.map tP)) G (ix bk m) [] w,v];rfl
end
noncomputable abbrev wT(l:List Tx):T:=.lst (l.map .str)
def Jq(h:q∈l):iR (m,tP q) (n,pT l)=Y (.fr,.bl R):=by
 have:De (m,tP q) (n,pT l)=Y (.fr,.bl M):=by
  show (if (M&&(l.map tP).all xV)=M then Y (Md.fr,T.bl ((l.map tP).any λz=>eqT z (tP q))) else J)=_;rw[Zs (by rw[Bool.true_and,W0];exact Lw.mpr λ_ _=>rfl),XS (p:=λz=>eqT z (tP q)) |>.mpr ⟨tP q,ZC.mpr ⟨q,h,rfl⟩,fC 60 _ L⟩]
 unfold iR;rw[this];rfl
noncomputable def Nl(w:Tx)(s:Nat):Tx:=w.drop (w.length-s)
abbrev ET(a:List Tx)(G:List (List Pl))(m:Nat)(f:List Tx)(e d b:Us):Env:=[pc (JW (tabOf a)),pc (gT G),Q0 (ix a m:Int),pc (wT f),e,d,b]
section
variable{bk:List Tx}{nd:Wd->Option Nat}{wd:List Wd}(H:K (Hd bk) (aD bk) nd wd)(hM:∀x,x∈aA bk↔x<(aD bk).lg.length)(hN:(aA bk).Nodup)(h0:(aA bk).idxOf 0=0)(hl:wd.length<=241)(hm:(aA bk).length=wd.length)(Li:∀t,t<wd.length->Az (W wd t)/\(W wd t).length<=120)(hf:bk.flatten.length<=30)(h8:bk.length<=8){G:List (List Pl)}(hG:∀m,m<wd.length->ix bk m<G.length/\G.getD (ix bk m) []=J7 bk (W wd m))
include H
theorem Dm(hw:nd w=Y i)(l:nd v=Y j)(h:∀p,p∈J7 bk w↔p∈J7 bk v):i=j:=by
 have at_:∀(n:Nat)(t:Tx)(e:Nat),bk[n]?=Y t->e<=t.length->(w <:+ t.take e↔v <:+ t.take e):=λn t e d he=>by
  have q:=h (n,e);rw[dW,dW]at q;constructor
  ·intro z;obtain⟨m,a,_,b⟩:=q.mp ⟨t,d,he,z⟩;rw[a]at d;cases d;exact b
  ·intro z;obtain⟨m,a,_,b⟩:=q.mpr ⟨t,d,he,z⟩;rw[a]at d;cases d;exact b
 refine(H.eq hw l).mpr λp g=>?_;rcases g with rfl | ⟨t,f,g⟩
 ·cases e:bk with
  |nil =>
   have nil:∀{x:Tx}{s:Nat},nd x=Y s->x=[]:=λ{x s} o=>by
    rcases IB.mpr ((H.some x).mp ⟨s,o⟩) with z | ⟨t,f,_⟩
    ·exact z
    ·rw[e]at f;exact nomatch f
   rw[nil hw,nil l]
  |cons t r =>
   have:=at_ 0 t 0 (by rw[e];rfl) (ZE _)
   rw[VX]at this;exact this
 ·obtain⟨n,d⟩:=List.mem_iff_getElem?.mp f;have:=at_ n t p.length d g.length_le
  rw[← List.prefix_iff_eq_take.mp g]at this;exact this
theorem C8(b:t<wd.length)(e:(aD bk).lk.getD t J=Y r):(∀p∈J7 bk (W wd t),p∈J7 bk (W wd r))/\(J7 bk (W wd t)).length<(J7 bk (W wd r)).length:=by
 obtain⟨m,l,j,_⟩:=mG H b e;have sb:∀p∈J7 bk (W wd t),p∈J7 bk (W wd r):=λp a=>by
  obtain⟨u,h,g,f⟩:=dW.mp a;exact dW.mpr ⟨u,h,g,l.trans f⟩
 refine⟨sb,Wu λz=>?_⟩;have:=Dm H (H.i.top b) (H.i.top m) λp=>⟨sb p,λa=>Xf λq=>by
  have:=sub_len (p :: J7 bk (W wd t)) (J7 bk (W wd r)) (ZW.mpr ⟨q,uS _ _⟩) λx d=>(Zg.mp d).elim (λe=>e ▸ a) (sb x);rw[Zf]at this;lia⟩
 subst this;exact Yf _ j
include hM hN h0 hl hm Li hf h8 hG
theorem step(v:m<wd.length)(f:t<wd.length)(j:W wd t <:+ W wd m)(x:∀p∈A,p∈J7 bk (W wd t))(F:t=m\/A.length<(J7 bk (W wd t)).length)(g:A.length<=16777216) :
  gK (ET bk G m ((List.range' ((W wd t).length+1) ((W wd m).length-(W wd t).length)).map (Nl (W wd m))) (pc (pT A)) (Q0 (ix bk t:Int)) J)=Y (.nx (ET bk G m ((List.range' (sh bk t) ((W wd m).length+1-sh bk t)).map (Nl (W wd m))) (pc (pT (J7 bk (W wd t)))) (Q0 (ix bk t:Int)) J)):=by
 obtain⟨D,C⟩:=hG t f;obtain⟨s1,_⟩:=zd H hM f;have wl:=(Li m v).2;have le:=j.length_le;have d:∀{a b:Ex}{U:Env},a U=Y (.pu,gT G)->b U=Y (.fr,.int (ix bk t:Int))->e2 aJ a b U=Y (.pu,pT (J7 bk (W wd t))):=λB y=>e2v B y (by
  rw[jA (λl=>T.lst (l.map tP)) G (ix bk t) [] D,C];rfl)
 have E:ws bk wd t++(List.range' ((W wd t).length+1) ((W wd m).length-(W wd t).length)).map (Nl (W wd m))=(List.range' (sh bk t) ((W wd m).length+1-sh bk t)).map (Nl (W wd m)):=by
  have e1:ws bk wd t=(List.range' (sh bk t) ((W wd t).length+1-sh bk t)).map (Nl (W wd m)):=by
   rw[List.range'_eq_map_range,La];refine Y8 λi w=>?_;have:=Yq.mp w;show _=(W wd m).drop ((W wd m).length-(sh bk t+i));obtain⟨u,e⟩:=j;have o:(W wd m).length=u.length+(W wd t).length:=by rw[← e,Zx]
   rw[o,← e,show u.length+(W wd t).length-(sh bk t+i)=u.length+((W wd t).length-(sh bk t+i)) by lia,← List.drop_drop,List.drop_left]
  have e2:=List.range'_append_1 (s:=sh bk t) (m:=(W wd t).length+1-sh bk t) (n:=(W wd m).length-(W wd t).length);rw[show sh bk t+((W wd t).length+1-sh bk t)=(W wd t).length+1 by lia,show (W wd t).length+1-sh bk t+((W wd m).length-(W wd t).length)=(W wd m).length+1-sh bk t by lia]at e2;rw[e1,← Yy,e2]
 refine sq (aC (m:=.fr) (e2v (aP (xv L (xv L L)) (Cq H hM hN h0 hl hm Li f)) L ?_) (by decide) (by show 3<7;decide)) (sq (vb (e2v (qf (l:=[]) (m:=.fr) ?_) L L) L) (sq (vb (qF (e2v L L (wc L L (mF _ _))) (λh=>?_) λ_=>rfl) L) (aC (d L L) (by decide) (by show 4<7;decide))))
 ·show L4 _ ((ws bk wd t).map T.str++((List.range' ((W wd t).length+1) ((W wd m).length-(W wd t).length)).map (Nl (W wd m))).map T.str)=_;rw[← Yy,E,nQ (by rw[Zw,Zw,W8];lia),Zs (jb T.str (λ_=>rfl) _)]
 ·rw[iQ tP (λ_=>R) tP A L L g λq r=>⟨_,(.fr,.bl R),rfl,e2v L (d L L) (Jq (x q r)),rfl,λz=>nomatch z⟩,List.filter_eq_nil_iff.mpr λ_ _=>Zh]
 ·have:=F.resolve_left (λz=>by
   rw[z,Lu L]at h;cases h)
  refine e2v (qf (d L L)) (qf L) ?_;show Y (Md.fr,T.bl (decide (((J7 bk (W wd t)).length:Int)<=(A.length:Int))))=_;rw[ZZ (by lia)]
theorem Du(s:m<wd.length):∀(n t:Nat)(A:List Pl)(d:Us),t<wd.length->(W wd t).length<=n->W wd t <:+ W wd m->(∀p∈A,p∈J7 bk (W wd t))->(t=m\/A.length<(J7 bk (W wd t)).length)->A.length<=16777216 →
  ∃g f,forL (bx 5) gK (((Lv (aD bk) n t).map (ix bk)).map λ(i:Nat)=>T.int (i:Int)) (ET bk G m ((List.range' ((W wd t).length+1) ((W wd m).length-(W wd t).length)).map (Nl (W wd m))) (pc (pT A)) d J)=Y (.nx (ET bk G m ((List.range' 0 ((W wd m).length+1)).map (Nl (W wd m))) g f J)):=by
 have top:∀{j:Nat},j<wd.length->(aD bk).lk.getD j J=J->sh bk j=0:=λ{j} F e=>by
  unfold sh row;rw[e]
 intro n
 induction n with
 |zero =>
  intro t A d a y b o l h;have e:=step H hM hN h0 hl hm Li hf h8 hG s a b o l h;have v:sh bk t=0:=by
   have:=(zd H hM a).1;lia
  rw[v]at e;exact⟨_,_,(bR L e).trans L⟩
 |succ n x =>
  intro t A d a y b o l h;have e:=step H hM hN h0 hl hm Li hf h8 hG s a b o l h;cases q:(aD bk).lk.getD t J with
  |none =>
   rw[top a q]at e;refine⟨pc (pT (J7 bk (W wd t))),Q0 (ix bk t:Int),?_⟩;show forL _ _ (((t :: match (aD bk).lk.getD t J with | none=>[] | some r=>Lv (aD bk) n r).map (ix bk)).map _) _=_;rw[q];exact(bR L e).trans L
  |some r =>
   obtain⟨u,z,N,_⟩:=mG H a q;obtain⟨C,B⟩:=C8 H a q;have w:sh bk t=(W wd r).length+1:=by
    unfold sh row;rw[q];show (aD bk).lg.getD r 0+1=_;rw[H.i.lg r u]
   rw[w,show (W wd m).length+1-((W wd r).length+1)=(W wd m).length-(W wd r).length by lia]at e;have E:=wR bk (W wd t);obtain⟨g,f,D⟩:=x r (J7 bk (W wd t)) (Q0 (ix bk t:Int)) u (by lia) (z.trans b) C (.inr B) (by lia);refine⟨g,f,?_⟩;show forL _ _ (((t :: match (aD bk).lk.getD t J with | none=>[] | some r=>Lv (aD bk) n r).map (ix bk)).map _) _=_;rw[q];exact(bR L e).trans D
theorem DK(a:m<wd.length):gQ [JW (tabOf bk),gT G,.int (ix bk m:Int)]=Y (.fr,.bl M):=by
 have wl:=(Li m a).2;obtain⟨g,f,e⟩:=Du H hM hN h0 hl hm Li hf h8 hG a 1000 m [] J a (by lia) (Lx _) (λp h=>nomatch h) (.inl L) (ZE _);rw[Vl]at e;have b:∀l:List Tx,KC 60 (wT l)=M:=λl=>by
  show ((l.map T.str).all (KC 59))=M;rw[W0];exact Lw.mpr λ_ _=>rfl
 refine zu L (iC L (iC L (iC ((dU (jB (aP (xv L (xv L L)) (wD H hM a (by lia)))) L).trans e) (iC (aC (aP (xv L (xv L L)) (lU H hM hN h0 hl hm Li a)) (by decide) (by show 6<7;decide)) ⟨_,dc (e2v L (da (m:=.fr) (λ(i:Nat)=>T.int (i:Int)) (λs=>T.str (Nl (W wd m) s)) (List.range ((W wd m).length+1)) ?_ L (by rw[LM];lia) λs d=>⟨_,rfl,v8 L L (by have:=Yq.mp d;lia) (Yj _ _)⟩) ?_)⟩))))
 ·rw[iT L (by lia),lA,show (((W wd m).length:Int)+1).toNat=(W wd m).length+1 by lia]
 ·rw[show (List.range ((W wd m).length+1)).map (λs=>T.str (Nl (W wd m) s))=((List.range' 0 ((W wd m).length+1)).map (Nl (W wd m))).map T.str from by rw[La,List.range_eq_range'];rfl];exact i9 (b _) (b _) (fC 60 _ (b _))
end
def IJ{m:Md}(h:c U=Y (m,.bl M)):Sf c a b U=a U:=by simp only[Sf,h,Zr];rfl
def Hq(h:c U=Y (m,.bl R)):Sf c a b U=b U:=by simp only[Sf,h,Zr];rfl
abbrev hT(G:List (List Pl)):T:=.lst (G.map Tt)
def vC(G:List (List Pl)):KC 60 (hT G)=M:=by
 show ((G.map Tt).all (KC 59))=M;rw[W0];exact Lw.mpr λl _=>by cases l<;>rfl
def vD(l:Uv):KC 60 (MF l)=M:=by
 show ((l.map λ(n:Nat)=>T.int (n:Int)).all (KC 59))=M;rw[W0];exact Lw.mpr λ_ _=>rfl
abbrev EW(e:Uu)(a:List Tx)(d b:Us):Env:=[pc (.scr e),pc (.lst (a.map .str)),pc (JW (tabOf a)),d,b]
def IC{m:Md}{G:List (List Pl)}(h:a U=Y (m,G.map λl=>pT l))(b:UC m (G.map λl=>pT l)=M)(d:G.length<=16777216):cG 1 (bx 0) a J (eN bU (ae (ab 0) ak)) U=Y (.fr,MF (G.map List.length)) :=
 (da (λl=>pT l) (λl=>T.int (l.length:Int)) G h b d λl _=>⟨pc (pT l) :: U,rfl,qf L⟩).trans (by
  unfold MF;rw[La];rfl)
def AQ(g:Uu):Ay [.scr g]=Y (.fr,.bl M):=by
 obtain⟨bk,e1,B,E⟩:=EE g;have bs:eO bk<=30:=by
  unfold eO;rw[← List.length_flatten];exact B.n
 have h:OL bk:=⟨E,by lia,B.az⟩
 obtain⟨_,nd,d,H,s,hB,C,u,Z⟩:=h.k;have hN:(aA bk).Nodup:=by
  obtain⟨l,e,q,_⟩:=H.met (k:=1000) (by lia);rw[Zl (hB.symm.trans e)];exact q
 have hlen:∀t∈bk,t.length<=120:=λt o=>ZS (OL.QR o) h.sum;have Li:∀t,t<d.length->Az (W d t)/\(W d t).length<=120:=λt o=>by
  obtain⟨p,S,hs⟩:=(H.some (W d t)).mp ⟨t,H.i.top o⟩;rcases S with rfl | ⟨v,hv,S⟩
  ·rw[YW.mp hs];exact⟨(λc X=>nomatch X),by decide⟩
  ·have A:=hs.isInfix.trans S.isInfix;exact⟨λc X=>B.az v hv c (A.subset X),ZS A.length_le (hlen v hv)⟩
 obtain⟨G,e3,Q,gG⟩:=tH H C hN Z (λm h=>by have:=(Li m h).2;lia) (λt o=>⟨hlen t o,B.az t o⟩) E (by lia);have hG:∀m,m<d.length->ix bk m<G.length/\G.getD (ix bk m) []=J7 bk (W d m):=λm w=>by
  have N:=YB.mpr ((C m).mpr (by rw[← H.i.len];exact w));refine⟨by rw[Q];exact N,(gG _ N).trans ?_⟩;have:wN bk d (ix bk m)=sw (aD bk) d m:=by
   unfold wN;rw[Zq,Zp N];show sw (aD bk) d (aA bk)[ix bk m]=_;rw[Wc N]
  rw[this];exact CO H (H.i.PR w) (H.i.top w)
 have pG:∀l∈G,l.Pairwise RU:=λl s=>by
  obtain⟨i,A,rfl⟩:=List.mem_iff_getElem.mp s;have:=gG i (by rw[← Q];exact A);rw[Zq,Zp A]at this;rw[show G[i]=J7 bk (wN bk d i) from this];exact u5 _ _
 have F:G.length<=16777216:=by lia
 have tl:(tabOf bk).length=d.length:=by
  unfold tabOf AU.tab;rw[Zw,u]
 have lt:∀{a:Ex}{U:Env}{m:Md},a U=Y (m,JW (tabOf bk))->eN bU (ae a ak) U=Y (.fr,.int (d.length:Int)):=λh=>gM (xv h L) (by
  show Y (Md.fr,T.int ((((tabOf bk).map fG).length:Nat):Int))=_;rw[Zw,tl])
 have P:∀{U:Env}{m n:Md}{a b:Ex},a U=Y (m,.lst (bk.map .str))->b U=Y (n,JW (tabOf bk))->aT cj (ae a (ae b ak)) U=Y (.fr,gT G):=λh1 h2=>aP (xv h1 (xv h2 L)) e3;obtain⟨U',f,O,rfl,_⟩:=tM (tg:=bx 4) (body:=sP) (λ(k:Nat)=>T.int (k:Int)) (λr U=>∃O,U=EW g bk (pc (gT G)) O/\∀k∈r,k<d.length) (by
  rintro k r _ ⟨O,rfl,hr⟩;have D:k<(aA bk).length:=by rw[u];exact hr k Zv
  have cm:(aA bk).getD k 0<d.length:=by
   rw[H.i.len];refine(C _).mp ?_;rw[Zq,Zp D];exact Yp D
  have ci:ix bk ((aA bk).getD k 0)=k:=by
   rw[Zq,Zp D];exact hN.idxOf_getElem k D
  have a1:=EY H C hN Z s u Li B.n E hG cm;have a2:=DK H C hN Z s u Li B.n E hG cm;rw[ci]at a1 a2;exact⟨EW g bk (pc (gT G)) (Q0 (k:Int)),_,rfl,vb (or2 (n:=.fr) (lP (aP (xv (x:=(.pu,.lst (bk.map .str))) L (xv (x:=(.pu,JW (tabOf bk))) L (xv (x:=(.pu,gT G)) L (xv (r:=ak) (x:=(.fr,.int (k:Int))) L L)))) a1)) (lP (aP (xv (x:=(.pu,JW (tabOf bk))) L (xv (x:=(.pu,gT G)) L (xv (r:=ak) (x:=(.fr,.int (k:Int))) L L))) a2))) L,_,rfl,λj hj=>hr j (Zu _ hj)⟩) (List.range d.length) (EW g bk (pc (gT G)) J) ⟨J,rfl,λk w=>Yq.mp w⟩
 refine zu L (iC (aC (aP (xv L (xv L L)) e1) (by decide) (by show 1<5;decide)) (iC (aC (Dn h (m:=.fr) (gM (xv L L) ?_)) (by decide) (by show 2<5;decide)) (iC (aC (P L L) (by decide) (by show 3<5;decide)) (iC (vb (e2v (aP (xv L (xv L L)) (d8 L (dc (IC (m:=.fr) (jB (P (m:=.pu) (n:=.pu) L L)) L F)))) (IC L L F) (wc (vD _) (vD _) (fC 60 _ (vD _)))) L) (iC (vb (e2v (aP (xv L (xv L L)) (d8 L (dc (da (k:=1) (m:=.fr) (λl=>pT l) Tt G (jB (P (m:=.pu) (n:=.pu) L L)) L F λl _=>⟨[pc (pT l),pc (.lst (bk.map .str)),pc (JW (tabOf bk))],rfl,by
  have c:=e2v (f:=M6) (b:=Q3 0) (qf (U:=[pc (pT l),pc (.lst (bk.map .str)),pc (JW (tabOf bk))]) (a:=ab 0) (m:=.pu) (l:=l) L) (y:=(.fr,.int 0)) L (z:=(.fr,.bl (decide ((l.length:Int) > 0)))) L;cases l with
  |nil=>exact(Hq c).trans L
  |cons p l =>
   rw[Lu (by rw[Zf];lia)]at c;refine(IJ c).trans (e2v (x:=(.pu,pT (p :: l))) (y:=(.fr,.int ((0:Nat):Int))) L L ((jA tP (p :: l) 0 (0,0) (Xm _)).trans L))⟩)))) (da (λl=>pT l) Tt G L L F λl s=>⟨pc (pT l) :: EW g bk (pc (gT G)) J,rfl,gM (xv L L) (MQ l (pG l s))⟩) (wc (vC _) (vC _) (fC 60 _ (vC _)))) L) (iC ((dU (m:=.fr) ?_ L).trans f) ⟨_,dc (e2v (gM (xv L L) (by
  show Y (Md.fr,T.int (((G.map λl=>T.lst (l.map tP)).length:Nat):Int))=_;rw[Zw,Q,u])) (lt L) (i9 L L (fC 60 _ L)))⟩))))))
 ·show L4 .pu (bk.map T.str)=_;rw[nQ (by rw[Zw];lia),Zs (jb T.str (λ_=>rfl) bk)]
 ·rw[iT (lt L) (by lia),lA,Xp]
end T23
end
section
namespace T23
open PySem PySem.Spec PyProof.Rows L2 VS
def qv{X:Cx}(i:Nat)(a:{`q8,X.N[i]?=Y x})(b:MZ X.env.scope x:=by exact Or.inl L)(c:{`q2,K3 x})(d:{`q2,K4 x}):PV G X (.Name x p) (ab i):=bH i a b c d
def Q4{α:Sort _}{x:α}{b:Prop}:x=x∨b:=.inl L
abbrev Q5:List Str:=["_law_book_here", "_law_table", "_law_told", "_law_k"]
abbrev Q6:List Str:=["_law_cell_here"]
abbrev Q7:List Str:=["_law_k", "_law_cell_here", "_law_start", "_law_step"]
abbrev Q8:List Str:=["_law_number", "_law_text", "_law_book_here", "_law_table", "_law_told", "_law_k", "_law_long", "_law_due", "_law_kid"]
abbrev Q9:List Str:=["_law_one", "_law_table", "_law_told", "_law_k", "_law_met", "_law_ahead", "_law_stand", "_law_long"]
abbrev Qa:List Str:=["_law_script", "_law_k"]
abbrev Qb:List Str:=["_law_script", "_law_most"]
abbrev Qc:List Str:=["_law_size", "_law_table", "_law_told", "_law_k", "_law_met", "_law_ahead", "_law_stand", "_law_long"]
abbrev Qd:List Str:=["_law_some", "_law_script", "_law_book_here", "_law_table", "_law_told", "_law_k"]
abbrev Qe:List Str:=["_law_table", "_law_told", "_law_k"]
abbrev Qf:List Str:=["book", "number"]
abbrev Qg:List Str:=["book", "table"]
abbrev Qh:List Str:=["number", "row", "table", "stand"]
abbrev Qi:List Str:=["places", "book", "table"]
abbrev Qj:List Str:=["row", "book", "table", "found", "number", "text", "end", "head", "stand"]
abbrev Qk:List Str:=["self", "head", "sign"]
abbrev Ql:List Str:=["self", "head", "word"]
abbrev Qm:List Str:=["self", "long", "link", "ways"]
abbrev Qn:List Str:=["self", "node", "numbers"]
abbrev Qo:List Str:=["self", "node", "sign"]
abbrev Qp:List Str:=["self", "text", "word"]
abbrev Qq:List Str:=["self"]
abbrev Qr:List Str:=["sign", "self", "node", "numbers", "link", "ways", "steps"]
abbrev Qs:List Str:=["table", "stand"]
noncomputable def top(i:Nat):Stmt:=PySem.Challenge.pw_allparts_k23_whole_links_add_up.main.body.getD i (.Pass ⟨0,0,0,0⟩)
structure Kw(mg:Wf):Prop where
 RK:mg "bool" = none
 OI:mg "dict" = none
 JX:mg "enumerate" = none
 T6:mg "int" = none
 K9:mg "isinstance" = none
 JO:mg "len" = none
 OH:mg "list" = none
 MQ:mg "min" = none
 Ke:mg "range" = none
 T5:mg "set" = none
 LC:mg "sorted" = none
 T4:mg "sum" = none
 Pz:mg "tuple" = none
 Mp:∃t,mg "MOST_SIGNS" = some (.int 120 t)
 Mo:∃t,mg "MOST_TEXTS" = some (.int 8 t)
noncomputable abbrev P4:List Str:=["  ", "longs", "links", "ways", "texts", "heads", "nodes"]
abbrev gX(K:Wy)(C D:On):Gx:=OY P4 K C D
def gJ{K:Wy}:j4 ((OY P4 K C D).at m):=CH (by decide +kernel) (by decide +kernel)
structure Km(K:Wy)(mg:Wf)(C D:On):Prop where
 JN:Ln K C
 Ol:mg "Nodes" = some (.ref C)
 Kh:bq K C "longs"
 Ki:bq K C "links"
 Kr:bq K C "ways"
 Kf:bq K C "texts"
 Kj:bq K C "heads"
 Kg:bq K C "nodes"
 xh:Ln K D
 M8:mg "Machine" = some (.ref D)
 J0:bq K D "longs"
 J1:bq K D "links"
 J9:bq K D "ways"
 JY:bq K D "texts"
 J2:bq K D "heads"
 JZ:bq K D "nodes"
def fB{K:Wy}(a:Km K b C D):KO ((OY P4 K C D).at m) K 1 "longs" := yi L a.JN a.xh a.Kh a.J0
def fF{K:Wy}(a:Km K b C D):KO ((OY P4 K C D).at m) K 2 "links" := yi L a.JN a.xh a.Ki a.J1
def eI{K:Wy}(a:Km K b C D):KO ((OY P4 K C D).at m) K 3 "ways" := yi L a.JN a.xh a.Kr a.J9
def eB{K:Wy}(a:Km K b C D):KO ((OY P4 K C D).at m) K 4 "texts" := yi L a.JN a.xh a.Kf a.JY
def lz{K:Wy}(a:Km K b C D):KO ((OY P4 K C D).at m) K 5 "heads" := yi L a.JN a.xh a.Kj a.J2
def nZ{K:Wy}(a:Km K b C D):KO ((OY P4 K C D).at m) K 6 "nodes" := yi L a.JN a.xh a.Kg a.JZ
section
variable(P:SB)(w:XAB)(base:XAA){K:Wy}
abbrev eV:Stmt:=inClass (top 24) 1
def kR:bt Qm Qm (ai eV):=by constructor<;>first | rfl | decide +kernel
def aU(F:JP K "new_node" "Nodes.new_node" eV f e)(b:Meth K C "new_node" f)(B:Kw mg)(a:Km K mg C D) :
  MtAt P w K mg base 1 (gX K C D) 0 "new_node" Qm [R,R,M] bj:=lQ F b a.JN (gy (by decide +kernel) (by decide +kernel)) kR L L (λ_ _ _ _ _ _ g d=>by obtain⟨_,_,_,_,rfl⟩:=L2.Iz d;rfl) λ_ _ _ _ _ _ _ h =>
  (af (rM gJ (fO 1 (fB a) (bP 0)) (aa (qv 1) ag))
  (af (rM gJ (fO 2 (fF a) (bP 0)) (aa (qv 2) ag))
  (af (Cn gJ (fO 3 (eI a) (bP 0)) L L Q4 L L L L L L L L)
  (au (bu (w_sub (cn B.JO (aa (w_fld gJ (fB a) (qv 0)) ag)) ah))))))
abbrev eW:Stmt:=inClass (top 24) 0
def kK:bt Qq Qq (ai eW):=by constructor<;>first | rfl | decide +kernel
def cE(F:JP K "__init__" "Nodes.__init__" eW f g)(d:Mk K C f)(B:Kw mg)(a:Km K mg C D)(h:MtAt P w K mg base 1 (gX K C D) 0 "new_node" Qm [R,R,M] bj) :
  InAt P w K mg base 2 (gX K C D) 0 0 "Nodes" Qq dA:=GJ F d a.Ol kK L L (λ_ _ _ _ _ _ i e=>by obtain⟨_,rfl⟩:=L2.mO e;rfl) λ_ _ _ _ _ _ _ b =>
  (af (lS 0 1 gJ (fB a) (dn ag))
  (af (lS 0 2 gJ (fF a) (dn ag))
  (af (lS 0 3 gJ (eI a) (dn ag))
  (au (uy (iS gJ h.at b (by decide) (bP 0) (aa ah (aa vp (aa vw ag)))) L)))))
abbrev cw:Stmt:=inClass (top 24) 4
def bw:bt ["self", "node", "sign", "old", "long", "half"] Qo (ai cw):=by constructor<;>first | rfl | decide +kernel
def bp(F:JP K "node_just_behind" "Nodes.node_just_behind" cw f g)(d:Meth K C "node_just_behind" f)(B:Kw mg)(a:Km K mg C D)(h:MtAt P w K mg base 1 (gX K C D) 0 "new_node" Qm [R,R,M] bj) :
  MtAt P w K mg base 2 (gX K C D) 0 "node_just_behind" Qo [R,R] aE:=lQ F d a.JN (gy (by decide +kernel) (by decide +kernel)) bw L L (λ_ _ _ _ _ _ i e=>by obtain⟨_,_,_,rfl⟩:=L2.uP e;rfl) λ_ _ _ _ _ _ _ b =>
  (af (aw (uJ b (aV (w_fld gJ (eI a) (qv 0)) (qv 1) (λ_ _=>rfl)) (qv 2) (λ_ _=>rfl)) bw.nd L Q4)
  (af (aw (w_add (aV (w_fld gJ (fB a) (qv 0)) (qv 1) (λ_ _=>rfl)) ah) bw.nd L Q4)
  (af (b9 (ou b (aV (w_fld gJ (fB a) (qv 0)) (qv 3) (λ_ _=>rfl)) (qv 4)) (au (cY 3 L (Or.inl L) L L)) bK)
  (af (qL (iS gJ h.at b (by decide) (bP 0) (aa (qv 4) (aa (aV (w_fld gJ (fF a) (qv 0)) (qv 3) (λ_ _=>rfl)) (aa (Da B.OI (aa (aV (w_fld gJ (eI a) (qv 0)) (qv 3) (λ_ _=>rfl)) ag) L L) ag)))) bw.nd L Q4 L Q4)
  (af (kQ gJ b (fO 2 (fF a) (bP 0)) (qv 3) (qv 5))
  (af (iw Yt (NC.PZ (jO (ku (qv 1)) (lq (ou b (w_get b (aV (w_fld gJ (eI a) (qv 0)) (qv 1) (λ_ _=>rfl)) (qv 2) L L L L) (qv 3)))))
  (af (kQ gJ b (D7 b (fO 3 (eI a) (bP 0)) (qv 1) (λ_ _=>rfl) L) (qv 2) (qv 5))
  (au (aw (aV (w_fld gJ (fF a) (qv 0)) (qv 1) (λ_ _=>rfl)) bw.nd L Q4))))
  (au (cY 5 L (Or.inl L) L L))))))))
abbrev dF:Stmt:=inClass (top 24) 3
def cq:bt ["self", "head", "sign", "fresh", "node"] Qk (ai dF):=by constructor<;>first | rfl | decide +kernel
def bN(F:JP K "head_behind" "Nodes.head_behind" dF f h)(e:Meth K C "head_behind" f)(B:Kw mg)(b:Km K mg C D)(i:MtAt P w K mg base 1 (gX K C D) 0 "new_node" Qm [R,R,M] bj)(d:MtAt P w K mg base 2 (gX K C D) 0 "node_just_behind" Qo [R,R] aE) :
  MtAt P w K mg base 3 (gX K C D) 0 "head_behind" Qk [R,R] bO:=lQ F e b.JN (gy (by decide +kernel) (by decide +kernel)) cq L L (λ_ _ _ _ _ _ j g=>by obtain⟨_,_,_,rfl⟩:=L2.uP g;rfl) λ_ _ _ _ _ _ _ a =>
  (af (b9 (G8 a (qv 2) (aV (w_fld gJ (eI b) (qv 0)) (qv 1) (λ_ _=>rfl)) (by with_unfolding_all rfl) L) (au (DQ (iS gJ d.at a (by decide) (bP 0) (aa (qv 1) (aa (qv 2) ag))))) bK)
  (af (qL (iS gJ i.at a (by decide) (bP 0) (aa (w_add (aV (w_fld gJ (fB b) (qv 0)) (qv 1) (λ_ _=>rfl)) ah) (aa ah (aa vw ag)))) cq.nd L Q4 L Q4)
  (af (aw (qv 1) cq.nd L Q4)
  (af (iw Yt (NC.PZ (jO (ku (qv 4)) (lq (vc a (qv 2) (aV (w_fld gJ (eI b) (qv 0)) (qv 4) (λ_ _=>rfl)) (by with_unfolding_all rfl)))))
  (af (kQ gJ a (D7 a (fO 3 (eI b) (bP 0)) (qv 4) (λ_ _=>rfl) L) (qv 2) (qv 3))
  (au (aw (aV (w_fld gJ (fF b) (qv 0)) (qv 4) (λ_ _=>rfl)) cq.nd L Q4))))
  (af (b9 (ku (qv 4)) (au (vV gJ a (fO 2 (fF b) (bP 0)) (qv 3) (iS gJ d.at a (by decide) (bP 0) (aa (qv 4) (aa (qv 2) ag))) (λ_=>rfl) L L L)) bK)
  (au (cY 3 L (Or.inl L) L L)))))))
abbrev d4:Stmt:=inClass (top 24) 2
def dH:bt ["self", "head", "word", "sign"] Ql (ai d4):=by constructor<;>first | rfl | decide +kernel
def bW(F:JP K "head_grown" "Nodes.head_grown" d4 f e)(b:Meth K C "head_grown" f)(B:Kw mg)(h:Km K mg C D)(g:MtAt P w K mg base 3 (gX K C D) 0 "head_behind" Qk [R,R] bO) :
  MtAt P w K mg base 4 (gX K C D) 0 "head_grown" Ql [R,R] aY:=lQ F b h.JN (gy (by decide +kernel) (by decide +kernel)) dH L L (λ_ _ _ _ _ _ i d=>by obtain⟨_,_,_,rfl⟩:=L2.uP d;rfl) λ_ _ _ _ _ _ _ a =>
  (af (cz Yt L (cy (qv 2)) (aI 3 dH.nd L Q4 Q4)
  (au (qL (iS gJ g.at a (by decide) (bP 0) (aa (qv 1) (aa (qv 3) ag))) dH.nd L Q4 L Q4)))
  (au (cY 1 L (Or.inl L) L L)))
abbrev cA:Stmt:=inClass (top 24) 6
def aS:bt ["self", "numbers", "met", "done", "ways", "sign"] Qq (ai cA):=by constructor<;>first | rfl | decide +kernel
def bD{m:Me}(F:JP K "numbers_by_node" "Nodes.numbers_by_node" cA f g)(d:Meth K C "numbers_by_node" f)(B:Kw mg)(b:Km K mg C D) :
  MpAt P w K mg base 1 ((gX K C D).at m) 0 "numbers_by_node" Qq aO:=oi F d b.JN (gy (by decide +kernel) (by decide +kernel)) aS L L (λ_ _ _ _ _ _ h e=>by obtain⟨_,rfl⟩:=L2.mO e;rfl) λ_ _ _ _ _ _ a =>
  (af (g8 EL aS.nd L Q4)
  (af (g8 (dn (aa ah ag)) aS.nd L Q4)
  (af (aw ah aS.nd L Q4)
  (af (iw Yt (fz vm BE kL (qv 3) (cn B.JO (aa (qv 2) ag)) (gF _))
  (af (aw (aV (w_fld gJ (eI b) (qv 0)) (aV (qv 2) (qv 3) (λ_ _=>rfl)) (λ_ _=>rfl)) aS.nd L Q4)
  (af (cz Yt L (cy (v9 B.LC (aa (qv 4) ag))) (aI 5 aS.nd L Q4 Q4)
  (au (b9 (vc a (uJ a (qv 4) (qv 5) (λ_ _=>rfl)) (qv 1) (by with_unfolding_all rfl)) (af (Ai 1 a (uJ a (qv 4) (qv 5) (λ_ _=>rfl)) (cn B.JO (aa (qv 2) ag)) L Q4 L L (λ_=>rfl) L L L)
  (au (iB 2 (aa (uJ a (qv 4) (qv 5) (λ_ _=>rfl)) ag) L L Q4 L L))) bK)))
  (au (aw (w_add (qv 3) ah) aS.nd L Q4)))))
  (vI 2 (au (cY 1 L (Or.inl L) L L)))))))
abbrev gC:Stmt:=inClass (top 24) 7
def dZ:bt ["self", "node", "numbers", "link", "ways", "steps"] Qn (ai gC):=by constructor<;>first | rfl | decide +kernel
def dk{m:Me}(F:JP K "row_of" "Nodes.row_of" gC f g)(d:Meth K C "row_of" f)(B:Kw mg)(a:Km K mg C D) :
  MpAt P w K mg base 1 ((gX K C D).at m) 0 "row_of" Qn bX:=oi F d a.JN (gy (by decide +kernel) (by decide +kernel)) dZ L L (λ_ _ _ _ _ _ h e=>by obtain⟨_,_,_,rfl⟩:=L2.uP e;rfl) λ_ _ _ _ _ _ b =>
  (af (aw (aV (w_fld gJ (fF a) (qv 0)) (qv 1) (λ_ _=>rfl)) dZ.nd L Q4)
  (af (aw (aV (w_fld gJ (eI a) (qv 0)) (qv 1) (λ_ _=>rfl)) dZ.nd L (Or.inr L))
  (af (aw (Dq B.Pz (aa (fX 1 Qr L (cy (v9 B.LC (aa (bH 4 L (Or.inr Q4) L L) ag))) (cx) (λ_ _ _ _ _=>(aI 0 (show List.Nodup Qr from by decide +kernel) L Q4 (Or.inr L))) (λ_ _ _ _ _=>(lT (aa (qv 0) (aa (Ec b (bH 3 L (Or.inr Q4) L L) (uJ b (bH 5 L (Or.inr Q4) L L) (qv 0) (λ_ _=>rfl)) (λ_ _=>rfl) L) ag)))) L L (by decide)) ag)) dZ.nd L Q4)
  (af (b9 (Fq (qv 3)) (au (bu (lT (aa ah (aa ah (aa vp (aa (qv 5) ag))))))) bK)
  (au (bu (lT (aa (w_add (aV (w_fld gJ (fB a) (qv 0)) (qv 3) (λ_ _=>rfl)) ah) (aa (aV (w_fld gJ (fB a) (qv 0)) (qv 1) (λ_ _=>rfl)) (aa (Ec b (bH 2 L (Or.inr Q4) L L) (qv 3) (λ_ _=>rfl) L) (aa (qv 5) ag)))))))))))
abbrev g9:Stmt:=inClass (top 24) 5
def i7:bt ["self", "numbers"] Qq (ai g9):=by constructor<;>first | rfl | decide +kernel
def dQ{m:Me}(F:JP K "table" "Nodes.table" g9 f e)(b:Meth K C "table" f)(B:Kw mg)(i:Km K mg C D)(h:∀m,MpAt P w K mg base 1 ((gX K C D).at m) 0 "numbers_by_node" Qq aO)(g:∀m,MpAt P w K mg base 1 ((gX K C D).at m) 0 "row_of" Qn bX) :
  MpAt P w K mg base 2 ((gX K C D).at m) 0 "table" Qq dM:=oi F b i.JN (gy (by decide +kernel) (by decide +kernel)) i7 L L (λ_ _ _ _ _ _ j d=>by obtain⟨_,rfl⟩:=L2.mO d;rfl) λ_ _ _ _ _ _ a =>
  (af (g8 (oR (h _) a (by decide) (bH 0 L (Or.inr Q4) L L) L) i7.nd L (Or.inr L))
  (au (Gn 1 ["node", "self", "numbers"] L L (Or.inr Q4) L L (cx) (λ_ _ _ _ _=>(aI 0 (show List.Nodup (["node", "self", "numbers"]:List Str) from by decide +kernel) L Q4 (Or.inr L))) (λ_ _ _ _ _=>(C7 (g _) a (by decide) (bH 1 L (Or.inr Q4) L L) (aa (qv 0) (aa (bH 2 L (Or.inr Q4) L L) ag)) L L L)) L L (by decide) (λ_=>rfl))))
abbrev fJ:Stmt:=inClass (top 26) 1
def l8:bt Qq Qq (ai fJ):=by constructor<;>first | rfl | decide +kernel
def cU(F:JP K "begin" "Machine.begin" fJ f e)(b:Meth K D "begin" f)(B:Kw mg)(a:Km K mg C D) :
  MtAt P w K mg base 1 (gX K C D) 1 "begin" Qq [] bG:=lQ F b a.xh (gy (by decide +kernel) (by decide +kernel)) l8 L L (λ_ _ _ _ _ _ g d=>by obtain⟨_,rfl⟩:=L2.mO d;rfl) λ_ _ _ _ _ _ _ h =>
  (af (b9 (zA (cn B.JO (aa (w_fld gJ (eB a) (qv 0)) ag)) (xj B.Mo L L)) (au rK) bK)
  (af (rM gJ (fO 4 (eB a) (bP 0)) (aa (oH (by decide +kernel) (by decide)) ag))
  (af (rM gJ (fO 5 (lz a) (bP 0)) (aa ah ag))
  (au (bu (w_sub (cn B.JO (aa (w_fld gJ (eB a) (qv 0)) ag)) ah))))))
abbrev j9:Stmt:=top 8
def uu:bt ["thing"] ["thing"] (ai j9):=by constructor<;>first | rfl | decide +kernel
def dj{m:Me}(F:JP K "is_whole" "is_whole" j9 f d)(a:mg "is_whole" = Y (.ref f))(B:Kw mg)(h:Km K mg C D) :
  FnAt P w K mg base 1 "is_whole" ["thing"] ((gX K C D).at m) gI:=dN F a uu L L (λ_ _ _ _ _ _ e b=>by obtain⟨_,rfl⟩:=L2.mO b;rfl) λ_ _ _ _ _ _ g =>
  (au (bu (zO (w_is .int B.K9 B.T6 (qv 0)) (Aq (FI (w_is .bool B.K9 B.RK (qv 0)))))))
abbrev fi:Stmt:=top 9
def ko:bt Qf Qf (ai fi):=by constructor<;>first | rfl | decide +kernel
def cF{m:Me}(F:JP K "refuse_no_text" "refuse_no_text" fi f e)(b:mg "refuse_no_text" = Y (.ref f))(B:Kw mg)(i:Km K mg C D)(g:∀m,FnAt P w K mg base 1 "is_whole" ["thing"] ((gX K C D).at m) gI) :
  FnAt P w K mg base 2 "refuse_no_text" Qf ((gX K C D).at m) bE:=dN F b ko L L (λ_ _ _ _ _ _ h d=>by obtain⟨_,_,rfl⟩:=L2.dh d;rfl) λ_ _ _ _ _ _ a =>
  (au (b9 (NC.PZ (uE (jL (mY (bh (g _) a (aa (qv 1) ag) (by decide) L L))) (uF (jL (jt ah (qv 1) (cn B.JO (aa (qv 0) ag)) (by with_unfolding_all rfl)))))) (au rK) bK))
abbrev kc:Stmt:=top 10
def t5:bt ["book"] ["book"] (ai kc):=by constructor<;>first | rfl | decide +kernel
def gE{m:Me}(F:JP K "signs_in" "signs_in" kc f d)(a:mg "signs_in" = Y (.ref f))(B:Kw mg)(h:Km K mg C D) :
  FnAt P w K mg base 1 "signs_in" ["book"] ((gX K C D).at m) gn:=dN F a t5 L L (λ_ _ _ _ _ _ e b=>by obtain⟨_,rfl⟩:=L2.mO b;rfl) λ_ _ _ _ _ _ g =>
  (au (bu (w_sum B.T4 (aa (fX 1 ["text", "book"] L (cy (qv 0)) (cx) (λ_ _ _ _ _=>(aI 0 (show List.Nodup (["text", "book"]:List Str) from by decide +kernel) L Q4 (Or.inr L))) (λ_ _ _ _ _=>(cn B.JO (aa (qv 0) ag))) L L (by decide)) ag))))
abbrev gz:Stmt:=inClass (top 26) 2
def mL:bt Qp Qp (ai gz):=by constructor<;>first | rfl | decide +kernel
def dq(F:JP K "grow" "Machine.grow" gz f h)(d:Meth K D "grow" f)(B:Kw mg)(a:Km K mg C D)(j:MtAt P w K mg base 4 (gX K C D) 0 "head_grown" Ql [R,R] aY)(i:∀m,FnAt P w K mg base 2 "refuse_no_text" Qf ((gX K C D).at m) bE)(g:∀m,FnAt P w K mg base 1 "signs_in" ["book"] ((gX K C D).at m) gn) :
  MtAt P w K mg base 5 (gX K C D) 1 "grow" Qp [R,R] bF:=lQ F d a.xh (gy (by decide +kernel) (by decide +kernel)) mL L L (λ_ _ _ _ _ _ l e=>by obtain⟨_,_,_,rfl⟩:=L2.uP e;rfl) λ_ _ _ _ _ _ _ b =>
  (af (qK (bh (i _) b (aa (w_fld gJ (eB a) (qv 0)) (aa (qv 1) ag)) (by decide) L L) L)
  (af (b9 (p7 (w_add (bh (g _) b (aa (w_fld gJ (eB a) (qv 0)) ag) (by decide) L L) (cn B.JO (aa (qv 2) ag))) (xj B.Mp L L)) (au rK) bK)
  (af (vV gJ b (fO 5 (lz a) (bP 0)) (qv 1) (iS gJ j.at b (by decide) (fO 6 (nZ a) (bP 0)) (aa (aV (w_fld gJ (lz a) (qv 0)) (qv 1) (λ_ _=>rfl)) (aa (qv 2) ag))) (λ_=>rfl) L L L)
  (au (kQ gJ b (fO 4 (eB a) (bP 0)) (qv 1) (w_add (aV (w_fld gJ (eB a) (qv 0)) (qv 1) (λ_ _=>rfl)) (qv 2)))))))
abbrev b6:Stmt:=inClass (top 26) 0
def fS:bt ["self", "book", "text"] ["self", "book"] (ai b6):=by constructor<;>first | rfl | decide +kernel
def b7(F:NS K "__init__" "Machine.__init__" b6 f i)(g:Mk K D f)(B:Kw mg)(a:Km K mg C D)(l:MtAt P w K mg base 1 (gX K C D) 1 "begin" Qq [] bG)(j:MtAt P w K mg base 5 (gX K C D) 1 "grow" Qp [R,R] bF)(m:InAt P w K mg base 2 (gX K C D) 0 0 "Nodes" Qq dA) :
  InAt P w K mg base 6 (gX K C D) 1 1 "Machine" ["self", "book"] br:=DX F g a.M8 fS L L (λ_ _ _ _ _ _ _ _ _ _ n X e d h=>by obtain⟨_,_,rfl⟩:=L2.dh h;exact PySem.W.binds_K X L e d L L) λ_ _ _ _ _ _ _ b =>
  (af (lS 0 4 gJ (eB a) (dn ag))
  (af (lS 0 5 gJ (lz a) (dn ag))
  (af (lS 0 6 gJ (nZ a) (Cj m.at b (by decide) L L))
  (au (b9 (ku (qv 1)) (au (cz Yt L (cy (qv 1)) (aI 2 fS.nd L Q4 Q4)
  (au (uy (E1 j.at b (by decide) L Q4 L L (yI gJ l.at b (by decide) (bP 0) L) (aa (qv 2) ag) L L L) L)))) bK)))))
abbrev gr:Stmt:=inClass (top 26) 3
def mJ:bt Qq Qq (ai gr):=by constructor<;>first | rfl | decide +kernel
def je{m:Me}(F:JP K "book" "Machine.book" gr f e)(b:Meth K D "book" f)(B:Kw mg)(a:Km K mg C D) :
  MpAt P w K mg base 1 ((gX K C D).at m) 1 "book" Qq nG:=oi F b a.xh (gy (by decide +kernel) (by decide +kernel)) mJ L L (λ_ _ _ _ _ _ g d=>by obtain⟨_,rfl⟩:=L2.mO d;rfl) λ_ _ _ _ _ _ h =>
  (au (bu (wZ B.OH (aa (w_fld gJ (eB a) (qv 0)) ag))))
abbrev fN:Stmt:=inClass (top 26) 4
def lH:bt Qq Qq (ai fN):=by constructor<;>first | rfl | decide +kernel
def c7{m:Me}(F:JP K "table" "Machine.table" fN f g)(d:Meth K D "table" f)(B:Kw mg)(a:Km K mg C D)(h:∀m,MpAt P w K mg base 2 ((gX K C D).at m) 0 "table" Qq dM) :
  MpAt P w K mg base 3 ((gX K C D).at m) 1 "table" Qq cf:=oi F d a.xh (gy (by decide +kernel) (by decide +kernel)) lH L L (λ_ _ _ _ _ _ i e=>by obtain⟨_,rfl⟩:=L2.mO e;rfl) λ_ _ _ _ _ _ b =>
  (au (bu (oR (h _) b (by decide) (w_fld gJ (nZ a) (qv 0)) L)))
abbrev uW:Stmt:=top 12
def mR:bt ["table", "word", "stands", "sign", "ways"] ["table", "word"] (ai uW):=by constructor<;>first | rfl | decide +kernel
def oJ{m:Me}(F:JP K "walk" "walk" uW f e)(b:mg "walk" = Y (.ref f))(B:Kw mg)(h:Km K mg C D) :
  FnAt P w K mg base 1 "walk" ["table", "word"] ((gX K C D).at m) n8:=dN F b mR L L (λ_ _ _ _ _ _ g d=>by obtain⟨_,_,rfl⟩:=L2.dh d;rfl) λ_ _ _ _ _ _ a =>
  (af (g8 (dn (aa ah ag)) mR.nd L Q4)
  (af (cz Yt L (cy (qv 1)) (aI 3 mR.nd L Q4 Q4)
  (af (aw (DF B.OI (aa (aV (aV (qv 0) (aV (qv 2) IT (λ_ _=>rfl)) (λ_ _=>rfl)) ah (λ_ _=>rfl)) ag)) mR.nd L Q4)
  (af (b9 (vc a (qv 3) (qv 4) (by with_unfolding_all rfl)) (au (cY 2 L (Or.inl L) L L)) bK)
  (au (iB 2 (aa (uJ a (qv 4) (qv 3) (λ_ _=>rfl)) ag) L L Q4 L L)))))
  (au (cY 2 L (Or.inl L) L L))))
abbrev eT:Stmt:=top 15
def kb:bt Qs Qs (ai eT):=by constructor<;>first | rfl | decide +kernel
def aQ{m:Me}(F:JP K "refuse_no_stand" "refuse_no_stand" eT f e)(b:mg "refuse_no_stand" = Y (.ref f))(B:Kw mg)(i:Km K mg C D)(g:∀m,FnAt P w K mg base 1 "is_whole" ["thing"] ((gX K C D).at m) gI) :
  FnAt P w K mg base 2 "refuse_no_stand" Qs ((gX K C D).at m) aL:=dN F b kb L L (λ_ _ _ _ _ _ h d=>by obtain⟨_,_,rfl⟩:=L2.dh d;rfl) λ_ _ _ _ _ _ a =>
  (au (b9 (NC.PZ (uE (jL (mY (bh (g _) a (aa (qv 1) ag) (by decide) L L))) (uF (jL (jt ah (qv 1) (cn B.JO (aa (qv 0) ag)) (by with_unfolding_all rfl)))))) (au rK) bK))
abbrev gw:Stmt:=top 16
def cZ:bt ["table", "before", "number", "row", "way"] ["table"] (ai gw):=by constructor<;>first | rfl | decide +kernel
def dv{m:Me}(F:JP K "steps_before" "steps_before" gw f e)(b:mg "steps_before" = Y (.ref f))(B:Kw mg)(h:Km K mg C D) :
  FnAt P w K mg base 1 "steps_before" ["table"] ((gX K C D).at m) eR:=dN F b cZ L L (λ_ _ _ _ _ _ g d=>by obtain⟨_,rfl⟩:=L2.mO d;rfl) λ_ _ _ _ _ _ a =>
  (af (g8 vw cZ.nd L Q4)
  (af (cz Yt L (i5 (qv 0) L B.JX) (kC L (c9 (aI 2 cZ.nd L Q4 Q4) (c9 (aI 3 cZ.nd L Q4 Q4) jf)))
  (au (cz Yt L (cy (aV (qv 3) ah (λ_ _=>rfl))) (aI 4 cZ.nd L Q4 Q4)
  (au (b9 (ou a (aV (aV (qv 0) (aV (qv 4) ah (λ_ _=>rfl)) (λ_ _=>rfl)) ah (λ_ _=>rfl)) (w_add (aV (qv 3) ah (λ_ _=>rfl)) ah)) (au (Ai 1 a (aV (qv 4) ah (λ_ _=>rfl)) (lT (aa (qv 2) (aa (aV (qv 4) ah (λ_ _=>rfl)) ag))) L Q4 L L (λ_=>rfl) L L L)) bK)))))
  (au (cY 1 L (Or.inl L) L L))))
abbrev lO:Stmt:=top 13
def eX:bt ["table", "stand", "before", "word", "step"] Qs (ai lO):=by constructor<;>first | rfl | decide +kernel
def cB{m:Me}(F:JP K "longest" "longest" lO f e)(b:mg "longest" = Y (.ref f))(B:Kw mg)(j:Km K mg C D)(h:∀m,FnAt P w K mg base 2 "refuse_no_stand" Qs ((gX K C D).at m) aL)(g:∀m,FnAt P w K mg base 1 "steps_before" ["table"] ((gX K C D).at m) eR) :
  FnAt P w K mg base 3 "longest" Qs ((gX K C D).at m) d9:=dN F b eX L L (λ_ _ _ _ _ _ i d=>by obtain⟨_,_,rfl⟩:=L2.dh d;rfl) λ_ _ _ _ _ _ a =>
  (af (qK (bh (h _) a (aa (qv 0) (aa (qv 1) ag)) (by decide) L L) L)
  (af (aw (bh (g _) a (aa (qv 0) ag) (by decide) L L) eX.nd L Q4)
  (af (aw (oH (by decide +kernel) (by decide)) eX.nd L Q4)
  (af (iw Yt (xp a (qv 1) ah)
  (af (aw (uJ a (qv 2) (qv 1) (λ_ _=>rfl)) eX.nd L Q4)
  (af (aw (w_add (aV (qv 4) ah (λ_ _=>rfl)) (qv 3)) eX.nd L Q4)
  (au (aw (aV (qv 4) ah (λ_ _=>rfl)) eX.nd L Q4)))))
  (au (cY 3 L (Or.inl L) L L))))))
abbrev qI:Stmt:=top 14
def sF:bt ["table", "stand", "word"] Qs (ai qI):=by constructor<;>first | rfl | decide +kernel
def kW{m:Me}(F:JP K "words" "words" qI f e)(b:mg "words" = Y (.ref f))(B:Kw mg)(i:Km K mg C D)(g:∀m,FnAt P w K mg base 3 "longest" Qs ((gX K C D).at m) d9) :
  FnAt P w K mg base 4 "words" Qs ((gX K C D).at m) mS:=dN F b sF L L (λ_ _ _ _ _ _ h d=>by obtain⟨_,_,rfl⟩:=L2.dh d;rfl) λ_ _ _ _ _ _ a =>
  (af (aw (bh (g _) a (aa (qv 0) (aa (qv 1) ag)) (by decide) L L) sF.nd L (Or.inr L))
  (au (bu (fX 1 ["long", "table", "stand", "word"] L (uG (aV (aV (qv 0) (qv 1) (λ_ _=>rfl)) ah (λ_ _=>rfl)) (w_add (aV (aV (qv 0) (qv 1) (λ_ _=>rfl)) ah (λ_ _=>rfl)) ah) L B.Ke) (cx) (λ_ _ _ _ _=>(aI 0 (show List.Nodup (["long", "table", "stand", "word"]:List Str) from by decide +kernel) L Q4 (Or.inr L))) (λ_ _ _ _ _=>(jz (bH 3 L (Or.inr Q4) L L) (iq (w_sub (cn B.JO (aa (bH 3 L (Or.inr Q4) L L) ag)) (qv 0))) kD)) L L (by decide)))))
abbrev qS:Stmt:=top 18
def oO:bt ["table", "stand", "met"] Qs (ai qS):=by constructor<;>first | rfl | decide +kernel
def g6{m:Me}(F:JP K "chain" "chain" qS f e)(b:mg "chain" = Y (.ref f))(B:Kw mg)(i:Km K mg C D)(g:∀m,FnAt P w K mg base 2 "refuse_no_stand" Qs ((gX K C D).at m) aL) :
  FnAt P w K mg base 3 "chain" Qs ((gX K C D).at m) jK:=dN F b oO L L (λ_ _ _ _ _ _ h d=>by obtain⟨_,_,rfl⟩:=L2.dh d;rfl) λ_ _ _ _ _ _ a =>
  (af (qK (bh (g _) a (aa (qv 0) (aa (qv 1) ag)) (by decide) L L) L)
  (af (g8 (dn ag) oO.nd L Q4)
  (af (iw Yt (ku (qv 1))
  (af (iB 2 (aa (qv 1) ag) L L Q4 L L)
  (au (aw (aV (aV (qv 0) (qv 1) (λ_ _=>rfl)) ah (λ_ _=>rfl)) oO.nd L Q4))))
  (au (cY 2 L (Or.inl L) L L)))))
abbrev uM:Stmt:=top 19
def CQ:bt Qs Qs (ai uM):=by constructor<;>first | rfl | decide +kernel
def oQ{m:Me}(F:JP K "kids" "kids" uM f e)(b:mg "kids" = Y (.ref f))(B:Kw mg)(i:Km K mg C D)(g:∀m,FnAt P w K mg base 2 "refuse_no_stand" Qs ((gX K C D).at m) aL) :
  FnAt P w K mg base 3 "kids" Qs ((gX K C D).at m) qB:=dN F b CQ L L (λ_ _ _ _ _ _ h d=>by obtain⟨_,_,rfl⟩:=L2.dh d;rfl) λ_ _ _ _ _ _ a =>
  (af (qK (bh (g _) a (aa (qv 0) (aa (bH 1 L (Or.inr Q4) L L) ag)) (by decide) L L) L)
  (au (bu (pP 2 Qh L (i5 (qv 0) L B.JX) (su (cx) (cx)) (λ_ _ _ _ _=>(kC L (c9 (aI 0 (show List.Nodup Qh from by decide +kernel) L Q4 (Or.inr L)) (c9 (aI 1 (show List.Nodup Qh from by decide +kernel) L Q4 (Or.inr L)) jf)))) (λ_ _ _ _ _=>(ou a (aV (qv 1) ah (λ_ _=>rfl)) (bH 3 L (Or.inr Q4) L L))) (λ_ _ _ _ _=>(qv 0)) L L (by decide)))))
abbrev jl:Stmt:=top 20
def cN:bt ["book", "table", "found", "number", "text", "end", "head", "stand"] Qg (ai jl):=by constructor<;>first | rfl | decide +kernel
def bM{m:Me}(F:JP K "places_by" "places_by" jl f i)(d:mg "places_by" = Y (.ref f))(B:Kw mg)(l:Km K mg C D)(g:∀m,FnAt P w K mg base 3 "chain" Qs ((gX K C D).at m) jK)(b:∀m,FnAt P w K mg base 1 "walk" ["table", "word"] ((gX K C D).at m) n8) :
  FnAt P w K mg base 4 "places_by" Qg ((gX K C D).at m) cj:=dN F d cN L L (λ_ _ _ _ _ _ j e=>by obtain⟨_,_,rfl⟩:=L2.dh e;rfl) λ_ _ _ _ _ _ a =>
  (af (BH 1 Qj (λ_ _ _ h=>Gf h) L (cy (qv 1)) (cx) (λ_ _ _ _ _=>(aI 0 (show List.Nodup Qj from by decide +kernel) L Q4 (Or.inr L))) (λ_ _ _ _ _=>(dn ag)) cN.nd L Q4 L L (by decide))
  (af (cz Yt L (i5 (qv 0) L B.JX) (kC L (c9 (aI 3 cN.nd L Q4 Q4) (c9 (aI 4 cN.nd L Q4 Q4) jf)))
  (au (cz Yt L (i5 (bh (b _) a (aa (qv 1) (aa (qv 4) ag)) (by decide) L L) L B.JX) (kC L (c9 (aI 5 cN.nd L Q4 Q4) (c9 (aI 6 cN.nd L Q4 Q4) jf)))
  (au (cz Yt L (cy (bh (g _) a (aa (qv 1) (aa (qv 6) ag)) (by decide) L L)) (aI 7 cN.nd L Q4 Q4)
  (au (EB 2 L (Or.inl L) L L (qv 7) (λ_ _=>rfl) (aa (lT (aa (qv 3) (aa (qv 5) ag))) ag) L L L L L L L)))))))
  (au (cY 2 L (Or.inl L) L L))))
abbrev nL:Stmt:=top 21
def yh:bt Qg Qg (ai nL):=by constructor<;>first | rfl | decide +kernel
def jE{m:Me}(F:JP K "counts" "counts" nL f e)(b:mg "counts" = Y (.ref f))(B:Kw mg)(i:Km K mg C D)(g:∀m,FnAt P w K mg base 4 "places_by" Qg ((gX K C D).at m) cj) :
  FnAt P w K mg base 5 "counts" Qg ((gX K C D).at m) oF:=dN F b yh L L (λ_ _ _ _ _ _ h d=>by obtain⟨_,_,rfl⟩:=L2.dh d;rfl) λ_ _ _ _ _ _ a =>
  (au (bu (fX 1 Qi L (cy (bh (g _) a (aa (qv 0) (aa (qv 1) ag)) (by decide) L L)) (cx) (λ_ _ _ _ _=>(aI 0 (show List.Nodup Qi from by decide +kernel) L Q4 (Or.inr L))) (λ_ _ _ _ _=>(cn B.JO (aa (qv 0) ag))) L L (by decide))))
abbrev n6:Stmt:=top 22
def xU:bt Qg Qg (ai n6):=by constructor<;>first | rfl | decide +kernel
def i3{m:Me}(F:JP K "firsts" "firsts" n6 f e)(b:mg "firsts" = Y (.ref f))(B:Kw mg)(i:Km K mg C D)(g:∀m,FnAt P w K mg base 4 "places_by" Qg ((gX K C D).at m) cj) :
  FnAt P w K mg base 5 "firsts" Qg ((gX K C D).at m) oZ:=dN F b xU L L (λ_ _ _ _ _ _ h d=>by obtain⟨_,_,rfl⟩:=L2.dh d;rfl) λ_ _ _ _ _ _ a =>
  (au (bu (fX 1 Qi L (cy (bh (g _) a (aa (qv 0) (aa (qv 1) ag)) (by decide) L L)) (cx) (λ_ _ _ _ _=>(aI 0 (show List.Nodup Qi from by decide +kernel) L Q4 (Or.inr L))) (λ_ _ _ _ _=>(Hh (p7 (cn B.JO (aa (qv 0) ag)) ah) (aV (qv 0) ah (λ_ _=>rfl)) vp)) L L (by decide))))
abbrev j5:Stmt:=top 28
def sL:bt Qa Qa (ai j5):=by constructor<;>first | rfl | decide +kernel
def fh{m:Me}(F:JP K "_law_cell" "_law_cell" j5 f d)(a:mg "_law_cell" = Y (.ref f))(B:Kw mg)(h:Km K mg C D) :
  FnAt P w K mg base 1 "_law_cell" Qa ((gX K C D).at m) fg:=dN F a sL L L (λ_ _ _ _ _ _ e b=>by obtain⟨_,_,rfl⟩:=L2.dh b;rfl) λ_ _ _ _ _ _ g =>
  (af (b9 (fz vm BE kL (qv 1) (cn B.JO (aa (qv 0) ag)) (gF _)) (au (bu (aV (qv 0) (qv 1) (λ_ _=>rfl)))) bK)
  (au (bu ah)))
abbrev jr:Stmt:=top 29
def dD:bt ["_law_script", "_law_k", "_law_cell_here", "_law_number"] Qa (ai jr):=by constructor<;>first | rfl | decide +kernel
def bz{m:Me}(F:JP K "_law_mixed" "_law_mixed" jr f d)(a:mg "_law_mixed" = Y (.ref f))(B:Kw mg)(h:Km K mg C D) :
  FnAt P w K mg base 1 "_law_mixed" Qa ((gX K C D).at m) aX:=dN F a dD L L (λ_ _ _ _ _ _ e b=>by obtain⟨_,_,rfl⟩:=L2.dh b;rfl) λ_ _ _ _ _ _ g =>
  (af (aw ah dD.nd L Q4)
  (af (b9 (p7 (cn B.JO (aa (qv 0) ag)) ah) (au (aw (aV (qv 0) (w_mod (qv 1) (cn B.JO (aa (qv 0) ag))) (λ_ _=>rfl)) dD.nd L Q4)) bK)
  (af (aw (w_mod (w_mul (w_add (w_add (w_mod (qv 2) ah) (w_mul ah (qv 1))) ah) ah) ah) dD.nd L Q4)
  (af (aw (w_mod (w_mul (qv 3) (qv 3)) ah) dD.nd L Q4)
  (af (aw (w_mod (w_mul (w_add (qv 3) (qv 1)) ah) ah) dD.nd L Q4)
  (au (bu (iO (w_mod (w_mul (qv 3) (qv 3)) ah) ah))))))))
abbrev jo:Stmt:=top 30
def iK:bt ["_law_cell_here", "_law_start", "_law_step"] Q6 (ai jo):=by constructor<;>first | rfl | decide +kernel
def cH{m:Me}(F:JP K "_law_signs" "_law_signs" jo f d)(a:mg "_law_signs" = Y (.ref f))(B:Kw mg)(h:Km K mg C D) :
  FnAt P w K mg base 1 "_law_signs" Q6 ((gX K C D).at m) ed:=dN F a iK L L (λ_ _ _ _ _ _ e b=>by obtain⟨_,rfl⟩:=L2.mO b;rfl) λ_ _ _ _ _ _ g =>
  (af (aw (w_mod (qv 0) ah) iK.nd L (Or.inr L))
  (af (aw (aV (dn (aa ah (aa ah (aa ah (aa ah (aa ah ag)))))) (w_mod (iO (qv 0) ah) ah) (λ_ _=>rfl)) iK.nd L (Or.inr L))
  (au (bu (fX 1 Q7 L (d6 ah L B.Ke) (cx) (λ_ _ _ _ _=>(aI 0 (show List.Nodup Q7 from by decide +kernel) L Q4 (Or.inr L))) (λ_ _ _ _ _=>(aV (oH (by decide +kernel) (by decide)) (w_mod (w_add (bH 2 L (Or.inr Q4) L L) (w_mul (bH 3 L (Or.inr Q4) L L) (qv 0))) ah) (λ_ _=>rfl))) L L (by decide))))))
abbrev fK:Stmt:=top 31
def aF:bt ["_law_cell_here", "_law_signs_here", "_law_some", "_law_many", "_law_room", "_law_book_here", "_law_k", "_law_size", "_law_text", "_law_j"] Q6 (ai fK):=by constructor<;>first | rfl | decide +kernel
def c8{m:Me}(F:JP K "_law_by_digits" "_law_by_digits" fK f e)(b:mg "_law_by_digits" = Y (.ref f))(B:Kw mg)(i:Km K mg C D)(g:∀m,FnAt P w K mg base 1 "_law_signs" Q6 ((gX K C D).at m) ed) :
  FnAt P w K mg base 2 "_law_by_digits" Q6 ((gX K C D).at m) dX:=dN F b aF L L (λ_ _ _ _ _ _ h d=>by obtain⟨_,rfl⟩:=L2.mO d;rfl) λ_ _ _ _ _ _ a =>
  (af (aw (bh (g _) a (aa (qv 0) ag) (by decide) L L) aF.nd L Q4)
  (af (aw (aV (dn (aa ah (aa ah (aa ah (aa ah (aa ah (aa ah (aa ah (aa ah ag))))))))) (w_mod (iO (qv 0) ah) ah) (λ_ _=>rfl)) aF.nd L Q4)
  (af (aw (w_mod (iO (qv 0) ah) ah) aF.nd L Q4)
  (af (aw (iO (qv 0) ah) aF.nd L Q4)
  (af (aw ah aF.nd L Q4)
  (af (g8 (dn ag) aF.nd L Q4)
  (af (cz Yt L (d6 (qv 3) L B.Ke) (aI 6 aF.nd L Q4 Q4)
  (af (aw (zE B.MQ (aa (qv 4) (aa (w_mod (qv 0) ah) ag))) aF.nd L Q4)
  (af (aw (iO (qv 0) ah) aF.nd L Q4)
  (af (aw (w_sub (qv 4) (qv 7)) aF.nd L Q4)
  (af (aw (oH (by decide +kernel) (by decide)) aF.nd L Q4)
  (af (cz Yt L (d6 (qv 7) L B.Ke) (aI 9 aF.nd L Q4 Q4)
  (af (aw (w_add (qv 8) (aV (qv 1) (w_mod (qv 0) (qv 2)) (λ_ _=>rfl))) aF.nd L Q4)
  (au (aw (iO (qv 0) (qv 2)) aF.nd L Q4))))
  (au (iB 5 (aa (qv 8) ag) L L Q4 L L))))))))
  (au (cY 5 L (Or.inl L) L L)))))))))
abbrev fI:Stmt:=top 32
def aG:bt ["_law_script", "_law_most", "_law_signs_here", "_law_some", "_law_room", "_law_book_here", "_law_k", "_law_size", "_law_back", "_law_text", "_law_j", "_law_number"] Qb (ai fI):=by constructor<;>first | rfl | decide +kernel
def cX{m:Me}(F:JP K "_law_by_mixing" "_law_by_mixing" fI f g)(d:mg "_law_by_mixing" = Y (.ref f))(B:Kw mg)(j:Km K mg C D)(b:∀m,FnAt P w K mg base 1 "_law_mixed" Qa ((gX K C D).at m) aX)(h:∀m,FnAt P w K mg base 1 "_law_signs" Q6 ((gX K C D).at m) ed) :
  FnAt P w K mg base 2 "_law_by_mixing" Qb ((gX K C D).at m) dS:=dN F d aG L L (λ_ _ _ _ _ _ i e=>by obtain⟨_,_,rfl⟩:=L2.dh e;rfl) λ_ _ _ _ _ _ a =>
  (af (aw (bh (h _) a (aa (bh (b _) a (aa (qv 0) (aa ah ag)) (by decide) L L) ag) (by decide) L L) aG.nd L Q4)
  (af (aw (aV (dn (aa ah (aa ah (aa ah (aa ah (aa ah (aa ah (aa ah (aa ah ag))))))))) (w_mod (bh (b _) a (aa (qv 0) (aa ah ag)) (by decide) L L) ah) (λ_ _=>rfl)) aG.nd L Q4)
  (af (aw (qv 1) aG.nd L Q4)
  (af (g8 (dn ag) aG.nd L Q4)
  (af (cz Yt L (d6 (w_mod (bh (b _) a (aa (qv 0) (aa ah ag)) (by decide) L L) ah) L B.Ke) (aI 6 aG.nd L Q4 Q4)
  (af (aw (zE B.MQ (aa (qv 4) (aa (w_mod (bh (b _) a (aa (qv 0) (aa (w_add (w_mul ah (qv 6)) ah) ag)) (by decide) L L) (w_add (qv 1) ah)) ag))) aG.nd L Q4)
  (af (aw (w_sub (qv 4) (qv 7)) aG.nd L Q4)
  (af (aw (w_add ah (w_mod (bh (b _) a (aa (qv 0) (aa (w_add (w_mul ah (qv 6)) ah) ag)) (by decide) L L) ah)) aG.nd L Q4)
  (af (aw (oH (by decide +kernel) (by decide)) aG.nd L Q4)
  (af (cz Yt L (d6 (qv 7) L B.Ke) (aI 10 aG.nd L Q4 Q4)
  (af (aw (bh (b _) a (aa (qv 0) (aa (w_add (w_add (w_mul ah (qv 6)) ah) (qv 10)) ag)) (by decide) L L) aG.nd L Q4)
  (au (b9 (NC.PZ (jO (zA (cn B.JO (aa (qv 9) ag)) (qv 8)) (lq (p7 (w_mod (qv 11) ah) ah)))) (au (aw (w_add (qv 9) (aV (qv 9) (w_sub (cn B.JO (aa (qv 9) ag)) (qv 8)) (λ_ _=>rfl))) aG.nd L Q4)) (au (aw (w_add (qv 9) (aV (qv 2) (w_mod (iO (qv 11) ah) (qv 3)) (λ_ _=>rfl))) aG.nd L Q4))))))
  (af (iB 5 (aa (qv 9) ag) L L Q4 L L)
  (au (b9 (NC.PZ (jO (p7 (qv 7) ah) (jO (ou a (w_mod (bh (b _) a (aa (qv 0) (aa (w_add (w_mul ah (qv 6)) ah) ag)) (by decide) L L) ah) ah) (lq (zA (qv 4) ah))))) (af (iB 5 (aa (jz (qv 9) (iq ah) (iq ah)) ag) L L Q4 L L)
  (au (aw (w_sub (qv 4) ah) aG.nd L Q4))) bK)))))))))
  (vI 5 (au (bu (jz (qv 5) kD (iq ah))))))))))
abbrev kf:Stmt:=top 33
def uf:bt Qb Qb (ai kf):=by constructor<;>first | rfl | decide +kernel
def gh{m:Me}(F:JP K "_law_book" "_law_book" kf f g)(d:mg "_law_book" = Y (.ref f))(B:Kw mg)(n:Km K mg C D)(i:∀m,FnAt P w K mg base 2 "_law_by_digits" Q6 ((gX K C D).at m) dX)(h:∀m,FnAt P w K mg base 2 "_law_by_mixing" Qb ((gX K C D).at m) dS)(b:∀m,FnAt P w K mg base 1 "_law_cell" Qa ((gX K C D).at m) fg)(j:∀m,FnAt P w K mg base 1 "_law_mixed" Qa ((gX K C D).at m) aX) :
  FnAt P w K mg base 3 "_law_book" Qb ((gX K C D).at m) iU:=dN F d uf L L (λ_ _ _ _ _ _ l e=>by obtain⟨_,_,rfl⟩:=L2.dh e;rfl) λ_ _ _ _ _ _ a =>
  (af (b9 (ou a (w_mod (bh (b _) a (aa (qv 0) (aa ah ag)) (by decide) L L) ah) ah) (au (bu (bh (i _) a (aa (iO (bh (b _) a (aa (qv 0) (aa ah ag)) (by decide) L L) ah) ag) (by decide) L L))) bK)
  (au (bu (bh (h _) a (aa (qv 0) (aa (aV (dn (aa ah (aa ah (aa ah (aa (qv 1) ag))))) (w_mod (bh (j _) a (aa (qv 0) (aa ah ag)) (by decide) L L) ah) (λ_ _=>rfl)) ag)) (by decide) L L))))
abbrev ie:Stmt:=top 34
def dz:bt ["_law_book_here", "_law_table", "_law_told", "_law_k", "_law_long", "_law_due", "_law_kid"] Q5 (ai ie):=by constructor<;>first | rfl | decide +kernel
def dP{m:Me}(F:JP K "_law_adds_up" "_law_adds_up" ie f g)(d:mg "_law_adds_up" = Y (.ref f))(B:Kw mg)(l:Km K mg C D)(b:∀m,FnAt P w K mg base 3 "kids" Qs ((gX K C D).at m) qB)(i:∀m,FnAt P w K mg base 3 "longest" Qs ((gX K C D).at m) d9) :
  FnAt P w K mg base 4 "_law_adds_up" Q5 ((gX K C D).at m) ft:=dN F d dz L L (λ_ _ _ _ _ _ j e=>by obtain⟨_,_,_,_,rfl⟩:=L2.Iz e;rfl) λ_ _ _ _ _ _ a =>
  (af (aw (bh (i _) a (aa (qv 1) (aa (qv 3) ag)) (by decide) L L) dz.nd L (Or.inr L))
  (af (vf 2 Q8 (λ_ _ _ h=>CN h) L (i5 (qv 0) L B.JX) (su (cx) (cx)) (λ_ _ _ _ _=>(kC L (c9 (aI 0 (show List.Nodup Q8 from by decide +kernel) L Q4 (Or.inr L)) (c9 (aI 1 (show List.Nodup Q8 from by decide +kernel) L Q4 (Or.inr L)) jf)))) (λ_ _ _ _ _=>(ou a (jz (qv 1) kD (iq (cn B.JO (aa (bH 6 L (Or.inr Q4) L L) ag)))) (bH 6 L (Or.inr Q4) L L))) (λ_ _ _ _ _=>(lT (aa (qv 0) (aa (cn B.JO (aa (bH 6 L (Or.inr Q4) L L) ag)) ag)))) dz.nd L Q4 L L (by decide))
  (af (cz Yt L (cy (bh (b _) a (aa (qv 1) (aa (qv 3) ag)) (by decide) L L)) (aI 6 dz.nd L Q4 Q4)
  (au (aw (w_add (qv 5) (aV (qv 2) (qv 6) (λ_ _=>rfl))) dz.nd L Q4)))
  (au (bu (zO (q9 (oW a.units) uz (Ao B.LC (aa (qv 5) ag)) (aV (qv 2) (qv 3) (λ_ _=>rfl)) (gF _)) (Aq (q9 (oW a.units) uz (Be a B.JO B.T5 (aa (qv 5) ag)) (cn B.JO (aa (qv 5) ag)) (gF _)))))))))
abbrev jq:Stmt:=top 35
def cP:bt ["_law_table", "_law_told", "_law_k", "_law_met", "_law_ahead", "_law_stand", "_law_long"] Qe (ai jq):=by constructor<;>first | rfl | decide +kernel
def fD{m:Me}(F:JP K "_law_tails" "_law_tails" jq f h)(d:mg "_law_tails" = Y (.ref f))(B:Kw mg)(l:Km K mg C D)(g:∀m,FnAt P w K mg base 3 "chain" Qs ((gX K C D).at m) jK)(i:∀m,FnAt P w K mg base 3 "longest" Qs ((gX K C D).at m) d9)(b:∀m,FnAt P w K mg base 4 "words" Qs ((gX K C D).at m) mS) :
  FnAt P w K mg base 5 "_law_tails" Qe ((gX K C D).at m) gQ:=dN F d cP L L (λ_ _ _ _ _ _ j e=>by obtain⟨_,_,_,rfl⟩:=L2.uP e;rfl) λ_ _ _ _ _ _ a =>
  (af (aw (dn ag) cP.nd L Q4)
  (af (aw (dn ag) cP.nd L Q4)
  (af (cz Yt L (cy (bh (g _) a (aa (qv 0) (aa (qv 2) ag)) (by decide) L L)) (aI 5 cP.nd L (Or.inr L) Q4)
  (af (aw (w_add (bh (b _) a (aa (qv 0) (aa (bH 5 L (Or.inr Q4) L L) ag)) (by decide) L L) (qv 3)) cP.nd L Q4)
  (af (b9 (p7 (cn B.JO (aa (pP 1 Q9 L (cy (qv 4)) (cx) (λ_ _ _ _ _=>(aI 0 (show List.Nodup Q9 from by decide +kernel) L Q4 (Or.inr L))) (λ_ _ _ _ _=>(fz (Cd (jR a)) Dj uR (qv 0) (aV (bH 2 L (Or.inr Q4) L L) (bH 6 L (Or.inr Q4) L L) (λ_ _=>rfl)) (by with_unfolding_all rfl))) (λ_ _ _ _ _=>(qv 0)) L L (by decide)) ag)) ah) (au (bu ub)) bK)
  (af (b9 (NC.PZ (jO (xp a (bH 5 L (Or.inr Q4) L L) (qv 2)) (lq (fz Bm El t4 (cn B.JO (aa (aV (bH 1 L (Or.inr Q4) L L) (bH 5 L (Or.inr Q4) L L) (λ_ _=>rfl)) ag)) (cn B.JO (aa (qv 4) ag)) (gF _))))) (au (bu ub)) bK)
  (au (aw (aV (bH 1 L (Or.inr Q4) L L) (bH 5 L (Or.inr Q4) L L) (λ_ _=>rfl)) cP.nd L Q4))))))
  (af (aw (bh (i _) a (aa (qv 0) (aa (qv 2) ag)) (by decide) L L) cP.nd L (Or.inr L))
  (au (bu (q9 (oW a.units) uz (qv 3) (fX 1 Qc L (d6 (w_add (cn B.JO (aa (bH 6 L (Or.inr Q4) L L) ag)) ah) L B.Ke) (cx) (λ_ _ _ _ _=>(aI 0 (show List.Nodup Qc from by decide +kernel) L Q4 (Or.inr L))) (λ_ _ _ _ _=>(jz (bH 7 L (Or.inr Q4) L L) (iq (w_sub (cn B.JO (aa (bH 7 L (Or.inr Q4) L L) ag)) (qv 0))) kD)) L L (by decide)) (gF _))))))))
abbrev kj:Stmt:=top 36
def nH:bt ["_law_script", "_law_book_here", "_law_table", "_law_told", "_law_k"] ["_law_script"] (ai kj):=by constructor<;>first | rfl | decide +kernel
def FY{m:Me}(F:JP K "law" "law" kj f b)(B:Kw mg)(o:Km K mg C D)(n:InAt P w K mg base 6 (gX K C D) 1 1 "Machine" ["self", "book"] br)(j:∀m,MpAt P w K mg base 3 ((gX K C D).at m) 1 "table" Qq cf)(i:∀m,FnAt P w K mg base 4 "_law_adds_up" Q5 ((gX K C D).at m) ft)(g:∀m,FnAt P w K mg base 3 "_law_book" Qb ((gX K C D).at m) iU)(h:∀m,FnAt P w K mg base 5 "_law_tails" Qe ((gX K C D).at m) gQ)(d:∀m,FnAt P w K mg base 5 "counts" Qg ((gX K C D).at m) oF)(e:∀m,FnAt P w K mg base 5 "firsts" Qg ((gX K C D).at m) oZ)(l:∀m,FnAt P w K mg base 4 "places_by" Qg ((gX K C D).at m) cj) :
  FnOk P w K mg base Kv 8 f b ["_law_script"] (MB ((gX K C D).at m) Ay):=fnV F nH L L λ_ _ _ _ _ _ a =>
  (af (aw (bh (g _) a (aa (qv 0) (aa ah ag)) (by decide) L L) nH.nd L Q4)
  (af (aw (oR (j _) a (by decide) (GK n.at a (by decide) (aa (wZ B.OH (aa (qv 1) ag)) ag) IA L L L L) L) nH.nd L Q4)
  (af (aw (bh (l _) a (aa (qv 1) (aa (qv 2) ag)) (by decide) L L) nH.nd L Q4)
  (af (b9 (xp a (bh (d _) a (aa (qv 1) (aa (qv 2) ag)) (by decide) L L) (fX 1 Qd L (cy (qv 3)) (cx) (λ_ _ _ _ _=>(aI 0 (show List.Nodup Qd from by decide +kernel) L Q4 (Or.inr L))) (λ_ _ _ _ _=>(cn B.JO (aa (qv 0) ag))) L L (by decide))) (au (bu ub)) bK)
  (af (b9 (xp a (bh (e _) a (aa (qv 1) (aa (qv 2) ag)) (by decide) L L) (fX 1 Qd L (cy (qv 3)) (cx) (λ_ _ _ _ _=>(aI 0 (show List.Nodup Qd from by decide +kernel) L Q4 (Or.inr L))) (λ_ _ _ _ _=>(EI a B.MQ (aa (qv 0) ag) L L L L L)) L L (by decide))) (au (bu ub)) bK)
  (af (cz Yt L (d6 (cn B.JO (aa (qv 2) ag)) L B.Ke) (aI 4 nH.nd L Q4 Q4)
  (au (b9 (NC.PZ (uE (jL (mY (bh (i _) a (aa (qv 1) (aa (qv 2) (aa (qv 3) (aa (qv 4) ag)))) (by decide) L L))) (uF (jL (mY (bh (h _) a (aa (qv 2) (aa (qv 3) (aa (qv 4) ag))) (by decide) L L)))))) (au (bu ub)) bK)))
  (au (bu (q9 (oW a.units) uz (cn B.JO (aa (qv 3) ag)) (cn B.JO (aa (qv 2) ag)) (gF _))))))))))
end
abbrev gN(K:Wy)(x:Str)(f:On):Prop:=PySem.W.nsIn K mainGlobals x=Y (Y (.ref f))
abbrev gZ(K:Wy)(x:Str):Prop:=PySem.W.nsIn K mainGlobals x=Y J
def all_mk{l:PySem.W.OpenLaw}{K:Wy}(X:K.In h)(G:h.Ns mainGlobals g)(hfa:g "law" = Y (.ref fa))(y:∀ns:Uu,Ay [.scr ns]=Y (.fr,.bl M))(a0:Meth K C "new_node" f0)(F0:JP K "new_node" "Nodes.new_node" eV f0 fd0)(a1:Mk K C f1)(F1:JP K "__init__" "Nodes.__init__" eW f1 fd1)(a2:Meth K C "node_just_behind" f2)(F2:JP K "node_just_behind" "Nodes.node_just_behind" cw f2 fd2)(a3:Meth K C "head_behind" f3)(F3:JP K "head_behind" "Nodes.head_behind" dF f3 fd3)(a4:Meth K C "head_grown" f4)(F4:JP K "head_grown" "Nodes.head_grown" d4 f4 fd4)(a5:Meth K C "numbers_by_node" f5)(F5:JP K "numbers_by_node" "Nodes.numbers_by_node" cA f5 fd5)(a6:Meth K C "row_of" f6)(F6:JP K "row_of" "Nodes.row_of" gC f6 fd6)(a7:Meth K C "table" f7)(F7:JP K "table" "Nodes.table" g9 f7 fd7)(a8:Meth K D "begin" f8)(F8:JP K "begin" "Machine.begin" fJ f8 fd8)(a9:gN K "is_whole" f9)(F9:JP K "is_whole" "is_whole" j9 f9 fd9)(a10:gN K "refuse_no_text" f10)(F10:JP K "refuse_no_text" "refuse_no_text" fi f10 fd10)(a11:gN K "signs_in" f11)(F11:JP K "signs_in" "signs_in" kc f11 fd11)(a12:Meth K D "grow" f12)(F12:JP K "grow" "Machine.grow" gz f12 fd12)(a13:Mk K D f)(l13:K.lookup f=Y ⟨r,p,.func (PySem.W.fnOf "__init__" "Machine.__init__" (dg b6) (bC b6) (ai b6) (.ref T13) x dc13 n an13 TX ct13),j⟩)(c13:PySem.W.codeIn K TX "Machine.__init__" = M)(k13:PySem.W.keepIn K (.ref f)=M)(t13:K.lookup T13=Y SX)(u13:SX.data=.seq #[.none] u)(a14:Meth K D "book" f14)(F14:JP K "book" "Machine.book" gr f14 fd14)(a15:Meth K D "table" f15)(F15:JP K "table" "Machine.table" fN f15 fd15)(a16:gN K "walk" f16)(F16:JP K "walk" "walk" uW f16 fd16)(a17:gN K "refuse_no_stand" f17)(F17:JP K "refuse_no_stand" "refuse_no_stand" eT f17 fd17)(a18:gN K "steps_before" f18)(F18:JP K "steps_before" "steps_before" gw f18 fd18)(a19:gN K "longest" f19)(F19:JP K "longest" "longest" lO f19 fd19)(a20:gN K "words" f20)(F20:JP K "words" "words" qI f20 fd20)(a21:gN K "chain" f21)(F21:JP K "chain" "chain" qS f21 fd21)(a22:gN K "kids" f22)(F22:JP K "kids" "kids" uM f22 fd22)(a23:gN K "places_by" f23)(F23:JP K "places_by" "places_by" jl f23 Z)(a24:gN K "counts" f24)(F24:JP K "counts" "counts" nL f24 U)(a25:gN K "firsts" f25)(F25:JP K "firsts" "firsts" n6 f25 S)(a26:gN K "_law_cell" f26)(F26:JP K "_law_cell" "_law_cell" j5 f26 Q)(a27:gN K "_law_mixed" f27)(F27:JP K "_law_mixed" "_law_mixed" jr f27 P)(a28:gN K "_law_signs" f28)(F28:JP K "_law_signs" "_law_signs" jo f28 O)(a29:gN K "_law_by_digits" f29)(F29:JP K "_law_by_digits" "_law_by_digits" fK f29 N)(a30:gN K "_law_by_mixing" f30)(F30:JP K "_law_by_mixing" "_law_by_mixing" fI f30 H)(a31:gN K "_law_book" f31)(F31:JP K "_law_book" "_law_book" kf f31 E)(a32:gN K "_law_adds_up" f32)(F32:JP K "_law_adds_up" "_law_adds_up" ie f32 A)(a33:gN K "_law_tails" f33)(F33:JP K "_law_tails" "_law_tails" jq f33 z)(a34:gN K "law" b)(l34:K.lookup b=Y ⟨q,o,.func (PySem.W.fnOf "law" "law" (dg kj) (bC kj) (ai kj) .none Tc TR SU T8 RJ TU),i⟩)(c34:PySem.W.codeIn K RJ "law" = M)(k34:PySem.W.keepIn K (.ref b)=M)(QM:gZ K "bool")(QL:gZ K "dict")(Mw:gZ K "enumerate")(Sq:gZ K "int")(L9:gZ K "isinstance")(So:gZ K "len")(QK:gZ K "list")(Sn:gZ K "min")(O8:gZ K "range")(Sl:gZ K "set")(N7:gZ K "sorted")(Sk:gZ K "sum")(O5:gZ K "tuple")(Mc:PySem.W.nsIn K mainGlobals "MOST_SIGNS" = Y (Y (.int 120 Mh)))(Mb:PySem.W.nsIn K mainGlobals "MOST_TEXTS" = Y (Y (.int 8 Mg)))(w_Nodes:gN K "Nodes" C)(JN:Ln K C)(Kh:bq K C "longs")(Ki:bq K C "links")(Kr:bq K C "ways")(Kf:bq K C "texts")(Kj:bq K C "heads")(Kg:bq K C "nodes")(w_Machine:gN K "Machine" D)(xh:Ln K D)(J0:bq K D "longs")(J1:bq K D "links")(J9:bq K D "ways")(JY:bq K D "texts")(J2:bq K D "heads")(JZ:bq K D "nodes")
  : ∃fd:Re,(∀(s:KB)(v:PP),BindsTo s fd ⟨[v],[]⟩ [("_law_script",v)])/\∀base:XAA,K.In base->base.Ns mainGlobals g->FnOk l.prog w K g base Kv 8 fa fd ["_law_script"] (MB (gx0 K) B6):=by
 have e:=hfa.symm.trans (Yz X G a34);cases e;have B:Kw g:=⟨Yd X G QM,Yd X G QL,Yd X G Mw,Yd X G Sq,Yd X G L9,Yd X G So,Yd X G QK,Yd X G Sn,Yd X G O8,Yd X G Sl,Yd X G N7,Yd X G Sk,Yd X G O5,⟨_,Yz X G Mc⟩,⟨_,Yz X G Mb⟩⟩
 have a:Km K g C D:=⟨JN,Yz X G w_Nodes,Kh,Ki,Kr,Kf,Kj,Kg,xh,Yz X G w_Machine,J0,J1,J9,JY,J2,JZ⟩
 refine⟨PySem.W.fnOf "law" "law" (dg kj) (bC kj) (ai kj) .none Tc TR SU T8 RJ TU,λs v=>.of_eq L,λbase _ _=>?_⟩;have aU:=aU l.prog w base F0 a0 B a;have cE:=cE l.prog w base F1 a1 B a aU;have bp:=bp l.prog w base F2 a2 B a aU;have bN:=bN l.prog w base F3 a3 B a aU bp;have bW:=bW l.prog w base F4 a4 B a bN;have bD:=λm=>bD (m:=m) l.prog w base F5 a5 B a;have dk:=λm=>dk (m:=m) l.prog w base F6 a6 B a;have dQ:=λm=>dQ (m:=m) l.prog w base F7 a7 B a bD dk;have cU:=cU l.prog w base F8 a8 B a;have dj:=λm=>dj (m:=m) l.prog w base F9 (Yz X G a9) B a;have cF:=λm=>cF (m:=m) l.prog w base F10 (Yz X G a10) B a dj;have gE:=λm=>gE (m:=m) l.prog w base F11 (Yz X G a11) B a;have dq:=dq l.prog w base F12 a12 B a bW cF gE;have b7:=b7 l.prog w base ⟨⟨_,_,_,_,_,_,_,_,_,_,_,_,rfl,l13,c13,t13,u13⟩,k13⟩ a13 B a cU dq cE;have je:=λm=>je (m:=m) l.prog w base F14 a14 B a;have c7:=λm=>c7 (m:=m) l.prog w base F15 a15 B a dQ;have oJ:=λm=>oJ (m:=m) l.prog w base F16 (Yz X G a16) B a;have aQ:=λm=>aQ (m:=m) l.prog w base F17 (Yz X G a17) B a dj;have dv:=λm=>dv (m:=m) l.prog w base F18 (Yz X G a18) B a;have cB:=λm=>cB (m:=m) l.prog w base F19 (Yz X G a19) B a aQ dv;have kW:=λm=>kW (m:=m) l.prog w base F20 (Yz X G a20) B a cB;have g6:=λm=>g6 (m:=m) l.prog w base F21 (Yz X G a21) B a aQ;have oQ:=λm=>oQ (m:=m) l.prog w base F22 (Yz X G a22) B a aQ;have bM:=λm=>bM (m:=m) l.prog w base F23 (Yz X G a23) B a g6 oJ;have jE:=λm=>jE (m:=m) l.prog w base F24 (Yz X G a24) B a bM;have i3:=λm=>i3 (m:=m) l.prog w base F25 (Yz X G a25) B a bM;have fh:=λm=>fh (m:=m) l.prog w base F26 (Yz X G a26) B a;have bz:=λm=>bz (m:=m) l.prog w base F27 (Yz X G a27) B a;have cH:=λm=>cH (m:=m) l.prog w base F28 (Yz X G a28) B a;have c8:=λm=>c8 (m:=m) l.prog w base F29 (Yz X G a29) B a cH;have cX:=λm=>cX (m:=m) l.prog w base F30 (Yz X G a30) B a bz cH;have gh:=λm=>gh (m:=m) l.prog w base F31 (Yz X G a31) B a c8 cX fh bz;have dP:=λm=>dP (m:=m) l.prog w base F32 (Yz X G a32) B a oQ cB;have fD:=λm=>fD (m:=m) l.prog w base F33 (Yz X G a33) B a g6 cB kW;exact BP L (FY l.prog w base (m:=λ_=>J) (za (st:=kj) l34 c34 k34) B a b7 c7 dP gh fD jE i3 bM) y
end T23
open PySem PySem.W PyProof.Rows PySem.W.X PySem.W.ZRun
set_option maxRecDepth 100000 in
set_option maxHeartbeats 0 in
theorem PySem.Challenge.cw_allparts_k23_whole_links_add_up_holds : PySem.Challenge.rw_allparts_k23_whole_links_add_up.Holds := by
 w_on;o_law;z_head;(case hw=>w_witness2)
 k_fill
 intro w s₀ s₁ mg mb G y fa o pm cd doc dV kV ho hd hcd hD hmg hg args vals as L hpre hlay hrd hwl hlo
 z_open y L KX ZH ZN ZT
 clear ZH ZN ZT;refine VS.Ad (l:=PySem.Challenge.rw_allparts_k23_whole_links_add_up) (k:=8) (x := "_law_script") (g:=VS.B6) rfl rfl ⟨rfl,by decide,by decide⟩ (fun _=>rfl) ?F w s₀ s₁ mg mb G KX fa o pm cd doc dV kV ho hd hcd hD hmg hg args vals as hpre hlay hrd hwl hlo
 case F =>
  intro w mg fa h KX G hmg;apply T23.all_mk KX G hmg T23.AQ
  (case w_Nodes=>unfold T23.gN;k_is)
  (case w_Machine=>unfold T23.gN;k_is)
  all_goals first | (refine' L2.za ?l ?c ?k;(case l=>k_is);(case c=>k_is);(case k=>k_is)) | (refine' ⟨?l,?c,?k⟩;(case l=>k_is);(case c=>k_is);(case k=>k_is)) | (refine' ⟨?l,?c,?k,?d⟩;(case l=>k_is);(case c=>k_is);(case k=>k_is);(case d=>k_is)) | (unfold T23.gN;k_is) | (unfold T23.gZ;k_is) | (unfold L2.bq;k_is) | k_is | exact rfl | kernel_rfl
end
