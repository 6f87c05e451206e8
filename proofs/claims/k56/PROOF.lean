import PyProof.Rows.All
import Wide.All
import OpenK.AllK
import PySem.Challenge.RW_allparts_k56_whole_texts_turned_and_laid
set_option linter.all false
set_option bootstrap.genMatcherCode false
set_option genSizeOf false
noncomputable section
namespace PySem.W.Fast
def tw13533244152856063744:True:=⟨⟩
def tw10420280443350755412:True:=⟨⟩
def tw3897176246027029243:True:=⟨⟩
def tw10823857610994176483:True:=⟨⟩
def tw14380318841585171673:True:=⟨⟩
def tw13798865934873120027:True:=⟨⟩
def tw9148208106932919527:True:=⟨⟩
def tw459480950795088057:True:=⟨⟩
def tw17727437141286880294:True:=⟨⟩
def tw6793473368625292064:True:=⟨⟩
def tw11532583219349680089:True:=⟨⟩
def tw14113957806556048919:True:=⟨⟩
def tw7908882889500896700:True:=⟨⟩
def tw1258919795265159245:True:=⟨⟩
def tw3316038789497995380:True:=⟨⟩
def tw9758421493081379331:True:=⟨⟩
def tw16285873178342675106:True:=⟨⟩
def tw2193600620742511904:True:=⟨⟩
def tw940743201937360885:True:=⟨⟩
def tw10095884837908202175:True:=⟨⟩
def tw1157714801874317718:True:=⟨⟩
def tw16132430531638592604:True:=⟨⟩
def tw742438702700907365:True:=⟨⟩
def tw1629708193779481442:True:=⟨⟩
def tw7380757457033756728:True:=⟨⟩
def tw4044080698814870997:True:=⟨⟩
def tw2993849710871233375:True:=⟨⟩
def tw9279531566316345858:True:=⟨⟩
def tw3612214923761431716:True:=⟨⟩
def tw3703604956959142203:True:=⟨⟩
def tw11951358115232064352:True:=⟨⟩
def tw5004331433682443764:True:=⟨⟩
def tw2977542664313774186:True:=⟨⟩
def tw8921532567368213272:True:=⟨⟩
def tw4642791530829824073:True:=⟨⟩
def tw17544473851716933737:True:=⟨⟩
def tw11797084796248045162:True:=⟨⟩
def tw16447033264791118127:True:=⟨⟩
def tw3806117011513297722:True:=⟨⟩
def tw4078954107983518265:True:=⟨⟩
def tw2045960117827281706:True:=⟨⟩
def tw12777448766446529041:True:=⟨⟩
def tw13848194637426956612:True:=⟨⟩
def tw9871186454166845297:True:=⟨⟩
def tw7260128797519223093:True:=⟨⟩
def tw16092268101776445588:True:=⟨⟩
def tw12832751693882292873:True:=⟨⟩
def tw13458228227786431832:True:=⟨⟩
def tw3138329537033723950:True:=⟨⟩
def tw17403375806393823400:True:=⟨⟩
def tw1473454461049778878:True:=⟨⟩
def tw15681183225892146204:True:=⟨⟩
def tw6560940891429700192:True:=⟨⟩
def tw2652386292025814819:True:=⟨⟩
def tw7344711783598047957:True:=⟨⟩
def tw5976522981323748252:True:=⟨⟩
def tw15513046387518113101:True:=⟨⟩
def tw62998995857703950:True:=⟨⟩
def tw6545027971321211889:True:=⟨⟩
def tw11482202347803501562:True:=⟨⟩
def tw3242923572953066319:True:=⟨⟩
def tw9093243475368755435:True:=⟨⟩
def tw6009628569555417794:True:=⟨⟩
def tw15803853159436624813:True:=⟨⟩
def tw16135254327420973202:True:=⟨⟩
def tw2922398505952969426:True:=⟨⟩
def tw10084999931458759489:True:=⟨⟩
def tw17693976037632285607:True:=⟨⟩
def tw10240412592112849889:True:=⟨⟩
def tw463448303140299983:True:=⟨⟩
def tw17979994387952653333:True:=⟨⟩
def tw15925610389651999594:True:=⟨⟩
def tw1813518318569808617:True:=⟨⟩
def tw6540313278303049041:True:=⟨⟩
def tw8225093140154400464:True:=⟨⟩
def tw5304447892370502248:True:=⟨⟩
def tw7986423050500159854:True:=⟨⟩
def tw8797338020527335536:True:=⟨⟩
def tw7711794811026108915:True:=⟨⟩
def tw10638326838549144074:True:=⟨⟩
def tw13006275169230627054:True:=⟨⟩
def tw3281482614816621532:True:=⟨⟩
def tw15490637331790803126:True:=⟨⟩
def tw8030900603793642171:True:=⟨⟩
def tw17894753377201263825:True:=⟨⟩
def tw1252041036217560885:True:=⟨⟩
def tw12751126040500189151:True:=⟨⟩
def tw5413225237586856295:True:=⟨⟩
def tw14108180871519846436:True:=⟨⟩
def tw16679214357566223003:True:=⟨⟩
def tw405427521952340185:True:=⟨⟩
def tw9077407594130393316:True:=⟨⟩
def tw12379858323388702828:True:=⟨⟩
def tw3634574409575001284:True:=⟨⟩
def tw4687094546148611669:True:=⟨⟩
def tw16800403545963934404:True:=⟨⟩
def tw10887218344932847350:True:=⟨⟩
def tw18144536708409741042:True:=⟨⟩
def tw14849615082074658003:True:=⟨⟩
def tw10153754335404349385:True:=⟨⟩
def tw14602418215179584512:True:=⟨⟩
def tw16771955961426860456:True:=⟨⟩
def tw3576425754755896448:True:=⟨⟩
def tw8157047304835368168:True:=⟨⟩
def tw3522855968946652497:True:=⟨⟩
def tw17974663342819151863:True:=⟨⟩
def tw5438768446839468476:True:=⟨⟩
def tw1391187879573566336:True:=⟨⟩
def tw10819368804257470818:True:=⟨⟩
def tw13878954676802807428:True:=⟨⟩
def tw2563524228629318552:True:=⟨⟩
def tw6713147775053256271:True:=⟨⟩
def tw4188837036319515432:True:=⟨⟩
def tw11753138696989071:True:=⟨⟩
def tw12590810138383437501:True:=⟨⟩
def tw18310470239397765581:True:=⟨⟩
def tw16903254083139818788:True:=⟨⟩
def tw1161188566801886312:True:=⟨⟩
def tw11331818733008902969:True:=⟨⟩
def tw2185917993642578917:True:=⟨⟩
def tw7008405453539304191:True:=⟨⟩
def tw699970403230383850:True:=⟨⟩
def tw2490206722809078081:True:=⟨⟩
def tw4266368101290042677:True:=⟨⟩
def tw11618550301470137624:True:=⟨⟩
def tw7373115129201212527:True:=⟨⟩
def tw17654957734327629600:True:=⟨⟩
def tw469138980889290436:True:=⟨⟩
def tw8501999944024112869:True:=⟨⟩
def tw12197845763295612622:True:=⟨⟩
def tw12725064823071665301:True:=⟨⟩
def tw13878125230702030142:True:=⟨⟩
def tw13116233222242754556:True:=⟨⟩
def tw2369789805981335351:True:=⟨⟩
def tw17510314903285316919:True:=⟨⟩
def tw9888930255627849328:True:=⟨⟩
def tw4024933959055221377:True:=⟨⟩
def tw10621893416935762124:True:=⟨⟩
def tw1039978285136836118:True:=⟨⟩
def tw14029031268033568288:True:=⟨⟩
def tw18357549175371225266:True:=⟨⟩
def tw10841984412162983689:True:=⟨⟩
def tw5068824388736608046:True:=⟨⟩
def tw12346573537790745225:True:=⟨⟩
def tw8106137634364683673:True:=⟨⟩
def tw10554822282507028180:True:=⟨⟩
def tw15082774234300272823:True:=⟨⟩
def tw15545369019686862832:True:=⟨⟩
def tw15154889009881183107:True:=⟨⟩
def tw7399532972334234892:True:=⟨⟩
def tw3695949431619329144:True:=⟨⟩
def tw1541587957863778185:True:=⟨⟩
def tw12420843088646065296:True:=⟨⟩
def tw5266561164269341264:True:=⟨⟩
def tw18118996000815377217:True:=⟨⟩
def tw16731589233862405144:True:=⟨⟩
def tw7133333183562833026:True:=⟨⟩
def tw2475670501553609929:True:=⟨⟩
def tw16586359143117543759:True:=⟨⟩
def tw16189556300291534979:True:=⟨⟩
def tw3289244100172568965:True:=⟨⟩
def tw12756622902701247763:True:=⟨⟩
def tw17887784787694740164:True:=⟨⟩
def tw9029581609508170026:True:=⟨⟩
def tw5203525518657995735:True:=⟨⟩
def tw15515266776158617891:True:=⟨⟩
def tw13926692797573286645:True:=⟨⟩
def tw13828550760668240203:True:=⟨⟩
def tw12646003520313793691:True:=⟨⟩
def tw13757962513700729899:True:=⟨⟩
def tw8569362857112930347:True:=⟨⟩
def tw108046271486004168:True:=⟨⟩
def tw15121026907473137179:True:=⟨⟩
def tw8437889727770255916:True:=⟨⟩
def tw5552004889010203600:True:=⟨⟩
def tw17836801786550890896:True:=⟨⟩
def tw7428296964024522753:True:=⟨⟩
def tw3143843251843733647:True:=⟨⟩
def tw3144762320099411049:True:=⟨⟩
def tw2592576964469333968:True:=⟨⟩
def tw18389175276924748556:True:=⟨⟩
def tw1452008633848751518:True:=⟨⟩
def tw10107331595383943381:True:=⟨⟩
def tw2888159121962295755:True:=⟨⟩
def tw1693882553289331669:True:=⟨⟩
def tw12912372867319659343:True:=⟨⟩
def tw10490697686300583604:True:=⟨⟩
def tw7917296132163089804:True:=⟨⟩
def tw6533863938305452839:True:=⟨⟩
def tw17557964747827430660:True:=⟨⟩
def tw2402529324226025146:True:=⟨⟩
def tw17371715226999970099:True:=⟨⟩
def tw1616113229404730386:True:=⟨⟩
def tw4731969732398642671:True:=⟨⟩
def tw2652438755176792689:True:=⟨⟩
def tw17650493451286828348:True:=⟨⟩
def tw10136510777360736570:True:=⟨⟩
def tw4869294969786362551:True:=⟨⟩
def tw15028826586668225065:True:=⟨⟩
def tw12594763344021581729:True:=⟨⟩
def tw10109358331185379942:True:=⟨⟩
def tw3501565076417460784:True:=⟨⟩
def tw1083962456703316244:True:=⟨⟩
def tw10262418620806103787:True:=⟨⟩
def tw18425605353990603749:True:=⟨⟩
def tw12232753960005503572:True:=⟨⟩
def tw7075442525743776222:True:=⟨⟩
def tw3257511607918760010:True:=⟨⟩
def tw8606041576164553705:True:=⟨⟩
def tw6386060778546867035:True:=⟨⟩
def tw3283304234263500820:True:=⟨⟩
def tw16055971752338265815:True:=⟨⟩
def tw12488593142410272626:True:=⟨⟩
def tw9339350401853402074:True:=⟨⟩
def tw9230663085409028178:True:=⟨⟩
def tw5853460928236066233:True:=⟨⟩
def tw3967951643581103114:True:=⟨⟩
def tw14428560951165638696:True:=⟨⟩
def tw10549633504625150176:True:=⟨⟩
def tw2842913052840264969:True:=⟨⟩
def tw16342593247712292024:True:=⟨⟩
def tw14420498195616620174:True:=⟨⟩
def tw1336543650529314784:True:=⟨⟩
def tw13234463363067036801:True:=⟨⟩
def tw12999809056823015636:True:=⟨⟩
def tw3106674159766023580:True:=⟨⟩
def tw8384164924713829471:True:=⟨⟩
def tw3869503515328137568:True:=⟨⟩
def tw12510294754220835617:True:=⟨⟩
def tw4013216299654455302:True:=⟨⟩
def tw18213437298594300554:True:=⟨⟩
def tw18015577252470666574:True:=⟨⟩
def tw1565314557719751448:True:=⟨⟩
def tw15430812520896714458:True:=⟨⟩
def tw14600090923330520854:True:=⟨⟩
def tw6159631042949120699:True:=⟨⟩
def tw9540360565964810058:True:=⟨⟩
def tw9518893679637651705:True:=⟨⟩
def tw9409808679411877615:True:=⟨⟩
def tw9393222807801197887:True:=⟨⟩
def tw9222920673042920597:True:=⟨⟩
def tw9092187681194580376:True:=⟨⟩
def tw8893253910723970767:True:=⟨⟩
def tw8879687476892949697:True:=⟨⟩
def tw8704425819191329033:True:=⟨⟩
def tw8677547590726212027:True:=⟨⟩
def tw8650040352847126169:True:=⟨⟩
def tw8305744373222036680:True:=⟨⟩
def tw8171814597291683999:True:=⟨⟩
def tw806910620223740099:True:=⟨⟩
def tw7733101106623094516:True:=⟨⟩
def tw7034804169721925005:True:=⟨⟩
def tw6841762327825425050:True:=⟨⟩
def tw6782674492139308303:True:=⟨⟩
def tw6765371603938399953:True:=⟨⟩
def tw6511988883820610250:True:=⟨⟩
def tw6422120784571442334:True:=⟨⟩
def tw6247995123023563371:True:=⟨⟩
def tw6132664366617825750:True:=⟨⟩
def tw5422572375262097137:True:=⟨⟩
def tw5001230985494708181:True:=⟨⟩
def tw4678257716712945235:True:=⟨⟩
def tw436563475094988952:True:=⟨⟩
def tw4264748347378754115:True:=⟨⟩
def tw421423070882113746:True:=⟨⟩
def tw418878785485351892:True:=⟨⟩
def tw4036195881212806885:True:=⟨⟩
def tw3936899910394294775:True:=⟨⟩
def tw3801354759528738944:True:=⟨⟩
def tw3713856830345437032:True:=⟨⟩
def tw2733138648248869833:True:=⟨⟩
def tw2436438249402290414:True:=⟨⟩
def tw2124498270108688904:True:=⟨⟩
def tw207328917135963606:True:=⟨⟩
def tw18245672409377668341:True:=⟨⟩
def tw18010601884164156503:True:=⟨⟩
def tw17897007197993663948:True:=⟨⟩
def tw17428044132554382703:True:=⟨⟩
def tw17117002131649278513:True:=⟨⟩
def tw17060234291051129745:True:=⟨⟩
def tw17013508864789444055:True:=⟨⟩
def tw16966691811979274915:True:=⟨⟩
def tw16939297739705870200:True:=⟨⟩
def tw16921040842078998991:True:=⟨⟩
def tw1592613165761200105:True:=⟨⟩
def tw15623924690384451306:True:=⟨⟩
def tw1526975385126184043:True:=⟨⟩
def tw1492901043299765660:True:=⟨⟩
def tw14691893235725458983:True:=⟨⟩
def tw14674740328566958603:True:=⟨⟩
def tw14646290631105980047:True:=⟨⟩
def tw13971437306719785499:True:=⟨⟩
def tw137569608926482889:True:=⟨⟩
def tw1373192432161057737:True:=⟨⟩
def tw13615779659675650557:True:=⟨⟩
def tw13579154924098182590:True:=⟨⟩
def tw13382384560613779718:True:=⟨⟩
def tw13001909737825402443:True:=⟨⟩
def tw12962059015877061571:True:=⟨⟩
def tw12586138653368161046:True:=⟨⟩
def tw12513679069194250994:True:=⟨⟩
def tw12331364874557560125:True:=⟨⟩
def tw12196265671401766603:True:=⟨⟩
def tw12178870301327632715:True:=⟨⟩
def tw12033688463225240678:True:=⟨⟩
def tw11518172180170186125:True:=⟨⟩
def tw11374238337196421717:True:=⟨⟩
def tw11056461272863049936:True:=⟨⟩
def tw10494743465227068232:True:=⟨⟩
def tw10489503052407652632:True:=⟨⟩
def tw10227125703372812652:True:=⟨⟩
def tw10121665942132202911:True:=⟨⟩
end PySem.W.Fast
open Option renaming some->Z, none->L
open Bool renaming true->O, false->R
theorem q0(h:True:=by first | exact .inl Y | exact .inr Y | assumption):True:=h
theorem q1(h:True:=by decide):True:=h
theorem q2(h:True:=by rfl):True:=h
theorem q3(h:True:=by intro _;rfl):True:=h
theorem q4(h:True:=by with_unfolding_all rfl):True:=h
theorem q5(h:True:=by first | exact Or.inl Y | exact Or.inr (Or.inl Y) | exact Or.inr (Or.inr Y)):True:=h
theorem q6(h:True:=by first | exact Or.inl Y | exact Or.inr Y):True:=h
theorem q7(h:True:=by first | exact .inl Y | exact .inr Y):True:=h
theorem q8(h:True:=by exact rfl):True:=h
set_option hygiene false
local macro_rules|`({`q0,$x})=>`(autoParam $x q0._auto_1)|`({`q1,$x})=>`(autoParam $x q1._auto_1)|`({`q2,$x})=>`(autoParam $x q2._auto_1)|`({`q3,$x})=>`(autoParam $x q3._auto_1)|`({`q4,$x})=>`(autoParam $x q4._auto_1)|`({`q5,$x})=>`(autoParam $x q5._auto_1)|`({`q6,$x})=>`(autoParam $x q6._auto_1)|`({`q7,$x})=>`(autoParam $x q7._auto_1)|`({`q8,$x})=>`(autoParam $x q8._auto_1)
theorem Y.{u}{α:Sort u}{a:α}:a=a:=rfl
open PySem renaming Shared->IR, model->KB, sizeLine->KF, Addr->KM, Value->On, wpAny->PP, starEach->Pv, FuncData->P3, Program->Re, Around->SB, keywordEach->SC, compareOp->SL, Heap->SZ, World->UF, attributeBase->UV, foldedSetIterable->XAA
open PyProof.Rows renaming Keyed->Pi
set_option linter.all false
set_option maxRecDepth 100000
set_option Elab.async false
set_option maxHeartbeats 4000000
abbrev Xf:=PySem.Value->PySem.Shared->Prop
abbrev X7:=List (PySem.Addr×PySem.Obj)
abbrev Wv:=List (List PySem.Addr)
abbrev Wu:=PySem.W.Frag
abbrev Wq:=PySem.Str->Option PySem.Value
abbrev Wg:=List PySem.Addr
abbrev Vz:=List PySem.Value
abbrev Vy:=Option PySem.Value
abbrev Vx:=List Nat
abbrev Vw:=List Int
abbrev Vv:=List (List (List Nat))
abbrev Zn:=@if_pos
abbrev Zl:=@if_neg
abbrev ZV:=@decide_eq_false
open Option renaming bind_eq_some_iff->Zz,map_eq_some_iff->Zt,bind_some->Zq,isSome_iff_exists->Yo,isSome_map->YB,getD_some->Y6,map_some->X0
open List renaming length_map->Zy,mem_cons_of_mem->Zw,length_append->Zv,mem_cons_self->Zu,getElem?_eq_getElem->Zs,getD_eq_getElem?_getD->Zr,mem_cons->Zk,map_cons->Zj,nodup_cons->Zf,length_cons->Ze,getElem?_map->Zd,size_toArray->Zb,mem_map->Za,mem_singleton->ZZ,length_range->ZX,mem_append->ZU,getElem?_eq_some_iff->ZT,nodup_append->ZR,append_nil->ZQ,map_map->ZO,length_singleton->ZN,zip_cons_cons->ZL,mem_range->ZJ,all_eq_true->ZF,mem_append_right->ZE,map_append->ZD,append_assoc->Z0,suffix_refl->Z3,length_drop->Z4,getElem_mem->Z5,find?_cons->Z6,getElem?_eq_none->Z7,getElem?_append_left->Z8,length_set->Z9,mem_of_getElem?->Yz,isSuffixOf_iff_suffix->Yu,getElem?_append_right->Yt,mem_filter->Yp,flatten_append->Ym,flatten_cons->Yl,take_of_length_le->Yi,sublist_cons_self->Yh,getElem?_range->Yf,length_filter_le->Yc,nodup_nil->Yb,idxOf_lt_length_iff->Ya,getElem?_replicate->YY,suffix_nil->YV,nil_append->YU,length_replicate->YT,reverse_reverse->YO,getElem?_set_ne->YN,length_zip->YL,getElem?_zip_eq_some->YF,getElem?_eq_none_iff->YE,pairwise_map->YA,sum_cons->Y0,map_congr_left->Y1,length_reverse->Y2,filterMap_cons->Y3,not_mem_nil->Y8,lookup_cons->Y9,length_eq_zero_iff->Xz,getElem_idxOf->Xv,foldl_cons->Xq,any_cons->Xn,getElem?_toArray->Xm,ext_getElem?->Xk,mem_append_left->Xh,length_take->Xc,append_cons->Xb,drop_eq_getElem_cons->Xa,getD_cons_succ->XY,getElem?_set_self->XF,cons_append->XC,any_eq_true->XB,nil_suffix->X1,filter_sublist->X3,perm_ext_iff_of_nodup->X9,sublist_append_right->Wx,all_cons->Wt,take_prefix->Wk,take_length->Wj,reverse_eq_nil_iff->Wi,drop_suffix->Wh,map_set->We,drop_of_length_le->Wc,drop_eq_nil_of_le->Wb,set_getElem_self->WV,cons_lt_cons_iff->WU,lt_irrefl->WR,pairwise_cons->WH,mem_filterMap->WG,length_range'->WE,findIdx?_cons->WD,getElem?_set->W0,zipIdx_cons->W6,nodup_range->W7,map_fst_zip->W8
open PySem renaming wpAny_bind->Zx,wpAny_pure->Zo,wpAny_holding->Yj,codeAny_builtin->Yg,wpAny_mono->YX,plainId_quiet->YM,wpAny_truthy_bool->YK,wpAny_newObj_type->YJ,wpAny_setState_of->Y4,wpAny_setField->Xs,wpAny_call_entry->Xr,wpAny_Call_Name_kw->Xj,wpAny_passesOwn->Xi,mem_of_lookup->XZ,wpAny_tryCatch->XX,sizeLine_eq->XW,codeAny_mono->XQ,tupleKind_room_in1->XD,wpAny_pyIter_list->XA,builtinLookup_eq_fast->X2,wpAny_askSetting->X4,wpAny_typeNameOfWhole_keyiter->X6,wpAny_updateSeq->Wy,typeIs_str->Wr,wpAny_pyIter_slot->WY,fits_of_scanBound->WX,wpAny_execs_nil->WM,typeLookup_type->WK,wpAny_seqItems->WC,isSubtype_type->WB
open PySem.Heap renaming get?_push_of_some->Zp,get?_push_size->Zg,lt_size->ZY,get?_update_self->Yq,size_push->Yk,get?_update_other->Yd,get?_update_ne->XJ
open Nat renaming le_refl->Zm,ne_of_lt->Zh,lt_of_lt_of_le->ZS,le_trans->ZP,le_of_not_lt->ZI,lt_succ_self->ZG,pos_of_ne_zero->Yy,zero_le->Yw,lt_succ_of_lt->Ys,min_eq_left->YW,lt_irrefl->YR,le_succ->YQ,le_add_right->YI,succ_le_succ->Y7,ne_of_gt->Xy,lt_of_succ_lt_succ->Xw,min_le_right->Xe,le_of_lt->Xd,zero_add->XH,le_of_eq->XG,lt_trans->X5,lt_of_le_of_lt->X8,min_eq_right->Wp,le_of_not_le->Wm,succ_pos->Wf,add_sub_cancel->WI,le_succ_of_le->WA
open Option.some renaming inj->Zi
open Bool renaming false_ne_true->Zc,and_eq_true_iff->ZW,and_eq_true->Yn,eq_iff_iff->Xo
open PySem.W renaming mg_of->ZM,mg_none_of->Z1,kia_one->YZ,plainGet_of->WO,callWith_K->WJ
open PySem.PassesOwn renaming never->ZH
open Array renaming length_toList->Z2,getElem?_toList->Yv,getElem?_eq_getElem->YD,getElem?_eq_none->XE
open PySem.Around renaming under_plainId->Yx
open Int renaming toNat_natCast->Yr,emod_lt_of_pos->YS,emod_nonneg->YC,natCast_nonneg->Wz,ofNat_le->Wa,toNat_of_nonneg->WN,mul_le_mul_of_nonneg_right->W9
open Ne renaming symm->Ye
open List.Perm renaming refl->YG
open PySem.F renaming plainAttrs_list->Y5,plain_min_loop->Xp,slot_dict_keyiterator_next->Xg,type_list_append->XU,slot_list_append->XT,slot_tuple_getattribute->WZ,slot_dict_get->WW
open PySem.Heap.SameBut renaming update->Xu
open PyProof.Rows renaming callWith_type1->Xl
open List.Pairwise renaming imp_of_mem->XS
open List.Nodup renaming sublist->XO
open Prod.mk renaming inj->XM
open PySem.Paired renaming length->XI
open Classical renaming byContradiction->Ww
open PySem.Walks renaming list->WQ
open List.Sublist renaming refl->W3
open PyProof.Rows.F renaming plain_set_update_loop->W4
open PySem.Value renaming isStrOf_shape->W5
section
namespace L2
def ak{G:Prop}(h:∀P:Prop,(G->P)->P):G:=h G id
end L2
namespace VS
noncomputable abbrev Tx:=Vx
inductive T where
 |non | bl (b:Bool) | int (i:Int) | str (s:Tx) | scr (ns:Vw)
 |tup (l:List T) | lst (l:List T) | dct (kd:Nat) (l:List (T×T)) | obj (c:Nat) (fs:List (Nat×T))
 deriving Inhabited
abbrev Vr:=List T
noncomputable def fN:Nat:=16777216
mutual
def IS:T->Bool
 |.lst _=>R
 |.dct _ _=>R
 |.obj _ _=>R
 |.tup l=>iN l
 |_=>O
def iN:Vr->Bool
 |[]=>O
 |t :: r=>IS t&&iN r
end
mutual
@[simp] def eqT:T->T->Bool
 |.non,.non=>O
 |.bl a,.bl b=>a==b
 |.bl a,.int i=>(if a then 1 else 0)==i
 |.int i,.bl a=>i==(if a then 1 else 0)
 |.int i,.int j=>i==j
 |.str s,.str t=>s==t
 |.tup a,.tup b=>zt a b
 |.lst a,.lst b=>zt a b
 |_,_=>R
def zt:Vr->Vr->Bool
 |[],[]=>O
 |a :: d,b :: bs=>eqT a b&&zt d bs
 |_,_=>R
end
noncomputable def KL:Nat->T->Bool
 |_,.non=>O
 |_,.bl _=>O
 |_,.int _=>O
 |_,.str _=>O
 |n+1,.tup l=>l.all (KL n)
 |n+1,.lst l=>l.all (KL n)
 |_,_=>R
inductive Md where | fr | pu | bo
 deriving DecidableEq,Inhabited
noncomputable def Md.join:Md->Md->Md
 |.bo,_=>.bo
 |_,.bo=>.bo
 |.pu,_=>.pu
 |_,.pu=>.pu
 |.fr,.fr=>.fr
inductive Cell where | pu (t:T) | ow (t:T)
 deriving Inhabited
abbrev Vu:=Option Cell
noncomputable abbrev Env:=List (Vu)
noncomputable abbrev Val:=Md×T
abbrev Vs:=Option Val
abbrev Vt:=List Val
abbrev Ex:=Env->Vs
abbrev Jj:=Env->Option (Vt)
@[simp] def up(m:Md)(t:T):Val:=(if IS t then .fr else m,t)
noncomputable def Ds:T->Bool
 |.lst _=>O
 |.dct _ _=>O
 |.obj _ _=>O
 |_=>R
@[simp] def cellOf:Val->Vu
 | (.fr,t)=>Z (if Ds t then .ow t else .pu t)
 | (.pu,t)=>Z (.pu t)
 | (.bo,_)=>L
inductive Out where | nx (U:Env) | rt (v:Val) (U:Env) | bk (U:Env) | ct (U:Env)
abbrev Sx:=Env->Option Out
@[simp] noncomputable def eC(t:T)(_:Env):Vs:=Z (.fr,t)
abbrev Q3(i:Int):Ex:=eC (.int i)
@[simp] def aa(i:Nat)(U:Env):Vs:=match U[i]? with
 |some (some (.pu t))=>Z (up .pu t)
 |some (some (.ow t))=>Z (.bo,t)
 |_=>L
@[simp] noncomputable def e1(f:Val->Vs)(a:Ex)(U:Env):Vs:=(a U).bind f
@[simp] noncomputable def e2(f:Val->Val->Vs)(a b:Ex)(U:Env):Vs:=(a U).bind λx=>(b U).bind λy=>f x y
@[simp] noncomputable def ah(_:Env):Option (Vt):=Z []
@[simp] noncomputable def ae(a:Ex)(r:Jj)(U:Env):Option (Vt):=(a U).bind λx=>(r U).bind λb=>Z (x :: b)
@[simp] noncomputable def eN(f:Vt->Vs)(a:Jj)(U:Env):Vs:=(a U).bind f
@[simp] def c6:Vt->Md
 |[]=>.fr
 |v :: r=>v.1.join (c6 r)
@[simp] noncomputable def trees(l:Vt):Vr:=l.map (·.2)
def Lu(m:Md)(l:Vr):Vs:=if l.length<=fN then Z (if iN l then .fr else m,.lst l) else L
@[simp] def dX(a:Jj)(U:Env):Vs:=(a U).bind λl=>Lu (c6 l) (trees l)
def wH(l:Vt):Vs:=if l.length<=fN then Z (up (c6 l) (.tup (trees l))) else L
@[simp] def nA(a:Jj)(U:Env):Vs:=(a U).bind wH
def dput(l:List (T×T))(k v:T):List (T×T):=if l.any (λp=>eqT p.1 k) then l.map (λp=>if eqT p.1 k then (p.1,v) else p) else l++[(k,v)]
noncomputable def iK:T->Bool
 |.int _=>O
 |.str _=>O
 |_=>R
def keyOk:Nat->T->Bool
 |0,t=>iK t
 |1,.tup l=>l.all iK
 |_,_=>R
noncomputable def pairs:List (Ex×Ex)->Env->Option (List (Val×Val))
 |[],_=>Z []
 | (a,b) :: r,U=>(a U).bind λx=>(b U).bind λy=>(pairs r U).map ((x,y) :: ·)
def sP(a:Nat)(b:List (Ex×Ex))(U:Env):Vs:=(pairs b U).bind λl=>if l.all (λp=>keyOk a p.1.2)/\l.length<=15 then
 Z (c6 (l.map (·.2)),.dct a (l.foldl (λd p=>dput d p.1.2 p.2.2) [])) else L
noncomputable def Nj:T->Option Bool
 |.bl b=>Z b
 |.int i=>Z (i != 0)
 |.str s=>Z (!s.isEmpty)
 |.lst l=>Z (!l.isEmpty)
 |.tup l=>Z (!l.isEmpty)
 |.dct 0 l=>Z (!l.isEmpty)
 |.non=>Z R
 |_=>L
@[simp] noncomputable def i4(a b:Ex)(U:Env):Vs:=(a U).bind λx=>match x.2 with
 |.bl true=>b U
 |.bl false=>Z (.fr,.bl R)
 |_=>L
@[simp] noncomputable def NA(a b:Ex)(U:Env):Vs:=(a U).bind λx=>match x.2 with
 |.bl true=>Z (.fr,.bl O)
 |.bl false=>b U
 |_=>L
@[simp] noncomputable def qF(a:Ex)(U:Env):Vs:=(a U).bind λx=>match x.2 with
 |.bl b=>Z (.fr,.bl (!b))
 |_=>L
@[simp] def Si(c a b:Ex)(U:Env):Vs:=(c U).bind λx=>(Nj x.2).bind λt=>if t then a U else b U
noncomputable def Oo:T->Bool
 |.non=>O
 |_=>R
@[simp] def uF(a:Ex)(U:Env):Vs:=(a U).bind λx=>Z (.fr,.bl (Oo x.2))
@[simp] def eY(a:Ex)(U:Env):Vs:=(a U).bind λx=>Z (.fr,.bl (!Oo x.2))
@[simp] noncomputable def jx(f g:Val->Val->Vs)(a b c:Ex)(U:Env):Vs:=(a U).bind λx=>(b U).bind λy=>(f x y).bind λr=>match r.2 with
 |.bl true=>(c U).bind λz=>g y z
 |.bl false=>Z (.fr,.bl R)
 |_=>L
@[simp] noncomputable def int?:T->Option Int
 |.int i=>Z i
 |_=>L
def bJ:Val->Val->Vs
 | (_,.int i),(_,.int j)=>Z (.fr,.int (i+j))
 | (_,.str s),(_,.str t)=>if s.length+t.length<=fN then Z (.fr,.str (s++t)) else L
 | (m,.lst s),(n,.lst t)=>Lu (m.join n) (s++t)
 |_,_=>L
@[simp] noncomputable def mP:Val->Val->Vs
 | (_,.int i),(_,.int j)=>Z (.fr,.int (i-j))
 |_,_=>L
noncomputable def Oa:Int:=4611686018427387904
noncomputable def RJ:Int:=18446744073709551616
def mH:Val->Val->Vs
 | (_,.int i),(_,.int j)=>if (-RJ<i/\i<RJ)\/(-RJ<j/\j<RJ) then Z (.fr,.int (i*j)) else L
 |_,_=>L
noncomputable def cj:Val->Val->Vs
 | (_,.int i),(_,.int j)=>if 0<j/\j<1073741824 then Z (.fr,.int (i/j)) else L
 |_,_=>L
noncomputable def oMod:Val->Val->Vs
 | (_,.int i),(_,.int j)=>if 0<j then Z (.fr,.int (i%j)) else L
 |_,_=>L
noncomputable def KG:Tx->Tx->Bool
 |[],[]=>R
 |[],_ :: _=>O
 |_ :: _,[]=>R
 |a :: d,b :: bs=>if a<b then O else if b<a then R else KG d bs
@[simp] def oLt:Val->Val->Vs
 | (_,.int i),(_,.int j)=>Z (.fr,.bl (decide (i<j)))
 | (_,.str s),(_,.str t)=>Z (.fr,.bl (KG s t))
 |_,_=>L
@[simp] def oLe:Val->Val->Vs
 | (_,.int i),(_,.int j)=>Z (.fr,.bl (decide (i<=j)))
 | (_,.str s),(_,.str t)=>Z (.fr,.bl (!KG t s))
 |_,_=>L
@[simp] def QC(a b:Val):Vs:=oLt b a
@[simp] def NN(a b:Val):Vs:=oLe b a
@[simp] def oEq(a b:Val):Vs:=if KL 60 a.2/\KL 60 b.2 then Z (.fr,.bl (eqT a.2 b.2)) else L
@[simp] def Kr(a b:Val):Vs:=if KL 60 a.2/\KL 60 b.2 then Z (.fr,.bl (!eqT a.2 b.2)) else L
def eX(l:List (T×T))(k:T):Option T:=(l.find? λp=>eqT p.1 k).map (·.2)
noncomputable def JL(n:Nat)(i:Int):Option Nat:=if 0<=i then (if i<n then Z i.toNat else L) else (if 0<=i+n then Z (i+n).toNat else L)
@[simp] def sub(m:Md)(t:T):Val:=up m t
@[simp] def aA:Val->Val->Vs
 | (m,.lst l),(_,.int i)=>(JL l.length i).bind λk=>(l[k]?).map (sub m)
 | (m,.tup l),(_,.int i)=>(JL l.length i).bind λk=>(l[k]?).map (sub m)
 | (_,.scr l),(_,.int i)=>(JL l.length i).bind λk=>(l[k]?).map λn=>(.fr,.int n)
 | (_,.str l),(_,.int i)=>(JL l.length i).bind λk=>(l[k]?).map λn=>(.fr,.str [n])
 |_,_=>L
noncomputable def clip(n:Nat)(i:Int):Nat:=if i<0 then (i+n).toNat else min i.toNat n
def cut{α:Type}(l:List α)(a b:Option Int):List α :=
 let lo:=match a with | none=>0 | some i=>clip l.length i
 let d:=match b with | none=>l.length | some i=>clip l.length i
 (l.drop lo).take (d-lo)
@[simp] def S5(v:Val)(a b:Option Int):Vs:=match v with
 | (_,.str s)=>Z (.fr,.str (cut s a b))
 | (m,.lst l)=>Lu m (cut l a b)
 |_=>L
@[simp] def o6(c:Option Ex)(U:Env):Option (Option Int):=match c with
 |none=>Z L
 |some e=>(e U).bind λy=>(int? y.2).map Z
@[simp] def MC(a:Ex)(b d:Option Ex)(U:Env):Vs:=(a U).bind λx=>(o6 b U).bind λl=>(o6 d U).bind λh=>S5 x l h
noncomputable def IB:T->Option Nat
 |.lst l=>Z l.length
 |.tup l=>Z l.length
 |.str l=>Z l.length
 |.scr l=>Z l.length
 |.dct 0 l=>Z l.length
 |_=>L
@[simp] def bE:Vt->Vs
 |[x]=>(IB x.2).map λn=>(.fr,.int n)
 |_=>L
@[simp] noncomputable def tH:Vt->Vs
 |[(_,.int i),(_,.int j)]=>Z (.fr,.int (if j<i then j else i))
 |_=>L
@[simp] noncomputable def so:Vt->Vs
 |[(_,.int i),(_,.int j)]=>Z (.fr,.int (if j > i then j else i))
 |_=>L
noncomputable def iX:Vr->Option (Vw)
 |[]=>Z []
 |.int i :: r=>(iX r).map (i :: ·)
 |_=>L
noncomputable def strs?:Vr->Option (List Tx)
 |[]=>Z []
 |.str i :: r=>(strs? r).map (i :: ·)
 |_=>L
def yB:Vt->Vs
 |[(_,.lst l)]=>(iX l).bind λa=>Z (.fr,.int a.sum)
 |_=>L
@[simp] def Dn:Vt->Vs
 |[(m,.lst l)]=>Lu m l
 |[(m,.tup l)]=>Lu m l
 |_=>L
def lq:Vt->Vs
 |[(m,.lst l)]=>if l.length<=fN then Z (up m (.tup l)) else L
 |_=>L
def qb(x:Tx):List Tx->List Tx
 |[]=>[x]
 |y :: r=>if KG y x then y :: qb x r else x :: y :: r
def eQ(l:List Tx):List Tx:=l.foldr qb []
noncomputable def dedup:List Tx->List Tx
 |[]=>[]
 |x :: r=>x :: (dedup r).filter (· ≠ x)
inductive Ty where | int | str | bool | list | tuple | dict
@[simp] noncomputable def se:Ty->T->Bool
 |.int,.int _=>O
 |.int,.bl _=>O
 |.bool,.bl _=>O
 |.str,.str _=>O
 |.list,.lst _=>O
 |.tuple,.tup _=>O
 |.dict,.dct _ _=>O
 |_,_=>R
@[simp] noncomputable def vF:T->Bool
 |.obj _ _=>R
 |.scr _=>R
 |.dct 0 _=>O
 |.dct 1 _=>O
 |.dct _ _=>R
 |_=>O
@[simp] def Sh(t:Ty)(a:Ex)(U:Env):Vs:=(a U).bind λx=>if vF x.2 then Z (.fr,.bl (se t x.2)) else L
noncomputable def total:List Tx->Nat
 |[]=>0
 |x :: r=>x.length+total r
noncomputable def dQ(a:Tx):List Tx->Tx
 |[]=>[]
 |[x]=>x
 |x :: r=>x++a++dQ a r
def kL:Val->Vt->Vs
 | (_,.str sep),[(_,.lst l)]=>(strs? l).bind λa=>if total a+a.length*sep.length<=fN then Z (.fr,.str (dQ sep a)) else L
 |_,_=>L
noncomputable def pP:Val->Vt->Vs
 | (_,.str s),[(_,.str t)]=>Z (.fr,.bl (t.isSuffixOf s))
 |_,_=>L
@[simp] noncomputable def eM(f:Val->Vt->Vs)(o:Ex)(b:Jj)(U:Env):Vs:=(o U).bind λx=>(b U).bind λa=>f x a
noncomputable abbrev Fn:=Vr->Vs
@[simp] def aH(g:Fn)(b:Jj)(U:Env):Vs:=(b U).bind λa=>(g (trees a)).bind λr=>match r with
 | (.fr,t)=>Z (.fr,t)
 | (_,t)=>Z ((Md.pu).join (c6 a),t)
abbrev LF:=Env->Option (Md×Vr)
noncomputable def CZ:Val->Option (Md×Vr)
 | (m,.lst l)=>Z (m,l)
 | (m,.tup l)=>Z (m,l)
 | (_,.str l)=>Z (.fr,l.map λc=>.str [c])
 |_=>L
@[simp] def dS(a:Ex)(U:Env):Option (Md×Vr):=(a U).bind CZ
noncomputable def rng(a:Int)(n:Nat):Vr:=(List.range n).map λ(k:Nat)=>T.int (a+k)
def di(a:Ex)(U:Env):Option (Md×Vr):=(a U).bind λx=>(int? x.2).bind λj=>if -Oa<=j/\j<Oa then Z (.fr,rng 0 j.toNat) else L
def iO(a b:Ex)(U:Env):Option (Md×Vr):=(a U).bind λx=>(b U).bind λy=>(int? x.2).bind λi=>(int? y.2).bind λj =>
 if (-Oa<=i/\i<Oa)/\-Oa<=j/\j<Oa then Z (.fr,rng i (j-i).toNat) else L
noncomputable def fW(k:Nat):Vr->Vr
 |[]=>[]
 |t :: r=>.tup [.int k,t] :: fW (k+1) r
def Gj:Val->Option (Md×Vr)
 | (m,.lst l)=>Z (m,fW 0 l)
 |_=>L
@[simp] def sN(a:Ex)(U:Env):Option (Md×Vr):=(a U).bind Gj
abbrev Tg:=T->Env->Option Env
@[simp] noncomputable def aS(i:Nat)(t:T)(U:Env):Option Env:=if i<U.length then Z (U.set i (Z (.pu t))) else L
noncomputable def Cu:List Tg->Vr->Env->Option Env
 |[],[],U=>Z U
 |g :: b,t :: a,U=>(g t U).bind λd=>Cu b a d
 |_,_,_=>L
@[simp] def nr(a:List Tg)(t:T)(U:Env):Option Env:=match t with
 |.tup l=>Cu a l U
 |_=>L
@[simp] def SU(m:Md)(l:Vr):Bool:=match m with
 |.bo=>iN l
 |_=>O
def jV(e:Tg)(a:Option Ex)(d:Ex)(U:Env):Vr->Option (Vt)
 |[]=>Z []
 |t :: r=>(e t U).bind λf=>(match a with | none=>some true | some c=>(c f).bind λx=>Nj x.2).bind λb =>
  if b then (d f).bind λv=>(jV e a d U r).map (v :: ·) else jV e a d U r
def bU(k:Nat)(e:Tg)(f:LF)(a:Option Ex)(b:Ex)(U:Env):Vs:=(f U).bind λ(m,l)=>if SU m l then
 (jV e a b (List.replicate k L++U) l).bind λd=>Lu (c6 d) (trees d) else L
@[simp] noncomputable def d8(U:Env):Option Out:=Z (.nx U)
@[simp] noncomputable def aq(a b:Sx)(U:Env):Option Out:=(a U).bind λo=>match o with
 |.nx d=>b d
 |o=>Z o
@[simp] def jt(i:Nat)(e:Ex)(U:Env):Option Out:=(e U).bind λv=>(cellOf v).bind λc=>if i<U.length then Z (.nx (U.set i (Z c))) else L
@[simp] noncomputable def aC(i:Nat)(e:Ex)(U:Env):Option Out:=(e U).bind λv=>match v.1 with
 |.bo=>L
 |_=>if i<U.length then Z (.nx (U.set i (Z (.pu v.2)))) else L
@[simp] noncomputable def dk(e:Ex)(U:Env):Option Out:=(e U).bind λv=>Z (.rt (match v.1 with | .bo=>.pu | m=>m,v.2) U)
@[simp] def fU(i:Nat)(U:Env):Option Out:=match U[i]? with
 |some (some (.ow t))=>Z (.rt (.fr,t) (U.set i L))
 |some (some (.pu t))=>Z (.rt (up .pu t) U)
 |_=>L
@[simp] def JI(c:Ex)(a b:Sx)(U:Env):Option Out:=(c U).bind λx=>(Nj x.2).bind λt=>if t then a U else b U
noncomputable def forL(d:Tg)(a:Sx):Vr->Env->Option Out
 |[],U=>Z (.nx U)
 |t :: r,U=>(d t U).bind λe=>(a e).bind λo=>match o with
  |.nx b=>forL d a r b
  |.ct b=>forL d a r b
  |.bk b=>Z (.nx b)
  |.rt v b=>Z (.rt v b)
@[simp] noncomputable def VA:Md->Bool
 |.bo=>R
 |_=>O
@[simp] def h9(b:Tg)(d:LF)(a:Sx)(U:Env):Option Out:=(d U).bind λ(m,l)=>if VA m then forL b a l U else L
def dP(c:Ex)(a:Sx):Nat->Env->Option Out
 |0,_=>L
 |n+1,U=>(c U).bind λx=>(Nj x.2).bind λt=>if t then (a U).bind λo=>match o with
  |.nx b=>dP c a n b
  |.ct b=>dP c a n b
  |.bk b=>Z (.nx b)
  |.rt v b=>Z (.rt v b)
  else Z (.nx U)
noncomputable def uZ:Nat:=1000000
def j6(c:Ex)(a:Sx)(U:Env):Option Out:=dP c a uZ U
@[simp] noncomputable def xN(i:Nat)(U:Env):Option Out:=match U[i]? with
 |some (some (.ow t))=>Z (.nx (U.set i (Z (.pu t))))
 |some (some (.pu _))=>Z (.nx U)
 |_=>L
inductive Lz where | fld (k:Nat) | ix (e:Ex) | un
inductive Ky where | fld (k:Nat) | at (t:T) | un
def keys:List Lz->Env->Option (List Ky)
 |[],_=>Z []
 |.fld k :: r,U=>(keys r U).map (.fld k :: ·)
 |.ix e :: r,U=>(e U).bind λx=>(keys r U).map (.at x.2 :: ·)
 |.un :: r,U=>(keys r U).map (.un :: ·)
noncomputable def Io(a:List (Nat×T))(k:Nat):Option T:=a.lookup k
noncomputable def ID(a:List (Nat×T))(k:Nat)(v:T):List (Nat×T):=if a.any (λp=>p.1==k) then a.map (λp=>if p.1==k then (p.1,v) else p) else a++[(k,v)]
def Ci{α:Type}(f:T->Option (T×α)):List Ky->T->Option (T×α)
 |[],t=>f t
 |.fld k :: r,.obj c fs=>(Io fs k).bind λx=>(Ci f r x).map λ(y,a)=>(.obj c (ID fs k y),a)
 |.at (.int i) :: r,.lst l=>(JL l.length i).bind λj=>(l[j]?).bind λx=>(Ci f r x).map λ(y,a)=>(.lst (l.set j y),a)
 |.at k :: r,.dct d l=>(eX l k).bind λx=>(Ci f r x).map λ(y,a)=>(.dct d (dput l k y),a)
 |_,_=>L
abbrev Xx:=Env->Option (Val×Env)
@[simp] noncomputable def xP(e:Ex)(U:Env):Option (Val×Env):=(e U).map λv=>(v,U)
@[simp] def jS(i:Nat)(a:List Lz)(f:T->Vt->Option (T×Val))(g:Jj)(U:Env):Option (Val×Env):=match U[i]? with
 |some (some (.ow t))=>(keys a U).bind λe=>(g U).bind λb=>(Ci (λx=>f x b) e t).map λ(d,v)=>(v,U.set i (Z (.ow d)))
 |_=>L
@[simp] noncomputable def fit(v:Val):Option T:=match v.1 with
 |.fr=>Z v.2
 |_=>L
def aK:T->Vt->Option (T×Val)
 |.lst l,[v]=>(fit v).bind λt=>if l.length<fN then Z (.lst (l++[t]),(.fr,.non)) else L
 |_,_=>L
def fD:T->Vt->Option (T×Val)
 |.lst l,[v]=>(fit v).bind λt=>match t with
  |.lst r=>if l.length+r.length<=fN then Z (.lst (l++r),(.fr,.non)) else L
  |_=>L
 |_,_=>L
@[simp] noncomputable def sX(x:Xx)(U:Env):Option Out:=(x U).map λr=>.nx r.2
@[simp] noncomputable def fn(d e:Nat)(a:Sx):Fn:=λb=>if b.length=d then
 (a (b.map (λt=>Z (.pu t))++List.replicate (e-d) L)).bind λo=>match o with
  |.rt v _=>Z v
  |.nx _=>Z (.fr,.non)
  |_=>L else L
def um{s t:Tx}(h:s.length+t.length<=16777216):bJ (m,.str s) (n,.str t)=Z (.fr,.str (s++t)):=Zn h
def mE{m n:Md}{i j:Int}(h:-18446744073709551616<i/\i<18446744073709551616):mH (m,.int i) (n,.int j)=Z (.fr,.int (i*j)):=Zn (.inl h)
def iy{m n:Md}{i j:Int}(h:0<j/\j<1073741824):cj (m,.int i) (n,.int j)=Z (.fr,.int (i/j)):=Zn h
def dG{m n:Md}{i j:Int}(h:0<j):oMod (m,.int i) (n,.int j)=Z (.fr,.int (i%j)):=Zn h
def d2{l:Vr}(h:l.length<16777216):aK (.lst l) [(.fr,t)]=Z (.lst (l++[t]),(.fr,.non)):=by
 exact Zn h
def uL{l r:Vr}(h:l.length+r.length<=16777216):fD (.lst l) [(.fr,.lst r)]=Z (.lst (l++r),(.fr,.non)):=by
 exact Zn h
def iU{m:Md}{j:Int}(e:a U=Z (m,.int j))(h:-4611686018427387904<=j/\j<4611686018427387904):di a U=Z (.fr,rng 0 j.toNat):=by
 simp only[di,e,Zq,int?];exact Zn h
def lV{l:Vr}(h:l.length<=16777216):Lu m l=Z (if iN l then .fr else m,.lst l):=Zn h
def dH{b:Tg}{r:Vr}{U1:Env}(f:b t U=Z U1)(e:a U1=Z (.nx d)):forL b a (t :: r) U=forL b a r d:=by
 simp[forL,f,e]
def Bs(g:b t U=Z e)(f:a e=Z (.rt v d)):forL b a (t :: r) U=Z (.rt v d):=by
 simp[forL,g,f]
theorem strs_map{α:Type}(f:α->Tx):∀l:List α,strs? (l.map λx=>T.str (f x))=Z (l.map f)
 |[]=>rfl
 |a :: r=>congrArg (Option.map (f a :: ·)) (strs_map f r)
theorem ints_map{α:Type}(f:α->Int):∀l:List α,iX (l.map λx=>T.int (f x))=Z (l.map f)
 |[]=>rfl
 |a :: r=>congrArg (Option.map (f a :: ·)) (ints_map f r)
theorem j5:∀a:List Tx,dQ [] a=a.flatten
 |[]=>rfl
 |[x]=>by simp[dQ]
 |x :: y :: r=>by
  have:=j5 (y :: r);simp[dQ]at this ⊢;exact this
theorem oo:∀a:List Tx,total a=a.flatten.length
 |[]=>rfl
 |x :: r=>by simp[total,oo r]
def xO{m n:Md}(e:strs? l=Z a)(b:a.flatten.length<=16777216):kL (m,.str []) [(n,.lst l)]=Z (.fr,.str a.flatten):=by
 simp only[kL,Zq,e,j5];refine Zn ?_;rw[oo];show _<=16777216;simpa using b
def lI{α:Type}(l:List α):(l.map λx=>[x]).flatten=l:=by
 induction l with
 |nil=>rfl
 |cons a r b=>rw[Zj,Yl,b];rfl
def lx(n:Nat):rng 0 n=(List.range n).map λ(k:Nat)=>T.int (k:Int):=by
 unfold rng;simp
theorem jh{α:Type}(f:α->T)(h:∀x,IS (f x)=O):∀l:List α,iN (l.map f)=O
 |[]=>rfl
 |a :: r=>ZW.mpr ⟨h a,jh f h r⟩
theorem qo{α:Type}(g:α->T)(f:α->Val):∀l:List α,(∀a∈l,∃e,i (g a) U=Z e/\d e=Z (f a))->jV i L d U (l.map g)=Z (l.map f)
 |[],_=>rfl
 |a :: r,h=>by
  obtain⟨e,m,j⟩:=h a Zu;simp[jV,m,j,qo g f r λb hb=>h b (Zw _ hb)]
theorem kC{α:Type}{c:Ex}(g:α->T)(p:α->Bool)(f:α->Val):∀l:List α,(∀a∈l,∃i x,j (g a) U=Z i/\c i=Z x/\Nj x.2=Z (p a)/\(p a=O->d i=Z (f a))) →
  jV j (Z c) d U (l.map g)=Z ((l.filter p).map f)
 |[],_=>rfl
 |a :: r,h=>by
  obtain⟨i,x,q,o,n,s⟩:=h a Zu;have m:=kC (c:=c) g p f r λb hb=>h b (Zw _ hb);cases e:p a with
  |true=>simp[-Nj,jV,q,o,n,e,s e,m]
  |false=>simp[-Nj,jV,q,o,n,e,m]
theorem oS{α:Type}(f:α->T):∀l:List α,c6 (l.map λa=>(Md.fr,f a))=.fr
 |[]=>rfl
 |a :: r=>congrArg (Md.join .fr) (oS f r)
def qq{α:Type}(f:α->Val)(l:List α):trees (l.map f)=l.map λa=>(f a).2:=by simp
def cu{α:Type}{k:Nat}{tg:Tg}{it:LF}{elt:Ex}{U:Env}{m:Md}(g:α->T)(f:α->T)(l:List α)(i:it U=Z (m,l.map g))(e:SU m (l.map g)=O)(d:l.length<=16777216)(h:∀a∈l,∃b,tg (g a) (List.replicate k L++U)=Z b/\elt b=Z (.fr,f a)):bU k tg it L elt U=Z (.fr,.lst (l.map f)):=by
 simp only[bU,i,Zq];rw[Zn e,qo g (λa=>(Md.fr,f a)) l h];simp only[Zq,oS,qq];rw[lV (by rw[Zy];exact d)];simp
def fX{α:Type}{k:Nat}{tg:Tg}{it:LF}{c elt:Ex}{U:Env}{m:Md}(g:α->T)(p:α->Bool)(f:α->T)(l:List α)(i:it U=Z (m,l.map g))(e:SU m (l.map g)=O)(d:l.length<=16777216)(h:∀a∈l,∃b x,tg (g a) (List.replicate k L++U)=Z b/\c b=Z x/\Nj x.2=Z (p a)/\(p a=O->elt b=Z (.fr,f a))):bU k tg it (Z c) elt U=Z (.fr,.lst ((l.filter p).map f)):=by
 simp only[bU,i,Zq];rw[Zn e,kC g p (λa=>(Md.fr,f a)) l h];simp only[Zq,oS,qq];rw[lV (by rw[Zy];exact ZP (Yc _ _) d)];simp
def zd{α:Type}{m n:Md}(f:α->T)(l:List α)(i:Int)(d:α)(g:0<=i)(e:i<l.length)(a:IS (f (l.getD i.toNat d))=O):aA (m,.lst (l.map f)) (n,.int i)=Z (.fr,f (l.getD i.toNat d)):=by
 have b:i.toNat<l.length:=by lia
 simp only[Zr,Zs b,Y6]at a ⊢;simp[JL,g,e,b,a]
end VS
end
section
namespace L2
open PySem PySem.Spec PyProof.Rows
noncomputable abbrev Key:=Sum Int Str
def mW:Key->On->Bool
 |.inl k,v=>Value.isInt k v
 |.inr x,v=>Value.isStrOf x v
noncomputable def GR(w:UF):Key->Int
 |.inl k=>hashInt k
 |.inr x=>hashStr w x
theorem bS:∀{k:Key}{v:On},mW k v=O->(∃i t,k=Sum.inl i/\v=Value.int i t)\/(∃x t,k=Sum.inr x/\v=Value.str x t)
 |.inl i,v,h=>by
  obtain⟨t,e⟩:=Value.isInt_shape (k:=i) (v:=v) h;exact .inl ⟨i,t,rfl,e⟩
 |.inr x,v,h=>by
  obtain⟨t,e⟩:=W5 (x:=x) (v:=v) h;exact .inr ⟨x,t,rfl,e⟩
def xE(i:Int)(t:Tok):mW (.inl i) (.int i t)=O:=by simp[mW,Value.isInt]
def xm(x:Str)(t:Tok):mW (.inr x) (.str x t)=O:=by simp[mW,Value.isStrOf]
def D5(a b:Int):decide ((Sum.inl a:Key)=Sum.inl b)=(a==b):=by
 by_cases e:a=b
 ·subst e;simp
 ·rw[ZV (λq=>e (Sum.inl.inj q))];exact(beq_eq_false_iff_ne.mpr e).symm
def FL(a b:Str):decide ((Sum.inr a:Key)=Sum.inr b)=decide (a=b):=by
 by_cases e:a=b
 ·subst e;simp
 ·rw[ZV (λq=>e (Sum.inr.inj q)),ZV e]
def Fe(a:Int)(b:Str):decide ((Sum.inl a:Key)=Sum.inr b)=R:=ZV (λq=>nomatch q)
def Gc(a:Str)(b:Int):decide ((Sum.inr a:Key)=Sum.inl b)=R:=ZV (λq=>nomatch q)
def aZ(d:Re)(w:UF):PySem.KeyKind d w Key where
 is:=mW
 hash:=GR w
 inj:=λv a b l hb=>by
  rcases bS l with⟨i,t,rfl,rfl⟩ | ⟨x,t,rfl,rfl⟩
  ·rcases bS hb with⟨j,u,rfl,e⟩ | ⟨y,u,rfl,e⟩
   ·injection e with e1 _;rw[e1]
   ·exact nomatch e
  ·rcases bS hb with⟨j,u,rfl,e⟩ | ⟨y,u,rfl,e⟩
   ·exact nomatch e
   ·injection e with e1 _;rw[e1]
 byValue:=λk v h=>by
  rcases bS h with⟨i,t,rfl,rfl⟩ | ⟨x,t,rfl,rfl⟩<;>rfl
 pyHash:=λf h=>by
  rcases bS f with⟨i,t,rfl,rfl⟩ | ⟨x,t,rfl,rfl⟩
  ·exact wpAny_pyHash_int h
  ·exact wpAny_pyHash_str h
 eqBool:=λg f h=>by
  rcases bS g with⟨i,t,rfl,rfl⟩ | ⟨x,t,rfl,rfl⟩
  ·rcases bS f with⟨j,u,rfl,rfl⟩ | ⟨y,u,rfl,rfl⟩
   ·rw[D5]at h;exact wpAny_eqBool_int h
   ·rw[Fe]at h;exact SeqAt.EqAt.int_str i t y u _ _ _ _ h
  ·rcases bS f with⟨j,u,rfl,rfl⟩ | ⟨y,u,rfl,rfl⟩
   ·rw[Gc]at h;exact SeqAt.EqAt.str_int x t j u _ _ _ _ h
   ·rw[FL]at h;exact wpAny_eqBool_str h
 «strs» := λk x t v h=>by
  rcases bS h with⟨i,u,rfl,e⟩ | ⟨y,u,rfl,e⟩
  ·exact nomatch e
  ·injection e with e1 _
   subst e1;cases v<;>rfl
def sH(a:Re)(w:UF)(i:Int)(t:Tok):(aZ a w).is (.inl i) (.int i t)=O:=xE i t
def tm(a:Re)(w:UF)(x:Str)(t:Tok):(aZ a w).is (.inr x) (.str x t)=O:=xm x t
inductive V where
 |non | bl (b:Bool) | int (i:Int) | str (x:Str) | byt (b:Array UInt8) | flt (b:UInt64) | ref (a:KM) | ty (n:String)
 deriving DecidableEq
noncomputable def RelV:V->On->Prop
 |.non,u=>u=Value.none
 |.bl b,u=>u=Value.bool b
 |.int i,u=>∃t,u=Value.int i t
 |.str x,u=>∃t,u=Value.str x t
 |.byt b,u=>∃t,u=Value.bytes b t
 |.flt b,u=>∃t,u=Value.float b t
 |.ref a,u=>u=Value.ref a
 |.ty n,u=>u=Value.type n
abbrev aU:List V->Vz->Prop:=Paired RelV
theorem aU.length{b:Vz}(r:aU a b):a.length=b.length:=XI r
theorem aU.get:∀{a:List V}{b:Vz}{i:Nat}{x:V},aU a b->a[i]?=Z x->∃u,b[i]?=Z u/\RelV x u
 |_,_,_,_,.nil,e=>by simp at e
 |_,_,0,_,.cons r _,e=>by simp at e;subst e;exact⟨_,rfl,r⟩
 |_,_,i+1,x,.cons _ t,e=>by
  obtain⟨u,f,d⟩:=aU.get (i:=i) (x:=x) t (by simpa using e);exact⟨u,by simpa using f,d⟩
theorem aU.set(r:RelV x u):∀{a:List V}{b:Vz}(i:Nat),aU a b->aU (a.set i x) (b.set i u)
 |_,_,_,.nil=>.nil
 |_,_,0,.cons _ t=>.cons r t
 |_,_,i+1,.cons q t=>.cons q (aU.set r i t)
theorem aU.append:∀{b a:List V}{d ws:Vz},aU b d->aU a ws->aU (b++a) (d++ws)
 |_,_,_,_,.nil,s=>s
 |_,_,_,_,.cons r t,s=>.cons r (aU.append t s)
theorem aU.take:∀{a:List V}{b:Vz}(n:Nat),aU a b->aU (a.take n) (b.take n)
 |_,_,0,_=>.nil
 |_,_,_+1,.nil=>.nil
 |_,_,n+1,.cons r t=>.cons r (aU.take n t)
theorem aU.drop:∀{a:List V}{b:Vz}(n:Nat),aU a b->aU (a.drop n) (b.drop n)
 |_,_,0,r=>r
 |_,_,_+1,.nil=>.nil
 |_,_,n+1,.cons _ t=>aU.drop n t
def aU.none_of:∀{a:List V}{b:Vz}{i:Nat},aU a b->a[i]?=L->b[i]?=L:=λ{a b i} r e=>by
 have f:=r.length;have d:=YE.mp e;exact YE.mpr (by lia)
def jc:Option V->Vy->Prop
 |some v,some u=>RelV v u
 |none,none=>True
 |_,_=>False
def KV{κ:Type}:List (κ×V)->List (κ×On)->Prop:=Paired λ(p:κ×V) (q:κ×On)=>p.1=q.1/\RelV p.2 q.2
noncomputable def kV:Key->V
 |.inl i=>.int i
 |.inr x=>.str x
inductive HO where
 |lst (xs:List V)
 |tup (xs:List V)
 |dK (cg:List (Key×V)) | dT (cg:List (List Key×V))
 |set (S:Int->Bool) (n:Nat)
 |ins (C dx:KM) (fs:List (Str×V))
 |own (x:KM)
 |xd (fs:List (Str×V))
 |met (f x:KM)
 |rng (lo hi:Int)
 |frz (o:Obj) (u:HO)
 |tbl (q:Str)
 |ext (φ:UF->SZ->Prop)
noncomputable abbrev Hp:=KM->Option HO
noncomputable def upd(H:Hp)(a:KM)(o:HO):Hp:=λb=>if b=a then Z o else H b
def ay{H:Hp}:upd H a o a=Z o:=by unfold upd;rw[Zn Y]
def aD(h:b≠a):upd H a o b=H b:=by unfold upd;rw[Zl h]
def CB:upd (upd H a o) a u=upd H a u:=by
 funext b;unfold upd;split<;>rfl
def GA{H:Hp}{a b:KM}{o u:HO}(h:H a=Z o)(f:H b=Z u)(d:o≠u):a≠b:=by
 intro e;subst e;rw[h]at f;exact d (Zi f)
def bB{H:Hp}{a b:KM}{o:HO}(h:H a=Z o)(d:H b=L):a≠b:=by
 intro e;subst e;rw[h]at d;cases d
noncomputable def N8(h:SZ)(a:KM):Prop:=∀o,h.get? a=Z o->o.dict=L
def N8.new(h:SZ)(a:Array On):N8 (h.push { cls:=.type "tuple",data:=.seq a }) h.objs.size:=λo e=>by
 rw[Zg _ Y]at e;cases e;rfl
def N8.of{h:SZ}(e:h.get? a=Z o)(d:o.dict=L):N8 h a:=λf b=>by
 rw[e]at b;cases b;exact d
section
variable(P:Re)(w:UF)
def dN(H:Hp)(h:SZ)(a:KM):HO->Prop
 |.lst b=>b.length<=KF/\∃(g:Vz)(n:Nat),aU b g/\h.get? a=Z { cls:=.type "list",data:=.seq g.toArray n }
 |.tup b=>b.length<=KF/\∃g:Vz,aU b g/\N8 h a/\IsTup h a g.toArray
 |.dK i=>i.length<=KF/\(a==sysModules)=R/\∃e,KV i e/\h.DictOf (aZ P w) a e
 |.dT i=>i.length<=KF/\(a==sysModules)=R/\∃b:List (List Key×KM×On),
   Paired (λ(p:List Key×V) (q:List Key×KM×On)=>p.1=q.1/\H q.2.1=Z (.tup (p.1.map kV))/\RelV p.2 q.2.2) i b ∧
   ∃o r z,h.get? a=Z o/\o.ExactDict/\o.data=.dict r z/\r.toList=b.map (entryOfKey (tupleKind (aZ P w)))/\(b.map (·.1)).Nodup
 |.set S n=>h.SetOf (intKind P w) a S n
 |.ins C j fs=>H j=Z (.own a)/\fs.length<=1000/\j≠a/\h.get? a=Z (PySem.W.instObj C j) ∧
   ∃d,h.Ns1 j d/\(∀f,jc (fs.lookup f) (d f))/\PySem.Within d (fs.map (·.1))
 |.own _=>∃o,h.get? a=Z o
 |.xd fs=>∃d,h.Ns1 a d/\∀f,jc (fs.lookup f) (d f)
 |.rng lo s=>∃t u v,h.get? a=Z { cls:=.type "range",data:=.fields #[.int lo t,.int s u,.int 1 v] }
 |.frz o u=>h.get? a=Z o/\dN H h a u
 |.tbl q=>∃ps,h.get? a=Z { cls:=.none,data:=.fields ps }/\TriplesOk ps.toList/\∀pos v,codeAmong pos ps.toList=Z v->∃c o y e t,v=.ref c/\H c=Z (.frz o (.own y))/\o.data=.fields e/\e[1]?=Z (.str q t)
 |.met f x=>h.get? a=Z (PySem.W.methodObj (.ref f) (.ref x))
 |.ext φ=>φ w h/\(∃o,h.get? a=Z o)/\∀m l:SZ,φ w m->(∀o,m.get? a=Z o->l.get? a=Z o)->φ w l
def JU(H:Hp)(h:SZ):Prop:=∀a o,H a=Z o->dN P w H h a o
end
section
variable{H:Hp}
theorem dN.lt(x:dN P w H h a o):a<h.objs.size:=by
 cases o with
 |lst b=>obtain⟨_,_,_,_,e⟩:=x;exact ZY e
 |tup b=>obtain⟨_,_,_,_,p⟩:=x;exact p.lt
 |dK d=>obtain⟨_,_,_,_,o,_,_,e,_⟩:=x;exact ZY e
 |dT d=>obtain⟨_,_,_,_,o,_,_,e,_⟩:=x;exact ZY e
 |set S n=>obtain⟨o,_,_,_,e,_⟩:=x;exact ZY e
 |ins C j fs=>obtain⟨_,_,_,e,_⟩:=x;exact ZY e
 |own y=>obtain⟨_,e⟩:=x;exact ZY e
 |xd fs=>obtain⟨_,⟨_,_,_,e,_⟩,_⟩:=x;exact ZY e
 |rng lo i=>obtain⟨_,_,_,e⟩:=x;exact ZY e
 |frz g u=>obtain⟨e,_⟩:=x;exact ZY e
 |tbl q=>obtain⟨_,e,_⟩:=x;exact ZY e
 |met f y=>exact ZY (x)
 |ext φ=>obtain⟨_,⟨_,e⟩,_⟩:=x;exact ZY e
theorem Paired.NQ{α β:Type}{F G:α->β->Prop}:∀{e:List α}{d:List β},Paired F e d->(∀a b,F a b->G a b)->Paired G e d
 |_,_,.nil,_=>.nil
 |_,_,.cons r t,f=>.cons (f _ _ r) (Paired.NQ t f)
def dN.LM{h':SZ}(x:dN P w H h a o)(k:∀b u,(b=a\/H b=Z (.own a))->h.get? b=Z u->h'.get? b=Z u)(G:∀b,H b=Z (.own a)->H' b=Z (.own a))(F:∀b l,H b=Z (.tup l)->H' b=Z (.tup l))(J:∀b o y,H b=Z (.frz o (.own y))->H' b=Z (.frz o (.own y))):dN P w H' h' a o:=by
 induction o with
 |lst l=>obtain⟨z,B,n,r,e⟩:=x;exact⟨z,B,n,r,k _ _ (.inl Y) e⟩
 |tup l=>obtain⟨z,B,r,nd,g,e,c⟩:=x;exact⟨z,B,r,N8.of (k _ _ (.inl Y) e) (nd _ e),g,k _ _ (.inl Y) e,c⟩
 |dK M=>obtain⟨z,y,m,r,g,i,j,e,c⟩:=x;exact⟨z,y,m,r,g,i,j,k _ _ (.inl Y) e,c⟩
 |dT M =>
  obtain⟨z,y,l,r,g,i,j,e,c⟩:=x;exact⟨z,y,l,Paired.NQ r λp q z=>⟨z.1,F _ _ z.2.1,z.2.2⟩,g,i,j,k _ _ (.inl Y) e,c⟩
 |set S n=>obtain⟨g,i,j,t,e,c⟩:=x;exact⟨g,i,j,t,k _ _ (.inl Y) e,c⟩
 |ins C Q fs =>
  obtain⟨d,z,ne,e,A,⟨s,i,j,e2,c⟩,r⟩:=x;exact⟨G _ d,z,ne,k _ _ (.inl Y) e,A,⟨s,i,j,k _ _ (.inr d) e2,c⟩,r⟩
 |own y=>obtain⟨g,e⟩:=x;exact⟨g,k _ _ (.inl Y) e⟩
 |xd fs=>obtain⟨A,⟨s,i,j,e,c⟩,r⟩:=x;exact⟨A,⟨s,i,j,k _ _ (.inl Y) e,c⟩,r⟩
 |rng lo N=>obtain⟨t,u,v,e⟩:=x;exact⟨t,u,v,k _ _ (.inl Y) e⟩
 |frz g u E=>obtain⟨e,q⟩:=x;exact⟨k _ _ (.inl Y) e,E q⟩
 |tbl q =>
  obtain⟨ps,e,e1,e2⟩:=x;refine⟨ps,k a _ (.inl Y) e,e1,λpos v r=>?_⟩;obtain⟨c,o,y,m,t,r1,r2,D⟩:=e2 pos v r;exact⟨c,o,y,m,t,r1,J _ _ _ r2,D⟩
 |met f y =>
  exact k a _ (.inl Y) x
 |ext φ=>obtain⟨p,⟨o,e⟩,st⟩:=x;exact⟨st _ _ p λo q=>k _ _ (.inl Y) q,⟨o,k _ _ (.inl Y) e⟩,st⟩
theorem JU.lt(x:JU P w H h)(e:H a=Z o):a<h.objs.size:=(x a o e).lt
def JU.fresh(x:JU P w H h)(e:h.objs.size<=a):H a=L:=by
 cases q:H a with
 |none=>rfl
 |some u=>exact absurd (ZS (x.lt q) e) (YR _)
def JU.kept{h':SZ}(x:JU P w H h)(k:∀b u,h.get? b=Z u->h'.get? b=Z u):JU P w H h':=λa o e =>
 (x a o e).LM (λb u _ q=>k b u q) (λ_ q=>q) (λ_ _ q=>q) λ_ _ _ q=>q
def JU.laid{h':SZ}(x:JU P w H h)(k:∀b u,h.get? b=Z u->h'.get? b=Z u)(g:h.objs.size<=a)(d:dN P w (upd H a o) h' a o):JU P w (upd H a o) h':=λb u e=>by
 have f:=x.fresh g;by_cases hb:b=a
 ·subst hb;rw[ay]at e;cases e;exact d
 ·rw[aD hb]at e;exact(x b u e).LM (λc v _ q=>k c v q) (λc q=>by rw[aD (bB q f)];exact q) (λc i q=>by rw[aD (bB q f)];exact q) λc _ _ q=>by rw[aD (bB q f)];exact q
end
noncomputable def Rd(H:Hp)(a:KM)(u:HO):Prop:=H a=Z u\/∃o,H a=Z (.frz o u)
def Rd.ok(r:Rd H a u)(x:JU P w H h):dN P w H h a u:=by
 rcases r with r | ⟨o,r⟩
 ·exact x a u r
 ·obtain⟨_,q⟩:=x a _ r;exact q
noncomputable def IU:Option HO->Prop
 |some (.lst _)=>True
 |some (.dK _)=>True
 |some (.dT _)=>True
 |some (.set _ _)=>True
 |some (.ins _ _ _)=>True
 |some (.ext _)=>True
 |_=>False
section
variable{H:Hp}
def JU.write{h':SZ}(m:JU P w H h)(a:IU (H x))(he:e=x\/H e=Z (.own x))(k:∀b u,b≠e->h.get? b=Z u->h'.get? b=Z u)(o:∃u,h'.get? e=Z u)(g:dN P w (upd H x o') h' x o'):JU P w (upd H x o') h':=λb u q=>by
 have l:∀c y,H c=Z (.own y)->c≠x:=λc y r z=>by subst z;rw[r]at a;exact a
 by_cases hb:b=x
 ·subst hb;rw[ay]at q;cases q;exact g
 ·rw[aD hb]at q;by_cases f:b=e
  ·have j:H b=Z (.own x):=by
    rcases he with z | z
    ·exact absurd (f.trans z) hb
    ·rw[f];exact z
   rw[q]at j;cases j;obtain⟨v,n⟩:=o;exact⟨v,by rw[f];exact n⟩
  ·refine(m b u q).LM (λc v d r=>k c v ?_ r) (λc r=>by rw[aD (l c b r)];exact r) (λc i r=>by rw[aD ((λc i r z=>by subst z;rw[r]at a;exact a) c i r)];exact r) λc _ _ r=>by rw[aD λz=>by subst z;rw[r]at a;exact a];exact r
   rcases d with rfl | d
   ·exact f
   ·rintro rfl;rcases he with z | z
    ·exact l c b d z
    ·rw[d]at z;cases z;exact hb Y
end
structure Un(fs ex:Wg)(H H':Hp)(h h':SZ):Prop where
 keep:∀b o,h.get? b=some o->H b=none->b∉fs->b∉ex->h'.get? b=some o
 slot:∀b o,h.get? b=some o->H b=none->b∈fs->b∉ex->∃sl,h'.get? b=some { o with slots:=sl }
 free:∀b o,h.get? b=some o->H b=none->b∉ex->H' b=none
 there:∀b o,h.get? b=some o->b∉ex->∃o',h'.get? b=some o'
 Ln:∀b xs,H b=some (.tup xs)->H' b=some (.tup xs)
 La:∀b o u,H b=some (.frz o u)->H' b=some (.frz o u)
 KD:∀b q,H b=some (.tbl q)->H' b=some (.tbl q)
section
variable{H:Hp}
def Un.any(u:Un fs ex H H1 h h1)(q:h.get? b=Z d)(n:H b=L)(f:b∉ex):∃g,h1.get? b=Z { d with slots:=g }:=by
 by_cases hb:b∈fs
 ·exact u.slot b d q n hb f
 ·exact⟨d.slots,u.keep b d q n hb f⟩
def Un.kept{h h':SZ}(k:∀b u,h.get? b=Z u->h'.get? b=Z u):Un fs ex H H h h' :=
 ⟨λb d q _ _ _=>k b d q,λb d q _ _ _=>⟨d.slots,k b d q⟩,λ_ _ _ n _=>n,λb d q _=>⟨d,k b d q⟩,λ_ _ q=>q,λ_ _ _ q=>q,λ_ _ q=>q⟩
def Un.refl:Un fs ex H H h h:=Un.kept λ_ _ q=>q
def Un.laid{fs ex:Wg}{h h':SZ}{a:KM}{o:HO}(k:∀b u,h.get? b=Z u->h'.get? b=Z u)(g:h.objs.size<=a)(d:H a=L):Un fs ex H (upd H a o) h h' where
 keep:=λb u q _ _ _=>k b u q
 slot:=λb u q _ _ _=>⟨u.slots,k b u q⟩
 free:=λb u q n _=>by rw[aD (Zh (ZS (ZY q) g))];exact n
 there:=λb u q _=>⟨u,k b u q⟩
 Ln:=λb f q=>by rw[aD (bB q d)];exact q
 La:=λb u f q=>by rw[aD (bB q d)];exact q
 KD:=λb n q=>by rw[aD (bB q d)];exact q
def Un.write{h h':SZ}(d:IU (H x))(he:e=x\/H e=Z (.own x))(k:∀b u,b≠e->h.get? b=Z u->h'.get? b=Z u)(j:∃u,h'.get? e=Z u):Un fs ex H (upd H x o) h h':=by
 have f:∀b,H b=L->b≠x:=λb n z=>by subst z;rw[n]at d;exact d
 have hb:∀b,H b=L->b≠e:=λb n z=>by
  subst z;rcases he with r | r
  ·exact f b n r
  ·rw[n]at r;cases r
 have hm:∀b u,H b=Z u->¬IU (Z u)->b≠x:=λb u q nm z=>by subst z;rw[q]at d;exact nm d
 refine⟨λb u q n _ _=>k b u (hb b n) q,λb u q n _ _=>⟨u.slots,k b u (hb b n) q⟩,λb u q n _=>by rw[aD (f b n)];exact n,λb u q _=>?_,
  λb i q=>by rw[aD (hm b _ q λz=>z)];exact q,λb u i q=>by rw[aD (hm b _ q λz=>z)];exact q,λb n q=>by rw[aD (hm b _ q λz=>z)];exact q⟩
 by_cases g:b=e
 ·subst g;exact j
 ·exact⟨u,k b u g q⟩
end
noncomputable def gone(v:On):Obj:=⟨v,L,.freed,#[]⟩
def wK(H:Hp)(a:KM)(o:Obj):Obj:=match H a with
 |some (.tbl q)=>gone (.str q 0)
 |some _=>gone .none
 |none=>match o.data with
  |.freed=>gone .none
  |_=>o
def sQ(h:SZ)(H:Hp):Heap:=⟨h.objs.mapIdx λa o=>wK H a o,h.life⟩
def Tb(b:SZ)(a:KM)(q:Str):Prop:=b.objs[a]?=Z (gone (.str q 0))
def xw(h:SZ)(H:Hp):(sQ h H).objs.size=h.objs.size:=Array.size_mapIdx
def qB(h:SZ)(H:Hp)(b:KM):(sQ h H).objs[b]?=(h.objs[b]?).map (wK H b):=Array.getElem?_mapIdx
def nO{h:SZ}:h.get? b=Z o↔h.objs[b]?=Z o/\o.data ≠ .freed:=by
 unfold Heap.get?;split
 ·rename_i e;exact⟨λz=>(nomatch z),λ⟨z,n⟩=>by rw[e]at z;cases z;exact absurd Y n⟩
 ·rename_i n;exact⟨λz=>⟨z,λd=>by
   obtain⟨c,u,f,a⟩:=o;cases (d);exact n _ _ _ z⟩,λz=>z.1⟩
def yy{h:SZ}(e:h.get? b=Z o)(n:H b=L):(sQ h H).get? b=Z o:=by
 obtain⟨e1,e2⟩:=nO.mp e;refine nO.mpr ⟨?_,e2⟩;rw[qB,e1,X0];unfold wK;rw[n];cases h:o.data with
 |freed=>exact absurd h e2
 |_=>rfl
def Cg(e:(sQ h H).get? b=Z o):h.get? b=Z o/\H b=L:=by
 obtain⟨e1,e2⟩:=nO.mp e;rw[qB]at e1;obtain⟨u,e3,a⟩:=Zt.mp e1;unfold wK at a;cases q:H b with
 |some y =>
  rw[q]at a;cases y<;>(cases a;exact absurd Y e2)
 |none =>
  rw[q]at a;refine⟨nO.mpr ?_,rfl⟩;cases d:u.data with
  |freed=>rw[d]at a;cases a;exact absurd Y e2
  |_ =>
   have f:u=o:=by rw[d]at a;exact a
   subst f;exact⟨e3,e2⟩
def vv:Tb (sQ h H) b q↔H b=Z (.tbl q)/\b<h.objs.size:=by
 unfold Tb;rw[qB];constructor
 ·intro e;obtain⟨u,e3,a⟩:=Zt.mp e;refine⟨?_,(Array.getElem?_eq_some_iff.mp e3).1⟩;unfold wK at a;cases y:H b with
  |some f =>
   rw[y]at a;cases f with
   |tbl i=>cases a;rfl
   |_=>cases a
  |none =>
   rw[y]at a;cases d:u.data with
   |freed=>rw[d]at a;cases a
   |_ =>
    have g:u=gone (.str q 0):=by rw[d]at a;exact a
    rw[g]at d;cases d
 ·rintro⟨e,l⟩;rw[YD l,X0];unfold wK;rw[e]
noncomputable def C2(g h:SZ)(L:KM):X7:=(List.range h.objs.size).filterMap λa=>if a=L\/(g.get? a).isSome=O then none else (h.get? a).map λo=>(a,o)
def rest(g h:SZ)(L d:KM):X7:=(C2 g h L).filter λp=>decide (p.1≠d)
structure Mod(K:Wu)(mg:Wq)(base:SZ):Prop where
 Pp:K.In base
 glob:base.Ns mainGlobals mg
 blt:∃mb,base.Ns builtinsNs mb/\∀x:Str,x ≠ "__name__" → mb x=bootBuiltins x
 nolimit:base.NoLimit
structure Cx where
 prog:Re
 w:UF
 K:Wu
 mg:Wq
 base:SZ
 A:SB
 N:List Str
 s₀:IR
 H₀:Hp
 env:Env
 outer:List Env
 stack:List Env
 ex:Wg
 fn:Str->Bool
 calm:Bool
 pn:X7
 xe:Xf
abbrev K1(e:Expr)(l:List Expr)(X:Cx):Prop:=Pv (e :: l) X.env=(R,eval e X.env) :: Pv l X.env
abbrev K2(p:Pos)(l:List Expr)(X:Cx):Prop:=(backTo p (Pv l X.env)).any (·.1)=R
abbrev K3(x:Str):Prop:=(x==("__debug__" : Str))=R
abbrev K4(x:Str):Prop:=(x==("__classdict__" : Str))=R
noncomputable def J9(l:List Env):Wg:=l.filterMap (·.frame)
abbrev Cx.fs(X:Cx):Wg:=J9 X.outer
noncomputable def Lg(a:Scope)(x:Str):Prop:=a.names.lookup x=Z .local\/a.names.lookup x=Z .cell\/a.names.lookup x=Z .free
noncomputable def Loc(a:Scope)(x:Str):Prop:=a.names.lookup x=Z .local\/a.names.lookup x=Z .cell
noncomputable def Look(a:Env)(h:SZ)(m:Wq)(x:Str)(u:On):Prop :=
 (a.kindOf x=Z .local/\m x=Z u)\/((a.kindOf x=Z .cell\/a.kindOf x=Z .free)/\∃c,a.cells.lookup x=Z c/\h.IsCell c (Z u))
structure Cx.Ok(X:Cx):Prop where
 mod:Mod X.K X.mg X.base
 kind:X.env.scope.kind=.function
 glob:X.env.globals=mainGlobals
 blt:X.env.builtins=builtinsNs
 above:X.s₀.heap.objs.size<=X.env.locals
 inj:∀x y c,X.env.cells.lookup x=some c->X.env.cells.lookup y=some c->x=y
 has:∀x,(X.env.kindOf x=some .cell\/X.env.kindOf x=some .free)->∃c,X.env.cells.lookup x=some c
 Rz:∀x c,X.fn x=true->X.env.cells.lookup x=some c->X.s₀.heap.objs.size<=c
 hd:X.calm=true->X.A.handled=none
 frames:X.A.frames=some X.stack
 RQ:X.stack=X.outer\/(X.stack=X.env :: X.outer/\X.env.frame=some X.env.locals)
 exf:∀b∈X.ex,b≠X.env.locals/\∀x c,X.env.cells.lookup x=some c->c≠b
 tb:∀b q,Tb X.base b q->X.H₀ b=some (.tbl q)
 bs:∀b o,X.base.get? b=some o->X.s₀.heap.get? b=some o/\X.H₀ b=none
 NC:X.base.objs.size<=X.s₀.heap.objs.size
 MN:∀b o,X.base.get? b=some o->b∉X.ex
 N1:∀b∈X.ex,b∉X.fs
 Kg:X.s₀.heap.FunFrames X.base X.outer
 O8:∀b∈X.fs,X.H₀ b=none
structure Inv(X:Cx)(pins:X7)(J:List (Option V))(H:Hp)(s:IR):Prop where
 ok:X.Ok
 os:s.os=X.s₀.os
 bare:AllBare s.gens
 base:Un X.fs X.ex X.H₀ H X.s₀.heap s.heap
 loc:∃m,s.heap.Ns X.env.locals m/\∀(i:Nat)(x:Str)(v:V),X.N[i]?=some x->J[i]?=some (some v)->Lg X.env.scope x->∃u,RelV v u/\Look X.env s.heap m x u
 cell:∀x c,X.env.cells.lookup x=some c->∃v,s.heap.IsCell c v
 free:H X.env.locals=none
 JE:∀x c,X.env.cells.lookup x=some c->H c=none
 pin:∀p∈X.pn++pins,s.heap.get? p.1=some p.2/\H p.1=none/\p.1≠X.env.locals/\p.1∉X.fs/\∀v,p.2.data ≠ .cell v
 p0:JU X.prog X.w H s.heap
 len:J.length=X.N.length
section
variable{H:Hp}
def Cx.Ok.S9{X:Cx}(a:X.Ok)(e:X.base.get? b=Z o):b∉X.fs:=λhb=>by
 have:=(a.Kg.mem hb).1;rw[e]at this;cases this
theorem Inv.bs(I:Inv X pins J H s):∀b o,X.base.get? b=Z o->s.heap.get? b=Z o/\H b=L:=λb o e =>
 ⟨I.base.keep b o (I.ok.bs b o e).1 (I.ok.bs b o e).2 (I.ok.S9 e) (I.ok.MN b o e),I.base.free b o (I.ok.bs b o e).1 (I.ok.bs b o e).2 (I.ok.MN b o e)⟩
theorem Inv.tb(I:Inv X pins J H s):∀b q,Tb X.base b q->H b=Z (.tbl q):=λb q e=>I.base.KD b q (I.ok.tb b q e)
def Inv.bk(I:Inv X pins J H s):∀b o,X.base.get? b=Z o->s.heap.get? b=Z o:=λb o e=>(I.bs b o e).1
theorem Inv.mod(I:Inv X pins J H s):Mod X.K X.mg X.base:=I.ok.mod
def Inv.Kd(I:Inv X pins J H s):X.K.In s.heap:=I.ok.mod.Pp.keeps I.bk
theorem Inv.nolimit(I:Inv X pins J H s):s.heap.NoLimit:=I.ok.mod.nolimit.keeps I.bk
theorem Inv.lt(I:Inv X pins J H s):X.env.locals<s.heap.objs.size:=let ⟨_,a,_⟩:=I.loc;a.lt
def Inv.sz(I:Inv X pins J H s):X.s₀.heap.objs.size<=s.heap.objs.size:=ZP I.ok.above (Xd I.lt)
def Inv.S8(I:Inv X pins J H s)(h:s.heap.objs.size<=a):a∉X.fs:=λhb=>by
 obtain⟨_,o,b,_⟩:=I.ok.Kg.mem hb;exact absurd (ZS (ZY b) (ZP I.sz h)) (YR _)
def Inv.Pd(I:Inv X pins J H s):∀x c,X.env.cells.lookup x=Z c->c≠X.env.locals:=λx c e z=>by
 obtain⟨v,o,a,hd⟩:=I.cell x c e;obtain⟨m,⟨f,g,h,d,b,_⟩,_⟩:=I.loc;rw[z,d]at a;cases a;rw[b]at hd;cases hd
theorem Inv.Kg(I:Inv X pins J H s):s.heap.FunFrames X.base X.outer:=by
 have all:∀(l:List Env),(∀b∈J9 l,b∈X.fs)->X.s₀.heap.FunFrames X.base l->s.heap.FunFrames X.base l:=by
  intro l
  induction l with
  |nil=>intro _ _;trivial
  |cons env r g =>
   intro f hl;obtain⟨m,⟨L,o,a,j,i,hd⟩,h⟩:=hl;have d:=f L (by unfold J9;rw[Y3,a];exact Zu);obtain⟨n,e⟩:=I.base.slot L o i (I.ok.O8 L d) d λz=>I.ok.N1 L z d;exact⟨m,⟨L,_,a,j,e,hd⟩,g (λb hb=>f b (by unfold J9;rw[Y3,a];exact Zw _ hb)) h⟩
 exact all X.outer (λ_ hb=>hb) I.ok.Kg
theorem Inv.stack(I:Inv X pins J H s):s.heap.FunFrames X.base X.stack:=by
 rcases I.ok.RQ with e | ⟨e,b⟩
 ·rw[e];exact I.Kg
 ·rw[e];obtain⟨m,a,_⟩:=I.loc;refine .cons (by rw[I.ok.kind];decide) b a ?_ I.Kg;exact Heap.get?_none_of_le (ZP I.ok.NC I.ok.above)
def Inv.Km(I:Inv X pins J H s):∀b∈J9 X.stack,b∈X.env.locals :: X.fs:=λb hb=>by
 rcases I.ok.RQ with e | ⟨e,a⟩
 ·rw[e]at hb;exact Zw _ hb
 ·rw[e]at hb;unfold J9 at hb;rw[Y3,a]at hb;exact hb
def Inv.K7(I:Inv X pins J H s):∀b∈J9 X.stack,H b=L:=λb hb=>by
 rcases Zk.mp (I.Km b hb) with e | hb
 ·rw[e];exact I.free
 ·obtain⟨_,o,a,_⟩:=I.ok.Kg.mem hb;exact I.base.free b o a (I.ok.O8 b hb) λz=>I.ok.N1 b z hb
def Inv.step{h':SZ}{ch:Wg}(I:Inv X pins J H s)(C:∀b∈ch,(b∈X.ex\/X.s₀.heap.objs.size<=b)/\b≠X.env.locals/\(∀x c,X.env.cells.lookup x=Z c->c≠b)/\∀p∈X.pn++pins,p.1≠b)(g:∀b o,b≠X.env.locals->b∉X.fs->b∉ch->s.heap.get? b=Z o->H b=L->h'.get? b=Z o)(j:∀b o,b≠X.env.locals->b∈X.fs->b∉ch->s.heap.get? b=Z o->H b=L->∃F,h'.get? b=Z { o with slots:=F })(f:∀b o,b∉ch->s.heap.get? b=some o->H b=none->H' b=none)(t:∀b o,b∉ch->s.heap.get? b=Z o->∃A,h'.get? b=Z A)(Ln:∀b h,H b=Z (.tup h)->H' b=Z (.tup h))(La:∀b o u,H b=Z (.frz o u)->H' b=Z (.frz o u))(KD:∀b q,H b=Z (.tbl q)->H' b=Z (.tbl q))(ns:∀m,s.heap.Ns X.env.locals m->h'.Ns X.env.locals m)(U:JU X.prog X.w H' h')(hg:AllBare P) :
  Inv X pins J H' { s with heap:=h',gens:=P,drawn:=d',toks:=S }:=by
 have Q:∀b o,X.s₀.heap.get? b=Z o->b≠X.env.locals:=λb o e=>Zh (ZS (ZY e) I.ok.above);have D:∀b o,X.s₀.heap.get? b=Z o->b∉X.ex->b∉ch:=λb o e a hb=>by
  rcases (C b hb).1 with z | z
  ·exact a z
  ·exact absurd (ZS (ZY e) z) (YR _)
 have cellK:∀x c,X.env.cells.lookup x=Z c->∀v,s.heap.IsCell c v->h'.IsCell c v:=λx c e v ⟨o,y,hd⟩=>by
  have B:c∉ch:=λz=>(C c z).2.2.1 x c e Y;by_cases N:c∈X.fs
  ·obtain⟨F,q⟩:=j c o (I.Pd x c e) N B y (I.JE x c e);exact⟨_,q,hd⟩
  ·exact⟨o,g c o (I.Pd x c e) N B y (I.JE x c e),hd⟩
 refine⟨I.ok,I.os,hg,⟨λb o e n hb a=>?_,λb o e n hb a=>?_,λb o e n a=>?_,λb o e a=>?_,λb h e=>Ln b h (I.base.Ln b h e),λb o h e=>La b o h (I.base.La b o h e),λb q e=>KD b q (I.base.KD b q e)⟩,?_,λx c e=>?_,?_,λx c e=>?_,λp M=>?_,U,I.len⟩
 ·exact g b o (Q b o e) hb (D b o e a) (I.base.keep b o e n hb a) (I.base.free b o e n a)
 ·obtain⟨F,e1⟩:=I.base.slot b o e n hb a;obtain⟨E,e2⟩:=j b _ (Q b o e) hb (D b o e a) e1 (I.base.free b o e n a);exact⟨E,e2⟩
 ·obtain⟨A,e1⟩:=I.base.there b o e a;exact f b A (D b o e a) e1 (I.base.free b o e n a)
 ·obtain⟨A,e1⟩:=I.base.there b o e a;exact t b A (D b o e a) e1
 ·obtain⟨m,hn,hl⟩:=I.loc;refine⟨m,ns m hn,λi x v e1 e2 e3=>?_⟩;obtain⟨u,r,l⟩:=hl i x v e1 e2 e3;refine⟨u,r,?_⟩;rcases l with l | ⟨k,c,e,z⟩
  ·exact .inl l
  ·exact .inr ⟨k,c,e,cellK x c e _ z⟩
 ·obtain⟨v,z⟩:=I.cell x c e;exact⟨v,cellK x c e v z⟩
 ·obtain⟨m,⟨o,_,_,y,_⟩,_⟩:=I.loc;exact f _ o (λz=>(C _ z).2.1 Y) y I.free
 ·obtain⟨v,o,y,hd⟩:=I.cell x c e;exact f c o (λz=>(C c z).2.2.1 x c e Y) y (I.JE x c e)
 ·obtain⟨e,n,ne,G,d⟩:=I.pin p M;have B:=λz=>(C p.1 z).2.2.2 p M Y;exact⟨g p.1 p.2 ne G B e n,f p.1 p.2 B e n,ne,G,d⟩
def Inv.un{t':Nat}(I:Inv X pins J H s)(u:Un X.fs [] H H' s.heap h')(g:JU X.prog X.w H' h'):Inv X pins J H' { s with heap:=h',toks:=t' }:=by
 obtain⟨m,⟨o,t,v,a,r⟩,_⟩:=id I.loc;obtain⟨l,h⟩:=u.any a I.free (by simp);exact I.step (ch:=[]) (λ_ z=>nomatch z) (λb o _ hb _ e n=>u.keep b o e n hb (by simp)) (λb o _ hb _ e n=>u.slot b o e n hb (by simp)) (λb o _ e n=>u.free b o e n (by simp)) (λb o _ e=>u.there b o e (by simp)) u.Ln u.La u.KD (λq hm=>by
  obtain⟨p,j,i,d,f⟩:=hm;rw[a]at d;cases d;exact⟨_,j,i,h,f⟩) g I.bare
def Inv.call{g':Array GenState}{t':Nat}{d':Drawn}{ch:Wg}(I:Inv X pins J H s)(u:Un (J9 X.stack) ch H H' s.heap h')(j:JU X.prog X.w H' h')(l:AllBare g')(g:∀b∈ch,(b∈X.ex\/X.s₀.heap.objs.size<=b)/\b≠X.env.locals/\(∀x c,X.env.cells.lookup x=Z c->c≠b)/\∀p∈X.pn++pins,p.1≠b) :
  Inv X pins J H' { s with heap:=h',gens:=g',drawn:=d',toks:=t' }:=by
 obtain⟨m,⟨o,B,C,f,r⟩,_⟩:=id I.loc;obtain⟨v,d⟩:=u.any f I.free λz=>(g _ z).2.1 Y;exact I.step (ch:=ch) g (λb o d hb a e n=>u.keep b o e n (λz=>(Zk.mp (I.Km b z)).elim d hb) a) (λb o _ _ a e n=>u.any e n a) (λb o a e n=>u.free b o e n a) (λb o a e=>u.there b o e a) u.Ln u.La u.KD (λA hm=>by
  obtain⟨y,t,q,h,i⟩:=hm;rw[f]at h;cases h;exact⟨_,t,q,d,i⟩) j l
def Inv.turned{h':SZ}{t':Nat}(I:Inv X pins J H s)(k:∀b o,b≠a->s.heap.get? b=Z o->h'.get? b=Z o)(i:H a=L)(f:a≠X.env.locals)(t:a∈X.ex\/X.s₀.heap.objs.size<=a)(l:∀x c,X.env.cells.lookup x=Z c->c≠a)(j:∀p∈X.pn++pins,p.1≠a):Inv X pins J H { s with heap:=h',toks:=t' }:=by
 have g:∀b u,H b=Z u->b≠a:=λb u e z=>by rw[z,i]at e;cases e
 refine I.step (ch:=[a]) (λb hb=>?_) (λb o _ _ d e _=>k b o (λz=>d (by simp[z])) e) (λb o _ _ d e _=>⟨o.slots,k b o (λz=>d (by simp[z])) e⟩) (λ_ _ _ _ n=>n)
  (λb o d e=>⟨o,k b o (λz=>d (by simp[z])) e⟩) (λ_ _ e=>e) (λ_ _ _ e=>e) (λ_ _ e=>e) (λm hm=>?_) (λb u e=>?_) I.bare
 ·have e:b=a:=by simpa using hb
  subst e;exact⟨t,f,l,j⟩
 ·obtain⟨o,w,y,h,r⟩:=hm;exact⟨o,w,y,k _ o (Ye f) h,r⟩
 ·refine(I.p0 b u e).LM (λc v d q=>k c v ?_ q) (λ_ q=>q) (λ_ _ q=>q) λ_ _ _ q=>q;rcases d with z | z
  ·rw[z];exact g b u e
  ·exact g c _ z
def Inv.tok(I:Inv X pins J H s)(t:Nat):Inv X pins J H { s with toks:=t }:=I.un (t':=t) Un.refl I.p0
theorem Inv.kept{h':SZ}{t':Nat}(I:Inv X pins J H s)(k:∀b u,s.heap.get? b=Z u->h'.get? b=Z u):Inv X pins J H { s with heap:=h',toks:=t' }:=I.un (Un.kept k) (I.p0.kept k)
theorem Inv.laid{h':SZ}{o:HO}{t':Nat}(I:Inv X pins J H s)(k:∀b u,s.heap.get? b=Z u->h'.get? b=Z u)(e:s.heap.objs.size<=a)(d:dN X.prog X.w (upd H a o) h' a o) :
  Inv X pins J (upd H a o) { s with heap:=h',toks:=t' }:=I.un (Un.laid k e (I.p0.fresh e)) (I.p0.laid k e d)
theorem Inv.write{h':SZ}{x e:KM}(I:Inv X pins J H s)(d:IU (H x))(he:e=x\/H e=Z (.own x))(k:∀b u,b≠e->s.heap.get? b=Z u->h'.get? b=Z u)(f:∃u,h'.get? e=Z u)(a:dN X.prog X.w (upd H x o) h' x o):Inv X pins J (upd H x o) { s with heap:=h',toks:=g }:=I.un (Un.write d he k f) (I.p0.write d he k f a)
def Inv.L7(I:Inv X pins J H s)(h:∀p∈a,s.heap.get? p.1=Z p.2/\H p.1=L/\p.1≠X.env.locals/\p.1∉X.fs/\∀v,p.2.data ≠ .cell v):Inv X a J H s :=
 ⟨I.ok,I.os,I.bare,I.base,I.loc,I.cell,I.free,I.JE,λp b=>(ZU.mp b).elim (λz=>I.pin p (Xh _ z)) (h p),I.p0,I.len⟩
def t9{N:List Str}(d:N.Nodup){i j:Nat}{x:Str}(a:N[i]?=Z x)(b:N[j]?=Z x):i=j:=by
 obtain⟨f,e1⟩:=ZT.mp a;obtain⟨e,e2⟩:=ZT.mp b;exact(List.getElem_inj d).mp (e1.trans e2.symm)
def pV{v:V}(I:Inv X pins J H s)(hN:X.N.Nodup)(C:X.N[i]?=Z x)(l:Loc X.env.scope x)(r:RelV v u)(h:∀S,Inv X pins (J.set i (Z v)) H S->(∃a,Heap.SameBut a s.heap S.heap/\(a=X.env.locals\/X.env.cells.lookup x=Z a))->Q () S)(hf:{`q0,X.fn x=O\/X.env.scope.names.lookup x=Z .local}):PP Mq A (storeName X.env x u) Q E s:=by
 obtain⟨m,hn,hl⟩:=id I.loc;have V6:i<J.length:=by rw[I.len];exact(ZT.mp C).1
 have Pd:=I.Pd;have tracked:∀{a:KM}{h':SZ},(∃o,s.heap.get? a=Z o/\H a=L)->Heap.SameBut a s.heap h'->JU X.prog X.w H h':=λ{a h'} ha f b ob e=>by
  obtain⟨_,_,Ou⟩:=ha;refine(I.p0 b ob e).LM (λc D g q=>(f.2 c ?_).trans q) (λ_ q=>q) (λ_ _ q=>q) λ_ _ _ q=>q;rintro rfl;rcases g with rfl | g
  ·rw[Ou]at e;cases e
  ·rw[Ou]at g;cases g
 rcases l with t | t
 ·refine wpAny_storeName_local t hn (λh' QU f=>?_) (by rw[I.ok.kind];rfl);obtain⟨oL,_,_,QS,_⟩:=id hn;refine h _ ⟨I.ok,I.os,I.bare,⟨λb o e n hb l=>?_,λb o e n hb l=>?_,I.base.free,λb o e l=>?_,I.base.Ln,I.base.La,I.base.KD⟩,⟨_,QU,λj y G e1 e2 e3=>?_⟩,λy c e=>?_,I.free,I.JE,λp hp=>?_,tracked ⟨oL,QS,I.free⟩ f,by simpa using I.len⟩ ⟨_,f,.inl Y⟩
  ·exact(f.2 b (Zh (ZS (ZY e) I.ok.above))).trans (I.base.keep b o e n hb l)
  ·obtain⟨P,e1⟩:=I.base.slot b o e n hb l;exact⟨P,(f.2 b (Zh (ZS (ZY e) I.ok.above))).trans e1⟩
  ·obtain⟨o',e1⟩:=I.base.there b o e l;exact⟨o',(f.2 b (Zh (ZS (ZY e) I.ok.above))).trans e1⟩
  ·by_cases B:j=i
   ·subst B;rw[C]at e1;cases e1;rw[XF V6]at e2;cases e2;exact⟨u,r,.inl ⟨t,by simp⟩⟩
   ·rw[YN (Ye B)]at e2;obtain⟨M,U,q⟩:=hl j y G e1 e2 e3;refine⟨M,U,?_⟩;rcases q with⟨k,e⟩ | ⟨k,c,e,z⟩
    ·refine .inl ⟨k,?_⟩;have:y≠x:=λe=>B (t9 hN e1 (e ▸ C));simp[this,e]
    ·exact .inr ⟨k,c,e,z.sameBut f (Pd y c e)⟩
  ·obtain⟨D,z⟩:=I.cell y c e;exact⟨D,z.sameBut f (Pd y c e)⟩
  ·obtain⟨e,n,ne,nf,d⟩:=I.pin p hp;exact⟨(f.2 p.1 ne).trans e,n,ne,nf,d⟩
 ·have T5:X.fn x=O:=by
   rcases hf with z | z
   ·exact z
   ·rw[z]at t;cases t
  obtain⟨c,g⟩:=I.ok.has x (.inl t);obtain⟨D,z⟩:=I.cell x c g;refine wpAny_storeName_cell I.ok.kind t g z (λh' KH f=>?_);obtain⟨oc,Nr,TJ⟩:=id z;refine h { s with heap:=h' } ⟨I.ok,I.os,I.bare,⟨λb o e n hb l=>?_,λb o e n hb l=>?_,I.base.free,λb o e l=>?_,I.base.Ln,I.base.La,I.base.KD⟩,⟨m,hn.sameBut f (Ye (Pd x c g)),λj y G e1 e2 e3=>?_⟩,λy F e=>?_,I.free,I.JE,λp hp=>?_,tracked ⟨oc,Nr,I.JE x c g⟩ f,by simpa using I.len⟩ ⟨c,f,.inr g⟩
  ·exact(f.2 b (Zh (ZS (ZY e) (I.ok.Rz x c T5 g)))).trans (I.base.keep b o e n hb l)
  ·obtain⟨P,e1⟩:=I.base.slot b o e n hb l;exact⟨P,(f.2 b (Zh (ZS (ZY e) (I.ok.Rz x c T5 g)))).trans e1⟩
  ·obtain⟨o',e1⟩:=I.base.there b o e l;exact⟨o',(f.2 b (Zh (ZS (ZY e) (I.ok.Rz x c T5 g)))).trans e1⟩
  ·by_cases B:j=i
   ·subst B;rw[C]at e1;cases e1;rw[XF V6]at e2;cases e2;exact⟨u,r,.inr ⟨.inl t,c,g,KH⟩⟩
   ·rw[YN (Ye B)]at e2;obtain⟨M,U,q⟩:=hl j y G e1 e2 e3;refine⟨M,U,?_⟩;rcases q with q | ⟨k,F,e,z'⟩
    ·exact .inl q
    ·refine .inr ⟨k,F,e,z'.sameBut f ?_⟩;rintro rfl;exact B (t9 hN e1 (I.ok.inj _ _ _ e g ▸ C))
  ·by_cases Sb:F=c
   ·subst Sb;exact⟨_,KH⟩
   ·obtain⟨w2,z2⟩:=I.cell y F e;exact⟨w2,z2.sameBut f Sb⟩
  ·obtain⟨e,n,ne,nf,d⟩:=I.pin p hp;refine⟨(f.2 p.1 ?_).trans e,n,ne,nf,d⟩;intro q;rw[q,Nr]at e;exact d D (by rw[← (Zi e)];exact TJ)
def sJ(I:Inv X pins J H s)(f:X.N.Nodup)(d:X.N[i]?=Z x)(b:Loc X.env.scope x)(r:RelV v u)(h:∀a,Inv X pins (J.set i (Z v)) H a->Q () a)(e:{`q0,X.fn x=O\/X.env.scope.names.lookup x=Z .local}):PP g A (storeName X.env x u) Q E s :=
 pV I f d b r (λa j _=>h a j) e
def Inv.Ry{a:IR}{ch:Wg}(I:Inv X pins J H s)(e:a.os=s.os)(u:Un (J9 X.stack) ch H H' s.heap a.heap)(d:JU X.prog X.w H' a.heap)(f:AllBare a.gens)(g:∀b∈ch,(b∈X.ex\/X.s₀.heap.objs.size<=b)/\b≠X.env.locals/\(∀x c,X.env.cells.lookup x=Z c->c≠b)/\∀p∈X.pn++pins,p.1≠b):Inv X pins J H' a:=by
 obtain⟨h',g',d',t',h⟩:=a;subst e;exact I.call (g':=g') (t':=t') (d':=d') u d f g
end
abbrev XK:=On->Option KM->Hp->Prop
noncomputable abbrev St:=List (Option V)
abbrev VK:=V->Hp->Prop
abbrev TE:=St->Hp->VK->Prop
abbrev TT:=St->Hp->(Bool->Hp->Prop)->Prop
abbrev TA:=St->Hp->(List V->Hp->Prop)->Prop
structure Ends where
 nx:St->Hp->Prop
 rt:VK
 bk:St->Hp->Prop:=λ_ _=>False
 ct:St->Hp->Prop:=λ_ _=>False
abbrev TS:=Ends->St->Hp->Prop
def EP(X:Cx)(a:X7)(J:St)(Q:VK)(u:On)(d:IR):Prop:=∃v b,Inv X a J b d/\RelV v u/\Q v b
noncomputable def TP(X:Cx)(a:X7)(J:St)(Q:Bool->Hp->Prop)(b:Bool)(e:IR):Prop:=∃d,Inv X a J d e/\Q b d
def AP(X:Cx)(a:X7)(J:St)(Q:List V->Hp->Prop)(e:Vz)(f:IR):Prop:=∃b d,Inv X a J d f/\aU b e/\Q b d
def SP(X:Cx)(a:X7)(D:Ends)(f:Flow)(e:IR):Prop :=
 match f with
 |.next=>∃d b,Inv X a d b e/\D.nx d b
 |.brk=>∃d b,Inv X a d b e/\D.bk d b
 |.cont=>∃d b,Inv X a d b e/\D.ct d b
 |.ret u=>∃v d b,Inv X a d b e/\RelV v u/\D.rt v b
def PE(X:Cx)(e:Expr)(t:TE):Prop :=
 ∀(a:X7)(s:IR)(J:St)(H:Hp)(Q:VK),Inv X a J H s->t J H Q->PP (KB X.prog X.w) X.A (eval e X.env) (EP X a J Q) X.xe s
def PT(X:Cx)(e:Expr)(t:TT):Prop :=
 ∀(a:X7)(s:IR)(J:St)(H:Hp)(Q:Bool->Hp->Prop),Inv X a J H s->t J H Q->PP (KB X.prog X.w) X.A (isTrue e X.env (eval e X.env)) (TP X a J Q) X.xe s
def PW(X:Cx)(e:Expr)(t:TT):Prop :=
 ∀(whole:Sem On)(a:X7)(s:IR)(J:St)(H:Hp)(Q:Bool->Hp->Prop),Inv X a J H s->t J H Q->PP (KB X.prog X.w) X.A (isTrue e X.env whole) (TP X a J Q) X.xe s
def PW.pt(h:PW X e t):PT X e t:=h _
def PA(X:Cx)(b:List Expr)(t:TA):Prop :=
 ∀(pos:Pos)(a:X7)(s:IR)(J:St)(H:Hp)(Q:List V->Hp->Prop),Inv X a J H s->t J H Q->PP (KB X.prog X.w) X.A (spliced (backTo pos (Pv b X.env))) (AP X a J Q) X.xe s
def PS(X:Cx)(b:Stmt)(t:TS):Prop :=
 ∀(a:X7)(s:IR)(J:St)(H:Hp)(D:Ends),Inv X a J H s->t D J H->PP (KB X.prog X.w) X.A (exec b X.env) (SP X a D) X.xe s
def Kq(X:Cx)(b:List Stmt)(t:TS):Prop :=
 ∀(a:X7)(s:IR)(J:St)(H:Hp)(D:Ends),Inv X a J H s->t D J H->PP (KB X.prog X.w) X.A (execs b X.env) (SP X a D) X.xe s
def thn{α:Type}{t:Sem α}{Q b:α->IR->Prop}(h:PP d A t Q E s)(e:∀a s,Q a s->b a s):PP d A t b E s:=YX h e λ_ _ x=>x
section
noncomputable def Ht(i:Nat):TE:=λJ H Q=>∃v,J[i]?=Z (Z v)/\Q v H
noncomputable def tC(v:V):TE:=λ_ H Q=>Q v H
def fR{X:Cx}(p:X.N[i]?=Z x)(n:Lg X.env.scope x)(f:{`q1,K3 x})(q:{`q1,K4 x}):PE X (.Name x d) (Ht i):=by
 intro b s J H Q I h;obtain⟨v,e,h⟩:=h;obtain⟨m,o,hl⟩:=I.loc;obtain⟨u,r,l⟩:=hl i x v p e n;have fin:EP X b J Q u s:=⟨v,H,I,r,h⟩
 rcases l with⟨a,hm⟩ | ⟨a,c,g,j⟩
 ·exact wpAny_Name (wpAny_loadName_local I.ok.kind a o hm fin) f
 ·rcases a with a | a
  ·exact wpAny_Name (wpAny_loadName_cell I.ok.kind a g j fin) f
  ·exact wpAny_Name (wpAny_loadName_free I.ok.kind a g j fin q) f
def rK{i j pos}:PE X (.Constant (.int i) j pos) (tC (.int i)):=λ_ _ _ H _ I h=>wpAny_Constant_int ⟨.int i,H,I.tok _,⟨_,rfl⟩,h⟩
def Hu{b j pos}:PE X (.Constant (.bool b) j pos) (tC (.bl b)):=λ_ _ _ H _ I h=>Constant_bool ⟨.bl b,H,I,rfl,h⟩
def EK{j pos}:PE X (.Constant .none j pos) (tC .non):=λ_ _ _ H _ I h=>Constant_none ⟨.non,H,I,rfl,h⟩
def Ea{x j pos}:PE X (.Constant (.str x) j pos) (tC (.str x)):=λ_ _ _ H _ I h=>Calls.Constant_str ⟨.str x,H,I.tok _,⟨_,rfl⟩,h⟩
noncomputable def Gl(X:Cx)(x:Str):Prop:=X.env.kindOf x=Z .globalImplicit
def nH(I:Inv X a J H s)(e:Gl X x)(d:X.mg x=Z u)(h:Q u s)(f:{`q1,K3 x}):PP (KB X.prog X.w) X.A (eval (.Name x b) X.env) Q E s :=
 Calls.Name_function_global I.ok.kind e (Calls.loadGlobal_global (by rw[I.ok.glob];exact I.mod.glob.keeps I.bk) d h) f
def kz(I:Inv X a J H s)(g:Gl X x)(f:X.mg x=L)(d:bootBuiltins x=Z u)(h:Q u s)(e:{`q1,x ≠ "__name__"})(i:{`q1,K3 x}):PP (KB X.prog X.w) X.A (eval (.Name x b) X.env) Q E s:=by
 obtain⟨m,l,j⟩:=I.mod.blt;exact Calls.Name_function_global I.ok.kind g (Calls.loadGlobal_builtin (by rw[I.ok.glob];exact I.mod.glob.keeps I.bk) f (by rw[I.ok.blt];exact l.keeps I.bk) ((j x e).trans d) h) i
def CD(d:Gl X x)(b:X.mg x=Z u)(r:RelV v u)(e:{`q1,K3 x}):PE X (.Name x a) (tC v) :=
 λ_ _ _ H _ I h=>nH I d b ⟨v,H,I,r,h⟩ e
def CU{v:V}(f:Gl X x)(e:X.mg x=L)(b:bootBuiltins x=Z u)(r:RelV v u)(d:{`q1,x ≠ "__name__"})(g:{`q1,K3 x}):PE X (.Name x a) (tC v) :=
 λ_ _ _ H _ I h=>kz I f e b ⟨v,H,I,r,h⟩ d g
def PC(X:Cx)(g:CmpOp)(a b:Expr)(t:TE):Prop :=
 ∀(d:X7)(s:IR)(J:St)(H:Hp)(Q:VK),Inv X d J H s->t J H Q →
  PP (KB X.prog X.w) X.A (eval a X.env) (λv f=>PP (KB X.prog X.w) X.A (eval b X.env) (λu e=>PP (KB X.prog X.w) X.A (SL g v u) (EP X d J Q) X.xe e) X.xe f) X.xe s
def rY(b:Expr)(h:d ≠ .In)(e:d ≠ .NotIn):behindInMarks d b=R:=by
 have e1:(d==CmpOp.In)=R:=by cases d<;>first | rfl | exact absurd Y h
 have e2:(d==CmpOp.NotIn)=R:=by cases d<;>first | rfl | exact absurd Y e
 cases b<;>simp[behindInMarks,e1,e2]
noncomputable def HY(ta:TE):TE:=λJ H Q=>ta J H λx d=>Q (.bl (decide (x=.non))) d
noncomputable def G5(ta:TE):TE:=λJ H Q=>ta J H λx d=>Q (.bl (!decide (x=.non))) d
def RelV.Ls(r:RelV x v):(v==Value.none)=decide (x=.non):=by
 cases x with
 |non=>cases r;rfl
 |bl _=>cases r;rfl
 |int _=>obtain⟨t,rfl⟩:=r;rfl
 |str _=>obtain⟨t,rfl⟩:=r;rfl
 |byt _=>obtain⟨t,rfl⟩:=r;rfl
 |flt _=>obtain⟨t,rfl⟩:=r;rfl
 |ref _=>cases r;rfl
 |ty _=>cases r;rfl
def A3{j pos'}(f:PE X a ta):PC X .Is a (.Constant .none j pos') (HY ta):=by
 intro d s J H Q I h;refine thn (f d s J H _ I h) λv s1 g=>?_;obtain⟨x,l,i,r1,e⟩:=g;exact Constant_none (is_none_gen ⟨.bl _,l,i,by rw[r1.Ls];rfl,e⟩)
def BM{j pos'}(f:PE X a ta):PC X .IsNot a (.Constant .none j pos') (G5 ta):=by
 intro d s J H Q I h;refine thn (f d s J H _ I h) λv s1 g=>?_;obtain⟨x,l,i,r1,e⟩:=g;exact Constant_none (isnot_none_gen ⟨.bl _,l,i,by rw[r1.Ls];rfl,e⟩)
noncomputable def tB(t:TE):TT:=λJ H Q=>t J H λx d=>∃c,x=.bl c/\Q c d
def DU(h:PC X e a b t)(f:behindInMarks e b=R:=by first | exact rY _ (by decide) (by decide) | rfl):PE X (.Compare a [e] [b] pos) t:=λd s J H Q I hw=>wpAny_Compare1 (h d s J H Q I hw) f
def zU(h:PC X f a b t)(g:behindInMarks f b=R:=by first | exact rY _ (by decide) (by decide) | rfl):PT X (.Compare a [f] [b] pos) (tB t):=by
 intro e s J H Q I hw;refine wpAny_isTrue_Compare1 (thn (h e s J H _ I hw) λv s1 g=>thn g λu p l=>thn l λc o j=>?_) g;obtain⟨x,n,m,r1,i⟩:=j;obtain⟨d,rfl,q⟩:=i;cases r1;exact YK ⟨n,m,q⟩
noncomputable def Ij(t u:TT):TT:=λJ H Q=>t J H λc d=>if c=O then u J d Q else Q R d
noncomputable def tOr(t u:TT):TT:=λJ H Q=>t J H λc d=>if c=O then Q O d else u J d Q
noncomputable def Ie(t:TT):TT:=λJ H Q=>t J H λc d=>Q (!c) d
def kJ(f:PT X a tA):PW X (.BoolOp .And [a] pos) tA:=by
 intro g d s J H Q I h;refine isTrue_and (thn (f d s J H Q I h) λc s1 e=>?_);cases c with
 |true=>exact isTrue_and_nil e
 |false=>exact e
def ox(f:PT X a tA):PW X (.BoolOp .Or [a] pos) tA:=by
 intro g d s J H Q I h;refine isTrue_or (thn (f d s J H Q I h) λc s1 e=>?_);cases c with
 |false=>exact isTrue_or_nil e
 |true=>exact e
def FI{X:Cx}{a:Expr}{pos:Pos}{tA RP:TT}{rest:List Expr}(l:PT X a tA)(j:PW X (.BoolOp .And (b :: rest) pos) RP):PW X (.BoolOp .And (a :: b :: rest) pos) (Ij tA RP):=by
 intro i d s J H Q I h;refine isTrue_and (thn (l d s J H _ I h) λc s1 m=>?_);obtain⟨g,f,e⟩:=m;cases c with
 |true=>exact j i d s1 J g Q f e
 |false=>exact⟨g,f,e⟩
def Gp{X:Cx}{a:Expr}{pos:Pos}{tA RP:TT}{rest:List Expr}(l:PT X a tA)(j:PW X (.BoolOp .Or (b :: rest) pos) RP):PW X (.BoolOp .Or (a :: b :: rest) pos) (tOr tA RP):=by
 intro i d s J H Q I h;refine isTrue_or (thn (l d s J H _ I h) λc s1 m=>?_);obtain⟨g,f,e⟩:=m;cases c with
 |true=>exact⟨g,f,e⟩
 |false=>exact j i d s1 J g Q f e
def DS(e:PT X a tA):PT X (.UnaryOp .Not a pos) (Ie tA):=by
 intro d s J H Q I h;exact isTrue_not (e d s J H (λc f=>Q (!c) f) I h)
noncomputable def GO(ta e:TE):TE:=λJ H Q=>ta J H λx d=>∃c,x=.bl c/\if c=O then e J d Q else Q (.bl R) d
noncomputable def Gq(ta:TE):TE:=λJ H Q=>ta J H λx d=>∃c,x=.bl c/\Q (.bl (!c)) d
def ES{op}(h:PE X a t):PE X (.BoolOp op [a] pos) t:=λd s J H Q I hw=>BoolOp_one (h d s J H Q I hw)
def EC{X:Cx}{a:Expr}{ta tb:TE}{pos:Pos}{rest:List Expr}(j:PE X a ta)(i:PE X (.BoolOp .And (b :: rest) pos) tb):PE X (.BoolOp .And (a :: b :: rest) pos) (GO ta tb):=by
 intro d s J H Q I h;refine BoolOp_and (thn (j d s J H _ I h) λv s1 l=>?_);obtain⟨x,g,f,r1,e⟩:=l;obtain⟨c,rfl,e⟩:=e;cases r1;refine YK ?_;cases c with
 |true=>exact i d s1 J g Q f e
 |false=>exact⟨.bl R,g,f,rfl,e⟩
def EY(f:PE X a ta):PE X (.UnaryOp .Not a pos) (Gq ta):=by
 intro d s J H Q I h;refine UnaryOp_ (thn (f d s J H _ I h) λv s1 g=>?_);obtain⟨x,j,i,r1,e⟩:=g;obtain⟨c,rfl,e⟩:=e;cases r1;exact not_of (YK ⟨.bl (!c),j,i,rfl,e⟩)
noncomputable def tIf(t:TT)(ta e:TE):TE:=λJ H Q=>t J H λc d=>if c=O then ta J d Q else e J d Q
def AB(j:PT X c tA)(m:PE X a ta)(l:PE X b tb):PE X (.IfExp c a b pos) (tIf tA ta tb):=by
 intro e s J H Q I h;refine wpAny_IfExp (thn (j e s J H _ I h) λd s1 n=>?_);obtain⟨i,g,f⟩:=n;cases d with
 |true=>exact m e s1 J i Q g f
 |false=>exact l e s1 J i Q g f
end
def IT(K:Wu)(H:Hp)(a:KM)(d:List V):Prop :=
 Rd H a (.lst d) ∨
  ∃(o:Obj)(b:Array On)(n:Nat),K.lookup a=Z o/\o.cls=.type "list" ∧ o.dict=L/\o.data=.seq b n/\b.size<=KF/\aU d b.toList
def JT(K:Wu)(H:Hp)(a:KM)(d:List V):Prop :=
 Rd H a (.tup d) ∨
  ∃(o:Obj)(b:Array On)(n:Nat),K.lookup a=Z o/\o.cls=.type "tuple" ∧ o.data=.seq b n/\b.size<=KF/\aU d b.toList
noncomputable def HR:On->Option V
 |.none=>Z .non
 |.bool b=>Z (.bl b)
 |.int i _=>Z (.int i)
 |.str x _=>Z (.str x)
 |.bytes b _=>Z (.byt b)
 |.float b _=>Z (.flt b)
 |.ref a=>Z (.ref a)
 |.type n=>Z (.ty n)
 |_=>L
def RelV.abs(r:RelV x u):HR u=Z x:=by
 cases x with
 |non=>cases r;rfl
 |bl _=>cases r;rfl
 |int _=>obtain⟨t,rfl⟩:=r;rfl
 |str _=>obtain⟨t,rfl⟩:=r;rfl
 |byt _=>obtain⟨t,rfl⟩:=r;rfl
 |flt _=>obtain⟨t,rfl⟩:=r;rfl
 |ref _=>cases r;rfl
 |ty _=>cases r;rfl
def RelV.inj(r:RelV x u)(q:RelV y u):x=y:=Zi (r.abs.symm.trans q.abs)
theorem aU.inj:∀{b a:List V}{d:Vz},aU b d->aU a d->b=a
 |_,_,_,.nil,.nil=>rfl
 |_,_,_,.cons r t,.cons f e=>by rw[r.inj f,aU.inj t e]
section
variable{H:Hp}
def IT.of{K:Wu}(h:H a=Z (.lst xs)):IT K H a xs:=.inl (.inl h)
def JT.of{K:Wu}(h:H a=Z (.tup xs)):JT K H a xs:=.inl (.inl h)
def Inv.list(I:Inv X pins J H s)(h:IT X.K H a xs):∃b:Vz,aU xs b/\PlainL s.heap a b.toArray/\xs.length<=sizeLine:=by
 rcases h with h | ⟨o,b,n,f,g,hd,d,i,r⟩
 ·obtain⟨z,b,n,r,e⟩:=h.ok I.p0;exact⟨b,r,⟨_,n,e,rfl,rfl,rfl⟩,z⟩
 ·refine⟨b.toList,r,⟨o,n,I.Kd a o f,g,hd,by simpa using d⟩,?_⟩;have e:=r.length;simp only[Z2]at e;lia
def Inv.tuple(I:Inv X pins J H s)(h:JT X.K H a xs):∃b:Vz,aU xs b/\IsTup s.heap a b.toArray/\xs.length<=sizeLine:=by
 rcases h with h | ⟨o,b,n,f,g,d,i,r⟩
 ·obtain⟨z,b,r,_,p⟩:=h.ok I.p0;exact⟨b,r,p,z⟩
 ·refine⟨b.toList,r,⟨o,I.Kd a o f,g,n,by simpa using d⟩,?_⟩;have e:=r.length;simp only[Z2]at e;lia
def Inv.Lv(I:Inv X pins J H s)(h:IT X.K H a xs)(j:IT X.K H a ys):xs=ys:=by
 obtain⟨i,r,⟨o,n,e,_,_,d⟩,_⟩:=I.list h;obtain⟨l,g,⟨m,p,b,_,_,f⟩,_⟩:=I.list j;rw[e]at b;cases b;rw[d]at f;injection f with d1 _
 have:i=l:=by simpa using congrArg Array.toList d1
 subst this;exact r.inj g
def Inv.Mh(I:Inv X pins J H s)(h:JT X.K H a xs)(j:JT X.K H a ys):xs=ys:=by
 obtain⟨i,r,⟨o,e,_,n,d⟩,_⟩:=I.tuple h;obtain⟨l,g,⟨m,b,_,p,f⟩,_⟩:=I.tuple j;rw[e]at b;cases b;rw[d]at f;injection f with d1 _
 have:i=l:=by simpa using congrArg Array.toList d1
 subst this;exact r.inj g
end
noncomputable abbrev Cx.Kz(X:Cx)(E:Xf):Cx:={ X with xe:=E }
abbrev Cx.Lj(X:Cx):Cx:=X.Kz λ_ _=>False
theorem Cx.Ok.Kz{X:Cx}(a:X.Ok)(E:Xf):(X.Kz E).Ok :=
 ⟨a.mod,a.kind,a.glob,a.blt,a.above,a.inj,a.has,a.Rz,a.hd,a.frames,a.RQ,a.exf,a.tb,a.bs,a.NC,a.MN,a.N1,a.Kg,a.O8⟩
def Cx.Ok.JH{X:Cx}(a:(X.Kz E).Ok):X.Ok :=
 ⟨a.mod,a.kind,a.glob,a.blt,a.above,a.inj,a.has,a.Rz,a.hd,a.frames,a.RQ,a.exf,a.tb,a.bs,a.NC,a.MN,a.N1,a.Kg,a.O8⟩
section
variable{H:Hp}
theorem Inv.Kz(I:Inv X pins J H s)(E:Xf):Inv (X.Kz E) pins J H s:=⟨I.ok.Kz E,I.os,I.bare,I.base,I.loc,I.cell,I.free,I.JE,I.pin,I.p0,I.len⟩
theorem Inv.JH{X:Cx}(I:Inv (X.Kz E) pins J H s):Inv X pins J H s:=⟨I.ok.JH,I.os,I.bare,I.base,I.loc,I.cell,I.free,I.JE,I.pin,I.p0,I.len⟩
theorem SP.JH{X:Cx}(h:SP (X.Kz E) pins D f d):SP X pins D f d:=by
 cases f with
 |next=>obtain⟨a,b,I,q⟩:=h;exact⟨a,b,I.JH,q⟩
 |brk=>obtain⟨a,b,I,q⟩:=h;exact⟨a,b,I.JH,q⟩
 |cont=>obtain⟨a,b,I,q⟩:=h;exact⟨a,b,I.JH,q⟩
 |ret u=>obtain⟨v,a,b,I,r,q⟩:=h;exact⟨v,a,b,I.JH,r,q⟩
theorem Kq.Lj{X:Cx}(h:Kq X.Lj a t):Kq X a t:=λpins s J H D I hw =>
 YX (h pins s J H D (I.Kz _) hw) (λ_ _ q=>q.JH) λ_ _ z=>False.elim z
end
section
variable{st:Stmt}
noncomputable def GK:TS:=λD J H=>D.nx J H
noncomputable def HX(t u:TS):TS:=λD J H=>t { D with nx:=u D } J H
def CV:Kq X [] GK:=λ_ _ J H _ I h=>WM ⟨J,H,I,h⟩
def yA{X:Cx}{rest:List Stmt}{t u:TS}(d:PS X st t)(b:Kq X rest u):Kq X (st :: rest) (HX t u):=by
 intro a s J H D I h;refine wpAny_execs_cons (thn (d a s J H { D with nx:=u D } I h) λf s1 q=>?_);cases f with
 |next =>
  obtain⟨g,j,i,q⟩:=q;exact b a s1 g j D i q
 |ret v=>exact q
 |brk=>exact q
 |cont=>exact q
def ar(b:PS X st t):Kq X [st] t:=by
 intro a s J H D I h;refine wpAny_execs_cons (thn (b a s J H D I h) λf s1 q=>?_);cases f with
 |next=>exact WM q
 |ret v=>exact q
 |brk=>exact q
 |cont=>exact q
def Inv.quiet(I:Inv X a J H s):interactive X.env=R:=by simp[interactive,I.ok.kind]
noncomputable def HC(a:TE):TS:=λD J H=>a J H λ_ b=>D.nx J b
def jR{pos:Pos}(he:PE X e te)(d:{`q2,swapsWith e L pos.line X.env=pure R}):PS X (.Expr e pos) (HC te):=by
 intro a s J H D I h;exact wpAny_Expr_any (thn (he a s J H _ I h) λv s1 ⟨x,g,f,r1,b⟩=>⟨J,g,f,b⟩) I.quiet d
noncomputable def Ir(a:TE):TS:=λD J H=>a J H D.rt
def pB(he:PE X e te):PS X (.Return (Z e) pos) (Ir te):=by
 intro a s J H D I h;refine wpAny_Return_some (thn (he a s J H _ I h) λv s1 d=>?_);obtain⟨x,g,f,r1,b⟩:=d;exact⟨x,J,g,f,r1,b⟩
noncomputable def HQ(c:TT)(t u:TS):TS:=λD J H=>c J H λb a=>if b=O then t D J a else u D J a
def Hr(m:PT X c g)(o:Kq X a t)(n:Kq X b u):PS X (.If c a b pos) (HQ g t u):=by
 intro f s J H D I h;refine wpAny_If (thn (m f s J H _ I h) λd s1 p=>?_);obtain⟨l,j,i⟩:=p;cases d with
 |true=>exact o f s1 J l D j i
 |false=>exact n f s1 J l D j i
end
abbrev TG:=V->St->Hp->(St->Hp->Prop)->Prop
abbrev N6:=List V->St->Hp->(St->Hp->Prop)->Prop
def PG(X:Cx)(a:Expr)(t:TG):Prop :=
 ∀(b:X7)(s:IR)(J:St)(H:Hp)(v:V)(u:On)(Q:St->Hp->Prop),Inv X b J H s->RelV v u->t v J H Q →
  PP (KB X.prog X.w) X.A (assign a X.env u) (λ_ f=>∃d e,Inv X b d e f/\Q d e) X.xe s
def ND(X:Cx)(g:List Expr)(t:N6):Prop :=
 ∀(a:X7)(s:IR)(J:St)(H:Hp)(b:List V)(d:Vz)(Q:St->Hp->Prop),Inv X a J H s->aU b d->t b J H Q →
  PP (KB X.prog X.w) X.A (assignInOrder ((assignEach g X.env).map (·.2)) d) (λ_ h=>∃e f,Inv X a e f h/\Q e f) X.xe s
abbrev Ca:=V->V->V->Hp->(Hp->Prop)->Prop
def En(X:Cx)(t:Ca):Prop :=
 ∀(a:X7)(s:IR)(J:St)(H:Hp)(o i v:V)(b iv u:On)(Q:Hp->Prop),Inv X a J H s->RelV o b->RelV i iv->RelV v u->t o i v H Q →
  PP (KB X.prog X.w) X.A (setItem b iv u) (λ_ e=>∃d,Inv X a J d e/\Q d) X.xe s
section
noncomputable def Df(i:Nat):TG:=λv J H Q=>Q (J.set i (Z v)) H
def CK{X:Cx}(f:X.N.Nodup)(d:X.N[i]?=Z x)(b:Loc X.env.scope x)(e:{`q0,X.fn x=O\/X.env.scope.names.lookup x=Z .local}):PG X (.Name x pos) (Df i):=by
 intro a s J H v u Q I r h;exact wpAny_assign_Name (sJ I f d b r (λj g=>⟨_,H,g,h⟩) e)
noncomputable def HZ:N6:=λa J H Q=>a=[]/\Q J H
noncomputable def G0(t:TG)(u:N6):N6:=λa J H Q=>∃v r,a=v :: r/\t v J H λb d=>u r b d Q
def Ct:ND X [] HZ:=by
 intro a s J H b d Q I r h;obtain⟨e,h⟩:=h;subst e;cases r;exact assignInOrder_nil ⟨J,H,I,h⟩
def zS(l:PG X e t)(j:ND X b u)(g:{`q2,(assignEach (e :: b) X.env).map (·.2)=assign e X.env :: (assignEach b X.env).map (·.2)}):ND X (e :: b) (G0 t u):=by
 intro a s J H p w Q I r h;obtain⟨v,q,e1,h⟩:=h;subst e1;cases r with
 |cons r d =>
  rw[g];refine assignInOrder_cons (thn (l a s J H _ _ _ I r h) λ_ s1 i=>?_);obtain⟨m,o,n,f⟩:=i;exact j a s1 m o _ _ Q n d f
def nr(K:Wu)(n:Nat)(t:N6):TG:=λv J H Q=>∃a b,v=.ref a/\JT K H a b/\b.length=n/\t b J H Q
def Ee{X:Cx}(q:X.calm=O)(h:ND X f t)(p:{`q2,(assignEach f X.env).length=n})(w:{`q2,(assignEach f X.env).findIdx? (·.1)=L}):PG X (.Tuple f k pos) (nr X.K n t):=by
 intro d s J H v u Q I r hw;obtain⟨a,i,e1,m,hl,hw⟩:=hw;subst e1;cases r;obtain⟨x,g,l,y⟩:=I.tuple m;refine assign_Tuple_tuple (I.ok.hd q) l (by simp[p,← hl,g.length]) w λz j=>?_;exact h d _ J H i _ Q (I.kept (t':=s.toks) λb o e=>j b o (Zh (ZY e)) e) (by simpa using g) hw
noncomputable def GL(a b:TE)(t:Ca):TG:=λv J H Q=>a J H λo f=>b J f λi e=>t o i v e λd=>Q J d
def uO(p:PE X o e)(q:PE X i f)(n:En X t)(w:{`q3,∀v,assign (.Subscript o i pos) X.env v=(do
   let b ← holding [v] (eval o X.env)
   let iv ← holding [v,b] (eval i X.env)
   standAt pos
   holding [v,b,iv] (setItem b iv v)
   release [v,b,iv] [])}):PG X (.Subscript o i pos) (GL e f t):=by
 intro a s J H v u Q I r h;rw[w];refine Zx (Yj (thn (p a s J H _ I h) λb s1 d=>?_));obtain⟨x,E,B,r1,m⟩:=d;refine Zx (Yj (thn (q a s1 J E _ B m) λiv g d=>?_));obtain⟨y,D,A,r2,l⟩:=d;refine Zx (wpAny_standAt (Zx (Yj (thn (n a g J D x y v b iv u _ A r1 r2 r l) λ_ F d=>?_))));obtain⟨C,z,j⟩:=d;exact wpAny_release ⟨J,C,z,j⟩
noncomputable def GN(a:TE)(g:TG):TS:=λD J H=>a J H λx b=>g x J b D.nx
def uq{pos:Pos}(he:PE X e d)(j:PG X b g)(i:{`q2,swapsWithSole [b] e pos.line X.env=pure R})(hw:{`q2,swappedStores [b] e X.env=pure L})(m:{`q2,(assignEach [b] X.env).map (·.2)=[assign b X.env]}):PS X (.Assign [b] e pos) (GN d g):=by
 intro a s J H D I h;refine wpAny_Assign_stores (thn (he a s J H _ I h) λv s1 l=>?_) i hw;obtain⟨x,o,n,r1,f⟩:=l;rw[m];exact thn (j a s1 J o x v _ n r1 f) λ_ p q=>q
def uX{X:Cx}{pos:Pos}(o:X.N.Nodup)(l:X.N[i]?=Z x)(g:Loc X.env.scope x)(he:PE X e d)(j:{`q2,swapsWith e (Z (.Name x a)) pos.line X.env=pure R})(m:{`q0,X.fn x=O\/X.env.scope.names.lookup x=Z .local}) :
  PS X (.Assign [.Name x a] e pos) (GN d (Df i)):=by
 intro b s J H D I h;refine wpAny_Assign_Name (thn (he b s J H _ I h) λv s1 n=>?_) j;obtain⟨y,r,q,r1,f⟩:=n;exact sJ q o l g r1 (λt p=>⟨_,r,p,f⟩) m
end
section
def D9(c:TT)(g:TS):TS:=λD J H=>∃W:Nat->St->Hp->Prop,(∃m,W m J H)/\∀m J H,W m J H →
 c J H λb e=>if b=O then ∃N:St->Hp->Prop,(∀d f,N d f->∃a,a<m/\W a d f)/\g { D with nx:=N,ct:=N,bk:=D.nx } J e else D.nx J e
def AW{X:Cx}(u:PassesOwn (KB X.prog X.w) X.A X.env X.xe)(Q:PT X c r)(S:Kq X d t):PS X (.While c d [] pos) (D9 r t):=by
 intro a s J H D I h;obtain⟨W,⟨P,F⟩,turn⟩:=h;refine wpAny_While (codeAny_whileLoop (λn M=>∃x C,Inv X a x C M/\W n x C) ?_ P ⟨J,H,I,F⟩);rintro n s1 ⟨l,B,I1,E⟩;refine Xi u (thn (Q a s1 l B _ I1 (turn n l B E)) λb G U=>?_);obtain⟨z,y,j⟩:=U;cases b with
 |true =>
  obtain⟨N,hN,j⟩:=j;rw[Zn Y];refine Xi u (thn (S a G l z _ y j) λf s3 i=>?_);cases f with
  |next =>
   obtain⟨e,g,q,o⟩:=i;obtain⟨p,hm,m⟩:=hN e g o;exact⟨p,hm,e,g,q,m⟩
  |cont =>
   obtain⟨e,g,q,o⟩:=i;obtain⟨p,hm,m⟩:=hN e g o;exact⟨p,hm,e,g,q,m⟩
  |brk=>exact i
  |ret v=>exact i
 |false =>
  rw[Zl Zc];exact WM ⟨l,z,y,j⟩
end
structure It where
 go:Nat->Hp->Prop
 RK:Nat->Hp->V->Hp->Prop
 stop:Nat->Hp->Prop
def jk(X:Cx)(a:X7)(H:Hp)(b:KM):Prop :=
 H b=L/\b≠X.env.locals/\b∉X.fs/\(b∈X.ex\/X.s₀.heap.objs.size<=b)/\(∀x c,X.env.cells.lookup x=Z c->c≠b)/\∀p∈X.pn++a,p.1≠b
def Inv.LX(I:Inv X a J H s)(d:s.heap.objs.size<=b)(h:f b=L):jk X a f b:=by
 refine⟨h,Xy (ZS I.lt d),I.S8 d,.inr (ZP I.sz d),λx c e z=>?_,λp g z=>?_⟩
 ·obtain⟨v,q⟩:=I.cell x c e;exact absurd (ZS q.lt (by rw[z];exact d)) (YR _)
 ·exact absurd (ZS (ZY (I.pin p g).1) (by rw[z];exact d)) (YR _)
structure Turn(P:Re)(w:UF)(K:Wu)(tg:Expr)(Jq:It)(fp:Wg)(it:KM)(tn:Nat->SZ->Prop):Prop where
 mem:it∈fp
 obj:∀i h,tn i h->∀b∈fp,∃o,h.get? b=some o/\∀v,o.data ≠ .cell v
 keep:∀i h h',tn i h->(∀b∈fp,∀o,h.get? b=some o->h'.get? b=some o)->tn i h'
 item:∀(X:Cx),X.prog=P->X.w=w->X.K=K->X.calm=true->∀(i:Nat)(pins:X7)(s:IR)(J:St)(H:Hp)(E:Xf),Inv X pins J H s->(∀b∈fp,jk X pins H b)->tn i s.heap->Jq.go i H →
  PP (KB P w) X.A (pyNext (.ref it)) (λr s1=>∃u,r=some u ∧
   PP (KB P w) X.A (letOwnedTupleGo tg (.ref it) u) (λ_ s2=>∃x H',Inv X pins J H' s2/\RelV x u/\Jq.RK i H x H'/\tn (i+1) s2.heap/\∀b∈fp,H' b=none) E s1) E s
 done:∀(X:Cx),X.prog=P->X.w=w->X.K=K->X.calm=true->∀(i:Nat)(pins:X7)(s:IR)(J:St)(H:Hp)(E:Xf),Inv X pins J H s->(∀b∈fp,jk X pins H b)->tn i s.heap->Jq.stop i H →
  PP (KB P w) X.A (pyNext (.ref it)) (λr s1=>r=none/\Inv X pins J H s1) E s
 self:∀(A:SB)(i:Nat)(s:IR)(Q:Xf)(E:Xf),tn i s.heap->Q (.ref it) s->PP (KB P w) A (pyIter (.ref it)) Q E s
abbrev TI:=St->Hp->(It->Hp->Prop)->Prop
def PIE(X:Cx)(a:X7)(J:St)(g:Expr)(R:It->Hp->Prop)(h:On)(e:IR):Prop :=
 ∃(it:KM)(fp:Wg)(tn:Nat->SZ->Prop)(f:It)(d:Hp),h=.ref it/\Inv X a J d e/\Turn X.prog X.w X.K g f fp it tn/\tn 0 e.heap/\(∀b∈fp,jk X a d b)/\R f d
def PI(X:Cx)(e b:Expr)(d:TI):Prop :=
 ∀(a:X7)(s:IR)(J:St)(H:Hp)(R:It->Hp->Prop),Inv X a J H s->d J H R →
  PP (KB X.prog X.w) X.A (eval b X.env) (λv s1=>PP (KB X.prog X.w) X.A (pyIter v) (PIE X a J e R) X.xe s1) X.xe s
def tj{s:IR}(g:s.heap.get? e=Z o)(l:o.cls=.type n)(j:o.data=.fields b)(i:["enumerate", "zip", "dict_itemiterator", "dict_reverseitemiterator", "odict_iterator", "itertools.zip_longest", "itertools.pairwise"].contains n=R)(a:Q () s):PP f A (letOwnedTupleGo d (.ref e) u) Q E s:=by
 cases d<;>first
  |exact Zo a
  | (cases u<;>first
    |exact Zo a
    | (refine Zx (wpAny_load g ?_)
       rw[l,j];show PP f A (if (["enumerate", "zip", "dict_itemiterator", "dict_reverseitemiterator", "odict_iterator", "itertools.zip_longest", "itertools.pairwise"].contains n&&b[0]? == Z (rawInt _))=O then _ else _) Q E s;rw[Zl (by intro h;rw[i,Bool.false_and]at h;cases h)];exact Zo a))
def UZ(K:Wu)(a:KM):It :=
 ⟨λi H=>∃b x,IT K H a b/\b[i]?=Z x,λi H x d=>d=H/\∀b,IT K H a b->b[i]?=Z x,λi H=>∃b,IT K H a b/\b.length<=i⟩
def UY(K:Wu)(a:KM):It :=
 ⟨λi H=>∃b x,JT K H a b/\b[i]?=Z x,λi H x d=>d=H/\∀b,JT K H a b->b[i]?=Z x,λi H=>∃b,JT K H a b/\b.length<=i⟩
noncomputable def RG(a:Int)(n:Nat):It:=⟨λi _=>i<n,λi H x b=>b=H/\x=.int (a+i),λi _=>n<=i⟩
def xD{P:Re}{w:UF}{K:Wu}{N:Expr}(a f:KM):Turn P w K N (UZ K a) [f] f (λi h=>h.IsListIter f a i) where
 mem:=by simp
 obj:=λi h st b hb=>by
  have e:b=f:=by simpa using hb
  subst e;obtain⟨o,e,c,d⟩:=st;exact⟨o,e,λv z=>by rw[d]at z;cases z⟩
 keep:=λi h F st k=>st.at λo e=>k f (by simp) o e
 item:=by
  intro X r hw t D i g s J H E I l st hg;refine L2.ak λP_ n=>?_;subst r hw t;obtain⟨M,x,j,q⟩:=hg;obtain⟨U,m,p,Y⟩:=I.list j;obtain⟨u,hu,S⟩:=m.get q;obtain⟨C,f1,f2,B,A,y⟩:=l f (by simp);refine n ?_;refine wpAny_pyNext_list_item st p.isList (x:=u) (by simpa using hu) λF G Q=>?_;obtain⟨o,e,c,d⟩:=id G;exact⟨u,rfl,tj e c d (by decide) ⟨x,H,(I.turned (t':=s.toks) (λb o hb e=>(Q.2 b hb).trans e) C f1 B A y),S,⟨rfl,λys hy=>by rw[I.Lv hy j];exact q⟩,G,λb hb=>(l b hb).1⟩⟩
 done:=by
  intro X r hw t D i g s J H E I l st hg;refine L2.ak λP_ n=>?_;subst r hw t;obtain⟨M,j,q⟩:=hg;obtain⟨U,m,p,Y⟩:=I.list j;obtain⟨C,f1,f2,B,A,y⟩:=l f (by simp);refine n ?_;have hl:=m.length;exact wpAny_pyNext_list_end (I.ok.hd D) st p.isList (by simp;lia) λF eb=>⟨rfl,I.turned (λb o hb e=>eb b o hb e) C f1 B A y⟩
 self:=λ_ _ _ _ _ st h=>wpAny_pyIter_listiter st h
def ur{P:Re}{w:UF}{K:Wu}{N:Expr}(a f:KM):Turn P w K N (UY K a) [f] f (λi h=>h.IsTupleIter f a i) where
 mem:=by simp
 obj:=λi h st b hb=>by
  have e:b=f:=by simpa using hb
  subst e;obtain⟨o,e,c,d⟩:=st;exact⟨o,e,λv z=>by rw[d]at z;cases z⟩
 keep:=λi h F st k=>st.at λo e=>k f (by simp) o e
 item:=by
  intro X r hw t D i g s J H E I l st hg;refine L2.ak λP_ n=>?_;subst r hw t;obtain⟨M,x,j,q⟩:=hg;obtain⟨U,m,p,Y⟩:=I.tuple j;obtain⟨u,hu,S⟩:=m.get q;obtain⟨C,f1,f2,B,A,y⟩:=l f (by simp);refine n ?_;refine wpAny_pyNext_tuple_item st (p) (x:=u) (by simpa using hu) λF G Q=>?_;obtain⟨o,e,c,d⟩:=id G;exact⟨u,rfl,tj e c d (by decide) ⟨x,H,(I.turned (t':=s.toks) (λb o hb e=>(Q.2 b hb).trans e) C f1 B A y),S,⟨rfl,λys hy=>by rw[I.Mh hy j];exact q⟩,G,λb hb=>(l b hb).1⟩⟩
 done:=by
  intro X r hw t D i g s J H E I l st hg;refine L2.ak λP_ n=>?_;subst r hw t;obtain⟨M,j,q⟩:=hg;obtain⟨U,m,p,Y⟩:=I.tuple j;obtain⟨C,f1,f2,B,A,y⟩:=l f (by simp);refine n ?_;have hl:=m.length;exact wpAny_pyNext_tuple_end (I.ok.hd D) st (p) (by simp;lia) λF eb=>⟨rfl,I.turned (λb o hb e=>eb b o hb e) C f1 B A y⟩
 self:=λ_ _ _ _ _ st h=>wpAny_pyIter_tupleiter st h
def uz{P:Re}{w:UF}{K:Wu}{A:Expr}(a:KM)(f:Int)(n:Nat):Turn P w K A (RG f n) [a] a (λi h=>IsRangeIter h a (f+(i:Nat)*1) ((n:Int)-(i:Nat)) 1) where
 mem:=by simp
 obj:=λi h st b hb=>by
  have e:b=a:=by simpa using hb
  subst e;exact⟨_,st,λv z=>by
   cases z⟩
 keep:=λi h x st k=>k a (by simp) _ st
 item:=by
  intro X l hw m j i d s J H E I g st hg;subst l hw m;obtain⟨u,f1,f2,r,q,p⟩:=g a (by simp);refine(Walks.range (prog:=X.prog) (w:=X.w) (I.ok.hd j) a f 1 n).item i s _ _ hg st λv x F C y B=>?_;obtain⟨t,rfl⟩:=C;refine⟨_,rfl,tj y Y Y (by decide) ⟨.int (f+i),H,(I.turned (λb o hb e=>B b o (by simpa using hb) e) u f1 r q p),⟨t,?_⟩,⟨rfl,rfl⟩,y,λb hb=>(g b hb).1⟩⟩;rw[Int.mul_one]
 done:=by
  intro X l hw m j i d s J H E I g st hg;subst l hw m;obtain⟨u,f1,f2,r,q,p⟩:=g a (by simp);exact wpAny_pyNext_range_end (I.ok.hd j) st (by have:n<=i:=hg;lia) λx D=>⟨rfl,I.turned (λb o hb e=>D b o hb e) u f1 r q p⟩
 self:=λ_ _ _ _ _ st h=>wpAny_pyIter_rangeiter st h
section
def tK{R:It->Hp->Prop}{a f:Int}(I:Inv X d J H s)(m:-(2 ^ 62)<=a)(l:a<2 ^ 62)(j:-(2 ^ 62)<=f)(i:f<2 ^ 62)(q:R (RG a (f-a).toNat) H):PP (KB X.prog X.w) X.A (pyIter (.ref s.heap.objs.size)) (PIE X d J tg R) E { s with heap:=s.heap.push { cls:=.type "range",data:=.fields #[.int a t,.int f u,.int 1 v] },toks:=g }:=by
 refine wpAny_pyIter_range (IsRange.new ..) (small_one m l j i) ?_;have h:Inv X d J H { s with heap:=s.heap.push { cls:=.type "range",data:=.fields #[.int a t,.int f u,.int 1 v] },toks:=g }:=I.kept λb o e=>Zp _ e;refine⟨(s.heap.push { cls:=.type "range",data:=.fields #[.int a t,.int f u,.int 1 v] }).objs.size,[(s.heap.push { cls:=.type "range",data:=.fields #[.int a t,.int f u,.int 1 v] }).objs.size],_,_,H,rfl,
  h.kept (t':=g) λb o e=>Zp _ e,uz _ a (f-a).toNat,?_,λb hb=>?_,q⟩
 ·have e1:a+((0:Nat):Int)*1=a:=by simp
  have e2:(((f-a).toNat:Nat):Int)-((0:Nat):Int)=Builtin.Range.rangeSize a f 1:=by rw[rangeSize_one];split<;>lia
  rw[e1,e2];exact Zg _ Y
 ·have e:b=(s.heap.push { cls:=.type "range",data:=.fields #[.int a t,.int f u,.int 1 v] }).objs.size:=by simpa using hb
  subst e;exact h.LX (Zm _) (h.p0.fresh (Zm _))
def Hx(ta:TA):TI:=λJ H R=>ta J H λa b=>∃j:Int,a=[.int j]/\-(2 ^ 62)<=j/\j<2 ^ 62/\R (RG 0 j.toNat) b
def G6(ta:TA):TI:=λJ H R=>ta J H λa b=>∃i j:Int,a=[.int i,.int j]/\(-(2 ^ 62)<=i/\i<2 ^ 62/\-(2 ^ 62)<=j/\j<2 ^ 62)/\R (RG i (j-i).toNat) b
def xq(o:Gl X "range")(n:X.mg "range" = L)(u:PA X [a] g)(m:{`q2,Pv [a] X.env=[(false,eval a X.env)]}):PI X tg (.Call (.Name "range" p) [a] [] b) (Hx g):=by
 intro d s J H R I h;refine Call_ (kz I o n boot_range (Xl (thn (u b d s J H _ I h) λy s1 v=>?_) m Y));obtain⟨x,z,w,r1,f⟩:=v;obtain⟨j,e,f,l,q⟩:=f;subst e;cases r1 with
 |cons r i =>
  cases i;obtain⟨t,rfl⟩:=r;exact call_range_1 (tK w (by lia) (by lia) f l (by simpa using q))
def xX(z:Gl X "range")(y:X.mg "range" = L)(A:PA X [a,b] m)(x:{`q2,Pv [a,b] X.env=[(false,eval a X.env),(false,eval b X.env)]})(n:{`q2,Pv [b] X.env=[(false,eval b X.env)]}) :
  PI X tg (.Call (.Name "range" p) [a,b] [] d) (G6 m):=by
 intro f s J H R I h;refine Call_ (kz I z y boot_range (Xl (thn (A d f s J H _ I h) λE s1 B=>?_) (by rw[x,n]) (by rw[n];rfl)));obtain⟨D,G,C,r1,l⟩:=B;obtain⟨i,j,e,⟨l,w,v,u⟩,q⟩:=l;subst e;cases r1 with
 |cons r g =>
  cases g with
  |cons o g =>
   cases g;obtain⟨t,rfl⟩:=r;obtain⟨F,rfl⟩:=o;exact call_range_2 (tK C l w v u q)
def Hc(f:TI)(g:TG)(h:TS):TS:=λD J H=>f J H λb n=>∃W:Nat->Nat->St->Hp->Prop,(∃m,W 0 m J n)/\∀i m J H,W i m J H →
 (b.stop i H/\D.nx J H)\/(b.go i H/\∃N:St->Hp->Prop,(∀e a,N e a->∃d,d<m/\W (i+1) d e a)/\∀x a,b.RK i H x a->g x J a λj l=>h { D with nx:=N,ct:=N,bk:=D.nx } j l)
noncomputable def ot(a:Wg)(h:SZ):X7:=a.filterMap λb=>(h.get? b).map λo=>(b,o)
def iG{h:SZ}(d:b∈a)(e:h.get? b=Z o):(b,o)∈ot a h:=WG.mpr ⟨b,d,by rw[e];rfl⟩
def xx(d:p∈ot a h):p.1∈a/\h.get? p.1=Z p.2:=by
 obtain⟨b,hb,e⟩:=WG.mp d;cases q:h.get? b with
 |none=>rw[q]at e;cases e
 |some o =>
  rw[q]at e;have f:=Zi e;subst f;exact⟨hb,q⟩
def Inv.pinned(I:Inv X a J H s)(j:∀b∈f,jk X a H b)(i:∀b∈f,∃o,s.heap.get? b=Z o/\∀v,o.data ≠ .cell v):Inv X (a++ot f s.heap) J H s :=
 I.L7 λp h=>(ZU.mp h).elim (λz=>I.pin p (ZE _ z)) λz=>by
  obtain⟨hb,e⟩:=xx z;obtain⟨l,f1,f2,_⟩:=j p.1 hb;obtain⟨o,g,d⟩:=i p.1 hb;rw[e]at g;cases g;exact⟨e,l,f1,f2,d⟩
def Inv.JV(I:Inv X (a++b) J H s):Inv X a J H s:=I.L7 λp d=>I.pin p (ZE _ (Xh _ d))
def FY{X:Cx}(F:PassesOwn (KB X.prog X.w) X.A X.env X.xe)(hc:X.calm=O)(hi:PI X tg j wi)(hg:PG X tg g)(l:Kq X B tb)(hs:{`q3,∀x,XAA j X.env x=pure x}):PS X (.For tg j B [] S) (Hc wi g tb):=by
 intro a s J H D I h;refine wpAny_For (thn (hi a s J H _ I h) λv s1 h1=>thn h1 λTq s2 h2=>?_) hs;refine L2.ak λP_ k_=>?_;obtain⟨it,fp,tn,Jq,H2,e,I2,T,RR,f2,W,⟨m0,w0⟩,turn⟩:=h2;subst e;refine k_ ?_;have LN:∀{y:Hp},(∀b∈fp,y b=L)->∀b∈fp,jk X a y b:=λhn b l=>⟨hn b l,(f2 b l).2⟩
 refine codeAny_forLoop_any (λn s'=>∃i M y,Inv X a M y s'/\tn i s'.heap/\(∀b∈fp,y b=L)/\W i n M y) ?_ m0 ⟨0,J,H2,I2,RR,λb l=>(f2 b l).1,w0⟩;rintro n s3 ⟨i,G,P,I3,Oe,Rj,w3⟩;rcases turn i n G P w3 with⟨stop,qn⟩ | ⟨go,N,hN,step⟩
 ·refine Xi F (thn (T.done X Y Y Y hc i a s3 G P X.xe I3 (LN Rj) Oe stop) λr s4 C=>?_);obtain⟨U,I4⟩:=C;subst U;exact WM ⟨G,P,I4,qn⟩
 ·refine Xi F (thn (T.item X Y Y Y hc i a s3 G P X.xe I3 (LN Rj) Oe go) λr s4 C=>?_);obtain⟨u,U,h4⟩:=C;subst U;refine Xi F (thn h4 λ_ s5 C=>?_);obtain⟨x,H5,I5,r5,y5,OG,Ug⟩:=C;refine Xi F (thn (hg _ s5 G H5 x u _ (I5.pinned (LN Ug) (T.obj _ _ OG)) r5 (step x H5 y5)) λ_ s6 C=>?_);obtain⟨J6,H6,I6,q6⟩:=C;refine Xi F (thn (l _ s6 J6 H6 _ I6 q6) λf Q z=>?_);have again:∀{p:St}{t:Hp},Inv X (a++ot fp s5.heap) p t Q->N p t->∃m,m<n/\∃i M y,Inv X a M y Q/\tn i Q.heap/\(∀b∈fp,y b=L)/\W i m M y:=λ{p t} q E=>by
   obtain⟨m',hm,w7⟩:=hN p t E;refine⟨m',hm,i+1,p,t,q.JV,T.keep _ _ _ OG λb l o e=>(q.pin (b,o) (ZE _ (ZE _ (iG l e)))).1,λb l=>?_,w7⟩;obtain⟨o,e,d⟩:=T.obj _ _ OG b l;exact(q.pin (b,o) (ZE _ (ZE _ (iG l e)))).2.1
  cases f with
  |next=>obtain⟨p,t,q,E⟩:=z;exact again q E
  |cont=>obtain⟨p,t,q,E⟩:=z;exact again q E
  |brk=>obtain⟨p,t,q,z⟩:=z;exact⟨p,t,q.JV,z⟩
  |ret v=>obtain⟨x7,p,t,q,r7,z⟩:=z;exact⟨x7,p,t,q.JV,r7,z⟩
end
abbrev R2:=V->V->Hp->VK->Prop
def OpR(X:Cx)(f:On->On->Sem On)(r:R2):Prop :=
 ∀(a:X7)(s:IR)(J:St)(H:Hp)(x y:V)(v u:On)(Q:VK),Inv X a J H s->RelV x v->RelV y u->r x y H Q →
  PP (KB X.prog X.w) X.A (f v u) (EP X a J Q) X.xe s
def UnR(X:Cx)(f:On->Sem On)(r:V->Hp->VK->Prop):Prop :=
 ∀(a:X7)(s:IR)(J:St)(H:Hp)(x:V)(v:On)(Q:VK),Inv X a J H s->RelV x v->r x H Q →
  PP (KB X.prog X.w) X.A (f v) (EP X a J Q) X.xe s
def dj(X:Cx)(f:On)(r:List V->Hp->VK->Prop):Prop :=
 ∀(a:X7)(s:IR)(J:St)(H:Hp)(b:List V)(d:Vz)(Q:VK),Inv X a J H s->aU b d->r b H Q →
  PP (KB X.prog X.w) X.A (call f d) (EP X a J Q) X.xe s
def Ib(X:Cx)(r:V->Hp->(Bool->Hp->Prop)->Prop):Prop :=
 ∀(a:X7)(s:IR)(J:St)(H:Hp)(x:V)(v:On)(Q:Bool->Hp->Prop),Inv X a J H s->RelV x v->r x H Q →
  PP (KB X.prog X.w) X.A (truthy v) (TP X a J Q) X.xe s
noncomputable def P7(r:R2)(ta a:TE):TE:=λJ H Q=>ta J H λx d=>a J d λy b=>r x y b Q
noncomputable def tUn(r:V->Hp->VK->Prop)(ta:TE):TE:=λJ H Q=>ta J H λx a=>r x a Q
noncomputable def rI(C:Int->Int->Prop)(g:Int->Int->V):R2:=λx y H Q=>∃i j,x=.int i/\y=.int j/\C i j/\Q (g i j) H
noncomputable def L6(g:Int->Int->V):R2:=λx y H Q=>∃i j,x=.int i/\y=.int j/\Q (g i j) H
noncomputable def rU(g:Int->V):V->Hp->VK->Prop:=λx H Q=>∃i,x=.int i/\Q (g i) H
section
def EH{X:Cx}{a b:Expr}{ta tb:TE}(r:PE X a ta)(q:PE X b tb){d:X7}{s:IR}{J:St}{H:Hp}{R:V->V->Hp->Prop}(I:Inv X d J H s)(h:ta J H λx j=>tb J j λy e=>R x y e){Q:Xf}{f:On->On->Sem On}(p:∀v u g x y e,Inv X d J e g->RelV x v->RelV y u->R x y e->PP (KB X.prog X.w) X.A (f v u) Q X.xe g) :
  PP (KB X.prog X.w) X.A (eval a X.env) (λv m=>PP (KB X.prog X.w) X.A (eval b X.env) (λu l=>PP (KB X.prog X.w) X.A (f v u) Q X.xe l) X.xe m) X.xe s:=by
 refine thn (r d s J H _ I h) λv s1 i=>?_;obtain⟨x,j,z,r1,o⟩:=i;refine thn (q d s1 J j _ z o) λu g i=>?_;obtain⟨y,e,t,r2,n⟩:=i;exact p v u g x y e t r1 r2 n
def GV(j:OpR X (binaryOp e) r)(m:PE X a ta)(l:PE X b tb):PE X (.BinOp a e b pos) (P7 r ta tb):=by
 intro d s J H Q I h;exact wpAny_BinOp (EH m l I h λv u f x y o n i g q=>j d f J o x y v u Q n i g q)
def Hz(g:UnR X (unaryOp e) r)(i:PE X a ta):PE X (.UnaryOp e a pos) (tUn r ta):=by
 intro d s J H Q I h;refine UnaryOp_ (thn (i d s J H _ I h) λv s1 j=>?_);obtain⟨x,m,l,r1,f⟩:=j;exact g d s1 J m x v Q l r1 f
def SQ{X:Cx}{f:On->On->Sem On}{C:Int->Int->Prop}{g:Int->Int->Int}(d:∀(i j:Int)(t u:Tok)(s:IR)(Q:Xf)(E:Xf),C i j->Q (.int (g i j) s.toks) { s with toks:=s.toks+1 }->PP (KB X.prog X.w) X.A (f (.int i t) (.int j u)) Q E s) :
  OpR X f (rI C λi j=>.int (g i j)):=by
 intro e s J H x y v u Q I n m h;obtain⟨i,j,rfl,rfl,o,q⟩:=h;obtain⟨t,rfl⟩:=n;obtain⟨l,rfl⟩:=m;exact d i j t l s _ _ o ⟨.int (g i j),H,I.tok _,⟨_,rfl⟩,q⟩
def GD{X:Cx}{f:On->On->Sem On}{g:Int->Int->Int}(d:∀(i j:Int)(t u:Tok)(s:IR)(Q:Xf)(E:Xf),Q (.int (g i j) s.toks) { s with toks:=s.toks+1 }->PP (KB X.prog X.w) X.A (f (.int i t) (.int j u)) Q E s) :
  OpR X f (L6 λi j=>.int (g i j)):=by
 intro e s J H x y v u Q I n m h;obtain⟨i,j,rfl,rfl,q⟩:=h;obtain⟨t,rfl⟩:=n;obtain⟨l,rfl⟩:=m;exact d i j t l s _ _ ⟨.int (g i j),H,I.tok _,⟨_,rfl⟩,q⟩
def B5{X:Cx}{f:On->On->Sem On}{g:Int->Int->Bool}(d:∀(i j:Int)(t u:Tok)(s:IR)(Q:Xf)(E:Xf),Q (.bool (g i j)) s->PP (KB X.prog X.w) X.A (f (.int i t) (.int j u)) Q E s) :
  OpR X f (L6 λi j=>.bl (g i j)):=by
 intro e s J H x y v u Q I n m h;obtain⟨i,j,rfl,rfl,q⟩:=h;obtain⟨t,rfl⟩:=n;obtain⟨l,rfl⟩:=m;exact d i j t l s _ _ ⟨.bl (g i j),H,I,rfl,q⟩
noncomputable def GI(i j:Int):Prop:=0<j/\j<1073741824
noncomputable def BY(i j:Int):Prop:=(-(2 ^ 64)<i/\i<2 ^ 64)\/(-(2 ^ 64)<j/\j<2 ^ 64)
def BY.ok{i j:Int}(h:BY i j):IntMulOk i j:=by
 rcases h with⟨e,d⟩ | ⟨e,d⟩
 ·exact .of_left (intBits_le_64 e d)
 ·exact .of_right (intBits_le_64 e d)
def EA:OpR X (binaryOp .Add) (L6 λi j=>.int (i+j)):=GD λ_ _ _ _ _ _ _ q=>add_int q
def ma:OpR X (binaryOp .Sub) (L6 λi j=>.int (i-j)):=GD λ_ _ _ _ _ _ _ q=>sub_int q
def mK:OpR X (binaryOp .Mult) (rI BY λi j=>.int (i*j)):=SQ λ_ _ _ _ _ _ _ d q=>mul_int q d.ok
def BB:OpR X (binaryOp .FloorDiv) (rI GI λi j=>.int (i/j)):=SQ λi j _ _ _ _ _ d q=>by
 have f:=d.1;have e:=d.2;exact floordiv_int (by lia) (by rw[Int.fdiv_eq_ediv_of_nonneg i (by lia)];exact q) (.inl (PyProof.noPylong_small (by omega)))
def El:OpR X (binaryOp .Mod) (rI (λ_ j=>0<j) λi j=>.int (i%j)):=SQ λi j _ _ _ _ _ d q=>by
 exact mod_int' (by lia) (by rw[Int.fmod_eq_emod_of_nonneg i (by lia)];exact q)
def unI{X:Cx}{f:On->Sem On}{g:Int->Int}(d:∀(i:Int)(t:Tok)(s:IR)(Q:Xf)(E:Xf),Q (.int (g i) s.toks) { s with toks:=s.toks+1 }->PP (KB X.prog X.w) X.A (f (.int i t)) Q E s) :
  UnR X f (rU λi=>.int (g i)):=by
 intro e s J H x v Q I j h;obtain⟨i,rfl,q⟩:=h;obtain⟨t,rfl⟩:=j;exact d i t s _ _ ⟨.int (g i),H,I.tok _,⟨_,rfl⟩,q⟩
def FV:UnR X (unaryOp .USub) (rU λi=>.int (-i)):=unI λ_ _ _ _ _ q=>neg_int q
end
section
def FZ(I:Inv X d J H s)(q:Q (.bl k) H)(e:k=f):EP X d J Q (.bool f) s:=by
 subst e;exact⟨.bl k,H,I,rfl,q⟩
def Hg:OpR X (SL .Lt) (L6 λi j=>.bl (decide (i<j))):=B5 λ_ _ _ _ _ _ _ q=>lt_int q
def GS:OpR X (SL .LtE) (L6 λi j=>.bl (decide (i<=j))):=B5 λ_ _ _ _ _ _ _ q=>le_int q
def Hm:OpR X (SL .Gt) (L6 λi j=>.bl (decide (j<i))):=B5 λ_ _ _ _ _ _ _ q=>gt_int q
def zh:OpR X (SL .GtE) (L6 λi j=>.bl (decide (j<=i))):=B5 λ_ _ _ _ _ _ _ q=>ge_int q
def wX:OpR X (SL .Lt) (λx y H Q=>∃i j,x=.str i/\y=.str j/\Q (.bl (decide (i.cps.toList<j.cps.toList))) H):=by
 intro d s J H x y v u Q I f e h;obtain⟨i,j,rfl,rfl,q⟩:=h;obtain⟨t,rfl⟩:=f;obtain⟨g,rfl⟩:=e;exact lt_str (FZ I q Y)
def OpR.or(h:OpR X f r)(j:OpR X f i):OpR X f (λx y H Q=>r x y H Q\/i x y H Q):=by
 intro d s J H x y v u Q I g e q;rcases q with q | q
 ·exact h d s J H x y v u Q I g e q
 ·exact j d s J H x y v u Q I g e q
def iM(b:Expr)(h:{`q1,d ≠ .In})(e:{`q1,d ≠ .NotIn}):behindInMarks d b=R:=by
 have e1:(d==CmpOp.In)=R:=by cases d<;>first | rfl | exact absurd Y h
 have e2:(d==CmpOp.NotIn)=R:=by cases d<;>first | rfl | exact absurd Y e
 cases b<;>simp[behindInMarks,e1,e2]
def Bf(j:OpR X (SL e) r)(n:PE X a ta)(m:PE X b tb)(l:behindInMarks e b=R):PE X (.Compare a [e] [b] pos) (P7 r ta tb):=by
 intro d s J H Q I h;exact wpAny_Compare1 (EH n m I h λv u f x y p o i g q=>j d f J p x y v u Q o i g q) l
noncomputable def zY(t:TE):TT:=λJ H Q=>t J H λx d=>∃k,x=.bl k/\Q k d
def B0(n:OpR X (SL f) r)(q:PE X a ta)(p:PE X b tb)(o:behindInMarks f b=R):PT X (.Compare a [f] [b] pos) (zY (P7 r ta tb)):=by
 intro d s J H Q I h;refine wpAny_isTrue_Compare1 (thn (q d s J H _ I h) λv s1 ⟨x,E,B,r1,m⟩=>thn (p d s1 J E _ B m) λu g ⟨y,D,A,r2,l⟩ =>
  thn (n d g J D x y v u _ A r1 r2 l) λc F t=>?_) o
 obtain⟨z,C,w,i,k,e,j⟩:=t;subst e;cases i;exact YK ⟨C,w,j⟩
noncomputable def zm(r h:R2)(ta g f:TE):TE:=λJ H Q=>ta J H λx l=>g J l λy j=>r x y j λz d=>∃k,z=.bl k ∧
 (if k=O then f J d λe i=>h y e i Q else Q (.bl R) d)
def tR(N:OpR X (SL g) r)(LV:OpR X (SL i) j)(Y:PE X a ta)(U:PE X b tb)(S:PE X c tc)(P:{`q4,lastMarks [g,i] [b,c]=R}):PT X (.Compare a [g,i] [b,c] pos) (zY (zm r j ta tb tc)):=by
 intro f s J H Q I h;refine isTrue_chain (thn (Y f s J H _ I h) λv s1 ⟨x,H1,I1,r1,G⟩=>test_link (thn (U f s1 J H1 _ I1 G) λu w ⟨y,H2,I2,r2,F⟩ =>
  thn (N f w J H2 x y v u _ I2 r1 r2 F) λd t h_=>?_)) P
 obtain⟨z,n,m,C,k,e,l⟩:=h_;subst e;cases C;refine YK ?_;cases k with
 |false =>
  obtain⟨k',e',M⟩:=l;cases e';exact ite_ff ⟨n,m,M⟩
 |true =>
  refine ite_tt (test_last (thn (S f t J n _ m l) λp q ⟨o,H4,I4,B,E⟩=>thn (LV f q J H4 y o u p _ I4 r2 B E) λd' s5 ⟨z2,H5,I5,A,k2,e2,D⟩=>?_));subst e2;cases A;exact YK ⟨H5,I5,D⟩
def DL(K:Wu)(x:V)(H:Hp)(k:Bool):Prop :=
 match x with
 |.non=>k=R
 |.bl b=>k=b
 |.int i=>k=(i != 0)
 |.str y=>y.length<=KF/\k=((y.length:Int) != 0)
 |.byt y=>y.size<=KF/\k=((y.size:Int) != 0)
 |.ref p=>(∃d,IT K H p d/\k=!d.isEmpty)\/(∃d,JT K H p d/\k=!d.isEmpty)\/∃e,H p=Z (.dK e)/\k=!e.isEmpty
 |_=>False
def vc{κ:Type}{e:List (κ×V)}{d:List (κ×On)}(r:KV e d):(!d.isEmpty)=!e.isEmpty:=by
 cases r<;>rfl
def oq(r:aU d e):(!e.toArray.isEmpty)=!d.isEmpty:=by
 cases r<;>simp
def rj:(KF:Nat)<2 ^ 63:=by rw[XW];decide
def FR:Ib X (λx H Q=>∃k,DL X.K x H k/\Q k H):=by
 intro l s J H x v Q I f h;obtain⟨k,e,q⟩:=h;have C:=XW;cases x with
 |non =>
  cases f;subst e;exact truthy_none ⟨H,I,q⟩
 |bl b =>
  cases f;subst e;exact YK ⟨H,I,q⟩
 |int i =>
  obtain⟨t,rfl⟩:=f;subst e;exact PySem.P.truthy_int ⟨H,I,q⟩
 |str y =>
  obtain⟨t,rfl⟩:=f;obtain⟨A,d⟩:y.length<=KF/\k=((y.length:Int) != 0):=e;subst d;exact PySem.P.truthy_str (by lia) ⟨H,I.tok _,q⟩
 |byt y =>
  obtain⟨t,rfl⟩:=f;obtain⟨A,d⟩:y.size<=KF/\k=((y.size:Int) != 0):=e;subst d;exact PySem.W.truthy_bytes (by lia) ⟨H,I.tok _,q⟩
 |ref p =>
  cases f;have d:=e;rcases d with⟨u,g,d⟩ | ⟨u,g,d⟩ | ⟨o,g,d⟩
  ·subst d;obtain⟨z,r,pl,n⟩:=I.list g;have hlen:=r.length;exact wpAny_truthy_list pl.isList (by simp only[Zb];lia) ⟨H,I.tok _,by rw[oq r];exact q⟩
  ·subst d;obtain⟨z,r,pl,n⟩:=I.tuple g;have hlen:=r.length;exact truthy_tuple pl (by simp only[Zb];lia) ⟨H,I.tok _,by rw[oq r];exact q⟩
  ·subst d;obtain⟨n,B,j,r,m⟩:o.length<=KF/\(p==sysModules)=R/\∃j,KV o j/\s.heap.DictOf (aZ X.prog X.w) p j:=I.p0 p _ g;have hlen:=XI r;exact wpAny_truthy_dict B m (by lia) ⟨H,I.tok _,by rw[vc r];exact q⟩
 |_=>exact(e).elim
def zf(g:PE X a ta)(he:∀whole,isTrue a X.env whole=(do let v ← whole;standAt a.pos;holding [v] (truthy v))) :
  PT X a (λJ H Q=>ta J H λx e=>∃k,DL X.K x e k/\Q k e):=by
 intro d s J H Q I h;exact isTrue_plain (thn (g d s J H _ I h) λv s1 ⟨x,j,i,r1,f⟩=>FR d s1 J j x v Q i r1 f) (he _)
def uu:OpR X (binaryOp .Add) (λx y H Q=>∃i j,x=.str i/\y=.str j/\i.length+j.length<=KF/\Q (.str (i++j)) H):=by
 intro d s J H x y v u Q I g f h;obtain⟨i,j,rfl,rfl,l,q⟩:=h;obtain⟨t,rfl⟩:=g;obtain⟨e,rfl⟩:=f;exact add_str (λe m=>⟨.str (i++j),H,I.tok _,⟨_,rfl⟩,q⟩) l
def vals1(r:aU [x] d):∃u,d=[u]/\RelV x u:=by
 cases r with
 |cons r1 r2=>cases r2;exact⟨_,rfl,r1⟩
def vals2(r:aU [x,y] e):∃u d,e=[u,d]/\RelV x u/\RelV y d:=by
 cases r with
 |cons r1 r2 =>
  cases r2 with
  |cons g f=>cases f;exact⟨_,_,rfl,r1,g⟩
def w6{X:Cx}(g:X.calm=O):dj X (.builtin "max") (λe H Q=>∃i j,e=[.int i,.int j]/\Q (.int (if j > i then j else i)) H):=by
 intro f s J H e m Q I r h;obtain⟨i,j,rfl,q⟩:=h;obtain⟨u,l,rfl,⟨t,rfl⟩,⟨o,rfl⟩⟩:=vals2 r;refine max_two_ints (I.ok.hd g) λp n k=>⟨_,H,I.kept k,?_,q⟩
 by_cases d:j > i
 ·rw[Zn d,Zn d];exact⟨_,rfl⟩
 ·rw[Zl d,Zl d];exact⟨_,rfl⟩
def xQ{X:Cx}(g:X.calm=O):dj X (.builtin "min") (λe H Q=>∃i j,e=[.int i,.int j]/\Q (.int (if j<i then j else i)) H):=by
 intro f s J H e m Q I r h;obtain⟨i,j,rfl,q⟩:=h;obtain⟨u,l,rfl,⟨t,rfl⟩,⟨o,rfl⟩⟩:=vals2 r;refine min_two_ints (I.ok.hd g) λp n k=>⟨_,H,I.kept k,?_,q⟩
 by_cases d:j<i
 ·rw[Zn d,Zn d];exact⟨_,rfl⟩
 ·rw[Zl d,Zl d];exact⟨_,rfl⟩
def Gv(K:Wu)(x:V)(H:Hp)(n:Nat):Prop :=
 match x with
 |.str y=>y.length<=KF/\n=y.length
 |.byt y=>y.size<=KF/\n=y.size
 |.ref p=>(∃d,IT K H p d/\n=d.length)\/∃d,JT K H p d/\n=d.length
 |_=>False
def yh:dj X (.builtin "len") (λf H Q=>∃x n,f=[x]/\Gv X.K x H n/\Q (.int n) H):=by
 intro l s J H f w Q I r h;obtain⟨x,n,rfl,e,q⟩:=h;obtain⟨u,rfl,g⟩:=vals1 r;have z:=XW;cases x with
 |str y =>
  obtain⟨t,rfl⟩:=g;obtain⟨v,d⟩:y.length<=KF/\n=y.length:=e;subst d;exact len_str (by lia) ⟨.int _,H,I.tok _,⟨_,rfl⟩,q⟩
 |byt y =>
  obtain⟨t,rfl⟩:=g;obtain⟨v,d⟩:y.size<=KF/\n=y.size:=e;subst d;exact PySem.W.len_bytes (by lia) ⟨.int _,H,I.tok _,⟨_,rfl⟩,q⟩
 |ref p =>
  cases g;have d:=e;rcases d with⟨f,j,d⟩ | ⟨f,j,d⟩
  ·subst d;obtain⟨m,i,pl,o⟩:=I.list j;have hlen:=i.length;exact Calls.call_len_list pl.isList (by simp only[Zb];lia) ⟨.int f.length,H,I.tok _,⟨_,by simp only[Zb];rw[hlen]⟩,q⟩
  ·subst d;obtain⟨m,i,pl,o⟩:=I.tuple j;have hlen:=i.length;exact len_tuple pl (by simp only[Zb];lia) ⟨.int f.length,H,I.tok _,⟨_,by simp only[Zb];rw[hlen]⟩,q⟩
 |_=>exact(e).elim
end
structure L0(h:SZ)(x dx C:KM)(mA:Wq):Prop where
 obj:h.get? x=some (PySem.W.instObj C dx)
 ns:h.Ns1 dx mA
 ne:dx≠x
def wV{h:SZ}(n:h.Ns1 f d):∃b,h.get? f=Z b/\∀name,PySem.W.lookIn name b=Z (d name):=by
 obtain⟨o,l,p,i,hd,j,_,hm⟩:=n;refine⟨o,i,λname=>?_⟩;have e:=hm name;unfold nsFind findBy at e;rw[← Array.find?_toList]at e;unfold PySem.W.lookIn;rw[hd];dsimp only;split
 ·rename_i y q;rw[q]at e;exact congrArg Z e
 ·rename_i q;rw[q]at e;have a:l.toList.any (·.refKey)=R:=by
   rw[List.any_eq_false];intro y g;obtain⟨z,t,m⟩:=j y (Array.mem_toList_iff.mp g);simp[DictEntry.refKey,m]
  rw[Zl (by rw[a];exact Zc)];exact congrArg Z e
def L0.look(I:L0 h x d C b):∃a,PySem.W.InstAt h x (PySem.W.instObj C d) C (Z a)/\∀name,PySem.W.lookIn name a=Z (b name) :=
 let ⟨a,e,hl⟩:=wV I.ns
 ⟨a,⟨I.obj,rfl,rfl,e⟩,hl⟩
section
variable{A:SB}{K:Wu}
def get_map{s:IR}(X:K.In s.heap)(I:L0 s.heap x dx C mA)(g:PySem.W.plainGet K C name=O)(e:PySem.W.hasDictIn K C=O)(i:PySem.W.findIn K (.ref C) name=Z L)(d:mA name=Z v)(b:PySem.W.handedIn v=O)(h:Q v { s with toks:=s.toks+1 }) :
  PP (KB prog w) A (getAttr (.ref x) name a) Q E s:=by
 obtain⟨l,j,hl⟩:=I.look;exact PySem.W.get_value X j (WO g).1 (PySem.W.findObj_own e i Y (by rw[hl,d])) b h
def zO{s:IR}(X:K.In s.heap)(I:L0 s.heap x dx C mA)(a:PySem.W.plainGet K C name=O)(i:PySem.W.findIn K (.ref C) name=Z (Z (.ref f)))(g:PySem.W.isFn K (.ref f)=O)(e:mA name=L)(h:Q (.ref f,[.ref x]) s) :
  PP (KB prog w) A (getMethod (.ref x) name b) Q E s:=by
 obtain⟨d,j,hl⟩:=I.look;exact PySem.W.method_fn X j (WO a).1 (WO a).2 i (beq_iff_eq.mp g) (by show (PySem.W.lookIn name d).map (·.isSome)=Z R;rw[hl,e];rfl) h
def C4{s:IR}(X:K.In s.heap)(I:L0 s.heap x dx C mA)(q:PySem.W.findIn K (.ref C) "__setattr__" = Z (Z (.builtin "object.__setattr__")))(r:PySem.W.plainOver K C=O)(p:PySem.W.takerIn K C name=Z L)(t:PySem.W.hasDictIn K C=O)(hw:PySem.Within mA j)(d:j.length<=KF)(h:∀a,L0 a x dx C (λy=>if y=name then Z v else mA y)->Heap.SameBut dx s.heap a->Q () { s with heap:=a,toks:=s.toks+2 }) :
  PP (KB prog w) A (setAttr (.ref x) name v) Q E s:=by
 obtain⟨F,n,hl⟩:=I.look;refine PySem.W.set_plain X n q (PySem.W.osa_open X n r p λb=>?_);obtain⟨cd,u,D⟩:=PySem.W.any_some t;refine Zx (Zo (Zx (Zx (wpAny_loadPart I.obj (Zx (PySem.W.Looks.here (PySem.W.looks_clsIn X u) ?_))))));rw[D];refine Zo (Zx (Zo (Zx ?_)));refine wpAny_nsSet1 I.ns λa l m=>?_;refine L2.ak λH o=>?_;obtain⟨G,z,B,e,g,i⟩:=l.count (PySem.Within.cons name v hw);refine o ?_;refine Zx (wpAny_lookBehind e (by rw[g];exact pastItsLine_dict (ZP i (by rw[Ze];exact Y7 d))) ?_);exact Zo (h _ ⟨(m.2 _ (Ye I.ne)).trans I.obj,l,I.ne⟩ m)
def Ag{s:IR}{R:Result->IR->Prop}(X:K.In s.heap)(e:PySem.W.makesIn K C=O)(i:PySem.W.findIn K (.ref C) "__init__" = Z (Z (.ref f)))(j:PySem.W.typeIn K (.ref f)=Z (.type "function"))(h:codeAny (KB prog w) (A.under (.builtin "type.__call__" ⟨.ref C :: a,b⟩)) (.call (.ref f) ⟨.ref (s.heap.objs.size+1) :: a,b⟩) (PySem.W.InitBack (s.heap.objs.size+1) R)
   { s with heap:=(s.heap.push PySem.W.emptyDict).push (PySem.W.instObj C s.heap.objs.size) }) :
  codeAny (KB prog w) A (.call (.ref C) ⟨a,b⟩) R s:=by
 obtain⟨l,g,d,t,os⟩:=s;exact PySem.W.make_core (PySem.W.makes_of X e) (PySem.W.looks_findIn X i) (λself=>PySem.W.bind_fn X self j) (.inl Y) h
end
noncomputable def jo(f:Str)(v:V):List (Str×V)->List (Str×V)
 |[]=>[(f,v)]
 | (g,x) :: r=>if g=f then (g,v) :: r else (g,x) :: jo f v r
theorem mU(f g:Str)(v:V):∀fs:List (Str×V),(jo f v fs).lookup g=if g=f then Z v else fs.lookup g
 |[]=>by
  show List.lookup g [(f,v)]=_;by_cases h:g=f
  ·simp only[List.lookup,(beq_iff_eq.mpr h),Zn h]
  ·simp only[List.lookup,(beq_eq_false_iff_ne.mpr h),Zl h]
 | (k,x) :: r=>by
  rw[show jo f v ((k,x) :: r)=(if k=f then (k,v) :: r else (k,x) :: jo f v r) from rfl];by_cases a:k=f
  ·rw[Zn a];by_cases h:g=k
   ·simp only[List.lookup,(beq_iff_eq.mpr h),Zn (h.trans a)]
   ·simp only[List.lookup,(beq_eq_false_iff_ne.mpr h),Zl (λe:g=f=>h (e.trans a.symm))]
  ·rw[Zl a];by_cases h:g=k
   ·simp only[List.lookup,(beq_iff_eq.mpr h),Zl (λe:g=f=>a (h.symm.trans e))]
   ·simp only[List.lookup,(beq_eq_false_iff_ne.mpr h)];exact(mU f g v r)
theorem lR(f:Str)(v:V):∀fs:List (Str×V),f∈(jo f v fs).map (·.1)/\∀g,g∈fs.map (·.1)->g∈(jo f v fs).map (·.1)
 |[]=>⟨by simp[jo],λg h=>by simp at h⟩
 | (k,x) :: r=>by
  obtain⟨d,b⟩:=lR f v r;rw[show jo f v ((k,x) :: r)=(if k=f then (k,v) :: r else (k,x) :: jo f v r) from rfl];by_cases a:k=f
  ·rw[Zn a];subst a;exact⟨by simp,λg h=>by simpa using h⟩
  ·rw[Zl a];refine⟨?_,λg h=>?_⟩
   ·rw[Zj];exact Zw _ d
   ·rw[Zj]at h ⊢;rcases Zk.mp h with e | e
    ·exact Zk.mpr (.inl e)
    ·exact Zw _ (b g e)
theorem mR(f:Str)(v:V):∀fs:List (Str×V),(jo f v fs).length<=fs.length+1
 |[]=>by simp[jo]
 | (k,x) :: r=>by
  rw[show jo f v ((k,x) :: r)=(if k=f then (k,v) :: r else (k,x) :: jo f v r) from rfl];by_cases a:k=f
  ·rw[Zn a,Ze,Ze];exact YI _ _
  ·rw[Zl a,Ze,Ze];exact Y7 (mR f v r)
def jc.some_of{v:V}(r:jc (Z v) o):∃u,o=Z u/\RelV v u:=by
 cases o with
 |none=>exact(r).elim
 |some u=>exact⟨u,rfl,r⟩
def jc.none_of(r:jc L o):o=L:=by
 cases o with
 |none=>rfl
 |some u=>exact(r).elim
def xG(r:RelV v u):PySem.W.handedIn u=O:=by
 cases v with
 |non=>cases (r);rfl
 |bl b=>cases (r);rfl
 |int i=>obtain⟨t,e⟩:=(r);cases e;rfl
 |str x=>obtain⟨t,e⟩:=(r);cases e;rfl
 |byt b=>obtain⟨t,e⟩:=(r);cases e;rfl
 |flt b=>obtain⟨t,e⟩:=(r);cases e;rfl
 |ref a=>cases (r);rfl
 |ty n=>cases (r);rfl
section
variable{H:Hp}
def nB(g:JU P w H h)(e:H a=Z (.ins C dx fs)):∃b,L0 h a dx C b/\(∀f,jc (fs.lookup f) (b f))/\PySem.Within b (fs.map (·.1))/\fs.length<=1000/\H dx=Z (.own a):=by
 obtain⟨d,z,ne,i,b,n,r,q⟩:=(g a _ e)
 exact⟨b,⟨i,n,ne⟩,r,q,z,d⟩
end
structure Kc(K:Wu)(C:KM):Prop where
 pg:PySem.W.plainGet K C Str.empty=true
 hd:PySem.W.hasDictIn K C=true
 po:PySem.W.plainOver K C=true
 sa:PySem.W.findIn K (.ref C) "__setattr__" = some (some (.builtin "object.__setattr__"))
def Kc.get{K:Wu}(c:Kc K C)(f:Str):PySem.W.plainGet K C f=O:=c.pg
def bf(K:Wu)(C:KM)(f:Str):Prop:=PySem.W.findIn K (.ref C) f=Z L
def bf.P6{K:Wu}(n:bf K C f):PySem.W.takerIn K C f=Z L:=by
 unfold PySem.W.takerIn;rw[n];rfl
structure Meth(K:Wu)(C:KM)(m:Str)(f:KM):Prop where
 at_:PySem.W.findIn K (.ref C) m=some (some (.ref f))
 fn:PySem.W.isFn K (.ref f)=true
 kp:PySem.W.keepIn K (.ref f)=true
section
variable{H:Hp}{A:SB}
def uB(I:Inv X pins J H s)(e:H a=Z (.ins C dx fs))(c:Kc X.K C)(n:bf X.K C f)(l:fs.lookup f=Z v)(h:∀u d,Inv X pins J H d->RelV v u->Q u d):PP (KB X.prog X.w) A (getAttr (.ref a) f b) Q E s:=by
 obtain⟨j,O,r,_,_,_⟩:=nB I.p0 e;obtain⟨u,i,g⟩:=jc.some_of (v:=v) (by rw[← l];exact r f);exact get_map I.Kd O (c.get f) c.hd n i (xG g) (h u _ (I.tok _) g)
def pz(I:Inv X pins J H s)(e:H a=Z (.ins C dx fs))(c:Kc X.K C)(k:Meth X.K C m g)(l:fs.lookup m=L)(h:Q (.ref g,[.ref a]) s):PP (KB X.prog X.w) A (getMethod (.ref a) m b) Q E s:=by
 obtain⟨d,O,r,_,_,_⟩:=nB I.p0 e;exact zO I.Kd O (c.get m) k.at_ k.fn (jc.none_of (by rw[← l];exact r m)) h
def u6(I:Inv X pins J H s)(e:H a=Z (.ins C dx fs))(c:Kc X.K C)(n:bf X.K C f)(D:fs.length<1000)(p:RelV y u)(h:∀j,Inv X pins J (upd H a (.ins C dx (jo f y fs))) j->Q () j):PP (KB X.prog X.w) A (setAttr (.ref a) f u) Q E s:=by
 obtain⟨t,O,r,i,_,l⟩:=nB I.p0 e;refine C4 I.Kd O c.sa c.po n.P6 c.hd i (by rw[Zy,XW];lia) λF d m=>h _ ?_;refine I.write (x:=a) (e:=dx) (by rw[e];exact True.intro) (.inr l) (λb q hb z=>(m.2 b hb).trans z) (let ⟨o,_,_,B,_⟩:=d.ns;⟨o,B⟩) ?_;refine⟨by rw[aD O.ne];exact l,?_,O.ne,d.obj,_,d.ns,λg=>?_,λg hg=>?_⟩
 ·have:=mR f y fs;lia
 ·rw[mU];by_cases q:g=f
  ·rw[Zn q,Zn q];exact p
  ·rw[Zl q,Zl q];exact r g
 ·by_cases q:g=f
  ·rw[q];exact(lR f y fs).1
  ·refine(lR f y fs).2 g (i g λz=>hg ?_);show (if g=f then Z u else t g)=L;rw[Zl q];exact z
def Inv.made(I:Inv X pins J H s):Inv X pins J (upd (upd H s.heap.objs.size (.own (s.heap.objs.size+1))) (s.heap.objs.size+1) (.ins C s.heap.objs.size []))
  { s with heap:=(s.heap.push PySem.W.emptyDict).push (PySem.W.instObj C s.heap.objs.size) }:=by
 have e1:(s.heap.push PySem.W.emptyDict).get? s.heap.objs.size=Z PySem.W.emptyDict:=Zg s.heap Y;have g:=I.laid (o:=.own (s.heap.objs.size+1)) (t':=s.toks) (λb u q=>Zp _ q) (Zm _) ⟨_,e1⟩;refine g.laid (λb u q=>Zp _ q) (XG (Yk _ _)) ?_;have ne:s.heap.objs.size≠s.heap.objs.size+1:=Zh (ZG _);refine⟨by rw[aD ne,ay],Yw _,ne,(by
  have:=Zg (s.heap.push PySem.W.emptyDict) (o:=PySem.W.instObj C s.heap.objs.size) Y
  rwa [Yk]at this),λ_=>L,(Heap.Ns1.of_empty (⟨PySem.W.emptyDict,#[],_,e1,rfl,(λe he=>absurd he (by simp)),λ_=>rfl⟩)).at λo q=>Zp _ q,λ_=>True.intro,λy d=>absurd Y d⟩
def C6{f:Str}{s:IR}(j:UV e f d (eval e d)=eval e d)(h:PP (KB b w) A (eval e d) (λo i=>PP (KB b w) A (getAttr o f O) Q E i) E s):PP (KB b w) A (eval (.Attribute e f g) d) Q E s :=
 Attribute_any_ h (by rw[arm_eval_Attribute,j])
end
def Iv(K:Wu)(ta:TE)(f:Str):TE:=λJ H Q=>ta J H λx b=>∃a C d fs v,x=.ref a/\b a=Z (.ins C d fs)/\Kc K C/\bf K C f/\fs.lookup f=Z v/\Q v b
def Ic(K:Wu)(ta e:TE)(f:Str):TS:=λD J H=>e J H λy g=>ta J g λx d=>∃a C b fs,x=.ref a/\d a=Z (.ins C b fs)/\Kc K C/\bf K C f/\fs.length<1000 ∧
 D.nx J (upd d a (.ins C b (jo f y fs)))
section
def AF(he:PE X e ta)(i:UV e f X.env (eval e X.env)=eval e X.env):PE X (.Attribute e f pos) (Iv X.K ta f):=by
 intro b s J H Q I h;refine C6 i (thn (he b s J H _ I h) λu s1 j=>?_);obtain⟨x,t,r,d,a,C,z,fs,v,ex,m,c,n,l,q⟩:=j;subst ex;obtain rfl:u=Value.ref a:=d;exact uB r m c n l λw y p g=>⟨v,t,p,g,q⟩
def EU{pos:Pos}(r:PE X o ta)(m:PE X value tv)(p:swapsWith value (Z (.Attribute o f pos')) pos.line X.env=pure R):PS X (.Assign [.Attribute o f pos'] value pos) (Ic X.K ta tv f):=by
 intro b s J H D I h;refine plainObj_wpAny_Assign_Attribute (thn (m b s J H _ I h) λu s1 ⟨y,B,A,d,q⟩=>thn (r b s1 J B _ A q) λj F t=>?_) p;obtain⟨x,M,z,g,a,C,G,fs,ex,v,c,n,l,i⟩:=t;subst ex;obtain rfl:j=Value.ref a:=g;exact u6 z v c n l d λE w=>⟨J,_,w,i⟩
end
section
variable{H:Hp}{A:SB}
inductive J5(K:Wu)(H:Hp):V->On->Prop where
 |non:J5 K H .non (.type "NoneType")
 |bl (x:Bool):J5 K H (.bl x) (.type "bool")
 |int (i:Int):J5 K H (.int i) (.type "int")
 |str (x:Str):J5 K H (.str x) (.type "str")
 |flt (x:UInt64):J5 K H (.flt x) (.type "float")
 |lst {a:KM} {xs:List V} (e:H a=some (.lst xs)):J5 K H (.ref a) (.type "list")
 |frz {a:KM} {o:Obj} {xs:List V} (e:H a=some (.frz o (.lst xs))):J5 K H (.ref a) (.type "list")
 |tup {a:KM} {xs:List V} (e:H a=some (.tup xs)):J5 K H (.ref a) (.type "tuple")
 |dK {a:KM} {cg:List (Key×V)} (e:H a=some (.dK cg)):J5 K H (.ref a) (.type "dict")
 |dT {a:KM} {cg:List (List Key×V)} (e:H a=some (.dT cg)):J5 K H (.ref a) (.type "dict")
 |ins {a C dx:KM} {fs:List (Str×V)} (e:H a=some (.ins C dx fs)) (cl:Kc K C) (ha:PySem.W.findIn K (.ref C) "__class__" = some (some (.builtin "object.__class__")))
   (hn:PySem.W.specialIn K (.builtin "object.__class__") "__get__" = some (some (.builtin "getset_descriptor.__get__"))) (VO:PySem.W.takesIn K (.builtin "object.__class__")=some true)
   (hm:PySem.W.mroIn K C (.type "object")=some true):J5 K H (.ref a) (.ref C)
def xf(I:Inv X pins J H s)(d:RelV x u)(m:J5 X.K H x t)(e:PySem.W.kitOne X.K t c=Z b)(h:∀r,Q (.bool b) { s with toks:=r }) :
  PP (KB X.prog X.w) A (call (.builtin "isinstance") [u,c]) Q E s:=by
 cases m with
 |non=>cases (d);exact YZ PySem.W.kitx_none I.Kd True.intro e (λz=>nomatch z) h
 |bl y=>cases (d);exact YZ PySem.W.kitx_bool I.Kd True.intro e (λz=>nomatch z) h
 |int i=>obtain⟨t,q⟩:=(d);cases q;exact YZ PySem.W.kitx_int I.Kd True.intro e (λz=>nomatch z) h
 |str y=>obtain⟨t,q⟩:=(d);cases q;exact YZ PySem.W.kitx_str I.Kd True.intro e (λz=>nomatch z) h
 |flt y=>obtain⟨t,q⟩:=(d);cases q;exact YZ PySem.W.kitx_float I.Kd True.intro e (λz=>nomatch z) h
 |@lst a l f =>
  cases (d);obtain⟨_,_,n,_,g⟩:=(I.p0 a _ f)
  exact YZ PySem.W.kitx_list I.Kd ⟨_,g,rfl⟩ e (λz=>nomatch z) h
 |@frz a U l f =>
  cases (d);obtain⟨_,_,_,n,_,g⟩:=(I.p0 a _ f)
  exact YZ PySem.W.kitx_list I.Kd ⟨_,g,rfl⟩ e (λz=>nomatch z) h
 |@tup a l f =>
  cases (d);obtain⟨_,_,_,_,p⟩:=(I.p0 a _ f)
  obtain⟨o,g,j,_⟩:=p;exact YZ PySem.W.kitx_tuple I.Kd ⟨o,g,j⟩ e (λz=>nomatch z) h
 |@dK a G f =>
  cases (d);obtain⟨_,_,P,_,p⟩:=(I.p0 a _ f)
  obtain⟨o,D,F,g,j,_⟩:=p;exact YZ PySem.W.kitx_dict I.Kd ⟨o,g,j.1⟩ e (λz=>nomatch z) h
 |@dT a G f =>
  cases (d);obtain⟨_,_,l,_,o,D,F,g,j,_⟩:=(I.p0 a _ f)
  exact YZ PySem.W.kitx_dict I.Kd ⟨o,g,j.1⟩ e (λz=>nomatch z) h
 |@ins a C dx fs f cl B v M hm =>
  cases (d);obtain⟨Y,O,_⟩:=nB I.p0 f;obtain⟨S,N,_⟩:=O.look;exact YZ (PySem.W.kitx_own (cl.get _) cl.hd B v M hm) I.Kd N e (λz=>nomatch z) h
end
structure oe(k:Nat)(A:SB):Prop where
 hd:A.handled=none
 dp:A.depth+3*k+5<recursionLimit
 un:A.units+16*k+200<cLine
def oe.mono{k:Nat}(r:oe k A)(h:j<=k):oe j A:=⟨r.hd,by have:=r.dp;lia,by have:=r.un;lia⟩
theorem oe.deeper(r:oe (k+1) A)(a:Env):oe k (A.deeper a) :=
 ⟨r.hd,by have:=r.dp;show A.depth+1+3*k+5<_;lia,by have:=r.un;show A.units+3+16*k+200<_;lia⟩
theorem oe.in1(r:oe (k+1) A):oe k A.in1 :=
 ⟨r.hd,by have:=r.dp;lia,by have:=r.un;lia⟩
def vd{A:SB}:(A.under (.builtin "type.__call__" ⟨.ref C :: a,b⟩)).depth=A.depth+1:=by
 first | rfl | simp[Around.under,Code.weight,Code.isCreation,Code.isGuard,Code.isCaller,Code.frames,Code.isFrame,guardIds]
def uC{A:SB}:(A.under (.builtin "type.__call__" ⟨.ref C :: a,b⟩)).units=A.units+1:=by
 first | rfl | simp[Around.under,Code.cUnits,Code.frames,Code.isFrame]
def oe.make(r:oe (k+1) A)(C:KM)(a:Vz)(b:List (Str×On)):oe k (A.under (.builtin "type.__call__" ⟨.ref C :: a,b⟩)) :=
 ⟨r.hd,by have:=r.dp;rw[vd];lia,by have:=r.un;rw[uC];lia⟩
theorem oe.depth(r:oe k A):A.depth<recursionLimit:=by have:=r.dp;lia
theorem oe.units(r:oe k A):A.units+64<cLine:=by have:=r.un;lia
noncomputable def A6:TA:=λ_ H Q=>Q [] H
noncomputable def De(ta:TE)(b:TA):TA:=λJ H Q=>ta J H λx e=>b J e λa d=>Q (x :: a) d
section
def iJ:PA X [] A6:=λ_ _ _ _ H Q I h=>Calls.spliced_nil ⟨[],H,I,.nil,h⟩
def dJ(l:PE X e te)(j:PA X es t)(i:{`q2,K1 e es X}):PA X (e :: es) (De te t):=by
 intro pos a s J H Q I h;rw[i];refine Calls.spliced_cons (thn (l a s J H _ I h) λu s1 b=>?_);obtain⟨x,p,n,r1,g⟩:=b;refine thn (j pos a s1 J p _ n g) λq r b=>?_;obtain⟨d,o,m,r2,f⟩:=b;exact⟨x :: d,o,m,.cons r1 r2,f⟩
def HW(t:TA):TE:=λJ H Q=>t J H λa b=>a.length<=KF/\∀p,b p=L->Q (.ref p) (upd b p (.tup a))
def IA(t:TA):TE:=λJ H Q=>t J H λa b=>a.length<=KF/\∀p,b p=L->Q (.ref p) (upd b p (.lst a))
def AA{x1}(h:PA X es t):PE X (.Tuple es x1 pos) (HW t):=by
 intro a s J H Q I i;refine wpAny_Tuple_spliced (thn (h pos a s J H _ I i) λg s1 ⟨f,j,d,r,z,q⟩=>⟨by rw[← r.length];exact z,?_⟩);refine⟨.ref s1.heap.objs.size,upd j s1.heap.objs.size (.tup f),d.laid (λb u e=>Zp _ e) (Zm _) ?_,rfl,q _ (d.p0.fresh (Zm _))⟩;exact⟨z,g,r,N8.of (Zg _ Y) Y,⟨_,Zg _ Y,rfl,_,rfl⟩⟩
def Ef(h:PA X es t):PE X (.List es pos) (IA t):=by
 intro a s J H Q I i;refine wpAny_List_spliced (thn (h pos a s J H _ I i) λg s1 ⟨f,j,d,r,z,q⟩=>⟨by rw[← r.length];exact z,?_⟩);refine⟨.ref s1.heap.objs.size,upd j s1.heap.objs.size (.lst f),d.laid (λb u e=>Zp _ e) (Zm _) ?_,rfl,q _ (d.p0.fresh (Zm _))⟩;exact⟨z,g,0,r,Zg _ Y⟩
end
abbrev Sp:=List V->Hp->VK->XK->Prop
abbrev Ni:=List Env->Hp->IR->XK->Xf
structure Env0(P:Re)(w:UF)(K:Wu)(mg:Wq)(base:SZ)(A:SB)(outer:List Env)(s:IR)(H:Hp):Prop where
 frames:A.frames=some outer
 mod:Mod K mg base
 tb:∀b q,Tb base b q->H b=some (.tbl q)
 bs:∀b o,base.get? b=some o->s.heap.get? b=some o/\H b=none
 NC:base.objs.size<=s.heap.objs.size
 Kg:s.heap.FunFrames base outer
 O8:∀b∈J9 outer,H b=none
 p0:JU P w H s.heap
 bare:AllBare s.gens
def CE(a:List Env)(P:Re)(w:UF)(H:Hp)(s:IR)(Q:VK)(u:On)(b:IR):Prop :=
 ∃v d,b.os=s.os/\AllBare b.gens/\Un (J9 a) [] H d s.heap b.heap/\JU P w d b.heap/\RelV v u/\Q v d
def CR(d:Ni)(a:List Env)(P:Re)(w:UF)(H:Hp)(s:IR)(Q:VK)(E:XK)(r:Result)(b:IR):Prop :=
 match r with
 |.ok (.ret u)=>CE a P w H s Q u b
 |.ok _=>False
 |.error e=>d a H s E e b
structure FnOk(P:Re)(w:UF)(K:Wu)(mg:Wq)(base:SZ)(CX:Ni)(k:Nat)(f:KM)(fd:P3)(ps:List Str)(sp:Sp):Prop where
 len:∀vs H Q E,sp vs H Q E->vs.length=ps.length
 run:∀(A:SB)(outer:List Env)(s:IR)(H:Hp)(args:Args)(us:Vz)(vs:List V)(Q:VK)(E:XK),oe k A->Env0 P w K mg base A outer s H->BindsTo s fd args (ps.zip us)->aU vs us->sp vs H Q E →
  codeAny (KB P w) A (.call (.ref f) args) (CR CX outer P w H s Q E) s
def FnOk.imp{K:Wu}(F:FnOk P w K g a l k f i e d)(h:∀b H Q E,j b H Q E->d b H Q E):FnOk P w K g a l k f i e j :=
 ⟨λb H Q E q=>F.len b H Q E (h _ _ _ _ q),λA outer s H args m b Q E p he hb n o=>F.run A outer s H args m b Q E p he hb n (h _ _ _ _ o)⟩
def Env0.make{K:Wu}(e:Env0 P w K d b A a s H)(C:KM)(f:Vz)(g:List (Str×On)) :
  Env0 P w K d b (A.under (.builtin "type.__call__" ⟨.ref C :: f,g⟩)) a s H:=⟨by first | exact e.frames | (simpa[Around.under,Code.envs,Code.isFrame,pushEnvs] using e.frames),e.mod,e.tb,e.bs,e.NC,e.Kg,e.O8,e.p0,e.bare⟩
section
variable{H:Hp}
def Inv.Rn(I:Inv X pins J H s):Env0 X.prog X.w X.K X.mg X.base X.A X.stack s H :=
 ⟨I.ok.frames,I.ok.mod,I.tb,I.bs,ZP I.ok.NC I.sz,I.stack,I.K7,I.p0,I.bare⟩
def Inv.after{Q:VK}(I:Inv X pins J H s)(h:CE X.stack X.prog X.w H s Q u s'):EP X pins J Q u s':=by
 obtain⟨v,f,os,bare,un,p0,r,q⟩:=h;obtain⟨a,g,d,t,e⟩:=s';obtain rfl:e=s.os:=os;exact⟨v,f,I.call (h':=a) (g':=g) (d':=d) (t':=t) (ch:=[]) un p0 bare (λb z=>absurd z (by simp)),r,q⟩
end
noncomputable def DB(b:Sp)(d:List V)(E:XK)(t:TA):TE:=λJ H Q=>t J H λa e=>b (a++d) e Q E
def vq(C:KM)(m:Str)(e:Sp)(g:List V)(E:XK)(ta:TE)(t:TA):TE:=λJ H Q=>ta J H λx b=>∃a f fs,x=.ref a/\b a=Z (.ins C f fs)/\fs.lookup m=L ∧
 t J b λd h=>e (x :: (d++g)) h Q E
def zZ(C:KM)(e:Sp)(f:List V)(E:XK)(t:TA):TE:=λJ H Q=>t J H λd b=>∀x a,b x=L->b a=L->a≠x →
 e (.ref x :: (d++f)) (upd (upd b a (.own x)) x (.ins C a [])) (λv g=>v=.non/\Q (.ref x) g) E
noncomputable def Binds(K:Wu)(d:P3)(b:List Str)(ds:Vz):Prop :=
 ∀(s:IR)(a:Vz),K.In s.heap->(a++ds).length=b.length->BindsTo s d ⟨a,[]⟩ (b.zip (a++ds))
def Binds.all{K:Wu}{b:List Str}(h:∀a:Vz,a.length=b.length->bindArgs d ⟨a,[]⟩=pure (b.zip a)):Binds K d b []:=λs a _ hl=>by
 rw[ZQ]at hl ⊢;exact .of_eq (h a hl)
def i8(d:Ni)(X:Cx)(E:XK):Prop:=∀(a:X7)(J:St)(H:Hp)(s:IR)(e:On)(b:IR),Inv X a J H s->d X.stack H s E e b->X.xe e b
section
def ux{X:Cx}{vs:List V}(F:FnOk X.prog X.w X.K X.mg X.base CX k f fd ps sp)(j:oe k X.A)(n:Binds X.K fd ps ds)(l:aU Kw ds)(i:i8 CX X E)(I:Inv X a J H s)(r:aU vs b)(h:sp (vs++Kw) H Q E):PP (KB X.prog X.w) X.A (call (.ref f) b) (EP X a J Q) X.xe s:=by
 have r2:=r.append l;refine wpAny_call (XQ (F.run X.A X.stack s H ⟨b,[]⟩ (b++ds) (vs++Kw) Q E j I.Rn (n s b I.Kd (by rw[← r2.length];exact F.len _ _ _ _ h)) r2 h) λr g d=>?_);cases r with
 |error e=>exact i a J H s e g I d
 |ok q =>
  cases q with
  |ret u=>exact I.after d
  |next=>exact False.elim d
  |brk=>exact False.elim d
  |cont=>exact False.elim d
def Bw{X:Cx}(F:FnOk X.prog X.w X.K X.mg X.base CX k f fd ps sp)(i:oe k X.A)(n:Gl X x)(j:X.mg x=Z (.ref f))(l:PySem.W.keepIn X.K (.ref f)=O)(v:Binds X.K fd ps ds)(u:aU Kw ds)(g:i8 CX X E)(y:PA X (e :: es) t)(z:{`q1,K3 x})(he:{`q2,K1 e es X})(b:{`q2,K2 pos es X}) :
  PE X (.Call (.Name x p) (e :: es) [] pos) (DB sp Kw E t):=by
 intro a s J H Q I h;refine Xj (nH I n j ?_ z);refine WJ I.ok.mod.Pp l (thn (y pos a s J H _ I h) λD s1 ⟨B,G,d,r,q⟩=>⟨d.Kd,?_⟩) he b;exact ux F i v u g d r q
def rE(he:PE X o ta)(c:Kc X.K C)(i:Meth X.K C m f)(F:FnOk X.prog X.w X.K X.mg X.base CX k f fd ps sp)(D:oe k X.A)(M:Binds X.K fd ps ds)(G:aU Kw ds)(z:i8 CX X E)(N:PA X (e :: es) t)(U:{`q2,K1 e es X})(d:{`q2,K2 pos es X})(B:{`q2,eval (.Call (.Attribute o m apos) (e :: es) [] pos) X.env=(do
   let g ← eval o X.env
   standAt apos.atName
   let (f,first) ← holding [g] (getMethod g m pl)
   callWith pos f first (backTo pos (Pv (e :: es) X.env)) (backToKw pos (SC [] X.env)))}) :
  PE X (.Call (.Attribute o m apos) (e :: es) [] pos) (vq C m sp Kw E ta t):=by
 intro b s J H Q I h;refine PySem.W.methodCall_KW (pl:=pl) (thn (he b s J H _ I h) λu s1 P=>?_) B;obtain⟨x,H1,n,v,a,dx,fs,ex,S,l,q⟩:=P;subst ex;obtain rfl:u=Value.ref a:=v;refine pz n S c i l ?_;refine WJ I.ok.mod.Pp i.kp (thn (N pos b s1 J H1 _ n q) λus s2 ⟨vs,H2,j,r,y⟩=>⟨j.Kd,?_⟩) U d;exact ux (vs:=.ref a :: vs) F D M G z j (.cons Y r) y
def sV(he:PE X o ta)(c:Kc X.K C)(i:Meth X.K C m f)(F:FnOk X.prog X.w X.K X.mg X.base CX k f fd ps sp)(v:oe k X.A)(z:Binds X.K fd ps ds)(y:aU Kw ds)(n:i8 CX X E)(r:{`q2,eval (.Call (.Attribute o m apos) [] [] pos) X.env=(do
   let g ← eval o X.env
   standAt apos.atName
   let (f,first) ← holding [g] (getMethod g m pl)
   callWith pos f first (backTo pos (Pv [] X.env)) (backToKw pos (SC [] X.env)))}) :
  PE X (.Call (.Attribute o m apos) [] [] pos) (vq C m sp Kw E ta A6):=by
 intro b s J H Q I h;refine PySem.W.methodCall_KW (pl:=pl) (thn (he b s J H _ I h) λu s1 B=>?_) r;obtain⟨x,M,d,j,a,G,fs,ex,D,l,q⟩:=B;subst ex;obtain rfl:u=Value.ref a:=j;refine pz d D c i l ?_;exact PySem.W.callWith_K0 d.Kd i.kp (ux (vs:=[.ref a]) F v z y n d (.cons Y .nil) q)
structure Mk(K:Wu)(C f:KM):Prop where
 makes:PySem.W.makesIn K C=true
 init:PySem.W.findIn K (.ref C) "__init__" = some (some (.ref f))
 fn:PySem.W.isFn K (.ref f)=true
 kp:PySem.W.keepIn K (.ref C)=true
def t4{X:Cx}{us:Vz}(j:Mk X.K C f)(F:FnOk X.prog X.w X.K X.mg X.base CX k f fd ps sp)(B:oe (k+1) X.A)(G:Binds X.K fd ps ds)(D:aU Kw ds)(z:i8 CX X E)(I:Inv X a J H s)(r:aU i us)(h:∀x d,H x=L->H d=L->d≠x->sp (.ref x :: (i++Kw)) (upd (upd H d (.own x)) x (.ins C d [])) (λv P=>v=.non/\Q (.ref x) P) E) :
  PP (KB X.prog X.w) X.A (call (.ref C) us) (EP X a J Q) X.xe s:=by
 have l:=h (s.heap.objs.size+1) s.heap.objs.size (I.p0.fresh (YQ _)) (I.p0.fresh (Zm _)) (Zh (ZG _));have g:=Inv.made (C:=C) I;have r2:aU (V.ref (s.heap.objs.size+1) :: (i++Kw)) (Value.ref (s.heap.objs.size+1) :: (us++ds)):=.cons Y (r.append D);refine wpAny_call (Ag (f:=f) I.Kd j.makes j.init (beq_iff_eq.mp j.fn) (XQ (F.run _ X.stack _ _ ⟨Value.ref (s.heap.objs.size+1) :: us,[]⟩ (Value.ref (s.heap.objs.size+1) :: (us++ds)) _ _ E (B.make C us [])
  (g.Rn.make C us []) (G _ (Value.ref (s.heap.objs.size+1) :: us) g.Kd (by
  have e:=r2.length;rw[F.len _ _ _ _ l]at e;exact e.symm)) r2 l) λr n b=>?_))
 cases r with
 |error e=>exact z a J _ _ e n g b
 |ok M =>
  cases M with
  |ret u =>
   obtain⟨v,S,N,q,ev,y⟩:=g.after b;subst ev;exact⟨q,⟨V.ref (s.heap.objs.size+1),S,N,rfl,y⟩⟩
  |next=>exact False.elim b
  |brk=>exact False.elim b
  |cont=>exact False.elim b
def BE{X:Cx}(d:Mk X.K C f)(F:FnOk X.prog X.w X.K X.mg X.base CX k f fd ps sp)(j:oe (k+1) X.A)(n:Gl X x)(l:X.mg x=Z (.ref C))(v:Binds X.K fd ps ds)(u:aU Kw ds)(i:i8 CX X E)(y:PA X (e :: es) t)(z:{`q1,K3 x})(he:{`q2,K1 e es X})(b:{`q2,K2 pos es X}) :
  PE X (.Call (.Name x p) (e :: es) [] pos) (zZ C sp Kw E t):=by
 intro a s J H Q I h;refine Xj (nH I n l ?_ z);refine WJ I.ok.mod.Pp d.kp (thn (y pos a s J H _ I h) λD s1 ⟨B,G,g,r,q⟩=>⟨g.Kd,?_⟩) he b;exact t4 d F j v u i g r q
def zb{X:Cx}(b:Mk X.K C f)(F:FnOk X.prog X.w X.K X.mg X.base CX k f fd ps sp)(g:oe (k+1) X.A)(j:Gl X x)(i:X.mg x=Z (.ref C))(n:Binds X.K fd ps ds)(l:aU Kw ds)(d:i8 CX X E)(q:{`q1,K3 x}):PE X (.Call (.Name x p) [] [] pos) (zZ C sp Kw E A6):=by
 intro a s J H Q I h;refine Xj (nH I j i ?_ q);exact PySem.W.callWith_K0 I.Kd b.kp (t4 (us:=[]) b F g n l d I .nil h)
end
def PK(X:Cx)(b:List Keyword)(t:TA):Prop :=
 ∀(pos:Pos)(a:X7)(s:IR)(J:St)(H:Hp)(Q:List V->Hp->Prop),Inv X a J H s->t J H Q->PP (KB X.prog X.w) X.A (evalAll ((backToKw pos (SC b X.env)).map (·.2))) (AP X a J Q) X.xe s
section
def DT:PK X [] A6:=λ_ _ _ _ H Q I h=>wpAny_evalAll_nil ⟨[],H,I,.nil,h⟩
def Bz(j:PE X e te)(i:PK X R3 t):PK X (⟨nm,e,To⟩ :: R3) (De te t):=by
 intro pos a s J H Q I h;refine wpAny_evalAll_cons (Zx (thn (j a s J H _ I h) λu s1 ⟨x,r,n,r1,g⟩=>Zx (wpAny_standAt (Zo ?_))));exact thn (i pos a s1 J r _ n g) λv w ⟨b,q,l,r2,d⟩=>⟨x :: b,q,l,.cons r1 r2,d⟩
end
structure bt(N P:List Str)(sc:Scope):Prop where
 kind:sc.kind=.function
 co:sc.isCoroutine=false
 gen:sc.isGenerator=false
 nd:N.Nodup
 pre:N.take P.length=P
 par:∀x∈P,sc.names.lookup x=some .local\/sc.names.lookup x=some .cell
 OL:∀y∈sc.names,y.2 ≠ .free
theorem p9:∀{binds:List (Str×On)}{m:Wq},(∀v,(x,v)∉binds)->bindL a binds m x=m x
 |[],_,_=>rfl
 | (n,v) :: r,m,h=>by
  unfold bindL;rw[p9 λw hw=>h w (Zw _ hw)];split
  ·have:x≠n:=by rintro rfl;exact h v Zu
   simp[this]
  ·rfl
theorem p7:∀{binds:List (Str×On)}{m:Wq},(∀v,(x,v)∉binds)->bindC a binds m x=m x
 |[],_,_=>rfl
 | (n,v) :: r,m,h=>by
  unfold bindC;rw[p7 λw hw=>h w (Zw _ hw)];split
  ·rfl
  ·have:x≠n:=by rintro rfl;exact h v Zu
   simp[this]
theorem pT:∀{P:List Str}{b:Vz}{i:Nat}{m:Wq},P.Nodup->P[i]?=Z x->b[i]?=Z v->a x=Z .local →
  bindL a (P.zip b) m x=Z v
 |[],_,_,_,_,h,_,_=>by simp at h
 |_ :: _,[],_,_,_,_,h,_=>by simp at h
 |p :: P,w :: b,0,m,nd,e,d,f=>by
  simp at e d;subst e;subst d;show bindL a ((p,w) :: P.zip b) m p=_;unfold bindL;rw[p9 λv g=>(Zf.mp nd).1 (List.of_mem_zip g).1,Zn f];simp
 |p :: P,w :: b,i+1,m,nd,e,d,f=>by
  unfold bindL;exact pT (i:=i) (Zf.mp nd).2 (by simpa using e) (by simpa using d) f
theorem qg:∀{P:List Str}{b:Vz}{i:Nat}{m:Wq},P.Nodup->P[i]?=Z x->b[i]?=Z v->a x≠Z .local →
  bindC a (P.zip b) m x=Z v
 |[],_,_,_,_,h,_,_=>by simp at h
 |_ :: _,[],_,_,_,_,h,_=>by simp at h
 |p :: P,w :: b,0,m,nd,e,d,f=>by
  simp at e d;subst e;subst d;show bindC a ((p,w) :: P.zip b) m p=_;unfold bindC;rw[p7 λv g=>(Zf.mp nd).1 (List.of_mem_zip g).1,Zl f];simp
 |p :: P,w :: b,i+1,m,nd,e,d,f=>by
  unfold bindC;exact qg (i:=i) (Zf.mp nd).2 (by simpa using e) (by simpa using d) f
noncomputable def start(N:List Str)(a:List V):St:=a.map Z++List.replicate (N.length-a.length) L
def jb(j:Ni)(P:Re)(w:UF)(K:Wu)(m:Wq)(h:SZ)(N:List Str)(d:Str)(a:Scope)(f:KM)(g:On)(A:SB)(b:List Env)(s:IR)(H:Hp)(E:XK):Cx where
 prog:=P
 w:=w
 K:=K
 mg:=m
 base:=h
 A:=A.deeper (envOfC d a s.heap.objs.size f g)
 N:=N
 s₀:=s
 H₀:=H
 env:=envOfC d a s.heap.objs.size f g
 outer:=b
 stack:=envOfC d a s.heap.objs.size f g :: b
 ex:=[]
 calm:=O
 fn:=λ_=>O
 pn:=[]
 xe:=λe l=>PP (KB P w) (A.deeper (envOfC d a s.heap.objs.size f g)) (leaving (envOfC d a s.heap.objs.size f g) e) (λ_ i=>j b H s E e i) (λn i=>j b H s E n i) l
def ug{a:Scope}(h:a.names.lookup x=Z .cell):∃c,(cellsFrom n a.names []).lookup x=Z c:=by
 exact Yo.mp (PySem.W.cellsFrom_some a.names n [] (.inl h))
def wQ{K:Wu}{A:SB}{B:List V}(S:bt N o d)(hd:A.handled=L)(m:Env0 P w K M n A g s H)(hl:B.length=o.length)(r:aU B J)(x:InCallC s s.heap.objs.size (bindL (envOfC j d s.heap.objs.size f G).kindOf (o.zip J) λ_=>L) (cellsFrom (s.heap.objs.size+1) d.names []) (bindC (envOfC j d s.heap.objs.size f G).kindOf (o.zip J) λ_=>L) U) :
  Inv (jb CX P w K M n N j d f G A g s H E) [] (start N B) H U:=by
 have hpl:o.length<=N.length:=by have:=congrArg List.length S.pre;rw[Xc]at this;lia
 obtain⟨F,tk,rfl,hk⟩:=x.done;have Q:∀b:KM,b∉(jb CX P w K M n N j d f G A g s H E).ex:=λb z=>absurd (show b∈([]) from z) (by simp);refine⟨⟨m.mod,S.kind,rfl,rfl,Zm _,λy z c F l=>?_,λy t=>?_,λy c _ h=>?_,λ_=>hd,Around.frames_deeper m.frames,.inr ⟨rfl,rfl⟩,λb z=>absurd z (Q b),m.tb,m.bs,m.NC,λb _ _=>Q b,λb z=>absurd z (Q b),m.Kg,m.O8⟩,
  rfl,m.bare,Un.kept hk,⟨_,x.toInCall.ns,λi y v F l h3=>?_⟩,λy c h=>⟨_,x.cell y c h⟩,m.p0.fresh (Zm _),λy c h=>?_,λp C=>absurd (show p∈([]) from C) (by simp),m.p0.kept hk,?_⟩
 ·exact name_of_addr x.apart (XZ F) (XZ l)
 ·have t:=t;rcases t with t | t
  ·exact ug t
  ·exact absurd Y (S.OL _ (XZ t))
 ·exact Xd (x.above y c (XZ h))
 ·have D:i<B.length:=by
   unfold start at l;by_cases D:i<B.length
   ·exact D
   ·rw[Yt (by simpa using D)]at l;rw[YY]at l;split at l<;>cases l
  obtain⟨u,X,rv⟩:=r.get (by
   unfold start at l;rw[Z8 (by simpa using D),Zd]at l;cases e:B[i]? with
   |none=>rw[e]at l;cases l
   |some a=>rw[e]at l;cases l;rfl)
  have C:o[i]?=Z y:=by
   rw[← S.pre,List.getElem?_take_of_lt (by lia)];exact F
  have VG:o.Nodup:=by rw[← S.pre];exact S.nd.sublist (List.take_sublist _ _)
  refine⟨u,rv,?_⟩;rcases S.par y (Yz C) with k | k
  ·exact .inl ⟨k,pT VG C X k⟩
  ·obtain⟨c,e⟩:=ug k;refine .inr ⟨.inl k,c,e,?_⟩;have q:=x.cell y c e;rw[qg VG C X (by show d.names.lookup y≠_;rw[k];decide)]at q;exact q
 ·exact m.p0.fresh (Xd (x.above y c (XZ h)))
 ·unfold start;show _=N.length;rw[Zv,Zy,YT];lia
def yI{CX:Ni}{P:Re}{w:UF}{K:Wu}{X:Wq}{i:SZ}{k:Nat}{f:KM}{l d:Str}{g:Arguments}{h:List Stmt}{a:Scope}{dV kV D pm z ct oc:On}{an od:Option KM}{Lr:Array (Vy)}{N U:List Str}{G:Sp}(lk:K.lookup f=Z ⟨oc,od,.func (PySem.W.fnOf l d g h a dV kV D pm an z ct),Lr⟩)(Jf:PySem.W.codeIn K z d=O)(S:bt N U a)(B:∀j H Q E,G j H Q E->j.length=U.length)(JZ:∀(A:SB)(outer:List Env)(s:IR)(H:Hp)(j:List V)(Q:VK)(E:XK),oe k (A.deeper (envOfC d a s.heap.objs.size f z))->G j H Q E →
   ∃t,Kq (jb CX P w K X i N d a f z A outer s H E) h t/\t { nx:=λ_ p=>Q .non p,rt:=Q } (start N j) H) :
  FnOk P w K X i CX (k+1) f (PySem.W.fnOf l d g h a dV kV D pm an z ct) U G:=by
 refine⟨B,λA outer s H args us j Q E hr C hb r Nq=>?_⟩;have hl:=B _ _ _ _ Nq;have KX:=C.mod.Pp.keeps λb o e=>(C.bs b o e).1;refine codeAny_call_function hr.depth (KX _ _ lk) Y S.co S.gen Y (PySem.W.codeRec_of KX Jf) (hb _ _ _ _ ?_);refine wpAny_newFunctionEnv_cells S.kind (λ⟨n,v⟩ hy=>by
  rcases S.par n (List.of_mem_zip hy).1 with q | q
  ·exact .inl q
  ·exact .inr ⟨q,PySem.W.cellsFrom_some _ _ _ (.inl q)⟩) λenv he s1 x=>?_
 subst he;refine⟨(C.mod.nolimit.keeps λb o e=>(C.bs b o e).1).keeps x.toInCall.keep,codeAny_func ?_⟩;obtain⟨t,ht,hq⟩:=JZ A outer s H j Q E (hr.deeper _) Nq;refine YX (ht [] s1 (start N j) H _ (wQ S hr.hd C hl r x) hq) (λfl J y=>?_) λe J y=>y;have fin:∀{F:St}{p:Hp}{v:V}{u:On},Inv (jb CX P w K X i N d a f z A outer s H E) [] F p J->RelV v u->Q v p->CE outer P w H s Q u J :=
  λ{F p v u} m M q=>⟨v,p,m.os,m.bare,m.base,m.p0,M,q⟩
 cases fl with
 |ret u =>
  obtain⟨v,F,p,m,M,q⟩:=y;exact fin m M q
 |next =>
  obtain⟨F,p,m,q⟩:=y;exact fin (v:=V.non) m Y q
 |brk =>
  obtain⟨_,_,_,q⟩:=y;exact False.elim q
 |cont =>
  obtain⟨_,_,_,q⟩:=y;exact False.elim q
section
noncomputable def Ve(r:List V->Hp->VK->Prop)(t:TA):TE:=λJ H Q=>t J H λa b=>r a b Q
def oV{X:Cx}{x:Str}{p pos:Pos}{es:List Expr}{t:TA}{id:String}{r:List V->Hp->VK->Prop}(n:dj X (.builtin id) r)(m:Gl X x)(l:X.mg x=L)(i:bootBuiltins x=Z (.builtin id))(o:PA X (e :: es) t)(j:{`q1,x ≠ "__name__"})(q:{`q1,K3 x})(he:{`q2,K1 e es X})(b:{`q2,K2 pos es X}):PE X (.Call (.Name x p) (e :: es) [] pos) (Ve r t):=by
 intro a s J H Q I h;refine Xj (kz I m l i ?_ j q);exact PyProof.Rows.callWith_builtin1 (thn (o pos a s J H _ I h) λf s1 ⟨d,v,u,r1,g⟩=>n a s1 J v d f Q u r1 g) he b
def qm(n:dj X (.type T) r)(m:Gl X x)(l:X.mg x=L)(i:bootBuiltins x=Z (.type T))(o:PA X (e :: es) t)(j:{`q1,x ≠ "__name__"})(q:{`q1,K3 x})(he:{`q2,K1 e es X})(b:{`q2,K2 pos es X}):PE X (.Call (.Name x p) (e :: es) [] pos) (Ve r t):=by
 intro a s J H Q I h;refine Xj (kz I m l i ?_ j q);exact Xl (thn (o pos a s J H _ I h) λf s1 ⟨d,v,u,r1,g⟩=>n a s1 J v d f Q u r1 g) he b
end
end L2
namespace HT
open PySem PyProof.Rows
section
variable{A:SB}
noncomputable def JG(n d:Nat):Option Int->Nat
 |none=>d
 |some v=>if v<0 then (v+(n:Int)).toNat else min v.toNat n
end
end HT
namespace L2
open PySem PySem.Spec PyProof.Rows
abbrev TO:=St->Hp->(Option Int->Hp->Prop)->Prop
def PO(X:Cx)(e:Option Expr)(t:TO):Prop :=
 ∀(a:X7)(s:IR)(J:St)(H:Hp)(Q:Option Int->Hp->Prop),Inv X a J H s->t J H Q →
  PP (KB X.prog X.w) X.A (evalPart e X.env) (λu d=>∃o b,Inv X a J b d/\IsPart u o/\Q o b) X.xe s
noncomputable def CL:TO:=λ_ H Q=>Q L H
noncomputable def Hb(t:TE):TO:=λJ H Q=>t J H λx a=>∃i,x=.int i/\Q (Z i) a
section
variable{lo:Option Expr}
def Bb:PO X L CL:=by
 intro a s J H Q I h;rw[evalPart_none];exact Zo ⟨L,H,I,.none,h⟩
def Cj(h:PE X e te):PO X (Z e) (Hb te):=by
 intro a s J H Q I hw;rw[evalPart_some];refine thn (h a s J H _ I hw) λu s1 d=>?_;obtain⟨x,g,f,r1,b⟩:=d;obtain⟨i,rfl,q⟩:=b;obtain⟨t,rfl⟩:=r1;exact⟨Z i,g,f,.int i t,q⟩
def Oy(X:Cx)(r:V->Option Int->Option Int->Hp->VK->Prop):Prop :=
 ∀(a:X7)(s:IR)(J:St)(H:Hp)(x:V)(v d b:On)(lo hi:Option Int)(f:KM)(Q:VK),Inv X a J H s->RelV x v->s.heap.IsSliceOf f d b .none->IsPart d lo->IsPart b hi->r x lo hi H Q →
  ∃T id,typeLookup (.type T) "__getitem__" = pure (Z (.builtin id))/\s.TypeIs v T/\PP (KB X.prog X.w) X.A (getItem v (.ref f)) (EP X a J Q) X.xe s
def Oy.or(h:Oy X r)(l:Oy X i):Oy X (λx lo hi H Q=>r x lo hi H Q\/i x lo hi H Q):=by
 intro a s J H x v d b lo hi f Q I g j pl pu q;rcases q with q | q
 ·exact h a s J H x v d b lo hi f Q I g j pl pu q
 ·exact l a s J H x v d b lo hi f Q I g j pl pu q
noncomputable def tSl(r:V->Option Int->Option Int->Hp->VK->Prop)(d:TE)(a b:TO):TE:=λJ H Q=>d J H λx h=>a J h λl g=>b J g λu f=>r x l u f Q
def yr(w:Oy X r)(he:PE X e te)(y:PO X lo tl)(p:PO X hi th):PE X (.Subscript e (.Slice lo hi L p2) pos) (tSl r te tl th):=by
 intro a s J H Q I h;refine Subscript_ (thn (he a s J H _ I h) λv s1 f=>?_);obtain⟨x,F,C,r1,o⟩:=f;refine wpAny_Slice (thn (y a s1 J F _ C o) λi j ⟨l,E,B,pl,n⟩=>thn (p a j J E _ B n) λg d f=>?_);obtain⟨u,D,A,pu,m⟩:=f;rw[evalPart_none];refine Zo ?_;obtain⟨T,id,z,t,hg⟩:=w a { d with heap:=d.heap.push { cls:=.type "slice",data:=.fields #[i,g,.none] } } J D x v i g l u d.heap.objs.size Q (A.kept (t':=d.toks) λb G q=>Zp _ q) r1 (Heap.IsSliceOf.new ..) pl pu m;exact tail_any t z hg (by with_unfolding_all rfl)
def yj(a:List V)(b d:Option Int):List V:=(a.drop (HT.JG a.length 0 b)).take (HT.JG a.length a.length d-HT.JG a.length 0 b)
def sg(a:List V)(b d:Option Int):(yj a b d).length<=a.length:=by
 unfold yj;rw[Xc,Z4];lia
end
noncomputable def OQ(n:Nat)(i:Int):Option Nat:=if 0<=i then (if i<n then Z i.toNat else L) else if -(n:Int)<=i then Z (i+n).toNat else L
def Pj{α:Type}(a:List α)(i:Int):Option α:=(OQ a.length i).bind λj=>a[j]?
def vL{i:Int}(h:OQ n i=Z j):seqIndex? i n=Z j/\j<n/\-(n:Int)<=i/\i<n:=by
 unfold OQ at h;by_cases h0:0<=i
 ·rw[Zn h0]at h;by_cases a:i<n
  ·rw[Zn a]at h;exact⟨by rw[seqIndex_of h0 a,(Zi h)],by lia,by lia,a⟩
  ·rw[Zl a]at h;cases h
 ·rw[Zl h0]at h;by_cases a:-(n:Int)<=i
  ·rw[Zn a]at h;exact⟨by rw[seqIndex_neg (by lia) a,(Zi h)],by lia,a,by lia⟩
  ·rw[Zl a]at h;cases h
def qJ{α:Type}{a:List α}{i:Int}{v:α}(h:Pj a i=Z v):∃j,seqIndex? i a.length=Z j/\a[j]?=Z v/\j<a.length/\-(a.length:Int)<=i/\i<a.length:=by
 unfold Pj at h;cases e:OQ a.length i with
 |none=>rw[e]at h;cases h
 |some j =>
  rw[e]at h;obtain⟨g,f,d,b⟩:=vL e;exact⟨j,g,h,f,d,b⟩
noncomputable def iV(b:Expr):Prop:=∀o i,subscripted b R o i=operate [o,i] (getItem o i)
def Mp(X:Cx)(r:R2):Prop :=
 ∀(value slice:Expr)(a:X7)(s:IR)(J:St)(H:Hp)(x y:V)(v u:On)(Q:VK),Inv X a J H s->RelV x v->RelV y u->r x y H Q →
  subscripted slice R v u=operate [v,u] (getItem v u)->PP (KB X.prog X.w) X.A (subscriptTail value slice v u) (EP X a J Q) X.xe s
def PN(X:Cx)(e:String)(r:V->List V->Hp->VK->Prop):Prop :=
 ∀(a:X7)(s:IR)(J:St)(H:Hp)(x:V)(b:List V)(v:On)(d:Vz)(Q:VK),Inv X a J H s->RelV x v->aU b d->r x b H Q →
  PP (KB X.prog X.w) X.A (call (.builtin e) (v :: d)) (EP X a J Q) X.xe s
section
def Mp.or(h:Mp X r)(j:Mp X g):Mp X (λx y H Q=>r x y H Q\/g x y H Q):=by
 intro value slice d s J H x y v u Q I f e q i;rcases q with q | q
 ·exact h value slice d s J H x y v u Q I f e q i
 ·exact j value slice d s J H x y v u Q I f e q i
def qf(j:Mp X r)(m:PE X a ta)(l:PE X b tb)(i:iV b):PE X (.Subscript a b pos) (P7 r ta tb):=by
 intro d s J H Q I h;exact Subscript_ (EH m l I h λv u e x y o n g f q=>j a b d e J o x y v u Q n g f q (i _ _))
def GB(K:Wu):R2:=λx y H Q=>∃p d i v,x=.ref p/\y=.int i/\IT K H p d/\Pj d i=Z v/\Q v H
def Ha(K:Wu):R2:=λx y H Q=>∃p d i v,x=.ref p/\y=.int i/\JT K H p d/\Pj d i=Z v/\Q v H
def GH:R2:=λx y H Q=>∃z i c,x=.str z/\y=.int i/\z.length<=KF/\Pj z.cps.toList i=Z c/\Q (.str ⟨#[c]⟩) H
def vE:Mp X (GB X.K):=by
 intro value slice d s J H x y v u Q I n m h g;refine L2.ak λS o=>?_;obtain⟨p,G,i,z,rfl,rfl,B,he,q⟩:=h;cases n;obtain⟨t,rfl⟩:=m;obtain⟨A,r,pl,M⟩:=I.list B;obtain⟨j,e,E,P,D,C⟩:=qJ he;obtain⟨w,l,F⟩:=r.get E;refine o ?_;have hl:=r.length;have N:=rj;have fin:EP X d J Q w s:=⟨z,H,I,F,q⟩
 by_cases h0:0<=i
 ·have f:i.toNat=j:=by
   rw[seqIndex_of h0 C]at e;exact Zi e
  exact item_listR pl.isList h0 (by lia) (by rw[f];simpa using l) fin g
 ·have f:(i+(A.toArray.size:Int)).toNat=j:=by
   rw[seqIndex_neg (by lia) D]at e;rw[Zb,← hl];exact Zi e
  exact subscriptTail_builtinR (x:=w) pl.isList.typeIs slot_list_getitem.lookup
   (wpAny_getItem_list_neg pl.isList (by lia) (by rw[Zb]<;>lia) (by lia) (by rw[f];simpa using l) ⟨rfl,fin⟩) g
def FG:Mp X (Ha X.K):=by
 intro value slice d s J H x y v u Q I f e h l;refine L2.ak λP g=>?_;obtain⟨p,C,i,z,rfl,rfl,m,he,q⟩:=h;cases f;obtain⟨t,rfl⟩:=e;obtain⟨D,r,pl,E⟩:=I.tuple m;obtain⟨j,o,n,N,M,G⟩:=qJ he;obtain⟨w,A,B⟩:=r.get n;refine g ?_;have F:=rj;exact subscriptTail_builtinR (x:=w) pl.typeIs slot_tuple_getitem.lookup
  (getItem_tuple (j:=j) pl (by lia) (by lia) (by rw[Zb,← r.length];exact o) (by simpa using A) ⟨rfl,(⟨z,H,I,B,q⟩)⟩) l
def FD:Mp X GH:=by
 intro value slice d s J H x y v u Q I g f h l;obtain⟨z,i,c,rfl,rfl,r,he,q⟩:=h;obtain⟨t,rfl⟩:=g;obtain⟨p,rfl⟩:=f;obtain⟨j,e,o,A,n,m⟩:=qJ he;have hl:z.cps.toList.length=z.length:=by simp[Str.length]
 rw[hl]at e n m;have w:=rj;exact tail_any (Wr s z t) slot_str_getitem.lookup (getItem_str (c:=c) (by
  rw[(ZV (by lia)),(ZV (by lia)),Bool.or_false]) (by rw[e];simpa using o) ⟨.str ⟨#[c]⟩,H,I.tok _,⟨_,rfl⟩,q⟩) l
def SJ(K:Wu):R2:=λx y H Q=>GB K x y H Q\/Ha K x y H Q\/GH x y H Q
def o9:Mp X (SJ X.K):=vE.or (FG.or FD)
def uY(d:Vz)(n j:Nat)(u:On):Obj.mapSeq (·.setIfInBounds j u) { cls:=.type "list",data:=.seq d.toArray n }={ cls:=.type "list",data:=.seq (d.set j u).toArray n }:=by
 simp[Obj.mapSeq]
theorem Inv.lst{H:Hp}(I:Inv X d J H s)(h:H p=Z (.lst g)) :
  ∃(f:Vz)(n:Nat),aU g f/\s.heap.get? p=Z { cls:=.type "list",data:=.seq f.toArray n }/\g.length<=sizeLine:=by
 obtain⟨z,f,n,r,e⟩:=I.p0 p _ h;exact⟨f,n,r,e,z⟩
def Inv.OO{l g:Vz}(I:Inv X d J H s)(h:H p=Z (.lst o))(w:s.heap.get? p=Z { cls:=.type "list",data:=.seq l.toArray n })(m:f { cls:=.type "list",data:=.seq l.toArray n }={ cls:=.type "list",data:=.seq g.toArray j })(r:aU i g)(v:i.length<=KF)(t:Nat) :
  Inv X d J (upd H p (.lst i)) { s with heap:=s.heap.update p f,toks:=t }:=by
 have e:(s.heap.update p f).get? p=Z { cls:=.type "list",data:=.seq g.toArray j }:=by
  rw[Yq f w (by rw[m]<;>rfl),m]
 refine I.write (x:=p) (e:=p) (by rw[h];trivial) (.inl Y) (λb u hb q=>(Yd _ _ (Ye hb)).trans q) ⟨_,e⟩ ?_;exact⟨v,g,j,r,e⟩
def Do:V->V->V->Hp->(Hp->Prop)->Prop:=λo i v H Q=>∃p d k j,o=.ref p/\i=.int k/\H p=Z (.lst d)/\OQ d.length k=Z j/\Q (upd H p (.lst (d.set j v)))
def set_list:En X Do:=by
 intro g s J H o i v G iv u Q I A B z h;refine L2.ak λP C=>?_;obtain⟨p,F,k,j,rfl,rfl,m,E,q⟩:=h;cases A;obtain⟨t,rfl⟩:=B;obtain⟨l,n,r,e,D⟩:=I.lst m;obtain⟨d,N,x,w⟩:=vL E;refine C ?_;have hl:=r.length;have M:=rj;have y :=
  I.OO m e (uY l n j u) (r.set z j) (by rw[Z9];exact D) s.toks
 by_cases h0:0<=k
 ·have f:k.toNat=j:=by
   rw[seqIndex_of h0 w]at d;exact Zi d
  exact PySem.W.ki_setAt e h0 (by lia) (by rw[Zb,← hl];exact w) (by rw[f];exact⟨_,y,q⟩)
 ·have f:(k+(l.toArray.size:Int)).toNat=j:=by
   rw[seqIndex_neg (by lia) x]at d;rw[Zb,← hl];exact Zi d
  exact PySem.W.ki_setBack e (by lia) (by rw[Zb,← hl];exact x) (by lia) (by rw[f];exact⟨_,y,q⟩)
def Np(a:Int)(n:Nat):max 0 (min a (n:Int))=((min a.toNat n:Nat):Int):=by
 cases a with
 |ofNat k =>
  show max 0 (min (k:Int) (n:Int))=((min k n:Nat):Int);rcases Nat.le_total k n with h | h
  ·rw[Int.min_eq_left (Wa.mpr h),YW h];exact Int.max_eq_right (Wz _)
  ·rw[Int.min_eq_right (Wa.mpr h),Wp h];exact Int.max_eq_right (Wz _)
 |negSucc k =>
  rw[Int.min_eq_left (Int.le_trans (Int.le_of_lt (Int.negSucc_lt_zero k)) (Wz n)),Int.max_eq_left (Int.le_of_lt (Int.negSucc_lt_zero k))];show (0:Int)=((min 0 n:Nat):Int);rw[Nat.zero_min];rfl
def rn(d e:Option Int)(n:Nat):(sliceBounds d e L n).1=((HT.JG n 0 d:Nat):Int)/\(sliceBounds d e L n).2.1=((HT.JG n n e:Nat):Int)/\(sliceBounds d e L n).2.2=1:=by
 refine⟨?_,?_,rfl⟩
 ·cases d with
  |none=>simp[sliceBounds,HT.JG]
  |some i =>
   simp only[sliceBounds,HT.JG,Option.getD_none,show (1:Int) > 0 by decide,if_true];by_cases h:i<0
   ·simp only[h,if_true];rw[Np,YW (by omega)]
   ·simp only[h,if_false];exact Np i n
 ·cases e with
  |none=>simp[sliceBounds,HT.JG]
  |some i =>
   simp only[sliceBounds,HT.JG,Option.getD_none,show (1:Int) > 0 by decide,if_true];by_cases h:i<0
   ·simp only[h,if_true];rw[Np,YW (by omega)]
   ·simp only[h,if_false];exact Np i n
def pJ(d:Vz)(e f:Option Int):slicePick d.toArray e f L=((d.drop (HT.JG d.length 0 e)).take (HT.JG d.length d.length f-HT.JG d.length 0 e)).toArray:=by
 obtain⟨i,h,g⟩:=rn e f d.toArray.size;unfold slicePick;rw[i,h,g];simp only[sliceRange_one,pick_run,Zb]<;>rfl
def Hs(K:Wu):V->Option Int->Option Int->Hp->VK->Prop:=λx lo e H Q=>∃a d,x=.ref a/\IT K H a d/\∀p,H p=L->Q (.ref p) (upd H p (.lst (yj d lo e)))
def Cm:Oy X (Hs X.K):=by
 intro e s J H x v o n lo g p Q I i m pl pu h;obtain⟨a,d,rfl,l,q⟩:=h;cases i;obtain⟨u,r,f,j⟩:=I.list l;have hlen:=r.length;refine⟨"list",_,slot_list_getitem.lookup,f.isList.typeIs,?_⟩;refine wpAny_getItem_list_slice f.isList m pl pu .none (by simp) ?_ (by rw[Zb]<;>lia);rw[pJ,← hlen];refine⟨.ref s.heap.objs.size,_,I.laid (λb t q=>Zp _ q) (Zm _) ?_,rfl,q _ (I.p0.fresh (Zm _))⟩;exact⟨ZP (sg d lo g) j,_,0,(r.drop (HT.JG d.length 0 lo)).take (HT.JG d.length d.length g-HT.JG d.length 0 lo),Zg _ Y⟩
noncomputable def gU:V->Bool
 |.non=>O
 |.bl _=>O
 |.int _=>O
 |.str _=>O
 |_=>R
noncomputable def Ny:V->V->Bool
 |.non,.non=>O
 |.bl a,.bl b=>a==b
 |.bl a,.int b=>(if a then 1 else 0)==b
 |.int a,.bl b=>a==(if b then 1 else 0)
 |.int a,.int b=>a==b
 |.str a,.str b=>a==b
 |_,_=>R
def EI(f:RelV y u)(d:RelV x v)(h:gU y=O)(g:gU x=O):SeqAt.EqAt A s u v (Ny y x):=by
 cases y with
 |non =>
  cases f;cases x with
  |non=>cases d;exact SeqAt.EqAt.same _
  |bl b=>cases d;exact SeqAt.EqAt.none_bool b
  |int b=>obtain⟨t,rfl⟩:=d;exact SeqAt.EqAt.none_int b t
  |str b=>obtain⟨t,rfl⟩:=d;exact SeqAt.EqAt.none_str b t
  |_=>exact absurd (g) Zc
 |bl a =>
  cases f;cases x with
  |non=>cases d;exact SeqAt.EqAt.bool_none a
  |bl b=>cases d;exact SeqAt.EqAt.bool_bool a b
  |int b=>obtain⟨t,rfl⟩:=d;exact SeqAt.EqAt.bool_int a b t
  |str b=>obtain⟨t,rfl⟩:=d;exact SeqAt.EqAt.bool_str a b t
  |_=>exact absurd (g) Zc
 |int a =>
  obtain⟨e,rfl⟩:=f;cases x with
  |non=>cases d;exact SeqAt.EqAt.int_none a e
  |bl b=>cases d;exact SeqAt.EqAt.int_bool a e b
  |int b=>obtain⟨t,rfl⟩:=d;exact SeqAt.EqAt.int_int a e b t
  |str b=>obtain⟨t,rfl⟩:=d;exact SeqAt.EqAt.int_str a e b t
  |_=>exact absurd (g) Zc
 |str a =>
  obtain⟨e,rfl⟩:=f;cases x with
  |non=>cases d;exact SeqAt.EqAt.str_none a e
  |bl b=>cases d;exact SeqAt.EqAt.str_bool a e b
  |int b=>obtain⟨t,rfl⟩:=d;exact SeqAt.EqAt.str_int a e b t
  |str b=>obtain⟨t,rfl⟩:=d;exact SeqAt.EqAt.str_str a e b t
  |_=>exact absurd (g) Zc
 |_=>exact absurd (h) Zc
def LY(x:V)(u:On):Bool:=match u with
 |.none=>Ny .non x
 |.bool b=>Ny (.bl b) x
 |.int i _=>Ny (.int i) x
 |.str z _=>Ny (.str z) x
 |_=>R
def zz(r:RelV y u)(f:gU y=O):LY x u=Ny y x:=by
 cases y with
 |non=>cases r;rfl
 |bl b=>cases r;rfl
 |int i=>obtain⟨t,rfl⟩:=r;rfl
 |str z=>obtain⟨t,rfl⟩:=r;rfl
 |_=>exact absurd (f) Zc
theorem kF:∀{d:List V}{e:Vz},aU d e->d.all gU=O->e.any (LY x)=d.any λy=>Ny y x
 |_,_,.nil,_=>rfl
 |y :: d,u :: e,.cons r t,f=>by
  rw[Wt,Yn]at f;rw[Xn,Xn,zz r f.1,kF t f.2]
theorem jw(h:RelV x v)(i:gU x=O):∀{e:List V}{g:Vz},aU e g->e.all gU=O->∀u∈g,SeqAt.EqAt A s u v (LY x u)
 |_,_,.nil,_=>λu d=>by cases d
 |y :: e,u :: g,.cons r t,f=>λj d=>by
  rw[Wt,Yn]at f;rcases Zk.mp d with rfl | d
  ·rw[zz r f.1];exact EI r h f.1 i
  ·exact jw h i t f.2 j d
def QM(x:V)(d:List V):Bool:=d.any λy=>Ny y x
def RT(K:Wu)(e:Bool):R2:=λx y H Q=>∃p d,y=.ref p/\(IT K H p d\/JT K H p d)/\gU x=O/\d.all gU=O/\Q (.bl (if e then !QM x d else QM x d)) H
def x9:OpR X (SL .In) (RT X.K R):=by
 intro g s J H x y v u Q I f j h;obtain⟨p,m,rfl,e,i,fs,q⟩:=h;cases j;rcases e with e | e
 ·obtain⟨d,r,pl,l⟩:=I.list e;refine SeqAt.in_listAt (LY x) pl.isList (λw hw=>jw f i r fs w (by simpa using hw)) ⟨.bl _,H,I,rfl,?_⟩;rw[show d.toArray.any (LY x)=d.any (LY x) by simp,kF r fs];exact q
 ·obtain⟨d,r,pl,l⟩:=I.tuple e;refine SeqAt.in_tupleAt (LY x) pl (λw hw=>jw f i r fs w (by simpa using hw)) ⟨.bl _,H,I,rfl,?_⟩;rw[show d.toArray.any (LY x)=d.any (LY x) by simp,kF r fs];exact q
def rA:OpR X (SL .NotIn) (RT X.K O):=by
 intro g s J H x y v u Q I f j h;obtain⟨p,m,rfl,e,i,fs,q⟩:=h;cases j;rcases e with e | e
 ·obtain⟨d,r,pl,l⟩:=I.list e;refine SeqAt.notIn_listAt (LY x) pl.isList (λw hw=>jw f i r fs w (by simpa using hw)) ⟨.bl _,H,I,rfl,?_⟩;rw[show d.toArray.any (LY x)=d.any (LY x) by simp,kF r fs];exact q
 ·obtain⟨d,r,pl,l⟩:=I.tuple e;refine SeqAt.notIn_tupleAt (LY x) pl (λw hw=>jw f i r fs w (by simpa using hw)) ⟨.bl _,H,I,rfl,?_⟩;rw[show d.toArray.any (LY x)=d.any (LY x) by simp,kF r fs];exact q
def dj.or(h:dj X f r)(l:dj X f j):dj X f (λe H Q=>r e H Q\/j e H Q):=by
 intro d s J H e g Q I i q;rcases q with q | q
 ·exact h d s J H e g Q I i q
 ·exact l d s J H e g Q I i q
def qV:dj X (.type "list") (λz H Q=>∃p g,z=[.ref p]/\(IT X.K H p g\/JT X.K H p g)/\∀l,H l=L->Q (.ref l) (upd H l (.lst g))):=by
 intro m s J H z C Q I r h;obtain⟨p,g,rfl,v,q⟩:=h;obtain⟨u,rfl,B⟩:=vals1 r;cases B;have fin:∀(f:Vz),aU g f->g.length<=KF->∀(d:SZ)(j:Nat),(∀b A,s.heap.get? b=Z A->d.get? b=Z A) →
   d.get? s.heap.objs.size=Z { cls:=.type "list",dict:=L,data:=.seq f.toArray j,slots:=#[] }->EP X m J Q (.ref s.heap.objs.size) { s with heap:=d }:=λf i t d j kp e =>
  ⟨.ref s.heap.objs.size,_,I.laid kp (Zm _) (show dN X.prog X.w _ d _ (.lst g) from⟨t,f,j,i,e⟩),rfl,q _ (I.p0.fresh (Zm _))⟩
 rcases v with v | v
 ·obtain⟨f,i,pl,t⟩:=I.list v;have hlen:=i.length;obtain⟨o,x,y,n,hd⟩:=pl.isList;exact call_list_seq p (.inl Y) x y hd (λd j kp e=>fin f i t d j kp e) (by simp only[Zb]<;>lia)
 ·obtain⟨f,i,pl,t⟩:=I.tuple v;have hlen:=i.length;obtain⟨o,x,y,n,hd⟩:=pl;exact call_list_seq p (.inr Y) x y hd (λd j kp e=>fin f i t d j kp e) (by simp only[Zb]<;>lia)
def pK:dj X (.type "tuple") (λi H Q=>∃p d,i=[.ref p]/\((IT X.K H p d/\∀l,H l=L->Q (.ref l) (upd H l (.tup d)))\/(JT X.K H p d/\Q (.ref p) H))):=by
 intro j s J H i y Q I r h;obtain⟨p,d,rfl,h⟩:=h;obtain⟨u,rfl,v⟩:=vals1 r;cases v;rcases h with⟨g,q⟩ | ⟨g,q⟩
 ·obtain⟨m,f,pl,n⟩:=I.list g;have hlen:=f.length;refine call_tuple_list pl.isList (λx kp=>?_) (by simp only[Zb]<;>lia);have t:=I.kept (t':=s.toks) kp;exact⟨.ref x.objs.size,_,(t.laid (t':=s.toks) (λb o e=>Zp _ e) (Zm _) (show dN X.prog X.w _ _ _ (.tup d) from⟨n,m,f,N8.new _ _,IsTup.new _ _⟩)),rfl,q _ (t.p0.fresh (Zm _))⟩
 ·obtain⟨m,f,pl,n⟩:=I.tuple g;exact call_tuple_same pl ⟨.ref p,H,I,rfl,q⟩
def NI(K:Wu)(T:String)(x:V)(H:Hp):Prop:=match x with
 |.str _=>T = "str"
 |.int _=>T = "int"
 |.ref p=>(T = "list" ∧ ∃e,IT K H p e)\/(T = "tuple" ∧ ∃o,K.lookup p=Z o/\o.cls=.type "tuple" ∧ o.dict=L) ∨
   (T = "dict" ∧ ((∃d,H p=Z (.dK d))\/∃d,H p=Z (.dT d)))\/(T = "set" ∧ ∃S n,H p=Z (.set S n))
 |_=>False
def Er(I:Inv X f J H s)(r:RelV x v)(g:NI X.K T x H) :
  s.TypeIs v T/\∀a,v=.ref a->∃h,s.heap.get? a=Z h/\h.dict=L:=by
 cases x with
 |str z =>
  obtain⟨t,rfl⟩:=r;cases (g);exact⟨Wr s z t,λ_ e=>nomatch e⟩
 |int i =>
  obtain⟨t,rfl⟩:=r;cases (g);exact⟨typeIs_int s i t,λ_ e=>nomatch e⟩
 |ref p =>
  cases r;rcases g with⟨rfl,q,j⟩ | ⟨rfl,o,d,l,hd⟩ | ⟨rfl,d⟩ | ⟨rfl,S,n,d⟩
  ·obtain⟨u,_,pl,_⟩:=I.list j;refine⟨pl.isList.typeIs,λa e=>?_⟩;cases e;obtain⟨o,n,e,c,hd,_⟩:=pl;exact⟨o,e,hd⟩
  ·refine⟨⟨o,I.Kd p o d,l⟩,λa e=>?_⟩;cases e;exact⟨o,I.Kd _ o d,hd⟩
  ·have z:∃o,s.heap.get? p=Z o/\o.ExactDict:=by
    rcases d with⟨m,d⟩ | ⟨m,d⟩
    ·obtain⟨_,_,_,_,o,_,_,e,ex,_⟩:=I.p0 p _ d;exact⟨o,e,ex⟩
    ·obtain⟨_,_,_,_,o,_,_,e,ex,_⟩:=I.p0 p _ d;exact⟨o,e,ex⟩
   obtain⟨o,e,ex⟩:=z;refine⟨⟨o,e,ex.1⟩,λa e2=>?_⟩;cases e2;exact⟨o,e,ex.2.1⟩
  ·obtain⟨o,_,_,_,e,ex,_⟩:=I.p0 p _ d;refine⟨⟨o,e,ex.1⟩,λa e2=>?_⟩;cases e2;exact⟨o,e,ex.2.1⟩
 |_=>exact False.elim g
def tBM(K:Wu)(T:String)(r:V->List V->Hp->VK->Prop)(f:TE)(t:TA):TE:=λJ H Q=>f J H λx d=>NI K T x d/\t J d λe g=>r x e g Q
def sy{X:Cx}{o:Expr}{es:List Expr}{to:TE}{t:TA}{name:Str}{apos cp:Pos}{T id:String}{r:V->List V->Hp->VK->Prop}(u:PlainAttrs T)(f:Slot T name id)(D:typeOf (.builtin id)=pure (.type "method_descriptor"))(z:PN X id r)(y:PE X o to)(A:PA X (e :: es) t)(F:{`q2,UV o name X.env (eval o X.env)=eval o X.env})(E:{`q2,((backTo cp (Pv (e :: es) X.env)).all (λx=>!x.1)&&(backToKw cp (SC [] X.env)).all (λx=>x.1.isSome)
   && decide ((e :: es).length+([]:List Keyword).length+(if ([]:List Keyword).isEmpty then 0 else 1)<30))=O})(G:{`q2,(apos.endLine==cp.line)=O})(w:{`q2,K1 e es X})(M:{`q2,K2 cp es X}) :
  PE X (.Call (.Attribute o name apos) (e :: es) [] cp) (tBM X.K T r to t):=by
 intro d s J H Q I h;refine wpAny_Call_method_late F E G Y (thn (y d s J H _ I h) λv s1 g=>?_);obtain⟨x,S,j,r1,ty,q⟩:=g;obtain⟨C,B⟩:=Er j r1 ty;refine⟨T,id,u,f,D,C,B,?_⟩;have i:=A cp d s1 J S _ j q;rw[w]at i ⊢;refine Calls.callWith_builtin (by show (R||(backTo cp (Pv es X.env)).any (·.1))=R;rw[M]<;>rfl) (Calls.evalArgs_plain ?_);refine thn i λm n g=>?_;obtain⟨l,P,N,r2,p⟩:=g;exact z d n J P x l v m Q N r1 r2 p
end
def MtM(X:Cx)(e:String)(r:V->List V->Hp->VK->Prop):Prop :=
 ∀(a:X7)(s:IR)(J:St)(H:Hp)(x:V)(b:List V)(v:On)(d:Vz)(Q:VK),Inv X a J H s->RelV x v->aU b d->r x b H Q →
  PP (KB X.prog X.w) X.A (call (.builtin e) (v :: d)) (EP X a J Q) X.xe s
def aU.nil_inv(h:aU [] a):a=[]:=by
 cases h;rfl
def aU.cons_inv(h:aU (x :: a) d):∃u b,d=u :: b/\RelV x u/\aU a b:=by
 cases h with
 |cons r t=>exact⟨_,_,rfl,r,t⟩
def aU.one(h:aU [x] a):∃u,a=[u]/\RelV x u:=by
 obtain⟨u,b,rfl,r,t⟩:=h.cons_inv;rw[t.nil_inv];exact⟨_,rfl,r⟩
section
variable{H:Hp}
def Inv.QH{d a:Vz}(I:Inv X pins J H s)(o:H l=Z (.lst xs))(e:s.heap.get? l=Z { cls:=.type "list",data:=.seq d.toArray n })(m:f d.toArray=a.toArray)(i:aU ys a)(h:ys.length<=KF) :
  Inv X pins J (upd H l (.lst ys)) { s with heap:=s.heap.update l (Obj.mapSeq f),toks:=g }:=by
 have q:=PySem.IsL.update e f;rw[m]at q;refine I.write (x:=l) (e:=l) (by rw[o];exact trivial) (.inl Y) (λp u hb j=>(Yd s.heap (Obj.mapSeq f) (Ye hb)).trans j) ⟨_,q⟩ ?_;exact⟨h,a,_,i,q⟩
def Inv.Tj(I:Inv X pins J H s)(f:aU ys a)(e:ys.length<=KF) :
  Inv X pins J (upd H s.heap.objs.size (.lst ys)) { s with heap:=s.heap.push { cls:=.type "list",data:=.seq a.toArray },toks:=d } :=
 I.laid (λ_ _ q=>Zp _ q) (Zm _) ⟨e,a,0,f,Zg _ Y⟩
theorem Inv.fresh(I:Inv X pins J H s):H s.heap.objs.size=L:=I.p0.fresh (Zm _)
def Inv.MR(I:Inv X pins J H s)(d:H l=Z (.lst xs)):xs.length<=KF/\∃(a:Vz)(n:Nat),aU xs a/\xs.length=a.length/\s.heap.get? l=Z { cls:=.type "list",data:=.seq a.toArray n }:=by
 obtain⟨z,a,n,r,e⟩:=I.p0 l _ d;exact⟨z,a,n,r,r.length,e⟩
def Ay(h:n<=KF):Builtin.List.listTooLong n=R:=by
 exact ZV (by exact Nat.not_lt_of_le h)
end
section
def vK:V->List V->Hp->VK->Prop:=λx b H Q=>∃l a y,x=.ref l/\b=[y]/\H l=Z (.lst a)/\a.length<KF/\Q .non (upd H l (.lst (a++[y])))
def iz:MtM X "list.append" vK:=by
 intro a s J H x p v t Q I d f h;refine L2.ak λw i=>?_;obtain⟨l,o,y,rfl,rfl,b,m,q⟩:=h;cases d;obtain⟨u,rfl,g⟩:=f.one;obtain⟨z,j,n,r,hl,e⟩:=I.MR b;refine i ?_;refine call_meets F.slot_list_append ⟨_,e,rfl⟩ F.entry_list_append (F.args_list_append_2 _ _) (PySem.list_append l j.toArray n u (by rw[Zb];lia)) ⟨e,?_⟩;refine⟨.non,_,I.QH b e (by simp) (r.append (.cons g .nil)) ?_,rfl,q⟩;rw[Zv,ZN];exact Nat.succ_le_of_lt m
def wq:V->List V->Hp->VK->Prop:=λx e H Q=>∃l b d a,x=.ref l/\e=[.ref b]/\H l=Z (.lst d)/\H b=Z (.lst a)/\d.length+a.length<=KF/\Q .non (upd H l (.lst (d++a)))
def xk:MtM X "list.extend" wq:=by
 intro d s J H x C v D Q I j m h;refine L2.ak λG t=>?_;obtain⟨l,b,B,y,rfl,rfl,g,w,E,q⟩:=h;cases j;obtain⟨u,rfl,o⟩:=m.one;cases o;obtain⟨z,f,n,r,hl,e⟩:=I.MR g;obtain⟨A,i,p,r2,M,e2⟩:=I.MR w;refine t ?_;have a:f.toArray.size+i.toArray.size<=sizeLine:=by rw[Zb,Zb];lia
 refine call_meets F.slot_list_extend ⟨_,e,rfl⟩ F.entry_list_extend (F.args_list_extend_2 _ _)
  (AutoSeq1.list_extend_list_list_0 l f.toArray n b i.toArray p (by
  rw[Ay a,Bool.and_false];exact Zc) (by rw[Zb];lia) (by exact Nat.le_add_right_of_le a)) ⟨e,e2,?_⟩
 refine⟨.non,_,I.QH g e (by simp) (r.append r2) ?_,rfl,q⟩;rw[Zv];omega
def Gu:R2:=λx y H Q=>∃l b d a,x=.ref l/\y=.ref b/\H l=Z (.lst d)/\H b=Z (.lst a)/\d.length+a.length<=KF/\∀p,H p=L->Q (.ref p) (upd H p (.lst (d++a)))
def FN:OpR X (binaryOp .Add) Gu:=by
 intro a s J H x y v u Q I i g h;refine L2.ak λD j=>?_;obtain⟨l,b,A,t,rfl,rfl,m,o,C,q⟩:=h;cases i;cases g;obtain⟨z,d,n,r,hl,e⟩:=I.MR m;obtain⟨w,f,B,r2,E,e2⟩:=I.MR o;refine j ?_;refine PySem.P.add_list e e2 ?_ (by rw[Zb,Zb];lia);have p:d.toArray++f.toArray=(d++f).toArray:=by simp
 rw[p];exact⟨.ref _,_,I.Tj (r.append r2) (by rw[Zv];omega),rfl,q _ I.fresh⟩
end
section
variable{A:SB}
set_option maxRecDepth 100000 in
end
section
variable{κ:Type}[DecidableEq κ]
noncomputable def gQ(b:List (κ×V))(k:κ):Option V:=(b.find? λa=>decide (a.1=k)).map (·.2)
noncomputable def putK(b:List (κ×V))(k:κ)(v:V):List (κ×V) :=
 if (b.any λa=>decide (a.1=k))=O then b.map (λa=>if a.1=k then (a.1,v) else a) else b++[(k,v)]
def ju{p:κ×V}(e:p.1=k):gQ (p :: r) k=Z p.2:=by simp[gQ,Z6,e]
def oj{p:κ×V}(e:¬p.1=k):gQ (p :: r) k=gQ r k:=by simp[gQ,Z6,e]
theorem uh(k:κ):∀a:List (κ×V),(a.any λb=>decide (b.1=k))=(gQ a k).isSome
 |[]=>rfl
 |p :: r=>by
  rw[Xn];by_cases e:p.1=k
  ·simp only[ju e,decide_eq_true e,Bool.true_or,Option.isSome_some]
  ·rw[oj e,ZV e,Bool.false_or];exact uh k r
def g9(a:List (κ×V))(k:κ)(v:V):(putK a k v).length<=a.length+1:=by
 unfold putK;split
 ·rw[Zy];exact YI _ _
 ·rw[Zv,Ze,List.length_nil];exact Zm _
def jc.Jz(r:jc o u):o.isSome=u.isSome:=by
 cases o with
 |none=>cases u with
  |none=>rfl
  |some _=>exact(r).elim
 |some _=>cases u with
  |none=>exact(r).elim
  |some _=>rfl
theorem jc.getD{o:Option V}(r:jc o u)(b:RelV d a):RelV (o.getD d) (u.getD a):=by
 cases o with
 |none=>cases u with
  |none=>exact b
  |some _=>exact(r).elim
 |some _=>cases u with
  |none=>exact(r).elim
  |some _=>exact r
def KV.val(r:KV g d)(k:κ):jc (gQ g k) (valueAt d k):=by
 induction r with
 |nil=>exact True.intro
 |@cons p q ps a h t i =>
  obtain⟨f,j⟩:=h;by_cases e:p.1=k
  ·have b:valueAt (q :: a) k=Z q.2:=by simp[valueAt,Z6,(f.symm.trans e)]
   rw[ju e,b];exact j
  ·have l:¬q.1=k:=λz=>e (f.trans z);have b:valueAt (q :: a) k=valueAt a k:=by simp[valueAt,Z6,l]
   rw[oj e,b];exact i
theorem KV.any(r:KV d b)(k:κ):(d.any λa=>decide (a.1=k))=b.any λa=>decide (a.1=k):=by
 induction r with
 |nil=>rfl
 |cons h t e=>rw[Xn,Xn,e,h.1]
def KV.OH(r:KV f d)(k:κ)(g:RelV y u) :
  KV (f.map λa=>if a.1=k then (a.1,y) else a) (d.map λa=>if a.1=k then (a.1,u) else a):=by
 induction r with
 |nil=>exact .nil
 |@cons p q ps l h t i =>
  rw[Zj,Zj];refine .cons ?_ i;obtain⟨b,j⟩:=h;by_cases e:p.1=k
  ·rw[Zn e,Zn (b.symm.trans e)];exact⟨b,g⟩
  ·rw[Zl e,Zl (λz=>e (b.trans z))];exact⟨b,j⟩
def KV.put(r:KV d a)(k:κ)(b:RelV y u):KV (putK d k y) (stored a k u):=by
 unfold putK stored;rw[r.any k];by_cases e:(a.any λf=>decide (f.1=k))=O
 ·rw[Zn e,Zn e];exact r.OH k b
 ·rw[Zl e,Zl e];exact Paired.snoc r ⟨rfl,b⟩
def KV.keys{b:List (κ×V)}{a:List (κ×On)}(r:KV b a):b.map (·.1)=a.map (·.1):=by
 induction r with
 |nil=>rfl
 |cons h t d=>rw[Zj,Zj,d,h.1]
theorem KV.length{b:List (κ×V)}(r:KV b a):b.length=a.length:=XI r
end
def nc(r:RelV (kV k) u):(aZ P w).is k u=O:=by
 cases k with
 |inl i=>obtain⟨t,e⟩:=(r);subst e;exact sH P w i t
 |inr x=>obtain⟨t,e⟩:=(r);subst e;exact tm P w x t
theorem ql:∀{a:List Key}{b:Vz},aU (a.map kV) b->ItemsAre (aZ P w) a b
 |[],_,r=>by rw[List.map_nil]at r;cases r;exact .nil
 |k :: a,_,r=>by
  rw[Zj]at r;cases r with
  |cons h t=>exact .cons (nc h) (ql t)
abbrev KT(H:Hp):List (List Key×V)->List (List Key×KM×On)->Prop:=Paired λp q=>p.1=q.1/\H q.2.1=Z (.tup (p.1.map kV))/\RelV p.2 q.2.2
def KT.val(r:KT H g d)(k:List Key):jc (gQ g k) ((atKey d k).map (·.2)):=by
 induction r with
 |nil=>exact True.intro
 |@cons p q ps a h t i =>
  obtain⟨f,_,j⟩:=h;by_cases e:p.1=k
  ·have b:atKey (q :: a) k=Z q.2:=by simp[atKey,Z6,(f.symm.trans e)]
   rw[ju e,b];exact j
  ·have l:¬q.1=k:=λz=>e (f.trans z);have b:atKey (q :: a) k=atKey a k:=by simp[atKey,Z6,l]
   rw[oj e,b];exact i
def KT.OH(r:KT H g d)(k:List Key)(i:RelV y u) :
  KT H (g.map λb=>if b.1=k then (b.1,y) else b) (d.map (putAt k u)):=by
 induction r with
 |nil=>exact .nil
 |@cons p q ps m h t j =>
  rw[Zj,Zj];refine .cons ?_ j;obtain⟨a,f,l⟩:=h;unfold putAt;by_cases e:p.1=k
  ·rw[Zn e,Zn (a.symm.trans e)];exact⟨a,f,i⟩
  ·rw[Zl e,Zl (λz=>e (a.trans z))];exact⟨a,f,l⟩
def KT.put(r:KT H d a)(k:List Key)(h:H b=Z (.tup (k.map kV)))(f:RelV y u) :
  KT H (putK d k y) (storedH a k b u):=by
 have e:(d.any λg=>decide (g.1=k))=(atKey a k).isSome:=by
  rw[uh,(r.val k).Jz,YB]
 unfold putK storedH;rw[e];by_cases q:(atKey a k).isSome=O
 ·rw[Zn q,Zn q];exact r.OH k f
 ·rw[Zl q,Zl q];exact Paired.snoc r ⟨rfl,h,f⟩
def KT.keeps(r:KT H e d)(g:∀b a,H b=Z (.tup a)->f b=Z (.tup a)):KT f e d :=
 Paired.NQ r λ_ _ z=>⟨z.1,g _ _ z.2.1,z.2.2⟩
section
variable{H:Hp}
def Dg(b:JU P w H h)(e:Rd H a u):dN P w H h a u:=e.ok b
def m8(f:JU P w H h)(e:Rd H a (.dK b)):b.length<=KF/\(a==sysModules)=R/\∃d,KV b d/\h.DictOf (aZ P w) a d :=
 Dg f e
def sC(f:JU P w H h)(e:H a=Z (.dK b)):b.length<=KF/\(a==sysModules)=R/\∃d,KV b d/\h.DictOf (aZ P w) a d:=m8 f (.inl e)
def d7{b:List Key}(d:JU P w H h)(e:H a=Z (.tup (b.map kV))):(tupleKind (aZ P w)).is h b a:=by
 obtain⟨_,f,r,_,o,j,i,n,g⟩:=(d a _ e)
 exact⟨o,f.toArray,n,j,i,g,by simpa using ql r⟩
def oF(g:JU P w H h)(e:Rd H a (.dT f)):f.length<=KF/\(a==sysModules)=R ∧
  ∃d,KT H f d/\h.DictOfH (tupleKind (aZ P w)) a d:=by
 refine L2.ak λF j=>?_;obtain⟨z,y,d,r,o,C,D,B,A,v,u,s⟩:=(Dg g e)
 refine j ?_;refine⟨z,y,d,r,o,C,D,B,A,v,u,λx b=>?_,s⟩;have all:∀{l:List (List Key×V)}{m:List (List Key×KM×On)},KT H l m->∀x∈m,(tupleKind (aZ P w)).is h x.1 x.2.1:=by
  intro l m q
  induction q with
  |nil=>intro x b;exact nomatch b
  |@cons p q ps E i t n =>
   intro x b;rcases Zk.mp b with e | b
   ·subst e;exact d7 g (by rw[← i.1];exact i.2.1)
   ·exact n x b
 exact all r x b
def Ge(f:JU P w H h)(e:H a=Z (.dT b)):b.length<=KF/\(a==sysModules)=R ∧
  ∃d,KT H b d/\h.DictOfH (tupleKind (aZ P w)) a d:=oF f (.inl e)
end
def ik(H:Hp)(a:KM)(y:V)(r:Option V):Prop :=
 (∃d k,Rd H a (.dK d)/\y=kV k/\r=gQ d k)\/∃d k b,Rd H a (.dT d)/\y=.ref b/\H b=Z (.tup (k.map kV))/\r=gQ d k
def u0(H:Hp)(a:KM)(y v:V)(e:Hp):Prop :=
 (∃d k,H a=Z (.dK d)/\y=kV k/\d.length<KF/\e=upd H a (.dK (putK d k v))) ∨
 ∃d k b,H a=Z (.dT d)/\y=.ref b/\H b=Z (.tup (k.map kV))/\d.length<KF/\e=upd H a (.dT (putK d k v))
theorem ik.k{b:List (Key×V)}{k:Key}(e:H a=Z (.dK b)):ik H a (kV k) (gQ b k):=.inl ⟨b,k,.inl e,rfl,rfl⟩
theorem u0.k{b:List (Key×V)}{k:Key}{v:V}(e:H a=Z (.dK b))(d:b.length<KF):u0 H a (kV k) v (upd H a (.dK (putK b k v))):=.inl ⟨b,k,e,rfl,d,rfl⟩
section
variable{H:Hp}{A:SB}
def Inv.big(I:Inv X pins J H s):sysModules<s.heap.objs.size:=by
 exact X5 (by decide) ((I.mod.glob.keeps I.bk).lt)
def wY(t:A.units+1<cLine)(I:Inv X pins J H s)(g:ik H a y (Z v))(q:RelV y u)(h:∀d n,Inv X pins J H n->RelV v d->Q d n) :
  PP (KB X.prog X.w) A (getItem (.ref a) u) Q E s:=by
 rcases g with⟨C,k,e,i,l⟩ | ⟨C,k,b,e,i,B,l⟩
 ·subst i;obtain⟨z,hd,F,rel,j⟩:=m8 I.p0 e;obtain⟨d,hw,m⟩:=jc.some_of (v:=v) (by rw[l];exact rel.val k);exact wpAny_getItem_of (nc q) j.mapOf hw (h d _ (I.tok _) m)
 ·subst i;cases (q);obtain⟨z,hd,D,rel,j⟩:=oF I.p0 e;obtain⟨d,hw,m⟩:=jc.some_of (v:=v) (by rw[l];exact rel.val k);obtain⟨p,x,f⟩:=Zt.mp hw;refine wpAny_getItem_heap (XD t) (d7 I.p0 B) j x ?_;rw[f];exact h d _ (I.tok _) m
def IF(m:A.units+1<cLine)(I:Inv X pins J H s)(g:ik H a y o)(j:RelV y u)(h:∀i,Inv X pins J H i->Q (.bool o.isSome) i) :
  PP (KB X.prog X.w) A (SL .In u (.ref a)) Q E s:=by
 rcases g with⟨p,k,e,d,l⟩ | ⟨p,k,b,e,d,n,l⟩
 ·subst d;obtain⟨z,hd,x,rel,f⟩:=m8 I.p0 e;refine wpAny_in_of (nc j) hd f.mapOf ?_;rw[← (rel.val k).Jz,← l];exact h _ (I.tok _)
 ·subst d;cases (j);obtain⟨z,hd,t,rel,f⟩:=oF I.p0 e;refine wpAny_in_heap (XD m) (d7 I.p0 n) hd f ?_;have q:=(rel.val k).Jz;rw[YB]at q;rw[← q,← l];exact h _ (I.tok _)
def BH(m:A.units+1<cLine)(I:Inv X pins J H s)(g:ik H a y o)(j:RelV y u)(h:∀i,Inv X pins J H i->Q (.bool (!o.isSome)) i) :
  PP (KB X.prog X.w) A (SL .NotIn u (.ref a)) Q E s:=by
 rcases g with⟨p,k,e,d,l⟩ | ⟨p,k,b,e,d,n,l⟩
 ·subst d;obtain⟨z,hd,x,rel,f⟩:=m8 I.p0 e;refine wpAny_notIn_of (nc j) hd f.mapOf ?_;rw[← (rel.val k).Jz,← l];exact h _ (I.tok _)
 ·subst d;cases (j);obtain⟨z,hd,t,rel,f⟩:=oF I.p0 e;refine wpAny_notIn_heap (XD m) (d7 I.p0 n) hd f ?_;have q:=(rel.val k).Jz;rw[YB]at q;rw[← q,← l];exact h _ (I.tok _)
def nL(I:Inv X pins J H s)(i:IU (H a))(j:Heap.SameBut a s.heap d)(he:∃q,d.get? a=Z q)(g:dN X.prog X.w (upd H a f) d a f) :
  Inv X pins J (upd H a f) { s with heap:=d,toks:=h } :=
 I.write (x:=a) (e:=a) i (.inl Y) (λb q hb z=>(j.2 b hb).trans z) he g
def qZ{f:SZ}{e:List (Key×V)}(z:e.length<=KF)(g:(a==sysModules)=R)(d:KV e b)(h:f.DictOf (aZ P w) a b) :
  dN P w i f a (.dK e):=⟨z,g,b,d,h⟩
def xY(M:A.units+1<cLine)(I:Inv X pins J H s)(g:u0 H a y v F)(x:RelV y u)(B:RelV v r)(h:∀t,Inv X pins J F t->Q () t) :
  PP (KB X.prog X.w) A (setItem (.ref a) u r) Q E s:=by
 rcases g with⟨p,k,e,j,l,m⟩ | ⟨p,k,b,e,j,D,l,m⟩
 ·subst j m;obtain⟨z,hd,vs,rel,n⟩:=sC I.p0 e;refine wpAny_setItem_pairs (hsz:=(by rw[← rel.length];exact z)) (nc x) n λY f i=>h _ ?_;exact nL I (by rw[e];exact True.intro) i (let ⟨q,_,_,d,_⟩:=f;⟨q,d⟩) (qZ (by have:=g9 p k v;lia) hd (rel.put k B) f)
 ·subst j m;cases (x);obtain⟨z,hd,xs,rel,n⟩:=Ge I.p0 e;refine wpAny_setItem_heap (hsz:=(by rw[← XI rel];exact z)) (XD M) (d7 I.p0 D) n λY f i=>h _ ?_;refine L2.ak λP_ G=>?_;obtain⟨q,es,ep,d,U,S,P,_,N⟩:=f;refine G ?_;refine nL I (by rw[e];exact True.intro) i ⟨q,d⟩ ⟨(by have:=g9 p k v;lia),hd,_,(rel.put k D B).keeps λc ys C=>?_,q,es,ep,d,U,S,P,N⟩;rw[aD (GA C e (λz=>nomatch z))];exact C
end
section
variable{H:Hp}{A:SB}
def GJ(I:Inv X pins J H s)(e:Rd H a (.dK cg))(h:∀t b,Inv X pins J H b->Q (.int cg.length t) b):PP (KB X.prog X.w) A (call (.builtin "len") [.ref a]) Q E s:=by
 obtain⟨z,hd,f,rel,d⟩:=m8 I.p0 e;refine call_len_dict hd d (by rw[← rel.length];rw[XW]at z;lia) ?_;rw[← rel.length];exact h _ _ (I.tok _)
end
def sT(I:Inv X d J H s)(g:ik H a y o):s.TypeIs (.ref a) "dict" := by
 rcases g with⟨h,k,e,_,_⟩ | ⟨h,k,b,e,_,_,_⟩
 ·obtain⟨_,_,j,_,f⟩:=m8 I.p0 e;exact f.typeIs
 ·obtain⟨_,_,i,_,f⟩:=oF I.p0 e;exact f.typeIs
def ud{w:UF}(h:SZ)(a:sysModules<h.objs.size):dN P w H (h.push { cls:=.type "dict",data:=.dict #[] }) h.objs.size (.dK []) :=
 ⟨Yw _,beq_eq_false_iff_ne.mpr (Ye (Zh a)),[],.nil,Heap.DictOf.new h⟩
def EE:TE:=λ_ H Q=>∀p,H p=L->Q (.ref p) (upd H p (.dK []))
section
def zW:PE X (.Dict [] [] pos) EE:=λa s J H Q I h =>
 wpAny_Dict_empty ⟨.ref s.heap.objs.size,_,I.laid (λ_ _ q=>Zp _ q) (Zm _) (ud s.heap I.big),rfl,h _ (I.p0.fresh (Zm _))⟩
end
noncomputable def uS:List (TE×TE)->St->Hp->(List (V×V)->Hp->Prop)->Prop
 |[],_,H,Q=>Q [] H
 | (b,a) :: r,J,H,Q=>b J H λx f=>a J f λy e=>uS r J e λps d=>Q ((x,y) :: ps) d
abbrev VV:List (V×V)->List (On×On)->Prop:=Paired λp q=>RelV p.1 q.1/\RelV p.2 q.2
def PPs(X:Cx)(e:Pos)(d:List (Option Expr))(a:List Expr)(i:List (TE×TE)):Prop :=
 ∀(b:X7)(s:IR)(J:St)(H:Hp)(Q:List (V×V)->Hp->Prop),Inv X b J H s->uS i J H Q →
  PP (KB X.prog X.w) X.A (evalPairs (pairTrees d a X.env e)) (λg h=>∃ps f,Inv X b J f h/\VV ps g/\Q ps f) X.xe s
def B4:PPs X a [] [] []:=λb s J H Q I h=>pairTrees_nil_walk ⟨[],H,I,.nil,h⟩
def yE(t:PE X k f)(q:PE X v e)(r:PPs X b g d i) :
  PPs X b (Z k :: g) (v :: d) ((f,e) :: i):=λa s J H Q I h =>
 pairTrees_cons_walk (thn (t a s J H _ I h) λu s1 ⟨x,D,A,m,p⟩=>thn (q a s1 J D _ A p) λE j ⟨y,C,z,l,o⟩ =>
  thn (r a j J C _ z o) λws F ⟨ps,B,w,rel,n⟩=>⟨(x,y) :: ps,B,w,.cons ⟨m,l⟩ rel,n⟩)
def qu(d a:List (Key×V)):List (Key×V):=a.foldl (λacc b=>putK acc b.1 b.2) d
def KV.merge:∀{more:List (Key×V)}{d:List (Key×On)}{b:List (Key×V)}{a:List (Key×On)},KV more d->KV b a->KV (qu b more) (merged a d):=by
 intro more d b a r
 induction r generalizing b a with
 |nil=>intro q;exact q
 |@cons p q ps i h t g =>
  intro f;have e:KV (putK b p.1 p.2) (stored a q.1 q.2):=by
   have:=f.put p.1 h.2;rw[← h.1];exact this
  exact g e
theorem jW:∀(more a:List (Key×V)),(qu a more).length<=a.length+more.length
 |[],a=>by exact YI _ _
 |p :: r,a=>by
  have d:=jW r (putK a p.1 p.2);have b:=g9 a p.1 p.2;show (qu (putK a p.1 p.2) r).length<=_;rw[Ze];lia
theorem oa{P:Re}{w:UF}:∀{e:List (Key×V)}{ws:List (On×On)},VV (e.map λf=>(kV f.1,f.2)) ws->∃d,Carries (aZ P w) ws d/\KV e d
 |[],_,r=>by rw[List.map_nil]at r;cases r;exact⟨[],True.intro,.nil⟩
 |p :: e,_,r=>by
  rw[Zj]at r;cases r with
  |@cons a b j bs h t =>
   obtain⟨d,c,q⟩:=oa (P:=P) (w:=w) t;obtain⟨i,g⟩:=b;exact⟨(p.1,g) :: d,⟨nc h.1,rfl,c⟩,.cons ⟨rfl,h.2⟩ q⟩
def He(e:List (TE×TE)):TE:=λJ H Q=>∀p,H p=L->uS e J (upd H p (.dK [])) λps d=>d p=Z (.dK [])/\∃a:List (Key×V),ps=a.map (λb=>(kV b.1,b.2))/\a.length<=15/\Q (.ref p) (upd d p (.dK (qu [] a)))
def Bk(h:PPs X d a b i)(F:a.all (·.isSome)=O)(x:a.length=b.length)(B:a≠[])(g:a.length<=15):PE X (.Dict a b d) (He i):=by
 intro f s J H Q I q;have G:=I.laid (t':=s.toks) (λ_ _ q=>Zp _ q) (Zm _) (ud s.heap I.big);refine wpAny_Dict_walk (knd:=aZ X.prog X.w) F x B g (thn (h f _ J _ _ G (q _ (I.p0.fresh (Zm s.heap.objs.size)))) λws M y=>?_);obtain⟨ps,S,l,rel,e,E,C,lk,r⟩:=y;refine L2.ak λP t=>?_;subst C;obtain⟨n,c,o⟩:=oa (w:=X.w) rel;obtain⟨z,hd,m,p,D⟩:=sC l.p0 e;cases p;refine t ?_;refine⟨n,c,D,λN j u=>⟨.ref s.heap.objs.size,_,?_,rfl,r⟩⟩;exact nL l (by rw[e];exact True.intro) u (let ⟨q,_,_,v,_⟩:=j;⟨q,v⟩) (qZ (by
  have A:=jW E [];rw[List.length_nil]at A;rw[XW];lia) hd (o.merge .nil) j)
structure UX(X:Cx)(o:Expr)(m:Str)(apos:Pos)(e:Expr)(cp:Pos):Prop where
 base:UV o m X.env (eval o X.env)=eval o X.env
 Mf:((backTo cp (Pv [e] X.env)).all (λx=>!x.1)&&(backToKw cp (SC [] X.env)).all (λx=>x.1.isSome)
  && decide (([e]:List Expr).length+([]:List Keyword).length+(if ([]:List Keyword).isEmpty then 0 else 1)<30))=true
 line:(apos.endLine==cp.line)=true
 trees:backTo cp (Pv [e] X.env)=[(false,eval e X.env)]
structure Mq2(X:Cx)(o:Expr)(m:Str)(apos:Pos)(e f:Expr)(cp:Pos):Prop where
 base:UV o m X.env (eval o X.env)=eval o X.env
 Mf:((backTo cp (Pv [e,f] X.env)).all (λx=>!x.1)&&(backToKw cp (SC [] X.env)).all (λx=>x.1.isSome)
  && decide (([e,f]:List Expr).length+([]:List Keyword).length+(if ([]:List Keyword).isEmpty then 0 else 1)<30))=true
 line:(apos.endLine==cp.line)=true
 trees:backTo cp (Pv [e,f] X.env)=[(false,eval e X.env),(false,eval f X.env)]
def IsD(H:Hp)(a:KM):Prop:=(∃b,Rd H a (.dK b))\/∃b,Rd H a (.dT b)
def D3(I:Inv X g J H s)(d:IsD H a) :
  s.TypeIs (.ref a) "dict" ∧ (∀b,Value.ref a=.ref b->∃f,s.heap.get? b=Z f/\f.dict=L)/\(a==sysModules)=R:=by
 rcases d with⟨l,e⟩ | ⟨l,e⟩
 ·obtain⟨_,hd,n,_,h⟩:=m8 I.p0 e;refine⟨h.typeIs,λb q=>?_,hd⟩;cases q;obtain⟨f,_,_,j,i,_⟩:=h;exact⟨f,j,i.2.1⟩
 ·obtain⟨_,hd,m,_,h⟩:=oF I.p0 e;refine⟨h.typeIs,λb q=>?_,hd⟩;cases q;obtain⟨f,_,_,j,i,_⟩:=h;exact⟨f,j,i.2.1⟩
section
variable{H:Hp}{A:SB}
def Eb(q:A.units+1<cLine)(I:Inv X pins J H s)(g:ik H a y o)(n:RelV y u)(h:∀j m,Inv X pins J H m->RelV (o.getD .non) j->Q j m) :
  PP (KB X.prog X.w) A (call (.builtin "dict.get") [.ref a,u]) Q E s:=by
 rcases g with⟨v,k,e,i,l⟩ | ⟨v,k,b,e,i,t,l⟩
 ·subst i;obtain⟨z,hd,x,rel,f⟩:=m8 I.p0 e;refine call_meetsIn WW f.typeIs PySem.F.entry_dict_get (PySem.F.args_dict_get_2 _ _) (meets_dict_get (aZ X.prog X.w) a (nc n) hd) ⟨_,f.mapOf,h _ _ (I.tok _) ?_⟩;rw[l];exact(rel.val k).getD Y
 ·subst i;cases (n);obtain⟨z,hd,p,rel,f⟩:=oF I.p0 e;refine call_meetsIn WW f.typeIs PySem.F.entry_dict_get (PySem.F.args_dict_get_2 _ _) (meetsH_dict_get (tupleKind (aZ X.prog X.w)) a b hd) ⟨XD q,k,p,d7 I.p0 t,f,h _ _ (I.tok _) ?_⟩;rw[l];exact(rel.val k).getD Y
end
def D7(f e:TE):TE:=λJ H Q=>f J H λx d=>∃a,x=.ref a/\IsD d a/\e J d λy b=>∃o,ik b a y o/\Q (o.getD .non) b
section
def zR{X:Cx}(r:X.A.units+1<cLine)(t:PE X o td)(he:PE X e ty)(m:UX X o "get" apos e cp):PE X (.Call (.Attribute o "get" apos) [e] [] cp) (D7 td ty):=by
 intro b s J H Q I h;refine wpAny_Call_method m.base m.Mf m.line PySem.F.plainAttrs_dict WW PySem.F.type_dict_get (thn (t b s J H _ I h) λu s1 v=>?_);obtain⟨x,D,i,n,a,ex,d,q⟩:=v;subst ex;obtain rfl:u=Value.ref a:=n;obtain⟨j,t2,_⟩:=D3 i d;refine⟨j,t2,?_⟩;rw[m.trees];refine Calls.callWith_builtin Y (Calls.evalArgs_plain (Calls.spliced_cons (thn (he b s1 J D _ i q) λiv M ⟨y,C,B,l,N,g,p⟩=>Calls.spliced_nil ?_)));exact Eb r B g l λE G z w=>⟨_,C,z,w,p⟩
end
end L2
namespace Att
open PySem PySem.W PySem.Calls PyProof.Rows
def nu:∀(ns:Vw)(d:Vz),WellAll P h d (ns.map WData.int)->IntsAre d ns:=by
 intro ns
 induction ns with
 |nil =>
  intro d w;rw[List.map_nil]at w;cases w;exact .nil
 |cons n ns e =>
  intro d w;rw[Zj]at w;cases w with
  |cons a b =>
   cases a;exact .cons _ _ (e _ b)
def xJ{l:OpenLaw}(s:l.most=Z n)(j:l.row.toRowW.claim.pre b=O)(x:WellAll P h e b) :
  ∃a g ns,e=[Value.ref a]/\b=[WData.list (ns.map WData.int)]/\h.get? a=Z { cls:=.type "list",data:=.seq g.toArray }/\IntsAre g ns/\ns.length<=n:=by
 have t:l.pre.holds [] { args:=b }=O:=(pre_splitW j).2;obtain⟨d,r,rfl,w,v⟩:=hasAllW_cons ((pre_splitW j).1);obtain rfl:=hasAllW_nil v;obtain⟨z,rfl,u⟩:=hasW_list w;obtain⟨ns,rfl⟩:=items_int u;have hlen:ns.length<=n:=by
  have f:=condW_of (by
   have i:=(holds_andW t).1;rw[s]at i;exact i) (w_not (w_lt w_lit (w_len_list (w_arg Y))))
  rw[Zy]at f;refine ZI λq=>?_
  first
   | (rw[decide_eq_true (by omega)]at f;exact absurd f (by decide))
   | (omega)
 cases x with
 |cons o m =>
  cases m;cases o with
  |list p y=>exact⟨_,_,ns,rfl,rfl,p,nu ns _ y,hlen⟩
def xn(l:OpenLaw)(a:List WData):l.row.toRowW.claim.post a (.bool O) a=O :=
 postW_of
  (by first | rfl | decide | simp[WShape.has,WShape.arms,WShape.armsAll])
  (w_eq_bool (w_res Y) w_lit) Y
def rN{l:OpenLaw}{d:DefRec}(B:l.most=Z n)(P:d.params.defaults=[])(i:∀(w:UF)(m b:IR)(mg p:Wq)(h:KM)(o:Obj)(pm cd doc:On)(a:KM)(g:Vz)(ns:Vw),
   Ground q e [] x w m mg p b.heap->v w b.heap →
   b.heap.get? h=Z o->o.data=.func (docDef d.name d.params d.body d.scope pm cd doc)->b.heap.CodeRec cd d.name->mg d.name=Z (.ref h) →
   b.heap.get? a=Z { cls:=.type "list",data:=.seq g.toArray }->IntsAre g ns->ns.length<=n->b.gens=#[] →
   codeAny (KB l.prog w) callerA (.call (.ref h) ⟨[.ref a],[]⟩) (λr j=>r=.ok (.ret (.bool O))/\OldK b.heap j.heap/\j.os=b.os/\AllBare j.gens) b) :
  WalkO q e x v l.row.toRowW d [] (λf g=>PySem.call f g):=by
 intro w m b mg p G Y h o pm cd doc H kV A hd Q u s hg args vals S N t y J C;obtain rfl:H=.none:=Dflts.none u P;obtain rfl:kV=.none:=Dflts.noKw u;obtain⟨a,g,ns,rfl,rfl,M,hints,hlen⟩:=xJ B N J;refine enter_call (XQ (i w m b mg p h o pm cd doc a g ns G Y A (fd_plain hd) Q s M hints hlen hg) λr j z=>?_);obtain⟨rfl,F,E,D⟩:=z;exact⟨.inl ⟨.bool O,.bool O,[],rfl,λ_=>rfl,.bool O,xn l _,λ_=>⟨List.Pairwise.nil,λ_ hm=>(nomatch hm)⟩⟩,F,E,D⟩
end Att
namespace L2
open PySem PySem.Spec PyProof.Rows
theorem pX:∀{a:Vz}{ns:Vw},IntsAre a ns->aU (ns.map V.int) a
 |_,_,.nil=>.nil
 |_,_,.cons n t h=>.cons ⟨t,rfl⟩ (pX h)
noncomputable def inClass(s:Stmt)(j:Nat):Stmt:=match s with
 |.ClassDef _ _ _ body _ _ _ _ _ _ _=>body.getD j (.Pass ⟨0,0,0,0⟩)
 |_=>.Pass ⟨0,0,0,0⟩
noncomputable def cR(s:Stmt):Arguments:=match s with
 |.FunctionDef _ a _ _ _ _ _ _ _ _=>a
 |_=>{ posonlyargs:=[],args:=[],vararg:=L,kwonlyargs:=[],kw_defaults:=[],kwarg:=L,defaults:=[] }
noncomputable def ba(s:Stmt):List Stmt:=match s with
 |.FunctionDef _ _ b _ _ _ _ _ _ _=>b
 |_=>[]
def ai(s:Stmt):Scope:=match s with
 |.FunctionDef _ _ _ _ _ _ sc _ _ _=>sc
 |_=>{ kind:=.function,names:=[],isGenerator:=R,isCoroutine:=R }
noncomputable abbrev JB:Ni:=λ_ _ _ _ _ _=>False
noncomputable abbrev E0:XK:=λ_ _ _=>False
def ng{X:Cx}:i8 JB X E0:=λ_ _ _ _ _ _ _ h=>h.elim
structure IH(K:Wu)(x qual:Str)(st:Stmt)(f:KM)(fd:P3):Prop where
 ex:∃(oc:On)(od:Option KM)(kV doc pm:On)(an:Option KM)(II ct:On)(Lr:Array (Vy)),
  fd=PySem.W.fnOf x qual (cR st) (ba st) (ai st) .none kV doc pm an II ct/\K.lookup f=some ⟨oc,od,.func fd,Lr⟩/\PySem.W.codeIn K II qual=true
 kp:PySem.W.keepIn K (.ref f)=true
section
variable{K:Wu}
def IH.ok(F:IH K x a d f l)(S:bt N i (ai d))(j:∀b H Q E,g b H Q E->b.length=i.length)(p:∀(e:On)(A:SB)(outer:List Env)(s:IR)(H:Hp)(b:List V)(Q:VK)(E:XK),oe k (A.deeper (envOfC a (ai d) s.heap.objs.size f e))->g b H Q E →
   ∃t,Kq (jb JB P w K mg base N a (ai d) f e A outer s H E).Lj (ba d) t/\t { nx:=λ_ r=>Q .non r,rt:=Q } (start N b) H):FnOk P w K mg base JB (k+1) f l i g:=by
 obtain⟨oc,u,kV,doc,pm,an,e,ct,v,rfl,lk,o⟩:=F.ex;refine yI lk o S j λA outer s H b Q E m n=>?_;obtain⟨t,h,q⟩:=p e A outer s H b Q E m n;exact⟨t,h.Lj,q⟩
def IH.binds{e:List Str}(F:IH K x a b f i)(h:∀(kV doc pm:On)(an:Option KM)(g ct:On)(d:Vz),d.length=e.length->bindArgs (PySem.W.fnOf x a (cR b) (ba b) (ai b) .none kV doc pm an g ct) ⟨d,[]⟩=pure (e.zip d)):Binds K i e []:=by
 obtain⟨oc,j,kV,doc,pm,an,g,ct,l,rfl,lk,m⟩:=F.ex;exact .all (h kV doc pm an g ct)
def zc{st:Stmt}(l:K.lookup f=Z ⟨m,j,.func (PySem.W.fnOf x a (cR st) (ba st) (ai st) .none g b e i d h),n⟩)(c:PySem.W.codeIn K d a=O)(k:PySem.W.keepIn K (.ref f)=O):IH K x a st f (PySem.W.fnOf x a (cR st) (ba st) (ai st) .none g b e i d h):=⟨⟨m,j,g,b,e,i,d,h,n,rfl,l,c⟩,k⟩
end
def lK(a:oe k A):A.units+1<cLine:=X8 (Nat.add_le_add_left (by decide:1<=64) _) a.units
section
def pv{X:Cx}(i:Nat)(e:{`q2,X.N[i]?=Z x})(b:{`q5,Lg X.env.scope x})(d:{`q1,K3 x})(f:{`q1,K4 x}):PE X (.Name x a) (Ht i):=fR e b d f
end
def zP{A B:Prop}(h:B):if R=O then A else B:=by
 rw[Zl Zc];exact h
def zr{A B:Prop}(h:A):if O=O then A else B:=by
 rw[Zn Y];exact h
noncomputable def aI(H a:Hp):Prop:=∀b o,H b=Z o->a b=Z o
def aI.refl(H:Hp):aI H H:=λ_ _ h=>h
def aI.trans{e:Hp}(a:aI H e)(b:aI e d):aI H d:=λc o h=>b c o (a c o h)
def aI.free(e:aI H a)(h:a l=L):H l=L:=by
 cases q:H l with
 |none=>rfl
 |some o =>
  rw[e l o q]at h;cases h
def aI.seq{K:Wu}(e:aI H d)(h:IT K H a b):IT K d a b:=by
 rcases h with (h | ⟨o,h⟩) | h
 ·exact .inl (.inl (e _ _ h))
 ·exact .inl (.inr ⟨o,e _ _ h⟩)
 ·exact .inr h
end L2
end
section
namespace L2
open PySem PySem.Spec PyProof.Rows
abbrev pM:=List (List Key)
def hN(w:UF)(k:pM):Int:=reduceHash (Builtin.Tuple.tupleHashOf (k.map λx=>reduceHash (Builtin.Tuple.tupleHashOf (x.map (GR w)))))
def HV(w:UF)(x:pM×KM×On):DictEntry:=⟨hN w x.1,.ref x.2.1,x.2.2⟩
abbrev KN:List (pM×KM×V)->List (pM×KM×On)->Prop:=Paired λp q=>p.1=q.1/\p.2.1=q.2.1/\RelV p.2.2 q.2.2
def DN(a:KM)(e:List (pM×KM×V)):HO:=.ext λw h=>e.length<=KF/\(a==sysModules)=R/\∃b:List (pM×KM×On),KN e b ∧
 ∃o d f,h.get? a=Z o/\o.ExactDict/\o.data=.dict d f/\d.toList=b.map (HV w)/\(b.map (·.1)).Nodup
def Sl(H:Hp)(k:pM)(b:KM):Prop:=∃cs:Wg,H b=Z (.tup (cs.map V.ref))/\Paired (λ(x:List Key) (c:KM)=>H c=Z (.tup (x.map kV))) k cs
def Sl.mono{k:pM}(x:Sl H k b)(t:∀a d,H a=Z (.tup d)->e a=Z (.tup d)):Sl e k b:=by
 obtain⟨cs,h,r⟩:=x;exact⟨cs,t _ _ h,Paired.NQ r λ_ _ z=>t _ _ z⟩
end L2
end
section
namespace VS
open PySem PySem.Spec PyProof.Rows L2
noncomputable def sx(s:Tx):Str:=⟨s.toArray⟩
def pC(s:Tx):Prop:=s.length<=fN/\∀c∈s,c<1114112
noncomputable abbrev Me:=Nat->Option V
structure Gx where
 K:Wu
 ct:Nat->KM×(Nat->Str)
 me:Me:=λ_=>none
noncomputable def Gx.at(G:Gx)(m:Me):Gx:=⟨G.K,G.ct,m⟩
noncomputable def aX:Key->T
 |.inl i=>.int i
 |.inr x=>.str x.cps.toList
def nkT(k:pM):T:=.tup (k.map λx=>T.tup (x.map aX))
def ly(K:Wu)(H:Hp)(a:KM)(d:Vw):Prop :=
 (∃o,H a=Z (.frz o (.lst (d.map V.int)))) ∨
  ∃(o:Obj)(b:Array On)(n:Nat),K.lookup a=Z o/\o.cls=.type "list" ∧ o.dict=L/\o.data=.seq b n/\b.size<=KF/\aU (d.map V.int) b.toList
mutual
inductive Rp(G:Gx)(H:Hp):V->T->Wg->Prop
 |non:Rp G H .non .non []
 |bl (b:Bool):Rp G H (.bl b) (.bl b) []
 |int (i:Int):Rp G H (.int i) (.int i) []
 |str (s:Tx):pC s->Rp G H (.str (sx s)) (.str s) []
 |scr {a:KM} {ns:Vw}:ly G.K H a ns->Rp G H (.ref a) (.scr ns) []
 |tup {a:KM} {vs:List V} {ts:Vr} {Fs:Wv}:H a=some (.tup vs)->RpL G H vs ts Fs->Rp G H (.ref a) (.tup ts) Fs.flatten
 |lst {a:KM} {vs:List V} {ts:Vr} {Fs:Wv}:H a=some (.lst vs)->RpL G H vs ts Fs->Rp G H (.ref a) (.lst ts) (a :: Fs.flatten)
 |dct {a:KM} {ks:List Key} {vs:List V} {ts:Vr} {Fs:Wv}:H a=some (.dK (ks.zip vs))->ks.length=vs.length->RpL G H vs ts Fs->Rp G H (.ref a) (.dct 0 ((ks.map aX).zip ts)) (a :: Fs.flatten)
 |dctT {a:KM} {ks:List (List Key)} {vs:List V} {ts:Vr} {Fs:Wv}:H a=some (.dT (ks.zip vs))->ks.length=vs.length->RpL G H vs ts Fs->Rp G H (.ref a) (.dct 1 ((ks.map λk=>T.tup (k.map aX)).zip ts)) (a :: Fs.flatten)
 |dctN {a:KM} {ks:List (pM×KM)} {vs:List V} {ts:Vr} {Fs:Wv}:H a=some (DN a ((ks.zip vs).map λp=>(p.1.1,p.1.2,p.2)))->ks.length=vs.length->(∀p∈ks,Sl H p.1 p.2)->RpL G H vs ts Fs->Rp G H (.ref a) (.dct 2 ((ks.map λp=>nkT p.1).zip ts)) (a :: Fs.flatten)
 |dctZ {a:KM} {o:Obj} {ks:List Key} {vs:List V} {ts:Vr} {Fs:Wv}:H a=some (.frz o (.dK (ks.zip vs)))->ks.length=vs.length->RpL G H vs ts Fs->Rp G H (.ref a) (.dct 3 ((ks.map aX).zip ts)) Fs.flatten
 |exc {c:Nat} {a:KM} {o:Obj}:H a=some (.frz o (.own a))->(o.cls=.ref (G.ct c).1/\o.dict=none/\∃vs,o.data=.fields vs)->Rp G H (.ref a) (.obj c []) []
 |ins {c:Nat} {a dx:KM} {b:Bool} {ks:Vx} {vs:List V} {ts:Vr} {Fs:Wv}:H a=some (.ins (G.ct (c+1)).1 dx ((ks.map (G.ct (c+1)).2).zip vs))->ks.length=vs.length->(b=true->G.me 0=some (.ref a))->RpL G H vs ts Fs->Rp G H (.ref a) (.obj (c+1) ((0,.bl b) :: ks.zip ts)) (a :: Fs.flatten)
 |mk {m:Nat} {a:KM} {t:T} {F:Wg}:G.me m=some (.ref a)->Rp G H (.ref a) t F->Rp G H (.ref a) (.obj 0 [(0,.bl true),(m,t)]) F
inductive RpL(G:Gx)(H:Hp):List V->Vr->Wv->Prop
 |nil:RpL G H [] [] []
 |cons {v:V} {t:T} {F:Wg} {vs:List V} {ts:Vr} {Fs:Wv}:Rp G H v t F->RpL G H vs ts Fs->RpL G H (v :: vs) (t :: ts) (F :: Fs)
end
def RpI(G:Gx)(H:Hp)(v:V)(F:Wg):T->Prop
 |.non=>v=.non
 |.bl b=>v=.bl b
 |.int b=>v=.int b
 |.str b=>v=.str (sx b)/\pC b
 |.scr l=>∃a,v=.ref a/\F=[]/\ly G.K H a l
 |.tup l=>∃a e f,v=.ref a/\F=f.flatten/\H a=Z (.tup e)/\RpL G H e l f
 |.lst l=>∃a e f,v=.ref a/\F=a :: f.flatten/\H a=Z (.lst e)/\RpL G H e l f
 |.dct d l=>match d with
  |0=>∃(a:KM)(g:List Key)(e:List V)(h:Vr)(f:Wv),v=.ref a/\F=a :: f.flatten/\H a=Z (.dK (g.zip e))/\g.length=e.length/\l=(g.map aX).zip h/\RpL G H e h f
  |3=>∃(a:KM)(o:Obj)(g:List Key)(e:List V)(h:Vr)(f:Wv),v=.ref a/\F=f.flatten/\H a=Z (.frz o (.dK (g.zip e)))/\g.length=e.length/\l=(g.map aX).zip h/\RpL G H e h f
  |_=>True
 |.obj c fs=>match c,fs with
  |c+1,j :: fs=>∃(i:Nat)(a n:KM)(b:Bool)(g:Vx)(e:List V)(h:Vr)(f:Wv),c+1=i+1/\v=.ref a/\j=(0,.bl b)/\fs=g.zip h/\F=a :: f.flatten/\H a=Z (.ins (G.ct (i+1)).1 n ((g.map (G.ct (i+1)).2).zip e))/\g.length=e.length/\(b=O->G.me 0=Z (.ref a))/\RpL G H e h f
  |0,fs=>∀m t,fs=[(0,.bl O),(m,t)]->∃a,v=.ref a/\G.me m=Z (.ref a)/\Rp G H (.ref a) t F
  |_,_=>True
def Rp.inv(r:Rp G H v t F):RpI G H v F t:=by
 cases r with
 |str s h=>exact⟨rfl,h⟩
 |scr h=>exact⟨_,rfl,rfl,h⟩
 |tup h q=>exact⟨_,_,_,rfl,rfl,h,q⟩
 |lst h q=>exact⟨_,_,_,rfl,rfl,h,q⟩
 |dct h hl q=>exact⟨_,_,_,_,_,rfl,rfl,h,hl,rfl,q⟩
 |dctZ h hl q=>exact⟨_,_,_,_,_,_,rfl,rfl,h,hl,rfl,q⟩
 |@exc c=>exact Nat.casesOn (motive:=λc=>RpI G H _ [] (.obj c [])) c (λ_ _ e=>nomatch e) λ_=>trivial
 |ins h l m q=>exact⟨_,_,_,_,_,_,_,_,rfl,rfl,rfl,rfl,rfl,h,l,m,q⟩
 |mk h q=>exact λ_ _ e=>by simp_all
 |dctT _ _ _=>trivial
 |dctN _ _ _ _=>trivial
 |_=>rfl
structure Kept(H H':Hp):Prop where
 tup:∀a xs,H a=some (.tup xs)->H' a=some (.tup xs)
 frz:∀a o u,H a=some (.frz o u)->H' a=some (.frz o u)
def Kept.refl(H:Hp):Kept H H:=⟨λ_ _ h=>h,λ_ _ _ h=>h⟩
def Kept.trans{e:Hp}(a:Kept H e)(b:Kept e d):Kept H d:=⟨λc x h=>b.tup c x (a.tup c x h),λc o u h=>b.frz c o u (a.frz c o u h)⟩
def Kept.of(e:aI H b):Kept H b:=⟨λa _ h=>e a _ h,λa _ _ h=>e a _ h⟩
theorem Kept.upd{H:Hp}(f:IU (H a)\/H a=L):Kept H (upd H a o):=by
 have ne:∀b u,H b=Z u->¬IU (Z u)->b≠a:=λb u h nm e=>by
  grind
 exact⟨λb d h=>by rw[aD (ne b _ h λz=>z)];exact h,λb o u h=>by rw[aD (ne b _ h λz=>z)];exact h⟩
def ly.kept{K:Wu}(h:ly K H a b)(k:Kept H d):ly K d a b:=by
 rcases h with⟨o,e⟩ | h
 ·exact .inl ⟨o,k.frz _ _ _ e⟩
 ·exact .inr h
def ly.seq{K:Wu}(h:ly K H a b):IT K H a (b.map V.int):=by
 rcases h with⟨o,e⟩ | h
 ·exact .inl (.inr ⟨o,e⟩)
 ·exact .inr h
def sG{H d:Hp}{a:KM}{F:Wg}(f:∀b∈a :: F,∀o,H b=Z o->d b=Z o):∀b∈F,∀o,H b=Z o->d b=Z o:=λb m=>f b (Zw _ m)
def vh{H a:Hp}{F:Wg}{d:Wv}(f:∀b∈(F :: d).flatten,∀o,H b=Z o->a b=Z o):(∀b∈F,∀o,H b=Z o->a b=Z o)/\∀b∈d.flatten,∀o,H b=Z o->a b=Z o:=by
 simp_all
def Rp.keep(k:Kept H e)(r:Rp G H v t F):(∀a∈F,∀o,H a=Z o->e a=Z o)->Rp G e v t F :=
 Rp.rec (motive_2:=λj q g _=>(∀a∈g.flatten,∀o,H a=Z o->e a=Z o)->RpL G e j q g)
  (λ_=>.non) (λb _=>.bl b) (λi _=>.int i) (λs h _=>.str s h) (λh _=>.scr (h.kept k)) (λh _ d f=>.tup (k.tup _ _ h) (d f)) (λh _ d f=>.lst (f _ Zu _ h) (d (sG f))) (λh l _ d f=>.dct (f _ Zu _ h) l (d (sG f))) (λh l _ d f=>.dctT (f _ Zu _ h) l (d (sG f)))
  (λh l n _ d f=>.dctN (f _ Zu _ h) l (λp m=>(n p m).mono k.tup) (d (sG f))) (λh l _ d f=>.dctZ (k.frz _ _ _ h) l (d f)) (λh x _=>.exc (k.frz _ _ _ h) x) (λh l m _ d f=>.ins (f _ Zu _ h) l m (d (sG f))) (λh _ d f=>.mk h (d f)) (λ_=>.nil) (λ_ _ w u f=>.cons (w (vh f).1) (u (vh f).2)) r
theorem RpL.keep(k:Kept H g):∀{e:List V}{b:Vr}{d:Wv},RpL G H e b d->(∀a∈d.flatten,∀o,H a=Z o->g a=Z o)->RpL G g e b d:=by
 intro e b
 induction b generalizing e with
 |nil=>intro d r f;cases r;exact .nil
 |cons t b h =>
  intro d r f;cases r with
  |cons r q=>exact .cons (r.keep k (vh f).1) (h q (vh f).2)
def Rp.same{G:Gx}{H:Hp}(e:aI H b)(r:Rp G H v t F):Rp G b v t F:=r.keep (Kept.of e) λa _ o h=>e a o h
def RpL.same{G:Gx}{H:Hp}(e:aI H b)(r:RpL G H v t F):RpL G b v t F:=r.keep (Kept.of e) λa _ o h=>e a o h
def zD{H:Hp}{a:KM}{F:Wg}(h:IU (H a))(d:∀b∈F,IU (H b)):∀b∈a :: F,IU (H b):=λb m=>(Zk.mp m).elim (λe=>e ▸ h) (d b)
def yk{H:Hp}{a:KM}{o:HO}(h:H a=Z o)(m:IU (Z o)):IU (H a):=by rw[h];exact m
def Hi{H:Hp}{F:Wg}{a:Wv}(e:∀b∈F,IU (H b))(d:∀b∈a.flatten,IU (H b)):∀b∈(F :: a).flatten,IU (H b):=λb m=>by
 grind
def Rp.Jh(r:Rp G H v t F):∀a∈F,IU (H a) :=
 Rp.rec
  (λ_ m=>nomatch m) (λ_ _ m=>nomatch m) (λ_ _ m=>nomatch m) (λ_ _ _ m=>nomatch m) (λ_ _ m=>nomatch m) (λ_ _ b=>b) (λh _ b=>zD (yk h True.intro) b) (λh _ _ b=>zD (yk h True.intro) b) (λh _ _ b=>zD (yk h True.intro) b)
  (λh _ _ _ b=>zD (yk h True.intro) b) (λ_ _ _ b=>b) (λ_ _ _ m=>nomatch m) (λh _ _ _ b=>zD (yk h True.intro) b) (λ_ _ b=>b) (λ_ m=>nomatch m) (λ_ _ e d=>Hi e d) r
theorem RpL.Jh:∀{e:List V}{b:Vr}{d:Wv},RpL G H e b d->∀a∈d.flatten,IU (H a):=by
 intro e b
 induction b generalizing e with
 |nil=>intro d r;cases r;exact λ_ m=>nomatch m
 |cons t b f =>
  intro d r;cases r with
  |cons r q=>exact Hi r.Jh (f q)
def IU.pe(m:IU o):o≠L:=λe=>by subst e;exact m
def Hj{b:Wv}(e:VS.IS t=O->F=[])(d:VS.iN a=O->b.flatten=[])(i:VS.iN (t :: a)=O):(F :: b).flatten=[]:=by
 have i:=ZW.mp i;rw[Yl,e i.1,d i.2];rfl
theorem Rp.IS(r:Rp G H v t F):VS.IS t=O->F=[] :=
 Rp.rec
  (λ_=>rfl) (λ_ _=>rfl) (λ_ _=>rfl) (λ_ _ _=>rfl) (λ_ _=>rfl) (λ_ _ a i=>a i) (λ_ _ _ i=>absurd (i) Zc) (λ_ _ _ _ i=>absurd (i) Zc) (λ_ _ _ _ i=>absurd (i) Zc)
  (λ_ _ _ _ _ i=>absurd (i) Zc) (λ_ _ _ _ i=>absurd (i) Zc) (λ_ _ _=>rfl) (λ_ _ _ _ _ i=>absurd (i) Zc) (λ_ _ _ i=>absurd (i) Zc) (λ_=>rfl) (λ_ _ d b i=>Hj d b i) r
theorem RpL.IS:∀{d:List V}{a:Vr}{b:Wv},RpL G H d a b->VS.iN a=O->b.flatten=[]:=by
 intro d a
 induction a generalizing d with
 |nil=>intro b r i;cases r;exact rfl
 |cons t a e =>
  intro b r i;cases r with
  |cons r q=>exact Hj r.IS (e q) i
def RpL.len:∀{b:List V}{a:Vr}{d:Wv},RpL G H b a d->b.length=a.length/\d.length=a.length:=by
 intro b a
 induction a generalizing b with
 |nil=>intro d r;cases r;exact⟨rfl,rfl⟩
 |cons t a e =>
  intro d r;cases r with
  |cons r q=>exact⟨congrArg (·+1) (e q).1,congrArg (·+1) (e q).2⟩
theorem RpL.get{G:Gx}:∀{a:List V}{b:Vr}{d:Wv}(i:Nat){t:T},RpL G H a b d->b[i]?=Z t->∃v F,a[i]?=Z v/\d[i]?=Z F/\Rp G H v t F
 |_,_,_,_,_,.nil,e=>by simp at e
 |_,_,_,0,_,.cons r _,e=>by
  simp_all
 |_,_,_,i+1,_,.cons _ q,e=>by
  obtain⟨v,F,h,g,f⟩:=RpL.get i q (by simpa using e)
  simp_all
def RpL.append:∀{b:List V}{a:Vr}{f:Wv}{d:List V}{e:Vr}{Gs:Wv},RpL G H b a f->RpL G H d e Gs->RpL G H (b++d) (a++e) (f++Gs):=by
 intro b a
 induction a generalizing b with
 |nil=>intro f d e Gs r s;cases r;exact s
 |cons t a g =>
  intro f d e Gs r s;cases r with
  |cons r q=>exact .cons r (g q s)
theorem RpL.take:∀{a:List V}{b:Vr}{d:Wv}(n:Nat),RpL G H a b d->RpL G H (a.take n) (b.take n) (d.take n)
 |_,_,_,0,_=>by simpa using RpL.nil
 |_,_,_,n+1,.nil=>.nil
 |_,_,_,n+1,.cons r q=>.cons r (RpL.take n q)
theorem RpL.drop:∀{a:List V}{b:Vr}{d:Wv}(n:Nat),RpL G H a b d->RpL G H (a.drop n) (b.drop n) (d.drop n)
 |_,_,_,0,q=>q
 |_,_,_,n+1,.nil=>.nil
 |_,_,_,n+1,.cons r q=>RpL.drop n q
noncomputable def m7:Cell->T
 |.pu t=>t
 |.ow t=>t
noncomputable abbrev IQ:=Nat->Wg
structure SR(G:Gx)(M:IQ)(U:VS.Env)(J:L2.St)(H:Hp):Prop where
 len:U.length=J.length
 rp:∀i c,U[i]?=some (some c)->∃v,J[i]?=some (some v)/\Rp G H v (m7 c) (M i)
 nd:∀i t,U[i]?=some (some (.ow t))->(M i).Nodup
 sep:∀i j t c,U[i]?=some (some (.ow t))->U[j]?=some (some c)->i≠j->∀a∈M i,a∉M j
noncomputable def fg(M:IQ)(U:VS.Env)(a:KM):Prop:=∃j t,U[j]?=Z (Z (.pu t))/\a∈M j
noncomputable def cT(M:IQ)(U:VS.Env)(a:KM):Prop:=∃j t,U[j]?=Z (Z (.ow t))/\a∈M j
def Fp(M:IQ)(U:VS.Env)(H:Hp):Md->Wg->Prop
 |.fr,F=>F.Nodup/\∀a∈F,H a=L
 |.pu,F=>∀a∈F,H a=L\/fg M U a
 |.bo,F=>∀a∈F,H a=L\/fg M U a\/cT M U a
theorem SR.same{G:Gx}{H a:Hp}(s:SR G M U J H)(e:aI H a):SR G M U J a :=
 ⟨s.len,λi c h=>let ⟨v,d,b⟩:=s.rp i c h;⟨v,d,b.same e⟩,s.nd,s.sep⟩
def SR.MK(s:SR G M U J H)(h:fg M U a):IU (H a):=by
 obtain⟨j,t,d,b⟩:=h;obtain⟨v,_,r⟩:=s.rp j _ d;exact r.Jh a b
def SR.Ka(s:SR G M U J H)(h:cT M U a):IU (H a):=by
 obtain⟨j,t,d,b⟩:=h;obtain⟨v,_,r⟩:=s.rp j _ d;exact r.Jh a b
def Fp.nil:Fp M U H m []:=by
 cases m
 ·exact⟨Yb,λa h=>by simp at h⟩
 ·exact λa h=>by simp at h
 ·exact λa h=>by simp at h
theorem Fp.bo{H:Hp}:∀{m:Md},Fp M U H m F->Fp M U H .bo F
 |.fr,h=>λa m=>.inl (h.2 a m)
 |.pu,h=>λa m=>(h a m).elim .inl λz=>.inr (.inl z)
 |.bo,h=>h
theorem Fp.pu{U:VS.Env}{H:Hp}:∀{m:Md},m ≠ .bo->Fp M U H m F->Fp M U H .pu F
 |.fr,_,h=>λa m=>.inl (h.2 a m)
 |.pu,_,h=>h
 |.bo,n,_=>absurd Y n
theorem Fp.back(e:aI H b):∀{m:Md},Fp M U b m F->Fp M U H m F
 |.fr,h=>⟨h.1,λa m=>e.free (h.2 a m)⟩
 |.pu,h=>λa m=>(h a m).imp e.free id
 |.bo,h=>λa m=>(h a m).imp e.free id
theorem Fp.up{U:VS.Env}{m:Md}(f:Fp M U H m F)(r:Rp G a v t F):Fp M U H (VS.up m t).1 F:=by
 unfold VS.up;by_cases h:VS.IS t=O
 ·rw[r.IS h];exact Fp.nil
 grind
def tE(G:Gx)(c:Ex):TE:=λJ H Q=>∃M U m r,SR G M U J H/\c U=Z (m,r)/\∀v a F,aI H a->Rp G a v r F->Fp M U H m F->Q v a
def PV(G:Gx)(X:Cx)(e:Expr)(c:Ex):Prop:=PE X e (tE G c)
def PE.weak{X:Cx}(h:PE X e t)(w:∀J H Q,b J H Q->t J H Q):PE X e b:=λa s J H Q I q=>h a s J H Q I (w J H Q q)
def PT.weak{X:Cx}(h:PT X e t)(w:∀J H Q,b J H Q->t J H Q):PT X e b:=λa s J H Q I q=>h a s J H Q I (w J H Q q)
def PA.weak{X:Cx}(h:PA X e t)(w:∀J H Q,b J H Q->t J H Q):PA X e b:=λpos a s J H Q I q=>h pos a s J H Q I (w J H Q q)
def tT(G:Gx)(c:Ex):TT:=λJ H Q=>∃M U m r b,SR G M U J H/\c U=Z (m,r)/\Nj r=Z b/\∀a,aI H a->Q b a
def KU(G:Gx)(X:Cx)(e:Expr)(c:Ex):Prop:=PT X e (tT G c)
noncomputable def J9(l:Vt)(a:Wv):Wg:=match l,a with
 |v :: l,F :: a=>match v.1 with
  |.fr=>F++J9 l a
  |_=>J9 l a
 |_,_=>[]
structure N9(M:IQ)(U:VS.Env)(H:Hp)(l:Vt)(Fs:Wv):Prop where
 each:∀(i:Nat) v F,l[i]?=some v->Fs[i]?=some F->Fp M U H v.1 F
 nd:(J9 l Fs).Nodup
def SE(G:Gx)(c:Jj):TA:=λJ H Q=>∃M U l,SR G M U J H/\c U=Z l/\∀b a d,aI H a->RpL G a b (trees l) d->N9 M U H l d->Q b a
def JF(G:Gx)(X:Cx)(a:List Expr)(c:Jj):Prop:=PA X a (SE G c)
section
def au{i j pos}:PV G X (.Constant (.int i) j pos) (Q3 i):=PE.weak rK λJ H Q d=>by
 obtain⟨M,U,m,r,s,e,k⟩:=d;cases (e);exact k _ _ _ (aI.refl _) (.int i) Fp.nil
def uj{i j pos}:PV G X (.Constant (.bool i) j pos) (eC (.bl i)):=PE.weak Hu λJ H Q d=>by
 obtain⟨M,U,m,r,s,e,k⟩:=d;cases (e);exact k _ _ _ (aI.refl _) (.bl i) Fp.nil
def rq{j pos}:PV G X (.Constant .none j pos) (eC .non):=PE.weak EK λJ H Q d=>by
 obtain⟨M,U,m,r,s,e,k⟩:=d;cases (e);exact k _ _ _ (aI.refl _) .non Fp.nil
def de{j pos}(h:x=sx t:=by decide +kernel)(f:{`q1,pC t}):PV G X (.Constant (.str x) j pos) (eC (.str t)):=PE.weak Ea λJ H Q d=>by
 obtain⟨M,U,m,r,s,e,k⟩:=d;cases (e);subst h;exact k _ _ _ (aI.refl _) (.str t f) Fp.nil
def bF{X:Cx}(i:Nat)(u:{`q2,X.N[i]?=Z x})(o:{`q5,Lg X.env.scope x})(q:{`q1,K3 x})(y:{`q1,K4 x}):PV G X (.Name x g) (aa i):=PE.weak (fR u o q y) λJ H Q p=>by
 obtain⟨M,U,m,r,s,e,k⟩:=p;unfold aa at e;split at e
 ·rename_i t h;obtain⟨v,l,d⟩:=s.rp _ _ h;have n:=Zi e;have w:t=r:=congrArg Prod.snd n;have em:(VS.up .pu t).1=m:=congrArg Prod.fst n;rw[← w,← em]at k;refine⟨v,l,k v H (M i) (aI.refl _) d ?_⟩;have f:Fp M U H .pu (M i):=λa j=>.inr ⟨i,_,h,j⟩;exact f.up d
 ·rename_i t h;obtain⟨v,l,d⟩:=s.rp _ _ h;cases e;exact⟨v,l,k v H (M i) (aI.refl _) d λa j=>.inr (.inr ⟨i,_,h,j⟩)⟩
 ·cases e
def Bu{v:V}(i:Gl X x)(h:X.mg x=Z u)(r:RelV v u)(f:∀H,Rp G H v t [])(j:{`q1,K3 x}):PV G X (.Name x d) (eC t) :=
 PE.weak (CD i h r j) λJ H Q g=>by
  obtain⟨M,U,m,l,s,e,k⟩:=g;cases (e);exact k _ _ _ (aI.refl _) (f H) Fp.nil
structure RD(G:Gx)(M:IQ)(U:VS.Env)(H0 H:Hp)(x y:Val)(u w:V)(F1 F2:Wg):Prop where
 same:aI H0 H
 r1:Rp G H u x.2 F1
 r2:Rp G H w y.2 F2
 f1:Fp M U H0 x.1 F1
 f2:Fp M U H0 y.1 F2
 nd:x.1=.fr->y.1=.fr->(F1++F2).Nodup
def gR(G:Gx)(r:R2)(f:Val->Val->Vs):Prop:=∀(M:IQ)(U:VS.Env)(e H:Hp)(x y:Val)(u w:V)(h g:Wg)(m:Md)(t:T)(Q:VK),RD G M U e H x y u w h g->f x y=Z (m,t) →
 (∀v d F,aI H d->Rp G d v t F->Fp M U e m F->Q v d)->r u w H Q
def zp{G:Gx}{ca cb:Ex}{J:L2.St}{H:Hp}{Q:V->V->Hp->Prop}{M:IQ}{U:VS.Env}{x y:Val}(s:SR G M U J H)(m:ca U=Z x)(l:cb U=Z y)(k:∀u w d f e,RD G M U H d x y u w f e->Q u w d):tE G ca J H λu g=>tE G cb J g λw d=>Q u w d:=by
 refine⟨M,U,x.1,x.2,s,m,λu g f e1 r1 f1=>⟨M,U,y.1,y.2,s.same e1,l,λw d e e2 r2 f2=>k u w d f e ⟨e1.trans e2,r1.same e2,r2,f1,f2.back e1,λi h=>?_⟩⟩⟩;rw[i]at f1;rw[h]at f2;refine ZR.mpr ⟨f1.1,f2.1,λa j b hb z=>?_⟩;subst z;exact IU.pe (r1.Jh a j) (f2.2 a hb)
def lS(g:gR G r f)(h:tE G (e2 f ca cb) J H Q):P7 r (tE G ca) (tE G cb) J H Q:=by
 obtain⟨M,U,m,t,s,e,k⟩:=h;obtain⟨x,j,e⟩:=Zz.mp e;obtain⟨y,i,e⟩:=Zz.mp e;exact zp s j i λu w l p o d=>g M U H l x y u w p o m t Q d e λv n F e1 r1 f1=>k v n F (d.same.trans e1) r1 f1
def gg(g:OpR X (binaryOp d) r)(e:gR G r f)(j:PV G X a ca)(i:PV G X b cb):PV G X (.BinOp a d b pos) (e2 f ca cb) :=
 PE.weak (GV g j i) λJ H Q h=>lS e h
def EJ(g:OpR X (SL d) r)(e:gR G r f)(l:PV G X a ca)(j:PV G X b cb)(i:behindInMarks d b=R):PV G X (.Compare a [d] [b] pos) (e2 f ca cb) :=
 PE.weak (Bf g l j i) λJ H Q h=>lS e h
noncomputable def Tells(f:Val->Val->Vs):Prop:=∀x y m t,f x y=Z (m,t)->∃b,t=.bl b
def Rp.JR{b:Bool}(r:Rp G H v (.bl b) F):v=.bl b:=r.inv
def Rp.int_inv{b:Int}(r:Rp G H v (.int b) F):v=.int b:=r.inv
def Rp.str_inv{b:Tx}(r:Rp G H v (.str b) F):v=.str (sx b)/\pC b:=r.inv
def n6{c:Ex}(h:tT G c J H Q)(f:∀U m r,c U=Z (m,r)->∃b,r=.bl b)(w:∀Q,tE G c J H Q->t J H Q):zY t J H Q:=by
 obtain⟨M,U,m,r,b,s,e,d,k⟩:=h;refine w _ ⟨M,U,m,r,s,e,λv i F e1 r1 f1=>?_⟩;obtain⟨j,g⟩:=f U m r e;rw[g]at d r1;cases (d);exact⟨_,r1.JR,k i e1⟩
def fE(j:OpR X (SL d) r)(g:gR G r f)(i:Tells f)(o:PV G X a ca)(n:PV G X b cb)(l:behindInMarks d b=R):KU G X (.Compare a [d] [b] pos) (e2 f ca cb) :=
 PT.weak (B0 j o n l) λJ H Q h=>n6 h (λU m r e=>by
  obtain⟨x,_,e⟩:=Zz.mp e;obtain⟨y,_,e⟩:=Zz.mp e;exact i x y m r e) λQ h=>lS g h
def bA{G:Gx}{M:IQ}{U:VS.Env}{e H:Hp}{m:Md}{t:T}{v:V}{Q:VK}(k:∀v d F,aI H d->Rp G d v t F->Fp M U e m F->Q v d)(r:Rp G H v t []):Q v H:=k v H [] (aI.refl _) r Fp.nil
def cX(h:H p=L):aI H (upd H p o):=λb d e=>by rw[aD (bB e h)];exact e
theorem Fp.new(d:g p=L)(h:p∉F):∀{m:Md},Fp M U g m F->Fp M U g m (p :: F)
 |.fr,f=>⟨Zf.mpr ⟨h,f.1⟩,λa m=>(Zk.mp m).elim (λe=>by rw[e];exact d) (f.2 a)⟩
 |.pu,f=>λa m=>(Zk.mp m).elim (λe=>by rw[e];exact .inl d) (f a)
 |.bo,f=>λa m=>(Zk.mp m).elim (λe=>by rw[e];exact .inl d) (f a)
def rg(e:Lu d l=Z (m,t)):t=.lst l/\l.length<=fN/\m=(if iN l then .fr else d):=by
 unfold Lu at e
 simp_all
def jI{G:Gx}{M:IQ}{U:VS.Env}{i H:Hp}{o m:Md}{l:Vr}{t:T}{n:List V}{q:Wv}{Q:VK}(d:aI i H)(e:Lu o l=Z (m,t))(r:RpL G H n l q)(f:Fp M U i o q.flatten)(k:∀v j F,aI H j->Rp G j v t F->Fp M U i m F->Q v j):∀p,H p=L->Q (.ref p) (upd H p (.lst n)):=by
 intro p g;obtain⟨rfl,hl,rfl⟩:=rg e;refine k _ _ _ (cX g) (.lst ay (r.same (cX g))) ?_;have np:=λm=>IU.pe (r.Jh p m) g;by_cases h:iN l=O
 ·rw[h,Zn Y];rw[r.IS h]at np ⊢;exact Fp.nil.new (d.free g) np
 ·rw[Zl h];exact f.new (d.free g) np
theorem RD.join(i:RD G M U h H x y u w f e){F:Wg}(g:F.Sublist (f++e)):Fp M U h (x.1.join y.1) F:=by
 obtain⟨same,r1,r2,f1,f2,nd⟩:=i;obtain⟨l,x⟩:=x;obtain⟨j,y⟩:=y;have both:∀{P:KM->Prop},(∀a∈f,P a)->(∀a∈e,P a)->∀a∈F,P a:=λn m a d=>((λa d=>ZU.mp (g.subset d)) a d).elim (n a) (m a);cases l<;>cases j
 ·exact⟨(nd Y Y).sublist g,both f1.2 f2.2⟩
 ·exact both (λa d=>.inl (f1.2 a d)) f2
 ·exact both (λa d=>.inl (f1.2 a d)) f2
 ·exact both f1 (λa d=>.inl (f2.2 a d))
 ·exact both f1 f2
 ·exact both (f1.bo) f2
 ·exact both f1 (λa d=>.inl (f2.2 a d))
 ·exact both f1 (f2.bo)
 ·exact both f1 f2
def g6:fN=sizeLine:=rfl
def dB(s:Tx):(sx s).length=s.length:=rfl
def FE(s t:Tx):sx s++sx t=sx (s++t):=by
 show Str.append (sx s) (sx t)=_;simp[sx,Str.append]
def Rp.lst_inv(r:Rp G H v (.lst l) F):∃a d e,v=.ref a/\F=a :: e.flatten/\H a=Z (.lst d)/\RpL G H d l e:=r.inv
def Rp.JW(r:Rp G H v (.tup l) F):∃a d e,v=.ref a/\F=e.flatten/\H a=Z (.tup d)/\RpL G H d l e:=r.inv
def Rp.NM(r:Rp G H v (.scr l) F):∃a,v=.ref a/\F=[]/\ly G.K H a l:=r.inv
end
section
def Gm:R2:=λx y H Q=>L6 (λi j=>.int (i+j)) x y H Q\/(∃i j,x=.str i/\y=.str j/\i.length+j.length<=KF/\Q (.str (i++j)) H)\/Gu x y H Q
def Cs:OpR X (binaryOp .Add) Gm:=EA.or (uu.or FN)
def Eu:gR G Gm bJ:=by
 intro M U C H x y u w z v m t Q d e k;have p:=λ{F:Wg} (h:List.Sublist F (z++v))=>d.join h;obtain⟨B,x⟩:=x;obtain⟨A,y⟩:=y;obtain⟨same,r1,r2,f1,f2,nd⟩:=d;unfold bJ at e;split at e
 ·rename_i i _ j e1 e2;cases e1;cases e2;cases e;exact .inl ⟨_,_,r1.int_inv,r2.int_inv,bA k (.int _)⟩
 ·rename_i s _ o e1 e2;cases e1;cases e2;split at e
  ·rename_i hl;cases e;refine .inr (.inl ⟨_,_,r1.str_inv.1,r2.str_inv.1,by rw[dB,dB,← g6];exact hl,?_⟩);rw[FE];exact bA k (.str _ ⟨by simp_all,λc q=>(ZU.mp q).elim (r1.str_inv.2.2 c) (r2.str_inv.2.2 c)⟩)
  ·cases e
 ·rename_i s _ o e1 e2;cases e1;cases e2;obtain⟨a,l,D,rfl,rfl,r,g⟩:=r1.lst_inv;obtain⟨b,n,Gs,rfl,rfl,hb,f⟩:=r2.lst_inv;obtain⟨_,hl,_⟩:=rg e;refine .inr (.inr ⟨a,b,l,n,rfl,rfl,r,hb,?_,jI same e (g.append f) (p ?_) k⟩)
  ·rw[Zv]at hl;rw[g.len.1,f.len.1,← g6];exact hl
  grind
 ·cases e
def mn:gR G (L6 λi j=>.int (i-j)) mP:=by
 intro M U f H x y u w h g m t Q a e k;obtain⟨d,x⟩:=x;obtain⟨b,y⟩:=y;obtain⟨same,r1,r2,f1,f2,nd⟩:=a;unfold mP at e;split at e
 ·rename_i e1 e2;cases e1;cases e2;cases e;exact⟨_,_,r1.int_inv,r2.int_inv,bA k (.int _)⟩
 ·cases e
def Cv:gR G (rI GI λi j=>.int (i/j)) cj:=by
 intro M U f H x y u w l g m t Q a e k;obtain⟨d,x⟩:=x;obtain⟨b,y⟩:=y;obtain⟨same,r1,r2,f1,f2,nd⟩:=a;unfold cj at e;split at e
 ·rename_i e1 e2;cases e1;cases e2;split at e
  ·rename_i h;cases e;exact⟨_,_,r1.int_inv,r2.int_inv,h,bA k (.int _)⟩
  ·cases e
 ·cases e
def Fc:gR G (rI (λ_ j=>0<j) λi j=>.int (i%j)) oMod:=by
 intro M U f H x y u w l g m t Q a e k;obtain⟨d,x⟩:=x;obtain⟨b,y⟩:=y;obtain⟨same,r1,r2,f1,f2,nd⟩:=a;unfold oMod at e;split at e
 ·rename_i e1 e2;cases e1;cases e2;split at e
  ·rename_i h;cases e;exact⟨_,_,r1.int_inv,r2.int_inv,h,bA k (.int _)⟩
  ·cases e
 ·cases e
theorem jz:∀(s t:Tx),KG s t=decide (s<t)
 |[],[]=>by simp[KG]
 |[],_ :: _=>by simp[KG]
 |_ :: _,[]=>by simp[KG]
 |a :: s,b :: t=>by
  unfold KG;rw[jz s t];by_cases e:a<b
  ·simp[e,WU]
  ·by_cases d:b<a
   ·have:¬a=b:=by exact Xy d
    simp[e,d,WU,this]
   ·have:a=b:=by lia
    simp_all
def Vk:R2:=λx y H Q=>L6 (λi j=>.bl (decide (i<j))) x y H Q\/(∃i j,x=.str i/\y=.str j/\Q (.bl (decide (i.cps.toList<j.cps.toList))) H)
def q8:OpR X (SL .Lt) Vk:=Hg.or wX
def vk:gR G Vk oLt:=by
 intro M U g H x y u w i h m t Q b e k;obtain⟨f,x⟩:=x;obtain⟨d,y⟩:=y;obtain⟨same,r1,r2,f1,f2,nd⟩:=b;unfold oLt at e;split at e
 ·rename_i e1 e2;cases e1;cases e2;cases e;exact .inl ⟨_,_,r1.int_inv,r2.int_inv,bA k (.bl _)⟩
 ·rename_i s _ a e1 e2;cases e1;cases e2;cases e;refine .inr ⟨_,_,r1.str_inv.1,r2.str_inv.1,?_⟩;have:decide ((sx s).cps.toList<(sx a).cps.toList)=KG s a:=by rw[jz];exact decide_eq_decide.mpr (by simp[sx])
  rw[this];exact bA k (.bl _)
 ·cases e
def jE:Tells oLt:=by
 intro x y m t e;unfold oLt at e;split at e<;>first | (cases e;exact⟨_,rfl⟩) | cases e
def Em:RJ=2 ^ 64:=rfl
def mJ:gR G (rI BY λi j=>.int (i*j)) mH:=by
 intro M U f H x y u w l g m t Q a e k;obtain⟨d,x⟩:=x;obtain⟨b,y⟩:=y;obtain⟨same,r1,r2,f1,f2,nd⟩:=a;unfold mH at e;split at e
 ·rename_i e1 e2;cases e1;cases e2;split at e
  ·rename_i h;cases e;refine⟨_,_,r1.int_inv,r2.int_inv,?_,bA k (.int _)⟩;rw[Em]at h;exact h
  ·cases e
 ·cases e
def wU:OpR X (SL .LtE) (λx y H Q=>∃i j,x=.str i/\y=.str j/\Q (.bl (!decide (j.cps.toList<i.cps.toList))) H):=by
 intro a s J H x y v u Q I d b h;obtain⟨i,j,rfl,rfl,q⟩:=h;obtain⟨t,rfl⟩:=d;obtain⟨e,rfl⟩:=b;exact PySem.P.le_str ⟨.bl _,H,I,rfl,q⟩
def Vl:R2:=λx y H Q=>L6 (λi j=>.bl (decide (i<=j))) x y H Q\/(∃i j,x=.str i/\y=.str j/\Q (.bl (!decide (j.cps.toList<i.cps.toList))) H)
def uP:OpR X (SL .LtE) Vl:=GS.or wU
def An:gR G Vl oLe:=by
 intro M U g H x y u w i h m t Q b e k;obtain⟨f,x⟩:=x;obtain⟨d,y⟩:=y;obtain⟨same,r1,r2,f1,f2,nd⟩:=b;unfold oLe at e;split at e
 ·rename_i e1 e2;cases e1;cases e2;cases e;exact .inl ⟨_,_,r1.int_inv,r2.int_inv,bA k (.bl _)⟩
 ·rename_i s _ a e1 e2;cases e1;cases e2;cases e;refine .inr ⟨_,_,r1.str_inv.1,r2.str_inv.1,?_⟩;have:decide ((sx a).cps.toList<(sx s).cps.toList)=KG a s:=by rw[jz];exact decide_eq_decide.mpr (by simp[sx])
  rw[this];exact bA k (.bl _)
 ·cases e
def rR:Tells oLe:=by
 intro x y m t e;unfold oLe at e;split at e<;>first | (cases e;exact⟨_,rfl⟩) | cases e
def uN{i:Int}:JL n i=OQ n i:=by
 unfold JL OQ;grind
def j4{α:Type}{l:List α}{i:Int}{k:Nat}{x:α}(b:JL l.length i=Z k)(a:l[k]?=Z x):Pj l i=Z x:=by
 unfold Pj;rw[← uN,b];exact a
def cZ{a:Wv}{F:Wg}{i:Nat}(h:a[i]?=Z F):F.Sublist a.flatten:=by
 obtain⟨b,rfl⟩:=ZT.mp h;exact List.sublist_flatten_of_mem (Z5 b)
theorem Fp.sub{F:Wg}(h:F.Sublist d):∀{m:Md},Fp M U H m d->Fp M U H m F
 |.fr,f=>⟨f.1.sublist h,λa b=>f.2 a (h.subset b)⟩
 |.pu,f=>λa b=>f a (h.subset b)
 |.bo,f=>λa b=>f a (h.subset b)
def zJ:gR G (SJ G.K) aA:=by
 intro M U J H x y u w P N m t Q A e k;obtain⟨E,x⟩:=x;obtain⟨D,y⟩:=y;obtain⟨same,r1,r2,f1,f2,nd⟩:=A;unfold aA at e;split at e
 ·rename_i p l o i e1 e2;cases e1;cases e2;obtain⟨j,d,e⟩:=Zz.mp e;obtain⟨x,b,e⟩:=Zt.mp e;obtain⟨a,n,C,rfl,rfl,q,h⟩:=r1.lst_inv;obtain⟨v,F,s,r,g⟩:=h.get j b;refine .inl ⟨a,n,i,v,rfl,r2.int_inv,IT.of q,j4 (by rw[h.len.1];exact d) s,?_⟩;have f:=((f1.sub (Yh _ _)).sub (cZ r)).up g;unfold VS.sub at e;rw[e]at f;have z:x=t:=congrArg Prod.snd e;rw[z]at g;exact k v H F (aI.refl _) g f
 ·rename_i p l o i e1 e2;cases e1;cases e2;obtain⟨j,d,e⟩:=Zz.mp e;obtain⟨x,b,e⟩:=Zt.mp e;obtain⟨a,n,C,rfl,rfl,q,h⟩:=r1.JW;obtain⟨v,F,s,r,g⟩:=h.get j b;refine .inr (.inl ⟨a,n,i,v,rfl,r2.int_inv,JT.of q,j4 (by rw[h.len.1];exact d) s,?_⟩);have f:=(f1.sub (cZ r)).up g;unfold VS.sub at e;rw[e]at f;have z:x=t:=congrArg Prod.snd e;rw[z]at g;exact k v H F (aI.refl _) g f
 ·rename_i p l o i e1 e2;cases e1;cases e2;obtain⟨j,d,e⟩:=Zz.mp e;obtain⟨x,b,e⟩:=Zt.mp e;cases e;obtain⟨a,rfl,rfl,sa⟩:=r1.NM;refine .inl ⟨a,l.map V.int,i,.int x,rfl,r2.int_inv,sa.seq,j4 (by rw[Zy];exact d) (by simp_all),bA k (.int _)⟩
 ·rename_i p l o i e1 e2;cases e1;cases e2;obtain⟨j,d,e⟩:=Zz.mp e;obtain⟨x,b,e⟩:=Zt.mp e;cases e;obtain⟨rfl,hl⟩:=r1.str_inv;refine .inr (.inr ⟨sx l,i,x,rfl,r2.int_inv,by rw[dB,← g6];exact hl.1,j4 (k:=j) (by simpa[sx] using d) (by simpa[sx] using b),?_⟩);exact bA k (.str [x] ⟨by show 1<=fN;decide,λc B=>by rw[ZZ.mp B];exact hl.2 x (Yz b)⟩)
 ·cases e
end
section
theorem vN:∀{l:Vt}{d:Wv},x∈J9 l d->∃(i:Nat)(v:Val)(F:Wg),l[i]?=Z v/\v.1=.fr/\d[i]?=Z F/\x∈F
 |[],_,h=>by simp[J9]at h
 |_ :: _,[],h=>by simp[J9]at h
 |v :: l,F :: d,h=>by
  have go:x∈J9 l d->∃(i:Nat)(u:Val)(f:Wg),(v :: l)[i]?=Z u/\u.1=.fr/\(F :: d)[i]?=Z f/\x∈f:=λm=>by
   refine L2.ak λs g=>?_;obtain⟨i,u,f,r,q,o,n⟩:=vN m;refine g ?_;exact⟨i+1,u,f,by simpa using r,q,by simpa using o,n⟩
  unfold J9 at h;split at h
  ·rename_i j;rcases ZU.mp h with h | h
   ·exact⟨0,v,F,rfl,j,rfl,h⟩
   ·exact go h
  ·exact go h
def af:JF G X [] ah:=PA.weak iJ λJ H Q d=>by
 obtain⟨M,U,l,s,e,k⟩:=d;cases (e);exact k [] H [] (aI.refl _) .nil ⟨λi v F h=>by simp at h,by simp[J9]⟩
def ab(C:PV G X e ca)(A:JF G X es cs)(w:{`q2,K1 e es X}):JF G X (e :: es) (ae ca cs):=PA.weak (dJ C A w) λJ H Q B=>by
 refine L2.ak λP_ n=>?_;obtain⟨M,U,l,s,e,k⟩:=B;obtain⟨x,P,e⟩:=Zz.mp e;obtain⟨j,N,e⟩:=Zz.mp e;cases e;refine n ?_;refine⟨M,U,x.1,x.2,s,P,λv H1 F e1 r1 f1=>⟨M,U,j,s.same e1,N,λm S Y e2 r2 f2=>k (v :: m) S (F :: Y) (e1.trans e2) (.cons (r1.same e2) r2) ⟨λi u h g d=>?_,?_⟩⟩⟩
 ·cases i with
  |zero =>
   simp_all
  |succ i=>exact(f2.each i u h (by simpa using g) (by simpa using d)).back e1
 ·unfold J9;split
  ·rename_i t;rw[t]at f1;refine ZR.mpr ⟨f1.1,f2.nd,λy r z o q=>?_⟩;subst q;obtain⟨i,u,h,g,d,E,D⟩:=vN o;have f:=f2.each i u h g E;rw[d]at f;exact IU.pe (r1.Jh y r) (f.2 y D)
  ·exact f2.nd
theorem k9:∀{l:Vt},c6 l=.fr->∀v∈l,v.1=.fr
 |[],_,v,h=>by simp at h
 | (m,t) :: r,e,v,h=>by
  have d:m.join (c6 r)=.fr:=e;rcases Zk.mp h with rfl | h
  ·exact(by
   revert d;cases m<;>cases c6 r<;>simp[Md.join])
  ·exact k9 (by
   revert d;cases m<;>cases c6 r<;>simp[Md.join]) v h
theorem lz:∀{l:Vt},c6 l ≠ .bo->∀v∈l,v.1 ≠ .bo
 |[],_,v,h=>by simp at h
 | (m,t) :: r,e,v,h=>by
  have d:m.join (c6 r) ≠ .bo:=e;rcases Zk.mp h with rfl | h
  ·exact(by
   revert d;cases m<;>cases c6 r<;>simp[Md.join])
  ·exact lz (by
   revert d;cases m<;>cases c6 r<;>simp[Md.join]) v h
theorem vo:∀{l:Vt}{d:Wv},l.length=d.length->(∀v∈l,v.1=.fr)->J9 l d=d.flatten
 |[],[],_,_=>rfl
 |[],_ :: _,h,_=>by simp at h
 |_ :: _,[],h,_=>by simp at h
 |v :: l,F :: d,h,q=>by
  unfold J9;rw[q v Zu,vo (by simpa using h) λu f=>q u (Zw _ f)];rfl
def gn{d:Wv}(h:x∈d.flatten):∃(i:Nat)(F:Wg),d[i]?=Z F/\x∈F:=by
 obtain⟨F,j,f⟩:=List.mem_flatten.mp h;obtain⟨i,g⟩:=List.mem_iff_getElem?.mp j;exact⟨i,F,g,f⟩
def N9.join(f:N9 M U H l j)(m:l.length=j.length):Fp M U H (c6 l) j.flatten:=by
 have at':∀x∈j.flatten,∃v F,v∈l/\x∈F/\Fp M U H v.1 F:=λx d=>by
  obtain⟨i,F,n,g⟩:=gn d;have:i<l.length:=by
   grind
  exact⟨l[i],F,Z5 this,g,f.each i _ F (Zs this) n⟩
 cases e:c6 l with
 |fr =>
  have al:=k9 e;refine⟨by rw[← vo m al];exact f.nd,λx d=>?_⟩;obtain⟨v,F,h,g,q⟩:=at' x d;rw[al v h]at q;exact q.2 x g
 |pu =>
  intro x d;obtain⟨v,F,h,g,q⟩:=at' x d;exact Fp.pu ((lz (l:=l) (by rw[e];decide)) v h) q x g
 |bo =>
  intro x d;obtain⟨v,F,h,g,q⟩:=at' x d;exact q.bo x g
structure Args(G:Gx)(M:IQ)(U:VS.Env)(H0 H:Hp)(l:Vt)(vs:List V)(Fs:Wv):Prop where
 same:aI H0 H
 rp:RpL G H vs (trees l) Fs
 fp:N9 M U H0 l Fs
theorem Args.len(A:Args G M U g H l f d):l.length=d.length:=by
 have:=A.rp.len.2
 simp_all
def eU(G:Gx)(r:List V->Hp->VK->Prop)(f:Vt->Vs):Prop:=∀(M:IQ)(U:VS.Env)(h H:Hp)(l:Vt)(g:List V)(i:Wv)(m:Md)(t:T)(Q:VK),Args G M U h H l g i->f l=Z (m,t) →
 (∀v d F,aI H d->Rp G d v t F->Fp M U h m F->Q v d)->r g H Q
def Dk(h:eU G r f)(s:SR G M U J H)(i:cs U=Z l)(e:f l=Z (m,t))(k:∀v d F,aI H d->Rp G d v t F->Fp M U H m F->Q v d):SE G cs J H λg n=>r g n Q :=
 ⟨M,U,l,s,i,λg d o e1 r1 f1=>h M U H d l g o m t Q ⟨e1,r1,f1⟩ e λv j F e2 r2 f2=>k v j F (e1.trans e2) r2 f2⟩
def iq(q:dj X (.builtin d) r)(g:eU G r f)(o:Gl X x)(n:X.mg x=L)(h:bootBuiltins x=Z (.builtin d))(u:JF G X (e :: es) cs)(j:{`q1,x ≠ "__name__"})(w:{`q1,K3 x})(he:{`q2,K1 e es X})(hpl:{`q2,K2 pos es X}):PV G X (.Call (.Name x p) (e :: es) [] pos) (eN f cs) :=
 PE.weak (oV q o n h u j w he hpl) λJ H Q i=>by
  obtain⟨M,U,m,t,s,e,k⟩:=i;obtain⟨l,v,e⟩:=Zz.mp e;exact Dk g s v e k
def jO{G:Gx}{X:Cx}{es:List Expr}{cs:Jj}{pos p:Pos}{r:List V->Hp->VK->Prop}{f:Vt->Vs}{Ty:String}{x:Str}(q:dj X (.type Ty) r)(g:eU G r f)(o:Gl X x)(n:X.mg x=L)(h:bootBuiltins x=Z (.type Ty))(u:JF G X (e :: es) cs)(j:{`q1,x ≠ "__name__"})(w:{`q1,K3 x})(he:{`q2,K1 e es X})(d:{`q2,K2 pos es X}):PV G X (.Call (.Name x p) (e :: es) [] pos) (eN f cs) :=
 PE.weak (qm q o n h u j w he d) λJ H Q i=>by
  obtain⟨M,U,m,t,s,e,k⟩:=i;obtain⟨l,v,e⟩:=Zz.mp e;exact Dk g s v e k
def cE(h:JF G X es cs):PV G X (.List es pos) (dX cs):=PE.weak (Ef h) λJ H Q f=>by
 obtain⟨M,U,m,t,s,e,k⟩:=f;obtain⟨l,g,e⟩:=Zz.mp e;refine⟨M,U,l,s,g,λd j n e1 r1 f1=>?_⟩;have A:Args G M U H j l d n:=⟨e1,r1,f1⟩
 obtain⟨_,hl,_⟩:=rg e;refine⟨by rw[r1.len.1,← g6];exact hl,jI e1 e r1 (f1.join A.len) λv i F e2 r2 f2=>k v i F (e1.trans e2) r2 f2⟩
def l5{x1}(h:JF G X es cs):PV G X (.Tuple es x1 pos) (nA cs):=PE.weak (AA h) λJ H Q d=>by
 obtain⟨M,U,m,t,s,e,k⟩:=d;obtain⟨l,j,e⟩:=Zz.mp e;refine⟨M,U,l,s,j,λf g i e1 r1 f1=>?_⟩;have A:Args G M U H g l f i:=⟨e1,r1,f1⟩
 unfold wH at e;split at e
 ·rename_i hl;cases e;refine⟨by rw[r1.len.1,← g6,trees,Zy];exact hl,λq d=>?_⟩;have r2:Rp G (upd g q (.tup f)) (.ref q) (.tup (trees l)) i.flatten:=.tup ay (r1.same (cX d));exact k _ _ _ (e1.trans (cX d)) r2 (Fp.up (f1.join A.len) r2)
 ·cases e
def BZ(r:Rp G H v t F)(h:Nj t=Z k):DL G.K v H k:=by
 cases r with
 |non=>cases h;rfl
 |bl b=>cases h;rfl
 |int i=>cases h;rfl
 |str s hl =>
  cases h;refine⟨by rw[dB,← g6];exact hl.1,?_⟩;rw[dB];cases s with
  |nil=>rfl
  |cons a r =>
   grind
 |scr d=>cases h
 |tup d q =>
  cases h;refine .inr (.inl ⟨_,JT.of d,?_⟩);have:=q.len.1;rename_i f g _;cases f<;>cases g<;>simp_all
 |lst d q =>
  cases h;refine .inl ⟨_,IT.of d,?_⟩;have:=q.len.1;rename_i f g _;cases f<;>cases g<;>simp_all
 |dct d hl q =>
  cases h;refine .inr (.inr ⟨_,d,?_⟩);have:=q.len.1;rename_i j f g _;cases j<;>cases f<;>cases g<;>simp_all
 |dctT d hl q=>cases h
 |dctN d hl n q=>cases h
 |dctZ _ _ _=>cases h
 |exc _ _=>cases h
 |ins _ _ _ _=>cases h
 |mk _ _=>cases h
def qH(h:PV G X a ca)(d:{`q2,X.K=G.K})(he:{`q3,∀whole,isTrue a X.env whole=(do let v ← whole;standAt a.pos;holding [v] (truthy v))}):KU G X a ca :=
 PT.weak (zf h he) λJ H Q ⟨M,U,m,r,b,s,e,f,k⟩=>⟨M,U,m,r,s,e,λv g F e1 r1 f1=>⟨b,by rw[d];exact BZ r1 f,k g e1⟩⟩
def LL(G:Gx)(X:Cx)(e:Expr)(c:Ex):Prop:=PW X e (tT G c)
def PW.weak{X:Cx}{e:Expr}{f:TT}(h:PW X e t)(w:∀J H Q,f J H Q->t J H Q):PW X e f:=λg d s J H Q I q=>h g d s J H Q I (w J H Q q)
def LL.Nl(h:LL G X e ca):KU G X e ca:=PW.pt h
def uk(e:i4 ca cb U=Z (m,r)):(∃n,ca U=Z (n,.bl O)/\cb U=Z (m,r))\/(∃n,ca U=Z (n,.bl R)/\m=.fr/\r=.bl R):=by
 obtain⟨⟨n,x⟩,d,e⟩:=Zz.mp e;grind
def BP(e:NA ca cb U=Z (m,r)):(∃n,ca U=Z (n,.bl R)/\cb U=Z (m,r))\/(∃n,ca U=Z (n,.bl O)/\m=.fr/\r=.bl O):=by
 obtain⟨⟨n,x⟩,d,e⟩:=Zz.mp e;grind
def kZ{G:Gx}{X:Cx}{a:Expr}{ca cb:Ex}{pos:Pos}{rest:List Expr}(j:KU G X a ca)(i:LL G X (.BoolOp .And (b :: rest) pos) cb):LL G X (.BoolOp .And (a :: b :: rest) pos) (i4 ca cb) :=
 PW.weak (FI j i) λJ H Q h=>by
  obtain⟨M,U,m,r,k,s,e,f,q⟩:=h;rcases uk e with⟨n,d,e2⟩ | ⟨n,d,rfl,rfl⟩
  ·refine⟨M,U,n,_,O,s,d,rfl,λg e1=>?_⟩;refine zr ?_;exact⟨M,U,m,r,k,s.same e1,e2,f,λl e2=>q l (e1.trans e2)⟩
  ·refine⟨M,U,n,_,R,s,d,rfl,λg e1=>?_⟩;refine zP ?_;cases f;exact q g e1
def oA{G:Gx}{X:Cx}{a:Expr}{ca cb:Ex}{pos:Pos}{rest:List Expr}(j:KU G X a ca)(i:LL G X (.BoolOp .Or (b :: rest) pos) cb):LL G X (.BoolOp .Or (a :: b :: rest) pos) (NA ca cb) :=
 PW.weak (Gp j i) λJ H Q h=>by
  obtain⟨M,U,m,r,k,s,e,f,q⟩:=h;rcases BP e with⟨n,d,e2⟩ | ⟨n,d,rfl,rfl⟩
  ·refine⟨M,U,n,_,R,s,d,rfl,λg e1=>?_⟩;refine zP ?_;exact⟨M,U,m,r,k,s.same e1,e2,f,λl e2=>q l (e1.trans e2)⟩
  ·refine⟨M,U,n,_,O,s,d,rfl,λg e1=>?_⟩;refine zr ?_;cases f;exact q g e1
def tF(e:qF ca U=Z (m,r)):∃n b,ca U=Z (n,.bl b)/\m=.fr/\r=.bl (!b):=by
 obtain⟨⟨n,x⟩,d,e⟩:=Zz.mp e;grind
def nI(f:KU G X a ca):KU G X (.UnaryOp .Not a pos) (qF ca):=PT.weak (DS f) λJ H Q d=>by
 obtain⟨M,U,m,r,k,s,e,g,q⟩:=d;obtain⟨n,b,h,rfl,rfl⟩:=tF e;cases g;exact⟨M,U,n,_,b,s,h,rfl,λi e1=>q i e1⟩
def DC(f:PV G X a ca):PV G X (.UnaryOp .Not a pos) (qF ca):=PE.weak (EY f) λJ H Q d=>by
 obtain⟨M,U,m,r,s,e,q⟩:=d;obtain⟨n,b,g,rfl,rfl⟩:=tF e;exact⟨M,U,n,_,s,g,λv h F e1 r1 f1=>⟨b,r1.JR,q _ h _ e1 (.bl _) Fp.nil⟩⟩
def FB{op}(h:PV G X a ca):PV G X (.BoolOp op [a] pos) ca:=ES h
def Ez{G:Gx}{X:Cx}{a:Expr}{ca cb:Ex}{pos:Pos}{rest:List Expr}(i:PV G X a ca)(h:PV G X (.BoolOp .And (b :: rest) pos) cb):PV G X (.BoolOp .And (a :: b :: rest) pos) (i4 ca cb) :=
 PE.weak (EC i h) λJ H Q g=>by
  obtain⟨M,U,m,r,s,e,q⟩:=g;rcases uk e with⟨n,d,e2⟩ | ⟨n,d,rfl,rfl⟩
  ·refine⟨M,U,n,_,s,d,λv f F e1 r1 f1=>⟨O,r1.JR,?_⟩⟩;refine zr ?_;exact⟨M,U,m,r,s.same e1,e2,λv j F e2 r2 f2=>q v j F (e1.trans e2) r2 (f2.back e1)⟩
  ·refine⟨M,U,n,_,s,d,λv f F e1 r1 f1=>⟨R,r1.JR,?_⟩⟩;refine zP ?_;exact q _ f _ e1 (.bl _) Fp.nil
def GG(h:KU G X c cc)(j:PV G X a ca)(i:PV G X b cb):PV G X (.IfExp c a b pos) (Si cc ca cb) :=
 PE.weak (AB h j i) λJ H Q g=>by
  refine L2.ak λt f=>?_;obtain⟨M,U,m,r,s,e,q⟩:=g;obtain⟨⟨n,x⟩,o,e⟩:=Zz.mp e;obtain⟨k,l,e⟩:=Zz.mp e;refine f ?_;refine⟨M,U,n,x,k,s,o,l,λu e1=>?_⟩;cases k with
  |true =>
   rw[Zn Y]at e;refine zr ?_;exact⟨M,U,m,r,s.same e1,e,λv d F e2 r2 f2=>q v d F (e1.trans e2) r2 (f2.back e1)⟩
  |false =>
   rw[Zl Zc]at e;refine zP ?_;exact⟨M,U,m,r,s.same e1,e,λv d F e2 r2 f2=>q v d F (e1.trans e2) r2 (f2.back e1)⟩
def qG(r:Rp G H v t F):decide (v=.non)=Oo t:=by
 cases r<;>simp[Oo]
def A0{j pos'}(g:PV G X a ca):PV G X (.Compare a [.Is] [.Constant .none j pos'] pos) (uF ca):=PE.weak (DU (A3 g)) λJ H Q f=>by
 obtain⟨M,U,m,r,s,e,q⟩:=f;obtain⟨⟨n,x⟩,h,e⟩:=Zz.mp e;cases e;refine⟨M,U,n,x,s,h,λv d F e1 r1 f1=>?_⟩;show Q (.bl (decide (v=.non))) d;rw[qG r1];exact q _ d _ e1 (.bl _) Fp.nil
def Dy{c:Ex}(h:tT G c J H Q)(f:∀U m r,c U=Z (m,r)->∃b,r=.bl b)(w:∀Q,tE G c J H Q->t J H Q):tB t J H Q:=by
 obtain⟨M,U,m,r,b,s,e,d,k⟩:=h;refine w _ ⟨M,U,m,r,s,e,λv i F e1 r1 f1=>?_⟩;obtain⟨j,g⟩:=f U m r e;rw[g]at d r1;cases (d);exact⟨_,r1.JR,k i e1⟩
end
section
def RpL.one(r:RpL G H d [t] f):∃v F,d=[v]/\f=[F]/\Rp G H v t F:=by
 cases r with
 |cons r q=>cases q;exact⟨_,_,rfl,rfl,r⟩
def RpL.two(r:RpL G H g [t,h] i):∃v d F f,g=[v,d]/\i=[F,f]/\Rp G H v t F/\Rp G H d h f:=by
 cases r with
 |cons r q =>
  obtain⟨d,f,rfl,rfl,j⟩:=q.one;exact⟨_,_,_,_,rfl,rfl,r,j⟩
def GZ(K:Wu):List V->Hp->VK->Prop:=λd H Q=>(∃x n,d=[x]/\Gv K x H n/\Q (.int n) H)\/(∃a f,d=[V.ref a]/\H a=Z (.dK f)/\Q (.int f.length) H)
def uG:dj X (.builtin "len") (λf H Q=>∃a d,f=[V.ref a]/\H a=Z (.dK d)/\Q (.int d.length) H):=by
 intro g s J H f m Q I r h;obtain⟨a,d,rfl,j,q⟩:=h;obtain⟨u,rfl,i⟩:=vals1 r;cases i;exact GJ I (.inl j) λt n l=>⟨.int d.length,H,l,⟨t,rfl⟩,q⟩
def xR:dj X (.builtin "len") (GZ X.K):=yh.or uG
def DX:eU G (GZ G.K) bE:=by
 intro M U y H l g z m t Q A e k;refine L2.ak λw f=>?_;unfold bE at e;split at e
 ·rename_i x;obtain⟨o,x⟩:=x;obtain⟨n,d,e⟩:=Zt.mp e;cases e;obtain⟨v,F,rfl,rfl,r⟩:=(A.rp).one;have fin:=bA k (.int _);cases r with
  |non=>cases d
  |bl b=>cases d
  |int i=>cases d
  |str s hl =>
   cases d;refine f ?_;exact .inl ⟨_,_,rfl,⟨by rw[dB,← g6];exact hl.1,rfl⟩,by rw[dB];exact fin⟩
  |scr h =>
   cases d;refine f ?_;refine .inl ⟨_,_,rfl,.inl ⟨_,h.seq,rfl⟩,?_⟩
   simp_all
  |tup h q =>
   cases d;refine f ?_;refine .inl ⟨_,_,rfl,.inr ⟨_,JT.of h,rfl⟩,?_⟩;rw[q.len.1];exact fin
  |lst h q =>
   cases d;refine f ?_;refine .inl ⟨_,_,rfl,.inl ⟨_,IT.of h,rfl⟩,?_⟩;rw[q.len.1];exact fin
  |dct h hl q =>
   cases d;refine f ?_;refine .inr ⟨_,_,rfl,h,?_⟩;rename_i u ws j _;rw[YL,Zy]at fin;rw[YL,q.len.1];exact fin
  |dctT h hl q=>cases d
  |dctN h hl n q=>cases d
  |dctZ _ _ _=>cases d
  |exc _ _=>cases d
  |ins _ _ _ _=>cases d
  |mk _ _=>cases d
 ·cases e
def BG:eU G (λd H Q=>∃i j,d=[.int i,.int j]/\Q (.int (if j > i then j else i)) H) so:=by
 intro M U n H l g o m t Q A e k;unfold so at e;split at e
 ·rename_i _ i _ j;cases e;obtain⟨v,h,F,q,rfl,rfl,r,f⟩:=(A.rp).two;exact⟨i,j,by rw[r.int_inv,f.int_inv],bA k (.int _)⟩
 ·cases e
def BU:eU G (λd H Q=>∃i j,d=[.int i,.int j]/\Q (.int (if j<i then j else i)) H) tH:=by
 intro M U n H l g o m t Q A e k;unfold tH at e;split at e
 ·rename_i _ i _ j;cases e;obtain⟨v,h,F,q,rfl,rfl,r,f⟩:=(A.rp).two;exact⟨i,j,by rw[r.int_inv,f.int_inv],bA k (.int _)⟩
 ·cases e
def Dx(K:Wu):List V->Hp->VK->Prop:=λf H Q=>∃p d,f=[.ref p]/\(IT K H p d\/JT K H p d)/\∀l,H l=L->Q (.ref l) (upd H l (.lst d))
def vQ:eU G (Dx G.K) Dn:=by
 intro M U n H l j o m t Q A e k;unfold Dn at e;split at e
 ·rename_i i x;obtain⟨v,F,rfl,rfl,f⟩:=(A.rp).one;obtain⟨a,d,Gs,rfl,rfl,h,g⟩:=f.lst_inv;exact⟨a,d,rfl,.inl (IT.of h),jI A.same e g ((A.fp.each 0 _ _ Y Y).sub (Yh _ _)) k⟩
 ·rename_i i x;obtain⟨v,F,rfl,rfl,f⟩:=(A.rp).one;obtain⟨a,d,Gs,rfl,rfl,h,g⟩:=f.JW;exact⟨a,d,rfl,.inr (JT.of h),jI A.same e g (A.fp.each 0 _ _ Y Y) k⟩
 ·cases e
def tO(G:Gx)(c:Option Ex):TO:=λJ H Q=>∃M U o,SR G M U J H/\o6 c U=Z o/\∀d,aI H d->Q o d
def PM(G:Gx)(X:Cx)(e:Option Expr)(c:Option Ex):Prop:=PO X e (tO G c)
def PO.weak{X:Cx}{e:Option Expr}{f:TO}(h:PO X e t)(w:∀J H Q,f J H Q->t J H Q):PO X e f:=λd s J H Q I q=>h d s J H Q I (w J H Q q)
def kX:PM G X L L:=PO.weak Bb λJ H Q d=>by
 obtain⟨M,U,o,s,e,k⟩:=d;cases (e);exact k H (aI.refl _)
def fG(h:PV G X a ca):PM G X (Z a) (Z ca):=PO.weak (Cj h) λJ H Q f=>by
 obtain⟨M,U,o,s,e,k⟩:=f;obtain⟨⟨m,y⟩,g,e⟩:=Zz.mp (e);obtain⟨i,d,e⟩:=Zt.mp e;cases e;refine⟨M,U,m,y,s,g,λv l F e1 r1 f1=>?_⟩;cases y with
 |int j =>
  cases d;exact⟨_,r1.int_inv,k l e1⟩
 |_=>cases d
def mf{α:Type}(l:List α)(d f:Option Int):cut l d f=(l.drop (HT.JG l.length 0 d)).take (HT.JG l.length l.length f-HT.JG l.length 0 d):=by
 cases d<;>cases f<;>rfl
theorem Np(a:Int)(n:Nat):max 0 (min a (n:Int))=((min a.toNat n:Nat):Int):=L2.Np a n
def R0{k:Nat}(h:(k:Nat)<=n):max 0 (min (k:Int) (n:Int))=(k:Int):=by rw[Np,Yr,YW h]
def Bx(a:Int)(n:Nat):max 0 (min a (n:Int))=max 0 (min ((min a.toNat n:Nat):Int) (n:Int)):=by
 rw[Np,Np,Yr,Nat.min_assoc,Nat.min_self]
def yW(d f:Option Int)(n:Nat):Builtin.Str.strSliceIndices d f 1 n=Builtin.Str.strSliceIndices (Z ((min (HT.JG n 0 d) n:Nat):Int)) (Z ((min (HT.JG n n f) n:Nat):Int)) 1 n:=by
 have nn:∀k:Nat,¬((k:Int)<0):=λk=>by lia
 unfold Builtin.Str.strSliceIndices;simp only[show (1:Int) > 0 by decide,if_true,nn,if_false];congr 1
 ·cases d with
  |none=>simp only[HT.JG];rw[Np,Yr,Nat.zero_min,Nat.zero_min];rfl
  |some i =>
   simp only[HT.JG];by_cases h:i<0
   ·simp only[h,if_true];exact Bx _ _
   ·simp only[h,if_false];rw[Nat.min_assoc,Nat.min_self];exact Bx _ _
 ·cases f with
  |none=>simp only[HT.JG];simp_all
  |some i =>
   simp only[HT.JG];by_cases h:i<0
   ·simp only[h,if_true];exact Bx _ _
   ·simp only[h,if_false];rw[Nat.min_assoc,Nat.min_self];exact Bx _ _
def pH(s:Tx)(d f:Option Int):PySem.StrLaws.sliceText (sx s) d f=sx (cut s d f):=by
 have key:PySem.StrLaws.sliceText (sx s) d f=PySem.StrLaws.sliceText (sx s) (Z ((min (HT.JG s.length 0 d) s.length:Nat):Int)) (Z ((min (HT.JG s.length s.length f) s.length:Nat):Int)):=by
  unfold PySem.StrLaws.sliceText;rw[dB,yW]
 rw[key];have hd:∀a:Nat,s.drop (min a s.length)=s.drop a:=λa=>by
  simp_all
 by_cases h:min (HT.JG s.length 0 d) s.length<=min (HT.JG s.length s.length f) s.length
 ·rw[PySem.StrLaws.sliceText_nat (sx s) h (by rw[dB];exact Xe _ _),mf];show (⟨_⟩:Str)=⟨_⟩;congr 2;have:(sx s).cps.toList=s:=rfl;rw[this,hd];by_cases i:HT.JG s.length 0 d<=s.length
  ·rw[YW i];by_cases g:HT.JG s.length s.length f<=s.length
   ·rw[YW g]
   ·rw[Wp (by exact Wm g),Yi (by simp_all),Yi (by rw[Z4];lia)]
  ·rw[Wc (by exact Wm i)];simp
 ·have j:cut s d f=[]:=by
   rw[mf];have:HT.JG s.length s.length f-HT.JG s.length 0 d=0:=by omega
   rw[this,List.take_zero]
  rw[j];unfold PySem.StrLaws.sliceText;have e2:Builtin.Str.strSliceIndices (Z ((min (HT.JG s.length 0 d) s.length:Nat):Int)) (Z ((min (HT.JG s.length s.length f) s.length:Nat):Int)) 1 (sx s).length=[]:=by
   have e1:∀k:Nat,¬((k:Int)<0):=λk=>by lia
   unfold Builtin.Str.strSliceIndices sliceRange;simp only[show (1:Int) > 0 by decide,if_true,e1,if_false,dB];rw[R0 (Xe _ _),R0 (Xe _ _),Zl λz=>h (Xd (Int.ofNat_lt.mp z))];rfl
  rw[e2];have:¬((1:Int)==1&&([]:Vx).length==(sx s).length)=O:=by
   rw[dB];simp;lia
  rw[Zl this];rfl
noncomputable def Gh:V->Option Int->Option Int->Hp->VK->Prop:=λx lo d H Q=>∃z,x=.str z/\z.length<=KF/\Q (.str (PySem.StrLaws.sliceText z lo d)) H
def part_of(h:IsPart v o):∃q:Option (Int×Tok),v=partValue q/\o=q.map (·.1):=by
 cases h with
 |none=>exact⟨L,rfl,rfl⟩
 |int i t=>exact⟨Z (i,t),rfl,rfl⟩
def qU{α β:Type}(f:α->Option β)(l:List α):(l.filterMap f).length<=l.length:=List.length_filterMap_le f l
def Cz(d f:Option Int)(n:Nat):(Builtin.Str.strSliceIndices d f 1 n).length<=n:=by
 rw[yW];by_cases h:min (HT.JG n 0 d) n<=min (HT.JG n n f) n
 ·rw[PySem.StrLaws.strSliceIndices_plain h (by exact Xe _ _),Zy,ZX];lia
 ·have e1:∀k:Nat,¬((k:Int)<0):=λk=>by lia
  unfold Builtin.Str.strSliceIndices sliceRange;simp only[show (1:Int) > 0 by decide,if_true,e1,if_false];rw[R0 (Xe _ _),R0 (Xe _ _),Zl λz=>h (Xd (Int.ofNat_lt.mp z))];simp
def Ga:Oy X Gh:=by
 intro f s J H x v o n lo w r Q I g m pl pu h;refine L2.ak λy i=>?_;obtain⟨z,rfl,j,q⟩:=h;obtain⟨t,rfl⟩:=g;obtain⟨l,rfl,rfl⟩:=part_of pl;obtain⟨u,rfl,rfl⟩:=part_of pu;refine i ?_;refine⟨"str",_,F.slot_str_getitem.lookup,Wr s z t,wpAny_getItem_str_slice (l:=l) (u:=u) (st:=L) m Y ?_⟩;unfold sliceMade;split
 ·rename_i d;refine⟨.str z,H,I,⟨t,rfl⟩,?_⟩;have e:PySem.StrLaws.sliceText z (l.map (·.1)) (u.map (·.1))=z:=by
   exact Zn d
  rw[e]at q;exact q
 ·rename_i d;refine⟨ZP ?_ j,.str _,H,I.tok _,⟨_,rfl⟩,?_⟩
  ·show (List.filterMap _ _).toArray.size<=_;rw[Zb];exact ZP (qU _ _) (Cz _ _ _)
  ·have e:PySem.StrLaws.sliceText z (l.map (·.1)) (u.map (·.1))=⟨((slicePicked z l u L).filterMap (z.cps[·]?)).toArray⟩:=by
    exact Zl d
   rw[e]at q;exact q
def rSl(K:Wu):V->Option Int->Option Int->Hp->VK->Prop:=λx lo d H Q=>Gh x lo d H Q\/Hs K x lo d H Q
def HN:Oy X (rSl X.K):=Ga.or Cm
def Bn{α:Type}(l:List α)(d f:Option Int):(cut l d f).length<=l.length:=by
 rw[mf,Xc,Z4];lia
theorem RpL.cut(r:RpL G H g i j)(d f:Option Int):RpL G H (yj g d f) (VS.cut i d f) (VS.cut j d f):=by
 have h:=r.len;rw[mf,mf,h.2];unfold yj;rw[h.1];exact(r.drop _).take _
def wD{α:Type}(l:List α)(d f:Option Int):(VS.cut l d f).Sublist l:=by
 rw[mf];exact(List.take_sublist _ _).trans (List.drop_sublist _ _)
def yX{F G:Wv}(h:F.Sublist G):F.flatten.Sublist G.flatten:=by
 induction h with
 |slnil=>exact W3 _
 |cons a _ d=>grind
 |cons_cons a _ d=>grind
def kG(ha:PV G X a ca)(d:PM G X j r)(S:PM G X n u)(hK:{`q2,X.K=G.K}):PV G X (.Subscript a (.Slice j n L C) pos) (MC ca r u) :=
 PE.weak (yr HN ha d S) λJ H Q P=>by
  refine L2.ak λP_ N=>?_;obtain⟨M,U,m,t,s,e,k⟩:=P;obtain⟨⟨D,x⟩,ea,o⟩:=Zz.mp e;obtain⟨l,el,w⟩:=Zz.mp o;obtain⟨h,eh,f⟩:=Zz.mp w;refine N ?_;clear e o w;refine⟨M,U,D,x,s,ea,λv H1 F e1 r1 f1=>⟨M,U,l,s.same e1,el,λH2 e2=>⟨M,U,h,(s.same e1).same e2,eh,λH3 e3=>?_⟩⟩⟩;have g:=(e1.trans e2).trans e3;have i:=(r1.same e2).same e3;unfold S5 at f;split at f
  ·rename_i E z q;cases q;cases f;obtain⟨rfl,d⟩:=i.str_inv;refine .inl ⟨_,rfl,by rw[dB,← g6];exact d.1,?_⟩;rw[pH];exact k _ H3 _ g (.str _ ⟨ZP (Bn _ _ _) d.1,λc Y=>d.2 c ((wD _ _ _).subset Y)⟩) Fp.nil
  ·rename_i E z q;cases q;obtain⟨a',y,Fs,rfl,rfl,Jn,A⟩:=i.lst_inv;refine .inr ⟨a',y,rfl,by rw[hK];exact IT.of Jn,jI g f (A.cut l h) ((f1.sub (Yh _ _)).sub (yX (wD _ _ _))) λv H4 F e5 B f4=>k v H4 F (g.trans e5) B f4⟩
  ·cases f
noncomputable def Mu:Ty->String
 |.int => "int"
 |.str => "str"
 |.bool => "bool"
 |.list => "list"
 |.tuple => "tuple"
 |.dict => "dict"
def rIs(K:Wu):List V->Hp->VK->Prop:=λd H Q=>∃x c t b,d=[x,.ty c]/\J5 K H x t/\PySem.W.kitOne K t (.type c)=Z b/\Q (.bl b) H
def Br:dj X (.builtin "isinstance") (rIs X.K):=by
 intro d s J H f i Q I r h;obtain⟨x,c,t,b,rfl,ty,e,q⟩:=h;obtain⟨u,g,rfl,r1,r2⟩:=vals2 r;cases r2;exact xf I r1 ty e λj=>⟨.bl b,H,I.tok _,rfl,q⟩
def Cn(K:Wu)(d:Ty):(PySem.W.kitOne K (.type "NoneType") (.type (Mu d))=Z R)/\(PySem.W.kitOne K (.type "bool") (.type (Mu d))=Z (se d (.bl O)))/\(PySem.W.kitOne K (.type "int") (.type (Mu d))=Z (se d (.int 0))) ∧
  (PySem.W.kitOne K (.type "str") (.type (Mu d))=Z (se d (.str [])))/\(PySem.W.kitOne K (.type "list") (.type (Mu d))=Z (se d (.lst [])))/\(PySem.W.kitOne K (.type "tuple") (.type (Mu d))=Z (se d (.tup [])))/\(PySem.W.kitOne K (.type "dict") (.type (Mu d))=Z (se d (.dct 0 []))):=by
 cases d<;>refine⟨?_,?_,?_,?_,?_,?_,?_⟩<;>kernel_rfl
def GC(d:Ty)(r:Rp G H v t F)(h:vF t=O):∃g,J5 G.K H v g/\PySem.W.kitOne G.K g (.type (Mu d))=Z (se d t):=by
 obtain⟨y,x,w,u,o,m,j⟩:=Cn G.K d;cases r with
 |non=>exact⟨_,.non,by rw[y];cases d<;>rfl⟩
 |bl b=>exact⟨_,.bl b,by rw[x];cases d<;>rfl⟩
 |int i=>exact⟨_,.int i,by rw[w];cases d<;>rfl⟩
 |str s _=>exact⟨_,.str _,by rw[u];cases d<;>rfl⟩
 |scr _=>cases h
 |tup f q=>exact⟨_,.tup f,by rw[m];cases d<;>rfl⟩
 |lst f q=>exact⟨_,.lst f,by rw[o];cases d<;>rfl⟩
 |dct f l q=>exact⟨_,.dK f,by rw[j];cases d<;>rfl⟩
 |dctT f l q=>exact⟨_,.dT f,by rw[j];cases d<;>rfl⟩
 |dctN f l n q=>simp at h
 |dctZ _ _ _=>cases h
 |exc _ _=>cases h
 |ins _ _ _ _=>cases h
 |mk _ _=>cases h
def Ho(f:Ty)(C:PV G X a ca)(B:Gl X "isinstance")(z:X.mg "isinstance" = L)(P:Gl X x)(S:X.mg x=L)(r:bootBuiltins x=Z (.type (Mu f)))(j:{`q2,X.K=G.K})(w:{`q1,x ≠ "__name__"})(Kb:{`q1,K3 x})(i:{`q2,Pv [a,.Name x d] X.env=(R,eval a X.env) :: Pv [.Name x d] X.env})(LS:{`q2,Pv [.Name x d] X.env=(R,eval (.Name x d) X.env) :: Pv [] X.env})(g:{`q2,(backTo pos (Pv [Expr.Name x d] X.env)).any (·.1)=R}) :
  PV G X (.Call (.Name "isinstance" n) [a,.Name x d] [] pos) (Sh f ca) :=
 PE.weak (oV Br B z boot_isinstance (dJ C (dJ (CU (v:=.ty (Mu f)) P S r Y w Kb) iJ LS) i) (by decide) Y i g) λJ H Q u=>by
  refine L2.ak λP_ q=>?_;obtain⟨M,U,m,t,s,e,k⟩:=u;obtain⟨⟨o,y⟩,N,h⟩:=Zz.mp e;refine q ?_;split at h
  ·rename_i A;cases h;refine⟨M,U,o,y,s,N,λv H' F e1 r1 f1=>?_⟩;obtain⟨l,E,D⟩:=GC f r1 A;exact⟨v,Mu f,l,_,rfl,by rw[j];exact E,by rw[j];exact D,k _ H' _ e1 (.bl _) Fp.nil⟩
  ·cases h
end
section
def DG(G:Gx)(r:V->List V->Hp->VK->Prop)(f:Val->Vt->Vs):Prop:=∀(M:IQ)(U:VS.Env)(d i H:Hp)(x:Val)(v:V)(F:Wg)(l:Vt)(h:List V)(j:Wv)(m:Md)(t:T)(Q:VK),
 aI d i->Rp G H v x.2 F->Fp M U d x.1 F->Args G M U i H l h j->f x l=Z (m,t)->(∀v g F,aI H g->Rp G g v t F->Fp M U d m F->Q v g)->r v h H Q
def Di{g:Pos}(A:PlainAttrs n)(h:Slot n d j)(OT:typeOf (.builtin j)=pure (.type "method_descriptor"))(P:PN X j r)(B:DG G r f)(Y:∀H v (x:Val) F l z,Rp G H v x.2 F->f x l=Z z->NI G.K n v H)(N:PV G X a ca)(S:JF G X (e :: es) cs)(hK:{`q2,X.K=G.K})(IV:{`q2,UV a d X.env (eval a X.env)=eval a X.env})(Jm:{`q2,((backTo i (Pv (e :: es) X.env)).all (λx=>!x.1)&&(backToKw i (SC [] X.env)).all (λx=>x.1.isSome)
   && decide ((e :: es).length+([]:List Keyword).length+(if ([]:List Keyword).isEmpty then 0 else 1)<30))=O})(IK:{`q2,(g.endLine==i.line)=O})(D:{`q2,K1 e es X})(IJ:{`q2,K2 i es X}) :
  PV G X (.Call (.Attribute a d g) (e :: es) [] i) (eM f ca cs) :=
 PE.weak (sy A h OT P N S IV Jm IK D IJ) λJ H Q E=>by
  refine L2.ak λP_ C=>?_;obtain⟨M,U,m,t,s,e,k⟩:=E;obtain⟨x,ea,e'⟩:=Zz.mp e;obtain⟨l,el,o⟩:=Zz.mp e';refine C ?_;refine⟨M,U,x.1,x.2,s,ea,λv q F e1 r1 f1=>⟨by rw[hK];exact Y q v x F l _ r1 o,M,U,l,s.same e1,el,λu H2 Fs e2 r2 f2=>?_⟩⟩;exact B M U H q H2 x v F l u Fs m t Q e1 (r1.same e2) f1 ⟨e2,r2,f2⟩ o λw H3 F' e3 y f3=>k w H3 F' ((e1.trans e2).trans e3) y f3
def Cc:∀(sep:Tx)(d:List Tx),Txt.join (sx sep) (d.map sx)=sx (dQ sep d):=by
 intro sep d;have fold:∀(l:List Tx)(acc:Tx),(l.map sx).foldl (λacc p=>acc++(sx sep).cps++p.cps) acc.toArray=(l.foldl (λacc p=>acc++sep++p) acc).toArray:=by
  intro l
  induction l with
  |nil=>intro acc;rfl
  |cons x r f =>
   intro acc;rw[Zj,Xq,Xq,← f];congr 1;simp[sx]
 have g:∀(r:List Tx)(acc:Tx),r.foldl (λacc p=>acc++sep++p) acc=dQ sep (acc :: r):=by
  intro r
  induction r with
  |nil=>intro acc;rfl
  |cons x r f =>
   intro acc;rw[Xq,f];cases r with
   |nil=>rfl
   |cons y r=>simp[dQ]
 cases d with
 |nil=>rfl
 |cons x r =>
  show (⟨_⟩:Str)=⟨_⟩;congr 1;show ((r.map sx).foldl _ x.toArray)=_;rw[fold,g]
theorem qP:∀{d:List V}{l:Vr}{g:Wv}{f:List Tx},RpL G H d l g->strs? l=Z f->d=f.map λs=>V.str (sx s)
 |_,_,_,_,.nil,e=>by cases e;rfl
 |_,_,_,_,.cons (t:=t) r q,e=>by
  cases t with
  |str s =>
   obtain⟨h,e1,e2⟩:=Zt.mp e;subst e2;rw[qP q e1,r.str_inv.1];rfl
  |_=>cases e
theorem pq:∀{d:List Tx}{f:Vz},aU (d.map λs=>V.str (sx s)) f->StrsAre f (d.map sx)
 |[],_,h=>by cases h;exact .nil
 |s :: d,_,h=>by
  cases h with
  |cons r q =>
   obtain⟨t,rfl⟩:=r;exact .cons _ _ (pq q)
def rJoin(K:Wu):V->List V->Hp->VK->Prop:=λx f H Q=>∃sep p d,x=.str (sx sep)/\f=[.ref p]/\IT K H p (d.map λs=>V.str (sx s))/\total d+d.length*sep.length<=16777216/\Q (.str (sx (dQ sep d))) H
theorem wj:∀d:List Tx,((d.map sx).map (·.length)).sum=total d
 |[]=>rfl
 |s :: r=>by
  rw[Zj,Zj,Y0,wj r,dB];rfl
def Bp:PN X "str.join" (rJoin X.K):=by
 intro d s J H x m v n Q I f l h;refine L2.ak λA i=>?_;obtain⟨sep,p,w,rfl,rfl,j,hl,q⟩:=h;obtain⟨t,rfl⟩:=f;obtain⟨u,rfl,g⟩:=vals1 l;cases g;obtain⟨y,r,pl,z⟩:=I.list j;refine i ?_;refine join_list pl.isList (by simpa using pq r) ?_ λo k=>⟨.str _,H,I.tok _,⟨_,by rw[Cc]⟩,q⟩
 rw[wj,Zy,dB];exact hl
theorem oK(d:Tx):∀f:List Tx,(dQ d f).length<=total f+f.length*d.length
 |[]=>by simp[dQ,total]
 |[x]=>by simp[dQ,total]
 |x :: y :: r=>by
  have:=oK d (y :: r);simp only[dQ,total,Zv,Ze]at this ⊢;lia
theorem pj(d:Tx):∀(f:List Tx)(c:Nat),c∈dQ d f->c∈d\/∃s∈f,c∈s
 |[],c,h=>by simp[dQ]at h
 |[x],c,h=>.inr ⟨x,Zu,h⟩
 |x :: y :: r,c,h=>by
  simp only[dQ,ZU]at h;rcases h with (h | h) | h
  ·exact .inr ⟨x,Zu,h⟩
  ·exact .inl h
  ·refine(pj d (y :: r) c h).imp id λg=>?_;grind
theorem oX:∀{g:List V}{l:Vr}{h:Wv}{f:List Tx},RpL G H g l h->strs? l=Z f->∀s∈f,∀c∈s,c<1114112
 |_,_,_,_,.nil,e,s,d=>by cases e;simp at d
 |_,_,_,_,.cons (t:=t) r q,e,s,d=>by
  cases t with
  |str x =>
   obtain⟨i,e1,e2⟩:=Zt.mp e;subst e2;rcases Zk.mp d with rfl | d
   ·exact r.str_inv.2.2
   ·exact oX q e1 s d
  |_=>cases e
def Dd:DG G (rJoin G.K) kL:=by
 intro M U N J H x v F l B P m t Q n r f A e k;unfold kL at e;split at e
 ·rename_i C sep D E;obtain⟨d,j,g⟩:=Zz.mp e;split at g
  ·rename_i hl;cases g;obtain⟨z,S,rfl,rfl,q⟩:=(A.rp).one;obtain⟨u,ws,Gs,rfl,rfl,i,h⟩:=q.lst_inv;rw[qP h j]at i;refine⟨sep,u,d,r.str_inv.1,rfl,IT.of i,hl,bA k (.str _ ⟨ZP (oK sep d) hl,λc s=>(pj sep d c s).elim (r.str_inv.2.2 c) λ⟨o,w,y⟩=>oX h j o w c y⟩)⟩
  ·cases g
 ·cases e
def rV(r:Rp G H v t F)(h:∃s,t=.str s):NI G.K "str" v H:=by
 obtain⟨s,rfl⟩:=h;rw[r.str_inv.1];rfl
def vO{d:Pos}(i:PV G X a ca)(j:JF G X [e] cs)(g:{`q2,X.K=G.K})(n:{`q2,UV a "join" X.env (eval a X.env)=eval a X.env})(m:{`q2,((backTo f (Pv [e] X.env)).all (λx=>!x.1)&&(backToKw f (SC [] X.env)).all (λx=>x.1.isSome)
   && decide ([e].length+([]:List Keyword).length+(if ([]:List Keyword).isEmpty then 0 else 1)<30))=O})(o:{`q2,(d.endLine==f.line)=O})(h:{`q2,K1 e [] X})(q:{`q2,(backTo f (Pv [] X.env)).any (·.1)=R}) :
  PV G X (.Call (.Attribute a "join" d) [e] [] f) (eM kL ca cs) :=
 Di PySem.F.plainAttrs_str PySem.F.slot_str_join PySem.F.type_str_join (g ▸ Bp) Dd (λH v x F l z r e=>rV r (by
  unfold kL at e;split at e
  ·exact⟨_,rfl⟩
  ·cases e)) i j g n m o h q
noncomputable def Dz:V->List V->Hp->VK->Prop:=λx d H Q=>∃z y,x=.str z/\d=[.str y]/\Q (.bl (Txt.endswith z y)) H
def Bi:PN X "str.endswith" Dz:=by
 intro d s J H x l v m Q I g j h;obtain⟨z,y,rfl,rfl,q⟩:=h;obtain⟨t,rfl⟩:=g;obtain⟨u,rfl,i⟩:=vals1 j;obtain⟨f,rfl⟩:=i;exact call_meets F.slot_str_endswith (Wr s z t) F.entry_str_endswith (F.args_str_endswith_2 _ _) (gives_str_endswith z y t f).meets (⟨.bl _,H,I,rfl,q⟩)
def C1(s t:Tx):Txt.endswith (sx s) (sx t)=t.isSuffixOf s:=by
 unfold Txt.endswith;rw[PySem.StrLaws.subAt_eq,dB,dB];have e1:(sx s).cps.toList=s:=rfl;have e2:(sx t).cps.toList=t:=rfl;rw[e1,e2];rw[Xo,Yu];simp only[XH,Yn,decide_eq_true_eq,beq_iff_eq];constructor
 ·rintro⟨g,f⟩;rw[Yi (by rw[Z4];omega)]at f;have d:=List.take_append_drop (s.length-t.length) s;rw[f]at d;exact⟨_,d⟩
 ·rintro⟨u,rfl⟩;simp
def Be:DG G Dz pP:=by
 intro M U q o H x v F l i s m t Q d r f A e k;unfold pP at e;split at e
 ·rename_i j z n y;cases e;obtain⟨h,u,rfl,rfl,g⟩:=(A.rp).one;refine⟨_,_,r.str_inv.1,by rw[g.str_inv.1],?_⟩;rw[C1];exact bA k (.bl _)
 ·cases e
end
end VS
end
section
namespace VS
@[simp] def Ks(x y:Val):Vs:=match x.2 with
 |.dct 0 l=>if iK y.2 then (eX l y.2).map (sub x.1) else L
 |_=>aA x y
noncomputable def flat:T->Bool
 |.non=>O
 |.bl _=>O
 |.int _=>O
 |.str _=>O
 |_=>R
@[simp] def oO(x y:Val):Vs:=match y.2 with
 |.dct 0 l=>if iK x.2 then Z (.fr,.bl (eX l x.2).isSome) else L
 |.lst l=>if flat x.2&&l.all flat then Z (.fr,.bl (l.any λy=>eqT y x.2)) else L
 |.tup l=>if flat x.2&&l.all flat then Z (.fr,.bl (l.any λy=>eqT y x.2)) else L
 |_=>L
@[simp] def dI(x y:Val):Vs:=match oO x y with
 |some (_,.bl b)=>Z (.fr,.bl (!b))
 |_=>L
def pm{α:Type}(f:T->Option (T×α)):List Ky->T->Option (T×α)
 |[],t=>f t
 |.fld k :: r,t=>match t with
  |.obj (c+1) (q :: fs)=>(fs.findIdx? λp=>p.1==k).bind λi=>(fs[i]?).bind λp=>(pm f r p.2).map λz=>(.obj (c+1) (q :: fs.set i (p.1,z.1)),z.2)
  |_=>L
 |.un :: r,t=>match t with
  |.obj 0 [(0,.bl true),(m,x)]=>(pm f r x).map λz=>(.obj 0 [(0,.bl O),(m,z.1)],z.2)
  |_=>L
 |.at k :: r,t=>match t with
  |.lst l=>match k with
   |.int i=>(JL l.length i).bind λj=>(l[j]?).bind λx=>(pm f r x).map λz=>(.lst (l.set j z.1),z.2)
   |_=>L
  |.dct 0 l=>if iK k then (l.findIdx? λp=>eqT p.1 k).bind λi=>(l[i]?).bind λp=>(pm f r p.2).map λz=>(.dct 0 (l.set i (p.1,z.1)),z.2) else L
  |_=>L
end VS
end
section
namespace VS
open PySem PySem.Spec PyProof.Rows L2
section
mutual
def L4:T->PyData
 |.non=>.none
 |.bl b=>.bool b
 |.int i=>.int i
 |.str s=>.str (sx s)
 |.tup l=>.tuple (pN l)
 |.lst l=>.list (pN l)
 |_=>.none
def pN:Vr->List PyData
 |[]=>[]
 |t :: r=>L4 t :: pN r
end
def Hk(h:pC s):PyData.strOk (sx s)=O:=by
 unfold PyData.strOk sx;simp only[Array.all_eq_true,decide_eq_true_eq];intro i a;have:s.toArray[i]∈s:=by simp
 have:=h.2 _ this;simpa using this
def Ap:(sx s==sx t)=(s==t):=by
 rw[Xo,beq_iff_eq,beq_iff_eq];constructor
 ·intro h;have:(sx s).cps=(sx t).cps:=by rw[h]
  simpa[sx] using this
 ·intro h;rw[h]
mutual
theorem qE:∀(n k:Nat)(t u:T),KL n t=O->KL k u=O->PyData.eqv (L4 t) (L4 u)=eqT t u
 |n,k,t,u,b,a=>by
  cases t with
  |scr _=>cases n<;>cases b
  |dct _ _=>cases n<;>cases b
  |obj _ _=>cases n<;>cases b
  |tup l =>
   cases n with
   |zero=>cases b
   |succ n =>
    cases u with
    |tup r =>
     cases k with
     |zero=>cases a
     |succ k =>
      exact n8 n k l r (ZF.mp b) (ZF.mp a)
    |scr _=>cases k<;>cases a
    |dct _ _=>cases k<;>cases a
    |obj _ _=>cases k<;>cases a
    |_=>rfl
  |lst l =>
   cases n with
   |zero=>cases b
   |succ n =>
    cases u with
    |lst r =>
     cases k with
     |zero=>cases a
     |succ k =>
      exact n8 n k l r (ZF.mp b) (ZF.mp a)
    |scr _=>cases k<;>cases a
    |dct _ _=>cases k<;>cases a
    |obj _ _=>cases k<;>cases a
    |_=>rfl
  |str s =>
   cases u with
   |str r=>exact Ap
   |scr _=>cases k<;>cases a
   |dct _ _=>cases k<;>cases a
   |obj _ _=>cases k<;>cases a
   |_=>rfl
  |_ =>
   cases u with
   |scr _=>cases k<;>cases a
   |dct _ _=>cases k<;>cases a
   |obj _ _=>cases k<;>cases a
   |_=>rfl
theorem n8:∀(n k:Nat)(l r:Vr),(∀t∈l,KL n t=O)->(∀t∈r,KL k t=O)->PyData.eqvAll (pN l) (pN r)=zt l r
 |_,_,[],[],_,_=>rfl
 |_,_,[],_ :: _,_,_=>rfl
 |_,_,_ :: _,[],_,_=>rfl
 |n,k,t :: l,u :: r,d,b=>by
  show (PyData.eqv (L4 t) (L4 u)&&PyData.eqvAll (pN l) (pN r))=(eqT t u&&zt l r);rw[qE n k t u (d t Zu) (b u Zu),n8 n k l r (λx a=>d x (Zw _ a)) λx a=>b x (Zw _ a)]
end
def Rp.MH(r:Rp G H v (.tup d) F):∃b a e,v=.ref b/\H b=Z (.tup a)/\RpL G H a d e:=by
 cases r with
 |tup h q=>exact⟨_,_,_,rfl,h,q⟩
def Rp.MQ(r:Rp G H v (.lst d) F):∃b a e,v=.ref b/\H b=Z (.lst a)/\RpL G H a d e:=by
 cases r with
 |lst h q=>exact⟨_,_,_,rfl,h,q⟩
theorem mL{s:IR}(f:∀{v:V}{t:T}{F:Wg}{u:On},Rp G H v t F->RelV v u->KL n t=O->∃b,Reads s.heap u (L4 t) b/\(L4 t).canLay0=O/\(L4 t).depth<=n):∀{d:List V}{a:Vr}{y:Wv}{e:Vz},RpL G H d a y->aU d e->(∀t∈a,KL n t=O) →
  ∃b,ReadsAll s.heap e (pN a) b/\PyData.canLayAll0 (pN a)=O/\PyData.depthAll (pN a)<=n
 |_,_,_,_,.nil,r,_=>by cases r;exact⟨_,.nil,rfl,Yw _⟩
 |_,_,_,_,.cons p q,r,h=>by
  cases r with
  |cons r1 r2 =>
   refine L2.ak λz g=>?_;obtain⟨b,m,l,j⟩:=f p r1 (h _ Zu);obtain⟨bs,x,w,o⟩:=mL f q r2 λt i=>h t (Zw _ i);refine g ?_;exact⟨_,.cons m x,ZW.mpr ⟨l,w⟩,Nat.max_le.mpr ⟨j,o⟩⟩
def oy(r:Rp G H v t F)(a:RelV v u)(d:flat t=O):∃e,Reads h u (L4 t) e/\(L4 t).canLay0=O/\(L4 t).depth<=n:=by
 cases r with
 |non=>cases a;exact⟨_,.none,rfl,Yw _⟩
 |bl b=>cases a;exact⟨_,.bool b,rfl,Yw _⟩
 |int i=>obtain⟨t,rfl⟩:=a;exact⟨_,.int i t,rfl,Yw _⟩
 |str s h=>obtain⟨t,rfl⟩:=a;exact⟨_,.str _ t,Hk h,Yw _⟩
 |_=>cases d
def k8(I:Inv X d J H s)(n:Nat):∀{v:V}{t:T}{F:Wg}{u:On},Rp G H v t F->RelV v u->KL n t=O->∃w,Reads s.heap u (L4 t) w/\(L4 t).canLay0=O/\(L4 t).depth<=n:=by
 induction n with
 |zero =>
  intro v t F u r a h;refine oy r a ?_;cases t<;>first | rfl | exact h
 |succ n x =>
  intro v t F u r a h;cases t with
  |tup l =>
   obtain⟨b,y,D,rfl,e,q⟩:=Rp.MH r;cases a;obtain⟨B,f,z,C⟩:=I.tuple (JT.of e);obtain⟨w,p,m,j⟩:=mL x q f (ZF.mp h);obtain⟨o,g,i,A,hd⟩:=z;exact⟨_,.tuple g i hd (by simpa using p),m,Y7 j⟩
  |lst l =>
   obtain⟨b,y,D,rfl,e,q⟩:=Rp.MQ r;cases a;obtain⟨B,f,pl,C⟩:=I.list (IT.of e);obtain⟨w,p,m,j⟩:=mL x q f (ZF.mp h);obtain⟨o,g,i,A,hd⟩:=pl.isList;exact⟨_,.list g i hd (by simpa using p),m,Y7 j⟩
  |scr _=>cases h
  |dct _ _=>cases h
  |obj _ _=>cases h
  |_=>exact oy r a Y
def BA(G:Gx)(a:Bool):R2:=λx y H Q=>∃t u F b,Rp G H x t F/\Rp G H y u b/\KL 60 t=O/\KL 60 u=O/\Q (.bl (if a then !eqT t u else eqT t u)) H
def jJ{d:PyData}(h:d.canLay0=O)(a:d.depth<=60):SeqAt.shaped d=O:=by
 unfold SeqAt.shaped;grind
def Fz(g:X.A.units+64<cLine):OpR X (SL .Eq) (BA G R):=by
 intro a s J H x y v u Q I f e h;obtain⟨t,w,F,r,r1,r2,d,b,q⟩:=h;obtain⟨p,o,n,m⟩:=k8 I 60 r1 f d;obtain⟨bs,l,j,i⟩:=k8 I 60 r2 e b;refine eq_dataH o l (jJ n m) (jJ j i) g ⟨.bl _,H,I,rfl,?_⟩;rw[qE 60 60 t w d b];exact q
def E3(g:X.A.units+64<cLine):OpR X (SL .NotEq) (BA G O):=by
 intro a s J H x y v u Q I f e h;obtain⟨t,w,F,r,r1,r2,d,b,q⟩:=h;obtain⟨p,o,n,m⟩:=k8 I 60 r1 f d;obtain⟨bs,l,j,i⟩:=k8 I 60 r2 e b;refine ne_dataH o l (jJ n m) (jJ j i) g ⟨.bl _,H,I,rfl,?_⟩;rw[qE 60 60 t w d b];exact q
def GU:gR G (BA G R) oEq:=by
 intro M U b H x y u w f d m t Q a e k;unfold oEq at e;split at e
 ·rename_i h;cases e;exact⟨_,_,_,_,a.r1,a.r2,h.1,h.2,bA k (.bl _)⟩
 ·cases e
def G2:gR G (BA G O) Kr:=by
 intro M U b H x y u w f d m t Q a e k;unfold Kr at e;split at e
 ·rename_i h;cases e;exact⟨_,_,_,_,a.r1,a.r2,h.1,h.2,bA k (.bl _)⟩
 ·cases e
def tells_eq:Tells oEq:=by
 intro x y m t e;unfold oEq at e;grind
def A5:Tells Kr:=by
 intro x y m t e;unfold Kr at e;grind
end
structure JA(M:IQ)(U:VS.Env)(H:Hp)(M':IQ)(U':VS.Env)(H':Hp):Prop where
 keep:∀a o,H a=some o->¬cT M U a->H' a=some o/\¬cT M' U' a
 Jh:∀a,H a≠none->H' a≠none
 ow:∀a,cT M' U' a->cT M U a\/H a=none
 pu:∀a,fg M' U' a->fg M U a\/cT M U a\/H a=none
 kept:Kept H H'
theorem JA.refl(M:IQ)(U:VS.Env)(H:Hp):JA M U H M U H:=⟨λa o h n=>⟨h,n⟩,λ_ h=>h,λ_ h=>.inl h,λ_ h=>.inl h,Kept.refl H⟩
theorem JA.none(f:JA M U H g d b)(h:b a=L):H a=L:=by
 cases e:H a with
 |none=>rfl
 |some o=>exact absurd h (f.Jh a (by grind))
theorem JA.trans{M e d:IQ}{U U1 b:VS.Env}{H j i:Hp}(f:JA M U H e U1 j)(g:JA e U1 j d b i):JA M U H d b i where
 keep:=λa o h n=>let ⟨m,l⟩:=f.keep a o h n;g.keep a o m l
 Jh:=λa h=>g.Jh a (f.Jh a h)
 ow:=λa h=>by
  rcases g.ow a h with h | h
  ·exact f.ow a h
  ·exact .inr (f.none h)
 pu:=λa h=>by
  rcases g.pu a h with h | h | h
  ·exact f.pu a h
  ·rcases f.ow a h with h | h
   ·exact .inr (.inl h)
   ·exact .inr (.inr h)
  ·exact .inr (.inr (f.none h))
 kept:=f.kept.trans g.kept
def JA.same{H:Hp}(e:aI H b):JA M U H M U b :=
 ⟨λa o h n=>⟨e a o h,n⟩,λa h z=>h (e.free z),λ_ h=>.inl h,λ_ h=>.inl h,Kept.of e⟩
def t7(M:IQ)(U:VS.Env)(H:Hp):Md->Wg->Prop
 |.fr,F=>F.Nodup/\∀a∈F,H a=L\/cT M U a
 |_,F=>∀a∈F,H a=L\/fg M U a\/cT M U a
theorem t7.back(f:JA M U H e d g):∀{m:Md},t7 e d g m F->t7 M U H m F
 |.fr,h=>⟨h.1,λa b=>(h.2 a b).elim (λz=>.inl (f.none z)) λz=>(f.ow a z).elim .inr .inl⟩
 |.pu,h=>λa b=>by
  rcases h a b with z | z | z
  ·exact .inl (f.none z)
  ·rcases f.pu a z with z | z | z
   ·exact .inr (.inl z)
   ·exact .inr (.inr z)
   ·exact .inl z
  ·exact(f.ow a z).elim (λz=>.inr (.inr z)) .inl
 |.bo,h=>λa b=>by
  rcases h a b with z | z | z
  ·exact .inl (f.none z)
  ·rcases f.pu a z with z | z | z
   ·exact .inr (.inl z)
   ·exact .inr (.inr z)
   ·exact .inl z
  ·exact(f.ow a z).elim (λz=>.inr (.inr z)) .inl
noncomputable def Nx(G:Gx)(M:IQ)(U:VS.Env)(H:Hp)(b:VS.Env)(k:L2.St->Hp->Prop):Prop:=∀d e a,SR G d b e a->JA M U H d b a->k e a
def wm(G:Gx)(M:IQ)(U:VS.Env)(H:Hp)(D:Ends):Out->Prop
 |.nx a=>Nx G M U H a D.nx
 |.bk a=>Nx G M U H a D.bk
 |.ct a=>Nx G M U H a D.ct
 |.rt v a=>∀u b F d e,SR G d a e b->JA M U H d a b->Rp G b u v.2 F->t7 M U H v.1 F->D.rt u b
def tS(G:Gx)(c:Sx):TS:=λD J H=>∃M U o,SR G M U J H/\c U=Z o/\wm G M U H D o
def PSV(G:Gx)(X:Cx)(a:Stmt)(c:Sx):Prop:=PS X a (tS G c)
def i5(G:Gx)(X:Cx)(a:List Stmt)(c:Sx):Prop:=Kq X a (tS G c)
def PS.weak{X:Cx}(h:PS X e t)(w:∀D J H,b D J H->t D J H):PS X e b:=λa s J H D I q=>h a s J H D I (w D J H q)
def Kq.weak{X:Cx}(h:Kq X e t)(w:∀D J H,b D J H->t D J H):Kq X e b:=λa s J H D I q=>h a s J H D I (w D J H q)
theorem wm.back(f:JA M U H j i l):∀{o:Out},wm G M U H D o->wm G j i l D o
 |.nx e,h=>λa b d s g=>h a b d s (f.trans g)
 |.bk e,h=>λa b d s g=>h a b d s (f.trans g)
 |.ct e,h=>λa b d s g=>h a b d s (f.trans g)
 |.rt v e,h=>λu d F a b s g r q=>h u d F a b s (f.trans g) r (q.back f)
section
variable{st:Stmt}
def bx:i5 G X [] d8:=Kq.weak CV λD J H a=>by
 obtain⟨M,U,o,s,e,k⟩:=a;cases (e);exact k M J H s (JA.refl _ _ _)
def ag(i:PSV G X st c1)(h:i5 G X P8 c2):i5 G X (st :: P8) (aq c1 c2):=Kq.weak (yA i h) λD J H g=>by
 obtain⟨M,U,o,s,e,k⟩:=g;obtain⟨b,e1,e2⟩:=Zz.mp e;refine⟨M,U,b,s,e1,?_⟩;cases b with
 |nx a=>exact λj l m d f=>⟨j,a,o,d,e2,k.back f⟩
 |rt v a=>cases e2;exact k
 |bk a=>cases e2;exact k
 |ct a=>cases e2;exact k
def bM(h:KU G X t d)(j:i5 G X a c1)(i:i5 G X b c2):PSV G X (.If t a b pos) (JI d c1 c2):=PS.weak (Hr h j i) λD J H g=>by
 obtain⟨M,U,o,s,e,k⟩:=g;obtain⟨⟨m,x⟩,l,e1⟩:=Zz.mp e;obtain⟨f,n,e2⟩:=Zz.mp e1;refine⟨M,U,m,x,f,s,l,n,λp e3=>?_⟩;cases f with
 |true =>
  rw[Zn Y]at e2;exact zr ⟨M,U,o,s.same e3,e2,k.back (JA.same e3)⟩
 |false =>
  rw[Zl Zc]at e2;exact zP ⟨M,U,o,s.same e3,e2,k.back (JA.same e3)⟩
theorem Fp.ret:∀{m:Md},Fp M U H m F->t7 M U H (match m with | .bo=>.pu | m=>m) F
 |.fr,f=>⟨f.1,λa b=>.inl (f.2 a b)⟩
 |.pu,f=>λa b=>(f a b).elim .inl λz=>.inr (.inl z)
 |.bo,f=>f
def aT(he:PV G X e ce):PSV G X (.Return (Z e) pos) (dk ce):=PS.weak (pB he) λD J H a=>by
 obtain⟨M,U,o,s,e,k⟩:=a;obtain⟨⟨m,x⟩,b,e1⟩:=Zz.mp e;cases e1;exact⟨M,U,m,x,s,b,λv d F e1 r1 f1=>k v d F M J (s.same e1) (JA.same e1) r1 f1.ret⟩
def cY{U:VS.Env}{c:Cell}(h:(U.set i L)[j]?=Z (Z c)):j≠i/\U[j]?=Z (Z c):=by
 rw[W0]at h;split at h
 ·split at h<;>cases h
 ·rename_i n;exact⟨λz=>n z.symm,h⟩
def SR.drop(s:SR G M U J H)(i:Nat):SR G M (U.set i L) J H :=
 ⟨by rw[Z9];exact s.len,λj c h=>s.rp j c (cY h).2,λj t h=>s.nd j t (cY h).2,λj k t c b a n=>s.sep j k t c (cY b).2 (cY a).2 n⟩
def JA.drop(i:Nat):JA M U H M (U.set i L) H :=
 ⟨λa o h n=>⟨h,λ⟨j,t,d,b⟩=>n ⟨j,t,(cY d).2,b⟩⟩,λ_ h=>h,λa ⟨j,t,d,b⟩=>.inl ⟨j,t,(cY d).2,b⟩,λa ⟨j,t,d,b⟩=>.inl ⟨j,t,(cY d).2,b⟩,Kept.refl H⟩
def cV{X:Cx}(i:Nat)(r:{`q2,X.N[i]?=Z x})(j:{`q5,Lg X.env.scope x})(n:{`q1,K3 x})(u:{`q1,K4 x}):PSV G X (.Return (Z (.Name x p)) pos) (fU i):=PS.weak (pB (fR r j n u)) λD J H l=>by
 obtain⟨M,U,o,s,e,k⟩:=l;unfold fU at e;split at e
 ·rename_i t h;obtain⟨v,g,b⟩:=s.rp _ _ h;cases e;exact⟨v,g,k v H (M i) M J (s.drop i) (JA.drop i) b ⟨s.nd i t h,λa d=>.inr ⟨i,t,h,d⟩⟩⟩
 ·rename_i t h;obtain⟨v,g,b⟩:=s.rp _ _ h;cases e;refine⟨v,g,k v H (M i) M J s (JA.refl _ _ _) b ?_⟩;have f:Fp M U H .pu (M i):=λa d=>.inr ⟨i,t,h,d⟩;have f2:=(f.up b).ret;have:(match (VS.up .pu (m7 (.pu t))).1 with | .bo=>Md.pu | m=>m)=(VS.up .pu t).1:=by
   show (match (VS.up .pu t).1 with | .bo=>Md.pu | m=>m)=_;unfold VS.up;split<;>(rename_i q;revert q;split<;>simp)
  rw[this]at f2;exact f2
 ·cases e
noncomputable def nk(M:IQ)(i:Nat)(F:Wg):IQ:=λj=>if j=i then F else M j
def jN:nk M i F i=F:=Zn Y
def fC(h:j≠i):nk M i F j=M j:=Zl h
def iR{U:VS.Env}{c:Cell}(h:(U.set i (Z c))[j]?=Z (Z a)):(j=i/\a=c)\/(j≠i/\U[j]?=Z (Z a)):=by
 rw[W0]at h;split at h
 ·simp_all
 ·rename_i n;exact .inr ⟨λz=>n z.symm,h⟩
def SR.put{G:Gx}{M:IQ}{U:VS.Env}{J:L2.St}{H p:Hp}{i:Nat}{v:V}{c:Cell}{F:Wg}(s:SR G M U J H)(x:i<U.length)(r:Rp G p v (m7 c) F)(u:∀j b,j≠i->U[j]?=Z (Z b)->∀w,Rp G H w (m7 b) (M j)->Rp G p w (m7 b) (M j))(z:∀t,c=.ow t->F.Nodup)(y:∀t,c=.ow t->∀j b,j≠i->U[j]?=Z (Z b)->∀a∈F,a∉M j)(l:∀j t,j≠i->U[j]?=Z (Z (.ow t))->∀a∈M j,a∉F) :
  SR G (nk M i F) (U.set i (Z c)) (J.set i (Z v)) p where
 len:=by rw[Z9,Z9];exact s.len
 rp:=λj b h=>by
  rcases iR h with⟨rfl,rfl⟩ | ⟨n,h⟩
  ·exact⟨v,by rw[XF (by rw[← s.len];exact x)],by rw[jN];exact r⟩
  ·obtain⟨w,m,f⟩:=s.rp j b h;exact⟨w,by rw[YN (Ye n)];exact m,by rw[fC n];exact u j b n h w f⟩
 nd:=λj t h=>by
  rcases iR h with⟨rfl,e⟩ | ⟨n,h⟩
  ·rw[jN];exact z t e.symm
  ·rw[fC n];exact s.nd j t h
 sep:=λj k t b m f n=>by
  rcases iR m with⟨rfl,e⟩ | ⟨g,q⟩
  ·rcases iR f with⟨rfl,e2⟩ | ⟨d,o⟩
   ·exact absurd Y n
   ·rw[jN,fC d];exact y t e.symm k b d o
  ·rcases iR f with⟨rfl,e2⟩ | ⟨d,o⟩
   ·rw[jN,fC g];exact l j t g q
   ·rw[fC g,fC d];exact s.sep j k t b q o n
def oR{U:VS.Env}{c:Cell}(h:cT (nk M i F) (U.set i (Z c)) a):(∃t,c=.ow t/\a∈F)\/cT M U a:=by
 obtain⟨j,t,d,b⟩:=h;rcases iR d with⟨rfl,e⟩ | ⟨n,d⟩
 ·rw[jN]at b;exact .inl ⟨t,e.symm,b⟩
 ·rw[fC n]at b;exact .inr ⟨j,t,d,b⟩
def uR{U:VS.Env}{c:Cell}(h:fg (nk M i F) (U.set i (Z c)) a):(∃t,c=.pu t/\a∈F)\/fg M U a:=by
 obtain⟨j,t,d,b⟩:=h;rcases iR d with⟨rfl,e⟩ | ⟨n,d⟩
 ·rw[jN]at b;exact .inl ⟨t,e.symm,b⟩
 ·rw[fC n]at b;exact .inr ⟨j,t,d,b⟩
def SR.ML(s:SR G M U J H)(h:cT M U a)(f:fg M U a):False:=by
 obtain⟨j,t,d,b⟩:=h;obtain⟨k,u,i,g⟩:=f;exact s.sep j k t _ d i (λe=>by grind) a b g
def SR.val{m:Md}{c:Cell}(s:SR G M U J H)(B:i<U.length)(e:aI H A)(r:Rp G A v t F)(f:Fp M U H m F)(p:(c=.pu t/\m ≠ .bo)\/(c=.ow t/\m=.fr)):SR G (nk M i F) (U.set i (Z c)) (J.set i (Z v)) A/\JA M U H (nk M i F) (U.set i (Z c)) A:=by
 have Jh:∀{a},H a=L->∀j x,U[j]?=Z (Z x)->a∉M j:=λ{a} h j x g b=>by
  obtain⟨w,_,q⟩:=s.rp j x g;exact IU.pe (q.Jh a b) h
 have ct:m7 c=t:=by rcases p with⟨rfl,_⟩ | ⟨rfl,_⟩<;>rfl
 have y:∀a∈F,H a=L\/fg M U a:=λa b=>by
  rcases p with⟨_,n⟩ | ⟨_,n⟩
  ·exact f.pu n a b
  ·rw[n]at f;exact .inl (f.2 a b)
 constructor
 ·refine s.put B (by rw[ct];exact r) (λj x n g w q=>q.same e) (λu d=>?_) (λu d j x n g a b=>?_) λj u n g a b C=>?_
  ·rcases p with⟨h,_⟩ | ⟨_,h⟩
   ·rw[h]at d;cases d
   ·rw[h]at f;exact f.1
  ·rcases p with⟨h,_⟩ | ⟨_,h⟩
   ·rw[h]at d;cases d
   ·rw[h]at f;exact Jh (f.2 a b) j x g
  ·rcases y a C with z | z
   ·exact Jh z j _ g b
   ·exact s.ML ⟨j,u,g,b⟩ z
 ·refine⟨λa o h n=>⟨e a o h,λz=>?_⟩,λa h z=>h (e.free z),λa h=>?_,λa h=>?_,Kept.of e⟩
  ·rcases oR z with⟨u,d,b⟩ | z
   ·rcases p with⟨l,_⟩ | ⟨_,l⟩
    ·rw[l]at d;cases d
    ·rw[l]at f;rw[f.2 a b]at h;cases h
   ·exact n z
  ·rcases oR h with⟨u,d,b⟩ | z
   ·rcases p with⟨l,_⟩ | ⟨_,l⟩
    ·rw[l]at d;cases d
    ·rw[l]at f;exact .inr (f.2 a b)
   ·exact .inl z
  ·rcases uR h with⟨u,d,b⟩ | z
   ·exact(y a b).elim (λz=>.inr (.inr z)) .inl
   ·exact .inl z
def eV{pos:Pos}(he:PV G X e ce)(p:X.N.Nodup)(l:{`q2,X.N[i]?=Z x})(g:{`q6,Loc X.env.scope x})(h:{`q2,swapsWith e (Z (.Name x a)) pos.line X.env=pure R})(n:{`q7,X.fn x=O\/X.env.scope.names.lookup x=Z .local}) :
  PSV G X (.Assign [.Name x a] e pos) (jt i ce):=PS.weak (uX p l g he h n) λD J H j=>by
 obtain⟨M,U,o,s,e,k⟩:=j;obtain⟨⟨m,t⟩,r,e1⟩:=Zz.mp e;obtain⟨c,eC,e2⟩:=Zz.mp e1;split at e2
 ·rename_i hl;cases e2;refine⟨M,U,m,t,s,r,λv u F e3 b q=>?_⟩;obtain⟨f,d⟩:=s.val (c:=c) hl e3 b q (by
   unfold cellOf at eC;grind)
  exact k _ _ u f d
 ·cases e2
def ax{pos:Pos}(he:PV G X e ce)(p:X.N.Nodup)(l:{`q2,X.N[i]?=Z x})(g:{`q6,Loc X.env.scope x})(h:{`q2,swapsWith e (Z (.Name x a)) pos.line X.env=pure R})(n:{`q7,X.fn x=O\/X.env.scope.names.lookup x=Z .local}) :
  PSV G X (.Assign [.Name x a] e pos) (aC i ce):=PS.weak (uX p l g he h n) λD J H j=>by
 obtain⟨M,U,o,s,e,k⟩:=j;obtain⟨⟨m,t⟩,r,e1⟩:=Zz.mp e;split at e1
 ·cases e1
 ·rename_i hm;split at e1
  ·rename_i hl;cases e1;refine⟨M,U,m,t,s,r,λv u F e3 b q=>?_⟩;obtain⟨f,d⟩:=s.val hl e3 b q (.inl ⟨rfl,hm⟩);exact k _ _ u f d
  ·cases e1
def SR.frz(s:SR G M U J H)(h:U[i]?=Z (Z (.ow t))):SR G M (U.set i (Z (.pu t))) J H/\JA M U H M (U.set i (Z (.pu t))) H:=by
 have back:∀{j c},(U.set i (Z (.pu t)))[j]?=Z (Z c)->∃l,U[j]?=Z (Z l)/\m7 l=m7 c/\∀u,c=.ow u->l=.ow u:=λ{j c} g=>by
  rcases iR g with⟨rfl,rfl⟩ | ⟨n,g⟩
  ·exact⟨.ow t,h,rfl,λu p=>nomatch p⟩
  ·exact⟨c,g,rfl,λu p=>p⟩
 refine⟨⟨by rw[Z9];exact s.len,λj c g=>?_,λj u g=>?_,λj k u c b d n=>?_⟩,⟨λa o r n=>⟨r,λ⟨j,u,b,d⟩=>?_⟩,λ_ h=>h,λa ⟨j,u,b,d⟩=>?_,λa ⟨j,u,b,d⟩=>?_,Kept.refl H⟩⟩
 ·obtain⟨l,b,d,_⟩:=back g;obtain⟨v,f,x⟩:=s.rp j l b
  simp_all
 ·obtain⟨l,b,_,w⟩:=back g;rw[w u Y]at b;exact s.nd j u b
 ·obtain⟨c1,f,_,m⟩:=back b;obtain⟨c2,q,_,_⟩:=back d;rw[m u Y]at f;exact s.sep j k u c2 f q n
 ·obtain⟨c1,f,_,m⟩:=back b;rw[m u Y]at f;exact n ⟨j,u,f,d⟩
 ·obtain⟨c1,f,_,m⟩:=back b;rw[m u Y]at f;exact .inl ⟨j,u,f,d⟩
 ·rcases iR b with⟨rfl,_⟩ | ⟨n,b⟩
  ·exact .inr (.inl ⟨j,t,h,d⟩)
  ·exact .inl ⟨j,u,b,d⟩
def nG(i:Nat)(h:i5 G X P8 c):i5 G X P8 (aq (xN i) c):=Kq.weak h λD J H f=>by
 obtain⟨M,U,o,s,e,k⟩:=f;obtain⟨g,e1,e2⟩:=Zz.mp e;unfold xN at e1;split at e1
 ·rename_i t d;cases e1;obtain⟨b,a⟩:=s.frz d;exact⟨M,_,o,b,e2,k.back a⟩
 ·cases e1;exact⟨M,U,o,s,e2,k⟩
 ·cases e1
end
section
variable{st:Stmt}
structure Chg(G:Gx)(H:Hp)(v:V)(F:Wg)(t':T)(H2:Hp)(F':Wg):Prop where
 kept:Kept H H2
 keep:∀b o,b∉F->H b=some o->H2 b=some o
 Jh:∀b,H b≠none->H2 b≠none
 rp:Rp G H2 v t' F'
 nd:F'.Nodup
 sub:∀a∈F',a∈F\/H a=none
def SR.mut(s:SR G M U J H)(m:U[i]?=Z (Z (.ow t)))(A:J[i]?=Z (Z v))(g:Chg G H v (M i) p x r) :
  SR G (nk M i r) (U.set i (Z (.ow p))) J x/\JA M U H (nk M i r) (U.set i (Z (.ow p))) x:=by
 have off:=λj f n d a b l=>s.sep i j t f m d (Ye n) a l b;have es:J.set i (Z v)=J:=by
  obtain⟨h,e⟩:=ZT.mp A;rw[← e];exact WV h
 have new:∀a∈r,∀j f,j≠i->U[j]?=Z (Z f)->a∉M j:=λa b j f n d l=>by
  rcases g.sub a b with z | z
  ·exact off j f n d a l z
  ·obtain⟨w,_,q⟩:=s.rp j f d;exact IU.pe (q.Jh a l) z
 constructor
 ·have:=s.put (c:=.ow p) (v:=v) ((ZT.mp m).1) g.rp (λj f n d w q=>q.keep g.kept λa b o B=>g.keep a o (off j f n d a b) B) (λ_ _=>g.nd) (λu y j f n d a b=>new a b j f n d) λj u n d a b l=>new a l j _ n d b
  simp_all
 ·refine⟨λa o h n=>⟨g.keep a o (λz=>n ⟨i,t,m,z⟩) h,λz=>?_⟩,g.Jh,λa h=>?_,λa h=>?_,g.kept⟩
  ·rcases oR z with⟨u,_,b⟩ | z
   ·rcases g.sub a b with z | z
    ·exact n ⟨i,t,m,z⟩
    ·rw[z]at h;cases h
   ·exact n z
  ·rcases oR h with⟨u,_,b⟩ | z
   ·rcases g.sub a b with z | z
    ·exact .inl ⟨i,t,m,z⟩
    ·exact .inr z
   ·exact .inl z
  ·rcases uR h with⟨u,y,b⟩ | z
   ·cases y
   ·exact .inl z
def vz(G:Gx)(r:V->List V->Hp->VK->Prop)(f:T->Vt->Option (T×Val)):Prop:=∀(M:IQ)(U:VS.Env)(H g:Hp)(v:V)(t b:T)(F:Wg)(l:Vt)(a:List V)(h:Wv)(x:Val)(Q:VK),
 Rp G H v t F->F.Nodup->Args G M U H g l a h->f t l=Z (b,x)->(∀u d i,Chg G H v F b d i->Q u d)->r v a g Q
def ui{pos:Pos}{b:Pos}(i:Nat)(pa:PlainAttrs q)(h:Slot q a n)(OT:typeOf (.builtin n)=pure (.type "method_descriptor"))(hm:PN X n r)(ok:vz G r f)(hT:∀H v t F l z,Rp G H v t F->f t l=Z z->NI G.K q v H)(ha:JF G X (e :: es) cs)(hK:{`q2,X.K=G.K})(hN:{`q2,X.N[i]?=Z x})(hv:{`q5,Lg X.env.scope x})(hd:{`q1,K3 x})(Jf:{`q1,K4 x})(IV:{`q2,UV (.Name x j) a X.env (eval (.Name x j) X.env)=eval (.Name x j) X.env})(Jm:{`q2,((backTo d (Pv (e :: es) X.env)).all (λx=>!x.1)&&(backToKw d (SC [] X.env)).all (λx=>x.1.isSome)
   && decide ((e :: es).length+([]:List Keyword).length+(if ([]:List Keyword).isEmpty then 0 else 1)<30))=O})(IK:{`q2,(b.endLine==d.line)=O})(hs:{`q2,K1 e es X})(IJ:{`q2,K2 d es X})(K8:{`q2,swapsWith (.Call (.Attribute (.Name x j) a b) (e :: es) [] d) L pos.line X.env=pure R}) :
  PSV G X (.Expr (.Call (.Attribute (.Name x j) a b) (e :: es) [] d) pos) (sX (jS i [] f cs)) :=
 PS.weak (jR (sy pa h OT hm (fR hN hv hd Jf) ha IV Jm IK hs IJ) K8) λD J H hq=>by
  refine L2.ak λP_ m=>?_;obtain⟨M,U,o,s,e,k⟩:=hq;unfold sX jS at e;obtain⟨⟨B,U'⟩,e1,e2⟩:=Zt.mp e;refine m ?_;split at e1
  ·rename_i t p;refine L2.ak λP_ m=>?_;obtain⟨ks,ek,e3⟩:=Zz.mp e1;cases (ek);obtain⟨l,el,e4⟩:=Zz.mp e3;obtain⟨⟨Q,x2⟩,e5,e6⟩:=Zt.mp e4;cases e6;cases e2;obtain⟨v,y,w⟩:=s.rp _ _ p;refine m ?_;have A:=e5;refine⟨v,y,by rw[hK];exact hT H v t _ l _ w A,M,U,l,s,el,λP H' Fs q1 q2 S=>?_⟩;refine ok M U H H' v t Q (M i) l P Fs B _ w (s.nd i t p) ⟨q1,q2,S⟩ A λu H2 F' g=>?_;obtain⟨E,C⟩:=s.mut p y g;exact k _ J H2 E C
  ·cases e1
theorem Chg.upd{H:Hp}(e:aI H d)(n:a∈F)(m:IU (d a))(r:Rp G (upd d a o) v i f)(l:f.Nodup)(g:∀a∈f,a∈F\/H a=L):Chg G H v F i (upd d a o) f :=
 ⟨(Kept.of e).trans (Kept.upd (.inl m)),λb j hb h=>by rw[aD (λz=>hb (by rw[z];exact n))];exact e b j h,
  λb h z=>by
   by_cases q:b=a
   ·subst q;rw[ay]at z;cases z
   ·rw[aD q]at z;exact h (e.free z),r,l,g⟩
def RpL.off(r:RpL G H f g d)(j:IU (H a))(h:a∉d.flatten):RpL G (upd H a o) f g d :=
 r.keep (Kept.upd (.inl j)) λb hb l i=>by rw[aD (λz=>h (by rw[← z];exact hb))];exact i
def kK(h:fit v=Z t):v=(.fr,t):=by
 obtain⟨m,x⟩:=v;cases m<;>first | (cases h;rfl) | cases h
def mN:vz G vK aK:=by
 intro M U H C v t J F l D N x Q r nd A e k;unfold aK at e;split at e
 ·rename_i E y;obtain⟨z,s,e1⟩:=Zz.mp e;have u:=kK s;subst u;split at e1
  ·rename_i hl;cases e1;obtain⟨a,n,Gs,rfl,rfl,h,f⟩:=r.lst_inv;obtain⟨w,j,rfl,rfl,B⟩:=(A.rp).one;have d:=A.fp.each 0 _ _ Y Y;have i:=A.same a _ h;have g:IU (C a):=by rw[i];exact True.intro
   have na:=(Zf.mp nd).1;have nw:a∉j:=λz=>by rw[d.2 a z]at h;cases h
   refine⟨a,n,w,rfl,rfl,i,by rw[f.len.1];exact hl,k _ _ (a :: (Gs++[j]).flatten) ?_⟩;have off:=λb hb hw=>IU.pe (f.Jh b hb) (d.2 b hw);refine Chg.upd A.same Zu g (.lst ay (((f.same A.same).off g na).append (.cons (B.keep (Kept.upd (.inl g)) λb hb o p=>by rw[aD (λz=>nw (by rw[← z];exact hb))];exact p) .nil))) ?_ ?_
   ·rw[Ym];refine Zf.mpr ⟨λm=>?_,ZR.mpr ⟨(Zf.mp nd).2,by simpa using d.1,λb hb c q z=>?_⟩⟩
    ·grind
    ·subst z;exact off b hb (by simpa using q)
   ·intro b hb;rcases Zk.mp hb with rfl | hb
    ·exact .inl Zu
    ·rw[Ym]at hb;rcases ZU.mp hb with hb | hb
     ·simp_all
     ·exact .inr (d.2 b (by simpa using hb))
  ·cases e1
 ·cases e
def tY(r:Rp G H v (.lst b) F):NI G.K "list" v H:=by
 obtain⟨a,f,Gs,rfl,rfl,d,g⟩:=r.lst_inv;exact .inl ⟨rfl,_,IT.of d⟩
def jv(r:Rp G H v t F)(h:aK t l=Z z):NI G.K "list" v H:=by
 unfold aK at h;split at h
 ·exact tY r
 ·cases h
def t6(r:Rp G H v t F)(h:fD t l=Z z):NI G.K "list" v H:=by
 unfold fD at h;split at h
 ·exact tY r
 ·cases h
def wO:vz G wq fD:=by
 intro M U H D v t P F l J Fs x Q r nd A e k;unfold fD at e;split at e
 ·rename_i N y;obtain⟨z,u,e1⟩:=Zz.mp e;have B:=kK u;subst B;split at e1
  ·rename_i _ E;split at e1
   ·rename_i hl;cases e1;obtain⟨a,q,Gs,rfl,rfl,j,h⟩:=r.lst_inv;obtain⟨w,S,rfl,rfl,C⟩:=(A.rp).one;have f:=A.fp.each 0 _ _ Y Y;have p:=A.same a _ j;have i:IU (D a):=by rw[p];exact True.intro
    have na:=(Zf.mp nd).1;obtain⟨b,ws,o,rfl,rfl,hb,n⟩:=C.lst_inv;have nb:a∉o.flatten:=λm=>(λz=>by rw[f.2 a z]at j;cases j) (Zw _ m)
    refine⟨a,b,q,ws,rfl,rfl,p,hb,by rw[h.len.1,n.len.1];exact hl,k _ _ (a :: (Gs++o).flatten) ?_⟩;have off:=λg d hw=>IU.pe (h.Jh g d) (f.2 g (Zw _ hw));refine Chg.upd A.same Zu i (.lst ay (((h.same A.same).off i na).append (n.off i nb))) ?_ ?_
    ·rw[Ym];refine Zf.mpr ⟨λm=>?_,ZR.mpr ⟨(Zf.mp nd).2,(Zf.mp f.1).2,λb hb c s z=>?_⟩⟩
     ·rcases ZU.mp m with m | m
      ·exact na m
      ·exact nb m
     ·subst z;exact off b hb s
    ·intro g d;rcases Zk.mp d with rfl | d
     ·exact .inl Zu
     ·rw[Ym]at d;rcases ZU.mp d with d | d
      ·exact .inl (Zw _ d)
      ·exact .inr (f.2 g (Zw _ d))
   ·cases e1
  ·cases e1
 ·cases e
end
structure Mr(G:Gx)(Jq:It)(l:Vr)(C:Wg)(H:Hp):Prop where
 run:∀H2,Kept H H2->(∀a∈C,∀o,H a=some o->H2 a=some o) →
  (∀(i:Nat)(t:T),l[i]?=some t->Jq.go i H2/\∀x H3,Jq.RK i H2 x H3->aI H2 H3/\∃F,Rp G H3 x t F/\∀a∈F,a∈C\/H2 a=none)/\∀(i:Nat),l.length<=i->Jq.stop i H2
 Jh:∀a∈C,H a≠none
def FpC(M:IQ)(U:VS.Env)(H:Hp)(m:Md)(C:Wg):Prop:=∀a∈C,H a=L\/fg M U a\/(m=.bo/\cT M U a)
theorem Fp.c{U:VS.Env}:∀{m:Md},Fp M U H m F->FpC M U H m F
 |.fr,f=>λa b=>.inl (f.2 a b)
 |.pu,f=>λa b=>(f a b).imp id .inl
 |.bo,f=>λa b=>(f a b).imp id λz=>z.imp id λz=>⟨rfl,z⟩
def tI(G:Gx)(c:LF):TI:=λJ H R=>∃M U m l,SR G M U J H/\c U=Z (m,l)/\∀b a C,aI H a->Mr G b l C a->FpC M U H m C->R b a
def PVI(G:Gx)(X:Cx)(b a:Expr)(c:LF):Prop:=PI X b a (tI G c)
def PI.weak{X:Cx}(h:PI X b e t)(w:∀J H Q,d J H Q->t J H Q):PI X b e d:=λa s J H Q I q=>h a s J H Q I (w J H Q q)
section
def ub(H:Hp)(d:Int)(n:Nat):Mr G (RG d n) (rng d n) [] H:=by
 refine⟨λq _ _=>⟨λi t h=>?_,λi h=>(by simpa[rng] using h:n<=i)⟩,λa h=>by simp at h⟩;unfold rng at h;rw[Zd]at h;obtain⟨k,g,e⟩:=Zt.mp h;obtain⟨f,e2⟩:=ZT.mp g;rw[ZX]at f;have l:i=k:=by simpa using e2
 subst l;refine⟨f,λx o j=>?_⟩;obtain⟨e3,m⟩:=j;subst e3;subst m;rw[← e];exact⟨aI.refl _,[],.int _,λa h=>by simp at h⟩
def fu(u:PV G X a ca)(t:Gl X "range")(r:X.mg "range" = L)(o:{`q2,K1 a [] X})(y:{`q2,Pv [a] X.env=[(false,eval a X.env)]}):PVI G X tg (.Call (.Name "range" p) [a] [] pos) (di ca) :=
 PI.weak (xq t r (dJ u iJ o) y) λJ H R q=>by
  obtain⟨M,U,m,l,s,e,k⟩:=q;obtain⟨⟨n,x⟩,w,e1⟩:=Zz.mp e;obtain⟨j,f,e2⟩:=Zz.mp e1;split at e2
  ·rename_i d;cases e2;refine⟨M,U,n,x,s,w,λv g F e3 i A=>?_⟩;cases x with
   |int z =>
    cases f;refine⟨j,by rw[i.int_inv],?_,?_,k _ g [] e3 (ub g 0 j.toNat) λa h=>by simp at h⟩
    ·have:=d.1;unfold Oa at this;lia
    ·have:=d.2;unfold Oa at this;lia
   |_=>cases f
  ·cases e2
def ou(E:PV G X a ca)(D:PV G X b cb)(C:Gl X "range")(A:X.mg "range" = L)(u:{`q2,Pv [a,b] X.env=(false,eval a X.env) :: Pv [b] X.env})(Ku:{`q2,Pv [a,b] X.env=[(false,eval a X.env),(false,eval b X.env)]})(S:{`q2,K1 b [] X})(Y:{`q2,Pv [b] X.env=[(false,eval b X.env)]}) :
  PVI G X tg (.Call (.Name "range" p) [a,b] [] pos) (iO ca cb) :=
 PI.weak (xX C A (dJ E (dJ D iJ S) u) Ku Y) λJ H R z=>by
  refine L2.ak λP_ t=>?_;obtain⟨M,U,m,l,s,e,k⟩:=z;obtain⟨⟨r,x⟩,P,e1⟩:=Zz.mp e;obtain⟨⟨q,y⟩,N,e1⟩:=Zz.mp e1;obtain⟨i,f,e2⟩:=Zz.mp e1;obtain⟨j,d,e2⟩:=Zz.mp e2;refine t ?_;split at e2
  ·rename_i B;cases e2;refine⟨M,U,r,x,s,P,λv H' F e3 o f3=>⟨M,U,q,y,s.same e3,N,λw g F2 Q n f4=>?_⟩⟩;cases x with
   |int i' =>
    cases f;cases y with
    |int j' =>
     cases d;refine⟨i,j,by rw[o.int_inv,n.int_inv],?_,k _ g [] (e3.trans Q) (ub g i (j-i).toNat) λa h=>by simp at h⟩;unfold Oa at B;omega
    |_=>cases d
   |_=>cases f
  ·cases e2
def dF{d:Wv}{i:Nat}{F:Wg}(h:d[i]?=Z F){a:KM}(f:a∈F):a∈d.flatten:=(cZ h).subset f
def C7{a:KM}(K:Wu)(n:H a=Z (.lst d))(r:RpL G H d g l):Mr G (UZ K a) g (a :: l.flatten) H:=by
 refine⟨λy k c=>?_,λb hb=>?_⟩
 ·have f:=c a Zu _ n;refine⟨λi t h=>?_,λi h=>⟨d,IT.of f,by rw[r.len.1];exact h⟩⟩;obtain⟨v,F,j,u,s⟩:=(r.keep k λb hb o m=>c b (Zw _ hb) o m).get i h;refine⟨⟨d,v,IT.of f,j⟩,λx w q=>?_⟩;obtain⟨e1,e2⟩:=q;subst e1;have ex:=e2 d (IT.of f);rw[j]at ex;cases ex;exact⟨aI.refl _,F,s,λb hb=>.inl (Zw _ (dF u hb))⟩
 ·rcases Zk.mp hb with rfl | hb
  ·grind
  ·exact IU.pe (r.Jh b hb)
def Fh{a:KM}(K:Wu)(n:H a=Z (.tup d))(r:RpL G H d g l):Mr G (UY K a) g l.flatten H:=by
 refine⟨λy k c=>?_,λb hb=>IU.pe (r.Jh b hb)⟩;have f:=k.tup a _ n;refine⟨λi t h=>?_,λi h=>⟨d,JT.of f,by rw[r.len.1];exact h⟩⟩;obtain⟨v,F,j,u,s⟩:=(r.keep k λb hb o m=>c b hb o m).get i h;refine⟨⟨d,v,JT.of f,j⟩,λx w q=>?_⟩;obtain⟨e1,e2⟩:=q;subst e1;have ex:=e2 d (JT.of f);rw[j]at ex;cases ex;exact⟨aI.refl _,F,s,λb hb=>.inl (dF u hb)⟩
def tG(G:Gx)(g:Tg):TG:=λv J H Q=>∃M U t F d,SR G M U J H/\Rp G H v t F/\(∀a∈F,¬cT M U a)/\g t U=Z d ∧
 ∀f h,SR G f d h H->(∀a,cT f d a->cT M U a)->(∀a,fg f d a->fg M U a\/a∈F)->Q h H
def tGs(G:Gx)(l:List Tg):N6:=λj J H Q=>∃M U h g d,SR G M U J H/\RpL G H j h g/\(∀a∈g.flatten,¬cT M U a)/\Cu l h U=Z d ∧
 ∀f i,SR G f d i H->(∀a,cT f d a->cT M U a)->(∀a,fg f d a->fg M U a\/a∈g.flatten)->Q i H
def N7(G:Gx)(X:Cx)(e:Expr)(g:Tg):Prop:=PG X e (tG G g)
def Bl(G:Gx)(X:Cx)(e:List Expr)(g:List Tg):Prop:=ND X e (tGs G g)
def PG.weak{X:Cx}{e:Expr}{f:TG}(h:PG X e t)(w:∀v J H Q,f v J H Q->t v J H Q):PG X e f:=λd s J H v u Q I r q=>h d s J H v u Q I r (w v J H Q q)
def ND.weak{X:Cx}{e:List Expr}{f:N6}(h:ND X e t)(w:∀v J H Q,f v J H Q->t v J H Q):ND X e f:=λd s J H v u Q I r q=>h d s J H v u Q I r (w v J H Q q)
def aF{X:Cx}(i:Nat)(A:X.N.Nodup)(o:{`q2,X.N[i]?=Z x})(l:{`q6,Loc X.env.scope x})(y:X.fn x=O\/X.env.scope.names.lookup x=Z .local:=by first | exact .inl Y | exact .inr rfl):N7 G X (.Name x pos) (aS i):=PG.weak (CK A o l y) λv J H Q m=>by
 obtain⟨M,U,t,F,D,s,r,no,e,k⟩:=m;unfold aS at e;split at e
 ·rename_i hl;cases e;refine k (nk M i F) (J.set i (Z v)) (s.put hl r (λj C n g w q=>q) (λu d=>nomatch d) (λu d=>nomatch d) λj u n g a f B=>no a B ⟨j,u,g,f⟩) (λa h=>?_) λa h=>?_
  ·rcases oR h with⟨u,d,_⟩ | z
   ·cases d
   ·exact z
  ·rcases uR h with⟨u,d,f⟩ | z
   ·exact .inr f
   ·exact .inl z
 ·cases e
def kE:Bl G X [] []:=ND.weak Ct λv J H Q d=>by
 obtain⟨M,U,f,i,g,s,r,no,e,k⟩:=d;cases r with
 |nil =>
  cases (e);exact⟨rfl,k M J s (λ_ h=>h) λ_ h=>.inl h⟩
 |cons r q=>cases (e)
def ed(u:N7 G X e g)(t:Bl G X es f)(m:{`q2,(assignEach (e :: es) X.env).map (·.2)=assign e X.env :: (assignEach es X.env).map (·.2)}):Bl G X (e :: es) (g :: f) :=
 ND.weak (zS u t m) λv J H Q n=>by
  obtain⟨M,U,C,Fs,w,s,r,no,e,k⟩:=n;cases r with
  |nil=>cases (e)
  |cons r q =>
   rename_i B D F' S P N;obtain⟨i,e1,e2⟩:=Zz.mp e;refine⟨_,_,rfl,M,U,_,_,i,s,r,λa o=>no a (by grind),e1,λy Y s1 d F=>?_⟩;refine⟨y,i,_,_,w,s1,q,λa o z=>no a (by grind) (d a z),e2,λx A j l E=>k x A j (λa h=>d a (l a h)) λa h=>?_⟩;grind
theorem sv:∀{f:List Tg}{d:Vr}{U i:VS.Env},Cu f d U=Z i->d.length=f.length
 |[],[],_,_,_=>rfl
 |[],_ :: _,_,_,h=>nomatch h
 |_ :: _,[],_,_,h=>nomatch h
 |g :: f,t :: d,U,i,h=>by
  obtain⟨j,_,e2⟩:=Zz.mp (h);simp[sv e2]
def nJ{X:Cx}(m:X.calm=O)(h:Bl G X es d)(j:{`q2,(assignEach es X.env).length=d.length})(u:{`q2,(assignEach es X.env).findIdx? (·.1)=L})(y:{`q2,X.K=G.K}):N7 G X (.Tuple es k pos) (nr d) :=
 PG.weak (Ee m h j u) λv J H Q i=>by
  obtain⟨M,U,t,F,o,s,r,no,e,q⟩:=i;unfold nr at e;split at e
  ·rename_i l;obtain⟨n,g,x,rfl,rfl,w,f⟩:=r.JW;exact⟨n,g,rfl,JT.of w,by rw[f.len.1];exact sv e,M,U,l,x,o,s,f,no,e,q⟩
  ·cases e
def qj{tgt:Tg}{body:Sx}{l:Vr}{U:VS.Env}(h:l[i]?=Z t):l.drop i=t :: l.drop (i+1):=by
 obtain⟨d,e⟩:=ZT.mp h;rw[← e];exact Xa d
def Ft{cb:Sx}(hq:tS G (h9 g ci cb) D J H):Hc (tI G ci) (tG G g) (tS G cb) D J H:=by
 refine L2.ak λP_ k_=>?_;obtain⟨M,U,o,s,e,k⟩:=hq;obtain⟨⟨m,l⟩,el,e1⟩:=Zz.mp e;refine k_ ?_;dsimp only at e1;split at e1
 ·rename_i hm;refine⟨M,U,m,l,s,el,λJq Q C e2 ok fc=>?_⟩;have cno:∀a∈C,¬cT M U a:=λa y z=>by
   rcases fc a y with q | q | q
   ·exact IU.pe (s.Ka z) q
   ·exact s.ML z q
   ·exact(λz=>by rw[z]at hm;cases hm) q.1
  refine⟨λi n J2 P=>n=l.length-i/\∃Y N,SR G Y N J2 P/\JA M U H Y N P/\Kept Q P/\(∀a∈C,∀o,Q a=Z o->P a=Z o/\¬cT Y N a)/\forL g cb (l.drop i) N=Z o,
   ⟨l.length-0,rfl,M,U,s.same e2,JA.same e2,Kept.refl _,λa y w A=>⟨A,cno a y⟩,by rw[List.drop_zero];exact e1⟩,?_⟩
  rintro i n J2 P ⟨rfl,Y,N,s2,f2,kp,con,e3⟩;obtain⟨go,stop⟩:=ok.run P kp λa y w A=>(con a y w A).1;cases hit:l[i]? with
  |none =>
   have hl:=YE.mp hit;left;rw[Wc hl]at e3;cases (e3);exact⟨stop i hl,k Y J2 P s2 f2⟩
  |some t =>
   have hl:=(ZT.mp hit).1;right;obtain⟨g1,y1⟩:=go i t hit;rw[qj (tgt:=g) (body:=cb) (U:=N) hit]at e3;obtain⟨U3,e4,e5⟩:=Zz.mp (e3);obtain⟨w,e6,e7⟩:=Zz.mp e5;refine⟨g1,λB j=>∃d f,SR G d f B j/\JA M U H d f j/\Kept Q j/\(∀a∈C,∀o,Q a=Z o->j a=Z o/\¬cT d f a)/\forL g cb (l.drop (i+1)) f=Z o,λB j ⟨d,f,q⟩=>⟨l.length-(i+1),by omega,rfl,d,f,q⟩,λx H3 yl=>?_⟩;obtain⟨S,F,rF,hF⟩:=y1 x H3 yl;refine⟨Y,N,t,F,U3,(s2.same S),rF,(λa y z=>by
    rcases hF a y with q | q
    ·have JP:=ok.Jh a q;cases A:Q a with
     |none=>exact JP A
     |some o''=>exact(con a q o'' A).2 z
    ·exact IU.pe (s2.Ka z) q),e4,λM3 J3 s4 o3 p3=>?_⟩
   have f3:JA M U H M3 U3 H3:=⟨λa w h n=>let ⟨h1,n1⟩:=f2.keep a w h n;⟨S a w h1,λz=>n1 (o3 a z)⟩,λa h z=>f2.Jh a h (S.free z),λa h=>f2.ow a (o3 a h),λa h=>by
    rcases p3 a h with h | h
    ·exact f2.pu a h
    ·rcases hF a h with q | q
     ·rcases fc a q with q | q | q
      ·exact .inr (.inr q)
      ·exact .inl q
      ·exact .inr (.inl q.2)
     ·exact .inr (.inr (f2.none q)),f2.kept.trans (Kept.of S)⟩
   have next:∀{d f j},JA M3 U3 H3 d f j->Kept Q j/\∀a∈C,∀o,Q a=Z o->j a=Z o/\¬cT d f a:=λr =>
    ⟨(kp.trans (Kept.of S)).trans r.kept,λa y w A=>by
     obtain⟨h1,n1⟩:=con a y w A;exact r.keep a w (S a w h1) λz=>n1 (o3 a z)⟩
   refine⟨M3,U3,w,s4,e6,?_⟩;cases w with
   |nx f=>exact λd B j E r=>⟨d,f,E,f3.trans r,(next r).1,(next r).2,e7⟩
   |ct f=>exact λd B j E r=>⟨d,f,E,f3.trans r,(next r).1,(next r).2,e7⟩
   |bk f =>
    cases (e7);exact λd B j E r=>k d B j E (f3.trans r)
   |rt v f =>
    cases (e7);exact λu j F4 d B E r r5 q5=>k u j F4 d B E (f3.trans r) r5 (q5.back f3)
 ·cases e1
def cG{X:Cx}(m:PassesOwn (KB X.prog X.w) X.A X.env X.xe)(q:X.calm=O)(n:PVI G X tg d h)(o:N7 G X tg g)(r:i5 G X f i)(j:{`q3,∀x,XAA d X.env x=pure x}):PSV G X (.For tg d f [] pos) (h9 g h i):=PS.weak (FY m q n o r j) λD J H l=>Ft l
end
noncomputable def IC(H:Hp)(b:Wv):Md->Wg->Prop
 |.fr,F=>F.Nodup/\∀a∈F,H a=L
 |_,F=>∀a∈F,H a=L\/a∈b.flatten
def LH(G:Gx)(g:Fn):Sp:=λe H Q _=>∃b d m r,RpL G H e b d/\g b=Z (m,r)/\∀v a F,aI H a->Rp G a v r F->IC H d m F->Q v a
section
def call_of(h:tE G (aH g cs) J H Q):DB (LH G g) [] E (SE G cs) J H Q:=by
 refine L2.ak λP_ S=>?_;obtain⟨M,U,m,t,s,e,u⟩:=h;obtain⟨l,el,e1⟩:=Zz.mp e;obtain⟨⟨n,r⟩,Y,e2⟩:=Zz.mp e1;refine S ?_;refine⟨M,U,l,s,el,λD y C b P N=>?_⟩;have A:Args G M U H y l D C:=⟨b,P,N⟩
 have i:=N.join A.len;show LH G g (D++[]) y Q E;rw[ZQ];refine⟨trees l,C,n,r,P,Y,λv B F q o j=>?_⟩;have wide:(∀a∈F,y a=L\/a∈C.flatten)->Fp M U H ((Md.pu).join (c6 l)) F:=λh=>by
  cases w:c6 l with
  |fr =>
   rw[w]at i;exact λa d=>.inl ((h a d).elim b.free (i.2 a))
  |pu =>
   rw[w]at i;exact λa d=>(h a d).elim (λz=>.inl (b.free z)) (i a)
  |bo =>
   rw[w]at i;exact λa d=>(h a d).elim (λz=>.inl (b.free z)) (i a)
 cases n with
 |fr =>
  cases e2;exact u v B F (b.trans q) o ⟨j.1,λa d=>b.free (j.2 a d)⟩
 |pu =>
  cases e2;exact u v B F (b.trans q) o (wide j)
 |bo =>
  cases e2;exact u v B F (b.trans q) o (wide j)
def Bh{X:Cx}(F:FnOk X.prog X.w X.K X.mg X.base JB k f fd ps (LH G g))(b:oe k X.A)(j:Gl X x)(d:X.mg x=Z (.ref f))(i:PySem.W.keepIn X.K (.ref f)=O)(l:Binds X.K fd ps [])(m:JF G X (e :: es) cs)(n:{`q1,K3 x})(he:{`q2,K1 e es X})(a:{`q2,K2 pos es X}) :
  PV G X (.Call (.Name x p) (e :: es) [] pos) (aH g cs) :=
 PE.weak (Bw F b j d i l .nil ng m n he a) λJ H Q h=>call_of h
def Aa(r:RpL G H d a s)(n m:Nat)(w:m=d.length):SR G (λi=>s.getD i []) (a.map (λt=>Z (.pu t))++List.replicate (n-a.length) L) (d.map Z++List.replicate (n-m) L) H:=by
 subst w;have hl:=r.len;have back:∀{i:Nat}{c:Cell},(a.map (λt=>Z (Cell.pu t))++List.replicate (n-a.length) L)[i]?=Z (Z c)->∃t,a[i]?=Z t/\c=.pu t:=λ{i c} h=>by
  by_cases o:i<a.length
  ·rw[Z8 (by rw[Zy];exact o),Zd]at h;obtain⟨t,l,b⟩:=Zt.mp h;exact⟨t,l,(Zi b).symm⟩
  ·rw[Yt (by rw[Zy];exact ZI o),YY]at h;split at h<;>cases h
 refine⟨by simp;lia,λi c h=>?_,λi t h=>?_,λi j t c h=>?_⟩
 ·obtain⟨t,l,rfl⟩:=back h;obtain⟨v,F,q,z,y⟩:=r.get i l;refine⟨v,?_,?_⟩
  ·have:=(ZT.mp q).1;rw[Z8 (by rw[Zy];exact this),Zd,q];rfl
  ·rw[Zr,z];exact y
 ·obtain⟨u,_,b⟩:=back h;cases b
 ·obtain⟨u,_,b⟩:=back h;cases b
def jm{b:Vr}:¬cT M (b.map (λt=>Z (Cell.pu t))++List.replicate n L) a:=by
 rintro⟨i,t,h,_⟩;by_cases d:i<b.length
 ·rw[Z8 (by rw[Zy];exact d),Zd]at h;obtain⟨l,_,j⟩:=Zt.mp h;cases j
 ·rw[Yt (by rw[Zy];exact ZI d),YY]at h;split at h<;>cases h
def tf{H:Hp}{vs:List V}{j:Vr}{d:Wv}(h:fg (λi=>d.getD i []) (j.map (λt=>Z (Cell.pu t))++List.replicate n L) a):a∈d.flatten:=by
 obtain⟨i,t,_,b⟩:=h;simp only[Zr]at b;cases e:d[i]? with
 |none=>rw[e]at b;simp at b
 |some F=>rw[e]at b;exact dF e b
end
section
variable{K:Wu}
def zC{d:List Str}(g:d.length=e)(h:LH G (fn e f c) b H Q E):b.length=d.length:=by
 obtain⟨j,l,m,r,i,a,_⟩:=h;unfold fn at a;split at a
 ·rename_i hl;rw[i.len.1,hl,g]
 ·cases a
def zo{N:List Str}(s:N.length=f)(h:LH G (fn p f c) vs H Q E):tS G c { nx:=λ_ d=>Q .non d,rt:=Q } (L2.start N vs) H:=by
 obtain⟨B,C,m,r,t,g,q⟩:=h;unfold fn at g;split at g
 ·rename_i hl;obtain⟨o,e1,e2⟩:=Zz.mp g;have j:=Aa t f vs.length Y;rw[hl]at j;have e3:L2.start N vs=vs.map Z++List.replicate (f-vs.length) L:=by
   unfold L2.start;rw[s]
  rw[e3];refine⟨_,_,o,j,e1,?_⟩;cases o with
  |nx i =>
   cases e2;intro x y d l fr;exact q .non d [] (λa o h=>(fr.keep a o h jm).1) .non ⟨Yb,λa h=>by simp at h⟩
  |rt v i =>
   cases e2;intro u d A x y l fr n e;refine q u d A (λa o h=>(fr.keep a o h jm).1) n ?_;cases m with
   |fr=>exact⟨e.1,λa b=>(e.2 a b).elim id λz=>absurd z jm⟩
   |pu=>exact λa b=>(e a b).elim .inl λz=>z.elim (λz=>.inr (tf (H:=H) (vs:=vs) z)) λz=>absurd z jm
   |bo=>exact λa b=>(e a b).elim .inl λz=>z.elim (λz=>.inr (tf (H:=H) (vs:=vs) z)) λz=>absurd z jm
  |bk i=>cases e2
  |ct i=>cases e2
 ·cases g
def Uh(F:IH K x a b f j)(S:bt N e (ai b))(n:e.length=g)(o:N.length=i)(p:∀(d:On)(A:SB)(outer:List PySem.Env)(s:IR)(H:Hp)(E:XK),oe k (A.deeper (envOfC a (ai b) s.heap.objs.size f d))->i5 G (jb JB P w K mg base N a (ai b) f d A outer s H E).Lj (ba b) c) :
  FnOk P w K mg base JB (k+1) f j e (LH G (fn g i c)) :=
 F.ok S (λl H Q E h=>zC n h) λd A outer s H l Q E m h=>⟨_,p d A outer s H E m,zo o h⟩
end
end VS
end
section
namespace L2
open PySem PySem.Spec PyProof.Rows
theorem lW(b:Env):∀(l:List (Str×NameKind))(acc:List (Str×KM)),(∀y∈l,y.2=.free->∃c,b.cells.lookup y.1=Z c)->(∀x c,acc.lookup x=Z c->b.cells.lookup x=Z c) →
  ∃cl,(forIn l acc (λx r=>if (x.snd==NameKind.free)=O then (do let a ← cellOf b x.fst;pure (ForInStep.yield ((x.fst,a) :: r))) else pure (ForInStep.yield r)):Sem (List (Str×KM)))=pure cl ∧
   (∀x c,cl.lookup x=Z c->b.cells.lookup x=Z c)/\(∀x c,acc.lookup x=Z c->∃e,cl.lookup x=Z e)/\∀y∈l,y.2=.free->∃c,cl.lookup y.1=Z c
 |[],acc,_,i=>⟨acc,rfl,i,λx c h=>⟨c,h⟩,λy d=>nomatch d⟩
 | (n,k) :: l,acc,g,i=>by
  by_cases p:k=.free
  ·refine L2.ak λw q=>?_;subst p;obtain⟨c,s⟩:=g (n,.free) Zu Y;have v:cellOf b n=pure c:=by unfold cellOf;rw[s]
   obtain⟨cl,t,o,m,j⟩:=lW b l ((n,c) :: acc) (λy d=>g y (Zw _ d)) (λx e h=>by
    grind)
   refine q ?_;refine⟨cl,?_,o,λx e h=>?_,λy d f=>?_⟩
   ·simp_all
   ·by_cases u:x=n
    ·simp_all
    ·refine m x e ?_;grind
   ·rcases Zk.mp d with rfl | d
    ·simp_all
    ·exact j y d f
  ·obtain⟨cl,t,o,m,j⟩:=lW b l acc (λy d=>g y (Zw _ d)) i;refine⟨cl,?_,o,m,λy d f=>?_⟩
   ·simp_all
   ·rcases Zk.mp d with rfl | d
    ·exact absurd f p
    ·exact j y d f
def wx{b:Scope}{a:Env}(d:∀y∈b.names,y.2=.free->∃c,a.cells.lookup y.1=Z c) :
  ∃cl,closureFor b a=pure cl/\(∀x c,cl.lookup x=Z c->a.cells.lookup x=Z c)/\∀y∈b.names,y.2=.free->∃c,cl.lookup y.1=Z c:=by
 obtain⟨cl,g,f,_,e⟩:=lW a b.names [] d (λx c h=>nomatch h);refine⟨cl,?_,f,e⟩;simp only[closureFor];rw[g];rfl
def cK{l:List (Str×NameKind)}(h:l.lookup x=Z k):(x,k)∈l:=by
 induction l with
 |nil=>cases h
 |cons p l a =>
  grind
theorem dM{a:Env}:∀{l:List (Str×NameKind)},(l.map λ(n,k)=>if (k==NameKind.free&&a.scope.kind == .function&&a.kindOf n==Z .cell) then (n,NameKind.cell) else (n,k)).lookup x=Z k →
  ∃d,l.lookup x=Z d/\(k=d\/(d=.free/\k=.cell))
 |[],h=>nomatch h
 | (n,e) :: l,h=>by
  rw[Zj,Y9]at h;by_cases f:(e==NameKind.free&&a.scope.kind == .function&&a.kindOf n==Z .cell)=O
  ·simp only[f,if_true]at h;rw[Y9];cases b:x==n with
   |true =>
    simp_all
   |false=>rw[b]at h;exact dM h
  ·simp only[f,if_false,Bool.false_eq_true]at h;rw[Y9];cases b:x==n with
   |true=>rw[b]at h;exact⟨e,rfl,.inl (Zi h).symm⟩
   |false=>rw[b]at h;exact dM h
def bX(X:Cx)(N:List Str)(a:Scope)(d:List (Str×KM))(C:KM)(s:IR)(H:Hp)(b:Wg):Cx :=
 { X with N:=N,s₀:=s,H₀:=H,env:=compEnvC a d C X.env,outer:=X.stack,ex:=b,fn:=λ_=>false,pn:=[],xe:=λ_ _=>False }
def iZ(a:Env)(b:Scope):Bool:=b.kind == .function&&b.names.all λy=>match y.2 with
 |.cell=>R
 |.local=>b.names.lookup y.1==Z .local
 |.free=>a.kindOf y.1==Z .cell||a.kindOf y.1==Z .free
 |_=>O
noncomputable def lB(d:Scope):List Str->List Str->Bool
 |[],[]=>O
 |a :: e,b :: bs=>((a==b&&d.names.lookup a==Z .free)||d.names.lookup a==L||d.names.lookup a==Z .globalImplicit)&&lB d e bs
 |_,_=>R
theorem rm:∀{f bs:List Str},lB d f bs=O->f.length=bs.length/\∀(i:Nat)(x:Str),f[i]?=Z x->(bs[i]?=Z x/\d.names.lookup x=Z .free)\/d.names.lookup x=L\/d.names.lookup x=Z .globalImplicit
 |[],[],_=>⟨rfl,λi x h=>by simp at h⟩
 |a :: f,b :: bs,h=>by
  obtain⟨j,g⟩:=ZW.mp (h);obtain⟨l,r⟩:=rm g;refine⟨by simp[l],λi x e=>?_⟩;cases i with
  |zero =>
   grind
  |succ i=>simpa using r i x (by simpa using e)
 |[],_ :: _,h=>nomatch h
 |_ :: _,[],h=>nomatch h
section
variable{H:Hp}
def Inv.block{N:List Str}{Q:List (Str×KM)}{k:Nat}{q:SZ}{t:Nat}(I:Inv X pins J H s)(S:iZ X.env f=O)(Kn:lB f (N.drop k) X.N=O)(Ly:k<=N.length)(g:∀x c,Q.lookup x=Z c->X.env.cells.lookup x=Z c)(M0:∀y∈f.names,y.2=.free->∃c,Q.lookup y.1=Z c)(w:∀b∈P,jk X pins H b)(n:s.heap.objs.size<=D)(hC:s.heap.objs.size<=C)(Sd:D≠C)(Sa:C∉P)(a:∀b u,s.heap.get? b=Z u->q.get? b=Z u)(Oq:q.Ns C m)(M:q.get? D=Z { cls:=.type "list",data:=.seq ([]:Vz).toArray 0 }) :
  Inv (bX X N f Q C s H P) [] (List.replicate k L++J) (upd H D (.lst [])) { s with heap:=q,toks:=t }:=by
 unfold iZ at S;rw[Yn,ZF]at S;obtain⟨hk,JJ⟩:=S;have KQ:f.kind=.function:=by simpa using hk
 obtain⟨hlen,O5⟩:=rm Kn;have Mc:∀y∈f.names,y.2 ≠ .cell:=λy hy e=>by have:=JJ y hy;rw[e]at this;cases this
 refine⟨⟨I.mod,KQ,I.ok.glob,I.ok.blt,hC,λx y c e1 e2=>I.ok.inj x y c (g x c e1) (g y c e2),λx hx=>?_,λx c e=>(nomatch e),I.ok.hd,I.ok.frames,.inl Y,λb hb=>⟨λ(e:b=C)=>Sa (e ▸ hb),λx c e=>(w b hb).2.2.2.2.1 x c (g x c e)⟩,
  I.tb,I.bs,ZP I.ok.NC I.sz,λb o e hb=>?_,λb hb G=>?_,I.stack,I.K7⟩,rfl,I.bare,Un.laid a n (I.p0.fresh n),⟨m,Oq,λi x v e1 e2 e3=>?_⟩,λx c e=>?_,?_,λx c e=>?_,λp hp=>(nomatch hp),I.p0.laid a n ?_,?_⟩
 ·have h:∃d,(relabel f X.env).names.lookup x=Z d/\(d=.cell\/d=.free):=by
   rcases hx with e | e
   ·exact⟨_,e,.inl Y⟩
   ·exact⟨_,e,.inr Y⟩
  obtain⟨d,j,N0⟩:=h;exact M0 _ (cK ((λx d h MX=>by
  obtain⟨E,h0,F⟩:=dM h;rcases F with e | ⟨e,_⟩
  ·subst e;rcases MX with e | e
   ·subst e;exact absurd Y (Mc _ (cK h0))
   ·subst e;exact h0
  ·subst e;exact h0) x d j N0)) Y
 ·rcases (w b hb).2.2.2.1 with z | z
  ·exact I.ok.MN b o e z
  ·exact absurd (ZS (ZY e) (ZP I.ok.NC z)) (YR _)
 ·rcases Zk.mp (I.Km b G) with z | z
  ·exact(w b hb).2.1 z
  ·exact(w b hb).2.2.1 z
 ·
  have V4:k<=i:=by
   rcases Nat.lt_or_ge i k with z | z
   ·rw[Z8 (by simpa using z),YY]at e2;split at e2<;>cases e2
   ·exact z
  rw[Yt (by simpa using V4),YT]at e2;have B:f.names.lookup x=Z .free->∃d,(relabel f X.env).names.lookup x=Z d/\(d=.cell\/d=.free):=λh0=>by
   rcases e3 with z | z | z
   ·obtain⟨E,j,N0⟩:=dM z;grind
   ·exact⟨_,z,.inl Y⟩
   ·exact⟨_,z,.inr Y⟩
  rcases O5 _ x (by
   rw[List.getElem?_drop,show k+(i-k)=i by exact Nat.add_sub_of_le V4];exact e1) with⟨hX,h0⟩ | h0 | h0
  ·obtain⟨d,QX,QW⟩:=B h0;have NY:X.env.kindOf x=Z .cell\/X.env.kindOf x=Z .free:=by
    simpa using(JJ _ (cK h0))
   obtain⟨mX,hnX,TR⟩:=I.loc;obtain⟨u,r,l⟩:=TR _ x v hX e2 (NY.elim (λz=>.inr (.inl z)) λz=>.inr (.inr z));refine⟨u,r,.inr ⟨?_,?_⟩⟩
   ·rcases QW with z | z
    ·subst z;exact .inl QX
    ·subst z;exact .inr QX
   ·obtain⟨c,U⟩:=M0 _ (cK h0) Y;refine⟨c,U,?_⟩;rcases l with⟨z,_⟩ | ⟨_,c',KH,LW⟩
    ·simp_all
    ·have:=g x c U;rw[KH]at this;cases this;exact LW.keeps a
  ·rcases e3 with z | z | z<;>(obtain⟨E,A,_⟩:=dM z;rw[h0]at A;cases A)
  ·rcases e3 with z | z | z<;>(obtain⟨E,A,z2⟩:=dM z;simp_all)
 ·obtain⟨v,z⟩:=I.cell x c (g x c e);exact⟨v,z.keeps a⟩
 ·show upd H D (.lst []) C=L;rw[aD (Ye Sd)];exact(I.p0.fresh hC)
 ·obtain⟨v,z⟩:=I.cell x c (g x c e);rw[aD (Zh (ZS z.lt n))];exact I.JE x c (g x c e)
 ·exact⟨Yw _,[],0,.nil,M⟩
 ·rw[Zv,YT,I.len,← hlen,Z4];exact Nat.add_sub_of_le Ly
def yS(X:Cx)(a:List Expr)(t:TT):Prop :=
 ∀(pins:X7)(s:IR)(J:St)(H:Hp)(Q:Bool->Hp->Prop),Inv X pins J H s->t J H Q →
  PP (KB X.prog X.w) X.A (forIn a O λc r=>if r=O then (do let ok ← isTrue c X.env (eval c X.env);pure (ForInStep.yield ok)) else pure (ForInStep.yield r)) (TP X pins J Q) X.xe s
def oJ:yS X [] (λJ H Q=>Q O H):=λpins s J H Q I q=>Zo ⟨H,I,q⟩
def uc(h:PT X c t):yS X [c] t:=λpins s J H Q I q=>by
 rw[List.forIn_cons,Zn Y];refine Zx (Zx (thn (h pins s J H Q I q) λb s1 a=>Zo ?_));exact Zo a
section
variable{A:SB}{R:Result->IR->Prop}
def uo{s:IR}(I:Nat->IR->Prop)(f:∀n s,I n s->PP (KB prog w) A (pyNext t) (λr p=>match r with
   |none=>R (.ok .next) p
   |some v=>PP (KB prog w) A (letOwnedTupleGo a t v) (λ_ C=>PP (KB prog w) A (assign a d v) (λ_ B =>
     PP (KB prog w) A (forIn i O λc r=>if r=O then (do let ok ← isTrue c d (eval c d);pure (ForInStep.yield ok)) else pure (ForInStep.yield r)) (λok o =>
      if ok=O then PP (KB prog w) A (eval j d) (λx z =>
       PP (KB prog w) A (call (.builtin "list.append") [l,x]) (λ_ y=>∃m,m<n/\I m y) (λ_ _=>False) z) (λ_ _=>False) o
      else ∃m,m<n/\I m o) (λ_ _=>False) B) (λ_ _=>False) C) (λ_ _=>False) p) (λ_ _=>False) s)(n:Nat)(h:I n s) :
  codeAny (KB prog w) A (.compLoop (.ListComp j [⟨a,g,i,0⟩] e q) 0 t l d) R s:=by
 refine codeAny_loop Y I (λn s M=>?_) n h;refine wpAny_noted ?_;rw[compTurn_list];refine Zx (wpAny_standAt (Zx (YX (f n s M) (λr p D=>?_) λ_ _ b=>b.elim)));cases r with
 |none=>exact Zo D
 |some v =>
  refine Zx (YX D (λ_ C h₀=>?_) λ_ _ b=>b.elim);refine Zx (YX h₀ (λ_ B G=>Zx (YX G (λok o u=>?_) λ_ _ b=>b.elim)) λ_ _ b=>b.elim);cases ok with
  |false=>exact Zo ⟨rfl,u⟩
  |true =>
   rw[Zn Y]at u;exact Zx (Zx (YX u (λx z F=>Zx (YX F (λ_ y E=>Zo (Zo ⟨rfl,E⟩)) λ_ _ b=>b.elim)) λ_ _ b=>b.elim))
end
def wo(k:Nat)(q:TI)(g:TG)(t:TT)(r:TE)(J:St)(H:Hp)(Q:VK):Prop:=q J H λh p=>∀D,p D=L->∃W:Nat->Nat->St->Hp->Prop,
 (∃m,W 0 m (List.replicate k L++J) (upd p D (.lst [])))/\∀i m j d,W i m j d->(h.stop i d/\Q (.ref D) d)\/(h.go i d/\∀x o,h.RK i d x o->g x j o λe u=>t e u λb n =>
  if b=O then r e n λy l=>∃f,l D=Z (.lst f)/\f.length<KF/\∃a,a<m/\W (i+1) a e (upd l D (.lst (f++[y]))) else ∃a,a<m/\W (i+1) a e n)
def pQ{X:Cx}{N:List Str}(Jg:X.calm=O)(hi:PI X tg a wi)(JO:iZ X.env B=O)(Kn:lB B (N.drop k) X.N=O)(Ly:k<=N.length)(JY:∀cl C s H fp,PG (bX X N B cl C s H fp) tg g/\yS (bX X N B cl C s H fp) F tc/\PE (bX X N B cl C s H fp) M te)(hs:∀x,XAA a X.env x=pure x)(I:Inv X pins J H s)(h:wo k wi g tc te J H Q)(hq:∀s' f D C m,Inv X pins J f s'->Q (.ref D) f->s'.heap.Ns C m->jk X pins f C->compPost (KB X.prog X.w) X.A X.xe E QQ (.ref D) C (.ok .next) s') :
  PP (KB X.prog X.w) X.A (comprehension (.ListComp M [⟨tg,a,F,0⟩] B pos) B X.env pos' (newList []) R (eval a X.env) E) QQ X.xe s:=by
 have Kf:=JO;unfold iZ at Kf;rw[Yn,ZF]at Kf;obtain⟨hk,JJ⟩:=Kf;have KQ:B.kind=.function:=by simpa using hk
 obtain⟨cl,MZ,KR,M0⟩:=wx λy G e=>I.ok.has y.1 (by
  have:=JJ y G
  simp_all)
 refine wpAny_comprehension_free rfl hs MZ KQ (λy G e=>by
  have:=JJ y G
  simp_all) (thn (hi pins s J H _ I h) λv s1 h1=>thn h1 λTq j h2=>?_)
 refine L2.ak λP_ k_=>?_;obtain⟨it,fp,tn,Jq,H2,e,I2,T,RR,f2,hW⟩:=h2;subst e;refine k_ ?_;refine YJ (wpAny_newFunctionEnv (λy G e=>by have:=JJ y G;rw[e]at this;cases this) (by intro y G;simp at G) (λh₁ MV LR=>?_) KQ);generalize hP:j.heap.push { cls:=.type "list",dict:=L,data:=.seq ([]).toArray }=P at MV LR ⊢;have hCs:P.objs.size=j.heap.objs.size+1:=by rw[← hP,Yk]
 have old:=λb o e =>
  LR.extBut b o (by rw[hCs];exact Zh (Ys (ZY e))) (Zp _ (hP ▸ Zp _ e))
 have Sd:j.heap.objs.size≠P.objs.size:=by simp_all
 have O7:j.heap.objs.size<=P.objs.size:=by rw[hCs];exact YQ _
 have Ol:=λb hb=>let ⟨o,ho,_⟩:=T.obj 0 _ RR b hb;ZY ho
 have Sa:P.objs.size∉fp:=λhb=>absurd (ZS (Ol _ hb) O7) (YR _);have IY:=I2.block (N:=N) (k:=k) (t:=j.toks+([]:List (Str×On)).length) JO Kn Ly KR M0 f2 (Zm _) O7 Sd Sa old MV (LR.extBut _ _ Sd (Zp _ (hP ▸ Zg _ rfl)));obtain⟨hG,hT,hE⟩:=JY cl P.objs.size j H2 fp;generalize hY:bX X N B cl P.objs.size j H2 fp=Y at IY hG hT hE;have hYm:Y.prog=X.prog/\Y.w=X.w/\Y.K=X.K/\Y.A=X.A/\Y.env=compEnvC B cl P.objs.size X.env/\Y.calm=X.calm/\(Y.xe=λ_ _=>False):=by rw[← hY];exact⟨rfl,rfl,rfl,rfl,rfl,rfl,rfl⟩
 refine L2.ak λP_ k_=>?_;obtain⟨y1,U,y3,S,y5,y6,y7⟩:=hYm;have LN:∀{f:Hp},(∀b∈fp,f b=L)->∀b∈fp,jk Y [] f b:=λ{f} hn b hb=>by
  rw[← hY];refine⟨hn b hb,λ(e:b=P.objs.size)=>Sa (e ▸ hb),λhb'=>?_,.inl hb,λx c e=>(f2 b hb).2.2.2.2.1 x c (KR x c e),λp hp=>(nomatch hp)⟩;rcases Zk.mp (I2.Km b hb') with z | z
  ·exact(f2 b hb).2.1 z
  ·exact(f2 b hb).2.2.1 z
 obtain⟨W,⟨m0,w0⟩,turn⟩:=hW j.heap.objs.size (I2.p0.fresh (Zm _));refine k_ ?_;have Oe:=T.keep _ _ _ RR λb _ o e=>old b o e;have loop:codeAny (KB X.prog X.w) X.A (.compLoop (.ListComp M [⟨tg,a,F,0⟩] B pos) 0 (.ref it) (.ref j.heap.objs.size) (compEnvC B cl P.objs.size X.env)) (compPost (KB X.prog X.w) X.A X.xe E QQ (.ref j.heap.objs.size) P.objs.size)
   { j with heap:=h₁,toks:=j.toks+([]:List (Str×On)).length }:=by
  refine uo (λn s'=>∃i J' f,Inv Y [] J' f s'/\tn i s'.heap/\(∀b∈fp,f b=L)/\W i n J' f) ?_ m0 ⟨0,_,_,IY,Oe,(λb hb=>by rw[aD (Zh (Ol b hb))];exact(f2 b hb).1),w0⟩;rintro n s3 ⟨i,J3,H3,I3,Oe,Rj,w3⟩;rcases turn i n J3 H3 w3 with⟨stop,qn⟩ | ⟨go,step⟩
  ·have q:=T.done Y y1 U y3 (y6.trans Jg) i [] s3 J3 H3 (λ_ _=>False) I3 (LN Rj) Oe stop;rw[S]at q;refine thn q λr s4 l=>?_;obtain⟨hr,I4⟩:=l;subst hr;obtain⟨mC,V0,_⟩:=I4.loc;have f4:=I4.free;rw[y5]at V0 f4;exact hq s4 H3 _ P.objs.size mC (by
    have b4:=I4.base;have o4:=I4.os;have k4:=I4.p0;rw[← hY]at b4 o4 k4;refine I2.Ry (ch:=fp) o4 b4 k4 I4.bare λb hb=>?_;exact⟨(f2 b hb).2.2.2.1,(f2 b hb).2.1,(f2 b hb).2.2.2.2.1,(f2 b hb).2.2.2.2.2⟩) qn V0 (I2.LX O7 f4)
  ·have q:=T.item Y y1 U y3 (y6.trans Jg) i [] s3 J3 H3 (λ_ _=>False) I3 (LN Rj) Oe go;rw[S]at q;refine thn q λr s4 l=>?_;obtain⟨u,hr,h4⟩:=l;subst hr;refine thn h4 λ_ s5 l=>?_;obtain⟨x,H5,I5,r5,yl5,OG,Ug⟩:=l;have again:∀{J7:St}{H7:Hp}{s7:IR}{m:Nat},Inv Y ([]++ot fp s5.heap) J7 H7 s7->W (i+1) m J7 H7->∃i J' f,Inv Y [] J' f s7/\tn i s7.heap/\(∀b∈fp,f b=L)/\W i m J' f:=λ{J7 H7 s7 m} I7 w7=>by
    refine⟨i+1,J7,H7,I7.JV,T.keep _ _ _ OG λb hb o e=>(I7.pin (b,o) (ZE _ (ZE _ (iG hb e)))).1,λb hb=>?_,w7⟩;obtain⟨o,e,d⟩:=T.obj _ _ OG b hb;exact(I7.pin (b,o) (ZE _ (ZE _ (iG hb e)))).2.1
   have qa:=hG _ s5 J3 H5 x u _ (I5.pinned (LN Ug) (T.obj _ _ OG)) r5 (step x H5 yl5);rw[y1,U,S,y5,y7]at qa;refine thn qa λ_ s6 l=>?_;obtain⟨J6,H6,I6,q6⟩:=l;have qt:=hT _ s6 J6 H6 _ I6 q6;rw[y1,U,S,y5,y7]at qt;refine thn qt λb s7 l=>?_;obtain⟨H7,I7,q7⟩:=l;cases b with
   |false =>
    rw[Zl Zc]at q7 ⊢;obtain⟨m',hm,w7⟩:=q7;exact⟨m',hm,again I7 w7⟩
   |true =>
    rw[Zn rfl]at q7 ⊢;have qe:=hE _ s7 J6 H7 _ I7 q7;rw[y1,U,S,y5,y7]at qe;refine thn qe λyv s8 l=>?_;obtain⟨y,H8,I8,r8,ys,hD8,hl8,m',hm,w8⟩:=l;have qp:=iz (X:=Y) _ s8 J6 H8 (.ref j.heap.objs.size) [y] (.ref j.heap.objs.size) [yv] (λ_ H9=>W (i+1) m' J6 H9) I8 rfl (.cons r8 .nil) ⟨_,ys,y,rfl,rfl,hD8,hl8,w8⟩;rw[y1,U,S,y7]at qp;refine thn qp λ_ s9 l=>?_;obtain⟨_,H9,I9,_,w9⟩:=l;exact⟨m',hm,again I9 w9⟩
 exact codeAny_compStart_list loop (T.self _ 0 _ _ _ Oe loop)
def rH{X:Cx}{N:List Str}(B:X.calm=O)(w:PI X l a p)(F:iZ X.env d=O)(A:lB d (N.drop k) X.N=O)(y:k<=N.length)(E:∀cl C s H fp,PG (bX X N d cl C s H fp) l g/\yS (bX X N d cl C s H fp) i t/\PE (bX X N d cl C s H fp) j r)(u:{`q3,∀x,XAA a X.env x=pure x}):PE X (.ListComp j [⟨l,a,i,0⟩] d n) (wo k p g t r):=by
 intro pins s J H Q I h;rw[eval_ListComp];refine pQ B w F A y E u I h λP M D C m G q v f=>⟨m,v,λS z=>?_⟩
 exact⟨.ref D,M,G.turned (λb o hb e=>z.extBut b o hb e) f.1 f.2.1 f.2.2.2.1 f.2.2.2.2.1 f.2.2.2.2.2,rfl,q⟩
def o7{X:Cx}{A:Pos}{N:List Str}(hN:X.N.Nodup)(QZ:X.N[i]?=Z x)(E:Loc X.env.scope x)(Jg:X.calm=O)(P:PI X t d u)(JO:iZ X.env l=O)(Kn:lB l (N.drop k) X.N=O)(Ly:k<=N.length)(JY:∀cl C s H fp,PG (bX X N l cl C s H fp) t g/\yS (bX X N l cl C s H fp) n y/\PE (bX X N l cl C s H fp) p w)(K8:swapsWith (.ListComp p [⟨t,d,n,0⟩] l r) (Z (.Name x j)) A.line X.env=pure O)(Q:X.fn x=O\/X.env.scope.names.lookup x=Z .local)(F:{`q3,∀x,XAA d X.env x=pure x}) :
  PS X (.Assign [.Name x j] (.ListComp p [⟨t,d,n,0⟩] l r) A) (λD J H=>wo k u g y w J H λv H1=>D.nx (J.set i (Z v)) H1):=by
 intro pins s J H D I h;rw[exec_Assign_Name_used _ _ _ _ K8];refine Zx (wpAny_standAt (Zx ?_));refine Zx (YX (pQ Jg P JO Kn Ly JY F I h λB H' D' C m I' q M f=>?_) (λ_ B G=>Zo (Zo G)) λ_ _ e=>e);refine wpAny_assign_Name (pV I' hN QZ E (v:=.ref D') Y (λs2 I2 U=>?_) Q);obtain⟨a,R5,S⟩:=U;refine⟨m,M.sameBut R5 (λe=>by
  rcases S with z | z
  ·exact f.2.1 (e.trans z)
  ·exact f.2.2.2.2.1 x a z e.symm),λh' Ku=>⟨_,H',?_,q⟩⟩
 exact I2.turned (λb o hb e=>Ku.extBut b o hb e) f.1 f.2.1 f.2.2.2.1 f.2.2.2.2.1 f.2.2.2.2.2
end
end L2
end
section
namespace VS
open PySem PySem.Spec PyProof.Rows L2
noncomputable def uU(k:Nat)(g:Tg):Prop:=∀t U a,g t U=Z a->a.length=U.length/\∀i,k<=i->a[i]?=U[i]?
def cF(h:{`q1,i<k}):uU k (aS i):=λt U b e=>by
 unfold aS at e;split at e
 ·cases e;exact⟨by simp,λj a=>by rw[YN (by lia)]⟩
 ·cases e
theorem vy:∀(l:Vr){i:Nat}{t:T},iN l=O->l[i]?=Z t->IS t=O
 |[],_,_,_,h=>by simp at h
 |x :: l,0,t,h,e=>by
  simp at e;rw[← e];exact(ZW.mp h).1
 |x :: l,i+1,t,h,e=>by
  exact vy l (ZW.mp h).2 (by simpa using e)
def tC(G:Gx):Option Ex->TT
 |none=>λJ H Q=>Q O H
 |some c=>tT G c
section
variable{H:Hp}
def lC:(List.replicate k L++U)[i]?=Z (Z c)↔k<=i/\U[i-k]?=Z (Z c):=by
 rcases Nat.lt_or_ge i k with h | h
 ·rw[Z8 (by simpa using h),YY];grind
 ·rw[Yt (by simpa using h),YT]
  simp_all
def yG:cT (λi=>M (i-k)) (List.replicate k L++U) a↔cT M U a:=by
 constructor
 ·rintro⟨j,t,d,b⟩;exact⟨j-k,t,(lC.mp d).2,b⟩
 ·rintro⟨j,t,d,b⟩;refine⟨j+k,t,lC.mpr ⟨Nat.le_add_left _ _,by simp_all⟩,?_⟩
  simp_all
def Aw:fg (λi=>M (i-k)) (List.replicate k L++U) a↔fg M U a:=by
 constructor
 ·rintro⟨j,t,d,b⟩;exact⟨j-k,t,(lC.mp d).2,b⟩
 ·rintro⟨j,t,d,b⟩;refine⟨j+k,t,lC.mpr ⟨Nat.le_add_left _ _,by simp_all⟩,?_⟩
  simp_all
def SR.sh(s:SR G M U J H):SR G (λi=>M (i-k)) (List.replicate k L++U) (List.replicate k L++J) H:=by
 refine⟨by simp[s.len],λi c h=>?_,λi t h=>?_,λi j t c b a n=>?_⟩
 ·obtain⟨b,a⟩:=lC.mp h;obtain⟨v,e,d⟩:=s.rp _ c a;refine⟨v,?_,d⟩;rw[Yt (by simpa using b),YT];exact e
 ·exact s.nd _ t (lC.mp h).2
 ·obtain⟨m,g⟩:=lC.mp b;obtain⟨l,f⟩:=lC.mp a;exact s.sep _ _ t c g f (by lia)
def SR.less{U:VS.Env}(s:SR G M a J H)(b:U.length=a.length)(h:∀(i:Nat) c,U[i]?=Z (Z c)->a[i]?=Z (Z c)):SR G M U J H :=
 ⟨b.trans s.len,λi c e=>s.rp i c (h i c e),λi t e=>s.nd i t (h i _ e),λi j t c e1 e2 n=>s.sep i j t c (h i _ e1) (h j _ e2) n⟩
def SR.off(s:SR G M U J H)(m:IU (H D)\/H D=L)(d:¬fg M U D)(a:¬cT M U D):SR G M U J (upd H D o):=by
 refine⟨s.len,λi c e=>?_,s.nd,s.sep⟩;obtain⟨v,h,g⟩:=s.rp i c e;refine⟨v,h,g.keep (Kept.upd m) λb hb j f=>?_⟩;rw[aD λz=>?_]
 ·exact f
 ·subst z;cases c with
  |pu t=>exact d ⟨i,t,e,hb⟩
  |ow t=>exact a ⟨i,t,e,hb⟩
theorem n4:∀(l:Vt)(v:Val),c6 (l++[v])=(c6 l).join v.1
 |[],(m,t)=>by cases m<;>rfl
 | (m,t) :: l,v=>by
  show m.join (c6 (l++[v]))=(m.join (c6 l)).join v.1;rw[n4 l v];generalize c6 l=q;generalize v.1=r;cases m<;>cases q<;>cases r<;>rfl
def Fp.QK(f:Fp M U H m F)(g:Fp M U H n j)(d:n=.fr->∀a∈F,a∉j):Fp M U H (m.join n) (F++j):=by
 have both:∀{P:KM->Prop},(∀a∈F,P a)->(∀a∈j,P a)->∀a∈F++j,P a:=λp q a h=>(ZU.mp h).elim (p a) (q a);cases m<;>cases n
 ·exact⟨ZR.mpr ⟨f.1,g.1,λa i b hb e=>d Y a i (e ▸ hb)⟩,both f.2 g.2⟩
 ·exact both (λa i=>.inl (f.2 a i)) g
 ·exact both (λa i=>.inl (f.2 a i)) g
 ·exact both f λa i=>.inl (g.2 a i)
 ·exact both f g
 ·exact both (λa i=>(f a i).imp id .inl) g
 ·exact both f λa i=>.inl (g.2 a i)
 ·exact both f λa i=>(g a i).imp id .inl
 ·exact both f g
def Fp.Rw(f:Fp M U H m F)(h:H D=L)(d:D∉F):Fp M U H m (D :: F):=by
 have all:∀{P:KM->Prop},P D->(∀a∈F,P a)->∀a∈D :: F,P a:=λp q a b=>(Zk.mp b).elim (λe=>e ▸ p) (q a);cases m
 ·exact⟨Zf.mpr ⟨d,f.1⟩,all h f.2⟩
 ·exact all (.inl h) f
 ·exact all (.inl h) f
end
section
def CI(G:Gx)(M:IQ)(U b:VS.Env)(H p:Hp)(D:KM)(l:Vr)(h:Vt)(q:Tg)(d:Option Ex)(r:Ex)(i n:Nat)(s:L2.St)(f:Hp):Prop:=n=l.length-i/\∃e g j m rest,SR G e b s f/\(∀a,cT e b a->cT M U a)/\(∀a,fg e b a->H a=L\/fg M U a)/\¬fg e b D/\¬cT e b D/\Kept p f ∧
     (∀a o,a≠D->p a=Z o->f a=Z o)/\f D=Z (.lst m)/\RpL G f m (trees g) j/\D∉j.flatten/\Fp M U H (c6 g) j.flatten/\jV q d r b (l.drop i)=Z rest/\g++rest=h
def kW{G:Gx}{k:Nat}{tg:Tg}{ci:LF}{cond:Option Ex}{ce:Ex}{J:L2.St}{H:Hp}{Q:VK}(JY:uU k tg)(h:tE G (bU k tg ci cond ce) J H Q):wo k (tI G ci) (tG G tg) (tC G cond) (tE G ce) J H Q:=by
 refine L2.ak λP_ A=>?_;obtain⟨M,U,m,r,s,e,kq⟩:=h;obtain⟨⟨mi,l⟩,el,e1⟩:=Zz.mp e;dsimp only at e1;split at e1
 ·rename_i p0;obtain⟨all,ea,e2⟩:=Zz.mp e1;unfold Lu at e2;split at e2
  ·rename_i hlen;cases e2;refine A ?_;refine⟨M,U,mi,l,s,el,λJq H1 C e3 ok fc D hD=>?_⟩;have PB:=e3.free hD;let E:VS.Env:=List.replicate k L++U
   have good:∀{t:T}{i:Nat}{p H2:Hp}{v:V}{F:Wg},l[i]?=Z t->Rp G H2 v t F->(∀a,H1 a≠L->p a≠L)->(∀a∈F,a∈C\/p a=L)->∀a∈F,(H a=L\/fg M U a)/\¬cT M U a:=λ{t i p H2 v F} hi rF keep hF a d=>by
    have Jh:∀{b},H b≠L->p b≠L:=λ{b} hb=>keep b λz=>hb (e3.free z);rcases hF a d with z | z
    ·rcases fc a z with q | q | ⟨q,w⟩
     ·exact⟨.inl q,λw=>IU.pe (s.Ka w) q⟩
     ·exact⟨.inr q,λw=>s.ML w q⟩
     ·subst q;have:IS t=O:=by
       exact vy l p0 hi
      rw[rF.IS this]at d;simp at d
    ·have hz:=Ww λq=>Jh q z;exact⟨.inl hz,λw=>IU.pe (s.Ka w) hz⟩
   refine⟨CI G M U E H H1 D l all tg cond ce,?_,?_⟩
   ·refine⟨l.length-0,rfl,λi=>M (i-k),[],[],[],all,?_,λa h=>yG.mp h,λa h=>.inr (Aw.mp h),λh=>?_,λh=>?_,Kept.upd (.inr hD),λa o n h=>by rw[aD n];exact h,ay,.nil,by simp,Fp.nil,by rw[List.drop_zero];exact ea,rfl⟩
    ·exact((s.same e3).sh).off (.inr hD) (λh=>IU.pe (s.MK (Aw.mp h)) PB) λh=>IU.pe (s.Ka (yG.mp h)) PB
    ·exact IU.pe (s.MK (Aw.mp h)) PB
    ·exact IU.pe (s.Ka (yG.mp h)) PB
   ·intro i n J' p hh_;refine L2.ak λP_ A=>?_;obtain⟨rfl,M1,X,Fs,xs,rest,s1,Vq,pu1,np1,no1,kp,old,Rh,rp,nD,fp,er,ev⟩:=hh_;refine A ?_;have L9:∀a,H1 a≠L->p a≠L:=λa d z=>by
     by_cases q:a=D
     ·grind
     ·cases e:H1 a with
      |none=>exact d e
      |some o=>rw[old a o q e]at z;cases z
    refine L2.ak λP_ A=>?_;obtain⟨go,stop⟩:=ok.run p kp λa d o ho=>old a o (λz=>ok.Jh a d (z ▸ hD)) ho;cases hit:l[i]? with
    |none =>
     have hl:=YE.mp hit;refine A ?_;left;refine⟨stop i hl,?_⟩;rw[Wc hl]at er;cases (er);rw[ZQ]at ev;subst ev;refine kq (.ref D) p (D :: Fs.flatten) (λa o h=>old a o (λz=>by rw[z,PB]at h;cases h) (e3 a o h)) (.lst Rh rp) ?_;by_cases hi:iN (trees X)=O
     ·rw[Zn hi,rp.IS hi];exact⟨by simp,λa d=>by simp_all⟩
     ·rw[Zl hi];exact fp.Rw PB nD
    |some t =>
     have hl:=(ZT.mp hit).1;obtain⟨g1,y1⟩:=go i t hit;refine A ?_;right;refine⟨g1,λx H2 yl=>?_⟩;refine L2.ak λP_ A=>?_;obtain⟨g,F,rF,hF⟩:=y1 x H2 yl;rw[qj (tgt:=tg) (body:=d8) (U:=U) hit]at er;rw[jV]at er;obtain⟨U3,e4,e5⟩:=Zz.mp er;obtain⟨b,eb,e6⟩:=Zz.mp e5;have gd:=good hit rF L9 hF;refine A ?_;refine⟨M1,E,t,F,U3,(s1.same g),rF,λa d z=>(gd a d).2 (Vq a z),e4,λN J3 s3 o3 p3=>?_⟩;obtain⟨tl,P5⟩:=JY t E U3 e4;have low:∀j c,E[j]?=Z (Z c)->U3[j]?=Z (Z c):=λj c h=>by rw[P5 j (lC.mp h).1];exact h
     have RV:=λa h=>(p3 a h).elim (pu1 a) λh=>(gd a h).1;have SN:=λa h=>Vq a (o3 a h);have QD:=λh=>(p3 D h).elim np1 (λh=>by
      rcases hF D h with z | z
      ·exact ok.Jh D z hD
      ·rw[Rh]at z;cases z)
     have RY:=λh=>no1 (o3 D h);have RU:∀a,fg N E a->fg N U3 a:=λa ⟨j,u,h1,h2⟩=>⟨j,u,low j _ h1,h2⟩
     have RW:∀a,cT N E a->cT N U3 a:=λa ⟨j,u,h1,h2⟩=>⟨j,u,low j _ h1,h2⟩
     have Og:∀S,aI H2 S->(if b=O then tE G ce J3 S λy P=>∃ys,P D=Z (.lst ys)/\ys.length<KF/\∃m',m'<l.length-i/\CI G M U E H H1 D l all tg cond ce (i+1) m' J3 (upd P D (.lst (ys++[y]))) else ∃m',m'<l.length-i/\CI G M U E H H1 D l all tg cond ce (i+1) m' J3 S):=λS f=>by
      have eo:∀{P},aI S P->∀a o,p a=Z o->P a=Z o:=λ{P} PJ a o h=>PJ a o (f a o (g a o h));cases b with
      |false =>
       rw[Zl Zc]at e6 ⊢;have same:=eo (aI.refl S);exact⟨_,by lia,rfl,N,X,Fs,xs,rest,(s3.same f).less (by rw[tl]) low,λa h=>SN a (RW a h),λa h=>RV a (RU a h),λh=>QD (RU D h),λh=>RY (RW D h),kp.trans ((Kept.of g).trans (Kept.of f)),λa o n h=>same a o (old a o n h),same D _ Rh,rp.same (aI.trans g f),nD,fp,e6,ev⟩
      |true =>
       rw[Zn Y]at e6 ⊢;obtain⟨⟨mv,tv⟩,ece,e7⟩:=Zz.mp e6;obtain⟨Qy,er1,e7'⟩:=Zt.mp e7;refine⟨N,U3,mv,tv,s3.same f,ece,λy P Fy PJ ry B=>?_⟩;have same:=eo PJ;have hD5:=same D _ Rh;have R1:IU (P D):=by rw[hD5];exact True.intro
       have Ud:=f D _ (g D _ Rh);have MM:=λa h=>Ww λq=>L9 a (λz=>q (e3.free z)) (g.free (f.free h));have DFy:=λh=>by
        cases mv with
        |fr=>have:=B.2 D h;rw[Ud]at this;cases this
        |pu=>exact(B D h).elim (λz=>by rw[Ud]at z;cases z) QD
        |bo=>exact(B D h).elim (λz=>by rw[Ud]at z;cases z) λz=>z.elim QD RY
       have lenx:xs.length=X.length:=by rw[rp.len.1];simp
       have lenv:X.length<all.length:=by rw[← ev,← e7'];simp
       refine⟨xs,hD5,?_,_,by lia,rfl,N,X++[(mv,tv)],Fs++[Fy],xs++[y],Qy,(((s3.same f).same PJ).off (.inl R1) QD RY).less (by rw[tl]) low,λa h=>SN a (RW a h),λa h=>RV a (RU a h),λh=>QD (RU D h),λh=>RY (RW D h),?_,λa o n h=>?_,ay,?_,?_,?_,er1,?_⟩
       ·have V2:all.length<=fN:=by simpa using hlen
        have:KF=fN:=rfl;lia
       ·exact(kp.trans ((Kept.of g).trans ((Kept.of f).trans (Kept.of PJ)))).trans (Kept.upd (.inl R1))
       ·rw[aD n];exact same a o (old a o n h)
       ·have:trees (X++[(mv,tv)])=trees X++[tv]:=by simp
        rw[this];exact((rp.same ((g.trans f).trans PJ)).off R1 nD).append (.cons (ry.keep (Kept.upd (.inl R1)) λb hb o ho=>by rw[aD (λz=>DFy (by rw[← z];exact hb))];exact ho) .nil)
       ·grind
       ·rw[Ym,n4];have:([Fy]).flatten=Fy:=by simp
        rw[this];refine fp.QK (by
        cases mv with
        |fr=>exact⟨B.1,λa d=>MM a (B.2 a d)⟩
        |pu=>exact λa d=>(B a d).elim (λz=>.inl (MM a z)) (RV a)
        |bo=>exact λa d=>(B a d).elim (λz=>.inl (MM a z)) λz=>z.elim (λz=>(RV a z).imp id .inl) λz=>.inr (.inr (SN a z))) λhm a d hb=>?_
        subst hm;have:=(rp.same (g.trans f)).Jh a d;rw[(B.2 a hb)]at this;exact this
       simp_all
     cases cond with
     |none =>
      cases (eb);exact Og H2 (aI.refl H2)
     |some c =>
      obtain⟨⟨mc,xc⟩,ec1,Pb⟩:=Zz.mp eb;exact⟨N,U3,mc,xc,b,s3,ec1,Pb,λS f=>Og S f⟩
  ·cases e2
 ·cases e1
end
section
def fZ{X:Cx}(k:Nat)(N:List Str)(j:X.calm=O)(b:PVI G X tg iter ci)(l:uU k g)(d:∀cl C s H fp,N7 G (bX X N sc cl C s H fp) tg g)(he:∀cl C s H fp,PV G (bX X N sc cl C s H fp) elt ce)(m:{`q2,iZ X.env sc=O})(f:{`q2,lB sc (N.drop k) X.N=O})(e:{`q1,k<=N.length})(a:{`q3,∀x,XAA iter X.env x=pure x}) :
  PV G X (.ListComp elt [⟨tg,iter,[],0⟩] sc pos) (bU k g ci L ce) :=
 PE.weak (rH j b m f e (λcl C s H fp=>⟨d cl C s H fp,oJ,he cl C s H fp⟩) a) λJ H Q h=>kW l h
def xW{X:Cx}(k:Nat)(N:List Str)(l:X.calm=O)(b:PVI G X tg iter ci)(m:uU k g)(d:∀cl C s H fp,N7 G (bX X N sc cl C s H fp) tg g)(e:∀cl C s H fp,KU G (bX X N sc cl C s H fp) c cc)(he:∀cl C s H fp,PV G (bX X N sc cl C s H fp) elt ce)(n:{`q2,iZ X.env sc=O})(j:{`q2,lB sc (N.drop k) X.N=O})(f:{`q1,k<=N.length})(a:{`q3,∀x,XAA iter X.env x=pure x}) :
  PV G X (.ListComp elt [⟨tg,iter,[c],0⟩] sc pos) (bU k g ci (Z cc) ce) :=
 PE.weak (rH l b n j f (λcl C s H fp=>⟨d cl C s H fp,uc (e cl C s H fp),he cl C s H fp⟩) a) λJ H Q h=>kW m h
def DI(h:tS G (jt i a) D J H):tE G a J H λv p=>D.nx (J.set i (Z v)) p:=by
 refine L2.ak λr j=>?_;obtain⟨M,U,o,s,e,k⟩:=h;obtain⟨⟨m,t⟩,n,e1⟩:=Zz.mp e;obtain⟨c,eC,e2⟩:=Zz.mp e1;refine j ?_;split at e2
 ·rename_i hl;cases e2;refine⟨M,U,m,t,s,n,λv q F e3 b l=>?_⟩;obtain⟨f,d⟩:=s.val (c:=c) hl e3 b l (by
   unfold cellOf at eC;grind)
  exact k _ _ q f d
 ·cases e2
def nX(h:tS G (aC i a) D J H):tE G a J H λv p=>D.nx (J.set i (Z v)) p:=by
 refine L2.ak λr j=>?_;obtain⟨M,U,o,s,e,k⟩:=h;obtain⟨⟨m,t⟩,n,e1⟩:=Zz.mp e;refine j ?_;split at e1
 ·cases e1
 ·rename_i hm;split at e1
  ·rename_i hl;cases e1;refine⟨M,U,m,t,s,n,λv q F e3 b l=>?_⟩;obtain⟨f,d⟩:=s.val hl e3 b l (.inl ⟨rfl,hm⟩);exact k _ _ q f d
  ·cases e1
def tM{X:Cx}{LO:Pos}(k:Nat)(N:List Str)(l:∀D J H,tS G a D J H->tE G (bU k g ci L ce) J H λv w=>D.nx (J.set i (Z v)) w)(r:X.calm=O)(e:PVI G X tg iter ci)(t:uU k g)(f:∀cl C s H fp,N7 G (bX X N sc cl C s H fp) tg g)(he:∀cl C s H fp,PV G (bX X N sc cl C s H fp) elt ce)(m:X.N.Nodup)(n:{`q2,X.N[i]?=Z x})(b:{`q6,Loc X.env.scope x})(u:{`q2,iZ X.env sc=O})(p:{`q2,lB sc (N.drop k) X.N=O})(o:{`q1,k<=N.length})(q:{`q2,swapsWith (.ListComp elt [⟨tg,iter,[],0⟩] sc pos) (Z (.Name x pos')) LO.line X.env=pure O})(j:{`q7,X.fn x=O\/X.env.scope.names.lookup x=Z .local})(d:{`q3,∀x,XAA iter X.env x=pure x}) :
  PSV G X (.Assign [.Name x pos'] (.ListComp elt [⟨tg,iter,[],0⟩] sc pos) LO) a :=
 PS.weak (o7 m n b r e u p o (λcl C s H fp=>⟨f cl C s H fp,oJ,he cl C s H fp⟩) q j d) λD J H h=>kW t (l D J H h)
def jY{X:Cx}{LO:Pos}(k:Nat)(N:List Str)(m:∀D J H,tS G a D J H->tE G (bU k g ci (Z cc) ce) J H λv y=>D.nx (J.set i (Z v)) y)(t:X.calm=O)(e:PVI G X tg iter ci)(u:uU k g)(f:∀cl C s H fp,N7 G (bX X N sc cl C s H fp) tg g)(l:∀cl C s H fp,KU G (bX X N sc cl C s H fp) c cc)(he:∀cl C s H fp,PV G (bX X N sc cl C s H fp) elt ce)(n:X.N.Nodup)(o:{`q2,X.N[i]?=Z x})(b:{`q6,Loc X.env.scope x})(w:{`q2,iZ X.env sc=O})(q:{`q2,lB sc (N.drop k) X.N=O})(p:{`q1,k<=N.length})(r:{`q2,swapsWith (.ListComp elt [⟨tg,iter,[c],0⟩] sc pos) (Z (.Name x pos')) LO.line X.env=pure O})(j:{`q7,X.fn x=O\/X.env.scope.names.lookup x=Z .local})(d:{`q3,∀x,XAA iter X.env x=pure x}) :
  PSV G X (.Assign [.Name x pos'] (.ListComp elt [⟨tg,iter,[c],0⟩] sc pos) LO) a :=
 PS.weak (o7 n o b t e w q p (λcl C s H fp=>⟨f cl C s H fp,uc (l cl C s H fp),he cl C s H fp⟩) r j d) λD J H h=>kW u (m D J H h)
end
end VS
end
section
namespace L2
open PySem PySem.Spec PyProof.Rows
def U6(K:Wu)(a:KM):It :=
 ⟨λi H=>∃b x,IT K H a b/\b[i]?=Z x,λi H v d=>∃p x,H p=L/\v=.ref p/\d=upd H p (.tup [.int i,x])/\∀b,IT K H a b->b[i]?=Z x,λi H=>∃b,IT K H a b/\b.length<=i⟩
def xA{P:Re}{w:UF}{K:Wu}{C:List Expr}{n:Nat}{M:Pos}(a e f:KM)(JP:e≠f):Turn P w K (.Tuple C n M) (U6 K a) [e,f] e (λi h=>(∃old,IsEnum h e f i old)/\h.IsListIter f a i) where
 mem:=by simp
 obj:=λi h st b hb=>by
  obtain⟨⟨old,he⟩,o,ho,c,d⟩:=st;grind
 keep:=λi h h' st k=>⟨let ⟨old,he⟩:=st.1;⟨old,k e (by simp) _ he⟩,st.2.at λo x=>k f (by simp) o x⟩
 item:=by
  intro X Q hw S hc i g s J H E I l st hg;refine L2.ak λP_ k_=>?_;subst Q hw S;obtain⟨xs,x,F,N⟩:=hg;obtain⟨jj,G,p,hz⟩:=I.list F;obtain⟨u,hu,ru⟩:=G.get N;obtain⟨⟨old,he⟩,hit⟩:=st;refine k_ ?_;refine wpAny_pyNext_enum_item he hit p.isList (x:=u) (by simpa using hu) JP λh1 ho TV hT hsz hk=>⟨_,rfl,?_⟩
  refine wpAny_letOwnedTupleGo_enum ho λh2 Rb D=>?_;have D:=D;have VH:=ZY he;have A:=I.p0.fresh (Zm _);have t:∀b o,b∉[e,f]->s.heap.get? b=Z o->h2.get? b=Z o:=λb o hb q=>by
   have B:b≠e:=λz=>hb (by simp[z]);exact(D.2 b B).trans (hk b o B (λz=>hb (by simp[z])) q)
  have YH:=(D.2 _ (Xy VH)).trans hT;have VD:∀b o,H b=Z o->b∉[e,f]:=λb o q hb=>by rw[(l b hb).1]at q;cases q
  have up:∀b o,H b=Z o->upd H s.heap.objs.size (.tup [.int i,x]) b=Z o:=λb o q=>by rw[aD (bB q A)];exact q
  refine⟨.ref s.heap.objs.size,upd H s.heap.objs.size (.tup [.int i,x]),?_,rfl,⟨_,x,A,rfl,rfl,λys hy=>by rw[I.Lv hy F];exact N⟩,⟨⟨u,by simpa using Rb⟩,TV.at λo y=>(D.2 f JP.symm).trans y⟩,λb hb=>?_⟩
  ·show Inv X g J _ { s with heap:=h2,gens:=s.gens,drawn:=s.drawn,toks:=s.toks+1 };refine I.step (λb hb=>?_) (λb o _ _ j q _=>t b o j q) (λb o _ _ j q _=>⟨o.slots,t b o j q⟩) (λb o _ q r=>by rw[aD ((λb o q=>Zh (ZY q)) b o q)];exact r) (λb o j q=>⟨o,t b o j q⟩)
    (λb ys q=>up b _ q) (λb o v q=>up b _ q) (λb _ q=>up b _ q) (λm hm=>?_) (λb ob q=>by
   by_cases hb:b=s.heap.objs.size
   ·subst hb;rw[ay]at q;cases q;exact⟨by show 2<=KF;decide,[.int i s.toks,u],.cons ⟨_,rfl⟩ (.cons ru .nil),N8.of YH Y,⟨_,YH,rfl,_,rfl⟩⟩
   ·rw[aD hb]at q;refine(I.p0 b ob q).LM (λc v j r=>t c v ?_ r) (λc r=>up c _ r) (λc ys r=>up c _ r) λc _ _ r=>up c _ r;rcases j with z | z
    ·rw[z];exact VD b ob q
    ·exact VD c _ z) I.bare
   ·obtain⟨f0,f1,f2,f3,f4,U⟩:=l b hb;exact⟨f3,f1,f4,U⟩
   ·obtain⟨o,es,ep,LV,r⟩:=hm;refine⟨o,es,ep,t _ o (λz=>?_) LV,r⟩;exact(l _ z).2.1 Y
  ·have:b≠s.heap.objs.size:=by
    rcases Zk.mp hb with rfl | hb
    ·exact Zh VH
    ·rw[ZZ.mp hb];exact Zh (let ⟨_,z,_⟩:=hit;ZY z)
   rw[aD this];exact(l b hb).1
 done:=by
  intro X Q hw S hc i g s J H E I l st hg;subst Q hw S;obtain⟨xs,F,N⟩:=hg;obtain⟨jj,G,p,hz⟩:=I.list F;obtain⟨⟨old,he⟩,hit⟩:=st;obtain⟨f0,f1,f2,f3,f4,U⟩:=l f (by simp);have hl:=G.length;exact wpAny_pyNext_enum_end (I.ok.hd hc) he hit p.isList (by simp;lia) λh' eb=>⟨rfl,I.turned (λb o hb q=>eb b o hb q) f0 f1 f3 f4 U⟩
 self:=λ_ _ _ _ _ st h=>let ⟨_,he⟩:=st.1;wpAny_pyIter_enum he h
section
def Ig(K:Wu)(ta:TA):TI:=λJ H R=>ta J H λe b=>∃l,e=[.ref l]/\(∃d,IT K b l d)/\R (U6 K l) b
def C0(x:Gl X "enumerate")(v:X.mg "enumerate" = L)(y:PA X [a] ta)(t:{`q2,Pv [a] X.env=[(false,eval a X.env)]}):PI X (.Tuple g n A) (.Call (.Name "enumerate" p) [a] [] pos) (Ig X.K ta):=by
 intro d s J H R I h;refine Call_ (kz I x v boot_enumerate (Xl (thn (y pos d s J H _ I h) λE s1 z=>?_) t Y));obtain⟨D,B,i,r1,m⟩:=z;obtain⟨l,e,⟨C,u⟩,q⟩:=m;subst e;cases r1 with
 |cons r j =>
  cases j;cases r;obtain⟨G,F,pl,M⟩:=i.list u;refine call_enumerate_list pl.isList λN he hit o w=>?_;refine wpAny_pyIter_enum he ?_;refine⟨_,_,_,_,B,rfl,i.kept w,xA l (s1.heap.objs.size+1) s1.heap.objs.size (Nat.succ_ne_self _),⟨⟨_,he⟩,hit⟩,λb hb=>?_,q⟩;have f:s1.heap.objs.size<=b:=by
   rcases Zk.mp hb with rfl | hb
   ·exact YI _ _
   simp_all
  exact i.LX f (i.p0.fresh f)
end
end L2
namespace VS
open PySem PySem.Spec PyProof.Rows L2
section
theorem sM:∀(l:Vr)(k i:Nat){t:T},(fW k l)[i]?=Z t->∃x,l[i]?=Z x/\t=.tup [.int ((k+i:Nat):Int),x]
 |[],_,_,_,h=>by simp[fW]at h
 |x :: l,k,0,t,h=>by
  simp[fW]at h
  simp_all
 |x :: l,k,i+1,t,h=>by
  obtain⟨y,d,b⟩:=sM l (k+1) i (by simpa[fW] using h);refine⟨y,by simpa using d,?_⟩;rw[b,show k+1+i=k+(i+1) by lia]
theorem qk:∀(l:Vr)(k:Nat),(fW k l).length=l.length
 |[],_=>rfl
 |x :: l,k=>by simp[fW,qk l (k+1)]
def C8{a:KM}(K:Wu)(C:H a=Z (.lst d))(r:RpL G H d e s):Mr G (U6 K a) (fW 0 e) (a :: s.flatten) H:=by
 refine⟨λm k c=>?_,λb hb=>?_⟩
 ·have f:=c a Zu _ C;refine⟨λi t h=>?_,λi h=>⟨d,IT.of f,by rw[qk]at h;rw[r.len.1];exact h⟩⟩;refine L2.ak λM u=>?_;obtain⟨y,w,l⟩:=sM e 0 i h;rw[XH]at l;obtain⟨v,F,j,J,E⟩:=(r.keep k λb hb o B=>c b (Zw _ hb) o B).get i w;refine u ?_;refine⟨⟨d,v,IT.of f,j⟩,λx N D=>?_⟩;obtain⟨p,z,A,e1,e2,e3⟩:=D;subst e1 e2;have ex:=e3 d (IT.of f);rw[j]at ex;cases ex;have g:aI m (upd m p (.tup [.int i,v])):=λb o q=>by rw[aD (bB q A)];exact q
  refine⟨g,F,?_,λb hb=>.inl (Zw _ (dF J hb))⟩;rw[l];have:F=([[],F]).flatten:=by simp
  rw[this];exact .tup ay (.cons (.int _) (.cons (E.same g) .nil))
 ·rcases Zk.mp hb with rfl | hb
  ·grind
  ·exact IU.pe (r.Jh b hb)
def kY(t:PV G X a ca)(r:Gl X "enumerate")(q:X.mg "enumerate" = L)(j:{`q2,K1 a [] X})(z:{`q2,Pv [a] X.env=[(false,eval a X.env)]}) :
  PVI G X (.Tuple elts n NK) (.Call (.Name "enumerate" p) [a] [] pos) (sN ca) :=
 PI.weak (C0 r q (dJ t iJ j) z) λJ H R o=>by
  obtain⟨M,U,m,l,s,e,k⟩:=o;obtain⟨⟨h,x⟩,w,e1⟩:=Zz.mp e;refine⟨M,U,h,x,s,w,λv A F e3 g u=>?_⟩;cases x with
  |lst B =>
   refine L2.ak λC i=>?_;cases e1;obtain⟨y,d,D,rfl,rfl,b,f⟩:=g.lst_inv;refine i ?_;exact⟨y,rfl,⟨d,IT.of b⟩,k _ A _ e3 (C8 X.K b f) u.c⟩
  |_=>cases e1
end
noncomputable instance {s:Tx}:Decidable (pC s):=inferInstanceAs (Decidable (_/\_))
section
def w_add(f:PV G X a ca)(d:PV G X b cb):PV G X (.BinOp a .Add b pos) (e2 bJ ca cb):=gg Cs Eu f d
def gM(f:PV G X a ca)(d:PV G X b cb):PV G X (.BinOp a .FloorDiv b pos) (e2 cj ca cb):=gg BB Cv f d
def w_mod(f:PV G X a ca)(d:PV G X b cb):PV G X (.BinOp a .Mod b pos) (e2 oMod ca cb):=gg El Fc f d
def jB{X:Cx}(d:oe k X.A)(g:PV G X a ca)(f:PV G X b cb):KU G X (.Compare a [.Eq] [b] pos) (e2 oEq ca cb):=fE (Fz d.units) GU tells_eq g f (iM _)
def jU{X:Cx}(d:oe k X.A)(g:PV G X a ca)(f:PV G X b cb):KU G X (.Compare a [.NotEq] [b] pos) (e2 Kr ca cb):=fE (E3 d.units) G2 A5 g f (iM _)
def aR(g:PV G X a ca)(f:PV G X b cb)(d:iV b:=by intro _ _;rfl)(i:{`q2,X.K=G.K}):PV G X (.Subscript a b pos) (e2 aA ca cb) :=
 PE.weak (qf o9 g f d) λJ H Q h=>by rw[i];exact lS zJ h
def cf{X:Cx}(d:X.mg "len" = L)(g:JF G X [e] cs)(f:{`q2,Gl X "len"})(h:{`q2,X.K=G.K})(he:{`q2,K1 e [] X}):PV G X (.Call (.Name "len" p) [e] [] pos) (eN bE cs) :=
 iq (h ▸ xR) DX f d PySem.boot_len g (he:=he)
def yU:bootBuiltins ("max" : Str)=Z (.builtin "max"):=by decide +kernel
def yz:bootBuiltins ("min" : Str)=Z (.builtin "min"):=by decide +kernel
def BW:bootBuiltins ("list" : Str)=Z (.type "list"):=by decide +kernel
def EN{X:Cx}(d:X.mg "max" = L)(h:JF G X [a,b] cs)(g:{`q2,X.calm=O})(f:{`q2,Gl X "max"})(he:{`q2,Pv [a,b] X.env=(R,eval a X.env) :: Pv [b] X.env})(hpl:{`q2,(backTo pos (Pv [b] X.env)).any (·.1)=R}):PV G X (.Call (.Name "max" p) [a,b] [] pos) (eN so cs) :=
 iq (w6 g) BG f d yU h (he:=he) (hpl:=hpl)
def ER{X:Cx}(d:X.mg "min" = L)(h:JF G X [a,b] cs)(g:{`q2,X.calm=O})(f:{`q2,Gl X "min"})(he:{`q2,Pv [a,b] X.env=(R,eval a X.env) :: Pv [b] X.env})(hpl:{`q2,(backTo pos (Pv [b] X.env)).any (·.1)=R}):PV G X (.Call (.Name "min" p) [a,b] [] pos) (eN tH cs) :=
 iq (xQ g) BU f d yz h (he:=he) (hpl:=hpl)
noncomputable def Pk:Ty->Str
 |.int => "int" |.str => "str" |.bool => "bool" |.list => "list" |.tuple => "tuple" |.dict => "dict"
def G7(t:Ty):bootBuiltins (Pk t)=Z (.type (Mu t)):=by cases t<;>decide +kernel
def w_is{X:Cx}(t:Ty)(f:X.mg "isinstance" = L)(l:X.mg (Pk t)=L)(h:PV G X a ca)(g:{`q2,Gl X "isinstance"})(j:{`q2,Gl X (Pk t)})(i:{`q2,X.K=G.K})(d:{`q2,Pv [a,.Name (Pk t) p2] X.env=(R,eval a X.env) :: Pv [.Name (Pk t) p2] X.env}):PV G X (.Call (.Name "isinstance" p1) [a,.Name (Pk t) p2] [] pos) (Sh t ca) :=
 Ho t h g f j l (G7 t) i (by cases t<;>decide) (by cases t<;>decide) d Y Y
def Ey{apos:Pos}(f:PV G X a ca)(g:JF G X [e] cs)(h:{`q2,X.K=G.K})(j:{`q2,UV a "endswith" X.env (eval a X.env)=eval a X.env})(i:{`q2,((backTo cp (Pv [e] X.env)).all (λx=>!x.1)&&(backToKw cp (SC [] X.env)).all (λx=>x.1.isSome)
   && decide ([e].length+([]:List Keyword).length+(if ([]:List Keyword).isEmpty then 0 else 1)<30))=O})(m:{`q2,(apos.endLine==cp.line)=O})(d:{`q2,K1 e [] X})(n:{`q2,(backTo cp (Pv [] X.env)).any (·.1)=R}) :
  PV G X (.Call (.Attribute a "endswith" apos) [e] [] cp) (eM pP ca cs) :=
 Di PySem.F.plainAttrs_str PySem.F.slot_str_endswith PySem.F.type_str_endswith Bi Be (λH v x F l z r e=>rV r (by
  unfold pP at e;split at e
  ·exact⟨_,rfl⟩
  ·cases e)) f g h j i m d n
def ja{apos:Pos}(i:Nat)(j:JF G X [e] cs)(n:{`q2,X.K=G.K})(m:{`q2,X.N[i]?=Z x})(d:{`q5,Lg X.env.scope x})(g:{`q1,K3 x})(q:{`q1,K4 x})(o:{`q2,((backTo cp (Pv [e] X.env)).all (λx=>!x.1)&&(backToKw cp (SC [] X.env)).all (λx=>x.1.isSome)
   && decide ([e].length+([]:List Keyword).length+(if ([]:List Keyword).isEmpty then 0 else 1)<30))=O})(s:{`q2,(apos.endLine==cp.line)=O})(f:{`q2,K1 e [] X}) :
  PSV G X (.Expr (.Call (.Attribute (.Name x p1) "append" apos) [e] [] cp) pos) (sX (jS i [] aK cs)) :=
 ui i Y5 XT XU iz mN (λH v t F l z r h=>jv r h) j n m d g q Y o s f Y Y
def tU{apos:Pos}(i:Nat)(j:JF G X [e] cs)(n:{`q2,X.K=G.K})(m:{`q2,X.N[i]?=Z x})(d:{`q5,Lg X.env.scope x})(g:{`q1,K3 x})(q:{`q1,K4 x})(o:{`q2,((backTo cp (Pv [e] X.env)).all (λx=>!x.1)&&(backToKw cp (SC [] X.env)).all (λx=>x.1.isSome)
   && decide ([e].length+([]:List Keyword).length+(if ([]:List Keyword).isEmpty then 0 else 1)<30))=O})(s:{`q2,(apos.endLine==cp.line)=O})(f:{`q2,K1 e [] X}) :
  PSV G X (.Expr (.Call (.Attribute (.Name x p1) "extend" apos) [e] [] cp) pos) (sX (jS i [] fD cs)) :=
 ui i Y5 PySem.F.slot_list_extend PySem.F.type_list_extend xk wO (λH v t F l z r h=>t6 r h) j n m d g q Y o s f Y Y
end
structure FnAt(P:Re)(w:UF)(K:Wu)(mg:Wq)(base:SZ)(k:Nat)(x:Str)(ps:List Str)(G:Gx)(g:Fn):Prop where
 ex:∃f fd,FnOk P w K mg base JB k f fd ps (LH G g)/\mg x=some (.ref f)/\PySem.W.keepIn K (.ref f)=true/\Binds K fd ps []
section
def aP{X:Cx}(F:FnAt X.prog X.w X.K X.mg X.base k x ps G g)(b:oe k' X.A)(i:JF G X (e :: es) cs)(d:{`q1,k<=k'})(h:{`q2,Gl X x})(o:{`q1,K3 x})(he:{`q2,K1 e es X})(a:{`q2,K2 pos es X}) :
  PV G X (.Call (.Name x p) (e :: es) [] pos) (aH g cs):=by
 obtain⟨f,fd,n,m,l,j⟩:=F.ex;exact Bh n (b.mono d) h m l j i o he a
end
section
variable{K:Wu}
def dC(F:IH K x x a f i)(m:mg x=Z (.ref f))(S:bt N b (ai a))(j:b.length=g)(l:N.length=h)(o:∀(kV doc pm:On)(an:Option KM)(d ct:On)(e:Vz),e.length=b.length->bindArgs (PySem.W.fnOf x x (cR a) (ba a) (ai a) .none kV doc pm an d ct) ⟨e,[]⟩=pure (b.zip e))(n:∀(d:On)(A:SB)(outer:List PySem.Env)(s:IR)(H:Hp)(E:XK),oe k (A.deeper (envOfC x (ai a) s.heap.objs.size f d))->i5 G (jb JB P w K mg base N x (ai a) f d A outer s H E).Lj (ba a) c) :
  FnAt P w K mg base (k+1) x b G (fn g h c) :=
 ⟨f,i,Uh F S j l n,m,F.kp,F.binds o⟩
end
end VS
end
section
namespace L2
open PySem PySem.Spec PyProof.Rows
noncomputable def LF(x:Str):It:=⟨λi _=>i<x.cps.size,λi H v a=>a=H/\∃c,x.cps[i]?=Z c/\v=.str ⟨#[c]⟩,λi _=>x.cps.size<=i⟩
def pZ{P:Re}{w:UF}{K:Wu}{D:Expr}(x:Str)(t:Tok)(a:KM)(f:String)(N:["enumerate", "zip", "dict_itemiterator", "dict_reverseitemiterator", "odict_iterator", "itertools.zip_longest", "itertools.pairwise"].contains f=R)(W:∀A:SB,A.handled=L->Walks P w A a [a] [a] x.cps.size (λi v=>∃c u,x.cps[i]?=Z c/\v=.str ⟨#[c]⟩ u) (λi h=>h.IsStrIter a f x t i))(Y:∀(A:SB),A.handled=L->∀(i:Nat)(s:IR)(Q:Vy->IR->Prop)(E:Xf),s.heap.IsStrIter a f x t i->x.cps[i]?=L->(∀j,Heap.ExtBut a s.heap j->Q L { s with heap:=j })->PP (KB P w) A (pyNext (.ref a)) Q E s)(QO:∀(A:SB)(i:Nat)(s:IR)(Q:Xf)(E:Xf),s.heap.IsStrIter a f x t i->Q (.ref a) s->PP (KB P w) A (pyIter (.ref a)) Q E s) :
  Turn P w K D (LF x) [a] a (λi h=>h.IsStrIter a f x t i) where
 mem:=by simp
 obj:=λi h st b hb=>by
  rw[ZZ.mp hb];obtain⟨o,e,c,d⟩:=st
  simp_all
 keep:=λi h j st k=>let ⟨o,e,r⟩:=st;⟨o,k a (by simp) o e,r⟩
 item:=by
  intro X n hw p m i g s J H E I l st hg;subst n hw p;obtain⟨B,f1,f2,z,y,q⟩:=l a (by simp);refine(W X.A (I.ok.hd m)).item i s _ _ hg st λv j tk M C F=>?_;obtain⟨c,u,KH,rfl⟩:=M;obtain⟨o,e,U,d⟩:=id C;exact⟨_,rfl,tj e U d N ⟨.str ⟨#[c]⟩,H,(I.turned (λb o hb e=>F b o (by simpa using hb) e) B f1 z y q),⟨u,rfl⟩,⟨rfl,c,KH,rfl⟩,C,λb hb=>(l b hb).1⟩⟩
 done:=by
  intro X n hw p m i g s J H E I l st hg;subst n hw p;obtain⟨B,f1,f2,z,y,q⟩:=l a (by simp);have G:x.cps.size<=i:=hg;exact Y X.A (I.ok.hd m) i s _ _ st (by simp[G]) λj S=>⟨rfl,I.turned (λb o hb e=>S b o hb e) B f1 z y q⟩
 self:=λA i s Q E st h=>QO A i s Q E st h
def yi{K:Wu}(x:Str)(t:Tok)(a:KM):Turn P w K g (LF x) [a] a (λi h=>h.IsStrIter a (strIterType x) x t i):=by
 cases f:x.cps.all (· < 128)
 ·have e:strIterType x = "str_iterator" := by simp[strIterType,f]
  rw[e];exact pZ x t a "str_iterator" rfl (λA b=>Walks.strWide b a x t) (λA b i s Q E st d q=>wpAny_pyNext_wide_end b st d q) λA i s Q E st q=>wpAny_pyIter_striter_wide st q
 ·have e:strIterType x = "str_ascii_iterator" := by simp[strIterType,f]
  rw[e];exact pZ x t a "str_ascii_iterator" rfl (λA b=>Walks.strAscii b a x t) (λA b i s Q E st d q=>wpAny_pyNext_ascii_end b st d q) λA i s Q E st q=>wpAny_pyIter_striter_ascii st q
section
def HI(K:Wu)(f:TE):TI:=λJ H R=>f J H λx d=>(∃a,x=.ref a/\(∃e,IT K d a e)/\R (UZ K a) d)\/(∃a,x=.ref a/\(∃e,JT K d a e)/\R (UY K a) d)\/∃z,x=.str z/\R (LF z) d
def BK(A:PE X l tl):PI X tg l (HI X.K tl):=by
 intro d s J H R I h;refine thn (A d s J H _ I h) λv s1 B=>?_;obtain⟨x,g,f,r1,r⟩:=B;have j:∀b∈[s1.heap.objs.size],jk X d g b:=λb hb=>by
  rw[ZZ.mp hb];exact f.LX (Zm _) (f.p0.fresh (Zm _))
 rcases r with⟨a,e,⟨m,i⟩,q⟩ | ⟨a,e,⟨m,i⟩,q⟩ | ⟨z,e,q⟩
 ·subst e;cases r1;obtain⟨w,n,p,y⟩:=f.list i;exact XA p.isList ⟨s1.heap.objs.size,[s1.heap.objs.size],_,_,g,rfl,f.kept λb o e=>Zp _ e,xD a _,⟨_,Zg _ Y,rfl,rfl⟩,j,q⟩
 ·subst e;cases r1;obtain⟨w,n,p,y⟩:=f.tuple i;exact wpAny_pyIter_tuple (p) ⟨s1.heap.objs.size,[s1.heap.objs.size],_,_,g,rfl,f.kept λb o e=>Zp _ e,ur a _,⟨_,Zg _ Y,rfl,rfl⟩,j,q⟩
 ·refine L2.ak λC u=>?_;subst e;obtain⟨t,rfl⟩:=r1;refine u ?_;exact wpAny_pyIter_strU ⟨s1.heap.objs.size,[s1.heap.objs.size],_,_,g,rfl,f.kept λb o e=>Zp _ e,yi z t _,⟨_,Zg _ Y,rfl,rfl⟩,j,q⟩
def vP{s:IR}{d:SZ}(f:∀b x,b∉[s.heap.objs.size]->(s.heap.push o).get? b=Z x->d.get? b=Z x)(b:KM)(x:Obj)(e:s.heap.get? b=Z x):d.get? b=Z x :=
 f b x (λhm=>YR _ (by have:=ZY e;rw[ZZ.mp hm]at this;exact this)) (Zp _ e)
def zT{X:Cx}(D:X.calm=O):dj X (.builtin "sum") (λo H Q=>∃p,∃ns:Vw,o=[.ref p]/\IT X.K H p (ns.map V.int)/\Q (.int ns.sum) H):=by
 intro r s J H o F Q I x h;refine L2.ak λP y=>?_;obtain⟨p,ns,rfl,C,q⟩:=h;obtain⟨u,rfl,j⟩:=x.one;cases j;obtain⟨d,g,pl,M⟩:=I.list C;refine y ?_;have hl:p<s.heap.objs.size:=by obtain⟨_,e,_⟩:=pl.isList;exact ZY e
 refine call_sum_walkG (XA pl.isList ⟨s.heap.objs.size,[s.heap.objs.size,p],[s.heap.objs.size],d.toArray.size,_,_,λi=>(ns[i]?).getD 0,rfl,WQ (A:=X.A.in1) (I.ok.hd D) _ p (Zh hl) d.toArray,
  ⟨⟨_,Zg _ Y,rfl,rfl⟩,pl.isList.push _⟩,λb hb=>?_,λi v E=>?_,λN G w m=>⟨.int ns.sum,H,I.kept (vP m),⟨w,?_⟩,q⟩⟩)
 ·rw[Yk];rcases Zk.mp hb with rfl | hb
  ·exact ZG _
  ·rw[ZZ.mp hb];exact Ys hl
 ·have f:d[i]?=Z v:=by simpa using E
  cases e:ns[i]? with
  |none =>
   have:=g.none_of (i:=i) (by simp_all);rw[this]at f;cases f
  |some n =>
   obtain⟨u,B,j⟩:=g.get (i:=i) (by rw[Zd,e];rfl);rw[B]at f;cases f;obtain⟨t,rfl⟩:=j;exact⟨t,by simp[e]⟩
 ·have hlen:d.toArray.size=ns.length:=by have:=g.length;simp_all
  have:∀k,k<=ns.length->preSum (λi=>(ns[i]?).getD 0) k=(ns.take k).sum:=λk=>by
   induction k with
   |zero=>intro _;simp[preSum]
   |succ k z =>
    intro m;rw[List.take_succ,List.sum_append,preSum,z (by exact Nat.le_of_succ_le m)];cases e:ns[k]? <;> simp
  simp_all
def wR:OpR X (SL .Gt) (λx y H Q=>∃i j,x=.str i/\y=.str j/\Q (.bl (decide (j.cps.toList<i.cps.toList))) H):=by
 intro d s J H x y v u Q I f e h;obtain⟨i,j,rfl,rfl,q⟩:=h;obtain⟨t,rfl⟩:=f;obtain⟨g,rfl⟩:=e;exact PySem.P.gt_str ⟨.bl _,H,I,rfl,q⟩
def lY:OpR X (SL .GtE) (λx y H Q=>∃i j,x=.str i/\y=.str j/\Q (.bl (!decide (i.cps.toList<j.cps.toList))) H):=by
 intro d s J H x y v u Q I f e h;obtain⟨i,j,rfl,rfl,q⟩:=h;obtain⟨t,rfl⟩:=f;obtain⟨g,rfl⟩:=e;exact PySem.P.ge_str ⟨.bl _,H,I,rfl,q⟩
end
end L2
end
section
namespace VS
open PySem PySem.Spec PyProof.Rows L2
section
def Gb(H:Hp)(s:Tx)(j:pC s):Mr G (L2.LF (sx s)) (s.map λc=>T.str [c]) [] H:=by
 have sz:(sx s).cps.size=s.length:=rfl;refine⟨λo _ _=>⟨λi t h=>?_,λi h=>(by rw[Zy]at h;show (sx s).cps.size<=i;lia)⟩,λa h=>by simp at h⟩;rw[Zd]at h;obtain⟨c,g,rfl⟩:=Zt.mp h;refine⟨(by show i<(sx s).cps.size;grind),λx n ⟨e1,f,m,e2⟩=>?_⟩;subst e1;have:f=c:=by
  have l:(sx s).cps[i]?=Z c:=by simp[sx,g]
  grind
 subst this;rw[e2];exact⟨aI.refl _,[],.str [f] ⟨(by show 1<=fN;decide),λd hd=>by rw[ZZ.mp hd];exact j.2 f (Yz g)⟩,λa h=>by simp at h⟩
def bQ(u:PV G X a ca)(A:{`q2,X.K=G.K}):PVI G X tg a (dS ca) :=
 PI.weak (BK u) λJ H R t=>by
  obtain⟨M,U,m,l,s,e,k⟩:=t;obtain⟨⟨r,x⟩,w,e1⟩:=Zz.mp e;refine⟨M,U,r,x,s,w,λv f F e3 j o=>?_⟩;cases x with
  |lst q =>
   cases e1;obtain⟨n,g,y,rfl,rfl,d,i⟩:=j.lst_inv;exact .inl ⟨n,rfl,⟨g,IT.of d⟩,k _ f _ e3 (C7 X.K d i) o.c⟩
  |tup q =>
   cases e1;obtain⟨n,g,y,rfl,rfl,d,i⟩:=j.JW;exact .inr (.inl ⟨n,rfl,⟨g,JT.of d⟩,k _ f _ e3 (Fh X.K d i) o.c⟩)
  |str z =>
   cases e1;obtain⟨rfl,ok⟩:=j.str_inv;exact .inr (.inr ⟨_,rfl,k _ f [] e3 (Gb f z ok) λa h=>by simp at h⟩)
  |_=>cases e1
theorem nK:∀{d:List V}{l:Vr}{g:Wv}{f:Vw},RpL G H d l g->iX l=Z f->d=f.map V.int
 |_,_,_,_,.nil,e=>by cases e;rfl
 |_,_,_,_,.cons (t:=t) r q,e=>by
  cases t with
  |int s =>
   obtain⟨h,e1,e2⟩:=Zt.mp e;subst e2;rw[nK q e1,r.int_inv];rfl
  |_=>cases e
def DR:eU G (λd H Q=>∃p,∃ns:Vw,d=[.ref p]/\IT G.K H p (ns.map V.int)/\Q (.int ns.sum) H) yB:=by
 intro M U s H l o u m t Q A e k;unfold yB at e;split at e
 ·rename_i q x;refine L2.ak λr h=>?_;obtain⟨i,e1,e2⟩:=Zz.mp e;cases e2;obtain⟨v,F,rfl,rfl,f⟩:=(A.rp).one;obtain⟨a,n,Gs,rfl,rfl,j,g⟩:=f.lst_inv;refine h ?_;exact⟨a,i,rfl,by rw[← nK g e1];exact IT.of j,bA k (.int _)⟩
 ·cases e
def Eh:bootBuiltins ("sum" : Str)=Z (.builtin "sum"):=by decide +kernel
def ym:bootBuiltins ("tuple" : Str)=Z (.type "tuple"):=by decide +kernel
def w_sum{X:Cx}(d:X.mg "sum" = L)(h:JF G X [e] cs)(f:{`q2,Gl X "sum"})(i:{`q2,X.K=G.K})(g:{`q2,X.calm=O})(he:{`q2,K1 e [] X}):PV G X (.Call (.Name "sum" p) [e] [] pos) (eN yB cs) :=
 iq (zT g) (i ▸ DR) f d Eh h (he:=he)
def yZ:eU G (λg H Q=>∃p d,g=[.ref p]/\((IT G.K H p d/\∀l,H l=L->Q (.ref l) (upd H l (.tup d)))\/(JT G.K H p d/\Q (.ref p) H))) lq:=by
 intro M U y H l s z m t Q A e k;unfold lq at e;split at e
 ·rename_i u x;split at e
  ·rename_i hl;refine L2.ak λw j=>?_;cases e;obtain⟨v,F,rfl,rfl,h⟩:=(A.rp).one;obtain⟨a,d,Gs,rfl,rfl,o,i⟩:=h.lst_inv;refine j ?_;refine⟨a,d,rfl,.inl ⟨IT.of o,λq n=>?_⟩⟩;have f:aI H (upd H q (.tup d)):=cX n;have r:Rp G (upd H q (.tup d)) (.ref q) (.tup x) Gs.flatten:=.tup ay (i.same f);exact k _ _ _ f r (((A.fp.each 0 _ _ Y Y).sub (Yh _ _)).up r)
  ·cases e
 ·cases e
def Ce{X:Cx}(d:X.mg "tuple" = L)(g:JF G X [e] cs)(f:{`q2,Gl X "tuple"})(h:{`q2,X.K=G.K})(he:{`q2,K1 e [] X}):PV G X (.Call (.Name "tuple" p) [e] [] pos) (eN lq cs) :=
 jO pK (h ▸ yZ) f d ym g (he:=he)
def rGt:R2:=λx y H Q=>L6 (λi j=>.bl (decide (j<i))) x y H Q\/(∃i j,x=.str i/\y=.str j/\Q (.bl (decide (j.cps.toList<i.cps.toList))) H)
def rGe:R2:=λx y H Q=>L6 (λi j=>.bl (decide (j<=i))) x y H Q\/(∃i j,x=.str i/\y=.str j/\Q (.bl (!decide (i.cps.toList<j.cps.toList))) H)
def AI(s t:Tx):decide ((sx s).cps.toList<(sx t).cps.toList)=KG s t:=by rw[jz];exact decide_eq_decide.mpr (by simp[sx])
def Hy:gR G rGt QC:=by
 intro M U i H x y u w l j m t Q d e k;obtain⟨h,x⟩:=x;obtain⟨g,y⟩:=y;obtain⟨same,r1,r2,f1,f2,nd⟩:=d;unfold QC oLt at e;split at e
 ·rename_i e1 e2;cases e1;cases e2;cases e;exact .inl ⟨_,_,r1.int_inv,r2.int_inv,bA k (.bl _)⟩
 ·rename_i s _ f e1 e2;cases e1;cases e2;cases e;refine .inr ⟨_,_,r1.str_inv.1,r2.str_inv.1,?_⟩;rw[AI];exact bA k (.bl _)
 ·cases e
def yM:gR G rGe NN:=by
 intro M U i H x y u w l j m t Q d e k;obtain⟨h,x⟩:=x;obtain⟨g,y⟩:=y;obtain⟨same,r1,r2,f1,f2,nd⟩:=d;unfold NN oLe at e;split at e
 ·rename_i e1 e2;cases e1;cases e2;cases e;exact .inl ⟨_,_,r1.int_inv,r2.int_inv,bA k (.bl _)⟩
 ·rename_i s _ f e1 e2;cases e1;cases e2;cases e;refine .inr ⟨_,_,r1.str_inv.1,r2.str_inv.1,?_⟩;rw[AI];exact bA k (.bl _)
 ·cases e
def zE:Tells QC:=λx y m t e=>jE y x m t e
def sS:Tells NN:=λx y m t e=>rR y x m t e
def sO(P:gR G r f)(n:gR G A g)(h:tE G (jx f g ca cb cc) J H Q):zm r A (tE G ca) (tE G cb) (tE G cc) J H Q:=by
 refine L2.ak λP_ k_=>?_;obtain⟨M,U,m,t,s,e,k⟩:=h;obtain⟨x,ea,e⟩:=Zz.mp e;obtain⟨y,eb,e⟩:=Zz.mp e;obtain⟨⟨S,z⟩,ez,e⟩:=Zz.mp e;refine k_ ?_;refine zp s ea eb λu w H2 F1 B d=>P M U H H2 x y u w F1 B S z _ d ez λv H3 F e1 r1 f1=>?_;cases z with
 |bl q =>
  refine⟨q,r1.JR,?_⟩;cases q with
  |false =>
   cases e;rw[Zl Zc];exact k _ H3 [] (d.same.trans e1) (.bl R) Fp.nil
  |true =>
   rw[Zn Y];obtain⟨l,ec,e⟩:=Zz.mp (e);have i:=d.same.trans e1;refine⟨M,U,l.1,l.2,s.same i,ec,λC H4 F4 o N j=>?_⟩;refine n M U H H4 y l w C B F4 m t Q ⟨i.trans o,(d.r2.same e1).same o,N,d.f2,j.back i,λhx hy=>?_⟩ e λD H5 F5 e5 E f5=>k D H5 F5 ((i.trans o).trans e5) E f5;have f2:=d.f2;rw[hx]at f2;rw[hy]at j;refine ZR.mpr ⟨f2.1,j.1,λa ha b hb z=>?_⟩;subst z;exact IU.pe ((d.r2.same e1).Jh a ha) (j.2 a hb)
 |_=>cases e
def vW{X:Cx}{i:Int}(h:∃t,X.mg x=Z (.int i t))(f:{`q2,Gl X x})(g:{`q1,K3 x}):PV G X (.Name x pos) (Q3 i):=by
 obtain⟨t,d⟩:=h;exact Bu (v:=.int i) f d ⟨t,rfl⟩ (λH=>.int i) g
end
end VS
end
section
namespace VS
open PySem PySem.Spec PyProof.Rows L2
section
def u7:PV G X (.Dict [] [] pos) (sP 0 []):=PE.weak zW λJ H Q d=>by
 obtain⟨M,U,m,t,s,e,k⟩:=d;cases (e);intro q d;have:Rp G (upd H q (.dK [])) (.ref q) (.dct 0 ((([]).map aX).zip [])) (q :: ([]).flatten):=.dct ay Y .nil;exact k _ _ [q] (cX d) this ⟨by simp,λb hb=>by simp_all⟩
end
section
def ij{X:Cx}(hp:PassesOwn (KB X.prog X.w) X.A X.env X.xe)(hc:KU G X c cc)(hb:i5 G X h C):PSV G X (.While c h [] pos) (j6 cc C) :=
 PS.weak (AW hp hc hb) λD J H hq=>by
  obtain⟨M,U,o,s,e,k⟩:=hq;refine⟨λn E F=>∃y r,SR G y r E F/\JA M U H y r F/\dP cc C n r=Z o,⟨uZ,M,U,s,JA.refl M U H,e⟩,?_⟩;rintro n E F ⟨y,r,Q,f2,e2⟩;cases n with
  |zero=>cases (e2)
  |succ n =>
   rw[dP]at e2;obtain⟨⟨mx,x⟩,ex,e3⟩:=Zz.mp e2;obtain⟨t,et,B⟩:=Zz.mp e3;refine⟨y,r,mx,x,t,Q,ex,et,λH3 N=>?_⟩;have P:=Q.same N;have m:=f2.trans (JA.same N);cases t with
   |false =>
    rw[Zl Zc]at B;cases B;show if R=O then _ else _
    rw[Zl Zc];exact k y E H3 P m
   |true =>
    rw[Zn Y]at B;show if O=O then _ else _
    rw[Zn Y];obtain⟨S,e5,z⟩:=Zz.mp B;refine⟨λi g=>∃d f,SR G d f i g/\JA M U H d f g/\dP cc C n f=Z o,λi g q=>⟨n,ZG n,q⟩,y,r,S,P,e5,?_⟩;cases S with
    |nx f=>exact λd i g j l=>⟨d,f,j,m.trans l,z⟩
    |ct f=>exact λd i g j l=>⟨d,f,j,m.trans l,z⟩
    |bk f =>
     cases (z);exact λd i g j l=>k d i g j (m.trans l)
    |rt v f =>
     cases (z);exact λu g F4 d i j l r5 q5=>k u g F4 d i j (m.trans l) r5 (q5.back m)
noncomputable def Qw:Sx:=λ_=>L
def qS:PSV G X f Qw:=λd s J H D I ⟨_,_,_,_,e,_⟩=>nomatch (e)
def fB(r:Rp G H v (.dct 0 l) F):∃(a:KM)(f:List Key)(d:List V)(g:Vr)(h:Wv),v=.ref a/\F=a :: h.flatten/\H a=Z (.dK (f.zip d))/\f.length=d.length/\l=(f.map aX).zip g/\RpL G H d g h:=r.inv
def d7(r:Rp G H v t F)(h:iK t=O):∃k:Key,v=kV k/\t=aX k:=by
 cases t with
 |int i=>exact⟨.inl i,r.int_inv,rfl⟩
 |str s=>exact⟨.inr (sx s),r.str_inv.1,by simp[aX,sx]⟩
 |_=>cases h
theorem lF{k:Key}:∀{d:List Key}{f:List V}{ts:Vr}{m:Wv},d.length=f.length->RpL G H f ts m →
  (eX ((d.map aX).zip ts) (aX k)=L/\gQ (d.zip f) k=L)\/∃(i:Nat)(v:V)(t:T)(F:Wg),eX ((d.map aX).zip ts) (aX k)=Z t/\gQ (d.zip f) k=Z v/\f[i]?=Z v/\m[i]?=Z F/\Rp G H v t F
 |[],[],_,_,_,.nil=>.inl ⟨rfl,rfl⟩
 |k' :: d,v :: f,_,_,hl,.cons (t:=t) (F:=F) (ts:=ts) r q=>by
  have e:eqT (aX k') (aX k)=decide (k'=k):=by
   rw[Xo,decide_eq_true_eq];cases k with
   |inl i=>cases k'<;>simp[aX]
   |inr x =>
    obtain⟨⟨x⟩⟩:=x;cases k' with
    |inl j=>simp[aX]
    |inr y=>obtain⟨⟨y⟩⟩:=y;simp[aX]
  by_cases g:k'=k
  ·refine .inr ⟨0,v,t,F,?_,ju g,rfl,rfl,r⟩;have l:eqT (aX k') (aX k)=O:=by rw[e];exact decide_eq_true g
   simp only[eX,Zj,ZL,Z6,l];rfl
  ·have u:eX (((k' :: d).map aX).zip (t :: ts)) (aX k)=eX ((d.map aX).zip ts) (aX k):=by
    have l:eqT (aX k') (aX k)=R:=by rw[e];exact ZV g
    simp only[eX,Zj,ZL,Z6,l]
   have s:gQ ((k' :: d).zip (v :: f)) k=gQ (d.zip f) k:=by simp[gQ,g]
   rw[u,s];rcases lF (k:=k) (by simpa using hl) q with h | ⟨i,n,o,D,C,B,A,z,w⟩
   ·exact .inl h
   ·exact .inr ⟨i+1,n,o,D,C,B,by simpa using A,by simpa using z,w⟩
def qz{X:Cx}(m:X.A.units+1<cLine):Mp X (λx y H Q=>∃a v,x=.ref a/\ik H a y (Z v)/\Q v H):=by
 intro value slice d s J H x y v u Q I l j h n;obtain⟨a,w,rfl,g,q⟩:=h;cases l;have f:=sT I g;refine Zx ?_;rw[getitemInPython_of_ne f.not_modules];refine Zx (wpAny_specialOf f PySem.F.slot_dict_getitem.lookup ?_);have fin:PP (KB X.prog X.w) X.A (subscripted slice R (.ref a) u) (λr i=>PP (KB X.prog X.w) X.A (letTemporaryGo value (.ref a) r >>= λ_=>pure r) (EP X d J Q) X.xe i) X.xe s:=by
  rw[n];exact wpAny_operating (wY m I g j λz B t o=>Zx (wpAny_letTemporaryGo (Zo ⟨w,H,t,o,q⟩)))
 first
  |exact Zo (Zx fin)
  |exact Zx (Zo (Zx fin))
  |exact Zx fin
def Gi(K:Wu):R2:=λx y H Q=>SJ K x y H Q\/∃a v,x=.ref a/\ik H a y (Z v)/\Q v H
def G4:gR G (Gi G.K) Ks:=by
 intro M U A H x y u w C B m t Q d e k;obtain⟨g,x⟩:=x;by_cases hd:∃l,x=.dct 0 l
 ·obtain⟨l,rfl⟩:=hd;simp only[Ks]at e;split at e
  ·rename_i h;obtain⟨J,e1,e2⟩:=Zt.mp e;obtain⟨a,N,D,E,Fs,rfl,rfl,j,hl,rfl,q⟩:=fB d.r1;obtain⟨P,rfl,o⟩:=d7 d.r2 h;rw[o]at e1;rcases lF hl q with⟨n,_⟩ | ⟨i,v,t2,F,z,s,Y,r,f⟩
   ·rw[n]at e1;cases e1
   ·rw[z]at e1;cases e1;cases e2;refine .inr ⟨a,v,rfl,by rw[← s];exact ik.k j,?_⟩;exact k v H F (aI.refl _) f (((d.f1.sub (Yh _ _)).sub (cZ r)).up f)
  ·cases e
 ·exact .inl (zJ M U A H (g,x) y u w C B m t Q d (by
   simp only[Ks]at e;split at e
   ·rename_i l S;exact absurd ⟨_,rfl⟩ hd
   ·exact e) k)
def uI{X:Cx}(f:oe k X.A)(i:PV G X a ca)(g:PV G X b cb)(d:iV b:=by intro _ _;rfl)(j:{`q2,X.K=G.K}):PV G X (.Subscript a b pos) (e2 Ks ca cb) :=
 PE.weak (qf (Mp.or o9 (qz (lK f))) i g d) λJ H Q h=>by rw[j];exact lS G4 h
def fV:T->V
 |.bl b=>.bl b
 |.int i=>.int i
 |.str s=>.str (sx s)
 |_=>.non
def Dt(r:Rp G H v t F)(h:flat t=O):v=fV t/\gU v=O:=by
 cases r with
 |non=>exact⟨rfl,rfl⟩
 |bl b=>exact⟨rfl,rfl⟩
 |int i=>exact⟨rfl,rfl⟩
 |str s hl=>exact⟨rfl,rfl⟩
 |_=>cases h
theorem Gr:∀{t u:T},flat t=O->flat u=O->Ny (fV t) (fV u)=eqT t u
 |.non,.non,_,_=>rfl
 |.non,.bl _,_,_=>rfl
 |.non,.int _,_,_=>rfl
 |.non,.str _,_,_=>rfl
 |.bl _,.non,_,_=>rfl
 |.bl _,.bl _,_,_=>rfl
 |.bl _,.int _,_,_=>rfl
 |.bl _,.str _,_,_=>rfl
 |.int _,.non,_,_=>rfl
 |.int _,.bl _,_,_=>rfl
 |.int _,.int _,_,_=>rfl
 |.int _,.str _,_,_=>rfl
 |.str _,.non,_,_=>rfl
 |.str _,.bl _,_,_=>rfl
 |.str _,.int _,_,_=>rfl
 |.str _,.str _,_,_=>Ap
def yT(r:Rp G H v t F)(g:Rp G H w u h)(f:flat t=O)(d:flat u=O):Ny v w=eqT t u/\gU v=O/\gU w=O:=by
 obtain⟨e1,f1⟩:=Dt r f;obtain⟨e2,f2⟩:=Dt g d;refine⟨?_,f1,f2⟩;rw[e1,e2];exact Gr f d
theorem qO(r:Rp G H x t F)(g:flat t=O):∀{d:List V}{f:Vr}{m:Wv},RpL G H d f m->f.all flat=O->d.all gU=O/\QM x d=f.any λy=>eqT y t
 |_,_,_,.nil,_=>⟨rfl,rfl⟩
 |_,_,_,.cons i q,h=>by
  rw[Wt,Yn]at h;obtain⟨l,j⟩:=qO r g q h.2;obtain⟨e1,e2,e3⟩:=yT i r h.1 g;refine⟨by rw[Wt,e2,l];rfl,?_⟩;unfold QM at j ⊢
  simp_all
def Ih(K:Wu):R2:=λx y H Q=>RT K R x y H Q\/∃a o,y=.ref a/\ik H a x o/\Q (.bl o.isSome) H
def Cr(K:Wu):R2:=λx y H Q=>RT K O x y H Q\/∃a o,y=.ref a/\ik H a x o/\Q (.bl (!o.isSome)) H
def Bt{X:Cx}(j:X.A.units+1<cLine):OpR X (SL .In) (λx y H Q=>∃a o,y=.ref a/\ik H a x o/\Q (.bl o.isSome) H):=by
 intro d s J H x y v u Q I i f h;obtain⟨a,o,rfl,g,q⟩:=h;cases f;exact IF j I g i λm l=>⟨.bl o.isSome,H,l,rfl,q⟩
def yV{X:Cx}(j:X.A.units+1<cLine):OpR X (SL .NotIn) (λx y H Q=>∃a o,y=.ref a/\ik H a x o/\Q (.bl (!o.isSome)) H):=by
 intro d s J H x y v u Q I i f h;obtain⟨a,o,rfl,g,q⟩:=h;cases f;exact BH j I g i λm l=>⟨.bl (!o.isSome),H,l,rfl,q⟩
def rQ(f:RD G M U E H x y u w N J)(e:oO x y=Z (m,t)) :
  ∃b,m=.fr/\t=.bl b/\((∃p n,w=.ref p/\(IT G.K H p n\/JT G.K H p n)/\gU u=O/\n.all gU=O/\QM u n=b)\/∃a o,w=.ref a/\ik H a u o/\o.isSome=b):=by
 obtain⟨Q,y⟩:=y;simp only[oO]at e;split at e
 ·split at e
  ·rename_i d;cases e;obtain⟨a,z,g,P,s,rfl,rfl,h,hl,rfl,q⟩:=fB f.r2;obtain⟨A,rfl,B⟩:=d7 f.r1 d;refine⟨_,rfl,rfl,.inr ⟨a,gQ (z.zip g) A,rfl,ik.k h,?_⟩⟩;rw[B];rcases lF hl q with⟨l,j⟩ | ⟨i,v,t2,F,D,C,_⟩
   ·rw[l,j];rfl
   ·rw[D,C];rfl
  ·cases e
 ·split at e
  ·rename_i d;cases e;rw[Yn]at d;obtain⟨a,g,s,rfl,rfl,h,r⟩:=f.r2.lst_inv;obtain⟨l,j⟩:=qO f.r1 d.1 r d.2;exact⟨_,rfl,rfl,.inl ⟨a,g,rfl,.inl (IT.of h),((yT f.r1 f.r1 d.1 d.1).2.1),l,j⟩⟩
  ·cases e
 ·split at e
  ·rename_i d;cases e;rw[Yn]at d;obtain⟨a,g,s,rfl,rfl,h,r⟩:=f.r2.JW;obtain⟨l,j⟩:=qO f.r1 d.1 r d.2;exact⟨_,rfl,rfl,.inl ⟨a,g,rfl,.inr (JT.of h),((yT f.r1 f.r1 d.1 d.1).2.1),l,j⟩⟩
  ·cases e
 ·cases e
def Hq:gR G (Ih G.K) oO:=by
 intro M U j H x y u w n l m t Q f e k;obtain⟨b,rfl,rfl,h⟩:=rQ f e;rcases h with⟨p,d,rfl,i,f1,f2,hb⟩ | ⟨a,o,rfl,g,hb⟩
 ·refine .inl ⟨p,d,rfl,i,f1,f2,?_⟩;rw[hb];exact bA k (.bl b)
 ·refine .inr ⟨a,o,rfl,g,?_⟩;rw[hb];exact bA k (.bl b)
def D6:gR G (Cr G.K) dI:=by
 intro M U r H x y u w v s m t Q j e k;unfold dI at e;split at e
 ·rename_i q f n;cases e;obtain⟨b,rfl,d,h⟩:=rQ j n;cases d;rcases h with⟨p,i,rfl,l,f1,f2,hb⟩ | ⟨a,o,rfl,g,hb⟩
  ·refine .inl ⟨p,i,rfl,l,f1,f2,?_⟩;rw[hb];exact bA k (.bl (!f))
  ·refine .inr ⟨a,o,rfl,g,?_⟩;rw[hb];exact bA k (.bl (!f))
 ·cases e
def zK:Tells oO:=by
 intro x y m t e;simp only[oO]at e;split at e
 all_goals first | (split at e<;>first | grind | cases e) | cases e
def xj:Tells dI:=by
 intro x y m t e;unfold dI at e;split at e
 ·cases e;exact⟨_,rfl⟩
 ·cases e
def Hw{X:Cx}(d:oe k X.A)(h:PV G X a ca)(g:PV G X b cb)(f:{`q4,behindInMarks .In b=R})(i:{`q2,X.K=G.K}):KU G X (.Compare a [.In] [b] pos) (e2 oO ca cb):=fE (x9.or (Bt (lK d))) (i ▸ Hq) zK h g f
def uv{X:Cx}(d:oe k X.A)(h:PV G X a ca)(g:PV G X b cb)(f:{`q4,behindInMarks .NotIn b=R})(i:{`q2,X.K=G.K}):KU G X (.Compare a [.NotIn] [b] pos) (e2 dI ca cb):=fE (rA.or (yV (lK d))) (i ▸ D6) xj h g f
end
end VS
end
section
open PySem PyProof.Rows
namespace TS
variable{A:SB}
def qh{a:Array Pi}(f:a.Perm (pairsOf e)):(a.map (·.2)).toList.Perm e/\(a.map (·.2)).toList.map (λv=>(v,v))=a.toList:=by
 have d:=Array.perm_iff_toList_perm.mp f;rw[pairsOf_toList]at d;constructor
 ·rw[Array.toList_map];refine(d.map _).trans ?_;rw[show (λx:Pi=>x.2)=Prod.snd from rfl,List.map_snd_zip (Zm _)]
 ·rw[Array.toList_map,ZO]
  conv=>rhs;rw[← List.map_id a.toList]
  apply Y1;intro p b;have:=mem_zip_self (d.mem_iff.mp b);exact Prod.ext this.1.symm Y
end TS
end
section
namespace L2
open PySem PySem.Spec PyProof.Rows TS
section
theorem sY:∀{b:List Str}{a:Vz},aU (b.map V.str) a->(∀v∈a,∃x t,v=Value.str x t)/\a.map strOf=b
 |[],[],_=>⟨λv h=>by simp at h,rfl⟩
 |s :: b,u :: a,h=>by
  cases h with
  |cons r q =>
   obtain⟨f,e⟩:=sY q;obtain⟨t,rfl⟩:=r;refine⟨λv d=>?_,?_⟩
   ·rcases Zk.mp d with rfl | d
    ·exact⟨s,t,rfl⟩
    ·exact f v d
   ·rw[Zj,e];rfl
theorem om:∀{a:Vz},(∀v∈a,∃x t,v=Value.str x t)->aU ((a.map strOf).map V.str) a
 |[],_=>.nil
 |u :: a,h=>by
  obtain⟨x,t,rfl⟩:=h u (Zu ..);exact .cons ⟨t,rfl⟩ (om λv b=>h v (Zw _ b))
end
end L2
end
section
namespace VS
def BJ(a:Int)(n i:Nat):(rng a n)[i]?=if i<n then Z (T.int (a+i)) else L:=by
 unfold rng;by_cases h:i<n
 ·simp[h]
 ·simp[h]
def q9(h:k<n):JL n (k:Int)=Z k:=by
 unfold JL;rw[Zn (by lia),Zn (by lia),Yr]
def D0{α:Type}(l:List α)(a b:Option Int):(cut l a b).length<=l.length:=by
 unfold cut;simp only[Xc,Z4];omega
def Ck{α:Type}(l:List α)(a b:Option Int){x:α}(h:x∈cut l a b):x∈l:=by
 exact List.mem_of_mem_drop (List.mem_of_mem_take h)
def D1{α:Type}(l:List α)(k:Nat):cut l L (Z (k:Int))=l.take k:=by
 have h:¬((k:Int)<0):=by lia
 by_cases a:k<=l.length
 ·simp[cut,clip,h,YW a]
 ·rw[Yi (by lia)];simp[cut,clip,h,Wp (Wm a)]
def CS{m n:Md}(l:Vr)(y k:Int)(h:(l.length:Int)=k)(d:0<k):∃t,t∈l/\aA (m,.lst l) (n,.int (y%k))=Z (sub m t):=by
 have g:=YC y (b:=k) (by lia);have f:=YS y (b:=k) d;have a:(y%k).toNat<l.length:=by lia
 have e:y%k=(((y%k).toNat:Nat):Int):=by lia
 refine⟨l[(y%k).toNat],Z5 a,?_⟩;simp[(by
  have:=q9 a;rw[← e]at this;exact this),Zs a]
def gE(e:a U=Z (m,.lst l)):dS a U=Z (m,l):=by
 show (a U).bind CZ=_;rw[e];rfl
def cA{tg:Tg}{it:LF}{body:Sx}{U:Env}{m:Md}{l:Vr}(e:it U=Z (m,l))(h:VA m=O):h9 tg it body U=forL tg body l U:=by
 simp_all
def aE{g:Fn}{as:Jj}{U:Env}{t:T}(h:as U=Z a)(b:g (trees a)=Z (.fr,t)):aH g as U=Z (.fr,t):=by
 simp_all
def aw{i:Nat}{e:Ex}{U:Env}{m:Md}{t:T}(h:e U=Z (m,t))(a:m ≠ .bo)(b:i<U.length):aC i e U=Z (.nx (U.set i (Z (.pu t)))):=by
 simp_all
def vC(h:e U=Z (.fr,t))(a:Ds t=O)(b:i<U.length):jt i e U=Z (.nx (U.set i (Z (.ow t)))):=by
 simp_all
def yx:bJ (m,.lst s) (n,.lst t)=Lu (m.join n) (s++t):=rfl
end VS
end
section
namespace VS
open PySem PySem.Spec PyProof.Rows L2
def GF{a b c:Tx}(h:a<b)(d:¬c<b):a<c:=by
 grind
theorem ka(x:Tx):∀l:List Tx,(qb x l).Perm (x :: l)
 |[]=>YG _
 |y :: r=>by
  unfold qb;split
  ·exact((ka x r).cons y).trans (List.Perm.swap _ _ _)
  ·exact YG _
theorem fF:∀l:List Tx,(eQ l).Perm l
 |[]=>YG _
 |x :: l=>(ka x _).trans ((fF l).cons x)
theorem rS(x:Tx):∀{l:List Tx},l.Pairwise (λa b=>¬b<a)->(qb x l).Pairwise (λa b=>¬b<a)
 |[],_=>List.pairwise_singleton _ _
 |y :: r,h=>by
  unfold qb;rw[jz];obtain⟨f,e⟩:=WH.mp h;split
  ·rename_i c;refine WH.mpr ⟨λz d=>?_,rS x e⟩;rcases Zk.mp ((ka x r).mem_iff.mp d) with rfl | d
   ·grind
   ·exact f z d
  ·rename_i c;have g:¬y<x:=by simpa using c
   refine WH.mpr ⟨λz d=>?_,h⟩;grind
theorem qi:∀l:List Tx,(eQ l).Pairwise (λa b=>¬b<a)
 |[]=>List.Pairwise.nil
 |x :: l=>rS x (qi l)
def qc{d:List Tx}(h:d.Perm l)(e:d.Pairwise (λa b=>¬b<a)):d=eQ l :=
 List.Perm.eq_of_pairwise (λa b _ _ g f=>List.le_antisymm (List.not_lt.mp g) (List.not_lt.mp f)) e (qi l) (h.trans (fF l).symm)
def A4(s:Tx):(sx s).cps.toList=s:=rfl
def AL{f:List Tx}{d:List Str}(h:d.Perm (f.map sx))(i:d.Pairwise (λa b=>¬b.cps.toList<a.cps.toList)):d=(eQ f).map sx:=by
 have e:d=(d.map λx=>x.cps.toList).map sx:=by
  rw[ZO]
  conv=>lhs;rw[← List.map_id d]
  apply Y1;intro x g;obtain⟨s,_,rfl⟩:=Za.mp (h.mem_iff.mp g);show sx s=sx (sx s).cps.toList;rw[A4]
 have e2:(d.map λx=>x.cps.toList)=eQ f:=by
  refine qc ?_ ?_
  ·have:=h.map λx:Str=>x.cps.toList;rw[ZO]at this;have e3:((λx:Str=>x.cps.toList) ∘ sx)=id:=by
    funext s;exact A4 s
   rw[e3,List.map_id]at this;exact this
  ·rw[YA];exact i
 rw[e,e2]
def Sz(s:Tx):Bool:=decide (s.length<=fN)&&s.all (λc=>decide (c<1114112))
def E7(h:Sz s=O):pC s:=by
 unfold Sz at h;simp at h;exact h
section
theorem uD{H:Hp}:∀{ss:List Tx},(∀s∈ss,pC s)->RpL G H (ss.map λs=>V.str (sx s)) (ss.map T.str) (ss.map λ_=>[])
 |[],_=>.nil
 |s :: ss,h=>.cons (.str s (h s (Zu ..))) (uD λx a=>h x (Zw _ a))
theorem su{α β:Type}:∀(l:List α),(l.map λ_=>([]:List β)).flatten=[]
 |[]=>rfl
 |_ :: l=>by simp
theorem vn:∀{d:List V}{l:Vr}{f:Wv}{b:List Tx},RpL G H d l f->strs? l=Z b->∀s∈b,pC s
 |_,_,_,_,.nil,e,s,a=>by cases e;simp at a
 |_,_,_,_,.cons (t:=t) r q,e,s,a=>by
  cases t with
  |str x =>
   obtain⟨g,e1,e2⟩:=Zt.mp e;subst e2;rcases Zk.mp a with rfl | a
   ·exact r.str_inv.2
   ·exact vn q e1 s a
  |_=>cases e
def r6{G:Gx}{M:IQ}{U:VS.Env}{i H:Hp}{d:List Tx}{Q:VK}(k:∀v g F,aI H g->Rp G g v (.lst ((eQ d).map T.str)) F->Fp M U i .fr F->Q v g)(m:aI i H)(j:∀s∈d,pC s) :
  ∀(l:KM)(f:List Str),H l=L->f.Perm (d.map sx)->f.Pairwise (λa b=>¬b.cps.toList<a.cps.toList)->Q (.ref l) (upd H l (.lst (f.map V.str))):=λq f h o hw=>by
 rw[AL o hw];have r:Rp G (upd H q (.lst (((eQ d).map sx).map V.str))) (.ref q) (.lst ((eQ d).map T.str)) (q :: ((eQ d).map λ_=>[]).flatten):=.lst (by rw[ay,ZO];rfl) (uD (G:=G) (H:=upd H q (.lst (((eQ d).map sx).map V.str))) λs n=>j s ((fF d).mem_iff.mp n));rw[su]at r;exact k _ _ _ (cX h) r (Fp.new (m.free h) (by simp) Fp.nil)
theorem keys_str:∀{a:List Key}{b:List Tx},strs? (a.map aX)=Z b->a=(b.map sx).map Sum.inr
 |[],_,e=>by cases e;rfl
 |.inl i :: a,_,e=>by cases e
 |.inr x :: a,b,e=>by
  obtain⟨d,e1,e2⟩:=Zt.mp (e);subst e2;rw[keys_str e1];simp[sx]
def pR:bootBuiltins ("sorted" : Str)=Z (.builtin "sorted"):=by decide +kernel
end
end VS
end
section
namespace ST
open PySem PySem.Spec PyProof.Rows
variable{A:SB}
noncomputable def NB(w:UF):Bool:=w.params.followText "set-order"
structure Tb(w:UF)(n:Nat)(t:SetTable):Prop where
 fit:t.fits n=true
 led:t.led=!NB w
 pl:n≠0->t.plain=false
noncomputable def RI(w:UF)(l:List (Int×On)):Prop:=∀e∈l,∃x a,e=(hashStr w x,Value.str x a)
noncomputable def nm(l:List (Int×On)):List Str:=l.map λe=>strOf e.2
structure Ts(w:UF)(h:SZ)(a:KM)(ss:List Str)(es:Array (Int×On))(ep:Nat)(t:SetTable):Prop where
 at_:h.get? a=some { cls:=.type "set",dict:=none,data:=.set es ep t }
 tb:Tb w es.size t
 Nz:RI w es.toList
 pm:(nm es.toList).Perm ss
 nd:ss.Nodup
 Mf:es.size<scanBound
def RI.of(h:RI w l):ElemsOf (strKind prog w) l:=λe he=>by
 obtain⟨x,a,rfl⟩:=h e he;exact⟨⟨x,strKind_is prog w x a,rfl⟩,rfl⟩
def Au(h:RI w l)(he:e∈l):(strKind prog w).is k e.2=O↔strOf e.2=k:=by
 obtain⟨x,b,rfl⟩:=h e he;constructor
 ·intro a;obtain⟨u,e⟩:=W5 (show Value.isStrOf k (.str x b)=O from a);cases e;rfl
 ·intro a;cases a;exact strKind_is prog w _ b
def Fo(t:SetTable)(n:Nat):(t.orStandIn n).led=t.led/\(t.plain=R->(t.orStandIn n).plain=R):=by
 unfold SetTable.orStandIn;by_cases a:t.fits n=O
 ·simp_all
 ·rw[Zl a];exact⟨rfl,λ_=>rfl⟩
def Bq(t:SetTable)(a:Array (Int×On))(h:Int)(x:On):(layNew t a h x).2.1.led=t.led/\(t.plain=R->(layNew t a h x).2.1.plain=R):=by
 unfold layNew;split
 ·exact Fo _ _
 ·exact⟨rfl,λ_=>rfl⟩
def xS(t:SetTable)(b:Array (Int×On))(n:Nat):(relayAll t b n).2.1.led=t.led/\(t.plain=R->(relayAll t b n).2.1.plain=R):=by
 unfold relayAll;cases a:t.relaid (b.map λy=>y.1) n with
 |none=>exact⟨rfl,λ_=>rfl⟩
 |some p =>
  obtain⟨d,ord⟩:=p;have f:d.led=t.led/\d.plain=t.plain:=by
   unfold SetTable.relaid SetTable.laid at a;cases e:SetTable.layClean (SetTable.sizeAbove n-1) (b.map λy=>y.1) with
   |none=>rw[e]at a;cases a
   |some o =>
    rw[e]at a;cases a;exact⟨rfl,rfl⟩
  dsimp only;split
  ·simp_all
  ·exact⟨rfl,λ_=>rfl⟩
def AJ{s:IR}(T:Ts w s.heap a i u U t)(hr:i.length+1<scanBound)(h:∀l IP LK M9 t' b,Heap.SameBut a s.heap l->Ts w l a IP LK M9 t'->(∀y,y∈IP↔y∈i\/y=x)->IP.length<=i.length+1->Q b { s with heap:=l }) :
  PP (KB prog w) A (setAddHashed a (.str x n) (hashStr w x)) Q E s:=by
 have WT:=T.Nz.of (prog:=prog);refine Yj (Zx (Y4 T.at_ Y T.tb.fit ?_));dsimp only;rw[byScan_of Y T.Mf WT,Zn Y];refine Zx (Zx (wpAny_rule (Zx (wpAny_setScan_of (strKind_is prog w x n) T.at_ Y T.tb.fit WT ?_))));cases D:List.findIdx? (λe=>(strKind prog w).is x e.2) u.toList with
 |some j =>
  obtain⟨hj,N,_⟩:=List.findIdx?_eq_some_iff_getElem.mp D;refine Zo (Zo ?_);exact h s.heap i u U t _ (Heap.SameBut.refl a s.heap) T (λy=>⟨.inl,λz=>z.elim id λe=>e ▸ (T.pm.mem_iff.mp (Za.mpr ⟨_,Z5 hj,(Au T.Nz (Z5 hj)).mp N⟩))⟩) (YQ _)
 |none =>
  have hx:x∉i:=λhm=>by
   obtain⟨e,he,q⟩:=Za.mp (T.pm.mem_iff.mpr hm);have:=List.findIdx?_eq_none_iff.mp D e he;rw[(Au T.Nz he).mpr q]at this;cases this
  have F:=layNew_perm t u (hashStr w x) (.str x n);have MY:=layNew_fits t u (hashStr w x) (.str x n);have O1:=Bq t u (hashStr w x) (.str x n);generalize layNew t u (hashStr w x) (.str x n)=L at F MY O1 ⊢;obtain⟨d,G,wd,gv⟩:=L;rw[Array.toList_push]at F;have UM:RI w d.toList:=λe he=>by
   rcases ZU.mp (F.mem_iff.mp he) with q | q
   ·exact T.Nz e q
   ·exact⟨x,n,ZZ.mp q⟩
  have Vn:(nm d.toList).Perm (i++[x]):=(F.map _).trans (by
   rw[ZD];exact T.pm.append_right _)
  have H:d.size=i.length+1:=by
   have:=Vn.length_eq;simpa[nm] using this
  have Pa:d.size<scanBound:=by rw[H];exact hr
  have fin:∀(p:Array (Int×On))(X:Nat)(t2:SetTable)(l:SZ)(b:Bool),p.toList.Perm d.toList->t2.fits p.size=O->t2.led=t.led->t2.plain=false->Heap.SameBut a s.heap l →
    l.get? a=Z { cls:=.type "set",dict:=none,data:=.set p X t2 }->Q b { s with heap:=l }:=λp X t2 l b M f2 C B sb v =>
   h l (i++[x]) p X t2 b sb ⟨v,⟨f2,C.trans T.tb.led,λ_=>B⟩,λe he=>UM e (M.mem_iff.mp he),(M.map _).trans Vn,(ZR.mpr ⟨T.nd,by simp,λy hy z hz e=>hx (by rw[← ZZ.mp hz,← e];exact hy)⟩),by
    rw[← Z2,M.length_eq,Z2];exact Pa⟩ (λy=>by simp) (by simp)
  have rest:∀(t2:SetTable),t2.fits d.size=O->t2.led=t.led->t2.plain=false->PP (KB prog w) A (do
    storeSet a d t2
    if (!wd&&t2.tooFull)=O then
     let r:=relayAll t2 d (SetTable.grown d.size)
     (match r.2.2 with
      |true=>rule "set.scan.the-table-gave-way"
      |false=>pure ())
     storeSet a r.1 r.2.1
     pure (Z O)
    else pure (Z O)) (λo g=>∃b,o=Z b/\Q b g) E s:=λt2 f2 C B=>by
   refine Zx (wpAny_storeSet_of T.at_ Y ?_ (WX Pa));have v:(s.heap.update a (Obj.putSet d t2)).get? a=Z { cls:=.type "set",dict:=none,data:=.set d (U+1) t2 }:=Yq _ T.at_ Y;have RS:Heap.SameBut a s.heap (s.heap.update a (Obj.putSet d t2)):=Xu ..;by_cases hq:(!wd&&t2.tooFull)=O
   ·rw[Zn hq];have rp:=relayAll_perm t2 d (SetTable.grown d.size);have rf:=relayAll_fits t2 d (SetTable.grown d.size);have J:=xS t2 d (SetTable.grown d.size);generalize relayAll t2 d (SetTable.grown d.size)=R at rp rf J ⊢;obtain⟨p,t3,S⟩:=R;have st:PP (KB prog w) A (storeSet a p t3 >>= λ_=>pure (Z O)) (λo g=>∃b,o=Z b/\Q b g) E { s with heap:=s.heap.update a (Obj.putSet d t2) } :=
     Zx (wpAny_storeSet_of v Y (Zo ⟨O,rfl,fin p _ t3 _ _ rp rf (J.1.trans C) (J.2 B) (RS.trans (Xu ..)) (Yq _ v Y)⟩) (WX (by rw[← Z2,rp.length_eq,Z2];exact Pa)))
    cases S with
    |true=>exact Zx (wpAny_rule st)
    |false=>exact Zx (Zo st)
   ·rw[Zl hq];exact Zo ⟨O,rfl,fin d _ t2 _ _ (YG _) f2 C B RS v⟩
  have out:∀(m:Sem (Option Bool)),PP (KB prog w) A m (λo g=>∃b,o=Z b/\Q b g) E s->PP (KB prog w) A m (λo g=>PP (KB prog w) A (match o with | some added=>pure added | none=>setAddHashedIn a (.str x n) (hashStr w x) 99999) Q E g) E s:=λm hm =>
   YX hm (λo g ⟨b,e,q⟩=>by subst e;exact Zo q) λ_ _ e=>e
  refine out _ ?_;have mid:∀(m:Sem Unit),(∀(s1:IR)(Q1:Unit->IR->Prop),Q1 () s1->PP (KB prog w) A m Q1 E s1)->∀(f:Unit->Sem (Option Bool)),PP (KB prog w) A (f ()) (λo g=>∃b,o=Z b/\Q b g) E s->PP (KB prog w) A (m>>=f) (λo g=>∃b,o=Z b/\Q b g) E s:=λm hm f D=>Zx (hm s _ D);refine mid _ (λs1 Q1 q1=>by cases gv<;>first | exact Zo q1 | exact wpAny_rule q1) _ ?_;by_cases P:G.plain=O
  ·rw[Zn P];refine Zx (Zo ?_);exact rest { G with plain:=false } (SetTable.fits_plain_off MY) O1.1 rfl
  ·rw[Zl P];refine Zx (Zo ?_);exact rest G MY O1.1 (by simpa using P)
theorem sE{prog:Re}{w:UF}{R:Result->IR->Prop}{I S:KM}{fp Q:Wg}{G:Array GenState->Array GenState->Prop}{n:Nat}{P:Nat->On->Prop}{St:Nat->IR->Prop}{m:List Str}(W:WalksS prog w A.in1 I fp Q G n P St)(a:S∉fp)(X:n=m.length)(Y:∀i v,P i v->∃x t,v=.str x t/\m[i]?=Z x)(j:n+1<scanBound) :
  ∀(k i:Nat)(s:IR)(d:List Str)(p:Array (Int×On))(q:Nat)(t:SetTable),i+k=n->St i s->Ts w s.heap S d p q t->(∀y,y∈d↔y∈m.take i)->d.length<=i →
   (∀f l N M r,Moved (S :: Q) G s f->Ts w f.heap S l N M r->(∀y,y∈l↔y∈m)->l.length<=n->R (.ok (.ret .none)) f) →
   codeAny (KB prog w) A (.builtin "set.update.loop" ⟨[.ref S,.ref I],[]⟩) R s
 |0,i,s,d,p,q,t,hk,st,T,hm,hl,H=>by
  have hi:i=n:=by omega
  subst hi;refine Yg F.entry_set_update_loop ?_;rw[Yx W4];refine Zx (W.done s _ _ st λf g=>Zo (H f d p q t (g.mono λb j=>Zw _ j) ⟨g.heap S _ (λh=>a (W.sub _ h)) T.at_,T.tb,T.Nz,T.pm,T.nd,T.Mf⟩ (λy=>?_) hl));rw[hm y,X,Wj]
 |k+1,i,s,d,p,q,t,hk,st,T,hm,hl,H=>by
  refine Yg F.entry_set_update_loop ?_;rw[Yx W4];refine Zx (W.item i s _ _ (by lia) st λv s1 pv u g=>?_);obtain⟨x,tk,rfl,hx⟩:=Y i v pv;refine Zx (Yj ?_);refine Yj (Zx (wpAny_pyHash_str (AJ (⟨g.heap S _ (λh=>a (W.sub _ h)) T.at_,T.tb,T.Nz,T.pm,T.nd,T.Mf⟩) (by lia) λh' l N M r b U T2 O0 K9=>?_)));refine Zo ⟨YM W4 _,sE W a X Y j k (i+1) _ l N M r (by lia) (W.frame _ s1 _ _ u (YQ _) λc D o e=>?_) T2 (λy=>?_) (by lia) λs2 z Nw Rm t2 B T3 C Ot=>?_⟩
  ·rw[U.2 c λJ=>a (J ▸ D)];exact e
  ·rw[O0 y,hm y,List.take_add_one,hx,ZU];simp
  ·refine H s2 z Nw Rm t2 (Moved.trans W.gtrans (Moved.then_heap (g.mono λb j=>Zw _ j) (YQ _) λc o D e=>?_) B) T3 C Ot;rw[U.2 c λJ=>D (by rw[J];exact Zu)];exact e
abbrev bare(w:UF):Obj:={ cls:=.type "set",dict:=L,data:=.set #[] 0 (.fresh 0 0 (!NB w)) }
def A9{s:IR}(v:On){Q:Xf}(h:Q (.ref s.heap.objs.size) { s with heap:=s.heap.push (bare w) }) :
  codeAny (KB prog w) A (.call (.builtin "set.__new__") ⟨[.type "set",v],[]⟩) (wants Q E) s:=by
 refine codeAny_of_tree (Zx (wpAny_of_eq (F.newCall_set_1 v) (Zo ⟨YM F.plain_set_new _,Yg F.entry_set_new ?_⟩)));rw[Yx F.plain_set_new];have own:=sub_set_self;cases s;unfold Builtin.«set.__new__» Builtin.Frozenset.newClass
 wp_walk
 refine X4 (Zo ?_);exact Zx (wpAny_alloc (Zo (Zo h)))
theorem Ts.bare(h:SZ):Ts w (h.push (ST.bare w)) h.objs.size [] #[] 0 (.fresh 0 0 (!NB w)) :=
 ⟨Zg _ Y,⟨rfl,rfl,λe=>absurd Y e⟩,λe he=>by simp at he,YG _,Yb,by decide⟩
def yK{s:IR}{p:List Str}(U:A.handled=L)(S:s.heap.IsList l j)(P:∀(i:Nat)(v:On),j[i]?=Z v->∃x t,v=.str x t/\p[i]?=Z x)(N:j.size=p.length)(hb:p.length+1<scanBound)(h:∀(n:SZ)(H:Nat) ss es ep t,Ts w n s.heap.objs.size ss es ep t->(∀y,y∈ss↔y∈p)->(∀b o,s.heap.get? b=Z o->n.get? b=Z o)->Q (.ref s.heap.objs.size) { s with heap:=n,toks:=H }) :
  PP (KB prog w) A (call (.type "set") [.ref l]) Q E s:=by
 have f:=F.called_set;obtain⟨c,tl,mro⟩:=f.mro;have made:=f.made;have sub:=f.sub;have tc:=F.typeCall_set_1 (.ref l);refine wpAny_call (codeAny_of_tree (Zo (⟨Code.quiet_builtin _ (by decide +kernel),Yg F.entry_type_call ?_⟩)));rw[Around.under_plain (weight_type_call_type "set" [.ref l] []) Y]
 repeat any_goals first | assumption | wp_step
 refine XQ (A9 (.ref l) (E:=E) (Q:=λv s1=>v=.ref s.heap.objs.size/\s1={ s with heap:=s.heap.push (bare w) }) ⟨rfl,rfl⟩) λr s1 a=>?_
 match r,a with
 |.error e,a=>exact a
 |.ok (.ret v),⟨e1,e2⟩ =>
  subst e1 e2;have g:=Ts.bare (w:=w) s.heap;have il:=f.init.lookup;have ib:=f.init.bind (.ref s.heap.objs.size)
  repeat any_goals first | assumption | wp_step
  refine XQ (codeAny_call_builtin (R:=wants (λv C=>v=.none/\Q (.ref s.heap.objs.size) C) E) f.init.plain F.entry_set_init (check_set_init_1 (⟨_,g.at_,rfl⟩) ?_)) λr2 C d=>?_
  ·obtain⟨ol,D,MZ,nl,z⟩:=S;cases ol;subst MZ z;have G:=ZY D;have lst:(s.heap.push (bare w)).IsList l j:=⟨_,(Zp (bare w) D),rfl,nl,rfl⟩
   have n1:=F.sub_list_set;have n2:=F.sub_list_frozenset;unfold Builtin.«set.__init__» noKeywords Builtin.Frozenset.updateFrom;generalize X:pyIter=itr
   wp_walk
   subst X;refine XA lst (Zx (wpAny_runValue ?_));have out:l≠(s.heap.push (bare w)).objs.size:=by rw[Yk];exact Zh (Ys G)
   refine sE ((WQ (by simp[U]) _ l out j).toS) (by
    rw[Yk];simp only[Zk,Y8,or_false,not_or];exact⟨Zh (ZG _),Xy G⟩) N P (by lia) j.size 0 _ [] #[] 0 _ (by exact XH _) ⟨⟨_,Zg _ Y,rfl,rfl⟩,lst.push _⟩ (⟨Zp _ g.at_,g.tb,g.Nz,g.pm,g.nd,g.Mf⟩) (by simp) (Zm _) λM IP LK M9 J u T hm _=>?_
   obtain⟨n,g',d',MI,SO⟩:=M;have e1:=u.gens;have e2:=u.drawn;have e3:=u.os;subst e1 e2 e3;refine Zo (Zo ⟨rfl,h n MI IP LK M9 J T hm λb o e=>u.heap b o (λB=>?_) (Zp _ (Zp _ e))⟩);have m:=ZY e;rw[Yk]at B;simp only[Zk,Y8,or_false]at B;rcases B with q | q
   ·exact Zh m q
   ·exact Zh (Ys m) q
  ·match r2,d with
   |.error e,d=>exact d
   |.ok (.ret v),⟨e1,e2⟩ =>
    subst e1
    repeat any_goals first | assumption | wp_step
   |.ok .next,d=>exact d.elim
   |.ok .brk,d=>exact d.elim
   |.ok .cont,d=>exact d.elim
 |.ok .next,a=>exact a.elim
 |.ok .brk,a=>exact a.elim
 |.ok .cont,a=>exact a.elim
end ST
end
section
namespace ST
open PySem PySem.Spec PyProof.Rows
variable{A:SB}
def nV:Slot "set_iterator" "__next__" "set_iterator.__next__" := .of (owner := "set_iterator") (n := "__next__") (by rw[WK,X2];kernel_rfl) (by decide +kernel) (by decide +kernel)
 (by decide +kernel) (by first | exact .inl (by decide +kernel) | exact .inr (by decide +kernel)) (by rw[WB];kernel_rfl)
def v7:Slot "set_iterator" "__iter__" "set_iterator.__iter__" := .of (owner := "set_iterator") (n := "__iter__") (by rw[WK,X2];kernel_rfl) (by decide +kernel) (by decide +kernel)
 (by decide +kernel) (by first | exact .inl (by decide +kernel) | exact .inr (by decide +kernel)) (by rw[WB];kernel_rfl)
def C3:entryFor table "set_iterator.__next__" = Z Builtin.«set_iterator.__next__» := entryFor_of_fast (by kernel_rfl)
def B6:entryFor table "set_iterator.__iter__" = Z Builtin.«dict_keyiterator.__iter__» := entryFor_alias (id' := "dict_keyiterator.__iter__") (by kernel_rfl) Y (by decide +kernel) (by kernel_rfl)
def B7:entryFor table "set.__iter__" = Z Builtin.«frozenset.__iter__» := entryFor_alias (id' := "frozenset.__iter__") (by kernel_rfl) Y (by decide +kernel) (by kernel_rfl)
def BN(v:On):argsOk "set_iterator.__next__" ⟨[v],[]⟩:=by kernel_rfl
def Dc(v:On):argsOk "set_iterator.__iter__" ⟨[v],[]⟩:=by kernel_rfl
def wp_choose(b:n≠0)(h:∀i d,i<n->Q i { s with drawn:=d }):PP (KB prog w) A (choose a n) Q E s:=λΓ p _=>by
 exact⟨b,h _ _ (Nat.mod_lt _ (Yy b))⟩
theorem qN{α:Type}:∀(l:List α){i:Nat}(h:i<l.length),(l[i] :: l.eraseIdx i).Perm l
 |a :: l,0,_=>YG _
 |a :: l,i+1,h=>((List.Perm.swap _ _ _).trans ((qN l (by simpa using h)).cons a))
def B3{α:Type}:∀(n:Nat)(a:List α)(s:IR)(Q:List α->IR->Prop),n=a.length->(∀b d,b.Perm a->Q b { s with drawn:=d })->PP (KB prog w) A (drawOrder n a) Q E s:=by
 intro n
 induction n with
 |zero =>
  intro a s Q e h;cases a with
  |nil=>exact Zo (h [] s.drawn (YG _))
  |cons x a=>exact absurd e (by simp)
 |succ n g =>
  intro a s Q e h;cases a with
  |nil=>exact absurd e (by simp)
  |cons x a =>
   refine Zx (wp_choose (by simp) λi d f=>?_);rw[Zs f];refine Zx (g _ _ _ (by grind) λb l j=>Zo (h _ l ?_));exact(List.Perm.cons _ j).trans (qN _ f)
noncomputable abbrev NT(first:On)(i:Nat)(a:KM)(n b:Nat):Obj:={ cls:=.type "set_iterator",data:=.fields #[first,.int i 0,.ref a,.int n 0,.int b 0] }
def zV{t:SetTable}(h:t.fits n=O):¬((t.place.size != n||decide (t.fill > t.mask))=O):=by
 unfold SetTable.fits at h
 simp_all
def zA{s:IR}(f:A.handled=L)(h:∀(a:SZ)(x:KM),(∀b o,s.heap.get? b=Z o->a.get? b=Z o)->(∃o,a.get? x=Z o/\o.cls=.type "StopIteration")->d (.ref x) { s with heap:=a }) :
  PP (KB prog w) A (newExc (.type "StopIteration") [] >>= λe=>raiseNew e) Q d s:=by
 refine Zx (Zx (YJ (Zx (wpAny_of_eq (by first | rfl | (rfl)) (YJ ?_ (by size_fits)))) (by size_fits)));refine Zx (wpAny_handled ?_);rw[f];exact Zx (Zo (wpAny_throw (h _ _ (λb o e=>Zp _ (Zp _ e)) ⟨_,Zg _ Y,rfl⟩)))
def wJ{s:IR}(i:s.heap.get? I=Z { cls:=.type "set_iterator",data:=.fields j })(h:PP (KB prog w) A.in1 (Builtin.«set_iterator.__next__» ⟨[.ref I],[]⟩) (λf a=>∃v,f=.done (.ret v)/\Q (Z v) a) (λe a=>∃x,e=.ref x/\(∃o,a.heap.get? x=Z o/\o.cls=.type "StopIteration")/\Q L a) s) :
  PP (KB prog w) A (pyNext (.ref I)) Q E s:=by
 have ty:s.TypeIs (.ref I) "set_iterator" := ⟨_,i,rfl⟩
 refine Zx (wpAny_attempt (wpAny_callSpecial?_slot ty nV (Xr nV ty C3 (YX h (λf a d=>?_) λe a he=>?_) (BN _))))
 ·obtain⟨v,rfl,q⟩:=d;exact⟨v,rfl,Zo q⟩
 ·obtain⟨x,rfl,⟨o,b,g⟩,q⟩:=he;exact Zx (wpAny_isInstance ⟨o,b,g⟩ isSubtype_stop (Zo q))
noncomputable abbrev tu(a:Array (Int×On))(b:Nat)(t:SetTable):Obj:={ cls:=.type "set",dict:=L,data:=.set a b t }
def oT{s:IR}{q:Vx}(z:A.handled=L)(v:s.heap.get? a=Z (tu f m t))(r:t.fits f.size=O)(h:s.heap.get? I=Z (NT (.ref p) i a f.size m))(y:s.heap.get? p=Z n)(B:n.data=.seq (q.map λ(k:Nat)=>rawInt k).toArray u)(D:∀j x,q[i]?=Z j->f[j]?=Z x->∀d,Heap.SameBut I s.heap d->d.get? I=Z (NT (.ref p) (i+1) a f.size m)->Q (Z x.2) { s with heap:=d })(F:∀j,q[i]?=Z j->j<f.size)(C:q[i]?=L->∀d,(∀b o,b≠I->s.heap.get? b=Z o->d.get? b=Z o)->Q L { s with heap:=d }) :
  PP (KB prog w) A (pyNext (.ref I)) Q E s:=by
 refine wJ h ?_
 wp_walk
 rw[Zl (zV r)];refine Zo (Zo ?_);rw[Zl (by simp)];refine Zx (WC y B ?_);dsimp only;rw[Yr];cases g:q[i]? with
 |some j =>
  have e1:(q.map λ(k:Nat)=>rawInt k).toArray[i]?=Z (rawInt j):=by simp[g]
  rw[e1];refine Zx (Zx (Y4 v Y r ?_));dsimp only;rw[Yr,Zl (by simp)];rw[Yr];cases l:f[j]? with
  |none=>simp_all
  |some x =>
   refine Zo (Zx (Xs h Y (by show 1<5;decide) (Zo ⟨_,rfl,D j x g l _ (Xu ..) ?_⟩)));exact Yq _ h Y
 |none =>
  have e1:(q.map λ(k:Nat)=>rawInt k).toArray[i]?=L:=by simp at g ⊢;exact g
  rw[e1];refine Zx (Xs h Y (by show 0<5;decide) (Zx (Xs (Yq (Obj.mapFields (·.setIfInBounds 0 (rawInt 0))) h Y) Y (by show 2<5;decide) (zA z λd x kp l=>⟨x,rfl,l,C g d λb o hb e=>kp b o ?_⟩))));exact(Yd _ _ (Ye hb)).trans ((Yd _ _ (Ye hb)).trans e)
def iD{prog:Re}{w:UF}{s:IR}{I a:KM}{i h m:Nat}{g:Array (Int×On)}{t:SetTable}{r:Option (On×Nat)}{Q:Vy->IR->Prop}(u:A.handled=L)(y:s.heap.get? a=Z (tu g h t))(v:t.fits g.size=O)(f:s.heap.get? I=Z (NT (.int m 0) i a g.size h))(q:∀(Q:Option (On×Nat)->IR->Prop)(E:Xf),Q r s->PP (KB prog w) A.in1 (setNext a m i h) Q E s)(l:∀x nx,r=Z (x,nx)->∀d,Heap.SameBut I s.heap d->d.get? I=Z (NT (.int nx 0) (i+1) a g.size h)->Q (Z x) { s with heap:=d })(j:r=L->∀d,(∀b o,b≠I->s.heap.get? b=Z o->d.get? b=Z o)->Q L { s with heap:=d }) :
  PP (KB prog w) A (pyNext (.ref I)) Q E s:=by
 refine wJ f ?_
 wp_walk
 rw[Zl (zV v)];refine Zo (Zo ?_);rw[Zl (by simp)];refine Zx (q _ _ ?_)
 match r,l,j with
 |some (x,nx),l,_ =>
  have n:=Yq (Obj.mapFields (·.setIfInBounds 0 (rawInt nx))) f Y;exact Zx (Xs f Y (by show 0<5;decide) (Zx (Xs n Y (by show 1<5;decide) (Zo ⟨x,rfl,l x nx Y _ (Heap.SameBut.trans (Xu ..) (Xu ..)) (Yq (Obj.mapFields (·.setIfInBounds 1 (rawInt ((i:Int)+1)))) n Y)⟩))))
 |none,_,j =>
  refine Zx (Xs f Y (by show 2<5;decide) (zA u λd x kp p=>⟨x,rfl,p,j Y d λb o hb e=>kp b o ?_⟩));exact(Yd _ _ (Ye hb)).trans e
theorem wa{α:Type}(f:Nat->Nat):∀(n k:Nat)(l:List α)(out:Array α),l.length=n->(pickOrder.go f n k l out).toList.Perm (out.toList++l)
 |0,k,l,out,h=>by
  cases l with
  |nil=>unfold pickOrder.go;simp
  |cons a l=>simp at h
 |n+1,k,l,out,h=>by
  have hl:f k%l.length<l.length:=Nat.mod_lt _ (by lia);unfold pickOrder.go;rw[Zs hl];refine(wa f n (k+1) _ _ (by grind)).trans ?_;rw[Array.toList_push,Z0];exact List.Perm.append_left _ (qN l hl)
def mq{α:Type}(f:Nat->Nat)(a:Array α):(pickOrder f a).toList.Perm a.toList:=by
 unfold pickOrder;simpa using wa f a.size 0 a.toList #[] Y
def wF{s:IR}(m:NB w=O)(j:s.heap.get? a=Z (tu b d t))(l:t.fits b.size=O)(Q:Option (On×Nat)->IR->Prop)(E:Xf)(h:Q (((pickOrder (w.params.setOrder a d) b)[i]?).map λe=>(e.2,f)) s):PP (KB prog w) A (setNext a f i d) Q E s:=by
 have g:∀(Q:Bool->IR->Prop),Q O s->PP (KB prog w) A setsByText Q E s:=λQ q=>Zx (X4 (Zo (by show Q (NB w) s;rw[m];exact q)));refine Zx (Y4 j Y l (Zx (g _ ?_)));rw[Zn Y,Zl (by simp)];refine Zx (Zx (Y4 j Y l (Zx (g _ ?_))));rw[Zn Y];exact Zx (X4 (Zo (Zo h)))
def yD{s:IR}(o:NB w=R)(l:s.heap.get? a=Z (tu d f t))(n:t.fits d.size=O)(m:t.led=O)(r:d.size<=1)(Q:Option (On×Nat)->IR->Prop)(E:Xf)(h:Q (match d[SetTable.below t.place e]?,t.place[SetTable.below t.place e]? with | some (_,x),some j=>some (x,j+1) | _,_=>none) s):PP (KB prog w) A (setNext a e i f) Q E s:=by
 have g:∀(Q:Bool->IR->Prop),Q R s->PP (KB prog w) A setsByText Q E s:=λQ q=>Zx (X4 (Zo (by show Q (NB w) s;rw[o];exact q)));refine Zx (Y4 l Y n (Zx (g _ ?_)));rw[Zl Zc];have p:∀b:Bool,¬((b&&decide (d.size > 1))=O):=λb=>by cases b<;>simp<;>omega
 refine(show PP _ _ (if (!t.plain&&decide (d.size > 1))=O then _ else _) _ _ _ from ?_);rw[Zl (p _)];refine Zx (show PP _ _ (if (!t.led && !d.isEmpty)=O then _ else _) _ _ _ from ?_);rw[Zl (by rw[m];simp)];exact Zo (Zo h)
end ST
end
section
namespace ST
open PySem PySem.Spec PyProof.Rows
variable{A:SB}
def yH{α:Type}{a:Array α}(h:a.size=1):∃x,a=#[x]:=by
 obtain⟨l⟩:=a
 match l,h with
 |[x],_=>exact⟨x,rfl⟩
noncomputable abbrev Gs:Array GenState->Array GenState->Prop:=λa b=>b=a
def nS{prog:Re}{w:UF}{I a:KM}{r:Wg}{j:Array (Int×On)}{l:Nat}{t:SetTable}{m:Vz}(first:Nat->On)(d:SZ->Prop)(C:I∈r)(B:a∈r)(D:a≠I)(x:∀h f:SZ,d h->(∀b∈r,b≠I->∀o,h.get? b=Z o->f.get? b=Z o)->d f)(step:∀(i:Nat)(s:IR)(Q:Vy->IR->Prop)(E:Xf),i<j.size->s.heap.get? a=Z (tu j l t)->s.heap.get? I=Z (NT (first i) i a j.size l)->d s.heap →
   (∀v f,m[i]?=Z v->Heap.SameBut I s.heap f->f.get? I=Z (NT (first (i+1)) (i+1) a j.size l)->Q (Z v) { s with heap:=f })->PP (KB prog w) A (pyNext (.ref I)) Q E s)(stop:∀(s:IR)(Q:Vy->IR->Prop)(E:Xf),s.heap.get? a=Z (tu j l t)->s.heap.get? I=Z (NT (first j.size) j.size a j.size l)->d s.heap →
   (∀f,(∀b o,b≠I->s.heap.get? b=Z o->f.get? b=Z o)->Q L { s with heap:=f })->PP (KB prog w) A (pyNext (.ref I)) Q E s) :
  WalksS prog w A I r [I] Gs j.size (λi v=>m[i]?=Z v) (λi s=>s.heap.get? a=Z (tu j l t)/\s.heap.get? I=Z (NT (first i) i a j.size l)/\d s.heap) where
 sub:=λb hb=>by simp_all
 grefl:=λ_=>rfl
 gtrans:=λ_ _ _ p q=>q.trans p
 frame:=λi s f F st _ kp=>⟨kp a B _ st.1,kp I C _ st.2.1,x _ _ st.2.2 λb hb _ o e=>kp b hb o e⟩
 item:=λi s Q E z st n=>step i s Q E z st.1 st.2.1 st.2.2 λv f y u g=>n v _ y ⟨(u.2 a D).trans st.1,g,x _ _ st.2.2 λb _ hb o e=>(u.2 b hb).trans e⟩ ⟨λb o hb e=>(u.2 b λq=>hb (by simp_all)).trans e,rfl,rfl,rfl,Zm _⟩
 done:=λs Q E st n=>stop s Q E st.1 st.2.1 st.2.2 λf kp=>n _ ⟨λb o hb e=>kp b o (λq=>hb (by simp_all)) e,rfl,rfl,rfl,Zm _⟩
 self:=λi s Q E st n=>WY ⟨_,st.2.1,rfl⟩ v7 (Xr v7 ⟨_,st.2.1,rfl⟩ B6 (Zo ⟨_,rfl, "set_iterator",_,⟨_,st.2.1,rfl⟩,nV.lookup,n⟩) (Dc _))
def Ready(b:Re)(w:UF)(d:Nat)(a:KM)(e:Array (Int×On))(I:KM)(s:IR):Prop :=
 ∃(ord:Vz)(p:KM),ord.Perm (e.toList.map (·.2))/\d<=I/\d<=p/\∃St:Nat->IR->Prop,(∀A:SB,A.handled=L->WalksS b w A I [I,a,p] [I] Gs e.size (λi v=>ord[i]?=Z v) St)/\St 0 s
def AM{s:IR}(T:Ts w s.heap a ss l M t)(h:∀(I:KM)(n:SZ) d,(∀b o,s.heap.get? b=Z o->n.get? b=Z o)->Ready prog w s.heap.objs.size a l I { s with heap:=n,drawn:=d }->I<n.objs.size->Q (.ref I) { s with heap:=n,drawn:=d }) :
  PP (KB prog w) A (pyIter (.ref a)) Q E s:=by
 have G:=T.at_;have JM:=ZY G;have ty:s.TypeIs (.ref a) "set" := ⟨_,G,rfl⟩
 refine WY ty F.slot_set_iter (Xr F.slot_set_iter ty B7 ?_ (F.args_set_iter_1 _));refine Zx (Zo ?_);refine Zx (Zx (Zx (Y4 G Y T.tb.fit (Zo (Zo ?_)))));have u:∀(Q:Bool->IR->Prop)(E:Xf),Q (NB w) s->PP (KB prog w) A.in1 setsByText Q E s:=λQ E q=>Zx (X4 (Zo q));refine Zx (Zx (Y4 G Y T.tb.fit (Zx (u _ _ (Zo ?_)))));refine(show PP _ _ (if (!NB w&&(!t.plain&&decide (l.size > 1)))=O then _ else _) _ _ _ from ?_);have fin:∀(first:On)(m:SZ)(d:_),(∀b o,s.heap.get? b=Z o->m.get? b=Z o)->Ready prog w s.heap.objs.size a l m.objs.size { s with heap:=m.push (NT first 0 a l.size M),drawn:=d } →
   PP (KB prog w) A.in1 (do
    let e ← setEpoch a
    let v ← newFields "set_iterator" [first,rawInt 0,Value.ref a,rawInt l.size,rawInt e]
    ret v) (λf s'=>∃v,f=.done (.ret v)/\∃T' r,s'.TypeIs v T'/\typeLookup (Value.type T') (Str.ofString "__next__")=pure (Z r)/\Q v s') E { s with heap:=m,drawn:=d }:=λfirst m d kp rd=>by
  refine Zx (wpAny_setEpoch_of (kp _ _ G) Y T.tb.fit (Zx (YJ (Zo ⟨_,rfl, "set_iterator",_,⟨_,Zg _ Y,rfl⟩,nV.lookup,?_⟩))));exact h m.objs.size _ d (λb o e=>Zp _ (kp b o e)) rd (by rw[Yk];exact ZG _)
 have JP:=Zh JM;cases hb:NB w with
 |true =>
  rw[Zl (by simp)];refine Zx (Zo (fin (rawInt 0) s.heap s.drawn (λb o e=>e) ⟨(pickOrder (w.params.setOrder a M) l).toList.map (·.2),s.heap.objs.size,(mq _ _).map _,Zm _,Zm _,_,λN C =>
   nS (t:=t) (λ_=>rawInt 0) (λ_=>True) (by simp) (by simp) JP (λ_ _ _ _=>trivial) ?step ?stop,⟨Zp _ G,Zg _ Y,trivial⟩⟩))
  case step =>
   intro i s1 H J B m h2 _ q;have hl:(pickOrder (w.params.setOrder a M) l).size=l.size:=by rw[← Z2,(mq _ l).length_eq,Z2]
   refine iD C m T.tb.fit h2 (λQ E z=>wF hb m T.tb.fit Q E z) (λx nx e n u g=>?_) λe=>?_
   ·rw[YD (by lia)]at e;cases e;exact q _ n (by rw[Zd,Yv,YD (by lia)];rfl) u g
   ·rw[YD (by lia)]at e;cases e
  case stop =>
   intro s1 H J m h2 _ q;refine iD C m T.tb.fit h2 (λQ E z=>wF hb m T.tb.fit Q E z) (λx nx e n u g=>?_) λe=>q;rw[XE (by exact XG (by rw[← Z2,(mq _ l).length_eq,Z2]))]at e;cases e
 |false =>
  by_cases m:l.size > 1
  ·rw[Zn (by rw[T.tb.pl (by exact Nat.ne_zero_of_lt m)];simp[m])];refine Zx (B3 _ _ _ _ (by simp) λq d z=>Zx (YJ (fin _ _ d (λb o e=>Zp _ e) ?_) ?_))
   ·have VR:q.length=l.size:=by rw[z.length_eq,ZX]
    have VQ:∀j∈q,j<l.size:=λj hj=>ZJ.mp (z.mem_iff.mp hj);refine⟨q.map λj=>((l[j]?).map (·.2)).getD .none,s.heap.objs.size,?_,by rw[Yk];exact YQ _,Zm _,_,λN C =>
     nS (t:=t) (λ_=>.ref s.heap.objs.size) (λh=>h.get? s.heap.objs.size=Z { cls:=.type "tuple",data:=.seq (q.map λ(k:Nat)=>rawInt k).toArray }) (by simp) (by simp)
      (by rw[Yk];exact Zh (Ys JM)) (λx y e k=>k _ (by simp) (by rw[Yk];exact Zh (ZG _)) _ e) ?step ?stop,⟨Zp _ (Zp _ G),Zg _ Y,Zp _ (Zg _ Y)⟩⟩
    case step =>
     intro i s1 H J B p D g3 X;refine oT C p T.tb.fit D g3 Y (λj x e1 e2 n u g=>X _ n ?_ u g) (λj e=>VQ j (Yz e)) λe=>?_
     ·rw[Zd,e1];simp[e2]
     ·rw[Zs (by lia)]at e;cases e
    case stop =>
     intro s1 H J p D g3 X;refine oT C p T.tb.fit D g3 Y (λj x e1 e2 n u g=>?_) (λj e=>VQ j (Yz e)) λe=>X;rw[Z7 (by exact XG VR)]at e1;cases e1
    refine(z.map _).trans (List.Perm.of_eq ?_);apply Xk;intro i;rw[Zd,Zd];by_cases B:i<l.size
    ·rw[Yf B,Yv,YD B];simp[B]
    ·rw[Z7 (by rw[ZX];exact ZI B),Yv,XE (by exact ZI B)];rfl
   ·show _<=KF;have VR:q.length=l.size:=by rw[z.length_eq,ZX]
    have:=WX T.Mf;simp;lia
  ·rw[Zl (by simp[m])];have TF:t.place.size=l.size:=by
    have:=T.tb.fit;unfold SetTable.fits at this;simp at this;exact this.1
   have T9:∀(i P:Nat)(s1:IR),s1.heap.get? a=Z (tu l M t)->∀(N:SB)(Q:Option (On×Nat)->IR->Prop)(E:Xf),Q (match l[SetTable.below t.place P]?,t.place[SetTable.below t.place P]? with | some (_,x),some j=>some (x,j+1) | _,_=>none) s1 →
     PP (KB prog w) N (setNext a P i M) Q E s1:=λi P s1 g N Q E z=>yD hb g T.tb.fit (by rw[T.tb.led,hb];rfl) (by exact ZI m) Q E z
   by_cases h0:l.size=0
   ·refine Zx (Zo (fin (rawInt 0) s.heap s.drawn (λb o e=>e) ⟨[],s.heap.objs.size,by rw[(Array.eq_empty_of_size_eq_zero h0)];exact YG _,Zm _,Zm _,_,λN C =>
     nS (t:=t) (λ_=>rawInt 0) (λ_=>True) (by simp) (by simp) JP (λ_ _ _ _=>trivial) ?step ?stop,⟨Zp _ G,Zg _ Y,trivial⟩⟩))
    case step=>exact λi s1 H J B=>absurd B (by lia)
    case stop =>
     intro s1 H J p D _ q;refine iD C p T.tb.fit D (T9 l.size 0 s1 p _) (λx nx e n u g=>?_) λe=>q;rw[XE (by lia)]at e;cases e
   ·have U:l.size=1:=by lia
    obtain⟨x0,Pu⟩:∃x,l=#[x]:=yH U;obtain⟨j0,S⟩:∃j,t.place=#[j]:=yH (by exact Eq.trans TF U);have b0:SetTable.below t.place 0=0:=by rw[S];simp[SetTable.below,SetTable.below.go]
    have b1:SetTable.below t.place (j0+1)=1:=by rw[S];simp[SetTable.below,SetTable.below.go]
    refine Zx (Zo (fin (rawInt 0) s.heap s.drawn (λb o e=>e) ⟨[x0.2],s.heap.objs.size,by rw[Pu];exact YG _,Zm _,Zm _,_,λN C =>
     nS (t:=t) (λi=>.int ((if i=0 then 0 else j0+1:Nat):Int) 0) (λ_=>True) (by simp) (by simp) JP (λ_ _ _ _=>trivial) ?step ?stop,⟨Zp _ G,Zg _ Y,trivial⟩⟩))
    case step =>
     intro i s1 H J B p D _ q;have hi0:i=0:=by lia
     subst hi0;refine iD C p T.tb.fit D (T9 0 0 s1 p _) (λx nx e n u g=>?_) λe=>?_
     ·rw[b0,Pu,S]at e;cases e;exact q x0.2 n Y u g
     ·rw[b0,Pu,S]at e;cases e
    case stop =>
     intro s1 H J p D _ q;rw[U]at D;refine iD C p T.tb.fit (by rw[U];exact D) (T9 1 (j0+1) s1 p _) (λx nx e n u g=>?_) λe=>q;rw[b1,XE (by exact ZI m)]at e;cases e
def Ah{s:IR}(d:s.TypeIs (.ref a) "set")(h:Q R s):PP (KB prog w) A (Builtin.List.listLengthHint (.ref a)) Q E s:=by
 refine Zx (wpAny_specialOf d PySem.F.slot_set_len.lookup ?_);generalize f:("set.__len__" : String)=nm
 wp_delta
 rw[show splitId nm=Z ("set", "__len__") from by subst f;decide +kernel];subst f;exact Zx (wpAny_isInstance (T := "set") (b:=O) d sub_set_self (wpAny_ite_split (λe=>absurd e (by decide)) λ_=>wpAny_ite_split (λ_=>Zx (wpAny_typeOf d (Zo h))) λe=>absurd (by decide +kernel) e))
def Cd{s:IR}{R:Vz->IR->Prop}(hh:A.handled=L)(T:Ts w s.heap a C n U t)(h:∀(Q:SZ) d (tk:Nat) (z:Vz),(∀b o,s.heap.get? b=Z o->Q.get? b=Z o)->(∀v∈z,∃x u,v=Value.str x u)->(z.map strOf).Perm C->R z { s with heap:=Q,drawn:=d,toks:=tk }) :
  PP (KB prog w) A (collect (.ref a)) R E s:=by
 have N:=T.at_;have JM:=ZY N;have hz:=WX T.Mf;refine Zx (wpAny_runValue (Yg entry_proto_collect' ?_));rw[Yx PySem.F.plain_proto_collect];refine Zx (YJ (Zo ⟨YM PySem.F.plain_list_iadd _,Yg entry_list_iadd' ?_⟩));rw[Yx PySem.F.plain_list_iadd];refine(show PP _ A.in1 (Builtin.List.listExtendWith (.ref s.heap.objs.size) (.ref a) (.ref s.heap.objs.size)) _ _ _ from ?_);have H:Ts w (s.heap.push { cls:=.type "list",data:=.seq ([]).toArray }) a C n U t:=⟨Zp _ N,T.tb,T.Nz,T.pm,T.nd,T.Mf⟩
 refine Zx (wpAny_typeOf (⟨_,H.at_,rfl⟩) ?_);rw[Zl (by
  have:Builtin.List.listSameRef (.ref s.heap.objs.size) (.ref a)=false:=by simp[Builtin.List.listSameRef];exact Xy JM
  rw[this];decide)]
 refine Zx (AM H λI h1 d kp rd hI=>?_);obtain⟨ord,p,J,D,NX,St,W,st⟩:=rd;refine Zx (Yj (Ah (⟨_,kp _ _ H.at_,rfl⟩) ?_));have ZK:=ZS (by rw[Yk];exact ZG _) D;have off:s.heap.objs.size∉[I,a,p]:=by
  simp only[Zk,Y8,or_false,not_or];exact⟨Zh ZK,Xy JM,Zh (ZS (by rw[Yk];exact ZG _) NX)⟩
 have W1:=W A.in1 hh;have loop:∀(g:SZ)(c:Nat),(∀b o,b≠s.heap.objs.size->h1.get? b=Z o->g.get? b=Z o)->g.get? s.heap.objs.size=Z { cls:=.type "list",data:=.seq #[] c } →
   codeAny (KB prog w) A (.builtin "list.extend.loop" ⟨[.ref s.heap.objs.size,.ref I,.ref s.heap.objs.size],[]⟩) (λr f=>∃acc y,r=.ok (.ret (.ref s.heap.objs.size))/\f.heap.get? s.heap.objs.size=Z { cls:=.type "list",data:=.seq acc y }/\R acc.toList f) { s with heap:=g,drawn:=d }:=λg c m j=>by
  refine codeAny_extend_loopS W1 hz s.heap.objs.size off _ n.size 0 _ #[] c Y (Yw _) (W1.frame 0 _ g s.toks st (Zm _) λb hb o e=>m b o (λq=>off (q ▸ hb)) e) j (ItemsOf.nil _) λf acc y l G P=>⟨acc,y,rfl,G,?_⟩
  obtain⟨h3,g3,X,B,os3⟩:=f;have e1:=l.gens;have e2:X=d:=l.drawn;have e3:=l.os;subst e1 e2 e3;have Ro:acc.toList=ord:=by
   apply Xk;intro i;rw[Yv];cases e:acc[i]? with
   |some v=>exact(P.2 i v e).symm
   |none =>
    have h5:ord.length=n.size:=by rw[J.length_eq];simp
    exact(Z7 (by rw[h5,← P.1];exact(Array.getElem?_eq_none_iff.mp e))).symm
  refine h h3 X B acc.toList (λb o e=>?_) (λv M=>?_) ?_
  ·have hb:=ZY e;refine l.heap b o (λJY=>?_) (m b o (Zh hb) (kp b o (Zp _ e)));simp only[Zk,Y8,or_false]at JY;rcases JY with q | q
   ·exact Zh hb q
   ·exact Zh (X5 hb ZK) q
  ·rw[Ro]at M;obtain⟨e,he,rfl⟩:=Za.mp (J.mem_iff.mp M);obtain⟨x,u,rfl⟩:=T.Nz e he;exact⟨x,u,rfl⟩
  ·rw[Ro];refine(J.map strOf).trans (List.Perm.trans (List.Perm.of_eq ?_) T.pm);rw[ZO];rfl
 have S:=kp _ _ (Zg _ Y);rw[Zn (by decide)];have j:=Yq (Obj.mapSeq (·.push Value.none)) S Y;refine Zx (wpAny_rule (Zx ?_));refine(?_);refine Zx (Wy S Y (Wy j Y (Zo ⟨YM PySem.F.plain_extend_loop _,(λg c m j =>
  XQ (loop g c m j) (R':=λr f=>match r with | .ok (.ret v)=>PP (KB prog w) A (match v with | .ref a=>load a >>= λo=>(match o.data with | .seq xs _=>pure xs.toList | _=>unsupported "internal:collect") | _=>unsupported "internal:collect") R E f | .ok _=>False | .error e=>E e f) λr f hq=>by
   obtain⟨acc,y,e,G,q⟩:=hq;subst e;exact Zx (wpAny_load G (Zo q))) _ _ (λb o hb e=>?_) (Yq (Obj.mapSeq (·.pop)) j Y)⟩)))
 exact(Yd _ _ (Ye hb)).trans ((Yd _ _ (Ye hb)).trans e)
end ST
end
section
namespace L2
open PySem PySem.Spec PyProof.Rows TS
section
noncomputable def CT(w:UF)(a:KM)(d:List Str):HO:=.ext λ_ h=>∃b e f t,ST.Ts w h a b e f t/\∀y,y∈b↔y∈d
def Inv.drew(I:Inv X a J H s)(d:Drawn):Inv X a J H { s with drawn:=d } :=
 ⟨I.ok,I.os,I.bare,I.base,I.loc,I.cell,I.free,I.JE,I.pin,I.p0,I.len⟩
def xo{X:Cx}(y:X.calm=O):dj X (.type "set") (λe H Q=>∃p,∃b:List Str,e=[.ref p]/\IT X.K H p (b.map V.str)/\b.length+1<scanBound/\∀l,H l=L->Q (.ref l) (upd H l (CT X.w l b))):=by
 intro g s J H e P Q I j h;refine L2.ak λP_ n=>?_;obtain⟨p,b,rfl,r,hb,q⟩:=h;obtain⟨u,rfl,m⟩:=j.one;cases m;obtain⟨U,f,pl,Y⟩:=I.list r;obtain⟨o,A⟩:=sY f;refine n ?_;refine ST.yK (I.ok.hd y) pl.isList (λi v d=>?_) (by simpa using(by have:=f.length;simpa using this.symm)) hb λz S N M B t T hm kp=>?_
 ·rw[Xm]at d;obtain⟨x,t,rfl⟩:=o v (Yz d);refine⟨x,t,rfl,?_⟩;rw[← A,Zd,d];rfl
 ·refine⟨.ref s.heap.objs.size,_,I.laid kp (Zm _) (show dN X.prog X.w _ z _ (CT X.w s.heap.objs.size b) from⟨⟨N,M,B,t,T,hm⟩,⟨_,T.at_⟩,λh1 h2 ⟨G,F,E,D,a,C⟩ k=>⟨G,F,E,D,⟨k _ a.at_,a.tb,a.Nz,a.pm,a.nd,a.Mf⟩,C⟩⟩),rfl,q _ (I.p0.fresh (Zm _))⟩
end
end L2
namespace VS
open PySem PySem.Spec PyProof.Rows L2
section
theorem ig:∀(l:List Tx)(x:Tx),x∈dedup l↔x∈l
 |[],x=>by simp[dedup]
 |a :: l,x=>by
  simp only[dedup,Zk,Yp,ig l x,ne_eq,decide_not,Bool.not_eq_eq_eq_not,Bool.not_true,decide_eq_false_iff_not];by_cases h:x=a
  ·simp[h]
  ·simp[h]
theorem jd:∀(l:List Tx),(dedup l).Nodup
 |[]=>by simp[dedup]
 |a :: l=>by
  simp only[dedup,Zf];exact⟨by simp,(jd l).filter _⟩
def E9:bootBuiltins ("set" : Str)=Z (.type "set"):=by decide +kernel
def Hn{a b:Tx}(h:sx a=sx b):a=b:=by
 have:=congrArg (λs:Str=>s.cps.toList) h;simpa[sx] using this
end
inductive Kk(G:Gx)(H:Hp):List Ky->V->V->Prop
 |nil (v:V):Kk G H [] v v
 |fld {c k:Nat} {a dx:KM} {fs:List (Str×V)} {u w:V} {ks:List Ky}:H a=some (.ins (G.ct (c+1)).1 dx fs)->fs.lookup ((G.ct (c+1)).2 k)=some u->Kk G H ks u w->Kk G H (.fld k :: ks) (.ref a) w
 |ix {a:KM} {vs:List V} {i:Int} {j:Nat} {u w:V} {ks:List Ky}:H a=some (.lst vs)->JL vs.length i=some j->vs[j]?=some u->Kk G H ks u w->Kk G H (.at (.int i) :: ks) (.ref a) w
 |key {a:KM} {cg:List (Key×V)} {k:Key} {u w:V} {ks:List Ky}:H a=some (.dK cg)->gQ cg k=some u->Kk G H ks u w->Kk G H (.at (aX k) :: ks) (.ref a) w
 |un {v w:V} {ks:List Ky}:Kk G H ks v w->Kk G H (.un :: ks) v w
section
def vg{f:Wv}{i j:Nat}{F h:Wg}(d:f.flatten.Nodup)(b:f[i]?=Z F)(e:f[j]?=Z h)(n:i≠j){a:KM}(g:a∈F):a∉h:=by
 intro hb
 induction f generalizing i j with
 |nil=>simp at b
 |cons G Gs l =>
  rw[Yl,ZR]at d;cases i with
  |zero =>
   simp at b;subst b;cases j with
   |zero=>exact n Y
   |succ j=>exact d.2.2 a g a (dF (by simpa using e) hb) Y
  |succ i =>
   cases j with
   |zero =>
    simp at e;subst e;exact d.2.2 a hb a (dF (by simpa using b) g) Y
   |succ j=>exact l d.2.1 (by simpa using b) (by simpa using e) (by lia)
def cN{d:Wv}(h:a∈(d.set j f).flatten):a∈f\/∃i F,i≠j/\d[i]?=Z F/\a∈F:=by
 obtain⟨i,F,b,g⟩:=gn h;by_cases e:i=j
 ·subst e;rw[List.getElem?_set_self' ]at b
  simp_all
 ·rw[YN (Ye e)]at b;exact .inr ⟨i,F,e,b,g⟩
theorem eK:∀{p:Wv}{j:Nat}{f:Wg},p.flatten.Nodup->f.Nodup->(∀i F,i≠j->p[i]?=Z F->∀a∈F,a∉f)->(p.set j f).flatten.Nodup
 |[],_,_,h,_,_=>by simpa using h
 |G :: Gs,0,f,h,o,d=>by
  rw[Yl,ZR]at h;rw[List.set_cons_zero,Yl,ZR];refine⟨o,h.2.1,λa g b hb e=>?_⟩;subst e;obtain⟨i,F,m,l⟩:=gn hb;exact d (i+1) F (by lia) (by simpa using m) a l g
 |G :: Gs,j+1,f,h,o,d=>by
  rw[Yl,ZR]at h;rw[List.set_cons_succ,Yl,ZR];refine⟨h.1,eK h.2.1 o λi F n q=>d (i+1) F (by lia) (by simpa using q),λa g b hb e=>?_⟩;subst e;rcases cN hb with z | ⟨i,F,n,m,l⟩
  ·exact d 0 G (by lia) Y a g z
  ·exact h.2.2 a g a (dF m l) Y
def RpL.each:∀{f:List V}{e:Vr}{g:Wv},RpL G H f e g->(∀(i:Nat) v t F,f[i]?=Z v->e[i]?=Z t->g[i]?=Z F->Rp G H v t F->Rp G h v t F)->RpL G h f e g:=by
 intro f e
 induction e generalizing f with
 |nil=>intro g r k;cases r;exact .nil
 |cons t e j =>
  intro g r k;cases r with
  |cons r q=>exact .cons (k 0 _ _ _ Y Y Y r) (j q λi v t F a b c d=>k (i+1) v t F a b c d)
theorem RpL.setAt:∀{e:List V}{f:Vr}{m:Wv}{j:Nat}{u:V}{o:T}{p:Wg},RpL G H e f m->e[j]?=Z u->Rp G l u o p->(∀(i:Nat) v t F,i≠j->e[i]?=Z v->f[i]?=Z t->m[i]?=Z F->Rp G H v t F->Rp G l v t F)->RpL G l e (f.set j o) (m.set j p)
 |_,_,_,_,_,_,_,.nil,h,_,_=>by simp at h
 |_,_,_,0,_,_,_,.cons r q,h,g,k=>by
  simp at h;subst h;exact .cons g (RpL.each q λi v t F a b c d=>k (i+1) v t F (by lia) (by simpa using a) (by simpa using b) (by simpa using c) d)
 |_,_,_,j+1,_,_,_,.cons r q,h,g,k=>.cons (k 0 _ _ _ (by lia) Y Y Y r) (RpL.setAt q (by simpa using h) g λi v t F n a b c d=>k (i+1) v t F (by lia) (by simpa using a) (by simpa using b) (by simpa using c) d)
def nF(M:H a=Z o)(E:RpL G H q D d)(e:(a :: d.flatten).Nodup)(N:q[j]?=Z u)(y:d[j]?=Z B)(g:Chg G H u B C p m):p a=Z o/\RpL G p q (D.set j C) (d.set j m)/\(a :: (d.set j m).flatten).Nodup/\(∀b∈a :: (d.set j m).flatten,b∈a :: d.flatten\/H b=L)/\∀b o,b∉a :: d.flatten->H b=Z o->p b=Z o:=by
 rw[Zf]at e;have A:∀b∈B,b∈d.flatten:=λb hb=>dF y hb;refine⟨g.keep a o (λz=>e.1 (A a z)) M,E.setAt N g.rp (λi v t F n l f P r=>r.keep g.kept λb hb s w=>g.keep b s (vg e.2 P y n hb) w),?_,λb hb=>?_,λb s hb w=>g.keep b s (λz=>hb (Zw _ (A b z))) w⟩
 ·rw[Zf];refine⟨λh=>?_,eK e.2 g.nd (λi F n J b hb x=>by
  rcases g.sub b x with z | z
  ·exact vg e.2 J y n hb z
  ·exact IU.pe (E.Jh b (dF J hb)) z)⟩
  rcases cN h with z | ⟨i,F,n,l,f⟩
  ·rcases g.sub a z with z | z
   ·exact e.1 (A a z)
   ·rw[M]at z;cases z
  ·exact e.1 (dF l f)
 ·rcases Zk.mp hb with rfl | hb
  ·exact .inl Zu
  ·rcases cN hb with z | ⟨i,F,n,l,f⟩
   ·rcases g.sub b z with z | z
    ·simp_all
    ·exact .inr z
   ·exact .inl (Zw _ (dF l f))
theorem qY{α β:Type}:∀(d:List α)(bs:List β)(i:Nat)(a:α)(y:β),d[i]?=Z a->(d.zip bs).set i (a,y)=d.zip (bs.set i y)
 |[],_,_,_,_,h=>by simp at h
 |a :: d,[],i,_,_,_=>by cases i<;>simp
 |a :: d,b :: bs,0,_,y,h=>by simp at h;subst h;rfl
 |a :: d,b :: bs,i+1,_,y,h=>by
  have:=qY d bs i _ y (by simpa using h);simp[this]
theorem kM{α β:Type}(p:α->Bool):∀{d:List α}{bs:List β}{i:Nat},d.length=bs.length->(d.zip bs).findIdx? (λq=>p q.1)=Z i->∃a b,d[i]?=Z a/\bs[i]?=Z b/\p a=O/\(d.zip bs).find? (λq=>p q.1)=Z (a,b)
 |[],[],_,_,h=>by simp at h
 |a :: d,b :: bs,i,hl,h=>by
  rw[ZL,WD]at h;by_cases e:p a=O
  ·rw[Zn e]at h;cases h;exact⟨a,b,rfl,rfl,e,by simp[e]⟩
  ·rw[Zl e]at h;refine L2.ak λt g=>?_;obtain⟨j,f,rfl⟩:=Zt.mp h;obtain⟨s,r,o,n,m,l⟩:=kM p (by simpa using hl) f
   simp_all
def kP(k a:Key):eqT (aX a) (aX k)=O↔a=k:=by
 cases k with
 |inl i=>cases a<;>simp[aX]
 |inr x =>
  obtain⟨⟨x⟩⟩:=x;cases a with
  |inl j=>simp[aX]
  |inr y=>obtain⟨⟨y⟩⟩:=y;simp[aX]
theorem vY:∀{ns:List Key}{d:Vr}{a:List V}{i:Nat},ns.length=d.length->ns.length=a.length->((ns.map aX).zip d).findIdx? (λq=>eqT q.1 (aX k))=Z i->a[i]?=Z u->gQ (ns.zip a) k=Z u
 |[],_,_,_,_,_,h,_=>by simp at h
 |n :: ns,t :: d,v :: a,i,m,l,h,e=>by
  rw[Zj,ZL,WD]at h;by_cases b:eqT (aX n) (aX k)=O
  ·rw[Zn b]at h;cases h;simp at e;subst e;exact ju ((kP k n).mp b)
  ·rw[Zl b]at h;obtain⟨j,g,rfl⟩:=Zt.mp h;have f:n≠k:=λz=>b ((kP k n).mpr z);have:gQ ((n :: ns).zip (v :: a)) k=gQ (ns.zip a) k:=by simp[gQ,f]
   rw[this];exact vY (by simpa using m) (by simpa using l) g (by simpa using e)
 |_ :: _,[],_,_,h,_,_,_=>by simp at h
 |_ :: _,_ :: _,[],_,_,h,_,_=>by simp at h
def eW(r:Rp G H v (.obj (c+1) (h :: i)) F):∃(f:Nat)(a l:KM)(b:Bool)(e:Vx)(d:List V)(g:Vr)(j:Wv),c+1=f+1/\v=.ref a/\h=(0,.bl b)/\i=e.zip g/\F=a :: j.flatten ∧
  H a=Z (.ins (G.ct (f+1)).1 l ((e.map (G.ct (f+1)).2).zip d))/\e.length=d.length/\(b=O->G.me 0=Z (.ref a))/\RpL G H d g j:=r.inv
def DJ(r:Rp G H v (.obj 0 [(0,.bl O),(m,t)]) F):∃a,v=.ref a/\G.me m=Z (.ref a)/\Rp G H (.ref a) t F:=r.inv _ _ Y
def sF{G:Gx}{c e:Nat}(o:∀c k g:Nat,(G.ct c).2 k=(G.ct c).2 g->k=g){d:Vx}{b:List V}{f:Vr}{u:V}{i:Nat}(h:d.length=b.length)(a:(d.zip f).findIdx? (λq=>q.1==e)=Z i)(l:d[i]?=Z e)(n:b[i]?=Z u):((d.map (G.ct c).2).zip b).lookup ((G.ct c).2 e)=Z u:=by
 induction d generalizing b f i with
 |nil=>simp at l
 |cons m v p =>
  cases b with
  |nil=>simp at h
  |cons t bs =>
   cases f with
   |nil=>simp at a
   |cons s f =>
    rw[Zj,ZL,Y9];rw[ZL,WD]at a;by_cases q:(m==e)=O
    ·rw[Zn q]at a;cases a
     simp_all
    ·rw[Zl q]at a;obtain⟨j,r,rfl⟩:=Zt.mp a;have:((G.ct c).2 e==(G.ct c).2 m)=R:=by
      grind
     rw[this];exact p (by simpa using h) r (by simpa using l) (by simpa using n)
def HD{α:Type}{f:T->Option (T×α)}{y:α}(e:pm f (.un :: d) t=Z (a,y)):∃m x z,t=.obj 0 [(0,.bl O),(m,x)]/\pm f d x=Z (z,y)/\a=.obj 0 [(0,.bl O),(m,z)]:=by
 cases t with
 |obj c fs =>
  cases c with
  |succ c=>cases e
  |zero =>
   cases fs with
   |nil=>cases e
   |cons q fs =>
    obtain⟨n,v⟩:=q;cases n with
    |succ n=>cases e
    |zero =>
     cases v with
     |bl b =>
      cases b with
      |false=>cases e
      |true =>
       cases fs with
       |nil=>cases e
       |cons g fs =>
        obtain⟨m,x⟩:=g;cases fs with
        |cons _ _=>cases e
        |nil =>
         obtain⟨⟨z,h⟩,e1,e2⟩:=Zt.mp e;cases e2;exact⟨_,_,_,rfl,e1,rfl⟩
     |_=>cases e
 |_=>cases e
noncomputable abbrev PmC(G:Gx)(H:Hp){α:Type}(f:T->Option (T×α))(g:List Ky)(v:V)(e:T)(F:Wg)(y:α):Prop:=∃w x a b,Kk G H g v w/\Rp G H w x a/\a.Nodup/\f x=Z (b,y)/\∀d h,Chg G H w a b d h->∃i,Chg G H v F e d i
def oz{G:Gx}{α:Type}{f:T->Option (T×α)}:∀(ks:List Ky){v:V}{t t':T}{F:Wg}{y:α},(∀c k k':Nat,(G.ct c).2 k=(G.ct c).2 k'->k=k')->Rp G H v t F->F.Nodup->pm f ks t=Z (t',y) →
  PmC G H f ks v t' F y:=by
 intro ks
 induction ks with
 |nil=>intro v t t' F y _ r nd e;exact⟨v,t,F,t',.nil v,r,nd,e,λE o g=>⟨o,g⟩⟩
 |cons ky ks ih =>
 intro v t t' F y inj r nd e;cases ky with
 |fld k =>
  cases t with
  |obj c fs0 =>
   cases c with
   |zero=>cases e
   |succ c =>
   cases fs0 with
   |nil=>cases e
   |cons q0 fs =>
   refine L2.ak λP_ U=>?_;obtain⟨i,X,e⟩:=Zz.mp e;obtain⟨p,h2,e⟩:=Zz.mp e;obtain⟨⟨z,y'⟩,e1,e2⟩:=Zt.mp e;cases e2;obtain⟨c',a,dx,b,ns,vs,ts,Fs,ec,rfl,rfl,rfl,rfl,D,hl,hb,d⟩:=eW r;cases ec;obtain⟨C,q,g1,g2,g3,g4⟩:=kM (λn=>n==k) (hl.trans d.len.1) X;have ek:C=k:=by simpa using g3
   subst ek;have ep:p=(C,q):=by
    have:(ns.zip ts)[i]?=Z (C,q):=by rw[YF];exact⟨g1,g2⟩
    simp_all
   subst ep;obtain⟨u,Fi,B,A,u3⟩:=d.get i g2;obtain⟨w,x,Y,J,S,Q,P,N,M⟩:=ih inj u3 (((Zf.mp nd).2).sublist (cZ A)) e1;refine U ?_;refine⟨w,x,Y,J,.fld (c:=c) D (sF inj hl X g1 B) S,Q,P,N,λE o g=>?_⟩;obtain⟨Fi',h⟩:=M E o g;obtain⟨s1,s2,s3,s4,s5⟩:=nF D d nd B A h;refine⟨_,h.kept,s5,h.Jh,?_,s3,s4⟩;rw[qY ns ts i C z g1];exact .ins s1 hl hb s2
  |_=>cases e
 |un =>
  refine L2.ak λP_ U=>?_;obtain⟨m,x,z,rfl,e1,rfl⟩:=HD e;obtain⟨a,rfl,hm,rx⟩:=DJ r;obtain⟨w,q,Y,J,S,Q,P,N,M⟩:=ih inj rx nd e1;refine U ?_;refine⟨w,q,Y,J,.un S,Q,P,N,λE o g=>?_⟩;obtain⟨F',g'⟩:=M E o g;exact⟨F',g'.kept,g'.keep,g'.Jh,.mk hm g'.rp,g'.nd,g'.sub⟩
 | «at» k =>
  cases t with
  |lst l =>
   cases k with
   |int i =>
    refine L2.ak λP_ U=>?_;obtain⟨j,X,e⟩:=Zz.mp e;obtain⟨q,h2,e⟩:=Zz.mp e;obtain⟨⟨z,y'⟩,e1,e2⟩:=Zt.mp e;cases e2;obtain⟨a,vs,Fs,rfl,rfl,D,d⟩:=r.lst_inv;obtain⟨u,Fi,B,A,u3⟩:=d.get j h2;obtain⟨w,x,Y,J,S,Q,P,N,M⟩:=ih inj u3 (((Zf.mp nd).2).sublist (cZ A)) e1;refine U ?_;refine⟨w,x,Y,J,.ix D (by rw[d.len.1];exact X) B S,Q,P,N,λE o g=>?_⟩;obtain⟨Fi',h⟩:=M E o g;obtain⟨s1,s2,s3,s4,s5⟩:=nF D d nd B A h;exact⟨_,h.kept,s5,h.Jh,.lst s1 s2,s3,s4⟩
   |_=>cases e
  |dct kd l =>
   cases kd with
   |zero =>
    have hk:iK k=O/\((l.findIdx? λp=>eqT p.1 k).bind λi=>(l[i]?).bind λp=>(pm f ks p.2).map λz=>(T.dct 0 (l.set i (p.1,z.1)),z.2))=Z (t',y):=by
     cases k with
     |int i=>exact⟨rfl,e⟩
     |str s=>exact⟨rfl,e⟩
     |_=>cases e
    obtain⟨hk,e⟩:=hk;obtain⟨i,X,e⟩:=Zz.mp e;obtain⟨p,h2,e⟩:=Zz.mp e;obtain⟨⟨z,y'⟩,e1,e2⟩:=Zt.mp e;cases e2;obtain⟨a,ns,vs,ts,Fs,rfl,rfl,D,hl,rfl,d⟩:=fB r;have ON:(ns.map aX).length=ts.length:=by rw[Zy];exact hl.trans d.len.1
    obtain⟨C,q,g1,g2,g3,g4⟩:=kM (λn=>eqT n k) ON X;have ep:p=(C,q):=by
     have:((ns.map aX).zip ts)[i]?=Z (C,q):=by rw[YF];exact⟨g1,g2⟩
     simp_all
    subst ep;obtain⟨kk,Nb⟩:∃kk:Key,k=aX kk:=by
     cases k with
     |int i=>exact⟨.inl i,rfl⟩
     |str s=>exact⟨.inr (sx s),by simp[aX,sx]⟩
     |_=>cases hk
    refine L2.ak λP_ U=>?_;subst Nb;obtain⟨u,Fi,B,A,u3⟩:=d.get i g2;obtain⟨w,x,Y,J,S,Q,P,N,M⟩:=ih inj u3 (((Zf.mp nd).2).sublist (cZ A)) e1;refine U ?_;refine⟨w,x,Y,J,.key D ?_ S,Q,P,N,λE o g=>?_⟩
    ·exact vY (by simpa using ON) hl X B
    ·obtain⟨Fi',h⟩:=M E o g;obtain⟨s1,s2,s3,s4,s5⟩:=nF D d nd B A h;refine⟨_,h.kept,s5,h.Jh,?_,s3,s4⟩;rw[qY (ns.map aX) ts i C z g1];exact .dct s1 hl s2
   |succ kd=>cases e
  |_=>cases e
end
section
def Kk.same{H:Hp}(e:aI H d)(p:Kk G H b v w):Kk G d b v w:=by
 induction p with
 |nil v=>exact .nil v
 |fld h l _ a=>exact .fld (e _ _ h) l a
 |ix h l m _ a=>exact .ix (e _ _ h) l m a
 |key h l _ a=>exact .key (e _ _ h) l a
 |un _ a=>exact .un a
theorem Kk.split:∀{d:List Ky}{v:V},Kk G H (d++[k]) v w->∃u,Kk G H d v u/\Kk G H [k] u w
 |[],v,p=>⟨v,.nil v,p⟩
 |_ :: d,_,.fld h l p=>let ⟨u,a,b⟩:=Kk.split p;⟨u,.fld h l a,b⟩
 |_ :: d,_,.ix h l m p=>let ⟨u,a,b⟩:=Kk.split p;⟨u,.ix h l m a,b⟩
 |_ :: d,_,.key h l p=>let ⟨u,a,b⟩:=Kk.split p;⟨u,.key h l a,b⟩
 |_ :: d,_,.un p=>let ⟨u,a,b⟩:=Kk.split p;⟨u,.un a,b⟩
theorem ic:∀{way:List Lz}{i:List Ky},keys (way++[s]) U=Z i->∃f k,keys way U=Z f/\keys [s] U=Z [k]/\i=f++[k]
 |[],i,e=>by
  cases s with
  |fld k=>cases e;exact⟨[],.fld k,rfl,rfl,rfl⟩
  |un=>cases e;exact⟨[],.un,rfl,rfl,rfl⟩
  |ix c =>
   obtain⟨x,j,g⟩:=Zz.mp (e);cases g;exact⟨[],.at x.2,rfl,by simp_all,rfl⟩
 |.fld k :: way,i,e=>by
  refine L2.ak λo l=>?_;obtain⟨n,j,g⟩:=Zt.mp (e);obtain⟨f,m,a,b,c⟩:=ic j;refine l ?_;exact⟨.fld k :: f,m,by show ((keys _ _).map _)=_;rw[a];rfl,b,by rw[← g,c];rfl⟩
 |.un :: way,i,e=>by
  refine L2.ak λo l=>?_;obtain⟨n,j,g⟩:=Zt.mp (e);obtain⟨f,m,a,b,c⟩:=ic j;refine l ?_;exact⟨.un :: f,m,by show ((keys _ _).map _)=_;rw[a];rfl,b,by rw[← g,c];rfl⟩
 |.ix c :: way,i,e=>by
  refine L2.ak λo l=>?_;obtain⟨x,h0,h⟩:=Zz.mp (e);obtain⟨n,j,g⟩:=Zt.mp h;obtain⟨f,m,a,b,d⟩:=ic j;refine l ?_;exact⟨.at x.2 :: f,m,by show ((_:Option _).bind _)=_;rw[h0];rw[a];rfl,b,by rw[← g,d];rfl⟩
def RO(G:Gx)(i:Nat)(a:List Lz):TE:=λJ H Q=>∃M U t b v w,SR G M U J H/\U[i]?=Z (Z (.ow t))/\J[i]?=Z (Z v)/\keys a U=Z b/\Kk G H b v w/\∀d,aI H d->Q w d
def LZ(G:Gx)(X:Cx)(e:Expr)(i:Nat)(a:List Lz):Prop:=PE X e (RO G i a)
def PE.MG(h:PE X e t)(w:∀J H Q,RO G i a J H Q->t J H Q):LZ G X e i a:=λb s J H Q I q=>h b s J H Q I (w J H Q q)
def bK{X:Cx}(i:Nat)(g:{`q8,X.N[i]?=Z x})(a:Lg X.env.scope x:=by exact .inl Y)(f:{`q8,K3 x})(n:{`q8,K4 x}):LZ G X (.Name x pos) i [] :=
 PE.MG (fR g a f n) λJ H Q d=>by
  obtain⟨M,U,t,o,v,w,s,p,m,l,j,h⟩:=d;cases (l);cases j;exact⟨v,m,h H (aI.refl _)⟩
structure JQ(G:Gx)(K:Wu)(k:Nat)(f:Str):Prop where
 nm:∀c,(G.ct (c+1)).2 k=f
 cl:∀c,Kc K (G.ct (c+1)).1
 no:∀c,bf K (G.ct (c+1)).1 f
def fO{X:Cx}(k:Nat)(F:JQ G X.K k f)(h:LZ G X e i way)(m:{`q8,UV e f X.env (eval e X.env)=eval e X.env}):LZ G X (.Attribute e f pos) i (way++[.fld k]) :=
 PE.MG (AF h m) λJ H Q l=>by
  refine L2.ak λN j=>?_;obtain⟨M,U,t,D,v,w,s,y,x,r,p,o⟩:=l;obtain⟨A,E,a,b,rfl⟩:=ic r;cases (b);obtain⟨u,p1,g⟩:=p.split;refine j ?_;refine⟨M,U,t,A,v,u,s,y,x,a,p1,λB d=>?_⟩;cases g with
  |@fld c _ a z fs C _ _ n hl q =>
   cases q;rw[F.nm c]at hl;exact⟨a,_,z,fs,w,rfl,d a _ n,F.cl c,F.no c,hl,o B d⟩
def Dl{X:Cx}(S:oe C X.A)(h:LZ G X e i way)(hb:PV G X b c)(P:iV b)(hK:X.K=G.K):LZ G X (.Subscript e b pos) i (way++[.ix c]) :=
 PE.MG (qf (Mp.or o9 (qz (lK S))) h hb P) λJ H Q Y=>by
  refine L2.ak λP_ D=>?_;obtain⟨M,U,t,ks,v,w,s,h1,h2,h3,h4,h5⟩:=Y;obtain⟨Mw,k',a,b',rfl⟩:=ic h3;obtain⟨⟨B,x⟩,ec,e2⟩:=Zz.mp (b');cases e2;obtain⟨u,p1,r⟩:=h4.split;refine D ?_;refine⟨M,U,t,Mw,v,u,s,h1,h2,a,p1,λH1 d=>⟨M,U,B,x,s.same d,ec,λy H2 F2 m r2 f2=>?_⟩⟩;have q:=h5 H2 (d.trans m);cases ((r.same d).same m) with
  |@ix a o E j p _ _ g hl N f =>
   cases f;refine .inl (.inl ⟨a,o,E,w,rfl,r2.int_inv,IT.of g,j4 hl N,q⟩)
  |@key a cg l p _ _ g hl f =>
   cases f;refine .inr ⟨a,w,rfl,?_,q⟩;have F:y=kV l:=by
    cases l with
    |inl n=>exact r2.int_inv
    |inr z =>
     have:=r2.str_inv.1;rw[this];simp[kV,sx]
   rw[F,← hl];exact ik.k g
@[simp] def iW(i:Nat)(a:List Lz)(f:T->Vt->Option (T×Val))(h:Jj)(U:VS.Env):Option (Val×VS.Env):=match U[i]? with
 |some (some (.ow t))=>(keys a U).bind λg=>(h U).bind λd=>(pm (λx=>f x d) g t).map λz=>(z.2,U.set i (Z (.ow z.1)))
 |_=>L
noncomputable def kA(G:Gx):Prop:=∀c k a:Nat,(G.ct c).2 k=(G.ct c).2 a->k=a
def Af{pos apos:Pos}(Jq:kA G)(pa:PlainAttrs p)(d:Slot p a m)(OT:typeOf (.builtin m)=pure (.type "method_descriptor"))(hm:PN X m r)(ok:vz G r f)(hT:∀H v t F l z,Rp G H v t F->f t l=Z z->NI G.K p v H)(ho:LZ G X o i way)(ha:JF G X (e :: es) cs)(hK:X.K=G.K)(IV:UV o a X.env (eval o X.env)=eval o X.env)(Jm:((backTo cp (Pv (e :: es) X.env)).all (λx=>!x.1)&&(backToKw cp (SC [] X.env)).all (λx=>x.1.isSome)
   && decide ((e :: es).length+([]:List Keyword).length+(if ([]:List Keyword).isEmpty then 0 else 1)<30))=O)(IK:(apos.endLine==cp.line)=O)(hs:K1 e es X)(IJ:K2 cp es X)(K8:swapsWith (.Call (.Attribute o a apos) (e :: es) [] cp) L pos.line X.env=pure R) :
  PSV G X (.Expr (.Call (.Attribute o a apos) (e :: es) [] cp) pos) (sX (iW i way f cs)) :=
 PS.weak (jR (sy pa d OT hm ho ha IV Jm IK hs IJ) K8) λD J H hq=>by
  obtain⟨M,U,out,s,e,k⟩:=hq;refine L2.ak λP_ k_=>?_;unfold sX iW at e;obtain⟨⟨x',U'⟩,e1,e2⟩:=Zt.mp e;split at e1
  ·rename_i t h;obtain⟨C,ek,e3⟩:=Zz.mp e1;obtain⟨l,el,e4⟩:=Zz.mp e3;obtain⟨⟨t',x2⟩,e5,e6⟩:=Zt.mp e4;cases e6;cases e2;obtain⟨v,E,h2⟩:=s.rp _ _ h;obtain⟨w,x,F1,S,w1,A,w3,y,Y⟩:=oz C Jq h2 (s.nd i t h) e5;refine k_ ?_;refine⟨M,U,t,C,v,w,s,h,E,ek,w1,λH0 j=>⟨by rw[hK];exact hT H0 w x _ l _ (A.same j) y,M,U,l,s.same j,el,λvs H' Fs q1 q2 B=>?_⟩⟩;refine ok M U H H' w x S F1 l vs Fs x2 _ A w3 ⟨j.trans q1,q2,⟨λn v' q a1 a2=>(B.each n v' q a1 a2).back j,B.nd⟩⟩ y λu N q g=>?_;obtain⟨F2,g2⟩:=Y N q g;obtain⟨Q,P⟩:=s.mut h E g2;exact k _ J N Q P
  ·cases e1
end
section
def kR(k v:Val):T->Option (T×Unit)
 |.lst l=>match k.2 with
  |.int n=>(fit v).bind λt=>(JL l.length n).map λj=>(.lst (l.set j t),())
  |_=>L
 |.dct 0 l=>if iK k.2/\IS v.2/\l.length<fN then Z (.dct 0 (dput l k.2 v.2),()) else L
 |_=>L
def gm(i:Nat)(a:List Lz)(k e:Ex)(U:VS.Env):Option Out:=(e U).bind λv=>match U[i]? with
 |some (some (.ow t))=>(keys a U).bind λf=>(k U).bind λd=>(pm (kR d v) f t).map λz=>.nx (U.set i (Z (.ow z.1)))
 |_=>L
theorem RpL.putAt:∀{d:List V}{f:Vr}{g:Wv}(j:Nat){u:V}{x:T}{F:Wg},RpL G H d f g->Rp G H u x F->RpL G H (d.set j u) (f.set j x) (g.set j F)
 |_,_,_,_,_,_,_,.nil,_=>.nil
 |_,_,_,0,_,_,_,.cons r q,a=>.cons a q
 |_,_,_,j+1,_,_,_,.cons r q,a=>.cons r (RpL.putAt j q a)
theorem wB(u:Rp G H l t []):∀{a:List Key}{j:List V}{s:Vr}{y:Wv},a.length=j.length->RpL G H j s y →
  ∃f h g,(a.zip j).map (λm=>if m.1=d then (m.1,l) else m)=a.zip f/\a.length=f.length/\((a.map aX).zip s).map (λp=>if eqT p.1 (aX d) then (p.1,t) else p)=(a.map aX).zip h/\RpL G H f h g/\g.flatten.Sublist y.flatten
 |[],[],_,_,_,.nil=>⟨[],[],[],rfl,rfl,rfl,.nil,W3 _⟩
 |k :: a,v :: j,_,_,hl,.cons (t:=A) (F:=F) r q=>by
  refine L2.ak λJ B=>?_;obtain⟨f,h,g,D,x,C,w,E⟩:=wB u (by simpa using hl) q;refine B ?_;by_cases n:k=d
  ·refine⟨l :: f,t :: h,[] :: g,?_,by simp[x],?_,.cons u w,?_⟩
   ·rw[ZL,Zj,D,ZL];simp[n]
   ·rw[Zj,ZL,Zj,C,ZL];simp[((kP d k).mpr n)]
   grind
  ·have e:¬eqT (aX k) (aX d)=O:=λz=>n ((kP d k).mp z);refine⟨v :: f,A :: h,F :: g,?_,by simp[x],?_,.cons r w,?_⟩
   ·simp_all
   ·simp_all
   grind
theorem ua{kk:Key}:∀{a:List Key}{d:List V}{f:Vr},a.length=d.length->a.length=f.length->((a.zip d).any λg=>decide (g.1=kk))=(((a.map aX).zip f).any λp=>eqT p.1 (aX kk))
 |[],_,_,_,_=>by simp
 |k :: a,v :: d,t :: f,l,j=>by
  rw[Zj,ZL,ZL,Xn,Xn,ua (by simpa using l) (by simpa using j)];have:decide (k=kk)=eqT (aX k) (aX kk):=by rw[Xo,decide_eq_true_eq];exact(kP kk k).symm
  rw[this]
 |_ :: _,[],_,h,_=>by simp at h
 |_ :: _,_ :: _,[],_,h=>by simp at h
def qI(u:Rp G H q t []){a:List Key}{g:List V}(d:a.length=g.length)(l:RpL G H g j s) :
  ∃(r:List Key)(f:List V)(n:Vr)(m:Wv),putK (a.zip g) kk q=r.zip f/\r.length=f.length/\dput ((a.map aX).zip j) (aX kk) t=(r.map aX).zip n/\RpL G H f n m/\m.flatten.Sublist s.flatten:=by
 unfold putK dput;rw[(ua (kk:=kk) d (d.trans l.len.1))];by_cases h:(((a.map aX).zip j).any λp=>eqT p.1 (aX kk))=O
 ·rw[Zn h,Zn h];refine L2.ak λB v=>?_;obtain⟨f,n,m,A,z,y,x,w⟩:=wB u d l;refine v ?_;exact⟨a,f,n,m,A,z,y,x,w⟩
 ·rw[Zl h,Zl h];refine⟨a++[kk],g++[q],j++[t],s++[[]],?_,by simp[d],?_,l.append (.cons u .nil),by simp⟩
  ·rw[List.zip_append d];rfl
  ·rw[ZD,List.zip_append (by rw[Zy];exact d.trans l.len.1)];rfl
def Dh:Ca:=λo i v H Q=>Do o i v H Q\/∃a d,o=.ref a/\u0 H a i v d/\Q d
def AN{X:Cx}(n:X.A.units+1<cLine):En X Dh:=by
 intro d s J H o i v m iv u Q I j l f h;rcases h with h | ⟨a,r,rfl,g,q⟩
 ·exact set_list d s J H o i v m iv u Q I j l f h
 ·cases j;exact xY n I g l f λt p=>⟨r,p,q⟩
def lN{X:Cx}{pos:Pos}(Jq:kA G)(hr:oe kr X.A)(ho:LZ G X o i way)(hk:PV G X b ck)(he:PV G X e ce)(ha:∀v,assign (.Subscript o b pos') X.env v=(do
   let Q ← holding [v] (eval o X.env)
   let iv ← holding [v,Q] (eval b X.env)
   standAt pos'
   holding [v,Q,iv] (setItem Q iv v)
   release [v,Q,iv] []):=by exact λ_=>rfl)(hs:{`q8,swapsWithSole [.Subscript o b pos'] e pos.line X.env=pure R})(hw:{`q8,swappedStores [.Subscript o b pos'] e X.env=pure L})(C:{`q8,(assignEach [.Subscript o b pos'] X.env).map (·.2)=[assign (.Subscript o b pos') X.env]}):PSV G X (.Assign [.Subscript o b pos'] e pos) (gm i way ck ce) :=
 PS.weak (uq he (uO ho hk (AN (lK hr)) ha) hs hw C) λD J H hq=>by
  obtain⟨M,U,out,s,e,k⟩:=hq;refine L2.ak λP_ S=>?_;obtain⟨⟨mv,B⟩,ev,e⟩:=Zz.mp e;split at e
  ·rename_i t Y;obtain⟨ks,ek,e⟩:=Zz.mp e;obtain⟨⟨mk,f⟩,Nb,e⟩:=Zz.mp e;obtain⟨⟨t',y'⟩,e5,e6⟩:=Zt.mp e;cases e6;obtain⟨v,g1,g2⟩:=s.rp _ _ Y;obtain⟨w,x,F1,x3,w1,w2,w3,y,w5⟩:=oz ks Jq g2 (s.nd i t Y) e5;refine S ?_;refine⟨M,U,mv,B,s,ev,λxv H1 Fv JK rv fv=>?_⟩;refine⟨M,U,t,ks,v,w,s.same JK,Y,g1,ek,w1.same JK,λH2 Jt=>⟨M,U,mk,f,(s.same JK).same Jt,Nb,λkv H3 Fk Ki rk fk=>?_⟩⟩;have m:=(JK.trans Jt).trans Ki;have Nk:=(rv.same Jt).same Ki;have fin:∀N u,Chg G H w F1 x3 N u->D.nx J N:=λN u g=>by
    obtain⟨F2,PF⟩:=w5 N u g;obtain⟨z1,z2⟩:=s.mut Y g1 PF;exact k _ J N z1 z2
   refine L2.ak λP_ S=>?_;cases x with
   |lst l =>
    cases f with
    |int n =>
     obtain⟨tt,et,e7⟩:=Zz.mp (y);obtain⟨j,ej,e8⟩:=Zt.mp e7;cases e8;cases (kK et);obtain⟨a,vs,Fs,rfl,rfl,F,p⟩:=w2.lst_inv;have E:=m a _ F;have nd:=Zf.mp w3;have na:a∉Fv:=λz=>by rw[fv.2 a z]at F;cases F
     have q:IU (H3 a):=by rw[E];exact True.intro
     have off:=λd hb hv=>IU.pe (p.Jh d hb) (fv.2 d hv);refine S ?_;refine .inl ⟨a,vs,n,j,rfl,rk.int_inv,E,by rw[← uN,p.len.1];exact ej,fin _ (a :: (Fs.set j Fv).flatten) ?_⟩;refine Chg.upd m Zu q (.lst ay ((((p.same m).off q nd.1)).putAt j ((λr hn=>r.keep (Kept.upd (.inl q)) λd hb o' LV=>by rw[aD (λz=>hn (by rw[← z];exact hb))];exact LV) Nk na))) ?_ ?_
     ·rw[Zf];refine⟨λh=>?_,eK nd.2 fv.1 λi' u _ hi d hb=>off d (dF hi hb)⟩;rcases cN h with z | ⟨i',u,_,C,h2⟩
      ·exact na z
      ·exact nd.1 (dF C h2)
     ·intro d hb;rcases Zk.mp hb with rfl | hb
      ·exact .inl Zu
      ·rcases cN hb with z | ⟨i',u,_,C,h2⟩
       ·exact .inr (fv.2 d z)
       ·exact .inl (Zw _ (dF C h2))
    |_=>cases y
   |dct kd l =>
    cases kd with
    |zero =>
     have hc:(iK f=O/\IS B=O/\l.length<fN)/\x3=.dct 0 (dput l f B):=by
      have w4':(if iK f/\IS B/\l.length<fN then Z (T.dct 0 (dput l f B),()) else L)=Z (x3,y'):=y
      simp_all
     obtain⟨⟨c1,c2,c3⟩,rfl⟩:=hc;have eF:=Nk.IS c2;subst eF;obtain⟨a,ns,vs,ts,Fs,rfl,rfl,F,hl,rfl,p⟩:=fB w2;obtain⟨kk,rfl,Na⟩:=d7 rk c1;subst Na;have E:=m a _ F;have q:IU (H3 a):=by rw[E];exact True.intro
     have nd:=Zf.mp w3;obtain⟨OP,KA,KC,Kl,q1,q2,q3,q4,P⟩:=qI Nk hl (p.same m);refine S ?_;refine .inr ⟨a,_,rfl,u0.k E (by
      have:((ns.map aX).zip ts).length<16777216:=c3;rw[YL,Zy]at this;rw[YL];have:=p.len.1;have:(KF:Nat)=16777216:=rfl;lia),fin _ (a :: Kl.flatten) ?_⟩
     rw[q1,q3];refine Chg.upd m Zu q (.dct ay q2 (q4.off q λz=>nd.1 (P.subset z))) ?_ ?_
     ·exact Zf.mpr ⟨λz=>nd.1 (P.subset z),nd.2.sublist P⟩
     ·intro d hb;rcases Zk.mp hb with rfl | hb
      ·exact .inl Zu
      ·exact .inl (Zw _ (P.subset hb))
    |succ n=>cases y
   |_=>cases y
  ·cases e
end
noncomputable def Ue(K:Wu):Gx:=⟨K,λ_=>(0,λk=>⟨#[k]⟩),λ_=>L⟩
end VS
end
section
namespace L2
open PySem PySem.Spec PyProof.Rows
section
def uJ{X:Cx}(p:X.calm=O):dj X (.type "list") (λb H Q=>∃x:Str,b=[.str x]/\x.cps.size<=KF/\∀l,H l=L->Q (.ref l) (upd H l (.lst (x.cps.toList.map λc=>V.str ⟨#[c]⟩)))):=by
 intro e s J H b y Q I m h;obtain⟨x,rfl,o,q⟩:=h;obtain⟨u,rfl,t,rfl⟩:=vals1 m;refine call_list_str (I.ok.hd p) x t (λr z acc c kp g j=>?_) o;refine⟨.ref s.heap.objs.size,_,I.laid kp (Zm _) (show dN X.prog X.w _ r _ (.lst (x.cps.toList.map λc=>V.str ⟨#[c]⟩)) from⟨by simp_all,acc.toList,c,(by
  have key:∀(cs:Vx)(a:Vz),cs.length=a.length->(∀(i:Nat)(v:On),a[i]?=Z v->∃c u,cs[i]?=Z c/\v=.str ⟨#[c]⟩ u)->aU (cs.map λc=>V.str ⟨#[c]⟩) a:=by
   intro cs
   induction cs with
   |nil =>
    intro a hl _;cases a with
    |nil=>exact .nil
    |cons v a=>simp at hl
   |cons c cs n =>
    intro a hl hg;cases a with
    |nil=>simp at hl
    |cons v a =>
     obtain⟨d,u,e1,e2⟩:=hg 0 v Y;cases e1;exact .cons ⟨u,e2⟩ (n a (by simpa using hl) λi w hw=>by simpa using hg (i+1) w (by simpa using hw))
  refine key _ _ (by rw[Z2,Z2,j.1]) λi v f=>?_;rw[Yv]at f;obtain⟨d,u,e1,e2⟩:=j.2 i v f
  simp_all),g⟩),rfl,q _ (I.p0.fresh (Zm _))⟩
noncomputable def kh:Int->Vw->Int
 |i,[]=>i
 |i,j :: r=>kh (if j > i then j else i) r
theorem nW:∀(l:Vw)(i:Int),(i<=kh i l/\∀j∈l,j<=kh i l)/\(kh i l=i\/kh i l∈l)
 |[],i=>⟨⟨Int.le_refl _,λj h=>by simp at h⟩,.inl Y⟩
 |a :: l,i=>by
  obtain⟨⟨d,m⟩,g⟩:=nW l (if a > i then a else i);unfold kh;have b:i<=(if a > i then a else i)/\a<=(if a > i then a else i):=by split<;>lia
  refine⟨⟨Int.le_trans b.1 d,λj f=>?_⟩,?_⟩
  ·rcases Zk.mp f with e | e
   ·subst e;exact Int.le_trans b.2 d
   ·exact m j e
  ·rcases g with e | e
   ·split at e
    ·rename_i h;rw[Zn h,e];exact .inr Zu
    ·rename_i h;rw[Zl h,e];exact .inl Y
   ·exact .inr (Zw _ e)
def B8{i:Int}{d:Int}(g:d∈i :: l)(f:∀j∈i :: l,j<=d):d=kh i l:=by
 obtain⟨⟨a,b⟩,c⟩:=nW l i;have u:kh i l<=d:=by
  rcases c with e | e
  ·rw[e];exact f i Zu
  ·exact f _ (Zw _ e)
 have v:d<=kh i l:=by
  rcases Zk.mp g with e | e
  ·rw[e];exact a
  ·exact b d e
 lia
def wM{X:Cx}(E:X.calm=O):dj X (.builtin "max") (λo H Q=>∃p,∃(n:Int)(ns:Vw),o=[.ref p]/\IT X.K H p ((n :: ns).map V.int)/\Q (.int (kh n ns)) H):=by
 intro r s J H o G Q I x h;refine L2.ak λU y=>?_;obtain⟨p,n,ns,rfl,B,q⟩:=h;obtain⟨u,rfl,g⟩:=x.one;cases g;obtain⟨a,f,pl,N⟩:=I.list B;refine y ?_;have hl:p<s.heap.objs.size:=by obtain⟨_,e,_⟩:=pl.isList;exact ZY e
 have hlen:a.toArray.size=ns.length+1:=by have:=f.length;simp at this ⊢;exact Eq.symm this
 have val:∀(i:Nat)(v:On),a.toArray[i]?=Z v->∃t,v=.int (((n :: ns)[i]?).getD 0) t:=λi v l=>by
  have d:a[i]?=Z v:=by simpa using l
  cases e:(n :: ns)[i]? with
  |none =>
   have:=f.none_of (i:=i) (by rw[Zd,e];rfl);rw[this]at d;cases d
  |some m =>
   obtain⟨u,z,g⟩:=f.get (i:=i) (by rw[Zd,e];rfl);rw[z]at d;cases d;obtain⟨t,rfl⟩:=g;exact⟨t,by simp⟩
 refine call_max_walk (XA pl.isList ⟨s.heap.objs.size,[s.heap.objs.size,p],[s.heap.objs.size],a.toArray.size,_,_,λi j=>decide (((n :: ns)[i]?).getD 0 > ((n :: ns)[j]?).getD 0),rfl,WQ (A:=X.A.in1) (I.ok.hd E) _ p (Zh hl) a.toArray,
  ⟨⟨_,Zg _ Y,rfl,rfl⟩,pl.isList.push _⟩,λb hb=>?_,by lia,CmpOf.ints_gt (λi=>((n :: ns)[i]?).getD 0) val,λv P M l C=>?_⟩)
 ·rw[Yk];rcases Zk.mp hb with rfl | hb
  ·exact ZG _
  ·rw[ZZ.mp hb];exact Ys hl
 ·obtain⟨t,rfl⟩:=val _ _ l;obtain⟨S,F⟩:=argBest_gt (λi=>((n :: ns)[i]?).getD 0) (a.toArray.size-1);refine⟨.int (kh n ns),H,I.kept (vP C),⟨t,?_⟩,q⟩;congr 1;refine B8 ?_ λj D=>?_
  ·have hb:argBest (λi j=>decide (((n :: ns)[i]?).getD 0 > ((n :: ns)[j]?).getD 0)) (a.toArray.size-1)<(n :: ns).length:=by simp only[Ze];omega
   rw[Zs hb];exact Z5 hb
  ·obtain⟨i,w,e⟩:=List.getElem_of_mem D;have:=F i (by simp at w;lia);rw[Zs w,Y6,e]at this;exact this
end
end L2
namespace VS
open PySem PySem.Spec PyProof.Rows L2
section
def mQ:Vt->Vs
 |[(m,.lst l)]=>Lu m l
 |[(m,.tup l)]=>Lu m l
 |[(_,.str s)]=>Lu .fr (s.map λc=>.str [c])
 |_=>L
def ze:eU G (λd H Q=>Dx G.K d H Q\/∃x:Str,d=[.str x]/\x.cps.size<=KF/\∀l,H l=L->Q (.ref l) (upd H l (.lst (x.cps.toList.map λc=>V.str ⟨#[c]⟩)))) mQ:=by
 intro M U i H l f j m t Q A e k;unfold mQ at e;split at e
 ·exact .inl (vQ M U i H _ f j m t Q A e k)
 ·exact .inl (vQ M U i H _ f j m t Q A e k)
 ·rename_i B x;obtain⟨v,F,rfl,rfl,h⟩:=(A.rp).one;have g:=h.str_inv.2;refine .inr ⟨sx x,by rw[h.str_inv.1],?_,λq r=>?_⟩
  ·have:=g.1;exact this
  ·have z:(sx x).cps.toList.map (λc=>V.str ⟨#[c]⟩)=(x.map λc=>[c]).map λs=>V.str (sx s):=by
    simp[sx]
   have w:(x.map λc=>T.str [c])=(x.map λc=>[c]).map T.str:=by simp
   rw[z];rw[w]at e;refine jI A.same e (uD (G:=G) (H:=H) (ss:=x.map λc=>[c]) λs o=>by
    obtain⟨c,u,rfl⟩:=Za.mp o;exact⟨by show 1<=fN;decide,λy n=>by rw[ZZ.mp n];exact g.2 c u⟩) ?_ k q r
   rw[su];exact Fp.nil
 ·cases e
def wC{X:Cx}(d:X.mg "list" = L)(h:JF G X [e] cs)(f:{`q2,Gl X "list"})(i:{`q2,X.K=G.K})(g:{`q2,X.calm=O})(he:{`q2,K1 e [] X}):PV G X (.Call (.Name "list" p) [e] [] pos) (eN mQ cs) :=
 jO (qV.or (uJ g)) (i ▸ ze) f d BW h (he:=he)
def oW:Vt->Vs
 |[(_,.lst l)]=>(iX l).bind fun
  |[]=>L
  |i :: r=>Z (.fr,.int (kh i r))
 |_=>L
def CW:eU G (λd H Q=>∃p,∃(n:Int)(ns:Vw),d=[.ref p]/\IT G.K H p ((n :: ns).map V.int)/\Q (.int (kh n ns)) H) oW:=by
 intro M U s H l o u m t Q A e k;unfold oW at e;split at e
 ·rename_i q x;obtain⟨ns,e1,e2⟩:=Zz.mp e
  match ns,e1,e2 with
  |n :: ns,e1,e2 =>
   refine L2.ak λr h=>?_;cases e2;obtain⟨v,F,rfl,rfl,f⟩:=(A.rp).one;obtain⟨a,j,Gs,rfl,rfl,i,g⟩:=f.lst_inv;have:=nK g e1;subst this;refine h ?_;exact⟨a,n,ns,rfl,IT.of i,bA k (.int _)⟩
 ·cases e
def Ac{X:Cx}(d:X.mg "max" = L)(h:JF G X [e] cs)(g:{`q2,X.calm=O})(f:{`q2,Gl X "max"})(i:{`q2,X.K=G.K})(he:{`q2,K1 e [] X}):PV G X (.Call (.Name "max" p) [e] [] pos) (eN oW cs) :=
 iq (wM g) (i ▸ CW) f d yU h (he:=he)
end
end VS
end
section
open PySem PyProof.Rows
namespace TS
noncomputable abbrev Ky:=Sum Int Str
noncomputable def Th:Ky->Ky->Bool
 |.inl i,.inl j=>decide (i<j)
 |.inr x,.inr y=>decide (x.cps.toList<y.cps.toList)
 |_,_=>R
noncomputable def kind(k:Ky):Bool:=k.isLeft
variable{A:SB}
noncomputable def KyV:Ky->On->Prop
 |.inl i,v=>∃t,v=.int i t
 |.inr x,v=>∃t,v=.str x t
end TS
end
section
namespace ST
open PySem PySem.Spec PyProof.Rows
variable{A:SB}
noncomputable abbrev dO(a:Array DictEntry)(b:Nat):Obj:={ cls:=.type "dict",data:=.dict a b }
noncomputable abbrev kO(d:KM)(i n a:Nat):Obj:={ cls:=.type "dict_keyiterator",data:=.fields #[.ref d,.int i 0,.int n 0,.int a 0] }
def yu{s:IR}(f:(d==sysModules)=R)(a:s.heap.get? d=Z (dO b e))(q:Q (.ref s.heap.objs.size) { s with heap:=s.heap.push (kO d 0 b.size e) }) :
  PP (KB prog w) A (pyIter (.ref d)) Q E s:=by
 have ty:s.TypeIs (.ref d) "dict" := ⟨_,a,rfl⟩
 refine WY ty F.slot_dict_iter (Xr F.slot_dict_iter ty F.entry_dict_iter (?_) (F.args_dict_iter_1 _));unfold Builtin.«dict.__iter__» Builtin.Dict.dictSlotNone Builtin.Dict.showsAll;refine Zx (Zx (wpAny_notOrdered_dict ty (Zo (Zx (Zo ?_)))));rw[Zl (by simp_all)];exact Zx (Zo (Zx (wpAny_dictEntries a Y (Zx (wpAny_dictEpoch a Y (Zx (YJ (Zo ⟨_,rfl, "dict_keyiterator",_,⟨_,Zg _ Y,rfl⟩,Xg.lookup,q⟩))))))))
def rZ{s:IR}{h:Array DictEntry}(t:A.handled=L)(l:s.heap.get? I=Z (kO d i h.size m))(n:s.heap.get? d=Z (dO h m))(y:∀e,h[i]?=Z e->∀a,Heap.SameBut I s.heap a->a.get? I=Z (kO d (i+1) h.size m)->Q (Z e.key) { s with heap:=a })(u:h[i]?=L->∀a,(∀b o,b≠I->s.heap.get? b=Z o->a.get? b=Z o)->Q L { s with heap:=a }):PP (KB prog w) A (pyNext (.ref I)) Q E s:=by
 have ty:s.TypeIs (.ref I) "dict_keyiterator" := ⟨_,l,rfl⟩
 refine Zx (wpAny_attempt (wpAny_callSpecial?_slot ty Xg (Xr Xg ty F.entry_dict_keyiterator_next (YX
  (Q:=λf j=>∃v,f=.done (.ret v)/\Q (Z v) j) (E:=λe j=>∃x,e=.ref x/\(∃o,j.heap.get? x=Z o/\o.cls=.type "StopIteration")/\Q L j) ?_ (λf j ⟨v,e,q⟩=>⟨v,e,Zo q⟩) λe j ⟨x,e1,⟨o,g,c⟩,q⟩=>?_) (F.args_dict_keyiterator_next_1 _))))
 ·refine Zx (Zo (Zx (Zx (Zx (X6 ty (Zo (Zx (wpAny_fieldsOf l Y ?_))))))));have own:Builtin.Dict_items.ownsTuple "dict_keyiterator" = R:=rfl;refine(show PP _ _ (if (Value.ref d==Value.none)=O then _ else _) _ _ s from ?_);rw[Zl (λe:(Value.ref d==Value.none)=true=>Zc e)];refine Zx (Zo (Zx (wpAny_dictEntries n Y ?_)));rw[Zl (by simp)];refine Zx (Zo (Zx (wpAny_dictEpoch n Y ?_)));rw[Zl (by simp)];refine Zo ?_;simp only[show ¬((i:Int)<0) from by lia,↓reduceIte,Yr];cases he:h[i]? with
  |some e =>
   have p:(s.heap.update I (Obj.mapFields (·.setIfInBounds 1 (rawInt ((i:Int)+1))))).get? I=Z (kO d (i+1) h.size m):=Yq _ l Y;refine Zx (Zx (X6 ty (Zo (Zx (wpAny_isOneOf_keyiter ty ?_)))));refine(Zx (Xs l Y (by show 1<4;decide) (Zx (Yj ?_))));refine Zx (wpAny_isOneOf_keyiter ⟨_,p,rfl⟩ ?_);refine(Zo (Zo ⟨_,rfl,y e he _ (Xu ..) p⟩))
  |none =>
   refine Zx (Zx (X6 ty (Zo ?_)));refine(Zx (Xs l Y (by show 0<4;decide) (zA t λa x kp r=>⟨x,rfl,r,u he a λb o hb e=>kp b o ?_⟩)));rw[Yd _ _ (Ye hb)];exact e
 ·subst e1;exact Zx (wpAny_isInstance ⟨o,g,c⟩ isSubtype_stop (Zo q))
end ST
end
section
namespace VS
open PySem PySem.Spec PyProof.Rows L2
def v9{i:Int}:PV G X (.UnaryOp .USub (.Constant (.int i) j p) a) (Q3 (-i)) :=
 PE.weak (Hz FV rK) λJ H Q b=>by
  obtain⟨M,U,m,t,s,e,k⟩:=b;cases (e);exact⟨i,rfl,k _ H [] (aI.refl _) (.int _) Fp.nil⟩
end VS
end
section
namespace VS
open PySem PySem.Spec PyProof.Rows L2
section
def Rp.Lo(r:Rp G H v (.tup g) F):∃b d f,v=.ref b/\H b=Z (.tup d)/\RpL G H d g f:=by
 obtain⟨a,d,f,j,_,h⟩:=r.inv;exact⟨a,d,f,j,h⟩
end
end VS
end
section
namespace L2
open PySem PySem.Spec PyProof.Rows
section
def y9{o:Obj}(h:o.ExactDict)(e:o.data=.dict a b):o=ST.dO a b:=by
 obtain⟨c,d,l,j⟩:=o;obtain⟨i,g,f⟩:=h;subst i g f e;rfl
end
end L2
end
section
namespace VS
open PySem PySem.Spec PyProof.Rows L2
section
def jl{b:Expr}(s:PV G X a i)(o:PV G X b f)(n:PV G X c d)(l:lastMarks [.LtE,.Lt] [b,c]=R):KU G X (.Compare a [.LtE,.Lt] [b,c] pos) (jx oLe oLt i f d) :=
 PT.weak (tR uP q8 s o n l) λJ H Q h=>n6 h (λU m r e=>by
  obtain⟨x,A,e⟩:=Zz.mp e;obtain⟨y,w,e⟩:=Zz.mp e;obtain⟨⟨t,z⟩,u,e⟩:=Zz.mp e;cases z with
  |bl q =>
   cases q with
   |false=>grind
   |true =>
    obtain⟨j,v,e⟩:=Zz.mp (e);exact jE y j m r e
  |_=>cases e) λQ h=>sO An vk h
def uW{pos:Pos}(h:PV G X e a)(i:swapsWith e L pos.line X.env=pure R):PSV G X (.Expr e pos) (sX (xP a)) :=
 PS.weak (jR h i) λD J H d=>by
  obtain⟨M,U,out,s,e,k⟩:=d;obtain⟨⟨v,l⟩,e1,e2⟩:=Zt.mp e;obtain⟨⟨m,t⟩,e3,f⟩:=Zt.mp e1;cases f;cases e2;exact⟨M,U,m,t,s,e3,λv j F e1 r1 f1=>k M J j (s.same e1) (JA.same e1)⟩
@[simp] def sU(i:Nat)(c:Ex)(f:Jj)(U:VS.Env):Option (Val×VS.Env):=match U[i]? with
 |some (some (.ow (.lst l)))=>(c U).bind λd=>(int? d.2).bind λn=>(JL l.length n).bind λj=>(l[j]?).bind λx=>(f U).bind λa=>(aK x a).map λz=>(z.2,U.set i (Z (.ow (.lst (l.set j z.1)))))
 |_=>L
def DD{X:Cx}{pos apos:Pos}(i:Nat)(hN:X.N[i]?=Z x)(hv:Lg X.env.scope x)(hd:K3 x)(Jf:K4 x)(hb:PV G X b cb)(o:iV b)(ha:JF G X [e] cs)(hK:X.K=G.K)(IV:UV (.Subscript (.Name x p1) b p2) "append" X.env (eval (.Subscript (.Name x p1) b p2) X.env)=eval (.Subscript (.Name x p1) b p2) X.env)(Jm:((backTo cp (Pv [e] X.env)).all (λx=>!x.1)&&(backToKw cp (SC [] X.env)).all (λx=>x.1.isSome)
   && decide ([e].length+([]:List Keyword).length+(if ([]:List Keyword).isEmpty then 0 else 1)<30))=O)(IK:(apos.endLine==cp.line)=O)(hs:K1 e [] X)(IJ:(backTo cp (Pv [] X.env)).any (·.1)=R)(K8:swapsWith (.Call (.Attribute (.Subscript (.Name x p1) b p2) "append" apos) [e] [] cp) L pos.line X.env=pure R) :
  PSV G X (.Expr (.Call (.Attribute (.Subscript (.Name x p1) b p2) "append" apos) [e] [] cp) pos) (sX (sU i cb cs)) :=
 PS.weak (jR (sy Y5 XT XU iz (qf vE (fR hN hv hd Jf) hb o) ha IV Jm IK hs IJ) K8) λD J H hq=>by
  refine L2.ak λF d=>?_;obtain⟨M,U,out,s,e,k⟩:=hq;unfold sX sU at e;obtain⟨⟨y',U'⟩,e1,e2⟩:=Zt.mp e;refine d ?_;split at e1
  ·rename_i l0 m;refine L2.ak λF d=>?_;obtain⟨⟨mk,tk⟩,Nb,e3⟩:=Zz.mp e1;obtain⟨n,B,e3⟩:=Zz.mp e3;obtain⟨j,h1,e3⟩:=Zz.mp e3;obtain⟨x0,h2,e3⟩:=Zz.mp e3;obtain⟨l,el,e3⟩:=Zz.mp e3;obtain⟨⟨x3,Y⟩,q,e6⟩:=Zt.mp e3;cases e6;cases e2;refine d ?_;cases tk with
   |int n0 =>
    refine L2.ak λF d=>?_;cases (B);obtain⟨v,A,g2⟩:=s.rp _ _ m;have nd:=s.nd i _ m;obtain⟨a,vs,Fs,rfl,C,E,h⟩:=g2.lst_inv;obtain⟨u,Fj,w,t,r⟩:=h.get j h2;refine d ?_;rw[C]at nd;refine⟨.ref a,A,M,U,mk,_,s,Nb,λy H1 F1 f r1 f1=>?_⟩;refine⟨a,vs,_,u,rfl,r1.int_inv,IT.of (f a _ E),j4 (by rw[h.len.1];exact h1) w,by rw[hK];exact jv (r.same f) q,M,U,l,s.same f,el,λRL H4 Sq q1 q2 z=>?_⟩;refine mN M U H H4 u x0 x3 Fj l RL Sq Y _ r (((Zf.mp nd).2).sublist (cZ t)) ⟨f.trans q1,q2,⟨λn v' P a1 a2=>(z.each n v' P a1 a2).back f,z.nd⟩⟩ q λu' H5 P g=>?_;obtain⟨s1,s2,s3,s4,s5⟩:=nF E h nd w t g;obtain⟨S,Q⟩:=s.mut m A (by
     rw[C];exact⟨g.kept,s5,g.Jh,.lst s1 s2,s3,s4⟩)
    exact k _ J H5 S Q
   |_=>cases B
  ·cases e1
end
section
def Ao{j pos'}(g:PV G X a ca):KU G X (.Compare a [.Is] [.Constant .none j pos'] pos) (uF ca) :=
 PT.weak (zU (A3 g)) λJ H Q h=>Dy h (λU m r e=>by
  obtain⟨x,_,e⟩:=Zz.mp e;grind) λQ f=>by
   obtain⟨M,U,m,r,s,e,q⟩:=f;obtain⟨⟨n,x⟩,i,e⟩:=Zz.mp e;cases e;refine⟨M,U,n,x,s,i,λv d F e1 r1 f1=>?_⟩;show Q (.bl (decide (v=.non))) d;rw[qG r1];exact q _ d _ e1 (.bl _) Fp.nil
def jL{j pos'}(g:PV G X a ca):KU G X (.Compare a [.IsNot] [.Constant .none j pos'] pos) (eY ca) :=
 PT.weak (zU (BM g)) λJ H Q h=>Dy h (λU m r e=>by
  obtain⟨x,_,e⟩:=Zz.mp e;grind) λQ f=>by
   obtain⟨M,U,m,r,s,e,q⟩:=f;obtain⟨⟨n,x⟩,i,e⟩:=Zz.mp e;cases e;refine⟨M,U,n,x,s,i,λv d F e1 r1 f1=>?_⟩;show Q (.bl (!decide (v=.non))) d;rw[qG r1];exact q _ d _ e1 (.bl _) Fp.nil
def pd(i:Nat)(k e:Ex)(U:VS.Env):Option Out:=(e U).bind λv=>match U[i]? with
 |some (some (.ow (.dct 0 l)))=>(k U).bind λd=>if iK d.2/\IS v.2/\l.length<fN then Z (.nx (U.set i (Z (.ow (.dct 0 (dput l d.2 v.2)))))) else L
 |_=>L
def yJ{X:Cx}{pos:Pos}(i:Nat)(hr:oe kr X.A)(hk:PV G X b ck)(he:PV G X e ce)(hN:X.N[i]?=Z x)(hv:Lg X.env.scope x)(hd:K3 x)(Jf:K4 x)(ha:∀v,assign (.Subscript (.Name x p1) b pos') X.env v=(do
   let h ← holding [v] (eval (.Name x p1) X.env)
   let iv ← holding [v,h] (eval b X.env)
   standAt pos'
   holding [v,h,iv] (setItem h iv v)
   release [v,h,iv] []))(hs:swapsWithSole [.Subscript (.Name x p1) b pos'] e pos.line X.env=pure R)(hw:swappedStores [.Subscript (.Name x p1) b pos'] e X.env=pure L)(h1:(assignEach [.Subscript (.Name x p1) b pos'] X.env).map (·.2)=[assign (.Subscript (.Name x p1) b pos') X.env]):PSV G X (.Assign [.Subscript (.Name x p1) b pos'] e pos) (pd i ck ce) :=
 PS.weak (uq he (uO (fR hN hv hd Jf) hk (AN (lK hr)) ha) hs hw h1) λD J H hq=>by
  obtain⟨M,U,out,s,e,k⟩:=hq;obtain⟨⟨mv,o⟩,ev,e⟩:=Zz.mp e;split at e
  ·rename_i l m;obtain⟨⟨mk,tk⟩,Nb,e⟩:=Zz.mp e;split at e
   ·rename_i hc;obtain⟨c1,c2,c3⟩:=hc;cases e;obtain⟨w,u,S⟩:=s.rp _ _ m;have n:=s.nd i _ m;refine⟨M,U,mv,o,s,ev,λxv H1 Fv E rv fv=>⟨w,u,M,U,mk,tk,s.same E,Nb,λkv F Fk C rk fk=>?_⟩⟩;have j:=E.trans C;have y:=rv.same C;have eF:=y.IS c2;refine L2.ak λP_ k_=>?_;subst eF;obtain⟨a,ns,Y,p,Fs,rfl,d,Jn,hl,rfl,q⟩:=fB S;rw[d]at n;obtain⟨t,rfl,Na⟩:=d7 rk c1;subst Na;have B:=j a _ Jn;have r:IU (F a):=by rw[B];exact True.intro
    have nd:=Zf.mp n;obtain⟨OP,KA,KC,Kl,q1,q2,q3,q4,f⟩:=qI y hl (q.same j);refine k_ ?_;refine .inr ⟨a,_,rfl,u0.k B (by
     have:((ns.map aX).zip p).length<16777216:=c3;rw[YL,Zy]at this;rw[YL];have:=q.len.1;have:(KF:Nat)=16777216:=rfl;lia),?_⟩
    have g:Chg G H (.ref a) (M i) (.dct 0 (dput ((ns.map aX).zip p) (aX t) o)) (upd F a (.dK (putK (ns.zip Y) t xv))) (a :: Kl.flatten):=by
     rw[d,q1,q3];refine Chg.upd j Zu r (.dct ay q2 (q4.off r λz=>nd.1 (f.subset z))) ?_ ?_
     ·exact Zf.mpr ⟨λz=>nd.1 (f.subset z),nd.2.sublist f⟩
     ·intro bb hb;rcases Zk.mp hb with rfl | hb
      ·exact .inl Zu
      ·exact .inl (Zw _ (f.subset hb))
    obtain⟨Q,P⟩:=s.mut m u g;exact k _ J _ Q P
   ·cases e
  ·cases e
end
end VS
end
section
namespace DP
open PySem PySem.Spec PyProof.Rows
variable{A:SB}
def Bo:typeLookup (.type "tuple") "keys" = pure L:=by rw[WK,X2];kernel_rfl
def Ba{h:SZ}{os}(l:h.get? a=Z { cls:=.type "tuple",dict:=L,data:=.seq i k,slots:=j })(q:A.handled=L)(p:∀f b e,Heap.NewExcOf h f e "AttributeError" → E (.ref e) ⟨f,g,d,b,os⟩):PP (KB prog w) A (getAttrBy (.ref a) (.str "keys" u) R) Q E ⟨h,g,d,o,os⟩:=by
 have m:∀b,(⟨h,g,d,b,os⟩:IR).TypeIs (.ref a) "tuple" := λ_=>⟨_,l,rfl⟩
 have f1:=sub_AttributeError;have x:=WZ.lookup;have v:=WZ.bind (.ref a);have t:=am_tuple_getattr_none
 repeat (any_goals (first | assumption | exact m _ | ((with_reducible show PP _ _ (call (Value.builtin "tuple.__getattribute__") _ _) _ _ _);refine call_meets WZ (m _) am_entry_tuple_getattribute (F.args_tuple_getattribute_2 _ _) (meets_getattribute_miss_tuple a i k j "keys" _ Bo (by decide +kernel)) ⟨l,q,λf b e n=>?_⟩) | wp_step))
 obtain⟨s,r,he⟩:=n.there;unfold getattributeRaised
 repeat (any_goals (first | assumption | wp_step))
 exact p _ _ _ n.of
end DP
end
section
namespace DP
open PySem PySem.Spec PyProof.Rows L2
variable{A:SB}
def xi{h:SZ}{os}(n:h.get? a=Z { cls:=.type "tuple",dict:=L,data:=.seq j k,slots:=m })(r:A.handled=L)(o:∀b i e,Heap.NewExcOf h b e "AttributeError" → Q L ⟨b,g,d,i,os⟩):PP (KB prog w) A (getAttr? (.ref a) "keys") Q E ⟨h,g,d,l,os⟩:=by
 have f1:=sub_AttributeError
 repeat (any_goals (first | assumption | (with_reducible refine Ba n (by assumption) λb i e f=>?_) | wp_step))
 obtain⟨⟨oc,q,s,t⟩,p,ge,ce,_,_⟩:=f.there;dsimp only at ce;subst ce
 repeat (any_goals (first | assumption | wp_step))
 exact o _ _ _ f
def oG:entryFor table "dict.update.loop" = Z Builtin.«dict.update.loop» := entryFor_of_tree (by kernel_rfl)
def iE:plainId "dict.update.loop" = O:=by decide +kernel
section
variable{R:Result->IR->Prop}
theorem loop{prog:Re}{w:UF}{I:KM}{fp wr:Wg}{G:Array GenState->Array GenState->Prop}{n:Nat}{P:Nat->On->Prop}{St:Nat->IR->Prop}(W:WalksS prog w A.in1 I fp wr G n P St)(d:KM)(X:d∉fp)(N:SZ)(a:Nat->Key×On)(hP:∀i v,P i v->∃p m M j,v=.ref p/\N.get? p=Z { cls:=.type "tuple",dict:=L,data:=.seq #[j,(a i).2] m,slots:=M }/\(aZ prog w).is (a i).1 j=O/\p∉d :: wr)(f:n<=KF) :
  ∀(k i:Nat)(s:IR),n-i=k->i<=n->St i s->(∀b o,b∉d :: wr->N.get? b=Z o->s.heap.get? b=Z o)->s.heap.DictOf (aZ prog w) d (merged [] ((List.range i).map a)) →
   (∀g,Moved (d :: wr) G s g->g.heap.DictOf (aZ prog w) d (merged [] ((List.range n).map a))->R (.ok (.ret .none)) g) →
   codeAny (KB prog w) A (.builtin "dict.update.loop" ⟨[.ref d,.ref I,rawInt i,.none],[]⟩) R s:=by
 have S:=λh=>X (W.sub _ h);have l:∀b∈wr,b∈d :: wr:=λb f=>Zw _ f;intro k
 induction k with
 |zero =>
  intro i s hk hi J y B C;have JY:i=n:=by lia
  subst JY;refine Yg oG ?_;rw[Yx iE _];refine Zx (W.done s _ _ J λg hm=>?_);refine Zx (Zo ?_);exact Zo (C g (hm.mono l) (by
   obtain⟨o,F,H,u,rest⟩:=B;exact⟨o,F,H,hm.heap d _ S u,rest⟩))
 |succ k ih =>
  intro i s hk hi J y B C;have Y:i<n:=by omega
  refine Yg oG ?_;rw[Yx iE _];refine Zx (W.item i s _ _ Y J λv g D MU hm=>?_);refine L2.ak λP_ k_=>?_;obtain⟨p,m,M,j,rfl,hp,x,U⟩:=hP i v D;refine k_ ?_;have Pw:=hm.heap p _ (λz=>U (l p z)) (y p _ U hp);refine Zx (Yj ?_);refine Zx (thn (Q:=λr t=>r=[j,(a i).2]/\t=g) ?pair λr t hr=>?rest)
  case pair =>
   refine XX ?_
   repeat (any_goals (first | assumption | wp_step))
   exact⟨rfl,rfl⟩
  case rest =>
   obtain⟨rfl,rfl⟩:=hr;refine Yj ?_;refine wpAny_dictSet_pairs x (by
   obtain⟨o,F,H,u,rest⟩:=B;exact⟨o,F,H,hm.heap d _ S u,rest⟩) (λh' dd q=>?_) (by have:=merged_length_le [] ((List.range i).map a);simp at this;lia)
   have e1:((i:Int)+1)=((i+1:Nat):Int):=by lia
   rw[e1];refine Zo ⟨YM iE _,ih (i+1) _ (by omega) Y (W.frame _ t _ _ MU (YQ _) λb f o e=>?_) (λb o f e=>?_) (by
    rw[List.range_succ,ZD,show merged ([]:List (Key×On)) ((List.range i).map a++[i].map a)=stored (merged [] ((List.range i).map a)) (a i).1 (a i).2 by unfold merged;rw[List.foldl_append];rfl];exact dd) λQx TL Uc=>?_⟩
   ·rw[q.2 b (λh:b=d=>X (by rw[← h];exact f))];exact e
   ·rw[q.2 b (λh:b=d=>f (by rw[h];exact Zu))];exact hm.heap b _ (λz=>f (l b z)) (y b o f e)
   ·refine C Qx (Moved.trans W.gtrans ((hm.mono l).then_heap (YQ _) λb o f e=>?_) TL) Uc;rw[q.2 b (λh:b=d=>f (by rw[h];exact Zu))];exact e
end
end DP
end
section
namespace DP
open PySem PySem.Spec PyProof.Rows L2
variable{A:SB}
def rX:mroOf (.type "dict")=pure [.type "dict",.type "object"]:=by rw[mroOf_type];kernel_rfl
def nq:typeLookup (.type "dict") "__new__" = pure (Z (.builtin "dict.__new__")):=by rw[WK,X2];kernel_rfl
def tW:TypeCalled "dict" "dict.__new__" "dict.__init__" :=
 ⟨by decide +kernel,by decide +kernel,⟨_,_,rX⟩,madeBy_type rX nq (by decide +kernel),by decide +kernel,by rw[WB];kernel_rfl,F.slot_dict_init⟩
def nh(a:On):checkTypeCall "dict" ⟨[a],[]⟩=pure ():=by kernel_rfl
def n9(a:On):checkBuiltinCall "dict.__new__" ⟨[.type "dict",a],[]⟩=pure ():=by kernel_rfl
def pF:entryFor table "dict.__new__" = Z Builtin.«dict.__new__» := entryFor_of_tree (by kernel_rfl)
def jD:plainId "dict.__new__" = O:=by decide +kernel
def pG:isSubtype (.type "dict") (.type "dict")=pure O:=by rw[WB];kernel_rfl
def pI{s:IR}(a:On)(h:b (.ref s.heap.objs.size) { s with heap:=s.heap.push { cls:=.type "dict",data:=.dict #[] } }) :
  codeAny (KB prog w) A (.call (.builtin "dict.__new__") ⟨[.type "dict",a],[]⟩) (wants b E) s:=by
 refine codeAny_of_tree (Zx (wpAny_of_eq (n9 a) (Zo ⟨YM jD _,Yg pF ?_⟩)));rw[Yx jD];have own:=pG;cases s
 wp_walk
 exact h
def x8{s:IR}{kv:Nat->Key×On}(J:A.handled=L)(H:s.heap.get? a=Z { cls:=.type "tuple",dict:=L,data:=.seq f G,slots:=x })(hz:f.size<=KF)(hp:∀(i:Nat)(v:On),f[i]?=Z v->∃p m y t,v=.ref p/\s.heap.get? p=Z { cls:=.type "tuple",dict:=L,data:=.seq #[t,(kv i).2] m,slots:=y }/\(aZ prog w).is (kv i).1 t=O)(h:∀(l:SZ)(C:Nat),l.DictOf (aZ prog w) s.heap.objs.size (merged [] ((List.range f.size).map kv))->(∀b o,s.heap.get? b=Z o->l.get? b=Z o)->Q (.ref s.heap.objs.size) { s with heap:=l,toks:=C }) :
  PP (KB prog w) A (call (.type "dict") [.ref a]) Q E s:=by
 refine callType_codes (Q₁:=λobj D=>obj=.ref s.heap.objs.size/\D={ s with heap:=s.heap.push { cls:=.type "dict",data:=.dict #[] } }) tW (nh _) F.entry_dict_init (pI _ ⟨rfl,rfl⟩) λobj D hq=>?_;obtain⟨rfl,rfl⟩:=hq;refine⟨(⟨_,Zg _ Y,rfl⟩),F.args_dict_init_2 _ _,?_⟩;obtain⟨j,g,d,C,os⟩:=s;have n:=Zp { cls:=.type "dict",data:=.dict #[] } H;unfold Builtin.«dict.__init__» Builtin.Dict.updateCommon Builtin.Dict.updateFrom;generalize eP:pyIter=itr;generalize eG:getAttr?=ga
 repeat (any_goals (first | assumption | wp_step))
 subst eG;refine xi n (by simp[J]) λz S e ne=>?_;refine Zx (wpAny_rule ?_);subst eP;have u:=ZY (ne.keeps j.objs.size { cls:=.type "dict",data:=.dict #[] } (Zg _ Y));have B:∀{b:KM}{o:Obj},j.get? b=Z o->b<j.objs.size:=λe=>ZY e;have N:∀b o,j.get? b=Z o->z.get? b=Z o:=λb o e=>ne.keeps _ _ (Zp _ e);have tup:z.IsTuple a f:=⟨_,(ne.keeps _ _ n),rfl,G,rfl⟩
 refine Zx (wpAny_pyIter_tuple tup (Zo ⟨YM iE _,?_⟩));have alt:=B H;refine loop ((Walks.tuple (by simp[J]) z.objs.size a (Zh (X5 alt u)) f).toS) j.objs.size (by simp only[Zk,Y8,or_false,not_or];exact⟨Zh u,Xy alt⟩) j kv (λi v hv=>?_) hz f.size 0 _ (by lia) (Yw _) ?_ (λb o hb e=>Zp _ (N b o e)) (by
  refine L2.ak λP_ X=>?_;obtain⟨o,es,ep,ho,rest⟩:=(Heap.DictOf.new (knd:=aZ prog w) j)
  refine X ?_;exact⟨o,es,ep,Zp _ (ne.keeps _ _ ho),rest⟩) λU r dd=>?_
 ·obtain⟨p,m,y,t,rfl,M,g2⟩:=hp i v hv;have:=B M;exact⟨p,m,y,t,rfl,M,g2,by simp only[Zk,Y8,or_false,not_or];exact⟨Zh this,Zh (X5 this u)⟩⟩
 ·exact⟨⟨_,Zg _ Y,rfl,rfl⟩,tup.push _⟩
 ·obtain⟨l,g',d',MI,SO⟩:=U;have e1:g'=g:=r.gens;have e2:d'=d:=r.drawn;have e3:=r.os;subst e1 e2 e3;refine⟨rfl,h l MI dd λb o e=>r.heap b o (λP=>?_) (Zp _ (N b o e))⟩;have:=B e;simp only[Zk,Y8,or_false]at P;rcases P with q | q
  ·exact Zh this q
  ·exact Zh (X5 this u) q
end DP
end
section
namespace L2
open PySem PySem.Spec PyProof.Rows
section
abbrev MD:=KM×Key×V
def Cy(I:Inv X a J H s){q:MD}(h:H q.1=Z (.tup [kV q.2.1,q.2.2])):∃b m e d,RelV q.2.2 b/\s.heap.get? q.1=Z { cls:=.type "tuple",dict:=L,data:=.seq #[d,b] m,slots:=e }/\(aZ X.prog X.w).is q.2.1 d=O:=by
 refine L2.ak λu i=>?_;obtain⟨_,r,f,nd,⟨oc,p,t,o⟩,g,l,n,j⟩:=(I.p0 _ _ h)
 have hd:=nd _ g;subst l j hd;obtain⟨d,b,rfl,r1,r2⟩:=vals2 f;refine i ?_;exact⟨b,n,o,d,r2,g,nc r1⟩
theorem rM(I:Inv X a J H s):∀(ps:List MD),(∀q∈ps,H q.1=Z (.tup [kV q.2.1,q.2.2])) →
  ∃f:List (Key×On),Paired (λ(q:MD) (d:Key×On)=>q.2.1=d.1/\RelV q.2.2 d.2/\∃m e b,s.heap.get? q.1=Z { cls:=.type "tuple",dict:=L,data:=.seq #[b,d.2] m,slots:=e }/\(aZ X.prog X.w).is d.1 b=O) ps f
 |[],_=>⟨[],.nil⟩
 |q :: ps,h=>by
  refine L2.ak λn j=>?_;obtain⟨i,m,e,b,r,g,k⟩:=Cy I (h q Zu);obtain⟨f,p⟩:=rM I ps λx l=>h x (Zw _ l);refine j ?_;exact⟨(q.2.1,i) :: f,.cons ⟨rfl,r,m,e,b,g,k⟩ p⟩
theorem pY{R:MD->Key×On->Prop}(e:∀q d,R q d->q.2.1=d.1/\RelV q.2.2 d.2):∀{ps:List MD}{f:List (Key×On)},Paired R ps f->∀{a:List (Key×V)}{b:List (Key×On)},KV a b->KV (ps.foldl (λacc q=>putK acc q.2.1 q.2.2) a) (merged b f)
 |_,_,.nil,_,_,r=>r
 |_,_,.cons (a:=q) (b:=d) h t,a,b,r=>by
  obtain⟨e1,e2⟩:=e _ _ h;have:=pY e t (r.put d.1 e2);simp only[Xq,merged];rw[e1];exact this
theorem tQ:∀(ps:List MD)(a:List (Key×V)),(ps.foldl (λacc q=>putK acc q.2.1 q.2.2) a).length<=a.length+ps.length
 |[],a=>Zm _
 |q :: ps,a=>by
  have d:=tQ ps (putK a q.2.1 q.2.2);have b:=g9 a q.2.1 q.2.2;simp only[Xq,Ze];lia
def Paired.at_{α β:Type}{R:α->β->Prop}:∀{l:List α}{m:List β},Paired R l m->∀(i:Nat){a:α},l[i]?=Z a->∃b,m[i]?=Z b/\R a b:=by
 intro l m p
 induction p with
 |nil=>intro i a h;cases h
 |cons r t d =>
  intro i a h;cases i with
  |zero=>simp_all
  |succ i=>exact d i h
def uw{X:Cx}(E:X.calm=O):dj X (.type "dict") (λd H Q=>∃(p:KM)(ps:List MD),d=[.ref p]/\H p=Z (.tup (ps.map λq=>V.ref q.1))/\(∀q∈ps,H q.1=Z (.tup [kV q.2.1,q.2.2])) ∧
  ∀l,H l=L->Q (.ref l) (upd H l (.dK (ps.foldl (λacc q=>putK acc q.2.1 q.2.2) [])))):=by
 intro f s J H d U Q I z h;refine L2.ak λS a=>?_;obtain⟨p,ps,rfl,D,C,q⟩:=h;obtain⟨u,rfl,A⟩:=z.one;cases A;obtain⟨o,j,e,nd,⟨oc,od,VB,Lr⟩,g,G,n,F⟩:=(I.p0 _ _ D)
 have hd:=nd _ g;subst G F hd;obtain⟨b,pr⟩:=rM I ps C;refine a ?_;have l1:j.length=ps.length:=by have:=e.length;simpa using this.symm
 have l2:=pr.length.symm;rw[Zy]at o;have P:(List.range j.toArray.size).map (λi=>(b[i]?).getD (.inl 0,.none))=b:=by
  apply Xk;grind
 refine DP.x8 (kv:=λi=>(b[i]?).getD (.inl 0,.none)) (I.ok.hd E) g (by simp;lia) (λi v r=>?_) λh' Y x kp=>?_
 ·rw[Xm]at r;have t:i<ps.length:=by grind
  refine L2.ak λS a=>?_;obtain⟨w,e1,e2⟩:=Paired.at_ e i (by rw[Zd,Zs t];rfl);rw[r]at e1;cases e1;obtain⟨kv,e3,e4,_,m,y,B,N,M⟩:=Paired.at_ pr i (Zs t);refine a ?_;rw[e3];exact⟨ps[i].1,m,y,B,e2,N,M⟩
 ·rw[P]at x;have ln:=tQ ps [];exact⟨.ref s.heap.objs.size,_,I.laid kp (Zm _) (qZ (by simp at ln;exact ZP ln o) (beq_eq_false_iff_ne.mpr (Ye (Zh I.big))) (pY (λ_ _ h=>⟨h.1,h.2.1⟩) pr (.nil:KV [] [])) x),rfl,q _ (I.p0.fresh (Zm _))⟩
end
end L2
end
section
namespace VS
open PySem PySem.Spec PyProof.Rows L2
def rD:Vr->Option (List (T×T))
 |[]=>Z []
 |.tup [k,v] :: r=>if iK k/\IS v then (rD r).map ((k,v) :: ·) else L
 |_=>L
def md:Vt->Vs
 |[(_,.tup l)]=>(rD l).map λps=>(.fr,.dct 0 (ps.foldl (λd q=>dput d q.1 q.2) []))
 |_=>L
section
def B9(h:rD (t :: l)=Z d):∃k v a,t=.tup [k,v]/\iK k=O/\IS v=O/\rD l=Z a/\d=(k,v) :: a:=by
 unfold rD at h;split at h
 ·rename_i b;cases b
 ·rename_i k v r b;cases b;split at h
  ·rename_i c;obtain⟨a,e1,e2⟩:=Zt.mp h;exact⟨k,v,a,rfl,c.1,c.2,e1,e2.symm⟩
  ·cases h
 ·cases h
theorem sA:∀{d:Vr}{ws:List V}{Gs:Wv}{a:List (T×T)},RpL G H ws d Gs->rD d=Z a →
  ∃ps:List MD,ws=ps.map (λq=>V.ref q.1)/\(∀q∈ps,H q.1=Z (.tup [kV q.2.1,q.2.2]))/\Paired (λ(q:MD) (x:T×T)=>x.1=aX q.2.1/\Rp G H q.2.2 x.2 []) ps a
 |[],_,_,a,r,h=>by
  cases r;cases (h);exact⟨[],rfl,λq o=>by simp at o,.nil⟩
 |t :: d,_,_,a,r,h=>by
  obtain⟨k,v,l,rfl,s,n,u,rfl⟩:=B9 h;cases r with
  |cons r1 r2 =>
   refine L2.ak λz f=>?_;obtain⟨ps,e1,e2,e3⟩:=sA r2 u;obtain⟨b,A,B,rfl,hb,q⟩:=Rp.Lo r1;refine f ?_;cases q with
   |cons j q =>
    cases q with
    |cons i q =>
     refine L2.ak λz f=>?_;cases q;obtain⟨m,rfl,w⟩:=d7 j s;have y:=i.IS n;subst y;refine f ?_;refine⟨(b,m,_) :: ps,by rw[e1];rfl,λx g=>?_,.cons ⟨w,i⟩ e3⟩;rcases Zk.mp g with rfl | g
     ·exact hb
     ·exact e2 x g
theorem t8:∀{ps:List MD}{s:List (T×T)},Paired (λ(q:MD) (x:T×T)=>x.1=aX q.2.1/\Rp G H q.2.2 x.2 []) ps s->∀{ns:List Key}{f:List V}{g:Vr}{i:Wv},ns.length=f.length->RpL G H f g i->i.flatten=[] →
  ∃(m:List Key)(j:List V)(o:Vr)(n:Wv),ps.foldl (λacc q=>putK acc q.2.1 q.2.2) (ns.zip f)=m.zip j/\s.foldl (λd q=>dput d q.1 q.2) ((ns.map aX).zip g)=(m.map aX).zip o/\m.length=j.length/\RpL G H j o n/\n.flatten=[]
 |_,_,.nil,ns,f,g,i,hl,r,l=>⟨ns,f,g,i,rfl,rfl,hl,r,l⟩
 |_,_,.cons (a:=q) (b:=x) h t,ns,f,g,i,hl,r,l=>by
  refine L2.ak λP B=>?_;obtain⟨Q,j,o,n,z,y,M,w,u⟩:=qI h.2 hl r;rw[l]at u;obtain⟨A,v,t2,J,F,N,E,D,C⟩:=t8 t y w (List.sublist_nil.mp u);refine B ?_;refine⟨A,v,t2,J,?_,?_,E,D,C⟩
  ·rw[Xq,z];exact F
  simp_all
def Ad:eU G (λi H Q=>∃(p:KM)(ps:List MD),i=[.ref p]/\H p=Z (.tup (ps.map λq=>V.ref q.1))/\(∀q∈ps,H q.1=Z (.tup [kV q.2.1,q.2.2])) ∧
  ∀l,H l=L->Q (.ref l) (upd H l (.dK (ps.foldl (λacc q=>putK acc q.2.1 q.2.2) [])))) md:=by
 intro M U N H l C P m t Q A e k;unfold md at e;split at e
 ·rename_i E D;refine L2.ak λJ n=>?_;obtain⟨j,e1,e2⟩:=Zt.mp e;cases e2;obtain⟨v,F,rfl,rfl,r⟩:=(A.rp).one;obtain⟨b,ws,Gs,rfl,hb,q⟩:=Rp.Lo r;obtain⟨ps,rfl,y,pr⟩:=sA q e1;refine n ?_;refine⟨b,ps,rfl,hb,y,λl hl=>?_⟩;obtain⟨ns,g,B,z,x,w,u,s,o⟩:=t8 pr (ns:=[]) Y .nil Y;have f:ps.foldl (λacc q=>putK acc q.2.1 q.2.2) []=ns.zip g:=x;have a:j.foldl (λd q=>dput d q.1 q.2) []=(ns.map aX).zip B:=w;rw[f];have h:aI H (upd H l (.dK (ns.zip g))):=cX hl;refine k _ _ (l :: z.flatten) h (by rw[a];exact .dct ay u (s.same h)) ?_;rw[o];exact Fp.new (A.same.free hl) (by simp) Fp.nil
 ·cases e
def vX:bootBuiltins ("dict" : Str)=Z (.type "dict"):=by decide +kernel
def Bg{X:Cx}(a:X.mg "dict" = L)(f:JF G X [e] cs)(b:{`q2,Gl X "dict"})(d:{`q2,X.calm=O})(he:{`q2,K1 e [] X}):PV G X (.Call (.Name "dict" p) [e] [] pos) (eN md cs) :=
 jO (uw d) Ad b a vX f (he:=he)
end
end VS
end
section
namespace L2
open PySem PySem.Spec PyProof.Rows
section
variable{H:Hp}
def qT(I:Inv X pins J H s)(e:H d=Z (.dK a))(g:s.heap.get? d=Z o):Inv X pins J (upd H d (.frz o (.dK a))) s :=
 nL I (by rw[e];exact True.intro) ⟨rfl,λ_ _=>rfl⟩ ⟨o,g⟩ ⟨g,I.p0 d _ e⟩
end
def U5(d:KM)(o:Obj)(a:List (Key×V)):It :=
 ⟨λi H=>H d=Z (.frz o (.dK a))/\i<a.length,λi H x b=>b=H/\∃p,a[i]?=Z p/\x=kV p.1,λi H=>H d=Z (.frz o (.dK a))/\a.length<=i⟩
def Cf(h:mW k v=O):RelV (kV k) v:=by
 rcases bS h with⟨i,t,rfl,rfl⟩ | ⟨x,t,rfl,rfl⟩
 ·exact⟨t,rfl⟩
 ·exact⟨t,rfl⟩
def qr{P:Re}{w:UF}{a:List DictEntry}{m:List (Key×On)}(r:Pairs (aZ P w) a m){i:Nat}{e:DictEntry}(h:a[i]?=Z e):∃q,m[i]?=Z q/\mW q.1 e.key=O:=by
 induction r generalizing i with
 |nil=>simp at h
 |@cons j b a l f g _ d =>
  cases i with
  |zero =>
   simp at h;subst h;exact⟨b,rfl,f⟩
  |succ i=>simpa using d (by simpa using h)
def Ek{l:List (Key×V)}{m:List (Key×On)}(r:KV l m){i:Nat}{q:Key×On}(h:m[i]?=Z q):∃p,l[i]?=Z p/\p.1=q.1:=by
 induction r generalizing i with
 |nil=>simp at h
 |@cons e d ps b f t a =>
  cases i with
  |zero=>simp_all
  |succ i=>simpa using a (by simpa using h)
section
def FO{tg:Expr}{P:Re}{w:UF}{K:Wu}(d f:KM){Q:List (Key×V)}{B:Array DictEntry}{N:Nat}{C:List (Key×On)}(a:KV Q C)(he:Pairs (aZ P w) B.toList C) :
  Turn P w K tg (U5 d (ST.dO B N) Q) [f] f (λi h=>h.get? f=Z (ST.kO d i B.size N)) where
 mem:=by simp
 obj:=λi h st b hb=>by
  simp_all
 keep:=λi h v st k=>k f (by simp) _ st
 item:=by
  intro X t hw u r i j s J H E I m st hg;subst t hw u;obtain⟨A,f1,f2,z,y,x⟩:=m f (by simp);refine ST.rZ (I.ok.hd r) st ((I.p0 d _ hg.1).1) (λe l v D g=>?_) λG=>?_
  ·rw[← Yv]at l;obtain⟨q,n,M⟩:=qr he l;obtain⟨p,S,hb⟩:=Ek a n;exact⟨_,rfl,tj g Y Y Y ⟨kV p.1,H,(I.turned (t':=s.toks) (λb o hb e=>(D.2 b hb).trans e) A f1 z y x),by rw[hb];exact Cf M,⟨rfl,p,S,rfl⟩,g,λb hb=>(m b hb).1⟩⟩
  ·exfalso;rw[← Yv,YE,he.length,← XI a]at G;exact absurd hg.2 (by lia)
 done:=by
  intro X t hw u r i j s J H E I m st hg;subst t hw u;obtain⟨A,f1,f2,z,y,x⟩:=m f (by simp);refine ST.rZ (I.ok.hd r) st ((I.p0 d _ hg.1).1) (λe l v D g=>?_) λG v kp=>⟨rfl,I.turned (λb o hb e=>kp b o hb e) A f1 z y x⟩
  exfalso;rw[← Yv]at l;obtain⟨q,n,M⟩:=qr he l;have:=(ZT.mp n).1;have h2:=hg.2;rw[XI a]at h2;lia
 self:=λ_ _ _ _ _ st U=>WY ⟨_,st,rfl⟩ F.slot_dict_keyiterator_iter (Xr F.slot_dict_keyiterator_iter ⟨_,st,rfl⟩ F.entry_dict_keyiterator_iter (Zo ⟨_,rfl, "dict_keyiterator",_,⟨_,st,rfl⟩,Xg.lookup,U⟩) (F.args_dict_keyiterator_iter_1 _))
def iDk(e:TE):TI:=λJ H R=>e J H λx b=>∃d a,x=.ref d/\b d=Z (.dK a)/\∀o,R (U5 d o a) (upd b d (.frz o (.dK a)))
def G9(n:PE X l i):PI X tg l (iDk i):=by
 intro a s J H R I h;refine thn (n a s J H _ I h) λv s1 p=>?_;obtain⟨x,D,f,r1,j⟩:=p;refine L2.ak λC m=>?_;obtain⟨d,B,ex,e,q⟩:=j;subst ex;cases r1;obtain⟨z,y,t,rel,o,w,A,g,ex,hd,_,he,u⟩:=sC f.p0 e;have eo:=y9 ex hd;subst eo;refine m ?_;refine ST.yu y g ?_;refine⟨s1.heap.objs.size,[s1.heap.objs.size],_,_,_,rfl,(qT f e g).kept λb o e=>Zp _ e,FO d _ rel he,Zg _ Y,λb hb=>?_,q _⟩;have r:b=s1.heap.objs.size:=by simpa using hb
 subst r;exact(qT f e g).LX (Zm _) ((qT f e g).p0.fresh (Zm _))
end
end L2
namespace VS
open PySem PySem.Spec PyProof.Rows L2
noncomputable def Vg:T->Bool
 |.non=>O
 |.bl _=>O
 |.int _=>O
 |.str _=>O
 |_=>R
section
def oM(j:PV G X a ca)(i:PV G X b cb)(g:PV G X c cc)(f:lastMarks [.LtE,.LtE] [b,c]=R):KU G X (.Compare a [.LtE,.LtE] [b,c] pos) (jx oLe oLe ca cb cc) :=
 PT.weak (tR uP uP j i g f) λJ H Q h=>n6 h (λU m r e=>by
  obtain⟨x,s,e⟩:=Zz.mp e;obtain⟨y,p,e⟩:=Zz.mp e;obtain⟨⟨l,z⟩,n,e⟩:=Zz.mp e;cases z with
  |bl q =>
   cases q with
   |false=>cases e;exact⟨_,rfl⟩
   |true =>
    obtain⟨d,o,e⟩:=Zz.mp (e);exact rR y d m r e
  |_=>cases e) λQ h=>sO An An h
end
end VS
end
section
namespace L2
open PySem PySem.Spec PyProof.Rows
noncomputable def pick{α:Type}(l:List α)(a:Vx):List α:=a.filterMap (l[·]?)
def xr{α:Type}(l:List α)(b d a:Option Int):List α:=pick l (sliceRange (sliceBounds b d a l.length).1 (sliceBounds b d a l.length).2.1 (sliceBounds b d a l.length).2.2)
def zq{α:Type}(l:List α)(a:Vx){x:α}(h:x∈pick l a):x∈l:=by
 obtain⟨i,_,e⟩:=WG.mp h;exact Yz e
def AQ{α β:Type}(f:α->β)(l:List α)(a:Vx):pick (l.map f) a=(pick l a).map f:=by
 unfold pick;rw[List.map_filterMap];congr 1;funext i;rw[Zd]
def yC{α β:Type}(f:α->β)(l:List α)(b d a:Option Int):xr (l.map f) b d a=(xr l b d a).map f:=by
 unfold xr;rw[Zy,AQ]
def yt{α:Type}(l:List α)(b d a:Option Int):(xr l b d a).length<=l.length:=by
 have h:=slicePick_size_le (l.map λ_=>Value.none).toArray b d a;have e:(slicePick (l.map λ_=>Value.none).toArray b d a).size=(xr (l.map λ_=>Value.none) b d a).length:=by
  unfold slicePick xr pick;simp only[Zb,Xm]
 rw[e,yC,Zy,Zb,Zy]at h;exact h
section
variable{st:Expr}{lo:Option Expr}
def Hv(X:Cx)(r:V->Option Int->Option Int->Option Int->Hp->VK->Prop):Prop :=
 ∀(a:X7)(s:IR)(J:St)(H:Hp)(x:V)(v f b d:On)(lo hi st:Option Int)(g:KM)(Q:VK),Inv X a J H s->RelV x v->s.heap.IsSliceOf g f b d->IsPart f lo->IsPart b hi->IsPart d st->r x lo hi st H Q →
  ∃T id,typeLookup (.type T) "__getitem__" = pure (Z (.builtin id))/\s.TypeIs v T/\PP (KB X.prog X.w) X.A (getItem v (.ref g)) (EP X a J Q) X.xe s
noncomputable def Ik(r:V->Option Int->Option Int->Option Int->Hp->VK->Prop)(f:TE)(b d a:TO):TE:=λJ H Q=>f J H λx j=>b J j λl i=>d J i λu h=>a J h λc g=>r x l u c g Q
def xC(B:Hv X r)(he:PE X e te)(C:PO X lo tl)(y:PO X hi th)(A:PO X (Z st) ts):PE X (.Subscript e (.Slice lo hi (Z st) p2) pos) (Ik r te tl th ts):=by
 intro a s J H Q I h;refine Subscript_ (thn (he a s J H _ I h) λv s1 f=>?_);obtain⟨x,U,M,r1,w⟩:=f;refine wpAny_Slice (thn (C a s1 J U _ M w) λj n ⟨l,S,G,pl,t⟩=>thn (y a n J S _ G t) λg m ⟨u,P,F,pu,p⟩=>thn (A a m J P _ F p) λi d f=>?_);obtain⟨c,N,E,ps,o⟩:=f;obtain⟨T,id,D,z,hg⟩:=B a { d with heap:=d.heap.push { cls:=.type "slice",data:=.fields #[j,g,i] } } J N x v j g i l u c d.heap.objs.size Q (E.kept (t':=d.toks) λb Y q=>Zp _ q) r1 (Heap.IsSliceOf.new ..) pl pu ps o;exact tail_any z D hg (by with_unfolding_all rfl)
end
end L2
end
section
namespace L2
def DO{α:Type}{b:List α}(d:b.length=n+1):∃a t,b=a :: t/\t.length=n:=by
 obtain⟨a,t,e⟩:=List.exists_cons_of_length_eq_add_one d;subst e;exact⟨a,t,rfl,Nat.succ.inj d⟩
def mh{α:Type}{b:List α}(d:b.length=1):∃a,b=[a]:=List.length_eq_one_iff.mp d
def dc{α:Type}{d:List α}(f:d.length=2):∃a b,d=[a,b]:=by
 obtain⟨a,t,rfl,e⟩:=DO f;obtain⟨b,rfl⟩:=mh e;exact⟨a,b,rfl⟩
def wW{α:Type}{d:List α}(f:d.length=3):∃a b c,d=[a,b,c]:=by
 obtain⟨a,t,rfl,e⟩:=DO f;obtain⟨b,c,rfl⟩:=dc e;exact⟨a,b,c,rfl⟩
def ED{α:Type}{e:List α}(g:e.length=4):∃a b c d,e=[a,b,c,d]:=by
 obtain⟨a,t,rfl,f⟩:=DO g;obtain⟨b,c,d,rfl⟩:=wW f;exact⟨a,b,c,d,rfl⟩
end L2
end
section
namespace VS
open PySem PySem.Spec PyProof.Rows L2
inductive Res where | ok (v:Val) | ex (x:Str)
inductive UW where | ok (o:Out) | ex (x:Str) (U:VS.Env)
abbrev ExX:=VS.Env->Option Res
abbrev SxX:=VS.Env->Option UW
end VS
end
section
namespace TS
open PySem PySem.Spec PyProof.Rows
variable{A:SB}
def yb(o:∀v∈f,∃x t,v=Value.str x t){d:Array Pi}(g:d.Perm (pairsOf f))(p:SortedToK strKind d (pairsOf f).size):((d.map (·.2)).toList.map strOf).Pairwise (λa b=>¬b.cps.toList<a.cps.toList):=by
 obtain⟨n,m⟩:=qh g;rw[YA,List.pairwise_iff_getElem];intro i j r l u;have key:∀i (h:i<(d.map (·.2)).toList.length),KK strKind d i=(strOf (d.map (·.2)).toList[i]).cps.toList:=λi h=>by
  have e:d[i]?=Z ((d.map (·.2)).toList[i],(d.map (·.2)).toList[i]):=by
   rw[← Yv,← m,Zd,Zs h];rfl
  obtain⟨x,t,ex⟩:=o _ (n.mem_iff.mp (Z5 h));unfold KK;rw[e];rw[ex];rfl
 have q:=p i j (Xd u) (by rw[← g.size_eq];simpa using l);rw[key i r,key j l]at q;exact of_decide_eq_false q
def lO(q:∀(n:SB)(y:Xf),n.handled=A.handled->PP (KB prog w) n (collect x) (λd s1=>(∀v∈d,∃x t,v=Value.str x t)/\d.length<64/\∀(out:Vz)(g:SZ)(e:Nat),out.Perm d->(out.map strOf).Pairwise (λa b=>¬b.cps.toList<a.cps.toList)->(∀b o,s1.heap.get? b=Z o->g.get? b=Z o)->g.get? s1.heap.objs.size=Z (seqObj "list" out.toArray e)->Q (.ref s1.heap.objs.size) { s1 with heap:=g }) y s) :
  PP (KB prog w) A (call (.builtin "sorted") [x]) Q E s:=by
 refine Calls.call_function_entry kind_sorted plain_sorted entry_sorted (args_sorted1 _) (?_);refine Zx (Zo (Zx (YX (q A.in1 (λ_ _=>False) Y) ?_ λ_ _ e=>e.elim)));rintro j s1 ⟨f,r,h⟩;refine Zx (wpAny_newList ?_ (by rw[XW];omega));have i:(s1.heap.push (seqObj "list" j.toArray 0)).get? s1.heap.objs.size=Z (seqObj "list" j.toArray 0):=Zg _ Y;refine Zx (Yj (Xr slot_list_sort ⟨_,i,rfl⟩ entry_list_sort (list_sort_treeK strKind_oneLt i (strsAre_map _ f).keysOf (λB z rest e=>keyKind_strs (by rw[← e];exact strsAre_map _ f)) r λu m p=>⟨_,rfl,?_⟩) (args_list_sort _)));obtain⟨e,he⟩:=sortedHeap_at i;exact Zo ⟨_,rfl,h ((arrOf u).map (·.2)).toList _ e (qh m).1 (yb f m p) (λb o l=>by
  have hb:=ZY l;rw[sortedHeap_old (Zh hb) (by rw[size_push'];exact Ys hb),Heap.get?_push_ne _ _ _ (Zh hb)];exact l) he⟩
end TS
namespace L2
open PySem PySem.Spec PyProof.Rows TS
section
def ko{X:Cx}(hc:X.calm=O):dj X (.builtin "sorted") (λB H Q=>∃p,∃(d:List Str)(j:List V),B=[.ref p]/\d.length<64/\d.length=j.length/\H p=Z (.dK ((d.map Sum.inr).zip j)) ∧
  ∀(l:KM)(A:List Str),H l=L->A.Perm d->A.Pairwise (λa b=>¬b.cps.toList<a.cps.toList)->Q (.ref l) (upd H l (.lst (A.map V.str)))):=by
 intro f s J H B us Q I N h;refine L2.ak λP_ U=>?_;obtain⟨p,d,j,rfl,PD,hl,Y,q⟩:=h;obtain⟨u,rfl,P⟩:=N.one;cases P;obtain⟨hz,hS,E,rel,z⟩:=sC I.p0 Y;obtain⟨ep,z⟩:=z.dictAt;refine U ?_;have n:E.length=d.length:=by
  have:=rel.length;grind
 refine TS.lO λA' E' hA=>PySem.W.kdu_collect (PySem.W.kdl_dict hS) (hA.trans (I.ok.hd hc)) z (by grind) λD M acc kp F=>?_;have G:Inv X f J H { s with heap:=D,toks:=M }:=I.kept kp;have o:acc.toList.length=d.length:=by rw[Z2,F.1,n]
 have each:∀i v,acc.toList[i]?=Z v->∃x t,v=Value.str x t/\d[i]?=Z x:=λi v g=>by
  rw[Yv]at g;obtain⟨k,x,e1,e2⟩:=F.2 i v g;have e3:=(λi=>by
  have C:((E.map (·.1)))[i]?=(d.map (Sum.inr:Str->Key))[i]?:=by
   rw[← rel.keys];rw[W8 (by simp_all)]
  rw[Zd,Zd]at C;exact C) i
  rw[e1]at e3;cases r:d[i]? with
  |none=>rw[r]at e3;cases e3
  |some y =>
   rw[r]at e3;have e5:=Zi e3;subst e5;obtain⟨t,rfl⟩:=W5 (e2);exact⟨y,t,rfl,r⟩
 have g:∀v∈acc.toList,∃x t,v=Value.str x t:=λv hm=>by
  obtain⟨i,hi,e⟩:=List.getElem_of_mem hm;obtain⟨x,t,e1,_⟩:=each i v (by rw[Zs hi,e]);exact⟨x,t,e1⟩
 have es:acc.toList.map strOf=d:=by
  apply Xk;intro i;rw[Zd];cases e:acc.toList[i]? with
  |none =>
   simp_all
  |some v =>
   obtain⟨x,t,rfl,e1⟩:=each i v e;rw[e1];rfl
 refine⟨g,by omega,λout h2 e m S NS he=>?_⟩;exact⟨.ref D.objs.size,_,G.laid NS (Zm _) (show dN X.prog X.w _ h2 _ (.lst ((out.map strOf).map V.str)) from⟨(by rw[Zy,Zy,m.length_eq,o,XW];omega),out,e,om (λv hm=>g v (m.mem_iff.mp hm)),he⟩),rfl,q _ _ (G.p0.fresh (Zm _)) (by rw[← es];exact m.map _) S⟩
end
end L2
namespace VS
open PySem PySem.Spec PyProof.Rows L2
section
def ia:Vt->Vs
 |[(_,.dct 0 l)]=>(strs? (l.map (·.1))).bind λa=>if a.length<64/\a.all Sz=O then Z (.fr,.lst ((eQ a).map .str)) else L
 |_=>L
def Ae:eU G (λi H Q=>∃p,∃(d:List Str)(f:List V),i=[.ref p]/\d.length<64/\d.length=f.length/\H p=Z (.dK ((d.map Sum.inr).zip f)) ∧
  ∀(l:KM)(g:List Str),H l=L->g.Perm d->g.Pairwise (λa b=>¬b.cps.toList<a.cps.toList)->Q (.ref l) (upd H l (.lst (g.map V.str)))) ia:=by
 intro M U D H l f E m t Q A e k;unfold ia at e;split at e
 ·rename_i z x;obtain⟨d,e1,e2⟩:=Zz.mp e;split at e2
  ·rename_i hb;refine L2.ak λB r=>?_;cases e2;obtain⟨v,F,rfl,rfl,n⟩:=(A.rp).one;obtain⟨a,q,h,j,Gs,rfl,rfl,w,hl,rfl,o⟩:=fB n;refine r ?_;have C:q.length=j.length:=by rw[hl,o.len.1]
   rw[(W8 (by simp_all))]at e1;have y:=keys_str e1;refine⟨a,d.map sx,h,rfl,by rw[Zy];exact hb.1,?_,by rw[← y];exact w,r6 k A.same λs u=>E7 (ZF.mp hb.2 s u)⟩;grind
  ·cases e2
 ·cases e
def vf{X:Cx}(a:X.mg "sorted" = L)(f:JF G X [e] cs)(b:{`q2,Gl X "sorted"})(g:{`q2,X.K=G.K})(d:{`q2,X.calm=O})(he:{`q2,K1 e [] X}):PV G X (.Call (.Name "sorted" p) [e] [] pos) (eN ia cs) :=
 iq (ko d) Ae b a pR f (he:=he)
end
noncomputable def OR:T->Bool
 |.bl true=>O
 |_=>R
mutual
def hZ:T->Bool
 |.tup l=>dY l
 |.lst l=>dY l
 |.dct _ l=>sW l
 |.obj _ l=>eD l
 |_=>O
def dY:Vr->Bool
 |[]=>O
 |t :: r=>hZ t&&dY r
def sW:List (T×T)->Bool
 |[]=>O
 | (_,v) :: r=>hZ v&&sW r
def eD:List (Nat×T)->Bool
 |[]=>O
 | (n,v) :: r=>(hZ v && !(n==0&&OR v))&&eD r
end
theorem iC:∀{b:Vr}{a:Vr},b.length=a.length->sW (b.zip a)=O->dY a=O
 |[],[],_,_=>rfl
 |_ :: _,[],h,_=>nomatch h
 |[],_ :: _,h,_=>nomatch h
 |k :: b,t :: a,h,e=>by
  have e:=ZW.mp (e);exact ZW.mpr ⟨e.1,iC (Nat.succ.inj h) e.2⟩
theorem ff:∀{b:Vx}{a:Vr},b.length=a.length->eD (b.zip a)=O->dY a=O
 |[],[],_,_=>rfl
 |_ :: _,[],h,_=>nomatch h
 |[],_ :: _,h,_=>nomatch h
 |k :: b,t :: a,h,e=>by
  have e:=ZW.mp (e);exact ZW.mpr ⟨(ZW.mp e.1).1,ff (Nat.succ.inj h) e.2⟩
section
variable{H:Hp}
theorem Rp.at(m:Me)(r:Rp G H v t F):hZ t=O->Rp (G.at m) H v t F :=
 Rp.rec (G:=G) (H:=H) (motive_2:=λg e j _=>dY e=O->RpL (G.at m) H g e j)
  (λ_=>.non) (λb _=>.bl b) (λi _=>.int i) (λs h _=>.str s h) (λh _=>.scr h) (λh _ d f=>.tup h (d f)) (λh _ d f=>.lst h (d f))
  (λh l q d f=>.dct h l (d (iC (by rw[Zy,l];exact q.len.1) f))) (λh l q d f=>.dctT h l (d (iC (by rw[Zy,l];exact q.len.1) f)))
  (λh l n q d f=>.dctN h l n (d (iC (by rw[Zy,l];exact q.len.1) f))) (λh l q d f=>.dctZ h l (d (iC (by rw[Zy,l];exact q.len.1) f))) (λh u _=>.exc h u)
  (λ{c a y b x g e j} h l w q d f=>by
   have f:=ZW.mp (f);have hb:b=R:=by
    cases b with
    |false=>rfl
    |true=>exact nomatch f.1
   refine .ins h l (λz=>?_) (d (ff (by rw[l];exact q.len.1) f.2));rw[hb]at z;cases z)
  (λ_ _ _ f=>nomatch f)
  (λ_=>.nil) (λ_ _ p o f=>by
   have f:=ZW.mp f;exact .cons (p f.1) (o f.2)) r
theorem RpL.at(m:Me):∀{b:List V}{a:Vr}{d:Wv},RpL G H b a d->dY a=O->RpL (G.at m) H b a d:=by
 intro b a
 induction a generalizing b with
 |nil=>intro d r f;cases r;exact .nil
 |cons t a e =>
  intro d r f;cases r with
  |cons r q=>exact .cons (r.at m (ZW.mp f).1) (e q (ZW.mp f).2)
mutual
theorem oU:∀t:T,IS t=O->hZ t=O
 |.non,_=>rfl
 |.bl _,_=>rfl
 |.int _,_=>rfl
 |.str _,_=>rfl
 |.scr _,_=>rfl
 |.tup l,h=>vR l h
 |.lst _,h=>by cases h
 |.dct _ _,h=>by cases h
 |.obj _ _,h=>by cases h
theorem vR:∀l:Vr,iN l=O->dY l=O
 |[],_=>rfl
 |t :: l,h=>by
  have h:=ZW.mp h;exact ZW.mpr ⟨oU t h.1,vR l h.2⟩
end
end
def qA(k:Nat):T->Option T
 |.obj (_+1) (_ :: fs)=>(fs.findIdx? λp=>p.1==k).bind λi=>(fs[i]?).map (·.2)
 |_=>L
def bp(k:Nat)(a:Ex):Ex:=λU=>(a U).bind λx=>(qA k x.2).map λt=>sub x.1 t
section
def w_fld{X:Cx}(Jq:kA G)(F:JQ G X.K k f)(ha:PV G X a ca)(w:{`q8,UV a f X.env (eval a X.env)=eval a X.env}):PV G X (.Attribute a f pos) (bp k ca) :=
 PE.weak (AF ha w) λJ H Q hq=>by
  refine L2.ak λP_ l=>?_;obtain⟨M,U,m,t,s,e,kq⟩:=hq;obtain⟨⟨Y,y⟩,ea,e1⟩:=Zz.mp e;obtain⟨z,d,e2⟩:=Zt.mp e1;refine l ?_;refine⟨M,U,Y,y,s,ea,λv H' F' S r1 f1=>?_⟩;unfold qA at d;split at d
  ·rename_i c q0 fs hy;refine L2.ak λP_ l=>?_;subst hy;obtain⟨j,A,e3⟩:=Zz.mp d;obtain⟨p,h2,e4⟩:=Zt.mp e3;subst e4;obtain⟨c',a,dx,b,ns,vs,P,Fs,ec,rfl,rfl,rfl,rfl,hA,hl,w,r⟩:=eW r1;cases ec;obtain⟨q,g,C,B,g3,g4⟩:=kM (λn=>n==k) (hl.trans r.len.1) A;have ek:q=k:=by simpa using g3
   subst ek;have ep:p=(q,g):=by
    have:(ns.zip P)[j]?=Z (q,g):=by rw[YF];exact⟨C,B⟩
    simp_all
   subst ep;obtain⟨u,Fi,N,E,h⟩:=r.get j B;refine l ?_;have D:=sF (G:=G) (c:=c+1) Jq hl A C N;rw[F.nm c]at D;refine⟨a,_,dx,_,u,rfl,hA,F.cl c,F.no c,D,?_⟩;have fp:=((f1.sub (Yh _ _)).sub (cZ E)).up h;unfold VS.sub at e2;rw[e2]at fp;have et:g=t:=congrArg Prod.snd e2;rw[et]at h;exact kq u H' Fi S h fp
  ·cases d
def jT(i k:Nat)(e:Ex)(U:VS.Env):Option Out:=(e U).bind λv=>match U[i]? with
 |some (some (.ow (.obj (c+1) (q :: fs))))=>(fit v).bind λt=>if fs.length<900/\(fs.all λp=>!(p.1==k))=O then Z (.nx (U.set i (Z (.ow (.obj (c+1) (q :: (fs++[(k,t)]))))))) else L
 |_=>L
theorem tJ{k:Nat}{v:V}(r:∀k l:Nat,g k=g l->k=l):∀{b:Vx}{d:List V}{j:Vr},b.length=d.length->b.length=j.length->((b.zip j).all λp=>!(p.1==k))=O->jo (g k) v ((b.map g).zip d)=((b++[k]).map g).zip (d++[v])
 |[],[],_,_,_,_=>rfl
 |[],_ :: _,_,h,_,_=>by simp at h
 |_ :: _,[],_,h,_,_=>by simp at h
 |_ :: _,_ :: _,[],_,h,_=>by simp at h
 |u :: b,s :: d,t :: j,q,n,m=>by
  rw[ZL,Wt,Yn]at m;rw[Zj,ZL,jo,Zl (λz=>by
   grind),tJ r (by simpa using q) (by simpa using n) m.2]
  rfl
def l6{X:Cx}{pos:Pos}(i k:Nat)(Jq:kA G)(F:JQ G X.K k f)(he:PV G X e ce)(hN:{`q8,X.N[i]?=Z x})(hv:Lg X.env.scope x:=by exact .inl Y)(hd:{`q8,K3 x})(Jf:{`q8,K4 x})(hs:{`q8,swapsWith e (Z (.Attribute (.Name x p1) f pos')) pos.line X.env=pure R}):PSV G X (.Assign [.Attribute (.Name x p1) f pos'] e pos) (jT i k ce) :=
 PS.weak (EU (fR hN hv hd Jf) he hs) λD J H hq=>by
  obtain⟨M,U,out,s,e,kq⟩:=hq;obtain⟨⟨mv,j⟩,ev,e⟩:=Zz.mp e;split at e
  ·rename_i c q0 fs w;obtain⟨t,et,e⟩:=Zz.mp e;cases (kK et);split at e
   ·rename_i l;cases e;obtain⟨v,C,g2⟩:=s.rp _ _ w;refine⟨M,U,.fr,j,s,ev,λy H1 Fy q ry n=>⟨v,C,?_⟩⟩;refine L2.ak λP_ k_=>?_;obtain⟨c',a,Q,b,ns,vs,p,Fs,ec,rfl,rfl,rfl,P,A,hl,hb,r⟩:=eW g2;cases ec;refine k_ ?_;have nd:=s.nd i _ w;rw[P]at nd;have B:=Zf.mp nd;have d:=q a _ A;have u:IU (H1 a):=by rw[d];exact True.intro
    have S:=hl.trans r.len.1;have na:a∉Fy:=λz=>by rw[n.2 a z]at A;cases A
    refine⟨a,_,Q,_,rfl,d,F.cl c,F.no c,(by
     have:=l.1;rw[YL]at this ⊢;rw[Zy];lia),?_⟩
    have E:=tJ (k:=k) (v:=y) (Jq (c+1)) hl S l.2;rw[F.nm c]at E;rw[E];have off:=λh hb hw=>IU.pe (r.Jh h hb) (n.2 h hw);have g:Chg G H (.ref a) (M i) (.obj (c+1) ((0,.bl b) :: (ns.zip p++[(k,j)]))) (upd H1 a (.ins (G.ct (c+1)).1 Q (((ns++[k]).map (G.ct (c+1)).2).zip (vs++[y])))) (a :: (Fs++[Fy]).flatten):=by
     rw[P,show ns.zip p++[(k,j)]=(ns++[k]).zip (p++[j]) from by rw[List.zip_append S];rfl];refine Chg.upd q Zu u (.ins ay (by simp[hl]) hb (((r.same q).off u B.1).append (.cons (ry.keep (Kept.upd (.inl u)) λh hb o ho=>by rw[aD (λz=>na (by rw[← z];exact hb))];exact ho) .nil))) ?_ ?_
     ·rw[Ym];refine Zf.mpr ⟨λm=>?_,ZR.mpr ⟨B.2,by simpa using n.1,λb hb c l z=>?_⟩⟩
      ·rcases ZU.mp m with m | m
       ·exact B.1 m
       simp_all
      ·subst z;exact off b hb (by simpa using l)
     ·intro h hb;rcases Zk.mp hb with rfl | hb
      ·exact .inl Zu
      ·rw[Ym]at hb;rcases ZU.mp hb with hb | hb
       ·simp_all
       ·exact .inr (n.2 h (by simpa using hb))
    obtain⟨z1,z2⟩:=s.mut w C g;exact kq _ J _ z1 z2
   ·cases e
  ·cases e
end
noncomputable abbrev t5:=List (Nat×T)
noncomputable def LI(a:KM):Me:=λk=>if k=0 then Z (.ref a) else L
abbrev Mt:=t5->Vr->Option (t5×T)
noncomputable def JX:List Bool->Wv->Wg
 |b :: bs,F :: a=>(if b then F else [])++JX bs a
 |_,_=>[]
noncomputable def Ml:List Bool->Wv->Wg
 |b :: bs,F :: a=>(if b then [] else F)++Ml bs a
 |_,_=>[]
theorem g7:∀{f:List Bool}{e:Wv}{j:Nat}{F:Wg},f[j]?=Z O->e[j]?=Z F->F.Sublist (JX f e)
 |[],_,_,_,h,_=>by simp at h
 |_ :: _,[],_,_,_,h=>by simp at h
 |b :: bs,g :: e,0,F,d,a=>by
  simp at d a;subst d a;rw[JX,Zn Y];grind
 |b :: bs,g :: e,j+1,F,d,a=>by
  rw[JX];exact(g7 (by simpa using d) (by simpa using a)).trans (Wx _ _)
theorem qM:∀{f:List Bool}{e:Wv}{j:Nat}{F:Wg},f[j]?=Z R->e[j]?=Z F->F.Sublist (Ml f e)
 |[],_,_,_,h,_=>by simp at h
 |_ :: _,[],_,_,_,h=>by simp at h
 |b :: bs,g :: e,0,F,d,a=>by
  simp at d a;subst d a;rw[Ml]
  simp_all
 |b :: bs,g :: e,j+1,F,d,a=>by
  rw[Ml];exact(qM (by simpa using d) (by simpa using a)).trans (Wx _ _)
theorem v8:∀{o:List Bool}{d:Wv}{i j:Nat}{F m:Wg},(JX o d).Nodup->o[i]?=Z O->o[j]?=Z O->d[i]?=Z F->d[j]?=Z m->i≠j->∀a∈F,a∉m
 |[],_,_,_,_,_,_,h,_,_,_,_=>by simp at h
 |_ :: _,[],_,_,_,_,_,_,_,h,_,_=>by simp at h
 |b :: bs,r :: d,0,0,F,m,_,_,_,_,_,n=>absurd Y n
 |b :: bs,r :: d,0,j+1,F,m,nd,l,g,f,e,n=>λa p q=>by
  simp at l f;subst l f;rw[JX,Zn Y,ZR]at nd;exact nd.2.2 a p a ((g7 (by simpa using g) (by simpa using e)).subset q) Y
 |b :: bs,r :: d,i+1,0,F,m,nd,l,g,f,e,n=>λa p q=>by
  simp at g e;subst g e;rw[JX,Zn Y,ZR]at nd;exact nd.2.2 a q a ((g7 (by simpa using l) (by simpa using f)).subset p) Y
 |b :: bs,r :: d,i+1,j+1,F,m,nd,l,g,f,e,n=>by
  rw[JX,ZR]at nd;exact v8 nd.2.1 (by simpa using l) (by simpa using g) (by simpa using f) (by simpa using e) (by lia)
theorem vU:∀{e:List Bool}{d:Wv}{a:KM},a∈JX e d->∃(j:Nat)(F:Wg),e[j]?=Z O/\d[j]?=Z F/\a∈F
 |[],_,_,h=>by simp[JX]at h
 |_ :: _,[],_,h=>by simp[JX]at h
 |b :: bs,m :: d,a,h=>by
  rw[JX]at h;rcases ZU.mp h with h | h
  ·cases b with
   |true=>exact⟨0,m,rfl,rfl,h⟩
   |false=>simp at h
  ·refine L2.ak λn f=>?_;obtain⟨j,F,l,i,g⟩:=vU h;refine f ?_;exact⟨j+1,F,by simpa using l,by simpa using i,g⟩
noncomputable def oH(b:Bool)(t:T):Vu:=Z (if b then .ow t else .pu t)
def yF(c:Nat)(U:VS.Env):Option t5:=match (U[(0:Nat)]?:Option (Vu)) with
 |some (some (.ow (.obj a ((0,.bl true) :: fs))))=>if a=c+1 then Z fs else L
 |_=>L
def Kt(c d f:Nat)(e:List Bool)(body:Sx):Mt:=λfs a=>if a.length+1=d/\e.length=a.length then
 (body ((Z (.ow (.obj (c+1) ((0,.bl O) :: fs))) :: List.zipWith oH e a)++List.replicate (f-d) L)).bind λo=>match o with
  |.rt v U=>(yF c U).bind λb=>if IS v.2 then Z (b,v.2) else L
  |.nx U=>(yF c U).map λb=>(b,.non)
  |_=>L else L
def Mj(G:Gx)(c:Nat)(d:List Bool)(g:Mt):Sp:=λl H Q _=>∃(a:KM)(i:List V)(fs:t5)(f:Vr)(F:Wg)(e:Wv)(j:t5)(x:T),l=.ref a :: i/\Rp (G.at (LI a)) H (.ref a) (.obj (c+1) ((0,.bl O) :: fs)) F ∧
 RpL (G.at (LI a)) H i f e/\d.length=f.length/\(F++JX d e).Nodup/\(∀b∈F++JX d e,b∉Ml d e)/\g fs f=Z (j,x) ∧
 ∀u h m,Chg (G.at (LI a)) H (.ref a) (F++JX d e) (.obj (c+1) ((0,.bl O) :: j)) h m->Rp (G.at (LI a)) h u x []->Q u h
section
variable{H:Hp}
def AO{f:List Bool}(r0:Rp G H v t F)(r:RpL G H D d g)(hm:f.length=d.length)(q:(F++JX f g).Nodup)(S:∀b∈F++JX f g,b∉Ml f g)(n U:Nat)(hn:U=D.length+1) :
  SR G (λi=>(F :: g).getD i []) ((Z (.ow t) :: List.zipWith oH f d)++List.replicate (n-(d.length+1)) L) ((v :: D).map Z++List.replicate (n-U) L) H ∧
  ∀a,cT (λi=>(F :: g).getD i []) ((Z (.ow t) :: List.zipWith oH f d)++List.replicate (n-(d.length+1)) L) a->a∈F++JX f g:=by
 subst hn;have hl:=r.len;have J:(List.zipWith oH f d).length=d.length:=by simp_all
 have back:∀{i:Nat}{c:Cell},((Z (Cell.ow t) :: List.zipWith oH f d)++List.replicate (n-(d.length+1)) L)[i]?=Z (Z c)->(i=0/\c=.ow t)\/∃(j:Nat)(b:Bool)(u:T),i=j+1/\f[j]?=Z b/\d[j]?=Z u/\c=(if b then .ow u else .pu u):=λ{i c} h=>by
  cases i with
  |zero=>exact .inl ⟨rfl,(Zi (Zi h)).symm⟩
  |succ j =>
   rw[XC,List.getElem?_cons_succ]at h;by_cases E:j<d.length
   ·rw[Z8 (by rw[J];exact E),List.getElem?_zipWith]at h;have e1:=Zs (by rw[hm];exact E);have e2:=Zs E;rw[e1,e2]at h;exact .inr ⟨j,_,_,rfl,e1,e2,(Zi (Zi h)).symm⟩
   ·rw[Yt (by rw[J];exact ZI E),YY]at h;split at h<;>cases h
 have fp:∀{j:Nat}{u:T},d[j]?=Z u->∃w p,D[j]?=Z w/\g[j]?=Z p/\Rp G H w u p:=λ{j u} h=>r.get j h;have ow:∀{i:Nat}{u:T},((Z (Cell.ow t) :: List.zipWith oH f d)++List.replicate (n-(d.length+1)) L)[i]?=Z (Z (.ow u))->i=0\/∃j:Nat,i=j+1/\f[j]?=Z O/\d[j]?=Z u:=λ{i u} h=>by
  rcases back h with⟨x,l⟩ | ⟨j,b,Q,x,l,s,A⟩
  ·exact .inl x
  ·cases b with
   |true=>simp_all
   |false=>cases A
 rw[ZR]at q;refine⟨⟨?_,λi c h=>?_,λi u h=>?_,λi j u c x l n=>?_⟩,λa ⟨i,u,x,l⟩=>?_⟩
 ·simp[J];lia
 ·rcases back h with⟨rfl,rfl⟩ | ⟨j,b,u,rfl,l,s,A⟩
  ·exact⟨v,rfl,r0⟩
  ·obtain⟨w,p,y,e,B⟩:=fp s;refine⟨w,?_,?_⟩
   ·rw[Zj,XC,List.getElem?_cons_succ,Z8 (by rw[Zy];exact(ZT.mp y).1),Zd,y];rfl
   ·rw[XY,Zr,e,A];cases b<;>exact B
 ·rcases ow h with rfl | ⟨j,rfl,l,s⟩
  ·exact q.1
  ·obtain⟨w,p,y,e,B⟩:=fp s;rw[XY,Zr,e];exact q.2.1.sublist (g7 l e)
 ·rcases ow x with rfl | ⟨X,rfl,P,a3⟩
  ·rcases back l with⟨rfl,_⟩ | ⟨j',b,Q,rfl,C,N,_⟩
   ·exact absurd Y n
   ·obtain⟨w,p,y,e,B⟩:=fp N;intro a m;rw[XY,Zr,e];intro o;cases b with
    |true=>exact q.2.2 a m a ((g7 C e).subset o) Y
    |false=>exact S a (Xh _ m) ((qM C e).subset o)
  ·obtain⟨w,Fi,y,e,B⟩:=fp a3;have ei:(F :: g).getD (X+1) []=Fi:=by simp_all
   show ∀a∈(F :: g).getD (X+1) [],_;rw[ei];rcases back l with⟨rfl,_⟩ | ⟨j',b,Q,rfl,C,N,_⟩
   ·exact λa m o=>q.2.2 a o a ((g7 P e).subset m) Y
   ·obtain⟨w',p,k1,M,k3⟩:=fp N;intro a m;rw[XY,Zr,M];intro o;cases b with
    |true=>exact v8 q.2.1 P C e M (λz=>n (by rw[z])) a m o
    |false=>exact S a (ZE _ ((g7 P e).subset m)) ((qM C M).subset o)
 ·rcases ow x with rfl | ⟨j,rfl,s,A⟩
  ·exact Xh _ l
  ·obtain⟨w,p,y,e,B⟩:=fp A;have N0:a∈(F :: g).getD (j+1) []:=l;rw[XY,Zr,e]at N0;exact ZE _ ((g7 s e).subset N0)
def AZ(h:yF c U=Z a):U[0]?=Z (Z (.ow (.obj (c+1) ((0,.bl O) :: a)))):=by
 unfold yF at h;grind
end
section
variable{K:Wu}
def Gd{G:Gx}{X:List Str}(ok:∀{sp:Sp},(∀l H Q E,sp l H Q E->l.length=X.length)->(∀(x:On)(A:SB)(outer:List PySem.Env)(s:IR)(H:Hp)(l:List V)(Q:VK)(E:XK),oe k (A.deeper (envOfC d (ai B) s.heap.objs.size f x))->sp l H Q E →
   ∃t,Kq (jb JB P w K mg base N d (ai B) f x A outer s H E).Lj (ba B) t/\t { nx:=λ_ j=>Q .non j,rt:=Q } (L2.start N l) H)->FnOk P w K mg base JB (k+1) f fd X sp)(hp:X.length=np)(hn:N.length=M)(hb:∀(a:KM)(x:On)(A:SB)(outer:List PySem.Env)(s:IR)(H:Hp)(E:XK),oe k (A.deeper (envOfC d (ai B) s.heap.objs.size f x))->i5 (G.at (LI a)) (jb JB P w K mg base N d (ai B) f x A outer s H E).Lj (ba B) m) :
  FnOk P w K mg base JB (k+1) f fd X (Mj G c mv (Kt c np M mv m)):=by
 refine ok (λl H Q E h=>?_) λx A outer s H l Q E hr h=>?_
 ·refine L2.ak λP_ p=>?_;obtain⟨a,J,fs,ts,F,Fs,KS,y,rfl,r0,r,hm,nd,sp,e,q⟩:=h;refine p ?_;unfold Kt at e;split at e
  ·rename_i hl;rw[Ze,r.len.1,hl.1,hp]
  ·cases e
 ·refine L2.ak λP_ p=>?_;obtain⟨a,J,fs,ts,F,Fs,KS,y,rfl,r0,r,hm,nd,sp,e,q⟩:=h;refine p ?_;refine⟨_,hb a x A outer s H E hr,?_⟩;unfold Kt at e;split at e
  ·rename_i hl;obtain⟨o,e1,e2⟩:=Zz.mp e;obtain⟨s0,Nn⟩:=AO r0 r hm nd sp M (J.length+1) Y;rw[hl.1]at s0 Nn;have e3:L2.start N (V.ref a :: J)=(V.ref a :: J).map Z++List.replicate (M-(J.length+1)) L:=by
    unfold L2.start;rw[hn];rfl
   rw[e3];have fin:∀{n:VS.Env}{D:IQ}{J':L2.St}{j:Hp},yF c n=Z KS->SR (G.at (LI a)) D n J' j->JA (λi=>(F :: Fs).getD i []) ((Z (.ow (.obj (c+1) ((0,.bl O) :: fs))) :: List.zipWith oH mv ts)++List.replicate (M-np) L) H D n j →
     Chg (G.at (LI a)) H (.ref a) (F++JX mv Fs) (.obj (c+1) ((0,.bl O) :: KS)) j (D 0):=λ{n D J' j} OZ C fr=>by
    have h0:=AZ OZ;refine L2.ak λP_ p=>?_;obtain⟨v',g1,g2⟩:=C.rp 0 _ h0;have PF:=g2;obtain⟨c',a',dx,b,ns,l,KC,Kl,ec,rfl,eb,_,eF,hA,hl',g,ra⟩:=eW PF;have LJ:b=O:=by cases eb;rfl
    cases (g LJ);refine p ?_;refine⟨fr.kept,λU o' g ho=>(fr.keep U o' ho λz=>g (Nn U z)).1,fr.Jh,PF,C.nd 0 _ h0,λU g=>?_⟩;rcases fr.ow U ⟨0,_,h0,g⟩ with z | z
    ·exact .inl (Nn U z)
    ·exact .inr z
   refine⟨_,_,o,s0,e1,?_⟩;cases o with
   |nx n =>
    refine L2.ak λP_ p=>?_;obtain⟨fs2,e4,S⟩:=Zt.mp e2;cases S;refine p ?_;intro D J' j C fr;exact q .non j _ (fin e4 C fr) .non
   |rt v n =>
    obtain⟨fs2,e4,S⟩:=Zz.mp e2;split at S
    ·rename_i hi;cases S;intro u j F' D J' C fr r' rf;have:=r'.IS hi;subst this;exact q u j _ (fin e4 C fr) r'
    ·cases S
   |bk n=>cases e2
   |ct n=>cases e2
  ·cases e
def fnM{G:Gx}(F:IH K x d g f n)(S:bt N h (ai g))(p:h.length=i)(q:N.length=j)(r:∀(a:KM)(o:On)(A:SB)(outer:List PySem.Env)(s:IR)(H:Hp)(E:XK),oe k (A.deeper (envOfC d (ai g) s.heap.objs.size f o))->i5 (G.at (LI a)) (jb JB P w K mg base N d (ai g) f o A outer s H E).Lj (ba g) e) :
  FnOk P w K mg base JB (k+1) f n h (Mj G c m (Kt c i j m e)):=Gd (λl b=>F.ok S l b) p q r
structure Ms(K:Wu)(x qual:Str)(st:Stmt)(f:KM)(fd:P3):Prop where
 ex:∃(T:KM)(oc:On)(od:Option KM)(kV doc pm:On)(an:Option KM)(II ct:On)(Lr:Array (Vy))(o:Obj)(n:Nat),
  fd=PySem.W.fnOf x qual (cR st) (ba st) (ai st) (.ref T) kV doc pm an II ct/\K.lookup f=some ⟨oc,od,.func fd,Lr⟩/\PySem.W.codeIn K II qual=true/\K.lookup T=some o/\o.data=.seq #[.none] n
 kp:PySem.W.keepIn K (.ref f)=true
def Ms.ok(F:Ms K x a d f l)(S:bt N i (ai d))(j:∀b H Q E,g b H Q E->b.length=i.length)(v:∀(e:On)(A:SB)(outer:List PySem.Env)(s:IR)(H:Hp)(b:List V)(Q:VK)(E:XK),oe k (A.deeper (envOfC a (ai d) s.heap.objs.size f e))->g b H Q E →
   ∃t,Kq (jb JB P w K mg base N a (ai d) f e A outer s H E).Lj (ba d) t/\t { nx:=λ_ y=>Q .non y,rt:=Q } (L2.start N b) H):FnOk P w K mg base JB (k+1) f l i g:=by
 refine L2.ak λB m=>?_;obtain⟨T,oc,z,kV,doc,pm,an,e,ct,C,o,n,rfl,lk,u,_⟩:=F.ex;refine m ?_;refine yI lk u S j λA outer s H b Q E p r=>?_;obtain⟨t,h,q⟩:=v e A outer s H b Q E p r;exact⟨t,h.Lj,q⟩
def Ms.binds{e:List Str}(F:Ms K x a d f g)(h:∀(s:IR)(T:KM)(kV doc pm:On)(an:Option KM)(i ct:On)(o:Obj)(n:Nat)(b:Vz),K.In s.heap->K.lookup T=Z o->o.data=.seq #[.none] n->b.length=e.length->BindsTo s (PySem.W.fnOf x a (cR d) (ba d) (ai d) (.ref T) kV doc pm an i ct) ⟨b,[]⟩ (e.zip b)):Binds K g e []:=by
 obtain⟨T,oc,j,kV,doc,pm,an,i,ct,p,o,n,rfl,lk,q,m,l⟩:=F.ex;intro s b X hl
 simp_all
end
def argsOk:List Bool->Vt->Bool
 |[],[]=>O
 |b :: bs,v :: a=>(if b then v.1 == .fr else IS v.2)&&argsOk bs a
 |_,_=>R
def lJ(c:Nat)(e:List Bool)(g:Mt)(a:Vt):T->Option (T×Val)
 |.obj d ((0,.bl b) :: fs)=>if d=c+1/\eD fs=O/\argsOk e a=O/\dY (trees a)=O then (g fs (trees a)).bind λz=>if eD z.1=O/\IS z.2=O then Z (.obj d ((0,.bl b) :: z.1),(.fr,z.2)) else L else L
 |_=>L
def bH(i:Nat)(a:List Lz)(c:Nat)(d:List Bool)(g:Mt)(f:Jj)(U:VS.Env):Option (Val×VS.Env):=match (U[i]?:Option (Vu)) with
 |some (some (.ow t))=>(keys a U).bind λe=>(f U).bind λb=>(pm (lJ c d g b) e t).map λz=>(z.2,U.set i (Z (.ow z.1)))
 |_=>L
def tX(G:Gx)(x:Xx):TE:=λJ H Q=>∃M U v b,SR G M U J H/\x U=Z (v,b)/\IS v.2=O/\∀u a d,SR G d b J a->JA M U H d b a->Rp G a u v.2 []->Q u a
def PX(G:Gx)(X:Cx)(e:Expr)(x:Xx):Prop:=PE X e (tX G x)
theorem kc:∀{d:List Bool}{a:Vt},argsOk d a=O->d.length=a.length
 |[],[],_=>rfl
 |[],_ :: _,h=>nomatch h
 |_ :: _,[],h=>nomatch h
 |b :: bs,v :: e,h=>by
  rw[Ze,Ze,kc (ZW.mp h).2]
theorem pf:∀{e:List Bool}{d:Vt}{Fs:Wv},argsOk e d=O->(JX e Fs).Sublist (J9 d Fs)
 |[],[],_,_=>by simp[JX]
 |[],_ :: _,_,h=>nomatch h
 |_ :: _,[],_,h=>nomatch h
 |b :: bs,v :: f,[],h=>by simp[JX]
 |b :: bs,(m,t) :: f,F :: Fs,h=>by
  have h:=ZW.mp h;have a:=pf (Fs:=Fs) h.2;rw[JX];cases b with
  |true =>
   have:m=.fr:=by simpa using h.1
   subst this;exact List.Sublist.append (W3 _) a
  |false =>
   rw[Zl Zc,YU];cases m with
   |fr=>exact a.trans (Wx _ _)
   |pu=>exact a
   |bo=>exact a
theorem rG:∀{d:List Bool}{a:Vt}{f:List V}{e:Wv},argsOk d a=O->RpL G H f (trees a) e->Ml d e=[]
 |[],[],_,_,_,_=>by simp[Ml]
 |[],_ :: _,_,_,h,_=>nomatch h
 |_ :: _,[],_,_,h,_=>nomatch h
 |b :: bs,(m,t) :: i,_,_,h,r=>by
  have h:=ZW.mp h;cases r with
  |cons g q =>
   rw[Ml,rG h.2 q,ZQ];cases b with
   |true=>rfl
   |false=>exact g.IS (by simpa using h.1)
def vZ(h:argsOk e d=O)(f:N9 M U H d i):∀a∈JX e i,H a=L:=λa n=>by
 obtain⟨j,F,g,p,o⟩:=vU n;have key:∀{e:List Bool}{d:Vt}{j:Nat},argsOk e d=O->e[j]?=Z O->∃v,d[j]?=Z v/\v.1=.fr:=by
  intro e
  induction e with
  |nil=>intro d j _ h;simp at h
  |cons b bs r =>
   intro d j h g;cases d with
   |nil=>exact nomatch h
   |cons v q =>
    have h:=ZW.mp h;cases j with
    |zero =>
     simp_all
    |succ j =>
     simp_all
 obtain⟨v,m,l⟩:=key h g;have:=f.each j v F m p;rw[l]at this;exact this.2 a o
section
def tN(Jq:kA G)(hn:∀k,(G.ct (c+1)).2 k≠m)(ht:∀M U q J H (R:List V->Hp->Prop),SR G M U J H->cs U=Z q->(∀j p Fs,aI H p->RpL G p j (trees q) Fs->N9 M U H q Fs->R j p)->t J H R)(h:tX G (bH i way c mv g cs) J H Q):vq (G.ct (c+1)).1 m (Mj G c mv g) [] E (RO G i way) t J H Q:=by
 refine L2.ak λY l=>?_;obtain⟨M,U,v,U',s,e,TY,kq⟩:=h;refine l ?_;unfold bH at e;split at e
 ·rename_i t0 h0;refine L2.ak λY l=>?_;obtain⟨ks,ek,e3⟩:=Zz.mp e;obtain⟨q,el,e4⟩:=Zz.mp e3;obtain⟨⟨t',x2⟩,e5,e6⟩:=Zt.mp e4;cases e6;obtain⟨v0,h1,h2⟩:=s.rp _ _ h0;obtain⟨w,x,F1,x3,w1,w2,w3,r,w5⟩:=oz ks Jq h2 (s.nd i t0 h0) e5;refine l ?_;unfold lJ at r;split at r
  ·rename_i c1 b fs;split at r
   ·rename_i hc;obtain⟨rfl,Mm,F,Rc⟩:=hc;obtain⟨⟨KS,y⟩,eg,S⟩:=Zz.mp r;split at S
    ·rename_i MW;refine L2.ak λY l=>?_;cases S;obtain⟨c',a,dx,b',ns,j,ts,Fs,ec,rfl,eb,rfl,eF,hA,hl,hb,ra⟩:=eW w2;cases ec;cases eb;refine l ?_;have ON:=hl.trans ra.len.1;refine⟨M,U,t0,ks,v0,.ref a,s,h0,h1,ek,w1,λH1 D=>⟨a,dx,_,rfl,D a _ hA,?_,?_⟩⟩
     ·have key:∀(ns:Vx)(j:List V),((ns.map (G.ct (c+1)).2).zip j).lookup m=L:=by
       intro ns
       induction ns with
       |nil=>intro j;simp
       |cons n ns ih =>
        intro j;cases j with
        |nil=>simp
        |cons v j =>
         rw[Zj,ZL,Y9];have:(m==(G.ct (c+1)).2 n)=false:=by
          grind
         rw[this];exact ih j
      exact key ns j
     ·refine ht M U q J H1 _ (s.same D) el λus H2 Gs Jt Pn O9=>?_;have B:=D.trans Jt;have OM:=vZ F (⟨λn v' N a1 a2=>(O9.each n v' N a1 a2).back D,O9.nd⟩);refine⟨a,us,ns.zip ts,trees q,F1,Gs,KS,y,by rw[ZQ],?_,Pn.at (LI a) Rc,?_,?_,?_,eg,λu p N A ru=>?_⟩
      ·rw[eF];exact .ins (B a _ hA) hl (λ_=>rfl) ((ra.same B).at (LI a) (ff ON Mm))
      ·rw[kc F];simp[trees]
      ·refine ZR.mpr ⟨w3,O9.nd.sublist (pf F),λd C b2 Nu z=>?_⟩;subst z;exact IU.pe (w2.Jh d C) (OM d Nu)
      ·rw[rG F Pn];exact λd _ z=>nomatch z
      ·have back:Rp G p (.ref a) (.obj (c+1) ((0,.bl b) :: KS)) N:=by
        refine L2.ak λY l=>?_;obtain⟨c2,a2,dx2,b2,S6,RL,SD,Sq,Pb,Rq,UO,UN,Rr,Ri,K9,Nu,MJ⟩:=eW A.rp;cases Pb;cases Rq;subst UN;refine l ?_;rw[Rr];exact .ins Ri K9 hb (MJ.at G.me (ff (K9.trans MJ.len.1) MW.1))
       obtain⟨F2,g2⟩:=w5 p N (⟨(Kept.of B).trans A.kept,λd o1 C P=>A.keep d o1 (λz=>(ZU.mp z).elim C λz=>by rw[OM d z]at P;cases P) (B d o1 P),λd h=>A.Jh d λz=>h (B.free z),back,A.nd,λd C=>by
        rcases A.sub d C with z | z
        ·rcases ZU.mp z with z | z
         ·exact .inl z
         ·exact .inr (OM d z)
        ·exact .inr (B.free z)⟩)
       obtain⟨z1,z2⟩:=s.mut h0 h1 g2;exact kq u p _ z1 z2 (ru.at G.me (oU y MW.2))
    ·cases S
   ·cases r
  ·cases r
 ·cases e
def C5(z:kA G)(q:∀k,(G.ct (c+1)).2 k≠m)(p:LZ G X o i way)(u:Kc X.K (G.ct (c+1)).1)(r:Meth X.K (G.ct (c+1)).1 m f)(F:FnOk X.prog X.w X.K X.mg X.base JB k f fd ps (Mj G c mv g))(n:oe k' X.A)(t:k<=k')(v:Binds X.K fd ps [])(x:JF G X (e :: es) cs)(y:K1 e es X)(a:K2 pos es X)(l:eval (.Call (.Attribute o m apos) (e :: es) [] pos) X.env=(do
   let b ← eval o X.env
   standAt apos.atName
   let (f,first) ← holding [b] (getMethod b m j)
   callWith pos f first (backTo pos (Pv (e :: es) X.env)) (backToKw pos (SC [] X.env)))):PX G X (.Call (.Attribute o m apos) (e :: es) [] pos) (bH i way c mv g cs) :=
 PE.weak (rE p u r F (n.mono t) v .nil ng x y a l) λJ H Q h=>tN z q (λM U d J H R s e k=>⟨M,U,d,s,e,k⟩) h
def AS(u:kA G)(n:∀k,(G.ct (c+1)).2 k≠m)(l:LZ G X o i way)(r:Kc X.K (G.ct (c+1)).1)(p:Meth X.K (G.ct (c+1)).1 m f)(F:FnOk X.prog X.w X.K X.mg X.base JB k f fd ps (Mj G c mv g))(j:oe k' X.A)(q:k<=k')(t:Binds X.K fd ps [])(d:eval (.Call (.Attribute o m apos) [] [] pos) X.env=(do
   let a ← eval o X.env
   standAt apos.atName
   let (f,first) ← holding [a] (getMethod a m b)
   callWith pos f first (backTo pos (Pv [] X.env)) (backToKw pos (SC [] X.env)))):PX G X (.Call (.Attribute o m apos) [] [] pos) (bH i way c mv g ah) :=
 PE.weak (sV l r p F (j.mono q) t .nil ng d) λJ H Q h=>tN u n (λM U x J H R s e k=>by
  cases (e);exact k [] H [] (aI.refl _) .nil ⟨λi v F h=>by simp at h,by simp[J9]⟩) h
def Pm(x:Xx):Sx:=λU=>(x U).bind λz=>if IS z.1.2 then Z (.nx z.2) else L
def mZ(j:Nat)(x:Xx):Sx:=λU=>(x U).bind λz=>if IS z.1.2=O/\j<z.2.length then Z (.nx (z.2.set j (Z (.pu z.1.2)))) else L
def rL(x:Xx):Sx:=λU=>(x U).bind λz=>if IS z.1.2 then Z (.rt (.fr,z.1.2) z.2) else L
def oh{pos:Pos}(h:PX G X e x)(n:swapsWith e L pos.line X.env=pure R):PSV G X (.Expr e pos) (Pm x) :=
 PS.weak (jR h n) λD J H b=>by
  obtain⟨M,U,out,s,e,k⟩:=b;obtain⟨⟨v,j⟩,e1,e2⟩:=Zz.mp e;split at e2
  ·rename_i d;cases e2;exact⟨M,U,v,j,s,e1,d,λu p l a f r=>k l J p a f⟩
  ·cases e2
def BI(h:PX G X e x):PSV G X (.Return (Z e) pos) (rL x) :=
 PS.weak (pB h) λD J H d=>by
  obtain⟨M,U,out,s,e,k⟩:=d;obtain⟨⟨v,l⟩,e1,e2⟩:=Zz.mp e;split at e2
  ·rename_i j;cases e2;exact⟨M,U,v,l,s,e1,j,λu p n b f r=>k u p [] n J b f r ⟨Yb,λa h=>nomatch h⟩⟩
  ·cases e2
def qX{pos:Pos}(h:PX G X e x)(B:X.N.Nodup)(l:X.N[j]?=Z d)(w:Loc X.env.scope d)(y:swapsWith e (Z (.Name d b)) pos.line X.env=pure R)(A:X.fn d=O\/X.env.scope.names.lookup d=Z .local) :
  PSV G X (.Assign [.Name d b] e pos) (mZ j x) :=
 PS.weak (uX B l w h y A) λD J H z=>by
  obtain⟨M,U,out,s,e,k⟩:=z;obtain⟨⟨v,C⟩,e1,e2⟩:=Zz.mp e;split at e2
  ·rename_i l;cases e2;refine⟨M,U,v,C,s,e1,l.1,λu n E p f r=>?_⟩;obtain⟨t,q⟩:=p.val (m:=.fr) l.2 (aI.refl n) r ⟨Yb,λa h=>nomatch h⟩ (.inl ⟨rfl,by decide⟩);exact k _ _ n t (f.trans q)
  ·cases e2
def mY(i:Nat)(a:List Lz)(k:Ex)(x:Xx):Sx:=λU=>(x U).bind λz=>if IS z.1.2 then gm i a k (λ_=>Z (.fr,z.1.2)) z.2 else L
def AG{mv:Md}(Jq:kA G)(s:SR G M U J H)(S:U[i]?=Z (Z (.ow t)))(ek:keys way U=Z P)(Nb:ck U=Z (mk,b))(e5:pm (kR (mk,b) (mv,p)) P t=Z (t',y'))(JK:aI H H1)(rv:Rp G H1 xv p Fv)(Y:Fp M U H mv Fv)(k:∀M' H',SR G M' (U.set i (Z (.ow t'))) J H'->JA M U H M' (U.set i (Z (.ow t'))) H'->D J H'):GL (RO G i way) (tE G ck) Dh xv J H1 D:=by
   refine L2.ak λP_ Q=>?_;obtain⟨v,g1,g2⟩:=s.rp _ _ S;obtain⟨w,x,F1,x3,w1,w2,w3,B,w5⟩:=oz P Jq g2 (s.nd i t S) e5;refine Q ?_;refine⟨M,U,t,P,v,w,s.same JK,S,g1,ek,w1.same JK,λH2 Jt=>⟨M,U,mk,b,(s.same JK).same Jt,Nb,λkv H3 Fk Ki rk fk=>?_⟩⟩;have q:=(JK.trans Jt).trans Ki;have Nk:=(rv.same Jt).same Ki;have fin:∀F A,Chg G H w F1 x3 F A->D J F:=λF A g=>by
    obtain⟨F2,PF⟩:=w5 F A g;obtain⟨z1,z2⟩:=s.mut S g1 PF;exact k _ F z1 z2
   refine L2.ak λP_ Q=>?_;cases x with
   |lst l =>
    cases b with
    |int n =>
     obtain⟨tt,et,e7⟩:=Zz.mp (B);obtain⟨j,ej,e8⟩:=Zt.mp e7;cases e8;cases (kK et);obtain⟨a,vs,Fs,rfl,rfl,E,u⟩:=w2.lst_inv;have C:=q a _ E;have nd:=Zf.mp w3;have na:a∉Fv:=λz=>by rw[Y.2 a z]at E;cases E
     have y:IU (H3 a):=by rw[C];exact True.intro
     have off:=λd hb hv=>IU.pe (u.Jh d hb) (Y.2 d hv);refine Q ?_;refine .inl ⟨a,vs,n,j,rfl,rk.int_inv,C,by rw[← uN,u.len.1];exact ej,fin _ (a :: (Fs.set j Fv).flatten) ?_⟩;refine Chg.upd q Zu y (.lst ay ((((u.same q).off y nd.1)).putAt j ((λr hn=>r.keep (Kept.upd (.inl y)) λd hb o' LV=>by rw[aD (λz=>hn (by rw[← z];exact hb))];exact LV) Nk na))) ?_ ?_
     ·rw[Zf];refine⟨λh=>?_,eK nd.2 Y.1 λi' A _ hi d hb=>off d (dF hi hb)⟩;rcases cN h with z | ⟨i',A,_,h1,h2⟩
      ·exact na z
      ·exact nd.1 (dF h1 h2)
     ·intro d hb;rcases Zk.mp hb with rfl | hb
      ·exact .inl Zu
      ·rcases cN hb with z | ⟨i',A,_,h1,h2⟩
       ·exact .inr (Y.2 d z)
       ·exact .inl (Zw _ (dF h1 h2))
    |_=>cases B
   |dct kd l =>
    cases kd with
    |zero =>
     have hc:(iK b=O/\IS p=O/\l.length<fN)/\x3=.dct 0 (dput l b p):=by
      have w4':(if iK b/\IS p/\l.length<fN then Z (T.dct 0 (dput l b p),()) else L)=Z (x3,y'):=B
      simp_all
     obtain⟨⟨c1,c2,c3⟩,rfl⟩:=hc;have eF:=Nk.IS c2;subst eF;obtain⟨a,ns,vs,ts,Fs,rfl,rfl,E,hl,rfl,u⟩:=fB w2;obtain⟨kk,rfl,Na⟩:=d7 rk c1;subst Na;have C:=q a _ E;have y:IU (H3 a):=by rw[C];exact True.intro
     have nd:=Zf.mp w3;obtain⟨OP,KA,KC,Kl,q1,q2,q3,q4,N⟩:=qI Nk hl (u.same q);refine Q ?_;refine .inr ⟨a,_,rfl,u0.k C (by
      have:((ns.map aX).zip ts).length<16777216:=c3;rw[YL,Zy]at this;rw[YL];have:=u.len.1;have:(KF:Nat)=16777216:=rfl;lia),fin _ (a :: Kl.flatten) ?_⟩
     rw[q1,q3];refine Chg.upd q Zu y (.dct ay q2 (q4.off y λz=>nd.1 (N.subset z))) ?_ ?_
     ·exact Zf.mpr ⟨λz=>nd.1 (N.subset z),nd.2.sublist N⟩
     ·intro d hb;rcases Zk.mp hb with rfl | hb
      ·exact .inl Zu
      ·exact .inl (Zw _ (N.subset hb))
    |succ n=>cases B
   |_=>cases B
def vV{X:Cx}{pos:Pos}(Jq:kA G)(C:oe w X.A)(F:LZ G X o i way)(N:PV G X b l)(he:PX G X e x)(Q:∀v,assign (.Subscript o b d) X.env v=(do
   let j ← holding [v] (eval o X.env)
   let iv ← holding [v,j] (eval b X.env)
   standAt d
   holding [v,j,iv] (setItem j iv v)
   release [v,j,iv] []))(B:swapsWithSole [.Subscript o b d] e pos.line X.env=pure R)(hw:swappedStores [.Subscript o b d] e X.env=pure L)(S:(assignEach [.Subscript o b d] X.env).map (·.2)=[assign (.Subscript o b d) X.env]):PSV G X (.Assign [.Subscript o b d] e pos) (mY i way l x) :=
 PS.weak (uq he (uO F N (AN (lK C)) Q) B hw S) λD J H E=>by
  refine L2.ak λP_ y=>?_;obtain⟨M,U,out,s,e,k⟩:=E;obtain⟨⟨v,U'⟩,e1,e2⟩:=Zz.mp e;refine y ?_;split at e2
  ·rename_i P;refine⟨M,U,v,U',s,e1,P,λu H' M' q f r=>?_⟩;obtain⟨⟨mv,tv⟩,ev,e2⟩:=Zz.mp e2;cases ev;split at e2
   ·rename_i t z;obtain⟨ks,Y,e2⟩:=Zz.mp e2;obtain⟨⟨mk,tk⟩,Nb,e2⟩:=Zz.mp e2;obtain⟨⟨t',y'⟩,e5,e6⟩:=Zt.mp e2;cases e6;exact AG Jq q z Y Nb e5 (aI.refl H') r ⟨Yb,λa h=>nomatch h⟩ λM2 H2 p n=>k _ J H2 p (f.trans n)
   ·cases e2
  ·cases e2
end
end VS
end
section
namespace L2
open PySem PySem.Spec PyProof.Rows
def uT:dj X (.type "dict") (λf H Q=>∃(d:KM)(a:List (Key×V)),f=[.ref d]/\H d=Z (.dK a)/\∀l,H l=L->Q (.ref l) (upd H l (.dK a))):=by
 intro g s J H f w Q I m h;obtain⟨d,a,rfl,hd,q⟩:=h;obtain⟨u,rfl,n⟩:=m.one;cases n;obtain⟨i,t,v,rel,p⟩:=sC I.p0 hd;refine PySem.kt_call_dict t p (by rw[← XI rel];exact i) λx r j=>?_;exact⟨.ref s.heap.objs.size,_,I.laid (λb o e=>(j.2 b (Zh (ZY e))).trans (Zp _ e)) (Zm _) (qZ i (beq_eq_false_iff_ne.mpr (Ye (Zh I.big))) rel r),rfl,q _ (I.p0.fresh (Zm _))⟩
end L2
namespace VS
open PySem PySem.Spec PyProof.Rows L2
def o5:Vt->Vs
 |[(_,.dct 0 l)]=>if iN (l.map (·.2))=O then Z (.fr,.dct 0 l) else L
 |_=>L
section
def zM:eU G (λn H Q=>∃(d:KM)(j:List (Key×V)),n=[.ref d]/\H d=Z (.dK j)/\∀l,H l=L->Q (.ref l) (upd H l (.dK j))) o5:=by
 intro M U D H l x E m t Q A e k;unfold o5 at e;split at e
 ·rename_i z B;split at e
  ·rename_i i;refine L2.ak λC u=>?_;cases e;obtain⟨v,F,rfl,rfl,r⟩:=(A.rp).one;obtain⟨a,ns,s,y,Gs,rfl,rfl,w,hl,rfl,f⟩:=fB r;refine u ?_;refine⟨a,_,rfl,w,λq h=>?_⟩;have g:aI H (upd H q (.dK (ns.zip s))):=cX h;rw[List.map_snd_zip (by rw[Zy,hl,f.len.1];exact Zm _)]at i;refine k _ _ (q :: Gs.flatten) g (.dct ay hl (f.same g)) ?_;rw[(f.IS i)];exact Fp.new (A.same.free h) (by simp) Fp.nil
  ·cases e
 ·cases e
def CP{X:Cx}(d:X.mg "dict" = L)(g:JF G X [e] cs)(f:Gl X "dict")(he:K1 e [] X):PV G X (.Call (.Name "dict" p) [e] [] pos) (eN o5 cs) :=
 jO uT zM f d vX g (he:=he)
def Ed{i d:Int}:PV G X (.Dict [Z (.Constant (.int i) j q)] [.Constant (.int d) l g] pos) (sP 0 [(Q3 i,Q3 d)]) :=
 PE.weak (Bk (yE rK rK B4) Y Y (by simp) (by show 1<=15;decide)) λJ H Q n=>by
  refine L2.ak λt h=>?_;obtain⟨M,U,m,r,s,e,k⟩:=n;cases (e);refine h ?_;intro p f;refine⟨ay,[(Sum.inl i,.int d)],rfl,(by show 1<=15;decide),?_⟩;rw[CB];have:Rp G (upd H p (.dK [(Sum.inl i,V.int d)])) (.ref p) (.dct 0 ((([Sum.inl i]:List Key).map aX).zip [.int d])) (p :: ([[]]).flatten) :=
   .dct ay Y (.cons (.int d) .nil)
  exact k _ _ _ (cX f) this ⟨by simp,λb hb=>by simp at hb;rw[hb];exact f⟩
def wZ(x y:Val):Vs:=match x.2 with
 |.dct 0 l=>if iK y.2 then Z (match eX l y.2 with | some t=>sub x.1 t | none=>(.fr,.non)) else none
 |_=>L
def w_get{X:Cx}{apos:Pos}(E:oe kr X.A)(P:PV G X o ca)(he:PV G X e cb)(IV:UV o "get" X.env (eval o X.env)=eval o X.env)(Jm:((backTo cp (Pv [e] X.env)).all (λx=>!x.1)&&(backToKw cp (SC [] X.env)).all (λx=>x.1.isSome)
   && decide (([e]:List Expr).length+([]:List Keyword).length+(if ([]:List Keyword).isEmpty then 0 else 1)<30))=O)(IK:(apos.endLine==cp.line)=O)(h:backTo cp (Pv [e] X.env)=[(R,eval e X.env)]):PV G X (.Call (.Attribute o "get" apos) [e] [] cp) (e2 wZ ca cb) :=
 PE.weak (zR (lK E) P he ⟨IV,Jm,IK,h⟩) λJ H Q N=>by
  obtain⟨M,U,m,r,s,e,u⟩:=N;obtain⟨⟨B,x⟩,ea,e⟩:=Zz.mp e;obtain⟨⟨z,y⟩,eb,e⟩:=Zz.mp e;unfold wZ at e;split at e
  ·rename_i l D;subst D;split at e
   ·rename_i S;have d:=Zi e;refine⟨M,U,B,_,s,ea,λv H1 F1 t r1 f1=>?_⟩;refine L2.ak λP_ C=>?_;obtain⟨a,ks,vs,ts,Fs,rfl,rfl,j,hl,rfl,q⟩:=fB r1;refine C ?_;refine⟨a,rfl,.inl ⟨_,.inl j⟩,M,U,z,y,s.same t,eb,λv2 w F2 g r2 f2=>?_⟩;obtain⟨kk,rfl,ek⟩:=d7 r2 S;rw[ek]at d;rcases lF hl (q.same g) with⟨h1,Y⟩ | ⟨i,v,t2,F,a1,a2,a3,a4,n⟩
    ·rw[h1]at d;cases d;refine⟨_,ik.k (g a _ j),?_⟩;rw[Y];exact u .non w [] (t.trans g) .non Fp.nil
    ·rw[a1]at d;refine⟨_,ik.k (g a _ j),?_⟩;rw[a2];have f:=((f1.sub (Yh _ _)).sub (cZ a4)).up n;unfold VS.sub at d;dsimp only at d;rw[d]at f;have et:t2=r:=congrArg Prod.snd d;rw[et]at n;exact u v w F (t.trans g) n f
   ·cases e
  ·cases e
def sZ(x y:Val):Vs:=match x.2 with
 |.dct 3 l=>if iK y.2 then (eX l y.2).map (sub x.1) else L
 |_=>L
def ue(r:Rp G H v (.dct 3 l) F):∃(a:KM)(o:Obj)(f:List Key)(d:List V)(g:Vr)(h:Wv),v=.ref a/\F=h.flatten/\H a=Z (.frz o (.dK (f.zip d)))/\f.length=d.length/\l=(f.map aX).zip g/\RpL G H d g h:=r.inv
def FJ:gR G (Gi G.K) sZ:=by
 intro M U S H x y u w F1 F2 m t Q d e k;obtain⟨J,x⟩:=x;unfold sZ at e;split at e
 ·rename_i l h;subst h;split at e
  ·rename_i j;obtain⟨E,e1,e2⟩:=Zt.mp e;obtain⟨a,o,N,C,D,Y,rfl,rfl,n,hl,rfl,q⟩:=ue d.r1;obtain⟨g,rfl,s⟩:=d7 d.r2 j;rw[s]at e1;rcases lF hl q with⟨r,_⟩ | ⟨i,v,t2,F,B,A,P,z,f⟩
   ·rw[r]at e1;cases e1
   ·rw[B]at e1;cases e1;cases e2;refine .inr ⟨a,v,rfl,.inl ⟨_,g,.inr ⟨o,n⟩,rfl,A.symm⟩,?_⟩;exact k v H F (aI.refl _) f ((d.f1.sub (cZ z)).up f)
  ·cases e
 ·cases e
def Dj{X:Cx}(f:oe kr X.A)(i:PV G X a ca)(g:PV G X b cb)(d:iV b)(j:X.K=G.K):PV G X (.Subscript a b pos) (e2 sZ ca cb) :=
 PE.weak (qf (Mp.or o9 (qz (lK f))) i g d) λJ H Q h=>by rw[j];exact lS FJ h
end
def eNew(c:Nat)(g:Mt)(b:Jj):Ex:=λU=>(b U).bind λa=>if dY (trees a)=O then (g [] (trees a)).bind λz=>if eD z.1=O/\Oo z.2=O then Z (.fr,.obj (c+1) ((0,.bl R) :: z.1)) else L else L
def eE(c:Nat)(g:Fn)(d:Ex)(b:Jj):Ex:=λU=>(d U).bind λx=>match x.2 with
 |.obj e (_ :: _)=>if e=c+1 then (b U).bind λa=>(g (x.2 :: trees a)).bind λr=>match r.1 with
  |.fr=>Z r
  |_=>L else L
 |_=>L
theorem zy{α:Type}:∀(l:List α)(a:Wv),JX (l.map λ_=>R) a=[]
 |[],_=>by simp[JX]
 |_ :: _,[]=>by simp[JX]
 |_ :: l,F :: a=>by
  rw[Zj,JX,Zl Zc,YU];exact zy l a
theorem zw:∀(e:List Bool)(d:Wv),∀a∈Ml e d,a∈d.flatten
 |[],_,a,h=>by simp[Ml]at h
 |_ :: _,[],a,h=>by simp[Ml]at h
 |b :: bs,F :: d,a,h=>by
  rw[Ml]at h;rw[Yl];rcases ZU.mp h with h | h
  ·grind
  ·exact ZE _ (zw bs d a h)
section
def Cp{G:Gx}(r:Rp G H u t F)(h:Oo t=O):u=.non:=by
 cases r with
 |non=>rfl
 |_=>cases h
def yq{X:Cx}(F:∀n,FnOk X.prog X.w X.K X.mg X.base JB k f fd ps (Mj G c (List.replicate n false) g)->True)(ht:∀M U d J H (R:List V->Hp->Prop),SR G M U J H->cs U=Z d->(∀v l Fs,aI H l->RpL G l v (trees d) Fs->N9 M U H d Fs->R v l)->t J H R)(n:Nat)(hn:∀U d,cs U=Z d->d.length=n)(hq:tE G (eNew c g cs) J H Q):zZ (G.ct (c+1)).1 (Mj G c (List.replicate n false) g) [] E t J H Q:=by
 refine L2.ak λP_ B=>?_;obtain⟨M,U,mo,r,s,e,kq⟩:=hq;obtain⟨d,el,e1⟩:=Zz.mp e;refine B ?_;split at e1
 ·rename_i Rc;obtain⟨⟨KS,y⟩,eg,e2⟩:=Zz.mp e1;split at e2
  ·rename_i hc;cases e2;refine ht M U d J H _ s el λv H1 Gs JK Vi Se a dx N C ne=>?_;have hHa:=JK.free N;have S:aI H1 (upd (upd H1 dx (.own a)) a (.ins (G.ct (c+1)).1 dx [])):=λb A q=>by
    rw[aD (λz=>by rw[z,N]at q;cases q),aD (λz=>by rw[z,C]at q;cases q)];exact q
   have em:List.replicate n false=(List.range n).map λ_=>false:=by rw[List.map_const',ZX]
   have P:JX (List.replicate n false) Gs=[]:=by rw[em];exact zy _ _
   refine⟨a,v,[],trees d,[a],Gs,KS,y,by rw[ZQ],.ins (ks:=[]) ay Y (λ_=>rfl) .nil,(Vi.same S).at (LI a) Rc,?_,?_,?_,eg,λu l F' j ru=>⟨Cp ru hc.2,?_⟩⟩
   ·simp[trees,(hn U d el)]
   ·rw[P];simp
   ·rw[P];intro b hb D;have:b=a:=by simpa using hb
    subst this;exact IU.pe (Vi.Jh b (zw _ _ b D)) N
   ·rw[P,ZQ]at j;refine kq (.ref a) l F' (λb A q=>j.keep b A (λz=>?_) (S b A (JK b A q))) (by
     refine L2.ak λP_ B=>?_;obtain⟨c2,a2,dx2,b2,S6,RL,SD,Sq,Pb,Rq,UO,UN,Rr,Ri,K9,Nu,MJ⟩:=eW j.rp;cases Pb;cases Rq;subst UN;refine B ?_;rw[Rr];exact .ins Ri K9 (λz=>nomatch z) (MJ.at G.me (ff (K9.trans MJ.len.1) hc.1))) ⟨j.nd,λb hb=>?_⟩
    ·simp_all
    ·rcases j.sub b hb with z | z
     ·simp_all
     ·exact(λb z=>JK.free (S.free z)) b z
  ·cases e2
 ·cases e1
def G3{G:Gx}{X:Cx}(n:Nat)(v:Mk X.K (G.ct (c+1)).1 f)(F:FnOk X.prog X.w X.K X.mg X.base JB k f fd ps (Mj G c (List.replicate n false) g))(d:oe k' X.A)(q:k+1<=k')(r:Gl X x)(l:X.mg x=Z (.ref (G.ct (c+1)).1))(t:Binds X.K fd ps [])(u:JF G X (e :: es) cs)(j:∀U a,cs U=Z a->a.length=n)(y:K3 x)(he:K1 e es X)(b:K2 pos es X):PV G X (.Call (.Name x p) (e :: es) [] pos) (eNew c g cs) :=
 PE.weak (BE v F (d.mono q) r l t .nil ng u y he b) λJ H Q h=>yq (X:=X) (k:=k) (f:=f) (fd:=fd) (ps:=ps) (λ_ _=>True.intro) (λM U a J H R s e k=>⟨M,U,a,s,e,k⟩) n j h
def EM{G:Gx}{X:Cx}(q:Mk X.K (G.ct (c+1)).1 f)(F:FnOk X.prog X.w X.K X.mg X.base JB k f fd ps (Mj G c [] g))(b:oe k' X.A)(j:k+1<=k')(l:Gl X x)(d:X.mg x=Z (.ref (G.ct (c+1)).1))(n:Binds X.K fd ps [])(r:K3 x):PV G X (.Call (.Name x p) [] [] pos) (eNew c g ah) :=
 PE.weak (zb q F (b.mono j) l d n .nil ng r) λJ H Q h=>yq (X:=X) (k:=k) (f:=f) (fd:=fd) (ps:=ps) (λ_ _=>True.intro) (λM U a J H R s e k=>by
  cases (e);exact k [] H [] (aI.refl _) .nil ⟨λi v F h=>by simp at h,by simp[J9]⟩) 0 (λU a e=>by
  cases (e);rfl) h
theorem wc{g:Nat->Str}(b:∀k,g k≠m):∀(ns:Vx)(a:List V),((ns.map g).zip a).lookup m=L
 |[],a=>by simp
 |_ :: _,[]=>by simp
 |n :: ns,v :: a=>by
  rw[Zj,ZL,Y9];have:(m==g n)=R:=by
   grind
  rw[this];exact wc b ns a
def vS{G:Gx}(hn:∀k,(G.ct (c+1)).2 k≠m)(S:∀M U d J H (R:List V->Hp->Prop),SR G M U J H->cs U=Z d->(∀l j A,aI H j->RpL G j l (trees d) A->N9 M U H d A->R l j)->t J H R)(Y:tE G (eE c h ca cs) J H Q):vq (G.ct (c+1)).1 m (LH G h) [] E (tE G ca) t J H Q:=by
 refine L2.ak λP_ q=>?_;obtain⟨M,U,mo,r,s,e,N⟩:=Y;obtain⟨⟨F,y⟩,ea,e1⟩:=Zz.mp e;refine q ?_;split at e1
 ·rename_i c' q0 fs P;subst P;split at e1
  ·rename_i hc;subst hc;obtain⟨d,el,e2⟩:=Zz.mp e1;obtain⟨⟨n,D⟩,eg,e3⟩:=Zz.mp e2;refine⟨M,U,F,_,s,ea,λv H1 F1 z r1 f1=>?_⟩;refine L2.ak λP_ q=>?_;obtain⟨c2,a,dx,b,ns,l,ts,A,ec,rfl,eb,ef,eF,hA,hl,hb,ra⟩:=eW r1;cases ec;refine q ?_;refine⟨a,dx,_,rfl,hA,wc hn _ _,S M U d J H1 _ (s.same z) el λus H2 Gs w Pn O9=>?_⟩;rw[ZQ];refine⟨_ :: trees d,F1 :: Gs,n,D,.cons (r1.same w) Pn,eg,λu j F' Ki C B=>?_⟩;cases n with
   |fr =>
    cases e3;exact N u j F' ((z.trans w).trans Ki) C ⟨B.1,λb hb=>z.free (w.free (B.2 b hb))⟩
   |pu=>cases e3
   |bo=>cases e3
  ·cases e1
 ·cases e1
def FP{G:Gx}(t:∀k,(G.ct (c+1)).2 k≠m)(r:PV G X o ca)(y:Kc X.K (G.ct (c+1)).1)(u:Meth X.K (G.ct (c+1)).1 m f)(F:FnOk X.prog X.w X.K X.mg X.base JB k f fd ps (LH G h))(n:oe k' X.A)(v:k<=k')(z:Binds X.K fd ps [])(B:JF G X (e :: es) cs)(C:K1 e es X)(a:K2 pos es X)(l:eval (.Call (.Attribute o m apos) (e :: es) [] pos) X.env=(do
   let b ← eval o X.env
   standAt apos.atName
   let (f,first) ← holding [b] (getMethod b m j)
   callWith pos f first (backTo pos (Pv (e :: es) X.env)) (backToKw pos (SC [] X.env)))):PV G X (.Call (.Attribute o m apos) (e :: es) [] pos) (eE c h ca cs) :=
 PE.weak (rE r y u F (n.mono v) z .nil ng B C a l) λJ H Q q=>vS t (λM U d J H R s e k=>⟨M,U,d,s,e,k⟩) q
def CN{G:Gx}(n:∀k,(G.ct (c+1)).2 k≠m)(l:PV G X o ca)(u:Kc X.K (G.ct (c+1)).1)(r:Meth X.K (G.ct (c+1)).1 m f)(F:FnOk X.prog X.w X.K X.mg X.base JB k f fd ps (LH G h))(j:oe k' X.A)(t:k<=k')(y:Binds X.K fd ps [])(d:eval (.Call (.Attribute o m apos) [] [] pos) X.env=(do
   let a ← eval o X.env
   standAt apos.atName
   let (f,first) ← holding [a] (getMethod a m b)
   callWith pos f first (backTo pos (Pv [] X.env)) (backToKw pos (SC [] X.env)))):PV G X (.Call (.Attribute o m apos) [] [] pos) (eE c h ca ah) :=
 PE.weak (sV l u r F (j.mono t) y .nil ng d) λJ H Q q=>vS n (λM U z J H R s e k=>by
  cases (e);exact k [] H [] (aI.refl _) .nil ⟨λi v F h=>by simp at h,by simp[J9]⟩) q
end
def qC(i:Nat)(a:List Lz)(j:Nat)(U:VS.Env):Option Out:=match (U[i]?:Option (Vu)),(U[j]?:Option (Vu)) with
 |some (some (.ow t)),some (some (.ow u))=>if i≠j then (keys a U).bind λb=>(pm (λx=>aK x [(.fr,u)]) b t).map λz=>.nx ((U.set j L).set i (Z (.ow z.1))) else L
 |_,_=>L
open Classical in
noncomputable def less(H:Hp)(F:Wg):Hp:=λb=>if b∈F then L else H b
section
def qK(h:b∈F):less H F b=L:=Zn h
def ie(h:b∉F):less H F b=H b:=Zl h
def iB{o:HO}(h:less H F b=Z o):H b=Z o/\b∉F:=by
 by_cases q:b∈F
 ·rw[qK q]at h;cases h
 ·rw[ie q]at h;exact⟨h,q⟩
def xT(h:∀b∈F,IU (H b)):Kept H (less H F) :=
 ⟨λb a e=>by
  rw[ie (λz=>by have:=h b z;rw[e]at this;exact this)];exact e,λb o u e=>by
  rw[ie (λz=>by have:=h b z;rw[e]at this;exact this)];exact e⟩
def Bj{apos pos:Pos}(Jq:kA G)(ho:LZ G X o i way)(hK:X.K=G.K)(hN:X.N[j]?=Z y)(hv:Lg X.env.scope y)(hd:K3 y)(Jf:K4 y)(IV:UV o "append" X.env (eval o X.env)=eval o X.env)(Jm:((backTo cp (Pv [.Name y p1] X.env)).all (λx=>!x.1)&&(backToKw cp (SC [] X.env)).all (λx=>x.1.isSome)
   && decide ([Expr.Name y p1].length+([]:List Keyword).length+(if ([]:List Keyword).isEmpty then 0 else 1)<30))=O)(IK:(apos.endLine==cp.line)=O)(hs:Pv [.Name y p1] X.env=(R,eval (.Name y p1) X.env) :: Pv [] X.env)(IJ:(backTo cp (Pv [] X.env)).any (·.1)=R)(K8:swapsWith (.Call (.Attribute o "append" apos) [.Name y p1] [] cp) L pos.line X.env=pure R) :
  PSV G X (.Expr (.Call (.Attribute o "append" apos) [.Name y p1] [] cp) pos) (qC i way j) :=
 PS.weak (jR (sy Y5 XT XU iz ho (dJ (fR hN hv hd Jf) iJ hs) IV Jm IK hs IJ) K8) λD J H hq=>by
  obtain⟨M,U,out,s,e,k⟩:=hq;unfold qC at e;split at e
  ·rename_i t u ht C;split at e
   ·rename_i T4;refine L2.ak λP_ k_=>?_;obtain⟨A,ek,e3⟩:=Zz.mp e;obtain⟨⟨F,x2⟩,e5,e6⟩:=Zt.mp e3;cases e6;obtain⟨vj,j1,j2⟩:=s.rp _ _ C;have VL:=j2;have ndj:=s.nd j u C;have kp:=xT VL.Jh;have s0:SR G M (U.set j L) J (less H (M j)):=⟨(s.drop j).len,λQ Y h=>by
     obtain⟨n,h'⟩:=cY h;obtain⟨v,S,h2⟩:=s.rp Q Y h';exact⟨v,S,h2.keep kp λb hb d Py=>by rw[ie ((λQ Y n h b hb g=>s.sep j Q u Y C h (Ye n) b g hb) Q Y n h' b hb)];exact Py⟩,(s.drop j).nd,(s.drop j).sep⟩
    have Tz:(U.set j L)[i]?=Z (Z (.ow t)):=by
     rw[YN (Ye T4)];exact ht
    obtain⟨v,S,h2⟩:=s0.rp _ _ Tz;obtain⟨w,x,F1,x3,w1,w2,w3,B,w5⟩:=oz A Jq h2 (s0.nd i t Tz) e5;refine k_ ?_;unfold aK at B;dsimp only at B;split at B
    ·rename_i l yv heq;cases heq;obtain⟨z,ez,e7⟩:=Zz.mp B;cases (ez);split at e7
     ·rename_i hl;cases e7;obtain⟨a,us,Gs,rfl,rfl,ha,ra⟩:=w2.lst_inv;obtain⟨Ua,haj⟩:=iB ha;refine⟨M,U,t,A,v,.ref a,s,ht,S,ek,(by
       have:∀{A:List Ky}{v w:V},Kk G (less H (M j)) A v w->Kk G H A v w:=by
        intro A v w p
        induction p with
        |nil v=>exact .nil v
        |fld h l _ f=>exact .fld (iB h).1 l f
        |ix h l m _ f=>exact .ix (iB h).1 l m f
        |key h l _ f=>exact .key (iB h).1 l f
        |un _ f=>exact .un f
       exact this w1),λH0 r=>⟨.inl ⟨rfl,us,by rw[hK];exact IT.of (r a _ Ua)⟩,vj,j1,a,us,vj,rfl,rfl,r a _ Ua,by rw[ra.len.1];exact hl,?_⟩⟩
      have P:IU (H0 a):=by rw[r a _ Ua];exact True.intro
      have MO:=Zf.mp w3;have SV:=λb hb g=>by
       have:=ra.Jh b hb;rw[qK g]at this;exact this
      have E:∀b d,less H (M j) b=Z d->H0 b=Z d:=λb d h=>r b d (iB h).1;have kl:Kept (less H (M j)) H0:=⟨λb xs h=>E b _ h,λb d u h=>E b _ h⟩
      obtain⟨F2,g2⟩:=w5 _ _ (by
       refine⟨kl.trans (Kept.upd (.inl P)),λb d hb h=>by rw[aD (λz=>hb (by simp_all))];exact E b d h,λb h z=>?_,.lst ay ((RpL.off (ra.keep kl λb hb d h=>E b d h) P MO.1).append (.cons (((VL.same r)).keep (Kept.upd (.inl P)) λb hb d ho=>by rw[aD (λz=>haj (by rw[← z];exact hb))];exact ho) .nil)),?_,λb hb=>?_⟩
       ·by_cases q:b=a
        ·rw[q,ay]at z;cases z
        ·rw[aD q]at z;cases e:less H (M j) b with
         |none=>exact h e
         |some d=>rw[E b d e]at z;cases z
       ·rw[Ym];refine Zf.mpr ⟨λm=>?_,ZR.mpr ⟨MO.2,by simpa using ndj,λb hb c hc z=>?_⟩⟩
        ·rcases ZU.mp m with m | m
         ·exact MO.1 m
         simp_all
        ·subst z;exact SV b hb (by simpa using hc)
       ·rcases Zk.mp hb with rfl | hb
        ·exact .inl Zu
        ·rw[Ym]at hb;rcases ZU.mp hb with hb | hb
         ·simp_all
         ·exact .inr (qK (by simpa using hb)))
      obtain⟨z1,z2⟩:=s0.mut Tz S g2;have back:∀b,less H (M j) b=L->cT M U b\/H b=L:=λb h=>by
       by_cases q:b∈M j
       ·exact .inl ⟨j,u,C,q⟩
       ·rw[ie q]at h;exact .inr h
      have Nn:∀b,cT M (U.set j L) b->cT M U b:=λb ⟨j',F,q1,q2⟩=>⟨j',F,(cY q1).2,q2⟩
      have pu0:∀b,fg M (U.set j L) b->fg M U b:=λb ⟨j',F,q1,q2⟩=>⟨j',F,(cY q1).2,q2⟩
      refine k _ J _ z1 ⟨λb d h n=>?_,λb h z=>?_,λb h=>?_,λb h=>?_,(Kept.of r).trans (Kept.upd (.inl P))⟩
      ·exact z2.keep b d (by rw[ie (λz=>n ⟨j,u,C,z⟩)];exact h) λz=>n (Nn b z)
      ·by_cases q:b=a
       ·rw[q,ay]at z;cases z
       ·rw[aD q]at z;exact h (r.free z)
      ·rcases z2.ow b h with h | h
       ·exact .inl (Nn b h)
       ·exact back b h
      ·rcases z2.pu b h with h | h | h
       ·exact .inl (pu0 b h)
       ·exact .inr (.inl (Nn b h))
       simp_all
     ·cases e7
    ·cases B
   ·cases e
  ·cases e
end
end VS
end
section
namespace VS
open PySem PySem.Spec PyProof.Rows L2
noncomputable def isInt:T->Bool
 |.int _=>O
 |_=>R
def vm(i:Nat):LF:=λU=>match (U[i]?:Option (Vu)) with
 |some (some (.pu (.dct 3 l)))=>if (l.all λp=>isInt p.1)=O then Z (.fr,l.map (·.1)) else L
 |_=>L
def yY(i:Nat)(a:Tg)(b:Ex):Sx:=λU=>match (U[i]?:Option (Vu)) with
 |some (some (.ow (.dct 0 l)))=>(bU 1 a (vm i) L b (U.set i (Z (.pu (.dct 3 l))))).bind λv=>match v.1 with
  |.fr=>Z (.rt v (U.set i L))
  |_=>L
 |_=>L
theorem zip_inj{α β:Type}:∀{a c:List α}{b d:List β},a.length=b.length->c.length=d.length->a.zip b=c.zip d->a=c
 |[],[],_,_,_,_,_=>rfl
 |[],_ :: _,_,[],_,h,_=>by simp at h
 |[],_ :: _,[],_ :: _,_,_,h=>by simp at h
 |[],_ :: _,_ :: _,_ :: _,h,_,_=>by simp at h
 |_ :: _,_,[],_,h,_,_=>by simp at h
 |_ :: _,[],_ :: _,[],_,_,h=>by simp at h
 |_ :: _,[],_ :: _,_ :: _,_,h,_=>by simp at h
 |_ :: _,_ :: _,_ :: _,[],_,h,_=>by simp at h
 |x :: a,y :: c,z :: b,w :: d,f,e,h=>by
  rw[ZL,ZL]at h;obtain⟨e1,e2⟩:=List.cons.inj h;rw[zip_inj (by simpa using f) (by simpa using e) e2,(XM e1).1]
section
def Eg{X:Cx}(i:Nat)(N:List Str)(Jg:X.calm=O)(hN:X.N[i]?=Z x)(hv:Lg X.env.scope x)(hd:K3 x)(Jf:K4 x)(JY:uU 1 g)(hg:∀cl C s H fp,N7 G (bX X N sc cl C s H fp) tg g)(he:∀cl C s H fp,PV G (bX X N sc cl C s H fp) elt ce)(JO:iZ X.env sc=O)(Kn:lB sc (N.drop 1) X.N=O)(Ly:1<=N.length)(hs:∀y,XAA (.Name x p1) X.env y=pure y) :
  PSV G X (.Return (Z (.ListComp elt [⟨tg,.Name x p1,[],0⟩] sc pos)) pos') (yY i g ce) :=
 PS.weak (pB (rH Jg (G9 (fR hN hv hd Jf)) JO Kn Ly (λcl C s H fp=>⟨hg cl C s H fp,oJ,he cl C s H fp⟩) hs)) λD J H hq=>by
  obtain⟨M,U,out,s,e,k⟩:=hq;unfold yY at e;split at e
  ·rename_i l hl;refine L2.ak λP_ Q=>?_;obtain⟨⟨mv,tv⟩,ev,e1⟩:=Zz.mp e;have Mz:mv=.fr/\out=.rt (.fr,tv) (U.set i L):=by
    cases mv with
    |fr=>simp_all
    |pu=>cases e1
    |bo=>cases e1
   obtain⟨rfl,rfl⟩:=Mz;obtain⟨v,g1,g2⟩:=s.rp _ _ hl;obtain⟨a,ns,A,P,Fs,rfl,eF,ha,V1,rfl,ra⟩:=fB g2;refine Q ?_;have nd:=s.nd i _ hl;rw[eF]at nd;refine⟨.ref a,g1,a,ns.zip A,rfl,ha,λo=>?_⟩;have mu:IU (H a):=by rw[ha];exact True.intro
   have kp:Kept H (upd H a (.frz o (.dK (ns.zip A)))):=Kept.upd (.inl mu);have es:J.set i (Z (.ref a))=J:=by
    obtain⟨h,e⟩:=ZT.mp g1;rw[← e];exact WV h
   have aΦ:a∈M i:=by simp_all
   have sub:∀b∈Fs.flatten,b∈M i:=λb hb=>by simp_all
   have s1:SR G (nk M i Fs.flatten) (U.set i (Z (.pu (.dct 3 ((ns.map aX).zip P))))) J (upd H a (.frz o (.dK (ns.zip A)))):=by
    have:=s.put (c:=.pu (.dct 3 ((ns.map aX).zip P))) ((ZT.mp hl).1) (.dctZ ay V1 (ra.off mu (Zf.mp nd).1)) (λj c' n hj w q=>q.keep kp λb hb ob ho=>by
     rw[aD (λz=>s.sep i j _ c' hl hj (Ye n) a aΦ (by rw[← z];exact hb))];exact ho) (λ_ z=>nomatch z) (λ_ z=>nomatch z) λj u n hj b hb hb'=>s.sep j i u _ hj hl n b hb (sub b hb')
    simp_all
   refine L2.ak λP_ Q=>?_;obtain⟨M2,U2,m2,l2,s2,e2,k2⟩:=kW JY (by
    refine⟨_,_,.fr,tv,s1,ev,λu H' F E r f=>?_⟩;have ee:(U.set i (Z (.pu (.dct 3 ((ns.map aX).zip P))))).set i L=U.set i L:=by rw[List.set_set]
    have sd:=(s1.drop i).same E;rw[ee]at sd;have Nn:∀b,cT (nk M i Fs.flatten) (U.set i L) b->cT M U b:=λb ⟨j,t,m,d⟩=>by
     obtain⟨n,SK⟩:=cY m;rw[fC n]at d;exact⟨j,t,SK,d⟩
    refine k u H' F _ J sd ⟨λb ob h n=>?_,λb h z=>?_,λb h=>.inl (Nn b h),λb ⟨j,t,m,d⟩=>?_,kp.trans (Kept.of E)⟩ r ⟨f.1,λb hb=>.inl ?_⟩
    ·have nb:b≠a:=λz=>n ⟨i,_,hl,by rw[z];exact aΦ⟩;exact⟨E b ob (by rw[aD nb];exact h),λz=>n (Nn b z)⟩
    ·have B:=E.free z;by_cases q:b=a
     ·rw[q,ay]at B;cases B
     ·rw[aD q]at B;exact h B
    ·obtain⟨n,SK⟩:=cY m;rw[fC n]at d;exact .inl ⟨j,t,SK,d⟩
    ·have:=f.2 b hb;by_cases q:b=a
     ·rw[q,ay]at this;cases this
     ·rw[aD q]at this;exact this)
   refine Q ?_;refine k2 (U5 a o (ns.zip A)) _ [] (aI.refl _) ?_ (λb hb=>nomatch hb);unfold vm at e2;split at e2
   ·rename_i l3 h3;split at e2
    ·rename_i hint;cases e2;obtain⟨v3,m,d⟩:=s2.rp _ _ h3;rw[g1]at m;cases m;obtain⟨a3,o3,ks3,Sw,SA,Fs3,UP,_,Lx,Ot,rfl,MJ⟩:=ue d;cases UP;rw[ay]at Lx;have ek:=zip_inj V1 Ot (HO.dK.inj (HO.frz.inj (Zi Lx)).2);subst ek;have em:((ns.map aX).zip SA).map (·.1)=ns.map aX:=W8 (by rw[Zy,Ot,MJ.len.1];exact Zm _);have zl:(ns.zip A).length=ns.length:=by simp_all
     refine⟨λH2 NS _=>⟨λn t Y=>?_,λn Y=>?_⟩,λb hb=>nomatch hb⟩
     ·rw[em,Zd]at Y;obtain⟨kk,QX,QW⟩:=Zt.mp Y;have VY:=(ZT.mp QX).1;refine⟨⟨NS.frz _ _ _ ay,by rw[zl];exact VY⟩,λy H3 hy=>?_⟩;obtain⟨rfl,p,hp,rfl⟩:=hy;refine⟨aI.refl _,[],?_,λb hb=>nomatch hb⟩;have S:p.1=kk:=by
       have Tt:=hp;rw[YF]at Tt
       simp_all
      have hi:isInt t=O:=by
       have:=ZF.mp hint (t,SA[n]'(by rw[← MJ.len.1,← Ot];exact VY)) (by
        refine Yz (i:=n) ?_;rw[YF];exact⟨by rw[Zd,QX];exact congrArg Z QW,Zs _⟩)
       exact this
      rw[S,← QW];rw[← QW]at hi;cases kk with
      |inl n=>exact .int n
      |inr z=>cases hi
     ·refine⟨NS.frz _ _ _ ay,?_⟩
      simp_all
    ·cases e2
   ·cases e2
  ·cases e
end
noncomputable def D2(c:Nat):Option (Vu)->Bool
 |some (some (.ow (.obj a (_ :: _))))=>a==c+1
 |_=>R
def p5(i c:Nat)(b:List Bool)(g:Mt)(x:Xx)(d:Jj)(U:VS.Env):Option (Val×VS.Env):=if D2 c (U[i]?:Option (Vu))=O then (x U).bind λz=>if IS z.1.2=O then (match (z.2[i]?:Option (Vu)) with
 |some (some (.ow t))=>(d z.2).bind λa=>(lJ c b g ((.fr,z.1.2) :: a) t).map λr=>(r.2,z.2.set i (Z (.ow r.1)))
 |_=>L) else L else L
section
def Cb{G:Gx}{X:Cx}(hn:∀k,(G.ct (c+1)).2 k≠m)(hN:X.N[i]?=Z y)(hv:Lg X.env.scope y)(hd:K3 y)(Jf:K4 y)(hc:Kc X.K (G.ct (c+1)).1)(hm:Meth X.K (G.ct (c+1)).1 m f)(F:FnOk X.prog X.w X.K X.mg X.base JB k f fd ps (Mj G c mv g))(hr:oe k' X.A)(hk:k<=k')(hb:Binds X.K fd ps [])(h1:PX G X e x)(ha:JF G X es cs)(Kj:K1 e es X)(hpl:K2 pos es X)(ht:eval (.Call (.Attribute (.Name y p1) m apos) (e :: es) [] pos) X.env=(do
   let ov ← eval (.Name y p1) X.env
   standAt apos.atName
   let (f,first) ← holding [ov] (getMethod ov m pl)
   callWith pos f first (backTo pos (Pv (e :: es) X.env)) (backToKw pos (SC [] X.env)))):PX G X (.Call (.Attribute (.Name y p1) m apos) (e :: es) [] pos) (p5 i c mv g x cs) :=
 PE.weak (rE (fR hN hv hd Jf) hc hm F (hr.mono hk) hb .nil ng (dJ h1 ha Kj) Kj hpl ht) λJ H Q h=>by
  refine L2.ak λE j=>?_;obtain⟨M,U,v,U',s,e,TY,kq⟩:=h;refine j ?_;unfold p5 at e;split at e
  ·rename_i D;obtain⟨⟨C,U1⟩,e1,e2⟩:=Zz.mp e;split at e2
   ·rename_i TX;unfold D2 at D;split at D
    ·rename_i c0 q0 fs0 h0;have ec0:c0=c+1:=by simpa using D
     refine L2.ak λE j=>?_;subst ec0;obtain⟨v0,g1,g2⟩:=s.rp _ _ h0;obtain⟨c',a,dx,b,ns,l,ts,Fs,ec,rfl,eb,ef,eF,hA,hl,XN,ra⟩:=eW g2;cases ec;refine j ?_;have key:∀(ns:Vx)(l:List V),((ns.map (G.ct (c+1)).2).zip l).lookup m=L:=by
      intro ns
      induction ns with
      |nil=>intro l;simp
      |cons n ns ih =>
       intro l;cases l with
       |nil=>simp
       |cons v l =>
        rw[Zj,ZL,Y9];have:(m==(G.ct (c+1)).2 n)=R:=by
         grind
        rw[this];exact ih l
     refine⟨.ref a,g1,a,dx,_,rfl,hA,key _ _,M,U,C,U1,s,e1,TX,λY H1 M1 s1 f1 r1=>?_⟩;split at e2
     ·rename_i t1 Tw;refine L2.ak λE j=>?_;obtain⟨B,el,e3⟩:=Zz.mp e2;obtain⟨⟨x3,y3⟩,p,e4⟩:=Zt.mp e3;cases e4;obtain⟨va,q1,w2⟩:=s1.rp _ _ Tw;rw[g1]at q1;cases q1;refine j ?_;have w3:=s1.nd i t1 Tw;refine⟨M1,U1,B,s1,el,λS H2 Gs o Pn O9=>?_⟩;show Mj G c mv g (V.ref a :: ((Y :: S)++[])) H2 Q E0;rw[ZQ];unfold lJ at p;split at p
      ·rename_i c1 d fs;split at p
       ·rename_i Sb;obtain⟨rfl,Mm,P,Rc⟩:=Sb;obtain⟨⟨KS,z⟩,eg,e7⟩:=Zz.mp p;split at e7
        ·rename_i MW;refine L2.ak λE j=>?_;cases e7;obtain⟨c2,a2,dx2,b2,S6,RL,SD,Sq,Pb,Rq,UO,rfl,Rr,Ri,K9,Nu,Vj⟩:=eW w2;cases Pb;cases Rq;cases UO;refine j ?_;have r:N9 M1 U1 H1 ((.fr,C.2) :: B) ([] :: Gs):=⟨λn v' F' a1 a2=>by
          cases n with
          |zero=>cases a1;cases a2;exact Fp.nil
          |succ n=>exact O9.each n v' F' (by simpa using a1) (by simpa using a2),by
          exact O9.nd⟩
         have OM:=vZ P r;have Vh:RpL G H2 (Y :: S) (trees ((.fr,C.2) :: B)) ([] :: Gs):=.cons (r1.same o) Pn;refine⟨a,Y :: S,S6.zip SD,trees ((.fr,C.2) :: B),M1 i,[] :: Gs,KS,z,rfl,?_,Vh.at (LI a) Rc,?_,?_,?_,eg,λu H' F' q ru=>?_⟩
         ·rw[Rr];exact .ins (o a _ Ri) K9 (λ_=>rfl) ((Vj.same o).at (LI a) (ff (K9.trans Vj.len.1) Mm))
         ·rw[kc P];simp[trees]
         ·refine ZR.mpr ⟨w3,r.nd.sublist (pf P),λd t b2 Nu z=>?_⟩;subst z;exact IU.pe (w2.Jh d t) (OM d Nu)
         ·rw[rG P Vh];exact λd _ z=>nomatch z
         ·have back:Rp G H' (.ref a) (.obj (c+1) ((0,.bl d) :: KS)) F':=by
           refine L2.ak λE j=>?_;obtain⟨c3,a3,dx3,b3,ns3,Sw,SA,Fs3,ec3,UP,eb3,ef3,eF3,hA3,Ot,hb3,MJ⟩:=eW q.rp;cases ec3;cases UP;subst ef3;refine j ?_;rw[eF3];exact .ins hA3 Ot Nu (MJ.at G.me (ff (Ot.trans MJ.len.1) MW.1))
          obtain⟨z1,z2⟩:=s1.mut Tw g1 (⟨(Kept.of o).trans q.kept,λd o1 t ho=>q.keep d o1 (λz=>(ZU.mp z).elim t λz=>by rw[OM d z]at ho;cases ho) (o d o1 ho),λd h=>q.Jh d λz=>h (o.free z),back,q.nd,λd t=>by
           rcases q.sub d t with z | z
           ·rcases ZU.mp z with z | z
            ·exact .inl z
            ·exact .inr (OM d z)
           ·exact .inr (o.free z)⟩)
          exact kq u H' _ z1 (f1.trans z2) (ru.at G.me (oU z MW.2))
        ·cases e7
       ·cases p
      ·cases p
     ·cases e2
    ·cases D
   ·cases e2
  ·cases e
end
noncomputable def Ov(a:List Str)(k:Nat):Str:=match a[k]? with
 |some x=>x
 |none=>⟨#[k]⟩
def Nv(a:List Str)(K:Wu)(C D:KM):Gx:=⟨K,λc=>(if c=2 then D else C,Ov a),λ_=>L⟩
def BQ{a:List Str}(i:a.Nodup)(h:∀x∈a,x.cps.size≠1)(k b:Nat)(e:Ov a k=Ov a b):k=b:=by
 unfold Ov at e;by_cases f:k<a.length
 ·by_cases d:b<a.length
  ·rw[Zs f,Zs d]at e;exact(List.getElem_inj i).mp e
  ·rw[Zs f,Z7 (ZI d)]at e;have g:a[k]=(⟨#[b]⟩:Str):=e;exact absurd (by rw[g];rfl) (h _ (Z5 f))
 ·by_cases d:b<a.length
  ·rw[Z7 (ZI f),Zs d]at e;have g:(⟨#[k]⟩:Str)=a[b]:=e;exact absurd (by rw[← g];rfl) (h _ (Z5 d))
  simp_all
def Cw{a:List Str}{K:Wu}(b:a.Nodup)(h:∀x∈a,x.cps.size≠1):kA ((Nv a K C D).at m):=λ_ k d e=>BQ b h k d e
def gC(h:x∉a)(d:x.cps.size≠1)(k:Nat):Ov a k≠x:=λe=>by
 unfold Ov at e;split at e
 ·rename_i y b;exact h (e ▸ Yz b)
 ·exact d (by rw[← e];rfl)
def xI{a:List Str}{K:Wu}(b:a[k]?=Z f)(h:Kc K C)(g:Kc K D)(e:bf K C f)(d:bf K D f):JQ ((Nv a K C D).at m) K k f :=
 ⟨λc=>by show Ov a k=f;unfold Ov;rw[b],λc=>by show Kc K (if c+1=2 then D else C);split<;>assumption,λc=>by show bf K (if c+1=2 then D else C) f;split<;>assumption⟩
structure MtAt(P:Re)(w:UF)(K:Wu)(mg:Wq)(base:SZ)(k:Nat)(G:Gx)(c:Nat)(x:Str)(ps:List Str)(mv:List Bool)(g:Mt):Prop where
 ex:∃f fd,FnOk P w K mg base JB k f fd ps (Mj G c mv g)/\Meth K (G.ct (c+1)).1 x f/\Binds K fd ps []
 cl:Kc K (G.ct (c+1)).1
 no:∀k,(G.ct (c+1)).2 k≠x
structure MpAt(P:Re)(w:UF)(K:Wu)(mg:Wq)(base:SZ)(k:Nat)(G:Gx)(c:Nat)(x:Str)(ps:List Str)(h:Fn):Prop where
 ex:∃f fd,FnOk P w K mg base JB k f fd ps (LH G h)/\Meth K (G.ct (c+1)).1 x f/\Binds K fd ps []
 cl:Kc K (G.ct (c+1)).1
 no:∀k,(G.ct (c+1)).2 k≠x
structure InAt(P:Re)(w:UF)(K:Wu)(mg:Wq)(base:SZ)(k:Nat)(G:Gx)(c n:Nat)(x:Str)(ps:List Str)(g:Mt):Prop where
 ex:∃f fd,FnOk P w K mg base JB k f fd ps (Mj G c (List.replicate n false) g)/\Mk K (G.ct (c+1)).1 f/\Binds K fd ps []
 mg:mg x=some (.ref (G.ct (c+1)).1)
section
variable{K:Wu}
theorem MtAt.at{m:Me}(h:MtAt P w K mg base k G c x ps mv g):MtAt P w K mg base k (G.at m) c x ps mv g:=⟨h.ex,h.cl,h.no⟩
theorem InAt.at{P:Re}{w:UF}{mg:Wq}{base:SZ}{k c n:Nat}{G:Gx}{x:Str}{ps:List Str}{g:Mt}{m:Me}(h:InAt P w K mg base k G c n x ps g):InAt P w K mg base k (G.at m) c n x ps g:=⟨h.ex,h.mg⟩
def mD{G:Gx}(F:IH K x b d f m)(q:Meth K (G.ct (c+1)).1 x f)(r:Kc K (G.ct (c+1)).1)(u:∀k,(G.ct (c+1)).2 k≠x)(S:bt N ps (ai d))(o:ps.length=j)(p:N.length=l)(v:∀(kV doc pm:On)(an:Option KM)(h ct:On)(i:Vz),i.length=ps.length->bindArgs (PySem.W.fnOf x b (cR d) (ba d) (ai d) .none kV doc pm an h ct) ⟨i,[]⟩=pure (ps.zip i))(t:∀(a:KM)(h:On)(A:SB)(outer:List PySem.Env)(s:IR)(H:Hp)(E:XK),oe k (A.deeper (envOfC b (ai d) s.heap.objs.size f h))->i5 (G.at (LI a)) (jb JB P w K mg base N b (ai d) f h A outer s H E).Lj (ba d) e) :
  MtAt P w K mg base (k+1) G c x ps mv (Kt c j l mv e):=⟨⟨f,m,fnM F S o p t,q,F.binds v⟩,r,u⟩
def E4{G:Gx}(F:IH K y b d f m)(q:Mk K (G.ct (c+1)).1 f)(r:mg x=Z (.ref (G.ct (c+1)).1))(S:bt N ps (ai d))(o:ps.length=j)(p:N.length=l)(u:∀(kV doc pm:On)(an:Option KM)(h ct:On)(i:Vz),i.length=ps.length->bindArgs (PySem.W.fnOf y b (cR d) (ba d) (ai d) .none kV doc pm an h ct) ⟨i,[]⟩=pure (ps.zip i))(t:∀(a:KM)(h:On)(A:SB)(outer:List PySem.Env)(s:IR)(H:Hp)(E:XK),oe k (A.deeper (envOfC b (ai d) s.heap.objs.size f h))->i5 (G.at (LI a)) (jb JB P w K mg base N b (ai d) f h A outer s H E).Lj (ba d) e) :
  InAt P w K mg base (k+1) G c n x ps (Kt c j l (List.replicate n R) e):=⟨⟨f,m,fnM F S o p t,q,F.binds u⟩,r⟩
def CO{G:Gx}(F:Ms K y d e f q)(u:Mk K (G.ct (c+1)).1 f)(v:mg x=Z (.ref (G.ct (c+1)).1))(S:bt N ps (ai e))(r:ps.length=m)(t:N.length=p)(B:∀(s:IR)(T:KM)(kV doc pm:On)(an:Option KM)(i ct:On)(o:Obj)(n:Nat)(j:Vz),K.In s.heap->K.lookup T=Z o->o.data=.seq #[.none] n->j.length=ps.length->BindsTo s (PySem.W.fnOf y d (cR e) (ba e) (ai e) (.ref T) kV doc pm an i ct) ⟨j,[]⟩ (ps.zip j))(z:∀(a:KM)(i:On)(A:SB)(outer:List PySem.Env)(s:IR)(H:Hp)(E:XK),oe k (A.deeper (envOfC d (ai e) s.heap.objs.size f i))->i5 (G.at (LI a)) (jb JB P w K mg base N d (ai e) f i A outer s H E).Lj (ba e) h) :
  InAt P w K mg base (k+1) G c n x ps (Kt c m p (List.replicate n R) h):=⟨⟨f,q,Gd (λl b=>F.ok S l b) r t z,u,F.binds B⟩,v⟩
def nZ{G:Gx}(F:IH K x a b f l)(p:Meth K (G.ct (c+1)).1 x f)(q:Kc K (G.ct (c+1)).1)(t:∀k,(G.ct (c+1)).2 k≠x)(S:bt N ps (ai b))(m:ps.length=i)(o:N.length=j)(u:∀(kV doc pm:On)(an:Option KM)(e ct:On)(h:Vz),h.length=ps.length->bindArgs (PySem.W.fnOf x a (cR b) (ba b) (ai b) .none kV doc pm an e ct) ⟨h,[]⟩=pure (ps.zip h))(r:∀(e:On)(A:SB)(outer:List PySem.Env)(s:IR)(H:Hp)(E:XK),oe k (A.deeper (envOfC a (ai b) s.heap.objs.size f e))->i5 G (jb JB P w K mg base N a (ai b) f e A outer s H E).Lj (ba b) d) :
  MpAt P w K mg base (k+1) G c x ps (fn i j d):=⟨⟨f,l,Uh F S m o r,p,F.binds u⟩,q,t⟩
end
section
def g8{X:Cx}(C:kA G)(F:MtAt X.prog X.w X.K X.mg X.base k G c m ps mv g)(r:oe k' X.A)(t:k<=k')(s:LZ G X o i way)(u:JF G X (e :: es) cs)(B:{`q8,K1 e es X})(a:{`q8,K2 pos es X})(q:{`q8,eval (.Call (.Attribute o m apos) (e :: es) [] pos) X.env=(do
   let d ← eval o X.env
   standAt apos.atName
   let (f,first) ← holding [d] (getMethod d m l)
   callWith pos f first (backTo pos (Pv (e :: es) X.env)) (backToKw pos (SC [] X.env)))}):PX G X (.Call (.Attribute o m apos) (e :: es) [] pos) (bH i way c mv g cs):=by
 obtain⟨f,fd,z,y,v⟩:=F.ex;exact C5 C F.no s F.cl y z r t v u B a q
def yN{X:Cx}(y:kA G)(F:MtAt X.prog X.w X.K X.mg X.base k G c m ps mv g)(q:oe k' X.A)(s:k<=k')(r:LZ G X o i way)(l:eval (.Call (.Attribute o m apos) [] [] pos) X.env=(do
   let a ← eval o X.env
   standAt apos.atName
   let (f,first) ← holding [a] (getMethod a m d)
   callWith pos f first (backTo pos (Pv [] X.env)) (backToKw pos (SC [] X.env)))):PX G X (.Call (.Attribute o m apos) [] [] pos) (bH i way c mv g ah):=by
 obtain⟨f,fd,v,u,t⟩:=F.ex;exact AS y F.no r F.cl u v q s t l
def D4{X:Cx}(F:MtAt X.prog X.w X.K X.mg X.base k G c m ps mv g)(s:oe k' X.A)(t:k<=k')(y:X.N[i]?=Z x)(q:Lg X.env.scope x)(u:K3 x)(H:K4 x)(D:PX G X e xc)(v:JF G X es cs)(E:K1 e es X)(a:K2 pos es X)(r:eval (.Call (.Attribute (.Name x p1) m apos) (e :: es) [] pos) X.env=(do
   let d ← eval (.Name x p1) X.env
   standAt apos.atName
   let (f,first) ← holding [d] (getMethod d m l)
   callWith pos f first (backTo pos (Pv (e :: es) X.env)) (backToKw pos (SC [] X.env)))):PX G X (.Call (.Attribute (.Name x p1) m apos) (e :: es) [] pos) (p5 i c mv g xc cs):=by
 obtain⟨f,fd,C,B,z⟩:=F.ex;exact Cb F.no y q u H F.cl B C s t z D v E a r
def Co{X:Cx}(F:MpAt X.prog X.w X.K X.mg X.base k G c m ps h)(r:oe k' X.A)(t:k<=k')(s:PV G X o ca)(u:JF G X (e :: es) cs)(B:K1 e es X)(a:K2 pos es X)(q:eval (.Call (.Attribute o m apos) (e :: es) [] pos) X.env=(do
   let d ← eval o X.env
   standAt apos.atName
   let (f,first) ← holding [d] (getMethod d m l)
   callWith pos f first (backTo pos (Pv (e :: es) X.env)) (backToKw pos (SC [] X.env)))):PV G X (.Call (.Attribute o m apos) (e :: es) [] pos) (eE c h ca cs):=by
 obtain⟨f,fd,z,y,v⟩:=F.ex;exact FP F.no s F.cl y z r t v u B a q
def ip{X:Cx}(F:MpAt X.prog X.w X.K X.mg X.base k G c m ps h)(q:oe k' X.A)(s:k<=k')(r:PV G X o ca)(l:eval (.Call (.Attribute o m apos) [] [] pos) X.env=(do
   let a ← eval o X.env
   standAt apos.atName
   let (f,first) ← holding [a] (getMethod a m d)
   callWith pos f first (backTo pos (Pv [] X.env)) (backToKw pos (SC [] X.env)))):PV G X (.Call (.Attribute o m apos) [] [] pos) (eE c h ca ah):=by
 obtain⟨f,fd,v,u,t⟩:=F.ex;exact CN F.no r F.cl u v q s t l
def AY{e:Ex}:∀(U:VS.Env)(d:Vt),ae e ah U=Z d->d.length=1:=λU d h=>by
 obtain⟨a,_,h⟩:=Zz.mp h;cases h;rfl
def u5{X:Cx}(F:InAt X.prog X.w X.K X.mg X.base k G c n x ps g)(l:oe k' X.A)(r:k+1<=k')(t:JF G X (e :: es) cs)(q:∀U d,cs U=Z d->d.length=n)(s:Gl X x)(z:K3 x)(he:K1 e es X)(a:K2 pos es X):PV G X (.Call (.Name x p) (e :: es) [] pos) (eNew c g cs):=by
 obtain⟨f,fd,y,v,u⟩:=F.ex;exact G3 n v y l r s F.mg u t q z he a
def vt{X:Cx}(F:InAt X.prog X.w X.K X.mg X.base k G c 0 x ps g)(a:oe k' X.A)(d:k+1<=k')(l:Gl X x)(t:K3 x):PV G X (.Call (.Name x p) [] [] pos) (eNew c g ah):=by
 obtain⟨f,fd,s,r,q⟩:=F.ex;exact EM r s a d l F.mg q t
def rh{apos pos:Pos}(w:kA G)(d:LZ G X o i way)(q:JF G X [e] cs)(s:{`q8,X.K=G.K})(A:{`q8,UV o "append" X.env (eval o X.env)=eval o X.env})(y:{`q8,((backTo cp (Pv [e] X.env)).all (λx=>!x.1)&&(backToKw cp (SC [] X.env)).all (λx=>x.1.isSome)
   && decide ([e].length+([]:List Keyword).length+(if ([]:List Keyword).isEmpty then 0 else 1)<30))=O})(B:{`q8,(apos.endLine==cp.line)=O})(a:{`q8,K1 e [] X})(C:{`q8,(backTo cp (Pv [] X.env)).any (·.1)=R})(u:{`q8,swapsWith (.Call (.Attribute o "append" apos) [e] [] cp) L pos.line X.env=pure R}) :
  PSV G X (.Expr (.Call (.Attribute o "append" apos) [e] [] cp) pos) (sX (iW i way aK cs)) :=
 Af w Y5 XT XU iz mN (λH v t F l z r h=>jv r h) d q s A y B a C u
end
inductive Ia where | io (i:Nat) (un:Bool) | ex (c:Ex)
abbrev Xt:=VS.Env->Option (Bool×VS.Env)
end VS
end
section
namespace VS
open PySem PySem.Spec PyProof.Rows L2
def oN(z:Tx):Tx:=pick z (Builtin.Str.strSliceIndices L L (-1) z.length)
def DW(c:Ex):Ex:=λU=>(c U).bind λv=>match v.2 with
 |.str z=>Z (.fr,.str (oN z))
 |_=>L
def CJ(n:Nat):Builtin.Str.strSliceIndices L L (-1) n=sliceRange (sliceBounds L L (Z (-1)) n).1 (sliceBounds L L (Z (-1)) n).2.1 (sliceBounds L L (Z (-1)) n).2.2:=rfl
def rP(z:Tx):(oN z).length<=z.length:=by
 unfold oN;rw[CJ];exact yt z L L (Z (-1))
def zN(h:c∈oN z):c∈z:=zq _ _ h
section
def Im:V->Option Int->Option Int->Option Int->Hp->VK->Prop:=λx lo b st H Q=>lo=L/\b=L/\st=Z (-1)/\∃z,x=.str (sx z)/\z.length<=KF/\Q (.str (sx (oN z))) H
def Ew:Hv X Im:=by
 intro d s J H x v A w y lo f st B Q I j o pl pu ps h;refine L2.ak λC m=>?_;obtain⟨rfl,rfl,rfl,z,rfl,n,q⟩:=h;obtain⟨t,rfl⟩:=j;obtain⟨l,rfl,r⟩:=part_of pl;obtain⟨u,rfl,p⟩:=part_of pu;obtain⟨st,rfl,g⟩:=part_of ps;refine m ?_;cases l with
 |some l=>cases r
 |none =>
  cases u with
  |some u=>cases p
  |none =>
   cases st with
   |none=>cases g
   |some st =>
    obtain⟨i,b⟩:=st;have f:i=-1:=(Zi g).symm;subst f;refine⟨"str",_,F.slot_str_getitem.lookup,Wr s (sx z) t,wpAny_getItem_str_slice o Y ?_⟩;have e:sliceMade (sx z) t L L (Z (-1,b))=.str (sx (oN z)):=by
     unfold sliceMade;rw[Zl (by show ¬((-1:Int)==1&&_)=O;rw[show ((-1:Int)==1)=R from rfl,Bool.false_and];exact Zc)];have e2:((slicePicked (sx z) L L (Z (-1,b))).filterMap ((sx z).cps[·]?))=oN z:=by
      show (Builtin.Str.strSliceIndices L L (-1) (sx z).length).filterMap (z.toArray[·]?)=pick z (Builtin.Str.strSliceIndices L L (-1) z.length);unfold pick;rw[dB];simp only[Xm]
     rw[e2];rfl
    rw[e];refine⟨?_,.str _,H,I.tok _,⟨_,rfl⟩,q⟩;show (oN z).toArray.size<=_;rw[Zb];exact ZP (rP z) n
def w_rev(n:PV G X a ca)(b:PM G X L L)(q:PM G X (Z f) (Z (Q3 (-1)))):PV G X (.Subscript a (.Slice L L (Z f) g) pos) (DW ca) :=
 PE.weak (xC Ew n b b q) λJ H Q j=>by
  refine L2.ak λu i=>?_;obtain⟨M,U,m,t,s,e,k⟩:=j;obtain⟨⟨h,x⟩,o,d⟩:=Zz.mp e;refine i ?_;dsimp only at d;split at d
  ·rename_i z;cases d;refine⟨M,U,h,_,s,o,λv A F e1 r1 f1=>⟨M,U,L,s.same e1,rfl,λy e2=>⟨M,U,L,(s.same e1).same e2,rfl,λw e3=>⟨M,U,Z (-1),((s.same e1).same e2).same e3,rfl,λr p=>?_⟩⟩⟩⟩;obtain⟨rfl,b⟩:=r1.str_inv;exact⟨rfl,rfl,rfl,z,rfl,b.1,k _ r [] (((e1.trans e2).trans e3).trans p) (.str _ ⟨ZP (rP z) b.1,λc l=>b.2 c (zN l)⟩) Fp.nil⟩
  ·cases d
end
def x2(f:Val->Val->Vs)(a b:Xx):Xx:=λU=>(a U).bind λz=>(b z.2).bind λw=>(f (.fr,z.1.2) (.fr,w.1.2)).bind λv=>if IS z.1.2=O/\IS w.1.2=O/\IS v.2=O then Z ((.fr,v.2),w.2) else L
inductive Ix where | io (i:Nat) (un:Bool) | px (x:Xx)
end VS
end
section
namespace ST
open PySem PySem.Spec PyProof.Rows TS
variable{A:SB}
def Ip{k k':Ky}(d:kind k=kind k')(h:KyV k v)(e:KyV k' b)(q:Q (.bool (Th k k')) s):PP (KB prog w) A (richCompare .Lt v b) Q E s:=by
 cases k<;>cases k'<;>simp only[kind,Sum.isLeft,Bool.true_eq_false,Bool.false_eq_true]at d<;>obtain⟨t,rfl⟩:=h<;>obtain⟨a,rfl⟩:=e
 ·rename_i i j;refine richCompare_gives (typeIs_int _ _ t) (typeIs_int _ _ a) F.slot_int_lt F.entry_int_lt (F.args_int_lt_2 _ _) (gives_int_lt _ _ t a) (λx=>nomatch x) ?_;exact q
 ·rename_i x y;refine richCompare_gives (Wr _ _ t) (Wr _ _ a) F.slot_str_lt F.entry_str_lt (F.args_str_lt_2 _ _) (gives_str_lt _ _ t a) (λx=>nomatch x) ?_;exact q
noncomputable def PL(a:Nat->Nat->Bool):Nat->Nat->Nat->Nat
 |0,_,c=>c
 |k+1,j,c=>PL a k (j+1) (if a j c then j else c)
end ST
end
section
namespace VS
open PySem PySem.Spec PyProof.Rows L2
def Vd:T->Bool
 |.tup l=>l.all Vg
 |t=>Vg t
end VS
end
section
namespace L2
open PySem PySem.Spec PyProof.Rows
def xp{b:Pos}(l:Vz)(h:TriplesOk l)(e:codeAmong a (l++[rawInt b.line,rawInt b.col,c])=Z v):codeAmong a l=Z v\/v=c:=by
 fun_induction TriplesOk l
 ·simp only[YU,rawInt,codeAmong]at e;split at e
  ·cases e;exact .inr Y
  ·cases e
 ·rename_i f;simp only[XC,codeAmong]at e ⊢;split at e
  ·rename_i d;rw[Zn d];exact .inl e
  ·rename_i d;rw[Zl d];exact f h e
 ·exact h.elim
noncomputable def Bm(d:Wq)(a:SZ):Prop:=∃bm b,d "__builtins__" = Z (.ref bm)/\bm≠builtinsNs/\a.get? bm=Z b/\b.cls=.type "module" ∧ b.dict=Z builtinsNs/\b.data=.plain
abbrev Fb(q:Str)(a:Arguments)(d:Expr)(b:Scope)(g:List (Str×KM))(e:On)(c:KM)(f:On):Obj:=PySem.W.kla_obj "<lambda>" q a d b g e c f
section
variable{H:Hp}
def Inv.known{X:Cx}{pins:X7}{J:St}{s:IR}{o:Obj}{a:SZ}{d:Nat}(I:Inv X pins J H { s with heap:=a,toks:=d })(f:o.isFreed=false):Inv X pins J (upd H a.objs.size (.frz o (.own a.objs.size))) { s with heap:=a.push o,toks:=d } :=
 have e:=Zg _ f
 I.laid (λb u e=>Zp _ e) (Zm _) ⟨e,o,e⟩
def zk(I:Inv X pins J H s)(hq:X.env.qual ++ "<lambda>" = q)(MA:defaultsOf a X.env=([],[]))(MZ:closureFor g X.env=pure N3)(hc:X.env.code=.ref c)(C:PySem.W.CodeHd X.base c P)(ht:Tb X.base P q)(B:Bm X.mg X.base)(h:∀f i ct oc y l t S s',Inv X pins J S s'->aI H S->S f=Z (.frz (Fb q a j g N3 ((X.mg "__name__").getD .none) i ct) (.own f))->S i=Z (.frz oc (.own y))->oc.data=.fields l->l[1]?=Z (.str q t)->Q (.ref f) s') :
  PP (KB X.prog X.w) A (eval (.Lambda a j g p) X.env) Q E s:=by
 have D:=I.tb P q ht;refine L2.ak λP_ x=>?_;obtain⟨ps,e,M,cs⟩:=I.p0 P _ D;have hg:=I.mod.glob.keeps I.bk;have C':=C.keeps I.bk;obtain⟨bm,ob,b1,b2,N,b4,b5,b6⟩:=B;obtain⟨og,_,_,eg,dg,_⟩:=I.mod.glob;refine x ?_;have hB:s.heap.BuiltinsAt X.mg P:=⟨bm,ob,b1,b2,(λz=>by rw[z,eg]at N;cases N;rw[dg]at b6;cases b6),(λz=>by have:=(I.bs _ _ N).2;rw[z,D]at this;cases this),I.bk _ _ N,b4,b5,b6⟩
 refine PySem.W.kla_eval MA ?_;rw[hq];cases hf:codeAmong p ps.toList with
 |some v =>
  refine L2.ak λP_ x=>?_;obtain⟨i,oc,y,l,t,rfl,r2,r3,r4⟩:=cs p v hf;refine x ?_;refine PySem.W.kla_makeFunctionHit MZ I.ok.glob hg hc C' e M hf hB λct h' U hk hsz=>?_;have G:=I.kept (t':=U) hk;have hn:=G.p0.fresh (Zm _);exact h _ i ct oc y l t _ _ (Inv.known G Y) (λb o q=>by rw[aD (bB q hn)];exact q) ay (by rw[aD (bB r2 hn)];exact r2) r3 r4
 |none =>
  refine PySem.W.kla_makeFunction MZ I.ok.glob hg hc C' e M hf (λz=>by have:=(I.bs _ _ eg).2;rw[z,D]at this;cases this) hB λi ct h' U F V9 JM TC VP=>?_;refine L2.ak λP_ x=>?_;obtain⟨c2,oc,l,t,e2,Nr,hd,hv⟩:=TC;cases e2;refine x ?_;have nP:∀b,H b=L->b≠P:=λb n z=>by rw[z,D]at n;cases n
  have up:∀b o,H b=Z o->upd H i (.frz oc (.own i)) b=Z o:=λb o q=>by rw[aD (bB q (I.p0.fresh V9))];exact q
  suffices G:Inv X pins J (upd H i (.frz oc (.own i))) { s with heap:=h',toks:=U } by
   have QT:=G.p0.fresh (Zm _);exact h _ i ct oc i l t _ _ (Inv.known G Y) (λb o q=>by rw[aD (bB (up b o q) QT)];exact up b o q) ay (by rw[aD (bB ay QT)];exact ay) hd hv
  refine I.step (ch:=[]) (λb z=>nomatch z) (λb o _ _ _ q n=>F b o (nP b n) q) (λb o _ _ _ q n=>⟨o.slots,F b o (nP b n) q⟩) (λb o _ q n=>by rw[aD ((λb u q=>Zh (ZS (ZY q) V9)) b o q)];exact n) (λb o _ q=>?_)
   (λb xs q=>up b _ q) (λb o u q=>up b _ q) (λb n q=>up b _ q) (λm hm=>?_) (λb o q=>?_) I.bare
  ·by_cases B:b=P
   ·exact⟨_,by rw[B];exact VP⟩
   ·exact⟨o,F b o B q⟩
  ·obtain⟨o,es,ep,ho,r⟩:=hm;exact⟨o,es,ep,F _ o (nP _ I.free) ho,r⟩
  ·by_cases B:b=i
   ·subst B;rw[ay]at q;cases q;exact⟨Nr,oc,Nr⟩
   ·rw[aD B]at q;by_cases Nu:b=P
    ·subst Nu;rw[D]at q;cases q;refine⟨_,VP,?_,λpos' v r=>?_⟩
     ·rw[Array.toList_append];exact TriplesOk_snoc _ _ _ _ M
     ·rw[Array.toList_append]at r;rcases xp _ M r with r | r
      ·refine L2.ak λP_ x=>?_;obtain⟨c3,o3,y3,Sw,t3,r1,r2,r3⟩:=cs pos' v r;refine x ?_;exact⟨c3,o3,y3,Sw,t3,r1,up _ _ r2,r3⟩
      ·exact⟨i,oc,i,l,t,r,ay,hd,hv⟩
    ·refine(I.p0 b o q).LM (λd v hd r=>F d v ?_ r) (λd r=>up d _ r) (λd xs r=>up d _ r) λd o y r=>up d _ r;rcases hd with z | z
     ·rw[z];exact Nu
     ·intro z';rw[z',D]at z;cases z
end
def Ai(X:Cx)(N:List Str)(q:Str)(a:Scope)(f c:KM)(b:List (Str×KM))(A:SB)(s:IR)(H:Hp):Cx :=
 { X with A:=A.deeper (PySem.W.envX q a s.heap.objs.size f (.ref c) b),N:=N,s₀:=s,H₀:=H,env:=PySem.W.envX q a s.heap.objs.size f (.ref c) b,outer:=X.stack,stack:=PySem.W.envX q a s.heap.objs.size f (.ref c) b :: X.stack,ex:=[],fn:=λ_=>false,calm:=true,pn:=[],xe:=λ_ _=>False }
section
variable{H:Hp}{A:SB}
def Inv.lam{cl:List (Str×KM)}{g:SZ}{tk:Nat}(I:Inv X pins J H s)(j:iZ X.env sc=O)(Kn:lB sc N X.N=O)(G:sc.names.lookup x=Z .local)(d:∀x c,cl.lookup x=Z c->X.env.cells.lookup x=Z c)(B:∀y∈sc.names,y.2=.free->∃c,cl.lookup y.1=Z c)(Mz:A.frames=X.A.frames)(U:A.handled=L)(E:RelV v u)(Oq:g.Ns s.heap.objs.size m)(Q:m x=Z u)(a:∀b o,s.heap.get? b=Z o->g.get? b=Z o) :
  Inv (Ai X (x :: N) q sc f c cl A s H) [] (Z v :: J) H { s with heap:=g,toks:=tk }:=by
 unfold iZ at j;rw[Yn,ZF]at j;obtain⟨S,C⟩:=j;have KQ:sc.kind=.function:=by simpa using S
 obtain⟨hlen,O5⟩:=rm Kn;refine⟨⟨I.mod,KQ,rfl,rfl,Zm _,λx y c e1 e2=>I.ok.inj x y c (d x c e1) (d y c e2),λy F=>B _ (cK ((λy h=>h.elim (λz=>by have:=C _ (cK z);cases this) id) y F)) rfl,λx c e=>(nomatch e),λ_=>U,Around.frames_deeper (Mz.trans I.ok.frames),.inr ⟨rfl,rfl⟩,λb hb=>(nomatch hb),
  I.tb,I.bs,ZP I.ok.NC I.sz,λb o e hb=>(nomatch hb),λb hb hb'=>(nomatch hb),I.stack,I.K7⟩,rfl,I.bare,Un.kept a,⟨m,Oq,λi y w e1 e2 e3=>?_⟩,λy c e=>?_,I.p0.fresh (Zm _),λy c e=>I.JE y c (d y c e),λp M=>(nomatch M),I.p0.kept a,?_⟩
 ·cases i with
  |zero =>
   have ex:x=y:=Zi (e1);have ev:v=w:=by simpa using e2
   subst ex ev;exact⟨u,E,.inl ⟨G,Q⟩⟩
  |succ i =>
   have e3:Lg sc y:=e3;rcases O5 i y (by simpa using(show (x :: N)[i+1]?=Z y from e1)) with⟨hX,h0⟩ | h0 | h0
   ·have t:X.env.kindOf y=Z .cell\/X.env.kindOf y=Z .free:=by simpa using C _ (cK h0)
    obtain⟨mX,P,TR⟩:=I.loc;obtain⟨D,r,l⟩:=TR _ y w hX (by simpa using e2) (t.elim (λz=>.inr (.inl z)) λz=>.inr (.inr z));obtain⟨c,n⟩:=B _ (cK h0) Y;refine⟨D,r,.inr ⟨.inr h0,c,n,?_⟩⟩;rcases l with⟨z,_⟩ | ⟨_,c',KH,LW⟩
    ·rcases t with q | q<;>(rw[z]at q;cases q)
    ·have:=d y c n;rw[KH]at this;cases this;exact LW.keeps a
   ·rcases e3 with z | z | z<;>(rw[h0]at z;cases z)
   ·rcases e3 with z | z | z<;>(rw[h0]at z;cases z)
 ·obtain⟨v,z⟩:=I.cell y c (d y c e);exact⟨v,z.keeps a⟩
 ·show (Z v :: J).length=(x :: N).length;rw[Ze,Ze,I.len,hlen]
def By{Q:VK}(I:Inv X pins J H s)(hp:H f=Z (.frz (Fb q a d sc cl E c G) (.own f)))(Jf:H c=Z (.frz B (.own y)))(Px:B.data=.fields p)(hv:p[1]?=Z (.str q D))(P:iZ X.env sc=O)(Kn:lB sc N X.N=O)(F:sc.names.lookup x=Z .local)(KR:∀x c,cl.lookup x=Z c->X.env.cells.lookup x=Z c)(M0:∀y∈sc.names,y.2=.free->∃c,cl.lookup y.1=Z c)(hb:bindArgs (PySem.W.kla_fn "<lambda>" q a d sc cl E (.ref c) G) ⟨[u],[]⟩=pure [(x,u)])(T8:sc.isCoroutine=false)(O2:sc.isGenerator=false)(Mz:A.frames=X.A.frames)(hh:A.handled=L)(hd:A.depth<recursionLimit)(Y:RelV v u)(JZ:PE (Ai X (x :: N) q sc f c cl A s H) d t)(h:t (Z v :: J) H Q) :
  PP (KB X.prog X.w) A (call (.ref f) [u]) (λr i=>∃w g,Inv X pins J g i/\RelV w r/\Q w g/\∀b o,jk X pins H b->s.heap.get? b=Z o->i.heap.get? b=Z o/\jk X pins g b) (λ_ _=>False) s:=by
 have n:=P;unfold iZ at n;rw[Yn,ZF]at n;refine wpAny_call (XQ (R:=λr i=>match r with | .ok (.ret u)=>CE X.stack X.prog X.w H s Q u i | _=>False) (PySem.W.kla_callFunE hd (I.p0 f _ hp).1 rfl T8 O2 rfl (⟨c,B,p,D,rfl,(I.p0 c _ Jf).1,Px,hv⟩) ?_) λr i j=>?_)
 ·rw[hb];refine Zo (wpAny_newFunctionEnv (λy hy e=>by have:=n.2 y hy;rw[e]at this;cases this) (λz hz=>by rw[ZZ.mp hz];exact F) (λh₁ Oq M=>⟨I.nolimit.fresh _ M,?_⟩) (by simpa using n.1));have Jq:=I.lam (N:=N) (q:=q) (x:=x) (f:=f) (c:=c) (A:=A) (tk:=s.toks+([(x,u)]).length) P Kn F KR M0 Mz hh Y Oq (by simp) (λb o e=>M.extBut b o (Zh (ZY e)) (Zp _ e));refine PySem.W.kla_codeExpr (YX (JZ [] _ _ H Q Jq h) (λr i hr=>?_) λ_ _ z=>z.elim);obtain⟨w,g,m,Lq,qw⟩:=hr;exact⟨w,g,m.os,m.bare,m.base,m.p0,Lq,qw⟩
 ·cases r with
  |error e=>exact j.elim
  |ok fl =>
   cases fl with
   |ret u =>
    refine L2.ak λP_ k_=>?_;obtain⟨v,g,os,bare,un,p0,r,q⟩:=j;obtain⟨U,H2,I2,r2,rfl,rfl,q2⟩:=I.after (Q:=λC S=>C=v/\S=g/\Q C S) ⟨v,g,os,bare,un,p0,r,rfl,rfl,q⟩;refine k_ ?_;refine⟨U,H2,I2,r2,q2,λb o l e=>?_⟩;exact⟨un.keep b o e l.1 (λz=>(Zk.mp (I.Km b z)).elim l.2.1 l.2.2.1) (by simp),un.free b o e l.1 (by simp),l.2⟩
   |next=>exact False.elim j
   |brk=>exact False.elim j
   |cont=>exact False.elim j
end
end L2
end
section
namespace L2
open PySem PySem.Spec PyProof.Rows
noncomputable abbrev Iy(X:Cx)(b:Scope)(a:List (Str×KM)):Prop:=(∀x c,a.lookup x=Z c->X.env.cells.lookup x=Z c)/\∀y∈b.names,y.2=.free->∃c,a.lookup y.1=Z c
structure LD(X:Cx)(q:Str)(params:Arguments)(body:Expr)(sc:Scope)(H:Hp)(f:KM):Prop where
 ex:∃cl c ct oc y vs t,Iy X sc cl/\H f=some (.frz (Fb q params body sc cl ((X.mg "__name__").getD .none) c ct) (.own f))/\H c=some (.frz oc (.own y))/\oc.data=.fields vs/\vs[1]?=some (.str q t)
section
def LD.same{H a:Hp}(l:LD X q params body sc H f)(e:aI H a):LD X q params body sc a f:=by
 obtain⟨cl,c,ct,oc,y,b,t,i,h,g,d⟩:=l.ex;exact⟨cl,c,ct,oc,y,b,t,i,e _ _ h,e _ _ g,d⟩
def FW{X:Cx}(m:X.env.qual ++ "<lambda>" = q)(z:defaultsOf params X.env=([],[]))(D:iZ X.env sc=O)(o:X.env.code=.ref c)(C:PySem.W.codeHdIn X.K c P=O)(l:Tb X.base P q)(p:Bm X.mg X.base) :
  PE X (.Lambda params body sc pos) (λJ H Q=>∀f a,aI H a->LD X q params body sc a f->Q (.ref f) a):=by
 intro d s J H Q I h;have b:=D;unfold iZ at b;rw[Yn,ZF]at b;obtain⟨cl,x,B,A⟩:=wx λy j e=>I.ok.has y.1 (by
  have:=b.2 y j;rw[e]at this;simpa using this)
 refine zk I m z x o (PySem.W.codeHd_of_K I.mod.Pp C) l p λf w ct oc y g t a F E i n v u r=>?_;exact⟨.ref f,a,E,rfl,h f a i ⟨cl,w,ct,oc,y,g,t,⟨B,A⟩,n,v,u,r⟩⟩
end
end L2
namespace VS
open PySem PySem.Spec PyProof.Rows L2
section
def SR.under(s:SR G M U J H)(i:Int):SR G (λn=>match n with | 0=>[] | n+1=>M n) (some (.pu (.int i)) :: U) (some (.int i) :: J) H:=by
 refine⟨by rw[Ze,Ze,s.len],λn c h=>?_,λn t h=>?_,λn m t c h d ne a b=>?_⟩
 ·cases n with
  |zero=>cases h;exact⟨_,rfl,.int i⟩
  |succ n=>exact s.rp n c h
 ·cases n with
  |zero=>cases h
  |succ n=>exact s.nd n t h
 ·cases n with
  |zero=>cases h
  |succ n =>
   cases m with
   |zero=>exact λz=>nomatch z
   |succ m=>exact s.sep n m t c h d (λe=>ne (by rw[e])) a b
end
noncomputable def A8:Fn:=λa=>match a with
 |[.scr ns]=>if ns.length<=63 then Z (.fr,.bl O) else L
 |_=>L
section
variable{K:Wu}
def CC{G:Gx}(j:G.K=K)(F:FnOk P w K mg base JB k f b [y] (LH G g))(i:∀ns:Vw,ns.length<=63->g [.scr ns]=Z (.fr,.bl O)) :
  FnOk P w K mg base JB k f b [y] (LH (Ue K) A8):=F.imp λo H Q E h=>by
 obtain⟨p,s,m,r,l,a,q⟩:=h;unfold A8 at a;split at a
 ·rename_i ns;split at a
  ·rename_i e;cases a;cases l with
   |cons r1 r2 =>
    cases r2;cases r1 with
    |scr d=>exact⟨[.scr ns],[[]],.fr,.bl O,.cons (.scr (by rw[j];exact d)) .nil,i ns e,λv n F e1 r f1=>q v n F e1 (by cases r;exact .bl _) f1⟩
  ·cases a
 ·cases a
end
end VS
end
section
namespace L2
open PySem PySem.Spec PyProof.Rows
noncomputable abbrev RE:=List (KM×KM×Str)
noncomputable def xU(a:RE)(b:KM):Option Str:=(a.find? λp=>p.2.1==b).map (·.2.2)
def lP(h:xU a b=Z q):∃c,(c,b,q)∈a:=by
 obtain⟨⟨c,P,d⟩,e,rfl⟩:=Zt.mp h;have:=List.find?_some e;cases (eq_of_beq this);exact⟨c,List.mem_of_find?_eq_some e⟩
def xF{K:Wu}{f:IR}{i:Vz}(KX:K.In f.heap)(Oq:f.heap.Ns mainGlobals t)(Q:f.heap.Ns builtinsNs J)(XN:∀x:Str,x ≠ "__name__" → J x=bootBuiltins x)(TM:f.heap.NoLimit)(hg:f.gens=#[])(j:f.heap.get? a=Z { cls:=.type "list",data:=.seq i.toArray })(hi:IntsAre i B)(hl:B.length<=KF)(hr:oe k callerA)(N:Bm t f.heap)(C:∀p∈g,PySem.W.CodeHd f.heap p.1 p.2.1/\f.heap.get? p.2.1=Z (PySem.W.tabObj #[]))(hf:∀p∈g,xU g p.2.1=Z p.2.2)(hN:PySem.W.noTabs K=O)(F:∀base:SZ,K.In base->base.Ns mainGlobals t->Bm t base->(∀p∈g,Tb base p.2.1 p.2.2)->FnOk P w K t base JB k fa fd [x] sp)(M5:∀(s:IR)(u:On),BindsTo s fd ⟨[u],[]⟩ [(x,u)])(Nq:∀H:Hp,VS.ly K H a B->sp [.ref a] H (λv _=>v=.bl O) λ_ _ _=>False) :
  codeAny (KB P w) callerA (.call (.ref fa) ⟨[.ref a],[]⟩) (λr l=>r=.ok (.ret (.bool O))/\OldK f.heap l.heap/\l.os=f.os/\AllBare l.gens) f:=by
 have rv:=pX hi;have Tn:=hi.length;obtain⟨H,S⟩:∃H:Hp,H=λb=>if b=a/\K.lookup a=L then Z (.frz { cls:=.type "list",data:=.seq i.toArray } (.lst (B.map V.int))) else (xU g b).map HO.tbl:=⟨_,rfl⟩
 have cs:∀b,H b=L\/(b=a/\K.lookup a=L/\H b=Z (.frz { cls:=.type "list",data:=.seq i.toArray } (.lst (B.map V.int))))\/∃q,xU g b=Z q/\H b=Z (.tbl q):=λb=>by
  rw[S];dsimp only;split
  ·rename_i z;exact .inr (.inl ⟨z.1,z.2,rfl⟩)
  ·cases e:xU g b with
   |none=>exact .inl Y
   |some q=>exact .inr (.inr ⟨q,rfl,rfl⟩)
 have hP:∀p∈g,H p.2.1=Z (.tbl p.2.2):=λp D=>by
  have e:=hf p D;rw[S];dsimp only;rw[Zl λz=>(λe z=>by
  obtain⟨c,hm⟩:=lP e;have:=(C _ hm).2;rw[z,j]at this;cases this) e z.1,e]
  rfl
 have p0:JU P w H f.heap:=λb u e=>by
  rcases cs b with z | ⟨rfl,_,z⟩ | ⟨q,e2,z⟩
  ·rw[z]at e;cases e
  ·rw[z]at e;cases e;exact⟨j,by rw[Zy];exact hl,i,_,rv,j⟩
  ·rw[z]at e;cases e;obtain⟨c,hm⟩:=lP e2;exact⟨#[],(C _ hm).2,trivial,λpos v e=>nomatch e⟩
 have none_of:∀{b:KM}{o:Obj},f.heap.get? b=Z o->(b=a->K.lookup a≠L)->o≠PySem.W.tabObj #[]->H b=L:=λ{b o} e n d=>by
  rcases cs b with z | ⟨z1,z2,_⟩ | ⟨q,e2,_⟩
  ·exact z
  ·exact absurd z2 (n z1)
  ·obtain⟨c,hm⟩:=lP e2;have:=(C _ hm).2;rw[show (c,b,q).2.1=b from rfl,e]at this;cases this;exact absurd Y d
 have Lf:∀{b:KM}{o:Obj},f.heap.get? b=Z o->(b=a->K.lookup a≠L)->o≠PySem.W.tabObj #[]->(sQ f.heap H).get? b=Z o:=λe n d=>yy e (none_of e n d);have G:∀{b:KM}{m:Wq},f.heap.Ns b m->(sQ f.heap H).Ns b m:=λ{b m} ⟨o,es,ep,e,d,r⟩=>⟨o,es,ep,Lf e (λz=>by
  rw[z,j]at e;cases e;cases d) (λz=>by rw[z]at d;cases d),d,r⟩
 have ZC:=λb o e=>Lf (KX b o e) (λz=>by rw[← z,e];exact λy=>nomatch y) λz=>by
  have A:=ZF.mp hN (b,o) (PySem.W.mem_of_lookupK e);subst z;exact absurd (A) Zc
 have hM:Mod K t (sQ f.heap H):=⟨ZC,G Oq,⟨J,G Q,XN⟩,let ⟨mc,U,A⟩:=TM;⟨mc,G U,A⟩⟩
 refine XQ ((F _ ZC (G Oq) (by
  obtain⟨bm,ob,b1,b2,X,b4,b5,E⟩:=N;exact⟨bm,ob,b1,b2,Lf X (λz=>by rw[z,j]at X;cases X;cases E) (λz=>by rw[z]at E;cases E),b4,b5,E⟩) λp D=>vv.mpr ⟨hP p D,ZY (C p D).2⟩).run callerA [] f H ⟨[.ref a],[]⟩ [.ref a] [.ref a] _ _ hr (⟨rfl,hM,λb q e=>(vv.mp e).1,λb o e=>Cg e,XG (xw _ _),trivial,λb Q=>absurd (show b∈([]:Wg) from Q) (by simp),p0,.of_eq hg⟩) (M5 f (.ref a)) (.cons Y .nil) (Nq H (by
  cases M:K.lookup a with
  |some o =>
   have e:=KX a o M;rw[j]at e;cases e;exact .inr ⟨_,i.toArray,_,M,rfl,rfl,rfl,by rw[Zb,Tn];exact hl,by simpa using rv⟩
  |none=>exact .inl ⟨{ cls:=.type "list",data:=.seq i.toArray },by rw[S];exact Zn ⟨rfl,M⟩⟩))) λr l h=>?_
 cases r with
 |error e=>exact h.elim
 |ok fl =>
  cases fl with
  |next=>exact False.elim h
  |brk=>exact False.elim h
  |cont=>exact False.elim h
  |ret u =>
   obtain⟨v,H',os,bare,un,QR,r',q⟩:=h;subst q;obtain rfl:u=Value.bool O:=r';have main:∀b o,f.heap.get? b=Z o->asItWas f.heap l.heap b o/\∃o',l.heap.get? b=Z o':=λb o e=>by
    rcases cs b with z | ⟨rfl,_,z⟩ | ⟨q,e2,z⟩
    ·have:=un.keep b o e z (by intro z;exact absurd (show b∈([]) from z) (by simp)) (by simp);exact⟨.inl this,o,this⟩
    ·obtain⟨e1,_⟩:=QR b _ (un.La b _ _ z);rw[j]at e;cases e;exact⟨.inl e1,_,e1⟩
    ·obtain⟨c,hm⟩:=lP e2;obtain⟨U,A⟩:=C _ hm;obtain⟨ps,e1,_⟩:=QR b _ (un.KD b _ z);rw[A]at e;cases e;exact⟨.inr (.inl ⟨(U.tab A).isCodeTable,rfl,#[],ps,rfl,by rw[Array.empty_append];exact e1⟩),_,e1⟩
   exact⟨rfl,⟨λb o e=>(main b o e).1,λb o e=>(main b o e).2⟩,os,bare⟩
end L2
namespace VS
open PySem PySem.Spec PyProof.Rows L2
def AK{l:PySem.W.OpenLaw}{q:Re}{i:List Str}{S:(Wq)->SZ->Prop}{d:DefRec}{K:Params->Wu}{B:Wg}{e:∀P,B=(K P).map (·.1)}{z:Wg}{x:Str}{k:Nat}{tb:RE}(D:l.most=Z 63)(X:d.params.defaults=[])(C:oe k callerA)(m:∀p∈tb,p.2.1∈z)(E:∀p∈tb,xU tb p.2.1=Z p.2.2)(M:∀P,PySem.W.noTabs (K P)=O)(Q:∀P,∀p∈tb,PySem.W.codeHdIn (K P) p.1 p.2.1=O)(F:∀(w:UF)(mg:Wq)(j:KM)(h:SZ),(K w.params).In h->h.Ns mainGlobals mg->mg d.name=Z (.ref j) →
   ∃fd:P3,(∀(s:IR)(u:On),BindsTo s fd ⟨[u],[]⟩ [(x,u)])/\∀base:SZ,(K w.params).In base->base.Ns mainGlobals mg->Bm mg base->(∀p∈tb,Tb base p.2.1 p.2.2)->FnOk l.prog w (K w.params) mg base JB k j fd [x] (LH (Ue (K w.params)) A8)) :
  PySem.W.WalkO q i S (PySem.W.kmHook K B e z).says l.row.toRowW d [] (λf y=>PySem.call f y):=by
 refine Att.rN D X λw s₀ s₁ mg mb j o pm cd doc a y ns G Y ho hd Jf n U hints hlen hg=>?_;have t:=PySem.W.km_in_of Y;obtain⟨fd,hb,N⟩:=F w mg j _ t G.T.g n;exact xF t G.T.g G.T.b G.T.builtins G.T.nolimit hg U hints (ZP hlen (by decide)) C G.T.bmain (λp A=>⟨PySem.W.codeHd_of_K t (Q _ p A),(PySem.W.km_tabs_of Y) _ (m p A)⟩) E (M _) N hb λH J=>⟨[.scr ns],[[]],.fr,.bl O,.cons (.scr J) .nil,Zn hlen,λv H' F _ r _=>r.JR⟩
end VS
namespace L2
open PySem PySem.Spec PyProof.Rows
def IH.okC{K:Wu}(F:IH K x a e f g)(S:bt N j (ai e))(l:∀d H Q E,i d H Q E->d.length=j.length)(u:∀(A:SB)(outer:List Env)(s:IR)(H:Hp)(d:List V)(Q:VK)(E:XK),oe k (A.deeper (envOfC a (ai e) s.heap.objs.size f g.code))->i d H Q E →
   ∃t,Kq (jb JB P w K m b N a (ai e) f g.code A outer s H E).Lj (ba e) t/\t { nx:=λ_ v=>Q .non v,rt:=Q } (start N d) H):FnOk P w K m b JB (k+1) f g j i:=by
 refine L2.ak λz n=>?_;obtain⟨oc,y,kV,doc,pm,an,C,ct,B,rfl,lk,r⟩:=F.ex;refine n ?_;refine yI lk r S l λA outer s H d Q E o p=>?_;obtain⟨t,h,q⟩:=u A outer s H d Q E o p;exact⟨t,h.Lj,q⟩
end L2
namespace VS
open PySem PySem.Spec PyProof.Rows L2
section
variable{K:Wu}
def FK(F:IH K x x a f e)(p:mg x=Z (.ref f))(t:e.code=.ref g)(S:bt N b (ai a))(n:b.length=i)(o:N.length=j)(r:∀(kV doc pm:On)(an:Option KM)(u ct:On)(d:Vz),d.length=b.length->bindArgs (PySem.W.fnOf x x (cR a) (ba a) (ai a) .none kV doc pm an u ct) ⟨d,[]⟩=pure (b.zip d))(q:∀(A:SB)(outer:List PySem.Env)(s:IR)(H:Hp)(E:XK),oe k (A.deeper (envOfC x (ai a) s.heap.objs.size f (.ref g)))->i5 G (jb JB P w K mg base N x (ai a) f (.ref g) A outer s H E).Lj (ba a) c) :
  FnAt P w K mg base (k+1) x b G (fn i j c):=by
 refine⟨f,e,F.okC S (λm H Q E h=>zC n h) λA outer s H m Q E l h=>?_,p,F.kp,F.binds r⟩;rw[t]at l ⊢;exact⟨_,q A outer s H E l,zo o h⟩
end
end VS
end
section
namespace L2
open PySem PySem.Spec PyProof.Rows TS
section
variable{H:Hp}{R:Result->IR->Prop}
def Po(a:Nat->Str)(i j:Nat):Bool:=Th (.inr (a i)) (.inr (a j))
def Gz(X:Cx)(a:X7)(J:St)(H:Hp)(f:KM)(l:Vw)(g:Nat->Str):Prop:=∀(i:Nat)(u:On)(e:IR)(d:Hp),i<l.length->RelV (.int (l.getD i 0)) u->Inv X a J d e->aI H d →
 PP (KB X.prog X.w) X.A.in1 (call (.ref f) [u]) (λr j=>∃w h,Inv X a J h j/\RelV w r/\(w=.str (g i)/\aI d h)/\∀b o,jk X a d b->e.heap.get? b=Z o->j.heap.get? b=Z o/\jk X a h b) (λ_ _=>False) e
def Inv.tn{a:SZ}(e:Inv X pins J H s)(g:jk X pins H I)(k:∀b o,b≠I->s.heap.get? b=Z o->a.get? b=Z o):Inv X pins J H { s with heap:=a,toks:=d } :=
 e.turned k g.1 g.2.1 g.2.2.2.1 g.2.2.2.2.1 g.2.2.2.2.2
def Inv.ints{ns:Vw}(m:Inv X pins J H s)(l:IT X.K H p (ns.map V.int)):∃a:Vz,a.length=ns.length/\s.heap.IsList p a.toArray/\∀(j:Nat)(v:On),a.toArray[j]?=Z v->RelV (.int (ns.getD j 0)) v:=by
 obtain⟨a,d,pl,_⟩:=m.list l;have hl:a.length=ns.length:=by rw[← d.length,Zy]
 refine⟨a,hl,pl.isList,λj v b=>?_⟩;rw[Xm]at b;have e:j<ns.length:=by rw[← hl];exact(ZT.mp b).1
 obtain⟨u,h,g⟩:=d.get (i:=j) (x:=V.int (ns.getD j 0)) (by rw[Zd,Zs e,Zr,Zs e];rfl);rw[h]at b;cases b;exact g
def ya{X:Cx}{ns:Vw}(hc:X.calm=O)(hq:IT X.K H p (ns.map V.int))(P:S≠I)(QP:p≠I)(C:Gz X pins J H f ns key) :
  ∀(k j:Nat)(a:IR)(c:Nat)(l r:On)(e:Nat)(d:Hp),ns.length-j=k->j<=ns.length->Inv X pins J d a->aI H d->jk X pins d I->jk X pins d S->a.heap.IsListIter I p j->a.heap.get? S=Z (seqObj "list" #[l,r] e)->RelV (.int (ns.getD c 0)) l->RelV (.str (key c)) r →
  (∀v y q,Inv X pins J q y->aI H q->RelV (.int (ns.getD (ST.PL (Po key) k j c) 0)) v->R (.ok (.ret v)) y) →
  codeAny (KB X.prog X.w) X.A (.builtin "min.loop" ⟨[.ref I,.ref f,.ref S],[]⟩) R a:=by
 have Lw:(toString "min" ++ toString ".loop" : String) = "min.loop" := by decide
 intro k
 induction k with
 |zero =>
  intro j a c l r e d hk hj i g t M hit m B D h;refine L2.ak λP_ E=>?_;obtain⟨s,hl,pl,_⟩:=i.ints (p:=p) (g.seq hq);refine E ?_;have hn:s.toArray.size=j:=by rw[Zb];lia
  refine Yg F.entry_min_loop ?_;rw[Yx Xp _];refine(Zx (WC m Y ?_));refine(Zx (XX ((WQ (prog:=X.prog) (w:=X.w) (A:=X.A.in1) (i.ok.hd hc) I p QP s.toArray).done a _ _ ⟨by rw[hn];exact hit,pl⟩ λh' tk n=>?_)));refine(Zx ?_);refine Wy (n S _ (λz=>P (ZZ.mp z)) m) Y (Zx (wpAny_letGo (Zo ?_)));exact h l _ d ((i.tn t λb o hb e=>n b o (λz=>hb (ZZ.mp z)) e).tn M λb o hb e=>by rw[XJ _ _ _ _ hb];exact e) g B
 |succ k ih =>
  intro j a c l r e d hk hj i g t M hit m B D h;have u:j<ns.length:=by omega
  obtain⟨s,hl,pl,O5⟩:=i.ints (p:=p) (g.seq hq);refine Yg F.entry_min_loop ?_;rw[Yx Xp _];refine(Zx (WC m Y ?_));refine(Zx (XX ((WQ (prog:=X.prog) (w:=X.w) (A:=X.A.in1) (i.ok.hd hc) I p QP s.toArray).item j a _ _ (by rw[Zb,hl];exact u) ⟨hit,pl⟩ λv h' tk hP MU n=>?_)));have U:=O5 j v hP;obtain⟨oI,TK,Nr,Px⟩:=id MU.1;refine(?_);refine Zx (XX (Yj (YX (C j v _ d u U (i.tn t λb o hb e=>n b o (λz=>hb (ZZ.mp z)) e) g) (λx y he=>?_) λ_ _ z=>z.elim)));refine L2.ak λP_ E=>?_;obtain⟨w,q,I3,Q,⟨rfl,Jt⟩,kp⟩:=he;obtain⟨G,N⟩:=kp _ _ M (n S _ (λz=>P (ZZ.mp z)) m);obtain⟨kI,Sf⟩:=kp _ _ t TK;obtain⟨RN,rfl⟩:=id Q;obtain⟨tb,rfl⟩:=id D;refine E ?_;refine(?_);refine Zx (XX (Yj (Zx (ST.Ip (k:=.inr (key j)) (k':=.inr (key c)) Y ⟨RN,rfl⟩ ⟨tb,rfl⟩ ?_))));refine Zx (Yj (YK ?_));refine Zx (wpAny_letGo (Zo ?_));unfold ST.PL at h;have eb:Th (.inr (key j)) (.inr (key c))=Po key j c:=rfl;rw[eb];cases hb:Po key j c with
  |false =>
   rw[hb]at h;refine Zx (wpAny_letGo ?_);rw[Lw];exact Zo ⟨YM Xp _,ih (j+1) _ c l _ e q (by lia) u I3 (g.trans Jt) Sf N ⟨oI,kI,Nr,Px⟩ G B D h⟩
  |true =>
   rw[hb]at h;refine Zx (Wy G Y (Zx (wpAny_letGo ?_)));rw[Lw];exact Zo ⟨YM Xp _,ih (j+1) _ j v _ _ q (by lia) u (I3.tn N λb o hb e=>by rw[XJ _ _ _ _ hb];exact e) (g.trans Jt) Sf N ⟨oI,by rw[XJ _ _ _ _ (Ye P)];exact kI,Nr,Px⟩ (get?_update_seq G λ_=>#[v,.str (key j) RN]) U Q h⟩
def xV(a v:On):argsOk "min" ⟨[a],[(("key" : Str),v)]⟩:=by kernel_rfl
def xy{A:SB}(n:builtinKind h=L)(m:plainId h=O)(o:entryFor table h=Z b)(q:argsOk h ⟨d,i⟩)(j:PP (KB a w) A.in1 (b ⟨d,i⟩) (λfin g=>match fin with
   |.done f=>(match (Except.ok f:Result) with | .ok (.ret v)=>Q v g | .ok _=>False | .error e=>E e g)
   |.again l=>l.quiet=O/\codeAny (KB a w) A l (λr g=>match r with | .ok (.ret v)=>Q v g | .ok _=>False | .error e=>E e g) g) E s) :
  PP (KB a w) A (call (.builtin h) d i) Q E s:=by
 refine wpAny_call (codeAny_call_builtin m o ?_);simp only[checkBuiltinCall,n];cases t:Manifest.signature? h with
 |none=>exact Zo j
 |some sig =>
  simp only[by simpa only[argsOk,t] using q];exact Zo j
def uV{X:Cx}{ns:Vw}(y:X.calm=O)(a:Inv X pins J H s)(i:IT X.K H p (ns.map V.int))(l:0<ns.length)(d:Gz X pins J H f ns key)(q:∀h,aI H h->Q (.int (ns.getD (ST.PL (Po key) (ns.length-1) 1 0) 0)) h) :
  PP (KB X.prog X.w) X.A (call (.builtin "min") [.ref p] [(("key" : Str),.ref f)]) (EP X pins J Q) X.xe s:=by
 have U:(toString "min" ++ toString ".loop" : String) = "min.loop" := by decide
 obtain⟨u,_,E,_⟩:=a.ints i;have G:=Zh (by obtain⟨_,e,_⟩:=E;exact ZY e);refine xy F.kind_min F.plain_min F.entry_min (xV _ _) ?_;refine(?_);refine Zx (wpAny_of_eq (rfl) ?_);refine Zx (Zo ?_);refine Zx (XA E ?_);refine Zx (YJ ?_);rw[U];have m:Inv X pins J H { s with heap:=(s.heap.push { cls:=.type "list_iterator",data:=.fields #[.ref p,.int 0 0] }).push { cls:=.type "list",data:=.seq #[] } }:=a.kept (λb o e=>Zp _ (Zp _ e));have D:(s.heap.push { cls:=.type "list_iterator",data:=.fields #[.ref p,.int 0 0] }).objs.size=s.heap.objs.size+1:=size_push' ..;have j:(s.heap.push { cls:=.type "list_iterator",data:=.fields #[.ref p,.int 0 0] }).objs.size≠s.heap.objs.size:=by rw[D];exact Nat.succ_ne_self _
 have C:=a.LX (Zm _) (a.p0.fresh (Zm _));have B:((s.heap.push { cls:=.type "list_iterator",data:=.fields #[.ref p,.int 0 0] }).push { cls:=.type "list",data:=.seq #[] }).get? (s.heap.push { cls:=.type "list_iterator",data:=.fields #[.ref p,.int 0 0] }).objs.size=Z (seqObj "list" #[] 0):=Zg _ Y;refine Zo ⟨YM Xp _,?_⟩;refine L2.ak λM g=>?_;obtain⟨jj,hl,pl,O5⟩:=m.ints i;refine g ?_;refine Yg F.entry_min_loop ?_;rw[Yx Xp _];refine(Zx (WC B Y ?_));refine(Zx (XX ((WQ (prog:=X.prog) (w:=X.w) (A:=X.A.in1) (m.ok.hd y) s.heap.objs.size p G jj.toArray).item 0 _ _ _ (by rw[Zb,hl];exact l) ⟨⟨_,(Zp _ (Zg _ Y)),rfl,rfl⟩,pl⟩ λv h' tk hP MU P=>?_)));have r:=O5 0 v hP;refine L2.ak λM g=>?_;obtain⟨oI,TK,Nr,Px⟩:=id MU.1;refine g ?_;refine(?_);refine Zx (XX (Yj (YX (d 0 v _ H l r (m.tn C λb o hb e=>P b o (λz=>hb (ZZ.mp z)) e) (aI.refl _)) (λx s2 he=>?_) λ_ _ z=>z.elim)));refine L2.ak λM g=>?_;obtain⟨w,h,I3,n,⟨rfl,Jt⟩,kp⟩:=he;obtain⟨t,N⟩:=kp _ _ (by rw[D];exact a.LX (YQ _) (a.p0.fresh (YQ _))) (P _ _ (λz=>j (ZZ.mp z)) B);obtain⟨kI,Sf⟩:=kp _ _ C TK;obtain⟨RN,rfl⟩:=id n;refine g ?_;refine(Zx ?_);refine Wy t Y ?_;rw[U];exact Zo ⟨YM Xp _,ya y i j G d (ns.length-1) 1 _ 0 v _ _ h Y l (I3.tn N λb o hb e=>by rw[XJ _ _ _ _ hb];exact e) Jt Sf N ⟨oI,by rw[XJ _ _ _ _ (Ye j)];exact kI,Nr,Px⟩ (get?_update_seq t λ_=>#[v,.str (key 0) RN]) r n λv s3 H3 I4 Ki rv=>⟨_,H3,I4,rv,q H3 Ki⟩⟩
end
end L2
namespace VS
open PySem PySem.Spec PyProof.Rows L2 TS
def Iz:T->Option (Vw)
 |.lst l=>iX l
 |_=>L
noncomputable def Gw:T->Option Tx
 |.str x=>Z x
 |_=>L
def nt(a:Ex)(U:VS.Env)(i:Int):Option Tx:=(a (Z (.pu (.int i)) :: U)).bind λv=>Gw v.2
def NP(k:Int->Tx)(c:Int)(r:Vw):Int:=r.foldl (λc i=>if KG (k i) (k c) then i else c) c
def Ej(k:Int->Option Tx):Vw->Vs
 |[]=>L
 |c :: r=>if (c :: r).all (λi=>(k i).isSome)=O then Z (.fr,.int (NP (λi=>(k i).getD []) c r)) else L
def Av(b a:Ex):Ex:=λU=>(b U).bind λx=>(Iz x.2).bind (Ej (nt a U))
def BO(k:Nat->Tx)(i j:Nat):Po (λi=>sx (k i)) i j=KG (k i) (k j):=by
 rw[jz];exact decide_eq_decide.mpr (by simp[sx])
def xZ(a:Vw)(k:Int->Tx):∀(m j c:Nat),j+m=a.length->a.getD (ST.PL (Po λi=>sx (k (a.getD i 0))) m j c) 0=(a.drop j).foldl (λc i=>if KG (k i) (k c) then i else c) (a.getD c 0):=by
 intro m
 induction m with
 |zero =>
  intro j c h;rw[Wb (by lia)];rfl
 |succ m d =>
  intro j c h;have b:j<a.length:=by lia
  have e:a.getD j 0=a[j]:=by rw[Zr,Zs b];rfl
  unfold ST.PL;rw[d (j+1) _ (by lia),Xa b,Xq,← e,BO];congr 1;split<;>rfl
section
def FM{X:Cx}{k0:Nat}{y:Str}{N:List Str}(hr:oe k' X.A)(hk:k0+2<=k')(hm:X.mg "min" = L)(ha:PV G X a ca)(TQ:∀(f c:KM)(cl:List (Str×KM))(A:SB)(s:IR)(H:Hp),oe k0 (A.deeper (PySem.W.envX q h s.heap.objs.size f (.ref c) cl))->PV G (Ai X (y :: N) q h f c cl A s H) g B)(C:PySem.W.codeHdIn X.K c P=O)(ht:Tb X.base P q)(hb0:Bm X.mg X.base)(hg:Gl X "min")(hc:X.calm=O)(hs:K1 a [] X)(hq:X.env.qual ++ "<lambda>" = q)(MA:defaultsOf d X.env=([],[]))(JO:iZ X.env h=O)(Kn:lB h N X.N=O)(Jf:X.env.code=.ref c)(hx:h.names.lookup y=Z .local)(T8:h.isCoroutine=R)(O2:h.isGenerator=R)(M5:∀(cl:List (Str×KM))(pm ct u:On)(c:KM),bindArgs (PySem.W.kla_fn "<lambda>" q d g h cl pm (.ref c) ct) ⟨[u],[]⟩=pure [(y,u)])(Rb:backTo pos (Pv [a] X.env)=(R,eval a X.env) :: backTo pos (Pv [] X.env))(hpl:(backTo pos (Pv [a] X.env)).any (·.1)=R) :
  PV G X (.Call (.Name "min" p) [a] [⟨Z "key",.Lambda d g h kp,NS⟩] pos) (Av ca B):=by
 rintro o s J H Q I ⟨M,U,m,r,sr,e,k⟩;refine L2.ak λP_ k_=>?_;obtain⟨⟨mx,x⟩,ea,e1⟩:=Zz.mp e;obtain⟨ns,E,e2⟩:=Zz.mp e1;refine k_ ?_;obtain⟨l,rfl,el⟩:∃l,x=.lst l/\iX l=Z ns:=by
  have E:=E;cases x with
  |lst l=>exact⟨l,rfl,E⟩
  |_=>cases E
 match ns,el,e2 with
 |n :: j,el,e2 =>
 by_cases JJ:(n :: j).all (λi=>(nt B U i).isSome)=O
 ·rw[show Ej (nt B U) (n :: j)=_ from Zn JJ]at e2;cases e2;refine Xj (kz I hg hm yz ?_ (by decide) Y);refine PyProof.Rows.callWith_kw (thn ((dJ ha iJ hs) pos o s J H (λvs D=>∃b,vs=[.ref b]/\aI H D/\D b=Z (.lst ((n :: j).map V.int))) I ⟨M,U,mx,_,sr,ea,λv H' F e1 e2 e3=>?_⟩) λus s1 ⟨vs,D,I1,r1,b,ev,JK,hb⟩=>?_) Rb hpl Y Y
  ·obtain⟨b,ys,Gs,rfl,_,hb,rl⟩:=e2.lst_inv;rw[nK rl el]at hb;exact⟨b,rfl,e1,hb⟩
  ·subst ev;obtain⟨u,rfl,ru⟩:=r1.one;obtain rfl:=(ru)
   refine thn ((Bz (FW hq MA JO Jf C ht hb0) DT) pos o s1 J D (λzs H2=>∃f,zs=[.ref f]/\aI D H2/\LD X q d g h H2 f) I1 (λf H' sm la=>⟨f,rfl,sm,la⟩)) λws s2 h_=>?_;obtain⟨zs,H2,I2,rz,f,ez,Jt,la⟩:=h_;subst ez;cases rz with
   |cons z1 z2 =>
    cases z2;cases z1;refine(?_);refine uV (key:=λi=>sx ((nt B U ((n :: j).getD i 0)).getD [])) hc I2 (IT.of (Jt _ _ hb)) (Wf _) (λi u s' H3 hi ru I3 Ki=>?_) λH3 Ki=>?_
    ·refine L2.ak λP_ k_=>?_;obtain⟨cl,c',ct,oc,y',vs,t,MZ,hf,KH,h3,h4⟩:=(la.same Ki).ex;obtain⟨kv,R6⟩:=Yo.mp (ZF.mp JJ _ (Yz (l:=n :: j) (i:=i) (a:=(n :: j).getD i 0) (by rw[Zr,Zs hi];rfl)));obtain⟨⟨mk,tk⟩,ek,S⟩:=Zz.mp R6;refine k_ ?_;have r2:=oe.in1 (hr.mono hk);refine By (N:=N) (x:=y) (Q:=λw H'=>w=.str (sx ((nt B U ((n :: j).getD i 0)).getD []))/\aI H3 H') I3 hf KH h3 h4 JO Kn hx MZ.1 MZ.2 (M5 _ _ _ _ _) T8 O2 Y r2.hd r2.depth ru (TQ f c' cl _ s' H3 (r2.deeper _)) ⟨_,_,mk,tk,((sr.same JK).same (Jt.trans Ki)).under _,ek,λw H' F sm r _=>⟨?_,sm⟩⟩;rw[R6];unfold Gw at S;split at S
     ·rename_i z hz;cases S;rw[show tk=T.str _ from hz]at r;exact r.str_inv.1
     ·cases S
    ·have:=xZ (n :: j) (λi=>(nt B U i).getD []) ((n :: j).length-1) 1 0 (by rw[Ze];lia);rw[this];exact k _ H3 [] ((JK.trans Jt).trans Ki) (.int _) Fp.nil
 ·rw[show Ej (nt B U) (n :: j)=_ from Zl JJ]at e2;cases e2
end
end VS
end
section
namespace VS
open PySem PySem.Spec PyProof.Rows L2
noncomputable def e3(f:Val->Val->Val->Vs)(a b c:Ex):Ex:=λU=>(a U).bind λx=>(b U).bind λy=>(c U).bind λz=>f x y z
end VS
end
section
namespace L2
open PySem PySem.Spec PyProof.Rows TS
section
def xM(n:Inv X d J H g)(m:∀v∈f,∃x t,v=Value.str x t)(s:f.length<64)(q:∀(l:KM)(j:List Str),H l=L->j.Perm (f.map strOf)->j.Pairwise (λa b=>¬b.cps.toList<a.cps.toList)->Q (.ref l) (upd H l (.lst (j.map V.str)))) :
  (∀v∈f,∃x t,v=Value.str x t)/\f.length<64/\∀(out:Vz)(i:SZ)(e:Nat),out.Perm f->(out.map strOf).Pairwise (λa b=>¬b.cps.toList<a.cps.toList)->(∀b o,g.heap.get? b=Z o->i.get? b=Z o)->i.get? g.heap.objs.size=Z (seqObj "list" out.toArray e)->EP X d J Q (.ref g.heap.objs.size) { g with heap:=i }:=by
 refine⟨m,s,λout r e h p u he=>?_⟩;exact⟨.ref g.heap.objs.size,_,n.laid u (Zm _) (show dN X.prog X.w _ r _ (.lst ((out.map strOf).map V.str)) from⟨(by rw[Zy,Zy,h.length_eq,XW];omega),out,e,om (λv hm=>m v (h.mem_iff.mp hm)),he⟩),rfl,q _ _ (n.p0.fresh (Zm _)) (h.map _) p⟩
def kU{X:Cx}(C:X.calm=O):dj X (.builtin "sorted") (λi H Q=>∃p,∃f:List Str,i=[.ref p]/\H p=Z (CT X.w p f)/\(∀e:List Str,e.Nodup->(∀y,y∈e↔y∈f)->e.length<64) ∧
  ∀(l:KM)(e:List Str),H l=L->e.Nodup->(∀y,y∈e↔y∈f)->e.Pairwise (λa b=>¬b.cps.toList<a.cps.toList)->Q (.ref l) (upd H l (.lst (e.map V.str)))):=by
 intro j s J H i F Q I v h;refine L2.ak λS z=>?_;obtain⟨p,f,rfl,B,E,q⟩:=h;obtain⟨u,rfl,x⟩:=v.one;cases x;obtain⟨⟨r,N,P,t,T,hm⟩,_,_⟩:=I.p0 p _ B;refine z ?_;refine TS.lO λY U D=>ST.Cd (D.trans (I.ok.hd C)) T λM d G o kp A g=>?_;refine xM ((I.kept kp).drew d) A ?_ λl e hl m n=>q l e hl (((m.trans g).nodup_iff).mpr T.nd) (λy=>((m.trans g).mem_iff).trans (hm y)) n;have:=E (o.map strOf) ((g.nodup_iff).mpr T.nd) λy=>(g.mem_iff).trans (hm y);simpa using this
end
end L2
end
section
namespace VS
open PySem PySem.Spec PyProof.Rows L2
def t2:T->Bool
 |.lst l=>l.all Vd
 |t=>Vd t
end VS
end
section
namespace VS
open PySem PySem.Spec PyProof.Rows L2
def vT(i:Nat)(d b:Ex):Sx:=λU=>match (U[i]?:Option (Vu)) with
 |some (some (.ow (.lst a)))=>(d U).bind λx=>(b U).bind λy=>match y.2 with
  |.int j=>(JL a.length j).bind λn=>(a[n]?).bind λt=>if IS x.2=O then Z (.rt (.fr,.tup [x.2,t]) (U.set i L)) else L
  |_=>L
 |_=>L
section
def Ff{X:Cx}{x1}(i:Nat)(hN:X.N[i]?=Z x)(hv:Lg X.env.scope x)(hd:K3 x)(Jf:K4 x)(ha:PV G X a ca)(l:PV G X b cb)(hs:iV b)(hK:X.K=G.K)(h1:Pv [a,.Subscript (.Name x p1) b p2] X.env=(R,eval a X.env) :: Pv [.Subscript (.Name x p1) b p2] X.env)(h2:Pv [.Subscript (.Name x p1) b p2] X.env=(R,eval (.Subscript (.Name x p1) b p2) X.env) :: Pv [] X.env) :
  PSV G X (.Return (Z (.Tuple [a,.Subscript (.Name x p1) b p2] x1 p3)) pos) (vT i ca cb) :=
 PS.weak (pB (AA (dJ ha (dJ (qf o9 (fR hN hv hd Jf) l hs) iJ h2) h1))) λD J H hq=>by
  obtain⟨M,U,o,s,e,k⟩:=hq;unfold vT at e;split at e
  ·rename_i ts h;obtain⟨⟨m1,x⟩,e1,e⟩:=Zz.mp e;obtain⟨⟨Y,y⟩,e2,e⟩:=Zz.mp e;split at e
   ·rename_i j hy;cases (show y=.int j from hy);obtain⟨n,e3,e⟩:=Zz.mp e;obtain⟨t,e4,e⟩:=Zz.mp e;split at e
    ·rename_i TY;cases e;obtain⟨E,h0,S⟩:=s.rp _ _ h;refine⟨M,U,m1,x,s,e1,λv H1 F1 A r1 f1=>⟨E,h0,M,U,Y,.int j,s.same A,e2,λw m F2 z r2 f2=>?_⟩⟩;have g:=A.trans z;refine L2.ak λP_ k_=>?_;obtain⟨a,C,Fs,rfl,B,NZ,r⟩:=(S.same g).lst_inv;obtain⟨u,d,Q,P,F⟩:=r.get n e4;have hx:=r1.IS TY;subst hx;refine k_ ?_;refine .inl ⟨a,C,j,u,rfl,r2.int_inv,by rw[hK];exact IT.of NZ,j4 (by rw[r.len.1];exact e3) Q,by show 2<=16777216;decide,λp hp=>?_⟩;have f:aI m (upd m p (.tup [v,u])):=cX hp;have rt:Rp G (upd m p (.tup [v,u])) (.ref p) (.tup [x,t]) ([[],d]:Wv).flatten:=.tup ay (.cons ((r1.same z).same f) (.cons (F.same f) .nil));have fl:([[],d]:Wv).flatten=d:=ZQ d;rw[fl]at rt;have nd:=s.nd i _ h;rw[B]at nd;have q:d.Sublist (a :: Fs.flatten):=(cZ P).trans (Yh _ _);exact k _ _ d M J ((s.same (g.trans f)).drop i) ((JA.same (g.trans f)).trans (JA.drop i)) rt ⟨nd.sublist q,λb l=>.inr ⟨i,_,h,by rw[B];exact q.subset l⟩⟩
    ·cases e
   ·cases e
  ·cases e
end
end VS
end
section
namespace AU
structure St where
 lg:Vx
 lk:List (Option Nat)
 wy:List (List (Nat×Nat))
noncomputable def gW(w:List (Nat×Nat))(c:Nat):Option Nat:=(w.find? λp=>p.1==c).map (·.2)
noncomputable def pW(w:List (Nat×Nat))(c m:Nat):List (Nat×Nat):=if w.any (λp=>p.1==c) then w.map (λp=>if p.1==c then (p.1,m) else p) else w++[(c,m)]
structure WF(S:St):Prop where
 lk:S.lk.length=S.lg.length
 wy:S.wy.length=S.lg.length
 pos:0<S.lg.length
 up:∀i n,S.lk.getD i none=some n->n<S.lg.length
 on:∀i c n,gW (S.wy.getD i []) c=some n->n<S.lg.length
 nd:∀w∈S.wy,(w.map (·.1)).Nodup
 az:∀w∈S.wy,∀p∈w,97<=p.1/\p.1<=122
theorem sub_len{α:Type}[DecidableEq α]:∀(l r:List α),l.Nodup->(∀x∈l,x∈r)->l.length<=r.length
 |[],_,_,_=>Yw _
 |a :: l,r,nd,h=>by
  obtain⟨f,d⟩:=Zf.mp nd;have g:=h a Zu;have:=sub_len l (r.erase a) d λx b=>(List.mem_erase_of_ne (λe=>f (by rw[← e];exact b))).mpr (h x (Zw _ b));grind
def WF.small{S:St}(W:WF S)(i:Nat):(S.wy.getD i []).length<16777216:=by
 by_cases h:i<S.wy.length
 ·have hm:S.wy.getD i []∈S.wy:=by
   simp_all
  have:=sub_len ((S.wy.getD i []).map (·.1)) (List.range 123) (W.nd _ hm) λx a=>by
   obtain⟨p,b,rfl⟩:=Za.mp a;have:=(W.az _ hm p b).2;exact ZJ.mpr (by exact Nat.lt_succ_of_le this)
  rw[Zy,ZX]at this;lia
 simp_all
def FH(w:List (Nat×Nat))(c:Nat):(w.any λp=>p.1==c)=(gW w c).isSome:=by
 unfold gW;rw[YB,Xo,XB,List.find?_isSome]
def Dq(w:List (Nat×Nat))(c m d:Nat):gW (pW w c m) d=if d=c then Z m else gW w d:=by
 unfold pW;split
 ·rename_i h
  induction w with
  |nil=>simp at h
  |cons p w f =>
   rw[Zj];unfold gW;rw[Z6,Z6];by_cases q:p.1=c
   ·rw[Zn (by simpa using q)];by_cases r:p.1=d
    ·simp_all
    ·have a:(p.1==d)=R:=by simpa using r
     have:d≠c:=λe=>r (by rw[e,q]);simp only[a,Zl this];have key:∀w:List (Nat×Nat),(w.map λp=>if p.1==c then (p.1,m) else p).find? (λp=>p.1==d)=w.find? λp=>p.1==d:=by
      intro w
      induction w with
      |nil=>rfl
      |cons x w f =>
       rw[Zj,Z6,Z6,f];by_cases y:x.1=c
       ·rw[Zn (by simpa using y)];have:(x.1==d)=R:=by simp_all
        simp only[this]
       simp_all
     rw[key w]
   ·rw[Zl (by simpa using q)];have b:=f (by
     simp_all)
    by_cases r:p.1=d
    ·simp_all
    ·have a:(p.1==d)=R:=by simpa using r
     simp only[a];exact b
 ·rename_i h;unfold gW;rw[List.find?_append];by_cases q:d=c
  ·subst q;have:w.find? (λp=>p.1==d)=L:=by
    rw[List.find?_eq_none];intro p g e;exact h (XB.mpr ⟨p,g,e⟩)
   rw[this,Zn Y];simp
  ·rw[Zl q];have:((c==d)=R):=by simpa using λe=>q e.symm
   simp[this]
def BD(w:List (Nat×Nat))(c m:Nat)(d:(w.map (·.1)).Nodup):((pW w c m).map (·.1)).Nodup:=by
 unfold pW;split
 ·rw[ZO];have:((λp:Nat×Nat=>p.1) ∘ λp=>if (p.1==c)=O then (p.1,m) else p)=λp=>p.1:=by
   funext p;simp only[Function.comp];split<;>rfl
  rw[this];exact d
 ·rename_i h;rw[ZD,ZR];refine⟨d,by simp,λa f b hb e=>?_⟩;grind
def FF(h:p∈pW w c m):p.1=c\/p∈w:=by
 unfold pW at h;grind
def iu{α:Type}(l:List α)(i j:Nat)(x d:α):(l.set i x).getD j d=if i=j/\i<l.length then x else l.getD j d:=by
 rw[Zr,Zr,W0];by_cases h:i=j
 ·subst h;by_cases a:i<l.length
  ·simp_all
  ·rw[Zn Y,Zl a,Zl (λz=>a z.2),Z7 (ZI a)]
 simp_all
def b9{α:Type}(l:List α)(x d:α)(j:Nat):(l++[x]).getD j d=if j=l.length then x else l.getD j d:=by
 rw[Zr,Zr];by_cases h:j<l.length
 ·rw[Z8 h,Zl (Zh h)]
 ·rw[Yt (ZI h)];by_cases a:j=l.length
  ·simp_all
  grind
def WF.way(W:WF S){n c v:Nat}(g:v<S.lg.length)(j:97<=c/\c<=122):WF ⟨S.lg,S.lk,S.wy.set n (pW (S.wy.getD n []) c v)⟩:=by
 refine⟨W.lk,by rw[Z9];exact W.wy,W.pos,W.up,λi d m h=>?_,λw hw=>?_,λw hw p b=>?_⟩
 ·have a:=h;rw[iu]at a;split at a
  ·rw[Dq]at a;split at a
   ·cases a;exact g
   ·exact W.on n d m a
  ·exact W.on i d m a
 ·by_cases f:n<S.wy.length
  ·rcases List.mem_or_eq_of_mem_set hw with h | h
   ·exact W.nd w h
   ·rw[h];refine BD _ c v (W.nd _ ?_)
    simp_all
  ·rw[List.set_eq_of_length_le (ZI f)]at hw;exact W.nd w hw
 ·by_cases f:n<S.wy.length
  ·rcases List.mem_or_eq_of_mem_set hw with h | h
   ·exact W.az w h p b
   ·rw[h]at b;rcases FF b with e | e
    ·rw[e];exact j
    ·refine W.az _ ?_ p e
     simp_all
  ·rw[List.set_eq_of_length_le (ZI f)]at hw;exact W.az w hw p b
def WF.link(W:WF S){n v:Nat}(b:v<S.lg.length):WF ⟨S.lg,S.lk.set n (Z v),S.wy⟩:=by
 refine⟨by rw[Z9];exact W.lk,W.wy,W.pos,λi m h=>?_,W.on,W.nd,W.az⟩;have a:=h;rw[iu]at a;split at a
 ·cases a;exact b
 ·exact W.up i m a
def WF.more(W:WF S){l:Nat}{o:Option Nat}{w:List (Nat×Nat)}(e:∀n,o=Z n->n<S.lg.length)(hw:∀c n,gW w c=Z n->n<S.lg.length)(g:(w.map (·.1)).Nodup)(f:∀p∈w,97<=p.1/\p.1<=122):WF ⟨S.lg++[l],S.lk++[o],S.wy++[w]⟩:=by
 have b:∀{n},n<S.lg.length->n<(S.lg++[l]).length:=λh=>by rw[Zv,ZN];exact Ys h
 refine⟨by rw[Zv,Zv,W.lk];rfl,by rw[Zv,Zv,W.wy];rfl,by simp_all,λi n h=>?_,λi c n h=>?_,λx d=>?_,λx d=>?_⟩
 ·have a:=h;rw[b9]at a;split at a
  ·exact b (e n a)
  ·exact b (W.up i n a)
 ·have a:=h;rw[b9]at a;split at a
  ·exact b (hw c n a)
  ·exact b (W.on i c n a)
 ·rcases ZU.mp d with h | h
  ·exact W.nd x h
  simp_all
 ·rcases ZU.mp d with h | h
  ·exact W.az x h
  ·rw[ZZ.mp h];exact f
def up1(c v:Nat):Nat->St->Option Nat->Option (St×Option Nat)
 |_,S,none=>Z (S,L)
 |0,_,some _=>L
 |k+1,S,some n=>if (gW (S.wy.getD n []) c).isSome then Z (S,Z n) else up1 c v k ⟨S.lg,S.lk,S.wy.set n (pW (S.wy.getD n []) c v)⟩ (S.lk.getD n L)
def Oc(c a v:Nat):Nat->St->Option Nat->Option St
 |_,S,none=>Z S
 |0,_,some _=>L
 |k+1,S,some n=>if gW (S.wy.getD n []) c=Z a then Oc c a v k ⟨S.lg,S.lk,S.wy.set n (pW (S.wy.getD n []) c v)⟩ (S.lk.getD n L) else Z S
def Oj(S:St)(n c:Nat):Option (St×Nat):=(gW (S.wy.getD n []) c).bind λold=>if S.lg.getD old 0=S.lg.getD n 0+1 then Z (S,old) else
 (Oc c old S.lg.length 1000 ⟨S.lg++[S.lg.getD n 0+1],(S.lk++[S.lk.getD old L]).set old (Z S.lg.length),S.wy++[S.wy.getD old []]⟩ (Z n)).map λa=>(a,S.lg.length)
def hb(S:St)(h c:Nat):Option (St×Nat):=if (gW (S.wy.getD h []) c).isSome then Oj S h c else
 (up1 c S.lg.length 1000 ⟨S.lg++[S.lg.getD h 0+1],S.lk++[Z 0],S.wy++[[]]⟩ (Z h)).bind λz=>match z.2 with
  |none=>Z (z.1,S.lg.length)
  |some n=>(Oj z.1 n c).map λy=>(⟨y.1.lg,y.1.lk.set S.lg.length (Z y.2),y.1.wy⟩,S.lg.length)
def hg(S:St)(h:Nat):Vx->Option (St×Nat)
 |[]=>Z (S,h)
 |c :: r=>(hb S h c).bind λz=>hg z.1 z.2 r
noncomputable def Sm(S:St):Prop:=S.lg.length<=100001
def WF.P2(W:WF S)(i:Nat):((S.wy.getD i []).map (·.1)).Nodup/\∀p∈S.wy.getD i [],97<=p.1/\p.1<=122:=by
 by_cases h:i<S.wy.length
 ·have hm:S.wy.getD i []∈S.wy:=by
   simp_all
  exact⟨W.nd _ hm,W.az _ hm⟩
 simp_all
noncomputable def S0:St:=⟨[0],[L],[[]]⟩
def Ak:WF S0:=by
 refine⟨rfl,rfl,by decide,λi n h=>?_,λi c n h=>?_,λw hw=>?_,λw hw p a=>?_⟩
 ·cases i with
  |zero=>cases h
  |succ i=>cases h
 ·cases i with
  |zero=>cases h
  |succ i=>cases h
 ·rw[ZZ.mp hw];exact Yb
 ·rw[ZZ.mp hw]at a;cases a
end AU
end
section
namespace VS
open PySem PySem.Spec PyProof.Rows L2
section
def j8:Vt->Vs
 |[(_,.lst l)]=>(strs? l).bind λd=>if d.length<64 then Z (.fr,.lst ((eQ (dedup d)).map .str)) else L
 |_=>L
theorem p8:∀l:List Tx,(dedup l).length<=l.length
 |[]=>Zm _
 |a :: l=>Y7 (ZP (Yc _ _) (p8 l))
def sL{X:Cx}(N:X.mg "sorted" = L)(O0:X.mg "set" = L)(S:JF G X [e] cs)(P:{`q2,Gl X "sorted"})(Ra:{`q2,Gl X "set"})(hK:{`q2,X.K=G.K})(u:{`q2,X.calm=O})(he:{`q2,K1 e [] X})(Rb:{`q2,Pv [.Call (.Name "set" p2) [e] [] pos'] X.env=(R,eval (.Call (.Name "set" p2) [e] [] pos') X.env) :: Pv [] X.env}) :
  PV G X (.Call (.Name "sorted" p) [.Call (.Name "set" p2) [e] [] pos'] [] pos) (eN j8 cs):=by
 refine PE.weak (oV (kU u) P N pR (dJ (qm (xo u) Ra O0 E9 S (he:=he)) iJ Rb)) λJ H Q Y=>?_;obtain⟨M,U,m,t,s,g,k⟩:=Y;obtain⟨l,el,g⟩:=Zz.mp g;refine⟨M,U,l,s,el,λvs A Fs s1 r1 f1=>?_⟩;unfold j8 at g;split at g
 ·rename_i mx x;obtain⟨d,e1,e2⟩:=Zz.mp g;split at e2
  ·rename_i hb;cases e2;obtain⟨v,F,rfl,rfl,B⟩:=r1.one;obtain⟨a,ys,Gs,rfl,rfl,NZ,r⟩:=B.lst_inv;have pm:∀f:List Str,f.Nodup->(∀y,y∈f↔y∈d.map sx)->f.Perm ((dedup d).map sx):=λf i h=>(X9 i ((jd d).map _ λa b MB e=>MB (Hn e))).mpr λy=>by
    rw[h y,Za,Za];exact⟨λ⟨z,j,e⟩=>⟨z,(ig d z).mpr j,e⟩,λ⟨z,j,e⟩=>⟨z,(ig d z).mp j,e⟩⟩
   refine⟨a,d.map sx,rfl,?_,by rw[Zy];exact X5 (Nat.succ_lt_succ hb) (by decide),λq E=>⟨q,d.map sx,rfl,ay,λf i h=>by rw[(pm f i h).length_eq,Zy];exact X8 (p8 d) hb,λC f K9 i h n=>?_⟩⟩
   ·rw[ZO,hK];have:=qP r e1;rw[show (V.str ∘ sx)=λs=>V.str (sx s) from rfl,← this];exact IT.of NZ
   ·have o:aI A (upd A q (CT X.w q (d.map sx))):=cX E;exact r6 (G:=G) (λv H' F e2 r2 f2=>k v H' F ((s1.trans o).trans e2) r2 f2) (s1.trans o) (λs D=>vn r e1 s ((ig d s).mp D)) C f K9 (pm f i h) n
  ·cases e2
 ·cases g
end
end VS
end
section
namespace T56
open VS
noncomputable section
def aW:Mt:=Kt 0 4 4 [R,R,O]
  (aq (sX (iW 0 [.fld 1] aK (ae (aa 1) ah)))
  (aq (sX (iW 0 [.fld 2] aK (ae (aa 2) ah)))
  (aq (qC 0 [.fld 3] 3)
  (dk (e2 mP (eN bE (ae (bp 1 (aa 0)) ah)) (Q3 1))))))
def bW:Mt:=Kt 0 1 1 (List.replicate 0 R)
  (aq (jT 0 1 (dX ah))
  (aq (jT 0 2 (dX ah))
  (aq (jT 0 3 (dX ah))
  (Pm (bH 0 [] 0 [R,R,O] aW (ae (Q3 0) (ae (eC .non) (ae (sP 0 []) ah))))))))
def dh:Sx :=
  (aq (gm 0 [.fld 3,.ix (aa 1)] (aa 2) (aa 5))
  (aC 1 (e2 aA (bp 2 (aa 0)) (aa 1))))
def aB:Mt:=Kt 0 3 6 [R,R]
  (aq (aC 3 (e2 Ks (e2 aA (bp 3 (aa 0)) (aa 1)) (aa 2)))
  (aq (aC 4 (e2 bJ (e2 aA (bp 1 (aa 0)) (aa 1)) (Q3 1)))
  (aq (JI (e2 oEq (e2 aA (bp 1 (aa 0)) (aa 3)) (aa 4)) (fU 3) d8)
  (aq (mZ 5 (bH 0 [] 0 [R,R,O] aW (ae (aa 4) (ae (e2 aA (bp 2 (aa 0)) (aa 3)) (ae (eN o5 (ae (e2 aA (bp 3 (aa 0)) (aa 3)) ah)) ah)))))
  (aq (gm 0 [.fld 2] (aa 3) (aa 5))
  (aq (j6 (i4 (eY (aa 1)) (e2 oEq (e2 wZ (e2 aA (bp 3 (aa 0)) (aa 1)) (aa 2)) (aa 3))) dh)
  (fU 5)))))))
def cO:Sx :=
  (aq (gm 0 [.fld 3,.ix (aa 4)] (aa 2) (aa 3))
  (aC 4 (e2 aA (bp 2 (aa 0)) (aa 4))))
def bO:Mt:=Kt 0 3 5 [R,R]
  (aq (JI (e2 oO (aa 2) (e2 aA (bp 3 (aa 0)) (aa 1))) (rL (bH 0 [] 0 [R,R] aB (ae (aa 1) (ae (aa 2) ah)))) d8)
  (aq (mZ 3 (bH 0 [] 0 [R,R,O] aW (ae (e2 bJ (e2 aA (bp 1 (aa 0)) (aa 1)) (Q3 1)) (ae (Q3 0) (ae (sP 0 []) ah)))))
  (aq (aC 4 (aa 1))
  (aq (j6 (i4 (eY (aa 4)) (e2 dI (aa 2) (e2 aA (bp 3 (aa 0)) (aa 4)))) cO)
  (aq (JI (eY (aa 4)) (mY 0 [.fld 2] (aa 3) (bH 0 [] 0 [R,R] aB (ae (aa 4) (ae (aa 2) ah)))) d8)
  (fU 3))))))
def df:Sx :=
  (mZ 1 (bH 0 [] 0 [R,R] bO (ae (aa 1) (ae (aa 3) ah))))
def aJ:Mt:=Kt 0 3 4 [R,R]
  (aq (h9 (aS 3) (dS (aa 2)) df)
  (fU 1))
def dq:Sx :=
  (JI (e2 dI (e2 Ks (aa 4) (aa 5)) (aa 1)) (aq (pd 1 (e2 Ks (aa 4) (aa 5)) (eN bE (ae (aa 2) ah)))
  (sX (jS 2 [] aK (ae (e2 Ks (aa 4) (aa 5)) ah)))) d8)
def dz:Sx :=
  (aq (aC 4 (e2 aA (bp 3 (aa 0)) (e2 aA (aa 2) (aa 3))))
  (aq (h9 (aS 5) (dS (eN ia (ae (aa 4) ah))) dq)
  (aC 3 (e2 bJ (aa 3) (Q3 1)))))
def aL:Fn:=fn 1 6
  (aq (jt 1 (sP 0 [((Q3 0),(Q3 0))]))
  (aq (jt 2 (dX (ae (Q3 0) ah)))
  (aq (aC 3 (Q3 0))
  (aq (j6 (e2 oLt (aa 3) (eN bE (ae (aa 2) ah))) dz)
  (aq (xN 2)
  (fU 1))))))
def bY:Fn:=fn 3 6
  (aq (aC 3 (e2 aA (bp 2 (aa 0)) (aa 1)))
  (aq (aC 4 (e2 aA (bp 3 (aa 0)) (aa 1)))
  (aq (aC 5 (eN lq (ae (bU 1 (aS 0) (dS (eN ia (ae (aa 4) ah))) L (nA (ae (aa 0) (ae (e2 sZ (aa 3) (e2 Ks (aa 5) (aa 0))) ah)))) ah)))
  (aq (JI (uF (aa 3)) (dk (nA (ae (Q3 0) (ae (Q3 0) (ae (eC .non) (ae (aa 5) ah)))))) d8)
  (dk (nA (ae (e2 bJ (e2 aA (bp 1 (aa 0)) (aa 3)) (Q3 1)) (ae (e2 aA (bp 1 (aa 0)) (aa 1)) (ae (e2 sZ (aa 2) (aa 3)) (ae (aa 5) ah))))))))))
def bV:Fn:=fn 1 2
  (aq (jt 1 (eE 0 aL (aa 0) ah))
  (yY 1 (aS 0) (eE 0 bY (aa 1) (ae (aa 0) (ae (aa 2) ah)))))
def bC:Mt:=Kt 1 1 1 []
  (aq (JI (e2 NN (eN bE (ae (bp 4 (aa 0)) ah)) (Q3 8)) Qw d8)
  (aq (sX (iW 0 [.fld 4] aK (ae (eC (.str [])) ah)))
  (aq (sX (iW 0 [.fld 5] aK (ae (Q3 0) ah)))
  (dk (e2 mP (eN bE (ae (bp 4 (aa 0)) ah)) (Q3 1))))))
def gh:Fn:=fn 1 1
  (dk (i4 (Sh .int (aa 0)) (qF (Sh .bool (aa 0)))))
def bu:Fn:=fn 2 2
  (JI (NA (qF (aH gh (ae (aa 1) ah))) (qF (jx oLe oLt (Q3 0) (aa 1) (eN bE (ae (aa 0) ah))))) Qw d8)
def gF:Fn:=fn 1 1
  (dk (eN yB (ae (bU 1 (aS 0) (dS (aa 0)) L (eN bE (ae (aa 0) ah))) ah)))
def bz:Mt:=Kt 1 3 3 [R,R]
  (aq (sX (xP (aH bu (ae (bp 4 (aa 0)) (ae (aa 1) ah)))))
  (aq (JI (e2 QC (e2 bJ (aH gF (ae (bp 4 (aa 0)) ah)) (eN bE (ae (aa 2) ah))) (Q3 120)) Qw d8)
  (aq (mY 0 [.fld 5] (aa 1) (bH 0 [.fld 6] 0 [R,R] aJ (ae (e2 aA (bp 5 (aa 0)) (aa 1)) (ae (aa 2) ah))))
  (gm 0 [.fld 4] (aa 1) (e2 bJ (e2 aA (bp 4 (aa 0)) (aa 1)) (aa 2))))))
def bG:Sx :=
  (Pm (p5 0 1 [R,R] bz (bH 0 [] 1 [] bC ah) (ae (aa 2) ah)))
def aN:Mt:=Kt 1 2 3 (List.replicate 1 R)
  (aq (jT 0 4 (dX ah))
  (aq (jT 0 5 (dX ah))
  (aq (jT 0 6 (eNew 0 bW ah))
  (JI (eY (aa 1)) (h9 (aS 2) (dS (aa 1)) bG) d8))))
def oQ:Fn:=fn 1 1
  (dk (eN mQ (ae (bp 4 (aa 0)) ah)))
def bD:Fn:=fn 1 1
  (dk (eE 0 bV (bp 6 (aa 0)) ah))
def mV:Sx :=
  (aq (aC 5 (bU 1 (aS 0) (di (e2 bJ (eN bE (ae (aa 4) ah)) (Q3 1))) (Z (eM pP (MC (aa 5) L (Z (aa 0))) (ae (aa 2) ah))) (aa 0)))
  (sX (jS 2 [] fD (ae (bU 1 (aS 0) (dS (aa 5)) L (nA (ae (aa 4) (ae (aa 0) ah)))) ah))))
def lD:Fn:=fn 2 6
  (aq (jt 2 (dX ah))
  (aq (h9 (nr [(aS 3),(aS 4)]) (sN (aa 0)) mV)
  (fU 2)))
def jX:Sx :=
  (sX (jS 2 [] fD (ae (bU 1 (aS 0) (di (e2 bJ (e2 mP (eN bE (ae (aa 3) ah)) (aa 1)) (Q3 1))) L (MC (aa 4) (Z (aa 0)) (Z (e2 bJ (aa 0) (aa 2))))) ah)))
def iP:Fn:=fn 2 4
  (aq (JI (e2 oEq (aa 1) (Q3 0)) (dk (dX (ae (eC (.str [])) ah))) d8)
  (aq (jt 2 (dX ah))
  (aq (h9 (aS 3) (dS (aa 0)) jX)
  (aq (xN 2)
  (dk (eN j8 (ae (aa 2) ah)))))))
def lU:Sx :=
  (aq (aC 4 (eN md (ae (e2 aA (e2 aA (aa 0) (e2 aA (aa 2) (Q3 (-1)))) (Q3 3)) ah)))
  (aq (JI (e2 dI (aa 3) (aa 4)) (fU 2) d8)
  (sX (jS 2 [] aK (ae (e2 Ks (aa 4) (aa 3)) ah)))))
def ku:Fn:=fn 2 5
  (aq (jt 2 (dX (ae (Q3 0) ah)))
  (aq (h9 (aS 3) (dS (aa 1)) lU)
  (fU 2)))
def iF:Fn:=fn 2 3
  (aq (aC 2 (aH ku (ae (aa 0) (ae (aa 1) ah))))
  (dk (Si (e2 oEq (eN bE (ae (aa 2) ah)) (e2 bJ (eN bE (ae (aa 1) ah)) (Q3 1))) (e2 aA (aa 2) (Q3 (-1))) (eC .non))))
def aY:Fn:=fn 2 2
  (JI (NA (qF (aH gh (ae (aa 1) ah))) (qF (jx oLe oLt (Q3 0) (aa 1) (eN bE (ae (aa 0) ah))))) Qw d8)
def eJ:Sx :=
  (JI (e2 oEq (e2 aA (e2 aA (aa 0) (e2 aA (aa 4) (Q3 1))) (Q3 1)) (e2 bJ (e2 aA (aa 3) (Q3 1)) (Q3 1))) (pd 1 (e2 aA (aa 4) (Q3 1)) (nA (ae (aa 2) (ae (e2 aA (aa 4) (Q3 0)) ah)))) d8)
def gY:Sx :=
  (h9 (aS 4) (dS (e2 aA (aa 3) (Q3 3))) eJ)
def eB:Fn:=fn 1 5
  (aq (jt 1 (sP 0 []))
  (aq (h9 (nr [(aS 2),(aS 3)]) (sN (aa 0)) gY)
  (fU 1)))
def kH:Sx :=
  (aq (aC 4 (e2 Ks (aa 2) (aa 1)))
  (aq (aC 3 (e2 bJ (e2 aA (aa 4) (Q3 1)) (aa 3)))
  (aC 1 (e2 aA (aa 4) (Q3 0)))))
def cx:Fn:=fn 2 5
  (aq (sX (xP (aH aY (ae (aa 0) (ae (aa 1) ah)))))
  (aq (aC 2 (aH eB (ae (aa 0) ah)))
  (aq (aC 3 (eC (.str [])))
  (aq (j6 (e2 Kr (aa 1) (Q3 0)) kH)
  (fU 3)))))
def gz:Fn:=fn 1 1
  (dk (eN yB (ae (bU 1 (aS 0) (dS (MC (aa 0) (Z (Q3 1)) L)) L (e2 bJ (e2 mP (e2 aA (aa 0) (Q3 1)) (e2 aA (aa 0) (Q3 0))) (Q3 1))) ah)))
def gb:Fn:=fn 2 2
  (dk (eN bE (ae (bU 1 (aS 0) (dS (aa 0)) (Z (jx oLe oLe (e2 aA (aa 0) (Q3 0)) (aa 2) (e2 aA (aa 0) (Q3 1)))) (aa 0)) ah)))
def iS:Sx :=
  (aq (sX (jS 2 [] aK (ae (aa 1) ah)))
  (aC 1 (e2 aA (e2 aA (aa 0) (aa 1)) (Q3 2))))
def nN:Fn:=fn 2 3
  (aq (sX (xP (aH aY (ae (aa 0) (ae (aa 1) ah)))))
  (aq (jt 2 (dX ah))
  (aq (j6 (eY (aa 1)) iS)
  (fU 2))))
def gK:Sx :=
  (sX (sU 2 (aa 7) (ae (nA (ae (aa 3) (ae (aa 5) ah))) ah)))
def ji:Sx :=
  (h9 (aS 7) (dS (aH nN (ae (aa 1) (ae (aa 6) ah)))) gK)
def i7:Sx :=
  (h9 (nr [(aS 5),(aS 6)]) (sN (aH ku (ae (aa 1) (ae (aa 4) ah)))) ji)
def cL:Fn:=fn 2 8
  (aq (jt 2 (bU 1 (aS 0) (dS (aa 1)) L (dX ah)))
  (aq (h9 (nr [(aS 3),(aS 4)]) (sN (aa 0)) i7)
  (fU 2)))
def iA:Fn:=fn 2 2
  (dk (bU 1 (aS 0) (dS (aH cL (ae (aa 0) (ae (aa 1) ah)))) L (eN bE (ae (aa 0) ah))))
def hU:Sx :=
  (Pm (bH 1 [] 0 [R,R] aJ (ae (Q3 0) (ae (aa 2) ah))))
def cP:Fn:=fn 1 3
  (aq (jt 1 (eNew 0 bW ah))
  (aq (h9 (aS 2) (dS (aa 0)) hU)
  (aq (xN 1)
  (dk (eE 0 bV (aa 1) ah)))))
def cQ:Fn:=fn 2 4
  (aq (aC 2 (eN oW (ae (bU 1 (aS 0) (dS (aa 1)) L (e2 aA (e2 aA (aa 1) (aa 0)) (Q3 1))) ah)))
  (aq (aC 3 (bU 1 (aS 0) (dS (aa 1)) (Z (e2 oEq (e2 aA (e2 aA (aa 1) (aa 0)) (Q3 1)) (aa 3))) (aa 0)))
  (dk (Av (aa 3) (aH cx (ae (aa 1) (ae (aa 0) ah)))))))
def jM:Fn:=fn 2 6
  (aq (aC 2 (aH cP (ae (aa 0) ah)))
  (aq (jt 3 (aH cL (ae (aa 0) (ae (aa 2) ah))))
  (aq (aC 4 (bU 1 (aS 0) (iO (Q3 1) (eN bE (ae (aa 2) ah))) (Z (e2 NN (eN bE (ae (e2 aA (aa 4) (aa 0)) ah)) (aa 2))) (aa 0)))
  (aq (JI (e2 oEq (eN bE (ae (aa 4) ah)) (Q3 0)) (dk (eC .non)) d8)
  (aq (aC 5 (aH cQ (ae (aa 2) (ae (aa 4) ah))))
  (vT 3 (aH cx (ae (aa 2) (ae (aa 5) ah))) (aa 5)))))))
def aM:Fn:=fn 2 2
  (aq (JI (e2 oLt (aa 1) (eN bE (ae (aa 0) ah))) (dk (e2 aA (aa 0) (aa 1))) d8)
  (dk (Q3 0)))
def fK:Fn:=fn 2 3
  (aq (aC 2 (e2 oMod (e2 bJ (e2 bJ (e2 oMod (aa 0) (Q3 2147483629)) (e2 mH (Q3 48271) (aa 1))) (Q3 11)) (Q3 2147483629)))
  (aq (aC 2 (e2 bJ (e2 oMod (e2 mH (aa 2) (aa 2)) (Q3 2147483629)) (e2 mH (Q3 7919) (aa 1))))
  (dk (e2 oMod (e2 mH (aa 2) (aa 2)) (Q3 2147483587)))))
def fA:Sx :=
  (JI (e2 oEq (e2 oMod (aH aM (ae (aa 0) (ae (Q3 0) ah))) (Q3 2)) (Q3 0)) (aq (sX (jS 6 [] aK (ae (e2 aA (aa 1) (e2 oMod (aa 4) (eN bE (ae (aa 1) ah)))) ah)))
  (aC 4 (e2 cj (aa 4) (eN bE (ae (aa 1) ah))))) (sX (jS 6 [] aK (ae (e2 aA (aa 1) (e2 oMod (e2 cj (aH fK (ae (aa 4) (ae (e2 bJ (e2 mH (Q3 30) (aa 3)) (aa 7)) ah))) (Q3 7)) (eN bE (ae (aa 1) ah)))) ah))))
def d6:Fn:=fn 4 8
  (aq (aC 4 (aH aM (ae (aa 0) (ae (e2 bJ (Q3 1) (aa 3)) ah))))
  (aq (aC 5 (e2 oMod (aa 4) (e2 bJ (aa 2) (Q3 1))))
  (aq (aC 4 (e2 cj (aa 4) (e2 bJ (aa 2) (Q3 1))))
  (aq (jt 6 (dX ah))
  (aq (h9 (aS 7) (di (aa 5)) fA)
  (aq (xN 6)
  (dk (eM kL (eC (.str [])) (ae (aa 6) ah)))))))))
def iL:Fn:=fn 1 5
  (aq (aC 1 (aH aM (ae (aa 0) (ae (Q3 0) ah))))
  (aq (aC 2 (e2 aA (dX (ae (eC (.str [97,98])) (ae (eC (.str [97,98,99])) (ae (eC (.str [97,98,99,100])) (ae (eC (.str [97,122])) (ae (eC (.str [97])) (ae (eC (.str [97,98,99,100,101,102,103,104,105,106,107,108,109,110,111,112,113,114,115,116,117,118,119,120,121,122])) ah))))))) (e2 oMod (e2 cj (aa 1) (Q3 2)) (Q3 6))))
  (aq (aC 3 (e2 aA (dX (ae (Q3 1) (ae (Q3 2) (ae (Q3 3) (ae (Q3 4) (ae (Q3 2) (ae (Q3 1) (ae (Q3 0) (ae (Q3 8) ah))))))))) (e2 oMod (e2 cj (aa 1) (Q3 12)) (Q3 8))))
  (aq (aC 4 (e2 aA (dX (ae (Q3 24) (ae (Q3 12) (ae (Q3 8) (ae (Q3 6) ah))))) (e2 mP (eN tH (ae (aa 3) (ae (Q3 4) ah))) (Q3 1))))
  (aq (JI (e2 oEq (e2 oMod (e2 cj (aa 1) (Q3 96)) (Q3 8)) (Q3 5)) (aC 4 (e2 cj (Q3 60) (eN so (ae (Q3 1) (ae (aa 3) ah))))) d8)
  (aq (JI (i4 (e2 oEq (aa 3) (Q3 8)) (e2 Kr (e2 oMod (e2 cj (aa 1) (Q3 96)) (Q3 8)) (Q3 5))) (aC 4 (Q3 3)) d8)
  (dk (bU 1 (aS 0) (di (aa 3)) L (aH d6 (ae (aa 1) (ae (aa 3) (ae (aa 5) (ae (aa 0) ah)))))))))))))
def iH:Fn:=fn 2 5
  (aq (JI (e2 oEq (aa 0) (dX ah)) (dk (e2 aA (dX (ae (eC (.str [])) (ae (eC (.str [97])) ah))) (e2 oMod (aa 1) (Q3 2)))) d8)
  (aq (aC 2 (e2 aA (aa 0) (e2 oMod (aa 1) (eN bE (ae (aa 0) ah)))))
  (aq (aC 3 (e2 oMod (e2 cj (aa 1) (Q3 8)) (e2 bJ (eN bE (ae (aa 2) ah)) (Q3 1))))
  (aq (aC 4 (MC (aa 2) (Z (aa 3)) (Z (e2 bJ (aa 3) (e2 oMod (e2 cj (aa 1) (Q3 512)) (e2 bJ (e2 mP (eN bE (ae (aa 2) ah)) (aa 3)) (Q3 1)))))))
  (dk (e2 bJ (aa 4) (e2 aA (dX (ae (eC (.str [])) (ae (eC (.str [])) (ae (eC (.str [])) (ae (eC (.str [98])) ah))))) (e2 oMod (e2 cj (aa 1) (Q3 65536)) (Q3 4)))))))))
def dy:Fn:=fn 4 5
  (aq (aC 4 (aH iF (ae (aa 1) (ae (aa 3) ah))))
  (aq (JI (uF (aa 4)) (dk (Q3 0)) d8)
  (dk (e2 aA (aa 2) (aa 4)))))
def pD:Sx :=
  (JI (NA (e2 Kr (aH gb (ae (aa 3) (ae (aa 7) ah))) (aH gb (ae (aa 4) (ae (aa 7) ah)))) (e2 Kr (aH gb (ae (aa 3) (ae (aa 7) ah))) (eN bE (ae (aH iP (ae (aa 1) (ae (aa 7) ah))) ah)))) (dk (eC (.bl R))) d8)
def lh:Sx :=
  (aq (aC 12 (aH iH (ae (aa 1) (ae (e2 bJ (aH aM (ae (aa 0) (ae (e2 bJ (Q3 12) (aa 11)) ah))) (e2 mH (Q3 141650939) (aa 11))) ah))))
  (aq (aC 13 (aH dy (ae (aa 1) (ae (aa 3) (ae (aa 5) (ae (aa 12) ah))))))
  (aq (JI (NA (e2 Kr (aa 13) (eN bE (ae (aH lD (ae (aa 1) (ae (aa 12) ah))) ah))) (e2 Kr (aa 13) (aH dy (ae (aa 2) (ae (aa 4) (ae (aa 6) (ae (DW (aa 12)) ah))))))) (dk (eC (.bl R))) d8)
  (JI (i4 (e2 Kr (aa 12) (eC (.str []))) (e2 oLt (aH dy (ae (aa 8) (ae (aa 9) (ae (aa 10) (ae (aa 12) ah))))) (aa 13))) (dk (eC (.bl R))) d8))))
def lu:Sx :=
  (aq (aC 15 (aH jM (ae (aa 1) (ae (aa 14) ah))))
  (aq (aC 16 (aH jM (ae (aa 2) (ae (aa 14) ah))))
  (JI (NA (e2 Kr (uF (aa 15)) (uF (aa 16))) (i4 (eY (aa 15)) (e2 Kr (eN bE (ae (e2 aA (aa 15) (Q3 0)) ah)) (eN bE (ae (e2 aA (aa 16) (Q3 0)) ah))))) (dk (eC (.bl R))) d8)))
def za:Fn:=fn 1 17
  (aq (aC 1 (aH iL (ae (aa 0) ah)))
  (aq (aC 2 (bU 1 (aS 0) (dS (aa 1)) L (DW (aa 0))))
  (aq (aC 3 (eE 1 bD (eNew 1 aN (ae (eN mQ (ae (aa 1) ah)) ah)) ah))
  (aq (aC 4 (eE 1 bD (eNew 1 aN (ae (aa 2) ah)) ah))
  (aq (aC 5 (aH iA (ae (aa 1) (ae (aa 3) ah))))
  (aq (aC 6 (aH iA (ae (aa 2) (ae (aa 4) ah))))
  (aq (JI (e2 Kr (aH gz (ae (aa 3) ah)) (aH gz (ae (aa 4) ah))) (dk (eC (.bl R))) d8)
  (aq (h9 (aS 7) (di (e2 bJ (eN oW (ae (e2 bJ (dX (ae (Q3 0) ah)) (bU 1 (aS 0) (dS (aa 1)) L (eN bE (ae (aa 0) ah)))) ah)) (Q3 2))) pD)
  (aq (aC 8 (dX (ae (eM kL (eC (.str [])) (ae (aa 1) ah)) ah)))
  (aq (aC 9 (eE 1 bD (eNew 1 aN (ae (aa 8) ah)) ah))
  (aq (aC 10 (aH iA (ae (aa 8) (ae (aa 9) ah))))
  (aq (h9 (aS 11) (di (Q3 12)) lh)
  (aq (h9 (aS 14) (iO (Q3 1) (Q3 4)) lu)
  (dk (e2 NN (aH gz (ae (aa 9) ah)) (aH gz (ae (aa 3) ah)))))))))))))))))
end
end T56
end
section
namespace VS
def e2v{b:Ex}{x y z:Val}(g:a U=Z x)(e:b U=Z y)(d:f x y=Z z):e2 f a b U=Z z:=by
 simp_all
def xv{r:Jj}{x:Val}(e:a U=Z x)(d:r U=Z b):ae a r U=Z (x :: b):=by
 simp_all
def oi{m:Md}(h:c U=Z (m,.bl O)):JI c a b U=a U:=by
 show (c U).bind _=_;rw[h];rfl
def lb{m:Md}(h:c U=Z (m,.bl R)):JI c a b U=b U:=by
 show (c U).bind _=_;rw[h];rfl
def eA{v:Val}(h:b U=Z a)(d:f a=Z v):eN f b U=Z v:=by
 simp_all
def bP{e:Ex}{U:Env}{t:T}(h:e U=Z (.fr,t)):dk e U=Z (.rt (.fr,t) U):=by
 simp_all
def fz(h:a U=Z (.rt v d)):aq a b U=Z (.rt v d):=by
 simp_all
def av{a b:Sx}{U U1:Env}(h:a U=Z (.nx U1)):aq a b U=b U1:=by
 simp_all
def sq{U1:Env}{r:Option Out}(h:a U=Z (.nx U1))(q:b U1=r):aq a b U=r:=(av h).trans q
def Pr{m:Md}(h:c U=Z (m,.bl O))(q:a U=r):JI c a b U=r:=(oi h).trans q
def nj{m:Md}{r:Option Out}(h:c U=Z (m,.bl R))(q:b U=r):JI c a b U=r:=(lb h).trans q
def bI{a:Vr}{U:Env}(f:a.length=d)(h:b (a.map (λt=>Z (.pu t))++List.replicate (e-d) L)=Z (.rt v U)):fn d e b a=Z v:=by
 simp_all
def Dm{a:Vr}{U:Env}(f:a.length=d)(h:b (a.map (λt=>Z (.pu t))++List.replicate (e-d) L)=Z (.nx U)):fn d e b a=Z (.fr,.non):=by
 simp_all
def l9{m:Md}{x:Bool}{v:Val}(e:a U=Z (m,.bl x))(d:x=O->b U=Z v)(f:x=R->v=(.fr,.bl R)):i4 a b U=Z v:=by
 show (a U).bind _=_;rw[e,Zq];cases x with
 |true=>exact d Y
 |false=>simp_all
def AD{m:Md}{x:Bool}(e:a U=Z (m,.bl x))(d:x=R->b U=Z v)(f:x=O->v=(.fr,.bl O)):NA a b U=Z v:=by
 show (a U).bind _=_;rw[e,Zq];cases x with
 |false=>exact d Y
 |true=>simp_all
def HM{m n:Md}{x y:Bool}(f:a U=Z (m,.bl x))(d:b U=Z (.fr,.bl y)):i4 a b U=Z (.fr,.bl (x&&y)):=l9 f (λe=>by rw[e];exact d) (λe=>by rw[e];rfl)
def or2{m n:Md}(f:a U=Z (m,.bl x))(d:b U=Z (.fr,.bl y)):NA a b U=Z (.fr,.bl (x||y)):=AD f (λe=>by rw[e];exact d) (λe=>by rw[e];rfl)
def qW{m:Md}{b:Bool}(h:a U=Z (m,.bl b)):qF a U=Z (.fr,.bl (!b)):=by
 simp_all
def rJ{x y z:Val}(j:a U=Z x)(i:b U=Z y)(h:f x y=Z (.fr,.bl O))(e:c U=Z z)(d:g y z=Z v):jx f g a b c U=Z v:=by
 simp_all
def Cq{y:Val}(h:a U=Z x)(e:b U=Z y)(d:f x y=Z (.fr,.bl R)):jx f g a b c U=Z (.fr,.bl R):=by
 simp_all
def Dr{n:Nat}{i:Int}(b:0<=i)(a:i<n):JL n i=Z i.toNat:=by rw[JL,Zn b,Zn a]
def xg(a:i<n):JL n (i:Int)=Z i:=by
 rw[JL,Zn (Wz i),Zn (Int.ofNat_lt.mpr a)];rfl
def BV(l:Vw)(i:Int)(b:0<=i)(a:i<l.length):aA (m,.scr l) (n,.int i)=Z (.fr,.int (l.getD i.toNat 0)):=by
 show (JL l.length i).bind _=_;rw[Dr b a,Zq,Zr,Zs (by lia)];rfl
def FS(t:Tx)(i:Int)(b:0<=i)(a:i<t.length):aA (m,.str t) (n,.int i)=Z (.fr,.str [t.getD i.toNat 0]):=by
 show (JL t.length i).bind _=_;rw[Dr b a,Zq,Zr,Zs (by lia)];rfl
def iY{m:Md}{r:Bool}(e:KL 60 a=O)(d:KL 60 b=O)(h:eqT a b=r):oEq (m,a) (n,b)=Z (.fr,.bl r):=by
 simp_all
def pU{m n:Md}{r:Bool}(e:KL 60 a=O)(d:KL 60 b=O)(h:eqT a b=r):Kr (m,a) (n,b)=Z (.fr,.bl (!r)):=by
 simp_all
def oY{i:Nat}{e:Ex}{U:Env}{l:Vr}(d:U[i]?=Z (Z (.ow (.lst l))))(b:e U=Z (.fr,v))(a:l.length<16777216):sX (jS i [] aK (ae e ah)) U=Z (.nx (U.set i (Z (.ow (.lst (l++[v])))))):=by
 unfold sX jS;rw[d];show ((Z ([])).bind _ |>.map _)=_;rw[Zq,(xv b Y),Zq];show ((aK (.lst l) [(.fr,v)]).map _ |>.map _)=_;rw[d2 a];rfl
def AH{m n:Md}{x y:Tx}(e:a U=Z (m,.str x))(d:b U=Z (n,.str y))(h:x.length+y.length<=16777216):e2 bJ a b U=Z (.fr,.str (x++y)):=e2v e d (um h)
def E2(l:List Tx)(h:a U=Z (l.map λx=>(Md.fr,T.str x)))(b:l.length<=16777216):dX a U=Z (.fr,.lst (l.map .str)):=by
 unfold dX;rw[h,Zq];have e:trees (l.map λx=>(Md.fr,T.str x))=l.map T.str:=by unfold trees;rw[ZO];rfl
 rw[e,lV (by rw[Zy];exact b),jh _ (λ_=>rfl) l];rfl
end VS
end
section
namespace T56
open VS AU
noncomputable abbrev pc(t:T):Vu:=Z (.pu t)
abbrev Q0(i:Int):Option Cell:=Z (.pu (.int i))
abbrev Q2(t:Tx):Option Cell:=Z (.pu (.str t))
noncomputable abbrev oc(t:T):Vu:=Z (.ow t)
noncomputable def Jk(w:List (Nat×Nat)):T:=.dct 0 (w.map λp=>(T.str [p.1],T.int (p.2:Int)))
noncomputable def Jo:Option Nat->T
 |none=>.non
 |some n=>.int (n:Int)
def KJ(S:St):t5:=[(1,.lst (S.lg.map λ(n:Nat)=>T.int (n:Int))),(2,.lst (S.lk.map Jo)),(3,.lst (S.wy.map Jk))]
def xb(S:St)(b:Bool):T:=.obj 1 ((0,.bl b) :: KJ S)
def lT(o:Option Nat):IS (Jo o)=O:=by cases o<;>rfl
theorem fi{α:Type}(f:α->T)(h:∀a,hZ (f a)=O):∀l:List α,dY (l.map f)=O
 |[]=>rfl
 |a :: l=>by rw[Zj,dY,h a,fi f h l];rfl
def zH(w:List (Nat×Nat)):hZ (Jk w)=O:=by
 show sW (w.map λp=>(T.str [p.1],T.int (p.2:Int)))=O
 induction w with
 |nil=>rfl
 |cons p w a=>rw[Zj,sW,a];rfl
def iQ(S:St):eD (KJ S)=O:=by
 have d:hZ (.lst (S.lg.map λ(n:Nat)=>T.int (n:Int)))=O:=fi _ (λ_=>rfl) _;have b:hZ (.lst (S.lk.map Jo))=O:=fi _ (λo=>oU _ (lT o)) _;have a:hZ (.lst (S.wy.map Jk))=O:=fi _ zH _;show ((hZ _ && !(1==0&&OR _))&&((hZ _ && !(2==0&&OR _))&&((hZ _ && !(3==0&&OR _))&&O)))=O;rw[d,b,a];rfl
def GY(S:St)(b:Bool):qA 1 (xb S b)=Z (.lst (S.lg.map λ(n:Nat)=>T.int (n:Int))):=rfl
def IG(S:St)(b:Bool):qA 2 (xb S b)=Z (.lst (S.lk.map Jo)):=rfl
def Iq(S:St)(b:Bool):qA 3 (xb S b)=Z (.lst (S.wy.map Jk)):=rfl
def hO{m:Md}{t:T}(h:a U=Z (m,t))(b:qA k t=Z u):bp k a U=Z (sub m u):=by
 unfold bp;rw[h,Zq,b];rfl
def m9{α:Type}{m n:Md}(f:α->T)(l:List α)(i:Nat)(d:α)(h:i<l.length):aA (m,.lst (l.map f)) (n,.int (i:Int))=Z (sub m (f (l.getD i d))):=by
 show (JL (l.map f).length (i:Int)).bind _=_;rw[Zy,xg h,Zq,Zd,Zs h,Zr,Zs h];rfl
section
def sI{i:Nat}(h:a U=Z (m,xb S b))(he:e U=Z (n,.int (i:Int)))(d:i<S.lg.length):e2 aA (bp 1 a) e U=Z (.fr,.int ((S.lg.getD i 0:Nat):Int)):=e2v (hO h (GY S b)) he (m9 _ _ i 0 d)
def vi{i:Nat}(h:a U=Z (m,xb S b))(he:e U=Z (n,.int (i:Int)))(d:i<S.lk.length):e2 aA (bp 2 a) e U=Z (.fr,Jo (S.lk.getD i L)):=(e2v (hO h (IG S b)) he (m9 _ _ i L d)).trans (by
 show Z (up _ _)=_;unfold up;rw[lT];rfl)
def pw{i:Nat}(h:a U=Z (m,xb S b))(he:e U=Z (n,.int (i:Int)))(d:i<S.wy.length):e2 aA (bp 3 a) e U=Z (m,Jk (S.wy.getD i [])):=e2v (hO h (Iq S b)) he (m9 _ _ i [] d)
def FQ(h:a U=Z (m,xb S b)):eN bE (ae (bp 1 a) ah) U=Z (.fr,.int (S.lg.length:Nat)):=eA (xv (hO h (GY S b)) Y) (by
 show Z (Md.fr,T.int (((S.lg.map λ(n:Nat)=>T.int (n:Int)).length:Nat):Int))=_;rw[Zy])
end
def DQ(a c:Nat):eqT (.str [a]) (.str [c])=(a==c):=by
 by_cases h:a=c
 ·simp[h]
 ·simp[h]
def qL(w:List (Nat×Nat))(c:Nat):eX (w.map λp=>(T.str [p.1],T.int (p.2:Int))) (.str [c])=(gW w c).map λ(n:Nat)=>T.int (n:Int):=by
 unfold eX gW;rw[List.find?_map];have:((λp:T×T=>eqT p.1 (.str [c])) ∘ λp:Nat×Nat=>(T.str [p.1],T.int (p.2:Int)))=λp:Nat×Nat=>p.1==c:=by
  funext p;exact DQ p.1 c
 rw[this];cases w.find? λp=>p.1==c with
 |none=>rfl
 |some p=>rfl
def G8(w:List (Nat×Nat))(c m:Nat):dput (w.map λp=>(T.str [p.1],T.int (p.2:Int))) (.str [c]) (.int (m:Int))=(pW w c m).map λp=>(T.str [p.1],T.int (p.2:Int)):=by
 have a:(w.map λp=>(T.str [p.1],T.int (p.2:Int))).any (λp=>eqT p.1 (.str [c]))=w.any λp=>p.1==c:=by
  rw[List.any_map];congr 1;funext p;exact DQ p.1 c
 unfold dput pW;rw[a];split
 ·rw[ZO,ZO];apply Y1;intro p _;simp only[Function.comp,DQ];split<;>rfl
 ·rw[ZD];rfl
section
def IE(h:a U=Z (m,Jk w))(he:e U=Z (n,.str [c])):e2 oO e a U=Z (.fr,.bl (gW w c).isSome):=e2v he h (by
 show (if O=O then Z (Md.fr,T.bl (eX _ _).isSome) else L)=_;rw[Zn Y,qL,YB])
def zx(h:a U=Z (m,Jk w))(he:e U=Z (n,.str [c])):e2 dI e a U=Z (.fr,.bl (!(gW w c).isSome)):=e2v he h (by
 show (match (if O=O then Z (Md.fr,T.bl (eX (w.map λp=>(T.str [p.1],T.int (p.2:Int))) (.str [c])).isSome) else L) with | some (_,.bl b)=>some (Md.fr,T.bl (!b)) | _=>none)=_;rw[Zn Y,qL,YB])
def uH(h:a U=Z (m,Jk w))(he:e U=Z (n,.str [c]))(d:gW w c=Z v):e2 Ks a e U=Z (.fr,.int (v:Int)):=e2v h he (by
 show (if O=O then (eX _ _).map (sub m) else L)=_;rw[Zn Y,qL,d];rfl)
def GE(h:a U=Z (m,Jk w))(he:e U=Z (n,.str [c])):e2 wZ a e U=Z (.fr,Jo (gW w c)):=e2v h he (by
 show (if O=O then Z (match eX (w.map λp=>(T.str [p.1],T.int (p.2:Int))) (.str [c]) with | some t=>sub m t | none=>(.fr,.non)) else none)=_;rw[Zn Y,qL];cases gW w c with
 |none=>rfl
 |some v=>rfl)
def yp{S:St}{v:Nat}(d:i<S.wy.length)(he:e (oc (xb S b) :: r)=Z (n,.int (i:Int)))(l:ec (oc (xb S b) :: r)=Z (m,.str [c]))(g:ev (oc (xb S b) :: r)=Z (k,.int (v:Int)))(f:(S.wy.getD i []).length<16777216) :
  gm 0 [.fld 3,.ix e] ec ev (oc (xb S b) :: r)=Z (.nx (oc (xb ⟨S.lg,S.lk,S.wy.set i (pW (S.wy.getD i []) c v)⟩ b) :: r)):=by
 unfold gm;rw[g,Zq];show ((keys [.fld 3,.ix e] (oc (xb S b) :: r)).bind _)=_;have j:keys [.fld 3,.ix e] (oc (xb S b) :: r)=Z [.fld 3,.at (.int (i:Int))]:=by
  show ((e _).bind _).map _=_;rw[he];rfl
 rw[j,Zq,l,Zq];have h:pm (kR (m,.str [c]) (k,.int (v:Int))) [.fld 3,.at (.int (i:Int))] (xb S b)=Z (xb ⟨S.lg,S.lk,S.wy.set i (pW (S.wy.getD i []) c v)⟩ b,()):=by
  show ((pm (kR (m,.str [c]) (k,.int (v:Int))) [.at (.int (i:Int))] (.lst (S.wy.map Jk))).map _)=_;have:pm (kR (m,.str [c]) (k,.int (v:Int))) [.at (.int (i:Int))] (.lst (S.wy.map Jk))=Z (.lst ((S.wy.set i (pW (S.wy.getD i []) c v)).map Jk),()):=by
   show ((JL (S.wy.map Jk).length (i:Int)).bind _)=_;rw[Zy,xg d,Zq,Zd,Zs d];have e1:S.wy.getD i []=S.wy[i]:=by rw[Zr,Zs d];rfl
   rw[e1]at f ⊢;show ((if O=O/\O=O/\(S.wy[i].map _).length<fN then Z (T.dct 0 (dput _ _ _),()) else L).map _)=_;rw[Zn ⟨rfl,rfl,by rw[Zy];exact f⟩,G8,We];rfl
  rw[this];rfl
 rw[h];rfl
def Ar{S:St}{v:Nat}{r:List (Vu)}(h:i<S.lk.length)(he:e (oc (xb S b) :: r)=Z (n,.int (i:Int)))(d:ev (oc (xb S b) :: r)=Z (.fr,.int (v:Int))) :
  gm 0 [.fld 2] e ev (oc (xb S b) :: r)=Z (.nx (oc (xb ⟨S.lg,S.lk.set i (Z v),S.wy⟩ b) :: r)):=by
 unfold gm;rw[d,Zq];show ((keys [.fld 2] (oc (xb S b) :: r)).bind _)=_;have g:keys [.fld 2] (oc (xb S b) :: r)=Z [.fld 2]:=rfl;rw[g,Zq,he,Zq];have f:pm (kR (n,.int (i:Int)) (.fr,.int (v:Int))) [.fld 2] (xb S b)=Z (xb ⟨S.lg,S.lk.set i (Z v),S.wy⟩ b,()):=by
  show ((kR (n,.int (i:Int)) (.fr,.int (v:Int)) (.lst (S.lk.map Jo))).map _)=_;have:kR (n,.int (i:Int)) (.fr,.int (v:Int)) (.lst (S.lk.map Jo))=Z (.lst ((S.lk.set i (Z v)).map Jo),()):=by
   show ((JL (S.lk.map Jo).length (i:Int)).map _)=_;rw[Zy,xg h,We];rfl
  rw[this];rfl
 rw[f];rfl
end
def kD{n:Nat}{b:Env}{m:Md}(e:c U=Z (m,.bl O))(d:a U=Z (.nx b)):dP c a (n+1) U=dP c a n b:=by
 show (c U).bind _=_;rw[e];show (if O=O then (a U).bind _ else Z (.nx U))=_;rw[Zn Y,d];rfl
def eT(b:c U=Z (m,.bl R)):dP c a (n+1) U=Z (.nx U):=by
 show (c U).bind _=_;rw[b];rfl
def js{mv:List Bool}{as:Jj}{b:Bool}{r:List (Vu)}(i:as (oc (xb S b) :: r)=Z a)(j:argsOk mv a=O)(l:dY (trees a)=O)(h:g (KJ S) (trees a)=Z (KJ d,v))(f:IS v=O) :
  bH 0 [] 0 mv g as (oc (xb S b) :: r)=Z ((.fr,v),oc (xb d b) :: r):=by
 show ((Z ([])).bind λe=>(as (oc (xb S b) :: r)).bind λa=>(pm (lJ 0 mv g a) e (xb S b)).map λz=>(z.2,(oc (xb S b) :: r).set 0 (oc z.1)))=_;rw[Zq,i,Zq];show ((if 1=0+1/\eD (KJ S)=O/\argsOk mv a=O/\dY (trees a)=O then (g (KJ S) (trees a)).bind λz=>if eD z.1=O/\IS z.2=O then Z (T.obj 1 ((0,.bl b) :: z.1),(Md.fr,z.2)) else L else L).map _)=_;rw[Zn ⟨rfl,iQ S,j,l⟩,h,Zq,Zn ⟨iQ d,f⟩];rfl
def EG{e:Ex}{S:St}{b:Bool}{r:List (Vu)}{v:Nat}(h:e (oc (xb S b) :: r)=Z (.fr,.int (v:Int)))(f:S.lg.length<16777216):sX (iW 0 [.fld 1] aK (ae e ah)) (oc (xb S b) :: r)=Z (.nx (oc (xb ⟨S.lg++[v],S.lk,S.wy⟩ b) :: r)):=by
 show (((Z [Ky.fld 1]).bind λd=>(ae e ah (oc (xb S b) :: r)).bind λa=>(pm (λx=>aK x a) d (xb S b)).map _).map _)=_;rw[Zq,xv h Y,Zq];show (((aK (.lst (S.lg.map λ(n:Nat)=>T.int (n:Int))) [(.fr,.int (v:Int))]).map _).map _ |>.map _)=_;rw[d2 (by rw[Zy];exact f),show (S.lg.map λ(n:Nat)=>T.int (n:Int))++[.int (v:Int)]=(S.lg++[v]).map λ(n:Nat)=>T.int (n:Int) from by rw[ZD];rfl];rfl
def Ec{e:Ex}{S:St}{b:Bool}{r:List (Vu)}{v:Option Nat}(h:e (oc (xb S b) :: r)=Z (.fr,Jo v))(f:S.lk.length<16777216):sX (iW 0 [.fld 2] aK (ae e ah)) (oc (xb S b) :: r)=Z (.nx (oc (xb ⟨S.lg,S.lk++[v],S.wy⟩ b) :: r)):=by
 show (((Z [Ky.fld 2]).bind λd=>(ae e ah (oc (xb S b) :: r)).bind λa=>(pm (λx=>aK x a) d (xb S b)).map _).map _)=_;rw[Zq,xv h Y,Zq];show (((aK (.lst (S.lk.map Jo)) [(.fr,Jo v)]).map _).map _ |>.map _)=_;rw[d2 (by rw[Zy];exact f),show (S.lk.map Jo)++[Jo v]=(S.lk++[v]).map Jo from by rw[ZD];rfl];rfl
def Fm(o:Option Nat):up .pu (Jo o)=(.fr,Jo o):=by
 unfold up;rw[lT];rfl
def yQ(S:St)(l:Nat)(o:Option Nat)(w:List (Nat×Nat))(f:S.lg.length<16777216)(d:S.lk.length<16777216)(a:S.wy.length<16777216):aW (KJ S) [.int (l:Int),Jo o,Jk w]=Z (KJ ⟨S.lg++[l],S.lk++[o],S.wy++[w]⟩,.int (S.lg.length:Int)):=by
 have g:=bP (e:=e2 mP (eN bE (ae (bp 1 (aa 0)) ah)) (Q3 1)) (U:=[oc (xb ⟨S.lg++[l],S.lk++[o],S.wy++[w]⟩ O),Q0 (l:Int),pc (Jo o),L]) (e2v (FQ Y) Y (by
  show Z (Md.fr,T.int ((((S.lg++[l]).length:Nat):Int)-1))=_;rw[Zv,ZN,show (((S.lg.length+1:Nat)):Int)-1=(S.lg.length:Int) by lia]))
 unfold aW Kt;rw[Zn ⟨rfl,rfl⟩];have body:=(av (b:=aq (sX (iW 0 [.fld 2] aK (ae (aa 2) ah))) (aq (qC 0 [.fld 3] 3) (dk (e2 mP (eN bE (ae (bp 1 (aa 0)) ah)) (Q3 1))))) (EG (S:=S) (b:=O) (r:=[Q0 (l:Int),pc (Jo o),oc (Jk w)]) (e:=aa 1) (v:=l) Y f)).trans ((av (Ec (S:=⟨S.lg++[l],S.lk,S.wy⟩) (b:=O) (r:=[Q0 (l:Int),pc (Jo o),oc (Jk w)]) (e:=aa 2) (v:=o) (congrArg Z (Fm o)) d)).trans ((av (by
  show ((aK (.lst (S.wy.map Jk)) [(.fr,Jk w)]).map _ |>.map _)=_;rw[d2 (by rw[Zy];exact a),show (S.wy.map Jk)++[Jk w]=(S.wy++[w]).map Jk from by rw[ZD];rfl];rfl)).trans g))
 exact congrArg (λz:Option Out=>z.bind _) body
def FA(w:97<=c/\c<=122):∀(k:Nat)(S b:St)(o:Option Nat),WF S->v<S.lg.length->(∀n,o=Z n->n<S.lg.length)->Oc c a v k S o=Z b->WF b/\b.lg=S.lg/\∃f,∀N,k<N->∀z:Vu,
  dP (i4 (eY (aa 1)) (e2 oEq (e2 wZ (e2 aA (bp 3 (aa 0)) (aa 1)) (aa 2)) (aa 3))) dh N [oc (xb S O),pc (Jo o),Q2 ([c]),Q0 (a:Int),z,Q0 (v:Int)] =
   Z (.nx [oc (xb b O),pc (Jo f),Q2 ([c]),Q0 (a:Int),z,Q0 (v:Int)]):=by
 intro k
 induction k with
 |zero =>
  intro S b o W g j e;cases o with
  |none =>
   cases (e);refine⟨W,rfl,L,λN hN z=>?_⟩;obtain⟨N,rfl⟩:∃d,N=d+1:=⟨N-1,by lia⟩
   exact eT Y
  |some n=>cases e
 |succ k u =>
  intro S b o W g j e;cases o with
  |none =>
   cases (e);refine⟨W,rfl,L,λN hN z=>?_⟩;obtain⟨N,rfl⟩:∃d,N=d+1:=⟨N-1,by lia⟩
   exact eT Y
  |some n =>
   have l:=j n Y;have p:n<S.wy.length:=by rw[W.wy];exact l
   have cond:∀z:Vu,i4 (eY (aa 1)) (e2 oEq (e2 wZ (e2 aA (bp 3 (aa 0)) (aa 1)) (aa 2)) (aa 3)) [oc (xb S O),Q0 (n:Int),Q2 ([c]),Q0 (a:Int),z,Q0 (v:Int)]=Z (.fr,.bl (decide (gW (S.wy.getD n []) c=Z a))):=λz=>by
    refine l9 Y (λ_=>?_) (λh=>by cases h);refine e2v (GE (pw Y Y p) Y) Y ?_;cases hg:gW (S.wy.getD n []) c with
    |none=>rw[ZV (by simp)];exact iY Y Y Y
    |some q =>
     refine(iY Y Y (show eqT (.int (q:Int)) (.int (a:Int))=decide (Z q=Z a) from ?_));by_cases h:q=a
     ·subst h;simp
     ·rw[ZV (λz=>h (Zi z))];exact beq_eq_false_iff_ne.mpr (by lia)
   unfold Oc at e;split at e
   ·rename_i i;obtain⟨t,s,f,r⟩:=u _ b (S.lk.getD n L) (W.way (n:=n) (c:=c) (v:=v) g w) g (λm hm=>W.up n m hm) e;refine⟨t,s,f,λN hN z=>?_⟩;obtain⟨N,rfl⟩:∃d,N=d+1:=⟨N-1,by lia⟩
    refine(kD ((cond z).trans (by rw[decide_eq_true i])) ?_).trans (r N (by exact Xw hN) z);refine(av (yp p Y Y Y (W.small n))).trans ?_;exact aw (vi (S:=⟨S.lg,S.lk,S.wy.set n (pW (S.wy.getD n []) c v)⟩) Y Y (by rw[W.lk];exact l)) (by decide) (by decide:1<6)
   ·rename_i i;cases e;refine⟨W,rfl,Z n,λN hN z=>?_⟩;obtain⟨N,rfl⟩:∃d,N=d+1:=⟨N-1,by lia⟩
    exact eT ((cond z).trans (by rw[ZV i]))
def DE(u:97<=c/\c<=122):∀(k:Nat)(S a:St)(o d:Option Nat),WF S->v<S.lg.length->(∀n,o=Z n->n<S.lg.length)->up1 c v k S o=Z (a,d)->WF a/\a.lg=S.lg/\(∀n,d=Z n->n<S.lg.length)/\∀N,k<N->∀z:Vu,
  dP (i4 (eY (aa 4)) (e2 dI (aa 2) (e2 aA (bp 3 (aa 0)) (aa 4)))) cO N [oc (xb S O),z,Q2 ([c]),Q0 (v:Int),pc (Jo o)] =
   Z (.nx [oc (xb a O),z,Q2 ([c]),Q0 (v:Int),pc (Jo d)]):=by
 intro k
 induction k with
 |zero =>
  intro S a o d W f i e;cases o with
  |none =>
   cases (e);refine⟨W,rfl,(λn h=>nomatch h),λN hN z=>?_⟩;obtain⟨N,rfl⟩:∃b,N=b+1:=⟨N-1,by lia⟩
   exact eT Y
  |some n=>cases e
 |succ k t =>
  intro S a o d W f i e;cases o with
  |none =>
   cases (e);refine⟨W,rfl,(λn h=>nomatch h),λN hN z=>?_⟩;obtain⟨N,rfl⟩:∃b,N=b+1:=⟨N-1,by lia⟩
   exact eT Y
  |some n =>
   have j:=i n Y;have l:n<S.wy.length:=by rw[W.wy];exact j
   have cond:∀z:Vu,i4 (eY (aa 4)) (e2 dI (aa 2) (e2 aA (bp 3 (aa 0)) (aa 4))) [oc (xb S O),z,Q2 ([c]),Q0 (v:Int),Q0 (n:Int)]=Z (.fr,.bl (!(gW (S.wy.getD n []) c).isSome)):=λz =>
    l9 Y (λ_=>zx (pw Y Y l) Y) (λh=>by cases h)
   unfold up1 at e;split at e
   ·rename_i g;cases e;refine⟨W,rfl,i,λN hN z=>?_⟩;obtain⟨N,rfl⟩:∃b,N=b+1:=⟨N-1,by lia⟩
    exact eT ((cond z).trans (by rw[g];rfl))
   ·rename_i g;obtain⟨s,r,p,q⟩:=t _ a (S.lk.getD n L) d (W.way (n:=n) (c:=c) (v:=v) f u) f (λm hm=>W.up n m hm) e;refine⟨s,r,p,λN hN z=>?_⟩;obtain⟨N,rfl⟩:∃b,N=b+1:=⟨N-1,by lia⟩
    have w:(gW (S.wy.getD n []) c).isSome=R:=by simpa using g
    refine(kD ((cond z).trans (by rw[w];rfl)) ?_).trans (q N (by exact Xw hN) z);refine(av (yp l Y Y Y (W.small n))).trans ?_;exact aw (vi (S:=⟨S.lg,S.lk,S.wy.set n (pW (S.wy.getD n []) c v)⟩) Y Y (by rw[W.lk];exact j)) (by decide) (by decide:4<5)
def Fq(a b:Nat):oEq (m,.int (a:Int)) (n,.int (b:Int))=Z (.fr,.bl (decide (a=b))):=iY Y Y (by
 by_cases h:a=b
 ·subst h;simp
 ·rw[ZV h];exact beq_eq_false_iff_ne.mpr (by lia))
def AR{r:Nat}(W:WF S)(t:Sm S)(i:n<S.lg.length)(u:97<=c/\c<=122)(e:Oj S n c=Z (a,r)):WF a/\r<a.lg.length/\S.lg.length<=a.lg.length/\a.lg.length<=S.lg.length+1/\aB (KJ S) [.int (n:Int),.str [c]]=Z (KJ a,.int (r:Int)):=by
 obtain⟨old,h,e⟩:=Zz.mp e;have hold:=W.on n c old h;have p0:old<S.lk.length:=by rw[W.lk];exact hold
 have E:S.lg.length<=100001:=t;unfold aB Kt;rw[Zn ⟨rfl,rfl⟩];have s1:=aw (e:=e2 Ks (e2 aA (bp 3 (aa 0)) (aa 1)) (aa 2)) (U:=[oc (xb S O),Q0 (n:Int),Q2 ([c]),L,L,L]) (uH (pw Y Y (by rw[W.wy];exact i)) Y h) (by decide) (by decide:3<6);have g:=aw (e:=e2 bJ (e2 aA (bp 1 (aa 0)) (aa 1)) (Q3 1)) (U:=[oc (xb S O),Q0 (n:Int),Q2 ([c]),Q0 (old:Int),L,L]) (e2v (sI Y Y i) Y Y) (by decide) (by decide:4<6);have cd:e2 oEq (e2 aA (bp 1 (aa 0)) (aa 3)) (aa 4) [oc (xb S O),Q0 (n:Int),Q2 ([c]),Q0 (old:Int),Q0 ((S.lg.getD n 0+1:Nat):Int),L]=Z (.fr,.bl (decide (S.lg.getD old 0=S.lg.getD n 0+1))):=e2v (sI Y Y hold) Y (Fq _ _);split at e
 ·rename_i f;obtain⟨rfl,rfl⟩:=XM (Zi e);rw[decide_eq_true f]at cd;refine⟨W,hold,Zm _,YQ _,?_⟩;have body:∀b:Sx,aq (aC 3 (e2 Ks (e2 aA (bp 3 (aa 0)) (aa 1)) (aa 2))) (aq (aC 4 (e2 bJ (e2 aA (bp 1 (aa 0)) (aa 1)) (Q3 1))) (aq (JI (e2 oEq (e2 aA (bp 1 (aa 0)) (aa 3)) (aa 4)) (fU 3) d8) b)) [oc (xb S O),Q0 (n:Int),Q2 ([c]),L,L,L]=Z (.rt (.fr,.int (old:Int)) [oc (xb S O),Q0 (n:Int),Q2 ([c]),Q0 (old:Int),Q0 ((S.lg.getD n 0+1:Nat):Int),L]):=λb =>
   (av s1).trans ((av g).trans (fz ((oi cd).trans Y)))
  exact congrArg (λz:Option Out=>z.bind _) (body _)
 ·rename_i f;rw[ZV f]at cd;obtain⟨B,C,e3⟩:=Zt.mp e;obtain⟨rfl,rfl⟩:=XM e3;have wn:=W.P2 old;have A:=W.more (l:=S.lg.getD n 0+1) (λm hm=>W.up old m hm) (λd m hm=>W.on old d m hm) wn.1 wn.2;have hlen:(S.lg++[S.lg.getD n 0+1]).length=S.lg.length+1:=by rw[Zv];rfl
  have y:=A.link (n:=old) (v:=S.lg.length) (by lia);obtain⟨q,o,D,j⟩:=FA u 1000 _ B (Z n) y (by lia) (λm hm=>by cases hm;lia) C;refine⟨q,by lia,by lia,by exact XG (by rw[o];exact hlen),?_⟩;have args:ae (aa 4) (ae (e2 aA (bp 2 (aa 0)) (aa 3)) (ae (eN o5 (ae (e2 aA (bp 3 (aa 0)) (aa 3)) ah)) ah)) [oc (xb S O),Q0 (n:Int),Q2 ([c]),Q0 (old:Int),Q0 ((S.lg.getD n 0+1:Nat):Int),L]=Z [(.fr,.int ((S.lg.getD n 0+1:Nat):Int)),(.fr,Jo (S.lk.getD old L)),(.fr,Jk (S.wy.getD old []))] :=
   xv Y (xv (vi Y Y p0) (xv (eA (xv (pw Y Y (by rw[W.wy];exact hold)) Y) (by
    show (if iN (((S.wy.getD old []).map λp=>(T.str [p.1],T.int (p.2:Int))).map (·.2))=O then Z (Md.fr,Jk (S.wy.getD old [])) else L)=_;rw[Zn (by rw[ZO];exact jh _ (λ_=>rfl) _)])) Y))
  have x:argsOk [R,R,O] [(.fr,.int ((S.lg.getD n 0+1:Nat):Int)),(.fr,Jo (S.lk.getD old L)),(.fr,Jk (S.wy.getD old []))]=O:=by
   show (O&&(IS (Jo (S.lk.getD old L))&&O))=O;rw[lT];rfl
  have w:=js args x (by
   show (O&&(hZ (Jo (S.lk.getD old L))&&(hZ (Jk (S.wy.getD old []))&&O)))=O;rw[oU _ (lT _),zH];rfl) (yQ S (S.lg.getD n 0+1) (S.lk.getD old L) (S.wy.getD old []) (by lia) (by rw[W.lk];lia) (by rw[W.wy];lia)) Y
  have s:=Ar (S:=⟨S.lg++[S.lg.getD n 0+1],S.lk++[S.lk.getD old L],S.wy++[S.wy.getD old []]⟩) (b:=O) (r:=[Q0 (n:Int),Q2 ([c]),Q0 (old:Int),Q0 ((S.lg.getD n 0+1:Nat):Int),Q0 (S.lg.length:Int)]) (e:=aa 3) (ev:=aa 5) (by rw[Zv];lia) Y Y;exact congrArg (λz:Option Out=>z.bind _) ((av s1).trans ((av g).trans ((av ((lb cd).trans Y)).trans ((av (by
   unfold mZ;rw[w];rfl)).trans ((av s).trans ((av (j uZ (by decide) (Q0 ((S.lg.getD n 0+1:Nat):Int)))).trans Y))))))
def Gn{r:Nat}(W:WF S)(J:S.lg.length<=100000)(u:h<S.lg.length)(x:97<=c/\c<=122)(e:hb S h c=Z (a,r)):WF a/\r<a.lg.length/\S.lg.length<=a.lg.length/\a.lg.length<=S.lg.length+2/\bO (KJ S) [.int (h:Int),.str [c]]=Z (KJ a,.int (r:Int)):=by
 unfold hb at e;unfold bO Kt;rw[Zn ⟨rfl,rfl⟩];have cd:e2 oO (aa 2) (e2 aA (bp 3 (aa 0)) (aa 1)) [oc (xb S O),Q0 (h:Int),Q2 ([c]),L,L]=Z (.fr,.bl (gW (S.wy.getD h []) c).isSome):=IE (pw Y Y (by rw[W.wy];exact u)) Y;split at e
 ·rename_i t;rw[t]at cd;obtain⟨i,s,q,j,C⟩:=AR W (WA J) u x e;refine⟨i,s,q,by exact WA j,?_⟩;have g:=js (mv:=[R,R]) (as:=ae (aa 1) (ae (aa 2) ah)) (b:=O) (r:=[Q0 (h:Int),Q2 ([c]),L,L]) Y Y Y C Y;have s1:rL (bH 0 [] 0 [R,R] aB (ae (aa 1) (ae (aa 2) ah))) [oc (xb S O),Q0 (h:Int),Q2 ([c]),L,L]=Z (.rt (.fr,.int (r:Int)) [oc (xb a O),Q0 (h:Int),Q2 ([c]),L,L]):=by
   unfold rL;rw[g];rfl
  exact congrArg (λz:Option Out=>z.bind _) (fz ((oi cd).trans s1))
 ·rename_i t;have M:(gW (S.wy.getD h []) c).isSome=R:=by simpa using t
  rw[M]at cd;obtain⟨⟨f,o⟩,e1,B⟩:=Zz.mp e;have hlen:(S.lg++[S.lg.getD h 0+1]).length=S.lg.length+1:=by rw[Zv];rfl
  obtain⟨i,s,q,j⟩:=DE x 1000 _ f (Z h) o (W.more (l:=S.lg.getD h 0+1) (o:=Z 0) (w:=[]) (λm hm=>by cases hm;exact W.pos) (λd m hm=>by cases hm) Yb (λp G=>nomatch G)) (by lia) (λm hm=>by cases hm;lia) e1;have args:ae (e2 bJ (e2 aA (bp 1 (aa 0)) (aa 1)) (Q3 1)) (ae (Q3 0) (ae (sP 0 []) ah)) [oc (xb S O),Q0 (h:Int),Q2 ([c]),L,L]=Z [(.fr,.int ((S.lg.getD h 0+1:Nat):Int)),(.fr,.int 0),(.fr,.dct 0 [])] :=
   xv (e2v (sI Y Y u) Y Y) (xv Y (xv Y Y))
  have g:=js (mv:=[R,R,O]) args Y Y (yQ S (S.lg.getD h 0+1) (Z 0) [] (by lia) (by rw[W.lk];lia) (by rw[W.wy];lia)) Y;have hd:∀b:Sx,aq (JI (e2 oO (aa 2) (e2 aA (bp 3 (aa 0)) (aa 1))) (rL (bH 0 [] 0 [R,R] aB (ae (aa 1) (ae (aa 2) ah)))) d8)
    (aq (mZ 3 (bH 0 [] 0 [R,R,O] aW (ae (e2 bJ (e2 aA (bp 1 (aa 0)) (aa 1)) (Q3 1)) (ae (Q3 0) (ae (sP 0 []) ah)))))
    (aq (aC 4 (aa 1)) (aq (j6 (i4 (eY (aa 4)) (e2 dI (aa 2) (e2 aA (bp 3 (aa 0)) (aa 4)))) cO) b))) [oc (xb S O),Q0 (h:Int),Q2 ([c]),L,L] =
    b [oc (xb f O),Q0 (h:Int),Q2 ([c]),Q0 (S.lg.length:Int),pc (Jo o)]:=λb =>
   (av ((lb cd).trans Y)).trans ((av (by
   unfold mZ;rw[g];rfl)).trans ((av Y).trans (av (j uZ (by decide) (Q0 (h:Int))))))
  cases o with
  |none =>
   obtain⟨rfl,rfl⟩:=XM (Zi B);have fin:aq (JI (eY (aa 4)) (mY 0 [.fld 2] (aa 3) (bH 0 [] 0 [R,R] aB (ae (aa 4) (ae (aa 2) ah)))) d8) (fU 3) [oc (xb f O),Q0 (h:Int),Q2 ([c]),Q0 (S.lg.length:Int),pc (Jo L)] =
     Z (.rt (.fr,.int (S.lg.length:Int)) [oc (xb f O),Q0 (h:Int),Q2 ([c]),Q0 (S.lg.length:Int),pc (Jo L)]):=(av ((lb Y).trans Y)).trans Y
   refine⟨i,by lia,by lia,by lia,?_⟩;exact congrArg (λz:Option Out=>z.bind _) ((hd _).trans fin)
  |some n =>
   obtain⟨⟨y,m⟩,e3,H⟩:=Zt.mp B;obtain⟨rfl,rfl⟩:=XM H;obtain⟨A,E,P,N,D⟩:=AR i (by show f.lg.length<=100001;lia) (by
    have:=q n Y;rw[s];exact this) x e3
   have g:=js (mv:=[R,R]) (as:=ae (aa 4) (ae (aa 2) ah)) (b:=O) (r:=[Q0 (h:Int),Q2 ([c]),Q0 (S.lg.length:Int),Q0 (n:Int)]) Y Y Y D Y;have pl:=Ar (b:=O) (r:=[Q0 (h:Int),Q2 ([c]),Q0 (S.lg.length:Int),Q0 (n:Int)]) (e:=aa 3) (ev:=λ_=>Z (.fr,.int (m:Int))) (by rw[A.lk];lia) Y Y;have F:mY 0 [.fld 2] (aa 3) (bH 0 [] 0 [R,R] aB (ae (aa 4) (ae (aa 2) ah))) [oc (xb f O),Q0 (h:Int),Q2 ([c]),Q0 (S.lg.length:Int),Q0 (n:Int)]=Z (.nx [oc (xb ⟨y.lg,y.lk.set S.lg.length (Z m),y.wy⟩ O),Q0 (h:Int),Q2 ([c]),Q0 (S.lg.length:Int),Q0 (n:Int)]):=by
    unfold mY;rw[g];exact pl
   refine⟨(A.link (n:=S.lg.length) (v:=m) E),by lia,by lia,by lia,?_⟩;exact congrArg (λz:Option Out=>z.bind _) ((hd _).trans ((av ((oi (m:=.fr) Y).trans F)).trans Y))
theorem zj:∀{word:Vx}{h r:Nat},WF S->S.lg.length+2*word.length<=100000->h<S.lg.length->(∀c∈word,97<=c/\c<=122)->hg S h word=Z (f,r) →
  WF f/\r<f.lg.length/\f.lg.length<=S.lg.length+2*word.length/\∀g:Vu,∀a:T,∃l,forL (aS 3) df (word.map λc=>T.str [c]) [oc (xb S O),Q0 (h:Int),pc a,g]=Z (.nx [oc (xb f O),Q0 (r:Int),pc a,l])
 |[],h,r,W,hl,i,j,e=>by
  obtain⟨rfl,rfl⟩:=XM (Zi e);exact⟨W,i,by simp,λg a=>⟨g,rfl⟩⟩
 |c :: word,h,r,W,hl,i,j,e=>by
  obtain⟨⟨A,z⟩,e1,v⟩:=Zz.mp e;rw[Ze]at hl;obtain⟨o,n,x,w,m⟩:=Gn W (by lia) i (j c Zu) e1;obtain⟨t,s,y,p⟩:=zj o (by lia) n (λd hd=>j d (Zw _ hd)) v;refine⟨t,s,by rw[Ze];lia,λg a=>?_⟩;obtain⟨l,q⟩:=p (Q2 ([c])) a;refine⟨l,?_⟩;rw[Zj];refine(dH (U1:=[oc (xb S O),Q0 (h:Int),pc a,Q2 ([c])]) Y ?_).trans q;have u:=js (mv:=[R,R]) (as:=ae (aa 1) (ae (aa 3) ah)) (b:=O) (r:=[Q0 (h:Int),pc a,Q2 ([c])]) Y Y Y m Y;unfold df mZ;rw[u];rfl
def Ax{S S':St}{a:Tx}{r:Nat}(W:WF S)(i:S.lg.length+2*a.length<=100000)(j:h<S.lg.length)(l:∀c∈a,97<=c/\c<=122)(e:hg S h a=Z (S',r)) :
  WF S'/\r<S'.lg.length/\S'.lg.length<=S.lg.length+2*a.length/\aJ (KJ S) [.int (h:Int),.str a]=Z (KJ S',.int (r:Int)):=by
 obtain⟨g,f,d,b⟩:=zj W i j l e;obtain⟨m,q⟩:=b L (.str a);refine⟨g,f,d,?_⟩;unfold aJ Kt;rw[Zn ⟨rfl,rfl⟩];have s1:=(cA (it:=dS (aa 2)) Y Y).trans q;exact congrArg (λz:Option Out=>z.bind _) ((av s1).trans Y)
end T56
end
section
namespace AU
noncomputable abbrev Wd:=Vx
noncomputable abbrev W(a:List Wd)(n:Nat):Wd:=a.getD n []
structure I(fr:Option Nat)(S:St)(nd:Wd->Option Nat)(wd:List Wd):Prop where
 wf:WF S
 len:wd.length=S.lg.length
 lg:∀n,n<wd.length->S.lg.getD n 0=(W wd n).length
 z:nd []=some 0
 wz:W wd 0=[]
 lt:∀{x n},nd x=some n->n<wd.length
 sf:∀{x n},nd x=some n->x <:+ W wd n
 top:∀{n},n<wd.length->nd (W wd n)=some n
 iv:∀{x y n},nd x=some n->x <:+ y->y <:+ W wd n->nd y=some n
 pre:∀{x c n},nd (x++[c])=some n->∃m,nd x=some m
 NL:∀{x y n},nd y=some n->x <:+ y->∃m,nd x=some m
 NR:S.lk.getD 0 none=none
 lk:∀{n},0<n->n<wd.length->some n≠fr->∃m,S.lk.getD n none=some m/\(m<wd.length/\some m≠fr)/\W wd m <:+ W wd n/\(W wd m).length<(W wd n).length/\∀y,y <:+ W wd n->(W wd m).length<y.length->nd y=some n
 wy:∀{x n},nd x=some n->∀c,gW (S.wy.getD n []) c=nd (x++[c])
def da{α:Type}{x y w:List α}(d:x <:+ w)(b:y <:+ w)(a:x.length<=y.length):x <:+ y:=List.suffix_of_suffix_length_le d b a
section
def I.up(H:I fr S nd wd):∀(k n:Nat)(x:Wd),(W wd n).length<=k->n<wd.length->Z n≠fr->x <:+ W wd n->∃m,nd x=Z m/\W wd m <:+ W wd n:=by
 intro k
 induction k with
 |zero =>
  intro n x d b e a;rw[(Xz.mp (Nat.le_zero.mp d))]at a;have:x=[]:=YV.mp a;subst this;exact⟨0,H.z,by rw[H.wz];exact X1⟩
 |succ k i =>
  intro n x d b e a;by_cases h0:n=0
  ·subst h0;rw[H.wz]at a;have:x=[]:=YV.mp a;subst this;exact⟨0,H.z,Z3 _⟩
  ·obtain⟨m,r,⟨l,o⟩,f,p,j⟩:=H.lk (Yy h0) b e;by_cases hl:(W wd m).length<x.length
   ·exact⟨n,j x a hl,Z3 _⟩
   ·obtain⟨q,h,g⟩:=i m x (by lia) l o (da a f (by exact ZI hl));exact⟨q,h,g.trans f⟩
def I.RM(H:I fr S nd wd)(b:n<wd.length)(d:Z n≠fr)(a:x <:+ W wd n):∃m,nd x=Z m/\W wd m <:+ W wd n:=H.up _ n x (Zm _) b d a
def I.all(H:I fr S nd wd)(e:q<wd.length)(f:Z q≠fr)(d:nd x=Z n)(b:nd y=Z n)(h:x <:+ W wd q):y <:+ W wd q:=by
 obtain⟨m,a,g⟩:=H.RM e f h;rw[d]at a;cases a;exact(H.sf b).trans g
def I.inj(H:I fr S nd wd)(b:m<wd.length)(a:n<wd.length)(h:W wd m=W wd n):m=n:=by
 have:=H.top b;rw[h,H.top a]at this
 simp_all
def I.way(H:I fr S nd wd){n c:Nat}(b:n<wd.length)(h:gW (S.wy.getD n []) c=Z a):nd (W wd n++[c])=Z a:=by
 rw[← H.wy (H.top b) c];exact h
def I.zero(H:I fr S nd wd)(h:nd x=Z 0):x=[]:=by
 have:=H.sf h;rw[H.wz]at this;exact YV.mp this
def I.low(H:I fr S nd wd)(f:Z n≠fr)(a:S.lk.getD n L=Z m)(b:nd y=Z n):(W wd m).length<y.length/\m<wd.length/\W wd m <:+ W wd n/\Z m≠fr:=by
 by_cases h0:n=0
 ·subst h0;rw[H.NR]at a;cases a
 ·obtain⟨i,g,⟨e,h⟩,d,l,j⟩:=H.lk (Yy h0) (H.lt b) f;rw[g]at a;cases a;refine⟨Nat.lt_of_not_le λhle=>?_,e,d,h⟩;have:=H.iv b (da (H.sf b) d hle) d;rw[H.top e]at this
  simp_all
def I.below(H:I fr S nd wd)(d:n<wd.length)(f:Z n≠fr)(a:S.lk.getD n L=Z q)(e:m<wd.length)(b:W wd m <:+ W wd n)(j:m≠n):W wd m <:+ W wd q:=by
 by_cases h0:n=0
 ·subst h0;rw[H.NR]at a;cases a
 ·obtain⟨o,i,⟨r,_⟩,h,p,g⟩:=H.lk (Yy h0) d f;rw[i]at a;cases a;refine da b h (ZI λl=>j ?_);have:=g _ b l;rw[H.top e]at this;exact Zi this
def I.root(H:I fr S nd wd)(b:n<wd.length)(g:Z n≠fr)(d:S.lk.getD n L=L)(f:m<wd.length)(a:W wd m <:+ W wd n):m=n:=by
 have h0:n=0:=Nat.eq_zero_of_not_pos λe=>by
  obtain⟨q,h,_⟩:=H.lk e b g;rw[h]at d;cases d
 subst h0;rw[H.wz]at a;exact H.inj f b (by rw[H.wz,YV.mp a])
def gu(a:List (List (Nat×Nat)))(n m c v d:Nat)(b:n<a.length):gW ((a.set n (pW (a.getD n []) c v)).getD m []) d=if m=n/\d=c then Z v else gW (a.getD m []) d:=by
 rw[iu];by_cases h:n=m
 ·subst h;rw[Zn ⟨rfl,b⟩,Dq];grind
 ·rw[Zl (λz=>h z.1),Zl (λz=>h z.1.symm)]
def I.Pe(H:I fr S nd wd){c v:Nat}:∀(k:Nat)(T:St)(n:Nat),n<wd.length->Z n≠fr->(W wd n).length<k->(∀m,m<wd.length->W wd m <:+ W wd n->T.lk.getD m L=S.lk.getD m L)->wd.length<=T.wy.length →
  (∀m f,m<wd.length->f<wd.length->W wd m <:+ W wd f->W wd f <:+ W wd n->gW (T.wy.getD m []) c=Z a->gW (T.wy.getD f []) c=Z a) →
  ∃i,Oc c a v k T (Z n)=Z ⟨T.lg,T.lk,i⟩/\i.length=T.wy.length/\∀m d,gW (i.getD m []) d=if d=c/\m<wd.length/\W wd m <:+ W wd n/\gW (T.wy.getD m []) c=Z a then Z v else gW (T.wy.getD m []) d:=by
 intro k
 induction k with
 |zero=>intro T n _ _ h;lia
 |succ k A =>
  intro T n g r D w hw mono;have j:=ZS g hw;unfold Oc;by_cases p:gW (T.wy.getD n []) c=Z a
  ·rw[Zn p,w n g (Z3 _)];cases hl:S.lk.getD n L with
   |none =>
    refine⟨T.wy.set n (pW (T.wy.getD n []) c v),by cases k<;>rfl,Z9,λm d=>?_⟩;rw[gu _ _ _ _ _ _ j];by_cases hm:m=n/\d=c
    ·simp_all
    ·rw[Zl hm,Zl λz=>hm ⟨H.root g r hl z.2.1 z.2.2.1,z.1⟩]
   |some q =>
    obtain⟨C,y,o,x⟩:=H.low r hl (H.top g);have ne:∀m,W wd m <:+ W wd q->m≠n:=λm hm e=>by
     rw[e]at hm;grind
    obtain⟨i,e1,e2,e3⟩:=A ⟨T.lg,T.lk,T.wy.set n (pW (T.wy.getD n []) c v)⟩ q y x (by lia) (λm hm l=>w m hm (l.trans o)) (by rw[Z9];exact hw) (λm f hm B l s h=>by
     have t:=h;rw[gu _ _ _ _ _ _ j,Zl (λz=>ne m (l.trans s) z.1)]at t;rw[gu _ _ _ _ _ _ j,Zl (λz=>ne f s z.1)];exact mono m f hm B l (s.trans o) t)
    refine⟨i,e1,by rw[e2];exact Z9,λm d=>?_⟩;rw[e3 m d];by_cases hm:m=n
    ·subst hm;rw[Zl (λz=>ne m z.2.2.1 Y),gu _ _ _ _ _ _ j]
     simp_all
    ·have u:∀d,gW ((T.wy.set n (pW (T.wy.getD n []) c v)).getD m []) d=gW (T.wy.getD m []) d:=λd=>by rw[gu _ _ _ _ _ _ j,Zl (λz=>hm z.1)]
     rw[u,u];by_cases b:d=c/\m<wd.length/\W wd m <:+ W wd n/\gW (T.wy.getD m []) c=Z a
     ·rw[Zn b,Zn ⟨b.1,b.2.1,H.below g r hl b.2.1 b.2.2.1 hm,b.2.2.2⟩]
     ·rw[Zl b,Zl λz=>b ⟨z.1,z.2.1,z.2.2.1.trans o,z.2.2.2⟩]
  ·rw[Zl p];refine⟨T.wy,rfl,rfl,λm d=>?_⟩;rw[Zl λz=>p (mono m n z.2.1 g z.2.2.1 (Z3 _) z.2.2.2)]
def I.Pf(H:I fr S nd wd){c v:Nat}:∀(k:Nat)(T:St)(n:Nat),n<wd.length->Z n≠fr->(W wd n).length<k->(∀m,m<wd.length->W wd m <:+ W wd n->T.lk.getD m L=S.lk.getD m L)->wd.length<=T.wy.length →
  (∀m g,m<wd.length->g<wd.length->W wd m <:+ W wd g->W wd g <:+ W wd n->(gW (T.wy.getD g []) c).isSome->(gW (T.wy.getD m []) c).isSome) →
  ∃t o,up1 c v k T (Z n)=Z (⟨T.lg,T.lk,t⟩,o)/\t.length=T.wy.length/\(∀m d,gW (t.getD m []) d=if d=c/\m<wd.length/\W wd m <:+ W wd n/\gW (T.wy.getD m []) c=L then Z v else gW (T.wy.getD m []) d) ∧
   (o=L->∀m,m<wd.length->W wd m <:+ W wd n->gW (T.wy.getD m []) c=L) ∧
   ∀p,o=Z p->p<wd.length/\W wd p <:+ W wd n/\(gW (T.wy.getD p []) c).isSome/\∀m,m<wd.length->W wd m <:+ W wd n->(W wd p).length<(W wd m).length->gW (T.wy.getD m []) c=L:=by
 intro k
 induction k with
 |zero=>intro T n _ _ h;lia
 |succ k Q =>
  intro T n b j hk E hw mono;have l:=ZS b hw;unfold up1;by_cases i:(gW (T.wy.getD n []) c).isSome=O
  ·rw[Zn i];refine⟨T.wy,Z n,rfl,rfl,λm d=>?_,(λh=>nomatch h),λp r=>?_⟩
   ·rw[Zl λz=>?_];have:=mono m n z.2.1 b z.2.2.1 (Z3 _) i;rw[z.2.2.2]at this;cases this
   ·cases r;refine⟨b,Z3 _,i,λm hm a hl=>?_⟩;have:=a.length_le;lia
  ·have w:gW (T.wy.getD n []) c=L:=by
    cases h:gW (T.wy.getD n []) c with
    |none=>rfl
    |some x=>rw[h]at i;exact absurd Y i
   rw[Zl i,E n b (Z3 _)];cases hl:S.lk.getD n L with
   |none =>
    refine⟨T.wy.set n (pW (T.wy.getD n []) c v),L,by cases k<;>rfl,Z9,λm d=>?_,λ_ m hm a=>?_,(λp r=>nomatch r)⟩
    ·rw[gu _ _ _ _ _ _ l];by_cases hm:m=n/\d=c
     ·simp_all
     ·rw[Zl hm,Zl λz=>hm ⟨H.root b j hl z.2.1 z.2.2.1,z.1⟩]
    ·rw[H.root b j hl hm a];exact w
   |some q =>
    refine L2.ak λP_ P=>?_;obtain⟨l1,N,u,M⟩:=H.low j hl (H.top b);have ne:∀m,W wd m <:+ W wd q->m≠n:=λm hm e=>by
     rw[e]at hm;have:=hm.length_le;lia
    obtain⟨t,o,e1,e2,e3,e4,X⟩:=Q ⟨T.lg,T.lk,T.wy.set n (pW (T.wy.getD n []) c v)⟩ q N M (by lia) (λm hm a=>E m hm (a.trans u)) (by rw[Z9];exact hw) (λm g hm J8 a y h=>by
     have B:=h;rw[gu _ _ _ _ _ _ l,Zl (λz=>ne g y z.1)]at B;rw[gu _ _ _ _ _ _ l,Zl (λz=>ne m (a.trans y) z.1)];exact mono m g hm J8 a (y.trans u) B)
    refine P ?_;have old:∀m,W wd m <:+ W wd q->gW ((T.wy.set n (pW (T.wy.getD n []) c v)).getD m []) c=gW (T.wy.getD m []) c:=λm hm=>by rw[gu _ _ _ _ _ _ l,Zl (λz=>ne m hm z.1)]
    refine⟨t,o,e1,by rw[e2];exact Z9,λm d=>?_,λU m hm a=>?_,λp r=>?_⟩
    ·rw[e3 m d];by_cases hm:m=n
     ·subst hm;rw[Zl (λz=>ne m z.2.2.1 Y),gu _ _ _ _ _ _ l]
      simp_all
     ·have C:∀d,gW ((T.wy.set n (pW (T.wy.getD n []) c v)).getD m []) d=gW (T.wy.getD m []) d:=λd=>by rw[gu _ _ _ _ _ _ l,Zl (λz=>hm z.1)]
      rw[C,C];by_cases f:d=c/\m<wd.length/\W wd m <:+ W wd n/\gW (T.wy.getD m []) c=L
      ·rw[Zn f,Zn ⟨f.1,f.2.1,H.below b j hl f.2.1 f.2.2.1 hm,f.2.2.2⟩]
      ·rw[Zl f,Zl λz=>f ⟨z.1,z.2.1,z.2.2.1.trans u,z.2.2.2⟩]
    ·by_cases s:m=n
     ·rw[s];exact w
     ·have hb:=H.below b j hl hm a s;rw[← old m hb];exact e4 U m hm hb
    ·obtain⟨J,A,G,F⟩:=X p r;have D:=G;rw[old p A]at D;refine⟨J,A.trans u,D,λm hm a JM=>?_⟩;by_cases s:m=n
     ·rw[s];exact w
     ·have hb:=H.below b j hl hm a s;rw[← old m hb];exact F m hm hb JM
end
def Fl(g:97<=c/\c<=122):∀(k:Nat)(S a:St)(o:Option Nat),WF S->v<S.lg.length->Oc c b v k S o=Z a->WF a:=by
 intro k
 induction k with
 |zero =>
  intro S a o H d e;cases o with
  |none=>cases (e);exact H
  |some n=>cases e
 |succ k f =>
  intro S a o H d e;cases o with
  |none=>cases (e);exact H
  |some n =>
   unfold Oc at e;split at e
   ·exact f ⟨S.lg,S.lk,S.wy.set n (pW (S.wy.getD n []) c v)⟩ a _ (H.way (n:=n) d g) d e
   ·cases e;exact H
def FU(g:97<=c/\c<=122):∀(k:Nat)(S a:St)(o b:Option Nat),WF S->v<S.lg.length->up1 c v k S o=Z (a,b)->WF a:=by
 intro k
 induction k with
 |zero =>
  intro S a o b H d e;cases o with
  |none=>cases (e);exact H
  |some n=>cases e
 |succ k f =>
  intro S a o b H d e;cases o with
  |none=>cases (e);exact H
  |some n =>
   unfold up1 at e;split at e
   ·cases e;exact H
   ·exact f ⟨S.lg,S.lk,S.wy.set n (pW (S.wy.getD n []) c v)⟩ a _ b (H.way (n:=n) d g) d e
def jF{α:Type}{x y:List α}{a b:α}(h:x++[a] <:+ y++[b]):a=b/\x <:+ y:=by
 obtain⟨t,e⟩:=h;rw[← Z0]at e;obtain⟨e1,e2⟩:=List.append_inj' e Y;exact⟨by simpa using e2,⟨t,e1⟩⟩
def ir{α:Type}{x y:List α}(a:α)(h:x <:+ y):x++[a] <:+ y++[a]:=by
 obtain⟨t,e⟩:=h;exact⟨t,by rw[← e,Z0]⟩
noncomputable def i3(b:Wd->Option Nat)(a l h:Nat)(x:Wd):Option Nat:=if b x=Z a/\x.length<=l then Z h else b x
theorem I.split(H:I G S j b)(D:n<b.length)(hf:Z n≠G)(hc:97<=c/\c<=122)(ho:gW (S.wy.getD n []) c=Z a)(OW:Z a≠G)(Mz:G≠Z b.length)(JP:S.lg.getD a 0≠S.lg.getD n 0+1)(hk:(W b n).length<1000) :
  ∃S',Oj S n c=Z (S',S.lg.length)/\I G S' (i3 j a ((W b n).length+1) b.length) (b++[W b n++[c]]):=by
 have E:=H.len.symm;have hw:=H.way D ho;have hold:=H.lt hw;have s:=H.sf hw;have lw:(W b n++[c]).length=(W b n).length+1:=by rw[Zv];rfl
 rw[H.lg a hold,H.lg n D]at JP;have JM:(W b n).length+1<(W b a).length:=by
  have:=s.length_le;rw[lw]at this;lia
 have U:a≠0:=λe=>by
  rw[e,H.wz]at JM;simp at JM
 have Rg:0<b.length:=by rw[H.len];exact H.wf.pos
 have l1:S.lk.length=b.length:=by rw[H.wf.lk,E]
 have l2:S.wy.length=b.length:=by rw[H.wf.wy,E]
 have Om:∀m,((S.lk++[S.lk.getD a L]).set a (Z S.lg.length)).getD m L=if m=a then Z b.length else if m=b.length then S.lk.getD a L else S.lk.getD m L:=λm=>by
  rw[iu,b9,l1,E];by_cases h:m=a
  ·rw[Zn ⟨h.symm,by rw[Zv,l1];lia⟩,Zn h]
  ·rw[Zl (λz=>h z.1.symm),Zl h]
 have Lm:∀m,(S.wy++[S.wy.getD a []]).getD m []=if m=b.length then S.wy.getD a [] else S.wy.getD m []:=λm=>by rw[b9,l2]
 have MF:∀m,m<b.length->(S.wy++[S.wy.getD a []]).getD m []=S.wy.getD m []:=λm hm=>by rw[Lm,Zl (Zh hm)]
 obtain⟨w2,e1,e2,e3⟩:=H.Pe (c:=c) (v:=S.lg.length) 1000 ⟨S.lg++[S.lg.getD n 0+1],(S.lk++[S.lk.getD a L]).set a (Z S.lg.length),S.wy++[S.wy.getD a []]⟩ n D hf hk (λm hm X=>by
   have:=X.length_le;rw[Om,Zl (λe=>by rw[e]at this;lia),Zl (Zh hm)])
  (by rw[Zv,l2];exact YI _ _)
  (λm t hm A X Ku h=>by
   have w:=h;rw[MF m hm]at w;rw[MF t A,H.wy (H.top A) c];rw[H.wy (H.top hm) c]at w;exact H.iv w (ir c X) ((ir c Ku).trans s))
 have wn:=H.wf.P2 a;have W1:=H.wf.more (l:=S.lg.getD n 0+1) (λm hm=>H.wf.up a m hm) (λd m hm=>H.wf.on a d m hm) wn.1 wn.2;have hlen:(S.lg++[S.lg.getD n 0+1]).length=S.lg.length+1:=by rw[Zv];rfl
 have W2:=W1.link (n:=a) (v:=S.lg.length) (by lia);have Su:=Fl hc 1000 _ _ _ W2 (by lia) e1;refine⟨⟨S.lg++[S.lg.getD n 0+1],(S.lk++[S.lk.getD a L]).set a (Z S.lg.length),w2⟩,?_,?_⟩
 ·unfold Oj;rw[ho,Zq,Zl (by rw[H.lg a hold,H.lg n D];exact JP),e1];rfl
 have Wn:∀m,W (b++[W b n++[c]]) m=if m=b.length then W b n++[c] else W b m:=λm=>b9 b _ _ m
 have p:W (b++[W b n++[c]]) b.length=W b n++[c]:=by rw[Wn,Zn Y]
 have f:∀{m},m<b.length->W (b++[W b n++[c]]) m=W b m:=λ{m} hm=>by rw[Wn,Zl (Zh hm)]
 have dc:(b++[W b n++[c]]).length=b.length+1:=by rw[Zv];rfl
 have tell:∀{x m},i3 j a ((W b n).length+1) b.length x=Z m->(m=b.length/\j x=Z a/\x.length<=(W b n).length+1)\/(m<b.length/\j x=Z m/\¬(m=a/\x.length<=(W b n).length+1)):=λ{x m} h=>by
  unfold i3 at h;split at h
  ·rename_i q;cases h;exact .inl ⟨rfl,q.1,q.2⟩
  ·rename_i q;exact .inr ⟨H.lt h,h,λz=>q ⟨by rw[h,z.1],z.2⟩⟩
 have N:∀{x},j x=Z a->x.length<=(W b n).length+1->i3 j a ((W b n).length+1) b.length x=Z b.length:=λ{x} u h2=>Zn ⟨u,h2⟩;have tO:∀{x m},j x=Z m->¬(m=a/\x.length<=(W b n).length+1)->i3 j a ((W b n).length+1) b.length x=Z m:=λ{x m} u h2=>by
  unfold i3;rw[Zl (λz=>h2 ⟨by rw[u]at z;exact Zi z.1,z.2⟩),u]
 have Of:∀{x m},j x=Z m->∃t,i3 j a ((W b n).length+1) b.length x=Z t:=λ{x m} h=>by
  unfold i3;split
  ·exact⟨_,rfl⟩
  ·exact⟨m,h⟩
 have un:∀{x m},i3 j a ((W b n).length+1) b.length x=Z m->∃t,j x=Z t:=λ{x m} h=>(tell h).elim (λz=>⟨_,z.2.1⟩) λz=>⟨_,z.2.1⟩
 refine⟨Su,by rw[dc,hlen,E],λm hm=>?_,tO H.z (λz=>U z.1.symm),by rw[f Rg];exact H.wz,λ{x m} h=>by rcases tell h with z | z<;>lia,λ{x m} h=>?_,λ{m} hm=>?_,λ{x y m} h J g=>?_,λ{x d m} h=>?_,λ{x y m} h J=>?_,?_,λ{m} h0 hm VZ=>?_,λ{x m} h d=>?_⟩
 ·rw[dc]at hm;rw[b9,E];by_cases e:m=b.length
  ·rw[Zn e,e,p,H.lg n D,lw]
  ·rw[Zl e,f (by lia),H.lg m (by lia)]
 ·rcases tell h with⟨rfl,i,B⟩ | ⟨C,i,_⟩
  ·rw[p];exact da (H.sf i) s (by rw[lw];exact B)
  ·rw[f C];exact H.sf i
 ·rw[dc]at hm;by_cases e:m=b.length
  ·rw[e,p];exact N hw (by rw[lw];exact Zm _)
  ·rw[f (by lia)];exact tO (H.top (by lia)) (λz=>by have:=z.2;rw[z.1]at this;lia)
 ·rcases tell h with⟨rfl,i,B⟩ | ⟨C,i,B⟩
  ·rw[p]at g;have:=g.length_le;rw[lw]at this;exact N (H.iv i J (g.trans s)) this
  ·rw[f C]at g;exact tO (H.iv i J g) (λz=>B ⟨z.1,ZP J.length_le z.2⟩)
 ·obtain⟨t,w⟩:=un h;obtain⟨q,o⟩:=H.pre w;exact Of o
 ·obtain⟨t,w⟩:=un h;obtain⟨q,o⟩:=H.NL w J;exact Of o
 ·rw[Om,Zl (Ye U),Zl (by exact Zh Rg)];exact H.NR
 ·rw[dc]at hm;show ∃q,((S.lk++[S.lk.getD a L]).set a (Z S.lg.length)).getD m L=Z q/\_;rw[Om,dc];refine L2.ak λP_ F=>?_;obtain⟨q,q1,⟨M,Q⟩,q3,q4,q5⟩:=H.lk (Yy U) hold OW;obtain⟨lo,_⟩:=H.low OW q1 hw;refine F ?_;rw[lw]at lo;by_cases e:m=a
  ·subst e;rw[Zn Y];refine⟨b.length,rfl,⟨by exact ZG _,λz=>Mz z.symm⟩,?_,?_,λy g hl=>?_⟩
   ·rw[p,f hold];exact s
   ·rw[p,f hold,lw];exact JM
   ·rw[p,lw]at hl;rw[f hold]at g;exact tO (H.iv hw (da s g (by rw[lw];exact Xd hl)) g) (λz=>by have:=z.2;lia)
  ·rw[Zl e];by_cases eL:m=b.length
   ·subst eL;rw[Zn Y,q1];refine⟨q,rfl,⟨by exact Ys M,Q⟩,?_,?_,λy g hl=>?_⟩
    ·rw[p,f M];exact da q3 s (by rw[lw];exact Xd lo)
    ·rw[p,f M,lw];exact lo
    ·rw[p]at g;rw[f M]at hl;have:=g.length_le;rw[lw]at this;exact N (q5 y (g.trans s) hl) this
   ·rw[Zl eL];have A:m<b.length:=by lia
    refine L2.ak λP_ F=>?_;obtain⟨r,r1,⟨r2,P⟩,r3,r4,r5⟩:=H.lk h0 A VZ;refine F ?_;rw[r1];refine⟨r,rfl,⟨by exact Ys r2,P⟩,by rw[f r2,f A];exact r3,by rw[f r2,f A];exact r4,λy g hl=>?_⟩;rw[f A]at g;rw[f r2]at hl;exact tO (r5 y g hl) (λz=>e z.1)
 ·rw[e3 m d];rcases tell h with⟨rfl,i,B⟩ | ⟨C,i,B⟩
  ·rw[Zl (λz=>YR _ z.2.1),Lm,Zn Y,H.wy i d];unfold i3;rw[Zl];intro z;have u:=z.1;rw[← H.wy i d,H.wy (H.top hold) d]at u;have:=(H.sf u).length_le;rw[Zv,ZN]at this;lia
  ·rw[MF m C,H.wy i c,H.wy i d];unfold i3;by_cases o:j (x++[d])=Z a/\(x++[d]).length<=(W b n).length+1
   ·refine L2.ak λP_ F=>?_;obtain⟨rfl,hx⟩:=jF (da (H.sf o.1) s (by rw[lw];exact o.2));obtain⟨t,m1,m2⟩:=H.RM D hf hx;rw[i]at m1;cases m1;refine F ?_;rw[Zn ⟨rfl,C,m2,o.1⟩,Zn o,E]
   ·rw[Zl o,Zl];rintro⟨rfl,_,a3,a4⟩;refine o ⟨a4,?_⟩;have b1:=(H.sf i).length_le;have b2:=a3.length_le;rw[Zv,ZN];lia
end AU
end
section
namespace AU
open Classical in
noncomputable def iT(a:Wd->Option Nat)(w:Wd)(f:Nat)(x:Wd):Option Nat:=match a x with
 |some m=>Z m
 |none=>if x <:+ w then Z f else L
def dZ(h:a x=Z m):iT a w f x=Z m:=by
 unfold iT;rw[h]
def gI(h:a x=L)(b:x <:+ w):iT a w f x=Z f:=by
 unfold iT;rw[h];exact Zn b
def c7(h:iT a w f x=Z m):a x=Z m\/(m=f/\a x=L/\x <:+ w):=by
 unfold iT at h;grind
def yP{α:Type}{y t:List α}{c:α}(h:y <:+ t++[c])(d:y≠[]):∃a,y=a++[c]/\a <:+ t:=by
 rcases List.eq_nil_or_concat y with e | ⟨a,b,e⟩
 ·exact absurd e d
 ·rw[List.concat_eq_append]at e;subst e;obtain⟨e1,e2⟩:=jF h
  simp_all
section
def I.fresh(H:I L S nd wd){c:Nat}(s:h<wd.length)(hc:97<=c/\c<=122)(hn:gW (S.wy.getD h []) c=L)(hk:(W wd h).length<1000) :
  ∃B t,up1 c S.lg.length 1000 ⟨S.lg++[S.lg.getD h 0+1],S.lk++[Z 0],S.wy++[[]]⟩ (Z h)=Z (B,t)/\I (Z wd.length) B (iT nd (W wd h++[c]) wd.length) (wd++[W wd h++[c]])/\B.lk.getD wd.length L=Z 0/\B.lg.length=S.lg.length+1 ∧
   (∀m,m<wd.length->(gW (S.wy.getD m []) c).isSome->gW (B.wy.getD m []) c=gW (S.wy.getD m []) c) ∧
   (t=L->∀m,m<wd.length->W wd m <:+ W wd h->gW (S.wy.getD m []) c=L) ∧
   ∀p,t=Z p->p<wd.length/\W wd p <:+ W wd h/\(gW (S.wy.getD p []) c).isSome/\∀m,m<wd.length->W wd m <:+ W wd h->(W wd p).length<(W wd m).length->gW (S.wy.getD m []) c=L:=by
 have A:=H.len.symm;have l1:S.lk.length=wd.length:=by rw[H.wf.lk,A]
 have l2:S.wy.length=wd.length:=by rw[H.wf.wy,A]
 have Rg:0<wd.length:=by rw[H.len];exact H.wf.pos
 have G:∀m,(S.lk++[Z 0]).getD m L=if m=wd.length then Z 0 else S.lk.getD m L:=λm=>by rw[b9,l1]
 have Lm:∀m,(S.wy++[[]]).getD m []=if m=wd.length then [] else S.wy.getD m []:=λm=>by rw[b9,l2]
 have n:∀m,m<wd.length->(S.wy++[[]]).getD m []=S.wy.getD m []:=λm hm=>by rw[Lm,Zl (Zh hm)]
 obtain⟨w2,t,e1,e2,e3,e4,e5⟩:=H.Pf (c:=c) (v:=S.lg.length) 1000 ⟨S.lg++[S.lg.getD h 0+1],S.lk++[Z 0],S.wy++[[]]⟩ h s (λz=>nomatch z) hk (λm hm _=>by
   rw[G,Zl (Zh hm)])
  (by simp_all)
  (λm m' hm i f Ku q=>by
   have Q:=q;rw[n m' i,H.wy (H.top i) c]at Q;rw[n m hm,H.wy (H.top hm) c];obtain⟨r,b⟩:=Yo.mp Q;obtain⟨P,M⟩:=H.NL b (ir c f);rw[M];rfl)
 have hlen:(S.lg++[S.lg.getD h 0+1]).length=S.lg.length+1:=by rw[Zv];rfl
 have Su:=FU hc 1000 _ _ _ _ (H.wf.more (l:=S.lg.getD h 0+1) (o:=Z 0) (w:=[]) (λm hm=>by cases hm;exact H.wf.pos) (λd m hm=>by cases hm) Yb (λp N=>nomatch N)) (by lia) e1;have lw:(W wd h++[c]).length=(W wd h).length+1:=by rw[Zv];rfl
 have Wn:∀m,W (wd++[W wd h++[c]]) m=if m=wd.length then W wd h++[c] else W wd m:=λm=>b9 wd _ _ m
 have F:W (wd++[W wd h++[c]]) wd.length=W wd h++[c]:=by rw[Wn,Zn Y]
 have g:∀{m},m<wd.length->W (wd++[W wd h++[c]]) m=W wd m:=λ{m} hm=>by rw[Wn,Zl (Zh hm)]
 have dc:(wd++[W wd h++[c]]).length=wd.length+1:=by rw[Zv];rfl
 refine⟨⟨S.lg++[S.lg.getD h 0+1],S.lk++[Z 0],w2⟩,t,e1,?_,by rw[G,Zn Y],hlen,λm hm f=>?_,λho m hm f=>?_,λp N=>?_⟩
 rotate_left
 ·rw[e3 m c];rw[n m hm,Zl (λz=>by rw[z.2.2.2]at f;cases f)]
 ·have:=e4 ho m hm f;have D:=this;rw[n m hm]at D;exact D
 ·obtain⟨U,p2,p3,p4⟩:=e5 p N;have QA:=p3;rw[n p U]at QA;refine⟨U,p2,QA,λm hm f hl=>?_⟩;have:=p4 m hm f hl;have D:=this;rw[n m hm]at D;exact D
 refine⟨Su,by rw[dc];rw[hlen,A],λm hm=>?_,dZ H.z,by rw[g Rg];exact H.wz,λ{x m} q=>?_,λ{x m} q=>?_,λ{m} hm=>?_,λ{x y m} q C j=>?_,λ{x d m} q=>?_,λ{x y m} q C=>?_,?_,λ{m} h0 hm VZ=>?_,λ{x m} q d=>?_⟩
 ·rw[dc]at hm;rw[b9,A];by_cases e:m=wd.length
  ·rw[Zn e,e,F,H.lg h s,lw]
  ·rw[Zl e,g (by lia),H.lg m (by lia)]
 ·rw[dc];rcases c7 q with z | z
  ·have:=H.lt z;exact Ys this
  ·lia
 ·rcases c7 q with z | ⟨rfl,_,z⟩
  ·rw[g (H.lt z)];exact H.sf z
  ·rw[F];exact z
 ·rw[dc]at hm;by_cases e:m=wd.length
  ·rw[e,F];exact gI (by rw[← H.wy (H.top s) c];exact hn) (Z3 _)
  ·rw[g (by lia)];exact dZ (H.top (by lia))
 ·rcases c7 q with z | ⟨rfl,E,z2⟩
  ·rw[g (H.lt z)]at j;exact dZ (H.iv z C j)
  ·rw[F]at j;refine gI ?_ j;cases e:nd y with
   |none=>rfl
   |some r =>
    obtain⟨P,b⟩:=H.NL e C;rw[E]at b;cases b
 ·rcases c7 q with z | ⟨_,_,z⟩
  ·obtain⟨r,b⟩:=H.pre z;exact⟨r,dZ b⟩
  ·obtain⟨_,u⟩:=jF z;obtain⟨r,b⟩:=H.NL (H.top s) u;exact⟨r,dZ b⟩
 ·rcases c7 q with z | ⟨_,_,z⟩
  ·obtain⟨r,b⟩:=H.NL z C;exact⟨r,dZ b⟩
  ·cases e:nd x with
   |none=>exact⟨_,gI e (C.trans z)⟩
   |some r=>exact⟨r,dZ e⟩
 ·rw[G,Zl (by exact Zh Rg)];exact H.NR
 ·rw[dc]at hm;have i:m<wd.length:=by
   grind
  show ∃q,(S.lk++[Z 0]).getD m L=Z q/\_;rw[G,Zl (Zh i),dc];refine L2.ak λP_ J=>?_;obtain⟨r,r1,⟨r2,_⟩,r3,r4,r5⟩:=H.lk h0 i (λz=>nomatch z);refine J ?_;refine⟨r,r1,⟨by exact Ys r2,λz=>?_⟩,by rw[g r2,g i];exact r3,by rw[g r2,g i];exact r4,λy j hl=>?_⟩
  ·grind
  ·rw[g i]at j;rw[g r2]at hl;exact dZ (r5 y j hl)
 ·rw[e3 m d];rcases c7 q with z | ⟨rfl,E,z2⟩
  ·have hm:=H.lt z;rw[n m hm,H.wy z c,H.wy z d];cases e:nd (x++[d]) with
   |some r =>
    rw[dZ e,Zl];grind
   |none =>
    by_cases f:x++[d] <:+ W wd h++[c]
    ·refine L2.ak λP_ J=>?_;obtain⟨rfl,u⟩:=jF f;obtain⟨m',X,m2⟩:=H.RM s (λz=>nomatch z) u;rw[z]at X;cases X;refine J ?_;rw[gI e f,Zn ⟨rfl,hm,m2,e⟩,A]
    ·have:iT nd (W wd h++[c]) wd.length (x++[d])=L:=by
      unfold iT;rw[e];exact Zl f
     rw[this,Zl];rintro⟨rfl,_,a,_⟩;exact f (ir d ((H.sf z).trans a))
  ·rw[Zl (λa=>YR _ a.2.1),Lm,Zn Y];have e:nd (x++[d])=L:=by
    cases e:nd (x++[d]) with
    |none=>rfl
    |some r =>
     obtain⟨P,b⟩:=H.pre e;rw[E]at b;cases b
   have:iT nd (W wd h++[c]) wd.length (x++[d])=L:=by
    unfold iT;rw[e];refine Zl λf=>?_;obtain⟨_,u⟩:=jF f;obtain⟨r,b⟩:=H.NL (H.top s) u;rw[E]at b;cases b
   rw[this];rfl
def I.fix{f m:Nat}(H:I (Z f) S nd wd)(j:f<wd.length)(b:m<wd.length)(h:W wd m <:+ W wd f)(a:(W wd m).length<(W wd f).length)(g:∀y,y <:+ W wd f->(W wd m).length<y.length->nd y=Z f):I L ⟨S.lg,S.lk.set f (Z m),S.wy⟩ nd wd:=by
 refine⟨H.wf.link (by rw[← H.len];exact b),H.len,H.lg,H.z,H.wz,H.lt,H.sf,H.top,H.iv,H.pre,H.NL,?_,λ{n} h0 i _=>?_,H.wy⟩
 ·rw[iu,Zl (λz=>(λe=>by
  rw[e,H.wz]at a;simp at a) z.1)]
  exact H.NR
 ·show ∃q,(S.lk.set f (Z m)).getD n L=Z q/\_;rw[iu];by_cases e:f=n
  ·subst e;rw[Zn ⟨rfl,(by rw[H.wf.lk,← H.len];exact j)⟩];exact⟨m,rfl,⟨b,λz=>nomatch z⟩,h,a,g⟩
  ·rw[Zl (λz=>e z.1)];obtain⟨r,r1,⟨r2,_⟩,d⟩:=H.lk h0 i (λz=>e (Zi z).symm);exact⟨r,r1,⟨r2,λz=>nomatch z⟩,d⟩
end
end AU
end
section
namespace AU
structure RH(nd JN:Wd->Option Nat)(w:Wd):Prop where
 eq:∀{x y m n},JN x=some m->JN y=some n->(m=n↔nd x=nd y/\(x <:+ w↔y <:+ w))
section
def I.QJ(H:I fr S nd wd){n c:Nat}(o:n<wd.length)(M:Z n≠fr)(N:97<=c/\c<=122)(l:gW (S.wy.getD n []) c=Z a)(g:Z a≠fr)(i:fr≠Z wd.length)(G:(W wd n).length<1000) :
  ∃e r j IX,Oj S n c=Z (e,r)/\I fr e j IX/\r<IX.length/\Z r≠fr/\W IX r=W wd n++[c]/\(∀m,m<wd.length->W IX m=W wd m)/\wd.length<=IX.length/\IX.length<=wd.length+1 ∧
   (∀x,(∃m,j x=Z m) ↔ ∃m,nd x=Z m)/\RH nd j (W wd n++[c])/\∀x f,f≠a->nd x=Z f->j x=Z f:=by
 have hw:=H.way o l;have hold:=H.lt hw;have C:=H.sf hw;have lw:(W wd n++[c]).length=(W wd n).length+1:=by rw[Zv];rfl
 by_cases s:S.lg.getD a 0=S.lg.getD n 0+1
 ·have p:W wd a=W wd n++[c]:=by
   have:=s;rw[H.lg a hold,H.lg n o]at this;exact(C.eq_of_length (by rw[lw,this])).symm
  refine⟨S,a,nd,wd,?_,H,hold,g,p,λm _=>rfl,Zm _,YQ _,λx=>Iff.rfl,⟨λ{x y m k} d b=>?_⟩,λx f _ h=>h⟩
  ·unfold Oj;rw[l,Zq,Zn s]
  ·constructor
   ·rintro rfl;exact⟨by rw[d,b],λh=>by rw[← p]at h ⊢;exact H.all hold g d b h,λh=>by rw[← p]at h ⊢;exact H.all hold g b d h⟩
   simp_all
 ·obtain⟨e,e1,t⟩:=H.split o M N l g i s G;have B:W (wd++[W wd n++[c]]) wd.length=W wd n++[c]:=(b9 wd _ _ _).trans (Zn Y);have dc:(wd++[W wd n++[c]]).length=wd.length+1:=by rw[Zv];rfl
  have inv:∀{x m},i3 nd a ((W wd n).length+1) wd.length x=Z m->(m=wd.length/\nd x=Z a/\x.length<=(W wd n).length+1)\/nd x=Z m:=λ{x m} h=>by
   unfold i3 at h;split at h
   ·simp_all
   ·exact .inr h
  have F:∀{x},nd x=Z a->(x.length<=(W wd n).length+1↔x <:+ W wd n++[c]):=λ{x} h=>⟨λhl=>da (H.sf h) C (by rw[lw];exact hl),λu=>by have:=u.length_le;rw[lw]at this;exact this⟩
  refine⟨e,S.lg.length,_,_,e1,t,by rw[dc,← H.len];exact ZG _,by rw[← H.len];exact λz=>i z.symm,by rw[← H.len];exact B,(λm hm=>(b9 wd _ _ m).trans (Zl (Zh hm))),by lia,by exact XG dc,λx=>⟨λ⟨m,h⟩=>(inv h).elim (λz=>⟨_,z.2.1⟩) λz=>⟨_,z⟩,λ⟨m,h⟩=>?_⟩,⟨λ{x y m k} d b=>?_⟩,λx f J h=>?_⟩
  ·unfold i3;split
   ·exact⟨_,rfl⟩
   ·exact⟨m,h⟩
  ·constructor
   ·rintro rfl;have v:wd.length<(wd++[W wd n++[c]]).length:=by lia
    have A:=λh=>t.all v (λz=>i z.symm) d b h;have w:=λh=>t.all v (λz=>i z.symm) b d h;rw[B]at A w;refine⟨?_,A,w⟩;rcases inv d with⟨P,D,_⟩ | z
    ·rcases inv b with⟨_,E,_⟩ | y
     ·rw[D,E]
     ·have:=H.lt y;lia
    ·rcases inv b with⟨Q,_,_⟩ | y
     ·have:=H.lt z;lia
     ·rw[z,y]
   ·rintro⟨h,u⟩;have:i3 nd a ((W wd n).length+1) wd.length x=i3 nd a ((W wd n).length+1) wd.length y:=by
     unfold i3;rw[h];by_cases q:nd y=Z a
     ·simp_all
     simp_all
    simp_all
  ·unfold i3
   simp_all
end
section
def I.step(H:I L S nd wd)(D:h<wd.length)(hc:97<=c/\c<=122)(hk:(W wd h).length+1<1000) :
  ∃S' r t IX,hb S h c=Z (S',r)/\I L S' t IX/\r<IX.length/\W IX r=W wd h++[c]/\(∀m,m<wd.length->W IX m=W wd m)/\wd.length<=IX.length/\IX.length<=wd.length+2 ∧
   (∀x,(∃m,t x=Z m)↔(∃m,nd x=Z m)\/x <:+ W wd h++[c])/\RH nd t (W wd h++[c]):=by
 cases hg:gW (S.wy.getD h []) c with
 |some old =>
  refine L2.ak λP_ B=>?_;obtain⟨S',r,t,IX,e,H',h1,_,h2,h3,h4,h5,h6,h7,_⟩:=H.QJ D (λz=>nomatch z) hc hg (λz=>nomatch z) (λz=>nomatch z) (by exact Nat.lt_of_succ_lt hk);refine B ?_;refine⟨S',r,t,IX,?_,H',h1,h2,h3,h4,by exact WA h5,λx=>(h6 x).trans ⟨.inl,λz=>z.elim id λz=>H.NL (H.way D hg) z⟩,h7⟩;unfold hb;rw[hg];exact e
 |none =>
  have E:=H.len.symm;refine L2.ak λP_ B=>?_;obtain⟨j,o',e1,u,k0,k1,k2,k3,k4⟩:=H.fresh D hc hg (by exact Nat.lt_of_succ_lt hk);refine B ?_;have X:W (wd++[W wd h++[c]]) wd.length=W wd h++[c]:=(b9 wd _ _ _).trans (Zn Y);have U:∀m,m<wd.length->W (wd++[W wd h++[c]]) m=W wd m:=λm hm=>(b9 wd _ _ m).trans (Zl (Zh hm));have dc:(wd++[W wd h++[c]]).length=wd.length+1:=by rw[Zv];rfl
  have lw:(W wd h++[c]).length=(W wd h).length+1:=by rw[Zv];rfl
  have ex:∀x,(∃m,iT nd (W wd h++[c]) wd.length x=Z m)↔(∃m,nd x=Z m)\/x <:+ W wd h++[c]:=λx=>⟨λ⟨m,q⟩=>(c7 q).elim (λz=>.inl ⟨_,z⟩) λz=>.inr z.2.2,λq=>by
   cases e:nd x with
   |some m=>exact⟨m,dZ e⟩
   |none=>exact q.elim (λ⟨m,z⟩=>by rw[e]at z;cases z) λz=>⟨_,gI e z⟩⟩
  have same:∀{x y m n},iT nd (W wd h++[c]) wd.length x=Z m->iT nd (W wd h++[c]) wd.length y=Z n->(m=n↔nd x=nd y):=λ{x y m n} o g=>by
   rcases c7 o with z | ⟨z1,z2,_⟩
   ·rcases c7 g with i | ⟨y1,y2,_⟩
    ·simp_all
    ·have:=H.lt z;grind
   ·rcases c7 g with i | ⟨y1,y2,_⟩
    ·have:=H.lt i;grind
    ·exact⟨λ_=>by rw[z2,y2],λ_=>by rw[z1,y1]⟩
  have Od:∀{y},y <:+ W wd h++[c]->y≠[]->∀{q},nd y=Z q->∃i m,y=i++[c]/\i <:+ W wd h/\nd i=Z m/\m<wd.length/\W wd m <:+ W wd h/\(gW (S.wy.getD m []) c).isSome:=λ{y} d JP {q} N=>by
   obtain⟨i,rfl,VN⟩:=yP d JP;obtain⟨m,A,m2⟩:=H.RM D (λz=>nomatch z) VN;exact⟨i,m,rfl,VN,A,H.lt A,m2,by rw[H.wy A c,N];rfl⟩
  unfold hb;rw[hg,Zl (by simp),e1];cases o' with
  |none =>
   have none_:∀{y},y <:+ W wd h++[c]->y≠[]->nd y=L:=λ{y} d JP=>by
    cases e:nd y with
    |none=>rfl
    |some q =>
     obtain⟨i,m,_,_,_,m3,m4,w⟩:=Od d JP e;rw[(k3 Y) m m3 m4]at w;cases w
   have H3:=u.fix (m:=0) (by lia) (by lia) (by rw[u.wz];exact X1) (by rw[u.wz,X,lw];exact Wf _) (λy d hl=>by
    rw[X]at d;rw[u.wz]at hl;exact gI (none_ d (λe=>by rw[e]at hl;cases hl)) d)
   have eS:(⟨j.lg,j.lk.set wd.length (Z 0),j.wy⟩:St)=j:=by
    have hl:wd.length<j.lk.length:=by rw[u.wf.lk,← u.len,dc];exact ZG _
    have:j.lk.set wd.length (Z 0)=j.lk:=by
     rw[Zr,Zs hl,Y6]at k0;rw[← k0];exact WV hl
    rw[this]
   rw[eS]at H3;refine⟨j,S.lg.length,_,_,rfl,H3,by rw[dc,E];exact ZG _,by rw[E];exact X,U,by lia,by lia,ex,⟨λ{x y m n} o g=>?_⟩⟩;rw[same o g];refine⟨λe=>⟨e,?_⟩,λe=>e.1⟩;have key:∀{x y m n},iT nd (W wd h++[c]) wd.length x=Z m->iT nd (W wd h++[c]) wd.length y=Z n->nd x=nd y->x <:+ W wd h++[c]->y <:+ W wd h++[c]:=λ{x y m n} o g e hx=>by
    rcases c7 g with z | z
    ·rw[z]at e;by_cases Pu:x=[]
     ·subst Pu;rw[H.z]at e;cases e;rw[H.zero z];exact X1
     ·rw[none_ hx Pu]at e;cases e
    ·exact z.2.2
   exact⟨key o g e,key g o e.symm⟩
  |some p =>
   refine L2.ak λP_ B=>?_;obtain⟨v,J,p3,p4⟩:=k4 p Y;obtain⟨old,P⟩:=Yo.mp p3;have ho2:gW (j.wy.getD p []) c=Z old:=by rw[k2 p v p3];exact P
   have VF:=H.way v P;have hold:=H.lt VF;have ph:(W wd p).length<(W wd h).length:=by
    rcases Nat.lt_or_eq_of_le J.length_le with l | l
    ·exact l
    ·have:=H.inj v D (J.eq_of_length l);rw[this,hg]at P;cases P
   obtain⟨S3,r,t,IX,f1,H3,f2,f2',Q,f4,f5,f6,f7,f8,f9⟩:=u.QJ (n:=p) (c:=c) (by lia) (λz=>by have:=Zi z;lia) hc ho2 (λz=>by have:=Zi z;lia) (λz=>by have:=Zi z;lia) (by rw[U p v];lia);refine B ?_;rw[U p v]at Q f8;have Tf:(W wd p++[c]).length=(W wd p).length+1:=by rw[Zv];rfl
   have Sk:W IX wd.length=W wd h++[c]:=by rw[f4 _ (by lia),X]
   have none_:∀{y},y <:+ W wd h++[c]->(W wd p).length+1<y.length->nd y=L:=λ{y} d hl=>by
    cases e:nd y with
    |none=>rfl
    |some q =>
     obtain⟨i,m,rfl,A,m2,m3,m4,w⟩:=Od d (λe=>by rw[e]at hl;cases hl) e;have l1:=(H.sf m2).length_le;rw[Zv,ZN]at hl;rw[p4 m m3 m4 (by lia)]at w;cases w
   refine⟨⟨S3.lg,S3.lk.set S.lg.length (Z r),S3.wy⟩,S.lg.length,t,IX,?_,by rw[E];exact(H3.fix (f:=wd.length) (m:=r) (by lia) f2 (by rw[Q,Sk];exact ir c J) (by rw[Q,Sk,Tf,lw];exact Nat.succ_lt_succ ph) (λy d hl=>by
    rw[Sk]at d;rw[Q,Tf]at hl;exact f9 y wd.length (by exact Xy hold) (gI (none_ d hl) d))),by rw[E];lia,by rw[E];exact Sk,λm hm=>by rw[f4 m (by lia),U m hm],by lia,by lia,λx=>(f7 x).trans (ex x),⟨λ{x y m n} o g=>?_⟩⟩
   ·show (Oj j p c).map _=_;rw[f1];rfl
   ·rw[f8.eq o g];obtain⟨A,G⟩:=(f7 x).mp ⟨m,o⟩;obtain⟨n1,F⟩:=(f7 y).mp ⟨n,g⟩;have e1:iT nd (W wd h++[c]) wd.length x=iT nd (W wd h++[c]) wd.length y↔nd x=nd y:=by
     rw[G,F];exact⟨λe=>(same G F).mp (Zi e),λe=>by rw[(same G F).mpr e]⟩
    rw[e1];have sw:=ir c J;have M:∀{z q},nd z=Z q->(z <:+ W wd h++[c]↔z <:+ W wd p++[c]):=λ{z q} C=>⟨λa=>da a sw (by
     rw[Tf];refine ZI λb=>?_;rw[none_ a b]at C;cases C),λa=>a.trans sw⟩
    have un:∀{z q},nd z=L->iT nd (W wd h++[c]) wd.length z=Z q->z <:+ W wd h++[c]/\¬z <:+ W wd p++[c]:=λ{z q} C a=>by
     rcases c7 a with b | b
     ·rw[C]at b;cases b
     ·refine⟨b.2.2,λa=>?_⟩;obtain⟨q',N⟩:=H.NL VF a;rw[C]at N;cases N
    refine⟨λ⟨a,b⟩=>⟨a,?_⟩,λ⟨a,b⟩=>⟨a,?_⟩⟩
    ·cases s:nd x with
     |some q=>rw[M s,M (by rw[← a,s])];exact b
     |none =>
      exact⟨λ_=>(un (show nd y=L by rw[← a,s]) F).1,λ_=>(un s G).1⟩
    ·cases s:nd x with
     |some q=>rw[← M s,← M (by rw[← a,s])];exact b
     |none =>
      exact⟨λz=>absurd z (un s G).2,λz=>absurd z (un (show nd y=L by rw[← a,s]) F).2⟩
end
structure K(P:Wd->Prop)(S:St)(nd:Wd->Option Nat)(wd:List Wd):Prop where
 i:I none S nd wd
 nil:P []
 some:∀x,(∃m,nd x=some m) ↔ ∃p,P p/\x <:+ p
 eq:∀{x y m n},nd x=.some m->nd y=.some n->(m=n ↔ ∀p,P p->(x <:+ p↔y <:+ p))
def K.congr(H:K P S b a)(h:∀p,P p↔Q p):K Q S b a:=by
 have:P=Q:=funext λp=>propext (h p);rw[← this];exact H
noncomputable def Td(x:Wd):Option Nat:=if x=[] then Z 0 else L
def fY(h:Td x=Z n):x=[]/\n=0:=by
 unfold Td at h;grind
def K0:K (λp=>p=[]) S0 Td [[]]:=by
 refine⟨⟨Ak,rfl,λn d=>?_,rfl,rfl,λ{x n} h=>?_,λ{x n} h=>?_,λ{n} d=>?_,λ{x y n} h b a=>?_,λ{x c n} h=>?_,λ{x y n} h b=>?_,rfl,λ{n} b a=>?_,λ{x n} h c=>?_⟩,rfl,λx=>?_,λ{x y m n} b a=>?_⟩
 ·have:n=0:=Nat.lt_one_iff.mp d;subst this;rfl
 ·rw[(fY h).2];exact Nat.one_pos
 ·rw[(fY h).1];exact X1
 ·have:n=0:=Nat.lt_one_iff.mp d;subst this;rfl
 ·have e:=(fY h).2
  simp_all
 ·have:=(fY h).1;exact absurd this (by simp)
 ·have e:=(fY h).1;grind
 ·have:n<1:=a;lia
 ·obtain⟨rfl,rfl⟩:=(fY h)
  rfl
 ·constructor
  ·rintro⟨m,h⟩;exact⟨[],rfl,by rw[(fY h).1];exact X1⟩
  ·rintro⟨p,rfl,h⟩;have:x=[]:=YV.mp h;subst this;exact⟨0,rfl⟩
 ·obtain⟨rfl,rfl⟩:=fY b;obtain⟨rfl,rfl⟩:=fY a
  simp_all
section
theorem K.step(H:K P S nd wd)(A:h<wd.length)(B:97<=c/\c<=122)(w:(W wd h).length+1<1000) :
  ∃g r j IX,hb S h c=.some (g,r)/\K (λp=>P p\/p=W wd h++[c]) g j IX/\r<IX.length/\W IX r=W wd h++[c]/\(∀m,m<wd.length->W IX m=W wd m)/\wd.length<=IX.length/\IX.length<=wd.length+2:=by
 refine L2.ak λN u=>?_;obtain⟨g,r,j,IX,e,M,J,G,F,E,D,o,C⟩:=H.i.step A B w;refine u ?_;refine⟨g,r,j,IX,e,⟨M,.inl H.nil,λx=>?_,λ{x y m n} t s=>?_⟩,J,G,F,E,D⟩
 ·rw[o,H.some]
  simp_all
 ·rw[C.eq t s];have un:∀{z q},j z=.some q->nd z=L->z <:+ W wd h++[c]/\∀p,P p->¬z <:+ p:=λ{z q} a b=>⟨((o z).mp ⟨q,a⟩).elim (λ⟨m,x⟩=>by rw[b]at x;cases x) id,λp d v=>by
   obtain⟨m,x⟩:=(H.some z).mpr ⟨p,d,v⟩;rw[b]at x;cases x⟩
  have old:nd x=nd y ↔ ∀p,P p->(x <:+ p↔y <:+ p):=by
   cases ex:nd x with
   |some a =>
    cases f:nd y with
    |some b=>exact⟨λe=>(H.eq ex f).mp (Zi e),λe=>by rw[(H.eq ex f).mpr e]⟩
    |none =>
     refine⟨λe=>(nomatch e),λe=>?_⟩;obtain⟨p,d,l⟩:=(H.some x).mp ⟨a,ex⟩;exact absurd ((e p d).mp l) ((un s f).2 p d)
   |none =>
    cases f:nd y with
    |some b =>
     refine⟨λe=>(nomatch e),λe=>?_⟩;obtain⟨p,d,l⟩:=(H.some y).mp ⟨b,f⟩;exact absurd ((e p d).mpr l) ((un t ex).2 p d)
    |none=>simp_all
  rw[old];constructor
  ·rintro⟨a,b⟩ p (d | rfl)
   ·exact a p d
   ·exact b
  simp_all
end
def K.grow:∀(w:Vx){P:Wd->Prop}{S:St}{nd:Wd->Option Nat}{b:List Wd}(H:K P S nd b){h:Nat},h<b.length->P (W b h)->(∀c∈w,97<=c/\c<=122)->(W b h).length+w.length<1000 →
  ∃l r D IX,hg S h w=.some (l,r)/\K (λp=>P p\/∃v,v <+: w/\p=W b h++v) l D IX/\r<IX.length/\W IX r=W b h++w/\(∀m,m<b.length->W IX m=W b m)/\b.length<=IX.length/\IX.length<=b.length+2*w.length:=by
 intro w
 induction w with
 |nil =>
  intro P S nd b H h f g hw i;refine⟨S,h,nd,b,rfl,H.congr λp=>⟨.inl,?_⟩,f,(ZQ _).symm,λ_ _=>rfl,Zm _,Zm _⟩;rintro (a | ⟨v,a,rfl⟩)
  ·exact a
  simp_all
 |cons c w q =>
  intro P S nd b H h f g hw i;rw[Ze]at i;refine L2.ak λN o=>?_;obtain⟨M,r1,Q,n,e1,F,z,e,y,j,J⟩:=H.step f (hw c Zu) (by lia);obtain⟨B,r2,C,A,e2,E,x,u,t,s,G⟩:=q F z (.inr e) (λd hd=>hw d (Zw _ hd)) (by rw[e,Zv,ZN];lia);refine o ?_;refine⟨B,r2,C,A,?_,E.congr λp=>?_,x,?_,λm hm=>by rw[t m (by exact ZS hm j),y m hm],by exact ZP j s,by rw[Ze];lia⟩
  ·show (hb S h c).bind _=_;rw[e1];exact e2
  ·rw[e];constructor
   ·rintro ((a | rfl) | ⟨v,a,rfl⟩)
    ·exact .inl a
    ·simp_all
    simp_all
   ·rintro (a | ⟨v,a,rfl⟩)
    ·exact .inl (.inl a)
    ·cases v with
     |nil=>rw[ZQ];exact .inl (.inl g)
     |cons d v =>
      simp_all
  ·rw[u,e,Z0];rfl
def mB(S:St):List Wd->Option St
 |[]=>Z S
 |t :: b=>(hg S 0 t).bind λz=>mB z.1 b
def K.book:∀(b:List Wd){P:Wd->Prop}{S:St}{nd:Wd->Option Nat}{a:List Wd}(H:K P S nd a),(∀t∈b,∀c∈t,97<=c/\c<=122)->(∀t∈b,t.length<1000) →
  ∃f r IX,mB S b=.some f/\K (λp=>P p\/∃t∈b,p <+: t) f r IX/\a.length<=IX.length/\IX.length<=a.length+2*(b.map List.length).sum:=by
 intro b
 induction b with
 |nil =>
  intro P S nd a H _ _;refine⟨S,nd,a,rfl,H.congr λp=>⟨.inl,?_⟩,Zm _,YI _ _⟩;grind
 |cons t b j =>
  intro P S nd a H e hl;refine L2.ak λC h=>?_;obtain⟨B,r1,D,g,e1,u,A,y,x,m,w⟩:=H.grow t (H.i.lt H.i.z) (by rw[H.i.wz];exact H.nil) (e t Zu) (by rw[H.i.wz];simp_all);obtain⟨o,q,n,e2,s,l,v⟩:=j u (λt d=>e t (Zw _ d)) (λt d=>hl t (Zw _ d));refine h ?_;refine⟨o,q,n,?_,s.congr λp=>?_,by exact ZP m l,by grind⟩
  ·show (hg S 0 t).bind _=_;rw[e1];exact e2
  ·rw[H.i.wz];grind
noncomputable def Hd(b:List Wd)(p:Wd):Prop:=p=[]\/∃t∈b,p <+: t
def K.of(b:List Wd)(f:∀t∈b,∀c∈t,97<=c/\c<=122)(d:∀t∈b,t.length<1000):∃S nd a,mB S0 b=.some S/\K (Hd b) S nd a/\a.length<=1+2*(b.map List.length).sum:=by
 obtain⟨S,nd,a,e,H,_,l⟩:=K0.book b f d;exact⟨S,nd,a,e,H,l⟩
def sk(w:List (Nat×Nat)):Vx:=(List.range' 97 26).filter λc=>(gW w c).isSome
def visit(w:List (Nat×Nat)):Vx->Vx->Vx
 |[],met=>met
 |c :: r,met=>visit w r (if (gW w c).getD 0∈met then met else met++[(gW w c).getD 0])
def Mo(S:St):Nat->Vx->Nat->Option (Vx)
 |k,met,d=>if d<met.length then (match k with
  |0=>L
  |k+1=>Mo S k (visit (S.wy.getD (met.getD d 0) []) (sk (S.wy.getD (met.getD d 0) [])) met) (d+1)) else Z met
def steps(S:St)(a:Vx)(n:Nat):List (Nat×Nat):=(sk (S.wy.getD n [])).map λc=>(c,a.idxOf ((gW (S.wy.getD n []) c).getD 0))
noncomputable abbrev Row:=Nat×Nat×Option Nat×List (Nat×Nat)
def row(S:St)(a:Vx)(n:Nat):Row:=match S.lk.getD n L with
 |none=>(0,0,L,steps S a n)
 |some l=>(S.lg.getD l 0+1,S.lg.getD n 0,Z (a.idxOf l),steps S a n)
def tab(S:St)(a:Vx):List Row:=a.map (row S a)
section
def l8{w:List (Nat×Nat)}{c:Nat}(h:c∈sk w):∃m,gW w c=Z m:=Yo.mp (Yp.mp h).2
theorem nY(hw:∀c m,gW w c=Z m->m<N):∀(r met:Vx),(∀c∈r,∃m,gW w c=Z m)->(∀x∈met,x<N)->∀x∈visit w r met,x<N
 |[],met,_,hm=>hm
 |c :: r,met,a,hm=>by
  refine nY hw r _ (λd hd=>a d (Zw _ hd)) ?_;obtain⟨m,e⟩:=a c Zu;rw[e,Y6];split
  ·exact hm
  ·intro x b;rcases ZU.mp b with h | h
   ·exact hm x h
   ·rw[ZZ.mp h];exact hw c m e
def getD_mem{l:Vx}(h:d<l.length):l.getD d 0∈l:=by
 simp_all
end
theorem lX{w:List (Nat×Nat)}:∀(r met:Vx),∃l,visit w r met=met++l
 |[],met=>⟨[],(ZQ _).symm⟩
 |c :: r,met=>by
  obtain⟨l,e⟩:=lX (w:=w) r (if (gW w c).getD 0∈met then met else met++[(gW w c).getD 0]);show ∃l,visit w r _=_;rw[e];split
  ·exact⟨l,rfl⟩
  simp_all
theorem oZ{w:List (Nat×Nat)}:∀(r met:Vx),met.Nodup->(visit w r met).Nodup
 |[],met,h=>h
 |c :: r,met,h=>by
  refine oZ (w:=w) r _ ?_;split
  ·exact h
  ·rename_i q;rw[ZR];grind
theorem pO{w:List (Nat×Nat)}:∀(r met:Vx),∀c∈r,(gW w c).getD 0∈visit w r met
 |d :: r,met,c,a=>by
  rcases Zk.mp a with rfl | a
  ·obtain⟨l,e⟩:=lX (w:=w) r (if (gW w c).getD 0∈met then met else met++[(gW w c).getD 0]);show _∈visit w r _;grind
  ·exact pO r _ c a
def y0(b:∀p∈w,97<=p.1/\p.1<=122)(h:gW w c=Z m):c∈sk w:=by
 refine Yp.mpr ⟨?_,by rw[h];rfl⟩;obtain⟨p,a,_⟩:=Zt.mp h;grind
def EO(j:WF S):∀(k:Nat)(met:Vx)(d:Nat),met.Nodup->(∀x∈met,x<S.lg.length)->d<=met.length->S.lg.length<=k+d->(∀i,i<d->∀c m,gW (S.wy.getD (met.getD i 0) []) c=Z m->m∈met) →
  ∃l,Mo S k met d=Z (met++l)/\(met++l).Nodup/\(∀x∈met++l,x<S.lg.length)/\∀n∈met++l,∀c m,gW (S.wy.getD n []) c=Z m->m∈met++l:=by
 intro k;have fin:∀(met:Vx)(d:Nat),¬d<met.length->d<=met.length->(∀i,i<d->∀c m,gW (S.wy.getD (met.getD i 0) []) c=Z m->m∈met)->∀n∈met,∀c m,gW (S.wy.getD n []) c=Z m->m∈met:=by
  intro met d f b h n s c m e;obtain⟨i,u,q⟩:=List.mem_iff_getElem.mp s;refine h i (by lia) c m ?_
  simp_all
 induction k with
 |zero =>
  intro met d nd lt hd t h;have hl:met.length<=S.lg.length:=by
   have:=sub_len met (List.range S.lg.length) nd λx r=>ZJ.mpr (lt x r)
   simp_all
  have a:¬d<met.length:=by lia
  refine⟨[],?_,?_⟩
  ·unfold Mo
   simp_all
  ·rw[ZQ];exact⟨nd,lt,fin met d a hd h⟩
 |succ k p =>
  intro met d nd lt hd t h;by_cases a:d<met.length
  ·obtain⟨o,e1⟩:=lX (sk (S.wy.getD (met.getD d 0) [])) met;obtain⟨l,e,f,b,g⟩:=p (visit (S.wy.getD (met.getD d 0) []) (sk (S.wy.getD (met.getD d 0) [])) met) (d+1) (oZ _ _ nd) (nY (λc m e=>j.on _ c m e) _ _ (λc v=>l8 v) lt) (by rw[e1,Zv];lia) (by lia) (λi u c m e=>by
    have y:(visit (S.wy.getD (met.getD d 0) []) (sk (S.wy.getD (met.getD d 0) [])) met).getD i 0=met.getD i 0:=by
     grind
    rw[y]at e;by_cases q:i=d
    ·subst q;have:=pO (w:=S.wy.getD (met.getD i 0) []) (sk (S.wy.getD (met.getD i 0) [])) met c (y0 (j.P2 _).2 e);rw[e]at this;exact this
    ·rw[e1];exact Xh _ (h i (by lia) c m e))
   rw[e1,Z0]at f b g;refine⟨o++l,?_,f,b,g⟩;unfold Mo
   simp_all
  ·refine⟨[],?_,?_⟩
   ·unfold Mo;rw[Zl a,ZQ]
   ·rw[ZQ];exact⟨nd,lt,fin met d a hd h⟩
def BF{α:Type}{p:List α->Prop}(h0:p [])(h1:∀l a,p l->p (l++[a]))(l:List α):p l:=by
 have:∀l:List α,p l.reverse:=by
  intro l
  induction l with
  |nil=>exact h0
  |cons a l ih=>simp_all
 rw[← YO l];exact this _
def K.met{S:St}(H:K P S nd wd){k:Nat}(hk:wd.length<=k):∃l,Mo S k [0] 0=Z (0 :: l)/\(0 :: l).Nodup/\(∀x,x∈0 :: l↔x<wd.length)/\(0 :: l).length=wd.length:=by
 have L:=H.i.len.symm;obtain⟨l,e,h1,h2,h3⟩:=EO H.i.wf k [0] 0 (by simp) (λx hx=>by rw[ZZ.mp hx];exact H.i.wf.pos) (Yw _) (by lia) (λi hi=>absurd hi (Nat.not_lt_zero _));have h0:∀(x:Wd) n,nd x=Z n->n∈0 :: l:=by
  intro x
  induction x using BF with
  |h0=>intro n e;rw[H.i.z]at e;simp_all
  |h1 x c ih =>
   intro n e;obtain⟨m,hm⟩:=H.i.pre e;exact h3 m (ih m hm) c n (by rw[H.i.wy hm];exact e)
 have hx:∀x,x∈0 :: l↔x<wd.length:=λx=>⟨λz=>by rw[← L];exact h2 x z,λz=>h0 _ x (H.i.top z)⟩
 refine⟨l,e,h1,hx,Nat.le_antisymm ?_ ?_⟩
 ·have:=sub_len (0 :: l) (List.range wd.length) h1 λx z=>ZJ.mpr ((hx x).mp z)
  simp_all
 ·have:=sub_len (List.range wd.length) (0 :: l) W7 λx z=>(hx x).mpr (ZJ.mp z)
  simp_all
end AU
end
section
namespace T56
open VS AU
def Da(w:List (Nat×Nat))(c:Nat):c∈w.map (·.1)↔(gW w c).isSome=O:=by
 rw[← FH,XB,Za];exact⟨λ⟨p,b,a⟩=>⟨p,b,by rw[a];exact beq_self_eq_true c⟩,λ⟨p,b,a⟩=>⟨p,b,by simpa using a⟩⟩
def vw{w:List (Nat×Nat)}(a:(w.map (·.1)).Nodup)(b:∀p∈w,97<=p.1/\p.1<=122):(sk w).Perm (w.map (·.1)):=by
 refine(X9 ?_ a).mpr λc=>?_
 ·exact XO X3 List.nodup_range'
 ·rw[Da];constructor
  ·intro h;exact(Yp.mp h).2
  ·intro h;obtain⟨m,e⟩:=Yo.mp h;exact y0 b e
def zQ{w:List (Nat×Nat)}(e:(w.map (·.1)).Nodup)(d:∀p∈w,97<=p.1/\p.1<=122):ia [(m,Jk w)]=Z (.fr,.lst ((sk w).map λc=>T.str [c])):=by
 show ((strs? ((w.map λp=>(T.str [p.1],T.int (p.2:Int))).map (·.1))).bind _)=_;have e1:(w.map λp=>(T.str [p.1],T.int (p.2:Int))).map (·.1)=(w.map (·.1)).map λc=>T.str [c]:=by
  rw[ZO,ZO];rfl
 rw[e1,strs_map (λc=>[c]),Zq,Zn]
 ·have:(sk w).map (λc=>[c])=eQ ((w.map (·.1)).map λc=>[c]):=by
   refine qc ((vw e d).map _) ?_;rw[YA];refine List.Pairwise.imp ?_ (List.Pairwise.filter _ (List.pairwise_lt_range'));intro a b j h;rcases WU.mp h with h | ⟨_,h⟩
   ·lia
   ·exact absurd h (List.not_lt_nil _)
  rw[← this,ZO];rfl
 ·refine⟨?_,ZF.mpr ?_⟩
  ·rw[Zy,← (vw e d).length_eq];have:(sk w).length<=(List.range' 97 26).length:=Yc _ _;rw[WE]at this;lia
  intro s f;obtain⟨c,i,rfl⟩:=Za.mp f;obtain⟨p,g,rfl⟩:=Za.mp i;have:=d p g;show (decide (1<=fN)&&(decide (p.1<1114112)&&O))=O;rw[decide_eq_true (show p.1<1114112 by lia)];rfl
noncomputable def nE:Nat->Vx->List (T×T)
 |_,[]=>[]
 |k,n :: r=>(T.int (n:Int),T.int (k:Int)) :: nE (k+1) r
theorem Aq:∀(met:Vx)(k:Nat),(nE k met).length=met.length
 |[],_=>rfl
 |_ :: r,k=>by rw[nE,Ze,Ze,Aq r]
theorem qx:∀(met:Vx)(k:Nat),(nE k met).map (·.1)=met.map λ(n:Nat)=>T.int (n:Int)
 |[],_=>rfl
 |_ :: r,k=>by rw[nE,Zj,Zj,qx r]
theorem AV:∀(met:Vx)(k n:Nat),nE k (met++[n])=nE k met++[(T.int (n:Int),T.int ((k+met.length:Nat):Int))]
 |[],k,n=>rfl
 |m :: r,k,n=>by
  rw[XC,nE,nE,AV r (k+1) n,Ze,XC];rw[show k+1+r.length=k+(r.length+1) by lia]
def Iw(a b:Nat):eqT (.int (a:Int)) (.int (b:Int))=(a==b):=by
 simp only[eqT];by_cases h:a=b
 ·simp[h]
 ·rw[beq_eq_false_iff_ne.mpr h,beq_eq_false_iff_ne.mpr (by lia)]
theorem rC:∀(met:Vx)(k n:Nat),eX (nE k met) (.int (n:Int))=if n∈met then Z (T.int ((k+met.idxOf n:Nat):Int)) else L
 |[],_,_=>rfl
 |m :: r,k,n=>by
  show ((((T.int (m:Int),T.int (k:Int)) :: nE (k+1) r).find? λp=>eqT p.1 (.int (n:Int))).map (·.2))=_;rw[Z6];simp only[Iw];by_cases h:m=n
  ·subst h;simp[List.idxOf_cons]
  ·have hb:=beq_eq_false_iff_ne.mpr h;have a:=rC r (k+1) n;unfold eX at a;simp only[hb];rw[a,List.idxOf_cons,hb];by_cases q:n∈r
   ·rw[Zn q,Zn (Zw _ q)];show Z (T.int ((k+1+r.idxOf n:Nat):Int))=Z (T.int ((k+(r.idxOf n+1):Nat):Int));rw[show k+1+r.idxOf n=k+(r.idxOf n+1) by lia]
   ·rw[Zl q,Zl (λz=>(Zk.mp z).elim (λe=>h e.symm) q)]
def DK(a:Vx)(n:Nat)(h:n∉a):dput (nE 0 a) (.int (n:Int)) (.int (a.length:Int))=nE 0 (a++[n]):=by
 unfold dput;rw[Zl,AV]
 ·rw[XH]
 ·intro z;obtain⟨p,b,e⟩:=XB.mp z;have:(eX (nE 0 a) (.int (n:Int))).isSome=O:=by
   unfold eX;rw[YB,List.find?_isSome];exact⟨p,b,e⟩
  rw[rC,Zl h]at this;cases this
def nT(a:Vx):T:=.dct 0 (nE 0 a)
noncomputable def mT(a:Vx):T:=.lst (a.map λ(n:Nat)=>T.int (n:Int))
def Dw{n:Nat}(h:a U=Z (m,nT d))(he:e U=Z (k,.int (n:Int))):e2 dI e a U=Z (.fr,.bl (decide (n∉d))):=e2v he h (by
 show (match (if O=O then Z (Md.fr,T.bl (eX (nE 0 d) (.int (n:Int))).isSome) else L) with | some (_,.bl b)=>some (Md.fr,T.bl (!b)) | _=>none)=_;rw[Zn Y,rC];by_cases q:n∈d
 ·rw[Zn q,ZV (λz=>z q)];rfl
 ·rw[Zl q,decide_eq_true q];rfl)
section
theorem yn{d:Nat}:∀(r met:Vx)(z:Vu),(∀c∈r,∃m,gW w c=Z m)->met.length+r.length<16777216->∃b,forL (aS 5) dq (r.map λc=>T.str [c]) [a,oc (nT met),oc (mT met),Q0 (d:Int),pc (Jk w),z]=Z (.nx [a,oc (nT (visit w r met)),oc (mT (visit w r met)),Q0 (d:Int),pc (Jk w),b])
 |[],met,z,_,_=>⟨z,rfl⟩
 |c :: r,met,z,g,hl=>by
  obtain⟨m,e⟩:=g c Zu;rw[Ze]at hl;by_cases q:m∈met
  ·obtain⟨b,f⟩:=yn r met (Q2 ([c])) (λd hd=>g d (Zw _ hd)) (by lia);refine⟨b,?_⟩;have ev:visit w (c :: r) met=visit w r met:=by
    show visit w r (if (gW w c).getD 0∈met then met else met++[(gW w c).getD 0])=_;rw[e,Y6,Zn q]
   rw[ev,Zj];refine(dH Y ?_).trans f;refine(lb (m:=.fr) ?_).trans Y;refine(Dw Y (uH Y Y e)).trans ?_;rw[ZV (λz=>z q)]
  ·obtain⟨b,f⟩:=yn r (met++[m]) (Q2 ([c])) (λd hd=>g d (Zw _ hd)) (by rw[Zv,ZN];lia);refine⟨b,?_⟩;have ev:visit w (c :: r) met=visit w r (met++[m]):=by
    show visit w r (if (gW w c).getD 0∈met then met else met++[(gW w c).getD 0])=_;rw[e,Y6,Zl q]
   rw[ev,Zj];refine(dH Y ?_).trans f;refine(oi (m:=.fr) ?_).trans ?_
   ·refine(Dw Y (uH Y Y e)).trans ?_;rw[decide_eq_true q]
   ·have i:∀nn h:Vu,e2 Ks (aa 4) (aa 5) [a,nn,h,Q0 (d:Int),pc (Jk w),Q2 ([c])]=Z (.fr,.int (m:Int)):=λnn h=>uH Y Y e;have j:pd 1 (e2 Ks (aa 4) (aa 5)) (eN bE (ae (aa 2) ah)) [a,oc (nT met),oc (mT met),Q0 (d:Int),pc (Jk w),Q2 ([c])]=Z (.nx [a,oc (nT (met++[m])),oc (mT met),Q0 (d:Int),pc (Jk w),Q2 ([c])]):=by
     unfold pd;rw[(eA (xv (x:=(.bo,mT met)) Y Y) (by
      show Z (Md.fr,T.int (((met.map λ(n:Nat)=>T.int (n:Int)).length:Nat):Int))=_;rw[Zy])),Zq]
     show ((e2 Ks (aa 4) (aa 5) [a,oc (nT met),oc (mT met),Q0 (d:Int),pc (Jk w),Q2 ([c])]).bind _)=_;rw[i,Zq];rw[Zn ⟨rfl,rfl,by rw[(Aq met 0)];show met.length<16777216;lia⟩,DK met m q];rfl
    refine(av j).trans ?_;refine(oY Y (i _ _) (by rw[Zy];lia)).trans ?_;rw[show (met.map λ(n:Nat)=>T.int (n:Int))++[.int (m:Int)]=(met++[m]).map λ(n:Nat)=>T.int (n:Int) from by rw[ZD];rfl];rfl
end
def u4(w:List (Nat×Nat)):(sk w).length<=26:=by
 refine ZP (Yc _ _) ?_;rw[WE];exact Zm _
def CA{S:St}{a:Vx}(b:a.Nodup)(d:∀x∈a,x<S.lg.length):a.length<=S.lg.length:=by
 have:=sub_len a (List.range S.lg.length) b λx e=>ZJ.mpr (d x e)
 rwa [ZX]at this
def Gk(p:WF S)(A:S.lg.length<=100001):∀(k:Nat)(met:Vx)(d:Nat)(f:Vx),met.Nodup->(∀x∈met,x<S.lg.length)->Mo S k met d=Z f->∀N,k<N->∀g a:Vu,∃o j i,
  dP (e2 oLt (aa 3) (eN bE (ae (aa 2) ah))) dz N [pc (xb S R),oc (nT met),oc (mT met),Q0 ((d:Nat):Int),g,a] =
   Z (.nx [pc (xb S R),oc (nT f),oc (mT f),pc o,j,i]):=by
 have cond:∀(met:Vx)(d:Nat)(g a:Vu),e2 oLt (aa 3) (eN bE (ae (aa 2) ah)) [pc (xb S R),oc (nT met),oc (mT met),Q0 ((d:Nat):Int),g,a]=Z (.fr,.bl (decide (d<met.length))):=λmet d g a =>
  e2v Y (eA (xv Y Y) (by
   show Z (Md.fr,T.int (((met.map λ(n:Nat)=>T.int (n:Int)).length:Nat):Int))=_;rw[Zy])) (by
   show Z (Md.fr,T.bl (decide ((d:Int)<(met.length:Int))))=_;rw[show decide ((d:Int)<(met.length:Int))=decide (d<met.length) from decide_eq_decide.mpr (by lia)])
 intro k
 induction k with
 |zero =>
  intro met d f nd lt e N hN g a;obtain⟨N,rfl⟩:∃f,N=f+1:=⟨N-1,by lia⟩
  unfold Mo at e;split at e
  ·cases e
  ·rename_i h;cases e;exact⟨_,g,a,eT ((cond _ _ _ _).trans (by rw[ZV h]))⟩
 |succ k v =>
  intro met d f nd lt e N hN g a;obtain⟨N,rfl⟩:∃f,N=f+1:=⟨N-1,by lia⟩
  unfold Mo at e;split at e
  ·rename_i h;have w:met.getD d 0<S.wy.length:=by rw[p.wy];exact(lt _ (getD_mem h))
   have z:=CA nd lt;have y:=u4 (S.wy.getD (met.getD d 0) []);obtain⟨r,u⟩:=yn (sk (S.wy.getD (met.getD d 0) [])) met a (λc l=>l8 l) (by lia);obtain⟨o,t,s,q⟩:=v _ (d+1) f (oZ _ _ nd) (nY (λc m e=>p.on _ c m e) _ _ (λc l=>l8 l) lt) e N (by exact Xw hN) (pc (Jk (S.wy.getD (met.getD d 0) []))) r;refine⟨o,t,s,(kD ((cond _ _ _ _).trans (by rw[decide_eq_true h])) ?_).trans q⟩;have ix:e2 aA (aa 2) (aa 3) [pc (xb S R),oc (nT met),oc (mT met),Q0 ((d:Nat):Int),g,a]=Z (.fr,.int ((met.getD d 0:Nat):Int)):=e2v Y Y (m9 _ met d 0 h);refine(av (aw (m:=.pu) (pw (S:=S) (b:=R) (m:=.pu) (n:=.fr) Y ix w) (by decide) (by decide:4<6))).trans ?_;have nw:=p.P2 (met.getD d 0);refine(av ((cA (m:=.fr) ?_ Y).trans u)).trans ?_
   ·show (eN ia (ae (aa 4) ah) _).bind CZ=_;rw[eA (xv Y Y) (zQ nw.1 nw.2)];rfl
   ·exact aw Y (by decide) (by decide:3<6)
  ·rename_i h;cases e;exact⟨_,g,a,eT ((cond _ _ _ _).trans (by rw[ZV h]))⟩
def Es(b:WF S)(h:S.lg.length<=100001)(i:k<1000000)(e:Mo S k [0] 0=Z a):aL [xb S R]=Z (.fr,nT a):=by
 obtain⟨j,f,d,q⟩:=Gk b h k [0] 0 a (by simp) (λx g=>by rw[ZZ.mp g];exact b.pos) e uZ (by exact i) L L;refine bI (U:=[pc (xb S R),L,pc (mT a),pc j,f,d]) Y ?_;exact(av Y).trans ((av Y).trans ((av Y).trans ((av q).trans ((av Y).trans Y))))
noncomputable def LG(l:List (Nat×Nat)):T:=.tup (l.map λp=>T.tup [.str [p.1],.int (p.2:Int)])
def gH(r:Row):T:=.tup [.int (r.1:Int),.int (r.2.1:Int),Jo r.2.2.1,LG r.2.2.2]
theorem wu:∀l:List (Nat×Nat),iN (l.map λp=>T.tup [.str [p.1],.int (p.2:Int)])=O
 |[]=>rfl
 |p :: l=>by
  rw[Zj];show (O&&iN _)=O;rw[wu l];rfl
def mG(l:List (Nat×Nat)):IS (LG l)=O:=wu l
def jP(r:Row):IS (gH r)=O:=by
 show (O&&(O&&(IS (Jo r.2.2.1)&&(IS (LG r.2.2.2)&&O))))=O;rw[lT,mG];rfl
def Gf(h:a U=Z (.fr,x))(g:b U=Z (.fr,y))(f:c U=Z (.fr,z))(e:d U=Z (.fr,w)):nA (ae a (ae b (ae c (ae d ah)))) U=Z (.fr,.tup [x,y,z,w]):=by
 show (ae a (ae b (ae c (ae d ah))) U).bind wH=_;rw[xv h (xv g (xv f (xv e Y))),Zq];show Z (up .fr _)=_;unfold up;split<;>rfl
def EF(b:WF S)(i:∀x,x<S.lg.length->x∈a)(f:n<S.lg.length):bY [xb S R,.int (n:Int),.dct 3 (nE 0 a)]=Z (.fr,gH (row S a n)):=by
 have nw:=b.P2 n;have get:∀v,v<S.lg.length->eX (nE 0 a) (.int (v:Int))=Z (T.int ((a.idxOf v:Nat):Int)):=λv o=>by rw[rC,Zn (i v o),XH]
 have s1:aC 3 (e2 aA (bp 2 (aa 0)) (aa 1)) [pc (xb S R),Q0 (n:Int),pc (.dct 3 (nE 0 a)),L,L,L]=Z (.nx [pc (xb S R),Q0 (n:Int),pc (.dct 3 (nE 0 a)),pc (Jo (S.lk.getD n L)),L,L]):=aw (vi Y Y (by rw[b.lk];exact f)) (by decide) (by decide:3<6);have e:aC 4 (e2 aA (bp 3 (aa 0)) (aa 1)) [pc (xb S R),Q0 (n:Int),pc (.dct 3 (nE 0 a)),pc (Jo (S.lk.getD n L)),L,L]=Z (.nx [pc (xb S R),Q0 (n:Int),pc (.dct 3 (nE 0 a)),pc (Jo (S.lk.getD n L)),pc (Jk (S.wy.getD n [])),L]):=aw (m:=.pu) (pw Y Y (by rw[b.wy];exact f)) (by decide) (by decide:4<6);have q:eN lq (ae (bU 1 (aS 0) (dS (eN ia (ae (aa 4) ah))) L (nA (ae (aa 0) (ae (e2 sZ (aa 3) (e2 Ks (aa 5) (aa 0))) ah)))) ah) [pc (xb S R),Q0 (n:Int),pc (.dct 3 (nE 0 a)),pc (Jo (S.lk.getD n L)),pc (Jk (S.wy.getD n [])),L]=Z (.fr,LG (steps S a n)):=by
  have r:=cu (k:=1) (tg:=aS 0) (it:=dS (eN ia (ae (aa 4) ah))) (elt:=nA (ae (aa 0) (ae (e2 sZ (aa 3) (e2 Ks (aa 5) (aa 0))) ah))) (U:=[pc (xb S R),Q0 (n:Int),pc (.dct 3 (nE 0 a)),pc (Jo (S.lk.getD n L)),pc (Jk (S.wy.getD n [])),L]) (λc=>T.str [c]) (λc=>T.tup [.str [c],.int ((a.idxOf ((gW (S.wy.getD n []) c).getD 0):Nat):Int)]) (sk (S.wy.getD n [])) (by
   show (eN ia (ae (aa 4) ah) _).bind CZ=_;rw[eA (xv Y Y) (zQ nw.1 nw.2)];rfl) Y (ZP (u4 _) (by decide)) (λc p=>by
   obtain⟨v,ev⟩:=l8 p;refine⟨[Q2 ([c]),pc (xb S R),Q0 (n:Int),pc (.dct 3 (nE 0 a)),pc (Jo (S.lk.getD n L)),pc (Jk (S.wy.getD n [])),L],rfl,?_⟩;rw[ev,Y6];show (ae (aa 0) (ae (e2 sZ (aa 3) (e2 Ks (aa 5) (aa 0))) ah) _).bind wH=_;rw[xv Y (xv (e2v (x:=(.pu,.dct 3 (nE 0 a))) Y (uH (m:=.pu) (n:=.fr) (c:=c) (w:=S.wy.getD n []) Y Y ev) (by
     show (if O=O then (eX (nE 0 a) (.int (v:Int))).map (sub .pu) else L)=_;rw[Zn Y,get v (b.on n c v ev)];rfl)) Y)]
   rfl)
  refine eA (xv r Y) ?_;show (if _<=fN then Z (up .fr (.tup _)) else L)=_;rw[Zn (by rw[Zy];exact ZP (u4 _) (by decide))];have:T.tup ((sk (S.wy.getD n [])).map λc=>T.tup [.str [c],.int ((a.idxOf ((gW (S.wy.getD n []) c).getD 0):Nat):Int)])=LG (steps S a n):=by
   unfold LG steps;rw[ZO];rfl
  rw[this];unfold up;rw[mG];rfl
 have d:=aw q (by decide) (by decide:5<6);have j:∀U:Env,U[5]?=Z (pc (LG (steps S a n)))->aa 5 U=Z (.fr,LG (steps S a n)):=λU h=>by
  show (match U[5]? with | some (some (.pu t))=>some (up .pu t) | some (some (.ow t))=>some (.bo,t) | _=>none)=_;rw[h];show Z (up .pu _)=_;unfold up;rw[mG];rfl
 unfold row;cases g:S.lk.getD n L with
 |none =>
  rw[g]at s1 e d;refine bI (U:=[pc (xb S R),Q0 (n:Int),pc (.dct 3 (nE 0 a)),pc (Jo L),pc (Jk (S.wy.getD n [])),pc (LG (steps S a n))]) Y ?_;refine(av s1).trans ((av e).trans ((av d).trans (fz ((oi Y).trans (bP (Gf Y Y Y (j _ Y)))))))
 |some l =>
  rw[g]at s1 e d;have hl:=b.up n l g;refine bI (U:=[pc (xb S R),Q0 (n:Int),pc (.dct 3 (nE 0 a)),pc (Jo (Z l)),pc (Jk (S.wy.getD n [])),pc (LG (steps S a n))]) Y ?_;refine(av s1).trans ((av e).trans ((av d).trans ((av ((lb Y).trans Y)).trans (bP (Gf ?_ ?_ ?_ (j _ Y))))))
  ·exact e2v (sI Y Y hl) Y Y
  ·exact sI Y Y f
  ·exact e2v Y Y (by
    show (if O=O then (eX (nE 0 a) (.int (l:Int))).map (sub .pu) else L)=_;rw[Zn Y,get l hl];rfl)
def xa(t:List Row):T:=.lst (t.map gH)
def Aj(d:WF S)(h:S.lg.length<=100001){k:Nat}(o:k<1000000)(e:Mo S k [0] 0=Z a)(b:∀x,x∈a↔x<S.lg.length)(l:a.length<=16777216):bV [xb S R]=Z (.fr,xa (tab S a)):=by
 have f:=Es d h o e;refine bI (U:=[pc (xb S R),L]) Y ?_;have s1:jt 1 (eE 0 aL (aa 0) ah) [pc (xb S R),L]=Z (.nx [pc (xb S R),oc (nT a)]):=by
  show (eE 0 aL (aa 0) ah [pc (xb S R),L]).bind _=_;have:eE 0 aL (aa 0) ah [pc (xb S R),L]=Z (.fr,nT a):=by
   show ((aL [xb S R]).bind _)=_;rw[f];rfl
  rw[this];rfl
 refine(av s1).trans ?_;have q:=cu (k:=1) (tg:=aS 0) (it:=vm 1) (elt:=eE 0 bY (aa 1) (ae (aa 0) (ae (aa 2) ah))) (m:=.fr) (U:=[pc (xb S R),pc (.dct 3 (nE 0 a))]) (λ(n:Nat)=>T.int (n:Int)) (λn=>gH (row S a n)) a (by
  show (if ((nE 0 a).all λp=>isInt p.1)=O then Z (Md.fr,(nE 0 a).map (·.1)) else L)=_;rw[Zn,qx];rw[ZF];intro p i;have:p.1∈(nE 0 a).map (·.1):=List.mem_map_of_mem i;rw[qx]at this;obtain⟨n,_,e⟩:=Za.mp this;rw[← e];rfl) Y l (λn j=>by
  refine⟨[Q0 (n:Int),pc (xb S R),pc (.dct 3 (nE 0 a))],rfl,?_⟩;show ((bY [xb S R,.int (n:Int),.dct 3 (nE 0 a)]).bind _)=_;rw[EF d (λx g=>(b x).mpr g) ((b n).mp j)];rfl)
 show ((bU 1 (aS 0) (vm 1) L (eE 0 bY (aa 1) (ae (aa 0) (ae (aa 2) ah))) [pc (xb S R),pc (.dct 3 (nE 0 a))]).bind _)=_;rw[q];unfold xa tab;rw[ZO];rfl
def M8(a:List Tx)(b:Vx)(S:St):t5:=[(4,.lst (a.map .str)),(5,.lst (b.map λ(n:Nat)=>T.int (n:Int))),(6,xb S R)]
def IL(a:List Tx)(d:Vx)(S:St)(b:Bool):T:=.obj 2 ((0,.bl b) :: M8 a d S)
def CH(S:St):hZ (xb S R)=O:=by
 show ((O && !(0==0&&R))&&eD (KJ S))=O;rw[iQ];rfl
def lH(a:List Tx)(b:Vx)(S:St):eD (M8 a b S)=O:=by
 have e:hZ (.lst (a.map T.str))=O:=fi _ (λ_=>rfl) _;have d:hZ (.lst (b.map λ(n:Nat)=>T.int (n:Int)))=O:=fi _ (λ_=>rfl) _;show ((hZ _ && !(4==0&&OR _))&&((hZ _ && !(5==0&&OR _))&&((hZ _ && !(6==0&&OR _))&&O)))=O;rw[e,d,CH];rfl
def C9(a:List Tx)(d:Vx)(S:St)(b:Bool):qA 4 (IL a d S b)=Z (.lst (a.map .str)):=rfl
def Ii(d:List Tx)(a:Vx)(S:St)(b:Bool):qA 5 (IL d a S b)=Z (.lst (a.map λ(n:Nat)=>T.int (n:Int))):=rfl
def HJ(a:List Tx)(d:Vx)(S:St)(b:Bool):qA 6 (IL a d S b)=Z (xb S R):=rfl
section
def AE{m:Md}(h:a U=Z (m,IL tx hd S b)):eN bE (ae (bp 4 a) ah) U=Z (.fr,.int (tx.length:Nat)):=eA (xv (hO h (C9 tx hd S b)) Y) (by
 show Z (Md.fr,T.int (((tx.map T.str).length:Nat):Int))=_;rw[Zy])
def DF{e:Ex}{v:Tx}(h:e (oc (IL tx hd S b) :: r)=Z (.fr,.str v))(f:tx.length<16777216):sX (iW 0 [.fld 4] aK (ae e ah)) (oc (IL tx hd S b) :: r)=Z (.nx (oc (IL (tx++[v]) hd S b) :: r)):=by
 show (((Z [Ky.fld 4]).bind λd=>(ae e ah (oc (IL tx hd S b) :: r)).bind λa=>(pm (λx=>aK x a) d (IL tx hd S b)).map _).map _)=_;rw[Zq,xv (r:=ah) h Y,Zq];show (((aK (.lst (tx.map T.str)) [(.fr,.str v)]).map _).map _ |>.map _)=_;rw[d2 (by rw[Zy];exact f),show (tx.map T.str)++[.str v]=(tx++[v]).map T.str from by rw[ZD];rfl];rfl
def EV{e:Ex}{v:Nat}(h:e (oc (IL tx hd S b) :: r)=Z (.fr,.int (v:Int)))(f:hd.length<16777216):sX (iW 0 [.fld 5] aK (ae e ah)) (oc (IL tx hd S b) :: r)=Z (.nx (oc (IL tx (hd++[v]) S b) :: r)):=by
 show (((Z [Ky.fld 5]).bind λd=>(ae e ah (oc (IL tx hd S b) :: r)).bind λa=>(pm (λx=>aK x a) d (IL tx hd S b)).map _).map _)=_;rw[Zq,xv (r:=ah) h Y,Zq];show (((aK (.lst (hd.map λ(n:Nat)=>T.int (n:Int))) [(.fr,.int (v:Int))]).map _).map _ |>.map _)=_;rw[d2 (by rw[Zy];exact f),show (hd.map λ(n:Nat)=>T.int (n:Int))++[.int (v:Int)]=(hd++[v]).map λ(n:Nat)=>T.int (n:Int) from by rw[ZD];rfl];rfl
def yd{tx:List Tx}{hd:Vx}(h:tx.length<8)(i:hd.length=tx.length):bC (M8 tx hd S) []=Z (M8 (tx++[[]]) (hd++[0]) S,.int (tx.length:Int)):=by
 unfold bC Kt;rw[Zn ⟨rfl,rfl⟩];have a:e2 NN (eN bE (ae (bp 4 (aa 0)) ah)) (Q3 8) [oc (IL tx hd S O)]=Z (.fr,.bl R):=e2v (AE (m:=.bo) Y) Y (by
  show Z (Md.fr,T.bl (decide ((8:Int)<=(tx.length:Int))))=_;rw[ZV (by omega)])
 have g:=DF (tx:=tx) (hd:=hd) (S:=S) (b:=O) (r:=[]) (e:=eC (.str [])) (v:=[]) Y (by omega);have f:=EV (tx:=tx++[[]]) (hd:=hd) (S:=S) (b:=O) (r:=[]) (e:=Q3 0) (v:=0) Y (by omega);have d:=bP (e:=e2 mP (eN bE (ae (bp 4 (aa 0)) ah)) (Q3 1)) (U:=[oc (IL (tx++[[]]) (hd++[0]) S O)]) (t:=.int (tx.length:Int)) (e2v (AE (m:=.bo) Y) Y (by
  show Z (Md.fr,T.int ((((tx++[[]]).length:Nat):Int)-1))=_;rw[Zv,ZN,show (((tx.length+1:Nat)):Int)-1=(tx.length:Int) by omega]))
 exact congrArg (λz:Option Out=>z.bind _) ((av ((lb a).trans Y)).trans ((av g).trans ((av f).trans d)))
def DA{l:Vr}(a:i<l.length):bu [.lst l,.int (i:Int)]=Z (.fr,.non):=by
 refine Dm (U:=[pc (.lst l),Q0 (i:Int)]) Y ?_;refine(lb (m:=.fr) (AD (m:=.fr) (x:=R) ?_ (λ_=>?_) (λh=>by cases h))).trans rfl
 ·exact qW (m:=.fr) (b:=O) Y
 ·refine qW (m:=.fr) (b:=O) (rJ (x:=(.fr,.int 0)) (y:=(.fr,.int (i:Int))) (z:=(.fr,.int (l.length:Int))) Y Y ?_ (eA (xv (x:=(.pu,.lst l)) Y Y) Y) ?_)
  ·show Z (Md.fr,T.bl (decide ((0:Int)<=(i:Int))))=_;rw[decide_eq_true (by omega)]
  ·show Z (Md.fr,T.bl (decide ((i:Int)<(l.length:Int))))=_;rw[decide_eq_true (by omega)]
def xH{tx:List Tx}(a:i<tx.length):bu [.lst (tx.map .str),.int (i:Int)]=Z (.fr,.non):=DA (by rw[Zy];exact a)
end
noncomputable def cy(a:List Tx):Nat:=(a.map List.length).sum
theorem wb:∀a:List Tx,(a.map λt=>(t.length:Int)).sum=(cy a:Int)
 |[]=>rfl
 |t :: a=>by
  rw[Zj,Y0,wb a];unfold cy;rw[Zj,Y0];omega
def zg(a:List Tx)(b:a.length<=16777216):gF [.lst (a.map .str)]=Z (.fr,.int (cy a:Int)):=by
 refine bI (U:=[pc (.lst (a.map .str))]) Y ?_;refine bP (eA (xv (r:=ah) (cu (m:=.pu) T.str (λ(t:Tx)=>T.int (t.length:Int)) a Y Y b (λt d=>⟨[Q2 t,pc (.lst (a.map .str))],rfl,rfl⟩)) Y) ?_);show (iX (a.map λ(t:Tx)=>T.int (t.length:Int))).bind _=_;rw[ints_map (λ(t:Tx)=>(t.length:Int)),Zq,wb]
section
def E8{hd:Vx}{i v:Nat}{e ev:Ex}{n:Md}{r:List (Vu)}(g:i<hd.length)(he:e (oc (IL tx hd S b) :: r)=Z (n,.int (i:Int)))(a:ev (oc (IL tx hd S b) :: r)=Z (.fr,.int (v:Int))) :
  gm 0 [.fld 5] e ev (oc (IL tx hd S b) :: r)=Z (.nx (oc (IL tx (hd.set i v) S b) :: r)):=by
 unfold gm;rw[a,Zq];show ((keys [.fld 5] (oc (IL tx hd S b) :: r)).bind _)=_;have f:keys [.fld 5] (oc (IL tx hd S b) :: r)=Z [.fld 5]:=rfl;rw[f,Zq,he,Zq];have d:pm (kR (n,.int (i:Int)) (.fr,.int (v:Int))) [.fld 5] (IL tx hd S b)=Z (IL tx (hd.set i v) S b,()):=by
  show ((kR (n,.int (i:Int)) (.fr,.int (v:Int)) (.lst (hd.map λ(n:Nat)=>T.int (n:Int)))).map _)=_;have:kR (n,.int (i:Int)) (.fr,.int (v:Int)) (.lst (hd.map λ(n:Nat)=>T.int (n:Int)))=Z (.lst ((hd.set i v).map λ(n:Nat)=>T.int (n:Int)),()):=by
   show ((JL (hd.map λ(n:Nat)=>T.int (n:Int)).length (i:Int)).map _)=_;rw[Zy,xg g,We];rfl
  rw[this];rfl
 rw[d];rfl
def FC{tx:List Tx}{n:Md}(h:i<tx.length)(he:e (oc (IL tx hd S b) :: r)=Z (n,.int (i:Int)))(d:a (oc (IL tx hd S b) :: r)=Z (.fr,.str v)) :
  gm 0 [.fld 4] e a (oc (IL tx hd S b) :: r)=Z (.nx (oc (IL (tx.set i v) hd S b) :: r)):=by
 unfold gm;rw[d,Zq];show ((keys [.fld 4] (oc (IL tx hd S b) :: r)).bind _)=_;have g:keys [.fld 4] (oc (IL tx hd S b) :: r)=Z [.fld 4]:=rfl;rw[g,Zq,he,Zq];have f:pm (kR (n,.int (i:Int)) (.fr,.str v)) [.fld 4] (IL tx hd S b)=Z (IL (tx.set i v) hd S b,()):=by
  show ((kR (n,.int (i:Int)) (.fr,.str v) (.lst (tx.map T.str))).map _)=_;have:kR (n,.int (i:Int)) (.fr,.str v) (.lst (tx.map T.str))=Z (.lst ((tx.set i v).map T.str),()):=by
   show ((JL (tx.map T.str).length (i:Int)).map _)=_;rw[Zy,xg h,We];rfl
  rw[this];rfl
 rw[f];rfl
def BX{tx:List Tx}{hd:Vx}{i r:Nat}{w:Tx}(W:WF S)(F:hd.length=tx.length)(a:i<tx.length)(G:tx.length<=8)(E:cy tx+w.length<=120)(q:S.lg.length+2*w.length<=100000)(p:hd.getD i 0<S.lg.length)(s:∀c∈w,97<=c/\c<=122)(D:(tx.getD i []).length<=120)(e:hg S (hd.getD i 0) w=Z (S',r)) :
  bz (M8 tx hd S) [.int (i:Int),.str w]=Z (M8 (tx.set i (tx.getD i []++w)) (hd.set i r) S',.non):=by
 obtain⟨C,B,A,g⟩:=Ax W q p s e;unfold bz Kt;rw[Zn ⟨rfl,rfl⟩];have s1:sX (xP (aH bu (ae (bp 4 (aa 0)) (ae (aa 1) ah)))) [oc (IL tx hd S O),Q0 (i:Int),Q2 w]=Z (.nx [oc (IL tx hd S O),Q0 (i:Int),Q2 w]):=by
  have:aH bu (ae (bp 4 (aa 0)) (ae (aa 1) ah)) [oc (IL tx hd S O),Q0 (i:Int),Q2 w]=Z (.fr,.non):=aE (xv (hO (m:=.bo) (t:=IL tx hd S O) Y (C9 tx hd S O)) (xv (x:=(.fr,.int (i:Int))) Y Y)) (xH a);show (((aH bu _ _).map _).map _)=_;rw[this];rfl
 have u:e2 QC (e2 bJ (aH gF (ae (bp 4 (aa 0)) ah)) (eN bE (ae (aa 2) ah))) (Q3 120) [oc (IL tx hd S O),Q0 (i:Int),Q2 w]=Z (.fr,.bl R) :=
  e2v (x:=(.fr,.int ((cy tx:Int)+(w.length:Int)))) (e2v (aE (xv (r:=ah) (hO (m:=.bo) (t:=IL tx hd S O) Y (C9 tx hd S O)) Y) (zg tx (by omega))) (y:=(.fr,.int (w.length:Int))) Y Y) Y (by
   show Z (Md.fr,T.bl (decide ((120:Int)<(cy tx:Int)+(w.length:Int))))=_;rw[ZV (by omega)])
 have f:bH 0 [.fld 6] 0 [R,R] aJ (ae (e2 aA (bp 5 (aa 0)) (aa 1)) (ae (aa 2) ah)) [oc (IL tx hd S O),Q0 (i:Int),Q2 w]=Z ((.fr,.int (r:Int)),[oc (IL tx hd S' O),Q0 (i:Int),Q2 w]):=by
  show ((Z [Ky.fld 6]).bind λo=>(ae (e2 aA (bp 5 (aa 0)) (aa 1)) (ae (aa 2) ah) [oc (IL tx hd S O),Q0 (i:Int),Q2 w]).bind λd=>(pm (lJ 0 [R,R] aJ d) o (IL tx hd S O)).map λz=>(z.2,[oc z.1,Q0 (i:Int),Q2 w]))=_;rw[Zq,xv (x:=(.fr,.int ((hd.getD i 0:Nat):Int))) (e2v (hO (m:=.bo) (t:=IL tx hd S O) Y (Ii tx hd S O)) (y:=(.fr,.int (i:Int))) Y (m9 _ hd i 0 (by omega))) (xv (r:=ah) (x:=(.fr,.str w)) Y Y),Zq];show (((if 1=0+1/\eD (KJ S)=O/\argsOk [R,R] [(Md.fr,T.int ((hd.getD i 0:Nat):Int)),(Md.fr,T.str w)]=O/\dY (trees [(Md.fr,T.int ((hd.getD i 0:Nat):Int)),(Md.fr,T.str w)])=O then (aJ (KJ S) [.int ((hd.getD i 0:Nat):Int),.str w]).bind λz=>if eD z.1=O/\IS z.2=O then Z (T.obj 1 ((0,.bl R) :: z.1),(Md.fr,z.2)) else L else L).map _).map _)=_;rw[Zn ⟨rfl,iQ S,rfl,rfl⟩,g,Zq,Zn ⟨iQ S',rfl⟩];rfl
 have l:mY 0 [.fld 5] (aa 1) (bH 0 [.fld 6] 0 [R,R] aJ (ae (e2 aA (bp 5 (aa 0)) (aa 1)) (ae (aa 2) ah))) [oc (IL tx hd S O),Q0 (i:Int),Q2 w]=Z (.nx [oc (IL tx (hd.set i r) S' O),Q0 (i:Int),Q2 w]):=by
  unfold mY;rw[f];exact E8 (tx:=tx) (hd:=hd) (S:=S') (b:=O) (r:=[Q0 (i:Int),Q2 w]) (e:=aa 1) (ev:=λ_=>Z (.fr,.int (r:Int))) (i:=i) (v:=r) (n:=.fr) (by omega) Y Y
 have j:gm 0 [.fld 4] (aa 1) (e2 bJ (e2 aA (bp 4 (aa 0)) (aa 1)) (aa 2)) [oc (IL tx (hd.set i r) S' O),Q0 (i:Int),Q2 w]=Z (.nx [oc (IL (tx.set i (tx.getD i []++w)) (hd.set i r) S' O),Q0 (i:Int),Q2 w]) :=
  FC (n:=.fr) a Y (e2v (hO (m:=.bo) (t:=IL tx (hd.set i r) S' O) Y (C9 tx (hd.set i r) S' O) |> λh=>e2v h (y:=(.fr,.int (i:Int))) Y (m9 T.str tx i [] a)) (y:=(.fr,.str w)) Y (um (by omega)))
 exact congrArg (λz:Option Out=>z.bind _) ((av s1).trans ((av ((lb u).trans Y)).trans ((av l).trans j)))
end
def lM{α:Type}(l:List α)(x d:α):(l++[x]).getD l.length d=x:=(b9 l x d l.length).trans (Zn Y)
def wt{α:Type}(l:List α)(x y:α):(l++[x]).set l.length y=l++[y]:=by
 rw[List.set_append_right _ _ (Zm _),Nat.sub_self];rfl
def si(a b:List Tx):cy (a++b)=cy a+cy b:=by
 unfold cy;rw[ZD,List.sum_append]
def D8:∀(rest:List Tx){tx:List Tx}{hd:Vx}{S S':St}{B:T}{z:Vu},WF S->hd.length=tx.length->tx.length+rest.length<=8->cy tx+cy rest<=120->S.lg.length+2*cy rest<=100000->(∀t∈rest,∀c∈t,97<=c/\c<=122)->mB S rest=Z S' →
  ∃l h,forL (aS 2) bG (rest.map .str) [oc (IL tx hd S O),pc B,z]=Z (.nx [oc (IL (tx++rest) l S' O),pc B,h]):=by
 intro rest
 induction rest with
 |nil =>
  intro tx hd S S' B z W a h8 m hl f e;cases (show Z S=Z S' from e);exact⟨hd,z,by rw[ZQ];rfl⟩
 |cons t rest p =>
  intro tx hd S S' B z W a h8 m hl f e;obtain⟨⟨d,r⟩,e1,y⟩:=Zz.mp (show (hg S 0 t).bind _=Z S' from e);rw[Ze]at h8;have x:cy (t :: rest)=t.length+cy rest:=by unfold cy;rw[Zj,Y0]
  rw[x]at m hl;have j:hg S ((hd++[0]).getD tx.length 0) t=Z (d,r):=by rw[← a,lM];exact e1
  have n:=Ax W (by omega) W.pos (f t Zu) e1;have g:=BX (tx:=tx++[[]]) (hd:=hd++[0]) (S:=S) (S':=d) (i:=tx.length) (r:=r) (w:=t) W (by rw[Zv,Zv,a];rfl) (by rw[Zv];exact ZG _) (by rw[Zv];show tx.length+1<=8;omega) (by rw[si];show cy tx+0+t.length<=120;omega) (by omega) (by rw[← a,lM];exact W.pos) (f t Zu) (by rw[lM];exact Yw _) j;rw[lM,wt,YU]at g;have v:(hd++[0]).set tx.length r=hd++[r]:=by rw[← a];exact wt hd 0 r
  rw[v]at g;have b:=yd (tx:=tx) (hd:=hd) (S:=S) (by omega) a;obtain⟨l,h,q⟩:=p (tx:=tx++[t]) (hd:=hd++[r]) (S:=d) (S':=S') (B:=B) (z:=Q2 t) n.1 (by rw[Zv,Zv,a];rfl) (by rw[Zv,ZN];omega) (by rw[si];show cy tx+(t.length+0)+cy rest<=120;omega) (by have:=n.2.2.1;omega) (λu s=>f u (Zw _ s)) y;refine⟨l,h,?_⟩;rw[Zj];refine(dH (U1:=[oc (IL tx hd S O),pc B,Q2 t]) Y ?_).trans (q.trans (by rw[Z0];rfl));have o:bH 0 [] 1 [] bC ah [oc (IL tx hd S O),pc B,Q2 t]=Z ((.fr,.int (tx.length:Int)),[oc (IL (tx++[[]]) (hd++[0]) S O),pc B,Q2 t]):=by
   show (((if 2=1+1/\eD (M8 tx hd S)=O/\argsOk [] []=O/\dY (trees [])=O then (bC (M8 tx hd S) (trees [])).bind λz=>if eD z.1=O/\IS z.2=O then Z (T.obj 2 ((0,.bl O) :: z.1),(Md.fr,z.2)) else L else L).map _))=_;rw[Zn ⟨rfl,lH tx hd S,rfl,rfl⟩,show trees []=[] from rfl,b,Zq,Zn ⟨lH _ _ _,rfl⟩];rfl
  have x2:p5 0 1 [R,R] bz (bH 0 [] 1 [] bC ah) (ae (aa 2) ah) [oc (IL tx hd S O),pc B,Q2 t]=Z ((.fr,.non),[oc (IL (tx++[t]) (hd++[r]) d O),pc B,Q2 t]):=by
   unfold p5;rw[Zn (show D2 1 [oc (IL tx hd S O),pc B,pc (T.str t)][0]?=O from rfl),o,Zq,Zn (show IS (T.int (tx.length:Int))=O from rfl)];have ct:lJ 1 [R,R] bz [(Md.fr,T.int (tx.length:Int)),(Md.fr,T.str t)] (IL (tx++[[]]) (hd++[0]) S O)=Z (IL (tx++[t]) (hd++[r]) d O,(Md.fr,T.non)):=by
    show (if 2=1+1/\eD (M8 (tx++[[]]) (hd++[0]) S)=O/\argsOk [R,R] [(Md.fr,T.int (tx.length:Int)),(Md.fr,T.str t)]=O/\dY (trees [(Md.fr,T.int (tx.length:Int)),(Md.fr,T.str t)])=O then (bz (M8 (tx++[[]]) (hd++[0]) S) (trees [(Md.fr,T.int (tx.length:Int)),(Md.fr,T.str t)])).bind λz=>if eD z.1=O/\IS z.2=O then Z (T.obj 2 ((0,.bl O) :: z.1),(Md.fr,z.2)) else L else L)=_;rw[Zn ⟨rfl,lH _ _ _,rfl,rfl⟩,show trees [(Md.fr,T.int (tx.length:Int)),(Md.fr,T.str t)]=[T.int (tx.length:Int),T.str t] from rfl,g,Zq,Zn ⟨lH _ _ _,rfl⟩];rfl
   show ((lJ 1 [R,R] bz [(Md.fr,T.int (tx.length:Int)),(Md.fr,T.str t)] (IL (tx++[[]]) (hd++[0]) S O)).map _)=_;rw[ct];rfl
  unfold bG Pm;rw[x2];rfl
structure L1(bk:List Tx):Prop where
 Mf:bk.length<=8
 sum:cy bk<=120
 az:∀t∈bk,∀c∈t,97<=c/\c<=122
theorem L1.OE:∀{l:List Tx},t∈l->t.length<=cy l
 |a :: l,h=>by
  have e:cy (a :: l)=a.length+cy l:=by unfold cy;rw[Zj,Y0]
  rw[e];rcases Zk.mp h with rfl | h
  ·omega
  ·have:=L1.OE h;omega
def L1.len(h:L1 a):∀t∈a,t.length<1000:=λt b=>X8 (L1.OE b) (X8 h.sum (by decide))
def aG(a:List Tx):St:=(mB S0 a).getD S0
def aj(a:List Tx):Vx:=(Mo (aG a) 1000 [0] 0).getD []
def tabOf(a:List Tx):List Row:=tab (aG a) (aj a)
theorem L1.k(h:L1 a):mB S0 a=Z (aG a)/\∃nd b,K (Hd a) (aG a) nd b/\b.length<=241/\Mo (aG a) 1000 [0] 0=Z (aj a)/\(∀x,x∈aj a↔x<(aG a).lg.length)/\(aj a).length=b.length/\(aj a).idxOf 0=0:=by
 obtain⟨S,nd,b,e,H,l⟩:=K.of a h.az h.len;have d:aG a=S:=by unfold aG;rw[e];rfl
 rw[d];have f:b.length<=241:=by
  have:=h.sum;unfold cy at this;omega
 obtain⟨m,e2,_,e3,g⟩:=H.met (k:=1000) (by omega);have eM:aj a=0 :: m:=by unfold aj;rw[d,e2];rfl
 rw[eM];exact⟨e,nd,b,H,f,e2,λx=>by rw[e3,H.i.len],g,List.idxOf_cons_self⟩
def Ei(h:L1 d):∃hd,aN [] [.lst (d.map .str)]=Z (M8 d hd (aG d),.non):=by
 obtain⟨e,_⟩:=h.k;have g:=h.sum;obtain⟨hd,z,q⟩:=D8 d (tx:=[]) (hd:=[]) (S:=S0) (S':=aG d) (B:=.lst (d.map .str)) (z:=L) Ak Y (by have:=h.Mf;simpa using this) (by show 0+cy d<=120;omega) (by show 1+2*cy d<=100000;omega) h.az e;rw[YU]at q;refine⟨hd,?_⟩;unfold aN Kt;rw[Zn ⟨rfl,rfl⟩];have f:=(cA (tg:=aS 2) (it:=dS (aa 1)) (body:=bG) (U:=[oc (IL [] [] S0 O),pc (.lst (d.map .str)),L]) (m:=.pu) (l:=d.map .str) Y Y).trans q;have body:=(av (a:=jT 0 4 (dX ah)) (b:=aq (jT 0 5 (dX ah)) (aq (jT 0 6 (eNew 0 bW ah)) (JI (eY (aa 1)) (h9 (aS 2) (dS (aa 1)) bG) d8))) (U:=[oc (.obj 2 [(0,.bl O)]),pc (.lst (d.map .str)),L]) (U1:=[oc (.obj 2 [(0,.bl O),(4,.lst [])]),pc (.lst (d.map .str)),L]) Y).trans
  ((av (U1:=[oc (.obj 2 [(0,.bl O),(4,.lst []),(5,.lst [])]),pc (.lst (d.map .str)),L]) Y).trans ((av (U1:=[oc (IL [] [] S0 O),pc (.lst (d.map .str)),L]) Y).trans ((oi (m:=.fr) Y).trans f)))
 exact congrArg (λz:Option Out=>z.bind _) body
def rB(h:L1 a){m:Md}(f:arg U=Z (m,.lst (a.map .str))):eE 1 bD (eNew 1 aN (ae arg ah)) ah U=Z (.fr,xa (tabOf a)):=by
 obtain⟨hd,e⟩:=Ei h;obtain⟨_,nd,n,H,l,e2,e3,o,_⟩:=h.k;have hlen:(aG a).lg.length<=100001:=by rw[← H.i.len];omega
 have b:=Aj H.i.wf hlen (k:=1000) (by decide) e2 e3 (by omega);have d:eNew 1 aN (ae arg ah) U=Z (.fr,IL a hd (aG a) R):=by
  unfold eNew;rw[xv (r:=ah) f Y,Zq];have j:dY (trees [(m,T.lst (a.map .str))])=O:=by
   show (dY (a.map T.str)&&O)=O;rw[fi _ (λ_=>rfl)];rfl
  rw[Zn j,show trees [(m,T.lst (a.map .str))]=[T.lst (a.map .str)] from rfl,e,Zq,Zn ⟨lH _ _ _,rfl⟩];rfl
 have t2:bD [IL a hd (aG a) R]=Z (.fr,xa (tabOf a)):=by
  refine bI (U:=[pc (IL a hd (aG a) R)]) Y (bP ?_);have g:bp 6 (aa 0) [pc (IL a hd (aG a) R)]=Z (.pu,xb (aG a) R):=hO (m:=.pu) (t:=IL a hd (aG a) R) Y (HJ a hd (aG a) R);unfold eE;show ((bp 6 (aa 0) [pc (IL a hd (aG a) R)]).bind _)=_;rw[g];show ((bV [xb (aG a) R]).bind _)=_;rw[b];rfl
 show ((eNew 1 aN (ae arg ah) U).bind _)=_;rw[d];show ((bD [IL a hd (aG a) R]).bind _)=_;rw[t2];rfl
end T56
end
section
namespace T56
open VS
theorem gr{β:Type}{tg:Tg}{body:Sx}(g:β->T)(Inv:List β->Env->Prop)(h:∀t r U,Inv (t :: r) U->∃i a,tg (g t) U=Z i/\body i=Z (.nx a)/\Inv r a):∀(l:List β)(U:Env),Inv l U->∃b,forL tg body (l.map g) U=Z (.nx b)/\Inv [] b
 |[],U,f=>⟨U,rfl,f⟩
 |t :: l,U,f=>by
  obtain⟨i,a,e1,e2,e⟩:=h t l U f;obtain⟨b,e3,d⟩:=gr g Inv h l a e;exact⟨b,(dH e1 e2).trans e3,d⟩
noncomputable def cellAt(a:Vw)(k:Nat):Int:=a.getD k 0
def xu(a:Vw)(k:Nat):aM [.scr a,.int k]=Z (.fr,.int (cellAt a k)):=by
 by_cases h:k<a.length
 ·refine bI (U:=[pc (.scr a),Q0 k]) Y (fz ((oi (m:=.fr) ?_).trans (bP (e2v (x:=(.fr,.scr a)) (y:=(.fr,.int k)) Y Y ?_))))
  ·refine e2v (x:=(.fr,.int k)) (y:=(.fr,.int (a.length:Int))) Y Y ?_;show Z (Md.fr,T.bl (decide ((k:Int)<(a.length:Int))))=_;rw[decide_eq_true (by omega)]
  ·rw[BV a k (by omega) (by omega),Yr];rfl
 ·refine bI (U:=[pc (.scr a),Q0 k]) Y ((av ((lb (m:=.fr) ?_).trans Y)).trans (bP ?_))
  ·refine e2v (x:=(.fr,.int k)) (y:=(.fr,.int (a.length:Int))) Y Y ?_;show Z (Md.fr,T.bl (decide ((k:Int)<(a.length:Int))))=_;rw[ZV (by omega)]
  ·unfold cellAt;rw[Zr,Z7 (by omega)];rfl
def nU{k:Nat}{m:Md}(b:aa 0 U=Z (m,.scr a))(h:e U=Z (.fr,.int (k:Int))):aH aM (ae (aa 0) (ae e ah)) U=Z (.fr,.int (cellAt a k)):=aE (xv b (xv (r:=ah) h Y)) (xu a k)
def CQ(c k:Int)(g:0<=k)(f:k<1000000):∃v,fK [.int c,.int k]=Z (.fr,.int v):=by
 have e:=YC (c%2147483629+48271*k+11) (b:=2147483629) (by decide);have e1:=YS (c%2147483629+48271*k+11) (b:=2147483629) (by decide);generalize d:(c%2147483629+48271*k+11)%2147483629=n at e e1;have i:=YC (n*n) (b:=2147483629) (by decide);have h:=YS (n*n) (b:=2147483629) (by decide);have s1:aC 2 (e2 oMod (e2 bJ (e2 bJ (e2 oMod (aa 0) (Q3 2147483629)) (e2 mH (Q3 48271) (aa 1))) (Q3 11)) (Q3 2147483629)) [Q0 c,Q0 k,L]=Z (.nx [Q0 c,Q0 k,Q0 n]):=by
  refine aw (m:=.fr) (e2v (e2v (e2v (e2v (x:=(.fr,.int c)) (y:=(.fr,.int 2147483629)) Y Y (dG (by decide))) (e2v (x:=(.fr,.int 48271)) (y:=(.fr,.int k)) Y Y (mE (by decide))) Y) (y:=(.fr,.int 11)) Y Y) (y:=(.fr,.int 2147483629)) Y ?_) (by decide) (by show 2<3;decide);rw[dG (by decide),d]
 have a:aC 2 (e2 bJ (e2 oMod (e2 mH (aa 2) (aa 2)) (Q3 2147483629)) (e2 mH (Q3 7919) (aa 1))) [Q0 c,Q0 k,Q0 n]=Z (.nx [Q0 c,Q0 k,Q0 (n*n%2147483629+7919*k)]) :=
  aw (m:=.fr) (e2v (e2v (e2v (x:=(.fr,.int n)) (y:=(.fr,.int n)) Y Y (mE (by omega))) (y:=(.fr,.int 2147483629)) Y (dG (by decide))) (e2v (x:=(.fr,.int 7919)) (y:=(.fr,.int k)) Y Y (mE (by decide))) Y) (by decide) (by show 2<3;decide)
 exact⟨_,bI (U:=[Q0 c,Q0 k,Q0 (n*n%2147483629+7919*k)]) Y ((av s1).trans ((av a).trans (bP (e2v (e2v (x:=(.fr,.int (n*n%2147483629+7919*k))) (y:=(.fr,.int (n*n%2147483629+7919*k))) Y Y (mE (by omega))) (y:=(.fr,.int 2147483587)) Y (dG (by decide))))))⟩
abbrev ET(d:Vw)(L:Tx)(b j c a:Int)(s:Vx)(z:Vu):Env:=[pc (.scr d),Q2 L,Q0 b,Q0 j,Q0 c,Q0 a,oc (.lst (s.map λx=>T.str [x])),z]
def yR{U:Env}{L:Tx}{e:Ex}{m:Md}{y:Int}(h:0<L.length)(a:aa 1 U=Z (m,.str L))(he:e U=Z (.fr,.int y)):∃x∈L,e2 aA (aa 1) (e2 oMod e (eN bE (ae (aa 1) ah))) U=Z (.fr,.str [x]):=by
 have g:=YC y (b:=(L.length:Int)) (by omega);have f:=YS y (b:=(L.length:Int)) (by omega);have d:(y%(L.length:Int)).toNat<L.length:=by omega
 refine⟨L.getD (y%(L.length:Int)).toNat 0,?_,e2v a (e2v he (eA (v:=(.fr,.int (L.length:Int))) (xv (r:=ah) a Y) Y) (dG (by omega))) (FS L _ g f)⟩;rw[Zr,Zs d];exact Z5 d
def Dv{L:Tx}{b j c a:Int}{x:Nat}(h:e (ET d L b j c a s z)=Z (.fr,.str [x]))(f:s.length<1000):sX (jS 6 [] aK (ae e ah)) (ET d L b j c a s z)=Z (.nx (ET d L b j c a (s++[x]) z)):=by
 rw[oY (i:=6) (l:=s.map λx=>T.str [x]) Y h (by rw[Zy];omega)];show Z (Out.nx [pc (.scr d),Q2 L,Q0 b,Q0 j,Q0 c,Q0 a,oc (.lst (s.map (λx=>T.str [x])++[T.str [x]])),z])=Z (Out.nx [pc (.scr d),Q2 L,Q0 b,Q0 j,Q0 c,Q0 a,oc (.lst ((s++[x]).map λx=>T.str [x])),z]);rw[ZD];rfl
def zF(d:Vw)(L:Tx)(b a:Int)(j:Nat)(F:j<=1000)(u:0<L.length)(H:L.length<1000)(n:Nat)(E:n<1000)(c:Int):∃f s z,forL (aS 7) fA ((List.range n).map λ(k:Nat)=>T.int (k:Int)) (ET d L b j c a [] none)=Z (.nx (ET d L b j f a s z))/\s.length<=n/\∀x∈s,x∈L:=by
 obtain⟨G,e,f,s,z,rfl,o,l,_⟩:=gr (tg:=aS 7) (body:=fA) (λ(k:Nat)=>T.int (k:Int)) (λr U=>∃c s z,U=ET d L b j c a s z/\s.length+r.length<=n/\(∀x∈s,x∈L)/\∀k∈r,k<n) (by
  rintro k r _ ⟨c,s,z,rfl,o,l,w⟩;rw[Ze]at o;have i:=w k Zu;have B:∀U,aa 0 U=Z (Md.fr,T.scr d)->e2 oMod (aH aM (ae (aa 0) (ae (Q3 0) ah))) (Q3 2) U=Z (.fr,.int (cellAt d 0%2)):=λU h=>e2v (nU (k:=0) h Y) (y:=(.fr,.int 2)) Y (dG (by decide));have A:e2 oEq (e2 oMod (aH aM (ae (aa 0) (ae (Q3 0) ah))) (Q3 2)) (Q3 0) (ET d L b j c a s (Q0 k))=Z (.fr,.bl (cellAt d 0%2==0)):=by
   refine e2v (B _ Y) (y:=(.fr,.int 0)) Y (iY Y Y ?_);simp only[eqT]
  have fin:∀(f:Int)(x:Nat),x∈L->∃c q z,ET d L b j f a (s++[x]) (Q0 k)=ET d L b j c a q z/\q.length+r.length<=n/\(∀x∈q,x∈L)/\∀k∈r,k<n:=λf x g=>⟨_,_,_,rfl,by rw[Zv,ZN];omega,λy C=>(ZU.mp C).elim (l y) (λh=>ZZ.mp h ▸ g),λk i=>w k (Zw _ i)⟩
  by_cases p:cellAt d 0%2=0
  ·obtain⟨x,g,ex⟩:=yR (U:=ET d L b j c a s (Q0 k)) (e:=aa 4) (m:=.fr) (y:=c) u Y Y;refine⟨ET d L b j c a s (Q0 k),ET d L b j (c/(L.length:Int)) a (s++[x]) (Q0 k),rfl,(oi (A.trans (by rw[beq_iff_eq.mpr p]))).trans ((av (Dv ex (by omega))).trans ?_),fin _ x g⟩;exact aw (m:=.fr) (t:=.int (c/(L.length:Int))) (e2v (x:=(.fr,.int c)) (y:=(.fr,.int (L.length:Int))) Y Y (iy (by omega))) (by decide) (by show 4<8;decide)
  ·obtain⟨v,D⟩:=CQ c (30*(j:Int)+k) (by omega) (by omega);obtain⟨x,g,ex⟩:=yR (U:=ET d L b j c a s (Q0 k)) (e:=e2 cj (aH fK (ae (aa 4) (ae (e2 bJ (e2 mH (Q3 30) (aa 3)) (aa 7)) ah))) (Q3 7)) (m:=.fr) (y:=v/7) u Y (e2v (aE (xv (x:=(.fr,.int c)) Y (xv (r:=ah) (e2v (e2v (x:=(.fr,.int 30)) (y:=(.fr,.int (j:Int))) Y Y (mE (by decide))) (y:=(.fr,.int (k:Int))) Y Y) Y)) D) (y:=(.fr,.int 7)) Y (iy (by decide)));exact⟨ET d L b j c a s (Q0 k),ET d L b j c a (s++[x]) (Q0 k),rfl,(lb (A.trans (by rw[beq_eq_false_iff_ne.mpr p]))).trans (Dv ex (by omega)),fin _ x g⟩) (List.range n) (ET d L b j c a [] none) ⟨c,[],none,rfl,by rw[ZX];exact XG (XH _),(λ_ h=>nomatch h),λk i=>ZJ.mp i⟩
 exact⟨f,s,z,e,o,l⟩
def Fd(d:Vw)(L:Tx)(a:Int)(j:Nat)(o:j<=1000)(l:0<L.length)(r:L.length<1000)(v:0<=a)(u:a<1000):∃t:Tx,d6 [.scr d,.str L,.int a,.int j]=Z (.fr,.str t)/\t.length<=a.toNat/\∀x∈t,x∈L:=by
 generalize p:cellAt d (1+j)=c;have B:=YC c (b:=a+1) (by omega);have A:=YS c (b:=a+1) (by omega);obtain⟨f,s,z,e,w,q⟩:=zF d L a (c%(a+1)) j o l r (c%(a+1)).toNat (by omega) (c/(a+1));refine⟨s,?_,by omega,q⟩;have s1:aC 4 (aH aM (ae (aa 0) (ae (e2 bJ (Q3 1) (aa 3)) ah))) [pc (.scr d),Q2 L,Q0 a,Q0 j,none,none,none,none]=Z (.nx [pc (.scr d),Q2 L,Q0 a,Q0 j,Q0 c,none,none,none]):=by
  rw[← p];refine aw (m:=.fr) (nU (k:=1+j) Y (e2v (x:=(.fr,.int 1)) (y:=(.fr,.int (j:Int))) Y Y ?_)) (by decide) (by show 4<8;decide);show Z (Md.fr,T.int (1+(j:Int)))=_;rw[show (1+(j:Int))=((1+j:Nat):Int) by omega]
 have i:aC 5 (e2 oMod (aa 4) (e2 bJ (aa 2) (Q3 1))) [pc (.scr d),Q2 L,Q0 a,Q0 j,Q0 c,none,none,none]=Z (.nx [pc (.scr d),Q2 L,Q0 a,Q0 j,Q0 c,Q0 (c%(a+1)),none,none]):=aw (m:=.fr) (e2v (x:=(.fr,.int c)) (y:=(.fr,.int (a+1))) Y Y (dG (by omega))) (by decide) (by show 5<8;decide);have h:aC 4 (e2 cj (aa 4) (e2 bJ (aa 2) (Q3 1))) [pc (.scr d),Q2 L,Q0 a,Q0 j,Q0 c,Q0 (c%(a+1)),none,none]=Z (.nx [pc (.scr d),Q2 L,Q0 a,Q0 j,Q0 (c/(a+1)),Q0 (c%(a+1)),none,none]):=aw (m:=.fr) (e2v (x:=(.fr,.int c)) (y:=(.fr,.int (a+1))) Y Y (iy (by omega))) (by decide) (by show 4<8;decide);have g:h9 (aS 7) (di (aa 5)) fA (ET d L a j (c/(a+1)) (c%(a+1)) [] none)=Z (.nx (ET d L a j f (c%(a+1)) s z)):=by
  refine(cA (m:=.fr) ?_ Y).trans e;rw[iU (m:=.fr) (j:=c%(a+1)) Y (by omega),lx]
 refine bI (U:=[pc (.scr d),Q2 L,Q0 a,Q0 j,Q0 f,Q0 (c%(a+1)),pc (.lst (s.map λx=>T.str [x])),z]) Y ((av s1).trans ((av i).trans ((av h).trans ((av (U1:=ET d L a j (c/(a+1)) (c%(a+1)) [] none) Y).trans ((av g).trans ((av (U1:=[pc (.scr d),Q2 L,Q0 a,Q0 j,Q0 f,Q0 (c%(a+1)),pc (.lst (s.map λx=>T.str [x])),z]) Y).trans (bP ?_)))))));have:=xO (m:=.fr) (n:=(up Md.pu (.lst (s.map λx=>T.str [x]))).1) (strs_map (λx=>[x]) s) (by rw[lI];omega);rw[lI]at this;exact this
abbrev EB(e:Vw)(d:Int)(L:Tx)(a b:Int):Env:=[pc (.scr e),Q0 d,Q2 L,Q0 a,Q0 b]
def qd(i:Vw)(L:Tx)(d b g:Int)(y:0<=d)(w:d<1000)(E:0<=b)(D:b<=8)(u:0<L.length)(A:L.length<1000)(z:∀c∈L,97<=c/\c<=122) :
  ∃bk:List Tx,bU 1 (aS 0) (di (aa 3)) none (aH d6 (ae (aa 1) (ae (aa 3) (ae (aa 5) (ae (aa 0) ah))))) (EB i g L b d)=Z (.fr,.lst (bk.map .str))/\bk.length<=8/\bk.flatten.length<=b.toNat*d.toNat/\∀t∈bk,∀c∈t,97<=c/\c<=122:=by
 have ex:∀j:Nat,∃t:Tx,j<=1000->d6 [.scr i,.str L,.int d,.int j]=Z (.fr,.str t)/\t.length<=d.toNat/\∀x∈t,x∈L:=λj=>by
  by_cases e:j<=1000
  ·obtain⟨t,h⟩:=Fd i L d j e u A y w;exact⟨t,λ_=>h⟩
  ·exact⟨[],λh=>absurd h e⟩
 obtain⟨f,p⟩:=Classical.axiomOfChoice ex;have o:∀j∈List.range b.toNat,j<=1000:=λj e=>by
  have:=ZJ.mp e;omega
 refine⟨(List.range b.toNat).map f,?_,by rw[Zy,ZX];omega,?_,λt s c v=>?_⟩
 ·rw[ZO];refine cu (m:=.fr) (λ(j:Nat)=>T.int (j:Int)) (λj=>T.str (f j)) (List.range b.toNat) ?_ Y (by rw[ZX];omega) λj e=>⟨_,rfl,aE (xv (x:=(.fr,.scr i)) Y (xv (x:=(.fr,.str L)) Y (xv (x:=(.fr,.int d)) Y (xv (x:=(.fr,.int (j:Int))) (r:=ah) Y Y)))) (p j (o j e)).1⟩
  rw[iU (m:=.fr) (j:=b) Y (by omega),lx]
 ·generalize b.toNat=n at o ⊢;have:∀l:Vx,(∀j∈l,j<=1000)->(l.map f).flatten.length<=l.length*d.toNat:=by
   intro l
   induction l with
   |nil=>intro _;exact Yw _
   |cons a l q =>
    intro h;have C:=q λj e=>h j (Zw _ e);have B:=(p a (h a Zu)).2.1;rw[Zj,Yl,Zv,Ze,Nat.succ_mul];omega
  have:=this (List.range n) o;rw[ZX]at this;exact this
 ·obtain⟨j,e,rfl⟩:=Za.mp s;exact z c ((p j (o j e)).2.2 c v)
noncomputable def fh:List Tx:=[[97,98],[97,98,99],[97,98,99,100],[97,122],[97],[97,98,99,100,101,102,103,104,105,106,107,108,109,110,111,112,113,114,115,116,117,118,119,120,121,122]]
noncomputable def counts:Vw:=[1,2,3,4,2,1,0,8]
def tV:(∀k,k<6->0<(fh.getD k []).length/\(fh.getD k []).length<1000/\∀c∈fh.getD k [],97<=c/\c<=122)/\∀k,k<8->0<=counts.getD k 0/\counts.getD k 0<=8:=by decide
def BR{m n:Md}(c:Int)(b:0<=c)(a:c<=8):∃most:Int,aA (m,.lst [.int 24,.int 12,.int 8,.int 6]) (n,.int ((if 4<c then 4 else c)-1))=Z (.fr,.int most)/\0<=most/\most<=24/\c.toNat*most.toNat<=60:=by
 have:c=0\/c=1\/c=2\/c=3\/c=4\/4<c:=by omega
 rcases this with rfl | rfl | rfl | rfl | rfl | h
 ·exact⟨6,rfl,by decide,by decide,by decide⟩
 ·exact⟨24,rfl,by decide,by decide,by decide⟩
 ·exact⟨12,rfl,by decide,by decide,by decide⟩
 ·exact⟨8,rfl,by decide,by decide,by decide⟩
 ·exact⟨6,rfl,by decide,by decide,by decide⟩
 ·rw[Zn h];refine⟨6,rfl,by decide,by decide,?_⟩;show c.toNat*6<=60;omega
def DH(a:Vw):∃bk:List Tx,iL [.scr a]=Z (.fr,.lst (bk.map .str))/\bk.length<=8/\bk.flatten.length<=60/\∀t∈bk,∀c∈t,97<=c/\c<=122:=by
 generalize P:cellAt a 0=cell;have a0:=YC (cell/2) (b:=6) (by decide);have a1:=YS (cell/2) (b:=6) (by decide);have b0:=YC (cell/12) (b:=8) (by decide);have b1:=YS (cell/12) (b:=8) (by decide);obtain⟨u,s,p⟩:=tV.1 (cell/2%6).toNat (by omega);obtain⟨f,l⟩:=tV.2 (cell/12%8).toNat (by omega);have li:=zd (m:=.fr) (n:=.fr) T.str fh (cell/2%6) [] a0 (by show cell/2%6<6;exact a1) Y;have ci:=zd (m:=.fr) (n:=.fr) T.int counts (cell/12%8) 0 b0 (by show cell/12%8<8;exact b1) Y;have fd:∀(U:Env)(q:Int),0<q/\q<1073741824->aa 1 U=Z (Md.fr,T.int cell)->e2 cj (aa 1) (Q3 q) U=Z (.fr,.int (cell/q)):=λU q v h=>e2v h (y:=(.fr,.int q)) Y (iy v);have A:∀(U:Env)(q r:Int),0<q/\q<1073741824->0<r->aa 1 U=Z (Md.fr,T.int cell)->e2 oMod (e2 cj (aa 1) (Q3 q)) (Q3 r) U=Z (.fr,.int (cell/q%r)):=λU q r v N h=>e2v (fd U q v h) (y:=(.fr,.int r)) Y (dG N);generalize fh.getD (cell/2%6).toNat []=L at u s p li;generalize counts.getD (cell/12%8).toNat 0=count at f l ci;obtain⟨most,J,M,m1,m2⟩:=BR (m:=.fr) (n:=.fr) count f l;have s1:aC 1 (aH aM (ae (aa 0) (ae (Q3 0) ah))) [pc (.scr a),none,none,none,none]=Z (.nx [pc (.scr a),Q0 cell,none,none,none]):=by
  rw[← P];exact aw (m:=.fr) (nU (k:=0) Y Y) (by decide) (by show 1<5;decide)
 have H:e2 oMod (e2 cj (aa 1) (Q3 2)) (Q3 6) [pc (.scr a),Q0 cell,none,none,none]=Z (.fr,.int (cell/2%6)):=A _ 2 6 (by decide) (by decide) Y;have G:e2 oMod (e2 cj (aa 1) (Q3 12)) (Q3 8) [pc (.scr a),Q0 cell,Q2 L,none,none]=Z (.fr,.int (cell/12%8)):=A _ 12 8 (by decide) (by decide) Y;have E:∀x,e2 oMod (e2 cj (aa 1) (Q3 96)) (Q3 8) (EB a cell L count x)=Z (.fr,.int (cell/96%8)):=λx=>A _ 96 8 (by decide) (by decide) Y;have fin:∀(x:Int),0<=x->x<1000->count.toNat*x.toNat<=60->∃bk:List Tx,(aq (JI (i4 (e2 oEq (aa 3) (Q3 8)) (e2 Kr (e2 oMod (e2 cj (aa 1) (Q3 96)) (Q3 8)) (Q3 5))) (aC 4 (Q3 3)) d8) (dk (bU 1 (aS 0) (di (aa 3)) none (aH d6 (ae (aa 1) (ae (aa 3) (ae (aa 5) (ae (aa 0) ah)))))))) (EB a cell L count x)=Z (.rt (.fr,.lst (bk.map .str)) (EB a cell L count (if (count==8 && !(cell/96%8==5))=O then 3 else x)))/\bk.length<=8/\bk.flatten.length<=60/\∀t∈bk,∀c∈t,97<=c/\c<=122:=by
  intro x d B x2;have i:i4 (e2 oEq (aa 3) (Q3 8)) (e2 Kr (e2 oMod (e2 cj (aa 1) (Q3 96)) (Q3 8)) (Q3 5)) (EB a cell L count x)=Z (.fr,.bl (count==8 && !(cell/96%8==5))):=by
   refine HM (m:=.fr) (n:=.fr) (e2v (x:=(.fr,.int count)) (y:=(.fr,.int 8)) Y Y (iY Y Y ?_)) (e2v (E x) (y:=(.fr,.int 5)) Y (pU Y Y ?_))
   ·simp only[eqT]
   ·simp only[eqT]
  cases hb:(count==8 && !(cell/96%8==5)) with
  |true =>
   rw[hb]at i;have X:count=8:=beq_iff_eq.mp (ZW.mp hb).1;obtain⟨bk,e,z,D,w⟩:=qd a L 3 count cell (by decide) (by decide) f l u s p;exact⟨bk,(av ((oi i).trans (show aC 4 (Q3 3) (EB a cell L count x)=Z (.nx (EB a cell L count 3)) from rfl))).trans (bP e),z,ZP D (by rw[X];decide),w⟩
  |false =>
   rw[hb]at i;obtain⟨bk,e,z,D,w⟩:=qd a L x count cell d B f l u s p;exact⟨bk,(av ((lb i).trans Y)).trans (bP e),z,by omega,w⟩
 have pre:∀rest:Sx,aq (aC 1 (aH aM (ae (aa 0) (ae (Q3 0) ah)))) (aq (aC 2 (e2 aA (dX (ae (eC (.str [97,98])) (ae (eC (.str [97,98,99])) (ae (eC (.str [97,98,99,100])) (ae (eC (.str [97,122])) (ae (eC (.str [97])) (ae (eC (.str [97,98,99,100,101,102,103,104,105,106,107,108,109,110,111,112,113,114,115,116,117,118,119,120,121,122])) ah))))))) (e2 oMod (e2 cj (aa 1) (Q3 2)) (Q3 6)))) (aq (aC 3 (e2 aA (dX (ae (Q3 1) (ae (Q3 2) (ae (Q3 3) (ae (Q3 4) (ae (Q3 2) (ae (Q3 1) (ae (Q3 0) (ae (Q3 8) ah))))))))) (e2 oMod (e2 cj (aa 1) (Q3 12)) (Q3 8)))) (aq (aC 4 (e2 aA (dX (ae (Q3 24) (ae (Q3 12) (ae (Q3 8) (ae (Q3 6) ah))))) (e2 mP (eN tH (ae (aa 3) (ae (Q3 4) ah))) (Q3 1)))) rest))) [pc (.scr a),none,none,none,none]=rest (EB a cell L count most):=λrest =>
  (av s1).trans ((av (aw (m:=.fr) (e2v (x:=(.fr,.lst (fh.map T.str))) Y H li) (by decide) (by show 2<5;decide))).trans ((av (aw (m:=.fr) (e2v (x:=(.fr,.lst (counts.map T.int))) Y G ci) (by decide) (by show 3<5;decide))).trans (av (aw (m:=.fr) (e2v (x:=(.fr,.lst [.int 24,.int 12,.int 8,.int 6])) Y (y:=(.fr,.int ((if 4<count then 4 else count)-1))) Y J) (by decide) (by show 4<5;decide)))))
 have j:e2 oEq (e2 oMod (e2 cj (aa 1) (Q3 96)) (Q3 8)) (Q3 5) (EB a cell L count most)=Z (.fr,.bl (cell/96%8==5)):=by
  refine e2v (E most) (y:=(.fr,.int 5)) Y (iY Y Y ?_);simp only[eqT]
 cases hb:(cell/96%8==5) with
 |true =>
  rw[hb]at j;generalize S:(60:Int)=Q;have o:(1:Int)<=(if count > 1 then count else 1)/\(if count > 1 then count else 1)<=8/\count<=(if count > 1 then count else 1):=by split<;>omega
  generalize hM:(if count > 1 then count else 1)=Mq at o;have C:aC 4 (e2 cj (Q3 Q) (eN so (ae (Q3 1) (ae (aa 3) ah)))) (EB a cell L count most)=Z (.nx (EB a cell L count (Q/Mq))):=by
   refine aw (m:=.fr) (e2v (x:=(.fr,.int Q)) Y (y:=(.fr,.int Mq)) ?_ (iy (by omega))) (by decide) (by show 4<5;decide);rw[← hM];rfl
  have d:0<=Q/Mq:=Int.ediv_nonneg (by omega) (by omega);have B:Mq*(Q/Mq)<=Q:=Int.mul_ediv_self_le (by omega);have x2:count*(Q/Mq)<=Mq*(Q/Mq):=W9 o.2.2 d;have x3:1*(Q/Mq)<=Mq*(Q/Mq):=W9 o.1 d;have F:count.toNat*(Q/Mq).toNat<=60:=by
   have:((count.toNat*(Q/Mq).toNat:Nat):Int)=count*(Q/Mq):=by rw[Int.natCast_mul,WN f,WN d]
   omega
  obtain⟨bk,e,g⟩:=fin (Q/Mq) d (by omega) F;rw[← S]at C e;exact⟨bk,bI Y ((pre _).trans ((av ((oi j).trans C)).trans e)),g⟩
 |false =>
  rw[hb]at j;obtain⟨bk,e,g⟩:=fin most M (by omega) (by omega);exact⟨bk,bI Y ((pre _).trans ((av ((lb j).trans Y)).trans e)),g⟩
noncomputable def Az(t:Vx):Prop:=∀x∈t,97<=x/\x<=122
def Al{m:Md}{n:Nat}(e:a U=Z (m,.int (n:Int)))(h:n<100000):di a U=Z (.fr,(List.range n).map λ(k:Nat)=>T.int (k:Int)):=by
 rw[iU e (by lia),lx];rfl
def BS(t:Tx)(i L:Nat)(h:i<=t.length):cut t (Z (i:Int)) (Z ((i:Int)+(L:Int)))=(t.drop i).take L:=by
 have b:¬((i:Int)<0):=by lia
 have a:¬((i:Int)+(L:Int)<0):=by lia
 simp only[cut,clip,Zl b,Zl a,Yr];rw[show ((i:Int)+(L:Int)).toNat=i+L by lia,YW h];by_cases q:i+L<=t.length
 ·rw[YW q,show i+L-i=L by exact Nat.add_sub_cancel_left _ _]
 ·rw[Wp (by exact Wm q),Yi (l:=t.drop i) (by simp),Yi (l:=t.drop i) (by simp;lia)]
end T56
end
section
namespace T56
open VS AU
noncomputable abbrev s1(c:Nat):T:=.str [c]
def eq_int{m:Md}{i:Int}(k:Int)(h:a U=Z (m,.int i)):e2 oEq a (Q3 k) U=Z (.fr,.bl (i==k)):=e2v h Y (iY Y Y (by simp only[eqT]))
def HA{a:Vr}(f:a.length=d)(h:∃U,b (a.map (λt=>Z (.pu t))++List.replicate (e-d) L)=Z (.rt v U)):fn d e b a=Z v:=by
 obtain⟨U,h⟩:=h;exact bI f h
def wg{U1:Env}(h:a U=Z (.nx U1))(q:∃z,b U1=Z (.rt v z)):∃z,aq a b U=Z (.rt v z):=by
 rw[av h];exact q
def oP{m n:Md}{i j:Int}(e:a U=Z (m,.int i))(d:b U=Z (n,.int j))(h:(-4611686018427387904<=i/\i<4611686018427387904)/\-4611686018427387904<=j/\j<4611686018427387904):iO a b U=Z (.fr,rng i (j-i).toNat):=by
 simp only[iO,e,d,Zq,int?];exact Zn h
noncomputable abbrev IX(a:List (Nat×Nat)):List (T×T):=a.map λp=>(T.str [p.1],T.int (p.2:Int))
noncomputable abbrev Ob(p:Nat×Nat):T:=.tup [.str [p.1],.int (p.2:Int)]
def HF(a:List (Nat×Nat)):rD (a.map Ob)=Z (IX a):=by
 induction a with
 |nil=>rfl
 |cons w a b =>
  show (if iK (T.str [w.1])/\IS (T.int (w.2:Int)) then (rD (a.map Ob)).map _ else L)=_;rw[Zn ⟨rfl,rfl⟩,b];rfl
theorem tZ:∀(ws acc:List (Nat×Nat)),((acc++ws).map (·.1)).Nodup->(IX ws).foldl (λd q=>dput d q.1 q.2) (IX acc)=IX (acc++ws)
 |[],acc,_=>by rw[ZQ];rfl
 |w :: ws,acc,h=>by
  have e:dput (IX acc) (T.str [w.1]) (T.int (w.2:Int))=IX (acc++[w]):=by
   unfold dput;rw[Zl (by
    simp only[XB,not_exists,not_and];intro p b;obtain⟨q,a,rfl⟩:=Za.mp b;simp only[eqT,beq_iff_eq,List.cons.injEq,and_true];intro z;exact(λz=>by
   rw[ZD,Zj]at h;exact(ZR.mp h).2.2 w.1 z w.1 Zu Y) (Za.mpr ⟨q,a,z⟩))]
   simp[IX]
  show (IX ws).foldl _ (dput (IX acc) (T.str [w.1]) (T.int (w.2:Int)))=_;rw[e,tZ ws (acc++[w]) (by rw[Z0];exact h),Z0];rfl
def AC(w:List (Nat×Nat)):(sk w).Nodup:=by
 exact XO X3 (by decide)
def uE(S:St)(a:Vx)(n:Nat):(steps S a n).map (·.1)=sk (S.wy.getD n []):=by
 unfold steps;rw[ZO];exact List.map_id' _
def HB{m:Md}(S:St)(a:Vx)(n:Nat):md [(m,LG (steps S a n))]=Z (.fr,.dct 0 (IX (steps S a n))):=by
 show (rD ((steps S a n).map Ob)).map _=_;rw[HF,X0];have:=tZ (steps S a n) [] (by rw[YU,uE];exact AC _);rw[YU]at this;exact congrArg (λz=>Z (Md.fr,T.dct 0 z)) this
def oC(S:St)(b:Vx)(n c:Nat)(e:97<=c/\c<=122):gW (steps S b n) c=(gW (S.wy.getD n []) c).map λm=>b.idxOf m:=by
 have key:∀l:Vx,gW (l.map λc=>(c,b.idxOf ((gW (S.wy.getD n []) c).getD 0))) c=if c∈l then Z (b.idxOf ((gW (S.wy.getD n []) c).getD 0)) else L:=by
  intro l
  induction l with
  |nil=>rfl
  |cons a l d =>
   unfold gW at d ⊢;rw[Zj,Z6];by_cases h:a=c
   ·subst h;simp
   ·have:(a==c)=R:=by simpa using h
    rw[this];rw[d];simp[Ye h]
 unfold steps;rw[key];cases hg:gW (S.wy.getD n []) c with
 |none =>
  rw[Zl λz=>by
   obtain⟨m,hm⟩:=l8 z;rw[hg]at hm;cases hm]
  rfl
 |some m =>
  rw[Zn (by
   refine Yp.mpr ⟨List.mem_range'_1.mpr (by lia),by rw[hg];rfl⟩)]
  rfl
def mM(S:St)(a:Vx)(n:Nat):(row S a n).2.2.2=steps S a n:=by
 unfold row;split<;>rfl
noncomputable abbrev Pl:=Nat×Nat
noncomputable def tP(p:Pl):T:=.tup [.int p.1,.int p.2]
noncomputable def JS(w t:Tx):Vx:=(List.range (t.length+1)).filter λe=>w.isSuffixOf (t.take e)
def IW(a:List Tx)(w:Tx):List Pl:=(a.zipIdx 0).flatMap λp=>(JS w p.1).map λe=>(p.2,e)
noncomputable def Pt(a:List Tx)(w:Tx):Prop:=w=[]\/∃t∈a,w <:+: t
def vD:p∈IW d w ↔ ∃t,d[p.1]?=Z t/\p.2<=t.length/\w <:+ t.take p.2:=by
 unfold IW;rw[List.mem_flatMap];constructor
 ·rintro⟨⟨t,n⟩,f,h⟩;obtain⟨e,he,rfl⟩:=Za.mp h;obtain⟨b,a⟩:=Yp.mp he;have:=ZJ.mp b;exact⟨t,by simpa using List.mem_zipIdx_iff_getElem?.mp f,Nat.le_of_lt_succ this,Yu.mp a⟩
 ·rintro⟨t,b,a,g⟩;exact⟨(t,p.1),List.mem_zipIdx_iff_getElem?.mpr b,Za.mpr ⟨p.2,Yp.mpr ⟨ZJ.mpr (Nat.lt_succ_of_le a),Yu.mpr g⟩,rfl⟩⟩
def Fg(hw:w≠[]):IW d w≠[]↔Pt d w:=by
 rw[show IW d w≠[] ↔ ∃p,p∈IW d w from⟨λh=>List.exists_mem_of_ne_nil _ h,λ⟨p,h⟩ e=>by rw[e]at h;cases h⟩];constructor
 ·rintro⟨p,g⟩;obtain⟨t,m,_,l⟩:=vD.mp g;exact .inr ⟨t,Yz m,l.isInfix.trans (Wk _ _).isInfix⟩
 ·rintro (h | ⟨t,f,a,b,e⟩)
  ·exact absurd h hw
  ·obtain⟨i,j⟩:=List.mem_iff_getElem?.mp f;refine⟨(i,(a++w).length),vD.mpr ⟨t,j,by rw[← e,Zv (as:=a++w)];exact YI _ _,?_⟩⟩;rw[← e,List.take_left];exact List.suffix_append a w
def Et{α:Type}(g:α->T)(l:List α):∀n:Nat,fW n (l.map g)=(l.zipIdx n).map λp=>T.tup [.int p.2,g p.1]:=by
 induction l with
 |nil=>intro n;rfl
 |cons t l a=>intro n;rw[W6,Zj,Zj,fW,a (n+1)]
def enum_zip(l:List Tx)(n:Nat):fW n (l.map T.str)=(l.zipIdx n).map λp=>T.tup [.int p.2,.str p.1]:=Et T.str l n
end T56
end
section
namespace AU
section
def I.OK(H:I L S nd wd):∀(z u:Wd){n:Nat},nd (u++z)=Z n->∃m,nd u=Z m:=by
 intro z
 induction z with
 |nil=>simp_all
 |cons c z a =>
  intro u n h;rw[Xb]at h;obtain⟨m,hm⟩:=a _ h;exact H.pre hm
def I.ext(H:I L S nd wd):∀(z x y:Wd){n:Nat},nd x=Z n->nd y=Z n->nd (x++z)=nd (y++z):=by
 intro z
 induction z with
 |nil=>intro x y n d b;rw[ZQ,ZQ,d,b]
 |cons c z g =>
  intro x y n d b;rw[Xb x,Xb y];have e:=(H.wy d c).symm.trans (H.wy b c);cases a:nd (x++[c]) with
  |some m=>exact g _ _ a (e ▸ a)
  |none =>
   have f:∀u,nd u=L->nd (u++z)=L:=λu i=>by
    cases h:nd (u++z) with
    |none=>rfl
    |some k =>
     obtain⟨m,hm⟩:=H.OK z u h;rw[i]at hm;cases hm
   rw[f _ a,f _ (e ▸ a)]
def I.head(H:I L S nd wd)(b:n<wd.length)(e:W wd n=x++y):∃m,m<wd.length/\W wd m=x:=by
 have a:=(H.top b)
 rw[e]at a;obtain⟨m,hm⟩:=H.OK y x a;have hl:=H.lt hm;refine⟨m,hl,?_⟩;have:=H.ext y _ _ hm (H.top hl);rw[a]at this;have s:=(H.sf this.symm).length_le;rw[e,Zv,Zv]at s;exact((H.sf hm).eq_of_length_le (by lia)).symm
noncomputable def ends(b:List Wd):List Wd:=b.flatMap λt=>(List.range t.length).map λk=>t.drop k
def vI{l:Vx}(a:l.Nodup)(h:k<l.length):l.idxOf l[k]=k:=by
 grind
end
noncomputable def P9(S:St)(t:Nat):Nat:=match S.lk.getD t L with
 |none=>0
 |some m=>S.lg.getD m 0+1
def sw(S:St)(a:List Wd)(t:Nat):Wd:=(W a t).drop ((W a t).length-P9 S t)
section
variable{P:Wd->Prop}{S:St}{nd:Wd->Option Nat}{wd:List Wd}(H:I none S nd wd)
include H
theorem I.sh(a:t<wd.length):P9 S t<=(W wd t).length/\∀y,nd y=Z t↔y <:+ W wd t/\P9 S t<=y.length:=by
 unfold P9;by_cases h:t=0
 ·subst h;rw[H.NR,H.wz];exact⟨Yw _,λy=>⟨λz=>⟨by rw[H.zero z];exact Z3 _,Yw _⟩,λz=>by rw[YV.mp z.1];exact H.z⟩⟩
 ·obtain⟨m,e,⟨f,_⟩,g,d,b⟩:=H.lk (Yy h) a (by simp);rw[e];show S.lg.getD m 0+1<=_/\∀y,_↔_/\S.lg.getD m 0+1<=_;rw[H.lg m f];exact⟨d,λy=>⟨λz=>⟨H.sf z,(H.low (by simp) e z).1⟩,λz=>b y z.1 z.2⟩⟩
theorem I.OD(a:t<wd.length):(sw S wd t).length=P9 S t:=by
 have:=(H.sh a).1;unfold sw;rw[Z4];lia
theorem I.L5(a:t<wd.length):nd (sw S wd t)=Z t:=((H.sh a).2 _).mpr ⟨Wh _ _,by rw[H.OD a];exact Zm _⟩
end
end AU
end
section
namespace T56
open VS AU
def lZ{α:Type}(f:α->T)(l:List α)(d:α)(h:0<l.length):aA (m,.lst (l.map f)) (n,.int (-1))=Z (sub m (f (l.getD (l.length-1) d))):=by
 show ((JL (l.map f).length (-1)).bind _)=_;have:JL (l.map f).length (-1)=Z (l.length-1):=by
  unfold JL;rw[Zy,Zl (by decide),Zn (by lia)];congr 1;lia
 rw[this,Zq,Zd,Zr,Zs (by omega)];rfl
noncomputable abbrev Je(l:Vx):T:=.lst (l.map λ(n:Nat)=>T.int (n:Int))
abbrev ix(a:List Tx)(m:Nat):Nat:=(aj a).idxOf m
def num(b:List Tx)(a:Wd->Option Nat)(w:Tx):Nat:=(aj b).idxOf ((a w).getD 0)
noncomputable def vB(v:Nat×Nat):T:=.tup [.int (v.1:Int),.str [v.2]]
noncomputable abbrev Mg:=List (Nat×(Nat×Nat))
def bT(m:Mg):List (T×T):=m.map λp=>(T.int (p.1:Int),vB p.2)
noncomputable def pL(m:Mg)(j:Nat)(v:Nat×Nat):Mg:=if j∈m.map (·.1) then m.map (λp=>if p.1=j then (p.1,v) else p) else m++[(j,v)]
def m6(a b:Nat):eqT (T.int (a:Int)) (T.int (b:Int))=decide (a=b):=by
 by_cases h:a=b
 ·simp[h]
 ·rw[ZV h];exact beq_eq_false_iff_ne.mpr (by lia)
def CF(m:Mg)(j:Nat)(v:Nat×Nat):dput (bT m) (.int (j:Int)) (vB v)=bT (pL m j v):=by
 have e:(bT m).any (λp=>eqT p.1 (.int (j:Int)))=decide (j∈m.map (·.1)):=by
  induction m with
  |nil=>rfl
  |cons a m d =>
   rw[show bT (a :: m)=(T.int (a.1:Int),vB a.2) :: bT m from rfl,Xn,d,m6,Zj];by_cases q:a.1=j
   ·simp[q]
   ·have b:¬j=a.1:=λz=>q z.symm;simp[q,b]
 unfold dput pL;rw[e];by_cases q:j∈m.map (·.1)
 ·rw[Zn (by simpa using q),Zn q];unfold bT;rw[ZO,ZO];apply Y1;intro p _;simp only[Function.comp,m6];by_cases r:p.1=j
  ·simp[r]
  ·simp[r]
 ·rw[Zl (by simpa using q),Zl q];simp[bT]
def Am(m:Mg)(j:Nat)(v:Nat×Nat):(pL m j v).length<=m.length+1:=by
 unfold pL;split<;>simp
def p6(m:Mg)(j:Nat)(v:Nat×Nat)(k:Nat)(h:k∈m.map (·.1)\/k=j):k∈(pL m j v).map (·.1):=by
 unfold pL;split
 ·rename_i q;obtain⟨p,a,rfl⟩:=Za.mp (h.elim id λz=>z ▸ q);refine Za.mpr ⟨_,Za.mpr ⟨p,a,rfl⟩,?_⟩;by_cases r:p.1=j
  ·rw[Zn r]
  ·rw[Zl r]
 ·rw[ZD,ZU];exact h.imp id λz=>by simp[z]
def y8(m:Mg)(j:Nat)(v:Nat×Nat)(q:Nat×(Nat×Nat))(h:q∈pL m j v):q∈m\/q=(j,v):=by
 unfold pL at h;split at h
 ·obtain⟨p,a,rfl⟩:=Za.mp h;by_cases r:p.1=j
  ·rw[Zn r];right;rw[r]
  ·rw[Zl r];exact .inl a
 ·rcases ZU.mp h with h | h
  ·exact .inl h
  ·exact .inr (ZZ.mp h)
def HS(m:Mg)(i:Nat)(h:i∈m.map (·.1)):∃v,eX (bT m) (.int (i:Int))=Z (vB v)/\(i,v)∈m:=by
 induction m with
 |nil=>simp at h
 |cons a m d =>
  obtain⟨j,v⟩:=a;rw[show bT ((j,v) :: m)=(T.int (j:Int),vB v) :: bT m from rfl];unfold eX;by_cases q:j=i
  ·subst q;exact⟨v,by rw[Z6,m6];simp,Zu⟩
  ·rw[Z6,m6,ZV q];rw[Zj,Zk]at h;obtain⟨b,f,e⟩:=d (h.resolve_left λz=>q z.symm);exact⟨b,f,Zw _ e⟩
def CG{U:Env}{v:T}(h:U[i]?=Z (Z (.ow (.dct 0 l))))(he:e U=Z (m,v))(b:k U=Z (n,a))(g:iK a=O)(f:IS v=O)(d:l.length<16777216):pd i k e U=Z (.nx (U.set i (Z (.ow (.dct 0 (dput l a v)))))):=by
 unfold pd;rw[he,Zq,h,b];exact Zn ⟨g,f,d⟩
noncomputable def KO(S:St):Nat->Nat->Vx
 |0,m=>[m]
 |k+1,m=>m :: match S.lk.getD m L with
  |none=>[]
  |some r=>KO S k r
def DZ{l:Vr}(a:i<l.length):aY [.lst l,.int (i:Int)]=Z (.fr,.non):=by
 refine Dm (U:=[pc (.lst l),Q0 (i:Int)]) Y ?_;refine(lb (m:=.fr) (AD (m:=.fr) (x:=R) ?_ (λ_=>?_) (λh=>by cases h))).trans rfl
 ·exact qW (b:=O) Y
 ·refine qW (m:=.fr) (b:=O) (rJ Y Y ?_ (eA (xv Y Y) Y) ?_)
  ·show Z (Md.fr,T.bl (decide ((0:Int)<=(i:Int))))=_;rw[decide_eq_true (by lia)]
  ·show Z (Md.fr,T.bl (decide ((i:Int)<(l.length:Int))))=_;rw[decide_eq_true (by lia)]
section
variable{bk:List Tx}{nd:Wd->Option Nat}{wd:List Wd}(H:K (Hd bk) (aG bk) nd wd)(hM:∀x,x∈aj bk↔x<(aG bk).lg.length)(h0:(aj bk).idxOf 0=0)
include hM
theorem Dp(a:m<(aG bk).lg.length):ix bk m<(tabOf bk).length:=by
 unfold tabOf tab;rw[Zy];exact Ya.mpr ((hM m).mpr a)
theorem oB{m:Nat}(d:m<(aG bk).lg.length){n:Md}(f:a U=Z (.pu,xa (tabOf bk)))(e:b U=Z (n,.int (ix bk m:Int))):e2 aA a b U=Z (.fr,gH (row (aG bk) (aj bk) m)):=by
 refine e2v f e ?_;have hl:=Ya.mpr ((hM m).mpr d);unfold xa tabOf tab;rw[ZO,m9 (gH ∘ row (aG bk) (aj bk)) (aj bk) (ix bk m) 0 hl,Zr,Zs hl];show Z (up .pu (gH (row (aG bk) (aj bk) (aj bk)[ix bk m])))=_;rw[Xv _];unfold up;rw[jP];rfl
include H
theorem uK(a:m<wd.length):(row (aG bk) (aj bk) m).2.1=(W wd m).length:=by
 unfold row;rw[← H.i.lg m a];split
 ·rename_i h;by_cases h0:m=0
  ·rw[h0,H.i.lg 0 (by exact Nat.zero_lt_of_lt a),H.i.wz];rfl
  ·obtain⟨r,e,_⟩:=H.i.lk (Yy h0) a (by simp);rw[h]at e;cases e
 ·rfl
include h0
def wl(b:List Tx)(a:Wd->Option Nat)(p:Tx):Vx:=(List.range (p.length+1)).map λi=>num b a (p.take i)
omit H hM h0 in
theorem vM(p:Tx)(c:Nat):wl bk nd (p++[c])=wl bk nd p++[num bk nd (p++[c])]:=by
 unfold wl;rw[Zv,ZN,List.range_succ,ZD];congr 1
 ·refine Y1 λi a=>?_;have:=ZJ.mp a;rw[List.take_append_of_le_length (by exact Nat.le_of_lt_succ this)]
 ·show [num bk nd ((p++[c]).take (p.length+1))]=_;rw[Yi (by rw[Zv];exact Zm _)]
omit H hM h0 in
theorem jA(h:nd w=Z m):num bk nd w=ix bk m:=by
 unfold num;rw[h];rfl
theorem wk(d:Tx):∀(v p:Tx)(f b:Vu),(nd (p++v)).isSome=O->Az v->p.length+v.length<1000000->∃h g,forL (aS 3) lU (v.map s1) [pc (xa (tabOf bk)),Q2 d,oc (Je (wl bk nd p)),f,b]=Z (.nx [pc (xa (tabOf bk)),Q2 d,oc (Je (wl bk nd (p++v))),h,g]):=by
 intro v
 induction v with
 |nil=>exact λp f b _ _ _=>⟨f,b,by rw[ZQ];rfl⟩
 |cons c v u =>
  intro p f b j s hl;rw[Ze]at hl;obtain⟨C,t⟩:=Yo.mp j;rw[Xb]at t j;obtain⟨q,o⟩:=H.i.OK v (p++[c]) t;obtain⟨m,l⟩:=H.i.pre o;have B:m<(aG bk).lg.length:=by rw[← H.i.len];exact H.i.lt l
  have A:(wl bk nd p).length=p.length+1:=by unfold wl;rw[Zy,ZX]
  have w:e2 aA (aa 2) (Q3 (-1)) [pc (xa (tabOf bk)),Q2 d,oc (Je (wl bk nd p)),pc (s1 c),b]=Z (.fr,.int (ix bk m:Int)):=by
   refine e2v Y Y ?_;rw[lZ (λ(n:Nat)=>T.int (n:Int)) (wl bk nd p) 0 (by lia),A,WI,← jA l];have:(wl bk nd p).getD p.length 0=num bk nd p:=by
    unfold wl;rw[Zr,Zd,Yf (ZG _),X0,Wj];rfl
   rw[this];rfl
  have hg:gW (steps (aG bk) (aj bk) m) c=Z (ix bk q):=by rw[oC _ _ _ _ (s c Zu),H.i.wy l c,o];rfl
  have ap:=oY (i:=2) (U:=[pc (xa (tabOf bk)),Q2 d,oc (Je (wl bk nd p)),pc (s1 c),pc (Jk (steps (aG bk) (aj bk) m))]) (e:=e2 Ks (aa 4) (aa 3)) Y (uH Y Y hg) (by rw[Zy];lia);rw[show (wl bk nd p).map (λ(n:Nat)=>T.int (n:Int))++[T.int (ix bk q:Int)]=(wl bk nd (p++[c])).map λ(n:Nat)=>T.int (n:Int) from by rw[vM,ZD,jA o];rfl]at ap;obtain⟨h,g,e⟩:=u (p++[c]) (pc (s1 c)) (pc (Jk (steps (aG bk) (aj bk) m))) j (λx z=>s x (Zw _ z)) (by rw[Zv,ZN];lia);rw[Xb p c v];refine⟨h,g,(dH Y (sq (by
   refine aw (m:=.fr) (eA (xv (r:=ah) (x:=(.fr,LG (steps (aG bk) (aj bk) m))) (e2v (oB hM B Y w) (y:=(.fr,.int 3)) Y ?_) Y) (HB _ _ _)) (by decide) (by show 4<5;decide);rw[← mM];show Z (up .fr (LG _))=_;unfold up;rw[mG];rfl) (sq (nj (m:=.fr) ?_ Y) ap))).trans e⟩
  have:=zx (U:=[pc (xa (tabOf bk)),Q2 d,oc (Je (wl bk nd p)),pc (s1 c),pc (Jk (steps (aG bk) (aj bk) m))]) (a:=aa 4) (e:=aa 3) Y Y;rw[hg]at this;exact this
theorem yL{w:Tx}(hw:(nd w).isSome=O)(a:Az w)(g:w.length<=1000):ku [xa (tabOf bk),.str w]=Z (.fr,Je (wl bk nd w)):=by
 obtain⟨f,d,e⟩:=wk H hM h0 w w [] L L (by rw[YU];exact hw) a (by show 0+_<_;lia);have b:wl bk nd []=[0]:=by
  show [num bk nd []]=_;rw[jA H.i.z,show ix bk 0=0 from h0]
 rw[b]at e;exact bI Y (sq Y (sq ((cA Y Y).trans e) Y))
omit h0
theorem GT:∀(k m:Nat)(acc:Vx)(F:Nat),m<wd.length->(W wd m).length<=k->k+1<F->acc.length+k<1000000->dP (eY (aa 1)) iS F [pc (xa (tabOf bk)),Q0 (ix bk m:Int),oc (Je acc)]=Z (.nx [pc (xa (tabOf bk)),pc .non,oc (Je (acc++(KO (aG bk) k m).map (ix bk)))]):=by
 intro k
 induction k using Nat.strongRecOn with
 |ind k ih =>
  intro m acc F hm hk hF ha;obtain⟨F,rfl⟩:∃j,F=j+2:=⟨F-2,by lia⟩
  have J8:m<(aG bk).lg.length:=by rw[← H.i.len];exact hm
  have a1:=oY (i:=2) (U:=[pc (xa (tabOf bk)),Q0 (ix bk m:Int),oc (Je acc)]) (e:=aa 1) Y Y (by rw[Zy];lia);rw[show acc.map (λ(n:Nat)=>T.int (n:Int))++[T.int (ix bk m:Int)]=(acc++[ix bk m]).map λ(n:Nat)=>T.int (n:Int) from by rw[ZD];rfl]at a1;have st:dP (eY (aa 1)) iS (F+2) [pc (xa (tabOf bk)),Q0 (ix bk m:Int),oc (Je acc)]=dP (eY (aa 1)) iS (F+1) [pc (xa (tabOf bk)),pc (Jo (((aG bk).lk.getD m L).map (ix bk))),oc (Je (acc++[ix bk m]))]:=kD Y ((av a1).trans (by
   refine aw (m:=.fr) (e2v (oB hM J8 (n:=.fr) Y Y) (y:=(.fr,.int 2)) Y ?_) (by decide) (by show 1<3;decide);show Z (up .fr (Jo (row (aG bk) (aj bk) m).2.2.1))=_;unfold row;split<;>(rename_i e;rw[e];rfl)))
  rw[st];cases hl:(aG bk).lk.getD m L with
  |none =>
   rw[show KO (aG bk) k m=[m] from by cases k with | zero=>rfl | succ k=>rw[KO,hl]];exact eT Y
  |some r =>
   obtain⟨r',e,⟨g1,_⟩,_,g2,_⟩:=H.i.lk (Yy λz=>by rw[z,H.i.NR]at hl;cases hl) hm (by simp);rw[hl]at e;cases e;obtain⟨k,rfl⟩:∃j,k=j+1:=⟨k-1,by lia⟩
   have:=ih k (ZG _) r (acc++[ix bk m]) (F+1) g1 (by lia) (by exact Xw hF) (by rw[Zv,ZN];lia);rw[show KO (aG bk) (k+1) m=m :: KO (aG bk) k r from by rw[KO,hl]];exact this.trans (by rw[Z0];rfl)
theorem CM(a:m<wd.length)(b:(W wd m).length<=1000):nN [xa (tabOf bk),.int (ix bk m:Int)]=Z (.fr,Je ((KO (aG bk) 1000 m).map (ix bk))):=by
 have d:m<(aG bk).lg.length:=by rw[← H.i.len];exact a
 exact bI Y ((av (by
  show (((aH aY _ _).map _).map _)=_;rw[aE (xv (x:=(.pu,xa (tabOf bk))) Y (xv (r:=ah) (x:=(.fr,.int (ix bk m:Int))) Y Y)) (show aY [xa (tabOf bk),.int (ix bk m:Int)]=Z (.fr,.non) from DZ (by rw[Zy];exact Dp hM d))];rfl)).trans ((av Y).trans ((av (GT H hM 1000 m [] uZ a b (by decide) (by decide))).trans Y)))
end
def As:Pt f w ↔ ∃p,Hd f p/\w <:+ p:=by
 constructor
 ·rintro (rfl | ⟨t,d,a,b,rfl⟩)
  ·exact⟨[],.inl Y,Z3 _⟩
  ·exact⟨a++w,.inr ⟨_,d,⟨b,rfl⟩⟩,⟨a,rfl⟩⟩
 ·rintro⟨p,rfl | ⟨t,d,g⟩,e⟩
  ·exact .inl (YV.mp e)
  ·exact .inr ⟨t,d,e.isInfix.trans g.isInfix⟩
def vG(H:K (Hd b) (aG b) o a):∀(k m:Nat),m<a.length->(W a m).length<=k->(∀j,j∈KO (aG b) k m↔j<a.length/\W a j <:+ W a m)/\(KO (aG b) k m).Nodup:=by
 have top:∀{j:Nat},j<a.length->W a j=[]->j=0:=λs e=>by
  have:=H.i.top s;rw[e,H.i.z]at this;exact(Zi this).symm
 have g:∀j,j∈([0])↔j<a.length/\W a j <:+ W a 0:=λj=>by
  rw[ZZ,H.i.wz,YV];exact⟨λe=>by rw[e];exact⟨H.i.lt H.i.z,H.i.wz⟩,λe=>top e.1 e.2⟩
 intro k
 induction k with
 |zero =>
  intro m hm l;have e:=top hm (Xz.mp (Nat.le_zero.mp l));subst e;exact⟨g,Zf.mpr ⟨(λz=>nomatch z),Yb⟩⟩
 |succ k p =>
  intro m hm l;by_cases h0:m=0
  ·subst h0;have:KO (aG b) (k+1) 0=[0]:=by unfold KO;rw[H.i.NR]
   rw[this];exact⟨g,Zf.mpr ⟨(λz=>nomatch z),Yb⟩⟩
  ·obtain⟨r,e,⟨u,_⟩,n,w,t⟩:=H.i.lk (Yy h0) hm (by simp);have v:KO (aG b) (k+1) m=m :: KO (aG b) k r:=by
    conv=>lhs;unfold KO
    rw[e]
   obtain⟨h,q⟩:=p r u (by lia);rw[v];refine⟨λj=>?_,Zf.mpr ⟨λz=>?_,q⟩⟩
   ·rw[Zk,h];constructor
    ·rintro (rfl | ⟨f,d⟩)
     ·exact⟨hm,Z3 _⟩
     ·exact⟨f,d.trans n⟩
    ·rintro⟨f,d⟩;by_cases hl:(W a r).length<(W a j).length
     ·have:=t _ d hl;rw[H.i.top f]at this;exact .inl (Zi this)
     ·exact .inr ⟨f,da d n (by exact ZI hl)⟩
   ·have:=((h m).mp z).2.length_le;lia
def A7(H:K (Hd b) (aG b) d e)(g:(W e m).length<=1000)(a:d p=Z m)(f:Hd b p)(hw:d w=Z j):j∈KO (aG b) 1000 m↔w <:+ p:=by
 rw[(vG H 1000 m (H.i.lt a) g).1 j];constructor
 ·exact λh=>(H.i.sf hw).trans (h.2.trans (((H.eq (H.i.top (H.i.lt a)) a).mp Y p f).mpr (Z3 _)))
 ·exact λh=>⟨H.i.lt hw,(((H.eq hw (H.i.top (H.i.lt hw))).mp Y p f).mp h).trans (H.i.sf a)⟩
abbrev E5(f:List Tx)(b:Mg)(e d a:Vu):Env:=[pc (xa (tabOf f)),oc (.dct 0 (bT b)),e,d,a]
def uA(b:List Tx)(a:List Wd)(q:Nat×(Nat×Nat)):Prop:=∃t p,q.1=ix b t/\q.2.1=ix b p/\t<a.length/\p<a.length/\W a t=W a p++[q.2.2]
section
variable{bk:List Tx}{nd:Wd->Option Nat}{wd:List Wd}(H:K (Hd bk) (aG bk) nd wd)(hM:∀x,x∈aj bk↔x<(aG bk).lg.length)(hN:(aj bk).Nodup)
include H hM
theorem zu{c:Nat}(d:p<wd.length)(h:(c,j)∈steps (aG bk) (aj bk) p):∃t,t<wd.length/\j=ix bk t/\nd (W wd p++[c])=Z t:=by
 obtain⟨g,f,e⟩:=Za.mp h;obtain⟨rfl,rfl⟩:=XM e;obtain⟨t,b⟩:=l8 f;have a:=H.i.wy (H.i.top d) g;rw[b]at a;exact⟨t,H.i.lt a.symm,by rw[b];rfl,a.symm⟩
theorem sb1{c i:Nat}(d:p<wd.length)(a:t<wd.length)(b:Mg)(e:b.length<16777216):eJ (E5 bk b (Q0 (i:Int)) (pc (gH (row (aG bk) (aj bk) p))) (pc (Ob (c,ix bk t))))=Z (.nx (E5 bk (if (W wd t).length=(W wd p).length+1 then pL b (ix bk t) (i,c) else b) (Q0 (i:Int)) (pc (gH (row (aG bk) (aj bk) p))) (pc (Ob (c,ix bk t))))):=by
 have lg:∀{x},x<wd.length->aA (.fr,gH (row (aG bk) (aj bk) x)) (.fr,.int 1)=Z (.fr,.int ((W wd x).length:Int)):=λh=>by rw[← uK H hM h];rfl
 have cd:e2 oEq (e2 aA (e2 aA (aa 0) (e2 aA (aa 4) (Q3 1))) (Q3 1)) (e2 bJ (e2 aA (aa 3) (Q3 1)) (Q3 1)) (E5 bk b (Q0 (i:Int)) (pc (gH (row (aG bk) (aj bk) p))) (pc (Ob (c,ix bk t))))=Z (.fr,.bl (decide ((W wd t).length=(W wd p).length+1))):=by
  refine e2v (e2v (oB hM ((λh=>by rw[← H.i.len];exact h) a) Y Y) Y (lg a)) (e2v (e2v (by
  show Z (up .pu (gH _))=_;unfold up;rw[jP];rfl) Y (lg d)) Y Y) ?_
  exact iY Y Y (m6 _ _)
 by_cases q:(W wd t).length=(W wd p).length+1
 ·rw[Zn q];refine Pr (cd.trans (by rw[decide_eq_true q])) ((CG (v:=vB (i,c)) Y Y Y Y Y (by rw[bT,Zy];exact e)).trans ?_);rw[CF];rfl
 ·rw[Zl q];exact nj (cd.trans (by rw[ZV q])) Y
theorem RS(r:p<wd.length)(G:i=ix bk p):∀(ws:List (Nat×Nat))(b:Mg)(l:Vu),(∀w∈ws,w∈steps (aG bk) (aj bk) p)->(∀q∈b,uA bk wd q)->b.length+ws.length<1000000->∃d m,forL (aS 4) eJ (ws.map Ob) (E5 bk b (Q0 (i:Int)) (pc (gH (row (aG bk) (aj bk) p))) l)=Z (.nx (E5 bk d (Q0 (i:Int)) (pc (gH (row (aG bk) (aj bk) p))) m))/\(∀q∈d,uA bk wd q)/\(∀k∈b.map (·.1),k∈d.map (·.1))/\(∀c t,(c,ix bk t)∈ws->t<wd.length->nd (W wd p++[c])=Z t->W wd t=W wd p++[c]->ix bk t∈d.map (·.1))/\d.length<=b.length+ws.length:=by
 intro ws
 induction ws with
 |nil=>exact λb l _ g _=>⟨b,l,rfl,g,λk h=>h,λc t h=>(λh=>nomatch h) h,Zm _⟩
 |cons w ws F =>
  intro b l hw g hl;rw[Ze]at hl;obtain⟨c,j⟩:=w;obtain⟨t,v,rfl,x⟩:=zu H hM r (hw _ Zu);have bo:=sb1 H hM (c:=c) (i:=i) r v b (by omega);obtain⟨a,A⟩:∃a,a=if (W wd t).length=(W wd p).length+1 then pL b (ix bk t) (i,c) else b:=⟨_,rfl⟩
  rw[← A]at bo;have e1:(∀q∈a,uA bk wd q)/\(∀k∈b.map (·.1),k∈a.map (·.1))/\(W wd t=W wd p++[c]->ix bk t∈a.map (·.1))/\a.length<=b.length+1:=by
   rw[A];split
   ·rename_i o;refine⟨λq Q=>?_,λk f=>p6 b _ _ k (.inl f),λ_=>p6 b _ _ _ (.inr Y),Am _ _ _⟩;rcases y8 b _ _ q Q with z | rfl
    ·exact g q z
    ·exact⟨t,p,rfl,G,v,r,((H.i.sf x).eq_of_length (by rw[o,Zv];rfl)).symm⟩
   ·rename_i o;exact⟨g,λk f=>f,λz=>absurd (by rw[z,Zv];rfl) o,YQ _⟩
  obtain⟨N,M,J,X⟩:=e1;obtain⟨d,m,e,E,u,D,U⟩:=F a (pc (Ob (c,ix bk t))) (λw h=>hw w (Zw _ h)) N (by omega);refine⟨d,m,(dH Y bo).trans e,E,λk f=>u k (M k f),λP C hm n s y=>?_,by rw[Ze];omega⟩;rcases Zk.mp hm with z | z
  ·obtain⟨B,S⟩:=XM z;subst B;rw[x]at s;cases s;exact u _ (J y)
  ·exact D P C z n s y
include hN
theorem Ep(a:i<(aj bk).length):ix bk (aj bk)[i]=i:=vI hN a
theorem sb3:∀(r:Vx)(i:Nat)(b:Mg)(j f a:Vu),(aj bk).drop i=r->(∀q∈b,uA bk wd q)->b.length+30*r.length<1000000->(∀x,x∈aj bk->x<wd.length)->∃d s o n,forL (nr [aS 2,aS 3]) gY (fW i ((r.map (row (aG bk) (aj bk))).map gH)) (E5 bk b j f a)=Z (.nx (E5 bk d s o n))/\(∀q∈d,uA bk wd q)/\(∀k∈b.map (·.1),k∈d.map (·.1))/\∀p∈r,∀c t,t<wd.length->nd (W wd p++[c])=Z t->W wd t=W wd p++[c]->97<=c/\c<=122->ix bk t∈d.map (·.1):=by
 intro r
 induction r with
 |nil=>exact λi b j f a _ g _ _=>⟨b,j,f,a,rfl,g,λk h=>h,λp h=>nomatch h⟩
 |cons p r U =>
  intro i b j f a hd g hl D;rw[Ze]at hl;have A:=Nat.lt_of_not_le λy=>by rw[Wb y]at hd;cases hd
  rw[Xa A]at hd;obtain⟨M,hd2⟩:=List.cons.inj hd;have F:=D p (by rw[← M];exact Z5 A);have hi:i=ix bk p:=by rw[← M];exact(Ep H hM hN A).symm
  have X:(steps (aG bk) (aj bk) p).length<=26:=by
   unfold steps sk;rw[Zy];exact ZP (Yc _ _) (by decide)
  obtain⟨b1,n,e,g1,g2,g3,g4⟩:=RS H hM F hi (steps (aG bk) (aj bk) p) b a (λw h=>h) g (by omega);obtain⟨d,s,o,l,e',S,C,Q⟩:=U (i+1) b1 (Q0 (i:Int)) (pc (gH (row (aG bk) (aj bk) p))) n hd2 g1 (by omega) D;refine⟨d,s,o,l,(dH Y ((cA (m:=.fr) ?_ Y).trans e)).trans e',S,λk hk=>C k (g2 k hk),λB Pw c t E v J G=>?_⟩
  ·have er:e2 aA (aa 3) (Q3 3) (E5 bk b (Q0 (i:Int)) (pc (gH (row (aG bk) (aj bk) p))) a)=Z (.fr,LG (steps (aG bk) (aj bk) p)):=by
    refine e2v (x:=(.fr,gH (row (aG bk) (aj bk) p))) ?_ Y ?_
    ·show Z (up .pu (gH _))=_;unfold up;rw[jP];rfl
    ·rw[← mM];show Z (up .fr (LG _))=_;unfold up;rw[mG];rfl
   show (e2 aA (aa 3) (Q3 3) _).bind _=_;rw[er];rfl
  ·rcases Zk.mp Pw with rfl | z
   ·refine C _ (g3 c t ?_ E v J);have P:=oC (aG bk) (aj bk) B c G;rw[H.i.wy (H.i.top F) c,v]at P;obtain⟨q,N,u⟩:=Zt.mp P;have:=List.find?_some N;obtain⟨q1,q2⟩:=q;cases (by simpa using this);cases (u);exact(List.mem_of_find?_eq_some N)
   ·exact Q B z c t E v J G
theorem ye(w:wd.length<=241)(v:(aj bk).length=wd.length)(o:∀t,t<wd.length->Az (W wd t)):∃b:Mg,eB [xa (tabOf bk)]=Z (.fr,.dct 0 (bT b))/\(∀q∈b,uA bk wd q)/\∀t,0<t->t<wd.length->ix bk t∈b.map (·.1):=by
 obtain⟨b,u,s,r,e,n,_,m⟩:=sb3 H hM hN (aj bk) 0 [] L L L Y (λq h=>nomatch h) (by show 0+_<_;omega) (λx h=>by rw[H.i.len];exact(hM x).mp h);refine⟨b,bI Y (sq Y (sq ((cA Y Y).trans e) Y)),n,λt h0 a=>?_⟩;have j:W wd t≠[]:=λz=>by
  have:=H.i.top a;rw[z,H.i.z]at this;cases this;exact absurd h0 (YR _)
 obtain⟨x,c,f⟩:∃x c,W wd t=x++[c]:=⟨(W wd t).dropLast,(W wd t).getLast j,(List.dropLast_concat_getLast j).symm⟩
 obtain⟨p,l,d⟩:=H.i.head a f;have g:W wd t=W wd p++[c]:=by rw[d];exact f
 exact m p ((hM p).mpr (by rw[← H.i.len];exact l)) c t a (by rw[← g];exact H.i.top a) g (o t a c (by rw[f];exact ZE _ Zu))
end
def zI{α:Type}(l:List α)(k:Nat)(h:k<=l.length):cut l (Z (k:Int)) L=l.drop k:=by
 have a:clip l.length (k:Int)=k:=by
  unfold clip;rw[Zl (by lia),Yr,YW h]
 show (l.drop (clip l.length (k:Int))).take (l.length-clip l.length (k:Int))=_;rw[a];exact Yi (by rw[Z4];exact Zm _)
def sh(a:List Tx)(t:Nat):Nat:=(row (aG a) (aj a) t).1
section
variable{bk:List Tx}{nd:Wd->Option Nat}{wd:List Wd}(H:K (Hd bk) (aG bk) nd wd)(hM:∀x,x∈aj bk↔x<(aG bk).lg.length)(hN:(aj bk).Nodup)(h0:(aj bk).idxOf 0=0)(hl:wd.length<=241)(hm:(aj bk).length=wd.length)(KI:∀t,t<wd.length->Az (W wd t)/\(W wd t).length<=120)
include H hM
theorem zL(d:s<wd.length)(b:t<wd.length)(h:ix bk s=ix bk t):s=t:=by
 have g:∀{x},x<wd.length->(aj bk)[ix bk x]?=Z x:=λ{x} a=>by
  rw[Zs (Ya.mpr ((hM x).mpr (by rw[← H.i.len];exact a))),Xv]
 have:=g d;rw[h,g b]at this;exact(Zi this).symm
theorem we(b:t<wd.length):sh bk t<=(W wd t).length/\∀y,nd y=Z t↔y <:+ W wd t/\sh bk t<=y.length:=by
 unfold sh row;by_cases h:t=0
 ·subst h;rw[H.i.NR,H.i.wz];refine⟨Yw _,λy=>⟨λz=>⟨by rw[H.i.zero z];exact Z3 _,Yw _⟩,λz=>by rw[YV.mp z.1];exact H.i.z⟩⟩
 ·refine L2.ak λl a=>?_;obtain⟨m,e,⟨g,_⟩,j,f,d⟩:=H.i.lk (Yy h) b (by simp);refine a ?_;rw[e];show (aG bk).lg.getD m 0+1<=_/\∀y,_↔_/\(aG bk).lg.getD m 0+1<=_;rw[H.i.lg m g];exact⟨f,λy=>⟨λz=>⟨H.i.sf z,(H.i.low (by simp) e z).1⟩,λz=>d y z.1 z.2⟩⟩
include h0
theorem Bv(D:∀q∈b,uA bk wd q)(C:∀t,0<t->t<wd.length->ix bk t∈b.map (·.1)):∀(k t:Nat)(u:Tx)(F:Nat)(a:Vu),(W wd t).length<=k->t<wd.length->k<F->u.length+k<=1000->∃l,dP (e2 Kr (aa 1) (Q3 0)) kH F [pc (xa (tabOf bk)),Q0 (ix bk t:Int),pc (.dct 0 (bT b)),Q2 u,a]=Z (.nx [pc (xa (tabOf bk)),Q0 0,pc (.dct 0 (bT b)),Q2 (W wd t++u),l]):=by
 have cd:∀(t:Nat)(u:Tx)(a:Vu),e2 Kr (aa 1) (Q3 0) [pc (xa (tabOf bk)),Q0 (ix bk t:Int),pc (.dct 0 (bT b)),Q2 u,a]=Z (.fr,.bl (!decide (ix bk t=0))):=λt u a=>e2v Y Y (pU Y Y (m6 _ _));intro k
 induction k with
 |zero =>
  intro t u F a h f r _;obtain⟨F,rfl⟩:∃j,F=j+1:=⟨F-1,by lia⟩
  have o:=Xz.mp (Nat.le_zero.mp h);have d:t=0:=by
   have:=H.i.top f;rw[o,H.i.z]at this;exact(Zi this).symm
  subst d;have c:=cd 0 u a;rw[show ix bk 0=0 from h0]at c ⊢;exact⟨a,by rw[o];exact eT c⟩
 |succ k v =>
  intro t u F a h f r J;obtain⟨F,rfl⟩:∃j,F=j+1:=⟨F-1,by lia⟩
  by_cases d:t=0
  ·subst d;have c:=cd 0 u a;rw[show ix bk 0=0 from h0]at c ⊢;exact⟨a,by rw[H.i.wz];exact eT c⟩
  ·refine L2.ak λM s=>?_;obtain⟨⟨i,c⟩,e1,E⟩:=HS b (ix bk t) (C t (Yy d) f);obtain⟨G,p,B,A,x,w,g⟩:=D _ E;cases zL H hM f x B;cases (A);have g:=g;have n:=congrArg List.length g;rw[Zv,ZN]at n;obtain⟨l,e⟩:=v p ([c]++u) F (pc (vB (ix bk p,c))) (by lia) w (by exact Xw r) (by rw[Zv,ZN];lia);refine s ?_;refine⟨l,(kD ((cd t u a).trans (by rw[ZV λz=>d (zL H hM f (H.i.lt H.i.z) (z.trans h0.symm))];rfl)) (sq (aw (m:=.fr) (e2v (y:=(.fr,.int (ix bk t:Int))) Y Y ?_) (by decide) (by show 4<5;decide)) (sq (aw (AH Y Y (by show 1+_<=_;lia)) (by decide) (by show 3<5;decide)) (aw (m:=.fr) Y (by decide) (by show 1<5;decide))))).trans (e.trans (by rw[g,Z0]))⟩;show (if O=O then (eX (bT b) _).map (sub .pu) else L)=_;rw[Zn Y,e1];rfl
include hN hl hm KI
theorem xK(a:t<wd.length):cx [xa (tabOf bk),.int (ix bk t:Int)]=Z (.fr,.str (W wd t)):=by
 obtain⟨b,e,g,f⟩:=ye H hM hN hl hm λt h=>(KI t h).1;obtain⟨j,d⟩:=Bv H hM h0 g f 120 t [] uZ L (KI t a).2 a (by decide) (by decide);rw[ZQ]at d;exact bI Y (sq (by
  show (((aH aY _ _).map _).map _)=_;rw[aE (xv Y (xv Y Y)) (DA (by rw[Zy];exact Dp hM (by rw[← H.i.len];exact a)))];rfl) (sq (aw (aE (xv (x:=(.pu,xa (tabOf bk))) Y Y) e) (by decide) (by show 2<5;decide)) (sq Y (sq d Y))))
end
abbrev gT(G:List (List Pl)):T:=.lst (G.map λl=>T.lst (l.map tP))
noncomputable def N5(G:List (List Pl))(i:Nat)(p:Pl):List (List Pl):=G.set i (G.getD i []++[p])
abbrev Nh(B:T)(g:T)(G:List (List Pl))(f e d b a:Vu):Env:=[pc B,pc g,oc (gT G),f,e,d,b,a]
def HU{G:List (List Pl)}{n e:Nat}(f:i<G.length)(g:(G.getD i []).length<16777216)(d b:Vu):gK (Nh B a G (Q0 (n:Int)) d (Q0 (e:Int)) b (Q0 (i:Int)))=Z (.nx (Nh B a (N5 G i (n,e)) (Q0 (n:Int)) d (Q0 (e:Int)) b (Q0 (i:Int)))):=by
 have h:sU 2 (aa 7) (ae (nA (ae (aa 3) (ae (aa 5) ah))) ah) (Nh B a G (Q0 (n:Int)) d (Q0 (e:Int)) b (Q0 (i:Int)))=Z ((.fr,.non),Nh B a (N5 G i (n,e)) (Q0 (n:Int)) d (Q0 (e:Int)) b (Q0 (i:Int))):=by
  show ((JL (G.map λl=>T.lst (l.map tP)).length (i:Int)).bind _)=_;rw[Zy,xg f,Zq,Zd,Zs f];show ((aK (.lst (G[i].map tP)) [(.fr,tP (n,e))]).map _)=_;have hg:G.getD i []=G[i]:=by rw[Zr,Zs f];rfl
  rw[hg]at g;rw[d2 (by rw[Zy];exact g)];show Z ((Md.fr,T.non),[pc B,pc a,oc (.lst ((G.map λl=>T.lst (l.map tP)).set i (.lst (G[i].map tP++[tP (n,e)])))),_,_,_,_,_])=_;unfold N5;rw[hg,show T.lst (G[i].map tP++[tP (n,e)])=(λl:List Pl=>T.lst (l.map tP)) (G[i]++[(n,e)]) from by simp,← We]
 show (sU 2 (aa 7) (ae (nA (ae (aa 3) (ae (aa 5) ah))) ah) _).map _=_;rw[h];rfl
def r9{G:List (List Pl)}(p:Pl)(a:i<G.length)(k:Nat):(N5 G i p).getD k []=G.getD k []++if k=i then [p] else []:=by
 unfold N5;rw[Zr];by_cases h:k=i
 ·subst h;rw[XF a,Zn Y];rfl
 ·rw[YN (Ye h),Zl h,ZQ,← Zr]
section
def pb1{n e:Nat}(g f:Vu):∀(cs:Vx)(G:List (List Pl))(b:Vu),cs.Nodup->(∀i∈cs,i<G.length/\(G.getD i []).length<100000)->∃a h,forL (aS 7) gK (cs.map λ(i:Nat)=>T.int (i:Int)) (Nh B tb G (Q0 (n:Int)) g (Q0 (e:Int)) f b)=Z (.nx (Nh B tb a (Q0 (n:Int)) g (Q0 (e:Int)) f h))/\a.length=G.length/\∀k,a.getD k []=G.getD k []++if k∈cs then [(n,e)] else []:=by
 intro cs
 induction cs with
 |nil=>exact λG b _ _=>⟨G,b,rfl,rfl,λk=>by simp⟩
 |cons i cs r =>
  intro G b nd o;obtain⟨p,q⟩:=Zf.mp nd;obtain⟨h0,t⟩:=o i Zu;obtain⟨a,h,e1,s,e3⟩:=r (N5 G i (n,e)) (Q0 (i:Int)) q (λj m=>⟨by unfold N5;rw[Z9];exact(o j (Zw _ m)).1,by
   rw[r9 _ h0,Zl (λz=>p (by rw[← z];exact m)),ZQ];exact(o j (Zw _ m)).2⟩)
  refine⟨a,h,(dH Y (HU h0 (by lia) g f)).trans e1,s.trans (by unfold N5;rw[Z9]),λk=>?_⟩;rw[e3,r9 _ h0,Z0];congr 1;by_cases l:k=i
  ·subst l;rw[Zn Y,Zl p,Zn Zu];rfl
  ·rw[Zl l,YU];by_cases d:k∈cs
   ·rw[Zn d,Zn (Zw _ d)]
   ·rw[Zl d,Zl (λz=>(Zk.mp z).elim l d)]
def wG{l:Vx}{a b:Nat}(h:a∈l)(f:b∈l)(e:l.idxOf a=l.idxOf b):a=b:=by
 have g:∀{x},x∈l->l[l.idxOf x]?=Z x:=λ{x} d=>by rw[Zs (Ya.mpr d),Xv]
 have:=g h;rw[e,g f]at this;exact(Zi this).symm
end
section
variable{bk:List Tx}{nd:Wd->Option Nat}{wd:List Wd}(H:K (Hd bk) (aG bk) nd wd)(hM:∀x,x∈aj bk↔x<(aG bk).lg.length)(hN:(aj bk).Nodup)(h0:(aj bk).idxOf 0=0)(hw:∀m,m<wd.length->(W wd m).length<=1000)
def wN(a:List Tx)(b:List Wd)(k:Nat):Tx:=sw (aG a) b ((aj a).getD k 0)
include H hM hN hw
theorem HE(f:nd p=Z m)(t:Hd bk p):((KO (aG bk) 1000 m).map (ix bk)).Nodup/\(∀i∈(KO (aG bk) 1000 m).map (ix bk),i<(aj bk).length)/\∀k,k<(aj bk).length->(k∈(KO (aG bk) 1000 m).map (ix bk)↔wN bk wd k <:+ p):=by
 obtain⟨n,v⟩:=vG H 1000 m (H.i.lt f) (hw m (H.i.lt f));have d:∀{j},j<wd.length->j∈aj bk:=λh=>(hM _).mpr (by rw[← H.i.len];exact h);refine⟨List.Pairwise.map (ix bk) (R:=λa b=>a∈aj bk/\b∈aj bk/\a≠b) (λa b h e=>h.2.2 (wG h.1 h.2.1 e)) (v.imp_of_mem λ{a b} u hb q=>⟨d ((n a).mp u).1,d ((n b).mp hb).1,q⟩),λi s=>?_,λk g=>?_⟩
 ·obtain⟨j,l,rfl⟩:=Za.mp s;exact Ya.mpr (d ((n j).mp l).1)
 ·have o:ix bk ((aj bk).getD k 0)=k:=by
   rw[Zr,Zs g];exact vI hN g
  have l:(aj bk).getD k 0<wd.length:=by
   rw[H.i.len];refine(hM _).mp ?_;rw[Zr,Zs g];exact Z5 g
  rw[show wN bk wd k <:+ p↔(aj bk).getD k 0∈KO (aG bk) 1000 m from(A7 H (hw m (H.i.lt f)) f t (H.i.L5 l)).symm];constructor
  ·intro h;obtain⟨j,r,e⟩:=Za.mp h;have:=wG (d ((n j).mp r).1) (d l) (e.trans o.symm);rw[← this];exact r
  ·exact λh=>Za.mpr ⟨_,h,o⟩
include h0
def Vo(r:List Tx)(n:Nat)(w:Tx):List Pl:=(r.zipIdx n).flatMap λp=>(JS w p.1).map λe=>(p.2,e)
theorem pb2(t:Tx)(n:Nat)(C:t∈bk)(h:Vu):∀(k e:Nat)(G:List (List Pl))(g f a:Vu),e+k=t.length+1->G.length=(aj bk).length->(∀i,(G.getD i []).length+k<100000)->∃d o l j,forL (nr [aS 5,aS 6]) ji (fW e (((wl bk nd t).drop e).map λ(n:Nat)=>T.int (n:Int))) (Nh (.lst (bk.map .str)) (xa (tabOf bk)) G (Q0 (n:Int)) h g f a)=Z (.nx (Nh (.lst (bk.map .str)) (xa (tabOf bk)) d (Q0 (n:Int)) h o l j))/\d.length=G.length/\∀i,i<(aj bk).length->d.getD i []=G.getD i []++((List.range' e k).filter λe=>(wN bk wd i).isSuffixOf (t.take e)).map λe=>(n,e):=by
 have P:(wl bk nd t).length=t.length+1:=by unfold wl;rw[Zy,ZX]
 intro k
 induction k with
 |zero =>
  intro e G g f a D hl p;rw[Wb (by omega)];exact⟨G,g,f,a,rfl,rfl,λi _=>by simp⟩
 |succ k B =>
  intro e G g f a D hl p;have u:Hd bk (t.take e):=.inr ⟨t,C,Wk _ _⟩;obtain⟨m,hm⟩:=(H.some (t.take e)).mpr ⟨_,u,Z3 _⟩;obtain⟨J,F,w⟩:=HE H hM hN hw hm u;have hd:(wl bk nd t).drop e=ix bk m :: (wl bk nd t).drop (e+1):=by
   rw[Xa (by omega)];congr 1;unfold wl;rw[List.getElem_map,List.getElem_range,jA hm]
  obtain⟨N,j,e1,s,v⟩:=pb1 h (Q0 (ix bk m:Int)) ((KO (aG bk) 1000 m).map (ix bk)) G a J λi b=>⟨by rw[hl];exact F i b,by have:=p i;omega⟩
  obtain⟨d,o,l,y,M,A,E⟩:=B (e+1) N (Q0 (e:Int)) (Q0 (ix bk m:Int)) j (by omega) (s.trans hl) λi=>by
   have:=p i;rw[v,Zv];split
   ·show _+1+k<_;omega
   ·show _+0+k<_;omega
  refine⟨d,o,l,y,?_,A.trans s,λi b=>?_⟩
  ·rw[hd];exact(dH Y ((cA (m:=.fr) (gE (aE (xv (x:=(.pu,xa (tabOf bk))) Y (xv (r:=ah) (x:=(.fr,.int (ix bk m:Int))) Y Y)) (CM H hM (H.i.lt hm) (hw m (H.i.lt hm))))) Y).trans e1)).trans M
  ·rw[E i b,v,Z0,List.range'_succ,List.filter_cons];congr 1;by_cases q:wN bk wd i <:+ t.take e
   ·rw[Zn ((w i b).mpr q),Zn (Yu.mpr q)];rfl
   ·rw[Zl (λz=>q ((w i b).mp z)),Zl (λz=>q (Yu.mp z))];rfl
theorem pb3(hb:∀t∈bk,t.length<=120/\Az t):∀(r:List Tx)(n:Nat)(G:List (List Pl))(j h d b a:Vu),(∀t∈r,t∈bk)->G.length=(aj bk).length->(∀i,(G.getD i []).length+121*r.length<90000)->∃f D C w u s,forL (nr [aS 3,aS 4]) i7 ((r.zipIdx n).map λp=>T.tup [.int p.2,.str p.1]) (Nh (.lst (bk.map .str)) (xa (tabOf bk)) G j h d b a)=Z (.nx (Nh (.lst (bk.map .str)) (xa (tabOf bk)) f D C w u s))/\f.length=G.length/\∀i,i<(aj bk).length->f.getD i []=G.getD i []++Vo r n (wN bk wd i):=by
 intro r
 induction r with
 |nil=>exact λn G j h d b a _ _ _=>⟨G,j,h,d,b,a,rfl,rfl,λi _=>(ZQ _).symm⟩
 |cons t r ih =>
  intro n G j h d b a A hl o;have y:=A t Zu;obtain⟨P,tz⟩:=hb t y;simp only[Ze]at o;obtain⟨G1,w,u,s,e1,z,B⟩:=pb2 H hM hN h0 hw t n y (Q2 t) (t.length+1) 0 G d b a (by exact Nat.add_comm _ _) hl λi=>by have:=o i;lia
  have Q:=Yo.mpr ((H.some t).mpr ⟨t,.inr ⟨t,y,List.prefix_refl _⟩,Z3 _⟩);have S:∀i,((((List.range' 0 (t.length+1)).filter λe=>(wN bk wd i).isSuffixOf (t.take e)).map λe=>((n,e):Pl))).length<=121:=λi=>by
   rw[Zy];exact ZP (Yc _ _) (by rw[WE];exact Y7 P)
  obtain⟨f,N,M,J,F,E,Ko,X,g2⟩:=ih (n+1) G1 (Q0 (n:Int)) (Q2 t) w u s (λv hv=>A v (Zw _ hv)) (z.trans hl) (λi=>by
   by_cases q:i<(aj bk).length
   ·rw[B i q,Zv];have:=o i;have:=S i;lia
   ·rw[Zr,Z7 (by lia)];have:=o i;show 0+_<_;lia)
  refine⟨f,N,M,J,F,E,?_,X.trans z,λi q=>?_⟩
  ·rw[W6,Zj];exact(dH Y ((cA (m:=.fr) (l:=fW 0 ((wl bk nd t).map λ(n:Nat)=>T.int (n:Int))) (by
   have:=aE (g:=ku) (as:=ae (aa 1) (ae (aa 4) ah)) (U:=Nh (.lst (bk.map .str)) (xa (tabOf bk)) G (Q0 (n:Int)) (Q2 t) d b a) (xv (x:=(.pu,xa (tabOf bk))) Y (xv (r:=ah) (x:=(.fr,.str t)) Y Y)) (yL H hM h0 Q tz (by lia));show (aH _ _ _).bind _=_;rw[this];rfl) Y).trans e1)).trans Ko
  ·rw[g2 i q,B i q,Z0];unfold Vo;rw[W6,List.flatMap_cons];unfold JS;rw[List.range_eq_range']
theorem sD(e:∀t∈bk,t.length<=120/\Az t)(r:bk.length<=8)(q:(aj bk).length<=1000):∃G:List (List Pl),cL [.lst (bk.map .str),xa (tabOf bk)]=Z (.fr,gT G)/\G.length=(aj bk).length/\∀i,i<(aj bk).length->G.getD i []=IW bk (wN bk wd i):=by
 have a:∀i,((List.replicate (aj bk).length ([]:List Pl)).getD i [])=[]:=λi=>by
  rw[Zr,YY];split<;>rfl
 obtain⟨G,p,o,n,j,g,e1,b,f⟩:=pb3 H hM hN h0 hw e bk 0 (List.replicate (aj bk).length []) L L L L L (λ_ h=>h) YT λi=>by
  rw[a i];show 0+_<_;lia
 refine⟨G,?_,b.trans YT,λi d=>by rw[f i d,a i];rfl⟩;exact bI Y (sq (by
  have c:=cu (k:=1) (tg:=aS 0) (it:=dS (aa 1)) (elt:=dX ah) (U:=[pc (.lst (bk.map .str)),pc (xa (tabOf bk)),L,L,L,L,L,L]) (m:=.pu) (λm=>gH (row (aG bk) (aj bk) m)) (λ_=>T.lst []) (aj bk) (by
    show Z (Md.pu,(tabOf bk).map gH)=_;unfold tabOf tab;rw[ZO];rfl) Y (by lia) λm _=>⟨_,rfl,rfl⟩
  refine(vC c Y (by show 2<8;decide)).trans ?_;rw[show (aj bk).map (λ_=>T.lst [])=(List.replicate (aj bk).length ([]:List Pl)).map λl=>T.lst (l.map tP) from by rw[List.map_const',List.map_replicate];rfl];rfl) (sq ((cA (by rw[← enum_zip];rfl) Y).trans e1) Y))
end
section
variable{bk:List Tx}{nd:Wd->Option Nat}{wd:List Wd}(H:K (Hd bk) (aG bk) nd wd)(hM:∀x,x∈aj bk↔x<(aG bk).lg.length)(hN:(aj bk).Nodup)(h0:(aj bk).idxOf 0=0)(hl:wd.length<=241)(hm:(aj bk).length=wd.length)(KI:∀t,t<wd.length->Az (W wd t)/\(W wd t).length<=120)
include H hM hN h0 hl hm KI
theorem wI(b:∀t∈bk,t.length<=120/\Az t)(d:bk.length<=8):cL [.lst (bk.map .str),xa (tabOf bk)]=Z (.fr,.lst ((List.range (aj bk).length).map λk=>T.lst ((IW bk (wN bk wd k)).map tP))):=by
 obtain⟨G,e1,g,e⟩:=sD H hM hN h0 (λm h=>by have:=(KI m h).2;lia) b d (by lia);have f:G=(List.range (aj bk).length).map λk=>IW bk (wN bk wd k):=by
  apply Xk;intro i;by_cases a:i<(aj bk).length
  ·have:=e i a;rw[Zr,Zs (by lia)]at this;rw[Zs (by lia),Zd,Yf a];exact congrArg Z this
  ·rw[Z7 (by lia),Z7 (by rw[Zy,ZX];exact ZI a)]
 rw[e1];unfold gT;rw[f,ZO];rfl
end
def wL(b:List Tx)(a:List Wd)(k:Nat):Tx:=W a ((aj b).getD k 0)
def GW{a b:Tx}(h:a<b):¬b<a:=λq=>WR a (List.lt_trans h q)
theorem yO(f:Int->Tx):∀(r:Vw)(c:Int),(NP f c r=c\/NP f c r∈r)/\∀j,(j=c\/j∈r)->¬f j<f (NP f c r)
 |[],c=>⟨.inl Y,λj h=>by
   rcases h with rfl | h
   ·exact WR _
   ·cases h⟩
 |i :: r,c=>by
  have e:NP f c (i :: r)=NP f (if KG (f i) (f c) then i else c) r:=rfl;obtain⟨m,b⟩:=yO f r (if KG (f i) (f c) then i else c);rw[e];have hd:∀d,¬f d<f (if KG (f i) (f c) then i else c)->¬f d<f (NP f (if KG (f i) (f c) then i else c) r):=λd hd q=>hd (GF q (b _ (.inl Y)));have g:¬f i<f (if KG (f i) (f c) then i else c):=by
   rw[jz];by_cases q:f i<f c
   ·rw[Zn (decide_eq_true q)];exact WR _
   ·rw[Zl (by simpa using q)];exact q
  have l:¬f c<f (if KG (f i) (f c) then i else c):=by
   rw[jz];by_cases q:f i<f c
   ·rw[Zn (decide_eq_true q)];exact GW q
   ·rw[Zl (by simpa using q)];exact WR _
  refine⟨?_,λj a=>?_⟩
  ·rcases m with h | h
   ·rw[h];split
    ·exact .inr Zu
    ·exact .inl Y
   ·exact .inr (Zw _ h)
  ·rcases a with rfl | a
   ·exact hd _ l
   ·rcases Zk.mp a with rfl | a
    ·exact hd _ g
    ·exact b j (.inr a)
def GP{m:Md}{i j:Int}(e:a U=Z (m,.int i))(d:b U=Z (n,.int j)):e2 oEq a b U=Z (.fr,.bl (decide (i=j))):=e2v e d (iY Y Y (by
 simp only[eqT];rw[Xo,beq_iff_eq,decide_eq_true_iff]))
section
variable{bk:List Tx}{nd:Wd->Option Nat}{wd:List Wd}(H:K (Hd bk) (aG bk) nd wd)(hM:∀x,x∈aj bk↔x<(aG bk).lg.length)(hN:(aj bk).Nodup)(h0:(aj bk).idxOf 0=0)(hl:wd.length<=241)(hm:(aj bk).length=wd.length)(KI:∀t,t<wd.length->Az (W wd t)/\(W wd t).length<=120)
include H hM hN h0 hl hm KI
theorem GQ(a:k<(aj bk).length):ix bk ((aj bk).getD k 0)=k/\(aj bk).getD k 0<wd.length:=by
 refine⟨?_,?_⟩
 ·rw[Zr,Zs a];exact vI hN a
 ·rw[H.i.len];refine(hM _).mp ?_;rw[Zr,Zs a];exact Z5 a
theorem Hf(a:k<(aj bk).length):cx [xa (tabOf bk),.int (k:Int)]=Z (.fr,.str (wL bk wd k)):=by
 obtain⟨d,b⟩:=GQ H hM hN h0 hl hm KI a;have:=xK H hM hN h0 hl hm KI b;rw[d]at this;exact this
theorem cell(e:k<(aj bk).length){b:Ex}{n:Md}(g:a U=Z (.pu,xa (tabOf bk)))(f:b U=Z (n,.int (k:Int))):e2 aA (e2 aA a b) (Q3 1) U=Z (.fr,.int ((wL bk wd k).length:Int)):=by
 obtain⟨h,d⟩:=GQ H hM hN h0 hl hm KI e;refine e2v (oB hM (by rw[← H.i.len];exact d) g (by rw[h];exact f)) Y ?_;unfold wL;rw[← uK H hM d];rfl
theorem HG(p:∀k∈a,k<(aj bk).length)(y:a≠[])(A:a.length<=1000):∃k∈a,cQ [xa (tabOf bk),Je a]=Z (.fr,.int (k:Int))/\(∀j∈a,(wL bk wd j).length<=(wL bk wd k).length)/\∀j∈a,(wL bk wd j).length=(wL bk wd k).length->¬wL bk wd j<wL bk wd k:=by
 have D:=cu (k:=1) (tg:=aS 0) (it:=dS (aa 1)) (elt:=e2 aA (e2 aA (aa 1) (aa 0)) (Q3 1)) (U:=[pc (xa (tabOf bk)),pc (Je a),L,L]) (λ(n:Nat)=>T.int (n:Int)) (λk=>T.int ((wL bk wd k).length:Int)) a (gE Y) Y (by lia) λk h=>⟨_,rfl,cell H hM hN h0 hl hm KI (p k h) Y Y⟩
 obtain⟨b,x,UX,Mq2⟩:∃b:Int,eN oW (ae (bU 1 (aS 0) (dS (aa 1)) L (e2 aA (e2 aA (aa 1) (aa 0)) (Q3 1))) ah) [pc (xa (tabOf bk)),pc (Je a),L,L]=Z (.fr,.int b)/\(∃k∈a,((wL bk wd k).length:Int)=b)/\∀k∈a,((wL bk wd k).length:Int)<=b:=by
  cases a with
  |nil=>exact absurd Y y
  |cons o s =>
   obtain⟨⟨G,F⟩,E⟩:=L2.nW (s.map λk=>((wL bk wd k).length:Int)) ((wL bk wd o).length:Int);refine⟨L2.kh ((wL bk wd o).length:Int) (s.map λk=>((wL bk wd k).length:Int)),eA (xv D Y) ?_,?_,λk h=>?_⟩
   ·show (iX _).bind _=_;rw[ints_map (λk:Nat=>((wL bk wd k).length:Int))];rfl
   ·rcases E with q | q
    ·exact⟨o,Zu,q.symm⟩
    ·obtain⟨k,d,l⟩:=Za.mp q;exact⟨k,Zw _ d,l⟩
   ·rcases Zk.mp h with rfl | h
    ·exact G
    ·exact F _ (Za.mpr ⟨k,h,rfl⟩)
 have t:=fX (k:=1) (tg:=aS 0) (it:=dS (aa 1)) (c:=e2 oEq (e2 aA (e2 aA (aa 1) (aa 0)) (Q3 1)) (aa 3)) (elt:=aa 0) (U:=[pc (xa (tabOf bk)),pc (Je a),Q0 b,L]) (λ(n:Nat)=>T.int (n:Int)) (λk=>decide (((wL bk wd k).length:Int)=b)) (λ(n:Nat)=>T.int (n:Int)) a (gE Y) Y (by lia) λk h=>⟨_,_,rfl,GP (cell H hM hN h0 hl hm KI (p k h) Y Y) Y,rfl,λ_=>rfl⟩
 have g:∀k,k∈a.filter (λk=>decide (((wL bk wd k).length:Int)=b))↔k∈a/\((wL bk wd k).length:Int)=b:=λk=>by rw[Yp,decide_eq_true_iff]
 generalize M:a.filter (λk=>decide (((wL bk wd k).length:Int)=b))=fs at t g;have m:∀k∈fs,nt (aH cx (ae (aa 1) (ae (aa 0) ah))) [pc (xa (tabOf bk)),pc (Je a),Q0 b,pc (Je fs)] (k:Int)=Z (wL bk wd k):=λk h=>by
  unfold nt;rw[aE (xv Y (xv Y Y)) (Hf H hM hN h0 hl hm KI (p k ((g k).mp h).1))];rfl
 cases fs with
 |nil =>
  obtain⟨k,d,l⟩:=UX;exact absurd ((g k).mpr ⟨d,l⟩) (by simp)
 |cons f fr =>
  obtain⟨v,u⟩:=yO (λi=>(nt (aH cx (ae (aa 1) (ae (aa 0) ah))) [pc (xa (tabOf bk)),pc (Je a),Q0 b,pc (Je (f :: fr))] i).getD []) (fr.map λ(n:Nat)=>(n:Int)) (f:Int);have mk:Av (aa 3) (aH cx (ae (aa 1) (ae (aa 0) ah))) [pc (xa (tabOf bk)),pc (Je a),Q0 b,pc (Je (f :: fr))]=Z (.fr,.int (NP (λi=>(nt (aH cx (ae (aa 1) (ae (aa 0) ah))) [pc (xa (tabOf bk)),pc (Je a),Q0 b,pc (Je (f :: fr))] i).getD []) (f:Int) (fr.map λ(n:Nat)=>(n:Int)))):=by
   show (iX ((f :: fr).map λ(n:Nat)=>T.int (n:Int))).bind _=_;rw[ints_map (λn:Nat=>(n:Int))];show (if _ then _ else _)=_;rw[Zn];refine ZF.mpr λi B=>?_;obtain⟨k,d,rfl⟩:=Za.mp (show i∈(f :: fr).map λ(n:Nat)=>(n:Int) from B);rw[m k d];rfl
  generalize J:NP (λi=>(nt (aH cx (ae (aa 1) (ae (aa 0) ah))) [pc (xa (tabOf bk)),pc (Je a),Q0 b,pc (Je (f :: fr))] i).getD []) (f:Int) (fr.map λ(n:Nat)=>(n:Int))=z at v u mk;obtain⟨k,d,rfl⟩:∃k∈f :: fr,z=(k:Int):=by
   rcases v with h | h
   ·exact⟨f,Zu,h⟩
   ·obtain⟨k,d,l⟩:=Za.mp h;exact⟨k,Zw _ d,l.symm⟩
  have C:=((g k).mp d).2;refine⟨k,((g k).mp d).1,bI Y (sq (aw x (by decide) (by show 2<4;decide)) (sq (aw t (by decide) (by show 3<4;decide)) (bP mk))),λj r=>?_,λj r e=>?_⟩
  ·have:=Mq2 j r;lia
  ·have w:=(g j).mpr ⟨r,by lia⟩;have:=u (j:Int) (by
    rcases Zk.mp w with rfl | h
    ·exact .inl Y
    ·exact .inr (Za.mpr ⟨j,h,rfl⟩))
   rw[m j w,m k d]at this;exact this
end
def Iu(a:List Tx)(b:List Wd):Option Nat->T
 |none=>.non
 |some k=>.tup [.str (wL a b k),.lst ((IW a (wN a b k)).map tP)]
def RF(a:List Tx)(b:List Wd)(t:Int)(k:Nat):Prop:=(0<k/\k<(aj a).length)/\t<=((IW a (wN a b k)).length:Int)
def Il(b:List Tx)(a:List Wd)(t:Int):Option Nat->Prop
 |none=>∀k,¬RF b a t k
 |some k=>RF b a t k/\∀j,RF b a t j->(wL b a j).length<=(wL b a k).length/\((wL b a j).length=(wL b a k).length->¬wL b a j<wL b a k)
def DM(f:Nat->Vr)(h:k<N):aA (.bo,.lst ((List.range N).map λk=>T.lst (f k))) (n,.int (k:Int))=Z (.bo,.lst (f k)):=by
 show (JL ((List.range N).map λk=>T.lst (f k)).length (k:Int)).bind _=_;rw[Zy,ZX,q9 h];show (((List.range N).map λk=>T.lst (f k))[k]?).map _=_;rw[Zd,Yf h];rfl
section
variable{bk:List Tx}{nd:Wd->Option Nat}{wd:List Wd}(H:K (Hd bk) (aG bk) nd wd)(hM:∀x,x∈aj bk↔x<(aG bk).lg.length)(hN:(aj bk).Nodup)(h0:(aj bk).idxOf 0=0)(hl:wd.length<=241)(hm:(aj bk).length=wd.length)(KI:∀t,t<wd.length->Az (W wd t)/\(W wd t).length<=120)
include H hM hN h0 hl hm KI
theorem BC(s:cP [.lst (bk.map .str)]=Z (.fr,xa (tabOf bk)))(v:∀t∈bk,t.length<=120/\Az t)(w:bk.length<=8)(t:Int):∃o,jM [.lst (bk.map .str),.int t]=Z (.fr,Iu bk wd o)/\Il bk wd t o:=by
 have p:(tabOf bk).length=(aj bk).length:=by unfold tabOf tab;rw[Zy]
 have it:iO (Q3 1) (eN bE (ae (aa 2) ah)) [pc (.lst (bk.map .str)),Q0 t,pc (xa (tabOf bk)),oc (.lst ((List.range (aj bk).length).map λk=>T.lst ((IW bk (wN bk wd k)).map tP))),L,L]=Z (.fr,(List.range ((aj bk).length-1)).map λ(k:Nat)=>T.int (((k+1:Nat)):Int)):=by
  rw[oP Y (eA (xv Y Y) (by
   show Z (Md.fr,T.int ((((tabOf bk).map gH).length:Nat):Int))=_;rw[Zy,p])) (by lia)]
  congr 2;apply Xk;intro i;rw[BJ,Zd];by_cases l:i<(aj bk).length-1
  ·rw[Zn (by omega),Yf l];congr 2;lia
  ·rw[Zl (by lia),Z7 (by rw[ZX];exact ZI l)];rfl
 have g:=fX (k:=1) (tg:=aS 0) (c:=e2 NN (eN bE (ae (e2 aA (aa 4) (aa 0)) ah)) (aa 2)) (elt:=aa 0) (λ(k:Nat)=>T.int (((k+1:Nat)):Int)) (λ(k:Nat)=>decide (t<=((IW bk (wN bk wd (k+1))).length:Int))) (λ(k:Nat)=>T.int (((k+1:Nat)):Int)) (List.range ((aj bk).length-1)) it Y (by rw[ZX];lia) λk f=>by
  have F:=ZJ.mp f;refine⟨_,_,rfl,e2v (eA (xv (e2v Y Y (DM (λk=>(IW bk (wN bk wd k)).map tP) (by omega))) Y) Y) Y Y,?_,λ_=>rfl⟩;show Z (decide (t<=((((IW bk (wN bk wd (k+1))).map tP).length:Nat):Int)))=_;rw[Zy]
 have B:((List.range ((aj bk).length-1)).filter λ(k:Nat)=>decide (t<=((IW bk (wN bk wd (k+1))).length:Int))).map (λ(k:Nat)=>T.int (((k+1:Nat)):Int))=(((List.range ((aj bk).length-1)).filter λ(k:Nat)=>decide (t<=((IW bk (wN bk wd (k+1))).length:Int))).map (·+1)).map λ(n:Nat)=>T.int (n:Int):=by rw[ZO];rfl
 rw[B]at g;have mk:∀k,k∈(((List.range ((aj bk).length-1)).filter λ(k:Nat)=>decide (t<=((IW bk (wN bk wd (k+1))).length:Int))).map (·+1))↔RF bk wd t k:=λk=>by
  rw[Za];constructor
  ·rintro⟨j,d,rfl⟩;rw[Yp,ZJ,decide_eq_true_iff]at d;exact⟨⟨Wf _,by omega⟩,d.2⟩
  ·rintro⟨⟨E,D⟩,x⟩;refine⟨k-1,?_,by lia⟩;rw[Yp,ZJ,decide_eq_true_iff,show k-1+1=k by lia];exact⟨by lia,x⟩
 have hlen:(((List.range ((aj bk).length-1)).filter λ(k:Nat)=>decide (t<=((IW bk (wN bk wd (k+1))).length:Int))).map (·+1)).length<=1000:=by
  rw[Zy];exact ZP (Yc _ _) (by rw[ZX];lia)
 generalize u:((List.range ((aj bk).length-1)).filter λ(k:Nat)=>decide (t<=((IW bk (wN bk wd (k+1))).length:Int))).map (·+1)=ks at g mk hlen;have hd:∀{r:Option Out}{b:Sx},b [pc (.lst (bk.map .str)),Q0 t,pc (xa (tabOf bk)),oc (.lst ((List.range (aj bk).length).map λk=>T.lst ((IW bk (wN bk wd k)).map tP))),pc (Je ks),L]=r->aq (aC 2 (aH cP (ae (aa 0) ah))) (aq (jt 3 (aH cL (ae (aa 0) (ae (aa 2) ah)))) (aq (aC 4 (bU 1 (aS 0) (iO (Q3 1) (eN bE (ae (aa 2) ah))) (Z (e2 NN (eN bE (ae (e2 aA (aa 4) (aa 0)) ah)) (aa 2))) (aa 0))) b)) [pc (.lst (bk.map .str)),Q0 t,L,L,L,L]=r:=λq=>sq (aw (aE (xv Y Y) s) (by decide) (by show 2<6;decide)) (sq (vC (aE (xv Y (xv Y Y)) (wI H hM hN h0 hl hm KI v w)) Y (by show 3<6;decide)) (sq (aw g (by decide) (by show 4<6;decide)) q));have le:∀n:Int,n=ks.length->e2 oEq (eN bE (ae (aa 4) ah)) (Q3 0) [pc (.lst (bk.map .str)),Q0 t,pc (xa (tabOf bk)),oc (.lst ((List.range (aj bk).length).map λk=>T.lst ((IW bk (wN bk wd k)).map tP))),pc (Je ks),L]=Z (.fr,.bl (decide (n=0))):=λn a=>GP (m:=.fr) (eA (xv Y Y) (by
  show Z (Md.fr,T.int (((ks.map λ(n:Nat)=>T.int (n:Int)).length:Nat):Int))=_;rw[Zy,a])) Y
 by_cases a:ks=[]
 ·refine⟨L,bI Y (hd (fz (Pr (le 0 (by rw[a];rfl)) Y))),λk h=>?_⟩;have:=(mk k).mpr h;rw[a]at this;cases this
 ·obtain⟨k,f,C,A,y⟩:=HG H hM hN h0 hl hm KI (λk h=>((mk k).mp h).1.2) a hlen;have e:=(mk k).mp f;exact⟨Z k,bI Y (hd (sq (nj ((le ks.length Y).trans (by rw[ZV (λz=>a (Xz.mp (by lia)))])) Y) (sq (aw (aE (xv Y (xv Y Y)) C) (by decide) (by show 5<6;decide)) (by
   unfold vT;rw[aE (xv Y (xv Y Y)) (Hf H hM hN h0 hl hm KI e.1.2)];show (JL ((List.range (aj bk).length).map λk=>T.lst ((IW bk (wN bk wd k)).map tP)).length (k:Int)).bind _=_;rw[Zy,ZX,q9 e.1.2];show (((List.range (aj bk).length).map λk=>T.lst ((IW bk (wN bk wd k)).map tP))[k]?).bind _=_;rw[Zd,Yf e.1.2];rfl)))),e,λj d=>⟨A j ((mk j).mpr d),y j ((mk j).mpr d)⟩⟩
end
def FT(m:e [B,oc (xb S b),z]=Z a)(n:argsOk d a=O)(o:dY (trees a)=O)(l:g (KJ S) (trees a)=Z (KJ f,v))(j:IS v=O) :
  bH 1 [] 0 d g e [B,oc (xb S b),z]=Z ((.fr,v),[B,oc (xb f b),z]):=by
 show ((Z ([])).bind λi=>(e [B,oc (xb S b),z]).bind λa=>(pm (lJ 0 d g a) i (xb S b)).map λh=>(h.2,[B,oc h.1,z]))=_;rw[Zq,m,Zq];show ((if 1=0+1/\eD (KJ S)=O/\argsOk d a=O/\dY (trees a)=O then (g (KJ S) (trees a)).bind λz=>if eD z.1=O/\IS z.2=O then Z (T.obj 1 ((0,.bl b) :: z.1),(Md.fr,z.2)) else L else L).map _)=_;rw[Zn ⟨rfl,iQ S,n,o⟩,l,Zq,Zn ⟨iQ f,j⟩];rfl
def Eo:∀(rest:List Tx){S a:St}{z:Vu},WF S->S.lg.length+2*cy rest<=100000->(∀t∈rest,∀c∈t,97<=c/\c<=122)->mB S rest=Z a →
  ∃b,forL (aS 2) hU (rest.map .str) [B,oc (xb S R),z]=Z (.nx [B,oc (xb a R),b]):=by
 intro rest
 induction rest with
 |nil =>
  intro S a z _ _ _ e;cases (e);exact⟨z,rfl⟩
 |cons t rest i =>
  intro S a z W hl d e;refine L2.ak λp h=>?_;obtain⟨⟨o,r⟩,e1,m⟩:=Zz.mp (e);have l:cy (t :: rest)=t.length+cy rest:=by unfold cy;rw[Zj,Y0]
  rw[l]at hl;obtain⟨g,_,n,f⟩:=Ax W (by lia) W.pos (d t Zu) e1;obtain⟨b,q⟩:=i g (by lia) (λu j=>d u (Zw _ j)) m;refine h ?_;refine⟨b,?_⟩;rw[Zj];refine(dH (U1:=[B,oc (xb S R),Q2 t]) Y ?_).trans q;unfold hU Pm;rw[FT Y Y Y f Y];rfl
def yf(h:L1 a):cP [.lst (a.map .str)]=Z (.fr,xa (tabOf a)):=by
 refine L2.ak λj b=>?_;obtain⟨e,nd,d,H,l,e2,e3,g,_⟩:=h.k;obtain⟨z,f⟩:=Eo a Ak (by have:=h.sum;show 1+2*cy a<=100000;lia) h.az e;refine b ?_;refine bI Y ((av Y).trans ((av ((cA Y Y).trans f)).trans ((av Y).trans (bP ?_))));show ((bV [xb (aG a) R]).bind _)=_;rw[(Aj H.i.wf (by rw[← H.i.len];lia) (by decide) e2 e3 (by lia))];rfl
section
variable{bk:List Tx}{nd:Wd->Option Nat}{wd:List Wd}(H:K (Hd bk) (aG bk) nd wd)(hM:∀x,x∈aj bk↔x<(aG bk).lg.length)
include H
theorem qQ(hw:nd w=Z j)(a:nd v=Z j):IW bk w=IW bk v:=by
 unfold IW;rw[List.flatMap_def,List.flatMap_def];congr 1;refine Y1 λq b=>?_;congr 1;refine List.filter_congr λe _=>?_;have:=(H.eq hw a).mp Y (q.1.take e) (.inr ⟨q.1,List.fst_mem_of_mem_zipIdx b,Wk _ _⟩);rw[Xo,Yu,Yu];exact this
include hM
theorem zX(f:Pt bk w):∃k,k<(aj bk).length/\IW bk w=IW bk (wN bk wd k)/\w <:+ wL bk wd k:=by
 obtain⟨j,b⟩:=(H.some w).mpr (As.mp f);have e:=H.i.lt b;have a:=Ya.mpr ((hM j).mpr (by rw[← H.i.len];exact e));have d:(aj bk).getD (ix bk j) 0=j:=by
  rw[Zr,Zs a];exact Xv a
 have g:wN bk wd (ix bk j)=sw (aG bk) wd j:=by unfold wN;rw[d]
 refine⟨ix bk j,a,?_,?_⟩
 ·rw[g];exact qQ H b (H.i.L5 e)
 ·unfold wL;rw[d];exact H.i.sf b
theorem HP(b:k<(aj bk).length):IW bk (wL bk wd k)=IW bk (wN bk wd k)/\Pt bk (wL bk wd k):=by
 have a:(aj bk).getD k 0<wd.length:=by
  rw[H.i.len];refine(hM _).mp ?_;rw[Zr,Zs b];exact Z5 b
 exact⟨qQ H (H.i.top a) (H.i.L5 a),As.mpr ((H.some _).mp ⟨_,H.i.top a⟩)⟩
theorem Vc(b:(aj bk).idxOf 0=0)(g:(aj bk).Nodup)(a:k<(aj bk).length):wL bk wd k=[]↔k=0:=by
 have f:(aj bk).getD k 0<wd.length:=by
  rw[H.i.len];refine(hM _).mp ?_;rw[Zr,Zs a];exact Z5 a
 have e:(aj bk).idxOf ((aj bk).getD k 0)=k:=by
  rw[Zr,Zs a];exact vI g a
 constructor
 ·intro h;have:=H.i.top f;rw[show W wd ((aj bk).getD k 0)=[] from h,H.i.z]at this;rw[← Zi this]at e;rw[← e];exact b
 ·rintro rfl;have:(aj bk).getD 0 0=0:=by
   have d:(aj bk)[(aj bk).idxOf 0]?=Z 0:=by
    rw[Zs (by rw[b];exact a),Xv]
   rw[b]at d;rw[Zr,d];rfl
  unfold wL;rw[this];exact H.i.wz
end
def nQ:e∈JS w t↔e<=t.length/\w <:+ t.take e:=by
 unfold JS;rw[Yp,ZJ,Yu,Nat.lt_succ_iff]
def u9(w t:Tx):(JS w t).Nodup:=XO X3 W7
def j9:e∈JS w t ↔ ∃a b,t=a++w++b/\e=a.length+w.length:=by
 rw[nQ];constructor
 ·rintro⟨h,a,d⟩;refine⟨a,t.drop e,by rw[d,List.take_append_drop],?_⟩;have:=congrArg List.length d;rw[Zv,Xc]at this;omega
 ·rintro⟨a,b,rfl,rfl⟩;rw[← Zv,List.take_left];exact⟨by rw[Zv (as:=a++w)];exact YI _ _,List.suffix_append a w⟩
def yo{l:Vx}(h:l.Nodup)(d:∀a∈l,∀b∈l,f a=f b->a=b):(l.map f).Nodup :=
 YA.mpr (XS (λg hb i e=>i (d _ g _ hb e)) h)
def sR(w t:Tx):(JS w t).length<=(JS w.reverse t.reverse).length:=by
 have:=AU.sub_len ((JS w t).map λe=>t.length+w.length-e) (JS w.reverse t.reverse) (yo (u9 w t) λa f b hb e=>by
  have:=(nQ.mp f).1;have:=(nQ.mp hb).1;omega) λx d=>by
   obtain⟨e,he,rfl⟩:=Za.mp d;obtain⟨a,b,rfl,rfl⟩:=j9.mp he;refine j9.mpr ⟨b.reverse,a.reverse,by simp,?_⟩;simp only[Zv,Y2];omega
 rwa [Zy]at this
def Bd(w t:Tx):(JS w.reverse t.reverse).length=(JS w t).length:=by
 have:=sR w.reverse t.reverse;rw[YO,YO]at this;exact Nat.le_antisymm this (sR w t)
def nR(a:List Tx)(w:Tx):(IW a w).length=(a.map λt=>(JS w t).length).sum:=by
 unfold IW;rw[List.length_flatMap,show (λp:Tx×Nat=>((JS w p.1).map λe=>(p.2,e)).length)=(λt=>(JS w t).length) ∘ Prod.fst from funext λp=>Zy _,← ZO,List.zipIdx_map_fst]
def wA(a:List Tx)(w:Tx):(IW (a.map List.reverse) w.reverse).length=(IW a w).length:=by
 rw[nR,nR,ZO,show (λt=>(JS w.reverse t).length) ∘ List.reverse=λt=>(JS w t).length from funext λt=>Bd w t]
def BL(hw:w≠[])(t r:Tx):(JS w t).length+(JS w r).length<=(JS w (t++r)).length:=by
 have h:=List.length_pos_iff.mpr hw;have:=AU.sub_len (JS w t++(JS w r).map λe=>t.length+e) (JS w (t++r)) (ZR.mpr ⟨u9 w t,yo (u9 w r) λa _ b _ e=>Nat.add_left_cancel e,λa g b hb e=>by
  obtain⟨c,f,rfl⟩:=Za.mp hb;obtain⟨x,y,_,rfl⟩:=j9.mp f;have:=(nQ.mp g).1;omega⟩) λx d=>by
   rcases ZU.mp d with d | d
   ·obtain⟨a,b,rfl,rfl⟩:=j9.mp d;exact j9.mpr ⟨a,b++r,by simp,rfl⟩
   ·obtain⟨e,he,rfl⟩:=Za.mp d;obtain⟨a,b,rfl,rfl⟩:=j9.mp he;exact j9.mpr ⟨t++a,b,by simp,by rw[Zv];omega⟩
 rwa [Zv,Zy]at this
def Bc(hw:w≠[])(a:List Tx):(IW a w).length<=(IW [a.flatten] w).length:=by
 rw[nR,nR];show _<=(JS w a.flatten).length+0
 induction a with
 |nil=>exact Yw _
 |cons t r b =>
  have:=BL hw t r.flatten;rw[Zj,Y0,Yl];omega
def yg{bk:List Tx}{w:Tx}:Pt (bk.map List.reverse) w.reverse↔Pt bk w:=by
 unfold Pt;rw[Wi];refine or_congr_right ⟨?_,?_⟩
 ·rintro⟨t,a,h⟩;obtain⟨s,b,rfl⟩:=Za.mp a;exact⟨s,b,List.reverse_infix.mp h⟩
 ·rintro⟨t,a,h⟩;exact⟨t.reverse,List.mem_map_of_mem a,List.reverse_infix.mpr h⟩
def vA{bk:List Tx}:Pt (bk.map List.reverse) w↔Pt bk w.reverse:=by
 have:=yg (bk:=bk) (w:=w.reverse)
 rwa [YO]at this
def Fu(h:Pt d w):Pt [d.flatten] w:=by
 rcases h with h | ⟨t,e,h⟩
 ·exact .inl h
 ·refine .inr ⟨_,List.mem_singleton_self _,h.trans ?_⟩;obtain⟨a,b,rfl⟩:=List.append_of_mem e;rw[Ym,Yl];exact⟨a.flatten,b.flatten,by simp⟩
def CY{l:List Tx}(h:l.Nodup):(l.map List.reverse).Nodup:=YA.mpr (h.imp λa e=>a (List.reverse_inj.mp e))
def FX(h:¬Pt a w):IW a w=[]:=Ww λz=>h ((Fg λe=>h (.inl e)).mp z)
structure Ma(bk:List Tx)(nd:Wd->Option Nat)(wd:List Wd):Prop where
 H:K (Hd bk) (aG bk) nd wd
 hM:∀x,x∈aj bk↔x<(aG bk).lg.length
 hN:(aj bk).Nodup
 h0:(aj bk).idxOf 0=0
 hl:wd.length<=241
 hm:(aj bk).length=wd.length
 hb:∀t∈bk,t.length<=120/\Az t
 h8:bk.length<=8
def zB(B:L1 d):∃nd a,Ma d nd a:=by
 obtain⟨_,nd,a,H,hl,f,hM,hm,h0⟩:=B.k;refine⟨nd,a,H,hM,?_,h0,hl,hm,λt b=>⟨ZP (L1.OE b) B.sum,B.az t b⟩,B.Mf⟩;obtain⟨l,e,q,_⟩:=H.met (k:=1000) (by omega);rw[Zi (f.symm.trans e)];exact q
def OC(b:List Tx)(a:List Wd)(m:Nat):List Tx:=(List.range ((W a m).length+1-sh b m)).map λi=>(W a m).drop i
def pS(a:List Tx)(b:List Wd):List Tx:=((aj a).drop 1).flatMap (OC a b)
def cI(b:List Tx)(a:List Wd)(n m:Nat):Bool:=decide (sh b m<=n)&&decide (n<=(W a m).length)
def cS(b:List Tx)(a:List Wd)(n:Nat):List Tx:=((aj b).filter (cI b a n)).map λm=>(W a m).drop ((W a m).length-n)
section
variable{bk:List Tx}{nd:Wd->Option Nat}{wd:List Wd}(A:Ma bk nd wd)
include A
theorem Ma.lt{m:Nat}:m∈aj bk↔m<wd.length:=by rw[A.hM,A.H.i.len]
theorem Ma.pt:(∃m,nd w=Z m)↔Pt bk w:=(A.H.some w).trans As.symm
theorem Ma.Vb(d:m<wd.length):Az (W wd m)/\(W wd m).length<=120:=by
 rcases A.pt.mp ⟨m,A.H.i.top d⟩ with h | ⟨t,b,h⟩
 ·rw[h];exact⟨(λc a=>nomatch a),by decide⟩
 ·exact⟨λc a=>(A.hb t b).2 c (h.subset a),ZP h.length_le (A.hb t b).1⟩
theorem Ma.cons:aj bk=0 :: (aj bk).drop 1:=by
 have z:=A.lt.mpr (A.H.i.lt A.H.i.z);have h0:=A.h0;cases e:aj bk with
 |nil=>rw[e]at z;cases z
 |cons a r =>
  rw[e,List.idxOf_cons]at h0;cases hb:a==0 with
  |true=>rw[beq_iff_eq.mp hb];rfl
  |false =>
   rw[hb]at h0;cases h0
theorem Ma.rest:m∈(aj bk).drop 1↔m<wd.length/\m≠0:=by
 have c:=A.cons;have n:=A.hN;rw[c]at n;have a:=(Zf.mp n).1;rw[← A.lt];constructor
 ·exact λh=>⟨by rw[c];exact Zw _ h,λz=>a (z ▸ h)⟩
 ·rintro⟨h,z⟩;rw[c]at h;exact(Zk.mp h).resolve_left z
theorem Ma.ws(e:m<wd.length):y∈OC bk wd m↔nd y=Z m:=by
 obtain⟨a,b⟩:=we A.H A.hM e;rw[b y];constructor
 ·intro h;obtain⟨i,f,rfl⟩:=Za.mp h;have:=ZJ.mp f;exact⟨Wh _ _,by rw[Z4];omega⟩
 ·rintro⟨d,g⟩;have:=d.length_le;exact Za.mpr ⟨(W wd m).length-y.length,ZJ.mpr (by omega),(List.suffix_iff_eq_drop.mp d).symm⟩
theorem Ma.P1(m:Nat):(OC bk wd m).Nodup:=by
 refine YA.mpr (XS (λa hb b e=>b ?_) W7);have:=ZJ.mp a;have:=ZJ.mp hb;have:=congrArg List.length e;rw[Z4,Z4]at this;omega
theorem Ma.ps:(pS bk wd).Nodup/\∀y,y∈pS bk wd↔Pt bk y/\y≠[]:=by
 refine⟨List.pairwise_flatMap.mpr ⟨λm _=>A.P1 m,XS (λg hb j x f y d e=>j ?_) (XO (List.drop_sublist _ _) A.hN)⟩,λy=>?_⟩
 ·unfold pS;rw[List.mem_flatMap,← A.pt];constructor
  ·rintro⟨m,hm,h⟩;have a:=A.rest.mp hm;have:=(A.ws a.1).mp h;refine⟨⟨m,this⟩,λz=>a.2 ?_⟩;rw[z,A.H.i.z]at this;exact(Zi this).symm
  ·rintro⟨⟨m,h⟩,z⟩;refine⟨m,A.rest.mpr ⟨A.H.i.lt h,λe=>z (A.H.i.zero (by rw[h,e]))⟩,(A.ws (A.H.i.lt h)).mpr h⟩
 ·have b:=(A.ws (A.rest.mp g).1).mp f;rw[e,(A.ws (A.rest.mp hb).1).mp d]at b;exact(Zi b).symm
theorem Ma.cs(n:Nat):(cS bk wd n).Nodup/\∀y,y∈cS bk wd n↔Pt bk y/\y.length=n:=by
 have key:∀m,m∈(aj bk).filter (cI bk wd n)->nd ((W wd m).drop ((W wd m).length-n))=Z m/\((W wd m).drop ((W wd m).length-n)).length=n:=λm h=>by
  obtain⟨j,g⟩:=Yp.mp h;obtain⟨a,b⟩:=ZW.mp g;have a:=of_decide_eq_true a;have b:=of_decide_eq_true b;have e:((W wd m).drop ((W wd m).length-n)).length=n:=by rw[Z4];omega
  exact⟨((we A.H A.hM (A.lt.mp j)).2 _).mpr ⟨Wh _ _,by rw[e];exact a⟩,e⟩
 refine⟨YA.mpr (XS (λf hb o e=>o ?_) (XO X3 A.hN)),λy=>?_⟩
 ·rw[← A.pt];constructor
  ·intro h;obtain⟨m,hm,rfl⟩:=Za.mp h;exact⟨⟨m,(key m hm).1⟩,(key m hm).2⟩
  ·rintro⟨⟨m,h⟩,rfl⟩;have hm:=A.H.i.lt h;obtain⟨d,l⟩:=((we A.H A.hM hm).2 y).mp h;exact Za.mpr ⟨m,Yp.mpr ⟨A.lt.mpr hm,ZW.mpr ⟨decide_eq_true l,decide_eq_true d.length_le⟩⟩,(List.suffix_iff_eq_drop.mp d).symm⟩
 ·have:=(key _ f).1;rw[e,(key _ hb).1]at this;exact(Zi this).symm
theorem Ma.lgt(a:m<wd.length):(row (aG bk) (aj bk) m).2.1=(W wd m).length:=uK A.H A.hM a
end
def len_eq{l r:List Tx}(b:l.Nodup)(a:r.Nodup)(h:∀x,x∈l↔x∈r):l.length=r.length:=((X9 b a).mpr h).length_eq
def rev_eq{l r:List Tx}(b:l.Nodup)(a:r.Nodup)(h:∀x:Tx,x∈r↔x.reverse∈l):r.length=l.length:=by
 rw[← Zy (f:=List.reverse) (as:=l)];refine len_eq a (CY b) λx=>(h x).trans ⟨λz=>Za.mpr ⟨_,z,YO x⟩,λz=>?_⟩;obtain⟨y,d,rfl⟩:=Za.mp z
 rwa [YO]
section
variable{bk:List Tx}{nd JN:Wd->Option Nat}{wd IX:List Wd}(A:Ma bk nd wd)
include A
theorem Ma.OI(a:Ma (bk.map List.reverse) JN IX):(pS (bk.map List.reverse) IX).length=(pS bk wd).length:=rev_eq A.ps.1 a.ps.1 λx=>by
 rw[a.ps.2,A.ps.2,vA];exact and_congr_right λ_=>not_congr Wi.symm
theorem Ma.Pc(a:Ma (bk.map List.reverse) JN IX)(n:Nat):(cS (bk.map List.reverse) IX n).length=(cS bk wd n).length:=rev_eq (A.cs n).1 (a.cs n).1 λx=>by
 rw[(a.cs n).2,(A.cs n).2,vA,Y2]
theorem Ma.OJ(e:Ma [bk.flatten] JN IX):(pS bk wd).length<=(pS [bk.flatten] IX).length:=AU.sub_len _ _ A.ps.1 λx a=>by
 obtain⟨d,b⟩:=(A.ps.2 x).mp a;exact(e.ps.2 x).mpr ⟨Fu d,b⟩
end
def Hl(h:c U=Z (m,.bl O)):Si c a b U=a U:=by
 show (c U).bind _=_;rw[h];rfl
def GX(h:c U=Z (m,.bl R)):Si c a b U=b U:=by
 show (c U).bind _=_;rw[h];rfl
def uM{m:Md}(h:IS t=O):up m t=(.fr,t):=by unfold up;rw[Zn h]
abbrev rT(a:List Tx)(m:Nat):T:=gH (row (aG a) (aj a) m)
def Du(a:List Tx):xa (tabOf a)=.lst ((aj a).map (rT a)):=by
 unfold xa tabOf tab;rw[ZO];rfl
def zi(l:Vx):((l.sum:Nat):Int)=(l.map λn:Nat=>(n:Int)).sum:=by
 induction l with
 |nil=>rfl
 |cons a l b=>rw[Y0,Zj,Y0,← b];exact Int.natCast_add _ _
section
variable{bk:List Tx}{nd:Wd->Option Nat}{wd:List Wd}(A:Ma bk nd wd)
include A
theorem Ma.Vm(a:m<wd.length){U:Env}(h:aa 0 U=Z (.fr,rT bk m)):e2 aA (aa 0) (Q3 0) U=Z (.fr,.int (sh bk m:Int))/\e2 aA (aa 0) (Q3 1) U=Z (.fr,.int ((W wd m).length:Int)) :=
 ⟨e2v h (y:=(.fr,.int 0)) Y Y,e2v h (y:=(.fr,.int 1)) Y (by
  rw[← A.lgt a];rfl)⟩
theorem Ma.unlike:gz [xa (tabOf bk)]=Z (.fr,.int ((pS bk wd).length:Int)):=by
 have hl:=A.hl;have hm:=A.hm;have it:dS (MC (aa 0) (Z (Q3 1)) L) [pc (xa (tabOf bk))]=Z (.fr,((aj bk).drop 1).map (rT bk)):=by
  refine gE ?_;unfold MC;show (Z (Md.pu,xa (tabOf bk))).bind _=_;rw[Zq,Du];show Lu .pu (cut ((aj bk).map (rT bk)) (Z ((1:Nat):Int)) L)=_;rw[zI _ 1 (by rw[Zy,A.cons];exact Y7 (Yw _)),← List.map_drop,lV (by rw[Zy,Z4];omega),jh (rT bk) λi=>jP _];rfl
 refine bI (U:=[pc (xa (tabOf bk))]) Y (bP (eA (xv (r:=ah) (cu (m:=.fr) (rT bk) (λm=>T.int (((OC bk wd m).length:Nat):Int)) ((aj bk).drop 1) it Y (by rw[Z4];omega) λm hm=>⟨[pc (rT bk m),pc (xa (tabOf bk))],rfl,?_⟩) Y) ?_))
 ·have hm:=(A.rest.mp hm).1;obtain⟨a,e1⟩:=A.Vm hm (U:=[pc (rT bk m),pc (xa (tabOf bk))]) (congrArg Z (uM (jP _)));refine e2v (e2v e1 a Y) (y:=(.fr,.int 1)) Y ?_;have:=(we A.H A.hM hm).1;show Z (Md.fr,T.int (((W wd m).length:Int)-(sh bk m:Int)+1))=_;unfold OC;rw[Zy,ZX,show ((W wd m).length:Int)-(sh bk m:Int)+1=(((W wd m).length+1-sh bk m:Nat):Int) by omega]
 ·show (iX (((aj bk).drop 1).map λm=>T.int (((OC bk wd m).length:Nat):Int))).bind _=_;rw[ints_map (λm=>(((OC bk wd m).length:Nat):Int)),Zq];unfold pS;rw[List.length_flatMap,zi,ZO];rfl
theorem Ma.counted(n:Nat):gb [xa (tabOf bk),.int (n:Int)]=Z (.fr,.int ((cS bk wd n).length:Int)):=by
 have hl:=A.hl;have hm:=A.hm;refine bI (U:=[pc (xa (tabOf bk)),Q0 (n:Int)]) Y (bP (eA (xv (r:=ah) (fX (k:=1) (tg:=aS 0) (m:=.pu) (rT bk) (cI bk wd n) (rT bk) (aj bk) (gE (by show Z (Md.pu,xa (tabOf bk))=_;rw[Du])) Y (by omega) λm hm=>?_) Y) ?_))
 ·have hm:=A.lt.mp hm;have e:=congrArg Z (uM (m:=.pu) (jP (row (aG bk) (aj bk) m)));obtain⟨a,e1⟩:=A.Vm hm (U:=[pc (rT bk m),pc (xa (tabOf bk)),Q0 (n:Int)]) e;refine⟨[pc (rT bk m),pc (xa (tabOf bk)),Q0 (n:Int)],(.fr,.bl (cI bk wd n m)),rfl,?_,rfl,λ_=>e⟩;unfold cI;by_cases h:sh bk m<=n
  ·rw[decide_eq_true h,Bool.true_and,← decide_eq_decide.mpr (Wa (m:=n) (n:=(W wd m).length))];exact rJ a (y:=(.fr,.int (n:Int))) Y (congrArg (λz=>Z (Md.fr,T.bl z)) (decide_eq_true (Wa.mpr h))) e1 Y
  ·rw[ZV h];exact Cq a (y:=(.fr,.int (n:Int))) Y (congrArg (λz=>Z (Md.fr,T.bl z)) (ZV λz=>h (Wa.mp z)))
 ·show Z (Md.fr,T.int (((((aj bk).filter (cI bk wd n)).map (rT bk)).length:Nat):Int))=_;unfold cS;rw[Zy,Zy]
abbrev L8(a:List Tx)(b:List Wd):Vx:=(List.range (aj a).length).map λk=>(IW a (wN a b k)).length
theorem Ma.counts:iA [.lst (bk.map .str),xa (tabOf bk)]=Z (.fr,Je (L8 bk wd)):=by
 have hl:=A.hl;have hm:=A.hm;unfold Je L8;rw[ZO];refine bI (U:=[pc (.lst (bk.map .str)),pc (xa (tabOf bk))]) Y (bP (cu (k:=1) (tg:=aS 0) (m:=.fr) (λk=>T.lst ((IW bk (wN bk wd k)).map tP)) (λk=>T.int (((IW bk (wN bk wd k)).length:Nat):Int)) (List.range (aj bk).length) (gE (aE (xv (x:=(.pu,.lst (bk.map .str))) Y (xv (r:=ah) (x:=(.pu,xa (tabOf bk))) Y Y)) (wI A.H A.hM A.hN A.h0 A.hl A.hm (λm h=>A.Vb h) A.hb A.h8))) Y (by rw[ZX];omega) λk _=>⟨[pc (T.lst ((IW bk (wN bk wd k)).map tP)),pc (.lst (bk.map .str)),pc (xa (tabOf bk))],rfl,eA (xv (r:=ah) (x:=(.pu,T.lst ((IW bk (wN bk wd k)).map tP))) Y Y) ?_⟩));show Z (Md.fr,T.int ((((IW bk (wN bk wd k)).map tP).length:Nat):Int))=_;rw[Zy]
theorem Ma.wkN(b:Tx):∀(v p:Tx)(j d:Vu),(∃m,nd p=Z m)->nd (p++v)=L->Az v->p.length+v.length<1000000->∃q U,forL (aS 3) lU (v.map s1) [pc (xa (tabOf bk)),Q2 b,oc (Je (wl bk nd p)),j,d]=Z (.rt (.fr,Je (wl bk nd q)) U)/\q.length<p.length+v.length:=by
 intro v
 induction v with
 |nil =>
  rintro p j d ⟨m,hm⟩ h;rw[ZQ,hm]at h;cases h
 |cons c v u =>
  rintro p j d ⟨m,l⟩ B t hl;rw[Ze]at hl;have E:m<(aG bk).lg.length:=by rw[← A.H.i.len];exact A.H.i.lt l
  have D:(wl bk nd p).length=p.length+1:=by unfold wl;rw[Zy,ZX]
  have w:e2 aA (aa 2) (Q3 (-1)) [pc (xa (tabOf bk)),Q2 b,oc (Je (wl bk nd p)),pc (s1 c),d]=Z (.fr,.int (ix bk m:Int)):=by
   refine e2v Y Y ?_;rw[lZ (λ(n:Nat)=>T.int (n:Int)) (wl bk nd p) 0 (by omega),D,WI,← jA l];have:(wl bk nd p).getD p.length 0=num bk nd p:=by
    unfold wl;rw[Zr,Zd,Yf (ZG _),X0,Wj];rfl
   rw[this];rfl
  have hg:gW (steps (aG bk) (aj bk) m) c=(nd (p++[c])).map (ix bk):=by rw[oC _ _ _ _ (t c Zu),A.H.i.wy l c]
  have o:aC 4 (eN md (ae (e2 aA (e2 aA (aa 0) (e2 aA (aa 2) (Q3 (-1)))) (Q3 3)) ah)) [pc (xa (tabOf bk)),Q2 b,oc (Je (wl bk nd p)),pc (s1 c),d]=Z (.nx [pc (xa (tabOf bk)),Q2 b,oc (Je (wl bk nd p)),pc (s1 c),pc (Jk (steps (aG bk) (aj bk) m))]):=by
   refine aw (m:=.fr) (eA (xv (r:=ah) (x:=(.fr,LG (steps (aG bk) (aj bk) m))) (e2v (oB A.hM E Y w) (y:=(.fr,.int 3)) Y ?_) Y) (HB _ _ _)) (by decide) (by show 4<5;decide);rw[← mM];exact congrArg Z (uM (mG _))
  have f:=zx (U:=[pc (xa (tabOf bk)),Q2 b,oc (Je (wl bk nd p)),pc (s1 c),pc (Jk (steps (aG bk) (aj bk) m))]) (a:=aa 4) (e:=aa 3) Y Y;rw[hg]at f;cases g:nd (p++[c]) with
  |none =>
   rw[g]at f;exact⟨p,[pc (xa (tabOf bk)),Q2 b,L,pc (s1 c),pc (Jk (steps (aG bk) (aj bk) m))],Bs Y (sq o (fz (Pr f Y))),by rw[Ze];omega⟩
  |some s =>
   rw[g]at f hg;have ap:=oY (i:=2) (U:=[pc (xa (tabOf bk)),Q2 b,oc (Je (wl bk nd p)),pc (s1 c),pc (Jk (steps (aG bk) (aj bk) m))]) (e:=e2 Ks (aa 4) (aa 3)) Y (uH Y Y hg) (by rw[Zy];omega);rw[show (wl bk nd p).map (λ(n:Nat)=>T.int (n:Int))++[T.int (ix bk s:Int)]=(wl bk nd (p++[c])).map λ(n:Nat)=>T.int (n:Int) from by rw[vM,ZD,jA g];rfl]at ap;obtain⟨q,U,e,C⟩:=u (p++[c]) (pc (s1 c)) (pc (Jk (steps (aG bk) (aj bk) m))) ⟨s,g⟩ (by rw[← Xb];exact B) (λx z=>t x (Zw _ z)) (by rw[Zv,ZN];omega);rw[Zv,ZN]at C;exact⟨q,U,(dH Y (sq o (sq (nj f Y) ap))).trans e,by rw[Ze];omega⟩
theorem Ma.stand(w:Tx)(a:Az w)(h:w.length<=1000):iF [xa (tabOf bk),.str w]=Z (.fr,match nd w with | none=>.non | some m=>.int (ix bk m:Int)):=by
 have ln:∀q,(wl bk nd q).length=q.length+1:=λq=>by unfold wl;rw[Zy,ZX]
 have f:∀q,eN bE (ae (aa 2) ah) [pc (xa (tabOf bk)),Q2 w,pc (Je (wl bk nd q))]=Z (.fr,.int ((q.length+1:Nat):Int)):=λq=>eA (xv (r:=ah) (x:=(.pu,Je (wl bk nd q))) Y Y) (by
  show Z (Md.fr,T.int ((((wl bk nd q).map λ(n:Nat)=>T.int (n:Int)).length:Nat):Int))=_;rw[Zy,ln])
 have c:∀q,e2 oEq (eN bE (ae (aa 2) ah)) (e2 bJ (eN bE (ae (aa 1) ah)) (Q3 1)) [pc (xa (tabOf bk)),Q2 w,pc (Je (wl bk nd q))]=Z (.fr,.bl (decide (q.length+1=w.length+1))):=λq=>e2v (f q) (y:=(.fr,.int ((w.length+1:Nat):Int))) Y (iY Y Y (m6 _ _));cases hw:nd w with
 |none =>
  obtain⟨q,U,e,g⟩:=A.wkN w w [] L L ⟨0,A.H.i.z⟩ (by rw[YU];exact hw) a (by show 0+_<_;omega);rw[List.length_nil,XH]at g;have j:wl bk nd []=[0]:=by
   show [num bk nd []]=_;rw[jA A.H.i.z,show ix bk 0=0 from A.h0]
  rw[j]at e;have d:=c q;rw[ZV (by omega)]at d;exact bI Y (sq (aw (m:=.fr) (aE (xv (x:=(.pu,xa (tabOf bk))) Y (xv (r:=ah) (x:=(.fr,.str w)) Y Y)) (bI Y (sq Y (fz ((cA Y Y).trans e))))) (by decide) (by show 2<3;decide)) (bP ((GX d).trans Y)))
 |some m =>
  have b:=c w;rw[decide_eq_true Y]at b;refine bI Y (sq (aw (m:=.fr) (aE (xv (x:=(.pu,xa (tabOf bk))) Y (xv (r:=ah) (x:=(.fr,.str w)) Y Y)) (yL A.H A.hM A.h0 (w:=w) (by rw[hw];rfl) a h)) (by decide) (by show 2<3;decide)) (bP ((Hl b).trans (e2v (x:=(.pu,Je (wl bk nd w))) (y:=(.fr,.int (-1))) Y Y ?_))));rw[lZ (λ(n:Nat)=>T.int (n:Int)) (wl bk nd w) 0 (by rw[ln];exact Wf _),ln];unfold wl;rw[Zr,Zd,WI,Yf (ZG _)];show Z (up .pu (T.int ((num bk nd (w.take w.length):Nat):Int)))=_;rw[Wj,jA hw];rfl
theorem Ma.count(B:T)(w:Tx)(b:Az w)(d:w.length<=1000):dy [B,xa (tabOf bk),Je (L8 bk wd),.str w]=Z (.fr,.int ((IW bk w).length:Int)):=by
 have st:=A.stand w b d;cases hw:nd w with
 |none =>
  rw[hw]at st;rw[FX λz=>by
   obtain⟨m,h⟩:=A.pt.mpr z;rw[hw]at h;cases h]
  exact bI Y (sq (aw (m:=.fr) (aE (xv (x:=(.pu,xa (tabOf bk))) Y (xv (r:=ah) (x:=(.fr,.str w)) Y Y)) st) (by decide) (by show 4<5;decide)) (fz (Pr (m:=.fr) Y Y)))
 |some m =>
  rw[hw]at st;have hm:=A.H.i.lt hw;have a:=Ya.mpr (A.lt.mpr hm);refine bI Y (sq (aw (m:=.fr) (aE (xv (x:=(.pu,xa (tabOf bk))) Y (xv (r:=ah) (x:=(.fr,.str w)) Y Y)) st) (by decide) (by show 4<5;decide)) (sq (nj (m:=.fr) Y Y) (bP (e2v (x:=(.pu,Je (L8 bk wd))) (y:=(.fr,.int (ix bk m:Int))) Y Y ?_))));rw[m9 (λ(n:Nat)=>T.int (n:Int)) (L8 bk wd) (ix bk m) 0 (by rw[Zy,ZX];exact a)];have:(L8 bk wd).getD (ix bk m) 0=(IW bk w).length:=by
   unfold L8;rw[Zr,Zd,Yf a];show (IW bk (wN bk wd (ix bk m))).length=_;have:wN bk wd (ix bk m)=sw (aG bk) wd m:=by
    unfold wN;rw[Zr,Zs a];show sw (aG bk) wd (aj bk)[ix bk m]=_;rw[Xv a]
   rw[this,qQ A.H (A.H.i.L5 hm) hw]
  rw[this];rfl
end
def mO{x:Val}(g:o U=Z x)(e:b U=Z a)(d:f x a=Z v):eM f o b U=Z v:=by
 unfold eM;rw[g,Zq,e];exact d
def GM{m n:Md}{k:Nat}(e:a U=Z (m,.str t))(d:b U=Z (n,.int (k:Int))):MC a L (Z b) U=Z (.fr,.str (t.take k)):=by
 unfold MC o6;dsimp only;rw[e,d];show Z (Md.fr,T.str (cut t L (Z (k:Int))))=_;rw[D1]
def Ab{α:Type}{f:α->T}{i:Nat}{U:Env}{l r:List α}(d:U[i]?=Z (Z (.ow (.lst (l.map f)))))(b:e U=Z (.fr,.lst (r.map f)))(a:l.length+r.length<=16777216):sX (jS i [] fD (ae e ah)) U=Z (.nx (U.set i (Z (.ow (.lst ((l++r).map f)))))):=by
 unfold sX jS;rw[d];show ((Z ([])).bind _ |>.map _)=_;rw[Zq,xv (r:=ah) b Y,Zq];show ((fD (.lst (l.map f)) [(.fr,.lst (r.map f))]).map _ |>.map _)=_;rw[uL (by rw[Zy,Zy];exact a),← ZD];rfl
section
variable{bk:List Tx}{nd:Wd->Option Nat}{wd:List Wd}(A:Ma bk nd wd)
include A
abbrev EL(f:List Tx)(w:Tx)(e:List Pl)(d b a:Vu):Env:=[pc (.lst (f.map .str)),Q2 w,oc (.lst (e.map tP)),d,b,a]
theorem Ma.places(w:Tx):lD [.lst (bk.map .str),.str w]=Z (.fr,.lst ((IW bk w).map tP)):=by
 have h8:=A.h8;obtain⟨s,f1,a,g,f,b,rfl,_,_,he⟩:=gr (tg:=nr [aS 3,aS 4]) (body:=mV) (λ(p:Tx×Nat)=>T.tup [.int (p.2:Int),.str p.1]) (λr U=>∃a g f b,U=EL bk w a g f b/\(∀p∈r,p.1.length<=120)/\a.length+121*r.length<=968/\a++r.flatMap (λp=>(JS w p.1).map λe=>(p.2,e))=IW bk w) (by
  rintro⟨t,n⟩ r _ ⟨a,g,f,b,rfl,j,hl,he⟩;rw[Ze]at hl;have q:t.length<=120:=j (t,n) Zu;have d:=Yc (λe=>w.isSuffixOf (t.take e)) (List.range (t.length+1));rw[ZX]at d;have o:=fX (k:=1) (tg:=aS 0) (it:=di (e2 bJ (eN bE (ae (aa 4) ah)) (Q3 1))) (c:=eM pP (MC (aa 5) L (Z (aa 0))) (ae (aa 2) ah)) (elt:=aa 0) (U:=EL bk w a (Q0 (n:Int)) (Q2 t) b) (m:=.fr) (λ(e:Nat)=>T.int (e:Int)) (λe=>w.isSuffixOf (t.take e)) (λe=>T.int (e:Int)) (List.range (t.length+1)) (Al (m:=.fr) (n:=t.length+1) Y (by omega)) Y (by rw[ZX];omega) λe _=>⟨_,(.fr,.bl (w.isSuffixOf (t.take e))),rfl,mO (GM (m:=.fr) (n:=.fr) Y Y) (xv (r:=ah) (x:=(.fr,.str w)) Y Y) Y,rfl,λ_=>rfl⟩
  refine⟨_,_,rfl,sq (aw (m:=.fr) o (by decide) (by show 5<6;decide)) (Ab (i:=2) (l:=a) (r:=(JS w t).map λe=>(n,e)) Y ?_ ?_),_,_,_,_,rfl,λp h=>j p (Zw _ h),?_,?_⟩
  ·rw[ZO];exact cu (k:=1) (tg:=aS 0) (m:=.pu) (λ(e:Nat)=>T.int (e:Int)) (λe=>tP (n,e)) (JS w t) Y Y (ZP d (by omega)) λe _=>⟨_,rfl,rfl⟩
  ·rw[Zy];have:(JS w t).length<=t.length+1:=d;omega
  ·rw[Zv,Zy];have:(JS w t).length<=t.length+1:=d;omega
  ·rw[← he,List.flatMap_cons,Z0]) (bk.zipIdx 0) (EL bk w [] L L L) ⟨[],_,_,_,rfl,λp h=>(A.hb _ (List.fst_mem_of_mem_zipIdx h)).1,by rw[List.length_zipIdx];show 0+_<=_;omega,rfl⟩
 rw[← he];refine bI Y (sq (U1:=EL bk w [] L L L) Y (sq ((cA (m:=.pu) ?_ Y).trans f1) (by
  show Z (Out.rt (.fr,.lst (a.map tP)) _)=Z (Out.rt (.fr,.lst ((a++[]).map tP)) _);rw[ZQ])))
 show Z (Md.pu,fW 0 (bk.map .str))=_;rw[enum_zip]
noncomputable def Nm(L:Nat)(t:Tx):List Tx:=(List.range (t.length+1-L)).map λi=>(t.drop i).take L
omit A in
theorem qR{L:Nat}:w∈Nm L t↔w.length=L/\w <:+: t:=by
 constructor
 ·intro h;obtain⟨i,d,rfl⟩:=Za.mp h;have:=ZJ.mp d;exact⟨by rw[Xc,Z4];omega,(Wk _ _).isInfix.trans (Wh _ _).isInfix⟩
 ·rintro⟨h,a,b,rfl⟩;refine Za.mpr ⟨a.length,ZJ.mpr (by rw[Zv,Zv];omega),?_⟩;rw[Z0,List.drop_left,← h,List.take_left]
abbrev EP(a:List Tx)(L:Nat)(f z:Vu):Env:=[pc (.lst (a.map .str)),Q0 (L:Int),f,z]
theorem Ma.parts_of(u:cy bk<=60)(a:Nat)(y:a<=1000):∃ps:List Tx,iP [.lst (bk.map .str),.int (a:Int)]=Z (.fr,.lst (ps.map .str))/\ps.length=(cS bk wd a).length:=by
 obtain⟨o,p⟩:=A.cs a;by_cases h0:a=0
 ·subst h0;refine⟨[[]],bI Y (fz (Pr (m:=.fr) Y Y)),len_eq (Zf.mpr ⟨(λz=>nomatch z),Yb⟩) o λw=>?_⟩;rw[ZZ,p,Xz];exact⟨λe=>⟨.inl e,e⟩,λe=>e.2⟩
 ·obtain⟨B,f1,f,⟨z,rfl⟩,d,n⟩:=gr (tg:=aS 3) (body:=jX) T.str (λr U=>∃f:List Tx,(∃z,U=EP bk a (oc (.lst (f.map .str))) z)/\f.length+cy r<=60/\∀w,(w∈f\/∃t∈r,w∈Nm a t) ↔ ∃t∈bk,w∈Nm a t) (by
   rintro t r _ ⟨f,⟨z,rfl⟩,d,n⟩;have d:f.length+(t.length+cy r)<=60:=d;have pl:(Nm a t).length<=t.length:=by unfold Nm;rw[Zy,ZX];omega
   refine⟨EP bk a (oc (.lst (f.map .str))) (Q2 t),_,rfl,Ab (i:=2) (l:=f) (r:=Nm a t) Y ?_ (by omega),f++Nm a t,⟨Q2 t,rfl⟩,by rw[Zv];omega,λw=>?_⟩
   ·rw[show (Nm a t).map T.str=(List.range (t.length+1-a)).map λe=>T.str ((t.drop e).take a) from by unfold Nm;rw[ZO];rfl];refine cu (m:=.fr) (λ(e:Nat)=>T.int (e:Int)) (λe=>T.str ((t.drop e).take a)) (List.range (t.length+1-a)) ?_ Y (by rw[ZX];omega) λe he=>⟨_,rfl,?_⟩
    ·rw[iU (m:=.fr) (j:=(t.length:Int)-(a:Int)+1) Y (by omega),show ((t.length:Int)-(a:Int)+1).toNat=t.length+1-a by omega,lx]
    ·have:=ZJ.mp he;rw[← BS t e a (by omega)];rfl
   ·rw[← n w,ZU];constructor
    ·rintro ((q | q) | ⟨v,b,q⟩)
     ·exact .inl q
     ·exact .inr ⟨t,Zu,q⟩
     ·exact .inr ⟨v,Zw _ b,q⟩
    ·rintro (q | ⟨v,b,q⟩)
     ·exact .inl (.inl q)
     ·rcases Zk.mp b with rfl | b
      ·exact .inl (.inr q)
      ·exact .inr ⟨v,b,q⟩) bk (EP bk a (oc (.lst [])) none) ⟨[],⟨none,rfl⟩,by show 0+cy bk<=60;omega,λw=>⟨λq=>q.elim (λz=>nomatch z) id,.inr⟩⟩
  have s:f.length<=60:=by have:f.length+0<=60:=d;omega
  have st:strs? (f.map T.str)=Z f:=by
   have:=strs_map (λx:Tx=>x) f
   rwa [List.map_id']at this
  refine⟨eQ (dedup f),?_,len_eq ((fF _).nodup_iff.mpr (jd f)) o λw=>?_⟩
  ·refine HA Y (wg (nj (m:=.fr) (eq_int (m:=.fr) 0 Y |>.trans (by rw[show ((a:Int)==0)=R from beq_eq_false_iff_ne.mpr (by omega)])) Y) (wg (U1:=EP bk a (oc (.lst [])) none) Y (wg ((cA (m:=.pu) Y Y).trans f1) (wg (U1:=EP bk a (pc (.lst (f.map .str))) z) Y ⟨_,bP (eA (xv (r:=ah) (x:=(.pu,.lst (f.map .str))) Y Y) ?_)⟩))));show (strs? (f.map T.str)).bind _=_;rw[st];exact Zn (by omega)
  ·rw[p,(fF _).mem_iff,ig,show (w∈f)=(w∈f\/∃t∈([]:List Tx),w∈Nm a t) from propext ⟨.inl,λq=>q.elim id λ⟨_,z,_⟩=>nomatch z⟩,n w];constructor
   ·rintro⟨t,g,h⟩;exact⟨.inr ⟨t,g,(qR.mp h).2⟩,(qR.mp h).1⟩
   ·rintro⟨h | ⟨t,g,h⟩,e⟩
    ·rw[h]at e;exact absurd e.symm h0
    ·exact⟨t,g,qR.mpr ⟨e,h⟩⟩
def So(a:List Tx)(t:Int)(w:Tx):Prop:=Pt a w/\w≠[]/\t<=((IW a w).length:Int)
def Mx(a:List Tx)(t:Int):Option Tx->Prop
 |none=>∀w,¬So a t w
 |some v=>So a t v/\∀w,So a t w->w.length<=v.length
def rO(p:Option (Tx×List Pl)):T:=match p with
 |none=>.non
 |some (v,l)=>.tup [.str v,.lst (l.map tP)]
theorem Ma.often(f:cP [.lst (bk.map .str)]=Z (.fr,xa (tabOf bk)))(t:Int):∃p,jM [.lst (bk.map .str),.int t]=Z (.fr,rO p)/\Mx bk t (p.map (·.1)):=by
 obtain⟨o,e,hb⟩:=BC A.H A.hM A.hN A.h0 A.hl A.hm (λm h=>A.Vb h) f A.hb A.h8 t;have st:∀w,So bk t w->∃k,RF bk wd t k/\w.length<=(wL bk wd k).length:=λw h=>by
  obtain⟨k,a,e,b⟩:=zX A.H A.hM h.1;refine⟨k,⟨⟨Yy λz=>h.2.1 ?_,a⟩,by rw[← e];exact h.2.2⟩,b.length_le⟩;rw[(Vc A.H A.hM A.h0 A.hN a).mpr z]at b;exact YV.mp b
 cases o with
 |none =>
  refine⟨L,e,λw h=>?_⟩;obtain⟨k,a,_⟩:=st w h;exact hb k a
 |some k =>
  obtain⟨⟨⟨i,d⟩,kt⟩,g⟩:=hb;obtain⟨q,n⟩:=HP A.H A.hM d;refine⟨Z (wL bk wd k,IW bk (wN bk wd k)),e,⟨n,λz=>?_,by rw[q];exact kt⟩,λw h=>?_⟩
  ·exact absurd ((Vc A.H A.hM A.h0 A.hN d).mp z) (Xy i)
  ·obtain⟨j,l,hl⟩:=st w h;exact ZP hl (g j l).1
end
def ve{t:Int}(h:So a t w):So (a.map List.reverse) t w.reverse:=⟨yg.mpr h.1,λz=>h.2.1 (Wi.mp z),by rw[wA];exact h.2.2⟩
def vp{a:List Tx}{t:Int}(h:So (a.map List.reverse) t w):So a t w.reverse:=by
 have:=ve h;rw[ZO,show List.reverse ∘ List.reverse=(id:Tx->Tx) from funext YO,List.map_id]at this;exact this
def DV{t:Int}(h:Mx e t p)(d:Mx (e.map List.reverse) t q):p.map List.length=q.map List.length:=by
 cases p with
 |none =>
  cases q with
  |none=>rfl
  |some v=>exact absurd (vp d.1) (h _)
 |some u =>
  cases q with
  |none=>exact absurd (ve h.1) (d _)
  |some v =>
   have a:=h.2 _ (vp d.1);have b:=d.2 _ (ve h.1);rw[Y2]at a b;exact congrArg Z (Nat.le_antisymm b a)
def HK{x:Val}{l h:Option Int}(e:a U=Z x)(g:o6 b U=Z l)(f:o6 d U=Z h)(q:S5 x l h=v):MC a b d U=v:=by
 unfold MC;rw[e,Zq,g,Zq,f,Zq];exact q
def E6{i:Int}(h:e U=Z (m,.int i)):o6 (Z e) U=Z (Z i):=by
 show (e U).bind _=_;rw[h];rfl
theorem uf{α:Type}:∀l:List α,(List.range l.length).filterMap (l[·]?)=l
 |[]=>rfl
 |x :: l=>by
  rw[Ze,List.range_succ_eq_map,Y3];show x :: (List.map Nat.succ (List.range l.length)).filterMap _=_;rw[List.filterMap_map];exact congrArg (x :: ·) (uf l)
theorem tD{α β:Type}{f g:α->Option β}:∀{l:List α},(∀a∈l,f a=g a)->l.filterMap f=l.filterMap g
 |[],_=>rfl
 |a :: l,h=>by rw[Y3,Y3,h a Zu,tD λb hb=>h b (Zw _ hb)]
def zv{α:Type}(l:List α):L2.pick l (PySem.sliceRange ((l.length:Int)-1) (-1) (-1))=l.reverse:=by
 have e:PySem.sliceRange ((l.length:Int)-1) (-1) (-1)=(List.range l.length).map λ(k:Nat)=>((l.length:Int)-1+(-1)*(k:Int)).toNat:=by
  show (List.range (if (l.length:Int)-1 > -1 then ((l.length:Int)-1 - -1 - -1-1)/(- -1) else 0:Int).toNat).map _=_;rw[show (- -1:Int)=1 from rfl,Int.ediv_one,show (if (l.length:Int)-1 > -1 then ((l.length:Int)-1 - -1 - -1-1) else 0:Int).toNat=l.length by split<;>lia]
 rw[e];unfold L2.pick;rw[List.filterMap_map];refine Eq.trans ?_ (uf l.reverse);rw[Y2];refine tD λk a=>?_;have a:=ZJ.mp a;rw[List.getElem?_reverse a];show l[((l.length:Int)-1+(-1)*(k:Int)).toNat]?=_;rw[show ((l.length:Int)-1+(-1)*(k:Int)).toNat=l.length-1-k by lia]
def zG(z:Tx):oN z=z.reverse:=zv z
def eqB(a:List Tx):KL 60 (.lst (a.map .str))=O:=by
 show (a.map T.str).all (KL 59)=O;rw[List.all_map];exact ZF.mpr λ_ _=>rfl
def HL{i j:Nat}(e:a U=Z (m,.int (i:Int)))(d:b U=Z (n,.int (j:Int))):e2 Kr a b U=Z (.fr,.bl (!decide (i=j))):=e2v e d (pU Y Y (m6 i j))
def pA{m n:Md}{l:List Tx}{y d:Int}(f:(l.length:Int)=d)(g:0<d):∃x∈l,aA (m,.lst (l.map .str)) (n,.int (y%d))=Z (.fr,.str x):=by
 obtain⟨t,b,e⟩:=CS (m:=m) (n:=n) (l.map T.str) y d (by rw[Zy];exact f) g;obtain⟨x,a,rfl⟩:=Za.mp b;exact⟨x,a,e⟩
def Ui{m:Md}{x d:Int}(he:e U=Z (m,.int x))(h:0<d/\d<1073741824):e2 cj e (Q3 d) U=Z (.fr,.int (x/d)):=e2v he (y:=(.fr,.int d)) Y (iy h)
def EZ{a:List Tx}(A:a.length<=8)(j:∀t∈a,t.length<=120/\Az t)(c:Int):∃w,iH [.lst (a.map .str),.int c]=Z (.fr,.str w)/\Az w/\w.length<=200:=by
 cases a with
 |nil =>
  obtain⟨x,f,e⟩:=pA (m:=.fr) (n:=.fr) (l:=[[],[97]]) (y:=c) (d:=2) Y (by decide);refine⟨x,bI Y (fz (Pr (m:=.fr) (e2v (x:=(.pu,.lst [])) (y:=(.fr,.lst [])) Y Y (iY Y Y Y)) (bP (e2v (x:=(.fr,.lst (([[],[97]]:List Tx).map .str))) Y (e2v (x:=(.fr,.int c)) (y:=(.fr,.int 2)) Y Y (dG (by decide))) e)))),?_⟩;have:∀x∈([[],[97]]:List Tx),(∀c∈x,97<=c/\c<=122)/\x.length<=200:=by decide
  exact this x f
 |cons b r =>
  generalize o:b :: r=a at j A;have E:0<a.length:=by rw[← o];exact Wf _
  obtain⟨t,v,C⟩:=pA (m:=.pu) (n:=.fr) (l:=a) (y:=c) (d:=a.length) Y (by omega);obtain⟨u,i,B⟩:=pA (m:=.fr) (n:=.fr) (l:=[[],[],[],[98]]) (y:=c/65536) (d:=4) Y (by decide);have i:(∀c∈u,97<=c/\c<=122)/\u.length<=1:=by
   have:∀x∈([[],[],[],[98]]:List Tx),(∀c∈x,97<=c/\c<=122)/\x.length<=1:=by decide
   exact this u i
  obtain⟨D,t2⟩:=j t v;have q:=YC (c/8) (b:=(t.length:Int)+1) (by omega);have p:=YS (c/8) (b:=(t.length:Int)+1) (by omega);generalize z:c/8%((t.length:Int)+1)=s at q p;let g:Int:=s+c/512%((t.length:Int)-s+1)
  have cl:=D0 t (Z s) (Z g);refine⟨cut t (Z s) (Z g)++u,bI (U:=[pc (.lst (a.map .str)),Q0 c,Q2 t,Q0 s,Q2 (cut t (Z s) (Z g))]) Y ?_,λx f=>?_,by rw[Zv];omega⟩
  ·refine sq (nj (m:=.fr) (e2v (x:=(.pu,.lst (a.map .str))) (y:=(.fr,.lst [])) Y Y (iY (r:=R) (eqB a) Y ?_)) Y) (sq (aw (m:=.fr) (e2v (x:=(.pu,.lst (a.map .str))) Y (e2v (x:=(.fr,.int c)) (y:=(.fr,.int (a.length:Int))) Y (eA (xv (r:=ah) (x:=(.pu,.lst (a.map .str))) Y Y) ?_) (dG (by omega))) C) (by decide) (by show 2<5;decide)) (sq (aw (m:=.fr) (e2v (Ui (m:=.fr) (x:=c) Y (by decide)) (y:=(.fr,.int ((t.length:Int)+1))) Y ((dG (by omega)).trans (by rw[z]))) (by decide) (by show 3<5;decide)) (sq (aw (m:=.fr) ?_ (by decide) (by show 4<5;decide)) (bP (AH (m:=.fr) (n:=.fr) Y (e2v (x:=(.fr,.lst (([[],[],[],[98]]:List Tx).map .str))) Y (e2v (Ui (m:=.fr) (x:=c) Y (by decide)) (y:=(.fr,.int 4)) Y (dG (by decide))) B) (by omega))))))
   ·rw[← o];rfl
   ·show Z (Md.fr,T.int (((a.map T.str).length:Nat):Int))=_;rw[Zy]
   ·have f:e2 bJ (aa 3) (e2 oMod (e2 cj (aa 1) (Q3 512)) (e2 bJ (e2 mP (eN bE (ae (aa 2) ah)) (aa 3)) (Q3 1))) [pc (.lst (a.map .str)),Q0 c,Q2 t,Q0 s,L]=Z (.fr,.int g):=e2v (x:=(.fr,.int s)) Y (e2v (Ui (m:=.fr) (x:=c) Y (by decide)) (y:=(.fr,.int ((t.length:Int)-s+1))) Y (dG (by omega))) Y;exact HK (x:=(.fr,.str t)) (l:=Z s) (h:=Z g) Y Y (E6 f) Y
  ·rcases ZU.mp f with f | f
   ·exact t2 x (Ck t _ _ f)
   ·exact i.1 x f
def Hh{m:Md}{l:List Tx}(h:a U=Z (m,.lst (l.map .str)))(b:l.length<=8):eN mQ (ae a ah) U=Z (.fr,.lst (l.map .str)):=eA (xv (r:=ah) h Y) (by
 show Lu m (l.map .str)=_;rw[lV (by rw[Zy];omega),jh _ (λ_=>rfl) _];rfl)
def len_T{α:Type}{f:α->T}{m:Md}{l:List α}(h:a U=Z (m,.lst (l.map f))):eN bE (ae a ah) U=Z (.fr,.int (l.length:Int)):=eA (xv (r:=ah) h Y) (by
 show Z (Md.fr,T.int (((l.map f).length:Nat):Int))=_;rw[Zy])
def vH{m n:Md}(e:a U=Z (m,.bl R))(d:b U=Z (.fr,.bl R)):NA a b U=Z (.fr,.bl R):=or2 (m:=m) (n:=n) e d
def jK{m n:Md}{i j:Nat}(e:a U=Z (m,.int (i:Int)))(d:b U=Z (n,.int (j:Int)))(h:i=j):e2 Kr a b U=Z (.fr,.bl R):=(HL e d).trans (by rw[decide_eq_true h];rfl)
def Pq{m:Md}(h:a U=Z (m,t)):uF a U=Z (.fr,.bl (Oo t))/\eY a U=Z (.fr,.bl (!Oo t)):=by
 constructor
 ·show (a U).bind _=_;rw[h];rfl
 ·show (a U).bind _=_;rw[h];rfl
structure Tr(bk:List Tx)(nd MO NO:Wd->Option Nat)(w0 w1 w2:List Wd):Prop where
 a:Ma bk nd w0
 b:Ma (bk.map List.reverse) MO w1
 c:Ma [bk.flatten] NO w2
 s:cy bk<=60
abbrev EW(i:Vw)(a:List Tx)(h g:List Wd)(f e d b l o p n j m:Vu):Env:=[pc (.scr i),pc (.lst (a.map .str)),pc (.lst ((a.map List.reverse).map .str)),pc (xa (tabOf a)),pc (xa (tabOf (a.map List.reverse))),pc (Je (L8 a h)),pc (Je (L8 (a.map List.reverse) g)),f,e,d,b,l,o,p,n,j,m]
abbrev EX(g:Vw)(a:List Tx)(f e d:List Wd)(b i m n l h j:Vu):Env:=EW g a f e b (pc (.lst ([a.flatten].map .str))) (pc (xa (tabOf [a.flatten]))) (pc (Je (L8 [a.flatten] d))) i m n l h j
section
variable{ns:Vw}{bk:List Tx}{nd MO NO:Wd->Option Nat}{w0 w1 w2:List Wd}(R:Tr bk nd MO NO w0 w1 w2)
include R
theorem HH(n:Nat)(f:n<=1000):pD (EW ns bk w0 w1 (Q0 (n:Int)) L L L L L L L L L)=Z (.nx (EW ns bk w0 w1 (Q0 (n:Int)) L L L L L L L L L)):=by
 obtain⟨ps,e,hl⟩:=R.a.parts_of R.s n f;have d:=aE (U:=EW ns bk w0 w1 (Q0 (n:Int)) L L L L L L L L L) (as:=ae (aa 3) (ae (aa 7) ah)) (xv (x:=(.pu,xa (tabOf bk))) Y (xv (r:=ah) (x:=(.fr,.int (n:Int))) Y Y)) (R.a.counted n);refine nj (vH (n:=.fr) (jK d (aE (xv (x:=(.pu,xa (tabOf (bk.map List.reverse)))) Y (xv (r:=ah) (x:=(.fr,.int (n:Int))) Y Y)) (R.b.counted n)) (R.a.Pc R.b n).symm) (jK d (len_T (m:=.fr) (aE (xv (x:=(.pu,.lst (bk.map .str))) Y (xv (r:=ah) (x:=(.fr,.int (n:Int))) Y Y)) e)) hl.symm)) Y
theorem Gy(k:Nat)(d u j g e f:Vu):∃s t,lh (EX ns bk w0 w1 w2 d (Q0 (k:Int)) u j g e f)=Z (.nx (EX ns bk w0 w1 w2 d (Q0 (k:Int)) s t g e f)):=by
 obtain⟨w,p,wz,wl⟩:=EZ R.a.h8 R.a.hb (cellAt ns (12+k)+141650939*(k:Int));have l:Az w.reverse:=λc o=>wz c (List.mem_reverse.mp o);have q:∀{j:Vu},aH dy (ae (aa 1) (ae (aa 3) (ae (aa 5) (ae (aa 12) ah)))) (EX ns bk w0 w1 w2 d (Q0 (k:Int)) (Q2 w) j g e f)=Z (.fr,.int ((IW bk w).length:Int)):=aE (xv (x:=(.pu,.lst (bk.map .str))) Y (xv (x:=(.pu,xa (tabOf bk))) Y (xv (x:=(.pu,Je (L8 bk w0))) Y (xv (r:=ah) (x:=(.fr,.str w)) Y Y)))) (R.a.count _ w wz (by omega));refine⟨Q2 w,Q0 ((IW bk w).length:Int),?_⟩;unfold lh;refine sq (U1:=EX ns bk w0 w1 w2 d (Q0 (k:Int)) (Q2 w) j g e f) (aw (m:=.fr) (aE (xv (x:=(.pu,.lst (bk.map .str))) Y (xv (r:=ah) (x:=(.fr,.int (cellAt ns (12+k)+141650939*(k:Int)))) (e2v (nU (k:=12+k) Y (e2v (x:=(.fr,.int 12)) (y:=(.fr,.int (k:Int))) Y Y ?_)) (e2v (x:=(.fr,.int 141650939)) (y:=(.fr,.int (k:Int))) Y Y (mE (by decide))) Y) Y)) p) (by decide) (by show 12<17;decide)) (sq (U1:=EX ns bk w0 w1 w2 d (Q0 (k:Int)) (Q2 w) (Q0 ((IW bk w).length:Int)) g e f) (aw (m:=.fr) q (by decide) (by show 13<17;decide)) (sq (nj (vH (n:=.fr) (jK (m:=.fr) (i:=(IW bk w).length) Y (len_T (m:=.fr) (aE (xv (x:=(.pu,.lst (bk.map .str))) Y (xv (r:=ah) (x:=(.fr,.str w)) Y Y)) (R.a.places w))) Y) (jK (m:=.fr) (i:=(IW bk w).length) Y (aE (xv (x:=(.pu,.lst ((bk.map List.reverse).map .str))) Y (xv (x:=(.pu,xa (tabOf (bk.map List.reverse)))) Y (xv (x:=(.pu,Je (L8 (bk.map List.reverse) w1))) Y (xv (r:=ah) (x:=(.fr,.str w.reverse)) ?_ Y)))) (R.b.count _ w.reverse l (by rw[Y2];omega))) (wA bk w).symm)) Y) (nj (m:=.fr) (l9 (m:=.fr) (x:=!decide (w=[])) (v:=(.fr,.bl false)) ?_ (λh=>?_) λ_=>rfl) Y)))
 ·show Z (Md.fr,T.int (12+(k:Int)))=_;rw[show (12+(k:Int))=((12+k:Nat):Int) by omega]
 ·show Z (Md.fr,T.str (oN w))=_;rw[zG]
 ·refine e2v (x:=(.fr,.str w)) (y:=(.fr,.str [])) Y Y (pU Y Y ?_);show (w==[])=decide (w=[]);cases w<;>rfl
 ·have hw:w≠[]:=λz=>by rw[z]at h;cases h
  refine e2v (aE (xv (x:=(.pu,.lst ([bk.flatten].map .str))) Y (xv (x:=(.pu,xa (tabOf [bk.flatten]))) Y (xv (x:=(.pu,Je (L8 [bk.flatten] w2))) Y (xv (r:=ah) (x:=(.fr,.str w)) Y Y)))) (R.c.count _ w wz (by omega))) (y:=(.fr,.int ((IW bk w).length:Int))) Y ?_;have:=Bc hw bk;show Z (Md.fr,T.bl (decide (((IW [bk.flatten] w).length:Int)<((IW bk w).length:Int))))=_;rw[ZV (by omega)]
theorem Gg(A:cP [.lst (bk.map .str)]=Z (.fr,xa (tabOf bk)))(s:cP [.lst ((bk.map List.reverse).map .str)]=Z (.fr,xa (tabOf (bk.map List.reverse))))(t:Int)(d e f g F z:Vu):∃D E,lu (EX ns bk w0 w1 w2 d e f g (Q0 t) F z)=Z (.nx (EX ns bk w0 w1 w2 d e f g (Q0 t) D E)):=by
 obtain⟨p,e1,C⟩:=R.a.often A t;obtain⟨q,G,B⟩:=R.b.often s t;have l:=DV C B;refine⟨pc (rO p),pc (rO q),?_⟩;unfold lu;refine sq (U1:=EX ns bk w0 w1 w2 d e f g (Q0 t) (pc (rO p)) z) (aw (m:=.fr) (aE (xv (x:=(.pu,.lst (bk.map .str))) Y (xv (r:=ah) (x:=(.fr,.int t)) Y Y)) e1) (by decide) (by show 15<17;decide)) (sq (U1:=EX ns bk w0 w1 w2 d e f g (Q0 t) (pc (rO p)) (pc (rO q))) (aw (m:=.fr) (aE (xv (x:=(.pu,.lst ((bk.map List.reverse).map .str))) Y (xv (r:=ah) (x:=(.fr,.int t)) Y Y)) G) (by decide) (by show 16<17;decide)) (nj (m:=.fr) ?_ Y));have o:aa 15 (EX ns bk w0 w1 w2 d e f g (Q0 t) (pc (rO p)) (pc (rO q)))=Z (up .pu (rO p)):=rfl;have w:aa 16 (EX ns bk w0 w1 w2 d e f g (Q0 t) (pc (rO p)) (pc (rO q)))=Z (up .pu (rO q)):=rfl;cases p with
 |none =>
  cases q with
  |some v=>cases l
  |none=>exact vH (m:=.fr) (n:=.fr) (e2v (Pq o).1 (Pq w).1 (pU Y Y (r:=O) Y)) (l9 (Pq o).2 (λh=>nomatch h) λ_=>rfl)
 |some u =>
  cases q with
  |none=>cases l
  |some v =>
   have l:u.1.length=v.1.length:=Zi l;refine vH (m:=.fr) (n:=.fr) (e2v (Pq o).1 (Pq w).1 (pU Y Y (r:=O) Y)) (l9 (Pq o).2 (λ_=>jK (m:=.fr) (n:=.fr) (i:=u.1.length) (j:=v.1.length) ?_ ?_ l) λh=>nomatch h)
   ·exact eA (xv (r:=ah) (x:=(.fr,.str u.1)) (e2v o (y:=(.fr,.int 0)) Y Y) Y) Y
   ·exact eA (xv (r:=ah) (x:=(.fr,.str v.1)) (e2v w (y:=(.fr,.int 0)) Y Y) Y) Y
end
theorem vJ:∀bk:List Tx,total bk=cy bk
 |[]=>rfl
 |t :: r=>congrArg (t.length+·) (vJ r)
def AX(a:List Tx):cy (a.map List.reverse)=cy a:=by
 unfold cy;rw[ZO,show List.length ∘ List.reverse=(List.length:Tx->Nat) from funext λt=>Y2]
def yw(ns:Vw)(_:ns.length<=63):za [.scr ns]=Z (.fr,.bl O):=by
 obtain⟨bk,eb,J,bs,M⟩:=DH ns;have v:cy bk<=60:=by
  unfold cy;rw[← List.length_flatten];exact bs
 have B:L1 bk:=⟨J,by omega,M⟩
 have N:L1 (bk.map List.reverse):=⟨by rw[Zy];exact J,by rw[AX];omega,λt u c q=>by
  obtain⟨s,v,rfl⟩:=Za.mp u;exact M s v c (List.mem_reverse.mp q)⟩
 have P:L1 [bk.flatten]:=⟨by show 1<=8;decide,by show bk.flatten.length+0<=120;omega,λt u c q=>by
  rw[ZZ.mp u]at q;obtain⟨s,v,q⟩:=List.mem_flatten.mp q;exact M s v c q⟩
 obtain⟨nd,a,A⟩:=zB B;obtain⟨MO,d,G⟩:=zB N;obtain⟨NO,f,F⟩:=zB P;have R:Tr bk nd MO NO a d f:=⟨A,G,F,v⟩
 obtain⟨w,H,hM⟩:∃w:Nat,(∀U:Env,aa 1 U=Z (.pu,.lst (bk.map .str))->eN oW (ae (e2 bJ (dX (ae (Q3 0) ah)) (bU 1 (aS 0) (dS (aa 1)) L (eN bE (ae (aa 0) ah)))) ah) U=Z (.fr,.int (w:Int)))/\w<=120:=by
  obtain⟨⟨g0,_⟩,g⟩:=L2.nW (bk.map λt=>(t.length:Int)) 0;refine⟨(L2.kh 0 (bk.map λt=>(t.length:Int))).toNat,λU h1=>?_,?_⟩
  ·rw[WN g0];have c:=cu (k:=1) (tg:=aS 0) (it:=dS (aa 1)) (elt:=eN bE (ae (aa 0) ah)) (U:=U) (m:=.pu) T.str (λt=>T.int (t.length:Int)) bk (gE h1) Y (by omega) λt _=>⟨_,rfl,eA (xv (r:=ah) (x:=(.fr,.str t)) Y Y) Y⟩
   refine eA (xv (r:=ah) (e2v (x:=(.fr,.lst [.int 0])) Y c (z:=(.fr,.lst (.int 0 :: bk.map λt=>T.int (t.length:Int)))) ?_) Y) ?_
   ·rw[yx,lV (by rw[Zv,Zy];show 1+_<=_;omega)];show Z (if iN (bk.map λt=>T.int (t.length:Int))=O then Md.fr else Md.fr,_)=_;rw[ite_self];rfl
   ·show ((iX (bk.map λt=>T.int (t.length:Int))).map _).bind _=_;rw[ints_map (λt:Tx=>(t.length:Int))];rfl
  ·rcases g with g | g
   ·rw[g];decide
   ·obtain⟨t,u,e⟩:=Za.mp g;rw[← e,Yr];exact(A.hb t u).1
 obtain⟨U1,f1,⟨b,rfl⟩,_⟩:=gr (tg:=aS 7) (body:=pD) (λ(i:Nat)=>T.int (i:Int)) (λr U=>(∃b,U=EW ns bk a d b L L L L L L L L L)/\∀n∈r,n<=1000) (by
  rintro n r _ ⟨⟨b,rfl⟩,h⟩;exact⟨_,_,rfl,HH R n (h n Zu),⟨_,rfl⟩,λi X=>h i (Zw _ X)⟩) (List.range (w+2)) (EW ns bk a d L L L L L L L L L L) ⟨⟨L,rfl⟩,λn S=>by have:=ZJ.mp S;omega⟩
 obtain⟨U2,f2,p,l,o,rfl⟩:=gr (tg:=aS 11) (body:=lh) (λ(i:Nat)=>T.int (i:Int)) (λ_ U=>∃p l o,U=EX ns bk a d f b p l o L L L) (by
  rintro n r _ ⟨p,l,o,rfl⟩;obtain⟨Va,U9,e⟩:=Gy (ns:=ns) R n b l o L L L;exact⟨_,_,rfl,e,_,_,_,rfl⟩) (List.range 12) (EX ns bk a d f b L L L L L L) ⟨L,L,L,rfl⟩
 obtain⟨U3,f3,E,C,D,rfl⟩:=gr (tg:=aS 14) (body:=lu) (λ(i:Int)=>T.int i) (λ_ U=>∃E C D,U=EX ns bk a d f b p l o E C D) (by
  rintro t r _ ⟨E,C,D,rfl⟩;obtain⟨U8,U7,e⟩:=Gg (ns:=ns) R (yf B) (yf N) t b p l o C D;exact⟨_,_,rfl,e,_,_,_,rfl⟩) [1,2,3] (EX ns bk a d f b p l o L L L) ⟨L,L,L,rfl⟩
 have Q:∀{U:Env},aa 1 U=Z (.pu,.lst (bk.map .str))->dX (ae (eM kL (eC (.str [])) (ae (aa 1) ah)) ah) U=Z (.fr,.lst ([bk.flatten].map .str)):=λ{U} h=>E2 [bk.flatten] (xv (r:=ah) (mO (x:=(.fr,.str [])) Y (xv (r:=ah) h Y) (by
  show (strs? (bk.map T.str)).bind _=_;have:=strs_map (λx:Tx=>x) bk;rw[List.map_id']at this;rw[this,Zq,j5];refine Zn ?_;rw[vJ];show cy bk+bk.length*0<=16777216;omega)) Y) (by show 1<=_;decide)
 refine bI (U:=EX ns bk a d f b p l o E C D) Y ?_;refine sq (U1:=[pc (.scr ns),pc (.lst (bk.map .str)),L,L,L,L,L,L,L,L,L,L,L,L,L,L,L]) (aw (m:=.fr) (aE (xv (r:=ah) (x:=(.fr,.scr ns)) Y Y) eb) (by decide) (by show 1<17;decide)) ?_;refine sq (U1:=[pc (.scr ns),pc (.lst (bk.map .str)),pc (.lst ((bk.map List.reverse).map .str)),L,L,L,L,L,L,L,L,L,L,L,L,L,L]) (aw (m:=.fr) (t:=.lst ((bk.map List.reverse).map .str)) (by
  rw[ZO];exact cu (m:=.pu) T.str (λt:Tx=>T.str t.reverse) bk Y Y (by omega) λt _=>⟨_,rfl,by
   show Z (Md.fr,T.str (oN t))=_;rw[zG]⟩) (by decide) (by show 2<17;decide)) ?_
 refine sq (U1:=[pc (.scr ns),pc (.lst (bk.map .str)),pc (.lst ((bk.map List.reverse).map .str)),pc (xa (tabOf bk)),L,L,L,L,L,L,L,L,L,L,L,L,L]) (aw (m:=.fr) (rB B (Hh (m:=.pu) Y J)) (by decide) (by show 3<17;decide)) ?_;refine sq (U1:=[pc (.scr ns),pc (.lst (bk.map .str)),pc (.lst ((bk.map List.reverse).map .str)),pc (xa (tabOf bk)),pc (xa (tabOf (bk.map List.reverse))),L,L,L,L,L,L,L,L,L,L,L,L]) (aw (m:=.fr) (rB N (m:=.pu) Y) (by decide) (by show 4<17;decide)) ?_;refine sq (U1:=[pc (.scr ns),pc (.lst (bk.map .str)),pc (.lst ((bk.map List.reverse).map .str)),pc (xa (tabOf bk)),pc (xa (tabOf (bk.map List.reverse))),pc (Je (L8 bk a)),L,L,L,L,L,L,L,L,L,L,L]) (aw (m:=.fr) (aE (xv (x:=(.pu,.lst (bk.map .str))) Y (xv (r:=ah) (x:=(.pu,xa (tabOf bk))) Y Y)) A.counts) (by decide) (by show 5<17;decide)) ?_;refine sq (U1:=EW ns bk a d L L L L L L L L L L) (aw (m:=.fr) (aE (xv (x:=(.pu,.lst ((bk.map List.reverse).map .str))) Y (xv (r:=ah) (x:=(.pu,xa (tabOf (bk.map List.reverse)))) Y Y)) G.counts) (by decide) (by show 6<17;decide)) ?_;refine sq (U1:=EW ns bk a d L L L L L L L L L L) (nj (jK (aE (xv (r:=ah) (x:=(.pu,xa (tabOf bk))) Y Y) A.unlike) (aE (xv (r:=ah) (x:=(.pu,xa (tabOf (bk.map List.reverse)))) Y Y) G.unlike) (A.OI G).symm) Y) ?_;refine sq ((cA (m:=.fr) (Al (m:=.fr) (n:=w+2) (e2v (H _ Y) (y:=(.fr,.int 2)) Y Y) (by omega)) Y).trans f1) ?_;refine sq (aw (m:=.fr) (Q Y) (by decide) (by show 8<17;decide)) ?_;refine sq (aw (m:=.fr) (rB P (m:=.pu) Y) (by decide) (by show 9<17;decide)) ?_;refine sq (U1:=EX ns bk a d f b L L L L L L) (aw (m:=.fr) (aE (xv (x:=(.pu,.lst ([bk.flatten].map .str))) Y (xv (r:=ah) (x:=(.pu,xa (tabOf [bk.flatten]))) Y Y)) F.counts) (by decide) (by show 10<17;decide)) ?_;refine sq ((cA (m:=.fr) (Al (m:=.fr) (n:=12) Y (by decide)) Y).trans f2) ?_;refine sq ((cA (m:=.fr) (oP (m:=.fr) (n:=.fr) (i:=1) (j:=4) Y Y (by decide)) Y).trans f3) ?_;refine bP (e2v (aE (xv (r:=ah) (x:=(.pu,xa (tabOf [bk.flatten]))) Y Y) F.unlike) (aE (xv (r:=ah) (x:=(.pu,xa (tabOf bk))) Y Y) A.unlike) ?_);have:=A.OJ F;show Z (Md.fr,T.bl (decide (((pS bk a).length:Int)<=((pS [bk.flatten] f).length:Int))))=_;rw[decide_eq_true (by omega)]
end T56
end
section
namespace T56
open PySem PySem.Spec PyProof.Rows L2 VS
def qv{X:Cx}(i:Nat)(a:{`q8,X.N[i]?=Z x})(b:Lg X.env.scope x:=by exact Or.inl Y)(c:{`q2,K3 x})(d:{`q2,K4 x}):PV G X (.Name x p) (aa i):=bF i a b c d
def Q4{α:Sort _}{x:α}{b:Prop}:x=x∨b:=.inl Y
abbrev Q5:List Str:=["_law_book_here", "_law_cell"]
abbrev Q6:List Str:=["_law_book_here", "_law_table", "_law_many", "_law_word"]
abbrev Q7:List Str:=["_law_cell", "_law_k"]
abbrev Q8:List Str:=["_law_j", "_law_script", "_law_cell", "_law_letters", "_law_count_here", "_law_most"]
abbrev Q9:List Str:=["_law_script", "_law_k"]
abbrev Qa:List Str:=["_law_script", "_law_letters", "_law_most", "_law_j"]
abbrev Qb:List Str:=["_law_script"]
abbrev Qc:List Str:=["_law_text_here", "_law_script", "_law_book_here", "_law_about", "_law_table", "_law_turned_table", "_law_many", "_law_turned_many", "_law_long", "_law_whole", "_law_whole_table", "_law_whole_many", "_law_k", "_law_word", "_law_count_here", "_law_times", "_law_one", "_law_other"]
abbrev Qd:List Str:=["book", "number"]
abbrev Qe:List Str:=["book", "table"]
abbrev Qf:List Str:=["end", "book", "word", "found", "number", "text", "ends"]
abbrev Qg:List Str:=["row", "book", "table", "found", "number", "text", "end", "head", "stand"]
abbrev Qh:List Str:=["self", "head", "sign"]
abbrev Qi:List Str:=["self", "head", "word"]
abbrev Qj:List Str:=["self", "long", "link", "ways"]
abbrev Qk:List Str:=["self", "node", "numbers"]
abbrev Ql:List Str:=["self", "node", "sign"]
abbrev Qm:List Str:=["self", "text", "word"]
abbrev Qn:List Str:=["self"]
abbrev Qo:List Str:=["sign", "self", "node", "numbers", "link", "ways", "steps"]
abbrev Qp:List Str:=["stand", "book", "times", "table", "found", "fitting", "-6"]
abbrev Qq:List Str:=["stand", "table", "stands", "long", "as_long"]
abbrev Qr:List Str:=["start", "book", "long", "found", "text"]
abbrev Qs:List Str:=["table", "long"]
abbrev Qt:List Str:=["table", "stand"]
abbrev Qu:List Str:=["table", "stands", "long", "as_long"]
abbrev Qv:List Str:=["table", "word"]
noncomputable def top(i:Nat):Stmt:=PySem.Challenge.pw_allparts_k56_whole_texts_turned_and_laid.main.body.getD i (.Pass ⟨0,0,0,0⟩)
structure JD(mg:Wq):Prop where
 Ph:mg "bool" = none
 Nf:mg "dict" = none
 Js:mg "enumerate" = none
 RB:mg "int" = none
 J0:mg "isinstance" = none
 xt:mg "len" = none
 Nd:mg "list" = none
 Nc:mg "max" = none
 Ox:mg "min" = none
 Jr:mg "range" = none
 RA:mg "set" = none
 Kp:mg "sorted" = none
 Ow:mg "sum" = none
 N4:mg "tuple" = none
 Le:∃t,mg "MOST_SIGNS" = some (.int 120 t)
 Lc:∃t,mg "MOST_TEXTS" = some (.int 8 t)
noncomputable abbrev Oi:List Str:=["  ", "longs", "links", "ways", "texts", "heads", "nodes"]
abbrev gX(K:Wu)(C D:KM):Gx:=Nv Oi K C D
def gJ{K:Wu}:kA ((Nv Oi K C D).at m):=Cw (by decide +kernel) (by decide +kernel)
structure Jp(K:Wu)(mg:Wq)(C D:KM):Prop where
 xl:Kc K C
 MP:mg "Nodes" = some (.ref C)
 Jw:bf K C "longs"
 Jx:bf K C "links"
 JC:bf K C "ways"
 Ju:bf K C "texts"
 Jy:bf K C "heads"
 Jv:bf K C "nodes"
 xh:Kc K D
 LQ:mg "Machine" = some (.ref D)
 Jb:bf K D "longs"
 Jc:bf K D "links"
 Jl:bf K D "ways"
 IZ:bf K D "texts"
 Jd:bf K D "heads"
 Ja:bf K D "nodes"
def fJ{K:Wu}(O:Jp K a C D):JQ ((Nv Oi K C D).at m) K 1 "longs" := xI Y O.xl O.xh O.Jw O.Jb
def fL{K:Wu}(O:Jp K a C D):JQ ((Nv Oi K C D).at m) K 2 "links" := xI Y O.xl O.xh O.Jx O.Jc
def eR{K:Wu}(O:Jp K a C D):JQ ((Nv Oi K C D).at m) K 3 "ways" := xI Y O.xl O.xh O.JC O.Jl
def eO{K:Wu}(O:Jp K a C D):JQ ((Nv Oi K C D).at m) K 4 "texts" := xI Y O.xl O.xh O.Ju O.IZ
def lA{K:Wu}(O:Jp K a C D):JQ ((Nv Oi K C D).at m) K 5 "heads" := xI Y O.xl O.xh O.Jy O.Jd
def pk{K:Wu}(O:Jp K a C D):JQ ((Nv Oi K C D).at m) K 6 "nodes" := xI Y O.xl O.xh O.Jv O.Ja
section
variable(P:Re)(w:UF)(base:SZ){K:Wu}
abbrev fq:Stmt:=inClass (top 27) 1
def kQ:bt Qj Qj (ai fq):=by constructor<;>first | rfl | decide +kernel
def aQ(F:IH K "new_node" "Nodes.new_node" fq f b)(a:Meth K C "new_node" f)(B:JD mg)(O:Jp K mg C D) :
  MtAt P w K mg base 1 (gX K C D) 0 "new_node" Qj [R,R,true] aW:=mD F a O.xl (gC (by decide +kernel) (by decide +kernel)) kQ Y Y (λ_ _ _ _ _ _ d hl=>by obtain⟨_,_,_,_,rfl⟩:=L2.ED hl;rfl) λ_ _ _ _ _ _ _ e =>
  (ag (rh gJ (fO 1 (fJ O) (bK 0)) (ab (qv 1) af))
  (ag (rh gJ (fO 2 (fL O) (bK 0)) (ab (qv 2) af))
  (ag (Bj gJ (fO 3 (eR O) (bK 0)) Y Y Q4 Y Y Y Y Y Y Y Y)
  (ar (aT (gg ma mn (cf B.xt (ab (w_fld gJ (fJ O) (qv 0)) af)) au))))))
abbrev eZ:Stmt:=inClass (top 27) 0
def lE:bt Qn Qn (ai eZ):=by constructor<;>first | rfl | decide +kernel
def bw(F:IH K "__init__" "Nodes.__init__" eZ f d)(b:Mk K C f)(B:JD mg)(O:Jp K mg C D)(e:MtAt P w K mg base 1 (gX K C D) 0 "new_node" Qj [R,R,true] aW) :
  InAt P w K mg base 2 (gX K C D) 0 0 "Nodes" Qn bW:=E4 F b O.MP lE Y Y (λ_ _ _ _ _ _ g hl=>by obtain⟨_,rfl⟩:=L2.mh hl;rfl) λ_ _ _ _ _ _ _ a =>
  (ag (l6 0 1 gJ (fJ O) (cE af))
  (ag (l6 0 2 gJ (fL O) (cE af))
  (ag (l6 0 3 gJ (eR O) (cE af))
  (ar (oh (g8 gJ e.at a (by decide) (bK 0) (ab au (ab rq (ab u7 af)))) Y)))))
abbrev cB:Stmt:=inClass (top 27) 4
def bh:bt ["self", "node", "sign", "old", "long", "half"] Ql (ai cB):=by constructor<;>first | rfl | decide +kernel
def aV(F:IH K "node_just_behind" "Nodes.node_just_behind" cB f d)(b:Meth K C "node_just_behind" f)(B:JD mg)(O:Jp K mg C D)(e:MtAt P w K mg base 1 (gX K C D) 0 "new_node" Qj [R,R,true] aW) :
  MtAt P w K mg base 2 (gX K C D) 0 "node_just_behind" Ql [R,R] aB:=mD F b O.xl (gC (by decide +kernel) (by decide +kernel)) bh Y Y (λ_ _ _ _ _ _ g hl=>by obtain⟨_,_,_,rfl⟩:=L2.wW hl;rfl) λ_ _ _ _ _ _ _ a =>
  (ag (ax (uI a (aR (w_fld gJ (eR O) (qv 0)) (qv 1) (λ_ _=>rfl)) (qv 2) (λ_ _=>rfl)) bh.nd Y Q4)
  (ag (ax (w_add (aR (w_fld gJ (fJ O) (qv 0)) (qv 1) (λ_ _=>rfl)) au) bh.nd Y Q4)
  (ag (bM (jB a (aR (w_fld gJ (fJ O) (qv 0)) (qv 3) (λ_ _=>rfl)) (qv 4)) (ar (cV 3 Y (Or.inl Y) Y Y)) bx)
  (ag (qX (g8 gJ e.at a (by decide) (bK 0) (ab (qv 4) (ab (aR (w_fld gJ (fL O) (qv 0)) (qv 3) (λ_ _=>rfl)) (ab (CP B.Nf (ab (aR (w_fld gJ (eR O) (qv 0)) (qv 3) (λ_ _=>rfl)) af) Y Y) af)))) bh.nd Y Q4 Y Q4)
  (ag (lN gJ a (fO 2 (fL O) (bK 0)) (qv 3) (qv 5))
  (ag (ij ZH (LL.Nl (kZ (jL (qv 1)) (kJ (jB a (w_get a (aR (w_fld gJ (eR O) (qv 0)) (qv 1) (λ_ _=>rfl)) (qv 2) Y Y Y Y) (qv 3)))))
  (ag (lN gJ a (Dl a (fO 3 (eR O) (bK 0)) (qv 1) (λ_ _=>rfl) Y) (qv 2) (qv 5))
  (ar (ax (aR (w_fld gJ (fL O) (qv 0)) (qv 1) (λ_ _=>rfl)) bh.nd Y Q4))))
  (ar (cV 5 Y (Or.inl Y) Y Y))))))))
abbrev dU:Stmt:=inClass (top 27) 3
def cz:bt ["self", "head", "sign", "fresh", "node"] Qh (ai dU):=by constructor<;>first | rfl | decide +kernel
def bN(F:IH K "head_behind" "Nodes.head_behind" dU f e)(d:Meth K C "head_behind" f)(B:JD mg)(O:Jp K mg C D)(g:MtAt P w K mg base 1 (gX K C D) 0 "new_node" Qj [R,R,true] aW)(b:MtAt P w K mg base 2 (gX K C D) 0 "node_just_behind" Ql [R,R] aB) :
  MtAt P w K mg base 3 (gX K C D) 0 "head_behind" Qh [R,R] bO:=mD F d O.xl (gC (by decide +kernel) (by decide +kernel)) cz Y Y (λ_ _ _ _ _ _ h hl=>by obtain⟨_,_,_,rfl⟩:=L2.wW hl;rfl) λ_ _ _ _ _ _ _ a =>
  (ag (bM (Hw a (qv 2) (aR (w_fld gJ (eR O) (qv 0)) (qv 1) (λ_ _=>rfl)) (by with_unfolding_all rfl) Y) (ar (BI (g8 gJ b.at a (by decide) (bK 0) (ab (qv 1) (ab (qv 2) af))))) bx)
  (ag (qX (g8 gJ g.at a (by decide) (bK 0) (ab (w_add (aR (w_fld gJ (fJ O) (qv 0)) (qv 1) (λ_ _=>rfl)) au) (ab au (ab u7 af)))) cz.nd Y Q4 Y Q4)
  (ag (ax (qv 1) cz.nd Y Q4)
  (ag (ij ZH (LL.Nl (kZ (jL (qv 4)) (kJ (uv a (qv 2) (aR (w_fld gJ (eR O) (qv 0)) (qv 4) (λ_ _=>rfl)) (by with_unfolding_all rfl)))))
  (ag (lN gJ a (Dl a (fO 3 (eR O) (bK 0)) (qv 4) (λ_ _=>rfl) Y) (qv 2) (qv 3))
  (ar (ax (aR (w_fld gJ (fL O) (qv 0)) (qv 4) (λ_ _=>rfl)) cz.nd Y Q4))))
  (ag (bM (jL (qv 4)) (ar (vV gJ a (fO 2 (fL O) (bK 0)) (qv 3) (g8 gJ b.at a (by decide) (bK 0) (ab (qv 4) (ab (qv 2) af))) (λ_=>rfl) Y Y Y)) bx)
  (ar (cV 3 Y (Or.inl Y) Y Y)))))))
abbrev d5:Stmt:=inClass (top 27) 2
def dR:bt ["self", "head", "word", "sign"] Qi (ai d5):=by constructor<;>first | rfl | decide +kernel
def bc(F:IH K "head_grown" "Nodes.head_grown" d5 f d)(b:Meth K C "head_grown" f)(B:JD mg)(O:Jp K mg C D)(e:MtAt P w K mg base 3 (gX K C D) 0 "head_behind" Qh [R,R] bO) :
  MtAt P w K mg base 4 (gX K C D) 0 "head_grown" Qi [R,R] aJ:=mD F b O.xl (gC (by decide +kernel) (by decide +kernel)) dR Y Y (λ_ _ _ _ _ _ g hl=>by obtain⟨_,_,_,rfl⟩:=L2.wW hl;rfl) λ_ _ _ _ _ _ _ a =>
  (ag (cG ZH Y (bQ (qv 2)) (aF 3 dR.nd Y Q4 Q4)
  (ar (qX (g8 gJ e.at a (by decide) (bK 0) (ab (qv 1) (ab (qv 3) af))) dR.nd Y Q4 Y Q4)))
  (ar (cV 1 Y (Or.inl Y) Y Y)))
abbrev cH:Stmt:=inClass (top 27) 6
def aO:bt ["self", "numbers", "met", "done", "ways", "sign"] Qn (ai cH):=by constructor<;>first | rfl | decide +kernel
def br{m:Me}(F:IH K "numbers_by_node" "Nodes.numbers_by_node" cH f d)(b:Meth K C "numbers_by_node" f)(B:JD mg)(O:Jp K mg C D) :
  MpAt P w K mg base 1 ((gX K C D).at m) 0 "numbers_by_node" Qn aL:=nZ F b O.xl (gC (by decide +kernel) (by decide +kernel)) aO Y Y (λ_ _ _ _ _ _ e hl=>by obtain⟨_,rfl⟩:=L2.mh hl;rfl) λ_ _ _ _ _ _ a =>
  (ag (eV Ed aO.nd Y Q4)
  (ag (eV (cE (ab au af)) aO.nd Y Q4)
  (ag (ax au aO.nd Y Q4)
  (ag (ij ZH (fE q8 vk jE (qv 3) (cf B.xt (ab (qv 2) af)) (iM _))
  (ag (ax (aR (w_fld gJ (eR O) (qv 0)) (aR (qv 2) (qv 3) (λ_ _=>rfl)) (λ_ _=>rfl)) aO.nd Y Q4)
  (ag (cG ZH Y (bQ (vf B.Kp (ab (qv 4) af))) (aF 5 aO.nd Y Q4 Q4)
  (ar (bM (uv a (uI a (qv 4) (qv 5) (λ_ _=>rfl)) (qv 1) (by with_unfolding_all rfl)) (ag (yJ 1 a (uI a (qv 4) (qv 5) (λ_ _=>rfl)) (cf B.xt (ab (qv 2) af)) Y Q4 Y Y (λ_=>rfl) Y Y Y)
  (ar (ja 2 (ab (uI a (qv 4) (qv 5) (λ_ _=>rfl)) af) Y Y Q4 Y Y))) bx)))
  (ar (ax (w_add (qv 3) au) aO.nd Y Q4)))))
  (nG 2 (ar (cV 1 Y (Or.inl Y) Y Y)))))))
abbrev gw:Stmt:=inClass (top 27) 7
def d0:bt ["self", "node", "numbers", "link", "ways", "steps"] Qk (ai gw):=by constructor<;>first | rfl | decide +kernel
def dv{m:Me}(F:IH K "row_of" "Nodes.row_of" gw f d)(b:Meth K C "row_of" f)(B:JD mg)(O:Jp K mg C D) :
  MpAt P w K mg base 1 ((gX K C D).at m) 0 "row_of" Qk bY:=nZ F b O.xl (gC (by decide +kernel) (by decide +kernel)) d0 Y Y (λ_ _ _ _ _ _ e hl=>by obtain⟨_,_,_,rfl⟩:=L2.wW hl;rfl) λ_ _ _ _ _ _ a =>
  (ag (ax (aR (w_fld gJ (fL O) (qv 0)) (qv 1) (λ_ _=>rfl)) d0.nd Y Q4)
  (ag (ax (aR (w_fld gJ (eR O) (qv 0)) (qv 1) (λ_ _=>rfl)) d0.nd Y (Or.inr Y))
  (ag (ax (Ce B.N4 (ab (fZ 1 Qo Y (bQ (vf B.Kp (ab (bF 4 Y (Or.inr Q4) Y Y) af))) (cF) (λ_ _ _ _ _=>(aF 0 (show List.Nodup Qo from by decide +kernel) Y Q4 (Or.inr Y))) (λ_ _ _ _ _=>(l5 (ab (qv 0) (ab (Dj a (bF 3 Y (Or.inr Q4) Y Y) (uI a (bF 5 Y (Or.inr Q4) Y Y) (qv 0) (λ_ _=>rfl)) (λ_ _=>rfl) Y) af)))) Y Y (by decide)) af)) d0.nd Y Q4)
  (ag (bM (Ao (qv 3)) (ar (aT (l5 (ab au (ab au (ab rq (ab (qv 5) af))))))) bx)
  (ar (aT (l5 (ab (w_add (aR (w_fld gJ (fJ O) (qv 0)) (qv 3) (λ_ _=>rfl)) au) (ab (aR (w_fld gJ (fJ O) (qv 0)) (qv 1) (λ_ _=>rfl)) (ab (Dj a (bF 2 Y (Or.inr Q4) Y Y) (qv 3) (λ_ _=>rfl) Y) (ab (qv 5) af)))))))))))
abbrev hJ:Stmt:=inClass (top 27) 5
def jH:bt ["self", "numbers"] Qn (ai hJ):=by constructor<;>first | rfl | decide +kernel
def bR{m:Me}(F:IH K "table" "Nodes.table" hJ f d)(b:Meth K C "table" f)(B:JD mg)(O:Jp K mg C D)(g:∀m,MpAt P w K mg base 1 ((gX K C D).at m) 0 "numbers_by_node" Qn aL)(e:∀m,MpAt P w K mg base 1 ((gX K C D).at m) 0 "row_of" Qk bY) :
  MpAt P w K mg base 2 ((gX K C D).at m) 0 "table" Qn bV:=nZ F b O.xl (gC (by decide +kernel) (by decide +kernel)) jH Y Y (λ_ _ _ _ _ _ h hl=>by obtain⟨_,rfl⟩:=L2.mh hl;rfl) λ_ _ _ _ _ _ a =>
  (ag (eV (ip (g _) a (by decide) (bF 0 Y (Or.inr Q4) Y Y) Y) jH.nd Y (Or.inr Y))
  (ar (Eg 1 ["node", "self", "numbers"] Y Y (Or.inr Q4) Y Y (cF) (λ_ _ _ _ _=>(aF 0 (show List.Nodup (["node", "self", "numbers"]:List Str) from by decide +kernel) Y Q4 (Or.inr Y))) (λ_ _ _ _ _=>(Co (e _) a (by decide) (bF 1 Y (Or.inr Q4) Y Y) (ab (qv 0) (ab (bF 2 Y (Or.inr Q4) Y Y) af)) Y Y Y)) Y Y (by decide) (λ_=>rfl))))
abbrev fP:Stmt:=inClass (top 30) 1
def mr:bt Qn Qn (ai fP):=by constructor<;>first | rfl | decide +kernel
def c9(F:IH K "begin" "Machine.begin" fP f b)(a:Meth K D "begin" f)(B:JD mg)(O:Jp K mg C D) :
  MtAt P w K mg base 1 (gX K C D) 1 "begin" Qn [] bC:=mD F a O.xh (gC (by decide +kernel) (by decide +kernel)) mr Y Y (λ_ _ _ _ _ _ d hl=>by obtain⟨_,rfl⟩:=L2.mh hl;rfl) λ_ _ _ _ _ _ _ e =>
  (ag (bM (fE (zh.or lY) yM sS (cf B.xt (ab (w_fld gJ (eO O) (qv 0)) af)) (vW B.Lc Y Y) (iM _)) (ar qS) bx)
  (ag (rh gJ (fO 4 (eO O) (bK 0)) (ab (de (by decide +kernel) (by decide)) af))
  (ag (rh gJ (fO 5 (lA O) (bK 0)) (ab au af))
  (ar (aT (gg ma mn (cf B.xt (ab (w_fld gJ (eO O) (qv 0)) af)) au))))))
abbrev kj:Stmt:=top 8
def sj:bt ["thing"] ["thing"] (ai kj):=by constructor<;>first | rfl | decide +kernel
def dE{m:Me}(F:IH K "is_whole" "is_whole" kj f b)(a:mg "is_whole" = Z (.ref f))(B:JD mg)(O:Jp K mg C D) :
  FnAt P w K mg base 1 "is_whole" ["thing"] ((gX K C D).at m) gh:=dC F a sj Y Y (λ_ _ _ _ _ _ d hl=>by obtain⟨_,rfl⟩:=L2.mh hl;rfl) λ_ _ _ _ _ _ e =>
  (ar (aT (Ez (w_is .int B.J0 B.RB (qv 0)) (FB (DC (w_is .bool B.J0 B.Ph (qv 0)))))))
abbrev ft:Stmt:=top 9
def lj:bt Qd Qd (ai ft):=by constructor<;>first | rfl | decide +kernel
def cJ{m:Me}(F:IH K "refuse_no_text" "refuse_no_text" ft f d)(b:mg "refuse_no_text" = Z (.ref f))(B:JD mg)(O:Jp K mg C D)(e:∀m,FnAt P w K mg base 1 "is_whole" ["thing"] ((gX K C D).at m) gh) :
  FnAt P w K mg base 2 "refuse_no_text" Qd ((gX K C D).at m) bu:=dC F b lj Y Y (λ_ _ _ _ _ _ g hl=>by obtain⟨_,_,rfl⟩:=L2.dc hl;rfl) λ_ _ _ _ _ _ a =>
  (ar (bM (LL.Nl (oA (nI (qH (aP (e _) a (ab (qv 1) af) (by decide) Y Y))) (ox (nI (jl au (qv 1) (cf B.xt (ab (qv 0) af)) (by with_unfolding_all rfl)))))) (ar qS) bx))
abbrev jZ:Stmt:=top 10
def rW:bt ["book"] ["book"] (ai jZ):=by constructor<;>first | rfl | decide +kernel
def gO{m:Me}(F:IH K "signs_in" "signs_in" jZ f b)(a:mg "signs_in" = Z (.ref f))(B:JD mg)(O:Jp K mg C D) :
  FnAt P w K mg base 1 "signs_in" ["book"] ((gX K C D).at m) gF:=dC F a rW Y Y (λ_ _ _ _ _ _ d hl=>by obtain⟨_,rfl⟩:=L2.mh hl;rfl) λ_ _ _ _ _ _ e =>
  (ar (aT (w_sum B.Ow (ab (fZ 1 ["text", "book"] Y (bQ (qv 0)) (cF) (λ_ _ _ _ _=>(aF 0 (show List.Nodup (["text", "book"]:List Str) from by decide +kernel) Y Q4 (Or.inr Y))) (λ_ _ _ _ _=>(cf B.xt (ab (qv 0) af))) Y Y (by decide)) af))))
abbrev gf:Stmt:=inClass (top 30) 2
def nz:bt Qm Qm (ai gf):=by constructor<;>first | rfl | decide +kernel
def du(F:IH K "grow" "Machine.grow" gf f e)(b:Meth K D "grow" f)(B:JD mg)(O:Jp K mg C D)(h:MtAt P w K mg base 4 (gX K C D) 0 "head_grown" Qi [R,R] aJ)(g:∀m,FnAt P w K mg base 2 "refuse_no_text" Qd ((gX K C D).at m) bu)(d:∀m,FnAt P w K mg base 1 "signs_in" ["book"] ((gX K C D).at m) gF) :
  MtAt P w K mg base 5 (gX K C D) 1 "grow" Qm [R,R] bz:=mD F b O.xh (gC (by decide +kernel) (by decide +kernel)) nz Y Y (λ_ _ _ _ _ _ i hl=>by obtain⟨_,_,_,rfl⟩:=L2.wW hl;rfl) λ_ _ _ _ _ _ _ a =>
  (ag (uW (aP (g _) a (ab (w_fld gJ (eO O) (qv 0)) (ab (qv 1) af)) (by decide) Y Y) Y)
  (ag (bM (fE (Hm.or wR) Hy zE (w_add (aP (d _) a (ab (w_fld gJ (eO O) (qv 0)) af) (by decide) Y Y) (cf B.xt (ab (qv 2) af))) (vW B.Le Y Y) (iM _)) (ar qS) bx)
  (ag (vV gJ a (fO 5 (lA O) (bK 0)) (qv 1) (g8 gJ h.at a (by decide) (fO 6 (pk O) (bK 0)) (ab (aR (w_fld gJ (lA O) (qv 0)) (qv 1) (λ_ _=>rfl)) (ab (qv 2) af))) (λ_=>rfl) Y Y Y)
  (ar (lN gJ a (fO 4 (eO O) (bK 0)) (qv 1) (w_add (aR (w_fld gJ (eO O) (qv 0)) (qv 1) (λ_ _=>rfl)) (qv 2)))))))
abbrev bZ:Stmt:=inClass (top 30) 0
def fT:bt ["self", "book", "text"] ["self", "book"] (ai bZ):=by constructor<;>first | rfl | decide +kernel
def bq(F:Ms K "__init__" "Machine.__init__" bZ f g)(e:Mk K D f)(B:JD mg)(O:Jp K mg C D)(i:MtAt P w K mg base 1 (gX K C D) 1 "begin" Qn [] bC)(h:MtAt P w K mg base 5 (gX K C D) 1 "grow" Qm [R,R] bz)(j:InAt P w K mg base 2 (gX K C D) 0 0 "Nodes" Qn bW) :
  InAt P w K mg base 6 (gX K C D) 1 1 "Machine" ["self", "book"] aN:=CO F e O.LQ fT Y Y (λ_ _ _ _ _ _ _ _ _ _ l X d b hl=>by obtain⟨_,_,rfl⟩:=L2.dc hl;exact PySem.W.binds_K X Y d b Y Y) λ_ _ _ _ _ _ _ a =>
  (ag (l6 0 4 gJ (eO O) (cE af))
  (ag (l6 0 5 gJ (lA O) (cE af))
  (ag (l6 0 6 gJ (pk O) (vt j.at a (by decide) Y Y))
  (ar (bM (jL (qv 1)) (ar (cG ZH Y (bQ (qv 1)) (aF 2 fT.nd Y Q4 Q4)
  (ar (oh (D4 h.at a (by decide) Y Q4 Y Y (yN gJ i.at a (by decide) (bK 0) Y) (ab (qv 2) af) Y Y Y) Y)))) bx)))))
abbrev gk:Stmt:=inClass (top 30) 3
def ny:bt Qn Qn (ai gk):=by constructor<;>first | rfl | decide +kernel
def i9{m:Me}(F:IH K "book" "Machine.book" gk f b)(a:Meth K D "book" f)(B:JD mg)(O:Jp K mg C D) :
  MpAt P w K mg base 1 ((gX K C D).at m) 1 "book" Qn oQ:=nZ F a O.xh (gC (by decide +kernel) (by decide +kernel)) ny Y Y (λ_ _ _ _ _ _ d hl=>by obtain⟨_,rfl⟩:=L2.mh hl;rfl) λ_ _ _ _ _ _ e =>
  (ar (aT (wC B.Nd (ab (w_fld gJ (eO O) (qv 0)) af))))
abbrev fQ:Stmt:=inClass (top 30) 4
def mI:bt Qn Qn (ai fQ):=by constructor<;>first | rfl | decide +kernel
def bL{m:Me}(F:IH K "table" "Machine.table" fQ f d)(b:Meth K D "table" f)(B:JD mg)(O:Jp K mg C D)(e:∀m,MpAt P w K mg base 2 ((gX K C D).at m) 0 "table" Qn bV) :
  MpAt P w K mg base 3 ((gX K C D).at m) 1 "table" Qn bD:=nZ F b O.xh (gC (by decide +kernel) (by decide +kernel)) mI Y Y (λ_ _ _ _ _ _ g hl=>by obtain⟨_,rfl⟩:=L2.mh hl;rfl) λ_ _ _ _ _ _ a =>
  (ar (aT (ip (e _) a (by decide) (w_fld gJ (pk O) (qv 0)) Y)))
abbrev oE:Stmt:=top 11
def iw:bt ["book", "word", "found", "number", "text", "ends"] ["book", "word"] (ai oE):=by constructor<;>first | rfl | decide +kernel
def jC{m:Me}(F:IH K "places" "places" oE f b)(a:mg "places" = Z (.ref f))(B:JD mg)(O:Jp K mg C D) :
  FnAt P w K mg base 1 "places" ["book", "word"] ((gX K C D).at m) lD:=dC F a iw Y Y (λ_ _ _ _ _ _ d hl=>by obtain⟨_,_,rfl⟩:=L2.dc hl;rfl) λ_ _ _ _ _ _ e =>
  (ag (eV (cE af) iw.nd Y Q4)
  (ag (cG ZH Y (kY (qv 0) Y B.Js) (nJ Y (ed (aF 3 iw.nd Y (Or.inr Y) Q4) (ed (aF 4 iw.nd Y (Or.inr Y) Q4) kE)))
  (ag (jY 1 Qf (λ_ _ _ h=>nX h) Y (fu (w_add (cf B.xt (ab (bF 4 Y (Or.inr Q4) Y Y) af)) au) Y B.Jr) (cF) (λ_ _ _ _ _=>(aF 0 (show List.Nodup Qf from by decide +kernel) Y Q4 (Or.inr Y))) (λ_ _ _ _ _=>(qH (Ey (kG (bF 5 Y (Or.inr Q4) Y Y) kX (fG (qv 0))) (ab (bF 2 Y (Or.inr Q4) Y Y) af)))) (λ_ _ _ _ _=>(qv 0)) iw.nd Y Q4 Y Y (by decide))
  (ar (tU 2 (ab (fZ 1 Qf Y (bQ (qv 5)) (cF) (λ_ _ _ _ _=>(aF 0 (show List.Nodup Qf from by decide +kernel) Y Q4 (Or.inr Y))) (λ_ _ _ _ _=>(l5 (ab (bF 4 Y (Or.inr Q4) Y Y) (ab (qv 0) af)))) Y Y (by decide)) af) Y Y Q4 Y Y))))
  (ar (cV 2 Y (Or.inl Y) Y Y))))
abbrev ke:Stmt:=top 12
def jg:bt ["book", "long", "found", "text"] ["book", "long"] (ai ke):=by constructor<;>first | rfl | decide +kernel
def gy{m:Me}(F:IH K "parts_of" "parts_of" ke f d)(b:mg "parts_of" = Z (.ref f))(B:JD mg)(O:Jp K mg C D) :
  FnAt P w K mg base 1 "parts_of" ["book", "long"] ((gX K C D).at m) iP:=dC F b jg Y Y (λ_ _ _ _ _ _ e hl=>by obtain⟨_,_,rfl⟩:=L2.dc hl;rfl) λ_ _ _ _ _ _ a =>
  (ag (bM (jB a (bF 1 Y (Or.inr Q4) Y Y) au) (ar (aT (cE (ab (de (by decide +kernel) (by decide)) af)))) bx)
  (ag (eV (cE af) jg.nd Y Q4)
  (ag (cG ZH Y (bQ (qv 0)) (aF 3 jg.nd Y (Or.inr Y) Q4)
  (ar (tU 2 (ab (fZ 1 Qr Y (fu (w_add (gg ma mn (cf B.xt (ab (bF 3 Y (Or.inr Q4) Y Y) af)) (bF 1 Y (Or.inr Q4) Y Y)) au) Y B.Jr) (cF) (λ_ _ _ _ _=>(aF 0 (show List.Nodup Qr from by decide +kernel) Y Q4 (Or.inr Y))) (λ_ _ _ _ _=>(kG (bF 4 Y (Or.inr Q4) Y Y) (fG (qv 0)) (fG (w_add (qv 0) (bF 2 Y (Or.inr Q4) Y Y))))) Y Y (by decide)) af) Y Y Q4 Y Y)))
  (nG 2 (ar (aT (sL B.Kp B.RA (ab (qv 2) af))))))))
abbrev uQ:Stmt:=top 14
def nM:bt ["table", "word", "stands", "sign", "ways"] Qv (ai uQ):=by constructor<;>first | rfl | decide +kernel
def jq{m:Me}(F:IH K "walk" "walk" uQ f d)(b:mg "walk" = Z (.ref f))(B:JD mg)(O:Jp K mg C D) :
  FnAt P w K mg base 1 "walk" Qv ((gX K C D).at m) ku:=dC F b nM Y Y (λ_ _ _ _ _ _ e hl=>by obtain⟨_,_,rfl⟩:=L2.dc hl;rfl) λ_ _ _ _ _ _ a =>
  (ag (eV (cE (ab au af)) nM.nd Y Q4)
  (ag (cG ZH Y (bQ (qv 1)) (aF 3 nM.nd Y Q4 Q4)
  (ag (ax (Bg B.Nf (ab (aR (aR (qv 0) (aR (qv 2) v9 (λ_ _=>rfl)) (λ_ _=>rfl)) au (λ_ _=>rfl)) af)) nM.nd Y Q4)
  (ag (bM (uv a (qv 3) (qv 4) (by with_unfolding_all rfl)) (ar (cV 2 Y (Or.inl Y) Y Y)) bx)
  (ar (ja 2 (ab (uI a (qv 4) (qv 3) (λ_ _=>rfl)) af) Y Y Q4 Y Y)))))
  (ar (cV 2 Y (Or.inl Y) Y Y))))
abbrev j3:Stmt:=top 15
def mS:bt ["table", "word", "stands"] Qv (ai j3):=by constructor<;>first | rfl | decide +kernel
def gD{m:Me}(F:IH K "stand_of" "stand_of" j3 f e)(d:mg "stand_of" = Z (.ref f))(B:JD mg)(O:Jp K mg C D)(b:∀m,FnAt P w K mg base 1 "walk" Qv ((gX K C D).at m) ku) :
  FnAt P w K mg base 2 "stand_of" Qv ((gX K C D).at m) iF:=dC F d mS Y Y (λ_ _ _ _ _ _ g hl=>by obtain⟨_,_,rfl⟩:=L2.dc hl;rfl) λ_ _ _ _ _ _ a =>
  (ag (ax (aP (b _) a (ab (qv 0) (ab (qv 1) af)) (by decide) Y Y) mS.nd Y Q4)
  (ar (aT (GG (jB a (cf B.xt (ab (qv 2) af)) (w_add (cf B.xt (ab (qv 1) af)) au)) (aR (qv 2) v9 (λ_ _=>rfl)) rq))))
abbrev eI:Stmt:=top 17
def kB:bt Qt Qt (ai eI):=by constructor<;>first | rfl | decide +kernel
def bj{m:Me}(F:IH K "refuse_no_stand" "refuse_no_stand" eI f d)(b:mg "refuse_no_stand" = Z (.ref f))(B:JD mg)(O:Jp K mg C D)(e:∀m,FnAt P w K mg base 1 "is_whole" ["thing"] ((gX K C D).at m) gh) :
  FnAt P w K mg base 2 "refuse_no_stand" Qt ((gX K C D).at m) aY:=dC F b kB Y Y (λ_ _ _ _ _ _ g hl=>by obtain⟨_,_,rfl⟩:=L2.dc hl;rfl) λ_ _ _ _ _ _ a =>
  (ar (bM (LL.Nl (oA (nI (qH (aP (e _) a (ab (qv 1) af) (by decide) Y Y))) (ox (nI (jl au (qv 1) (cf B.xt (ab (qv 0) af)) (by with_unfolding_all rfl)))))) (ar qS) bx))
abbrev gP:Stmt:=top 18
def cW:bt ["table", "before", "number", "row", "way"] ["table"] (ai gP):=by constructor<;>first | rfl | decide +kernel
def dr{m:Me}(F:IH K "steps_before" "steps_before" gP f d)(b:mg "steps_before" = Z (.ref f))(B:JD mg)(O:Jp K mg C D) :
  FnAt P w K mg base 1 "steps_before" ["table"] ((gX K C D).at m) eB:=dC F b cW Y Y (λ_ _ _ _ _ _ e hl=>by obtain⟨_,rfl⟩:=L2.mh hl;rfl) λ_ _ _ _ _ _ a =>
  (ag (eV u7 cW.nd Y Q4)
  (ag (cG ZH Y (kY (qv 0) Y B.Js) (nJ Y (ed (aF 2 cW.nd Y Q4 Q4) (ed (aF 3 cW.nd Y Q4 Q4) kE)))
  (ar (cG ZH Y (bQ (aR (qv 3) au (λ_ _=>rfl))) (aF 4 cW.nd Y Q4 Q4)
  (ar (bM (jB a (aR (aR (qv 0) (aR (qv 4) au (λ_ _=>rfl)) (λ_ _=>rfl)) au (λ_ _=>rfl)) (w_add (aR (qv 3) au (λ_ _=>rfl)) au)) (ar (yJ 1 a (aR (qv 4) au (λ_ _=>rfl)) (l5 (ab (qv 2) (ab (aR (qv 4) au (λ_ _=>rfl)) af))) Y Q4 Y Y (λ_=>rfl) Y Y Y)) bx)))))
  (ar (cV 1 Y (Or.inl Y) Y Y))))
abbrev mw:Stmt:=top 16
def fj:bt ["table", "stand", "before", "word", "step"] Qt (ai mw):=by constructor<;>first | rfl | decide +kernel
def d9{m:Me}(F:IH K "longest" "longest" mw f d)(b:mg "longest" = Z (.ref f))(B:JD mg)(O:Jp K mg C D)(g:∀m,FnAt P w K mg base 2 "refuse_no_stand" Qt ((gX K C D).at m) aY)(e:∀m,FnAt P w K mg base 1 "steps_before" ["table"] ((gX K C D).at m) eB) :
  FnAt P w K mg base 3 "longest" Qt ((gX K C D).at m) cx:=dC F b fj Y Y (λ_ _ _ _ _ _ h hl=>by obtain⟨_,_,rfl⟩:=L2.dc hl;rfl) λ_ _ _ _ _ _ a =>
  (ag (uW (aP (g _) a (ab (qv 0) (ab (qv 1) af)) (by decide) Y Y) Y)
  (ag (ax (aP (e _) a (ab (qv 0) af) (by decide) Y Y) fj.nd Y Q4)
  (ag (ax (de (by decide +kernel) (by decide)) fj.nd Y Q4)
  (ag (ij ZH (jU a (qv 1) au)
  (ag (ax (uI a (qv 2) (qv 1) (λ_ _=>rfl)) fj.nd Y Q4)
  (ag (ax (w_add (aR (qv 4) au (λ_ _=>rfl)) (qv 3)) fj.nd Y Q4)
  (ar (ax (aR (qv 4) au (λ_ _=>rfl)) fj.nd Y Q4)))))
  (ar (cV 3 Y (Or.inl Y) Y Y))))))
abbrev n5:Stmt:=top 20
def yc:bt ["table"] ["table"] (ai n5):=by constructor<;>first | rfl | decide +kernel
def fH{m:Me}(F:IH K "unlike" "unlike" n5 f b)(a:mg "unlike" = Z (.ref f))(B:JD mg)(O:Jp K mg C D) :
  FnAt P w K mg base 1 "unlike" ["table"] ((gX K C D).at m) gz:=dC F a yc Y Y (λ_ _ _ _ _ _ d hl=>by obtain⟨_,rfl⟩:=L2.mh hl;rfl) λ_ _ _ _ _ _ e =>
  (ar (aT (w_sum B.Ow (ab (fZ 1 ["row", "table"] Y (bQ (kG (qv 0) (fG au) kX)) (cF) (λ_ _ _ _ _=>(aF 0 (show List.Nodup (["row", "table"]:List Str) from by decide +kernel) Y Q4 (Or.inr Y))) (λ_ _ _ _ _=>(w_add (gg ma mn (aR (qv 0) au (λ_ _=>rfl)) (aR (qv 0) au (λ_ _=>rfl))) au)) Y Y (by decide)) af))))
abbrev l7:Stmt:=top 21
def uy:bt Qs Qs (ai l7):=by constructor<;>first | rfl | decide +kernel
def fe{m:Me}(F:IH K "counted" "counted" l7 f b)(a:mg "counted" = Z (.ref f))(B:JD mg)(O:Jp K mg C D) :
  FnAt P w K mg base 1 "counted" Qs ((gX K C D).at m) gb:=dC F a uy Y Y (λ_ _ _ _ _ _ d hl=>by obtain⟨_,_,rfl⟩:=L2.dc hl;rfl) λ_ _ _ _ _ _ e =>
  (ar (aT (cf B.xt (ab (xW 1 ["row", "table", "long"] Y (bQ (qv 0)) (cF) (λ_ _ _ _ _=>(aF 0 (show List.Nodup (["row", "table", "long"]:List Str) from by decide +kernel) Y Q4 (Or.inr Y))) (λ_ _ _ _ _=>(oM (aR (qv 0) au (λ_ _=>rfl)) (bF 2 Y (Or.inr Q4) Y Y) (aR (qv 0) au (λ_ _=>rfl)) (by with_unfolding_all rfl))) (λ_ _ _ _ _=>(qv 0)) Y Y (by decide)) af))))
abbrev qD:Stmt:=top 23
def o8:bt ["table", "stand", "met"] Qt (ai qD):=by constructor<;>first | rfl | decide +kernel
def kT{m:Me}(F:IH K "chain" "chain" qD f d)(b:mg "chain" = Z (.ref f))(B:JD mg)(O:Jp K mg C D)(e:∀m,FnAt P w K mg base 2 "refuse_no_stand" Qt ((gX K C D).at m) aY) :
  FnAt P w K mg base 3 "chain" Qt ((gX K C D).at m) nN:=dC F b o8 Y Y (λ_ _ _ _ _ _ g hl=>by obtain⟨_,_,rfl⟩:=L2.dc hl;rfl) λ_ _ _ _ _ _ a =>
  (ag (uW (aP (e _) a (ab (qv 0) (ab (qv 1) af)) (by decide) Y Y) Y)
  (ag (eV (cE af) o8.nd Y Q4)
  (ag (ij ZH (jL (qv 1))
  (ag (ja 2 (ab (qv 1) af) Y Y Q4 Y Y)
  (ar (ax (aR (aR (qv 0) (qv 1) (λ_ _=>rfl)) au (λ_ _=>rfl)) o8.nd Y Q4))))
  (ar (cV 2 Y (Or.inl Y) Y Y)))))
abbrev je:Stmt:=top 24
def cU:bt ["book", "table", "found", "number", "text", "end", "head", "stand"] Qe (ai je):=by constructor<;>first | rfl | decide +kernel
def cM{m:Me}(F:IH K "places_by" "places_by" je f g)(e:mg "places_by" = Z (.ref f))(B:JD mg)(O:Jp K mg C D)(b:∀m,FnAt P w K mg base 3 "chain" Qt ((gX K C D).at m) nN)(d:∀m,FnAt P w K mg base 1 "walk" Qv ((gX K C D).at m) ku) :
  FnAt P w K mg base 4 "places_by" Qe ((gX K C D).at m) cL:=dC F e cU Y Y (λ_ _ _ _ _ _ i hl=>by obtain⟨_,_,rfl⟩:=L2.dc hl;rfl) λ_ _ _ _ _ _ a =>
  (ag (tM 1 Qg (λ_ _ _ h=>DI h) Y (bQ (qv 1)) (cF) (λ_ _ _ _ _=>(aF 0 (show List.Nodup Qg from by decide +kernel) Y Q4 (Or.inr Y))) (λ_ _ _ _ _=>(cE af)) cU.nd Y Q4 Y Y (by decide))
  (ag (cG ZH Y (kY (qv 0) Y B.Js) (nJ Y (ed (aF 3 cU.nd Y Q4 Q4) (ed (aF 4 cU.nd Y Q4 Q4) kE)))
  (ar (cG ZH Y (kY (aP (d _) a (ab (qv 1) (ab (qv 4) af)) (by decide) Y Y) Y B.Js) (nJ Y (ed (aF 5 cU.nd Y Q4 Q4) (ed (aF 6 cU.nd Y Q4 Q4) kE)))
  (ar (cG ZH Y (bQ (aP (b _) a (ab (qv 1) (ab (qv 6) af)) (by decide) Y Y)) (aF 7 cU.nd Y Q4 Q4)
  (ar (DD 2 Y (Or.inl Y) Y Y (qv 7) (λ_ _=>rfl) (ab (l5 (ab (qv 3) (ab (qv 5) af))) af) Y Y Y Y Y Y Y)))))))
  (ar (cV 2 Y (Or.inl Y) Y Y))))
abbrev pE:Stmt:=top 25
def xB:bt Qe Qe (ai pE):=by constructor<;>first | rfl | decide +kernel
def gA{m:Me}(F:IH K "counts" "counts" pE f d)(b:mg "counts" = Z (.ref f))(B:JD mg)(O:Jp K mg C D)(e:∀m,FnAt P w K mg base 4 "places_by" Qe ((gX K C D).at m) cL) :
  FnAt P w K mg base 5 "counts" Qe ((gX K C D).at m) iA:=dC F b xB Y Y (λ_ _ _ _ _ _ g hl=>by obtain⟨_,_,rfl⟩:=L2.dc hl;rfl) λ_ _ _ _ _ _ a =>
  (ar (aT (fZ 1 ["places", "book", "table"] Y (bQ (aP (e _) a (ab (qv 0) (ab (qv 1) af)) (by decide) Y Y)) (cF) (λ_ _ _ _ _=>(aF 0 (show List.Nodup (["places", "book", "table"]:List Str) from by decide +kernel) Y Q4 (Or.inr Y))) (λ_ _ _ _ _=>(cf B.xt (ab (qv 0) af))) Y Y (by decide))))
abbrev kf:Stmt:=top 28
def jr:bt ["book", "nodes", "text"] ["book"] (ai kf):=by constructor<;>first | rfl | decide +kernel
def gx{m:Me}(F:IH K "table_of" "table_of" kf f d)(b:mg "table_of" = Z (.ref f))(B:JD mg)(O:Jp K mg C D)(e:InAt P w K mg base 2 (gX K C D) 0 0 "Nodes" Qn bW)(g:MtAt P w K mg base 4 (gX K C D) 0 "head_grown" Qi [R,R] aJ)(h:∀m,MpAt P w K mg base 2 ((gX K C D).at m) 0 "table" Qn bV) :
  FnAt P w K mg base 5 "table_of" ["book"] ((gX K C D).at m) cP:=dC F b jr Y Y (λ_ _ _ _ _ _ i hl=>by obtain⟨_,rfl⟩:=L2.mh hl;rfl) λ_ _ _ _ _ _ a =>
  (ag (eV (vt e.at a (by decide) Y Y) jr.nd Y Q4)
  (ag (cG ZH Y (bQ (qv 0)) (aF 2 jr.nd Y Q4 Q4)
  (ar (oh (g8 gJ g.at a (by decide) (bK 1) (ab au (ab (qv 2) af))) Y)))
  (nG 1 (ar (aT (ip (h _) a (by decide) (qv 1) Y))))))
abbrev d4:Stmt:=top 33
def dW:bt Qu ["table", "stands"] (ai d4):=by constructor<;>first | rfl | decide +kernel
def b7{m:Me}(F:IH K "stand_of_longest" "stand_of_longest" d4 f b)(g:mg "stand_of_longest" = Z (.ref f))(B:JD mg)(O:Jp K mg C D)(i:∀m,FnAt P w K mg base 3 "longest" Qt ((gX K C D).at m) cx)(l:PySem.W.codeHdIn K e d=true)(LT:Tb base d "stand_of_longest.<locals>.<lambda>")(n:Bm mg base)(j:b.code=.ref e) :
  FnAt P w K mg base 6 "stand_of_longest" ["table", "stands"] ((gX K C D).at m) cQ:=FK F g j dW Y Y (λ_ _ _ _ _ _ o hl=>by obtain⟨_,_,rfl⟩:=L2.dc hl;rfl) λA outer s H E a=>(
  (ag (ax (Ac B.Nc (ab (fZ 1 Qq Y (bQ (qv 1)) (cF) (λ_ _ _ _ _=>(aF 0 (show List.Nodup Qq from by decide +kernel) Y Q4 (Or.inr Y))) (λ_ _ _ _ _=>(aR (aR (bF 1 Y (Or.inr Q4) Y Y) (qv 0) (λ_ _=>rfl)) au (λ_ _=>rfl))) Y Y (by decide)) af)) dW.nd Y (Or.inr Y))
  (ag (jY 1 Qq (λ_ _ _ h=>nX h) Y (bQ (qv 1)) (cF) (λ_ _ _ _ _=>(aF 0 (show List.Nodup Qq from by decide +kernel) Y Q4 (Or.inr Y))) (λ_ _ _ _ _=>(jB a (aR (aR (bF 1 Y (Or.inr Q4) Y Y) (qv 0) (λ_ _=>rfl)) au (λ_ _=>rfl)) (bF 3 Y (Or.inr Q4) Y Y))) (λ_ _ _ _ _=>(qv 0)) dW.nd Y Q4 Y Y (by decide))
  (ar (aT (FM (k0:=3) (y := "number") (N:=Qu) a (by decide) B.Ox (qv 3) (λ_ _ _ _ _ _ a=>((aP (i _) a (ab (bF 1 Y (Or.inr (Or.inr Y)) Y Y) (ab (qv 0) af)) (by decide) Y Y))) l LT n Y Y Y Y Y Y Y Y Y Y Y (λ_ _ _ _ _=>rfl) Y Y))))))
abbrev qy:Stmt:=top 32
def jG:bt ["book", "times", "table", "found", "fitting", "stand"] ["book", "times"] (ai qy):=by constructor<;>first | rfl | decide +kernel
def jQ{m:Me}(F:IH K "often" "often" qy f e)(b:mg "often" = Z (.ref f))(B:JD mg)(O:Jp K mg C D)(g:∀m,FnAt P w K mg base 3 "longest" Qt ((gX K C D).at m) cx)(i:∀m,FnAt P w K mg base 4 "places_by" Qe ((gX K C D).at m) cL)(j:∀m,FnAt P w K mg base 6 "stand_of_longest" ["table", "stands"] ((gX K C D).at m) cQ)(d:∀m,FnAt P w K mg base 5 "table_of" ["book"] ((gX K C D).at m) cP) :
  FnAt P w K mg base 7 "often" ["book", "times"] ((gX K C D).at m) jM:=dC F b jG Y Y (λ_ _ _ _ _ _ l hl=>by obtain⟨_,_,rfl⟩:=L2.dc hl;rfl) λ_ _ _ _ _ _ a =>
  (ag (ax (aP (d _) a (ab (qv 0) af) (by decide) Y Y) jG.nd Y Q4)
  (ag (eV (aP (i _) a (ab (qv 0) (ab (qv 2) af)) (by decide) Y Y) jG.nd Y (Or.inr Y))
  (ag (jY 1 Qp (λ_ _ _ h=>nX h) Y (ou au (cf B.xt (ab (qv 2) af)) Y B.Jr) (cF) (λ_ _ _ _ _=>(aF 0 (show List.Nodup Qp from by decide +kernel) Y Q4 (Or.inr Y))) (λ_ _ _ _ _=>(fE (zh.or lY) yM sS (cf B.xt (ab (aR (bF 4 Y (Or.inr Q4) Y Y) (qv 0) (λ_ _=>rfl)) af)) (bF 2 Y (Or.inr Q4) Y Y) (iM _))) (λ_ _ _ _ _=>(qv 0)) jG.nd Y Q4 Y Y (by decide))
  (ag (bM (jB a (cf B.xt (ab (qv 4) af)) au) (ar (aT rq)) bx)
  (ag (ax (aP (j _) a (ab (qv 2) (ab (qv 4) af)) (by decide) Y Y) jG.nd Y Q4)
  (ar (Ff 3 Y (Or.inr Q4) Y Y (aP (g _) a (ab (qv 2) (ab (qv 5) af)) (by decide) Y Y) (qv 5) (λ_ _=>rfl) Y Y Y)))))))
abbrev hV:Stmt:=top 35
def pb:bt Q9 Q9 (ai hV):=by constructor<;>first | rfl | decide +kernel
def bg{m:Me}(F:IH K "_law_cell_at" "_law_cell_at" hV f b)(a:mg "_law_cell_at" = Z (.ref f))(B:JD mg)(O:Jp K mg C D) :
  FnAt P w K mg base 1 "_law_cell_at" Q9 ((gX K C D).at m) aM:=dC F a pb Y Y (λ_ _ _ _ _ _ d hl=>by obtain⟨_,_,rfl⟩:=L2.dc hl;rfl) λ_ _ _ _ _ _ e =>
  (ag (bM (fE q8 vk jE (qv 1) (cf B.xt (ab (qv 0) af)) (iM _)) (ar (aT (aR (qv 0) (qv 1) (λ_ _=>rfl)))) bx)
  (ar (aT au)))
abbrev i6:Stmt:=top 36
def iI:bt ["_law_cell", "_law_k", "_law_number"] Q7 (ai i6):=by constructor<;>first | rfl | decide +kernel
def fM{m:Me}(F:IH K "_law_mixed" "_law_mixed" i6 f b)(a:mg "_law_mixed" = Z (.ref f))(B:JD mg)(O:Jp K mg C D) :
  FnAt P w K mg base 1 "_law_mixed" Q7 ((gX K C D).at m) fK:=dC F a iI Y Y (λ_ _ _ _ _ _ d hl=>by obtain⟨_,_,rfl⟩:=L2.dc hl;rfl) λ_ _ _ _ _ _ e =>
  (ag (ax (w_mod (w_add (w_add (w_mod (qv 0) au) (gg mK mJ au (qv 1))) au) au) iI.nd Y Q4)
  (ag (ax (w_add (w_mod (gg mK mJ (qv 2) (qv 2)) au) (gg mK mJ au (qv 1))) iI.nd Y Q4)
  (ar (aT (w_mod (gg mK mJ (qv 2) (qv 2)) au)))))
abbrev kg:Stmt:=top 37
def dw:bt ["_law_script", "_law_letters", "_law_most", "_law_j", "_law_cell", "_law_size", "_law_signs", "_law_k"] Qa (ai kg):=by constructor<;>first | rfl | decide +kernel
def gB{m:Me}(F:IH K "_law_text" "_law_text" kg f e)(d:mg "_law_text" = Z (.ref f))(B:JD mg)(O:Jp K mg C D)(b:∀m,FnAt P w K mg base 1 "_law_cell_at" Q9 ((gX K C D).at m) aM)(g:∀m,FnAt P w K mg base 1 "_law_mixed" Q7 ((gX K C D).at m) fK) :
  FnAt P w K mg base 2 "_law_text" Qa ((gX K C D).at m) d6:=dC F d dw Y Y (λ_ _ _ _ _ _ h hl=>by obtain⟨_,_,_,_,rfl⟩:=L2.ED hl;rfl) λ_ _ _ _ _ _ a =>
  (ag (ax (aP (b _) a (ab (qv 0) (ab (w_add au (qv 3)) af)) (by decide) Y Y) dw.nd Y Q4)
  (ag (ax (w_mod (qv 4) (w_add (qv 2) au)) dw.nd Y Q4)
  (ag (ax (gM (qv 4) (w_add (qv 2) au)) dw.nd Y Q4)
  (ag (eV (cE af) dw.nd Y Q4)
  (ag (cG ZH Y (fu (qv 5) Y B.Jr) (aF 7 dw.nd Y Q4 Q4)
  (ar (bM (jB a (w_mod (aP (b _) a (ab (qv 0) (ab au af)) (by decide) Y Y) au) au) (ag (ja 6 (ab (aR (qv 1) (w_mod (qv 4) (cf B.xt (ab (qv 1) af))) (λ_ _=>rfl)) af) Y Y Q4 Y Y)
  (ar (ax (gM (qv 4) (cf B.xt (ab (qv 1) af))) dw.nd Y Q4))) (ar (ja 6 (ab (aR (qv 1) (w_mod (gM (aP (g _) a (ab (qv 4) (ab (w_add (gg mK mJ au (qv 3)) (qv 7)) af)) (by decide) Y Y) au) (cf B.xt (ab (qv 1) af))) (λ_ _=>rfl)) af) Y Y Q4 Y Y)))))
  (nG 6 (ar (aT (vO (de (by decide +kernel) (by decide)) (ab (qv 6) af))))))))))
abbrev j7:Stmt:=top 38
def dA:bt ["_law_script", "_law_cell", "_law_letters", "_law_count_here", "_law_most"] Qb (ai j7):=by constructor<;>first | rfl | decide +kernel
def gp{m:Me}(F:IH K "_law_book" "_law_book" j7 f e)(b:mg "_law_book" = Z (.ref f))(B:JD mg)(O:Jp K mg C D)(g:∀m,FnAt P w K mg base 1 "_law_cell_at" Q9 ((gX K C D).at m) aM)(d:∀m,FnAt P w K mg base 2 "_law_text" Qa ((gX K C D).at m) d6) :
  FnAt P w K mg base 3 "_law_book" Qb ((gX K C D).at m) iL:=dC F b dA Y Y (λ_ _ _ _ _ _ h hl=>by obtain⟨_,rfl⟩:=L2.mh hl;rfl) λ_ _ _ _ _ _ a =>
  (ag (ax (aP (g _) a (ab (bF 0 Y (Or.inr Q4) Y Y) (ab au af)) (by decide) Y Y) dA.nd Y Q4)
  (ag (ax (aR (cE (ab (de (by decide +kernel) (by decide)) (ab (de (by decide +kernel) (by decide)) (ab (de (by decide +kernel) (by decide)) (ab (de (by decide +kernel) (by decide)) (ab (de (by decide +kernel) (by decide)) (ab (de (by decide +kernel) (by decide)) af))))))) (w_mod (gM (qv 1) au) au) (λ_ _=>rfl)) dA.nd Y (Or.inr Y))
  (ag (ax (aR (cE (ab au (ab au (ab au (ab au (ab au (ab au (ab au (ab au af))))))))) (w_mod (gM (qv 1) au) au) (λ_ _=>rfl)) dA.nd Y Q4)
  (ag (ax (aR (cE (ab au (ab au (ab au (ab au af))))) (gg ma mn (ER B.Ox (ab (qv 3) (ab au af))) au) (λ_ _=>rfl)) dA.nd Y (Or.inr Y))
  (ag (bM (jB a (w_mod (gM (qv 1) au) au) au) (ar (ax (gM au (EN B.Nc (ab au (ab (qv 3) af)))) dA.nd Y (Or.inr Y))) bx)
  (ag (bM (LL.Nl (kZ (jB a (qv 3) au) (kJ (jU a (w_mod (gM (qv 1) au) au) au)))) (ar (ax au dA.nd Y (Or.inr Y))) bx)
  (ar (aT (fZ 1 Q8 Y (fu (qv 3) Y B.Jr) (cF) (λ_ _ _ _ _=>(aF 0 (show List.Nodup Q8 from by decide +kernel) Y Q4 (Or.inr Y))) (λ_ _ _ _ _=>(aP (d _) a (ab (bF 1 Y (Or.inr Q4) Y Y) (ab (bF 3 Y (Or.inr Q4) Y Y) (ab (bF 5 Y (Or.inr Q4) Y Y) (ab (qv 0) af)))) (by decide) Y Y)) Y Y (by decide))))))))))
abbrev ki:Stmt:=top 39
def g5:bt ["_law_book_here", "_law_cell", "_law_text_here", "_law_start", "_law_word"] Q5 (ai ki):=by constructor<;>first | rfl | decide +kernel
def gq{m:Me}(F:IH K "_law_part" "_law_part" ki f d)(b:mg "_law_part" = Z (.ref f))(B:JD mg)(O:Jp K mg C D) :
  FnAt P w K mg base 1 "_law_part" Q5 ((gX K C D).at m) iH:=dC F b g5 Y Y (λ_ _ _ _ _ _ e hl=>by obtain⟨_,_,rfl⟩:=L2.dc hl;rfl) λ_ _ _ _ _ _ a =>
  (ag (bM (jB a (qv 0) (cE af)) (ar (aT (aR (cE (ab (de (by decide +kernel) (by decide)) (ab (de (by decide +kernel) (by decide)) af))) (w_mod (qv 1) au) (λ_ _=>rfl)))) bx)
  (ag (ax (aR (qv 0) (w_mod (qv 1) (cf B.xt (ab (qv 0) af))) (λ_ _=>rfl)) g5.nd Y Q4)
  (ag (ax (w_mod (gM (qv 1) au) (w_add (cf B.xt (ab (qv 2) af)) au)) g5.nd Y Q4)
  (ag (ax (kG (qv 2) (fG (qv 3)) (fG (w_add (qv 3) (w_mod (gM (qv 1) au) (w_add (gg ma mn (cf B.xt (ab (qv 2) af)) (qv 3)) au))))) g5.nd Y Q4)
  (ar (aT (w_add (qv 4) (aR (cE (ab (de (by decide +kernel) (by decide)) (ab (de (by decide +kernel) (by decide)) (ab (de (by decide +kernel) (by decide)) (ab (de (by decide +kernel) (by decide)) af))))) (w_mod (gM (qv 1) au) au) (λ_ _=>rfl)))))))))
abbrev jy:Stmt:=top 40
def lQ:bt ["_law_book_here", "_law_table", "_law_many", "_law_word", "_law_at"] Q6 (ai jy):=by constructor<;>first | rfl | decide +kernel
def dm{m:Me}(F:IH K "_law_count" "_law_count" jy f e)(b:mg "_law_count" = Z (.ref f))(B:JD mg)(O:Jp K mg C D)(d:∀m,FnAt P w K mg base 2 "stand_of" Qv ((gX K C D).at m) iF) :
  FnAt P w K mg base 3 "_law_count" Q6 ((gX K C D).at m) dy:=dC F b lQ Y Y (λ_ _ _ _ _ _ g hl=>by obtain⟨_,_,_,_,rfl⟩:=L2.ED hl;rfl) λ_ _ _ _ _ _ a =>
  (ag (ax (aP (d _) a (ab (qv 1) (ab (qv 3) af)) (by decide) Y Y) lQ.nd Y Q4)
  (ag (bM (Ao (qv 4)) (ar (aT au)) bx)
  (ar (aT (aR (qv 2) (qv 4) (λ_ _=>rfl))))))
abbrev lL:Stmt:=top 41
def dD:bt ["_law_script", "_law_book_here", "_law_about", "_law_table", "_law_turned_table", "_law_many", "_law_turned_many", "_law_long", "_law_whole", "_law_whole_table", "_law_whole_many", "_law_k", "_law_word", "_law_count_here", "_law_times", "_law_one", "_law_other"] Qb (ai lL):=by constructor<;>first | rfl | decide +kernel
def DY{m:Me}(F:IH K "law" "law" lL f n)(B:JD mg)(O:Jp K mg C D)(i:InAt P w K mg base 6 (gX K C D) 1 1 "Machine" ["self", "book"] aN)(j:∀m,MpAt P w K mg base 3 ((gX K C D).at m) 1 "table" Qn bD)(r:∀m,FnAt P w K mg base 3 "_law_book" Qb ((gX K C D).at m) iL)(s:∀m,FnAt P w K mg base 1 "_law_cell_at" Q9 ((gX K C D).at m) aM)(g:∀m,FnAt P w K mg base 3 "_law_count" Q6 ((gX K C D).at m) dy)(q:∀m,FnAt P w K mg base 1 "_law_part" Q5 ((gX K C D).at m) iH)(e:∀m,FnAt P w K mg base 1 "counted" Qs ((gX K C D).at m) gb)(d:∀m,FnAt P w K mg base 5 "counts" Qe ((gX K C D).at m) iA)(l:∀m,FnAt P w K mg base 7 "often" ["book", "times"] ((gX K C D).at m) jM)(p:∀m,FnAt P w K mg base 1 "parts_of" ["book", "long"] ((gX K C D).at m) iP)(o:∀m,FnAt P w K mg base 1 "places" ["book", "word"] ((gX K C D).at m) lD)(b:∀m,FnAt P w K mg base 1 "unlike" ["table"] ((gX K C D).at m) gz) :
  FnOk P w K mg base JB 8 f n Qb (LH ((gX K C D).at m) za):=Uh F dD Y Y λ_ _ _ _ _ _ a =>
  (ag (ax (aP (r _) a (ab (qv 0) af) (by decide) Y Y) dD.nd Y Q4)
  (ag (tM 1 Qc (λ_ _ _ h=>nX h) Y (bQ (qv 1)) (cF) (λ_ _ _ _ _=>(aF 0 (show List.Nodup Qc from by decide +kernel) Y Q4 (Or.inr Y))) (λ_ _ _ _ _=>(w_rev (qv 0) kX (fG v9))) dD.nd Y Q4 Y Y (by decide))
  (ag (ax (ip (j _) a (by decide) (u5 i.at a (by decide) (ab (wC B.Nd (ab (qv 1) af)) af) AY Y Y Y Y) Y) dD.nd Y Q4)
  (ag (ax (ip (j _) a (by decide) (u5 i.at a (by decide) (ab (qv 2) af) AY Y Y Y Y) Y) dD.nd Y Q4)
  (ag (ax (aP (d _) a (ab (qv 1) (ab (qv 3) af)) (by decide) Y Y) dD.nd Y Q4)
  (ag (ax (aP (d _) a (ab (qv 2) (ab (qv 4) af)) (by decide) Y Y) dD.nd Y Q4)
  (ag (bM (jU a (aP (b _) a (ab (qv 3) af) (by decide) Y Y) (aP (b _) a (ab (qv 4) af) (by decide) Y Y)) (ar (aT uj)) bx)
  (ag (cG ZH Y (fu (w_add (Ac B.Nc (ab (w_add (cE (ab au af)) (fZ 1 Qc Y (bQ (qv 1)) (cF) (λ_ _ _ _ _=>(aF 0 (show List.Nodup Qc from by decide +kernel) Y Q4 (Or.inr Y))) (λ_ _ _ _ _=>(cf B.xt (ab (qv 0) af))) Y Y (by decide))) af)) au) Y B.Jr) (aF 7 dD.nd Y Q4 Q4)
  (ar (bM (LL.Nl (oA (jU a (aP (e _) a (ab (qv 3) (ab (qv 7) af)) (by decide) Y Y) (aP (e _) a (ab (qv 4) (ab (qv 7) af)) (by decide) Y Y)) (ox (jU a (aP (e _) a (ab (qv 3) (ab (qv 7) af)) (by decide) Y Y) (cf B.xt (ab (aP (p _) a (ab (qv 1) (ab (qv 7) af)) (by decide) Y Y) af)))))) (ar (aT uj)) bx)))
  (ag (ax (cE (ab (vO (de (by decide +kernel) (by decide)) (ab (qv 1) af)) af)) dD.nd Y Q4)
  (ag (ax (ip (j _) a (by decide) (u5 i.at a (by decide) (ab (qv 8) af) AY Y Y Y Y) Y) dD.nd Y Q4)
  (ag (ax (aP (d _) a (ab (qv 8) (ab (qv 9) af)) (by decide) Y Y) dD.nd Y Q4)
  (ag (cG ZH Y (fu au Y B.Jr) (aF 11 dD.nd Y Q4 Q4)
  (ag (ax (aP (q _) a (ab (qv 1) (ab (w_add (aP (s _) a (ab (qv 0) (ab (w_add au (qv 11)) af)) (by decide) Y Y) (gg mK mJ au (qv 11))) af)) (by decide) Y Y) dD.nd Y Q4)
  (ag (ax (aP (g _) a (ab (qv 1) (ab (qv 3) (ab (qv 5) (ab (qv 12) af)))) (by decide) Y Y) dD.nd Y Q4)
  (ag (bM (LL.Nl (oA (jU a (qv 13) (cf B.xt (ab (aP (o _) a (ab (qv 1) (ab (qv 12) af)) (by decide) Y Y) af))) (ox (jU a (qv 13) (aP (g _) a (ab (qv 2) (ab (qv 4) (ab (qv 6) (ab (w_rev (qv 12) kX (fG v9)) af)))) (by decide) Y Y))))) (ar (aT uj)) bx)
  (ar (bM (LL.Nl (kZ (jU a (qv 12) (de (by decide +kernel) (by decide))) (kJ (fE q8 vk jE (aP (g _) a (ab (qv 8) (ab (qv 9) (ab (qv 10) (ab (qv 12) af)))) (by decide) Y Y) (qv 13) (iM _))))) (ar (aT uj)) bx))))))
  (ag (cG ZH Y (ou au au Y B.Jr) (aF 14 dD.nd Y Q4 Q4)
  (ag (ax (aP (l _) a (ab (qv 1) (ab (qv 14) af)) (by decide) Y Y) dD.nd Y Q4)
  (ag (ax (aP (l _) a (ab (qv 2) (ab (qv 14) af)) (by decide) Y Y) dD.nd Y Q4)
  (ar (bM (LL.Nl (oA (jU a (A0 (qv 15)) (A0 (qv 16))) (ox (LL.Nl (kZ (jL (qv 15)) (kJ (jU a (cf B.xt (ab (aR (qv 15) au (λ_ _=>rfl)) af)) (cf B.xt (ab (aR (qv 16) au (λ_ _=>rfl)) af))))))))) (ar (aT uj)) bx)))))
  (ar (aT (EJ (zh.or lY) yM (aP (b _) a (ab (qv 9) af) (by decide) Y Y) (aP (b _) a (ab (qv 3) af) (by decide) Y Y) (iM _)))))))))))))))))
end
abbrev gN(K:Wu)(x:Str)(f:KM):Prop:=PySem.W.nsIn K mainGlobals x=Z (Z (.ref f))
abbrev gZ(K:Wu)(x:Str):Prop:=PySem.W.nsIn K mainGlobals x=Z L
def all_mk{l:PySem.W.OpenLaw}{K:Wu}(X:K.In h)(G:h.Ns mainGlobals a)(hfa:a "law" = Z (.ref fa))(TN:∀ns:Vw,ns.length<=63->za [.scr ns]=Z (.fr,.bl true))(a0:Meth K C "new_node" f0)(F0:IH K "new_node" "Nodes.new_node" fq f0 fd0)(a1:Mk K C f1)(F1:IH K "__init__" "Nodes.__init__" eZ f1 fd1)(a2:Meth K C "node_just_behind" f2)(F2:IH K "node_just_behind" "Nodes.node_just_behind" cB f2 fd2)(a3:Meth K C "head_behind" f3)(F3:IH K "head_behind" "Nodes.head_behind" dU f3 fd3)(a4:Meth K C "head_grown" f4)(F4:IH K "head_grown" "Nodes.head_grown" d5 f4 fd4)(a5:Meth K C "numbers_by_node" f5)(F5:IH K "numbers_by_node" "Nodes.numbers_by_node" cH f5 fd5)(a6:Meth K C "row_of" f6)(F6:IH K "row_of" "Nodes.row_of" gw f6 fd6)(a7:Meth K C "table" f7)(F7:IH K "table" "Nodes.table" hJ f7 fd7)(a8:Meth K D "begin" f8)(F8:IH K "begin" "Machine.begin" fP f8 fd8)(a9:gN K "is_whole" f9)(F9:IH K "is_whole" "is_whole" kj f9 fd9)(a10:gN K "refuse_no_text" f10)(F10:IH K "refuse_no_text" "refuse_no_text" ft f10 UJ)(a11:gN K "signs_in" f11)(F11:IH K "signs_in" "signs_in" jZ f11 UI)(a12:Meth K D "grow" U)(F12:IH K "grow" "Machine.grow" gf U UH)(a13:Mk K D UL)(l13:K.lookup UL=Z ⟨S4,SX,.func (PySem.W.fnOf "__init__" "Machine.__init__" (cR bZ) (ba bZ) (ai bZ) (.ref T13) Tp UR SM UU Rx US),SG⟩)(c13:PySem.W.codeIn K Rx "Machine.__init__" = true)(k13:PySem.W.keepIn K (.ref UL)=true)(t13:K.lookup T13=Z QB)(u13:QB.data=.seq #[.none] Tc)(a14:Meth K D "book" S)(F14:IH K "book" "Machine.book" gk S UG)(a15:Meth K D "table" Q)(F15:IH K "table" "Machine.table" fQ Q UE)(a16:gN K "places" P)(F16:IH K "places" "places" oE P UD)(a17:gN K "parts_of" N)(F17:IH K "parts_of" "parts_of" ke N UC)(a18:gN K "walk" M)(F18:IH K "walk" "walk" uQ M UB)(a19:gN K "stand_of" J)(F19:IH K "stand_of" "stand_of" j3 J UA)(a20:gN K "refuse_no_stand" H)(F20:IH K "refuse_no_stand" "refuse_no_stand" eI H Uz)(a21:gN K "steps_before" E)(F21:IH K "steps_before" "steps_before" gP E Uy)(a22:gN K "longest" A)(F22:IH K "longest" "longest" mw A Ux)(a23:gN K "unlike" z)(F23:IH K "unlike" "unlike" n5 z Uw)(a24:gN K "counted" y)(F24:IH K "counted" "counted" l7 y Uv)(a25:gN K "chain" x)(F25:IH K "chain" "chain" qD x Uu)(a26:gN K "places_by" u)(F26:IH K "places_by" "places_by" je u Ut)(a27:gN K "counts" t)(F27:IH K "counts" "counts" pE t Us)(a28:gN K "table_of" r)(F28:IH K "table_of" "table_of" kf r Ur)(a29:gN K "stand_of_longest" q)(F29:IH K "stand_of_longest" "stand_of_longest" d4 q Rl)(d29:Rl.code=.ref IM)(h29:PySem.W.codeHdIn K IM Ji=true)(a30:gN K "often" o)(F30:IH K "often" "often" qy o Uq)(a31:gN K "_law_cell_at" n)(F31:IH K "_law_cell_at" "_law_cell_at" hV n Up)(a32:gN K "_law_mixed" j)(F32:IH K "_law_mixed" "_law_mixed" i6 j Uo)(a33:gN K "_law_text" i)(F33:IH K "_law_text" "_law_text" kg i Um)(a34:gN K "_law_book" g)(F34:IH K "_law_book" "_law_book" j7 g Ul)(a35:gN K "_law_part" f)(F35:IH K "_law_part" "_law_part" ki f Uk)(a36:gN K "_law_count" b)(F36:IH K "_law_count" "_law_count" jy b Uj)(a37:gN K "law" UK)(l37:K.lookup UK=Z ⟨SY,SW,.func (PySem.W.fnOf "law" "law" (cR lL) (ba lL) (ai lL) .none QI Ru Qz RC Pg Rv),SF⟩)(c37:PySem.W.codeIn K Pg "law" = true)(k37:PySem.W.keepIn K (.ref UK)=true)(OB:gZ K "bool")(OA:gZ K "dict")(Lk:gZ K "enumerate")(P0:gZ K "int")(KW:gZ K "isinstance")(PZ:gZ K "len")(Oz:gZ K "list")(PY:gZ K "max")(PU:gZ K "min")(NG:gZ K "range")(PR:gZ K "set")(ME:gZ K "sorted")(PQ:gZ K "sum")(NF:gZ K "tuple")(KZ:PySem.W.nsIn K mainGlobals "MOST_SIGNS" = Z (Z (.int 120 K6)))(KY:PySem.W.nsIn K mainGlobals "MOST_TEXTS" = Z (Z (.int 8 K5)))(w_Nodes:gN K "Nodes" C)(xl:Kc K C)(Jw:bf K C "longs")(Jx:bf K C "links")(JC:bf K C "ways")(Ju:bf K C "texts")(Jy:bf K C "heads")(Jv:bf K C "nodes")(w_Machine:gN K "Machine" D)(xh:Kc K D)(Jb:bf K D "longs")(Jc:bf K D "links")(Jl:bf K D "ways")(IZ:bf K D "texts")(Jd:bf K D "heads")(Ja:bf K D "nodes")
  : ∃fd:P3,(∀(s:IR)(v:On),BindsTo s fd ⟨[v],[]⟩ [("_law_script",v)])/\∀base:SZ,K.In base->base.Ns mainGlobals a->Bm a base->(∀p∈([(IM,Ji, "stand_of_longest.<locals>.<lambda>")]:L2.RE),Tb base p.2.1 p.2.2)->FnOk l.prog w K a base JB 8 fa fd Qb (LH (Ue K) A8):=by
 have e:=hfa.symm.trans (ZM X G a37);cases e;have B:JD a:=⟨Z1 X G OB,Z1 X G OA,Z1 X G Lk,Z1 X G P0,Z1 X G KW,Z1 X G PZ,Z1 X G Oz,Z1 X G PY,Z1 X G PU,Z1 X G NG,Z1 X G PR,Z1 X G ME,Z1 X G PQ,Z1 X G NF,⟨_,ZM X G KZ⟩,⟨_,ZM X G KY⟩⟩
 have O:Jp K a C D:=⟨xl,ZM X G w_Nodes,Jw,Jx,JC,Ju,Jy,Jv,xh,ZM X G w_Machine,Jb,Jc,Jl,IZ,Jd,Ja⟩
 refine⟨PySem.W.fnOf "law" "law" (cR lL) (ba lL) (ai lL) .none QI Ru Qz RC Pg Rv,λs v=>.of_eq Y,λbase _ _ Lb Lt=>?_⟩;have aQ:=aQ l.prog w base F0 a0 B O;have bw:=bw l.prog w base F1 a1 B O aQ;have aV:=aV l.prog w base F2 a2 B O aQ;have bN:=bN l.prog w base F3 a3 B O aQ aV;have bc:=bc l.prog w base F4 a4 B O bN;have br:=λm=>br (m:=m) l.prog w base F5 a5 B O;have dv:=λm=>dv (m:=m) l.prog w base F6 a6 B O;have bR:=λm=>bR (m:=m) l.prog w base F7 a7 B O br dv;have c9:=c9 l.prog w base F8 a8 B O;have dE:=λm=>dE (m:=m) l.prog w base F9 (ZM X G a9) B O;have cJ:=λm=>cJ (m:=m) l.prog w base F10 (ZM X G a10) B O dE;have gO:=λm=>gO (m:=m) l.prog w base F11 (ZM X G a11) B O;have du:=du l.prog w base F12 a12 B O bc cJ gO;have bq:=bq l.prog w base ⟨⟨_,_,_,_,_,_,_,_,_,_,_,_,rfl,l13,c13,t13,u13⟩,k13⟩ a13 B O c9 du bw;have i9:=λm=>i9 (m:=m) l.prog w base F14 a14 B O;have bL:=λm=>bL (m:=m) l.prog w base F15 a15 B O bR;have jC:=λm=>jC (m:=m) l.prog w base F16 (ZM X G a16) B O;have gy:=λm=>gy (m:=m) l.prog w base F17 (ZM X G a17) B O;have jq:=λm=>jq (m:=m) l.prog w base F18 (ZM X G a18) B O;have gD:=λm=>gD (m:=m) l.prog w base F19 (ZM X G a19) B O jq;have bj:=λm=>bj (m:=m) l.prog w base F20 (ZM X G a20) B O dE;have dr:=λm=>dr (m:=m) l.prog w base F21 (ZM X G a21) B O;have d9:=λm=>d9 (m:=m) l.prog w base F22 (ZM X G a22) B O bj dr;have fH:=λm=>fH (m:=m) l.prog w base F23 (ZM X G a23) B O;have fe:=λm=>fe (m:=m) l.prog w base F24 (ZM X G a24) B O;have kT:=λm=>kT (m:=m) l.prog w base F25 (ZM X G a25) B O bj;have cM:=λm=>cM (m:=m) l.prog w base F26 (ZM X G a26) B O kT jq;have gA:=λm=>gA (m:=m) l.prog w base F27 (ZM X G a27) B O cM;have gx:=λm=>gx (m:=m) l.prog w base F28 (ZM X G a28) B O bw bc bR;have b7:=λm=>b7 (m:=m) l.prog w base F29 (ZM X G a29) B O d9 h29 (Lt _ (.head _)) Lb d29;have jQ:=λm=>jQ (m:=m) l.prog w base F30 (ZM X G a30) B O d9 cM b7 gx;have bg:=λm=>bg (m:=m) l.prog w base F31 (ZM X G a31) B O;have fM:=λm=>fM (m:=m) l.prog w base F32 (ZM X G a32) B O;have gB:=λm=>gB (m:=m) l.prog w base F33 (ZM X G a33) B O bg fM;have gp:=λm=>gp (m:=m) l.prog w base F34 (ZM X G a34) B O bg gB;have gq:=λm=>gq (m:=m) l.prog w base F35 (ZM X G a35) B O;have dm:=λm=>dm (m:=m) l.prog w base F36 (ZM X G a36) B O gD;exact CC Y (DY l.prog w base (m:=λ_=>L) (zc (st:=lL) l37 c37 k37) B O bq bL gp bg dm gq fe gA jQ gy jC fH) TN
end T56
open PySem PySem.W PyProof.Rows PySem.W.X PySem.W.ZRun
set_option maxRecDepth 100000 in
set_option maxHeartbeats 0 in
theorem PySem.Challenge.cw_allparts_k56_whole_texts_turned_and_laid_holds : PySem.Challenge.rw_allparts_k56_whole_texts_turned_and_laid.Holds := by
 w_on;o_law;k_head;(case hw=>w_witness2)
 k_fill
 refine VS.AK (l:=PySem.Challenge.rw_allparts_k56_whole_texts_turned_and_laid) (k:=8) (x := "_law_script") (tb:=[(286,284, "stand_of_longest.<locals>.<lambda>")]) rfl rfl ⟨rfl,by decide,by decide⟩ (by decide) (by decide +kernel) (fun _=>by kernel_rfl) (fun _=>(List.forall_mem_cons.mpr ⟨by kernel_rfl,(fun _ h=>nomatch h)⟩)) ?F
 case F =>
  intro w mg fa h KX G hmg;apply T56.all_mk KX G hmg T56.yw
  (case w_Nodes=>unfold T56.gN;k_is)
  (case w_Machine=>unfold T56.gN;k_is)
  all_goals first | (refine' L2.zc ?l ?c ?k;(case l=>k_is);(case c=>k_is);(case k=>k_is)) | (refine' ⟨?l,?c,?k⟩;(case l=>k_is);(case c=>k_is);(case k=>k_is)) | (refine' ⟨?l,?c,?k,?d⟩;(case l=>k_is);(case c=>k_is);(case k=>k_is);(case d=>k_is)) | (unfold T56.gN;k_is) | (unfold T56.gZ;k_is) | (unfold L2.bf;k_is) | k_is | exact rfl | kernel_rfl
end
