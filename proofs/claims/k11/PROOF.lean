import PyProof.Rows.All
import Wide.All
import OpenK.AllK
import Wide.FinOn
import Lean
import PyProof.EqAt
import PyProof.EqKinds
import PyProof.TupleCall
import PyProof.Rows.SortShellK
import PyProof.Rows.SortStr
import PyProof.Rows.SortWalk
import PyProof.StrBlockH
import PyProof.StrLawsIn
import PyProof.Rows.SetFrom
import PyProof.CollectWalk
import KE.KDictSum
import PyProof.ListStr
import PyProof.SeqI3
import PyProof.Rows.CallKwBuiltin
import PyProof.ListRange
import PyProof.AttrMissSeq
import PyProof.DictUpdate
import PyProof.DictList
import PyProof.ListNew
import PyProof.FactsAll.dict_1
import PyProof.SliceList
import PyProof.WalkInts
import PyProof.StationsW
import OpenK.KOwn
import KE.KTryMore
import PyProof.NsDelKeeps
import PyProof.ExcArgsOwn
import PyProof.ExcAttrAll.Exception
import OpenK.KDescr
import KE.KIsAll
import PyProof.ExcBaseAll.ValueError
import PyProof.StrBlock
import PyProof.StrCalls
import PyProof.StrLawsOccR
import KE.KDictOf
import PyProof.Rows.Range3
import PyProof.Rows.ZipForRows
import PyProof.Draws
import KE.KLam
import PySem.Challenge.RW_allparts_k11_whole_takes_just_the_parts
set_option linter.all false
set_option bootstrap.genMatcherCode false
set_option genSizeOf false
noncomputable section
namespace PySem.W.Fast
def tw650293920439103120:True:=⟨⟩
def tw173480481905922755:True:=⟨⟩
def tw4096542053118980111:True:=⟨⟩
def tw164732914811392608:True:=⟨⟩
def tw6421950120931965337:True:=⟨⟩
def tw1702471320344534621:True:=⟨⟩
def tw17247705553650236133:True:=⟨⟩
def tw551191439629939813:True:=⟨⟩
def tw13172956515547394567:True:=⟨⟩
def tw6533919839900387091:True:=⟨⟩
def tw9835931739237725302:True:=⟨⟩
def tw13324410466805521664:True:=⟨⟩
def tw12682312907994705490:True:=⟨⟩
def tw7676395086959070909:True:=⟨⟩
def tw9091723770985955331:True:=⟨⟩
def tw16960747377955674085:True:=⟨⟩
def tw10225075985562908608:True:=⟨⟩
def tw5146271076235238526:True:=⟨⟩
def tw6421538251111664328:True:=⟨⟩
def tw16865987430137060566:True:=⟨⟩
def tw5092303750268096130:True:=⟨⟩
def tw8208757058719565430:True:=⟨⟩
def tw2395081116271109969:True:=⟨⟩
def tw2696874902039682507:True:=⟨⟩
def tw3576951583125026893:True:=⟨⟩
def tw1415473999930614467:True:=⟨⟩
def tw16237173429832684908:True:=⟨⟩
def tw5111771867744404039:True:=⟨⟩
def tw8961725851463550599:True:=⟨⟩
def tw7897789855115701177:True:=⟨⟩
def tw13033329523010594698:True:=⟨⟩
def tw3321762073237890413:True:=⟨⟩
def tw2390593980713148601:True:=⟨⟩
def tw5673840545518334686:True:=⟨⟩
def tw4086690331497876918:True:=⟨⟩
def tw750990225439541001:True:=⟨⟩
def tw7492108398683470670:True:=⟨⟩
def tw3552486918729738459:True:=⟨⟩
def tw9986376754745774088:True:=⟨⟩
def tw10702610302235392651:True:=⟨⟩
def tw11541761264300169855:True:=⟨⟩
def tw10024529657848984096:True:=⟨⟩
def tw16607707074268427626:True:=⟨⟩
def tw11688714285414750612:True:=⟨⟩
def tw12235836778067884112:True:=⟨⟩
def tw6782046116683039554:True:=⟨⟩
def tw9277437625715894000:True:=⟨⟩
def tw11610644553568459509:True:=⟨⟩
def tw16643745424583889184:True:=⟨⟩
def tw17645880063822191243:True:=⟨⟩
def tw6041913468383214889:True:=⟨⟩
def tw841014548148587283:True:=⟨⟩
def tw7747398819743894854:True:=⟨⟩
def tw3691493212521522896:True:=⟨⟩
def tw11216216848978071111:True:=⟨⟩
def tw13176070836624569876:True:=⟨⟩
def tw494177884422463097:True:=⟨⟩
def tw13867964484151381742:True:=⟨⟩
def tw2209969318681072007:True:=⟨⟩
def tw18272890779040045033:True:=⟨⟩
def tw16040902671556442602:True:=⟨⟩
def tw5291150370410144163:True:=⟨⟩
def tw9413660990005881127:True:=⟨⟩
def tw1714002431504719740:True:=⟨⟩
def tw684421281463378790:True:=⟨⟩
def tw16241485057075022552:True:=⟨⟩
def tw2404112908089030283:True:=⟨⟩
def tw11375766920755438622:True:=⟨⟩
def tw16249142592236908975:True:=⟨⟩
def tw11908438989455282291:True:=⟨⟩
def tw10913044851808528064:True:=⟨⟩
def tw7671525299267622801:True:=⟨⟩
def tw6057481158032003212:True:=⟨⟩
def tw15099911067183013740:True:=⟨⟩
def tw14621386432435653757:True:=⟨⟩
def tw16931980882988706337:True:=⟨⟩
def tw5727703957815071580:True:=⟨⟩
def tw11437931332027428672:True:=⟨⟩
def tw579988546895458161:True:=⟨⟩
def tw17924316992520446541:True:=⟨⟩
def tw3739242336111317244:True:=⟨⟩
def tw18407962252694751066:True:=⟨⟩
def tw14999067859526873326:True:=⟨⟩
def tw5941915956635464804:True:=⟨⟩
def tw11123508016447617787:True:=⟨⟩
def tw12856223652767552798:True:=⟨⟩
def tw8112544609682664991:True:=⟨⟩
def tw10251099305668791191:True:=⟨⟩
def tw11023387053435228513:True:=⟨⟩
def tw2592054231690239166:True:=⟨⟩
def tw9359104850154511637:True:=⟨⟩
def tw6069321648182786741:True:=⟨⟩
def tw2329777951855955519:True:=⟨⟩
def tw14771211612404300772:True:=⟨⟩
def tw2378564519188342541:True:=⟨⟩
def tw2958924066756404225:True:=⟨⟩
def tw6658823463849918393:True:=⟨⟩
def tw15989839671981433185:True:=⟨⟩
def tw3019017842692344355:True:=⟨⟩
def tw15468451685821123809:True:=⟨⟩
def tw17907300291734462176:True:=⟨⟩
def tw10415967912018334682:True:=⟨⟩
def tw9123318246304764729:True:=⟨⟩
def tw12230555401044352578:True:=⟨⟩
def tw16785265003145701521:True:=⟨⟩
def tw1801373133242587583:True:=⟨⟩
def tw9313964891746209491:True:=⟨⟩
def tw6828976483270379881:True:=⟨⟩
def tw5694593708344515811:True:=⟨⟩
def tw16745531321608856131:True:=⟨⟩
def tw5049700235687161608:True:=⟨⟩
def tw2660479419931365560:True:=⟨⟩
def tw3338614056135345176:True:=⟨⟩
def tw4334083806206284350:True:=⟨⟩
def tw3484073859175183327:True:=⟨⟩
def tw1970942355133159753:True:=⟨⟩
def tw1221948004925205937:True:=⟨⟩
def tw10608395496428437264:True:=⟨⟩
def tw8241557582712151999:True:=⟨⟩
def tw9138227228691774189:True:=⟨⟩
def tw3040822901835318431:True:=⟨⟩
def tw11987040003067227463:True:=⟨⟩
def tw15235565068096403616:True:=⟨⟩
def tw14587700910731478828:True:=⟨⟩
def tw10606909566792577195:True:=⟨⟩
def tw8175636739510012075:True:=⟨⟩
def tw1180505175036044721:True:=⟨⟩
def tw9554196112359946266:True:=⟨⟩
def tw1206643775027911415:True:=⟨⟩
def tw1324393441630468934:True:=⟨⟩
def tw9603994023530438888:True:=⟨⟩
def tw6889613161955238356:True:=⟨⟩
def tw13088210927225337775:True:=⟨⟩
def tw2593917664842818378:True:=⟨⟩
def tw14877139013502177029:True:=⟨⟩
def tw4420796952782534706:True:=⟨⟩
def tw16320994829341347392:True:=⟨⟩
def tw10575018199883533723:True:=⟨⟩
def tw9745838471221136325:True:=⟨⟩
def tw17879051865714846240:True:=⟨⟩
def tw10036791875204410106:True:=⟨⟩
def tw5966625595428314280:True:=⟨⟩
def tw3101055040804103564:True:=⟨⟩
def tw17540167232497789516:True:=⟨⟩
def tw8909262573902669361:True:=⟨⟩
def tw1204819721354156518:True:=⟨⟩
def tw9266761781168450052:True:=⟨⟩
def tw393529380026566952:True:=⟨⟩
def tw16961887755862023908:True:=⟨⟩
def tw1531880053731314520:True:=⟨⟩
def tw13285308062333047114:True:=⟨⟩
def tw3793497110511359272:True:=⟨⟩
def tw4687415382649962096:True:=⟨⟩
def tw4145569108031330045:True:=⟨⟩
def tw1948418413952576628:True:=⟨⟩
def tw18067391169996651107:True:=⟨⟩
def tw16532508614076221974:True:=⟨⟩
def tw5323509155263494712:True:=⟨⟩
def tw17126329211370795172:True:=⟨⟩
def tw15863839624367202321:True:=⟨⟩
def tw12545572907296573511:True:=⟨⟩
def tw10566970839820685349:True:=⟨⟩
def tw8599436685257370517:True:=⟨⟩
def tw4095603326940353953:True:=⟨⟩
def tw16742637620675269505:True:=⟨⟩
def tw7656085874646588218:True:=⟨⟩
def tw6216483544952821521:True:=⟨⟩
def tw17885750716689885250:True:=⟨⟩
def tw14347739191180378416:True:=⟨⟩
def tw1127684735293839905:True:=⟨⟩
def tw8929158333847771165:True:=⟨⟩
def tw9775501797080654289:True:=⟨⟩
def tw9717903027434605910:True:=⟨⟩
def tw9615449410505027025:True:=⟨⟩
def tw9414124974411941125:True:=⟨⟩
def tw9199009392304633179:True:=⟨⟩
def tw8041156325864519087:True:=⟨⟩
def tw7971656553271009790:True:=⟨⟩
def tw7679662581326261030:True:=⟨⟩
def tw7669872228464170196:True:=⟨⟩
def tw7243768235418177910:True:=⟨⟩
def tw7122614830431992019:True:=⟨⟩
def tw6906864318099388442:True:=⟨⟩
def tw6905923388259275418:True:=⟨⟩
def tw5978522876365922810:True:=⟨⟩
def tw5328836731846821979:True:=⟨⟩
def tw5212123164045777520:True:=⟨⟩
def tw5126139757832305965:True:=⟨⟩
def tw4746271188426434416:True:=⟨⟩
def tw4033329710820244445:True:=⟨⟩
def tw326651376041672771:True:=⟨⟩
def tw3207789200348419167:True:=⟨⟩
def tw3099189687013113249:True:=⟨⟩
def tw2835877805538389192:True:=⟨⟩
def tw2604062791382362766:True:=⟨⟩
def tw2313459288437560162:True:=⟨⟩
def tw2128175983694970673:True:=⟨⟩
def tw18276194925874435636:True:=⟨⟩
def tw18019409723683761291:True:=⟨⟩
def tw17965917833364887264:True:=⟨⟩
def tw1721933891780377098:True:=⟨⟩
def tw16532332508216375320:True:=⟨⟩
def tw15901126124474812231:True:=⟨⟩
def tw15541955340003690754:True:=⟨⟩
def tw15332437364396700306:True:=⟨⟩
def tw14927717418763143699:True:=⟨⟩
def tw14509846359862201974:True:=⟨⟩
def tw1352827822971167780:True:=⟨⟩
def tw13372541144929005981:True:=⟨⟩
def tw13123389937715306546:True:=⟨⟩
def tw13054530351694093558:True:=⟨⟩
def tw13035775632120853492:True:=⟨⟩
def tw13019461248305697316:True:=⟨⟩
def tw12962451622014461735:True:=⟨⟩
def tw12737629204506446261:True:=⟨⟩
def tw12613168946290772962:True:=⟨⟩
def tw12533424094335321089:True:=⟨⟩
def tw12509628778092009549:True:=⟨⟩
def tw11889817996857600755:True:=⟨⟩
def tw11709470784585983728:True:=⟨⟩
def tw1169187071134980131:True:=⟨⟩
def tw11631661483511298481:True:=⟨⟩
def tw11603216630446005787:True:=⟨⟩
def tw11489743477634890759:True:=⟨⟩
def tw11288968474596722215:True:=⟨⟩
end PySem.W.Fast
open Option renaming some->Z, none->Y
open Bool renaming true->B, false->J
theorem q0(h:True:=by decide):True:=h
theorem q1(h:True:=by rfl):True:=h
theorem q2(h:True:=by intro _;rfl):True:=h
theorem q3(h:True:=by with_unfolding_all rfl):True:=h
theorem q4(h:True:=by first | exact Or.inl M | exact Or.inr (Or.inl M) | exact Or.inr (Or.inr M)):True:=h
theorem q5(h:True:=by first | exact Or.inl M | exact Or.inr M):True:=h
theorem q6(h:True:=by first | exact .inl M | exact .inr M):True:=h
theorem q7(h:True:=by exact rfl):True:=h
set_option hygiene false
local macro_rules|`({`q0,$x})=>`(autoParam $x q0._auto_1)|`({`q1,$x})=>`(autoParam $x q1._auto_1)|`({`q2,$x})=>`(autoParam $x q2._auto_1)|`({`q3,$x})=>`(autoParam $x q3._auto_1)|`({`q4,$x})=>`(autoParam $x q4._auto_1)|`({`q5,$x})=>`(autoParam $x q5._auto_1)|`({`q6,$x})=>`(autoParam $x q6._auto_1)|`({`q7,$x})=>`(autoParam $x q7._auto_1)
theorem M.{u}{α:Sort u}{a:α}:a=a:=rfl
open PySem renaming Shared->IR, model->KB, sizeLine->KF, Addr->KM, Value->On, wpAny->PP, starEach->Pv, FuncData->P3, Program->Re, Around->SB, keywordEach->SL, compareOp->UF, Heap->UV, World->XAA, attributeBase->XAB, foldedSetIterable->XAC
open PyProof.Rows renaming Keyed->Pi, SortSt->SC, pendingOf->SZ
set_option linter.all false
set_option maxRecDepth 100000
set_option Elab.async false
set_option maxHeartbeats 4000000
abbrev Yy:=PySem.Value->PySem.Shared->Prop
abbrev Yp:=List (PySem.Addr×PySem.Obj)
abbrev X0:=List (List PySem.Addr)
abbrev X6:=PySem.W.Frag
abbrev Wc:=PySem.Str->Option PySem.Value
abbrev Wa:=List PySem.Addr
abbrev V0:=List PySem.Value
abbrev V1:=Option PySem.Value
abbrev V2:=List Nat
abbrev V3:=List Int
abbrev V4:=List (List (List Nat))
abbrev Zr:=@if_pos
abbrev Zm:=@if_neg
abbrev ZI:=@decide_eq_false
abbrev ZE:=@beq_eq_false_iff_ne
open Option renaming bind_eq_some_iff->Zz,map_eq_some_iff->Zv,bind_some->Zt,isSome_iff_exists->Z3,map_some->YU,getD_some->YL,isSome_map->Y5
open List renaming length_map->Zy,mem_cons_self->Zx,mem_cons_of_mem->Zw,length_append->Zs,getD_eq_getElem?_getD->Zq,getElem?_eq_getElem->Zp,map_cons->Zn,mem_cons->Zk,mem_singleton->Ze,mem_append->Zd,getElem?_eq_some_iff->Zb,length_cons->Za,append_assoc->ZZ,nodup_cons->ZY,getElem?_map->ZV,zip_cons_cons->ZU,size_toArray->ZQ,mem_append_right->ZP,append_nil->ZM,nodup_append->ZL,flatten_cons->ZK,map_map->ZA,length_range->Z0,length_zip->Z1,length_drop->Z2,mem_range->Z4,pairwise_append->Z6,length_take->Z8,find?_cons->Z9,getElem?_append_left->Yz,getElem_mem->Yx,mem_map->Yw,getElem?_eq_none->Yv,getElem?_append_right->Yu,getElem_of_mem->Yt,flatten_append->Ys,length_singleton->Yr,all_eq_true->Yq,map_append->Yo,mem_append_left->Yn,getElem?_eq_none_iff->Ym,take_of_length_le->Yk,getElem?_zip_eq_some->Yi,suffix_refl->Yh,nil_append->Yg,sublist_cons_self->Yc,length_set->Ya,lookup_cons->YY,pairwise_cons->YV,getD_cons_succ->YT,findIdx?_cons->YM,mem_of_getElem?->YJ,pairwise_map->YH,drop_eq_nil_of_le->YG,suffix_nil->YF,pairwise_iff_getElem->YD,take_append_drop->YC,perm_append_comm->YB,length_replicate->YA,nodup_nil->Y1,mem_of_mem_take->Y2,mem_of_mem_drop->Y3,getElem?_set_ne->Y4,getElem?_replicate->Y8,map_congr_left->Xz,any_cons->Xu,map_fst_zip->Xs,sublist_append_right->Xp,drop_eq_getElem_cons->Xo,foldl_cons->Xm,mem_reverse->Xk,getElem?_set_self->Xg,drop_of_length_le->Xf,zip_append->Xb,length_filter_le->Xa,getElem_take->XY,getElem_drop->XX,cons_append->XJ,any_eq_true->XI,idxOf_lt_length_iff->XD,mem_filter->XC,suffix_iff_eq_drop->X2,pairwise_singleton->X3,getElem?_cons_succ->X4,filter_cons_of_neg->X5,map_nil->X7,filter_congr->X8,ext_getElem?->X9,drop_zero->Wz,set_getElem_self->Wu,cons_lt_cons_iff->Wt,not_mem_nil->Wr,drop_append->Wq,sum_cons->Wp,take_append_of_le_length->Wj,nil_suffix->Wg,perm_ext_iff_of_nodup->WX,map_id->WQ,all_cons->WO,length_eq_zero_iff->WN,filter_cons_of_pos->WM,map_set->WH,flatten_singleton->WG,of_mem_zip->WA,length_nil->W0,cons_prefix_cons->W7,not_lt->Vz,drop_take->Vy,filterMap_cons->Vt,getElem_idxOf->Vn,getElem?_set->Vg,all_map->Vf,zipIdx_cons->VX,nodup_range->VW,map_snd_zip->VU,getElem_inj->VT,drop_suffix->VR,append_cons->VQ
open PySem renaming wpAny_bind->Zu,wpAny_pure->Zh,wpAny_mono->YR,wpAny_holding->YE,wpAny_truthy_bool->Xv,wpAny_call_entry->Xd,wpAny_Call_Name_kw->XW,wpAny_passesOwn->XU,mem_of_lookup->XH,tupleKind_room_in1->Ww,sizeLine_eq->Wv,wpAny_forIn_list->We,wpAny_typeNameOfWhole_keyiter->Wb,wpAny_specialOf->WV,wpAny_newObj_type->WD,wpAny_newList->W5,wpAny_isInstance->W9,wpAny_execs_nil->Vs,isSubtype_tuple_tuple->Vp
open Nat renaming le_refl->Zo,ne_of_lt->Zc,zero_le->ZO,le_add_right->ZJ,lt_of_lt_of_le->ZG,le_of_lt->ZF,le_trans->ZC,pos_of_ne_zero->Z5,le_of_not_lt->Z7,lt_succ_of_lt->YW,le_of_lt_succ->YS,min_eq_left->YO,lt_succ_self->YK,lt_irrefl->YI,succ_le_succ->Y0,lt_of_succ_lt->Y6,add_sub_cancel_left->Y7,sub_le->Y9,le_of_eq->Xw,lt_of_le_of_lt->Xh,le_add_left->Xc,zero_add->XM,add_assoc->XE,le_of_not_le->Ws,le_succ->Wk,add_sub_cancel->WY,ne_of_gt->WK,lt_trans->WJ,lt_or_ge->WI,le_antisymm->WB,sub_self->Vm,sub_pos_of_lt->Vl,lt_succ_of_le->Vk,le_succ_of_le->Vj,le_of_succ_le->Vi,add_sub_of_le->Vh,min_eq_right->VZ,lt_of_not_le->VY
open Option.some renaming inj->Zl
open PySem.Heap renaming get?_push_of_some->Zj,get?_push_size->ZW,lt_size->ZR,get?_push_ne->YN,get?_update_ne->Xr,size_update->Xn,get?_update_other->Wi,size_push->Ve
open PyProof.Rows renaming wpS_pure->Zi,wpS_bind->ZX,wpS_forRange->Yb,callWith_type1->Xy,wpS_mono->Xl,size_push'->Xi,listUpdate_at->XZ,wpS_modify->Wf,get?_update_seq->WC,wpS_get->W8,seqEpoch_at->Vq
open Array renaming getElem_mem->Zg,getElem?_toList->ZD,length_toList->Yl,toList_append->YX,perm_iff_toList_perm->Xq,toList_extract->Wh,forIn_toList->WW,toList_reverse->Vw,toList_push->Vd,toList_map->VO
open Bool renaming false_ne_true->Zf,and_eq_true->ZS,false_eq_true->Yf,eq_iff_iff->XA,not_true->Wm,and_eq_true_iff->Vx
open PySem.W renaming mg_none_of->Yj,mg_of->YZ,kia_one->YQ,plainGet_of->Vv,kdu_collect->Vu,callWith_K->Vo,kdl_dict->Va
open Ne renaming symm->Ye
open PySem.PassesOwn renaming never->Yd
open List.Perm renaming refl->Xj
open Int renaming emod_lt_of_pos->Xe,emod_nonneg->XB,toNat_natCast->Wx,mul_le_mul_of_nonneg_right->VP
open PySem.F renaming slot_dict_keyiterator_next->XS,type_list_append->XG,slot_list_append->XF,plainAttrs_list->X1,slot_tuple_getattribute->WE,slot_tuple_hash->W4,slot_dict_get->W6,slot_tuple_eq->Vr
open PySem.Paired renaming length->XR
open List.Sublist renaming refl->Wy
open Prod.mk renaming inj->WR
open List.cons renaming injEq->W3
open PySem.Around renaming under_plainId->Vc
open PySem.Value renaming isStrOf_shape->Vb
section
namespace L2
def hJ{G:Prop}(h:∀P:Prop,(G->P)->P):G:=h G id
end L2
namespace VS
noncomputable abbrev Tx:=V2
inductive T where
 |non | bl (b:Bool) | int (i:Int) | str (s:Tx) | scr (ns:V3)
 |tup (l:List T) | lst (l:List T) | dct (kd:Nat) (l:List (T×T)) | obj (c:Nat) (fs:List (Nat×T))
 deriving Inhabited
abbrev V8:=List T
noncomputable def eu:Nat:=16777216
mutual
def Iq:T->Bool
 |.lst _=>J
 |.dct _ _=>J
 |.obj _ _=>J
 |.tup l=>fE l
 |_=>B
@[simp] def fE:V8->Bool
 |[]=>B
 |t :: r=>Iq t&&fE r
end
mutual
@[simp] def eqT:T->T->Bool
 |.non,.non=>B
 |.bl a,.bl b=>a==b
 |.bl a,.int i=>(if a then 1 else 0)==i
 |.int i,.bl a=>i==(if a then 1 else 0)
 |.int i,.int j=>i==j
 |.str s,.str t=>s==t
 |.tup a,.tup b=>g0 a b
 |.lst a,.lst b=>g0 a b
 |_,_=>J
def g0:V8->V8->Bool
 |[],[]=>B
 |a :: d,b :: bs=>eqT a b&&g0 d bs
 |_,_=>J
end
@[simp] noncomputable def Jn:Nat->T->Bool
 |_,.non=>B
 |_,.bl _=>B
 |_,.int _=>B
 |_,.str _=>B
 |n+1,.tup l=>l.all (Jn n)
 |n+1,.lst l=>l.all (Jn n)
 |_,_=>J
inductive Md where | fr | pu | bo
 deriving DecidableEq,Inhabited
@[simp] noncomputable def Md.join:Md->Md->Md
 |.bo,_=>.bo
 |_,.bo=>.bo
 |.pu,_=>.pu
 |_,.pu=>.pu
 |.fr,.fr=>.fr
inductive Cell where | pu (t:T) | ow (t:T)
 deriving Inhabited
abbrev V5:=Option Cell
noncomputable abbrev Env:=List (V5)
noncomputable abbrev Val:=Md×T
abbrev V7:=Option Val
abbrev V6:=List Val
abbrev Ex:=Env->V7
abbrev IQ:=Env->Option (V6)
@[simp] def up(m:Md)(t:T):Val:=(if Iq t then .fr else m,t)
noncomputable def Hu:T->Bool
 |.lst _=>B
 |.dct _ _=>B
 |.obj _ _=>B
 |_=>J
@[simp] def cellOf:Val->V5
 | (.fr,t)=>Z (if Hu t then .ow t else .pu t)
 | (.pu,t)=>Z (.pu t)
 | (.bo,_)=>Y
inductive Out where | nx (U:Env) | rt (v:Val) (U:Env) | bk (U:Env) | ct (U:Env)
abbrev Sx:=Env->Option Out
@[simp] noncomputable def eC(t:T)(_:Env):V7:=Z (.fr,t)
abbrev Q3(i:Int):Ex:=eC (.int i)
@[simp] def aa(i:Nat)(U:Env):V7:=match U[i]? with
 |some (some (.pu t))=>Z (up .pu t)
 |some (some (.ow t))=>Z (.bo,t)
 |_=>Y
@[simp] noncomputable def e1(f:Val->V7)(a:Ex)(U:Env):V7:=(a U).bind f
@[simp] noncomputable def e2(f:Val->Val->V7)(a b:Ex)(U:Env):V7:=(a U).bind λx=>(b U).bind λy=>f x y
@[simp] noncomputable def ag(_:Env):Option (V6):=Z []
@[simp] noncomputable def ab(a:Ex)(r:IQ)(U:Env):Option (V6):=(a U).bind λx=>(r U).bind λxs=>Z (x :: xs)
@[simp] noncomputable def eN(f:V6->V7)(a:IQ)(U:Env):V7:=(a U).bind f
@[simp] def cn:V6->Md
 |[]=>.fr
 |v :: r=>v.1.join (cn r)
@[simp] noncomputable def trees(l:V6):V8:=l.map (·.2)
def Lw(m:Md)(l:V8):V7:=if l.length<=eu then Z (if fE l then .fr else m,.lst l) else Y
@[simp] def hV(a:IQ)(U:Env):V7:=(a U).bind λl=>Lw (cn l) (trees l)
def sy(l:V6):V7:=if l.length<=eu then Z (up (cn l) (.tup (trees l))) else Y
@[simp] def pX(a:IQ)(U:Env):V7:=(a U).bind sy
def dput(l:List (T×T))(k v:T):List (T×T):=if l.any (λp=>eqT p.1 k) then l.map (λp=>if eqT p.1 k then (p.1,v) else p) else l++[(k,v)]
noncomputable def gr:T->Bool
 |.int _=>B
 |.str _=>B
 |_=>J
def keyOk:Nat->T->Bool
 |0,t=>gr t
 |1,.tup l=>l.all gr
 |_,_=>J
noncomputable def pairs:List (Ex×Ex)->Env->Option (List (Val×Val))
 |[],_=>Z []
 | (a,b) :: r,U=>(a U).bind λx=>(b U).bind λy=>(pairs r U).map ((x,y) :: ·)
def j7(a:Nat)(b:List (Ex×Ex))(U:Env):V7:=(pairs b U).bind λl=>if l.all (λp=>keyOk a p.1.2)/\l.length<=15 then
 Z (cn (l.map (·.2)),.dct a (l.foldl (λd p=>dput d p.1.2 p.2.2) [])) else Y
noncomputable def Nb:T->Option Bool
 |.bl b=>Z b
 |.int i=>Z (i != 0)
 |.str s=>Z (!s.isEmpty)
 |.lst l=>Z (!l.isEmpty)
 |.tup l=>Z (!l.isEmpty)
 |.dct 0 l=>Z (!l.isEmpty)
 |.non=>Z J
 |_=>Y
@[simp] noncomputable def i5(a b:Ex)(U:Env):V7:=(a U).bind λx=>match x.2 with
 |.bl true=>b U
 |.bl false=>Z (.fr,.bl J)
 |_=>Y
@[simp] noncomputable def NZ(a b:Ex)(U:Env):V7:=(a U).bind λx=>match x.2 with
 |.bl true=>Z (.fr,.bl B)
 |.bl false=>b U
 |_=>Y
@[simp] noncomputable def pZ(a:Ex)(U:Env):V7:=(a U).bind λx=>match x.2 with
 |.bl b=>Z (.fr,.bl (!b))
 |_=>Y
noncomputable def OZ:T->Bool
 |.non=>B
 |_=>J
@[simp] def Ao(a:Ex)(U:Env):V7:=(a U).bind λx=>Z (.fr,.bl (OZ x.2))
@[simp] def fR(a:Ex)(U:Env):V7:=(a U).bind λx=>Z (.fr,.bl (!OZ x.2))
@[simp] noncomputable def lP(f g:Val->Val->V7)(a b c:Ex)(U:Env):V7:=(a U).bind λx=>(b U).bind λy=>(f x y).bind λr=>match r.2 with
 |.bl true=>(c U).bind λz=>g y z
 |.bl false=>Z (.fr,.bl J)
 |_=>Y
@[simp] noncomputable def int?:T->Option Int
 |.int i=>Z i
 |_=>Y
def cM:Val->Val->V7
 | (_,.int i),(_,.int j)=>Z (.fr,.int (i+j))
 | (_,.str s),(_,.str t)=>if s.length+t.length<=eu then Z (.fr,.str (s++t)) else Y
 | (m,.lst s),(n,.lst t)=>Lw (m.join n) (s++t)
 |_,_=>Y
@[simp] noncomputable def oZ:Val->Val->V7
 | (_,.int i),(_,.int j)=>Z (.fr,.int (i-j))
 |_,_=>Y
noncomputable def R6:Int:=4611686018427387904
noncomputable def Rh:Int:=18446744073709551616
def mF:Val->Val->V7
 | (_,.int i),(_,.int j)=>if (-Rh<i/\i<Rh)\/(-Rh<j/\j<Rh) then Z (.fr,.int (i*j)) else Y
 |_,_=>Y
noncomputable def cI:Val->Val->V7
 | (_,.int i),(_,.int j)=>if 0<j/\j<1073741824 then Z (.fr,.int (i/j)) else Y
 |_,_=>Y
noncomputable def oMod:Val->Val->V7
 | (_,.int i),(_,.int j)=>if 0<j then Z (.fr,.int (i%j)) else Y
 |_,_=>Y
noncomputable def Mg:Tx->Tx->Bool
 |[],[]=>J
 |[],_ :: _=>B
 |_ :: _,[]=>J
 |a :: d,b :: bs=>if a<b then B else if b<a then J else Mg d bs
@[simp] def oLt:Val->Val->V7
 | (_,.int i),(_,.int j)=>Z (.fr,.bl (decide (i<j)))
 | (_,.str s),(_,.str t)=>Z (.fr,.bl (Mg s t))
 |_,_=>Y
@[simp] def oLe:Val->Val->V7
 | (_,.int i),(_,.int j)=>Z (.fr,.bl (decide (i<=j)))
 | (_,.str s),(_,.str t)=>Z (.fr,.bl (!Mg t s))
 |_,_=>Y
@[simp] def OV(a b:Val):V7:=oLt b a
@[simp] def OW(a b:Val):V7:=oLe b a
@[simp] def oEq(a b:Val):V7:=if Jn 60 a.2/\Jn 60 b.2 then Z (.fr,.bl (eqT a.2 b.2)) else Y
@[simp] def Lu(a b:Val):V7:=if Jn 60 a.2/\Jn 60 b.2 then Z (.fr,.bl (!eqT a.2 b.2)) else Y
def cP(l:List (T×T))(k:T):Option T:=(l.find? λp=>eqT p.1 k).map (·.2)
noncomputable def JP(n:Nat)(i:Int):Option Nat:=if 0<=i then (if i<n then Z i.toNat else Y) else (if 0<=i+n then Z (i+n).toNat else Y)
@[simp] def sub(m:Md)(t:T):Val:=up m t
@[simp] def aD:Val->Val->V7
 | (m,.lst l),(_,.int i)=>(JP l.length i).bind λk=>(l[k]?).map (sub m)
 | (m,.tup l),(_,.int i)=>(JP l.length i).bind λk=>(l[k]?).map (sub m)
 | (_,.scr l),(_,.int i)=>(JP l.length i).bind λk=>(l[k]?).map λn=>(.fr,.int n)
 | (_,.str l),(_,.int i)=>(JP l.length i).bind λk=>(l[k]?).map λn=>(.fr,.str [n])
 |_,_=>Y
noncomputable def clip(n:Nat)(i:Int):Nat:=if i<0 then (i+n).toNat else min i.toNat n
def cut{α:Type}(l:List α)(a b:Option Int):List α :=
 let lo:=match a with | none=>0 | some i=>clip l.length i
 let d:=match b with | none=>l.length | some i=>clip l.length i
 (l.drop lo).take (d-lo)
@[simp] def UQ(v:Val)(a b:Option Int):V7:=match v with
 | (_,.str s)=>Z (.fr,.str (cut s a b))
 | (m,.lst l)=>Lw m (cut l a b)
 |_=>Y
@[simp] def vP(c:Option Ex)(U:Env):Option (Option Int):=match c with
 |none=>Z Y
 |some e=>(e U).bind λy=>(int? y.2).map Z
@[simp] def Pj(a:Ex)(b d:Option Ex)(U:Env):V7:=(a U).bind λx=>(vP b U).bind λl=>(vP d U).bind λh=>UQ x l h
noncomputable def E1:T->Option Nat
 |.lst l=>Z l.length
 |.tup l=>Z l.length
 |.str l=>Z l.length
 |.scr l=>Z l.length
 |.dct 0 l=>Z l.length
 |_=>Y
@[simp] def cT:V6->V7
 |[x]=>(E1 x.2).map λn=>(.fr,.int n)
 |_=>Y
@[simp] noncomputable def rV:V6->V7
 |[(_,.int i),(_,.int j)]=>Z (.fr,.int (if j<i then j else i))
 |_=>Y
@[simp] noncomputable def si:V6->V7
 |[(_,.int i),(_,.int j)]=>Z (.fr,.int (if j > i then j else i))
 |_=>Y
noncomputable def jd:V8->Option (V3)
 |[]=>Z []
 |.int i :: r=>(jd r).map (i :: ·)
 |_=>Y
noncomputable def strs?:V8->Option (List Tx)
 |[]=>Z []
 |.str i :: r=>(strs? r).map (i :: ·)
 |_=>Y
def B6:V6->V7
 |[(_,.lst l)]=>(jd l).bind λis=>Z (.fr,.int is.sum)
 |_=>Y
@[simp] def Dj:V6->V7
 |[(m,.lst l)]=>Lw m l
 |[(m,.tup l)]=>Lw m l
 |_=>Y
def iy:V6->V7
 |[(m,.lst l)]=>if l.length<=eu then Z (up m (.tup l)) else Y
 |_=>Y
def oF(x:Tx):List Tx->List Tx
 |[]=>[x]
 |y :: r=>if Mg y x then y :: oF x r else x :: y :: r
def eI(l:List Tx):List Tx:=l.foldr oF []
noncomputable def lS(x:Int):V3->V3
 |[]=>[x]
 |y :: r=>if y<x then y :: lS x r else x :: y :: r
def iC(l:V3):V3:=l.foldr lS []
inductive Ty where | int | str | bool | list | tuple | dict
@[simp] noncomputable def sO:Ty->T->Bool
 |.int,.int _=>B
 |.int,.bl _=>B
 |.bool,.bl _=>B
 |.str,.str _=>B
 |.list,.lst _=>B
 |.tuple,.tup _=>B
 |.dict,.dct _ _=>B
 |_,_=>J
@[simp] noncomputable def vZ:T->Bool
 |.obj _ _=>J
 |.scr _=>J
 |.dct 0 _=>B
 |.dct 1 _=>B
 |.dct _ _=>J
 |_=>B
@[simp] def QM(t:Ty)(a:Ex)(U:Env):V7:=(a U).bind λx=>if vZ x.2 then Z (.fr,.bl (sO t x.2)) else Y
noncomputable def total:List Tx->Nat
 |[]=>0
 |x :: r=>x.length+total r
noncomputable def dq(a:Tx):List Tx->Tx
 |[]=>[]
 |[x]=>x
 |x :: r=>x++a++dq a r
def nu:Val->V6->V7
 | (_,.str sep),[(_,.lst l)]=>(strs? l).bind λa=>if total a+a.length*sep.length<=eu then Z (.fr,.str (dq sep a)) else Y
 |_,_=>Y
@[simp] noncomputable def eM(f:Val->V6->V7)(o:Ex)(b:IQ)(U:Env):V7:=(o U).bind λx=>(b U).bind λa=>f x a
noncomputable abbrev Fn:=V8->V7
@[simp] def bU(g:Fn)(b:IQ)(U:Env):V7:=(b U).bind λa=>(g (trees a)).bind λr=>match r with
 | (.fr,t)=>Z (.fr,t)
 | (_,t)=>Z ((Md.pu).join (cn a),t)
abbrev Ju:=Env->Option (Md×V8)
noncomputable def Ep:Val->Option (Md×V8)
 | (m,.lst l)=>Z (m,l)
 | (m,.tup l)=>Z (m,l)
 | (_,.str l)=>Z (.fr,l.map λc=>.str [c])
 |_=>Y
@[simp] def g7(a:Ex)(U:Env):Option (Md×V8):=(a U).bind Ep
noncomputable def rng(a:Int)(n:Nat):V8:=(List.range n).map λ(k:Nat)=>T.int (a+k)
def dE(a:Ex)(U:Env):Option (Md×V8):=(a U).bind λx=>(int? x.2).bind λj=>if -R6<=j/\j<R6 then Z (.fr,rng 0 j.toNat) else Y
noncomputable def i3(k:Nat):V8->V8
 |[]=>[]
 |t :: r=>.tup [.int k,t] :: i3 (k+1) r
def Dm:Val->Option (Md×V8)
 | (m,.lst l)=>Z (m,i3 0 l)
 |_=>Y
@[simp] def wb(a:Ex)(U:Env):Option (Md×V8):=(a U).bind Dm
abbrev Tg:=T->Env->Option Env
@[simp] noncomputable def bu(i:Nat)(t:T)(U:Env):Option Env:=if i<U.length then Z (U.set i (Z (.pu t))) else Y
noncomputable def uO:List Tg->V8->Env->Option Env
 |[],[],U=>Z U
 |g :: b,t :: a,U=>(g t U).bind λd=>uO b a d
 |_,_,_=>Y
@[simp] def ur(a:List Tg)(t:T)(U:Env):Option Env:=match t with
 |.tup l=>uO a l U
 |_=>Y
@[simp] def Su(m:Md)(l:V8):Bool:=match m with
 |.bo=>fE l
 |_=>B
def jP(e:Tg)(a:Option Ex)(d:Ex)(U:Env):V8->Option (V6)
 |[]=>Z []
 |t :: r=>(e t U).bind λf=>(match a with | none=>some true | some c=>(c f).bind λx=>Nb x.2).bind λb =>
  if b then (d f).bind λv=>(jP e a d U r).map (v :: ·) else jP e a d U r
def dy(k:Nat)(e:Tg)(f:Ju)(a:Option Ex)(b:Ex)(U:Env):V7:=(f U).bind λ(m,l)=>if Su m l then
 (jP e a b (List.replicate k Y++U) l).bind λd=>Lw (cn d) (trees d) else Y
@[simp] noncomputable def d6(U:Env):Option Out:=Z (.nx U)
@[simp] noncomputable def ak(a b:Sx)(U:Env):Option Out:=(a U).bind λo=>match o with
 |.nx d=>b d
 |o=>Z o
@[simp] def nL(i:Nat)(e:Ex)(U:Env):Option Out:=(e U).bind λv=>(cellOf v).bind λc=>if i<U.length then Z (.nx (U.set i (Z c))) else Y
@[simp] noncomputable def aI(i:Nat)(e:Ex)(U:Env):Option Out:=(e U).bind λv=>match v.1 with
 |.bo=>Y
 |_=>if i<U.length then Z (.nx (U.set i (Z (.pu v.2)))) else Y
@[simp] noncomputable def dS(e:Ex)(U:Env):Option Out:=(e U).bind λv=>Z (.rt (match v.1 with | .bo=>.pu | m=>m,v.2) U)
@[simp] def iQ(i:Nat)(U:Env):Option Out:=match U[i]? with
 |some (some (.ow t))=>Z (.rt (.fr,t) (U.set i Y))
 |some (some (.pu t))=>Z (.rt (up .pu t) U)
 |_=>Y
@[simp] def Js(c:Ex)(a b:Sx)(U:Env):Option Out:=(c U).bind λx=>(Nb x.2).bind λt=>if t then a U else b U
noncomputable def forL(d:Tg)(a:Sx):V8->Env->Option Out
 |[],U=>Z (.nx U)
 |t :: r,U=>(d t U).bind λe=>(a e).bind λo=>match o with
  |.nx b=>forL d a r b
  |.ct b=>forL d a r b
  |.bk b=>Z (.nx b)
  |.rt v b=>Z (.rt v b)
@[simp] noncomputable def UO:Md->Bool
 |.bo=>J
 |_=>B
@[simp] def gM(b:Tg)(d:Ju)(a:Sx)(U:Env):Option Out:=(d U).bind λ(m,l)=>if UO m then forL b a l U else Y
def fA(c:Ex)(a:Sx):Nat->Env->Option Out
 |0,_=>Y
 |n+1,U=>(c U).bind λx=>(Nb x.2).bind λt=>if t then (a U).bind λo=>match o with
  |.nx b=>fA c a n b
  |.ct b=>fA c a n b
  |.bk b=>Z (.nx b)
  |.rt v b=>Z (.rt v b)
  else Z (.nx U)
noncomputable def AB:Nat:=1000000
def nI(c:Ex)(a:Sx)(U:Env):Option Out:=fA c a AB U
@[simp] noncomputable def wF(i:Nat)(U:Env):Option Out:=match U[i]? with
 |some (some (.ow t))=>Z (.nx (U.set i (Z (.pu t))))
 |some (some (.pu _))=>Z (.nx U)
 |_=>Y
inductive Lm where | fld (k:Nat) | ix (e:Ex) | un
inductive Ky where | fld (k:Nat) | at (t:T) | un
def keys:List Lm->Env->Option (List Ky)
 |[],_=>Z []
 |.fld k :: r,U=>(keys r U).map (.fld k :: ·)
 |.ix e :: r,U=>(e U).bind λx=>(keys r U).map (.at x.2 :: ·)
 |.un :: r,U=>(keys r U).map (.un :: ·)
noncomputable def HD(a:List (Nat×T))(k:Nat):Option T:=a.lookup k
noncomputable def HP(a:List (Nat×T))(k:Nat)(v:T):List (Nat×T):=if a.any (λp=>p.1==k) then a.map (λp=>if p.1==k then (p.1,v) else p) else a++[(k,v)]
def CT{α:Type}(f:T->Option (T×α)):List Ky->T->Option (T×α)
 |[],t=>f t
 |.fld k :: r,.obj c fs=>(HD fs k).bind λx=>(CT f r x).map λ(y,a)=>(.obj c (HP fs k y),a)
 |.at (.int i) :: r,.lst l=>(JP l.length i).bind λj=>(l[j]?).bind λx=>(CT f r x).map λ(y,a)=>(.lst (l.set j y),a)
 |.at k :: r,.dct d l=>(cP l k).bind λx=>(CT f r x).map λ(y,a)=>(.dct d (dput l k y),a)
 |_,_=>Y
abbrev Xx:=Env->Option (Val×Env)
@[simp] noncomputable def xP(e:Ex)(U:Env):Option (Val×Env):=(e U).map λv=>(v,U)
@[simp] def qP(i:Nat)(a:List Lm)(f:T->V6->Option (T×Val))(g:IQ)(U:Env):Option (Val×Env):=match U[i]? with
 |some (some (.ow t))=>(keys a U).bind λe=>(g U).bind λb=>(CT (λx=>f x b) e t).map λ(d,v)=>(v,U.set i (Z (.ow d)))
 |_=>Y
@[simp] noncomputable def fit(v:Val):Option T:=match v.1 with
 |.fr=>Z v.2
 |_=>Y
def aC:T->V6->Option (T×Val)
 |.lst l,[v]=>(fit v).bind λt=>if l.length<eu then Z (.lst (l++[t]),(.fr,.non)) else Y
 |_,_=>Y
@[simp] noncomputable def sX(x:Xx)(U:Env):Option Out:=(x U).map λr=>.nx r.2
@[simp] noncomputable def fn(d e:Nat)(a:Sx):Fn:=λb=>if b.length=d then
 (a (b.map (λt=>Z (.pu t))++List.replicate (e-d) Y)).bind λo=>match o with
  |.rt v _=>Z v
  |.nx _=>Z (.fr,.non)
  |_=>Y else Y
def tU{s t:Tx}(h:s.length+t.length<=16777216):cM (m,.str s) (n,.str t)=Z (.fr,.str (s++t)):=Zr h
def nZ{i j:Int}(h:-18446744073709551616<i/\i<18446744073709551616):mF (m,.int i) (n,.int j)=Z (.fr,.int (i*j)):=Zr (.inl h)
def jg{m n:Md}{i j:Int}(h:0<j/\j<1073741824):cI (m,.int i) (n,.int j)=Z (.fr,.int (i/j)):=Zr h
def gy{m n:Md}{i j:Int}(h:0<j):oMod (m,.int i) (n,.int j)=Z (.fr,.int (i%j)):=Zr h
def cf{l:V8}(h:l.length<16777216):aC (.lst l) [(.fr,t)]=Z (.lst (l++[t]),(.fr,.non)):=by
 simp only[aC,fit,Zt];exact Zr h
def jQ{m:Md}{j:Int}(e:a U=Z (m,.int j))(h:-4611686018427387904<=j/\j<4611686018427387904):dE a U=Z (.fr,rng 0 j.toNat):=by
 simp only[dE,e,Zt,int?];exact Zr h
def uw{l:V8}(h:l.length<=16777216):Lw m l=Z (if fE l then .fr else m,.lst l):=Zr h
def fJ{b:Tg}{a:Sx}{r:V8}{U U1:Env}(f:b t U=Z U1)(e:a U1=Z (.nx d)):forL b a (t :: r) U=forL b a r d:=by
 simp[forL,f,e]
theorem strs_map{α:Type}(f:α->Tx):∀l:List α,strs? (l.map λx=>T.str (f x))=Z (l.map f)
 |[]=>rfl
 |a :: r=>by simp[strs?,strs_map f r]
theorem ints_map{α:Type}(f:α->Int):∀l:List α,jd (l.map λx=>T.int (f x))=Z (l.map f)
 |[]=>rfl
 |a :: r=>by simp[jd,ints_map f r]
theorem oI:∀a:List Tx,dq [] a=a.flatten
 |[]=>rfl
 |[x]=>by simp[dq]
 |x :: y :: r=>by
  have:=oI (y :: r);simp[dq]at this ⊢;exact this
theorem oG:∀a:List Tx,total a=a.flatten.length
 |[]=>rfl
 |x :: r=>by simp[total,oG r]
def wI{m n:Md}(e:strs? l=Z a)(b:a.flatten.length<=16777216):nu (m,.str []) [(n,.lst l)]=Z (.fr,.str a.flatten):=by
 simp only[nu,Zt,e,oI];refine Zr ?_;rw[oG];show _<=16777216;simpa using b
def kP{α:Type}(l:List α):(l.map λx=>[x]).flatten=l:=by
 induction l with
 |nil=>rfl
 |cons a r b=>rw[Zn,ZK,b];rfl
def mZ(n:Nat):rng 0 n=(List.range n).map λ(k:Nat)=>T.int (k:Int):=by
 unfold rng;simp
theorem kJ{α:Type}(f:α->T)(h:∀x,Iq (f x)=B):∀l:List α,fE (l.map f)=B
 |[]=>rfl
 |a :: r=>by simp[h,kJ f h r]
theorem pI{α:Type}(g:α->T)(f:α->Val):∀l:List α,(∀a∈l,∃e,i (g a) U=Z e/\d e=Z (f a))->jP i Y d U (l.map g)=Z (l.map f)
 |[],_=>rfl
 |a :: r,h=>by
  obtain⟨e,m,j⟩:=h a Zx;simp[jP,m,j,pI g f r λb hb=>h b (Zw _ hb)]
theorem ko{α:Type}{c:Ex}(g:α->T)(p:α->Bool)(f:α->Val):∀l:List α,(∀a∈l,∃i x,j (g a) U=Z i/\c i=Z x/\Nb x.2=Z (p a)/\(p a=B->d i=Z (f a))) →
  jP j (Z c) d U (l.map g)=Z ((l.filter p).map f)
 |[],_=>rfl
 |a :: r,h=>by
  obtain⟨i,x,q,o,n,s⟩:=h a Zx;have m:=ko (c:=c) g p f r λb hb=>h b (Zw _ hb);cases e:p a with
  |true=>simp[-Nb,jP,q,o,n,e,s e,m]
  |false=>simp[-Nb,jP,q,o,n,e,m]
theorem nh{α:Type}(f:α->T):∀l:List α,cn (l.map λa=>(Md.fr,f a))=.fr
 |[]=>rfl
 |a :: r=>by simp[nh f r]
def pA{α:Type}(f:α->Val)(l:List α):trees (l.map f)=l.map λa=>(f a).2:=by simp
def fP{α:Type}{k:Nat}{tg:Tg}{it:Ju}{elt:Ex}{U:Env}{m:Md}(g:α->T)(f:α->T)(l:List α)(i:it U=Z (m,l.map g))(e:Su m (l.map g)=B)(d:l.length<=16777216)(h:∀a∈l,∃b,tg (g a) (List.replicate k Y++U)=Z b/\elt b=Z (.fr,f a)):dy k tg it Y elt U=Z (.fr,.lst (l.map f)):=by
 simp only[dy,i,Zt];rw[Zr e,pI g (λa=>(Md.fr,f a)) l h];simp only[Zt,nh,pA];rw[uw (by rw[Zy];exact d)];simp
def qw{α:Type}{k:Nat}{tg:Tg}{it:Ju}{m:Md}(g:α->T)(p:α->Bool)(f:α->T)(l:List α)(j:it U=Z (m,l.map g))(i:Su m (l.map g)=B)(e:l.length<=16777216)(h:∀a∈l,∃d x,tg (g a) (List.replicate k Y++U)=Z d/\c d=Z x/\Nb x.2=Z (p a)/\(p a=B->b d=Z (.fr,f a))):dy k tg it (Z c) b U=Z (.fr,.lst ((l.filter p).map f)):=by
 simp only[dy,j,Zt];rw[Zr i,ko g p (λa=>(Md.fr,f a)) l h];simp only[Zt,nh,pA];rw[uw (by rw[Zy];exact ZC (Xa _ _) e)];simp
def zx{α:Type}{m n:Md}(f:α->T)(l:List α)(i:Int)(d:α)(g:0<=i)(e:i<l.length)(a:Iq (f (l.getD i.toNat d))=B):aD (m,.lst (l.map f)) (n,.int i)=Z (.fr,f (l.getD i.toNat d)):=by
 have b:i.toNat<l.length:=by lia
 simp only[Zq,Zp b,YL]at a ⊢;simp[JP,g,e,b,a]
def zp{l:V6}(h:l.length<=16777216):sy l=Z (up (cn l) (.tup (trees l))):=Zr h
end VS
end
section
namespace L2
open PySem PySem.Spec PyProof.Rows
noncomputable abbrev Key:=Sum Int Str
def l8:Key->On->Bool
 |.inl k,v=>Value.isInt k v
 |.inr x,v=>Value.isStrOf x v
noncomputable def GP(w:XAA):Key->Int
 |.inl k=>hashInt k
 |.inr x=>hashStr w x
theorem bN:∀{k:Key}{v:On},l8 k v=B->(∃i t,k=Sum.inl i/\v=Value.int i t)\/(∃x t,k=Sum.inr x/\v=Value.str x t)
 |.inl i,v,h=>by
  obtain⟨t,e⟩:=Value.isInt_shape (k:=i) (v:=v) h;exact .inl ⟨i,t,rfl,e⟩
 |.inr x,v,h=>by
  obtain⟨t,e⟩:=Vb (x:=x) (v:=v) h;exact .inr ⟨x,t,rfl,e⟩
def wK(i:Int)(t:Tok):l8 (.inl i) (.int i t)=B:=by simp[l8,Value.isInt]
def xF(x:Str)(t:Tok):l8 (.inr x) (.str x t)=B:=by simp[l8,Value.isStrOf]
def DG(a b:Int):decide ((Sum.inl a:Key)=Sum.inl b)=(a==b):=by
 by_cases e:a=b
 ·subst e;simp
 ·have h:¬(Sum.inl a:Key)=Sum.inl b:=λq=>e (Sum.inl.inj q);rw[ZI h];exact(ZE.mpr e).symm
def Ec(a b:Str):decide ((Sum.inr a:Key)=Sum.inr b)=decide (a=b):=by
 by_cases e:a=b
 ·subst e;simp
 ·have h:¬(Sum.inr a:Key)=Sum.inr b:=λq=>e (Sum.inr.inj q);rw[ZI h,ZI e]
def DV(a:Int)(b:Str):decide ((Sum.inl a:Key)=Sum.inr b)=J:=ZI (λq=>nomatch q)
def E6(a:Str)(b:Int):decide ((Sum.inr a:Key)=Sum.inl b)=J:=ZI (λq=>nomatch q)
def aF(d:Re)(w:XAA):PySem.KeyKind d w Key where
 is:=l8
 hash:=GP w
 inj:=λv a b l hb=>by
  rcases bN l with⟨i,t,rfl,rfl⟩ | ⟨x,t,rfl,rfl⟩
  ·rcases bN hb with⟨j,u,rfl,e⟩ | ⟨y,u,rfl,e⟩
   ·injection e with e1 _;rw[e1]
   ·exact nomatch e
  ·rcases bN hb with⟨j,u,rfl,e⟩ | ⟨y,u,rfl,e⟩
   ·exact nomatch e
   ·injection e with e1 _;rw[e1]
 byValue:=λk v h=>by
  rcases bN h with⟨i,t,rfl,rfl⟩ | ⟨x,t,rfl,rfl⟩<;>rfl
 pyHash:=λf h=>by
  rcases bN f with⟨i,t,rfl,rfl⟩ | ⟨x,t,rfl,rfl⟩
  ·exact wpAny_pyHash_int h
  ·exact wpAny_pyHash_str h
 eqBool:=λg f h=>by
  rcases bN g with⟨i,t,rfl,rfl⟩ | ⟨x,t,rfl,rfl⟩
  ·rcases bN f with⟨j,u,rfl,rfl⟩ | ⟨y,u,rfl,rfl⟩
   ·rw[DG]at h;exact wpAny_eqBool_int h
   ·rw[DV]at h;exact SeqAt.EqAt.int_str i t y u _ _ _ _ h
  ·rcases bN f with⟨j,u,rfl,rfl⟩ | ⟨y,u,rfl,rfl⟩
   ·rw[E6]at h;exact SeqAt.EqAt.str_int x t j u _ _ _ _ h
   ·rw[Ec]at h;exact wpAny_eqBool_str h
 «strs» := λk x t v h=>by
  rcases bN h with⟨i,u,rfl,e⟩ | ⟨y,u,rfl,e⟩
  ·exact nomatch e
  ·injection e with e1 _
   subst e1;cases v<;>rfl
def tJ(a:Re)(w:XAA)(i:Int)(t:Tok):(aF a w).is (.inl i) (.int i t)=B:=wK i t
def sA(a:Re)(w:XAA)(x:Str)(t:Tok):(aF a w).is (.inr x) (.str x t)=B:=xF x t
inductive V where
 |non | bl (b:Bool) | int (i:Int) | str (x:Str) | byt (b:Array UInt8) | flt (b:UInt64) | ref (a:KM) | ty (n:String)
 deriving DecidableEq
noncomputable def RelV:V->On->Prop
 |.non,u=>u=Value.none
 |.bl b,u=>u=Value.bool b
 |.int i,u=>∃t,u=Value.int i t
 |.str x,u=>∃t,u=Value.str x t
 |.byt b,u=>∃t,u=Value.bytes b t
 |.flt b,u=>∃t,u=Value.float b t
 |.ref a,u=>u=Value.ref a
 |.ty n,u=>u=Value.type n
abbrev aN:List V->V0->Prop:=Paired RelV
theorem aN.length{xs:List V}(r:aN xs a):xs.length=a.length:=XR r
theorem aN.get:∀{a:List V}{b:V0}{i:Nat}{x:V},aN a b->a[i]?=Z x->∃u,b[i]?=Z u/\RelV x u
 |_,_,_,_,.nil,e=>by simp at e
 |_,_,0,_,.cons r _,e=>by simp at e;subst e;exact⟨_,rfl,r⟩
 |_,_,i+1,x,.cons _ t,e=>by
  obtain⟨u,f,d⟩:=aN.get (i:=i) (x:=x) t (by simpa using e);exact⟨u,by simpa using f,d⟩
theorem aN.set(r:RelV x u):∀{a:List V}{b:V0}(i:Nat),aN a b->aN (a.set i x) (b.set i u)
 |_,_,_,.nil=>.nil
 |_,_,0,.cons _ t=>.cons r t
 |_,_,i+1,.cons q t=>.cons q (aN.set r i t)
theorem aN.append:∀{b a:List V}{d ws:V0},aN b d->aN a ws->aN (b++a) (d++ws)
 |_,_,_,_,.nil,s=>s
 |_,_,_,_,.cons r t,s=>.cons r (aN.append t s)
theorem aN.take:∀{a:List V}{b:V0}(n:Nat),aN a b->aN (a.take n) (b.take n)
 |_,_,0,_=>.nil
 |_,_,_+1,.nil=>.nil
 |_,_,n+1,.cons r t=>.cons r (aN.take n t)
theorem aN.drop:∀{a:List V}{b:V0}(n:Nat),aN a b->aN (a.drop n) (b.drop n)
 |_,_,0,r=>r
 |_,_,_+1,.nil=>.nil
 |_,_,n+1,.cons _ t=>aN.drop n t
def aN.none_of:∀{a:List V}{b:V0}{i:Nat},aN a b->a[i]?=Y->b[i]?=Y:=λ{a b i} r e=>by
 have f:=r.length;have d:a.length<=i:=Ym.mp e;exact Ym.mpr (by lia)
def g9:Option V->V1->Prop
 |some v,some u=>RelV v u
 |none,none=>True
 |_,_=>False
def KV{κ:Type}:List (κ×V)->List (κ×On)->Prop:=Paired λ(p:κ×V) (q:κ×On)=>p.1=q.1/\RelV p.2 q.2
noncomputable def kV:Key->V
 |.inl i=>.int i
 |.inr x=>.str x
inductive HO where
 |lst (xs:List V)
 |tup (xs:List V)
 |dK (bt:List (Key×V)) | dT (bt:List (List Key×V))
 |set (S:Int->Bool) (n:Nat)
 |ins (C dx:KM) (fs:List (Str×V))
 |own (x:KM)
 |xd (fs:List (Str×V))
 |met (f x:KM)
 |rng (lo hi:Int)
 |frz (o:Obj) (u:HO)
 |tbl (q:Str)
 |ext (φ:XAA->UV->Prop)
noncomputable abbrev Hp:=KM->Option HO
noncomputable def upd(H:Hp)(a:KM)(o:HO):Hp:=λb=>if b=a then Z o else H b
def aj:upd H a o a=Z o:=by unfold upd;rw[Zr M]
def ar(h:b≠a):upd H a o b=H b:=by unfold upd;rw[Zm h]
def BO:upd (upd H a o) a u=upd H a u:=by
 funext b;unfold upd;split<;>rfl
def GU{H:Hp}{a b:KM}{o u:HO}(h:H a=Z o)(f:H b=Z u)(d:o≠u):a≠b:=by
 intro e;subst e;rw[h]at f;exact d (Zl f)
def bD{H:Hp}{a b:KM}{o:HO}(h:H a=Z o)(d:H b=Y):a≠b:=by
 intro e;subst e;rw[h]at d;cases d
noncomputable def ND(h:UV)(a:KM):Prop:=∀o,h.get? a=Z o->o.dict=Y
def ND.new(h:UV)(a:Array On):ND (h.push { cls:=.type "tuple",data:=.seq a }) h.objs.size:=λo e=>by
 rw[ZW _ M]at e;cases e;rfl
def ND.of{h:UV}(e:h.get? a=Z o)(d:o.dict=Y):ND h a:=λf b=>by
 rw[e]at b;cases b;exact d
section
variable(P:Re)(w:XAA)
def aY(H:Hp)(h:UV)(a:KM):HO->Prop
 |.lst b=>b.length<=KF/\∃(g:V0)(n:Nat),aN b g/\h.get? a=Z { cls:=.type "list",data:=.seq g.toArray n }
 |.tup b=>b.length<=KF/\∃g:V0,aN b g/\ND h a/\IsTup h a g.toArray
 |.dK i=>i.length<=KF/\(a==sysModules)=J/\∃e,KV i e/\h.DictOf (aF P w) a e
 |.dT i=>i.length<=KF/\(a==sysModules)=J/\∃b:List (List Key×KM×On),
   Paired (λ(p:List Key×V) (q:List Key×KM×On)=>p.1=q.1/\H q.2.1=Z (.tup (p.1.map kV))/\RelV p.2 q.2.2) i b ∧
   ∃o s A,h.get? a=Z o/\o.ExactDict/\o.data=.dict s A/\s.toList=b.map (entryOfKey (tupleKind (aF P w)))/\(b.map (·.1)).Nodup
 |.set S n=>h.SetOf (intKind P w) a S n
 |.ins C j fs=>H j=Z (.own a)/\fs.length<=1000/\j≠a/\h.get? a=Z (PySem.W.instObj C j) ∧
   ∃d,h.Ns1 j d/\(∀f,g9 (fs.lookup f) (d f))/\PySem.Within d (fs.map (·.1))
 |.own _=>∃o,h.get? a=Z o
 |.xd fs=>∃d,h.Ns1 a d/\∀f,g9 (fs.lookup f) (d f)
 |.rng lo z=>∃t u v,h.get? a=Z { cls:=.type "range",data:=.fields #[.int lo t,.int z u,.int 1 v] }
 |.frz o u=>h.get? a=Z o/\aY H h a u
 |.tbl q=>∃l,h.get? a=Z { cls:=.none,data:=.fields l }/\TriplesOk l.toList/\∀pos v,codeAmong pos l.toList=Z v->∃c o y e t,v=.ref c/\H c=Z (.frz o (.own y))/\o.data=.fields e/\e[1]?=Z (.str q t)
 |.met f x=>h.get? a=Z (PySem.W.methodObj (.ref f) (.ref x))
 |.ext φ=>φ w h/\(∃o,h.get? a=Z o)/\∀r m:UV,φ w r->(∀o,r.get? a=Z o->m.get? a=Z o)->φ w m
def Jv(H:Hp)(h:UV):Prop:=∀a o,H a=Z o->aY P w H h a o
end
section
variable{H:Hp}
theorem aY.lt(x:aY P w H h a o):a<h.objs.size:=by
 cases o with
 |lst b=>obtain⟨_,_,_,_,e⟩:=x;exact ZR e
 |tup b=>obtain⟨_,_,_,_,p⟩:=x;exact p.lt
 |dK d=>obtain⟨_,_,_,_,o,_,_,e,_⟩:=x;exact ZR e
 |dT d=>obtain⟨_,_,_,_,o,_,_,e,_⟩:=x;exact ZR e
 |set S n=>obtain⟨o,_,_,_,e,_⟩:=x;exact ZR e
 |ins C i fs=>obtain⟨_,_,_,e,_⟩:=x;exact ZR e
 |own y=>obtain⟨_,e⟩:=x;exact ZR e
 |xd fs=>obtain⟨_,⟨_,_,_,e,_⟩,_⟩:=x;exact ZR e
 |rng lo g=>obtain⟨_,_,_,e⟩:=x;exact ZR e
 |frz ob u=>obtain⟨e,_⟩:=x;exact ZR e
 |tbl q=>obtain⟨_,e,_⟩:=x;exact ZR e
 |met f y=>exact ZR (show h.get? a=Z _ from x)
 |ext φ=>obtain⟨_,⟨_,e⟩,_⟩:=x;exact ZR e
theorem Paired.Nk{α β:Type}{F G:α->β->Prop}:∀{e:List α}{d:List β},Paired F e d->(∀a b,F a b->G a b)->Paired G e d
 |_,_,.nil,_=>.nil
 |_,_,.cons r t,f=>.cons (f _ _ r) (Paired.Nk t f)
def aY.Lq{h':UV}(x:aY P w H h a o)(k:∀b u,(b=a\/H b=Z (.own a))->h.get? b=Z u->h'.get? b=Z u)(N:∀b,H b=Z (.own a)->H' b=Z (.own a))(L:∀b l,H b=Z (.tup l)->H' b=Z (.tup l))(O:∀b o y,H b=Z (.frz o (.own y))->H' b=Z (.frz o (.own y))):aY P w H' h' a o:=by
 induction o with
 |lst l=>obtain⟨z,D,n,r,e⟩:=x;exact⟨z,D,n,r,k _ _ (.inl M) e⟩
 |tup l=>obtain⟨z,D,r,nd,g,e,c⟩:=x;exact⟨z,D,r,ND.of (k _ _ (.inl M) e) (nd _ e),g,k _ _ (.inl M) e,c⟩
 |dK Q=>obtain⟨z,y,m,r,g,i,j,e,c⟩:=x;exact⟨z,y,m,r,g,i,j,k _ _ (.inl M) e,c⟩
 |dT Q =>
  obtain⟨z,y,l,r,g,i,j,e,c⟩:=x;exact⟨z,y,l,Paired.Nk r λp q z=>⟨z.1,L _ _ z.2.1,z.2.2⟩,g,i,j,k _ _ (.inl M) e,c⟩
 |set S n=>obtain⟨g,i,j,t,e,c⟩:=x;exact⟨g,i,j,t,k _ _ (.inl M) e,c⟩
 |ins C U fs =>
  obtain⟨d,z,ne,e,A,⟨s,i,j,e2,c⟩,r⟩:=x;exact⟨N _ d,z,ne,k _ _ (.inl M) e,A,⟨s,i,j,k _ _ (.inr d) e2,c⟩,r⟩
 |own y=>obtain⟨g,e⟩:=x;exact⟨g,k _ _ (.inl M) e⟩
 |xd fs=>obtain⟨A,⟨s,i,j,e,c⟩,r⟩:=x;exact⟨A,⟨s,i,j,k _ _ (.inl M) e,c⟩,r⟩
 |rng lo R=>obtain⟨t,u,v,e⟩:=x;exact⟨t,u,v,k _ _ (.inl M) e⟩
 |frz g u G=>obtain⟨e,q⟩:=x;exact⟨k _ _ (.inl M) e,G q⟩
 |tbl q =>
  obtain⟨F,e,e1,e2⟩:=x;refine⟨F,k a _ (.inl M) e,e1,λpos v r=>?_⟩;obtain⟨c,o,y,m,t,r1,r2,E⟩:=e2 pos v r;exact⟨c,o,y,m,t,r1,O _ _ _ r2,E⟩
 |met f y =>
  have e:h.get? a=Z (PySem.W.methodObj (.ref f) (.ref y)):=x;show h'.get? a=Z (PySem.W.methodObj (.ref f) (.ref y));exact k a _ (.inl M) e
 |ext φ=>obtain⟨p,⟨o,e⟩,st⟩:=x;exact⟨st _ _ p λo q=>k _ _ (.inl M) q,⟨o,k _ _ (.inl M) e⟩,st⟩
theorem Jv.lt(x:Jv P w H h)(e:H a=Z o):a<h.objs.size:=(x a o e).lt
def Jv.fresh(x:Jv P w H h)(e:h.objs.size<=a):H a=Y:=by
 cases q:H a with
 |none=>rfl
 |some u=>exact absurd (ZG (x.lt q) e) (YI _)
def Jv.kept{h':UV}(x:Jv P w H h)(k:∀b u,h.get? b=Z u->h'.get? b=Z u):Jv P w H h':=λa o e =>
 (x a o e).Lq (λb u _ q=>k b u q) (λ_ q=>q) (λ_ _ q=>q) λ_ _ _ q=>q
def Jv.laid{h':UV}(x:Jv P w H h)(k:∀b u,h.get? b=Z u->h'.get? b=Z u)(g:h.objs.size<=a)(d:aY P w (upd H a o) h' a o):Jv P w (upd H a o) h':=λb u e=>by
 have f:=x.fresh g;by_cases hb:b=a
 ·subst hb;rw[aj]at e;cases e;exact d
 ·rw[ar hb]at e;exact(x b u e).Lq (λc v _ q=>k c v q) (λc q=>by rw[ar (bD q f)];exact q) (λc i q=>by rw[ar (bD q f)];exact q) λc _ _ q=>by rw[ar (bD q f)];exact q
end
noncomputable def Rd(H:Hp)(a:KM)(u:HO):Prop:=H a=Z u\/∃o,H a=Z (.frz o u)
def Rd.ok{H:Hp}(r:Rd H a u)(x:Jv P w H h):aY P w H h a u:=by
 rcases r with r | ⟨o,r⟩
 ·exact x a u r
 ·obtain⟨_,q⟩:=x a _ r;exact q
def Ip:Option HO->Prop
 |some (.lst _)=>True
 |some (.dK _)=>True
 |some (.dT _)=>True
 |some (.set _ _)=>True
 |some (.ins _ _ _)=>True
 |some (.ext _)=>True
 |_=>False
section
variable{H:Hp}
def Jv.write{h':UV}(m:Jv P w H h)(a:Ip (H x))(he:e=x\/H e=Z (.own x))(k:∀b u,b≠e->h.get? b=Z u->h'.get? b=Z u)(p:∃u,h'.get? e=Z u)(i:aY P w (upd H x o') h' x o'):Jv P w (upd H x o') h':=λb u q=>by
 have l:∀c y,H c=Z (.own y)->c≠x:=λc y r z=>by subst z;rw[r]at a;exact a
 have o:∀c d,H c=Z (.tup d)->c≠x:=λc d r z=>by subst z;rw[r]at a;exact a
 by_cases hb:b=x
 ·subst hb;rw[aj]at q;cases q;exact i
 ·rw[ar hb]at q;by_cases g:b=e
  ·have j:H b=Z (.own x):=by
    rcases he with z | z
    ·exact absurd (g.trans z) hb
    ·rw[g];exact z
   rw[q]at j;cases j;obtain⟨v,n⟩:=p;exact⟨v,by rw[g];exact n⟩
  ·refine(m b u q).Lq (λc v f r=>k c v ?_ r) (λc r=>by rw[ar (l c b r)];exact r) (λc d r=>by rw[ar (o c d r)];exact r) λc _ _ r=>by rw[ar λz=>by subst z;rw[r]at a;exact a];exact r
   rcases f with rfl | f
   ·exact g
   ·rintro rfl;rcases he with z | z
    ·exact l c b f z
    ·rw[f]at z;cases z;exact hb M
end
structure Un(fs ex:Wa)(H H':Hp)(h h':UV):Prop where
 keep:∀b o,h.get? b=some o->H b=none->b∉fs->b∉ex->h'.get? b=some o
 slot:∀b o,h.get? b=some o->H b=none->b∈fs->b∉ex->∃sl,h'.get? b=some { o with slots:=sl }
 free:∀b o,h.get? b=some o->H b=none->b∉ex->H' b=none
 there:∀b o,h.get? b=some o->b∉ex->∃o',h'.get? b=some o'
 K9:∀b xs,H b=some (.tup xs)->H' b=some (.tup xs)
 KQ:∀b o u,H b=some (.frz o u)->H' b=some (.frz o u)
 KC:∀b q,H b=some (.tbl q)->H' b=some (.tbl q)
section
variable{H:Hp}
def Un.any(u:Un fs ex H H1 h h1)(q:h.get? b=Z d)(n:H b=Y)(f:b∉ex):∃g,h1.get? b=Z { d with slots:=g }:=by
 by_cases hb:b∈fs
 ·exact u.slot b d q n hb f
 ·exact⟨d.slots,u.keep b d q n hb f⟩
def Un.kept{h h':UV}(k:∀b u,h.get? b=Z u->h'.get? b=Z u):Un fs ex H H h h' :=
 ⟨λb d q _ _ _=>k b d q,λb d q _ _ _=>⟨d.slots,k b d q⟩,λ_ _ _ n _=>n,λb d q _=>⟨d,k b d q⟩,λ_ _ q=>q,λ_ _ _ q=>q,λ_ _ q=>q⟩
def Un.refl:Un fs ex H H h h:=Un.kept λ_ _ q=>q
def Un.laid{h h':UV}(k:∀b u,h.get? b=Z u->h'.get? b=Z u)(g:h.objs.size<=a)(d:H a=Y):Un fs ex H (upd H a o) h h' where
 keep:=λb u q _ _ _=>k b u q
 slot:=λb u q _ _ _=>⟨u.slots,k b u q⟩
 free:=λb u q n _=>by rw[ar (Zc (ZG (ZR q) g))];exact n
 there:=λb u q _=>⟨u,k b u q⟩
 K9:=λb f q=>by rw[ar (bD q d)];exact q
 KQ:=λb u f q=>by rw[ar (bD q d)];exact q
 KC:=λb n q=>by rw[ar (bD q d)];exact q
def Un.write{h h':UV}(d:Ip (H x))(he:e=x\/H e=Z (.own x))(k:∀b u,b≠e->h.get? b=Z u->h'.get? b=Z u)(l:∃u,h'.get? e=Z u):Un fs ex H (upd H x o) h h':=by
 have g:∀b,H b=Y->b≠x:=λb n z=>by subst z;rw[n]at d;exact d
 have hb:∀b,H b=Y->b≠e:=λb n z=>by
  subst z;rcases he with r | r
  ·exact g b n r
  ·rw[n]at r;cases r
 have f:∀b u,H b=Z u->¬Ip (Z u)->b≠x:=λb u q nm z=>by subst z;rw[q]at d;exact nm d
 refine⟨λb u q n _ _=>k b u (hb b n) q,λb u q n _ _=>⟨u.slots,k b u (hb b n) q⟩,λb u q n _=>by rw[ar (g b n)];exact n,λb u q _=>?_,
  λb j q=>by rw[ar (f b _ q λz=>z)];exact q,λb u j q=>by rw[ar (f b _ q λz=>z)];exact q,λb n q=>by rw[ar (f b _ q λz=>z)];exact q⟩
 by_cases i:b=e
 ·subst i;exact l
 ·exact⟨u,k b u i q⟩
end
noncomputable def gone(v:On):Obj:=⟨v,Y,.freed,#[]⟩
def xE(H:Hp)(a:KM)(o:Obj):Obj:=match H a with
 |some (.tbl q)=>gone (.str q 0)
 |some _=>gone .none
 |none=>match o.data with
  |.freed=>gone .none
  |_=>o
def o5(h:UV)(H:Hp):Heap:=⟨h.objs.mapIdx λa o=>xE H a o,h.life⟩
def Tb(b:UV)(a:KM)(q:Str):Prop:=b.objs[a]?=Z (gone (.str q 0))
def xI(h:UV)(H:Hp):(o5 h H).objs.size=h.objs.size:=Array.size_mapIdx
def qD(h:UV)(H:Hp)(b:KM):(o5 h H).objs[b]?=(h.objs[b]?).map (xE H b):=Array.getElem?_mapIdx
def mN{h:UV}:h.get? b=Z o↔h.objs[b]?=Z o/\o.data ≠ .freed:=by
 unfold Heap.get?;split
 ·rename_i e;exact⟨λz=>(nomatch z),λ⟨z,n⟩=>by rw[e]at z;cases z;exact absurd M n⟩
 ·rename_i n;exact⟨λz=>⟨z,λd=>by
   obtain⟨c,u,a,f⟩:=o;cases (show a=Data.freed from d);exact n _ _ _ z⟩,λz=>z.1⟩
def Am{h:UV}(e:h.get? b=Z o)(n:H b=Y):(o5 h H).get? b=Z o:=by
 obtain⟨e1,e2⟩:=mN.mp e;refine mN.mpr ⟨?_,e2⟩;rw[qD,e1,YU];unfold xE;rw[n];cases h:o.data with
 |freed=>exact absurd h e2
 |_=>rfl
def CM(e:(o5 h H).get? b=Z o):h.get? b=Z o/\H b=Y:=by
 obtain⟨e1,e2⟩:=mN.mp e;rw[qD]at e1;obtain⟨u,g,a⟩:=Zv.mp e1;unfold xE at a;cases q:H b with
 |some y =>
  rw[q]at a;cases y<;>(cases a;exact absurd M e2)
 |none =>
  rw[q]at a;refine⟨mN.mpr ?_,rfl⟩;cases d:u.data with
  |freed=>rw[d]at a;cases a;exact absurd M e2
  |_ =>
   have f:u=o:=by rw[d]at a;exact a
   subst f;exact⟨g,e2⟩
def Ci:Tb (o5 h H) b q↔H b=Z (.tbl q)/\b<h.objs.size:=by
 unfold Tb;rw[qD];constructor
 ·intro e;obtain⟨u,i,a⟩:=Zv.mp e;refine⟨?_,(Array.getElem?_eq_some_iff.mp i).1⟩;unfold xE at a;cases y:H b with
  |some f =>
   rw[y]at a;cases f with
   |tbl j=>cases a;rfl
   |_=>cases a
  |none =>
   rw[y]at a;cases d:u.data with
   |freed=>rw[d]at a;cases a
   |_ =>
    have g:u=gone (.str q 0):=by rw[d]at a;exact a
    rw[g]at d;cases d
 ·rintro⟨e,l⟩;rw[Array.getElem?_eq_getElem l,YU];unfold xE;rw[e]
noncomputable def BA(g h:UV)(L:KM):Yp:=(List.range h.objs.size).filterMap λa=>if a=L\/(g.get? a).isSome=B then Y else (h.get? a).map λo=>(a,o)
def rest(g h:UV)(L d:KM):Yp:=(BA g h L).filter λp=>decide (p.1≠d)
structure Mod(K:X6)(mg:Wc)(base:UV):Prop where
 P4:K.In base
 glob:base.Ns mainGlobals mg
 blt:∃mb,base.Ns builtinsNs mb/\∀x:Str,x ≠ "__name__" → mb x=bootBuiltins x
 nolimit:base.NoLimit
structure Cx where
 prog:Re
 w:XAA
 K:X6
 mg:Wc
 base:UV
 A:SB
 N:List Str
 s₀:IR
 H₀:Hp
 env:Env
 outer:List Env
 stack:List Env
 ex:Wa
 fn:Str->Bool
 calm:Bool
 pn:Yp
 xe:Yy
abbrev K1(e:Expr)(l:List Expr)(X:Cx):Prop:=Pv (e :: l) X.env=(J,eval e X.env) :: Pv l X.env
abbrev K2(p:Pos)(l:List Expr)(X:Cx):Prop:=(backTo p (Pv l X.env)).any (·.1)=J
abbrev K3(x:Str):Prop:=(x==("__debug__" : Str))=J
abbrev K4(x:Str):Prop:=(x==("__classdict__" : Str))=J
noncomputable def JE(l:List Env):Wa:=l.filterMap (·.frame)
abbrev Cx.fs(X:Cx):Wa:=JE X.outer
noncomputable def Kp(a:Scope)(x:Str):Prop:=a.names.lookup x=Z .local\/a.names.lookup x=Z .cell\/a.names.lookup x=Z .free
noncomputable def Loc(a:Scope)(x:Str):Prop:=a.names.lookup x=Z .local\/a.names.lookup x=Z .cell
noncomputable def Look(a:Env)(h:UV)(m:Wc)(x:Str)(u:On):Prop :=
 (a.kindOf x=Z .local/\m x=Z u)\/((a.kindOf x=Z .cell\/a.kindOf x=Z .free)/\∃c,a.cells.lookup x=Z c/\h.IsCell c (Z u))
structure Cx.Ok(X:Cx):Prop where
 mod:Mod X.K X.mg X.base
 kind:X.env.scope.kind=.function
 glob:X.env.globals=mainGlobals
 blt:X.env.builtins=builtinsNs
 above:X.s₀.heap.objs.size<=X.env.locals
 inj:∀x y c,X.env.cells.lookup x=some c->X.env.cells.lookup y=some c->x=y
 has:∀x,(X.env.kindOf x=some .cell\/X.env.kindOf x=some .free)->∃c,X.env.cells.lookup x=some c
 QV:∀x c,X.fn x=true->X.env.cells.lookup x=some c->X.s₀.heap.objs.size<=c
 hd:X.calm=true->X.A.handled=none
 frames:X.A.frames=some X.stack
 Rr:X.stack=X.outer\/(X.stack=X.env :: X.outer/\X.env.frame=some X.env.locals)
 exf:∀b∈X.ex,b≠X.env.locals/\∀x c,X.env.cells.lookup x=some c->c≠b
 tb:∀b q,Tb X.base b q->X.H₀ b=some (.tbl q)
 bs:∀b o,X.base.get? b=some o->X.s₀.heap.get? b=some o/\X.H₀ b=none
 NA:X.base.objs.size<=X.s₀.heap.objs.size
 MF:∀b o,X.base.get? b=some o->b∉X.ex
 Nz:∀b∈X.ex,b∉X.fs
 J4:X.s₀.heap.FunFrames X.base X.outer
 OC:∀b∈X.fs,X.H₀ b=none
structure Inv(X:Cx)(pins:Yp)(O:List (Option V))(H:Hp)(s:IR):Prop where
 ok:X.Ok
 os:s.os=X.s₀.os
 bare:AllBare s.gens
 base:Un X.fs X.ex X.H₀ H X.s₀.heap s.heap
 loc:∃m,s.heap.Ns X.env.locals m/\∀(i:Nat)(x:Str)(v:V),X.N[i]?=some x->O[i]?=some (some v)->Kp X.env.scope x->∃u,RelV v u/\Look X.env s.heap m x u
 cell:∀x c,X.env.cells.lookup x=some c->∃v,s.heap.IsCell c v
 free:H X.env.locals=none
 Jy:∀x c,X.env.cells.lookup x=some c->H c=none
 pin:∀p∈X.pn++pins,s.heap.get? p.1=some p.2/\H p.1=none/\p.1≠X.env.locals/\p.1∉X.fs/\∀v,p.2.data ≠ .cell v
 xb:Jv X.prog X.w H s.heap
 len:O.length=X.N.length
section
variable{H:Hp}
def Cx.Ok.SH{X:Cx}(a:X.Ok)(e:X.base.get? b=Z o):b∉X.fs:=λhb=>by
 have:=(a.J4.mem hb).1;rw[e]at this;cases this
theorem Inv.bs(I:Inv X pins O H s):∀b o,X.base.get? b=Z o->s.heap.get? b=Z o/\H b=Y:=λb o e =>
 ⟨I.base.keep b o (I.ok.bs b o e).1 (I.ok.bs b o e).2 (I.ok.SH e) (I.ok.MF b o e),I.base.free b o (I.ok.bs b o e).1 (I.ok.bs b o e).2 (I.ok.MF b o e)⟩
theorem Inv.tb(I:Inv X pins O H s):∀b q,Tb X.base b q->H b=Z (.tbl q):=λb q e=>I.base.KC b q (I.ok.tb b q e)
def Inv.bk(I:Inv X pins O H s):∀b o,X.base.get? b=Z o->s.heap.get? b=Z o:=λb o e=>(I.bs b o e).1
theorem Inv.mod(I:Inv X pins O H s):Mod X.K X.mg X.base:=I.ok.mod
def Inv.J1(I:Inv X pins O H s):X.K.In s.heap:=I.ok.mod.P4.keeps I.bk
theorem Inv.lt(I:Inv X pins O H s):X.env.locals<s.heap.objs.size:=let ⟨_,a,_⟩:=I.loc;a.lt
def Inv.sz(I:Inv X pins O H s):X.s₀.heap.objs.size<=s.heap.objs.size:=ZC I.ok.above (ZF I.lt)
def Inv.SG(I:Inv X pins O H s)(h:s.heap.objs.size<=a):a∉X.fs:=λhb=>by
 obtain⟨_,o,b,_⟩:=I.ok.J4.mem hb;exact absurd (ZG (ZR b) (ZC I.sz h)) (YI _)
def Inv.OI(I:Inv X pins O H s):∀x c,X.env.cells.lookup x=Z c->c≠X.env.locals:=λx c e z=>by
 obtain⟨v,o,a,hd⟩:=I.cell x c e;obtain⟨m,⟨f,g,h,d,b,_⟩,_⟩:=I.loc;rw[z,d]at a;cases a;rw[b]at hd;cases hd
theorem Inv.J4(I:Inv X pins O H s):s.heap.FunFrames X.base X.outer:=by
 have all:∀(l:List Env),(∀b∈JE l,b∈X.fs)->X.s₀.heap.FunFrames X.base l->s.heap.FunFrames X.base l:=by
  intro l
  induction l with
  |nil=>intro _ _;trivial
  |cons env r g =>
   intro f m;obtain⟨n,⟨L,o,a,j,i,hd⟩,h⟩:=m;have d:L∈X.fs:=f L (by unfold JE;rw[Vt,a];exact Zx);obtain⟨p,e⟩:=I.base.slot L o i (I.ok.OC L d) d λz=>I.ok.Nz L z d;exact⟨n,⟨L,_,a,j,e,hd⟩,g (λb hb=>f b (by unfold JE;rw[Vt,a];exact Zw _ hb)) h⟩
 exact all X.outer (λ_ hb=>hb) I.ok.J4
theorem Inv.stack(I:Inv X pins O H s):s.heap.FunFrames X.base X.stack:=by
 rcases I.ok.Rr with e | ⟨e,b⟩
 ·rw[e];exact I.J4
 ·rw[e];obtain⟨m,a,_⟩:=I.loc;refine .cons (by rw[I.ok.kind];decide) b a ?_ I.J4;exact Heap.get?_none_of_le (ZC I.ok.NA I.ok.above)
def Inv.KH(I:Inv X pins O H s):∀b∈JE X.stack,b∈X.env.locals :: X.fs:=λb hb=>by
 rcases I.ok.Rr with e | ⟨e,a⟩
 ·rw[e]at hb;exact Zw _ hb
 ·rw[e]at hb;unfold JE at hb;rw[Vt,a]at hb;exact hb
def Inv.LQ(I:Inv X pins O H s):∀b∈JE X.stack,H b=Y:=λb hb=>by
 rcases Zk.mp (I.KH b hb) with e | hb
 ·rw[e];exact I.free
 ·obtain⟨_,o,a,_⟩:=I.ok.J4.mem hb;exact I.base.free b o a (I.ok.OC b hb) λz=>I.ok.Nz b z hb
def Inv.step{h':UV}{g':Array GenState}{t':Nat}{d':Drawn}{ch:Wa}(I:Inv X pins O H s)(D:∀b∈ch,(b∈X.ex\/X.s₀.heap.objs.size<=b)/\b≠X.env.locals/\(∀x c,X.env.cells.lookup x=Z c->c≠b)/\∀p∈X.pn++pins,p.1≠b)(g:∀b o,b≠X.env.locals->b∉X.fs->b∉ch->s.heap.get? b=Z o->H b=Y->h'.get? b=Z o)(j:∀b o,b≠X.env.locals->b∈X.fs->b∉ch->s.heap.get? b=Z o->H b=Y->∃G,h'.get? b=Z { o with slots:=G })(f:∀b o,b∉ch->s.heap.get? b=some o->H b=none->H' b=none)(t:∀b o,b∉ch->s.heap.get? b=Z o->∃A,h'.get? b=Z A)(K9:∀b h,H b=Z (.tup h)->H' b=Z (.tup h))(KQ:∀b o u,H b=Z (.frz o u)->H' b=Z (.frz o u))(KC:∀b q,H b=Z (.tbl q)->H' b=Z (.tbl q))(S:∀m,s.heap.Ns X.env.locals m->h'.Ns X.env.locals m)(R:Jv X.prog X.w H' h')(hg:AllBare g') :
  Inv X pins O H' { s with heap:=h',gens:=g',drawn:=d',toks:=t' }:=by
 have Q:∀b o,X.s₀.heap.get? b=Z o->b≠X.env.locals:=λb o e=>Zc (ZG (ZR e) I.ok.above);have E:∀b o,X.s₀.heap.get? b=Z o->b∉X.ex->b∉ch:=λb o e a hb=>by
  rcases (D b hb).1 with z | z
  ·exact a z
  ·exact absurd (ZG (ZR e) z) (YI _)
 have cellK:∀x c,X.env.cells.lookup x=Z c->∀v,s.heap.IsCell c v->h'.IsCell c v:=λx c e v ⟨o,y,hd⟩=>by
  have C:c∉ch:=λz=>(D c z).2.2.1 x c e M;by_cases P:c∈X.fs
  ·obtain⟨G,q⟩:=j c o (I.OI x c e) P C y (I.Jy x c e);exact⟨_,q,hd⟩
  ·exact⟨o,g c o (I.OI x c e) P C y (I.Jy x c e),hd⟩
 refine⟨I.ok,I.os,hg,⟨λb o e n hb a=>?_,λb o e n hb a=>?_,λb o e n a=>?_,λb o e a=>?_,λb h e=>K9 b h (I.base.K9 b h e),λb o h e=>KQ b o h (I.base.KQ b o h e),λb q e=>KC b q (I.base.KC b q e)⟩,?_,λx c e=>?_,?_,λx c e=>?_,λp N=>?_,R,I.len⟩
 ·exact g b o (Q b o e) hb (E b o e a) (I.base.keep b o e n hb a) (I.base.free b o e n a)
 ·obtain⟨G,e1⟩:=I.base.slot b o e n hb a;obtain⟨F,e2⟩:=j b _ (Q b o e) hb (E b o e a) e1 (I.base.free b o e n a);exact⟨F,e2⟩
 ·obtain⟨A,e1⟩:=I.base.there b o e a;exact f b A (E b o e a) e1 (I.base.free b o e n a)
 ·obtain⟨A,e1⟩:=I.base.there b o e a;exact t b A (E b o e a) e1
 ·obtain⟨m,U,hl⟩:=I.loc;refine⟨m,S m U,λi x v e1 e2 e3=>?_⟩;obtain⟨u,r,l⟩:=hl i x v e1 e2 e3;refine⟨u,r,?_⟩;rcases l with l | ⟨k,c,e,z⟩
  ·exact .inl l
  ·exact .inr ⟨k,c,e,cellK x c e _ z⟩
 ·obtain⟨v,z⟩:=I.cell x c e;exact⟨v,cellK x c e v z⟩
 ·obtain⟨m,⟨o,_,_,y,_⟩,_⟩:=I.loc;exact f _ o (λz=>(D _ z).2.1 M) y I.free
 ·obtain⟨v,o,y,hd⟩:=I.cell x c e;exact f c o (λz=>(D c z).2.2.1 x c e M) y (I.Jy x c e)
 ·obtain⟨e,n,ne,L,d⟩:=I.pin p N;have C:p.1∉ch:=λz=>(D p.1 z).2.2.2 p N M;exact⟨g p.1 p.2 ne L C e n,f p.1 p.2 C e n,ne,L,d⟩
def Inv.un{t':Nat}(I:Inv X pins O H s)(u:Un X.fs [] H H' s.heap h')(f:Jv X.prog X.w H' h'):Inv X pins O H' { s with heap:=h',toks:=t' }:=by
 obtain⟨m,⟨o,v,x,a,r⟩,_⟩:=id I.loc;obtain⟨p,i⟩:=u.any a I.free (by simp);exact I.step (g':=s.gens) (d':=s.drawn) (ch:=[]) (λ_ z=>nomatch z) (λb o _ hb _ e n=>u.keep b o e n hb (by simp)) (λb o _ hb _ e n=>u.slot b o e n hb (by simp)) (λb o _ e n=>u.free b o e n (by simp)) (λb o _ e=>u.there b o e (by simp)) u.K9 u.KQ u.KC (λt h=>by
  obtain⟨q,l,j,d,g⟩:=h;rw[a]at d;cases d;exact⟨_,l,j,i,g⟩) f I.bare
def Inv.call{g':Array GenState}{t':Nat}{d':Drawn}{ch:Wa}(I:Inv X pins O H s)(u:Un (JE X.stack) ch H H' s.heap h')(i:Jv X.prog X.w H' h')(q:AllBare g')(g:∀b∈ch,(b∈X.ex\/X.s₀.heap.objs.size<=b)/\b≠X.env.locals/\(∀x c,X.env.cells.lookup x=Z c->c≠b)/\∀p∈X.pn++pins,p.1≠b) :
  Inv X pins O H' { s with heap:=h',gens:=g',drawn:=d',toks:=t' }:=by
 obtain⟨m,⟨o,D,E,f,r⟩,_⟩:=id I.loc;obtain⟨y,d⟩:=u.any f I.free λz=>(g _ z).2.1 M;exact I.step (ch:=ch) g (λb o d hb a e n=>u.keep b o e n (λz=>(Zk.mp (I.KH b z)).elim d hb) a) (λb o _ _ a e n=>u.any e n a) (λb o a e n=>u.free b o e n a) (λb o a e=>u.there b o e a) u.K9 u.KQ u.KC (λC l=>by
  obtain⟨A,v,t,h,j⟩:=l;rw[f]at h;cases h;exact⟨_,v,t,d,j⟩) i q
def Inv.turned{h':UV}{t':Nat}{it:KM}(I:Inv X pins O H s)(k:∀b o,b≠it->s.heap.get? b=Z o->h'.get? b=Z o)(h:H it=Y)(d:it≠X.env.locals)(t:it∈X.ex\/X.s₀.heap.objs.size<=it)(l:∀x c,X.env.cells.lookup x=Z c->c≠it)(j:∀p∈X.pn++pins,p.1≠it):Inv X pins O H { s with heap:=h',toks:=t' }:=by
 have f:∀b u,H b=Z u->b≠it:=λb u e z=>by rw[z,h]at e;cases e
 refine I.step (g':=s.gens) (d':=s.drawn) (ch:=[it]) (λb hb=>?_) (λb o _ _ a e _=>k b o (λz=>a (by simp[z])) e) (λb o _ _ a e _=>⟨o.slots,k b o (λz=>a (by simp[z])) e⟩) (λ_ _ _ _ n=>n)
  (λb o a e=>⟨o,k b o (λz=>a (by simp[z])) e⟩) (λ_ _ e=>e) (λ_ _ _ e=>e) (λ_ _ e=>e) (λm i=>?_) (λb u e=>?_) I.bare
 ·have e:b=it:=by simpa using hb
  subst e;exact⟨t,d,l,j⟩
 ·obtain⟨o,w,y,g,r⟩:=i;exact⟨o,w,y,k _ o (Ye d) g,r⟩
 ·refine(I.xb b u e).Lq (λc v a q=>k c v ?_ q) (λ_ q=>q) (λ_ _ q=>q) λ_ _ _ q=>q;rcases a with z | z
  ·rw[z];exact f b u e
  ·exact f c _ z
def Inv.tok(I:Inv X pins O H s)(t:Nat):Inv X pins O H { s with toks:=t }:=I.un (h':=s.heap) (t':=t) Un.refl I.xb
theorem Inv.kept{h':UV}{t':Nat}(I:Inv X pins O H s)(k:∀b u,s.heap.get? b=Z u->h'.get? b=Z u):Inv X pins O H { s with heap:=h',toks:=t' }:=I.un (Un.kept k) (I.xb.kept k)
theorem Inv.laid{h':UV}{a:KM}{o:HO}{t':Nat}(I:Inv X pins O H s)(k:∀b u,s.heap.get? b=Z u->h'.get? b=Z u)(e:s.heap.objs.size<=a)(d:aY X.prog X.w (upd H a o) h' a o) :
  Inv X pins O (upd H a o) { s with heap:=h',toks:=t' }:=I.un (Un.laid k e (I.xb.fresh e)) (I.xb.laid k e d)
theorem Inv.write{h':UV}{x e:KM}(I:Inv X pins O H s)(d:Ip (H x))(he:e=x\/H e=Z (.own x))(k:∀b u,b≠e->s.heap.get? b=Z u->h'.get? b=Z u)(f:∃u,h'.get? e=Z u)(a:aY X.prog X.w (upd H x o) h' x o):Inv X pins O (upd H x o) { s with heap:=h',toks:=g }:=I.un (Un.write d he k f) (I.xb.write d he k f a)
def Inv.LV(I:Inv X pins O H s)(h:∀p∈a,s.heap.get? p.1=Z p.2/\H p.1=Y/\p.1≠X.env.locals/\p.1∉X.fs/\∀v,p.2.data ≠ .cell v):Inv X a O H s :=
 ⟨I.ok,I.os,I.bare,I.base,I.loc,I.cell,I.free,I.Jy,λp b=>(Zd.mp b).elim (λz=>I.pin p (Yn _ z)) (h p),I.xb,I.len⟩
def t9{N:List Str}(d:N.Nodup){i j:Nat}{x:Str}(a:N[i]?=Z x)(b:N[j]?=Z x):i=j:=by
 obtain⟨f,e1⟩:=Zb.mp a;obtain⟨e,e2⟩:=Zb.mp b;exact(VT d).mp (e1.trans e2.symm)
def pD{v:V}(I:Inv X pins O H s)(hN:X.N.Nodup)(D:X.N[i]?=Z x)(l:Loc X.env.scope x)(r:RelV v u)(h:∀R,Inv X pins (O.set i (Z v)) H R->(∃a,Heap.SameBut a s.heap R.heap/\(a=X.env.locals\/X.env.cells.lookup x=Z a))->Q () R)(hf:X.fn x=B\/X.env.scope.names.lookup x=Z .local:=by first | exact .inl rfl | exact .inr rfl | assumption):PP Mq0 A (storeName X.env x u) Q E s:=by
 obtain⟨m,hn,hl⟩:=id I.loc;have TH:(X.env.scope.kind == .class||(X.env.scope.kind == .module&&X.env.locals != X.env.globals))=J:=by rw[I.ok.kind];rfl
 have VN:i<O.length:=by rw[I.len];exact(Zb.mp D).1
 have OI:=I.OI;have tracked:∀{a:KM}{h':UV},(∃o,s.heap.get? a=Z o/\H a=Y)->Heap.SameBut a s.heap h'->Jv X.prog X.w H h':=λ{a h'} ha f b ob e=>by
  obtain⟨_,_,NU⟩:=ha;refine(I.xb b ob e).Lq (λc F g q=>(f.2 c ?_).trans q) (λ_ q=>q) (λ_ _ q=>q) λ_ _ _ q=>q;rintro rfl;rcases g with rfl | g
  ·rw[NU]at e;cases e
  ·rw[NU]at g;cases g
 rcases l with t | t
 ·refine wpAny_storeName_local t hn (λh' hn' f=>?_) TH;obtain⟨oL,_,_,LA,_⟩:=id hn;refine h _ ⟨I.ok,I.os,I.bare,⟨λb o e n hb l=>?_,λb o e n hb l=>?_,I.base.free,λb o e l=>?_,I.base.K9,I.base.KQ,I.base.KC⟩,⟨_,hn',λj y L e1 e2 e3=>?_⟩,λy c e=>?_,I.free,I.Jy,λp hp=>?_,tracked ⟨oL,LA,I.free⟩ f,by simpa using I.len⟩ ⟨_,f,.inl rfl⟩
  ·exact(f.2 b (Zc (ZG (ZR e) I.ok.above))).trans (I.base.keep b o e n hb l)
  ·obtain⟨P,e1⟩:=I.base.slot b o e n hb l;exact⟨P,(f.2 b (Zc (ZG (ZR e) I.ok.above))).trans e1⟩
  ·obtain⟨U,e1⟩:=I.base.there b o e l;exact⟨U,(f.2 b (Zc (ZG (ZR e) I.ok.above))).trans e1⟩
  ·by_cases C:j=i
   ·subst C;rw[D]at e1;cases e1;rw[Xg VN]at e2;cases e2;exact⟨u,r,.inl ⟨t,by simp⟩⟩
   ·rw[Y4 (Ye C)]at e2;obtain⟨M,S,q⟩:=hl j y L e1 e2 e3;refine⟨M,S,?_⟩;rcases q with⟨k,e⟩ | ⟨k,c,e,z⟩
    ·refine .inl ⟨k,?_⟩;have:y≠x:=λe=>C (t9 hN e1 (e ▸ D));simp[this,e]
    ·exact .inr ⟨k,c,e,z.sameBut f (OI y c e)⟩
  ·obtain⟨F,z⟩:=I.cell y c e;exact⟨F,z.sameBut f (OI y c e)⟩
  ·obtain⟨e,n,ne,nf,d⟩:=I.pin p hp;exact⟨(f.2 p.1 ne).trans e,n,ne,nf,d⟩
 ·have TB:X.fn x=B:=by
   rcases hf with z | z
   ·exact z
   ·rw[z]at t;cases t
  obtain⟨c,g⟩:=I.ok.has x (.inl t);obtain⟨F,z⟩:=I.cell x c g;refine wpAny_storeName_cell I.ok.kind t g z (λh' KP f=>?_);obtain⟨oc,VD,Tj⟩:=id z;refine h { s with heap:=h' } ⟨I.ok,I.os,I.bare,⟨λb o e n hb l=>?_,λb o e n hb l=>?_,I.base.free,λb o e l=>?_,I.base.K9,I.base.KQ,I.base.KC⟩,⟨m,hn.sameBut f (Ye (OI x c g)),λj y L e1 e2 e3=>?_⟩,λy G e=>?_,I.free,I.Jy,λp hp=>?_,tracked ⟨oc,VD,I.Jy x c g⟩ f,by simpa using I.len⟩ ⟨c,f,.inr g⟩
  ·exact(f.2 b (Zc (ZG (ZR e) (I.ok.QV x c TB g)))).trans (I.base.keep b o e n hb l)
  ·obtain⟨P,e1⟩:=I.base.slot b o e n hb l;exact⟨P,(f.2 b (Zc (ZG (ZR e) (I.ok.QV x c TB g)))).trans e1⟩
  ·obtain⟨U,e1⟩:=I.base.there b o e l;exact⟨U,(f.2 b (Zc (ZG (ZR e) (I.ok.QV x c TB g)))).trans e1⟩
  ·by_cases C:j=i
   ·subst C;rw[D]at e1;cases e1;rw[Xg VN]at e2;cases e2;exact⟨u,r,.inr ⟨.inl t,c,g,KP⟩⟩
   ·rw[Y4 (Ye C)]at e2;obtain⟨M,S,q⟩:=hl j y L e1 e2 e3;refine⟨M,S,?_⟩;rcases q with q | ⟨k,G,e,z'⟩
    ·exact .inl q
    ·refine .inr ⟨k,G,e,z'.sameBut f ?_⟩;rintro rfl;exact C (t9 hN e1 (I.ok.inj _ _ _ e g ▸ D))
  ·by_cases RM:G=c
   ·subst RM;exact⟨_,KP⟩
   ·obtain⟨w2,z2⟩:=I.cell y G e;exact⟨w2,z2.sameBut f RM⟩
  ·obtain⟨e,n,ne,nf,d⟩:=I.pin p hp;refine⟨(f.2 p.1 ?_).trans e,n,ne,nf,d⟩;intro q;rw[q,VD]at e;have q':oc=p.2:=Zl e;exact d F (by rw[← q'];exact Tj)
def rQ(I:Inv X pins O H s)(g:X.N.Nodup)(e:X.N[i]?=Z x)(d:Loc X.env.scope x)(r:RelV v u)(h:∀a,Inv X pins (O.set i (Z v)) H a->Q () a)(f:X.fn x=B\/X.env.scope.names.lookup x=Z .local:=by first | exact .inl rfl | exact .inr rfl | assumption):PP b A (storeName X.env x u) Q E s :=
 pD I g e d r (λa j _=>h a j) f
def Inv.QU{a:IR}{ch:Wa}(I:Inv X pins O H s)(g:a.os=s.os)(u:Un (JE X.stack) ch H H' s.heap a.heap)(d:Jv X.prog X.w H' a.heap)(h:AllBare a.gens)(i:∀b∈ch,(b∈X.ex\/X.s₀.heap.objs.size<=b)/\b≠X.env.locals/\(∀x c,X.env.cells.lookup x=Z c->c≠b)/\∀p∈X.pn++pins,p.1≠b):Inv X pins O H' a:=by
 obtain⟨h',g',d',t',f⟩:=a;have e:f=s.os:=g;subst e;exact I.call (g':=g') (t':=t') (d':=d') u d h i
end
abbrev XK:=On->Option KM->Hp->Prop
noncomputable abbrev St:=List (Option V)
abbrev VK:=V->Hp->Prop
abbrev TE:=St->Hp->VK->Prop
abbrev TT:=St->Hp->(Bool->Hp->Prop)->Prop
abbrev TA:=St->Hp->(List V->Hp->Prop)->Prop
structure Ends where
 nx:St->Hp->Prop
 rt:VK
 bk:St->Hp->Prop:=λ_ _=>False
 ct:St->Hp->Prop:=λ_ _=>False
abbrev TS:=Ends->St->Hp->Prop
def EP(X:Cx)(a:Yp)(O:St)(Q:VK)(u:On)(d:IR):Prop:=∃v b,Inv X a O b d/\RelV v u/\Q v b
noncomputable def TP(X:Cx)(a:Yp)(O:St)(Q:Bool->Hp->Prop)(b:Bool)(e:IR):Prop:=∃d,Inv X a O d e/\Q b d
def AP(X:Cx)(a:Yp)(O:St)(Q:List V->Hp->Prop)(e:V0)(f:IR):Prop:=∃b d,Inv X a O d f/\aN b e/\Q b d
def SP(X:Cx)(a:Yp)(D:Ends)(f:Flow)(e:IR):Prop :=
 match f with
 |.next=>∃d b,Inv X a d b e/\D.nx d b
 |.brk=>∃d b,Inv X a d b e/\D.bk d b
 |.cont=>∃d b,Inv X a d b e/\D.ct d b
 |.ret u=>∃v d b,Inv X a d b e/\RelV v u/\D.rt v b
def PE(X:Cx)(e:Expr)(t:TE):Prop :=
 ∀(a:Yp)(s:IR)(O:St)(H:Hp)(Q:VK),Inv X a O H s->t O H Q->PP (KB X.prog X.w) X.A (eval e X.env) (EP X a O Q) X.xe s
def PT(X:Cx)(e:Expr)(t:TT):Prop :=
 ∀(a:Yp)(s:IR)(O:St)(H:Hp)(Q:Bool->Hp->Prop),Inv X a O H s->t O H Q->PP (KB X.prog X.w) X.A (isTrue e X.env (eval e X.env)) (TP X a O Q) X.xe s
def PW(X:Cx)(e:Expr)(t:TT):Prop :=
 ∀(whole:Sem On)(a:Yp)(s:IR)(O:St)(H:Hp)(Q:Bool->Hp->Prop),Inv X a O H s->t O H Q->PP (KB X.prog X.w) X.A (isTrue e X.env whole) (TP X a O Q) X.xe s
def PW.pt(h:PW X e t):PT X e t:=h _
def PA(X:Cx)(b:List Expr)(t:TA):Prop :=
 ∀(pos:Pos)(a:Yp)(s:IR)(O:St)(H:Hp)(Q:List V->Hp->Prop),Inv X a O H s->t O H Q->PP (KB X.prog X.w) X.A (spliced (backTo pos (Pv b X.env))) (AP X a O Q) X.xe s
def PS(X:Cx)(b:Stmt)(t:TS):Prop :=
 ∀(a:Yp)(s:IR)(O:St)(H:Hp)(D:Ends),Inv X a O H s->t D O H->PP (KB X.prog X.w) X.A (exec b X.env) (SP X a D) X.xe s
def Kf(X:Cx)(b:List Stmt)(t:TS):Prop :=
 ∀(a:Yp)(s:IR)(O:St)(H:Hp)(D:Ends),Inv X a O H s->t D O H->PP (KB X.prog X.w) X.A (execs b X.env) (SP X a D) X.xe s
def thn{α:Type}{t:Sem α}{Q b:α->IR->Prop}{M:Model}(h:PP M A t Q E s)(d:∀a s,Q a s->b a s):PP M A t b E s:=YR h d λ_ _ x=>x
section
noncomputable def Ih(i:Nat):TE:=λO H Q=>∃v,O[i]?=Z (Z v)/\Q v H
noncomputable def tC(v:V):TE:=λ_ H Q=>Q v H
def fC{X:Cx}(w:X.N[i]?=Z x)(o:Kp X.env.scope x)(f:{`q0,K3 x})(g:{`q0,K4 x}):PE X (.Name x d) (Ih i):=by
 intro b s O H Q I h;obtain⟨v,e,h⟩:=h;obtain⟨m,p,t⟩:=I.loc;obtain⟨u,r,l⟩:=t i x v w e o;have fin:EP X b O Q u s:=⟨v,H,I,r,h⟩
 rcases l with⟨a,q⟩ | ⟨a,c,j,n⟩
 ·exact wpAny_Name (wpAny_loadName_local I.ok.kind a p q fin) f
 ·rcases a with a | a
  ·exact wpAny_Name (wpAny_loadName_cell I.ok.kind a j n fin) f
  ·exact wpAny_Name (wpAny_loadName_free I.ok.kind a j n fin g) f
def pV{i j pos}:PE X (.Constant (.int i) j pos) (tC (.int i)):=λ_ _ _ H _ I h=>wpAny_Constant_int ⟨.int i,H,I.tok _,⟨_,rfl⟩,h⟩
def GE{b j pos}:PE X (.Constant (.bool b) j pos) (tC (.bl b)):=λ_ _ _ H _ I h=>Constant_bool ⟨.bl b,H,I,rfl,h⟩
def FJ{j pos}:PE X (.Constant .none j pos) (tC .non):=λ_ _ _ H _ I h=>Constant_none ⟨.non,H,I,rfl,h⟩
def yF{x j pos}:PE X (.Constant (.str x) j pos) (tC (.str x)):=λ_ _ _ H _ I h=>Calls.Constant_str ⟨.str x,H,I.tok _,⟨_,rfl⟩,h⟩
noncomputable def Gl(X:Cx)(x:Str):Prop:=X.env.kindOf x=Z .globalImplicit
def mU(I:Inv X a O H s)(e:Gl X x)(d:X.mg x=Z u)(h:Q u s)(f:{`q0,K3 x}):PP (KB X.prog X.w) X.A (eval (.Name x b) X.env) Q E s :=
 Calls.Name_function_global I.ok.kind e (Calls.loadGlobal_global (by rw[I.ok.glob];exact I.mod.glob.keeps I.bk) d h) f
def iH{a:Yp}(I:Inv X a O H s)(g:Gl X x)(f:X.mg x=Y)(d:bootBuiltins x=Z u)(h:Q u s)(e:{`q0,x ≠ "__name__"})(i:{`q0,K3 x}):PP (KB X.prog X.w) X.A (eval (.Name x b) X.env) Q E s:=by
 obtain⟨m,l,j⟩:=I.mod.blt;exact Calls.Name_function_global I.ok.kind g (Calls.loadGlobal_builtin (by rw[I.ok.glob];exact I.mod.glob.keeps I.bk) f (by rw[I.ok.blt];exact l.keeps I.bk) ((j x e).trans d) h) i
def Ba(d:Gl X x)(b:X.mg x=Z u)(r:RelV v u)(e:{`q0,K3 x}):PE X (.Name x a) (tC v) :=
 λ_ _ _ H _ I h=>mU I d b ⟨v,H,I,r,h⟩ e
def BQ{v:V}(f:Gl X x)(e:X.mg x=Y)(b:bootBuiltins x=Z u)(r:RelV v u)(d:{`q0,x ≠ "__name__"})(g:{`q0,K3 x}):PE X (.Name x a) (tC v) :=
 λ_ _ _ H _ I h=>iH I f e b ⟨v,H,I,r,h⟩ d g
def PC(X:Cx)(g:CmpOp)(a b:Expr)(t:TE):Prop :=
 ∀(d:Yp)(s:IR)(O:St)(H:Hp)(Q:VK),Inv X d O H s->t O H Q →
  PP (KB X.prog X.w) X.A (eval a X.env) (λv f=>PP (KB X.prog X.w) X.A (eval b X.env) (λu e=>PP (KB X.prog X.w) X.A (UF g v u) (EP X d O Q) X.xe e) X.xe f) X.xe s
def yO(b:Expr)(h:d ≠ .In)(e:d ≠ .NotIn):behindInMarks d b=J:=by
 have e1:(d==CmpOp.In)=J:=by cases d<;>first | rfl | exact absurd M h
 have e2:(d==CmpOp.NotIn)=J:=by cases d<;>first | rfl | exact absurd M e
 cases b<;>simp[behindInMarks,e1,e2]
noncomputable def HR(ta:TE):TE:=λO H Q=>ta O H λx d=>Q (.bl (decide (x=.non))) d
noncomputable def FT(ta:TE):TE:=λO H Q=>ta O H λx d=>Q (.bl (!decide (x=.non))) d
def RelV.Lb(r:RelV x v):(v==Value.none)=decide (x=.non):=by
 cases x with
 |non=>cases r;rfl
 |bl _=>cases r;rfl
 |int _=>obtain⟨t,rfl⟩:=r;rfl
 |str _=>obtain⟨t,rfl⟩:=r;rfl
 |byt _=>obtain⟨t,rfl⟩:=r;rfl
 |flt _=>obtain⟨t,rfl⟩:=r;rfl
 |ref _=>cases r;rfl
 |ty _=>cases r;rfl
def D5{j pos'}(f:PE X a ta):PC X .Is a (.Constant .none j pos') (HR ta):=by
 intro d s O H Q I h;refine thn (f d s O H _ I h) λv s1 ⟨x,i,g,r1,e⟩=>?_;exact Constant_none (is_none_gen ⟨.bl _,i,g,by rw[r1.Lb];rfl,e⟩)
def Bh{j pos'}(f:PE X a ta):PC X .IsNot a (.Constant .none j pos') (FT ta):=by
 intro d s O H Q I h;refine thn (f d s O H _ I h) λv s1 ⟨x,i,g,r1,e⟩=>?_;exact Constant_none (isnot_none_gen ⟨.bl _,i,g,by rw[r1.Lb];rfl,e⟩)
noncomputable def tB(t:TE):TT:=λO H Q=>t O H λx d=>∃c,x=.bl c/\Q c d
def zJ(h:PC X f a b t)(g:behindInMarks f b=J:=by first | exact yO _ (by decide) (by decide) | rfl):PT X (.Compare a [f] [b] pos) (tB t):=by
 intro e s O H Q I hw;refine wpAny_isTrue_Compare1 (thn (h e s O H _ I hw) λv s1 g=>thn g λu o j=>thn j λc n ⟨x,m,l,r1,i⟩=>?_) g;obtain⟨d,rfl,q⟩:=i;cases r1;exact Xv ⟨m,l,q⟩
noncomputable def Ii(t u:TT):TT:=λO H Q=>t O H λc d=>if c=B then u O d Q else Q J d
noncomputable def tOr(t u:TT):TT:=λO H Q=>t O H λc d=>if c=B then Q B d else u O d Q
noncomputable def Ig(t:TT):TT:=λO H Q=>t O H λc d=>Q (!c) d
def qL(f:PT X a tA):PW X (.BoolOp .And [a] pos) tA:=by
 intro g d s O H Q I h;refine isTrue_and (thn (f d s O H Q I h) λc s1 e=>?_);cases c with
 |true=>exact isTrue_and_nil e
 |false=>exact e
def uv(f:PT X a tA):PW X (.BoolOp .Or [a] pos) tA:=by
 intro g d s O H Q I h;refine isTrue_or (thn (f d s O H Q I h) λc s1 e=>?_);cases c with
 |false=>exact isTrue_or_nil e
 |true=>exact e
def DO{X:Cx}{a:Expr}{pos:Pos}{tA Ro:TT}{rest:List Expr}(l:PT X a tA)(j:PW X (.BoolOp .And (b :: rest) pos) Ro):PW X (.BoolOp .And (a :: b :: rest) pos) (Ii tA Ro):=by
 intro i d s O H Q I h;refine isTrue_and (thn (l d s O H _ I h) λc s1 ⟨g,f,e⟩=>?_);cases c with
 |true=>exact j i d s1 O g Q f e
 |false=>exact⟨g,f,e⟩
def Gu{X:Cx}{a:Expr}{pos:Pos}{tA Ro:TT}{rest:List Expr}(l:PT X a tA)(j:PW X (.BoolOp .Or (b :: rest) pos) Ro):PW X (.BoolOp .Or (a :: b :: rest) pos) (tOr tA Ro):=by
 intro i d s O H Q I h;refine isTrue_or (thn (l d s O H _ I h) λc s1 ⟨g,f,e⟩=>?_);cases c with
 |true=>exact⟨g,f,e⟩
 |false=>exact j i d s1 O g Q f e
def DT(e:PT X a tA):PT X (.UnaryOp .Not a pos) (Ig tA):=by
 intro d s O H Q I h;exact isTrue_not (e d s O H (λc f=>Q (!c) f) I h)
noncomputable def G1(ta e:TE):TE:=λO H Q=>ta O H λx d=>∃c,x=.bl c/\if c=B then e O d Q else Q (.bl J) d
noncomputable def GQ(ta:TE):TE:=λO H Q=>ta O H λx d=>∃c,x=.bl c/\Q (.bl (!c)) d
def FI{op}(h:PE X a t):PE X (.BoolOp op [a] pos) t:=λd s O H Q I hw=>BoolOp_one (h d s O H Q I hw)
def Eh{X:Cx}{a:Expr}{ta tb:TE}{pos:Pos}{rest:List Expr}(j:PE X a ta)(i:PE X (.BoolOp .And (b :: rest) pos) tb):PE X (.BoolOp .And (a :: b :: rest) pos) (G1 ta tb):=by
 intro d s O H Q I h;refine BoolOp_and (thn (j d s O H _ I h) λv s1 ⟨x,g,f,r1,e⟩=>?_);obtain⟨c,rfl,e⟩:=e;cases r1;refine Xv ?_;cases c with
 |true=>exact i d s1 O g Q f e
 |false=>exact⟨.bl J,g,f,rfl,e⟩
def FC(f:PE X a ta):PE X (.UnaryOp .Not a pos) (GQ ta):=by
 intro d s O H Q I h;refine UnaryOp_ (thn (f d s O H _ I h) λv s1 ⟨x,i,g,r1,e⟩=>?_);obtain⟨c,rfl,e⟩:=e;cases r1;exact not_of (Xv ⟨.bl (!c),i,g,rfl,e⟩)
end
def Iw(K:X6)(H:Hp)(a:KM)(d:List V):Prop :=
 Rd H a (.lst d) ∨
  ∃(o:Obj)(b:Array On)(n:Nat),K.lookup a=Z o/\o.cls=.type "list" ∧ o.dict=Y/\o.data=.seq b n/\b.size<=KF/\aN d b.toList
def Jz(K:X6)(H:Hp)(a:KM)(d:List V):Prop :=
 Rd H a (.tup d) ∨
  ∃(o:Obj)(b:Array On)(n:Nat),K.lookup a=Z o/\o.cls=.type "tuple" ∧ o.data=.seq b n/\b.size<=KF/\aN d b.toList
noncomputable def HG:On->Option V
 |.none=>Z .non
 |.bool b=>Z (.bl b)
 |.int i _=>Z (.int i)
 |.str x _=>Z (.str x)
 |.bytes b _=>Z (.byt b)
 |.float b _=>Z (.flt b)
 |.ref a=>Z (.ref a)
 |.type n=>Z (.ty n)
 |_=>Y
def RelV.abs(r:RelV x u):HG u=Z x:=by
 cases x with
 |non=>cases r;rfl
 |bl _=>cases r;rfl
 |int _=>obtain⟨t,rfl⟩:=r;rfl
 |str _=>obtain⟨t,rfl⟩:=r;rfl
 |byt _=>obtain⟨t,rfl⟩:=r;rfl
 |flt _=>obtain⟨t,rfl⟩:=r;rfl
 |ref _=>cases r;rfl
 |ty _=>cases r;rfl
def RelV.inj(r:RelV x u)(q:RelV y u):x=y:=Zl (r.abs.symm.trans q.abs)
theorem aN.inj:∀{b a:List V}{d:V0},aN b d->aN a d->b=a
 |_,_,_,.nil,.nil=>rfl
 |_,_,_,.cons r t,.cons f e=>by rw[r.inj f,aN.inj t e]
section
variable{H:Hp}
def Iw.of{K:X6}(h:H a=Z (.lst xs)):Iw K H a xs:=.inl (.inl h)
def Jz.of{K:X6}(h:H a=Z (.tup xs)):Jz K H a xs:=.inl (.inl h)
def Inv.list(I:Inv X pins O H s)(h:Iw X.K H a xs):∃b:V0,aN xs b/\PlainL s.heap a b.toArray/\xs.length<=sizeLine:=by
 rcases h with h | ⟨o,b,n,f,g,hd,d,i,r⟩
 ·obtain⟨z,b,n,r,e⟩:=h.ok I.xb;exact⟨b,r,⟨_,n,e,rfl,rfl,rfl⟩,z⟩
 ·refine⟨b.toList,r,⟨o,n,I.J1 a o f,g,hd,by simpa using d⟩,?_⟩;have e:=r.length;simp only[Yl]at e;lia
def Inv.tuple(I:Inv X pins O H s)(h:Jz X.K H a xs):∃b:V0,aN xs b/\IsTup s.heap a b.toArray/\xs.length<=sizeLine:=by
 rcases h with h | ⟨o,b,n,f,g,d,i,r⟩
 ·obtain⟨z,b,r,_,p⟩:=h.ok I.xb;exact⟨b,r,p,z⟩
 ·refine⟨b.toList,r,⟨o,I.J1 a o f,g,n,by simpa using d⟩,?_⟩;have e:=r.length;simp only[Yl]at e;lia
def Inv.Ld(I:Inv X pins O H s)(h:Iw X.K H a xs)(l:Iw X.K H a ys):xs=ys:=by
 obtain⟨j,r,⟨o,n,e,_,_,d⟩,_⟩:=I.list h;obtain⟨b,i,⟨m,p,f,_,_,g⟩,_⟩:=I.list l;rw[e]at f;cases f;rw[d]at g;injection g with d1 _
 have:j=b:=by simpa using congrArg Array.toList d1
 subst this;exact r.inj i
def Inv.L7(I:Inv X pins O H s)(h:Jz X.K H a xs)(l:Jz X.K H a ys):xs=ys:=by
 obtain⟨j,r,⟨o,e,_,n,d⟩,_⟩:=I.tuple h;obtain⟨b,i,⟨m,f,_,p,g⟩,_⟩:=I.tuple l;rw[e]at f;cases f;rw[d]at g;injection g with d1 _
 have:j=b:=by simpa using congrArg Array.toList d1
 subst this;exact r.inj i
end
noncomputable abbrev Cx.Kk(X:Cx)(E:Yy):Cx:={ X with xe:=E }
abbrev Cx.Lv(X:Cx):Cx:=X.Kk λ_ _=>False
theorem Cx.Ok.Kk{X:Cx}(a:X.Ok)(E:Yy):(X.Kk E).Ok :=
 ⟨a.mod,a.kind,a.glob,a.blt,a.above,a.inj,a.has,a.QV,a.hd,a.frames,a.Rr,a.exf,a.tb,a.bs,a.NA,a.MF,a.Nz,a.J4,a.OC⟩
def Cx.Ok.Jk{X:Cx}(a:(X.Kk E).Ok):X.Ok :=
 ⟨a.mod,a.kind,a.glob,a.blt,a.above,a.inj,a.has,a.QV,a.hd,a.frames,a.Rr,a.exf,a.tb,a.bs,a.NA,a.MF,a.Nz,a.J4,a.OC⟩
section
variable{H:Hp}
theorem Inv.Kk(I:Inv X pins O H s)(E:Yy):Inv (X.Kk E) pins O H s:=⟨I.ok.Kk E,I.os,I.bare,I.base,I.loc,I.cell,I.free,I.Jy,I.pin,I.xb,I.len⟩
theorem Inv.Jk{X:Cx}(I:Inv (X.Kk E) pins O H s):Inv X pins O H s:=⟨I.ok.Jk,I.os,I.bare,I.base,I.loc,I.cell,I.free,I.Jy,I.pin,I.xb,I.len⟩
theorem SP.Jk{X:Cx}(h:SP (X.Kk E) pins D f d):SP X pins D f d:=by
 cases f with
 |next=>obtain⟨a,b,I,q⟩:=h;exact⟨a,b,I.Jk,q⟩
 |brk=>obtain⟨a,b,I,q⟩:=h;exact⟨a,b,I.Jk,q⟩
 |cont=>obtain⟨a,b,I,q⟩:=h;exact⟨a,b,I.Jk,q⟩
 |ret u=>obtain⟨v,a,b,I,r,q⟩:=h;exact⟨v,a,b,I.Jk,r,q⟩
theorem Kf.Lv{X:Cx}(h:Kf X.Lv a t):Kf X a t:=λpins s O H D I hw =>
 YR (h pins s O H D (I.Kk _) hw) (λ_ _ q=>q.Jk) λ_ _ z=>False.elim z
end
section
variable{st:Stmt}
noncomputable def FZ:TS:=λD O H=>D.nx O H
noncomputable def Ik(t u:TS):TS:=λD O H=>t { D with nx:=u D } O H
def BZ:Kf X [] FZ:=λ_ _ O H _ I h=>Vs ⟨O,H,I,h⟩
def t8{X:Cx}{rest:List Stmt}{t u:TS}(d:PS X st t)(b:Kf X rest u):Kf X (st :: rest) (Ik t u):=by
 intro a s O H D I h;refine wpAny_execs_cons (thn (d a s O H { D with nx:=u D } I h) λf s1 q=>?_);cases f with
 |next =>
  obtain⟨g,j,i,q⟩:=q;exact b a s1 g j D i q
 |ret v=>exact q
 |brk=>exact q
 |cont=>exact q
def aq(b:PS X st t):Kf X [st] t:=by
 intro a s O H D I h;refine wpAny_execs_cons (thn (b a s O H D I h) λf s1 q=>?_);cases f with
 |next=>exact Vs q
 |ret v=>exact q
 |brk=>exact q
 |cont=>exact q
def Inv.quiet(I:Inv X a O H s):interactive X.env=J:=by simp[interactive,I.ok.kind]
noncomputable def Hw(a:TE):TS:=λD O H=>a O H λ_ b=>D.nx O b
def jD{pos:Pos}(he:PE X e te)(d:{`q1,swapsWith e Y pos.line X.env=pure J}):PS X (.Expr e pos) (Hw te):=by
 intro a s O H D I h;exact wpAny_Expr_any (thn (he a s O H _ I h) λv s1 ⟨x,g,f,r1,b⟩=>⟨O,g,f,b⟩) I.quiet d
noncomputable def HJ(a:TE):TS:=λD O H=>a O H D.rt
def qh(he:PE X e te):PS X (.Return (Z e) pos) (HJ te):=by
 intro a s O H D I h;exact wpAny_Return_some (thn (he a s O H _ I h) λv s1 ⟨x,f,d,r1,b⟩=>⟨x,O,f,d,r1,b⟩)
noncomputable def HX(c:TT)(t u:TS):TS:=λD O H=>c O H λb a=>if b=B then t D O a else u D O a
def G2(m:PT X c g)(o:Kf X a t)(n:Kf X b u):PS X (.If c a b pos) (HX g t u):=by
 intro f s O H D I h;refine wpAny_If (thn (m f s O H _ I h) λd s1 ⟨l,j,i⟩=>?_);cases d with
 |true=>exact o f s1 O l D j i
 |false=>exact n f s1 O l D j i
end
abbrev TG:=V->St->Hp->(St->Hp->Prop)->Prop
abbrev NB:=List V->St->Hp->(St->Hp->Prop)->Prop
def PG(X:Cx)(a:Expr)(t:TG):Prop :=
 ∀(b:Yp)(s:IR)(O:St)(H:Hp)(v:V)(u:On)(Q:St->Hp->Prop),Inv X b O H s->RelV v u->t v O H Q →
  PP (KB X.prog X.w) X.A (assign a X.env u) (λ_ f=>∃d e,Inv X b d e f/\Q d e) X.xe s
def M4(X:Cx)(g:List Expr)(t:NB):Prop :=
 ∀(a:Yp)(s:IR)(O:St)(H:Hp)(b:List V)(d:V0)(Q:St->Hp->Prop),Inv X a O H s->aN b d->t b O H Q →
  PP (KB X.prog X.w) X.A (assignInOrder ((assignEach g X.env).map (·.2)) d) (λ_ h=>∃e f,Inv X a e f h/\Q e f) X.xe s
abbrev zb:=V->V->V->Hp->(Hp->Prop)->Prop
def AW(X:Cx)(t:zb):Prop :=
 ∀(a:Yp)(s:IR)(O:St)(H:Hp)(o i v:V)(b iv u:On)(Q:Hp->Prop),Inv X a O H s->RelV o b->RelV i iv->RelV v u->t o i v H Q →
  PP (KB X.prog X.w) X.A (setItem b iv u) (λ_ e=>∃d,Inv X a O d e/\Q d) X.xe s
section
noncomputable def C0(i:Nat):TG:=λv O H Q=>Q (O.set i (Z v)) H
def Co{X:Cx}(f:X.N.Nodup)(d:X.N[i]?=Z x)(b:Loc X.env.scope x)(e:X.fn x=B\/X.env.scope.names.lookup x=Z .local:=by first | exact .inl M | exact .inr M | assumption):PG X (.Name x pos) (C0 i):=by
 intro a s O H v u Q I r h;exact wpAny_assign_Name (rQ I f d b r (λj g=>⟨_,H,g,h⟩) e)
noncomputable def Ib:NB:=λa O H Q=>a=[]/\Q O H
noncomputable def GH(t:TG)(u:NB):NB:=λa O H Q=>∃v r,a=v :: r/\t v O H λb d=>u r b d Q
def B5:M4 X [] Ib:=by
 intro a s O H b d Q I r h;obtain⟨e,h⟩:=h;subst e;cases r;exact assignInOrder_nil ⟨O,H,I,h⟩
def Af(j:PG X e t)(i:M4 X b u)(g:{`q1,(assignEach (e :: b) X.env).map (·.2)=assign e X.env :: (assignEach b X.env).map (·.2)}):M4 X (e :: b) (GH t u):=by
 intro a s O H o q Q I r h;obtain⟨v,p,e1,h⟩:=h;subst e1;cases r with
 |cons r d =>
  rw[g];refine assignInOrder_cons (thn (j a s O H _ _ _ I r h) λ_ s1 ⟨l,n,m,f⟩=>?_);exact i a s1 l n _ _ Q m d f
def ur(K:X6)(n:Nat)(t:NB):TG:=λv O H Q=>∃a b,v=.ref a/\Jz K H a b/\b.length=n/\t b O H Q
def Ej{X:Cx}{n:Nat}(w:X.calm=B)(h:M4 X f t)(p:{`q1,(assignEach f X.env).length=n})(y:{`q1,(assignEach f X.env).findIdx? (·.1)=Y}):PG X (.Tuple f k pos) (ur X.K n t):=by
 intro d s O H v u Q I r hw;obtain⟨a,i,e1,m,q,hw⟩:=hw;subst e1;cases r;obtain⟨A,g,l,C⟩:=I.tuple m;refine assign_Tuple_tuple (I.ok.hd w) l (by simp[p,← q,g.length]) y λx j=>?_;have z:Inv X d O H { s with heap:=x }:=I.kept (t':=s.toks) λb o e=>j b o (Zc (ZR e)) e;exact h d _ O H i _ Q z (by simpa using g) hw
noncomputable def FX(a b:TE)(t:zb):TG:=λv O H Q=>a O H λo f=>b O f λi e=>t o i v e λd=>Q O d
def p8(n:PE X o d)(p:PE X i e)(m:AW X t)(q:{`q2,∀v,assign (.Subscript o i pos) X.env v=(do
   let b ← holding [v] (eval o X.env)
   let iv ← holding [v,b] (eval i X.env)
   standAt pos
   holding [v,b,iv] (setItem b iv v)
   release [v,b,iv] [])}):PG X (.Subscript o i pos) (FX d e t):=by
 intro a s O H v u Q I r h;rw[q];refine Zu (YE (thn (n a s O H _ I h) λb s1 ⟨x,E,A,r1,l⟩=>?_));refine Zu (YE (thn (p a s1 O E _ A l) λiv f ⟨y,D,z,r2,j⟩=>?_));refine Zu (wpAny_standAt (Zu (YE (thn (m a f O D x y v b iv u _ z r1 r2 r j) λ_ F ⟨C,w,g⟩=>?_))));exact wpAny_release ⟨O,C,w,g⟩
noncomputable def GR(a:TE)(g:TG):TS:=λD O H=>a O H λx b=>g x O b D.nx
def qk{pos:Pos}(he:PE X e d)(j:PG X b g)(i:{`q1,swapsWithSole [b] e pos.line X.env=pure J})(hw:{`q1,swappedStores [b] e X.env=pure Y})(l:{`q1,(assignEach [b] X.env).map (·.2)=[assign b X.env]}):PS X (.Assign [b] e pos) (GR d g):=by
 intro a s O H D I h;refine wpAny_Assign_stores (thn (he a s O H _ I h) λv s1 ⟨x,n,m,r1,f⟩=>?_) i hw;rw[l];exact thn (j a s1 O n x v _ m r1 f) λ_ o q=>q
def ui{X:Cx}{pos:Pos}(n:X.N.Nodup)(l:X.N[i]?=Z x)(g:Loc X.env.scope x)(he:PE X e d)(j:{`q1,swapsWith e (Z (.Name x a)) pos.line X.env=pure J})(m:X.fn x=B\/X.env.scope.names.lookup x=Z .local:=by first | exact .inl M | exact .inr M | assumption) :
  PS X (.Assign [.Name x a] e pos) (GR d (C0 i)):=by
 intro b s O H D I h;refine wpAny_Assign_Name (thn (he b s O H _ I h) λv s1 ⟨y,q,p,r1,f⟩=>?_) j;exact rQ p n l g r1 (λr o=>⟨_,q,o,f⟩) m
end
section
def EZ(c:TT)(g:TS):TS:=λD O H=>∃W:Nat->St->Hp->Prop,(∃m,W m O H)/\∀m O H,W m O H →
 c O H λb e=>if b=B then ∃N:St->Hp->Prop,(∀d f,N d f->∃a,a<m/\W a d f)/\g { D with nx:=N,ct:=N,bk:=D.nx } O e else D.nx O e
def zB{X:Cx}(x:PassesOwn (KB X.prog X.w) X.A X.env X.xe)(S:PT X c t)(U:Kf X d u):PS X (.While c d [] pos) (EZ t u):=by
 intro a s O H D I h;obtain⟨W,⟨R,L⟩,turn⟩:=h;refine wpAny_While (codeAny_whileLoop (λn Q=>∃y F,Inv X a y F Q/\W n y F) ?_ R ⟨O,H,I,L⟩);rintro n s1 ⟨l,E,I1,G⟩;refine XU x (thn (S a s1 l E _ I1 (turn n l E G)) λb P ⟨C,z,j⟩=>?_);cases b with
 |true =>
  obtain⟨N,hN,j⟩:=j;rw[Zr M];refine XU x (thn (U a P l C _ z j) λf s3 i=>?_);cases f with
  |next =>
   obtain⟨e,g,r,o⟩:=i;obtain⟨p,q,m⟩:=hN e g o;exact⟨p,q,e,g,r,m⟩
  |cont =>
   obtain⟨e,g,r,o⟩:=i;obtain⟨p,q,m⟩:=hN e g o;exact⟨p,q,e,g,r,m⟩
  |brk=>exact i
  |ret v=>exact i
 |false =>
  rw[Zm Zf];exact Vs ⟨l,C,z,j⟩
end
structure It where
 go:Nat->Hp->Prop
 Ri:Nat->Hp->V->Hp->Prop
 stop:Nat->Hp->Prop
def lB(X:Cx)(a:Yp)(H:Hp)(b:KM):Prop :=
 H b=Y/\b≠X.env.locals/\b∉X.fs/\(b∈X.ex\/X.s₀.heap.objs.size<=b)/\(∀x c,X.env.cells.lookup x=Z c->c≠b)/\∀p∈X.pn++a,p.1≠b
def Inv.Lj(I:Inv X a O H s)(d:s.heap.objs.size<=b)(h:f b=Y):lB X a f b:=by
 refine⟨h,WK (ZG I.lt d),I.SG d,.inr (ZC I.sz d),λx c e z=>?_,λp g z=>?_⟩
 ·obtain⟨v,q⟩:=I.cell x c e;exact absurd (ZG q.lt (by rw[z];exact d)) (YI _)
 ·exact absurd (ZG (ZR (I.pin p g).1) (by rw[z];exact d)) (YI _)
structure Turn(P:Re)(w:XAA)(K:X6)(tg:Expr)(J:It)(fp:Wa)(it:KM)(tn:Nat->UV->Prop):Prop where
 mem:it∈fp
 obj:∀i h,tn i h->∀b∈fp,∃o,h.get? b=some o/\∀v,o.data ≠ .cell v
 keep:∀i h h',tn i h->(∀b∈fp,∀o,h.get? b=some o->h'.get? b=some o)->tn i h'
 item:∀(X:Cx),X.prog=P->X.w=w->X.K=K->X.calm=true->∀(i:Nat)(pins:Yp)(s:IR)(O:St)(H:Hp)(E:Yy),Inv X pins O H s->(∀b∈fp,lB X pins H b)->tn i s.heap->J.go i H →
  PP (KB P w) X.A (pyNext (.ref it)) (λr s1=>∃u,r=some u ∧
   PP (KB P w) X.A (letOwnedTupleGo tg (.ref it) u) (λ_ s2=>∃x H',Inv X pins O H' s2/\RelV x u/\J.Ri i H x H'/\tn (i+1) s2.heap/\∀b∈fp,H' b=none) E s1) E s
 done:∀(X:Cx),X.prog=P->X.w=w->X.K=K->X.calm=true->∀(i:Nat)(pins:Yp)(s:IR)(O:St)(H:Hp)(E:Yy),Inv X pins O H s->(∀b∈fp,lB X pins H b)->tn i s.heap->J.stop i H →
  PP (KB P w) X.A (pyNext (.ref it)) (λr s1=>r=none/\Inv X pins O H s1) E s
 self:∀(A:SB)(i:Nat)(s:IR)(Q:Yy)(E:Yy),tn i s.heap->Q (.ref it) s->PP (KB P w) A (pyIter (.ref it)) Q E s
abbrev TI:=St->Hp->(It->Hp->Prop)->Prop
def PIE(X:Cx)(a:Yp)(O:St)(g:Expr)(Rq:It->Hp->Prop)(h:On)(f:IR):Prop :=
 ∃(it:KM)(fp:Wa)(e:Nat->UV->Prop)(J:It)(d:Hp),h=.ref it/\Inv X a O d f/\Turn X.prog X.w X.K g J fp it e/\e 0 f.heap/\(∀b∈fp,lB X a d b)/\Rq J d
def PI(X:Cx)(e b:Expr)(d:TI):Prop :=
 ∀(a:Yp)(s:IR)(O:St)(H:Hp)(Rq:It->Hp->Prop),Inv X a O H s->d O H Rq →
  PP (KB X.prog X.w) X.A (eval b X.env) (λv s1=>PP (KB X.prog X.w) X.A (pyIter v) (PIE X a O e Rq) X.xe s1) X.xe s
def sZ{M:Model}{s:IR}{n:String}(f:s.heap.get? e=Z o)(j:o.cls=.type n)(i:o.data=.fields b)(g:["enumerate", "zip", "dict_itemiterator", "dict_reverseitemiterator", "odict_iterator", "itertools.zip_longest", "itertools.pairwise"].contains n=J)(a:Q () s):PP M A (letOwnedTupleGo d (.ref e) u) Q E s:=by
 unfold letOwnedTupleGo;cases d<;>first
  |exact Zh a
  | (cases u<;>first
    |exact Zh a
    | (refine Zu (wpAny_load f ?_)
       rw[j,i];show PP M A (if (["enumerate", "zip", "dict_itemiterator", "dict_reverseitemiterator", "odict_iterator", "itertools.zip_longest", "itertools.pairwise"].contains n&&b[0]? == Z (rawInt _))=B then _ else _) Q E s;rw[Zm (by intro h;rw[g,Bool.false_and]at h;cases h)];exact Zh a))
def RZ(K:X6)(a:KM):It :=
 ⟨λi H=>∃b x,Iw K H a b/\b[i]?=Z x,λi H x d=>d=H/\∀b,Iw K H a b->b[i]?=Z x,λi H=>∃b,Iw K H a b/\b.length<=i⟩
def Ux(K:X6)(a:KM):It :=
 ⟨λi H=>∃b x,Jz K H a b/\b[i]?=Z x,λi H x d=>d=H/\∀b,Jz K H a b->b[i]?=Z x,λi H=>∃b,Jz K H a b/\b.length<=i⟩
noncomputable def RY(a:Int)(n:Nat):It:=⟨λi _=>i<n,λi H x b=>b=H/\x=.int (a+i),λi _=>n<=i⟩
def pB{K:X6}{M:Expr}(a g:KM):Turn P w K M (RZ K a) [g] g (λi h=>h.IsListIter g a i) where
 mem:=by simp
 obj:=λi h st b hb=>by
  have e:b=g:=by simpa using hb
  subst e;obtain⟨o,e,c,d⟩:=st;exact⟨o,e,λv z=>by rw[d]at z;cases z⟩
 keep:=λi h m st k=>st.at λo e=>k g (by simp) o e
 item:=by
  intro X r hw t F i f s O H E I l st hg;subst r hw t;obtain⟨L,x,j,q⟩:=hg;obtain⟨Q,n,p,R⟩:=I.list j;obtain⟨u,U,N⟩:=n.get q;obtain⟨D,f1,f2,C,A,y⟩:=l g (by simp);refine wpAny_pyNext_list_item st p.isList (x:=u) (by simpa using U) λm G sb=>?_;have I1:Inv X f O H { s with heap:=m }:=I.turned (t':=s.toks) (λb o hb e=>(sb.2 b hb).trans e) D f1 C A y;obtain⟨o,e,c,d⟩:=id G;exact⟨u,rfl,sZ (s:={ s with heap:=m }) e c d (by decide) ⟨x,H,I1,N,⟨rfl,λys S=>by rw[I.Ld S j];exact q⟩,G,λb hb=>(l b hb).1⟩⟩
 done:=by
  intro X r hw t F i f s O H E I l st hg;subst r hw t;obtain⟨L,j,q⟩:=hg;obtain⟨Q,n,p,R⟩:=I.list j;obtain⟨D,f1,f2,C,A,y⟩:=l g (by simp);have hl:=n.length;exact wpAny_pyNext_list_end (I.ok.hd F) st p.isList (by simp;lia) λm eb=>⟨rfl,I.turned (t':=s.toks) (λb o hb e=>eb b o hb e) D f1 C A y⟩
 self:=λ_ _ _ _ _ st h=>wpAny_pyIter_listiter st h
def uS{K:X6}(a g:KM):Turn P w K N (Ux K a) [g] g (λi h=>h.IsTupleIter g a i) where
 mem:=by simp
 obj:=λi h st b hb=>by
  have e:b=g:=by simpa using hb
  subst e;obtain⟨o,e,c,d⟩:=st;exact⟨o,e,λv z=>by rw[d]at z;cases z⟩
 keep:=λi h m st k=>st.at λo e=>k g (by simp) o e
 item:=by
  intro X t hw y G i f s O H E I l st hg;subst t hw y;obtain⟨M,x,j,r⟩:=hg;obtain⟨q,n,p,R⟩:=I.tuple j;obtain⟨u,U,Q⟩:=n.get r;obtain⟨F,f1,f2,D,C,A⟩:=l g (by simp);refine wpAny_pyNext_tuple_item st (show s.heap.IsTuple a q.toArray from p) (x:=u) (by simpa using U) λm L sb=>?_;have I1:Inv X f O H { s with heap:=m }:=I.turned (t':=s.toks) (λb o hb e=>(sb.2 b hb).trans e) F f1 D C A;obtain⟨o,e,c,d⟩:=id L;exact⟨u,rfl,sZ (s:={ s with heap:=m }) e c d (by decide) ⟨x,H,I1,Q,⟨rfl,λys S=>by rw[I.L7 S j];exact r⟩,L,λb hb=>(l b hb).1⟩⟩
 done:=by
  intro X t hw y G i f s O H E I l st hg;subst t hw y;obtain⟨M,j,r⟩:=hg;obtain⟨q,n,p,R⟩:=I.tuple j;obtain⟨F,f1,f2,D,C,A⟩:=l g (by simp);have hl:=n.length;exact wpAny_pyNext_tuple_end (I.ok.hd G) st (show s.heap.IsTuple a q.toArray from p) (by simp;lia) λm eb=>⟨rfl,I.turned (t':=s.toks) (λb o hb e=>eb b o hb e) F f1 D C A⟩
 self:=λ_ _ _ _ _ st h=>wpAny_pyIter_tupleiter st h
def uV{K:X6}(d:KM)(f:Int)(n:Nat):Turn P w K D (RY f n) [d] d (λi h=>IsRangeIter h d (f+(i:Nat)*1) ((n:Int)-(i:Nat)) 1) where
 mem:=by simp
 obj:=λi h st b hb=>by
  have e:b=d:=by simpa using hb
  subst e;exact⟨_,st,λv z=>by
   have C:Data.fields _=Data.cell v:=z;cases C⟩
 keep:=λi h j st k=>k d (by simp) _ st
 item:=by
  intro X m hw p l i a s O H E I g st hg;subst m hw p;obtain⟨x,f1,f2,u,r,q⟩:=g d (by simp);have W:=Walks.range (prog:=X.prog) (w:=X.w) (I.ok.hd l) d f 1 n;refine W.item i s _ _ hg st λv j y G A F=>?_;obtain⟨t,rfl⟩:=G;have N:Inv X a O H { s with heap:=j,toks:=y }:=I.turned (λb o hb e=>F b o (by simpa using hb) e) x f1 u r q;refine⟨_,rfl,sZ (s:={ s with heap:=j,toks:=y }) (n := "range_iterator") A M M (by decide) ⟨.int (f+i),H,N,⟨t,?_⟩,⟨rfl,rfl⟩,A,λb hb=>(g b hb).1⟩⟩;rw[Int.mul_one]
 done:=by
  intro X m hw p l i a s O H E I g st hg;subst m hw p;obtain⟨x,f1,f2,u,r,q⟩:=g d (by simp);exact wpAny_pyNext_range_end (I.ok.hd l) st (by have:n<=i:=hg;lia) λj L=>⟨rfl,I.turned (t':=s.toks) (λb o hb e=>L b o hb e) x f1 u r q⟩
 self:=λ_ _ _ _ _ st h=>wpAny_pyIter_rangeiter st h
section
def Gb(K:X6)(e:TE):TI:=λO H Rq=>e O H λx b=>∃a,x=.ref a/\(∃d,Iw K b a d)/\Rq (RZ K a) b
def Bp(m:PE X l g):PI X tg l (Gb X.K g):=by
 intro d s O H Rq I h;refine thn (m d s O H _ I h) λv s1 ⟨x,n,f,r1,i⟩=>?_;obtain⟨a,e,⟨r,j⟩,q⟩:=i;subst e;cases r1;obtain⟨u,t,p,w⟩:=f.list j;refine wpAny_pyIter_list p.isList ?_;refine⟨s1.heap.objs.size,[s1.heap.objs.size],_,_,n,rfl,f.kept (t':=s1.toks) λb o e=>Zj _ e,pB a _,⟨_,ZW _ M,rfl,rfl⟩,λb hb=>?_,q⟩;have e:b=s1.heap.objs.size:=by simpa using hb
 subst e;exact f.Lj (Zo _) (f.xb.fresh (Zo _))
def yZ{a d:Int}(I:Inv X f O H s)(m:-(2 ^ 62)<=a)(l:a<2 ^ 62)(j:-(2 ^ 62)<=d)(i:d<2 ^ 62)(q:Rq (RY a (d-a).toNat) H):PP (KB X.prog X.w) X.A (pyIter (.ref s.heap.objs.size)) (PIE X f O tg Rq) E { s with heap:=s.heap.push { cls:=.type "range",data:=.fields #[.int a t,.int d u,.int 1 v] },toks:=g }:=by
 refine wpAny_pyIter_range (IsRange.new ..) (small_one m l j i) ?_;have h:Inv X f O H { s with heap:=s.heap.push { cls:=.type "range",data:=.fields #[.int a t,.int d u,.int 1 v] },toks:=g }:=I.kept λb o e=>Zj _ e;refine⟨(s.heap.push { cls:=.type "range",data:=.fields #[.int a t,.int d u,.int 1 v] }).objs.size,[(s.heap.push { cls:=.type "range",data:=.fields #[.int a t,.int d u,.int 1 v] }).objs.size],_,_,H,rfl,
  h.kept (t':=g) λb o e=>Zj _ e,uV _ a (d-a).toNat,?_,λb hb=>?_,q⟩
 ·have e1:a+((0:Nat):Int)*1=a:=by simp
  have e2:(((d-a).toNat:Nat):Int)-((0:Nat):Int)=Builtin.Range.rangeSize a d 1:=by rw[rangeSize_one];split<;>lia
  show IsRangeIter _ _ (a+((0:Nat):Int)*1) ((((d-a).toNat:Nat):Int)-((0:Nat):Int)) 1;rw[e1,e2];exact ZW _ M
 ·have e:b=(s.heap.push { cls:=.type "range",data:=.fields #[.int a t,.int d u,.int 1 v] }).objs.size:=by simpa using hb
  subst e;exact h.Lj (Zo _) (h.xb.fresh (Zo _))
def GL(ta:TA):TI:=λO H Rq=>ta O H λa b=>∃j:Int,a=[.int j]/\-(2 ^ 62)<=j/\j<2 ^ 62/\Rq (RY 0 j.toNat) b
def wU(o:Gl X "range")(n:X.mg "range" = Y)(u:PA X [a] g)(m:{`q1,Pv [a] X.env=[(J,eval a X.env)]}):PI X tg (.Call (.Name "range" p) [a] [] b) (GL g):=by
 intro d s O H Rq I h;refine Call_ (iH I o n boot_range (Xy (thn (u b d s O H _ I h) λx s1 ⟨w,y,v,r1,f⟩=>?_) m M));obtain⟨j,e,f,l,q⟩:=f;subst e;cases r1 with
 |cons r i =>
  cases i;obtain⟨t,rfl⟩:=r;exact call_range_1 (yZ v (by lia) (by lia) f l (by simpa using q))
def Hy(e:TI)(g:TG)(f:TS):TS:=λD O H=>e O H λJ l=>∃W:Nat->Nat->St->Hp->Prop,(∃m,W 0 m O l)/\∀i m O H,W i m O H →
 (J.stop i H/\D.nx O H)\/(J.go i H/\∃N:St->Hp->Prop,(∀d a,N d a->∃b,b<m/\W (i+1) b d a)/\∀x a,J.Ri i H x a->g x O a λh j=>f { D with nx:=N,ct:=N,bk:=D.nx } h j)
noncomputable def oq(a:Wa)(h:UV):Yp:=a.filterMap λb=>(h.get? b).map λo=>(b,o)
def iw{h:UV}(d:b∈a)(e:h.get? b=Z o):(b,o)∈oq a h:=List.mem_filterMap.mpr ⟨b,d,by rw[e];rfl⟩
def xJ(d:p∈oq a h):p.1∈a/\h.get? p.1=Z p.2:=by
 obtain⟨b,hb,e⟩:=List.mem_filterMap.mp d;cases q:h.get? b with
 |none=>rw[q]at e;cases e
 |some o =>
  rw[q]at e;have f:(b,o)=p:=Zl e;subst f;exact⟨hb,q⟩
def Inv.pinned(I:Inv X a O H s)(j:∀b∈f,lB X a H b)(i:∀b∈f,∃o,s.heap.get? b=Z o/\∀v,o.data ≠ .cell v):Inv X (a++oq f s.heap) O H s :=
 I.LV λp h=>(Zd.mp h).elim (λz=>I.pin p (ZP _ z)) λz=>by
  obtain⟨hb,e⟩:=xJ z;obtain⟨l,f1,f2,_⟩:=j p.1 hb;obtain⟨o,g,d⟩:=i p.1 hb;rw[e]at g;cases g;exact⟨e,l,f1,f2,d⟩
def Inv.JF(I:Inv X (a++b) O H s):Inv X a O H s:=I.LV λp d=>I.pin p (ZP _ (Yn _ d))
def uB{X:Cx}(F:PassesOwn (KB X.prog X.w) X.A X.env X.xe)(hc:X.calm=B)(hi:PI X tg j wi)(hg:PG X tg g)(l:Kf X C tb)(hs:{`q2,∀x,XAC j X.env x=pure x}):PS X (.For tg j C [] R) (Hy wi g tb):=by
 intro a s O H D I h;refine wpAny_For (thn (hi a s O H _ I h) λv s1 h1=>thn h1 λS6 s2 h2=>?_) hs;obtain⟨it,fp,tn,J,H2,e,I2,T,Jg,f2,W,⟨m0,w0⟩,turn⟩:=h2;subst e;have Lr:∀{y:Hp},(∀b∈fp,y b=Y)->∀b∈fp,lB X a y b:=λhn b l=>⟨hn b l,(f2 b l).2⟩
 refine codeAny_forLoop_any (λn s'=>∃i L y,Inv X a L y s'/\tn i s'.heap/\(∀b∈fp,y b=Y)/\W i n L y) ?_ m0 ⟨0,O,H2,I2,Jg,λb l=>(f2 b l).1,w0⟩;rintro n s3 ⟨i,G,P,I3,KI,QG,w3⟩;rcases turn i n G P w3 with⟨stop,qn⟩ | ⟨go,N,hN,step⟩
 ·refine XU F (thn (T.done X M M M hc i a s3 G P X.xe I3 (Lr QG) KI stop) λr s4 ⟨S,I4⟩=>?_);subst S;exact Vs ⟨G,P,I4,qn⟩
 ·refine XU F (thn (T.item X M M M hc i a s3 G P X.xe I3 (Lr QG) KI go) λr s4 ⟨u,S,h4⟩=>?_);subst S;refine XU F (thn h4 λ_ s5 ⟨x,H5,I5,r5,y5,U,T1⟩=>?_);have Uz:=I5.pinned (Lr T1) (T.obj _ _ U);refine XU F (thn (hg _ s5 G H5 x u _ Uz r5 (step x H5 y5)) λ_ s6 ⟨O6,H6,I6,q6⟩=>?_);refine XU F (thn (l _ s6 O6 H6 _ I6 q6) λf Q z=>?_);have again:∀{p:St}{t:Hp},Inv X (a++oq fp s5.heap) p t Q->N p t->∃m,m<n/\∃i L y,Inv X a L y Q/\tn i Q.heap/\(∀b∈fp,y b=Y)/\W i m L y:=λ{p t} q E=>by
   obtain⟨m',hm,w7⟩:=hN p t E;refine⟨m',hm,i+1,p,t,q.JF,T.keep _ _ _ U λb l o e=>(q.pin (b,o) (ZP _ (ZP _ (iw l e)))).1,λb l=>?_,w7⟩;obtain⟨o,e,d⟩:=T.obj _ _ U b l;exact(q.pin (b,o) (ZP _ (ZP _ (iw l e)))).2.1
  cases f with
  |next=>obtain⟨p,t,q,E⟩:=z;exact again q E
  |cont=>obtain⟨p,t,q,E⟩:=z;exact again q E
  |brk=>obtain⟨p,t,q,z⟩:=z;exact⟨p,t,q.JF,z⟩
  |ret v=>obtain⟨x7,p,t,q,r7,z⟩:=z;exact⟨x7,p,t,q.JF,r7,z⟩
end
abbrev Jt:=V->V->Hp->VK->Prop
def OpR(X:Cx)(f:On->On->Sem On)(r:Jt):Prop :=
 ∀(a:Yp)(s:IR)(O:St)(H:Hp)(x y:V)(v u:On)(Q:VK),Inv X a O H s->RelV x v->RelV y u->r x y H Q →
  PP (KB X.prog X.w) X.A (f v u) (EP X a O Q) X.xe s
def UnR(X:Cx)(f:On->Sem On)(r:V->Hp->VK->Prop):Prop :=
 ∀(a:Yp)(s:IR)(O:St)(H:Hp)(x:V)(v:On)(Q:VK),Inv X a O H s->RelV x v->r x H Q →
  PP (KB X.prog X.w) X.A (f v) (EP X a O Q) X.xe s
def dn(X:Cx)(f:On)(r:List V->Hp->VK->Prop):Prop :=
 ∀(a:Yp)(s:IR)(O:St)(H:Hp)(b:List V)(d:V0)(Q:VK),Inv X a O H s->aN b d->r b H Q →
  PP (KB X.prog X.w) X.A (call f d) (EP X a O Q) X.xe s
def HY(X:Cx)(r:V->Hp->(Bool->Hp->Prop)->Prop):Prop :=
 ∀(a:Yp)(s:IR)(O:St)(H:Hp)(x:V)(v:On)(Q:Bool->Hp->Prop),Inv X a O H s->RelV x v->r x H Q →
  PP (KB X.prog X.w) X.A (truthy v) (TP X a O Q) X.xe s
noncomputable def Rn(r:Jt)(ta a:TE):TE:=λO H Q=>ta O H λx d=>a O d λy b=>r x y b Q
noncomputable def tUn(r:V->Hp->VK->Prop)(ta:TE):TE:=λO H Q=>ta O H λx a=>r x a Q
noncomputable def rI(C:Int->Int->Prop)(g:Int->Int->V):Jt:=λx y H Q=>∃i j,x=.int i/\y=.int j/\C i j/\Q (g i j) H
noncomputable def LU(g:Int->Int->V):Jt:=λx y H Q=>∃i j,x=.int i/\y=.int j/\Q (g i j) H
noncomputable def rU(g:Int->V):V->Hp->VK->Prop:=λx H Q=>∃i,x=.int i/\Q (g i) H
section
def Hg{X:Cx}{a b:Expr}{ta tb:TE}(q:PE X a ta)(p:PE X b tb){d:Yp}{s:IR}{O:St}{H:Hp}{Rq:V->V->Hp->Prop}(I:Inv X d O H s)(h:ta O H λx i=>tb O i λy e=>Rq x y e){Q:Yy}{f:On->On->Sem On}(o:∀v u g x y e,Inv X d O e g->RelV x v->RelV y u->Rq x y e->PP (KB X.prog X.w) X.A (f v u) Q X.xe g) :
  PP (KB X.prog X.w) X.A (eval a X.env) (λv l=>PP (KB X.prog X.w) X.A (eval b X.env) (λu j=>PP (KB X.prog X.w) X.A (f v u) Q X.xe j) X.xe l) X.xe s:=by
 refine thn (q d s O H _ I h) λv s1 ⟨x,i,t,r1,n⟩=>?_;refine thn (p d s1 O i _ t n) λu g ⟨y,e,r,r2,m⟩=>?_;exact o v u g x y e r r1 r2 m
def HB(j:OpR X (binaryOp e) r)(m:PE X a ta)(l:PE X b tb):PE X (.BinOp a e b pos) (Rn r ta tb):=by
 intro d s O H Q I h;exact wpAny_BinOp (Hg m l I h λv u f x y o n i g q=>j d f O o x y v u Q n i g q)
def Gw(g:UnR X (unaryOp e) r)(i:PE X a ta):PE X (.UnaryOp e a pos) (tUn r ta):=by
 intro d s O H Q I h;exact UnaryOp_ (thn (i d s O H _ I h) λv s1 ⟨x,l,j,r1,f⟩=>g d s1 O l x v Q j r1 f)
def Sq{X:Cx}{f:On->On->Sem On}{C:Int->Int->Prop}{g:Int->Int->Int}(d:∀(i j:Int)(t u:Tok)(s:IR)(Q:Yy)(E:Yy),C i j->Q (.int (g i j) s.toks) { s with toks:=s.toks+1 }->PP (KB X.prog X.w) X.A (f (.int i t) (.int j u)) Q E s) :
  OpR X f (rI C λi j=>.int (g i j)):=by
 intro e s O H x y v u Q I n m h;obtain⟨i,j,rfl,rfl,o,q⟩:=h;obtain⟨t,rfl⟩:=n;obtain⟨l,rfl⟩:=m;exact d i j t l s _ _ o ⟨.int (g i j),H,I.tok _,⟨_,rfl⟩,q⟩
def GW{X:Cx}{f:On->On->Sem On}{g:Int->Int->Int}(d:∀(i j:Int)(t u:Tok)(s:IR)(Q:Yy)(E:Yy),Q (.int (g i j) s.toks) { s with toks:=s.toks+1 }->PP (KB X.prog X.w) X.A (f (.int i t) (.int j u)) Q E s) :
  OpR X f (LU λi j=>.int (g i j)):=by
 intro e s O H x y v u Q I n m h;obtain⟨i,j,rfl,rfl,q⟩:=h;obtain⟨t,rfl⟩:=n;obtain⟨l,rfl⟩:=m;exact d i j t l s _ _ ⟨.int (g i j),H,I.tok _,⟨_,rfl⟩,q⟩
def Ce{X:Cx}{f:On->On->Sem On}{g:Int->Int->Bool}(d:∀(i j:Int)(t u:Tok)(s:IR)(Q:Yy)(E:Yy),Q (.bool (g i j)) s->PP (KB X.prog X.w) X.A (f (.int i t) (.int j u)) Q E s) :
  OpR X f (LU λi j=>.bl (g i j)):=by
 intro e s O H x y v u Q I n m h;obtain⟨i,j,rfl,rfl,q⟩:=h;obtain⟨t,rfl⟩:=n;obtain⟨l,rfl⟩:=m;exact d i j t l s _ _ ⟨.bl (g i j),H,I,rfl,q⟩
noncomputable def G3(i j:Int):Prop:=0<j/\j<1073741824
noncomputable def Cg(i j:Int):Prop:=(-(2 ^ 64)<i/\i<2 ^ 64)\/(-(2 ^ 64)<j/\j<2 ^ 64)
def Cg.ok{i j:Int}(h:Cg i j):IntMulOk i j:=by
 rcases h with⟨e,d⟩ | ⟨e,d⟩
 ·exact .of_left (intBits_le_64 e d)
 ·exact .of_right (intBits_le_64 e d)
def DH:OpR X (binaryOp .Add) (LU λi j=>.int (i+j)):=GW λ_ _ _ _ _ _ _ q=>add_int q
def qW:OpR X (binaryOp .Sub) (LU λi j=>.int (i-j)):=GW λ_ _ _ _ _ _ _ q=>sub_int q
def oh:OpR X (binaryOp .Mult) (rI Cg λi j=>.int (i*j)):=Sq λ_ _ _ _ _ _ _ d q=>mul_int q d.ok
def Bv:OpR X (binaryOp .FloorDiv) (rI G3 λi j=>.int (i/j)):=Sq λi j _ _ _ _ _ d q=>by
 have f:(0:Int)<j:=d.1;have e:j<1073741824:=d.2;exact floordiv_int (by lia) (by rw[Int.fdiv_eq_ediv_of_nonneg i (by lia)];exact q) (.inl (PyProof.noPylong_small (by omega)))
def D2:OpR X (binaryOp .Mod) (rI (λ_ j=>0<j) λi j=>.int (i%j)):=Sq λi j _ _ _ _ _ d q=>by
 have e:(0:Int)<j:=d;exact mod_int' (by lia) (by rw[Int.fmod_eq_emod_of_nonneg i (by lia)];exact q)
def unI{X:Cx}{f:On->Sem On}{g:Int->Int}(d:∀(i:Int)(t:Tok)(s:IR)(Q:Yy)(E:Yy),Q (.int (g i) s.toks) { s with toks:=s.toks+1 }->PP (KB X.prog X.w) X.A (f (.int i t)) Q E s) :
  UnR X f (rU λi=>.int (g i)):=by
 intro e s O H x v Q I j h;obtain⟨i,rfl,q⟩:=h;obtain⟨t,rfl⟩:=j;exact d i t s _ _ ⟨.int (g i),H,I.tok _,⟨_,rfl⟩,q⟩
def DE:UnR X (unaryOp .USub) (rU λi=>.int (-i)):=unI λ_ _ _ _ _ q=>neg_int q
end
section
def FP(I:Inv X d O H s)(q:Q (.bl k) H)(e:k=f):EP X d O Q (.bool f) s:=by
 subst e;exact⟨.bl k,H,I,rfl,q⟩
def GK:OpR X (UF .Lt) (LU λi j=>.bl (decide (i<j))):=Ce λ_ _ _ _ _ _ _ q=>lt_int q
def Hv:OpR X (UF .LtE) (LU λi j=>.bl (decide (i<=j))):=Ce λ_ _ _ _ _ _ _ q=>le_int q
def Hi:OpR X (UF .Gt) (LU λi j=>.bl (decide (j<i))):=Ce λ_ _ _ _ _ _ _ q=>gt_int q
def GM:OpR X (UF .GtE) (LU λi j=>.bl (decide (j<=i))):=Ce λ_ _ _ _ _ _ _ q=>ge_int q
def xu:OpR X (UF .Lt) (λx y H Q=>∃i j,x=.str i/\y=.str j/\Q (.bl (decide (i.cps.toList<j.cps.toList))) H):=by
 intro d s O H x y v u Q I f e h;obtain⟨i,j,rfl,rfl,q⟩:=h;obtain⟨t,rfl⟩:=f;obtain⟨g,rfl⟩:=e;exact lt_str (FP I q M)
def OpR.or(h:OpR X f r)(j:OpR X f i):OpR X f (λx y H Q=>r x y H Q\/i x y H Q):=by
 intro d s O H x y v u Q I g e q;rcases q with q | q
 ·exact h d s O H x y v u Q I g e q
 ·exact j d s O H x y v u Q I g e q
def lF(b:Expr)(h:{`q0,d ≠ .In})(e:{`q0,d ≠ .NotIn}):behindInMarks d b=J:=by
 have e1:(d==CmpOp.In)=J:=by cases d<;>first | rfl | exact absurd M h
 have e2:(d==CmpOp.NotIn)=J:=by cases d<;>first | rfl | exact absurd M e
 cases b<;>simp[behindInMarks,e1,e2]
noncomputable def zF(t:TE):TT:=λO H Q=>t O H λx d=>∃k,x=.bl k/\Q k d
def AV(n:OpR X (UF f) r)(q:PE X a ta)(p:PE X b tb)(o:behindInMarks f b=J):PT X (.Compare a [f] [b] pos) (zF (Rn r ta tb)):=by
 intro d s O H Q I h;refine wpAny_isTrue_Compare1 (thn (q d s O H _ I h) λv s1 ⟨x,E,A,r1,m⟩=>thn (p d s1 O E _ A m) λu g ⟨y,D,w,r2,l⟩ =>
  thn (n d g O D x y v u _ w r1 r2 l) λc F ⟨z,C,t,i,k,e,j⟩=>?_) o
 subst e;cases i;exact Xv ⟨C,t,j⟩
noncomputable def yh(r h:Jt)(ta g f:TE):TE:=λO H Q=>ta O H λx l=>g O l λy j=>r x y j λz d=>∃k,z=.bl k ∧
 (if k=B then f O d λe i=>h y e i Q else Q (.bl J) d)
def Ai(N:OpR X (UF g) r)(LB:OpR X (UF i) j)(U:PE X a ta)(S:PE X b tb)(R:PE X c tc)(P:{`q3,lastMarks [g,i] [b,c]=J}):PT X (.Compare a [g,i] [b,c] pos) (zF (yh r j ta tb tc)):=by
 intro f s O H Q I h;refine isTrue_chain (thn (U f s O H _ I h) λv s1 ⟨x,H1,I1,r1,L⟩=>test_link (thn (S f s1 O H1 _ I1 L) λu w ⟨y,H2,I2,r2,G⟩ =>
  thn (N f w O H2 x y v u _ I2 r1 r2 G) λd t ⟨z,n,m,D,k,e,l⟩=>?_)) P
 subst e;cases D;refine Xv ?_;cases k with
 |false =>
  obtain⟨k',e',M⟩:=l;cases e';exact ite_ff ⟨n,m,M⟩
 |true =>
  refine ite_tt (test_last (thn (R f t O n _ m l) λp q ⟨o,H4,I4,C,F⟩=>thn (LB f q O H4 y o u p _ I4 r2 C F) λd' s5 ⟨z2,H5,I5,A,k2,e2,E⟩=>?_));subst e2;cases A;exact Xv ⟨H5,I5,E⟩
def Ei(K:X6)(x:V)(H:Hp)(k:Bool):Prop :=
 match x with
 |.non=>k=J
 |.bl b=>k=b
 |.int i=>k=(i != 0)
 |.str y=>y.length<=KF/\k=((y.length:Int) != 0)
 |.byt y=>y.size<=KF/\k=((y.size:Int) != 0)
 |.ref p=>(∃d,Iw K H p d/\k=!d.isEmpty)\/(∃d,Jz K H p d/\k=!d.isEmpty)\/∃e,H p=Z (.dK e)/\k=!e.isEmpty
 |_=>False
def uj{κ:Type}{e:List (κ×V)}{d:List (κ×On)}(r:KV e d):(!d.isEmpty)=!e.isEmpty:=by
 cases r<;>rfl
def nR(r:aN d e):(!e.toArray.isEmpty)=!d.isEmpty:=by
 cases r<;>simp
def j5:(KF:Nat)<2 ^ 63:=by rw[Wv];decide
def Fh:HY X (λx H Q=>∃k,Ei X.K x H k/\Q k H):=by
 intro u s O H x v Q I g h;obtain⟨k,e,q⟩:=h;have F:=j5;have E:KF=16777216:=Wv;cases x with
 |non =>
  cases g;have d:k=J:=e;subst d;exact truthy_none ⟨H,I,q⟩
 |bl b =>
  cases g;have d:k=b:=e;subst d;exact Xv ⟨H,I,q⟩
 |int i =>
  obtain⟨t,rfl⟩:=g;have d:k=(i != 0):=e;subst d;exact PySem.P.truthy_int ⟨H,I,q⟩
 |str y =>
  obtain⟨t,rfl⟩:=g;obtain⟨C,d⟩:y.length<=KF/\k=((y.length:Int) != 0):=e;subst d;exact PySem.P.truthy_str (by lia) ⟨H,I.tok _,q⟩
 |byt y =>
  obtain⟨t,rfl⟩:=g;obtain⟨C,d⟩:y.size<=KF/\k=((y.size:Int) != 0):=e;subst d;exact PySem.W.truthy_bytes (by lia) ⟨H,I.tok _,q⟩
 |ref p =>
  cases g;have d:(∃f,Iw X.K H p f/\k=!f.isEmpty)\/(∃f,Jz X.K H p f/\k=!f.isEmpty)\/∃j,H p=Z (.dK j)/\k=!j.isEmpty:=e;rcases d with⟨f,l,d⟩ | ⟨f,l,d⟩ | ⟨j,l,d⟩
  ·subst d;obtain⟨A,r,o,z⟩:=I.list l;have hlen:=r.length;exact wpAny_truthy_list o.isList (by simp only[ZQ];lia) ⟨H,I.tok _,by rw[nR r];exact q⟩
  ·subst d;obtain⟨A,r,o,z⟩:=I.tuple l;have hlen:=r.length;exact truthy_tuple o (by simp only[ZQ];lia) ⟨H,I.tok _,by rw[nR r];exact q⟩
  ·subst d;obtain⟨z,D,n,r,m⟩:j.length<=KF/\(p==sysModules)=J/\∃n,KV j n/\s.heap.DictOf (aF X.prog X.w) p n:=I.xb p _ l;have hlen:j.length=n.length:=XR r;exact wpAny_truthy_dict D m (by lia) ⟨H,I.tok _,by rw[uj r];exact q⟩
 |_=>exact(show False from e).elim
def zu(g:PE X a ta)(he:∀whole,isTrue a X.env whole=(do let v ← whole;standAt a.pos;holding [v] (truthy v))) :
  PT X a (λO H Q=>ta O H λx e=>∃k,Ei X.K x e k/\Q k e):=by
 intro d s O H Q I h;exact isTrue_plain (thn (g d s O H _ I h) λv s1 ⟨x,j,i,r1,f⟩=>Fh d s1 O j x v Q i r1 f) (he _)
def uA:OpR X (binaryOp .Add) (λx y H Q=>∃i j,x=.str i/\y=.str j/\i.length+j.length<=KF/\Q (.str (i++j)) H):=by
 intro d s O H x y v u Q I g f h;obtain⟨i,j,rfl,rfl,l,q⟩:=h;obtain⟨t,rfl⟩:=g;obtain⟨e,rfl⟩:=f;exact add_str (λe m=>⟨.str (i++j),H,I.tok _,⟨_,rfl⟩,q⟩) l
def vals1(r:aN [x] d):∃u,d=[u]/\RelV x u:=by
 cases r with
 |cons r1 r2=>cases r2;exact⟨_,rfl,r1⟩
def vals2(r:aN [x,y] e):∃u d,e=[u,d]/\RelV x u/\RelV y d:=by
 cases r with
 |cons r1 r2 =>
  cases r2 with
  |cons g f=>cases f;exact⟨_,_,rfl,r1,g⟩
def xQ{X:Cx}(g:X.calm=B):dn X (.builtin "max") (λe H Q=>∃i j,e=[.int i,.int j]/\Q (.int (if j > i then j else i)) H):=by
 intro f s O H e m Q I r h;obtain⟨i,j,rfl,q⟩:=h;obtain⟨u,l,rfl,⟨t,rfl⟩,⟨o,rfl⟩⟩:=vals2 r;refine max_two_ints (I.ok.hd g) λp n k=>⟨_,H,I.kept k,?_,q⟩
 by_cases d:j > i
 ·rw[Zr d,Zr d];exact⟨_,rfl⟩
 ·rw[Zm d,Zm d];exact⟨_,rfl⟩
def w6{X:Cx}(g:X.calm=B):dn X (.builtin "min") (λe H Q=>∃i j,e=[.int i,.int j]/\Q (.int (if j<i then j else i)) H):=by
 intro f s O H e m Q I r h;obtain⟨i,j,rfl,q⟩:=h;obtain⟨u,l,rfl,⟨t,rfl⟩,⟨o,rfl⟩⟩:=vals2 r;refine min_two_ints (I.ok.hd g) λp n k=>⟨_,H,I.kept k,?_,q⟩
 by_cases d:j<i
 ·rw[Zr d,Zr d];exact⟨_,rfl⟩
 ·rw[Zm d,Zm d];exact⟨_,rfl⟩
def Hz(K:X6)(x:V)(H:Hp)(n:Nat):Prop :=
 match x with
 |.str y=>y.length<=KF/\n=y.length
 |.byt y=>y.size<=KF/\n=y.size
 |.ref p=>(∃d,Iw K H p d/\n=d.length)\/∃d,Jz K H p d/\n=d.length
 |_=>False
def y9:dn X (.builtin "len") (λd H Q=>∃x n,d=[x]/\Hz X.K x H n/\Q (.int n) H):=by
 intro m s O H d z Q I r h;obtain⟨x,n,rfl,e,q⟩:=h;obtain⟨u,rfl,g⟩:=vals1 r;have C:=j5;have A:KF=16777216:=Wv;cases x with
 |str y =>
  obtain⟨t,rfl⟩:=g;obtain⟨w,f⟩:y.length<=KF/\n=y.length:=e;subst f;exact len_str (by lia) ⟨.int _,H,I.tok _,⟨_,rfl⟩,q⟩
 |byt y =>
  obtain⟨t,rfl⟩:=g;obtain⟨w,f⟩:y.size<=KF/\n=y.size:=e;subst f;exact PySem.W.len_bytes (by lia) ⟨.int _,H,I.tok _,⟨_,rfl⟩,q⟩
 |ref p =>
  cases g;have f:(∃d,Iw X.K H p d/\n=d.length)\/∃d,Jz X.K H p d/\n=d.length:=e;rcases f with⟨d,l,f⟩ | ⟨d,l,f⟩
  ·subst f;obtain⟨o,i,j,v⟩:=I.list l;have hlen:=i.length;exact Calls.call_len_list j.isList (by simp only[ZQ];lia) ⟨.int d.length,H,I.tok _,⟨_,by simp only[ZQ];rw[hlen]⟩,q⟩
  ·subst f;obtain⟨o,i,j,v⟩:=I.tuple l;have hlen:=i.length;exact len_tuple j (by simp only[ZQ];lia) ⟨.int d.length,H,I.tok _,⟨_,by simp only[ZQ];rw[hlen]⟩,q⟩
 |_=>exact(show False from e).elim
end
structure LN(h:UV)(x dx C:KM)(mA:Wc):Prop where
 obj:h.get? x=some (PySem.W.instObj C dx)
 ns:h.Ns1 dx mA
 ne:dx≠x
def wB{h:UV}(n:h.Ns1 g d):∃b,h.get? g=Z b/\∀name,PySem.W.lookIn name b=Z (d name):=by
 obtain⟨o,f,s,j,hd,m,_,l⟩:=n;refine⟨o,j,λname=>?_⟩;have e:=l name;unfold nsFind findBy at e;rw[← Array.find?_toList]at e;unfold PySem.W.lookIn;rw[hd];dsimp only;split
 ·rename_i y q;rw[q]at e;exact congrArg Z e
 ·rename_i q;rw[q]at e;have a:f.toList.any (·.refKey)=J:=by
   rw[List.any_eq_false];intro y i;obtain⟨z,t,r⟩:=m y (Array.mem_toList_iff.mp i);simp[DictEntry.refKey,r]
  have p:¬f.toList.any (·.refKey)=B:=by rw[a];exact Zf
  rw[Zm p];exact congrArg Z e
def LN.look{x:KM}(I:LN h x d C b):∃a,PySem.W.InstAt h x (PySem.W.instObj C d) C (Z a)/\∀name,PySem.W.lookIn name a=Z (b name) :=
 let ⟨a,e,f⟩:=wB I.ns
 ⟨a,⟨I.obj,rfl,rfl,e⟩,f⟩
section
variable{K:X6}
def get_map{s:IR}(X:K.In s.heap)(I:LN s.heap x dx C mA)(g:PySem.W.plainGet K C name=B)(e:PySem.W.hasDictIn K C=B)(i:PySem.W.findIn K (.ref C) name=Z Y)(b:mA name=Z v)(j:PySem.W.handedIn v=B)(h:Q v { s with toks:=s.toks+1 }) :
  PP (KB prog w) A (getAttr (.ref x) name a) Q E s:=by
 obtain⟨l,J,d⟩:=I.look;exact PySem.W.get_value X J (Vv g).1 (PySem.W.findObj_own e i M (by rw[d,b])) j h
def zy{s:IR}(X:K.In s.heap)(I:LN s.heap x dx C mA)(a:PySem.W.plainGet K C name=B)(j:PySem.W.findIn K (.ref C) name=Z (Z (.ref f)))(g:PySem.W.isFn K (.ref f)=B)(e:mA name=Y)(h:Q (.ref f,[.ref x]) s) :
  PP (KB prog w) A (getMethod (.ref x) name b) Q E s:=by
 obtain⟨d,J,i⟩:=I.look;exact PySem.W.method_fn X J (Vv a).1 (Vv a).2 j (beq_iff_eq.mp g) (by show (PySem.W.lookIn name d).map (·.isSome)=Z false;rw[i,e];rfl) h
def BN{s:IR}(X:K.In s.heap)(I:LN s.heap x dx C mA)(q:PySem.W.findIn K (.ref C) "__setattr__" = Z (Z (.builtin "object.__setattr__")))(t:PySem.W.plainOver K C=B)(p:PySem.W.takerIn K C name=Z Y)(u:PySem.W.hasDictIn K C=B)(hw:PySem.Within mA l)(e:l.length<=KF)(h:∀d,LN d x dx C (λy=>if y=name then Z v else mA y)->Heap.SameBut dx s.heap d->Q () { s with heap:=d,toks:=s.toks+2 }) :
  PP (KB prog w) A (setAttr (.ref x) name v) Q E s:=by
 obtain⟨H,J,M⟩:=I.look;refine PySem.W.set_plain X J q (PySem.W.osa_open (s:={ s with toks:=s.toks+1 }) (r:=none) X J t p λb=>?_);obtain⟨cd,z,G⟩:=PySem.W.any_some u;have o:s.heap.get? x=Z ⟨.ref C,Z dx,.plain,#[]⟩:=I.obj;refine Zu (Zh (Zu (Zu (wpAny_loadPart o (Zu (PySem.W.Looks.here (s:={ s with toks:=s.toks+1 }) (PySem.W.looks_clsIn X z) ?_))))));rw[G];refine Zh (a:=Z dx) (Zu (Zh (Zu ?_)));refine wpAny_nsSet1 (s:={ s with toks:=s.toks+1 }) I.ns λd m n=>?_;obtain⟨L,D,F,g,i,j⟩:=m.count (PySem.Within.cons name v hw);refine Zu (wpAny_lookBehind g (by rw[i];exact pastItsLine_dict (ZC j (by rw[Za];exact Y0 e))) ?_);exact Zh (h _ ⟨(n.2 _ (Ye I.ne)).trans I.obj,m,I.ne⟩ n)
def yP{A:SB}{s:IR}(X:K.In s.heap)(e:PySem.W.makesIn K C=B)(i:PySem.W.findIn K (.ref C) "__init__" = Z (Z (.ref f)))(j:PySem.W.typeIn K (.ref f)=Z (.type "function"))(h:codeAny (KB prog w) (A.under (.builtin "type.__call__" ⟨.ref C :: a,b⟩)) (.call (.ref f) ⟨.ref (s.heap.objs.size+1) :: a,b⟩) (PySem.W.InitBack (s.heap.objs.size+1) Rq)
   { s with heap:=(s.heap.push PySem.W.emptyDict).push (PySem.W.instObj C s.heap.objs.size) }) :
  codeAny (KB prog w) A (.call (.ref C) ⟨a,b⟩) Rq s:=by
 obtain⟨l,g,d,t,os⟩:=s;exact PySem.W.make_core (PySem.W.makes_of X e) (PySem.W.looks_findIn X i) (λself=>PySem.W.bind_fn X self j) (.inl M) h
end
noncomputable def iW(f:Str)(v:V):List (Str×V)->List (Str×V)
 |[]=>[(f,v)]
 | (g,x) :: r=>if g=f then (g,v) :: r else (g,x) :: iW f v r
theorem l5(f g:Str)(v:V):∀fs:List (Str×V),(iW f v fs).lookup g=if g=f then Z v else fs.lookup g
 |[]=>by
  show List.lookup g [(f,v)]=_;by_cases h:g=f
  ·have hb:(g==f)=B:=beq_iff_eq.mpr h;simp only[List.lookup,hb,Zr h]
  ·have hb:(g==f)=J:=ZE.mpr h;simp only[List.lookup,hb,Zm h]
 | (k,x) :: r=>by
  have b:=l5 f g v r;rw[show iW f v ((k,x) :: r)=(if k=f then (k,v) :: r else (k,x) :: iW f v r) from rfl];by_cases a:k=f
  ·rw[Zr a];by_cases h:g=k
   ·have hb:(g==k)=B:=beq_iff_eq.mpr h;simp only[List.lookup,hb,Zr (h.trans a)]
   ·have hb:(g==k)=J:=ZE.mpr h;simp only[List.lookup,hb,Zm (λe:g=f=>h (e.trans a.symm))]
  ·rw[Zm a];by_cases h:g=k
   ·have hb:(g==k)=B:=beq_iff_eq.mpr h;simp only[List.lookup,hb,Zm (λe:g=f=>a (h.symm.trans e))]
   ·have hb:(g==k)=J:=ZE.mpr h;simp only[List.lookup,hb];exact b
theorem lu(f:Str)(v:V):∀fs:List (Str×V),f∈(iW f v fs).map (·.1)/\∀g,g∈fs.map (·.1)->g∈(iW f v fs).map (·.1)
 |[]=>⟨by simp[iW],λg h=>by simp at h⟩
 | (k,x) :: r=>by
  obtain⟨d,b⟩:=lu f v r;rw[show iW f v ((k,x) :: r)=(if k=f then (k,v) :: r else (k,x) :: iW f v r) from rfl];by_cases a:k=f
  ·rw[Zr a];subst a;exact⟨by simp,λg h=>by simpa using h⟩
  ·rw[Zm a];refine⟨?_,λg h=>?_⟩
   ·rw[Zn];exact Zw _ d
   ·rw[Zn]at h ⊢;rcases Zk.mp h with e | e
    ·exact Zk.mpr (.inl e)
    ·exact Zw _ (b g e)
theorem l9(f:Str)(v:V):∀fs:List (Str×V),(iW f v fs).length<=fs.length+1
 |[]=>by simp[iW]
 | (k,x) :: r=>by
  have b:=l9 f v r;rw[show iW f v ((k,x) :: r)=(if k=f then (k,v) :: r else (k,x) :: iW f v r) from rfl];by_cases a:k=f
  ·rw[Zr a,Za,Za];exact ZJ _ _
  ·rw[Zm a,Za,Za];exact Y0 b
def g9.some_of{v:V}{o:V1}(r:g9 (Z v) o):∃u,o=Z u/\RelV v u:=by
 cases o with
 |none=>exact(show False from r).elim
 |some u=>exact⟨u,rfl,r⟩
def g9.none_of(r:g9 Y o):o=Y:=by
 cases o with
 |none=>rfl
 |some u=>exact(show False from r).elim
def xK(r:RelV v u):PySem.W.handedIn u=B:=by
 cases v with
 |non=>cases (show u=Value.none from r);rfl
 |bl b=>cases (show u=Value.bool b from r);rfl
 |int i=>obtain⟨t,e⟩:=(show ∃t,u=Value.int i t from r);cases e;rfl
 |str x=>obtain⟨t,e⟩:=(show ∃t,u=Value.str x t from r);cases e;rfl
 |byt b=>obtain⟨t,e⟩:=(show ∃t,u=Value.bytes b t from r);cases e;rfl
 |flt b=>obtain⟨t,e⟩:=(show ∃t,u=Value.float b t from r);cases e;rfl
 |ref a=>cases (show u=Value.ref a from r);rfl
 |ty n=>cases (show u=Value.type n from r);rfl
section
variable{H:Hp}
def mJ(g:Jv P w H h)(e:H a=Z (.ins C dx fs)):∃b,LN h a dx C b/\(∀f,g9 (fs.lookup f) (b f))/\PySem.Within b (fs.map (·.1))/\fs.length<=1000/\H dx=Z (.own a):=by
 obtain⟨d,z,ne,i,b,n,r,q⟩:=(show aY P w H h a (.ins C dx fs) from g a _ e)
 exact⟨b,⟨i,n,ne⟩,r,q,z,d⟩
end
structure JY(K:X6)(C:KM):Prop where
 pg:PySem.W.plainGet K C Str.empty=true
 hd:PySem.W.hasDictIn K C=true
 po:PySem.W.plainOver K C=true
 sa:PySem.W.findIn K (.ref C) "__setattr__" = some (some (.builtin "object.__setattr__"))
def JY.get{K:X6}(c:JY K C)(f:Str):PySem.W.plainGet K C f=B:=c.pg
def aT(K:X6)(C:KM)(f:Str):Prop:=PySem.W.findIn K (.ref C) f=Z Y
def aT.PB{K:X6}(n:aT K C f):PySem.W.takerIn K C f=Z Y:=by
 unfold PySem.W.takerIn;rw[show PySem.W.findIn K (.ref C) f=Z Y from n];rfl
structure Meth(K:X6)(C:KM)(m:Str)(f:KM):Prop where
 at_:PySem.W.findIn K (.ref C) m=some (some (.ref f))
 fn:PySem.W.isFn K (.ref f)=true
 kp:PySem.W.keepIn K (.ref f)=true
section
variable{H:Hp}
def uG(I:Inv X pins O H s)(e:H a=Z (.ins C dx fs))(c:JY X.K C)(n:aT X.K C f)(l:fs.lookup f=Z v)(h:∀u d,Inv X pins O H d->RelV v u->Q u d):PP (KB X.prog X.w) A (getAttr (.ref a) f b) Q E s:=by
 obtain⟨i,m,r,_,_,_⟩:=mJ I.xb e;obtain⟨u,j,g⟩:=g9.some_of (v:=v) (o:=i f) (by rw[← l];exact r f);exact get_map I.J1 m (c.get f) c.hd n j (xK g) (h u _ (I.tok _) g)
def n8(I:Inv X pins O H s)(e:H a=Z (.ins C dx fs))(c:JY X.K C)(k:Meth X.K C m g)(l:fs.lookup m=Y)(h:Q (.ref g,[.ref a]) s):PP (KB X.prog X.w) A (getMethod (.ref a) m b) Q E s:=by
 obtain⟨d,j,r,_,_,_⟩:=mJ I.xb e;have i:d m=Y:=g9.none_of (by rw[← l];exact r m);exact zy I.J1 j (c.get m) k.at_ k.fn i h
def ug(I:Inv X pins O H s)(e:H a=Z (.ins C dx fs))(c:JY X.K C)(n:aT X.K C f)(L:fs.length<1000)(t:RelV y u)(h:∀l,Inv X pins O (upd H a (.ins C dx (iW f y fs))) l->Q () l):PP (KB X.prog X.w) A (setAttr (.ref a) f u) Q E s:=by
 obtain⟨m,i,r,j,_,p⟩:=mJ I.xb e;have D:(fs.map (·.1)).length<=sizeLine:=by rw[Zy,Wv];lia
 refine BN I.J1 i c.sa c.po n.PB c.hd j D λF d sb=>h _ ?_;have hd:∃o,F.get? dx=Z o:=let ⟨o,_,_,G,_⟩:=d.ns;⟨o,G⟩
 refine I.write (x:=a) (e:=dx) (by rw[e];exact True.intro) (.inr p) (λb q hb z=>(sb.2 b hb).trans z) hd ?_;refine⟨by rw[ar i.ne];exact p,?_,i.ne,d.obj,_,d.ns,λg=>?_,λg hg=>?_⟩
 ·have:=l9 f y fs;lia
 ·show g9 ((iW f y fs).lookup g) (if g=f then Z u else m g);rw[l5];by_cases q:g=f
  ·rw[Zr q,Zr q];exact t
  ·rw[Zm q,Zm q];exact r g
 ·by_cases q:g=f
  ·rw[q];exact(lu f y fs).1
  ·refine(lu f y fs).2 g (j g λz=>hg ?_);show (if g=f then Z u else m g)=Y;rw[Zm q];exact z
def Inv.made(I:Inv X pins O H s):Inv X pins O (upd (upd H s.heap.objs.size (.own (s.heap.objs.size+1))) (s.heap.objs.size+1) (.ins C s.heap.objs.size []))
  { s with heap:=(s.heap.push PySem.W.emptyDict).push (PySem.W.instObj C s.heap.objs.size) }:=by
 have e1:(s.heap.push PySem.W.emptyDict).get? s.heap.objs.size=Z PySem.W.emptyDict:=ZW s.heap M;have e2:((s.heap.push PySem.W.emptyDict).push (PySem.W.instObj C s.heap.objs.size)).get? (s.heap.objs.size+1)=Z (PySem.W.instObj C s.heap.objs.size):=by
  have:=ZW (s.heap.push PySem.W.emptyDict) (o:=PySem.W.instObj C s.heap.objs.size) M
  rwa [Ve]at this
 have g:(s.heap.push PySem.W.emptyDict).Ns s.heap.objs.size (λ_=>Y):=⟨PySem.W.emptyDict,#[],_,e1,rfl,(λe he=>absurd he (by simp)),λ_=>rfl⟩
 have h:=I.laid (a:=s.heap.objs.size) (o:=.own (s.heap.objs.size+1)) (h':=s.heap.push PySem.W.emptyDict) (t':=s.toks) (λb u q=>Zj _ q) (Zo _) ⟨_,e1⟩;refine h.laid (a:=s.heap.objs.size+1) (o:=.ins C s.heap.objs.size []) (t':=s.toks) (λb u q=>Zj _ q) (Xw (Ve _ _)) ?_;have ne:s.heap.objs.size≠s.heap.objs.size+1:=Zc (YK _);refine⟨by rw[ar ne,aj],ZO _,ne,e2,λ_=>Y,(Heap.Ns1.of_empty g).at λo q=>Zj _ q,λ_=>True.intro,λy d=>absurd M d⟩
def Cz{f:Str}{s:IR}(j:XAB e f d (eval e d)=eval e d)(h:PP (KB b w) A (eval e d) (λo i=>PP (KB b w) A (getAttr o f B) Q E i) E s):PP (KB b w) A (eval (.Attribute e f g) d) Q E s :=
 Attribute_any_ h (by rw[arm_eval_Attribute,j])
end
def HF(K:X6)(ta:TE)(f:Str):TE:=λO H Q=>ta O H λx b=>∃a C d fs v,x=.ref a/\b a=Z (.ins C d fs)/\JY K C/\aT K C f/\fs.lookup f=Z v/\Q v b
def HC(K:X6)(ta e:TE)(f:Str):TS:=λD O H=>e O H λy g=>ta O g λx d=>∃a C b fs,x=.ref a/\d a=Z (.ins C b fs)/\JY K C/\aT K C f/\fs.length<1000 ∧
 D.nx O (upd d a (.ins C b (iW f y fs)))
section
def yc(he:PE X e ta)(i:XAB e f X.env (eval e X.env)=eval e X.env):PE X (.Attribute e f pos) (HF X.K ta f):=by
 intro b s O H Q I h;refine Cz i (thn (he b s O H _ I h) λu s1 ⟨x,r,p,d,a,C,y,fs,v,ex,j,c,n,l,q⟩=>?_);subst ex;obtain rfl:u=Value.ref a:=d;exact uG p j c n l λt w m g=>⟨v,r,m,g,q⟩
def DI{pos:Pos}(r:PE X o ta)(m:PE X value tv)(p:swapsWith value (Z (.Attribute o f pos')) pos.line X.env=pure J):PS X (.Assign [.Attribute o f pos'] value pos) (HC X.K ta tv f):=by
 intro b s O H D I h;refine plainObj_wpAny_Assign_Attribute (thn (m b s O H _ I h) λu s1 ⟨y,A,z,d,q⟩=>thn (r b s1 O A _ z q) λj F ⟨x,L,w,g,a,C,G,fs,ex,t,c,n,l,i⟩=>?_) p;subst ex;obtain rfl:j=Value.ref a:=g;exact ug w t c n l d λE v=>⟨O,_,v,i⟩
end
section
variable{H:Hp}
inductive JM(K:X6)(H:Hp):V->On->Prop where
 |non:JM K H .non (.type "NoneType")
 |bl (x:Bool):JM K H (.bl x) (.type "bool")
 |int (i:Int):JM K H (.int i) (.type "int")
 |str (x:Str):JM K H (.str x) (.type "str")
 |flt (x:UInt64):JM K H (.flt x) (.type "float")
 |lst {a:KM} {xs:List V} (e:H a=some (.lst xs)):JM K H (.ref a) (.type "list")
 |frz {a:KM} {o:Obj} {xs:List V} (e:H a=some (.frz o (.lst xs))):JM K H (.ref a) (.type "list")
 |tup {a:KM} {xs:List V} (e:H a=some (.tup xs)):JM K H (.ref a) (.type "tuple")
 |dK {a:KM} {bt:List (Key×V)} (e:H a=some (.dK bt)):JM K H (.ref a) (.type "dict")
 |dT {a:KM} {bt:List (List Key×V)} (e:H a=some (.dT bt)):JM K H (.ref a) (.type "dict")
 |ins {a C dx:KM} {fs:List (Str×V)} (e:H a=some (.ins C dx fs)) (cl:JY K C) (ha:PySem.W.findIn K (.ref C) "__class__" = some (some (.builtin "object.__class__")))
   (hn:PySem.W.specialIn K (.builtin "object.__class__") "__get__" = some (some (.builtin "getset_descriptor.__get__"))) (VB:PySem.W.takesIn K (.builtin "object.__class__")=some true)
   (hm:PySem.W.mroIn K C (.type "object")=some true):JM K H (.ref a) (.ref C)
def wG(I:Inv X pins O H s)(d:RelV x u)(r:JM X.K H x t)(e:PySem.W.kitOne X.K t c=Z b)(h:∀v,Q (.bool b) { s with toks:=v }) :
  PP (KB X.prog X.w) A (call (.builtin "isinstance") [u,c]) Q E s:=by
 cases r with
 |non=>cases (show u=Value.none from d);exact YQ PySem.W.kitx_none I.J1 True.intro e (λz=>nomatch z) h
 |bl y=>cases (show u=Value.bool y from d);exact YQ PySem.W.kitx_bool I.J1 True.intro e (λz=>nomatch z) h
 |int i=>obtain⟨t,q⟩:=(show ∃t,u=Value.int i t from d);cases q;exact YQ PySem.W.kitx_int I.J1 True.intro e (λz=>nomatch z) h
 |str y=>obtain⟨t,q⟩:=(show ∃t,u=Value.str y t from d);cases q;exact YQ PySem.W.kitx_str I.J1 True.intro e (λz=>nomatch z) h
 |flt y=>obtain⟨t,q⟩:=(show ∃t,u=Value.float y t from d);cases q;exact YQ PySem.W.kitx_float I.J1 True.intro e (λz=>nomatch z) h
 |@lst a j f =>
  cases (show u=Value.ref a from d);obtain⟨_,_,n,_,g⟩:=(show aY X.prog X.w H s.heap a (.lst j) from I.xb a _ f)
  exact YQ PySem.W.kitx_list I.J1 ⟨_,g,rfl⟩ e (λz=>nomatch z) h
 |@frz a D j f =>
  cases (show u=Value.ref a from d);obtain⟨_,_,_,n,_,g⟩:=(show aY X.prog X.w H s.heap a (.frz D (.lst j)) from I.xb a _ f)
  exact YQ PySem.W.kitx_list I.J1 ⟨_,g,rfl⟩ e (λz=>nomatch z) h
 |@tup a j f =>
  cases (show u=Value.ref a from d);obtain⟨_,_,_,_,p⟩:=(show aY X.prog X.w H s.heap a (.tup j) from I.xb a _ f)
  obtain⟨o,g,l,_⟩:=p;exact YQ PySem.W.kitx_tuple I.J1 ⟨o,g,l⟩ e (λz=>nomatch z) h
 |@dK a m f =>
  cases (show u=Value.ref a from d);obtain⟨_,_,S,_,p⟩:=(show aY X.prog X.w H s.heap a (.dK m) from I.xb a _ f)
  obtain⟨o,M,N,g,l,_⟩:=p;exact YQ PySem.W.kitx_dict I.J1 ⟨o,g,l.1⟩ e (λz=>nomatch z) h
 |@dT a m f =>
  cases (show u=Value.ref a from d);obtain⟨_,_,j,_,o,M,N,g,l,_⟩:=(show aY X.prog X.w H s.heap a (.dT m) from I.xb a _ f)
  exact YQ PySem.W.kitx_dict I.J1 ⟨o,g,l.1⟩ e (λz=>nomatch z) h
 |@ins a C dx fs f cl L F P G =>
  cases (show u=Value.ref a from d);obtain⟨mA,R,_⟩:=mJ I.xb f;obtain⟨U,J,_⟩:=R.look;exact YQ (PySem.W.kitx_own (cl.get _) cl.hd L F P G) I.J1 J e (λz=>nomatch z) h
end
structure xa(k:Nat)(A:SB):Prop where
 hd:A.handled=none
 dp:A.depth+3*k+5<recursionLimit
 un:A.units+16*k+200<cLine
def xa.mono{k:Nat}(r:xa k A)(h:j<=k):xa j A:=⟨r.hd,by have:=r.dp;lia,by have:=r.un;lia⟩
theorem xa.deeper(r:xa (k+1) A)(a:Env):xa k (A.deeper a) :=
 ⟨r.hd,by have:=r.dp;show A.depth+1+3*k+5<_;lia,by have:=r.un;show A.units+3+16*k+200<_;lia⟩
def u0{A:SB}:(A.under (.builtin "type.__call__" ⟨.ref C :: a,b⟩)).depth=A.depth+1:=by
 first | rfl | simp[Around.under,Code.weight,Code.isCreation,Code.isGuard,Code.isCaller,Code.frames,Code.isFrame,guardIds]
def uo{A:SB}:(A.under (.builtin "type.__call__" ⟨.ref C :: a,b⟩)).units=A.units+1:=by
 first | rfl | simp[Around.under,Code.cUnits,Code.frames,Code.isFrame]
def xa.make(r:xa (k+1) A)(C:KM)(a:V0)(b:List (Str×On)):xa k (A.under (.builtin "type.__call__" ⟨.ref C :: a,b⟩)) :=
 ⟨r.hd,by have:=r.dp;rw[u0];lia,by have:=r.un;rw[uo];lia⟩
theorem xa.depth(r:xa k A):A.depth<recursionLimit:=by have:=r.dp;lia
theorem xa.units(r:xa k A):A.units+64<cLine:=by have:=r.un;lia
noncomputable def xr:TA:=λ_ H Q=>Q [] H
noncomputable def FW(ta:TE)(b:TA):TA:=λO H Q=>ta O H λx e=>b O e λa d=>Q (x :: a) d
section
def gg:PA X [] xr:=λ_ _ _ _ H Q I h=>Calls.spliced_nil ⟨[],H,I,.nil,h⟩
def dC(j:PE X e te)(i:PA X es t)(g:{`q1,K1 e es X}):PA X (e :: es) (FW te t):=by
 intro pos a s O H Q I h;rw[g];show PP _ _ (spliced ((J,eval e X.env) :: backTo pos (Pv es X.env))) _ _ s;refine Calls.spliced_cons (thn (j a s O H _ I h) λu s1 ⟨x,o,m,r1,f⟩=>?_);exact thn (i pos a s1 O o _ m f) λp q ⟨b,n,l,r2,d⟩=>⟨x :: b,n,l,.cons r1 r2,d⟩
def HK(t:TA):TE:=λO H Q=>t O H λa b=>a.length<=KF/\∀p,b p=Y->Q (.ref p) (upd b p (.tup a))
def HS(t:TA):TE:=λO H Q=>t O H λa b=>a.length<=KF/\∀p,b p=Y->Q (.ref p) (upd b p (.lst a))
def Fo{x1}(h:PA X es t):PE X (.Tuple es x1 pos) (HK t):=by
 intro a s O H Q I j;refine wpAny_Tuple_spliced (thn (h pos a s O H _ I j) λi s1 ⟨g,f,d,r,z,q⟩=>⟨by rw[← r.length];exact z,?_⟩);have l:f s1.heap.objs.size=Y:=d.xb.fresh (Zo _);refine⟨.ref s1.heap.objs.size,upd f s1.heap.objs.size (.tup g),d.laid (t':=s1.toks) (λb u e=>Zj _ e) (Zo _) ?_,rfl,q _ l⟩;exact⟨z,i,r,ND.of (ZW _ M) M,⟨_,ZW _ M,rfl,_,rfl⟩⟩
def um(h:PA X es t):PE X (.List es pos) (HS t):=by
 intro a s O H Q I j;refine wpAny_List_spliced (thn (h pos a s O H _ I j) λi s1 ⟨g,f,d,r,z,q⟩=>⟨by rw[← r.length];exact z,?_⟩);have l:f s1.heap.objs.size=Y:=d.xb.fresh (Zo _);refine⟨.ref s1.heap.objs.size,upd f s1.heap.objs.size (.lst g),d.laid (t':=s1.toks) (λb u e=>Zj _ e) (Zo _) ?_,rfl,q _ l⟩;exact⟨z,i,0,r,ZW _ M⟩
end
abbrev Sp:=List V->Hp->VK->XK->Prop
abbrev Mv:=List Env->Hp->IR->XK->Yy
structure Env0(P:Re)(w:XAA)(K:X6)(mg:Wc)(base:UV)(A:SB)(outer:List Env)(s:IR)(H:Hp):Prop where
 frames:A.frames=some outer
 mod:Mod K mg base
 tb:∀b q,Tb base b q->H b=some (.tbl q)
 bs:∀b o,base.get? b=some o->s.heap.get? b=some o/\H b=none
 NA:base.objs.size<=s.heap.objs.size
 J4:s.heap.FunFrames base outer
 OC:∀b∈JE outer,H b=none
 xb:Jv P w H s.heap
 bare:AllBare s.gens
def CE(a:List Env)(P:Re)(w:XAA)(H:Hp)(s:IR)(Q:VK)(u:On)(b:IR):Prop :=
 ∃v d,b.os=s.os/\AllBare b.gens/\Un (JE a) [] H d s.heap b.heap/\Jv P w d b.heap/\RelV v u/\Q v d
def CR(d:Mv)(a:List Env)(P:Re)(w:XAA)(H:Hp)(s:IR)(Q:VK)(E:XK)(r:Result)(b:IR):Prop :=
 match r with
 |.ok (.ret u)=>CE a P w H s Q u b
 |.ok _=>False
 |.error e=>d a H s E e b
structure FnOk(P:Re)(w:XAA)(K:X6)(mg:Wc)(base:UV)(CX:Mv)(k:Nat)(f:KM)(fd:P3)(ps:List Str)(sp:Sp):Prop where
 len:∀vs H Q E,sp vs H Q E->vs.length=ps.length
 run:∀(A:SB)(outer:List Env)(s:IR)(H:Hp)(args:Args)(us:V0)(vs:List V)(Q:VK)(E:XK),xa k A->Env0 P w K mg base A outer s H->BindsTo s fd args (ps.zip us)->aN vs us->sp vs H Q E →
  codeAny (KB P w) A (.call (.ref f) args) (CR CX outer P w H s Q E) s
def FnOk.imp{K:X6}(F:FnOk P w K g a l k f i e d)(h:∀b H Q E,j b H Q E->d b H Q E):FnOk P w K g a l k f i e j :=
 ⟨λb H Q E q=>F.len b H Q E (h _ _ _ _ q),λA outer s H args m b Q E p he hb n o=>F.run A outer s H args m b Q E p he hb n (h _ _ _ _ o)⟩
def Env0.make{K:X6}(e:Env0 P w K d b A a s H)(C:KM)(f:V0)(g:List (Str×On)) :
  Env0 P w K d b (A.under (.builtin "type.__call__" ⟨.ref C :: f,g⟩)) a s H:=⟨by first | exact e.frames | (simpa[Around.under,Code.envs,Code.isFrame,pushEnvs] using e.frames),e.mod,e.tb,e.bs,e.NA,e.J4,e.OC,e.xb,e.bare⟩
section
variable{H:Hp}
def Inv.QJ(I:Inv X pins O H s):Env0 X.prog X.w X.K X.mg X.base X.A X.stack s H :=
 ⟨I.ok.frames,I.ok.mod,I.tb,I.bs,ZC I.ok.NA I.sz,I.stack,I.LQ,I.xb,I.bare⟩
def Inv.after(I:Inv X pins O H s)(h:CE X.stack X.prog X.w H s Q u s'):EP X pins O Q u s':=by
 obtain⟨v,f,os,bare,un,xb,r,q⟩:=h;obtain⟨a,g,d,t,e⟩:=s';obtain rfl:e=s.os:=os;exact⟨v,f,I.call (h':=a) (g':=g) (d':=d) (t':=t) (ch:=[]) un xb bare (λb z=>absurd z (by simp)),r,q⟩
end
noncomputable def Dg(b:Sp)(d:List V)(E:XK)(t:TA):TE:=λO H Q=>t O H λa e=>b (a++d) e Q E
def vz(C:KM)(m:Str)(e:Sp)(g:List V)(E:XK)(ta:TE)(t:TA):TE:=λO H Q=>ta O H λx b=>∃a f fs,x=.ref a/\b a=Z (.ins C f fs)/\fs.lookup m=Y ∧
 t O b λd h=>e (x :: (d++g)) h Q E
def Ap(C:KM)(e:Sp)(f:List V)(E:XK)(t:TA):TE:=λO H Q=>t O H λd b=>∀x a,b x=Y->b a=Y->a≠x →
 e (.ref x :: (d++f)) (upd (upd b a (.own x)) x (.ins C a [])) (λv g=>v=.non/\Q (.ref x) g) E
def Binds(K:X6)(d:P3)(b:List Str)(ds:V0):Prop :=
 ∀(s:IR)(a:V0),K.In s.heap->(a++ds).length=b.length->BindsTo s d ⟨a,[]⟩ (b.zip (a++ds))
def Binds.all{K:X6}{b:List Str}(h:∀a:V0,a.length=b.length->bindArgs e ⟨a,[]⟩=pure (b.zip a)):Binds K e b []:=λs a _ d=>by
 rw[ZM]at d ⊢;exact .of_eq (h a d)
def i8(d:Mv)(X:Cx)(E:XK):Prop:=∀(a:Yp)(O:St)(H:Hp)(s:IR)(e:On)(b:IR),Inv X a O H s->d X.stack H s E e b->X.xe e b
section
def uW{X:Cx}{us:V0}{vs:List V}(F:FnOk X.prog X.w X.K X.mg X.base CX k f fd ps sp)(i:xa k X.A)(n:Binds X.K fd ps ds)(l:aN Ke ds)(g:i8 CX X E)(I:Inv X a O H s)(r:aN vs us)(h:sp (vs++Ke) H Q E):PP (KB X.prog X.w) X.A (call (.ref f) us) (EP X a O Q) X.xe s:=by
 have r2:aN (vs++Ke) (us++ds):=r.append l;have j:(us++ds).length=ps.length:=by rw[← r2.length];exact F.len _ _ _ _ h
 refine wpAny_call (codeAny_mono (F.run X.A X.stack s H ⟨us,[]⟩ (us++ds) (vs++Ke) Q E i I.QJ (n s us I.J1 j) r2 h) λr d b=>?_);cases r with
 |error e=>exact g a O H s e d I b
 |ok q =>
  cases q with
  |ret u=>exact I.after b
  |next=>exact False.elim b
  |brk=>exact False.elim b
  |cont=>exact False.elim b
def CS{X:Cx}(F:FnOk X.prog X.w X.K X.mg X.base CX k f fd ps sp)(i:xa k X.A)(n:Gl X x)(j:X.mg x=Z (.ref f))(l:PySem.W.keepIn X.K (.ref f)=B)(v:Binds X.K fd ps ds)(u:aN Ke ds)(g:i8 CX X E)(y:PA X (e :: es) t)(z:{`q0,K3 x})(he:{`q1,K1 e es X})(b:{`q1,K2 pos es X}) :
  PE X (.Call (.Name x p) (e :: es) [] pos) (Dg sp Ke E t):=by
 intro a s O H Q I h;refine XW (mU I n j ?_ z);refine Vo (h₀:=X.base) I.ok.mod.P4 l (thn (y pos a s O H _ I h) λG s1 ⟨D,L,d,r,q⟩=>⟨d.J1,?_⟩) he b;exact uW F i v u g d r q
def qi(he:PE X o ta)(c:JY X.K C)(i:Meth X.K C m f)(F:FnOk X.prog X.w X.K X.mg X.base CX k f fd ps sp)(G:xa k X.A)(N:Binds X.K fd ps ds)(L:aN Ke ds)(z:i8 CX X E)(P:PA X (e :: es) t)(S:{`q1,K1 e es X})(d:{`q1,K2 pos es X})(D:{`q1,eval (.Call (.Attribute o m apos) (e :: es) [] pos) X.env=(do
   let g ← eval o X.env
   standAt apos.atName
   let (f,first) ← holding [g] (getMethod g m pl)
   callWith pos f first (backTo pos (Pv (e :: es) X.env)) (backToKw pos (SL [] X.env)))}) :
  PE X (.Call (.Attribute o m apos) (e :: es) [] pos) (vz C m sp Ke E ta t):=by
 intro b s O H Q I h;refine PySem.W.methodCall_KW (pl:=pl) (thn (he b s O H _ I h) λu s1 ⟨x,U,n,v,a,dx,fs,ex,R,l,q⟩=>?_) D;subst ex;obtain rfl:u=Value.ref a:=v;refine n8 n R c i l ?_;refine Vo (first:=[.ref a]) (h₀:=X.base) I.ok.mod.P4 i.kp (thn (P pos b s1 O U _ n q) λus s2 ⟨vs,H2,j,r,y⟩=>⟨j.J1,?_⟩) S d;exact uW (us:=.ref a :: us) (vs:=.ref a :: vs) F G N L z j (.cons M r) y
def sN(he:PE X o ta)(c:JY X.K C)(i:Meth X.K C m f)(F:FnOk X.prog X.w X.K X.mg X.base CX k f fd ps sp)(v:xa k X.A)(z:Binds X.K fd ps ds)(y:aN Ke ds)(n:i8 CX X E)(r:{`q1,eval (.Call (.Attribute o m apos) [] [] pos) X.env=(do
   let g ← eval o X.env
   standAt apos.atName
   let (f,first) ← holding [g] (getMethod g m pl)
   callWith pos f first (backTo pos (Pv [] X.env)) (backToKw pos (SL [] X.env)))}) :
  PE X (.Call (.Attribute o m apos) [] [] pos) (vz C m sp Ke E ta xr):=by
 intro b s O H Q I h;refine PySem.W.methodCall_KW (pl:=pl) (thn (he b s O H _ I h) λu s1 ⟨x,L,d,j,a,G,fs,ex,D,l,q⟩=>?_) r;subst ex;obtain rfl:u=Value.ref a:=j;refine n8 d D c i l ?_;exact PySem.W.callWith_K0 (first:=[.ref a]) d.J1 i.kp (uW (us:=[.ref a]) (vs:=[.ref a]) F v z y n d (.cons M .nil) q)
structure Mk(K:X6)(C f:KM):Prop where
 makes:PySem.W.makesIn K C=true
 init:PySem.W.findIn K (.ref C) "__init__" = some (some (.ref f))
 fn:PySem.W.isFn K (.ref f)=true
 kp:PySem.W.keepIn K (.ref C)=true
def rA{X:Cx}{us:V0}(M:Mk X.K C f)(F:FnOk X.prog X.w X.K X.mg X.base CX k f fd ps sp)(z:xa (k+1) X.A)(L:Binds X.K fd ps ds)(G:aN Ke ds)(y:i8 CX X E)(I:Inv X a O H s)(r:aN i us)(h:∀x d,H x=Y->H d=Y->d≠x->sp (.ref x :: (i++Ke)) (upd (upd H d (.own x)) x (.ins C d [])) (λv R=>v=.non/\Q (.ref x) R) E) :
  PP (KB X.prog X.w) X.A (call (.ref C) us) (EP X a O Q) X.xe s:=by
 have j:=h (s.heap.objs.size+1) s.heap.objs.size (I.xb.fresh (Wk _)) (I.xb.fresh (Zo _)) (Zc (YK _));have g:=Inv.made (C:=C) I;have r2:aN (V.ref (s.heap.objs.size+1) :: (i++Ke)) (Value.ref (s.heap.objs.size+1) :: (us++ds)):=.cons rfl (r.append G);have D:(Value.ref (s.heap.objs.size+1) :: us++ds).length=ps.length:=by
  have e:=r2.length;rw[F.len _ _ _ _ j]at e;exact e.symm
 refine wpAny_call (yP (f:=f) I.J1 M.makes M.init (beq_iff_eq.mp M.fn) (codeAny_mono (F.run _ X.stack _ _ ⟨Value.ref (s.heap.objs.size+1) :: us,[]⟩ (Value.ref (s.heap.objs.size+1) :: (us++ds)) _ _ E (z.make C us [])
  (g.QJ.make C us []) (L _ (Value.ref (s.heap.objs.size+1) :: us) g.J1 D) r2 j) λr l b=>?_))
 cases r with
 |error e=>exact y a O _ _ e l g b
 |ok N =>
  cases N with
  |ret u =>
   obtain⟨v,S,P,n,ev,q⟩:=g.after b;subst ev;exact⟨n,⟨V.ref (s.heap.objs.size+1),S,P,rfl,q⟩⟩
  |next=>exact False.elim b
  |brk=>exact False.elim b
  |cont=>exact False.elim b
def CW{X:Cx}(M:Mk X.K C f)(F:FnOk X.prog X.w X.K X.mg X.base CX k f fd ps sp)(i:xa (k+1) X.A)(l:Gl X x)(j:X.mg x=Z (.ref C))(u:Binds X.K fd ps ds)(n:aN Ke ds)(g:i8 CX X E)(v:PA X (e :: es) t)(y:{`q0,K3 x})(he:{`q1,K1 e es X})(b:{`q1,K2 pos es X}) :
  PE X (.Call (.Name x p) (e :: es) [] pos) (Ap C sp Ke E t):=by
 intro a s O H Q I h;refine XW (mU I l j ?_ y);refine Vo (h₀:=X.base) I.ok.mod.P4 M.kp (thn (v pos a s O H _ I h) λD s1 ⟨z,G,d,r,q⟩=>⟨d.J1,?_⟩) he b;exact rA M F i u n g d r q
def Av{X:Cx}(M:Mk X.K C f)(F:FnOk X.prog X.w X.K X.mg X.base CX k f fd ps sp)(d:xa (k+1) X.A)(i:Gl X x)(g:X.mg x=Z (.ref C))(l:Binds X.K fd ps ds)(j:aN Ke ds)(b:i8 CX X E)(n:{`q0,K3 x}):PE X (.Call (.Name x p) [] [] pos) (Ap C sp Ke E xr):=by
 intro a s O H Q I h;refine XW (mU I i g ?_ n);exact PySem.W.callWith_K0 I.J1 M.kp (rA (us:=[]) M F d l j b I .nil h)
end
structure gV(N P:List Str)(sc:Scope):Prop where
 kind:sc.kind=.function
 co:sc.isCoroutine=false
 gen:sc.isGenerator=false
 nd:N.Nodup
 pre:N.take P.length=P
 par:∀x∈P,sc.names.lookup x=some .local\/sc.names.lookup x=some .cell
 Ob:∀y∈sc.names,y.2 ≠ .free
theorem pj:∀{binds:List (Str×On)}{m:Wc},(∀v,(x,v)∉binds)->bindL a binds m x=m x
 |[],_,_=>rfl
 | (n,v) :: r,m,h=>by
  unfold bindL;rw[pj λw hw=>h w (Zw _ hw)];split
  ·have:x≠n:=by rintro rfl;exact h v Zx
   simp[this]
  ·rfl
theorem pG:∀{binds:List (Str×On)}{m:Wc},(∀v,(x,v)∉binds)->bindC a binds m x=m x
 |[],_,_=>rfl
 | (n,v) :: r,m,h=>by
  unfold bindC;rw[pG λw hw=>h w (Zw _ hw)];split
  ·rfl
  ·have:x≠n:=by rintro rfl;exact h v Zx
   simp[this]
theorem pH:∀{P:List Str}{b:V0}{i:Nat}{m:Wc},P.Nodup->P[i]?=Z x->b[i]?=Z v->a x=Z .local →
  bindL a (P.zip b) m x=Z v
 |[],_,_,_,_,h,_,_=>by simp at h
 |_ :: _,[],_,_,_,_,h,_=>by simp at h
 |p :: P,w :: b,0,m,nd,e,d,f=>by
  simp at e d;subst e;subst d;show bindL a ((p,w) :: P.zip b) m p=_;unfold bindL;rw[pj λv g=>(ZY.mp nd).1 (WA g).1,Zr f];simp
 |p :: P,w :: b,i+1,m,nd,e,d,f=>by
  show bindL a ((p,w) :: P.zip b) m x=_;unfold bindL;exact pH (i:=i) (ZY.mp nd).2 (by simpa using e) (by simpa using d) f
theorem o7:∀{P:List Str}{b:V0}{i:Nat}{m:Wc},P.Nodup->P[i]?=Z x->b[i]?=Z v->a x≠Z .local →
  bindC a (P.zip b) m x=Z v
 |[],_,_,_,_,h,_,_=>by simp at h
 |_ :: _,[],_,_,_,_,h,_=>by simp at h
 |p :: P,w :: b,0,m,nd,e,d,f=>by
  simp at e d;subst e;subst d;show bindC a ((p,w) :: P.zip b) m p=_;unfold bindC;rw[pG λv g=>(ZY.mp nd).1 (WA g).1,Zm f];simp
 |p :: P,w :: b,i+1,m,nd,e,d,f=>by
  show bindC a ((p,w) :: P.zip b) m x=_;unfold bindC;exact o7 (i:=i) (ZY.mp nd).2 (by simpa using e) (by simpa using d) f
noncomputable def start(N:List Str)(a:List V):St:=a.map Z++List.replicate (N.length-a.length) Y
def jL(j:Mv)(P:Re)(w:XAA)(K:X6)(m:Wc)(h:UV)(N:List Str)(d:Str)(a:Scope)(f:KM)(g:On)(A:SB)(b:List Env)(s:IR)(H:Hp)(E:XK):Cx where
 prog:=P
 w:=w
 K:=K
 mg:=m
 base:=h
 A:=A.deeper (envOfC d a s.heap.objs.size f g)
 N:=N
 s₀:=s
 H₀:=H
 env:=envOfC d a s.heap.objs.size f g
 outer:=b
 stack:=envOfC d a s.heap.objs.size f g :: b
 ex:=[]
 calm:=B
 fn:=λ_=>B
 pn:=[]
 xe:=λe l=>PP (KB P w) (A.deeper (envOfC d a s.heap.objs.size f g)) (leaving (envOfC d a s.heap.objs.size f g) e) (λ_ i=>j b H s E e i) (λn i=>j b H s E n i) l
def tK{a:Scope}{n:Nat}(h:a.names.lookup x=Z .cell):∃c,(cellsFrom n a.names []).lookup x=Z c:=by
 have q:=PySem.W.cellsFrom_some a.names n [] (.inl h);exact Z3.mp q
def xy{K:X6}{A:SB}{t:List V}(S:gV N C d)(hd:A.handled=Y)(m:Env0 P w K R o A g s H)(hl:t.length=C.length)(r:aN t Q)(x:InCallC s s.heap.objs.size (bindL (envOfC j d s.heap.objs.size f O).kindOf (C.zip Q) λ_=>Y) (cellsFrom (s.heap.objs.size+1) d.names []) (bindC (envOfC j d s.heap.objs.size f O).kindOf (C.zip Q) λ_=>Y) X) :
  Inv (jL CX P w K R o N j d f O A g s H E) [] (start N t) H X:=by
 have hpl:C.length<=N.length:=by have:=congrArg List.length S.pre;rw[Z8]at this;lia
 obtain⟨L,tk,rfl,hk⟩:=x.done;have U:∀b:KM,b∉(jL CX P w K R o N j d f O A g s H E).ex:=λb z=>absurd (show b∈([]:Wa) from z) (by simp);refine⟨⟨m.mod,S.kind,rfl,rfl,Zo _,λy z c L l=>?_,λy D=>?_,λy c _ h=>?_,λ_=>hd,Around.frames_deeper m.frames,.inr ⟨rfl,rfl⟩,λb z=>absurd z (U b),m.tb,m.bs,m.NA,λb _ _=>U b,λb z=>absurd z (U b),m.J4,m.OC⟩,
  rfl,m.bare,Un.kept hk,⟨_,x.toInCall.ns,λi y v L l h3=>?_⟩,λy c h=>⟨_,x.cell y c h⟩,m.xb.fresh (Zo _),λy c h=>?_,λp F=>absurd (show p∈([]:Yp) from F) (by simp),m.xb.kept hk,?_⟩
 ·exact name_of_addr x.apart (XH L) (XH l)
 ·have D:d.names.lookup y=Z .cell\/d.names.lookup y=Z .free:=D;rcases D with D | D
  ·exact tK D
  ·exact absurd M (S.Ob _ (XH D))
 ·exact ZF (x.above y c (XH h))
 ·have G:i<t.length:=by
   unfold start at l;by_cases G:i<t.length
   ·exact G
   ·rw[Yu (by simpa using G)]at l;rw[Y8]at l;split at l<;>cases l
  have ha:t[i]?=Z v:=by
   unfold start at l;rw[Yz (by simpa using G),ZV]at l;cases e:t[i]? with
   |none=>rw[e]at l;cases l
   |some a=>rw[e]at l;cases l;rfl
  obtain⟨u,hu,rv⟩:=r.get ha;have F:C[i]?=Z y:=by
   rw[← S.pre,List.getElem?_take_of_lt (by lia)];exact L
  have UW:C.Nodup:=by rw[← S.pre];exact S.nd.sublist (List.take_sublist _ _)
  refine⟨u,rv,?_⟩;rcases S.par y (YJ F) with k | k
  ·exact .inl ⟨k,pH UW F hu k⟩
  ·obtain⟨c,e⟩:=tK (n:=s.heap.objs.size+1) k;refine .inr ⟨.inl k,c,e,?_⟩;have q:=x.cell y c e;rw[o7 UW F hu (by show d.names.lookup y≠_;rw[k];decide)]at q;exact q
 ·exact m.xb.fresh (ZF (x.above y c (XH h)))
 ·unfold start;show _=N.length;rw[Zs,Zy,YA];lia
def C9{R:Mv}{P:Re}{w:XAA}{K:X6}{L:Wc}{h:UV}{k:Nat}{f:KM}{l d:Str}{g:Arguments}{i:List Stmt}{a:Scope}{dV kV F pm p ct oc:On}{an od:Option KM}{Lo:Array (V1)}{N G:List Str}{U:Sp}(lk:K.lookup f=Z ⟨oc,od,.func (PySem.W.fnOf l d g i a dV kV F pm an p ct),Lo⟩)(hcd:PySem.W.codeIn K p d=B)(S:gV N G a)(C:∀j H Q E,U j H Q E->j.length=G.length)(Lh:∀(A:SB)(outer:List Env)(s:IR)(H:Hp)(j:List V)(Q:VK)(E:XK),xa k (A.deeper (envOfC d a s.heap.objs.size f p))->U j H Q E →
   ∃t,Kf (jL R P w K L h N d a f p A outer s H E) i t/\t { nx:=λ_ m=>Q .non m,rt:=Q } (start N j) H) :
  FnOk P w K L h R (k+1) f (PySem.W.fnOf l d g i a dV kV F pm an p ct) G U:=by
 refine⟨C,λA outer s H args us j Q E hr D hb r MS=>?_⟩;have hl:=C _ _ _ _ MS;have KX:K.In s.heap:=D.mod.P4.keeps λb o e=>(D.bs b o e).1;have lim:s.heap.NoLimit:=D.mod.nolimit.keeps λb o e=>(D.bs b o e).1;have Kt:∀y∈G.zip us,a.names.lookup y.1=Z .local\/(a.names.lookup y.1=Z .cell/\((cellsFrom (s.heap.objs.size+1) a.names []).lookup y.1).isSome=B):=λ⟨n,v⟩ hy=>by
  rcases S.par n (WA hy).1 with q | q
  ·exact .inl q
  ·exact .inr ⟨q,PySem.W.cellsFrom_some _ _ _ (.inl q)⟩
 refine codeAny_call_function hr.depth (KX _ _ lk) M S.co S.gen M (PySem.W.codeRec_of KX hcd) (hb _ _ _ _ ?_);refine wpAny_newFunctionEnv_cells S.kind Kt λenv he s1 x=>?_;subst he;refine⟨lim.keeps x.toInCall.keep,codeAny_func ?_⟩;obtain⟨t,ht,hq⟩:=Lh A outer s H j Q E (hr.deeper _) MS;have I:Inv (jL R P w K L h N d a f p A outer s H E) [] (start N j) H s1:=xy S hr.hd D hl r x;refine YR (ht [] s1 (start N j) H _ I hq) (λfl X z=>?_) λe X z=>z;have fin:∀{O:St}{m:Hp}{v:V}{u:On},Inv (jL R P w K L h N d a f p A outer s H E) [] O m X->RelV v u->Q v m->CE outer P w H s Q u X :=
  λ{O m v u} J rv q=>⟨v,m,J.os,J.bare,J.base,J.xb,rv,q⟩
 cases fl with
 |ret u =>
  obtain⟨v,O,m,J,rv,q⟩:=z;exact fin J rv q
 |next =>
  obtain⟨O,m,J,q⟩:=z;exact fin (v:=V.non) (u:=Value.none) J M q
 |brk =>
  obtain⟨_,_,_,q⟩:=z;exact False.elim q
 |cont =>
  obtain⟨_,_,_,q⟩:=z;exact False.elim q
section
noncomputable def UA(r:List V->Hp->VK->Prop)(t:TA):TE:=λO H Q=>t O H λa b=>r a b Q
def tZ{X:Cx}{x:Str}{p pos:Pos}{es:List Expr}{t:TA}{id:String}{r:List V->Hp->VK->Prop}(n:dn X (.builtin id) r)(m:Gl X x)(l:X.mg x=Y)(i:bootBuiltins x=Z (.builtin id))(o:PA X (e :: es) t)(j:{`q0,x ≠ "__name__"})(q:{`q0,K3 x})(he:{`q1,K1 e es X})(b:{`q1,K2 pos es X}):PE X (.Call (.Name x p) (e :: es) [] pos) (UA r t):=by
 intro a s O H Q I h;refine XW (iH I m l i ?_ j q);exact PyProof.Rows.callWith_builtin1 (thn (o pos a s O H _ I h) λf s1 ⟨d,v,u,r1,g⟩=>n a s1 O v d f Q u r1 g) he b
def lG(n:dn X (.type T) r)(m:Gl X x)(l:X.mg x=Y)(i:bootBuiltins x=Z (.type T))(o:PA X (e :: es) t)(j:{`q0,x ≠ "__name__"})(q:{`q0,K3 x})(he:{`q1,K1 e es X})(b:{`q1,K2 pos es X}):PE X (.Call (.Name x p) (e :: es) [] pos) (UA r t):=by
 intro a s O H Q I h;refine XW (iH I m l i ?_ j q);exact Xy (thn (o pos a s O H _ I h) λf s1 ⟨d,v,u,r1,g⟩=>n a s1 O v d f Q u r1 g) he b
end
end L2
namespace HT
open PySem PyProof.Rows
section
noncomputable def Ji(n d:Nat):Option Int->Nat
 |none=>d
 |some v=>if v<0 then (v+(n:Int)).toNat else min v.toNat n
end
end HT
namespace L2
open PySem PySem.Spec PyProof.Rows
abbrev TO:=St->Hp->(Option Int->Hp->Prop)->Prop
def PO(X:Cx)(e:Option Expr)(t:TO):Prop :=
 ∀(a:Yp)(s:IR)(O:St)(H:Hp)(Q:Option Int->Hp->Prop),Inv X a O H s->t O H Q →
  PP (KB X.prog X.w) X.A (evalPart e X.env) (λu d=>∃o b,Inv X a O b d/\IsPart u o/\Q o b) X.xe s
noncomputable def BI:TO:=λ_ H Q=>Q Y H
noncomputable def G8(t:TE):TO:=λO H Q=>t O H λx a=>∃i,x=.int i/\Q (Z i) a
section
variable{lo:Option Expr}
def Cv:PO X Y BI:=by
 intro a s O H Q I h;rw[evalPart_none];exact Zh ⟨Y,H,I,.none,h⟩
def AY(h:PE X e te):PO X (Z e) (G8 te):=by
 intro a s O H Q I hw;rw[evalPart_some];refine thn (h a s O H _ I hw) λu s1 ⟨x,f,d,r1,b⟩=>?_;obtain⟨i,rfl,q⟩:=b;obtain⟨t,rfl⟩:=r1;exact⟨Z i,f,d,.int i t,q⟩
def N0(X:Cx)(r:V->Option Int->Option Int->Hp->VK->Prop):Prop :=
 ∀(a:Yp)(s:IR)(O:St)(H:Hp)(x:V)(v d b:On)(lo hi:Option Int)(f:KM)(Q:VK),Inv X a O H s->RelV x v->s.heap.IsSliceOf f d b .none->IsPart d lo->IsPart b hi->r x lo hi H Q →
  ∃T id,typeLookup (.type T) "__getitem__" = pure (Z (.builtin id))/\s.TypeIs v T/\PP (KB X.prog X.w) X.A (getItem v (.ref f)) (EP X a O Q) X.xe s
def N0.or(h:N0 X r)(m:N0 X i):N0 X (λx lo hi H Q=>r x lo hi H Q\/i x lo hi H Q):=by
 intro a s O H x v d b lo hi f Q I g l j pu q;rcases q with q | q
 ·exact h a s O H x v d b lo hi f Q I g l j pu q
 ·exact m a s O H x v d b lo hi f Q I g l j pu q
noncomputable def tSl(r:V->Option Int->Option Int->Hp->VK->Prop)(d:TE)(a b:TO):TE:=λO H Q=>d O H λx h=>a O h λl g=>b O g λu f=>r x l u f Q
def AG(z:N0 X r)(he:PE X e te)(C:PO X lo tl)(t:PO X hi th):PE X (.Subscript e (.Slice lo hi Y p2) pos) (tSl r te tl th):=by
 intro a s O H Q I h;refine Subscript_ (thn (he a s O H _ I h) λv s1 ⟨x,N,L,r1,o⟩=>?_);refine wpAny_Slice (thn (C a s1 O N _ L o) λg j ⟨l,M,G,p,n⟩=>thn (t a j O M _ G n) λf d ⟨u,i,F,pu,m⟩=>?_);rw[evalPart_none];refine Zh ?_;have E:Inv X a O i { d with heap:=d.heap.push { cls:=.type "slice",data:=.fields #[g,f,.none] } }:=F.kept (t':=d.toks) λb P q=>Zj _ q;obtain⟨T,id,D,y,hg⟩:=z a { d with heap:=d.heap.push { cls:=.type "slice",data:=.fields #[g,f,.none] } } O i x v g f l u d.heap.objs.size Q E r1 (Heap.IsSliceOf.new ..) p pu m;show PP (KB X.prog X.w) X.A (subscriptTail e (.Slice lo hi Y p2) v (.ref d.heap.objs.size)) (EP X a O Q) X.xe { d with heap:=d.heap.push { cls:=.type "slice",data:=.fields #[g,f,.none] } };exact tail_any (ops:=[.ref d.heap.objs.size,v]) y D hg (by with_unfolding_all rfl)
def xp(a:List V)(b d:Option Int):List V:=(a.drop (HT.Ji a.length 0 b)).take (HT.Ji a.length a.length d-HT.Ji a.length 0 b)
def sW(a:List V)(b d:Option Int):(xp a b d).length<=a.length:=by
 unfold xp;rw[Z8,Z2];lia
end
noncomputable def Oi(n:Nat)(i:Int):Option Nat:=if 0<=i then (if i<n then Z i.toNat else Y) else if -(n:Int)<=i then Z (i+n).toNat else Y
def ON{α:Type}(a:List α)(i:Int):Option α:=(Oi a.length i).bind λj=>a[j]?
def u4{i:Int}(h:Oi n i=Z j):seqIndex? i n=Z j/\j<n/\-(n:Int)<=i/\i<n:=by
 unfold Oi at h;by_cases b:0<=i
 ·rw[Zr b]at h;by_cases a:i<n
  ·rw[Zr a]at h;have e:i.toNat=j:=Zl h;exact⟨by rw[seqIndex_of b a,e],by lia,by lia,a⟩
  ·rw[Zm a]at h;cases h
 ·rw[Zm b]at h;by_cases a:-(n:Int)<=i
  ·rw[Zr a]at h;have e:(i+n).toNat=j:=Zl h;exact⟨by rw[seqIndex_neg (by lia) a,e],by lia,a,by lia⟩
  ·rw[Zm a]at h;cases h
def rh{α:Type}{a:List α}{i:Int}{v:α}(h:ON a i=Z v):∃j,seqIndex? i a.length=Z j/\a[j]?=Z v/\j<a.length/\-(a.length:Int)<=i/\i<a.length:=by
 unfold ON at h;cases e:Oi a.length i with
 |none=>rw[e]at h;cases h
 |some j =>
  rw[e]at h;obtain⟨g,f,d,b⟩:=u4 e;exact⟨j,g,h,f,d,b⟩
noncomputable def kj(b:Expr):Prop:=∀o i,subscripted b J o i=operate [o,i] (getItem o i)
def Ml(X:Cx)(r:Jt):Prop :=
 ∀(value slice:Expr)(a:Yp)(s:IR)(O:St)(H:Hp)(x y:V)(v u:On)(Q:VK),Inv X a O H s->RelV x v->RelV y u->r x y H Q →
  subscripted slice J v u=operate [v,u] (getItem v u)->PP (KB X.prog X.w) X.A (subscriptTail value slice v u) (EP X a O Q) X.xe s
def Pm(X:Cx)(e:String)(r:V->List V->Hp->VK->Prop):Prop :=
 ∀(a:Yp)(s:IR)(O:St)(H:Hp)(x:V)(b:List V)(v:On)(d:V0)(Q:VK),Inv X a O H s->RelV x v->aN b d->r x b H Q →
  PP (KB X.prog X.w) X.A (call (.builtin e) (v :: d)) (EP X a O Q) X.xe s
section
def Ml.or(h:Ml X r)(j:Ml X g):Ml X (λx y H Q=>r x y H Q\/g x y H Q):=by
 intro value slice d s O H x y v u Q I f e q i;rcases q with q | q
 ·exact h value slice d s O H x y v u Q I f e q i
 ·exact j value slice d s O H x y v u Q I f e q i
def vo(j:Ml X r)(m:PE X a ta)(l:PE X b tb)(i:kj b):PE X (.Subscript a b pos) (Rn r ta tb):=by
 intro d s O H Q I h;exact Subscript_ (Hg m l I h λv u e x y o n g f q=>j a b d e O o x y v u Q n g f q (i _ _))
def Gz(K:X6):Jt:=λx y H Q=>∃p d i v,x=.ref p/\y=.int i/\Iw K H p d/\ON d i=Z v/\Q v H
def Ht(K:X6):Jt:=λx y H Q=>∃p d i v,x=.ref p/\y=.int i/\Jz K H p d/\ON d i=Z v/\Q v H
def G7:Jt:=λx y H Q=>∃z i c,x=.str z/\y=.int i/\z.length<=KF/\ON z.cps.toList i=Z c/\Q (.str ⟨#[c]⟩) H
def Ct:Ml X (Gz X.K):=by
 intro value slice d s O H x y v u Q I C A h l;obtain⟨p,P,i,z,rfl,rfl,E,he,q⟩:=h;cases C;obtain⟨t,rfl⟩:=A;obtain⟨D,r,f,R⟩:=I.list E;obtain⟨j,e,M,U,L,G⟩:=rh he;obtain⟨w,n,N⟩:=r.get M;have F:=r.length;have S:=j5;have fin:EP X d O Q w s:=⟨z,H,I,N,q⟩
 by_cases m:0<=i
 ·have g:i.toNat=j:=by
   rw[seqIndex_of m G]at e;exact Zl e
  exact item_listR f.isList m (by lia) (by rw[g];simpa using n) fin l
 ·have g:(i+(D.toArray.size:Int)).toNat=j:=by
   rw[seqIndex_neg (by lia) L]at e;rw[ZQ,← F];exact Zl e
  exact subscriptTail_builtinR (x:=w) f.isList.typeIs slot_list_getitem.lookup
   (wpAny_getItem_list_neg (Q:=λr o=>r=w/\EP X d O Q r o) f.isList (by lia) (by rw[ZQ]<;>lia) (by lia) (by rw[g];simpa using n) ⟨rfl,fin⟩) l
def DX:Ml X (Ht X.K):=by
 intro value slice d s O H x y v u Q I l g h m;obtain⟨p,F,i,z,rfl,rfl,n,he,q⟩:=h;cases l;obtain⟨t,rfl⟩:=g;obtain⟨G,r,e,L⟩:=I.tuple n;obtain⟨j,C,A,R,P,N⟩:=rh he;obtain⟨w,D,E⟩:=r.get A;have o:=r.length;have M:=j5;have fin:EP X d O Q w s:=⟨z,H,I,E,q⟩
 exact subscriptTail_builtinR (x:=w) e.typeIs slot_tuple_getitem.lookup
  (getItem_tuple (j:=j) (Q:=λr f=>r=w/\EP X d O Q r f) e (by lia) (by lia) (by rw[ZQ,← o];exact C) (by simpa using D) ⟨rfl,fin⟩) m
def Fz:Ml X G7:=by
 intro value slice d s O H x y v u Q I g f h l;obtain⟨z,i,c,rfl,rfl,w,he,q⟩:=h;obtain⟨t,rfl⟩:=g;obtain⟨r,rfl⟩:=f;obtain⟨j,e,p,C,o,n⟩:=rh he;have m:z.cps.toList.length=z.length:=by simp[Str.length]
 rw[m]at e o n;have A:=j5;exact tail_any (typeIs_str s z t) slot_str_getitem.lookup (getItem_str (c:=c) (by
  have e1:decide (i < -(2 ^ 63:Int))=J:=ZI (by lia);have e2:decide (i ≥ 2 ^ 63)=J:=ZI (by lia);rw[e1,e2,Bool.or_false]) (by rw[e];simpa using p) ⟨.str ⟨#[c]⟩,H,I.tok _,⟨_,rfl⟩,q⟩) l
def Si(K:X6):Jt:=λx y H Q=>Gz K x y H Q\/Ht K x y H Q\/G7 x y H Q
def qT:Ml X (Si X.K):=Ct.or (DX.or Fz)
def uy(d:V0)(n j:Nat)(u:On):Obj.mapSeq (·.setIfInBounds j u) { cls:=.type "list",data:=.seq d.toArray n }={ cls:=.type "list",data:=.seq (d.set j u).toArray n }:=by
 simp[Obj.mapSeq]
theorem Inv.lst{H:Hp}(I:Inv X d O H s)(h:H p=Z (.lst g)) :
  ∃(f:V0)(n:Nat),aN g f/\s.heap.get? p=Z { cls:=.type "list",data:=.seq f.toArray n }/\g.length<=sizeLine:=by
 obtain⟨z,f,n,r,e⟩:=I.xb p _ h;exact⟨f,n,r,e,z⟩
def Inv.Oe{l d:V0}(I:Inv X g O H s)(h:H p=Z (.lst o))(w:s.heap.get? p=Z { cls:=.type "list",data:=.seq l.toArray n })(m:f { cls:=.type "list",data:=.seq l.toArray n }={ cls:=.type "list",data:=.seq d.toArray j })(r:aN i d)(v:i.length<=KF)(t:Nat) :
  Inv X g O (upd H p (.lst i)) { s with heap:=s.heap.update p f,toks:=t }:=by
 have e:(s.heap.update p f).get? p=Z { cls:=.type "list",data:=.seq d.toArray j }:=by
  rw[Heap.get?_update_self f w (by rw[m]<;>rfl),m]
 refine I.write (x:=p) (e:=p) (by rw[h];trivial) (.inl M) (λb u hb q=>(Wi _ _ (Ye hb)).trans q) ⟨_,e⟩ ?_;exact⟨v,d,j,r,e⟩
def Da:V->V->V->Hp->(Hp->Prop)->Prop:=λo i v H Q=>∃p d k j,o=.ref p/\i=.int k/\H p=Z (.lst d)/\Oi d.length k=Z j/\Q (upd H p (.lst (d.set j v)))
def set_list:AW X Da:=by
 intro d s O H o i v M iv u Q I E F D h;obtain⟨p,C,k,j,rfl,rfl,w,L,q⟩:=h;cases E;obtain⟨t,rfl⟩:=F;obtain⟨m,n,r,f,G⟩:=I.lst w;obtain⟨e,P,y,x⟩:=u4 L;have g:=r.length;have N:=j5;have A:Inv X d O (upd H p (.lst (C.set j v))) { s with heap:=s.heap.update p (Obj.mapSeq (·.setIfInBounds j u)) } :=
  I.Oe w f (uy m n j u) (r.set D j) (by rw[Ya];exact G) s.toks
 by_cases z:0<=k
 ·have l:k.toNat=j:=by
   rw[seqIndex_of z x]at e;exact Zl e
  exact PySem.W.ki_setAt f z (by lia) (by rw[ZQ,← g];exact x) (by rw[l];exact⟨_,A,q⟩)
 ·have l:(k+(m.toArray.size:Int)).toNat=j:=by
   rw[seqIndex_neg (by lia) y]at e;rw[ZQ,← g];exact Zl e
  exact PySem.W.ki_setBack f (by lia) (by rw[ZQ,← g];exact y) (by lia) (by rw[l];exact⟨_,A,q⟩)
def qE(d e:Option Int)(n:Nat):(sliceBounds d e Y n).1=((HT.Ji n 0 d:Nat):Int)/\(sliceBounds d e Y n).2.1=((HT.Ji n n e:Nat):Int)/\(sliceBounds d e Y n).2.2=1:=by
 refine⟨?_,?_,rfl⟩
 ·cases d with
  |none=>simp[sliceBounds,HT.Ji]
  |some i =>
   simp only[sliceBounds,HT.Ji,Option.getD_none,show (1:Int) > 0 by decide,if_true];by_cases h:i<0
   ·simp only[h,if_true]<;>lia
   ·simp only[h,if_false]<;>lia
 ·cases e with
  |none=>simp[sliceBounds,HT.Ji]
  |some i =>
   simp only[sliceBounds,HT.Ji,Option.getD_none,show (1:Int) > 0 by decide,if_true];by_cases h:i<0
   ·simp only[h,if_true]<;>lia
   ·simp only[h,if_false]<;>lia
def oU(d:V0)(e f:Option Int):slicePick d.toArray e f Y=((d.drop (HT.Ji d.length 0 e)).take (HT.Ji d.length d.length f-HT.Ji d.length 0 e)).toArray:=by
 obtain⟨i,h,g⟩:=qE e f d.toArray.size;unfold slicePick;rw[i,h,g];simp only[sliceRange_one,pick_run,ZQ]<;>rfl
def FS(K:X6):V->Option Int->Option Int->Hp->VK->Prop:=λx lo e H Q=>∃a d,x=.ref a/\Iw K H a d/\∀p,H p=Y->Q (.ref p) (upd H p (.lst (xp d lo e)))
def BP:N0 X (FS X.K):=by
 intro f s O H x v t p lo e u Q I i n j pu h;obtain⟨a,d,rfl,m,q⟩:=h;cases i;obtain⟨y,r,g,l⟩:=I.list m;have hlen:=r.length;refine⟨"list",_,slot_list_getitem.lookup,g.isList.typeIs,?_⟩;refine wpAny_getItem_list_slice g.isList n j pu .none (by simp) ?_ (by rw[ZQ]<;>lia);rw[oU,← hlen];refine⟨.ref s.heap.objs.size,_,I.laid (t':=s.toks) (o:=.lst (xp d lo e)) (λb w q=>Zj _ q) (Zo _) ?_,rfl,q _ (I.xb.fresh (Zo _))⟩;exact⟨ZC (sW d lo e) l,_,0,(r.drop (HT.Ji d.length 0 lo)).take (HT.Ji d.length d.length e-HT.Ji d.length 0 lo),ZW _ M⟩
noncomputable def fG:V->Bool
 |.non=>B
 |.bl _=>B
 |.int _=>B
 |.str _=>B
 |_=>J
noncomputable def MY:V->V->Bool
 |.non,.non=>B
 |.bl a,.bl b=>a==b
 |.bl a,.int b=>(if a then 1 else 0)==b
 |.int a,.bl b=>a==(if b then 1 else 0)
 |.int a,.int b=>a==b
 |.str a,.str b=>a==b
 |_,_=>J
def Fx(f:RelV y u)(d:RelV x v)(h:fG y=B)(g:fG x=B):SeqAt.EqAt A s u v (MY y x):=by
 cases y with
 |non =>
  cases f;cases x with
  |non=>cases d;exact SeqAt.EqAt.same _
  |bl b=>cases d;exact SeqAt.EqAt.none_bool b
  |int b=>obtain⟨t,rfl⟩:=d;exact SeqAt.EqAt.none_int b t
  |str b=>obtain⟨t,rfl⟩:=d;exact SeqAt.EqAt.none_str b t
  |_=>exact absurd (show J=B from g) Zf
 |bl a =>
  cases f;cases x with
  |non=>cases d;exact SeqAt.EqAt.bool_none a
  |bl b=>cases d;exact SeqAt.EqAt.bool_bool a b
  |int b=>obtain⟨t,rfl⟩:=d;exact SeqAt.EqAt.bool_int a b t
  |str b=>obtain⟨t,rfl⟩:=d;exact SeqAt.EqAt.bool_str a b t
  |_=>exact absurd (show J=B from g) Zf
 |int a =>
  obtain⟨e,rfl⟩:=f;cases x with
  |non=>cases d;exact SeqAt.EqAt.int_none a e
  |bl b=>cases d;exact SeqAt.EqAt.int_bool a e b
  |int b=>obtain⟨t,rfl⟩:=d;exact SeqAt.EqAt.int_int a e b t
  |str b=>obtain⟨t,rfl⟩:=d;exact SeqAt.EqAt.int_str a e b t
  |_=>exact absurd (show J=B from g) Zf
 |str a =>
  obtain⟨e,rfl⟩:=f;cases x with
  |non=>cases d;exact SeqAt.EqAt.str_none a e
  |bl b=>cases d;exact SeqAt.EqAt.str_bool a e b
  |int b=>obtain⟨t,rfl⟩:=d;exact SeqAt.EqAt.str_int a e b t
  |str b=>obtain⟨t,rfl⟩:=d;exact SeqAt.EqAt.str_str a e b t
  |_=>exact absurd (show J=B from g) Zf
 |_=>exact absurd (show J=B from h) Zf
def LJ(x:V)(u:On):Bool:=match u with
 |.none=>MY .non x
 |.bool b=>MY (.bl b) x
 |.int i _=>MY (.int i) x
 |.str z _=>MY (.str z) x
 |_=>J
def zt(r:RelV y u)(f:fG y=B):LJ x u=MY y x:=by
 cases y with
 |non=>cases r;rfl
 |bl b=>cases r;rfl
 |int i=>obtain⟨t,rfl⟩:=r;rfl
 |str z=>obtain⟨t,rfl⟩:=r;rfl
 |_=>exact absurd (show J=B from f) Zf
theorem kX:∀{d:List V}{e:V0},aN d e->d.all fG=B->e.any (LJ x)=d.any λy=>MY y x
 |_,_,.nil,_=>rfl
 |y :: d,u :: e,.cons r t,f=>by
  rw[WO,ZS]at f;rw[Xu,Xu,zt r f.1,kX t f.2]
theorem i4(h:RelV x v)(i:fG x=B):∀{e:List V}{g:V0},aN e g->e.all fG=B->∀u∈g,SeqAt.EqAt A s u v (LJ x u)
 |_,_,.nil,_=>λu d=>by cases d
 |y :: e,u :: g,.cons r t,f=>λj d=>by
  rw[WO,ZS]at f;rcases Zk.mp d with rfl | d
  ·rw[zt r f.1];exact Fx r h f.1 i
  ·exact i4 h i t f.2 j d
def P8(x:V)(d:List V):Bool:=d.any λy=>MY y x
def Rv(K:X6)(e:Bool):Jt:=λx y H Q=>∃p d,y=.ref p/\(Iw K H p d\/Jz K H p d)/\fG x=B/\d.all fG=B/\Q (.bl (if e then !P8 x d else P8 x d)) H
def xq:OpR X (UF .In) (Rv X.K J):=by
 intro i s O H x y v u Q I g j h;obtain⟨p,m,rfl,e,fx,fs,q⟩:=h;cases j;rcases e with e | e
 ·obtain⟨d,r,f,l⟩:=I.list e;refine SeqAt.in_listAt (LJ x) f.isList (λw hw=>i4 g fx r fs w (by simpa using hw)) ⟨.bl _,H,I,rfl,?_⟩;rw[show d.toArray.any (LJ x)=d.any (LJ x) by simp,kX r fs];exact q
 ·obtain⟨d,r,f,l⟩:=I.tuple e;refine SeqAt.in_tupleAt (LJ x) f (λw hw=>i4 g fx r fs w (by simpa using hw)) ⟨.bl _,H,I,rfl,?_⟩;rw[show d.toArray.any (LJ x)=d.any (LJ x) by simp,kX r fs];exact q
def qb:OpR X (UF .NotIn) (Rv X.K B):=by
 intro i s O H x y v u Q I g j h;obtain⟨p,m,rfl,e,fx,fs,q⟩:=h;cases j;rcases e with e | e
 ·obtain⟨d,r,f,l⟩:=I.list e;refine SeqAt.notIn_listAt (LJ x) f.isList (λw hw=>i4 g fx r fs w (by simpa using hw)) ⟨.bl _,H,I,rfl,?_⟩;rw[show d.toArray.any (LJ x)=d.any (LJ x) by simp,kX r fs];exact q
 ·obtain⟨d,r,f,l⟩:=I.tuple e;refine SeqAt.notIn_tupleAt (LJ x) f (λw hw=>i4 g fx r fs w (by simpa using hw)) ⟨.bl _,H,I,rfl,?_⟩;rw[show d.toArray.any (LJ x)=d.any (LJ x) by simp,kX r fs];exact q
def dn.or(h:dn X f r)(l:dn X f j):dn X f (λe H Q=>r e H Q\/j e H Q):=by
 intro d s O H e g Q I i q;rcases q with q | q
 ·exact h d s O H e g Q I i q
 ·exact l d s O H e g Q I i q
def qd:dn X (.type "list") (λA H Q=>∃p g,A=[.ref p]/\(Iw X.K H p g\/Jz X.K H p g)/\∀l,H l=Y->Q (.ref l) (upd H l (.lst g))):=by
 intro m s O H A E Q I r h;obtain⟨p,g,rfl,v,q⟩:=h;obtain⟨u,rfl,D⟩:=vals1 r;cases D;have fin:∀(f:V0),aN g f->g.length<=KF->∀(d:UV)(j:Nat),(∀b C,s.heap.get? b=Z C->d.get? b=Z C) →
   d.get? s.heap.objs.size=Z { cls:=.type "list",dict:=Y,data:=.seq f.toArray j,slots:=#[] }->EP X m O Q (.ref s.heap.objs.size) { s with heap:=d }:=λf i t d j kp e =>
  ⟨.ref s.heap.objs.size,_,I.laid (t':=s.toks) kp (Zo _) (show aY X.prog X.w _ d _ (.lst g) from⟨t,f,j,i,e⟩),rfl,q _ (I.xb.fresh (Zo _))⟩
 rcases v with v | v
 ·obtain⟨f,i,x,t⟩:=I.list v;have hlen:=i.length;obtain⟨o,y,z,n,hd⟩:=x.isList;exact call_list_seq p (.inl M) y z hd (λd j kp e=>fin f i t d j kp e) (by simp only[ZQ]<;>lia)
 ·obtain⟨f,i,x,t⟩:=I.tuple v;have hlen:=i.length;obtain⟨o,y,z,n,hd⟩:=x;exact call_list_seq p (.inr M) y z hd (λd j kp e=>fin f i t d j kp e) (by simp only[ZQ]<;>lia)
def oW:dn X (.type "tuple") (λt H Q=>∃p f,t=[.ref p]/\((Iw X.K H p f/\∀l,H l=Y->Q (.ref l) (upd H l (.tup f)))\/(Jz X.K H p f/\Q (.ref p) H))):=by
 intro d s O H t A Q I r h;obtain⟨p,f,rfl,h⟩:=h;obtain⟨u,rfl,y⟩:=vals1 r;cases y;rcases h with⟨n,q⟩ | ⟨n,q⟩
 ·obtain⟨m,i,j,v⟩:=I.list n;have hlen:=i.length;refine call_tuple_list j.isList (λg kp=>?_) (by simp only[ZQ]<;>lia);have x:Inv X d O H { s with heap:=g }:=I.kept (t':=s.toks) kp;have z:Inv X d O (upd H g.objs.size (.tup f)) { s with heap:=g.push { cls:=.type "tuple",data:=.seq m.toArray } } :=
   x.laid (t':=s.toks) (λb o e=>Zj _ e) (Zo _) (show aY X.prog X.w _ _ _ (.tup f) from⟨v,m,i,ND.new _ _,IsTup.new _ _⟩)
  exact⟨.ref g.objs.size,_,z,rfl,q _ (x.xb.fresh (Zo _))⟩
 ·obtain⟨m,i,j,v⟩:=I.tuple n;exact call_tuple_same j ⟨.ref p,H,I,rfl,q⟩
def tyV(K:X6)(T:String)(x:V)(H:Hp):Prop:=match x with
 |.str _=>T = "str"
 |.int _=>T = "int"
 |.ref p=>(T = "list" ∧ ∃e,Iw K H p e)\/(T = "tuple" ∧ ∃o,K.lookup p=Z o/\o.cls=.type "tuple" ∧ o.dict=Y) ∨
   (T = "dict" ∧ ((∃d,H p=Z (.dK d))\/∃d,H p=Z (.dT d)))\/(T = "set" ∧ ∃S n,H p=Z (.set S n))
 |_=>False
def DQ(I:Inv X f O H s)(r:RelV x v)(g:tyV X.K T x H) :
  s.TypeIs v T/\∀a,v=.ref a->∃j,s.heap.get? a=Z j/\j.dict=Y:=by
 cases x with
 |str z =>
  obtain⟨t,rfl⟩:=r;cases (show T = "str" from g);exact⟨typeIs_str s z t,λ_ e=>nomatch e⟩
 |int i =>
  obtain⟨t,rfl⟩:=r;cases (show T = "int" from g);exact⟨typeIs_int s i t,λ_ e=>nomatch e⟩
 |ref p =>
  cases r;rcases g with⟨rfl,u,l⟩ | ⟨rfl,o,d,m,hd⟩ | ⟨rfl,d⟩ | ⟨rfl,S,n,d⟩
  ·obtain⟨w,_,h,_⟩:=I.list l;refine⟨h.isList.typeIs,λa e=>?_⟩;cases e;obtain⟨o,n,e,c,hd,_⟩:=h;exact⟨o,e,hd⟩
  ·refine⟨⟨o,I.J1 p o d,m⟩,λa e=>?_⟩;cases e;exact⟨o,I.J1 _ o d,hd⟩
  ·have z:∃o,s.heap.get? p=Z o/\o.ExactDict:=by
    rcases d with⟨q,d⟩ | ⟨q,d⟩
    ·obtain⟨_,_,_,_,o,_,_,e,ex,_⟩:=I.xb p _ d;exact⟨o,e,ex⟩
    ·obtain⟨_,_,_,_,o,_,_,e,ex,_⟩:=I.xb p _ d;exact⟨o,e,ex⟩
   obtain⟨o,e,ex⟩:=z;refine⟨⟨o,e,ex.1⟩,λa e2=>?_⟩;cases e2;exact⟨o,e,ex.2.1⟩
  ·obtain⟨o,_,_,_,e,ex,_⟩:=I.xb p _ d;refine⟨⟨o,e,ex.1⟩,λa e2=>?_⟩;cases e2;exact⟨o,e,ex.2.1⟩
 |_=>exact False.elim g
def tBM(K:X6)(T:String)(r:V->List V->Hp->VK->Prop)(f:TE)(t:TA):TE:=λO H Q=>f O H λx d=>tyV K T x d/\t O d λe g=>r x e g Q
def pK{X:Cx}{o:Expr}{es:List Expr}{to:TE}{t:TA}{name:Str}{apos oe:Pos}{T id:String}{r:V->List V->Hp->VK->Prop}(q:PlainAttrs T)(f:Slot T name id)(D:typeOf (.builtin id)=pure (.type "method_descriptor"))(y:Pm X id r)(w:PE X o to)(z:PA X (e :: es) t)(F:{`q1,XAB o name X.env (eval o X.env)=eval o X.env})(E:{`q1,((backTo oe (Pv (e :: es) X.env)).all (λx=>!x.1)&&(backToKw oe (SL [] X.env)).all (λx=>x.1.isSome)
   && decide ((e :: es).length+([]:List Keyword).length+(if ([]:List Keyword).isEmpty then 0 else 1)<30))=B})(G:{`q1,(apos.endLine==oe.line)=B})(u:{`q1,K1 e es X})(L:{`q1,K2 oe es X}) :
  PE X (.Call (.Attribute o name apos) (e :: es) [] oe) (tBM X.K T r to t):=by
 intro d s O H Q I h;refine wpAny_Call_method_late F E G M (thn (w d s O H _ I h) λv s1 ⟨x,R,i,r1,ty,p⟩=>?_);obtain⟨C,A⟩:=DQ i r1 ty;refine⟨T,id,q,f,D,C,A,?_⟩;have g:=z oe d s1 O R _ i p;rw[u]at g ⊢;refine Calls.callWith_builtin (by show (J||(backTo oe (Pv es X.env)).any (·.1))=J;rw[L]<;>rfl) (Calls.evalArgs_plain ?_);exact thn g λl m ⟨j,P,N,r2,n⟩=>y d m O P x j v l Q N r1 r2 n
end
def MtM(X:Cx)(e:String)(r:V->List V->Hp->VK->Prop):Prop :=
 ∀(a:Yp)(s:IR)(O:St)(H:Hp)(x:V)(b:List V)(v:On)(d:V0)(Q:VK),Inv X a O H s->RelV x v->aN b d->r x b H Q →
  PP (KB X.prog X.w) X.A (call (.builtin e) (v :: d)) (EP X a O Q) X.xe s
def aN.nil_inv(h:aN [] a):a=[]:=by
 cases h;rfl
def aN.cons_inv(h:aN (x :: a) d):∃u b,d=u :: b/\RelV x u/\aN a b:=by
 cases h with
 |cons r t=>exact⟨_,_,rfl,r,t⟩
def aN.one(h:aN [x] a):∃u,a=[u]/\RelV x u:=by
 obtain⟨u,vs,rfl,r,t⟩:=h.cons_inv;rw[t.nil_inv];exact⟨_,rfl,r⟩
def aN.two(h:aN [x,y] a):∃u v,a=[u,v]/\RelV x u/\RelV y v:=by
 obtain⟨u,b,rfl,r,t⟩:=h.cons_inv;obtain⟨v,rfl,q⟩:=t.one;exact⟨_,_,rfl,r,q⟩
section
variable{H:Hp}
def Inv.SU{a its':V0}(I:Inv X pins O H s)(m:H l=Z (.lst xs))(e:s.heap.get? l=Z { cls:=.type "list",data:=.seq a.toArray n })(j:f a.toArray=its'.toArray)(h:aN ys its')(g:ys.length<=KF) :
  Inv X pins O (upd H l (.lst ys)) { s with heap:=s.heap.update l (Obj.mapSeq f),toks:=d }:=by
 have q:=PySem.IsL.update e f;rw[j]at q;refine I.write (x:=l) (e:=l) (by rw[m];exact trivial) (.inl M) (λo u hb i=>(Wi s.heap (Obj.mapSeq f) (Ye hb)).trans i) ⟨_,q⟩ ?_;exact⟨g,its',_,h,q⟩
def Inv.SV{t':Nat}(I:Inv X pins O H s)(e:aN ys a)(d:ys.length<=KF) :
  Inv X pins O (upd H s.heap.objs.size (.lst ys)) { s with heap:=s.heap.push { cls:=.type "list",data:=.seq a.toArray },toks:=t' } :=
 I.laid (λ_ _ q=>Zj _ q) (Zo _) ⟨d,a,0,e,ZW _ M⟩
theorem Inv.fresh(I:Inv X pins O H s):H s.heap.objs.size=Y:=I.xb.fresh (Zo _)
def Inv.Of(I:Inv X pins O H s)(d:H l=Z (.lst xs)):xs.length<=KF/\∃(a:V0)(n:Nat),aN xs a/\xs.length=a.length/\s.heap.get? l=Z { cls:=.type "list",data:=.seq a.toArray n }:=by
 obtain⟨z,a,n,r,e⟩:=I.xb l _ d;exact⟨z,a,n,r,r.length,e⟩
end
section
def qZ:V->List V->Hp->VK->Prop:=λx b H Q=>∃l a y,x=.ref l/\b=[y]/\H l=Z (.lst a)/\a.length<KF/\Q .non (upd H l (.lst (a++[y])))
def h9:MtM X "list.append" qZ:=by
 intro a s O H x o v p Q I f g h;obtain⟨l,m,y,rfl,rfl,d,j,q⟩:=h;cases f;obtain⟨u,rfl,i⟩:=g.one;obtain⟨z,b,n,r,t,e⟩:=I.Of d;refine call_meets F.slot_list_append ⟨_,e,rfl⟩ F.entry_list_append (F.args_list_append_2 _ _) (PySem.list_append l b.toArray n u (by rw[ZQ];lia)) ⟨e,?_⟩;refine⟨.non,_,I.SU (its':=b++[u]) d e (by simp) (r.append (.cons i .nil)) ?_,rfl,q⟩;rw[Zs,Yr];exact Nat.succ_le_of_lt j
def Hx:Jt:=λx y H Q=>∃l b d a,x=.ref l/\y=.ref b/\H l=Z (.lst d)/\H b=Z (.lst a)/\d.length+a.length<=KF/\∀p,H p=Y->Q (.ref p) (upd H p (.lst (d++a)))
def ES:OpR X (binaryOp .Add) Hx:=by
 intro a s O H x y v u Q I i g h;obtain⟨l,b,w,p,rfl,rfl,j,m,C,q⟩:=h;cases i;cases g;obtain⟨z,d,n,r,D,e⟩:=I.Of j;obtain⟨t,f,A,r2,E,e2⟩:=I.Of m;refine PySem.P.add_list e e2 ?_ (by rw[ZQ,ZQ];lia);have o:d.toArray++f.toArray=(d++f).toArray:=by simp
 rw[o];exact⟨.ref _,_,I.SV (t':=s.toks) (r.append r2) (by rw[Zs];omega),rfl,q _ I.fresh⟩
end
section
set_option maxRecDepth 100000 in
end
section
variable{κ:Type}[DecidableEq κ]
noncomputable def cG(b:List (κ×V))(k:κ):Option V:=(b.find? λa=>decide (a.1=k)).map (·.2)
noncomputable def putK(b:List (κ×V))(k:κ)(v:V):List (κ×V) :=
 if (b.any λa=>decide (a.1=k))=B then b.map (λa=>if a.1=k then (a.1,v) else a) else b++[(k,v)]
def cx{p:κ×V}(e:p.1=k):cG (p :: r) k=Z p.2:=by simp[cG,Z9,e]
def cZ{p:κ×V}(e:¬p.1=k):cG (p :: r) k=cG r k:=by simp[cG,Z9,e]
theorem je(k:κ):∀a:List (κ×V),(a.any λb=>decide (b.1=k))=(cG a k).isSome
 |[]=>rfl
 |p :: r=>by
  rw[Xu];by_cases e:p.1=k
  ·simp only[cx e,decide_eq_true e,Bool.true_or,Option.isSome_some]
  ·rw[cZ e,ZI e,Bool.false_or];exact je k r
theorem tY(k j:κ)(y:V):∀d:List (κ×V),cG (d.map λa=>if a.1=k then (a.1,y) else a) j=(cG d j).map λx=>if j=k then y else x
 |[]=>rfl
 |p :: r=>by
  have b:=tY k j y r;rw[Zn];by_cases h:p.1=k
  ·rw[Zr h];by_cases e:p.1=j
   ·rw[cx (p:=(p.1,y)) e,cx e,YU,Zr (e.symm.trans h)]
   ·rw[cZ (p:=(p.1,y)) e,cZ e,b]
  ·rw[Zm h];by_cases e:p.1=j
   ·rw[cx (p:=p) e,cx e,YU,Zm (λz=>h (e.trans z))]
   ·rw[cZ (p:=p) e,cZ e,b]
theorem pO(k j:κ)(y:V):∀b:List (κ×V),cG b k=Y->cG (b++[(k,y)]) j=if j=k then Z y else cG b j
 |[],_=>by
  by_cases e:k=j
  ·rw[Zr e.symm];exact cx (p:=(k,y)) e
  ·rw[Zm (λz=>e z.symm)];exact cZ (p:=(k,y)) e
 |p :: r,a=>by
  rw[XJ];have d:¬p.1=k:=λz=>by rw[cx z]at a;cases a
  rw[cZ d]at a;have f:=pO k j y r a;by_cases e:p.1=j
  ·rw[cx e,cx e,Zm (λz=>d (e.trans z))]
  ·rw[cZ e,cZ e,f]
def Au(b:List (κ×V))(k j:κ)(y:V):cG (putK b k y) j=if j=k then Z y else cG b j:=by
 unfold putK;by_cases a:(b.any λd=>decide (d.1=k))=B
 ·rw[Zr a,tY];rw[je]at a;by_cases e:j=k
  ·obtain⟨x,f⟩:=Z3.mp a;rw[Zr e,e,f,YU,Zr M]
  ·rw[Zm e];cases cG b j with
   |none=>rfl
   |some x=>rw[YU,Zm e]
 ·rw[Zm a];refine pO k j y b ?_;rw[je]at a;cases q:cG b k with
  |none=>rfl
  |some x=>rw[q]at a;exact(a M).elim
def eT(a:List (κ×V))(k:κ)(v:V):(putK a k v).length<=a.length+1:=by
 unfold putK;split
 ·rw[Zy];exact ZJ _ _
 ·rw[Zs,Za,W0];exact Zo _
def g9.IP(r:g9 o u):o.isSome=u.isSome:=by
 cases o with
 |none=>cases u with
  |none=>rfl
  |some _=>exact(show False from r).elim
 |some _=>cases u with
  |none=>exact(show False from r).elim
  |some _=>rfl
theorem g9.getD{o:Option V}{d:V}(r:g9 o u)(b:RelV d a):RelV (o.getD d) (u.getD a):=by
 cases o with
 |none=>cases u with
  |none=>exact b
  |some _=>exact(show False from r).elim
 |some _=>cases u with
  |none=>exact(show False from r).elim
  |some _=>exact r
def KV.val(r:KV i f)(k:κ):g9 (cG i k) (valueAt f k):=by
 unfold KV at r
 induction r with
 |nil=>exact True.intro
 |@cons p q m a h t j =>
  obtain⟨g,l⟩:=h;by_cases e:p.1=k
  ·have d:q.1=k:=g.symm.trans e;have b:valueAt (q :: a) k=Z q.2:=by simp[valueAt,Z9,d]
   rw[cx e,b];exact l
  ·have d:¬q.1=k:=λz=>e (g.trans z);have b:valueAt (q :: a) k=valueAt a k:=by simp[valueAt,Z9,d]
   rw[cZ e,b];exact j
theorem KV.any(r:KV d b)(k:κ):(d.any λa=>decide (a.1=k))=b.any λa=>decide (a.1=k):=by
 unfold KV at r
 induction r with
 |nil=>rfl
 |cons h t e=>rw[Xu,Xu,e,h.1]
def KV.Oa(r:KV f d)(k:κ)(g:RelV y u) :
  KV (f.map λa=>if a.1=k then (a.1,y) else a) (d.map λa=>if a.1=k then (a.1,u) else a):=by
 unfold KV at r ⊢
 induction r with
 |nil=>exact .nil
 |@cons p q m l h t i =>
  rw[Zn,Zn];refine .cons ?_ i;obtain⟨b,j⟩:=h;by_cases e:p.1=k
  ·rw[Zr e,Zr (b.symm.trans e)];exact⟨b,g⟩
  ·rw[Zm e,Zm (λz=>e (b.trans z))];exact⟨b,j⟩
def KV.put(r:KV d a)(k:κ)(b:RelV y u):KV (putK d k y) (stored a k u):=by
 unfold putK stored;rw[r.any k];by_cases e:(a.any λf=>decide (f.1=k))=B
 ·rw[Zr e,Zr e];exact r.Oa k b
 ·rw[Zm e,Zm e];exact Paired.snoc r ⟨rfl,b⟩
def KV.keys{b:List (κ×V)}{a:List (κ×On)}(r:KV b a):b.map (·.1)=a.map (·.1):=by
 unfold KV at r
 induction r with
 |nil=>rfl
 |cons h t d=>rw[Zn,Zn,d,h.1]
theorem KV.length{b:List (κ×V)}(r:KV b a):b.length=a.length:=XR r
end
def kN(r:RelV (kV k) u):(aF P w).is k u=B:=by
 cases k with
 |inl i=>obtain⟨t,e⟩:=(show ∃t,u=Value.int i t from r);subst e;exact tJ P w i t
 |inr x=>obtain⟨t,e⟩:=(show ∃t,u=Value.str x t from r);subst e;exact sA P w x t
theorem lj:∀{a:List Key}{b:V0},aN (a.map kV) b->ItemsAre (aF P w) a b
 |[],_,r=>by rw[X7]at r;cases r;exact .nil
 |k :: a,_,r=>by
  rw[Zn]at r;cases r with
  |cons h t=>exact .cons (kN h) (lj t)
abbrev KT(H:Hp):List (List Key×V)->List (List Key×KM×On)->Prop:=Paired λp q=>p.1=q.1/\H q.2.1=Z (.tup (p.1.map kV))/\RelV p.2 q.2.2
def KT.val(r:KT H i f)(k:List Key):g9 (cG i k) ((atKey f k).map (·.2)):=by
 induction r with
 |nil=>exact True.intro
 |@cons p q m a h t j =>
  obtain⟨g,_,l⟩:=h;by_cases e:p.1=k
  ·have d:q.1=k:=g.symm.trans e;have b:atKey (q :: a) k=Z q.2:=by simp[atKey,Z9,d]
   rw[cx e,b];exact l
  ·have d:¬q.1=k:=λz=>e (g.trans z);have b:atKey (q :: a) k=atKey a k:=by simp[atKey,Z9,d]
   rw[cZ e,b];exact j
def KT.Oa(r:KT H g d)(k:List Key)(i:RelV y u) :
  KT H (g.map λb=>if b.1=k then (b.1,y) else b) (d.map (putAt k u)):=by
 induction r with
 |nil=>exact .nil
 |@cons p q n m h t j =>
  rw[Zn,Zn];refine .cons ?_ j;obtain⟨a,f,l⟩:=h;unfold putAt;by_cases e:p.1=k
  ·rw[Zr e,Zr (a.symm.trans e)];exact⟨a,f,i⟩
  ·rw[Zm e,Zm (λz=>e (a.trans z))];exact⟨a,f,l⟩
def KT.put(r:KT H d a)(k:List Key)(h:H b=Z (.tup (k.map kV)))(f:RelV y u) :
  KT H (putK d k y) (storedH a k b u):=by
 have e:(d.any λg=>decide (g.1=k))=(atKey a k).isSome:=by
  rw[je,(r.val k).IP,Y5]
 unfold putK storedH;rw[e];by_cases q:(atKey a k).isSome=B
 ·rw[Zr q,Zr q];exact r.Oa k f
 ·rw[Zm q,Zm q];exact Paired.snoc r ⟨rfl,h,f⟩
def KT.keeps(r:KT H e d)(g:∀b a,H b=Z (.tup a)->f b=Z (.tup a)):KT f e d :=
 Paired.Nk r λ_ _ z=>⟨z.1,g _ _ z.2.1,z.2.2⟩
section
variable{H:Hp}
def Dh(b:Jv P w H h)(e:Rd H a u):aY P w H h a u:=e.ok b
def md(f:Jv P w H h)(e:Rd H a (.dK b)):b.length<=KF/\(a==sysModules)=J/\∃d,KV b d/\h.DictOf (aF P w) a d :=
 show aY P w H h a (.dK b) from Dh f e
def lY(f:Jv P w H h)(e:H a=Z (.dK b)):b.length<=KF/\(a==sysModules)=J/\∃d,KV b d/\h.DictOf (aF P w) a d:=md f (.inl e)
def c9{b:List Key}(d:Jv P w H h)(e:H a=Z (.tup (b.map kV))):(tupleKind (aF P w)).is h b a:=by
 obtain⟨_,f,r,_,o,j,i,n,g⟩:=(show aY P w H h a (.tup (b.map kV)) from d a _ e)
 exact⟨o,f.toArray,n,j,i,g,by simpa using lj r⟩
def nq(g:Jv P w H h)(e:Rd H a (.dT f)):f.length<=KF/\(a==sysModules)=J ∧
  ∃d,KT H f d/\h.DictOfH (tupleKind (aF P w)) a d:=by
 obtain⟨z,y,d,r,o,C,D,A,v,u,s,n⟩:=(show aY P w H h a (.dT f) from Dh g e)
 refine⟨z,y,d,r,o,C,D,A,v,u,s,λx b=>?_,n⟩;have all:∀{l:List (List Key×V)}{m:List (List Key×KM×On)},KT H l m->∀x∈m,(tupleKind (aF P w)).is h x.1 x.2.1:=by
  intro l m q
  induction q with
  |nil=>intro x b;exact nomatch b
  |@cons p q F E i t j =>
   intro x b;rcases Zk.mp b with e | b
   ·subst e;exact c9 g (by rw[← i.1];exact i.2.1)
   ·exact j x b
 exact all r x b
def G5(f:Jv P w H h)(e:H a=Z (.dT b)):b.length<=KF/\(a==sysModules)=J ∧
  ∃d,KT H b d/\h.DictOfH (tupleKind (aF P w)) a d:=nq f (.inl e)
end
def ip(H:Hp)(a:KM)(y:V)(r:Option V):Prop :=
 (∃d k,Rd H a (.dK d)/\y=kV k/\r=cG d k)\/∃d k b,Rd H a (.dT d)/\y=.ref b/\H b=Z (.tup (k.map kV))/\r=cG d k
def uN(H:Hp)(a:KM)(y v:V)(e:Hp):Prop :=
 (∃d k,H a=Z (.dK d)/\y=kV k/\d.length<KF/\e=upd H a (.dK (putK d k v))) ∨
 ∃d k b,H a=Z (.dT d)/\y=.ref b/\H b=Z (.tup (k.map kV))/\d.length<KF/\e=upd H a (.dT (putK d k v))
theorem ip.k{b:List (Key×V)}{k:Key}(e:H a=Z (.dK b)):ip H a (kV k) (cG b k):=.inl ⟨b,k,.inl e,rfl,rfl⟩
theorem uN.k{b:List (Key×V)}{k:Key}{v:V}(e:H a=Z (.dK b))(d:b.length<KF):uN H a (kV k) v (upd H a (.dK (putK b k v))):=.inl ⟨b,k,e,rfl,d,rfl⟩
section
variable{H:Hp}
def Inv.big(I:Inv X pins O H s):sysModules<s.heap.objs.size:=by
 have h:mainGlobals<s.heap.objs.size:=(I.mod.glob.keeps I.bk).lt;exact WJ (by decide) h
def wZ{A:SB}(x:A.units+1<cLine)(I:Inv X pins O H s)(g:ip H a y (Z v))(n:RelV y u)(h:∀d m,Inv X pins O H m->RelV v d->Q d m) :
  PP (KB X.prog X.w) A (getItem (.ref a) u) Q E s:=by
 rcases g with⟨F,k,e,f,l⟩ | ⟨F,k,b,e,f,D,l⟩
 ·subst f;obtain⟨z,hd,t,rel,i⟩:=md I.xb e;obtain⟨d,hw,j⟩:=g9.some_of (v:=v) (o:=valueAt t k) (by rw[l];exact rel.val k);exact wpAny_getItem_of (kN n) i.mapOf hw (h d _ (I.tok _) j)
 ·subst f;cases (show u=Value.ref b from n);obtain⟨z,hd,q,rel,i⟩:=nq I.xb e;obtain⟨d,hw,j⟩:=g9.some_of (v:=v) (o:=(atKey q k).map (·.2)) (by rw[l];exact rel.val k);obtain⟨p,C,G⟩:=Zv.mp hw;refine wpAny_getItem_heap (Ww x) (c9 I.xb D) i C ?_;rw[G];exact h d _ (I.tok _) j
def Ij{A:SB}(m:A.units+1<cLine)(I:Inv X pins O H s)(g:ip H a y o)(j:RelV y u)(h:∀i,Inv X pins O H i->Q (.bool o.isSome) i) :
  PP (KB X.prog X.w) A (UF .In u (.ref a)) Q E s:=by
 rcases g with⟨p,k,e,d,l⟩ | ⟨p,k,b,e,d,n,l⟩
 ·subst d;obtain⟨z,hd,x,rel,f⟩:=md I.xb e;refine wpAny_in_of (kN j) hd f.mapOf ?_;rw[← (rel.val k).IP,← l];exact h _ (I.tok _)
 ·subst d;cases (show u=Value.ref b from j);obtain⟨z,hd,t,rel,f⟩:=nq I.xb e;refine wpAny_in_heap (Ww m) (c9 I.xb n) hd f ?_;have q:=(rel.val k).IP;rw[Y5]at q;rw[← q,← l];exact h _ (I.tok _)
def AX{A:SB}(m:A.units+1<cLine)(I:Inv X pins O H s)(g:ip H a y o)(j:RelV y u)(h:∀i,Inv X pins O H i->Q (.bool (!o.isSome)) i) :
  PP (KB X.prog X.w) A (UF .NotIn u (.ref a)) Q E s:=by
 rcases g with⟨p,k,e,d,l⟩ | ⟨p,k,b,e,d,n,l⟩
 ·subst d;obtain⟨z,hd,x,rel,f⟩:=md I.xb e;refine wpAny_notIn_of (kN j) hd f.mapOf ?_;rw[← (rel.val k).IP,← l];exact h _ (I.tok _)
 ·subst d;cases (show u=Value.ref b from j);obtain⟨z,hd,t,rel,f⟩:=nq I.xb e;refine wpAny_notIn_heap (Ww m) (c9 I.xb n) hd f ?_;have q:=(rel.val k).IP;rw[Y5]at q;rw[← q,← l];exact h _ (I.tok _)
def jB{t':Nat}(I:Inv X pins O H s)(h:Ip (H a))(i:Heap.SameBut a s.heap d)(he:∃q,d.get? a=Z q)(g:aY X.prog X.w (upd H a f) d a f) :
  Inv X pins O (upd H a f) { s with heap:=d,toks:=t' } :=
 I.write (x:=a) (e:=a) h (.inl M) (λb q hb z=>(i.2 b hb).trans z) he g
def ny{f:UV}{e:List (Key×V)}(z:e.length<=KF)(g:(a==sysModules)=J)(d:KV e b)(h:f.DictOf (aF P w) a b) :
  aY P w i f a (.dK e):=⟨z,g,b,d,h⟩
def wA{A:SB}(S:A.units+1<cLine)(I:Inv X pins O H s)(g:uN H a y v N)(D:RelV y u)(F:RelV v r)(h:∀C,Inv X pins O N C->Q () C) :
  PP (KB X.prog X.w) A (setItem (.ref a) u r) Q E s:=by
 rcases g with⟨d,k,e,p,l,t⟩ | ⟨d,k,b,e,p,M,l,t⟩
 ·subst p t;obtain⟨z,hd,R,rel,x⟩:=lY I.xb e;have j:R.length<=sizeLine:=by rw[← rel.length];exact z
  have n:(putK d k v).length<=sizeLine:=by have:=eT d k v;lia
  refine wpAny_setItem_pairs (hsz:=j) (kN D) x λG i m=>h _ ?_;have he:∃q,G.get? a=Z q:=let ⟨q,_,_,f,_⟩:=i;⟨q,f⟩
  exact jB I (by rw[e];exact True.intro) m he (ny n hd (rel.put k F) i)
 ·subst p t;cases (show u=Value.ref b from D);obtain⟨z,hd,P,rel,x⟩:=G5 I.xb e;have j:P.length<=sizeLine:=by rw[← XR rel];exact z
  have n:(putK d k v).length<=sizeLine:=by have:=eT d k v;lia
  refine wpAny_setItem_heap (hsz:=j) (Ww S) (c9 I.xb M) x λG i m=>h _ ?_;obtain⟨q,es,ep,f,h2,h3,h4,_,U⟩:=i;refine jB I (by rw[e];exact True.intro) m ⟨q,f⟩ ⟨n,hd,_,(rel.put k M F).keeps λc ys L=>?_,q,es,ep,f,h2,h3,h4,U⟩;rw[ar (GU L e (λz=>nomatch z))];exact L
end
section
variable{H:Hp}
def G0(I:Inv X pins O H s)(e:Rd H a (.dK bt))(h:∀t b,Inv X pins O H b->Q (.int bt.length t) b):PP (KB X.prog X.w) A (call (.builtin "len") [.ref a]) Q E s:=by
 obtain⟨z,hd,f,rel,d⟩:=md I.xb e;refine call_len_dict hd d (by rw[← rel.length];rw[Wv]at z;lia) ?_;rw[← rel.length];exact h _ _ (I.tok _)
end
def rY(I:Inv X d O H s)(g:ip H a y o):s.TypeIs (.ref a) "dict" := by
 rcases g with⟨h,k,e,_,_⟩ | ⟨h,k,b,e,_,_,_⟩
 ·obtain⟨_,_,j,_,f⟩:=md I.xb e;exact f.typeIs
 ·obtain⟨_,_,i,_,f⟩:=nq I.xb e;exact f.typeIs
def rK{P:Re}{w:XAA}(h:UV)(a:sysModules<h.objs.size):aY P w H (h.push { cls:=.type "dict",data:=.dict #[] }) h.objs.size (.dK []) :=
 ⟨ZO _,ZE.mpr (Ye (Zc a)),[],.nil,Heap.DictOf.new h⟩
def E2:TE:=λ_ H Q=>∀p,H p=Y->Q (.ref p) (upd H p (.dK []))
section
def zR:PE X (.Dict [] [] pos) E2:=λb s O H Q I h =>
 wpAny_Dict_empty ⟨.ref s.heap.objs.size,_,I.laid (a:=s.heap.objs.size) (o:=.dK []) (t':=s.toks) (λ_ _ q=>Zj _ q) (Zo _) (rK s.heap I.big),rfl,h _ (I.xb.fresh (Zo _))⟩
end
noncomputable def uP:List (TE×TE)->St->Hp->(List (V×V)->Hp->Prop)->Prop
 |[],_,H,Q=>Q [] H
 | (b,a) :: r,O,H,Q=>b O H λx g=>a O g λy f=>uP r O f λd e=>Q ((x,y) :: d) e
abbrev VV:List (V×V)->List (On×On)->Prop:=Paired λp q=>RelV p.1 q.1/\RelV p.2 q.2
def PPs(X:Cx)(e:Pos)(d:List (Option Expr))(a:List Expr)(j:List (TE×TE)):Prop :=
 ∀(b:Yp)(s:IR)(O:St)(H:Hp)(Q:List (V×V)->Hp->Prop),Inv X b O H s->uP j O H Q →
  PP (KB X.prog X.w) X.A (evalPairs (pairTrees d a X.env e)) (λh i=>∃f g,Inv X b O g i/\VV f h/\Q f g) X.xe s
def wj:PPs X a [] [] []:=λb s O H Q I h=>pairTrees_nil_walk ⟨[],H,I,.nil,h⟩
def rH(w:PE X k f)(r:PE X v e)(t:PPs X b g d i) :
  PPs X b (Z k :: g) (v :: d) ((f,e) :: i):=λa s O H Q I h =>
 pairTrees_cons_walk (thn (w a s O H _ I h) λu s1 ⟨x,F,C,m,p⟩=>thn (r a s1 O F _ C p) λG j ⟨y,E,A,l,o⟩ =>
  thn (t a j O E _ A o) λws L ⟨q,D,z,rel,n⟩=>⟨(x,y) :: q,D,z,.cons ⟨m,l⟩ rel,n⟩)
def lO(d a:List (Key×V)):List (Key×V):=a.foldl (λacc b=>putK acc b.1 b.2) d
def KV.merge:∀{more:List (Key×V)}{d:List (Key×On)}{b:List (Key×V)}{a:List (Key×On)},KV more d->KV b a->KV (lO b more) (merged a d):=by
 intro more d b a r;unfold KV at r
 induction r generalizing b a with
 |nil=>intro q;exact q
 |@cons p q j i h t g =>
  intro f;have e:KV (putK b p.1 p.2) (stored a q.1 q.2):=by
   have:=f.put p.1 h.2;rw[← h.1];exact this
  exact g e
theorem jN:∀(more a:List (Key×V)),(lO a more).length<=a.length+more.length
 |[],a=>by show a.length<=a.length+0;exact ZJ _ _
 |p :: r,a=>by
  have d:=jN r (putK a p.1 p.2);have b:=eT a p.1 p.2;show (lO (putK a p.1 p.2) r).length<=_;rw[Za];lia
theorem oi{P:Re}{w:XAA}:∀{e:List (Key×V)}{ws:List (On×On)},VV (e.map λf=>(kV f.1,f.2)) ws->∃d,Carries (aF P w) ws d/\KV e d
 |[],_,r=>by rw[X7]at r;cases r;exact⟨[],True.intro,.nil⟩
 |p :: e,_,r=>by
  rw[Zn]at r;cases r with
  |@cons a b j bs h t =>
   obtain⟨d,c,q⟩:=oi (P:=P) (w:=w) t;obtain⟨i,g⟩:=b;exact⟨(p.1,g) :: d,⟨kN h.1,rfl,c⟩,.cons ⟨rfl,h.2⟩ q⟩
def FU(f:List (TE×TE)):TE:=λO H Q=>∀p,H p=Y->uP f O (upd H p (.dK [])) λe d=>d p=Z (.dK [])/\∃a:List (Key×V),e=a.map (λb=>(kV b.1,b.2))/\a.length<=15/\Q (.ref p) (upd d p (.dK (lO [] a)))
def vy(h:PPs X f b d l)(M:b.all (·.isSome)=B)(D:b.length=d.length)(F:b≠[])(i:b.length<=15):PE X (.Dict b d f) (FU l):=by
 intro g s O H Q I q;have C:=I.xb.fresh (Zo s.heap.objs.size);have N:=I.laid (a:=s.heap.objs.size) (o:=.dK []) (h':=s.heap.push { cls:=.type "dict",data:=.dict #[] }) (t':=s.toks) (λ_ _ q=>Zj _ q) (Zo _) (rK s.heap I.big);refine wpAny_Dict_walk (knd:=aF X.prog X.w) M D F i (thn (h g _ O _ _ N (q _ C)) λws R ⟨S,U,n,rel,e,j,G,lk,v⟩=>?_);subst G;obtain⟨r,c,t⟩:=oi (P:=X.prog) (w:=X.w) rel;obtain⟨z,hd,p,u,L⟩:=lY n.xb e;cases u;refine⟨r,c,L,λh' m y=>⟨.ref s.heap.objs.size,_,?_,rfl,v⟩⟩;have x:(lO [] j).length<=sizeLine:=by
  have E:=jN j [];rw[W0]at E;rw[Wv];lia
 have he:∃q,h'.get? s.heap.objs.size=Z q:=let ⟨q,_,_,A,_⟩:=m;⟨q,A⟩
 exact jB n (by rw[e];exact True.intro) y he (ny x hd (t.merge .nil) m)
structure M1(X:Cx)(o:Expr)(m:Str)(apos:Pos)(e:Expr)(oe:Pos):Prop where
 base:XAB o m X.env (eval o X.env)=eval o X.env
 RU:((backTo oe (Pv [e] X.env)).all (λx=>!x.1)&&(backToKw oe (SL [] X.env)).all (λx=>x.1.isSome)
  && decide (([e]:List Expr).length+([]:List Keyword).length+(if ([]:List Keyword).isEmpty then 0 else 1)<30))=true
 line:(apos.endLine==oe.line)=true
 trees:backTo oe (Pv [e] X.env)=[(false,eval e X.env)]
def IsD(H:Hp)(a:KM):Prop:=(∃b,Rd H a (.dK b))\/∃b,Rd H a (.dT b)
def Er(I:Inv X g O H s)(d:IsD H a) :
  s.TypeIs (.ref a) "dict" ∧ (∀b,Value.ref a=.ref b->∃f,s.heap.get? b=Z f/\f.dict=Y)/\(a==sysModules)=J:=by
 rcases d with⟨l,e⟩ | ⟨l,e⟩
 ·obtain⟨_,hd,n,_,h⟩:=md I.xb e;refine⟨h.typeIs,λb q=>?_,hd⟩;cases q;obtain⟨f,_,_,j,i,_⟩:=h;exact⟨f,j,i.2.1⟩
 ·obtain⟨_,hd,m,_,h⟩:=nq I.xb e;refine⟨h.typeIs,λb q=>?_,hd⟩;cases q;obtain⟨f,_,_,j,i,_⟩:=h;exact⟨f,j,i.2.1⟩
section
variable{H:Hp}
def EN{A:SB}(q:A.units+1<cLine)(I:Inv X pins O H s)(g:ip H a y o)(n:RelV y u)(h:∀j m,Inv X pins O H m->RelV (o.getD .non) j->Q j m) :
  PP (KB X.prog X.w) A (call (.builtin "dict.get") [.ref a,u]) Q E s:=by
 rcases g with⟨v,k,e,i,l⟩ | ⟨v,k,b,e,i,t,l⟩
 ·subst i;obtain⟨z,hd,x,rel,f⟩:=md I.xb e;refine call_meetsIn W6 f.typeIs PySem.F.entry_dict_get (PySem.F.args_dict_get_2 _ _) (meets_dict_get (aF X.prog X.w) a (kN n) hd) ⟨_,f.mapOf,h _ _ (I.tok _) ?_⟩;rw[l];exact(rel.val k).getD M
 ·subst i;cases (show u=Value.ref b from n);obtain⟨z,hd,p,rel,f⟩:=nq I.xb e;refine call_meetsIn W6 f.typeIs PySem.F.entry_dict_get (PySem.F.args_dict_get_2 _ _) (meetsH_dict_get (tupleKind (aF X.prog X.w)) a b hd) ⟨Ww q,k,p,c9 I.xb t,f,h _ _ (I.tok _) ?_⟩;rw[l];exact(rel.val k).getD M
end
def Fq(f e:TE):TE:=λO H Q=>f O H λx d=>∃a,x=.ref a/\IsD d a/\e O d λy b=>∃o,ip b a y o/\Q (o.getD .non) b
section
def AJ{X:Cx}(t:X.A.units+1<cLine)(v:PE X o td)(he:PE X e ty)(m:M1 X o "get" apos e oe):PE X (.Call (.Attribute o "get" apos) [e] [] oe) (Fq td ty):=by
 intro b s O H Q I h;refine wpAny_Call_method m.base m.RU m.line PySem.F.plainAttrs_dict W6 PySem.F.type_dict_get (thn (v b s O H _ I h) λu s1 ⟨x,E,i,p,a,ex,d,r⟩=>?_);subst ex;obtain rfl:u=Value.ref a:=p;obtain⟨l,j,_⟩:=Er i d;refine⟨l,j,?_⟩;rw[m.trees];refine Calls.callWith_builtin M (Calls.evalArgs_plain (Calls.spliced_cons (thn (he b s1 O E _ i r) λiv N ⟨y,D,C,n,P,g,q⟩=>Calls.spliced_nil ?_)));exact EN t C g n λG L z w=>⟨_,D,z,w,q⟩
end
end L2
namespace Att
open PySem PySem.W PySem.Calls PyProof.Rows
def mD:∀(ns:V3)(d:V0),WellAll P h d (ns.map WData.int)->IntsAre d ns:=by
 intro ns
 induction ns with
 |nil =>
  intro d w;rw[X7]at w;cases w;exact .nil
 |cons n ns e =>
  intro d w;rw[Zn]at w;cases w with
  |cons a b =>
   cases a;exact .cons _ _ (e _ b)
def xw{l:OpenLaw}(w:l.most=Z n)(f:l.row.toRowW.claim.pre b=B)(j:WellAll P h e b) :
  ∃a o ns,e=[Value.ref a]/\b=[WData.list (ns.map WData.int)]/\h.get? a=Z { cls:=.type "list",data:=.seq o.toArray }/\IntsAre o ns/\ns.length<=n:=by
 have m:WShape.hasAll [] b [.list .int]=B:=(pre_splitW f).1;have p:l.pre.holds [] { args:=b }=B:=(pre_splitW f).2;obtain⟨d,r,rfl,z,y⟩:=hasAllW_cons m;obtain rfl:=hasAllW_nil y;obtain⟨C,rfl,x⟩:=hasW_list z;obtain⟨ns,rfl⟩:=items_int x;have hlen:ns.length<=n:=by
  unfold OpenLaw.pre at p;have i:(WTm.not (.lt (.lit (.int (n:Int))) (.len (.arg 0)))).holds [] { args:=[.list (ns.map .int)] }=B:=by
   have i:=(holds_andW p).1;rw[w]at i;exact i
  have g:=condW_of i (w_not (w_lt w_lit (w_len_list (w_arg M))));rw[Zy]at g;refine Z7 λq=>?_;have u:(n:Int)<((ns.length:Nat):Int):=by omega
  first
   | (rw[decide_eq_true u]at g;exact absurd g (by decide))
   | (simp at g;omega)
 cases j with
 |cons t s =>
  cases s;cases t with
  |list v A=>exact⟨_,_,ns,rfl,rfl,v,mD ns _ A,hlen⟩
def wW(l:OpenLaw)(a:List WData):l.row.toRowW.claim.post a (.bool B) a=B :=
 postW_of (r:=l.row.toRowW) (X:=(B==B))
  (show WShape.has [] (.bool B) .bool=B by first | rfl | decide | simp[WShape.has,WShape.arms,WShape.armsAll])
  (show (WTm.eq .res (.lit (.bool B))).value [] { args:=a,res:=Z (.bool B),after:=a }=Z (.bool (B==B)) from w_eq_bool (w_res M) w_lit) M
def tF{l:OpenLaw}{d:DefRec}(F:l.most=Z n)(R:d.params.defaults=[])(j:∀(w:XAA)(p b:IR)(mg s:Wc)(i:KM)(o:Obj)(pm cd doc:On)(a:KM)(g:V0)(ns:V3),
   Ground q e [] A w p mg s b.heap->z w b.heap →
   b.heap.get? i=Z o->o.data=.func (docDef d.name d.params d.body d.scope pm cd doc)->b.heap.CodeRec cd d.name->mg d.name=Z (.ref i) →
   b.heap.get? a=Z { cls:=.type "list",data:=.seq g.toArray }->IntsAre g ns->ns.length<=n->b.gens=#[] →
   codeAny (KB l.prog w) callerA (.call (.ref i) ⟨[.ref a],[]⟩) (λr m=>r=.ok (.ret (.bool B))/\OldK b.heap m.heap/\m.os=b.os/\AllBare m.gens) b) :
  WalkO q e A z l.row.toRowW d [] (λf g=>PySem.call f g):=by
 intro w p b mg s G Y i o pm cd doc P kV E hd v y u hg args vals S h x C t L;obtain rfl:P=.none:=Dflts.none y R;obtain rfl:kV=.none:=Dflts.noKw y;obtain⟨a,g,ns,rfl,rfl,Q,hints,hlen⟩:=xw F h t;refine enter_call (codeAny_mono (j w p b mg s i o pm cd doc a g ns G Y E (fd_plain hd) v u Q hints hlen hg) λr m D=>?_);obtain⟨rfl,O,N,M⟩:=D;exact⟨.inl ⟨.bool B,.bool B,[],rfl,λ_=>rfl,.bool B,wW l _,λ_=>⟨List.Pairwise.nil,λ_ H=>(nomatch H)⟩⟩,O,N,M⟩
end Att
namespace L2
open PySem PySem.Spec PyProof.Rows
theorem lT:∀{a:V0}{ns:V3},IntsAre a ns->aN (ns.map V.int) a
 |_,_,.nil=>.nil
 |_,_,.cons n t h=>.cons ⟨t,rfl⟩ (lT h)
noncomputable def zP(H:Hp):Prop:=∀b,H b=Y\/∃o a,H b=Z (.frz o (.lst a))
def AD{K:X6}{f:IR}{j:V0}(KX:K.In f.heap)(RH:f.heap.Ns mainGlobals t)(g:f.heap.Ns builtinsNs G)(WT:∀x:Str,x ≠ "__name__" → G x=bootBuiltins x)(Tp:f.heap.NoLimit)(hg:f.gens=#[])(D:f.heap.get? a=Z { cls:=.type "list",data:=.seq j.toArray })(U:IntsAre j p)(S:p.length<=KF)(hr:xa k callerA)(F:∀base:UV,K.In base->base.Ns mainGlobals t->FnOk P w K t base CX k N fd [x] Q)(QA:∀(s:IR)(u:On),BindsTo s fd ⟨[u],[]⟩ [(x,u)])(MS:∀H:Hp,zP H->Iw K H a (p.map V.int)->Q [.ref a] H (λv _=>v=.bl B) λ_ _ _=>False)(TY:∀H e i,CX [] H f (λ_ _ _=>False) e i->False) :
  codeAny (KB P w) callerA (.call (.ref N) ⟨[.ref a],[]⟩) (λr i=>r=.ok (.ret (.bool B))/\OldK f.heap i.heap/\i.os=f.os/\AllBare i.gens) f:=by
 have R:=lT U;have SW:=U.length;have core:∀H:Hp,zP H->Iw K H a (p.map V.int)->Jv P w H f.heap->(∀b,H b≠Y->b=a)->(H a≠Y->K.lookup a=Y) →
   codeAny (KB P w) callerA (.call (.ref N) ⟨[.ref a],[]⟩) (λr i=>r=.ok (.ret (.bool B))/\OldK f.heap i.heap/\i.os=f.os/\AllBare i.gens) f:=by
  intro H X hS xb hA hK;have L4:∀{b:KM}{o:Obj},f.heap.get? b=Z o->H b=Y->(o5 f.heap H).get? b=Z o:=λe n=>Am e n;have PU:∀{b:KM}{o:Obj}{A:Array DictEntry}{C:Nat},f.heap.get? b=Z o->o.data=.dict A C->H b=Y:=λ{b o A C} e d=>by
   cases q:H b with
   |none=>rfl
   |some u =>
    have O:b=a:=hA b (by rw[q];simp);subst O;rw[D]at e;cases e;have d':Data.seq j.toArray _=Data.dict A C:=d;cases d'
  have E:∀{b:KM}{m:Wc},f.heap.Ns b m->(o5 f.heap H).Ns b m:=λ{b m} ⟨o,A,C,e,d,r⟩=>⟨o,A,C,L4 e (PU e d),d,r⟩
  have y:K.In (o5 f.heap H):=λb o e=>L4 (KX b o e) (by
   cases q:H b with
   |none=>rfl
   |some u =>
    have O:b=a:=hA b (by rw[q];simp);subst O;rw[hK (by rw[q];simp)]at e;cases e)
  have hM:Mod K t (o5 f.heap H):=⟨y,E RH,⟨G,E g,WT⟩,let ⟨mc,h1,h2⟩:=Tp;⟨mc,E h1,h2⟩⟩
  have e0:Env0 P w K t (o5 f.heap H) callerA [] f H:=⟨rfl,hM,λb q e=>(Ci.mp e).1,λb o e=>CM e,Xw (xI _ _),trivial,λb g=>absurd (show b∈([]:Wa) from g) (by simp),xb,.of_eq hg⟩
  refine codeAny_mono ((F _ y (E RH)).run callerA [] f H ⟨[.ref a],[]⟩ [.ref a] [.ref a] _ _ hr e0 (QA f (.ref a)) (.cons M .nil) (MS H X hS)) λr i h=>?_;cases r with
  |error e=>exact(TY H e i h).elim
  |ok fl =>
   cases fl with
   |next=>exact False.elim h
   |brk=>exact False.elim h
   |cont=>exact False.elim h
   |ret u =>
    obtain⟨v,H',os,bare,un,Ti,r',q⟩:=h;have q':v=.bl B:=q;subst q';obtain rfl:u=Value.bool B:=r';refine⟨rfl,OldK.of_keep λb o e=>?_,os,bare⟩;cases q:H b with
    |none=>exact un.keep b o e q (by intro z;exact absurd (show b∈([]:Wa) from z) (by simp)) (by simp)
    |some u =>
     rcases X b with z | ⟨ob,xs,z⟩
     ·rw[q]at z;cases z
     ·have z2:=un.KQ b ob _ z;obtain⟨e1,_⟩:=xb b _ z;obtain⟨e2,_⟩:=Ti b _ z2;rw[e]at e1;cases e1;exact e2
 cases L:K.lookup a with
 |some o =>
  have e:=KX a o L;rw[D]at e;cases e;refine core (λ_=>Y) (λ_=>.inl M) (.inr ⟨_,j.toArray,_,L,rfl,rfl,rfl,by rw[ZQ,SW];exact S,by simpa using R⟩) (λb u z=>by have l:(Y:Option HO)=Z u:=z;cases l) (λb z=>absurd M z) λz=>absurd M z
 |none =>
  refine core (λb=>if b=a then Z (.frz { cls:=.type "list",data:=.seq j.toArray } (.lst (p.map V.int))) else Y) (λb=>?_) (.inl (.inr ⟨{ cls:=.type "list",data:=.seq j.toArray },Zr M⟩)) (λb u z=>?_) (λb z=>?_) λ_=>L
  ·by_cases g:b=a
   ·exact .inr ⟨_,_,Zr g⟩
   ·exact .inl (Zm g)
  ·by_cases g:b=a
   ·have l:=(Zr g).symm.trans z;cases l;subst g;exact⟨D,by rw[Zy];exact S,j,_,R,D⟩
   ·have l:=(Zm g).symm.trans z;cases l
  ·by_cases g:b=a
   ·exact g
   ·exact absurd (Zm g) z
def BC{l:PySem.W.OpenLaw}{n k:Nat}{d:DefRec}{K:Params->X6}{CX:XAA->Mv}{sp:XAA->Sp}{x:Str}(C:l.most=Z n)(Q:n<=KF)(S:d.params.defaults=[])(A:xa k callerA)(E:∀(w:XAA)(h:UV),t w h->(K w.params).In h)(F:∀(w:XAA)(mg:Wc)(j:KM)(h:UV),(K w.params).In h->h.Ns mainGlobals mg->mg d.name=Z (.ref j) →
   ∃fd:P3,(∀(s:IR)(u:On),BindsTo s fd ⟨[u],[]⟩ [(x,u)]) ∧
    ∀base:UV,(K w.params).In base->base.Ns mainGlobals mg->FnOk l.prog w (K w.params) mg base (CX w) k j fd [x] (sp w))(U:∀(w:XAA)(H:Hp)(a:KM)(ns:V3),ns.length<=n->zP H->Iw (K w.params) H a (ns.map V.int)->sp w [.ref a] H (λv _=>v=.bl B) λ_ _ _=>False)(P:∀(w:XAA)(H:Hp)(s:IR)(e:On)(m:IR),CX w [] H s (λ_ _ _=>False) e m->False) :
  PySem.W.WalkO q i O t l.row.toRowW d [] (λf r=>PySem.call f r):=by
 refine Att.tF C S λw X z mg mb j o pm cd doc a r ns G Y ho hd D p R hints hlen hg=>?_;have y:=E w _ Y;obtain⟨fd,hb,N⟩:=F w mg j _ y G.T.g p;exact AD y G.T.g G.T.b G.T.builtins G.T.nolimit hg R hints (ZC hlen Q) A N hb (λH M L=>U w H a ns hlen M L) λH e m=>P w H z e m
noncomputable def inClass(s:Stmt)(j:Nat):Stmt:=match s with
 |.ClassDef _ _ _ body _ _ _ _ _ _ _=>body.getD j (.Pass ⟨0,0,0,0⟩)
 |_=>.Pass ⟨0,0,0,0⟩
noncomputable def cQ(s:Stmt):Arguments:=match s with
 |.FunctionDef _ a _ _ _ _ _ _ _ _=>a
 |_=>{ posonlyargs:=[],args:=[],vararg:=Y,kwonlyargs:=[],kw_defaults:=[],kwarg:=Y,defaults:=[] }
noncomputable def aX(s:Stmt):List Stmt:=match s with
 |.FunctionDef _ _ b _ _ _ _ _ _ _=>b
 |_=>[]
noncomputable def ah(s:Stmt):Scope:=match s with
 |.FunctionDef _ _ _ _ _ _ sc _ _ _=>sc
 |_=>{ kind:=.function,names:=[],isGenerator:=J,isCoroutine:=J }
noncomputable abbrev Jh:Mv:=λ_ _ _ _ _ _=>False
noncomputable abbrev E0:XK:=λ_ _ _=>False
def ma{X:Cx}:i8 Jh X E0:=λ_ _ _ _ _ _ _ h=>h.elim
structure IA(K:X6)(x qual:Str)(st:Stmt)(f:KM)(fd:P3):Prop where
 ex:∃(oc:On)(od:Option KM)(kV doc pm:On)(an:Option KM)(Im ct:On)(Lo:Array (V1)),
  fd=PySem.W.fnOf x qual (cQ st) (aX st) (ah st) .none kV doc pm an Im ct/\K.lookup f=some ⟨oc,od,.func fd,Lo⟩/\PySem.W.codeIn K Im qual=true
 kp:PySem.W.keepIn K (.ref f)=true
section
variable{K:X6}
def IA.ok{g:Sp}(F:IA K x a d f m)(S:gV N i (ah d))(j:∀b H Q E,g b H Q E->b.length=i.length)(p:∀(e:On)(A:SB)(outer:List Env)(s:IR)(H:Hp)(b:List V)(Q:VK)(E:XK),xa k (A.deeper (envOfC a (ah d) s.heap.objs.size f e))->g b H Q E →
   ∃t,Kf (jL Jh P w K mg base N a (ah d) f e A outer s H E).Lv (aX d) t/\t { nx:=λ_ r=>Q .non r,rt:=Q } (start N b) H):FnOk P w K mg base Jh (k+1) f m i g:=by
 obtain⟨oc,u,kV,doc,pm,an,e,ct,v,rfl,lk,l⟩:=F.ex;refine C9 lk l S j λA outer s H b Q E n o=>?_;obtain⟨t,h,q⟩:=p e A outer s H b Q E n o;exact⟨t,h.Lv,q⟩
def IA.binds{e:List Str}(F:IA K x a b f i)(h:∀(kV doc pm:On)(an:Option KM)(g ct:On)(d:V0),d.length=e.length->bindArgs (PySem.W.fnOf x a (cQ b) (aX b) (ah b) .none kV doc pm an g ct) ⟨d,[]⟩=pure (e.zip d)):Binds K i e []:=by
 obtain⟨oc,l,kV,doc,pm,an,g,ct,m,rfl,lk,j⟩:=F.ex;exact .all (h kV doc pm an g ct)
def yQ{st:Stmt}(l:K.lookup f=Z ⟨m,j,.func (PySem.W.fnOf x a (cQ st) (aX st) (ah st) .none g b e i d h),n⟩)(c:PySem.W.codeIn K d a=B)(k:PySem.W.keepIn K (.ref f)=B):IA K x a st f (PySem.W.fnOf x a (cQ st) (aX st) (ah st) .none g b e i d h):=⟨⟨m,j,g,b,e,i,d,h,n,rfl,l,c⟩,k⟩
end
def kU(a:xa k A):A.units+1<cLine:=Xh (Nat.add_le_add_left (by decide:1<=64) _) a.units
def BE{A B:Prop}(h:B):if J=true then A else B:=by
 rw[Zm Zf];exact h
def Ck{A B:Prop}(h:A):if true=true then A else B:=by
 rw[Zr M];exact h
noncomputable def aG(H a:Hp):Prop:=∀b o,H b=Z o->a b=Z o
def aG.refl(H:Hp):aG H H:=λ_ _ h=>h
def aG.trans{e:Hp}(a:aG H e)(b:aG e d):aG H d:=λc o h=>b c o (a c o h)
def aG.free(e:aG H a)(h:a l=Y):H l=Y:=by
 cases q:H l with
 |none=>rfl
 |some o =>
  rw[e l o q]at h;cases h
end L2
end
section
namespace NK
open PySem PySem.Spec PyProof.Rows
variable{K:Type}[DecidableEq K]
inductive Ju{prog:Re}{w:XAA}(knd:KeyKind prog w K)(h:UV):List (List K)->V0->Prop
 |nil:Ju knd h [] []
 |cons {k:List K} {b:KM} {ks:List (List K)} {vs:V0}:IsTupleKey knd h k b->Ju knd h ks vs->Ju knd h (k :: ks) (.ref b :: vs)
def Ln(b:KeyKind prog w K)(h:UV)(d:List (List K))(a:KM):Prop:=∃o items n,h.get? a=Z o/\o.cls=.type "tuple" ∧ o.data=.seq items n/\Ju b h d items.toList
def Ju.fn{prog:Re}{w:XAA}{knd:KeyKind prog w K}{h:UV}{x y:List (List K)}{b:V0}(e:Ju knd h x b):Ju knd h y b->x=y:=by
 induction e generalizing y with
 |nil=>intro a;cases a;rfl
 |cons g _ d =>
  intro a;cases a with
  |cons f t=>rw[g.inj f,d t]
def Ln.ty{prog:Re}{w:XAA}{knd:KeyKind prog w K}{s:IR}{b:List (List K)}{a:KM}(x:Ln knd s.heap b a):s.TypeIs (.ref a) "tuple" := let ⟨o,_,_,g,c,_⟩:=x;⟨o,g,c⟩
theorem Ln.fn{prog:Re}{w:XAA}{knd:KeyKind prog w K}{h:UV}{a:KM}{x y:List (List K)}(m:Ln knd h x a)(l:Ln knd h y a):x=y:=by
 obtain⟨o,r,n,g,_,d,i⟩:=m;obtain⟨p,b,q,e,_,f,j⟩:=l;rw[g]at e;cases e;rw[d]at f;cases f;exact i.fn j
theorem Ju.keeps{prog:Re}{w:XAA}{knd:KeyKind prog w K}{h e:UV}{b:List (List K)}{a:V0}{d:KM}{o:Obj}{es ep}(x:Ju knd h b a)(i:h.get? d=Z o)(j:o.data=.dict es ep)(g:Heap.SameBut d h e):Ju knd e b a:=by
 induction x with
 |nil=>exact .nil
 |cons l _ f=>exact .cons (l.keeps i j g) f
theorem Ln.keeps{prog:Re}{w:XAA}{knd:KeyKind prog w K}{h m:UV}{e:List (List K)}{a d:KM}{o:Obj}{es ep}(x:Ln knd h e a)(j:h.get? d=Z o)(l:o.data=.dict es ep)(f:Heap.SameBut d h m):Ln knd m e a:=by
 obtain⟨p,q,n,g,c,b,i⟩:=x;refine⟨p,q,n,(f.2 a λz=>?_).trans g,c,b,i.keeps j l f⟩;subst z;rw[j]at g;cases g;rw[l]at b;cases b
noncomputable def xU(a:KeyKind prog w K)(b:List (List K)):Int:=reduceHash (Builtin.Tuple.tupleHashOf (b.map (tupleKeyHash a)))
noncomputable def uD(a:List (List K)):Nat:=(a.map λk=>k.length+1).sum+1
def CA{prog:Re}{w:XAA}{knd:KeyKind prog w K}{A:SB}{E:Yy}{s:IR}{e:List (List K)}{a:KM}{Q:Int->IR->Prop}(j:A.units+1<cLine)(p:Ln knd s.heap e a)(q:Q (xU knd e) { s with toks:=s.toks+uD e }):PP (KB prog w) A (pyHash (.ref a)) Q E s:=by
 have ty:=p.ty;obtain⟨o,C,n,g,_,d,i⟩:=p;unfold pyHash
 first | unfold pyHashByItsType | skip
 first | refine Zu (wpAny_cRoomFor_or (.inr (Y6 j)) ?_) | skip
 refine Zu (WV ty W4.lookup ?_);refine(show PP _ _ (if (Z (Value.builtin "tuple.__hash__")==Z Value.none)=B then _ else _) Q E s from ?_);rw[Zm (λz=>by rw[beq_builtin_none]at z;cases z)];refine Zu (WV ty W4.lookup (Zu (wpAny_callSpecialIfBoundUnlessNone?_slot ty W4 (Xd W4 ty F.entry_tuple_hash (Zu (m:=Builtin.Tuple.tupleItemsOf (.ref a)) (wpAny_tupleItemsOf g d (Zu ?_))) (F.args_tuple_hash_1 _)))));rw[← WW];refine We _ (λrest (b:Array Int) f=>∃x y,e=x++y/\Ju knd s.heap y rest/\b.toList=x.map (tupleKeyHash knd)/\f={ s with toks:=s.toks+(x.map λk=>k.length+1).sum }) _ ?turn ?fin _ _ ⟨[],e,rfl,i,rfl,rfl⟩
 case turn =>
  rintro v rest b f ⟨x,y,rfl,h,hb,rfl⟩;cases h with
  |@cons k c t _ u r =>
   refine Zu (wpAny_pyHash_tuple (s:={ s with toks:=s.toks+(x.map λk=>k.length+1).sum }) (by show A.in1.units<cLine;exact j) u ?_)
   first
    |exact Zh ⟨x++[k],t,by simp,r,by simp[hb],by simp[XE]⟩
    |exact Zu (Zh (Zh ⟨x++[k],t,by simp,r,by simp[hb],by simp[XE]⟩))
 case fin =>
  rintro b f ⟨x,y,rfl,h,hb,rfl⟩;cases h;rw[ZM]at q;refine(show PP _ _ (retInt (Builtin.Tuple.tupleHashOf b.toList)) _ _ _ from ?_);rw[hb];refine wpAny_ret_mkInt ?_;unfold xU reduceHash uD at q;refine(show PP _ _ (if (decide (-(2:Int) ^ 63<=Builtin.Tuple.tupleHashOf (x.map (tupleKeyHash knd)))&&decide (Builtin.Tuple.tupleHashOf (x.map (tupleKeyHash knd))<2 ^ 63))=B then _ else _) Q E _ from ?_);by_cases l:(decide (-(2:Int) ^ 63<=Builtin.Tuple.tupleHashOf (x.map (tupleKeyHash knd)))&&decide (Builtin.Tuple.tupleHashOf (x.map (tupleKeyHash knd))<2 ^ 63))=B
  ·rw[Zr l]at q ⊢;exact Zh (by simpa[XE] using q)
  ·rw[Zm l]at q ⊢;exact Zu (wpAny_rule (Zh (by simpa[XE] using q)))
def Bx{prog:Re}{w:XAA}{knd:KeyKind prog w K}{A:SB}{E:Yy}{s:IR}{x y:List (List K)}{a b:KM}{P:PySem.Fin->IR->Prop}(S:A.units<cLine)(R:Ln knd s.heap x a)(F:Ln knd s.heap y b)(q:P (.done (.ret (.bool (decide (x=y))))) s):PP (KB prog w) A (Builtin.«tuple.__eq__» ⟨[.ref a,.ref b],[]⟩) P E s:=by
 have ty:=F.ty;obtain⟨oa,i,na,ga,_,da,Q⟩:=R;obtain⟨ob,g,nb,gb,_,db,O⟩:=F;refine(show PP _ _ (isInstance (.ref b) (.type "tuple")>>=_) _ _ s from Zu (W9 ty Vp ?_));simp only[Wm,Yf,↓reduceIte];refine Zu (wpAny_tupleItemsOf ga da (Zu (wpAny_tupleItemsOf gb db (Zu ?_))));refine We _ (λrest r l=>r.1=Y/\l=s/\∃j h e f,rest=List.zip e f/\Ju knd s.heap j e/\Ju knd s.heap h f/\decide (j=h)=decide (x=y)/\(e.length==f.length)=(i.size==g.size)) _ ?turn ?fin _ _ ⟨rfl,rfl,x,y,i.toList,g.toList,rfl,Q,O,rfl,by simp⟩
 case turn =>
  rintro⟨u,v⟩ rest r l ⟨t,rfl,j,h,e,f,d,C,m,n,hlen⟩;cases C with
  |nil=>simp at d
  |@cons N c1 x2 p h1 H =>
   cases m with
   |nil=>simp at d
   |@cons L c2 D o X G =>
    simp only[ZU,W3,Prod.mk.injEq]at d;obtain⟨⟨rfl,rfl⟩,rfl⟩:=d;refine Zu (wpAny_eqBool_tuple S h1 X ?_);by_cases z:N=L
    ·subst z;rw[decide_eq_true M];simp only[Wm,Yf,↓reduceIte];refine Zh ⟨rfl,rfl,x2,D,p,o,rfl,H,G,?_,by simpa using hlen⟩;rw[← n];by_cases Mi:x2=D<;>simp[Mi]
    ·rw[ZI z];simp only[Bool.not_false,↓reduceIte];have U:decide (x=y)=J:=by rw[← n];simp[z]
     rw[U]at q;exact Zu (Zh (Zh (Zh q)))
 case fin =>
  rintro⟨r1,r2⟩ l ⟨t,rfl,j,h,e,f,d,C,m,n,hlen⟩;simp only at t;subst t;have TC:(i.size==g.size)=decide (x=y):=by
   rw[← n,← hlen];cases C with
   |nil=>cases m<;>simp
   |cons _ _ =>
    cases m with
    |nil=>simp
    |cons _ _=>simp at d
  refine Zh (show P (.done (.ret (.bool (i.size==g.size)))) l from ?_);rw[TC];exact q
def GF{prog:Re}{w:XAA}{knd:KeyKind prog w K}{A:SB}{E:Yy}{s:IR}{x y:List (List K)}{a b:KM}{Q:Bool->IR->Prop}(h:A.units+1<cLine)(d:Ln knd s.heap x a)(f:Ln knd s.heap y b)(q:Q (decide (x=y)) s):PP (KB prog w) A (eqBool (.ref a) (.ref b)) Q E s:=by
 unfold eqBool
 try with_reducible refine YE ?_
 refine(show PP _ _ (if (Value.ref a==Value.ref b)=B then _ else _) Q E s from ?_);by_cases g:(Value.ref a==Value.ref b)=B
 ·rw[Zr g];have e:a=b:=by have:=eq_of_beq g;injection this
  subst e;obtain rfl:=d.fn f;exact Zu (wpAny_rule (Zh (by simpa using q)))
 ·rw[Zm g];exact Zu (wpAny_richCompare_same_room (op:=.Eq) d.ty f.ty Vr (Xd Vr d.ty F.entry_tuple_eq (Bx (by show A.in1.units<cLine;exact h) d f ⟨_,rfl,(λe=>nomatch e),Xv q⟩) (F.args_tuple_eq_2 _ _)) (Y6 h))
def xm{prog:Re}{w:XAA}{knd:KeyKind prog w K}{A:SB}{E:Yy}{s:IR}{j:List K}{n:Nat}{a:KM}{Q:Bool->IR->Prop}(f:IsTupleKey knd s.heap j a)(q:Q B s):PP (KB prog w) A (eqIsQuiet (n+1) (.ref a)) Q E s:=by
 have ty:=f.typeIs;obtain⟨o,l,m,g,_,d,i⟩:=f;unfold eqIsQuiet;refine Zu (WV ty Vr.lookup (show PP _ _ (isInstance (.ref a) (.type "tuple")>>=_) _ _ s from Zu (W9 ty Vp ?_)));simp only[Wm,Yf,↓reduceIte];refine Zu (wpAny_seqItems g d (Zu (show PP _ _ (forIn l _ _) _ _ s from ?_)));rw[← WW];refine We _ (λrest r b=>r.1=Y/\b=s/\∀v∈rest,carriedByValue v=B) _ ?turn ?fin _ _ ⟨rfl,rfl,i.byValue⟩
 case turn =>
  rintro v rest r b ⟨e,rfl,h⟩;rw[eqIsQuiet_byValue _ (h v Zx)];refine Zu (Zh ?_);simp only[Wm,Yf,↓reduceIte];exact Zh ⟨rfl,rfl,λu p=>h u (Zw _ p)⟩
 case fin =>
  rintro⟨r1,r2⟩ b ⟨e,rfl,_⟩;simp only at e;subst e;exact Zh q
def Aw{prog:Re}{w:XAA}{knd:KeyKind prog w K}{A:SB}{E:Yy}{s:IR}{f:List (List K)}{a:KM}{Q:Bool->IR->Prop}(h:Ln knd s.heap f a)(q:Q B s):PP (KB prog w) A (eqIsQuiet 8 (.ref a)) Q E s:=by
 have ty:=h.ty;obtain⟨o,l,m,g,_,d,i⟩:=h;unfold eqIsQuiet;refine Zu (WV ty Vr.lookup (show PP _ _ (isInstance (.ref a) (.type "tuple")>>=_) _ _ s from Zu (W9 ty Vp ?_)));simp only[Wm,Yf,↓reduceIte];refine Zu (wpAny_seqItems g d (Zu (show PP _ _ (forIn l _ _) _ _ s from ?_)));rw[← WW];refine We _ (λrest r b=>r.1=Y/\b=s/\∃j,Ju knd s.heap j rest) _ ?turn ?fin _ _ ⟨rfl,rfl,f,i⟩
 case turn =>
  rintro v rest r b ⟨e,rfl,j,n⟩;cases n with
  |cons t p =>
   refine Zu (xm t ?_);simp only[Wm,Yf,↓reduceIte];exact Zh ⟨rfl,rfl,_,p⟩
 case fin =>
  rintro⟨r1,r2⟩ b ⟨e,rfl,_⟩;simp only at e;subst e;exact Zh q
def nest{prog:Re}{w:XAA}(a:KeyKind prog w K):HeapKind prog w (List (List K)) where
 is:=Ln a
 hash:=xU a
 draws:=uD
 room:=λA=>A.units+1<cLine
 inj:=λd b=>d.fn b
 keeps:=λx h hd g=>x.keeps h hd g
 pyHash:=λe f q=>CA e f q
 eqBool:=λe d b q=>GF e d b q
 quiet:=λf q=>Aw f q
end NK
end
section
namespace L2
open PySem PySem.Spec PyProof.Rows
abbrev cA:=List (List Key)
def hN(w:XAA)(k:cA):Int:=reduceHash (Builtin.Tuple.tupleHashOf (k.map λx=>reduceHash (Builtin.Tuple.tupleHashOf (x.map (GP w)))))
def HN(w:XAA)(x:cA×KM×On):DictEntry:=⟨hN w x.1,.ref x.2.1,x.2.2⟩
abbrev KN:List (cA×KM×V)->List (cA×KM×On)->Prop:=Paired λp q=>p.1=q.1/\p.2.1=q.2.1/\RelV p.2.2 q.2.2
def DN(a:KM)(e:List (cA×KM×V)):HO:=.ext λw h=>e.length<=KF/\(a==sysModules)=J/\∃b:List (cA×KM×On),KN e b ∧
 ∃o d f,h.get? a=Z o/\o.ExactDict/\o.data=.dict d f/\d.toList=b.map (HN w)/\(b.map (·.1)).Nodup
def LO(H:Hp)(k:cA)(b:KM):Prop:=∃a:Wa,H b=Z (.tup (a.map V.ref))/\Paired (λ(x:List Key) (c:KM)=>H c=Z (.tup (x.map kV))) k a
def LO.mono{k:cA}(x:LO H k b)(t:∀a d,H a=Z (.tup d)->e a=Z (.tup d)):LO e k b:=by
 obtain⟨f,h,r⟩:=x;exact⟨f,t _ _ h,Paired.Nk r λ_ _ z=>t _ _ z⟩
section
variable{H:Hp}
def LO.is(d:Jv P w H h)(x:LO H k b):NK.Ln (aF P w) h k b:=by
 obtain⟨F,e,r⟩:=x;obtain⟨l,f,v,_,o,j,i,n,g⟩:=(show aY P w H h b (.tup (F.map V.ref)) from d b _ e)
 refine⟨o,f.toArray,n,j,i,g,?_⟩;rw[List.toList_toArray];clear e j i g l
 induction r generalizing f with
 |nil =>
  rw[X7]at v;cases v;exact .nil
 |@cons x c L E y _ s =>
  rw[Zn]at v;cases v with
  |@cons _ u _ _ z t =>
   obtain rfl:=(show u=Value.ref c from z)
   obtain⟨_,G,m,_,p,D,C,q,A⟩:=(show aY P w H h c (.tup (x.map kV)) from d c _ y)
   exact .cons ⟨p,G.toArray,q,D,C,A,by simpa using lj m⟩ (s _ t)
def Dp(i:Jv P w H h)(e:H a=Z (DN a f))(s:∀p∈f,LO H p.1 p.2.1):f.length<=KF/\(a==sysModules)=J ∧
  ∃g,KN f g/\h.DictOfH (NK.nest (aF P w)) a g:=by
 obtain⟨⟨z,y,g,r,o,G,L,F,E,D,C,A⟩,_⟩:=(show aY P w H h a (DN a f) from i a _ e)
 refine⟨z,y,g,r,o,G,L,F,E,D,C,λx d=>?_,A⟩;have all:∀{l:List (cA×KM×V)}{m:List (cA×KM×On)},KN l m->(∀p∈l,LO H p.1 p.2.1)->∀x∈m,NK.Ln (aF P w) h x.1 x.2.1:=by
  intro l m q
  induction q with
  |nil=>intro _ x d;exact nomatch d
  |@cons p q N M j t u =>
   intro n x d;rcases Zk.mp d with e | d
   ·subst e;rw[← j.1,← j.2.1];exact(n p Zx).is i
   ·exact u (λp v=>n p (Zw _ v)) x d
 exact all r s x d
def zX{q:UV}{p:List (cA×KM×V)}{xs:List (cA×KM×On)}(z:p.length<=KF)(f:(a==sysModules)=J)(d:KN p xs)(r:q.DictOfH (NK.nest (aF P w)) a xs) :
  aY P w s q a (DN a p):=by
 obtain⟨o,m,n,e,l,j,i,_,g⟩:=r;refine⟨⟨z,f,xs,d,o,m,n,e,l,j,i,g⟩,⟨o,e⟩,?_⟩;rintro u t ⟨z,f,xs,d,o,m,n,e,l,j,i,g⟩ k;exact⟨z,f,xs,d,o,m,n,k _ e,l,j,i,g⟩
theorem KN.length{m:List (cA×KM×On)}(r:KN l m):l.length=m.length:=XR r
noncomputable def Mr(d:List (cA×KM×V))(k:cA):Option V:=(d.find? λx=>decide (x.1=k)).map (·.2.2)
def KN.at{l:List (cA×KM×V)}{m:List (cA×KM×On)}(r:KN l m)(k:cA):g9 (Mr l k) ((atKey m k).map (·.2)):=by
 unfold Mr atKey
 induction r with
 |nil=>exact(show g9 Y Y from trivial)
 |@cons p q i g d t f =>
  rw[Z9,Z9,← d.1];by_cases e:p.1=k
  ·simp only[e,decide_true,YU];exact d.2.2
  ·simp only[e,decide_false];exact f
def KN.add(r:KN l m){p:cA×KM×V}{q:cA×KM×On}(x:p.1=q.1/\p.2.1=q.2.1/\RelV p.2.2 q.2.2):KN (l++[p]) (m++[q]):=by
 induction r with
 |nil=>exact .cons x .nil
 |cons h _ d=>exact .cons h d
end
end L2
end
section
namespace VS
open PySem PySem.Spec PyProof.Rows L2
noncomputable def sx(s:Tx):Str:=⟨s.toArray⟩
def mn(s:Tx):Prop:=s.length<=eu/\∀c∈s,c<1114112
noncomputable abbrev Me:=Nat->Option V
structure Gx where
 K:X6
 ct:Nat->KM×(Nat->Str)
 me:Me:=λ_=>none
def Gx.at(G:Gx)(m:Me):Gx:=⟨G.K,G.ct,m⟩
noncomputable def aw:Key->T
 |.inl i=>.int i
 |.inr x=>.str x.cps.toList
def J0(k:cA):T:=.tup (k.map λx=>T.tup (x.map aw))
def l6(K:X6)(H:Hp)(a:KM)(d:V3):Prop :=
 (∃o,H a=Z (.frz o (.lst (d.map V.int)))) ∨
  ∃(o:Obj)(b:Array On)(n:Nat),K.lookup a=Z o/\o.cls=.type "list" ∧ o.dict=Y/\o.data=.seq b n/\b.size<=KF/\aN (d.map V.int) b.toList
mutual
inductive Rp(G:Gx)(H:Hp):V->T->Wa->Prop
 |non:Rp G H .non .non []
 |bl (b:Bool):Rp G H (.bl b) (.bl b) []
 |int (i:Int):Rp G H (.int i) (.int i) []
 |str (s:Tx):mn s->Rp G H (.str (sx s)) (.str s) []
 |scr {a:KM} {ns:V3}:l6 G.K H a ns->Rp G H (.ref a) (.scr ns) []
 |tup {a:KM} {vs:List V} {ts:V8} {Fs:X0}:H a=some (.tup vs)->RpL G H vs ts Fs->Rp G H (.ref a) (.tup ts) Fs.flatten
 |lst {a:KM} {vs:List V} {ts:V8} {Fs:X0}:H a=some (.lst vs)->RpL G H vs ts Fs->Rp G H (.ref a) (.lst ts) (a :: Fs.flatten)
 |dct {a:KM} {ks:List Key} {vs:List V} {ts:V8} {Fs:X0}:H a=some (.dK (ks.zip vs))->ks.length=vs.length->RpL G H vs ts Fs->Rp G H (.ref a) (.dct 0 ((ks.map aw).zip ts)) (a :: Fs.flatten)
 |dctT {a:KM} {ks:List (List Key)} {vs:List V} {ts:V8} {Fs:X0}:H a=some (.dT (ks.zip vs))->ks.length=vs.length->RpL G H vs ts Fs->Rp G H (.ref a) (.dct 1 ((ks.map λk=>T.tup (k.map aw)).zip ts)) (a :: Fs.flatten)
 |dctN {a:KM} {ks:List (cA×KM)} {vs:List V} {ts:V8} {Fs:X0}:H a=some (DN a ((ks.zip vs).map λp=>(p.1.1,p.1.2,p.2)))->ks.length=vs.length->(∀p∈ks,LO H p.1 p.2)->RpL G H vs ts Fs->Rp G H (.ref a) (.dct 2 ((ks.map λp=>J0 p.1).zip ts)) (a :: Fs.flatten)
 |dctZ {a:KM} {o:Obj} {ks:List Key} {vs:List V} {ts:V8} {Fs:X0}:H a=some (.frz o (.dK (ks.zip vs)))->ks.length=vs.length->RpL G H vs ts Fs->Rp G H (.ref a) (.dct 3 ((ks.map aw).zip ts)) Fs.flatten
 |exc {c:Nat} {a:KM} {o:Obj}:H a=some (.frz o (.own a))->(o.cls=.ref (G.ct c).1/\o.dict=none/\∃vs,o.data=.fields vs)->Rp G H (.ref a) (.obj c []) []
 |ins {c:Nat} {a dx:KM} {b:Bool} {ks:V2} {vs:List V} {ts:V8} {Fs:X0}:H a=some (.ins (G.ct (c+1)).1 dx ((ks.map (G.ct (c+1)).2).zip vs))->ks.length=vs.length->(b=true->G.me 0=some (.ref a))->RpL G H vs ts Fs->Rp G H (.ref a) (.obj (c+1) ((0,.bl b) :: ks.zip ts)) (a :: Fs.flatten)
 |mk {m:Nat} {a:KM} {t:T} {F:Wa}:G.me m=some (.ref a)->Rp G H (.ref a) t F->Rp G H (.ref a) (.obj 0 [(0,.bl true),(m,t)]) F
inductive RpL(G:Gx)(H:Hp):List V->V8->X0->Prop
 |nil:RpL G H [] [] []
 |cons {v:V} {t:T} {F:Wa} {vs:List V} {ts:V8} {Fs:X0}:Rp G H v t F->RpL G H vs ts Fs->RpL G H (v :: vs) (t :: ts) (F :: Fs)
end
structure Kept(H H':Hp):Prop where
 tup:∀a xs,H a=some (.tup xs)->H' a=some (.tup xs)
 frz:∀a o u,H a=some (.frz o u)->H' a=some (.frz o u)
def Kept.refl(H:Hp):Kept H H:=⟨λ_ _ h=>h,λ_ _ _ h=>h⟩
def Kept.trans{e:Hp}(a:Kept H e)(b:Kept e d):Kept H d:=⟨λc x h=>b.tup c x (a.tup c x h),λc o u h=>b.frz c o u (a.frz c o u h)⟩
def Kept.of(e:aG H b):Kept H b:=⟨λa _ h=>e a _ h,λa _ _ h=>e a _ h⟩
theorem Kept.upd{H:Hp}{o:HO}(d:Ip (H a)\/H a=Y):Kept H (upd H a o):=by
 have ne:∀b u,H b=Z u->¬Ip (Z u)->b≠a:=λb u h nm e=>by
  subst e;rcases d with m | m
  ·rw[h]at m;exact nm m
  ·rw[h]at m;cases m
 exact⟨λb f h=>by rw[ar (ne b _ h λz=>z)];exact h,λb o u h=>by rw[ar (ne b _ h λz=>z)];exact h⟩
def l6.kept{K:X6}(h:l6 K H a b)(k:Kept H d):l6 K d a b:=by
 rcases h with⟨o,e⟩ | h
 ·exact .inl ⟨o,k.frz _ _ _ e⟩
 ·exact .inr h
def l6.seq{K:X6}(h:l6 K H a b):Iw K H a (b.map V.int):=by
 rcases h with⟨o,e⟩ | h
 ·exact .inl (.inr ⟨o,e⟩)
 ·exact .inr h
def r6{H d:Hp}{a:KM}{F:Wa}(f:∀b∈a :: F,∀o,H b=Z o->d b=Z o):∀b∈F,∀o,H b=Z o->d b=Z o:=λb m=>f b (Zw _ m)
def v7{H a:Hp}{F:Wa}{d:X0}(f:∀b∈(F :: d).flatten,∀o,H b=Z o->a b=Z o):(∀b∈F,∀o,H b=Z o->a b=Z o)/\∀b∈d.flatten,∀o,H b=Z o->a b=Z o:=by
 rw[ZK]at f;exact⟨λb m=>f b (Yn _ m),λb m=>f b (ZP _ m)⟩
def Rp.keep(k:Kept H e)(r:Rp G H v t F):(∀a∈F,∀o,H a=Z o->e a=Z o)->Rp G e v t F :=
 Rp.rec (motive_1:=λv t F _=>(∀a∈F,∀o,H a=Z o->e a=Z o)->Rp G e v t F) (motive_2:=λj q g _=>(∀a∈g.flatten,∀o,H a=Z o->e a=Z o)->RpL G e j q g)
  (λ_=>.non) (λb _=>.bl b) (λi _=>.int i) (λs h _=>.str s h) (λh _=>.scr (h.kept k)) (λh _ d f=>.tup (k.tup _ _ h) (d f)) (λh _ d f=>.lst (f _ Zx _ h) (d (r6 f))) (λh l _ d f=>.dct (f _ Zx _ h) l (d (r6 f))) (λh l _ d f=>.dctT (f _ Zx _ h) l (d (r6 f)))
  (λh l n _ d f=>.dctN (f _ Zx _ h) l (λp m=>(n p m).mono k.tup) (d (r6 f))) (λh l _ d f=>.dctZ (k.frz _ _ _ h) l (d f)) (λh x _=>.exc (k.frz _ _ _ h) x) (λh l m _ d f=>.ins (f _ Zx _ h) l m (d (r6 f))) (λh _ d f=>.mk h (d f)) (λ_=>.nil) (λ_ _ w u f=>.cons (w (v7 f).1) (u (v7 f).2)) r
theorem RpL.keep(k:Kept H b):∀{e:List V}{g:V8}{d:X0},RpL G H e g d->(∀a∈d.flatten,∀o,H a=Z o->b a=Z o)->RpL G b e g d
 |_,_,_,.nil,_=>.nil
 |_,_,_,.cons r q,f=>.cons (r.keep k (v7 f).1) (RpL.keep k q (v7 f).2)
def Rp.same(e:aG H b)(r:Rp G H v t F):Rp G b v t F:=r.keep (Kept.of e) λa _ o h=>e a o h
def RpL.same(e:aG H b)(r:RpL G H v t F):RpL G b v t F:=r.keep (Kept.of e) λa _ o h=>e a o h
def AM{H:Hp}{a:KM}{F:Wa}(h:Ip (H a))(d:∀b∈F,Ip (H b)):∀b∈a :: F,Ip (H b):=λb m=>(Zk.mp m).elim (λe=>e ▸ h) (d b)
def x9{H:Hp}{a:KM}{o:HO}(h:H a=Z o)(m:Ip (Z o)):Ip (H a):=by rw[h];exact m
def Gm{H:Hp}{F:Wa}{a:X0}(e:∀b∈F,Ip (H b))(d:∀b∈a.flatten,Ip (H b)):∀b∈(F :: a).flatten,Ip (H b):=λb m=>by
 rw[ZK]at m;exact(Zd.mp m).elim (e b) (d b)
def Rp.IE(r:Rp G H v t F):∀a∈F,Ip (H a) :=
 Rp.rec (motive_1:=λv t F _=>∀a∈F,Ip (H a)) (motive_2:=λg i f _=>∀a∈f.flatten,Ip (H a))
  (λ_ m=>nomatch m) (λ_ _ m=>nomatch m) (λ_ _ m=>nomatch m) (λ_ _ _ m=>nomatch m) (λ_ _ m=>nomatch m) (λ_ _ b=>b) (λh _ b=>AM (x9 h True.intro) b) (λh _ _ b=>AM (x9 h True.intro) b) (λh _ _ b=>AM (x9 h True.intro) b)
  (λh _ _ _ b=>AM (x9 h True.intro) b) (λ_ _ _ b=>b) (λ_ _ _ m=>nomatch m) (λh _ _ _ b=>AM (x9 h True.intro) b) (λ_ _ b=>b) (λ_ m=>nomatch m) (λ_ _ e d=>Gm e d) r
theorem RpL.IE:∀{d:List V}{e:V8}{b:X0},RpL G H d e b->∀a∈b.flatten,Ip (H a)
 |_,_,_,.nil=>λ_ m=>nomatch m
 |_,_,_,.cons r q=>Gm r.IE (RpL.IE q)
def Ip.p0(m:Ip o):o≠Y:=λe=>by subst e;exact m
def Gf{b:X0}(e:VS.Iq t=B->F=[])(d:VS.fE a=B->b.flatten=[])(i:VS.fE (t :: a)=B):(F :: b).flatten=[]:=by
 simp only[VS.fE,ZS]at i;rw[ZK,e i.1,d i.2];rfl
theorem Rp.Iq(r:Rp G H v t F):VS.Iq t=B->F=[] :=
 Rp.rec (motive_1:=λv t F _=>VS.Iq t=B->F=[]) (motive_2:=λg a f _=>VS.fE a=B->f.flatten=[])
  (λ_=>rfl) (λ_ _=>rfl) (λ_ _=>rfl) (λ_ _ _=>rfl) (λ_ _=>rfl) (λ_ _ b i=>b (by simpa[VS.Iq] using i)) (λ_ _ _ i=>absurd (show J=B from i) Zf) (λ_ _ _ _ i=>absurd (show J=B from i) Zf) (λ_ _ _ _ i=>absurd (show J=B from i) Zf)
  (λ_ _ _ _ _ i=>absurd (show J=B from i) Zf) (λ_ _ _ _ i=>absurd (show J=B from i) Zf) (λ_ _ _=>rfl) (λ_ _ _ _ _ i=>absurd (show J=B from i) Zf) (λ_ _ _ i=>absurd (show J=B from i) Zf) (λ_=>rfl) (λ_ _ e d i=>Gf e d i) r
theorem RpL.Iq:∀{d:List V}{a:V8}{b:X0},RpL G H d a b->VS.fE a=B->b.flatten=[]
 |_,_,_,.nil,_=>rfl
 |_,_,_,.cons r q,i=>Gf r.Iq (RpL.Iq q) i
theorem RpL.len:∀{b:List V}{a:V8}{d:X0},RpL G H b a d->b.length=a.length/\d.length=a.length
 |_,_,_,.nil=>⟨rfl,rfl⟩
 |_,_,_,.cons _ q=>by
  have:=RpL.len q;simp only[Za];lia
theorem RpL.get{G:Gx}:∀{a:List V}{b:V8}{d:X0}(i:Nat){t:T},RpL G H a b d->b[i]?=Z t->∃v F,a[i]?=Z v/\d[i]?=Z F/\Rp G H v t F
 |_,_,_,_,_,.nil,e=>by simp at e
 |_,_,_,0,_,.cons r _,e=>by
  simp at e;subst e;exact⟨_,_,rfl,rfl,r⟩
 |_,_,_,i+1,_,.cons _ q,e=>by
  obtain⟨v,F,h,g,f⟩:=RpL.get i q (by simpa using e);exact⟨v,F,by simpa using h,by simpa using g,f⟩
theorem RpL.append:∀{a:List V}{d:V8}{g:X0}{b:List V}{e:V8}{f:X0},RpL G H a d g->RpL G H b e f->RpL G H (a++b) (d++e) (g++f)
 |_,_,_,_,_,_,.nil,s=>s
 |_,_,_,_,_,_,.cons r q,s=>.cons r (RpL.append q s)
theorem RpL.take:∀{a:List V}{b:V8}{d:X0}(n:Nat),RpL G H a b d->RpL G H (a.take n) (b.take n) (d.take n)
 |_,_,_,0,_=>by simpa using RpL.nil
 |_,_,_,n+1,.nil=>.nil
 |_,_,_,n+1,.cons r q=>.cons r (RpL.take n q)
theorem RpL.drop:∀{a:List V}{b:V8}{d:X0}(n:Nat),RpL G H a b d->RpL G H (a.drop n) (b.drop n) (d.drop n)
 |_,_,_,0,q=>q
 |_,_,_,n+1,.nil=>.nil
 |_,_,_,n+1,.cons r q=>RpL.drop n q
noncomputable def kL:Cell->T
 |.pu t=>t
 |.ow t=>t
noncomputable abbrev Ir:=Nat->Wa
structure SR(G:Gx)(R:Ir)(U:VS.Env)(O:L2.St)(H:Hp):Prop where
 len:U.length=O.length
 rp:∀i c,U[i]?=some (some c)->∃v,O[i]?=some (some v)/\Rp G H v (kL c) (R i)
 nd:∀i t,U[i]?=some (some (.ow t))->(R i).Nodup
 sep:∀i j t c,U[i]?=some (some (.ow t))->U[j]?=some (some c)->i≠j->∀a∈R i,a∉R j
noncomputable def dM(R:Ir)(U:VS.Env)(a:KM):Prop:=∃j t,U[j]?=Z (Z (.pu t))/\a∈R j
noncomputable def bX(R:Ir)(U:VS.Env)(a:KM):Prop:=∃j t,U[j]?=Z (Z (.ow t))/\a∈R j
def Fp(R:Ir)(U:VS.Env)(H:Hp):Md->Wa->Prop
 |.fr,F=>F.Nodup/\∀a∈F,H a=Y
 |.pu,F=>∀a∈F,H a=Y\/dM R U a
 |.bo,F=>∀a∈F,H a=Y\/dM R U a\/bX R U a
theorem SR.same(s:SR G R U O H)(e:aG H a):SR G R U O a :=
 ⟨s.len,λi c h=>let ⟨v,d,b⟩:=s.rp i c h;⟨v,d,b.same e⟩,s.nd,s.sep⟩
def SR.MB(s:SR G R U O H)(h:dM R U a):Ip (H a):=by
 obtain⟨j,t,d,b⟩:=h;obtain⟨v,_,r⟩:=s.rp j _ d;exact r.IE a b
def SR.JR(s:SR G R U O H)(h:bX R U a):Ip (H a):=by
 obtain⟨j,t,d,b⟩:=h;obtain⟨v,_,r⟩:=s.rp j _ d;exact r.IE a b
def Fp.nil:Fp R U H m []:=by
 cases m
 ·exact⟨Y1,λa h=>by simp at h⟩
 ·exact λa h=>by simp at h
 ·exact λa h=>by simp at h
theorem Fp.bo{U:VS.Env}{H:Hp}:∀{m:Md},Fp R U H m F->Fp R U H .bo F
 |.fr,h=>λa m=>.inl (h.2 a m)
 |.pu,h=>λa m=>(h a m).elim .inl λz=>.inr (.inl z)
 |.bo,h=>h
theorem Fp.pu{U:VS.Env}{H:Hp}{F:Wa}:∀{m:Md},m ≠ .bo->Fp R U H m F->Fp R U H .pu F
 |.fr,_,h=>λa m=>.inl (h.2 a m)
 |.pu,_,h=>h
 |.bo,n,_=>absurd M n
theorem Fp.back(e:aG H b):∀{m:Md},Fp R U b m F->Fp R U H m F
 |.fr,h=>⟨h.1,λa m=>e.free (h.2 a m)⟩
 |.pu,h=>λa m=>(h a m).imp e.free id
 |.bo,h=>λa m=>(h a m).imp e.free id
theorem Fp.up{U:VS.Env}{m:Md}{v:V}(f:Fp R U H m F)(r:Rp G a v t F):Fp R U H (VS.up m t).1 F:=by
 unfold VS.up;by_cases h:VS.Iq t=B
 ·rw[r.Iq h];exact Fp.nil
 ·simp only[h,if_false,Yf];exact f
def tE(G:Gx)(c:Ex):TE:=λO H Q=>∃R U m r,SR G R U O H/\c U=Z (m,r)/\∀v a F,aG H a->Rp G a v r F->Fp R U H m F->Q v a
def PV(G:Gx)(X:Cx)(e:Expr)(c:Ex):Prop:=PE X e (tE G c)
def PE.weak{X:Cx}{t:TE}(h:PE X e t)(w:∀O H Q,b O H Q->t O H Q):PE X e b:=λa s O H Q I q=>h a s O H Q I (w O H Q q)
def PT.weak{X:Cx}{t:TT}(h:PT X e t)(w:∀O H Q,b O H Q->t O H Q):PT X e b:=λa s O H Q I q=>h a s O H Q I (w O H Q q)
def PA.weak{X:Cx}{t:TA}(h:PA X e t)(w:∀O H Q,b O H Q->t O H Q):PA X e b:=λpos a s O H Q I q=>h pos a s O H Q I (w O H Q q)
def tT(G:Gx)(c:Ex):TT:=λO H Q=>∃R U m r b,SR G R U O H/\c U=Z (m,r)/\Nb r=Z b/\∀a,aG H a->Q b a
def Kw(G:Gx)(X:Cx)(e:Expr)(c:Ex):Prop:=PT X e (tT G c)
noncomputable def JE(l:V6)(a:X0):Wa:=match l,a with
 |v :: l,F :: a=>match v.1 with
  |.fr=>F++JE l a
  |_=>JE l a
 |_,_=>[]
structure M5(R:Ir)(U:VS.Env)(H:Hp)(l:V6)(Fs:X0):Prop where
 each:∀(i:Nat) v F,l[i]?=some v->Fs[i]?=some F->Fp R U H v.1 F
 nd:(JE l Fs).Nodup
def N7(G:Gx)(c:IQ):TA:=λO H Q=>∃R U l,SR G R U O H/\c U=Z l/\∀b a d,aG H a->RpL G a b (trees l) d->M5 R U H l d->Q b a
def Jj(G:Gx)(X:Cx)(a:List Expr)(c:IQ):Prop:=PA X a (N7 G c)
section
def au{i j pos}:PV G X (.Constant (.int i) j pos) (Q3 i):=PE.weak pV λO H Q d=>by
 obtain⟨R,U,m,r,s,e,k⟩:=d;cases (show Z (Md.fr,T.int i)=Z (m,r) from e);exact k _ _ _ (aG.refl _) (.int i) Fp.nil
def kE{i j pos}:PV G X (.Constant (.bool i) j pos) (eC (.bl i)):=PE.weak GE λO H Q d=>by
 obtain⟨R,U,m,r,s,e,k⟩:=d;cases (show Z (Md.fr,T.bl i)=Z (m,r) from e);exact k _ _ _ (aG.refl _) (.bl i) Fp.nil
def uH{j pos}:PV G X (.Constant .none j pos) (eC .non):=PE.weak FJ λO H Q d=>by
 obtain⟨R,U,m,r,s,e,k⟩:=d;cases (show Z (Md.fr,T.non)=Z (m,r) from e);exact k _ _ _ (aG.refl _) .non Fp.nil
def ir{j pos}(h:x=sx t:=by decide +kernel)(f:{`q0,mn t}):PV G X (.Constant (.str x) j pos) (eC (.str t)):=PE.weak yF λO H Q d=>by
 obtain⟨R,U,m,r,s,e,k⟩:=d;cases (show Z (Md.fr,T.str t)=Z (m,r) from e);subst h;exact k _ _ _ (aG.refl _) (.str t f) Fp.nil
def cF{X:Cx}(i:Nat)(w:{`q1,X.N[i]?=Z x})(p:{`q4,Kp X.env.scope x})(u:{`q0,K3 x})(j:{`q0,K4 x}):PV G X (.Name x g) (aa i):=PE.weak (fC w p u j) λO H Q q=>by
 obtain⟨R,U,m,r,s,e,k⟩:=q;unfold aa at e;split at e
 ·rename_i t h;obtain⟨v,n,d⟩:=s.rp _ _ h;have o:VS.up .pu t=(m,r):=Zl e;have y:t=r:=congrArg Prod.snd o;have em:(VS.up .pu t).1=m:=congrArg Prod.fst o;rw[← y,← em]at k;refine⟨v,n,k v H (R i) (aG.refl _) d ?_⟩;have f:Fp R U H .pu (R i):=λa l=>.inr ⟨i,_,h,l⟩;exact f.up d
 ·rename_i t h;obtain⟨v,n,d⟩:=s.rp _ _ h;cases e;exact⟨v,n,k v H (R i) (aG.refl _) d λa l=>.inr (.inr ⟨i,_,h,l⟩)⟩
 ·cases e
def CO{v:V}(j:Gl X x)(i:X.mg x=Z u)(r:RelV v u)(g:∀H,Rp G H v t [])(l:{`q0,K3 x}):PV G X (.Name x d) (eC t) :=
 PE.weak (Ba j i r l) λO H Q h=>by
  obtain⟨R,U,m,f,s,e,k⟩:=h;cases (show Z (Md.fr,t)=Z (m,f) from e);exact k _ _ _ (aG.refl _) (g H) Fp.nil
structure Rc(G:Gx)(R:Ir)(U:VS.Env)(H0 H:Hp)(x y:Val)(u w:V)(F1 F2:Wa):Prop where
 same:aG H0 H
 r1:Rp G H u x.2 F1
 r2:Rp G H w y.2 F2
 f1:Fp R U H0 x.1 F1
 f2:Fp R U H0 y.1 F2
 nd:x.1=.fr->y.1=.fr->(F1++F2).Nodup
def gv(G:Gx)(r:Jt)(f:Val->Val->V7):Prop:=∀(R:Ir)(U:VS.Env)(e H:Hp)(x y:Val)(u w:V)(h g:Wa)(m:Md)(t:T)(Q:VK),Rc G R U e H x y u w h g->f x y=Z (m,t) →
 (∀v d F,aG H d->Rp G d v t F->Fp R U e m F->Q v d)->r u w H Q
def zY{G:Gx}{ca cb:Ex}{O:L2.St}{H:Hp}{Q:V->V->Hp->Prop}{R:Ir}{U:VS.Env}{x y:Val}(s:SR G R U O H)(m:ca U=Z x)(l:cb U=Z y)(k:∀u w d f e,Rc G R U H d x y u w f e->Q u w d):tE G ca O H λu g=>tE G cb O g λw d=>Q u w d:=by
 refine⟨R,U,x.1,x.2,s,m,λu g f e1 r1 f1=>⟨R,U,y.1,y.2,s.same e1,l,λw d e e2 r2 f2=>k u w d f e ⟨e1.trans e2,r1.same e2,r2,f1,f2.back e1,λi h=>?_⟩⟩⟩;rw[i]at f1;rw[h]at f2;refine ZL.mpr ⟨f1.1,f2.1,λa j b hb z=>?_⟩;subst z;exact Ip.p0 (r1.IE a j) (f2.2 a hb)
def nB(g:gv G r f)(h:tE G (e2 f ca cb) O H Q):Rn r (tE G ca) (tE G cb) O H Q:=by
 obtain⟨R,U,m,t,s,e,k⟩:=h;unfold e2 at e;obtain⟨x,j,e⟩:=Zz.mp e;obtain⟨y,i,e⟩:=Zz.mp e;exact zY s j i λu w l p o d=>g R U H l x y u w p o m t Q d e λv n F e1 r1 f1=>k v n F (d.same.trans e1) r1 f1
def iR(g:OpR X (binaryOp d) r)(e:gv G r f)(j:PV G X a ca)(i:PV G X b cb):PV G X (.BinOp a d b pos) (e2 f ca cb) :=
 PE.weak (HB g j i) λO H Q h=>nB e h
noncomputable def Tells(f:Val->Val->V7):Prop:=∀x y m t,f x y=Z (m,t)->∃b,t=.bl b
def Rp.JB{b:Bool}(r:Rp G H v (.bl b) F):v=.bl b:=by cases r;rfl
def Rp.int_inv{b:Int}(r:Rp G H v (.int b) F):v=.int b:=by cases r;rfl
def Rp.str_inv{b:Tx}(r:Rp G H v (.str b) F):v=.str (sx b)/\mn b:=by cases r with | str _ h=>exact⟨rfl,h⟩
def tq{c:Ex}(h:tT G c O H Q)(f:∀U m r,c U=Z (m,r)->∃b,r=.bl b)(w:∀Q,tE G c O H Q->t O H Q):zF t O H Q:=by
 obtain⟨R,U,m,r,b,s,e,d,k⟩:=h;refine w _ ⟨R,U,m,r,s,e,λv j F e1 r1 f1=>?_⟩;obtain⟨i,g⟩:=f U m r e;rw[g]at d r1;cases (show Z i=Z b from d);exact⟨_,r1.JB,k j e1⟩
def fM{r:Jt}(j:OpR X (UF d) r)(g:gv G r f)(i:Tells f)(o:PV G X a ca)(n:PV G X b cb)(l:behindInMarks d b=J):Kw G X (.Compare a [d] [b] pos) (e2 f ca cb) :=
 PT.weak (AV j o n l) λO H Q h=>tq h (λU m r e=>by
  unfold e2 at e;obtain⟨x,_,e⟩:=Zz.mp e;obtain⟨y,_,e⟩:=Zz.mp e;exact i x y m r e) λQ h=>nB g h
def bw{G:Gx}{R:Ir}{U:VS.Env}{e H:Hp}{m:Md}{t:T}{v:V}{Q:VK}(k:∀v d F,aG H d->Rp G d v t F->Fp R U e m F->Q v d)(r:Rp G H v t []):Q v H:=k v H [] (aG.refl _) r Fp.nil
def bG{H:Hp}(h:H p=Y):aG H (upd H p o):=λb d e=>by rw[ar (bD e h)];exact e
theorem Fp.new(d:g p=Y)(h:p∉F):∀{m:Md},Fp R U g m F->Fp R U g m (p :: F)
 |.fr,f=>⟨ZY.mpr ⟨h,f.1⟩,λa m=>(Zk.mp m).elim (λe=>by rw[e];exact d) (f.2 a)⟩
 |.pu,f=>λa m=>(Zk.mp m).elim (λe=>by rw[e];exact .inl d) (f a)
 |.bo,f=>λa m=>(Zk.mp m).elim (λe=>by rw[e];exact .inl d) (f a)
def q9(e:Lw d l=Z (m,t)):t=.lst l/\l.length<=eu/\m=(if fE l then .fr else d):=by
 unfold Lw at e;split at e
 ·rename_i h;cases e;exact⟨rfl,h,rfl⟩
 ·cases e
def jH{G:Gx}{R:Ir}{U:VS.Env}{i H:Hp}{q m:Md}{l:V8}{t:T}{o:List V}{n:X0}{Q:VK}(d:aG i H)(e:Lw q l=Z (m,t))(r:RpL G H o l n)(f:Fp R U i q n.flatten)(k:∀v j F,aG H j->Rp G j v t F->Fp R U i m F->Q v j):∀p,H p=Y->Q (.ref p) (upd H p (.lst o)):=by
 intro p g;obtain⟨rfl,s,rfl⟩:=q9 e;refine k _ _ _ (bG g) (.lst aj (r.same (bG g))) ?_;have np:p∉n.flatten:=λm=>Ip.p0 (r.IE p m) g;by_cases h:fE l=B
 ·rw[h,Zr M];rw[r.Iq h]at np ⊢;exact Fp.nil.new (d.free g) np
 ·rw[Zm h];exact f.new (d.free g) np
theorem Rc.join(i:Rc G R U h H x y u w f e){F:Wa}(g:F.Sublist (f++e)):Fp R U h (x.1.join y.1) F:=by
 obtain⟨same,r1,r2,f1,f2,nd⟩:=i;have split:∀a∈F,a∈f\/a∈e:=λa d=>Zd.mp (g.subset d);obtain⟨l,x⟩:=x;obtain⟨j,y⟩:=y;have both:∀{P:KM->Prop},(∀a∈f,P a)->(∀a∈e,P a)->∀a∈F,P a:=λn m a d=>(split a d).elim (n a) (m a);cases l<;>cases j
 ·exact⟨(nd M M).sublist g,both f1.2 f2.2⟩
 ·exact both (λa d=>.inl (f1.2 a d)) f2
 ·exact both (λa d=>.inl (f1.2 a d)) f2
 ·exact both f1 (λa d=>.inl (f2.2 a d))
 ·exact both f1 f2
 ·exact both (f1.bo) f2
 ·exact both f1 (λa d=>.inl (f2.2 a d))
 ·exact both f1 (f2.bo)
 ·exact both f1 f2
def gE:eu=sizeLine:=rfl
def dZ(s:Tx):(sx s).length=s.length:=rfl
def DS(s t:Tx):sx s++sx t=sx (s++t):=by
 show Str.append (sx s) (sx t)=_;simp[sx,Str.append]
def Rp.lst_inv(r:Rp G H v (.lst l) F):∃a d e,v=.ref a/\F=a :: e.flatten/\H a=Z (.lst d)/\RpL G H d l e:=by
 cases r with
 |lst h q=>exact⟨_,_,_,rfl,rfl,h,q⟩
def Rp.JH(r:Rp G H v (.tup l) F):∃a d e,v=.ref a/\F=e.flatten/\H a=Z (.tup d)/\RpL G H d l e:=by
 cases r with
 |tup h q=>exact⟨_,_,_,rfl,rfl,h,q⟩
def Rp.Ni(r:Rp G H v (.scr l) F):∃a,v=.ref a/\F=[]/\l6 G.K H a l:=by
 cases r with
 |scr h=>exact⟨_,rfl,rfl,h⟩
end
section
def GA:Jt:=λx y H Q=>LU (λi j=>.int (i+j)) x y H Q\/(∃i j,x=.str i/\y=.str j/\i.length+j.length<=KF/\Q (.str (i++j)) H)\/Hx x y H Q
def CK:OpR X (binaryOp .Add) GA:=DH.or (uA.or ES)
def DY:gv G GA cM:=by
 intro R U E H x y u w A z m t Q f e k;have q:=λ{F:Wa} (h:List.Sublist F (A++z))=>f.join h;obtain⟨D,x⟩:=x;obtain⟨C,y⟩:=y;obtain⟨same,r1,r2,f1,f2,nd⟩:=f;unfold cM at e;split at e
 ·rename_i i _ j e1 e2;cases e1;cases e2;cases e;exact .inl ⟨_,_,r1.int_inv,r2.int_inv,bw k (.int _)⟩
 ·rename_i s _ p e1 e2;cases e1;cases e2;split at e
  ·rename_i d;cases e;refine .inr (.inl ⟨_,_,r1.str_inv.1,r2.str_inv.1,by rw[dZ,dZ,← gE];exact d,?_⟩);rw[DS];exact bw k (.str _ ⟨by rw[Zs];exact d,λc r=>(Zd.mp r).elim (r1.str_inv.2.2 c) (r2.str_inv.2.2 c)⟩)
  ·cases e
 ·rename_i s _ p e1 e2;cases e1;cases e2;obtain⟨a,n,M,rfl,rfl,v,l⟩:=r1.lst_inv;obtain⟨b,o,L,rfl,rfl,hb,g⟩:=r2.lst_inv;obtain⟨_,d,_⟩:=q9 e;refine .inr (.inr ⟨a,b,n,o,rfl,rfl,v,hb,?_,jH same e (l.append g) (q ?_) k⟩)
  ·rw[Zs]at d;rw[l.len.1,g.len.1,← gE];exact d
  ·rw[Ys];exact(Yc _ _).append (Yc _ _)
 ·cases e
def qY:gv G (LU λi j=>.int (i-j)) oZ:=by
 intro R U f H x y u w h g m t Q a e k;obtain⟨d,x⟩:=x;obtain⟨b,y⟩:=y;obtain⟨same,r1,r2,f1,f2,nd⟩:=a;unfold oZ at e;split at e
 ·rename_i e1 e2;cases e1;cases e2;cases e;exact⟨_,_,r1.int_inv,r2.int_inv,bw k (.int _)⟩
 ·cases e
def BM:gv G (rI G3 λi j=>.int (i/j)) cI:=by
 intro R U f H x y u w l g m t Q a e k;obtain⟨d,x⟩:=x;obtain⟨b,y⟩:=y;obtain⟨same,r1,r2,f1,f2,nd⟩:=a;unfold cI at e;split at e
 ·rename_i e1 e2;cases e1;cases e2;split at e
  ·rename_i h;cases e;exact⟨_,_,r1.int_inv,r2.int_inv,h,bw k (.int _)⟩
  ·cases e
 ·cases e
def D6:gv G (rI (λ_ j=>0<j) λi j=>.int (i%j)) oMod:=by
 intro R U f H x y u w l g m t Q a e k;obtain⟨d,x⟩:=x;obtain⟨b,y⟩:=y;obtain⟨same,r1,r2,f1,f2,nd⟩:=a;unfold oMod at e;split at e
 ·rename_i e1 e2;cases e1;cases e2;split at e
  ·rename_i h;cases e;exact⟨_,_,r1.int_inv,r2.int_inv,h,bw k (.int _)⟩
  ·cases e
 ·cases e
theorem lU:∀(s t:Tx),Mg s t=decide (s<t)
 |[],[]=>by simp[Mg]
 |[],_ :: _=>by simp[Mg]
 |_ :: _,[]=>by simp[Mg]
 |a :: s,b :: t=>by
  unfold Mg;rw[lU s t];by_cases e:a<b
  ·simp[e,Wt]
  ·by_cases d:b<a
   ·have:¬a=b:=by exact WK d
    simp[e,d,Wt,this]
   ·have:a=b:=by lia
    subst this;simp[Wt]
def UI:Jt:=λx y H Q=>LU (λi j=>.bl (decide (i<j))) x y H Q\/(∃i j,x=.str i/\y=.str j/\Q (.bl (decide (i.cps.toList<j.cps.toList))) H)
def uK:OpR X (UF .Lt) UI:=GK.or xu
def zr:gv G UI oLt:=by
 intro R U g H x y u w i h m t Q b e k;obtain⟨f,x⟩:=x;obtain⟨d,y⟩:=y;obtain⟨same,r1,r2,f1,f2,nd⟩:=b;unfold oLt at e;split at e
 ·rename_i e1 e2;cases e1;cases e2;cases e;exact .inl ⟨_,_,r1.int_inv,r2.int_inv,bw k (.bl _)⟩
 ·rename_i s _ a e1 e2;cases e1;cases e2;cases e;refine .inr ⟨_,_,r1.str_inv.1,r2.str_inv.1,?_⟩;have:decide ((sx s).cps.toList<(sx a).cps.toList)=Mg s a:=by rw[lU];exact decide_eq_decide.mpr (by simp[sx])
  rw[this];exact bw k (.bl _)
 ·cases e
def kQ:Tells oLt:=by
 intro x y m t e;unfold oLt at e;split at e<;>first | (cases e;exact⟨_,rfl⟩) | cases e
def Dw:Rh=2 ^ 64:=rfl
def nU:gv G (rI Cg λi j=>.int (i*j)) mF:=by
 intro R U f H x y u w l g m t Q a e k;obtain⟨d,x⟩:=x;obtain⟨b,y⟩:=y;obtain⟨same,r1,r2,f1,f2,nd⟩:=a;unfold mF at e;split at e
 ·rename_i e1 e2;cases e1;cases e2;split at e
  ·rename_i h;cases e;refine⟨_,_,r1.int_inv,r2.int_inv,?_,bw k (.int _)⟩;rw[Dw]at h;exact h
  ·cases e
 ·cases e
def wo:OpR X (UF .LtE) (λx y H Q=>∃i j,x=.str i/\y=.str j/\Q (.bl (!decide (j.cps.toList<i.cps.toList))) H):=by
 intro a s O H x y v u Q I d b h;obtain⟨i,j,rfl,rfl,q⟩:=h;obtain⟨t,rfl⟩:=d;obtain⟨e,rfl⟩:=b;exact PySem.P.le_str ⟨.bl _,H,I,rfl,q⟩
def UJ:Jt:=λx y H Q=>LU (λi j=>.bl (decide (i<=j))) x y H Q\/(∃i j,x=.str i/\y=.str j/\Q (.bl (!decide (j.cps.toList<i.cps.toList))) H)
def Eg:OpR X (UF .LtE) UJ:=Hv.or wo
def GD:gv G UJ oLe:=by
 intro R U g H x y u w i h m t Q b e k;obtain⟨f,x⟩:=x;obtain⟨d,y⟩:=y;obtain⟨same,r1,r2,f1,f2,nd⟩:=b;unfold oLe at e;split at e
 ·rename_i e1 e2;cases e1;cases e2;cases e;exact .inl ⟨_,_,r1.int_inv,r2.int_inv,bw k (.bl _)⟩
 ·rename_i s _ a e1 e2;cases e1;cases e2;cases e;refine .inr ⟨_,_,r1.str_inv.1,r2.str_inv.1,?_⟩;have:decide ((sx a).cps.toList<(sx s).cps.toList)=Mg a s:=by rw[lU];exact decide_eq_decide.mpr (by simp[sx])
  rw[this];exact bw k (.bl _)
 ·cases e
def yw:Tells oLe:=by
 intro x y m t e;unfold oLe at e;split at e<;>first | (cases e;exact⟨_,rfl⟩) | cases e
def uQ{i:Int}:JP n i=Oi n i:=by
 unfold JP Oi;by_cases h:0<=i
 ·rw[Zr h,Zr h]
 ·rw[Zm h,Zm h];by_cases a:0<=i+n
  ·rw[Zr a,Zr (by lia)]
  ·rw[Zm a,Zm (by lia)]
def oK{α:Type}{l:List α}{i:Int}{k:Nat}{x:α}(b:JP l.length i=Z k)(a:l[k]?=Z x):ON l i=Z x:=by
 unfold ON;rw[← uQ,b];exact a
def cV{a:X0}{F:Wa}{i:Nat}(h:a[i]?=Z F):F.Sublist a.flatten:=by
 obtain⟨b,rfl⟩:=Zb.mp h;exact List.sublist_flatten_of_mem (Yx b)
theorem Fp.sub{F:Wa}(h:F.Sublist d):∀{m:Md},Fp R U H m d->Fp R U H m F
 |.fr,f=>⟨f.1.sublist h,λa b=>f.2 a (h.subset b)⟩
 |.pu,f=>λa b=>f a (h.subset b)
 |.bo,f=>λa b=>f a (h.subset b)
def yH:gv G (Si G.K) aD:=by
 intro R U N H x y u w P O m t Q C e k;obtain⟨M,x⟩:=x;obtain⟨L,y⟩:=y;obtain⟨same,r1,r2,f1,f2,nd⟩:=C;unfold aD at e;split at e
 ·rename_i p l o i e1 e2;cases e1;cases e2;obtain⟨j,d,e⟩:=Zz.mp e;obtain⟨x,b,e⟩:=Zv.mp e;obtain⟨a,n,E,rfl,rfl,q,h⟩:=r1.lst_inv;obtain⟨v,F,s,r,g⟩:=h.get j b;refine .inl ⟨a,n,i,v,rfl,r2.int_inv,Iw.of q,oK (by rw[h.len.1];exact d) s,?_⟩;have f:=((f1.sub (Yc _ _)).sub (cV r)).up g;unfold VS.sub at e;rw[e]at f;have z:x=t:=congrArg Prod.snd e;rw[z]at g;exact k v H F (aG.refl _) g f
 ·rename_i p l o i e1 e2;cases e1;cases e2;obtain⟨j,d,e⟩:=Zz.mp e;obtain⟨x,b,e⟩:=Zv.mp e;obtain⟨a,n,E,rfl,rfl,q,h⟩:=r1.JH;obtain⟨v,F,s,r,g⟩:=h.get j b;refine .inr (.inl ⟨a,n,i,v,rfl,r2.int_inv,Jz.of q,oK (by rw[h.len.1];exact d) s,?_⟩);have f:=(f1.sub (cV r)).up g;unfold VS.sub at e;rw[e]at f;have z:x=t:=congrArg Prod.snd e;rw[z]at g;exact k v H F (aG.refl _) g f
 ·rename_i p l o i e1 e2;cases e1;cases e2;obtain⟨j,d,e⟩:=Zz.mp e;obtain⟨x,b,e⟩:=Zv.mp e;cases e;obtain⟨a,rfl,rfl,sa⟩:=r1.Ni;refine .inl ⟨a,l.map V.int,i,.int x,rfl,r2.int_inv,sa.seq,oK (by rw[Zy];exact d) (by rw[ZV,b];rfl),bw k (.int _)⟩
 ·rename_i p l o i e1 e2;cases e1;cases e2;obtain⟨j,d,e⟩:=Zz.mp e;obtain⟨x,b,e⟩:=Zv.mp e;cases e;obtain⟨rfl,A⟩:=r1.str_inv;refine .inr (.inr ⟨sx l,i,x,rfl,r2.int_inv,by rw[dZ,← gE];exact A.1,oK (k:=j) (by simpa[sx] using d) (by simpa[sx] using b),?_⟩);exact bw k (.str [x] ⟨by show 1<=eu;decide,λc D=>by rw[Ze.mp D];exact A.2 x (YJ b)⟩)
 ·cases e
end
section
theorem ve:∀{l:V6}{d:X0},x∈JE l d->∃(i:Nat)(v:Val)(F:Wa),l[i]?=Z v/\v.1=.fr/\d[i]?=Z F/\x∈F
 |[],_,h=>by simp[JE]at h
 |_ :: _,[],h=>by simp[JE]at h
 |v :: l,F :: d,h=>by
  have go:x∈JE l d->∃(i:Nat)(u:Val)(f:Wa),(v :: l)[i]?=Z u/\u.1=.fr/\(F :: d)[i]?=Z f/\x∈f:=λm=>by
   obtain⟨i,u,f,q,o,n,j⟩:=ve m;exact⟨i+1,u,f,by simpa using q,o,by simpa using n,j⟩
  unfold JE at h;split at h
  ·rename_i g;rcases Zd.mp h with h | h
   ·exact⟨0,v,F,rfl,g,rfl,h⟩
   ·exact go h
  ·exact go h
def ai:Jj G X [] ag:=PA.weak gg λO H Q d=>by
 obtain⟨R,U,l,s,e,k⟩:=d;cases (show Z ([]:V6)=Z l from e);exact k [] H [] (aG.refl _) .nil ⟨λi v F h=>by simp at h,by simp[JE]⟩
def ae(C:PV G X e ca)(w:Jj G X es cs)(t:{`q1,K1 e es X}):Jj G X (e :: es) (ab ca cs):=PA.weak (dC C w t) λO H Q A=>by
 obtain⟨R,U,l,s,e,k⟩:=A;unfold ab at e;obtain⟨x,M,e⟩:=Zz.mp e;obtain⟨j,L,e⟩:=Zz.mp e;cases e;refine⟨R,U,x.1,x.2,s,M,λv S F e1 r1 f1=>⟨R,U,j,s.same e1,L,λm N P e2 r2 f2=>k (v :: m) N (F :: P) (e1.trans e2) (.cons (r1.same e2) r2) ⟨λi u h g d=>?_,?_⟩⟩⟩
 ·cases i with
  |zero =>
   cases (show Z x=Z u from g);cases (show Z F=Z h from d);exact f1
  |succ i=>exact(f2.each i u h (by simpa using g) (by simpa using d)).back e1
 ·unfold JE;split
  ·rename_i r;rw[r]at f1;refine ZL.mpr ⟨f1.1,f2.nd,λy o z n q=>?_⟩;subst q;obtain⟨i,u,h,g,d,E,D⟩:=ve n;have f:=f2.each i u h g E;rw[d]at f;exact Ip.p0 (r1.IE y o) (f.2 y D)
  ·exact f2.nd
theorem ke:∀{l:V6},cn l=.fr->∀v∈l,v.1=.fr
 |[],_,v,h=>by simp at h
 | (m,t) :: r,e,v,h=>by
  have d:m.join (cn r)=.fr:=e;have g:m=.fr:=by
   revert d;cases m<;>cases cn r<;>simp[Md.join]
  have f:cn r=.fr:=by
   revert d;cases m<;>cases cn r<;>simp[Md.join]
  rcases Zk.mp h with rfl | h
  ·exact g
  ·exact ke f v h
theorem kh:∀{l:V6},cn l ≠ .bo->∀v∈l,v.1 ≠ .bo
 |[],_,v,h=>by simp at h
 | (m,t) :: r,e,v,h=>by
  have d:m.join (cn r) ≠ .bo:=e;have g:m ≠ .bo:=by
   revert d;cases m<;>cases cn r<;>simp[Md.join]
  have f:cn r ≠ .bo:=by
   revert d;cases m<;>cases cn r<;>simp[Md.join]
  rcases Zk.mp h with rfl | h
  ·exact g
  ·exact kh f v h
theorem wa:∀{l:V6}{d:X0},l.length=d.length->(∀v∈l,v.1=.fr)->JE l d=d.flatten
 |[],[],_,_=>rfl
 |[],_ :: _,h,_=>by simp at h
 |_ :: _,[],h,_=>by simp at h
 |v :: l,F :: d,h,q=>by
  unfold JE;rw[q v Zx,wa (by simpa using h) λu f=>q u (Zw _ f)];rfl
def gu{d:X0}(h:x∈d.flatten):∃(i:Nat)(F:Wa),d[i]?=Z F/\x∈F:=by
 obtain⟨F,j,f⟩:=List.mem_flatten.mp h;obtain⟨i,g⟩:=List.mem_iff_getElem?.mp j;exact⟨i,F,g,f⟩
def M5.join(f:M5 R U H l j)(n:l.length=j.length):Fp R U H (cn l) j.flatten:=by
 have at':∀x∈j.flatten,∃v F,v∈l/\x∈F/\Fp R U H v.1 F:=λx d=>by
  obtain⟨i,F,m,g⟩:=gu d;have:i<l.length:=by
   have:=(Zb.mp m).1;lia
  exact⟨l[i],F,Yx this,g,f.each i _ F (Zp this) m⟩
 cases e:cn l with
 |fr =>
  have al:=ke e;refine⟨by rw[← wa n al];exact f.nd,λx d=>?_⟩;obtain⟨v,F,h,g,q⟩:=at' x d;rw[al v h]at q;exact q.2 x g
 |pu =>
  have al:=kh (l:=l) (by rw[e];decide);intro x d;obtain⟨v,F,h,g,q⟩:=at' x d;exact Fp.pu (al v h) q x g
 |bo =>
  intro x d;obtain⟨v,F,h,g,q⟩:=at' x d;exact q.bo x g
structure Args(G:Gx)(R:Ir)(U:VS.Env)(H0 H:Hp)(l:V6)(vs:List V)(Fs:X0):Prop where
 same:aG H0 H
 rp:RpL G H vs (trees l) Fs
 fp:M5 R U H0 l Fs
theorem Args.len(A:Args G R U g H l f d):l.length=d.length:=by
 have:=A.rp.len.2;simp[trees]at this;exact Eq.symm this
def d4(G:Gx)(r:List V->Hp->VK->Prop)(f:V6->V7):Prop:=∀(R:Ir)(U:VS.Env)(h H:Hp)(l:V6)(g:List V)(i:X0)(m:Md)(t:T)(Q:VK),Args G R U h H l g i->f l=Z (m,t) →
 (∀v d F,aG H d->Rp G d v t F->Fp R U h m F->Q v d)->r g H Q
def CZ(h:d4 G r f)(s:SR G R U O H)(i:cs U=Z l)(e:f l=Z (m,t))(k:∀v d F,aG H d->Rp G d v t F->Fp R U H m F->Q v d):N7 G cs O H λg n=>r g n Q :=
 ⟨R,U,l,s,i,λg d o e1 r1 f1=>h R U H d l g o m t Q ⟨e1,r1,f1⟩ e λv j F e2 r2 f2=>k v j F (e1.trans e2) r2 f2⟩
def ik(q:dn X (.builtin d) r)(g:d4 G r f)(o:Gl X x)(n:X.mg x=Y)(h:bootBuiltins x=Z (.builtin d))(u:Jj G X (e :: es) cs)(j:{`q0,x ≠ "__name__"})(w:{`q0,K3 x})(he:{`q1,K1 e es X})(hpl:{`q1,K2 pos es X}):PV G X (.Call (.Name x p) (e :: es) [] pos) (eN f cs) :=
 PE.weak (tZ q o n h u j w he hpl) λO H Q i=>by
  obtain⟨R,U,m,t,s,e,k⟩:=i;unfold eN at e;obtain⟨l,v,e⟩:=Zz.mp e;exact CZ g s v e k
def jE{G:Gx}{X:Cx}{es:List Expr}{cs:IQ}{pos p:Pos}{r:List V->Hp->VK->Prop}{f:V6->V7}{Ty:String}{x:Str}(o:dn X (.type Ty) r)(d:d4 G r f)(n:Gl X x)(j:X.mg x=Y)(g:bootBuiltins x=Z (.type Ty))(q:Jj G X (e :: es) cs)(i:{`q0,x ≠ "__name__"})(v:{`q0,K3 x})(he:{`q1,K1 e es X})(hpl:{`q1,K2 pos es X}):PV G X (.Call (.Name x p) (e :: es) [] pos) (eN f cs) :=
 PE.weak (lG o n j g q i v he hpl) λO H Q h=>by
  obtain⟨R,U,m,t,s,e,k⟩:=h;unfold eN at e;obtain⟨l,u,e⟩:=Zz.mp e;exact CZ d s u e k
def gQ(h:Jj G X es cs):PV G X (.List es pos) (hV cs):=PE.weak (um h) λO H Q f=>by
 obtain⟨R,U,m,t,s,e,k⟩:=f;unfold hV at e;obtain⟨l,i,e⟩:=Zz.mp e;refine⟨R,U,l,s,i,λd n o e1 r1 f1=>?_⟩;have A:Args G R U H n l d o:=⟨e1,r1,f1⟩
 obtain⟨_,g,_⟩:=q9 e;refine⟨by rw[r1.len.1,← gE];exact g,jH e1 e r1 (f1.join A.len) λv j F e2 r2 f2=>k v j F (e1.trans e2) r2 f2⟩
def qz{x1}(h:Jj G X es cs):PV G X (.Tuple es x1 pos) (pX cs):=PE.weak (Fo h) λO H Q d=>by
 obtain⟨R,U,m,t,s,e,k⟩:=d;unfold pX at e;obtain⟨l,n,e⟩:=Zz.mp e;refine⟨R,U,l,s,n,λf g i e1 r1 f1=>?_⟩;have A:Args G R U H g l f i:=⟨e1,r1,f1⟩
 unfold sy at e;split at e
 ·rename_i j;cases e;refine⟨by rw[r1.len.1,← gE,trees,Zy];exact j,λq d=>?_⟩;have r2:Rp G (upd g q (.tup f)) (.ref q) (.tup (trees l)) i.flatten:=.tup aj (r1.same (bG d));exact k _ _ _ (e1.trans (bG d)) r2 (Fp.up (f1.join A.len) r2)
 ·cases e
def Cm(r:Rp G H v t F)(h:Nb t=Z k):Ei G.K v H k:=by
 cases r with
 |non=>cases h;rfl
 |bl b=>cases h;rfl
 |int i=>cases h;rfl
 |str s j =>
  cases h;refine⟨by rw[dZ,← gE];exact j.1,?_⟩;rw[dZ];cases s with
  |nil=>rfl
  |cons a r =>
   have:((List.length (a :: r):Int) != 0)=B:=by simp;lia
   rw[this];rfl
 |scr d=>cases h
 |tup d q =>
  cases h;refine .inr (.inl ⟨_,Jz.of d,?_⟩);have:=q.len.1;rename_i f g _;cases f<;>cases g<;>simp_all
 |lst d q =>
  cases h;refine .inl ⟨_,Iw.of d,?_⟩;have:=q.len.1;rename_i f g _;cases f<;>cases g<;>simp_all
 |dct d j q =>
  cases h;refine .inr (.inr ⟨_,d,?_⟩);have:=q.len.1;rename_i l f g _;cases l<;>cases f<;>cases g<;>simp_all
 |dctT d j q=>cases h
 |dctN d j n q=>cases h
 |dctZ _ _ _=>cases h
 |exc _ _=>cases h
 |ins _ _ _ _=>cases h
 |mk _ _=>cases h
def vN(h:PV G X a ca)(d:{`q1,X.K=G.K})(he:{`q2,∀whole,isTrue a X.env whole=(do let v ← whole;standAt a.pos;holding [v] (truthy v))}):Kw G X a ca :=
 PT.weak (zu h he) λO H Q ⟨R,U,m,r,b,s,e,f,k⟩=>⟨R,U,m,r,s,e,λv g F e1 r1 f1=>⟨b,by rw[d];exact Cm r1 f,k g e1⟩⟩
def Ms(G:Gx)(X:Cx)(e:Expr)(c:Ex):Prop:=PW X e (tT G c)
def PW.weak{X:Cx}{e:Expr}{t f:TT}(h:PW X e t)(w:∀O H Q,f O H Q->t O H Q):PW X e f:=λg d s O H Q I q=>h g d s O H Q I (w O H Q q)
def Ms.OU(h:Ms G X e ca):Kw G X e ca:=PW.pt h
def sF(e:i5 ca cb U=Z (m,r)):(∃n,ca U=Z (n,.bl B)/\cb U=Z (m,r))\/(∃n,ca U=Z (n,.bl J)/\m=.fr/\r=.bl J):=by
 unfold i5 at e;obtain⟨⟨n,x⟩,d,e⟩:=Zz.mp e;split at e
 ·rename_i h;cases (show x=.bl B from h);exact .inl ⟨n,d,e⟩
 ·rename_i h;cases (show x=.bl J from h);cases e;exact .inr ⟨n,d,rfl,rfl⟩
 ·cases e
def Bd(e:NZ ca cb U=Z (m,r)):(∃n,ca U=Z (n,.bl J)/\cb U=Z (m,r))\/(∃n,ca U=Z (n,.bl B)/\m=.fr/\r=.bl B):=by
 unfold NZ at e;obtain⟨⟨n,x⟩,d,e⟩:=Zz.mp e;split at e
 ·rename_i h;cases (show x=.bl B from h);cases e;exact .inr ⟨n,d,rfl,rfl⟩
 ·rename_i h;cases (show x=.bl J from h);exact .inl ⟨n,d,e⟩
 ·cases e
def qK{G:Gx}{X:Cx}{a:Expr}{ca cb:Ex}{pos:Pos}{rest:List Expr}(j:Kw G X a ca)(i:Ms G X (.BoolOp .And (b :: rest) pos) cb):Ms G X (.BoolOp .And (a :: b :: rest) pos) (i5 ca cb) :=
 PW.weak (DO j i) λO H Q h=>by
  obtain⟨R,U,m,r,k,s,e,f,q⟩:=h;rcases sF e with⟨n,d,e2⟩ | ⟨n,d,rfl,rfl⟩
  ·refine⟨R,U,n,_,B,s,d,rfl,λg e1=>?_⟩;refine Ck ?_;exact⟨R,U,m,r,k,s.same e1,e2,f,λl e2=>q l (e1.trans e2)⟩
  ·refine⟨R,U,n,_,J,s,d,rfl,λg e1=>?_⟩;refine BE ?_;cases f;exact q g e1
def uL{G:Gx}{X:Cx}{a:Expr}{ca cb:Ex}{pos:Pos}{rest:List Expr}(j:Kw G X a ca)(i:Ms G X (.BoolOp .Or (b :: rest) pos) cb):Ms G X (.BoolOp .Or (a :: b :: rest) pos) (NZ ca cb) :=
 PW.weak (Gu j i) λO H Q h=>by
  obtain⟨R,U,m,r,k,s,e,f,q⟩:=h;rcases Bd e with⟨n,d,e2⟩ | ⟨n,d,rfl,rfl⟩
  ·refine⟨R,U,n,_,J,s,d,rfl,λg e1=>?_⟩;refine BE ?_;exact⟨R,U,m,r,k,s.same e1,e2,f,λl e2=>q l (e1.trans e2)⟩
  ·refine⟨R,U,n,_,B,s,d,rfl,λg e1=>?_⟩;refine Ck ?_;cases f;exact q g e1
def sT(e:pZ ca U=Z (m,r)):∃n b,ca U=Z (n,.bl b)/\m=.fr/\r=.bl (!b):=by
 unfold pZ at e;obtain⟨⟨n,x⟩,d,e⟩:=Zz.mp e;split at e
 ·rename_i b h;cases (show x=.bl b from h);cases e;exact⟨n,b,d,rfl,rfl⟩
 ·cases e
def qg(f:Kw G X a ca):Kw G X (.UnaryOp .Not a pos) (pZ ca):=PT.weak (DT f) λO H Q d=>by
 obtain⟨R,U,m,r,k,s,e,g,q⟩:=d;obtain⟨n,b,h,rfl,rfl⟩:=sT e;cases g;exact⟨R,U,n,_,b,s,h,rfl,λi e1=>q i e1⟩
def Eo(f:PV G X a ca):PV G X (.UnaryOp .Not a pos) (pZ ca):=PE.weak (FC f) λO H Q d=>by
 obtain⟨R,U,m,r,s,e,q⟩:=d;obtain⟨n,b,g,rfl,rfl⟩:=sT e;exact⟨R,U,n,_,s,g,λv h F e1 r1 f1=>⟨b,r1.JB,q _ h _ e1 (.bl _) Fp.nil⟩⟩
def FD{op}(h:PV G X a ca):PV G X (.BoolOp op [a] pos) ca:=FI h
def Ed{G:Gx}{X:Cx}{a:Expr}{ca cb:Ex}{pos:Pos}{rest:List Expr}(i:PV G X a ca)(h:PV G X (.BoolOp .And (b :: rest) pos) cb):PV G X (.BoolOp .And (a :: b :: rest) pos) (i5 ca cb) :=
 PE.weak (Eh i h) λO H Q g=>by
  obtain⟨R,U,m,r,s,e,q⟩:=g;rcases sF e with⟨n,d,e2⟩ | ⟨n,d,rfl,rfl⟩
  ·refine⟨R,U,n,_,s,d,λv f F e1 r1 f1=>⟨B,r1.JB,?_⟩⟩;refine Ck ?_;exact⟨R,U,m,r,s.same e1,e2,λv j F e2 r2 f2=>q v j F (e1.trans e2) r2 (f2.back e1)⟩
  ·refine⟨R,U,n,_,s,d,λv f F e1 r1 f1=>⟨J,r1.JB,?_⟩⟩;refine BE ?_;exact q _ f _ e1 (.bl _) Fp.nil
def vh(r:Rp G H v t F):decide (v=.non)=OZ t:=by
 cases r<;>simp[OZ]
def CY{c:Ex}(h:tT G c O H Q)(f:∀U m r,c U=Z (m,r)->∃b,r=.bl b)(w:∀Q,tE G c O H Q->t O H Q):tB t O H Q:=by
 obtain⟨R,U,m,r,b,s,e,d,k⟩:=h;refine w _ ⟨R,U,m,r,s,e,λv j F e1 r1 f1=>?_⟩;obtain⟨i,g⟩:=f U m r e;rw[g]at d r1;cases (show Z i=Z b from d);exact⟨_,r1.JB,k j e1⟩
end
section
def RpL.one{vs:List V}{Fs:X0}(r:RpL G H vs [t] Fs):∃v F,vs=[v]/\Fs=[F]/\Rp G H v t F:=by
 cases r with
 |cons r q=>cases q;exact⟨_,_,rfl,rfl,r⟩
def RpL.two(r:RpL G H g [t,h] i):∃v d F f,g=[v,d]/\i=[F,f]/\Rp G H v t F/\Rp G H d h f:=by
 cases r with
 |cons r q =>
  obtain⟨d,f,rfl,rfl,j⟩:=q.one;exact⟨_,_,_,_,rfl,rfl,r,j⟩
def HA(K:X6):List V->Hp->VK->Prop:=λd H Q=>(∃x n,d=[x]/\Hz K x H n/\Q (.int n) H)\/(∃a f,d=[V.ref a]/\H a=Z (.dK f)/\Q (.int f.length) H)
def uq:dn X (.builtin "len") (λf H Q=>∃a d,f=[V.ref a]/\H a=Z (.dK d)/\Q (.int d.length) H):=by
 intro g s O H f m Q I r h;obtain⟨a,d,rfl,j,q⟩:=h;obtain⟨u,rfl,i⟩:=vals1 r;cases i;exact G0 I (.inl j) λt n l=>⟨.int d.length,H,l,⟨t,rfl⟩,q⟩
def wq:dn X (.builtin "len") (HA X.K):=y9.or uq
def DR:d4 G (HA G.K) cT:=by
 intro R U C H l j o m t Q A e k;refine L2.hJ λz f=>?_;unfold cT at e;split at e
 ·rename_i x;obtain⟨w,x⟩:=x;obtain⟨n,d,e⟩:=Zv.mp e;cases e;obtain⟨v,F,rfl,rfl,r⟩:=(show RpL G H j [x] o from A.rp).one;have fin:Q (.int (n:Int)) H:=bw k (.int _);cases r with
  |non=>cases d
  |bl b=>cases d
  |int i=>cases d
  |str s g =>
   cases d;refine f ?_;exact .inl ⟨_,_,rfl,⟨by rw[dZ,← gE];exact g.1,rfl⟩,by rw[dZ];exact fin⟩
  |scr h =>
   cases d;refine f ?_;refine .inl ⟨_,_,rfl,.inl ⟨_,h.seq,rfl⟩,?_⟩;rw[Zy];exact fin
  |tup h q =>
   cases d;refine f ?_;refine .inl ⟨_,_,rfl,.inr ⟨_,Jz.of h,rfl⟩,?_⟩;rw[q.len.1];exact fin
  |lst h q =>
   cases d;refine f ?_;refine .inl ⟨_,_,rfl,.inl ⟨_,Iw.of h,rfl⟩,?_⟩;rw[q.len.1];exact fin
  |dct h g q =>
   cases d;refine f ?_;refine .inr ⟨_,_,rfl,h,?_⟩;rename_i y ws u _;have e1:=q.len.1;rw[Z1,Zy]at fin;rw[Z1,e1];exact fin
  |dctT h g q=>cases d
  |dctN h g n q=>cases d
  |dctZ _ _ _=>cases d
  |exc _ _=>cases d
  |ins _ _ _ _=>cases d
  |mk _ _=>cases d
 ·cases e
def Cf:d4 G (λd H Q=>∃i j,d=[.int i,.int j]/\Q (.int (if j > i then j else i)) H) si:=by
 intro R U o H l f h m t Q A e k;unfold si at e;split at e
 ·rename_i _ i _ j;cases e;obtain⟨v,n,F,q,rfl,rfl,r,g⟩:=(show RpL G H f [.int i,.int j] h from A.rp).two;exact⟨i,j,by rw[r.int_inv,g.int_inv],bw k (.int _)⟩
 ·cases e
def Cj:d4 G (λd H Q=>∃i j,d=[.int i,.int j]/\Q (.int (if j<i then j else i)) H) rV:=by
 intro R U o H l f h m t Q A e k;unfold rV at e;split at e
 ·rename_i _ i _ j;cases e;obtain⟨v,n,F,q,rfl,rfl,r,g⟩:=(show RpL G H f [.int i,.int j] h from A.rp).two;exact⟨i,j,by rw[r.int_inv,g.int_inv],bw k (.int _)⟩
 ·cases e
def Do(K:X6):List V->Hp->VK->Prop:=λf H Q=>∃p d,f=[.ref p]/\(Iw K H p d\/Jz K H p d)/\∀l,H l=Y->Q (.ref l) (upd H l (.lst d))
def wc:d4 G (Do G.K) Dj:=by
 intro R U r H l j n m t Q A e k;unfold Dj at e;split at e
 ·rename_i o x;obtain⟨v,F,rfl,rfl,g⟩:=(show RpL G H j [.lst x] n from A.rp).one;obtain⟨a,d,q,rfl,rfl,i,h⟩:=g.lst_inv;have f:=A.fp.each 0 _ _ M M;exact⟨a,d,rfl,.inl (Iw.of i),jH A.same e h (f.sub (Yc _ _)) k⟩
 ·rename_i o x;obtain⟨v,F,rfl,rfl,g⟩:=(show RpL G H j [.tup x] n from A.rp).one;obtain⟨a,d,q,rfl,rfl,i,h⟩:=g.JH;have f:=A.fp.each 0 _ _ M M;exact⟨a,d,rfl,.inr (Jz.of i),jH A.same e h f k⟩
 ·cases e
def tO(G:Gx)(c:Option Ex):TO:=λO H Q=>∃R U o,SR G R U O H/\vP c U=Z o/\∀d,aG H d->Q o d
def RX(G:Gx)(X:Cx)(e:Option Expr)(c:Option Ex):Prop:=PO X e (tO G c)
def PO.weak{X:Cx}{e:Option Expr}{t f:TO}(h:PO X e t)(w:∀O H Q,f O H Q->t O H Q):PO X e f:=λd s O H Q I q=>h d s O H Q I (w O H Q q)
def zi:RX G X Y Y:=PO.weak Cv λO H Q d=>by
 obtain⟨R,U,o,s,e,k⟩:=d;cases (show Z (Y:Option Int)=Z o from e);exact k H (aG.refl _)
def og(h:PV G X a ca):RX G X (Z a) (Z ca):=PO.weak (AY h) λO H Q f=>by
 obtain⟨R,U,o,s,e,k⟩:=f;obtain⟨⟨m,y⟩,g,e⟩:=Zz.mp (show (ca U).bind (λy=>(int? y.2).map Z)=Z o from e);obtain⟨i,d,e⟩:=Zv.mp e;cases e;refine⟨R,U,m,y,s,g,λv l F e1 r1 f1=>?_⟩;cases y with
 |int j =>
  cases d;exact⟨_,r1.int_inv,k l e1⟩
 |_=>cases d
def lV{α:Type}(l:List α)(d f:Option Int):cut l d f=(l.drop (HT.Ji l.length 0 d)).take (HT.Ji l.length l.length f-HT.Ji l.length 0 d):=by
 unfold cut;cases d<;>cases f<;>rfl
def zS(d f:Option Int)(n:Nat):Builtin.Str.strSliceIndices d f 1 n=Builtin.Str.strSliceIndices (Z ((min (HT.Ji n 0 d) n:Nat):Int)) (Z ((min (HT.Ji n n f) n:Nat):Int)) 1 n:=by
 have e1:∀k:Nat,¬((k:Int)<0):=λk=>by lia
 unfold Builtin.Str.strSliceIndices;simp only[show (1:Int) > 0 by decide,if_true,e1,if_false];congr 1
 ·cases d with
  |none=>simp only[HT.Ji];lia
  |some i =>
   simp only[HT.Ji];by_cases h:i<0
   ·simp only[h,if_true];lia
   ·simp only[h,if_false];lia
 ·cases f with
  |none=>simp only[HT.Ji];lia
  |some i =>
   simp only[HT.Ji];by_cases h:i<0
   ·simp only[h,if_true];lia
   ·simp only[h,if_false];lia
def oV(s:Tx)(d f:Option Int):PySem.StrLaws.sliceText (sx s) d f=sx (cut s d f):=by
 have key:PySem.StrLaws.sliceText (sx s) d f=PySem.StrLaws.sliceText (sx s) (Z ((min (HT.Ji s.length 0 d) s.length:Nat):Int)) (Z ((min (HT.Ji s.length s.length f) s.length:Nat):Int)):=by
  unfold PySem.StrLaws.sliceText;rw[dZ,zS]
 rw[key];have hd:∀a:Nat,s.drop (min a s.length)=s.drop a:=λa=>by
  by_cases h:a<=s.length
  ·rw[YO h]
  ·rw[VZ (by exact Ws h),Xf (Zo _),Xf (by exact Ws h)]
 by_cases h:min (HT.Ji s.length 0 d) s.length<=min (HT.Ji s.length s.length f) s.length
 ·rw[PySem.StrLaws.sliceText_nat (sx s) h (by rw[dZ];exact Nat.min_le_right _ _),lV];show (⟨_⟩:Str)=⟨_⟩;congr 2;show ((sx s).cps.toList.drop _).take _=_;have:(sx s).cps.toList=s:=rfl;rw[this,hd];by_cases i:HT.Ji s.length 0 d<=s.length
  ·rw[YO i];by_cases g:HT.Ji s.length s.length f<=s.length
   ·rw[YO g]
   ·rw[VZ (by exact Ws g),Yk (by rw[Z2];exact Zo _),Yk (by rw[Z2];lia)]
  ·rw[Xf (by exact Ws i)];simp
 ·have j:cut s d f=[]:=by
   rw[lV];have:HT.Ji s.length s.length f-HT.Ji s.length 0 d=0:=by omega
   rw[this,List.take_zero]
  rw[j];unfold PySem.StrLaws.sliceText;have e2:Builtin.Str.strSliceIndices (Z ((min (HT.Ji s.length 0 d) s.length:Nat):Int)) (Z ((min (HT.Ji s.length s.length f) s.length:Nat):Int)) 1 (sx s).length=[]:=by
   have e1:∀k:Nat,¬((k:Int)<0):=λk=>by lia
   unfold Builtin.Str.strSliceIndices sliceRange;simp only[show (1:Int) > 0 by decide,if_true,e1,if_false,dZ];rw[Zm (by omega)];rfl
  rw[e2];have:¬((1:Int)==1&&([]:V2).length==(sx s).length)=B:=by
   rw[dZ];simp;lia
  rw[Zm this];rfl
noncomputable def G9:V->Option Int->Option Int->Hp->VK->Prop:=λx lo d H Q=>∃z,x=.str z/\z.length<=KF/\Q (.str (PySem.StrLaws.sliceText z lo d)) H
def part_of(h:IsPart v o):∃q:Option (Int×Tok),v=partValue q/\o=q.map (·.1):=by
 cases h with
 |none=>exact⟨Y,rfl,rfl⟩
 |int i t=>exact⟨Z (i,t),rfl,rfl⟩
def ql{α β:Type}(f:α->Option β)(l:List α):(l.filterMap f).length<=l.length:=List.length_filterMap_le f l
def BK(d f:Option Int)(n:Nat):(Builtin.Str.strSliceIndices d f 1 n).length<=n:=by
 rw[zS];by_cases h:min (HT.Ji n 0 d) n<=min (HT.Ji n n f) n
 ·rw[PySem.StrLaws.strSliceIndices_plain h (by exact Nat.min_le_right _ _),Zy,Z0];lia
 ·have e1:∀k:Nat,¬((k:Int)<0):=λk=>by lia
  unfold Builtin.Str.strSliceIndices sliceRange;simp only[show (1:Int) > 0 by decide,if_true,e1,if_false];rw[Zm (by omega)];simp
def EI:N0 X G9:=by
 intro f s O H x v o n lo w r Q I g m i pu h;obtain⟨z,rfl,j,q⟩:=h;obtain⟨t,rfl⟩:=g;obtain⟨l,rfl,rfl⟩:=part_of i;obtain⟨u,rfl,rfl⟩:=part_of pu;refine⟨"str",_,F.slot_str_getitem.lookup,typeIs_str s z t,wpAny_getItem_str_slice (l:=l) (u:=u) (st:=Y) m M ?_⟩;unfold sliceMade;split
 ·rename_i d;refine⟨.str z,H,I,⟨t,rfl⟩,?_⟩;have e:PySem.StrLaws.sliceText z (l.map (·.1)) (u.map (·.1))=z:=by
   unfold PySem.StrLaws.sliceText;exact Zr d
  rw[e]at q;exact q
 ·rename_i d;refine⟨ZC ?_ j,.str _,H,I.tok _,⟨_,rfl⟩,?_⟩
  ·show (List.filterMap _ _).toArray.size<=_;rw[ZQ];exact ZC (ql _ _) (BK _ _ _)
  ·have e:PySem.StrLaws.sliceText z (l.map (·.1)) (u.map (·.1))=⟨((slicePicked z l u Y).filterMap (z.cps[·]?)).toArray⟩:=by
    unfold PySem.StrLaws.sliceText;exact Zm d
   rw[e]at q;exact q
def rSl(K:X6):V->Option Int->Option Int->Hp->VK->Prop:=λx lo d H Q=>G9 x lo d H Q\/FS K x lo d H Q
def HL:N0 X (rSl X.K):=EI.or BP
def BF{α:Type}(l:List α)(d f:Option Int):(cut l d f).length<=l.length:=by
 rw[lV,Z8,Z2];lia
theorem RpL.cut(r:RpL G H g i j)(d f:Option Int):RpL G H (xp g d f) (VS.cut i d f) (VS.cut j d f):=by
 have h:=r.len;rw[lV,lV,h.2];unfold xp;rw[h.1];exact(r.drop _).take _
def vk{α:Type}(l:List α)(d f:Option Int):(VS.cut l d f).Sublist l:=by
 rw[lV];exact(List.take_sublist _ _).trans (List.drop_sublist _ _)
def yu{F G:X0}(h:F.Sublist G):F.flatten.Sublist G.flatten:=by
 induction h with
 |slnil=>exact Wy _
 |cons a _ d=>rw[ZK];exact d.trans (Xp _ _)
 |cons_cons a _ d=>rw[ZK,ZK];exact(Wy _).append d
def sM(ha:PV G X a ca)(d:RX G X j u)(S:RX G X n w)(hK:{`q1,X.K=G.K}):PV G X (.Subscript a (.Slice j n Y L) pos) (Pj ca u w) :=
 PE.weak (AG HL ha d S) λO H Q P=>by
  obtain⟨R,U,m,t,s,e,k⟩:=P;unfold Pj at e;obtain⟨⟨M,x⟩,ea,r⟩:=Zz.mp e;obtain⟨l,el,y⟩:=Zz.mp r;obtain⟨h,eh,f⟩:=Zz.mp y;clear e r y;refine⟨R,U,M,x,s,ea,λv H1 F e1 r1 f1=>⟨R,U,l,s.same e1,el,λH2 e2=>⟨R,U,h,(s.same e1).same e2,eh,λA o=>?_⟩⟩⟩;have g:aG H A:=(e1.trans e2).trans o;have i:=(r1.same e2).same o;unfold UQ at f;split at f
  ·rename_i N z q;cases q;cases f;obtain⟨rfl,d⟩:=i.str_inv;refine .inl ⟨_,rfl,by rw[dZ,← gE];exact d.1,?_⟩;rw[oV];exact k _ A _ g (.str _ ⟨ZC (BF _ _ _) d.1,λc hc=>d.2 c ((vk _ _ _).subset hc)⟩) Fp.nil
  ·rename_i N z q;cases q;obtain⟨a',C,Fs,rfl,rfl,IK,D⟩:=i.lst_inv;refine .inr ⟨a',C,rfl,by rw[hK];exact Iw.of IK,jH g f (D.cut l h) ((f1.sub (Yc _ _)).sub (yu (vk _ _ _))) λv H4 F e5 E f4=>k v H4 F (g.trans e5) E f4⟩
  ·cases f
noncomputable def Mn:Ty->String
 |.int => "int"
 |.str => "str"
 |.bool => "bool"
 |.list => "list"
 |.tuple => "tuple"
 |.dict => "dict"
def rIs(K:X6):List V->Hp->VK->Prop:=λd H Q=>∃x c t b,d=[x,.ty c]/\JM K H x t/\PySem.W.kitOne K t (.type c)=Z b/\Q (.bl b) H
def A9:dn X (.builtin "isinstance") (rIs X.K):=by
 intro d s O H f i Q I r h;obtain⟨x,c,t,b,rfl,ty,e,q⟩:=h;obtain⟨u,g,rfl,r1,r2⟩:=vals2 r;cases r2;exact wG I r1 ty e λj=>⟨.bl b,H,I.tok _,rfl,q⟩
def BH(K:X6)(d:Ty):(PySem.W.kitOne K (.type "NoneType") (.type (Mn d))=Z J)/\(PySem.W.kitOne K (.type "bool") (.type (Mn d))=Z (sO d (.bl B)))/\(PySem.W.kitOne K (.type "int") (.type (Mn d))=Z (sO d (.int 0))) ∧
  (PySem.W.kitOne K (.type "str") (.type (Mn d))=Z (sO d (.str [])))/\(PySem.W.kitOne K (.type "list") (.type (Mn d))=Z (sO d (.lst [])))/\(PySem.W.kitOne K (.type "tuple") (.type (Mn d))=Z (sO d (.tup [])))/\(PySem.W.kitOne K (.type "dict") (.type (Mn d))=Z (sO d (.dct 0 []))):=by
 cases d<;>refine⟨?_,?_,?_,?_,?_,?_,?_⟩<;>kernel_rfl
def Ga(d:Ty)(r:Rp G H v t F)(h:vZ t=B):∃g,JM G.K H v g/\PySem.W.kitOne G.K g (.type (Mn d))=Z (sO d t):=by
 obtain⟨y,x,w,u,o,m,j⟩:=BH G.K d;cases r with
 |non=>exact⟨_,.non,by rw[y];cases d<;>rfl⟩
 |bl b=>exact⟨_,.bl b,by rw[x];cases d<;>rfl⟩
 |int i=>exact⟨_,.int i,by rw[w];cases d<;>rfl⟩
 |str s _=>exact⟨_,.str _,by rw[u];cases d<;>rfl⟩
 |scr _=>cases h
 |tup f q=>exact⟨_,.tup f,by rw[m];cases d<;>rfl⟩
 |lst f q=>exact⟨_,.lst f,by rw[o];cases d<;>rfl⟩
 |dct f l q=>exact⟨_,.dK f,by rw[j];cases d<;>rfl⟩
 |dctT f l q=>exact⟨_,.dT f,by rw[j];cases d<;>rfl⟩
 |dctN f l n q=>simp at h
 |dctZ _ _ _=>cases h
 |exc _ _=>cases h
 |ins _ _ _ _=>cases h
 |mk _ _=>cases h
def GJ(f:Ty)(C:PV G X a ca)(A:Gl X "isinstance")(w:X.mg "isinstance" = Y)(N:Gl X x)(P:X.mg x=Y)(q:bootBuiltins x=Z (.type (Mn f)))(j:{`q1,X.K=G.K})(u:{`q0,x ≠ "__name__"})(S:{`q0,K3 x})(i:{`q1,Pv [a,.Name x d] X.env=(J,eval a X.env) :: Pv [.Name x d] X.env})(J9:{`q1,Pv [.Name x d] X.env=(J,eval (.Name x d) X.env) :: Pv [] X.env})(g:{`q1,(backTo pos (Pv [Expr.Name x d] X.env)).any (·.1)=J}) :
  PV G X (.Call (.Name "isinstance" n) [a,.Name x d] [] pos) (QM f ca) :=
 PE.weak (tZ A9 A w boot_isinstance (dC C (dC (BQ (v:=.ty (Mn f)) N P q M u S) gg J9) i) (by decide) M i g) λO H Q r=>by
  obtain⟨R,U,m,t,s,e,k⟩:=r;unfold QM at e;obtain⟨⟨o,y⟩,L,h⟩:=Zz.mp e;split at h
  ·rename_i z;cases h;refine⟨R,U,o,y,s,L,λv H' F e1 r1 f1=>?_⟩;obtain⟨l,E,D⟩:=Ga f r1 z;exact⟨v,Mn f,l,_,rfl,by rw[j];exact E,by rw[j];exact D,k _ H' _ e1 (.bl _) Fp.nil⟩
  ·cases h
end
section
def GV(G:Gx)(r:V->List V->Hp->VK->Prop)(f:Val->V6->V7):Prop:=∀(R:Ir)(U:VS.Env)(d i H:Hp)(x:Val)(v:V)(F:Wa)(l:V6)(h:List V)(j:X0)(m:Md)(t:T)(Q:VK),
 aG d i->Rp G H v x.2 F->Fp R U d x.1 F->Args G R U i H l h j->f x l=Z (m,t)->(∀v g F,aG H g->Rp G g v t F->Fp R U d m F->Q v g)->r v h H Q
def Hq{g:Pos}(A:PlainAttrs n)(h:Slot n d j)(Oo:typeOf (.builtin j)=pure (.type "method_descriptor"))(M:Pm X j r)(C:GV G r f)(P:∀H v (x:Val) F l z,Rp G H v x.2 F->f x l=Z z->tyV G.K n v H)(L:PV G X a ca)(N:Jj G X (e :: es) cs)(S:{`q1,X.K=G.K})(IT:{`q1,XAB a d X.env (eval a X.env)=eval a X.env})(Jm:{`q1,((backTo i (Pv (e :: es) X.env)).all (λx=>!x.1)&&(backToKw i (SL [] X.env)).all (λx=>x.1.isSome)
   && decide ((e :: es).length+([]:List Keyword).length+(if ([]:List Keyword).isEmpty then 0 else 1)<30))=B})(ID:{`q1,(g.endLine==i.line)=B})(D:{`q1,K1 e es X})(IC:{`q1,K2 i es X}) :
  PV G X (.Call (.Attribute a d g) (e :: es) [] i) (eM f ca cs) :=
 PE.weak (pK A h Oo M L N IT Jm ID D IC) λO H Q E=>by
  obtain⟨R,U,m,t,s,e,k⟩:=E;unfold eM at e;obtain⟨x,ea,e'⟩:=Zz.mp e;obtain⟨l,el,o⟩:=Zz.mp e';refine⟨R,U,x.1,x.2,s,ea,λv q F e1 r1 f1=>⟨by rw[S];exact P q v x F l _ r1 o,R,U,l,s.same e1,el,λu H2 Fs e2 r2 f2=>?_⟩⟩;exact C R U H q H2 x v F l u Fs m t Q e1 (r1.same e2) f1 ⟨e2,r2,f2⟩ o λw H3 F' e3 y f3=>k w H3 F' ((e1.trans e2).trans e3) y f3
def Ca:∀(sep:Tx)(d:List Tx),Txt.join (sx sep) (d.map sx)=sx (dq sep d):=by
 intro sep d;have fold:∀(l:List Tx)(acc:Tx),(l.map sx).foldl (λacc p=>acc++(sx sep).cps++p.cps) acc.toArray=(l.foldl (λacc p=>acc++sep++p) acc).toArray:=by
  intro l
  induction l with
  |nil=>intro acc;rfl
  |cons x r f =>
   intro acc;rw[Zn,Xm,Xm,← f];congr 1;simp[sx]
 have g:∀(r:List Tx)(acc:Tx),r.foldl (λacc p=>acc++sep++p) acc=dq sep (acc :: r):=by
  intro r
  induction r with
  |nil=>intro acc;rfl
  |cons x r f =>
   intro acc;rw[Xm,f];cases r with
   |nil=>rfl
   |cons y r=>simp[dq]
 cases d with
 |nil=>rfl
 |cons x r =>
  show (⟨_⟩:Str)=⟨_⟩;congr 1;show ((r.map sx).foldl _ x.toArray)=_;rw[fold,g]
theorem u5:∀{d:List V}{l:V8}{g:X0}{f:List Tx},RpL G H d l g->strs? l=Z f->d=f.map λs=>V.str (sx s)
 |_,_,_,_,.nil,e=>by cases e;rfl
 |_,_,_,_,.cons (t:=t) r q,e=>by
  cases t with
  |str s =>
   simp only[strs?]at e;obtain⟨h,e1,e2⟩:=Zv.mp e;subst e2;rw[u5 q e1,r.str_inv.1];rfl
  |_=>cases e
theorem n4:∀{d:List Tx}{f:V0},aN (d.map λs=>V.str (sx s)) f->StrsAre f (d.map sx)
 |[],_,h=>by cases h;exact .nil
 |s :: d,_,h=>by
  cases h with
  |cons r q =>
   obtain⟨t,rfl⟩:=r;exact .cons _ _ (n4 q)
def rJoin(K:X6):V->List V->Hp->VK->Prop:=λx f H Q=>∃sep p d,x=.str (sx sep)/\f=[.ref p]/\Iw K H p (d.map λs=>V.str (sx s))/\total d+d.length*sep.length<=16777216/\Q (.str (sx (dq sep d))) H
theorem vB:∀d:List Tx,((d.map sx).map (·.length)).sum=total d
 |[]=>rfl
 |s :: r=>by
  rw[Zn,Zn,Wp,vB r,dZ];rfl
def AR:Pm X "str.join" (rJoin X.K):=by
 intro f s O H x o v w Q I i d h;obtain⟨sep,p,g,rfl,rfl,m,n,q⟩:=h;obtain⟨t,rfl⟩:=i;obtain⟨u,rfl,j⟩:=vals1 d;cases j;obtain⟨z,r,l,A⟩:=I.list m;refine join_list l.isList (ys:=g.map sx) (by simpa using n4 r) ?_ λy k=>⟨.str _,H,I.tok _,⟨_,by rw[Ca]⟩,q⟩
 rw[vB,Zy,dZ];exact n
theorem nN(d:Tx):∀f:List Tx,(dq d f).length<=total f+f.length*d.length
 |[]=>by simp[dq,total]
 |[x]=>by simp[dq,total]
 |x :: y :: r=>by
  have:=nN d (y :: r);simp only[dq,total,Zs,Za]at this ⊢;have e:(r.length+1+1)*d.length=(r.length+1)*d.length+d.length:=Nat.succ_mul _ _;lia
theorem nc(d:Tx):∀(f:List Tx)(c:Nat),c∈dq d f->c∈d\/∃s∈f,c∈s
 |[],c,h=>by simp[dq]at h
 |[x],c,h=>.inr ⟨x,Zx,h⟩
 |x :: y :: r,c,h=>by
  simp only[dq,Zd]at h;rcases h with (h | h) | h
  ·exact .inr ⟨x,Zx,h⟩
  ·exact .inl h
  ·exact(nc d (y :: r) c h).imp id λ⟨s,g,i⟩=>⟨s,Zw _ g,i⟩
theorem nV:∀{g:List V}{l:V8}{h:X0}{f:List Tx},RpL G H g l h->strs? l=Z f->∀s∈f,∀c∈s,c<1114112
 |_,_,_,_,.nil,e,s,d=>by cases e;simp at d
 |_,_,_,_,.cons (t:=t) r q,e,s,d=>by
  cases t with
  |str x =>
   simp only[strs?]at e;obtain⟨i,e1,e2⟩:=Zv.mp e;subst e2;rcases Zk.mp d with rfl | d
   ·exact r.str_inv.2.2
   ·exact nV q e1 s d
  |_=>cases e
def B3:GV G (rJoin G.K) nu:=by
 intro R U P O H x v F l o E m t Q q r f A e k;unfold nu at e;split at e
 ·rename_i M sep N w;obtain⟨d,n,g⟩:=Zz.mp e;split at g
  ·rename_i i;cases g;obtain⟨L,F',rfl,rfl,u⟩:=(show RpL G H o [.lst w] E from A.rp).one;obtain⟨z,ws,S,rfl,rfl,j,h⟩:=u.lst_inv;rw[u5 h n]at j;refine⟨sep,z,d,r.str_inv.1,rfl,Iw.of j,i,bw k (.str _ ⟨ZC (nN sep d) i,λc y=>(nc sep d c y).elim (r.str_inv.2.2 c) λ⟨s,C,D⟩=>nV h n s C c D⟩)⟩
  ·cases g
 ·cases e
def xS(r:Rp G H v t F)(h:∃s,t=.str s):tyV G.K "str" v H:=by
 obtain⟨s,rfl⟩:=h;rw[r.str_inv.1];rfl
def BB{d:Pos}(i:PV G X a ca)(j:Jj G X [e] cs)(g:{`q1,X.K=G.K})(n:{`q1,XAB a "join" X.env (eval a X.env)=eval a X.env})(m:{`q1,((backTo f (Pv [e] X.env)).all (λx=>!x.1)&&(backToKw f (SL [] X.env)).all (λx=>x.1.isSome)
   && decide ([e].length+([]:List Keyword).length+(if ([]:List Keyword).isEmpty then 0 else 1)<30))=B})(o:{`q1,(d.endLine==f.line)=B})(h:{`q1,K1 e [] X})(q:{`q1,(backTo f (Pv [] X.env)).any (·.1)=J}) :
  PV G X (.Call (.Attribute a "join" d) [e] [] f) (eM nu ca cs) :=
 Hq PySem.F.plainAttrs_str PySem.F.slot_str_join PySem.F.type_str_join (g ▸ AR) B3 (λH v x F l z r e=>xS r (by
  unfold nu at e;split at e
  ·exact⟨_,rfl⟩
  ·cases e)) i j g n m o h q
end
end VS
end
section
namespace VS
@[simp] def JS(x y:Val):V7:=match x.2 with
 |.dct 0 l=>if gr y.2 then (cP l y.2).map (sub x.1) else Y
 |_=>aD x y
noncomputable def flat:T->Bool
 |.non=>B
 |.bl _=>B
 |.int _=>B
 |.str _=>B
 |_=>J
@[simp] def mG(x y:Val):V7:=match y.2 with
 |.dct 0 l=>if gr x.2 then Z (.fr,.bl (cP l x.2).isSome) else Y
 |.lst l=>if flat x.2&&l.all flat then Z (.fr,.bl (l.any λy=>eqT y x.2)) else Y
 |.tup l=>if flat x.2&&l.all flat then Z (.fr,.bl (l.any λy=>eqT y x.2)) else Y
 |_=>Y
@[simp] def dh(x y:Val):V7:=match mG x y with
 |some (_,.bl b)=>Z (.fr,.bl (!b))
 |_=>Y
def pm{α:Type}(f:T->Option (T×α)):List Ky->T->Option (T×α)
 |[],t=>f t
 |.fld k :: r,t=>match t with
  |.obj (c+1) (q :: fs)=>(fs.findIdx? λp=>p.1==k).bind λi=>(fs[i]?).bind λp=>(pm f r p.2).map λz=>(.obj (c+1) (q :: fs.set i (p.1,z.1)),z.2)
  |_=>Y
 |.un :: r,t=>match t with
  |.obj 0 [(0,.bl true),(m,x)]=>(pm f r x).map λz=>(.obj 0 [(0,.bl B),(m,z.1)],z.2)
  |_=>Y
 |.at k :: r,t=>match t with
  |.lst l=>match k with
   |.int i=>(JP l.length i).bind λj=>(l[j]?).bind λx=>(pm f r x).map λz=>(.lst (l.set j z.1),z.2)
   |_=>Y
  |.dct 0 l=>if gr k then (l.findIdx? λp=>eqT p.1 k).bind λi=>(l[i]?).bind λp=>(pm f r p.2).map λz=>(.dct 0 (l.set i (p.1,z.1)),z.2) else Y
  |_=>Y
end VS
end
section
namespace VS
open PySem PySem.Spec PyProof.Rows L2
section
mutual
def Km:T->PyData
 |.non=>.none
 |.bl b=>.bool b
 |.int i=>.int i
 |.str s=>.str (sx s)
 |.tup l=>.tuple (nO l)
 |.lst l=>.list (nO l)
 |_=>.none
def nO:V8->List PyData
 |[]=>[]
 |t :: r=>Km t :: nO r
end
def Hr(h:mn s):PyData.strOk (sx s)=B:=by
 unfold PyData.strOk sx;simp only[Array.all_eq_true,decide_eq_true_eq];intro i a;have:s.toArray[i]∈s:=by simp
 have:=h.2 _ this;simpa using this
def yj:(sx s==sx t)=(s==t):=by
 rw[XA,beq_iff_eq,beq_iff_eq];constructor
 ·intro h;have:(sx s).cps=(sx t).cps:=by rw[h]
  simpa[sx] using this
 ·intro h;rw[h]
mutual
theorem qJ:∀(n k:Nat)(t u:T),Jn n t=B->Jn k u=B->PyData.eqv (Km t) (Km u)=eqT t u
 |n,k,t,u,b,a=>by
  cases t with
  |scr _=>cases n<;>simp at b
  |dct _ _=>cases n<;>simp at b
  |obj _ _=>cases n<;>simp at b
  |tup l =>
   cases n with
   |zero=>simp at b
   |succ n =>
    cases u with
    |tup r =>
     cases k with
     |zero=>simp at a
     |succ k =>
      simp only[Km,PyData.eqv,eqT];exact oO n k l r (by simpa using b) (by simpa using a)
    |scr _=>cases k<;>simp at a
    |dct _ _=>cases k<;>simp at a
    |obj _ _=>cases k<;>simp at a
    |_=>simp[Km,PyData.eqv,eqT]
  |lst l =>
   cases n with
   |zero=>simp at b
   |succ n =>
    cases u with
    |lst r =>
     cases k with
     |zero=>simp at a
     |succ k =>
      simp only[Km,PyData.eqv,eqT];exact oO n k l r (by simpa using b) (by simpa using a)
    |scr _=>cases k<;>simp at a
    |dct _ _=>cases k<;>simp at a
    |obj _ _=>cases k<;>simp at a
    |_=>simp[Km,PyData.eqv,eqT]
  |str s =>
   cases u with
   |str r=>simp only[Km,PyData.eqv,eqT];exact yj
   |scr _=>cases k<;>simp at a
   |dct _ _=>cases k<;>simp at a
   |obj _ _=>cases k<;>simp at a
   |_=>simp[Km,PyData.eqv,eqT]
  |_ =>
   cases u with
   |scr _=>cases k<;>simp at a
   |dct _ _=>cases k<;>simp at a
   |obj _ _=>cases k<;>simp at a
   |_=>simp[Km,PyData.eqv,eqT]
theorem oO:∀(n k:Nat)(l r:V8),(∀t∈l,Jn n t=B)->(∀t∈r,Jn k t=B)->PyData.eqvAll (nO l) (nO r)=g0 l r
 |_,_,[],[],_,_=>rfl
 |_,_,[],_ :: _,_,_=>rfl
 |_,_,_ :: _,[],_,_=>rfl
 |n,k,t :: l,u :: r,d,b=>by
  simp only[nO,PyData.eqvAll,g0];rw[qJ n k t u (d t Zx) (b u Zx),oO n k l r (λx a=>d x (Zw _ a)) λx a=>b x (Zw _ a)]
end
def Rp.Mz(r:Rp G H v (.tup d) F):∃b a e,v=.ref b/\H b=Z (.tup a)/\RpL G H a d e:=by
 cases r with
 |tup h q=>exact⟨_,_,_,rfl,h,q⟩
def Rp.MH(r:Rp G H v (.lst d) F):∃b a e,v=.ref b/\H b=Z (.lst a)/\RpL G H a d e:=by
 cases r with
 |lst h q=>exact⟨_,_,_,rfl,h,q⟩
theorem lN{s:IR}(f:∀{v:V}{t:T}{F:Wa}{u:On},Rp G H v t F->RelV v u->Jn n t=B->∃b,Reads s.heap u (Km t) b/\(Km t).canLay0=B/\(Km t).depth<=n):∀{d:List V}{a:V8}{o:X0}{e:V0},RpL G H d a o->aN d e->(∀t∈a,Jn n t=B) →
  ∃b,ReadsAll s.heap e (nO a) b/\PyData.canLayAll0 (nO a)=B/\PyData.depthAll (nO a)<=n
 |_,_,_,_,.nil,r,_=>by cases r;exact⟨_,.nil,rfl,ZO _⟩
 |_,_,_,_,.cons p q,r,h=>by
  cases r with
  |cons r1 r2 =>
   obtain⟨b,j,i,w⟩:=f p r1 (h _ Zx);obtain⟨bs,m,l,x⟩:=lN f q r2 λt g=>h t (Zw _ g);exact⟨_,.cons j m,by simp only[nO,PyData.canLayAll0,i,l,Bool.and_self],by simp only[nO,PyData.depthAll];lia⟩
def ng(r:Rp G H v t F)(a:RelV v u)(d:flat t=B):∃e,Reads h u (Km t) e/\(Km t).canLay0=B/\(Km t).depth<=n:=by
 cases r with
 |non=>cases a;exact⟨_,.none,rfl,ZO _⟩
 |bl b=>cases a;exact⟨_,.bool b,rfl,ZO _⟩
 |int i=>obtain⟨t,rfl⟩:=a;exact⟨_,.int i t,rfl,ZO _⟩
 |str s h=>obtain⟨t,rfl⟩:=a;exact⟨_,.str _ t,Hr h,ZO _⟩
 |_=>cases d
def kF(I:Inv X d O H s)(n:Nat):∀{v:V}{t:T}{F:Wa}{u:On},Rp G H v t F->RelV v u->Jn n t=B->∃w,Reads s.heap u (Km t) w/\(Km t).canLay0=B/\(Km t).depth<=n:=by
 induction n with
 |zero =>
  intro v t F u r a h;refine ng r a ?_;cases t<;>first | rfl | exact h
 |succ n x =>
  intro v t F u r a h;cases t with
  |tup l =>
   obtain⟨b,y,L,rfl,e,q⟩:=Rp.Mz r;cases a;obtain⟨D,f,z,E⟩:=I.tuple (Jz.of e);obtain⟨w,p,m,j⟩:=lN x q f (by simpa using h);obtain⟨o,g,i,C,hd⟩:=z;exact⟨_,.tuple g i hd (by simpa using p),m,by simp only[Km,PyData.depth];exact Y0 j⟩
  |lst l =>
   obtain⟨b,y,L,rfl,e,q⟩:=Rp.MH r;cases a;obtain⟨D,f,A,E⟩:=I.list (Iw.of e);obtain⟨w,p,m,j⟩:=lN x q f (by simpa using h);obtain⟨o,g,i,C,hd⟩:=A.isList;exact⟨_,.list g i hd (by simpa using p),m,by simp only[Km,PyData.depth];exact Y0 j⟩
  |scr _=>simp at h
  |dct _ _=>simp at h
  |obj _ _=>simp at h
  |_=>exact ng r a M
def Bs(G:Gx)(a:Bool):Jt:=λx y H Q=>∃t u F b,Rp G H x t F/\Rp G H y u b/\Jn 60 t=B/\Jn 60 u=B/\Q (.bl (if a then !eqT t u else eqT t u)) H
def jF{d:PyData}(h:d.canLay0=B)(a:d.depth<=60):SeqAt.shaped d=B:=by
 unfold SeqAt.shaped;rw[h,Bool.true_and];exact decide_eq_true (by lia)
def D9(g:X.A.units+64<cLine):OpR X (UF .Eq) (Bs G J):=by
 intro a s O H x y v u Q I f e h;obtain⟨t,w,F,r,r1,r2,d,b,q⟩:=h;obtain⟨p,o,n,m⟩:=kF I 60 r1 f d;obtain⟨bs,l,j,i⟩:=kF I 60 r2 e b;refine eq_dataH o l (jF n m) (jF j i) g ⟨.bl _,H,I,rfl,?_⟩;rw[qJ 60 60 t w d b];exact q
def EK(g:X.A.units+64<cLine):OpR X (UF .NotEq) (Bs G B):=by
 intro a s O H x y v u Q I f e h;obtain⟨t,w,F,r,r1,r2,d,b,q⟩:=h;obtain⟨p,o,n,m⟩:=kF I 60 r1 f d;obtain⟨bs,l,j,i⟩:=kF I 60 r2 e b;refine ne_dataH o l (jF n m) (jF j i) g ⟨.bl _,H,I,rfl,?_⟩;rw[qJ 60 60 t w d b];exact q
def Hl:gv G (Bs G J) oEq:=by
 intro R U b H x y u w f d m t Q a e k;unfold oEq at e;split at e
 ·rename_i h;cases e;exact⟨_,_,_,_,a.r1,a.r2,h.1,h.2,bw k (.bl _)⟩
 ·cases e
def GT:gv G (Bs G B) Lu:=by
 intro R U b H x y u w f d m t Q a e k;unfold Lu at e;split at e
 ·rename_i h;cases e;exact⟨_,_,_,_,a.r1,a.r2,h.1,h.2,bw k (.bl _)⟩
 ·cases e
def tells_eq:Tells oEq:=by
 intro x y m t e;unfold oEq at e;split at e<;>first | (cases e;exact⟨_,rfl⟩) | cases e
def zd:Tells Lu:=by
 intro x y m t e;unfold Lu at e;split at e<;>first | (cases e;exact⟨_,rfl⟩) | cases e
end
structure Jd(R:Ir)(U:VS.Env)(H:Hp)(R':Ir)(U':VS.Env)(H':Hp):Prop where
 keep:∀a o,H a=some o->¬bX R U a->H' a=some o/\¬bX R' U' a
 IE:∀a,H a≠none->H' a≠none
 ow:∀a,bX R' U' a->bX R U a\/H a=none
 pu:∀a,dM R' U' a->dM R U a\/bX R U a\/H a=none
 kept:Kept H H'
theorem Jd.refl(R:Ir)(U:VS.Env)(H:Hp):Jd R U H R U H:=⟨λa o h n=>⟨h,n⟩,λ_ h=>h,λ_ h=>.inl h,λ_ h=>.inl h,Kept.refl H⟩
theorem Jd.none(f:Jd R U H g d b){a:KM}(h:b a=Y):H a=Y:=by
 cases e:H a with
 |none=>rfl
 |some o=>exact absurd h (f.IE a (by rw[e];exact λz=>nomatch z))
theorem Jd.trans{e:Ir}{U U1 b:VS.Env}{j i:Hp}(f:Jd R U H e U1 j)(g:Jd e U1 j d b i):Jd R U H d b i where
 keep:=λa o h n=>let ⟨m,l⟩:=f.keep a o h n;g.keep a o m l
 IE:=λa h=>g.IE a (f.IE a h)
 ow:=λa h=>by
  rcases g.ow a h with h | h
  ·exact f.ow a h
  ·exact .inr (f.none h)
 pu:=λa h=>by
  rcases g.pu a h with h | h | h
  ·exact f.pu a h
  ·rcases f.ow a h with h | h
   ·exact .inr (.inl h)
   ·exact .inr (.inr h)
  ·exact .inr (.inr (f.none h))
 kept:=f.kept.trans g.kept
def Jd.same(e:aG H b):Jd R U H R U b :=
 ⟨λa o h n=>⟨e a o h,n⟩,λa h z=>h (e.free z),λ_ h=>.inl h,λ_ h=>.inl h,Kept.of e⟩
def rX(R:Ir)(U:VS.Env)(H:Hp):Md->Wa->Prop
 |.fr,F=>F.Nodup/\∀a∈F,H a=Y\/bX R U a
 |_,F=>∀a∈F,H a=Y\/dM R U a\/bX R U a
theorem rX.back(f:Jd R U H e d g):∀{m:Md},rX e d g m F->rX R U H m F
 |.fr,h=>⟨h.1,λa b=>(h.2 a b).elim (λz=>.inl (f.none z)) λz=>(f.ow a z).elim .inr .inl⟩
 |.pu,h=>λa b=>by
  rcases h a b with z | z | z
  ·exact .inl (f.none z)
  ·rcases f.pu a z with z | z | z
   ·exact .inr (.inl z)
   ·exact .inr (.inr z)
   ·exact .inl z
  ·exact(f.ow a z).elim (λz=>.inr (.inr z)) .inl
 |.bo,h=>λa b=>by
  rcases h a b with z | z | z
  ·exact .inl (f.none z)
  ·rcases f.pu a z with z | z | z
   ·exact .inr (.inl z)
   ·exact .inr (.inr z)
   ·exact .inl z
  ·exact(f.ow a z).elim (λz=>.inr (.inr z)) .inl
noncomputable def Nx(G:Gx)(R:Ir)(U:VS.Env)(H:Hp)(b:VS.Env)(k:L2.St->Hp->Prop):Prop:=∀d e a,SR G d b e a->Jd R U H d b a->k e a
def l7(G:Gx)(R:Ir)(U:VS.Env)(H:Hp)(D:Ends):Out->Prop
 |.nx a=>Nx G R U H a D.nx
 |.bk a=>Nx G R U H a D.bk
 |.ct a=>Nx G R U H a D.ct
 |.rt v a=>∀u b F d e,SR G d a e b->Jd R U H d a b->Rp G b u v.2 F->rX R U H v.1 F->D.rt u b
def tS(G:Gx)(c:Sx):TS:=λD O H=>∃R U o,SR G R U O H/\c U=Z o/\l7 G R U H D o
def PSV(G:Gx)(X:Cx)(a:Stmt)(c:Sx):Prop:=PS X a (tS G c)
def gP(G:Gx)(X:Cx)(a:List Stmt)(c:Sx):Prop:=Kf X a (tS G c)
def PS.weak{X:Cx}{t:TS}(h:PS X e t)(w:∀D O H,b D O H->t D O H):PS X e b:=λa s O H D I q=>h a s O H D I (w D O H q)
def Kf.weak{X:Cx}{t:TS}(h:Kf X e t)(w:∀D O H,b D O H->t D O H):Kf X e b:=λa s O H D I q=>h a s O H D I (w D O H q)
theorem l7.back(f:Jd R U H j i l):∀{o:Out},l7 G R U H D o->l7 G j i l D o
 |.nx e,h=>λa b d s g=>h a b d s (f.trans g)
 |.bk e,h=>λa b d s g=>h a b d s (f.trans g)
 |.ct e,h=>λa b d s g=>h a b d s (f.trans g)
 |.rt v e,h=>λu d F a b s g r q=>h u d F a b s (f.trans g) r (q.back f)
section
variable{st:Stmt}
def bL:gP G X [] d6:=Kf.weak BZ λD O H a=>by
 obtain⟨R,U,o,s,e,k⟩:=a;cases (show Z (Out.nx U)=Z o from e);exact k R O H s (Jd.refl _ _ _)
def af(i:PSV G X st c1)(h:gP G X PF c2):gP G X (st :: PF) (ak c1 c2):=Kf.weak (t8 i h) λD O H g=>by
 obtain⟨R,U,o,s,e,k⟩:=g;unfold ak at e;obtain⟨b,e1,e2⟩:=Zz.mp e;refine⟨R,U,b,s,e1,?_⟩;cases b with
 |nx a=>exact λj l m d f=>⟨j,a,o,d,e2,k.back f⟩
 |rt v a=>cases e2;exact k
 |bk a=>cases e2;exact k
 |ct a=>cases e2;exact k
def cy(i:Kw G X t f)(l:gP G X a c1)(j:gP G X b c2):PSV G X (.If t a b pos) (Js f c1 c2):=PS.weak (G2 i l j) λD O H h=>by
 obtain⟨R,U,o,s,e,k⟩:=h;unfold Js at e;obtain⟨⟨m,x⟩,n,e1⟩:=Zz.mp e;obtain⟨g,p,e2⟩:=Zz.mp e1;refine⟨R,U,m,x,g,s,n,p,λq d=>?_⟩;cases g with
 |true =>
  rw[Zr M]at e2;exact Ck ⟨R,U,o,s.same d,e2,k.back (Jd.same d)⟩
 |false =>
  rw[Zm Zf]at e2;exact BE ⟨R,U,o,s.same d,e2,k.back (Jd.same d)⟩
theorem Fp.ret:∀{m:Md},Fp R U H m F->rX R U H (match m with | .bo=>.pu | m=>m) F
 |.fr,f=>⟨f.1,λa b=>.inl (f.2 a b)⟩
 |.pu,f=>λa b=>(f a b).elim .inl λz=>.inr (.inl z)
 |.bo,f=>f
def bx(he:PV G X e ce):PSV G X (.Return (Z e) pos) (dS ce):=PS.weak (qh he) λD O H a=>by
 obtain⟨R,U,o,s,e,k⟩:=a;unfold dS at e;obtain⟨⟨m,x⟩,b,e1⟩:=Zz.mp e;cases e1;exact⟨R,U,m,x,s,b,λv d F e1 r1 f1=>k v d F R O (s.same e1) (Jd.same e1) r1 f1.ret⟩
def cN{U:VS.Env}{c:Cell}(h:(U.set i Y)[j]?=Z (Z c)):j≠i/\U[j]?=Z (Z c):=by
 rw[Vg]at h;split at h
 ·split at h<;>cases h
 ·rename_i n;exact⟨λz=>n z.symm,h⟩
def SR.drop(s:SR G R U O H)(i:Nat):SR G R (U.set i Y) O H :=
 ⟨by rw[Ya];exact s.len,λj c h=>s.rp j c (cN h).2,λj t h=>s.nd j t (cN h).2,λj k t c b a n=>s.sep j k t c (cN b).2 (cN a).2 n⟩
def Jd.drop(i:Nat):Jd R U H R (U.set i Y) H :=
 ⟨λa o h n=>⟨h,λ⟨j,t,d,b⟩=>n ⟨j,t,(cN d).2,b⟩⟩,λ_ h=>h,λa ⟨j,t,d,b⟩=>.inl ⟨j,t,(cN d).2,b⟩,λa ⟨j,t,d,b⟩=>.inl ⟨j,t,(cN d).2,b⟩,Kept.refl H⟩
def fT{X:Cx}(i:Nat)(u:{`q1,X.N[i]?=Z x})(l:{`q4,Kp X.env.scope x})(r:{`q0,K3 x})(d:{`q0,K4 x}):PSV G X (.Return (Z (.Name x p)) pos) (iQ i):=PS.weak (qh (fC u l r d)) λD O H n=>by
 obtain⟨R,U,o,s,e,k⟩:=n;unfold iQ at e;split at e
 ·rename_i t h;obtain⟨v,j,b⟩:=s.rp _ _ h;cases e;exact⟨v,j,k v H (R i) R O (s.drop i) (Jd.drop i) b ⟨s.nd i t h,λa g=>.inr ⟨i,t,h,g⟩⟩⟩
 ·rename_i t h;obtain⟨v,j,b⟩:=s.rp _ _ h;cases e;refine⟨v,j,k v H (R i) R O s (Jd.refl _ _ _) b ?_⟩;have f:Fp R U H .pu (R i):=λa g=>.inr ⟨i,t,h,g⟩;have f2:=(f.up b).ret;have:(match (VS.up .pu (kL (.pu t))).1 with | .bo=>Md.pu | m=>m)=(VS.up .pu t).1:=by
   show (match (VS.up .pu t).1 with | .bo=>Md.pu | m=>m)=_;unfold VS.up;split<;>(rename_i q;revert q;split<;>simp)
  rw[this]at f2;exact f2
 ·cases e
noncomputable def iX(R:Ir)(i:Nat)(F:Wa):Ir:=λj=>if j=i then F else R j
def gH:iX R i F i=F:=Zr M
def dD(h:j≠i):iX R i F j=R j:=Zm h
def iB{U:VS.Env}{c:Cell}(h:(U.set i (Z c))[j]?=Z (Z a)):(j=i/\a=c)\/(j≠i/\U[j]?=Z (Z a)):=by
 rw[Vg]at h;split at h
 ·rename_i e;split at h
  ·exact .inl ⟨e.symm,(Zl (Zl h)).symm⟩
  ·cases h
 ·rename_i n;exact .inr ⟨λz=>n z.symm,h⟩
def SR.put{H':Hp}{v:V}{c:Cell}{F:Wa}(s:SR G R U O H)(x:i<U.length)(r:Rp G H' v (kL c) F)(u:∀j b,j≠i->U[j]?=Z (Z b)->∀w,Rp G H w (kL b) (R j)->Rp G H' w (kL b) (R j))(m:∀t,c=.ow t->F.Nodup)(y:∀t,c=.ow t->∀j b,j≠i->U[j]?=Z (Z b)->∀a∈F,a∉R j)(l:∀j t,j≠i->U[j]?=Z (Z (.ow t))->∀a∈R j,a∉F) :
  SR G (iX R i F) (U.set i (Z c)) (O.set i (Z v)) H' where
 len:=by rw[Ya,Ya];exact s.len
 rp:=λj b h=>by
  rcases iB h with⟨rfl,rfl⟩ | ⟨n,h⟩
  ·exact⟨v,by rw[Xg (by rw[← s.len];exact x)],by rw[gH];exact r⟩
  ·obtain⟨w,o,f⟩:=s.rp j b h;exact⟨w,by rw[Y4 (Ye n)];exact o,by rw[dD n];exact u j b n h w f⟩
 nd:=λj t h=>by
  rcases iB h with⟨rfl,e⟩ | ⟨n,h⟩
  ·rw[gH];exact m t e.symm
  ·rw[dD n];exact s.nd j t h
 sep:=λj k t b o f n=>by
  rcases iB o with⟨rfl,e⟩ | ⟨g,q⟩
  ·rcases iB f with⟨rfl,e2⟩ | ⟨d,p⟩
   ·exact absurd M n
   ·rw[gH,dD d];exact y t e.symm k b d p
  ·rcases iB f with⟨rfl,e2⟩ | ⟨d,p⟩
   ·rw[gH,dD g];exact l j t g q
   ·rw[dD g,dD d];exact s.sep j k t b q p n
def oC{U:VS.Env}{c:Cell}(h:bX (iX R i F) (U.set i (Z c)) a):(∃t,c=.ow t/\a∈F)\/bX R U a:=by
 obtain⟨j,t,d,b⟩:=h;rcases iB d with⟨rfl,e⟩ | ⟨n,d⟩
 ·rw[gH]at b;exact .inl ⟨t,e.symm,b⟩
 ·rw[dD n]at b;exact .inr ⟨j,t,d,b⟩
def uM{U:VS.Env}{c:Cell}(h:dM (iX R i F) (U.set i (Z c)) a):(∃t,c=.pu t/\a∈F)\/dM R U a:=by
 obtain⟨j,t,d,b⟩:=h;rcases iB d with⟨rfl,e⟩ | ⟨n,d⟩
 ·rw[gH]at b;exact .inl ⟨t,e.symm,b⟩
 ·rw[dD n]at b;exact .inr ⟨j,t,d,b⟩
def SR.MD(s:SR G R U O H)(h:bX R U a)(g:dM R U a):False:=by
 obtain⟨j,t,d,f⟩:=h;obtain⟨k,u,b,i⟩:=g;have n:j≠k:=λe=>by subst e;rw[d]at b;cases b
 exact s.sep j k t _ d b n a f i
def SR.val{m:Md}{c:Cell}(s:SR G R U O H)(C:i<U.length)(e:aG H A)(r:Rp G A v t F)(f:Fp R U H m F)(p:(c=.pu t/\m ≠ .bo)\/(c=.ow t/\m=.fr)):SR G (iX R i F) (U.set i (Z c)) (O.set i (Z v)) A/\Jd R U H (iX R i F) (U.set i (Z c)) A:=by
 have IE:∀{a},H a=Y->∀j x,U[j]?=Z (Z x)->a∉R j:=λ{a} h j x g b=>by
  obtain⟨w,_,q⟩:=s.rp j x g;exact Ip.p0 (q.IE a b) h
 have ct:kL c=t:=by rcases p with⟨rfl,_⟩ | ⟨rfl,_⟩<;>rfl
 have y:∀a∈F,H a=Y\/dM R U a:=λa b=>by
  rcases p with⟨_,n⟩ | ⟨_,n⟩
  ·exact f.pu n a b
  ·rw[n]at f;exact .inl (f.2 a b)
 constructor
 ·refine s.put C (by rw[ct];exact r) (λj x n g w q=>q.same e) (λu d=>?_) (λu d j x n g a b=>?_) λj u n g a b D=>?_
  ·rcases p with⟨h,_⟩ | ⟨_,h⟩
   ·rw[h]at d;cases d
   ·rw[h]at f;exact f.1
  ·rcases p with⟨h,_⟩ | ⟨_,h⟩
   ·rw[h]at d;cases d
   ·rw[h]at f;exact IE (f.2 a b) j x g
  ·rcases y a D with z | z
   ·exact IE z j _ g b
   ·exact s.MD ⟨j,u,g,b⟩ z
 ·refine⟨λa o h n=>⟨e a o h,λz=>?_⟩,λa h z=>h (e.free z),λa h=>?_,λa h=>?_,Kept.of e⟩
  ·rcases oC z with⟨u,d,b⟩ | z
   ·rcases p with⟨l,_⟩ | ⟨_,l⟩
    ·rw[l]at d;cases d
    ·rw[l]at f;rw[f.2 a b]at h;cases h
   ·exact n z
  ·rcases oC h with⟨u,d,b⟩ | z
   ·rcases p with⟨l,_⟩ | ⟨_,l⟩
    ·rw[l]at d;cases d
    ·rw[l]at f;exact .inr (f.2 a b)
   ·exact .inl z
  ·rcases uM h with⟨u,d,b⟩ | z
   ·exact(y a b).elim (λz=>.inr (.inr z)) .inl
   ·exact .inl z
def iI{pos:Pos}(he:PV G X e ce)(q:X.N.Nodup)(n:{`q1,X.N[i]?=Z x})(g:{`q5,Loc X.env.scope x})(h:{`q1,swapsWith e (Z (.Name x a)) pos.line X.env=pure J})(p:{`q6,X.fn x=B\/X.env.scope.names.lookup x=Z .local}) :
  PSV G X (.Assign [.Name x a] e pos) (nL i ce):=PS.weak (ui q n g he h p) λD O H j=>by
 obtain⟨R,U,o,s,e,k⟩:=j;unfold nL at e;obtain⟨⟨m,t⟩,u,e1⟩:=Zz.mp e;obtain⟨c,eC,e2⟩:=Zz.mp e1;split at e2
 ·rename_i l;cases e2;refine⟨R,U,m,t,s,u,λv y F w b r=>?_⟩;obtain⟨f,d⟩:=s.val (c:=c) l w b r (by
   unfold cellOf at eC;cases m with
   |fr =>
    simp only[Option.some.injEq]at eC;split at eC
    ·exact .inr ⟨eC.symm,rfl⟩
    ·exact .inl ⟨eC.symm,by decide⟩
   |pu=>cases eC;exact .inl ⟨rfl,by decide⟩
   |bo=>cases eC)
  exact k _ _ y f d
 ·cases e2
def aE{pos:Pos}(he:PV G X e ce)(r:X.N.Nodup)(p:{`q1,X.N[i]?=Z x})(g:{`q5,Loc X.env.scope x})(h:{`q1,swapsWith e (Z (.Name x a)) pos.line X.env=pure J})(q:{`q6,X.fn x=B\/X.env.scope.names.lookup x=Z .local}) :
  PSV G X (.Assign [.Name x a] e pos) (aI i ce):=PS.weak (ui r p g he h q) λD O H j=>by
 obtain⟨R,U,o,s,e,k⟩:=j;unfold aI at e;obtain⟨⟨m,t⟩,w,e1⟩:=Zz.mp e;split at e1
 ·cases e1
 ·rename_i l;split at e1
  ·rename_i n;cases e1;refine⟨R,U,m,t,s,w,λv z F y b u=>?_⟩;obtain⟨f,d⟩:=s.val (c:=.pu t) n y b u (.inl ⟨rfl,l⟩);exact k _ _ z f d
  ·cases e1
def SR.frz(s:SR G R U O H)(h:U[i]?=Z (Z (.ow t))):SR G R (U.set i (Z (.pu t))) O H/\Jd R U H R (U.set i (Z (.pu t))) H:=by
 have back:∀{j c},(U.set i (Z (.pu t)))[j]?=Z (Z c)->∃l,U[j]?=Z (Z l)/\kL l=kL c/\∀u,c=.ow u->l=.ow u:=λ{j c} g=>by
  rcases iB g with⟨rfl,rfl⟩ | ⟨n,g⟩
  ·exact⟨.ow t,h,rfl,λu p=>nomatch p⟩
  ·exact⟨c,g,rfl,λu p=>p⟩
 refine⟨⟨by rw[Ya];exact s.len,λj c g=>?_,λj u g=>?_,λj k u c b d n=>?_⟩,⟨λa o r n=>⟨r,λ⟨j,u,b,d⟩=>?_⟩,λ_ h=>h,λa ⟨j,u,b,d⟩=>?_,λa ⟨j,u,b,d⟩=>?_,Kept.refl H⟩⟩
 ·obtain⟨l,b,d,_⟩:=back g;obtain⟨v,f,x⟩:=s.rp j l b;exact⟨v,f,by rw[← d];exact x⟩
 ·obtain⟨l,b,_,w⟩:=back g;rw[w u M]at b;exact s.nd j u b
 ·obtain⟨c1,f,_,m⟩:=back b;obtain⟨c2,q,_,_⟩:=back d;rw[m u M]at f;exact s.sep j k u c2 f q n
 ·obtain⟨c1,f,_,m⟩:=back b;rw[m u M]at f;exact n ⟨j,u,f,d⟩
 ·obtain⟨c1,f,_,m⟩:=back b;rw[m u M]at f;exact .inl ⟨j,u,f,d⟩
 ·rcases iB b with⟨rfl,_⟩ | ⟨n,b⟩
  ·exact .inr (.inl ⟨j,t,h,d⟩)
  ·exact .inl ⟨j,u,b,d⟩
def qy(i:Nat)(h:gP G X PF c):gP G X PF (ak (wF i) c):=Kf.weak h λD O H f=>by
 obtain⟨R,U,o,s,e,k⟩:=f;unfold ak at e;obtain⟨g,e1,e2⟩:=Zz.mp e;unfold wF at e1;split at e1
 ·rename_i t d;cases e1;obtain⟨b,a⟩:=s.frz d;exact⟨R,_,o,b,e2,k.back a⟩
 ·cases e1;exact⟨R,U,o,s,e2,k⟩
 ·cases e1
end
section
variable{st:Stmt}
structure Chg(G:Gx)(H:Hp)(v:V)(F:Wa)(t':T)(H2:Hp)(F':Wa):Prop where
 kept:Kept H H2
 keep:∀b o,b∉F->H b=some o->H2 b=some o
 IE:∀b,H b≠none->H2 b≠none
 rp:Rp G H2 v t' F'
 nd:F'.Nodup
 sub:∀a∈F',a∈F\/H a=none
def SR.mut(s:SR G R U O H)(m:U[i]?=Z (Z (.ow t)))(A:O[i]?=Z (Z v))(g:Chg G H v (R i) r x p) :
  SR G (iX R i p) (U.set i (Z (.ow r))) O x/\Jd R U H (iX R i p) (U.set i (Z (.ow r))) x:=by
 have D:i<U.length:=(Zb.mp m).1;have off:∀j d,j≠i->U[j]?=Z (Z d)->∀a∈R j,a∉R i:=λj d n f a b l=>s.sep i j t d m f (Ye n) a l b;have es:O.set i (Z v)=O:=by
  obtain⟨h,e⟩:=Zb.mp A;rw[← e];exact Wu h
 have new:∀a∈p,∀j d,j≠i->U[j]?=Z (Z d)->a∉R j:=λa b j d n f l=>by
  rcases g.sub a b with z | z
  ·exact off j d n f a l z
  ·obtain⟨w,_,q⟩:=s.rp j d f;exact Ip.p0 (q.IE a l) z
 constructor
 ·have:=s.put (c:=.ow r) (F:=p) (H':=x) (v:=v) D g.rp (λj d n f w q=>q.keep g.kept λa b o C=>g.keep a o (off j d n f a b) C) (λ_ _=>g.nd) (λu y j d n f a b=>new a b j d n f) λj u n f a b l=>new a l j _ n f b;rw[es]at this;exact this
 ·refine⟨λa o h n=>⟨g.keep a o (λz=>n ⟨i,t,m,z⟩) h,λz=>?_⟩,g.IE,λa h=>?_,λa h=>?_,g.kept⟩
  ·rcases oC z with⟨u,_,b⟩ | z
   ·rcases g.sub a b with z | z
    ·exact n ⟨i,t,m,z⟩
    ·rw[z]at h;cases h
   ·exact n z
  ·rcases oC h with⟨u,_,b⟩ | z
   ·rcases g.sub a b with z | z
    ·exact .inl ⟨i,t,m,z⟩
    ·exact .inr z
   ·exact .inl z
  ·rcases uM h with⟨u,y,b⟩ | z
   ·cases y
   ·exact .inl z
def yt(G:Gx)(r:V->List V->Hp->VK->Prop)(f:T->V6->Option (T×Val)):Prop:=∀(R:Ir)(U:VS.Env)(H g:Hp)(v:V)(t b:T)(F:Wa)(l:V6)(a:List V)(h:X0)(x:Val)(Q:VK),
 Rp G H v t F->F.Nodup->Args G R U H g l a h->f t l=Z (b,x)->(∀u d i,Chg G H v F b d i->Q u d)->r v a g Q
def yq{pos:Pos}{b:Pos}(i:Nat)(pa:PlainAttrs q)(h:Slot q a m)(Oo:typeOf (.builtin m)=pure (.type "method_descriptor"))(hm:Pm X m r)(ok:yt G r f)(hT:∀H v t F l z,Rp G H v t F->f t l=Z z->tyV G.K q v H)(ha:Jj G X (e :: es) cs)(hK:{`q1,X.K=G.K})(hN:{`q1,X.N[i]?=Z x})(hv:{`q4,Kp X.env.scope x})(hd:{`q0,K3 x})(p:{`q0,K4 x})(IT:{`q1,XAB (.Name x j) a X.env (eval (.Name x j) X.env)=eval (.Name x j) X.env})(Jm:{`q1,((backTo d (Pv (e :: es) X.env)).all (λx=>!x.1)&&(backToKw d (SL [] X.env)).all (λx=>x.1.isSome)
   && decide ((e :: es).length+([]:List Keyword).length+(if ([]:List Keyword).isEmpty then 0 else 1)<30))=B})(ID:{`q1,(b.endLine==d.line)=B})(hs:{`q1,K1 e es X})(IC:{`q1,K2 d es X})(Lf:{`q1,swapsWith (.Call (.Attribute (.Name x j) a b) (e :: es) [] d) Y pos.line X.env=pure J}) :
  PSV G X (.Expr (.Call (.Attribute (.Name x j) a b) (e :: es) [] d) pos) (sX (qP i [] f cs)) :=
 PS.weak (jD (pK pa h Oo hm (fC hN hv hd p) ha IT Jm ID hs IC) Lf) λD O H hq=>by
  obtain⟨R,U,o,s,e,k⟩:=hq;unfold sX qP at e;obtain⟨⟨w,U'⟩,e1,e2⟩:=Zv.mp e;split at e1
  ·rename_i t n;obtain⟨ks,ek,e3⟩:=Zz.mp e1;cases (show Z ([]:List Ky)=Z ks from ek);obtain⟨l,el,e4⟩:=Zz.mp e3;obtain⟨⟨y,x2⟩,e5,e6⟩:=Zv.mp e4;cases e6;cases e2;obtain⟨v,C,A⟩:=s.rp _ _ n;have E:f t l=Z (y,w):=e5;refine⟨v,C,by rw[hK];exact hT H v t _ l _ A E,R,U,l,s,el,λQ H' Fs q1 q2 S=>?_⟩;refine ok R U H H' v t y (R i) l Q Fs w _ A (s.nd i t n) ⟨q1,q2,S⟩ E λu H2 F' g=>?_;obtain⟨P,L⟩:=s.mut n C g;exact k _ O H2 P L
  ·cases e1
theorem Chg.upd{H:Hp}{o:HO}{t':T}(e:aG H d)(m:a∈F)(l:Ip (d a))(r:Rp G (upd d a o) v t' f)(j:f.Nodup)(g:∀a∈f,a∈F\/H a=Y):Chg G H v F t' (upd d a o) f :=
 ⟨(Kept.of e).trans (Kept.upd (.inl l)),λb i hb h=>by rw[ar (λz=>hb (by rw[z];exact m))];exact e b i h,
  λb h z=>by
   by_cases q:b=a
   ·subst q;rw[aj]at z;cases z
   ·rw[ar q]at z;exact h (e.free z),r,j,g⟩
def RpL.off{o:HO}(r:RpL G H f g d)(j:Ip (H a))(h:a∉d.flatten):RpL G (upd H a o) f g d :=
 r.keep (Kept.upd (.inl j)) λb hb l i=>by rw[ar (λz=>h (by rw[← z];exact hb))];exact i
def mL(h:fit v=Z t):v=(.fr,t):=by
 obtain⟨m,x⟩:=v;unfold fit at h;cases m<;>first | (cases h;rfl) | cases h
def k8:yt G qZ aC:=by
 intro R U H j v t S F l s O x Q r nd A e k;unfold aC at e;split at e
 ·rename_i P y;obtain⟨z,E,e1⟩:=Zz.mp e;have L:=mL E;subst L;split at e1
  ·rename_i C;cases e1;obtain⟨a,p,n,rfl,rfl,i,g⟩:=r.lst_inv;obtain⟨w,f,rfl,rfl,N⟩:=(show RpL G j s [z] O from A.rp).one;have d:Fp R U H .fr f:=A.fp.each 0 _ _ M M;have q:j a=Z (.lst p):=A.same a _ i;have h:Ip (j a):=by rw[q];exact True.intro
   have na:a∉n.flatten:=(ZY.mp nd).1;have nw:a∉f:=λz=>by rw[d.2 a z]at i;cases i
   refine⟨a,p,w,rfl,rfl,q,by rw[g.len.1];exact C,k _ _ (a :: (n++[f]).flatten) ?_⟩;have off:∀b∈n.flatten,b∉f:=λb hb hw=>Ip.p0 (g.IE b hb) (d.2 b hw);refine Chg.upd A.same Zx h (.lst aj (((g.same A.same).off h na).append (.cons (N.keep (Kept.upd (.inl h)) λb hb o u=>by rw[ar (λz=>nw (by rw[← z];exact hb))];exact u) .nil))) ?_ ?_
   ·rw[Ys];refine ZY.mpr ⟨λm=>?_,ZL.mpr ⟨(ZY.mp nd).2,by simpa using d.1,λb hb c D z=>?_⟩⟩
    ·rcases Zd.mp m with m | m
     ·exact na m
     ·exact nw (by simpa using m)
    ·subst z;exact off b hb (by simpa using D)
   ·intro b hb;rcases Zk.mp hb with rfl | hb
    ·exact .inl Zx
    ·rw[Ys]at hb;rcases Zd.mp hb with hb | hb
     ·exact .inl (Zw _ hb)
     ·exact .inr (d.2 b (by simpa using hb))
  ·cases e1
 ·cases e
def yA(r:Rp G H v (.lst b) F):tyV G.K "list" v H:=by
 obtain⟨a,f,h,rfl,rfl,d,g⟩:=r.lst_inv;exact .inl ⟨rfl,_,Iw.of d⟩
def i7(r:Rp G H v t F)(h:aC t l=Z z):tyV G.K "list" v H:=by
 unfold aC at h;split at h
 ·exact yA r
 ·cases h
end
structure LP(G:Gx)(J:It)(l:V8)(C:Wa)(H:Hp):Prop where
 run:∀H2,Kept H H2->(∀a∈C,∀o,H a=some o->H2 a=some o) →
  (∀(i:Nat)(t:T),l[i]?=some t->J.go i H2/\∀x H3,J.Ri i H2 x H3->aG H2 H3/\∃F,Rp G H3 x t F/\∀a∈F,a∈C\/H2 a=none)/\∀(i:Nat),l.length<=i->J.stop i H2
 IE:∀a∈C,H a≠none
def FpC(R:Ir)(U:VS.Env)(H:Hp)(m:Md)(C:Wa):Prop:=∀a∈C,H a=Y\/dM R U a\/(m=.bo/\bX R U a)
theorem Fp.c{U:VS.Env}{F:Wa}:∀{m:Md},Fp R U H m F->FpC R U H m F
 |.fr,f=>λa b=>.inl (f.2 a b)
 |.pu,f=>λa b=>(f a b).imp id .inl
 |.bo,f=>λa b=>(f a b).imp id λz=>z.imp id λz=>⟨rfl,z⟩
def tI(G:Gx)(c:Ju):TI:=λO H Rq=>∃R U m l,SR G R U O H/\c U=Z (m,l)/\∀J a C,aG H a->LP G J l C a->FpC R U H m C->Rq J a
def PVI(G:Gx)(X:Cx)(b a:Expr)(c:Ju):Prop:=PI X b a (tI G c)
def PI.weak{X:Cx}{t:TI}(h:PI X b e t)(w:∀O H Q,d O H Q->t O H Q):PI X b e d:=λa s O H Q I q=>h a s O H Q I (w O H Q q)
section
def yE(H:Hp)(d:Int)(n:Nat):LP G (RY d n) (rng d n) [] H:=by
 refine⟨λq _ _=>⟨λi t h=>?_,λi h=>(by simpa[rng] using h:n<=i)⟩,λa h=>by simp at h⟩;unfold rng at h;rw[ZV]at h;obtain⟨k,g,e⟩:=Zv.mp h;obtain⟨f,e2⟩:=Zb.mp g;rw[Z0]at f;have j:i=k:=by simpa using e2
 subst j;refine⟨f,λx o ⟨m,l⟩=>?_⟩;subst m;subst l;rw[← e];exact⟨aG.refl _,[],.int _,λa h=>by simp at h⟩
def iN(u:PV G X a ca)(t:Gl X "range")(r:X.mg "range" = Y)(o:{`q1,K1 a [] X})(z:{`q1,Pv [a] X.env=[(J,eval a X.env)]}):PVI G X tg (.Call (.Name "range" p) [a] [] pos) (dE ca) :=
 PI.weak (wU t r (dC u gg o) z) λO H Rq q=>by
  obtain⟨R,U,m,l,s,e,k⟩:=q;unfold dE at e;obtain⟨⟨n,x⟩,w,e1⟩:=Zz.mp e;obtain⟨j,f,e2⟩:=Zz.mp e1;split at e2
  ·rename_i d;cases e2;refine⟨R,U,n,x,s,w,λv g F y i C=>?_⟩;cases x with
   |int A =>
    cases f;refine⟨j,by rw[i.int_inv],?_,?_,k _ g [] y (yE g 0 j.toNat) λa h=>by simp at h⟩
    ·have:=d.1;unfold R6 at this;lia
    ·have:=d.2;unfold R6 at this;lia
   |_=>cases f
  ·cases e2
def de{d:X0}{i:Nat}{F:Wa}(h:d[i]?=Z F){a:KM}(f:a∈F):a∈d.flatten:=(cV h).subset f
def vQ{a:KM}(K:X6)(l:H a=Z (.lst d))(r:RpL G H d f j):LP G (RZ K a) f (a :: j.flatten) H:=by
 refine⟨λn k c=>?_,λb hb=>?_⟩
 ·have g:n a=Z (.lst d):=c a Zx _ l;have r2:RpL G n d f j:=r.keep k λb hb o q=>c b (Zw _ hb) o q;refine⟨λi t h=>?_,λi h=>⟨d,Iw.of g,by rw[r.len.1];exact h⟩⟩;obtain⟨v,F,m,u,s⟩:=r2.get i h;refine⟨⟨d,v,Iw.of g,m⟩,λx w ⟨e1,e2⟩=>?_⟩;subst e1;have ex:=e2 d (Iw.of g);rw[m]at ex;cases ex;exact⟨aG.refl _,F,s,λb hb=>.inl (Zw _ (de u hb))⟩
 ·rcases Zk.mp hb with rfl | hb
  ·rw[l];exact λz=>nomatch z
  ·exact Ip.p0 (r.IE b hb)
def EM{a:KM}(K:X6)(q:H a=Z (.tup d))(r:RpL G H d f j):LP G (Ux K a) f j.flatten H:=by
 refine⟨λm k c=>?_,λb hb=>Ip.p0 (r.IE b hb)⟩;have g:m a=Z (.tup d):=k.tup a _ q;have r2:RpL G m d f j:=r.keep k λb hb o n=>c b hb o n;refine⟨λi t h=>?_,λi h=>⟨d,Jz.of g,by rw[r.len.1];exact h⟩⟩;obtain⟨v,F,l,u,s⟩:=r2.get i h;refine⟨⟨d,v,Jz.of g,l⟩,λx w ⟨e1,e2⟩=>?_⟩;subst e1;have ex:=e2 d (Jz.of g);rw[l]at ex;cases ex;exact⟨aG.refl _,F,s,λb hb=>.inl (de u hb)⟩
def tG(G:Gx)(g:Tg):TG:=λv O H Q=>∃R U t F d,SR G R U O H/\Rp G H v t F/\(∀a∈F,¬bX R U a)/\g t U=Z d ∧
 ∀f h,SR G f d h H->(∀a,bX f d a->bX R U a)->(∀a,dM f d a->dM R U a\/a∈F)->Q h H
def tGs(G:Gx)(l:List Tg):NB:=λj O H Q=>∃R U h g d,SR G R U O H/\RpL G H j h g/\(∀a∈g.flatten,¬bX R U a)/\uO l h U=Z d ∧
 ∀f i,SR G f d i H->(∀a,bX f d a->bX R U a)->(∀a,dM f d a->dM R U a\/a∈g.flatten)->Q i H
def M3(G:Gx)(X:Cx)(e:Expr)(g:Tg):Prop:=PG X e (tG G g)
def Cu(G:Gx)(X:Cx)(e:List Expr)(g:List Tg):Prop:=M4 X e (tGs G g)
def PG.weak{X:Cx}{e:Expr}{t f:TG}(h:PG X e t)(w:∀v O H Q,f v O H Q->t v O H Q):PG X e f:=λd s O H v u Q I r q=>h d s O H v u Q I r (w v O H Q q)
def M4.weak{X:Cx}{e:List Expr}{t f:NB}(h:M4 X e t)(w:∀v O H Q,f v O H Q->t v O H Q):M4 X e f:=λd s O H v u Q I r q=>h d s O H v u Q I r (w v O H Q q)
def bq{X:Cx}(i:Nat)(C:X.N.Nodup)(y:{`q1,X.N[i]?=Z x})(l:{`q5,Loc X.env.scope x})(A:X.fn x=B\/X.env.scope.names.lookup x=Z .local:=by first | exact .inl M | exact .inr rfl):M3 G X (.Name x pos) (bu i):=PG.weak (Co C y l A) λv O H Q m=>by
 obtain⟨R,U,t,F,L,s,r,no,e,k⟩:=m;unfold bu at e;split at e
 ·rename_i o;cases e;refine k (iX R i F) (O.set i (Z v)) (s.put (c:=.pu t) o r (λj E n g w q=>q) (λu d=>nomatch d) (λu d=>nomatch d) λj u n g a f D=>no a D ⟨j,u,g,f⟩) (λa h=>?_) λa h=>?_
  ·rcases oC h with⟨u,d,_⟩ | z
   ·cases d
   ·exact z
  ·rcases uM h with⟨u,d,f⟩ | z
   ·exact .inr f
   ·exact .inl z
 ·cases e
def AH:Cu G X [] []:=M4.weak B5 λv O H Q f=>by
 obtain⟨R,U,g,i,d,s,r,no,e,k⟩:=f;cases r with
 |nil =>
  cases (show Z U=Z d from e);exact⟨rfl,k R O s (λ_ h=>h) λ_ h=>.inl h⟩
 |cons r q=>cases (show (Y:Option VS.Env)=Z d from e)
def pN(y:M3 G X e g)(x:Cu G X es i)(u:{`q1,(assignEach (e :: es) X.env).map (·.2)=assign e X.env :: (assignEach es X.env).map (·.2)}):Cu G X (e :: es) (g :: i) :=
 M4.weak (Af y x u) λv O H Q w=>by
  obtain⟨R,U,F,Fs,l,s,r,no,e,k⟩:=w;cases r with
  |nil=>cases (show (Y:Option VS.Env)=Z l from e)
  |cons r q =>
   rename_i E L F' P N S;obtain⟨j,e1,e2⟩:=Zz.mp e;refine⟨_,_,rfl,R,U,_,_,j,s,r,λa d=>no a (by rw[ZK];exact Yn _ d),e1,λC M s1 f o=>?_⟩;refine⟨C,j,_,_,l,s1,q,λa d z=>no a (by rw[ZK];exact ZP _ d) (f a z),e2,λA D m t n=>k A D m (λa h=>f a (t a h)) λa h=>?_⟩;rcases n a h with h | h
   ·rcases o a h with h | h
    ·exact .inl h
    ·exact .inr (by rw[ZK];exact Yn _ h)
   ·exact .inr (by rw[ZK];exact ZP _ h)
theorem tM:∀{i:List Tg}{f:V8}{U d:VS.Env},uO i f U=Z d->f.length=i.length
 |[],[],_,_,_=>rfl
 |[],_ :: _,_,_,h=>by simp[uO]at h
 |_ :: _,[],_,_,h=>by simp[uO]at h
 |g :: i,t :: f,U,d,h=>by
  obtain⟨j,_,e2⟩:=Zz.mp (show (g t U).bind (λd=>uO i f d)=Z d from h);simp[tM e2]
def CJ{X:Cx}(m:X.calm=B)(h:Cu G X es d)(j:{`q1,(assignEach es X.env).length=d.length})(w:{`q1,(assignEach es X.env).findIdx? (·.1)=Y})(z:{`q1,X.K=G.K}):M3 G X (.Tuple es k pos) (ur d) :=
 PG.weak (Ej (n:=d.length) m h j w) λv O H Q i=>by
  obtain⟨R,U,t,F,u,s,r,no,e,q⟩:=i;unfold ur at e;split at e
  ·rename_i l;obtain⟨o,g,y,rfl,rfl,x,f⟩:=r.JH;exact⟨o,g,rfl,Jz.of x,by rw[f.len.1];exact tM e,R,U,l,y,u,s,f,no,e,q⟩
  ·cases e
def pS{tgt:Tg}{body:Sx}{l:V8}{U:VS.Env}(h:l[i]?=Z t):l.drop i=t :: l.drop (i+1):=by
 obtain⟨d,e⟩:=Zb.mp h;rw[← e];exact Xo d
def uE{ci:Ju}{g:Tg}{cb:Sx}{D:Ends}{O:L2.St}{H:Hp}(hq:tS G (gM g ci cb) D O H):Hy (tI G ci) (tG G g) (tS G cb) D O H:=by
 obtain⟨R,U,o,s,e,k⟩:=hq;unfold gM at e;obtain⟨⟨m,l⟩,el,e1⟩:=Zz.mp e;dsimp only at e1;split at e1
 ·rename_i hm;have JQ:m ≠ .bo:=λz=>by rw[z]at hm;cases hm
  refine⟨R,U,m,l,s,el,λJ Q C e2 ok fc=>?_⟩;have cno:∀a∈C,¬bX R U a:=λa A z=>by
   rcases fc a A with q | q | q
   ·exact Ip.p0 (s.JR z) q
   ·exact s.MD z q
   ·exact JQ q.1
  refine⟨λi n O2 P=>n=l.length-i/\∃N d,SR G N d O2 P/\Jd R U H N d P/\Kept Q P/\(∀a∈C,∀o,Q a=Z o->P a=Z o/\¬bX N d a)/\forL g cb (l.drop i) d=Z o,
   ⟨l.length-0,rfl,R,U,s.same e2,Jd.same e2,Kept.refl _,λa A y E=>⟨E,cno a A⟩,by rw[Wz];exact e1⟩,?_⟩
  rintro i n O2 P ⟨rfl,N,d,s2,f2,kp,con,e3⟩;obtain⟨go,stop⟩:=ok.run P kp λa A y E=>(con a A y E).1;cases hit:l[i]? with
  |none =>
   have hl:l.length<=i:=Ym.mp hit;left;rw[Xf hl]at e3;cases (show Z (Out.nx d)=Z o from e3);exact⟨stop i hl,k N O2 P s2 f2⟩
  |some t =>
   have hl:i<l.length:=(Zb.mp hit).1;right;obtain⟨g1,y1⟩:=go i t hit;rw[pS (tgt:=g) (body:=cb) (U:=d) hit]at e3;obtain⟨U3,e4,e5⟩:=Zz.mp (show (g t d).bind (λU1=>(cb U1).bind λo=>match o with
    |.nx d=>forL g cb (l.drop (i+1)) d
    |.ct d=>forL g cb (l.drop (i+1)) d
    |.bk d=>Z (.nx d)
    |.rt v d=>Z (.rt v d))=Z o from e3)
   obtain⟨y,e6,e7⟩:=Zz.mp e5;refine⟨g1,λL r=>∃j f,SR G j f L r/\Jd R U H j f r/\Kept Q r/\(∀a∈C,∀o,Q a=Z o->r a=Z o/\¬bX j f a)/\forL g cb (l.drop (i+1)) f=Z o,λL r ⟨j,f,q⟩=>⟨l.length-(i+1),by omega,rfl,j,f,q⟩,λx H3 yl=>?_⟩;obtain⟨S,F,rF,hF⟩:=y1 x H3 yl;have s3:=s2.same S;have noF:∀a∈F,¬bX N d a:=λa A z=>by
    rcases hF a A with q | q
    ·have KO:=ok.IE a q;cases E:Q a with
     |none=>exact KO E
     |some o''=>exact(con a q o'' E).2 z
    ·exact Ip.p0 (s2.JR z) q
   refine⟨N,d,t,F,U3,s3,rF,noF,e4,λR3 O3 s4 o3 p3=>?_⟩;have f3:Jd R U H R3 U3 H3:=⟨λa y h n=>let ⟨h1,n1⟩:=f2.keep a y h n;⟨S a y h1,λz=>n1 (o3 a z)⟩,λa h z=>f2.IE a h (S.free z),λa h=>f2.ow a (o3 a h),λa h=>by
    rcases p3 a h with h | h
    ·exact f2.pu a h
    ·rcases hF a h with q | q
     ·rcases fc a q with q | q | q
      ·exact .inr (.inr q)
      ·exact .inl q
      ·exact .inr (.inl q.2)
     ·exact .inr (.inr (f2.none q)),f2.kept.trans (Kept.of S)⟩
   have next:∀{j f r},Jd R3 U3 H3 j f r->Kept Q r/\∀a∈C,∀o,Q a=Z o->r a=Z o/\¬bX j f a:=λw =>
    ⟨(kp.trans (Kept.of S)).trans w.kept,λa A y E=>by
     obtain⟨h1,n1⟩:=con a A y E;exact w.keep a y (S a y h1) λz=>n1 (o3 a z)⟩
   refine⟨R3,U3,y,s4,e6,?_⟩;cases y with
   |nx f=>exact λj L r M w=>⟨j,f,M,f3.trans w,(next w).1,(next w).2,e7⟩
   |ct f=>exact λj L r M w=>⟨j,f,M,f3.trans w,(next w).1,(next w).2,e7⟩
   |bk f =>
    cases (show Z (Out.nx f)=Z o from e7);exact λj L r M w=>k j L r M (f3.trans w)
   |rt v f =>
    cases (show Z (Out.rt v f)=Z o from e7);exact λu r F4 j L M w r5 q5=>k u r F4 j L M (f3.trans w) r5 (q5.back f3)
 ·cases e1
def fO{X:Cx}(m:PassesOwn (KB X.prog X.w) X.A X.env X.xe)(q:X.calm=B)(n:PVI G X tg d h)(o:M3 G X tg g)(r:gP G X f i)(j:{`q2,∀x,XAC d X.env x=pure x}):PSV G X (.For tg d f [] pos) (gM g h i):=PS.weak (uB m q n o r j) λD O H l=>uE l
end
noncomputable def HH(H:Hp)(b:X0):Md->Wa->Prop
 |.fr,F=>F.Nodup/\∀a∈F,H a=Y
 |_,F=>∀a∈F,H a=Y\/a∈b.flatten
def KY(G:Gx)(g:Fn):Sp:=λe H Q _=>∃b d m r,RpL G H e b d/\g b=Z (m,r)/\∀v a F,aG H a->Rp G a v r F->HH H d m F->Q v a
section
def call_of(h:tE G (bU g cs) O H Q):Dg (KY G g) [] E (N7 G cs) O H Q:=by
 obtain⟨R,U,m,t,s,e,u⟩:=h;unfold bU at e;obtain⟨l,S,e1⟩:=Zz.mp e;obtain⟨⟨n,r⟩,P,e2⟩:=Zz.mp e1;refine⟨R,U,l,s,S,λL y D b N M=>?_⟩;have A:Args G R U H y l L D:=⟨b,N,M⟩
 have i:=M.join A.len;show KY G g (L++[]) y Q E;rw[ZM];refine⟨trees l,D,n,r,N,P,λv C F q o j=>?_⟩;have wide:(∀a∈F,y a=Y\/a∈D.flatten)->Fp R U H ((Md.pu).join (cn l)) F:=λh=>by
  cases w:cn l with
  |fr =>
   rw[w]at i;exact λa d=>.inl ((h a d).elim b.free (i.2 a))
  |pu =>
   rw[w]at i;exact λa d=>(h a d).elim (λz=>.inl (b.free z)) (i a)
  |bo =>
   rw[w]at i;exact λa d=>(h a d).elim (λz=>.inl (b.free z)) (i a)
 cases n with
 |fr =>
  cases e2;exact u v C F (b.trans q) o ⟨j.1,λa d=>b.free (j.2 a d)⟩
 |pu =>
  cases e2;exact u v C F (b.trans q) o (wide j)
 |bo =>
  cases e2;exact u v C F (b.trans q) o (wide j)
def Bg{X:Cx}(F:FnOk X.prog X.w X.K X.mg X.base Jh k f fd ps (KY G g))(b:xa k X.A)(j:Gl X x)(d:X.mg x=Z (.ref f))(i:PySem.W.keepIn X.K (.ref f)=B)(l:Binds X.K fd ps [])(m:Jj G X (e :: es) cs)(n:{`q0,K3 x})(he:{`q1,K1 e es X})(a:{`q1,K2 pos es X}) :
  PV G X (.Call (.Name x p) (e :: es) [] pos) (bU g cs) :=
 PE.weak (CS F b j d i l .nil ma m n he a) λO H Q h=>call_of h
def za(r:RpL G H d a m)(n o:Nat)(w:o=d.length):SR G (λi=>m.getD i []) (a.map (λt=>Z (.pu t))++List.replicate (n-a.length) Y) (d.map Z++List.replicate (n-o) Y) H:=by
 subst w;have A:=r.len;have back:∀{i:Nat}{c:Cell},(a.map (λt=>Z (Cell.pu t))++List.replicate (n-a.length) Y)[i]?=Z (Z c)->∃t,a[i]?=Z t/\c=.pu t:=λ{i c} h=>by
  by_cases q:i<a.length
  ·rw[Yz (by rw[Zy];exact q),ZV]at h;obtain⟨t,l,b⟩:=Zv.mp h;exact⟨t,l,(Zl b).symm⟩
  ·rw[Yu (by rw[Zy];exact Z7 q),Y8]at h;split at h<;>cases h
 refine⟨by simp;lia,λi c h=>?_,λi t h=>?_,λi j t c h=>?_⟩
 ·obtain⟨t,l,rfl⟩:=back h;obtain⟨v,F,s,z,y⟩:=r.get i l;refine⟨v,?_,?_⟩
  ·have:i<d.length:=(Zb.mp s).1;rw[Yz (by rw[Zy];exact this),ZV,s];rfl
  ·show Rp G H v t (m.getD i []);rw[Zq,z];exact y
 ·obtain⟨u,_,b⟩:=back h;cases b
 ·obtain⟨u,_,b⟩:=back h;cases b
def i9{b:V8}:¬bX R (b.map (λt=>Z (Cell.pu t))++List.replicate n Y) a:=by
 rintro⟨i,t,h,_⟩;by_cases d:i<b.length
 ·rw[Yz (by rw[Zy];exact d),ZV]at h;obtain⟨l,_,j⟩:=Zv.mp h;cases j
 ·rw[Yu (by rw[Zy];exact Z7 d),Y8]at h;split at h<;>cases h
def sH{H:Hp}{vs:List V}{j:V8}{d:X0}(h:dM (λi=>d.getD i []) (j.map (λt=>Z (Cell.pu t))++List.replicate n Y) a):a∈d.flatten:=by
 obtain⟨i,t,_,b⟩:=h;simp only[Zq]at b;cases e:d[i]? with
 |none=>rw[e]at b;simp at b
 |some F=>rw[e]at b;exact de e b
end
section
variable{K:X6}
def Dv{d:List Str}(g:d.length=e)(h:KY G (fn e f c) b H Q E):b.length=d.length:=by
 obtain⟨l,n,m,r,j,a,_⟩:=h;unfold fn at a;split at a
 ·rename_i i;rw[j.len.1,i,g]
 ·cases a
def Fc{N:List Str}(s:N.length=f)(h:KY G (fn p f c) vs H Q E):tS G c { nx:=λ_ d=>Q .non d,rt:=Q } (L2.start N vs) H:=by
 obtain⟨F,L,m,r,x,g,q⟩:=h;unfold fn at g;split at g
 ·rename_i t;obtain⟨o,e1,e2⟩:=Zz.mp g;have j:=za x f vs.length M;rw[t]at j;have y:L2.start N vs=vs.map Z++List.replicate (f-vs.length) Y:=by
   unfold L2.start;rw[s]
  rw[y];refine⟨_,_,o,j,e1,?_⟩;cases o with
  |nx i =>
   cases e2;intro A C d l fr;exact q .non d [] (λa o h=>(fr.keep a o h i9).1) .non ⟨Y1,λa h=>by simp at h⟩
  |rt v i =>
   cases e2;intro u d D A C l fr n e;refine q u d D (λa o h=>(fr.keep a o h i9).1) n ?_;cases m with
   |fr=>exact⟨e.1,λa b=>(e.2 a b).elim id λz=>absurd z i9⟩
   |pu=>exact λa b=>(e a b).elim .inl λz=>z.elim (λz=>.inr (sH (H:=H) (vs:=vs) z)) λz=>absurd z i9
   |bo=>exact λa b=>(e a b).elim .inl λz=>z.elim (λz=>.inr (sH (H:=H) (vs:=vs) z)) λz=>absurd z i9
  |bk i=>cases e2
  |ct i=>cases e2
 ·cases g
def T2(F:IA K x a b f j)(S:gV N e (ah b))(n:e.length=g)(o:N.length=i)(p:∀(d:On)(A:SB)(outer:List PySem.Env)(s:IR)(H:Hp)(E:XK),xa k (A.deeper (envOfC a (ah b) s.heap.objs.size f d))->gP G (jL Jh P w K mg base N a (ah b) f d A outer s H E).Lv (aX b) c) :
  FnOk P w K mg base Jh (k+1) f j e (KY G (fn g i c)) :=
 F.ok S (λl H Q E h=>Dv n h) λd A outer s H l Q E m h=>⟨_,p d A outer s H E m,Fc o h⟩
end
end VS
end
section
namespace L2
open PySem PySem.Spec PyProof.Rows
theorem lq(b:Env):∀(l:List (Str×NameKind))(acc:List (Str×KM)),(∀y∈l,y.2=.free->∃c,b.cells.lookup y.1=Z c)->(∀x c,acc.lookup x=Z c->b.cells.lookup x=Z c) →
  ∃cl,(forIn l acc (λx r=>if (x.snd==NameKind.free)=B then (do let a ← cellOf b x.fst;pure (ForInStep.yield ((x.fst,a) :: r))) else pure (ForInStep.yield r)):Sem (List (Str×KM)))=pure cl ∧
   (∀x c,cl.lookup x=Z c->b.cells.lookup x=Z c)/\(∀x c,acc.lookup x=Z c->∃e,cl.lookup x=Z e)/\∀y∈l,y.2=.free->∃c,cl.lookup y.1=Z c
 |[],acc,_,i=>⟨acc,rfl,i,λx c h=>⟨c,h⟩,λy d=>nomatch d⟩
 | (n,k) :: l,acc,o,i=>by
  by_cases m:k=.free
  ·subst m;obtain⟨c,p⟩:=o (n,.free) Zx M;have u:cellOf b n=pure c:=by unfold cellOf;dsimp only at p;rw[p]
   have v:∀x e,((n,c) :: acc).lookup x=Z e->b.cells.lookup x=Z e:=λx e h=>by
    rw[YY]at h;split at h
    ·rename_i g;have:x=n:=by simpa using g
     rw[this,← h];exact p
    ·exact i x e h
   obtain⟨cl,t,s,f,q⟩:=lq b l ((n,c) :: acc) (λy d=>o y (Zw _ d)) v;refine⟨cl,?_,s,λx e h=>?_,λy d j=>?_⟩
   ·rw[List.forIn_cons];dsimp only;rw[Zr (show (NameKind.free==NameKind.free)=B from rfl),u,pure_bind,pure_bind];exact t
   ·by_cases g:x=n
    ·exact f x c (by rw[YY,g];simp)
    ·refine f x e ?_;rw[YY];have:(x==n)=J:=by simpa using g
     rw[this];exact h
   ·rcases Zk.mp d with rfl | d
    ·exact f n c (by rw[YY];simp)
    ·exact q y d j
  ·obtain⟨cl,t,s,f,q⟩:=lq b l acc (λy d=>o y (Zw _ d)) i;refine⟨cl,?_,s,f,λy d j=>?_⟩
   ·rw[List.forIn_cons];dsimp only;rw[Zm (by simpa using m),pure_bind];exact t
   ·rcases Zk.mp d with rfl | d
    ·exact absurd j m
    ·exact q y d j
def BY{sc:Scope}{env:Env}(a:∀y∈sc.names,y.2=.free->∃c,env.cells.lookup y.1=Z c) :
  ∃cl,closureFor sc env=pure cl/\(∀x c,cl.lookup x=Z c->env.cells.lookup x=Z c)/\∀y∈sc.names,y.2=.free->∃c,cl.lookup y.1=Z c:=by
 obtain⟨cl,e,d,_,b⟩:=lq env sc.names [] a (λx c h=>nomatch h);refine⟨cl,?_,d,b⟩;simp only[closureFor];rw[e];rfl
def gF{l:List (Str×NameKind)}(h:l.lookup x=Z k):(x,k)∈l:=by
 induction l with
 |nil=>cases h
 |cons p l a =>
  rw[YY]at h;split at h
  ·rename_i b;have e:x=p.1:=by simpa using b
   cases h;rw[e];exact Zx
  ·exact Zw _ (a h)
theorem df{a:Env}:∀{l:List (Str×NameKind)},(l.map λ(n,k)=>if (k==NameKind.free&&a.scope.kind == .function&&a.kindOf n==Z .cell) then (n,NameKind.cell) else (n,k)).lookup x=Z k →
  ∃e,l.lookup x=Z e/\(k=e\/(e=.free/\k=.cell))
 |[],h=>nomatch h
 | (n,d) :: l,h=>by
  rw[Zn,YY]at h;by_cases f:(d==NameKind.free&&a.scope.kind == .function&&a.kindOf n==Z .cell)=B
  ·simp only[f,if_true]at h;rw[YY];cases b:x==n with
   |true =>
    rw[b]at h;have:d=.free:=by
     have:=(Vx.mp (Vx.mp f).1).1;simpa using this
    exact⟨d,rfl,.inr ⟨this,(Zl h).symm⟩⟩
   |false=>rw[b]at h;exact df h
  ·simp only[f,if_false,Yf]at h;rw[YY];cases b:x==n with
   |true=>rw[b]at h;exact⟨d,rfl,.inl (Zl h).symm⟩
   |false=>rw[b]at h;exact df h
def cq(X:Cx)(N:List Str)(a:Scope)(d:List (Str×KM))(C:KM)(s:IR)(H:Hp)(b:Wa):Cx :=
 { X with N:=N,s₀:=s,H₀:=H,env:=compEnvC a d C X.env,outer:=X.stack,ex:=b,fn:=λ_=>false,pn:=[],xe:=λ_ _=>False }
noncomputable def oR(a:Env)(b:Scope):Bool:=b.kind == .function&&b.names.all λy=>match y.2 with
 |.cell=>J
 |.local=>b.names.lookup y.1==Z .local
 |.free=>a.kindOf y.1==Z .cell||a.kindOf y.1==Z .free
 |_=>B
noncomputable def lA(d:Scope):List Str->List Str->Bool
 |[],[]=>B
 |a :: e,b :: bs=>((a==b&&d.names.lookup a==Z .free)||d.names.lookup a==Y||d.names.lookup a==Z .globalImplicit)&&lA d e bs
 |_,_=>J
theorem vM:∀{f bs:List Str},lA d f bs=B->f.length=bs.length/\∀(i:Nat)(x:Str),f[i]?=Z x->(bs[i]?=Z x/\d.names.lookup x=Z .free)\/d.names.lookup x=Y\/d.names.lookup x=Z .globalImplicit
 |[],[],_=>⟨rfl,λi x h=>by simp at h⟩
 |a :: f,b :: bs,h=>by
  simp only[lA,ZS]at h;obtain⟨g,n⟩:=h;obtain⟨l,r⟩:=vM n;refine⟨by simp[l],λi x e=>?_⟩;cases i with
  |zero =>
   have:a=x:=by simpa using e
   subst this;simp only[Bool.or_eq_true,ZS]at g;rcases g with (⟨m,j⟩ | z) | z
   ·exact .inl ⟨by simpa using(by simpa using m:a=b).symm,by simpa using j⟩
   ·exact .inr (.inl (by simpa using z))
   ·exact .inr (.inr (by simpa using z))
  |succ i=>simpa using r i x (by simpa using e)
 |[],_ :: _,h=>by simp[lA]at h
 |_ :: _,[],h=>by simp[lA]at h
section
variable{H:Hp}
def Inv.block{N:List Str}{sc:Scope}{cl:List (Str×KM)}{C D:KM}{fp:Wa}{k:Nat}{E:UV}{t:Nat}(I:Inv X pins O H s)(K5:oR X.env sc=B)(LD:lA sc (N.drop k) X.N=B)(LI:k<=N.length)(g:∀x c,cl.lookup x=Z c->X.env.cells.lookup x=Z c)(RN:∀y∈sc.names,y.2=.free->∃c,cl.lookup y.1=Z c)(G:∀b∈fp,lB X pins H b)(A:s.heap.objs.size<=D)(hC:s.heap.objs.size<=C)(RQ:D≠C)(RL:C∉fp)(d:∀b u,s.heap.get? b=Z u->E.get? b=Z u)(RH:E.Ns C m)(TU:E.get? D=Z { cls:=.type "list",data:=.seq ([]:V0).toArray 0 }) :
  Inv (cq X N sc cl C s H fp) [] (List.replicate k Y++O) (upd H D (.lst [])) { s with heap:=E,toks:=t }:=by
 unfold oR at K5;rw[ZS,Yq]at K5;obtain⟨hk,JW⟩:=K5;have Kt:sc.kind=.function:=by simpa using hk
 obtain⟨hlen,Nw⟩:=vM LD;have Kv:∀y∈sc.names,y.2 ≠ .cell:=λy hy e=>by have:=JW y hy;rw[e]at this;cases this
 have frees:∀x a,(relabel sc X.env).names.lookup x=Z a->a=.cell\/a=.free->sc.names.lookup x=Z .free:=λx a h VJ=>by
  obtain⟨n,f,Q⟩:=df h;rcases Q with e | ⟨e,_⟩
  ·subst e;rcases VJ with e | e
   ·subst e;exact absurd M (Kv _ (gF f))
   ·subst e;exact f
  ·subst e;exact f
 have Ny:H D=Y:=I.xb.fresh A;have S:H C=Y:=I.xb.fresh hC;refine⟨⟨I.mod,Kt,I.ok.glob,I.ok.blt,hC,λx y c e1 e2=>I.ok.inj x y c (g x c e1) (g y c e2),λx hx=>?_,λx c e=>(nomatch e),I.ok.hd,I.ok.frames,.inl M,λb hb=>⟨λ(e:b=C)=>RL (e ▸ hb),λx c e=>(G b hb).2.2.2.2.1 x c (g x c e)⟩,
  I.tb,I.bs,ZC I.ok.NA I.sz,λb o e hb=>?_,λb hb JD=>?_,I.stack,I.LQ⟩,rfl,I.bare,Un.laid d A Ny,⟨m,RH,λi x v e1 e2 U=>?_⟩,λx c e=>?_,?_,λx c e=>?_,λp hp=>(nomatch hp),I.xb.laid d A ?_,?_⟩
 ·have h:∃a,(relabel sc X.env).names.lookup x=Z a/\(a=.cell\/a=.free):=by
   rcases hx with e | e
   ·exact⟨_,e,.inl M⟩
   ·exact⟨_,e,.inr M⟩
  obtain⟨a,F,MW⟩:=h;exact RN _ (gF (frees x a F MW)) M
 ·have JD:b∈fp:=hb;rcases (G b JD).2.2.2.1 with z | z
  ·exact I.ok.MF b o e z
  ·exact absurd (ZG (ZR e) (ZC I.ok.NA z)) (YI _)
 ·have R:b∈JE X.stack:=JD;rcases Zk.mp (I.KH b R) with z | z
  ·exact(G b hb).2.1 z
  ·exact(G b hb).2.2.1 z
 ·
  have NS:k<=i:=by
   rcases WI i k with z | z
   ·rw[Yz (by simpa using z),Y8]at e2;split at e2<;>cases e2
   ·exact z
  rw[Yu (by simpa using NS),YA]at e2;have OH:(N.drop k)[i-k]?=Z x:=by
   rw[List.getElem?_drop,show k+(i-k)=i by exact Vh NS];exact e1
  have L:sc.names.lookup x=Z .free->∃a,(relabel sc X.env).names.lookup x=Z a/\(a=.cell\/a=.free):=λf=>by
   have w:Kp (relabel sc X.env) x:=U;rcases w with z | z | z
   ·obtain⟨n,F,MW⟩:=df z;rw[f]at F;cases F;rcases MW with q | ⟨_,q⟩<;>cases q
   ·exact⟨_,z,.inl M⟩
   ·exact⟨_,z,.inr M⟩
  have no:∀n,sc.names.lookup x=Z n->∃a,(relabel sc X.env).names.lookup x=Z a->True:=λ_ _=>⟨.local,λ_=>trivial⟩
  rcases Nw _ x OH with⟨hX,f⟩ | f | f
  ·obtain⟨a,LX,Lg⟩:=L f;have hf:=JW _ (gF f);have Ox:X.env.kindOf x=Z .cell\/X.env.kindOf x=Z .free:=by
    simpa using hf
   obtain⟨mX,hnX,P⟩:=I.loc;have Sa:Kp X.env.scope x:=Ox.elim (λz=>.inr (.inl z)) λz=>.inr (.inr z);obtain⟨u,r,l⟩:=P _ x v hX e2 Sa;refine⟨u,r,.inr ⟨?_,?_⟩⟩
   ·rcases Lg with z | z
    ·subst z;exact .inl LX
    ·subst z;exact .inr LX
   ·obtain⟨c,hc⟩:=RN _ (gF f) M;refine⟨c,hc,?_⟩;rcases l with⟨z,_⟩ | ⟨_,c',KP,Oz⟩
    ·rcases Ox with q | q<;>(rw[z]at q;cases q)
    ·have:=g x c hc;rw[KP]at this;cases this;exact Oz.keeps d
  ·have w:Kp (relabel sc X.env) x:=U;rcases w with z | z | z<;>(obtain⟨n,j,_⟩:=df z;rw[f]at j;cases j)
  ·have w:Kp (relabel sc X.env) x:=U;rcases w with z | z | z<;>(obtain⟨n,j,z2⟩:=df z;rw[f]at j;cases j;rcases z2 with q | ⟨q,_⟩<;>cases q)
 ·obtain⟨v,z⟩:=I.cell x c (g x c e);exact⟨v,z.keeps d⟩
 ·show upd H D (.lst []) C=Y;rw[ar (Ye RQ)];exact S
 ·obtain⟨v,z⟩:=I.cell x c (g x c e);rw[ar (Zc (ZG z.lt A))];exact I.Jy x c (g x c e)
 ·exact⟨ZO _,[],0,.nil,TU⟩
 ·show (List.replicate k Y++O).length=N.length;rw[Zs,YA,I.len,← hlen,Z2];exact Vh LI
def yi(X:Cx)(a:List Expr)(t:TT):Prop :=
 ∀(pins:Yp)(s:IR)(O:St)(H:Hp)(Q:Bool->Hp->Prop),Inv X pins O H s->t O H Q →
  PP (KB X.prog X.w) X.A (forIn a B λc r=>if r=B then (do let ok ← isTrue c X.env (eval c X.env);pure (ForInStep.yield ok)) else pure (ForInStep.yield r)) (TP X pins O Q) X.xe s
def nA:yi X [] (λO H Q=>Q B H):=λpins s O H Q I q=>Zh ⟨H,I,q⟩
def zL(h:PT X c t):yi X [c] t:=λpins s O H Q I q=>by
 rw[List.forIn_cons,Zr M];refine Zu (Zu (thn (h pins s O H Q I q) λb s1 a=>Zh ?_));exact Zh a
section
def sJ{s:IR}(I:Nat->IR->Prop)(turn:∀n s,I n s->PP (KB prog w) A (pyNext o) (λr q=>match r with
   |none=>Rq (.ok .next) q
   |some v=>PP (KB prog w) A (letOwnedTupleGo a o v) (λ_ C=>PP (KB prog w) A (assign a b v) (λ_ z =>
     PP (KB prog w) A (forIn g B λc r=>if r=B then (do let ok ← isTrue c b (eval c b);pure (ForInStep.yield ok)) else pure (ForInStep.yield r)) (λok p =>
      if ok=B then PP (KB prog w) A (eval i b) (λx y =>
       PP (KB prog w) A (call (.builtin "list.append") [j,x]) (λ_ u=>∃m,m<n/\I m u) (λ_ _=>False) y) (λ_ _=>False) p
      else ∃m,m<n/\I m p) (λ_ _=>False) z) (λ_ _=>False) C) (λ_ _=>False) q) (λ_ _=>False) s)(n:Nat)(h:I n s) :
  codeAny (KB prog w) A (.compLoop (.ListComp i [⟨a,f,g,0⟩] d l) 0 o j b) Rq s:=by
 refine codeAny_loop M I (λn s L=>?_) n h;show PP _ A ((compTurn (.ListComp i [⟨a,f,g,0⟩] d l) 0 o j b).onRaise (λx=>do noteFrame x b;theTreesLotGoes x)) _ _ s;refine wpAny_noted ?_;rw[compTurn_list];refine Zu (wpAny_standAt (Zu (YR (turn n s L) (λr q D=>?_) λ_ _ e=>e.elim)));cases r with
 |none=>exact Zh D
 |some v =>
  refine Zu (YR D (λ_ C h₀=>?_) λ_ _ e=>e.elim);refine Zu (YR h₀ (λ_ z G=>Zu (YR G (λok p t=>?_) λ_ _ e=>e.elim)) λ_ _ e=>e.elim);cases ok with
  |false=>exact Zh ⟨rfl,t⟩
  |true =>
   rw[Zr M]at t;exact Zu (Zu (YR t (λx y F=>Zu (YR F (λ_ u E=>Zh (Zh ⟨rfl,E⟩)) λ_ _ e=>e.elim)) λ_ _ e=>e.elim))
end
def vL(k:Nat)(p:TI)(g:TG)(r:TT)(q:TE)(O:St)(H:Hp)(Q:VK):Prop:=p O H λJ o=>∀D,o D=Y->∃W:Nat->Nat->St->Hp->Prop,
 (∃m,W 0 m (List.replicate k Y++O) (upd o D (.lst [])))/\∀i m h d,W i m h d->(J.stop i d/\Q (.ref D) d)\/(J.go i d/\∀x n,J.Ri i d x n->g x h n λe t=>r e t λb l =>
  if b=B then q e l λy j=>∃f,j D=Z (.lst f)/\f.length<KF/\∃a,a<m/\W (i+1) a e (upd j D (.lst (f++[y]))) else ∃a,a<m/\W (i+1) a e l)
def pC{X:Cx}{N:List Str}{use:Option (On->Sem Unit)}{QQ:Yy}(IW:X.calm=B)(hi:PI X tg f wi)(K5:oR X.env sc=B)(LD:lA sc (N.drop k) X.N=B)(LI:k<=N.length)(Ku:∀cl C s H fp,PG (cq X N sc cl C s H fp) tg g/\yi (cq X N sc cl C s H fp) l tc/\PE (cq X N sc cl C s H fp) F te)(hs:∀x,XAC f X.env x=pure x)(I:Inv X pins O H s)(h:vL k wi g tc te O H Q)(hq:∀U j D C m,Inv X pins O j U->Q (.ref D) j->U.heap.Ns C m->lB X pins j C->compPost (KB X.prog X.w) X.A X.xe use QQ (.ref D) C (.ok .next) U) :
  PP (KB X.prog X.w) X.A (comprehension (.ListComp F [⟨tg,f,l,0⟩] sc pos) sc X.env pos' (newList []) false (eval f X.env) use) QQ X.xe s:=by
 have Os:=K5;unfold oR at Os;rw[ZS,Yq]at Os;obtain⟨hk,JW⟩:=Os;have Kt:sc.kind=.function:=by simpa using hk
 have Kv:∀y∈sc.names,y.2 ≠ .cell:=λy E e=>by have:=JW y E;rw[e]at this;cases this
 have Ow:∀y∈sc.names,y.2=.local->sc.names.lookup y.1=Z .local:=λy E e=>by
  have:=JW y E;rw[e]at this;simpa using this
 obtain⟨cl,hcl,MU,RN⟩:=BY (sc:=sc) (env:=X.env) λy E e=>I.ok.has y.1 (by
  have:=JW y E;rw[e]at this;simpa using this)
 refine wpAny_comprehension_free (use:=use) M hs hcl Kt Ow (thn (hi pins s O H _ I h) λv s1 h1=>thn h1 λS6 a h2=>?_);obtain⟨it,fp,tn,J,H2,e,I2,T,Jg,f2,hW⟩:=h2;subst e;refine WD (wpAny_newFunctionEnv Kv (by intro y E;simp at E) (λh₁ LC KL=>?_) Kt);dsimp only at LC KL ⊢;generalize hP:a.heap.push { cls:=.type "list",dict:=none,data:=.seq ([]:V0).toArray }=P at LC KL ⊢;have TX:P.objs.size=a.heap.objs.size+1:=by rw[← hP,Ve]
 have old:∀b o,a.heap.get? b=Z o->h₁.get? b=Z o:=λb o e =>
  KL.extBut b o (by rw[TX];exact Zc (YW (ZR e))) (Zj _ (hP ▸ Zj _ e))
 have RQ:a.heap.objs.size≠P.objs.size:=by rw[TX];exact Zc (YK _)
 have TU:h₁.get? a.heap.objs.size=Z { cls:=.type "list",data:=.seq ([]:V0).toArray 0 }:=KL.extBut _ _ RQ (Zj _ (hP ▸ ZW _ M));have OB:a.heap.objs.size<=P.objs.size:=by rw[TX];exact Wk _
 have NO:∀b∈fp,b<a.heap.objs.size:=λb hb=>let ⟨o,ho,_⟩:=T.obj 0 _ Jg b hb;ZR ho
 have RL:P.objs.size∉fp:=λhb=>absurd (ZG (NO _ hb) OB) (YI _);have IY:=I2.block (N:=N) (sc:=sc) (cl:=cl) (C:=P.objs.size) (D:=a.heap.objs.size) (fp:=fp) (k:=k) (t:=a.toks+([]:List (Str×On)).length) K5 LD LI MU RN f2 (Zo _) OB RQ RL old LC TU;obtain⟨hG,hT,hE⟩:=Ku cl P.objs.size a H2 fp;generalize hY:cq X N sc cl P.objs.size a H2 fp=Y at IY hG hT hE;have hYm:Y.prog=X.prog/\Y.w=X.w/\Y.K=X.K/\Y.A=X.A/\Y.env=compEnvC sc cl P.objs.size X.env/\Y.calm=X.calm/\(Y.xe=λ_ _=>False):=by rw[← hY];exact⟨rfl,rfl,rfl,rfl,rfl,rfl,rfl⟩
 obtain⟨R,L,y3,G,y5,y6,y7⟩:=hYm;have Lr:∀{j:Hp},(∀b∈fp,j b=none)->∀b∈fp,lB Y [] j b:=λ{j} hn b hb=>by
  rw[← hY];refine⟨hn b hb,λ(e:b=P.objs.size)=>RL (e ▸ hb),λJD=>?_,.inl hb,λx c e=>(f2 b hb).2.2.2.2.1 x c (MU x c e),λp hp=>(nomatch hp)⟩;rcases Zk.mp (I2.KH b JD) with z | z
  ·exact(f2 b hb).2.1 z
  ·exact(f2 b hb).2.2.1 z
 obtain⟨W,⟨m0,w0⟩,turn⟩:=hW a.heap.objs.size (I2.xb.fresh (Zo _));have Tz:∀b∈fp,upd H2 a.heap.objs.size (.lst []) b=none:=λb hb=>by rw[ar (Zc (NO b hb))];exact(f2 b hb).1
 have KI:tn 0 h₁:=T.keep _ _ _ Jg λb _ o e=>old b o e;have loop:codeAny (KB X.prog X.w) X.A (.compLoop (.ListComp F [⟨tg,f,l,0⟩] sc pos) 0 (.ref it) (.ref a.heap.objs.size) (compEnvC sc cl P.objs.size X.env)) (compPost (KB X.prog X.w) X.A X.xe use QQ (.ref a.heap.objs.size) P.objs.size)
   { a with heap:=h₁,toks:=a.toks+([]:List (Str×On)).length }:=by
  refine sJ (λn U=>∃i O' j,Inv Y [] O' j U/\tn i U.heap/\(∀b∈fp,j b=none)/\W i n O' j) ?_ m0 ⟨0,_,_,IY,KI,Tz,w0⟩;rintro n s3 ⟨i,O3,H3,I3,KI,QG,w3⟩;rcases turn i n O3 H3 w3 with⟨stop,qn⟩ | ⟨go,step⟩
  ·have q:=T.done Y R L y3 (y6.trans IW) i [] s3 O3 H3 (λ_ _=>False) I3 (Lr QG) KI stop;rw[G]at q;refine thn q λr s4 ⟨hr,I4⟩=>?_;subst hr;have IX:Inv X pins O H3 s4:=by
    have b4:=I4.base;have o4:=I4.os;have k4:=I4.xb;rw[← hY]at b4 o4 k4;refine I2.QU (ch:=fp) o4 b4 k4 I4.bare λb hb=>?_;exact⟨(f2 b hb).2.2.2.1,(f2 b hb).2.1,(f2 b hb).2.2.2.2.1,(f2 b hb).2.2.2.2.2⟩
   obtain⟨mC,VF,_⟩:=I4.loc;have f4:=I4.free;rw[y5]at VF f4;exact hq s4 H3 _ P.objs.size mC IX qn VF (I2.Lj OB f4)
  ·have q:=T.item Y R L y3 (y6.trans IW) i [] s3 O3 H3 (λ_ _=>False) I3 (Lr QG) KI go;rw[G]at q;refine thn q λr s4 ⟨u,hr,h4⟩=>?_;subst hr;refine thn h4 λ_ s5 ⟨x,H5,I5,r5,yl5,N8,T1⟩=>?_;have Uz:=I5.pinned (Lr T1) (T.obj _ _ N8);have again:∀{O7:St}{H7:Hp}{S:IR}{m:Nat},Inv Y ([]++oq fp s5.heap) O7 H7 S->W (i+1) m O7 H7->∃i O' j,Inv Y [] O' j S/\tn i S.heap/\(∀b∈fp,j b=none)/\W i m O' j:=λ{O7 H7 S m} I7 w7=>by
    refine⟨i+1,O7,H7,I7.JF,T.keep _ _ _ N8 λb hb o e=>(I7.pin (b,o) (ZP _ (ZP _ (iw hb e)))).1,λb hb=>?_,w7⟩;obtain⟨o,e,d⟩:=T.obj _ _ N8 b hb;exact(I7.pin (b,o) (ZP _ (ZP _ (iw hb e)))).2.1
   have qa:=hG _ s5 O3 H5 x u _ Uz r5 (step x H5 yl5);rw[R,L,G,y5,y7]at qa;refine thn qa λ_ s6 ⟨O6,H6,I6,q6⟩=>?_;have qt:=hT _ s6 O6 H6 _ I6 q6;rw[R,L,G,y5,y7]at qt;refine thn qt λb S ⟨H7,I7,q7⟩=>?_;cases b with
   |false =>
    rw[Zm Zf]at q7 ⊢;obtain⟨m',hm,w7⟩:=q7;exact⟨m',hm,again I7 w7⟩
   |true =>
    rw[Zr M]at q7 ⊢;have qe:=hE _ S O6 H7 _ I7 q7;rw[R,L,G,y5,y7]at qe;refine thn qe λyv s8 ⟨y,H8,I8,r8,ys,hD8,hl8,m',hm,w8⟩=>?_;have qp:=h9 (X:=Y) _ s8 O6 H8 (.ref a.heap.objs.size) [y] (.ref a.heap.objs.size) [yv] (λ_ H9=>W (i+1) m' O6 H9) I8 M (.cons r8 .nil) ⟨_,ys,y,rfl,rfl,hD8,hl8,w8⟩;rw[R,L,G,y7]at qp;refine thn qp λ_ s9 ⟨_,H9,I9,_,w9⟩=>?_;exact⟨m',hm,again I9 w9⟩
 exact codeAny_compStart_list loop (T.self _ 0 _ _ _ KI loop)
def pU{X:Cx}{N:List Str}(L:X.calm=B)(y:PI X l a p)(G:oR X.env d=B)(A:lA d (N.drop k) X.N=B)(z:k<=N.length)(E:∀cl C s H fp,PG (cq X N d cl C s H fp) l g/\yi (cq X N d cl C s H fp) i t/\PE (cq X N d cl C s H fp) j r)(v:{`q2,∀x,XAC a X.env x=pure x}):PE X (.ListComp j [⟨l,a,i,0⟩] d n) (vL k p g t r):=by
 intro pins s O H Q I h;rw[eval_ListComp];refine pC (use:=Y) L y G A z E v I h λu P D C m M q w f=>⟨m,w,λR F=>?_⟩
 exact⟨.ref D,P,M.turned (it:=C) (t':=u.toks) (λb o hb e=>F.extBut b o hb e) f.1 f.2.1 f.2.2.2.1 f.2.2.2.2.1 f.2.2.2.2.2,rfl,q⟩
def uI{X:Cx}{L:Pos}{N:List Str}(hN:X.N.Nodup)(Tu:X.N[i]?=Z x)(R:Loc X.env.scope x)(IW:X.calm=B)(hi:PI X t d E)(K5:oR X.env l=B)(LD:lA l (N.drop k) X.N=B)(LI:k<=N.length)(Ku:∀cl C s H fp,PG (cq X N l cl C s H fp) t g/\yi (cq X N l cl C s H fp) n G/\PE (cq X N l cl C s H fp) p F)(Lf:swapsWith (.ListComp p [⟨t,d,n,0⟩] l r) (Z (.Name x j)) L.line X.env=pure B)(hf:X.fn x=B\/X.env.scope.names.lookup x=Z .local)(S:{`q2,∀x,XAC d X.env x=pure x}) :
  PS X (.Assign [.Name x j] (.ListComp p [⟨t,d,n,0⟩] l r) L) (λD O H=>vL k E g G F O H λv H1=>D.nx (O.set i (Z v)) H1):=by
 intro pins s O H D I h;rw[exec_Assign_Name_used _ _ _ _ Lf];refine Zu (wpAny_standAt (Zu ?_));show PP _ X.A (do let _ ← comprehension (.ListComp p [⟨t,d,n,0⟩] l r) l X.env _ (newList []) J (eval d X.env) (Z (assign (.Name x j) X.env))) _ _ s;refine Zu (YR (pC (use:=Z (assign (.Name x j) X.env)) (QQ:=λ_ u=>SP X pins D .next u) IW hi K5 LD LI Ku S I h λu H' P C m I' q hn f=>?_) (λ_ u U=>Zh (Zh U)) λ_ _ e=>e);show PP _ X.A (assign (.Name x j) X.env (.ref P)) _ _ _;refine wpAny_assign_Name (pD I' hN Tu R (v:=.ref P) M (λQ I2 ⟨a,w,ha⟩=>?_) hf);have y:C≠a:=λe=>by
  rcases ha with z | z
  ·exact f.2.1 (e.trans z)
  ·exact f.2.2.2.2.1 x a z e.symm
 refine⟨m,hn.sameBut w y,λh' Ks=>⟨_,H',?_,q⟩⟩;exact I2.turned (it:=C) (t':=Q.toks) (λb o hb e=>Ks.extBut b o hb e) f.1 f.2.1 f.2.2.2.1 f.2.2.2.2.1 f.2.2.2.2.2
end
end L2
end
section
namespace VS
open PySem PySem.Spec PyProof.Rows L2
noncomputable def wD(k:Nat)(g:Tg):Prop:=∀t U a,g t U=Z a->a.length=U.length/\∀i,k<=i->a[i]?=U[i]?
def iO(h:{`q0,i<k}):wD k (bu i):=λt U b e=>by
 unfold bu at e;split at e
 ·cases e;exact⟨by simp,λj a=>by rw[Y4 (by lia)]⟩
 ·cases e
theorem vc:∀(l:V8){i:Nat}{t:T},fE l=B->l[i]?=Z t->Iq t=B
 |[],_,_,_,h=>by simp at h
 |x :: l,0,t,h,e=>by
  simp only[fE,ZS]at h;simp at e;rw[← e];exact h.1
 |x :: l,i+1,t,h,e=>by
  simp only[fE,ZS]at h;exact vc l h.2 (by simpa using e)
def tC(G:Gx):Option Ex->TT
 |none=>λO H Q=>Q B H
 |some c=>tT G c
section
variable{H:Hp}
def j9:(List.replicate k Y++U)[i]?=Z (Z c)↔k<=i/\U[i-k]?=Z (Z c):=by
 rcases WI i k with h | h
 ·rw[Yz (by simpa using h),Y8];constructor
  ·intro e;split at e<;>cases e
  ·intro ⟨e,_⟩;lia
 ·rw[Yu (by simpa using h),YA];exact⟨λe=>⟨h,e⟩,λe=>e.2⟩
def zC:bX (λi=>R (i-k)) (List.replicate k Y++U) a↔bX R U a:=by
 constructor
 ·rintro⟨j,t,d,b⟩;exact⟨j-k,t,(j9.mp d).2,b⟩
 ·rintro⟨j,t,d,b⟩;refine⟨j+k,t,j9.mpr ⟨Xc _ _,by rw[WY];exact d⟩,?_⟩;show a∈R (j+k-k);rw[WY];exact b
def yD:dM (λi=>R (i-k)) (List.replicate k Y++U) a↔dM R U a:=by
 constructor
 ·rintro⟨j,t,d,b⟩;exact⟨j-k,t,(j9.mp d).2,b⟩
 ·rintro⟨j,t,d,b⟩;refine⟨j+k,t,j9.mpr ⟨Xc _ _,by rw[WY];exact d⟩,?_⟩;show a∈R (j+k-k);rw[WY];exact b
def SR.sh(s:SR G R U O H):SR G (λi=>R (i-k)) (List.replicate k Y++U) (List.replicate k Y++O) H:=by
 refine⟨by simp[s.len],λi c h=>?_,λi t h=>?_,λi j t c b a n=>?_⟩
 ·obtain⟨b,a⟩:=j9.mp h;obtain⟨v,e,d⟩:=s.rp _ c a;refine⟨v,?_,d⟩;rw[Yu (by simpa using b),YA];exact e
 ·exact s.nd _ t (j9.mp h).2
 ·obtain⟨m,g⟩:=j9.mp b;obtain⟨l,f⟩:=j9.mp a;exact s.sep _ _ t c g f (by lia)
def SR.less{U:VS.Env}(s:SR G R a O H)(b:U.length=a.length)(h:∀(i:Nat) c,U[i]?=Z (Z c)->a[i]?=Z (Z c)):SR G R U O H :=
 ⟨b.trans s.len,λi c e=>s.rp i c (h i c e),λi t e=>s.nd i t (h i _ e),λi j t c e1 e2 n=>s.sep i j t c (h i _ e1) (h j _ e2) n⟩
def SR.off{o:HO}(s:SR G R U O H)(m:Ip (H D)\/H D=Y)(d:¬dM R U D)(a:¬bX R U D):SR G R U O (upd H D o):=by
 refine⟨s.len,λi c e=>?_,s.nd,s.sep⟩;obtain⟨v,h,g⟩:=s.rp i c e;refine⟨v,h,g.keep (Kept.upd m) λb hb j f=>?_⟩;rw[ar λz=>?_]
 ·exact f
 ·subst z;cases c with
  |pu t=>exact d ⟨i,t,e,hb⟩
  |ow t=>exact a ⟨i,t,e,hb⟩
theorem nW:∀(l:V6)(v:Val),cn (l++[v])=(cn l).join v.1
 |[],(m,t)=>by cases m<;>rfl
 | (m,t) :: l,v=>by
  show m.join (cn (l++[v]))=(m.join (cn l)).join v.1;rw[nW l v];generalize cn l=q;generalize v.1=r;cases m<;>cases q<;>cases r<;>rfl
def Fp.P7(f:Fp R U H m F)(g:Fp R U H n j)(d:n=.fr->∀a∈F,a∉j):Fp R U H (m.join n) (F++j):=by
 have both:∀{P:KM->Prop},(∀a∈F,P a)->(∀a∈j,P a)->∀a∈F++j,P a:=λp q a h=>(Zd.mp h).elim (p a) (q a);cases m<;>cases n
 ·exact⟨ZL.mpr ⟨f.1,g.1,λa i b hb e=>d M a i (e ▸ hb)⟩,both f.2 g.2⟩
 ·exact both (λa i=>.inl (f.2 a i)) g
 ·exact both (λa i=>.inl (f.2 a i)) g
 ·exact both f λa i=>.inl (g.2 a i)
 ·exact both f g
 ·exact both (λa i=>(f a i).imp id .inl) g
 ·exact both f λa i=>.inl (g.2 a i)
 ·exact both f λa i=>(g a i).imp id .inl
 ·exact both f g
def Fp.QS(f:Fp R U H m F)(h:H D=Y)(d:D∉F):Fp R U H m (D :: F):=by
 have all:∀{P:KM->Prop},P D->(∀a∈F,P a)->∀a∈D :: F,P a:=λp q a b=>(Zk.mp b).elim (λe=>e ▸ p) (q a);cases m
 ·exact⟨ZY.mpr ⟨d,f.1⟩,all h f.2⟩
 ·exact all (.inl h) f
 ·exact all (.inl h) f
end
section
def CI(G:Gx)(R:Ir)(U b:VS.Env)(H p:Hp)(D:KM)(l:V8)(h:V6)(q:Tg)(d:Option Ex)(r:Ex)(i n:Nat)(s:L2.St)(f:Hp):Prop:=n=l.length-i/\∃e g j m rest,SR G e b s f/\(∀a,bX e b a->bX R U a)/\(∀a,dM e b a->H a=Y\/dM R U a)/\¬dM e b D/\¬bX e b D/\Kept p f ∧
     (∀a o,a≠D->p a=Z o->f a=Z o)/\f D=Z (.lst m)/\RpL G f m (trees g) j/\D∉j.flatten/\Fp R U H (cn g) j.flatten/\jP q d r b (l.drop i)=Z rest/\g++rest=h
def mW{G:Gx}{k:Nat}{tg:Tg}{ci:Ju}{cond:Option Ex}{ce:Ex}{O:L2.St}{H:Hp}{Q:VK}(Ku:wD k tg)(h:tE G (dy k tg ci cond ce) O H Q):vL k (tI G ci) (tG G tg) (tC G cond) (tE G ce) O H Q:=by
 refine L2.hJ λP_ S=>?_;obtain⟨R,U,m,r,s,e,kq⟩:=h;unfold dy at e;obtain⟨⟨mi,l⟩,el,e1⟩:=Zz.mp e;dsimp only at e1;split at e1
 ·rename_i xb;obtain⟨all,ea,e2⟩:=Zz.mp e1;unfold Lw at e2;split at e2
  ·rename_i hlen;cases e2;refine S ?_;refine⟨R,U,mi,l,s,el,λJ H1 C e3 ok fc D hD=>?_⟩;have Ny:H D=Y:=e3.free hD;let U0:VS.Env:=List.replicate k Y++U
   have good:∀{t:T}{i:Nat}{N H2:Hp}{v:V}{F:Wa},l[i]?=Z t->Rp G H2 v t F->(∀a,H1 a≠Y->N a≠Y)->(∀a∈F,a∈C\/N a=Y)->∀a∈F,(H a=Y\/dM R U a)/\¬bX R U a:=λ{t i N H2 v F} hi rF keep hF a d=>by
    have IE:∀{b},H b≠Y->N b≠Y:=λ{b} hb=>keep b λz=>hb (e3.free z);rcases hF a d with z | z
    ·rcases fc a z with q | q | ⟨q,w⟩
     ·exact⟨.inl q,λw=>Ip.p0 (s.JR w) q⟩
     ·exact⟨.inr q,λw=>s.MD w q⟩
     ·subst q;have:Iq t=B:=by
       exact vc l xb hi
      rw[rF.Iq this]at d;simp at d
    ·have hz:H a=Y:=Classical.byContradiction λq=>IE q z;exact⟨.inl hz,λw=>Ip.p0 (s.JR w) hz⟩
   refine⟨CI G R U U0 H H1 D l all tg cond ce,?_,?_⟩
   ·refine⟨l.length-0,rfl,λi=>R (i-k),[],[],[],all,?_,λa h=>zC.mp h,λa h=>.inr (yD.mp h),λh=>?_,λh=>?_,Kept.upd (.inr hD),λa o n h=>by rw[ar n];exact h,aj,.nil,by simp,Fp.nil,by rw[Wz];exact ea,rfl⟩
    ·exact((s.same e3).sh).off (.inr hD) (λh=>Ip.p0 (s.MB (yD.mp h)) Ny) λh=>Ip.p0 (s.JR (zC.mp h)) Ny
    ·exact Ip.p0 (s.MB (yD.mp h)) Ny
    ·exact Ip.p0 (s.JR (zC.mp h)) Ny
   ·intro i n O' N hh_;refine L2.hJ λP_ S=>?_;obtain⟨rfl,R1,P,Fs,xs,rest,s1,UM,pu1,np1,no1,kp,old,Pc,rp,nD,fp,er,ev⟩:=hh_;refine S ?_;have LW:∀a,H1 a≠Y->N a≠Y:=λa d z=>by
     by_cases q:a=D
     ·subst q;rw[Pc]at z;cases z
     ·cases e:H1 a with
      |none=>exact d e
      |some o=>rw[old a o q e]at z;cases z
    refine L2.hJ λP_ S=>?_;obtain⟨go,stop⟩:=ok.run N kp λa d o ho=>old a o (λz=>ok.IE a d (z ▸ hD)) ho;cases hit:l[i]? with
    |none =>
     have hl:l.length<=i:=Ym.mp hit;refine S ?_;left;refine⟨stop i hl,?_⟩;rw[Xf hl]at er;cases (show Z ([]:V6)=Z rest from er);rw[ZM]at ev;subst ev;refine kq (.ref D) N (D :: Fs.flatten) (λa o h=>old a o (λz=>by rw[z,Ny]at h;cases h) (e3 a o h)) (.lst Pc rp) ?_;by_cases hi:fE (trees P)=B
     ·rw[Zr hi,rp.Iq hi];exact⟨by simp,λa d=>by rw[Ze.mp d];exact Ny⟩
     ·rw[Zm hi];exact fp.QS Ny nD
    |some t =>
     have hl:i<l.length:=(Zb.mp hit).1;obtain⟨g1,y1⟩:=go i t hit;refine S ?_;right;refine⟨g1,λx H2 yl=>?_⟩;refine L2.hJ λP_ S=>?_;obtain⟨E,F,rF,hF⟩:=y1 x H2 yl;rw[pS (tgt:=tg) (body:=d6) (U:=U) hit]at er;rw[jP]at er;obtain⟨p,e4,e5⟩:=Zz.mp er;obtain⟨b,eb,e6⟩:=Zz.mp e5;have gd:=good hit rF LW hF;have s2:=s1.same E;have DF:D∉F:=λh=>by
      rcases hF D h with z | z
      ·exact ok.IE D z hD
      ·rw[Pc]at z;cases z
     refine S ?_;refine⟨R1,U0,t,F,p,s2,rF,λa d z=>(gd a d).2 (UM a z),e4,λg O3 s3 o3 p3=>?_⟩;obtain⟨tl,Pz⟩:=Ku t U0 p e4;have low:∀j c,U0[j]?=Z (Z c)->p[j]?=Z (Z c):=λj c h=>by rw[Pz j (j9.mp h).1];exact h
     have Rx:∀a,dM g p a->H a=Y\/dM R U a:=λa h=>(p3 a h).elim (pu1 a) λh=>(gd a h).1;have Sn:∀a,bX g p a->bX R U a:=λa h=>UM a (o3 a h);have PQ:¬dM g p D:=λh=>(p3 D h).elim np1 DF;have RB:¬bX g p D:=λh=>no1 (o3 D h);have Rw:∀a,dM g U0 a->dM g p a:=λa ⟨j,u,h1,h2⟩=>⟨j,u,low j _ h1,h2⟩
     have Ry:∀a,bX g U0 a->bX g p a:=λa ⟨j,u,h1,h2⟩=>⟨j,u,low j _ h1,h2⟩
     have NI:∀A,aG H2 A->(if b=B then tE G ce O3 A λy L=>∃ys,L D=Z (.lst ys)/\ys.length<KF/\∃m',m'<l.length-i/\CI G R U U0 H H1 D l all tg cond ce (i+1) m' O3 (upd L D (.lst (ys++[y]))) else ∃m',m'<l.length-i/\CI G R U U0 H H1 D l all tg cond ce (i+1) m' O3 A):=λA f=>by
      have eo:∀{L},aG A L->∀a o,N a=Z o->L a=Z o:=λ{L} Pk a o h=>Pk a o (f a o (E a o h));cases b with
      |false =>
       rw[Zm Zf]at e6 ⊢;have same:=eo (aG.refl A);exact⟨_,by lia,rfl,g,P,Fs,xs,rest,(s3.same f).less (by rw[tl]) low,λa h=>Sn a (Ry a h),λa h=>Rx a (Rw a h),λh=>PQ (Rw D h),λh=>RB (Ry D h),kp.trans ((Kept.of E).trans (Kept.of f)),λa o n h=>same a o (old a o n h),same D _ Pc,rp.same (aG.trans E f),nD,fp,e6,ev⟩
      |true =>
       rw[Zr M]at e6 ⊢;obtain⟨⟨mv,tv⟩,ece,e7⟩:=Zz.mp e6;obtain⟨PK,er1,J2⟩:=Zv.mp e7;refine⟨g,p,mv,tv,s3.same f,ece,λy L Fy Pk ry X=>?_⟩;have same:=eo Pk;have hD5:=same D _ Pc;have RD:Ip (L D):=by rw[hD5];exact True.intro
       have TV:A D=Z (.lst xs):=f D _ (E D _ Pc);have ME:∀a,A a=Y->H a=Y:=λa h=>Classical.byContradiction λq=>LW a (λz=>q (e3.free z)) (E.free (f.free h));have fyo:Fp R U H mv Fy:=by
        cases mv with
        |fr=>exact⟨X.1,λa d=>ME a (X.2 a d)⟩
        |pu=>exact λa d=>(X a d).elim (λz=>.inl (ME a z)) (Rx a)
        |bo=>exact λa d=>(X a d).elim (λz=>.inl (ME a z)) λz=>z.elim (λz=>(Rx a z).imp id .inl) λz=>.inr (.inr (Sn a z))
       have DFy:D∉Fy:=λh=>by
        cases mv with
        |fr=>have:=X.2 D h;rw[TV]at this;cases this
        |pu=>exact(X D h).elim (λz=>by rw[TV]at z;cases z) PQ
        |bo=>exact(X D h).elim (λz=>by rw[TV]at z;cases z) λz=>z.elim PQ RB
       have rp5:RpL G L xs (trees P) Fs:=rp.same ((E.trans f).trans Pk);have lenx:xs.length=P.length:=by rw[rp.len.1];simp
       have lenv:P.length<all.length:=by rw[← ev,← J2];simp
       refine⟨xs,hD5,?_,_,by lia,rfl,g,P++[(mv,tv)],Fs++[Fy],xs++[y],PK,(((s3.same f).same Pk).off (.inl RD) PQ RB).less (by rw[tl]) low,λa h=>Sn a (Ry a h),λa h=>Rx a (Rw a h),λh=>PQ (Rw D h),λh=>RB (Ry D h),?_,λa o n h=>?_,aj,?_,?_,?_,er1,?_⟩
       ·have VG:all.length<=eu:=by simpa using hlen
        have:KF=eu:=rfl;lia
       ·exact(kp.trans ((Kept.of E).trans ((Kept.of f).trans (Kept.of Pk)))).trans (Kept.upd (.inl RD))
       ·rw[ar n];exact same a o (old a o n h)
       ·have:trees (P++[(mv,tv)])=trees P++[tv]:=by simp
        rw[this];exact(rp5.off RD nD).append (.cons (ry.keep (Kept.upd (.inl RD)) λb hb o ho=>by rw[ar (λz=>DFy (by rw[← z];exact hb))];exact ho) .nil)
       ·rw[Ys];intro h;rcases Zd.mp h with z | z
        ·exact nD z
        ·exact DFy (by simpa using z)
       ·rw[Ys,nW];have:([Fy]:X0).flatten=Fy:=by simp
        rw[this];refine fp.P7 fyo λhm a d hb=>?_;subst hm;have h4:=X.2 a hb;have:Ip (A a):=(rp.same (E.trans f)).IE a d;rw[h4]at this;exact this
       ·rw[ZZ,← ev,← J2];rfl
     cases cond with
     |none =>
      cases (show Z B=Z b from eb);exact NI H2 (aG.refl H2)
     |some c =>
      obtain⟨⟨mc,xc⟩,ec1,OF⟩:=Zz.mp eb;exact⟨g,p,mc,xc,b,s3,ec1,OF,λA f=>NI A f⟩
  ·cases e2
 ·cases e1
end
section
def mO{X:Cx}(k:Nat)(N:List Str)(m:X.calm=B)(b:PVI G X tg iter ci)(j:wD k g)(d:∀cl C s H fp,M3 G (cq X N sc cl C s H fp) tg g)(he:∀cl C s H fp,PV G (cq X N sc cl C s H fp) elt ce)(l:{`q1,oR X.env sc=B})(f:{`q1,lA sc (N.drop k) X.N=B})(e:{`q0,k<=N.length})(a:{`q2,∀x,XAC iter X.env x=pure x}) :
  PV G X (.ListComp elt [⟨tg,iter,[],0⟩] sc pos) (dy k g ci Y ce) :=
 PE.weak (pU m b l f e (λcl C s H fp=>⟨d cl C s H fp,nA,he cl C s H fp⟩) a) λO H Q h=>mW (cond:=Y) j h
def wR{X:Cx}(k:Nat)(N:List Str)(n:X.calm=B)(b:PVI G X tg iter ci)(l:wD k g)(d:∀cl C s H fp,M3 G (cq X N sc cl C s H fp) tg g)(e:∀cl C s H fp,Kw G (cq X N sc cl C s H fp) c cc)(he:∀cl C s H fp,PV G (cq X N sc cl C s H fp) elt ce)(m:{`q1,oR X.env sc=B})(j:{`q1,lA sc (N.drop k) X.N=B})(f:{`q0,k<=N.length})(a:{`q2,∀x,XAC iter X.env x=pure x}) :
  PV G X (.ListComp elt [⟨tg,iter,[c],0⟩] sc pos) (dy k g ci (Z cc) ce) :=
 PE.weak (pU n b m j f (λcl C s H fp=>⟨d cl C s H fp,zL (e cl C s H fp),he cl C s H fp⟩) a) λO H Q h=>mW (cond:=Z cc) l h
def AZ(h:tS G (aI i a) D O H):tE G a O H λv u=>D.nx (O.set i (Z v)) u:=by
 refine L2.hJ λy j=>?_;obtain⟨R,U,o,s,e,k⟩:=h;unfold aI at e;obtain⟨⟨m,t⟩,q,e1⟩:=Zz.mp e;refine j ?_;split at e1
 ·cases e1
 ·rename_i l;split at e1
  ·rename_i n;cases e1;refine⟨R,U,m,t,s,q,λv w F r b p=>?_⟩;obtain⟨f,d⟩:=s.val (c:=.pu t) n r b p (.inl ⟨rfl,l⟩);exact k _ _ w f d
  ·cases e1
def xY{X:Cx}{L8:Pos}(k:Nat)(N:List Str)(l:∀D O H,tS G a D O H->tE G (dy k g ci Y ce) O H λv w=>D.nx (O.set i (Z v)) w)(u:X.calm=B)(e:PVI G X tg iter ci)(r:wD k g)(f:∀cl C s H fp,M3 G (cq X N sc cl C s H fp) tg g)(he:∀cl C s H fp,PV G (cq X N sc cl C s H fp) elt ce)(m:X.N.Nodup)(n:{`q1,X.N[i]?=Z x})(b:{`q5,Loc X.env.scope x})(t:{`q1,oR X.env sc=B})(q:{`q1,lA sc (N.drop k) X.N=B})(p:{`q0,k<=N.length})(o:{`q1,swapsWith (.ListComp elt [⟨tg,iter,[],0⟩] sc pos) (Z (.Name x pos')) L8.line X.env=pure B})(j:{`q6,X.fn x=B\/X.env.scope.names.lookup x=Z .local})(d:{`q2,∀x,XAC iter X.env x=pure x}) :
  PSV G X (.Assign [.Name x pos'] (.ListComp elt [⟨tg,iter,[],0⟩] sc pos) L8) a :=
 PS.weak (uI m n b u e t q p (λcl C s H fp=>⟨f cl C s H fp,nA,he cl C s H fp⟩) o j d) λD O H h=>mW (cond:=Y) r (l D O H h)
end
end VS
end
section
namespace L2
open PySem PySem.Spec PyProof.Rows
def Uy(K:X6)(a:KM):It :=
 ⟨λi H=>∃b x,Iw K H a b/\b[i]?=Z x,λi H v d=>∃p x,H p=Y/\v=.ref p/\d=upd H p (.tup [.int i,x])/\∀b,Iw K H a b->b[i]?=Z x,λi H=>∃b,Iw K H a b/\b.length<=i⟩
def xi{K:X6}(a e f:KM)(KO:e≠f):Turn P w K (.Tuple F n Q) (Uy K a) [e,f] e (λi h=>(∃old,IsEnum h e f i old)/\h.IsListIter f a i) where
 mem:=by simp
 obj:=λi h st b hb=>by
  obtain⟨⟨old,he⟩,o,S,c,d⟩:=st;rcases Zk.mp hb with rfl | hb
  ·exact⟨_,he,λv z=>by cases (show Data.fields _=Data.cell v from z)⟩
  ·rw[Ze.mp hb];exact⟨o,S,λv z=>by rw[d]at z;cases z⟩
 keep:=λi h h' st k=>⟨let ⟨old,he⟩:=st.1;⟨old,k e (by simp) _ he⟩,st.2.at λo x=>k f (by simp) o x⟩
 item:=by
  intro X hP hw hK hc i g s O H E I l st hg;subst hP hw hK;obtain⟨xs,x,L,R⟩:=hg;obtain⟨jj,N,p,hz⟩:=I.list L;obtain⟨u,hu,ru⟩:=N.get R;obtain⟨⟨old,he⟩,hit⟩:=st;refine wpAny_pyNext_enum_item he hit p.isList (x:=u) (by simpa using hu) KO λh1 S Ts hT hsz hk=>⟨_,rfl,?_⟩
  refine wpAny_letOwnedTupleGo_enum S λC U G=>?_;have G:Heap.SameBut e h1 C:=G;have UX:e<s.heap.objs.size:=ZR he;have ltI:f<s.heap.objs.size:=let ⟨_,z,_⟩:=hit;ZR z
  have A:H s.heap.objs.size=Y:=I.xb.fresh (Zo _);have t:∀b o,b∉[e,f]->s.heap.get? b=Z o->C.get? b=Z o:=λb o hb q=>by
   have D:b≠e:=λz=>hb (by simp[z]);have h2b:b≠f:=λz=>hb (by simp[z]);exact(G.2 b D).trans (hk b o D h2b q)
  have XN:C.get? s.heap.objs.size=Z { cls:=.type "tuple",data:=.seq #[.int i s.toks,u] }:=(G.2 _ (WK UX)).trans hT;have US:∀b o,H b=Z o->b∉[e,f]:=λb o q hb=>by rw[(l b hb).1]at q;cases q
  have lt:∀b o,s.heap.get? b=Z o->b≠s.heap.objs.size:=λb o q=>Zc (ZR q);have up:∀b o,H b=Z o->upd H s.heap.objs.size (.tup [.int i,x]) b=Z o:=λb o q=>by rw[ar (bD q A)];exact q
  have Th:Jv X.prog X.w (upd H s.heap.objs.size (.tup [.int i,x])) C:=λb ob q=>by
   by_cases hb:b=s.heap.objs.size
   ·subst hb;rw[aj]at q;cases q;exact⟨by show 2<=KF;decide,[.int i s.toks,u],.cons ⟨_,rfl⟩ (.cons ru .nil),ND.of XN M,⟨_,XN,rfl,_,rfl⟩⟩
   ·rw[ar hb]at q;refine(I.xb b ob q).Lq (λc v j r=>t c v ?_ r) (λc r=>up c _ r) (λc ys r=>up c _ r) λc _ _ r=>up c _ r;rcases j with z | z
    ·rw[z];exact US b ob q
    ·exact US c _ z
  refine⟨.ref s.heap.objs.size,upd H s.heap.objs.size (.tup [.int i,x]),?_,rfl,⟨_,x,A,rfl,rfl,λys hy=>by rw[I.Ld hy L];exact R⟩,⟨⟨u,by simpa using U⟩,Ts.at λo y=>(G.2 f KO.symm).trans y⟩,λb hb=>?_⟩
  ·show Inv X g O _ { s with heap:=C,gens:=s.gens,drawn:=s.drawn,toks:=s.toks+1 };refine I.step (g':=s.gens) (d':=s.drawn) (t':=s.toks+1) (ch:=[e,f]) (λb hb=>?_) (λb o _ _ j q _=>t b o j q) (λb o _ _ j q _=>⟨o.slots,t b o j q⟩) (λb o _ q r=>by rw[ar (lt b o q)];exact r) (λb o j q=>⟨o,t b o j q⟩)
    (λb ys q=>up b _ q) (λb o v q=>up b _ q) (λb _ q=>up b _ q) (λm hm=>?_) Th I.bare
   ·obtain⟨f0,f1,f2,f3,f4,f5⟩:=l b hb;exact⟨f3,f1,f4,f5⟩
   ·obtain⟨o,es,ep,LB,r⟩:=hm;refine⟨o,es,ep,t _ o (λz=>?_) LB,r⟩;exact(l _ z).2.1 M
  ·have:b≠s.heap.objs.size:=by
    rcases Zk.mp hb with rfl | hb
    ·exact Zc UX
    ·rw[Ze.mp hb];exact Zc ltI
   rw[ar this];exact(l b hb).1
 done:=by
  intro X hP hw hK hc i g s O H E I l st hg;subst hP hw hK;obtain⟨xs,L,R⟩:=hg;obtain⟨jj,N,p,hz⟩:=I.list L;obtain⟨⟨old,he⟩,hit⟩:=st;obtain⟨f0,f1,f2,f3,f4,f5⟩:=l f (by simp);have hl:=N.length;exact wpAny_pyNext_enum_end (I.ok.hd hc) he hit p.isList (by simp;lia) λh' eb=>⟨rfl,I.turned (t':=s.toks) (λb o hb q=>eb b o hb q) f0 f1 f3 f4 f5⟩
 self:=λ_ _ _ _ _ st h=>let ⟨_,he⟩:=st.1;wpAny_pyIter_enum he h
section
def Ic(K:X6)(ta:TA):TI:=λO H Rq=>ta O H λe b=>∃l,e=[.ref l]/\(∃d,Iw K b l d)/\Rq (Uy K l) b
def BX(y:Gl X "enumerate")(w:X.mg "enumerate" = Y)(z:PA X [a] ta)(u:{`q1,Pv [a] X.env=[(J,eval a X.env)]}):PI X (.Tuple f n A) (.Call (.Name "enumerate" p) [a] [] pos) (Ic X.K ta):=by
 intro d s O H Rq I h;refine Call_ (iH I y w boot_enumerate (Xy (thn (z pos d s O H _ I h) λF s1 ⟨E,C,g,r1,m⟩=>?_) u M));obtain⟨l,e,⟨D,v⟩,q⟩:=m;subst e;cases r1 with
 |cons r j =>
  cases j;cases r;obtain⟨L,G,o,N⟩:=g.list v;refine call_enumerate_list o.isList λP he hit t x=>?_;refine wpAny_pyIter_enum he ?_;refine⟨_,_,_,_,C,rfl,g.kept (t':=s1.toks) x,xi l (s1.heap.objs.size+1) s1.heap.objs.size (Nat.succ_ne_self _),⟨⟨_,he⟩,hit⟩,λb hb=>?_,q⟩;have i:s1.heap.objs.size<=b:=by
   rcases Zk.mp hb with rfl | hb
   ·exact ZJ _ _
   ·rw[Ze.mp hb];exact Zo _
  exact g.Lj i (g.xb.fresh i)
end
end L2
namespace VS
open PySem PySem.Spec PyProof.Rows L2
section
theorem tW:∀(l:V8)(k i:Nat){t:T},(i3 k l)[i]?=Z t->∃x,l[i]?=Z x/\t=.tup [.int ((k+i:Nat):Int),x]
 |[],_,_,_,h=>by simp[i3]at h
 |x :: l,k,0,t,h=>by
  simp[i3]at h;exact⟨x,rfl,by rw[← h];rfl⟩
 |x :: l,k,i+1,t,h=>by
  obtain⟨y,d,b⟩:=tW l (k+1) i (by simpa[i3] using h);refine⟨y,by simpa using d,?_⟩;rw[b,show k+1+i=k+(i+1) by lia]
theorem pv:∀(l:V8)(k:Nat),(i3 k l).length=l.length
 |[],_=>rfl
 |x :: l,k=>by simp[i3,pv l (k+1)]
def BU{a:KM}(K:X6)(m:H a=Z (.lst d))(r:RpL G H d e j):LP G (Uy K a) (i3 0 e) (a :: j.flatten) H:=by
 refine⟨λf k c=>?_,λb hb=>?_⟩
 ·have g:f a=Z (.lst d):=c a Zx _ m;have r2:RpL G f d e j:=r.keep k λb hb o C=>c b (Zw _ hb) o C;refine⟨λi t h=>?_,λi h=>⟨d,Iw.of g,by rw[pv]at h;rw[r.len.1];exact h⟩⟩;obtain⟨y,w,u⟩:=tW e 0 i h;rw[XM]at u;obtain⟨v,F,s,E,D⟩:=r2.get i w;refine⟨⟨d,v,Iw.of g,s⟩,λx M ⟨p,z,A,e1,e2,L⟩=>?_⟩;subst e1 e2;have ex:=L d (Iw.of g);rw[s]at ex;cases ex;have l:aG f (upd f p (.tup [.int i,v])):=λb o q=>by rw[ar (bD q A)];exact q
  refine⟨l,F,?_,λb hb=>.inl (Zw _ (de E hb))⟩;rw[u];have:F=([[],F]:X0).flatten:=by simp
  rw[this];exact .tup aj (.cons (.int _) (.cons (D.same l) .nil))
 ·rcases Zk.mp hb with rfl | hb
  ·rw[m];exact λz=>nomatch z
  ·exact Ip.p0 (r.IE b hb)
def yz(r:PV G X a ca)(q:Gl X "enumerate")(o:X.mg "enumerate" = Y)(i:{`q1,K1 a [] X})(z:{`q1,Pv [a] X.env=[(J,eval a X.env)]}) :
  PVI G X (.Tuple elts n Nd) (.Call (.Name "enumerate" p) [a] [] pos) (wb ca) :=
 PI.weak (BX q o (dC r gg i) z) λO H Rq j=>by
  obtain⟨R,U,m,l,s,e,k⟩:=j;unfold wb at e;obtain⟨⟨h,x⟩,u,e1⟩:=Zz.mp e;refine⟨R,U,h,x,s,u,λv A F w g t=>?_⟩;cases x with
  |lst C =>
   cases e1;obtain⟨y,d,D,rfl,rfl,b,f⟩:=g.lst_inv;exact⟨y,rfl,⟨d,Iw.of b⟩,k _ A _ w (BU X.K b f) t.c⟩
  |_=>cases e1
end
noncomputable instance {s:Tx}:Decidable (mn s):=inferInstanceAs (Decidable (_/\_))
section
def w_add(f:PV G X a ca)(d:PV G X b cb):PV G X (.BinOp a .Add b pos) (e2 cM ca cb):=iR CK DY f d
def jl(f:PV G X a ca)(d:PV G X b cb):PV G X (.BinOp a .FloorDiv b pos) (e2 cI ca cb):=iR Bv BM f d
def w_mod(f:PV G X a ca)(d:PV G X b cb):PV G X (.BinOp a .Mod b pos) (e2 oMod ca cb):=iR D2 D6 f d
def sP{X:Cx}(d:xa k X.A)(g:PV G X a ca)(f:PV G X b cb):Kw G X (.Compare a [.Eq] [b] pos) (e2 oEq ca cb):=fM (D9 d.units) Hl tells_eq g f (lF _)
def pd{X:Cx}(d:xa k X.A)(g:PV G X a ca)(f:PV G X b cb):Kw G X (.Compare a [.NotEq] [b] pos) (e2 Lu ca cb):=fM (EK d.units) GT zd g f (lF _)
def bE(g:PV G X a ca)(f:PV G X b cb)(d:kj b:=by intro _ _;rfl)(i:{`q1,X.K=G.K}):PV G X (.Subscript a b pos) (e2 aD ca cb) :=
 PE.weak (vo qT g f d) λO H Q h=>by rw[i];exact nB yH h
def eZ{X:Cx}(d:X.mg "len" = Y)(g:Jj G X [e] cs)(f:{`q1,Gl X "len"})(h:{`q1,X.K=G.K})(he:{`q1,K1 e [] X}):PV G X (.Call (.Name "len" p) [e] [] pos) (eN cT cs) :=
 ik (h ▸ wq) DR f d PySem.boot_len g (he:=he) (hpl:=rfl)
def DM:bootBuiltins ("max" : Str)=Z (.builtin "max"):=by decide +kernel
def EG:bootBuiltins ("min" : Str)=Z (.builtin "min"):=by decide +kernel
def qm:bootBuiltins ("list" : Str)=Z (.type "list"):=by decide +kernel
def E4{X:Cx}(d:X.mg "max" = Y)(h:Jj G X [a,b] cs)(g:{`q1,X.calm=B})(f:{`q1,Gl X "max"})(he:{`q1,Pv [a,b] X.env=(J,eval a X.env) :: Pv [b] X.env})(hpl:{`q1,(backTo pos (Pv [b] X.env)).any (·.1)=J}):PV G X (.Call (.Name "max" p) [a,b] [] pos) (eN si cs) :=
 ik (xQ g) Cf f d DM h (he:=he) (hpl:=hpl)
def FL{X:Cx}(d:X.mg "min" = Y)(h:Jj G X [a,b] cs)(g:{`q1,X.calm=B})(f:{`q1,Gl X "min"})(he:{`q1,Pv [a,b] X.env=(J,eval a X.env) :: Pv [b] X.env})(hpl:{`q1,(backTo pos (Pv [b] X.env)).any (·.1)=J}):PV G X (.Call (.Name "min" p) [a,b] [] pos) (eN rV cs) :=
 ik (w6 g) Cj f d EG h (he:=he) (hpl:=hpl)
noncomputable def OQ:Ty->Str
 |.int => "int" |.str => "str" |.bool => "bool" |.list => "list" |.tuple => "tuple" |.dict => "dict"
def Ho(t:Ty):bootBuiltins (OQ t)=Z (.type (Mn t)):=by cases t<;>decide +kernel
def w_is{X:Cx}(t:Ty)(f:X.mg "isinstance" = Y)(l:X.mg (OQ t)=Y)(h:PV G X a ca)(g:{`q1,Gl X "isinstance"})(j:{`q1,Gl X (OQ t)})(i:{`q1,X.K=G.K})(d:{`q1,Pv [a,.Name (OQ t) p2] X.env=(J,eval a X.env) :: Pv [.Name (OQ t) p2] X.env}):PV G X (.Call (.Name "isinstance" p1) [a,.Name (OQ t) p2] [] pos) (QM t ca) :=
 GJ t h g f j l (Ho t) i (by cases t<;>decide) (by cases t<;>decide) d M M
def ou{apos:Pos}(i:Nat)(m:Jj G X [e] cs)(o:{`q1,X.K=G.K})(n:{`q1,X.N[i]?=Z x})(f:{`q4,Kp X.env.scope x})(j:{`q0,K3 x})(d:{`q0,K4 x})(q:{`q1,((backTo oe (Pv [e] X.env)).all (λx=>!x.1)&&(backToKw oe (SL [] X.env)).all (λx=>x.1.isSome)
   && decide ([e].length+([]:List Keyword).length+(if ([]:List Keyword).isEmpty then 0 else 1)<30))=B})(s:{`q1,(apos.endLine==oe.line)=B})(g:{`q1,K1 e [] X}) :
  PSV G X (.Expr (.Call (.Attribute (.Name x p1) "append" apos) [e] [] oe) pos) (sX (qP i [] aC cs)) :=
 yq i X1 XF XG h9 k8 (λH v t F l z r h=>i7 r h) m o n f j d M q s g M M
end
structure FnAt(P:Re)(w:XAA)(K:X6)(mg:Wc)(base:UV)(k:Nat)(x:Str)(ps:List Str)(G:Gx)(g:Fn):Prop where
 ex:∃f fd,FnOk P w K mg base Jh k f fd ps (KY G g)/\mg x=some (.ref f)/\PySem.W.keepIn K (.ref f)=true/\Binds K fd ps []
section
def fB{X:Cx}(F:FnAt X.prog X.w X.K X.mg X.base k x ps G g)(b:xa k' X.A)(i:Jj G X (e :: es) cs)(d:{`q0,k<=k'})(h:{`q1,Gl X x})(o:{`q0,K3 x})(he:{`q1,K1 e es X})(a:{`q1,K2 pos es X}) :
  PV G X (.Call (.Name x p) (e :: es) [] pos) (bU g cs):=by
 obtain⟨f,fd,n,m,l,j⟩:=F.ex;exact Bg n (b.mono d) h m l j i o he a
end
section
variable{K:X6}
def jO(F:IA K x x a f i)(m:mg x=Z (.ref f))(S:gV N b (ah a))(j:b.length=g)(l:N.length=h)(o:∀(kV doc pm:On)(an:Option KM)(d ct:On)(e:V0),e.length=b.length->bindArgs (PySem.W.fnOf x x (cQ a) (aX a) (ah a) .none kV doc pm an d ct) ⟨e,[]⟩=pure (b.zip e))(n:∀(d:On)(A:SB)(outer:List PySem.Env)(s:IR)(H:Hp)(E:XK),xa k (A.deeper (envOfC x (ah a) s.heap.objs.size f d))->gP G (jL Jh P w K mg base N x (ah a) f d A outer s H E).Lv (aX a) c) :
  FnAt P w K mg base (k+1) x b G (fn g h c) :=
 ⟨f,i,T2 F S j l n,m,F.kp,F.binds o⟩
end
end VS
end
section
namespace L2
open PySem PySem.Spec PyProof.Rows
noncomputable def Ju(x:Str):It:=⟨λi _=>i<x.cps.size,λi H v a=>a=H/\∃c,x.cps[i]?=Z c/\v=.str ⟨#[c]⟩,λi _=>x.cps.size<=i⟩
def pf{K:X6}(x:Str)(t:Tok)(a:KM)(j:String)(S:["enumerate", "zip", "dict_itemiterator", "dict_reverseitemiterator", "odict_iterator", "itertools.zip_longest", "itertools.pairwise"].contains j=J)(W:∀A:SB,A.handled=Y->Walks P w A a [a] [a] x.cps.size (λi v=>∃c u,x.cps[i]?=Z c/\v=.str ⟨#[c]⟩ u) (λi h=>h.IsStrIter a j x t i))(TF:∀(A:SB),A.handled=Y->∀(i:Nat)(s:IR)(Q:V1->IR->Prop)(E:Yy),s.heap.IsStrIter a j x t i->x.cps[i]?=Y->(∀g,Heap.ExtBut a s.heap g->Q Y { s with heap:=g })->PP (KB P w) A (pyNext (.ref a)) Q E s)(Qp:∀(A:SB)(i:Nat)(s:IR)(Q:Yy)(E:Yy),s.heap.IsStrIter a j x t i->Q (.ref a) s->PP (KB P w) A (pyIter (.ref a)) Q E s) :
  Turn P w K L (Ju x) [a] a (λi h=>h.IsStrIter a j x t i) where
 mem:=by simp
 obj:=λi h st b hb=>by
  rw[Ze.mp hb];obtain⟨o,e,c,d⟩:=st;exact⟨o,e,λv z=>by rw[d]at z;cases z⟩
 keep:=λi h g st k=>let ⟨o,e,r⟩:=st;⟨o,k a (by simp) o e,r⟩
 item:=by
  intro X n hw p m i f s O H E I l st hg;subst n hw p;obtain⟨D,f1,f2,C,y,q⟩:=l a (by simp);refine(W X.A (I.ok.hd m)).item i s _ _ hg st λv g F R G M=>?_;obtain⟨c,u,KP,rfl⟩:=R;have I1:Inv X f O H { s with heap:=g,toks:=F }:=I.turned (λb o hb e=>M b o (by simpa using hb) e) D f1 C y q;obtain⟨o,e,c1,d⟩:=id G;exact⟨_,rfl,sZ (s:={ s with heap:=g,toks:=F }) e c1 d S ⟨.str ⟨#[c]⟩,H,I1,⟨u,rfl⟩,⟨rfl,c,KP,rfl⟩,G,λb hb=>(l b hb).1⟩⟩
 done:=by
  intro X n hw p m i f s O H E I l st hg;subst n hw p;obtain⟨D,f1,f2,C,y,q⟩:=l a (by simp);have N:x.cps.size<=i:=hg;exact TF X.A (I.ok.hd m) i s _ _ st (by simp[N]) λg U=>⟨rfl,I.turned (t':=s.toks) (λb o hb e=>U b o hb e) D f1 C y q⟩
 self:=λA i s Q E st h=>Qp A i s Q E st h
def An{K:X6}(x:Str)(t:Tok)(a:KM):Turn P w K g (Ju x) [a] a (λi h=>h.IsStrIter a (strIterType x) x t i):=by
 cases f:x.cps.all (· < 128)
 ·have e:strIterType x = "str_iterator" := by simp[strIterType,f]
  rw[e];exact pf x t a "str_iterator" rfl (λA b=>Walks.strWide b a x t) (λA b i s Q E st d q=>wpAny_pyNext_wide_end b st d q) λA i s Q E st q=>wpAny_pyIter_striter_wide st q
 ·have e:strIterType x = "str_ascii_iterator" := by simp[strIterType,f]
  rw[e];exact pf x t a "str_ascii_iterator" rfl (λA b=>Walks.strAscii b a x t) (λA b i s Q E st d q=>wpAny_pyNext_ascii_end b st d q) λA i s Q E st q=>wpAny_pyIter_striter_ascii st q
section
def GX(K:X6)(f:TE):TI:=λO H Rq=>f O H λx d=>(∃a,x=.ref a/\(∃e,Iw K d a e)/\Rq (RZ K a) d)\/(∃a,x=.ref a/\(∃e,Jz K d a e)/\Rq (Ux K a) d)\/∃z,x=.str z/\Rq (Ju z) d
def Br(y:PE X l tl):PI X tg l (GX X.K tl):=by
 intro d s O H Rq I h;refine thn (y d s O H _ I h) λv s1 ⟨x,g,f,r1,u⟩=>?_;have j:∀b∈[s1.heap.objs.size],lB X d g b:=λb hb=>by
  rw[Ze.mp hb];exact f.Lj (Zo _) (f.xb.fresh (Zo _))
 rcases u with⟨a,e,⟨n,i⟩,q⟩ | ⟨a,e,⟨n,i⟩,q⟩ | ⟨z,e,q⟩
 ·subst e;cases r1;obtain⟨m,r,p,w⟩:=f.list i;exact wpAny_pyIter_list p.isList ⟨s1.heap.objs.size,[s1.heap.objs.size],_,_,g,rfl,f.kept (t':=s1.toks) λb o e=>Zj _ e,pB a _,⟨_,ZW _ M,rfl,rfl⟩,j,q⟩
 ·subst e;cases r1;obtain⟨m,r,p,w⟩:=f.tuple i;exact wpAny_pyIter_tuple (show s1.heap.IsTuple a m.toArray from p) ⟨s1.heap.objs.size,[s1.heap.objs.size],_,_,g,rfl,f.kept (t':=s1.toks) λb o e=>Zj _ e,uS a _,⟨_,ZW _ M,rfl,rfl⟩,j,q⟩
 ·subst e;obtain⟨t,rfl⟩:=r1;exact wpAny_pyIter_strU ⟨s1.heap.objs.size,[s1.heap.objs.size],_,_,g,rfl,f.kept (t':=s1.toks) λb o e=>Zj _ e,An z t _,⟨_,ZW _ M,rfl,rfl⟩,j,q⟩
def B9{s:IR}{d:UV}(g:∀b x,b∉[s.heap.objs.size]->(s.heap.push o).get? b=Z x->d.get? b=Z x)(b:KM)(x:Obj)(e:s.heap.get? b=Z x):d.get? b=Z x :=
 g b x (λf=>YI _ (by have:=ZR e;rw[Ze.mp f]at this;exact this)) (Zj _ e)
def yC{X:Cx}(G:X.calm=B):dn X (.builtin "sum") (λr H Q=>∃p,∃ns:V3,r=[.ref p]/\Iw X.K H p (ns.map V.int)/\Q (.int ns.sum) H):=by
 intro w s O H r N Q I C h;obtain⟨p,ns,rfl,F,q⟩:=h;obtain⟨u,rfl,j⟩:=C.one;cases j;obtain⟨d,g,m,R⟩:=I.list F;have y:p<s.heap.objs.size:=by obtain⟨_,e,_⟩:=m.isList;exact ZR e
 refine call_sum_walkG (wpAny_pyIter_list m.isList ⟨s.heap.objs.size,[s.heap.objs.size,p],[s.heap.objs.size],d.toArray.size,_,_,λi=>(ns[i]?).getD 0,rfl,Walks.list (A:=X.A.in1) (I.ok.hd G) _ p (Zc y) d.toArray,
  ⟨⟨_,ZW _ M,rfl,rfl⟩,m.isList.push _⟩,λb hb=>?_,λi v L=>?_,λS P z o=>⟨.int ns.sum,H,I.kept (B9 o),⟨z,?_⟩,q⟩⟩)
 ·rw[Ve];rcases Zk.mp hb with rfl | hb
  ·exact YK _
  ·rw[Ze.mp hb];exact YW y
 ·have f:d[i]?=Z v:=by simpa using L
  cases e:ns[i]? with
  |none =>
   have:=g.none_of (i:=i) (by rw[ZV,e];rfl);rw[this]at f;cases f
  |some n =>
   obtain⟨u,E,j⟩:=g.get (i:=i) (x:=.int n) (by rw[ZV,e];rfl);rw[E]at f;cases f;obtain⟨t,rfl⟩:=j;exact⟨t,by simp[e]⟩
 ·have hlen:d.toArray.size=ns.length:=by have:=g.length;simp at this ⊢;exact Eq.symm this
  have:∀k,k<=ns.length->preSum (λi=>(ns[i]?).getD 0) k=(ns.take k).sum:=λk=>by
   induction k with
   |zero=>intro _;simp[preSum]
   |succ k D =>
    intro o;rw[List.take_succ,List.sum_append,preSum,D (by exact Vi o)];cases e:ns[k]? <;> simp
  rw[hlen,this _ (Zo _),List.take_length]
def xk:OpR X (UF .Gt) (λx y H Q=>∃i j,x=.str i/\y=.str j/\Q (.bl (decide (j.cps.toList<i.cps.toList))) H):=by
 intro d s O H x y v u Q I f e h;obtain⟨i,j,rfl,rfl,q⟩:=h;obtain⟨t,rfl⟩:=f;obtain⟨g,rfl⟩:=e;exact PySem.P.gt_str ⟨.bl _,H,I,rfl,q⟩
def xo:OpR X (UF .GtE) (λx y H Q=>∃i j,x=.str i/\y=.str j/\Q (.bl (!decide (i.cps.toList<j.cps.toList))) H):=by
 intro d s O H x y v u Q I f e h;obtain⟨i,j,rfl,rfl,q⟩:=h;obtain⟨t,rfl⟩:=f;obtain⟨g,rfl⟩:=e;exact PySem.P.ge_str ⟨.bl _,H,I,rfl,q⟩
end
end L2
end
section
namespace VS
open PySem PySem.Spec PyProof.Rows L2
section
def Ew(H:Hp)(s:Tx)(l:mn s):LP G (L2.Ju (sx s)) (s.map λc=>T.str [c]) [] H:=by
 have sz:(sx s).cps.size=s.length:=rfl;refine⟨λo _ _=>⟨λi t h=>?_,λi h=>(by rw[Zy]at h;show (sx s).cps.size<=i;lia)⟩,λa h=>by simp at h⟩;rw[ZV]at h;obtain⟨c,f,rfl⟩:=Zv.mp h;refine⟨(by show i<(sx s).cps.size;have:=(Zb.mp f).1;lia),λx n ⟨e1,g,j,e2⟩=>?_⟩;subst e1;have:g=c:=by
  have m:(sx s).cps[i]?=Z c:=by simp[sx,f]
  rw[m]at j;exact(Zl j).symm
 subst this;rw[e2];exact⟨aG.refl _,[],.str [g] ⟨(by show 1<=eu;decide),λd hd=>by rw[Ze.mp hd];exact l.2 g (YJ f)⟩,λa h=>by simp at h⟩
def eO(w:PV G X a ca)(C:{`q1,X.K=G.K}):PVI G X tg a (g7 ca) :=
 PI.weak (Br w) λO H Rq u=>by
  obtain⟨R,U,m,l,s,e,k⟩:=u;unfold g7 at e;obtain⟨⟨t,x⟩,y,e1⟩:=Zz.mp e;refine⟨R,U,t,x,s,y,λv f F n j q=>?_⟩;cases x with
  |lst r =>
   cases e1;obtain⟨o,g,A,rfl,rfl,d,i⟩:=j.lst_inv;exact .inl ⟨o,rfl,⟨g,Iw.of d⟩,k _ f _ n (vQ X.K d i) q.c⟩
  |tup r =>
   cases e1;obtain⟨o,g,A,rfl,rfl,d,i⟩:=j.JH;exact .inr (.inl ⟨o,rfl,⟨g,Jz.of d⟩,k _ f _ n (EM X.K d i) q.c⟩)
  |str z =>
   cases e1;obtain⟨rfl,ok⟩:=j.str_inv;exact .inr (.inr ⟨_,rfl,k _ f [] n (Ew f z ok) λa h=>by simp at h⟩)
  |_=>cases e1
theorem vF:∀{d:List V}{l:V8}{g:X0}{f:V3},RpL G H d l g->jd l=Z f->d=f.map V.int
 |_,_,_,_,.nil,e=>by cases e;rfl
 |_,_,_,_,.cons (t:=t) r q,e=>by
  cases t with
  |int s =>
   simp only[jd]at e;obtain⟨h,e1,e2⟩:=Zv.mp e;subst e2;rw[vF q e1,r.int_inv];rfl
  |_=>cases e
def FR:d4 G (λd H Q=>∃p,∃ns:V3,d=[.ref p]/\Iw G.K H p (ns.map V.int)/\Q (.int ns.sum) H) B6:=by
 intro R U q H l f j m t Q A e k;unfold B6 at e;split at e
 ·rename_i o x;obtain⟨is,e1,e2⟩:=Zz.mp e;cases e2;obtain⟨v,F,rfl,rfl,g⟩:=(show RpL G H f [.lst x] j from A.rp).one;obtain⟨a,n,r,rfl,rfl,i,h⟩:=g.lst_inv;exact⟨a,is,rfl,by rw[← vF h e1];exact Iw.of i,bw k (.int _)⟩
 ·cases e
def FN:bootBuiltins ("sum" : Str)=Z (.builtin "sum"):=by decide +kernel
def AA:bootBuiltins ("tuple" : Str)=Z (.type "tuple"):=by decide +kernel
def w_sum{X:Cx}(d:X.mg "sum" = Y)(h:Jj G X [e] cs)(f:{`q1,Gl X "sum"})(i:{`q1,X.K=G.K})(g:{`q1,X.calm=B})(he:{`q1,K1 e [] X}):PV G X (.Call (.Name "sum" p) [e] [] pos) (eN B6 cs) :=
 ik (yC g) (i ▸ FR) f d FN h (he:=he) (hpl:=rfl)
def zj:d4 G (λh H Q=>∃p d,h=[.ref p]/\((Iw G.K H p d/\∀l,H l=Y->Q (.ref l) (upd H l (.tup d)))\/(Jz G.K H p d/\Q (.ref p) H))) iy:=by
 intro R U C H l i w m t Q A e k;unfold iy at e;split at e
 ·rename_i y x;split at e
  ·rename_i z;cases e;obtain⟨v,F,rfl,rfl,j⟩:=(show RpL G H i [.lst x] w from A.rp).one;obtain⟨a,d,u,rfl,rfl,s,n⟩:=j.lst_inv;have f:=(A.fp.each 0 _ _ M M).sub (Yc _ _);refine⟨a,d,rfl,.inl ⟨Iw.of s,λq o=>?_⟩⟩;have g:aG H (upd H q (.tup d)):=bG o;have r:Rp G (upd H q (.tup d)) (.ref q) (.tup x) u.flatten:=.tup aj (n.same g);exact k _ _ _ g r (f.up r)
  ·cases e
 ·cases e
def vD{X:Cx}(d:X.mg "tuple" = Y)(g:Jj G X [e] cs)(f:{`q1,Gl X "tuple"})(h:{`q1,X.K=G.K})(he:{`q1,K1 e [] X}):PV G X (.Call (.Name "tuple" p) [e] [] pos) (eN iy cs) :=
 jE oW (h ▸ zj) f d AA g (he:=he) (hpl:=rfl)
def UK:Jt:=λx y H Q=>LU (λi j=>.bl (decide (j<i))) x y H Q\/(∃i j,x=.str i/\y=.str j/\Q (.bl (decide (j.cps.toList<i.cps.toList))) H)
def UL:Jt:=λx y H Q=>LU (λi j=>.bl (decide (j<=i))) x y H Q\/(∃i j,x=.str i/\y=.str j/\Q (.bl (!decide (i.cps.toList<j.cps.toList))) H)
def yn(s t:Tx):decide ((sx s).cps.toList<(sx t).cps.toList)=Mg s t:=by rw[lU];exact decide_eq_decide.mpr (by simp[sx])
def Hj:gv G UK OV:=by
 intro R U i H x y u w l j m t Q d e k;obtain⟨h,x⟩:=x;obtain⟨g,y⟩:=y;obtain⟨same,r1,r2,f1,f2,nd⟩:=d;unfold OV oLt at e;split at e
 ·rename_i e1 e2;cases e1;cases e2;cases e;exact .inl ⟨_,_,r1.int_inv,r2.int_inv,bw k (.bl _)⟩
 ·rename_i s _ f e1 e2;cases e1;cases e2;cases e;refine .inr ⟨_,_,r1.str_inv.1,r2.str_inv.1,?_⟩;rw[yn];exact bw k (.bl _)
 ·cases e
def Hc:gv G UL OW:=by
 intro R U i H x y u w l j m t Q d e k;obtain⟨h,x⟩:=x;obtain⟨g,y⟩:=y;obtain⟨same,r1,r2,f1,f2,nd⟩:=d;unfold OW oLe at e;split at e
 ·rename_i e1 e2;cases e1;cases e2;cases e;exact .inl ⟨_,_,r1.int_inv,r2.int_inv,bw k (.bl _)⟩
 ·rename_i s _ f e1 e2;cases e1;cases e2;cases e;refine .inr ⟨_,_,r1.str_inv.1,r2.str_inv.1,?_⟩;rw[yn];exact bw k (.bl _)
 ·cases e
def AN:Tells OV:=λx y m t e=>kQ y x m t e
def Ag:Tells OW:=λx y m t e=>yw y x m t e
def GI(f:PV G X a ca)(d:PV G X b cb):Kw G X (.Compare a [.Gt] [b] pos) (e2 OV ca cb):=fM (r:=UK) (Hi.or xk) Hj AN f d (lF _)
def FV(f:PV G X a ca)(d:PV G X b cb):Kw G X (.Compare a [.GtE] [b] pos) (e2 OW ca cb):=fM (r:=UL) (GM.or xo) Hc Ag f d (lF _)
def ya(P:gv G r f)(n:gv G A g)(h:tE G (lP f g ca cb cc) O H Q):yh r A (tE G ca) (tE G cb) (tE G cc) O H Q:=by
 obtain⟨R,U,m,t,s,e,k⟩:=h;unfold lP at e;obtain⟨x,ea,e⟩:=Zz.mp e;obtain⟨y,eb,e⟩:=Zz.mp e;obtain⟨⟨S,z⟩,ez,e⟩:=Zz.mp e;refine zY s ea eb λu w H2 F1 C d=>P R U H H2 x y u w F1 C S z _ d ez λv H3 F e1 r1 f1=>?_;cases z with
 |bl q =>
  refine⟨q,r1.JB,?_⟩;cases q with
  |false =>
   cases e;rw[Zm Zf];exact k _ H3 [] (d.same.trans e1) (.bl J) Fp.nil
  |true =>
   rw[Zr M];obtain⟨l,ec,e⟩:=Zz.mp (show (cc U).bind (λz=>g y z)=Z (m,t) from e);have i:=d.same.trans e1;refine⟨R,U,l.1,l.2,s.same i,ec,λD H4 F4 o N j=>?_⟩;refine n R U H H4 y l w D C F4 m t Q ⟨i.trans o,(d.r2.same e1).same o,N,d.f2,j.back i,λhx hy=>?_⟩ e λE H5 F5 e5 L f5=>k E H5 F5 ((i.trans o).trans e5) L f5;have f2:=d.f2;rw[hx]at f2;rw[hy]at j;refine ZL.mpr ⟨f2.1,j.1,λa ha b hb z=>?_⟩;subst z;exact Ip.p0 ((d.r2.same e1).IE a ha) (j.2 a hb)
 |_=>cases e
def vt{X:Cx}{i:Int}(h:∃t,X.mg x=Z (.int i t))(f:{`q1,Gl X x})(g:{`q0,K3 x}):PV G X (.Name x pos) (Q3 i):=by
 obtain⟨t,d⟩:=h;exact CO (v:=.int i) f d ⟨t,rfl⟩ (λH=>.int i) g
end
end VS
end
section
namespace VS
open PySem PySem.Spec PyProof.Rows L2
section
def uC:PV G X (.Dict [] [] pos) (j7 0 []):=PE.weak zR λO H Q d=>by
 obtain⟨R,U,m,t,s,e,k⟩:=d;cases (show Z (Md.fr,T.dct 0 [])=Z (m,t) from e);intro q d;have:Rp G (upd H q (.dK [])) (.ref q) (.dct 0 ((([]:List Key).map aw).zip [])) (q :: ([]:X0).flatten):=.dct aj M .nil;exact k _ _ [q] (bG d) this ⟨by simp,λb hb=>by rw[Ze.mp hb];exact d⟩
end
section
def lE{X:Cx}(hp:PassesOwn (KB X.prog X.w) X.A X.env X.xe)(hc:Kw G X c cc)(hb:gP G X h E):PSV G X (.While c h [] pos) (nI cc E) :=
 PS.weak (zB hp hc hb) λD O H hq=>by
  obtain⟨R,U,o,s,e,k⟩:=hq;refine⟨λn F L=>∃r m,SR G r m F L/\Jd R U H r m L/\fA cc E n m=Z o,⟨AB,R,U,s,Jd.refl R U H,e⟩,?_⟩;rintro n F L ⟨r,m,Q,f2,e2⟩;cases n with
  |zero=>cases (show (Y:Option Out)=Z o from e2)
  |succ n =>
   rw[fA]at e2;obtain⟨⟨mx,x⟩,ex,e3⟩:=Zz.mp e2;obtain⟨t,et,C⟩:=Zz.mp e3;refine⟨r,m,mx,x,t,Q,ex,et,λH3 N=>?_⟩;have P:=Q.same N;have y:Jd R U H r m H3:=f2.trans (Jd.same N);cases t with
   |false =>
    rw[Zm Zf]at C;cases C;show if J=B then _ else _
    rw[Zm Zf];exact k r F H3 P y
   |true =>
    rw[Zr M]at C;show if B=B then _ else _
    rw[Zr M];obtain⟨S,e5,z⟩:=Zz.mp C;refine⟨λi g=>∃f d,SR G f d i g/\Jd R U H f d g/\fA cc E n d=Z o,λi g q=>⟨n,YK n,q⟩,r,m,S,P,e5,?_⟩;cases S with
    |nx d=>exact λf i g j l=>⟨f,d,j,y.trans l,z⟩
    |ct d=>exact λf i g j l=>⟨f,d,j,y.trans l,z⟩
    |bk d =>
     cases (show Z (Out.nx d)=Z o from z);exact λf i g j l=>k f i g j (y.trans l)
    |rt v d =>
     cases (show Z (Out.rt v d)=Z o from z);exact λu g F4 f i j l r5 q5=>k u g F4 f i j (y.trans l) r5 (q5.back y)
noncomputable def Rt:Sx:=λ_=>Y
def uJ:PSV G X f Rt:=λd s O H D I ⟨_,_,_,_,e,_⟩=>nomatch (show (Y:Option Out)=Z _ from e)
def cH(r:Rp G H v (.dct 0 l) F):∃(a:KM)(f:List Key)(d:List V)(g:V8)(i:X0),v=.ref a/\F=a :: i.flatten/\H a=Z (.dK (f.zip d))/\f.length=d.length/\l=(f.map aw).zip g/\RpL G H d g i:=by
 cases r with
 |dct h j q=>exact⟨_,_,_,_,_,rfl,rfl,h,j,rfl,q⟩
def c9(r:Rp G H v t F)(h:gr t=B):∃k:Key,v=kV k/\t=aw k:=by
 cases t with
 |int i=>exact⟨.inl i,r.int_inv,rfl⟩
 |str s=>exact⟨.inr (sx s),r.str_inv.1,by simp[aw,sx]⟩
 |_=>cases h
theorem jG{k:Key}:∀{d:List Key}{f:List V}{ts:V8}{Fs:X0},d.length=f.length->RpL G H f ts Fs →
  (cP ((d.map aw).zip ts) (aw k)=Y/\cG (d.zip f) k=Y)\/∃(i:Nat)(v:V)(t:T)(F:Wa),cP ((d.map aw).zip ts) (aw k)=Z t/\cG (d.zip f) k=Z v/\f[i]?=Z v/\Fs[i]?=Z F/\Rp G H v t F
 |[],[],_,_,_,.nil=>.inl ⟨rfl,rfl⟩
 |k' :: d,v :: f,_,_,o,.cons (t:=t) (F:=F) (ts:=ts) (Fs:=Fs) r q=>by
  have e:eqT (aw k') (aw k)=decide (k'=k):=by
   rw[XA,decide_eq_true_eq];cases k with
   |inl i=>cases k'<;>simp[aw]
   |inr x =>
    obtain⟨⟨x⟩⟩:=x;cases k' with
    |inl j=>simp[aw]
    |inr y=>obtain⟨⟨y⟩⟩:=y;simp[aw]
  by_cases g:k'=k
  ·refine .inr ⟨0,v,t,F,?_,cx g,rfl,rfl,r⟩;have l:eqT (aw k') (aw k)=B:=by rw[e];exact decide_eq_true g
   simp only[cP,Zn,ZU,Z9,l];rfl
  ·have u:cP (((k' :: d).map aw).zip (t :: ts)) (aw k)=cP ((d.map aw).zip ts) (aw k):=by
    have l:eqT (aw k') (aw k)=J:=by rw[e];exact ZI g
    simp only[cP,Zn,ZU,Z9,l]
   have s:cG ((k' :: d).zip (v :: f)) k=cG (d.zip f) k:=by simp[cG,g]
   rw[u,s];rcases jG (k:=k) (by simpa using o) q with h | ⟨i,m,n,E,D,C,A,z,w⟩
   ·exact .inl h
   ·exact .inr ⟨i+1,m,n,E,D,C,by simpa using A,by simpa using z,w⟩
def qB{X:Cx}(m:X.A.units+1<cLine):Ml X (λx y H Q=>∃a v,x=.ref a/\ip H a y (Z v)/\Q v H):=by
 intro value slice d s O H x y v u Q I l j h n;obtain⟨a,w,rfl,g,q⟩:=h;cases l;have f:=rY I g;unfold subscriptTail;refine Zu ?_;rw[getitemInPython_of_ne f.not_modules];refine Zu (WV f PySem.F.slot_dict_getitem.lookup ?_);have fin:PP (KB X.prog X.w) X.A (subscripted slice J (.ref a) u) (λr i=>PP (KB X.prog X.w) X.A (letTemporaryGo value (.ref a) r >>= λ_=>pure r) (EP X d O Q) X.xe i) X.xe s:=by
  rw[n];exact wpAny_operating (wZ m I g j λz C t o=>Zu (wpAny_letTemporaryGo (Zh ⟨w,H,t,o,q⟩)))
 first
  |exact Zh (Zu fin)
  |exact Zu (Zh (Zu fin))
  |exact Zu fin
def Gh(K:X6):Jt:=λx y H Q=>Si K x y H Q\/∃a v,x=.ref a/\ip H a y (Z v)/\Q v H
def He:gv G (Gh G.K) JS:=by
 intro R U L H x y u w N M m t Q d e k;obtain⟨g,x⟩:=x;by_cases hd:∃l,x=.dct 0 l
 ·obtain⟨l,rfl⟩:=hd;simp only[JS]at e;split at e
  ·rename_i o;obtain⟨t',e1,e2⟩:=Zv.mp e;obtain⟨a,ks,O,P,Fs,rfl,rfl,r,n,rfl,q⟩:=cH d.r1;obtain⟨j,rfl,z⟩:=c9 d.r2 o;rw[z]at e1;rcases jG (k:=j) n q with⟨s,_⟩ | ⟨i,v,S,F,E,D,a3,C,h⟩
   ·rw[s]at e1;cases e1
   ·rw[E]at e1;cases e1;cases e2;refine .inr ⟨a,v,rfl,by rw[← D];exact ip.k r,?_⟩;have f:=((d.f1.sub (Yc _ _)).sub (cV C)).up h;exact k v H F (aG.refl _) h f
  ·cases e
 ·have A:aD (g,x) y=Z (m,t):=by
   simp only[JS]at e;split at e
   ·rename_i l hx;exact absurd ⟨_,rfl⟩ hd
   ·exact e
  exact .inl (yH R U L H (g,x) y u w N M m t Q d A k)
def p5{X:Cx}(f:xa k X.A)(i:PV G X a ca)(g:PV G X b cb)(d:kj b:=by intro _ _;rfl)(j:{`q1,X.K=G.K}):PV G X (.Subscript a b pos) (e2 JS ca cb) :=
 PE.weak (vo (Ml.or qT (qB (kU f))) i g d) λO H Q h=>by rw[j];exact nB He h
def fV:T->V
 |.bl b=>.bl b
 |.int i=>.int i
 |.str s=>.str (sx s)
 |_=>.non
def C6(r:Rp G H v t F)(h:flat t=B):v=fV t/\fG v=B:=by
 cases r with
 |non=>exact⟨rfl,rfl⟩
 |bl b=>exact⟨rfl,rfl⟩
 |int i=>exact⟨rfl,rfl⟩
 |str s d=>exact⟨rfl,rfl⟩
 |_=>cases h
theorem Hm:∀{t u:T},flat t=B->flat u=B->MY (fV t) (fV u)=eqT t u
 |.non,.non,_,_=>rfl
 |.non,.bl _,_,_=>rfl
 |.non,.int _,_,_=>rfl
 |.non,.str _,_,_=>rfl
 |.bl _,.non,_,_=>rfl
 |.bl _,.bl _,_,_=>rfl
 |.bl _,.int _,_,_=>rfl
 |.bl _,.str _,_,_=>rfl
 |.int _,.non,_,_=>rfl
 |.int _,.bl _,_,_=>rfl
 |.int _,.int _,_,_=>rfl
 |.int _,.str _,_,_=>rfl
 |.str _,.non,_,_=>rfl
 |.str _,.bl _,_,_=>rfl
 |.str _,.int _,_,_=>rfl
 |.str _,.str _,_,_=>yj
def ze(r:Rp G H v t F)(g:Rp G H w u h)(f:flat t=B)(d:flat u=B):MY v w=eqT t u/\fG v=B/\fG w=B:=by
 obtain⟨e1,f1⟩:=C6 r f;obtain⟨e2,f2⟩:=C6 g d;refine⟨?_,f1,f2⟩;rw[e1,e2];exact Hm f d
theorem qG(r:Rp G H x t F)(g:flat t=B):∀{d:List V}{f:V8}{m:X0},RpL G H d f m->f.all flat=B->d.all fG=B/\P8 x d=f.any λy=>eqT y t
 |_,_,_,.nil,_=>⟨rfl,rfl⟩
 |_,_,_,.cons j q,h=>by
  rw[WO,ZS]at h;obtain⟨l,i⟩:=qG r g q h.2;obtain⟨e1,e2,n⟩:=ze j r h.1 g;refine⟨by rw[WO,e2,l];rfl,?_⟩;unfold P8 at i ⊢;rw[Xu,Xu,i,e1]
def Hk(K:X6):Jt:=λx y H Q=>Rv K J x y H Q\/∃a o,y=.ref a/\ip H a x o/\Q (.bl o.isSome) H
def vd(K:X6):Jt:=λx y H Q=>Rv K B x y H Q\/∃a o,y=.ref a/\ip H a x o/\Q (.bl (!o.isSome)) H
def A8{X:Cx}(j:X.A.units+1<cLine):OpR X (UF .In) (λx y H Q=>∃a o,y=.ref a/\ip H a x o/\Q (.bl o.isSome) H):=by
 intro d s O H x y v u Q I i f h;obtain⟨a,o,rfl,g,q⟩:=h;cases f;exact Ij j I g i λm l=>⟨.bl o.isSome,H,l,rfl,q⟩
def zO{X:Cx}(j:X.A.units+1<cLine):OpR X (UF .NotIn) (λx y H Q=>∃a o,y=.ref a/\ip H a x o/\Q (.bl (!o.isSome)) H):=by
 intro d s O H x y v u Q I i f h;obtain⟨a,o,rfl,g,q⟩:=h;cases f;exact AX j I g i λm l=>⟨.bl (!o.isSome),H,l,rfl,q⟩
def t6(f:Rc G R U N H x y u w P O)(e:mG x y=Z (m,t)) :
  ∃b,m=.fr/\t=.bl b/\((∃p n,w=.ref p/\(Iw G.K H p n\/Jz G.K H p n)/\fG u=B/\n.all fG=B/\P8 u n=b)\/∃a o,w=.ref a/\ip H a u o/\o.isSome=b):=by
 obtain⟨m2,y⟩:=y;simp only[mG]at e;split at e
 ·split at e
  ·rename_i d;cases e;obtain⟨a,C,g,Q,A,rfl,rfl,h,D,rfl,q⟩:=cH f.r2;obtain⟨z,rfl,E⟩:=c9 f.r1 d;refine⟨_,rfl,rfl,.inr ⟨a,cG (C.zip g) z,rfl,ip.k h,?_⟩⟩;rw[E];rcases jG (k:=z) D q with⟨l,j⟩ | ⟨i,v,S,F,M,L,_⟩
   ·rw[l,j];rfl
   ·rw[M,L];rfl
  ·cases e
 ·split at e
  ·rename_i d;cases e;rw[ZS]at d;obtain⟨a,g,A,rfl,rfl,h,r⟩:=f.r2.lst_inv;obtain⟨l,j⟩:=qG f.r1 d.1 r d.2;have s:fG u=B:=(ze f.r1 f.r1 d.1 d.1).2.1;exact⟨_,rfl,rfl,.inl ⟨a,g,rfl,.inl (Iw.of h),s,l,j⟩⟩
  ·cases e
 ·split at e
  ·rename_i d;cases e;rw[ZS]at d;obtain⟨a,g,A,rfl,rfl,h,r⟩:=f.r2.JH;obtain⟨l,j⟩:=qG f.r1 d.1 r d.2;have s:fG u=B:=(ze f.r1 f.r1 d.1 d.1).2.1;exact⟨_,rfl,rfl,.inl ⟨a,g,rfl,.inr (Jz.of h),s,l,j⟩⟩
  ·cases e
 ·cases e
def Gc:gv G (Hk G.K) mG:=by
 intro R U j H x y u w n l m t Q f e k;obtain⟨b,rfl,rfl,h⟩:=t6 f e;rcases h with⟨p,d,rfl,i,f1,f2,hb⟩ | ⟨a,o,rfl,g,hb⟩
 ·refine .inl ⟨p,d,rfl,i,f1,f2,?_⟩;rw[hb];exact bw k (.bl b)
 ·refine .inr ⟨a,o,rfl,g,?_⟩;rw[hb];exact bw k (.bl b)
def Ek:gv G (vd G.K) dh:=by
 intro R U r H x y u w v s m t Q i e k;unfold dh at e;split at e
 ·rename_i q d l;cases e;obtain⟨b,rfl,n,h⟩:=t6 i l;cases n;rcases h with⟨p,f,rfl,j,f1,f2,hb⟩ | ⟨a,o,rfl,g,hb⟩
  ·refine .inl ⟨p,f,rfl,j,f1,f2,?_⟩;rw[hb];exact bw k (.bl (!d))
  ·refine .inr ⟨a,o,rfl,g,?_⟩;rw[hb];exact bw k (.bl (!d))
 ·cases e
def yd:Tells mG:=by
 intro x y m t e;simp only[mG]at e;split at e
 all_goals first | (split at e<;>first | (cases e;exact⟨_,rfl⟩) | cases e) | cases e
def xA:Tells dh:=by
 intro x y m t e;unfold dh at e;split at e
 ·cases e;exact⟨_,rfl⟩
 ·cases e
def Dq{X:Cx}(d:xa k X.A)(h:PV G X a ca)(g:PV G X b cb)(f:{`q3,behindInMarks .In b=J})(i:{`q1,X.K=G.K}):Kw G X (.Compare a [.In] [b] pos) (e2 mG ca cb):=fM (r:=Hk X.K) (xq.or (A8 (kU d))) (i ▸ Gc) yd h g f
def ux{X:Cx}(d:xa k X.A)(h:PV G X a ca)(g:PV G X b cb)(f:{`q3,behindInMarks .NotIn b=J})(i:{`q1,X.K=G.K}):Kw G X (.Compare a [.NotIn] [b] pos) (e2 dh ca cb):=fM (r:=vd X.K) (qb.or (zO (kU d))) (i ▸ Ek) xA h g f
end
end VS
end
section
open PySem PyProof.Rows
namespace TS
noncomputable def qS:Bool->Pi->Array Pi->Nat->Nat->Nat->StateT SC Sem (Option Nat):=sortPriv% PySem.Builtin.gallop
noncomputable def oN:Array Pi->Array Pi->StateT SC Sem (Array Pi):=sortPriv% PySem.Builtin.mergeLo
noncomputable def nK:Array Pi->Array Pi->StateT SC Sem (Array Pi):=sortPriv% PySem.Builtin.mergeHi
def all2{e d:Type}{P:e×d->Prop}(h:∀b a,P (b,a)):∀x,P x:=λ(b,a)=>h b a
def iV{g f e:Type}{P:g×f×e->Prop}(h:∀d b a,P (d,b,a)):∀x,P x:=λ(d,b,a)=>h d b a
def xx{m l j i g:Type}{P:m×l×j×i×g->Prop}(h:∀f e d b a,P (f,e,d,b,a)):∀x,P x:=λ(f,e,d,b,a)=>h f e d b a
def tV{o n m l j i:Type}{P:o×n×m×l×j×i->Prop}(h:∀g f e d b a,P (g,f,e,d,b,a)):∀x,P x:=λ(g,f,e,d,b,a)=>h g f e d b a
def Bw{q p o n m l j:Type}{P:q×p×o×n×m×l×j->Prop}(h:∀i g f e d b a,P (i,g,f,e,d,b,a)):∀x,P x:=λ(i,g,f,e,d,b,a)=>h i g f e d b a
structure JO(prog:Re)(w:XAA)(A:SB)(E:Yy)(s:IR)(κ:SortKind)(G:Pi->Prop)(r:Pi->Pi->Bool):Prop where
 run:∀(st:SC)(x y:Pi)(Q:Option Bool->SC->Prop),kindOf st=κ->G x->G y->Q (some (r x y)) st->wpS (KB prog w) A E s (lt' x y) Q st
 Ra:∀x y,G x->G y->r x y=true->r y x=false
 trans:∀x y z,G x->G y->G z->r y x=false->r z y=false->r z x=false
variable{κ:SortKind}
noncomputable def le(r:Pi->Pi->Bool)(x y:Pi):Prop:=r y x=J
def dY{a:Array Pi}(d:i<a.size)(h:Q a[i] b):wpS (KB prog w) A E s (elem' a i) Q b:=by
 rw[elem'_eq,getElem?_pos a i d];exact Zi h
noncomputable def Mj(r:Pi->Pi->Bool)(left:Bool)(a x:Pi):Bool:=if left then r x a else !(r a x)
noncomputable def bf(left:Bool)(a:Pi)(b:Array Pi)(i:Nat):StateT SC Sem (Option Bool):=do
 let x ← elem' b i
 if left=B then lt' x a else do
  let l ← lt' a x
  pure (Option.map (λx=>!x) l)
def kS(C:JO prog w A E s κ G r)(e:kindOf d=κ)(j:G b)(l:∀x∈a,G x)(f:i<a.size)(h:Q (Z (Mj r left b a[i])) d) :
  wpS (KB prog w) A E s (bf left b a i) Q d:=by
 unfold bf;refine ZX (dY f ?_);have g:=l _ (Zg f);cases left with
 |true=>exact C.run d _ _ _ e g j h
 |false=>exact ZX (C.run d _ _ _ e j g (Zi h))
def uF(C:JO prog w A E s κ G r)(P:kindOf y=κ)(gk:G v)(ga:∀x∈d,G x)(hb:b+n<=d.size)(hh:a<n)(L:∀i j (g:b+i<d.size) (hj:b+j<d.size),i<=j->j<n->Mj r left v d[b+j]=B->Mj r left v d[b+i]=B)(h:∀k,k<=n->(∀i (g:b+i<d.size),i<k->Mj r left v d[b+i]=B)->(∀i (g:b+i<d.size),k<=i->i<n->Mj r left v d[b+i]=J)->Q (Z k) y) :
  wpS (KB prog w) A E s (qS left v d b n a) Q y:=by
 obtain⟨f,H⟩:∃f:Nat->Bool,∀i (g:b+i<d.size),f i=Mj r left v d[b+i]:=⟨λi=>if g:b+i<d.size then Mj r left v d[b+i] else J,λi g=>dif_pos g⟩
 have N:∀i j,i<=j->j<n->f j=B->f i=B:=λi j LF hj e=>by
  rw[H j (by lia)]at e;rw[H i (by lia)];exact L i j (by lia) (by lia) LF hj e
 have fin:∀k,k<=n->(∀i,i<k->f i=B)->(∀i,k<=i->i<n->f i=J)->Q (Z k) y:=λk X U S =>
  h k X (λi g NS=>by rw[← H i g];exact U i NS) λi g R h5=>by rw[← H i g];exact S i R h5
 clear h L;unfold qS;change wpS (KB prog w) A E s (_>>=_) Q y;dsimp only;have h0:b+a<d.size:=by lia
 refine ZX (kS C P gk ga h0 ?_);dsimp only;rw[← H _ h0];cases e0:f a with
 |true =>
  rw[Zr M];refine ZX (Xl (Yb
   (I:=λx c o=>y=o/\c.1=Y/\f (a+c.2.1)=B/\c.2.1<c.2.2/\a+c.2.1<n/\x<c.2.2)
   (Q:=λc o=>y=o/\c.1=Y/\f (a+c.2.1)=B/\c.2.1<c.2.2/\a+c.2.1<n/\(a+c.2.2<n->f (a+c.2.2)=J)) ?step1 ?fin1 ?init1) ?post1)
  case init1=>exact⟨rfl,rfl,e0,by decide,by dsimp only;omega,by decide⟩
  case fin1 =>
   refine iV λF q p=>?_;rintro o ⟨rfl,e1,u,m,l,t⟩;dsimp only at *;exact⟨rfl,e1,u,m,l,λz=>by(try dsimp only at z);lia⟩
  case step1 =>
   intro x;refine iV λF q p=>?_;rintro o _ hx ⟨rfl,e1,u,m,l,t⟩;dsimp only at *;split
   ·exact Zi ⟨rfl,rfl,u,m,l,λz=>by(try dsimp only at z);lia⟩
   ·have D:b+(a+p)<d.size:=by lia
    refine ZX (kS C P gk ga D ?_);dsimp only;rw[← H _ D];cases e:f (a+p) with
    |true=>exact Zi ⟨rfl,rfl,e,by dsimp only;lia,by dsimp only;lia,by dsimp only;lia⟩
    |false=>exact Zi ⟨rfl,rfl,u,m,l,λ_=>e⟩
  case post1 =>
   refine iV λF q p=>?_;rintro o ⟨rfl,e1,u,m,l,t⟩;dsimp only at *;subst e1;dsimp only;have X:a+q+1<=a+min p (n-a):=by omega
   have U:a+min p (n-a)<=n:=by omega
   have S:∀i,i<a+q+1->f i=B:=λi g=>N i _ (by exact YS g) (by omega) u;have R:∀i,a+min p (n-a)<=i->i<n->f i=J:=λi g O=>by
    cases e2:f i with
    |false=>rfl
    |true =>
     have:=t (by lia);rw[N _ i (by lia) O e2]at this;cases this
   clear u m l t;refine ZX (Xl (Yb
    (I:=λx c o=>y=o/\c.1=Y/\c.2.1<=c.2.2/\c.2.2<=n/\(∀i,i<c.2.1->f i=B)/\(∀i,c.2.2<=i->i<n->f i=J)/\c.2.2-c.2.1+x<=n)
    (Q:=λc o=>y=o/\c.1=Y/\c.2.1=c.2.2/\c.2.2<=n/\(∀i,i<c.2.1->f i=B)/\(∀i,c.2.2<=i->i<n->f i=J)) ?step ?fin ?init) ?post)
   case init=>exact⟨rfl,rfl,X,U,S,R,by(try dsimp only);omega⟩
   case fin =>
    refine iV λF q p=>?_;rintro o ⟨rfl,e1,u,m,l,t,g5⟩
    try dsimp only at *
    exact⟨rfl,e1,by(try dsimp only at *);lia,m,l,t⟩
   case step =>
    intro x;refine iV λF q p=>?_;rintro o _ hx ⟨rfl,e1,u,m,l,t,g5⟩
    try dsimp only at *
    split
    ·exact Zi ⟨rfl,rfl,by(try dsimp only at *);lia,m,l,t⟩
    ·have D:b+(q+(p-q)/2)<d.size:=by lia
     refine ZX (kS C P gk ga D ?_)
     try dsimp only
     rw[← H _ D];cases e:f (q+(p-q)/2) with
     |true =>
      rw[Zr M];exact Zi ⟨rfl,rfl,by(try dsimp only);lia,m,λi g=>N i _ (by(try dsimp only at g);exact YS g) (by lia) e,t,by(try dsimp only);lia⟩
     |false =>
      rw[Zm Zf];refine Zi ⟨rfl,rfl,by(try dsimp only);exact ZJ _ _,by(try dsimp only);lia,l,λi g O=>?_,by(try dsimp only);omega⟩
      try dsimp only at g
      cases e2:f i with
      |false=>rfl
      |true=>rw[N _ i g O e2]at e;cases e
   case post =>
    refine iV λF q p=>?_;rintro o ⟨rfl,e1,u,m,l,t⟩
    try dsimp only at *
    subst e1;exact Zi (fin p m (λi g=>l i (by lia)) t)
 |false =>
  rw[Zm Zf];refine ZX (Xl (Yb
   (I:=λx c o=>y=o/\c.1=Y/\f (a-c.2.1)=J/\c.2.1<c.2.2/\c.2.1<=a/\x<c.2.2)
   (Q:=λc o=>y=o/\c.1=Y/\f (a-c.2.1)=J/\c.2.1<c.2.2/\c.2.1<=a/\(c.2.2<=a->f (a-c.2.2)=B)) ?step1 ?fin1 ?init1) ?post1)
  case init1=>exact⟨rfl,rfl,e0,by decide,by dsimp only;exact ZO _,by decide⟩
  case fin1 =>
   refine iV λF q p=>?_;rintro o ⟨rfl,e1,u,m,l,t⟩;dsimp only at *;exact⟨rfl,e1,u,m,l,λz=>by(try dsimp only at z);lia⟩
  case step1 =>
   intro x;refine iV λF q p=>?_;rintro o _ hx ⟨rfl,e1,u,m,l,t⟩;dsimp only at *;split
   ·exact Zi ⟨rfl,rfl,u,m,l,λz=>by(try dsimp only at z);lia⟩
   ·have D:b+(a-p)<d.size:=by lia
    refine ZX (kS C P gk ga D ?_);dsimp only;rw[← H _ D];cases e:f (a-p) with
    |true=>exact Zi ⟨rfl,rfl,u,m,l,λ_=>e⟩
    |false=>exact Zi ⟨rfl,rfl,e,by dsimp only;lia,by dsimp only;lia,by dsimp only;lia⟩
  case post1 =>
   refine iV λF q p=>?_;rintro o ⟨rfl,e1,u,m,l,t⟩;dsimp only at *;subst e1;dsimp only;have X:a+1-min p (a+1)<=a-q:=by omega
   have U:a-q<=n:=by lia
   have S:∀i,i<a+1-min p (a+1)->f i=B:=λi g=>N i _ (by omega) (by omega) (t (by omega));have R:∀i,a-q<=i->i<n->f i=J:=λi g O=>by
    cases e2:f i with
    |false=>rfl
    |true=>rw[N _ i (by omega) O e2]at u;cases u
   clear u m l t;refine ZX (Xl (Yb
    (I:=λx c o=>y=o/\c.1=Y/\c.2.1<=c.2.2/\c.2.2<=n/\(∀i,i<c.2.1->f i=B)/\(∀i,c.2.2<=i->i<n->f i=J)/\c.2.2-c.2.1+x<=n)
    (Q:=λc o=>y=o/\c.1=Y/\c.2.1=c.2.2/\c.2.2<=n/\(∀i,i<c.2.1->f i=B)/\(∀i,c.2.2<=i->i<n->f i=J)) ?step ?fin ?init) ?post)
   case init=>exact⟨rfl,rfl,X,U,S,R,by(try dsimp only);omega⟩
   case fin =>
    refine iV λF q p=>?_;rintro o ⟨rfl,e1,u,m,l,t,g5⟩
    try dsimp only at *
    exact⟨rfl,e1,by(try dsimp only at *);lia,m,l,t⟩
   case step =>
    intro x;refine iV λF q p=>?_;rintro o _ hx ⟨rfl,e1,u,m,l,t,g5⟩
    try dsimp only at *
    split
    ·exact Zi ⟨rfl,rfl,by(try dsimp only at *);lia,m,l,t⟩
    ·have D:b+(q+(p-q)/2)<d.size:=by lia
     refine ZX (kS C P gk ga D ?_)
     try dsimp only
     rw[← H _ D];cases e:f (q+(p-q)/2) with
     |true =>
      rw[Zr M];exact Zi ⟨rfl,rfl,by(try dsimp only);lia,m,λi g=>N i _ (by(try dsimp only at g);exact YS g) (by lia) e,t,by(try dsimp only);lia⟩
     |false =>
      rw[Zm Zf];refine Zi ⟨rfl,rfl,by(try dsimp only);exact ZJ _ _,by(try dsimp only);lia,l,λi g O=>?_,by(try dsimp only);omega⟩
      try dsimp only at g
      cases e2:f i with
      |false=>rfl
      |true=>rw[N _ i g O e2]at e;cases e
   case post =>
    refine iV λF q p=>?_;rintro o ⟨rfl,e1,u,m,l,t⟩
    try dsimp only at *
    subst e1;exact Zi (fin p m (λi g=>l i (by lia)) t)
end TS
end
section
open PySem PyProof.Rows
namespace TS
variable{κ:SortKind}
def JO.refl(C:JO prog w A E s κ G r)(h:G x):le r x x:=by
 unfold le;cases e:r x x with
 |false=>rfl
 |true=>exact absurd (C.Ra x x h h e) (by rw[e];exact λz=>nomatch z)
def JO.tr(C:JO prog w A E s κ G r)(d:G x)(b:G y)(a:G z)(f:le r x y)(e:le r y z):le r x z:=C.trans x y z d b a f e
def JO.Kb(C:JO prog w A E s κ G r)(b:G x)(a:G y)(h:r x y=B):le r x y:=C.Ra x y b a h
def Seg(r:Pi->Pi->Bool)(a:Array Pi)(b d:Nat):Prop:=∀i j (f:i<a.size) (e:j<a.size),b<=i->i<=j->j<d->le r a[i] a[j]
def gC(C:JO prog w A E s κ G r){hint:Nat}(v:kindOf m=κ)(l:G d)(t:∀x∈b,G x)(z:a+n<=b.size)(y:hint<n)(u:Seg r b a (a+n))(h:∀k,k<=n->(∀i (f:i<b.size),a<=i->i<a+k->le r b[i] d)->(∀i (f:i<b.size),a+k<=i->i<a+n->le r d b[i])->Q (Z k) m) :
  wpS (KB prog w) A E s (qS left d b a n hint) Q m:=by
 have g:∀i (f:i<b.size),G b[i]:=λi f=>t _ (Zg f);refine uF C v l t z y (λi j f o P O e=>?_) λk L H F=>h k L (λi f q D=>?_) λi f q D=>?_
 ·have s1:=u (a+i) (a+j) f o (by exact ZJ _ _) (by lia) (by lia);cases left with
  |true =>
   unfold Mj at e ⊢;rw[Zr M]at e ⊢;cases e2:r b[a+i] d with
   |true=>rfl
   |false=>rw[show r b[a+j] d=J from C.tr l (g _ f) (g _ o) e2 s1]at e;cases e
  |false =>
   unfold Mj at e ⊢;rw[Zm Zf]at e ⊢;have N:r d b[a+j]=J:=by simpa using e
   have:=C.tr (g _ f) (g _ o) l s1 N;rw[show r d b[a+i]=J from this];rfl
 ·have e:=H (i-a) (by lia) (by lia);have p:a+(i-a)=i:=by exact Vh q
  simp only[p]at e;cases left with
  |true =>
   unfold Mj at e;rw[Zr M]at e;exact C.Kb (g _ f) l e
  |false =>
   unfold Mj at e;rw[Zm Zf]at e;show r d b[i]=J;simpa using e
 ·have e:=F (i-a) (by lia) (by lia) (by omega);have p:a+(i-a)=i:=by lia
  simp only[p]at e;cases left with
  |true =>
   unfold Mj at e;rw[Zr M]at e;exact e
  |false =>
   unfold Mj at e;rw[Zm Zf]at e;exact C.Kb l (g _ f) (by simpa using e)
def ua{a:Array Pi}(h:x∈a.toList.drop i):∃j,∃(d:j<a.size),i<=j/\a[j]=x:=by
 obtain⟨k,b,e⟩:=Yt h;rw[Z2]at b;rw[XX]at e;have:i+k<a.size:=by simpa using(by omega:i+k<a.toList.length)
 exact⟨i+k,this,by exact ZJ _ _,by simpa using e⟩
def kD{a:Array Pi}(h:x∈(a.toList.drop i).take k):∃j,∃(d:j<a.size),i<=j/\j<i+k/\a[j]=x:=by
 obtain⟨m,b,e⟩:=Yt h;rw[Z8,Z2]at b;rw[XY,XX]at e;have:i+m<a.size:=by simpa using(by omega:i+m<a.toList.length)
 exact⟨i+m,this,by exact ZJ _ _,by lia,by simpa using e⟩
def vi{a:Array Pi}(h:i<a.size):a.toList.drop i=a[i] :: a.toList.drop (i+1):=by
 have:i<a.toList.length:=by simpa using h
 rw[Xo this];simp
def jc(h:Seg r a 0 a.size):a.toList.Pairwise (le r):=by
 rw[YD];intro i j d b e;simpa using h i j (by simpa using d) (by simpa using b) (ZO _) (by exact ZF e) (by simpa using b)
def zA(C:JO prog w A E s κ G r)(f:∀x∈a,G x)(h:a.toList.Pairwise (le r)):Seg r a 0 a.size:=by
 intro i j d e _ g _;rcases WI i j with l | b
 ·have:=YD.mp h i j (by simpa using d) (by simpa using e) l;simpa using this
 ·have:i=j:=by exact WB g b
  subst this;exact C.refl (f _ (Zg d))
structure MI(r:Pi->Pi->Bool)(a b out:Array Pi)(ia ib:Nat):Prop where
 pm:(out.toList++(a.toList.drop ia++b.toList.drop ib)).Perm (a.toList++b.toList)
 so:out.toList.Pairwise (le r)
 la:∀x∈out.toList,∀y∈a.toList.drop ia,le r x y
 lb:∀x∈out.toList,∀y∈b.toList.drop ib,le r x y
def MR(r:Pi->Pi->Bool)(a b d:Array Pi):Prop:=d.toList.Perm (a.toList++b.toList)/\d.toList.Pairwise (le r)
theorem MI.size{a out:Array Pi}(m:MI r a b out e d)(g:e<=a.size)(f:d<=b.size):out.size+(a.size-e)+(b.size-d)=a.size+b.size:=by
 have:=m.pm.length_eq;simp at this;lia
def MI.LL{k:Nat}(m:MI r a b f d l)(p:Seg r a 0 a.size)(q:∀i (o:i<a.size),d<=i->i<d+k->∀j (n:j<b.size),l<=j->le r a[i] b[j]) :
  MI r a b (f++a.extract d (d+k)) (d+k) l:=by
 have e1:(f++a.extract d (d+k)).toList=f.toList++(a.toList.drop d).take k:=by
  simp[List.extract_eq_drop_take]
 have e2:a.toList.drop d=(a.toList.drop d).take k++a.toList.drop (d+k):=by
  rw[← List.drop_drop];exact(YC _ _).symm
 have h:(a.toList.drop d).Pairwise (le r):=(jc p).drop;rw[e2,Z6]at h;refine⟨?_,?_,?_,?_⟩
 ·rw[e1];have:=m.pm;rw[e2]at this;simpa[ZZ] using this
 ·rw[e1,Z6];refine⟨m.so,h.1,λx e y g=>m.la x e y ?_⟩;exact Y2 g
 ·rw[e1];intro x e y g;rcases Zd.mp e with e | e
  ·exact m.la x e y (by rw[e2];exact ZP _ g)
  ·exact h.2.2 x e y g
 ·rw[e1];intro x e y g;rcases Zd.mp e with e | e
  ·exact m.lb x e y g
  ·obtain⟨i,o,v,u,rfl⟩:=kD e;obtain⟨j,n,t,rfl⟩:=ua g;exact q i o v u j n t
def MI.swap(m:MI r a b d f e):MI r b a d e f :=
 ⟨((YB.append_left _).trans m.pm).trans YB,m.so,m.lb,m.la⟩
def MI.MQ{k:Nat}(m:MI r a b e f d)(g:Seg r b 0 b.size)(h:∀i (n:i<b.size),d<=i->i<d+k->∀j (l:j<a.size),f<=j->le r b[i] a[j]) :
  MI r a b (e++b.extract d (d+k)) f (d+k):=(m.swap.LL g h).swap
def yW{a b:Array Pi}(h:i<a.size):b.push a[i]=b++a.extract i (i+1):=by
 apply Array.ext';have:(a.extract i (i+1)).toList=[a[i]]:=by
  have e:i<a.toList.length:=by simpa using h
  simp[List.extract_eq_drop_take,Xo e]
 rw[YX,this,Vd]
def MI.IV(m:MI r a b e d f)(l:Seg r a 0 a.size)(h:d<a.size)(n:∀j (g:j<b.size),f<=j->le r a[d] b[j]):MI r a b (e.push a[d]) (d+1) f:=by
 rw[yW h];refine m.LL l λi p t q j g o=>?_;have:i=d:=by lia
 subst this;exact n j g o
def MI.JZ(m:MI r a b d f e)(g:Seg r b 0 b.size)(h:e<b.size)(i:∀j (l:j<a.size),f<=j->le r b[e] a[j]):MI r a b (d.push b[e]) f (e+1):=(m.swap.IV g h i).swap
def mM{a:Array Pi}:(a.extract i a.size).toList=a.toList.drop i:=by
 rw[Wh,List.extract_eq_drop_take,Yk (by simp)]
def MI.fin(m:MI r a b d g f)(n:Seg r a 0 a.size)(l:Seg r b 0 b.size)(h:g=a.size\/f=b.size):MR r a b (d++a.extract g a.size++b.extract f b.size):=by
 have e:(d++a.extract g a.size++b.extract f b.size).toList=d.toList++(a.toList.drop g++b.toList.drop f):=by
  rw[YX,YX,mM,mM,ZZ]
 refine⟨by rw[e];exact m.pm,?_⟩;rw[e,Z6];refine⟨m.so,?_,λx j y i=>?_⟩
 ·rcases h with h | h
  ·rw[YG (as:=a.toList) (by simp[h]),Yg];exact(jc l).drop
  ·rw[YG (as:=b.toList) (by simp[h]),ZM];exact(jc n).drop
 ·rcases Zd.mp i with i | i
  ·exact m.la x j y i
  ·exact m.lb x j y i
def MI.last(m:MI r a b d f i)(o:Seg r b 0 b.size)(h:f+1=a.size)(p:∀j (n:j<b.size),le r b[j] a[f]):MR r a b (d++b.extract i b.size++a.extract f a.size):=by
 have e:(d++b.extract i b.size++a.extract f a.size).toList=d.toList++(b.toList.drop i++a.toList.drop f):=by
  rw[YX,YX,mM,mM,ZZ]
 have e2:a.toList.drop f=[a[f]]:=by rw[vi (by omega),YG (by simp;lia)]
 refine⟨by rw[e];exact(YB.append_left _).trans m.pm,?_⟩;rw[e,Z6];refine⟨m.so,?_,λx l y g=>?_⟩
 ·rw[Z6];refine⟨(jc o).drop,by rw[e2];exact X3 _ _,λx l y g=>?_⟩;rw[e2]at g;obtain⟨j,n,_,rfl⟩:=ua l;rw[Ze.mp g];exact p j n
 ·rcases Zd.mp g with g | g
  ·exact m.lb x l y g
  ·exact m.la x l y g
end TS
end
section
open PySem PyProof.Rows
namespace TS
variable{κ:SortKind}
noncomputable def gL(a b:SC):Prop:=kindOf b=kindOf a/\arrOf b=arrOf a/\SZ b=SZ a/\failedOf b=failedOf a
noncomputable def eJ:Nat->StateT SC Sem Unit:=sortPriv% PySem.Builtin.setMinGallop
def iE(e:gL d a)(h:∀b,gL d b->Q () b):wpS (KB prog w) A E s (eJ g) Q a:=by
 unfold eJ;exact Wf (h _ e)
def hU(h:Q () a):wpS (KB prog w) A E s (liftM (rule t)) Q a:=wpS_lift (wpAny_rule ⟨rfl,h⟩)
def aA{α:Type}{c:Prop}[Decidable c]{x y:StateT SC Sem α}{Q:α->SC->Prop}(d:c->wpS (KB prog w) A E s x Q b)(e:¬c->wpS (KB prog w) A E s y Q b) :
  wpS (KB prog w) A E s (if c then x else y) Q b:=by
 by_cases a:c
 ·rw[Zr a];exact d a
 ·rw[Zm a];exact e a
def vf{prog:Re}{w:XAA}{A:SB}{E:Yy}{s:IR}{α:Type}{c:Nat->Prop}[∀n,Decidable (c n)]{d a:Nat->StateT SC Sem α}{Q:α->SC->Prop}{b:SC}(e:∀n,d n=a (n-1))(h:∀n,wpS (KB prog w) A E s (a n) Q b):∀n,wpS (KB prog w) A E s (if c n then d n else a n) Q b :=
 λn=>aA (λ_=>by rw[e];exact h _) λ_=>h n
def bB{prog:Re}{w:XAA}{A:SB}{E:Yy}{s:IR}{α:Type}{a:Array Pi}{i:Nat}{c:Pi->Prop}[∀v,Decidable (c v)]{x y:Pi->StateT SC Sem α}{Q:α->SC->Prop}{b:SC}(e:i<a.size)(d:c a[i]->wpS (KB prog w) A E s (x a[i]) Q b)(f:¬c a[i]->wpS (KB prog w) A E s (y a[i]) Q b) :
  wpS (KB prog w) A E s (elem' a i >>= λv=>if c v then x v else y v) Q b:=ZX (dY e (aA d f))
def yR{α:Type}{c d:Prop}[Decidable c][Decidable d]{x y z:StateT SC Sem α}{Q:α->SC->Prop}(g:c->wpS (KB prog w) A E s x Q a)(f:¬c->d->wpS (KB prog w) A E s y Q a)(b:¬c->¬d->wpS (KB prog w) A E s z Q a) :
  wpS (KB prog w) A E s (if c then x else if d then y else z) Q a:=aA g λe=>aA (f e) (b e)
def ja{α β:Type}{a:Array Pi}{m:Pi->StateT SC Sem β}{f:Pi->β->StateT SC Sem α}{Q:α->SC->Prop}(d:i<a.size)(h:wpS (KB prog w) A E s (m a[i]) (λv e=>wpS (KB prog w) A E s (f a[i] v) Q e) b) :
  wpS (KB prog w) A E s (elem' a i >>= λu=>m u >>= λv=>f u v) Q b:=ZX (dY d (ZX h))
structure MC(G:Pi->Prop)(r:Pi->Pi->Bool)(a b:Array Pi):Prop where
 ga:∀x∈a,G x
 gb:∀x∈b,G x
 sa:Seg r a 0 a.size
 sb:Seg r b 0 b.size
 na:0<a.size
 nb:0<b.size
 first:le r b[0] a[0]
 last:∀j (hj:j<b.size),le r b[j] a[a.size-1]
def MC.Kc(M:MC G r a b)(f:i<a.size)(h:i+1=a.size):∀j (d:j<b.size),le r b[j] a[i]:=by
 intro j d;have:=M.last j d;have e:a.size-1=i:=by lia
 simpa[e] using this
def MC.bA(C:JO prog w A E s κ G r)(M:MC G r a b)(e:i<a.size)(f:j<b.size)(h:le r b[j] a[i]):∀k (d:k<a.size),i<=k->le r b[j] a[k]:=λk d g =>
 C.tr (M.gb _ (Zg f)) (M.ga _ (Zg e)) (M.ga _ (Zg d)) h (M.sa i k e d (ZO _) g d)
def MC.aB(C:JO prog w A E s κ G r)(M:MC G r a b)(f:i<a.size)(e:j<b.size)(h:le r a[i] b[j]):∀k (d:k<b.size),j<=k->le r a[i] b[k]:=λk d g =>
 C.tr (M.ga _ (Zg f)) (M.gb _ (Zg e)) (M.gb _ (Zg d)) h (M.sb j k e d (ZO _) g d)
def jC(h:Seg r a 0 a.size)(d e:Nat):Seg r a d e:=λi j g b m f l=>h i j g b (ZO _) f b
def GZ(C:JO prog w A E s κ G r)(hk:kindOf H=κ)(M:MC G r a b)(h:∀res o,gL H o->MR r a b res->Q res o) :
  wpS (KB prog w) A E s (oN a b) Q H:=by
 have VE:=M.na;have hnb:=M.nb;unfold oN;change wpS (KB prog w) A E s (_>>=_) Q H;dsimp only;refine ZX (hU ?_);have m0:MI r a b #[] 0 0:=⟨by simp,by simp,by simp,by simp⟩
 have m1:MI r a b #[b[0]] 0 1:=m0.JZ M.sb M.nb λj l _=>M.bA C M.na M.nb M.first j l (ZO _);have Oh:gL H H:=⟨rfl,rfl,rfl,rfl⟩
 refine bB M.nb (λe=>?_) λe1=>?_
 ·exact Zi (h _ _ Oh (m1.fin M.sa M.sb (.inr (by simpa using e))))
 refine aA (λe=>?_) λe2=>?_
 ·exact Zi (h _ _ Oh (m1.last M.sb (by simpa using e) (M.Kc M.na (by simpa using e))))
 have OH:1<b.size:=by simp at e1;lia
 have Lk:0+1<a.size:=by simp at e2;lia
 refine ZX (W8 ?_);refine ZX (Xl (Yb
  (I:=λx c o=>gL H o/\c.1=Y/\MI r a b c.2.1 c.2.2.1 c.2.2.2.1/\c.2.2.1+1<a.size/\c.2.2.2.1<b.size/\x<c.2.1.size)
  (Q:=λc o=>gL H o/\∃res,c.1=Z res/\MR r a b res) ?step ?fin ?init) ?post)
 case init=>exact⟨Oh,rfl,m1,Lk,OH,by simp⟩
 case fin =>
  refine xx λS out u D mg o d=>?_;have kp:=d.1;have t:=d.2.1;have m:=d.2.2.1;have p:=d.2.2.2.1;have f:=d.2.2.2.2.1;have N:=d.2.2.2.2.2;clear d;dsimp only at *;have:=m.size (by lia) (by exact ZF f);lia
 case post =>
  refine xx λS out u D mg=>?_;rintro o ⟨kp,res,t,p⟩;dsimp only at *;subst t;exact Zi (h _ _ kp p)
 case step =>
  intro x;refine xx λS out u D mg o _ hx d=>?_;have kp:=d.1;have t:=d.2.1;have m:=d.2.2.1;have p:=d.2.2.2.1;have f:=d.2.2.2.2.1;have N:=d.2.2.2.2.2;clear d;dsimp only at *;refine ZX (Xl (Yb
   (I:=λy c o=>gL H o/\c.1=Y/\MI r a b c.2.1 c.2.2.1 c.2.2.2.1/\c.2.2.1+1<a.size/\c.2.2.2.1<b.size/\x+y<c.2.1.size)
   (Q:=λc o=>gL H o/\((∃res,c.1=Z res/\MR r a b res)\/(c.1=Y/\MI r a b c.2.1 c.2.2.1 c.2.2.2.1/\c.2.2.1+1<a.size/\c.2.2.2.1<b.size/\x+1<c.2.1.size))) ?step2 ?fin2 ?init2) ?post2)
  case init2=>exact⟨kp,rfl,m,p,f,by simpa using N⟩
  case fin2 =>
   refine tV λS out u D ac bc o d=>?_;have kp:=d.1;have t:=d.2.1;have m:=d.2.2.1;have p:=d.2.2.2.1;have f:=d.2.2.2.2.1;have N:=d.2.2.2.2.2;clear d;dsimp only at *;exact⟨kp,.inr ⟨t,m,p,f,by(try dsimp only);lia⟩⟩
  case step2 =>
   intro y;refine tV λS out u D ac bc o _ hy d=>?_;have kp:=d.1;have t:=d.2.1;have m:=d.2.2.1;have p:=d.2.2.2.1;have f:=d.2.2.2.2.1;have N:=d.2.2.2.2.2;clear d;dsimp only at *;have U:u<a.size:=by exact Y6 p
   have gA:=M.ga _ (Zg U);have gB:=M.gb _ (Zg f);refine ja f (dY U ?_);refine ZX (C.run _ _ _ _ (kp.1.trans hk) gB gA ?_);dsimp only;cases e:r b[D] a[u] with
   |true =>
    rw[Zr rfl];have L:=m.JZ M.sb f (M.bA C U f (C.Kb gB gA e));refine bB f (λR=>?_) λR=>?_
    ·exact Zi ⟨kp,.inl ⟨_,rfl,L.fin M.sa M.sb (.inr (by simpa using R))⟩⟩
    ·have KR:D+1<b.size:=by simp at R;lia
     refine aA (λ_=>?_) λ_=>?_
     ·exact Zi ⟨kp,.inr ⟨rfl,L,p,KR,by simp;lia⟩⟩
     ·exact Zi ⟨kp,rfl,L,p,KR,by simp;lia⟩
   |false =>
    rw[Zm Zf];have L:=m.IV M.sa U (M.aB C U f e);refine bB U (λR=>?_) λR=>?_
    ·exact Zi ⟨kp,.inl ⟨_,rfl,L.last M.sb (by simpa using R) (M.Kc (by omega) (by simpa using R))⟩⟩
    ·have KR:u+1+1<a.size:=by simp at R;lia
     refine aA (λ_=>?_) λ_=>?_
     ·exact Zi ⟨kp,.inr ⟨rfl,L,KR,f,by simp;lia⟩⟩
     ·exact Zi ⟨kp,rfl,L,KR,f,by simp;lia⟩
  case post2 =>
   refine tV λS out u D ac bc=>?_;rintro o ⟨kp,⟨res,t,p⟩ | ⟨t,m,p,f,N⟩⟩
   ·dsimp only at *;subst t;exact Zi ⟨kp,res,rfl,p⟩
   ·dsimp only at *;subst t;dsimp only;refine ZX (hU ?_);refine ZX (Xl (Yb
     (I:=λy c o=>gL H o/\c.1=Y/\MI r a b c.2.1 c.2.2.1 c.2.2.2.1/\c.2.2.1+1<a.size/\c.2.2.2.1<b.size/\x+1<c.2.1.size)
     (Q:=λc o=>gL H o/\((∃res,c.1=Z res/\MR r a b res)\/(c.1=Y/\MI r a b c.2.1 c.2.2.1 c.2.2.2.1/\c.2.2.1+1<a.size/\c.2.2.2.1<b.size/\x+1<c.2.1.size))) ?step3 ?fin3 ?init3) ?post3)
    case init3=>exact⟨kp,rfl,m,p,f,N⟩
    case fin3 =>
     refine tV λS out u D ac bc o d=>?_;have kp:=d.1;have t:=d.2.1;have m:=d.2.2.1;have p:=d.2.2.2.1;have f:=d.2.2.2.2.1;have N:=d.2.2.2.2.2;clear d;exact⟨kp,.inr ⟨t,m,p,f,N⟩⟩
    case post3 =>
     refine Bw λS out u D mg ac bc=>?_;rintro o ⟨kp,⟨res,t,p⟩ | ⟨t,m,p,f,N⟩⟩
     ·dsimp only at *;subst t;exact Zi ⟨kp,res,rfl,p⟩
     ·dsimp only at *;subst t;dsimp only;exact ZX (iE kp λJg n=>Zi ⟨n,rfl,m,p,f,N⟩)
    case step3 =>
     intro y;refine Bw λS out u D mg ac bc o _ hy d=>?_;have kp:=d.1;have t:=d.2.1;have m:=d.2.2.1;have p:=d.2.2.2.1;have f:=d.2.2.2.2.1;have N:=d.2.2.2.2.2;clear d;dsimp only at *;have both:∀{mg:Nat}{F:Unit->StateT SC Sem (ForInStep (Option (Array Pi)×Array Pi×Nat×Nat×Nat×Nat×Nat))}{P},(∀Jg,gL H Jg->wpS (KB prog w) A E s (F ()) P Jg)->wpS (KB prog w) A E s (eJ mg>>=F) P o:=λhF=>ZX (iE kp λJg n=>hF Jg n);revert mg;refine vf (λ_=>rfl) λmg2=>?_;refine both λJg n=>?_;have U:u<a.size:=by exact Y6 p
     have gB:=M.gb _ (Zg f);refine ja f (gC C (n.1.trans hk) gB M.ga (by lia) (by exact Vl U) (jC M.sa _ _) λk LX Lg Pa=>?_);dsimp only;refine aA (λe5=>?_) λe5=>?_
     ·have L:=m.LL (k:=k) M.sa (λi O h1 h2 j l h3=>C.tr (M.ga _ (Zg O)) gB (M.gb _ (Zg l)) (Lg i O h1 h2) (M.sb _ j f l (ZO _) h3 l));refine yR (λq=>?_) (λq g=>?_) λq g=>?_
      ·exact Zi ⟨n,.inl ⟨_,rfl,L.last M.sb (by simpa using q) (M.Kc (by simp at q;lia) (by simpa using q))⟩⟩
      ·exact Zi ⟨n,.inl ⟨_,rfl,L.fin M.sa M.sb (.inl (by simpa using g))⟩⟩
      have v:u+k<a.size:=by simp at q g;lia
      have Pd:u+k+1<a.size:=by simp at q g;lia
      have hle:∀j (l:j<a.size),u+k<=j->le r b[D] a[j]:=λj l h=>Pa j l h (by lia);clear q;have X:=L.JZ M.sb f hle;refine bB f (λe4=>?_) λe4=>?_
      ·exact Zi ⟨n,.inl ⟨_,rfl,X.fin M.sa M.sb (.inr (by simpa using e4))⟩⟩
      have OG:D+1<b.size:=by simp at e4;lia
      refine ja v (gC C (n.1.trans hk) (M.ga _ (Zg v)) M.gb (by lia) (by exact Vl OG) (jC M.sb _ _) λk2 Qw Jp JU=>?_);dsimp only;have m4:=X.MQ (k:=k2) M.sb (λi O h1 h2 j l h3=>C.tr (M.gb _ (Zg O)) (M.ga _ (Zg v)) (M.ga _ (Zg l)) (Jp i O h1 h2) (M.sa _ j v l (ZO _) h3 l));refine aA (λe5=>?_) λe5=>?_
      ·refine aA (λq=>?_) λq=>?_
       ·exact Zi ⟨n,.inl ⟨_,rfl,m4.fin M.sa M.sb (.inr (by simpa using q))⟩⟩
       have z:=m4.IV M.sa v (λj l h=>JU j l h (by omega));refine bB v (λg=>?_) λg=>?_
       ·exact Zi ⟨n,.inl ⟨_,rfl,z.last M.sb (by simpa using g) (M.Kc (by simp at g;omega) (by simpa using g))⟩⟩
       have J2:=g;simp at J2;refine aA (λ_=>?_) λ_=>?_
       ·exact Zi ⟨n,.inr ⟨rfl,z,by(try dsimp only);lia,by(try dsimp only);(try simp at q);lia,by simp;lia⟩⟩
       ·exact Zi ⟨n,rfl,z,by(try dsimp only);lia,by(try dsimp only);(try simp at q);lia,by simp;lia⟩
      ·have z:=X.IV M.sa v (λj l h=>JU j l (by lia) (by omega));refine bB v (λg=>?_) λg=>?_
       ·exact Zi ⟨n,.inl ⟨_,rfl,z.last M.sb (by simpa using g) (M.Kc (by simp at g;omega) (by simpa using g))⟩⟩
       have J2:=g;simp at J2;refine aA (λ_=>?_) λ_=>?_
       ·exact Zi ⟨n,.inr ⟨rfl,z,by(try dsimp only);lia,by(try dsimp only);(try simp at q);omega,by simp;lia⟩⟩
       ·exact Zi ⟨n,rfl,z,by(try dsimp only);lia,by(try dsimp only);(try simp at q);omega,by simp;lia⟩
     ·have L:=m;have v:u<a.size:=by omega
      have hle:∀j (l:j<a.size),u<=j->le r b[D] a[j]:=λj l h=>Pa j l (by lia) (by lia);have X:=L.JZ M.sb f hle;refine bB f (λe4=>?_) λe4=>?_
      ·exact Zi ⟨n,.inl ⟨_,rfl,X.fin M.sa M.sb (.inr (by simpa using e4))⟩⟩
      have OG:D+1<b.size:=by simp at e4;lia
      refine ja v (gC C (n.1.trans hk) (M.ga _ (Zg v)) M.gb (by lia) (by exact Vl OG) (jC M.sb _ _) λk2 Qw Jp JU=>?_);dsimp only;have m4:=X.MQ (k:=k2) M.sb (λi O h1 h2 j l h3=>C.tr (M.gb _ (Zg O)) (M.ga _ (Zg v)) (M.ga _ (Zg l)) (Jp i O h1 h2) (M.sa _ j v l (ZO _) h3 l));refine aA (λe5=>?_) λe5=>?_
      ·refine aA (λq=>?_) λq=>?_
       ·exact Zi ⟨n,.inl ⟨_,rfl,m4.fin M.sa M.sb (.inr (by simpa using q))⟩⟩
       have z:=m4.IV M.sa v (λj l h=>JU j l h (by omega));refine bB v (λg=>?_) λg=>?_
       ·exact Zi ⟨n,.inl ⟨_,rfl,z.last M.sb (by simpa using g) (M.Kc (by simp at g;omega) (by simpa using g))⟩⟩
       have J2:=g;simp at J2;refine aA (λ_=>?_) λ_=>?_
       ·exact Zi ⟨n,.inr ⟨rfl,z,by(try dsimp only);lia,by(try dsimp only);(try simp at q);lia,by simp;lia⟩⟩
       ·exact Zi ⟨n,rfl,z,by(try dsimp only);lia,by(try dsimp only);(try simp at q);lia,by simp;lia⟩
      ·have z:=X.IV M.sa v (λj l h=>JU j l (by lia) (by omega));refine bB v (λg=>?_) λg=>?_
       ·exact Zi ⟨n,.inl ⟨_,rfl,z.last M.sb (by simpa using g) (M.Kc (by simp at g;omega) (by simpa using g))⟩⟩
       have J2:=g;simp at J2;refine aA (λ_=>?_) λ_=>?_
       ·exact Zi ⟨n,.inr ⟨rfl,z,by(try dsimp only);lia,by(try dsimp only);(try simp at q);omega,by simp;lia⟩⟩
       ·exact Zi ⟨n,rfl,z,by(try dsimp only);lia,by(try dsimp only);(try simp at q);omega,by simp;lia⟩
end TS
end
section
open PySem PyProof.Rows
namespace TS
variable{κ:SortKind}
def y8{a:Array Pi}(h:x∈a.toList.take n):∃j,∃(d:j<a.size),j<n/\a[j]=x:=by
 obtain⟨m,b,e⟩:=Yt h;rw[Z8]at b;rw[XY]at e;have:m<a.size:=by simpa using(by lia:m<a.toList.length)
 exact⟨m,this,by lia,by simpa using e⟩
structure HI(r:Pi->Pi->Bool)(a b out:Array Pi)(na nb:Nat):Prop where
 pm:(a.toList.take na++(b.toList.take nb++out.toList.reverse)).Perm (a.toList++b.toList)
 so:out.toList.reverse.Pairwise (le r)
 la:∀x∈out.toList,∀y∈a.toList.take na,le r y x
 lb:∀x∈out.toList,∀y∈b.toList.take nb,le r y x
theorem HI.size{a out:Array Pi}(m:HI r a b out e d)(g:e<=a.size)(f:d<=b.size):out.size+e+d=a.size+b.size:=by
 have:=m.pm.length_eq;simp at this;lia
def HI.LL{k:Nat}(m:HI r a b d f n)(q:Seg r a 0 a.size)(u:k<=f)(t:∀i (p:i<a.size),k<=i->i<f->∀j (o:j<b.size),j<n->le r b[j] a[i]) :
  HI r a b (d++(a.extract k f).reverse) k n:=by
 have e1:(d++(a.extract k f).reverse).toList.reverse=(a.toList.drop k).take (f-k)++d.toList.reverse:=by
  simp[List.extract_eq_drop_take]
 have e2:a.toList.take f=a.toList.take k++(a.toList.drop k).take (f-k):=by
  rw[← YC k (a.toList.take f),List.take_take,Vy,YO u]
 have l:(a.toList.take f).Pairwise (le r):=(jc q).take;rw[e2,Z6]at l;have mem:∀x,x∈(d++(a.extract k f).reverse).toList->x∈d.toList\/x∈(a.toList.drop k).take (f-k):=λx e=>by
  have:x∈(d++(a.extract k f).reverse).toList.reverse:=Xk.mpr e;rw[e1]at this;rcases Zd.mp this with h | h
  ·exact .inr h
  ·exact .inl (Xk.mp h)
 refine⟨?_,?_,?_,?_⟩
 ·rw[e1];have:=m.pm;rw[e2]at this;refine List.Perm.trans ?_ this;rw[ZZ];refine List.Perm.append_left _ ?_;rw[← ZZ,← ZZ];exact List.Perm.append_right _ YB
 ·rw[e1,Z6];refine⟨l.2.1,m.so,λx e y g=>m.la y (Xk.mp g) x ?_⟩;rw[e2];exact ZP _ e
 ·intro x e y g;rcases mem x e with e | e
  ·exact m.la x e y (by rw[e2];exact Yn _ g)
  ·exact l.2.2 y g x e
 ·intro x e y g;rcases mem x e with e | e
  ·exact m.lb x e y g
  ·obtain⟨i,p,z,C,rfl⟩:=kD e;obtain⟨j,o,v,rfl⟩:=y8 g;exact t i p z (by lia) j o v
def HI.swap(m:HI r a b d f e):HI r b a d e f:=by
 refine⟨?_,m.so,m.lb,m.la⟩;refine List.Perm.trans ?_ (m.pm.trans YB);rw[← ZZ,← ZZ];exact List.Perm.append_right _ YB
def HI.MQ{k:Nat}(m:HI r a b d f e)(g:Seg r b 0 b.size)(l:k<=e)(h:∀i (o:i<b.size),k<=i->i<e->∀j (n:j<a.size),j<f->le r a[j] b[i]) :
  HI r a b (d++(b.extract k e).reverse) f k:=(m.swap.LL g l h).swap
def yf{a b:Array Pi}(h:i<a.size):b.push a[i]=b++(a.extract i (i+1)).reverse:=by
 apply Array.ext';have:(a.extract i (i+1)).toList=[a[i]]:=by
  have e:i<a.toList.length:=by simpa using h
  simp[List.extract_eq_drop_take,Xo e]
 rw[YX,Vw,this,Vd];rfl
def HI.IV(m:HI r a b f d g)(n:Seg r a 0 a.size)(v:0<d)(h:d-1<a.size)(o:∀j (l:j<b.size),j<g->le r b[j] a[d-1]):HI r a b (f.push a[d-1]) (d-1) g:=by
 rw[yf h];have e:d-1+1=d:=by lia
 rw[e];refine m.LL n (by exact Y9 _ _) λi q u t j l p=>?_;have:i=d-1:=by lia
 subst this;exact o j l p
def HI.JZ(m:HI r a b e f d)(g:Seg r b 0 b.size)(l:0<d)(h:d-1<b.size)(i:∀j (n:j<a.size),j<f->le r a[j] b[d-1]):HI r a b (e.push b[d-1]) f (d-1):=(m.swap.IV g l h i).swap
def AO{a:Array Pi}:(a.extract 0 n).toList=a.toList.take n:=by
 rw[Wh,List.extract_eq_drop_take,Wz,Nat.sub_zero]
def HI.fin(m:HI r a b d g f)(n:Seg r a 0 a.size)(l:Seg r b 0 b.size)(h:g=0\/f=0):MR r a b (a.extract 0 g++b.extract 0 f++d.reverse):=by
 have e:(a.extract 0 g++b.extract 0 f++d.reverse).toList=a.toList.take g++(b.toList.take f++d.toList.reverse):=by
  rw[YX,YX,AO,AO,ZZ,Vw]
 refine⟨by rw[e];exact m.pm,?_⟩;rw[e,← ZZ,Z6];refine⟨?_,m.so,λx i y j=>?_⟩
 ·rcases h with h | h
  ·subst h;rw[List.take_zero,Yg];exact(jc l).take
  ·subst h;rw[List.take_zero,ZM];exact(jc n).take
 ·rcases Zd.mp i with i | i
  ·exact m.la y (Xk.mp j) x i
  ·exact m.lb y (Xk.mp j) x i
def HI.first(m:HI r a b d i g)(o:Seg r a 0 a.size)(h:g=1)(q:0<b.size)(p:∀j (n:j<a.size),le r b[0] a[j]):MR r a b (b.extract 0 g++a.extract 0 i++d.reverse):=by
 have e:(b.extract 0 g++a.extract 0 i++d.reverse).toList=b.toList.take g++(a.toList.take i++d.toList.reverse):=by
  rw[YX,YX,AO,AO,ZZ,Vw]
 have e2:b.toList.take g=[b[0]]:=by
  subst h;have:=vi q;rw[Wz]at this;rw[this];rfl
 refine⟨?_,?_⟩
 ·rw[e];exact m.swap.pm.trans YB
 rw[e,← ZZ,Z6];refine⟨?_,m.so,λx f y l=>?_⟩
 ·rw[Z6];refine⟨by rw[e2];exact X3 _ _,(jc o).take,λx f y l=>?_⟩;rw[e2]at f;obtain⟨j,n,_,rfl⟩:=y8 l;rw[Ze.mp f];exact p j n
 ·rcases Zd.mp f with f | f
  ·exact m.lb y (Xk.mp l) x f
  ·exact m.la y (Xk.mp l) x f
def MC.JX(C:JO prog w A E s κ G r)(M:MC G r a b):∀j (d:j<a.size),le r (b[0]'M.nb) a[j]:=λj d=>M.bA C M.na M.nb M.first j d (ZO _)
def Gj(C:JO prog w A E s κ G r)(hk:kindOf N=κ)(M:MC G r a b)(h:∀res n,gL N n->MR r a b res->Q res n) :
  wpS (KB prog w) A E s (nK a b) Q N:=by
 have VE:=M.na;have hnb:=M.nb;unfold nK;change wpS (KB prog w) A E s (_>>=_) Q N;dsimp only;have VH:a.size-1<a.size:=by omega
 refine ZX (hU ?_);have m0:HI r a b #[] a.size b.size:=⟨by simp[Yk],by simp,by simp,by simp⟩
 have m1:HI r a b #[a[a.size-1]] (a.size-1) b.size:=m0.IV M.sa VE VH λj g _=>M.last j g;have Oh:gL N N:=⟨rfl,rfl,rfl,rfl⟩
 refine bB VH (λe=>?_) λe1=>?_
 ·exact Zi (h _ _ Oh (m1.fin M.sa M.sb (.inl (by simpa using e))))
 refine aA (λe=>?_) λe2=>?_
 ·exact Zi (h _ _ Oh (m1.first M.sa (by simpa using e) M.nb (M.JX C)))
 have OH:0<a.size-1:=by simp at e1;exact Z5 e1
 have Lk:1<b.size:=by simp at e2;lia
 refine ZX (W8 ?_);refine ZX (Xl (Yb
  (I:=λx c n=>gL N n/\c.1=Y/\HI r a b c.2.2.2.1 c.2.1 c.2.2.1/\0<c.2.1/\c.2.1<=a.size/\1<c.2.2.1/\c.2.2.1<=b.size/\x<c.2.2.2.1.size)
  (Q:=λc n=>gL N n/\∃res,c.1=Z res/\MR r a b res) ?step ?fin ?init) ?post)
 case init=>exact⟨Oh,rfl,m1,OH,by(try dsimp only);exact Y9 _ _,Lk,Zo _,by simp⟩
 case fin =>
  refine xx λc1 na nb out mg n d=>?_;have kp:=d.1;have u:=d.2.1;have m:=d.2.2.1;have o:=d.2.2.2.1;have L:=d.2.2.2.2.1;have v:=d.2.2.2.2.2.1;have H:=d.2.2.2.2.2.2.1;have S:=d.2.2.2.2.2.2.2;clear d;dsimp only at *;have:=m.size (by omega) (by omega);lia
 case post =>
  refine xx λc1 na nb out mg=>?_;rintro n ⟨kp,res,u,o⟩;dsimp only at *;subst u;exact Zi (h _ _ kp o)
 case step =>
  intro x;refine xx λc1 na nb out mg n _ hx d=>?_;have kp:=d.1;have u:=d.2.1;have m:=d.2.2.1;have o:=d.2.2.2.1;have L:=d.2.2.2.2.1;have v:=d.2.2.2.2.2.1;have H:=d.2.2.2.2.2.2.1;have S:=d.2.2.2.2.2.2.2;clear d;dsimp only at *;refine ZX (Xl (Yb
   (I:=λy c n=>gL N n/\c.1=Y/\HI r a b c.2.2.2.1 c.2.1 c.2.2.1/\0<c.2.1/\c.2.1<=a.size/\1<c.2.2.1/\c.2.2.1<=b.size/\x+y<c.2.2.2.1.size)
   (Q:=λc n=>gL N n/\((∃res,c.1=Z res/\MR r a b res)\/(c.1=Y/\HI r a b c.2.2.2.1 c.2.1 c.2.2.1/\0<c.2.1/\c.2.1<=a.size/\1<c.2.2.1/\c.2.2.1<=b.size/\x+1<c.2.2.2.1.size))) ?step2 ?fin2 ?init2) ?post2)
  case init2=>exact⟨kp,rfl,m,o,L,v,H,by simpa using S⟩
  case fin2 =>
   refine tV λc1 na nb out ac bc n d=>?_;have kp:=d.1;have u:=d.2.1;have m:=d.2.2.1;have o:=d.2.2.2.1;have L:=d.2.2.2.2.1;have v:=d.2.2.2.2.2.1;have H:=d.2.2.2.2.2.2.1;have S:=d.2.2.2.2.2.2.2;clear d;dsimp only at *;exact⟨kp,.inr ⟨u,m,o,L,v,H,by(try dsimp only);lia⟩⟩
  case step2 =>
   intro y;refine tV λc1 na nb out ac bc n _ hy d=>?_;have kp:=d.1;have u:=d.2.1;have m:=d.2.2.1;have o:=d.2.2.2.1;have L:=d.2.2.2.2.1;have v:=d.2.2.2.2.2.1;have H:=d.2.2.2.2.2.2.1;have S:=d.2.2.2.2.2.2.2;clear d;dsimp only at *;have f:na-1<a.size:=by lia
   have t:nb-1<b.size:=by lia
   have gA:=M.ga _ (Zg f);have gB:=M.gb _ (Zg t);refine ja t (dY f ?_);refine ZX (C.run _ _ _ _ (kp.1.trans hk) gB gA ?_);dsimp only;cases e:r b[nb-1] a[na-1] with
   |true =>
    rw[Zr rfl];have R:=m.IV M.sa o f (λj g VL=>C.tr (M.gb _ (Zg g)) gB gA (M.sb j _ g t (ZO _) (by lia) t) (C.Kb gB gA e));refine bB f (λX=>?_) λX=>?_
    ·exact Zi ⟨kp,.inl ⟨_,rfl,R.fin M.sa M.sb (.inl (by simpa using X))⟩⟩
    ·have KR:0<na-1:=by simp at X;exact Z5 X
     refine aA (λ_=>?_) λ_=>?_
     ·exact Zi ⟨kp,.inr ⟨rfl,R,KR,by(try dsimp only);exact ZF f,v,H,by simp;lia⟩⟩
     ·exact Zi ⟨kp,rfl,R,KR,by(try dsimp only);exact ZF f,v,H,by simp;lia⟩
   |false =>
    rw[Zm Zf];have R:=m.JZ M.sb (by exact Y6 v) t (λj g VL=>C.tr (M.ga _ (Zg g)) gA gB (M.sa j _ g f (ZO _) (by lia) f) e);refine bB t (λX=>?_) λX=>?_
    ·exact Zi ⟨kp,.inl ⟨_,rfl,R.first M.sa (by simpa using X) M.nb (M.JX C)⟩⟩
    ·have KR:1<nb-1:=by simp at X;lia
     refine aA (λ_=>?_) λ_=>?_
     ·exact Zi ⟨kp,.inr ⟨rfl,R,o,L,KR,by(try dsimp only);exact ZF t,by simp;lia⟩⟩
     ·exact Zi ⟨kp,rfl,R,o,L,KR,by(try dsimp only);exact ZF t,by simp;lia⟩
  case post2 =>
   refine tV λc1 na nb out ac bc=>?_;rintro n ⟨kp,⟨res,u,o⟩ | ⟨u,m,o,L,v,H,S⟩⟩
   ·dsimp only at *;subst u;exact Zi ⟨kp,res,rfl,o⟩
   ·dsimp only at *;subst u;dsimp only;refine ZX (hU ?_);refine ZX (Xl (Yb
     (I:=λy c n=>gL N n/\c.1=Y/\HI r a b c.2.2.2.1 c.2.1 c.2.2.1/\0<c.2.1/\c.2.1<=a.size/\1<c.2.2.1/\c.2.2.1<=b.size/\x+1<c.2.2.2.1.size)
     (Q:=λc n=>gL N n/\((∃res,c.1=Z res/\MR r a b res)\/(c.1=Y/\HI r a b c.2.2.2.1 c.2.1 c.2.2.1/\0<c.2.1/\c.2.1<=a.size/\1<c.2.2.1/\c.2.2.1<=b.size/\x+1<c.2.2.2.1.size))) ?step3 ?fin3 ?init3) ?post3)
    case init3=>exact⟨kp,rfl,m,o,L,v,H,S⟩
    case fin3 =>
     refine tV λc1 na nb out ac bc n d=>?_;have kp:=d.1;have u:=d.2.1;have m:=d.2.2.1;have o:=d.2.2.2.1;have L:=d.2.2.2.2.1;have v:=d.2.2.2.2.2.1;have H:=d.2.2.2.2.2.2.1;have S:=d.2.2.2.2.2.2.2;clear d;exact⟨kp,.inr ⟨u,m,o,L,v,H,S⟩⟩
    case post3 =>
     refine Bw λc1 na nb out mg ac bc=>?_;rintro n ⟨kp,⟨res,u,o⟩ | ⟨u,m,o,L,v,H,S⟩⟩
     ·dsimp only at *;subst u;exact Zi ⟨kp,res,rfl,o⟩
     ·dsimp only at *;subst u;dsimp only;exact ZX (iE kp λJg l=>Zi ⟨l,rfl,m,o,L,v,H,S⟩)
    case step3 =>
     intro y;refine Bw λc1 na nb out mg ac bc n _ hy d=>?_;have kp:=d.1;have u:=d.2.1;have m:=d.2.2.1;have o:=d.2.2.2.1;have L:=d.2.2.2.2.1;have v:=d.2.2.2.2.2.1;have H:=d.2.2.2.2.2.2.1;have S:=d.2.2.2.2.2.2.2;clear d;dsimp only at *;have both:∀{mg:Nat}{F:Unit->StateT SC Sem (ForInStep (Option (Array Pi)×Nat×Nat×Array Pi×Nat×Nat×Nat))}{P},(∀Jg,gL N Jg->wpS (KB prog w) A E s (F ()) P Jg)->wpS (KB prog w) A E s (eJ mg>>=F) P n:=λhF=>ZX (iE kp λJg l=>hF Jg l);revert mg;refine vf (λ_=>rfl) λmg2=>?_;refine both λJg l=>?_;have hB0:0<nb:=by exact Y6 v
     have t:nb-1<b.size:=by lia
     have gB:=M.gb _ (Zg t);refine ja t (gC C (l.1.trans hk) gB M.ga (by lia) (by lia) (jC M.sa _ _) λk LX Lg Pa=>?_);dsimp only;refine aA (λe5=>?_) λe5=>?_
     ·have R:=m.LL (k:=k) M.sa (by omega) (λi U h1 h2 j g h3=>C.tr (M.gb _ (Zg g)) gB (M.ga _ (Zg U)) (M.sb j _ g t (ZO _) (by lia) t) (Pa i U (by lia) (by lia)));refine aA (λp=>?_) λp=>?_
      ·exact Zi ⟨l,.inl ⟨_,rfl,R.fin M.sa M.sb (.inl (by simpa using p))⟩⟩
      have QE:0<k:=by simp at p;exact Z5 p
      have f:k-1<a.size:=by lia
      have hle:∀j (g:j<a.size),j<k->le r a[j] b[nb-1]:=λj g h=>Lg j g (ZO _) (by lia);clear p;have m3:=R.JZ M.sb hB0 t hle;refine bB t (λe4=>?_) λe4=>?_
      ·exact Zi ⟨l,.inl ⟨_,rfl,m3.first M.sa (by simpa using e4) M.nb (M.JX C)⟩⟩
      have OG:1<nb-1:=by simp at e4;lia
      refine ja f (gC C (l.1.trans hk) (M.ga _ (Zg f)) M.gb (by lia) (by lia) (jC M.sb _ _) λk2 Qw Jp JU=>?_);dsimp only;have m4:=m3.MQ (k:=k2) M.sb (by omega) (λi U h1 h2 j g h3=>C.tr (M.ga _ (Zg g)) (M.ga _ (Zg f)) (M.gb _ (Zg U)) (M.sa j _ g f (ZO _) (by lia) f) (JU i U (by lia) (by lia)));refine aA (λe5=>?_) λe5=>?_
      ·refine aA (λq=>?_) λq=>?_
       ·exact Zi ⟨l,.inl ⟨_,rfl,m4.first M.sa (by simpa using q) M.nb (M.JX C)⟩⟩
       refine aA (λO=>?_) λO=>?_
       ·exact Zi ⟨l,.inl ⟨_,rfl,m4.fin M.sa M.sb (.inr (by simpa using O))⟩⟩
       have z:=m4.IV M.sa QE f (λj g h=>Jp j g (ZO _) (by lia));refine bB f (λp=>?_) λp=>?_
       ·exact Zi ⟨l,.inl ⟨_,rfl,z.fin M.sa M.sb (.inl (by simpa using p))⟩⟩
       have D:=p;simp at D;refine aA (λ_=>?_) λ_=>?_
       ·exact Zi ⟨l,.inr ⟨rfl,z,by(try dsimp only);exact Z5 D,by(try dsimp only);exact ZF f,by(try dsimp only);(try simp at q);(try simp at O);lia,by(try dsimp only);(try simp at q);lia,by simp;lia⟩⟩
       ·exact Zi ⟨l,rfl,z,by(try dsimp only);exact Z5 D,by(try dsimp only);exact ZF f,by(try dsimp only);(try simp at q);(try simp at O);lia,by(try dsimp only);(try simp at q);lia,by simp;lia⟩
      ·have z:=m3.IV M.sa QE f (λj g h=>Jp j g (ZO _) (by lia));refine bB f (λp=>?_) λp=>?_
       ·exact Zi ⟨l,.inl ⟨_,rfl,z.fin M.sa M.sb (.inl (by simpa using p))⟩⟩
       have D:=p;simp at D;refine aA (λ_=>?_) λ_=>?_
       ·exact Zi ⟨l,.inr ⟨rfl,z,by(try dsimp only);exact Z5 D,by(try dsimp only);exact ZF f,by(try dsimp only);(try simp at q);(try simp at O);omega,by(try dsimp only);(try simp at q);exact ZF t,by simp;lia⟩⟩
       ·exact Zi ⟨l,rfl,z,by(try dsimp only);exact Z5 D,by(try dsimp only);exact ZF f,by(try dsimp only);(try simp at q);(try simp at O);omega,by(try dsimp only);(try simp at q);exact ZF t,by simp;lia⟩
     ·have R:=m;have QE:0<na:=o;have f:na-1<a.size:=by lia
      have hle:∀j (g:j<a.size),j<na->le r a[j] b[nb-1]:=λj g h=>Lg j g (ZO _) (by lia);have m3:=R.JZ M.sb hB0 t hle;refine bB t (λe4=>?_) λe4=>?_
      ·exact Zi ⟨l,.inl ⟨_,rfl,m3.first M.sa (by simpa using e4) M.nb (M.JX C)⟩⟩
      have OG:1<nb-1:=by simp at e4;lia
      refine ja f (gC C (l.1.trans hk) (M.ga _ (Zg f)) M.gb (by lia) (by lia) (jC M.sb _ _) λk2 Qw Jp JU=>?_);dsimp only;have m4:=m3.MQ (k:=k2) M.sb (by omega) (λi U h1 h2 j g h3=>C.tr (M.ga _ (Zg g)) (M.ga _ (Zg f)) (M.gb _ (Zg U)) (M.sa j _ g f (ZO _) (by lia) f) (JU i U (by lia) (by lia)));refine aA (λe5=>?_) λe5=>?_
      ·refine aA (λq=>?_) λq=>?_
       ·exact Zi ⟨l,.inl ⟨_,rfl,m4.first M.sa (by simpa using q) M.nb (M.JX C)⟩⟩
       refine aA (λO=>?_) λO=>?_
       ·exact Zi ⟨l,.inl ⟨_,rfl,m4.fin M.sa M.sb (.inr (by simpa using O))⟩⟩
       have z:=m4.IV M.sa QE f (λj g h=>Jp j g (ZO _) (by lia));refine bB f (λp=>?_) λp=>?_
       ·exact Zi ⟨l,.inl ⟨_,rfl,z.fin M.sa M.sb (.inl (by simpa using p))⟩⟩
       have D:=p;simp at D;refine aA (λ_=>?_) λ_=>?_
       ·exact Zi ⟨l,.inr ⟨rfl,z,by(try dsimp only);exact Z5 D,by(try dsimp only);exact ZF f,by(try dsimp only);(try simp at q);(try simp at O);lia,by(try dsimp only);(try simp at q);lia,by simp;lia⟩⟩
       ·exact Zi ⟨l,rfl,z,by(try dsimp only);exact Z5 D,by(try dsimp only);exact ZF f,by(try dsimp only);(try simp at q);(try simp at O);lia,by(try dsimp only);(try simp at q);lia,by simp;lia⟩
      ·have z:=m3.IV M.sa QE f (λj g h=>Jp j g (ZO _) (by lia));refine bB f (λp=>?_) λp=>?_
       ·exact Zi ⟨l,.inl ⟨_,rfl,z.fin M.sa M.sb (.inl (by simpa using p))⟩⟩
       have D:=p;simp at D;refine aA (λ_=>?_) λ_=>?_
       ·exact Zi ⟨l,.inr ⟨rfl,z,by(try dsimp only);exact Z5 D,by(try dsimp only);exact ZF f,by(try dsimp only);(try simp at q);(try simp at O);omega,by(try dsimp only);(try simp at q);exact ZF t,by simp;lia⟩⟩
       ·exact Zi ⟨l,rfl,z,by(try dsimp only);exact Z5 D,by(try dsimp only);exact ZF f,by(try dsimp only);(try simp at q);(try simp at O);omega,by(try dsimp only);(try simp at q);exact ZF t,by simp;lia⟩
end TS
end
section
open PySem PyProof.Rows
namespace TS
variable{κ:SortKind}
noncomputable def K(a:Array Pi)(i:Nat):Keyed:=(a[i]?).getD (.none,.none)
def yB{a:Array Pi}(h:i<a.size):K a i=a[i]:=by unfold K;rw[getElem?_pos a i h];rfl
def Sg(r:Pi->Pi->Bool)(a:Array Pi)(b d:Nat):Prop:=∀i j,b<=i->i<=j->j<d->le r (K a i) (K a j)
def Ds(r:Pi->Pi->Bool)(a:Array Pi)(b d:Nat):Prop:=∀i j,b<=i->i<=j->j<d->le r (K a j) (K a i)
def lZ{a:Array Pi}(b:j<=a.size)(k:Nat):K (mirror a i j ((j-i)/2)) k=if i<=k/\k<j then K a (i+j-1-k) else K a k:=by
 unfold K;rw[getElem?_mirror_all b];split<;>rfl
def Dl{b:Array Pi}(e:a<b.size)(f:d<=a)(k:Nat):K (bubble b a d) k=if k=a-d then K b a else if a-d<k/\k<=a then K b (k-1) else K b k:=by
 unfold K;rw[getElem?_bubble e d f];split
 ·rfl
 ·split<;>rfl
structure Lc(lo:Nat)(Jw st:SC):Prop where
 kind:kindOf st=kindOf Jw
 pend:SZ st=SZ Jw
 fail:failedOf st=failedOf Jw
 perm:(arrOf st).Perm (arrOf Jw)
 pre:∀j,j<lo->(arrOf st)[j]?=(arrOf Jw)[j]?
theorem Lc.refl(b:Nat)(a:SC):Lc b a a:=⟨rfl,rfl,rfl,Array.Perm.refl _,λ_ _=>rfl⟩
theorem Lc.size{a st:SC}(L:Lc b a st):(arrOf st).size=(arrOf a).size:=L.perm.size_eq
def Lc.good{G:Pi->Prop}{e:Nat}{b a:SC}(L:Lc e b a)(g:∀x∈arrOf b,G x){i:Nat}(d:i<(arrOf b).size):G (K (arrOf a) i):=by
 rw[yB (by rw[L.size];exact d)];refine g _ ?_;have:(arrOf a)[i]'(by rw[L.size];exact d)∈(arrOf a).toList:=by simp
 have:=(Xq.mp L.perm).mem_iff.mp this;simpa using this
def Lc.arr(L:Lc d f a){b:Array Pi}(h:b.Perm (arrOf a))(g:∀j,j<d->b[j]?=(arrOf a)[j]?):Lc d f (setArr a b) :=
 ⟨L.kind,L.pend,L.fail,h.trans L.perm,λj e=>(g j e).trans (L.pre j e)⟩
def Lc.NN(L:Lc b d a){i j:Nat}(g:b<=i)(e:j<=(arrOf d).size):Lc b d (setArr a (mirror (arrOf a) i j ((j-i)/2))) :=
 L.arr (mirror_perm _ _ _ _) λk f=>by rw[getElem?_mirror_all (by rw[L.size];exact e),Zm (by lia)]
def lC(C:JO prog w A E s κ G r)(p:kindOf b=κ)(g:∀x∈arrOf b,G x)(L:Lc o b a)(e:i<(arrOf b).size)(d:j<(arrOf b).size)(h:Q (Z (r (K (arrOf a) i) (K (arrOf a) j))) a):wpS (KB prog w) A E s (ltAt' i j) Q a:=by
 have l:=L.good g e;have f:=L.good g d;have n:i<(arrOf a).size:=by rw[L.size];exact e
 have m:j<(arrOf a).size:=by rw[L.size];exact d
 rw[ltAt'_eq];refine ZX (W8 ?_);refine ZX (dY n (ZX (dY m ?_)));rw[yB n]at l h;rw[yB m]at f h;exact C.run a _ _ _ (L.kind.trans p) l f h
def Ds.NN(C:JO prog w A E s κ G r){i:Nat}(D:Ds r f g e)(h:∀k,k<e->G (K f k))(o:g<=i)(l:e<=f.size)(n:∀k,i<=k->k<e->le r (K f k) (K f (e-1))) :
  Ds r (mirror f i e ((e-i)/2)) g e:=λp q j t m=>by
 rw[lZ l,lZ l];have eqv:∀u v,i<=u->u<e->i<=v->v<e->le r (K f u) (K f v):=λu v a b c d=>C.tr (h u b) (h _ (by lia)) (h v d) (n u a b) (D v (e-1) (by exact ZC o c) (by lia) (by lia));split
 ·split
  ·exact eqv _ _ (by omega) (by omega) (by lia) (by omega)
  ·exact D p _ j (by lia) (by omega)
 ·split
  ·lia
  ·exact D p q j t m
def Ds.rev(D:Ds r d b a)(g:a<=d.size):Sg r (mirror d b a ((a-b)/2)) b a:=λp q f h e=>by
 rw[lZ g,lZ g,Zr ⟨f,by exact Xh h e⟩,Zr ⟨by exact ZC f h,e⟩];exact D _ _ (by omega) (by omega) (by omega)
def Sg.snoc(C:JO prog w A E s κ G r)(S:Sg r b a (a+n))(d:∀k,k<=a+n->G (K b k))(m:1<=n)(h:le r (K b (a+n-1)) (K b (a+n))):Sg r b a (a+n+1):=λi j f g l=>by
 by_cases e:j<a+n
 ·exact S i j f g e
 ·have:j=a+n:=by lia
  subst this;by_cases e2:i=a+n
  ·subst e2;exact C.refl (d _ (Zo _))
  ·exact C.tr (d i (by omega)) (d _ (by exact Y9 _ _)) (d _ (Zo _)) (S i (a+n-1) f (by lia) (by omega)) h
def Ds.snoc(C:JO prog w A E s κ G r)(S:Ds r b a (a+n))(d:∀k,k<=a+n->G (K b k))(m:1<=n)(h:le r (K b (a+n)) (K b (a+n-1))):Ds r b a (a+n+1):=λi j f g l=>by
 by_cases e:j<a+n
 ·exact S i j f g e
 ·have:j=a+n:=by lia
  subst this;by_cases e2:i=a+n
  ·subst e2;exact C.refl (d _ (Zo _))
  ·exact C.tr (d _ (Zo _)) (d _ (by exact Y9 _ _)) (d i (by omega)) h (S i (a+n-1) f (by lia) (by omega))
def mR{i j:Nat}(h:Q () (setArr a (mirror (arrOf a) i j ((j-i)/2)))):wpS (KB prog w) A E s (reverseSlice' i j) Q a:=by
 rw[reverseSlice'_eq];exact Wf h
def sQ{α:Type}{c:Prop}[Decidable c]{x Rq:StateT SC Sem α}{Q:α->SC->Prop}{P:SC->Prop}(D:∀a,P a->wpS (KB prog w) A E s Rq Q a)(d:¬c->P b)(e:c->(∀a,P a->wpS (KB prog w) A E s Rq Q a)->wpS (KB prog w) A E s x Q b):wpS (KB prog w) A E s (if c then x else Rq) Q b :=
 aA (λz=>e z D) λz=>D b (d z)
def EE(C:JO prog w A E s κ G r)(u:kindOf t=κ)(g:∀x∈arrOf t,G x)(h0:1<=n)(hn:a+n<=(arrOf t).size)(h:∀m b,Lc a t b->1<=m->m<=n->Sg r (arrOf b) a (a+m)->Q (Z m) b):wpS (KB prog w) A E s (countRun' a n) Q t:=by
 unfold countRun';change wpS (KB prog w) A E s (_>>=_) Q t;dsimp only;have L0:=Lc.refl a t;have SM:1<=1:=Zo _;have s0:Sg r (arrOf t) a (a+1):=λi j y F h3=>by
  have e1:i=a:=by lia
  have e2:j=a:=by lia
  subst e1 e2;exact C.refl (L0.good g (by lia))
 refine ZX (Xl (Yb
  (I:=λx c b=>Lc a t b/\c.1=Y/\c.2=x/\1<=x/\Sg r (arrOf b) a (a+x))
  (Q:=λc b=>Lc a t b/\c.1=Y/\1<=c.2/\c.2<=n/\Sg r (arrOf b) a (a+c.2)/\(c.2<n->r (K (arrOf b) (a+c.2)) (K (arrOf b) (a+c.2-1))=B)) ?stepA ?finA ?initA) ?postA)
 case initA=>exact⟨L0,rfl,rfl,SM,s0⟩
 case finA =>
  refine all2 λO l=>?_;rintro b ⟨L,v,q,p,f⟩;dsimp only at *;subst q;refine⟨L,v,by(try dsimp only);omega,by(try dsimp only);lia,f,λz=>?_⟩
  (try dsimp only at z)
  lia
 case stepA =>
  intro x;refine all2 λO l=>?_;rintro b VA X ⟨L,v,q,p,f⟩;dsimp only at *;subst q;refine ZX (lC C u g L (by lia) (by omega) ?_);dsimp only;have d:∀k,k<=a+l->G (K (arrOf b) k):=λk u=>L.good g (by lia);cases e:r (K (arrOf b) (a+l)) (K (arrOf b) (a+l-1)) with
  |true=>exact Zi ⟨L,rfl,p,by(try dsimp only);exact ZF X,f,λ_=>e⟩
  |false=>exact Zi ⟨L,rfl,rfl,by exact Xc _ _,Sg.snoc C f d p e⟩
 case postA =>
  refine all2 λO l=>?_;rintro b ⟨L,v,q,p,f,H⟩;dsimp only at *;subst v;dsimp only;refine aA (λe=>?_) λe=>?_
  ·exact Zi (h l b L q p f)
  have e':l<n:=by simp at e;exact Nat.lt_of_le_of_ne p e
  have sm:=H e';have d:∀k,k<=a+l->G (K (arrOf b) k):=λk u=>L.good g (by lia);have P2:le r (K (arrOf b) (a+l)) (K (arrOf b) (a+l-1)):=C.Kb (d _ (by exact Zo _)) (d _ (by exact Y9 _ _)) sm;have N:=L.size;refine sQ (P:=λJo=>Lc a t Jo/\Ds r (arrOf Jo) a (a+(l+1))) ?D ?two ?one
  case one =>
   intro e3 Dk;refine ZX (lC C u g L (by lia) (by lia) ?_);dsimp only;cases e4:r (K (arrOf b) a) (K (arrOf b) (a+l-1)) with
   |true=>exact Zi (h l b L q p f)
   |false =>
    rw[Zm Zf];refine ZX (mR ?_);have L1:=L.NN (i:=a) (j:=a+l) (by exact Zo _) (by lia);have d0:Ds r (arrOf b) a (a+l):=λi j y F h3=>C.tr (d j (by exact ZF h3)) (d _ (by exact Y9 _ _)) (d i (by lia)) (f j (a+l-1) (by exact ZC y F) (by lia) (by omega))
     (C.tr (d _ (by exact Y9 _ _)) (d _ (by exact ZJ _ _)) (d i (by lia)) e4 (f a i (by exact Zo _) y (by exact Xh F h3)))
    have S:=Ds.NN C d0 (λk u=>d k (by exact ZF u)) (i:=a) (by exact Zo _) (by lia) (λk y F=>f k _ y (by lia) (by omega));have U:=Ds.snoc C S (λk u=>L1.good g (by lia)) q (by
     rw[lZ (by lia),lZ (by lia),Zm (by lia),Zr (by omega)];exact C.tr (d _ (by exact Zo _)) (d _ (by exact Y9 _ _)) (d _ (by omega)) P2 (d0 _ _ (by omega) (by omega) (by omega)))
    exact Dk _ ⟨L1,U⟩
  case two =>
   intro e3;have e5:l=1:=by lia
   have d0:Ds r (arrOf b) a (a+l):=λi j y F h3=>by
    have e1:i=a:=by lia
    have e2:j=a:=by lia
    subst e1 e2;exact C.refl (d _ (by exact ZJ _ _))
   have U:=Ds.snoc C d0 d q P2;exact⟨L,U⟩
  case D =>
   rintro b ⟨L1,U⟩;clear d N;refine ZX (hU ?_);refine ZX (Xl (Yb
    (I:=λx c b=>Lc a t b/\c.1=Y/\c.2.1=x/\c.2.2+1<=x/\Ds r (arrOf b) a (a+x)/\(∀k,a+x-(c.2.2+1)<=k->k<a+x->le r (K (arrOf b) k) (K (arrOf b) (a+x-1))))
    (Q:=λc b=>Lc a t b/\c.1=Y/\c.2.2+1<=c.2.1/\c.2.1<=n/\Ds r (arrOf b) a (a+c.2.1)/\(∀k,a+c.2.1-(c.2.2+1)<=k->k<a+c.2.1->le r (K (arrOf b) k) (K (arrOf b) (a+c.2.1-1)))) ?stepD ?finD ?initD) ?postD)
   case initD =>
    refine⟨L1,rfl,rfl,by(try dsimp only);exact Xc _ _,U,λk y F=>?_⟩
    (try dsimp only at y F)
    have e:k=a+(l+1)-1:=by lia
    subst e;exact C.refl (L1.good g (by lia))
   case finD =>
    refine iV λO o R=>?_;rintro b ⟨L,v,q,p,f,H⟩;dsimp only at *;subst q;exact⟨L,v,p,by(try dsimp only);lia,f,H⟩
   case stepD =>
    intro x;refine iV λO o R=>?_;rintro b VA X ⟨L,v,q,p,f,H⟩;dsimp only at *;subst q;refine ZX (lC C u g L (by lia) (by omega) ?_);dsimp only;have d:∀k,k<=a+o->G (K (arrOf b) k):=λk u=>L.good g (by lia);have N:=L.size;cases e:r (K (arrOf b) (a+o)) (K (arrOf b) (a+o-1)) with
    |true =>
     rw[Zr M];have P2:le r (K (arrOf b) (a+o)) (K (arrOf b) (a+o-1)):=C.Kb (d _ (by exact Zo _)) (d _ (by exact Y9 _ _)) e;refine aA (λz=>?_) λz=>?_
     ·refine ZX (mR ?_);have L2:=L.NN (i:=a+o-(R+1)) (j:=a+o) (by lia) (by lia);have S:=Ds.NN C f (λk u=>d k (by exact ZF u)) (i:=a+o-(R+1)) (by lia) (by lia) H;refine Zi ⟨L2,rfl,rfl,by(try dsimp only);exact Xc _ _,Ds.snoc C S (λk u=>L2.good g (by lia)) (by lia) ?_,λk y F=>?_⟩
      ·show le r (K (mirror _ _ _ _) _) (K (mirror _ _ _ _) _);rw[lZ (by lia),lZ (by lia),Zm (by lia),Zr (by omega)];exact C.tr (d _ (by exact Zo _)) (d _ (by exact Y9 _ _)) (d _ (by omega)) P2 (f _ _ (by lia) (by omega) (by omega))
      ·(try dsimp only at y F)
       have e:k=a+(o+1)-1:=by lia
       subst e;exact C.refl (L2.good g (by lia))
     ·refine Zi ⟨L,rfl,rfl,by(try dsimp only);exact Xc _ _,Ds.snoc C f d (by lia) P2,λk y F=>?_⟩
      (try dsimp only at y F)
      have e:k=a+(o+1)-1:=by lia
      subst e;exact C.refl (L.good g (by lia))
    |false =>
     rw[Zm Zf];refine ZX (lC C u g L (by lia) (by lia) ?_);dsimp only;cases e2:r (K (arrOf b) (a+o-1)) (K (arrOf b) (a+o)) with
     |true=>exact Zi ⟨L,rfl,p,by(try dsimp only);exact ZF X,f,H⟩
     |false =>
      refine Zi ⟨L,rfl,rfl,by(try dsimp only);exact Y0 p,Ds.snoc C f d (by lia) e2,λk y F=>?_⟩
      (try dsimp only at y F)
      have ee:a+(o+1)-1=a+o:=by lia
      rw[ee];by_cases ek:k=a+o
      ·subst ek;exact C.refl (d _ (by exact Zo _))
      ·exact C.tr (d _ (by lia)) (d _ (by exact Y9 _ _)) (d _ (by exact Zo _)) (H k (by lia) (by lia)) e
   case postD =>
    refine iV λO o R=>?_;rintro b ⟨L,v,p,q6,f,H⟩;dsimp only at *;subst v;dsimp only;have d:∀k,k<a+o->G (K (arrOf b) k):=λk u=>L.good g (by lia);have N:=L.size;have SM:1<=o:=by lia
    refine sQ (P:=λJo=>Lc a t Jo/\Ds r (arrOf Jo) a (a+o)) ?Rq ?two2 ?one2
    case one2 =>
     intro z Dk2;refine ZX (mR ?_);have L2:=L.NN (i:=a+o-(R+1)) (j:=a+o) (by lia) (by lia);have S:=Ds.NN C f d (i:=a+o-(R+1)) (by lia) (by lia) H;exact Dk2 _ ⟨L2,S⟩
    case two2=>exact λ_=>⟨L,f⟩
    case Rq =>
     clear f H d N L;rintro b ⟨L,f⟩;have N:=L.size;refine ZX (mR ?_);have L0:=L.NN (i:=a) (j:=a+o) (by exact Zo _) (by lia);have s0:=f.rev (by lia);refine ZX (Xl (Yb
      (I:=λx c b=>Lc a t b/\c.1=Y/\c.2=x/\1<=x/\Sg r (arrOf b) a (a+x))
      (Q:=λc b=>Lc a t b/\c.1=Y/\1<=c.2/\c.2<=n/\Sg r (arrOf b) a (a+c.2)/\(c.2<n->r (K (arrOf b) (a+c.2)) (K (arrOf b) (a+c.2-1))=B)) ?stepA ?finA ?initA) ?postA)
     case initA=>exact⟨L0,rfl,rfl,SM,s0⟩
     case finA =>
      refine all2 λO l=>?_;rintro b ⟨L,v,q,p,f⟩;dsimp only at *;subst q;refine⟨L,v,by(try dsimp only);omega,by(try dsimp only);lia,f,λz=>?_⟩
      (try dsimp only at z)
      lia
     case stepA =>
      intro x;refine all2 λO l=>?_;rintro b VA X ⟨L,v,q,p,f⟩;dsimp only at *;subst q;refine ZX (lC C u g L (by lia) (by lia) ?_);dsimp only;have d:∀k,k<=a+l->G (K (arrOf b) k):=λk u=>L.good g (by lia);cases e:r (K (arrOf b) (a+l)) (K (arrOf b) (a+l-1)) with
      |true=>exact Zi ⟨L,rfl,p,by(try dsimp only);exact ZF X,f,λ_=>e⟩
      |false=>exact Zi ⟨L,rfl,rfl,by exact Xc _ _,Sg.snoc C f d p e⟩
     case postA =>
      refine all2 λO c3=>?_;rintro b ⟨L,v,q,p,f,H⟩;dsimp only at *;subst v;exact Zi (h c3 b L q p f)
end TS
end
section
open PySem PyProof.Rows
namespace TS
variable{κ:SortKind}
def yM(h:Q () (setArr a (bubble (arrOf a) i (i-j)))):wpS (KB prog w) A E s (moveDown' i j) Q a:=by
 rw[moveDown'_eq];exact Wf h
def Lc.bub(L:Lc b e a)(h:b+d<=i)(f:i<(arrOf e).size):Lc b e (setArr a (bubble (arrOf a) i d)) :=
 L.arr (bubble_perm _ _ _) λk g=>by rw[getElem?_bubble (by rw[L.size];exact f) d (by lia),Zm (by lia),Zm (by lia)]
def EH(C:JO prog w A E s κ G r)(hk:kindOf m=κ)(g:∀x∈arrOf m,G x)(h0:1<=t)(xb:t<=n)(hn:a+n<=(arrOf m).size)(S:Sg r (arrOf m) a (a+t))(h:∀b,Lc a m b->Sg r (arrOf b) a (a+n)->Q B b):wpS (KB prog w) A E s (binarySort' a n t) Q m:=by
 unfold binarySort';change wpS (KB prog w) A E s (_>>=_) Q m;dsimp only;have em:max t 1=t:=by lia
 rw[em];refine ZX (Xl (Yb
  (I:=λx c b=>Lc a m b/\c.1=Y/\Sg r (arrOf b) a (a+x))
  (Q:=λc b=>Lc a m b/\c.1=Y/\Sg r (arrOf b) a (a+n)) ?step ?fin ?init) ?post)
 case init=>exact⟨Lc.refl _ _,rfl,S⟩
 case fin =>
  refine all2 λD q=>?_;rintro b ⟨L,N,d⟩;have e:max t n=n:=by lia
  rw[e]at d;exact⟨L,N,d⟩
 case post =>
  refine all2 λD q=>?_;rintro b ⟨L,N,d⟩;dsimp only at *;subst N;exact Zi (h b L d)
 case step =>
  intro k;refine all2 λD q=>?_;rintro b LX Lg ⟨L,N,d⟩;dsimp only at *;have hsz:=L.size;have p:∀j,j<=a+k->G (K (arrOf b) j):=λj hj=>L.good g (by lia);refine ZX (Xl (Yb
   (I:=λx c y=>b=y/\c.1=Y/\c.2.1<=c.2.2/\c.2.2<=k/\c.2.2-c.2.1+x<=k/\(∀i,a<=i->i<a+c.2.1->le r (K (arrOf b) i) (K (arrOf b) (a+k)))/\(∀i,a+c.2.2<=i->i<a+k->le r (K (arrOf b) (a+k)) (K (arrOf b) i)))
   (Q:=λc y=>b=y/\c.1=Y/\c.2.1=c.2.2/\c.2.2<=k/\(∀i,a<=i->i<a+c.2.1->le r (K (arrOf b) i) (K (arrOf b) (a+k)))/\(∀i,a+c.2.2<=i->i<a+k->le r (K (arrOf b) (a+k)) (K (arrOf b) i))) ?step2 ?fin2 ?init2) ?post2)
  case init2=>exact⟨rfl,rfl,by(try dsimp only);exact ZO _,by(try dsimp only);exact Zo _,by(try dsimp only);lia,λi f o=>by(try dsimp only at o);lia,λi f o=>by(try dsimp only at f);lia⟩
  case fin2 =>
   refine iV λP l F=>?_;rintro y ⟨e,M,O,H,X,v,u⟩;dsimp only at *;exact⟨e,M,by(try dsimp only);lia,H,v,u⟩
  case step2 =>
   intro x;refine iV λP l F=>?_;rintro y _ hx ⟨e,M,O,H,X,v,u⟩;subst e;dsimp only at *;refine aA (λz=>?_) λz=>?_
   ·exact Zi ⟨rfl,rfl,by(try dsimp only);exact WB O z,H,v,u⟩
   ·refine ZX (lC C hk g L (by lia) (by lia) ?_);dsimp only;cases e2:r (K (arrOf b) (a+k)) (K (arrOf b) (a+(l+F)/2)) with
    |true =>
     have l1:=C.Kb (p _ (by exact Zo _)) (p _ (by lia)) e2;exact Zi ⟨rfl,rfl,by(try dsimp only);lia,by(try dsimp only);lia,by(try dsimp only);lia,v,λi f o=>C.tr (p _ (by exact Zo _)) (p _ (by lia)) (p _ (by exact ZF o)) l1 (d _ i (by exact ZJ _ _) f o)⟩
    |false =>
     refine Zi ⟨rfl,rfl,by(try dsimp only);lia,by(try dsimp only);omega,by(try dsimp only);lia,λi f o=>?_,u⟩
     (try dsimp only at o)
     exact C.tr (p _ (by lia)) (p _ (by lia)) (p _ (by exact Zo _)) (d i (a+(l+F)/2) f (by lia) (by lia)) e2
  case post2 =>
   refine iV λP l F=>?_;rintro y ⟨e,M,O,H,v,u⟩;subst e;dsimp only at *;subst M;dsimp only;refine ZX (yM ?_);have ed:a+k-(a+l)=k-l:=by lia
   rw[ed];refine Zi ⟨L.bub (by lia) (by lia),rfl,λi j f o h3=>?_⟩;show le r (K (bubble _ _ _) i) (K (bubble _ _ _) j);rw[Dl (by lia) (by lia),Dl (by lia) (by lia)];by_cases D:i=a+k-(k-l)
   ·rw[Zr D];by_cases q:j=a+k-(k-l)
    ·rw[Zr q];exact C.refl (p _ (by exact Zo _))
    ·rw[Zm q,Zr (by omega)];exact u _ (by omega) (by lia)
   ·rw[Zm D];by_cases U:a+k-(k-l)<i/\i<=a+k
    ·rw[Zr U];rw[Zm (by lia),Zr (by omega)];exact d _ _ (by omega) (by lia) (by lia)
    ·rw[Zm U];by_cases q:j=a+k-(k-l)
     ·rw[Zr q];exact v i f (by lia)
     ·rw[Zm q];by_cases R:a+k-(k-l)<j/\j<=a+k
      ·rw[Zr R];exact d _ _ f (by omega) (by lia)
      ·rw[Zm R];exact d _ _ f o (by omega)
theorem vJ(b:Nat):∀(l:List Pi)(off:Nat)(arr:Array Pi),b+off+l.length<=arr.size →
  ((l.zipIdx off).foldl (λa x=>a.setIfInBounds (b+x.snd) x.fst) arr).toList=arr.toList.take (b+off)++l++arr.toList.drop (b+off+l.length)
 |[],off,arr,h=>by simp
 |x :: l,off,arr,h=>by
  rw[VX,Xm];rw[Za]at h;rw[vJ b l (off+1) _ (by rw[Array.size_setIfInBounds];lia)];dsimp only;have d:b+off<arr.toList.length:=by simp;lia
  rw[Array.toList_setIfInBounds,List.set_eq_take_append_cons_drop,Zr d];have e1:(arr.toList.take (b+off)++x :: arr.toList.drop (b+off+1)).take (b+(off+1))=arr.toList.take (b+off)++[x]:=by
   have:(arr.toList.take (b+off)).length=b+off:=by rw[Z8];lia
   rw[List.take_append,this,Yk (by rw[this];lia)];have:b+(off+1)-(b+off)=1:=by lia
   rw[this];rfl
  have e2:(arr.toList.take (b+off)++x :: arr.toList.drop (b+off+1)).drop (b+(off+1)+l.length)=arr.toList.drop (b+off+(l.length+1)):=by
   have:(arr.toList.take (b+off)).length=b+off:=by rw[Z8];lia
   rw[Wq,this,YG (by rw[this];lia),Yg];have:b+(off+1)+l.length-(b+off)=l.length+1:=by lia
   rw[this,List.drop_succ_cons,List.drop_drop];congr 1;lia
  rw[e1,e2];simp
end TS
end
section
open PySem PyProof.Rows
namespace TS
variable{κ:SortKind}
def iK{a:Array Pi}(e:a.toList=P++X++S)(j:Nat)(b:j<X.length):∃h:P.length+j<a.size,a[P.length+j]=X[j]:=by
 have f:a.size=P.length+X.length+S.length:=by
  have:=congrArg List.length e;simp at this;lia
 have h:P.length+j<a.size:=by lia
 refine⟨h,?_⟩;have d:a[P.length+j]?=X[j]?:=by
  rw[← ZD,e,ZZ,Yu (by exact ZJ _ _),Y7,Yz b]
 rw[getElem?_pos a _ h,getElem?_pos X _ b]at d;exact Zl d
def vb(C:JO prog w A E s κ G r){a:Array Pi}(e:a.toList=P++X++S)(g:∀x∈a,G x)(f:X.Pairwise (le r)):Seg r a P.length (P.length+X.length):=by
 intro i j h n q p o;obtain⟨d,rfl⟩:∃d,i=P.length+d:=⟨i-P.length,by lia⟩
 obtain⟨b,rfl⟩:∃b,j=P.length+b:=⟨j-P.length,by lia⟩
 obtain⟨_,e1⟩:=iK e d (by lia);obtain⟨_,e2⟩:=iK e b (by lia);rcases WI d b with m | l
 ·rw[e1,e2];exact YD.mp f d b (by lia) (by lia) m
 ·have:d=b:=by lia
  subst this;exact C.refl (g _ (Zg h))
def El(C:JO prog w A E s κ G r){P X Y S:List Pi}(hk:kindOf b=κ)(g:∀x∈arrOf b,G x)(hf:failedOf b=none)(u:(arrOf b).toList=P++X++(Y++S))(p1:(SZ b)[i]?=Z (P.length,X.length,U))(p2:(SZ b)[i+1]?=Z (P.length+X.length,Y.length,OT))(F:X.Pairwise (le r))(H:Y.Pairwise (le r))(nX:0<X.length)(nY:0<Y.length)(h:∀R M,M.Perm (X++Y)->M.Pairwise (le r)->(arrOf R).toList=P++M++S->kindOf R=kindOf b->failedOf R=none →
   SZ R=((SZ b).setIfInBounds i (P.length,X.length+Y.length,U)).eraseIdxIfInBounds (i+1)->Q B R):wpS (KB prog w) A E s (mergeAt' i) Q b:=by
 have e2:(arrOf b).toList=(P++X)++Y++S:=by rw[u];simp
 have hs:(arrOf b).size=P.length+X.length+Y.length+S.length:=by
  have:=congrArg List.length u;simp at this;lia
 have gm:∀x,x∈(arrOf b).toList->G x:=λx d=>g x (by simpa using d);have gX:∀x∈X,G x:=λx d=>gm x (by rw[u];simp[d]);have L:∀x∈Y,G x:=λx d=>gm x (by rw[u];simp[d]);have Sf:=vb C u g F;have N9:=vb C e2 g H;rw[Zs]at N9;obtain⟨hb,eb⟩:=iK e2 0 nY;simp only[Zs,Nat.add_zero]at hb eb;obtain⟨hl,el⟩:=iK u (X.length-1) (by lia);have gb:G (arrOf b)[P.length+X.length]:=g _ (Zg hb);unfold mergeAt';change wpS (KB prog w) A E s (_>>=_) Q b;dsimp only;refine ZX (W8 ?_);rw[show (sortPriv% PySem.Builtin.SortState.pending) b=SZ b from rfl,p1,p2];dsimp only;refine ZX (show wpS _ _ _ _ (set _) _ _ from ?_);refine(show wpS (KB prog w) A E s (modify (λ_=>SortSt.mk' (kindOf b) (arrOf b) (((SZ b).setIfInBounds i (P.length,X.length+Y.length,U)).eraseIdxIfInBounds (i+1)) (gallopOf b) (failedOf b))) _ b from Wf ?_);refine ZX (dY hb ?_);refine ZX (gC C (hint:=0) (by exact hk) gb g (by show P.length+X.length<=(arrOf b).size;exact ZF hb) nX Sf λk LX Lg Pa=>?_);dsimp only;have z1:∀x∈X.take k,le r x (arrOf b)[P.length+X.length]:=λx d=>by
  obtain⟨j,o,rfl⟩:=Yt d;rw[Z8]at o;obtain⟨t,f⟩:=iK u j (by lia);rw[XY,← f];exact Lg _ t (by exact ZJ _ _) (by lia)
 have z2:∀x∈X.drop k,le r (arrOf b)[P.length+X.length] x:=λx d=>by
  obtain⟨j,o,rfl⟩:=Yt d;rw[Z2]at o;obtain⟨t,f⟩:=iK u (k+j) (by lia);rw[XX,← f];exact Pa _ t (by lia) (by lia)
 have Uq:∀y∈Y,le r (arrOf b)[P.length+X.length] y:=λy e=>by
  obtain⟨j,o,rfl⟩:=Yt e;obtain⟨t,f⟩:=iK e2 j o;simp only[Zs]at t f;rw[← f];exact N9 _ _ hb t (by exact Zo _) (by exact ZJ _ _) (by lia)
 refine aA (λf=>?_) λf=>?_
 ·have KR:X.length<=k:=by simp at f;lia
  refine Zi (h _ (X++Y) (Xj _) ?_ (by show (arrOf b).toList=_;rw[u];simp) rfl hf rfl);rw[Z6];refine⟨F,H,λx d y e=>C.tr (gX x d) gb (L y e) (z1 x (by rw[Yk KR];exact d)) (Uq y e)⟩
 have VJ:k<X.length:=by simp at f;lia
 have ei:P.length+k+(X.length-k)-1=P.length+(X.length-1):=by lia
 refine ZX (dY (show P.length+k+(X.length-k)-1<(arrOf b).size by omega) ?_);have Uj:∀(q:P.length+k+(X.length-k)-1<(arrOf b).size),(arrOf b)[P.length+k+(X.length-k)-1]=X[X.length-1]:=λq=>by
  simp only[ei];exact el
 rw[Uj];have gl:G X[X.length-1]:=gX _ (Yx _);refine ZX (gC C (hint:=Y.length-1) (by exact hk) gl g (by show P.length+X.length+Y.length<=(arrOf b).size;lia) (by lia) N9 λm hm1 Qv hm3=>?_);dsimp only;have y1:∀x∈Y.take m,le r x X[X.length-1]:=λx d=>by
  obtain⟨j,o,rfl⟩:=Yt d;rw[Z8]at o;obtain⟨t,f⟩:=iK e2 j (by lia);simp only[Zs]at t f;rw[XY,← f];exact Qv _ t (by exact ZJ _ _) (by lia)
 have y2:∀x∈Y.drop m,le r X[X.length-1] x:=λx d=>by
  obtain⟨j,o,rfl⟩:=Yt d;rw[Z2]at o;obtain⟨t,f⟩:=iK e2 (m+j) (by lia);simp only[Zs]at t f;rw[XX,← f];exact hm3 _ t (by lia) (by lia)
 have xl:∀x∈X,le r x X[X.length-1]:=λx d=>by
  obtain⟨j,o,rfl⟩:=Yt d;rcases WI j (X.length-1) with Jl | hge
  ·exact YD.mp F j _ o (by omega) Jl
  ·have:j=X.length-1:=by omega
   subst this;exact C.refl gl
 refine aA (λe4=>?_) λe4=>?_
 ·have OG:m=0:=by simpa using e4
  subst OG;refine Zi (h _ (X++Y) (Xj _) ?_ (by show (arrOf b).toList=_;rw[u];simp) rfl hf rfl);rw[Z6];exact⟨F,H,λx d y e=>C.tr (gX x d) gl (L y e) (xl x d) (y2 y e)⟩
 have JQ:0<m:=by simp at e4;exact Z5 e4
 have ex:((arrOf b).extract (P.length+k) (P.length+X.length)).toList=X.drop k:=by
  rw[Wh,List.extract_eq_drop_take,u,ZZ,Wq,YG (by exact ZJ _ _),Yg];have:P.length+k-P.length=k:=by exact Y7 _ _
  rw[this,Wq,Nat.sub_eq_zero_of_le (by omega:k<=X.length),Wz];rw[Wj (by rw[Z2];lia),Yk (by rw[Z2];lia)]
 have D:((arrOf b).extract (P.length+X.length) (P.length+X.length+m)).toList=Y.take m:=by
  rw[Wh,List.extract_eq_drop_take,e2,ZZ,Wq,YG (by simp),Yg];have:P.length+X.length-(P++X).length=0:=by simp
  rw[this,Wz];have:P.length+X.length+m-(P.length+X.length)=m:=by exact Y7 _ _
  rw[this,Wj (by omega)]
 obtain⟨n,TM⟩:∃n,n=(arrOf b).extract (P.length+k) (P.length+X.length):=⟨_,rfl⟩
 obtain⟨v,TL⟩:∃v,v=(arrOf b).extract (P.length+X.length) (P.length+X.length+m):=⟨_,rfl⟩
 rw[← TM]at ex;rw[← TL]at D;have mx:∀x,x∈n->x∈X.drop k:=λx d=>by rw[← ex];simpa using d
 have my:∀x,x∈v->x∈Y.take m:=λx d=>by rw[← D];simpa using d
 have szx:n.size=X.length-k:=by have:=congrArg List.length ex;simpa using this
 have szy:v.size=m:=by have:=congrArg List.length D;simp at this;lia
 have O:∀x∈n,G x:=λx d=>gX x (Y3 (mx x d));have N:∀x∈v,G x:=λx d=>L x (Y2 (my x d));have y0:∀(q:0<v.size),v[0]=(arrOf b)[P.length+X.length]:=λq=>by
  rw[eb];have:v[0]?=Y[0]?:=by rw[← ZD,D,List.getElem?_take_of_lt JQ]
  rw[getElem?_pos v 0 q,getElem?_pos Y 0 nY]at this;exact Zl this
 have xl0:∀(q:n.size-1<n.size),n[n.size-1]=X[X.length-1]:=λq=>by
  have:n[n.size-1]?=X[X.length-1]?:=by
   rw[← ZD,ex,List.getElem?_drop];congr 1;lia
  rw[getElem?_pos n _ q,getElem?_pos X _ (by omega)]at this;exact Zl this
 have M:MC G r n v:=by
  refine⟨O,N,zA C O (by rw[ex];exact F.drop),zA C N (by rw[D];exact H.take),by lia,by lia,?_,λj o=>?_⟩
  ·rw[y0];exact z2 _ (mx _ (Zg _))
  ·rw[xl0];exact y1 _ (my _ (Zg o))
 have fin:∀(l:SC)(res:Array Pi),gL (SortSt.mk' (kindOf b) (arrOf b) (((SZ b).setIfInBounds i (P.length,X.length+Y.length,U)).eraseIdxIfInBounds (i+1)) (gallopOf b) (failedOf b)) l->MR r n v res →
   Q (failedOf l).isNone (SortSt.mk' (kindOf l) (res.toList.zipIdx.foldl (λa x=>a.setIfInBounds (P.length+k+x.snd) x.fst) (arrOf l)) (SZ l) (gallopOf l) (failedOf l)):=λl res kp z=>by
  obtain⟨k1,k2,k3,k4⟩:=kp;have k4':failedOf l=none:=k4.trans hf;have S5:arrOf l=arrOf b:=k2;rw[k4'];have hl:res.toList.length=X.length-k+m:=by
   rw[z.1.length_eq,ex,D];simp;exact YO hm1
  have mem:∀x,x∈res.toList->x∈X.drop k\/x∈Y.take m:=λx d=>by
   have:=z.1.mem_iff.mp d;rw[ex,D]at this;exact Zd.mp this
  have bk:=vJ (P.length+k) res.toList 0 (arrOf l) (by rw[S5];omega);rw[S5,Nat.add_zero]at bk;have t1:(arrOf b).toList.take (P.length+k)=P++X.take k:=by
   rw[u,ZZ,List.take_append,Yk (by exact ZJ _ _),Y7,Wj (by omega)]
  have t2:(arrOf b).toList.drop (P.length+k+res.toList.length)=Y.drop m++S:=by
   rw[e2,ZZ,Wq,YG (by rw[Zs];omega),Yg];have:P.length+k+res.toList.length-(P++X).length=m:=by rw[Zs];omega
   rw[this,List.drop_append_of_le_length (by omega)]
  refine h _ (X.take k++res.toList++Y.drop m) ?_ ?_ ?_ k1 rfl k3
  ·have p:(X.take k++(X.drop k++Y.take m)++Y.drop m)=X++Y:=by
    rw[← ZZ,YC,ZZ,YC]
   rw[← p];have:=z.1;rw[ex,D]at this;exact(this.append_left _).append_right _
  ·rw[Z6,Z6];refine⟨⟨F.take,z.2,λx d y e=>?_⟩,H.drop,λx d y e=>?_⟩
   ·rcases mem y e with e | e
    ·have:=F;rw[← YC k X,Z6]at this;exact this.2.2 x d y e
    ·exact C.tr (gX _ (Y2 d)) gb (L _ (Y2 e)) (z1 x d) (Uq y (Y2 e))
   ·rcases Zd.mp d with d | d
    ·exact C.tr (gX _ (Y2 d)) gb (L _ (Y3 e)) (z1 x d) (Uq y (Y3 e))
    ·rcases mem x d with d | d
     ·exact C.tr (gX _ (Y3 d)) gl (L _ (Y3 e)) (xl x (Y3 d)) (y2 y e)
     ·have:=H;rw[← YC m Y,Z6]at this;exact this.2.2 x d y e
  ·show (List.foldl _ (arrOf l) _).toList=_;rw[S5,bk,t1,t2];simp
 refine aA (λ_=>?_) λ_=>?_
 ·refine ZX (?_:wpS (KB prog w) A E s (oN ((arrOf b).extract (P.length+k) (P.length+X.length)) ((arrOf b).extract (P.length+X.length) (P.length+X.length+m))) _ _);rw[← TM,← TL];refine GZ C (by exact hk) M λres l kp z=>?_;exact ZX (Wf (ZX (W8 (Zi (fin l res kp z)))))
 ·refine ZX (?_:wpS (KB prog w) A E s (nK ((arrOf b).extract (P.length+k) (P.length+X.length)) ((arrOf b).extract (P.length+X.length) (P.length+X.length+m))) _ _);rw[← TM,← TL];refine Gj C (by exact hk) M λres l kp z=>?_;exact ZX (Wf (ZX (W8 (Zi (fin l res kp z)))))
end TS
end
section
open PySem PyProof.Rows
namespace TS
variable{κ:SortKind}
noncomputable def jK:Nat->List (List Pi)->List (Nat×Nat)
 |_,[]=>[]
 |o,Rq :: Rs=>(o,Rq.length) :: jK (o+Rq.length) Rs
theorem jo:∀(a b:List (List Pi))(o:Nat),jK o (a++b)=jK o a++jK (o+a.flatten.length) b
 |[],b,o=>by simp[jK]
 |Rq :: a,b,o=>by
  show (o,Rq.length) :: jK (o+Rq.length) (a++b)=(o,Rq.length) :: (jK (o+Rq.length) a++_);rw[jo a b];simp[XE]
theorem ji:∀(a:List (List Pi))(o:Nat),(jK o a).length=a.length
 |[],o=>rfl
 |Rq :: a,o=>by show (jK _ a).length+1=_;rw[ji a];rfl
theorem pJ{α β:Type}(f:α->β):∀(l:List α)(i:Nat),(l.eraseIdx i).map f=(l.map f).eraseIdx i
 |[],i=>rfl
 |x :: l,0=>rfl
 |x :: l,i+1=>by show f x :: (l.eraseIdx i).map f=f x :: (l.map f).eraseIdx i;rw[pJ f l i]
structure RI(κ:SortKind)(r:Pi->Pi->Bool)(a₀:Array Pi)(st:SC)(runs:List (List Pi))(rest:List Pi):Prop where
 kind:kindOf st=κ
 fail:failedOf st=none
 arr:(arrOf st).toList=runs.flatten++rest
 pend:(SZ st).toList.map (λp=>(p.1,p.2.1))=jK 0 runs
 ok:∀Rq∈runs,0<Rq.length/\Rq.Pairwise (le r)
 perm:(arrOf st).Perm a₀
def RI.good{G:Pi->Prop}{r:Pi->Pi->Bool}{d:Array Pi}{b:SC}{a:List (List Pi)}{rest:List Pi}(h:RI κ r d b a rest)(g:∀x∈d,G x):∀x∈arrOf b,G x:=λx e=>by
 have:x∈(arrOf b).toList:=by simpa using e
 exact g x (by simpa using(Xq.mp h.perm).mem_iff.mp this)
def RI.NJ(h:RI κ r d b a rest):(SZ b).size=a.length:=by
 have:=congrArg List.length h.pend;rw[Zy,ji]at this;simpa using this
theorem RI.at{g:Array Pi}{X:List Pi}(h:RI κ r g f (d++X :: post) rest):∃pw,(SZ f)[d.length]?=Z (d.flatten.length,X.length,pw):=by
 have e:((SZ f).toList.map (λp=>(p.1,p.2.1)))[d.length]?=Z (d.flatten.length,X.length):=by
  rw[h.pend,jo,Yu (by rw[ji];exact Zo _),ji,Vm,XM];rfl
 rw[ZV,ZD]at e;obtain⟨⟨a,b,c⟩,e1,e2⟩:=Zv.mp e;injection e2 with e3 e4
 dsimp only at e3 e4;exact⟨c,by rw[e1,e3,e4]⟩
theorem rB{α:Type}:∀{l:List α}{i:Nat},i+1<l.length->∃pre X Y post,l=pre++X :: Y :: post/\pre.length=i
 |[],i,h=>by simp at h
 |[x],i,h=>by simp at h
 |x :: y :: l,0,h=>⟨[],x,y,l,rfl,rfl⟩
 |x :: y :: l,i+1,h=>by
  obtain⟨pre,X,Y,post,e,a⟩:=rB (l:=y :: l) (i:=i) (by simp at h ⊢;omega);exact⟨x :: pre,X,Y,post,by rw[e];rfl,by rw[Za,a]⟩
def RI.merge(C:JO prog w A E s κ G r)(h:RI κ r j d a rest)(g:∀x∈j,G x)(hi:i+1<a.length)(hq:∀f n,RI κ r j f n rest->n.length+1=a.length->n.flatten.length=a.flatten.length->Q B f):wpS (KB prog w) A E s (mergeAt' i) Q d:=by
 obtain⟨pre,X,Y,post,rfl,rfl⟩:=rB hi;obtain⟨pw,L⟩:=h.at;have h':RI κ r j d ((pre++[X])++Y :: post) rest:=by
  have e:(pre++[X])++Y :: post=pre++X :: Y :: post:=by simp
  rw[e];exact h
 obtain⟨OT,H⟩:=h'.at;have p:=h.ok X (by simp);have o:=h.ok Y (by simp);have l:(SZ d)[pre.length+1]?=Z (pre.flatten.length+X.length,Y.length,OT):=by
  simpa using H
 refine El C (P:=pre.flatten) (X:=X) (Y:=Y) (S:=post.flatten++rest) h.kind (h.good g) h.fail (by rw[h.arr];simp) L l p.2 o.2 p.1 o.1 λf M D U q R O N=>?_;have F:=D.length_eq;rw[Zs]at F;refine hq f (pre++M :: post) ⟨R.trans h.kind,O,by rw[q];simp,?_,λRq b=>?_,?_⟩ (by simp;exact XE _ _ _) (by simp;lia)
 ·rw[N];have e0:(((SZ d).setIfInBounds pre.length (pre.flatten.length,X.length+Y.length,pw)).eraseIdxIfInBounds (pre.length+1)).toList=((SZ d).toList.set pre.length (pre.flatten.length,X.length+Y.length,pw)).eraseIdx (pre.length+1):=by
   simp
  rw[e0,pJ,WH,h.pend];show ((jK 0 (pre++X :: Y :: post)).set pre.length (pre.flatten.length,X.length+Y.length)).eraseIdx (pre.length+1)=jK 0 (pre++M :: post);rw[jo,jo];have ol:=ji pre 0;have e1:∀(u v t:List (Nat×Nat))(x y z:Nat×Nat),u.length=pre.length->((u++x :: y :: t).set pre.length z).eraseIdx (pre.length+1)=u++z :: t:=λu v t x y z m=>by
   rw[List.set_append_right _ _ (by exact Xw m),m,Vm,List.eraseIdx_append_of_length_le (by lia),m];have:pre.length+1-pre.length=1:=by exact Y7 _ _
   rw[this];rfl
  show ((jK 0 pre++(0+pre.flatten.length,X.length) :: (0+pre.flatten.length+X.length,Y.length) :: jK (0+pre.flatten.length+X.length+Y.length) post).set _ _).eraseIdx _=jK 0 pre++(0+pre.flatten.length,M.length) :: jK (0+pre.flatten.length+M.length) post;rw[e1 _ [] _ _ _ _ ol,F,XM,XE]
 ·rcases Zd.mp b with b | b
  ·exact h.ok Rq (by simp[b])
  ·rcases Zk.mp b with rfl | b
   ·exact⟨by lia,U⟩
   ·exact h.ok Rq (by simp[b])
 ·refine Array.Perm.trans ?_ h.perm;rw[Xq,q,h.arr];have e:(pre++X :: Y :: post).flatten++rest=pre.flatten++(X++Y)++(post.flatten++rest):=by simp
  rw[e];exact(D.append_left _).append_right _
end TS
end
section
open PySem PyProof.Rows
namespace TS
variable{κ:SortKind}
def RI.loc(h:RI κ r f d a rest)(L:Lc a.flatten.length d b):RI κ r f b a ((arrOf b).toList.drop a.flatten.length):=by
 refine⟨L.kind.trans h.kind,L.fail.trans h.fail,?_,by rw[L.pend];exact h.pend,h.ok,L.perm.trans h.perm⟩;have e:(arrOf b).toList.take a.flatten.length=a.flatten:=by
  have e2:(arrOf d).toList.take a.flatten.length=a.flatten:=by rw[h.arr,List.take_left]
  refine Eq.trans ?_ e2;apply X9;intro i;rw[List.getElem?_take,List.getElem?_take];split
  ·rename_i g;rw[ZD,ZD];exact L.pre i g
  ·rfl
 conv=>lhs;rw[← YC a.flatten.length (arrOf b).toList,e]
theorem RI.push{a:List (List Pi)}(h:RI κ r f b a rest)(j:a.flatten.length=d)(l:0<n)(i:n<=rest.length)(g:(rest.take n).Pairwise (le r)) :
  RI κ r f (setPending b ((SZ b).push (d,n,0))) (a++[rest.take n]) (rest.drop n):=by
 refine⟨h.kind,h.fail,?_,?_,λRq e=>?_,h.perm⟩
 ·show (arrOf b).toList=_;rw[h.arr];simp
 ·show ((SZ b).push (d,n,0)).toList.map _=_;rw[Vd,Yo,h.pend,jo,XM,j];show _++[(d,n)]=_++[(d,(rest.take n).length)];rw[Z8,YO i]
 ·rcases Zd.mp e with e | e
  ·exact h.ok Rq e
  ·rw[Ze.mp e];exact⟨by rw[Z8];lia,g⟩
theorem vO{α β:Type}(f:α->β)(g:α->α)(a:∀x,f (g x)=f x):∀(l:List α)(i:Nat),(l.modify i g).map f=l.map f
 |[],i=>by simp
 |x :: l,0=>by simp[a]
 |x :: l,i+1=>by simp[vO f g a l i]
def RI.mod(h:RI κ r e b a rest)(i d:Nat):RI κ r e (setPending b ((SZ b).modify i λx=>(x.1,x.2.1,d))) a rest :=
 ⟨h.kind,h.fail,h.arr,by
  show ((SZ b).modify i λx=>(x.1,x.2.1,d)).toList.map _=_;rw[Array.toList_modify,vO (λp:Nat×Nat×Nat=>(p.1,p.2.1)) (λx=>(x.1,x.2.1,d)) (λx=>rfl),h.pend],h.ok,h.perm⟩
def Sg.pw(h:Sg r b a (a+n))(f:a+n<=b.size):((b.toList.drop a).take n).Pairwise (le r):=by
 rw[YD];intro i j e d g;rw[Z8,Z2]at e d;rw[XY,XY,XX,XX];have:=h (a+i) (a+j) (by exact ZJ _ _) (by lia) (by lia);rw[yB (by lia),yB (by lia)]at this;simpa using this
theorem RI.size{a₀:Array Pi}{st:SC}{a:List (List Pi)}(h:RI κ r a₀ st a rest):a.flatten.length+rest.length=a₀.size:=by
 have e:=congrArg List.length h.arr;rw[Zs,Yl,h.perm.size_eq]at e;exact e.symm
def Cc{r:Pi->Pi->Bool}{a:List (List Pi)}(h:∀Rq∈a,0<Rq.length/\Rq.Pairwise (le r)):a.length<=a.flatten.length:=by
 induction a with
 |nil=>exact Zo _
 |cons Rq Rs b =>
  have f:=(h Rq (Zx ..)).1;have e:=b λx d=>h x (Zw _ d);simp only[Za,ZK,Zs];lia
def DD{c:Prop}[Decidable c](e:a+1<n)(d:b+1<n):(if c then a else b)+1<n:=by
 split
 ·exact e
 ·exact d
def xf{prog:Re}{w:XAA}{A:SB}{E:Yy}{s:IR}{α:Type}{a b d:Nat->Prop}{c:Nat->Prop}[∀n,Decidable (c n)]{x Rq:Nat->StateT SC Sem α}{Q:α->SC->Prop}{P:Nat->SC->Prop}{f:SC}(D:∀n e,P n e->wpS (KB prog w) A E s (Rq n) Q e)(g:∀m,a m->b m->d m->¬c m->P m f)(h:∀m,a m->b m->d m->c m->(∀n e,P n e->wpS (KB prog w) A E s (Rq n) Q e)->wpS (KB prog w) A E s (x m) Q f):∀m,a m->b m->d m->wpS (KB prog w) A E s (if c m then x m else Rq m) Q f :=
 λm p q z=>aA (λy=>h m p q z y D) λy=>D m f (g m p q z y)
def vS(C:JO prog w A E s κ G r){a₀:Array Pi}{st:SC}(hk:kindOf st=κ)(g:∀x∈a₀,G x)(ha:arrOf st=a₀)(hp:SZ st=#[])(hf:failedOf st=none)(h:∀d,(arrOf d).Perm a₀->failedOf d=none->(arrOf d).toList.Pairwise (le r)->Q () d):wpS (KB prog w) A E s sortRuns' Q st:=by
 have Rq0:RI κ r a₀ st [] a₀.toList:=⟨hk,hf,by rw[ha];rfl,by rw[hp];rfl,λRq q=>by simp at q,by rw[ha]⟩
 unfold sortRuns';change wpS (KB prog w) A E s (_>>=_) Q st;dsimp only;refine ZX (W8 ?_);have esz:((sortPriv% PySem.Builtin.SortState.a) st).size=a₀.size:=by rw[← ha]
 rw[esz];refine ZX (Xl (Yb
  (I:=λx c d=>c.1=none/\∃runs rest,RI κ r a₀ d runs rest/\runs.flatten.length=c.2/\x<=c.2)
  (Q:=λc d=>c.1=none/\∃runs,RI κ r a₀ d runs []) ?step ?fin ?init) ?post)
 case init=>exact⟨rfl,_,_,Rq0,rfl,Zo _⟩
 case fin =>
  refine all2 λu lo=>?_;rintro d ⟨i,runs,rest,Rq,j,hx⟩;dsimp only at *;have:=Rq.size;have e:rest=[]:=List.eq_nil_of_length_eq_zero (by lia);subst e;exact⟨i,runs,Rq⟩
 case step =>
  intro x;refine all2 λu lo=>?_;rintro d _ hx ⟨i,runs,rest,Rq,j,hxl⟩;dsimp only at *;have N:=Rq.size;refine aA (λe=>?_) λe=>?_
  ·have e:rest=[]:=List.eq_nil_of_length_eq_zero (by lia);subst e;exact Zi ⟨rfl,runs,Rq⟩
  have asz:(arrOf d).size=a₀.size:=Rq.perm.size_eq;refine ZX (EE C Rq.kind (Rq.good g) (by lia) (by rw[asz];lia) λm R L2 m1 m2 S2=>?_);dsimp only;have U:RI κ r a₀ R runs ((arrOf R).toList.drop runs.flatten.length):=Rq.loc (by rw[j];exact L2);have Us:(arrOf R).size=a₀.size:=U.perm.size_eq;revert m;refine xf (P:=λnn o=>∃f,RI κ r a₀ o runs f/\f.length=a₀.size-lo/\0<nn/\nn<=f.length/\(f.take nn).Pairwise (le r)) ?D ?two ?one
  case one =>
   intro m m1 m2 S2 e2 Dk;refine ZX (hU ?_);refine ZX (EH C U.kind (U.good g) m1 (by omega) (by lia) S2 λo L3 S3=>?_);refine aA (λe=>absurd e (by decide)) λ_=>?_;have S:RI κ r a₀ o runs ((arrOf o).toList.drop runs.flatten.length):=U.loc (by rw[j];exact L3);have Ur:(arrOf o).size=a₀.size:=S.perm.size_eq;obtain⟨f,y⟩:∃l,l=(arrOf o).toList.drop runs.flatten.length:=⟨_,rfl⟩
   have M:RI κ r a₀ o runs f:=by rw[y];exact S
   have JU:=j;have RR:f.length=a₀.size-lo:=by rw[y,Z2,Yl,Ur,j]
   obtain⟨n3,en3⟩:∃n,n=min (a₀.size-lo) ((sortPriv% PySem.Builtin.minRun) a₀.size a₀.size 0):=⟨_,rfl⟩
   rw[← en3]at S3 ⊢;have F:0<n3:=by lia
   have H:n3<=f.length:=by omega
   have L:(f.take n3).Pairwise (le r):=by rw[y,j];exact S3.pw (by lia)
   exact Dk n3 o ⟨f,M,RR,F,H,L⟩
  case two =>
   intro m m1 m2 S2 e2;obtain⟨f,y⟩:∃l,l=(arrOf R).toList.drop runs.flatten.length:=⟨_,rfl⟩
   have M:RI κ r a₀ R runs f:=by rw[y];exact U
   have JU:=j;have RR:f.length=a₀.size-lo:=by rw[y,Z2,Yl,Us,j]
   have F:0<m:=by exact Nat.lt_of_succ_le m1
   have H:m<=f.length:=by lia
   have L:(f.take m).Pairwise (le r):=by rw[y,j];exact S2.pw (by lia)
   exact⟨f,M,RR,F,H,L⟩
  case D =>
   rintro nn o ⟨f,M,RR,F,H,L⟩;have JU:=j;refine ZX (W8 ?_);cases hb:(SZ o).back? with
   |none =>
    dsimp only;refine ZX (Wf ?_);refine Zi ⟨rfl,_,_,M.push JU F H L,?_,by(try dsimp only);lia⟩;rw[Ys,Zs,WG,Z8]
    (try dsimp only)
    lia
   |some v =>
    obtain⟨s1,n1,pw1⟩:=v;dsimp only;refine ZX (Xl (Yb
     (I:=λx c d=>c.1=none/\∃p,RI κ r a₀ d p f/\p.flatten.length=lo)
     (Q:=λc d=>c.1=none/\∃p,RI κ r a₀ d p f/\p.flatten.length=lo) ?stepM ?finM ?initM) ?postM)
    case initM=>exact⟨rfl,_,M,JU⟩
    case finM=>exact λc d h=>h
    case stepM =>
     intro x;refine all2 λu c2=>?_;rintro d _ hx ⟨i,p,Rq,q⟩;refine ZX (W8 ?_);split
     ·rename_i a b c hh;refine aA (λ_=>?_) λ_=>?_
      ·exact Zi ⟨rfl,p,Rq,q⟩
      ·have O5:(SZ d).size > 1:=by
        by_cases z:(SZ d).size > 1
        ·exact z
        ·rw[Zm z]at hh;cases hh
       have Ot:=Rq.NJ;refine ZX (Rq.merge C g (show (SZ d).size-2+1<p.length by omega) λst4 MA Uu l4 f4=>?_);refine aA (λe=>absurd e (by decide)) λ_=>?_;exact Zi ⟨rfl,MA,Uu,by rw[f4,q]⟩
     ·exact Zi ⟨rfl,p,Rq,q⟩
    case postM =>
     refine all2 λu c2=>?_;rintro d ⟨i,p,Rq,q⟩;dsimp only at *;subst i;dsimp only;refine ZX (Wf ?_);refine ZX (Wf ?_);refine Zi ⟨rfl,_,_,(Rq.mod _ _).push q F H L,?_,by(try dsimp only);lia⟩;rw[Ys,Zs,WG,Z8]
     (try dsimp only)
     lia
 case post =>
  refine all2 λu lo=>?_;rintro d ⟨i,runs,Rq⟩;dsimp only at *;subst i;dsimp only;have rl:=Cc Rq.ok;have N:=Rq.size;simp only[W0,Nat.add_zero]at N;refine ZX (Xl (Yb
   (I:=λx c d=>c.1=none/\∃runs,RI κ r a₀ d runs []/\(runs.length<=1\/runs.length+x<=a₀.size))
   (Q:=λc d=>c.1=none/\∃runs,RI κ r a₀ d runs []/\runs.length<=1) ?step2 ?fin2 ?init2) ?post2)
  case init2=>exact⟨rfl,runs,Rq,.inr (by lia)⟩
  case fin2 =>
   refine all2 λu c2=>?_;rintro d ⟨i,runs,Rq,O⟩;exact⟨i,runs,Rq,by lia⟩
  case step2 =>
   intro x;refine all2 λu c2=>?_;rintro d _ hx ⟨i,runs,Rq,O⟩;have Ot:=Rq.NJ;refine ZX (W8 ?_);refine aA (λe=>?_) λe=>?_
   ·exact Zi ⟨rfl,runs,Rq,by rw[← Ot];exact e⟩
   ·have e':1<runs.length:=by rw[← Ot];exact VY e
    refine ZX (Rq.merge C g ?_ λst4 MA Uu l4 f4=>?_)
    ·exact DD (show (SZ d).size-2-1+1<_ by omega) (show (SZ d).size-2+1<_ by lia)
    ·refine aA (λe=>absurd e (by decide)) λ_=>?_;exact Zi ⟨rfl,MA,Uu,by lia⟩
  case post2 =>
   refine all2 λu c2=>?_;rintro d ⟨i,runs,Rq,O⟩;dsimp only at *;subst i;refine Zi (h d Rq.perm Rq.fail ?_);rw[Rq.arr,ZM]
   match runs,O,Rq.ok with
   |[],_,_=>exact List.Pairwise.nil
   |[X],_,ok =>
    rw[WG];exact(ok X (Zx ..)).2
   |X :: Yq0 :: t,O,_=>simp at O
end TS
end
section
open PySem PyProof.Rows
namespace TS
noncomputable def dm(h:UV)(a:KM)(b:V0):Heap:=((h.update a (Obj.mapSeq λ_=>#[])).push (seqObj "tuple" b.toArray 0)).push (seqObj "list" #[] 0)
def lR{a:Array Pi}(f:a.Perm (pairsOf e)):(a.map (·.2)).toList.Perm e/\(a.map (·.2)).toList.map (λv=>(v,v))=a.toList:=by
 have d:=Xq.mp f;rw[pairsOf_toList]at d;constructor
 ·rw[VO];refine(d.map _).trans ?_;rw[show (λx:Pi=>x.2)=Prod.snd from rfl,VU (Zo _)]
 ·rw[VO,ZA]
  conv=>rhs;rw[← WQ a.toList]
  apply Xz;intro p b;have:=mem_zip_self (d.mem_iff.mp b);exact Prod.ext this.1.symm M
def uf{h:UV}{vs:V0}(b:a<h.objs.size)(g:(h.update a (Obj.mapSeq λ_=>#[])).get? a=Z o):(dm h a vs).get? a=Z o:=by
 have e:a≠(h.update a (Obj.mapSeq λ_=>#[])).objs.size:=by rw[Xn];exact Zc b
 have d:a≠((h.update a (Obj.mapSeq λ_=>#[])).push (seqObj "tuple" vs.toArray 0)).objs.size:=by rw[Xi,Xn];exact Zc (YW b)
 exact(YN _ _ _ d).trans ((YN _ _ _ e).trans g)
def Aq{s:IR}{vs:V0}{l:SortKind}(i:s.heap.get? a=Z (seqObj "list" vs.toArray n))(D:JO prog w A E { s with heap:=dm s.heap a vs } l G r)(C:∀v∈vs,G (v,v))(f:vs.length<=KF)(N:2<=vs.length->∀Q:SortKind->IR->Prop,Q l { s with heap:=dm s.heap a vs }->PP (KB prog w) A (keyKind' vs.toArray) Q E { s with heap:=dm s.heap a vs })(h:∀out:V0,out.Perm vs->(out.map λv=>(v,v)).Pairwise (le r)->P (.done (.ret .none)) { s with heap:=sortedHeap s.heap a vs out.toArray }) :
  PP (KB prog w) A (Builtin.«list.sort» ⟨[.ref a],[]⟩) P E s:=by
 have RU:vs.toArray.size=vs.length:=rfl;obtain⟨R,o⟩:∃k,(s.heap.update a (Obj.mapSeq λ_=>#[])).get? a=Z (seqObj "list" #[] k):=⟨_,WC i _⟩
 have at2:=uf (vs:=vs) (ZR i) o;have done:∀b:Array Pi,b.Perm (pairsOf vs)->b.toList.Pairwise (le r)->P (.done (.ret .none)) { s with heap:=sortedHeap s.heap a vs (b.map (·.2)) }:=λb d j=>by
  obtain⟨u,t⟩:=lR d;have:=h _ u (by rw[t];exact j)
  rwa [Array.toArray_toList]at this
 have room:∀b:Array Pi,b.Perm (pairsOf vs)->(b.map (·.2)).size<=KF+1:=λb d=>by
  rw[Array.size_map,d.size_eq,pairsOf_size];exact Vj f
 rw[list_sort_plain];refine Zu (listItems_at i M (Zu (XZ i M (Zu (Vq o M (Zu (wpAny_newTuple (Zu (W5 (YE ?_))))))))));refine(show PP (KB prog w) A _ P E { s with heap:=dm s.heap a vs } from ?_);dsimp only;by_cases two:2<=vs.length
 ·have no:¬(vs.toArray.size<2):=by lia
  rw[Zm no,Zm no];have good:∀x∈pairsOf vs,G x:=λx z=>by
   have m:x∈(pairsOf vs).toList:=by simpa using z
   rw[pairsOf_toList]at m;obtain⟨e1,e2⟩:=mem_zip_self m;have:=C x.1 e2;obtain⟨p,q⟩:=x;dsimp only at e1 this;rw[← e1];exact this
  refine Zu (N two _ (Zu (YR (vS D (a₀:=pairsOf vs) (st:=SortSt.mk' l (vs.toArray.zip vs.toArray) #[] 7 Y)
   (Q:=λ_ g=>(arrOf g).Perm (pairsOf vs)/\failedOf g=Y/\(arrOf g).toList.Pairwise (le r)) M good M M M λg L H F=>⟨L,H,F⟩) ?_ λ_ _ e=>e)))
  rintro⟨⟨⟩,g⟩ O ⟨rfl,d,j,y⟩;refine Zu (Vq at2 M (Zu (XZ at2 M ?_ (hsz2:=room _ d))));rw[j];simp only[bne_self_eq_false,Yf,↓reduceIte];exact Zh (done _ d y)
 ·have no:vs.toArray.size<2:=by lia
  rw[Zr no,Zr no];refine Zu (Zh (Zu ?_));rw[StateT.run_pure];refine Zh (Zu (Vq at2 M (Zu (XZ at2 M ?_ (hsz2:=room _ (Array.Perm.refl _))))));simp only[bne_self_eq_false,Yf,↓reduceIte];refine Zh (done (vs.toArray.zip vs.toArray) (Array.Perm.refl _) ?_)
  match vs,two with
  |[],_=>simp
  |[_],_=>simp
  |_ :: _ :: _,q=>simp at q
def nl(h:b<n)(k:Nat):b≠n+k:=Zc (ZG h (ZJ _ _))
structure NC(prog:Re)(w:XAA)(Q:Yy)(vs:V0)(s1:IR) where
 G:Pi->Prop
 r:Pi->Pi->Bool
 kd:SortKind
 hC:∀(A:SB)(E:Yy)(h:UV),(∀b o,s1.heap.get? b=some o->h.get? b=some o)->JO prog w A E { s1 with heap:=h } kd G r
 hG:∀v∈vs,G (v,v)
 hlen:vs.length<=KF
 O9:2<=vs.length->∀(A:SB)(E:Yy)(h:UV),(∀b o,s1.heap.get? b=some o->h.get? b=some o)->∀Q:SortKind->IR->Prop,Q kd { s1 with heap:=h }->PP (KB prog w) A (keyKind' vs.toArray) Q E { s1 with heap:=h }
 h:∀(out:V0)(h':UV)(e:Nat),out.Perm vs->(out.map λv=>(v,v)).Pairwise (le r)->(∀b o,s1.heap.get? b=some o->h'.get? b=some o)->h'.get? s1.heap.objs.size=some (seqObj "list" out.toArray e)->Q (.ref s1.heap.objs.size) { s1 with heap:=h' }
def uU{A:SB}(n:∀(g:SB)(p:Yy),g.handled=A.handled->PP (KB prog w) g (collect x) (λa s1=>Nonempty (NC prog w Q a s1)) p s) :
  PP (KB prog w) A (call (.builtin "sorted") [x]) Q E s:=by
 refine Calls.call_function_entry kind_sorted plain_sorted entry_sorted (args_sorted1 _) (show PP _ _ (Builtin.«sorted» _) _ _ _ from ?_);unfold Builtin.«sorted»;refine Zu (m:=checkCount "sorted" 1 1 _) (Zh (Zu (YR (n A.in1 (λ_ _=>False) M) ?_ λ_ _ e=>e.elim)));rintro a s1 ⟨⟨G,r,kd,hC,hG,hlen,O9,h⟩⟩;refine Zu (W5 ?_ (by exact hlen));have d:(s1.heap.push (seqObj "list" a.toArray 0)).get? s1.heap.objs.size=Z (seqObj "list" a.toArray 0):=ZW _ M;have old:∀b o,s1.heap.get? b=Z o->(dm (s1.heap.push (seqObj "list" a.toArray 0)) s1.heap.objs.size a).get? b=Z o:=λb o e=>by
  have hb:=ZR e;unfold dm;rw[YN _ _ _ (by rw[Xi,Xn,Xi];exact nl hb 2),YN _ _ _ (by rw[Xn,Xi];exact nl hb 1),Xr _ _ _ _ (Zc hb),YN _ _ _ (Zc hb)];exact e
 show PP _ _ _ _ _ { s1 with heap:=s1.heap.push (seqObj "list" a.toArray 0) };refine Zu (YE (Xd slot_list_sort ⟨_,d,rfl⟩ entry_list_sort (Aq d (hC _ _ _ old) hG hlen (λl=>O9 l _ _ _ old) λout j i=>⟨_,rfl,?_⟩) (args_list_sort _)));obtain⟨e,he⟩:=sortedHeap_at (out:=out.toArray) d;exact Zh ⟨_,rfl,h out _ e j i (λb o f=>by
  have hb:=ZR f;show (sortedHeap (s1.heap.push (seqObj "list" a.toArray 0)) s1.heap.objs.size a out.toArray).get? b=Z o;rw[sortedHeap_old (Zc hb) (by rw[Xi];exact YW hb),YN _ _ _ (Zc hb)];exact f) he⟩
end TS
end
section
namespace L2
open PySem PySem.Spec PyProof.Rows TS
section
theorem sj:∀{a:V0},(∀v∈a,∃x t,v=Value.str x t)->aN ((a.map strOf).map V.str) a
 |[],_=>.nil
 |u :: a,h=>by
  obtain⟨x,t,rfl⟩:=h u (Zx ..);exact .cons ⟨t,rfl⟩ (sj λv b=>h v (Zw _ b))
end
end L2
end
section
namespace VS
mutual
theorem jA:∀(n:Nat)(t:T),Jn n t=B->eqT t t=B
 |n,.non,_=>by simp
 |n,.bl _,_=>by simp
 |n,.int _,_=>by simp
 |n,.str _,_=>by simp
 |n+1,.tup l,h=>by
  simp only[Jn,Yq]at h;simp only[eqT];exact lh n l h
 |n+1,.lst l,h=>by
  simp only[Jn,Yq]at h;simp only[eqT];exact lh n l h
 |0,.tup _,h=>by simp at h
 |0,.lst _,h=>by simp at h
 |_,.scr _,h=>by simp at h
 |_,.dct _ _,h=>by simp at h
 |_,.obj _ _,h=>by simp at h
theorem lh:∀(n:Nat)(l:V8),(∀t∈l,Jn n t=B)->g0 l l=B
 |_,[],_=>rfl
 |n,t :: r,h=>by
  simp only[g0,ZS];exact⟨jA n t (h t Zx),lh n r λu a=>h u (Zw _ a)⟩
end
def iJ{tg:Tg}{it:Ju}{body:Sx}{U:Env}{m:Md}{l:V8}(e:it U=Z (m,l))(h:UO m=B):gM tg it body U=forL tg body l U:=by
 unfold gM;rw[e];exact Zr h
def dU{t:T}(h:b U=Z a)(d:g (trees a)=Z (.fr,t)):bU g b U=Z (.fr,t):=by
 simp only[bU,h,Zt,d]
def aK{i:Nat}{e:Ex}{U:Env}{m:Md}{t:T}(h:e U=Z (m,t))(a:m ≠ .bo)(b:i<U.length):aI i e U=Z (.nx (U.set i (Z (.pu t)))):=by
 simp only[aI,h,Zt];cases m with
 |bo=>exact absurd M a
 |_=>simp[b]
end VS
end
section
namespace VS
open PySem PySem.Spec PyProof.Rows L2
def Hh{a b c:Tx}(h:a<b)(d:¬c<b):a<c:=by
 by_cases e:a<c
 ·exact e
 ·exact absurd (List.lt_of_le_of_lt (Vz.mp e) h) d
theorem jW(x:Tx):∀l:List Tx,(oF x l).Perm (x :: l)
 |[]=>Xj _
 |y :: r=>by
  unfold oF;split
  ·exact((jW x r).cons y).trans (List.Perm.swap _ _ _)
  ·exact Xj _
theorem jx:∀l:List Tx,(eI l).Perm l
 |[]=>Xj _
 |x :: l=>(jW x _).trans ((jx l).cons x)
theorem se(x:Tx):∀{l:List Tx},l.Pairwise (λa b=>¬b<a)->(oF x l).Pairwise (λa b=>¬b<a)
 |[],_=>by simp[oF]
 |y :: r,h=>by
  unfold oF;rw[lU];obtain⟨f,g⟩:=YV.mp h;split
  ·rename_i c;have e:y<x:=by simpa using c
   refine YV.mpr ⟨λz d=>?_,se x g⟩;rcases Zk.mp ((jW x r).mem_iff.mp d) with rfl | d
   ·exact λz=>List.lt_irrefl _ (List.lt_trans e z)
   ·exact f z d
  ·rename_i c;have e:¬y<x:=by simpa using c
   refine YV.mpr ⟨λz d=>?_,h⟩;rcases Zk.mp d with rfl | d
   ·exact e
   ·exact λw=>f z d (Hh w e)
theorem pq:∀l:List Tx,(eI l).Pairwise (λa b=>¬b<a)
 |[]=>List.Pairwise.nil
 |x :: l=>se x (pq l)
def pL{d:List Tx}(h:d.Perm l)(e:d.Pairwise (λa b=>¬b<a)):d=eI l :=
 List.Perm.eq_of_pairwise (le:=λa b=>¬b<a) (λa b _ _ g f=>List.le_antisymm (Vz.mp g) (Vz.mp f)) e (pq l) (h.trans (jx l).symm)
def qA(s:Tx):(sx s).cps.toList=s:=rfl
def zk{f:List Tx}{d:List Str}(h:d.Perm (f.map sx))(i:d.Pairwise (λa b=>¬b.cps.toList<a.cps.toList)):d=(eI f).map sx:=by
 have e:d=(d.map λx=>x.cps.toList).map sx:=by
  rw[ZA]
  conv=>lhs;rw[← WQ d]
  apply Xz;intro x g;obtain⟨s,_,rfl⟩:=Yw.mp (h.mem_iff.mp g);show sx s=sx (sx s).cps.toList;rw[qA]
 have e2:(d.map λx=>x.cps.toList)=eI f:=by
  refine pL ?_ ?_
  ·have:=h.map λx:Str=>x.cps.toList;rw[ZA]at this;have j:((λx:Str=>x.cps.toList) ∘ sx)=id:=by
    funext s;exact qA s
   rw[j,WQ]at this;exact this
  ·rw[YH];exact i
 rw[e,e2]
def N6(s:Tx):Bool:=decide (s.length<=eu)&&s.all (λc=>decide (c<1114112))
def xX(h:N6 s=B):mn s:=by
 unfold N6 at h;simp at h;exact h
section
theorem qX{H:Hp}:∀{ss:List Tx},(∀s∈ss,mn s)->RpL G H (ss.map λs=>V.str (sx s)) (ss.map T.str) (ss.map λ_=>[])
 |[],_=>.nil
 |s :: ss,h=>.cons (.str s (h s (Zx ..))) (qX λx a=>h x (Zw _ a))
theorem jq{α β:Type}:∀(l:List α),(l.map λ_=>([]:List β)).flatten=[]
 |[]=>rfl
 |_ :: l=>by simp
def ye{G:Gx}{R:Ir}{U:VS.Env}{i H:Hp}{d:List Tx}{Q:VK}(k:∀v g F,aG H g->Rp G g v (.lst ((eI d).map T.str)) F->Fp R U i .fr F->Q v g)(n:aG i H)(j:∀s∈d,mn s) :
  ∀(l:KM)(f:List Str),H l=Y->f.Perm (d.map sx)->f.Pairwise (λa b=>¬b.cps.toList<a.cps.toList)->Q (.ref l) (upd H l (.lst (f.map V.str))):=λq f h u hw=>by
 rw[zk u hw];have m:aG H (upd H q (.lst (((eI d).map sx).map V.str))):=bG h;have o:=qX (G:=G) (H:=upd H q (.lst (((eI d).map sx).map V.str))) λs t=>j s ((jx d).mem_iff.mp t);have r:Rp G (upd H q (.lst (((eI d).map sx).map V.str))) (.ref q) (.lst ((eI d).map T.str)) (q :: ((eI d).map λ_=>[]).flatten):=.lst (by rw[aj,ZA];rfl) o;rw[jq]at r;exact k _ _ _ m r (Fp.new (n.free h) (by simp) Fp.nil)
theorem keys_str:∀{a:List Key}{b:List Tx},strs? (a.map aw)=Z b->a=(b.map sx).map Sum.inr
 |[],_,e=>by cases e;rfl
 |.inl i :: a,_,e=>by cases e
 |.inr x :: a,b,e=>by
  simp only[Zn,aw,strs?]at e;obtain⟨d,e1,e2⟩:=Zv.mp e;subst e2;rw[keys_str e1];simp[sx]
def lM:bootBuiltins ("sorted" : Str)=Z (.builtin "sorted"):=by decide +kernel
end
end VS
end
section
namespace ST
open PySem PySem.Spec PyProof.Rows
def Hn{A:SB}{s:IR}(g:A.handled=Y)(h:∀(d:UV)(x:KM),(∀b o,s.heap.get? b=Z o->d.get? b=Z o)->(∃o,d.get? x=Z o/\o.cls=.type "StopIteration")->f (.ref x) { s with heap:=d }) :
  PP (KB prog w) A (newExc (.type "StopIteration") [] >>= λe=>raiseNew e) Q f s:=by
 simp only[newExc,newTuple];refine Zu (Zu (WD (Zu (m:=firstArgMember _ _) (wpAny_of_eq (a:=Value.none) (by first | rfl | (simp only[firstArgMember];rfl)) (WD ?_ (by size_fits)))) (by size_fits)));simp only[raiseNew];refine Zu (wpAny_handled ?_);rw[g];exact Zu (Zh (wpAny_throw (h _ _ (λb o e=>Zj _ (Zj _ e)) ⟨_,ZW _ M,rfl⟩)))
end ST
end
section
namespace VS
open PySem PySem.Spec PyProof.Rows L2
inductive J6(G:Gx)(H:Hp):List Ky->V->V->Prop
 |nil (v:V):J6 G H [] v v
 |fld {c k:Nat} {a dx:KM} {fs:List (Str×V)} {u w:V} {ks:List Ky}:H a=some (.ins (G.ct (c+1)).1 dx fs)->fs.lookup ((G.ct (c+1)).2 k)=some u->J6 G H ks u w->J6 G H (.fld k :: ks) (.ref a) w
 |ix {a:KM} {vs:List V} {i:Int} {j:Nat} {u w:V} {ks:List Ky}:H a=some (.lst vs)->JP vs.length i=some j->vs[j]?=some u->J6 G H ks u w->J6 G H (.at (.int i) :: ks) (.ref a) w
 |key {a:KM} {bt:List (Key×V)} {k:Key} {u w:V} {ks:List Ky}:H a=some (.dK bt)->cG bt k=some u->J6 G H ks u w->J6 G H (.at (aw k) :: ks) (.ref a) w
 |un {v w:V} {ks:List Ky}:J6 G H ks v w->J6 G H (.un :: ks) v w
section
def vV{f:X0}{i j:Nat}{F h:Wa}(d:f.flatten.Nodup)(b:f[i]?=Z F)(e:f[j]?=Z h)(n:i≠j){a:KM}(g:a∈F):a∉h:=by
 intro hb
 induction f generalizing i j with
 |nil=>simp at b
 |cons G m l =>
  rw[ZK,ZL]at d;cases i with
  |zero =>
   simp at b;subst b;cases j with
   |zero=>exact n M
   |succ j=>exact d.2.2 a g a (de (by simpa using e) hb) M
  |succ i =>
   cases j with
   |zero =>
    simp at e;subst e;exact d.2.2 a hb a (de (by simpa using b) g) M
   |succ j=>exact l d.2.1 (by simpa using b) (by simpa using e) (by lia)
def cB{d:X0}(h:a∈(d.set j g).flatten):a∈g\/∃i F,i≠j/\d[i]?=Z F/\a∈F:=by
 obtain⟨i,F,b,f⟩:=gu h;by_cases e:i=j
 ·subst e;rw[List.getElem?_set_self' ]at b;cases q:d[i]? with
  |none=>rw[q]at b;cases b
  |some _=>rw[q]at b;cases b;exact .inl f
 ·rw[Y4 (Ye e)]at b;exact .inr ⟨i,F,e,b,f⟩
theorem dQ:∀{p:X0}{j:Nat}{f:Wa},p.flatten.Nodup->f.Nodup->(∀i F,i≠j->p[i]?=Z F->∀a∈F,a∉f)->(p.set j f).flatten.Nodup
 |[],_,_,h,_,_=>by simpa using h
 |G :: r,0,f,h,o,d=>by
  rw[ZK,ZL]at h;rw[List.set_cons_zero,ZK,ZL];refine⟨o,h.2.1,λa g b hb e=>?_⟩;subst e;obtain⟨i,F,m,l⟩:=gu hb;exact d (i+1) F (by lia) (by simpa using m) a l g
 |G :: r,j+1,f,h,o,d=>by
  rw[ZK,ZL]at h;rw[List.set_cons_succ,ZK,ZL];refine⟨h.1,dQ h.2.1 o λi F n q=>d (i+1) F (by lia) (by simpa using q),λa g b hb e=>?_⟩;subst e;rcases cB hb with z | ⟨i,F,n,m,l⟩
  ·exact d 0 G (by lia) M a g z
  ·exact h.2.2 a g a (de m l) M
theorem RpL.each:∀{e:List V}{f:V8}{g:X0},RpL G H e f g->(∀(i:Nat) v t F,e[i]?=Z v->f[i]?=Z t->g[i]?=Z F->Rp G H v t F->Rp G h v t F)->RpL G h e f g
 |_,_,_,.nil,_=>.nil
 |_,_,_,.cons r q,k=>.cons (k 0 _ _ _ M M M r) (RpL.each q λi v t F a b c d=>k (i+1) v t F (by simpa using a) (by simpa using b) (by simpa using c) d)
theorem RpL.setAt:∀{e:List V}{f:V8}{m:X0}{j:Nat}{u:V}{o:T}{p:Wa},RpL G H e f m->e[j]?=Z u->Rp G l u o p->(∀(i:Nat) v t F,i≠j->e[i]?=Z v->f[i]?=Z t->m[i]?=Z F->Rp G H v t F->Rp G l v t F)->RpL G l e (f.set j o) (m.set j p)
 |_,_,_,_,_,_,_,.nil,h,_,_=>by simp at h
 |_,_,_,0,_,_,_,.cons r q,h,g,k=>by
  simp at h;subst h;exact .cons g (RpL.each q λi v t F a b c d=>k (i+1) v t F (by lia) (by simpa using a) (by simpa using b) (by simpa using c) d)
 |_,_,_,j+1,_,_,_,.cons r q,h,g,k=>.cons (k 0 _ _ _ (by lia) M M M r) (RpL.setAt q (by simpa using h) g λi v t F n a b c d=>k (i+1) v t F (by lia) (by simpa using a) (by simpa using b) (by simpa using c) d)
def mV(N:H a=Z o)(L:RpL G H s E d)(e:(a :: d.flatten).Nodup)(O:s[j]?=Z u)(y:d[j]?=Z C)(g:Chg G H u C D q f):q a=Z o/\RpL G q s (E.set j D) (d.set j f)/\(a :: (d.set j f).flatten).Nodup/\(∀b∈a :: (d.set j f).flatten,b∈a :: d.flatten\/H b=Y)/\∀b o,b∉a :: d.flatten->H b=Z o->q b=Z o:=by
 rw[ZY]at e;have p:∀b∈C,b∈d.flatten:=λb hb=>de y hb;have A:∀i F,i≠j->d[i]?=Z F->∀b∈F,b∉f:=λi F n M b hb Q=>by
  rcases g.sub b Q with z | z
  ·exact vV e.2 M y n hb z
  ·exact Ip.p0 (L.IE b (de M hb)) z
 refine⟨g.keep a o (λz=>e.1 (p a z)) N,L.setAt O g.rp (λi v t F n m l P r=>r.keep g.kept λb hb w x=>g.keep b w (vV e.2 P y n hb) x),?_,λb hb=>?_,λb w hb x=>g.keep b w (λz=>hb (Zw _ (p b z))) x⟩
 ·rw[ZY];refine⟨λh=>?_,dQ e.2 g.nd A⟩;rcases cB h with z | ⟨i,F,n,m,l⟩
  ·rcases g.sub a z with z | z
   ·exact e.1 (p a z)
   ·rw[N]at z;cases z
  ·exact e.1 (de m l)
 ·rcases Zk.mp hb with rfl | hb
  ·exact .inl Zx
  ·rcases cB hb with z | ⟨i,F,n,m,l⟩
   ·rcases g.sub b z with z | z
    ·exact .inl (Zw _ (p b z))
    ·exact .inr z
   ·exact .inl (Zw _ (de m l))
theorem mK{α β:Type}:∀(d:List α)(bs:List β)(i:Nat)(a:α)(y:β),d[i]?=Z a->(d.zip bs).set i (a,y)=d.zip (bs.set i y)
 |[],_,_,_,_,h=>by simp at h
 |a :: d,[],i,_,_,_=>by cases i<;>simp
 |a :: d,b :: bs,0,_,y,h=>by simp at h;subst h;rfl
 |a :: d,b :: bs,i+1,_,y,h=>by
  have:=mK d bs i _ y (by simpa using h);simp[this]
theorem jz{α β:Type}(p:α->Bool):∀{e:List α}{bs:List β}{i:Nat},e.length=bs.length->(e.zip bs).findIdx? (λq=>p q.1)=Z i->∃a b,e[i]?=Z a/\bs[i]?=Z b/\p a=B/\(e.zip bs).find? (λq=>p q.1)=Z (a,b)
 |[],[],_,_,h=>by simp at h
 |a :: e,b :: bs,i,f,h=>by
  rw[ZU,YM]at h;by_cases d:p a=B
  ·rw[Zr d]at h;cases h;exact⟨a,b,rfl,rfl,d,by simp[d]⟩
  ·rw[Zm d]at h;obtain⟨j,g,rfl⟩:=Zv.mp h;obtain⟨s,r,o,n,m,l⟩:=jz p (by simpa using f) g;exact⟨s,r,by simpa using o,by simpa using n,m,by simp[d,l]⟩
def gz(k a:Key):eqT (aw a) (aw k)=B↔a=k:=by
 cases k with
 |inl i=>cases a<;>simp[aw]
 |inr x =>
  obtain⟨⟨x⟩⟩:=x;cases a with
  |inl j=>simp[aw]
  |inr y=>obtain⟨⟨y⟩⟩:=y;simp[aw]
theorem qj:∀{ns:List Key}{d:V8}{a:List V}{i:Nat},ns.length=d.length->ns.length=a.length->((ns.map aw).zip d).findIdx? (λq=>eqT q.1 (aw k))=Z i->a[i]?=Z u->cG (ns.zip a) k=Z u
 |[],_,_,_,_,_,h,_=>by simp at h
 |n :: ns,t :: d,v :: a,i,m,l,h,e=>by
  rw[Zn,ZU,YM]at h;by_cases b:eqT (aw n) (aw k)=B
  ·rw[Zr b]at h;cases h;simp at e;subst e;exact cx ((gz k n).mp b)
  ·rw[Zm b]at h;obtain⟨j,g,rfl⟩:=Zv.mp h;have f:n≠k:=λz=>b ((gz k n).mpr z);have:cG ((n :: ns).zip (v :: a)) k=cG (ns.zip a) k:=by simp[cG,f]
   rw[this];exact qj (by simpa using m) (by simpa using l) g (by simpa using e)
 |_ :: _,[],_,_,h,_,_,_=>by simp at h
 |_ :: _,_ :: _,[],_,_,h,_,_=>by simp at h
def dP(r:Rp G H v (.obj (c+1) (e :: g)) F):∃(i:Nat)(a p:KM)(b:Bool)(f:V2)(d:List V)(j:V8)(o:X0),c+1=i+1/\v=.ref a/\e=(0,.bl b)/\g=f.zip j/\F=a :: o.flatten ∧
  H a=Z (.ins (G.ct (i+1)).1 p ((f.map (G.ct (i+1)).2).zip d))/\f.length=d.length/\(b=B->G.me 0=Z (.ref a))/\RpL G H d j o:=by
 generalize n:T.obj (c+1) (e :: g)=z at r;cases r with
 |ins h l m q =>
  cases n;exact⟨_,_,_,_,_,_,_,_,rfl,rfl,rfl,rfl,rfl,h,l,m,q⟩
 |_=>cases n
def Fb(r:Rp G H v (.obj 0 [(0,.bl B),(m,t)]) F):∃a,v=.ref a/\G.me m=Z (.ref a)/\Rp G H (.ref a) t F:=by
 generalize b:T.obj 0 [(0,.bl B),(m,t)]=z at r;cases r with
 |mk h q =>
  cases b;exact⟨_,rfl,h,q⟩
 |_=>cases b
def tQ{G:Gx}{c a:Nat}(h:∀c k m:Nat,(G.ct c).2 k=(G.ct c).2 m->k=m){e:V2}{d:List V}{f:V8}{u:V}{i:Nat}(n:e.length=d.length)(b:(e.zip f).findIdx? (λq=>q.1==a)=Z i)(o:e[i]?=Z a)(g:d[i]?=Z u):((e.map (G.ct c).2).zip d).lookup ((G.ct c).2 a)=Z u:=by
 induction e generalizing d f i with
 |nil=>simp at o
 |cons l v p =>
  cases d with
  |nil=>simp at n
  |cons t bs =>
   cases f with
   |nil=>simp at b
   |cons s f =>
    rw[Zn,ZU,YY];rw[ZU,YM]at b;by_cases q:(l==a)=B
    ·rw[Zr q]at b;cases b;have:l=a:=by simpa using q
     subst this;simp at g;simp[g]
    ·rw[Zm q]at b;obtain⟨j,r,rfl⟩:=Zv.mp b;have:((G.ct c).2 a==(G.ct c).2 l)=J:=by
      rw[ZE];intro z;exact q (by simpa using(h c _ _ z).symm)
     rw[this];exact p (by simpa using n) r (by simpa using o) (by simpa using g)
def Hf{α:Type}{f:T->Option (T×α)}{y:α}(e:pm f (.un :: d) t=Z (a,y)):∃m x z,t=.obj 0 [(0,.bl B),(m,x)]/\pm f d x=Z (z,y)/\a=.obj 0 [(0,.bl B),(m,z)]:=by
 cases t with
 |obj c fs =>
  cases c with
  |succ c=>cases e
  |zero =>
   cases fs with
   |nil=>cases e
   |cons q fs =>
    obtain⟨n,v⟩:=q;cases n with
    |succ n=>cases e
    |zero =>
     cases v with
     |bl b =>
      cases b with
      |false=>cases e
      |true =>
       cases fs with
       |nil=>cases e
       |cons g fs =>
        obtain⟨m,x⟩:=g;cases fs with
        |cons _ _=>cases e
        |nil =>
         obtain⟨⟨z,h⟩,e1,e2⟩:=Zv.mp e;cases e2;exact⟨_,_,_,rfl,e1,rfl⟩
     |_=>cases e
 |_=>cases e
def nQ{G:Gx}{α:Type}{f:T->Option (T×α)}:∀(ks:List Ky){v:V}{t t':T}{F:Wa}{y:α},(∀c k k':Nat,(G.ct c).2 k=(G.ct c).2 k'->k=k')->Rp G H v t F->F.Nodup->pm f ks t=Z (t',y) →
  ∃w x A C,J6 G H ks v w/\Rp G H w x A/\A.Nodup/\f x=Z (C,y)/\∀q o,Chg G H w A C q o->∃F',Chg G H v F t' q F':=by
 intro ks
 induction ks with
 |nil=>intro v t t' F y _ r nd e;exact⟨v,t,F,t',.nil v,r,nd,e,λq o g=>⟨o,g⟩⟩
 |cons ky ks ih =>
 intro v t t' F y inj r nd e;cases ky with
 |fld k =>
  cases t with
  |obj c TZ =>
   cases c with
   |zero=>cases e
   |succ c =>
   cases TZ with
   |nil=>cases e
   |cons q0 fs =>
   obtain⟨i,h1,e⟩:=Zz.mp e;obtain⟨p,h2,e⟩:=Zz.mp e;obtain⟨⟨z,y'⟩,e1,e2⟩:=Zv.mp e;cases e2;obtain⟨c',a,dx,b,ns,vs,U,Fs,ec,rfl,rfl,rfl,rfl,N,X,hb,d⟩:=dP r;cases ec;have Lp:ns.length=U.length:=X.trans d.len.1;obtain⟨M,D,g1,g2,g3,g4⟩:=jz (λn=>n==k) Lp h1;have ek:M=k:=by simpa using g3
   subst ek;have ep:p=(M,D):=by
    have:(ns.zip U)[i]?=Z (M,D):=by rw[Yi];exact⟨g1,g2⟩
    rw[this]at h2;exact(Zl h2).symm
   subst ep;obtain⟨u,Fi,L,E,u3⟩:=d.get i g2;obtain⟨w,x,A,C,S,R,Q,P,O⟩:=ih inj u3 (((ZY.mp nd).2).sublist (cV E)) e1;refine⟨w,x,A,C,.fld (c:=c) N (tQ inj X h1 g1 L) S,R,Q,P,λq o g=>?_⟩;obtain⟨Fi',h⟩:=O q o g;obtain⟨s1,s2,s3,s4,s5⟩:=mV N d nd L E h;refine⟨_,h.kept,s5,h.IE,?_,s3,s4⟩;rw[mK ns U i M z g1];exact .ins s1 X hb s2
  |_=>cases e
 |un =>
  obtain⟨m,x,z,rfl,e1,rfl⟩:=Hf e;obtain⟨a,rfl,hm,rx⟩:=Fb r;obtain⟨w,D,A,C,S,R,Q,P,O⟩:=ih inj rx nd e1;refine⟨w,D,A,C,.un S,R,Q,P,λq o g=>?_⟩;obtain⟨F',g'⟩:=O q o g;exact⟨F',g'.kept,g'.keep,g'.IE,.mk hm g'.rp,g'.nd,g'.sub⟩
 | «at» k =>
  cases t with
  |lst l =>
   cases k with
   |int i =>
    obtain⟨j,h1,e⟩:=Zz.mp e;obtain⟨D,h2,e⟩:=Zz.mp e;obtain⟨⟨z,y'⟩,e1,e2⟩:=Zv.mp e;cases e2;obtain⟨a,vs,Fs,rfl,rfl,N,d⟩:=r.lst_inv;obtain⟨u,Fi,L,E,u3⟩:=d.get j h2;obtain⟨w,x,A,C,S,R,Q,P,O⟩:=ih inj u3 (((ZY.mp nd).2).sublist (cV E)) e1;refine⟨w,x,A,C,.ix N (by rw[d.len.1];exact h1) L S,R,Q,P,λq o g=>?_⟩;obtain⟨Fi',h⟩:=O q o g;obtain⟨s1,s2,s3,s4,s5⟩:=mV N d nd L E h;exact⟨_,h.kept,s5,h.IE,.lst s1 s2,s3,s4⟩
   |_=>cases e
  |dct kd l =>
   cases kd with
   |zero =>
    have hk:gr k=B/\((l.findIdx? λp=>eqT p.1 k).bind λi=>(l[i]?).bind λp=>(pm f ks p.2).map λz=>(T.dct 0 (l.set i (p.1,z.1)),z.2))=Z (t',y):=by
     cases k with
     |int i=>exact⟨rfl,e⟩
     |str s=>exact⟨rfl,e⟩
     |_=>cases e
    obtain⟨hk,e⟩:=hk;obtain⟨i,h1,e⟩:=Zz.mp e;obtain⟨p,h2,e⟩:=Zz.mp e;obtain⟨⟨z,y'⟩,e1,e2⟩:=Zv.mp e;cases e2;obtain⟨a,ns,vs,U,Fs,rfl,rfl,N,X,rfl,d⟩:=cH r;have Lp:(ns.map aw).length=U.length:=by rw[Zy];exact X.trans d.len.1
    obtain⟨M,D,g1,g2,g3,g4⟩:=jz (λn=>eqT n k) Lp h1;have ep:p=(M,D):=by
     have:((ns.map aw).zip U)[i]?=Z (M,D):=by rw[Yi];exact⟨g1,g2⟩
     rw[this]at h2;exact(Zl h2).symm
    subst ep;obtain⟨kk,LY⟩:∃kk:Key,k=aw kk:=by
     cases k with
     |int i=>exact⟨.inl i,rfl⟩
     |str s=>exact⟨.inr (sx s),by simp[aw,sx]⟩
     |_=>cases hk
    subst LY;obtain⟨u,Fi,L,E,u3⟩:=d.get i g2;obtain⟨w,x,A,C,S,R,Q,P,O⟩:=ih inj u3 (((ZY.mp nd).2).sublist (cV E)) e1;refine⟨w,x,A,C,.key N ?_ S,R,Q,P,λq o g=>?_⟩
    ·exact qj (by simpa using Lp) X h1 L
    ·obtain⟨Fi',h⟩:=O q o g;obtain⟨s1,s2,s3,s4,s5⟩:=mV N d nd L E h;refine⟨_,h.kept,s5,h.IE,?_,s3,s4⟩;rw[mK (ns.map aw) U i M z g1];exact .dct s1 X s2
   |succ kd=>cases e
  |_=>cases e
end
section
def J6.same(e:aG H d)(p:J6 G H b v w):J6 G d b v w:=by
 induction p with
 |nil v=>exact .nil v
 |fld h l _ a=>exact .fld (e _ _ h) l a
 |ix h l m _ a=>exact .ix (e _ _ h) l m a
 |key h l _ a=>exact .key (e _ _ h) l a
 |un _ a=>exact .un a
theorem J6.split:∀{ks:List Ky}{v:V},J6 G H (ks++[k]) v w->∃u,J6 G H ks v u/\J6 G H [k] u w
 |[],v,p=>⟨v,.nil v,p⟩
 |_ :: ks,_,.fld h l p=>let ⟨u,a,b⟩:=J6.split (ks:=ks) p;⟨u,.fld h l a,b⟩
 |_ :: ks,_,.ix h l m p=>let ⟨u,a,b⟩:=J6.split (ks:=ks) p;⟨u,.ix h l m a,b⟩
 |_ :: ks,_,.key h l p=>let ⟨u,a,b⟩:=J6.split (ks:=ks) p;⟨u,.key h l a,b⟩
 |_ :: ks,_,.un p=>let ⟨u,a,b⟩:=J6.split (ks:=ks) p;⟨u,.un a,b⟩
theorem hZ:∀{way:List Lm}{f:List Ky},keys (way++[s]) U=Z f->∃g k,keys way U=Z g/\keys [s] U=Z [k]/\f=g++[k]
 |[],f,e=>by
  cases s with
  |fld k=>cases e;exact⟨[],.fld k,rfl,rfl,rfl⟩
  |un=>cases e;exact⟨[],.un,rfl,rfl,rfl⟩
  |ix c =>
   obtain⟨x,j,i⟩:=Zz.mp (show (c U).bind (λx=>(keys [] U).map (Ky.at x.2 :: ·))=Z f from e);cases i;exact⟨[],.at x.2,rfl,by simp[keys,j],rfl⟩
 |.fld k :: way,f,e=>by
  obtain⟨m,j,i⟩:=Zv.mp (show (keys (way++[s]) U).map (Ky.fld k :: ·)=Z f from e);obtain⟨g,l,a,b,c⟩:=hZ j;exact⟨.fld k :: g,l,by simp[keys,a],b,by rw[← i,c];rfl⟩
 |.un :: way,f,e=>by
  obtain⟨m,j,i⟩:=Zv.mp (show (keys (way++[s]) U).map (Ky.un :: ·)=Z f from e);obtain⟨g,l,a,b,c⟩:=hZ j;exact⟨.un :: g,l,by simp[keys,a],b,by rw[← i,c];rfl⟩
 |.ix c :: way,f,e=>by
  obtain⟨x,n,h⟩:=Zz.mp (show (c U).bind (λx=>(keys (way++[s]) U).map (Ky.at x.2 :: ·))=Z f from e);obtain⟨m,j,i⟩:=Zv.mp h;obtain⟨g,l,a,b,d⟩:=hZ j;exact⟨.at x.2 :: g,l,by simp[keys,n,a],b,by rw[← i,d];rfl⟩
def Rm(G:Gx)(i:Nat)(a:List Lm):TE:=λO H Q=>∃R U t b v w,SR G R U O H/\U[i]?=Z (Z (.ow t))/\O[i]?=Z (Z v)/\keys a U=Z b/\J6 G H b v w/\∀d,aG H d->Q w d
def LM(G:Gx)(X:Cx)(e:Expr)(i:Nat)(a:List Lm):Prop:=PE X e (Rm G i a)
def PE.My(h:PE X e t)(w:∀O H Q,Rm G i a O H Q->t O H Q):LM G X e i a:=λb s O H Q I q=>h b s O H Q I (w O H Q q)
def bK{X:Cx}(i:Nat)(j:{`q7,X.N[i]?=Z x})(f:Kp X.env.scope x:=by exact .inl M)(h:{`q7,K3 x})(a:{`q7,K4 x}):LM G X (.Name x pos) i [] :=
 PE.My (fC j f h a) λO H Q g=>by
  obtain⟨R,U,t,d,v,w,s,p,o,n,m,l⟩:=g;cases (show Z ([]:List Ky)=Z d from n);cases m;exact⟨v,o,l H (aG.refl _)⟩
structure JA(G:Gx)(K:X6)(k:Nat)(f:Str):Prop where
 nm:∀c,(G.ct (c+1)).2 k=f
 cl:∀c,JY K (G.ct (c+1)).1
 no:∀c,aT K (G.ct (c+1)).1 f
def fq{X:Cx}(k:Nat)(F:JA G X.K k f)(h:LM G X e i way)(n:{`q7,XAB e f X.env (eval e X.env)=eval e X.env}):LM G X (.Attribute e f pos) i (way++[.fld k]) :=
 PE.My (yc h n) λO H Q m=>by
  obtain⟨R,U,t,L,v,w,s,z,y,x,r,p⟩:=m;obtain⟨C,l,a,b,rfl⟩:=hZ x;cases (show Z [Ky.fld k]=Z [l] from b);obtain⟨u,p1,j⟩:=r.split;refine⟨R,U,t,C,v,u,s,z,y,a,p1,λD d=>?_⟩;cases j with
  |@fld c _ a A fs E _ _ o g q =>
   cases q;rw[F.nm c]at g;exact⟨a,_,A,fs,w,rfl,d a _ o,F.cl c,F.no c,g,p D d⟩
def De{X:Cx}(hr:xa F X.A)(h:LM G X e i way)(hb:PV G X b c)(S:kj b)(hK:X.K=G.K):LM G X (.Subscript e b pos) i (way++[.ix c]) :=
 PE.My (vo (Ml.or qT (qB (kU hr))) h hb S) λO H Q hq=>by
  obtain⟨R,U,t,ks,v,w,s,h1,h2,h3,h4,h5⟩:=hq;obtain⟨Mo,L,a,b',rfl⟩:=hZ h3;obtain⟨⟨E,x⟩,ec,e2⟩:=Zz.mp (show (c U).bind (λx=>(keys [] U).map (Ky.at x.2 :: ·))=Z [L] from b');cases e2;obtain⟨u,p1,D⟩:=h4.split;refine⟨R,U,t,Mo,v,u,s,h1,h2,a,p1,λH1 d=>⟨R,U,E,x,s.same d,ec,λy H2 F2 o r2 f2=>?_⟩⟩;have C:=(D.same d).same o;have q:=h5 H2 (d.trans o);cases C with
  |@ix a p M j r _ _ l g P f =>
   cases f;refine .inl (.inl ⟨a,p,M,w,rfl,r2.int_inv,Iw.of l,oK g P,q⟩)
  |@key a bt m r _ _ l g f =>
   cases f;refine .inr ⟨a,w,rfl,?_,q⟩;have N:y=kV m:=by
    cases m with
    |inl n=>exact r2.int_inv
    |inr z =>
     have:=r2.str_inv.1;rw[this];simp[kV,sx]
   rw[N,← g];exact ip.k l
@[simp] def iS(i:Nat)(a:List Lm)(f:T->V6->Option (T×Val))(h:IQ)(U:VS.Env):Option (Val×VS.Env):=match U[i]? with
 |some (some (.ow t))=>(keys a U).bind λg=>(h U).bind λd=>(pm (λx=>f x d) g t).map λz=>(z.2,U.set i (Z (.ow z.1)))
 |_=>Y
noncomputable def jJ(G:Gx):Prop:=∀c k a:Nat,(G.ct c).2 k=(G.ct c).2 a->k=a
def zN{pos apos:Pos}(J:jJ G)(pa:PlainAttrs p)(d:Slot p a m)(Oo:typeOf (.builtin m)=pure (.type "method_descriptor"))(hm:Pm X m r)(ok:yt G r f)(hT:∀H v t F l z,Rp G H v t F->f t l=Z z->tyV G.K p v H)(ho:LM G X o i way)(ha:Jj G X (e :: es) cs)(hK:X.K=G.K)(IT:XAB o a X.env (eval o X.env)=eval o X.env)(Jm:((backTo oe (Pv (e :: es) X.env)).all (λx=>!x.1)&&(backToKw oe (SL [] X.env)).all (λx=>x.1.isSome)
   && decide ((e :: es).length+([]:List Keyword).length+(if ([]:List Keyword).isEmpty then 0 else 1)<30))=B)(ID:(apos.endLine==oe.line)=B)(hs:K1 e es X)(IC:K2 oe es X)(Lf:swapsWith (.Call (.Attribute o a apos) (e :: es) [] oe) Y pos.line X.env=pure false) :
  PSV G X (.Expr (.Call (.Attribute o a apos) (e :: es) [] oe) pos) (sX (iS i way f cs)) :=
 PS.weak (jD (pK pa d Oo hm ho ha IT Jm ID hs IC) Lf) λD O H hq=>by
  obtain⟨R,U,out,s,e,k⟩:=hq;refine L2.hJ λP_ k_=>?_;unfold sX iS at e;obtain⟨⟨x',U'⟩,e1,e2⟩:=Zv.mp e;split at e1
  ·rename_i t h;obtain⟨E,ek,e3⟩:=Zz.mp e1;obtain⟨l,el,e4⟩:=Zz.mp e3;obtain⟨⟨t',x2⟩,e5,e6⟩:=Zv.mp e4;cases e6;cases e2;obtain⟨v,L,h2⟩:=s.rp _ _ h;obtain⟨w,x,F1,Q,w1,A,w3,y,S⟩:=nQ E J h2 (s.nd i t h) e5;refine k_ ?_;refine⟨R,U,t,E,v,w,s,h,L,ek,w1,λH0 j=>⟨by rw[hK];exact hT H0 w x _ l _ (A.same j) y,R,U,l,s.same j,el,λvs H' Fs q1 q2 C=>?_⟩⟩;refine ok R U H H' w x Q F1 l vs Fs x2 _ A w3 ⟨j.trans q1,q2,⟨λn v' q a1 a2=>(C.each n v' q a1 a2).back j,C.nd⟩⟩ y λu M q g=>?_;obtain⟨F2,g2⟩:=S M q g;obtain⟨P,N⟩:=s.mut h L g2;exact k _ O M P N
  ·cases e1
end
section
def j4(k v:Val):T->Option (T×Unit)
 |.lst l=>match k.2 with
  |.int n=>(fit v).bind λt=>(JP l.length n).map λj=>(.lst (l.set j t),())
  |_=>Y
 |.dct 0 l=>if gr k.2/\Iq v.2/\l.length<eu then Z (.dct 0 (dput l k.2 v.2),()) else Y
 |_=>Y
def eV(i:Nat)(a:List Lm)(k e:Ex)(U:VS.Env):Option Out:=(e U).bind λv=>match U[i]? with
 |some (some (.ow t))=>(keys a U).bind λf=>(k U).bind λd=>(pm (j4 d v) f t).map λz=>.nx (U.set i (Z (.ow z.1)))
 |_=>Y
theorem RpL.putAt:∀{d:List V}{f:V8}{g:X0}(j:Nat){u:V}{x:T}{F:Wa},RpL G H d f g->Rp G H u x F->RpL G H (d.set j u) (f.set j x) (g.set j F)
 |_,_,_,_,_,_,_,.nil,_=>.nil
 |_,_,_,0,_,_,_,.cons r q,a=>.cons a q
 |_,_,_,j+1,_,_,_,.cons r q,a=>.cons r (RpL.putAt j q a)
theorem vW{kk:Key}(n:Rp G H l t []):∀{a:List Key}{h:List V}{ts:V8}{Fs:X0},a.length=h.length->RpL G H h ts Fs →
  ∃d f g,(a.zip h).map (λm=>if m.1=kk then (m.1,l) else m)=a.zip d/\a.length=d.length/\((a.map aw).zip ts).map (λp=>if eqT p.1 (aw kk) then (p.1,t) else p)=(a.map aw).zip f/\RpL G H d f g/\g.flatten.Sublist Fs.flatten
 |[],[],_,_,_,.nil=>⟨[],[],[],rfl,rfl,rfl,.nil,Wy _⟩
 |k :: a,v :: h,_,_,C,.cons (t:=A) (F:=F) (ts:=ts) (Fs:=Fs) r q=>by
  obtain⟨d,f,g,y,x,w,u,s⟩:=vW n (by simpa using C) q;by_cases j:k=kk
  ·have e:eqT (aw k) (aw kk)=B:=(gz kk k).mpr j;refine⟨l :: d,t :: f,[] :: g,?_,by simp[x],?_,.cons n u,?_⟩
   ·rw[ZU,Zn,y,ZU];simp[j]
   ·rw[Zn,ZU,Zn,w,ZU];simp[e]
   ·rw[ZK,ZK];exact s.trans (Xp _ _)
  ·have e:¬eqT (aw k) (aw kk)=B:=λz=>j ((gz kk k).mp z);refine⟨v :: d,A :: f,F :: g,?_,by simp[x],?_,.cons r u,?_⟩
   ·rw[ZU,Zn,y,ZU];simp[j]
   ·rw[Zn,ZU,Zn,w,ZU];simp[e]
   ·rw[ZK,ZK];exact List.Sublist.append (Wy _) s
theorem rD{kk:Key}:∀{a:List Key}{d:List V}{f:V8},a.length=d.length->a.length=f.length->((a.zip d).any λg=>decide (g.1=kk))=(((a.map aw).zip f).any λp=>eqT p.1 (aw kk))
 |[],_,_,_,_=>by simp
 |k :: a,v :: d,t :: f,l,j=>by
  rw[Zn,ZU,ZU,Xu,Xu,rD (by simpa using l) (by simpa using j)];have:decide (k=kk)=eqT (aw k) (aw kk):=by rw[XA,decide_eq_true_eq];exact(gz kk k).symm
  rw[this]
 |_ :: _,[],_,h,_=>by simp at h
 |_ :: _,_ :: _,[],_,h=>by simp at h
def lW{kk:Key}(u:Rp G H q t []){a:List Key}{g:List V}(d:a.length=g.length)(l:RpL G H g j s) :
  ∃(r:List Key)(f:List V)(m:V8)(n:X0),putK (a.zip g) kk q=r.zip f/\r.length=f.length/\dput ((a.map aw).zip j) (aw kk) t=(r.map aw).zip m/\RpL G H f m n/\n.flatten.Sublist s.flatten:=by
 have an:=rD (kk:=kk) d (d.trans l.len.1);unfold putK dput;rw[an];by_cases h:(((a.map aw).zip j).any λp=>eqT p.1 (aw kk))=B
 ·rw[Zr h,Zr h];obtain⟨f,m,n,z,y,x,w,v⟩:=vW (kk:=kk) u d l;exact⟨a,f,m,n,z,y,x,w,v⟩
 ·rw[Zm h,Zm h];refine⟨a++[kk],g++[q],j++[t],s++[[]],?_,by simp[d],?_,l.append (.cons u .nil),by simp⟩
  ·rw[Xb d];rfl
  ·rw[Yo,Xb (by rw[Zy];exact d.trans l.len.1)];rfl
def Dc:zb:=λo i v H Q=>Da o i v H Q\/∃a d,o=.ref a/\uN H a i v d/\Q d
def yx{X:Cx}(n:X.A.units+1<cLine):AW X Dc:=by
 intro d s O H o i v m iv u Q I j l f h;rcases h with h | ⟨a,r,rfl,g,q⟩
 ·exact set_list d s O H o i v m iv u Q I j l f h
 ·cases j;exact wA n I g l f λt p=>⟨r,p,q⟩
def kK{X:Cx}{pos:Pos}(J:jJ G)(hr:xa kr X.A)(ho:LM G X o i way)(hk:PV G X b ck)(he:PV G X e ce)(ha:∀v,assign (.Subscript o b pos') X.env v=(do
   let ov ← holding [v] (eval o X.env)
   let iv ← holding [v,ov] (eval b X.env)
   standAt pos'
   holding [v,ov,iv] (setItem ov iv v)
   release [v,ov,iv] []):=by exact λ_=>rfl)(hs:{`q7,swapsWithSole [.Subscript o b pos'] e pos.line X.env=pure false})(hw:{`q7,swappedStores [.Subscript o b pos'] e X.env=pure Y})(N:{`q7,(assignEach [.Subscript o b pos'] X.env).map (·.2)=[assign (.Subscript o b pos') X.env]}):PSV G X (.Assign [.Subscript o b pos'] e pos) (eV i way ck ce) :=
 PS.weak (qk he (p8 ho hk (yx (kU hr)) ha) hs hw N) λD O H hq=>by
  obtain⟨R,U,out,s,e,k⟩:=hq;refine L2.hJ λP_ k_=>?_;unfold eV at e;obtain⟨⟨mv,m⟩,ev,e⟩:=Zz.mp e;split at e
  ·rename_i t ht;obtain⟨ks,ek,e⟩:=Zz.mp e;obtain⟨⟨mk,q⟩,LY,e⟩:=Zz.mp e;obtain⟨⟨t',y'⟩,e5,e6⟩:=Zv.mp e;cases e6;obtain⟨v,g1,g2⟩:=s.rp _ _ ht;obtain⟨w,x,F1,x3,w1,w2,w3,M,w5⟩:=nQ ks J g2 (s.nd i t ht) e5;refine k_ ?_;refine⟨R,U,mv,m,s,ev,λxv H1 Fv Jr rv fv=>?_⟩;refine⟨R,U,t,ks,v,w,s.same Jr,ht,g1,ek,w1.same Jr,λH2 Jf=>⟨R,U,mk,q,(s.same Jr).same Jf,LY,λkv f Fk Kq rk fk=>?_⟩⟩;have y:aG H f:=(Jr.trans Jf).trans Kq;have Mb:Rp G f xv m Fv:=(rv.same Jf).same Kq;have fin:∀S L,Chg G H w F1 x3 S L->D.nx O S:=λS L g=>by
    obtain⟨F2,NX⟩:=w5 S L g;obtain⟨z1,z2⟩:=s.mut ht g1 NX;exact k _ O S z1 z2
   refine L2.hJ λP_ k_=>?_;cases x with
   |lst l =>
    cases q with
    |int n =>
     obtain⟨tt,et,e7⟩:=Zz.mp (show ((fit (mv,m)).bind λt=>(JP l.length n).map λj=>(T.lst (l.set j t),()))=Z (x3,y') from M);obtain⟨j,ej,e8⟩:=Zv.mp e7;cases e8;have em:=mL et;cases em;obtain⟨a,p,Fs,rfl,rfl,Q,C⟩:=w2.lst_inv;have P:f a=Z (.lst p):=y a _ Q;have nd:=ZY.mp w3;have na:a∉Fv:=λz=>by rw[fv.2 a z]at Q;cases Q
     have E:Ip (f a):=by rw[P];exact True.intro
     have off:∀d∈Fs.flatten,d∉Fv:=λd hb hv=>Ip.p0 (C.IE d hb) (fv.2 d hv);refine k_ ?_;refine .inl ⟨a,p,n,j,rfl,rk.int_inv,P,by rw[← uQ,C.len.1];exact ej,fin _ (a :: (Fs.set j Fv).flatten) ?_⟩;have keep:∀{u:V}{x:T}{F:Wa},Rp G f u x F->a∉F->Rp G (upd f a (.lst (p.set j xv))) u x F:=λr hn=>r.keep (Kept.upd (.inl E)) λd hb o' LB=>by rw[ar (λz=>hn (by rw[← z];exact hb))];exact LB
     refine Chg.upd y Zx E (.lst aj ((((C.same y).off E nd.1)).putAt j (keep Mb na))) ?_ ?_
     ·rw[ZY];refine⟨λh=>?_,dQ nd.2 fv.1 λi' L _ hi d hb=>off d (de hi hb)⟩;rcases cB h with z | ⟨i',L,_,N,h2⟩
      ·exact na z
      ·exact nd.1 (de N h2)
     ·intro d hb;rcases Zk.mp hb with rfl | hb
      ·exact .inl Zx
      ·rcases cB hb with z | ⟨i',L,_,N,h2⟩
       ·exact .inr (fv.2 d z)
       ·exact .inl (Zw _ (de N h2))
    |_=>cases M
   |dct kd l =>
    cases kd with
    |zero =>
     have hc:(gr q=B/\Iq m=B/\l.length<eu)/\x3=.dct 0 (dput l q m):=by
      have N4:(if gr q/\Iq m/\l.length<eu then Z (T.dct 0 (dput l q m),()) else Y)=Z (x3,y'):=M;split at N4
      ·rename_i hc;cases N4;exact⟨hc,rfl⟩
      ·cases N4
     obtain⟨⟨c1,c2,c3⟩,rfl⟩:=hc;have eF:=Mb.Iq c2;subst eF;obtain⟨a,ns,p,ts,Fs,rfl,rfl,Q,hl,rfl,C⟩:=cH w2;obtain⟨kk,rfl,MO⟩:=c9 rk c1;subst MO;have P:f a=Z (.dK (ns.zip p)):=y a _ Q;have E:Ip (f a):=by rw[P];exact True.intro
     have nd:=ZY.mp w3;obtain⟨Mh,Kg,Kl,J7,q1,q2,q3,q4,q5⟩:=lW (kk:=kk) Mb hl (C.same y);have ln:(ns.zip p).length<sizeLine:=by
      have:((ns.map aw).zip ts).length<16777216:=c3;rw[Z1,Zy]at this;rw[Z1];have:=C.len.1;have:(KF:Nat)=16777216:=rfl;lia
     refine k_ ?_;refine .inr ⟨a,_,rfl,uN.k P ln,fin _ (a :: J7.flatten) ?_⟩;rw[q1,q3];refine Chg.upd y Zx E (.dct aj q2 (q4.off E λz=>nd.1 (q5.subset z))) ?_ ?_
     ·exact ZY.mpr ⟨λz=>nd.1 (q5.subset z),nd.2.sublist q5⟩
     ·intro d hb;rcases Zk.mp hb with rfl | hb
      ·exact .inl Zx
      ·exact .inl (Zw _ (q5.subset hb))
    |succ n=>cases M
   |_=>cases M
  ·cases e
end
def FQ{K:X6}{b:V3}(e:zP H)(d:Iw K H a (b.map V.int)):l6 K H a b:=by
 rcases d with h | h
 ·rcases h with h | h
  ·rcases e a with z | ⟨o,f,z⟩
   ·rw[z]at h;cases h
   ·rw[z]at h;cases h
  ·exact .inl h
 ·exact .inr h
def D8{G:Gx}(d:g [.scr b]=Z (.fr,.bl B))(f:zP H)(e:Iw G.K H a (b.map V.int)):KY G g [.ref a] H (λv _=>v=.bl B) E :=
 ⟨[.scr b],[[]],.fr,.bl B,.cons (.scr (FQ f e)) .nil,d,λv h F _ r _=>r.JB⟩
def QF(K:X6):Gx:=⟨K,λ_=>(0,λk=>⟨#[k]⟩),λ_=>Y⟩
def yL{l:PySem.W.OpenLaw}{d:DefRec}{K:Params->X6}{g:Fn}{x:Str}{k:Nat}(m:l.most=Z 63)(v:d.params.defaults=[])(j:xa k callerA)(o:∀ns:V3,g [.scr ns]=Z (.fr,.bl B))(F:∀(w:XAA)(mg:Wc)(e:KM)(h:UV),(K w.params).In h->h.Ns mainGlobals mg->mg d.name=Z (.ref e) →
   ∃fd:P3,(∀(s:IR)(u:On),BindsTo s fd ⟨[u],[]⟩ [(x,u)])/\∀base:UV,(K w.params).In base->base.Ns mainGlobals mg->FnOk l.prog w (K w.params) mg base Jh k e fd [x] (KY (QF (K w.params)) g)) :
  PySem.W.WalkO q b t (λw h=>(K w.params).In h) l.row.toRowW d [] (λf i=>PySem.call f i) :=
 L2.BC (n:=63) (k:=k) (x:=x) (CX:=λ_=>Jh) (sp:=λw=>KY (QF (K w.params)) g) m (by decide) v j (λ_ _ h=>h) F (λw H a ns _ r p=>D8 (G:=QF (K w.params)) (o ns) r p) λ_ _ _ _ _ z=>z
end VS
end
section
namespace L2
open PySem PySem.Spec PyProof.Rows
section
def uZ{X:Cx}(z:X.calm=B):dn X (.type "list") (λf H Q=>∃x:Str,f=[.str x]/\x.cps.size<=KF/\∀l,H l=Y->Q (.ref l) (upd H l (.lst (x.cps.toList.map λc=>V.str ⟨#[c]⟩)))):=by
 intro j s O H f C Q I p h;obtain⟨x,rfl,m,q⟩:=h;obtain⟨u,rfl,t,rfl⟩:=vals1 p;refine call_list_str (I.ok.hd z) x t (λA D acc c kp g o=>?_) m;have y:aN (x.cps.toList.map λc=>V.str ⟨#[c]⟩) acc.toList:=by
  have key:∀(b:V2)(a:V0),b.length=a.length->(∀(i:Nat)(v:On),a[i]?=Z v->∃c u,b[i]?=Z c/\v=.str ⟨#[c]⟩ u)->aN (b.map λc=>V.str ⟨#[c]⟩) a:=by
   intro b
   induction b with
   |nil =>
    intro a e _;cases a with
    |nil=>exact .nil
    |cons v a=>simp at e
   |cons c b r =>
    intro a e hg;cases a with
    |nil=>simp at e
    |cons v a =>
     obtain⟨d,u,e1,e2⟩:=hg 0 v M;cases e1;exact .cons ⟨u,e2⟩ (r a (by simpa using e) λi w hw=>by simpa using hg (i+1) w (by simpa using hw))
  refine key _ _ (by rw[Yl,Yl,o.1]) λi v n=>?_;rw[ZD]at n;obtain⟨d,u,e1,e2⟩:=o.2 i v n;exact⟨d,u,by rw[ZD];exact e1,e2⟩
 refine⟨.ref s.heap.objs.size,_,I.laid kp (Zo _) (show aY X.prog X.w _ A _ (.lst (x.cps.toList.map λc=>V.str ⟨#[c]⟩)) from⟨by rw[Zy,Yl];exact m,acc.toList,c,y,g⟩),rfl,q _ (I.xb.fresh (Zo _))⟩
end
end L2
namespace VS
open PySem PySem.Spec PyProof.Rows L2
section
def oz:V6->V7
 |[(m,.lst l)]=>Lw m l
 |[(m,.tup l)]=>Lw m l
 |[(_,.str s)]=>Lw .fr (s.map λc=>.str [c])
 |_=>Y
def zq:d4 G (λg H Q=>Do G.K g H Q\/∃x:Str,g=[.str x]/\x.cps.size<=KF/\∀l,H l=Y->Q (.ref l) (upd H l (.lst (x.cps.toList.map λc=>V.str ⟨#[c]⟩)))) oz:=by
 intro R U j H l d f m t Q A e k;unfold oz at e;split at e
 ·exact .inl (wc R U j H _ d f m t Q A e k)
 ·exact .inl (wc R U j H _ d f m t Q A e k)
 ·rename_i D x;obtain⟨v,F,rfl,rfl,i⟩:=(show RpL G H d [.str x] f from A.rp).one;have h:=i.str_inv.2;refine .inr ⟨sx x,by rw[i.str_inv.1],?_,λq u=>?_⟩
  ·have:=h.1;simp only[sx,ZQ];exact this
  ·have C:(sx x).cps.toList.map (λc=>V.str ⟨#[c]⟩)=(x.map λc=>[c]).map λs=>V.str (sx s):=by
    simp[sx]
   have z:(x.map λc=>T.str [c])=(x.map λc=>[c]).map T.str:=by simp
   rw[C];rw[z]at e;have n:=qX (G:=G) (H:=H) (ss:=x.map λc=>[c]) λs r=>by
    obtain⟨c,w,rfl⟩:=Yw.mp r;exact⟨by show 1<=eu;decide,λy o=>by rw[Ze.mp o];exact h.2 c w⟩
   refine jH A.same e n ?_ k q u;rw[jq];exact Fp.nil
 ·cases e
def vY{X:Cx}(d:X.mg "list" = Y)(h:Jj G X [e] cs)(f:{`q1,Gl X "list"})(i:{`q1,X.K=G.K})(g:{`q1,X.calm=B})(he:{`q1,K1 e [] X}):PV G X (.Call (.Name "list" p) [e] [] pos) (eN oz cs) :=
 jE (qd.or (uZ g)) (i ▸ zq) f d qm h (he:=he) (hpl:=rfl)
end
end VS
end
section
namespace ST
open PySem PySem.Spec PyProof.Rows
noncomputable abbrev dO(a:Array DictEntry)(b:Nat):Obj:={ cls:=.type "dict",data:=.dict a b }
noncomputable abbrev kO(d:KM)(i n a:Nat):Obj:={ cls:=.type "dict_keyiterator",data:=.fields #[.ref d,.int i 0,.int n 0,.int a 0] }
def zK{s:IR}(f:(d==sysModules)=J)(a:s.heap.get? d=Z (dO b e))(q:Q (.ref s.heap.objs.size) { s with heap:=s.heap.push (kO d 0 b.size e) }) :
  PP (KB prog w) A (pyIter (.ref d)) Q E s:=by
 have ty:s.TypeIs (.ref d) "dict" := ⟨_,a,rfl⟩
 refine wpAny_pyIter_slot ty F.slot_dict_iter (Xd F.slot_dict_iter ty F.entry_dict_iter (show PP _ _ (Builtin.«dict.__iter__» _) _ _ _ from ?_) (F.args_dict_iter_1 _));unfold Builtin.«dict.__iter__» Builtin.Dict.dictSlotNone Builtin.Dict.showsAll;refine Zu (Zu (wpAny_notOrdered_dict ty (show PP _ _ (pure (Value.ref d)) _ _ s from Zh (Zu (m:=Builtin.Dict.addrOf (.ref d)) (Zh ?_)))));rw[Zm (by rw[f];exact Zf)];exact Zu (Zh (Zu (wpAny_dictEntries a M (Zu (wpAny_dictEpoch a M (Zu (WD (Zh ⟨_,rfl, "dict_keyiterator",_,⟨_,ZW _ M,rfl⟩,XS.lookup,q⟩))))))))
def rS{A:SB}{s:IR}{h:Array DictEntry}(t:A.handled=Y)(l:s.heap.get? I=Z (kO d i h.size m))(n:s.heap.get? d=Z (dO h m))(y:∀e,h[i]?=Z e->∀a,Heap.SameBut I s.heap a->a.get? I=Z (kO d (i+1) h.size m)->Q (Z e.key) { s with heap:=a })(u:h[i]?=Y->∀a,(∀b o,b≠I->s.heap.get? b=Z o->a.get? b=Z o)->Q Y { s with heap:=a }):PP (KB prog w) A (pyNext (.ref I)) Q E s:=by
 have ty:s.TypeIs (.ref I) "dict_keyiterator" := ⟨_,l,rfl⟩
 unfold pyNext;refine Zu (wpAny_attempt (wpAny_callSpecial?_slot (name:=Str.ofString "__next__") ty XS (Xd XS ty F.entry_dict_keyiterator_next (YR
  (Q:=λf j=>∃v,f=.done (.ret v)/\Q (Z v) j) (E:=λe j=>∃x,e=.ref x/\(∃o,j.heap.get? x=Z o/\o.cls=.type "StopIteration")/\Q Y j) ?_ (λf j ⟨v,e,q⟩=>⟨v,e,Zh q⟩) λe j ⟨x,e1,⟨o,g,c⟩,q⟩=>?_) (F.args_dict_keyiterator_next_1 _))))
 ·refine Zu (Zh (Zu (Zu (Zu (Wb ty (Zh (Zu (wpAny_fieldsOf l M ?_))))))));have own:Builtin.Dict_items.ownsTuple "dict_keyiterator" = J:=rfl;simp only[own,Yf,↓reduceIte];refine(show PP _ _ (if (Value.ref d==Value.none)=B then _ else _) _ _ s from ?_);rw[Zm (λe:(Value.ref d==Value.none)=true=>Zf e)];refine Zu (Zh (Zu (wpAny_dictEntries n M ?_)));rw[Zm (by simp)];refine Zu (Zh (Zu (wpAny_dictEpoch n M ?_)));rw[Zm (by simp)];refine Zh ?_;simp only[show ¬((i:Int)<0) from by lia,↓reduceIte,Wx];cases he:h[i]? with
  |some e =>
   dsimp only;have p:(s.heap.update I (Obj.mapFields (·.setIfInBounds 1 (rawInt ((i:Int)+1))))).get? I=Z (kO d (i+1) h.size m):=Heap.get?_update_self _ l M;refine Zu (Zu (Wb ty (Zh (Zu (wpAny_isOneOf_keyiter ty ?_)))));refine(show PP _ _ (setField (.ref I) 1 (rawInt ((i:Int)+1))>>=_) _ _ s from Zu (wpAny_setField l M (by show 1<4;decide) (Zu (YE ?_))));refine Zu (wpAny_isOneOf_keyiter (s:={ s with heap:=s.heap.update I (Obj.mapFields (·.setIfInBounds 1 (rawInt ((i:Int)+1)))) }) ⟨_,p,rfl⟩ ?_);refine(show PP _ _ (pure e.key) _ _ _ from Zh (Zh ⟨_,rfl,y e he _ (Heap.SameBut.update ..) p⟩))
  |none =>
   dsimp only;refine Zu (Zu (Wb ty (Zh ?_)));refine(show PP _ _ (setField (.ref I) 0 .none>>=_) _ _ s from Zu (wpAny_setField l M (by show 0<4;decide) (Hn t λa x kp r=>⟨x,rfl,r,u he a λb o hb e=>kp b o ?_⟩)));rw[Wi _ _ (Ye hb)];exact e
 ·subst e1;exact Zu (W9 (T := "StopIteration") (b:=B) ⟨o,g,c⟩ isSubtype_stop (Zh q))
end ST
end
section
namespace VS
open PySem PySem.Spec PyProof.Rows L2 TS
section
def kT(k:List Key):T:=.tup (k.map aw)
theorem rj:∀(k k':List Key),g0 (k'.map aw) (k.map aw)=B↔k'=k
 |[],[]=>by simp[g0]
 |[],_ :: _=>by simp[g0]
 |_ :: _,[]=>by simp[g0]
 |a :: k,b :: k'=>by
  simp only[Zn,g0,ZS,rj k k',gz,W3]
def EA(k d:List Key):eqT (kT d) (kT k)=B↔d=k:=by
 unfold kT;simp only[eqT];exact rj k d
def CD(k d:List Key):eqT (kT d) (kT k)=decide (d=k):=by rw[XA,decide_eq_true_eq];exact EA k d
end
end VS
namespace VS
open PySem PySem.Spec PyProof.Rows L2
def Dt{i:Int}:PV G X (.UnaryOp .USub (.Constant (.int i) j p) a) (Q3 (-i)) :=
 PE.weak (Gw DE pV) λO H Q b=>by
  obtain⟨R,U,m,t,s,e,k⟩:=b;cases (show Z (Md.fr,T.int (-i))=Z (m,t) from e);exact⟨i,rfl,k _ H [] (aG.refl _) (.int _) Fp.nil⟩
end VS
end
section
namespace L2
open PySem PySem.Spec PyProof.Rows
section
def Bi:V->List V->Hp->VK->Prop:=λx d H Q=>∃(a:KM)(b:List (Key×V))(k:Key)(y:V),x=.ref a/\d=[kV k,y]/\H a=Z (.dK b)/\b.length<KF ∧
 (∀v,cG b k=Z v->Q v H)/\(cG b k=Y->Q y (upd H a (.dK (putK b k y))))
def wO:Pm X "dict.setdefault" Bi:=by
 intro g s O H x N v P Q I n o h;obtain⟨a,f,k,y,rfl,rfl,e,R,t,r⟩:=h;cases n;obtain⟨u,m,rfl,p,j⟩:=o.two;obtain⟨z,hd,ws,rel,i⟩:=lY I.xb e;have A:ws.length<=sizeLine:=by rw[← rel.length];exact z
 have b:=rel.val k;refine call_meetsIn PySem.F.slot_dict_setdefault i.typeIs PySem.F.entry_dict_setdefault (PySem.F.args_dict_setdefault_3 _ _ _) (kt_meets_setdefault (aF X.prog X.w) a (kN p) hd m) ⟨ws,i,A,λv C=>?_,λG L l D=>?_⟩
 ·rw[C]at b;cases d:cG f k with
  |none=>rw[d]at b;cases b
  |some w =>
   rw[d]at b;exact⟨w,H,I.tok _,b,t w d⟩
 ·rw[G]at b;have d:cG f k=Y:=by
   cases d:cG f k with
   |none=>rfl
   |some w=>rw[d]at b;cases b
  have M:(putK f k y).length<=sizeLine:=by have:=eT f k y;lia
  have he:∃q,L.get? a=Z q:=let ⟨q,_,_,E,_⟩:=l;⟨q,E⟩
  exact⟨y,_,jB I (by rw[e];exact True.intro) D he (ny M hd (rel.put k j) l),j,r d⟩
end
end L2
namespace VS
open PySem PySem.Spec PyProof.Rows L2
section
def bW(l:List (T×T))(k:T):List (T×T):=if (cP l k).isSome then l else l++[(k,.lst [])]
def gI(i:Nat)(k:Ex)(v:IQ)(U:VS.Env):Option Out:=match U[i]? with
 |some (some (.ow (.dct 0 l)))=>(k U).bind λd=>if gr d.2/\l.length<eu then
   (v (U.set i (Z (.ow (.dct 0 (bW l d.2)))))).bind λf=>(pm (λx=>aC x f) [.at d.2] (.dct 0 (bW l d.2))).map λz=>.nx (U.set i (Z (.ow z.1))) else Y
 |_=>Y
def Chg.none(d:aG H f)(r:Rp G H v t F)(g:F.Nodup):Chg G H v F t f F :=
 ⟨Kept.of d,λb o _ h=>d b o h,λb h z=>h (d.free z),r.same d,g,λa j=>.inl j⟩
def FB{a:KM}(r:Rp G H (.ref a) (.dct 0 L) F)(E:F.Nodup)(e:pm f [.at (aw d)] (.dct 0 L)=Z (l,y))(N:H a=Z (.dK U))(hw:cG U d=Z w) :
  ∃x v A,Rp G H w x v/\v.Nodup/\f x=Z (A,y)/\∀t L6,Chg G H w v A t L6->∃F',Chg G H (.ref a) F l t F':=by
 have e:((L.findIdx? λp=>eqT p.1 (aw d)).bind λi=>(L[i]?).bind λp=>(pm f [] p.2).map λz=>(T.dct 0 (L.set i (p.1,z.1)),z.2))=Z (l,y):=by
  cases d<;>exact e
 obtain⟨i,P,e⟩:=Zz.mp e;obtain⟨p,O,e⟩:=Zz.mp e;obtain⟨⟨z,y'⟩,e1,e2⟩:=Zv.mp e;cases e2;obtain⟨a',ns,vs,j,Fs,ea,rfl,M,s,rfl,m⟩:=cH r;cases ea;rw[N]at M;cases M;have Lp:(ns.map aw).length=j.length:=by rw[Zy];exact s.trans m.len.1
 obtain⟨q,h,R,Q,g3,g4⟩:=jz (λn=>eqT n (aw d)) Lp P;have ep:p=(q,h):=by
  have:((ns.map aw).zip j)[i]?=Z (q,h):=by rw[Yi];exact⟨R,Q⟩
  rw[this]at O;exact(Zl O).symm
 subst ep;obtain⟨u,Fi,D,C,u3⟩:=m.get i Q;have S:cG (ns.zip vs) d=Z u:=qj (by simpa using Lp) s P D;rw[hw]at S;cases S;refine⟨h,Fi,z,u3,((ZY.mp E).2).sublist (cV C),e1,λt L6 g=>?_⟩;obtain⟨s1,s2,s3,s4,s5⟩:=mV N m E D C g;refine⟨_,g.kept,s5,g.IE,?_,s3,s4⟩;rw[mK (ns.map aw) j i q z R];exact .dct s1 s s2
def tR{pos apos OO:Pos}(J:jJ G)(i:Nat)(hk:PV G X b ck)(hv:Jj G X [e] cs)(hK:X.K=G.K)(hN:X.N[i]?=Z x)(S7:Kp X.env.scope x)(hd:K3 x)(hcd:K4 x)(LG:XAB (.Name x p1) "setdefault" X.env (eval (.Name x p1) X.env)=eval (.Name x p1) X.env)(hf1:((backTo MZ (Pv [b,.List [] lp] X.env)).all (λx=>!x.1)&&(backToKw MZ (SL [] X.env)).all (λx=>x.1.isSome)
   && decide ([b,Expr.List [] lp].length+([]:List Keyword).length+(if ([]:List Keyword).isEmpty then 0 else 1)<30))=B)(Qw:(OO.endLine==MZ.line)=B)(Qq:Pv [b,.List [] lp] X.env=(false,eval b X.env) :: Pv [.List [] lp] X.env)(Te:Pv [.List [] lp] X.env=(false,eval (.List [] lp) X.env) :: Pv [] X.env)(O5:(backTo MZ (Pv [.List [] lp] X.env)).any (·.1)=false)(Nu:XAB (.Call (.Attribute (.Name x p1) "setdefault" OO) [b,.List [] lp] [] MZ) "append" X.env (eval (.Call (.Attribute (.Name x p1) "setdefault" OO) [b,.List [] lp] [] MZ) X.env)=eval (.Call (.Attribute (.Name x p1) "setdefault" OO) [b,.List [] lp] [] MZ) X.env)(hf2:((backTo oe (Pv [e] X.env)).all (λx=>!x.1)&&(backToKw oe (SL [] X.env)).all (λx=>x.1.isSome)
   && decide ([e].length+([]:List Keyword).length+(if ([]:List Keyword).isEmpty then 0 else 1)<30))=B)(Jp:(apos.endLine==oe.line)=B)(J9:K1 e [] X)(Ot:(backTo oe (Pv [] X.env)).any (·.1)=false)(Lf:swapsWith (.Call (.Attribute (.Call (.Attribute (.Name x p1) "setdefault" OO) [b,.List [] lp] [] MZ) "append" apos) [e] [] oe) Y pos.line X.env=pure false) :
  PSV G X (.Expr (.Call (.Attribute (.Call (.Attribute (.Name x p1) "setdefault" OO) [b,.List [] lp] [] MZ) "append" apos) [e] [] oe) pos) (gI i ck cs) :=
 PS.weak (jD (pK X1 XF XG h9
  (pK PySem.F.plainAttrs_dict PySem.F.slot_dict_setdefault PySem.F.type_dict_setdefault wO (fC hN S7 hd hcd) (dC hk (dC (um gg) gg Te) Qq) LG hf1 Qw Qq O5) hv Nu hf2 Jp J9 Ot) Lf) λD O H C=>by
  obtain⟨R,U,out,s,e,k⟩:=C;refine L2.hJ λP_ A=>?_;unfold gI at e;split at e
  ·rename_i l S;obtain⟨⟨mk,tk⟩,LY,e⟩:=Zz.mp e;split at e
   ·rename_i hc;obtain⟨c1,c2⟩:=hc;obtain⟨lv,ev,e⟩:=Zz.mp e;obtain⟨⟨t',y'⟩,e5,e6⟩:=Zv.mp e;cases e6;obtain⟨v,g1,g2⟩:=s.rp _ _ S;have Oc:=s.nd i _ S;obtain⟨a,ns,f,m,Fs,rfl,eΦ,ha,JT,el,t⟩:=cH g2;subst el;rw[eΦ]at Oc;refine A ?_;refine⟨.ref a,g1,by rw[hK];exact .inr (.inr (.inl ⟨rfl,.inl ⟨_,ha⟩⟩)),?_⟩;refine⟨R,U,mk,tk,s,LY,λkv n Fk Jr rk fk=>⟨ZO _,λq C=>?_⟩⟩;refine L2.hJ λP_ A=>?_;obtain⟨d,rfl,QI⟩:=c9 rk c1;dsimp only at QI LY e5 ev c1;subst QI;refine A ?_;have fin:∀(r:Hp)(P:Wa)(Og:List (Key×V))(w:V),Chg G H (.ref a) (R i) (.dct 0 (bW ((ns.map aw).zip m) (aw d))) r P->r a=Z (.dK Og)->cG Og d=Z w →
      tyV X.K "list" w r/\N7 G cs O r (λOP H4=>qZ w OP H4 (λ_ L=>D.nx O L)):=λr P Og w g h3 hw=>by
     refine L2.hJ λP_ A=>?_;obtain⟨z1,z2⟩:=s.mut S g1 g;have Td:(U.set i (Z (.ow (.dct 0 (bW ((ns.map aw).zip m) (aw d))))))[i]?=Z (Z (.ow (.dct 0 (bW ((ns.map aw).zip m) (aw d))))):=by
      have hi:i<U.length:=(Zb.mp S).1;rw[Xg hi]
     obtain⟨x',F1,x3,w2,w3,w4,w5⟩:=FB g.rp g.nd e5 h3 hw;refine A ?_;refine⟨by rw[hK];exact i7 w2 w4,iX R i P,_,lv,z1,ev,λOP H4 R5 q1 q2 q3=>?_⟩;refine k8 (iX R i P) _ r H4 w x' x3 F1 lv OP R5 y' _ w2 w3 ⟨q1,q2,q3⟩ w4 λu L F' g5=>?_;obtain⟨F2,g6⟩:=w5 L F' g5;have g6':Chg G r (.ref a) (iX R i P i) t' L F2:=by rw[gH];exact g6
     obtain⟨y1,y2⟩:=z1.mut Td g1 g6';rw[List.set_set]at y1 y2;exact k _ O L y1 (z2.trans y2)
    have Jf:aG n (upd n q (.lst [])):=bG C;have Q:aG H (upd n q (.lst [])):=Jr.trans Jf;have LH:upd n q (.lst []) a=Z (.dK (ns.zip f)):=Q a _ ha;have ln:(ns.zip f).length<sizeLine:=by
     have:((ns.map aw).zip m).length<16777216:=c2;rw[Z1,Zy]at this;rw[Z1];have:=t.len.1;have:(KF:Nat)=16777216:=rfl;lia
    have dg:=jG (G:=G) (k:=d) JT t;refine⟨a,ns.zip f,d,.ref q,rfl,rfl,LH,ln,λw hw=>?_,λhn=>?_⟩
    ·refine fin _ (a :: Fs.flatten) (ns.zip f) w ?_ LH hw;have es:bW ((ns.map aw).zip m) (aw d)=(ns.map aw).zip m:=by
      unfold bW;rcases dg with⟨E,h2⟩ | ⟨_,_,t2,_,E,_⟩
      ·rw[h2]at hw;cases hw
      ·rw[E];rfl
     rw[es,eΦ];exact Chg.none Q (by rw[eΦ]at g2;exact g2) Oc
    ·have es:bW ((ns.map aw).zip m) (aw d)=((ns++[d]).map aw).zip (m++[.lst []]):=by
      unfold bW;rcases dg with⟨E,h2⟩ | ⟨_,_,t2,_,E,h2,_⟩
      ·rw[E,Zm (by simp),Yo,Xb (by rw[Zy];exact JT.trans t.len.1)];rfl
      ·rw[h2]at hn;cases hn
     have ep:putK (ns.zip f) d (.ref q)=(ns++[d]).zip (f++[.ref q]):=by
      unfold putK;rw[je,hn,Zm (by simp),Xb JT];rfl
     have qa:q≠a:=λz=>by
      have:n a=Z (.dK (ns.zip f)):=Jr a _ ha;rw[← z,C]at this;cases this
     have qH:H q=Y:=Jr.free C;have m2:Ip (upd n q (.lst []) a):=by rw[LH];exact True.intro
     have nd:=ZY.mp Oc;have qF:q∉Fs.flatten:=λz=>Ip.p0 (t.IE q z) qH;have h3q:upd (upd n q (.lst [])) a (.dK (putK (ns.zip f) d (.ref q))) q=Z (.lst []):=by rw[ar qa,aj]
     have rq:Rp G (upd (upd n q (.lst [])) a (.dK (putK (ns.zip f) d (.ref q)))) (.ref q) (.lst []) (q :: ([]:X0).flatten):=.lst h3q .nil;refine fin _ (a :: (Fs++[[q]]).flatten) (putK (ns.zip f) d (.ref q)) (.ref q) ?_ aj (by rw[Au,Zr M]);rw[es,eΦ];refine Chg.upd Q Zx m2 (.dct (by rw[aj,ep]) (by simp[JT]) (((t.same Q).off m2 nd.1).append (.cons rq .nil))) ?_ ?_
     ·rw[Ys];refine ZY.mpr ⟨λz=>?_,ZL.mpr ⟨nd.2,by simp,λx hx y j z=>?_⟩⟩
      ·rcases Zd.mp z with z | z
       ·exact nd.1 z
       ·have h:a=q:=by simpa using z
        exact qa h.symm
      ·subst z;exact qF (by simpa[show x=q by simpa using j] using hx)
     ·intro y j;rcases Zk.mp j with rfl | j
      ·exact .inl Zx
      ·rw[Ys]at j;rcases Zd.mp j with j | j
       ·exact .inl (Zw _ j)
       ·rw[show y=q by simpa using j];exact .inr qH
   ·cases e
  ·cases e
end
end VS
end
section
namespace VS
open PySem PySem.Spec PyProof.Rows L2
def SJ:T->Option Key
 |.int i=>Z (.inl i)
 |.str x=>Z (.inr (sx x))
 |_=>Y
def PY:T->Option (List Key)
 |.tup l=>l.mapM SJ
 |_=>Y
def xB:T->Option cA
 |.tup l=>l.mapM PY
 |_=>Y
def Bt(h:SJ t=Z i):t=aw i:=by cases t<;>simp[SJ]at h<;>subst h<;>rfl
theorem oj{α β:Type}{f:α->Option β}{g:β->α}(h:∀a b,f a=Z b->a=g b):∀{l:List α}{m:List β},l.mapM f=Z m->l=m.map g
 |[],m,e=>by simp at e;subst e;rfl
 |a :: l,m,e=>by
  simp only[List.mapM_cons,Option.pure_def,Option.bind_eq_bind]at e;obtain⟨b,hb,e⟩:=Zz.mp e;obtain⟨bs,d,e⟩:=Zz.mp e;cases e;rw[Zn,← h a b hb,← oj h d]
def Bl(h:PY t=Z k):t=.tup (k.map aw):=by
 cases t with
 |tup l=>exact congrArg T.tup (oj (λa b=>Bt) h)
 |_=>simp[PY]at h
def rR(h:xB t=Z k):t=J0 k:=by
 cases t with
 |tup l=>exact congrArg T.tup (oj (λa b=>Bl) h)
 |_=>simp[xB]at h
section
def Rp.SY{k:Key}(r:Rp G H v (aw k) F):v=kV k:=by
 obtain⟨q,rfl,e⟩:=c9 r (by cases k<;>rfl);rw[(gz q k).mp (e ▸ (gz q q).mpr M)]
theorem RpL.ints:∀{k:List Key}{d:List V}{f:X0},RpL G H d (k.map aw) f->d=k.map kV
 |[],_,_,r=>by rw[X7]at r;cases r;rfl
 |i :: k,_,_,r=>by
  rw[Zn]at r;cases r with
  |cons h t=>rw[Zn,← RpL.ints t,Rp.SY h]
def Rp.JG{ts:V8}(r:Rp G H v (.tup ts) F):∃b vs Fs,v=.ref b/\H b=Z (.tup vs)/\RpL G H vs ts Fs:=by
 cases r with
 |tup h q=>exact⟨_,_,_,rfl,h,q⟩
def AE{k:cA}(r:Rp G H v (J0 k) F):∃b,v=.ref b/\LO H k b:=by
 obtain⟨b,d,f,rfl,h,q⟩:=Rp.JG r;have all:∀{k:cA}{d:List V}{f:X0},RpL G H d (k.map λx=>T.tup (x.map aw)) f->∃cs:Wa,d=cs.map V.ref/\Paired (λ(x:List Key) (c:KM)=>H c=Z (.tup (x.map kV))) k cs:=by
  intro k
  induction k with
  |nil=>intro d f q;rw[X7]at q;cases q;exact⟨[],rfl,.nil⟩
  |cons x k l =>
   intro d f q;rw[Zn]at q;cases q with
   |cons h t =>
    obtain⟨c,m,n,rfl,g,j⟩:=Rp.JG h;obtain⟨cs,e,pr⟩:=l t;rw[RpL.ints j]at g;exact⟨c :: cs,by rw[e];rfl,.cons g pr⟩
 obtain⟨cs,e,pr⟩:=all q;exact⟨b,rfl,cs,by rw[h,e],pr⟩
def zh:∀(x y:cA),eqT (J0 x) (J0 y)=decide (x=y):=by
 intro x y;unfold J0;rw[eqT]
 induction x generalizing y with
 |nil=>cases y<;>simp[g0]
 |cons i x d =>
  cases y with
  |nil=>simp[g0]
  |cons j y =>
   rw[Zn,Zn,g0,d y,show eqT (T.tup (i.map aw)) (T.tup (j.map aw))=decide (i=j) from CD j i];simp only[W3,Bool.decide_and]
noncomputable abbrev Kr(f:List (cA×KM))(d:List V):List (cA×KM×V):=(f.zip d).map λp=>(p.1.1,p.1.2,p.2)
theorem nk{k:cA}:∀{d:List (cA×KM)}{f:List V}{ts:V8}{Fs:X0},d.length=f.length->RpL G H f ts Fs →
  (((d.map λp=>J0 p.1).zip ts).findIdx? (λq=>eqT q.1 (J0 k))=Y/\Mr (Kr d f) k=Y) ∨
  ∃(j:Nat)(v:V)(t:T)(F:Wa),((d.map λp=>J0 p.1).zip ts).findIdx? (λq=>eqT q.1 (J0 k))=Z j/\(d.map λp=>J0 p.1)[j]?=Z (J0 k)/\ts[j]?=Z t/\Mr (Kr d f) k=Z v/\f[j]?=Z v/\Fs[j]?=Z F/\Rp G H v t F
 |[],[],_,_,_,.nil=>.inl ⟨rfl,rfl⟩
 |k' :: d,v :: f,_,_,s,.cons (t:=t) (F:=F) (ts:=ts) (Fs:=Fs) r q=>by
  by_cases g:k'.1=k
  ·refine .inr ⟨0,v,t,F,?_,by simp[g],rfl,by simp[Mr,Kr,g],rfl,rfl,r⟩;rw[Zn,ZU,YM,Zr (by rw[zh];exact decide_eq_true g)]
  ·have e1:((((k' :: d).map λp=>J0 p.1).zip (t :: ts)).findIdx? λq=>eqT q.1 (J0 k))=((((d.map λp=>J0 p.1).zip ts)).findIdx? λq=>eqT q.1 (J0 k)).map (·+1):=by
    rw[Zn,ZU,YM,Zm (by rw[zh];simp[g])]
   have e2:Mr (Kr (k' :: d) (v :: f)) k=Mr (Kr d f) k:=by simp[Mr,Kr,g]
   rcases nk (k:=k) (by simpa using s) q with⟨l,h⟩ | ⟨j,m,n,A,l,h,z,y,x,w,u⟩
   ·exact .inl ⟨by rw[e1,l];rfl,by rw[e2];exact h⟩
   ·exact .inr ⟨j+1,m,n,A,by rw[e1,l];rfl,by simpa using h,by simpa using z,by rw[e2];exact y,by simpa using x,by simpa using w,u⟩
def rJ(r:Rp G H v (.dct 2 l) F):∃(a:KM)(d:List (cA×KM))(f:List V)(g:V8)(j:X0),v=.ref a/\F=a :: j.flatten/\H a=Z (DN a (Kr d f))/\d.length=f.length/\(∀p∈d,LO H p.1 p.2)/\l=(d.map λp=>J0 p.1).zip g/\RpL G H f g j:=by
 cases r with
 |dctN h m n q=>exact⟨_,_,_,_,_,rfl,rfl,h,m,n,rfl,q⟩
def rM(h:∀p∈d,LO H p.1 p.2):∀p∈Kr d f,LO H p.1 p.2.1:=λp j=>by
 obtain⟨q,g,rfl⟩:=Yw.mp j;exact h q.1 (WA (a:=q.1) (b:=q.2) g).1
end
end VS
end
section
namespace L2
open PySem PySem.Spec PyProof.Rows
section
def DJ:TE:=λ_ H Q=>∀p,H p=Y->Q (.ref p) (upd H p (DN p []))
def Ad:PE X (.Dict [] [] pos) DJ:=λb s O H Q I h =>
 wpAny_Dict_empty ⟨.ref s.heap.objs.size,_,I.laid (a:=s.heap.objs.size) (o:=DN s.heap.objs.size []) (t':=s.toks) (λ_ _ q=>Zj _ q) (Zo _)
  (zX (xs:=[]) (ZO _) (ZE.mpr (Ye (Zc I.big))) .nil (Heap.DictOfH.new s.heap)),rfl,h _ (I.xb.fresh (Zo _))⟩
def yy{o:Obj}(h:o.ExactDict)(e:o.data=.dict g i):o=ST.dO g i:=by
 obtain⟨c,d,l,j⟩:=o;obtain⟨f,b,a⟩:=h;simp only at f b a e;subst f b a e;rfl
end
end L2
namespace VS
open PySem PySem.Spec PyProof.Rows L2
section
def Bz:PV G X (.Dict [] [] pos) (j7 2 []):=PE.weak Ad λO H Q a=>by
 obtain⟨R,U,m,t,s,e,k⟩:=a;cases (show Z (Md.fr,T.dct 2 [])=Z (m,t) from e);intro q a;have:Rp G (upd H q (DN q [])) (.ref q) (.dct 2 ((([]:List (cA×KM)).map λp=>J0 p.1).zip [])) (q :: ([]:X0).flatten):=.dctN (vs:=[]) aj M (λp d=>by simp at d) .nil;exact k _ _ [q] (bG a) this ⟨by simp,λb hb=>by rw[Ze.mp hb];exact a⟩
end
section
def Cn(h:x=sx t)(v:mn t):PV G X (.Dict [Z (.Constant (.str x) j q)] [.List [] l] pos) (j7 0 [(eC (.str t),hV ag)]) :=
 PE.weak (vy (rH yF (um gg) wj) M M (by simp) (by show 1<=15;decide)) λO H Q n=>by
  obtain⟨R,U,m,r,s,e,k⟩:=n;subst h;cases (show Z (Md.fr,T.dct 0 [(.str t,.lst [])])=Z (m,r) from e);intro p f;refine⟨ZO _,λb hb=>?_⟩;have d:b≠p:=λz=>by rw[z,aj]at hb;cases hb
  have g:H b=Y:=by rw[ar d]at hb;exact hb
  refine⟨by rw[ar (Ye d),aj],[(Sum.inr (sx t),.ref b)],rfl,(by show 1<=15;decide),?_⟩;have u:aw (Sum.inr (sx t))=.str t:=rfl;have i:aG H (upd (upd (upd H p (.dK [])) b (.lst [])) p (.dK (lO [] [(Sum.inr (sx t),.ref b)]))):=λc o a=>by
   rw[ar (bD a f),ar (bD a g),ar (bD a f)];exact a
  have:Rp G (upd (upd (upd H p (.dK [])) b (.lst [])) p (.dK [(Sum.inr (sx t),.ref b)])) (.ref p) (.dct 0 ((([Sum.inr (sx t)]:List Key).map aw).zip [.lst []])) (p :: ([[b]]:X0).flatten) :=
   .dct (ks:=[Sum.inr (sx t)]) (vs:=[V.ref b]) aj M (.cons (F:=b :: ([]:X0).flatten) (.lst (by rw[ar d,aj]) .nil) .nil)
  simp only[Zn,X7,u,ZU,List.zip_nil_right]at this;exact k _ _ _ i this ⟨by simp[Ye d],λc a=>by
   rcases Zk.mp a with rfl | a
   ·exact f
   ·simp at a;rw[a];exact g⟩
end
end VS
end
section
namespace L2
open PySem PySem.Spec PyProof.Rows
section
def NSt(H:Hp)(a b:KM)(d:List (cA×KM×V))(k:cA):Prop:=H a=Z (DN a d)/\(∀p∈d,LO H p.1 p.2.1)/\LO H k b
def DK:Jt:=λx y H Q=>∃a b d k,x=.ref b/\y=.ref a/\NSt H a b d k/\Q (.bl (Mr d k).isSome) H
def Dz{X:Cx}(i:X.A.units+2<cLine):OpR X (UF .In) DK:=by
 intro d s O H x y v u Q I g f h;obtain⟨a,b,o,k,rfl,rfl,⟨e,m,j⟩,q⟩:=h;cases g;cases f;obtain⟨z,hd,n,rel,l⟩:=Dp I.xb e m;refine wpAny_in_heap (knd:=NK.nest (aF X.prog X.w)) (by show X.A.units+1+1<cLine;exact i) (j.is I.xb) hd l ?_;have h:=(rel.at k).IP;rw[Y5]at h;rw[← h];exact⟨.bl _,H,I.tok _,rfl,q⟩
def FY:zb:=λo i v H Q=>∃a b d k,o=.ref a/\i=.ref b/\NSt H a b d k/\d.length<KF/\Mr d k=Y/\Q (upd H a (DN a (d++[(k,b,v)])))
def G4{X:Cx}(t:X.A.units+2<cLine):AW X FY:=by
 intro j s O H o i v M iv u Q I m n l h;obtain⟨a,b,N,k,rfl,rfl,⟨e,L,E⟩,D,C,q⟩:=h;cases m;cases n;obtain⟨z,hd,d,rel,G⟩:=Dp I.xb e L;have p:d.length<=sizeLine:=by rw[← rel.length];exact z
 have f:=rel.at k;rw[C]at f;have no:atKey d k=Y:=by
  cases r:atKey d k with
  |none=>rfl
  |some w=>rw[r]at f;cases f
 refine wpAny_setItem_heap (knd:=NK.nest (aF X.prog X.w)) (hsz:=p) (by show X.A.units+1+1<cLine;exact t) (E.is I.xb) G λF g x=>?_;rw[storedH_new no]at g;have he:∃q,F.get? a=Z q:=let ⟨q,_,_,y,_⟩:=g;⟨q,y⟩
 exact⟨_,jB I (by rw[e];exact True.intro) x he (zX (by rw[Zs];exact D) hd (rel.add ⟨rfl,rfl,l⟩) g),q⟩
end
end L2
namespace VS
open PySem PySem.Spec PyProof.Rows L2
section
@[simp] def xO(x y:Val):V7:=match y.2 with
 |.dct 2 l=>if (xB x.2).isSome then Z (.fr,.bl (l.findIdx? λp=>eqT p.1 x.2).isSome) else Y
 |_=>Y
def FA:gv G DK xO:=by
 intro R U E H x y u w N M m t Q i e k;obtain⟨C,y⟩:=y;obtain⟨D,x⟩:=x;simp only[xO]at e;split at e
 ·split at e
  ·rename_i o;cases e;obtain⟨d,s⟩:=Z3.mp o;obtain rfl:=rR s;obtain⟨a,ns,h,l,L,rfl,_,r,A,z,rfl,n⟩:=rJ i.r2;obtain⟨b,rfl,hb⟩:=AE i.r1;refine⟨a,b,Kr ns h,d,rfl,rfl,⟨r,rM z,hb⟩,?_⟩;have:(Mr (Kr ns h) d).isSome=(((ns.map λp=>J0 p.1).zip l).findIdx? λq=>eqT q.1 (J0 d)).isSome:=by
    rcases nk (G:=G) (k:=d) A n with⟨g,f⟩ | ⟨j,v,t,F,g,_,_,f,_⟩
    ·rw[g,f];rfl
    ·rw[g,f];rfl
   rw[this];exact bw k (.bl _)
  ·cases e
 ·cases e
def xn:Tells xO:=by
 intro x y m t e;simp only[xO]at e;split at e
 all_goals first | (split at e<;>first | (cases e;exact⟨_,rfl⟩) | cases e) | cases e
def DL{X:Cx}(d:xa k X.A)(h:PV G X a ca)(g:PV G X b cb)(f:{`q3,behindInMarks .In b=J}):Kw G X (.Compare a [.In] [b] pos) (e2 xO ca cb):=fM (r:=DK) (Dz (by have:=d.un;lia)) FA xn h g f
def sE(i:Nat)(k e:Ex)(U:VS.Env):Option Out:=(e U).bind λv=>match U[i]? with
 |some (some (.ow (.dct 2 l)))=>(k U).bind λd=>if (xB d.2).isSome/\Iq v.2/\l.length<eu/\(l.findIdx? λp=>eqT p.1 d.2)=Y then Z (.nx (U.set i (Z (.ow (.dct 2 (l++[(d.2,v.2)])))))) else Y
 |_=>Y
def FF{X:Cx}{pos:Pos}(i:Nat)(hr:xa kr X.A)(hk:PV G X b ck)(he:PV G X e ce)(hN:X.N[i]?=Z x)(hv:Kp X.env.scope x)(hd:K3 x)(L:K4 x)(ha:∀v,assign (.Subscript (.Name x p1) b pos') X.env v=(do
   let w ← holding [v] (eval (.Name x p1) X.env)
   let iv ← holding [v,w] (eval b X.env)
   standAt pos'
   holding [v,w,iv] (setItem w iv v)
   release [v,w,iv] []))(hs:swapsWithSole [.Subscript (.Name x p1) b pos'] e pos.line X.env=pure J)(hw:swappedStores [.Subscript (.Name x p1) b pos'] e X.env=pure Y)(M:(assignEach [.Subscript (.Name x p1) b pos'] X.env).map (·.2)=[assign (.Subscript (.Name x p1) b pos') X.env]):PSV G X (.Assign [.Subscript (.Name x p1) b pos'] e pos) (sE i ck ce) :=
 PS.weak (qk he (p8 (fC hN hv hd L) hk (G4 (by have:=hr.un;lia)) ha) hs hw M) λD O H hq=>by
  obtain⟨R,U,out,s,e,k⟩:=hq;unfold sE at e;obtain⟨⟨mv,q⟩,ev,e⟩:=Zz.mp e;split at e
  ·rename_i l F;obtain⟨⟨mk,tk⟩,LY,e⟩:=Zz.mp e;split at e
   ·rename_i hc;cases e;obtain⟨c1,c2,c3,Q⟩:=hc;obtain⟨v,g1,g2⟩:=s.rp _ _ F;refine⟨R,U,mv,q,s,ev,λxv H1 Fv Jr rv fv=>?_⟩;refine⟨v,g1,R,U,mk,tk,s.same Jr,LY,λkv h Fk Kq rk fk=>?_⟩;have t:aG H h:=Jr.trans Kq;have Mb:Rp G h xv q Fv:=rv.same Kq;have eF:=Mb.Iq c2;subst eF;have C:=s.nd i _ F;obtain⟨a,ns,f,r,S,rfl,eΦ,IK,y,Nw,rfl,u⟩:=rJ g2;rw[eΦ]at C;obtain⟨d,P⟩:=Z3.mp c1;have QI:=rR P;dsimp only at QI Q c2;subst QI;obtain⟨m,rfl,VI⟩:=AE rk;have Kd:h a=Z (DN a (Kr ns f)):=t a _ IK;have E:Ip (h a):=by rw[Kd];exact True.intro
    have nd:=ZY.mp C;have QB:∀p∈ns,LO h p.1 p.2:=λp n=>(Nw p n).mono λb xs z=>t b _ z;have ln:(Kr ns f).length<sizeLine:=by
     have:((ns.map λp=>J0 p.1).zip r).length<16777216:=c3;rw[Z1,Zy]at this;rw[Zy,Z1];have:=u.len.1;have:(KF:Nat)=16777216:=rfl;lia
    have no:Mr (Kr ns f) d=Y:=by
     rcases nk (G:=G) (k:=d) y u with⟨_,h2⟩ | ⟨j,_,_,_,M,_⟩
     ·exact h2
     ·rw[M]at Q;cases Q
    refine⟨a,m,Kr ns f,d,rfl,rfl,⟨Kd,rM QB,VI⟩,ln,no,?_⟩;have ep:Kr ns f++[(d,m,xv)]=Kr (ns++[(d,m)]) (f++[xv]):=by
     unfold Kr;rw[Xb y,Yo];rfl
    rw[ep];have kp:Kept h (upd h a (DN a (Kr (ns++[(d,m)]) (f++[xv])))):=Kept.upd (.inl E);have r1:=((u.same t).append (.cons Mb .nil)).off (o:=DN a (Kr (ns++[(d,m)]) (f++[xv]))) E (by simpa using nd.1);have g:Chg G H (.ref a) (R i) (.dct 2 ((ns.map λp=>J0 p.1).zip r++[(J0 d,q)])) (upd h a (DN a (Kr (ns++[(d,m)]) (f++[xv])))) (a :: (S++[[]]).flatten):=by
     rw[eΦ,show (ns.map λp=>J0 p.1).zip r++[(J0 d,q)]=((ns++[(d,m)]).map λp=>J0 p.1).zip (r++[q]) by
      rw[Yo,Xb (by rw[Zy];exact y.trans u.len.1)];rfl]
     have ef:(S++[[]]).flatten=S.flatten:=by simp
     refine Chg.upd t Zx E (.dctN aj (by simp[y]) (λp n=>?_) r1) (by rw[ef];exact C) (by rw[ef];exact λb hb=>.inl hb);rcases Zd.mp n with n | n
     ·exact(QB p n).mono kp.tup
     ·rw[Ze.mp n];exact VI.mono kp.tup
    obtain⟨z1,z2⟩:=s.mut F g1 g;exact k _ O _ z1 z2
   ·cases e
  ·cases e
end
end VS
end
section
open PySem PyProof.Rows
namespace TS
noncomputable def iY(h:UV)(a:KM)(b:V0):Addr:=((h.update a (Obj.mapSeq λ_=>#[])).push (seqObj "tuple" b.toArray 0)).objs.size
def rn(h:UV)(a:KM)(b:V0):iY h a b=h.objs.size+1:=by unfold iY;rw[Xi,Xn]
structure KeyPre(prog:Re)(w:XAA)(A:SB)(E:Yy)(P:PySem.Fin->IR->Prop)(f:On)(a K:KM)(oa:Option Obj)(vs:V0)(J:V0->IR->Prop)(g:V0->V0:=id):Prop where
 keys:∀ks s',J ks s'->∃e,s'.heap.get? K=some (seqObj "list" ks.toArray e)
 self:∀ks s',J ks s'->s'.heap.get? a=oa
 step:∀ks x s',vs[ks.length]?=some x->J ks s'->PP (KB prog w) A (call f [x]) (λk s2=>(∃e,s2.heap.get? K=some (seqObj "list" ks.toArray e))/\J (ks++[k]) { s2 with heap:=s2.heap.update K (Obj.mapSeq λxs=>xs.push k) }) (λ_ _=>False) s'
 fin:∀ks s',J ks s'->ks.length=vs.length->∃kd G r,JO prog w A E s' kd G r/\(∀p∈ks.zip vs,G p)/\(2<=vs.length->∀Q:SortKind->IR->Prop,Q kd s'->PP (KB prog w) A (keyKind' ks.toArray) Q E s') ∧
  ∀out:List Pi,out.Perm (ks.zip vs)->out.Pairwise (le r)->P (.done (.ret .none)) { s' with heap:=(s'.heap.update K (Obj.mapSeq λ_=>#[])).update a (Obj.mapSeq λ_=>(g (out.map (·.2))).toArray) }
def wm{s:IR}{vs:V0}{P:PySem.Fin->IR->Prop}{J:V0->IR->Prop}(t:(f != Value.none)=B)(m:s.heap.get? a=Z (seqObj "list" vs.toArray n))(i:vs.length<=KF)(j0:J [] { s with heap:=dm s.heap a vs })(p:KeyPre prog w A E P f a (iY s.heap a vs) ((dm s.heap a vs).get? a) vs J) :
  PP (KB prog w) A (Builtin.«list.sort» ⟨[.ref a],[(("key" : Str),f)]⟩) P E s:=by
 obtain⟨o,S⟩:∃k,(s.heap.update a (Obj.mapSeq λ_=>#[])).get? a=Z (seqObj "list" #[] k):=⟨_,WC m _⟩
 have at2:=uf (vs:=vs) (ZR m) S;have ne:a≠iY s.heap a vs:=by rw[rn];exact Zc (YW (ZR m))
 unfold Builtin.«list.sort»;refine(show PP (KB prog w) A (Builtin.List.listItems (.ref a)>>=_) P E s from ?_);refine Zu (listItems_at m M (Zu (XZ m M (Zu (Vq S M (Zu (wpAny_newTuple (Zu (W5 (YE ?_))))))))));refine(show PP (KB prog w) A (if (f != Value.none)=B then _ else _) P E { s with heap:=dm s.heap a vs } from ?_);rw[Zr t];refine Zu (wpAny_rule (Zu ?_));rw[← WW];refine We _ (λrest _ d=>∃b,J b d/\rest=vs.drop b.length/\b.length<=vs.length) _ ?turn ?fin _ _ ⟨[],j0,by simp,by simp⟩
 case turn =>
  rintro x rest r d ⟨b,l,e,C⟩;have H:b.length<vs.length:=by
   have:=congrArg List.length e;rw[Za,Z2]at this;omega
  have e2:x :: rest=vs[b.length] :: vs.drop (b.length+1):=by rw[e];exact Xo H
  injection e2 with ex er
  have y:vs[b.length]?=Z x:=by rw[Zp H,ex]
  refine Zu (wpAny_attempt (YR (p.step b x d y l) (λk v ⟨⟨e2,he⟩,X⟩=>?_) λ_ _ z=>z.elim));have sz:b.toArray.size<=sizeLine:=by rw[ZQ];exact ZC C i
  exact(show PP (KB prog w) A (Builtin.List.listUpdate (.ref (iY s.heap a vs)) (λU=>U.push k)>>=_) _ _ _ from Zu (XZ he M (Zh ⟨b++[k],X,by rw[er];simp,by simp;exact Nat.succ_le_of_lt H⟩) (hsz:=sz) (hsz2:=by rw[Array.size_push];exact Y0 sz)))
 case fin =>
  rintro r d ⟨b,l,e,C⟩;have JT:b.length=vs.length:=by
   have:=congrArg List.length e;rw[W0,Z2]at this;lia
  obtain⟨eK,D⟩:=p.keys b d l;have O:=p.self b d l;rw[at2]at O;obtain⟨kd,G,r,hC,hG,O9,hP⟩:=p.fin b d l JT;have fin:∀g:SC,(arrOf g).Perm (b.zip vs).toArray->failedOf g=Y->(arrOf g).toList.Pairwise (le r)->P (.done (.ret .none)) { d with heap:=(d.heap.update (iY s.heap a vs) (Obj.mapSeq λ_=>#[])).update a (Obj.mapSeq λ_=>(arrOf g).map (·.2)) }:=λg h _ j=>by
   have:=hP (arrOf g).toList (by simpa using Xq.mp h) j
   rwa [id,← VO,Array.toArray_toList]at this
  have u:(d.heap.update (iY s.heap a vs) (Obj.mapSeq λ_=>#[])).get? a=Z (seqObj "list" #[] o):=by rw[Wi _ _ (Ye ne)];exact O
  refine(show PP (KB prog w) A (if (f != Value.none)=B then _ else _) P E d from ?_);rw[Zr t];refine(show PP (KB prog w) A (Builtin.List.listItems (.ref (iY s.heap a vs))>>=_) P E d from Zu (listItems_at D M ?_));have room:∀g:SC,(arrOf g).Perm (b.zip vs).toArray->((arrOf g).map (·.2)).size<=KF+1:=λg h=>by
   rw[Array.size_map,h.size_eq,ZQ,Z1];lia
  have R:b.toArray.size<=sizeLine:=by rw[ZQ];exact ZC C i
  have F:b.toArray.zip vs.toArray=(b.zip vs).toArray:=by simp
  by_cases two:2<=vs.length
  ·have no:¬(vs.toArray.size<2):=by rw[ZQ];exact Nat.not_lt_of_le two
   refine(show PP (KB prog w) A (if vs.toArray.size<2 then _ else _) P E d from ?_);rw[Zm no];refine Zu (O9 two _ ?_);refine(show PP (KB prog w) A (StateT.run (if vs.toArray.size<2 then pure () else sortRuns') (SortSt.mk' kd (b.toArray.zip vs.toArray) #[] 7 Y)>>=_) P E d from ?_);rw[Zm no];refine Zu (YR (vS hC (a₀:=(b.zip vs).toArray) (st:=SortSt.mk' kd (b.toArray.zip vs.toArray) #[] 7 Y)
    (Q:=λ_ g=>(arrOf g).Perm (b.zip vs).toArray/\failedOf g=Y/\(arrOf g).toList.Pairwise (le r)) M (λx y=>hG x (by simpa using y)) F M M λg a1 a2 a3=>⟨a1,a2,a3⟩) ?_ λ_ _ e=>e)
   rintro⟨⟨⟩,g⟩ v ⟨rfl,h,N,j⟩;refine(show PP (KB prog w) A (if (f != Value.none)=B then _ else _) P E v from ?_);rw[Zr t];refine(show PP (KB prog w) A (Builtin.List.listUpdate (.ref (iY s.heap a vs)) (λ_=>#[])>>=_) P E v from Zu (XZ D M (Zu (wpAny_letGo (Zu (Vq u M (Zu (XZ u M ?_ (hsz2:=room g h))))))) (hsz:=R)));have L:=N;unfold failedOf at L;rw[L];simp only[bne_self_eq_false,Yf,↓reduceIte];exact Zh (fin g h N j)
  ·have yes:vs.toArray.size<2:=by rw[ZQ];exact VY two
   have h:(arrOf (SortSt.mk' general' (b.toArray.zip vs.toArray) #[] 7 Y)).Perm (b.zip vs).toArray:=by
    show (b.toArray.zip vs.toArray).Perm _;rw[F]
   have j:(arrOf (SortSt.mk' general' (b.toArray.zip vs.toArray) #[] 7 Y)).toList.Pairwise (le r):=by
    show (b.toArray.zip vs.toArray).toList.Pairwise (le r);rw[F]
    match vs,b,two with
    |[],_,_=>simp
    |[_],[],_=>simp
    |[_],_ :: _,_=>simp
    |_ :: _ :: _,_,q=>simp at q
   refine(show PP (KB prog w) A (if vs.toArray.size<2 then _ else _) P E d from ?_);rw[Zr yes];refine Zu (Zh ?_);refine(show PP (KB prog w) A (StateT.run (if vs.toArray.size<2 then pure () else sortRuns') (SortSt.mk' general' (b.toArray.zip vs.toArray) #[] 7 Y)>>=_) P E d from ?_);rw[Zr yes,StateT.run_pure];refine Zu (Zh ?_);refine(show PP (KB prog w) A (if (f != Value.none)=B then _ else _) P E d from ?_);rw[Zr t];refine(show PP (KB prog w) A (Builtin.List.listUpdate (.ref (iY s.heap a vs)) (λ_=>#[])>>=_) P E d from Zu (XZ D M (Zu (wpAny_letGo (Zu (Vq u M (Zu (XZ u M ?_ (hsz2:=room _ h))))))) (hsz:=R)));have b0:(o != o)=false:=bne_self_eq_false _;refine(show PP (KB prog w) A (if (o != o)=B then _ else ret Value.none) P E _ from ?_);rw[Zm (by rw[b0];simp)];exact Zh (fin _ h M j)
end TS
end
section
open PySem PyProof.Rows
namespace TS
def p9(a f:On):argsOk "sorted" ⟨[a],[(("key" : Str),f)]⟩:=by unfold argsOk;kernel_rfl
def uu(a f:On):argsOk "list.sort" ⟨[a],[(("key" : Str),f)]⟩:=by unfold argsOk;kernel_rfl
def iG(h:UV)(a:V0):Heap:=dm (h.push (seqObj "list" a.toArray 0)) h.objs.size a
def rL{h:UV}(e:h.get? b=Z o):(iG h a).get? b=Z o:=by
 have hb:=ZR e;unfold iG dm;rw[YN _ _ _ (by rw[Xi,Xn,Xi];exact nl hb 2),YN _ _ _ (by rw[Xn,Xi];exact nl hb 1),Xr _ _ _ _ (Zc hb),YN _ _ _ (Zc hb)];exact e
def qN(h:UV)(vs:V0):∃e,(iG h vs).get? h.objs.size=Z (seqObj "list" #[] e):=by
 have a:(h.push (seqObj "list" vs.toArray 0)).get? h.objs.size=Z (seqObj "list" vs.toArray 0):=ZW _ M;obtain⟨k,b⟩:∃k,((h.push (seqObj "list" vs.toArray 0)).update h.objs.size (Obj.mapSeq λ_=>#[])).get? h.objs.size=Z (seqObj "list" #[] k):=⟨_,WC a _⟩
 exact⟨k,uf (vs:=vs) (ZR a) b⟩
def qQ(h:UV)(a:V0):(iG h a).get? (h.objs.size+2)=Z (seqObj "list" #[] 0):=by
 unfold iG dm;have e:(((h.push (seqObj "list" a.toArray 0)).update h.objs.size (Obj.mapSeq λ_=>#[])).push (seqObj "tuple" a.toArray 0)).objs.size=h.objs.size+2:=by rw[Xi,Xn,Xi]
 rw[← e];exact ZW _ M
def sU{A:SB}(j:(f != Value.none)=B)(n:∀(g:SB)(o:Yy),g.handled=A.handled->PP (KB prog w) g (collect x) (λa s1=>a.length<=KF/\∃J,J [] { s1 with heap:=iG s1.heap a } ∧
   KeyPre prog w A.in1.in1 E (λfin b=>fin=.done (.ret .none)/\Q (.ref s1.heap.objs.size) b) f s1.heap.objs.size (s1.heap.objs.size+2) ((iG s1.heap a).get? s1.heap.objs.size) a J) o s) :
  PP (KB prog w) A (call (.builtin "sorted") [x] [(("key" : Str),f)]) Q E s:=by
 refine call_function_entry_kw kind_sorted plain_sorted entry_sorted (p9 _ _) (show PP _ _ (Builtin.«sorted» _) _ _ _ from ?_);unfold Builtin.«sorted»;refine Zu (m:=checkCount "sorted" 1 1 _) (Zh (Zu (YR (n A.in1 (λ_ _=>False) M) ?_ λ_ _ e=>e.elim)));rintro a s1 ⟨hlen,J,i,kp⟩;refine Zu (W5 ?_ (by exact hlen));have d:(s1.heap.push (seqObj "list" a.toArray 0)).get? s1.heap.objs.size=Z (seqObj "list" a.toArray 0):=ZW _ M;have l:iY (s1.heap.push (seqObj "list" a.toArray 0)) s1.heap.objs.size a=s1.heap.objs.size+2:=by rw[rn,Xi]
 refine(show PP _ _ _ _ _ { s1 with heap:=s1.heap.push (seqObj "list" a.toArray 0) } from ?_);have main:=wm (J:=J) (s:={ s1 with heap:=s1.heap.push (seqObj "list" a.toArray 0) }) j d hlen i (P:=λfin b=>fin=.done (.ret .none)/\Q (.ref s1.heap.objs.size) b) (by rw[l];exact kp);exact Zu (YE (wpAny_call_entry_kw slot_list_sort ⟨_,d,rfl⟩ entry_list_sort (YR main (λfin b h=>⟨_,h.1,Zh ⟨_,rfl,h.2⟩⟩) λ_ _ e=>e) (uu _ _)))
end TS
end
section
namespace L2
open PySem PySem.Spec PyProof.Rows TS
section
variable{H:Hp}
def Inv.adopt{h':UV}{o:HO}{t':Nat}(I:Inv X pins O H s)(f:lB X pins H a)(k:∀b u,b≠a->s.heap.get? b=Z u->h'.get? b=Z u)(he:∃u,h'.get? a=Z u)(g:aY X.prog X.w (upd H a o) h' a o) :
  Inv X pins O (upd H a o) { s with heap:=h',toks:=t' }:=by
 obtain⟨x,f1,f2,t,p,l⟩:=f;have ne:∀b u,H b=Z u->b≠a:=λb u e z=>by rw[z,x]at e;cases e
 refine I.step (g':=s.gens) (d':=s.drawn) (ch:=[a]) (λb hb=>?_) (λb o _ _ d e _=>k b o (λz=>d (by simp[z])) e) (λb o _ _ d e _=>⟨o.slots,k b o (λz=>d (by simp[z])) e⟩) (λb _ d _ n=>?_)
  (λb o d e=>⟨o,k b o (λz=>d (by simp[z])) e⟩) (λb h e=>?_) (λb o u e=>?_) (λb _ e=>?_) (λm j=>?_) (λb u e=>?_) I.bare
 ·rw[Ze.mp hb];exact⟨t,f1,p,l⟩
 ·rw[ar (λz=>d (by simp[z]))];exact n
 ·rw[ar (ne b _ e)];exact e
 ·rw[ar (ne b _ e)];exact e
 ·rw[ar (ne b _ e)];exact e
 ·obtain⟨o,y,A,i,r⟩:=j;exact⟨o,y,A,k _ o (Ye f1) i,r⟩
 ·by_cases hb:b=a
  ·subst hb;rw[aj]at e;cases e;exact g
  ·rw[ar hb]at e;refine(I.xb b u e).Lq (λc v d q=>k c v ?_ q) (λc q=>by rw[ar (ne c _ q)];exact q) (λc h q=>by rw[ar (ne c _ q)];exact q) λc _ _ q=>by rw[ar (ne c _ q)];exact q
   rcases d with z | z
   ·rw[z];exact hb
   ·exact ne c _ z
noncomputable def N5:On->Str
 |.str x _=>x
 |_=>⟨#[]⟩
end
end L2
end
section
namespace VS
open PySem PySem.Spec PyProof.Rows L2 TS
noncomputable def lL(a b:Tx):Prop:=a.length<b.length\/a.length=b.length/\a<b
def SQ(a b:Tx):Bool:=decide (a.length<b.length)||(decide (a.length=b.length)&&Mg a b)
def v8(a b:Tx):SQ a b=B↔lL a b:=by
 unfold SQ lL;rw[lU];simp
def xH(a:Tx):¬lL a a:=λh=>by
 rcases h with h | ⟨_,h⟩
 ·exact YI _ h
 ·exact List.lt_irrefl _ h
def tj(h:lL a b)(d:lL b c):lL a c:=by
 rcases h with h | ⟨e,h⟩<;>rcases d with d | ⟨f,d⟩
 ·exact .inl (by exact WJ h d)
 ·exact .inl (by lia)
 ·exact .inl (by lia)
 ·exact .inr ⟨by exact Eq.trans e f,List.lt_trans h d⟩
def Eu(a b:Tx):lL a b\/a=b\/lL b a:=by
 rcases Nat.lt_trichotomy a.length b.length with h | h | h
 ·exact .inl (.inl h)
 ·by_cases e:a<b
  ·exact .inl (.inr ⟨h,e⟩)
  ·by_cases d:b<a
   ·exact .inr (.inr (.inr ⟨h.symm,d⟩))
   ·exact .inr (.inl (List.le_antisymm (Vz.mp d) (Vz.mp e)))
 ·exact .inr (.inr (.inl h))
def uz(x:Tx):List Tx->List Tx
 |[]=>[x]
 |y :: r=>if SQ y x then y :: uz x r else x :: y :: r
def Ar(l:List Tx):List Tx:=l.foldr uz []
theorem lJ(x:Tx):∀l:List Tx,(uz x l).Perm (x :: l)
 |[]=>Xj _
 |y :: r=>by
  unfold uz;split
  ·exact((lJ x r).cons y).trans (List.Perm.swap _ _ _)
  ·exact Xj _
theorem oQ:∀l:List Tx,(Ar l).Perm l
 |[]=>Xj _
 |x :: l=>(lJ x _).trans ((oQ l).cons x)
theorem vn(x:Tx):∀{l:List Tx},l.Pairwise (λa b=>¬lL b a)->(uz x l).Pairwise (λa b=>¬lL b a)
 |[],_=>by simp[uz]
 |y :: r,h=>by
  unfold uz;obtain⟨g,i⟩:=YV.mp h;split
  ·rename_i c;have f:=(v8 y x).mp c;refine YV.mpr ⟨λz d=>?_,vn x i⟩;rcases Zk.mp ((lJ x r).mem_iff.mp d) with rfl | d
   ·exact λw=>xH _ (tj f w)
   ·exact g z d
  ·rename_i c;have f:¬lL y x:=λz=>c ((v8 y x).mpr z);refine YV.mpr ⟨λz d=>?_,h⟩;rcases Zk.mp d with rfl | d
   ·exact f
   ·intro w;rcases Eu y x with e | e | e
    ·exact f e
    ·subst e;exact g z d w
    ·exact g z d (tj w e)
theorem rW:∀l:List Tx,(Ar l).Pairwise (λa b=>¬lL b a)
 |[]=>List.Pairwise.nil
 |x :: l=>vn x (rW l)
end VS
end
section
namespace L2
open PySem PySem.Spec PyProof.Rows
section
def Bm:List V->Hp->VK->Prop:=λa H Q=>∃j:Int,a=[.int j]/\0<=j/\j<=16777216/\∀(b l:KM),H b=Y->H l=Y->b≠l->Q (.ref l) (upd (upd H b (.rng 0 j)) l (.lst ((List.range j.toNat).map λi:Nat=>V.int (i:Int))))
def wL{X:Cx}(C:∀O H Q R,(∀d y,Q d y->R d y)->A O H Q->A O H R)(hc:X.calm=B)(D:Gl X "range")(hm:X.mg "range" = Y)(E:Gl X "list")(Nq:X.mg "list" = Y)(TK:bootBuiltins ("list" : Str)=Z (.type "list"))(ha:PA X [a] A)(hs:Pv [a] X.env=[(J,eval a X.env)])(J9:Pv [.Call (.Name "range" p) [a] [] pos] X.env=[(J,eval (.Call (.Name "range" p) [a] [] pos) X.env)]):PE X (.Call (.Name "list" G) [.Call (.Name "range" p) [a] [] pos] [] S) (λO H Q=>A O H λd y=>Bm d y Q):=by
 intro f s O H Q I h;have inner:PE X (.Call (.Name "range" p) [a] [] pos) (λO H Q=>A O H λd y=>∃j:Int,d=[.int j]/\∀b,y b=Y->Q (.ref b) (upd y b (.rng 0 j))):=by
  intro f s O H Q I h;refine Call_ (iH I D hm boot_range (Xy (thn (ha pos f s O H _ I h) λus s1 ⟨d,y,I1,r1,q1⟩=>?_) hs M));obtain⟨j,e,q⟩:=q1;subst e;obtain⟨u,rfl,t,rfl⟩:=vals1 r1;exact call_range_1 ⟨.ref s1.heap.objs.size,_,I1.laid (a:=s1.heap.objs.size) (o:=.rng 0 j) (λ_ _ q=>Zj _ q) (Zo _) ⟨_,_,_,ZW _ M⟩,rfl,q _ (I1.xb.fresh (Zo _))⟩
 have outer:=lG (X:=X) (x:=("list" : Str)) (T := "list") (p:=G) (pos:=S) (es:=[]) (e:=.Call (.Name "range" p) [a] [] pos) (r:=λF H Q=>∃(b:KM)(j:Int),F=[.ref b]/\H b=Z (.rng 0 j)/\0<=j/\j<=16777216/\∀l,H l=Y->Q (.ref l) (upd H l (.lst ((List.range j.toNat).map λi:Nat=>V.int (i:Int)))))
  (by
   intro f s O H F us Q I rx h;obtain⟨b,j,rfl,hb,P,N,q⟩:=h;obtain⟨u,rfl,ru⟩:=rx.one;obtain rfl:=(show u=Value.ref b from ru)
   obtain⟨t,u,v,g⟩:=(show aY X.prog X.w H s.heap b (.rng 0 j) from I.xb b _ hb)
   refine call_list_range (n:=j.toNat) (I.ok.hd hc) g (small_one (by lia) (by lia) (by lia) (by lia)) (by rw[rangeSize_one];split<;>lia) (by lia) λh' tk acc c kp g2 U=>?_;have hv:aN ((List.range j.toNat).map λi:Nat=>V.int (i:Int)) acc.toList:=by
    have key:∀(n:Nat)(k:Nat)(d:V0),d.length=n->(∀(i:Nat)(v:On),d[i]?=Z v->∃t,v=.int ((k+i:Nat):Int) t)->aN ((List.range' k n).map λi:Nat=>V.int (i:Int)) d:=by
     intro n
     induction n with
     |zero=>intro k d m _;rw[WN.mp m];exact .nil
     |succ n ih =>
      intro k d m D;cases d with
      |nil=>simp at m
      |cons v d =>
       obtain⟨t,rfl⟩:=D 0 v M;refine .cons ⟨t,rfl⟩ (ih (k+1) d (by simpa using m) λi w hw=>?_);obtain⟨t2,e⟩:=D (i+1) w (by simpa using hw);exact⟨t2,by rw[e];congr 2;lia⟩
    rw[List.range_eq_range'];refine key _ _ _ (by rw[Yl,U.1]) λi v L=>?_;rw[ZD]at L;obtain⟨t,e⟩:=U.2 i v L;exact⟨t,by rw[e];congr 1;lia⟩
   exact⟨.ref s.heap.objs.size,_,I.laid kp (Zo _) (show aY X.prog X.w _ h' _ (.lst _) from⟨by rw[Zy,Z0];show _<=16777216;lia,acc.toList,c,hv,g2⟩),rfl,q _ (I.xb.fresh (Zo _))⟩)
  E Nq TK (dC inner gg J9) (by decide) M J9 M
 refine outer f s O H Q I ?_;refine C O H _ _ (λd y q=>?_) h;obtain⟨j,e,P,N,q⟩:=q;refine⟨j,e,λb hb=>(show _ from ?_)⟩;refine⟨b,j,rfl,aj,P,N,λl m=>?_⟩;have bl:b≠l:=λz=>by rw[← z,aj]at m;cases m
 exact q b l hb (by rw[ar (Ye bl)]at m;exact m) bl
end
end L2
namespace VS
open PySem PySem.Spec PyProof.Rows L2
noncomputable def kH:V6->V7
 |[(_,.int j)]=>if 0<=j/\j<=16777216 then Z (.fr,.lst ((List.range j.toNat).map λi:Nat=>T.int (i:Int))) else Y
 |_=>Y
section
theorem sV:∀(l:V2),RpL G H (l.map λi:Nat=>V.int (i:Int)) (l.map λi:Nat=>T.int (i:Int)) (l.map λ_=>[])
 |[]=>.nil
 |i :: l=>.cons (.int _) (sV l)
def yX{X:Cx}(E:X.mg "list" = Y)(z:X.mg "range" = Y)(D:Jj G X [e] cs)(h:Gl X "list")(A:Gl X "range")(C:X.calm=B)(y:Pv [e] X.env=[(J,eval e X.env)])(L:Pv [.Call (.Name "range" p) [e] [] pos] X.env=[(J,eval (.Call (.Name "range" p) [e] [] pos) X.env)]):PV G X (.Call (.Name "list" p2) [.Call (.Name "range" p) [e] [] pos] [] KJ) (eN kH cs) :=
 PE.weak (wL (λO H Q N m ⟨R,U,l,s,o,k⟩=>⟨R,U,l,s,o,λg f u a b c=>m _ _ (k g f u a b c)⟩) C A z h E qm D y L) λO H Q d=>by
  obtain⟨R,U,m,t,s,e,k⟩:=d;unfold eN at e;obtain⟨l,o,e⟩:=Zz.mp e;refine⟨R,U,l,s,o,λg f u s1 r1 f1=>?_⟩;unfold kH at e;split at e
  ·rename_i M j;split at e
   ·rename_i w;cases e;obtain⟨v,F,rfl,rfl,x⟩:=(show RpL G f g [.int j] u from r1).one;cases x;refine⟨j,rfl,w.1,w.2,λb q hb d n=>?_⟩;have r:Rp G (upd (upd f b (.rng 0 j)) q (.lst ((List.range j.toNat).map λi:Nat=>V.int (i:Int)))) (.ref q) (.lst ((List.range j.toNat).map λi:Nat=>T.int (i:Int))) (q :: ((List.range j.toNat).map λ_=>[]).flatten):=.lst aj (sV _);rw[jq]at r;refine k _ _ _ ((s1.trans (bG hb)).trans (bG (by rw[ar (Ye n)];exact d))) r (Fp.new (s1.free d) (by simp) Fp.nil)
   ·cases e
  ·cases e
end
section
def oB{b:Expr}(s:PV G X a i)(o:PV G X b f)(n:PV G X c d)(l:lastMarks [.LtE,.Lt] [b,c]=J):Kw G X (.Compare a [.LtE,.Lt] [b,c] pos) (lP oLe oLt i f d) :=
 PT.weak (Ai Eg uK s o n l) λO H Q h=>tq h (λU m r e=>by
  unfold lP at e;obtain⟨x,A,e⟩:=Zz.mp e;obtain⟨y,w,e⟩:=Zz.mp e;obtain⟨⟨t,z⟩,u,e⟩:=Zz.mp e;cases z with
  |bl q =>
   cases q with
   |false=>cases e;exact⟨_,rfl⟩
   |true =>
    obtain⟨j,v,e⟩:=Zz.mp (show (d U).bind (λz=>oLt y z)=Z (m,r) from e);exact kQ y j m r e
  |_=>cases e) λQ h=>ya GD zr h
def Dx{pos:Pos}(h:PV G X e a)(j:swapsWith e Y pos.line X.env=pure J):PSV G X (.Expr e pos) (sX (xP a)) :=
 PS.weak (jD h j) λD O H d=>by
  obtain⟨R,U,out,s,e,k⟩:=d;unfold sX xP at e;obtain⟨⟨v,n⟩,e1,e2⟩:=Zv.mp e;obtain⟨⟨m,t⟩,i,f⟩:=Zv.mp e1;cases f;cases e2;exact⟨R,U,m,t,s,i,λv l F e1 r1 f1=>k R O l (s.same e1) (Jd.same e1)⟩
end
section
def zW{j pos'}(g:PV G X a ca):Kw G X (.Compare a [.Is] [.Constant .none j pos'] pos) (Ao ca) :=
 PT.weak (zJ (D5 g)) λO H Q h=>CY h (λU m r e=>by
  unfold Ao at e;obtain⟨x,_,e⟩:=Zz.mp e;cases e;exact⟨_,rfl⟩) λQ f=>by
   obtain⟨R,U,m,r,s,e,q⟩:=f;unfold Ao at e;obtain⟨⟨n,x⟩,i,e⟩:=Zz.mp e;cases e;refine⟨R,U,n,x,s,i,λv d F e1 r1 f1=>?_⟩;show Q (.bl (decide (v=.non))) d;rw[vh r1];exact q _ d _ e1 (.bl _) Fp.nil
def mP{j pos'}(g:PV G X a ca):Kw G X (.Compare a [.IsNot] [.Constant .none j pos'] pos) (fR ca) :=
 PT.weak (zJ (Bh g)) λO H Q h=>CY h (λU m r e=>by
  unfold fR at e;obtain⟨x,_,e⟩:=Zz.mp e;cases e;exact⟨_,rfl⟩) λQ f=>by
   obtain⟨R,U,m,r,s,e,q⟩:=f;unfold fR at e;obtain⟨⟨n,x⟩,i,e⟩:=Zz.mp e;cases e;refine⟨R,U,n,x,s,i,λv d F e1 r1 f1=>?_⟩;show Q (.bl (!decide (v=.non))) d;rw[vh r1];exact q _ d _ e1 (.bl _) Fp.nil
def sR(i:Nat)(k e:Ex)(U:VS.Env):Option Out:=(e U).bind λv=>match U[i]? with
 |some (some (.ow (.dct 0 l)))=>(k U).bind λd=>if gr d.2/\Iq v.2/\l.length<eu then Z (.nx (U.set i (Z (.ow (.dct 0 (dput l d.2 v.2)))))) else Y
 |_=>Y
def E8{X:Cx}{pos:Pos}(i:Nat)(hr:xa kr X.A)(hk:PV G X b ck)(he:PV G X e ce)(hN:X.N[i]?=Z x)(hv:Kp X.env.scope x)(hd:K3 x)(q:K4 x)(ha:∀v,assign (.Subscript (.Name x p1) b pos') X.env v=(do
   let j ← holding [v] (eval (.Name x p1) X.env)
   let iv ← holding [v,j] (eval b X.env)
   standAt pos'
   holding [v,j,iv] (setItem j iv v)
   release [v,j,iv] []))(hs:swapsWithSole [.Subscript (.Name x p1) b pos'] e pos.line X.env=pure J)(hw:swappedStores [.Subscript (.Name x p1) b pos'] e X.env=pure Y)(h1:(assignEach [.Subscript (.Name x p1) b pos'] X.env).map (·.2)=[assign (.Subscript (.Name x p1) b pos') X.env]):PSV G X (.Assign [.Subscript (.Name x p1) b pos'] e pos) (sR i ck ce) :=
 PS.weak (qk he (p8 (fC hN hv hd q) hk (yx (kU hr)) ha) hs hw h1) λD O H hq=>by
  obtain⟨R,U,out,s,e,k⟩:=hq;unfold sR at e;obtain⟨⟨mv,n⟩,ev,e⟩:=Zz.mp e;split at e
  ·rename_i l p;obtain⟨⟨mk,tk⟩,LY,e⟩:=Zz.mp e;split at e
   ·rename_i hc;obtain⟨c1,c2,c3⟩:=hc;cases e;obtain⟨w,C,S⟩:=s.rp _ _ p;have r:=s.nd i _ p;refine⟨R,U,mv,n,s,ev,λxv H1 Fv M rv fv=>⟨w,C,R,U,mk,tk,s.same M,LY,λkv f Fk F rk fk=>?_⟩⟩;have o:aG H f:=M.trans F;have E:Rp G f xv n Fv:=rv.same F;have eF:=E.Iq c2;subst eF;obtain⟨a,ns,m,t,Fs,rfl,d,IK,hl,rfl,u⟩:=cH S;rw[d]at r;obtain⟨kk,rfl,MO⟩:=c9 rk c1;subst MO;have L:f a=Z (.dK (ns.zip m)):=o a _ IK;have y:Ip (f a):=by rw[L];exact True.intro
    have nd:=ZY.mp r;obtain⟨Mh,Kg,Kl,J7,q1,q2,q3,q4,h⟩:=lW (kk:=kk) E hl (u.same o);have ln:(ns.zip m).length<sizeLine:=by
     have:((ns.map aw).zip t).length<16777216:=c3;rw[Z1,Zy]at this;rw[Z1];have:=u.len.1;have:(KF:Nat)=16777216:=rfl;lia
    refine .inr ⟨a,_,rfl,uN.k L ln,?_⟩;have g:Chg G H (.ref a) (R i) (.dct 0 (dput ((ns.map aw).zip t) (aw kk) n)) (upd f a (.dK (putK (ns.zip m) kk xv))) (a :: J7.flatten):=by
     rw[d,q1,q3];refine Chg.upd o Zx y (.dct aj q2 (q4.off y λz=>nd.1 (h.subset z))) ?_ ?_
     ·exact ZY.mpr ⟨λz=>nd.1 (h.subset z),nd.2.sublist h⟩
     ·intro bb hb;rcases Zk.mp hb with rfl | hb
      ·exact .inl Zx
      ·exact .inl (Zw _ (h.subset hb))
    obtain⟨Q,P⟩:=s.mut p C g;exact k _ O _ Q P
   ·cases e
  ·cases e
end
end VS
end
section
namespace DP
open PySem PySem.Spec PyProof.Rows
def BS:typeLookup (.type "tuple") "keys" = pure Y:=by rw[typeLookup_type,builtinLookup_eq_fast];kernel_rfl
def CB{A:SB}{h:UV}{os}(l:h.get? a=Z { cls:=.type "tuple",dict:=Y,data:=.seq i k,slots:=j })(q:A.handled=Y)(p:∀f b e,Heap.NewExcOf h f e "AttributeError" → E (.ref e) ⟨f,g,d,b,os⟩):PP (KB prog w) A (getAttrBy (.ref a) (.str "keys" u) J) Q E ⟨h,g,d,o,os⟩:=by
 have m:∀b,(⟨h,g,d,b,os⟩:IR).TypeIs (.ref a) "tuple" := λ_=>⟨_,l,rfl⟩
 have f1:=sub_AttributeError;have x:=WE.lookup;have v:=WE.bind (.ref a);have t:=am_tuple_getattr_none;unfold getAttrBy
 repeat (any_goals (first | assumption | exact m _ | ((with_reducible show PP _ _ (call (Value.builtin "tuple.__getattribute__") _ _) _ _ _);refine call_meets WE (m _) am_entry_tuple_getattribute (F.args_tuple_getattribute_2 _ _) (meets_getattribute_miss_tuple a i k j "keys" _ BS (by decide +kernel)) ⟨l,q,λf b e n=>?_⟩) | wp_step))
 obtain⟨s,r,he⟩:=n.there;show PP _ _ (getattributeRaised _ _ _ _ _ _ _) _ _ _;unfold getattributeRaised
 repeat (any_goals (first | assumption | wp_step))
 exact p _ _ _ n.of
end DP
end
section
namespace DP
open PySem PySem.Spec PyProof.Rows L2
def xR{A:SB}{h:UV}{os}(n:h.get? a=Z { cls:=.type "tuple",dict:=Y,data:=.seq j k,slots:=m })(r:A.handled=Y)(o:∀b i e,Heap.NewExcOf h b e "AttributeError" → Q Y ⟨b,g,d,i,os⟩):PP (KB prog w) A (getAttr? (.ref a) "keys") Q E ⟨h,g,d,l,os⟩:=by
 have f1:=sub_AttributeError;unfold getAttr? getAttrBy?
 repeat (any_goals (first | assumption | (with_reducible refine CB n (by assumption) λb i e f=>?_) | wp_step))
 obtain⟨⟨oc,q,s,t⟩,p,ge,ce,_,_⟩:=f.there;dsimp only at ce;subst ce
 repeat (any_goals (first | assumption | wp_step))
 exact o _ _ _ f
def n6:entryFor table "dict.update.loop" = Z Builtin.«dict.update.loop» := entryFor_of_tree (by kernel_rfl)
def iF:plainId "dict.update.loop" = B:=by decide +kernel
section
theorem loop{prog:Re}{w:XAA}{A:SB}{Rq:Result->IR->Prop}{I:KM}{fp wr:Wa}{G:Array GenState->Array GenState->Prop}{n:Nat}{P:Nat->On->Prop}{St:Nat->IR->Prop}(W:WalksS prog w A.in1 I fp wr G n P St)(d:KM)(X:d∉fp)(R:UV)(a:Nat->Key×On)(hP:∀i v,P i v->∃p m t l,v=.ref p/\R.get? p=Z { cls:=.type "tuple",dict:=Y,data:=.seq #[l,(a i).2] m,slots:=t }/\(aF prog w).is (a i).1 l=B/\p∉d :: wr)(g:n<=KF) :
  ∀(k i:Nat)(s:IR),n-i=k->i<=n->St i s->(∀b o,b∉d :: wr->R.get? b=Z o->s.heap.get? b=Z o)->s.heap.DictOf (aF prog w) d (merged [] ((List.range i).map a)) →
   (∀f,Moved (d :: wr) G s f->f.heap.DictOf (aF prog w) d (merged [] ((List.range n).map a))->Rq (.ok (.ret .none)) f) →
   codeAny (KB prog w) A (.builtin "dict.update.loop" ⟨[.ref d,.ref I,rawInt i,.none],[]⟩) Rq s:=by
 have S:d∉wr:=λh=>X (W.sub _ h);have q:∀b∈wr,b∈d :: wr:=λb g=>Zw _ g;intro k
 induction k with
 |zero =>
  intro i s hk hi O C F H;have Ku:i=n:=by lia
  subst Ku;refine codeAny_builtin n6 ?_;rw[Vc iF _];show PP _ A.in1 (pyNext (.ref I)>>=_) _ _ s;refine Zu (W.done s _ _ O λf j=>?_);show PP _ A.in1 (Builtin.Dict.addKeywords d [] >>= λ_=>ret Value.none) _ _ f;refine Zu (Zh ?_);exact Zh (H f (j.mono q) (by
   obtain⟨o,M,N,x,rest⟩:=F;exact⟨o,M,N,j.heap d _ S x,rest⟩))
 |succ k ih =>
  intro i s hk hi O C F H;have Jl:i<n:=by omega
  refine codeAny_builtin n6 ?_;rw[Vc iF _];show PP _ A.in1 (pyNext (.ref I)>>=_) _ _ s;refine Zu (W.item i s _ _ Jl O λv f L Tc j=>?_);obtain⟨p,m,t,l,rfl,hp,y,U⟩:=hP i v L;have Qr:f.heap.get? p=Z { cls:=.type "tuple",dict:=Y,data:=.seq #[l,(a i).2] m,slots:=t }:=j.heap p _ (λz=>U (q p z)) (C p _ U hp);have D:f.heap.DictOf (aF prog w) d (merged [] ((List.range i).map a)):=by
   obtain⟨o,M,N,x,rest⟩:=F;exact⟨o,M,N,j.heap d _ S x,rest⟩
  show PP _ A.in1 (holding [Value.ref p] _>>=_) _ _ f;refine Zu (YE ?_);have ty:f.TypeIs (.ref p) "tuple" := ⟨_,Qr,rfl⟩
  refine Zu (thn (Q:=λr u=>r=[l,(a i).2]/\u=f) ?pair λr u hr=>?rest)
  case pair =>
   refine wpAny_tryCatch ?_;unfold Builtin.Dict.pairItems
   repeat (any_goals (first | assumption | wp_step))
   exact⟨rfl,rfl⟩
  case rest =>
   obtain⟨rfl,rfl⟩:=hr;dsimp only;refine YE ?_;refine wpAny_dictSet_pairs y D (λh' dd sb=>?_) (by have:=merged_length_le (K:=Key) [] ((List.range i).map a);simp at this;lia);have e1:((i:Int)+1)=((i+1:Nat):Int):=by lia
   rw[e1];have K6:h'.DictOf (aF prog w) d (merged [] ((List.range (i+1)).map a)):=by
    rw[List.range_succ,Yo,show merged ([]:List (Key×On)) ((List.range i).map a++[i].map a)=stored (merged [] ((List.range i).map a)) (a i).1 (a i).2 by unfold merged;rw[List.foldl_append];rfl];exact dd
   refine Zh ⟨plainId_quiet iF _,ih (i+1) _ (by omega) Jl (W.frame _ u _ _ Tc (Wk _) λb g o e=>?_) (λb o g e=>?_) K6 λPJ To TR=>?_⟩
   ·rw[sb.2 b (λh:b=d=>X (by rw[← h];exact g))];exact e
   ·rw[sb.2 b (λh:b=d=>g (by rw[h];exact Zx))];exact j.heap b _ (λz=>g (q b z)) (C b o g e)
   ·refine H PJ (Moved.trans W.gtrans ((j.mono q).then_heap (Wk _) λb o g e=>?_) To) TR;rw[sb.2 b (λh:b=d=>g (by rw[h];exact Zx))];exact e
end
end DP
end
section
namespace DP
open PySem PySem.Spec PyProof.Rows L2
def nG:mroOf (.type "dict")=pure [.type "dict",.type "object"]:=by rw[mroOf_type];kernel_rfl
def mH:typeLookup (.type "dict") "__new__" = pure (Z (.builtin "dict.__new__")):=by rw[typeLookup_type,builtinLookup_eq_fast];kernel_rfl
def rZ:TypeCalled "dict" "dict.__new__" "dict.__init__" :=
 ⟨by decide +kernel,by decide +kernel,⟨_,_,nG⟩,madeBy_type nG mH (by decide +kernel),by decide +kernel,by rw[isSubtype_type];kernel_rfl,F.slot_dict_init⟩
def mh(a:On):checkTypeCall "dict" ⟨[a],[]⟩=pure ():=by kernel_rfl
def oP(a:On):checkBuiltinCall "dict.__new__" ⟨[.type "dict",a],[]⟩=pure ():=by kernel_rfl
def n9:entryFor table "dict.__new__" = Z Builtin.«dict.__new__» := entryFor_of_tree (by kernel_rfl)
def jv:plainId "dict.__new__" = B:=by decide +kernel
def oS:isSubtype (.type "dict") (.type "dict")=pure B:=by rw[isSubtype_type];kernel_rfl
def oT{s:IR}(a:On)(h:b (.ref s.heap.objs.size) { s with heap:=s.heap.push { cls:=.type "dict",data:=.dict #[] } }) :
  codeAny (KB prog w) A (.call (.builtin "dict.__new__") ⟨[.type "dict",a],[]⟩) (wants b E) s:=by
 refine codeAny_of_tree (Zu (m:=checkBuiltinCall "dict.__new__" ⟨[.type "dict",a],[]⟩) (wpAny_of_eq (oP a) (Zh ⟨plainId_quiet jv _,codeAny_builtin n9 ?_⟩)));rw[Vc jv];have own:=oS;have mro:=nG;cases s;unfold Builtin.«dict.__new__»
 wp_walk
 exact h
def xD{A:SB}{s:IR}{kv:Nat->Key×On}(L:A.handled=Y)(H:s.heap.get? a=Z { cls:=.type "tuple",dict:=Y,data:=.seq j G,slots:=x })(X:j.size<=KF)(hp:∀(i:Nat)(v:On),j[i]?=Z v->∃p m y r,v=.ref p/\s.heap.get? p=Z { cls:=.type "tuple",dict:=Y,data:=.seq #[r,(kv i).2] m,slots:=y }/\(aF prog w).is (kv i).1 r=B)(h:∀(l:UV)(C:Nat),l.DictOf (aF prog w) s.heap.objs.size (merged [] ((List.range j.size).map kv))->(∀b o,s.heap.get? b=Z o->l.get? b=Z o)->Q (.ref s.heap.objs.size) { s with heap:=l,toks:=C }) :
  PP (KB prog w) A (call (.type "dict") [.ref a]) Q E s:=by
 refine callType_codes (Q₁:=λobj D=>obj=.ref s.heap.objs.size/\D={ s with heap:=s.heap.push { cls:=.type "dict",data:=.dict #[] } }) rZ (mh _) F.entry_dict_init (oT _ ⟨rfl,rfl⟩) λobj D hq=>?_;obtain⟨rfl,rfl⟩:=hq;have ty:Shared.TypeIs { s with heap:=s.heap.push { cls:=.type "dict",data:=.dict #[] } } (.ref s.heap.objs.size) "dict" := ⟨_,ZW _ M,rfl⟩
 refine⟨ty,F.args_dict_init_2 _ _,?_⟩;obtain⟨f,g,d,C,os⟩:=s;have P:=Zj { cls:=.type "dict",data:=.dict #[] } H;unfold Builtin.«dict.__init__» Builtin.Dict.updateCommon Builtin.Dict.updateFrom;generalize eP:pyIter=itr;generalize eG:getAttr?=ga
 repeat (any_goals (first | assumption | wp_step))
 subst eG;dsimp only at *;refine xR P (by simp[L]) λt S e ne=>?_;simp only[Option.isNone_none,if_true];refine Zu (wpAny_rule ?_);subst eP;have at2:=ne.keeps _ _ P;have dat:=ne.keeps f.objs.size { cls:=.type "dict",data:=.dict #[] } (ZW _ M);have u:=ZR dat;have z:∀{b:KM}{o:Obj},f.get? b=Z o->b<f.objs.size:=λe=>ZR e;have O:∀b o,f.get? b=Z o->t.get? b=Z o:=λb o e=>ne.keeps _ _ (Zj _ e);have tup:t.IsTuple a j:=⟨_,at2,rfl,G,rfl⟩
 refine Zu (wpAny_pyIter_tuple tup (Zh ⟨plainId_quiet iF _,?_⟩));have alt:=z H;have D0:(t.push { cls:=.type "tuple_iterator",data:=.fields #[.ref a,.int 0 0] }).DictOf (aF prog w) f.objs.size (merged [] ((List.range 0).map kv)):=by
  obtain⟨o,es,ep,ho,rest⟩:=(Heap.DictOf.new (knd:=aF prog w) f)
  exact⟨o,es,ep,Zj _ (ne.keeps _ _ ho),rest⟩
 refine loop (A:=A.in1) ((Walks.tuple (by simp[L]) t.objs.size a (Zc (WJ alt u)) j).toS) f.objs.size (by simp only[Zk,Wr,or_false,not_or];exact⟨Zc u,WK alt⟩) f kv (λi v hv=>?_) X j.size 0 _ (by lia) (ZO _) ?_ (λb o hb e=>Zj _ (O b o e)) D0 λU n dd=>?_
 ·obtain⟨p,m,y,r,rfl,N,g2⟩:=hp i v hv;have:=z N;exact⟨p,m,y,r,rfl,N,g2,by simp only[Zk,Wr,or_false,not_or];exact⟨Zc this,Zc (WJ this u)⟩⟩
 ·exact⟨⟨_,ZW _ M,rfl,rfl⟩,tup.push _⟩
 ·obtain⟨l,g',d',Nf,So⟩:=U;have e1:g'=g:=n.gens;have e2:d'=d:=n.drawn;have e3:So=os:=n.os;subst e1 e2 e3;refine⟨rfl,h l Nf dd λb o e=>n.heap b o (λR=>?_) (Zj _ (O b o e))⟩;have:=z e;simp only[Zk,Wr,or_false]at R;rcases R with q | q
  ·exact Zc this q
  ·exact Zc (WJ this u) q
end DP
end
section
namespace L2
open PySem PySem.Spec PyProof.Rows
section
abbrev Mu:=KM×Key×V
def Bf(I:Inv X a O H s){q:Mu}(h:H q.1=Z (.tup [kV q.2.1,q.2.2])):∃b m i d,RelV q.2.2 b/\s.heap.get? q.1=Z { cls:=.type "tuple",dict:=Y,data:=.seq #[d,b] m,slots:=i }/\(aF X.prog X.w).is q.2.1 d=B:=by
 obtain⟨_,p,j,nd,⟨oc,o,r,l⟩,g,f,n,e⟩:=(show aY X.prog X.w H s.heap q.1 (.tup [kV q.2.1,q.2.2]) from I.xb _ _ h)
 have hd:=nd _ g;dsimp only at f e hd;subst f e hd;obtain⟨d,b,rfl,r1,r2⟩:=vals2 j;exact⟨b,n,l,d,r2,g,kN r1⟩
theorem tf(I:Inv X a O H s):∀(b:List Mu),(∀q∈b,H q.1=Z (.tup [kV q.2.1,q.2.2])) →
  ∃i:List (Key×On),Paired (λ(q:Mu) (e:Key×On)=>q.2.1=e.1/\RelV q.2.2 e.2/\∃m f d,s.heap.get? q.1=Z { cls:=.type "tuple",dict:=Y,data:=.seq #[d,e.2] m,slots:=f }/\(aF X.prog X.w).is e.1 d=B) b i
 |[],_=>⟨[],.nil⟩
 |q :: b,h=>by
  obtain⟨j,m,f,d,r,g,k⟩:=Bf I (h q Zx);obtain⟨i,p⟩:=tf I b λx l=>h x (Zw _ l);exact⟨(q.2.1,j) :: i,.cons ⟨rfl,r,m,f,d,g,k⟩ p⟩
theorem pb(f:∀q d,Rq q d->q.2.1=d.1/\RelV q.2.2 d.2):∀{e:List Mu}{g:List (Key×On)},Paired Rq e g->∀{a:List (Key×V)}{b:List (Key×On)},KV a b->KV (e.foldl (λacc q=>putK acc q.2.1 q.2.2) a) (merged b g)
 |_,_,.nil,_,_,r=>r
 |_,_,.cons (a:=q) (b:=d) h t,a,b,r=>by
  obtain⟨e1,e2⟩:=f _ _ h;have:=pb f t (r.put d.1 e2);simp only[Xm,merged];rw[e1];exact this
theorem rE:∀(b:List Mu)(a:List (Key×V)),(b.foldl (λacc q=>putK acc q.2.1 q.2.2) a).length<=a.length+b.length
 |[],a=>Zo _
 |q :: b,a=>by
  have e:=rE b (putK a q.2.1 q.2.2);have d:=eT a q.2.1 q.2.2;simp only[Xm,Za];lia
theorem Paired.at_{α β:Type}{Rq:α->β->Prop}:∀{l:List α}{m:List β},Paired Rq l m->∀(i:Nat){a:α},l[i]?=Z a->∃b,m[i]?=Z b/\Rq a b
 |_,_,.nil,i,a,h=>by simp at h
 |_,_,.cons r t,0,a,h=>by simp at h;subst h;exact⟨_,rfl,r⟩
 |_,_,.cons r t,i+1,a,h=>by simpa using Paired.at_ t i (by simpa using h)
def uc{X:Cx}(P:X.calm=B):dn X (.type "dict") (λo H Q=>∃(p:KM)(b:List Mu),o=[.ref p]/\H p=Z (.tup (b.map λq=>V.ref q.1))/\(∀q∈b,H q.1=Z (.tup [kV q.2.1,q.2.2])) ∧
  ∀l,H l=Y->Q (.ref l) (upd H l (.dK (b.foldl (λacc q=>putK acc q.2.1 q.2.2) [])))):=by
 intro t s O H o us Q I F h;obtain⟨p,b,rfl,N,M,q⟩:=h;obtain⟨u,rfl,G⟩:=F.one;cases G;obtain⟨y,x,r,nd,⟨oc,od,UP,Lo⟩,g,A,n,z⟩:=(show aY X.prog X.w H s.heap p (.tup (b.map λq=>V.ref q.1)) from I.xb _ _ N)
 have hd:=nd _ g;dsimp only at A z hd;subst A z hd;obtain⟨e,pr⟩:=tf I b M;have l1:x.length=b.length:=by have:=r.length;simpa using this.symm
 have l2:e.length=b.length:=pr.length.symm;rw[Zy]at y;have j:(List.range x.toArray.size).map (λi=>(e[i]?).getD (.inl 0,.none))=e:=by
  apply X9;intro i;rw[ZV];by_cases d:i<e.length
  ·rw[List.getElem?_range (by simp;lia),Zp d];simp[d]
  ·rw[Yv (by simp;lia),Yv (by exact Z7 d)];rfl
 refine DP.xD (kv:=λi=>(e[i]?).getD (.inl 0,.none)) (I.ok.hd P) g (by simp;lia) (λi v f=>?_) λh' D C kp=>?_
 ·rw[List.getElem?_toArray]at f;have d:i<b.length:=by have:=(Zb.mp f).1;lia
  obtain⟨w,e1,e2⟩:=Paired.at_ r i (a:=V.ref b[i].1) (by rw[ZV,Zp d];rfl);rw[f]at e1;cases e1;obtain⟨kv,U,e4,_,m,E,L,S,R⟩:=Paired.at_ pr i (Zp d);rw[U];exact⟨b[i].1,m,E,L,e2,S,R⟩
 ·rw[j]at C;have rel:=pb (λ_ _ h=>⟨h.1,h.2.1⟩) pr (.nil:KV [] []);have ln:=rE b [];exact⟨.ref s.heap.objs.size,_,I.laid (t':=D) kp (Zo _) (ny (by simp at ln;exact ZC ln y) (ZE.mpr (Ye (Zc I.big))) rel C),rfl,q _ (I.xb.fresh (Zo _))⟩
end
end L2
end
section
namespace VS
open PySem PySem.Spec PyProof.Rows L2
def qx:V8->Option (List (T×T))
 |[]=>Z []
 |.tup [k,v] :: r=>if gr k/\Iq v then (qx r).map ((k,v) :: ·) else Y
 |_=>Y
def ly:V6->V7
 |[(_,.tup l)]=>(qx l).map λa=>(.fr,.dct 0 (a.foldl (λd q=>dput d q.1 q.2) []))
 |_=>Y
section
def A7(h:qx (t :: l)=Z d):∃k v a,t=.tup [k,v]/\gr k=B/\Iq v=B/\qx l=Z a/\d=(k,v) :: a:=by
 unfold qx at h;split at h
 ·rename_i b;cases b
 ·rename_i k v r b;cases b;split at h
  ·rename_i c;obtain⟨a,e1,e2⟩:=Zv.mp h;exact⟨k,v,a,rfl,c.1,c.2,e1,e2.symm⟩
  ·cases h
 ·cases h
theorem sv:∀{ts:V8}{ws:List V}{z:X0}{a:List (T×T)},RpL G H ws ts z->qx ts=Z a →
  ∃d:List Mu,ws=d.map (λq=>V.ref q.1)/\(∀q∈d,H q.1=Z (.tup [kV q.2.1,q.2.2]))/\Paired (λ(q:Mu) (x:T×T)=>x.1=aw q.2.1/\Rp G H q.2.2 x.2 []) d a
 |[],_,_,a,r,h=>by
  cases r;cases (show Z ([]:List (T×T))=Z a from h);exact⟨[],rfl,λq n=>by simp at n,.nil⟩
 |t :: ts,_,_,a,r,h=>by
  obtain⟨k,v,j,rfl,o,m,s,rfl⟩:=A7 h;cases r with
  |cons r1 r2 =>
   obtain⟨d,e1,e2,y⟩:=sv r2 s;obtain⟨b,vs,Fs,rfl,hb,q⟩:=Rp.JG r1;cases q with
   |cons i q =>
    cases q with
    |cons g q =>
     cases q;obtain⟨l,rfl,u⟩:=c9 i o;have w:=g.Iq m;subst w;refine⟨(b,l,_) :: d,by rw[e1];rfl,λx f=>?_,.cons ⟨u,g⟩ y⟩;rcases Zk.mp f with rfl | f
     ·exact hb
     ·exact e2 x f
theorem rm:∀{u:List Mu}{o:List (T×T)},Paired (λ(q:Mu) (x:T×T)=>x.1=aw q.2.1/\Rp G H q.2.2 x.2 []) u o->∀{ns:List Key}{vs:List V}{ts:V8}{Fs:X0},ns.length=vs.length->RpL G H vs ts Fs->Fs.flatten=[] →
  ∃(m:List Key)(f:List V)(n:V8)(g:X0),u.foldl (λacc q=>putK acc q.2.1 q.2.2) (ns.zip vs)=m.zip f/\o.foldl (λd q=>dput d q.1 q.2) ((ns.map aw).zip ts)=(m.map aw).zip n/\m.length=f.length/\RpL G H f n g/\g.flatten=[]
 |_,_,.nil,ns,vs,ts,Fs,i,r,l=>⟨ns,vs,ts,Fs,rfl,rfl,i,r,l⟩
 |_,_,.cons (a:=q) (b:=x) h t,ns,vs,ts,Fs,i,r,l=>by
  obtain⟨P,f,n,g,C,A,z,y,s⟩:=lW (kk:=q.2.1) h.2 i r;rw[l]at s;have j:g.flatten=[]:=List.sublist_nil.mp s;obtain⟨D,v,w,O,N,M,L,F,E⟩:=rm t A y j;refine⟨D,v,w,O,?_,?_,L,F,E⟩
  ·rw[Xm,C];exact N
  ·rw[Xm,h.1,z];exact M
def Aj:d4 G (λo H Q=>∃(p:KM)(a:List Mu),o=[.ref p]/\H p=Z (.tup (a.map λq=>V.ref q.1))/\(∀q∈a,H q.1=Z (.tup [kV q.2.1,q.2.2])) ∧
  ∀l,H l=Y->Q (.ref l) (upd H l (.dK (a.foldl (λacc q=>putK acc q.2.1 q.2.2) [])))) ly:=by
 intro R U L H l vs Fs m t Q A e k;unfold ly at e;split at e
 ·rename_i E ts;obtain⟨s,e1,e2⟩:=Zv.mp e;cases e2;obtain⟨v,F,rfl,rfl,r⟩:=(show RpL G H vs [.tup ts] Fs from A.rp).one;obtain⟨b,ws,N,rfl,hb,q⟩:=Rp.JG r;obtain⟨a,rfl,f,pr⟩:=sv q e1;refine⟨b,a,rfl,hb,f,λl n=>?_⟩;obtain⟨ns,i,C,D,z,y,x,w,u⟩:=rm pr (ns:=[]) (vs:=[]) (ts:=[]) (Fs:=[]) M .nil M;have h:a.foldl (λacc q=>putK acc q.2.1 q.2.2) []=ns.zip i:=z;have g:s.foldl (λd q=>dput d q.1 q.2) []=(ns.map aw).zip C:=y;rw[h];have j:aG H (upd H l (.dK (ns.zip i))):=bG n;refine k _ _ (l :: D.flatten) j (by rw[g];exact .dct aj x (w.same j)) ?_;rw[u];exact Fp.new (A.same.free n) (by simp) Fp.nil
 ·cases e
def vI:bootBuiltins ("dict" : Str)=Z (.type "dict"):=by decide +kernel
def CH{X:Cx}(a:X.mg "dict" = Y)(f:Jj G X [e] cs)(b:{`q1,Gl X "dict"})(d:{`q1,X.calm=B})(he:{`q1,K1 e [] X}):PV G X (.Call (.Name "dict" p) [e] [] pos) (eN ly cs) :=
 jE (uc d) Aj b a vI f (he:=he) (hpl:=rfl)
end
end VS
end
section
namespace L2
open PySem PySem.Spec PyProof.Rows
section
variable{H:Hp}
def qI(I:Inv X pins O H s)(e:H d=Z (.dK a))(g:s.heap.get? d=Z o):Inv X pins O (upd H d (.frz o (.dK a))) s :=
 jB (t':=s.toks) I (by rw[e];exact True.intro) ⟨rfl,λ_ _=>rfl⟩ ⟨o,g⟩ ⟨g,I.xb d _ e⟩
end
def R0(d:KM)(o:Obj)(a:List (Key×V)):It :=
 ⟨λi H=>H d=Z (.frz o (.dK a))/\i<a.length,λi H x b=>b=H/\∃p,a[i]?=Z p/\x=kV p.1,λi H=>H d=Z (.frz o (.dK a))/\a.length<=i⟩
def Bn(h:l8 k v=B):RelV (kV k) v:=by
 rcases bN h with⟨i,t,rfl,rfl⟩ | ⟨x,t,rfl,rfl⟩
 ·exact⟨t,rfl⟩
 ·exact⟨t,rfl⟩
def pM{P:Re}{w:XAA}{a:List DictEntry}{m:List (Key×On)}(r:Pairs (aF P w) a m){i:Nat}{e:DictEntry}(h:a[i]?=Z e):∃q,m[i]?=Z q/\l8 q.1 e.key=B:=by
 induction r generalizing i with
 |nil=>simp at h
 |@cons j b a l f g _ d =>
  cases i with
  |zero =>
   simp at h;subst h;exact⟨b,rfl,f⟩
  |succ i=>simpa using d (by simpa using h)
def Ee{l:List (Key×V)}{m:List (Key×On)}(r:KV l m){i:Nat}{q:Key×On}(h:m[i]?=Z q):∃p,l[i]?=Z p/\p.1=q.1:=by
 induction r generalizing i with
 |nil=>simp at h
 |@cons a f g e d t b =>
  cases i with
  |zero=>simp at h;subst h;exact⟨a,rfl,d.1⟩
  |succ i=>simpa using b (by simpa using h)
section
def Fu{K:X6}(d j:KM){n:Array DictEntry}{M:List (Key×On)}(f:KV R M)(he:Pairs (aF P w) n.toList M) :
  Turn P w K tg (R0 d (ST.dO n t) R) [j] j (λi h=>h.get? j=Z (ST.kO d i n.size t)) where
 mem:=by simp
 obj:=λi h st b hb=>by
  rw[Ze.mp hb];exact⟨_,st,λv z=>by cases z⟩
 keep:=λi h m st k=>k j (by simp) _ st
 item:=by
  intro X y hw A x i a s O H E I r st hg;subst y hw A;obtain⟨L,f1,f2,G,D,C⟩:=r j (by simp);refine ST.rS (I.ok.hd x) st (show s.heap.get? d=Z (ST.dO n t) from(I.xb d _ hg.1).1) (λe l m sb g=>?_) λN=>?_
  ·have I1:Inv X a O H { s with heap:=m }:=I.turned (t':=s.toks) (λb o hb e=>(sb.2 b hb).trans e) L f1 G D C;rw[← ZD]at l;obtain⟨q,u,Q⟩:=pM he l;obtain⟨p,S,hb⟩:=Ee f u;exact⟨_,rfl,sZ (s:={ s with heap:=m }) g rfl rfl rfl ⟨kV p.1,H,I1,by rw[hb];exact Bn Q,⟨rfl,p,S,rfl⟩,g,λb hb=>(r b hb).1⟩⟩
  ·exfalso;rw[← ZD,Ym,he.length,← XR f]at N;exact absurd hg.2 (by lia)
 done:=by
  intro X y hw A x i a s O H E I r st hg;subst y hw A;obtain⟨L,f1,f2,G,D,C⟩:=r j (by simp);refine ST.rS (I.ok.hd x) st (show s.heap.get? d=Z (ST.dO n t) from(I.xb d _ hg.1).1) (λe l m sb g=>?_) λN m kp=>⟨rfl,I.turned (t':=s.toks) (λb o hb e=>kp b o hb e) L f1 G D C⟩
  exfalso;rw[← ZD]at l;obtain⟨q,u,Q⟩:=pM he l;have:=(Zb.mp u).1;have h2:=hg.2;rw[XR f]at h2;lia
 self:=λ_ _ _ _ _ st U=>wpAny_pyIter_slot ⟨_,st,rfl⟩ F.slot_dict_keyiterator_iter (Xd F.slot_dict_keyiterator_iter ⟨_,st,rfl⟩ F.entry_dict_keyiterator_iter (show PP _ _ (ret (.ref j)) _ _ _ from Zh ⟨_,rfl, "dict_keyiterator",_,⟨_,st,rfl⟩,XS.lookup,U⟩) (F.args_dict_keyiterator_iter_1 _))
def iDk(e:TE):TI:=λO H Rq=>e O H λx b=>∃d a,x=.ref d/\b d=Z (.dK a)/\∀o,Rq (R0 d o a) (upd b d (.frz o (.dK a)))
def C3(m:PE X l i):PI X tg l (iDk i):=by
 intro a s O H Rq I h;refine thn (m a s O H _ I h) λv s1 ⟨x,A,f,r1,j⟩=>?_;obtain⟨d,w,ex,e,q⟩:=j;subst ex;cases r1;obtain⟨z,y,p,rel,o,t,u,g,ex,hd,_,he,r⟩:=lY f.xb e;have eo:=yy ex hd;subst eo;refine ST.zK y g ?_;refine⟨s1.heap.objs.size,[s1.heap.objs.size],_,_,_,rfl,(qI f e g).kept (t':=s1.toks) λb o e=>Zj _ e,Fu d _ rel he,ZW _ M,λb hb=>?_,q _⟩;have n:b=s1.heap.objs.size:=by simpa using hb
 subst n;exact(qI f e g).Lj (Zo _) ((qI f e g).xb.fresh (Zo _))
end
end L2
end
section
namespace L2
def D3{α:Type}{b:List α}(d:b.length=n+1):∃a t,b=a :: t/\t.length=n:=by
 obtain⟨a,t,e⟩:=List.exists_cons_of_length_eq_add_one d;subst e;exact⟨a,t,rfl,Nat.succ.inj d⟩
def ox{α:Type}{b:List α}(d:b.length=1):∃a,b=[a]:=List.length_eq_one_iff.mp d
def fD{α:Type}{d:List α}(f:d.length=2):∃a b,d=[a,b]:=by
 obtain⟨a,t,rfl,e⟩:=D3 f;obtain⟨b,rfl⟩:=ox e;exact⟨a,b,rfl⟩
def wX{α:Type}{d:List α}(f:d.length=3):∃a b c,d=[a,b,c]:=by
 obtain⟨a,t,rfl,e⟩:=D3 f;obtain⟨b,c,rfl⟩:=fD e;exact⟨a,b,c,rfl⟩
def Ff{α:Type}{e:List α}(g:e.length=4):∃a b c d,e=[a,b,c,d]:=by
 obtain⟨a,t,rfl,f⟩:=D3 g;obtain⟨b,c,d,rfl⟩:=wX f;exact⟨a,b,c,d,rfl⟩
end L2
end
section
namespace VS
open PySem PySem.Spec PyProof.Rows L2
inductive Res where | ok (v:Val) | ex (x:Str)
inductive Uv where | ok (o:Out) | ex (x:Str) (U:VS.Env)
abbrev ExX:=VS.Env->Option Res
abbrev SxX:=VS.Env->Option Uv
end VS
end
section
namespace VS
open PySem PySem.Spec PyProof.Rows L2 PySem.F
section
variable{K:X6}
noncomputable def BV:Fn:=λa=>match a with
 |[.scr _]=>Z (.fr,.bl B)
 |_=>Y
end
end VS
end
section
namespace TS
open PySem PySem.Spec PyProof.Rows
def wV(o:∀v∈f,∃x t,v=Value.str x t){d:Array Pi}(g:d.Perm (pairsOf f))(p:SortedToK strKind d (pairsOf f).size):((d.map (·.2)).toList.map strOf).Pairwise (λa b=>¬b.cps.toList<a.cps.toList):=by
 obtain⟨n,m⟩:=lR g;rw[YH,YD];intro i j r l u;have key:∀i (h:i<(d.map (·.2)).toList.length),KK strKind d i=(strOf (d.map (·.2)).toList[i]).cps.toList:=λi h=>by
  have e:d[i]?=Z ((d.map (·.2)).toList[i],(d.map (·.2)).toList[i]):=by
   rw[← ZD,← m,ZV,Zp h];rfl
  obtain⟨x,t,ex⟩:=o _ (n.mem_iff.mp (Yx h));unfold KK;rw[e];rw[ex];rfl
 have q:=p i j (ZF u) (by rw[← g.size_eq];simpa using l);rw[key i r,key j l]at q;exact of_decide_eq_false q
def qf{A:SB}(y:∀(r:SB)(z:Yy),r.handled=A.handled->PP (KB prog w) r (collect x) (λf s1=>(∀v∈f,∃x t,v=Value.str x t)/\f.length<64/\∀(out:V0)(j:UV)(e:Nat),out.Perm f->(out.map strOf).Pairwise (λa b=>¬b.cps.toList<a.cps.toList)->(∀b o,s1.heap.get? b=Z o->j.get? b=Z o)->j.get? s1.heap.objs.size=Z (seqObj "list" out.toArray e)->Q (.ref s1.heap.objs.size) { s1 with heap:=j }) z s) :
  PP (KB prog w) A (call (.builtin "sorted") [x]) Q E s:=by
 refine Calls.call_function_entry kind_sorted plain_sorted entry_sorted (args_sorted1 _) (show PP _ _ (Builtin.«sorted» _) _ _ _ from ?_);unfold Builtin.«sorted»;refine Zu (m:=checkCount "sorted" 1 1 _) (Zh (Zu (YR (y A.in1 (λ_ _=>False) M) ?_ λ_ _ e=>e.elim)));rintro d s1 ⟨g,i,h⟩;refine Zu (W5 ?_ (by show d.length<=KF;rw[Wv];omega));have n:(s1.heap.push (seqObj "list" d.toArray 0)).get? s1.heap.objs.size=Z (seqObj "list" d.toArray 0):=ZW _ M;show PP _ _ _ _ _ { s1 with heap:=s1.heap.push (seqObj "list" d.toArray 0) };refine Zu (YE (Xd slot_list_sort ⟨_,n,rfl⟩ entry_list_sort (list_sort_treeK strKind_oneLt n (strsAre_map _ g).keysOf (λD C rest e=>keyKind_strs (by rw[← e];exact strsAre_map _ g)) i λl q u=>⟨_,rfl,?_⟩) (args_list_sort _)));obtain⟨e,he⟩:=sortedHeap_at (out:=(arrOf l).map (·.2)) n;exact Zh ⟨_,rfl,h ((arrOf l).map (·.2)).toList _ e (lR q).1 (wV g q u) (λb o p=>by
  have hb:=ZR p;show (sortedHeap (s1.heap.push (seqObj "list" d.toArray 0)) s1.heap.objs.size d ((arrOf l).map (·.2))).get? b=Z o;rw[sortedHeap_old (Zc hb) (by rw[Xi];exact YW hb),YN _ _ _ (Zc hb)];exact p) he⟩
end TS
namespace L2
open PySem PySem.Spec PyProof.Rows TS
section
def j6{X:Cx}(hc:X.calm=B):dn X (.builtin "sorted") (λE H Q=>∃p,∃(d:List Str)(m:List V),E=[.ref p]/\d.length<64/\d.length=m.length/\H p=Z (.dK ((d.map Sum.inr).zip m)) ∧
  ∀(l:KM)(D:List Str),H l=Y->D.Perm d->D.Pairwise (λa b=>¬b.cps.toList<a.cps.toList)->Q (.ref l) (upd H l (.lst (D.map V.str)))):=by
 intro f s O H E us Q I P h;obtain⟨p,d,m,rfl,h64,hl,hq,q⟩:=h;obtain⟨u,rfl,R⟩:=P.one;cases R;obtain⟨U,hS,C,rel,A⟩:=lY I.xb hq;obtain⟨ep,A⟩:=A.dictAt;have Qy:C.length=d.length:=by
  have:=rel.length;rw[Z1,Zy]at this;lia
 have Qx:∀i:Nat,(C[i]?).map (λx=>x.1)=(d[i]?).map (Sum.inr:Str->Key):=λi=>by
  have G:((C.map (·.1)))[i]?=(d.map (Sum.inr:Str->Key))[i]?:=by
   rw[← rel.keys];rw[Xs (by rw[Zy];exact Xw hl)]
  rw[ZV,ZV]at G;exact G
 refine TS.qf λA' E' hA=>Vu (Va hS) (hA.trans (I.ok.hd hc)) A (by rw[Z1,Zy]at U;lia) λL F acc kp M=>?_;have N:Inv X f O H { s with heap:=L,toks:=F }:=I.kept kp;have RO:acc.toList.length=d.length:=by rw[Yl,M.1,Qy]
 have each:∀i v,acc.toList[i]?=Z v->∃x t,v=Value.str x t/\d[i]?=Z x:=λi v g=>by
  rw[ZD]at g;obtain⟨k,x,e1,e2⟩:=M.2 i v g;have j:=Qx i;rw[e1]at j;cases z:d[i]? with
  |none=>rw[z]at j;cases j
  |some y =>
   rw[z]at j;have e5:k=Sum.inr y:=Zl j;subst e5;obtain⟨t,rfl⟩:=Vb (show Value.isStrOf y v=B from e2);exact⟨y,t,rfl,z⟩
 have g:∀v∈acc.toList,∃x t,v=Value.str x t:=λv r=>by
  obtain⟨i,hi,e⟩:=Yt r;obtain⟨x,t,e1,_⟩:=each i v (by rw[Zp hi,e]);exact⟨x,t,e1⟩
 have es:acc.toList.map strOf=d:=by
  apply X9;intro i;rw[ZV];cases e:acc.toList[i]? with
  |none =>
   have:acc.toList.length<=i:=Ym.mp e;rw[Ym.mpr (by lia)];rfl
  |some v =>
   obtain⟨x,t,rfl,e1⟩:=each i v e;rw[e1];rfl
 refine⟨g,by omega,λout h2 e n S Iu he=>?_⟩;have Qo:∀v∈out,∃x t,v=Value.str x t:=λv r=>g v (n.mem_iff.mp r);have o:((out.map strOf).map V.str).length<=sizeLine:=by rw[Zy,Zy,n.length_eq,RO,Wv];omega
 exact⟨.ref L.objs.size,_,N.laid (t':=F) Iu (Zo _) (show aY X.prog X.w _ h2 _ (.lst ((out.map strOf).map V.str)) from⟨o,out,e,sj Qo,he⟩),rfl,q _ _ (N.xb.fresh (Zo _)) (by rw[← es];exact n.map _) S⟩
end
end L2
namespace VS
open PySem PySem.Spec PyProof.Rows L2
section
def gK:V6->V7
 |[(_,.dct 0 l)]=>(strs? (l.map (·.1))).bind λa=>if a.length<64/\a.all N6=B then Z (.fr,.lst ((eI a).map .str)) else Y
 |_=>Y
def yo:d4 G (λq H Q=>∃p,∃(d:List Str)(f:List V),q=[.ref p]/\d.length<64/\d.length=f.length/\H p=Z (.dK ((d.map Sum.inr).zip f)) ∧
  ∀(l:KM)(h:List Str),H l=Y->h.Perm d->h.Pairwise (λa b=>¬b.cps.toList<a.cps.toList)->Q (.ref l) (upd H l (.lst (h.map V.str)))) gK:=by
 intro R U L H l f D m t Q A e k;unfold gK at e;split at e
 ·rename_i E x;obtain⟨d,e1,e2⟩:=Zz.mp e;split at e2
  ·rename_i hb;cases e2;obtain⟨v,F,rfl,rfl,r⟩:=(show RpL G H f [.dct 0 x] D from A.rp).one;obtain⟨a,g,o,i,M,rfl,rfl,y,j,rfl,u⟩:=cH r;have C:g.length=i.length:=by rw[j,u.len.1]
   have z:((g.map aw).zip i).map (·.1)=g.map aw:=Xs (by rw[Zy];exact Xw C);rw[z]at e1;have n:=keys_str e1;refine⟨a,d.map sx,o,rfl,by rw[Zy];exact hb.1,?_,by rw[← n];exact y,ye k A.same λs w=>xX (Yq.mp hb.2 s w)⟩;rw[← j,n,Zy,Zy,Zy]
  ·cases e2
 ·cases e
def vp{X:Cx}(a:X.mg "sorted" = Y)(f:Jj G X [e] cs)(b:{`q1,Gl X "sorted"})(g:{`q1,X.K=G.K})(d:{`q1,X.calm=B})(he:{`q1,K1 e [] X}):PV G X (.Call (.Name "sorted" p) [e] [] pos) (eN gK cs) :=
 ik (j6 d) yo b a lM f (he:=he) (hpl:=rfl)
end
noncomputable def Nm:T->Bool
 |.bl true=>B
 |_=>J
mutual
@[simp] def fi:T->Bool
 |.tup l=>cO l
 |.lst l=>cO l
 |.dct _ l=>pP l
 |.obj _ l=>dJ l
 |_=>B
@[simp] def cO:V8->Bool
 |[]=>B
 |t :: r=>fi t&&cO r
@[simp] def pP:List (T×T)->Bool
 |[]=>B
 | (_,v) :: r=>fi v&&pP r
@[simp] def dJ:List (Nat×T)->Bool
 |[]=>B
 | (n,v) :: r=>(fi v && !(n==0&&Nm v))&&dJ r
end
theorem ic:∀{b:V8}{a:V8},b.length=a.length->pP (b.zip a)=B->cO a=B
 |[],[],_,_=>rfl
 |_ :: _,[],h,_=>by simp at h
 |[],_ :: _,h,_=>by simp at h
 |k :: b,t :: a,h,e=>by
  rw[ZU,pP,ZS]at e;rw[cO,ZS];exact⟨e.1,ic (by simpa using h) e.2⟩
theorem d9:∀{b:V2}{a:V8},b.length=a.length->dJ (b.zip a)=B->cO a=B
 |[],[],_,_=>rfl
 |_ :: _,[],h,_=>by simp at h
 |[],_ :: _,h,_=>by simp at h
 |k :: b,t :: a,h,e=>by
  rw[ZU,dJ,ZS,ZS]at e;rw[cO,ZS];exact⟨e.1.1,d9 (by simpa using h) e.2⟩
section
variable{H:Hp}
theorem Rp.at{v:V}(m:Me)(r:Rp G H v t F):fi t=B->Rp (G.at m) H v t F :=
 Rp.rec (G:=G) (H:=H) (motive_1:=λv t F _=>fi t=B->Rp (G.at m) H v t F) (motive_2:=λg e Fs _=>cO e=B->RpL (G.at m) H g e Fs)
  (λ_=>.non) (λb _=>.bl b) (λi _=>.int i) (λs h _=>.str s h) (λh _=>.scr h) (λh _ d f=>.tup h (d (by simpa using f))) (λh _ d f=>.lst h (d (by simpa using f)))
  (λh l q d f=>.dct h l (d (ic (by rw[Zy,l];exact q.len.1) (by simpa using f)))) (λh l q d f=>.dctT h l (d (ic (by rw[Zy,l];exact q.len.1) (by simpa using f))))
  (λh l n q d f=>.dctN h l n (d (ic (by rw[Zy,l];exact q.len.1) (by simpa using f)))) (λh l q d f=>.dctZ h l (d (ic (by rw[Zy,l];exact q.len.1) (by simpa using f)))) (λh p _=>.exc h p)
  (λ{c a x b w g e Fs} h l u q d f=>by
   rw[fi,dJ,ZS]at f;have hb:b=J:=by
    cases b with
    |false=>rfl
    |true=>simp[Nm]at f
   refine .ins h l (λz=>?_) (d (d9 (by rw[l];exact q.len.1) f.2));rw[hb]at z;cases z)
  (λ_ _ _ f=>by simp[fi,dJ,Nm]at f)
  (λ_=>.nil) (λ_ _ o j f=>by
   rw[cO,ZS]at f;exact .cons (o f.1) (j f.2)) r
theorem RpL.at(m:Me):∀{b:List V}{a:V8}{Fs:X0},RpL G H b a Fs->cO a=B->RpL (G.at m) H b a Fs
 |_,_,_,.nil,_=>.nil
 |_,_,_,.cons r q,f=>by
  rw[cO,ZS]at f;exact .cons (r.at m f.1) (RpL.at m q f.2)
mutual
theorem oy:∀t:T,Iq t=B->fi t=B
 |.non,_=>rfl
 |.bl _,_=>rfl
 |.int _,_=>rfl
 |.str _,_=>rfl
 |.scr _,_=>rfl
 |.tup l,h=>by
  rw[fi];exact vC l h
 |.lst _,h=>by cases h
 |.dct _ _,h=>by cases h
 |.obj _ _,h=>by cases h
theorem vC:∀l:V8,fE l=B->cO l=B
 |[],_=>rfl
 |t :: l,h=>by
  rw[fE,ZS]at h;rw[cO,ZS];exact⟨oy t h.1,vC l h.2⟩
end
end
def qC(k:Nat):T->Option T
 |.obj (_+1) (_ :: fs)=>(fs.findIdx? λp=>p.1==k).bind λi=>(fs[i]?).map (·.2)
 |_=>Y
def aU(k:Nat)(a:Ex):Ex:=λU=>(a U).bind λx=>(qC k x.2).map λt=>sub x.1 t
section
def w_fld{X:Cx}(J:jJ G)(F:JA G X.K k f)(ha:PV G X a ca)(C:{`q7,XAB a f X.env (eval a X.env)=eval a X.env}):PV G X (.Attribute a f pos) (aU k ca) :=
 PE.weak (yc ha C) λO H Q hq=>by
  obtain⟨R,U,m,t,s,e,kq⟩:=hq;unfold aU at e;obtain⟨⟨mx,y⟩,ea,e1⟩:=Zz.mp e;obtain⟨z,d,e2⟩:=Zv.mp e1;refine⟨R,U,mx,y,s,ea,λv H' F' sm r1 f1=>?_⟩;unfold qC at d;split at d
  ·rename_i c q0 fs w;dsimp only at w;subst w;obtain⟨j,E,e3⟩:=Zz.mp d;obtain⟨p,D,e4⟩:=Zv.mp e3;subst e4;obtain⟨c',a,dx,b,ns,vs,q,Fs,ec,rfl,rfl,rfl,rfl,hA,A,C,r⟩:=dP r1;cases ec;have Lp:ns.length=q.length:=A.trans r.len.1;obtain⟨l,g,M,L,g3,g4⟩:=jz (λn=>n==k) Lp E;have ek:l=k:=by simpa using g3
   subst ek;have ep:p=(l,g):=by
    have:(ns.zip q)[j]?=Z (l,g):=by rw[Yi];exact⟨M,L⟩
    rw[this]at D;exact(Zl D).symm
   subst ep;obtain⟨u,Fi,S,P,h⟩:=r.get j L;have N:=tQ (G:=G) (c:=c+1) J A E M S;rw[F.nm c]at N;refine⟨a,_,dx,_,u,rfl,hA,F.cl c,F.no c,N,?_⟩;have fp:=((f1.sub (Yc _ _)).sub (cV P)).up h;unfold VS.sub at e2;rw[e2]at fp;have et:g=t:=congrArg Prod.snd e2;rw[et]at h;exact kq u H' Fi sm h fp
  ·cases d
def jw(i k:Nat)(e:Ex)(U:VS.Env):Option Out:=(e U).bind λv=>match U[i]? with
 |some (some (.ow (.obj (c+1) (q :: fs))))=>(fit v).bind λt=>if fs.length<900/\(fs.all λp=>!(p.1==k))=B then Z (.nx (U.set i (Z (.ow (.obj (c+1) (q :: (fs++[(k,t)]))))))) else Y
 |_=>Y
theorem rO{g:Nat->Str}{k:Nat}{v:V}(J:∀k m:Nat,g k=g m->k=m):∀{b:V2}{d:List V}{j:V8},b.length=d.length->b.length=j.length->((b.zip j).all λp=>!(p.1==k))=B->iW (g k) v ((b.map g).zip d)=((b++[k]).map g).zip (d++[v])
 |[],[],_,_,_,_=>rfl
 |[],_ :: _,_,h,_,_=>by simp at h
 |_ :: _,[],_,h,_,_=>by simp at h
 |_ :: _,_ :: _,[],_,h,_=>by simp at h
 |n :: b,s :: d,t :: j,r,q,l=>by
  rw[ZU,WO,ZS]at l;have ne:g n≠g k:=λz=>by
   have:=J _ _ z;subst this;simp at l
  rw[Zn,ZU,iW,Zm ne,rO J (by simpa using r) (by simpa using q) l.2];rfl
def lQ{X:Cx}{pos:Pos}(i k:Nat)(J:jJ G)(F:JA G X.K k f)(he:PV G X e ce)(hN:{`q7,X.N[i]?=Z x})(hv:Kp X.env.scope x:=by exact .inl M)(hd:{`q7,K3 x})(C:{`q7,K4 x})(hs:{`q7,swapsWith e (Z (.Attribute (.Name x p1) f pos')) pos.line X.env=pure false}):PSV G X (.Assign [.Attribute (.Name x p1) f pos'] e pos) (jw i k ce) :=
 PS.weak (DI (fC hN hv hd C) he hs) λD O H hq=>by
  obtain⟨R,U,out,s,e,kq⟩:=hq;unfold jw at e;obtain⟨⟨mv,h⟩,ev,e⟩:=Zz.mp e;split at e
  ·rename_i c q0 fs w;obtain⟨t,et,e⟩:=Zz.mp e;have em:=mL et;cases em;split at e
   ·rename_i l;cases e;obtain⟨v,g1,g2⟩:=s.rp _ _ w;refine⟨R,U,.fr,h,s,ev,λy Q S q ry n=>⟨v,g1,?_⟩⟩;obtain⟨c',a,L,b,ns,p,j,Fs,ec,rfl,rfl,rfl,eF,E,A,hb,r⟩:=dP g2;cases ec;have nd:=s.nd i _ w;rw[eF]at nd;have P:=ZY.mp nd;have Iy:Q a=Z (.ins (G.ct (c+1)).1 L ((ns.map (G.ct (c+1)).2).zip p)):=q a _ E;have u:Ip (Q a):=by rw[Iy];exact True.intro
    have Lp:ns.length=j.length:=A.trans r.len.1;have na:a∉S:=λz=>by rw[n.2 a z]at E;cases E
    have ln:((ns.map (G.ct (c+1)).2).zip p).length<1000:=by
     have:=l.1;rw[Z1]at this ⊢;rw[Zy];lia
    refine⟨a,_,L,_,rfl,Iy,F.cl c,F.no c,ln,?_⟩;have ep:=rO (g:=(G.ct (c+1)).2) (k:=k) (v:=y) (J (c+1)) A Lp l.2;rw[F.nm c]at ep;rw[ep];have off:∀d∈Fs.flatten,d∉S:=λd hb hw=>Ip.p0 (r.IE d hb) (n.2 d hw);have g:Chg G H (.ref a) (R i) (.obj (c+1) ((0,.bl b) :: (ns.zip j++[(k,h)]))) (upd Q a (.ins (G.ct (c+1)).1 L (((ns++[k]).map (G.ct (c+1)).2).zip (p++[y])))) (a :: (Fs++[S]).flatten):=by
     rw[eF,show ns.zip j++[(k,h)]=(ns++[k]).zip (j++[h]) from by rw[Xb Lp];rfl];refine Chg.upd q Zx u (.ins aj (by simp[A]) hb (((r.same q).off u P.1).append (.cons (ry.keep (Kept.upd (.inl u)) λd hb o ho=>by rw[ar (λz=>na (by rw[← z];exact hb))];exact ho) .nil))) ?_ ?_
     ·rw[Ys];refine ZY.mpr ⟨λm=>?_,ZL.mpr ⟨P.2,by simpa using n.1,λb hb c l z=>?_⟩⟩
      ·rcases Zd.mp m with m | m
       ·exact P.1 m
       ·exact na (by simpa using m)
      ·subst z;exact off b hb (by simpa using l)
     ·intro d hb;rcases Zk.mp hb with rfl | hb
      ·exact .inl Zx
      ·rw[Ys]at hb;rcases Zd.mp hb with hb | hb
       ·exact .inl (Zw _ hb)
       ·exact .inr (n.2 d (by simpa using hb))
    obtain⟨z1,z2⟩:=s.mut w g1 g;exact kq _ O _ z1 z2
   ·cases e
  ·cases e
end
noncomputable abbrev tD:=List (Nat×T)
noncomputable def KZ(a:KM):Me:=λk=>if k=0 then Z (.ref a) else Y
abbrev Mt:=tD->V8->Option (tD×T)
noncomputable def JI:List Bool->X0->Wa
 |b :: bs,F :: a=>(if b then F else [])++JI bs a
 |_,_=>[]
noncomputable def Mc:List Bool->X0->Wa
 |b :: bs,F :: a=>(if b then [] else F)++Mc bs a
 |_,_=>[]
theorem gD:∀{f:List Bool}{e:X0}{j:Nat}{F:Wa},f[j]?=Z B->e[j]?=Z F->F.Sublist (JI f e)
 |[],_,_,_,h,_=>by simp at h
 |_ :: _,[],_,_,_,h=>by simp at h
 |b :: bs,g :: e,0,F,d,a=>by
  simp at d a;subst d a;rw[JI,Zr M];exact List.sublist_append_left _ _
 |b :: bs,g :: e,j+1,F,d,a=>by
  rw[JI];exact(gD (by simpa using d) (by simpa using a)).trans (Xp _ _)
theorem pY:∀{f:List Bool}{e:X0}{j:Nat}{F:Wa},f[j]?=Z J->e[j]?=Z F->F.Sublist (Mc f e)
 |[],_,_,_,h,_=>by simp at h
 |_ :: _,[],_,_,_,h=>by simp at h
 |b :: bs,g :: e,0,F,d,a=>by
  simp at d a;subst d a;rw[Mc];exact List.sublist_append_left _ _
 |b :: bs,g :: e,j+1,F,d,a=>by
  rw[Mc];exact(pY (by simpa using d) (by simpa using a)).trans (Xp _ _)
theorem u6:∀{o:List Bool}{d:X0}{i j:Nat}{F m:Wa},(JI o d).Nodup->o[i]?=Z B->o[j]?=Z B->d[i]?=Z F->d[j]?=Z m->i≠j->∀a∈F,a∉m
 |[],_,_,_,_,_,_,h,_,_,_,_=>by simp at h
 |_ :: _,[],_,_,_,_,_,_,_,h,_,_=>by simp at h
 |b :: bs,r :: d,0,0,F,m,_,_,_,_,_,n=>absurd M n
 |b :: bs,r :: d,0,j+1,F,m,nd,l,g,f,e,n=>λa p q=>by
  simp at l f;subst l f;rw[JI,Zr M,ZL]at nd;exact nd.2.2 a p a ((gD (by simpa using g) (by simpa using e)).subset q) M
 |b :: bs,r :: d,i+1,0,F,m,nd,l,g,f,e,n=>λa p q=>by
  simp at g e;subst g e;rw[JI,Zr M,ZL]at nd;exact nd.2.2 a q a ((gD (by simpa using l) (by simpa using f)).subset p) M
 |b :: bs,r :: d,i+1,j+1,F,m,nd,l,g,f,e,n=>by
  rw[JI,ZL]at nd;exact u6 nd.2.1 (by simpa using l) (by simpa using g) (by simpa using f) (by simpa using e) (by lia)
theorem vK:∀{e:List Bool}{d:X0}{a:KM},a∈JI e d->∃(j:Nat)(F:Wa),e[j]?=Z B/\d[j]?=Z F/\a∈F
 |[],_,_,h=>by simp[JI]at h
 |_ :: _,[],_,h=>by simp[JI]at h
 |b :: bs,l :: d,a,h=>by
  rw[JI]at h;rcases Zd.mp h with h | h
  ·cases b with
   |true=>exact⟨0,l,rfl,rfl,h⟩
   |false=>simp at h
  ·obtain⟨j,F,i,g,f⟩:=vK h;exact⟨j+1,F,by simpa using i,by simpa using g,f⟩
noncomputable def nH(b:Bool)(t:T):V5:=Z (if b then .ow t else .pu t)
def zT(c:Nat)(U:VS.Env):Option tD:=match (U[(0:Nat)]?:Option (V5)) with
 |some (some (.ow (.obj a ((0,.bl true) :: fs))))=>if a=c+1 then Z fs else Y
 |_=>Y
def Kh(c d f:Nat)(e:List Bool)(body:Sx):Mt:=λfs a=>if a.length+1=d/\e.length=a.length then
 (body ((Z (.ow (.obj (c+1) ((0,.bl B) :: fs))) :: List.zipWith nH e a)++List.replicate (f-d) Y)).bind λo=>match o with
  |.rt v U=>(zT c U).bind λb=>if Iq v.2 then Z (b,v.2) else Y
  |.nx U=>(zT c U).map λb=>(b,.non)
  |_=>Y else Y
def L9(G:Gx)(c:Nat)(d:List Bool)(g:Mt):Sp:=λl H Q _=>∃(a:KM)(i:List V)(fs:tD)(f:V8)(F:Wa)(e:X0)(j:tD)(x:T),l=.ref a :: i/\Rp (G.at (KZ a)) H (.ref a) (.obj (c+1) ((0,.bl B) :: fs)) F ∧
 RpL (G.at (KZ a)) H i f e/\d.length=f.length/\(F++JI d e).Nodup/\(∀b∈F++JI d e,b∉Mc d e)/\g fs f=Z (j,x) ∧
 ∀u h m,Chg (G.at (KZ a)) H (.ref a) (F++JI d e) (.obj (c+1) ((0,.bl B) :: j)) h m->Rp (G.at (KZ a)) h u x []->Q u h
section
variable{H:Hp}
def yk{g:List Bool}(r0:Rp G H v t F)(r:RpL G H E d f)(hm:g.length=d.length)(x:(F++JI g f).Nodup)(U:∀b∈F++JI g f,b∉Mc g f)(n X:Nat)(hn:X=E.length+1) :
  SR G (λi=>(F :: f).getD i []) ((Z (.ow t) :: List.zipWith nH g d)++List.replicate (n-(d.length+1)) Y) ((v :: E).map Z++List.replicate (n-X) Y) H ∧
  ∀a,bX (λi=>(F :: f).getD i []) ((Z (.ow t) :: List.zipWith nH g d)++List.replicate (n-(d.length+1)) Y) a->a∈F++JI g f:=by
 subst hn;have hl:=r.len;have N:(List.zipWith nH g d).length=d.length:=by rw[List.length_zipWith,hm,Nat.min_self]
 have back:∀{i:Nat}{c:Cell},((Z (Cell.ow t) :: List.zipWith nH g d)++List.replicate (n-(d.length+1)) Y)[i]?=Z (Z c)->(i=0/\c=.ow t)\/∃(j:Nat)(b:Bool)(u:T),i=j+1/\g[j]?=Z b/\d[j]?=Z u/\c=(if b then .ow u else .pu u):=λ{i c} h=>by
  cases i with
  |zero=>exact .inl ⟨rfl,(Zl (Zl h)).symm⟩
  |succ j =>
   rw[XJ,X4]at h;by_cases L:j<d.length
   ·rw[Yz (by rw[N];exact L),List.getElem?_zipWith]at h;have e1:g[j]?=Z g[j]:=Zp (by rw[hm];exact L);have e2:d[j]?=Z d[j]:=Zp L;rw[e1,e2]at h;exact .inr ⟨j,_,_,rfl,e1,e2,(Zl (Zl h)).symm⟩
   ·rw[Yu (by rw[N];exact Z7 L),Y8]at h;split at h<;>cases h
 have fp:∀{j:Nat}{u:T},d[j]?=Z u->∃w s,E[j]?=Z w/\f[j]?=Z s/\Rp G H w u s:=λ{j u} h=>r.get j h;have ow:∀{i:Nat}{u:T},((Z (Cell.ow t) :: List.zipWith nH g d)++List.replicate (n-(d.length+1)) Y)[i]?=Z (Z (.ow u))->i=0\/∃j:Nat,i=j+1/\g[j]?=Z B/\d[j]?=Z u:=λ{i u} h=>by
  rcases back h with⟨p,l⟩ | ⟨j,b,S,p,l,o,y⟩
  ·exact .inl p
  ·cases b with
   |true=>cases y;exact .inr ⟨j,p,l,o⟩
   |false=>cases y
 rw[ZL]at x;refine⟨⟨?_,λi c h=>?_,λi u h=>?_,λi j u c p l n=>?_⟩,λa ⟨i,u,p,l⟩=>?_⟩
 ·simp[N];lia
 ·rcases back h with⟨rfl,rfl⟩ | ⟨j,b,u,rfl,l,o,y⟩
  ·exact⟨v,rfl,r0⟩
  ·obtain⟨w,s,A,e,C⟩:=fp o;refine⟨w,?_,?_⟩
   ·rw[Zn,XJ,X4,Yz (by rw[Zy];exact(Zb.mp A).1),ZV,A];rfl
   ·show Rp G H w (kL c) ((F :: f).getD (j+1) []);rw[YT,Zq,e,y];cases b<;>exact C
 ·rcases ow h with rfl | ⟨j,rfl,l,o⟩
  ·exact x.1
  ·obtain⟨w,s,A,e,C⟩:=fp o;show ((F :: f).getD (j+1) []).Nodup;rw[YT,Zq,e];exact x.2.1.sublist (gD l e)
 ·rcases ow p with rfl | ⟨i',rfl,R,a3⟩
  ·rcases back l with⟨rfl,_⟩ | ⟨P,b,S,rfl,D,Q,_⟩
   ·exact absurd M n
   ·obtain⟨w,s,A,e,C⟩:=fp Q;intro a m;show a∉(F :: f).getD (P+1) [];rw[YT,Zq,e];intro q;cases b with
    |true=>exact x.2.2 a m a ((gD D e).subset q) M
    |false=>exact U a (Yn _ m) ((pY D e).subset q)
  ·obtain⟨w,Fi,A,e,C⟩:=fp a3;have ei:(F :: f).getD (i'+1) []=Fi:=by rw[YT,Zq,e];rfl
   show ∀a∈(F :: f).getD (i'+1) [],_;rw[ei];rcases back l with⟨rfl,_⟩ | ⟨P,b,S,rfl,D,Q,_⟩
   ·exact λa m q=>x.2.2 a q a ((gD R e).subset m) M
   ·obtain⟨w',s,k1,O,k3⟩:=fp Q;intro a m;show a∉(F :: f).getD (P+1) [];rw[YT,Zq,O];intro q;cases b with
    |true=>exact u6 x.2.1 R D e O (λz=>n (by rw[z])) a m q
    |false=>exact U a (ZP _ ((gD R e).subset m)) ((pY D O).subset q)
 ·rcases ow p with rfl | ⟨j,rfl,o,y⟩
  ·exact Yn _ l
  ·obtain⟨w,s,A,e,C⟩:=fp y;have MW:a∈(F :: f).getD (j+1) []:=l;rw[YT,Zq,e]at MW;exact ZP _ ((gD o e).subset MW)
def Ay(h:zT c U=Z a):U[0]?=Z (Z (.ow (.obj (c+1) ((0,.bl B) :: a)))):=by
 unfold zT at h;split at h
 ·rename_i d f e;split at h
  ·rename_i b;cases h;rw[e,b]
  ·cases h
 ·cases h
end
section
variable{K:X6}
def Gy{G:Gx}{U:List Str}(ok:∀{sp:Sp},(∀j H Q E,sp j H Q E->j.length=U.length)->(∀(p:On)(A:SB)(outer:List PySem.Env)(s:IR)(H:Hp)(j:List V)(Q:VK)(E:XK),xa k (A.deeper (envOfC d (ah x) s.heap.objs.size f p))->sp j H Q E →
   ∃t,Kf (jL Jh P w K mg base N d (ah x) f p A outer s H E).Lv (aX x) t/\t { nx:=λ_ g=>Q .non g,rt:=Q } (L2.start N j) H)->FnOk P w K mg base Jh (k+1) f fd U sp)(hp:U.length=np)(hn:N.length=L)(hb:∀(a:KM)(p:On)(A:SB)(outer:List PySem.Env)(s:IR)(H:Hp)(E:XK),xa k (A.deeper (envOfC d (ah x) s.heap.objs.size f p))->gP (G.at (KZ a)) (jL Jh P w K mg base N d (ah x) f p A outer s H E).Lv (aX x) l) :
  FnOk P w K mg base Jh (k+1) f fd U (L9 G c X (Kh c np L X l)):=by
 refine ok (λj H Q E h=>?_) λp A outer s H j Q E hr h=>?_
 ·obtain⟨a,D,fs,ts,F,Fs,J5,y,rfl,r0,r,hm,nd,sp,e,q⟩:=h;unfold Kh at e;split at e
  ·rename_i hl;rw[Za,r.len.1,hl.1,hp]
  ·cases e
 ·obtain⟨a,D,fs,ts,F,Fs,J5,y,rfl,r0,r,hm,nd,sp,e,q⟩:=h;refine⟨_,hb a p A outer s H E hr,?_⟩;unfold Kh at e;split at e
  ·rename_i hl;obtain⟨o,e1,e2⟩:=Zz.mp e;obtain⟨s0,Mf⟩:=yk r0 r hm nd sp L (D.length+1) M;rw[hl.1]at s0 Mf;have e3:L2.start N (V.ref a :: D)=(V.ref a :: D).map Z++List.replicate (L-(D.length+1)) Y:=by
    unfold L2.start;rw[hn];rfl
   rw[e3];have fin:∀{m:VS.Env}{n:Ir}{O':L2.St}{g:Hp},zT c m=Z J5->SR (G.at (KZ a)) n m O' g->Jd (λi=>(F :: Fs).getD i []) ((Z (.ow (.obj (c+1) ((0,.bl B) :: fs))) :: List.zipWith nH X ts)++List.replicate (L-np) Y) H n m g →
     Chg (G.at (KZ a)) H (.ref a) (F++JI X Fs) (.obj (c+1) ((0,.bl B) :: J5)) g (n 0):=λ{m n O' g} hme C fr=>by
    have h0:=Ay hme;obtain⟨v',g1,g2⟩:=C.rp 0 _ h0;have NX:Rp (G.at (KZ a)) g v' (.obj (c+1) ((0,.bl B) :: J5)) (n 0):=g2;obtain⟨c',a',dx,b,ns,j,Kl,J7,ec,rfl,eb,_,eF,hA,hl',S,ra⟩:=dP NX;have LG:b=B:=by cases eb;rfl
    have ea:Z (V.ref a)=Z (V.ref a'):=S LG;cases ea;refine⟨fr.kept,λR o' S ho=>(fr.keep R o' ho λz=>S (Mf R z)).1,fr.IE,NX,C.nd 0 _ h0,λR S=>?_⟩;rcases fr.ow R ⟨0,_,h0,S⟩ with z | z
    ·exact .inl (Mf R z)
    ·exact .inr z
   refine⟨_,_,o,s0,e1,?_⟩;cases o with
   |nx m =>
    obtain⟨fs2,e4,O⟩:=Zv.mp e2;cases O;intro n O' g C fr;exact q .non g _ (fin e4 C fr) .non
   |rt v m =>
    obtain⟨fs2,e4,O⟩:=Zz.mp e2;split at O
    ·rename_i hi;cases O;intro u g F' n O' C fr r' rf;have:=r'.Iq hi;subst this;exact q u g _ (fin e4 C fr) r'
    ·cases O
   |bk m=>cases e2
   |ct m=>cases e2
  ·cases e
def fnM{G:Gx}(F:IA K x d g f n)(S:gV N h (ah g))(p:h.length=i)(q:N.length=j)(r:∀(a:KM)(o:On)(A:SB)(outer:List PySem.Env)(s:IR)(H:Hp)(E:XK),xa k (A.deeper (envOfC d (ah g) s.heap.objs.size f o))->gP (G.at (KZ a)) (jL Jh P w K mg base N d (ah g) f o A outer s H E).Lv (aX g) e) :
  FnOk P w K mg base Jh (k+1) f n h (L9 G c m (Kh c i j m e)):=Gy (λl b=>F.ok S l b) p q r
structure Mm(K:X6)(x qual:Str)(st:Stmt)(f:KM)(fd:P3):Prop where
 ex:∃(T:KM)(oc:On)(od:Option KM)(kV doc pm:On)(an:Option KM)(Im ct:On)(Lo:Array (V1))(o:Obj)(n:Nat),
  fd=PySem.W.fnOf x qual (cQ st) (aX st) (ah st) (.ref T) kV doc pm an Im ct/\K.lookup f=some ⟨oc,od,.func fd,Lo⟩/\PySem.W.codeIn K Im qual=true/\K.lookup T=some o/\o.data=.seq #[.none] n
 kp:PySem.W.keepIn K (.ref f)=true
def Mm.ok{g:Sp}(F:Mm K x a d f m)(S:gV N i (ah d))(j:∀b H Q E,g b H Q E->b.length=i.length)(u:∀(e:On)(A:SB)(outer:List PySem.Env)(s:IR)(H:Hp)(b:List V)(Q:VK)(E:XK),xa k (A.deeper (envOfC a (ah d) s.heap.objs.size f e))->g b H Q E →
   ∃t,Kf (jL Jh P w K mg base N a (ah d) f e A outer s H E).Lv (aX d) t/\t { nx:=λ_ v=>Q .non v,rt:=Q } (L2.start N b) H):FnOk P w K mg base Jh (k+1) f m i g:=by
 obtain⟨T,oc,y,kV,doc,pm,an,e,ct,z,o,n,rfl,lk,l,_⟩:=F.ex;refine C9 lk l S j λA outer s H b Q E p r=>?_;obtain⟨t,h,q⟩:=u e A outer s H b Q E p r;exact⟨t,h.Lv,q⟩
def Mm.binds{e:List Str}(F:Mm K x a d f j)(h:∀(s:IR)(T:KM)(kV doc pm:On)(an:Option KM)(g ct:On)(o:Obj)(n:Nat)(b:V0),K.In s.heap->K.lookup T=Z o->o.data=.seq #[.none] n->b.length=e.length->BindsTo s (PySem.W.fnOf x a (cQ d) (aX d) (ah d) (.ref T) kV doc pm an g ct) ⟨b,[]⟩ (e.zip b)):Binds K j e []:=by
 obtain⟨T,oc,q,kV,doc,pm,an,g,ct,r,o,n,rfl,lk,p,m,l⟩:=F.ex;intro s b X i;rw[ZM]at i ⊢;exact h s T kV doc pm an g ct o n b X m l i
end
def argsOk:List Bool->V6->Bool
 |[],[]=>B
 |b :: bs,v :: a=>(if b then v.1 == .fr else Iq v.2)&&argsOk bs a
 |_,_=>J
def mf(c:Nat)(e:List Bool)(g:Mt)(a:V6):T->Option (T×Val)
 |.obj d ((0,.bl b) :: fs)=>if d=c+1/\dJ fs=B/\argsOk e a=B/\cO (trees a)=B then (g fs (trees a)).bind λz=>if dJ z.1=B/\Iq z.2=B then Z (.obj d ((0,.bl b) :: z.1),(.fr,z.2)) else Y else Y
 |_=>Y
def bC(i:Nat)(a:List Lm)(c:Nat)(d:List Bool)(g:Mt)(f:IQ)(U:VS.Env):Option (Val×VS.Env):=match (U[i]?:Option (V5)) with
 |some (some (.ow t))=>(keys a U).bind λe=>(f U).bind λb=>(pm (mf c d g b) e t).map λz=>(z.2,U.set i (Z (.ow z.1)))
 |_=>Y
def tX(G:Gx)(x:Xx):TE:=λO H Q=>∃R U v b,SR G R U O H/\x U=Z (v,b)/\Iq v.2=B/\∀u a d,SR G d b O a->Jd R U H d b a->Rp G a u v.2 []->Q u a
def PX(G:Gx)(X:Cx)(e:Expr)(x:Xx):Prop:=PE X e (tX G x)
theorem jY:∀{d:List Bool}{a:V6},argsOk d a=B->d.length=a.length
 |[],[],_=>rfl
 |[],_ :: _,h=>by simp[argsOk]at h
 |_ :: _,[],h=>by simp[argsOk]at h
 |b :: bs,v :: e,h=>by
  rw[argsOk,ZS]at h;rw[Za,Za,jY h.2]
theorem oJ:∀{e:List Bool}{d:V6}{Fs:X0},argsOk e d=B->(JI e Fs).Sublist (JE d Fs)
 |[],[],_,_=>by simp[JI]
 |[],_ :: _,_,h=>by simp[argsOk]at h
 |_ :: _,[],_,h=>by simp[argsOk]at h
 |b :: bs,v :: f,[],h=>by simp[JI]
 |b :: bs,(m,t) :: f,F :: Fs,h=>by
  rw[argsOk,ZS]at h;have a:=oJ (Fs:=Fs) h.2;rw[JI];cases b with
  |true =>
   have:m=.fr:=by simpa using h.1
   subst this;exact List.Sublist.append (Wy _) a
  |false =>
   rw[Zm Zf,Yg];cases m with
   |fr=>exact a.trans (Xp _ _)
   |pu=>exact a
   |bo=>exact a
theorem p6:∀{d:List Bool}{a:V6}{f:List V}{e:X0},argsOk d a=B->RpL G H f (trees a) e->Mc d e=[]
 |[],[],_,_,_,_=>by simp[Mc]
 |[],_ :: _,_,_,h,_=>by simp[argsOk]at h
 |_ :: _,[],_,_,h,_=>by simp[argsOk]at h
 |b :: bs,(m,t) :: i,_,_,h,r=>by
  rw[argsOk,ZS]at h;cases r with
  |cons g q =>
   rw[Mc,p6 h.2 q,ZM];cases b with
   |true=>rfl
   |false=>exact g.Iq (by simpa using h.1)
def u7(h:argsOk e d=B)(f:M5 R U H d m):∀a∈JI e m,H a=Y:=λa o=>by
 obtain⟨j,F,g,q,p⟩:=vK o;have key:∀{e:List Bool}{d:V6}{j:Nat},argsOk e d=B->e[j]?=Z B->∃v,d[j]?=Z v/\v.1=.fr:=by
  intro e
  induction e with
  |nil=>intro d j _ h;simp at h
  |cons b bs n =>
   intro d j h g;cases d with
   |nil=>simp[argsOk]at h
   |cons v r =>
    rw[argsOk,ZS]at h;cases j with
    |zero =>
     simp at g;subst g;exact⟨v,rfl,by simpa using h.1⟩
    |succ j =>
     obtain⟨w,l,i⟩:=n h.2 (by simpa using g);exact⟨w,by simpa using l,i⟩
 obtain⟨v,l,i⟩:=key h g;have:=f.each j v F l q;rw[i]at this;exact this.2 a p
section
def sS{t:TA}(J:jJ G)(hn:∀k,(G.ct (c+1)).2 k≠m)(ht:∀R U p O H (Rq:List V->Hp->Prop),SR G R U O H->cs U=Z p->(∀d l N,aG H l->RpL G l d (trees p) N->M5 R U H p N->Rq d l)->t O H Rq)(h:tX G (bC i way c mv g cs) O H Q):vz (G.ct (c+1)).1 m (L9 G c mv g) [] E (Rm G i way) t O H Q:=by
 obtain⟨R,U,v,U',s,e,him,kq⟩:=h;unfold bC at e;split at e
 ·rename_i t0 L;obtain⟨ks,ek,e3⟩:=Zz.mp e;obtain⟨p,el,e4⟩:=Zz.mp e3;obtain⟨⟨t',x2⟩,e5,e6⟩:=Zv.mp e4;cases e6;obtain⟨v0,h1,h2⟩:=s.rp _ _ L;obtain⟨w,x,F1,x3,w1,w2,w3,q,w5⟩:=nQ ks J h2 (s.nd i t0 L) e5;unfold mf at q;split at q
  ·rename_i c1 b fs;split at q
   ·rename_i hc;obtain⟨rfl,MK,M,QC⟩:=hc;obtain⟨⟨J5,y⟩,eg,e7⟩:=Zz.mp q;split at e7
    ·rename_i MJ;cases e7;obtain⟨c',a,dx,b',ns,d,P,N,ec,rfl,eb,rfl,eF,hA,hl,hb,ra⟩:=dP w2;cases ec;cases eb;have Lp:ns.length=P.length:=hl.trans ra.len.1;refine⟨R,U,t0,ks,v0,.ref a,s,L,h1,ek,w1,λH1 F=>⟨a,dx,_,rfl,F a _ hA,?_,?_⟩⟩
     ·have key:∀(ns:V2)(d:List V),((ns.map (G.ct (c+1)).2).zip d).lookup m=Y:=by
       intro ns
       induction ns with
       |nil=>intro d;simp
       |cons n ns ih =>
        intro d;cases d with
        |nil=>simp
        |cons v d =>
         rw[Zn,ZU,YY];have:(m==(G.ct (c+1)).2 n)=false:=by
          rw[ZE];exact λz=>hn n z.symm
         rw[this];exact ih d
      exact key ns d
     ·refine ht R U p O H1 _ (s.same F) el λus H2 Gs Jf OS OD=>?_;have A:aG H H2:=F.trans Jf;have fp0:M5 R U H p Gs:=⟨λn v' D a1 a2=>(OD.each n v' D a1 a2).back F,OD.nd⟩
      have Od:=u7 M fp0;have Ru:RpL (G.at (KZ a)) H2 d P N:=(ra.same A).at (KZ a) (d9 Lp MK);refine⟨a,us,ns.zip P,trees p,F1,Gs,J5,y,by rw[ZM],?_,OS.at (KZ a) QC,?_,?_,?_,eg,λu l D r ru=>?_⟩
      ·rw[eF];exact .ins (A a _ hA) hl (λ_=>rfl) Ru
      ·rw[jY M];simp[trees]
      ·refine ZL.mpr ⟨w3,OD.nd.sublist (oJ M),λj C b2 Nu z=>?_⟩;subst z;exact Ip.p0 (w2.IE j C) (Od j Nu)
      ·rw[p6 M OS];exact λj _ z=>nomatch z
      ·have back:Rp G l (.ref a) (.obj (c+1) ((0,.bl b) :: J5)) D:=by
        obtain⟨c2,a2,dx2,b2,RA,OP,Rl,R5,OF,QL,Ul,Uk,QN,Pd,Jp,Nu,LS⟩:=dP r.rp;cases OF;cases QL;subst Uk;rw[QN];exact .ins Pd Jp hb (LS.at G.me (d9 (Jp.trans LS.len.1) MJ.1))
       have gG:Chg G H (.ref a) F1 (.obj (c+1) ((0,.bl b) :: J5)) l D:=⟨(Kept.of A).trans r.kept,λj o1 C S=>r.keep j o1 (λz=>(Zd.mp z).elim C λz=>by rw[Od j z]at S;cases S) (A j o1 S),λj h=>r.IE j λz=>h (A.free z),back,r.nd,λj C=>by
        rcases r.sub j C with z | z
        ·rcases Zd.mp z with z | z
         ·exact .inl z
         ·exact .inr (Od j z)
        ·exact .inr (A.free z)⟩
       obtain⟨F2,g2⟩:=w5 l D gG;obtain⟨z1,z2⟩:=s.mut L h1 g2;exact kq u l _ z1 z2 (ru.at G.me (oy y MJ.2))
    ·cases e7
   ·cases q
  ·cases q
 ·cases e
def BG(J:jJ G)(q:∀k,(G.ct (c+1)).2 k≠m)(p:LM G X o i way)(v:JY X.K (G.ct (c+1)).1)(r:Meth X.K (G.ct (c+1)).1 m f)(F:FnOk X.prog X.w X.K X.mg X.base Jh k f fd ps (L9 G c mv g))(n:xa k' X.A)(u:k<=k')(x:Binds X.K fd ps [])(y:Jj G X (e :: es) cs)(z:K1 e es X)(a:K2 pos es X)(l:eval (.Call (.Attribute o m apos) (e :: es) [] pos) X.env=(do
   let b ← eval o X.env
   standAt apos.atName
   let (f,first) ← holding [b] (getMethod b m j)
   callWith pos f first (backTo pos (Pv (e :: es) X.env)) (backToKw pos (SL [] X.env)))):PX G X (.Call (.Attribute o m apos) (e :: es) [] pos) (bC i way c mv g cs) :=
 PE.weak (qi (E:=E0) p v r F (n.mono u) x .nil ma y z a l) λO H Q h=>sS (t:=N7 G cs) J q (λR U d O H Rq s e k=>⟨R,U,d,s,e,k⟩) h
def Aa(J:jJ G)(p:∀k,(G.ct (c+1)).2 k≠m)(n:LM G X o i way)(u:JY X.K (G.ct (c+1)).1)(q:Meth X.K (G.ct (c+1)).1 m f)(F:FnOk X.prog X.w X.K X.mg X.base Jh k f fd ps (L9 G c mv g))(l:xa k' X.A)(r:k<=k')(x:Binds X.K fd ps [])(j:eval (.Call (.Attribute o m apos) [] [] pos) X.env=(do
   let a ← eval o X.env
   standAt apos.atName
   let (f,first) ← holding [a] (getMethod a m d)
   callWith pos f first (backTo pos (Pv [] X.env)) (backToKw pos (SL [] X.env)))):PX G X (.Call (.Attribute o m apos) [] [] pos) (bC i way c mv g ag) :=
 PE.weak (sN (E:=E0) n u q F (l.mono r) x .nil ma j) λO H Q h=>sS (t:=xr) J p (λR U b O H Rq s e k=>by
  cases (show Z ([]:V6)=Z b from e);exact k [] H [] (aG.refl _) .nil ⟨λi v F h=>by simp at h,by simp[JE]⟩) h
def PH(x:Xx):Sx:=λU=>(x U).bind λz=>if Iq z.1.2 then Z (.nx z.2) else Y
def jy(j:Nat)(x:Xx):Sx:=λU=>(x U).bind λz=>if Iq z.1.2=B/\j<z.2.length then Z (.nx (z.2.set j (Z (.pu z.1.2)))) else Y
def pQ(x:Xx):Sx:=λU=>(x U).bind λz=>if Iq z.1.2 then Z (.rt (.fr,z.1.2) z.2) else Y
def tm{pos:Pos}(h:PX G X e x)(n:swapsWith e Y pos.line X.env=pure J):PSV G X (.Expr e pos) (PH x) :=
 PS.weak (jD h n) λD O H b=>by
  obtain⟨R,U,out,s,e,k⟩:=b;unfold PH at e;obtain⟨⟨v,j⟩,e1,e2⟩:=Zz.mp e;split at e2
  ·rename_i d;cases e2;exact⟨R,U,v,j,s,e1,d,λu p l a f r=>k l O p a f⟩
  ·cases e2
def By(h:PX G X e x):PSV G X (.Return (Z e) pos) (pQ x) :=
 PS.weak (qh h) λD O H d=>by
  obtain⟨R,U,out,s,e,k⟩:=d;unfold pQ at e;obtain⟨⟨v,l⟩,e1,e2⟩:=Zz.mp e;split at e2
  ·rename_i j;cases e2;exact⟨R,U,v,l,s,e1,j,λu p n b f r=>k u p [] n O b f r ⟨Y1,λa h=>nomatch h⟩⟩
  ·cases e2
def qR{pos:Pos}(h:PX G X e x)(C:X.N.Nodup)(l:X.N[j]?=Z d)(w:Loc X.env.scope d)(y:swapsWith e (Z (.Name d b)) pos.line X.env=pure J)(A:X.fn d=B\/X.env.scope.names.lookup d=Z .local) :
  PSV G X (.Assign [.Name d b] e pos) (jy j x) :=
 PS.weak (ui C l w h y A) λD O H z=>by
  obtain⟨R,U,out,s,e,k⟩:=z;unfold jy at e;obtain⟨⟨v,E⟩,e1,e2⟩:=Zz.mp e;split at e2
  ·rename_i l;cases e2;refine⟨R,U,v,E,s,e1,l.1,λu n F p f r=>?_⟩;obtain⟨t,q⟩:=p.val (c:=.pu v.2) (m:=.fr) l.2 (aG.refl n) r ⟨Y1,λa h=>nomatch h⟩ (.inl ⟨rfl,by decide⟩);exact k _ _ n t (f.trans q)
  ·cases e2
def jM(i:Nat)(a:List Lm)(k:Ex)(x:Xx):Sx:=λU=>(x U).bind λz=>if Iq z.1.2 then eV i a k (λ_=>Z (.fr,z.1.2)) z.2 else Y
def AF{mv:Md}(J:jJ G)(s:SR G R U O H)(ht:U[i]?=Z (Z (.ow t)))(ek:keys way U=Z ks)(LY:ck U=Z (mk,p))(e5:pm (j4 (mk,p) (mv,d)) ks t=Z (t',y'))(Jr:aG H H1)(rv:Rp G H1 xv d L)(fv:Fp R U H mv L)(k:∀R' H',SR G R' (U.set i (Z (.ow t'))) O H'->Jd R U H R' (U.set i (Z (.ow t'))) H'->D O H'):FX (Rm G i way) (tE G ck) Dc xv O H1 D:=by
   obtain⟨v,g1,g2⟩:=s.rp _ _ ht;obtain⟨w,x,F1,x3,w1,w2,w3,N,w5⟩:=nQ ks J g2 (s.nd i t ht) e5;refine⟨R,U,t,ks,v,w,s.same Jr,ht,g1,ek,w1.same Jr,λH2 Jf=>⟨R,U,mk,p,(s.same Jr).same Jf,LY,λkv q Fk Kq rk fk=>?_⟩⟩;have A:aG H q:=(Jr.trans Jf).trans Kq;have Mb:Rp G q xv d L:=(rv.same Jf).same Kq;have fin:∀S M,Chg G H w F1 x3 S M->D O S:=λS M g=>by
    obtain⟨F2,NX⟩:=w5 S M g;obtain⟨z1,z2⟩:=s.mut ht g1 NX;exact k _ S z1 z2
   refine L2.hJ λP_ k_=>?_;cases x with
   |lst l =>
    cases p with
    |int n =>
     obtain⟨tt,et,e7⟩:=Zz.mp (show ((fit (mv,d)).bind λt=>(JP l.length n).map λj=>(T.lst (l.set j t),()))=Z (x3,y') from N);obtain⟨j,ej,e8⟩:=Zv.mp e7;cases e8;have em:=mL et;cases em;obtain⟨a,y,Fs,rfl,rfl,Q,C⟩:=w2.lst_inv;have P:q a=Z (.lst y):=A a _ Q;have nd:=ZY.mp w3;have na:a∉L:=λz=>by rw[fv.2 a z]at Q;cases Q
     have E:Ip (q a):=by rw[P];exact True.intro
     have off:∀b∈Fs.flatten,b∉L:=λb hb hv=>Ip.p0 (C.IE b hb) (fv.2 b hv);refine k_ ?_;refine .inl ⟨a,y,n,j,rfl,rk.int_inv,P,by rw[← uQ,C.len.1];exact ej,fin _ (a :: (Fs.set j L).flatten) ?_⟩;have keep:∀{u:V}{x:T}{F:Wa},Rp G q u x F->a∉F->Rp G (upd q a (.lst (y.set j xv))) u x F:=λr hn=>r.keep (Kept.upd (.inl E)) λb hb o' LB=>by rw[ar (λz=>hn (by rw[← z];exact hb))];exact LB
     refine Chg.upd A Zx E (.lst aj ((((C.same A).off E nd.1)).putAt j (keep Mb na))) ?_ ?_
     ·rw[ZY];refine⟨λh=>?_,dQ nd.2 fv.1 λi' M _ hi b hb=>off b (de hi hb)⟩;rcases cB h with z | ⟨i',M,_,h1,h2⟩
      ·exact na z
      ·exact nd.1 (de h1 h2)
     ·intro b hb;rcases Zk.mp hb with rfl | hb
      ·exact .inl Zx
      ·rcases cB hb with z | ⟨i',M,_,h1,h2⟩
       ·exact .inr (fv.2 b z)
       ·exact .inl (Zw _ (de h1 h2))
    |_=>cases N
   |dct kd l =>
    cases kd with
    |zero =>
     have hc:(gr p=B/\Iq d=B/\l.length<eu)/\x3=.dct 0 (dput l p d):=by
      have N4:(if gr p/\Iq d/\l.length<eu then Z (T.dct 0 (dput l p d),()) else Y)=Z (x3,y'):=N;split at N4
      ·rename_i hc;cases N4;exact⟨hc,rfl⟩
      ·cases N4
     obtain⟨⟨c1,c2,c3⟩,rfl⟩:=hc;have eF:=Mb.Iq c2;subst eF;obtain⟨a,ns,y,ts,Fs,rfl,rfl,Q,hl,rfl,C⟩:=cH w2;obtain⟨kk,rfl,MO⟩:=c9 rk c1;subst MO;have P:q a=Z (.dK (ns.zip y)):=A a _ Q;have E:Ip (q a):=by rw[P];exact True.intro
     have nd:=ZY.mp w3;obtain⟨Mh,Kg,Kl,J7,q1,q2,q3,q4,q5⟩:=lW (kk:=kk) Mb hl (C.same A);have ln:(ns.zip y).length<sizeLine:=by
      have:((ns.map aw).zip ts).length<16777216:=c3;rw[Z1,Zy]at this;rw[Z1];have:=C.len.1;have:(KF:Nat)=16777216:=rfl;lia
     refine k_ ?_;refine .inr ⟨a,_,rfl,uN.k P ln,fin _ (a :: J7.flatten) ?_⟩;rw[q1,q3];refine Chg.upd A Zx E (.dct aj q2 (q4.off E λz=>nd.1 (q5.subset z))) ?_ ?_
     ·exact ZY.mpr ⟨λz=>nd.1 (q5.subset z),nd.2.sublist q5⟩
     ·intro b hb;rcases Zk.mp hb with rfl | hb
      ·exact .inl Zx
      ·exact .inl (Zw _ (q5.subset hb))
    |succ n=>cases N
   |_=>cases N
def u9{X:Cx}{pos:Pos}(J:jJ G)(C:xa w X.A)(F:LM G X o i way)(L:PV G X b l)(he:PX G X e x)(N:∀v,assign (.Subscript o b d) X.env v=(do
   let j ← holding [v] (eval o X.env)
   let iv ← holding [v,j] (eval b X.env)
   standAt d
   holding [v,j,iv] (setItem j iv v)
   release [v,j,iv] []))(z:swapsWithSole [.Subscript o b d] e pos.line X.env=pure false)(hw:swappedStores [.Subscript o b d] e X.env=pure Y)(P:(assignEach [.Subscript o b d] X.env).map (·.2)=[assign (.Subscript o b d) X.env]):PSV G X (.Assign [.Subscript o b d] e pos) (jM i way l x) :=
 PS.weak (qk he (p8 F L (yx (kU C)) N) z hw P) λD O H E=>by
  obtain⟨R,U,out,s,e,k⟩:=E;unfold jM at e;obtain⟨⟨v,U'⟩,e1,e2⟩:=Zz.mp e;split at e2
  ·rename_i M;refine⟨R,U,v,U',s,e1,M,λu H' R' q f r=>?_⟩;unfold eV at e2;obtain⟨⟨mv,tv⟩,ev,e2⟩:=Zz.mp e2;cases ev;split at e2
   ·rename_i t y;obtain⟨ks,Q,e2⟩:=Zz.mp e2;obtain⟨⟨mk,tk⟩,LY,e2⟩:=Zz.mp e2;obtain⟨⟨t',y'⟩,e5,S⟩:=Zv.mp e2;cases S;exact AF J q y Q LY e5 (aG.refl H') r (mv:=.fr) ⟨Y1,λa h=>nomatch h⟩ λR2 H2 p n=>k _ O H2 p (f.trans n)
   ·cases e2
  ·cases e2
end
end VS
end
section
namespace L2
open PySem PySem.Spec PyProof.Rows
def ue:dn X (.type "dict") (λf H Q=>∃(d:KM)(a:List (Key×V)),f=[.ref d]/\H d=Z (.dK a)/\∀l,H l=Y->Q (.ref l) (upd H l (.dK a))):=by
 intro g s O H f v Q I j h;obtain⟨d,a,rfl,hd,q⟩:=h;obtain⟨u,rfl,m⟩:=j.one;cases m;obtain⟨i,p,t,rel,n⟩:=lY I.xb hd;refine PySem.kt_call_dict p n (by rw[← XR rel];exact i) λw r sb=>?_;exact⟨.ref s.heap.objs.size,_,I.laid (t':=s.toks) (λb o e=>(sb.2 b (Zc (ZR e))).trans (Zj _ e)) (Zo _) (ny i (ZE.mpr (Ye (Zc I.big))) rel r),rfl,q _ (I.xb.fresh (Zo _))⟩
end L2
namespace VS
open PySem PySem.Spec PyProof.Rows L2
def lH:V6->V7
 |[(_,.dct 0 l)]=>if fE (l.map (·.2))=B then Z (.fr,.dct 0 l) else Y
 |_=>Y
section
def Al:d4 G (λs H Q=>∃(d:KM)(n:List (Key×V)),s=[.ref d]/\H d=Z (.dK n)/\∀l,H l=Y->Q (.ref l) (upd H l (.dK n))) lH:=by
 intro R U M H l u D m t Q A e k;unfold lH at e;split at e
 ·rename_i L x;split at e
  ·rename_i j;cases e;obtain⟨v,F,rfl,rfl,r⟩:=(show RpL G H u [.dct 0 x] D from A.rp).one;obtain⟨a,ns,w,E,C,rfl,rfl,y,i,rfl,f⟩:=cH r;refine⟨a,_,rfl,y,λq h=>?_⟩;have g:aG H (upd H q (.dK (ns.zip w))):=bG h;rw[VU (by rw[Zy,i,f.len.1];exact Zo _)]at j;have z:=f.Iq j;refine k _ _ (q :: C.flatten) g (.dct aj i (f.same g)) ?_;rw[z];exact Fp.new (A.same.free h) (by simp) Fp.nil
  ·cases e
 ·cases e
def BR{X:Cx}(d:X.mg "dict" = Y)(g:Jj G X [e] cs)(f:Gl X "dict")(he:K1 e [] X):PV G X (.Call (.Name "dict" p) [e] [] pos) (eN lH cs) :=
 jE ue Al f d vI g (he:=he) (hpl:=rfl)
def EC{i d:Int}:PV G X (.Dict [Z (.Constant (.int i) j q)] [.Constant (.int d) h g] pos) (j7 0 [(Q3 i,Q3 d)]) :=
 PE.weak (vy (rH pV pV wj) M M (by simp) (by show 1<=15;decide)) λO H Q l=>by
  obtain⟨R,U,m,r,s,e,k⟩:=l;cases (show Z (Md.fr,T.dct 0 [(.int i,.int d)])=Z (m,r) from e);intro p f;refine⟨aj,[(Sum.inl i,.int d)],rfl,(by show 1<=15;decide),?_⟩;rw[BO];have:Rp G (upd H p (.dK [(Sum.inl i,V.int d)])) (.ref p) (.dct 0 ((([Sum.inl i]:List Key).map aw).zip [.int d])) (p :: ([[]]:X0).flatten) :=
   .dct (ks:=[Sum.inl i]) (vs:=[V.int d]) aj M (.cons (.int d) .nil)
  exact k _ _ _ (bG f) this ⟨by simp,λb hb=>by simp at hb;rw[hb];exact f⟩
def xj(x y:Val):V7:=match x.2 with
 |.dct 0 l=>if gr y.2 then Z (match cP l y.2 with | some t=>sub x.1 t | none=>(.fr,.non)) else none
 |_=>Y
def w_get{X:Cx}{apos:Pos}(M:xa kr X.A)(P:PV G X o ca)(he:PV G X e cb)(IT:XAB o "get" X.env (eval o X.env)=eval o X.env)(Jm:((backTo oe (Pv [e] X.env)).all (λx=>!x.1)&&(backToKw oe (SL [] X.env)).all (λx=>x.1.isSome)
   && decide (([e]:List Expr).length+([]:List Keyword).length+(if ([]:List Keyword).isEmpty then 0 else 1)<30))=B)(ID:(apos.endLine==oe.line)=B)(h:backTo oe (Pv [e] X.env)=[(J,eval e X.env)]):PV G X (.Call (.Attribute o "get" apos) [e] [] oe) (e2 xj ca cb) :=
 PE.weak (AJ (kU M) P he ⟨IT,Jm,ID,h⟩) λO H Q N=>by
  obtain⟨R,U,m,r,s,e,u⟩:=N;unfold e2 at e;obtain⟨⟨E,x⟩,ea,e⟩:=Zz.mp e;obtain⟨⟨D,y⟩,eb,e⟩:=Zz.mp e;unfold xj at e;split at e
  ·rename_i l w;dsimp only at w;subst w;split at e
   ·rename_i hk;have d:=Zl e;refine⟨R,U,E,_,s,ea,λv H1 F1 t r1 f1=>?_⟩;obtain⟨a,ks,vs,ts,Fs,rfl,rfl,j,S,rfl,q⟩:=cH r1;refine⟨a,rfl,.inl ⟨_,.inl j⟩,R,U,D,y,s.same t,eb,λv2 z F2 g r2 f2=>?_⟩;obtain⟨L,rfl,ek⟩:=c9 r2 hk;dsimp only at d;rw[ek]at d;rcases jG (k:=L) S (q.same g) with⟨h1,h2⟩ | ⟨i,v,C,F,a1,a2,a3,a4,n⟩
    ·rw[h1]at d;cases d;refine⟨_,ip.k (g a _ j),?_⟩;rw[h2];exact u .non z [] (t.trans g) .non Fp.nil
    ·rw[a1]at d;refine⟨_,ip.k (g a _ j),?_⟩;rw[a2];have f:=((f1.sub (Yc _ _)).sub (cV a4)).up n;unfold VS.sub at d;dsimp only at d;rw[d]at f;have et:C=r:=congrArg Prod.snd d;rw[et]at n;exact u v z F (t.trans g) n f
   ·cases e
  ·cases e
def j8(x y:Val):V7:=match x.2 with
 |.dct 3 l=>if gr y.2 then (cP l y.2).map (sub x.1) else Y
 |_=>Y
def n5(r:Rp G H v (.dct 3 l) F):∃(a:KM)(o:Obj)(f:List Key)(d:List V)(g:V8)(j:X0),v=.ref a/\F=j.flatten/\H a=Z (.frz o (.dK (f.zip d)))/\f.length=d.length/\l=(f.map aw).zip g/\RpL G H d g j:=by
 generalize i:T.dct 3 l=z at r;cases r with
 |dctZ h m q=>cases i;exact⟨_,_,_,_,_,_,rfl,rfl,h,m,rfl,q⟩
 |_=>cases i
def D7:gv G (Gh G.K) j8:=by
 intro R U H0 H x y u w F1 F2 m t Q d e k;obtain⟨P,x⟩:=x;unfold j8 at e;split at e
 ·rename_i l h;dsimp only at h;subst h;split at e
  ·rename_i r;obtain⟨O,e1,e2⟩:=Zv.mp e;obtain⟨a,o,S,L,M,Fs,rfl,rfl,s,n,rfl,q⟩:=n5 d.r1;obtain⟨g,rfl,A⟩:=c9 d.r2 r;rw[A]at e1;rcases jG (k:=g) n q with⟨z,_⟩ | ⟨i,v,N,F,E,D,a3,C,j⟩
   ·rw[z]at e1;cases e1
   ·rw[E]at e1;cases e1;cases e2;refine .inr ⟨a,v,rfl,.inl ⟨_,g,.inr ⟨o,s⟩,rfl,D.symm⟩,?_⟩;have f:=(d.f1.sub (cV C)).up j;exact k v H F (aG.refl _) j f
  ·cases e
 ·cases e
def vG{X:Cx}(f:xa kr X.A)(i:PV G X a ca)(g:PV G X b cb)(d:kj b:=by exact λ_ _=>rfl)(j:{`q7,X.K=G.K}):PV G X (.Subscript a b pos) (e2 j8 ca cb) :=
 PE.weak (vo (Ml.or qT (qB (kU f))) i g d) λO H Q h=>by rw[j];exact nB D7 h
end
def eNew(c:Nat)(g:Mt)(b:IQ):Ex:=λU=>(b U).bind λa=>if cO (trees a)=B then (g [] (trees a)).bind λz=>if dJ z.1=B/\OZ z.2=B then Z (.fr,.obj (c+1) ((0,.bl J) :: z.1)) else Y else Y
def eY(c:Nat)(g:Fn)(d:Ex)(b:IQ):Ex:=λU=>(d U).bind λx=>match x.2 with
 |.obj e (_ :: _)=>if e=c+1 then (b U).bind λa=>(g (x.2 :: trees a)).bind λr=>match r.1 with
  |.fr=>Z r
  |_=>Y else Y
 |_=>Y
theorem AI{α:Type}:∀(l:List α)(a:X0),JI (l.map λ_=>J) a=[]
 |[],_=>by simp[JI]
 |_ :: _,[]=>by simp[JI]
 |_ :: l,F :: a=>by
  rw[Zn,JI,Zm Zf,Yg];exact AI l a
theorem xZ:∀(e:List Bool)(d:X0),∀a∈Mc e d,a∈d.flatten
 |[],_,a,h=>by simp[Mc]at h
 |_ :: _,[],a,h=>by simp[Mc]at h
 |b :: bs,F :: d,a,h=>by
  rw[Mc]at h;rw[ZK];rcases Zd.mp h with h | h
  ·cases b with
   |true=>simp at h
   |false=>exact Yn _ (by simpa using h)
  ·exact ZP _ (xZ bs d a h)
section
def CL{G:Gx}(r:Rp G H u t F)(h:OZ t=B):u=.non:=by
 cases r with
 |non=>rfl
 |_=>cases h
def x8{X:Cx}{t:TA}(F:∀n,FnOk X.prog X.w X.K X.mg X.base Jh k f fd ps (L9 G c (List.replicate n J) g)->True)(ht:∀R U d O H (Rq:List V->Hp->Prop),SR G R U O H->cs U=Z d->(∀vs j Fs,aG H j->RpL G j vs (trees d) Fs->M5 R U H d Fs->Rq vs j)->t O H Rq)(n:Nat)(hn:∀U d,cs U=Z d->d.length=n)(hq:tE G (eNew c g cs) O H Q):Ap (G.ct (c+1)).1 (L9 G c (List.replicate n J) g) [] E t O H Q:=by
 obtain⟨R,U,mo,r,s,e,kq⟩:=hq;unfold eNew at e;obtain⟨d,el,e1⟩:=Zz.mp e;split at e1
 ·rename_i QC;obtain⟨⟨J5,y⟩,eg,e2⟩:=Zz.mp e1;split at e2
  ·rename_i hc;cases e2;have lx:=hn U d el;refine ht R U d O H _ s el λvs H1 Gs P UH RT a C L D ne=>?_;have l:H a=Y:=P.free L;have S:aG H1 (upd (upd H1 C (.own a)) a (.ins (G.ct (c+1)).1 C [])):=λb A q=>by
    rw[ar (λz=>by rw[z,L]at q;cases q),ar (λz=>by rw[z,D]at q;cases q)];exact q
   have em:List.replicate n J=(List.range n).map λ_=>J:=by rw[List.map_const',Z0]
   have N:JI (List.replicate n J) Gs=[]:=by rw[em];exact AI _ _
   have fresh:∀b,(upd (upd H1 C (.own a)) a (.ins (G.ct (c+1)).1 C [])) b=Y->H b=Y:=λb z=>P.free (S.free z);refine⟨a,vs,[],trees d,[a],Gs,J5,y,by rw[ZM],.ins (ks:=[]) (vs:=[]) (ts:=[]) (Fs:=[]) aj M (λ_=>rfl) .nil,(UH.same S).at (KZ a) QC,?_,?_,?_,eg,λu j F' v ru=>⟨CL ru hc.2,?_⟩⟩
   ·simp[trees,lx]
   ·rw[N];simp
   ·rw[N];intro b hb JD;have:b=a:=by simpa using hb
    subst this;exact Ip.p0 (UH.IE b (xZ _ _ b JD)) L
   ·rw[N,ZM]at v;have back:Rp G j (.ref a) (.obj (c+1) ((0,.bl J) :: J5)) F':=by
     obtain⟨c2,a2,dx2,b2,RA,OP,Rl,R5,OF,QL,Ul,Uk,QN,Pd,Jp,Nu,LS⟩:=dP v.rp;cases OF;cases QL;subst Uk;rw[QN];exact .ins Pd Jp (λz=>nomatch z) (LS.at G.me (d9 (Jp.trans LS.len.1) hc.1))
    refine kq (.ref a) j F' (λb A q=>v.keep b A (λz=>?_) (S b A (P b A q))) back ⟨v.nd,λb hb=>?_⟩
    ·have:b=a:=by simpa using z
     rw[this,l]at q;cases q
    ·rcases v.sub b hb with z | z
     ·have:b=a:=by simpa using z
      rw[this];exact l
     ·exact fresh b z
  ·cases e2
 ·cases e1
def GO{G:Gx}{X:Cx}(n:Nat)(M:Mk X.K (G.ct (c+1)).1 f)(F:FnOk X.prog X.w X.K X.mg X.base Jh k f fd ps (L9 G c (List.replicate n J) g))(d:xa k' X.A)(q:k+1<=k')(r:Gl X x)(l:X.mg x=Z (.ref (G.ct (c+1)).1))(u:Binds X.K fd ps [])(v:Jj G X (e :: es) cs)(j:∀U a,cs U=Z a->a.length=n)(y:K3 x)(he:K1 e es X)(b:K2 pos es X):PV G X (.Call (.Name x p) (e :: es) [] pos) (eNew c g cs) :=
 PE.weak (CW (E:=E0) M F (d.mono q) r l u .nil ma v y he b) λO H Q h=>x8 (X:=X) (k:=k) (f:=f) (fd:=fd) (ps:=ps) (t:=N7 G cs) (λ_ _=>True.intro) (λR U a O H Rq s e k=>⟨R,U,a,s,e,k⟩) n j h
def EV{G:Gx}{X:Cx}(M:Mk X.K (G.ct (c+1)).1 f)(F:FnOk X.prog X.w X.K X.mg X.base Jh k f fd ps (L9 G c [] g))(b:xa k' X.A)(j:k+1<=k')(l:Gl X x)(d:X.mg x=Z (.ref (G.ct (c+1)).1))(n:Binds X.K fd ps [])(q:K3 x):PV G X (.Call (.Name x p) [] [] pos) (eNew c g ag) :=
 PE.weak (Av (E:=E0) M F (b.mono j) l d n .nil ma q) λO H Q h=>x8 (X:=X) (k:=k) (f:=f) (fd:=fd) (ps:=ps) (t:=xr) (λ_ _=>True.intro) (λR U a O H Rq s e k=>by
  cases (show Z ([]:V6)=Z a from e);exact k [] H [] (aG.refl _) .nil ⟨λi v F h=>by simp at h,by simp[JE]⟩) 0 (λU a e=>by
  cases (show Z ([]:V6)=Z a from e);rfl) h
theorem vU{g:Nat->Str}(b:∀k,g k≠m):∀(ns:V2)(a:List V),((ns.map g).zip a).lookup m=Y
 |[],a=>by simp
 |_ :: _,[]=>by simp
 |n :: ns,v :: a=>by
  rw[Zn,ZU,YY];have:(m==g n)=J:=by
   rw[ZE];exact λz=>b n z.symm
  rw[this];exact vU b ns a
def vH{G:Gx}{t:TA}(hn:∀k,(G.ct (c+1)).2 k≠m)(P:∀R U d O H (Rq:List V->Hp->Prop),SR G R U O H->cs U=Z d->(∀l j A,aG H j->RpL G j l (trees d) A->M5 R U H d A->Rq l j)->t O H Rq)(S:tE G (eY c h ca cs) O H Q):vz (G.ct (c+1)).1 m (KY G h) [] E (tE G ca) t O H Q:=by
 obtain⟨R,U,mo,r,s,e,N⟩:=S;unfold eY at e;obtain⟨⟨M,y⟩,ea,e1⟩:=Zz.mp e;split at e1
 ·rename_i c' q0 fs C;dsimp only at C;subst C;split at e1
  ·rename_i hc;subst hc;obtain⟨d,el,e2⟩:=Zz.mp e1;obtain⟨⟨n,L⟩,eg,q⟩:=Zz.mp e2;refine⟨R,U,M,_,s,ea,λv H1 F1 w r1 f1=>?_⟩;obtain⟨c2,a,dx,b,ns,l,ts,A,ec,rfl,eb,ef,eF,hA,hl,hb,ra⟩:=dP r1;cases ec;refine⟨a,dx,_,rfl,hA,vU hn _ _,P R U d O H1 _ (s.same w) el λus H2 Gs z OS OD=>?_⟩;rw[ZM];refine⟨_ :: trees d,F1 :: Gs,n,L,.cons (r1.same z) OS,eg,λu j F' Kq F D=>?_⟩;cases n with
   |fr =>
    cases q;exact N u j F' ((w.trans z).trans Kq) F ⟨D.1,λb hb=>w.free (z.free (D.2 b hb))⟩
   |pu=>cases q
   |bo=>cases q
  ·cases e1
 ·cases e1
def Ey{G:Gx}(u:∀k,(G.ct (c+1)).2 k≠m)(r:PV G X o ca)(z:JY X.K (G.ct (c+1)).1)(v:Meth X.K (G.ct (c+1)).1 m f)(F:FnOk X.prog X.w X.K X.mg X.base Jh k f fd ps (KY G h))(n:xa k' X.A)(y:k<=k')(C:Binds X.K fd ps [])(D:Jj G X (e :: es) cs)(L:K1 e es X)(a:K2 pos es X)(l:eval (.Call (.Attribute o m apos) (e :: es) [] pos) X.env=(do
   let b ← eval o X.env
   standAt apos.atName
   let (f,first) ← holding [b] (getMethod b m j)
   callWith pos f first (backTo pos (Pv (e :: es) X.env)) (backToKw pos (SL [] X.env)))):PV G X (.Call (.Attribute o m apos) (e :: es) [] pos) (eY c h ca cs) :=
 PE.weak (qi (E:=E0) r z v F (n.mono y) C .nil ma D L a l) λO H Q q=>vH (t:=N7 G cs) u (λR U d O H Rq s e k=>⟨R,U,d,s,e,k⟩) q
def Cp{G:Gx}(r:∀k,(G.ct (c+1)).2 k≠m)(n:PV G X o ca)(z:JY X.K (G.ct (c+1)).1)(u:Meth X.K (G.ct (c+1)).1 m f)(F:FnOk X.prog X.w X.K X.mg X.base Jh k f fd ps (KY G h))(l:xa k' X.A)(y:k<=k')(C:Binds X.K fd ps [])(j:eval (.Call (.Attribute o m apos) [] [] pos) X.env=(do
   let a ← eval o X.env
   standAt apos.atName
   let (f,first) ← holding [a] (getMethod a m d)
   callWith pos f first (backTo pos (Pv [] X.env)) (backToKw pos (SL [] X.env)))):PV G X (.Call (.Attribute o m apos) [] [] pos) (eY c h ca ag) :=
 PE.weak (sN (E:=E0) n z u F (l.mono y) C .nil ma j) λO H Q q=>vH (t:=xr) r (λR U b O H Rq s e k=>by
  cases (show Z ([]:V6)=Z b from e);exact k [] H [] (aG.refl _) .nil ⟨λi v F h=>by simp at h,by simp[JE]⟩) q
end
def nM(i:Nat)(a:List Lm)(j:Nat)(U:VS.Env):Option Out:=match (U[i]?:Option (V5)),(U[j]?:Option (V5)) with
 |some (some (.ow t)),some (some (.ow u))=>if i≠j then (keys a U).bind λb=>(pm (λx=>aC x [(.fr,u)]) b t).map λz=>.nx ((U.set j Y).set i (Z (.ow z.1))) else Y
 |_,_=>Y
open Classical in
noncomputable def less(H:Hp)(F:Wa):Hp:=λb=>if b∈F then Y else H b
section
def rg(h:b∈F):less H F b=Y:=Zr h
def ij(h:b∉F):less H F b=H b:=Zm h
def g8{o:HO}(h:less H F b=Z o):H b=Z o/\b∉F:=by
 by_cases q:b∈F
 ·rw[rg q]at h;cases h
 ·rw[ij q]at h;exact⟨h,q⟩
def wJ(h:∀b∈F,Ip (H b)):Kept H (less H F) :=
 ⟨λb a e=>by
  rw[ij (λz=>by have:=h b z;rw[e]at this;exact this)];exact e,λb o u e=>by
  rw[ij (λz=>by have:=h b z;rw[e]at this;exact this)];exact e⟩
def CU{apos pos:Pos}(J:jJ G)(ho:LM G X o i way)(hK:X.K=G.K)(hN:X.N[j]?=Z y)(hv:Kp X.env.scope y)(hd:K3 y)(hcd:K4 y)(IT:XAB o "append" X.env (eval o X.env)=eval o X.env)(Jm:((backTo oe (Pv [.Name y p1] X.env)).all (λx=>!x.1)&&(backToKw oe (SL [] X.env)).all (λx=>x.1.isSome)
   && decide ([Expr.Name y p1].length+([]:List Keyword).length+(if ([]:List Keyword).isEmpty then 0 else 1)<30))=B)(ID:(apos.endLine==oe.line)=B)(hs:Pv [.Name y p1] X.env=(false,eval (.Name y p1) X.env) :: Pv [] X.env)(IC:(backTo oe (Pv [] X.env)).any (·.1)=false)(Lf:swapsWith (.Call (.Attribute o "append" apos) [.Name y p1] [] oe) Y pos.line X.env=pure false) :
  PSV G X (.Expr (.Call (.Attribute o "append" apos) [.Name y p1] [] oe) pos) (nM i way j) :=
 PS.weak (jD (pK X1 XF XG h9 ho (dC (fC hN hv hd hcd) gg hs) IT Jm ID hs IC) Lf) λD O H hq=>by
  obtain⟨R,U,out,s,e,k⟩:=hq;unfold nM at e;split at e
  ·rename_i t u ht F;split at e
   ·rename_i LF;obtain⟨r,ek,e3⟩:=Zz.mp e;obtain⟨⟨Q,x2⟩,e5,e6⟩:=Zv.mp e3;cases e6;obtain⟨P,j1,j2⟩:=s.rp _ _ F;have U5:Rp G H P u (R j):=j2;have ndj:=s.nd j u F;have mj:∀b∈R j,Ip (H b):=U5.IE;have kp:=wJ mj;have Se:∀f E,f≠j->U[f]?=Z (Z E)->∀b∈R f,b∉R j:=λf E n h b hb JD=>s.sep j f u E F h (Ye n) b JD hb;have s0:SR G R (U.set j Y) O (less H (R j)):=⟨(s.drop j).len,λf E h=>by
     obtain⟨n,h'⟩:=cN h;obtain⟨v,h1,h2⟩:=s.rp f E h';exact⟨v,h1,h2.keep kp λb hb d O8=>by rw[ij (Se f E n h' b hb)];exact O8⟩,(s.drop j).nd,(s.drop j).sep⟩
    have S9:(U.set j Y)[i]?=Z (Z (.ow t)):=by
     rw[Y4 (Ye LF)];exact ht
    obtain⟨v,h1,h2⟩:=s0.rp _ _ S9;obtain⟨w,x,F1,x3,w1,w2,w3,M,w5⟩:=nQ r J h2 (s0.nd i t S9) e5;unfold aC at M;split at M
    ·rename_i l yv heq;cases heq;obtain⟨z,ez,e7⟩:=Zz.mp M;cases (show Z u=Z z from ez);split at e7
     ·rename_i hl;cases e7;obtain⟨a,us,Gs,rfl,rfl,ha,ra⟩:=w2.lst_inv;obtain⟨TN,WU⟩:=g8 ha;have w1':J6 G H r v (.ref a):=by
       have:∀{r:List Ky}{v w:V},J6 G (less H (R j)) r v w->J6 G H r v w:=by
        intro r v w p
        induction p with
        |nil v=>exact .nil v
        |fld h l _ A=>exact .fld (g8 h).1 l A
        |ix h l m _ A=>exact .ix (g8 h).1 l m A
        |key h l _ A=>exact .key (g8 h).1 l A
        |un _ A=>exact .un A
       exact this w1
      refine⟨R,U,t,r,v,.ref a,s,ht,h1,ek,w1',λH0 C=>⟨.inl ⟨rfl,us,by rw[hK];exact Iw.of (C a _ TN)⟩,P,j1,a,us,P,rfl,rfl,C a _ TN,by rw[ra.len.1];exact hl,?_⟩⟩;have S:Ip (H0 a):=by rw[C a _ TN];exact True.intro
      have PZ:=ZY.mp w3;have Sv:∀b∈Gs.flatten,b∉R j:=λb hb JD=>by
       have:=ra.IE b hb;rw[rg JD]at this;exact this
      have L:∀b d,less H (R j) b=Z d->H0 b=Z d:=λb d h=>C b d (g8 h).1;have kl:Kept (less H (R j)) H0:=⟨λb xs h=>L b _ h,λb d u h=>L b _ h⟩
      have g:Chg G (less H (R j)) (.ref a) (a :: Gs.flatten) (.lst (l++[u])) (upd H0 a (.lst (us++[P]))) (a :: (Gs++[R j]).flatten):=by
       refine⟨kl.trans (Kept.upd (.inl S)),λb d hb h=>by rw[ar (λz=>hb (by rw[z];exact Zx))];exact L b d h,λb h z=>?_,.lst aj ((RpL.off (ra.keep kl λb hb d h=>L b d h) S PZ.1).append (.cons (((U5.same C)).keep (Kept.upd (.inl S)) λb hb d ho=>by rw[ar (λz=>WU (by rw[← z];exact hb))];exact ho) .nil)),?_,λb hb=>?_⟩
       ·by_cases q:b=a
        ·rw[q,aj]at z;cases z
        ·rw[ar q]at z;cases e:less H (R j) b with
         |none=>exact h e
         |some d=>rw[L b d e]at z;cases z
       ·rw[Ys];refine ZY.mpr ⟨λm=>?_,ZL.mpr ⟨PZ.2,by simpa using ndj,λb hb c hc z=>?_⟩⟩
        ·rcases Zd.mp m with m | m
         ·exact PZ.1 m
         ·exact WU (by simpa using m)
        ·subst z;exact Sv b hb (by simpa using hc)
       ·rcases Zk.mp hb with rfl | hb
        ·exact .inl Zx
        ·rw[Ys]at hb;rcases Zd.mp hb with hb | hb
         ·exact .inl (Zw _ hb)
         ·exact .inr (rg (by simpa using hb))
      obtain⟨F2,g2⟩:=w5 _ _ g;obtain⟨z1,z2⟩:=s0.mut S9 h1 g2;have back:∀b,less H (R j) b=Y->bX R U b\/H b=Y:=λb h=>by
       by_cases q:b∈R j
       ·exact .inl ⟨j,u,F,q⟩
       ·rw[ij q]at h;exact .inr h
      have Mf:∀b,bX R (U.set j Y) b->bX R U b:=λb ⟨j',Q,q1,q2⟩=>⟨j',Q,(cN q1).2,q2⟩
      have pu0:∀b,dM R (U.set j Y) b->dM R U b:=λb ⟨j',Q,q1,q2⟩=>⟨j',Q,(cN q1).2,q2⟩
      refine k _ O _ z1 ⟨λb d h n=>?_,λb h z=>?_,λb h=>?_,λb h=>?_,(Kept.of C).trans (Kept.upd (.inl S))⟩
      ·have nj:b∉R j:=λz=>n ⟨j,u,F,z⟩;exact z2.keep b d (by rw[ij nj];exact h) λz=>n (Mf b z)
      ·by_cases q:b=a
       ·rw[q,aj]at z;cases z
       ·rw[ar q]at z;exact h (C.free z)
      ·rcases z2.ow b h with h | h
       ·exact .inl (Mf b h)
       ·exact back b h
      ·rcases z2.pu b h with h | h | h
       ·exact .inl (pu0 b h)
       ·exact .inr (.inl (Mf b h))
       ·exact(back b h).elim (λz=>.inr (.inl z)) λz=>.inr (.inr z)
     ·cases e7
    ·cases M
   ·cases e
  ·cases e
end
end VS
end
section
namespace VS
open PySem PySem.Spec PyProof.Rows L2
noncomputable def isInt:T->Bool
 |.int _=>B
 |_=>J
def km(i:Nat):Ju:=λU=>match (U[i]?:Option (V5)) with
 |some (some (.pu (.dct 3 l)))=>if (l.all λp=>isInt p.1)=B then Z (.fr,l.map (·.1)) else Y
 |_=>Y
def yV(i:Nat)(a:Tg)(b:Ex):Sx:=λU=>match (U[i]?:Option (V5)) with
 |some (some (.ow (.dct 0 l)))=>(dy 1 a (km i) Y b (U.set i (Z (.pu (.dct 3 l))))).bind λv=>match v.1 with
  |.fr=>Z (.rt v (U.set i Y))
  |_=>Y
 |_=>Y
theorem zip_inj{α β:Type}:∀{a c:List α}{b d:List β},a.length=b.length->c.length=d.length->a.zip b=c.zip d->a=c
 |[],[],_,_,_,_,_=>rfl
 |[],_ :: _,_,[],_,h,_=>by simp at h
 |[],_ :: _,[],_ :: _,_,_,h=>by simp at h
 |[],_ :: _,_ :: _,_ :: _,h,_,_=>by simp at h
 |_ :: _,_,[],_,h,_,_=>by simp at h
 |_ :: _,[],_ :: _,[],_,_,h=>by simp at h
 |_ :: _,[],_ :: _,_ :: _,_,h,_=>by simp at h
 |_ :: _,_ :: _,_ :: _,[],_,h,_=>by simp at h
 |x :: a,y :: c,z :: b,w :: d,f,e,h=>by
  rw[ZU,ZU]at h;obtain⟨e1,e2⟩:=List.cons.inj h;rw[zip_inj (by simpa using f) (by simpa using e) e2,(WR e1).1]
section
def DZ{X:Cx}(i:Nat)(N:List Str)(IW:X.calm=B)(hN:X.N[i]?=Z x)(hv:Kp X.env.scope x)(hd:K3 x)(hcd:K4 x)(Ku:wD 1 g)(hg:∀cl C s H fp,M3 G (cq X N sc cl C s H fp) tg g)(he:∀cl C s H fp,PV G (cq X N sc cl C s H fp) elt ce)(K5:oR X.env sc=B)(LD:lA sc (N.drop 1) X.N=B)(LI:1<=N.length)(hs:∀y,XAC (.Name x p1) X.env y=pure y) :
  PSV G X (.Return (Z (.ListComp elt [⟨tg,.Name x p1,[],0⟩] sc pos)) pos') (yV i g ce) :=
 PS.weak (qh (pU IW (C3 (fC hN hv hd hcd)) K5 LD LI (λcl C s H fp=>⟨hg cl C s H fp,nA,he cl C s H fp⟩) hs)) λD O H hq=>by
  obtain⟨R,U,out,s,e,k⟩:=hq;unfold yV at e;split at e
  ·rename_i l E;obtain⟨⟨mv,tv⟩,ev,e1⟩:=Zz.mp e;have NV:mv=.fr/\out=.rt (.fr,tv) (U.set i Y):=by
    cases mv with
    |fr=>cases e1;exact⟨rfl,rfl⟩
    |pu=>cases e1
    |bo=>cases e1
   obtain⟨rfl,rfl⟩:=NV;obtain⟨v,g1,g2⟩:=s.rp _ _ E;obtain⟨a,ns,d,S,Q,rfl,eF,ha,JT,rfl,ra⟩:=cH g2;have Jl:i<U.length:=(Zb.mp E).1;have nd:=s.nd i _ E;rw[eF]at nd;have Jx:=ZY.mp nd;refine⟨.ref a,g1,a,ns.zip d,rfl,ha,λo=>?_⟩;have mu:Ip (H a):=by rw[ha];exact True.intro
   have kp:Kept H (upd H a (.frz o (.dK (ns.zip d)))):=Kept.upd (.inl mu);have es:O.set i (Z (.ref a))=O:=by
    obtain⟨h,e⟩:=Zb.mp g1;rw[← e];exact Wu h
   have aΦ:a∈R i:=by rw[eF];exact Zx
   have sub:∀b∈Q.flatten,b∈R i:=λb hb=>by rw[eF];exact Zw _ hb
   have s1:SR G (iX R i Q.flatten) (U.set i (Z (.pu (.dct 3 ((ns.map aw).zip S))))) O (upd H a (.frz o (.dK (ns.zip d)))):=by
    have:=s.put (c:=.pu (.dct 3 ((ns.map aw).zip S))) (v:=.ref a) (F:=Q.flatten) (H':=upd H a (.frz o (.dK (ns.zip d)))) Jl (.dctZ aj JT (ra.off mu Jx.1)) (λj c' n hj w q=>q.keep kp λb hb ob ho=>by
     rw[ar (λz=>s.sep i j _ c' E hj (Ye n) a aΦ (by rw[← z];exact hb))];exact ho) (λ_ z=>nomatch z) (λ_ z=>nomatch z) λj u n hj b hb JD=>s.sep j i u _ hj E n b hb (sub b JD)
    rw[es]at this;exact this
   have hT:tE G (dy 1 g (km i) Y ce) O (upd H a (.frz o (.dK (ns.zip d)))) D.rt:=by
    refine⟨_,_,.fr,tv,s1,ev,λu H' F P r f=>?_⟩;have ee:(U.set i (Z (.pu (.dct 3 ((ns.map aw).zip S))))).set i Y=U.set i Y:=by rw[List.set_set]
    have sd:=(s1.drop i).same P;rw[ee]at sd;have Mf:∀b,bX (iX R i Q.flatten) (U.set i Y) b->bX R U b:=λb ⟨j,t,A,m⟩=>by
     obtain⟨n,Sj⟩:=cN A;rw[dD n]at m;exact⟨j,t,Sj,m⟩
    refine k u H' F _ O sd ⟨λb ob h n=>?_,λb h z=>?_,λb h=>.inl (Mf b h),λb ⟨j,t,A,m⟩=>?_,kp.trans (Kept.of P)⟩ r ⟨f.1,λb hb=>.inl ?_⟩
    ·have nb:b≠a:=λz=>n ⟨i,_,E,by rw[z];exact aΦ⟩;exact⟨P b ob (by rw[ar nb];exact h),λz=>n (Mf b z)⟩
    ·have M:=P.free z;by_cases q:b=a
     ·rw[q,aj]at M;cases M
     ·rw[ar q]at M;exact h M
    ·obtain⟨n,Sj⟩:=cN A;rw[dD n]at m;exact .inl ⟨j,t,Sj,m⟩
    ·have:=f.2 b hb;by_cases q:b=a
     ·rw[q,aj]at this;cases this
     ·rw[ar q]at this;exact this
   obtain⟨R2,U2,m2,l2,s2,e2,k2⟩:=mW (cond:=Y) Ku hT;refine k2 (R0 a o (ns.zip d)) _ [] (aG.refl _) ?_ (λb hb=>nomatch hb);unfold km at e2;split at e2
   ·rename_i l3 h3;split at e2
    ·rename_i hint;cases e2;obtain⟨v3,A,m⟩:=s2.rp _ _ h3;rw[g1]at A;cases A;obtain⟨a3,o3,SX,Rj,OR,Fs3,QK,_,Kd,JU,rfl,LS⟩:=n5 m;cases QK;rw[aj]at Kd;have hz:ns.zip d=SX.zip Rj:=HO.dK.inj (HO.frz.inj (Zl Kd)).2;have ek:=zip_inj JT JU hz;subst ek;have em:((ns.map aw).zip OR).map (·.1)=ns.map aw:=Xs (by rw[Zy,JU,LS.len.1];exact Zo _);have zl:(ns.zip d).length=ns.length:=by rw[Z1,JT,Nat.min_self]
     refine⟨λH2 Iu _=>⟨λn t L=>?_,λn L=>?_⟩,λb hb=>nomatch hb⟩
     ·rw[em,ZV]at L;obtain⟨kk,LX,Lg⟩:=Zv.mp L;have Qs:=(Zb.mp LX).1;refine⟨⟨Iu.frz _ _ _ aj,by rw[zl];exact Qs⟩,λy H3 hy=>?_⟩;obtain⟨rfl,p,hp,rfl⟩:=hy;refine⟨aG.refl _,[],?_,λb hb=>nomatch hb⟩;have O5:p.1=kk:=by
       have Ly:(ns.zip d)[n]?=Z p:=hp;rw[Yi]at Ly;rw[LX]at Ly;exact(Zl Ly.1).symm
      have hi:isInt t=B:=by
       have:=Yq.mp hint (t,OR[n]'(by rw[← LS.len.1,← JU];exact Qs)) (by
        refine YJ (i:=n) ?_;rw[Yi];exact⟨by rw[ZV,LX];exact congrArg Z Lg,Zp _⟩)
       exact this
      rw[O5,← Lg];rw[← Lg]at hi;cases kk with
      |inl n=>exact .int n
      |inr z=>cases hi
     ·refine⟨Iu.frz _ _ _ aj,?_⟩;rw[em,Zy]at L;rw[zl];exact L
    ·cases e2
   ·cases e2
  ·cases e
end
noncomputable def Et(c:Nat):Option (V5)->Bool
 |some (some (.ow (.obj a (_ :: _))))=>a==c+1
 |_=>J
def o6(i c:Nat)(b:List Bool)(g:Mt)(x:Xx)(d:IQ)(U:VS.Env):Option (Val×VS.Env):=if Et c (U[i]?:Option (V5))=B then (x U).bind λz=>if Iq z.1.2=B then (match (z.2[i]?:Option (V5)) with
 |some (some (.ow t))=>(d z.2).bind λa=>(mf c b g ((.fr,z.1.2) :: a) t).map λr=>(r.2,z.2.set i (Z (.ow r.1)))
 |_=>Y) else Y else Y
section
def CG{G:Gx}{X:Cx}(hn:∀k,(G.ct (c+1)).2 k≠m)(hN:X.N[i]?=Z y)(hv:Kp X.env.scope y)(hd:K3 y)(hcd:K4 y)(hc:JY X.K (G.ct (c+1)).1)(hm:Meth X.K (G.ct (c+1)).1 m f)(F:FnOk X.prog X.w X.K X.mg X.base Jh k f fd ps (L9 G c mv g))(hr:xa k' X.A)(hk:k<=k')(hb:Binds X.K fd ps [])(h1:PX G X e x)(ha:Jj G X es cs)(Ki:K1 e es X)(hpl:K2 pos es X)(ht:eval (.Call (.Attribute (.Name y p1) m apos) (e :: es) [] pos) X.env=(do
   let ov ← eval (.Name y p1) X.env
   standAt apos.atName
   let (f,first) ← holding [ov] (getMethod ov m pl)
   callWith pos f first (backTo pos (Pv (e :: es) X.env)) (backToKw pos (SL [] X.env)))):PX G X (.Call (.Attribute (.Name y p1) m apos) (e :: es) [] pos) (o6 i c mv g x cs) :=
 PE.weak (qi (E:=E0) (fC hN hv hd hcd) hc hm F (hr.mono hk) hb .nil ma (dC h1 ha Ki) Ki hpl ht) λO H Q h=>by
  obtain⟨R,U,v,U',s,e,him,kq⟩:=h;unfold o6 at e;split at e
  ·rename_i L;obtain⟨⟨D,U1⟩,e1,e2⟩:=Zz.mp e;split at e2
   ·rename_i Tt;unfold Et at L;split at L
    ·rename_i c0 q0 TZ h0;have ec0:c0=c+1:=by simpa using L
     subst ec0;obtain⟨v0,g1,g2⟩:=s.rp _ _ h0;have NX:Rp G H v0 (.obj (c+1) (q0 :: TZ)) (R i):=g2;obtain⟨c',a,dx,b,ns,j,ts,Fs,ec,rfl,eb,ef,eF,hA,hl,WT,ra⟩:=dP NX;cases ec;have key:∀(ns:V2)(j:List V),((ns.map (G.ct (c+1)).2).zip j).lookup m=Y:=by
      intro ns
      induction ns with
      |nil=>intro j;simp
      |cons n ns ih =>
       intro j;cases j with
       |nil=>simp
       |cons v j =>
        rw[Zn,ZU,YY];have:(m==(G.ct (c+1)).2 n)=J:=by
         rw[ZE];exact λz=>hn n z.symm
        rw[this];exact ih j
     refine⟨.ref a,g1,a,dx,_,rfl,hA,key _ _,R,U,D,U1,s,e1,Tt,λu1 H1 t s1 f1 r1=>?_⟩;dsimp only at e2;split at e2
     ·rename_i t1 S8;obtain⟨q,el,e3⟩:=Zz.mp e2;obtain⟨⟨x3,y3⟩,o,e4⟩:=Zv.mp e3;cases e4;obtain⟨va,q1,w2⟩:=s1.rp _ _ S8;rw[g1]at q1;cases q1;have w3:=s1.nd i t1 S8;refine⟨t,U1,q,s1,el,λus H2 P l OS OD=>?_⟩;show L9 G c mv g (V.ref a :: ((u1 :: us)++[])) H2 Q E0;rw[ZM];unfold mf at o;split at o
      ·rename_i c1 d fs;split at o
       ·rename_i RM;obtain⟨rfl,MK,M,QC⟩:=RM;obtain⟨⟨J5,z⟩,eg,e7⟩:=Zz.mp o;split at e7
        ·rename_i MJ;cases e7;have R9:Rp G H1 (.ref a) (.obj (c+1) ((0,.bl d) :: fs)) (t i):=w2;obtain⟨c2,a2,dx2,b2,RA,OP,Rl,R5,OF,QL,Ul,rfl,QN,Pd,Jp,Nu,Ru⟩:=dP R9;cases OF;cases QL;cases Ul;have Lp:RA.length=Rl.length:=Jp.trans Ru.len.1;have r:M5 t U1 H1 ((.fr,D.2) :: q) ([] :: P):=⟨λn v' S a1 a2=>by
          cases n with
          |zero=>cases a1;cases a2;exact Fp.nil
          |succ n=>exact OD.each n v' S (by simpa using a1) (by simpa using a2),by
          show ([]++JE q P).Nodup;exact OD.nd⟩
         have Od:=u7 M r;have UG:RpL G H2 (u1 :: us) (trees ((.fr,D.2) :: q)) ([] :: P):=.cons (r1.same l) OS;refine⟨a,u1 :: us,RA.zip Rl,trees ((.fr,D.2) :: q),t i,[] :: P,J5,z,rfl,?_,UG.at (KZ a) QC,?_,?_,?_,eg,λu H' S p ru=>?_⟩
         ·rw[QN];exact .ins (l a _ Pd) Jp (λ_=>rfl) ((Ru.same l).at (KZ a) (d9 Lp MK))
         ·rw[jY M];simp[trees]
         ·refine ZL.mpr ⟨w3,r.nd.sublist (oJ M),λd C b2 Nu z=>?_⟩;subst z;exact Ip.p0 (w2.IE d C) (Od d Nu)
         ·rw[p6 M UG];exact λd _ z=>nomatch z
         ·have back:Rp G H' (.ref a) (.obj (c+1) ((0,.bl d) :: J5)) S:=by
           obtain⟨c3,a3,dx3,b3,ns3,Rj,OR,Fs3,ec3,QK,eb3,ef3,eF3,hA3,JU,hb3,LS⟩:=dP p.rp;cases ec3;cases QK;subst ef3;rw[eF3];exact .ins hA3 JU Nu (LS.at G.me (d9 (JU.trans LS.len.1) MJ.1))
          have gG:Chg G H1 (.ref a) (t i) (.obj (c+1) ((0,.bl d) :: J5)) H' S:=⟨(Kept.of l).trans p.kept,λd o1 C ho=>p.keep d o1 (λz=>(Zd.mp z).elim C λz=>by rw[Od d z]at ho;cases ho) (l d o1 ho),λd h=>p.IE d λz=>h (l.free z),back,p.nd,λd C=>by
           rcases p.sub d C with z | z
           ·rcases Zd.mp z with z | z
            ·exact .inl z
            ·exact .inr (Od d z)
           ·exact .inr (l.free z)⟩
          obtain⟨z1,z2⟩:=s1.mut S8 g1 gG;exact kq u H' _ z1 (f1.trans z2) (ru.at G.me (oy z MJ.2))
        ·cases e7
       ·cases o
      ·cases o
     ·cases e2
    ·cases L
   ·cases e2
  ·cases e
end
noncomputable def NY(a:List Str)(k:Nat):Str:=match a[k]? with
 |some x=>x
 |none=>⟨#[k]⟩
def MX(a:List Str)(K:X6)(C D:KM):Gx:=⟨K,λc=>(if c=2 then D else C,NY a),λ_=>Y⟩
def B8{a:List Str}(i:a.Nodup)(h:∀x∈a,x.cps.size≠1)(k b:Nat)(e:NY a k=NY a b):k=b:=by
 unfold NY at e;by_cases f:k<a.length
 ·by_cases d:b<a.length
  ·rw[Zp f,Zp d]at e;exact(VT i).mp e
  ·rw[Zp f,Yv (Z7 d)]at e;have g:a[k]=(⟨#[b]⟩:Str):=e;exact absurd (by rw[g];rfl) (h _ (Yx f))
 ·by_cases d:b<a.length
  ·rw[Yv (Z7 f),Zp d]at e;have g:(⟨#[k]⟩:Str)=a[b]:=e;exact absurd (by rw[← g];rfl) (h _ (Yx d))
  ·rw[Yv (Z7 f),Yv (Z7 d)]at e;have g:(⟨#[k]⟩:Str)=⟨#[b]⟩:=e;cases g;rfl
def BD{a:List Str}{K:X6}(b:a.Nodup)(h:∀x∈a,x.cps.size≠1):jJ ((MX a K C D).at m):=λ_ k d e=>B8 b h k d e
def fW(h:x∉a)(d:x.cps.size≠1)(k:Nat):NY a k≠x:=λe=>by
 unfold NY at e;split at e
 ·rename_i y b;exact h (e ▸ YJ b)
 ·exact d (by rw[← e];rfl)
def wM{a:List Str}{K:X6}(b:a[k]?=Z f)(h:JY K C)(g:JY K D)(e:aT K C f)(d:aT K D f):JA ((MX a K C D).at m) K k f :=
 ⟨λc=>by show NY a k=f;unfold NY;rw[b],λc=>by show JY K (if c+1=2 then D else C);split<;>assumption,λc=>by show aT K (if c+1=2 then D else C) f;split<;>assumption⟩
structure MtAt(P:Re)(w:XAA)(K:X6)(mg:Wc)(base:UV)(k:Nat)(G:Gx)(c:Nat)(x:Str)(ps:List Str)(mv:List Bool)(g:Mt):Prop where
 ex:∃f fd,FnOk P w K mg base Jh k f fd ps (L9 G c mv g)/\Meth K (G.ct (c+1)).1 x f/\Binds K fd ps []
 cl:JY K (G.ct (c+1)).1
 no:∀k,(G.ct (c+1)).2 k≠x
structure MpAt(P:Re)(w:XAA)(K:X6)(mg:Wc)(base:UV)(k:Nat)(G:Gx)(c:Nat)(x:Str)(ps:List Str)(h:Fn):Prop where
 ex:∃f fd,FnOk P w K mg base Jh k f fd ps (KY G h)/\Meth K (G.ct (c+1)).1 x f/\Binds K fd ps []
 cl:JY K (G.ct (c+1)).1
 no:∀k,(G.ct (c+1)).2 k≠x
structure InAt(P:Re)(w:XAA)(K:X6)(mg:Wc)(base:UV)(k:Nat)(G:Gx)(c n:Nat)(x:Str)(ps:List Str)(g:Mt):Prop where
 ex:∃f fd,FnOk P w K mg base Jh k f fd ps (L9 G c (List.replicate n false) g)/\Mk K (G.ct (c+1)).1 f/\Binds K fd ps []
 mg:mg x=some (.ref (G.ct (c+1)).1)
section
variable{K:X6}
theorem MtAt.at{m:Me}(h:MtAt P w K mg base k G c x ps mv g):MtAt P w K mg base k (G.at m) c x ps mv g:=⟨h.ex,h.cl,h.no⟩
theorem InAt.at{P:Re}{w:XAA}{mg:Wc}{base:UV}{k c n:Nat}{G:Gx}{x:Str}{ps:List Str}{g:Mt}{m:Me}(h:InAt P w K mg base k G c n x ps g):InAt P w K mg base k (G.at m) c n x ps g:=⟨h.ex,h.mg⟩
def kZ{G:Gx}(F:IA K x b d f m)(q:Meth K (G.ct (c+1)).1 x f)(r:JY K (G.ct (c+1)).1)(v:∀k,(G.ct (c+1)).2 k≠x)(S:gV N ps (ah d))(o:ps.length=j)(p:N.length=l)(u:∀(kV doc pm:On)(an:Option KM)(h ct:On)(i:V0),i.length=ps.length->bindArgs (PySem.W.fnOf x b (cQ d) (aX d) (ah d) .none kV doc pm an h ct) ⟨i,[]⟩=pure (ps.zip i))(t:∀(a:KM)(h:On)(A:SB)(outer:List PySem.Env)(s:IR)(H:Hp)(E:XK),xa k (A.deeper (envOfC b (ah d) s.heap.objs.size f h))->gP (G.at (KZ a)) (jL Jh P w K mg base N b (ah d) f h A outer s H E).Lv (aX d) e) :
  MtAt P w K mg base (k+1) G c x ps mv (Kh c j l mv e):=⟨⟨f,m,fnM F S o p t,q,F.binds u⟩,r,v⟩
def Eb{G:Gx}(F:IA K y b d f m)(q:Mk K (G.ct (c+1)).1 f)(r:mg x=Z (.ref (G.ct (c+1)).1))(S:gV N ps (ah d))(o:ps.length=j)(p:N.length=l)(u:∀(kV doc pm:On)(an:Option KM)(h ct:On)(i:V0),i.length=ps.length->bindArgs (PySem.W.fnOf y b (cQ d) (aX d) (ah d) .none kV doc pm an h ct) ⟨i,[]⟩=pure (ps.zip i))(t:∀(a:KM)(h:On)(A:SB)(outer:List PySem.Env)(s:IR)(H:Hp)(E:XK),xa k (A.deeper (envOfC b (ah d) s.heap.objs.size f h))->gP (G.at (KZ a)) (jL Jh P w K mg base N b (ah d) f h A outer s H E).Lv (aX d) e) :
  InAt P w K mg base (k+1) G c n x ps (Kh c j l (List.replicate n J) e):=⟨⟨f,m,fnM F S o p t,q,F.binds u⟩,r⟩
def B4{G:Gx}(F:Mm K y d e f q)(u:Mk K (G.ct (c+1)).1 f)(v:mg x=Z (.ref (G.ct (c+1)).1))(S:gV N ps (ah e))(r:ps.length=m)(t:N.length=p)(C:∀(s:IR)(T:KM)(kV doc pm:On)(an:Option KM)(i ct:On)(o:Obj)(n:Nat)(j:V0),K.In s.heap->K.lookup T=Z o->o.data=.seq #[.none] n->j.length=ps.length->BindsTo s (PySem.W.fnOf y d (cQ e) (aX e) (ah e) (.ref T) kV doc pm an i ct) ⟨j,[]⟩ (ps.zip j))(z:∀(a:KM)(i:On)(A:SB)(outer:List PySem.Env)(s:IR)(H:Hp)(E:XK),xa k (A.deeper (envOfC d (ah e) s.heap.objs.size f i))->gP (G.at (KZ a)) (jL Jh P w K mg base N d (ah e) f i A outer s H E).Lv (aX e) h) :
  InAt P w K mg base (k+1) G c n x ps (Kh c m p (List.replicate n J) h):=⟨⟨f,q,Gy (λl b=>F.ok S l b) r t z,u,F.binds C⟩,v⟩
def ot{G:Gx}(F:IA K x a b f l)(p:Meth K (G.ct (c+1)).1 x f)(q:JY K (G.ct (c+1)).1)(u:∀k,(G.ct (c+1)).2 k≠x)(S:gV N ps (ah b))(m:ps.length=i)(o:N.length=j)(t:∀(kV doc pm:On)(an:Option KM)(e ct:On)(h:V0),h.length=ps.length->bindArgs (PySem.W.fnOf x a (cQ b) (aX b) (ah b) .none kV doc pm an e ct) ⟨h,[]⟩=pure (ps.zip h))(r:∀(e:On)(A:SB)(outer:List PySem.Env)(s:IR)(H:Hp)(E:XK),xa k (A.deeper (envOfC a (ah b) s.heap.objs.size f e))->gP G (jL Jh P w K mg base N a (ah b) f e A outer s H E).Lv (aX b) d) :
  MpAt P w K mg base (k+1) G c x ps (fn i j d):=⟨⟨f,l,T2 F S m o r,p,F.binds t⟩,q,u⟩
def B7{G:Gx}{k:Nat}{g:Fn}(i:G.K=K)(F:FnOk P w K mg base Jh k f b [y] (KY G g))(e:∀ns:V3,g [.scr ns]=Z (.fr,.bl B)) :
  FnOk P w K mg base Jh k f b [y] (KY (QF K) BV):=F.imp λo H Q E h=>by
 obtain⟨p,s,m,r,j,a,q⟩:=h;unfold BV at a;split at a
 ·rename_i ns;cases a;cases j with
  |cons r1 r2 =>
   cases r2;cases r1 with
   |scr d=>exact⟨[.scr ns],[[]],.fr,.bl B,.cons (.scr (by rw[i];exact d)) .nil,e ns,λv l F e1 r f1=>q v l F e1 (by cases r;exact .bl _) f1⟩
 ·cases a
end
section
def iA{X:Cx}(J:jJ G)(F:MtAt X.prog X.w X.K X.mg X.base k G c m ps mv g)(r:xa k' X.A)(t:k<=k')(s:LM G X o i way)(u:Jj G X (e :: es) cs)(C:{`q7,K1 e es X})(a:{`q7,K2 pos es X})(q:{`q7,eval (.Call (.Attribute o m apos) (e :: es) [] pos) X.env=(do
   let d ← eval o X.env
   standAt apos.atName
   let (f,first) ← holding [d] (getMethod d m l)
   callWith pos f first (backTo pos (Pv (e :: es) X.env)) (backToKw pos (SL [] X.env)))}):PX G X (.Call (.Attribute o m apos) (e :: es) [] pos) (bC i way c mv g cs):=by
 obtain⟨f,fd,z,y,v⟩:=F.ex;exact BG J F.no s F.cl y z r t v u C a q
def zE{X:Cx}(J:jJ G)(F:MtAt X.prog X.w X.K X.mg X.base k G c m ps mv g)(q:xa k' X.A)(s:k<=k')(r:LM G X o i way)(l:eval (.Call (.Attribute o m apos) [] [] pos) X.env=(do
   let a ← eval o X.env
   standAt apos.atName
   let (f,first) ← holding [a] (getMethod a m d)
   callWith pos f first (backTo pos (Pv [] X.env)) (backToKw pos (SL [] X.env)))):PX G X (.Call (.Attribute o m apos) [] [] pos) (bC i way c mv g ag):=by
 obtain⟨f,fd,v,u,t⟩:=F.ex;exact Aa J F.no r F.cl u v q s t l
def EY{X:Cx}(F:MtAt X.prog X.w X.K X.mg X.base k G c m ps mv g)(t:xa k' X.A)(u:k<=k')(z:X.N[i]?=Z x)(r:Kp X.env.scope x)(v:K3 x)(d:K4 x)(H:PX G X e xc)(y:Jj G X es cs)(L:K1 e es X)(a:K2 pos es X)(s:eval (.Call (.Attribute (.Name x p1) m apos) (e :: es) [] pos) X.env=(do
   let l ← eval (.Name x p1) X.env
   standAt apos.atName
   let (f,first) ← holding [l] (getMethod l m q)
   callWith pos f first (backTo pos (Pv (e :: es) X.env)) (backToKw pos (SL [] X.env)))):PX G X (.Call (.Attribute (.Name x p1) m apos) (e :: es) [] pos) (o6 i c mv g xc cs):=by
 obtain⟨f,fd,E,D,C⟩:=F.ex;exact CG F.no z r v d F.cl D E t u C H y L a s
def Bc{X:Cx}(F:MpAt X.prog X.w X.K X.mg X.base k G c m ps h)(r:xa k' X.A)(t:k<=k')(s:PV G X o ca)(u:Jj G X (e :: es) cs)(C:K1 e es X)(a:K2 pos es X)(q:eval (.Call (.Attribute o m apos) (e :: es) [] pos) X.env=(do
   let d ← eval o X.env
   standAt apos.atName
   let (f,first) ← holding [d] (getMethod d m l)
   callWith pos f first (backTo pos (Pv (e :: es) X.env)) (backToKw pos (SL [] X.env)))):PV G X (.Call (.Attribute o m apos) (e :: es) [] pos) (eY c h ca cs):=by
 obtain⟨f,fd,z,y,v⟩:=F.ex;exact Ey F.no s F.cl y z r t v u C a q
def m8{X:Cx}(F:MpAt X.prog X.w X.K X.mg X.base k G c m ps h)(q:xa k' X.A)(s:k<=k')(r:PV G X o ca)(l:eval (.Call (.Attribute o m apos) [] [] pos) X.env=(do
   let a ← eval o X.env
   standAt apos.atName
   let (f,first) ← holding [a] (getMethod a m d)
   callWith pos f first (backTo pos (Pv [] X.env)) (backToKw pos (SL [] X.env)))):PV G X (.Call (.Attribute o m apos) [] [] pos) (eY c h ca ag):=by
 obtain⟨f,fd,v,u,t⟩:=F.ex;exact Cp F.no r F.cl u v q s t l
def Gv{e:Ex}:∀(U:VS.Env)(d:V6),ab e ag U=Z d->d.length=1:=λU d h=>by
 obtain⟨a,_,h⟩:=Zz.mp h;cases h;rfl
def EF{X:Cx}(F:InAt X.prog X.w X.K X.mg X.base k G c n x ps g)(l:xa k' X.A)(r:k+1<=k')(t:Jj G X (e :: es) cs)(q:∀U d,cs U=Z d->d.length=n)(s:Gl X x)(z:K3 x)(he:K1 e es X)(a:K2 pos es X):PV G X (.Call (.Name x p) (e :: es) [] pos) (eNew c g cs):=by
 obtain⟨f,fd,y,v,u⟩:=F.ex;exact GO n v y l r s F.mg u t q z he a
def Cy{X:Cx}(F:InAt X.prog X.w X.K X.mg X.base k G c 0 x ps g)(a:xa k' X.A)(d:k+1<=k')(l:Gl X x)(t:K3 x):PV G X (.Call (.Name x p) [] [] pos) (eNew c g ag):=by
 obtain⟨f,fd,s,r,q⟩:=F.ex;exact EV r s a d l F.mg q t
def qM{apos pos:Pos}(J:jJ G)(d:LM G X o i way)(q:Jj G X [e] cs)(s:{`q7,X.K=G.K})(y:{`q7,XAB o "append" X.env (eval o X.env)=eval o X.env})(w:{`q7,((backTo oe (Pv [e] X.env)).all (λx=>!x.1)&&(backToKw oe (SL [] X.env)).all (λx=>x.1.isSome)
   && decide ([e].length+([]:List Keyword).length+(if ([]:List Keyword).isEmpty then 0 else 1)<30))=B})(A:{`q7,(apos.endLine==oe.line)=B})(a:{`q7,K1 e [] X})(C:{`q7,(backTo oe (Pv [] X.env)).any (·.1)=false})(u:{`q7,swapsWith (.Call (.Attribute o "append" apos) [e] [] oe) Y pos.line X.env=pure false}) :
  PSV G X (.Expr (.Call (.Attribute o "append" apos) [e] [] oe) pos) (sX (iS i way aC cs)) :=
 zN J X1 XF XG h9 k8 (λH v t F l z r h=>i7 r h) d q s y w A a C u
end
inductive Ia where | io (i:Nat) (un:Bool) | ex (c:Ex)
abbrev Xt:=VS.Env->Option (Bool×VS.Env)
end VS
end
section
namespace VS
open PySem PySem.Spec PyProof.Rows L2
def x2(f:Val->Val->V7)(a b:Xx):Xx:=λU=>(a U).bind λz=>(b z.2).bind λw=>(f (.fr,z.1.2) (.fr,w.1.2)).bind λv=>if Iq z.1.2=B/\Iq w.1.2=B/\Iq v.2=B then Z ((.fr,v.2),w.2) else Y
inductive Ix where | io (i:Nat) (un:Bool) | px (x:Xx)
end VS
end
section
open PySem PyProof.Rows
namespace TS
noncomputable def nS:On->Int
 |.int i _=>i
 |_=>0
def vq:JO prog w A E s oneType' (λp=>∃i t,p.1=Value.int i t) (λp q=>decide (nS p.1<nS q.1)):=by
 refine⟨?_,?_,?_⟩
 ·rintro st ⟨x,g⟩ ⟨y,f⟩ Q a ⟨i,t,ex⟩ ⟨j,u,e⟩ h;cases (show x=_ from ex);cases (show y=_ from e);rw[lt'_eq];refine ZX (W8 ?_);rw[a,keyLt'_oneType];exact ZX (wpS_lift (wpAny_attempt (oneLt_int ⟨rfl,Zi h⟩)))
 ·rintro x y _ _ h;have:=of_decide_eq_true h;exact ZI (by lia)
 ·rintro x y z _ _ _ d b;have:=of_decide_eq_false d;have:=of_decide_eq_false b;exact ZI (by lia)
theorem ints_in:∀{l:V0},(∀u∈l,∃i t,u=Value.int i t)->IntsAre l (l.map nS)
 |[],_=>.nil
 |u :: l,h=>by
  obtain⟨i,t,rfl⟩:=h u Zx;exact .cons _ _ (ints_in λv a=>h v (Zw _ a))
end TS
end
section
namespace VS
open PySem PySem.Spec PyProof.Rows L2
def tIS(G:Gx)(S:VS.Env->Option (V8->Prop)):TI:=λO H Rq=>∃R U P,SR G R U O H/\S U=Z P/\∀l,P l->∀J b C,aG H b->LP G J l C b->(∀a∈C,H a=Y)->Rq J b
def Gn(G:Gx)(X:Cx)(b a:Expr)(S:VS.Env->Option (V8->Prop)):Prop:=PI X b a (tIS G S)
end VS
end
section
namespace L2
open PySem PySem.Spec PyProof.Rows TS
section
variable{H:Hp}
def JN(X:Cx)(a:Yp)(O:St)(H:Hp)(g:List Str)(b h:Nat)(f:V0)(d:IR):Prop:=Inv X a O H d/\lB X a H b/\lB X a H (b+2)/\(∃e,d.heap.get? (b+2)=Z (seqObj "list" f.toArray e))/\d.heap.get? b=Z (seqObj "list" #[] h) ∧
  ∀(i:Nat)(u:On),f[i]?=Z u->∃(x:Str)(t:Tok),g[i]?=Z x/\u=Value.int x.length t
def mI{X:Cx}{ss:List Str}{ws:List V}(C:X.calm=B)(I:Inv X pins O H s)(hl:ss.length=ws.length)(hq:H p=Z (.dK ((ss.map Sum.inr).zip ws)))(xb:∀x∈ss,x.length<=KF)(q:∀(l:KM)(S:List Str),H l=Y->S.Perm ss->S.Pairwise (λa b=>a.length<=b.length)->Q (.ref l) (upd H l (.lst (S.map V.str)))) :
  PP (KB X.prog X.w) X.A (call (.builtin "sorted") [.ref p] [(("key" : Str),.builtin "len")]) (EP X pins O Q) X.xe s:=by
 obtain⟨j,hS,bt,rel,dd⟩:=lY I.xb hq;obtain⟨ep,dd⟩:=dd.dictAt;rw[Z1,Zy]at j;have Qy:bt.length=ss.length:=by
  have:=rel.length;rw[Z1,Zy]at this;lia
 have Qx:∀i:Nat,(bt[i]?).map (λx=>x.1)=(ss[i]?).map (Sum.inr:Str->Key):=λi=>by
  have f:((bt.map (·.1)))[i]?=(ss.map (Sum.inr:Str->Key))[i]?:=by
   rw[← rel.keys,Xs (by rw[Zy];exact Xw hl)]
  rw[ZV,ZV]at f;exact f
 refine sU M λA' E' hA=>Vu (Va hS) (hA.trans (I.ok.hd C)) dd (by lia) λf tk acc kp JJ=>?_;have N:Inv X pins O H { s with heap:=f,toks:=tk }:=I.kept kp;have RO:acc.toList.length=ss.length:=by rw[Yl,JJ.1,Qy]
 have each:∀i v,acc.toList[i]?=Z v->∃x t,v=Value.str x t/\ss[i]?=Z x:=λi v hv=>by
  rw[ZD]at hv;obtain⟨k,x,e1,e2⟩:=JJ.2 i v hv;have G:=Qx i;rw[e1]at G;cases E:ss[i]? with
  |none=>rw[E]at G;cases G
  |some y =>
   rw[E]at G;have e5:k=Sum.inr y:=Zl G;subst e5;obtain⟨t,rfl⟩:=Vb (show Value.isStrOf y v=B from e2);exact⟨y,t,rfl,E⟩
 have hvs:acc.toList.map N5=ss:=by
  apply X9;intro i;rw[ZV];cases e:acc.toList[i]? with
  |some v =>
   obtain⟨x,t,rfl,e2⟩:=each i v e;rw[e2];rfl
  |none =>
   rw[Ym]at e;rw[Yv (by lia)];rfl
 generalize hvv:acc.toList=r at *;obtain⟨e0,F⟩:=qN f r;have LK:f.objs.size≠f.objs.size+2:=by lia
 refine⟨by lia,JN X pins O H ss f.objs.size e0,?_,?_⟩
 ·exact⟨N.kept (t':=tk) λb o e=>rL e,N.Lj (Zo _) (N.xb.fresh (Zo _)),N.Lj (ZJ _ 2) (N.xb.fresh (ZJ _ 2)),⟨0,qQ f r⟩,F,λi u e=>by simp at e⟩
 ·refine⟨λd n ⟨_,_,_,e,_⟩=>e,λd n ⟨_,_,_,_,e,_⟩=>e.trans F.symm,?_,?_⟩
  ·rintro d x n hx ⟨I2,P,g,⟨eK,hK⟩,hL,R⟩;obtain⟨y,t,rfl,hy⟩:=each _ _ hx;have hn:=j5;have hy2:=xb y (YJ hy);refine len_str (by lia) ⟨⟨eK,hK⟩,?_⟩;have hK3:∀t:Tok,∃e,(n.heap.update (f.objs.size+2) (Obj.mapSeq λU=>U.push (Value.int y.length t))).get? (f.objs.size+2)=Z (seqObj "list" (d++[Value.int y.length t]).toArray e):=λt=>by
    have:=WC hK λU=>U.push (Value.int y.length t);rw[this,show d.toArray.push (Value.int y.length t)=(d++[Value.int y.length t]).toArray by simp];exact⟨_,rfl⟩
   refine⟨(I2.tok _).turned (it:=f.objs.size+2) (λc o C e=>by rw[Xr _ _ _ _ C];exact e) g.1 g.2.1 g.2.2.2.1 g.2.2.2.2.1 g.2.2.2.2.2,P,g,hK3 _,?_,λi u m=>?_⟩
   ·rw[Xr _ _ _ _ LK];exact hL
   ·by_cases D:i<d.length
    ·rw[Yz D]at m;exact R i u m
    ·rw[Yu (by exact Z7 D)]at m;have hi0:i=d.length:=by
      by_cases z:i-d.length=0
      ·lia
      ·rw[Yv (by simp;lia)]at m;cases m
     subst hi0;simp at m;exact⟨y,_,hy,m.symm⟩
  ·rintro d n ⟨I2,P,g,⟨eK,hK⟩,hL,R⟩ L;have kz:∀z∈d.zip r,∃(x:Str)(t t':Tok),z=(Value.int x.length t',Value.str x t):=λz j=>by
    obtain⟨i,D,e⟩:=Yt j;have e':(d.zip r)[i]?=Z z:=by rw[Zp D,e]
    obtain⟨z1,z2⟩:=z;rw[Yi]at e';obtain⟨x,t',e2,rfl⟩:=R i z1 e'.1;obtain⟨x2,t,rfl,E⟩:=each i z2 e'.2;rw[e2]at E;cases E;exact⟨x,t,t',rfl⟩
   refine⟨oneType',λp=>∃i t,p.1=Value.int i t,λp q=>decide (nS p.1<nS q.1),vq,λz j=>?_,λtwo Q1 q1=>?_,λout o1 o2=>⟨rfl,?_⟩⟩
   ·obtain⟨x,t,t',rfl⟩:=kz z j;exact⟨_,_,rfl⟩
   ·have hI:IntsAre d (d.map nS):=ints_in λu m=>by
     obtain⟨i,D,e⟩:=Yt m;obtain⟨x,t,_,e2⟩:=R i u (by rw[Zp D,e]);exact⟨_,t,e2⟩
    match d,L,hI with
    |v₁ :: v₂ :: Kg,_,hI =>
     rw[keyKind_ints hI];exact Zh q1
    |[],L,_=>rw[← L]at two;exact absurd two (by decide)
    |[_],L,_=>rw[← L]at two;exact absurd two (by simp)
   ·have I3:=I2.turned (it:=f.objs.size+2) (t':=n.toks) (h':=n.heap.update (f.objs.size+2) (Obj.mapSeq λ_=>#[])) (λc o C e=>by rw[Xr _ _ _ _ C];exact e) g.1 g.2.1 g.2.2.2.1 g.2.2.2.2.1 g.2.2.2.2.2;have hL2:(n.heap.update (f.objs.size+2) (Obj.mapSeq λ_=>#[])).get? f.objs.size=Z (seqObj "list" #[] e0):=by rw[Xr _ _ _ _ LK];exact hL
    have XT:=WC hL2 λ_=>(out.map λz=>z.2).toArray;have ho:∀z∈out,∃(x:Str)(t t':Tok),z=(Value.int x.length t',Value.str x t):=λz j=>kz z (o1.mem_iff.mp j);have Ss:out.length=ss.length:=by
     rw[o1.length_eq,Z1];lia
    have vals:∀{out:List Pi},(∀z∈out,∃(x:Str)(t t':Tok),z=(Value.int x.length t',Value.str x t))->aN ((out.map λz=>N5 z.2).map V.str) (out.map (·.2)):=by
     intro out
     induction out with
     |nil=>intro _;exact .nil
     |cons z out ih =>
      intro h;obtain⟨x,t,t',rfl⟩:=h z Zx;exact .cons ⟨t,rfl⟩ (ih λz j=>h z (Zw _ j))
    refine⟨.ref f.objs.size,_,I3.adopt (o:=.lst ((out.map λz=>N5 z.2).map V.str)) (t':=n.toks) P (λc o C e=>by rw[Xr _ _ _ _ C];exact e) ⟨_,XT⟩ (show aY X.prog X.w _ _ _ (.lst _) from⟨by rw[Zy,Zy,Ss];lia,(out.map λz:Pi=>z.2),_,vals ho,XT⟩),rfl,q _ _ P.1 ?_ ?_⟩
    ·have:=o1.map λz=>N5 z.2;have e2:(d.zip r).map (λz=>N5 z.2)=ss:=by
      rw[← hvs];have:(d.zip r).map (λz=>N5 z.2)=((d.zip r).map Prod.snd).map N5:=by rw[ZA];rfl
      rw[this,VU (by lia)]
     rw[e2]at this;exact this
    ·rw[YH];refine List.Pairwise.imp_of_mem (λ{a b} ha hb h=>?_) o2;obtain⟨x,t,t',rfl⟩:=ho a ha;obtain⟨x2,t2,t3,rfl⟩:=ho b hb;have:=of_decide_eq_false (show decide ((x2.length:Int)<(x.length:Int))=J from h);show x.length<=x2.length;lia
end
end L2
namespace VS
open PySem PySem.Spec PyProof.Rows L2 TS
def FM:T->Option (List Tx)
 |.dct 0 l=>strs? (l.map (·.1))
 |_=>Y
def zM(f:Ex)(U:VS.Env):Option (V8->Prop):=(f U).bind λx=>(FM x.2).bind λe=>if e.all N6 then
 Z λl=>∃d:List Tx,l=d.map T.str/\d.Perm e/\d.Pairwise (λa b=>a.length<=b.length) else Y
section
def yr{X:Cx}(hm:X.mg "sorted" = Y)(Nq:X.mg "len" = Y)(q:PV G X e ca)(hg:Gl X "sorted")(L:Gl X "len")(hc:X.calm=B)(m:K1 e [] X)(he:backTo pos (Pv [e] X.env)=(J,eval e X.env) :: backTo pos (Pv [] X.env))(E:(backTo pos (Pv [e] X.env)).any (·.1)=J) :
  Gn G X tg (.Call (.Name "sorted" p) [e] [⟨Z "key",.Name "len" p2,kp⟩] pos) (zM ca):=by
 have pe:PE X (.Call (.Name "sorted" p) [e] [⟨Z "key",.Name "len" p2,kp⟩] pos) (λO H Q=>∃R U P,SR G R U O H/\zM ca U=Z P/\∀(l:KM)(f:Hp)(d:List Tx),aG H f->f l=Y->P (d.map T.str)->(∀y∈d,mn y)->Q (.ref l) (upd f l (.lst (d.map λy=>V.str (sx y))))):=by
  rintro g s O H Q I ⟨R,U,P,sr,eS,k⟩;obtain⟨⟨mx,x⟩,ea,e1⟩:=Zz.mp eS;obtain⟨ss,j,e2⟩:=Zz.mp e1;by_cases S:ss.all N6=B
  ·rw[Zr S]at e2;cases e2;obtain⟨y,rfl,n⟩:∃y,x=.dct 0 y/\strs? (y.map (·.1))=Z ss:=by
    have j:FM x=Z ss:=j;unfold FM at j;split at j
    ·exact⟨_,rfl,j⟩
    ·cases j
   have tok:∀s∈ss,mn s:=λs m=>xX (Yq.mp S s m);refine XW (iH I hg hm lM ?_ (by decide) M);refine PyProof.Rows.callWith_kw (thn ((dC q gg m) pos g s O H (λvs f=>∃a,∃d:List V,vs=[.ref a]/\aG H f/\ss.length=d.length/\f a=Z (.dK (((ss.map sx).map Sum.inr).zip d))) I ⟨R,U,mx,_,sr,ea,λv H' F LR rx e3=>?_⟩) λus s1 ⟨vs,f,I1,r1,a,d,ev,Jr,C,N⟩=>?_) he E M M
   ·obtain⟨a,t,d,ts,Gs,rfl,_,N,i,rfl,ra⟩:=cH rx;have Jp:t.length=ts.length:=by rw[i,ra.len.1]
    have e3:((t.map VS.aw).zip ts).map (·.1)=t.map VS.aw:=Xs (by rw[Zy];exact Xw Jp);rw[e3]at n;have e4:=keys_str n;exact⟨a,d,rfl,LR,by rw[← i,e4];simp,by rw[← e4];exact N⟩
   ·subst ev;obtain⟨u,rfl,ru⟩:=r1.one;obtain rfl:=(show u=Value.ref a from ru)
    refine(show PP (KB X.prog X.w) X.A (evalAll ((do let v ← eval (.Name "len" p2) X.env;standAt pos;pure v) :: [])) _ _ s1 from ?_);refine wpAny_evalAll_cons (Zu (iH I1 L Nq PySem.boot_len (Zu (wpAny_standAt (Zh (wpAny_evalAll_nil ?_)))) (by decide) M));refine(show PP (KB X.prog X.w) X.A (call (.builtin "sorted") [.ref a] [(("key" : Str),.builtin "len")]) (EP X g O Q) X.xe s1 from ?_);refine mI (ss:=ss.map sx) (ws:=d) hc I1 (by rw[Zy];exact C) N (λx D=>?_) λl r JU pz pw=>?_
    ·obtain⟨s,m,rfl⟩:=Yw.mp D;exact(tok s m).1
    ·obtain⟨ws,rfl,OT⟩:∃ws:List Tx,r=ws.map sx/\ws.Perm ss:=by
      refine⟨r.map λx=>x.cps.toList,?_,?_⟩
      ·rw[ZA]
       conv=>lhs;rw[← WQ r]
       apply Xz;intro x D;obtain⟨s,_,rfl⟩:=Yw.mp (pz.mem_iff.mp D);show sx s=sx (sx s).cps.toList;rw[qA]
      ·have:=pz.map λx:Str=>x.cps.toList;rw[ZA,show ((λx:Str=>x.cps.toList) ∘ sx)=id from funext qA,WQ]at this;exact this
     rw[ZA];exact k l f ws Jr JU ⟨ws,rfl,OT,(YH.mp pw).imp λ{a b} h=>h⟩ λy hy=>tok y (OT.mem_iff.mp hy)
  ·rw[Zm S]at e2;cases e2
 refine PI.weak (Bp pe) λO H Rq hq=>?_;obtain⟨R,U,P,s,eP,k⟩:=hq;refine⟨R,U,P,s,eP,λl f d sm i hP xb=>⟨l,rfl,⟨_,Iw.of aj⟩,?_⟩⟩;have Jf:aG f (upd f l (.lst (d.map λy=>V.str (sx y)))):=λb o z=>by rw[ar (bD z i)];exact z
 refine k _ hP _ _ _ (sm.trans Jf) (vQ X.K aj (qX xb)) λa q=>?_;rw[show (d.map λ_=>([]:Wa)).flatten=[] from List.flatten_eq_nil_iff.mpr λl i=>by obtain⟨_,_,rfl⟩:=Yw.mp i;rfl]at q;cases Ze.mp q;exact sm.free i
def vE(k:l7 G R U H D (.rt v (List.replicate n Y))):l7 G R U H D (.rt v b):=λu d F g h f f2 r q =>
 have no:∀(i:Nat)(c:Cell),(List.replicate n (Y:V5))[i]? ≠ Z (Z c):=λi c z=>by
  have:=List.eq_of_mem_replicate (YJ z);cases this
 k u d F (λ_=>[]) (List.replicate n Y) ⟨by rw[YA,YA],λi c z=>absurd z (no i c),λi t z=>absurd z (no i _),λi j t c z=>absurd z (no i _)⟩
  ⟨λa o e z=>⟨(f2.keep a o e z).1,λ⟨j,t,z,_⟩=>no j _ z⟩,f2.IE,λa ⟨j,t,z,_⟩=>absurd z (no j _),λa ⟨j,t,z,_⟩=>absurd z (no j _),f2.kept⟩ r q
open Classical in
def sG(g:Tg)(S:VS.Env->Option (V8->Prop))(b r:Sx):Sx:=λU=>(S U).bind λP=>if h:∃v,∀l,P l->∃a,ak (forL g b l) r U=Z (.rt v a) then Z (.rt h.choose (List.replicate U.length Y)) else Y
def zv{G:Gx}{X:Cx}{tg:Expr}{b:Expr}{d rest:List Stmt}{S:VS.Env->Option (V8->Prop)}{g:Tg}{cb n:Sx}(M:PassesOwn (KB X.prog X.w) X.A X.env X.xe)(hc:X.calm=B)(Q:Gn G X tg b S)(hg:M3 G X tg g)(hb:gP G X d cb)(E:∀x,XAC b X.env x=pure x)(F:gP G X rest n):gP G X (.For tg b d [] pos :: rest) (sG g S cb n):=Kf.weak (t8 (uB M hc Q hg hb E) F) λD O H L=>by
 obtain⟨R,U,o,s,e,k⟩:=L;obtain⟨P,eP,e1⟩:=Zz.mp e;split at e1
 ·rename_i h;cases e1;refine⟨R,U,P,s,eP,λl N J y C z ok fr=>?_⟩;obtain⟨U',e2⟩:=h.choose_spec l N;unfold ak at e2;obtain⟨t,e3,i⟩:=Zz.mp e2;have:=uE (G:=G) (ci:=λ_=>Z (.fr,l)) (g:=g) (cb:=cb) (D:={ D with nx:=tS G n D }) (O:=O) (H:=H) ⟨R,U,t,s,e3,?_⟩
  ·obtain⟨u,U',m,l',q,e',r⟩:=this;cases e';exact r J y C z ok λa ha=>.inl (fr a ha)
  ·cases t with
   |nx j=>exact λu O' y q f=>⟨u,j,_,q,i,l7.back f (vE k)⟩
   |rt v j =>
    cases i;exact vE k
   |bk j=>cases i
   |ct j=>cases i
 ·cases e1
end
end VS
end
section
namespace L2
open PySem PySem.Spec PyProof.Rows TS
section
def ni{X:Cx}(hc:X.calm=B):dn X (.builtin "sorted") (λM H Q=>∃p,∃(ns:V3)(m:List V),M=[.ref p]/\ns.length=m.length/\H p=Z (.dK ((ns.map Sum.inl).zip m)) ∧
  ∀(l:KM)(o:V3),H l=Y->o.Perm ns->o.Pairwise (·<=·)->Q (.ref l) (upd H l (.lst (o.map V.int)))):=by
 intro f s O H M N Q I rx h;obtain⟨p,ns,m,rfl,hl,z,q⟩:=h;obtain⟨u,rfl,ru⟩:=rx.one;cases ru;obtain⟨n,hS,L,rel,G⟩:=lY I.xb z;obtain⟨ep,G⟩:=G.dictAt;have Qy:L.length=ns.length:=by
  have:=rel.length;rw[Z1,Zy]at this;lia
 have Qx:∀i:Nat,(L[i]?).map (λx=>x.1)=(ns[i]?).map (Sum.inl:Int->Key):=λi=>by
  have S:((L.map (·.1)))[i]?=(ns.map (Sum.inl:Int->Key))[i]?:=by
   rw[← rel.keys];rw[Xs (by rw[Zy];exact Xw hl)]
  rw[ZV,ZV]at S;exact S
 refine uU λA' E' hA=>Vu (Va hS) (hA.trans (I.ok.hd hc)) G (by rw[Z1,Zy]at n;lia) λD P acc kp U=>?_;have I1:Inv X f O H { s with heap:=D,toks:=P }:=I.kept kp;have RO:acc.toList.length=ns.length:=by rw[Yl,U.1,Qy]
 have hlen:acc.toList.length<=sizeLine:=by rw[RO];rw[Z1,Zy]at n;lia
 have each:∀i v,acc.toList[i]?=Z v->∃x t,v=Value.int x t/\ns[i]?=Z x:=λi v d=>by
  rw[ZD]at d;obtain⟨k,x,e1,e2⟩:=U.2 i v d;have j:=Qx i;rw[e1]at j;cases F:ns[i]? with
  |none=>rw[F]at j;cases j
  |some y =>
   rw[F]at j;have e5:k=Sum.inl y:=Zl j;subst e5;obtain⟨t,rfl⟩:=Value.isInt_shape (show Value.isInt y v=B from e2);exact⟨y,t,rfl,F⟩
 have d:∀v∈acc.toList,∃i t,v=Value.int i t:=λv g=>by
  obtain⟨i,hi,e⟩:=Yt g;obtain⟨x,t,e1,_⟩:=each i v (by rw[Zp hi,e]);exact⟨x,t,e1⟩
 have es:acc.toList.map nS=ns:=by
  apply X9;intro i;rw[ZV];cases e:acc.toList[i]? with
  |none =>
   have:acc.toList.length<=i:=Ym.mp e;rw[Ym.mpr (by lia)];rfl
  |some v =>
   obtain⟨x,t,rfl,e1⟩:=each i v e;rw[e1];rfl
 refine⟨⟨_,_,oneType',λA E h _=>vq,λv g=>d v g,hlen,λh2 A E h _ Q z=>?_,λout D e r R kp he=>?_⟩⟩
 ·have C:=ints_in d;generalize acc.toList=N at *
  match N,h2,C with
  |v₁ :: v₂ :: m,_,C =>
   rw[keyKind_ints C];exact Zh z
 ·have Qo:∀v∈out,∃i t,v=Value.int i t:=λv g=>d v (r.mem_iff.mp g);have n:((out.map nS).map V.int).length<=sizeLine:=by rw[Zy,Zy,r.length_eq];exact hlen
  refine⟨.ref _,_,I1.laid (t':=P) kp (Zo _) (show aY X.prog X.w _ D _ (.lst ((out.map nS).map V.int)) from⟨n,out,e,lT (ints_in Qo),he⟩),rfl,q _ _ (I1.xb.fresh (Zo _)) (by rw[← es];exact r.map _) ?_⟩;rw[YH]at R ⊢;refine R.imp λ{a b} MV=>?_;have:=of_decide_eq_false (show decide (nS b<nS a)=J from MV);lia
def BL:List V->Hp->VK->Prop:=λa H Q=>∃i j:Int,a=[.int i,.int j]/\0<=i/\i<=j/\j<=16777216/\∀(b l:KM),H b=Y->H l=Y->b≠l->Q (.ref l) (upd (upd H b (.rng i j)) l (.lst ((List.range (j-i).toNat).map λk:Nat=>V.int (i+k))))
def wQ{X:Cx}(D:∀O H Q Q',(∀d A,Q d A->Q' d A)->C O H Q->C O H Q')(hc:X.calm=B)(E:Gl X "range")(hm:X.mg "range" = Y)(F:Gl X "list")(Nq:X.mg "list" = Y)(TK:bootBuiltins ("list" : Str)=Z (.type "list"))(ha:PA X [a,c] C)(hs:Pv [a,c] X.env=[(J,eval a X.env),(J,eval c X.env)])(RF:Pv [c] X.env=[(J,eval c X.env)])(J9:Pv [.Call (.Name "range" p) [a,c] [] pos] X.env=[(J,eval (.Call (.Name "range" p) [a,c] [] pos) X.env)]):PE X (.Call (.Name "list" N) [.Call (.Name "range" p) [a,c] [] pos] [] KJ) (λO H Q=>C O H λd A=>BL d A Q):=by
 intro f s O H Q I h;have inner:PE X (.Call (.Name "range" p) [a,c] [] pos) (λO H Q=>C O H λd A=>∃i j:Int,d=[.int i,.int j]/\∀b,A b=Y->Q (.ref b) (upd A b (.rng i j))):=by
  intro f s O H Q I h;refine Call_ (iH I E hm boot_range (Xy (thn (ha pos f s O H _ I h) λus s1 ⟨d,A,I1,r1,q1⟩=>?_) (by rw[hs,RF]) (by rw[RF];rfl)));obtain⟨i,j,e,q⟩:=q1;subst e;obtain⟨u,v,rfl,⟨t,rfl⟩,⟨L,rfl⟩⟩:=vals2 r1;exact call_range_2 ⟨.ref s1.heap.objs.size,_,I1.laid (a:=s1.heap.objs.size) (o:=.rng i j) (λ_ _ q=>Zj _ q) (Zo _) ⟨_,_,_,ZW _ M⟩,rfl,q _ (I1.xb.fresh (Zo _))⟩
 have outer:=lG (X:=X) (x:=("list" : Str)) (T := "list") (p:=N) (pos:=KJ) (es:=[]) (e:=.Call (.Name "range" p) [a,c] [] pos) (r:=λG H Q=>∃(b:KM)(i j:Int),G=[.ref b]/\H b=Z (.rng i j)/\0<=i/\i<=j/\j<=16777216/\∀l,H l=Y->Q (.ref l) (upd H l (.lst ((List.range (j-i).toNat).map λk:Nat=>V.int (i+k)))))
  (by
   intro f s O H G us Q I rx h;obtain⟨b,i,j,rfl,hb,U,R,S,q⟩:=h;obtain⟨u,rfl,ru⟩:=rx.one;obtain rfl:=(show u=Value.ref b from ru)
   obtain⟨t,u,v,g⟩:=(show aY X.prog X.w H s.heap b (.rng i j) from I.xb b _ hb)
   refine call_list_range (n:=(j-i).toNat) (I.ok.hd hc) g (small_one (by lia) (by lia) (by lia) (by lia)) (by rw[rangeSize_one];split<;>lia) (by lia) λh' tk acc c kp g2 JJ=>?_;have hv:aN ((List.range (j-i).toNat).map λk:Nat=>V.int (i+k)) acc.toList:=by
    have key:∀(n:Nat)(k:Nat)(d:V0),d.length=n->(∀(m:Nat)(v:On),d[m]?=Z v->∃t,v=.int (i+((k+m:Nat):Int)) t)->aN ((List.range' k n).map λm:Nat=>V.int (i+(m:Int))) d:=by
     intro n
     induction n with
     |zero=>intro k d y _;rw[WN.mp y];exact .nil
     |succ n ih =>
      intro k d y E;cases d with
      |nil=>simp at y
      |cons v d =>
       obtain⟨t,rfl⟩:=E 0 v M;refine .cons ⟨t,rfl⟩ (ih (k+1) d (by simpa using y) λi w hw=>?_);obtain⟨L,e⟩:=E (i+1) w (by simpa using hw);exact⟨L,by rw[e];congr 2;lia⟩
    rw[List.range_eq_range'];refine key _ _ _ (by rw[Yl,JJ.1]) λm v P=>?_;rw[ZD]at P;obtain⟨t,e⟩:=JJ.2 m v P;exact⟨t,by rw[e];simp⟩
   exact⟨.ref s.heap.objs.size,_,I.laid kp (Zo _) (show aY X.prog X.w _ h' _ (.lst _) from⟨by rw[Zy,Z0];show _<=16777216;lia,acc.toList,c,hv,g2⟩),rfl,q _ (I.xb.fresh (Zo _))⟩)
  F Nq TK (dC inner gg J9) (by decide) M J9 M
 refine outer f s O H Q I ?_;refine D O H _ _ (λd A q=>?_) h;obtain⟨i,j,e,U,R,S,q⟩:=q;refine⟨i,j,e,λb hb=>(show _ from ?_)⟩;refine⟨b,i,j,rfl,aj,U,R,S,λl y=>?_⟩;have bl:b≠l:=λz=>by rw[← z,aj]at y;cases y
 exact q b l hb (by rw[ar (Ye bl)]at y;exact y) bl
end
end L2
namespace VS
open PySem PySem.Spec PyProof.Rows L2 TS
noncomputable def mS:V6->V7
 |[(_,.int i),(_,.int j)]=>if 0<=i/\i<=j/\j<=16777216 then Z (.fr,.lst ((List.range (j-i).toNat).map λk:Nat=>T.int (i+(k:Int)))) else Y
 |_=>Y
def lD:V6->V7
 |[(_,.dct 0 l)]=>(jd (l.map (·.1))).map λns=>(.fr,.lst ((iC ns).map .int))
 |_=>Y
theorem i6(x:Int):∀l:V3,(lS x l).Perm (x :: l)
 |[]=>.refl _
 |y :: l=>by
  unfold lS;split
  ·exact((i6 x l).cons y).trans (.swap x y l)
  ·exact .refl _
theorem ka:∀l:V3,(iC l).Perm l
 |[]=>.refl _
 |x :: l=>(i6 x _).trans ((ka l).cons x)
theorem pR(x:Int):∀l:V3,l.Pairwise (·<=·)->(lS x l).Pairwise (·<=·)
 |[],_=>X3 _ _
 |y :: l,h=>by
  unfold lS;have b:=(YV.mp h).1;split
  ·refine YV.mpr ⟨λz a=>?_,pR x l (YV.mp h).2⟩;rcases Zk.mp ((i6 x l).mem_iff.mp a) with rfl | a
   ·lia
   ·exact b z a
  ·refine YV.mpr ⟨λz a=>?_,h⟩;rcases Zk.mp a with rfl | a
   ·lia
   ·have:=b z a;lia
theorem oE:∀l:V3,(iC l).Pairwise (·<=·)
 |[]=>.nil
 |x :: l=>pR x _ (oE l)
def kR{d:V3}(p:d.Perm l)(w:d.Pairwise (·<=·)):d=iC l :=
 (p.trans (ka l).symm).eq_of_pairwise (λa b _ _ f e=>Int.le_antisymm f e) w (oE l)
section
theorem vX:∀(l:V3),RpL G H (l.map V.int) (l.map T.int) (l.map λ_=>[])
 |[]=>.nil
 |i :: l=>.cons (.int _) (vX l)
theorem t4:∀{d:List Key}{ns:V3},jd (d.map aw)=Z ns->d=ns.map Sum.inl
 |[],_,e=>by cases e;rfl
 |.inr i :: d,_,e=>by cases e
 |.inl x :: d,ns,e=>by
  simp only[Zn,aw,jd]at e;obtain⟨f,e1,e2⟩:=Zv.mp e;subst e2;rw[t4 e1];rfl
def zQ:d4 G (λo H Q=>∃p,∃(ns:V3)(f:List V),o=[.ref p]/\ns.length=f.length/\H p=Z (.dK ((ns.map Sum.inl).zip f)) ∧
  ∀(l:KM)(d:V3),H l=Y->d.Perm ns->d.Pairwise (·<=·)->Q (.ref l) (upd H l (.lst (d.map V.int)))) lD:=by
 intro R U M H l f D m t Q A e k;unfold lD at e;split at e
 ·rename_i L x;obtain⟨ns,e1,e2⟩:=Zv.mp e;cases e2;obtain⟨v,F,rfl,rfl,s⟩:=(show RpL G H f [.dct 0 x] D from A.rp).one;obtain⟨a,g,d,h,N,rfl,rfl,y,j,rfl,u⟩:=cH s;have C:g.length=h.length:=by rw[j,u.len.1]
  have z:((g.map aw).zip h).map (·.1)=g.map aw:=Xs (by rw[Zy];exact Xw C);rw[z]at e1;have n:=t4 e1;refine⟨a,ns,d,rfl,by rw[← j,n,Zy],by rw[← n];exact y,λq E i w pw=>?_⟩;rw[kR w pw];have r:Rp G (upd H q (.lst ((iC ns).map V.int))) (.ref q) (.lst ((iC ns).map T.int)) (q :: ((iC ns).map λ_=>[]).flatten):=.lst aj (vX _);rw[jq]at r;exact k _ _ _ (bG i) r (Fp.new (A.same.free i) (by simp) Fp.nil)
 ·cases e
def Bu{X:Cx}(d:X.mg "sorted" = Y)(h:Jj G X [e] cs)(f:{`q1,Gl X "sorted"})(g:{`q1,X.calm=B})(he:{`q1,K1 e [] X}):PV G X (.Call (.Name "sorted" p) [e] [] pos) (eN lD cs) :=
 ik (ni g) zQ f d lM h (he:=he) (hpl:=rfl)
def xW{X:Cx}(S:X.mg "list" = Y)(E:X.mg "range" = Y)(M:Jj G X [a,b] cs)(o:Gl X "list")(F:Gl X "range")(L:X.calm=B)(D:Pv [a,b] X.env=[(J,eval a X.env),(J,eval b X.env)])(P:Pv [b] X.env=[(J,eval b X.env)])(J9:Pv [.Call (.Name "range" p) [a,b] [] pos] X.env=[(J,eval (.Call (.Name "range" p) [a,b] [] pos) X.env)]):PV G X (.Call (.Name "list" p2) [.Call (.Name "range" p) [a,b] [] pos] [] KJ) (eN mS cs) :=
 PE.weak (wQ (λO H Q Q' m ⟨R,U,l,s,u,k⟩=>⟨R,U,l,s,u,λv f w x y z=>m _ _ (k v f w x y z)⟩) L F E o S qm M D P J9) λO H Q d=>by
  obtain⟨R,U,m,t,s,e,k⟩:=d;unfold eN at e;obtain⟨l,u,e⟩:=Zz.mp e;refine⟨R,U,l,s,u,λv f w s1 r1 f1=>?_⟩;unfold mS at e;split at e
  ·rename_i m0 i m1 j;split at e
   ·rename_i h;cases e;cases r1 with
    |cons A g =>
     cases g with
     |cons g rc =>
      cases rc;rw[A.int_inv,g.int_inv];refine⟨i,j,rfl,h.1,h.2.1,h.2.2,λb q hb d n=>?_⟩;have N:∀l:V2,RpL G (upd (upd f b (.rng i j)) q (.lst ((List.range (j-i).toNat).map λk:Nat=>V.int (i+k)))) (l.map λk:Nat=>V.int (i+k)) (l.map λk:Nat=>T.int (i+k)) (l.map λ_=>[]):=λl=>by
       induction l with
       |nil=>exact .nil
       |cons x l C=>exact .cons (.int _) C
      have r:Rp G (upd (upd f b (.rng i j)) q (.lst ((List.range (j-i).toNat).map λk:Nat=>V.int (i+k)))) (.ref q) (.lst ((List.range (j-i).toNat).map λk:Nat=>T.int (i+k))) (q :: ((List.range (j-i).toNat).map λ_=>[]).flatten):=.lst aj (N _);rw[jq]at r;refine k _ _ _ ((s1.trans (bG hb)).trans (bG (by rw[ar (Ye n)];exact d))) r (Fp.new (s1.free d) (by simp) Fp.nil)
   ·cases e
  ·cases e
end
end VS
end
section
namespace VS
open PySem PySem.Spec PyProof.Rows L2
def rT(i:Nat)(g:Tg)(b:Sx):Sx:=λU=>match (U[i]?:Option (V5)) with
 |some (some (.ow (.dct 0 l)))=>gM g (km i) b (U.set i (Z (.pu (.dct 3 l))))
 |_=>Y
section
def ED{X:Cx}(i:Nat)(P:PassesOwn (KB X.prog X.w) X.A X.env X.xe)(hc:X.calm=B)(hN:X.N[i]?=Z x)(hv:Kp X.env.scope x)(hd:K3 x)(S:K4 x)(hg:M3 G X tg g)(d:gP G X body cb)(hs:∀y,XAC (.Name x p1) X.env y=pure y):PSV G X (.For tg (.Name x p1) body [] pos) (rT i g cb) :=
 PS.weak (uB P hc (C3 (fC hN hv hd S)) hg d hs) λD O H hq=>by
  obtain⟨R,U,out,s,e,k⟩:=hq;unfold rT at e;split at e
  ·rename_i l r;obtain⟨v,g1,g2⟩:=s.rp _ _ r;obtain⟨a,ns,f,C,M,rfl,eF,ha,JT,rfl,ra⟩:=cH g2;have Jl:i<U.length:=(Zb.mp r).1;have nd:=s.nd i _ r;rw[eF]at nd;have Jx:=ZY.mp nd;refine⟨.ref a,g1,a,ns.zip f,rfl,ha,λo=>?_⟩;have mu:Ip (H a):=by rw[ha];exact True.intro
   have kp:Kept H (upd H a (.frz o (.dK (ns.zip f)))):=Kept.upd (.inl mu);have es:O.set i (Z (.ref a))=O:=by
    obtain⟨h,e⟩:=Zb.mp g1;rw[← e];exact Wu h
   have aΦ:a∈R i:=by rw[eF];exact Zx
   have sub:∀b∈M.flatten,b∈R i:=λb d=>by rw[eF];exact Zw _ d
   have s1:SR G (iX R i M.flatten) (U.set i (Z (.pu (.dct 3 ((ns.map aw).zip C))))) O (upd H a (.frz o (.dK (ns.zip f)))):=by
    have:=s.put (c:=.pu (.dct 3 ((ns.map aw).zip C))) (v:=.ref a) (F:=M.flatten) (H':=upd H a (.frz o (.dK (ns.zip f)))) Jl (.dctZ aj JT (ra.off mu Jx.1)) (λj c' n Q w q=>q.keep kp λb d ob ho=>by
     rw[ar (λz=>s.sep i j _ c' r Q (Ye n) a aΦ (by rw[← z];exact d))];exact ho) (λ_ z=>nomatch z) (λ_ z=>nomatch z) λj u n Q b d JD=>s.sep j i u _ Q r n b d (sub b JD)
    rw[es]at this;exact this
   have at_:∀{j c},(U.set i (Z (.pu (.dct 3 ((ns.map aw).zip C)))))[j]?=Z (Z c)->(j=i/\c=.pu (.dct 3 ((ns.map aw).zip C)))\/(j≠i/\U[j]?=Z (Z c)):=λ{j c} q=>by
    by_cases n:j=i
    ·subst n;rw[Xg Jl]at q;exact .inl ⟨rfl,(Zl (Zl q)).symm⟩
    ·rw[Y4 (Ye n)]at q;exact .inr ⟨n,q⟩
   have Mf:∀b,bX (iX R i M.flatten) (U.set i (Z (.pu (.dct 3 ((ns.map aw).zip C))))) b->bX R U b:=λb ⟨j,t,E,m⟩=>by
    rcases at_ E with⟨_,z⟩ | ⟨n,q⟩
    ·cases z
    ·rw[dD n]at m;exact⟨j,t,q,m⟩
   have fr:Jd R U H (iX R i M.flatten) (U.set i (Z (.pu (.dct 3 ((ns.map aw).zip C))))) (upd H a (.frz o (.dK (ns.zip f)))):=⟨λb ob h n=>⟨by rw[ar λz=>n ⟨i,_,r,by rw[z];exact aΦ⟩];exact h,λz=>n (Mf b z)⟩,λb h z=>by
    by_cases q:b=a
    ·rw[q,aj]at z;cases z
    ·rw[ar q]at z;exact h z,λb h=>.inl (Mf b h),λb ⟨j,t,E,m⟩=>by
    rcases at_ E with⟨rfl,z⟩ | ⟨n,q⟩
    ·rw[gH]at m;exact .inr (.inl ⟨j,_,r,sub b m⟩)
    ·rw[dD n]at m;exact .inl ⟨j,t,q,m⟩,kp⟩
   obtain⟨R2,U2,m2,l2,s2,e2,k2⟩:=uE (G:=G) (ci:=km i) (g:=g) (cb:=cb) (D:=D) (O:=O) (H:=upd H a (.frz o (.dK (ns.zip f)))) ⟨_,_,out,s1,e,l7.back fr k⟩;refine k2 (R0 a o (ns.zip f)) _ [] (aG.refl _) ?_ (λb d=>nomatch d);unfold km at e2;split at e2
   ·rename_i l3 h3;split at e2
    ·rename_i hint;cases e2;obtain⟨v3,E,m⟩:=s2.rp _ _ h3;rw[g1]at E;cases E;obtain⟨a3,o3,SX,Rj,OR,Fs3,QK,_,Kd,JU,rfl,LS⟩:=n5 m;cases QK;rw[aj]at Kd;have hz:ns.zip f=SX.zip Rj:=HO.dK.inj (HO.frz.inj (Zl Kd)).2;have ek:=zip_inj JT JU hz;subst ek;have em:((ns.map aw).zip OR).map (·.1)=ns.map aw:=Xs (by rw[Zy,JU,LS.len.1];exact Zo _);have zl:(ns.zip f).length=ns.length:=by rw[Z1,JT,Nat.min_self]
     refine⟨λH2 Iu _=>⟨λn t L=>?_,λn L=>?_⟩,λb d=>nomatch d⟩
     ·rw[em,ZV]at L;obtain⟨kk,LX,Lg⟩:=Zv.mp L;have Qs:=(Zb.mp LX).1;refine⟨⟨Iu.frz _ _ _ aj,by rw[zl];exact Qs⟩,λy H3 hy=>?_⟩;obtain⟨rfl,p,P,rfl⟩:=hy;refine⟨aG.refl _,[],?_,λb d=>nomatch d⟩;have O5:p.1=kk:=by
       have Ly:(ns.zip f)[n]?=Z p:=P;rw[Yi]at Ly;rw[LX]at Ly;exact(Zl Ly.1).symm
      have hi:isInt t=B:=by
       have:=Yq.mp hint (t,OR[n]'(by rw[← LS.len.1,← JU];exact Qs)) (by
        refine YJ (i:=n) ?_;rw[Yi];exact⟨by rw[ZV,LX];exact congrArg Z Lg,Zp _⟩)
       exact this
      rw[O5,← Lg];rw[← Lg]at hi;cases kk with
      |inl n=>exact .int n
      |inr z=>cases hi
     ·refine⟨Iu.frz _ _ _ aj,?_⟩;rw[em,Zy]at L;rw[zl];exact L
    ·cases e2
   ·cases e2
  ·cases e
end
end VS
end
section
namespace T11
open VS
noncomputable section
def aJ:Mt:=Kh 0 4 4 [J,J,B]
  (ak (sX (iS 0 [.fld 1] aC (ab (aa 1) ag)))
  (ak (sX (iS 0 [.fld 2] aC (ab (aa 2) ag)))
  (ak (nM 0 [.fld 3] 3)
  (dS (e2 oZ (eN cT (ab (aU 1 (aa 0)) ag)) (Q3 1))))))
def di:Mt:=Kh 0 1 1 (List.replicate 0 J)
  (ak (jw 0 1 (hV ag))
  (ak (jw 0 2 (hV ag))
  (ak (jw 0 3 (hV ag))
  (PH (bC 0 [] 0 [J,J,B] aJ (ab (Q3 0) (ab (eC .non) (ab (j7 0 []) ag))))))))
def bJ:Sx :=
  (ak (eV 0 [.fld 3,.ix (aa 1)] (aa 2) (aa 5))
  (aI 1 (e2 aD (aU 2 (aa 0)) (aa 1))))
def av:Mt:=Kh 0 3 6 [J,J]
  (ak (aI 3 (e2 JS (e2 aD (aU 3 (aa 0)) (aa 1)) (aa 2)))
  (ak (aI 4 (e2 cM (e2 aD (aU 1 (aa 0)) (aa 1)) (Q3 1)))
  (ak (Js (e2 oEq (e2 aD (aU 1 (aa 0)) (aa 3)) (aa 4)) (iQ 3) d6)
  (ak (jy 5 (bC 0 [] 0 [J,J,B] aJ (ab (aa 4) (ab (e2 aD (aU 2 (aa 0)) (aa 3)) (ab (eN lH (ab (e2 aD (aU 3 (aa 0)) (aa 3)) ag)) ag)))))
  (ak (eV 0 [.fld 2] (aa 3) (aa 5))
  (ak (nI (i5 (fR (aa 1)) (e2 oEq (e2 xj (e2 aD (aU 3 (aa 0)) (aa 1)) (aa 2)) (aa 3))) bJ)
  (iQ 5)))))))
def bM:Sx :=
  (ak (eV 0 [.fld 3,.ix (aa 4)] (aa 2) (aa 3))
  (aI 4 (e2 aD (aU 2 (aa 0)) (aa 4))))
def bH:Mt:=Kh 0 3 5 [J,J]
  (ak (Js (e2 mG (aa 2) (e2 aD (aU 3 (aa 0)) (aa 1))) (pQ (bC 0 [] 0 [J,J] av (ab (aa 1) (ab (aa 2) ag)))) d6)
  (ak (jy 3 (bC 0 [] 0 [J,J,B] aJ (ab (e2 cM (e2 aD (aU 1 (aa 0)) (aa 1)) (Q3 1)) (ab (Q3 0) (ab (j7 0 []) ag)))))
  (ak (aI 4 (aa 1))
  (ak (nI (i5 (fR (aa 4)) (e2 dh (aa 2) (e2 aD (aU 3 (aa 0)) (aa 4)))) bM)
  (ak (Js (fR (aa 4)) (jM 0 [.fld 2] (aa 3) (bC 0 [] 0 [J,J] av (ab (aa 4) (ab (aa 2) ag)))) d6)
  (iQ 3))))))
def bV:Sx :=
  (jy 1 (bC 0 [] 0 [J,J] bH (ab (aa 1) (ab (aa 3) ag))))
def aP:Mt:=Kh 0 3 4 [J,J]
  (ak (gM (bu 3) (g7 (aa 2)) bV)
  (iQ 1))
def bj:Sx :=
  (Js (e2 dh (e2 JS (aa 4) (aa 5)) (aa 1)) (ak (sR 1 (e2 JS (aa 4) (aa 5)) (eN cT (ab (aa 2) ag)))
  (sX (qP 2 [] aC (ab (e2 JS (aa 4) (aa 5)) ag)))) d6)
def bT:Sx :=
  (ak (aI 4 (e2 aD (aU 3 (aa 0)) (e2 aD (aa 2) (aa 3))))
  (ak (gM (bu 5) (g7 (eN gK (ab (aa 4) ag))) bj)
  (aI 3 (e2 cM (aa 3) (Q3 1)))))
def aH:Fn:=fn 1 6
  (ak (nL 1 (j7 0 [((Q3 0),(Q3 0))]))
  (ak (nL 2 (hV (ab (Q3 0) ag)))
  (ak (aI 3 (Q3 0))
  (ak (nI (e2 oLt (aa 3) (eN cT (ab (aa 2) ag))) bT)
  (ak (wF 2)
  (iQ 1))))))
def bS:Fn:=fn 3 6
  (ak (aI 3 (e2 aD (aU 2 (aa 0)) (aa 1)))
  (ak (aI 4 (e2 aD (aU 3 (aa 0)) (aa 1)))
  (ak (aI 5 (eN iy (ab (dy 1 (bu 0) (g7 (eN gK (ab (aa 4) ag))) Y (pX (ab (aa 0) (ab (e2 j8 (aa 3) (e2 JS (aa 5) (aa 0))) ag)))) ag)))
  (ak (Js (Ao (aa 3)) (dS (pX (ab (Q3 0) (ab (Q3 0) (ab (eC .non) (ab (aa 5) ag)))))) d6)
  (dS (pX (ab (e2 cM (e2 aD (aU 1 (aa 0)) (aa 3)) (Q3 1)) (ab (e2 aD (aU 1 (aa 0)) (aa 1)) (ab (e2 j8 (aa 2) (aa 3)) (ab (aa 5) ag))))))))))
def dz:Fn:=fn 1 2
  (ak (nL 1 (eY 0 aH (aa 0) ag))
  (yV 1 (bu 0) (eY 0 bS (aa 1) (ab (aa 0) (ab (aa 2) ag)))))
def br:Mt:=Kh 1 1 1 []
  (ak (Js (e2 OW (eN cT (ab (aU 4 (aa 0)) ag)) (Q3 8)) Rt d6)
  (ak (sX (iS 0 [.fld 4] aC (ab (eC (.str [])) ag)))
  (ak (sX (iS 0 [.fld 5] aC (ab (Q3 0) ag)))
  (dS (e2 oZ (eN cT (ab (aU 4 (aa 0)) ag)) (Q3 1))))))
def jV:Fn:=fn 1 1
  (dS (i5 (QM .int (aa 0)) (pZ (QM .bool (aa 0)))))
def ba:Fn:=fn 2 2
  (Js (NZ (pZ (bU jV (ab (aa 1) ag))) (pZ (lP oLe oLt (Q3 0) (aa 1) (eN cT (ab (aa 0) ag))))) Rt d6)
def fS:Fn:=fn 1 1
  (dS (eN B6 (ab (dy 1 (bu 0) (g7 (aa 0)) Y (eN cT (ab (aa 0) ag))) ag)))
def bh:Mt:=Kh 1 3 3 [J,J]
  (ak (sX (xP (bU ba (ab (aU 4 (aa 0)) (ab (aa 1) ag)))))
  (ak (Js (e2 OV (e2 cM (bU fS (ab (aU 4 (aa 0)) ag)) (eN cT (ab (aa 2) ag))) (Q3 120)) Rt d6)
  (ak (jM 0 [.fld 5] (aa 1) (bC 0 [.fld 6] 0 [J,J] aP (ab (e2 aD (aU 5 (aa 0)) (aa 1)) (ab (aa 2) ag))))
  (eV 0 [.fld 4] (aa 1) (e2 cM (e2 aD (aU 4 (aa 0)) (aa 1)) (aa 2))))))
def bz:Sx :=
  (PH (o6 0 1 [J,J] bh (bC 0 [] 1 [] br ag) (ab (aa 2) ag)))
def aS:Mt:=Kh 1 2 3 (List.replicate 1 J)
  (ak (jw 0 4 (hV ag))
  (ak (jw 0 5 (hV ag))
  (ak (jw 0 6 (eNew 0 di ag))
  (Js (fR (aa 1)) (gM (bu 2) (g7 (aa 1)) bz) d6))))
def oM:Fn:=fn 1 1
  (dS (eN oz (ab (aU 4 (aa 0)) ag)))
def bY:Fn:=fn 1 1
  (dS (eY 0 dz (aU 6 (aa 0)) ag))
def aQ:Fn:=fn 2 2
  (ak (Js (e2 oLt (aa 1) (eN cT (ab (aa 0) ag))) (dS (e2 aD (aa 0) (aa 1))) d6)
  (dS (Q3 0)))
def eR:Fn:=fn 2 3
  (ak (aI 2 (e2 oMod (e2 cM (e2 cM (e2 oMod (aa 0) (Q3 2147483629)) (e2 mF (Q3 48271) (aa 1))) (Q3 11)) (Q3 2147483629)))
  (ak (aI 2 (e2 cM (e2 oMod (e2 mF (aa 2) (aa 2)) (Q3 2147483629)) (e2 mF (Q3 7919) (aa 1))))
  (dS (e2 oMod (e2 mF (aa 2) (aa 2)) (Q3 2147483587)))))
def eQ:Sx :=
  (Js (e2 oEq (e2 oMod (bU aQ (ab (aa 0) (ab (Q3 0) ag))) (Q3 2)) (Q3 0)) (ak (sX (qP 6 [] aC (ab (e2 aD (aa 1) (e2 oMod (aa 4) (eN cT (ab (aa 1) ag)))) ag)))
  (aI 4 (e2 cI (aa 4) (eN cT (ab (aa 1) ag))))) (sX (qP 6 [] aC (ab (e2 aD (aa 1) (e2 oMod (e2 cI (bU eR (ab (aa 4) (ab (e2 cM (e2 mF (Q3 30) (aa 3)) (aa 7)) ag))) (Q3 7)) (eN cT (ab (aa 1) ag)))) ag))))
def dH:Fn:=fn 4 8
  (ak (aI 4 (bU aQ (ab (aa 0) (ab (e2 cM (Q3 1) (aa 3)) ag))))
  (ak (aI 5 (e2 oMod (aa 4) (e2 cM (aa 2) (Q3 1))))
  (ak (aI 4 (e2 cI (aa 4) (e2 cM (aa 2) (Q3 1))))
  (ak (nL 6 (hV ag))
  (ak (gM (bu 7) (dE (aa 5)) eQ)
  (ak (wF 6)
  (dS (eM nu (eC (.str [])) (ab (aa 6) ag)))))))))
def iz:Fn:=fn 1 5
  (ak (aI 1 (bU aQ (ab (aa 0) (ab (Q3 0) ag))))
  (ak (aI 2 (e2 aD (hV (ab (eC (.str [97,98])) (ab (eC (.str [97,98,99])) (ab (eC (.str [97,98,99,100])) (ab (eC (.str [97,122])) (ab (eC (.str [97])) (ab (eC (.str [97,98,99,100,101,102,103,104,105,106,107,108,109,110,111,112,113,114,115,116,117,118,119,120,121,122])) ag))))))) (e2 oMod (e2 cI (aa 1) (Q3 2)) (Q3 6))))
  (ak (aI 3 (e2 aD (hV (ab (Q3 1) (ab (Q3 2) (ab (Q3 3) (ab (Q3 4) (ab (Q3 2) (ab (Q3 1) (ab (Q3 0) (ab (Q3 8) ag))))))))) (e2 oMod (e2 cI (aa 1) (Q3 12)) (Q3 8))))
  (ak (aI 4 (e2 aD (hV (ab (Q3 24) (ab (Q3 12) (ab (Q3 8) (ab (Q3 6) ag))))) (e2 oZ (eN rV (ab (aa 3) (ab (Q3 4) ag))) (Q3 1))))
  (ak (Js (e2 oEq (e2 oMod (e2 cI (aa 1) (Q3 96)) (Q3 8)) (Q3 5)) (aI 4 (e2 cI (Q3 60) (eN si (ab (Q3 1) (ab (aa 3) ag))))) d6)
  (ak (Js (i5 (e2 oEq (aa 3) (Q3 8)) (e2 Lu (e2 oMod (e2 cI (aa 1) (Q3 96)) (Q3 8)) (Q3 5))) (aI 4 (Q3 3)) d6)
  (dS (dy 1 (bu 0) (dE (aa 3)) Y (bU dH (ab (aa 1) (ab (aa 3) (ab (aa 5) (ab (aa 0) ag)))))))))))))
def dX:Sx :=
  (gI 1 (Pj (aa 3) (Z (aa 5)) (Z (aa 4))) (ab (pX (ab (aa 2) (ab (aa 4) ag))) ag))
def dR:Sx :=
  (gM (bu 5) (dE (e2 cM (aa 4) (Q3 1))) dX)
def cX:Sx :=
  (gM (bu 4) (dE (e2 cM (eN cT (ab (aa 3) ag)) (Q3 1))) dR)
def ff:Fn:=fn 1 6
  (ak (nL 1 (j7 0 [((eC (.str [])),(hV ag))]))
  (ak (gM (ur [(bu 2),(bu 3)]) (wb (aa 0)) cX)
  (iQ 1)))
def iT:Sx :=
  (ak (aI 4 (eN ly (ab (e2 aD (e2 aD (aa 0) (aa 2)) (Q3 3)) ag)))
  (ak (Js (e2 dh (aa 3) (aa 4)) (dS (eC .non)) d6)
  (aI 2 (e2 JS (aa 4) (aa 3)))))
def fI:Fn:=fn 2 5
  (ak (aI 2 (Q3 0))
  (ak (gM (bu 3) (g7 (aa 1)) iT)
  (iQ 2)))
def eU:Sx :=
  (ak (Js (NZ (e2 Lu (Pj (e2 aD (aa 3) (Q3 (-1))) (Z (e2 oZ (eN cT (ab (e2 aD (aa 3) (Q3 (-1))) ag)) (eN cT (ab (aa 6) ag)))) Y) (aa 6)) (e2 Lu (e2 JS (aa 1) (aa 6)) (e2 JS (aa 1) (e2 aD (aa 3) (Q3 0))))) (dS (eC (.bl J))) d6)
  (Js (e2 Lu (dy 1 (bu 0) (g7 (eC (.str [97,98,99,100,101,102,103,104,105,106,107,108,109,110,111,112,113,114,115,116,117,118,119,120,121,122]))) (Z (e2 mG (e2 cM (aa 7) (aa 0)) (aa 2))) (aa 0)) (dy 1 (bu 0) (g7 (e2 aD (aa 4) (Q3 3))) Y (e2 aD (aa 0) (Q3 0)))) (dS (eC (.bl J))) d6))
def cR:Fn:=fn 4 7
  (ak (aI 4 (e2 aD (aa 0) (aa 2)))
  (ak (aI 5 (dy 1 (bu 0) (g7 (aa 3)) Y (eN cT (ab (aa 0) ag))))
  (ak (Js (e2 Lu (aa 5) (eN mS (ab (e2 aD (aa 4) (Q3 0)) (ab (e2 cM (e2 aD (aa 4) (Q3 1)) (Q3 1)) ag)))) (dS (eC (.bl J))) d6)
  (ak (gM (bu 6) (g7 (aa 3)) eU)
  (dS (eC (.bl B)))))))
def kA:Sx :=
  (ak (aI 6 (bU fI (ab (aa 2) (ab (aa 5) ag))))
  (ak (Js (Ao (aa 6)) (dS (eC (.bl J))) d6)
  (gI 4 (aa 6) (ab (aa 5) ag))))
def ig:Sx :=
  (ak (aI 9 (eN iy (ab (e2 JS (aa 3) (e2 aD (e2 j8 (aa 4) (aa 8)) (Q3 0))) ag)))
  (ak (Js (NZ (e2 xO (aa 9) (aa 7)) (pZ (bU cR (ab (aa 2) (ab (aa 3) (ab (aa 8) (ab (e2 j8 (aa 4) (aa 8)) ag))))))) (dS (eC (.bl J))) d6)
  (sE 7 (aa 9) (eC (.bl B)))))
def Ae:Fn:=fn 1 10
  (ak (aI 1 (bU iz (ab (aa 0) ag)))
  (ak (aI 2 (eY 1 bY (eNew 1 aS (ab (eN oz (ab (aa 1) ag)) ag)) ag))
  (ak (aI 3 (bU ff (ab (aa 1) ag)))
  (ak (nL 4 (j7 0 []))
  (sG (bu 5) (zM (aa 3)) kA
  (ak (Js (e2 Lu (eN lD (ab (aa 4) ag)) (eN kH (ab (eN cT (ab (aa 2) ag)) ag))) (dS (eC (.bl J))) d6)
  (ak (nL 7 (j7 2 []))
  (ak (rT 4 (bu 8) ig)
  (ak (wF 7)
  (dS (eC (.bl B))))))))))))
end
end T11
end
section
namespace AU
structure St where
 lg:V2
 lk:List (Option Nat)
 wy:List (List (Nat×Nat))
noncomputable def gW(w:List (Nat×Nat))(c:Nat):Option Nat:=(w.find? λp=>p.1==c).map (·.2)
noncomputable def pW(w:List (Nat×Nat))(c m:Nat):List (Nat×Nat):=if w.any (λp=>p.1==c) then w.map (λp=>if p.1==c then (p.1,m) else p) else w++[(c,m)]
structure WF(S:St):Prop where
 lk:S.lk.length=S.lg.length
 wy:S.wy.length=S.lg.length
 pos:0<S.lg.length
 up:∀i n,S.lk.getD i none=some n->n<S.lg.length
 on:∀i c n,gW (S.wy.getD i []) c=some n->n<S.lg.length
 nd:∀w∈S.wy,(w.map (·.1)).Nodup
 az:∀w∈S.wy,∀p∈w,97<=p.1/\p.1<=122
theorem sub_len{α:Type}[DecidableEq α]:∀(l r:List α),l.Nodup->(∀x∈l,x∈r)->l.length<=r.length
 |[],_,_,_=>ZO _
 |a :: l,r,nd,h=>by
  obtain⟨g,f⟩:=ZY.mp nd;have d:a∈r:=h a Zx;have:=sub_len l (r.erase a) f λx b=>(List.mem_erase_of_ne (show x≠a from λe=>g (by rw[← e];exact b))).mpr (h x (Zw _ b));rw[List.length_erase_of_mem d]at this;have:0<r.length:=List.length_pos_of_mem d;rw[Za];lia
def WF.small(W:WF S)(i:Nat):(S.wy.getD i []).length<16777216:=by
 by_cases h:i<S.wy.length
 ·have a:S.wy.getD i []∈S.wy:=by
   rw[Zq,Zp h];exact Yx h
  have:=sub_len ((S.wy.getD i []).map (·.1)) (List.range 123) (W.nd _ a) λx b=>by
   obtain⟨p,d,rfl⟩:=Yw.mp b;have:=(W.az _ a p d).2;exact Z4.mpr (by exact Vk this)
  rw[Zy,Z0]at this;lia
 ·rw[Zq,Yv (Z7 h)];decide
def Fg(w:List (Nat×Nat))(c:Nat):(w.any λp=>p.1==c)=(gW w c).isSome:=by
 unfold gW;rw[Y5,XA,XI,List.find?_isSome]
def C4(w:List (Nat×Nat))(c m d:Nat):gW (pW w c m) d=if d=c then Z m else gW w d:=by
 unfold pW;split
 ·rename_i h
  induction w with
  |nil=>simp at h
  |cons p w b =>
   rw[Zn];unfold gW;rw[Z9,Z9];by_cases q:p.1=c
   ·rw[Zr (by simpa using q)];by_cases r:p.1=d
    ·have:(p.1==d)=B:=by simpa using r
     simp only[this];rw[Zr (by rw[← r,q])];rfl
    ·have a:(p.1==d)=J:=by simpa using r
     have:d≠c:=λe=>r (by rw[e,q]);simp only[a,Zm this];have key:∀w:List (Nat×Nat),(w.map λp=>if p.1==c then (p.1,m) else p).find? (λp=>p.1==d)=w.find? λp=>p.1==d:=by
      intro w
      induction w with
      |nil=>rfl
      |cons x w b =>
       rw[Zn,Z9,Z9,b];by_cases y:x.1=c
       ·rw[Zr (by simpa using y)];have:(x.1==d)=J:=by simpa using λe=>this (by rw[← e,y])
        simp only[this]
       ·rw[Zm (by simpa using y)]
     rw[key w]
   ·rw[Zm (by simpa using q)];have i:(w.any λp=>p.1==c)=B:=by
     rw[Xu]at h;simpa[q] using h
    have f:=b i;unfold gW at f;by_cases r:p.1=d
    ·have a:(p.1==d)=B:=by simpa using r
     simp only[a];rw[Zm (λe=>q (by rw[r,e]))]
    ·have a:(p.1==d)=J:=by simpa using r
     simp only[a];exact f
 ·rename_i h;unfold gW;rw[List.find?_append];by_cases q:d=c
  ·subst q;have:w.find? (λp=>p.1==d)=Y:=by
    rw[List.find?_eq_none];intro p g e;exact h (XI.mpr ⟨p,g,e⟩)
   rw[this,Zr M];simp
  ·rw[Zm q];have:((c==d)=J):=by simpa using λe=>q e.symm
   simp[this]
def CV(w:List (Nat×Nat))(c m:Nat)(d:(w.map (·.1)).Nodup):((pW w c m).map (·.1)).Nodup:=by
 unfold pW;split
 ·rw[ZA];have:((λp:Nat×Nat=>p.1) ∘ λp=>if (p.1==c)=B then (p.1,m) else p)=λp=>p.1:=by
   funext p;simp only[Function.comp];split<;>rfl
  rw[this];exact d
 ·rename_i h;rw[Yo,ZL];refine⟨d,by simp,λa g b hb e=>?_⟩;have i:b=c:=by simpa using hb
  subst e i;obtain⟨p,f,e⟩:=Yw.mp g;exact h (XI.mpr ⟨p,f,by simpa using e⟩)
def E5(h:p∈pW w c m):p.1=c\/p∈w:=by
 unfold pW at h;split at h
 ·obtain⟨q,a,rfl⟩:=Yw.mp h;by_cases r:(q.1==c)=B
  ·rw[Zr r];exact .inl (by simpa using r)
  ·rw[Zm r];exact .inr a
 ·rcases Zd.mp h with h | h
  ·exact .inr h
  ·rw[Ze.mp h];exact .inl M
def ie{α:Type}(l:List α)(i j:Nat)(x d:α):(l.set i x).getD j d=if i=j/\i<l.length then x else l.getD j d:=by
 rw[Zq,Zq,Vg];by_cases h:i=j
 ·subst h;by_cases a:i<l.length
  ·rw[Zr M,Zr a,Zr ⟨rfl,a⟩];rfl
  ·rw[Zr M,Zm a,Zm (λz=>a z.2),Yv (Z7 a)]
 ·rw[Zm h,Zm (λz=>h z.1)]
def bR{α:Type}(l:List α)(x d:α)(j:Nat):(l++[x]).getD j d=if j=l.length then x else l.getD j d:=by
 rw[Zq,Zq];by_cases h:j<l.length
 ·rw[Yz h,Zm (Zc h)]
 ·rw[Yu (Z7 h)];by_cases a:j=l.length
  ·rw[Zr a,a,Vm];rfl
  ·rw[Zm a,Yv (Z7 h),Yv (by simp;lia)]
def WF.way(W:WF S){n c v:Nat}(g:v<S.lg.length)(j:97<=c/\c<=122):WF ⟨S.lg,S.lk,S.wy.set n (pW (S.wy.getD n []) c v)⟩:=by
 refine⟨W.lk,by rw[Ya];exact W.wy,W.pos,W.up,λi d m h=>?_,λw hw=>?_,λw hw p f=>?_⟩
 ·show m<S.lg.length;have b:gW ((S.wy.set n (pW (S.wy.getD n []) c v)).getD i []) d=Z m:=h;rw[ie]at b;split at b
  ·rw[C4]at b;split at b
   ·cases b;exact g
   ·exact W.on n d m b
  ·exact W.on i d m b
 ·by_cases a:n<S.wy.length
  ·rcases List.mem_or_eq_of_mem_set hw with h | h
   ·exact W.nd w h
   ·rw[h];refine CV _ c v (W.nd _ ?_);rw[Zq,Zp a];exact Yx a
  ·rw[List.set_eq_of_length_le (Z7 a)]at hw;exact W.nd w hw
 ·by_cases a:n<S.wy.length
  ·rcases List.mem_or_eq_of_mem_set hw with h | h
   ·exact W.az w h p f
   ·rw[h]at f;rcases E5 f with e | e
    ·rw[e];exact j
    ·refine W.az _ ?_ p e;rw[Zq,Zp a];exact Yx a
  ·rw[List.set_eq_of_length_le (Z7 a)]at hw;exact W.az w hw p f
def WF.link{S:St}(W:WF S){n v:Nat}(b:v<S.lg.length):WF ⟨S.lg,S.lk.set n (Z v),S.wy⟩:=by
 refine⟨by rw[Ya];exact W.lk,W.wy,W.pos,λi m h=>?_,W.on,W.nd,W.az⟩;have a:(S.lk.set n (Z v)).getD i Y=Z m:=h;rw[ie]at a;split at a
 ·cases a;exact b
 ·exact W.up i m a
def WF.more(W:WF S){l:Nat}{o:Option Nat}{w:List (Nat×Nat)}(f:∀n,o=Z n->n<S.lg.length)(hw:∀c n,gW w c=Z n->n<S.lg.length)(e:(w.map (·.1)).Nodup)(g:∀p∈w,97<=p.1/\p.1<=122):WF ⟨S.lg++[l],S.lk++[o],S.wy++[w]⟩:=by
 have b:∀{n},n<S.lg.length->n<(S.lg++[l]).length:=λh=>by rw[Zs,Yr];exact YW h
 refine⟨by rw[Zs,Zs,W.lk];rfl,by rw[Zs,Zs,W.wy];rfl,by rw[Zs];exact ZG W.pos (ZJ _ _),λi n h=>?_,λi c n h=>?_,λx d=>?_,λx d=>?_⟩
 ·have a:(S.lk++[o]).getD i Y=Z n:=h;rw[bR]at a;split at a
  ·exact b (f n a)
  ·exact b (W.up i n a)
 ·have a:gW ((S.wy++[w]).getD i []) c=Z n:=h;rw[bR]at a;split at a
  ·exact b (hw c n a)
  ·exact b (W.on i c n a)
 ·rcases Zd.mp d with h | h
  ·exact W.nd x h
  ·rw[Ze.mp h];exact e
 ·rcases Zd.mp d with h | h
  ·exact W.az x h
  ·rw[Ze.mp h];exact g
def up1(c v:Nat):Nat->St->Option Nat->Option (St×Option Nat)
 |_,S,none=>Z (S,Y)
 |0,_,some _=>Y
 |k+1,S,some n=>if (gW (S.wy.getD n []) c).isSome then Z (S,Z n) else up1 c v k ⟨S.lg,S.lk,S.wy.set n (pW (S.wy.getD n []) c v)⟩ (S.lk.getD n Y)
def NF(c a v:Nat):Nat->St->Option Nat->Option St
 |_,S,none=>Z S
 |0,_,some _=>Y
 |k+1,S,some n=>if gW (S.wy.getD n []) c=Z a then NF c a v k ⟨S.lg,S.lk,S.wy.set n (pW (S.wy.getD n []) c v)⟩ (S.lk.getD n Y) else Z S
def Nj(S:St)(n c:Nat):Option (St×Nat):=(gW (S.wy.getD n []) c).bind λold=>if S.lg.getD old 0=S.lg.getD n 0+1 then Z (S,old) else
 (NF c old S.lg.length 1000 ⟨S.lg++[S.lg.getD n 0+1],(S.lk++[S.lk.getD old Y]).set old (Z S.lg.length),S.wy++[S.wy.getD old []]⟩ (Z n)).map λa=>(a,S.lg.length)
def hb(S:St)(h c:Nat):Option (St×Nat):=if (gW (S.wy.getD h []) c).isSome then Nj S h c else
 (up1 c S.lg.length 1000 ⟨S.lg++[S.lg.getD h 0+1],S.lk++[Z 0],S.wy++[[]]⟩ (Z h)).bind λz=>match z.2 with
  |none=>Z (z.1,S.lg.length)
  |some n=>(Nj z.1 n c).map λy=>(⟨y.1.lg,y.1.lk.set S.lg.length (Z y.2),y.1.wy⟩,S.lg.length)
def hg(S:St)(h:Nat):V2->Option (St×Nat)
 |[]=>Z (S,h)
 |c :: r=>(hb S h c).bind λz=>hg z.1 z.2 r
noncomputable def Sm(S:St):Prop:=S.lg.length<=100001
def WF.Px(W:WF S)(i:Nat):((S.wy.getD i []).map (·.1)).Nodup/\∀p∈S.wy.getD i [],97<=p.1/\p.1<=122:=by
 by_cases h:i<S.wy.length
 ·have a:S.wy.getD i []∈S.wy:=by
   rw[Zq,Zp h];exact Yx h
  exact⟨W.nd _ a,W.az _ a⟩
 ·rw[Zq,Yv (Z7 h)];exact⟨Y1,λp b=>nomatch b⟩
noncomputable def S0:St:=⟨[0],[Y],[[]]⟩
def C5:WF S0:=by
 refine⟨rfl,rfl,by decide,λi n h=>?_,λi c n h=>?_,λw hw=>?_,λw hw p a=>?_⟩
 ·cases i with
  |zero=>cases h
  |succ i=>cases h
 ·cases i with
  |zero=>cases h
  |succ i=>cases h
 ·rw[Ze.mp hw];exact Y1
 ·rw[Ze.mp hw]at a;cases a
end AU
end
section
namespace VS
def e2v{b:Ex}{x y z:Val}(g:a U=Z x)(e:b U=Z y)(d:f x y=Z z):e2 f a b U=Z z:=by
 show (a U).bind _=_;rw[g,Zt,e];exact d
def xv{r:IQ}{x:Val}(e:a U=Z x)(d:r U=Z b):ab a r U=Z (x :: b):=by
 show (a U).bind _=_;rw[e,Zt,d];rfl
def zH{m:Md}(h:c U=Z (m,.bl B)):Js c a b U=a U:=by
 show (c U).bind _=_;rw[h];rfl
def wH{m:Md}(h:c U=Z (m,.bl J)):Js c a b U=b U:=by
 show (c U).bind _=_;rw[h];rfl
def iP{v:Val}(h:a U=Z b)(d:f b=Z v):eN f a U=Z v:=by
 show (a U).bind f=_;rw[h,Zt,d]
def ft{e:Ex}{U:Env}{t:T}(h:e U=Z (.fr,t)):dS e U=Z (.rt (.fr,t) U):=by
 show (e U).bind _=_;rw[h];rfl
def mQ(h:a U=Z (.rt v d)):ak a b U=Z (.rt v d):=by
 show (a U).bind _=_;rw[h];rfl
def bg{a b:Sx}{U U1:Env}(h:a U=Z (.nx U1)):ak a b U=b U1:=by
 show (a U).bind _=_;rw[h];rfl
def sq{a b:Sx}{U U1:Env}{r:Option Out}(h:a U=Z (.nx U1))(q:b U1=r):ak a b U=r:=(bg h).trans q
def O0{m:Md}(h:c U=Z (m,.bl B))(q:a U=r):Js c a b U=r:=(zH h).trans q
def kM{c:Ex}{a:Sx}{U:Env}{m:Md}{r:Option Out}(h:c U=Z (m,.bl J))(q:b U=r):Js c a b U=r:=(wH h).trans q
def fF{a:V8}{v:Val}{U:Env}(f:a.length=d)(h:b (a.map (λt=>Z (.pu t))++List.replicate (e-d) Y)=Z (.rt v U)):fn d e b a=Z v:=by
 unfold fn;rw[Zr f,h];rfl
def Hs{a:V8}{U:Env}(f:a.length=d)(h:b (a.map (λt=>Z (.pu t))++List.replicate (e-d) Y)=Z (.nx U)):fn d e b a=Z (.fr,.non):=by
 unfold fn;rw[Zr f,h];rfl
def uX{m:Md}{x:Bool}(f:a U=Z (m,.bl x))(e:x=B->b U=Z v)(d:x=J->v=(.fr,.bl J)):i5 a b U=Z v:=by
 show (a U).bind _=_;rw[f,Zt];cases x with
 |true=>exact e M
 |false=>exact congrArg Z (d M).symm
def C1{m:Md}{x:Bool}(f:a U=Z (m,.bl x))(e:x=J->b U=Z v)(d:x=B->v=(.fr,.bl B)):NZ a b U=Z v:=by
 show (a U).bind _=_;rw[f,Zt];cases x with
 |false=>exact e M
 |true=>exact congrArg Z (d M).symm
def HU{m n:Md}{x y:Bool}(f:a U=Z (m,.bl x))(d:b U=Z (.fr,.bl y)):i5 a b U=Z (.fr,.bl (x&&y)):=uX f (λe=>by rw[e];exact d) (λe=>by rw[e];rfl)
def UN{m n:Md}{x y:Bool}(f:a U=Z (m,.bl x))(d:b U=Z (.fr,.bl y)):NZ a b U=Z (.fr,.bl (x||y)):=C1 f (λe=>by rw[e];exact d) (λe=>by rw[e];rfl)
def ud{m:Md}{b:Bool}(h:a U=Z (m,.bl b)):pZ a U=Z (.fr,.bl (!b)):=by
 show (a U).bind _=_;rw[h];rfl
def Cd{x y z:Val}(j:a U=Z x)(i:b U=Z y)(h:f x y=Z (.fr,.bl B))(e:c U=Z z)(d:g y z=Z v):lP f g a b c U=Z v:=by
 show (a U).bind _=_;rw[j,Zt,i,Zt,h,Zt];show (c U).bind _=_;rw[e];exact d
def C2{n:Nat}{i:Int}(b:0<=i)(a:i<n):JP n i=Z i.toNat:=by rw[JP,Zr b,Zr a]
def zD(a:i<n):JP n (i:Int)=Z i:=by
 rw[JP,Zr (Int.natCast_nonneg i),Zr (Int.ofNat_lt.mpr a)];rfl
def B0(l:V3)(i:Int)(b:0<=i)(a:i<l.length):aD (m,.scr l) (n,.int i)=Z (.fr,.int (l.getD i.toNat 0)):=by
 have d:i.toNat<l.length:=by lia
 show (JP l.length i).bind _=_;rw[C2 b a,Zt,Zq,Zp d];rfl
def Es(t:Tx)(i:Int)(b:0<=i)(a:i<t.length):aD (m,.str t) (n,.int i)=Z (.fr,.str [t.getD i.toNat 0]):=by
 have d:i.toNat<t.length:=by lia
 show (JP t.length i).bind _=_;rw[C2 b a,Zt,Zq,Zp d];rfl
def o9(e:Jn 60 a=B)(d:Jn 60 b=B)(h:eqT a b=r):oEq (m,a) (n,b)=Z (.fr,.bl r):=by
 show (if Jn 60 a/\Jn 60 b then Z (Md.fr,T.bl (eqT a b)) else Y)=_;rw[Zr ⟨e,d⟩,h]
def pE{m n:Md}{r:Bool}(e:Jn 60 a=B)(d:Jn 60 b=B)(h:eqT a b=r):Lu (m,a) (n,b)=Z (.fr,.bl (!r)):=by
 show (if Jn 60 a/\Jn 60 b then Z (Md.fr,T.bl (!eqT a b)) else Y)=_;rw[Zr ⟨e,d⟩,h]
def As{i:Nat}{U:Env}{l:V8}{v:T}(f:U[i]?=Z (Z (.ow (.lst l))))(d:e U=Z (.fr,v))(b:l.length<16777216):sX (qP i [] aC (ab e ag)) U=Z (.nx (U.set i (Z (.ow (.lst (l++[v])))))):=by
 have a:ab e ag U=Z [(.fr,v)]:=xv d M;unfold sX qP;rw[f];show ((Z ([]:List Ky)).bind _ |>.map _)=_;rw[Zt,a,Zt];show ((aC (.lst l) [(.fr,v)]).map _ |>.map _)=_;rw[cf b];rfl
def DW{m n:Md}{x y:Tx}(e:a U=Z (m,.str x))(d:b U=Z (n,.str y))(h:x.length+y.length<=16777216):e2 cM a b U=Z (.fr,.str (x++y)):=e2v e d (tU h)
end VS
end
section
namespace T11
open VS AU
noncomputable abbrev pc(t:T):V5:=Z (.pu t)
abbrev Q0(i:Int):Option Cell:=Z (.pu (.int i))
abbrev Q2(t:Tx):Option Cell:=Z (.pu (.str t))
noncomputable abbrev oc(t:T):V5:=Z (.ow t)
noncomputable def IB(w:List (Nat×Nat)):T:=.dct 0 (w.map λp=>(T.str [p.1],T.int (p.2:Int)))
noncomputable def IM:Option Nat->T
 |none=>.non
 |some n=>.int (n:Int)
def Li(S:St):tD:=[(1,.lst (S.lg.map λ(n:Nat)=>T.int (n:Int))),(2,.lst (S.lk.map IM)),(3,.lst (S.wy.map IB))]
def xh(S:St)(b:Bool):T:=.obj 1 ((0,.bl b) :: Li S)
def lz(o:Option Nat):Iq (IM o)=B:=by cases o<;>rfl
theorem eD{α:Type}(f:α->T)(h:∀a,fi (f a)=B):∀l:List α,cO (l.map f)=B
 |[]=>rfl
 |a :: l=>by rw[Zn,cO,h a,eD f h l];rfl
def zm(w:List (Nat×Nat)):fi (IB w)=B:=by
 show pP (w.map λp=>(T.str [p.1],T.int (p.2:Int)))=B
 induction w with
 |nil=>rfl
 |cons p w a=>rw[Zn,pP,a];rfl
def kg(S:St):dJ (Li S)=B:=by
 have d:fi (.lst (S.lg.map λ(n:Nat)=>T.int (n:Int)))=B:=eD _ (λ_=>rfl) _;have b:fi (.lst (S.lk.map IM))=B:=eD _ (λo=>oy _ (lz o)) _;have a:fi (.lst (S.wy.map IB))=B:=eD _ zm _;show ((fi _ && !(1==0&&Nm _))&&((fi _ && !(2==0&&Nm _))&&((fi _ && !(3==0&&Nm _))&&B)))=B;rw[d,b,a];rfl
def Gp(S:St)(b:Bool):qC 1 (xh S b)=Z (.lst (S.lg.map λ(n:Nat)=>T.int (n:Int))):=rfl
def HM(S:St)(b:Bool):qC 2 (xh S b)=Z (.lst (S.lk.map IM)):=rfl
def HV(S:St)(b:Bool):qC 3 (xh S b)=Z (.lst (S.wy.map IB)):=rfl
def gS{m:Md}{t:T}(h:a U=Z (m,t))(b:qC k t=Z u):aU k a U=Z (sub m u):=by
 unfold aU;rw[h,Zt,b];rfl
def ku{α:Type}(f:α->T)(l:List α)(i:Nat)(d:α)(h:i<l.length):aD (m,.lst (l.map f)) (n,.int (i:Int))=Z (sub m (f (l.getD i d))):=by
 show (JP (l.map f).length (i:Int)).bind _=_;rw[Zy,zD h,Zt,ZV,Zp h,Zq,Zp h];rfl
section
def tN{i:Nat}(h:a U=Z (m,xh S b))(he:e U=Z (n,.int (i:Int)))(d:i<S.lg.length):e2 aD (aU 1 a) e U=Z (.fr,.int ((S.lg.getD i 0:Nat):Int)):=e2v (gS h (Gp S b)) he (ku _ _ i 0 d)
def we{i:Nat}(h:a U=Z (m,xh S b))(he:e U=Z (n,.int (i:Int)))(d:i<S.lk.length):e2 aD (aU 2 a) e U=Z (.fr,IM (S.lk.getD i Y)):=(e2v (gS h (HM S b)) he (ku _ _ i Y d)).trans (by
 show Z (up _ _)=_;unfold up;rw[lz];rfl)
def nF{i:Nat}(h:a U=Z (m,xh S b))(he:e U=Z (n,.int (i:Int)))(d:i<S.wy.length):e2 aD (aU 3 a) e U=Z (m,IB (S.wy.getD i [])):=e2v (gS h (HV S b)) he (ku _ _ i [] d)
def FG(h:a U=Z (m,xh S b)):eN cT (ab (aU 1 a) ag) U=Z (.fr,.int (S.lg.length:Nat)):=iP (xv (gS h (Gp S b)) M) (by
 show Z (Md.fr,T.int (((S.lg.map λ(n:Nat)=>T.int (n:Int)).length:Nat):Int))=_;rw[Zy])
end
def DC(a c:Nat):eqT (.str [a]) (.str [c])=(a==c):=by
 simp only[eqT];by_cases h:a=c
 ·simp[h]
 ·simp[h]
def qu(w:List (Nat×Nat))(c:Nat):cP (w.map λp=>(T.str [p.1],T.int (p.2:Int))) (.str [c])=(gW w c).map λ(n:Nat)=>T.int (n:Int):=by
 unfold cP gW;rw[List.find?_map];have:((λp:T×T=>eqT p.1 (.str [c])) ∘ λp:Nat×Nat=>(T.str [p.1],T.int (p.2:Int)))=λp:Nat×Nat=>p.1==c:=by
  funext p;exact DC p.1 c
 rw[this];cases w.find? λp=>p.1==c with
 |none=>rfl
 |some p=>rfl
def Ha(w:List (Nat×Nat))(c m:Nat):dput (w.map λp=>(T.str [p.1],T.int (p.2:Int))) (.str [c]) (.int (m:Int))=(pW w c m).map λp=>(T.str [p.1],T.int (p.2:Int)):=by
 have a:(w.map λp=>(T.str [p.1],T.int (p.2:Int))).any (λp=>eqT p.1 (.str [c]))=w.any λp=>p.1==c:=by
  rw[List.any_map];congr 1;funext p;exact DC p.1 c
 unfold dput pW;rw[a];split
 ·rw[ZA,ZA];apply Xz;intro p _;simp only[Function.comp,DC];split<;>rfl
 ·rw[Yo];rfl
section
def Ie(h:a U=Z (m,IB w))(he:e U=Z (n,.str [c])):e2 mG e a U=Z (.fr,.bl (gW w c).isSome):=e2v he h (by
 show (if B=B then Z (Md.fr,T.bl (cP _ _).isSome) else Y)=_;rw[Zr M,qu,Y5])
def Dn(h:a U=Z (m,IB w))(he:e U=Z (n,.str [c])):e2 dh e a U=Z (.fr,.bl (!(gW w c).isSome)):=e2v he h (by
 show (match (if B=B then Z (Md.fr,T.bl (cP (w.map λp=>(T.str [p.1],T.int (p.2:Int))) (.str [c])).isSome) else Y) with | some (_,.bl b)=>some (Md.fr,T.bl (!b)) | _=>none)=_;rw[Zr M,qu,Y5])
def xN(h:a U=Z (m,IB w))(he:e U=Z (n,.str [c]))(d:gW w c=Z v):e2 JS a e U=Z (.fr,.int (v:Int)):=e2v h he (by
 show (if B=B then (cP _ _).map (sub m) else Y)=_;rw[Zr M,qu,d];rfl)
def Gg(h:a U=Z (m,IB w))(he:e U=Z (n,.str [c])):e2 xj a e U=Z (.fr,IM (gW w c)):=e2v h he (by
 show (if B=B then Z (match cP (w.map λp=>(T.str [p.1],T.int (p.2:Int))) (.str [c]) with | some t=>sub m t | none=>(.fr,.non)) else none)=_;rw[Zr M,qu];cases gW w c with
 |none=>rfl
 |some v=>rfl)
def AK{S:St}{v:Nat}(d:i<S.wy.length)(he:e (oc (xh S b) :: r)=Z (n,.int (i:Int)))(l:ec (oc (xh S b) :: r)=Z (m,.str [c]))(g:ev (oc (xh S b) :: r)=Z (k,.int (v:Int)))(f:(S.wy.getD i []).length<16777216) :
  eV 0 [.fld 3,.ix e] ec ev (oc (xh S b) :: r)=Z (.nx (oc (xh ⟨S.lg,S.lk,S.wy.set i (pW (S.wy.getD i []) c v)⟩ b) :: r)):=by
 unfold eV;rw[g,Zt];show ((keys [.fld 3,.ix e] (oc (xh S b) :: r)).bind _)=_;have j:keys [.fld 3,.ix e] (oc (xh S b) :: r)=Z [.fld 3,.at (.int (i:Int))]:=by
  show ((e _).bind _).map _=_;rw[he];rfl
 rw[j,Zt,l,Zt];have h:pm (j4 (m,.str [c]) (k,.int (v:Int))) [.fld 3,.at (.int (i:Int))] (xh S b)=Z (xh ⟨S.lg,S.lk,S.wy.set i (pW (S.wy.getD i []) c v)⟩ b,()):=by
  show ((pm (j4 (m,.str [c]) (k,.int (v:Int))) [.at (.int (i:Int))] (.lst (S.wy.map IB))).map _)=_;have:pm (j4 (m,.str [c]) (k,.int (v:Int))) [.at (.int (i:Int))] (.lst (S.wy.map IB))=Z (.lst ((S.wy.set i (pW (S.wy.getD i []) c v)).map IB),()):=by
   show ((JP (S.wy.map IB).length (i:Int)).bind _)=_;rw[Zy,zD d,Zt,ZV,Zp d];show ((j4 (m,.str [c]) (k,.int (v:Int)) (IB S.wy[i])).map _)=_;have e1:S.wy.getD i []=S.wy[i]:=by rw[Zq,Zp d];rfl
   rw[e1]at f ⊢;show ((if B=B/\B=B/\(S.wy[i].map _).length<eu then Z (T.dct 0 (dput _ _ _),()) else Y).map _)=_;rw[Zr ⟨rfl,rfl,by rw[Zy];exact f⟩,Ha,WH];rfl
  rw[this];rfl
 rw[h];rfl
def x6{S:St}{v:Nat}{r:List (V5)}(h:i<S.lk.length)(he:e (oc (xh S b) :: r)=Z (n,.int (i:Int)))(d:ev (oc (xh S b) :: r)=Z (.fr,.int (v:Int))) :
  eV 0 [.fld 2] e ev (oc (xh S b) :: r)=Z (.nx (oc (xh ⟨S.lg,S.lk.set i (Z v),S.wy⟩ b) :: r)):=by
 unfold eV;rw[d,Zt];show ((keys [.fld 2] (oc (xh S b) :: r)).bind _)=_;have g:keys [.fld 2] (oc (xh S b) :: r)=Z [.fld 2]:=rfl;rw[g,Zt,he,Zt];have f:pm (j4 (n,.int (i:Int)) (.fr,.int (v:Int))) [.fld 2] (xh S b)=Z (xh ⟨S.lg,S.lk.set i (Z v),S.wy⟩ b,()):=by
  show ((j4 (n,.int (i:Int)) (.fr,.int (v:Int)) (.lst (S.lk.map IM))).map _)=_;have:j4 (n,.int (i:Int)) (.fr,.int (v:Int)) (.lst (S.lk.map IM))=Z (.lst ((S.lk.set i (Z v)).map IM),()):=by
   show ((JP (S.lk.map IM).length (i:Int)).map _)=_;rw[Zy,zD h,WH];rfl
  rw[this];rfl
 rw[f];rfl
end
def qO{c:Ex}{n:Nat}{m:Md}(e:c U=Z (m,.bl B))(d:a U=Z (.nx b)):fA c a (n+1) U=fA c a n b:=by
 show (c U).bind _=_;rw[e];show (if B=B then (a U).bind _ else Z (.nx U))=_;rw[Zr M,d];rfl
def gw{m:Md}(b:c U=Z (m,.bl J)):fA c a (n+1) U=Z (.nx U):=by
 show (c U).bind _=_;rw[b];rfl
def ju{mv:List Bool}{as:IQ}{xs:V6}{S:St}{v:T}{b:Bool}{r:List (V5)}(h:as (oc (xh S b) :: r)=Z xs)(i:argsOk mv xs=B)(j:cO (trees xs)=B)(f:g (Li S) (trees xs)=Z (Li a,v))(e:Iq v=B) :
  bC 0 [] 0 mv g as (oc (xh S b) :: r)=Z ((.fr,v),oc (xh a b) :: r):=by
 show ((Z ([]:List Ky)).bind λd=>(as (oc (xh S b) :: r)).bind λxs=>(pm (mf 0 mv g xs) d (xh S b)).map λz=>(z.2,(oc (xh S b) :: r).set 0 (oc z.1)))=_;rw[Zt,h,Zt];show ((if 1=0+1/\dJ (Li S)=B/\argsOk mv xs=B/\cO (trees xs)=B then (g (Li S) (trees xs)).bind λz=>if dJ z.1=B/\Iq z.2=B then Z (T.obj 1 ((0,.bl b) :: z.1),(Md.fr,z.2)) else Y else Y).map _)=_;rw[Zr ⟨rfl,kg S,i,j⟩,f,Zt,Zr ⟨kg a,e⟩];rfl
def Ef{e:Ex}{S:St}{b:Bool}{r:List (V5)}{v:Nat}(h:e (oc (xh S b) :: r)=Z (.fr,.int (v:Int)))(f:S.lg.length<16777216):sX (iS 0 [.fld 1] aC (ab e ag)) (oc (xh S b) :: r)=Z (.nx (oc (xh ⟨S.lg++[v],S.lk,S.wy⟩ b) :: r)):=by
 show (((Z [Ky.fld 1]).bind λd=>(ab e ag (oc (xh S b) :: r)).bind λa=>(pm (λx=>aC x a) d (xh S b)).map _).map _)=_;rw[Zt,xv (r:=ag) h M,Zt];show (((aC (.lst (S.lg.map λ(n:Nat)=>T.int (n:Int))) [(.fr,.int (v:Int))]).map _).map _ |>.map _)=_;rw[cf (by rw[Zy];exact f),show (S.lg.map λ(n:Nat)=>T.int (n:Int))++[.int (v:Int)]=(S.lg++[v]).map λ(n:Nat)=>T.int (n:Int) from by rw[Yo];rfl];rfl
def Dy{e:Ex}{S:St}{b:Bool}{r:List (V5)}{v:Option Nat}(h:e (oc (xh S b) :: r)=Z (.fr,IM v))(f:S.lk.length<16777216):sX (iS 0 [.fld 2] aC (ab e ag)) (oc (xh S b) :: r)=Z (.nx (oc (xh ⟨S.lg,S.lk++[v],S.wy⟩ b) :: r)):=by
 show (((Z [Ky.fld 2]).bind λd=>(ab e ag (oc (xh S b) :: r)).bind λa=>(pm (λx=>aC x a) d (xh S b)).map _).map _)=_;rw[Zt,xv (r:=ag) h M,Zt];show (((aC (.lst (S.lk.map IM)) [(.fr,IM v)]).map _).map _ |>.map _)=_;rw[cf (by rw[Zy];exact f),show (S.lk.map IM)++[IM v]=(S.lk++[v]).map IM from by rw[Yo];rfl];rfl
def DU(o:Option Nat):up .pu (IM o)=(.fr,IM o):=by
 unfold up;rw[lz];rfl
def zw(S:St)(l:Nat)(o:Option Nat)(w:List (Nat×Nat))(f:S.lg.length<16777216)(d:S.lk.length<16777216)(a:S.wy.length<16777216):aJ (Li S) [.int (l:Int),IM o,IB w]=Z (Li ⟨S.lg++[l],S.lk++[o],S.wy++[w]⟩,.int (S.lg.length:Int)):=by
 have j:=Ef (S:=S) (b:=B) (r:=[Q0 (l:Int),pc (IM o),oc (IB w)]) (e:=aa 1) (v:=l) M f;have i:=Dy (S:=⟨S.lg++[l],S.lk,S.wy⟩) (b:=B) (r:=[Q0 (l:Int),pc (IM o),oc (IB w)]) (e:=aa 2) (v:=o) (congrArg Z (DU o)) d;have h:nM 0 [.fld 3] 3 [oc (xh ⟨S.lg++[l],S.lk++[o],S.wy⟩ B),Q0 (l:Int),pc (IM o),oc (IB w)]=Z (.nx [oc (xh ⟨S.lg++[l],S.lk++[o],S.wy++[w]⟩ B),Q0 (l:Int),pc (IM o),Y]):=by
  show ((aC (.lst (S.wy.map IB)) [(.fr,IB w)]).map _ |>.map _)=_;rw[cf (by rw[Zy];exact a),show (S.wy.map IB)++[IB w]=(S.wy++[w]).map IB from by rw[Yo];rfl];rfl
 have g:=ft (e:=e2 oZ (eN cT (ab (aU 1 (aa 0)) ag)) (Q3 1)) (U:=[oc (xh ⟨S.lg++[l],S.lk++[o],S.wy++[w]⟩ B),Q0 (l:Int),pc (IM o),Y]) (t:=.int (S.lg.length:Int)) (e2v (FG (m:=.bo) M) M (by
  show Z (Md.fr,T.int ((((S.lg++[l]).length:Nat):Int)-1))=_;rw[Zs,Yr,show (((S.lg.length+1:Nat)):Int)-1=(S.lg.length:Int) by omega]))
 unfold aJ Kh;rw[Zr ⟨rfl,rfl⟩];have body:=sq (b:=ak (sX (iS 0 [.fld 2] aC (ab (aa 2) ag))) (ak (nM 0 [.fld 3] 3) (dS (e2 oZ (eN cT (ab (aU 1 (aa 0)) ag)) (Q3 1))))) j (sq i (sq h g));exact congrArg (λz:Option Out=>z.bind _) body
def E9(C:97<=c/\c<=122):∀(k:Nat)(S b:St)(o:Option Nat),WF S->v<S.lg.length->(∀n,o=Z n->n<S.lg.length)->NF c a v k S o=Z b->WF b/\b.lg=S.lg/\∃d,∀N,k<N->∀z:V5,
  fA (i5 (fR (aa 1)) (e2 oEq (e2 xj (e2 aD (aU 3 (aa 0)) (aa 1)) (aa 2)) (aa 3))) bJ N [oc (xh S B),pc (IM o),Q2 ([c]),Q0 (a:Int),z,Q0 (v:Int)] =
   Z (.nx [oc (xh b B),pc (IM d),Q2 ([c]),Q0 (a:Int),z,Q0 (v:Int)]):=by
 intro k
 induction k with
 |zero =>
  intro S b o W f j e;cases o with
  |none =>
   cases (show Z S=Z b from e);refine⟨W,rfl,Y,λN hN z=>?_⟩;obtain⟨N,rfl⟩:∃M,N=M+1:=⟨N-1,by omega⟩
   exact gw (m:=.fr) rfl
  |some n=>cases e
 |succ k w =>
  intro S b o W f j e;cases o with
  |none =>
   cases (show Z S=Z b from e);refine⟨W,rfl,Y,λN hN z=>?_⟩;obtain⟨N,rfl⟩:∃M,N=M+1:=⟨N-1,by omega⟩
   exact gw (m:=.fr) rfl
  |some n =>
   have l:=j n rfl;have p:n<S.wy.length:=by rw[W.wy];exact l
   have cond:∀z:V5,i5 (fR (aa 1)) (e2 oEq (e2 xj (e2 aD (aU 3 (aa 0)) (aa 1)) (aa 2)) (aa 3)) [oc (xh S B),Q0 (n:Int),Q2 ([c]),Q0 (a:Int),z,Q0 (v:Int)]=Z (.fr,.bl (decide (gW (S.wy.getD n []) c=Z a))):=λz=>by
    refine uX (m:=.fr) (x:=B) rfl (λ_=>?_) (λh=>by cases h);refine e2v (Gg (m:=.bo) (nF (m:=.bo) (n:=.fr) rfl rfl p) (n:=.fr) rfl) (y:=(.fr,.int (a:Int))) rfl ?_;cases hg:gW (S.wy.getD n []) c with
    |none=>rw[ZI (by simp)];exact o9 rfl rfl rfl
    |some q =>
     refine(o9 rfl rfl (show eqT (.int (q:Int)) (.int (a:Int))=decide (Z q=Z a) from ?_));simp only[eqT];by_cases h:q=a
     ·subst h;simp
     ·have E:¬(q:Int)=(a:Int):=by omega
      have D:¬Z q=Z a:=λz=>h (Zl z);rw[ZI D];exact ZE.mpr E
   unfold NF at e;split at e
   ·rename_i g;have F:=W.way (n:=n) (c:=c) (v:=v) f C;obtain⟨u,s,d,r⟩:=w _ b (S.lk.getD n Y) F f (λm A=>W.up n m A) e;refine⟨u,s,d,λN hN z=>?_⟩;obtain⟨N,rfl⟩:∃M,N=M+1:=⟨N-1,by omega⟩
    refine(qO (m:=.fr) ((cond z).trans (by rw[decide_eq_true g])) ?_).trans (r N (by omega) z);unfold bJ;refine sq (AK (S:=S) (i:=n) (n:=.fr) (m:=.fr) (k:=.fr) (c:=c) (v:=v) p rfl rfl rfl (W.small n)) ?_;have G:n<S.lk.length:=by rw[W.lk];exact l
    exact aK (m:=.fr) (t:=IM (S.lk.getD n Y)) (we (S:=⟨S.lg,S.lk,S.wy.set n (pW (S.wy.getD n []) c v)⟩) (m:=.bo) (n:=.fr) rfl rfl G) (by decide) (by decide:1<6)
   ·rename_i g;cases e;refine⟨W,rfl,Z n,λN hN z=>?_⟩;obtain⟨N,rfl⟩:∃M,N=M+1:=⟨N-1,by omega⟩
    exact gw (m:=.fr) ((cond z).trans (by rw[ZI g]))
def FH(y:97<=c/\c<=122):∀(k:Nat)(S a:St)(o b:Option Nat),WF S->v<S.lg.length->(∀n,o=Z n->n<S.lg.length)->up1 c v k S o=Z (a,b)->WF a/\a.lg=S.lg/\(∀n,b=Z n->n<S.lg.length)/\∀N,k<N->∀z:V5,
  fA (i5 (fR (aa 4)) (e2 dh (aa 2) (e2 aD (aU 3 (aa 0)) (aa 4)))) bM N [oc (xh S B),z,Q2 ([c]),Q0 (v:Int),pc (IM o)] =
   Z (.nx [oc (xh a B),z,Q2 ([c]),Q0 (v:Int),pc (IM b)]):=by
 intro k
 induction k with
 |zero =>
  intro S a o b W d g e;cases o with
  |none =>
   cases (show Z (S,Y)=Z (a,b) from e);refine⟨W,rfl,(λn h=>nomatch h),λN hN z=>?_⟩;obtain⟨N,rfl⟩:∃M,N=M+1:=⟨N-1,by omega⟩
   exact gw (m:=.fr) rfl
  |some n=>cases e
 |succ k u =>
  intro S a o b W d g e;cases o with
  |none =>
   cases (show Z (S,Y)=Z (a,b) from e);refine⟨W,rfl,(λn h=>nomatch h),λN hN z=>?_⟩;obtain⟨N,rfl⟩:∃M,N=M+1:=⟨N-1,by omega⟩
   exact gw (m:=.fr) rfl
  |some n =>
   have j:=g n rfl;have l:n<S.wy.length:=by rw[W.wy];exact j
   have cond:∀z:V5,i5 (fR (aa 4)) (e2 dh (aa 2) (e2 aD (aU 3 (aa 0)) (aa 4))) [oc (xh S B),z,Q2 ([c]),Q0 (v:Int),Q0 (n:Int)]=Z (.fr,.bl (!(gW (S.wy.getD n []) c).isSome)):=λz =>
    uX (m:=.fr) (x:=B) rfl (λ_=>Dn (m:=.bo) (n:=.fr) (nF (m:=.bo) (n:=.fr) rfl rfl l) rfl) (λh=>by cases h)
   unfold up1 at e;split at e
   ·rename_i f;cases e;refine⟨W,rfl,g,λN hN z=>?_⟩;obtain⟨N,rfl⟩:∃M,N=M+1:=⟨N-1,by omega⟩
    exact gw (m:=.fr) ((cond z).trans (by rw[f];rfl))
   ·rename_i f;have A:=W.way (n:=n) (c:=c) (v:=v) d y;obtain⟨s,r,p,q⟩:=u _ a (S.lk.getD n Y) b A d (λm w=>W.up n m w) e;refine⟨s,r,p,λN hN z=>?_⟩;obtain⟨N,rfl⟩:∃M,N=M+1:=⟨N-1,by omega⟩
    have D:(gW (S.wy.getD n []) c).isSome=J:=by simpa using f
    refine(qO (m:=.fr) ((cond z).trans (by rw[D];rfl)) ?_).trans (q N (by omega) z);unfold bM;refine sq (AK (S:=S) (i:=n) (n:=.fr) (m:=.fr) (k:=.fr) (c:=c) (v:=v) l rfl rfl rfl (W.small n)) ?_;have C:n<S.lk.length:=by rw[W.lk];exact j
    exact aK (m:=.fr) (t:=IM (S.lk.getD n Y)) (we (S:=⟨S.lg,S.lk,S.wy.set n (pW (S.wy.getD n []) c v)⟩) (m:=.bo) (n:=.fr) rfl rfl C) (by decide) (by decide:4<5)
def EW(a b:Nat):oEq (m,.int (a:Int)) (n,.int (b:Int))=Z (.fr,.bl (decide (a=b))):=o9 M M (by
 simp only[eqT];by_cases h:a=b
 ·subst h;simp
 ·rw[ZI h];exact ZE.mpr (by omega))
def Ak{S:St}{n r:Nat}(W:WF S)(F:Sm S)(q:n<S.lg.length)(G:97<=c/\c<=122)(e:Nj S n c=Z (a,r)):WF a/\r<a.lg.length/\S.lg.length<=a.lg.length/\a.lg.length<=S.lg.length+1/\av (Li S) [.int (n:Int),.str [c]]=Z (Li a,.int (r:Int)):=by
 unfold Nj at e;obtain⟨old,j,e⟩:=Zz.mp e;have hold:=W.on n c old j;have R:n<S.wy.length:=by rw[W.wy];exact q
 have how:old<S.wy.length:=by rw[W.wy];exact hold
 have xb:old<S.lk.length:=by rw[W.lk];exact hold
 have Qq:S.lg.length<=100001:=F;unfold av Kh;rw[Zr ⟨rfl,rfl⟩];have s1:=aK (i:=3) (m:=.fr) (e:=e2 JS (e2 aD (aU 3 (aa 0)) (aa 1)) (aa 2)) (U:=[oc (xh S B),Q0 (n:Int),Q2 ([c]),Y,Y,Y]) (xN (m:=.bo) (n:=.fr) (nF (m:=.bo) (n:=.fr) M M R) M j) (by decide) (by decide:3<6);have h:=aK (i:=4) (m:=.fr) (e:=e2 cM (e2 aD (aU 1 (aa 0)) (aa 1)) (Q3 1)) (U:=[oc (xh S B),Q0 (n:Int),Q2 ([c]),Q0 (old:Int),Y,Y]) (t:=.int ((S.lg.getD n 0+1:Nat):Int)) (e2v (tN (m:=.bo) (n:=.fr) M M q) M M) (by decide) (by decide:4<6);have cd:e2 oEq (e2 aD (aU 1 (aa 0)) (aa 3)) (aa 4) [oc (xh S B),Q0 (n:Int),Q2 ([c]),Q0 (old:Int),Q0 ((S.lg.getD n 0+1:Nat):Int),Y]=Z (.fr,.bl (decide (S.lg.getD old 0=S.lg.getD n 0+1))):=e2v (tN (m:=.bo) (n:=.fr) M M hold) (y:=(.fr,.int ((S.lg.getD n 0+1:Nat):Int))) M (EW _ _);split at e
 ·rename_i g;obtain⟨rfl,rfl⟩:=WR (Zl e);rw[decide_eq_true g]at cd;refine⟨W,hold,Zo _,Wk _,?_⟩;have body:∀b:Sx,ak (aI 3 (e2 JS (e2 aD (aU 3 (aa 0)) (aa 1)) (aa 2))) (ak (aI 4 (e2 cM (e2 aD (aU 1 (aa 0)) (aa 1)) (Q3 1))) (ak (Js (e2 oEq (e2 aD (aU 1 (aa 0)) (aa 3)) (aa 4)) (iQ 3) d6) b)) [oc (xh S B),Q0 (n:Int),Q2 ([c]),Y,Y,Y]=Z (.rt (.fr,.int (old:Int)) [oc (xh S B),Q0 (n:Int),Q2 ([c]),Q0 (old:Int),Q0 ((S.lg.getD n 0+1:Nat):Int),Y]):=λb =>
   sq s1 (sq h (mQ (O0 cd M)))
  exact congrArg (λz:Option Out=>z.bind _) (body _)
 ·rename_i g;rw[ZI g]at cd;obtain⟨s,Q,H⟩:=Zv.mp e;obtain⟨rfl,rfl⟩:=WR H;have wn:=W.Px old;have P:=W.more (l:=S.lg.getD n 0+1) (o:=S.lk.getD old Y) (w:=S.wy.getD old []) (λm f=>W.up old m f) (λd m f=>W.on old d m f) wn.1 wn.2;have hlen:(S.lg++[S.lg.getD n 0+1]).length=S.lg.length+1:=by rw[Zs];rfl
  have O:=P.link (n:=old) (v:=S.lg.length) (by show S.lg.length<(S.lg++[S.lg.getD n 0+1]).length;omega);obtain⟨A,x,X,u⟩:=E9 G 1000 _ s (Z n) O (by show S.lg.length<(S.lg++[S.lg.getD n 0+1]).length;omega) (λm f=>by cases f;show n<(S.lg++[S.lg.getD n 0+1]).length;omega) Q;have R9:s.lg.length=S.lg.length+1:=by rw[x];exact hlen
  refine⟨A,by omega,by omega,by omega,?_⟩;have nw:=zw S (S.lg.getD n 0+1) (S.lk.getD old Y) (S.wy.getD old []) (by omega) (by rw[W.lk];omega) (by rw[W.wy];omega);have args:ab (aa 4) (ab (e2 aD (aU 2 (aa 0)) (aa 3)) (ab (eN lH (ab (e2 aD (aU 3 (aa 0)) (aa 3)) ag)) ag)) [oc (xh S B),Q0 (n:Int),Q2 ([c]),Q0 (old:Int),Q0 ((S.lg.getD n 0+1:Nat):Int),Y]=Z [(.fr,.int ((S.lg.getD n 0+1:Nat):Int)),(.fr,IM (S.lk.getD old Y)),(.fr,IB (S.wy.getD old []))] :=
   xv M (xv (we (m:=.bo) (n:=.fr) M M xb) (xv (iP (xv (nF (m:=.bo) (n:=.fr) M M how) M) (by
    show (if fE (((S.wy.getD old []).map λp=>(T.str [p.1],T.int (p.2:Int))).map (·.2))=B then Z (Md.fr,IB (S.wy.getD old [])) else Y)=_;rw[Zr (by rw[ZA];exact kJ _ (λ_=>rfl) _)])) M))
  have N:argsOk [J,J,B] [(.fr,.int ((S.lg.getD n 0+1:Nat):Int)),(.fr,IM (S.lk.getD old Y)),(.fr,IB (S.wy.getD old []))]=B:=by
   show (B&&(Iq (IM (S.lk.getD old Y))&&B))=B;rw[lz];rfl
  have an:cO (trees [(Md.fr,T.int ((S.lg.getD n 0+1:Nat):Int)),(.fr,IM (S.lk.getD old Y)),(.fr,IB (S.wy.getD old []))])=B:=by
   show (B&&(fi (IM (S.lk.getD old Y))&&(fi (IB (S.wy.getD old []))&&B)))=B;rw[oy _ (lz _),zm];rfl
  have L:=ju (b:=B) args N an nw M;have E:jy 5 (bC 0 [] 0 [J,J,B] aJ (ab (aa 4) (ab (e2 aD (aU 2 (aa 0)) (aa 3)) (ab (eN lH (ab (e2 aD (aU 3 (aa 0)) (aa 3)) ag)) ag)))) [oc (xh S B),Q0 (n:Int),Q2 ([c]),Q0 (old:Int),Q0 ((S.lg.getD n 0+1:Nat):Int),Y]=Z (.nx [oc (xh ⟨S.lg++[S.lg.getD n 0+1],S.lk++[S.lk.getD old Y],S.wy++[S.wy.getD old []]⟩ B),Q0 (n:Int),Q2 ([c]),Q0 (old:Int),Q0 ((S.lg.getD n 0+1:Nat):Int),Q0 (S.lg.length:Int)]):=by
   unfold jy;rw[L];rfl
  have D:=x6 (S:=⟨S.lg++[S.lg.getD n 0+1],S.lk++[S.lk.getD old Y],S.wy++[S.wy.getD old []]⟩) (b:=B) (r:=[Q0 (n:Int),Q2 ([c]),Q0 (old:Int),Q0 ((S.lg.getD n 0+1:Nat):Int),Q0 (S.lg.length:Int)]) (i:=old) (v:=S.lg.length) (n:=.fr) (e:=aa 3) (ev:=aa 5) (by show old<(S.lk++[S.lk.getD old Y]).length;rw[Zs];omega) M M;have C:=u AB (by decide) (Q0 ((S.lg.getD n 0+1:Nat):Int));exact congrArg (λz:Option Out=>z.bind _) (sq s1 (sq h (sq (kM cd M) (sq E (sq D (sq C M))))))
def Gi{S S':St}{r:Nat}(W:WF S)(Qq:S.lg.length<=100000)(x:h<S.lg.length)(y:97<=c/\c<=122)(e:hb S h c=Z (S',r)):WF S'/\r<S'.lg.length/\S.lg.length<=S'.lg.length/\S'.lg.length<=S.lg.length+2/\bH (Li S) [.int (h:Int),.str [c]]=Z (Li S',.int (r:Int)):=by
 have hw:h<S.wy.length:=by rw[W.wy];exact x
 unfold hb at e;unfold bH Kh;rw[Zr ⟨rfl,rfl⟩];have cd:e2 mG (aa 2) (e2 aD (aU 3 (aa 0)) (aa 1)) [oc (xh S B),Q0 (h:Int),Q2 ([c]),Y,Y]=Z (.fr,.bl (gW (S.wy.getD h []) c).isSome):=Ie (m:=.bo) (n:=.fr) (nF (m:=.bo) (n:=.fr) M M hw) M;split at e
 ·rename_i u;rw[u]at cd;obtain⟨s,q,t,A,E⟩:=Ak W (Vj Qq) x y e;refine⟨s,q,t,by omega,?_⟩;have j:=ju (mv:=[J,J]) (as:=ab (aa 1) (ab (aa 2) ag)) (xs:=[(.fr,.int (h:Int)),(.fr,.str [c])]) (b:=B) (r:=[Q0 (h:Int),Q2 ([c]),Y,Y]) M M M E M;have s1:pQ (bC 0 [] 0 [J,J] av (ab (aa 1) (ab (aa 2) ag))) [oc (xh S B),Q0 (h:Int),Q2 ([c]),Y,Y]=Z (.rt (.fr,.int (r:Int)) [oc (xh S' B),Q0 (h:Int),Q2 ([c]),Y,Y]):=by
   unfold pQ;rw[j];rfl
  exact congrArg (λz:Option Out=>z.bind _) (mQ (O0 cd s1))
 ·rename_i u;have Lz:(gW (S.wy.getD h []) c).isSome=J:=by simpa using u
  rw[Lz]at cd;obtain⟨⟨a,o⟩,e1,D⟩:=Zz.mp e;have X:=W.more (l:=S.lg.getD h 0+1) (o:=Z 0) (w:=[]) (λm g=>by cases g;exact W.pos) (λd m g=>by cases g) Y1 (λp P=>nomatch P);have hlen:(S.lg++[S.lg.getD h 0+1]).length=S.lg.length+1:=by rw[Zs];rfl
  obtain⟨s,q,t,A⟩:=FH y 1000 _ a (Z h) o X (by show S.lg.length<(S.lg++[S.lg.getD h 0+1]).length;omega) (λm g=>by cases g;show h<(S.lg++[S.lg.getD h 0+1]).length;omega) e1;have R9:a.lg.length=S.lg.length+1:=by rw[q];exact hlen
  have nw:=zw S (S.lg.getD h 0+1) (Z 0) [] (by omega) (by rw[W.lk];omega) (by rw[W.wy];omega);have args:ab (e2 cM (e2 aD (aU 1 (aa 0)) (aa 1)) (Q3 1)) (ab (Q3 0) (ab (j7 0 []) ag)) [oc (xh S B),Q0 (h:Int),Q2 ([c]),Y,Y]=Z [(.fr,.int ((S.lg.getD h 0+1:Nat):Int)),(.fr,.int 0),(.fr,.dct 0 [])] :=
   xv (e2v (tN (m:=.bo) (n:=.fr) M M x) M M) (xv M (xv M M))
  have j:=ju (mv:=[J,J,B]) (b:=B) args M M nw M;have s1:jy 3 (bC 0 [] 0 [J,J,B] aJ (ab (e2 cM (e2 aD (aU 1 (aa 0)) (aa 1)) (Q3 1)) (ab (Q3 0) (ab (j7 0 []) ag)))) [oc (xh S B),Q0 (h:Int),Q2 ([c]),Y,Y]=Z (.nx [oc (xh ⟨S.lg++[S.lg.getD h 0+1],S.lk++[Z 0],S.wy++[[]]⟩ B),Q0 (h:Int),Q2 ([c]),Q0 (S.lg.length:Int),Y]):=by
   unfold jy;rw[j];rfl
  have N:=A AB (by decide) (Q0 (h:Int));have hd:∀b:Sx,ak (Js (e2 mG (aa 2) (e2 aD (aU 3 (aa 0)) (aa 1))) (pQ (bC 0 [] 0 [J,J] av (ab (aa 1) (ab (aa 2) ag)))) d6)
    (ak (jy 3 (bC 0 [] 0 [J,J,B] aJ (ab (e2 cM (e2 aD (aU 1 (aa 0)) (aa 1)) (Q3 1)) (ab (Q3 0) (ab (j7 0 []) ag)))))
    (ak (aI 4 (aa 1)) (ak (nI (i5 (fR (aa 4)) (e2 dh (aa 2) (e2 aD (aU 3 (aa 0)) (aa 4)))) bM) b))) [oc (xh S B),Q0 (h:Int),Q2 ([c]),Y,Y] =
    b [oc (xh a B),Q0 (h:Int),Q2 ([c]),Q0 (S.lg.length:Int),pc (IM o)]:=λb =>
   sq (kM cd M) (sq s1 (sq M (bg N)))
  cases o with
  |none =>
   obtain⟨rfl,rfl⟩:=WR (Zl D);have fin:ak (Js (fR (aa 4)) (jM 0 [.fld 2] (aa 3) (bC 0 [] 0 [J,J] av (ab (aa 4) (ab (aa 2) ag)))) d6) (iQ 3) [oc (xh a B),Q0 (h:Int),Q2 ([c]),Q0 (S.lg.length:Int),pc (IM Y)] =
     Z (.rt (.fr,.int (S.lg.length:Int)) [oc (xh a B),Q0 (h:Int),Q2 ([c]),Q0 (S.lg.length:Int),pc (IM Y)]):=sq (kM (m:=.fr) M M) M
   refine⟨s,by show S.lg.length<a.lg.length;omega,by show S.lg.length<=a.lg.length;omega,by show a.lg.length<=_;omega,?_⟩;exact congrArg (λz:Option Out=>z.bind _) ((hd _).trans fin)
  |some n =>
   obtain⟨⟨f,m⟩,U,R⟩:=Zv.mp D;obtain⟨rfl,rfl⟩:=WR R;have Q:n<a.lg.length:=by
    have:=t n M;rw[q];exact this
   obtain⟨C,H,v3,v4,G⟩:=Ak s (by show a.lg.length<=100001;omega) Q y U;have F:=C.link (n:=S.lg.length) (v:=m) H;have j:=ju (mv:=[J,J]) (as:=ab (aa 4) (ab (aa 2) ag)) (xs:=[(.fr,.int (n:Int)),(.fr,.str [c])]) (b:=B) (r:=[Q0 (h:Int),Q2 ([c]),Q0 (S.lg.length:Int),Q0 (n:Int)]) M M M G M;have O:=x6 (S:=f) (b:=B) (r:=[Q0 (h:Int),Q2 ([c]),Q0 (S.lg.length:Int),Q0 (n:Int)]) (i:=S.lg.length) (v:=m) (n:=.fr) (e:=aa 3) (ev:=λ_=>Z (.fr,.int (m:Int))) (by rw[C.lk];omega) M M;have L:jM 0 [.fld 2] (aa 3) (bC 0 [] 0 [J,J] av (ab (aa 4) (ab (aa 2) ag))) [oc (xh a B),Q0 (h:Int),Q2 ([c]),Q0 (S.lg.length:Int),Q0 (n:Int)]=Z (.nx [oc (xh ⟨f.lg,f.lk.set S.lg.length (Z m),f.wy⟩ B),Q0 (h:Int),Q2 ([c]),Q0 (S.lg.length:Int),Q0 (n:Int)]):=by
    unfold jM;rw[j];exact O
   have fin:ak (Js (fR (aa 4)) (jM 0 [.fld 2] (aa 3) (bC 0 [] 0 [J,J] av (ab (aa 4) (ab (aa 2) ag)))) d6) (iQ 3) [oc (xh a B),Q0 (h:Int),Q2 ([c]),Q0 (S.lg.length:Int),Q0 (n:Int)] =
     Z (.rt (.fr,.int (S.lg.length:Int)) [oc (xh ⟨f.lg,f.lk.set S.lg.length (Z m),f.wy⟩ B),Q0 (h:Int),Q2 ([c]),Q0 (S.lg.length:Int),Q0 (n:Int)]):=sq (O0 (m:=.fr) M L) M
   refine⟨F,by show S.lg.length<f.lg.length;omega,by show S.lg.length<=f.lg.length;omega,by show f.lg.length<=_;omega,?_⟩;exact congrArg (λz:Option Out=>z.bind _) ((hd _).trans fin)
theorem zc{S S':St}:∀{word:V2}{h r:Nat},WF S->S.lg.length+2*word.length<=100000->h<S.lg.length->(∀c∈word,97<=c/\c<=122)->hg S h word=Z (S',r) →
  WF S'/\r<S'.lg.length/\S'.lg.length<=S.lg.length+2*word.length/\∀f:V5,∀a:T,∃j,forL (bu 3) bV (word.map λc=>T.str [c]) [oc (xh S B),Q0 (h:Int),pc a,f]=Z (.nx [oc (xh S' B),Q0 (r:Int),pc a,j])
 |[],h,r,W,l,g,i,e=>by
  obtain⟨rfl,rfl⟩:=WR (Zl e);exact⟨W,g,by simp,λf a=>⟨f,rfl⟩⟩
 |c :: word,h,r,W,l,g,i,e=>by
  obtain⟨⟨v,A⟩,e1,w⟩:=Zz.mp e;rw[Za]at l;obtain⟨o,n,y,x,m⟩:=Gi W (by omega) g (i c Zx) e1;obtain⟨t,s,z,p⟩:=zc (S:=v) (S':=S') (word:=word) o (by omega) n (λd hd=>i d (Zw _ hd)) w;refine⟨t,s,by rw[Za];omega,λf a=>?_⟩;obtain⟨j,q⟩:=p (Q2 ([c])) a;refine⟨j,?_⟩;rw[Zn];refine(fJ (U1:=[oc (xh S B),Q0 (h:Int),pc a,Q2 ([c])]) M ?_).trans q;have u:=ju (mv:=[J,J]) (as:=ab (aa 1) (ab (aa 3) ag)) (xs:=[(.fr,.int (h:Int)),(.fr,.str [c])]) (b:=B) (r:=[Q0 (h:Int),pc a,Q2 ([c])]) M M M m M;unfold bV jy;rw[u];rfl
def Di{S S':St}{a:Tx}{r:Nat}(W:WF S)(i:S.lg.length+2*a.length<=100000)(j:h<S.lg.length)(n:∀c∈a,97<=c/\c<=122)(e:hg S h a=Z (S',r)) :
  WF S'/\r<S'.lg.length/\S'.lg.length<=S.lg.length+2*a.length/\aP (Li S) [.int (h:Int),.str a]=Z (Li S',.int (r:Int)):=by
 obtain⟨g,f,d,b⟩:=zc W i j n e;obtain⟨o,q⟩:=b Y (.str a);refine⟨g,f,d,?_⟩;unfold aP Kh;rw[Zr ⟨rfl,rfl⟩];have s1:=(iJ (tg:=bu 3) (it:=g7 (aa 2)) (body:=bV) (U:=[oc (xh S B),Q0 (h:Int),Q2 a,Y]) (m:=.fr) (l:=a.map λc=>T.str [c]) M M).trans q;exact congrArg (λz:Option Out=>z.bind _) (sq s1 M)
end T11
end
section
namespace AU
noncomputable abbrev Wd:=V2
noncomputable abbrev W(a:List Wd)(n:Nat):Wd:=a.getD n []
structure I(fr:Option Nat)(S:St)(nd:Wd->Option Nat)(wd:List Wd):Prop where
 wf:WF S
 len:wd.length=S.lg.length
 lg:∀n,n<wd.length->S.lg.getD n 0=(W wd n).length
 z:nd []=some 0
 wz:W wd 0=[]
 lt:∀{x n},nd x=some n->n<wd.length
 sf:∀{x n},nd x=some n->x <:+ W wd n
 top:∀{n},n<wd.length->nd (W wd n)=some n
 iv:∀{x y n},nd x=some n->x <:+ y->y <:+ W wd n->nd y=some n
 pre:∀{x c n},nd (x++[c])=some n->∃m,nd x=some m
 Ng:∀{x y n},nd y=some n->x <:+ y->∃m,nd x=some m
 OY:S.lk.getD 0 none=none
 lk:∀{n},0<n->n<wd.length->some n≠fr->∃m,S.lk.getD n none=some m/\(m<wd.length/\some m≠fr)/\W wd m <:+ W wd n/\(W wd m).length<(W wd n).length/\∀y,y <:+ W wd n->(W wd m).length<y.length->nd y=some n
 wy:∀{x n},nd x=some n->∀c,gW (S.wy.getD n []) c=nd (x++[c])
def dj{α:Type}{x y w:List α}(d:x <:+ w)(b:y <:+ w)(a:x.length<=y.length):x <:+ y:=List.suffix_of_suffix_length_le d b a
section
def I.up(H:I fr S nd wd):∀(k n:Nat)(x:Wd),(W wd n).length<=k->n<wd.length->Z n≠fr->x <:+ W wd n->∃m,nd x=Z m/\W wd m <:+ W wd n:=by
 intro k
 induction k with
 |zero =>
  intro n x f b g a;have e:W wd n=[]:=WN.mp (Nat.le_zero.mp f);rw[e]at a;have:x=[]:=YF.mp a;subst this;exact⟨0,H.z,by rw[H.wz];exact Wg⟩
 |succ k o =>
  intro n x f b g a;by_cases i:n=0
  ·subst i;rw[H.wz]at a;have:x=[]:=YF.mp a;subst this;exact⟨0,H.z,Yh _⟩
  ·obtain⟨m,u,⟨r,s⟩,h,t,p⟩:=H.lk (Z5 i) b g;by_cases d:(W wd m).length<x.length
   ·exact⟨n,p x a d,Yh _⟩
   ·obtain⟨q,l,j⟩:=o m x (by lia) r s (dj a h (by exact Z7 d));exact⟨q,l,j.trans h⟩
def I.Rk(H:I fr S nd wd)(b:n<wd.length)(d:Z n≠fr)(a:x <:+ W wd n):∃m,nd x=Z m/\W wd m <:+ W wd n:=H.up _ n x (Zo _) b d a
def I.all(H:I fr S nd wd)(e:q<wd.length)(f:Z q≠fr)(d:nd x=Z n)(b:nd y=Z n)(h:x <:+ W wd q):y <:+ W wd q:=by
 obtain⟨m,a,g⟩:=H.Rk e f h;rw[d]at a;cases a;exact(H.sf b).trans g
def I.inj(H:I fr S nd wd)(b:m<wd.length)(a:n<wd.length)(h:W wd m=W wd n):m=n:=by
 have:=H.top b;rw[h,H.top a]at this;exact(Zl this).symm
def I.way(H:I fr S nd wd){n c:Nat}(b:n<wd.length)(h:gW (S.wy.getD n []) c=Z a):nd (W wd n++[c])=Z a:=by
 rw[← H.wy (H.top b) c];exact h
def I.zero(H:I fr S nd wd)(h:nd x=Z 0):x=[]:=by
 have:=H.sf h;rw[H.wz]at this;exact YF.mp this
def I.low(H:I fr S nd wd)(h:Z n≠fr)(a:S.lk.getD n Y=Z m)(b:nd y=Z n):(W wd m).length<y.length/\m<wd.length/\W wd m <:+ W wd n/\Z m≠fr:=by
 have g:=H.lt b;by_cases f:n=0
 ·subst f;rw[H.OY]at a;cases a
 ·obtain⟨o,j,⟨e,l⟩,d,i,p⟩:=H.lk (Z5 f) g h;rw[j]at a;cases a;refine⟨VY λhle=>?_,e,d,l⟩;have:=H.iv b (dj (H.sf b) d hle) d;rw[H.top e]at this;cases this;exact YI _ i
def I.below(H:I fr S nd wd)(e:n<wd.length)(g:Z n≠fr)(a:S.lk.getD n Y=Z q)(f:m<wd.length)(b:W wd m <:+ W wd n)(l:m≠n):W wd m <:+ W wd q:=by
 by_cases d:n=0
 ·subst d;rw[H.OY]at a;cases a
 ·obtain⟨p,j,⟨s,_⟩,i,r,h⟩:=H.lk (Z5 d) e g;rw[j]at a;cases a;refine dj b i (Z7 λo=>l ?_);have:=h _ b o;rw[H.top f]at this;exact Zl this
def I.root(H:I fr S nd wd)(b:n<wd.length)(g:Z n≠fr)(d:S.lk.getD n Y=Y)(f:m<wd.length)(a:W wd m <:+ W wd n):m=n:=by
 have i:n=0:=Nat.eq_zero_of_not_pos λe=>by
  obtain⟨q,h,_⟩:=H.lk e b g;rw[h]at d;cases d
 subst i;rw[H.wz]at a;exact H.inj f b (by rw[H.wz,YF.mp a])
def gf(a:List (List (Nat×Nat)))(n m c v d:Nat)(b:n<a.length):gW ((a.set n (pW (a.getD n []) c v)).getD m []) d=if m=n/\d=c then Z v else gW (a.getD m []) d:=by
 rw[ie];by_cases h:n=m
 ·subst h;rw[Zr ⟨rfl,b⟩,C4];by_cases hd:d=c
  ·rw[Zr hd,Zr ⟨rfl,hd⟩]
  ·rw[Zm hd,Zm (λz=>hd z.2)]
 ·rw[Zm (λz=>h z.1),Zm (λz=>h z.1.symm)]
def I.OJ(H:I fr S nd wd){c old v:Nat}:∀(k:Nat)(T:St)(n:Nat),n<wd.length->Z n≠fr->(W wd n).length<k->(∀m,m<wd.length->W wd m <:+ W wd n->T.lk.getD m Y=S.lk.getD m Y)->wd.length<=T.wy.length →
  (∀m b,m<wd.length->b<wd.length->W wd m <:+ W wd b->W wd b <:+ W wd n->gW (T.wy.getD m []) c=Z old->gW (T.wy.getD b []) c=Z old) →
  ∃l,NF c old v k T (Z n)=Z ⟨T.lg,T.lk,l⟩/\l.length=T.wy.length/\∀m d,gW (l.getD m []) d=if d=c/\m<wd.length/\W wd m <:+ W wd n/\gW (T.wy.getD m []) c=Z old then Z v else gW (T.wy.getD m []) d:=by
 intro k
 induction k with
 |zero=>intro T n _ _ h;lia
 |succ k C =>
  intro T n f s G x hw mono;have j:n<T.wy.length:=ZG f hw;unfold NF;by_cases i:gW (T.wy.getD n []) c=Z old
  ·rw[Zr i,x n f (Yh _)];cases r:S.lk.getD n Y with
   |none =>
    refine⟨T.wy.set n (pW (T.wy.getD n []) c v),by cases k<;>rfl,Ya,λm d=>?_⟩;rw[gf _ _ _ _ _ _ j];by_cases a:m=n/\d=c
    ·rw[Zr a,Zr ⟨a.2,by rw[a.1];exact f,by rw[a.1];exact Yh _,by rw[a.1];exact i⟩]
    ·rw[Zm a,Zm λz=>a ⟨H.root f s r z.2.1 z.2.2.1,z.1⟩]
   |some q =>
    obtain⟨F,A,p,y⟩:=H.low s r (H.top f);have ne:∀m,W wd m <:+ W wd q->m≠n:=λm a e=>by
     rw[e]at a;have:=a.length_le;lia
    obtain⟨l,e1,e2,D⟩:=C ⟨T.lg,T.lk,T.wy.set n (pW (T.wy.getD n []) c v)⟩ q A y (by lia) (λm a o=>x m a (o.trans p)) (by show _<=(T.wy.set _ _).length;rw[Ya];exact hw) (λm b a E o t h=>by
     have u:gW ((T.wy.set n (pW (T.wy.getD n []) c v)).getD m []) c=Z old:=h;show gW ((T.wy.set n (pW (T.wy.getD n []) c v)).getD b []) c=Z old;rw[gf _ _ _ _ _ _ j,Zm (λz=>ne m (o.trans t) z.1)]at u;rw[gf _ _ _ _ _ _ j,Zm (λz=>ne b t z.1)];exact mono m b a E o (t.trans p) u)
    refine⟨l,e1,by rw[e2];exact Ya,λm d=>?_⟩;rw[D m d];show (if d=c/\m<wd.length/\W wd m <:+ W wd q/\gW ((T.wy.set n (pW (T.wy.getD n []) c v)).getD m []) c=Z old then Z v else gW ((T.wy.set n (pW (T.wy.getD n []) c v)).getD m []) d)=_;by_cases a:m=n
    ·subst a;rw[Zm (λz=>ne m z.2.2.1 M),gf _ _ _ _ _ _ j];by_cases hd:d=c
     ·rw[Zr ⟨rfl,hd⟩,Zr ⟨hd,f,Yh _,i⟩]
     ·rw[Zm (λz=>hd z.2),Zm (λz=>hd z.1)]
    ·have w:∀d,gW ((T.wy.set n (pW (T.wy.getD n []) c v)).getD m []) d=gW (T.wy.getD m []) d:=λd=>by rw[gf _ _ _ _ _ _ j,Zm (λz=>a z.1)]
     rw[w,w];by_cases g:d=c/\m<wd.length/\W wd m <:+ W wd n/\gW (T.wy.getD m []) c=Z old
     ·rw[Zr g,Zr ⟨g.1,g.2.1,H.below f s r g.2.1 g.2.2.1 a,g.2.2.2⟩]
     ·rw[Zm g,Zm λz=>g ⟨z.1,z.2.1,z.2.2.1.trans p,z.2.2.2⟩]
  ·rw[Zm i];refine⟨T.wy,rfl,rfl,λm d=>?_⟩;rw[Zm λz=>i (mono m n z.2.1 f z.2.2.1 (Yh _) z.2.2.2)]
def I.OK(H:I fr S nd wd){c v:Nat}:∀(k:Nat)(T:St)(n:Nat),n<wd.length->Z n≠fr->(W wd n).length<k->(∀m,m<wd.length->W wd m <:+ W wd n->T.lk.getD m Y=S.lk.getD m Y)->wd.length<=T.wy.length →
  (∀m g,m<wd.length->g<wd.length->W wd m <:+ W wd g->W wd g <:+ W wd n->(gW (T.wy.getD g []) c).isSome->(gW (T.wy.getD m []) c).isSome) →
  ∃y s,up1 c v k T (Z n)=Z (⟨T.lg,T.lk,y⟩,s)/\y.length=T.wy.length/\(∀m d,gW (y.getD m []) d=if d=c/\m<wd.length/\W wd m <:+ W wd n/\gW (T.wy.getD m []) c=Y then Z v else gW (T.wy.getD m []) d) ∧
   (s=Y->∀m,m<wd.length->W wd m <:+ W wd n->gW (T.wy.getD m []) c=Y) ∧
   ∀p,s=Z p->p<wd.length/\W wd p <:+ W wd n/\(gW (T.wy.getD p []) c).isSome/\∀m,m<wd.length->W wd m <:+ W wd n->(W wd p).length<(W wd m).length->gW (T.wy.getD m []) c=Y:=by
 intro k
 induction k with
 |zero=>intro T n _ _ h;lia
 |succ k U =>
  intro T n f o hk L hw mono;have r:n<T.wy.length:=ZG f hw;unfold up1;by_cases l:(gW (T.wy.getD n []) c).isSome=B
  ·rw[Zr l];refine⟨T.wy,Z n,rfl,rfl,λm d=>?_,(λh=>nomatch h),λp t=>?_⟩
   ·rw[Zm λz=>?_];have:=mono m n z.2.1 f z.2.2.1 (Yh _) l;rw[z.2.2.2]at this;cases this
   ·cases t;refine⟨f,Yh _,l,λm a b j=>?_⟩;have:=b.length_le;lia
  ·have w:gW (T.wy.getD n []) c=Y:=by
    cases h:gW (T.wy.getD n []) c with
    |none=>rfl
    |some x=>rw[h]at l;exact absurd M l
   rw[Zm l,L n f (Yh _)];cases j:S.lk.getD n Y with
   |none =>
    refine⟨T.wy.set n (pW (T.wy.getD n []) c v),Y,by cases k<;>rfl,Ya,λm d=>?_,λ_ m a b=>?_,(λp t=>nomatch t)⟩
    ·rw[gf _ _ _ _ _ _ r];by_cases a:m=n/\d=c
     ·rw[Zr a,Zr ⟨a.2,by rw[a.1];exact f,by rw[a.1];exact Yh _,by rw[a.1];exact w⟩]
     ·rw[Zm a,Zm λz=>a ⟨H.root f o j z.2.1 z.2.2.1,z.1⟩]
    ·rw[H.root f o j a b];exact w
   |some q =>
    obtain⟨l1,R,A,Q⟩:=H.low o j (H.top f);have ne:∀m,W wd m <:+ W wd q->m≠n:=λm a e=>by
     rw[e]at a;have:=a.length_le;lia
    obtain⟨y,s,e1,e2,e3,e4,e5⟩:=U ⟨T.lg,T.lk,T.wy.set n (pW (T.wy.getD n []) c v)⟩ q R Q (by lia) (λm a b=>L m a (b.trans A)) (by show _<=(T.wy.set _ _).length;rw[Ya];exact hw) (λm g a JQ b C h=>by
     have E:(gW ((T.wy.set n (pW (T.wy.getD n []) c v)).getD g []) c).isSome:=h;show (gW ((T.wy.set n (pW (T.wy.getD n []) c v)).getD m []) c).isSome;rw[gf _ _ _ _ _ _ r,Zm (λz=>ne g C z.1)]at E;rw[gf _ _ _ _ _ _ r,Zm (λz=>ne m (b.trans C) z.1)];exact mono m g a JQ b (C.trans A) E)
    have old:∀m,W wd m <:+ W wd q->gW ((T.wy.set n (pW (T.wy.getD n []) c v)).getD m []) c=gW (T.wy.getD m []) c:=λm a=>by rw[gf _ _ _ _ _ _ r,Zm (λz=>ne m a z.1)]
    refine⟨y,s,e1,by rw[e2];exact Ya,λm d=>?_,λX m a b=>?_,λp t=>?_⟩
    ·rw[e3 m d];show (if d=c/\m<wd.length/\W wd m <:+ W wd q/\gW ((T.wy.set n (pW (T.wy.getD n []) c v)).getD m []) c=Y then Z v else gW ((T.wy.set n (pW (T.wy.getD n []) c v)).getD m []) d)=_;by_cases a:m=n
     ·subst a;rw[Zm (λz=>ne m z.2.2.1 M),gf _ _ _ _ _ _ r];by_cases hd:d=c
      ·rw[Zr ⟨rfl,hd⟩,Zr ⟨hd,f,Yh _,w⟩]
      ·rw[Zm (λz=>hd z.2),Zm (λz=>hd z.1)]
     ·have F:∀d,gW ((T.wy.set n (pW (T.wy.getD n []) c v)).getD m []) d=gW (T.wy.getD m []) d:=λd=>by rw[gf _ _ _ _ _ _ r,Zm (λz=>a z.1)]
      rw[F,F];by_cases i:d=c/\m<wd.length/\W wd m <:+ W wd n/\gW (T.wy.getD m []) c=Y
      ·rw[Zr i,Zr ⟨i.1,i.2.1,H.below f o j i.2.1 i.2.2.1 a,i.2.2.2⟩]
      ·rw[Zm i,Zm λz=>i ⟨z.1,z.2.1,z.2.2.1.trans A,z.2.2.2⟩]
    ·by_cases u:m=n
     ·rw[u];exact w
     ·have hb:=H.below f o j a b u;rw[← old m hb];exact e4 X m a hb
    ·obtain⟨P,D,O,N⟩:=e5 p t;have G:(gW ((T.wy.set n (pW (T.wy.getD n []) c v)).getD p []) c).isSome:=O;rw[old p D]at G;refine⟨P,D.trans A,G,λm a b Jl=>?_⟩;by_cases u:m=n
     ·rw[u];exact w
     ·have hb:=H.below f o j a b u;rw[← old m hb];exact N m a hb Jl
end
def Ft(g:97<=c/\c<=122):∀(k:Nat)(S a:St)(o:Option Nat),WF S->v<S.lg.length->NF c b v k S o=Z a->WF a:=by
 intro k
 induction k with
 |zero =>
  intro S a o H d e;cases o with
  |none=>cases (show Z S=Z a from e);exact H
  |some n=>cases e
 |succ k f =>
  intro S a o H d e;cases o with
  |none=>cases (show Z S=Z a from e);exact H
  |some n =>
   unfold NF at e;split at e
   ·exact f ⟨S.lg,S.lk,S.wy.set n (pW (S.wy.getD n []) c v)⟩ a _ (H.way (n:=n) d g) d e
   ·cases e;exact H
def FO(g:97<=c/\c<=122):∀(k:Nat)(S a:St)(o b:Option Nat),WF S->v<S.lg.length->up1 c v k S o=Z (a,b)->WF a:=by
 intro k
 induction k with
 |zero =>
  intro S a o b H d e;cases o with
  |none=>cases (show Z (S,Y)=Z (a,b) from e);exact H
  |some n=>cases e
 |succ k f =>
  intro S a o b H d e;cases o with
  |none=>cases (show Z (S,Y)=Z (a,b) from e);exact H
  |some n =>
   unfold up1 at e;split at e
   ·cases e;exact H
   ·exact f ⟨S.lg,S.lk,S.wy.set n (pW (S.wy.getD n []) c v)⟩ a _ b (H.way (n:=n) d g) d e
def jm{α:Type}{x y:List α}{a b:α}(h:x++[a] <:+ y++[b]):a=b/\x <:+ y:=by
 obtain⟨t,e⟩:=h;rw[← ZZ]at e;obtain⟨e1,e2⟩:=List.append_inj' e M;exact⟨by simpa using e2,⟨t,e1⟩⟩
def il{α:Type}{x y:List α}(a:α)(h:x <:+ y):x++[a] <:+ y++[a]:=by
 obtain⟨t,e⟩:=h;exact⟨t,by rw[← e,ZZ]⟩
noncomputable def iU(b:Wd->Option Nat)(a l h:Nat)(x:Wd):Option Nat:=if b x=Z a/\x.length<=l then Z h else b x
theorem I.split(H:I O S j a)(L:n<a.length)(hf:Z n≠O)(hc:97<=c/\c<=122)(ho:gW (S.wy.getD n []) c=Z old)(Ou:Z old≠O)(NV:O≠Z a.length)(KO:S.lg.getD old 0≠S.lg.getD n 0+1)(hk:(W a n).length<1000) :
  ∃S',Nj S n c=Z (S',S.lg.length)/\I O S' (iU j old ((W a n).length+1) a.length) (a++[W a n++[c]]):=by
 have N:S.lg.length=a.length:=H.len.symm;have hw:=H.way L ho;have hold:=H.lt hw;have u:=H.sf hw;have lw:(W a n++[c]).length=(W a n).length+1:=by rw[Zs];rfl
 rw[H.lg old hold,H.lg n L]at KO;have Jl:(W a n).length+1<(W a old).length:=by
  have:=u.length_le;rw[lw]at this;lia
 have o0:old≠0:=λe=>by
  rw[e,H.wz]at Jl;simp at Jl
 have QD:0<a.length:=by rw[H.len];exact H.wf.pos
 have l1:S.lk.length=a.length:=by rw[H.wf.lk,N]
 have l2:S.wy.length=a.length:=by rw[H.wf.wy,N]
 have NP:∀m,((S.lk++[S.lk.getD old Y]).set old (Z S.lg.length)).getD m Y=if m=old then Z a.length else if m=a.length then S.lk.getD old Y else S.lk.getD m Y:=λm=>by
  rw[ie,bR,l1,N];by_cases h:m=old
  ·rw[Zr ⟨h.symm,by rw[Zs,l1];lia⟩,Zr h]
  ·rw[Zm (λz=>h z.1.symm),Zm h]
 have K8:∀m,(S.wy++[S.wy.getD old []]).getD m []=if m=a.length then S.wy.getD old [] else S.wy.getD m []:=λm=>by rw[bR,l2]
 have Mx:∀m,m<a.length->(S.wy++[S.wy.getD old []]).getD m []=S.wy.getD m []:=λm b=>by rw[K8,Zm (Zc b)]
 obtain⟨w2,e1,e2,e3⟩:=H.OJ (c:=c) (old:=old) (v:=S.lg.length) 1000 ⟨S.lg++[S.lg.getD n 0+1],(S.lk++[S.lk.getD old Y]).set old (Z S.lg.length),S.wy++[S.wy.getD old []]⟩ n L hf hk (λm b hs=>by
   have:=hs.length_le;show ((S.lk++[S.lk.getD old Y]).set old (Z S.lg.length)).getD m Y=_;rw[NP,Zm (λe=>by rw[e]at this;lia),Zm (Zc b)])
  (by show _<=(S.wy++[S.wy.getD old []]).length;rw[Zs,l2];exact ZJ _ _)
  (λm t b E hs Ks h=>by
   have D:gW ((S.wy++[S.wy.getD old []]).getD m []) c=Z old:=h;show gW ((S.wy++[S.wy.getD old []]).getD t []) c=Z old;rw[Mx m b]at D;rw[Mx t E,H.wy (H.top E) c];rw[H.wy (H.top b) c]at D;exact H.iv D (il c hs) ((il c Ks).trans u))
 have wn:=H.wf.Px old;have W1:=H.wf.more (l:=S.lg.getD n 0+1) (o:=S.lk.getD old Y) (w:=S.wy.getD old []) (λm b=>H.wf.up old m b) (λd m b=>H.wf.on old d m b) wn.1 wn.2;have hlen:(S.lg++[S.lg.getD n 0+1]).length=S.lg.length+1:=by rw[Zs];rfl
 have W2:=W1.link (n:=old) (v:=S.lg.length) (by show S.lg.length<(S.lg++[S.lg.getD n 0+1]).length;lia);have R7:=Ft hc 1000 _ _ _ W2 (by show S.lg.length<(S.lg++[S.lg.getD n 0+1]).length;lia) e1;refine⟨⟨S.lg++[S.lg.getD n 0+1],(S.lk++[S.lk.getD old Y]).set old (Z S.lg.length),w2⟩,?_,?_⟩
 ·unfold Nj;rw[ho,Zt,Zm (by rw[H.lg old hold,H.lg n L];exact KO),e1];rfl
 have Wn:∀m,W (a++[W a n++[c]]) m=if m=a.length then W a n++[c] else W a m:=λm=>bR a _ _ m
 have s:W (a++[W a n++[c]]) a.length=W a n++[c]:=by rw[Wn,Zr M]
 have f:∀{m},m<a.length->W (a++[W a n++[c]]) m=W a m:=λ{m} b=>by rw[Wn,Zm (Zc b)]
 have fD:(a++[W a n++[c]]).length=a.length+1:=by rw[Zs];rfl
 have tell:∀{x m},iU j old ((W a n).length+1) a.length x=Z m->(m=a.length/\j x=Z old/\x.length<=(W a n).length+1)\/(m<a.length/\j x=Z m/\¬(m=old/\x.length<=(W a n).length+1)):=λ{x m} h=>by
  unfold iU at h;split at h
  ·rename_i q;cases h;exact .inl ⟨rfl,q.1,q.2⟩
  ·rename_i q;exact .inr ⟨H.lt h,h,λz=>q ⟨by rw[h,z.1],z.2⟩⟩
 have R:∀{x},j x=Z old->x.length<=(W a n).length+1->iU j old ((W a n).length+1) a.length x=Z a.length:=λ{x} C h2=>Zr ⟨C,h2⟩;have tO:∀{x m},j x=Z m->¬(m=old/\x.length<=(W a n).length+1)->iU j old ((W a n).length+1) a.length x=Z m:=λ{x m} C h2=>by
  unfold iU;rw[Zm (λz=>h2 ⟨by rw[C]at z;exact Zl z.1,z.2⟩),C]
 have NH:∀{x m},j x=Z m->∃t,iU j old ((W a n).length+1) a.length x=Z t:=λ{x m} h=>by
  unfold iU;split
  ·exact⟨_,rfl⟩
  ·exact⟨m,h⟩
 have un:∀{x m},iU j old ((W a n).length+1) a.length x=Z m->∃t,j x=Z t:=λ{x m} h=>(tell h).elim (λz=>⟨_,z.2.1⟩) λz=>⟨_,z.2.1⟩
 refine⟨R7,by rw[fD,hlen,N],λm b=>?_,tO H.z (λz=>o0 z.1.symm),by rw[f QD];exact H.wz,λ{x m} h=>by rcases tell h with z | z<;>lia,λ{x m} h=>?_,λ{m} b=>?_,λ{x y m} h P g=>?_,λ{x d m} h=>?_,λ{x y m} h P=>?_,?_,λ{m} h0 b Tn=>?_,λ{x m} h d=>?_⟩
 ·rw[fD]at b;show (S.lg++[S.lg.getD n 0+1]).getD m 0=_;rw[bR,N];by_cases e:m=a.length
  ·rw[Zr e,e,s,H.lg n L,lw]
  ·rw[Zm e,f (by lia),H.lg m (by lia)]
 ·rcases tell h with⟨rfl,i,F⟩ | ⟨G,i,_⟩
  ·rw[s];exact dj (H.sf i) u (by rw[lw];exact F)
  ·rw[f G];exact H.sf i
 ·rw[fD]at b;by_cases e:m=a.length
  ·rw[e,s];exact R hw (by rw[lw];exact Zo _)
  ·rw[f (by lia)];exact tO (H.top (by lia)) (λz=>by have:=z.2;rw[z.1]at this;lia)
 ·rcases tell h with⟨rfl,i,F⟩ | ⟨G,i,F⟩
  ·rw[s]at g;have:=g.length_le;rw[lw]at this;exact R (H.iv i P (g.trans u)) this
  ·rw[f G]at g;exact tO (H.iv i P g) (λz=>F ⟨z.1,ZC P.length_le z.2⟩)
 ·obtain⟨t,D⟩:=un h;obtain⟨q,p⟩:=H.pre D;exact NH p
 ·obtain⟨t,D⟩:=un h;obtain⟨q,p⟩:=H.Ng D P;exact NH p
 ·show ((S.lk++[S.lk.getD old Y]).set old (Z S.lg.length)).getD 0 Y=Y;rw[NP,Zm (Ye o0),Zm (by exact Zc QD)];exact H.OY
 ·rw[fD]at b;show ∃q,((S.lk++[S.lk.getD old Y]).set old (Z S.lg.length)).getD m Y=Z q/\_;rw[NP,fD];obtain⟨q,q1,⟨Q,X⟩,q3,q4,q5⟩:=H.lk (Z5 o0) hold Ou;obtain⟨lo,_⟩:=H.low Ou q1 hw;rw[lw]at lo;by_cases e:m=old
  ·subst e;rw[Zr M];refine⟨a.length,rfl,⟨by exact YK _,λz=>NV z.symm⟩,?_,?_,λy g A=>?_⟩
   ·rw[s,f hold];exact u
   ·rw[s,f hold,lw];exact Jl
   ·rw[s,lw]at A;rw[f hold]at g;exact tO (H.iv hw (dj u g (by rw[lw];exact ZF A)) g) (λz=>by have:=z.2;lia)
  ·rw[Zm e];by_cases eL:m=a.length
   ·subst eL;rw[Zr M,q1];refine⟨q,rfl,⟨by exact YW Q,X⟩,?_,?_,λy g A=>?_⟩
    ·rw[s,f Q];exact dj q3 u (by rw[lw];exact ZF lo)
    ·rw[s,f Q,lw];exact lo
    ·rw[s]at g;rw[f Q]at A;have:=g.length_le;rw[lw]at this;exact R (q5 y (g.trans u) A) this
   ·rw[Zm eL];have E:m<a.length:=by lia
    obtain⟨r,r1,⟨r2,U⟩,r3,r4,r5⟩:=H.lk h0 E Tn;rw[r1];refine⟨r,rfl,⟨by exact YW r2,U⟩,by rw[f r2,f E];exact r3,by rw[f r2,f E];exact r4,λy g A=>?_⟩;rw[f E]at g;rw[f r2]at A;exact tO (r5 y g A) (λz=>e z.1)
 ·show gW (w2.getD m []) d=_;rw[e3 m d];show (if d=c/\m<a.length/\W a m <:+ W a n/\gW ((S.wy++[S.wy.getD old []]).getD m []) c=Z old then Z S.lg.length else gW ((S.wy++[S.wy.getD old []]).getD m []) d)=_;rcases tell h with⟨rfl,i,F⟩ | ⟨G,i,F⟩
  ·rw[Zm (λz=>YI _ z.2.1),K8,Zr M,H.wy i d];unfold iU;rw[Zm];intro z;have C:=z.1;rw[← H.wy i d,H.wy (H.top hold) d]at C;have:=(H.sf C).length_le;rw[Zs,Yr]at this;lia
  ·rw[Mx m G,H.wy i c,H.wy i d];unfold iU;by_cases p:j (x++[d])=Z old/\(x++[d]).length<=(W a n).length+1
   ·have J9:=dj (H.sf p.1) u (by rw[lw];exact p.2);obtain⟨rfl,hx⟩:=jm J9;obtain⟨t,m1,m2⟩:=H.Rk L hf hx;rw[i]at m1;cases m1;rw[Zr ⟨rfl,G,m2,p.1⟩,Zr p,N]
   ·rw[Zm p,Zm];rintro⟨rfl,_,a3,a4⟩;refine p ⟨a4,?_⟩;have b1:=(H.sf i).length_le;have b2:=a3.length_le;rw[Zs,Yr];lia
end AU
end
section
namespace AU
open Classical in
noncomputable def iq(a:Wd->Option Nat)(w:Wd)(f:Nat)(x:Wd):Option Nat:=match a x with
 |some m=>Z m
 |none=>if x <:+ w then Z f else Y
def dA(h:a x=Z m):iq a w f x=Z m:=by
 unfold iq;rw[h]
def gp(h:a x=Y)(b:x <:+ w):iq a w f x=Z f:=by
 unfold iq;rw[h];exact Zr b
def cL(h:iq a w f x=Z m):a x=Z m\/(m=f/\a x=Y/\x <:+ w):=by
 unfold iq at h;split at h
 ·rename_i q e;cases h;exact .inl e
 ·rename_i e;split at h
  ·rename_i b;cases h;exact .inr ⟨rfl,e,b⟩
  ·cases h
def yN{α:Type}{y t:List α}{c:α}(h:y <:+ t++[c])(d:y≠[]):∃a,y=a++[c]/\a <:+ t:=by
 rcases List.eq_nil_or_concat y with e | ⟨a,b,e⟩
 ·exact absurd e d
 ·rw[List.concat_eq_append]at e;subst e;obtain⟨e1,e2⟩:=jm h;exact⟨a,by rw[e1],e2⟩
section
def I.fresh(H:I Y S nd wd)(t:h<wd.length)(hc:97<=c/\c<=122)(hn:gW (S.wy.getD h []) c=Y)(hk:(W wd h).length<1000) :
  ∃D u,up1 c S.lg.length 1000 ⟨S.lg++[S.lg.getD h 0+1],S.lk++[Z 0],S.wy++[[]]⟩ (Z h)=Z (D,u)/\I (Z wd.length) D (iq nd (W wd h++[c]) wd.length) (wd++[W wd h++[c]])/\D.lk.getD wd.length Y=Z 0/\D.lg.length=S.lg.length+1 ∧
   (∀m,m<wd.length->(gW (S.wy.getD m []) c).isSome->gW (D.wy.getD m []) c=gW (S.wy.getD m []) c) ∧
   (u=Y->∀m,m<wd.length->W wd m <:+ W wd h->gW (S.wy.getD m []) c=Y) ∧
   ∀p,u=Z p->p<wd.length/\W wd p <:+ W wd h/\(gW (S.wy.getD p []) c).isSome/\∀m,m<wd.length->W wd m <:+ W wd h->(W wd p).length<(W wd m).length->gW (S.wy.getD m []) c=Y:=by
 have C:S.lg.length=wd.length:=H.len.symm;have l1:S.lk.length=wd.length:=by rw[H.wf.lk,C]
 have l2:S.wy.length=wd.length:=by rw[H.wf.wy,C]
 have QD:0<wd.length:=by rw[H.len];exact H.wf.pos
 have O:∀m,(S.lk++[Z 0]).getD m Y=if m=wd.length then Z 0 else S.lk.getD m Y:=λm=>by rw[bR,l1]
 have K8:∀m,(S.wy++[[]]).getD m []=if m=wd.length then [] else S.wy.getD m []:=λm=>by rw[bR,l2]
 have s:∀m,m<wd.length->(S.wy++[[]]).getD m []=S.wy.getD m []:=λm b=>by rw[K8,Zm (Zc b)]
 have nt:nd (W wd h++[c])=Y:=by rw[← H.wy (H.top t) c];exact hn
 obtain⟨P,u,e1,e2,e3,e4,e5⟩:=H.OK (c:=c) (v:=S.lg.length) 1000 ⟨S.lg++[S.lg.getD h 0+1],S.lk++[Z 0],S.wy++[[]]⟩ h t (λz=>nomatch z) hk (λm b _=>by
   show (S.lk++[Z 0]).getD m Y=_;rw[O,Zm (Zc b)])
  (by show _<=(S.wy++[[]]).length;rw[Zs,l2];exact ZJ _ _)
  (λm Q b j g Ks q=>by
   have q':(gW ((S.wy++[[]]).getD Q []) c).isSome:=q;show (gW ((S.wy++[[]]).getD m []) c).isSome;rw[s Q j,H.wy (H.top j) c]at q';rw[s m b,H.wy (H.top b) c];obtain⟨r,f⟩:=Z3.mp q';obtain⟨X,R⟩:=H.Ng f (il c g);rw[R];rfl)
 have hlen:(S.lg++[S.lg.getD h 0+1]).length=S.lg.length+1:=by rw[Zs];rfl
 have W1:=H.wf.more (l:=S.lg.getD h 0+1) (o:=Z 0) (w:=[]) (λm b=>by cases b;exact H.wf.pos) (λd m b=>by cases b) Y1 (λp U=>nomatch U);have R7:=FO hc 1000 _ _ _ _ W1 (by show S.lg.length<(S.lg++[S.lg.getD h 0+1]).length;lia) e1;have lw:(W wd h++[c]).length=(W wd h).length+1:=by rw[Zs];rfl
 have Wn:∀m,W (wd++[W wd h++[c]]) m=if m=wd.length then W wd h++[c] else W wd m:=λm=>bR wd _ _ m
 have N:W (wd++[W wd h++[c]]) wd.length=W wd h++[c]:=by rw[Wn,Zr M]
 have i:∀{m},m<wd.length->W (wd++[W wd h++[c]]) m=W wd m:=λ{m} b=>by rw[Wn,Zm (Zc b)]
 have fD:(wd++[W wd h++[c]]).length=wd.length+1:=by rw[Zs];rfl
 refine⟨⟨S.lg++[S.lg.getD h 0+1],S.lk++[Z 0],P⟩,u,e1,?_,by show (S.lk++[Z 0]).getD wd.length Y=_;rw[O,Zr M],hlen,λm b g=>?_,λho m b g=>?_,λp U=>?_⟩
 rotate_left
 ·show gW (P.getD m []) c=_;rw[e3 m c];show (if c=c/\m<wd.length/\W wd m <:+ W wd h/\gW ((S.wy++[[]]).getD m []) c=Y then Z S.lg.length else gW ((S.wy++[[]]).getD m []) c)=_;rw[s m b,Zm (λz=>by rw[z.2.2.2]at g;cases g)]
 ·have:=e4 ho m b g;have F:gW ((S.wy++[[]]).getD m []) c=Y:=this;rw[s m b]at F;exact F
 ·obtain⟨p1,p2,p3,p4⟩:=e5 p U;have PM:(gW ((S.wy++[[]]).getD p []) c).isSome:=p3;rw[s p p1]at PM;refine⟨p1,p2,PM,λm b g L=>?_⟩;have:=p4 m b g L;have F:gW ((S.wy++[[]]).getD m []) c=Y:=this;rw[s m b]at F;exact F
 refine⟨R7,by rw[fD];show _=(S.lg++[S.lg.getD h 0+1]).length;rw[hlen,C],λm b=>?_,dA H.z,by rw[i QD];exact H.wz,λ{x m} q=>?_,λ{x m} q=>?_,λ{m} b=>?_,λ{x y m} q E n=>?_,λ{x d m} q=>?_,λ{x y m} q E=>?_,?_,λ{m} h0 b Tn=>?_,λ{x m} q d=>?_⟩
 ·rw[fD]at b;show (S.lg++[S.lg.getD h 0+1]).getD m 0=_;rw[bR,C];by_cases e:m=wd.length
  ·rw[Zr e,e,N,H.lg h t,lw]
  ·rw[Zm e,i (by lia),H.lg m (by lia)]
 ·rw[fD];rcases cL q with z | z
  ·have:=H.lt z;exact YW this
  ·lia
 ·rcases cL q with z | ⟨rfl,_,z⟩
  ·rw[i (H.lt z)];exact H.sf z
  ·rw[N];exact z
 ·rw[fD]at b;by_cases e:m=wd.length
  ·rw[e,N];exact gp nt (Yh _)
  ·rw[i (by lia)];exact dA (H.top (by lia))
 ·rcases cL q with z | ⟨rfl,G,z2⟩
  ·rw[i (H.lt z)]at n;exact dA (H.iv z E n)
  ·rw[N]at n;refine gp ?_ n;cases e:nd y with
   |none=>rfl
   |some r =>
    obtain⟨X,f⟩:=H.Ng e E;rw[G]at f;cases f
 ·rcases cL q with z | ⟨_,_,z⟩
  ·obtain⟨r,f⟩:=H.pre z;exact⟨r,dA f⟩
  ·obtain⟨_,A⟩:=jm z;obtain⟨r,f⟩:=H.Ng (H.top t) A;exact⟨r,dA f⟩
 ·rcases cL q with z | ⟨_,_,z⟩
  ·obtain⟨r,f⟩:=H.Ng z E;exact⟨r,dA f⟩
  ·cases e:nd x with
   |none=>exact⟨_,gp e (E.trans z)⟩
   |some r=>exact⟨r,dA e⟩
 ·show (S.lk++[Z 0]).getD 0 Y=Y;rw[O,Zm (by exact Zc QD)];exact H.OY
 ·rw[fD]at b;have j:m<wd.length:=by
   have:m≠wd.length:=λe=>Tn (by rw[e]);lia
  show ∃q,(S.lk++[Z 0]).getD m Y=Z q/\_;rw[O,Zm (Zc j),fD];obtain⟨r,r1,⟨r2,_⟩,r3,r4,r5⟩:=H.lk h0 j (λz=>nomatch z);refine⟨r,r1,⟨by exact YW r2,λz=>?_⟩,by rw[i r2,i j];exact r3,by rw[i r2,i j];exact r4,λy n L=>?_⟩
  ·have:=Zl z;lia
  ·rw[i j]at n;rw[i r2]at L;exact dA (r5 y n L)
 ·show gW (P.getD m []) d=_;rw[e3 m d];show (if d=c/\m<wd.length/\W wd m <:+ W wd h/\gW ((S.wy++[[]]).getD m []) c=Y then Z S.lg.length else gW ((S.wy++[[]]).getD m []) d)=_;rcases cL q with z | ⟨rfl,G,z2⟩
  ·have b:=H.lt z;rw[s m b,H.wy z c,H.wy z d];cases e:nd (x++[d]) with
   |some r =>
    rw[dA e,Zm];rintro⟨rfl,_,_,a⟩;rw[e]at a;cases a
   |none =>
    by_cases g:x++[d] <:+ W wd h++[c]
    ·obtain⟨rfl,A⟩:=jm g;obtain⟨Q,m1,m2⟩:=H.Rk t (λz=>nomatch z) A;rw[z]at m1;cases m1;rw[gp e g,Zr ⟨rfl,b,m2,e⟩,C]
    ·have:iq nd (W wd h++[c]) wd.length (x++[d])=Y:=by
      unfold iq;rw[e];exact Zm g
     rw[this,Zm];rintro⟨rfl,_,a,_⟩;exact g (il d ((H.sf z).trans a))
  ·rw[Zm (λa=>YI _ a.2.1),K8,Zr M];have e:nd (x++[d])=Y:=by
    cases e:nd (x++[d]) with
    |none=>rfl
    |some r =>
     obtain⟨X,f⟩:=H.pre e;rw[G]at f;cases f
   have:iq nd (W wd h++[c]) wd.length (x++[d])=Y:=by
    unfold iq;rw[e];refine Zm λg=>?_;obtain⟨_,A⟩:=jm g;obtain⟨r,f⟩:=H.Ng (H.top t) A;rw[G]at f;cases f
   rw[this];rfl
def I.fix{f m:Nat}(H:I (Z f) S nd wd)(j:f<wd.length)(b:m<wd.length)(h:W wd m <:+ W wd f)(a:(W wd m).length<(W wd f).length)(g:∀y,y <:+ W wd f->(W wd m).length<y.length->nd y=Z f):I Y ⟨S.lg,S.lk.set f (Z m),S.wy⟩ nd wd:=by
 have o:f≠0:=λe=>by
  rw[e,H.wz]at a;simp at a
 have lf:f<S.lk.length:=by rw[H.wf.lk,← H.len];exact j
 refine⟨H.wf.link (by rw[← H.len];exact b),H.len,H.lg,H.z,H.wz,H.lt,H.sf,H.top,H.iv,H.pre,H.Ng,?_,λ{n} l i _=>?_,H.wy⟩
 ·show (S.lk.set f (Z m)).getD 0 Y=Y;rw[ie,Zm (λz=>o z.1)];exact H.OY
 ·show ∃q,(S.lk.set f (Z m)).getD n Y=Z q/\_;rw[ie];by_cases e:f=n
  ·subst e;rw[Zr ⟨rfl,lf⟩];exact⟨m,rfl,⟨b,λz=>nomatch z⟩,h,a,g⟩
  ·rw[Zm (λz=>e z.1)];obtain⟨r,r1,⟨r2,_⟩,d⟩:=H.lk l i (λz=>e (Zl z).symm);exact⟨r,r1,⟨r2,λz=>nomatch z⟩,d⟩
end
end AU
end
section
namespace AU
structure Rg(nd Jx:Wd->Option Nat)(w:Wd):Prop where
 eq:∀{x y m n},Jx x=some m->Jx y=some n->(m=n↔nd x=nd y/\(x <:+ w↔y <:+ w))
section
def I.P6(H:I fr S nd wd){n c old:Nat}(p:n<wd.length)(Q:Z n≠fr)(R:97<=c/\c<=122)(o:gW (S.wy.getD n []) c=Z old)(g:Z old≠fr)(i:fr≠Z wd.length)(P:(W wd n).length<1000) :
  ∃e r j IL,Nj S n c=Z (e,r)/\I fr e j IL/\r<IL.length/\Z r≠fr/\W IL r=W wd n++[c]/\(∀m,m<wd.length->W IL m=W wd m)/\wd.length<=IL.length/\IL.length<=wd.length+1 ∧
   (∀x,(∃m,j x=Z m) ↔ ∃m,nd x=Z m)/\Rg nd j (W wd n++[c])/\∀x f,f≠old->nd x=Z f->j x=Z f:=by
 have hw:=H.way p o;have hold:=H.lt hw;have F:=H.sf hw;have lw:(W wd n++[c]).length=(W wd n).length+1:=by rw[Zs];rfl
 by_cases u:S.lg.getD old 0=S.lg.getD n 0+1
 ·have t:W wd old=W wd n++[c]:=by
   have:=u;rw[H.lg old hold,H.lg n p]at this;exact(F.eq_of_length (by rw[lw,this])).symm
  refine⟨S,old,nd,wd,?_,H,hold,g,t,λm _=>rfl,Zo _,Wk _,λx=>Iff.rfl,⟨λ{x y m k} b a=>?_⟩,λx f _ h=>h⟩
  ·unfold Nj;rw[o,Zt,Zr u]
  ·constructor
   ·rintro rfl;exact⟨by rw[b,a],λh=>by rw[← t]at h ⊢;exact H.all hold g b a h,λh=>by rw[← t]at h ⊢;exact H.all hold g a b h⟩
   ·rintro⟨h,_⟩;rw[b,a]at h;exact Zl h
 ·obtain⟨e,e1,v⟩:=H.split p Q R o g i u P;have D:W (wd++[W wd n++[c]]) wd.length=W wd n++[c]:=(bR wd _ _ _).trans (Zr M);have U:∀m,m<wd.length->W (wd++[W wd n++[c]]) m=W wd m:=λm N=>(bR wd _ _ m).trans (Zm (Zc N));have fD:(wd++[W wd n++[c]]).length=wd.length+1:=by rw[Zs];rfl
  have inv:∀{x m},iU nd old ((W wd n).length+1) wd.length x=Z m->(m=wd.length/\nd x=Z old/\x.length<=(W wd n).length+1)\/nd x=Z m:=λ{x m} h=>by
   unfold iU at h;split at h
   ·rename_i q;cases h;exact .inl ⟨rfl,q.1,q.2⟩
   ·exact .inr h
  have E:∀{x},nd x=Z old->(x.length<=(W wd n).length+1↔x <:+ W wd n++[c]):=λ{x} h=>⟨λO=>dj (H.sf h) F (by rw[lw];exact O),λd=>by have:=d.length_le;rw[lw]at this;exact this⟩
  refine⟨e,S.lg.length,_,_,e1,v,by rw[fD,← H.len];exact YK _,by rw[← H.len];exact λz=>i z.symm,by rw[← H.len];exact D,U,by lia,by exact Xw fD,λx=>⟨λ⟨m,h⟩=>(inv h).elim (λz=>⟨_,z.2.1⟩) λz=>⟨_,z⟩,λ⟨m,h⟩=>?_⟩,⟨λ{x y m k} b a=>?_⟩,λx f s h=>?_⟩
  ·unfold iU;split
   ·exact⟨_,rfl⟩
   ·exact⟨m,h⟩
  ·constructor
   ·rintro rfl;have w:wd.length<(wd++[W wd n++[c]]).length:=by lia
    have C:=λh=>v.all w (λz=>i z.symm) b a h;have A:=λh=>v.all w (λz=>i z.symm) a b h;rw[D]at C A;refine⟨?_,C,A⟩;rcases inv b with⟨X,G,_⟩ | z
    ·rcases inv a with⟨_,L,_⟩ | y
     ·rw[G,L]
     ·have:=H.lt y;lia
    ·rcases inv a with⟨y1,_,_⟩ | y
     ·have:=H.lt z;lia
     ·rw[z,y]
   ·rintro⟨h,d⟩;have:iU nd old ((W wd n).length+1) wd.length x=iU nd old ((W wd n).length+1) wd.length y:=by
     unfold iU;rw[h];by_cases q:nd y=Z old
     ·have e1:=E (show nd x=Z old by rw[h,q]);have e2:=E q;by_cases l:y.length<=(W wd n).length+1
      ·rw[Zr ⟨q,e1.mpr (d.mpr (e2.mp l))⟩,Zr ⟨q,l⟩]
      ·rw[Zm (λz=>l (e2.mpr (d.mp (e1.mp z.2)))),Zm (λz=>l z.2)]
     ·rw[Zm (λz=>q z.1),Zm (λz=>q z.1)]
    rw[b,a]at this;exact Zl this
  ·unfold iU;rw[Zm (λz=>s (by rw[h]at z;exact Zl z.1))];exact h
end
section
def I.step(H:I Y S nd wd)(A:h<wd.length)(hc:97<=c/\c<=122)(hk:(W wd h).length+1<1000) :
  ∃S' r u IL,hb S h c=Z (S',r)/\I Y S' u IL/\r<IL.length/\W IL r=W wd h++[c]/\(∀m,m<wd.length->W IL m=W wd m)/\wd.length<=IL.length/\IL.length<=wd.length+2 ∧
   (∀x,(∃m,u x=Z m)↔(∃m,nd x=Z m)\/x <:+ W wd h++[c])/\Rg nd u (W wd h++[c]):=by
 cases hg:gW (S.wy.getD h []) c with
 |some old =>
  obtain⟨S',r,u,IL,e,H',h1,_,h2,h3,h4,h5,h6,h7,_⟩:=H.P6 A (λz=>nomatch z) hc hg (λz=>nomatch z) (λz=>nomatch z) (by exact Y6 hk);refine⟨S',r,u,IL,?_,H',h1,h2,h3,h4,by exact Vj h5,λx=>(h6 x).trans ⟨.inl,λz=>z.elim id λz=>H.Ng (H.way A hg) z⟩,h7⟩;unfold hb;rw[hg];exact e
 |none =>
  have G:S.lg.length=wd.length:=H.len.symm;obtain⟨o,o',e1,v,k0,k1,k2,k3,k4⟩:=H.fresh A hc hg (by exact Y6 hk);have X:W (wd++[W wd h++[c]]) wd.length=W wd h++[c]:=(bR wd _ _ _).trans (Zr M);have U:∀m,m<wd.length->W (wd++[W wd h++[c]]) m=W wd m:=λm hm=>(bR wd _ _ m).trans (Zm (Zc hm));have fD:(wd++[W wd h++[c]]).length=wd.length+1:=by rw[Zs];rfl
  have lw:(W wd h++[c]).length=(W wd h).length+1:=by rw[Zs];rfl
  have nt:nd (W wd h++[c])=Y:=by rw[← H.wy (H.top A) c];exact hg
  have ex:∀x,(∃m,iq nd (W wd h++[c]) wd.length x=Z m)↔(∃m,nd x=Z m)\/x <:+ W wd h++[c]:=λx=>⟨λ⟨m,q⟩=>(cL q).elim (λz=>.inl ⟨_,z⟩) λz=>.inr z.2.2,λq=>by
   cases e:nd x with
   |some m=>exact⟨m,dA e⟩
   |none=>exact q.elim (λ⟨m,z⟩=>by rw[e]at z;cases z) λz=>⟨_,gp e z⟩⟩
  have same:∀{x y m n},iq nd (W wd h++[c]) wd.length x=Z m->iq nd (W wd h++[c]) wd.length y=Z n->(m=n↔nd x=nd y):=λ{x y m n} s j=>by
   rcases cL s with z | ⟨z1,z2,_⟩
   ·rcases cL j with i | ⟨y1,y2,_⟩
    ·rw[z,i];exact⟨λe=>by rw[e],λe=>Zl e⟩
    ·have:=H.lt z;refine⟨λe=>by lia,λe=>?_⟩;rw[z,y2]at e;cases e
   ·rcases cL j with i | ⟨y1,y2,_⟩
    ·have:=H.lt i;refine⟨λe=>by lia,λe=>?_⟩;rw[z2,i]at e;cases e
    ·exact⟨λ_=>by rw[z2,y2],λ_=>by rw[z1,y1]⟩
  have NG:∀{y},y <:+ W wd h++[c]->y≠[]->∀{q},nd y=Z q->∃i m,y=i++[c]/\i <:+ W wd h/\nd i=Z m/\m<wd.length/\W wd m <:+ W wd h/\(gW (S.wy.getD m []) c).isSome:=λ{y} d KO {q} P=>by
   obtain⟨i,rfl,Oj⟩:=yN d KO;obtain⟨m,E,m2⟩:=H.Rk A (λz=>nomatch z) Oj;exact⟨i,m,rfl,Oj,E,H.lt E,m2,by rw[H.wy E c,P];rfl⟩
  unfold hb;rw[hg,Zm (by simp),e1];cases o' with
  |none =>
   have w:=k3 M;have none_:∀{y},y <:+ W wd h++[c]->y≠[]->nd y=Y:=λ{y} d KO=>by
    cases e:nd y with
    |none=>rfl
    |some q =>
     obtain⟨i,m,_,_,_,m3,m4,D⟩:=NG d KO e;rw[w m m3 m4]at D;cases D
   have H3:=v.fix (f:=wd.length) (m:=0) (by lia) (by lia) (by rw[v.wz];exact Wg) (by rw[v.wz,X,lw];exact Nat.succ_pos _) (λy d g=>by
    rw[X]at d;rw[v.wz]at g;exact gp (none_ d (λe=>by rw[e]at g;cases g)) d)
   have eS:(⟨o.lg,o.lk.set wd.length (Z 0),o.wy⟩:St)=o:=by
    have g:wd.length<o.lk.length:=by rw[v.wf.lk,← v.len,fD];exact YK _
    have:o.lk.set wd.length (Z 0)=o.lk:=by
     rw[Zq,Zp g,YL]at k0;rw[← k0];exact Wu g
    rw[this]
   rw[eS]at H3;refine⟨o,S.lg.length,_,_,rfl,H3,by rw[fD,G];exact YK _,by rw[G];exact X,U,by lia,by lia,ex,⟨λ{x y m n} s j=>?_⟩⟩;rw[same s j];refine⟨λe=>⟨e,?_⟩,λe=>e.1⟩;have key:∀{x y m n},iq nd (W wd h++[c]) wd.length x=Z m->iq nd (W wd h++[c]) wd.length y=Z n->nd x=nd y->x <:+ W wd h++[c]->y <:+ W wd h++[c]:=λ{x y m n} s j e hx=>by
    rcases cL j with z | z
    ·rw[z]at e;by_cases Om:x=[]
     ·subst Om;rw[H.z]at e;cases e;rw[H.zero z];exact Wg
     ·rw[none_ hx Om]at e;cases e
    ·exact z.2.2
   exact⟨key s j e,key j s e.symm⟩
  |some p =>
   obtain⟨C,O,p3,p4⟩:=k4 p M;obtain⟨old,Q⟩:=Z3.mp p3;have ho2:gW (o.wy.getD p []) c=Z old:=by rw[k2 p C p3];exact Q
   have UU:=H.way C Q;have hold:=H.lt UU;have ph:(W wd p).length<(W wd h).length:=by
    rcases Nat.lt_or_eq_of_le O.length_le with l | l
    ·exact l
    ·have:=H.inj C A (O.eq_of_length l);rw[this,hg]at Q;cases Q
   obtain⟨S3,r,u,IL,f1,H3,f2,f2',R,f4,f5,f6,f7,f8,f9⟩:=v.P6 (n:=p) (c:=c) (old:=old) (by lia) (λz=>by have:=Zl z;lia) hc ho2 (λz=>by have:=Zl z;lia) (λz=>by have:=Zl z;lia) (by rw[U p C];lia);rw[U p C]at R f8;have SO:(W wd p++[c]).length=(W wd p).length+1:=by rw[Zs];rfl
   have RW:W IL wd.length=W wd h++[c]:=by rw[f4 _ (by lia),X]
   have none_:∀{y},y <:+ W wd h++[c]->(W wd p).length+1<y.length->nd y=Y:=λ{y} d g=>by
    cases e:nd y with
    |none=>rfl
    |some q =>
     obtain⟨i,m,rfl,E,m2,m3,m4,D⟩:=NG d (λe=>by rw[e]at g;cases g) e;have l1:=(H.sf m2).length_le;rw[Zs,Yr]at g;rw[p4 m m3 m4 (by lia)]at D;cases D
   have H4:=H3.fix (f:=wd.length) (m:=r) (by lia) f2 (by rw[R,RW];exact il c O) (by rw[R,RW,SO,lw];exact Nat.succ_lt_succ ph) (λy d g=>by
    rw[RW]at d;rw[R,SO]at g;exact f9 y wd.length (by exact WK hold) (gp (none_ d g) d))
   refine⟨⟨S3.lg,S3.lk.set S.lg.length (Z r),S3.wy⟩,S.lg.length,u,IL,?_,by rw[G];exact H4,by rw[G];lia,by rw[G];exact RW,λm hm=>by rw[f4 m (by lia),U m hm],by lia,by lia,λx=>(f7 x).trans (ex x),⟨λ{x y m n} s j=>?_⟩⟩
   ·show (Nj o p c).map _=_;rw[f1];rfl
   ·rw[f8.eq s j];obtain⟨E,N⟩:=(f7 x).mp ⟨m,s⟩;obtain⟨n1,L⟩:=(f7 y).mp ⟨n,j⟩;have e1:iq nd (W wd h++[c]) wd.length x=iq nd (W wd h++[c]) wd.length y↔nd x=nd y:=by
     rw[N,L];exact⟨λe=>(same N L).mp (Zl e),λe=>by rw[(same N L).mpr e]⟩
    rw[e1];have sw:W wd p++[c] <:+ W wd h++[c]:=il c O;have w:∀{z q},nd z=Z q->(z <:+ W wd h++[c]↔z <:+ W wd p++[c]):=λ{z q} F=>⟨λa=>dj a sw (by
     rw[SO];refine Z7 λb=>?_;rw[none_ a b]at F;cases F),λa=>a.trans sw⟩
    have un:∀{z q},nd z=Y->iq nd (W wd h++[c]) wd.length z=Z q->z <:+ W wd h++[c]/\¬z <:+ W wd p++[c]:=λ{z q} F a=>by
     rcases cL a with b | b
     ·rw[F]at b;cases b
     ·refine⟨b.2.2,λa=>?_⟩;obtain⟨q',P⟩:=H.Ng UU a;rw[F]at P;cases P
    refine⟨λ⟨a,b⟩=>⟨a,?_⟩,λ⟨a,b⟩=>⟨a,?_⟩⟩
    ·cases t:nd x with
     |some q=>rw[w t,w (show nd y=Z q by rw[← a,t])];exact b
     |none =>
      have u1:=un t N;have u2:=un (show nd y=Y by rw[← a,t]) L;exact⟨λ_=>u2.1,λ_=>u1.1⟩
    ·cases t:nd x with
     |some q=>rw[← w t,← w (show nd y=Z q by rw[← a,t])];exact b
     |none =>
      have u1:=un t N;have u2:=un (show nd y=Y by rw[← a,t]) L;exact⟨λz=>absurd z u1.2,λz=>absurd z u2.2⟩
end
structure K(P:Wd->Prop)(S:St)(nd:Wd->Option Nat)(wd:List Wd):Prop where
 i:I none S nd wd
 nil:P []
 some:∀x,(∃m,nd x=some m) ↔ ∃p,P p/\x <:+ p
 eq:∀{x y m n},nd x=.some m->nd y=.some n->(m=n ↔ ∀p,P p->(x <:+ p↔y <:+ p))
def K.congr(H:K P S b a)(h:∀p,P p↔Q p):K Q S b a:=by
 have:P=Q:=funext λp=>propext (h p);rw[← this];exact H
noncomputable def Oc(x:Wd):Option Nat:=if x=[] then Z 0 else Y
def fN(h:Oc x=Z n):x=[]/\n=0:=by
 unfold Oc at h;split at h
 ·exact⟨by assumption,(Zl h).symm⟩
 ·cases h
def K0:K (λp=>p=[]) S0 Oc [[]]:=by
 refine⟨⟨C5,rfl,λn d=>?_,rfl,rfl,λ{x n} h=>?_,λ{x n} h=>?_,λ{n} d=>?_,λ{x y n} h b a=>?_,λ{x c n} h=>?_,λ{x y n} h b=>?_,rfl,λ{n} b a=>?_,λ{x n} h c=>?_⟩,rfl,λx=>?_,λ{x y m n} b a=>?_⟩
 ·have:n=0:=Nat.lt_one_iff.mp d;subst this;rfl
 ·rw[(fN h).2];exact Nat.one_pos
 ·rw[(fN h).1];exact Wg
 ·have:n=0:=Nat.lt_one_iff.mp d;subst this;rfl
 ·have e:=(fN h).2;subst e;have:y=[]:=YF.mp a;subst this;rfl
 ·have:=(fN h).1;exact absurd this (by simp)
 ·have e:=(fN h).1;subst e;have:x=[]:=YF.mp b;subst this;exact⟨0,rfl⟩
 ·have:n<1:=a;lia
 ·have e:=fN h;obtain⟨rfl,rfl⟩:=e;rfl
 ·constructor
  ·rintro⟨m,h⟩;exact⟨[],rfl,by rw[(fN h).1];exact Wg⟩
  ·rintro⟨p,rfl,h⟩;have:x=[]:=YF.mp h;subst this;exact⟨0,rfl⟩
 ·obtain⟨rfl,rfl⟩:=fN b;obtain⟨rfl,rfl⟩:=fN a;exact⟨λ_ _ _=>Iff.rfl,λ_=>rfl⟩
section
theorem K.step(H:K P S nd wd)(w:h<wd.length)(A:97<=c/\c<=122)(v:(W wd h).length+1<1000) :
  ∃g r j IL,hb S h c=.some (g,r)/\K (λp=>P p\/p=W wd h++[c]) g j IL/\r<IL.length/\W IL r=W wd h++[c]/\(∀m,m<wd.length->W IL m=W wd m)/\wd.length<=IL.length/\IL.length<=wd.length+2:=by
 obtain⟨g,r,j,IL,e,N,L,G,F,E,D,t,C⟩:=H.i.step w A v;refine⟨g,r,j,IL,e,⟨N,.inl H.nil,λx=>?_,λ{x y m n} s o=>?_⟩,L,G,F,E,D⟩
 ·rw[t,H.some];constructor
  ·rintro (⟨p,a,b⟩ | a)
   ·exact⟨p,.inl a,b⟩
   ·exact⟨_,.inr M,a⟩
  ·rintro⟨p,a | rfl,b⟩
   ·exact .inl ⟨p,a,b⟩
   ·exact .inr b
 ·rw[C.eq s o];have un:∀{z q},j z=.some q->nd z=Y->z <:+ W wd h++[c]/\∀p,P p->¬z <:+ p:=λ{z q} a b=>⟨((t z).mp ⟨q,a⟩).elim (λ⟨m,x⟩=>by rw[b]at x;cases x) id,λp d u=>by
   obtain⟨m,x⟩:=(H.some z).mpr ⟨p,d,u⟩;rw[b]at x;cases x⟩
  have old:nd x=nd y ↔ ∀p,P p->(x <:+ p↔y <:+ p):=by
   cases ex:nd x with
   |some a =>
    cases f:nd y with
    |some b=>exact⟨λe=>(H.eq ex f).mp (Zl e),λe=>by rw[(H.eq ex f).mpr e]⟩
    |none =>
     refine⟨λe=>(nomatch e),λe=>?_⟩;obtain⟨p,d,l⟩:=(H.some x).mp ⟨a,ex⟩;exact absurd ((e p d).mp l) ((un o f).2 p d)
   |none =>
    cases f:nd y with
    |some b =>
     refine⟨λe=>(nomatch e),λe=>?_⟩;obtain⟨p,d,l⟩:=(H.some y).mp ⟨b,f⟩;exact absurd ((e p d).mpr l) ((un s ex).2 p d)
    |none=>exact⟨λ_ p d=>⟨λz=>absurd z ((un s ex).2 p d),λz=>absurd z ((un o f).2 p d)⟩,λ_=>rfl⟩
  rw[old];constructor
  ·rintro⟨a,b⟩ p (d | rfl)
   ·exact a p d
   ·exact b
  ·intro a;exact⟨λp d=>a p (.inl d),a _ (.inr M)⟩
end
def K.grow:∀(w:V2){P:Wd->Prop}{S:St}{nd:Wd->Option Nat}{b:List Wd}(H:K P S nd b){h:Nat},h<b.length->P (W b h)->(∀c∈w,97<=c/\c<=122)->(W b h).length+w.length<1000 →
  ∃n r F IL,hg S h w=.some (n,r)/\K (λp=>P p\/∃v,v <+: w/\p=W b h++v) n F IL/\r<IL.length/\W IL r=W b h++w/\(∀m,m<b.length->W IL m=W b m)/\b.length<=IL.length/\IL.length<=b.length+2*w.length:=by
 intro w
 induction w with
 |nil =>
  intro P S nd b H h g f hw j;refine⟨S,h,nd,b,rfl,H.congr λp=>⟨.inl,?_⟩,g,(ZM _).symm,λ_ _=>rfl,Zo _,Zo _⟩;rintro (a | ⟨v,a,rfl⟩)
  ·exact a
  ·rw[List.prefix_nil.mp a,ZM];exact f
 |cons c w q =>
  intro P S nd b H h g f hw j;rw[Za]at j;obtain⟨O,r1,Q,o,e1,L,z,e,y,l,N⟩:=H.step g (hw c Zx) (by lia);obtain⟨D,r2,C,E,e2,G,x,u,t,s,M⟩:=q L z (.inr e) (λd hd=>hw d (Zw _ hd)) (by rw[e,Zs,Yr];lia);refine⟨D,r2,C,E,?_,G.congr λp=>?_,x,?_,λm i=>by rw[t m (by exact ZG i l),y m i],by exact ZC l s,by rw[Za];lia⟩
  ·show (hb S h c).bind _=_;rw[e1];exact e2
  ·rw[e];constructor
   ·rintro ((a | rfl) | ⟨v,a,rfl⟩)
    ·exact .inl a
    ·exact .inr ⟨[c],W7.mpr ⟨rfl,List.nil_prefix⟩,rfl⟩
    ·exact .inr ⟨c :: v,W7.mpr ⟨rfl,a⟩,by rw[ZZ];rfl⟩
   ·rintro (a | ⟨v,a,rfl⟩)
    ·exact .inl (.inl a)
    ·cases v with
     |nil=>rw[ZM];exact .inl (.inl f)
     |cons d v =>
      obtain⟨rfl,A⟩:=W7.mp a;exact .inr ⟨v,A,by rw[ZZ];rfl⟩
  ·rw[u,e,ZZ];rfl
def mB(S:St):List Wd->Option St
 |[]=>Z S
 |t :: b=>(hg S 0 t).bind λz=>mB z.1 b
def K.book:∀(b:List Wd){P:Wd->Prop}{S:St}{nd:Wd->Option Nat}{d:List Wd}(H:K P S nd d),(∀t∈b,∀c∈t,97<=c/\c<=122)->(∀t∈b,t.length<1000) →
  ∃j x IL,mB S b=.some j/\K (λp=>P p\/∃t∈b,p <+: t) j x IL/\d.length<=IL.length/\IL.length<=d.length+2*(b.map List.length).sum:=by
 intro b
 induction b with
 |nil =>
  intro P S nd d H _ _;refine⟨S,nd,d,rfl,H.congr λp=>⟨.inl,?_⟩,Zo _,ZJ _ _⟩;rintro (a | ⟨t,f,_⟩)
  ·exact a
  ·cases f
 |cons t b m =>
  intro P S nd d H h g;have n:0<d.length:=H.i.lt H.i.z;obtain⟨L,r1,M,l,e1,A,G,F,E,q,D⟩:=H.grow t n (by rw[H.i.wz];exact H.nil) (h t Zx) (by rw[H.i.wz];have:=g t Zx;simpa using this);obtain⟨s,r,w,e2,y,o,C⟩:=m A (λt f=>h t (Zw _ f)) (λt f=>g t (Zw _ f));refine⟨s,r,w,?_,y.congr λp=>?_,by exact ZC q o,by rw[Zn,Wp];lia⟩
  ·show (hg S 0 t).bind _=_;rw[e1];exact e2
  ·rw[H.i.wz];constructor
   ·rintro ((a | ⟨v,a,rfl⟩) | ⟨u,e,a⟩)
    ·exact .inl a
    ·exact .inr ⟨t,Zx,a⟩
    ·exact .inr ⟨u,Zw _ e,a⟩
   ·rintro (a | ⟨u,e,a⟩)
    ·exact .inl (.inl a)
    ·rcases Zk.mp e with rfl | e
     ·exact .inl (.inr ⟨p,a,rfl⟩)
     ·exact .inr ⟨u,e,a⟩
noncomputable def Hd(b:List Wd)(p:Wd):Prop:=p=[]\/∃t∈b,p <+: t
def K.of(b:List Wd)(f:∀t∈b,∀c∈t,97<=c/\c<=122)(d:∀t∈b,t.length<1000):∃S nd a,mB S0 b=.some S/\K (Hd b) S nd a/\a.length<=1+2*(b.map List.length).sum:=by
 obtain⟨S,nd,a,e,H,_,l⟩:=K0.book b f d;exact⟨S,nd,a,e,H,l⟩
def sk(w:List (Nat×Nat)):V2:=(List.range' 97 26).filter λc=>(gW w c).isSome
def visit(w:List (Nat×Nat)):V2->V2->V2
 |[],met=>met
 |c :: r,met=>visit w r (if (gW w c).getD 0∈met then met else met++[(gW w c).getD 0])
def LZ(S:St):Nat->V2->Nat->Option (V2)
 |k,met,d=>if d<met.length then (match k with
  |0=>Y
  |k+1=>LZ S k (visit (S.wy.getD (met.getD d 0) []) (sk (S.wy.getD (met.getD d 0) [])) met) (d+1)) else Z met
def steps(S:St)(a:V2)(n:Nat):List (Nat×Nat):=(sk (S.wy.getD n [])).map λc=>(c,a.idxOf ((gW (S.wy.getD n []) c).getD 0))
noncomputable abbrev Row:=Nat×Nat×Option Nat×List (Nat×Nat)
def row(S:St)(a:V2)(n:Nat):Row:=match S.lk.getD n Y with
 |none=>(0,0,Y,steps S a n)
 |some l=>(S.lg.getD l 0+1,S.lg.getD n 0,Z (a.idxOf l),steps S a n)
def tab(S:St)(a:V2):List Row:=a.map (row S a)
section
def nr(h:c∈sk w):∃m,gW w c=Z m:=Z3.mp (XC.mp h).2
theorem nP(hw:∀c m,gW w c=Z m->m<N):∀(r met:V2),(∀c∈r,∃m,gW w c=Z m)->(∀x∈met,x<N)->∀x∈visit w r met,x<N
 |[],met,_,a=>a
 |c :: r,met,b,a=>by
  refine nP hw r _ (λd hd=>b d (Zw _ hd)) ?_;obtain⟨m,e⟩:=b c Zx;rw[e,YL];split
  ·exact a
  ·intro x g;rcases Zd.mp g with h | h
   ·exact a x h
   ·rw[Ze.mp h];exact hw c m e
def getD_mem{l:V2}(h:d<l.length):l.getD d 0∈l:=by
 rw[Zq,Zp h];exact Yx h
end
theorem lI{w:List (Nat×Nat)}:∀(r met:V2),∃l,visit w r met=met++l
 |[],met=>⟨[],(ZM _).symm⟩
 |c :: r,met=>by
  obtain⟨l,e⟩:=lI (w:=w) r (if (gW w c).getD 0∈met then met else met++[(gW w c).getD 0]);show ∃l,visit w r _=_;rw[e];split
  ·exact⟨l,rfl⟩
  ·exact⟨_,ZZ _ _ _⟩
theorem om{w:List (Nat×Nat)}:∀(r met:V2),met.Nodup->(visit w r met).Nodup
 |[],met,h=>h
 |c :: r,met,h=>by
  refine om (w:=w) r _ ?_;split
  ·exact h
  ·rename_i q;rw[ZL];refine⟨h,by simp,λa d b hb e=>q ?_⟩;rw[Ze.mp hb]at e;rw[← e];exact d
theorem pT{w:List (Nat×Nat)}:∀(r met:V2),∀c∈r,(gW w c).getD 0∈visit w r met
 |d :: r,met,c,a=>by
  rcases Zk.mp a with rfl | a
  ·obtain⟨l,e⟩:=lI (w:=w) r (if (gW w c).getD 0∈met then met else met++[(gW w c).getD 0]);show _∈visit w r _;rw[e];refine Yn _ ?_;split
   ·assumption
   ·exact ZP _ Zx
  ·exact pT r _ c a
def yI(d:∀p∈w,97<=p.1/\p.1<=122)(h:gW w c=Z m):c∈sk w:=by
 refine XC.mpr ⟨?_,by rw[h];rfl⟩;unfold gW at h;obtain⟨p,a,_⟩:=Zv.mp h;have e:=List.find?_some a;have:=d p (List.mem_of_find?_eq_some a);have b:p.1=c:=by simpa using e
 rw[b]at this;rw[List.mem_range'_1];lia
def EO(o:WF S):∀(k:Nat)(met:V2)(d:Nat),met.Nodup->(∀x∈met,x<S.lg.length)->d<=met.length->S.lg.length<=k+d->(∀i,i<d->∀c m,gW (S.wy.getD (met.getD i 0) []) c=Z m->m∈met) →
  ∃l,LZ S k met d=Z (met++l)/\(met++l).Nodup/\(∀x∈met++l,x<S.lg.length)/\∀n∈met++l,∀c m,gW (S.wy.getD n []) c=Z m->m∈met++l:=by
 intro k;have fin:∀(met:V2)(d:Nat),¬d<met.length->d<=met.length->(∀i,i<d->∀c m,gW (S.wy.getD (met.getD i 0) []) c=Z m->m∈met)->∀n∈met,∀c m,gW (S.wy.getD n []) c=Z m->m∈met:=by
  intro met d f b h n t c m e;obtain⟨i,g,q⟩:=List.mem_iff_getElem.mp t;refine h i (by lia) c m ?_;have:met.getD i 0=n:=by rw[Zq,Zp g,q];rfl
  rw[this];exact e
 induction k with
 |zero =>
  intro met d nd lt hd u h;have z:met.length<=S.lg.length:=by
   have:=sub_len met (List.range S.lg.length) nd λx s=>Z4.mpr (lt x s)
   rwa [Z0]at this
  have a:¬d<met.length:=by lia
  refine⟨[],?_,?_⟩
  ·unfold LZ;rw[Zm a,ZM]
  ·rw[ZM];exact⟨nd,lt,fin met d a hd h⟩
 |succ k r =>
  intro met d nd lt hd u h;by_cases a:d<met.length
  ·obtain⟨p,e1⟩:=lI (w:=S.wy.getD (met.getD d 0) []) (sk (S.wy.getD (met.getD d 0) [])) met;obtain⟨l,e,f,b,j⟩:=r (visit (S.wy.getD (met.getD d 0) []) (sk (S.wy.getD (met.getD d 0) [])) met) (d+1) (om _ _ nd) (nP (λc m e=>o.on _ c m e) _ _ (λc v=>nr v) lt) (by rw[e1,Zs];lia) (by lia) (λi g c m e=>by
    have y:(visit (S.wy.getD (met.getD d 0) []) (sk (S.wy.getD (met.getD d 0) [])) met).getD i 0=met.getD i 0:=by
     rw[e1,Zq,Zq,Yz (by lia)]
    rw[y]at e;by_cases q:i=d
    ·subst q;have:=pT (w:=S.wy.getD (met.getD i 0) []) (sk (S.wy.getD (met.getD i 0) [])) met c (yI (o.Px _).2 e);rw[e]at this;exact this
    ·rw[e1];exact Yn _ (h i (by lia) c m e))
   rw[e1,ZZ]at f b j;refine⟨p++l,?_,f,b,j⟩;unfold LZ;rw[Zr a];show LZ S k _ (d+1)=_;rw[e,e1,ZZ]
  ·refine⟨[],?_,?_⟩
   ·unfold LZ;rw[Zm a,ZM]
   ·rw[ZM];exact⟨nd,lt,fin met d a hd h⟩
def Bo{α:Type}{p:List α->Prop}(h0:p [])(h1:∀l a,p l->p (l++[a]))(l:List α):p l:=by
 have:∀l:List α,p l.reverse:=by
  intro l
  induction l with
  |nil=>exact h0
  |cons a l ih=>rw[List.reverse_cons];exact h1 _ a ih
 rw[← List.reverse_reverse l];exact this _
def K.met(H:K P S nd wd){k:Nat}(hk:wd.length<=k):∃l,LZ S k [0] 0=Z (0 :: l)/\(0 :: l).Nodup/\(∀x,x∈0 :: l↔x<wd.length)/\(0 :: l).length=wd.length:=by
 have L:S.lg.length=wd.length:=H.i.len.symm;obtain⟨l,e,h1,h2,h3⟩:=EO H.i.wf k [0] 0 (by simp) (λx hx=>by rw[Ze.mp hx];exact H.i.wf.pos) (ZO _) (by lia) (λi hi=>absurd hi (Nat.not_lt_zero _));have h0:∀(x:Wd) n,nd x=Z n->n∈0 :: l:=by
  intro x
  induction x using Bo with
  |h0=>intro n e;rw[H.i.z]at e;cases e;exact Zx
  |h1 x c ih =>
   intro n e;obtain⟨m,hm⟩:=H.i.pre e;exact h3 m (ih m hm) c n (by rw[H.i.wy hm];exact e)
 have hx:∀x,x∈0 :: l↔x<wd.length:=λx=>⟨λz=>by rw[← L];exact h2 x z,λz=>h0 _ x (H.i.top z)⟩
 refine⟨l,e,h1,hx,WB ?_ ?_⟩
 ·have:=sub_len (0 :: l) (List.range wd.length) h1 λx z=>Z4.mpr ((hx x).mp z)
  rwa [Z0]at this
 ·have:=sub_len (List.range wd.length) (0 :: l) VW λx z=>(hx x).mpr (Z4.mp z)
  rwa [Z0]at this
end AU
end
section
namespace T11
open VS AU
def Bj(w:List (Nat×Nat))(c:Nat):c∈w.map (·.1)↔(gW w c).isSome=B:=by
 rw[← Fg,XI,Yw];exact⟨λ⟨p,b,a⟩=>⟨p,b,by rw[a];exact beq_self_eq_true c⟩,λ⟨p,b,a⟩=>⟨p,b,by simpa using a⟩⟩
def vg{w:List (Nat×Nat)}(a:(w.map (·.1)).Nodup)(b:∀p∈w,97<=p.1/\p.1<=122):(sk w).Perm (w.map (·.1)):=by
 refine(WX ?_ a).mpr λc=>?_
 ·exact List.Nodup.sublist List.filter_sublist List.nodup_range'
 ·rw[Bj];constructor
  ·intro h;exact(XC.mp h).2
  ·intro h;obtain⟨m,e⟩:=Z3.mp h;exact yI b e
def yg{w:List (Nat×Nat)}(e:(w.map (·.1)).Nodup)(d:∀p∈w,97<=p.1/\p.1<=122):gK [(m,IB w)]=Z (.fr,.lst ((sk w).map λc=>T.str [c])):=by
 show ((strs? ((w.map λp=>(T.str [p.1],T.int (p.2:Int))).map (·.1))).bind _)=_;have e1:(w.map λp=>(T.str [p.1],T.int (p.2:Int))).map (·.1)=(w.map (·.1)).map λc=>T.str [c]:=by
  rw[ZA,ZA];rfl
 rw[e1,strs_map (λc=>[c]),Zt,Zr]
 ·have:(sk w).map (λc=>[c])=eI ((w.map (·.1)).map λc=>[c]):=by
   refine pL ((vg e d).map _) ?_;rw[YH];refine List.Pairwise.imp ?_ (List.Pairwise.filter _ (List.pairwise_lt_range' (s:=97) (n:=26)));intro a b j h;rcases Wt.mp h with h | ⟨_,h⟩
   ·omega
   ·exact absurd h (List.not_lt_nil _)
  rw[← this,ZA];rfl
 ·refine⟨?_,Yq.mpr ?_⟩
  ·rw[Zy,← (vg e d).length_eq];have:(sk w).length<=(List.range' 97 26).length:=Xa _ _;rw[List.length_range']at this;omega
  intro s f;obtain⟨c,i,rfl⟩:=Yw.mp f;obtain⟨p,g,rfl⟩:=Yw.mp i;have:=d p g;show (decide (1<=eu)&&(decide (p.1<1114112)&&B))=B;rw[decide_eq_true (show p.1<1114112 by omega)];rfl
noncomputable def nE:Nat->V2->List (T×T)
 |_,[]=>[]
 |k,n :: r=>(T.int (n:Int),T.int (k:Int)) :: nE (k+1) r
theorem yJ:∀(met:V2)(k:Nat),(nE k met).length=met.length
 |[],_=>rfl
 |_ :: r,k=>by rw[nE,Za,Za,yJ r]
theorem qV:∀(met:V2)(k:Nat),(nE k met).map (·.1)=met.map λ(n:Nat)=>T.int (n:Int)
 |[],_=>rfl
 |_ :: r,k=>by rw[nE,Zn,Zn,qV r]
theorem AL:∀(met:V2)(k n:Nat),nE k (met++[n])=nE k met++[(T.int (n:Int),T.int ((k+met.length:Nat):Int))]
 |[],k,n=>rfl
 |m :: r,k,n=>by
  rw[XJ,nE,nE,AL r (k+1) n,Za,XJ];rw[show k+1+r.length=k+(r.length+1) by omega]
def HW(a b:Nat):eqT (.int (a:Int)) (.int (b:Int))=(a==b):=by
 simp only[eqT];by_cases h:a=b
 ·simp[h]
 ·have d:¬(a:Int)=(b:Int):=by omega
  rw[ZE.mpr h,ZE.mpr d]
theorem qq:∀(met:V2)(k n:Nat),cP (nE k met) (.int (n:Int))=if n∈met then Z (T.int ((k+met.idxOf n:Nat):Int)) else Y
 |[],_,_=>rfl
 |m :: r,k,n=>by
  show ((((T.int (m:Int),T.int (k:Int)) :: nE (k+1) r).find? λp=>eqT p.1 (.int (n:Int))).map (·.2))=_;rw[Z9];simp only[HW];by_cases h:m=n
  ·subst h;simp[List.idxOf_cons]
  ·have hb:(m==n)=J:=ZE.mpr h;have a:=qq r (k+1) n;unfold cP at a;simp only[hb];rw[a,List.idxOf_cons,hb];by_cases q:n∈r
   ·rw[Zr q,Zr (Zw _ q)];show Z (T.int ((k+1+r.idxOf n:Nat):Int))=Z (T.int ((k+(r.idxOf n+1):Nat):Int));rw[show k+1+r.idxOf n=k+(r.idxOf n+1) by omega]
   ·rw[Zm q,Zm (λz=>(Zk.mp z).elim (λe=>h e.symm) q)]
def EX(a:V2)(n:Nat)(h:n∉a):dput (nE 0 a) (.int (n:Int)) (.int (a.length:Int))=nE 0 (a++[n]):=by
 unfold dput;rw[Zm,AL]
 ·rw[XM]
 ·intro z;obtain⟨p,b,e⟩:=XI.mp z;have:(cP (nE 0 a) (.int (n:Int))).isSome=B:=by
   unfold cP;rw[Y5,List.find?_isSome];exact⟨p,b,e⟩
  rw[qq,Zm h]at this;cases this
def nT(met:V2):T:=.dct 0 (nE 0 met)
noncomputable def mT(met:V2):T:=.lst (met.map λ(n:Nat)=>T.int (n:Int))
def Dd{m k:Md}{met:V2}{n:Nat}(h:a U=Z (m,nT met))(he:e U=Z (k,.int (n:Int))):e2 dh e a U=Z (.fr,.bl (decide (n∉met))):=e2v he h (by
 show (match (if B=B then Z (Md.fr,T.bl (cP (nE 0 met) (.int (n:Int))).isSome) else Y) with | some (_,.bl b)=>some (Md.fr,T.bl (!b)) | _=>none)=_;rw[Zr M,qq];by_cases q:n∈met
 ·rw[Zr q,ZI (λz=>z q)];rfl
 ·rw[Zm q,decide_eq_true q];rfl)
section
theorem Ah{d:Nat}{ob:V5}:∀(r met:V2)(z:V5),(∀c∈r,∃m,gW w c=Z m)->met.length+r.length<16777216->∃a,forL (bu 5) bj (r.map λc=>T.str [c]) [ob,oc (nT met),oc (mT met),Q0 (d:Int),pc (IB w),z]=Z (.nx [ob,oc (nT (visit w r met)),oc (mT (visit w r met)),Q0 (d:Int),pc (IB w),a])
 |[],met,z,_,_=>⟨z,rfl⟩
 |c :: r,met,z,f,p=>by
  obtain⟨m,e⟩:=f c Zx;rw[Za]at p;have hlen:(nE 0 met).length=met.length:=yJ met 0;by_cases q:m∈met
  ·obtain⟨a,b⟩:=Ah r met (Q2 ([c])) (λd hd=>f d (Zw _ hd)) (by omega);refine⟨a,?_⟩;have ev:visit w (c :: r) met=visit w r met:=by
    show visit w r (if (gW w c).getD 0∈met then met else met++[(gW w c).getD 0])=_;rw[e,YL,Zr q]
   rw[ev,Zn];refine(fJ (U1:=[ob,oc (nT met),oc (mT met),Q0 (d:Int),pc (IB w),Q2 ([c])]) M ?_).trans b;unfold bj;refine kM (m:=.fr) ?_ M;refine(Dd (m:=.bo) (k:=.fr) (met:=met) (n:=m) M (xN (m:=.pu) (n:=.fr) (c:=c) (w:=w) M M e)).trans ?_;rw[ZI (λz=>z q)]
  ·obtain⟨a,b⟩:=Ah r (met++[m]) (Q2 ([c])) (λd hd=>f d (Zw _ hd)) (by rw[Zs,Yr];omega);refine⟨a,?_⟩;have ev:visit w (c :: r) met=visit w r (met++[m]):=by
    show visit w r (if (gW w c).getD 0∈met then met else met++[(gW w c).getD 0])=_;rw[e,YL,Zm q]
   rw[ev,Zn];refine(fJ (U1:=[ob,oc (nT met),oc (mT met),Q0 (d:Int),pc (IB w),Q2 ([c])]) M ?_).trans b;unfold bj;refine O0 (m:=.fr) ?_ ?_
   ·refine(Dd (m:=.bo) (k:=.fr) (met:=met) (n:=m) M (xN (m:=.pu) (n:=.fr) (c:=c) (w:=w) M M e)).trans ?_;rw[decide_eq_true q]
   ·have h:∀nn g:V5,e2 JS (aa 4) (aa 5) [ob,nn,g,Q0 (d:Int),pc (IB w),Q2 ([c])]=Z (.fr,.int (m:Int)):=λnn g=>xN (m:=.pu) (n:=.fr) (c:=c) (w:=w) M M e;have j:sR 1 (e2 JS (aa 4) (aa 5)) (eN cT (ab (aa 2) ag)) [ob,oc (nT met),oc (mT met),Q0 (d:Int),pc (IB w),Q2 ([c])]=Z (.nx [ob,oc (nT (met++[m])),oc (mT met),Q0 (d:Int),pc (IB w),Q2 ([c])]):=by
     have o:eN cT (ab (aa 2) ag) [ob,oc (nT met),oc (mT met),Q0 (d:Int),pc (IB w),Q2 ([c])]=Z (.fr,.int (met.length:Int)):=iP (xv (x:=(.bo,mT met)) M M) (by
      show Z (Md.fr,T.int (((met.map λ(n:Nat)=>T.int (n:Int)).length:Nat):Int))=_;rw[Zy])
     unfold sR;rw[o,Zt];show ((e2 JS (aa 4) (aa 5) [ob,oc (nT met),oc (mT met),Q0 (d:Int),pc (IB w),Q2 ([c])]).bind _)=_;rw[h,Zt];show (if B=B/\B=B/\(nE 0 met).length<eu then Z (Out.nx [ob,oc (.dct 0 (dput (nE 0 met) (.int (m:Int)) (.int (met.length:Int)))),oc (mT met),Q0 (d:Int),pc (IB w),Q2 ([c])]) else Y)=_;rw[Zr ⟨rfl,rfl,by rw[hlen];show met.length<16777216;omega⟩,EX met m q];rfl
    refine sq j ?_;refine(As (i:=2) (l:=met.map λ(n:Nat)=>T.int (n:Int)) (v:=.int (m:Int)) M (h _ _) (by rw[Zy];omega)).trans ?_;rw[show (met.map λ(n:Nat)=>T.int (n:Int))++[.int (m:Int)]=(met++[m]).map λ(n:Nat)=>T.int (n:Int) from by rw[Yo];rfl];rfl
end
def ub(w:List (Nat×Nat)):(sk w).length<=26:=by
 refine ZC (Xa _ _) ?_;rw[List.length_range'];exact Zo _
def CQ{S:St}{a:V2}(b:a.Nodup)(d:∀x∈a,x<S.lg.length):a.length<=S.lg.length:=by
 have:=sub_len a (List.range S.lg.length) b λx e=>Z4.mpr (d x e)
 rwa [Z0]at this
def G6(j:WF S)(G:S.lg.length<=100001):∀(k:Nat)(met:V2)(d:Nat)(M:V2),met.Nodup->(∀x∈met,x<S.lg.length)->LZ S k met d=Z M->∀N,k<N->∀f a:V5,∃i A C,
  fA (e2 oLt (aa 3) (eN cT (ab (aa 2) ag))) bT N [pc (xh S J),oc (nT met),oc (mT met),Q0 ((d:Nat):Int),f,a] =
   Z (.nx [pc (xh S J),oc (nT M),oc (mT M),pc i,A,C]):=by
 have cond:∀(met:V2)(d:Nat)(f a:V5),e2 oLt (aa 3) (eN cT (ab (aa 2) ag)) [pc (xh S J),oc (nT met),oc (mT met),Q0 ((d:Nat):Int),f,a]=Z (.fr,.bl (decide (d<met.length))):=λmet d f a =>
  e2v (x:=(.fr,.int (d:Int))) rfl (iP (v:=(.fr,.int (met.length:Int))) (xv (x:=(.bo,mT met)) rfl rfl) (by
   show Z (Md.fr,T.int (((met.map λ(n:Nat)=>T.int (n:Int)).length:Nat):Int))=_;rw[Zy])) (by
   show Z (Md.fr,T.bl (decide ((d:Int)<(met.length:Int))))=_;rw[show decide ((d:Int)<(met.length:Int))=decide (d<met.length) from decide_eq_decide.mpr (by omega)])
 intro k
 induction k with
 |zero =>
  intro met d M nd lt e N hN f a;obtain⟨N,rfl⟩:∃M,N=M+1:=⟨N-1,by omega⟩
  unfold LZ at e;split at e
  ·cases e
  ·rename_i h;cases e;exact⟨_,f,a,gw (m:=.fr) ((cond _ _ _ _).trans (by rw[ZI h]))⟩
 |succ k u =>
  intro met d M nd lt e N hN f a;obtain⟨N,rfl⟩:∃M,N=M+1:=⟨N-1,by omega⟩
  unfold LZ at e;split at e
  ·rename_i h;have z:=lt _ (getD_mem h);have D:met.getD d 0<S.wy.length:=by rw[j.wy];exact z
   have F:=CQ nd lt;have E:=ub (S.wy.getD (met.getD d 0) []);obtain⟨o,s⟩:=Ah (w:=S.wy.getD (met.getD d 0) []) (d:=d) (ob:=pc (xh S J)) (sk (S.wy.getD (met.getD d 0) [])) met a (λc g=>nr g) (by omega);obtain⟨i,r,p,q⟩:=u _ (d+1) M (om _ _ nd) (nP (λc m e=>j.on _ c m e) _ _ (λc g=>nr g) lt) e N (by omega) (pc (IB (S.wy.getD (met.getD d 0) []))) o;refine⟨i,r,p,(qO (m:=.fr) ((cond _ _ _ _).trans (by rw[decide_eq_true h])) ?_).trans q⟩;unfold bT;have ix:e2 aD (aa 2) (aa 3) [pc (xh S J),oc (nT met),oc (mT met),Q0 ((d:Nat):Int),f,a]=Z (.fr,.int ((met.getD d 0:Nat):Int)):=e2v (x:=(.bo,mT met)) (y:=(.fr,.int (d:Int))) rfl rfl (ku _ met d 0 h);have s1:aI 4 (e2 aD (aU 3 (aa 0)) (e2 aD (aa 2) (aa 3))) [pc (xh S J),oc (nT met),oc (mT met),Q0 ((d:Nat):Int),f,a]=Z (.nx [pc (xh S J),oc (nT met),oc (mT met),Q0 ((d:Nat):Int),pc (IB (S.wy.getD (met.getD d 0) [])),a]) :=
    aK (m:=.pu) (nF (S:=S) (b:=J) (m:=.pu) (n:=.fr) rfl ix D) (by decide) (by decide:4<6)
   refine sq s1 ?_;have nw:=j.Px (met.getD d 0);refine sq ((iJ (m:=.fr) (l:=(sk (S.wy.getD (met.getD d 0) [])).map λc=>T.str [c]) ?_ rfl).trans s) ?_
   ·show (eN gK (ab (aa 4) ag) _).bind Ep=_;rw[iP (xv (x:=(.pu,IB (S.wy.getD (met.getD d 0) []))) rfl rfl) (yg nw.1 nw.2)];rfl
   ·exact aK (m:=.fr) (t:=.int (((d+1:Nat)):Int)) rfl (by decide) (by decide:3<6)
  ·rename_i h;cases e;exact⟨_,f,a,gw (m:=.fr) ((cond _ _ _ _).trans (by rw[ZI h]))⟩
def EJ(a:WF S)(g:S.lg.length<=100001){M:V2}(h:k<1000000)(e:LZ S k [0] 0=Z M):aH [xh S J]=Z (.fr,nT M):=by
 obtain⟨i,d,b,q⟩:=G6 a g k [0] 0 M (by simp) (λx f=>by rw[Ze.mp f];exact a.pos) e AB (by show k<1000000;exact h) Y Y;refine fF (U:=[pc (xh S J),Y,pc (mT M),pc i,d,b]) rfl ?_;exact sq rfl (sq rfl (sq rfl (sq q (sq rfl rfl))))
noncomputable def Ls(l:List (Nat×Nat)):T:=.tup (l.map λp=>T.tup [.str [p.1],.int (p.2:Int)])
def fX(r:Row):T:=.tup [.int (r.1:Int),.int (r.2.1:Int),IM r.2.2.1,Ls r.2.2.2]
theorem vw:∀l:List (Nat×Nat),fE (l.map λp=>T.tup [.str [p.1],.int (p.2:Int)])=B
 |[]=>rfl
 |p :: l=>by
  rw[Zn];show (B&&fE _)=B;rw[vw l];rfl
def oH(l:List (Nat×Nat)):Iq (Ls l)=B:=vw l
def vA(r:Row):Iq (fX r)=B:=by
 show (B&&(B&&(Iq (IM r.2.2.1)&&(Iq (Ls r.2.2.2)&&B))))=B;rw[lz,oH];rfl
def GG(h:a U=Z (.fr,x))(g:b U=Z (.fr,y))(f:c U=Z (.fr,z))(e:d U=Z (.fr,w)):pX (ab a (ab b (ab c (ab d ag)))) U=Z (.fr,.tup [x,y,z,w]):=by
 show (ab a (ab b (ab c (ab d ag))) U).bind sy=_;rw[xv h (xv g (xv f (xv (r:=ag) e M))),Zt];show Z (up .fr _)=_;unfold up;split<;>rfl
def Fe(d:WF S)(o:∀x,x<S.lg.length->x∈a)(g:n<S.lg.length):bS [xh S J,.int (n:Int),.dct 3 (nE 0 a)]=Z (.fr,fX (row S a n)):=by
 have hw:n<S.wy.length:=by rw[d.wy];exact g
 have z:n<S.lk.length:=by rw[d.lk];exact g
 have nw:=d.Px n;have get:∀v,v<S.lg.length->cP (nE 0 a) (.int (v:Int))=Z (T.int ((a.idxOf v:Nat):Int)):=λv u=>by rw[qq,Zr (o v u),XM]
 have s1:aI 3 (e2 aD (aU 2 (aa 0)) (aa 1)) [pc (xh S J),Q0 (n:Int),pc (.dct 3 (nE 0 a)),Y,Y,Y]=Z (.nx [pc (xh S J),Q0 (n:Int),pc (.dct 3 (nE 0 a)),pc (IM (S.lk.getD n Y)),Y,Y]):=aK (m:=.fr) (we (S:=S) (b:=J) (m:=.pu) (n:=.fr) M M z) (by decide) (by decide:3<6);have f:aI 4 (e2 aD (aU 3 (aa 0)) (aa 1)) [pc (xh S J),Q0 (n:Int),pc (.dct 3 (nE 0 a)),pc (IM (S.lk.getD n Y)),Y,Y]=Z (.nx [pc (xh S J),Q0 (n:Int),pc (.dct 3 (nE 0 a)),pc (IM (S.lk.getD n Y)),pc (IB (S.wy.getD n [])),Y]):=aK (m:=.pu) (nF (S:=S) (b:=J) (m:=.pu) (n:=.fr) M M hw) (by decide) (by decide:4<6);have C:eN iy (ab (dy 1 (bu 0) (g7 (eN gK (ab (aa 4) ag))) Y (pX (ab (aa 0) (ab (e2 j8 (aa 3) (e2 JS (aa 5) (aa 0))) ag)))) ag) [pc (xh S J),Q0 (n:Int),pc (.dct 3 (nE 0 a)),pc (IM (S.lk.getD n Y)),pc (IB (S.wy.getD n [])),Y]=Z (.fr,Ls (steps S a n)):=by
  have D:=fP (k:=1) (tg:=bu 0) (it:=g7 (eN gK (ab (aa 4) ag))) (elt:=pX (ab (aa 0) (ab (e2 j8 (aa 3) (e2 JS (aa 5) (aa 0))) ag))) (m:=.fr) (U:=[pc (xh S J),Q0 (n:Int),pc (.dct 3 (nE 0 a)),pc (IM (S.lk.getD n Y)),pc (IB (S.wy.getD n [])),Y]) (λc=>T.str [c]) (λc=>T.tup [.str [c],.int ((a.idxOf ((gW (S.wy.getD n []) c).getD 0):Nat):Int)]) (sk (S.wy.getD n [])) (by
   show (eN gK (ab (aa 4) ag) _).bind Ep=_;rw[iP (xv (x:=(.pu,IB (S.wy.getD n []))) M M) (yg nw.1 nw.2)];rfl) M (ZC (ub _) (by decide)) (λc A=>by
   obtain⟨v,ev⟩:=nr A;refine⟨[Q2 ([c]),pc (xh S J),Q0 (n:Int),pc (.dct 3 (nE 0 a)),pc (IM (S.lk.getD n Y)),pc (IB (S.wy.getD n [])),Y],rfl,?_⟩;have s:e2 j8 (aa 3) (e2 JS (aa 5) (aa 0)) [Q2 ([c]),pc (xh S J),Q0 (n:Int),pc (.dct 3 (nE 0 a)),pc (IM (S.lk.getD n Y)),pc (IB (S.wy.getD n [])),Y]=Z (.fr,.int ((a.idxOf v:Nat):Int)) :=
    e2v (x:=(.pu,.dct 3 (nE 0 a))) M (xN (m:=.pu) (n:=.fr) (c:=c) (w:=S.wy.getD n []) M M ev) (by
     show (if B=B then (cP (nE 0 a) (.int (v:Int))).map (sub .pu) else Y)=_;rw[Zr M,get v (d.on n c v ev)];rfl)
   rw[ev,YL];show (ab (aa 0) (ab (e2 j8 (aa 3) (e2 JS (aa 5) (aa 0))) ag) _).bind sy=_;rw[xv (x:=(.fr,.str [c])) M (xv (r:=ag) s M)];rfl)
  refine iP (xv (r:=ag) D M) ?_;show (if _<=eu then Z (up .fr (.tup _)) else Y)=_;rw[Zr (by rw[Zy];exact ZC (ub _) (by decide))];have:T.tup ((sk (S.wy.getD n [])).map λc=>T.tup [.str [c],.int ((a.idxOf ((gW (S.wy.getD n []) c).getD 0):Nat):Int)])=Ls (steps S a n):=by
   unfold Ls steps;rw[ZA];rfl
  rw[this];unfold up;rw[oH];rfl
 have e:=aK (i:=5) C (by decide) (by decide:5<6);have p:∀U:Env,U[5]?=Z (pc (Ls (steps S a n)))->aa 5 U=Z (.fr,Ls (steps S a n)):=λU h=>by
  show (match U[5]? with | some (some (.pu t))=>some (up .pu t) | some (some (.ow t))=>some (.bo,t) | _=>none)=_;rw[h];show Z (up .pu _)=_;unfold up;rw[oH];rfl
 unfold row;cases j:S.lk.getD n Y with
 |none =>
  rw[j]at s1 f e;refine fF (v:=(.fr,fX (0,0,Y,steps S a n))) (U:=[pc (xh S J),Q0 (n:Int),pc (.dct 3 (nE 0 a)),pc (IM Y),pc (IB (S.wy.getD n [])),pc (Ls (steps S a n))]) M ?_;refine sq s1 (sq f (sq e (mQ (O0 (m:=.fr) M (ft (GG M M M (p _ M)))))))
 |some l =>
  rw[j]at s1 f e;have q:=d.up n l j;refine fF (v:=(.fr,fX (S.lg.getD l 0+1,S.lg.getD n 0,Z (a.idxOf l),steps S a n))) (U:=[pc (xh S J),Q0 (n:Int),pc (.dct 3 (nE 0 a)),pc (IM (Z l)),pc (IB (S.wy.getD n [])),pc (Ls (steps S a n))]) M ?_;refine sq s1 (sq f (sq e (sq (kM (m:=.fr) M M) (ft (GG ?_ ?_ ?_ (p _ M))))))
  ·exact e2v (tN (S:=S) (b:=J) (m:=.pu) (n:=.fr) (i:=l) M M q) M M
  ·exact tN (S:=S) (b:=J) (m:=.pu) (n:=.fr) (i:=n) M M g
  ·exact e2v (x:=(.pu,.dct 3 (nE 0 a))) (y:=(.fr,.int (l:Int))) M M (by
    show (if B=B then (cP (nE 0 a) (.int (l:Int))).map (sub .pu) else Y)=_;rw[Zr M,get l q];rfl)
def Kn(t:List Row):T:=.lst (t.map fX)
def Em(b:WF S)(g:S.lg.length<=100001){M:V2}{k:Nat}(l:k<1000000)(e:LZ S k [0] 0=Z M)(a:∀x,x∈M↔x<S.lg.length)(j:M.length<=16777216):dz [xh S J]=Z (.fr,Kn (tab S M)):=by
 have d:=EJ b g l e;refine fF (U:=[pc (xh S J),Y]) rfl ?_;have s1:nL 1 (eY 0 aH (aa 0) ag) [pc (xh S J),Y]=Z (.nx [pc (xh S J),oc (nT M)]):=by
  show (eY 0 aH (aa 0) ag [pc (xh S J),Y]).bind _=_;have:eY 0 aH (aa 0) ag [pc (xh S J),Y]=Z (.fr,nT M):=by
   show ((aH [xh S J]).bind _)=_;rw[d];rfl
  rw[this];rfl
 refine sq s1 ?_;have o:=fP (k:=1) (tg:=bu 0) (it:=km 1) (elt:=eY 0 bS (aa 1) (ab (aa 0) (ab (aa 2) ag))) (m:=.fr) (U:=[pc (xh S J),pc (.dct 3 (nE 0 M))]) (λ(n:Nat)=>T.int (n:Int)) (λn=>fX (row S M n)) M (by
  show (if ((nE 0 M).all λp=>isInt p.1)=B then Z (Md.fr,(nE 0 M).map (·.1)) else Y)=_;rw[Zr,qV];rw[Yq];intro p h;have:p.1∈(nE 0 M).map (·.1):=List.mem_map_of_mem h;rw[qV]at this;obtain⟨n,_,e⟩:=Yw.mp this;rw[← e];rfl) rfl j (λn i=>by
  refine⟨[Q0 (n:Int),pc (xh S J),pc (.dct 3 (nE 0 M))],rfl,?_⟩;show ((bS [xh S J,.int (n:Int),.dct 3 (nE 0 M)]).bind _)=_;rw[Fe b (λx f=>(a x).mpr f) ((a n).mp i)];rfl)
 show ((dy 1 (bu 0) (km 1) Y (eY 0 bS (aa 1) (ab (aa 0) (ab (aa 2) ag))) [pc (xh S J),pc (.dct 3 (nE 0 M))]).bind _)=_;rw[o];unfold Kn tab;rw[ZA];rfl
def MN(a:List Tx)(b:V2)(S:St):tD:=[(4,.lst (a.map .str)),(5,.lst (b.map λ(n:Nat)=>T.int (n:Int))),(6,xh S J)]
def Io(a:List Tx)(d:V2)(S:St)(b:Bool):T:=.obj 2 ((0,.bl b) :: MN a d S)
def Bb(S:St):fi (xh S J)=B:=by
 show ((B && !(0==0&&J))&&dJ (Li S))=B;rw[kg];rfl
def kI(a:List Tx)(b:V2)(S:St):dJ (MN a b S)=B:=by
 have e:fi (.lst (a.map T.str))=B:=eD _ (λ_=>rfl) _;have d:fi (.lst (b.map λ(n:Nat)=>T.int (n:Int)))=B:=eD _ (λ_=>rfl) _;show ((fi _ && !(4==0&&Nm _))&&((fi _ && !(5==0&&Nm _))&&((fi _ && !(6==0&&Nm _))&&B)))=B;rw[e,d,Bb];rfl
def CN(a:List Tx)(d:V2)(S:St)(b:Bool):qC 4 (Io a d S b)=Z (.lst (a.map .str)):=rfl
def HQ(d:List Tx)(a:V2)(S:St)(b:Bool):qC 5 (Io d a S b)=Z (.lst (a.map λ(n:Nat)=>T.int (n:Int))):=rfl
def HE(a:List Tx)(d:V2)(S:St)(b:Bool):qC 6 (Io a d S b)=Z (xh S J):=rfl
section
def zg{m:Md}(h:a U=Z (m,Io tx hd S b)):eN cT (ab (aU 4 a) ag) U=Z (.fr,.int (tx.length:Nat)):=iP (xv (gS h (CN tx hd S b)) M) (by
 show Z (Md.fr,T.int (((tx.map T.str).length:Nat):Int))=_;rw[Zy])
def EL{e:Ex}{v:Tx}(h:e (oc (Io tx hd S b) :: r)=Z (.fr,.str v))(f:tx.length<16777216):sX (iS 0 [.fld 4] aC (ab e ag)) (oc (Io tx hd S b) :: r)=Z (.nx (oc (Io (tx++[v]) hd S b) :: r)):=by
 show (((Z [Ky.fld 4]).bind λd=>(ab e ag (oc (Io tx hd S b) :: r)).bind λa=>(pm (λx=>aC x a) d (Io tx hd S b)).map _).map _)=_;rw[Zt,xv (r:=ag) h M,Zt];show (((aC (.lst (tx.map T.str)) [(.fr,.str v)]).map _).map _ |>.map _)=_;rw[cf (by rw[Zy];exact f),show (tx.map T.str)++[.str v]=(tx++[v]).map T.str from by rw[Yo];rfl];rfl
def FE{e:Ex}{v:Nat}(h:e (oc (Io tx hd S b) :: r)=Z (.fr,.int (v:Int)))(f:hd.length<16777216):sX (iS 0 [.fld 5] aC (ab e ag)) (oc (Io tx hd S b) :: r)=Z (.nx (oc (Io tx (hd++[v]) S b) :: r)):=by
 show (((Z [Ky.fld 5]).bind λd=>(ab e ag (oc (Io tx hd S b) :: r)).bind λa=>(pm (λx=>aC x a) d (Io tx hd S b)).map _).map _)=_;rw[Zt,xv (r:=ag) h M,Zt];show (((aC (.lst (hd.map λ(n:Nat)=>T.int (n:Int))) [(.fr,.int (v:Int))]).map _).map _ |>.map _)=_;rw[cf (by rw[Zy];exact f),show (hd.map λ(n:Nat)=>T.int (n:Int))++[.int (v:Int)]=(hd++[v]).map λ(n:Nat)=>T.int (n:Int) from by rw[Yo];rfl];rfl
def yb{tx:List Tx}{hd:V2}(h:tx.length<8)(i:hd.length=tx.length):br (MN tx hd S) []=Z (MN (tx++[[]]) (hd++[0]) S,.int (tx.length:Int)):=by
 unfold br Kh;rw[Zr ⟨rfl,rfl⟩];have a:e2 OW (eN cT (ab (aU 4 (aa 0)) ag)) (Q3 8) [oc (Io tx hd S B)]=Z (.fr,.bl J):=e2v (zg (m:=.bo) M) M (by
  show Z (Md.fr,T.bl (decide ((8:Int)<=(tx.length:Int))))=_;rw[ZI (by omega)])
 have g:=EL (tx:=tx) (hd:=hd) (S:=S) (b:=B) (r:=[]) (e:=eC (.str [])) (v:=[]) M (by omega);have f:=FE (tx:=tx++[[]]) (hd:=hd) (S:=S) (b:=B) (r:=[]) (e:=Q3 0) (v:=0) M (by omega);have d:=ft (e:=e2 oZ (eN cT (ab (aU 4 (aa 0)) ag)) (Q3 1)) (U:=[oc (Io (tx++[[]]) (hd++[0]) S B)]) (t:=.int (tx.length:Int)) (e2v (zg (m:=.bo) M) M (by
  show Z (Md.fr,T.int ((((tx++[[]]).length:Nat):Int)-1))=_;rw[Zs,Yr,show (((tx.length+1:Nat)):Int)-1=(tx.length:Int) by omega]))
 exact congrArg (λz:Option Out=>z.bind _) (sq (kM a M) (sq g (sq f d)))
def GC{l:V8}(a:i<l.length):ba [.lst l,.int (i:Int)]=Z (.fr,.non):=by
 refine Hs (U:=[pc (.lst l),Q0 (i:Int)]) M ?_;refine(wH (m:=.fr) (C1 (m:=.fr) (x:=J) ?_ (λ_=>?_) (λh=>by cases h))).trans rfl
 ·exact ud (m:=.fr) (b:=B) M
 ·refine ud (m:=.fr) (b:=B) (Cd (x:=(.fr,.int 0)) (y:=(.fr,.int (i:Int))) (z:=(.fr,.int (l.length:Int))) M M ?_ (iP (xv (x:=(.pu,.lst l)) M M) M) ?_)
  ·show Z (Md.fr,T.bl (decide ((0:Int)<=(i:Int))))=_;rw[decide_eq_true (by omega)]
  ·show Z (Md.fr,T.bl (decide ((i:Int)<(l.length:Int))))=_;rw[decide_eq_true (by omega)]
def xC{tx:List Tx}(a:i<tx.length):ba [.lst (tx.map .str),.int (i:Int)]=Z (.fr,.non):=GC (by rw[Zy];exact a)
end
noncomputable def d7(a:List Tx):Nat:=(a.map List.length).sum
theorem vm:∀a:List Tx,(a.map λt=>(t.length:Int)).sum=(d7 a:Int)
 |[]=>rfl
 |t :: a=>by
  rw[Zn,Wp,vm a];unfold d7;rw[Zn,Wp];omega
def xT(a:List Tx)(b:a.length<=16777216):fS [.lst (a.map .str)]=Z (.fr,.int (d7 a:Int)):=by
 refine fF (U:=[pc (.lst (a.map .str))]) M ?_;refine ft (iP (xv (r:=ag) (fP (m:=.pu) T.str (λ(t:Tx)=>T.int (t.length:Int)) a M M b (λt d=>⟨[Q2 t,pc (.lst (a.map .str))],rfl,rfl⟩)) M) ?_);show (jd (a.map λ(t:Tx)=>T.int (t.length:Int))).bind _=_;rw[ints_map (λ(t:Tx)=>(t.length:Int)),Zt,vm]
section
def DB{hd:V2}{i v:Nat}{e ev:Ex}{n:Md}{r:List (V5)}(g:i<hd.length)(he:e (oc (Io tx hd S b) :: r)=Z (n,.int (i:Int)))(a:ev (oc (Io tx hd S b) :: r)=Z (.fr,.int (v:Int))) :
  eV 0 [.fld 5] e ev (oc (Io tx hd S b) :: r)=Z (.nx (oc (Io tx (hd.set i v) S b) :: r)):=by
 unfold eV;rw[a,Zt];show ((keys [.fld 5] (oc (Io tx hd S b) :: r)).bind _)=_;have f:keys [.fld 5] (oc (Io tx hd S b) :: r)=Z [.fld 5]:=rfl;rw[f,Zt,he,Zt];have d:pm (j4 (n,.int (i:Int)) (.fr,.int (v:Int))) [.fld 5] (Io tx hd S b)=Z (Io tx (hd.set i v) S b,()):=by
  show ((j4 (n,.int (i:Int)) (.fr,.int (v:Int)) (.lst (hd.map λ(n:Nat)=>T.int (n:Int)))).map _)=_;have:j4 (n,.int (i:Int)) (.fr,.int (v:Int)) (.lst (hd.map λ(n:Nat)=>T.int (n:Int)))=Z (.lst ((hd.set i v).map λ(n:Nat)=>T.int (n:Int)),()):=by
   show ((JP (hd.map λ(n:Nat)=>T.int (n:Int)).length (i:Int)).map _)=_;rw[Zy,zD g,WH];rfl
  rw[this];rfl
 rw[d];rfl
def E3{tx:List Tx}{n:Md}(h:i<tx.length)(he:e (oc (Io tx hd S b) :: r)=Z (n,.int (i:Int)))(d:a (oc (Io tx hd S b) :: r)=Z (.fr,.str v)) :
  eV 0 [.fld 4] e a (oc (Io tx hd S b) :: r)=Z (.nx (oc (Io (tx.set i v) hd S b) :: r)):=by
 unfold eV;rw[d,Zt];show ((keys [.fld 4] (oc (Io tx hd S b) :: r)).bind _)=_;have g:keys [.fld 4] (oc (Io tx hd S b) :: r)=Z [.fld 4]:=rfl;rw[g,Zt,he,Zt];have f:pm (j4 (n,.int (i:Int)) (.fr,.str v)) [.fld 4] (Io tx hd S b)=Z (Io (tx.set i v) hd S b,()):=by
  show ((j4 (n,.int (i:Int)) (.fr,.str v) (.lst (tx.map T.str))).map _)=_;have:j4 (n,.int (i:Int)) (.fr,.str v) (.lst (tx.map T.str))=Z (.lst ((tx.set i v).map T.str),()):=by
   show ((JP (tx.map T.str).length (i:Int)).map _)=_;rw[Zy,zD h,WH];rfl
  rw[this];rfl
 rw[f];rfl
def Be{tx:List Tx}{hd:V2}{i r:Nat}{w:Tx}(W:WF S)(G:hd.length=tx.length)(a:i<tx.length)(H:tx.length<=8)(F:d7 tx+w.length<=120)(q:S.lg.length+2*w.length<=100000)(p:hd.getD i 0<S.lg.length)(s:∀c∈w,97<=c/\c<=122)(E:(tx.getD i []).length<=120)(e:hg S (hd.getD i 0) w=Z (S',r)) :
  bh (MN tx hd S) [.int (i:Int),.str w]=Z (MN (tx.set i (tx.getD i []++w)) (hd.set i r) S',.non):=by
 obtain⟨D,C,A,g⟩:=Di W q p s e;unfold bh Kh;rw[Zr ⟨rfl,rfl⟩];have s1:sX (xP (bU ba (ab (aU 4 (aa 0)) (ab (aa 1) ag)))) [oc (Io tx hd S B),Q0 (i:Int),Q2 w]=Z (.nx [oc (Io tx hd S B),Q0 (i:Int),Q2 w]):=by
  have:bU ba (ab (aU 4 (aa 0)) (ab (aa 1) ag)) [oc (Io tx hd S B),Q0 (i:Int),Q2 w]=Z (.fr,.non):=dU (xv (gS (m:=.bo) (t:=Io tx hd S B) M (CN tx hd S B)) (xv (x:=(.fr,.int (i:Int))) M M)) (xC a);show (((bU ba _ _).map _).map _)=_;rw[this];rfl
 have u:e2 OV (e2 cM (bU fS (ab (aU 4 (aa 0)) ag)) (eN cT (ab (aa 2) ag))) (Q3 120) [oc (Io tx hd S B),Q0 (i:Int),Q2 w]=Z (.fr,.bl J) :=
  e2v (x:=(.fr,.int ((d7 tx:Int)+(w.length:Int)))) (e2v (dU (xv (r:=ag) (gS (m:=.bo) (t:=Io tx hd S B) M (CN tx hd S B)) M) (xT tx (by omega))) (y:=(.fr,.int (w.length:Int))) M M) M (by
   show Z (Md.fr,T.bl (decide ((120:Int)<(d7 tx:Int)+(w.length:Int))))=_;rw[ZI (by omega)])
 have f:bC 0 [.fld 6] 0 [J,J] aP (ab (e2 aD (aU 5 (aa 0)) (aa 1)) (ab (aa 2) ag)) [oc (Io tx hd S B),Q0 (i:Int),Q2 w]=Z ((.fr,.int (r:Int)),[oc (Io tx hd S' B),Q0 (i:Int),Q2 w]):=by
  show ((Z [Ky.fld 6]).bind λo=>(ab (e2 aD (aU 5 (aa 0)) (aa 1)) (ab (aa 2) ag) [oc (Io tx hd S B),Q0 (i:Int),Q2 w]).bind λd=>(pm (mf 0 [J,J] aP d) o (Io tx hd S B)).map λz=>(z.2,[oc z.1,Q0 (i:Int),Q2 w]))=_;rw[Zt,xv (x:=(.fr,.int ((hd.getD i 0:Nat):Int))) (e2v (gS (m:=.bo) (t:=Io tx hd S B) M (HQ tx hd S B)) (y:=(.fr,.int (i:Int))) M (ku _ hd i 0 (by omega))) (xv (r:=ag) (x:=(.fr,.str w)) M M),Zt];show (((if 1=0+1/\dJ (Li S)=B/\argsOk [J,J] [(Md.fr,T.int ((hd.getD i 0:Nat):Int)),(Md.fr,T.str w)]=B/\cO (trees [(Md.fr,T.int ((hd.getD i 0:Nat):Int)),(Md.fr,T.str w)])=B then (aP (Li S) [.int ((hd.getD i 0:Nat):Int),.str w]).bind λz=>if dJ z.1=B/\Iq z.2=B then Z (T.obj 1 ((0,.bl J) :: z.1),(Md.fr,z.2)) else Y else Y).map _).map _)=_;rw[Zr ⟨rfl,kg S,rfl,rfl⟩,g,Zt,Zr ⟨kg S',rfl⟩];rfl
 have l:jM 0 [.fld 5] (aa 1) (bC 0 [.fld 6] 0 [J,J] aP (ab (e2 aD (aU 5 (aa 0)) (aa 1)) (ab (aa 2) ag))) [oc (Io tx hd S B),Q0 (i:Int),Q2 w]=Z (.nx [oc (Io tx (hd.set i r) S' B),Q0 (i:Int),Q2 w]):=by
  unfold jM;rw[f];exact DB (tx:=tx) (hd:=hd) (S:=S') (b:=B) (r:=[Q0 (i:Int),Q2 w]) (e:=aa 1) (ev:=λ_=>Z (.fr,.int (r:Int))) (i:=i) (v:=r) (n:=.fr) (by omega) M M
 have j:eV 0 [.fld 4] (aa 1) (e2 cM (e2 aD (aU 4 (aa 0)) (aa 1)) (aa 2)) [oc (Io tx (hd.set i r) S' B),Q0 (i:Int),Q2 w]=Z (.nx [oc (Io (tx.set i (tx.getD i []++w)) (hd.set i r) S' B),Q0 (i:Int),Q2 w]) :=
  E3 (n:=.fr) a M (e2v (gS (m:=.bo) (t:=Io tx (hd.set i r) S' B) M (CN tx (hd.set i r) S' B) |> λh=>e2v h (y:=(.fr,.int (i:Int))) M (ku T.str tx i [] a)) (y:=(.fr,.str w)) M (tU (by omega)))
 exact congrArg (λz:Option Out=>z.bind _) (sq s1 (sq (kM u M) (sq l j)))
end
def kf{α:Type}(l:List α)(x d:α):(l++[x]).getD l.length d=x:=(bR l x d l.length).trans (Zr M)
def vT{α:Type}(l:List α)(x y:α):(l++[x]).set l.length y=l++[y]:=by
 rw[List.set_append_right _ _ (Zo _),Vm];rfl
def rN(a b:List Tx):d7 (a++b)=d7 a+d7 b:=by
 unfold d7;rw[Yo,List.sum_append]
def DA:∀(rest:List Tx){tx:List Tx}{hd:V2}{S S':St}{B:T}{z:V5},WF S->hd.length=tx.length->tx.length+rest.length<=8->d7 tx+d7 rest<=120->S.lg.length+2*d7 rest<=100000->(∀t∈rest,∀c∈t,97<=c/\c<=122)->mB S rest=Z S' →
  ∃j h,forL (bu 2) bz (rest.map .str) [oc (Io tx hd S true),pc B,z]=Z (.nx [oc (Io (tx++rest) j S' true),pc B,h]):=by
 intro rest
 induction rest with
 |nil =>
  intro tx hd S S' B z W a n l m f e;cases (show Z S=Z S' from e);exact⟨hd,z,by rw[ZM];rfl⟩
 |cons t rest s =>
  intro tx hd S S' B z W a n l m f e;obtain⟨⟨d,r⟩,e1,C⟩:=Zz.mp (show (hg S 0 t).bind _=Z S' from e);rw[Za]at n;have y:d7 (t :: rest)=t.length+d7 rest:=by unfold d7;rw[Zn,Wp]
  rw[y]at l m;have A:hg S ((hd++[0]).getD tx.length 0) t=Z (d,r):=by rw[← a,kf];exact e1
  have o:=Di W (by omega) W.pos (f t Zx) e1;have g:=Be (tx:=tx++[[]]) (hd:=hd++[0]) (S:=S) (S':=d) (i:=tx.length) (r:=r) (w:=t) W (by rw[Zs,Zs,a];rfl) (by rw[Zs];exact YK _) (by rw[Zs];show tx.length+1<=8;omega) (by rw[rN];show d7 tx+0+t.length<=120;omega) (by omega) (by rw[← a,kf];exact W.pos) (f t Zx) (by rw[kf];exact ZO _) A;rw[kf,vT,Yg]at g;have x:(hd++[0]).set tx.length r=hd++[r]:=by rw[← a];exact vT hd 0 r
  rw[x]at g;have b:=yb (tx:=tx) (hd:=hd) (S:=S) (by omega) a;obtain⟨j,h,q⟩:=s (tx:=tx++[t]) (hd:=hd++[r]) (S:=d) (S':=S') (B:=B) (z:=Q2 t) o.1 (by rw[Zs,Zs,a];rfl) (by rw[Zs,Yr];omega) (by rw[rN];show d7 tx+(t.length+0)+d7 rest<=120;omega) (by have:=o.2.2.1;omega) (λu v=>f u (Zw _ v)) C;refine⟨j,h,?_⟩;rw[Zn];refine(fJ (U1:=[oc (Io tx hd S true),pc B,Q2 t]) M ?_).trans (q.trans (by rw[ZZ];rfl));have p:bC 0 [] 1 [] br ag [oc (Io tx hd S true),pc B,Q2 t]=Z ((.fr,.int (tx.length:Int)),[oc (Io (tx++[[]]) (hd++[0]) S true),pc B,Q2 t]):=by
   show (((if 2=1+1/\dJ (MN tx hd S)=true/\argsOk [] []=true/\cO (trees [])=true then (br (MN tx hd S) (trees [])).bind λz=>if dJ z.1=true/\Iq z.2=true then Z (T.obj 2 ((0,.bl true) :: z.1),(Md.fr,z.2)) else Y else Y).map _))=_;rw[Zr ⟨rfl,kI tx hd S,rfl,rfl⟩,show trees []=[] from rfl,b,Zt,Zr ⟨kI _ _ _,rfl⟩];rfl
  have x2:o6 0 1 [J,J] bh (bC 0 [] 1 [] br ag) (ab (aa 2) ag) [oc (Io tx hd S true),pc B,Q2 t]=Z ((.fr,.non),[oc (Io (tx++[t]) (hd++[r]) d true),pc B,Q2 t]):=by
   unfold o6;rw[Zr (show Et 1 [oc (Io tx hd S true),pc B,pc (T.str t)][0]?=true from rfl),p,Zt,Zr (show Iq (T.int (tx.length:Int))=true from rfl)];have ct:mf 1 [J,J] bh [(Md.fr,T.int (tx.length:Int)),(Md.fr,T.str t)] (Io (tx++[[]]) (hd++[0]) S true)=Z (Io (tx++[t]) (hd++[r]) d true,(Md.fr,T.non)):=by
    show (if 2=1+1/\dJ (MN (tx++[[]]) (hd++[0]) S)=true/\argsOk [J,J] [(Md.fr,T.int (tx.length:Int)),(Md.fr,T.str t)]=true/\cO (trees [(Md.fr,T.int (tx.length:Int)),(Md.fr,T.str t)])=true then (bh (MN (tx++[[]]) (hd++[0]) S) (trees [(Md.fr,T.int (tx.length:Int)),(Md.fr,T.str t)])).bind λz=>if dJ z.1=true/\Iq z.2=true then Z (T.obj 2 ((0,.bl true) :: z.1),(Md.fr,z.2)) else Y else Y)=_;rw[Zr ⟨rfl,kI _ _ _,rfl,rfl⟩,show trees [(Md.fr,T.int (tx.length:Int)),(Md.fr,T.str t)]=[T.int (tx.length:Int),T.str t] from rfl,g,Zt,Zr ⟨kI _ _ _,rfl⟩];rfl
   show ((mf 1 [J,J] bh [(Md.fr,T.int (tx.length:Int)),(Md.fr,T.str t)] (Io (tx++[[]]) (hd++[0]) S true)).map _)=_;rw[ct];rfl
  unfold bz PH;rw[x2];rfl
structure M6(bk:List Tx):Prop where
 RU:bk.length<=8
 sum:d7 bk<=120
 az:∀t∈bk,∀c∈t,97<=c/\c<=122
theorem M6.PD:∀{l:List Tx},t∈l->t.length<=d7 l
 |a :: l,h=>by
  have e:d7 (a :: l)=a.length+d7 l:=by unfold d7;rw[Zn,Wp]
  rw[e];rcases Zk.mp h with rfl | h
  ·omega
  ·have:=M6.PD h;omega
def M6.len(h:M6 a):∀t∈a,t.length<1000:=λt b=>Xh (M6.PD b) (Xh h.sum (by decide))
def aV(a:List Tx):St:=(mB S0 a).getD S0
def aL(a:List Tx):V2:=(LZ (aV a) 1000 [0] 0).getD []
def tabOf(a:List Tx):List Row:=tab (aV a) (aL a)
theorem M6.k(h:M6 a):mB S0 a=Z (aV a)/\∃nd b,K (Hd a) (aV a) nd b/\b.length<=241/\LZ (aV a) 1000 [0] 0=Z (aL a)/\(∀x,x∈aL a↔x<(aV a).lg.length)/\(aL a).length=b.length/\(aL a).idxOf 0=0/\(aL a).Nodup:=by
 obtain⟨S,nd,b,e,H,l⟩:=K.of a h.az h.len;have f:aV a=S:=by unfold aV;rw[e];rfl
 rw[f];have g:b.length<=241:=by
  have:=h.sum;unfold d7 at this;omega
 obtain⟨m,e2,d,n,j⟩:=H.met (k:=1000) (by omega);have eM:aL a=0 :: m:=by unfold aL;rw[f,e2];rfl
 rw[eM];exact⟨e,nd,b,H,g,e2,λx=>by rw[n,H.i.len],j,List.idxOf_cons_self,d⟩
def FK(h:M6 d):∃hd,aS [] [.lst (d.map .str)]=Z (MN d hd (aV d),.non):=by
 obtain⟨e,_⟩:=h.k;have g:=h.sum;obtain⟨hd,z,q⟩:=DA d (tx:=[]) (hd:=[]) (S:=S0) (S':=aV d) (B:=.lst (d.map .str)) (z:=Y) C5 M (by have:=h.RU;simpa using this) (by show 0+d7 d<=120;omega) (by show 1+2*d7 d<=100000;omega) h.az e;rw[Yg]at q;refine⟨hd,?_⟩;unfold aS Kh;rw[Zr ⟨rfl,rfl⟩];have f:=(iJ (tg:=bu 2) (it:=g7 (aa 1)) (body:=bz) (U:=[oc (Io [] [] S0 true),pc (.lst (d.map .str)),Y]) (m:=.pu) (l:=d.map .str) M M).trans q;have body:=(bg (a:=jw 0 4 (hV ag)) (b:=ak (jw 0 5 (hV ag)) (ak (jw 0 6 (eNew 0 di ag)) (Js (fR (aa 1)) (gM (bu 2) (g7 (aa 1)) bz) d6))) (U:=[oc (.obj 2 [(0,.bl true)]),pc (.lst (d.map .str)),Y]) (U1:=[oc (.obj 2 [(0,.bl true),(4,.lst [])]),pc (.lst (d.map .str)),Y]) M).trans
  (sq (U1:=[oc (.obj 2 [(0,.bl true),(4,.lst []),(5,.lst [])]),pc (.lst (d.map .str)),Y]) M (sq (U1:=[oc (Io [] [] S0 true),pc (.lst (d.map .str)),Y]) M (O0 (m:=.fr) M f)))
 exact congrArg (λz:Option Out=>z.bind _) body
def Cr(h:M6 a){m:Md}(g:arg U=Z (m,.lst (a.map .str))):eY 1 bY (eNew 1 aS (ab arg ag)) ag U=Z (.fr,Kn (tabOf a)):=by
 obtain⟨hd,e⟩:=FK h;obtain⟨_,nd,p,H,l,e2,n,q,_⟩:=h.k;have hlen:(aV a).lg.length<=100001:=by rw[← H.i.len];omega
 have d:=Em H.i.wf hlen (k:=1000) (by decide) e2 n (by omega);have f:eNew 1 aS (ab arg ag) U=Z (.fr,Io a hd (aV a) J):=by
  unfold eNew;rw[xv (r:=ag) g M,Zt];have o:cO (trees [(m,T.lst (a.map .str))])=B:=by
   show (cO (a.map T.str)&&B)=B;rw[eD _ (λ_=>rfl)];rfl
  rw[Zr o,show trees [(m,T.lst (a.map .str))]=[T.lst (a.map .str)] from rfl,e,Zt,Zr ⟨kI _ _ _,rfl⟩];rfl
 have b:bY [Io a hd (aV a) J]=Z (.fr,Kn (tabOf a)):=by
  refine fF (U:=[pc (Io a hd (aV a) J)]) M (ft ?_);have j:aU 6 (aa 0) [pc (Io a hd (aV a) J)]=Z (.pu,xh (aV a) J):=gS (m:=.pu) (t:=Io a hd (aV a) J) M (HE a hd (aV a) J);unfold eY;show ((aU 6 (aa 0) [pc (Io a hd (aV a) J)]).bind _)=_;rw[j];show ((dz [xh (aV a) J]).bind _)=_;rw[d];rfl
 show ((eNew 1 aS (ab arg ag) U).bind _)=_;rw[f];show ((bY [Io a hd (aV a) J]).bind _)=_;rw[b];rfl
end T11
end
section
namespace T11
open VS
theorem jr{β:Type}{tg:Tg}{body:Sx}(g:β->T)(Inv:List β->Env->Prop)(h:∀t r U,Inv (t :: r) U->∃i a,tg (g t) U=Z i/\body i=Z (.nx a)/\Inv r a):∀(l:List β)(U:Env),Inv l U->∃b,forL tg body (l.map g) U=Z (.nx b)/\Inv [] b
 |[],U,f=>⟨U,rfl,f⟩
 |t :: l,U,f=>by
  obtain⟨i,a,e1,e2,e⟩:=h t l U f;obtain⟨b,j,d⟩:=jr g Inv h l a e;exact⟨b,(fJ e1 e2).trans j,d⟩
noncomputable def cellAt(a:V3)(k:Nat):Int:=a.getD k 0
def xG(a:V3)(k:Nat):aQ [.scr a,.int k]=Z (.fr,.int (cellAt a k)):=by
 by_cases h:k<a.length
 ·refine fF (U:=[pc (.scr a),Q0 k]) M (mQ ((zH (m:=.fr) ?_).trans (ft (e2v (x:=(.fr,.scr a)) (y:=(.fr,.int k)) M M ?_))))
  ·refine e2v (x:=(.fr,.int k)) (y:=(.fr,.int (a.length:Int))) M M ?_;show Z (Md.fr,T.bl (decide ((k:Int)<(a.length:Int))))=_;rw[decide_eq_true (by omega)]
  ·rw[B0 a k (by omega) (by omega),Wx];rfl
 ·refine fF (U:=[pc (.scr a),Q0 k]) M ((bg ((wH (m:=.fr) ?_).trans M)).trans (ft ?_))
  ·refine e2v (x:=(.fr,.int k)) (y:=(.fr,.int (a.length:Int))) M M ?_;show Z (Md.fr,T.bl (decide ((k:Int)<(a.length:Int))))=_;rw[ZI (by omega)]
  ·unfold cellAt;rw[Zq,Yv (by omega)];rfl
def qU{k:Nat}(b:aa 0 U=Z (m,.scr a))(h:e U=Z (.fr,.int (k:Int))):bU aQ (ab (aa 0) (ab e ag)) U=Z (.fr,.int (cellAt a k)):=dU (xv b (xv (r:=ag) h M)) (xG a k)
def BJ(c k:Int)(g:0<=k)(f:k<1000000):∃v,eR [.int c,.int k]=Z (.fr,.int v):=by
 have e:=XB (c%2147483629+48271*k+11) (b:=2147483629) (by decide);have e1:=Xe (c%2147483629+48271*k+11) (b:=2147483629) (by decide);generalize d:(c%2147483629+48271*k+11)%2147483629=n at e e1;have i:=XB (n*n) (b:=2147483629) (by decide);have h:=Xe (n*n) (b:=2147483629) (by decide);have s1:aI 2 (e2 oMod (e2 cM (e2 cM (e2 oMod (aa 0) (Q3 2147483629)) (e2 mF (Q3 48271) (aa 1))) (Q3 11)) (Q3 2147483629)) [Q0 c,Q0 k,Y]=Z (.nx [Q0 c,Q0 k,Q0 n]):=by
  refine aK (m:=.fr) (e2v (e2v (e2v (e2v (x:=(.fr,.int c)) (y:=(.fr,.int 2147483629)) M M (gy (by decide))) (e2v (x:=(.fr,.int 48271)) (y:=(.fr,.int k)) M M (nZ (by decide))) M) (y:=(.fr,.int 11)) M M) (y:=(.fr,.int 2147483629)) M ?_) (by decide) (by show 2<3;decide);rw[gy (by decide),d]
 have a:aI 2 (e2 cM (e2 oMod (e2 mF (aa 2) (aa 2)) (Q3 2147483629)) (e2 mF (Q3 7919) (aa 1))) [Q0 c,Q0 k,Q0 n]=Z (.nx [Q0 c,Q0 k,Q0 (n*n%2147483629+7919*k)]) :=
  aK (m:=.fr) (e2v (e2v (e2v (x:=(.fr,.int n)) (y:=(.fr,.int n)) M M (nZ (by omega))) (y:=(.fr,.int 2147483629)) M (gy (by decide))) (e2v (x:=(.fr,.int 7919)) (y:=(.fr,.int k)) M M (nZ (by decide))) M) (by decide) (by show 2<3;decide)
 exact⟨_,fF (U:=[Q0 c,Q0 k,Q0 (n*n%2147483629+7919*k)]) M ((bg s1).trans ((bg a).trans (ft (e2v (e2v (x:=(.fr,.int (n*n%2147483629+7919*k))) (y:=(.fr,.int (n*n%2147483629+7919*k))) M M (nZ (by omega))) (y:=(.fr,.int 2147483587)) M (gy (by decide))))))⟩
abbrev ET(d:V3)(L:Tx)(b j c a:Int)(s:V2)(z:V5):Env:=[pc (.scr d),Q2 L,Q0 b,Q0 j,Q0 c,Q0 a,oc (.lst (s.map λx=>T.str [x])),z]
def yY{U:Env}{L:Tx}{e:Ex}{m:Md}{y:Int}(h:0<L.length)(a:aa 1 U=Z (m,.str L))(he:e U=Z (.fr,.int y)):∃x∈L,e2 aD (aa 1) (e2 oMod e (eN cT (ab (aa 1) ag))) U=Z (.fr,.str [x]):=by
 have g:=XB y (b:=(L.length:Int)) (by omega);have f:=Xe y (b:=(L.length:Int)) (by omega);have d:(y%(L.length:Int)).toNat<L.length:=by omega
 refine⟨L.getD (y%(L.length:Int)).toNat 0,?_,e2v a (e2v he (iP (v:=(.fr,.int (L.length:Int))) (xv (r:=ag) a M) M) (gy (by omega))) (Es L _ g f)⟩;rw[Zq,Zp d];exact Yx d
def Dr{b j c a:Int}{x:Nat}(h:e (ET d L b j c a s z)=Z (.fr,.str [x]))(f:s.length<1000):sX (qP 6 [] aC (ab e ag)) (ET d L b j c a s z)=Z (.nx (ET d L b j c a (s++[x]) z)):=by
 rw[As (i:=6) (l:=s.map λx=>T.str [x]) M h (by rw[Zy];omega)];show Z (Out.nx [pc (.scr d),Q2 L,Q0 b,Q0 j,Q0 c,Q0 a,oc (.lst (s.map (λx=>T.str [x])++[T.str [x]])),z])=Z (Out.nx [pc (.scr d),Q2 L,Q0 b,Q0 j,Q0 c,Q0 a,oc (.lst ((s++[x]).map λx=>T.str [x])),z]);rw[Yo];rfl
def zV(d:V3)(L:Tx)(b a:Int)(j:Nat)(G:j<=1000)(u:0<L.length)(N:L.length<1000)(n:Nat)(F:n<1000)(c:Int):∃f s z,forL (bu 7) eQ ((List.range n).map λ(k:Nat)=>T.int (k:Int)) (ET d L b j c a [] Y)=Z (.nx (ET d L b j f a s z))/\s.length<=n/\∀x∈s,x∈L:=by
 obtain⟨H,e,f,s,z,rfl,o,l,_⟩:=jr (tg:=bu 7) (body:=eQ) (λ(k:Nat)=>T.int (k:Int)) (λr U=>∃c s z,U=ET d L b j c a s z/\s.length+r.length<=n/\(∀x∈s,x∈L)/\∀k∈r,k<n) (by
  rintro k r _ ⟨c,s,z,rfl,o,l,w⟩;rw[Za]at o;have i:=w k Zx;have C:∀U,aa 0 U=Z (Md.fr,T.scr d)->e2 oMod (bU aQ (ab (aa 0) (ab (Q3 0) ag))) (Q3 2) U=Z (.fr,.int (cellAt d 0%2)):=λU h=>e2v (qU (k:=0) h M) (y:=(.fr,.int 2)) M (gy (by decide));have A:e2 oEq (e2 oMod (bU aQ (ab (aa 0) (ab (Q3 0) ag))) (Q3 2)) (Q3 0) (ET d L b j c a s (Q0 k))=Z (.fr,.bl (cellAt d 0%2==0)):=by
   refine e2v (C _ M) (y:=(.fr,.int 0)) M (o9 M M ?_);simp only[eqT]
  have fin:∀(f:Int)(x:Nat),x∈L->∃c q z,ET d L b j f a (s++[x]) (Q0 k)=ET d L b j c a q z/\q.length+r.length<=n/\(∀x∈q,x∈L)/\∀k∈r,k<n:=λf x g=>⟨_,_,_,rfl,by rw[Zs,Yr];omega,λy D=>(Zd.mp D).elim (l y) (λh=>Ze.mp h ▸ g),λk i=>w k (Zw _ i)⟩
  by_cases p:cellAt d 0%2=0
  ·obtain⟨x,g,ex⟩:=yY (U:=ET d L b j c a s (Q0 k)) (e:=aa 4) (m:=.fr) (y:=c) u M M;refine⟨ET d L b j c a s (Q0 k),ET d L b j (c/(L.length:Int)) a (s++[x]) (Q0 k),rfl,(zH (A.trans (by rw[beq_iff_eq.mpr p]))).trans ((bg (Dr ex (by omega))).trans ?_),fin _ x g⟩;exact aK (m:=.fr) (t:=.int (c/(L.length:Int))) (e2v (x:=(.fr,.int c)) (y:=(.fr,.int (L.length:Int))) M M (jg (by omega))) (by decide) (by show 4<8;decide)
  ·obtain⟨v,E⟩:=BJ c (30*(j:Int)+k) (by omega) (by omega);obtain⟨x,g,ex⟩:=yY (U:=ET d L b j c a s (Q0 k)) (e:=e2 cI (bU eR (ab (aa 4) (ab (e2 cM (e2 mF (Q3 30) (aa 3)) (aa 7)) ag))) (Q3 7)) (m:=.fr) (y:=v/7) u M (e2v (dU (xv (x:=(.fr,.int c)) M (xv (r:=ag) (e2v (e2v (x:=(.fr,.int 30)) (y:=(.fr,.int (j:Int))) M M (nZ (by decide))) (y:=(.fr,.int (k:Int))) M M) M)) E) (y:=(.fr,.int 7)) M (jg (by decide)));exact⟨ET d L b j c a s (Q0 k),ET d L b j c a (s++[x]) (Q0 k),rfl,(wH (A.trans (by rw[ZE.mpr p]))).trans (Dr ex (by omega)),fin _ x g⟩) (List.range n) (ET d L b j c a [] Y) ⟨c,[],Y,rfl,by rw[Z0];exact Xw (XM _),(λ_ h=>nomatch h),λk i=>Z4.mp i⟩
 exact⟨f,s,z,e,o,l⟩
def D4(d:V3)(L:Tx)(a:Int)(j:Nat)(o:j<=1000)(l:0<L.length)(r:L.length<1000)(v:0<=a)(u:a<1000):∃t:Tx,dH [.scr d,.str L,.int a,.int j]=Z (.fr,.str t)/\t.length<=a.toNat/\∀x∈t,x∈L:=by
 generalize p:cellAt d (1+j)=c;have C:=XB c (b:=a+1) (by omega);have A:=Xe c (b:=a+1) (by omega);obtain⟨f,s,z,e,w,q⟩:=zV d L a (c%(a+1)) j o l r (c%(a+1)).toNat (by omega) (c/(a+1));refine⟨s,?_,by omega,q⟩;have s1:aI 4 (bU aQ (ab (aa 0) (ab (e2 cM (Q3 1) (aa 3)) ag))) [pc (.scr d),Q2 L,Q0 a,Q0 j,Y,Y,Y,Y]=Z (.nx [pc (.scr d),Q2 L,Q0 a,Q0 j,Q0 c,Y,Y,Y]):=by
  rw[← p];refine aK (m:=.fr) (qU (k:=1+j) M (e2v (x:=(.fr,.int 1)) (y:=(.fr,.int (j:Int))) M M ?_)) (by decide) (by show 4<8;decide);show Z (Md.fr,T.int (1+(j:Int)))=_;rw[show (1+(j:Int))=((1+j:Nat):Int) by omega]
 have i:aI 5 (e2 oMod (aa 4) (e2 cM (aa 2) (Q3 1))) [pc (.scr d),Q2 L,Q0 a,Q0 j,Q0 c,Y,Y,Y]=Z (.nx [pc (.scr d),Q2 L,Q0 a,Q0 j,Q0 c,Q0 (c%(a+1)),Y,Y]):=aK (m:=.fr) (e2v (x:=(.fr,.int c)) (y:=(.fr,.int (a+1))) M M (gy (by omega))) (by decide) (by show 5<8;decide);have h:aI 4 (e2 cI (aa 4) (e2 cM (aa 2) (Q3 1))) [pc (.scr d),Q2 L,Q0 a,Q0 j,Q0 c,Q0 (c%(a+1)),Y,Y]=Z (.nx [pc (.scr d),Q2 L,Q0 a,Q0 j,Q0 (c/(a+1)),Q0 (c%(a+1)),Y,Y]):=aK (m:=.fr) (e2v (x:=(.fr,.int c)) (y:=(.fr,.int (a+1))) M M (jg (by omega))) (by decide) (by show 4<8;decide);have g:gM (bu 7) (dE (aa 5)) eQ (ET d L a j (c/(a+1)) (c%(a+1)) [] Y)=Z (.nx (ET d L a j f (c%(a+1)) s z)):=by
  refine(iJ (m:=.fr) ?_ M).trans e;rw[jQ (m:=.fr) (j:=c%(a+1)) M (by omega),mZ]
 refine fF (U:=[pc (.scr d),Q2 L,Q0 a,Q0 j,Q0 f,Q0 (c%(a+1)),pc (.lst (s.map λx=>T.str [x])),z]) M ((bg s1).trans ((bg i).trans ((bg h).trans ((bg (U1:=ET d L a j (c/(a+1)) (c%(a+1)) [] Y) M).trans ((bg g).trans ((bg (U1:=[pc (.scr d),Q2 L,Q0 a,Q0 j,Q0 f,Q0 (c%(a+1)),pc (.lst (s.map λx=>T.str [x])),z]) M).trans (ft ?_)))))));have:=wI (m:=.fr) (n:=(up Md.pu (.lst (s.map λx=>T.str [x]))).1) (strs_map (λx=>[x]) s) (by rw[kP];omega);rw[kP]at this;exact this
abbrev EB(e:V3)(d:Int)(L:Tx)(a b:Int):Env:=[pc (.scr e),Q0 d,Q2 L,Q0 a,Q0 b]
def o8(i:V3)(L:Tx)(d b g:Int)(y:0<=d)(w:d<1000)(F:0<=b)(E:b<=8)(u:0<L.length)(A:L.length<1000)(z:∀c∈L,97<=c/\c<=122) :
  ∃bk:List Tx,dy 1 (bu 0) (dE (aa 3)) Y (bU dH (ab (aa 1) (ab (aa 3) (ab (aa 5) (ab (aa 0) ag))))) (EB i g L b d)=Z (.fr,.lst (bk.map .str))/\bk.length<=8/\bk.flatten.length<=b.toNat*d.toNat/\∀t∈bk,∀c∈t,97<=c/\c<=122:=by
 have ex:∀j:Nat,∃t:Tx,j<=1000->dH [.scr i,.str L,.int d,.int j]=Z (.fr,.str t)/\t.length<=d.toNat/\∀x∈t,x∈L:=λj=>by
  by_cases e:j<=1000
  ·obtain⟨t,h⟩:=D4 i L d j e u A y w;exact⟨t,λ_=>h⟩
  ·exact⟨[],λh=>absurd h e⟩
 obtain⟨f,p⟩:=Classical.axiomOfChoice ex;have o:∀j∈List.range b.toNat,j<=1000:=λj e=>by
  have:=Z4.mp e;omega
 refine⟨(List.range b.toNat).map f,?_,by rw[Zy,Z0];omega,?_,λt s c v=>?_⟩
 ·rw[ZA];refine fP (m:=.fr) (λ(j:Nat)=>T.int (j:Int)) (λj=>T.str (f j)) (List.range b.toNat) ?_ M (by rw[Z0];omega) λj e=>⟨_,rfl,dU (xv (x:=(.fr,.scr i)) M (xv (x:=(.fr,.str L)) M (xv (x:=(.fr,.int d)) M (xv (x:=(.fr,.int (j:Int))) (r:=ag) M M)))) (p j (o j e)).1⟩
  rw[jQ (m:=.fr) (j:=b) M (by omega),mZ]
 ·generalize b.toNat=n at o ⊢;have:∀l:V2,(∀j∈l,j<=1000)->(l.map f).flatten.length<=l.length*d.toNat:=by
   intro l
   induction l with
   |nil=>intro _;exact ZO _
   |cons a l q =>
    intro h;have D:=q λj e=>h j (Zw _ e);have C:=(p a (h a Zx)).2.1;rw[Zn,ZK,Zs,Za,Nat.succ_mul];omega
  have:=this (List.range n) o;rw[Z0]at this;exact this
 ·obtain⟨j,e,rfl⟩:=Yw.mp s;exact z c ((p j (o j e)).2.2 c v)
noncomputable def eE:List Tx:=[[97,98],[97,98,99],[97,98,99,100],[97,122],[97],[97,98,99,100,101,102,103,104,105,106,107,108,109,110,111,112,113,114,115,116,117,118,119,120,121,122]]
noncomputable def counts:V3:=[1,2,3,4,2,1,0,8]
def su:(∀k,k<6->0<(eE.getD k []).length/\(eE.getD k []).length<1000/\∀c∈eE.getD k [],97<=c/\c<=122)/\∀k,k<8->0<=counts.getD k 0/\counts.getD k 0<=8:=by decide
def Bq{m n:Md}(c:Int)(b:0<=c)(a:c<=8):∃most:Int,aD (m,.lst [.int 24,.int 12,.int 8,.int 6]) (n,.int ((if 4<c then 4 else c)-1))=Z (.fr,.int most)/\0<=most/\most<=24/\c.toNat*most.toNat<=60:=by
 have:c=0\/c=1\/c=2\/c=3\/c=4\/4<c:=by omega
 rcases this with rfl | rfl | rfl | rfl | rfl | h
 ·exact⟨6,rfl,by decide,by decide,by decide⟩
 ·exact⟨24,rfl,by decide,by decide,by decide⟩
 ·exact⟨12,rfl,by decide,by decide,by decide⟩
 ·exact⟨8,rfl,by decide,by decide,by decide⟩
 ·exact⟨6,rfl,by decide,by decide,by decide⟩
 ·rw[Zr h];refine⟨6,rfl,by decide,by decide,?_⟩;show c.toNat*6<=60;omega
def Ea(a:V3):∃bk:List Tx,iz [.scr a]=Z (.fr,.lst (bk.map .str))/\bk.length<=8/\bk.flatten.length<=120/\∀t∈bk,∀c∈t,97<=c/\c<=122:=by
 generalize S:cellAt a 0=cell;have a0:=XB (cell/2) (b:=6) (by decide);have a1:=Xe (cell/2) (b:=6) (by decide);have b0:=XB (cell/12) (b:=8) (by decide);have b1:=Xe (cell/12) (b:=8) (by decide);obtain⟨u,s,p⟩:=su.1 (cell/2%6).toNat (by omega);obtain⟨f,l⟩:=su.2 (cell/12%8).toNat (by omega);have li:=zx (m:=.fr) (n:=.fr) T.str eE (cell/2%6) [] a0 (by show cell/2%6<6;exact a1) rfl;have ci:=zx (m:=.fr) (n:=.fr) T.int counts (cell/12%8) 0 b0 (by show cell/12%8<8;exact b1) rfl;have fd:∀(U:Env)(q:Int),0<q/\q<1073741824->aa 1 U=Z (Md.fr,T.int cell)->e2 cI (aa 1) (Q3 q) U=Z (.fr,.int (cell/q)):=λU q v h=>e2v h (y:=(.fr,.int q)) rfl (jg v);have A:∀(U:Env)(q r:Int),0<q/\q<1073741824->0<r->aa 1 U=Z (Md.fr,T.int cell)->e2 oMod (e2 cI (aa 1) (Q3 q)) (Q3 r) U=Z (.fr,.int (cell/q%r)):=λU q r v R h=>e2v (fd U q v h) (y:=(.fr,.int r)) rfl (gy R);generalize eE.getD (cell/2%6).toNat []=L at u s p li;generalize counts.getD (cell/12%8).toNat 0=count at f l ci;obtain⟨most,O,P,m1,m2⟩:=Bq (m:=.fr) (n:=.fr) count f l;have s1:aI 1 (bU aQ (ab (aa 0) (ab (Q3 0) ag))) [pc (.scr a),Y,Y,Y,Y]=Z (.nx [pc (.scr a),Q0 cell,Y,Y,Y]):=by
  rw[← S];exact aK (m:=.fr) (qU (k:=0) rfl rfl) (by decide) (by show 1<5;decide)
 have N:e2 oMod (e2 cI (aa 1) (Q3 2)) (Q3 6) [pc (.scr a),Q0 cell,Y,Y,Y]=Z (.fr,.int (cell/2%6)):=A _ 2 6 (by decide) (by decide) rfl;have H:e2 oMod (e2 cI (aa 1) (Q3 12)) (Q3 8) [pc (.scr a),Q0 cell,Q2 L,Y,Y]=Z (.fr,.int (cell/12%8)):=A _ 12 8 (by decide) (by decide) rfl;have F:∀x,e2 oMod (e2 cI (aa 1) (Q3 96)) (Q3 8) (EB a cell L count x)=Z (.fr,.int (cell/96%8)):=λx=>A _ 96 8 (by decide) (by decide) rfl;have fin:∀(x:Int),0<=x->x<1000->count.toNat*x.toNat<=120->∃bk:List Tx,(ak (Js (i5 (e2 oEq (aa 3) (Q3 8)) (e2 Lu (e2 oMod (e2 cI (aa 1) (Q3 96)) (Q3 8)) (Q3 5))) (aI 4 (Q3 3)) d6) (dS (dy 1 (bu 0) (dE (aa 3)) Y (bU dH (ab (aa 1) (ab (aa 3) (ab (aa 5) (ab (aa 0) ag)))))))) (EB a cell L count x)=Z (.rt (.fr,.lst (bk.map .str)) (EB a cell L count (if (count==8 && !(cell/96%8==5))=B then 3 else x)))/\bk.length<=8/\bk.flatten.length<=120/\∀t∈bk,∀c∈t,97<=c/\c<=122:=by
  intro x d C x2;have i:i5 (e2 oEq (aa 3) (Q3 8)) (e2 Lu (e2 oMod (e2 cI (aa 1) (Q3 96)) (Q3 8)) (Q3 5)) (EB a cell L count x)=Z (.fr,.bl (count==8 && !(cell/96%8==5))):=by
   refine HU (m:=.fr) (n:=.fr) (e2v (x:=(.fr,.int count)) (y:=(.fr,.int 8)) rfl rfl (o9 rfl rfl ?_)) (e2v (F x) (y:=(.fr,.int 5)) rfl (pE rfl rfl ?_))
   ·simp only[eqT]
   ·simp only[eqT]
  cases hb:(count==8 && !(cell/96%8==5)) with
  |true =>
   rw[hb]at i;have c8:count=8:=beq_iff_eq.mp (Vx.mp hb).1;obtain⟨bk,e,z,E,w⟩:=o8 a L 3 count cell (by decide) (by decide) f l u s p;exact⟨bk,(bg ((zH i).trans (show aI 4 (Q3 3) (EB a cell L count x)=Z (.nx (EB a cell L count 3)) from rfl))).trans (ft e),z,ZC E (by rw[c8];decide),w⟩
  |false =>
   rw[hb]at i;obtain⟨bk,e,z,E,w⟩:=o8 a L x count cell d C f l u s p;exact⟨bk,(bg ((wH i).trans rfl)).trans (ft e),z,by omega,w⟩
 have pre:∀rest:Sx,ak (aI 1 (bU aQ (ab (aa 0) (ab (Q3 0) ag)))) (ak (aI 2 (e2 aD (hV (ab (eC (.str [97,98])) (ab (eC (.str [97,98,99])) (ab (eC (.str [97,98,99,100])) (ab (eC (.str [97,122])) (ab (eC (.str [97])) (ab (eC (.str [97,98,99,100,101,102,103,104,105,106,107,108,109,110,111,112,113,114,115,116,117,118,119,120,121,122])) ag))))))) (e2 oMod (e2 cI (aa 1) (Q3 2)) (Q3 6)))) (ak (aI 3 (e2 aD (hV (ab (Q3 1) (ab (Q3 2) (ab (Q3 3) (ab (Q3 4) (ab (Q3 2) (ab (Q3 1) (ab (Q3 0) (ab (Q3 8) ag))))))))) (e2 oMod (e2 cI (aa 1) (Q3 12)) (Q3 8)))) (ak (aI 4 (e2 aD (hV (ab (Q3 24) (ab (Q3 12) (ab (Q3 8) (ab (Q3 6) ag))))) (e2 oZ (eN rV (ab (aa 3) (ab (Q3 4) ag))) (Q3 1)))) rest))) [pc (.scr a),Y,Y,Y,Y]=rest (EB a cell L count most):=λrest =>
  (bg s1).trans ((bg (aK (m:=.fr) (e2v (x:=(.fr,.lst (eE.map T.str))) rfl N li) (by decide) (by show 2<5;decide))).trans ((bg (aK (m:=.fr) (e2v (x:=(.fr,.lst (counts.map T.int))) rfl H ci) (by decide) (by show 3<5;decide))).trans (bg (aK (m:=.fr) (e2v (x:=(.fr,.lst [.int 24,.int 12,.int 8,.int 6])) rfl (y:=(.fr,.int ((if 4<count then 4 else count)-1))) rfl O) (by decide) (by show 4<5;decide)))))
 have j:e2 oEq (e2 oMod (e2 cI (aa 1) (Q3 96)) (Q3 8)) (Q3 5) (EB a cell L count most)=Z (.fr,.bl (cell/96%8==5)):=by
  refine e2v (F most) (y:=(.fr,.int 5)) rfl (o9 rfl rfl ?_);simp only[eqT]
 cases hb:(cell/96%8==5) with
 |true =>
  rw[hb]at j;generalize X:(60:Int)=Q;have o:(1:Int)<=(if count > 1 then count else 1)/\(if count > 1 then count else 1)<=8/\count<=(if count > 1 then count else 1):=by split<;>omega
  generalize hM:(if count > 1 then count else 1)=M at o;have D:aI 4 (e2 cI (Q3 Q) (eN si (ab (Q3 1) (ab (aa 3) ag)))) (EB a cell L count most)=Z (.nx (EB a cell L count (Q/M))):=by
   refine aK (m:=.fr) (e2v (x:=(.fr,.int Q)) rfl (y:=(.fr,.int M)) ?_ (jg (by omega))) (by decide) (by show 4<5;decide);rw[← hM];rfl
  have d:0<=Q/M:=Int.ediv_nonneg (by omega) (by omega);have C:M*(Q/M)<=Q:=Int.mul_ediv_self_le (by omega);have x2:count*(Q/M)<=M*(Q/M):=VP o.2.2 d;have x3:1*(Q/M)<=M*(Q/M):=VP o.1 d;have G:count.toNat*(Q/M).toNat<=120:=by
   have:((count.toNat*(Q/M).toNat:Nat):Int)=count*(Q/M):=by rw[Int.natCast_mul,Int.toNat_of_nonneg f,Int.toNat_of_nonneg d]
   omega
  obtain⟨bk,e,g⟩:=fin (Q/M) d (by omega) G;rw[← X]at D e;exact⟨bk,fF rfl ((pre _).trans ((bg ((zH j).trans D)).trans e)),g⟩
 |false =>
  rw[hb]at j;obtain⟨bk,e,g⟩:=fin most P (by omega) (by omega);exact⟨bk,fF rfl ((pre _).trans ((bg ((wH j).trans rfl)).trans e)),g⟩
noncomputable def Az(t:V2):Prop:=∀x∈t,97<=x/\x<=122
structure Bk(most:Nat)(bk:List Tx):Prop where
 n:bk.flatten.length<=most
 az:∀t∈bk,Az t
def C7{m:Md}{n:Nat}(e:a U=Z (m,.int (n:Int)))(h:n<100000):dE a U=Z (.fr,(List.range n).map λ(k:Nat)=>T.int (k:Int)):=by
 rw[jQ e (by lia),mZ];rfl
def Df(h:d U=Z (.fr,l)):gM b d a U=forL b a l U:=by
 simp[gM,h]
def Cw(t:Tx)(i L:Nat)(h:i<=t.length):cut t (Z (i:Int)) (Z ((i:Int)+(L:Int)))=(t.drop i).take L:=by
 have b:¬((i:Int)<0):=by lia
 have a:¬((i:Int)+(L:Int)<0):=by lia
 simp only[cut,clip,Zm b,Zm a,Wx];rw[show ((i:Int)+(L:Int)).toNat=i+L by lia,YO h];by_cases q:i+L<=t.length
 ·rw[YO q,show i+L-i=L by exact Y7 _ _]
 ·rw[VZ (by exact Ws q),Yk (l:=t.drop i) (by simp),Yk (l:=t.drop i) (by simp;lia)]
noncomputable abbrev Pl:=Nat×Nat
noncomputable def tP(p:Pl):T:=.tup [.int p.1,.int p.2]
abbrev Fd:=List (Tx×List Pl)
def dT(d:Fd):List (T×T):=d.map λp=>(T.str p.1,T.lst (p.2.map tP))
noncomputable def du:Fd->Tx->Pl->Fd
 |[],w,p=>[(w,[p])]
 | (x,l) :: d,w,p=>if x=w then (x,l++[p]) :: d else (x,l) :: du d w p
def uh(f:T->Option (T×Val))(w:Tx)(L:List (T×T)):Option (List (T×T)):=(L.findIdx? λq=>eqT q.1 (.str w)).bind λi=>(L[i]?).bind λq=>(f q.2).map λz=>L.set i (q.1,z.1)
def wx{a:T×T}(h:eqT a.1 (.str w)=J):uh f w (a :: L)=(uh f w L).map (a :: ·):=by
 unfold uh;rw[YM,Zm (by rw[h];simp)];cases e:L.findIdx? λq=>eqT q.1 (.str w) with
 |none=>rfl
 |some i =>
  simp only[YU,Zt,X4];cases e2:L[i]? with
  |none=>rfl
  |some q =>
   simp only[Zt];cases f q.2 with
   |none=>rfl
   |some z=>rfl
def r9{a:T×T}(h:eqT a.1 (.str w)=B):uh f w (a :: L)=(f a.2).map λz=>(a.1,z.1) :: L:=by
 unfold uh;rw[YM,Zr h];rfl
def lX{a:T×T}(h:eqT a.1 k=J):bW (a :: L) k=a :: bW L k:=by
 unfold bW cP;rw[Z9,h];dsimp only;by_cases q:(Option.map (λx=>x.2) (L.find? λp=>eqT p.1 k)).isSome=B
 ·rw[Zr q,Zr q]
 ·rw[Zm q,Zm q];rfl
def nz{a:T×T}(h:eqT a.1 k=B):bW (a :: L) k=a :: L:=by
 unfold bW cP;rw[Z9,h];rfl
def lW(d:Fd)(w:Tx)(p:Pl)(b:∀q∈d,q.2.length<16777216):uh (λx=>aC x [(.fr,tP p)]) w (bW (dT d) (.str w))=Z (dT (du d w p)):=by
 induction d with
 |nil =>
  have:bW (dT []) (.str w)=[(.str w,.lst [])]:=rfl;rw[this,r9 (by simp),cf (by decide)];rfl
 |cons a d f =>
  obtain⟨x,l⟩:=a;by_cases e:x=w
  ·subst e;have h:eqT (T.str x) (.str x)=B:=by simp
   rw[show dT ((x,l) :: d)=(T.str x,T.lst (l.map tP)) :: dT d from rfl,nz h,r9 h,cf (by rw[Zy];exact b (x,l) Zx)];simp[du,dT]
  ·have h:eqT (T.str x) (.str w)=J:=by simpa using e
   rw[show dT ((x,l) :: d)=(T.str x,T.lst (l.map tP)) :: dT d from rfl,lX h,wx h,f λq g=>b q (Zw _ g)];simp[du,dT,e]
def wC{U:Env}{d:Fd}{w:Tx}{p:Pl}{m:Md}(h:U[i]?=Z (Z (.ow (.dct 0 (dT d)))))(o:f U=Z (m,.str w))(g:∀c,b (U.set i c)=Z (.fr,tP p))(n:∀q∈d,q.2.length<16777216)(r:d.length<16777216) :
  gI i f (ab b ag) U=Z (.nx (U.set i (Z (.ow (.dct 0 (dT (du d w p))))))):=by
 unfold gI;simp only[h];rw[o,Zt,Zr ⟨rfl,by rw[dT,Zy];exact r⟩];have e:ab b ag (U.set i (Z (.ow (.dct 0 (bW (dT d) (.str w))))))=Z [(.fr,tP p)]:=by simp[g]
 rw[e,Zt];have a:=lW d w p n;unfold uh at a;obtain⟨j,u,a⟩:=Zz.mp a;obtain⟨q,t,a⟩:=Zz.mp a;obtain⟨z,s,a⟩:=Zv.mp a;have l:pm (λx=>aC x [(.fr,tP p)]) [.at (.str w)] (.dct 0 (bW (dT d) (.str w)))=Z (.dct 0 (dT (du d w p)),z.2):=by
  show (if gr (.str w) then _ else Y)=_;rw[Zr (show gr (.str w)=B from rfl),u,Zt,t,Zt];show (aC q.2 [(.fr,tP p)]).map _=_;rw[show aC q.2 [(.fr,tP p)]=Z z from s,YU,a]
 rw[l];rfl
noncomputable def Sz(N:Nat)(d:Fd):Prop:=d.length<=N/\∀q∈d,q.2.length<=N
def zU(d:Fd)(w:Tx)(p:Pl):(du d w p).length<=d.length+1:=by
 induction d with
 |nil=>simp[du]
 |cons a d b =>
  obtain⟨x,l⟩:=a;unfold du;split
  ·simp
  ·simp only[Za];exact Y0 b
def Ax(d:Fd)(w:Tx)(p:Pl)(N:Nat)(h:∀q∈d,q.2.length<=N):∀q∈du d w p,q.2.length<=N+1:=by
 induction d with
 |nil=>intro q b;simp[du]at b;rw[b];simp
 |cons a d f =>
  obtain⟨x,l⟩:=a;have e:=h (x,l) Zx;have f:=f λq b=>h q (Zw _ b);unfold du;split
  ·intro q b;rcases Zk.mp b with rfl | b
   ·simp only[Zs,Yr];simp only at e;exact Y0 e
   ·have:=h q (Zw _ b);exact Nat.le_add_right_of_le this
  ·intro q b;rcases Zk.mp b with rfl | b
   ·simp only at e ⊢;exact Nat.le_add_right_of_le e
   ·exact f q b
def Sz.add(h:Sz N d)(w:Tx)(p:Pl):Sz (N+1) (du d w p):=⟨by have:=zU d w p;have:=h.1;lia,Ax d w p N h.2⟩
def adds(n:Nat)(t:Tx)(e:Nat)(a:V2)(d:Fd):Fd:=a.foldl (λd s=>du d ((t.drop s).take (e-s)) (n,e)) d
def pl1(b:T)(n:Nat)(t:Tx)(e:Nat)(he:e<=t.length)(a:V2):∀(d:Fd)(N:Nat)(z:V5),(∀s∈a,s<=e)->Sz N d->N+a.length<16777216 →
  ∃f,forL (bu 5) dX (a.map λ(s:Nat)=>T.int (s:Int)) [Z (.pu b),Z (.ow (.dct 0 (dT d))),Z (.pu (.int n)),Z (.pu (.str t)),Z (.pu (.int e)),z] =
   Z (.nx [Z (.pu b),Z (.ow (.dct 0 (dT (adds n t e a d)))),Z (.pu (.int n)),Z (.pu (.str t)),Z (.pu (.int e)),f])/\Sz (N+a.length) (adds n t e a d):=by
 induction a with
 |nil=>exact λd N z _ h _=>⟨z,by simp[forL,adds],by simpa[adds] using h⟩
 |cons s a l =>
  intro d N z j h hN;rw[Za]at hN;have g:s<=e:=j s Zx;have x:cut t (Z (s:Int)) (Z (e:Int))=(t.drop s).take (e-s):=by
   have:=Cw t s (e-s) (by exact ZC g he)
   rwa [show ((s:Int)+((e-s:Nat):Int))=(e:Int) by lia]at this
  obtain⟨f,v,o⟩:=l (du d ((t.drop s).take (e-s)) (n,e)) (N+1) (Z (.pu (.int s))) (λi u=>j i (Zw _ u)) (h.add _ _) (by lia);refine⟨f,?_,by rw[Za];rw[show N+(a.length+1)=N+1+a.length by lia];exact o⟩;have bo:dX [Z (.pu b),Z (.ow (.dct 0 (dT d))),Z (.pu (.int n)),Z (.pu (.str t)),Z (.pu (.int e)),Z (.pu (.int s))] =
    Z (.nx [Z (.pu b),Z (.ow (.dct 0 (dT (du d ((t.drop s).take (e-s)) (n,e))))),Z (.pu (.int n)),Z (.pu (.str t)),Z (.pu (.int e)),Z (.pu (.int s))]):=by
   unfold dX;rw[wC (d:=d) (w:=(t.drop s).take (e-s)) (p:=(n,e)) (m:=.fr) M (by simp[x]) (λc=>by simp[zp,tP,up,Iq,fE]) (λq r=>by have:=h.2 q r;lia) (by have:=h.1;lia)];simp
  rw[Zn,fJ M bo,v];rfl
def iu(n:Nat)(t:Tx)(a:V2)(d:Fd):Fd:=a.foldl (λd e=>adds n t e (List.range (e+1)) d) d
def pl2(f:T)(n:Nat)(t:Tx)(D:t.length<=120)(a:V2):∀(d:Fd)(N:Nat)(g b:V5),(∀e∈a,e<=t.length)->Sz N d->N+121*a.length<16777216 →
  ∃A C,forL (bu 4) dR (a.map λ(e:Nat)=>T.int (e:Int)) [Z (.pu f),Z (.ow (.dct 0 (dT d))),Z (.pu (.int n)),Z (.pu (.str t)),g,b] =
   Z (.nx [Z (.pu f),Z (.ow (.dct 0 (dT (iu n t a d)))),Z (.pu (.int n)),Z (.pu (.str t)),A,C])/\Sz (N+121*a.length) (iu n t a d):=by
 induction a with
 |nil=>exact λd N g b _ h _=>⟨g,b,by simp[forL,iu],by simpa[iu] using h⟩
 |cons e a u =>
  intro d N g b j h hN;rw[Za]at hN;have he:e<=t.length:=j e Zx;obtain⟨o,e1,l⟩:=pl1 f n t e he (List.range (e+1)) d N b (λs j=>by have:=Z4.mp j;exact YS this) h (by rw[Z0];lia);rw[Z0]at l;have y:Sz (N+121) (adds n t e (List.range (e+1)) d):=⟨by have:=l.1;lia,λq w=>by have:=l.2 q w;lia⟩
  obtain⟨r,p,z,v⟩:=u (adds n t e (List.range (e+1)) d) (N+121) (Z (.pu (.int e))) o (λi x=>j i (Zw _ x)) y (by lia);refine⟨r,p,?_,by rw[Za,show N+121*(a.length+1)=N+121+121*a.length by lia];exact v⟩;have bo:dR [Z (.pu f),Z (.ow (.dct 0 (dT d))),Z (.pu (.int n)),Z (.pu (.str t)),Z (.pu (.int e)),b] =
    Z (.nx [Z (.pu f),Z (.ow (.dct 0 (dT (adds n t e (List.range (e+1)) d)))),Z (.pu (.int n)),Z (.pu (.str t)),Z (.pu (.int e)),o]):=by
   unfold dR;rw[Df (C7 (m:=.fr) (n:=e+1) M (by lia))];exact e1
  rw[Zn,fJ M bo,z];rfl
def pl3(b:T)(n:Nat)(t:Tx)(l:t.length<=120)(d:Fd)(N:Nat)(j i:V5)(h:Sz N d)(p:N+14641<16777216):∃f g,cX [Z (.pu b),Z (.ow (.dct 0 (dT d))),Z (.pu (.int n)),Z (.pu (.str t)),j,i] =
   Z (.nx [Z (.pu b),Z (.ow (.dct 0 (dT (iu n t (List.range (t.length+1)) d)))),Z (.pu (.int n)),Z (.pu (.str t)),f,g])/\Sz (N+14641) (iu n t (List.range (t.length+1)) d):=by
 obtain⟨f,g,e,a⟩:=pl2 b n t l (List.range (t.length+1)) d N j i (λe he=>by have:=Z4.mp he;exact YS this) h (by rw[Z0];lia);rw[Z0]at a;refine⟨f,g,?_,⟨by have:=a.1;lia,λq o=>by have:=a.2 q o;lia⟩⟩;unfold cX;rw[Df (C7 (m:=.fr) (n:=t.length+1) M (by lia))];exact e
def jI:Nat->List Tx->Fd->Fd
 |_,[],d=>d
 |n,t :: l,d=>jI (n+1) l (iu n t (List.range (t.length+1)) d)
def pl4(g:T)(l:List Tx):∀(n:Nat)(d:Fd)(N:Nat)(f e b a:V5),(∀t∈l,t.length<=120)->Sz N d->N+14641*l.length<16000000 →
  ∃i A C D,forL (ur [bu 2,bu 3]) cX ((l.zipIdx n).map λp=>T.tup [.int p.2,.str p.1]) [Z (.pu g),Z (.ow (.dct 0 (dT d))),f,e,b,a] =
   Z (.nx [Z (.pu g),Z (.ow (.dct 0 (dT (jI n l d)))),i,A,C,D])/\Sz (N+14641*l.length) (jI n l d):=by
 induction l with
 |nil=>exact λn d N f e b a _ h _=>⟨f,e,b,a,by simp[forL,jI],by simpa[jI] using h⟩
 |cons t l v =>
  intro n d N f e b a j h hN;rw[Za]at hN;obtain⟨o,m,e1,y⟩:=pl3 g n t (j t Zx) d N b a h (by lia);obtain⟨x2,u,r,q,z,w⟩:=v (n+1) (iu n t (List.range (t.length+1)) d) (N+14641) (Z (.pu (.int n))) (Z (.pu (.str t))) o m (λs x=>j s (Zw _ x)) y (by lia);refine⟨x2,u,r,q,?_,by rw[Za,show N+14641*(l.length+1)=N+14641+14641*l.length by lia];exact w⟩;rw[VX,Zn,fJ (U1:=[Z (.pu g),Z (.ow (.dct 0 (dT d))),Z (.pu (.int n)),Z (.pu (.str t)),b,a]) M e1,z];rfl
def enum_zip(l:List Tx):∀n:Nat,i3 n (l.map T.str)=(l.zipIdx n).map λp=>T.tup [.int p.2,.str p.1]:=by
 induction l with
 |nil=>intro n;rfl
 |cons t l a=>intro n;rw[VX,Zn,Zn,i3,a (n+1)]
def found(a:List Tx):Fd:=jI 0 a [([],[])]
def yp(d:List Tx)(B:Bk 120 d)(r:d.length<=8):ff [.lst (d.map T.str)]=Z (.fr,.dct 0 (dT (found d)))/\Sz 117129 (found d):=by
 have hlen:∀t∈d,t.length<=120:=λt o=>by
  have h:t.length<=d.flatten.length:=by
   obtain⟨a,b,rfl⟩:=List.append_of_mem o;simp only[Ys,ZK,Zs];lia
  have:=B.n;exact ZC h this
 obtain⟨l,j,i,g,e,m⟩:=pl4 (.lst (d.map T.str)) d 0 [([],[])] 1 Y Y Y Y hlen ⟨by simp,λq f=>by rw[Ze.mp f];simp⟩ (by lia);refine⟨?_,⟨by have:=m.1;unfold found;lia,λq f=>by have:=m.2 q f;lia⟩⟩;unfold ff;refine fF M (U:=[Z (.pu (.lst (d.map T.str))),Y,l,j,i,g]) ?_;refine(show ak _ _ [Z (.pu (.lst (d.map T.str))),Y,Y,Y,Y,Y]=_ from ?_);rw[bg (U1:=[Z (.pu (.lst (d.map T.str))),Z (.ow (.dct 0 (dT [([],[])]))),Y,Y,Y,Y]) (by
  have:j7 0 [((eC (.str [])),(hV ag))] [Z (.pu (.lst (d.map T.str))),Y,Y,Y,Y,Y]=Z (.fr,.dct 0 (dT [([],[])])):=rfl;simp[this];rfl)]
 have p:gM (ur [bu 2,bu 3]) (wb (aa 0)) cX [Z (.pu (.lst (d.map T.str))),Z (.ow (.dct 0 (dT [([],[])]))),Y,Y,Y,Y]=Z (.nx [Z (.pu (.lst (d.map T.str))),Z (.ow (.dct 0 (dT (jI 0 d [([],[])])))),l,j,i,g]):=by
  rw[← enum_zip]at e;simp[-forL,Dm];exact e
 rw[bg p];simp[found]
noncomputable def b7(d:Fd):List Tx:=d.map (·.1)
def yK(d:Fd)(w:Tx)(p:Pl):b7 (du d w p)=if w∈b7 d then b7 d else b7 d++[w]:=by
 induction d with
 |nil=>simp[b7,du]
 |cons a d b =>
  obtain⟨x,l⟩:=a;unfold du;by_cases e:x=w
  ·rw[Zr e];subst e;simp[b7]
  ·rw[Zm e];have:b7 ((x,l) :: du d w p)=x :: b7 (du d w p):=rfl;rw[this,b];have f:¬w=x:=λz=>e z.symm;by_cases m:w∈b7 d
   ·rw[Zr m,Zr (by simp only[b7,Zn,Zk];exact .inr m)];rfl
   ·rw[Zm m,Zm (by simp only[b7,Zn,Zk,not_or];exact⟨f,m⟩)];rfl
def AS:x∈b7 (du d w p)↔x∈b7 d\/x=w:=by
 rw[yK];by_cases m:w∈b7 d
 ·rw[Zr m];constructor
  ·exact .inl
  ·rintro (h | rfl)
   ·exact h
   ·exact m
 ·rw[Zm m];simp
def Fl(w:Tx)(p:Pl)(h:(b7 d).Nodup):(b7 (du d w p)).Nodup:=by
 rw[yK];by_cases m:w∈b7 d
 ·rw[Zr m];exact h
 ·rw[Zm m];exact ZL.mpr ⟨h,by simp,λa f b hb e=>m (by rw[Ze]at hb;rw[← hb,← e];exact f)⟩
def wY{P:Fd->Prop}(g:∀d w p,P d->P (du d w p)):∀(l:List Tx)(n:Nat)(d:Fd),P d->P (jI n l d):=by
 have j:∀(n:Nat)(t:Tx)(e:Nat)(b:V2)(d:Fd),P d->P (adds n t e b d):=by
  intro n t e b
  induction b with
  |nil=>exact λd h=>h
  |cons s b a=>exact λd h=>a _ (g _ _ _ h)
 have i:∀(n:Nat)(t:Tx)(f:V2)(d:Fd),P d->P (iu n t f d):=by
  intro n t f
  induction f with
  |nil=>exact λd h=>h
  |cons e f a=>exact λd h=>a _ (j n t e _ d h)
 intro l
 induction l with
 |nil=>exact λn d h=>h
 |cons t l a=>exact λn d h=>a (n+1) _ (i n t _ d h)
def xV(a:List Tx):(b7 (found a)).Nodup:=wY (P:=λd=>(b7 d).Nodup) (λd w p h=>Fl w p h) a 0 _ (by simp[b7])
def zG(n:Nat)(t:Tx)(e:Nat)(x:Tx)(a:V2):∀d,x∈b7 (adds n t e a d)↔x∈b7 d\/∃s∈a,x=(t.drop s).take (e-s):=by
 induction a with
 |nil=>intro d;simp[adds]
 |cons s a b =>
  intro d;have:=b (du d ((t.drop s).take (e-s)) (n,e));rw[show adds n t e (s :: a) d=adds n t e a (du d ((t.drop s).take (e-s)) (n,e)) from rfl,this,AS];simp[or_assoc]
def zI(n:Nat)(t:Tx)(x:Tx)(a:V2):∀d,x∈b7 (iu n t a d)↔x∈b7 d\/∃e∈a,∃s∈List.range (e+1),x=(t.drop s).take (e-s):=by
 induction a with
 |nil=>intro d;simp[iu]
 |cons e a b =>
  intro d;rw[show iu n t (e :: a) d=iu n t a (adds n t e (List.range (e+1)) d) from rfl,b,zG,or_assoc];simp only[Zk,exists_eq_or_imp]
def rP(x:Tx)(l:List Tx):∀n d,x∈b7 (jI n l d)↔x∈b7 d\/∃t∈l,∃e∈List.range (t.length+1),∃s∈List.range (e+1),x=(t.drop s).take (e-s):=by
 induction l with
 |nil=>intro n d;simp[jI]
 |cons t l a =>
  intro n d;rw[show jI n (t :: l) d=jI (n+1) l (iu n t (List.range (t.length+1)) d) from rfl,a,zI,or_assoc];simp only[Zk,exists_eq_or_imp]
def t5(f:List Tx)(B:Bk 120 f)(x:Tx)(h:x∈b7 (found f)):Az x/\x.length<=120:=by
 unfold found at h;rw[rP]at h;rcases h with h | ⟨t,g,e,he,s,i,rfl⟩
 ·simp[b7]at h;subst h;exact⟨λc d=>by simp at d,by simp⟩
 ·refine⟨λc d=>B.az t g c (Y3 (Y2 d)),?_⟩;have l:=Z4.mp he;have j:t.length<=f.flatten.length:=by
   obtain⟨a,b,rfl⟩:=List.append_of_mem g;simp only[Ys,ZK,Zs];lia
  have:=B.n;rw[Z8];lia
end T11
end
section
namespace T11
open VS L2
noncomputable def look:Fd->Tx->List Pl
 |[],_=>[]
 | (x,l) :: d,w=>if x=w then l else look d w
def nJ(d:Fd)(w:Tx)(h:w∈b7 d):cP (dT d) (.str w)=Z (.lst ((look d w).map tP)):=by
 induction d with
 |nil=>simp[b7]at h
 |cons a d b =>
  obtain⟨x,l⟩:=a;rw[show dT ((x,l) :: d)=(T.str x,T.lst (l.map tP)) :: dT d from rfl];unfold cP;by_cases e:x=w
  ·rw[Z9,show eqT (T.str x) (T.str w)=B by simp[e]];simp[look,e]
  ·rw[Z9,show eqT (T.str x) (T.str w)=J by simpa using e];have f:w∈b7 d:=by
    rcases Zk.mp (show w∈x :: b7 d from h) with h | h
    ·exact absurd h.symm e
    ·exact h
   rw[show look ((x,l) :: d) w=look d w by simp[look,e]];exact b f
def zZ(d:Fd)(w:Tx)(N:Nat)(h:∀q∈d,q.2.length<=N):(look d w).length<=N:=by
 induction d with
 |nil=>simp[look]
 |cons a d b =>
  obtain⟨x,l⟩:=a;unfold look;split
  ·exact h _ Zx
  ·exact b λq e=>h q (Zw _ e)
def zo(d:Fd)(w x:Tx)(p:Pl):look (du d w p) x=if x=w then look d x++[p] else look d x:=by
 induction d with
 |nil =>
  by_cases e:x=w
  ·simp[du,look,e]
  ·have g:¬w=x:=λz=>e z.symm;simp[du,look,e,g]
 |cons a d f =>
  obtain⟨y,l⟩:=a;unfold du;by_cases e:y=w
  ·rw[Zr e];subst e;by_cases e2:y=x
   ·simp[look,e2]
   ·have b:¬x=y:=λz=>e2 z.symm;simp[look,e2,b]
  ·rw[Zm e];by_cases e2:y=x
   ·have b:¬x=w:=λz=>e (e2.trans z);simp[look,e2,b]
   ·rw[show look ((y,l) :: du d w p) x=look (du d w p) x by simp[look,e2],show look ((y,l) :: d) x=look d x by simp[look,e2],f]
def xg(n:Nat)(t:Tx)(e:Nat)(x:Tx)(a:V2):∀d,look (adds n t e a d) x=look d x++(a.filter λs=>decide ((t.drop s).take (e-s)=x)).map λ_=>(n,e):=by
 induction a with
 |nil=>intro d;simp[adds]
 |cons s a b =>
  intro d;rw[show adds n t e (s :: a) d=adds n t e a (du d ((t.drop s).take (e-s)) (n,e)) from rfl,b,zo];by_cases h:x=(t.drop s).take (e-s)
  ·rw[Zr h,WM (by simpa using h.symm)];simp
  ·rw[Zm h,X5 (by simpa using λz=>h z.symm)]
theorem mY{s0:Nat}:∀{l:V2},l.Nodup->(∀s∈l,P s=B->s=s0)->l.filter P=if s0∈l/\P s0=B then [s0] else []
 |[],_,_=>by simp
 |a :: l,i,h=>by
  obtain⟨m,j⟩:=ZY.mp i;have f:=mY j λs g=>h s (Zw _ g);by_cases q:P a=B
  ·have e:=h a Zx q;subst e;rw[WM q,f,Zm λz=>m z.1,Zr ⟨Zx,q⟩]
  ·rw[X5 q,f];by_cases z:s0∈l/\P s0=B
   ·rw[Zr z,Zr ⟨Zw _ z.1,z.2⟩]
   ·rw[Zm z,Zm];rintro⟨b,d⟩;rcases Zk.mp b with rfl | b
    ·exact q d
    ·exact z ⟨b,d⟩
def starts(t x:Tx)(e:Nat)(he:e<=t.length):((List.range (e+1)).filter λs=>decide ((t.drop s).take (e-s)=x)).map (λ_=>())=if x <:+ t.take e then [()] else []:=by
 have cut:∀s,s<=e->(t.drop s).take (e-s)=(t.take e).drop s:=λs d=>by rw[Vy]
 have len:∀s,s<=e->((t.take e).drop s).length=e-s:=λs d=>by rw[Z2,Z8];lia
 rw[mY (s0:=e-x.length) VW λs d g=>by
  have b:=Z4.mp d;have a:=of_decide_eq_true g;rw[cut s (by exact YS b)]at a;have:=len s (by exact YS b);rw[a]at this;omega]
 by_cases h:x <:+ t.take e
 ·have i:x.length<=e:=by have:=h.length_le;rw[Z8]at this;lia
  rw[Zr h,Zr]
  ·rfl
  ·refine⟨Z4.mpr (by omega),decide_eq_true ?_⟩;rw[cut _ (by exact Y9 _ _)];obtain⟨y,f⟩:=h;have b:(t.take e).length=e:=by rw[Z8];exact YO he
   rw[← f,Zs]at b;rw[← f,show e-x.length=y.length by lia,List.drop_left]
 ·rw[Zm h,Zm]
  ·rfl
  ·rintro⟨b,a⟩;have b:=Z4.mp b;have a:=of_decide_eq_true a;rw[cut _ (by exact Y9 _ _)]at a;exact h (by rw[← a];exact VR _ _)
def wu(n:Nat)(t x:Tx)(a:V2):∀d,(∀e∈a,e<=t.length)->look (iu n t a d) x=look d x++(a.filter λe=>decide (x <:+ t.take e)).map λe=>(n,e):=by
 induction a with
 |nil=>intro d _;simp[iu]
 |cons e a b =>
  intro d h;rw[show iu n t (e :: a) d=iu n t a (adds n t e (List.range (e+1)) d) from rfl,b _ λi f=>h i (Zw _ f),xg];have st:=starts t x e (h e Zx);have:((List.range (e+1)).filter λs=>decide ((t.drop s).take (e-s)=x)).map (λ_=>(n,e))=(if x <:+ t.take e then [()] else []).map λ_=>(n,e):=by
   rw[← st,ZA];rfl
  rw[this];by_cases q:x <:+ t.take e
  ·rw[Zr q,WM (by simpa using q)];simp
  ·rw[Zm q,X5 (by simpa using q)];simp
noncomputable def jZ:Nat->List Tx->List Pl
 |_,[]=>[]
 |n,t :: l=>(List.range (t.length+1)).map (λe=>(n,e))++jZ (n+1) l
def Cq(l:List Tx):∀n p,p∈jZ n l->n<=p.1:=by
 induction l with
 |nil=>intro n p h;simp[jZ]at h
 |cons t l a =>
  intro n p h;rcases Zd.mp h with h | h
  ·obtain⟨e,_,rfl⟩:=Yw.mp h;exact Zo _
  ·have:=a (n+1) p h;exact Vi this
def xM(x:Tx)(l:List Tx):∀n d,look (jI n l d) x=look d x++(jZ n l).filter λp=>decide (x <:+ (l.getD (p.1-n) []).take p.2):=by
 induction l with
 |nil=>intro n d;simp[jI,jZ]
 |cons t l a =>
  intro n d;rw[show jI n (t :: l) d=jI (n+1) l (iu n t (List.range (t.length+1)) d) from rfl,a,wu n t x _ d λe he=>by have:=Z4.mp he;exact YS this,ZZ];congr 1;rw[jZ,List.filter_append,List.filter_map];congr 1
  ·congr 1;apply X8;intro e _;simp
  ·apply X8;intro p b;have:=Cq l (n+1) p b;rw[show p.1-n=(p.1-(n+1))+1 by lia,YT]
noncomputable def En(a:List Tx)(x:Tx)(p:Pl):Prop:=x <:+ (a.getD p.1 []).take p.2
noncomputable instance (bk:List Tx) (x:Tx) (p:Pl):Decidable (En bk x p):=inferInstanceAs (Decidable (_ <:+ _))
def jR(a:List Tx)(x:Tx):look (found a) x=(jZ 0 a).filter λp=>decide (En a x p):=by
 unfold found;rw[xM,show look [([],[])] x=[] by unfold look;split<;>rfl,Yg];rfl
def sI{bk:List Tx}{x:Tx}{p:Pl}:p∈look (found bk) x↔p∈jZ 0 bk/\En bk x p:=by
 rw[jR,XC,decide_eq_true_eq]
def look_same:look (found bk) x=look (found bk) y ↔ ∀p∈jZ 0 bk,En bk x p↔En bk y p:=by
 constructor
 ·intro h p a;have b:=sI (bk:=bk) (x:=x) (p:=p);have d:=sI (bk:=bk) (x:=y) (p:=p);rw[h]at b;exact⟨λz=>(d.mp (b.mpr ⟨a,z⟩)).2,λz=>(b.mp (d.mpr ⟨a,z⟩)).2⟩
 ·intro h;rw[jR,jR];apply X8;intro p a;exact decide_eq_decide.mpr (h p a)
def jb(l:List Tx):∀n p,p∈jZ n l↔n<=p.1/\p.1<n+l.length/\p.2<=(l.getD (p.1-n) []).length:=by
 induction l with
 |nil=>intro n p;simp[jZ];lia
 |cons t l g =>
  intro n p;obtain⟨i,e⟩:=p;rw[jZ,Zd,g,Yw];simp only[Z4,Prod.mk.injEq,Za];constructor
  ·rintro (⟨a,d,f,b⟩ | ⟨d,f,b⟩)
   ·subst f b;simp;exact YS d
   ·refine⟨by exact Vi d,by lia,?_⟩;rw[show i-n=(i-(n+1))+1 by lia,YT];exact b
  ·rintro⟨d,f,b⟩;by_cases q:i=n
   ·subst q;simp at b;exact .inl ⟨e,by exact Vk b,rfl,rfl⟩
   ·rw[show i-n=(i-(n+1))+1 by lia,YT]at b;exact .inr ⟨by lia,by lia,b⟩
def Ez:x∈b7 (found a)↔x=[]\/∃p∈jZ 0 a,En a x p:=by
 unfold found;rw[rP];constructor
 ·rintro (h | ⟨t,j,e,he,s,q,rfl⟩)
  ·left;simpa[b7] using h
  ·right;obtain⟨i,b,rfl⟩:=Yt j;have o:=Z4.mp he;refine⟨(i,e),(jb a 0 (i,e)).mpr ⟨ZO _,by simpa using b,?_⟩,?_⟩
   ·simp[b];exact YS o
   ·show _ <:+ (a.getD i []).take e;rw[Zq,Zp b,YL,← Vy];exact VR _ _
 ·rintro (h | ⟨⟨i,e⟩,l,h⟩)
  ·left;rw[h];simp[b7]
  ·right;obtain⟨_,n,d⟩:=(jb a 0 (i,e)).mp l;have b:i<a.length:=by simpa using n
   have hg:a.getD i []=a[i]:=by rw[Zq,Zp b,YL]
   have d:e<=a[i].length:=by simpa[b] using d
   have g:x <:+ a[i].take e:=by rw[← hg];exact h
   have r:x.length<=e:=by have:=g.length_le;rw[Z8]at this;lia
   refine⟨a[i],Yx b,e,Z4.mpr (by exact Vk d),e-x.length,Z4.mpr (by lia),?_⟩;obtain⟨y,f⟩:=g;have m:(a[i].take e).length=e:=by rw[Z8];exact YO d
   rw[← f,Zs]at m;rw[← Vy,← f,show e-x.length=y.length by lia,List.drop_left]
end T11
end
section
namespace AU
section
def I.Sk(H:I Y S nd wd):∀(z u:Wd){n:Nat},nd (u++z)=Z n->∃m,nd u=Z m:=by
 intro z
 induction z with
 |nil=>intro u n h;rw[ZM]at h;exact⟨n,h⟩
 |cons c z a =>
  intro u n h;rw[VQ]at h;obtain⟨m,b⟩:=a _ h;exact H.pre b
noncomputable def ends(b:List Wd):List Wd:=b.flatMap λt=>(List.range t.length).map λk=>t.drop k
def GN{l:V2}(a:l.Nodup)(h:k<l.length):l.idxOf l[k]=k:=by
 have b:=XD.mpr (Yx h);exact(VT a).mp (Vn b)
end
end AU
end
section
namespace T11
open VS AU
noncomputable abbrev s1(c:Nat):T:=.str [c]
def Ac{α:Type}(f:α->T)(l:List α)(d:α)(h:0<l.length):aD (m,.lst (l.map f)) (n,.int (-1))=Z (sub m (f (l.getD (l.length-1) d))):=by
 show ((JP (l.map f).length (-1)).bind _)=_;have:JP (l.map f).length (-1)=Z (l.length-1):=by
  unfold JP;rw[Zy,Zm (by decide),Zr (by omega)];congr 1;omega
 rw[this,Zt,ZV,Zq,Zp (by omega)];rfl
noncomputable abbrev IL(a:List (Nat×Nat)):List (T×T):=a.map λp=>(T.str [p.1],T.int (p.2:Int))
noncomputable abbrev Py(p:Nat×Nat):T:=.tup [.str [p.1],.int (p.2:Int)]
def Ge(a:List (Nat×Nat)):qx (a.map Py)=Z (IL a):=by
 induction a with
 |nil=>rfl
 |cons w a b =>
  show (if gr (T.str [w.1])/\Iq (T.int (w.2:Int)) then (qx (a.map Py)).map _ else Y)=_;rw[Zr ⟨rfl,rfl⟩,b];rfl
theorem sL:∀(ws acc:List (Nat×Nat)),((acc++ws).map (·.1)).Nodup->(IL ws).foldl (λd q=>dput d q.1 q.2) (IL acc)=IL (acc++ws)
 |[],acc,_=>by rw[ZM];rfl
 |w :: ws,acc,h=>by
  have f:w.1∉acc.map (·.1):=λz=>by
   rw[Yo,Zn]at h;exact(ZL.mp h).2.2 w.1 z w.1 Zx M
  have e:dput (IL acc) (T.str [w.1]) (T.int (w.2:Int))=IL (acc++[w]):=by
   unfold dput;rw[Zm (by
    simp only[XI,not_exists,not_and];intro p b;obtain⟨q,a,rfl⟩:=Yw.mp b;simp only[eqT,beq_iff_eq,W3,and_true];intro z;exact f (Yw.mpr ⟨q,a,z⟩))]
   simp[IL]
  show (IL ws).foldl _ (dput (IL acc) (T.str [w.1]) (T.int (w.2:Int)))=_;rw[e,sL ws (acc++[w]) (by rw[ZZ];exact h),ZZ];rfl
def zf(w:List (Nat×Nat)):(sk w).Nodup:=by
 unfold sk;exact List.Nodup.sublist List.filter_sublist (by decide)
def oo(S:St)(M:V2)(n:Nat):(steps S M n).map (·.1)=sk (S.wy.getD n []):=by
 unfold steps;rw[ZA];exact List.map_id' _
def HZ(S:St)(M:V2)(n:Nat):ly [(m,Ls (steps S M n))]=Z (.fr,.dct 0 (IL (steps S M n))):=by
 show (qx ((steps S M n).map Py)).map _=_;rw[Ge,YU];have:=sL (steps S M n) [] (by rw[Yg,oo];exact zf _);rw[Yg]at this;exact congrArg (λz=>Z (Md.fr,T.dct 0 z)) this
def yS(S:St)(M:V2)(n c:Nat)(e:97<=c/\c<=122):gW (steps S M n) c=(gW (S.wy.getD n []) c).map λm=>M.idxOf m:=by
 have key:∀l:V2,gW (l.map λc=>(c,M.idxOf ((gW (S.wy.getD n []) c).getD 0))) c=if c∈l then Z (M.idxOf ((gW (S.wy.getD n []) c).getD 0)) else Y:=by
  intro l
  induction l with
  |nil=>rfl
  |cons a l b =>
   unfold gW at b ⊢;rw[Zn,Z9];by_cases h:a=c
   ·subst h;simp
   ·have:(a==c)=J:=by simpa using h
    rw[this];show (List.map _ l |>.find? _).map _=_;rw[b];simp[Ye h]
 unfold steps;rw[key];cases hg:gW (S.wy.getD n []) c with
 |none =>
  rw[Zm λz=>by
   obtain⟨m,d⟩:=nr z;rw[hg]at d;cases d]
  rfl
 |some m =>
  rw[Zr (by
   unfold sk;refine XC.mpr ⟨List.mem_range'_1.mpr (by omega),by rw[hg];rfl⟩)]
  rfl
def pF(S:St)(M:V2)(n:Nat):(row S M n).2.2.2=steps S M n:=by
 unfold row;split<;>rfl
abbrev ix(a:List Tx)(m:Nat):Nat:=(aL a).idxOf m
def m9(a b:Nat):eqT (T.int (a:Int)) (T.int (b:Int))=decide (a=b):=by
 simp only[eqT];by_cases h:a=b
 ·simp[h]
 ·have d:¬(a:Int)=(b:Int):=by omega
  rw[ZI h];exact ZE.mpr d
section
variable{bk:List Tx}{nd:Wd->Option Nat}{wd:List Wd}(H:K (Hd bk) (aV bk) nd wd)(hM:∀x,x∈aL bk↔x<(aV bk).lg.length)(h0:(aL bk).idxOf 0=0)
include hM
theorem GS{m:Nat}(a:m<(aV bk).lg.length):ix bk m<(tabOf bk).length:=by
 unfold tabOf tab;rw[Zy];exact XD.mpr ((hM m).mpr a)
theorem AC{m:Nat}(e:m<(aV bk).lg.length){U:Env}{n:Md}(g:a U=Z (.pu,Kn (tabOf bk)))(f:b U=Z (n,.int (ix bk m:Int))):e2 aD a b U=Z (.fr,fX (row (aV bk) (aL bk) m)):=by
 refine e2v g f ?_;have d:ix bk m<(aL bk).length:=XD.mpr ((hM m).mpr e);unfold Kn tabOf tab;rw[ZA,ku (fX ∘ row (aV bk) (aL bk)) (aL bk) (ix bk m) 0 d,Zq,Zp d];show Z (up .pu (fX (row (aV bk) (aL bk) (aL bk)[ix bk m])))=_;rw[show (aL bk)[ix bk m]=m from Vn _];unfold up;rw[vA];rfl
include H
theorem E7{m:Nat}(a:m<wd.length):(row (aV bk) (aL bk) m).2.1=(W wd m).length:=by
 unfold row;rw[← H.i.lg m a];split
 ·rename_i h;by_cases h0:m=0
  ·rw[h0,H.i.lg 0 (by omega),H.i.wz];rfl
  ·obtain⟨r,e,_⟩:=H.i.lk (Z5 h0) a (by simp);rw[h]at e;cases e
 ·rfl
include h0
theorem wk(b:Tx):∀(v p:Tx)(m:Nat)(f d:V5),nd p=Z m->(nd (p++v)).isSome=B->Az v->∃g l j,forL (bu 3) iT (v.map s1) [pc (Kn (tabOf bk)),Q2 b,Q0 (ix bk m:Int),f,d]=Z (.nx [pc (Kn (tabOf bk)),Q2 b,Q0 (ix bk g:Int),l,j])/\nd (p++v)=Z g:=by
 intro v
 induction v with
 |nil=>exact λp m f d h _ _=>⟨m,f,d,rfl,by rw[ZM];exact h⟩
 |cons c v w =>
  intro p m f d h q s;have E:m<(aV bk).lg.length:=by rw[← H.i.len];exact H.i.lt h
  obtain⟨F,u⟩:=Z3.mp q;rw[VQ]at u q;obtain⟨o,t⟩:=H.i.Sk v (p++[c]) u;have D:aI 4 (eN ly (ab (e2 aD (e2 aD (aa 0) (aa 2)) (Q3 3)) ag)) [pc (Kn (tabOf bk)),Q2 b,Q0 (ix bk m:Int),pc (s1 c),d]=Z (.nx [pc (Kn (tabOf bk)),Q2 b,Q0 (ix bk m:Int),pc (s1 c),pc (IB (steps (aV bk) (aL bk) m))]):=by
   refine aK (m:=.fr) (iP (xv (r:=ag) (x:=(.fr,Ls (steps (aV bk) (aL bk) m))) (e2v (AC hM E M (n:=.fr) M) (y:=(.fr,.int 3)) M ?_) M) (HZ _ _ _)) (by decide) (by show 4<5;decide);rw[← pF];show Z (up .fr (Ls _))=_;unfold up;rw[oH];rfl
  have hg:gW (steps (aV bk) (aL bk) m) c=Z (ix bk o):=by rw[yS _ _ _ _ (s c Zx),H.i.wy h c,t];rfl
  obtain⟨g,l,j,e,A⟩:=w (p++[c]) o (pc (s1 c)) (pc (IB (steps (aV bk) (aL bk) m))) t q (λx z=>s x (Zw _ z));have C:aI 2 (e2 JS (aa 4) (aa 3)) [pc (Kn (tabOf bk)),Q2 b,Q0 (ix bk m:Int),pc (s1 c),pc (IB (steps (aV bk) (aL bk) m))]=Z (.nx [pc (Kn (tabOf bk)),Q2 b,Q0 (ix bk o:Int),pc (s1 c),pc (IB (steps (aV bk) (aL bk) m))]):=aK (m:=.fr) (xN (m:=.pu) (n:=.fr) M M hg) (by decide) (by show 2<5;decide);refine⟨g,l,j,(fJ M (sq D (sq (kM (m:=.fr) ?_ M) C))).trans e,by rw[VQ];exact A⟩;have:=Dn (U:=[pc (Kn (tabOf bk)),Q2 b,Q0 (ix bk m:Int),pc (s1 c),pc (IB (steps (aV bk) (aL bk) m))]) (a:=aa 4) (e:=aa 3) (m:=.pu) (n:=.fr) M M;rw[hg]at this;exact this
theorem yG(hw:nd w=Z m)(b:Az w):fI [Kn (tabOf bk),.str w]=Z (.fr,.int (ix bk m:Int)):=by
 obtain⟨g,f,d,e,a⟩:=wk H hM h0 w w [] 0 Y Y H.i.z (by rw[Yg,hw];rfl) b;rw[Yg,hw]at a;cases a;exact fF M (sq (U1:=[pc (Kn (tabOf bk)),Q2 w,Q0 (ix bk 0:Int),Y,Y]) (by rw[show ix bk 0=0 from h0];rfl) (sq ((iJ (m:=.fr) M M).trans e) M))
end
def yU{α:Type}(l:List α)(k:Nat)(h:k<=l.length):cut l (Z (k:Int)) Y=l.drop k:=by
 have a:clip l.length (k:Int)=k:=by
  unfold clip;rw[Zm (by omega),Wx,YO h]
 show (l.drop (clip l.length (k:Int))).take (l.length-clip l.length (k:Int))=_;rw[a];exact Yk (by rw[Z2];exact Zo _)
def Cs{m n:Md}{i:Int}{k:Nat}(f:a U=Z (m,.str t))(e:b U=Z (n,.int i))(d:i=(k:Int))(h:k<=t.length):Pj a (Z b) Y U=Z (.fr,.str (t.drop k)):=by
 unfold Pj vP;dsimp only;rw[f,e,d];show Z (Md.fr,T.str (cut t (Z (k:Int)) Y))=_;rw[yU t k h]
def sh(a:List Tx)(t:Nat):Nat:=(row (aV a) (aL a) t).1
def ws(b:List Tx)(a:List Wd)(t:Nat):List Tx:=(List.range ((W a t).length+1-sh b t)).map λi=>(W a t).drop ((W a t).length-(sh b t+i))
def p7(l:List Pl):Jn 60 (.lst (l.map tP))=B:=by
 show ((l.map tP).all (Jn 59))=B;rw[Vf];exact Yq.mpr λ_ _=>rfl
def ym(h:Hd a p):p=[]\/∃q∈jZ 0 a,p=(a.getD q.1 []).take q.2:=by
 rcases h with rfl | ⟨t,b,h⟩
 ·exact .inl M
 ·obtain⟨i,d,rfl⟩:=Yt b;have hg:a.getD i []=a[i]:=by rw[Zq,Zp d];rfl
  refine .inr ⟨(i,p.length),(jb a 0 _).mpr ⟨ZO _,by show i<0+a.length;omega,by show p.length<=(a.getD (i-0) []).length;rw[Nat.sub_zero,hg];exact h.length_le⟩,?_⟩;show p=(a.getD i []).take p.length;rw[hg];exact(List.prefix_iff_eq_take.mp h)
def C8(h:q∈jZ 0 a):Hd a ((a.getD q.1 []).take q.2):=by
 obtain⟨_,b,_⟩:=(jb a 0 q).mp h;rw[XM]at b;refine .inr ⟨a.getD q.1 [],?_,List.take_prefix _ _⟩;rw[Zq,Zp b];exact Yx b
def Gk{a:V8}(f:a.length=d)(h:∃U,b (a.map (λt=>Z (.pu t))++List.replicate (e-d) Y)=Z (.rt v U)):fn d e b a=Z v:=by
 obtain⟨U,h⟩:=h;exact fF f h
def kW{U1:Env}(h:a U=Z (.nx U1))(q:∃z,b U1=Z (.rt v z)):∃z,ak a b U=Z (.rt v z):=by
 obtain⟨z,q⟩:=q;exact⟨z,(bg h).trans q⟩
section
variable{bk:List Tx}{nd:Wd->Option Nat}{wd:List Wd}(H:K (Hd bk) (aV bk) nd wd)(hM:∀x,x∈aL bk↔x<(aV bk).lg.length)
include H
theorem sD(y:Tx):y∈b7 (found bk)↔(nd y).isSome=B:=by
 rw[Ez,Z3,H.some];constructor
 ·rintro (rfl | ⟨p,a,h⟩)
  ·exact⟨[],H.nil,Yh _⟩
  ·exact⟨_,C8 a,h⟩
 ·rintro⟨p,a,h⟩;rcases ym a with rfl | ⟨q,b,rfl⟩
  ·exact .inl (YF.mp h)
  ·exact .inr ⟨q,b,h⟩
theorem D1(y:Tx):(cP (dT (found bk)) (.str y)).isSome=(nd y).isSome:=by
 rw[XA,← sD H];constructor
 ·intro h;obtain⟨v,b⟩:=Z3.mp h;unfold cP at b;obtain⟨q,d,_⟩:=Zv.mp b;obtain⟨a,f,rfl⟩:=Yw.mp (List.mem_of_find?_eq_some d);have:=List.find?_some d;have e:a.1=y:=by simpa using this
  exact Yw.mpr ⟨a,f,e⟩
 ·intro h;rw[nJ _ _ h];rfl
theorem vR(b:nd x=Z t)(a:nd y=Z t):look (found bk) x=look (found bk) y:=look_same.mpr λp d=>(H.eq b a).mp M _ (C8 d)
include hM
theorem qo(d:s<wd.length)(b:t<wd.length)(h:ix bk s=ix bk t):s=t:=by
 have g:∀{x},x<wd.length->(aL bk)[ix bk x]?=Z x:=λ{x} a=>by
  have e:=(hM x).mpr (by rw[← H.i.len];exact a);rw[Zp (XD.mpr e),Vn]
 have:=g d;rw[h,g b]at this;exact(Zl this).symm
theorem tH(a:t<wd.length):sh bk t<=(W wd t).length/\∀y,nd y=Z t↔y <:+ W wd t/\sh bk t<=y.length:=by
 unfold sh row;by_cases h:t=0
 ·subst h;rw[H.i.OY,H.i.wz];refine⟨ZO _,λy=>⟨λz=>⟨by rw[H.i.zero z];exact Yh _,ZO _⟩,λz=>by rw[YF.mp z.1];exact H.i.z⟩⟩
 ·obtain⟨m,e,⟨f,_⟩,g,d,b⟩:=H.i.lk (Z5 h) a (by simp);rw[e];show (aV bk).lg.getD m 0+1<=_/\∀y,_↔_/\(aV bk).lg.getD m 0+1<=_;rw[H.i.lg m f];exact⟨d,λy=>⟨λz=>⟨H.i.sf z,(H.i.low (by simp) e z).1⟩,λz=>b y z.1 z.2⟩⟩
theorem j3(d:t<wd.length):y∈ws bk wd t↔nd y=Z t:=by
 obtain⟨s1,b⟩:=tH H hM d;rw[b];unfold ws;rw[Yw];constructor
 ·rintro⟨i,e,rfl⟩;have:=Z4.mp e;exact⟨VR _ _,by rw[Z2];omega⟩
 ·rintro⟨a,f⟩;have:=a.length_le;refine⟨y.length-sh bk t,Z4.mpr (by omega),?_⟩;rw[show sh bk t+(y.length-sh bk t)=y.length by omega];exact(X2.mp a).symm
theorem Cb(g:nd x=Z s)(f:nd y=Z t)(h:look (found bk) x=look (found bk) y):s=t:=by
 refine(H.eq g f).mpr λp d=>?_;have L:=look_same.mp h;rcases ym d with rfl | ⟨q,a,rfl⟩
 ·cases hb:bk with
  |nil =>
   have e:∀{z n},nd z=Z n->z=[]:=λ{z n} i=>by
    obtain⟨p,d,j⟩:=(H.some z).mp ⟨n,i⟩;rcases ym d with rfl | ⟨q,a,_⟩
    ·exact YF.mp j
    ·rw[hb]at a;cases a
   rw[e g,e f]
  |cons b r =>
   have:=L (0,0) ((jb bk 0 _).mpr ⟨Zo _,by rw[hb];show 0<0+(r.length+1);omega,ZO _⟩);exact this
 ·exact L q a
theorem uR(a:t<wd.length):(ws bk wd t).length=(W wd t).length+1-sh bk t/\0<(ws bk wd t).length/\∀i,i<(ws bk wd t).length->((ws bk wd t).getD i []).length=sh bk t+i:=by
 have s1:=(tH H hM a).1;have l:(ws bk wd t).length=(W wd t).length+1-sh bk t:=by unfold ws;rw[Zy,Z0]
 refine⟨l,by omega,λi b=>?_⟩;have e:(ws bk wd t)[i]?=Z ((W wd t).drop ((W wd t).length-(sh bk t+i))):=by
  unfold ws;rw[ZV,List.getElem?_range (by omega)];rfl
 rw[Zq,e,YL,Z2];omega
theorem CF(a:t<wd.length):(ws bk wd t).getD ((ws bk wd t).length-1) []=W wd t:=by
 obtain⟨l,g,h⟩:=uR H hM a;have s1:=(tH H hM a).1;have b:(ws bk wd t).length-1<(ws bk wd t).length:=by omega
 have e:nd ((ws bk wd t).getD ((ws bk wd t).length-1) [])=Z t:=by
  refine(j3 H hM a).mp ?_;rw[Zq,Zp b];exact Yx b
 exact(H.i.sf e).eq_of_length (by rw[h _ b];omega)
theorem wt{d:List Tx}(p:d.Nodup)(o:d.Pairwise λa b=>a.length<=b.length)(n:∀y,y∈d↔(nd y).isSome=B)(f:t<wd.length):d.filter (λw=>decide (nd w=Z t))=ws bk wd t:=by
 have nw:(ws bk wd t).Pairwise λa b=>a.length<b.length:=by
  have s1:=(tH H hM f).1;unfold ws;refine List.Pairwise.map _ (λa b g=>?_) (List.Pairwise.and_mem.mp List.pairwise_lt_range);have m:=Z4.mp g.1;have l:=Z4.mp g.2.1;rw[Z2,Z2];have:=g.2.2;omega
 have j:∀y,y∈d.filter (λw=>decide (nd w=Z t))↔y∈ws bk wd t:=λy=>by
  rw[XC,decide_eq_true_iff,j3 H hM f,n];exact⟨λh=>h.2,λh=>⟨by rw[h];rfl,h⟩⟩
 have pm:(d.filter λw=>decide (nd w=Z t)).Perm (ws bk wd t):=(WX (p.filter _) (nw.imp λh e=>by rw[e]at h;omega)).mpr j;refine pm.eq_of_pairwise (λa b q hb m l=>?_) (o.filter _) (nw.imp λh=>ZF h);have e1:=(j3 H hM f).mp ((j a).mp q);have e2:=(j3 H hM f).mp hb;have f1:=X2.mp (H.i.sf e1);have f2:=X2.mp (H.i.sf e2);rw[f1,f2,WB m l]
end
abbrev Gr:=List (Nat×List Tx)
noncomputable def gT(g:Gr):List (T×T):=g.map λp=>(T.int (p.1:Int),T.lst (p.2.map .str))
noncomputable def mw:Gr->Nat->Tx->Gr
 |[],j,w=>[(j,[w])]
 | (k,l) :: r,j,w=>if k=j then (k,l++[w]) :: r else (k,l) :: mw r j w
def uY(f:T->Option (T×Val))(k:T)(L:List (T×T)):Option (List (T×T)):=(L.findIdx? λq=>eqT q.1 k).bind λi=>(L[i]?).bind λq=>(f q.2).map λz=>L.set i (q.1,z.1)
def wN{a:T×T}(h:eqT a.1 k=J):uY f k (a :: L)=(uY f k L).map (a :: ·):=by
 unfold uY;rw[YM,Zm (by rw[h];exact Zf)];cases e:L.findIdx? λq=>eqT q.1 k with
 |none=>rfl
 |some i =>
  simp only[YU,Zt,X4];cases e2:L[i]? with
  |none=>rfl
  |some q =>
   simp only[Zt];cases f q.2<;>rfl
def rG{a:T×T}(h:eqT a.1 k=B):uY f k (a :: L)=(f a.2).map λz=>(a.1,z.1) :: L:=by
 unfold uY;rw[YM,Zr h];rfl
def CP(g:Gr)(j:Nat)(w:Tx)(b:∀q∈g,q.2.length<16777216):uY (λx=>aC x [(.fr,.str w)]) (.int (j:Int)) (bW (gT g) (.int (j:Int)))=Z (gT (mw g j w)):=by
 induction g with
 |nil =>
  rw[show bW (gT []) (.int (j:Int))=[(.int (j:Int),.lst [])] from rfl,rG (by rw[m9];exact decide_eq_true M),cf (by decide)];rfl
 |cons a g f =>
  obtain⟨x,l⟩:=a;have d:gT ((x,l) :: g)=(T.int (x:Int),T.lst (l.map .str)) :: gT g:=rfl;by_cases e:x=j
  ·subst e;have h:eqT (T.int (x:Int)) (.int (x:Int))=B:=by rw[m9];exact decide_eq_true M
   rw[d,nz h,rG h,cf (by rw[Zy];exact b (x,l) Zx)];simp[mw,gT]
  ·have h:eqT (T.int (x:Int)) (.int (j:Int))=J:=by rw[m9];exact ZI e
   rw[d,lX h,wN h,f λq i=>b q (Zw _ i)];simp[mw,gT,e]
def Ab{i:Nat}{ck cv:Ex}{U:Env}{j:Nat}{w:Tx}{m:Md}(h:U[i]?=Z (Z (.ow (.dct 0 (gT g)))))(l:ck U=Z (m,.int (j:Int)))(b:∀c,cv (U.set i c)=Z (.fr,.str w))(f:∀q∈g,q.2.length<16777216)(n:g.length<16777216) :
  gI i ck (ab cv ag) U=Z (.nx (U.set i (Z (.ow (.dct 0 (gT (mw g j w))))))):=by
 unfold gI;simp only[h];rw[l,Zt,Zr ⟨rfl,by rw[gT,Zy];exact n⟩];have e:ab cv ag (U.set i (Z (.ow (.dct 0 (bW (gT g) (.int (j:Int)))))))=Z [(.fr,.str w)]:=by simp[b]
 rw[e,Zt];have a:=CP g j w f;unfold uY at a;obtain⟨s,r,a⟩:=Zz.mp a;obtain⟨q,p,a⟩:=Zz.mp a;obtain⟨z,o,a⟩:=Zv.mp a;have d:pm (λx=>aC x [(.fr,.str w)]) [.at (.int (j:Int))] (.dct 0 (bW (gT g) (.int (j:Int))))=Z (.dct 0 (gT (mw g j w)),z.2):=by
  show (if gr (.int (j:Int)) then _ else Y)=_;rw[Zr (show gr (.int (j:Int))=B from rfl),r,Zt,p,Zt];show ((λx=>aC x [(.fr,.str w)]) q.2).map _=_;rw[o,← a];rfl
 rw[d];rfl
theorem tu(j:Nat)(w:Tx)(F:Nat->List Tx):∀a:V2,a.Nodup->(j∉a->F j=[])->mw (a.map λk=>(k,F k)) j w=(if j∈a then a else a++[j]).map λk=>(k,if k=j then F k++[w] else F k)
 |[],_,h=>by
  rw[Zm Wr];show [(j,[w])]=[(j,if j=j then F j++[w] else F j)];rw[Zr M,h Wr];rfl
 |k :: r,g,h=>by
  obtain⟨d,b⟩:=ZY.mp g;rw[Zn];unfold mw;by_cases e:k=j
  ·subst e;rw[Zr M,Zr Zx,Zn,Zr M];congr 1;refine Xz λx f=>?_;rw[Zm λz=>d (by rw[← z];exact f)]
  ·have e2:(j∈k :: r)=(j∈r):=propext ⟨λz=>(Zk.mp z).resolve_left (Ye e),Zw _⟩;rw[Zm e,tu j w F r b λz=>h (by rw[e2];exact z)];simp only[e2];by_cases m:j∈r
   ·rw[Zr m,Zr m,Zn,Zm e]
   ·rw[Zm m,Zm m,XJ,Zn,Zm e]
noncomputable def Gd(f:Tx->Nat)(p:List Tx)(g:Gr):Prop:=∃a:V2,a.Nodup/\(∀x,x∈a ↔ ∃w∈p,f w=x)/\g=a.map λk=>(k,p.filter λw=>decide (f w=k))
def CC(w:Tx)(h:Gd f p g):Gd f (p++[w]) (mw g (f w) w):=by
 obtain⟨i,l,m,rfl⟩:=h;have o:f w∉i->(p.filter λx=>decide (f x=f w))=[]:=λz=>List.filter_eq_nil_iff.mpr λx j q=>z ((m _).mpr ⟨x,j,of_decide_eq_true q⟩);refine⟨if f w∈i then i else i++[f w],?_,λx=>?_,?_⟩
 ·split
  ·exact l
  ·rename_i z;exact ZL.mpr ⟨l,X3 _ _,λa n b hb e=>z (by rw[← Ze.mp hb,← e];exact n)⟩
 ·have:(∃v∈p++[w],f v=x)↔x∈i\/x=f w:=by
   rw[m];constructor
   ·rintro⟨v,d,e⟩;rcases Zd.mp d with d | d
    ·exact .inl ⟨v,d,e⟩
    ·rw[Ze.mp d]at e;exact .inr e.symm
   ·rintro (⟨v,d,e⟩ | e)
    ·exact⟨v,Yn _ d,e⟩
    ·exact⟨w,ZP _ (List.mem_singleton_self _),e.symm⟩
  rw[this];split
  ·rename_i z;exact⟨.inl,λq=>q.elim id λe=>by rw[e];exact z⟩
  ·rw[Zd,Ze]
 ·rw[tu (f w) w (λk=>p.filter λx=>decide (f x=k)) i l o];refine Xz λk _=>?_;rw[List.filter_append];by_cases e:k=f w
  ·rw[Zr e,e,show [w].filter (λx=>decide (f x=f w))=[w] from List.filter_eq_self.mpr λx j=>by rw[Ze.mp j];exact decide_eq_true M]
  ·rw[Zm e,X5 (by rw[decide_eq_true_iff];exact Ye e)];show _=(k,_++[]);rw[ZM]
theorem sC(f:Nat->Nat)(P:Nat->Prop):∀b:V2,(∀k∈b,∃t,P t/\f t=k)->∃a:V2,a.map f=b/\∀t∈a,P t
 |[],_=>⟨[],rfl,λ_ h=>nomatch h⟩
 |k :: b,h=>by
  obtain⟨t,l,j⟩:=h k Zx;obtain⟨a,i,g⟩:=sC f P b λx d=>h x (Zw _ d);exact⟨t :: a,by rw[Zn,j,i],λx d=>(Zk.mp d).elim (λe=>e ▸ l) (g x)⟩
def fx(b:List Tx)(a:Wd->Option Nat)(w:Tx):Nat:=ix b ((a w).getD 0)
section
variable{bk:List Tx}{nd:Wd->Option Nat}{wd:List Wd}(H:K (Hd bk) (aV bk) nd wd)(hM:∀x,x∈aL bk↔x<(aV bk).lg.length)
include H hM
theorem Du{j:List Tx}(x:j.Nodup)(v:j.Pairwise λa b=>a.length<=b.length)(l:∀y,y∈j↔(nd y).isSome=B)(h:Gd (fx bk nd) j g):∃f:V2,f.Nodup/\(∀t,t∈f↔t<wd.length)/\g=f.map λt=>(ix bk t,ws bk wd t):=by
 obtain⟨u,A,q,rfl⟩:=h;have n:∀{w t},nd w=Z t->fx bk nd w=ix bk t:=λ{w t} e=>by unfold fx;rw[e];rfl
 obtain⟨f,rfl,m⟩:=sC (ix bk) (λt=>t<wd.length) u λk z=>by
  obtain⟨w,hw,e⟩:=(q k).mp z;obtain⟨t,r⟩:=Z3.mp ((l w).mp hw);exact⟨t,H.i.lt r,by rw[← e,n r]⟩
 refine⟨f,(YH.mp A).imp λh e=>h (by rw[e]),λt=>⟨m t,λd=>?_⟩,?_⟩
 ·obtain⟨s,p,e⟩:=Yw.mp ((q (ix bk t)).mpr ⟨W wd t,(l _).mpr (by rw[H.i.top d];rfl),n (H.i.top d)⟩);rw[← qo H hM (m s p) d e];exact p
 ·rw[ZA];refine Xz λt d=>?_;show (ix bk t,_)=_;rw[← wt H hM x v l (m t d)];congr 1;refine X8 λw hw=>?_;obtain⟨s,o⟩:=Z3.mp ((l w).mp hw);rw[n o,o];exact decide_eq_decide.mpr ⟨λe=>by rw[qo H hM (H.i.lt o) (m t d) e],λe=>by rw[Zl e]⟩
theorem GY{a:V2}(d:∀t∈a,t<wd.length){t:Nat}(b:t∈a):cP (gT (a.map λt=>(ix bk t,ws bk wd t))) (.int (ix bk t:Int))=Z (.lst ((ws bk wd t).map .str)):=by
 induction a with
 |nil=>cases b
 |cons s a f =>
  unfold cP gT;rw[Zn,Zn,Z9];by_cases e:s=t
  ·subst e;rw[show eqT (T.int (ix bk s:Int)) (.int (ix bk s:Int))=B by rw[m9];exact decide_eq_true M];rfl
  ·rw[show eqT (T.int (ix bk s:Int)) (.int (ix bk t:Int))=J by rw[m9];exact ZI λz=>e (qo H hM (d s Zx) (d t b) z)];exact f (λx g=>d x (Zw _ g)) ((Zk.mp b).resolve_left (Ye e))
end
abbrev ER(a:List Tx)(f:List Wd)(t:Nat)(e d b:V5):Env:=[pc (Kn (tabOf a)),pc (.dct 0 (dT (found a))),Q0 (ix a t:Int),pc (.lst ((ws a f t).map .str)),e,d,b]
def uk(l:V2):Jn 60 (.lst (l.map s1))=B:=by
 show (List.map s1 _).all (Jn 59)=B;rw[Vf];exact Yq.mpr λ_ _=>rfl
section
variable{bk:List Tx}{nd:Wd->Option Nat}{wd:List Wd}(H:K (Hd bk) (aV bk) nd wd)(hM:∀x,x∈aL bk↔x<(aV bk).lg.length)(Nv:∀t,t<wd.length->Az (W wd t)/\(W wd t).length<=120)
include H hM Nv
theorem BW(d:t<wd.length):cR [Kn (tabOf bk),.dct 0 (dT (found bk)),.int (ix bk t:Int),.lst ((ws bk wd t).map .str)]=Z (.fr,.bl B):=by
 have hL:=(Nv t d).2;have JQ:t<(aV bk).lg.length:=by rw[← H.i.len];exact d
 obtain⟨wl,g,F⟩:=uR H hM d;have s0:=(tH H hM d).1;have G:=E7 H hM d;have rs:(row (aV bk) (aL bk) t).1=sh bk t:=rfl;have b4:∀{b a},aI 4 (e2 aD (aa 0) (aa 2)) (ER bk wd t Y b a)=Z (.nx (ER bk wd t (pc (fX (row (aV bk) (aL bk) t))) b a)):=λ{b a}=>aK (m:=.fr) (AC hM JQ M (n:=.fr) M) (by decide) (by show 4<7;decide);have D:=fP (k:=1) (tg:=bu 0) (it:=g7 (aa 3)) (elt:=eN cT (ab (aa 0) ag)) (m:=.pu) (U:=ER bk wd t (pc (fX (row (aV bk) (aL bk) t))) Y Y) T.str (λw:Tx=>T.int (w.length:Int)) (ws bk wd t) M M (by omega) λw _=>⟨_,rfl,rfl⟩
 have L:(ws bk wd t).map (λw:Tx=>T.int (w.length:Int))=(List.range ((W wd t).length+1-sh bk t)).map λk:Nat=>T.int ((sh bk t:Int)+(k:Int)):=by
  refine List.ext_getElem (by rw[Zy,Zy,Z0,wl]) λi f A=>?_;rw[List.getElem_map,List.getElem_map,List.getElem_range];rw[Zy]at f;have:=F i f;rw[Zq,Zp f,YL]at this;rw[this,Int.natCast_add]
 rw[L]at D;have P:e2 aD (aa 4) (Q3 0) (ER bk wd t (pc (fX (row (aV bk) (aL bk) t))) (pc (.lst ((List.range ((W wd t).length+1-sh bk t)).map λk:Nat=>T.int ((sh bk t:Int)+(k:Int))))) Y)=Z (.fr,.int (sh bk t:Int)):=rfl;have O:e2 cM (e2 aD (aa 4) (Q3 1)) (Q3 1) (ER bk wd t (pc (fX (row (aV bk) (aL bk) t))) (pc (.lst ((List.range ((W wd t).length+1-sh bk t)).map λk:Nat=>T.int ((sh bk t:Int)+(k:Int))))) Y)=Z (.fr,.int (((W wd t).length:Int)+1)):=by
  rw[← G];rfl
 have X:eN mS (ab (e2 aD (aa 4) (Q3 0)) (ab (e2 cM (e2 aD (aa 4) (Q3 1)) (Q3 1)) ag)) (ER bk wd t (pc (fX (row (aV bk) (aL bk) t))) (pc (.lst ((List.range ((W wd t).length+1-sh bk t)).map λk:Nat=>T.int ((sh bk t:Int)+(k:Int))))) Y)=Z (.fr,.lst ((List.range ((W wd t).length+1-sh bk t)).map λk:Nat=>T.int ((sh bk t:Int)+(k:Int)))):=iP (xv P (xv (r:=ag) O M)) (by
  show (if 0<=(sh bk t:Int)/\_ then _ else Y)=_;rw[Zr ⟨by omega,by omega,by omega⟩,show (((W wd t).length:Int)+1-(sh bk t:Int)).toNat=(W wd t).length+1-sh bk t by omega])
 have l:Jn 60 (.lst ((List.range ((W wd t).length+1-sh bk t)).map λk:Nat=>T.int ((sh bk t:Int)+(k:Int))))=B:=by
  show (List.map _ _).all (Jn 59)=B;rw[Vf];exact Yq.mpr λ_ _=>rfl
 generalize E:pc (.lst ((List.range ((W wd t).length+1-sh bk t)).map λk:Nat=>T.int ((sh bk t:Int)+(k:Int))))=b at *;have q:∀o a,e2 aD (aa 3) (Q3 (-1)) (ER bk wd t o b a)=Z (.fr,.str (W wd t)):=λo a=>e2v (x:=(.pu,.lst ((ws bk wd t).map .str))) (y:=(.fr,.int (-1))) M M ((Ac T.str (ws bk wd t) [] g).trans (by rw[CF H hM d];rfl));have Om:nd ((ws bk wd t).getD 0 [])=Z t:=(j3 H hM d).mp (by
  rw[Zq,Zp g];exact Yx g)
 have key:∀{U:Env}{e:Ex}{n:Md}{y:Tx},aa 1 U=Z (.pu,.dct 0 (dT (found bk)))->e U=Z (n,.str y)->nd y=Z t->e2 JS (aa 1) e U=Z (.pu,.lst ((look (found bk) (W wd t)).map tP)):=λ{U e n y} f A h=>e2v f A (by
  show (if B=B then (cP _ _).map (sub .pu) else Y)=_;rw[Zr M,nJ _ _ ((sD H y).mpr (by rw[h];rfl)),vR H h (H.i.top d)];rfl)
 have S:(steps (aV bk) (aL bk) t).length<=26:=by
  unfold steps sk;rw[Zy];exact ZC (Xa _ _) (by decide)
 have j:∀{a},g7 (e2 aD (aa 4) (Q3 3)) (ER bk wd t (pc (fX (row (aV bk) (aL bk) t))) b a)=Z (.fr,(steps (aV bk) (aL bk) t).map Py):=λ{a}=>by
  show (e2 aD (aa 4) (Q3 3) _).bind _=_;rw[e2v (x:=(.fr,fX (row (aV bk) (aL bk) t))) (y:=(.fr,.int 3)) (z:=(.fr,Ls (steps (aV bk) (aL bk) t))) (by show Z (up .pu (fX _))=_;unfold up;rw[vA];rfl) M (by
   rw[← pF];show Z (up .fr (Ls _))=_;unfold up;rw[oH];rfl)]
  rfl
 obtain⟨U',f1,a,rfl,_⟩:=jr (tg:=bu 6) (body:=eU) T.str (λr U=>∃a,U=ER bk wd t (pc (fX (row (aV bk) (aL bk) t))) b a/\∀y∈r,nd y=Z t) (by
  rintro w r _ ⟨a,rfl,v⟩;have hw:=v w Zx;have s:=H.i.sf hw;have Q:=s.length_le;refine⟨ER bk wd t (pc (fX (row (aV bk) (aL bk) t))) b (Q2 w),_,rfl,sq (kM (m:=.fr) (UN (m:=.fr) (n:=.fr) (x:=J) (y:=J) ?_ ?_) M) (kM (m:=.fr) ?_ M),_,rfl,λu R=>v u (Zw _ R)⟩
  ·refine e2v (Cs (m:=.fr) (n:=.fr) (k:=(W wd t).length-w.length) (q _ _) (e2v (x:=(.fr,.int ((W wd t).length:Int))) (y:=(.fr,.int (w.length:Int))) (iP (xv (r:=ag) (q _ _) M) M) M M) (by show ((W wd t).length:Int)-(w.length:Int)=_;omega) (Y9 _ _)) (y:=(.fr,.str w)) M ?_;rw[← X2.mp s];exact pE (r:=B) M M (by simp only[eqT,beq_self_eq_true])
  ·exact e2v (key (n:=.fr) M M hw) (key (n:=.fr) M (e2v (x:=(.pu,.lst ((ws bk wd t).map .str))) (y:=(.fr,.int ((0:Nat):Int))) M M ((ku T.str (ws bk wd t) 0 [] g).trans M)) Om) (pE (r:=B) (p7 _) (p7 _) (jA 60 _ (p7 _)))
  ·have N:(steps (aV bk) (aL bk) t).map (λp=>s1 p.1)=((List.range' 97 26).filter λc=>(nd (w++[c])).isSome).map s1:=by
    rw[show (steps (aV bk) (aL bk) t).map (λp=>s1 p.1)=((steps (aV bk) (aL bk) t).map (·.1)).map s1 from by rw[ZA];rfl,oo];unfold sk;congr 1;refine X8 λc _=>?_;rw[H.i.wy hw c]
   have C:=fP (k:=1) (tg:=bu 0) (it:=g7 (e2 aD (aa 4) (Q3 3))) (elt:=e2 aD (aa 0) (Q3 0)) (m:=.fr) (U:=ER bk wd t (pc (fX (row (aV bk) (aL bk) t))) b (Q2 w)) Py (λp=>s1 p.1) (steps (aV bk) (aL bk) t) j M (by omega) λp _=>⟨_,rfl,rfl⟩
   rw[N]at C;refine e2v (qw (k:=1) (tg:=bu 0) (it:=g7 (eC (.str (List.range' 97 26)))) (m:=.fr) s1 (λc=>(nd (w++[c])).isSome) s1 (List.range' 97 26) M M (by decide) λc _=>⟨_,(.fr,.bl (nd (w++[c])).isSome),rfl,?_,rfl,λ_=>rfl⟩) C (pE (r:=B) (uk _) (uk _) (jA 60 _ (uk _)));refine e2v (DW (m:=.fr) (n:=.fr) (x:=w) (y:=[c]) M M (by show _+1<=_;omega)) (y:=(.pu,.dct 0 (dT (found bk)))) M ?_;show Z (Md.fr,T.bl (cP (dT (found bk)) (.str (w++[c]))).isSome)=_;rw[D1 H]) (ws bk wd t) (ER bk wd t (pc (fX (row (aV bk) (aL bk) t))) b Y) ⟨Y,rfl,λy h=>(j3 H hM d).mp h⟩
 refine fF M (sq b4 (sq (U1:=ER bk wd t (pc (fX (row (aV bk) (aL bk) t))) b Y) (by rw[← E];exact aK (m:=.fr) D (by decide) (by show 5<7;decide)) (sq (kM (m:=.fr) (e2v (x:=(.pu,.lst ((List.range ((W wd t).length+1-sh bk t)).map λk:Nat=>T.int ((sh bk t:Int)+(k:Int))))) (by rw[← E];rfl) X (pE (r:=B) l l (jA 60 _ l))) M) (sq ((iJ (m:=.pu) M M).trans f1) M))))
end
def mk(l:List Pl):T:=.tup (l.map tP)
def zz(l:List Pl):(xB (mk l)).isSome=B:=by
 have:∀l:List Pl,(l.map tP).mapM PY=Z (l.map λp=>[Sum.inl (p.1:Int),Sum.inl (p.2:Int)]):=λl=>by
  induction l with
  |nil=>rfl
  |cons a l b =>
   rw[Zn,List.mapM_cons,b];rfl
 show ((l.map tP).mapM PY).isSome=B;rw[this];rfl
theorem mk_eq:∀{a b:List Pl},g0 (a.map tP) (b.map tP)=B->a=b
 |[],[],_=>rfl
 |[],_ :: _,h=>by simp[g0]at h
 |_ :: _,[],h=>by simp[g0]at h
 |p :: a,q :: b,h=>by
  rw[Zn,Zn,g0,ZS]at h;have d:=h.1;unfold tP at d;rw[eqT,g0,g0,ZS,ZS,m9,m9,decide_eq_true_iff,decide_eq_true_iff]at d;rw[mk_eq h.2,Prod.ext d.1 d.2.1]
def AQ{l0:V8}(f:S U=Z P)(d:P l0)(h:∀l,P l->∃z,ak (forL g b l) r U=Z (.rt v z)):∃z,sG g S b r U=Z (.rt v z):=by
 have a:∃v,∀l,P l->∃z,ak (forL g b l) r U=Z (.rt v z):=⟨v,h⟩
 have e:a.choose=v:=by
  obtain⟨z,e1⟩:=a.choose_spec l0 d;obtain⟨i,e2⟩:=h l0 d;rw[e1]at e2;injection e2 with e2
  injection e2
 refine⟨List.replicate U.length Y,?_⟩;unfold sG;rw[f,Zt,dif_pos a,e]
theorem t7:∀(g:Gr)(j:Nat)(w:Tx),(mw g j w).length<=g.length+1
 |[],_,_=>Zo _
 | (k,l) :: r,j,w=>by
  unfold mw;split
  ·exact Wk _
  ·exact Y0 (t7 r j w)
abbrev EU(i:V3)(a:List Tx)(h g f e d b:V5):Env:=[pc (.scr i),pc (.lst (a.map .str)),pc (Kn (tabOf a)),pc (.dct 0 (dT (found a))),h,g,f,e,d,b]
section
variable{bk:List Tx}{nd:Wd->Option Nat}{wd:List Wd}(H:K (Hd bk) (aV bk) nd wd)(hM:∀x,x∈aL bk↔x<(aV bk).lg.length)(h0:(aL bk).idxOf 0=0)(hm:(aL bk).length=wd.length)(hl:wd.length<=241)(Nv:∀t,t<wd.length->Az (W wd t)/\(W wd t).length<=120)
include H hM h0 Nv
theorem GB(f:V3)(l:∀y,y∈b↔(nd y).isSome=B)(A:b.length<=1000000):∃g d a,forL (bu 5) kA (b.map T.str) (EU f bk (oc (.dct 0 (gT []))) Y Y Y Y Y)=Z (.nx (EU f bk (oc (.dct 0 (gT g))) d a Y Y Y))/\Gd (fx bk nd) b g:=by
 obtain⟨C,f1,p,g,d,a,rfl,e,hg,_⟩:=jr (tg:=bu 5) (body:=kA) T.str (λr U=>∃p g d a,U=EU f bk (oc (.dct 0 (gT g))) d a Y Y Y/\p++r=b/\Gd (fx bk nd) p g/\g.length<=p.length) (by
  rintro w r _ ⟨p,g,d,a,rfl,e,hg,z⟩;have hw:=(l w).mp (by rw[← e];exact ZP _ Zx);obtain⟨t,j⟩:=Z3.mp hw;have o:p.length<=b.length:=by rw[← e,Zs];omega
  have lw:=yG H hM h0 j λc s=>(Nv t (H.i.lt j)).1 c ((H.i.sf j).subset s);have u:fx bk nd w=ix bk t:=by unfold fx;rw[j];rfl
  have sa:=Ab (i:=4) (ck:=aa 6) (cv:=aa 5) (U:=EU f bk (oc (.dct 0 (gT g))) (Q2 w) (Q0 (ix bk t:Int)) Y Y Y) (m:=.fr) (w:=w) M M (λ_=>rfl) (λq n=>by
   obtain⟨v,_,_,rfl⟩:=hg;obtain⟨k,_,rfl⟩:=Yw.mp n;exact Xh (Xa _ _) (by omega)) (by omega)
  refine⟨EU f bk (oc (.dct 0 (gT g))) (Q2 w) a Y Y Y,_,rfl,sq (aK (m:=.fr) (dU (xv (x:=(.pu,Kn (tabOf bk))) M (xv (r:=ag) (x:=(.fr,.str w)) M M)) lw) (by decide) (by show 6<10;decide)) (sq (kM (m:=.fr) M M) sa),p++[w],mw g (ix bk t) w,_,_,rfl,by rw[ZZ];exact e,by rw[← u];exact CC w hg,?_⟩;have:=t7 g (ix bk t) w;rw[Zs,Yr];omega) b (EU f bk (oc (.dct 0 (gT []))) Y Y Y Y Y) ⟨[],[],Y,Y,rfl,rfl,⟨[],Y1,λx=>⟨λh=>(nomatch h),λ⟨_,h,_⟩=>(nomatch h)⟩,rfl⟩,Zo _⟩
 rw[ZM]at e;subst e;exact⟨g,d,a,f1,hg⟩
abbrev uT(b:List Tx)(a:List Wd)(d:V2):T:=.dct 2 (d.map λt=>(mk (look (found b) (W a t)),T.bl B))
omit h0 in
theorem Gq(h:V3){g:V2}(w:g.Nodup)(u:∀t∈g,t<wd.length)(P:Sz 117129 (found bk))(Q:g.length<=1000)(f b:V5):∃j a,forL (bu 8) ig (g.map λt=>T.int (ix bk t:Int)) (EU h bk (pc (.dct 3 (gT (g.map λt=>(ix bk t,ws bk wd t))))) f b (oc (.dct 2 [])) Y Y)=Z (.nx (EU h bk (pc (.dct 3 (gT (g.map λt=>(ix bk t,ws bk wd t))))) f b (oc (uT bk wd g)) j a)):=by
 generalize hG:(T.dct 3 (gT (g.map λt=>(ix bk t,ws bk wd t))))=G;obtain⟨R,f1,d,j,a,rfl,e⟩:=jr (tg:=bu 8) (body:=ig) (λt=>T.int (ix bk t:Int)) (λr U=>∃d j a,U=EU h bk (pc G) f b (oc (uT bk wd d)) j a/\d++r=g) (by
  rintro t r _ ⟨d,j,a,rfl,e⟩;have E:t∈g:=by rw[← e];exact ZP _ Zx
  have l:=u t E;obtain⟨_,o,_⟩:=uR H hM l;have F:nd ((ws bk wd t).getD 0 [])=Z t:=(j3 H hM l).mp (by
   rw[Zq,Zp o];exact Yx o)
  have dl:d.length<=1000:=by
   have:=congrArg List.length e;rw[Zs]at this;omega
  have C:∀a,e2 j8 (aa 4) (aa 8) (EU h bk (pc G) f b (oc (uT bk wd d)) (Q0 (ix bk t:Int)) a)=Z (.pu,.lst ((ws bk wd t).map .str)):=λa=>e2v (x:=(.pu,G)) (y:=(.fr,.int (ix bk t:Int))) (by rw[← hG];rfl) M (by
   rw[← hG];show (if B=B then (cP _ _).map (sub .pu) else Y)=_;rw[Zr M,GY H hM u E];rfl)
  have L:e2 JS (aa 3) (e2 aD (e2 j8 (aa 4) (aa 8)) (Q3 0)) (EU h bk (pc G) f b (oc (uT bk wd d)) (Q0 (ix bk t:Int)) a)=Z (.pu,.lst ((look (found bk) (W wd t)).map tP)):=e2v (x:=(.pu,.dct 0 (dT (found bk)))) (y:=(.fr,.str ((ws bk wd t).getD 0 []))) M (e2v (C _) (y:=(.fr,.int ((0:Nat):Int))) M ((ku T.str (ws bk wd t) 0 [] o).trans M)) (by
   show (if B=B then (cP _ _).map (sub .pu) else Y)=_;rw[Zr M,nJ _ _ ((sD H _).mpr (by rw[F];rfl)),vR H F (H.i.top l)];rfl)
  have D:Iq (mk (look (found bk) (W wd t)))=B:=by
   show fE ((look (found bk) (W wd t)).map tP)=B;exact kJ tP (λ_=>rfl) _
  have N:eN iy (ab (e2 JS (aa 3) (e2 aD (e2 j8 (aa 4) (aa 8)) (Q3 0))) ag) (EU h bk (pc G) f b (oc (uT bk wd d)) (Q0 (ix bk t:Int)) a)=Z (.fr,mk (look (found bk) (W wd t))):=iP (xv (r:=ag) L M) (by
   have:=zZ (found bk) (W wd t) 117129 P.2;refine(Zr (by rw[Zy];show _<=16777216;omega)).trans ?_;show Z (up .pu (mk _))=_;unfold up;rw[D];rfl)
  have no:((d.map λt=>(mk (look (found bk) (W wd t)),T.bl B)).findIdx? λp=>eqT p.1 (mk (look (found bk) (W wd t))))=Y:=by
   rw[List.findIdx?_eq_none_iff];intro p O;obtain⟨s,A,rfl⟩:=Yw.mp O;refine Bool.eq_false_iff.mpr λz=>?_;have q:s∈g:=by rw[← e];exact Yn _ A
   have e2:=Cb H hM (H.i.top (u s q)) (H.i.top l) (mk_eq (by unfold mk at z;rw[eqT]at z;exact z));rw[← e]at w;exact(ZL.mp w).2.2 s A t Zx e2
  have v:∀{z},aa 9 (EU h bk (pc G) f b z (Q0 (ix bk t:Int)) (pc (mk (look (found bk) (W wd t)))))=Z (.fr,mk (look (found bk) (W wd t))):=λ{z}=>by
   show Z (up .pu (mk _))=_;unfold up;rw[D];rfl
  have pu:sE 7 (aa 9) (eC (.bl B)) (EU h bk (pc G) f b (oc (uT bk wd d)) (Q0 (ix bk t:Int)) (pc (mk (look (found bk) (W wd t)))))=Z (.nx (EU h bk (pc G) f b (oc (uT bk wd (d++[t]))) (Q0 (ix bk t:Int)) (pc (mk (look (found bk) (W wd t)))))):=by
   unfold sE;rw[show eC (T.bl B) (EU h bk (pc G) f b (oc (uT bk wd d)) (Q0 (ix bk t:Int)) (pc (mk (look (found bk) (W wd t)))))=Z (.fr,.bl B) from rfl,Zt];show (aa 9 _).bind _=_;rw[v,Zt];refine(Zr ⟨zz _,rfl,by rw[Zy];show d.length<16777216;omega,no⟩).trans ?_;unfold uT;rw[Yo];rfl
  refine⟨EU h bk (pc G) f b (oc (uT bk wd d)) (Q0 (ix bk t:Int)) a,_,rfl,sq (aK (m:=.fr) N (by decide) (by show 9<10;decide)) (sq (kM (m:=.fr) (UN (m:=.fr) (n:=.fr) (x:=J) (y:=J) (e2v v (y:=(.bo,uT bk wd d)) M ?_) (ud (m:=.fr) (dU (xv (x:=(.pu,Kn (tabOf bk))) M (xv (x:=(.pu,.dct 0 (dT (found bk)))) M (xv (x:=(.fr,.int (ix bk t:Int))) M (xv (r:=ag) (C _) M)))) (BW H hM Nv l)))) M) pu),d++[t],_,_,rfl,by rw[ZZ];exact e⟩;show (if (xB (mk (look (found bk) (W wd t)))).isSome=B then _ else _)=_;rw[Zr (zz _)];show Z (Md.fr,T.bl (List.findIdx? (λp:T×T=>eqT p.1 (mk (look (found bk) (W wd t)))) _).isSome)=_;rw[no];rfl) g (EU h bk (pc G) f b (oc (.dct 2 [])) Y Y) ⟨[],Y,Y,rfl,rfl⟩
 rw[ZM]at e;subst e;exact⟨j,a,f1⟩
end
def qr(l:V3):Jn 60 (.lst (l.map .int))=B:=by
 show (List.map T.int _).all (Jn 59)=B;rw[Vf];exact Yq.mpr λ_ _=>rfl
def yT(j:V3):Ae [.scr j]=Z (.fr,.bl true):=by
 obtain⟨bk,e1,X,b9,P⟩:=Ea j;have B:Bk 120 bk:=⟨b9,P⟩
 have S:M6 bk:=⟨X,by unfold d7;rw[← List.length_flatten];exact B.n,B.az⟩
 obtain⟨Lk,XO⟩:=yp bk B X;obtain⟨_,nd,d,H,hl,_,w,hm,h0,hN⟩:=S.k;have L:∀x∈aL bk,x<d.length:=λx h=>by rw[H.i.len];exact(w x).mp h
 have Nv:∀t,t<d.length->Az (W d t)/\(W d t).length<=120:=λt N=>t5 bk B _ ((sD H _).mpr (by rw[H.i.top N];rfl));have O:(tabOf bk).length=(aL bk).length:=by unfold tabOf tab;rw[Zy]
 have kl:(b7 (found bk)).length<=117129:=by unfold b7;rw[Zy];exact XO.1
 have tx:∀y∈b7 (found bk),N6 y=true:=λy E=>by
  obtain⟨y1,y2⟩:=t5 bk B y E;unfold N6;rw[ZS];refine⟨decide_eq_true (by show y.length<=16777216;omega),Yq.mpr λc hc=>decide_eq_true ?_⟩;have:=(y1 c hc).2;omega
 have hS:zM (aa 3) (EU j bk (oc (.dct 0 (gT []))) Y Y Y Y Y)=Z λl=>∃u:List Tx,l=u.map T.str/\u.Perm (b7 (found bk))/\u.Pairwise (λa b=>a.length<=b.length):=by
  have:=strs_map id (b7 (found bk));rw[WQ]at this;show (strs? ((dT (found bk)).map (·.1))).bind _=_;rw[show (dT (found bk)).map (·.1)=(b7 (found bk)).map (λx=>T.str (id x)) from by unfold dT b7;rw[ZA,ZA];rfl,this,Zt];exact Zr (Yq.mpr tx)
 have E1:∀{R s o Q C A},eN cT (ab (aa 2) ag) (EU j bk R s o Q C A)=Z (.fr,.int (d.length:Int)):=λ{R s o Q C A}=>iP (xv (r:=ag) (x:=(.pu,Kn (tabOf bk))) M M) (by
  show Z (Md.fr,T.int ((((tabOf bk).map fX).length:Nat):Int))=_;rw[Zy,O,hm])
 have main:∃z,sG (bu 5) (zM (aa 3)) kA (ak (Js (e2 Lu (eN lD (ab (aa 4) ag)) (eN kH (ab (eN cT (ab (aa 2) ag)) ag))) (dS (eC (.bl J))) d6) (ak (nL 7 (j7 2 [])) (ak (rT 4 (bu 8) ig) (ak (wF 7) (dS (eC (.bl true))))))) (EU j bk (oc (.dct 0 (gT []))) Y Y Y Y Y)=Z (.rt (.fr,.bl true) z):=by
  refine AQ hS (l0:=(Ar (b7 (found bk))).map T.str) ⟨_,rfl,oQ _,?_⟩ ?_
  ·exact(rW _).imp λh=>by
    rename_i a b;by_cases z:b.length<a.length
    ·exact absurd (.inl z) h
    ·omega
  ·rintro _ ⟨u,rfl,D,hw⟩;have hn:u.Nodup:=D.nodup_iff.mpr (xV bk);have E:∀y,y∈u↔(nd y).isSome=true:=λy=>D.mem_iff.trans (sD H y);obtain⟨g,s,o,f1,hg⟩:=GB H w h0 Nv j E (by rw[D.length_eq];omega);obtain⟨f,F,v,rfl⟩:=Du H w hn hw E hg;have tl:f.length<=1000:=by
    have:=sub_len f (List.range d.length) F λx L=>Z4.mpr ((v x).mp L);rw[Z0]at this;omega
   obtain⟨C,A,f2⟩:=Gq H w Nv j F (λt=>(v t).mp) XO tl s o;have so:eN lD (ab (aa 4) ag) (EU j bk (oc (.dct 0 (gT (f.map λt=>(ix bk t,ws bk d t))))) s o Y Y Y)=Z (.fr,.lst (((List.range d.length).map λi:Nat=>(i:Int)).map .int)):=iP (xv (r:=ag) (x:=(.bo,.dct 0 (gT (f.map λt=>(ix bk t,ws bk d t))))) M M) (by
    have G:(gT (f.map λt=>(ix bk t,ws bk d t))).map (·.1)=f.map λt=>T.int ((ix bk t:Nat):Int):=by unfold gT;rw[ZA,ZA];rfl
    show (jd ((gT (f.map λt=>(ix bk t,ws bk d t))).map (·.1))).map _=_;rw[G,ints_map λt=>((ix bk t:Nat):Int),YU];congr 4;refine(kR ?_ ?_).symm
    ·have pm:(List.range d.length).Perm (f.map (ix bk)):=(WX VW (YH.mpr (List.Pairwise.imp_of_mem (λ{a b} ha hb h e=>h (qo H w ((v a).mp ha) ((v b).mp hb) e)) F))).mpr λx=>by
      rw[Z4,Yw];constructor
      ·intro h;have U:x<(aL bk).length:=by omega
       exact⟨(aL bk)[x],(v _).mpr (L _ (Yx U)),GN hN U⟩
      ·rintro⟨t,N,rfl⟩;have:=GS w (m:=t) (by rw[← H.i.len];exact(v t).mp N);omega
     have:=pm.map λi:Nat=>(i:Int)
     rwa [ZA]at this
    ·exact YH.mpr (List.pairwise_lt_range.imp λh=>by omega))
   have lr:eN kH (ab (eN cT (ab (aa 2) ag)) ag) (EU j bk (oc (.dct 0 (gT (f.map λt=>(ix bk t,ws bk d t))))) s o Y Y Y)=Z (.fr,.lst (((List.range d.length).map λi:Nat=>(i:Int)).map .int)):=iP (xv (r:=ag) E1 M) (by
    refine(Zr ⟨by omega,by omega⟩).trans ?_;rw[Wx,ZA];rfl)
   have fz:rT 4 (bu 8) ig (EU j bk (oc (.dct 0 (gT (f.map λt=>(ix bk t,ws bk d t))))) s o (oc (.dct 2 [])) Y Y)=Z (.nx (EU j bk (pc (.dct 3 (gT (f.map λt=>(ix bk t,ws bk d t))))) s o (oc (uT bk d f)) C A)):=by
    have G:(gT (f.map λt=>(ix bk t,ws bk d t))).map (·.1)=f.map λt=>T.int ((ix bk t:Nat):Int):=by unfold gT;rw[ZA,ZA];rfl
    refine(show gM (bu 8) (km 4) ig (EU j bk (pc (.dct 3 (gT (f.map λt=>(ix bk t,ws bk d t))))) s o (oc (.dct 2 [])) Y Y)=_ from ?_);refine(iJ (m:=.fr) (l:=f.map λt=>T.int ((ix bk t:Nat):Int)) ?_ M).trans f2;rw[← G];exact Zr (Yq.mpr λp D=>by
     obtain⟨q,_,rfl⟩:=Yw.mp D;rfl)
   exact kW f1 (kW (kM (m:=.fr) (e2v so lr (pE (r:=true) (qr _) (qr _) (jA 60 _ (qr _)))) M) (kW (U1:=EU j bk (oc (.dct 0 (gT (f.map λt=>(ix bk t,ws bk d t))))) s o (oc (.dct 2 [])) Y Y) M (kW fz (kW (U1:=EU j bk (pc (.dct 3 (gT (f.map λt=>(ix bk t,ws bk d t))))) s o (pc (uT bk d f)) C A) M ⟨_,rfl⟩))))
 refine Gk M (kW (aK (m:=.fr) (dU (xv (r:=ag) (x:=(.fr,.scr j)) M M) e1) (by decide) (by show 1<10;decide)) (kW (aK (m:=.fr) (Cr S (m:=.fr) (iP (xv (r:=ag) (x:=(.pu,.lst (bk.map .str))) M M) ?_)) (by decide) (by show 2<10;decide)) (kW (U1:=EU j bk Y Y Y Y Y Y) (aK (m:=.fr) (dU (xv (r:=ag) (x:=(.pu,.lst (bk.map .str))) M M) Lk) (by decide) (by show 3<10;decide)) (kW (U1:=EU j bk (oc (.dct 0 (gT []))) Y Y Y Y Y) M main))));show Lw .pu (bk.map T.str)=_;rw[uw (by rw[Zy];omega),Zr (kJ T.str (λ_=>rfl) bk)]
end T11
end
section
namespace T11
open PySem PySem.Spec PyProof.Rows L2 VS
def qv{X:Cx}(i:Nat)(a:{`q7,X.N[i]?=Z x})(b:Kp X.env.scope x:=by exact Or.inl M)(c:{`q1,K3 x})(d:{`q1,K4 x}):PV G X (.Name x p) (aa i):=cF i a b c d
def Q4{α:Sort _}{x:α}{b:Prop}:x=x∨b:=.inl M
abbrev Q5:List Str:=["_law_cell", "_law_k"]
abbrev Q6:List Str:=["_law_j", "_law_script", "_law_cell", "_law_letters", "_law_count", "_law_most"]
abbrev Q7:List Str:=["_law_script", "_law_k"]
abbrev Q8:List Str:=["_law_script", "_law_letters", "_law_most", "_law_j"]
abbrev Q9:List Str:=["_law_script"]
abbrev Qa:List Str:=["_law_sign", "_law_table", "_law_known_here", "_law_k", "_law_some", "_law_row", "_law_lengths", "_law_word"]
abbrev Qb:List Str:=["_law_table", "_law_known_here", "_law_k", "_law_some"]
abbrev Qc:List Str:=["_law_table", "_law_word"]
abbrev Qd:List Str:=["_law_way", "_law_table", "_law_known_here", "_law_k", "_law_some", "_law_row", "_law_lengths", "_law_word"]
abbrev Qe:List Str:=["_law_word", "_law_table", "_law_known_here", "_law_k", "_law_some", "_law_row", "_law_lengths", "-7"]
abbrev Qf:List Str:=["book", "number"]
abbrev Qg:List Str:=["self", "head", "sign"]
abbrev Qh:List Str:=["self", "head", "word"]
abbrev Qi:List Str:=["self", "long", "link", "ways"]
abbrev Qj:List Str:=["self", "node", "numbers"]
abbrev Qk:List Str:=["self", "node", "sign"]
abbrev Ql:List Str:=["self", "text", "word"]
abbrev Qm:List Str:=["self"]
abbrev Qn:List Str:=["sign", "self", "node", "numbers", "link", "ways", "steps"]
noncomputable def top(i:Nat):Stmt:=PySem.Challenge.pw_allparts_k11_whole_takes_just_the_parts.main.body.getD i (.Pass ⟨0,0,0,0⟩)
structure J8(mg:Wc):Prop where
 OM:mg "bool" = none
 MP:mg "dict" = none
 Ll:mg "enumerate" = none
 QZ:mg "int" = none
 JL:mg "isinstance" = none
 Iz:mg "len" = none
 KW:mg "list" = none
 QY:mg "max" = none
 QX:mg "min" = none
 Jq:mg "range" = none
 JK:mg "sorted" = none
 QW:mg "sum" = none
 L5:mg "tuple" = none
 KU:∃t,mg "MOST_SIGNS" = some (.int 120 t)
 KS:∃t,mg "MOST_TEXTS" = some (.int 8 t)
noncomputable abbrev NM:List Str:=["  ", "longs", "links", "ways", "texts", "heads", "nodes"]
abbrev gX(K:X6)(C D:KM):Gx:=MX NM K C D
def gJ{K:X6}:jJ ((MX NM K C D).at m):=BD (by decide +kernel) (by decide +kernel)
structure JC(K:X6)(mg:Wc)(C D:KM):Prop where
 Il:JY K C
 MG:mg "Nodes" = some (.ref C)
 Ja:aT K C "longs"
 Jb:aT K C "links"
 Je:aT K C "ways"
 IZ:aT K C "texts"
 Jc:aT K C "heads"
 I0:aT K C "nodes"
 xt:JY K D
 Lx:mg "Machine" = some (.ref D)
 IH:aT K D "longs"
 II:aT K D "links"
 IS:aT K D "ways"
 IF:aT K D "texts"
 IJ:aT K D "heads"
 IG:aT K D "nodes"
def fh{K:X6}(a:JC K b C D):JA ((MX NM K C D).at m) K 1 "longs" := wM M a.Il a.xt a.Ja a.IH
def eX{K:X6}(a:JC K b C D):JA ((MX NM K C D).at m) K 2 "links" := wM M a.Il a.xt a.Jb a.II
def d5{K:X6}(a:JC K b C D):JA ((MX NM K C D).at m) K 3 "ways" := wM M a.Il a.xt a.Je a.IS
def dN{K:X6}(a:JC K b C D):JA ((MX NM K C D).at m) K 4 "texts" := wM M a.Il a.xt a.IZ a.IF
def kG{K:X6}(a:JC K b C D):JA ((MX NM K C D).at m) K 5 "heads" := wM M a.Il a.xt a.Jc a.IJ
def oA{K:X6}(a:JC K b C D):JA ((MX NM K C D).at m) K 6 "nodes" := wM M a.Il a.xt a.I0 a.IG
section
variable(P:Re)(w:XAA)(base:UV){K:X6}
abbrev eA:Stmt:=inClass (top 11) 1
def kc:gV Qi Qi (ah eA):=by constructor<;>first | rfl | decide +kernel
def aO(F:IA K "new_node" "Nodes.new_node" eA f e)(b:Meth K C "new_node" f)(B:J8 mg)(a:JC K mg C D) :
  MtAt P w K mg base 1 (gX K C D) 0 "new_node" Qi [J,J,true] aJ:=kZ F b a.Il (fW (by decide +kernel) (by decide +kernel)) kc M M (λ_ _ _ _ _ _ g d=>by obtain⟨_,_,_,_,rfl⟩:=L2.Ff d;rfl) λ_ _ _ _ _ _ _ h =>
  (af (qM gJ (fq 1 (fh a) (bK 0)) (ae (qv 1) ai))
  (af (qM gJ (fq 2 (eX a) (bK 0)) (ae (qv 2) ai))
  (af (CU gJ (fq 3 (d5 a) (bK 0)) M M Q4 M M M M M M M M)
  (aq (bx (iR qW qY (eZ B.Iz (ae (w_fld gJ (fh a) (qv 0)) ai)) au))))))
abbrev eB:Stmt:=inClass (top 11) 0
def kB:gV Qm Qm (ah eB):=by constructor<;>first | rfl | decide +kernel
def cp(F:IA K "__init__" "Nodes.__init__" eB f g)(d:Mk K C f)(B:J8 mg)(a:JC K mg C D)(h:MtAt P w K mg base 1 (gX K C D) 0 "new_node" Qi [J,J,true] aJ) :
  InAt P w K mg base 2 (gX K C D) 0 0 "Nodes" Qm di:=Eb F d a.MG kB M M (λ_ _ _ _ _ _ i e=>by obtain⟨_,rfl⟩:=L2.ox e;rfl) λ_ _ _ _ _ _ _ b =>
  (af (lQ 0 1 gJ (fh a) (gQ ai))
  (af (lQ 0 2 gJ (eX a) (gQ ai))
  (af (lQ 0 3 gJ (d5 a) (gQ ai))
  (aq (tm (iA gJ h.at b (by decide) (bK 0) (ae au (ae uH (ae uC ai)))) M)))))
abbrev cj:Stmt:=inClass (top 11) 4
def aW:gV ["self", "node", "sign", "old", "long", "half"] Qk (ah cj):=by constructor<;>first | rfl | decide +kernel
def aR(F:IA K "node_just_behind" "Nodes.node_just_behind" cj f g)(d:Meth K C "node_just_behind" f)(B:J8 mg)(a:JC K mg C D)(h:MtAt P w K mg base 1 (gX K C D) 0 "new_node" Qi [J,J,true] aJ) :
  MtAt P w K mg base 2 (gX K C D) 0 "node_just_behind" Qk [J,J] av:=kZ F d a.Il (fW (by decide +kernel) (by decide +kernel)) aW M M (λ_ _ _ _ _ _ i e=>by obtain⟨_,_,_,rfl⟩:=L2.wX e;rfl) λ_ _ _ _ _ _ _ b =>
  (af (aE (p5 b (bE (w_fld gJ (d5 a) (qv 0)) (qv 1) (λ_ _=>rfl)) (qv 2) (λ_ _=>rfl)) aW.nd M Q4)
  (af (aE (w_add (bE (w_fld gJ (fh a) (qv 0)) (qv 1) (λ_ _=>rfl)) au) aW.nd M Q4)
  (af (cy (sP b (bE (w_fld gJ (fh a) (qv 0)) (qv 3) (λ_ _=>rfl)) (qv 4)) (aq (fT 3 M (Or.inl M) M M)) bL)
  (af (qR (iA gJ h.at b (by decide) (bK 0) (ae (qv 4) (ae (bE (w_fld gJ (eX a) (qv 0)) (qv 3) (λ_ _=>rfl)) (ae (BR B.MP (ae (bE (w_fld gJ (d5 a) (qv 0)) (qv 3) (λ_ _=>rfl)) ai) M M) ai)))) aW.nd M Q4 M Q4)
  (af (kK gJ b (fq 2 (eX a) (bK 0)) (qv 3) (qv 5))
  (af (lE Yd (Ms.OU (qK (mP (qv 1)) (qL (sP b (w_get b (bE (w_fld gJ (d5 a) (qv 0)) (qv 1) (λ_ _=>rfl)) (qv 2) M M M M) (qv 3)))))
  (af (kK gJ b (De b (fq 3 (d5 a) (bK 0)) (qv 1) (λ_ _=>rfl) M) (qv 2) (qv 5))
  (aq (aE (bE (w_fld gJ (eX a) (qv 0)) (qv 1) (λ_ _=>rfl)) aW.nd M Q4))))
  (aq (fT 5 M (Or.inl M) M M))))))))
abbrev dr:Stmt:=inClass (top 11) 3
def bZ:gV ["self", "head", "sign", "fresh", "node"] Qg (ah dr):=by constructor<;>first | rfl | decide +kernel
def bI(F:IA K "head_behind" "Nodes.head_behind" dr f h)(e:Meth K C "head_behind" f)(B:J8 mg)(b:JC K mg C D)(i:MtAt P w K mg base 1 (gX K C D) 0 "new_node" Qi [J,J,true] aJ)(d:MtAt P w K mg base 2 (gX K C D) 0 "node_just_behind" Qk [J,J] av) :
  MtAt P w K mg base 3 (gX K C D) 0 "head_behind" Qg [J,J] bH:=kZ F e b.Il (fW (by decide +kernel) (by decide +kernel)) bZ M M (λ_ _ _ _ _ _ j g=>by obtain⟨_,_,_,rfl⟩:=L2.wX g;rfl) λ_ _ _ _ _ _ _ a =>
  (af (cy (Dq a (qv 2) (bE (w_fld gJ (d5 b) (qv 0)) (qv 1) (λ_ _=>rfl)) (by with_unfolding_all rfl) M) (aq (By (iA gJ d.at a (by decide) (bK 0) (ae (qv 1) (ae (qv 2) ai))))) bL)
  (af (qR (iA gJ i.at a (by decide) (bK 0) (ae (w_add (bE (w_fld gJ (fh b) (qv 0)) (qv 1) (λ_ _=>rfl)) au) (ae au (ae uC ai)))) bZ.nd M Q4 M Q4)
  (af (aE (qv 1) bZ.nd M Q4)
  (af (lE Yd (Ms.OU (qK (mP (qv 4)) (qL (ux a (qv 2) (bE (w_fld gJ (d5 b) (qv 0)) (qv 4) (λ_ _=>rfl)) (by with_unfolding_all rfl)))))
  (af (kK gJ a (De a (fq 3 (d5 b) (bK 0)) (qv 4) (λ_ _=>rfl) M) (qv 2) (qv 3))
  (aq (aE (bE (w_fld gJ (eX b) (qv 0)) (qv 4) (λ_ _=>rfl)) bZ.nd M Q4))))
  (af (cy (mP (qv 4)) (aq (u9 gJ a (fq 2 (eX b) (bK 0)) (qv 3) (iA gJ d.at a (by decide) (bK 0) (ae (qv 4) (ae (qv 2) ai))) (λ_=>rfl) M M M)) bL)
  (aq (fT 3 M (Or.inl M) M M)))))))
abbrev dG:Stmt:=inClass (top 11) 2
def dv:gV ["self", "head", "word", "sign"] Qh (ah dG):=by constructor<;>first | rfl | decide +kernel
def bP(F:IA K "head_grown" "Nodes.head_grown" dG f e)(b:Meth K C "head_grown" f)(B:J8 mg)(h:JC K mg C D)(g:MtAt P w K mg base 3 (gX K C D) 0 "head_behind" Qg [J,J] bH) :
  MtAt P w K mg base 4 (gX K C D) 0 "head_grown" Qh [J,J] aP:=kZ F b h.Il (fW (by decide +kernel) (by decide +kernel)) dv M M (λ_ _ _ _ _ _ i d=>by obtain⟨_,_,_,rfl⟩:=L2.wX d;rfl) λ_ _ _ _ _ _ _ a =>
  (af (fO Yd M (eO (qv 2)) (bq 3 dv.nd M Q4 Q4)
  (aq (qR (iA gJ g.at a (by decide) (bK 0) (ae (qv 1) (ae (qv 3) ai))) dv.nd M Q4 M Q4)))
  (aq (fT 1 M (Or.inl M) M M)))
abbrev cz:Stmt:=inClass (top 11) 6
def aM:gV ["self", "numbers", "met", "done", "ways", "sign"] Qm (ah cz):=by constructor<;>first | rfl | decide +kernel
def aZ{m:Me}(F:IA K "numbers_by_node" "Nodes.numbers_by_node" cz f g)(d:Meth K C "numbers_by_node" f)(B:J8 mg)(b:JC K mg C D) :
  MpAt P w K mg base 1 ((gX K C D).at m) 0 "numbers_by_node" Qm aH:=ot F d b.Il (fW (by decide +kernel) (by decide +kernel)) aM M M (λ_ _ _ _ _ _ h e=>by obtain⟨_,rfl⟩:=L2.ox e;rfl) λ_ _ _ _ _ _ a =>
  (af (iI EC aM.nd M Q4)
  (af (iI (gQ (ae au ai)) aM.nd M Q4)
  (af (aE au aM.nd M Q4)
  (af (lE Yd (fM uK zr kQ (qv 3) (eZ B.Iz (ae (qv 2) ai)) (lF _))
  (af (aE (bE (w_fld gJ (d5 b) (qv 0)) (bE (qv 2) (qv 3) (λ_ _=>rfl)) (λ_ _=>rfl)) aM.nd M Q4)
  (af (fO Yd M (eO (vp B.JK (ae (qv 4) ai))) (bq 5 aM.nd M Q4 Q4)
  (aq (cy (ux a (p5 a (qv 4) (qv 5) (λ_ _=>rfl)) (qv 1) (by with_unfolding_all rfl)) (af (E8 1 a (p5 a (qv 4) (qv 5) (λ_ _=>rfl)) (eZ B.Iz (ae (qv 2) ai)) M Q4 M M (λ_=>rfl) M M M)
  (aq (ou 2 (ae (p5 a (qv 4) (qv 5) (λ_ _=>rfl)) ai) M M Q4 M M))) bL)))
  (aq (aE (w_add (qv 3) au) aM.nd M Q4)))))
  (qy 2 (aq (fT 1 M (Or.inl M) M M)))))))
abbrev fQ:Stmt:=inClass (top 11) 7
def dF:gV ["self", "node", "numbers", "link", "ways", "steps"] Qj (ah fQ):=by constructor<;>first | rfl | decide +kernel
def dc{m:Me}(F:IA K "row_of" "Nodes.row_of" fQ f g)(d:Meth K C "row_of" f)(B:J8 mg)(a:JC K mg C D) :
  MpAt P w K mg base 1 ((gX K C D).at m) 0 "row_of" Qj bS:=ot F d a.Il (fW (by decide +kernel) (by decide +kernel)) dF M M (λ_ _ _ _ _ _ h e=>by obtain⟨_,_,_,rfl⟩:=L2.wX e;rfl) λ_ _ _ _ _ _ b =>
  (af (aE (bE (w_fld gJ (eX a) (qv 0)) (qv 1) (λ_ _=>rfl)) dF.nd M Q4)
  (af (aE (bE (w_fld gJ (d5 a) (qv 0)) (qv 1) (λ_ _=>rfl)) dF.nd M (Or.inr M))
  (af (aE (vD B.L5 (ae (mO 1 Qn M (eO (vp B.JK (ae (cF 4 M (Or.inr Q4) M M) ai))) (iO) (λ_ _ _ _ _=>(bq 0 (show List.Nodup Qn from by decide +kernel) M Q4 (Or.inr M))) (λ_ _ _ _ _=>(qz (ae (qv 0) (ae (vG b (cF 3 M (Or.inr Q4) M M) (p5 b (cF 5 M (Or.inr Q4) M M) (qv 0) (λ_ _=>rfl))) ai)))) M M (by decide)) ai)) dF.nd M Q4)
  (af (cy (zW (qv 3)) (aq (bx (qz (ae au (ae au (ae uH (ae (qv 5) ai))))))) bL)
  (aq (bx (qz (ae (w_add (bE (w_fld gJ (fh a) (qv 0)) (qv 3) (λ_ _=>rfl)) au) (ae (bE (w_fld gJ (fh a) (qv 0)) (qv 1) (λ_ _=>rfl)) (ae (vG b (cF 2 M (Or.inr Q4) M M) (qv 3)) (ae (qv 5) ai)))))))))))
abbrev gU:Stmt:=inClass (top 11) 5
def js:gV ["self", "numbers"] Qm (ah gU):=by constructor<;>first | rfl | decide +kernel
def dw{m:Me}(F:IA K "table" "Nodes.table" gU f e)(b:Meth K C "table" f)(B:J8 mg)(i:JC K mg C D)(h:∀m,MpAt P w K mg base 1 ((gX K C D).at m) 0 "numbers_by_node" Qm aH)(g:∀m,MpAt P w K mg base 1 ((gX K C D).at m) 0 "row_of" Qj bS) :
  MpAt P w K mg base 2 ((gX K C D).at m) 0 "table" Qm dz:=ot F b i.Il (fW (by decide +kernel) (by decide +kernel)) js M M (λ_ _ _ _ _ _ j d=>by obtain⟨_,rfl⟩:=L2.ox d;rfl) λ_ _ _ _ _ _ a =>
  (af (iI (m8 (h _) a (by decide) (cF 0 M (Or.inr Q4) M M) M) js.nd M (Or.inr M))
  (aq (DZ 1 ["node", "self", "numbers"] M M (Or.inr Q4) M M (iO) (λ_ _ _ _ _=>(bq 0 (show List.Nodup (["node", "self", "numbers"]:List Str) from by decide +kernel) M Q4 (Or.inr M))) (λ_ _ _ _ _=>(Bc (g _) a (by decide) (cF 1 M (Or.inr Q4) M M) (ae (qv 0) (ae (cF 2 M (Or.inr Q4) M M) ai)) M M M)) M M (by decide) (λ_=>rfl))))
abbrev fu:Stmt:=inClass (top 13) 1
def k9:gV Qm Qm (ah fu):=by constructor<;>first | rfl | decide +kernel
def cK(F:IA K "begin" "Machine.begin" fu f e)(b:Meth K D "begin" f)(B:J8 mg)(a:JC K mg C D) :
  MtAt P w K mg base 1 (gX K C D) 1 "begin" Qm [] br:=kZ F b a.xt (fW (by decide +kernel) (by decide +kernel)) k9 M M (λ_ _ _ _ _ _ g d=>by obtain⟨_,rfl⟩:=L2.ox d;rfl) λ_ _ _ _ _ _ _ h =>
  (af (cy (FV (eZ B.Iz (ae (w_fld gJ (dN a) (qv 0)) ai)) (vt B.KS M M)) (aq uJ) bL)
  (af (qM gJ (fq 4 (dN a) (bK 0)) (ae (ir (by decide +kernel) (by decide)) ai))
  (af (qM gJ (fq 5 (kG a) (bK 0)) (ae au ai))
  (aq (bx (iR qW qY (eZ B.Iz (ae (w_fld gJ (dN a) (qv 0)) ai)) au))))))
abbrev jX:Stmt:=top 7
def rC:gV ["thing"] ["thing"] (ah jX):=by constructor<;>first | rfl | decide +kernel
def gh{m:Me}(F:IA K "is_whole" "is_whole" jX f d)(a:mg "is_whole" = Z (.ref f))(B:J8 mg)(h:JC K mg C D) :
  FnAt P w K mg base 1 "is_whole" ["thing"] ((gX K C D).at m) jV:=jO F a rC M M (λ_ _ _ _ _ _ e b=>by obtain⟨_,rfl⟩:=L2.ox b;rfl) λ_ _ _ _ _ _ g =>
  (aq (bx (Ed (w_is .int B.JL B.QZ (qv 0)) (FD (Eo (w_is .bool B.JL B.OM (qv 0)))))))
abbrev d8:Stmt:=top 8
def kY:gV Qf Qf (ah d8):=by constructor<;>first | rfl | decide +kernel
def cw{m:Me}(F:IA K "refuse_no_text" "refuse_no_text" d8 f g)(b:mg "refuse_no_text" = Z (.ref f))(B:J8 mg)(i:JC K mg C D)(e:∀m,FnAt P w K mg base 1 "is_whole" ["thing"] ((gX K C D).at m) jV) :
  FnAt P w K mg base 2 "refuse_no_text" Qf ((gX K C D).at m) ba:=jO F b kY M M (λ_ _ _ _ _ _ h d=>by obtain⟨_,_,rfl⟩:=L2.fD d;rfl) λ_ _ _ _ _ _ a =>
  (aq (cy (Ms.OU (uL (qg (vN (fB (e _) a (ae (qv 1) ai) (by decide) M M))) (uv (qg (oB au (qv 1) (eZ B.Iz (ae (qv 0) ai)) (by with_unfolding_all rfl)))))) (aq uJ) bL))
abbrev jS:Stmt:=top 9
def rz:gV ["book"] ["book"] (ah jS):=by constructor<;>first | rfl | decide +kernel
def fY{m:Me}(F:IA K "signs_in" "signs_in" jS f d)(a:mg "signs_in" = Z (.ref f))(B:J8 mg)(h:JC K mg C D) :
  FnAt P w K mg base 1 "signs_in" ["book"] ((gX K C D).at m) fS:=jO F a rz M M (λ_ _ _ _ _ _ e b=>by obtain⟨_,rfl⟩:=L2.ox b;rfl) λ_ _ _ _ _ _ g =>
  (aq (bx (w_sum B.QW (ae (mO 1 ["text", "book"] M (eO (qv 0)) (iO) (λ_ _ _ _ _=>(bq 0 (show List.Nodup (["text", "book"]:List Str) from by decide +kernel) M Q4 (Or.inr M))) (λ_ _ _ _ _=>(eZ B.Iz (ae (qv 0) ai))) M M (by decide)) ai))))
abbrev fU:Stmt:=inClass (top 13) 2
def mq:gV Ql Ql (ah fU):=by constructor<;>first | rfl | decide +kernel
def cU(F:IA K "grow" "Machine.grow" fU f g)(d:Meth K D "grow" f)(B:J8 mg)(a:JC K mg C D)(j:MtAt P w K mg base 4 (gX K C D) 0 "head_grown" Qh [J,J] aP)(i:∀m,FnAt P w K mg base 2 "refuse_no_text" Qf ((gX K C D).at m) ba)(h:∀m,FnAt P w K mg base 1 "signs_in" ["book"] ((gX K C D).at m) fS) :
  MtAt P w K mg base 5 (gX K C D) 1 "grow" Ql [J,J] bh:=kZ F d a.xt (fW (by decide +kernel) (by decide +kernel)) mq M M (λ_ _ _ _ _ _ l e=>by obtain⟨_,_,_,rfl⟩:=L2.wX e;rfl) λ_ _ _ _ _ _ _ b =>
  (af (Dx (fB (i _) b (ae (w_fld gJ (dN a) (qv 0)) (ae (qv 1) ai)) (by decide) M M) M)
  (af (cy (GI (w_add (fB (h _) b (ae (w_fld gJ (dN a) (qv 0)) ai) (by decide) M M) (eZ B.Iz (ae (qv 2) ai))) (vt B.KU M M)) (aq uJ) bL)
  (af (u9 gJ b (fq 5 (kG a) (bK 0)) (qv 1) (iA gJ j.at b (by decide) (fq 6 (oA a) (bK 0)) (ae (bE (w_fld gJ (kG a) (qv 0)) (qv 1) (λ_ _=>rfl)) (ae (qv 2) ai))) (λ_=>rfl) M M M)
  (aq (kK gJ b (fq 4 (dN a) (bK 0)) (qv 1) (w_add (bE (w_fld gJ (dN a) (qv 0)) (qv 1) (λ_ _=>rfl)) (qv 2)))))))
abbrev bO:Stmt:=inClass (top 13) 0
def fH:gV ["self", "book", "text"] ["self", "book"] (ah bO):=by constructor<;>first | rfl | decide +kernel
def bQ(F:Mm K "__init__" "Machine.__init__" bO f i)(g:Mk K D f)(B:J8 mg)(a:JC K mg C D)(m:MtAt P w K mg base 1 (gX K C D) 1 "begin" Qm [] br)(l:MtAt P w K mg base 5 (gX K C D) 1 "grow" Ql [J,J] bh)(j:InAt P w K mg base 2 (gX K C D) 0 0 "Nodes" Qm di) :
  InAt P w K mg base 6 (gX K C D) 1 1 "Machine" ["self", "book"] aS:=B4 F g a.Lx fH M M (λ_ _ _ _ _ _ _ _ _ _ n X e d h=>by obtain⟨_,_,rfl⟩:=L2.fD h;exact PySem.W.binds_K X M e d M M) λ_ _ _ _ _ _ _ b =>
  (af (lQ 0 4 gJ (dN a) (gQ ai))
  (af (lQ 0 5 gJ (kG a) (gQ ai))
  (af (lQ 0 6 gJ (oA a) (Cy j.at b (by decide) M M))
  (aq (cy (mP (qv 1)) (aq (fO Yd M (eO (qv 1)) (bq 2 fH.nd M Q4 Q4)
  (aq (tm (EY l.at b (by decide) M Q4 M M (zE gJ m.at b (by decide) (bK 0) M) (ae (qv 2) ai) M M M) M)))) bL)))))
abbrev fZ:Stmt:=inClass (top 13) 3
def mE:gV Qm Qm (ah fZ):=by constructor<;>first | rfl | decide +kernel
def iZ{m:Me}(F:IA K "book" "Machine.book" fZ f e)(b:Meth K D "book" f)(B:J8 mg)(a:JC K mg C D) :
  MpAt P w K mg base 1 ((gX K C D).at m) 1 "book" Qm oM:=ot F b a.xt (fW (by decide +kernel) (by decide +kernel)) mE M M (λ_ _ _ _ _ _ g d=>by obtain⟨_,rfl⟩:=L2.ox d;rfl) λ_ _ _ _ _ _ h =>
  (aq (bx (vY B.KW (ae (w_fld gJ (dN a) (qv 0)) ai))))
abbrev fj:Stmt:=inClass (top 13) 4
def lK:gV Qm Qm (ah fj):=by constructor<;>first | rfl | decide +kernel
def cJ{m:Me}(F:IA K "table" "Machine.table" fj f g)(d:Meth K D "table" f)(B:J8 mg)(a:JC K mg C D)(h:∀m,MpAt P w K mg base 2 ((gX K C D).at m) 0 "table" Qm dz) :
  MpAt P w K mg base 3 ((gX K C D).at m) 1 "table" Qm bY:=ot F d a.xt (fW (by decide +kernel) (by decide +kernel)) lK M M (λ_ _ _ _ _ _ i e=>by obtain⟨_,rfl⟩:=L2.ox e;rfl) λ_ _ _ _ _ _ b =>
  (aq (bx (m8 (h _) b (by decide) (w_fld gJ (oA a) (qv 0)) M)))
abbrev gR:Stmt:=top 15
def m7:gV Q7 Q7 (ah gR):=by constructor<;>first | rfl | decide +kernel
def bF{m:Me}(F:IA K "_law_cell_at" "_law_cell_at" gR f d)(a:mg "_law_cell_at" = Z (.ref f))(B:J8 mg)(h:JC K mg C D) :
  FnAt P w K mg base 1 "_law_cell_at" Q7 ((gX K C D).at m) aQ:=jO F a m7 M M (λ_ _ _ _ _ _ e b=>by obtain⟨_,_,rfl⟩:=L2.fD b;rfl) λ_ _ _ _ _ _ g =>
  (af (cy (fM uK zr kQ (qv 1) (eZ B.Iz (ae (qv 0) ai)) (lF _)) (aq (bx (bE (qv 0) (qv 1) (λ_ _=>rfl)))) bL)
  (aq (bx au)))
abbrev jt:Stmt:=top 16
def iM:gV ["_law_cell", "_law_k", "_law_number"] Q5 (ah jt):=by constructor<;>first | rfl | decide +kernel
def fg{m:Me}(F:IA K "_law_mixed" "_law_mixed" jt f d)(a:mg "_law_mixed" = Z (.ref f))(B:J8 mg)(h:JC K mg C D) :
  FnAt P w K mg base 1 "_law_mixed" Q5 ((gX K C D).at m) eR:=jO F a iM M M (λ_ _ _ _ _ _ e b=>by obtain⟨_,_,rfl⟩:=L2.fD b;rfl) λ_ _ _ _ _ _ g =>
  (af (aE (w_mod (w_add (w_add (w_mod (qv 0) au) (iR oh nU au (qv 1))) au) au) iM.nd M Q4)
  (af (aE (w_add (w_mod (iR oh nU (qv 2) (qv 2)) au) (iR oh nU au (qv 1))) iM.nd M Q4)
  (aq (bx (w_mod (iR oh nU (qv 2) (qv 2)) au)))))
abbrev jU:Stmt:=top 17
def cW:gV ["_law_script", "_law_letters", "_law_most", "_law_j", "_law_cell", "_law_size", "_law_signs", "_law_k"] Q8 (ah jU):=by constructor<;>first | rfl | decide +kernel
def gn{m:Me}(F:IA K "_law_text" "_law_text" jU f h)(d:mg "_law_text" = Z (.ref f))(B:J8 mg)(j:JC K mg C D)(b:∀m,FnAt P w K mg base 1 "_law_cell_at" Q7 ((gX K C D).at m) aQ)(g:∀m,FnAt P w K mg base 1 "_law_mixed" Q5 ((gX K C D).at m) eR) :
  FnAt P w K mg base 2 "_law_text" Q8 ((gX K C D).at m) dH:=jO F d cW M M (λ_ _ _ _ _ _ i e=>by obtain⟨_,_,_,_,rfl⟩:=L2.Ff e;rfl) λ_ _ _ _ _ _ a =>
  (af (aE (fB (b _) a (ae (qv 0) (ae (w_add au (qv 3)) ai)) (by decide) M M) cW.nd M Q4)
  (af (aE (w_mod (qv 4) (w_add (qv 2) au)) cW.nd M Q4)
  (af (aE (jl (qv 4) (w_add (qv 2) au)) cW.nd M Q4)
  (af (iI (gQ ai) cW.nd M Q4)
  (af (fO Yd M (iN (qv 5) M B.Jq) (bq 7 cW.nd M Q4 Q4)
  (aq (cy (sP a (w_mod (fB (b _) a (ae (qv 0) (ae au ai)) (by decide) M M) au) au) (af (ou 6 (ae (bE (qv 1) (w_mod (qv 4) (eZ B.Iz (ae (qv 1) ai))) (λ_ _=>rfl)) ai) M M Q4 M M)
  (aq (aE (jl (qv 4) (eZ B.Iz (ae (qv 1) ai))) cW.nd M Q4))) (aq (ou 6 (ae (bE (qv 1) (w_mod (jl (fB (g _) a (ae (qv 4) (ae (w_add (iR oh nU au (qv 3)) (qv 7)) ai)) (by decide) M M) au) (eZ B.Iz (ae (qv 1) ai))) (λ_ _=>rfl)) ai) M M Q4 M M)))))
  (qy 6 (aq (bx (BB (ir (by decide +kernel) (by decide)) (ae (qv 6) ai))))))))))
abbrev jT:Stmt:=top 18
def cY:gV ["_law_script", "_law_cell", "_law_letters", "_law_count", "_law_most"] Q9 (ah jT):=by constructor<;>first | rfl | decide +kernel
def gq{m:Me}(F:IA K "_law_book" "_law_book" jT f g)(b:mg "_law_book" = Z (.ref f))(B:J8 mg)(j:JC K mg C D)(h:∀m,FnAt P w K mg base 1 "_law_cell_at" Q7 ((gX K C D).at m) aQ)(e:∀m,FnAt P w K mg base 2 "_law_text" Q8 ((gX K C D).at m) dH) :
  FnAt P w K mg base 3 "_law_book" Q9 ((gX K C D).at m) iz:=jO F b cY M M (λ_ _ _ _ _ _ i d=>by obtain⟨_,rfl⟩:=L2.ox d;rfl) λ_ _ _ _ _ _ a =>
  (af (aE (fB (h _) a (ae (cF 0 M (Or.inr Q4) M M) (ae au ai)) (by decide) M M) cY.nd M Q4)
  (af (aE (bE (gQ (ae (ir (by decide +kernel) (by decide)) (ae (ir (by decide +kernel) (by decide)) (ae (ir (by decide +kernel) (by decide)) (ae (ir (by decide +kernel) (by decide)) (ae (ir (by decide +kernel) (by decide)) (ae (ir (by decide +kernel) (by decide)) ai))))))) (w_mod (jl (qv 1) au) au) (λ_ _=>rfl)) cY.nd M (Or.inr M))
  (af (aE (bE (gQ (ae au (ae au (ae au (ae au (ae au (ae au (ae au (ae au ai))))))))) (w_mod (jl (qv 1) au) au) (λ_ _=>rfl)) cY.nd M Q4)
  (af (aE (bE (gQ (ae au (ae au (ae au (ae au ai))))) (iR qW qY (FL B.QX (ae (qv 3) (ae au ai))) au) (λ_ _=>rfl)) cY.nd M (Or.inr M))
  (af (cy (sP a (w_mod (jl (qv 1) au) au) au) (aq (aE (jl au (E4 B.QY (ae au (ae (qv 3) ai)))) cY.nd M (Or.inr M))) bL)
  (af (cy (Ms.OU (qK (sP a (qv 3) au) (qL (pd a (w_mod (jl (qv 1) au) au) au)))) (aq (aE au cY.nd M (Or.inr M))) bL)
  (aq (bx (mO 1 Q6 M (iN (qv 3) M B.Jq) (iO) (λ_ _ _ _ _=>(bq 0 (show List.Nodup Q6 from by decide +kernel) M Q4 (Or.inr M))) (λ_ _ _ _ _=>(fB (e _) a (ae (cF 1 M (Or.inr Q4) M M) (ae (cF 3 M (Or.inr Q4) M M) (ae (cF 5 M (Or.inr Q4) M M) (ae (qv 0) ai)))) (by decide) M M)) M M (by decide))))))))))
abbrev jh:Stmt:=top 19
def dk:gV ["_law_book_here", "_law_known_here", "_law_number", "_law_text_here", "_law_end", "_law_start"] ["_law_book_here"] (ah jh):=by constructor<;>first | rfl | decide +kernel
def eW{m:Me}(F:IA K "_law_known" "_law_known" jh f d)(a:mg "_law_known" = Z (.ref f))(B:J8 mg)(h:JC K mg C D) :
  FnAt P w K mg base 1 "_law_known" ["_law_book_here"] ((gX K C D).at m) ff:=jO F a dk M M (λ_ _ _ _ _ _ e b=>by obtain⟨_,rfl⟩:=L2.ox b;rfl) λ_ _ _ _ _ _ g =>
  (af (iI (Cn (by decide +kernel) (by decide)) dk.nd M Q4)
  (af (fO Yd M (yz (qv 0) M B.Ll M M) (CJ M (pN (bq 2 dk.nd M Q4 Q4) (pN (bq 3 dk.nd M Q4 Q4) AH M) M))
  (aq (fO Yd M (iN (w_add (eZ B.Iz (ae (qv 3) ai)) au) M B.Jq) (bq 4 dk.nd M Q4 Q4)
  (aq (fO Yd M (iN (w_add (qv 4) au) M B.Jq) (bq 5 dk.nd M Q4 Q4)
  (aq (tR gJ 1 (sM (qv 3) (og (qv 5)) (og (qv 4)) M) (ae (qz (ae (qv 2) (ae (qv 4) ai))) ai)  rfl M Q4 M M M M M M M M M M M M M M)))))))
  (aq (fT 1 M (Or.inl M) M M))))
abbrev iD:Stmt:=top 20
def dB:gV ["_law_table", "_law_word", "_law_at", "_law_sign", "_law_ways"] Qc (ah iD):=by constructor<;>first | rfl | decide +kernel
def d3{m:Me}(F:IA K "_law_walked" "_law_walked" iD f e)(b:mg "_law_walked" = Z (.ref f))(B:J8 mg)(h:JC K mg C D) :
  FnAt P w K mg base 1 "_law_walked" Qc ((gX K C D).at m) fI:=jO F b dB M M (λ_ _ _ _ _ _ g d=>by obtain⟨_,_,rfl⟩:=L2.fD d;rfl) λ_ _ _ _ _ _ a =>
  (af (aE au dB.nd M Q4)
  (af (fO Yd M (eO (qv 1)) (bq 3 dB.nd M Q4 Q4)
  (af (aE (CH B.MP (ae (bE (bE (qv 0) (qv 2) (λ_ _=>rfl)) au (λ_ _=>rfl)) ai)) dB.nd M Q4)
  (af (cy (ux a (qv 3) (qv 4) (by with_unfolding_all rfl)) (aq (bx uH)) bL)
  (aq (aE (p5 a (qv 4) (qv 3) (λ_ _=>rfl)) dB.nd M Q4)))))
  (aq (fT 2 M (Or.inl M) M M))))
abbrev dW:Stmt:=top 21
def cE:gV ["_law_table", "_law_known_here", "_law_k", "_law_some", "_law_row", "_law_lengths", "_law_word"] Qb (ah dW):=by constructor<;>first | rfl | decide +kernel
def b6{m:Me}(F:IA K "_law_stand_right" "_law_stand_right" dW f e)(b:mg "_law_stand_right" = Z (.ref f))(B:J8 mg)(i:JC K mg C D) :
  FnAt P w K mg base 1 "_law_stand_right" Qb ((gX K C D).at m) cR:=jO F b cE M M (λ_ _ _ _ _ _ g d=>by obtain⟨_,_,_,_,rfl⟩:=L2.Ff d;rfl) λ_ _ _ _ _ _ a =>
  (af (aE (bE (qv 0) (qv 2) (λ_ _=>rfl)) cE.nd M Q4)
  (af (xY 1 Qe (λ_ _ _ h=>AZ h) M (eO (qv 3)) (iO) (λ_ _ _ _ _=>(bq 0 (show List.Nodup Qe from by decide +kernel) M Q4 (Or.inr M))) (λ_ _ _ _ _=>(eZ B.Iz (ae (qv 0) ai))) cE.nd M Q4 M M (by decide))
  (af (cy (pd a (qv 5) (xW B.KW B.Jq (ae (bE (qv 4) au (λ_ _=>rfl)) (ae (w_add (bE (qv 4) au (λ_ _=>rfl)) au) ai)) M M M M M M)) (aq (bx kE)) bL)
  (af (fO Yd M (eO (qv 3)) (bq 6 cE.nd M (Or.inr M) Q4)
  (af (cy (Ms.OU (uL (pd a (sM (bE (qv 3) Dt (λ_ _=>rfl)) (og (iR qW qY (eZ B.Iz (ae (bE (qv 3) Dt (λ_ _=>rfl)) ai)) (eZ B.Iz (ae (cF 6 M (Or.inr Q4) M M) ai)))) zi M) (cF 6 M (Or.inr Q4) M M)) (uv (pd a (p5 a (cF 1 M (Or.inr Q4) M M) (cF 6 M (Or.inr Q4) M M) (λ_ _=>rfl)) (p5 a (cF 1 M (Or.inr Q4) M M) (bE (qv 3) au (λ_ _=>rfl)) (λ_ _=>rfl)))))) (aq (bx kE)) bL)
  (aq (cy (pd a (wR 1 Qa M (eO (ir (by decide +kernel) (by decide))) (iO) (λ_ _ _ _ _=>(bq 0 (show List.Nodup Qa from by decide +kernel) M Q4 (Or.inr M))) (λ_ _ _ _ _=>(Dq a (w_add (cF 7 M (Or.inr Q4) M M) (qv 0)) (cF 2 M (Or.inr Q4) M M) (by with_unfolding_all rfl) M)) (λ_ _ _ _ _=>(qv 0)) M M (by decide)) (mO 1 Qd M (eO (bE (qv 4) au (λ_ _=>rfl))) (iO) (λ_ _ _ _ _=>(bq 0 (show List.Nodup Qd from by decide +kernel) M Q4 (Or.inr M))) (λ_ _ _ _ _=>(bE (qv 0) au (λ_ _=>rfl))) M M (by decide))) (aq (bx kE)) bL))))
  (aq (bx kE))))))
abbrev kC:Stmt:=top 22
def gO:gV ["_law_script", "_law_book_here", "_law_table", "_law_known_here", "_law_groups", "_law_word", "_law_at", "_law_unlike_places", "_law_k", "_law_mark"] Q9 (ah kC):=by constructor<;>first | rfl | decide +kernel
def Fm{m:Me}(F:IA K "law" "law" kC f b)(B:J8 mg)(l:JC K mg C D)(i:InAt P w K mg base 6 (gX K C D) 1 1 "Machine" ["self", "book"] aS)(h:∀m,MpAt P w K mg base 3 ((gX K C D).at m) 1 "table" Qm bY)(d:∀m,FnAt P w K mg base 3 "_law_book" Q9 ((gX K C D).at m) iz)(e:∀m,FnAt P w K mg base 1 "_law_known" ["_law_book_here"] ((gX K C D).at m) ff)(j:∀m,FnAt P w K mg base 1 "_law_stand_right" Qb ((gX K C D).at m) cR)(g:∀m,FnAt P w K mg base 1 "_law_walked" Qc ((gX K C D).at m) fI) :
  FnOk P w K mg base Jh 8 f b Q9 (KY ((gX K C D).at m) Ae):=T2 F gO M M λ_ _ _ _ _ _ a =>
  (af (aE (fB (d _) a (ae (qv 0) ai) (by decide) M M) gO.nd M Q4)
  (af (aE (m8 (h _) a (by decide) (EF i.at a (by decide) (ae (vY B.KW (ae (qv 1) ai)) ai) Gv M M M M) M) gO.nd M Q4)
  (af (aE (fB (e _) a (ae (qv 1) ai) (by decide) M M) gO.nd M Q4)
  (af (iI uC gO.nd M Q4)
  (zv  Yd M (yr B.JK B.Iz (qv 3) M M M M M M) (bq 5 gO.nd M Q4 Q4)
  (af (aE (fB (g _) a (ae (qv 2) (ae (qv 5) ai)) (by decide) M M) gO.nd M Q4)
  (af (cy (zW (qv 6)) (aq (bx kE)) bL)
  (aq (tR gJ 4 (qv 6) (ae (qv 5) ai)  rfl M Q4 M M M M M M M M M M M M M M)))) (λ_=>rfl)
  (af (cy (pd a (Bu B.JK (ae (qv 4) ai)) (yX B.KW B.Jq (ae (eZ B.Iz (ae (qv 2) ai)) ai) M M M M M)) (aq (bx kE)) bL)
  (af (iI Bz gO.nd M Q4)
  (af (ED 4 Yd M M Q4 M M (bq 8 gO.nd M Q4 Q4)
  (af (aE (vD B.L5 (ae (p5 a (qv 3) (bE (vG a (qv 4) (qv 8)) au (λ_ _=>rfl)) (λ_ _=>rfl)) ai)) gO.nd M Q4)
  (af (cy (Ms.OU (uL (DL a (qv 9) (qv 7) (by with_unfolding_all rfl)) (uv (qg (vN (fB (j _) a (ae (qv 2) (ae (qv 3) (ae (qv 8) (ae (vG a (qv 4) (qv 8)) ai)))) (by decide) M M)))))) (aq (bx kE)) bL)
  (aq (FF 7 a (qv 9) kE M Q4 M M (λ_=>rfl) M M M)))) (λ_=>rfl))
  (qy 7 (aq (bx kE)))))))))))
end
abbrev gN(K:X6)(x:Str)(f:KM):Prop:=PySem.W.nsIn K mainGlobals x=Z (Z (.ref f))
abbrev gZ(K:X6)(x:Str):Prop:=PySem.W.nsIn K mainGlobals x=Z Y
def all_mk{l:PySem.W.OpenLaw}{K:X6}(X:K.In h)(G:h.Ns mainGlobals b)(O:b "law" = Z (.ref fa))(Tq:∀ns:V3,Ae [.scr ns]=Z (.fr,.bl true))(a0:Meth K C "new_node" f0)(F0:IA K "new_node" "Nodes.new_node" eA f0 fd0)(a1:Mk K C f1)(F1:IA K "__init__" "Nodes.__init__" eB f1 fd1)(a2:Meth K C "node_just_behind" f2)(F2:IA K "node_just_behind" "Nodes.node_just_behind" cj f2 fd2)(a3:Meth K C "head_behind" f3)(F3:IA K "head_behind" "Nodes.head_behind" dr f3 fd3)(a4:Meth K C "head_grown" f4)(F4:IA K "head_grown" "Nodes.head_grown" dG f4 fd4)(a5:Meth K C "numbers_by_node" f5)(F5:IA K "numbers_by_node" "Nodes.numbers_by_node" cz f5 U)(a6:Meth K C "row_of" f6)(F6:IA K "row_of" "Nodes.row_of" fQ f6 S)(a7:Meth K C "table" f7)(F7:IA K "table" "Nodes.table" gU f7 R)(a8:Meth K D "begin" f8)(F8:IA K "begin" "Machine.begin" fu f8 Q)(a9:gN K "is_whole" f9)(F9:IA K "is_whole" "is_whole" jX f9 P)(a10:gN K "refuse_no_text" x)(F10:IA K "refuse_no_text" "refuse_no_text" d8 x Ue)(a11:gN K "signs_in" u)(F11:IA K "signs_in" "signs_in" jS u Ud)(a12:Meth K D "grow" t)(F12:IA K "grow" "Machine.grow" fU t Uc)(a13:Mk K D Uh)(H:K.lookup Uh=Z ⟨SD,Sy,.func (PySem.W.fnOf "__init__" "Machine.__init__" (cQ bO) (aX bO) (ah bO) (.ref y) S4 Uo Sl Ut QT Up),Sd⟩)(c13:PySem.W.codeIn K QT "Machine.__init__" = true)(N:PySem.W.keepIn K (.ref Uh)=true)(A:K.lookup y=Z PN)(z:PN.data=.seq #[.none] SI)(a14:Meth K D "book" r)(F14:IA K "book" "Machine.book" fZ r Ub)(a15:Meth K D "table" q)(F15:IA K "table" "Machine.table" fj q Ua)(a16:gN K "_law_cell_at" p)(F16:IA K "_law_cell_at" "_law_cell_at" gR p T9)(a17:gN K "_law_mixed" o)(F17:IA K "_law_mixed" "_law_mixed" jt o T8)(a18:gN K "_law_text" n)(F18:IA K "_law_text" "_law_text" jU n T7)(a19:gN K "_law_book" j)(F19:IA K "_law_book" "_law_book" jT j T6)(a20:gN K "_law_known" i)(F20:IA K "_law_known" "_law_known" jh i T5)(a21:gN K "_law_walked" g)(F21:IA K "_law_walked" "_law_walked" iD g T4)(a22:gN K "_law_stand_right" f)(F22:IA K "_law_stand_right" "_law_stand_right" dW f T3)(a23:gN K "law" Ug)(E:K.lookup Ug=Z ⟨SA,Sw,.func (PySem.W.fnOf "law" "law" (cQ kC) (aX kC) (ah kC) .none P5 QP PL Rb OL QR),Sb⟩)(c23:PySem.W.codeIn K OL "law" = true)(L:PySem.W.keepIn K (.ref Ug)=true)(N3:gZ K "bool")(N2:gZ K "dict")(K7:gZ K "enumerate")(Pr:gZ K "int")(Kx:gZ K "isinstance")(Pq:gZ K "len")(N1:gZ K "list")(Pp:gZ K "max")(Po:gZ K "min")(M8:gZ K "range")(Mw:gZ K "sorted")(Pn:gZ K "sum")(M7:gZ K "tuple")(KA:PySem.W.nsIn K mainGlobals "MOST_SIGNS" = Z (Z (.int 120 KG)))(Kz:PySem.W.nsIn K mainGlobals "MOST_TEXTS" = Z (Z (.int 8 KD)))(w_Nodes:gN K "Nodes" C)(Il:JY K C)(Ja:aT K C "longs")(Jb:aT K C "links")(Je:aT K C "ways")(IZ:aT K C "texts")(Jc:aT K C "heads")(I0:aT K C "nodes")(w_Machine:gN K "Machine" D)(xt:JY K D)(IH:aT K D "longs")(II:aT K D "links")(IS:aT K D "ways")(IF:aT K D "texts")(IJ:aT K D "heads")(IG:aT K D "nodes")
  : ∃fd:P3,(∀(s:IR)(v:On),BindsTo s fd ⟨[v],[]⟩ [("_law_script",v)])/\∀base:UV,K.In base->base.Ns mainGlobals b->FnOk l.prog w K b base Jh 8 fa fd Q9 (KY (QF K) BV):=by
 have e:=O.symm.trans (YZ X G a23);cases e;have B:J8 b:=⟨Yj X G N3,Yj X G N2,Yj X G K7,Yj X G Pr,Yj X G Kx,Yj X G Pq,Yj X G N1,Yj X G Pp,Yj X G Po,Yj X G M8,Yj X G Mw,Yj X G Pn,Yj X G M7,⟨_,YZ X G KA⟩,⟨_,YZ X G Kz⟩⟩
 have a:JC K b C D:=⟨Il,YZ X G w_Nodes,Ja,Jb,Je,IZ,Jc,I0,xt,YZ X G w_Machine,IH,II,IS,IF,IJ,IG⟩
 refine⟨PySem.W.fnOf "law" "law" (cQ kC) (aX kC) (ah kC) .none P5 QP PL Rb OL QR,λs v=>.of_eq M,λbase _ _=>?_⟩;have aO:=aO l.prog w base F0 a0 B a;have cp:=cp l.prog w base F1 a1 B a aO;have aR:=aR l.prog w base F2 a2 B a aO;have bI:=bI l.prog w base F3 a3 B a aO aR;have bP:=bP l.prog w base F4 a4 B a bI;have aZ:=λm=>aZ (m:=m) l.prog w base F5 a5 B a;have dc:=λm=>dc (m:=m) l.prog w base F6 a6 B a;have dw:=λm=>dw (m:=m) l.prog w base F7 a7 B a aZ dc;have cK:=cK l.prog w base F8 a8 B a;have gh:=λm=>gh (m:=m) l.prog w base F9 (YZ X G a9) B a;have cw:=λm=>cw (m:=m) l.prog w base F10 (YZ X G a10) B a gh;have fY:=λm=>fY (m:=m) l.prog w base F11 (YZ X G a11) B a;have cU:=cU l.prog w base F12 a12 B a bP cw fY;have bQ:=bQ l.prog w base ⟨⟨_,_,_,_,_,_,_,_,_,_,_,_,rfl,H,c13,A,z⟩,N⟩ a13 B a cK cU cp;have iZ:=λm=>iZ (m:=m) l.prog w base F14 a14 B a;have cJ:=λm=>cJ (m:=m) l.prog w base F15 a15 B a dw;have bF:=λm=>bF (m:=m) l.prog w base F16 (YZ X G a16) B a;have fg:=λm=>fg (m:=m) l.prog w base F17 (YZ X G a17) B a;have gn:=λm=>gn (m:=m) l.prog w base F18 (YZ X G a18) B a bF fg;have gq:=λm=>gq (m:=m) l.prog w base F19 (YZ X G a19) B a bF gn;have eW:=λm=>eW (m:=m) l.prog w base F20 (YZ X G a20) B a;have d3:=λm=>d3 (m:=m) l.prog w base F21 (YZ X G a21) B a;have b6:=λm=>b6 (m:=m) l.prog w base F22 (YZ X G a22) B a;exact B7 M (Fm l.prog w base (m:=λ_=>Y) (yQ (st:=kC) E c23 L) B a bQ cJ gq eW b6 d3) Tq
end T11
open PySem PySem.W PyProof.Rows PySem.W.X PySem.W.ZRun
set_option maxRecDepth 100000 in
set_option maxHeartbeats 0 in
theorem PySem.Challenge.cw_allparts_k11_whole_takes_just_the_parts_holds : PySem.Challenge.rw_allparts_k11_whole_takes_just_the_parts.Holds := by
 w_on;o_law;z_head;(case hw=>w_witness2)
 k_fill
 intro w s₀ s₁ mg mb G y fa o pm cd doc dV kV ho hd hcd hD hmg hg args vals as L hpre hlay hrd hwl hlo
 z_open y L KX ZH ZN ZT
 clear ZH ZN ZT;refine VS.yL (l:=PySem.Challenge.rw_allparts_k11_whole_takes_just_the_parts) (k:=8) (x := "_law_script") (g:=VS.BV) rfl rfl ⟨rfl,by decide,by decide⟩ (fun _=>rfl) ?F w s₀ s₁ mg mb G KX fa o pm cd doc dV kV ho hd hcd hD hmg hg args vals as hpre hlay hrd hwl hlo
 case F =>
  intro w mg fa h KX G hmg;apply T11.all_mk KX G hmg T11.yT
  (case w_Nodes=>unfold T11.gN;k_is)
  (case w_Machine=>unfold T11.gN;k_is)
  all_goals first | (refine' L2.yQ ?l ?c ?k;(case l=>k_is);(case c=>k_is);(case k=>k_is)) | (refine' ⟨?l,?c,?k⟩;(case l=>k_is);(case c=>k_is);(case k=>k_is)) | (refine' ⟨?l,?c,?k,?d⟩;(case l=>k_is);(case c=>k_is);(case k=>k_is);(case d=>k_is)) | (unfold T11.gN;k_is) | (unfold T11.gZ;k_is) | (unfold L2.aT;k_is) | k_is | exact rfl | kernel_rfl
end
