import PyProof.Rows.All
import Wide.All
import OpenK.AllK
import Wide.FinOn
import Lean
import PyProof.EqAt
import PyProof.EqKinds
import PyProof.TupleCall
import PyProof.Rows.SortShellK
import PyProof.Rows.SortStr
import PyProof.Rows.SortWalk
import PyProof.StrBlockH
import PyProof.StrLawsIn
import PyProof.Rows.SetFrom
import PyProof.CollectWalk
import KE.KDictSum
import PyProof.ListStr
import PyProof.SeqI3
import PyProof.Rows.CallKwBuiltin
import PyProof.ListRange
import PyProof.AttrMissSeq
import PyProof.DictUpdate
import PyProof.DictList
import PyProof.ListNew
import PyProof.FactsAll.dict_1
import PyProof.SliceList
import PyProof.WalkInts
import PyProof.StationsW
import OpenK.KOwn
import KE.KTryMore
import PyProof.NsDelKeeps
import PyProof.ExcArgsOwn
import PyProof.ExcAttrAll.Exception
import OpenK.KDescr
import KE.KIsAll
import PyProof.ExcBaseAll.ValueError
import PyProof.StrBlock
import PyProof.StrCalls
import PyProof.StrLawsOccR
import KE.KDictOf
import PyProof.Rows.Range3
import PyProof.Rows.ZipForRows
import PySem.Challenge.RW_allparts_k43_matches_along_links
namespace PySem.W.Fast
def tw16733540104323581520:True:=⟨⟩
def tw5767294799219504593:True:=⟨⟩
def tw17242848341092117404:True:=⟨⟩
def tw14392836685964000634:True:=⟨⟩
def tw18016429231091603580:True:=⟨⟩
def tw16948162343856381322:True:=⟨⟩
def tw17381960981453887785:True:=⟨⟩
def tw4193628086674930769:True:=⟨⟩
def tw7912649793826811197:True:=⟨⟩
def tw8697648028977583639:True:=⟨⟩
def tw3251969310332894811:True:=⟨⟩
def tw3342262184265676166:True:=⟨⟩
def tw6848484336789989975:True:=⟨⟩
def tw13603413895926556522:True:=⟨⟩
def tw6480929248020475290:True:=⟨⟩
def tw2556453960272117328:True:=⟨⟩
def tw2906526542943692134:True:=⟨⟩
def tw3043448066116029348:True:=⟨⟩
def tw17535158512800419953:True:=⟨⟩
def tw16031917262903049857:True:=⟨⟩
def tw4447347549324735877:True:=⟨⟩
def tw9895257482094122014:True:=⟨⟩
def tw8535122607215721460:True:=⟨⟩
def tw3474222971339482289:True:=⟨⟩
def tw9581834169995917921:True:=⟨⟩
def tw925443157654933361:True:=⟨⟩
def tw14060749462895449652:True:=⟨⟩
def tw12675493428650938283:True:=⟨⟩
def tw4968747414678792098:True:=⟨⟩
def tw10797199977699684793:True:=⟨⟩
def tw18005663739442700238:True:=⟨⟩
def tw6036318180831361084:True:=⟨⟩
def tw4212032866119377197:True:=⟨⟩
def tw15821934485655702591:True:=⟨⟩
def tw10406652196555021130:True:=⟨⟩
def tw13088339264765633496:True:=⟨⟩
def tw13357217936771481166:True:=⟨⟩
def tw12540323571120512200:True:=⟨⟩
def tw17572827247524039615:True:=⟨⟩
def tw4712460982217013127:True:=⟨⟩
end PySem.W.Fast
open Option renaming some->Z, none->L
open Bool renaming true->B, false->R
theorem Y.{u}{α:Sort u}{a:α}:a=a:=rfl
open PySem renaming Shared->IR, model->KB, sizeLine->KF, Addr->KM, Value->On, wpAny->PP, starEach->Pv, FuncData->P3, Program->Re, Around->SB, keywordEach->SC, compareOp->SL, Heap->SZ, World->UF, attributeBase->UV, foldedSetIterable->XAA
open PyProof.Rows renaming Keyed->Pi
set_option linter.all false
set_option maxRecDepth 100000
set_option Elab.async false
set_option maxHeartbeats 4000000
abbrev Z5:=PySem.Value->PySem.Shared->Prop
abbrev Xo:=List (PySem.Addr×PySem.Obj)
abbrev Xl:=List (List PySem.Addr)
abbrev Xk:=PySem.W.Frag
abbrev Xg:=PySem.Str->Option PySem.Value
abbrev Xa:=List PySem.Addr
abbrev X3:=List PySem.Value
abbrev Wr:=Option PySem.Value
abbrev Wq:=List Nat
abbrev Wp:=List Int
abbrev Wm:=List (List (List Nat))
abbrev Zq:=@if_pos
abbrev Zn:=@if_neg
abbrev Za:=@decide_eq_false
abbrev ZK:=@beq_eq_false_iff_ne
open Option renaming bind_eq_some_iff->Zz,map_eq_some_iff->Zy,bind_some->Zx,isSome_iff_exists->Yj,isSome_map->Ye,getD_some->YX
open List renaming mem_cons_of_mem->Zw,mem_cons_self->Zv,length_map->Zu,length_append->Zt,getD_eq_getElem?_getD->Zs,getElem?_eq_getElem->Zr,mem_cons->Zp,map_cons->Zo,length_cons->Zi,mem_singleton->Zh,nodup_cons->Zg,getElem?_eq_some_iff->Zf,mem_append->Zd,size_toArray->ZZ,zip_cons_cons->ZY,flatten_cons->ZW,append_nil->ZV,nodup_append->ZR,mem_append_right->ZQ,length_singleton->ZP,getElem?_map->ZO,length_range->ZI,append_assoc->ZG,map_append->ZF,mem_append_left->ZD,suffix_refl->ZC,getElem?_append_left->Z0,getElem?_eq_none->Z3,flatten_append->Z4,map_map->Z6,length_zip->Z7,length_set->Z8,find?_cons->Z9,nodup_nil->Yz,getElem_mem->Yy,getElem?_append_right->Yx,sublist_cons_self->Yw,lookup_cons->Yu,all_eq_true->Yt,getElem?_set_ne->Yr,getElem?_eq_none_iff->Yp,length_take->Ym,not_mem_nil->Yk,mem_map->Yg,any_cons->Yf,getElem?_replicate->Yc,length_drop->YW,sublist_append_right->YT,getElem?_zip_eq_some->YS,suffix_nil->YR,foldl_cons->YQ,mem_of_getElem?->YO,getD_cons_succ->YN,mem_range->YL,any_eq_true->YK,drop_of_length_le->YI,nil_suffix->YH,nil_append->YG,sum_cons->YD,length_replicate->YC,replicate_succ->Y2,all_cons->Y3,mem_filter->Y4,take_of_length_le->Y9,getElem?_set_self->Xz,length_filter_le->Xr,cons_lt_cons_iff->Xq,length_range'->Xi,isSuffixOf_iff_suffix->Xh,idxOf_lt_length_iff->Xb,length_eq_zero_iff->XZ,cons_append->XY,map_set->XS,set_getElem_self->XJ,cons_prefix_cons->XI,map_congr_left->XF,filterMap_cons->XE,pairwise_cons->X0,findIdx?_cons->X1,pairwise_map->X6,mem_range'_1->X7,map_nil->X8,getElem?_set->X9,all_map->Wz,take_prefix->Wv,mem_flatten->Wu,map_fst_zip->Wt
open Option.some renaming inj->Zm
open PySem renaming wpAny_bind->Zl,wpAny_pure->ZS,wpAny_truthy_bool->YY,wpAny_mono->YJ,wpAny_passesOwn->YB,mem_of_lookup->Y1,wpAny_holding->Y6,wpAny_Call_Name_kw->Xv,tupleKind_room_in1->Xu,sizeLine_eq->Xs,wpAny_typeNameOfWhole_keyiter->Xm,wpAny_newObj_type->XQ,wpAny_call_entry->XH,wpAny_execs_nil->XC
open PySem.Heap renaming get?_push_of_some->Zk,lt_size->ZX,get?_push_size->ZU,get?_update_other->XD,size_push->Wy
open Nat renaming le_refl->Zj,ne_of_lt->Zb,le_of_not_lt->ZM,lt_of_lt_of_le->ZL,le_trans->ZJ,lt_succ_self->Yv,zero_le->Ys,le_add_right->Yq,lt_irrefl->Yh,lt_succ_of_lt->Yd,min_eq_left->Yb,lt_of_succ_lt_succ->YZ,pos_of_ne_zero->YV,succ_le_succ->YM,le_of_lt->Y8,le_of_not_le->Xp,le_of_eq->Xn,add_sub_cancel->Xj,le_succ->Xe,zero_add->XU,ne_of_gt->XT,not_lt_zero->XO,lt_of_le_of_lt->XA,lt_trans->X4,le_succ_of_le->X5,min_eq_right->Ww
open Bool renaming and_eq_true->Ze,false_ne_true->Zc,eq_iff_iff->YE,false_eq_true->X2
open PySem.W renaming mg_of->ZA,mg_none_of->Z2,kia_one->Yn,plainGet_of->XG,callWith_K->XB
open PySem.PassesOwn renaming never->Z1
open Array renaming getElem?_toList->Yo,length_toList->Ya
open PyProof.Rows renaming callWith_type1->Yl
open Ne renaming symm->Yi
open Int renaming emod_lt_of_pos->YU,emod_nonneg->YF,toNat_natCast->Xw
open PySem.F renaming slot_dict_keyiterator_next->Y0,plainAttrs_list->Y5,type_list_append->Xd,slot_list_append->Xc,plainAttrs_str->XW,slot_tuple_getattribute->XR,slot_dict_get->XM
open PySem.Paired renaming length->Y7
open List.Sublist renaming refl->Xy
open Prod.mk renaming inj->Xf
open PySem.StrLaws renaming subAt_eq->XX
open PySem.Around renaming under_plainId->Wx
section
namespace L2
def jy{G:Prop}(h:∀P:Prop,(G->P)->P):G:=h G id
end L2
namespace VS
abbrev Tx:=Wq
inductive T where
 |non | bl (b:Bool) | int (i:Int) | str (s:Tx) | scr (ns:Wp)
 |tup (l:List T) | lst (l:List T) | dct (kd:Nat) (l:List (T×T)) | obj (c:Nat) (fs:List (Nat×T))
 deriving Inhabited
abbrev Wh:=List T
def eO:Nat:=16777216
mutual
def GQ:T->Bool
 |.lst _=>R
 |.dct _ _=>R
 |.obj _ _=>R
 |.tup l=>eQ l
 |_=>B
@[simp] def eQ:Wh->Bool
 |[]=>B
 |t :: r=>GQ t&&eQ r
end
mutual
@[simp] def eqT:T->T->Bool
 |.non,.non=>B
 |.bl a,.bl b=>a==b
 |.bl a,.int i=>(if a then 1 else 0)==i
 |.int i,.bl a=>i==(if a then 1 else 0)
 |.int i,.int j=>i==j
 |.str s,.str t=>s==t
 |.tup a,.tup b=>uf a b
 |.lst a,.lst b=>uf a b
 |_,_=>R
def uf:Wh->Wh->Bool
 |[],[]=>B
 |a :: d,b :: bs=>eqT a b&&uf d bs
 |_,_=>R
end
@[simp] def HL:Nat->T->Bool
 |_,.non=>B
 |_,.bl _=>B
 |_,.int _=>B
 |_,.str _=>B
 |n+1,.tup l=>l.all (HL n)
 |n+1,.lst l=>l.all (HL n)
 |_,_=>R
inductive Md where | fr | pu | bo
 deriving DecidableEq,Inhabited
@[simp] def Md.join:Md->Md->Md
 |.bo,_=>.bo
 |_,.bo=>.bo
 |.pu,_=>.pu
 |_,.pu=>.pu
 |.fr,.fr=>.fr
inductive Cell where | pu (t:T) | ow (t:T)
 deriving Inhabited
abbrev Wk:=Option Cell
abbrev Env:=List (Wk)
abbrev Val:=Md×T
abbrev Wi:=Option Val
abbrev Wj:=List Val
abbrev Ex:=Env->Wi
abbrev Hf:=Env->Option (Wj)
@[simp] def up(m:Md)(t:T):Val:=(if GQ t then .fr else m,t)
def oJ:T->Bool
 |.lst _=>B
 |.dct _ _=>B
 |.obj _ _=>B
 |_=>R
@[simp] def cellOf:Val->Wk
 | (.fr,t)=>Z (if oJ t then .ow t else .pu t)
 | (.pu,t)=>Z (.pu t)
 | (.bo,_)=>L
inductive Out where | nx (U:Env) | rt (v:Val) (U:Env) | bk (U:Env) | ct (U:Env)
abbrev Sx:=Env->Option Out
@[simp] def eC(t:T)(_:Env):Wi:=Z (.fr,t)
abbrev Q2(i:Int):Ex:=eC (.int i)
@[simp] def aa(i:Nat)(U:Env):Wi:=match U[i]? with
 |some (some (.pu t))=>Z (up .pu t)
 |some (some (.ow t))=>Z (.bo,t)
 |_=>L
@[simp] def e1(f:Val->Wi)(a:Ex)(U:Env):Wi:=(a U).bind f
@[simp] def e2(f:Val->Val->Wi)(a b:Ex)(U:Env):Wi:=(a U).bind λx=>(b U).bind λy=>f x y
@[simp] def ag(_:Env):Option (Wj):=Z []
@[simp] def ab(a:Ex)(r:Hf)(U:Env):Option (Wj):=(a U).bind λx=>(r U).bind λxs=>Z (x :: xs)
@[simp] def eN(f:Wj->Wi)(a:Hf)(U:Env):Wi:=(a U).bind f
@[simp] def cJ:Wj->Md
 |[]=>.fr
 |v :: r=>v.1.join (cJ r)
@[simp] def trees(l:Wj):Wh:=l.map (·.2)
def JR(m:Md)(l:Wh):Wi:=if l.length<=eO then Z (if eQ l then .fr else m,.lst l) else L
@[simp] def dm(a:Hf)(U:Env):Wi:=(a U).bind λl=>JR (cJ l) (trees l)
def rh(l:Wj):Wi:=if l.length<=eO then Z (up (cJ l) (.tup (trees l))) else L
@[simp] def ka(a:Hf)(U:Env):Wi:=(a U).bind rh
def dput(l:List (T×T))(k v:T):List (T×T):=if l.any (λp=>eqT p.1 k) then l.map (λp=>if eqT p.1 k then (p.1,v) else p) else l++[(k,v)]
def iG:T->Bool
 |.int _=>B
 |.str _=>B
 |_=>R
def keyOk:Nat->T->Bool
 |0,t=>iG t
 |1,.tup l=>l.all iG
 |_,_=>R
def pairs:List (Ex×Ex)->Env->Option (List (Val×Val))
 |[],_=>Z []
 | (a,b) :: r,U=>(a U).bind λx=>(b U).bind λy=>(pairs r U).map ((x,y) :: ·)
def rn(a:Nat)(b:List (Ex×Ex))(U:Env):Wi:=(pairs b U).bind λl=>if l.all (λp=>keyOk a p.1.2)/\l.length<=15 then
 Z (cJ (l.map (·.2)),.dct a (l.foldl (λd p=>dput d p.1.2 p.2.2) [])) else L
def Lj:T->Option Bool
 |.bl b=>Z b
 |.int i=>Z (i != 0)
 |.str s=>Z (!s.isEmpty)
 |.lst l=>Z (!l.isEmpty)
 |.tup l=>Z (!l.isEmpty)
 |.dct 0 l=>Z (!l.isEmpty)
 |.non=>Z R
 |_=>L
@[simp] def jG(a b:Ex)(U:Env):Wi:=(a U).bind λx=>match x.2 with
 |.bl true=>b U
 |.bl false=>Z (.fr,.bl R)
 |_=>L
@[simp] def KD(a b:Ex)(U:Env):Wi:=(a U).bind λx=>match x.2 with
 |.bl true=>Z (.fr,.bl B)
 |.bl false=>b U
 |_=>L
@[simp] def oF(a:Ex)(U:Env):Wi:=(a U).bind λx=>match x.2 with
 |.bl b=>Z (.fr,.bl (!b))
 |_=>L
def MH:T->Bool
 |.non=>B
 |_=>R
@[simp] def BF(a:Ex)(U:Env):Wi:=(a U).bind λx=>Z (.fr,.bl (MH x.2))
@[simp] def eK(a:Ex)(U:Env):Wi:=(a U).bind λx=>Z (.fr,.bl (!MH x.2))
@[simp] def eY(f g:Val->Val->Wi)(a b c:Ex)(U:Env):Wi:=(a U).bind λx=>(b U).bind λy=>(f x y).bind λr=>match r.2 with
 |.bl true=>(c U).bind λz=>g y z
 |.bl false=>Z (.fr,.bl R)
 |_=>L
@[simp] def int?:T->Option Int
 |.int i=>Z i
 |_=>L
def aW:Val->Val->Wi
 | (_,.int i),(_,.int j)=>Z (.fr,.int (i+j))
 | (_,.str s),(_,.str t)=>if s.length+t.length<=eO then Z (.fr,.str (s++t)) else L
 | (m,.lst s),(n,.lst t)=>JR (m.join n) (s++t)
 |_,_=>L
@[simp] def lB:Val->Val->Wi
 | (_,.int i),(_,.int j)=>Z (.fr,.int (i-j))
 |_,_=>L
def Kf:Int:=4611686018427387904
def OZ:Int:=18446744073709551616
def gE:Val->Val->Wi
 | (_,.int i),(_,.int j)=>if (-OZ<i/\i<OZ)\/(-OZ<j/\j<OZ) then Z (.fr,.int (i*j)) else L
 |_,_=>L
def vk:Val->Val->Wi
 | (_,.str s),(_,.int j)=>if s.length*j.toNat<=eO/\-Kf<=j/\j<Kf then Z (.fr,.str (List.replicate j.toNat s).flatten) else L
 |_,_=>L
def jz:Val->Val->Wi
 | (_,.int i),(_,.int j)=>if 0<j/\j<1073741824 then Z (.fr,.int (i/j)) else L
 |_,_=>L
def oMod:Val->Val->Wi
 | (_,.int i),(_,.int j)=>if 0<j then Z (.fr,.int (i%j)) else L
 |_,_=>L
def Kt:Tx->Tx->Bool
 |[],[]=>R
 |[],_ :: _=>B
 |_ :: _,[]=>R
 |a :: d,b :: bs=>if a<b then B else if b<a then R else Kt d bs
@[simp] def oLt:Val->Val->Wi
 | (_,.int i),(_,.int j)=>Z (.fr,.bl (decide (i<j)))
 | (_,.str s),(_,.str t)=>Z (.fr,.bl (Kt s t))
 |_,_=>L
@[simp] def oLe:Val->Val->Wi
 | (_,.int i),(_,.int j)=>Z (.fr,.bl (decide (i<=j)))
 | (_,.str s),(_,.str t)=>Z (.fr,.bl (!Kt t s))
 |_,_=>L
@[simp] def Jx(a b:Val):Wi:=oLt b a
@[simp] def Nm(a b:Val):Wi:=oLe b a
@[simp] def oEq(a b:Val):Wi:=if HL 60 a.2/\HL 60 b.2 then Z (.fr,.bl (eqT a.2 b.2)) else L
@[simp] def JM(a b:Val):Wi:=if HL 60 a.2/\HL 60 b.2 then Z (.fr,.bl (!eqT a.2 b.2)) else L
def fD(l:List (T×T))(k:T):Option T:=(l.find? λp=>eqT p.1 k).map (·.2)
def HJ(n:Nat)(i:Int):Option Nat:=if 0<=i then (if i<n then Z i.toNat else L) else (if 0<=i+n then Z (i+n).toNat else L)
@[simp] def sub(m:Md)(t:T):Val:=up m t
@[simp] def aB:Val->Val->Wi
 | (m,.lst l),(_,.int i)=>(HJ l.length i).bind λk=>(l[k]?).map (sub m)
 | (m,.tup l),(_,.int i)=>(HJ l.length i).bind λk=>(l[k]?).map (sub m)
 | (_,.scr l),(_,.int i)=>(HJ l.length i).bind λk=>(l[k]?).map λn=>(.fr,.int n)
 | (_,.str l),(_,.int i)=>(HJ l.length i).bind λk=>(l[k]?).map λn=>(.fr,.str [n])
 |_,_=>L
def clip(n:Nat)(i:Int):Nat:=if i<0 then (i+n).toNat else min i.toNat n
def cut{α:Type}(l:List α)(a b:Option Int):List α :=
 let lo:=match a with | none=>0 | some i=>clip l.length i
 let d:=match b with | none=>l.length | some i=>clip l.length i
 (l.drop lo).take (d-lo)
@[simp] def SH(v:Val)(a b:Option Int):Wi:=match v with
 | (_,.str s)=>Z (.fr,.str (cut s a b))
 | (m,.lst l)=>JR m (cut l a b)
 |_=>L
@[simp] def o7(c:Option Ex)(U:Env):Option (Option Int):=match c with
 |none=>Z L
 |some e=>(e U).bind λy=>(int? y.2).map Z
@[simp] def Kc(a:Ex)(b d:Option Ex)(U:Env):Wi:=(a U).bind λx=>(o7 b U).bind λl=>(o7 d U).bind λh=>SH x l h
def Gy:T->Option Nat
 |.lst l=>Z l.length
 |.tup l=>Z l.length
 |.str l=>Z l.length
 |.scr l=>Z l.length
 |.dct 0 l=>Z l.length
 |_=>L
@[simp] def bP:Wj->Wi
 |[x]=>(Gy x.2).map λn=>(.fr,.int n)
 |_=>L
@[simp] def qV:Wj->Wi
 |[(_,.int i),(_,.int j)]=>Z (.fr,.int (if j<i then j else i))
 |_=>L
def lW:Wh->Option (Wp)
 |[]=>Z []
 |.int i :: r=>(lW r).map (i :: ·)
 |_=>L
def strs?:Wh->Option (List Tx)
 |[]=>Z []
 |.str i :: r=>(strs? r).map (i :: ·)
 |_=>L
def wA:Wj->Wi
 |[(_,.lst l)]=>(lW l).bind λa=>Z (.fr,.int a.sum)
 |_=>L
@[simp] def B7:Wj->Wi
 |[(m,.lst l)]=>JR m l
 |[(m,.tup l)]=>JR m l
 |_=>L
def ku:Wj->Wi
 |[(m,.lst l)]=>if l.length<=eO then Z (up m (.tup l)) else L
 |_=>L
def nQ(x:Tx):List Tx->List Tx
 |[]=>[x]
 |y :: r=>if Kt y x then y :: nQ x r else x :: y :: r
def eR(l:List Tx):List Tx:=l.foldr nQ []
inductive Ty where | int | str | bool | list | tuple | dict
@[simp] def qP:Ty->T->Bool
 |.int,.int _=>B
 |.int,.bl _=>B
 |.bool,.bl _=>B
 |.str,.str _=>B
 |.list,.lst _=>B
 |.tuple,.tup _=>B
 |.dict,.dct _ _=>B
 |_,_=>R
@[simp] def uU:T->Bool
 |.obj _ _=>R
 |.scr _=>R
 |.dct 0 _=>B
 |.dct 1 _=>B
 |.dct _ _=>R
 |_=>B
@[simp] def OG(t:Ty)(a:Ex)(U:Env):Wi:=(a U).bind λx=>if uU x.2 then Z (.fr,.bl (qP t x.2)) else L
def total:List Tx->Nat
 |[]=>0
 |x :: r=>x.length+total r
def dz(a:Tx):List Tx->Tx
 |[]=>[]
 |[x]=>x
 |x :: r=>x++a++dz a r
def jv:Val->Wj->Wi
 | (_,.str sep),[(_,.lst l)]=>(strs? l).bind λa=>if total a+a.length*sep.length<=eO then Z (.fr,.str (dz sep a)) else L
 |_,_=>L
def pb:Val->Wj->Wi
 | (_,.str s),[(_,.str t)]=>Z (.fr,.bl (t.isSuffixOf s))
 |_,_=>L
@[simp] def eM(f:Val->Wj->Wi)(o:Ex)(b:Hf)(U:Env):Wi:=(o U).bind λx=>(b U).bind λa=>f x a
abbrev Fn:=Wh->Wi
@[simp] def bB(g:Fn)(b:Hf)(U:Env):Wi:=(b U).bind λa=>(g (trees a)).bind λr=>match r with
 | (.fr,t)=>Z (.fr,t)
 | (_,t)=>Z ((Md.pu).join (cJ a),t)
abbrev JI:=Env->Option (Md×Wh)
def Cz:Val->Option (Md×Wh)
 | (m,.lst l)=>Z (m,l)
 | (m,.tup l)=>Z (m,l)
 | (_,.str l)=>Z (.fr,l.map λc=>.str [c])
 |_=>L
@[simp] def gj(a:Ex)(U:Env):Option (Md×Wh):=(a U).bind Cz
def rng(a:Int)(n:Nat):Wh:=(List.range n).map λ(k:Nat)=>T.int (a+k)
def cP(a:Ex)(U:Env):Option (Md×Wh):=(a U).bind λx=>(int? x.2).bind λj=>if -Kf<=j/\j<Kf then Z (.fr,rng 0 j.toNat) else L
def js(a b:Ex)(U:Env):Option (Md×Wh):=(a U).bind λx=>(b U).bind λy=>(int? x.2).bind λi=>(int? y.2).bind λj =>
 if (-Kf<=i/\i<Kf)/\-Kf<=j/\j<Kf then Z (.fr,rng i (j-i).toNat) else L
def iB(k:Nat):Wh->Wh
 |[]=>[]
 |t :: r=>.tup [.int k,t] :: iB (k+1) r
def EG:Val->Option (Md×Wh)
 | (m,.lst l)=>Z (m,iB 0 l)
 |_=>L
@[simp] def yf(a:Ex)(U:Env):Option (Md×Wh):=(a U).bind EG
abbrev Tg:=T->Env->Option Env
@[simp] def ba(i:Nat)(t:T)(U:Env):Option Env:=if i<U.length then Z (U.set i (Z (.pu t))) else L
def oi:List Tg->Wh->Env->Option Env
 |[],[],U=>Z U
 |g :: b,t :: a,U=>(g t U).bind λd=>oi b a d
 |_,_,_=>L
@[simp] def oA(a:List Tg)(t:T)(U:Env):Option Env:=match t with
 |.tup l=>oi a l U
 |_=>L
@[simp] def Qt(m:Md)(l:Wh):Bool:=match m with
 |.bo=>eQ l
 |_=>B
def jA(e:Tg)(a:Option Ex)(d:Ex)(U:Env):Wh->Option (Wj)
 |[]=>Z []
 |t :: r=>(e t U).bind λf=>(match a with | none=>some true | some c=>(c f).bind λx=>Lj x.2).bind λb =>
  if b then (d f).bind λv=>(jA e a d U r).map (v :: ·) else jA e a d U r
def du(k:Nat)(tg:Tg)(e:JI)(a:Option Ex)(b:Ex)(U:Env):Wi:=(e U).bind λ(m,l)=>if Qt m l then
 (jA tg a b (List.replicate k L++U) l).bind λd=>JR (cJ d) (trees d) else L
@[simp] def dF(U:Env):Option Out:=Z (.nx U)
@[simp] def ak(a b:Sx)(U:Env):Option Out:=(a U).bind λo=>match o with
 |.nx d=>b d
 |o=>Z o
@[simp] def kT(i:Nat)(e:Ex)(U:Env):Option Out:=(e U).bind λv=>(cellOf v).bind λc=>if i<U.length then Z (.nx (U.set i (Z c))) else L
@[simp] def aP(i:Nat)(e:Ex)(U:Env):Option Out:=(e U).bind λv=>match v.1 with
 |.bo=>L
 |_=>if i<U.length then Z (.nx (U.set i (Z (.pu v.2)))) else L
@[simp] def eW(e:Ex)(U:Env):Option Out:=(e U).bind λv=>Z (.rt (match v.1 with | .bo=>.pu | m=>m,v.2) U)
@[simp] def fC(i:Nat)(U:Env):Option Out:=match U[i]? with
 |some (some (.ow t))=>Z (.rt (.fr,t) (U.set i L))
 |some (some (.pu t))=>Z (.rt (up .pu t) U)
 |_=>L
@[simp] def HH(c:Ex)(a b:Sx)(U:Env):Option Out:=(c U).bind λx=>(Lj x.2).bind λt=>if t then a U else b U
def forL(d:Tg)(a:Sx):Wh->Env->Option Out
 |[],U=>Z (.nx U)
 |t :: r,U=>(d t U).bind λe=>(a e).bind λo=>match o with
  |.nx b=>forL d a r b
  |.ct b=>forL d a r b
  |.bk b=>Z (.nx b)
  |.rt v b=>Z (.rt v b)
@[simp] def SF:Md->Bool
 |.bo=>R
 |_=>B
@[simp] def fZ(b:Tg)(d:JI)(a:Sx)(U:Env):Option Out:=(d U).bind λ(m,l)=>if SF m then forL b a l U else L
def dY(c:Ex)(a:Sx):Nat->Env->Option Out
 |0,_=>L
 |n+1,U=>(c U).bind λx=>(Lj x.2).bind λt=>if t then (a U).bind λo=>match o with
  |.nx b=>dY c a n b
  |.ct b=>dY c a n b
  |.bk b=>Z (.nx b)
  |.rt v b=>Z (.rt v b)
  else Z (.nx U)
def vO:Nat:=1000000
def lD(c:Ex)(a:Sx)(U:Env):Option Out:=dY c a vO U
@[simp] def vE(i:Nat)(U:Env):Option Out:=match U[i]? with
 |some (some (.ow t))=>Z (.nx (U.set i (Z (.pu t))))
 |some (some (.pu _))=>Z (.nx U)
 |_=>L
inductive Jm where | fld (k:Nat) | ix (e:Ex) | un
inductive Ky where | fld (k:Nat) | at (t:T) | un
def keys:List Jm->Env->Option (List Ky)
 |[],_=>Z []
 |.fld k :: r,U=>(keys r U).map (.fld k :: ·)
 |.ix e :: r,U=>(e U).bind λx=>(keys r U).map (.at x.2 :: ·)
 |.un :: r,U=>(keys r U).map (.un :: ·)
def Gi(a:List (Nat×T))(k:Nat):Option T:=a.lookup k
def Gh(a:List (Nat×T))(k:Nat)(v:T):List (Nat×T):=if a.any (λp=>p.1==k) then a.map (λp=>if p.1==k then (p.1,v) else p) else a++[(k,v)]
noncomputable def AH{α:Type}(f:T->Option (T×α)):List Ky->T->Option (T×α)
 |[],t=>f t
 |.fld k :: r,.obj c fs=>(Gi fs k).bind λx=>(AH f r x).map λ(y,a)=>(.obj c (Gh fs k y),a)
 |.at (.int i) :: r,.lst l=>(HJ l.length i).bind λj=>(l[j]?).bind λx=>(AH f r x).map λ(y,a)=>(.lst (l.set j y),a)
 |.at k :: r,.dct d l=>(fD l k).bind λx=>(AH f r x).map λ(y,a)=>(.dct d (dput l k y),a)
 |_,_=>L
abbrev Xx:=Env->Option (Val×Env)
@[simp] def xP(e:Ex)(U:Env):Option (Val×Env):=(e U).map λv=>(v,U)
@[simp] noncomputable def kY(i:Nat)(a:List Jm)(f:T->Wj->Option (T×Val))(g:Hf)(U:Env):Option (Val×Env):=match U[i]? with
 |some (some (.ow t))=>(keys a U).bind λe=>(g U).bind λb=>(AH (λx=>f x b) e t).map λ(d,v)=>(v,U.set i (Z (.ow d)))
 |_=>L
@[simp] def fit(v:Val):Option T:=match v.1 with
 |.fr=>Z v.2
 |_=>L
def aF:T->Wj->Option (T×Val)
 |.lst l,[v]=>(fit v).bind λt=>if l.length<eO then Z (.lst (l++[t]),(.fr,.non)) else L
 |_,_=>L
def ed:T->Wj->Option (T×Val)
 |.lst l,[v]=>(fit v).bind λt=>match t with
  |.lst r=>if l.length+r.length<=eO then Z (.lst (l++r),(.fr,.non)) else L
  |_=>L
 |_,_=>L
@[simp] def sX(x:Xx)(U:Env):Option Out:=(x U).map λr=>.nx r.2
@[simp] def fn(d e:Nat)(a:Sx):Fn:=λb=>if b.length=d then
 (a (b.map (λt=>Z (.pu t))++List.replicate (e-d) L)).bind λo=>match o with
  |.rt v _=>Z v
  |.nx _=>Z (.fr,.non)
  |_=>L else L
def iV{m n:Md}{s t:Tx}(h:s.length+t.length<=16777216):aW (m,.str s) (n,.str t)=Z (.fr,.str (s++t)):=Zq h
def jT{m n:Md}{i j:Int}(h:-18446744073709551616<i/\i<18446744073709551616):gE (m,.int i) (n,.int j)=Z (.fr,.int (i*j)):=Zq (.inl h)
def kh{m n:Md}{i j:Int}(h:0<j/\j<1073741824):jz (m,.int i) (n,.int j)=Z (.fr,.int (i/j)):=Zq h
def fR{m n:Md}{i j:Int}(h:0<j):oMod (m,.int i) (n,.int j)=Z (.fr,.int (i%j)):=Zq h
def eT{l:Wh}{t:T}(h:l.length<16777216):aF (.lst l) [(.fr,t)]=Z (.lst (l++[t]),(.fr,.non)):=by
 simp only[aF,fit,Zx];exact Zq h
def ug{l r:Wh}(h:l.length+r.length<=16777216):ed (.lst l) [(.fr,.lst r)]=Z (.lst (l++r),(.fr,.non)):=by
 simp only[ed,fit,Zx];exact Zq h
def gx{a:Ex}{U:Env}{m:Md}{j:Int}(e:a U=Z (m,.int j))(h:-4611686018427387904<=j/\j<4611686018427387904):cP a U=Z (.fr,rng 0 j.toNat):=by
 simp only[cP,e,Zx,int?];exact Zq h
def ub{m:Md}{l:Wh}(h:l.length<=16777216):JR m l=Z (if eQ l then .fr else m,.lst l):=Zq h
def gL{b:Tg}{a:Sx}{t:T}{r:Wh}{U U1 d:Env}(f:b t U=Z U1)(e:a U1=Z (.nx d)):forL b a (t :: r) U=forL b a r d:=by
 simp[forL,f,e]
def Bw{b:Tg}{a:Sx}{t:T}{r:Wh}{U e d:Env}{v:Val}(g:b t U=Z e)(f:a e=Z (.rt v d)):forL b a (t :: r) U=Z (.rt v d):=by
 simp[forL,g,f]
theorem strs_map{α:Type}(f:α->Tx):∀l:List α,strs? (l.map λx=>T.str (f x))=Z (l.map f)
 |[]=>rfl
 |a :: r=>by simp[strs?,strs_map f r]
theorem ints_map{α:Type}(f:α->Int):∀l:List α,lW (l.map λx=>T.int (f x))=Z (l.map f)
 |[]=>rfl
 |a :: r=>by simp[lW,ints_map f r]
theorem nU:∀a:List Tx,dz [] a=a.flatten
 |[]=>rfl
 |[x]=>by simp[dz]
 |x :: y :: r=>by
  have:=nU (y :: r);simp[dz]at this ⊢;exact this
theorem mQ:∀a:List Tx,total a=a.flatten.length
 |[]=>rfl
 |x :: r=>by simp[total,mQ r]
def oH{m n:Md}{l:Wh}{a:List Tx}(e:strs? l=Z a)(b:a.flatten.length<=16777216):jv (m,.str []) [(n,.lst l)]=Z (.fr,.str a.flatten):=by
 simp only[jv,Zx,e,nU];refine Zq ?_;rw[mQ];show _<=16777216;simpa using b
def fO{α:Type}(l:List α):(l.map λx=>[x]).flatten=l:=by
 induction l with
 |nil=>rfl
 |cons a r b=>rw[Zo,ZW,b];rfl
def i5(n:Nat):rng 0 n=(List.range n).map λ(k:Nat)=>T.int (k:Int):=by
 unfold rng;simp
theorem iQ{α:Type}(f:α->T)(h:∀x,GQ (f x)=B):∀l:List α,eQ (l.map f)=B
 |[]=>rfl
 |a :: r=>by simp[h,iQ f h r]
theorem pA{α:Type}{i:Tg}{d:Ex}{U:Env}(g:α->T)(f:α->Val):∀l:List α,(∀a∈l,∃e,i (g a) U=Z e/\d e=Z (f a))->jA i L d U (l.map g)=Z (l.map f)
 |[],_=>rfl
 |a :: r,h=>by
  obtain⟨e,m,j⟩:=h a Zv;simp[jA,m,j,pA g f r λb hb=>h b (Zw _ hb)]
theorem kL{α:Type}{j:Tg}{c d:Ex}{U:Env}(g:α->T)(p:α->Bool)(f:α->Val):∀l:List α,(∀a∈l,∃i x,j (g a) U=Z i/\c i=Z x/\Lj x.2=Z (p a)/\(p a=B->d i=Z (f a))) →
  jA j (Z c) d U (l.map g)=Z ((l.filter p).map f)
 |[],_=>rfl
 |a :: r,h=>by
  obtain⟨i,x,q,o,n,s⟩:=h a Zv;have m:=kL (c:=c) g p f r λb hb=>h b (Zw _ hb);cases e:p a with
  |true=>simp[-Lj,jA,q,o,n,e,s e,m]
  |false=>simp[-Lj,jA,q,o,n,e,m]
theorem mR{α:Type}(f:α->T):∀l:List α,cJ (l.map λa=>(Md.fr,f a))=.fr
 |[]=>rfl
 |a :: r=>by simp[mR f r]
def oX{α:Type}(f:α->Val)(l:List α):trees (l.map f)=l.map λa=>(f a).2:=by simp
def fY{α:Type}{k:Nat}{tg:Tg}{it:JI}{elt:Ex}{U:Env}{m:Md}(g:α->T)(f:α->T)(l:List α)(i:it U=Z (m,l.map g))(e:Qt m (l.map g)=B)(d:l.length<=16777216)(h:∀a∈l,∃b,tg (g a) (List.replicate k L++U)=Z b/\elt b=Z (.fr,f a)):du k tg it L elt U=Z (.fr,.lst (l.map f)):=by
 simp only[du,i,Zx];rw[Zq e,pA g (λa=>(Md.fr,f a)) l h];simp only[Zx,mR,oX];rw[ub (by rw[Zu];exact d)];simp
def kf{α:Type}{k:Nat}{tg:Tg}{it:JI}{c elt:Ex}{U:Env}{m:Md}(g:α->T)(p:α->Bool)(f:α->T)(l:List α)(i:it U=Z (m,l.map g))(e:Qt m (l.map g)=B)(d:l.length<=16777216)(h:∀a∈l,∃b x,tg (g a) (List.replicate k L++U)=Z b/\c b=Z x/\Lj x.2=Z (p a)/\(p a=B->elt b=Z (.fr,f a))):du k tg it (Z c) elt U=Z (.fr,.lst ((l.filter p).map f)):=by
 simp only[du,i,Zx];rw[Zq e,kL g p (λa=>(Md.fr,f a)) l h];simp only[Zx,mR,oX];rw[ub (by rw[Zu];exact ZJ (Xr _ _) d)];simp
end VS
end
section
namespace L2
open PySem PySem.Spec PyProof.Rows
abbrev Key:=Sum Int Str
def lL:Key->On->Bool
 |.inl k,v=>Value.isInt k v
 |.inr x,v=>Value.isStrOf x v
def Ey(w:UF):Key->Int
 |.inl k=>hashInt k
 |.inr x=>hashStr w x
theorem bW:∀{k:Key}{v:On},lL k v=B->(∃i t,k=Sum.inl i/\v=Value.int i t)\/(∃x t,k=Sum.inr x/\v=Value.str x t)
 |.inl i,v,h=>by
  obtain⟨t,e⟩:=Value.isInt_shape (k:=i) (v:=v) h;exact .inl ⟨i,t,rfl,e⟩
 |.inr x,v,h=>by
  obtain⟨t,e⟩:=Value.isStrOf_shape (x:=x) (v:=v) h;exact .inr ⟨x,t,rfl,e⟩
def wa(i:Int)(t:Tok):lL (.inl i) (.int i t)=B:=by simp[lL,Value.isInt]
def vW(x:Str)(t:Tok):lL (.inr x) (.str x t)=B:=by simp[lL,Value.isStrOf]
def D5(a b:Int):decide ((Sum.inl a:Key)=Sum.inl b)=(a==b):=by
 by_cases e:a=b
 ·subst e;simp
 ·have h:¬(Sum.inl a:Key)=Sum.inl b:=λq=>e (Sum.inl.inj q);rw[Za h];exact(ZK.mpr e).symm
def Dr(a b:Str):decide ((Sum.inr a:Key)=Sum.inr b)=decide (a=b):=by
 by_cases e:a=b
 ·subst e;simp
 ·have h:¬(Sum.inr a:Key)=Sum.inr b:=λq=>e (Sum.inr.inj q);rw[Za h,Za e]
def Ct(a:Int)(b:Str):decide ((Sum.inl a:Key)=Sum.inr b)=R:=Za (λq=>nomatch q)
def D2(a:Str)(b:Int):decide ((Sum.inr a:Key)=Sum.inl b)=R:=Za (λq=>nomatch q)
noncomputable def aM(d:Re)(w:UF):PySem.KeyKind d w Key where
 is:=lL
 hash:=Ey w
 inj:=λv a b l hb=>by
  rcases bW l with⟨i,t,rfl,rfl⟩ | ⟨x,t,rfl,rfl⟩
  ·rcases bW hb with⟨j,u,rfl,e⟩ | ⟨y,u,rfl,e⟩
   ·injection e with e1 _;rw[e1]
   ·exact nomatch e
  ·rcases bW hb with⟨j,u,rfl,e⟩ | ⟨y,u,rfl,e⟩
   ·exact nomatch e
   ·injection e with e1 _;rw[e1]
 byValue:=λk v h=>by
  rcases bW h with⟨i,t,rfl,rfl⟩ | ⟨x,t,rfl,rfl⟩<;>rfl
 pyHash:=λf h=>by
  rcases bW f with⟨i,t,rfl,rfl⟩ | ⟨x,t,rfl,rfl⟩
  ·exact wpAny_pyHash_int h
  ·exact wpAny_pyHash_str h
 eqBool:=λg f h=>by
  rcases bW g with⟨i,t,rfl,rfl⟩ | ⟨x,t,rfl,rfl⟩
  ·rcases bW f with⟨j,u,rfl,rfl⟩ | ⟨y,u,rfl,rfl⟩
   ·rw[D5]at h;exact wpAny_eqBool_int h
   ·rw[Ct]at h;exact SeqAt.EqAt.int_str i t y u _ _ _ _ h
  ·rcases bW f with⟨j,u,rfl,rfl⟩ | ⟨y,u,rfl,rfl⟩
   ·rw[D2]at h;exact SeqAt.EqAt.str_int x t j u _ _ _ _ h
   ·rw[Dr]at h;exact wpAny_eqBool_str h
 «strs» := λk x t v h=>by
  rcases bW h with⟨i,u,rfl,e⟩ | ⟨y,u,rfl,e⟩
  ·exact nomatch e
  ·injection e with e1 _
   subst e1;cases v<;>rfl
def sg(a:Re)(w:UF)(i:Int)(t:Tok):(aM a w).is (.inl i) (.int i t)=B:=wa i t
def sN(a:Re)(w:UF)(x:Str)(t:Tok):(aM a w).is (.inr x) (.str x t)=B:=vW x t
inductive V where
 |non | bl (b:Bool) | int (i:Int) | str (x:Str) | byt (b:Array UInt8) | flt (b:UInt64) | ref (a:KM) | ty (n:String)
 deriving DecidableEq
def RelV:V->On->Prop
 |.non,u=>u=Value.none
 |.bl b,u=>u=Value.bool b
 |.int i,u=>∃t,u=Value.int i t
 |.str x,u=>∃t,u=Value.str x t
 |.byt b,u=>∃t,u=Value.bytes b t
 |.flt b,u=>∃t,u=Value.float b t
 |.ref a,u=>u=Value.ref a
 |.ty n,u=>u=Value.type n
abbrev aK:List V->X3->Prop:=Paired RelV
theorem aK.length{xs:List V}{a:X3}(r:aK xs a):xs.length=a.length:=Y7 r
theorem aK.get:∀{a:List V}{b:X3}{i:Nat}{x:V},aK a b->a[i]?=Z x->∃u,b[i]?=Z u/\RelV x u
 |_,_,_,_,.nil,e=>by simp at e
 |_,_,0,_,.cons r _,e=>by simp at e;subst e;exact⟨_,rfl,r⟩
 |_,_,i+1,x,.cons _ t,e=>by
  obtain⟨u,f,d⟩:=aK.get (i:=i) (x:=x) t (by simpa using e);exact⟨u,by simpa using f,d⟩
theorem aK.set{x:V}{u:On}(r:RelV x u):∀{a:List V}{b:X3}(i:Nat),aK a b->aK (a.set i x) (b.set i u)
 |_,_,_,.nil=>.nil
 |_,_,0,.cons _ t=>.cons r t
 |_,_,i+1,.cons q t=>.cons q (aK.set r i t)
theorem aK.append:∀{b a:List V}{e d:X3},aK b e->aK a d->aK (b++a) (e++d)
 |_,_,_,_,.nil,s=>s
 |_,_,_,_,.cons r t,s=>.cons r (aK.append t s)
theorem aK.take:∀{a:List V}{b:X3}(n:Nat),aK a b->aK (a.take n) (b.take n)
 |_,_,0,_=>.nil
 |_,_,_+1,.nil=>.nil
 |_,_,n+1,.cons r t=>.cons r (aK.take n t)
theorem aK.drop:∀{a:List V}{b:X3}(n:Nat),aK a b->aK (a.drop n) (b.drop n)
 |_,_,0,r=>r
 |_,_,_+1,.nil=>.nil
 |_,_,n+1,.cons _ t=>aK.drop n t
def aK.none_of:∀{a:List V}{b:X3}{i:Nat},aK a b->a[i]?=L->b[i]?=L:=λ{a b i} r e=>by
 have f:=r.length;have d:a.length<=i:=Yp.mp e;exact Yp.mpr (by lia)
def iH:Option V->Wr->Prop
 |some v,some u=>RelV v u
 |none,none=>True
 |_,_=>False
def KV{κ:Type}:List (κ×V)->List (κ×On)->Prop:=Paired λ(p:κ×V) (q:κ×On)=>p.1=q.1/\RelV p.2 q.2
def kV:Key->V
 |.inl i=>.int i
 |.inr x=>.str x
inductive HO where
 |lst (xs:List V)
 |tup (xs:List V)
 |dK (bt:List (Key×V)) | dT (bt:List (List Key×V))
 |set (S:Int->Bool) (n:Nat)
 |ins (C dx:KM) (fs:List (Str×V))
 |own (x:KM)
 |xd (fs:List (Str×V))
 |met (f x:KM)
 |rng (lo hi:Int)
 |frz (o:Obj) (u:HO)
 |tbl (ps:Array On)
 |ext (φ:UF->SZ->Prop)
abbrev Hp:=KM->Option HO
def upd(H:Hp)(a:KM)(o:HO):Hp:=λb=>if b=a then Z o else H b
def au{H:Hp}{a:KM}{o:HO}:upd H a o a=Z o:=by unfold upd;rw[Zq Y]
def ax{H:Hp}{a b:KM}{o:HO}(h:b≠a):upd H a o b=H b:=by unfold upd;rw[Zn h]
def Br{H:Hp}{a:KM}{o u:HO}:upd (upd H a o) a u=upd H a u:=by
 funext b;unfold upd;split<;>rfl
def FX{H:Hp}{a b:KM}{o u:HO}(h:H a=Z o)(f:H b=Z u)(d:o≠u):a≠b:=by
 intro e;subst e;rw[h]at f;exact d (Zm f)
def cG{H:Hp}{a b:KM}{o:HO}(h:H a=Z o)(d:H b=L):a≠b:=by
 intro e;subst e;rw[h]at d;cases d
def Lv(h:SZ)(a:KM):Prop:=∀o,h.get? a=Z o->o.dict=L
def Lv.new(h:SZ)(a:Array On):Lv (h.push { cls:=.type "tuple",data:=.seq a }) h.objs.size:=λo e=>by
 rw[ZU _ Y]at e;cases e;rfl
def Lv.of{h:SZ}{a:KM}{o:Obj}(e:h.get? a=Z o)(d:o.dict=L):Lv h a:=λf b=>by
 rw[e]at b;cases b;exact d
section
variable(P:Re)(w:UF)
noncomputable def bR(H:Hp)(h:SZ)(a:KM):HO->Prop
 |.lst b=>b.length<=KF/\∃(e:X3)(n:Nat),aK b e/\h.get? a=Z { cls:=.type "list",data:=.seq e.toArray n }
 |.tup b=>b.length<=KF/\∃e:X3,aK b e/\Lv h a/\IsTup h a e.toArray
 |.dK g=>g.length<=KF/\(a==sysModules)=R/\∃j,KV g j/\h.DictOf (aM P w) a j
 |.dT g=>g.length<=KF/\(a==sysModules)=R/\∃b:List (List Key×KM×On),
   Paired (λ(p:List Key×V) (q:List Key×KM×On)=>p.1=q.1/\H q.2.1=Z (.tup (p.1.map kV))/\RelV p.2 q.2.2) g b ∧
   ∃o r y,h.get? a=Z o/\o.ExactDict/\o.data=.dict r y/\r.toList=b.map (entryOfKey (tupleKind (aM P w)))/\(b.map (·.1)).Nodup
 |.set S n=>h.SetOf (intKind P w) a S n
 |.ins C i fs=>H i=Z (.own a)/\fs.length<=1000/\i≠a/\h.get? a=Z (PySem.W.instObj C i) ∧
   ∃d,h.Ns1 i d/\(∀f,iH (fs.lookup f) (d f))/\PySem.Within d (fs.map (·.1))
 |.own _=>∃o,h.get? a=Z o
 |.xd fs=>∃d,h.Ns1 a d/\∀f,iH (fs.lookup f) (d f)
 |.rng lo s=>∃t u v,h.get? a=Z { cls:=.type "range",data:=.fields #[.int lo t,.int s u,.int 1 v] }
 |.frz o u=>h.get? a=Z o/\bR H h a u
 |.tbl ps=>h.get? a=Z { cls:=.none,data:=.fields ps }
 |.met f x=>h.get? a=Z (PySem.W.methodObj (.ref f) (.ref x))
 |.ext φ=>φ w h/\(∃o,h.get? a=Z o)/\∀m l:SZ,φ w m->(∀o,m.get? a=Z o->l.get? a=Z o)->φ w l
noncomputable def HP(H:Hp)(h:SZ):Prop:=∀a o,H a=Z o->bR P w H h a o
end
section
variable{P:Re}{w:UF}{H H':Hp}{h h':SZ}{a:KM}{o:HO}
theorem bR.lt(x:bR P w H h a o):a<h.objs.size:=by
 cases o with
 |lst b=>obtain⟨_,_,_,_,e⟩:=x;exact ZX e
 |tup b=>obtain⟨_,_,_,_,p⟩:=x;exact p.lt
 |dK d=>obtain⟨_,_,_,_,o,_,_,e,_⟩:=x;exact ZX e
 |dT d=>obtain⟨_,_,_,_,o,_,_,e,_⟩:=x;exact ZX e
 |set S n=>obtain⟨o,_,_,_,e,_⟩:=x;exact ZX e
 |ins C i fs=>obtain⟨_,_,_,e,_⟩:=x;exact ZX e
 |own y=>obtain⟨_,e⟩:=x;exact ZX e
 |xd fs=>obtain⟨_,⟨_,_,_,e,_⟩,_⟩:=x;exact ZX e
 |rng lo g=>obtain⟨_,_,_,e⟩:=x;exact ZX e
 |frz ob u=>obtain⟨e,_⟩:=x;exact ZX e
 |tbl ps=>exact ZX (show h.get? a=Z _ from x)
 |met f y=>exact ZX (show h.get? a=Z _ from x)
 |ext φ=>obtain⟨_,⟨_,e⟩,_⟩:=x;exact ZX e
theorem Paired.LJ{α β:Type}{F G:α->β->Prop}:∀{e:List α}{d:List β},Paired F e d->(∀a b,F a b->G a b)->Paired G e d
 |_,_,.nil,_=>.nil
 |_,_,.cons r t,f=>.cons (f _ _ r) (Paired.LJ t f)
def bR.Jv(x:bR P w H h a o)(k:∀b u,(b=a\/H b=Z (.own a))->h.get? b=Z u->h'.get? b=Z u)(G:∀b,H b=Z (.own a)->H' b=Z (.own a))(F:∀b l,H b=Z (.tup l)->H' b=Z (.tup l)):bR P w H' h' a o:=by
 induction o with
 |lst l=>obtain⟨z,m,n,r,e⟩:=x;exact⟨z,m,n,r,k _ _ (.inl Y) e⟩
 |tup l=>obtain⟨z,m,r,nd,g,e,c⟩:=x;exact⟨z,m,r,Lv.of (k _ _ (.inl Y) e) (nd _ e),g,k _ _ (.inl Y) e,c⟩
 |dK J=>obtain⟨z,y,D,r,g,i,j,e,c⟩:=x;exact⟨z,y,D,r,g,i,j,k _ _ (.inl Y) e,c⟩
 |dT J =>
  obtain⟨z,y,l,r,g,i,j,e,c⟩:=x;exact⟨z,y,l,Paired.LJ r λp q z=>⟨z.1,F _ _ z.2.1,z.2.2⟩,g,i,j,k _ _ (.inl Y) e,c⟩
 |set S n=>obtain⟨g,i,j,t,e,c⟩:=x;exact⟨g,i,j,t,k _ _ (.inl Y) e,c⟩
 |ins C N fs =>
  obtain⟨d,z,ne,e,A,⟨s,i,j,e2,c⟩,r⟩:=x;exact⟨G _ d,z,ne,k _ _ (.inl Y) e,A,⟨s,i,j,k _ _ (.inr d) e2,c⟩,r⟩
 |own y=>obtain⟨g,e⟩:=x;exact⟨g,k _ _ (.inl Y) e⟩
 |xd fs=>obtain⟨A,⟨s,i,j,e,c⟩,r⟩:=x;exact⟨A,⟨s,i,j,k _ _ (.inl Y) e,c⟩,r⟩
 |rng lo M=>obtain⟨t,u,v,e⟩:=x;exact⟨t,u,v,k _ _ (.inl Y) e⟩
 |frz g u E=>obtain⟨e,q⟩:=x;exact⟨k _ _ (.inl Y) e,E q⟩
 |tbl ps =>
  have e:h.get? a=Z { cls:=.none,data:=.fields ps }:=x;show h'.get? a=Z { cls:=.none,data:=.fields ps };exact k a _ (.inl Y) e
 |met f y =>
  have e:h.get? a=Z (PySem.W.methodObj (.ref f) (.ref y)):=x;show h'.get? a=Z (PySem.W.methodObj (.ref f) (.ref y));exact k a _ (.inl Y) e
 |ext φ=>obtain⟨p,⟨o,e⟩,st⟩:=x;exact⟨st _ _ p λo q=>k _ _ (.inl Y) q,⟨o,k _ _ (.inl Y) e⟩,st⟩
theorem HP.lt(x:HP P w H h)(e:H a=Z o):a<h.objs.size:=(x a o e).lt
def HP.fresh(x:HP P w H h)(e:h.objs.size<=a):H a=L:=by
 cases q:H a with
 |none=>rfl
 |some u=>exact absurd (ZL (x.lt q) e) (Yh _)
def HP.kept(x:HP P w H h)(k:∀b u,h.get? b=Z u->h'.get? b=Z u):HP P w H h':=λa o e =>
 (x a o e).Jv (λb u _ q=>k b u q) (λ_ q=>q) λ_ _ q=>q
def HP.laid(x:HP P w H h)(k:∀b u,h.get? b=Z u->h'.get? b=Z u)(g:h.objs.size<=a)(d:bR P w (upd H a o) h' a o):HP P w (upd H a o) h':=λb u e=>by
 have f:=x.fresh g;by_cases hb:b=a
 ·subst hb;rw[au]at e;cases e;exact d
 ·rw[ax hb]at e;exact(x b u e).Jv (λc v _ q=>k c v q) (λc q=>by rw[ax (cG q f)];exact q) λc i q=>by rw[ax (cG q f)];exact q
end
def Rd(H:Hp)(a:KM)(u:HO):Prop:=H a=Z u\/∃o,H a=Z (.frz o u)
def Rd.ok{P:Re}{w:UF}{H:Hp}{h:SZ}{a:KM}{u:HO}(r:Rd H a u)(x:HP P w H h):bR P w H h a u:=by
 rcases r with r | ⟨o,r⟩
 ·exact x a u r
 ·obtain⟨_,q⟩:=x a _ r;exact q
def GT:Option HO->Prop
 |some (.lst _)=>True
 |some (.dK _)=>True
 |some (.dT _)=>True
 |some (.set _ _)=>True
 |some (.ins _ _ _)=>True
 |some (.ext _)=>True
 |_=>False
section
variable{P:Re}{w:UF}{H:Hp}{h h':SZ}{x e:KM}{o':HO}
def HP.write(n:HP P w H h)(d:GT (H x))(l:e=x\/H e=Z (.own x))(k:∀b u,b≠e->h.get? b=Z u->h'.get? b=Z u)(s:∃u,h'.get? e=Z u)(i:bR P w (upd H x o') h' x o'):HP P w (upd H x o') h':=λb u q=>by
 have m:∀c y,H c=Z (.own y)->c≠x:=λc y r z=>by subst z;rw[r]at d;exact d
 have p:∀c a,H c=Z (.tup a)->c≠x:=λc a r z=>by subst z;rw[r]at d;exact d
 by_cases hb:b=x
 ·subst hb;rw[au]at q;cases q;exact i
 ·rw[ax hb]at q;by_cases g:b=e
  ·have j:H b=Z (.own x):=by
    rcases l with z | z
    ·exact absurd (g.trans z) hb
    ·rw[g];exact z
   rw[q]at j;cases j;obtain⟨v,o⟩:=s;exact⟨v,by rw[g];exact o⟩
  ·refine(n b u q).Jv (λc v f r=>k c v ?_ r) (λc r=>by rw[ax (m c b r)];exact r) λc a r=>by rw[ax (p c a r)];exact r
   rcases f with rfl | f
   ·exact g
   ·rintro rfl;rcases l with z | z
    ·exact m c b f z
    ·rw[f]at z;cases z;exact hb Y
end
structure Un(fs ex:Xa)(H H':Hp)(h h':SZ):Prop where
 keep:∀b o,h.get? b=some o->H b=none->b∉fs->b∉ex->h'.get? b=some o
 slot:∀b o,h.get? b=some o->H b=none->b∈fs->b∉ex->∃sl,h'.get? b=some { o with slots:=sl }
 free:∀b o,h.get? b=some o->H b=none->b∉ex->H' b=none
 there:∀b o,h.get? b=some o->b∉ex->∃o',h'.get? b=some o'
 Jp:∀b xs,H b=some (.tup xs)->H' b=some (.tup xs)
 Ji:∀b o u,H b=some (.frz o u)->H' b=some (.frz o u)
 Ju:∀b ps,H b=some (.tbl ps)->∃more,H' b=some (.tbl (ps++more))
section
variable{fs Ic ex ex':Xa}{H H1 H2:Hp}{h h1 h2 h':SZ}{a x e:KM}{o:HO}
def Un.any(u:Un fs ex H H1 h h1){b:KM}{d:Obj}(q:h.get? b=Z d)(n:H b=L)(f:b∉ex):∃g,h1.get? b=Z { d with slots:=g }:=by
 by_cases hb:b∈fs
 ·exact u.slot b d q n hb f
 ·exact⟨d.slots,u.keep b d q n hb f⟩
def Un.kept(k:∀b u,h.get? b=Z u->h'.get? b=Z u):Un fs ex H H h h' :=
 ⟨λb d q _ _ _=>k b d q,λb d q _ _ _=>⟨d.slots,k b d q⟩,λ_ _ _ n _=>n,λb d q _=>⟨d,k b d q⟩,λ_ _ q=>q,λ_ _ _ q=>q,λ_ ps q=>⟨#[],by rw[q];simp⟩⟩
def Un.refl:Un fs ex H H h h:=Un.kept λ_ _ q=>q
def Un.laid(k:∀b u,h.get? b=Z u->h'.get? b=Z u)(g:h.objs.size<=a)(d:H a=L):Un fs ex H (upd H a o) h h' where
 keep:=λb u q _ _ _=>k b u q
 slot:=λb u q _ _ _=>⟨u.slots,k b u q⟩
 free:=λb u q n _=>by rw[ax (Zb (ZL (ZX q) g))];exact n
 there:=λb u q _=>⟨u,k b u q⟩
 Jp:=λb f q=>by rw[ax (cG q d)];exact q
 Ji:=λb u f q=>by rw[ax (cG q d)];exact q
 Ju:=λb ps q=>⟨#[],by rw[ax (cG q d),q];simp⟩
def Un.write(d:GT (H x))(l:e=x\/H e=Z (.own x))(k:∀b u,b≠e->h.get? b=Z u->h'.get? b=Z u)(m:∃u,h'.get? e=Z u):Un fs ex H (upd H x o) h h':=by
 have g:∀b,H b=L->b≠x:=λb n z=>by subst z;rw[n]at d;exact d
 have hb:∀b,H b=L->b≠e:=λb n z=>by
  subst z;rcases l with r | r
  ·exact g b n r
  ·rw[n]at r;cases r
 have f:∀b u,H b=Z u->¬GT (Z u)->b≠x:=λb u q nm z=>by subst z;rw[q]at d;exact nm d
 refine⟨λb u q n _ _=>k b u (hb b n) q,λb u q n _ _=>⟨u.slots,k b u (hb b n) q⟩,λb u q n _=>by rw[ax (g b n)];exact n,λb u q _=>?_,
  λb j q=>by rw[ax (f b _ q λz=>z)];exact q,λb u j q=>by rw[ax (f b _ q λz=>z)];exact q,λb ps q=>⟨#[],by rw[ax (f b _ q λz=>z),q];simp⟩⟩
 by_cases i:b=e
 ·subst i;exact m
 ·exact⟨u,k b u i q⟩
end
def O3(h:SZ)(H:Hp):Xa:=(List.range h.objs.size).filter λa=>(H a).isSome
def qA(h:SZ)(H:Hp):Heap:=PySem.W.hideAll h (O3 h H)
def vS(h:SZ)(H:Hp):(qA h H).objs.size=h.objs.size:=PySem.W.hideAll_size _ _
def xZ{h:SZ}{H:Hp}{b:KM}{o:Obj}(e:h.get? b=Z o)(n:H b=L):(qA h H).get? b=Z o :=
 PySem.W.hideAll_get _ e λa=>by
  have q:(H b).isSome=B:=(Y4.mp a).2;rw[n]at q;simp at q
def Ax{h:SZ}{H:Hp}{b:KM}{o:Obj}(e:(qA h H).get? b=Z o):h.get? b=Z o/\H b=L:=by
 have a:h.get? b=Z o:=PySem.W.of_hideAll (O3 h H) e;refine⟨a,?_⟩;cases q:H b with
 |none=>rfl
 |some x =>
  have d:b∈O3 h H:=Y4.mpr ⟨YL.mpr (ZX a),by simp[q]⟩;have z:(qA h H).get? b=L:=PySem.W.hideAll_none (O3 h H) d;rw[z]at e;cases e
def A7(g h:SZ)(L:KM):Xo:=(List.range h.objs.size).filterMap λa=>if a=L\/(g.get? a).isSome=B then none else (h.get? a).map λo=>(a,o)
def rest(g h:SZ)(L d:KM):Xo:=(A7 g h L).filter λp=>decide (p.1≠d)
structure Mod(K:Xk)(mg:Xg)(base:SZ):Prop where
 Oa:K.In base
 glob:base.Ns mainGlobals mg
 blt:∃mb,base.Ns builtinsNs mb/\∀x:Str,x ≠ "__name__" → mb x=bootBuiltins x
 nolimit:base.NoLimit
structure Cx where
 prog:Re
 w:UF
 K:Xk
 mg:Xg
 base:SZ
 A:SB
 N:List Str
 s₀:IR
 H₀:Hp
 env:Env
 outer:List Env
 stack:List Env
 ex:Xa
 fn:Str->Bool
 calm:Bool
 pn:Xo
 xe:Z5
abbrev K1(e:Expr)(l:List Expr)(X:Cx):Prop:=Pv (e :: l) X.env=(R,eval e X.env) :: Pv l X.env
abbrev K2(p:Pos)(l:List Expr)(X:Cx):Prop:=(backTo p (Pv l X.env)).any (·.1)=R
abbrev K3(x:Str):Prop:=(x==("__debug__" : Str))=R
abbrev K4(x:Str):Prop:=(x==("__classdict__" : Str))=R
def HU(l:List Env):Xa:=l.filterMap (·.frame)
abbrev Cx.fs(X:Cx):Xa:=HU X.outer
def IG(a:Scope)(x:Str):Prop:=a.names.lookup x=Z .local\/a.names.lookup x=Z .cell\/a.names.lookup x=Z .free
def Loc(a:Scope)(x:Str):Prop:=a.names.lookup x=Z .local\/a.names.lookup x=Z .cell
def Look(a:Env)(h:SZ)(m:Xg)(x:Str)(u:On):Prop :=
 (a.kindOf x=Z .local/\m x=Z u)\/((a.kindOf x=Z .cell\/a.kindOf x=Z .free)/\∃c,a.cells.lookup x=Z c/\h.IsCell c (Z u))
structure Cx.Ok(X:Cx):Prop where
 mod:Mod X.K X.mg X.base
 kind:X.env.scope.kind=.function
 glob:X.env.globals=mainGlobals
 blt:X.env.builtins=builtinsNs
 above:X.s₀.heap.objs.size<=X.env.locals
 inj:∀x y c,X.env.cells.lookup x=some c->X.env.cells.lookup y=some c->x=y
 has:∀x,(X.env.kindOf x=some .cell\/X.env.kindOf x=some .free)->∃c,X.env.cells.lookup x=some c
 OO:∀x c,X.fn x=true->X.env.cells.lookup x=some c->X.s₀.heap.objs.size<=c
 hd:X.calm=true->X.A.handled=none
 frames:X.A.frames=some X.stack
 O7:X.stack=X.outer\/(X.stack=X.env :: X.outer/\X.env.frame=some X.env.locals)
 TX:∀b∈X.ex,b≠X.env.locals/\∀x c,X.env.cells.lookup x=some c->c≠b
 bs:∀b o,X.base.get? b=some o->X.s₀.heap.get? b=some o/\X.H₀ b=none
 LV:X.base.objs.size<=X.s₀.heap.objs.size
 KU:∀b o,X.base.get? b=some o->b∉X.ex
 LQ:∀b∈X.ex,b∉X.fs
 Ij:X.s₀.heap.FunFrames X.base X.outer
 MX:∀b∈X.fs,X.H₀ b=none
structure Inv(X:Cx)(pins:Xo)(J:List (Option V))(H:Hp)(s:IR):Prop where
 ok:X.Ok
 os:s.os=X.s₀.os
 bare:AllBare s.gens
 base:Un X.fs X.ex X.H₀ H X.s₀.heap s.heap
 loc:∃m,s.heap.Ns X.env.locals m/\∀(i:Nat)(x:Str)(v:V),X.N[i]?=some x->J[i]?=some (some v)->IG X.env.scope x->∃u,RelV v u/\Look X.env s.heap m x u
 cell:∀x c,X.env.cells.lookup x=some c->∃v,s.heap.IsCell c v
 free:H X.env.locals=none
 HM:∀x c,X.env.cells.lookup x=some c->H c=none
 pin:∀p∈X.pn++pins,s.heap.get? p.1=some p.2/\H p.1=none/\p.1≠X.env.locals/\p.1∉X.fs/\∀v,p.2.data ≠ .cell v
 GN:HP X.prog X.w H s.heap
 len:J.length=X.N.length
section
variable{X:Cx}{pins:Xo}{J:List (Option V)}{H H':Hp}{s:IR}{h':SZ}
def Cx.Ok.QC(a:X.Ok){b:KM}{o:Obj}(e:X.base.get? b=Z o):b∉X.fs:=λhb=>by
 have:=(a.Ij.mem hb).1;rw[e]at this;cases this
theorem Inv.bs(I:Inv X pins J H s):∀b o,X.base.get? b=Z o->s.heap.get? b=Z o/\H b=L:=λb o e =>
 ⟨I.base.keep b o (I.ok.bs b o e).1 (I.ok.bs b o e).2 (I.ok.QC e) (I.ok.KU b o e),I.base.free b o (I.ok.bs b o e).1 (I.ok.bs b o e).2 (I.ok.KU b o e)⟩
def Inv.bk(I:Inv X pins J H s):∀b o,X.base.get? b=Z o->s.heap.get? b=Z o:=λb o e=>(I.bs b o e).1
theorem Inv.mod(I:Inv X pins J H s):Mod X.K X.mg X.base:=I.ok.mod
def Inv.Ih(I:Inv X pins J H s):X.K.In s.heap:=I.ok.mod.Oa.keeps I.bk
theorem Inv.lt(I:Inv X pins J H s):X.env.locals<s.heap.objs.size:=let ⟨_,a,_⟩:=I.loc;a.lt
def Inv.sz(I:Inv X pins J H s):X.s₀.heap.objs.size<=s.heap.objs.size:=ZJ I.ok.above (Y8 I.lt)
def Inv.QB(I:Inv X pins J H s){a:KM}(h:s.heap.objs.size<=a):a∉X.fs:=λhb=>by
 obtain⟨_,o,b,_⟩:=I.ok.Ij.mem hb;exact absurd (ZL (ZX b) (ZJ I.sz h)) (Yh _)
def Inv.M7(I:Inv X pins J H s):∀x c,X.env.cells.lookup x=Z c->c≠X.env.locals:=λx c e z=>by
 obtain⟨v,o,a,hd⟩:=I.cell x c e;obtain⟨m,⟨f,g,h,d,b,_⟩,_⟩:=I.loc;rw[z,d]at a;cases a;rw[b]at hd;cases hd
theorem Inv.Ij(I:Inv X pins J H s):s.heap.FunFrames X.base X.outer:=by
 have all:∀(l:List Env),(∀b∈HU l,b∈X.fs)->X.s₀.heap.FunFrames X.base l->s.heap.FunFrames X.base l:=by
  intro l
  induction l with
  |nil=>intro _ _;trivial
  |cons env r g =>
   intro f m;obtain⟨n,⟨L,o,a,j,i,hd⟩,h⟩:=m;have d:L∈X.fs:=f L (by unfold HU;rw[XE,a];exact Zv);obtain⟨p,e⟩:=I.base.slot L o i (I.ok.MX L d) d λz=>I.ok.LQ L z d;exact⟨n,⟨L,_,a,j,e,hd⟩,g (λb hb=>f b (by unfold HU;rw[XE,a];exact Zw _ hb)) h⟩
 exact all X.outer (λ_ hb=>hb) I.ok.Ij
theorem Inv.stack(I:Inv X pins J H s):s.heap.FunFrames X.base X.stack:=by
 rcases I.ok.O7 with e | ⟨e,b⟩
 ·rw[e];exact I.Ij
 ·rw[e];obtain⟨m,a,_⟩:=I.loc;refine .cons (by rw[I.ok.kind];decide) b a ?_ I.Ij;exact Heap.get?_none_of_le (ZJ I.ok.LV I.ok.above)
def Inv.I0(I:Inv X pins J H s):∀b∈HU X.stack,b∈X.env.locals :: X.fs:=λb hb=>by
 rcases I.ok.O7 with e | ⟨e,a⟩
 ·rw[e]at hb;exact Zw _ hb
 ·rw[e]at hb;unfold HU at hb;rw[XE,a]at hb;exact hb
def Inv.J0(I:Inv X pins J H s):∀b∈HU X.stack,H b=L:=λb hb=>by
 rcases Zp.mp (I.I0 b hb) with e | hb
 ·rw[e];exact I.free
 ·obtain⟨_,o,a,_⟩:=I.ok.Ij.mem hb;exact I.base.free b o a (I.ok.MX b hb) λz=>I.ok.LQ b z hb
def Inv.step{g':Array GenState}{t':Nat}{d':Drawn}{ch:Xa}(I:Inv X pins J H s)(D:∀b∈ch,(b∈X.ex\/X.s₀.heap.objs.size<=b)/\b≠X.env.locals/\(∀x c,X.env.cells.lookup x=Z c->c≠b)/\∀p∈X.pn++pins,p.1≠b)(g:∀b o,b≠X.env.locals->b∉X.fs->b∉ch->s.heap.get? b=Z o->H b=L->h'.get? b=Z o)(j:∀b o,b≠X.env.locals->b∈X.fs->b∉ch->s.heap.get? b=Z o->H b=L->∃F,h'.get? b=Z { o with slots:=F })(f:∀b o,b∉ch->s.heap.get? b=some o->H b=none->H' b=none)(t:∀b o,b∉ch->s.heap.get? b=Z o->∃A,h'.get? b=Z A)(Jp:∀b h,H b=Z (.tup h)->H' b=Z (.tup h))(Ji:∀b o u,H b=Z (.frz o u)->H' b=Z (.frz o u))(Ju:∀b ps,H b=Z (.tbl ps)->∃more,H' b=Z (.tbl (ps++more)))(P:∀m,s.heap.Ns X.env.locals m->h'.Ns X.env.locals m)(GN:HP X.prog X.w H' h')(hg:AllBare g') :
  Inv X pins J H' { s with heap:=h',gens:=g',drawn:=d',toks:=t' }:=by
 have O:∀b o,X.s₀.heap.get? b=Z o->b≠X.env.locals:=λb o e=>Zb (ZL (ZX e) I.ok.above);have E:∀b o,X.s₀.heap.get? b=Z o->b∉X.ex->b∉ch:=λb o e a hb=>by
  rcases (D b hb).1 with z | z
  ·exact a z
  ·exact absurd (ZL (ZX e) z) (Yh _)
 have cellK:∀x c,X.env.cells.lookup x=Z c->∀v,s.heap.IsCell c v->h'.IsCell c v:=λx c e v ⟨o,y,hd⟩=>by
  have C:c∉ch:=λz=>(D c z).2.2.1 x c e Y;by_cases N:c∈X.fs
  ·obtain⟨F,q⟩:=j c o (I.M7 x c e) N C y (I.HM x c e);exact⟨_,q,hd⟩
  ·exact⟨o,g c o (I.M7 x c e) N C y (I.HM x c e),hd⟩
 refine⟨I.ok,I.os,hg,⟨λb o e n hb a=>?_,λb o e n hb a=>?_,λb o e n a=>?_,λb o e a=>?_,λb h e=>Jp b h (I.base.Jp b h e),λb o h e=>Ji b o h (I.base.Ji b o h e),λb ps e=>?_⟩,?_,λx c e=>?_,?_,λx c e=>?_,λp M=>?_,GN,I.len⟩
 ·exact g b o (O b o e) hb (E b o e a) (I.base.keep b o e n hb a) (I.base.free b o e n a)
 ·obtain⟨F,e1⟩:=I.base.slot b o e n hb a;obtain⟨Ux,e2⟩:=j b _ (O b o e) hb (E b o e a) e1 (I.base.free b o e n a);exact⟨Ux,e2⟩
 ·obtain⟨A,e1⟩:=I.base.there b o e a;exact f b A (E b o e a) e1 (I.base.free b o e n a)
 ·obtain⟨A,e1⟩:=I.base.there b o e a;exact t b A (E b o e a) e1
 ·obtain⟨S,e1⟩:=I.base.Ju b ps e;obtain⟨Q,e2⟩:=Ju b _ e1;exact⟨S++Q,by rw[e2,Array.append_assoc]⟩
 ·obtain⟨m,U,hl⟩:=I.loc;refine⟨m,P m U,λi x v e1 e2 e3=>?_⟩;obtain⟨u,r,l⟩:=hl i x v e1 e2 e3;refine⟨u,r,?_⟩;rcases l with l | ⟨k,c,e,z⟩
  ·exact .inl l
  ·exact .inr ⟨k,c,e,cellK x c e _ z⟩
 ·obtain⟨v,z⟩:=I.cell x c e;exact⟨v,cellK x c e v z⟩
 ·obtain⟨m,⟨o,_,_,y,_⟩,_⟩:=I.loc;exact f _ o (λz=>(D _ z).2.1 Y) y I.free
 ·obtain⟨v,o,y,hd⟩:=I.cell x c e;exact f c o (λz=>(D c z).2.2.1 x c e Y) y (I.HM x c e)
 ·obtain⟨e,n,ne,G,d⟩:=I.pin p M;have C:p.1∉ch:=λz=>(D p.1 z).2.2.2 p M Y;exact⟨g p.1 p.2 ne G C e n,f p.1 p.2 C e n,ne,G,d⟩
def Inv.un{t':Nat}(I:Inv X pins J H s)(u:Un X.fs [] H H' s.heap h')(l:HP X.prog X.w H' h'):Inv X pins J H' { s with heap:=h',toks:=t' }:=by
 obtain⟨m,⟨o,v,x,a,r⟩,_⟩:=id I.loc;obtain⟨p,h⟩:=u.any a I.free (by simp);exact I.step (g':=s.gens) (d':=s.drawn) (ch:=[]) (λ_ z=>nomatch z) (λb o _ hb _ e n=>u.keep b o e n hb (by simp)) (λb o _ hb _ e n=>u.slot b o e n hb (by simp)) (λb o _ e n=>u.free b o e n (by simp)) (λb o _ e=>u.there b o e (by simp)) u.Jp u.Ji u.Ju (λt g=>by
  obtain⟨q,j,i,d,f⟩:=g;rw[a]at d;cases d;exact⟨_,j,i,h,f⟩) l I.bare
def Inv.call{g':Array GenState}{t':Nat}{d':Drawn}{ch:Xa}(I:Inv X pins J H s)(u:Un (HU X.stack) ch H H' s.heap h')(v:HP X.prog X.w H' h')(l:AllBare g')(g:∀b∈ch,(b∈X.ex\/X.s₀.heap.objs.size<=b)/\b≠X.env.locals/\(∀x c,X.env.cells.lookup x=Z c->c≠b)/\∀p∈X.pn++pins,p.1≠b) :
  Inv X pins J H' { s with heap:=h',gens:=g',drawn:=d',toks:=t' }:=by
 obtain⟨m,⟨o,D,E,f,r⟩,_⟩:=id I.loc;obtain⟨y,d⟩:=u.any f I.free λz=>(g _ z).2.1 Y;exact I.step (ch:=ch) g (λb o d hb a e n=>u.keep b o e n (λz=>(Zp.mp (I.I0 b z)).elim d hb) a) (λb o _ _ a e n=>u.any e n a) (λb o a e n=>u.free b o e n a) (λb o a e=>u.there b o e a) u.Jp u.Ji u.Ju (λC j=>by
  obtain⟨A,t,q,h,i⟩:=j;rw[f]at h;cases h;exact⟨_,t,q,d,i⟩) v l
def Inv.turned{t':Nat}{it:KM}(I:Inv X pins J H s)(k:∀b o,b≠it->s.heap.get? b=Z o->h'.get? b=Z o)(h:H it=L)(d:it≠X.env.locals)(t:it∈X.ex\/X.s₀.heap.objs.size<=it)(l:∀x c,X.env.cells.lookup x=Z c->c≠it)(j:∀p∈X.pn++pins,p.1≠it):Inv X pins J H { s with heap:=h',toks:=t' }:=by
 have f:∀b u,H b=Z u->b≠it:=λb u e z=>by rw[z,h]at e;cases e
 refine I.step (g':=s.gens) (d':=s.drawn) (ch:=[it]) (λb hb=>?_) (λb o _ _ a e _=>k b o (λz=>a (by simp[z])) e) (λb o _ _ a e _=>⟨o.slots,k b o (λz=>a (by simp[z])) e⟩) (λ_ _ _ _ n=>n)
  (λb o a e=>⟨o,k b o (λz=>a (by simp[z])) e⟩) (λ_ _ e=>e) (λ_ _ _ e=>e) (λb ps e=>⟨#[],by rw[e];simp⟩) (λm i=>?_) (λb u e=>?_) I.bare
 ·have e:b=it:=by simpa using hb
  subst e;exact⟨t,d,l,j⟩
 ·obtain⟨o,w,y,g,r⟩:=i;exact⟨o,w,y,k _ o (Yi d) g,r⟩
 ·refine(I.GN b u e).Jv (λc v a q=>k c v ?_ q) (λ_ q=>q) λ_ _ q=>q;rcases a with z | z
  ·rw[z];exact f b u e
  ·exact f c _ z
def Inv.tok(I:Inv X pins J H s)(t:Nat):Inv X pins J H { s with toks:=t }:=I.un (h':=s.heap) (t':=t) Un.refl I.GN
theorem Inv.kept{t':Nat}(I:Inv X pins J H s)(k:∀b u,s.heap.get? b=Z u->h'.get? b=Z u):Inv X pins J H { s with heap:=h',toks:=t' }:=I.un (Un.kept k) (I.GN.kept k)
theorem Inv.laid{a:KM}{o:HO}{t':Nat}(I:Inv X pins J H s)(k:∀b u,s.heap.get? b=Z u->h'.get? b=Z u)(e:s.heap.objs.size<=a)(d:bR X.prog X.w (upd H a o) h' a o) :
  Inv X pins J (upd H a o) { s with heap:=h',toks:=t' }:=I.un (Un.laid k e (I.GN.fresh e)) (I.GN.laid k e d)
theorem Inv.write{x e:KM}{o:HO}{g:Nat}(I:Inv X pins J H s)(d:GT (H x))(he:e=x\/H e=Z (.own x))(k:∀b u,b≠e->s.heap.get? b=Z u->h'.get? b=Z u)(f:∃u,h'.get? e=Z u)(a:bR X.prog X.w (upd H x o) h' x o):Inv X pins J (upd H x o) { s with heap:=h',toks:=g }:=I.un (Un.write d he k f) (I.GN.write d he k f a)
def Inv.J9{a:Xo}(I:Inv X pins J H s)(h:∀p∈a,s.heap.get? p.1=Z p.2/\H p.1=L/\p.1≠X.env.locals/\p.1∉X.fs/\∀v,p.2.data ≠ .cell v):Inv X a J H s :=
 ⟨I.ok,I.os,I.bare,I.base,I.loc,I.cell,I.free,I.HM,λp b=>(Zd.mp b).elim (λz=>I.pin p (ZD _ z)) (h p),I.GN,I.len⟩
def qX{N:List Str}(d:N.Nodup){i j:Nat}{x:Str}(a:N[i]?=Z x)(b:N[j]?=Z x):i=j:=by
 obtain⟨f,e1⟩:=Zf.mp a;obtain⟨e,e2⟩:=Zf.mp b;exact(List.getElem_inj d).mp (e1.trans e2.symm)
def oP{Mq:Model}{A:SB}{E:Z5}{i:Nat}{x:Str}{v:V}{u:On}{Q:Unit->IR->Prop}(I:Inv X pins J H s)(hN:X.N.Nodup)(D:X.N[i]?=Z x)(l:Loc X.env.scope x)(r:RelV v u)(h:∀S,Inv X pins (J.set i (Z v)) H S->(∃a,Heap.SameBut a s.heap S.heap/\(a=X.env.locals\/X.env.cells.lookup x=Z a))->Q () S)(hf:X.fn x=B\/X.env.scope.names.lookup x=Z .local:=by first | exact .inl Y | exact .inr Y | assumption):PP Mq A (storeName X.env x u) Q E s:=by
 obtain⟨m,hn,hl⟩:=id I.loc;have Rv:(X.env.scope.kind == .class||(X.env.scope.kind == .module&&X.env.locals != X.env.globals))=R:=by rw[I.ok.kind];rfl
 have Tb:i<J.length:=by rw[I.len];exact(Zf.mp D).1
 have M7:=I.M7;have tracked:∀{a:KM}{h':SZ},(∃o,s.heap.get? a=Z o/\H a=L)->Heap.SameBut a s.heap h'->HP X.prog X.w H h':=λ{a h'} ha f b ob e=>by
  obtain⟨_,_,Mg⟩:=ha;refine(I.GN b ob e).Jv (λc F g q=>(f.2 c ?_).trans q) (λ_ q=>q) λ_ _ q=>q;rintro rfl;rcases g with rfl | g
  ·rw[Mg]at e;cases e
  ·rw[Mg]at g;cases g
 rcases l with t | t
 ·refine wpAny_storeName_local t hn (λh' Vs f=>?_) Rv;obtain⟨oL,_,_,Oj,_⟩:=id hn;refine h _ ⟨I.ok,I.os,I.bare,⟨λb o e n hb l=>?_,λb o e n hb l=>?_,I.base.free,λb o e l=>?_,I.base.Jp,I.base.Ji,I.base.Ju⟩,⟨_,Vs,λj y M e1 e2 e3=>?_⟩,λy c e=>?_,I.free,I.HM,λp hp=>?_,tracked ⟨oL,Oj,I.free⟩ f,by simpa using I.len⟩ ⟨_,f,.inl Y⟩
  ·exact(f.2 b (Zb (ZL (ZX e) I.ok.above))).trans (I.base.keep b o e n hb l)
  ·obtain⟨P,e1⟩:=I.base.slot b o e n hb l;exact⟨P,(f.2 b (Zb (ZL (ZX e) I.ok.above))).trans e1⟩
  ·obtain⟨o',e1⟩:=I.base.there b o e l;exact⟨o',(f.2 b (Zb (ZL (ZX e) I.ok.above))).trans e1⟩
  ·by_cases C:j=i
   ·subst C;rw[D]at e1;cases e1;rw[Xz Tb]at e2;cases e2;exact⟨u,r,.inl ⟨t,by simp⟩⟩
   ·rw[Yr (Yi C)]at e2;obtain⟨O,U,q⟩:=hl j y M e1 e2 e3;refine⟨O,U,?_⟩;rcases q with⟨k,e⟩ | ⟨k,c,e,z⟩
    ·refine .inl ⟨k,?_⟩;have:y≠x:=λe=>C (qX hN e1 (e ▸ D));simp[this,e]
    ·exact .inr ⟨k,c,e,z.sameBut f (M7 y c e)⟩
  ·obtain⟨F,z⟩:=I.cell y c e;exact⟨F,z.sameBut f (M7 y c e)⟩
  ·obtain⟨e,n,ne,nf,d⟩:=I.pin p hp;exact⟨(f.2 p.1 ne).trans e,n,ne,nf,d⟩
 ·have Os:X.fn x=B:=by
   rcases hf with z | z
   ·exact z
   ·rw[z]at t;cases t
  obtain⟨c,g⟩:=I.ok.has x (.inl t);obtain⟨F,z⟩:=I.cell x c g;refine wpAny_storeName_cell I.ok.kind t g z (λh' HB f=>?_);obtain⟨oc,S7,QZ⟩:=id z;refine h { s with heap:=h' } ⟨I.ok,I.os,I.bare,⟨λb o e n hb l=>?_,λb o e n hb l=>?_,I.base.free,λb o e l=>?_,I.base.Jp,I.base.Ji,I.base.Ju⟩,⟨m,hn.sameBut f (Yi (M7 x c g)),λj y M e1 e2 e3=>?_⟩,λy G e=>?_,I.free,I.HM,λp hp=>?_,tracked ⟨oc,S7,I.HM x c g⟩ f,by simpa using I.len⟩ ⟨c,f,.inr g⟩
  ·exact(f.2 b (Zb (ZL (ZX e) (I.ok.OO x c Os g)))).trans (I.base.keep b o e n hb l)
  ·obtain⟨P,e1⟩:=I.base.slot b o e n hb l;exact⟨P,(f.2 b (Zb (ZL (ZX e) (I.ok.OO x c Os g)))).trans e1⟩
  ·obtain⟨o',e1⟩:=I.base.there b o e l;exact⟨o',(f.2 b (Zb (ZL (ZX e) (I.ok.OO x c Os g)))).trans e1⟩
  ·by_cases C:j=i
   ·subst C;rw[D]at e1;cases e1;rw[Xz Tb]at e2;cases e2;exact⟨u,r,.inr ⟨.inl t,c,g,HB⟩⟩
   ·rw[Yr (Yi C)]at e2;obtain⟨O,U,q⟩:=hl j y M e1 e2 e3;refine⟨O,U,?_⟩;rcases q with q | ⟨k,G,e,z'⟩
    ·exact .inl q
    ·refine .inr ⟨k,G,e,z'.sameBut f ?_⟩;rintro rfl;exact C (qX hN e1 (I.ok.inj _ _ _ e g ▸ D))
  ·by_cases Pp:G=c
   ·subst Pp;exact⟨_,HB⟩
   ·obtain⟨w2,z2⟩:=I.cell y G e;exact⟨w2,z2.sameBut f Pp⟩
  ·obtain⟨e,n,ne,nf,d⟩:=I.pin p hp;refine⟨(f.2 p.1 ?_).trans e,n,ne,nf,d⟩;intro q;rw[q,S7]at e;have q':oc=p.2:=Zm e;exact d F (by rw[← q'];exact QZ)
def qI{g:Model}{A:SB}{E:Z5}{i:Nat}{x:Str}{v:V}{u:On}{Q:Unit->IR->Prop}(I:Inv X pins J H s)(f:X.N.Nodup)(d:X.N[i]?=Z x)(b:Loc X.env.scope x)(r:RelV v u)(h:∀a,Inv X pins (J.set i (Z v)) H a->Q () a)(e:X.fn x=B\/X.env.scope.names.lookup x=Z .local:=by first | exact .inl Y | exact .inr Y | assumption):PP g A (storeName X.env x u) Q E s :=
 oP I f d b r (λa j _=>h a j) e
def Inv.ON{a:IR}{ch:Xa}(I:Inv X pins J H s)(f:a.os=s.os)(u:Un (HU X.stack) ch H H' s.heap a.heap)(i:HP X.prog X.w H' a.heap)(g:AllBare a.gens)(h:∀b∈ch,(b∈X.ex\/X.s₀.heap.objs.size<=b)/\b≠X.env.locals/\(∀x c,X.env.cells.lookup x=Z c->c≠b)/\∀p∈X.pn++pins,p.1≠b):Inv X pins J H' a:=by
 obtain⟨h',g',d',t',d⟩:=a;have e:d=s.os:=f;subst e;exact I.call (g':=g') (t':=t') (d':=d') u i g h
end
abbrev XK:=On->Option KM->Hp->Prop
abbrev St:=List (Option V)
abbrev VK:=V->Hp->Prop
abbrev TE:=St->Hp->VK->Prop
abbrev TT:=St->Hp->(Bool->Hp->Prop)->Prop
abbrev TA:=St->Hp->(List V->Hp->Prop)->Prop
structure Ends where
 nx:St->Hp->Prop
 rt:VK
 bk:St->Hp->Prop:=λ_ _=>False
 ct:St->Hp->Prop:=λ_ _=>False
abbrev TS:=Ends->St->Hp->Prop
def EP(X:Cx)(a:Xo)(J:St)(Q:VK)(u:On)(d:IR):Prop:=∃v b,Inv X a J b d/\RelV v u/\Q v b
def TP(X:Cx)(a:Xo)(J:St)(Q:Bool->Hp->Prop)(b:Bool)(e:IR):Prop:=∃d,Inv X a J d e/\Q b d
def AP(X:Cx)(a:Xo)(J:St)(Q:List V->Hp->Prop)(e:X3)(f:IR):Prop:=∃b d,Inv X a J d f/\aK b e/\Q b d
def SP(X:Cx)(a:Xo)(D:Ends)(f:Flow)(e:IR):Prop :=
 match f with
 |.next=>∃d b,Inv X a d b e/\D.nx d b
 |.brk=>∃d b,Inv X a d b e/\D.bk d b
 |.cont=>∃d b,Inv X a d b e/\D.ct d b
 |.ret u=>∃v d b,Inv X a d b e/\RelV v u/\D.rt v b
def PE(X:Cx)(e:Expr)(t:TE):Prop :=
 ∀(a:Xo)(s:IR)(J:St)(H:Hp)(Q:VK),Inv X a J H s->t J H Q->PP (KB X.prog X.w) X.A (eval e X.env) (EP X a J Q) X.xe s
def PT(X:Cx)(e:Expr)(t:TT):Prop :=
 ∀(a:Xo)(s:IR)(J:St)(H:Hp)(Q:Bool->Hp->Prop),Inv X a J H s->t J H Q->PP (KB X.prog X.w) X.A (isTrue e X.env (eval e X.env)) (TP X a J Q) X.xe s
def PW(X:Cx)(e:Expr)(t:TT):Prop :=
 ∀(whole:Sem On)(a:Xo)(s:IR)(J:St)(H:Hp)(Q:Bool->Hp->Prop),Inv X a J H s->t J H Q->PP (KB X.prog X.w) X.A (isTrue e X.env whole) (TP X a J Q) X.xe s
def PW.pt{X:Cx}{e:Expr}{t:TT}(h:PW X e t):PT X e t:=h _
def PA(X:Cx)(b:List Expr)(t:TA):Prop :=
 ∀(pos:Pos)(a:Xo)(s:IR)(J:St)(H:Hp)(Q:List V->Hp->Prop),Inv X a J H s->t J H Q->PP (KB X.prog X.w) X.A (spliced (backTo pos (Pv b X.env))) (AP X a J Q) X.xe s
def PS(X:Cx)(b:Stmt)(t:TS):Prop :=
 ∀(a:Xo)(s:IR)(J:St)(H:Hp)(D:Ends),Inv X a J H s->t D J H->PP (KB X.prog X.w) X.A (exec b X.env) (SP X a D) X.xe s
def IH(X:Cx)(b:List Stmt)(t:TS):Prop :=
 ∀(a:Xo)(s:IR)(J:St)(H:Hp)(D:Ends),Inv X a J H s->t D J H->PP (KB X.prog X.w) X.A (execs b X.env) (SP X a D) X.xe s
def thn{α:Type}{t:Sem α}{Q b:α->IR->Prop}{d:Model}{A:SB}{E:Z5}{s:IR}(h:PP d A t Q E s)(e:∀a s,Q a s->b a s):PP d A t b E s:=YJ h e λ_ _ x=>x
section
variable{X:Cx}
def Gg(i:Nat):TE:=λJ H Q=>∃v,J[i]?=Z (Z v)/\Q v H
def tC(v:V):TE:=λ_ H Q=>Q v H
def fJ{i:Nat}{x:Str}{d:Pos}(w:X.N[i]?=Z x)(o:IG X.env.scope x)(f:K3 x:=by decide)(g:K4 x:=by decide):PE X (.Name x d) (Gg i):=by
 intro b s J H Q I h;obtain⟨v,e,h⟩:=h;obtain⟨m,p,t⟩:=I.loc;obtain⟨u,r,l⟩:=t i x v w e o;have fin:EP X b J Q u s:=⟨v,H,I,r,h⟩
 rcases l with⟨a,q⟩ | ⟨a,c,j,n⟩
 ·exact wpAny_Name (wpAny_loadName_local I.ok.kind a p q fin) f
 ·rcases a with a | a
  ·exact wpAny_Name (wpAny_loadName_cell I.ok.kind a j n fin) f
  ·exact wpAny_Name (wpAny_loadName_free I.ok.kind a j n fin g) f
def pX{i j pos}:PE X (.Constant (.int i) j pos) (tC (.int i)):=λ_ _ _ H _ I h=>wpAny_Constant_int ⟨.int i,H,I.tok _,⟨_,rfl⟩,h⟩
def Et{b j pos}:PE X (.Constant (.bool b) j pos) (tC (.bl b)):=λ_ _ _ H _ I h=>Constant_bool ⟨.bl b,H,I,rfl,h⟩
def Df{j pos}:PE X (.Constant .none j pos) (tC .non):=λ_ _ _ H _ I h=>Constant_none ⟨.non,H,I,rfl,h⟩
def CA{x j pos}:PE X (.Constant (.str x) j pos) (tC (.str x)):=λ_ _ _ H _ I h=>Calls.Constant_str ⟨.str x,H,I.tok _,⟨_,rfl⟩,h⟩
def Gl(X:Cx)(x:Str):Prop:=X.env.kindOf x=Z .globalImplicit
def mq{E:Z5}{a:Xo}{s:IR}{J:St}{H:Hp}{x:Str}{u:On}{b:Pos}{Q:Z5}(I:Inv X a J H s)(e:Gl X x)(d:X.mg x=Z u)(h:Q u s)(f:K3 x:=by decide):PP (KB X.prog X.w) X.A (eval (.Name x b) X.env) Q E s :=
 Calls.Name_function_global I.ok.kind e (Calls.loadGlobal_global (by rw[I.ok.glob];exact I.mod.glob.keeps I.bk) d h) f
def i7{E:Z5}{a:Xo}{s:IR}{J:St}{H:Hp}{x:Str}{u:On}{b:Pos}{Q:Z5}(I:Inv X a J H s)(g:Gl X x)(f:X.mg x=L)(d:bootBuiltins x=Z u)(h:Q u s)(e:x ≠ "__name__" := by decide)(i:K3 x:=by decide):PP (KB X.prog X.w) X.A (eval (.Name x b) X.env) Q E s:=by
 obtain⟨m,l,j⟩:=I.mod.blt;exact Calls.Name_function_global I.ok.kind g (Calls.loadGlobal_builtin (by rw[I.ok.glob];exact I.mod.glob.keeps I.bk) f (by rw[I.ok.blt];exact l.keeps I.bk) ((j x e).trans d) h) i
def Ag{x:Str}{v:V}{u:On}{a:Pos}(d:Gl X x)(b:X.mg x=Z u)(r:RelV v u)(e:K3 x:=by decide):PE X (.Name x a) (tC v) :=
 λ_ _ _ H _ I h=>mq I d b ⟨v,H,I,r,h⟩ e
def zL{x:Str}{v:V}{u:On}{a:Pos}(f:Gl X x)(e:X.mg x=L)(b:bootBuiltins x=Z u)(r:RelV v u)(d:x ≠ "__name__" := by decide)(g:K3 x:=by decide):PE X (.Name x a) (tC v) :=
 λ_ _ _ H _ I h=>i7 I f e b ⟨v,H,I,r,h⟩ d g
variable{a b:Expr}{ta tb:TE}{pos:Pos}
def PC(X:Cx)(g:CmpOp)(a b:Expr)(t:TE):Prop :=
 ∀(d:Xo)(s:IR)(J:St)(H:Hp)(Q:VK),Inv X d J H s->t J H Q →
  PP (KB X.prog X.w) X.A (eval a X.env) (λv f=>PP (KB X.prog X.w) X.A (eval b X.env) (λu e=>PP (KB X.prog X.w) X.A (SL g v u) (EP X d J Q) X.xe e) X.xe f) X.xe s
def zD(b:Expr){d:CmpOp}(h:d ≠ .In)(e:d ≠ .NotIn):behindInMarks d b=R:=by
 have e1:(d==CmpOp.In)=R:=by cases d<;>first | rfl | exact absurd Y h
 have e2:(d==CmpOp.NotIn)=R:=by cases d<;>first | rfl | exact absurd Y e
 cases b<;>simp[behindInMarks,e1,e2]
def Gw(d:TE):TE:=λJ H Q=>d J H λx e=>Q (.bl (decide (x=.non))) e
def E6(d:TE):TE:=λJ H Q=>d J H λx e=>Q (.bl (!decide (x=.non))) e
def RelV.Jz{x:V}{v:On}(r:RelV x v):(v==Value.none)=decide (x=.non):=by
 cases x with
 |non=>cases r;rfl
 |bl _=>cases r;rfl
 |int _=>obtain⟨t,rfl⟩:=r;rfl
 |str _=>obtain⟨t,rfl⟩:=r;rfl
 |byt _=>obtain⟨t,rfl⟩:=r;rfl
 |flt _=>obtain⟨t,rfl⟩:=r;rfl
 |ref _=>cases r;rfl
 |ty _=>cases r;rfl
def DJ{j pos'}(f:PE X a ta):PC X .Is a (.Constant .none j pos') (Gw ta):=by
 intro d s J H Q I h;refine thn (f d s J H _ I h) λv s1 ⟨x,i,g,r1,e⟩=>?_;exact Constant_none (is_none_gen ⟨.bl _,i,g,by rw[r1.Jz];rfl,e⟩)
def Am{j pos'}(f:PE X a ta):PC X .IsNot a (.Constant .none j pos') (E6 ta):=by
 intro d s J H Q I h;refine thn (f d s J H _ I h) λv s1 ⟨x,i,g,r1,e⟩=>?_;exact Constant_none (isnot_none_gen ⟨.bl _,i,g,by rw[r1.Jz];rfl,e⟩)
def tB(t:TE):TT:=λJ H Q=>t J H λx d=>∃c,x=.bl c/\Q c d
def wZ{f:CmpOp}{t:TE}(h:PC X f a b t)(g:behindInMarks f b=R:=by first | exact zD _ (by decide) (by decide) | rfl):PT X (.Compare a [f] [b] pos) (tB t):=by
 intro e s J H Q I hw;refine wpAny_isTrue_Compare1 (thn (h e s J H _ I hw) λv s1 g=>thn g λu o j=>thn j λc n ⟨x,m,l,r1,i⟩=>?_) g;obtain⟨d,rfl,q⟩:=i;cases r1;exact YY ⟨m,l,q⟩
def Cv{e:Expr}{t:TE}(h:PE X e t)(i:∀whole,isTrue e X.env whole=(do let v ← whole;standAt e.pos;holding [v] (truthy v)):=by intro _;rfl):PT X e (tB t):=by
 intro f s J H Q I hw;refine isTrue_plain (thn (h f s J H _ I hw) λv s1 ⟨x,l,j,r1,g⟩=>?_) (i _);obtain⟨d,rfl,q⟩:=g;cases r1;exact YY ⟨l,j,q⟩
variable{tA O6:TT}{rest:List Expr}
def GH(t u:TT):TT:=λJ H Q=>t J H λc d=>if c=B then u J d Q else Q R d
def Uo(t u:TT):TT:=λJ H Q=>t J H λc d=>if c=B then Q B d else u J d Q
def Gf(t:TT):TT:=λJ H Q=>t J H λc d=>Q (!c) d
def j0(f:PT X a tA):PW X (.BoolOp .And [a] pos) tA:=by
 intro g d s J H Q I h;refine isTrue_and (thn (f d s J H Q I h) λc s1 e=>?_);cases c with
 |true=>exact isTrue_and_nil e
 |false=>exact e
def nJ(f:PT X a tA):PW X (.BoolOp .Or [a] pos) tA:=by
 intro g d s J H Q I h;refine isTrue_or (thn (f d s J H Q I h) λc s1 e=>?_);cases c with
 |false=>exact isTrue_or_nil e
 |true=>exact e
def yn(l:PT X a tA)(j:PW X (.BoolOp .And (b :: rest) pos) O6):PW X (.BoolOp .And (a :: b :: rest) pos) (GH tA O6):=by
 intro i d s J H Q I h;refine isTrue_and (thn (l d s J H _ I h) λc s1 ⟨g,f,e⟩=>?_);cases c with
 |true=>exact j i d s1 J g Q f e
 |false=>exact⟨g,f,e⟩
def En(l:PT X a tA)(j:PW X (.BoolOp .Or (b :: rest) pos) O6):PW X (.BoolOp .Or (a :: b :: rest) pos) (Uo tA O6):=by
 intro i d s J H Q I h;refine isTrue_or (thn (l d s J H _ I h) λc s1 ⟨g,f,e⟩=>?_);cases c with
 |true=>exact⟨g,f,e⟩
 |false=>exact j i d s1 J g Q f e
def yW(e:PT X a tA):PT X (.UnaryOp .Not a pos) (Gf tA):=by
 intro d s J H Q I h;exact isTrue_not (e d s J H (λc f=>Q (!c) f) I h)
def Ez(f e:TE):TE:=λJ H Q=>f J H λx d=>∃c,x=.bl c/\if c=B then e J d Q else Q (.bl R) d
def FP(d:TE):TE:=λJ H Q=>d J H λx e=>∃c,x=.bl c/\Q (.bl (!c)) e
def C7{op}{t:TE}(h:PE X a t):PE X (.BoolOp op [a] pos) t:=λd s J H Q I hw=>BoolOp_one (h d s J H Q I hw)
def Cm(j:PE X a ta)(i:PE X (.BoolOp .And (b :: rest) pos) tb):PE X (.BoolOp .And (a :: b :: rest) pos) (Ez ta tb):=by
 intro d s J H Q I h;refine BoolOp_and (thn (j d s J H _ I h) λv s1 ⟨x,g,f,r1,e⟩=>?_);obtain⟨c,rfl,e⟩:=e;cases r1;refine YY ?_;cases c with
 |true=>exact i d s1 J g Q f e
 |false=>exact⟨.bl R,g,f,rfl,e⟩
def Cn(f:PE X a ta):PE X (.UnaryOp .Not a pos) (FP ta):=by
 intro d s J H Q I h;refine UnaryOp_ (thn (f d s J H _ I h) λv s1 ⟨x,i,g,r1,e⟩=>?_);obtain⟨c,rfl,e⟩:=e;cases r1;exact not_of (YY ⟨.bl (!c),i,g,rfl,e⟩)
end
def GW(K:Xk)(H:Hp)(a:KM)(d:List V):Prop :=
 Rd H a (.lst d) ∨
  ∃(o:Obj)(b:Array On)(n:Nat),K.lookup a=Z o/\o.cls=.type "list" ∧ o.dict=L/\o.data=.seq b n/\b.size<=KF/\aK d b.toList
def HN(K:Xk)(H:Hp)(a:KM)(d:List V):Prop :=
 Rd H a (.tup d) ∨
  ∃(o:Obj)(b:Array On)(n:Nat),K.lookup a=Z o/\o.cls=.type "tuple" ∧ o.data=.seq b n/\b.size<=KF/\aK d b.toList
def GJ:On->Option V
 |.none=>Z .non
 |.bool b=>Z (.bl b)
 |.int i _=>Z (.int i)
 |.str x _=>Z (.str x)
 |.bytes b _=>Z (.byt b)
 |.float b _=>Z (.flt b)
 |.ref a=>Z (.ref a)
 |.type n=>Z (.ty n)
 |_=>L
def RelV.abs{x:V}{u:On}(r:RelV x u):GJ u=Z x:=by
 cases x with
 |non=>cases r;rfl
 |bl _=>cases r;rfl
 |int _=>obtain⟨t,rfl⟩:=r;rfl
 |str _=>obtain⟨t,rfl⟩:=r;rfl
 |byt _=>obtain⟨t,rfl⟩:=r;rfl
 |flt _=>obtain⟨t,rfl⟩:=r;rfl
 |ref _=>cases r;rfl
 |ty _=>cases r;rfl
def RelV.inj{x y:V}{u:On}(r:RelV x u)(q:RelV y u):x=y:=Zm (r.abs.symm.trans q.abs)
theorem aK.inj:∀{b a:List V}{d:X3},aK b d->aK a d->b=a
 |_,_,_,.nil,.nil=>rfl
 |_,_,_,.cons r t,.cons f e=>by rw[r.inj f,aK.inj t e]
section
variable{X:Cx}{pins:Xo}{J:St}{H:Hp}{s:IR}{a:KM}{xs ys:List V}
def GW.of{K:Xk}(h:H a=Z (.lst xs)):GW K H a xs:=.inl (.inl h)
def HN.of{K:Xk}(h:H a=Z (.tup xs)):HN K H a xs:=.inl (.inl h)
def Inv.list(I:Inv X pins J H s)(h:GW X.K H a xs):∃b:X3,aK xs b/\PlainL s.heap a b.toArray/\xs.length<=sizeLine:=by
 rcases h with h | ⟨o,b,n,f,g,hd,d,i,r⟩
 ·obtain⟨z,b,n,r,e⟩:=h.ok I.GN;exact⟨b,r,⟨_,n,e,rfl,rfl,rfl⟩,z⟩
 ·refine⟨b.toList,r,⟨o,n,I.Ih a o f,g,hd,by simpa using d⟩,?_⟩;have e:=r.length;simp only[Ya]at e;lia
def Inv.tuple(I:Inv X pins J H s)(h:HN X.K H a xs):∃b:X3,aK xs b/\IsTup s.heap a b.toArray/\xs.length<=sizeLine:=by
 rcases h with h | ⟨o,b,n,f,g,d,i,r⟩
 ·obtain⟨z,b,r,_,p⟩:=h.ok I.GN;exact⟨b,r,p,z⟩
 ·refine⟨b.toList,r,⟨o,I.Ih a o f,g,n,by simpa using d⟩,?_⟩;have e:=r.length;simp only[Ya]at e;lia
def Inv.HY(I:Inv X pins J H s)(h:GW X.K H a xs)(l:GW X.K H a ys):xs=ys:=by
 obtain⟨j,r,⟨o,n,e,_,_,d⟩,_⟩:=I.list h;obtain⟨b,i,⟨m,p,f,_,_,g⟩,_⟩:=I.list l;rw[e]at f;cases f;rw[d]at g;injection g with d1 _
 have:j=b:=by simpa using congrArg Array.toList d1
 subst this;exact r.inj i
def Inv.Kh(I:Inv X pins J H s)(h:HN X.K H a xs)(l:HN X.K H a ys):xs=ys:=by
 obtain⟨j,r,⟨o,e,_,n,d⟩,_⟩:=I.tuple h;obtain⟨b,i,⟨m,f,_,p,g⟩,_⟩:=I.tuple l;rw[e]at f;cases f;rw[d]at g;injection g with d1 _
 have:j=b:=by simpa using congrArg Array.toList d1
 subst this;exact r.inj i
end
abbrev Cx.II(X:Cx)(E:Z5):Cx:={ X with xe:=E }
abbrev Cx.Jy(X:Cx):Cx:=X.II λ_ _=>False
theorem Cx.Ok.II{X:Cx}(a:X.Ok)(E:Z5):(X.II E).Ok :=
 ⟨a.mod,a.kind,a.glob,a.blt,a.above,a.inj,a.has,a.OO,a.hd,a.frames,a.O7,a.TX,a.bs,a.LV,a.KU,a.LQ,a.Ij,a.MX⟩
def Cx.Ok.HF{X:Cx}{E:Z5}(a:(X.II E).Ok):X.Ok :=
 ⟨a.mod,a.kind,a.glob,a.blt,a.above,a.inj,a.has,a.OO,a.hd,a.frames,a.O7,a.TX,a.bs,a.LV,a.KU,a.LQ,a.Ij,a.MX⟩
section
variable{X:Cx}{pins:Xo}{J:St}{H:Hp}{s:IR}{E:Z5}
theorem Inv.II(I:Inv X pins J H s)(E:Z5):Inv (X.II E) pins J H s:=⟨I.ok.II E,I.os,I.bare,I.base,I.loc,I.cell,I.free,I.HM,I.pin,I.GN,I.len⟩
theorem Inv.HF(I:Inv (X.II E) pins J H s):Inv X pins J H s:=⟨I.ok.HF,I.os,I.bare,I.base,I.loc,I.cell,I.free,I.HM,I.pin,I.GN,I.len⟩
theorem SP.HF{D:Ends}{f:Flow}{d:IR}(h:SP (X.II E) pins D f d):SP X pins D f d:=by
 cases f with
 |next=>obtain⟨a,b,I,q⟩:=h;exact⟨a,b,I.HF,q⟩
 |brk=>obtain⟨a,b,I,q⟩:=h;exact⟨a,b,I.HF,q⟩
 |cont=>obtain⟨a,b,I,q⟩:=h;exact⟨a,b,I.HF,q⟩
 |ret u=>obtain⟨v,a,b,I,r,q⟩:=h;exact⟨v,a,b,I.HF,r,q⟩
theorem IH.Jy{a:List Stmt}{t:TS}(h:IH X.Jy a t):IH X a t:=λpins s J H D I hw =>
 YJ (h pins s J H D (I.II _) hw) (λ_ _ q=>q.HF) λ_ _ z=>False.elim z
end
section
variable{X:Cx}{st:Stmt}{rest:List Stmt}{t u:TS}{e:Expr}{te:TE}{pos:Pos}
def FT:TS:=λD J H=>D.nx J H
def GD(t u:TS):TS:=λD J H=>t { D with nx:=u D } J H
def Bg:IH X [] FT:=λ_ _ J H _ I h=>XC ⟨J,H,I,h⟩
def x5(d:PS X st t)(b:IH X rest u):IH X (st :: rest) (GD t u):=by
 intro a s J H D I h;refine wpAny_execs_cons (thn (d a s J H { D with nx:=u D } I h) λf s1 q=>?_);cases f with
 |next =>
  obtain⟨g,j,i,q⟩:=q;exact b a s1 g j D i q
 |ret v=>exact q
 |brk=>exact q
 |cont=>exact q
def aq(b:PS X st t):IH X [st] t:=by
 intro a s J H D I h;refine wpAny_execs_cons (thn (b a s J H D I h) λf s1 q=>?_);cases f with
 |next=>exact XC q
 |ret v=>exact q
 |brk=>exact q
 |cont=>exact q
def Inv.quiet{a:Xo}{J:St}{H:Hp}{s:IR}(I:Inv X a J H s):interactive X.env=R:=by simp[interactive,I.ok.kind]
def E1(a:TE):TS:=λD J H=>a J H λ_ b=>D.nx J b
def kb(f:PE X e te)(d:swapsWith e L pos.line X.env=pure R:=by rfl):PS X (.Expr e pos) (E1 te):=by
 intro a s J H D I h;exact wpAny_Expr_any (thn (f a s J H _ I h) λv s1 ⟨x,i,g,r1,b⟩=>⟨J,i,g,b⟩) I.quiet d
def Ge(a:TE):TS:=λD J H=>a J H D.rt
def p5(d:PE X e te):PS X (.Return (Z e) pos) (Ge te):=by
 intro a s J H D I h;exact wpAny_Return_some (thn (d a s J H _ I h) λv s1 ⟨x,g,f,r1,b⟩=>⟨x,J,g,f,r1,b⟩)
def Gd(c:TT)(t u:TS):TS:=λD J H=>c J H λb a=>if b=B then t D J a else u D J a
def BZ{c:Expr}{a b:List Stmt}{g:TT}(m:PT X c g)(o:IH X a t)(n:IH X b u):PS X (.If c a b pos) (Gd g t u):=by
 intro f s J H D I h;refine wpAny_If (thn (m f s J H _ I h) λd s1 ⟨l,j,i⟩=>?_);cases d with
 |true=>exact o f s1 J l D j i
 |false=>exact n f s1 J l D j i
end
abbrev TG:=V->St->Hp->(St->Hp->Prop)->Prop
abbrev LX:=List V->St->Hp->(St->Hp->Prop)->Prop
def PG(X:Cx)(a:Expr)(t:TG):Prop :=
 ∀(b:Xo)(s:IR)(J:St)(H:Hp)(v:V)(u:On)(Q:St->Hp->Prop),Inv X b J H s->RelV v u->t v J H Q →
  PP (KB X.prog X.w) X.A (assign a X.env u) (λ_ f=>∃d e,Inv X b d e f/\Q d e) X.xe s
def Lu(X:Cx)(g:List Expr)(t:LX):Prop :=
 ∀(a:Xo)(s:IR)(J:St)(H:Hp)(b:List V)(d:X3)(Q:St->Hp->Prop),Inv X a J H s->aK b d->t b J H Q →
  PP (KB X.prog X.w) X.A (assignInOrder ((assignEach g X.env).map (·.2)) d) (λ_ h=>∃e f,Inv X a e f h/\Q e f) X.xe s
abbrev A5:=V->V->V->Hp->(Hp->Prop)->Prop
def DX(X:Cx)(t:A5):Prop :=
 ∀(a:Xo)(s:IR)(J:St)(H:Hp)(o i v:V)(b iv u:On)(Q:Hp->Prop),Inv X a J H s->RelV o b->RelV i iv->RelV v u->t o i v H Q →
  PP (KB X.prog X.w) X.A (setItem b iv u) (λ_ e=>∃d,Inv X a J d e/\Q d) X.xe s
section
variable{X:Cx}{pos:Pos}
def oU(i:Nat):TG:=λv J H Q=>Q (J.set i (Z v)) H
def p6{i:Nat}{x:Str}(f:X.N.Nodup)(d:X.N[i]?=Z x)(b:Loc X.env.scope x)(e:X.fn x=B\/X.env.scope.names.lookup x=Z .local:=by first | exact .inl Y | exact .inr Y | assumption):PG X (.Name x pos) (oU i):=by
 intro a s J H v u Q I r h;exact wpAny_assign_Name (qI I f d b r (λj g=>⟨_,H,g,h⟩) e)
def Gu:LX:=λa J H Q=>a=[]/\Q J H
def Fg(t:TG)(u:LX):LX:=λa J H Q=>∃v r,a=v :: r/\t v J H λb d=>u r b d Q
def AF:Lu X [] Gu:=by
 intro a s J H b d Q I r h;obtain⟨e,h⟩:=h;subst e;cases r;exact assignInOrder_nil ⟨J,H,I,h⟩
def zB{e:Expr}{b:List Expr}{t:TG}{u:LX}(j:PG X e t)(i:Lu X b u)(g:(assignEach (e :: b) X.env).map (·.2)=assign e X.env :: (assignEach b X.env).map (·.2):=by rfl):Lu X (e :: b) (Fg t u):=by
 intro a s J H o q Q I r h;obtain⟨v,p,e1,h⟩:=h;subst e1;cases r with
 |cons r d =>
  rw[g];refine assignInOrder_cons (thn (j a s J H _ _ _ I r h) λ_ s1 ⟨l,n,m,f⟩=>?_);exact i a s1 l n _ _ Q m d f
def oA(K:Xk)(n:Nat)(t:LX):TG:=λv J H Q=>∃a b,v=.ref a/\HN K H a b/\b.length=n/\t b J H Q
def Dj{f:List Expr}{k:Nat}{t:LX}{n:Nat}(w:X.calm=B)(h:Lu X f t)(p:(assignEach f X.env).length=n:=by rfl)(y:(assignEach f X.env).findIdx? (·.1)=L:=by rfl):PG X (.Tuple f k pos) (oA X.K n t):=by
 intro d s J H v u Q I r hw;obtain⟨a,i,e1,m,q,hw⟩:=hw;subst e1;cases r;obtain⟨A,g,l,C⟩:=I.tuple m;refine assign_Tuple_tuple (I.ok.hd w) l (by simp[p,← q,g.length]) y λx j=>?_;have z:Inv X d J H { s with heap:=x }:=I.kept (t':=s.toks) λb o e=>j b o (Zb (ZX e)) e;exact h d _ J H i _ Q z (by simpa using g) hw
def FW(a b:TE)(t:A5):TG:=λv J H Q=>a J H λo f=>b J f λi e=>t o i v e λd=>Q J d
def tU{o i:Expr}{d e:TE}{t:A5}(n:PE X o d)(p:PE X i e)(m:DX X t)(q:∀v,assign (.Subscript o i pos) X.env v=(do
   let b ← holding [v] (eval o X.env)
   let iv ← holding [v,b] (eval i X.env)
   standAt pos
   holding [v,b,iv] (setItem b iv v)
   release [v,b,iv] []):=by intro _;rfl):PG X (.Subscript o i pos) (FW d e t):=by
 intro a s J H v u Q I r h;rw[q];refine Zl (Y6 (thn (n a s J H _ I h) λb s1 ⟨x,E,A,r1,l⟩=>?_));refine Zl (Y6 (thn (p a s1 J E _ A l) λiv f ⟨y,D,z,r2,j⟩=>?_));refine Zl (wpAny_standAt (Zl (Y6 (thn (m a f J D x y v b iv u _ z r1 r2 r j) λ_ F ⟨C,w,g⟩=>?_))));exact wpAny_release ⟨J,C,w,g⟩
def Ga(a:TE)(g:TG):TS:=λD J H=>a J H λx b=>g x J b D.nx
def tZ{b e:Expr}{d:TE}{g:TG}(l:PE X e d)(j:PG X b g)(i:swapsWithSole [b] e pos.line X.env=pure R:=by rfl)(hw:swappedStores [b] e X.env=pure L:=by rfl)(m:(assignEach [b] X.env).map (·.2)=[assign b X.env]:=by rfl):PS X (.Assign [b] e pos) (Ga d g):=by
 intro a s J H D I h;refine wpAny_Assign_stores (thn (l a s J H _ I h) λv s1 ⟨x,o,n,r1,f⟩=>?_) i hw;rw[m];exact thn (j a s1 J o x v _ n r1 f) λ_ p q=>q
def pK{i:Nat}{x:Str}{e:Expr}{d:TE}{a:Pos}(o:X.N.Nodup)(l:X.N[i]?=Z x)(g:Loc X.env.scope x)(n:PE X e d)(j:swapsWith e (Z (.Name x a)) pos.line X.env=pure R:=by rfl)(m:X.fn x=B\/X.env.scope.names.lookup x=Z .local:=by first | exact .inl Y | exact .inr Y | assumption) :
  PS X (.Assign [.Name x a] e pos) (Ga d (oU i)):=by
 intro b s J H D I h;refine wpAny_Assign_Name (thn (n b s J H _ I h) λv s1 ⟨y,r,q,r1,f⟩=>?_) j;exact qI q o l g r1 (λt p=>⟨_,r,p,f⟩) m
end
section
variable{X:Cx}{pos:Pos}
def CP(c:TT)(g:TS):TS:=λD J H=>∃W:Nat->St->Hp->Prop,(∃m,W m J H)/\∀m J H,W m J H →
 c J H λb e=>if b=B then ∃N:St->Hp->Prop,(∀d f,N d f->∃a,a<m/\W a d f)/\g { D with nx:=N,ct:=N,bk:=D.nx } J e else D.nx J e
def xE{c:Expr}{d:List Stmt}{t:TT}{u:TS}(x:PassesOwn (KB X.prog X.w) X.A X.env X.xe)(S:PT X c t)(U:IH X d u):PS X (.While c d [] pos) (CP t u):=by
 intro a s J H D I h;obtain⟨W,⟨Q,M⟩,turn⟩:=h;refine wpAny_While (codeAny_whileLoop (λn P=>∃y F,Inv X a y F P/\W n y F) ?_ Q ⟨J,H,I,M⟩);rintro n s1 ⟨l,E,I1,G⟩;refine YB x (thn (S a s1 l E _ I1 (turn n l E G)) λb O ⟨C,z,j⟩=>?_);cases b with
 |true =>
  obtain⟨N,hN,j⟩:=j;rw[Zq Y];refine YB x (thn (U a O l C _ z j) λf s3 i=>?_);cases f with
  |next =>
   obtain⟨e,g,r,o⟩:=i;obtain⟨p,q,m⟩:=hN e g o;exact⟨p,q,e,g,r,m⟩
  |cont =>
   obtain⟨e,g,r,o⟩:=i;obtain⟨p,q,m⟩:=hN e g o;exact⟨p,q,e,g,r,m⟩
  |brk=>exact i
  |ret v=>exact i
 |false =>
  rw[Zn Zc];exact XC ⟨l,C,z,j⟩
end
structure It where
 go:Nat->Hp->Prop
 O0:Nat->Hp->V->Hp->Prop
 stop:Nat->Hp->Prop
def nZ(X:Cx)(a:Xo)(H:Hp)(b:KM):Prop :=
 H b=L/\b≠X.env.locals/\b∉X.fs/\(b∈X.ex\/X.s₀.heap.objs.size<=b)/\(∀x c,X.env.cells.lookup x=Z c->c≠b)/\∀p∈X.pn++a,p.1≠b
def Inv.Ko{X:Cx}{a:Xo}{J:St}{H f:Hp}{s:IR}{b:KM}(I:Inv X a J H s)(d:s.heap.objs.size<=b)(h:f b=L):nZ X a f b:=by
 refine⟨h,XT (ZL I.lt d),I.QB d,.inr (ZJ I.sz d),λx c e z=>?_,λp g z=>?_⟩
 ·obtain⟨v,q⟩:=I.cell x c e;exact absurd (ZL q.lt (by rw[z];exact d)) (Yh _)
 ·exact absurd (ZL (ZX (I.pin p g).1) (by rw[z];exact d)) (Yh _)
structure Turn(P:Re)(w:UF)(K:Xk)(tg:Expr)(Jq:It)(fp:Xa)(it:KM)(tn:Nat->SZ->Prop):Prop where
 mem:it∈fp
 obj:∀i h,tn i h->∀b∈fp,∃o,h.get? b=some o/\∀v,o.data ≠ .cell v
 keep:∀i h h',tn i h->(∀b∈fp,∀o,h.get? b=some o->h'.get? b=some o)->tn i h'
 item:∀(X:Cx),X.prog=P->X.w=w->X.K=K->X.calm=true->∀(i:Nat)(pins:Xo)(s:IR)(J:St)(H:Hp)(E:Z5),Inv X pins J H s->(∀b∈fp,nZ X pins H b)->tn i s.heap->Jq.go i H →
  PP (KB P w) X.A (pyNext (.ref it)) (λr s1=>∃u,r=some u ∧
   PP (KB P w) X.A (letOwnedTupleGo tg (.ref it) u) (λ_ s2=>∃x H',Inv X pins J H' s2/\RelV x u/\Jq.O0 i H x H'/\tn (i+1) s2.heap/\∀b∈fp,H' b=none) E s1) E s
 done:∀(X:Cx),X.prog=P->X.w=w->X.K=K->X.calm=true->∀(i:Nat)(pins:Xo)(s:IR)(J:St)(H:Hp)(E:Z5),Inv X pins J H s->(∀b∈fp,nZ X pins H b)->tn i s.heap->Jq.stop i H →
  PP (KB P w) X.A (pyNext (.ref it)) (λr s1=>r=none/\Inv X pins J H s1) E s
 self:∀(A:SB)(i:Nat)(s:IR)(Q:Z5)(E:Z5),tn i s.heap->Q (.ref it) s->PP (KB P w) A (pyIter (.ref it)) Q E s
abbrev TI:=St->Hp->(It->Hp->Prop)->Prop
def T5(X:Cx)(a:Xo)(J:St)(h:Expr)(R:It->Hp->Prop)(i:On)(f:IR):Prop :=
 ∃(it:KM)(fp:Xa)(e:Nat->SZ->Prop)(g:It)(d:Hp),i=.ref it/\Inv X a J d f/\Turn X.prog X.w X.K h g fp it e/\e 0 f.heap/\(∀b∈fp,nZ X a d b)/\R g d
def PI(X:Cx)(e b:Expr)(d:TI):Prop :=
 ∀(a:Xo)(s:IR)(J:St)(H:Hp)(R:It->Hp->Prop),Inv X a J H s->d J H R →
  PP (KB X.prog X.w) X.A (eval b X.env) (λv s1=>PP (KB X.prog X.w) X.A (pyIter v) (T5 X a J e R) X.xe s1) X.xe s
def sC{f:Model}{A:SB}{E:Z5}{s:IR}{d:Expr}{e:KM}{u:On}{o:Obj}{n:String}{b:Array On}{Q:Unit->IR->Prop}(g:s.heap.get? e=Z o)(l:o.cls=.type n)(j:o.data=.fields b)(i:["enumerate", "zip", "dict_itemiterator", "dict_reverseitemiterator", "odict_iterator", "itertools.zip_longest", "itertools.pairwise"].contains n=R)(a:Q () s):PP f A (letOwnedTupleGo d (.ref e) u) Q E s:=by
 unfold letOwnedTupleGo;cases d<;>first
  |exact ZS a
  | (cases u<;>first
    |exact ZS a
    | (refine Zl (wpAny_load g ?_)
       rw[l,j];show PP f A (if (["enumerate", "zip", "dict_itemiterator", "dict_reverseitemiterator", "odict_iterator", "itertools.zip_longest", "itertools.pairwise"].contains n&&b[0]? == Z (rawInt _))=B then _ else _) Q E s;rw[Zn (by intro h;rw[i,Bool.false_and]at h;cases h)];exact ZS a))
def Sg(K:Xk)(a:KM):It :=
 ⟨λi H=>∃b x,GW K H a b/\b[i]?=Z x,λi H x d=>d=H/\∀b,GW K H a b->b[i]?=Z x,λi H=>∃b,GW K H a b/\b.length<=i⟩
def Sf(K:Xk)(a:KM):It :=
 ⟨λi H=>∃b x,HN K H a b/\b[i]?=Z x,λi H x d=>d=H/\∀b,HN K H a b->b[i]?=Z x,λi H=>∃b,HN K H a b/\b.length<=i⟩
def OW(a:Int)(n:Nat):It:=⟨λi _=>i<n,λi H x b=>b=H/\x=.int (a+i),λi _=>n<=i⟩
def vL{P:Re}{w:UF}{K:Xk}{N:Expr}(a g:KM):Turn P w K N (Sg K a) [g] g (λi h=>h.IsListIter g a i) where
 mem:=by simp
 obj:=λi h st b hb=>by
  have e:b=g:=by simpa using hb
  subst e;obtain⟨o,e,c,d⟩:=st;exact⟨o,e,λv z=>by rw[d]at z;cases z⟩
 keep:=λi h m st k=>st.at λo e=>k g (by simp) o e
 item:=by
  intro X r hw t F i f s J H E I l st hg;subst r hw t;obtain⟨M,x,j,q⟩:=hg;obtain⟨S,n,p,U⟩:=I.list j;obtain⟨u,hu,Q⟩:=n.get q;obtain⟨D,f1,f2,C,A,y⟩:=l g (by simp);refine wpAny_pyNext_list_item st p.isList (x:=u) (by simpa using hu) λm G O=>?_;have I1:Inv X f J H { s with heap:=m }:=I.turned (t':=s.toks) (λb o hb e=>(O.2 b hb).trans e) D f1 C A y;obtain⟨o,e,c,d⟩:=id G;exact⟨u,rfl,sC (s:={ s with heap:=m }) e c d (by decide) ⟨x,H,I1,Q,⟨rfl,λys Y=>by rw[I.HY Y j];exact q⟩,G,λb hb=>(l b hb).1⟩⟩
 done:=by
  intro X r hw t F i f s J H E I l st hg;subst r hw t;obtain⟨M,j,q⟩:=hg;obtain⟨S,n,p,U⟩:=I.list j;obtain⟨D,f1,f2,C,A,y⟩:=l g (by simp);have hl:=n.length;exact wpAny_pyNext_list_end (I.ok.hd F) st p.isList (by simp;lia) λm eb=>⟨rfl,I.turned (t':=s.toks) (λb o hb e=>eb b o hb e) D f1 C A y⟩
 self:=λ_ _ _ _ _ st h=>wpAny_pyIter_listiter st h
def uc{P:Re}{w:UF}{K:Xk}{O:Expr}(a g:KM):Turn P w K O (Sf K a) [g] g (λi h=>h.IsTupleIter g a i) where
 mem:=by simp
 obj:=λi h st b hb=>by
  have e:b=g:=by simpa using hb
  subst e;obtain⟨o,e,c,d⟩:=st;exact⟨o,e,λv z=>by rw[d]at z;cases z⟩
 keep:=λi h m st k=>st.at λo e=>k g (by simp) o e
 item:=by
  intro X t hw y G i f s J H E I l st hg;subst t hw y;obtain⟨N,x,j,r⟩:=hg;obtain⟨q,n,p,U⟩:=I.tuple j;obtain⟨u,hu,S⟩:=n.get r;obtain⟨F,f1,f2,D,C,A⟩:=l g (by simp);refine wpAny_pyNext_tuple_item st (show s.heap.IsTuple a q.toArray from p) (x:=u) (by simpa using hu) λm M Q=>?_;have I1:Inv X f J H { s with heap:=m }:=I.turned (t':=s.toks) (λb o hb e=>(Q.2 b hb).trans e) F f1 D C A;obtain⟨o,e,c,d⟩:=id M;exact⟨u,rfl,sC (s:={ s with heap:=m }) e c d (by decide) ⟨x,H,I1,S,⟨rfl,λys Y=>by rw[I.Kh Y j];exact r⟩,M,λb hb=>(l b hb).1⟩⟩
 done:=by
  intro X t hw y G i f s J H E I l st hg;subst t hw y;obtain⟨N,j,r⟩:=hg;obtain⟨q,n,p,U⟩:=I.tuple j;obtain⟨F,f1,f2,D,C,A⟩:=l g (by simp);have hl:=n.length;exact wpAny_pyNext_tuple_end (I.ok.hd G) st (show s.heap.IsTuple a q.toArray from p) (by simp;lia) λm eb=>⟨rfl,I.turned (t':=s.toks) (λb o hb e=>eb b o hb e) F f1 D C A⟩
 self:=λ_ _ _ _ _ st h=>wpAny_pyIter_tupleiter st h
def sT{P:Re}{w:UF}{K:Xk}{D:Expr}(d:KM)(f:Int)(n:Nat):Turn P w K D (OW f n) [d] d (λi h=>IsRangeIter h d (f+(i:Nat)*1) ((n:Int)-(i:Nat)) 1) where
 mem:=by simp
 obj:=λi h st b hb=>by
  have e:b=d:=by simpa using hb
  subst e;exact⟨_,st,λv z=>by
   have C:Data.fields _=Data.cell v:=z;cases C⟩
 keep:=λi h j st k=>k d (by simp) _ st
 item:=by
  intro X m hw p l i a s J H E I g st hg;subst m hw p;obtain⟨x,f1,f2,u,r,q⟩:=g d (by simp);have W:=Walks.range (prog:=X.prog) (w:=X.w) (I.ok.hd l) d f 1 n;refine W.item i s _ _ hg st λv j y G A F=>?_;obtain⟨t,rfl⟩:=G;have N:Inv X a J H { s with heap:=j,toks:=y }:=I.turned (λb o hb e=>F b o (by simpa using hb) e) x f1 u r q;refine⟨_,rfl,sC (s:={ s with heap:=j,toks:=y }) (n := "range_iterator") A Y Y (by decide) ⟨.int (f+i),H,N,⟨t,?_⟩,⟨rfl,rfl⟩,A,λb hb=>(g b hb).1⟩⟩;rw[Int.mul_one]
 done:=by
  intro X m hw p l i a s J H E I g st hg;subst m hw p;obtain⟨x,f1,f2,u,r,q⟩:=g d (by simp);exact wpAny_pyNext_range_end (I.ok.hd l) st (by have:n<=i:=hg;lia) λj M=>⟨rfl,I.turned (t':=s.toks) (λb o hb e=>M b o hb e) x f1 u r q⟩
 self:=λ_ _ _ _ _ st h=>wpAny_pyIter_rangeiter st h
section
variable{X:Cx}{tg:Expr}
def qK{f:Xo}{J:St}{H:Hp}{s:IR}{R:It->Hp->Prop}{E:Z5}{a d:Int}{t u v:Tok}{g:Nat}(I:Inv X f J H s)(m:-(2 ^ 62)<=a)(l:a<2 ^ 62)(j:-(2 ^ 62)<=d)(i:d<2 ^ 62)(q:R (OW a (d-a).toNat) H):PP (KB X.prog X.w) X.A (pyIter (.ref s.heap.objs.size)) (T5 X f J tg R) E { s with heap:=s.heap.push { cls:=.type "range",data:=.fields #[.int a t,.int d u,.int 1 v] },toks:=g }:=by
 refine wpAny_pyIter_range (IsRange.new ..) (small_one m l j i) ?_;have h:Inv X f J H { s with heap:=s.heap.push { cls:=.type "range",data:=.fields #[.int a t,.int d u,.int 1 v] },toks:=g }:=I.kept λb o e=>Zk _ e;refine⟨(s.heap.push { cls:=.type "range",data:=.fields #[.int a t,.int d u,.int 1 v] }).objs.size,[(s.heap.push { cls:=.type "range",data:=.fields #[.int a t,.int d u,.int 1 v] }).objs.size],_,_,H,rfl,
  h.kept (t':=g) λb o e=>Zk _ e,sT _ a (d-a).toNat,?_,λb hb=>?_,q⟩
 ·have e1:a+((0:Nat):Int)*1=a:=by simp
  have e2:(((d-a).toNat:Nat):Int)-((0:Nat):Int)=Builtin.Range.rangeSize a d 1:=by rw[rangeSize_one];split<;>lia
  show IsRangeIter _ _ (a+((0:Nat):Int)*1) ((((d-a).toNat:Nat):Int)-((0:Nat):Int)) 1;rw[e1,e2];exact ZU _ Y
 ·have e:b=(s.heap.push { cls:=.type "range",data:=.fields #[.int a t,.int d u,.int 1 v] }).objs.size:=by simpa using hb
  subst e;exact h.Ko (Zj _) (h.GN.fresh (Zj _))
def BK(b:TA):TI:=λJ H R=>b J H λa d=>∃j:Int,a=[.int j]/\-(2 ^ 62)<=j/\j<2 ^ 62/\R (OW 0 j.toNat) d
def Fl(b:TA):TI:=λJ H R=>b J H λa d=>∃i j:Int,a=[.int i,.int j]/\(-(2 ^ 62)<=i/\i<2 ^ 62/\-(2 ^ 62)<=j/\j<2 ^ 62)/\R (OW i (j-i).toNat) d
def jl{a:Expr}{g:TA}{p b:Pos}(o:Gl X "range")(n:X.mg "range" = L)(u:PA X [a] g)(m:Pv [a] X.env=[(false,eval a X.env)]:=by rfl):PI X tg (.Call (.Name "range" p) [a] [] b) (BK g):=by
 intro d s J H R I h;refine Call_ (i7 I o n boot_range (Yl (thn (u b d s J H _ I h) λx s1 ⟨w,y,v,r1,f⟩=>?_) m Y));obtain⟨j,e,f,l,q⟩:=f;subst e;cases r1 with
 |cons r i =>
  cases i;obtain⟨t,rfl⟩:=r;exact call_range_1 (qK v (by lia) (by lia) f l (by simpa using q))
def wc{a b:Expr}{m:TA}{p d:Pos}(z:Gl X "range")(y:X.mg "range" = L)(A:PA X [a,b] m)(x:Pv [a,b] X.env=[(false,eval a X.env),(false,eval b X.env)]:=by rfl)(n:Pv [b] X.env=[(false,eval b X.env)]:=by rfl) :
  PI X tg (.Call (.Name "range" p) [a,b] [] d) (Fl m):=by
 intro f s J H R I h;refine Call_ (i7 I z y boot_range (Yl (thn (A d f s J H _ I h) λE s1 ⟨D,G,C,r1,l⟩=>?_) (by rw[x,n]) (by rw[n];rfl)));obtain⟨i,j,e,⟨l,w,v,u⟩,q⟩:=l;subst e;cases r1 with
 |cons r g =>
  cases g with
  |cons o g =>
   cases g;obtain⟨t,rfl⟩:=r;obtain⟨F,rfl⟩:=o;exact call_range_2 (qK C l w v u q)
def FD(f:TI)(g:TG)(h:TS):TS:=λD J H=>f J H λb n=>∃W:Nat->Nat->St->Hp->Prop,(∃m,W 0 m J n)/\∀i m J H,W i m J H →
 (b.stop i H/\D.nx J H)\/(b.go i H/\∃N:St->Hp->Prop,(∀e a,N e a->∃d,d<m/\W (i+1) d e a)/\∀x a,b.O0 i H x a->g x J a λj l=>h { D with nx:=N,ct:=N,bk:=D.nx } j l)
def nI(a:Xa)(h:SZ):Xo:=a.filterMap λb=>(h.get? b).map λo=>(b,o)
def ik{a:Xa}{h:SZ}{b:KM}{o:Obj}(d:b∈a)(e:h.get? b=Z o):(b,o)∈nI a h:=List.mem_filterMap.mpr ⟨b,d,by rw[e];rfl⟩
def vV{a:Xa}{h:SZ}{p:KM×Obj}(d:p∈nI a h):p.1∈a/\h.get? p.1=Z p.2:=by
 obtain⟨b,hb,e⟩:=List.mem_filterMap.mp d;cases q:h.get? b with
 |none=>rw[q]at e;cases e
 |some o =>
  rw[q]at e;have f:(b,o)=p:=Zm e;subst f;exact⟨hb,q⟩
def Inv.pinned{a:Xo}{J:St}{H:Hp}{s:IR}{f:Xa}(I:Inv X a J H s)(j:∀b∈f,nZ X a H b)(i:∀b∈f,∃o,s.heap.get? b=Z o/\∀v,o.data ≠ .cell v):Inv X (a++nI f s.heap) J H s :=
 I.J9 λp h=>(Zd.mp h).elim (λz=>I.pin p (ZQ _ z)) λz=>by
  obtain⟨hb,e⟩:=vV z;obtain⟨l,f1,f2,_⟩:=j p.1 hb;obtain⟨o,g,d⟩:=i p.1 hb;rw[e]at g;cases g;exact⟨e,l,f1,f2,d⟩
def Inv.HW{a b:Xo}{J:St}{H:Hp}{s:IR}(I:Inv X (a++b) J H s):Inv X a J H s:=I.J9 λp d=>I.pin p (ZQ _ (ZD _ d))
def xH{j:Expr}{C:List Stmt}{wi:TI}{g:TG}{tb:TS}{Q:Pos}(F:PassesOwn (KB X.prog X.w) X.A X.env X.xe)(hc:X.calm=B)(hi:PI X tg j wi)(hg:PG X tg g)(l:IH X C tb)(hs:∀x,XAA j X.env x=pure x:=by intro _;rfl):PS X (.For tg j C [] Q) (FD wi g tb):=by
 intro a s J H D I h;refine wpAny_For (thn (hi a s J H _ I h) λv s1 h1=>thn h1 λQN s2 h2=>?_) hs;obtain⟨it,fp,tn,Jq,H2,e,I2,T,O8,f2,W,⟨m0,w0⟩,turn⟩:=h2;subst e;have JO:∀{y:Hp},(∀b∈fp,y b=L)->∀b∈fp,nZ X a y b:=λhn b l=>⟨hn b l,(f2 b l).2⟩
 refine codeAny_forLoop_any (λn s'=>∃i M y,Inv X a M y s'/\tn i s'.heap/\(∀b∈fp,y b=L)/\W i n M y) ?_ m0 ⟨0,J,H2,I2,O8,λb l=>(f2 b l).1,w0⟩;rintro n s3 ⟨i,G,O,I3,L4,OA,w3⟩;rcases turn i n G O w3 with⟨stop,qn⟩ | ⟨go,N,hN,step⟩
 ·refine YB F (thn (T.done X Y Y Y hc i a s3 G O X.xe I3 (JO OA) L4 stop) λr s4 ⟨S,I4⟩=>?_);subst S;exact XC ⟨G,O,I4,qn⟩
 ·refine YB F (thn (T.item X Y Y Y hc i a s3 G O X.xe I3 (JO OA) L4 go) λr s4 ⟨u,S,h4⟩=>?_);subst S;refine YB F (thn h4 λ_ s5 ⟨x,H5,I5,r5,y5,U,RI⟩=>?_);have Sj:=I5.pinned (JO RI) (T.obj _ _ U);refine YB F (thn (hg _ s5 G H5 x u _ Sj r5 (step x H5 y5)) λ_ s6 ⟨J6,H6,I6,q6⟩=>?_);refine YB F (thn (l _ s6 J6 H6 _ I6 q6) λf P z=>?_);have again:∀{p:St}{t:Hp},Inv X (a++nI fp s5.heap) p t P->N p t->∃m,m<n/\∃i M y,Inv X a M y P/\tn i P.heap/\(∀b∈fp,y b=L)/\W i m M y:=λ{p t} q E=>by
   obtain⟨m',hm,w7⟩:=hN p t E;refine⟨m',hm,i+1,p,t,q.HW,T.keep _ _ _ U λb l o e=>(q.pin (b,o) (ZQ _ (ZQ _ (ik l e)))).1,λb l=>?_,w7⟩;obtain⟨o,e,d⟩:=T.obj _ _ U b l;exact(q.pin (b,o) (ZQ _ (ZQ _ (ik l e)))).2.1
  cases f with
  |next=>obtain⟨p,t,q,E⟩:=z;exact again q E
  |cont=>obtain⟨p,t,q,E⟩:=z;exact again q E
  |brk=>obtain⟨p,t,q,z⟩:=z;exact⟨p,t,q.HW,z⟩
  |ret v=>obtain⟨x7,p,t,q,r7,z⟩:=z;exact⟨x7,p,t,q.HW,r7,z⟩
end
abbrev R2:=V->V->Hp->VK->Prop
def OpR(X:Cx)(f:On->On->Sem On)(r:R2):Prop :=
 ∀(a:Xo)(s:IR)(J:St)(H:Hp)(x y:V)(v u:On)(Q:VK),Inv X a J H s->RelV x v->RelV y u->r x y H Q →
  PP (KB X.prog X.w) X.A (f v u) (EP X a J Q) X.xe s
def UnR(X:Cx)(f:On->Sem On)(r:V->Hp->VK->Prop):Prop :=
 ∀(a:Xo)(s:IR)(J:St)(H:Hp)(x:V)(v:On)(Q:VK),Inv X a J H s->RelV x v->r x H Q →
  PP (KB X.prog X.w) X.A (f v) (EP X a J Q) X.xe s
def d6(X:Cx)(f:On)(r:List V->Hp->VK->Prop):Prop :=
 ∀(a:Xo)(s:IR)(J:St)(H:Hp)(b:List V)(d:X3)(Q:VK),Inv X a J H s->aK b d->r b H Q →
  PP (KB X.prog X.w) X.A (call f d) (EP X a J Q) X.xe s
def Gz(X:Cx)(r:V->Hp->(Bool->Hp->Prop)->Prop):Prop :=
 ∀(a:Xo)(s:IR)(J:St)(H:Hp)(x:V)(v:On)(Q:Bool->Hp->Prop),Inv X a J H s->RelV x v->r x H Q →
  PP (KB X.prog X.w) X.A (truthy v) (TP X a J Q) X.xe s
def NM(r:R2)(b a:TE):TE:=λJ H Q=>b J H λx e=>a J e λy d=>r x y d Q
def Ul(r:V->Hp->VK->Prop)(a:TE):TE:=λJ H Q=>a J H λx b=>r x b Q
def rI(C:Int->Int->Prop)(g:Int->Int->V):R2:=λx y H Q=>∃i j,x=.int i/\y=.int j/\C i j/\Q (g i j) H
def J8(g:Int->Int->V):R2:=λx y H Q=>∃i j,x=.int i/\y=.int j/\Q (g i j) H
def rU(g:Int->V):V->Hp->VK->Prop:=λx H Q=>∃i,x=.int i/\Q (g i) H
section
variable{X:Cx}{a b c:Expr}{ta tb tc:TE}{pos:Pos}
def FL(q:PE X a ta)(p:PE X b tb){d:Xo}{s:IR}{J:St}{H:Hp}{R:V->V->Hp->Prop}(I:Inv X d J H s)(h:ta J H λx i=>tb J i λy e=>R x y e){Q:Z5}{f:On->On->Sem On}(o:∀v u g x y e,Inv X d J e g->RelV x v->RelV y u->R x y e->PP (KB X.prog X.w) X.A (f v u) Q X.xe g) :
  PP (KB X.prog X.w) X.A (eval a X.env) (λv l=>PP (KB X.prog X.w) X.A (eval b X.env) (λu j=>PP (KB X.prog X.w) X.A (f v u) Q X.xe j) X.xe l) X.xe s:=by
 refine thn (q d s J H _ I h) λv s1 ⟨x,i,t,r1,n⟩=>?_;refine thn (p d s1 J i _ t n) λu g ⟨y,e,r,r2,m⟩=>?_;exact o v u g x y e r r1 r2 m
def xO{e:Operator}{r:R2}(j:OpR X (binaryOp e) r)(m:PE X a ta)(l:PE X b tb):PE X (.BinOp a e b pos) (NM r ta tb):=by
 intro d s J H Q I h;exact wpAny_BinOp (FL m l I h λv u f x y o n i g q=>j d f J o x y v u Q n i g q)
def Fd{e:UnaryOp}{r:V->Hp->VK->Prop}(g:UnR X (unaryOp e) r)(i:PE X a ta):PE X (.UnaryOp e a pos) (Ul r ta):=by
 intro d s J H Q I h;exact UnaryOp_ (thn (i d s J H _ I h) λv s1 ⟨x,l,j,r1,f⟩=>g d s1 J l x v Q j r1 f)
def P8{f:On->On->Sem On}{C:Int->Int->Prop}{g:Int->Int->Int}(d:∀(i j:Int)(t u:Tok)(s:IR)(Q:Z5)(E:Z5),C i j->Q (.int (g i j) s.toks) { s with toks:=s.toks+1 }->PP (KB X.prog X.w) X.A (f (.int i t) (.int j u)) Q E s) :
  OpR X f (rI C λi j=>.int (g i j)):=by
 intro e s J H x y v u Q I n m h;obtain⟨i,j,rfl,rfl,o,q⟩:=h;obtain⟨t,rfl⟩:=n;obtain⟨l,rfl⟩:=m;exact d i j t l s _ _ o ⟨.int (g i j),H,I.tok _,⟨_,rfl⟩,q⟩
def ED{f:On->On->Sem On}{g:Int->Int->Int}(d:∀(i j:Int)(t u:Tok)(s:IR)(Q:Z5)(E:Z5),Q (.int (g i j) s.toks) { s with toks:=s.toks+1 }->PP (KB X.prog X.w) X.A (f (.int i t) (.int j u)) Q E s) :
  OpR X f (J8 λi j=>.int (g i j)):=by
 intro e s J H x y v u Q I n m h;obtain⟨i,j,rfl,rfl,q⟩:=h;obtain⟨t,rfl⟩:=n;obtain⟨l,rfl⟩:=m;exact d i j t l s _ _ ⟨.int (g i j),H,I.tok _,⟨_,rfl⟩,q⟩
def Bl{f:On->On->Sem On}{g:Int->Int->Bool}(d:∀(i j:Int)(t u:Tok)(s:IR)(Q:Z5)(E:Z5),Q (.bool (g i j)) s->PP (KB X.prog X.w) X.A (f (.int i t) (.int j u)) Q E s) :
  OpR X f (J8 λi j=>.bl (g i j)):=by
 intro e s J H x y v u Q I n m h;obtain⟨i,j,rfl,rfl,q⟩:=h;obtain⟨t,rfl⟩:=n;obtain⟨l,rfl⟩:=m;exact d i j t l s _ _ ⟨.bl (g i j),H,I,rfl,q⟩
def Ej(i j:Int):Prop:=0<j/\j<1073741824
def Ak(i j:Int):Prop:=(-(2 ^ 64)<i/\i<2 ^ 64)\/(-(2 ^ 64)<j/\j<2 ^ 64)
def Ak.ok{i j:Int}(h:Ak i j):IntMulOk i j:=by
 rcases h with⟨e,d⟩ | ⟨e,d⟩
 ·exact .of_left (intBits_le_64 e d)
 ·exact .of_right (intBits_le_64 e d)
def C2:OpR X (binaryOp .Add) (J8 λi j=>.int (i+j)):=ED λ_ _ _ _ _ _ _ q=>add_int q
def lE:OpR X (binaryOp .Sub) (J8 λi j=>.int (i-j)):=ED λ_ _ _ _ _ _ _ q=>sub_int q
def Cu:OpR X (binaryOp .Mult) (rI Ak λi j=>.int (i*j)):=P8 λ_ _ _ _ _ _ _ d q=>mul_int q d.ok
def mF:OpR X (binaryOp .FloorDiv) (rI Ej λi j=>.int (i/j)):=P8 λi j _ _ _ _ _ d q=>by
 have f:(0:Int)<j:=d.1;have e:j<1073741824:=d.2;exact floordiv_int (by lia) (by rw[Int.fdiv_eq_ediv_of_nonneg i (by lia)];exact q) (.inl (PyProof.noPylong_small (by omega)))
def CU:OpR X (binaryOp .Mod) (rI (λ_ j=>0<j) λi j=>.int (i%j)):=P8 λi j _ _ _ _ _ d q=>by
 have e:(0:Int)<j:=d;exact mod_int' (by lia) (by rw[Int.fmod_eq_emod_of_nonneg i (by lia)];exact q)
def Uj{f:On->Sem On}{g:Int->Int}(d:∀(i:Int)(t:Tok)(s:IR)(Q:Z5)(E:Z5),Q (.int (g i) s.toks) { s with toks:=s.toks+1 }->PP (KB X.prog X.w) X.A (f (.int i t)) Q E s) :
  UnR X f (rU λi=>.int (g i)):=by
 intro e s J H x v Q I j h;obtain⟨i,rfl,q⟩:=h;obtain⟨t,rfl⟩:=j;exact d i t s _ _ ⟨.int (g i),H,I.tok _,⟨_,rfl⟩,q⟩
def Eb:UnR X (unaryOp .USub) (rU λi=>.int (-i)):=Uj λ_ _ _ _ _ q=>neg_int q
end
section
variable{X:Cx}{a b c:Expr}{ta tb tc:TE}{pos:Pos}
def D4{d:Xo}{J:St}{H:Hp}{s:IR}{Q:VK}{k f:Bool}(I:Inv X d J H s)(q:Q (.bl k) H)(e:k=f):EP X d J Q (.bool f) s:=by
 subst e;exact⟨.bl k,H,I,rfl,q⟩
def Fq:OpR X (SL .Lt) (J8 λi j=>.bl (decide (i<j))):=Bl λ_ _ _ _ _ _ _ q=>lt_int q
def Es:OpR X (SL .LtE) (J8 λi j=>.bl (decide (i<=j))):=Bl λ_ _ _ _ _ _ _ q=>le_int q
def FE:OpR X (SL .Gt) (J8 λi j=>.bl (decide (j<i))):=Bl λ_ _ _ _ _ _ _ q=>gt_int q
def Em:OpR X (SL .GtE) (J8 λi j=>.bl (decide (j<=i))):=Bl λ_ _ _ _ _ _ _ q=>ge_int q
def vJ:OpR X (SL .Lt) (λx y H Q=>∃i j,x=.str i/\y=.str j/\Q (.bl (decide (i.cps.toList<j.cps.toList))) H):=by
 intro d s J H x y v u Q I f e h;obtain⟨i,j,rfl,rfl,q⟩:=h;obtain⟨t,rfl⟩:=f;obtain⟨g,rfl⟩:=e;exact lt_str (D4 I q Y)
def OpR.or{f:On->On->Sem On}{r i:R2}(h:OpR X f r)(j:OpR X f i):OpR X f (λx y H Q=>r x y H Q\/i x y H Q):=by
 intro d s J H x y v u Q I g e q;rcases q with q | q
 ·exact h d s J H x y v u Q I g e q
 ·exact j d s J H x y v u Q I g e q
def jU(b:Expr){d:CmpOp}(h:d ≠ .In:=by decide)(e:d ≠ .NotIn:=by decide):behindInMarks d b=R:=by
 have e1:(d==CmpOp.In)=R:=by cases d<;>first | rfl | exact absurd Y h
 have e2:(d==CmpOp.NotIn)=R:=by cases d<;>first | rfl | exact absurd Y e
 cases b<;>simp[behindInMarks,e1,e2]
def yd(t:TE):TT:=λJ H Q=>t J H λx d=>∃k,x=.bl k/\Q k d
def vo{f:CmpOp}{r:R2}(n:OpR X (SL f) r)(q:PE X a ta)(p:PE X b tb)(o:behindInMarks f b=R):PT X (.Compare a [f] [b] pos) (yd (NM r ta tb)):=by
 intro d s J H Q I h;refine wpAny_isTrue_Compare1 (thn (q d s J H _ I h) λv s1 ⟨x,E,A,r1,m⟩=>thn (p d s1 J E _ A m) λu g ⟨y,D,w,r2,l⟩ =>
  thn (n d g J D x y v u _ w r1 r2 l) λc F ⟨z,C,t,i,k,e,j⟩=>?_) o
 subst e;cases i;exact YY ⟨C,t,j⟩
def yO(r i:R2)(h g f:TE):TE:=λJ H Q=>h J H λx m=>g J m λy l=>r x y l λz d=>∃k,z=.bl k ∧
 (if k=B then f J d λe j=>i y e j Q else Q (.bl R) d)
def sD{g i:CmpOp}{r j:R2}(O:OpR X (SL g) r)(JA:OpR X (SL i) j)(Y:PE X a ta)(U:PE X b tb)(S:PE X c tc)(P:lastMarks [g,i] [b,c]=R:=by with_unfolding_all rfl):PT X (.Compare a [g,i] [b,c] pos) (yd (yO r j ta tb tc)):=by
 intro f s J H Q I h;refine isTrue_chain (thn (Y f s J H _ I h) λv s1 ⟨x,H1,I1,r1,M⟩=>test_link (thn (U f s1 J H1 _ I1 M) λu w ⟨y,H2,I2,r2,G⟩ =>
  thn (O f w J H2 x y v u _ I2 r1 r2 G) λd t ⟨z,n,m,D,k,e,l⟩=>?_)) P
 subst e;cases D;refine YY ?_;cases k with
 |false =>
  obtain⟨k',e',N⟩:=l;cases e';exact ite_ff ⟨n,m,N⟩
 |true =>
  refine ite_tt (test_last (thn (S f t J n _ m l) λp q ⟨o,H4,I4,C,F⟩=>thn (JA f q J H4 y o u p _ I4 r2 C F) λd' s5 ⟨z2,H5,I5,A,k2,e2,E⟩=>?_));subst e2;cases A;exact YY ⟨H5,I5,E⟩
def C5(K:Xk)(x:V)(H:Hp)(k:Bool):Prop :=
 match x with
 |.non=>k=R
 |.bl b=>k=b
 |.int i=>k=(i != 0)
 |.str y=>y.length<=KF/\k=((y.length:Int) != 0)
 |.byt y=>y.size<=KF/\k=((y.size:Int) != 0)
 |.ref p=>(∃d,GW K H p d/\k=!d.isEmpty)\/(∃d,HN K H p d/\k=!d.isEmpty)\/∃e,H p=Z (.dK e)/\k=!e.isEmpty
 |_=>False
def tR{κ:Type}{e:List (κ×V)}{d:List (κ×On)}(r:KV e d):(!d.isEmpty)=!e.isEmpty:=by
 cases r<;>rfl
def nF{d:List V}{e:X3}(r:aK d e):(!e.toArray.isEmpty)=!d.isEmpty:=by
 cases r<;>simp
def ll:(KF:Nat)<2 ^ 63:=by rw[Xs];decide
def Cw:Gz X (λx H Q=>∃k,C5 X.K x H k/\Q k H):=by
 intro u s J H x v Q I g h;obtain⟨k,e,q⟩:=h;have F:=ll;have E:KF=16777216:=Xs;cases x with
 |non =>
  cases g;have d:k=R:=e;subst d;exact truthy_none ⟨H,I,q⟩
 |bl b =>
  cases g;have d:k=b:=e;subst d;exact YY ⟨H,I,q⟩
 |int i =>
  obtain⟨t,rfl⟩:=g;have d:k=(i != 0):=e;subst d;exact PySem.P.truthy_int ⟨H,I,q⟩
 |str y =>
  obtain⟨t,rfl⟩:=g;obtain⟨C,d⟩:y.length<=KF/\k=((y.length:Int) != 0):=e;subst d;exact PySem.P.truthy_str (by lia) ⟨H,I.tok _,q⟩
 |byt y =>
  obtain⟨t,rfl⟩:=g;obtain⟨C,d⟩:y.size<=KF/\k=((y.size:Int) != 0):=e;subst d;exact PySem.W.truthy_bytes (by lia) ⟨H,I.tok _,q⟩
 |ref p =>
  cases g;have d:(∃f,GW X.K H p f/\k=!f.isEmpty)\/(∃f,HN X.K H p f/\k=!f.isEmpty)\/∃j,H p=Z (.dK j)/\k=!j.isEmpty:=e;rcases d with⟨f,l,d⟩ | ⟨f,l,d⟩ | ⟨j,l,d⟩
  ·subst d;obtain⟨A,r,o,z⟩:=I.list l;have hlen:=r.length;exact wpAny_truthy_list o.isList (by simp only[ZZ];lia) ⟨H,I.tok _,by rw[nF r];exact q⟩
  ·subst d;obtain⟨A,r,o,z⟩:=I.tuple l;have hlen:=r.length;exact truthy_tuple o (by simp only[ZZ];lia) ⟨H,I.tok _,by rw[nF r];exact q⟩
  ·subst d;obtain⟨z,D,n,r,m⟩:j.length<=KF/\(p==sysModules)=R/\∃n,KV j n/\s.heap.DictOf (aM X.prog X.w) p n:=I.GN p _ l;have hlen:j.length=n.length:=Y7 r;exact wpAny_truthy_dict D m (by lia) ⟨H,I.tok _,by rw[tR r];exact q⟩
 |_=>exact(show False from e).elim
def xJ(i:PE X a ta)(g:∀whole,isTrue a X.env whole=(do let v ← whole;standAt a.pos;holding [v] (truthy v))) :
  PT X a (λJ H Q=>ta J H λx e=>∃k,C5 X.K x e k/\Q k e):=by
 intro d s J H Q I h;exact isTrue_plain (thn (i d s J H _ I h) λv s1 ⟨x,l,j,r1,f⟩=>Cw d s1 J l x v Q j r1 f) (g _)
def sU:OpR X (binaryOp .Add) (λx y H Q=>∃i j,x=.str i/\y=.str j/\i.length+j.length<=KF/\Q (.str (i++j)) H):=by
 intro d s J H x y v u Q I g f h;obtain⟨i,j,rfl,rfl,l,q⟩:=h;obtain⟨t,rfl⟩:=g;obtain⟨e,rfl⟩:=f;exact add_str (λe m=>⟨.str (i++j),H,I.tok _,⟨_,rfl⟩,q⟩) l
def vals1{x:V}{d:X3}(r:aK [x] d):∃u,d=[u]/\RelV x u:=by
 cases r with
 |cons r1 r2=>cases r2;exact⟨_,rfl,r1⟩
def vals2{x y:V}{e:X3}(r:aK [x,y] e):∃u d,e=[u,d]/\RelV x u/\RelV y d:=by
 cases r with
 |cons r1 r2 =>
  cases r2 with
  |cons g f=>cases f;exact⟨_,_,rfl,r1,g⟩
def wu(g:X.calm=B):d6 X (.builtin "min") (λe H Q=>∃i j,e=[.int i,.int j]/\Q (.int (if j<i then j else i)) H):=by
 intro f s J H e m Q I r h;obtain⟨i,j,rfl,q⟩:=h;obtain⟨u,l,rfl,⟨t,rfl⟩,⟨o,rfl⟩⟩:=vals2 r;refine min_two_ints (I.ok.hd g) λp n k=>⟨_,H,I.kept k,?_,q⟩
 by_cases d:j<i
 ·rw[Zq d,Zq d];exact⟨_,rfl⟩
 ·rw[Zn d,Zn d];exact⟨_,rfl⟩
def FJ(K:Xk)(x:V)(H:Hp)(n:Nat):Prop :=
 match x with
 |.str y=>y.length<=KF/\n=y.length
 |.byt y=>y.size<=KF/\n=y.size
 |.ref p=>(∃d,GW K H p d/\n=d.length)\/∃d,HN K H p d/\n=d.length
 |_=>False
def wW:d6 X (.builtin "len") (λd H Q=>∃x n,d=[x]/\FJ X.K x H n/\Q (.int n) H):=by
 intro m s J H d z Q I r h;obtain⟨x,n,rfl,e,q⟩:=h;obtain⟨u,rfl,g⟩:=vals1 r;have C:=ll;have A:KF=16777216:=Xs;cases x with
 |str y =>
  obtain⟨t,rfl⟩:=g;obtain⟨w,f⟩:y.length<=KF/\n=y.length:=e;subst f;exact len_str (by lia) ⟨.int _,H,I.tok _,⟨_,rfl⟩,q⟩
 |byt y =>
  obtain⟨t,rfl⟩:=g;obtain⟨w,f⟩:y.size<=KF/\n=y.size:=e;subst f;exact PySem.W.len_bytes (by lia) ⟨.int _,H,I.tok _,⟨_,rfl⟩,q⟩
 |ref p =>
  cases g;have f:(∃d,GW X.K H p d/\n=d.length)\/∃d,HN X.K H p d/\n=d.length:=e;rcases f with⟨d,l,f⟩ | ⟨d,l,f⟩
  ·subst f;obtain⟨o,i,j,v⟩:=I.list l;have hlen:=i.length;exact Calls.call_len_list j.isList (by simp only[ZZ];lia) ⟨.int d.length,H,I.tok _,⟨_,by simp only[ZZ];rw[hlen]⟩,q⟩
  ·subst f;obtain⟨o,i,j,v⟩:=I.tuple l;have hlen:=i.length;exact len_tuple j (by simp only[ZZ];lia) ⟨.int d.length,H,I.tok _,⟨_,by simp only[ZZ];rw[hlen]⟩,q⟩
 |_=>exact(show False from e).elim
end
structure JX(h:SZ)(x dx C:KM)(mA:Xg):Prop where
 obj:h.get? x=some (PySem.W.instObj C dx)
 ns:h.Ns1 dx mA
 ne:dx≠x
def vR{h:SZ}{g:KM}{d:Xg}(n:h.Ns1 g d):∃b,h.get? g=Z b/\∀name,PySem.W.lookIn name b=Z (d name):=by
 obtain⟨o,f,s,j,hd,m,_,l⟩:=n;refine⟨o,j,λname=>?_⟩;have e:=l name;unfold nsFind findBy at e;rw[← Array.find?_toList]at e;unfold PySem.W.lookIn;rw[hd];dsimp only;split
 ·rename_i y q;rw[q]at e;exact congrArg Z e
 ·rename_i q;rw[q]at e;have a:f.toList.any (·.refKey)=R:=by
   rw[List.any_eq_false];intro y i;obtain⟨z,t,r⟩:=m y (Array.mem_toList_iff.mp i);simp[DictEntry.refKey,r]
  have p:¬f.toList.any (·.refKey)=B:=by rw[a];exact Zc
  rw[Zn p];exact congrArg Z e
def JX.look{h:SZ}{x d C:KM}{b:Xg}(I:JX h x d C b):∃a,PySem.W.InstAt h x (PySem.W.instObj C d) C (Z a)/\∀name,PySem.W.lookIn name a=Z (b name) :=
 let ⟨a,e,f⟩:=vR I.ns
 ⟨a,⟨I.obj,rfl,rfl,e⟩,f⟩
section
variable{prog:Re}{w:UF}{A:SB}{E:Z5}{s:IR}{K:Xk}{x dx C f:KM}{mA:Xg}{name:Str}{v:On}
def get_map{a:Bool}{Q:Z5}(X:K.In s.heap)(I:JX s.heap x dx C mA)(g:PySem.W.plainGet K C name=B)(e:PySem.W.hasDictIn K C=B)(i:PySem.W.findIn K (.ref C) name=Z L)(b:mA name=Z v)(j:PySem.W.handedIn v=B)(h:Q v { s with toks:=s.toks+1 }) :
  PP (KB prog w) A (getAttr (.ref x) name a) Q E s:=by
 obtain⟨m,l,d⟩:=I.look;exact PySem.W.get_value X l (XG g).1 (PySem.W.findObj_own e i Y (by rw[d,b])) j h
def wN{b:Sem Bool}{Q:On×X3->IR->Prop}(X:K.In s.heap)(I:JX s.heap x dx C mA)(a:PySem.W.plainGet K C name=B)(j:PySem.W.findIn K (.ref C) name=Z (Z (.ref f)))(g:PySem.W.isFn K (.ref f)=B)(e:mA name=L)(h:Q (.ref f,[.ref x]) s) :
  PP (KB prog w) A (getMethod (.ref x) name b) Q E s:=by
 obtain⟨d,l,i⟩:=I.look;exact PySem.W.method_fn X l (XG a).1 (XG a).2 j (beq_iff_eq.mp g) (by show (PySem.W.lookIn name d).map (·.isSome)=Z R;rw[i,e];rfl) h
def BB{g:List Str}{Q:Unit->IR->Prop}(X:K.In s.heap)(I:JX s.heap x dx C mA)(o:PySem.W.findIn K (.ref C) "__setattr__" = Z (Z (.builtin "object.__setattr__")))(p:PySem.W.plainOver K C=B)(n:PySem.W.takerIn K C name=Z L)(q:PySem.W.hasDictIn K C=B)(hw:PySem.Within mA g)(e:g.length<=KF)(h:∀d,JX d x dx C (λy=>if y=name then Z v else mA y)->Heap.SameBut dx s.heap d->Q () { s with heap:=d,toks:=s.toks+2 }) :
  PP (KB prog w) A (setAttr (.ref x) name v) Q E s:=by
 obtain⟨J,j,N⟩:=I.look;refine PySem.W.set_plain X j o (PySem.W.osa_open (s:={ s with toks:=s.toks+1 }) (r:=none) X j p n λb=>?_);obtain⟨cd,t,H⟩:=PySem.W.any_some q;have m:s.heap.get? x=Z ⟨.ref C,Z dx,.plain,#[]⟩:=I.obj;refine Zl (ZS (Zl (Zl (wpAny_loadPart m (Zl (PySem.W.Looks.here (s:={ s with toks:=s.toks+1 }) (PySem.W.looks_clsIn X t) ?_))))));rw[H];refine ZS (a:=Z dx) (Zl (ZS (Zl ?_)));refine wpAny_nsSet1 (s:={ s with toks:=s.toks+1 }) I.ns λd i l=>?_;obtain⟨M,u,z,D,G,F⟩:=i.count (PySem.Within.cons name v hw);refine Zl (wpAny_lookBehind D (by rw[G];exact pastItsLine_dict (ZJ F (by rw[Zi];exact YM e))) ?_);exact ZS (h _ ⟨(l.2 _ (Yi I.ne)).trans I.obj,i,I.ne⟩ l)
def yV{R:Result->IR->Prop}{a:X3}{b:List (Str×On)}(X:K.In s.heap)(e:PySem.W.makesIn K C=B)(i:PySem.W.findIn K (.ref C) "__init__" = Z (Z (.ref f)))(j:PySem.W.typeIn K (.ref f)=Z (.type "function"))(h:codeAny (KB prog w) (A.under (.builtin "type.__call__" ⟨.ref C :: a,b⟩)) (.call (.ref f) ⟨.ref (s.heap.objs.size+1) :: a,b⟩) (PySem.W.InitBack (s.heap.objs.size+1) R)
   { s with heap:=(s.heap.push PySem.W.emptyDict).push (PySem.W.instObj C s.heap.objs.size) }) :
  codeAny (KB prog w) A (.call (.ref C) ⟨a,b⟩) R s:=by
 obtain⟨l,g,d,t,os⟩:=s;exact PySem.W.make_core (PySem.W.makes_of X e) (PySem.W.looks_findIn X i) (λself=>PySem.W.bind_fn X self j) (.inl Y) h
end
def iE(f:Str)(v:V):List (Str×V)->List (Str×V)
 |[]=>[(f,v)]
 | (g,x) :: r=>if g=f then (g,v) :: r else (g,x) :: iE f v r
theorem lO(f g:Str)(v:V):∀fs:List (Str×V),(iE f v fs).lookup g=if g=f then Z v else fs.lookup g
 |[]=>by
  show List.lookup g [(f,v)]=_;by_cases h:g=f
  ·have hb:(g==f)=B:=beq_iff_eq.mpr h;simp only[List.lookup,hb,Zq h]
  ·have hb:(g==f)=R:=ZK.mpr h;simp only[List.lookup,hb,Zn h]
 | (k,x) :: r=>by
  have b:=lO f g v r;rw[show iE f v ((k,x) :: r)=(if k=f then (k,v) :: r else (k,x) :: iE f v r) from rfl];by_cases a:k=f
  ·rw[Zq a];by_cases h:g=k
   ·have hb:(g==k)=B:=beq_iff_eq.mpr h;simp only[List.lookup,hb,Zq (h.trans a)]
   ·have hb:(g==k)=R:=ZK.mpr h;simp only[List.lookup,hb,Zn (λe:g=f=>h (e.trans a.symm))]
  ·rw[Zn a];by_cases h:g=k
   ·have hb:(g==k)=B:=beq_iff_eq.mpr h;simp only[List.lookup,hb,Zn (λe:g=f=>a (h.symm.trans e))]
   ·have hb:(g==k)=R:=ZK.mpr h;simp only[List.lookup,hb];exact b
theorem ly(f:Str)(v:V):∀fs:List (Str×V),f∈(iE f v fs).map (·.1)/\∀g,g∈fs.map (·.1)->g∈(iE f v fs).map (·.1)
 |[]=>⟨by simp[iE],λg h=>by simp at h⟩
 | (k,x) :: r=>by
  obtain⟨d,b⟩:=ly f v r;rw[show iE f v ((k,x) :: r)=(if k=f then (k,v) :: r else (k,x) :: iE f v r) from rfl];by_cases a:k=f
  ·rw[Zq a];subst a;exact⟨by simp,λg h=>by simpa using h⟩
  ·rw[Zn a];refine⟨?_,λg h=>?_⟩
   ·rw[Zo];exact Zw _ d
   ·rw[Zo]at h ⊢;rcases Zp.mp h with e | e
    ·exact Zp.mpr (.inl e)
    ·exact Zw _ (b g e)
theorem lV(f:Str)(v:V):∀fs:List (Str×V),(iE f v fs).length<=fs.length+1
 |[]=>by simp[iE]
 | (k,x) :: r=>by
  have b:=lV f v r;rw[show iE f v ((k,x) :: r)=(if k=f then (k,v) :: r else (k,x) :: iE f v r) from rfl];by_cases a:k=f
  ·rw[Zq a,Zi,Zi];exact Yq _ _
  ·rw[Zn a,Zi,Zi];exact YM b
def iH.some_of{v:V}{o:Wr}(r:iH (Z v) o):∃u,o=Z u/\RelV v u:=by
 cases o with
 |none=>exact(show False from r).elim
 |some u=>exact⟨u,rfl,r⟩
def iH.none_of{o:Wr}(r:iH L o):o=L:=by
 cases o with
 |none=>rfl
 |some u=>exact(show False from r).elim
def wj{v:V}{u:On}(r:RelV v u):PySem.W.handedIn u=B:=by
 cases v with
 |non=>cases (show u=Value.none from r);rfl
 |bl b=>cases (show u=Value.bool b from r);rfl
 |int i=>obtain⟨t,e⟩:=(show ∃t,u=Value.int i t from r);cases e;rfl
 |str x=>obtain⟨t,e⟩:=(show ∃t,u=Value.str x t from r);cases e;rfl
 |byt b=>obtain⟨t,e⟩:=(show ∃t,u=Value.bytes b t from r);cases e;rfl
 |flt b=>obtain⟨t,e⟩:=(show ∃t,u=Value.float b t from r);cases e;rfl
 |ref a=>cases (show u=Value.ref a from r);rfl
 |ty n=>cases (show u=Value.type n from r);rfl
section
variable{P:Re}{w:UF}{H H':Hp}{h h':SZ}{a C dx:KM}{fs Ic:List (Str×V)}
def mw(i:HP P w H h)(e:H a=Z (.ins C dx fs)):∃b,JX h a dx C b/\(∀f,iH (fs.lookup f) (b f))/\PySem.Within b (fs.map (·.1))/\fs.length<=1000/\H dx=Z (.own a):=by
 obtain⟨d,z,ne,g,b,n,r,q⟩:=(show bR P w H h a (.ins C dx fs) from i a _ e)
 exact⟨b,⟨g,n,ne⟩,r,q,z,d⟩
end
structure Ie(K:Xk)(C:KM):Prop where
 pg:PySem.W.plainGet K C Str.empty=true
 hd:PySem.W.hasDictIn K C=true
 po:PySem.W.plainOver K C=true
 sa:PySem.W.findIn K (.ref C) "__setattr__" = some (some (.builtin "object.__setattr__"))
def Ie.get{K:Xk}{C:KM}(c:Ie K C)(f:Str):PySem.W.plainGet K C f=B:=c.pg
def aR(K:Xk)(C:KM)(f:Str):Prop:=PySem.W.findIn K (.ref C) f=Z L
def aR.NK{K:Xk}{C:KM}{f:Str}(n:aR K C f):PySem.W.takerIn K C f=Z L:=by
 unfold PySem.W.takerIn;rw[show PySem.W.findIn K (.ref C) f=Z L from n];rfl
structure Meth(K:Xk)(C:KM)(m:Str)(f:KM):Prop where
 at_:PySem.W.findIn K (.ref C) m=some (some (.ref f))
 fn:PySem.W.isFn K (.ref f)=true
 kp:PySem.W.keepIn K (.ref f)=true
section
variable{X:Cx}{pins:Xo}{J:St}{H:Hp}{s:IR}{a C dx:KM}{fs:List (Str×V)}{f:Str}{v:V}{A:SB}{E:Z5}
def tV{b:Bool}{Q:Z5}(I:Inv X pins J H s)(e:H a=Z (.ins C dx fs))(c:Ie X.K C)(n:aR X.K C f)(l:fs.lookup f=Z v)(h:∀u d,Inv X pins J H d->RelV v u->Q u d):PP (KB X.prog X.w) A (getAttr (.ref a) f b) Q E s:=by
 obtain⟨i,O,r,_,_,_⟩:=mw I.GN e;obtain⟨u,j,g⟩:=iH.some_of (v:=v) (o:=i f) (by rw[← l];exact r f);exact get_map I.Ih O (c.get f) c.hd n j (wj g) (h u _ (I.tok _) g)
def oh{m:Str}{g:KM}{b:Sem Bool}{Q:On×X3->IR->Prop}(I:Inv X pins J H s)(e:H a=Z (.ins C dx fs))(c:Ie X.K C)(k:Meth X.K C m g)(l:fs.lookup m=L)(h:Q (.ref g,[.ref a]) s):PP (KB X.prog X.w) A (getMethod (.ref a) m b) Q E s:=by
 obtain⟨d,O,r,_,_,_⟩:=mw I.GN e;have i:d m=L:=iH.none_of (by rw[← l];exact r m);exact wN I.Ih O (c.get m) k.at_ k.fn i h
def ua{y:V}{u:On}{Q:Unit->IR->Prop}(I:Inv X pins J H s)(e:H a=Z (.ins C dx fs))(c:Ie X.K C)(n:aR X.K C f)(M:fs.length<1000)(t:RelV y u)(h:∀j,Inv X pins J (upd H a (.ins C dx (iE f y fs))) j->Q () j):PP (KB X.prog X.w) A (setAttr (.ref a) f u) Q E s:=by
 obtain⟨l,O,r,i,_,m⟩:=mw I.GN e;have D:(fs.map (·.1)).length<=sizeLine:=by rw[Zu,Xs];lia
 refine BB I.Ih O c.sa c.po n.NK c.hd i D λF d p=>h _ ?_;have hd:∃o,F.get? dx=Z o:=let ⟨o,_,_,G,_⟩:=d.ns;⟨o,G⟩
 refine I.write (x:=a) (e:=dx) (by rw[e];exact True.intro) (.inr m) (λb q hb z=>(p.2 b hb).trans z) hd ?_;refine⟨by rw[ax O.ne];exact m,?_,O.ne,d.obj,_,d.ns,λg=>?_,λg hg=>?_⟩
 ·have:=lV f y fs;lia
 ·show iH ((iE f y fs).lookup g) (if g=f then Z u else l g);rw[lO];by_cases q:g=f
  ·rw[Zq q,Zq q];exact t
  ·rw[Zn q,Zn q];exact r g
 ·by_cases q:g=f
  ·rw[q];exact(ly f y fs).1
  ·refine(ly f y fs).2 g (i g λz=>hg ?_);show (if g=f then Z u else l g)=L;rw[Zn q];exact z
def Inv.made(I:Inv X pins J H s):Inv X pins J (upd (upd H s.heap.objs.size (.own (s.heap.objs.size+1))) (s.heap.objs.size+1) (.ins C s.heap.objs.size []))
  { s with heap:=(s.heap.push PySem.W.emptyDict).push (PySem.W.instObj C s.heap.objs.size) }:=by
 have e1:(s.heap.push PySem.W.emptyDict).get? s.heap.objs.size=Z PySem.W.emptyDict:=ZU s.heap Y;have e2:((s.heap.push PySem.W.emptyDict).push (PySem.W.instObj C s.heap.objs.size)).get? (s.heap.objs.size+1)=Z (PySem.W.instObj C s.heap.objs.size):=by
  have:=ZU (s.heap.push PySem.W.emptyDict) (o:=PySem.W.instObj C s.heap.objs.size) Y
  rwa [Wy]at this
 have h:(s.heap.push PySem.W.emptyDict).Ns s.heap.objs.size (λ_=>L):=⟨PySem.W.emptyDict,#[],_,e1,rfl,(λe g=>absurd g (by simp)),λ_=>rfl⟩
 have i:=I.laid (a:=s.heap.objs.size) (o:=.own (s.heap.objs.size+1)) (h':=s.heap.push PySem.W.emptyDict) (t':=s.toks) (λb u q=>Zk _ q) (Zj _) ⟨_,e1⟩;refine i.laid (a:=s.heap.objs.size+1) (o:=.ins C s.heap.objs.size []) (t':=s.toks) (λb u q=>Zk _ q) (Xn (Wy _ _)) ?_;have ne:s.heap.objs.size≠s.heap.objs.size+1:=Zb (Yv _);refine⟨by rw[ax ne,au],Ys _,ne,e2,λ_=>L,(Heap.Ns1.of_empty h).at λo q=>Zk _ q,λ_=>True.intro,λy d=>absurd Y d⟩
def Ao{b:Re}{w:UF}{d:Env}{e:Expr}{f:Str}{g:Pos}{s:IR}{Q:Z5}(j:UV e f d (eval e d)=eval e d)(h:PP (KB b w) A (eval e d) (λo i=>PP (KB b w) A (getAttr o f B) Q E i) E s):PP (KB b w) A (eval (.Attribute e f g) d) Q E s :=
 Attribute_any_ h (by rw[arm_eval_Attribute,j])
end
def GM(K:Xk)(d:TE)(f:Str):TE:=λJ H Q=>d J H λx b=>∃a C e fs v,x=.ref a/\b a=Z (.ins C e fs)/\Ie K C/\aR K C f/\fs.lookup f=Z v/\Q v b
def GI(K:Xk)(g e:TE)(f:Str):TS:=λD J H=>e J H λy h=>g J h λx d=>∃a C b fs,x=.ref a/\d a=Z (.ins C b fs)/\Ie K C/\aR K C f/\fs.length<1000 ∧
 D.nx J (upd d a (.ins C b (iE f y fs)))
section
variable{X:Cx}{o e value:Expr}{f:Str}{pos pos' Js:Pos}{ta tv:TE}
def zr(i:PE X e ta)(j:UV e f X.env (eval e X.env)=eval e X.env):PE X (.Attribute e f pos) (GM X.K ta f):=by
 intro b s J H Q I h;refine Ao j (thn (i b s J H _ I h) λu s1 ⟨x,t,r,d,a,C,z,fs,v,ex,m,c,n,l,q⟩=>?_);subst ex;obtain rfl:u=Value.ref a:=d;exact tV r m c n l λw y p g=>⟨v,t,p,g,q⟩
def C6(r:PE X o ta)(m:PE X value tv)(p:swapsWith value (Z (.Attribute o f pos')) pos.line X.env=pure R):PS X (.Assign [.Attribute o f pos'] value pos) (GI X.K ta tv f):=by
 intro b s J H D I h;refine plainObj_wpAny_Assign_Attribute (thn (m b s J H _ I h) λu s1 ⟨y,A,z,d,q⟩=>thn (r b s1 J A _ z q) λj F ⟨x,M,w,g,a,C,G,fs,ex,t,c,n,l,i⟩=>?_) p;subst ex;obtain rfl:j=Value.ref a:=g;exact ua w t c n l d λE v=>⟨J,_,v,i⟩
end
section
variable{X:Cx}{pins:Xo}{J:St}{H:Hp}{s:IR}{A:SB}{E:Z5}{Q:Z5}{c:On}{b:Bool}
inductive Ib(K:Xk)(H:Hp):V->On->Prop where
 |non:Ib K H .non (.type "NoneType")
 |bl (x:Bool):Ib K H (.bl x) (.type "bool")
 |int (i:Int):Ib K H (.int i) (.type "int")
 |str (x:Str):Ib K H (.str x) (.type "str")
 |flt (x:UInt64):Ib K H (.flt x) (.type "float")
 |lst {a:KM} {xs:List V} (e:H a=some (.lst xs)):Ib K H (.ref a) (.type "list")
 |frz {a:KM} {o:Obj} {xs:List V} (e:H a=some (.frz o (.lst xs))):Ib K H (.ref a) (.type "list")
 |tup {a:KM} {xs:List V} (e:H a=some (.tup xs)):Ib K H (.ref a) (.type "tuple")
 |dK {a:KM} {bt:List (Key×V)} (e:H a=some (.dK bt)):Ib K H (.ref a) (.type "dict")
 |dT {a:KM} {bt:List (List Key×V)} (e:H a=some (.dT bt)):Ib K H (.ref a) (.type "dict")
 |ins {a C dx:KM} {fs:List (Str×V)} (e:H a=some (.ins C dx fs)) (cl:Ie K C) (ha:PySem.W.findIn K (.ref C) "__class__" = some (some (.builtin "object.__class__")))
   (hn:PySem.W.specialIn K (.builtin "object.__class__") "__get__" = some (some (.builtin "getset_descriptor.__get__"))) (S5:PySem.W.takesIn K (.builtin "object.__class__")=some true)
   (hm:PySem.W.mroIn K C (.type "object")=some true):Ib K H (.ref a) (.ref C)
def vI{x:V}{u t:On}(I:Inv X pins J H s)(d:RelV x u)(r:Ib X.K H x t)(e:PySem.W.kitOne X.K t c=Z b)(h:∀v,Q (.bool b) { s with toks:=v }) :
  PP (KB X.prog X.w) A (call (.builtin "isinstance") [u,c]) Q E s:=by
 cases r with
 |non=>cases (show u=Value.none from d);exact Yn PySem.W.kitx_none I.Ih True.intro e (λz=>nomatch z) h
 |bl y=>cases (show u=Value.bool y from d);exact Yn PySem.W.kitx_bool I.Ih True.intro e (λz=>nomatch z) h
 |int i=>obtain⟨t,q⟩:=(show ∃t,u=Value.int i t from d);cases q;exact Yn PySem.W.kitx_int I.Ih True.intro e (λz=>nomatch z) h
 |str y=>obtain⟨t,q⟩:=(show ∃t,u=Value.str y t from d);cases q;exact Yn PySem.W.kitx_str I.Ih True.intro e (λz=>nomatch z) h
 |flt y=>obtain⟨t,q⟩:=(show ∃t,u=Value.float y t from d);cases q;exact Yn PySem.W.kitx_float I.Ih True.intro e (λz=>nomatch z) h
 |@lst a j f =>
  cases (show u=Value.ref a from d);obtain⟨_,_,n,_,g⟩:=(show bR X.prog X.w H s.heap a (.lst j) from I.GN a _ f)
  exact Yn PySem.W.kitx_list I.Ih ⟨_,g,rfl⟩ e (λz=>nomatch z) h
 |@frz a D j f =>
  cases (show u=Value.ref a from d);obtain⟨_,_,_,n,_,g⟩:=(show bR X.prog X.w H s.heap a (.frz D (.lst j)) from I.GN a _ f)
  exact Yn PySem.W.kitx_list I.Ih ⟨_,g,rfl⟩ e (λz=>nomatch z) h
 |@tup a j f =>
  cases (show u=Value.ref a from d);obtain⟨_,_,_,_,p⟩:=(show bR X.prog X.w H s.heap a (.tup j) from I.GN a _ f)
  obtain⟨o,g,l,_⟩:=p;exact Yn PySem.W.kitx_tuple I.Ih ⟨o,g,l⟩ e (λz=>nomatch z) h
 |@dK a m f =>
  cases (show u=Value.ref a from d);obtain⟨_,_,Y,_,p⟩:=(show bR X.prog X.w H s.heap a (.dK m) from I.GN a _ f)
  obtain⟨o,N,P,g,l,_⟩:=p;exact Yn PySem.W.kitx_dict I.Ih ⟨o,g,l.1⟩ e (λz=>nomatch z) h
 |@dT a m f =>
  cases (show u=Value.ref a from d);obtain⟨_,_,j,_,o,N,P,g,l,_⟩:=(show bR X.prog X.w H s.heap a (.dT m) from I.GN a _ f)
  exact Yn PySem.W.kitx_dict I.Ih ⟨o,g,l.1⟩ e (λz=>nomatch z) h
 |@ins a C dx fs f cl M F S G =>
  cases (show u=Value.ref a from d);obtain⟨mA,O,_⟩:=mw I.GN f;obtain⟨od,U,_⟩:=O.look;exact Yn (PySem.W.kitx_own (cl.get _) cl.hd M F S G) I.Ih U e (λz=>nomatch z) h
end
structure p0(k:Nat)(A:SB):Prop where
 hd:A.handled=none
 dp:A.depth+3*k+5<recursionLimit
 un:A.units+16*k+200<cLine
def p0.mono{j k:Nat}{A:SB}(r:p0 k A)(h:j<=k):p0 j A:=⟨r.hd,by have:=r.dp;lia,by have:=r.un;lia⟩
theorem p0.deeper{k:Nat}{A:SB}(r:p0 (k+1) A)(a:Env):p0 k (A.deeper a) :=
 ⟨r.hd,by have:=r.dp;show A.depth+1+3*k+5<_;lia,by have:=r.un;show A.units+3+16*k+200<_;lia⟩
def sY{A:SB}{C:KM}{a:X3}{b:List (Str×On)}:(A.under (.builtin "type.__call__" ⟨.ref C :: a,b⟩)).depth=A.depth+1:=by
 first | rfl | simp[Around.under,Code.weight,Code.isCreation,Code.isGuard,Code.isCaller,Code.frames,Code.isFrame,guardIds]
def t5{A:SB}{C:KM}{a:X3}{b:List (Str×On)}:(A.under (.builtin "type.__call__" ⟨.ref C :: a,b⟩)).units=A.units+1:=by
 first | rfl | simp[Around.under,Code.cUnits,Code.frames,Code.isFrame]
def p0.make{k:Nat}{A:SB}(r:p0 (k+1) A)(C:KM)(a:X3)(b:List (Str×On)):p0 k (A.under (.builtin "type.__call__" ⟨.ref C :: a,b⟩)) :=
 ⟨r.hd,by have:=r.dp;rw[sY];lia,by have:=r.un;rw[t5];lia⟩
theorem p0.depth{k:Nat}{A:SB}(r:p0 k A):A.depth<recursionLimit:=by have:=r.dp;lia
theorem p0.units{k:Nat}{A:SB}(r:p0 k A):A.units+64<cLine:=by have:=r.un;lia
def t8:TA:=λ_ H Q=>Q [] H
def B6(d:TE)(b:TA):TA:=λJ H Q=>d J H λx f=>b J f λa e=>Q (x :: a) e
section
variable{X:Cx}{e:Expr}{es:List Expr}{te:TE}{t:TA}{pos:Pos}
def dv:PA X [] t8:=λ_ _ _ _ H Q I h=>Calls.spliced_nil ⟨[],H,I,.nil,h⟩
def bA(j:PE X e te)(i:PA X es t)(g:K1 e es X:=by rfl):PA X (e :: es) (B6 te t):=by
 intro pos a s J H Q I h;rw[g];show PP _ _ (spliced ((R,eval e X.env) :: backTo pos (Pv es X.env))) _ _ s;refine Calls.spliced_cons (thn (j a s J H _ I h) λu s1 ⟨x,o,m,r1,f⟩=>?_);exact thn (i pos a s1 J o _ m f) λp q ⟨b,n,l,r2,d⟩=>⟨x :: b,n,l,.cons r1 r2,d⟩
def GB(t:TA):TE:=λJ H Q=>t J H λa b=>a.length<=KF/\∀p,b p=L->Q (.ref p) (upd b p (.tup a))
def Gm(t:TA):TE:=λJ H Q=>t J H λa b=>a.length<=KF/\∀p,b p=L->Q (.ref p) (upd b p (.lst a))
def D1{x1}(h:PA X es t):PE X (.Tuple es x1 pos) (GB t):=by
 intro a s J H Q I j;refine wpAny_Tuple_spliced (thn (h pos a s J H _ I j) λi s1 ⟨g,f,d,r,z,q⟩=>⟨by rw[← r.length];exact z,?_⟩);have l:f s1.heap.objs.size=L:=d.GN.fresh (Zj _);refine⟨.ref s1.heap.objs.size,upd f s1.heap.objs.size (.tup g),d.laid (t':=s1.toks) (λb u e=>Zk _ e) (Zj _) ?_,rfl,q _ l⟩;exact⟨z,i,r,Lv.of (ZU _ Y) Y,⟨_,ZU _ Y,rfl,_,rfl⟩⟩
def wY(h:PA X es t):PE X (.List es pos) (Gm t):=by
 intro a s J H Q I j;refine wpAny_List_spliced (thn (h pos a s J H _ I j) λi s1 ⟨g,f,d,r,z,q⟩=>⟨by rw[← r.length];exact z,?_⟩);have l:f s1.heap.objs.size=L:=d.GN.fresh (Zj _);refine⟨.ref s1.heap.objs.size,upd f s1.heap.objs.size (.lst g),d.laid (t':=s1.toks) (λb u e=>Zk _ e) (Zj _) ?_,rfl,q _ l⟩;exact⟨z,i,0,r,ZU _ Y⟩
end
abbrev Sp:=List V->Hp->VK->XK->Prop
abbrev KH:=List Env->Hp->IR->XK->Z5
structure Env0(P:Re)(w:UF)(K:Xk)(mg:Xg)(base:SZ)(A:SB)(outer:List Env)(s:IR)(H:Hp):Prop where
 frames:A.frames=some outer
 mod:Mod K mg base
 bs:∀b o,base.get? b=some o->s.heap.get? b=some o/\H b=none
 LV:base.objs.size<=s.heap.objs.size
 Ij:s.heap.FunFrames base outer
 MX:∀b∈HU outer,H b=none
 GN:HP P w H s.heap
 bare:AllBare s.gens
noncomputable def CE(a:List Env)(P:Re)(w:UF)(H:Hp)(s:IR)(Q:VK)(u:On)(b:IR):Prop :=
 ∃v d,b.os=s.os/\AllBare b.gens/\Un (HU a) [] H d s.heap b.heap/\HP P w d b.heap/\RelV v u/\Q v d
noncomputable def CR(d:KH)(a:List Env)(P:Re)(w:UF)(H:Hp)(s:IR)(Q:VK)(E:XK)(r:Result)(b:IR):Prop :=
 match r with
 |.ok (.ret u)=>CE a P w H s Q u b
 |.ok _=>False
 |.error e=>d a H s E e b
structure FnOk(P:Re)(w:UF)(K:Xk)(mg:Xg)(base:SZ)(CX:KH)(k:Nat)(f:KM)(fd:P3)(ps:List Str)(sp:Sp):Prop where
 len:∀vs H Q E,sp vs H Q E->vs.length=ps.length
 run:∀(A:SB)(outer:List Env)(s:IR)(H:Hp)(args:Args)(us:X3)(vs:List V)(Q:VK)(E:XK),p0 k A->Env0 P w K mg base A outer s H->BindsTo s fd args (ps.zip us)->aK vs us->sp vs H Q E →
  codeAny (KB P w) A (.call (.ref f) args) (CR CX outer P w H s Q E) s
def FnOk.imp{P:Re}{w:UF}{K:Xk}{g:Xg}{a:SZ}{l:KH}{k:Nat}{f:KM}{i:P3}{e:List Str}{d j:Sp}(F:FnOk P w K g a l k f i e d)(h:∀b H Q E,j b H Q E->d b H Q E):FnOk P w K g a l k f i e j :=
 ⟨λb H Q E q=>F.len b H Q E (h _ _ _ _ q),λA outer s H args m b Q E p r hb n o=>F.run A outer s H args m b Q E p r hb n (h _ _ _ _ o)⟩
def Env0.make{P:Re}{w:UF}{K:Xk}{d:Xg}{b:SZ}{A:SB}{a:List Env}{s:IR}{H:Hp}(e:Env0 P w K d b A a s H)(C:KM)(f:X3)(g:List (Str×On)) :
  Env0 P w K d b (A.under (.builtin "type.__call__" ⟨.ref C :: f,g⟩)) a s H:=⟨by first | exact e.frames | (simpa[Around.under,Code.envs,Code.isFrame,pushEnvs] using e.frames),e.mod,e.bs,e.LV,e.Ij,e.MX,e.GN,e.bare⟩
section
variable{X:Cx}{pins:Xo}{J:St}{H:Hp}{s s':IR}
def Inv.OE(I:Inv X pins J H s):Env0 X.prog X.w X.K X.mg X.base X.A X.stack s H :=
 ⟨I.ok.frames,I.ok.mod,I.bs,ZJ I.ok.LV I.sz,I.stack,I.J0,I.GN,I.bare⟩
def Inv.after{Q:VK}{u:On}(I:Inv X pins J H s)(h:CE X.stack X.prog X.w H s Q u s'):EP X pins J Q u s':=by
 obtain⟨v,f,os,bare,un,GN,r,q⟩:=h;obtain⟨a,g,d,t,e⟩:=s';obtain rfl:e=s.os:=os;exact⟨v,f,I.call (h':=a) (g':=g) (d':=d) (t':=t) (ch:=[]) un GN bare (λb z=>absurd z (by simp)),r,q⟩
end
def BO(b:Sp)(d:List V)(E:XK)(t:TA):TE:=λJ H Q=>t J H λa e=>b (a++d) e Q E
def vt(C:KM)(m:Str)(f:Sp)(h:List V)(E:XK)(e:TE)(t:TA):TE:=λJ H Q=>e J H λx b=>∃a g fs,x=.ref a/\b a=Z (.ins C g fs)/\fs.lookup m=L ∧
 t J b λd i=>f (x :: (d++h)) i Q E
def zm(C:KM)(e:Sp)(f:List V)(E:XK)(t:TA):TE:=λJ H Q=>t J H λd b=>∀x a,b x=L->b a=L->a≠x →
 e (.ref x :: (d++f)) (upd (upd b a (.own x)) x (.ins C a [])) (λv g=>v=.non/\Q (.ref x) g) E
def Binds(K:Xk)(d:P3)(b:List Str)(ds:X3):Prop :=
 ∀(s:IR)(a:X3),K.In s.heap->(a++ds).length=b.length->BindsTo s d ⟨a,[]⟩ (b.zip (a++ds))
def Binds.all{K:Xk}{e:P3}{b:List Str}(h:∀a:X3,a.length=b.length->bindArgs e ⟨a,[]⟩=pure (b.zip a)):Binds K e b []:=λs a _ d=>by
 rw[ZV]at d ⊢;exact .of_eq (h a d)
def iN(d:KH)(X:Cx)(E:XK):Prop:=∀(a:Xo)(J:St)(H:Hp)(s:IR)(e:On)(b:IR),Inv X a J H s->d X.stack H s E e b->X.xe e b
section
variable{X:Cx}{CX:KH}{k:Nat}{f C:KM}{fd:P3}{ps:List Str}{sp:Sp}{Iy:List V}{ds:X3}{E:XK}{x m:Str}{p pos apos:Pos}{e o:Expr}{es:List Expr}{ta:TE}{t:TA}
def sR{a:Xo}{J:St}{H:Hp}{s:IR}{Q:VK}{us:X3}{vs:List V}(F:FnOk X.prog X.w X.K X.mg X.base CX k f fd ps sp)(i:p0 k X.A)(n:Binds X.K fd ps ds)(l:aK Iy ds)(g:iN CX X E)(I:Inv X a J H s)(r:aK vs us)(h:sp (vs++Iy) H Q E):PP (KB X.prog X.w) X.A (call (.ref f) us) (EP X a J Q) X.xe s:=by
 have r2:aK (vs++Iy) (us++ds):=r.append l;have j:(us++ds).length=ps.length:=by rw[← r2.length];exact F.len _ _ _ _ h
 refine wpAny_call (codeAny_mono (F.run X.A X.stack s H ⟨us,[]⟩ (us++ds) (vs++Iy) Q E i I.OE (n s us I.Ih j) r2 h) λr d b=>?_);cases r with
 |error e=>exact g a J H s e d I b
 |ok q =>
  cases q with
  |ret u=>exact I.after b
  |next=>exact False.elim b
  |brk=>exact False.elim b
  |cont=>exact False.elim b
def mr(F:FnOk X.prog X.w X.K X.mg X.base CX k f fd ps sp)(i:p0 k X.A)(n:Gl X x)(j:X.mg x=Z (.ref f))(l:PySem.W.keepIn X.K (.ref f)=B)(y:Binds X.K fd ps ds)(v:aK Iy ds)(g:iN CX X E)(z:PA X (e :: es) t)(D:K3 x:=by decide)(u:K1 e es X:=by rfl)(b:K2 pos es X:=by rfl) :
  PE X (.Call (.Name x p) (e :: es) [] pos) (BO sp Iy E t):=by
 intro a s J H Q I h;refine Xv (mq I n j ?_ D);refine XB (h₀:=X.base) I.ok.mod.Oa l (thn (z pos a s J H _ I h) λM s1 ⟨G,N,d,r,q⟩=>⟨d.Ih,?_⟩) u b;exact sR F i y v g d r q
def qo{pl:Sem Bool}(M:PE X o ta)(c:Ie X.K C)(i:Meth X.K C m f)(F:FnOk X.prog X.w X.K X.mg X.base CX k f fd ps sp)(G:p0 k X.A)(O:Binds X.K fd ps ds)(N:aK Iy ds)(z:iN CX X E)(P:PA X (e :: es) t)(U:K1 e es X:=by rfl)(d:K2 pos es X:=by rfl)(D:eval (.Call (.Attribute o m apos) (e :: es) [] pos) X.env=(do
   let g ← eval o X.env
   standAt apos.atName
   let (f,first) ← holding [g] (getMethod g m pl)
   callWith pos f first (backTo pos (Pv (e :: es) X.env)) (backToKw pos (SC [] X.env))):=by rfl) :
  PE X (.Call (.Attribute o m apos) (e :: es) [] pos) (vt C m sp Iy E ta t):=by
 intro b s J H Q I h;refine PySem.W.methodCall_KW (pl:=pl) (thn (M b s J H _ I h) λu s1 ⟨x,H1,n,v,a,dx,fs,ex,S,l,q⟩=>?_) D;subst ex;obtain rfl:u=Value.ref a:=v;refine oh n S c i l ?_;refine XB (first:=[.ref a]) (h₀:=X.base) I.ok.mod.Oa i.kp (thn (P pos b s1 J H1 _ n q) λus s2 ⟨vs,H2,j,r,y⟩=>⟨j.Ih,?_⟩) U d;exact sR (us:=.ref a :: us) (vs:=.ref a :: vs) F G O N z j (.cons Y r) y
def ot{pl:Sem Bool}(y:PE X o ta)(c:Ie X.K C)(i:Meth X.K C m f)(F:FnOk X.prog X.w X.K X.mg X.base CX k f fd ps sp)(v:p0 k X.A)(D:Binds X.K fd ps ds)(z:aK Iy ds)(n:iN CX X E)(r:eval (.Call (.Attribute o m apos) [] [] pos) X.env=(do
   let g ← eval o X.env
   standAt apos.atName
   let (f,first) ← holding [g] (getMethod g m pl)
   callWith pos f first (backTo pos (Pv [] X.env)) (backToKw pos (SC [] X.env))):=by rfl) :
  PE X (.Call (.Attribute o m apos) [] [] pos) (vt C m sp Iy E ta t8):=by
 intro b s J H Q I h;refine PySem.W.methodCall_KW (pl:=pl) (thn (y b s J H _ I h) λu s1 ⟨x,N,d,j,a,M,fs,ex,G,l,q⟩=>?_) r;subst ex;obtain rfl:u=Value.ref a:=j;refine oh d G c i l ?_;exact PySem.W.callWith_K0 (first:=[.ref a]) d.Ih i.kp (sR (us:=[.ref a]) (vs:=[.ref a]) F v D z n d (.cons Y .nil) q)
structure Mk(K:Xk)(C f:KM):Prop where
 makes:PySem.W.makesIn K C=true
 init:PySem.W.findIn K (.ref C) "__init__" = some (some (.ref f))
 fn:PySem.W.isFn K (.ref f)=true
 kp:PySem.W.keepIn K (.ref C)=true
def rO{a:Xo}{J:St}{H:Hp}{s:IR}{Q:VK}{us:X3}{i:List V}(j:Mk X.K C f)(F:FnOk X.prog X.w X.K X.mg X.base CX k f fd ps sp)(D:p0 (k+1) X.A)(N:Binds X.K fd ps ds)(M:aK Iy ds)(z:iN CX X E)(I:Inv X a J H s)(r:aK i us)(h:∀x d,H x=L->H d=L->d≠x->sp (.ref x :: (i++Iy)) (upd (upd H d (.own x)) x (.ins C d [])) (λv S=>v=.non/\Q (.ref x) S) E) :
  PP (KB X.prog X.w) X.A (call (.ref C) us) (EP X a J Q) X.xe s:=by
 have l:=h (s.heap.objs.size+1) s.heap.objs.size (I.GN.fresh (Xe _)) (I.GN.fresh (Zj _)) (Zb (Yv _));have g:=Inv.made (C:=C) I;have r2:aK (V.ref (s.heap.objs.size+1) :: (i++Iy)) (Value.ref (s.heap.objs.size+1) :: (us++ds)):=.cons Y (r.append M);have G:(Value.ref (s.heap.objs.size+1) :: us++ds).length=ps.length:=by
  have e:=r2.length;rw[F.len _ _ _ _ l]at e;exact e.symm
 refine wpAny_call (yV (f:=f) I.Ih j.makes j.init (beq_iff_eq.mp j.fn) (codeAny_mono (F.run _ X.stack _ _ ⟨Value.ref (s.heap.objs.size+1) :: us,[]⟩ (Value.ref (s.heap.objs.size+1) :: (us++ds)) _ _ E (D.make C us [])
  (g.OE.make C us []) (N _ (Value.ref (s.heap.objs.size+1) :: us) g.Ih G) r2 l) λr n b=>?_))
 cases r with
 |error e=>exact z a J _ _ e n g b
 |ok O =>
  cases O with
  |ret u =>
   obtain⟨v,U,P,q,ev,y⟩:=g.after b;subst ev;exact⟨q,⟨V.ref (s.heap.objs.size+1),U,P,rfl,y⟩⟩
  |next=>exact False.elim b
  |brk=>exact False.elim b
  |cont=>exact False.elim b
def uO(d:Mk X.K C f)(F:FnOk X.prog X.w X.K X.mg X.base CX k f fd ps sp)(j:p0 (k+1) X.A)(n:Gl X x)(l:X.mg x=Z (.ref C))(y:Binds X.K fd ps ds)(v:aK Iy ds)(i:iN CX X E)(z:PA X (e :: es) t)(D:K3 x:=by decide)(u:K1 e es X:=by rfl)(b:K2 pos es X:=by rfl) :
  PE X (.Call (.Name x p) (e :: es) [] pos) (zm C sp Iy E t):=by
 intro a s J H Q I h;refine Xv (mq I n l ?_ D);refine XB (h₀:=X.base) I.ok.mod.Oa d.kp (thn (z pos a s J H _ I h) λM s1 ⟨G,N,g,r,q⟩=>⟨g.Ih,?_⟩) u b;exact rO d F j y v i g r q
def yH(b:Mk X.K C f)(F:FnOk X.prog X.w X.K X.mg X.base CX k f fd ps sp)(g:p0 (k+1) X.A)(j:Gl X x)(i:X.mg x=Z (.ref C))(n:Binds X.K fd ps ds)(l:aK Iy ds)(d:iN CX X E)(q:K3 x:=by decide):PE X (.Call (.Name x p) [] [] pos) (zm C sp Iy E t8):=by
 intro a s J H Q I h;refine Xv (mq I j i ?_ q);exact PySem.W.callWith_K0 I.Ih b.kp (rO (us:=[]) b F g n l d I .nil h)
end
structure jj(N P:List Str)(sc:Scope):Prop where
 kind:sc.kind=.function
 co:sc.isCoroutine=false
 gen:sc.isGenerator=false
 nd:N.Nodup
 pre:N.take P.length=P
 par:∀x∈P,sc.names.lookup x=some .local\/sc.names.lookup x=some .cell
 MA:∀y∈sc.names,y.2 ≠ .free
theorem oZ{a:Str->Option NameKind}{x:Str}:∀{binds:List (Str×On)}{m:Xg},(∀v,(x,v)∉binds)->bindL a binds m x=m x
 |[],_,_=>rfl
 | (n,v) :: r,m,h=>by
  unfold bindL;rw[oZ λw hw=>h w (Zw _ hw)];split
  ·have:x≠n:=by rintro rfl;exact h v Zv
   simp[this]
  ·rfl
theorem oV{a:Str->Option NameKind}{x:Str}:∀{binds:List (Str×On)}{m:Xg},(∀v,(x,v)∉binds)->bindC a binds m x=m x
 |[],_,_=>rfl
 | (n,v) :: r,m,h=>by
  unfold bindC;rw[oV λw hw=>h w (Zw _ hw)];split
  ·rfl
  ·have:x≠n:=by rintro rfl;exact h v Zv
   simp[this]
theorem oN{a:Str->Option NameKind}{x:Str}{v:On}:∀{P:List Str}{b:X3}{i:Nat}{m:Xg},P.Nodup->P[i]?=Z x->b[i]?=Z v->a x=Z .local →
  bindL a (P.zip b) m x=Z v
 |[],_,_,_,_,h,_,_=>by simp at h
 |_ :: _,[],_,_,_,_,h,_=>by simp at h
 |p :: P,w :: b,0,m,nd,e,d,f=>by
  simp at e d;subst e;subst d;show bindL a ((p,w) :: P.zip b) m p=_;unfold bindL;rw[oZ λv g=>(Zg.mp nd).1 (List.of_mem_zip g).1,Zq f];simp
 |p :: P,w :: b,i+1,m,nd,e,d,f=>by
  show bindL a ((p,w) :: P.zip b) m x=_;unfold bindL;exact oN (i:=i) (Zg.mp nd).2 (by simpa using e) (by simpa using d) f
theorem pj{a:Str->Option NameKind}{x:Str}{v:On}:∀{P:List Str}{b:X3}{i:Nat}{m:Xg},P.Nodup->P[i]?=Z x->b[i]?=Z v->a x≠Z .local →
  bindC a (P.zip b) m x=Z v
 |[],_,_,_,_,h,_,_=>by simp at h
 |_ :: _,[],_,_,_,_,h,_=>by simp at h
 |p :: P,w :: b,0,m,nd,e,d,f=>by
  simp at e d;subst e;subst d;show bindC a ((p,w) :: P.zip b) m p=_;unfold bindC;rw[oV λv g=>(Zg.mp nd).1 (List.of_mem_zip g).1,Zn f];simp
 |p :: P,w :: b,i+1,m,nd,e,d,f=>by
  show bindC a ((p,w) :: P.zip b) m x=_;unfold bindC;exact pj (i:=i) (Zg.mp nd).2 (by simpa using e) (by simpa using d) f
def start(N:List Str)(a:List V):St:=a.map Z++List.replicate (N.length-a.length) L
noncomputable def iF(j:KH)(P:Re)(w:UF)(K:Xk)(m:Xg)(h:SZ)(N:List Str)(d:Str)(a:Scope)(f:KM)(g:On)(A:SB)(b:List Env)(s:IR)(H:Hp)(E:XK):Cx where
 prog:=P
 w:=w
 K:=K
 mg:=m
 base:=h
 A:=A.deeper (envOfC d a s.heap.objs.size f g)
 N:=N
 s₀:=s
 H₀:=H
 env:=envOfC d a s.heap.objs.size f g
 outer:=b
 stack:=envOfC d a s.heap.objs.size f g :: b
 ex:=[]
 calm:=B
 fn:=λ_=>B
 pn:=[]
 xe:=λe l=>PP (KB P w) (A.deeper (envOfC d a s.heap.objs.size f g)) (leaving (envOfC d a s.heap.objs.size f g) e) (λ_ i=>j b H s E e i) (λn i=>j b H s E n i) l
def rN{a:Scope}{n:Nat}{x:Str}(h:a.names.lookup x=Z .cell):∃c,(cellsFrom n a.names []).lookup x=Z c:=by
 have q:=PySem.W.cellsFrom_some a.names n [] (.inl h);exact Yj.mp q
def vC{CX:KH}{P:Re}{w:UF}{K:Xk}{Q:Xg}{m:SZ}{N C:List Str}{j:Str}{d:Scope}{f:KM}{M:On}{A:SB}{g:List Env}{s X:IR}{H:Hp}{E:XK}{O:X3}{t:List V}(S:jj N C d)(hd:A.handled=L)(o:Env0 P w K Q m A g s H)(hl:t.length=C.length)(r:aK t O)(x:InCallC s s.heap.objs.size (bindL (envOfC j d s.heap.objs.size f M).kindOf (C.zip O) λ_=>L) (cellsFrom (s.heap.objs.size+1) d.names []) (bindC (envOfC j d s.heap.objs.size f M).kindOf (C.zip O) λ_=>L) X) :
  Inv (iF CX P w K Q m N j d f M A g s H E) [] (start N t) H X:=by
 have hpl:C.length<=N.length:=by have:=congrArg List.length S.pre;rw[Ym]at this;lia
 obtain⟨J,tk,rfl,hk⟩:=x.done;have U:∀b:KM,b∉(iF CX P w K Q m N j d f M A g s H E).ex:=λb z=>absurd (show b∈([]:Xa) from z) (by simp);refine⟨⟨o.mod,S.kind,rfl,rfl,Zj _,λy z c J l=>?_,λy D=>?_,λy c _ h=>?_,λ_=>hd,Around.frames_deeper o.frames,.inr ⟨rfl,rfl⟩,λb z=>absurd z (U b),o.bs,o.LV,λb _ _=>U b,λb z=>absurd z (U b),o.Ij,o.MX⟩,
  rfl,o.bare,Un.kept hk,⟨_,x.toInCall.ns,λi y v J l h3=>?_⟩,λy c h=>⟨_,x.cell y c h⟩,o.GN.fresh (Zj _),λy c h=>?_,λp F=>absurd (show p∈([]:Xo) from F) (by simp),o.GN.kept hk,?_⟩
 ·exact name_of_addr x.apart (Y1 J) (Y1 l)
 ·have D:d.names.lookup y=Z .cell\/d.names.lookup y=Z .free:=D;rcases D with D | D
  ·exact rN D
  ·exact absurd Y (S.MA _ (Y1 D))
 ·exact Y8 (x.above y c (Y1 h))
 ·have G:i<t.length:=by
   unfold start at l;by_cases G:i<t.length
   ·exact G
   ·rw[Yx (by simpa using G)]at l;rw[Yc]at l;split at l<;>cases l
  have ha:t[i]?=Z v:=by
   unfold start at l;rw[Z0 (by simpa using G),ZO]at l;cases e:t[i]? with
   |none=>rw[e]at l;cases l
   |some a=>rw[e]at l;cases l;rfl
  obtain⟨u,hu,rv⟩:=r.get ha;have F:C[i]?=Z y:=by
   rw[← S.pre,List.getElem?_take_of_lt (by lia)];exact J
  have SQ:C.Nodup:=by rw[← S.pre];exact S.nd.sublist (List.take_sublist _ _)
  refine⟨u,rv,?_⟩;rcases S.par y (YO F) with k | k
  ·exact .inl ⟨k,oN SQ F hu k⟩
  ·obtain⟨c,e⟩:=rN (n:=s.heap.objs.size+1) k;refine .inr ⟨.inl k,c,e,?_⟩;have q:=x.cell y c e;rw[pj SQ F hu (by show d.names.lookup y≠_;rw[k];decide)]at q;exact q
 ·exact o.GN.fresh (Y8 (x.above y c (Y1 h)))
 ·unfold start;show _=N.length;rw[Zt,Zu,YC];lia
def B5{U:KH}{P:Re}{w:UF}{K:Xk}{M:Xg}{h:SZ}{k:Nat}{f:KM}{l d:Str}{g:Arguments}{i:List Stmt}{a:Scope}{dV kV G pm z ct oc:On}{an od:Option KM}{JL:Array (Wr)}{N J:List Str}{X:Sp}(lk:K.lookup f=Z ⟨oc,od,.func (PySem.W.fnOf l d g i a dV kV G pm an z ct),JL⟩)(hcd:PySem.W.codeIn K z d=B)(S:jj N J a)(D:∀j H Q E,X j H Q E->j.length=J.length)(JB:∀(A:SB)(outer:List Env)(s:IR)(H:Hp)(j:List V)(Q:VK)(E:XK),p0 k (A.deeper (envOfC d a s.heap.objs.size f z))->X j H Q E →
   ∃t,IH (iF U P w K M h N d a f z A outer s H E) i t/\t { nx:=λ_ p=>Q .non p,rt:=Q } (start N j) H) :
  FnOk P w K M h U (k+1) f (PySem.W.fnOf l d g i a dV kV G pm an z ct) J X:=by
 refine⟨D,λA outer s H args us j Q E hr F hb r Ln=>?_⟩;have hl:=D _ _ _ _ Ln;have KX:K.In s.heap:=F.mod.Oa.keeps λb o e=>(F.bs b o e).1;have lim:s.heap.NoLimit:=F.mod.nolimit.keeps λb o e=>(F.bs b o e).1;have IQ:∀y∈J.zip us,a.names.lookup y.1=Z .local\/(a.names.lookup y.1=Z .cell/\((cellsFrom (s.heap.objs.size+1) a.names []).lookup y.1).isSome=B):=λ⟨n,v⟩ hy=>by
  rcases S.par n (List.of_mem_zip hy).1 with q | q
  ·exact .inl q
  ·exact .inr ⟨q,PySem.W.cellsFrom_some _ _ _ (.inl q)⟩
 refine codeAny_call_function hr.depth (KX _ _ lk) Y S.co S.gen Y (PySem.W.codeRec_of KX hcd) (hb _ _ _ _ ?_);refine wpAny_newFunctionEnv_cells S.kind IQ λenv he s1 x=>?_;subst he;refine⟨lim.keeps x.toInCall.keep,codeAny_func ?_⟩;obtain⟨t,ht,hq⟩:=JB A outer s H j Q E (hr.deeper _) Ln;have I:Inv (iF U P w K M h N d a f z A outer s H E) [] (start N j) H s1:=vC S hr.hd F hl r x;refine YJ (ht [] s1 (start N j) H _ I hq) (λfl s' C=>?_) λe s' C=>C;have fin:∀{O:St}{p:Hp}{v:V}{u:On},Inv (iF U P w K M h N d a f z A outer s H E) [] O p s'->RelV v u->Q v p->CE outer P w H s Q u s' :=
  λ{O p v u} m rv q=>⟨v,p,m.os,m.bare,m.base,m.GN,rv,q⟩
 cases fl with
 |ret u =>
  obtain⟨v,O,p,m,rv,q⟩:=C;exact fin m rv q
 |next =>
  obtain⟨O,p,m,q⟩:=C;exact fin (v:=V.non) (u:=Value.none) m Y q
 |brk =>
  obtain⟨_,_,_,q⟩:=C;exact False.elim q
 |cont =>
  obtain⟨_,_,_,q⟩:=C;exact False.elim q
section
variable{X:Cx}{x:Str}{p pos:Pos}{e:Expr}{es:List Expr}{t:TA}{id T:String}{r:List V->Hp->VK->Prop}
def So(r:List V->Hp->VK->Prop)(t:TA):TE:=λJ H Q=>t J H λa b=>r a b Q
def rA(o:d6 X (.builtin id) r)(m:Gl X x)(l:X.mg x=L)(i:bootBuiltins x=Z (.builtin id))(q:PA X (e :: es) t)(j:x ≠ "__name__" := by decide)(v:K3 x:=by decide)(n:K1 e es X:=by rfl)(b:K2 pos es X:=by rfl):PE X (.Call (.Name x p) (e :: es) [] pos) (So r t):=by
 intro a s J H Q I h;refine Xv (i7 I m l i ?_ j v);exact PyProof.Rows.callWith_builtin1 (thn (q pos a s J H _ I h) λf s1 ⟨d,w,u,r1,g⟩=>o a s1 J w d f Q u r1 g) n b
def o6(o:d6 X (.type T) r)(m:Gl X x)(l:X.mg x=L)(i:bootBuiltins x=Z (.type T))(q:PA X (e :: es) t)(j:x ≠ "__name__" := by decide)(v:K3 x:=by decide)(n:K1 e es X:=by rfl)(b:K2 pos es X:=by rfl):PE X (.Call (.Name x p) (e :: es) [] pos) (So r t):=by
 intro a s J H Q I h;refine Xv (i7 I m l i ?_ j v);exact Yl (thn (q pos a s J H _ I h) λf s1 ⟨d,w,u,r1,g⟩=>o a s1 J w d f Q u r1 g) n b
end
end L2
namespace HT
open PySem PyProof.Rows
section
variable{prog:Re}{w:UF}{A:SB}{E:Z5}{s:IR}
def HC(n d:Nat):Option Int->Nat
 |none=>d
 |some v=>if v<0 then (v+(n:Int)).toNat else min v.toNat n
end
end HT
namespace L2
open PySem PySem.Spec PyProof.Rows
abbrev TO:=St->Hp->(Option Int->Hp->Prop)->Prop
def PO(X:Cx)(e:Option Expr)(t:TO):Prop :=
 ∀(a:Xo)(s:IR)(J:St)(H:Hp)(Q:Option Int->Hp->Prop),Inv X a J H s->t J H Q →
  PP (KB X.prog X.w) X.A (evalPart e X.env) (λu d=>∃o b,Inv X a J b d/\IsPart u o/\Q o b) X.xe s
def Bj:TO:=λ_ H Q=>Q L H
def FB(t:TE):TO:=λJ H Q=>t J H λx a=>∃i,x=.int i/\Q (Z i) a
section
variable{X:Cx}{e:Expr}{te:TE}{lo hi:Option Expr}{tl th:TO}{pos p2:Pos}
def uG:PO X L Bj:=by
 intro a s J H Q I h;rw[evalPart_none];exact ZS ⟨L,H,I,.none,h⟩
def vg(h:PE X e te):PO X (Z e) (FB te):=by
 intro a s J H Q I hw;rw[evalPart_some];refine thn (h a s J H _ I hw) λu s1 ⟨x,f,d,r1,b⟩=>?_;obtain⟨i,rfl,q⟩:=b;obtain⟨t,rfl⟩:=r1;exact⟨Z i,f,d,.int i t,q⟩
noncomputable def Mo(X:Cx)(r:V->Option Int->Option Int->Hp->VK->Prop):Prop :=
 ∀(a:Xo)(s:IR)(J:St)(H:Hp)(x:V)(v d b:On)(lo hi:Option Int)(f:KM)(Q:VK),Inv X a J H s->RelV x v->s.heap.IsSliceOf f d b .none->IsPart d lo->IsPart b hi->r x lo hi H Q →
  ∃T id,typeLookup (.type T) "__getitem__" = pure (Z (.builtin id))/\s.TypeIs v T/\PP (KB X.prog X.w) X.A (getItem v (.ref f)) (EP X a J Q) X.xe s
def Mo.or{r i:V->Option Int->Option Int->Hp->VK->Prop}(h:Mo X r)(m:Mo X i):Mo X (λx lo hi H Q=>r x lo hi H Q\/i x lo hi H Q):=by
 intro a s J H x v d b lo hi f Q I g l j pu q;rcases q with q | q
 ·exact h a s J H x v d b lo hi f Q I g l j pu q
 ·exact m a s J H x v d b lo hi f Q I g l j pu q
def Um(r:V->Option Int->Option Int->Hp->VK->Prop)(d:TE)(a b:TO):TE:=λJ H Q=>d J H λx h=>a J h λl g=>b J g λu f=>r x l u f Q
def so{r:V->Option Int->Option Int->Hp->VK->Prop}(z:Mo X r)(D:PE X e te)(C:PO X lo tl)(t:PO X hi th):PE X (.Subscript e (.Slice lo hi L p2) pos) (Um r te tl th):=by
 intro a s J H Q I h;refine Subscript_ (thn (D a s J H _ I h) λv s1 ⟨x,P,N,r1,o⟩=>?_);refine wpAny_Slice (thn (C a s1 J P _ N o) λg j ⟨l,O,M,p,n⟩=>thn (t a j J O _ M n) λf d ⟨u,i,G,pu,m⟩=>?_);rw[evalPart_none];refine ZS ?_;have F:Inv X a J i { d with heap:=d.heap.push { cls:=.type "slice",data:=.fields #[g,f,.none] } }:=G.kept (t':=d.toks) λb S q=>Zk _ q;obtain⟨T,id,E,y,hg⟩:=z a { d with heap:=d.heap.push { cls:=.type "slice",data:=.fields #[g,f,.none] } } J i x v g f l u d.heap.objs.size Q F r1 (Heap.IsSliceOf.new ..) p pu m;show PP (KB X.prog X.w) X.A (subscriptTail e (.Slice lo hi L p2) v (.ref d.heap.objs.size)) (EP X a J Q) X.xe { d with heap:=d.heap.push { cls:=.type "slice",data:=.fields #[g,f,.none] } };exact tail_any (ops:=[.ref d.heap.objs.size,v]) y E hg (by with_unfolding_all rfl)
def wb(a:List V)(b d:Option Int):List V:=(a.drop (HT.HC a.length 0 b)).take (HT.HC a.length a.length d-HT.HC a.length 0 b)
def sM(a:List V)(b d:Option Int):(wb a b d).length<=a.length:=by
 unfold wb;rw[Ym,YW];lia
end
def MG(n:Nat)(i:Int):Option Nat:=if 0<=i then (if i<n then Z i.toNat else L) else if -(n:Int)<=i then Z (i+n).toNat else L
def Nc{α:Type}(a:List α)(i:Int):Option α:=(MG a.length i).bind λj=>a[j]?
def vc{n:Nat}{i:Int}{j:Nat}(h:MG n i=Z j):seqIndex? i n=Z j/\j<n/\-(n:Int)<=i/\i<n:=by
 unfold MG at h;by_cases b:0<=i
 ·rw[Zq b]at h;by_cases a:i<n
  ·rw[Zq a]at h;have e:i.toNat=j:=Zm h;exact⟨by rw[seqIndex_of b a,e],by lia,by lia,a⟩
  ·rw[Zn a]at h;cases h
 ·rw[Zn b]at h;by_cases a:-(n:Int)<=i
  ·rw[Zq a]at h;have e:(i+n).toNat=j:=Zm h;exact⟨by rw[seqIndex_neg (by lia) a,e],by lia,a,by lia⟩
  ·rw[Zn a]at h;cases h
def p8{α:Type}{a:List α}{i:Int}{v:α}(h:Nc a i=Z v):∃j,seqIndex? i a.length=Z j/\a[j]?=Z v/\j<a.length/\-(a.length:Int)<=i/\i<a.length:=by
 unfold Nc at h;cases e:MG a.length i with
 |none=>rw[e]at h;cases h
 |some j =>
  rw[e]at h;obtain⟨g,f,d,b⟩:=vc e;exact⟨j,g,h,f,d,b⟩
def gQ(b:Expr):Prop:=∀o i,subscripted b R o i=operate [o,i] (getItem o i)
def Iq(X:Cx)(r:R2):Prop :=
 ∀(value slice:Expr)(a:Xo)(s:IR)(J:St)(H:Hp)(x y:V)(v u:On)(Q:VK),Inv X a J H s->RelV x v->RelV y u->r x y H Q →
  subscripted slice R v u=operate [v,u] (getItem v u)->PP (KB X.prog X.w) X.A (subscriptTail value slice v u) (EP X a J Q) X.xe s
def NA(X:Cx)(e:String)(r:V->List V->Hp->VK->Prop):Prop :=
 ∀(a:Xo)(s:IR)(J:St)(H:Hp)(x:V)(b:List V)(v:On)(d:X3)(Q:VK),Inv X a J H s->RelV x v->aK b d->r x b H Q →
  PP (KB X.prog X.w) X.A (call (.builtin e) (v :: d)) (EP X a J Q) X.xe s
section
variable{X:Cx}{a b:Expr}{ta tb:TE}{pos:Pos}
def Iq.or{r g:R2}(h:Iq X r)(j:Iq X g):Iq X (λx y H Q=>r x y H Q\/g x y H Q):=by
 intro value slice d s J H x y v u Q I f e q i;rcases q with q | q
 ·exact h value slice d s J H x y v u Q I f e q i
 ·exact j value slice d s J H x y v u Q I f e q i
def mV{r:R2}(j:Iq X r)(m:PE X a ta)(l:PE X b tb)(i:gQ b):PE X (.Subscript a b pos) (NM r ta tb):=by
 intro d s J H Q I h;exact Subscript_ (FL m l I h λv u e x y o n g f q=>j a b d e J o x y v u Q n g f q (i _ _))
def Fe(K:Xk):R2:=λx y H Q=>∃p d i v,x=.ref p/\y=.int i/\GW K H p d/\Nc d i=Z v/\Q v H
def EU(K:Xk):R2:=λx y H Q=>∃p d i v,x=.ref p/\y=.int i/\HN K H p d/\Nc d i=Z v/\Q v H
def Eo:R2:=λx y H Q=>∃z i c,x=.str z/\y=.int i/\z.length<=KF/\Nc z.cps.toList i=Z c/\Q (.str ⟨#[c]⟩) H
def Bp:Iq X (Fe X.K):=by
 intro value slice d s J H x y v u Q I C A h l;obtain⟨p,S,i,z,rfl,rfl,E,G,q⟩:=h;cases C;obtain⟨t,rfl⟩:=A;obtain⟨D,r,f,U⟩:=I.list E;obtain⟨j,e,O,h3,N,M⟩:=p8 G;obtain⟨w,n,P⟩:=r.get O;have F:=r.length;have Y:=ll;have fin:EP X d J Q w s:=⟨z,H,I,P,q⟩
 by_cases m:0<=i
 ·have g:i.toNat=j:=by
   rw[seqIndex_of m M]at e;exact Zm e
  exact item_listR f.isList m (by lia) (by rw[g];simpa using n) fin l
 ·have g:(i+(D.toArray.size:Int)).toNat=j:=by
   rw[seqIndex_neg (by lia) N]at e;rw[ZZ,← F];exact Zm e
  exact subscriptTail_builtinR (x:=w) f.isList.typeIs slot_list_getitem.lookup
   (wpAny_getItem_list_neg (Q:=λr o=>r=w/\EP X d J Q r o) f.isList (by lia) (by rw[ZZ]<;>lia) (by lia) (by rw[g];simpa using n) ⟨rfl,fin⟩) l
def CW:Iq X (EU X.K):=by
 intro value slice d s J H x y v u Q I l g h m;obtain⟨p,G,i,z,rfl,rfl,n,A,q⟩:=h;cases l;obtain⟨t,rfl⟩:=g;obtain⟨M,r,e,N⟩:=I.tuple n;obtain⟨j,D,C,U,S,P⟩:=p8 A;obtain⟨w,E,F⟩:=r.get C;have o:=r.length;have O:=ll;have fin:EP X d J Q w s:=⟨z,H,I,F,q⟩
 exact subscriptTail_builtinR (x:=w) e.typeIs slot_tuple_getitem.lookup
  (getItem_tuple (j:=j) (Q:=λr f=>r=w/\EP X d J Q r f) e (by lia) (by lia) (by rw[ZZ,← o];exact D) (by simpa using E) ⟨rfl,fin⟩) m
def C3:Iq X Eo:=by
 intro value slice d s J H x y v u Q I g f h l;obtain⟨z,i,c,rfl,rfl,A,n,q⟩:=h;obtain⟨t,rfl⟩:=g;obtain⟨w,rfl⟩:=f;obtain⟨j,e,r,D,p,o⟩:=p8 n;have m:z.cps.toList.length=z.length:=by simp[Str.length]
 rw[m]at e p o;have C:=ll;exact tail_any (typeIs_str s z t) slot_str_getitem.lookup (getItem_str (c:=c) (by
  have e1:decide (i < -(2 ^ 63:Int))=R:=Za (by lia);have e2:decide (i ≥ 2 ^ 63)=R:=Za (by lia);rw[e1,e2,Bool.or_false]) (by rw[e];simpa using r) ⟨.str ⟨#[c]⟩,H,I.tok _,⟨_,rfl⟩,q⟩) l
def P4(K:Xk):R2:=λx y H Q=>Fe K x y H Q\/EU K x y H Q\/Eo x y H Q
def jJ:Iq X (P4 X.K):=Bp.or (CW.or C3)
def tN(d:X3)(n j:Nat)(u:On):Obj.mapSeq (·.setIfInBounds j u) { cls:=.type "list",data:=.seq d.toArray n }={ cls:=.type "list",data:=.seq (d.set j u).toArray n }:=by
 simp[Obj.mapSeq]
theorem Inv.lst{d:Xo}{J:St}{H:Hp}{s:IR}{p:KM}{g:List V}(I:Inv X d J H s)(h:H p=Z (.lst g)) :
  ∃(f:X3)(n:Nat),aK g f/\s.heap.get? p=Z { cls:=.type "list",data:=.seq f.toArray n }/\g.length<=sizeLine:=by
 obtain⟨z,f,n,r,e⟩:=I.GN p _ h;exact⟨f,n,r,e,z⟩
def Inv.MD{g:Xo}{J:St}{H:Hp}{s:IR}{p:KM}{o i:List V}{l d:X3}{n j:Nat}{f:Obj->Obj}(I:Inv X g J H s)(h:H p=Z (.lst o))(w:s.heap.get? p=Z { cls:=.type "list",data:=.seq l.toArray n })(m:f { cls:=.type "list",data:=.seq l.toArray n }={ cls:=.type "list",data:=.seq d.toArray j })(r:aK i d)(v:i.length<=KF)(t:Nat) :
  Inv X g J (upd H p (.lst i)) { s with heap:=s.heap.update p f,toks:=t }:=by
 have e:(s.heap.update p f).get? p=Z { cls:=.type "list",data:=.seq d.toArray j }:=by
  rw[Heap.get?_update_self f w (by rw[m]<;>rfl),m]
 refine I.write (x:=p) (e:=p) (by rw[h];trivial) (.inl Y) (λb u hb q=>(XD _ _ (Yi hb)).trans q) ⟨_,e⟩ ?_;exact⟨v,d,j,r,e⟩
def B9:V->V->V->Hp->(Hp->Prop)->Prop:=λo i v H Q=>∃p d k j,o=.ref p/\i=.int k/\H p=Z (.lst d)/\MG d.length k=Z j/\Q (upd H p (.lst (d.set j v)))
def set_list:DX X B9:=by
 intro d s J H o i v N iv u Q I E F D h;obtain⟨p,C,k,j,rfl,rfl,w,M,q⟩:=h;cases E;obtain⟨t,rfl⟩:=F;obtain⟨m,n,r,f,G⟩:=I.lst w;obtain⟨e,P,y,x⟩:=vc M;have g:=r.length;have O:=ll;have A:Inv X d J (upd H p (.lst (C.set j v))) { s with heap:=s.heap.update p (Obj.mapSeq (·.setIfInBounds j u)) } :=
  I.MD w f (tN m n j u) (r.set D j) (by rw[Z8];exact G) s.toks
 by_cases z:0<=k
 ·have l:k.toNat=j:=by
   rw[seqIndex_of z x]at e;exact Zm e
  exact PySem.W.ki_setAt f z (by lia) (by rw[ZZ,← g];exact x) (by rw[l];exact⟨_,A,q⟩)
 ·have l:(k+(m.toArray.size:Int)).toNat=j:=by
   rw[seqIndex_neg (by lia) y]at e;rw[ZZ,← g];exact Zm e
  exact PySem.W.ki_setBack f (by lia) (by rw[ZZ,← g];exact y) (by lia) (by rw[l];exact⟨_,A,q⟩)
def qu(d e:Option Int)(n:Nat):(sliceBounds d e L n).1=((HT.HC n 0 d:Nat):Int)/\(sliceBounds d e L n).2.1=((HT.HC n n e:Nat):Int)/\(sliceBounds d e L n).2.2=1:=by
 refine⟨?_,?_,rfl⟩
 ·cases d with
  |none=>simp[sliceBounds,HT.HC]
  |some i =>
   simp only[sliceBounds,HT.HC,Option.getD_none,show (1:Int) > 0 by decide,if_true];by_cases h:i<0
   ·simp only[h,if_true]<;>lia
   ·simp only[h,if_false]<;>lia
 ·cases e with
  |none=>simp[sliceBounds,HT.HC]
  |some i =>
   simp only[sliceBounds,HT.HC,Option.getD_none,show (1:Int) > 0 by decide,if_true];by_cases h:i<0
   ·simp only[h,if_true]<;>lia
   ·simp only[h,if_false]<;>lia
def oB(d:X3)(e f:Option Int):slicePick d.toArray e f L=((d.drop (HT.HC d.length 0 e)).take (HT.HC d.length d.length f-HT.HC d.length 0 e)).toArray:=by
 obtain⟨i,h,g⟩:=qu e f d.toArray.size;unfold slicePick;rw[i,h,g];simp only[sliceRange_one,pick_run,ZZ]<;>rfl
def FY(K:Xk):V->Option Int->Option Int->Hp->VK->Prop:=λx lo e H Q=>∃a d,x=.ref a/\GW K H a d/\∀p,H p=L->Q (.ref p) (upd H p (.lst (wb d lo e)))
def zY:Mo X (FY X.K):=by
 intro f s J H x v t p lo e u Q I i n j pu h;obtain⟨a,d,rfl,m,q⟩:=h;cases i;obtain⟨w,r,g,l⟩:=I.list m;have hlen:=r.length;refine⟨"list",_,slot_list_getitem.lookup,g.isList.typeIs,?_⟩;refine wpAny_getItem_list_slice g.isList n j pu .none (by simp) ?_ (by rw[ZZ]<;>lia);rw[oB,← hlen];refine⟨.ref s.heap.objs.size,_,I.laid (t':=s.toks) (o:=.lst (wb d lo e)) (λb y q=>Zk _ q) (Zj _) ?_,rfl,q _ (I.GN.fresh (Zj _))⟩;exact⟨ZJ (sM d lo e) l,_,0,(r.drop (HT.HC d.length 0 lo)).take (HT.HC d.length d.length e-HT.HC d.length 0 lo),ZU _ Y⟩
def fN:V->Bool
 |.non=>B
 |.bl _=>B
 |.int _=>B
 |.str _=>B
 |_=>R
def Lr:V->V->Bool
 |.non,.non=>B
 |.bl a,.bl b=>a==b
 |.bl a,.int b=>(if a then 1 else 0)==b
 |.int a,.bl b=>a==(if b then 1 else 0)
 |.int a,.int b=>a==b
 |.str a,.str b=>a==b
 |_,_=>R
def CG{A:SB}{s:IR}{y x:V}{u v:On}(f:RelV y u)(d:RelV x v)(h:fN y=B)(g:fN x=B):SeqAt.EqAt A s u v (Lr y x):=by
 cases y with
 |non =>
  cases f;cases x with
  |non=>cases d;exact SeqAt.EqAt.same _
  |bl b=>cases d;exact SeqAt.EqAt.none_bool b
  |int b=>obtain⟨t,rfl⟩:=d;exact SeqAt.EqAt.none_int b t
  |str b=>obtain⟨t,rfl⟩:=d;exact SeqAt.EqAt.none_str b t
  |_=>exact absurd (show R=B from g) Zc
 |bl a =>
  cases f;cases x with
  |non=>cases d;exact SeqAt.EqAt.bool_none a
  |bl b=>cases d;exact SeqAt.EqAt.bool_bool a b
  |int b=>obtain⟨t,rfl⟩:=d;exact SeqAt.EqAt.bool_int a b t
  |str b=>obtain⟨t,rfl⟩:=d;exact SeqAt.EqAt.bool_str a b t
  |_=>exact absurd (show R=B from g) Zc
 |int a =>
  obtain⟨e,rfl⟩:=f;cases x with
  |non=>cases d;exact SeqAt.EqAt.int_none a e
  |bl b=>cases d;exact SeqAt.EqAt.int_bool a e b
  |int b=>obtain⟨t,rfl⟩:=d;exact SeqAt.EqAt.int_int a e b t
  |str b=>obtain⟨t,rfl⟩:=d;exact SeqAt.EqAt.int_str a e b t
  |_=>exact absurd (show R=B from g) Zc
 |str a =>
  obtain⟨e,rfl⟩:=f;cases x with
  |non=>cases d;exact SeqAt.EqAt.str_none a e
  |bl b=>cases d;exact SeqAt.EqAt.str_bool a e b
  |int b=>obtain⟨t,rfl⟩:=d;exact SeqAt.EqAt.str_int a e b t
  |str b=>obtain⟨t,rfl⟩:=d;exact SeqAt.EqAt.str_str a e b t
  |_=>exact absurd (show R=B from g) Zc
 |_=>exact absurd (show R=B from h) Zc
def JV(x:V)(u:On):Bool:=match u with
 |.none=>Lr .non x
 |.bool b=>Lr (.bl b) x
 |.int i _=>Lr (.int i) x
 |.str z _=>Lr (.str z) x
 |_=>R
def w6{x y:V}{u:On}(r:RelV y u)(f:fN y=B):JV x u=Lr y x:=by
 cases y with
 |non=>cases r;rfl
 |bl b=>cases r;rfl
 |int i=>obtain⟨t,rfl⟩:=r;rfl
 |str z=>obtain⟨t,rfl⟩:=r;rfl
 |_=>exact absurd (show R=B from f) Zc
theorem kg{x:V}:∀{d:List V}{e:X3},aK d e->d.all fN=B->e.any (JV x)=d.any λy=>Lr y x
 |_,_,.nil,_=>rfl
 |y :: d,u :: e,.cons r t,f=>by
  rw[Y3,Ze]at f;rw[Yf,Yf,w6 r f.1,kg t f.2]
theorem iK{A:SB}{s:IR}{x:V}{v:On}(h:RelV x v)(i:fN x=B):∀{e:List V}{g:X3},aK e g->e.all fN=B->∀u∈g,SeqAt.EqAt A s u v (JV x u)
 |_,_,.nil,_=>λu d=>by cases d
 |y :: e,u :: g,.cons r t,f=>λj d=>by
  rw[Y3,Ze]at f;rcases Zp.mp d with rfl | d
  ·rw[w6 r f.1];exact CG r h f.1 i
  ·exact iK h i t f.2 j d
def Oe(x:V)(d:List V):Bool:=d.any λy=>Lr y x
def Pa(K:Xk)(e:Bool):R2:=λx y H Q=>∃p d,y=.ref p/\(GW K H p d\/HN K H p d)/\fN x=B/\d.all fN=B/\Q (.bl (if e then !Oe x d else Oe x d)) H
def vK:OpR X (SL .In) (Pa X.K R):=by
 intro i s J H x y v u Q I g l h;obtain⟨p,n,rfl,e,j,fs,q⟩:=h;cases l;rcases e with e | e
 ·obtain⟨d,r,f,m⟩:=I.list e;refine SeqAt.in_listAt (JV x) f.isList (λw hw=>iK g j r fs w (by simpa using hw)) ⟨.bl _,H,I,rfl,?_⟩;rw[show d.toArray.any (JV x)=d.any (JV x) by simp,kg r fs];exact q
 ·obtain⟨d,r,f,m⟩:=I.tuple e;refine SeqAt.in_tupleAt (JV x) f (λw hw=>iK g j r fs w (by simpa using hw)) ⟨.bl _,H,I,rfl,?_⟩;rw[show d.toArray.any (JV x)=d.any (JV x) by simp,kg r fs];exact q
def pO:OpR X (SL .NotIn) (Pa X.K B):=by
 intro i s J H x y v u Q I g l h;obtain⟨p,n,rfl,e,j,fs,q⟩:=h;cases l;rcases e with e | e
 ·obtain⟨d,r,f,m⟩:=I.list e;refine SeqAt.notIn_listAt (JV x) f.isList (λw hw=>iK g j r fs w (by simpa using hw)) ⟨.bl _,H,I,rfl,?_⟩;rw[show d.toArray.any (JV x)=d.any (JV x) by simp,kg r fs];exact q
 ·obtain⟨d,r,f,m⟩:=I.tuple e;refine SeqAt.notIn_tupleAt (JV x) f (λw hw=>iK g j r fs w (by simpa using hw)) ⟨.bl _,H,I,rfl,?_⟩;rw[show d.toArray.any (JV x)=d.any (JV x) by simp,kg r fs];exact q
def d6.or{f:On}{r j:List V->Hp->VK->Prop}(h:d6 X f r)(l:d6 X f j):d6 X f (λe H Q=>r e H Q\/j e H Q):=by
 intro d s J H e g Q I i q;rcases q with q | q
 ·exact h d s J H e g Q I i q
 ·exact l d s J H e g Q I i q
def qm:d6 X (.type "list") (λA H Q=>∃p g,A=[.ref p]/\(GW X.K H p g\/HN X.K H p g)/\∀l,H l=L->Q (.ref l) (upd H l (.lst g))):=by
 intro m s J H A E Q I r h;obtain⟨p,g,rfl,v,q⟩:=h;obtain⟨u,rfl,D⟩:=vals1 r;cases D;have fin:∀(f:X3),aK g f->g.length<=KF->∀(d:SZ)(j:Nat),(∀b C,s.heap.get? b=Z C->d.get? b=Z C) →
   d.get? s.heap.objs.size=Z { cls:=.type "list",dict:=L,data:=.seq f.toArray j,slots:=#[] }->EP X m J Q (.ref s.heap.objs.size) { s with heap:=d }:=λf i t d j kp e =>
  ⟨.ref s.heap.objs.size,_,I.laid (t':=s.toks) kp (Zj _) (show bR X.prog X.w _ d _ (.lst g) from⟨t,f,j,i,e⟩),rfl,q _ (I.GN.fresh (Zj _))⟩
 rcases v with v | v
 ·obtain⟨f,i,x,t⟩:=I.list v;have hlen:=i.length;obtain⟨o,y,z,n,hd⟩:=x.isList;exact call_list_seq p (.inl Y) y z hd (λd j kp e=>fin f i t d j kp e) (by simp only[ZZ]<;>lia)
 ·obtain⟨f,i,x,t⟩:=I.tuple v;have hlen:=i.length;obtain⟨o,y,z,n,hd⟩:=x;exact call_list_seq p (.inr Y) y z hd (λd j kp e=>fin f i t d j kp e) (by simp only[ZZ]<;>lia)
def oz:d6 X (.type "tuple") (λt H Q=>∃p f,t=[.ref p]/\((GW X.K H p f/\∀l,H l=L->Q (.ref l) (upd H l (.tup f)))\/(HN X.K H p f/\Q (.ref p) H))):=by
 intro d s J H t A Q I r h;obtain⟨p,f,rfl,h⟩:=h;obtain⟨u,rfl,y⟩:=vals1 r;cases y;rcases h with⟨n,q⟩ | ⟨n,q⟩
 ·obtain⟨m,i,j,v⟩:=I.list n;have hlen:=i.length;refine call_tuple_list j.isList (λg kp=>?_) (by simp only[ZZ]<;>lia);have x:Inv X d J H { s with heap:=g }:=I.kept (t':=s.toks) kp;have z:Inv X d J (upd H g.objs.size (.tup f)) { s with heap:=g.push { cls:=.type "tuple",data:=.seq m.toArray } } :=
   x.laid (t':=s.toks) (λb o e=>Zk _ e) (Zj _) (show bR X.prog X.w _ _ _ (.tup f) from⟨v,m,i,Lv.new _ _,IsTup.new _ _⟩)
  exact⟨.ref g.objs.size,_,z,rfl,q _ (x.GN.fresh (Zj _))⟩
 ·obtain⟨m,i,j,v⟩:=I.tuple n;exact call_tuple_same j ⟨.ref p,H,I,rfl,q⟩
def Lz(K:Xk)(T:String)(x:V)(H:Hp):Prop:=match x with
 |.str _=>T = "str"
 |.int _=>T = "int"
 |.ref p=>(T = "list" ∧ ∃e,GW K H p e)\/(T = "tuple" ∧ ∃o,K.lookup p=Z o/\o.cls=.type "tuple" ∧ o.dict=L) ∨
   (T = "dict" ∧ ((∃d,H p=Z (.dK d))\/∃d,H p=Z (.dT d)))\/(T = "set" ∧ ∃S n,H p=Z (.set S n))
 |_=>False
def CH{f:Xo}{J:St}{H:Hp}{s:IR}{T:String}{x:V}{v:On}(I:Inv X f J H s)(r:RelV x v)(g:Lz X.K T x H) :
  s.TypeIs v T/\∀a,v=.ref a->∃j,s.heap.get? a=Z j/\j.dict=L:=by
 cases x with
 |str z =>
  obtain⟨t,rfl⟩:=r;cases (show T = "str" from g);exact⟨typeIs_str s z t,λ_ e=>nomatch e⟩
 |int i =>
  obtain⟨t,rfl⟩:=r;cases (show T = "int" from g);exact⟨typeIs_int s i t,λ_ e=>nomatch e⟩
 |ref p =>
  cases r;rcases g with⟨rfl,u,l⟩ | ⟨rfl,o,d,m,hd⟩ | ⟨rfl,d⟩ | ⟨rfl,S,n,d⟩
  ·obtain⟨w,_,h,_⟩:=I.list l;refine⟨h.isList.typeIs,λa e=>?_⟩;cases e;obtain⟨o,n,e,c,hd,_⟩:=h;exact⟨o,e,hd⟩
  ·refine⟨⟨o,I.Ih p o d,m⟩,λa e=>?_⟩;cases e;exact⟨o,I.Ih _ o d,hd⟩
  ·have z:∃o,s.heap.get? p=Z o/\o.ExactDict:=by
    rcases d with⟨q,d⟩ | ⟨q,d⟩
    ·obtain⟨_,_,_,_,o,_,_,e,ex,_⟩:=I.GN p _ d;exact⟨o,e,ex⟩
    ·obtain⟨_,_,_,_,o,_,_,e,ex,_⟩:=I.GN p _ d;exact⟨o,e,ex⟩
   obtain⟨o,e,ex⟩:=z;refine⟨⟨o,e,ex.1⟩,λa e2=>?_⟩;cases e2;exact⟨o,e,ex.2.1⟩
  ·obtain⟨o,_,_,_,e,ex,_⟩:=I.GN p _ d;refine⟨⟨o,e,ex.1⟩,λa e2=>?_⟩;cases e2;exact⟨o,e,ex.2.1⟩
 |_=>exact False.elim g
def Us(K:Xk)(T:String)(r:V->List V->Hp->VK->Prop)(f:TE)(t:TA):TE:=λJ H Q=>f J H λx d=>Lz K T x d/\t J d λe g=>r x e g Q
variable{o e:Expr}{es:List Expr}{to:TE}{t:TA}{name:Str}{apos oe:Pos}{T id:String}{r:V->List V->Hp->VK->Prop}
def rD(q:PlainAttrs T)(f:Slot T name id)(D:typeOf (.builtin id)=pure (.type "method_descriptor"))(y:NA X id r)(w:PE X o to)(z:PA X (e :: es) t)(P:UV o name X.env (eval o X.env)=eval o X.env:=by rfl)(F:((backTo oe (Pv (e :: es) X.env)).all (λx=>!x.1)&&(backToKw oe (SC [] X.env)).all (λx=>x.1.isSome)
   && decide ((e :: es).length+([]:List Keyword).length+(if ([]:List Keyword).isEmpty then 0 else 1)<30))=B:=by rfl)(N:(apos.endLine==oe.line)=B:=by rfl)(u:K1 e es X:=by rfl)(O:K2 oe es X:=by rfl) :
  PE X (.Call (.Attribute o name apos) (e :: es) [] oe) (Us X.K T r to t):=by
 intro d s J H Q I h;refine wpAny_Call_method_late P F N Y (thn (w d s J H _ I h) λv s1 ⟨x,M,i,r1,ty,p⟩=>?_);obtain⟨C,A⟩:=CH i r1 ty;refine⟨T,id,q,f,D,C,A,?_⟩;have g:=z oe d s1 J M _ i p;rw[u]at g ⊢;refine Calls.callWith_builtin (by show (R||(backTo oe (Pv es X.env)).any (·.1))=R;rw[O]<;>rfl) (Calls.evalArgs_plain ?_);exact thn g λl m ⟨j,G,E,r2,n⟩=>y d m J G x j v l Q E r1 r2 n
end
def T6(X:Cx)(e:String)(r:V->List V->Hp->VK->Prop):Prop :=
 ∀(a:Xo)(s:IR)(J:St)(H:Hp)(x:V)(b:List V)(v:On)(d:X3)(Q:VK),Inv X a J H s->RelV x v->aK b d->r x b H Q →
  PP (KB X.prog X.w) X.A (call (.builtin e) (v :: d)) (EP X a J Q) X.xe s
def aK.nil_inv{a:X3}(h:aK [] a):a=[]:=by
 cases h;rfl
def aK.cons_inv{x:V}{a:List V}{d:X3}(h:aK (x :: a) d):∃u b,d=u :: b/\RelV x u/\aK a b:=by
 cases h with
 |cons r t=>exact⟨_,_,rfl,r,t⟩
def aK.one{x:V}{a:X3}(h:aK [x] a):∃u,a=[u]/\RelV x u:=by
 obtain⟨u,vs,rfl,r,t⟩:=h.cons_inv;rw[t.nil_inv];exact⟨_,rfl,r⟩
section
variable{X:Cx}{pins:Xo}{J:St}{H:Hp}{s:IR}{l b:KM}{xs ys zs:List V}
def Inv.N9{a its':X3}{n:Nat}{f:Array On->Array On}{d:Nat}(I:Inv X pins J H s)(m:H l=Z (.lst xs))(e:s.heap.get? l=Z { cls:=.type "list",data:=.seq a.toArray n })(j:f a.toArray=its'.toArray)(h:aK ys its')(g:ys.length<=KF) :
  Inv X pins J (upd H l (.lst ys)) { s with heap:=s.heap.update l (Obj.mapSeq f),toks:=d }:=by
 have q:=PySem.IsL.update e f;rw[j]at q;refine I.write (x:=l) (e:=l) (by rw[m];exact trivial) (.inl Y) (λo u hb i=>(XD s.heap (Obj.mapSeq f) (Yi hb)).trans i) ⟨_,q⟩ ?_;exact⟨g,its',_,h,q⟩
def Inv.QK{a:X3}{t':Nat}(I:Inv X pins J H s)(e:aK ys a)(d:ys.length<=KF) :
  Inv X pins J (upd H s.heap.objs.size (.lst ys)) { s with heap:=s.heap.push { cls:=.type "list",data:=.seq a.toArray },toks:=t' } :=
 I.laid (λ_ _ q=>Zk _ q) (Zj _) ⟨d,a,0,e,ZU _ Y⟩
theorem Inv.fresh(I:Inv X pins J H s):H s.heap.objs.size=L:=I.GN.fresh (Zj _)
def Inv.KZ(I:Inv X pins J H s)(d:H l=Z (.lst xs)):xs.length<=KF/\∃(a:X3)(n:Nat),aK xs a/\xs.length=a.length/\s.heap.get? l=Z { cls:=.type "list",data:=.seq a.toArray n }:=by
 obtain⟨z,a,n,r,e⟩:=I.GN l _ d;exact⟨z,a,n,r,r.length,e⟩
def xN{n:Nat}(h:n<=KF):Builtin.List.listTooLong n=R:=by
 unfold Builtin.List.listTooLong;exact Za (by exact Nat.not_lt_of_le h)
end
section
variable{X:Cx}
def uF:V->List V->Hp->VK->Prop:=λx b H Q=>∃l a y,x=.ref l/\b=[y]/\H l=Z (.lst a)/\a.length<KF/\Q .non (upd H l (.lst (a++[y])))
def jo:T6 X "list.append" uF:=by
 intro a s J H x o v p Q I f g h;obtain⟨l,m,y,rfl,rfl,d,j,q⟩:=h;cases f;obtain⟨u,rfl,i⟩:=g.one;obtain⟨z,b,n,r,t,e⟩:=I.KZ d;refine call_meets F.slot_list_append ⟨_,e,rfl⟩ F.entry_list_append (F.args_list_append_2 _ _) (PySem.list_append l b.toArray n u (by rw[ZZ];lia)) ⟨e,?_⟩;refine⟨.non,_,I.N9 (its':=b++[u]) d e (by simp) (r.append (.cons i .nil)) ?_,rfl,q⟩;rw[Zt,ZP];exact Nat.succ_le_of_lt j
def uV:V->List V->Hp->VK->Prop:=λx e H Q=>∃l b d a,x=.ref l/\e=[.ref b]/\H l=Z (.lst d)/\H b=Z (.lst a)/\d.length+a.length<=KF/\Q .non (upd H l (.lst (d++a)))
def vN:T6 X "list.extend" uV:=by
 intro g s J H x D v E Q I j m h;obtain⟨l,b,C,y,rfl,rfl,i,t,G,q⟩:=h;cases j;obtain⟨u,rfl,o⟩:=m.one;cases o;obtain⟨z,a,n,r,M,e⟩:=I.KZ i;obtain⟨A,f,p,r2,N,e2⟩:=I.KZ t;have d:a.toArray.size+f.toArray.size<=sizeLine:=by rw[ZZ,ZZ];lia
 have w:¬(!a.toArray.isEmpty&&Builtin.List.listTooLong (a.toArray.size+f.toArray.size))=B:=by
  rw[xN d,Bool.and_false];exact Zc
 refine call_meets F.slot_list_extend ⟨_,e,rfl⟩ F.entry_list_extend (F.args_list_extend_2 _ _)
  (AutoSeq1.list_extend_list_list_0 l a.toArray n b f.toArray p w (by rw[ZZ];lia) (by exact Nat.le_add_right_of_le d)) ⟨e,e2,?_⟩
 refine⟨.non,_,I.N9 (its':=a++f) i e (by simp) (r.append r2) ?_,rfl,q⟩;rw[Zt];omega
def FG:R2:=λx y H Q=>∃l b d a,x=.ref l/\y=.ref b/\H l=Z (.lst d)/\H b=Z (.lst a)/\d.length+a.length<=KF/\∀p,H p=L->Q (.ref p) (upd H p (.lst (d++a)))
def Cf:OpR X (binaryOp .Add) FG:=by
 intro a s J H x y v u Q I i g h;obtain⟨l,b,w,p,rfl,rfl,j,m,C,q⟩:=h;cases i;cases g;obtain⟨z,d,n,r,D,e⟩:=I.KZ j;obtain⟨t,f,A,r2,E,e2⟩:=I.KZ m;refine PySem.P.add_list e e2 ?_ (by rw[ZZ,ZZ];lia);have o:d.toArray++f.toArray=(d++f).toArray:=by simp
 rw[o];exact⟨.ref _,_,I.QK (t':=s.toks) (r.append r2) (by rw[Zt];omega),rfl,q _ I.fresh⟩
def len_rep{α:Type}(a:List α)(k:Nat):(List.replicate k a).flatten.length=k*a.length:=by
 induction k with
 |zero=>simp
 |succ k b=>rw[Y2,ZW,Zt,b,Nat.succ_mul,Nat.add_comm]
end
section
variable{prog:Re}{w:UF}{A:SB}{E:Z5}{s:IR}
set_option maxRecDepth 100000 in
end
section
variable{κ:Type}[DecidableEq κ]
def gC(b:List (κ×V))(k:κ):Option V:=(b.find? λa=>decide (a.1=k)).map (·.2)
def putK(b:List (κ×V))(k:κ)(v:V):List (κ×V) :=
 if (b.any λa=>decide (a.1=k))=B then b.map (λa=>if a.1=k then (a.1,v) else a) else b++[(k,v)]
def iJ{p:κ×V}{r:List (κ×V)}{k:κ}(e:p.1=k):gC (p :: r) k=Z p.2:=by simp[gC,Z9,e]
def nY{p:κ×V}{r:List (κ×V)}{k:κ}(e:¬p.1=k):gC (p :: r) k=gC r k:=by simp[gC,Z9,e]
theorem rQ(k:κ):∀a:List (κ×V),(a.any λb=>decide (b.1=k))=(gC a k).isSome
 |[]=>rfl
 |p :: r=>by
  rw[Yf];by_cases e:p.1=k
  ·simp only[iJ e,decide_eq_true e,Bool.true_or,Option.isSome_some]
  ·rw[nY e,Za e,Bool.false_or];exact rQ k r
def gI(a:List (κ×V))(k:κ)(v:V):(putK a k v).length<=a.length+1:=by
 unfold putK;split
 ·rw[Zu];exact Yq _ _
 ·rw[Zt,Zi,List.length_nil];exact Zj _
def iH.Hx{o:Option V}{u:Wr}(r:iH o u):o.isSome=u.isSome:=by
 cases o with
 |none=>cases u with
  |none=>rfl
  |some _=>exact(show False from r).elim
 |some _=>cases u with
  |none=>exact(show False from r).elim
  |some _=>rfl
theorem iH.getD{o:Option V}{u:Wr}{d:V}{a:On}(r:iH o u)(b:RelV d a):RelV (o.getD d) (u.getD a):=by
 cases o with
 |none=>cases u with
  |none=>exact b
  |some _=>exact(show False from r).elim
 |some _=>cases u with
  |none=>exact(show False from r).elim
  |some _=>exact r
def KV.val{i:List (κ×V)}{f:List (κ×On)}(r:KV i f)(k:κ):iH (gC i k) (valueAt f k):=by
 unfold KV at r
 induction r with
 |nil=>exact True.intro
 |@cons p q ps a h t j =>
  obtain⟨g,l⟩:=h;by_cases e:p.1=k
  ·have d:q.1=k:=g.symm.trans e;have b:valueAt (q :: a) k=Z q.2:=by simp[valueAt,Z9,d]
   rw[iJ e,b];exact l
  ·have d:¬q.1=k:=λz=>e (g.trans z);have b:valueAt (q :: a) k=valueAt a k:=by simp[valueAt,Z9,d]
   rw[nY e,b];exact j
theorem KV.any{d:List (κ×V)}{b:List (κ×On)}(r:KV d b)(k:κ):(d.any λa=>decide (a.1=k))=b.any λa=>decide (a.1=k):=by
 unfold KV at r
 induction r with
 |nil=>rfl
 |cons h t e=>rw[Yf,Yf,e,h.1]
def KV.Mz{f:List (κ×V)}{d:List (κ×On)}(r:KV f d)(k:κ){y:V}{u:On}(g:RelV y u) :
  KV (f.map λa=>if a.1=k then (a.1,y) else a) (d.map λa=>if a.1=k then (a.1,u) else a):=by
 unfold KV at r ⊢
 induction r with
 |nil=>exact .nil
 |@cons p q ps l h t i =>
  rw[Zo,Zo];refine .cons ?_ i;obtain⟨b,j⟩:=h;by_cases e:p.1=k
  ·rw[Zq e,Zq (b.symm.trans e)];exact⟨b,g⟩
  ·rw[Zn e,Zn (λz=>e (b.trans z))];exact⟨b,j⟩
def KV.put{d:List (κ×V)}{a:List (κ×On)}(r:KV d a)(k:κ){y:V}{u:On}(b:RelV y u):KV (putK d k y) (stored a k u):=by
 unfold putK stored;rw[r.any k];by_cases e:(a.any λf=>decide (f.1=k))=B
 ·rw[Zq e,Zq e];exact r.Mz k b
 ·rw[Zn e,Zn e];exact Paired.snoc r ⟨rfl,b⟩
def KV.keys{b:List (κ×V)}{a:List (κ×On)}(r:KV b a):b.map (·.1)=a.map (·.1):=by
 unfold KV at r
 induction r with
 |nil=>rfl
 |cons h t d=>rw[Zo,Zo,d,h.1]
theorem KV.length{b:List (κ×V)}{a:List (κ×On)}(r:KV b a):b.length=a.length:=Y7 r
end
def lY{P:Re}{w:UF}{k:Key}{u:On}(r:RelV (kV k) u):(aM P w).is k u=B:=by
 cases k with
 |inl i=>obtain⟨t,e⟩:=(show ∃t,u=Value.int i t from r);subst e;exact sg P w i t
 |inr x=>obtain⟨t,e⟩:=(show ∃t,u=Value.str x t from r);subst e;exact sN P w x t
theorem pk{P:Re}{w:UF}:∀{a:List Key}{b:X3},aK (a.map kV) b->ItemsAre (aM P w) a b
 |[],_,r=>by rw[X8]at r;cases r;exact .nil
 |k :: a,_,r=>by
  rw[Zo]at r;cases r with
  |cons h t=>exact .cons (lY h) (pk t)
abbrev KT(H:Hp):List (List Key×V)->List (List Key×KM×On)->Prop:=Paired λp q=>p.1=q.1/\H q.2.1=Z (.tup (p.1.map kV))/\RelV p.2 q.2.2
def KT.val{H:Hp}{i:List (List Key×V)}{f:List (List Key×KM×On)}(r:KT H i f)(k:List Key):iH (gC i k) ((atKey f k).map (·.2)):=by
 induction r with
 |nil=>exact True.intro
 |@cons p q ps a h t j =>
  obtain⟨g,_,l⟩:=h;by_cases e:p.1=k
  ·have d:q.1=k:=g.symm.trans e;have b:atKey (q :: a) k=Z q.2:=by simp[atKey,Z9,d]
   rw[iJ e,b];exact l
  ·have d:¬q.1=k:=λz=>e (g.trans z);have b:atKey (q :: a) k=atKey a k:=by simp[atKey,Z9,d]
   rw[nY e,b];exact j
def KT.Mz{H:Hp}{g:List (List Key×V)}{d:List (List Key×KM×On)}(r:KT H g d)(k:List Key){y:V}{u:On}(i:RelV y u) :
  KT H (g.map λb=>if b.1=k then (b.1,y) else b) (d.map (putAt k u)):=by
 induction r with
 |nil=>exact .nil
 |@cons p q ps m h t j =>
  rw[Zo,Zo];refine .cons ?_ j;obtain⟨a,f,l⟩:=h;unfold putAt;by_cases e:p.1=k
  ·rw[Zq e,Zq (a.symm.trans e)];exact⟨a,f,i⟩
  ·rw[Zn e,Zn (λz=>e (a.trans z))];exact⟨a,f,l⟩
def KT.put{H:Hp}{d:List (List Key×V)}{a:List (List Key×KM×On)}(r:KT H d a)(k:List Key){b:KM}{y:V}{u:On}(h:H b=Z (.tup (k.map kV)))(f:RelV y u) :
  KT H (putK d k y) (storedH a k b u):=by
 have e:(d.any λg=>decide (g.1=k))=(atKey a k).isSome:=by
  rw[rQ,(r.val k).Hx,Ye]
 unfold putK storedH;rw[e];by_cases q:(atKey a k).isSome=B
 ·rw[Zq q,Zq q];exact r.Mz k f
 ·rw[Zn q,Zn q];exact Paired.snoc r ⟨rfl,h,f⟩
def KT.keeps{H f:Hp}{e:List (List Key×V)}{d:List (List Key×KM×On)}(r:KT H e d)(g:∀b a,H b=Z (.tup a)->f b=Z (.tup a)):KT f e d :=
 Paired.LJ r λ_ _ z=>⟨z.1,g _ _ z.2.1,z.2.2⟩
section
variable{P:Re}{w:UF}{H:Hp}{h:SZ}{a:KM}
def BY{u:HO}(b:HP P w H h)(e:Rd H a u):bR P w H h a u:=e.ok b
def lQ{b:List (Key×V)}(f:HP P w H h)(e:Rd H a (.dK b)):b.length<=KF/\(a==sysModules)=R/\∃d,KV b d/\h.DictOf (aM P w) a d :=
 show bR P w H h a (.dK b) from BY f e
def qW{b:List (Key×V)}(f:HP P w H h)(e:H a=Z (.dK b)):b.length<=KF/\(a==sysModules)=R/\∃d,KV b d/\h.DictOf (aM P w) a d:=lQ f (.inl e)
def dW{b:List Key}(f:HP P w H h)(e:H a=Z (.tup (b.map kV))):(tupleKind (aM P w)).is h b a:=by
 obtain⟨_,d,r,_,o,j,i,n,g⟩:=(show bR P w H h a (.tup (b.map kV)) from f a _ e)
 exact⟨o,d.toArray,n,j,i,g,by simpa using pk r⟩
def mS{f:List (List Key×V)}(g:HP P w H h)(e:Rd H a (.dT f)):f.length<=KF/\(a==sysModules)=R ∧
  ∃d,KT H f d/\h.DictOfH (tupleKind (aM P w)) a d:=by
 obtain⟨z,y,d,r,o,C,D,A,v,u,s,n⟩:=(show bR P w H h a (.dT f) from BY g e)
 refine⟨z,y,d,r,o,C,D,A,v,u,s,λx b=>?_,n⟩;have all:∀{l:List (List Key×V)}{m:List (List Key×KM×On)},KT H l m->∀x∈m,(tupleKind (aM P w)).is h x.1 x.2.1:=by
  intro l m q
  induction q with
  |nil=>intro x b;exact nomatch b
  |@cons p q ps E i t j =>
   intro x b;rcases Zp.mp b with e | b
   ·subst e;exact dW g (by rw[← i.1];exact i.2.1)
   ·exact j x b
 exact all r x b
def El{b:List (List Key×V)}(f:HP P w H h)(e:H a=Z (.dT b)):b.length<=KF/\(a==sysModules)=R ∧
  ∃d,KT H b d/\h.DictOfH (tupleKind (aM P w)) a d:=mS f (.inl e)
end
def h9(H:Hp)(a:KM)(y:V)(r:Option V):Prop :=
 (∃d k,Rd H a (.dK d)/\y=kV k/\r=gC d k)\/∃d k b,Rd H a (.dT d)/\y=.ref b/\H b=Z (.tup (k.map kV))/\r=gC d k
def t9(H:Hp)(a:KM)(y v:V)(e:Hp):Prop :=
 (∃d k,H a=Z (.dK d)/\y=kV k/\d.length<KF/\e=upd H a (.dK (putK d k v))) ∨
 ∃d k b,H a=Z (.dT d)/\y=.ref b/\H b=Z (.tup (k.map kV))/\d.length<KF/\e=upd H a (.dT (putK d k v))
theorem h9.k{H:Hp}{a:KM}{b:List (Key×V)}{k:Key}(e:H a=Z (.dK b)):h9 H a (kV k) (gC b k):=.inl ⟨b,k,.inl e,rfl,rfl⟩
theorem t9.k{H:Hp}{a:KM}{b:List (Key×V)}{k:Key}{v:V}(e:H a=Z (.dK b))(d:b.length<KF):t9 H a (kV k) v (upd H a (.dK (putK b k v))):=.inl ⟨b,k,e,rfl,d,rfl⟩
section
variable{X:Cx}{pins:Xo}{J:St}{H:Hp}{s:IR}{a:KM}{y v:V}{u r:On}{o:Option V}{A:SB}{E:Z5}
def Inv.big(I:Inv X pins J H s):sysModules<s.heap.objs.size:=by
 have h:mainGlobals<s.heap.objs.size:=(I.mod.glob.keeps I.bk).lt;exact X4 (by decide) h
def vH{Q:Z5}(x:A.units+1<cLine)(I:Inv X pins J H s)(g:h9 H a y (Z v))(n:RelV y u)(h:∀d m,Inv X pins J H m->RelV v d->Q d m) :
  PP (KB X.prog X.w) A (getItem (.ref a) u) Q E s:=by
 rcases g with⟨F,k,e,f,l⟩ | ⟨F,k,b,e,f,D,l⟩
 ·subst f;obtain⟨z,hd,t,rel,i⟩:=lQ I.GN e;obtain⟨d,hw,j⟩:=iH.some_of (v:=v) (o:=valueAt t k) (by rw[l];exact rel.val k);exact wpAny_getItem_of (lY n) i.mapOf hw (h d _ (I.tok _) j)
 ·subst f;cases (show u=Value.ref b from n);obtain⟨z,hd,q,rel,i⟩:=mS I.GN e;obtain⟨d,hw,j⟩:=iH.some_of (v:=v) (o:=(atKey q k).map (·.2)) (by rw[l];exact rel.val k);obtain⟨p,C,G⟩:=Zy.mp hw;refine wpAny_getItem_heap (Xu x) (dW I.GN D) i C ?_;rw[G];exact h d _ (I.tok _) j
def GG{Q:Z5}(m:A.units+1<cLine)(I:Inv X pins J H s)(g:h9 H a y o)(j:RelV y u)(h:∀i,Inv X pins J H i->Q (.bool o.isSome) i) :
  PP (KB X.prog X.w) A (SL .In u (.ref a)) Q E s:=by
 rcases g with⟨p,k,e,d,l⟩ | ⟨p,k,b,e,d,n,l⟩
 ·subst d;obtain⟨z,hd,x,rel,f⟩:=lQ I.GN e;refine wpAny_in_of (lY j) hd f.mapOf ?_;rw[← (rel.val k).Hx,← l];exact h _ (I.tok _)
 ·subst d;cases (show u=Value.ref b from j);obtain⟨z,hd,t,rel,f⟩:=mS I.GN e;refine wpAny_in_heap (Xu m) (dW I.GN n) hd f ?_;have q:=(rel.val k).Hx;rw[Ye]at q;rw[← q,← l];exact h _ (I.tok _)
def zP{Q:Z5}(m:A.units+1<cLine)(I:Inv X pins J H s)(g:h9 H a y o)(j:RelV y u)(h:∀i,Inv X pins J H i->Q (.bool (!o.isSome)) i) :
  PP (KB X.prog X.w) A (SL .NotIn u (.ref a)) Q E s:=by
 rcases g with⟨p,k,e,d,l⟩ | ⟨p,k,b,e,d,n,l⟩
 ·subst d;obtain⟨z,hd,x,rel,f⟩:=lQ I.GN e;refine wpAny_notIn_of (lY j) hd f.mapOf ?_;rw[← (rel.val k).Hx,← l];exact h _ (I.tok _)
 ·subst d;cases (show u=Value.ref b from j);obtain⟨z,hd,t,rel,f⟩:=mS I.GN e;refine wpAny_notIn_heap (Xu m) (dW I.GN n) hd f ?_;have q:=(rel.val k).Hx;rw[Ye]at q;rw[← q,← l];exact h _ (I.tok _)
def mK{d:SZ}{t':Nat}{f:HO}(I:Inv X pins J H s)(h:GT (H a))(i:Heap.SameBut a s.heap d)(j:∃q,d.get? a=Z q)(g:bR X.prog X.w (upd H a f) d a f) :
  Inv X pins J (upd H a f) { s with heap:=d,toks:=t' } :=
 I.write (x:=a) (e:=a) h (.inl Y) (λb q hb z=>(i.2 b hb).trans z) j g
def qB{P:Re}{w:UF}{i:Hp}{f:SZ}{e:List (Key×V)}{b:List (Key×On)}(z:e.length<=KF)(g:(a==sysModules)=R)(d:KV e b)(h:f.DictOf (aM P w) a b) :
  bR P w i f a (.dK e):=⟨z,g,b,d,h⟩
def vz{O:Hp}{Q:Unit->IR->Prop}(U:A.units+1<cLine)(I:Inv X pins J H s)(g:t9 H a y v O)(D:RelV y u)(F:RelV v r)(h:∀C,Inv X pins J O C->Q () C) :
  PP (KB X.prog X.w) A (setItem (.ref a) u r) Q E s:=by
 rcases g with⟨d,k,e,p,l,t⟩ | ⟨d,k,b,e,p,N,l,t⟩
 ·subst p t;obtain⟨z,hd,S,rel,x⟩:=qW I.GN e;have j:S.length<=sizeLine:=by rw[← rel.length];exact z
  have n:(putK d k v).length<=sizeLine:=by have:=gI d k v;lia
  refine wpAny_setItem_pairs (hsz:=j) (lY D) x λG i m=>h _ ?_;have Y:∃q,G.get? a=Z q:=let ⟨q,_,_,f,_⟩:=i;⟨q,f⟩
  exact mK I (by rw[e];exact True.intro) m Y (qB n hd (rel.put k F) i)
 ·subst p t;cases (show u=Value.ref b from D);obtain⟨z,hd,P,rel,x⟩:=El I.GN e;have j:P.length<=sizeLine:=by rw[← Y7 rel];exact z
  have n:(putK d k v).length<=sizeLine:=by have:=gI d k v;lia
  refine wpAny_setItem_heap (hsz:=j) (Xu U) (dW I.GN N) x λG i m=>h _ ?_;obtain⟨q,es,ep,f,h2,h3,h4,_,h5⟩:=i;refine mK I (by rw[e];exact True.intro) m ⟨q,f⟩ ⟨n,hd,_,(rel.put k N F).keeps λc ys M=>?_,q,es,ep,f,h2,h3,h4,h5⟩;rw[ax (FX M e (λz=>nomatch z))];exact M
end
section
variable{X:Cx}{pins:Xo}{J:St}{H:Hp}{s:IR}{a:KM}{bt:List (Key×V)}{k:Key}{u:On}{A:SB}{E:Z5}
def E4{Q:Z5}(I:Inv X pins J H s)(e:Rd H a (.dK bt))(h:∀t b,Inv X pins J H b->Q (.int bt.length t) b):PP (KB X.prog X.w) A (call (.builtin "len") [.ref a]) Q E s:=by
 obtain⟨z,hd,f,rel,d⟩:=lQ I.GN e;refine call_len_dict hd d (by rw[← rel.length];rw[Xs]at z;lia) ?_;rw[← rel.length];exact h _ _ (I.tok _)
end
def rj{X:Cx}{d:Xo}{J:St}{H:Hp}{s:IR}{a:KM}{y:V}{o:Option V}(I:Inv X d J H s)(g:h9 H a y o):s.TypeIs (.ref a) "dict" := by
 rcases g with⟨h,k,e,_,_⟩ | ⟨h,k,b,e,_,_,_⟩
 ·obtain⟨_,_,j,_,f⟩:=lQ I.GN e;exact f.typeIs
 ·obtain⟨_,_,i,_,f⟩:=mS I.GN e;exact f.typeIs
def rP{P:Re}{w:UF}{H:Hp}(h:SZ)(a:sysModules<h.objs.size):bR P w H (h.push { cls:=.type "dict",data:=.dict #[] }) h.objs.size (.dK []) :=
 ⟨Ys _,ZK.mpr (Yi (Zb a)),[],.nil,Heap.DictOf.new h⟩
def DR:TE:=λ_ H Q=>∀p,H p=L->Q (.ref p) (upd H p (.dK []))
section
variable{X:Cx}{pos:Pos}
def yp:PE X (.Dict [] [] pos) DR:=λb s J H Q I h =>
 wpAny_Dict_empty ⟨.ref s.heap.objs.size,_,I.laid (a:=s.heap.objs.size) (o:=.dK []) (t':=s.toks) (λ_ _ q=>Zk _ q) (Zj _) (rP s.heap I.big),rfl,h _ (I.GN.fresh (Zj _))⟩
end
def tJ:List (TE×TE)->St->Hp->(List (V×V)->Hp->Prop)->Prop
 |[],_,H,Q=>Q [] H
 | (b,a) :: r,J,H,Q=>b J H λx f=>a J f λy e=>tJ r J e λps d=>Q ((x,y) :: ps) d
abbrev VV:List (V×V)->List (On×On)->Prop:=Paired λp q=>RelV p.1 q.1/\RelV p.2 q.2
def PPs(X:Cx)(e:Pos)(d:List (Option Expr))(a:List Expr)(i:List (TE×TE)):Prop :=
 ∀(b:Xo)(s:IR)(J:St)(H:Hp)(Q:List (V×V)->Hp->Prop),Inv X b J H s->tJ i J H Q →
  PP (KB X.prog X.w) X.A (evalPairs (pairTrees d a X.env e)) (λg h=>∃ps f,Inv X b J f h/\VV ps g/\Q ps f) X.xe s
def AV{X:Cx}{a:Pos}:PPs X a [] [] []:=λb s J H Q I h=>pairTrees_nil_walk ⟨[],H,I,.nil,h⟩
def zi{X:Cx}{b:Pos}{k v:Expr}{g:List (Option Expr)}{d:List Expr}{f e:TE}{i:List (TE×TE)}(t:PE X k f)(q:PE X v e)(r:PPs X b g d i) :
  PPs X b (Z k :: g) (v :: d) ((f,e) :: i):=λa s J H Q I h =>
 pairTrees_cons_walk (thn (t a s J H _ I h) λu s1 ⟨x,E,A,m,p⟩=>thn (q a s1 J E _ A p) λG j ⟨y,D,z,l,o⟩ =>
  thn (r a j J D _ z o) λF M ⟨ps,C,w,rel,n⟩=>⟨(x,y) :: ps,C,w,.cons ⟨m,l⟩ rel,n⟩)
def nX(d a:List (Key×V)):List (Key×V):=a.foldl (λacc b=>putK acc b.1 b.2) d
def KV.merge:∀{more:List (Key×V)}{d:List (Key×On)}{b:List (Key×V)}{a:List (Key×On)},KV more d->KV b a->KV (nX b more) (merged a d):=by
 intro more d b a r;unfold KV at r
 induction r generalizing b a with
 |nil=>intro q;exact q
 |@cons p q ps i h t g =>
  intro f;have e:KV (putK b p.1 p.2) (stored a q.1 q.2):=by
   have:=f.put p.1 h.2;rw[← h.1];exact this
  exact g e
theorem jB:∀(more a:List (Key×V)),(nX a more).length<=a.length+more.length
 |[],a=>by show a.length<=a.length+0;exact Yq _ _
 |p :: r,a=>by
  have d:=jB r (putK a p.1 p.2);have b:=gI a p.1 p.2;show (nX (putK a p.1 p.2) r).length<=_;rw[Zi];lia
theorem nk{P:Re}{w:UF}:∀{e:List (Key×V)}{f:List (On×On)},VV (e.map λg=>(kV g.1,g.2)) f->∃d,Carries (aM P w) f d/\KV e d
 |[],_,r=>by rw[X8]at r;cases r;exact⟨[],True.intro,.nil⟩
 |p :: e,_,r=>by
  rw[Zo]at r;cases r with
  |@cons a b l bs h t =>
   obtain⟨d,c,q⟩:=nk (P:=P) (w:=w) t;obtain⟨j,i⟩:=b;exact⟨(p.1,i) :: d,⟨lY h.1,rfl,c⟩,.cons ⟨rfl,h.2⟩ q⟩
def Eg(e:List (TE×TE)):TE:=λJ H Q=>∀p,H p=L->tJ e J (upd H p (.dK [])) λps d=>d p=Z (.dK [])/\∃a:List (Key×V),ps=a.map (λb=>(kV b.1,b.2))/\a.length<=15/\Q (.ref p) (upd d p (.dK (nX [] a)))
def Ar{X:Cx}{f:Pos}{b:List (Option Expr)}{d:List Expr}{l:List (TE×TE)}(h:PPs X f b d l)(O:b.all (·.isSome)=B)(C:b.length=d.length)(F:b≠[])(N:b.length<=15):PE X (.Dict b d f) (Eg l):=by
 intro g s J H Q I q;have A:=I.GN.fresh (Zj s.heap.objs.size);have S:=I.laid (a:=s.heap.objs.size) (o:=.dK []) (h':=s.heap.push { cls:=.type "dict",data:=.dict #[] }) (t':=s.toks) (λ_ _ q=>Zk _ q) (Zj _) (rP s.heap I.big);refine wpAny_Dict_walk (knd:=aM X.prog X.w) O C F N (thn (h g _ J _ _ S (q _ A)) λU Y ⟨ps,H2,m,rel,e,i,G,lk,u⟩=>?_);subst G;obtain⟨p,c,r⟩:=nk (P:=X.prog) (w:=X.w) rel;obtain⟨z,hd,n,t,M⟩:=qW m.GN e;cases t;refine⟨p,c,M,λh' j x=>⟨.ref s.heap.objs.size,_,?_,rfl,u⟩⟩;have v:(nX [] i).length<=sizeLine:=by
  have E:=jB i [];rw[List.length_nil]at E;rw[Xs];lia
 have D:∃q,h'.get? s.heap.objs.size=Z q:=let ⟨q,_,_,y,_⟩:=j;⟨q,y⟩
 exact mK m (by rw[e];exact True.intro) x D (qB v hd (r.merge .nil) j)
structure Mq1(X:Cx)(o:Expr)(m:Str)(apos:Pos)(e:Expr)(oe:Pos):Prop where
 base:UV o m X.env (eval o X.env)=eval o X.env
 JN:((backTo oe (Pv [e] X.env)).all (λx=>!x.1)&&(backToKw oe (SC [] X.env)).all (λx=>x.1.isSome)
  && decide (([e]:List Expr).length+([]:List Keyword).length+(if ([]:List Keyword).isEmpty then 0 else 1)<30))=true
 line:(apos.endLine==oe.line)=true
 trees:backTo oe (Pv [e] X.env)=[(false,eval e X.env)]
def T7(H:Hp)(a:KM):Prop:=(∃b,Rd H a (.dK b))\/∃b,Rd H a (.dT b)
def Ck{X:Cx}{g:Xo}{J:St}{H:Hp}{s:IR}{a:KM}(I:Inv X g J H s)(d:T7 H a) :
  s.TypeIs (.ref a) "dict" ∧ (∀b,Value.ref a=.ref b->∃f,s.heap.get? b=Z f/\f.dict=L)/\(a==sysModules)=R:=by
 rcases d with⟨l,e⟩ | ⟨l,e⟩
 ·obtain⟨_,hd,n,_,h⟩:=lQ I.GN e;refine⟨h.typeIs,λb q=>?_,hd⟩;cases q;obtain⟨f,_,_,j,i,_⟩:=h;exact⟨f,j,i.2.1⟩
 ·obtain⟨_,hd,m,_,h⟩:=mS I.GN e;refine⟨h.typeIs,λb q=>?_,hd⟩;cases q;obtain⟨f,_,_,j,i,_⟩:=h;exact⟨f,j,i.2.1⟩
section
variable{X:Cx}{pins:Xo}{J:St}{H:Hp}{s:IR}{a:KM}{y d:V}{u r:On}{o:Option V}{A:SB}{E:Z5}
def C4{Q:Z5}(q:A.units+1<cLine)(I:Inv X pins J H s)(g:h9 H a y o)(n:RelV y u)(h:∀j m,Inv X pins J H m->RelV (o.getD .non) j->Q j m) :
  PP (KB X.prog X.w) A (call (.builtin "dict.get") [.ref a,u]) Q E s:=by
 rcases g with⟨v,k,e,i,l⟩ | ⟨v,k,b,e,i,t,l⟩
 ·subst i;obtain⟨z,hd,x,rel,f⟩:=lQ I.GN e;refine call_meetsIn XM f.typeIs PySem.F.entry_dict_get (PySem.F.args_dict_get_2 _ _) (meets_dict_get (aM X.prog X.w) a (lY n) hd) ⟨_,f.mapOf,h _ _ (I.tok _) ?_⟩;rw[l];exact(rel.val k).getD Y
 ·subst i;cases (show u=Value.ref b from n);obtain⟨z,hd,p,rel,f⟩:=mS I.GN e;refine call_meetsIn XM f.typeIs PySem.F.entry_dict_get (PySem.F.args_dict_get_2 _ _) (meetsH_dict_get (tupleKind (aM X.prog X.w)) a b hd) ⟨Xu q,k,p,dW I.GN t,f,h _ _ (I.tok _) ?_⟩;rw[l];exact(rel.val k).getD Y
end
def CK(f e:TE):TE:=λJ H Q=>f J H λx d=>∃a,x=.ref a/\T7 d a/\e J d λy b=>∃o,h9 b a y o/\Q (o.getD .non) b
section
variable{X:Cx}{o e f:Expr}{apos oe:Pos}{td ty tx:TE}
def yi(t:X.A.units+1<cLine)(v:PE X o td)(w:PE X e ty)(m:Mq1 X o "get" apos e oe):PE X (.Call (.Attribute o "get" apos) [e] [] oe) (CK td ty):=by
 intro b s J H Q I h;refine wpAny_Call_method m.base m.JN m.line PySem.F.plainAttrs_dict XM PySem.F.type_dict_get (thn (v b s J H _ I h) λu s1 ⟨x,G,i,p,a,ex,d,r⟩=>?_);subst ex;obtain rfl:u=Value.ref a:=p;obtain⟨l,j,_⟩:=Ck i d;refine⟨l,j,?_⟩;rw[m.trees];refine Calls.callWith_builtin Y (Calls.evalArgs_plain (Calls.spliced_cons (thn (w b s1 J G _ i r) λiv O ⟨y,E,D,n,P,g,q⟩=>Calls.spliced_nil ?_)));exact C4 t D g n λM N C z=>⟨_,E,C,z,q⟩
end
end L2
namespace Ub
open PySem PySem.W PySem.Calls PyProof.Rows
def mf{P:Params}{h:SZ}:∀(ns:Wp)(d:X3),WellAll P h d (ns.map WData.int)->IntsAre d ns:=by
 intro ns
 induction ns with
 |nil =>
  intro d w;rw[X8]at w;cases w;exact .nil
 |cons n ns e =>
  intro d w;rw[Zo]at w;cases w with
  |cons a b =>
   cases a;exact .cons _ _ (e _ b)
def vA{l:OpenLaw}{n:Nat}(v:l.most=Z n){P:Params}{h:SZ}{b:List WData}{e:X3}(f:l.row.toRowW.claim.pre b=B)(j:WellAll P h e b) :
  ∃a m ns,e=[Value.ref a]/\b=[WData.list (ns.map WData.int)]/\h.get? a=Z { cls:=.type "list",data:=.seq m.toArray }/\IntsAre m ns/\ns.length<=n:=by
 have z:WShape.hasAll [] b [.list .int]=B:=(pre_splitW f).1;have o:l.pre.holds [] { args:=b }=B:=(pre_splitW f).2;obtain⟨d,r,rfl,y,x⟩:=hasAllW_cons z;obtain rfl:=hasAllW_nil x;obtain⟨C,rfl,w⟩:=hasW_list y;obtain⟨ns,rfl⟩:=items_int w;have hlen:ns.length<=n:=by
  unfold OpenLaw.pre at o;have i:(WTm.not (.lt (.lit (.int (n:Int))) (.len (.arg 0)))).holds [] { args:=[.list (ns.map .int)] }=B:=by
   have i:=(holds_andW o).1;rw[v]at i;exact i
  have g:=condW_of i (w_not (w_lt w_lit (w_len_list (w_arg Y))));rw[Zu]at g;refine ZM λq=>?_;have t:(n:Int)<((ns.length:Nat):Int):=by omega
  first
   | (rw[decide_eq_true t]at g;exact absurd g (by decide))
   | (simp at g;omega)
 cases j with
 |cons s p =>
  cases p;cases s with
  |list u A=>exact⟨_,_,ns,rfl,rfl,u,mf ns _ A,hlen⟩
def wt(l:OpenLaw)(a:List WData):l.row.toRowW.claim.post a (.bool B) a=B :=
 postW_of (r:=l.row.toRowW) (X:=(B==B))
  (show WShape.has [] (.bool B) .bool=B by first | rfl | decide | simp[WShape.has,WShape.arms,WShape.armsAll])
  (show (WTm.eq .res (.lit (.bool B))).value [] { args:=a,res:=Z (.bool B),after:=a }=Z (.bool (B==B)) from w_eq_bool (w_res Y) w_lit) Y
def rS{l:OpenLaw}{n:Nat}{q:Re}{e:List Str}{A:(Xg)->SZ->Prop}{z:UF->SZ->Prop}{d:DefRec}(F:l.most=Z n)(Q:d.params.defaults=[])(j:∀(w:UF)(p b:IR)(mg s:Xg)(i:KM)(o:Obj)(pm cd doc:On)(a:KM)(g:X3)(ns:Wp),
   Ground q e [] A w p mg s b.heap->z w b.heap →
   b.heap.get? i=Z o->o.data=.func (docDef d.name d.params d.body d.scope pm cd doc)->b.heap.CodeRec cd d.name->mg d.name=Z (.ref i) →
   b.heap.get? a=Z { cls:=.type "list",data:=.seq g.toArray }->IntsAre g ns->ns.length<=n->b.gens=#[] →
   codeAny (KB l.prog w) callerA (.call (.ref i) ⟨[.ref a],[]⟩) (λr m=>r=.ok (.ret (.bool B))/\OldK b.heap m.heap/\m.os=b.os/\AllBare m.gens) b) :
  WalkO q e A z l.row.toRowW d [] (λf g=>PySem.call f g):=by
 intro w p b mg s G Y i o pm cd doc P kV E hd v y u hg args vals U h x C t J;obtain rfl:P=.none:=Dflts.none y Q;obtain rfl:kV=.none:=Dflts.noKw y;obtain⟨a,g,ns,rfl,rfl,S,hints,hlen⟩:=vA F h t;refine enter_call (codeAny_mono (j w p b mg s i o pm cd doc a g ns G Y E (fd_plain hd) v u S hints hlen hg) λr m D=>?_);obtain⟨rfl,O,N,M⟩:=D;exact⟨.inl ⟨.bool B,.bool B,[],rfl,λ_=>rfl,.bool B,wt l _,λ_=>⟨List.Pairwise.nil,λ_ H=>(nomatch H)⟩⟩,O,N,M⟩
end Ub
namespace L2
open PySem PySem.Spec PyProof.Rows
theorem oW:∀{a:X3}{ns:Wp},IntsAre a ns->aK (ns.map V.int) a
 |_,_,.nil=>.nil
 |_,_,.cons n t h=>.cons ⟨t,rfl⟩ (oW h)
def xq(H:Hp):Prop:=∀b,H b=L\/∃o a,H b=Z (.frz o (.lst a))
def zf{P:Re}{w:UF}{K:Xk}{t E:Xg}{CX:KH}{k:Nat}{J a:KM}{fd:P3}{x:Str}{N:Sp}{f:IR}{j:X3}{p:Wp}(KX:K.In f.heap)(Mf:f.heap.Ns mainGlobals t)(g:f.heap.Ns builtinsNs E)(Pr:∀x:Str,x ≠ "__name__" → E x=bootBuiltins x)(Rg:f.heap.NoLimit)(hg:f.gens=#[])(C:f.heap.get? a=Z { cls:=.type "list",data:=.seq j.toArray })(S:IntsAre j p)(Q:p.length<=KF)(hr:p0 k callerA)(F:∀base:SZ,K.In base->base.Ns mainGlobals t->FnOk P w K t base CX k J fd [x] N)(Ot:∀(s:IR)(u:On),BindsTo s fd ⟨[u],[]⟩ [(x,u)])(Ln:∀H:Hp,xq H->GW K H a (p.map V.int)->N [.ref a] H (λv _=>v=.bl B) λ_ _ _=>False)(RG:∀H e i,CX [] H f (λ_ _ _=>False) e i->False) :
  codeAny (KB P w) callerA (.call (.ref J) ⟨[.ref a],[]⟩) (λr i=>r=.ok (.ret (.bool B))/\OldK f.heap i.heap/\i.os=f.os/\AllBare i.gens) f:=by
 have O:=oW S;have QL:=S.length;have core:∀H:Hp,xq H->GW K H a (p.map V.int)->HP P w H f.heap->(∀b,H b≠L->b=a)->(H a≠L->K.lookup a=L) →
   codeAny (KB P w) callerA (.call (.ref J) ⟨[.ref a],[]⟩) (λr i=>r=.ok (.ret (.bool B))/\OldK f.heap i.heap/\i.os=f.os/\AllBare i.gens) f:=by
  intro H U hS GN X hK;have Ke:∀{b:KM}{o:Obj},f.heap.get? b=Z o->H b=L->(qA f.heap H).get? b=Z o:=λe n=>xZ e n;have N3:∀{b:KM}{o:Obj}{y:Array DictEntry}{A:Nat},f.heap.get? b=Z o->o.data=.dict y A->H b=L:=λ{b o y A} e d=>by
   cases q:H b with
   |none=>rfl
   |some u =>
    have M:b=a:=X b (by rw[q];simp);subst M;rw[C]at e;cases e;have d':Data.seq j.toArray _=Data.dict y A:=d;cases d'
  have D:∀{b:KM}{m:Xg},f.heap.Ns b m->(qA f.heap H).Ns b m:=λ{b m} ⟨o,y,A,e,d,r⟩=>⟨o,y,A,Ke e (N3 e d),d,r⟩
  have Ti:K.In (qA f.heap H):=λb o e=>Ke (KX b o e) (by
   cases q:H b with
   |none=>rfl
   |some u =>
    have M:b=a:=X b (by rw[q];simp);subst M;rw[hK (by rw[q];simp)]at e;cases e)
  have hM:Mod K t (qA f.heap H):=⟨Ti,D Mf,⟨E,D g,Pr⟩,let ⟨mc,h1,h2⟩:=Rg;⟨mc,D h1,h2⟩⟩
  have e0:Env0 P w K t (qA f.heap H) callerA [] f H:=⟨rfl,hM,λb o e=>Ax e,Xn (vS _ _),trivial,λb g=>absurd (show b∈([]:Xa) from g) (by simp),GN,.of_eq hg⟩
  refine codeAny_mono ((F _ Ti (D Mf)).run callerA [] f H ⟨[.ref a],[]⟩ [.ref a] [.ref a] _ _ hr e0 (Ot f (.ref a)) (.cons Y .nil) (Ln H U hS)) λr i h=>?_;cases r with
  |error e=>exact(RG H e i h).elim
  |ok fl =>
   cases fl with
   |next=>exact False.elim h
   |brk=>exact False.elim h
   |cont=>exact False.elim h
   |ret u =>
    obtain⟨v,H',os,bare,un,QY,r',q⟩:=h;have q':v=.bl B:=q;subst q';obtain rfl:u=Value.bool B:=r';refine⟨rfl,OldK.of_keep λb o e=>?_,os,bare⟩;cases q:H b with
    |none=>exact un.keep b o e q (by intro z;exact absurd (show b∈([]:Xa) from z) (by simp)) (by simp)
    |some u =>
     rcases U b with z | ⟨ob,xs,z⟩
     ·rw[q]at z;cases z
     ·have z2:=un.Ji b ob _ z;obtain⟨e1,_⟩:=GN b _ z;obtain⟨e2,_⟩:=QY b _ z2;rw[e]at e1;cases e1;exact e2
 cases G:K.lookup a with
 |some o =>
  have e:=KX a o G;rw[C]at e;cases e;refine core (λ_=>L) (λ_=>.inl Y) (.inr ⟨_,j.toArray,_,G,rfl,rfl,rfl,by rw[ZZ,QL];exact Q,by simpa using O⟩) (λb u z=>by have l:(L:Option HO)=Z u:=z;cases l) (λb z=>absurd Y z) λz=>absurd Y z
 |none =>
  refine core (λb=>if b=a then Z (.frz { cls:=.type "list",data:=.seq j.toArray } (.lst (p.map V.int))) else L) (λb=>?_) (.inl (.inr ⟨{ cls:=.type "list",data:=.seq j.toArray },Zq Y⟩)) (λb u z=>?_) (λb z=>?_) λ_=>G
  ·by_cases g:b=a
   ·exact .inr ⟨_,_,Zq g⟩
   ·exact .inl (Zn g)
  ·by_cases g:b=a
   ·have l:=(Zq g).symm.trans z;cases l;subst g;exact⟨C,by rw[Zu];exact Q,j,_,O,C⟩
   ·have l:=(Zn g).symm.trans z;cases l
  ·by_cases g:b=a
   ·exact g
   ·exact absurd (Zn g) z
def Bm{l:PySem.W.OpenLaw}{n k:Nat}{q:Re}{i:List Str}{O:(Xg)->SZ->Prop}{t:UF->SZ->Prop}{d:DefRec}{K:Params->Xk}{CX:UF->KH}{sp:UF->Sp}{x:Str}(C:l.most=Z n)(Q:n<=KF)(S:d.params.defaults=[])(A:p0 k callerA)(E:∀(w:UF)(h:SZ),t w h->(K w.params).In h)(F:∀(w:UF)(mg:Xg)(j:KM)(h:SZ),(K w.params).In h->h.Ns mainGlobals mg->mg d.name=Z (.ref j) →
   ∃fd:P3,(∀(s:IR)(u:On),BindsTo s fd ⟨[u],[]⟩ [(x,u)]) ∧
    ∀base:SZ,(K w.params).In base->base.Ns mainGlobals mg->FnOk l.prog w (K w.params) mg base (CX w) k j fd [x] (sp w))(X:∀(w:UF)(H:Hp)(a:KM)(ns:Wp),ns.length<=n->xq H->GW (K w.params) H a (ns.map V.int)->sp w [.ref a] H (λv _=>v=.bl B) λ_ _ _=>False)(P:∀(w:UF)(H:Hp)(s:IR)(e:On)(m:IR),CX w [] H s (λ_ _ _=>False) e m->False) :
  PySem.W.WalkO q i O t l.row.toRowW d [] (λf r=>PySem.call f r):=by
 refine Ub.rS C S λw s₀ z mg mb j o pm cd doc a r ns G Y ho hd D p U hints hlen hg=>?_;have y:=E w _ Y;obtain⟨fd,hb,N⟩:=F w mg j _ y G.T.g p;exact zf y G.T.g G.T.b G.T.builtins G.T.nolimit hg U hints (ZJ hlen Q) A N hb (λH M J=>X w H a ns hlen M J) λH e m=>P w H z e m
def inClass(s:Stmt)(j:Nat):Stmt:=match s with
 |.ClassDef _ _ _ body _ _ _ _ _ _ _=>body.getD j (.Pass ⟨0,0,0,0⟩)
 |_=>.Pass ⟨0,0,0,0⟩
def cR(s:Stmt):Arguments:=match s with
 |.FunctionDef _ a _ _ _ _ _ _ _ _=>a
 |_=>{ posonlyargs:=[],args:=[],vararg:=L,kwonlyargs:=[],kw_defaults:=[],kwarg:=L,defaults:=[] }
def aQ(s:Stmt):List Stmt:=match s with
 |.FunctionDef _ _ b _ _ _ _ _ _ _=>b
 |_=>[]
def aj(s:Stmt):Scope:=match s with
 |.FunctionDef _ _ _ _ _ _ sc _ _ _=>sc
 |_=>{ kind:=.function,names:=[],isGenerator:=R,isCoroutine:=R }
abbrev Hk:KH:=λ_ _ _ _ _ _=>False
abbrev E0:XK:=λ_ _ _=>False
def g6{X:Cx}:iN Hk X E0:=λ_ _ _ _ _ _ _ h=>h.elim
structure G2(K:Xk)(x qual:Str)(st:Stmt)(f:KM)(fd:P3):Prop where
 ex:∃(oc:On)(od:Option KM)(kV doc pm:On)(an:Option KM)(GS ct:On)(JL:Array (Wr)),
  fd=PySem.W.fnOf x qual (cR st) (aQ st) (aj st) .none kV doc pm an GS ct/\K.lookup f=some ⟨oc,od,.func fd,JL⟩/\PySem.W.codeIn K GS qual=true
 kp:PySem.W.keepIn K (.ref f)=true
section
variable{P:Re}{w:UF}{K:Xk}{mg:Xg}{base:SZ}
def G2.ok{x a:Str}{d:Stmt}{f:KM}{m:P3}{N i:List Str}{k:Nat}{g:Sp}(F:G2 K x a d f m)(S:jj N i (aj d))(j:∀b H Q E,g b H Q E->b.length=i.length)(p:∀(e:On)(A:SB)(outer:List Env)(s:IR)(H:Hp)(b:List V)(Q:VK)(E:XK),p0 k (A.deeper (envOfC a (aj d) s.heap.objs.size f e))->g b H Q E →
   ∃t,IH (iF Hk P w K mg base N a (aj d) f e A outer s H E).Jy (aQ d) t/\t { nx:=λ_ r=>Q .non r,rt:=Q } (start N b) H):FnOk P w K mg base Hk (k+1) f m i g:=by
 obtain⟨oc,u,kV,doc,pm,an,e,ct,v,rfl,lk,l⟩:=F.ex;refine B5 lk l S j λA outer s H b Q E n o=>?_;obtain⟨t,h,q⟩:=p e A outer s H b Q E n o;exact⟨t,h.Jy,q⟩
def G2.binds{x a:Str}{b:Stmt}{f:KM}{i:P3}{e:List Str}(F:G2 K x a b f i)(h:∀(kV doc pm:On)(an:Option KM)(g ct:On)(d:X3),d.length=e.length->bindArgs (PySem.W.fnOf x a (cR b) (aQ b) (aj b) .none kV doc pm an g ct) ⟨d,[]⟩=pure (e.zip d)):Binds K i e []:=by
 obtain⟨oc,l,kV,doc,pm,an,g,ct,m,rfl,lk,j⟩:=F.ex;exact .all (h kV doc pm an g ct)
def xT{x a:Str}{st:Stmt}{f:KM}{m:On}{j i:Option KM}{n:Array (Wr)}{g b e d h:On}(l:K.lookup f=Z ⟨m,j,.func (PySem.W.fnOf x a (cR st) (aQ st) (aj st) .none g b e i d h),n⟩)(c:PySem.W.codeIn K d a=B)(k:PySem.W.keepIn K (.ref f)=B):G2 K x a st f (PySem.W.fnOf x a (cR st) (aQ st) (aj st) .none g b e i d h):=⟨⟨m,j,g,b,e,i,d,h,n,rfl,l,c⟩,k⟩
end
def ke{A:SB}{k:Nat}(a:p0 k A):A.units+1<cLine:=XA (Nat.add_le_add_left (by decide:1<=64) _) a.units
def wg{A B:Prop}(h:B):if R=true then A else B:=by
 rw[Zn Zc];exact h
def vU{A B:Prop}(h:A):if true=true then A else B:=by
 rw[Zq Y];exact h
def aC(H a:Hp):Prop:=∀b o,H b=Z o->a b=Z o
def aC.refl(H:Hp):aC H H:=λ_ _ h=>h
def aC.trans{H e d:Hp}(a:aC H e)(b:aC e d):aC H d:=λc o h=>b c o (a c o h)
def aC.free{H a:Hp}(e:aC H a){l:KM}(h:a l=L):H l=L:=by
 cases q:H l with
 |none=>rfl
 |some o =>
  rw[e l o q]at h;cases h
end L2
end
section
namespace L2
open PySem PySem.Spec PyProof.Rows
abbrev oC:=List (List Key)
def hN(w:UF)(k:oC):Int:=reduceHash (Builtin.Tuple.tupleHashOf (k.map λx=>reduceHash (Builtin.Tuple.tupleHashOf (x.map (Ey w)))))
def GE(w:UF)(x:oC×KM×On):DictEntry:=⟨hN w x.1,.ref x.2.1,x.2.2⟩
abbrev KN:List (oC×KM×V)->List (oC×KM×On)->Prop:=Paired λp q=>p.1=q.1/\p.2.1=q.2.1/\RelV p.2.2 q.2.2
def DN(a:KM)(e:List (oC×KM×V)):HO:=.ext λw h=>e.length<=KF/\(a==sysModules)=R/\∃b:List (oC×KM×On),KN e b ∧
 ∃o d f,h.get? a=Z o/\o.ExactDict/\o.data=.dict d f/\d.toList=b.map (GE w)/\(b.map (·.1)).Nodup
def PH(H:Hp)(k:oC)(b:KM):Prop:=∃a:Xa,H b=Z (.tup (a.map V.ref))/\Paired (λ(x:List Key) (c:KM)=>H c=Z (.tup (x.map kV))) k a
def PH.mono{H e:Hp}{k:oC}{b:KM}(x:PH H k b)(t:∀a d,H a=Z (.tup d)->e a=Z (.tup d)):PH e k b:=by
 obtain⟨f,h,r⟩:=x;exact⟨f,t _ _ h,Paired.LJ r λ_ _ z=>t _ _ z⟩
end L2
end
section
namespace VS
open PySem PySem.Spec PyProof.Rows L2
def sx(s:Tx):Str:=⟨s.toArray⟩
def pP(s:Tx):Prop:=s.length<=eO/\∀c∈s,c<1114112
abbrev Me:=Nat->Option V
structure Gx where
 K:Xk
 ct:Nat->KM×(Nat->Str)
 me:Me:=λ_=>none
def Gx.at(G:Gx)(m:Me):Gx:=⟨G.K,G.ct,m⟩
def aN:Key->T
 |.inl i=>.int i
 |.inr x=>.str x.cps.toList
def UP(k:oC):T:=.tup (k.map λx=>T.tup (x.map aN))
def lN(K:Xk)(H:Hp)(a:KM)(d:Wp):Prop :=
 (∃o,H a=Z (.frz o (.lst (d.map V.int)))) ∨
  ∃(o:Obj)(b:Array On)(n:Nat),K.lookup a=Z o/\o.cls=.type "list" ∧ o.dict=L/\o.data=.seq b n/\b.size<=KF/\aK (d.map V.int) b.toList
mutual
inductive Rp(G:Gx)(H:Hp):V->T->Xa->Prop
 |non:Rp G H .non .non []
 |bl (b:Bool):Rp G H (.bl b) (.bl b) []
 |int (i:Int):Rp G H (.int i) (.int i) []
 |str (s:Tx):pP s->Rp G H (.str (sx s)) (.str s) []
 |scr {a:KM} {ns:Wp}:lN G.K H a ns->Rp G H (.ref a) (.scr ns) []
 |tup {a:KM} {vs:List V} {ts:Wh} {Fs:Xl}:H a=some (.tup vs)->RpL G H vs ts Fs->Rp G H (.ref a) (.tup ts) Fs.flatten
 |lst {a:KM} {vs:List V} {ts:Wh} {Fs:Xl}:H a=some (.lst vs)->RpL G H vs ts Fs->Rp G H (.ref a) (.lst ts) (a :: Fs.flatten)
 |dct {a:KM} {ks:List Key} {vs:List V} {ts:Wh} {Fs:Xl}:H a=some (.dK (ks.zip vs))->ks.length=vs.length->RpL G H vs ts Fs->Rp G H (.ref a) (.dct 0 ((ks.map aN).zip ts)) (a :: Fs.flatten)
 |dctT {a:KM} {ks:List (List Key)} {vs:List V} {ts:Wh} {Fs:Xl}:H a=some (.dT (ks.zip vs))->ks.length=vs.length->RpL G H vs ts Fs->Rp G H (.ref a) (.dct 1 ((ks.map λk=>T.tup (k.map aN)).zip ts)) (a :: Fs.flatten)
 |dctN {a:KM} {ks:List (oC×KM)} {vs:List V} {ts:Wh} {Fs:Xl}:H a=some (DN a ((ks.zip vs).map λp=>(p.1.1,p.1.2,p.2)))->ks.length=vs.length->(∀p∈ks,PH H p.1 p.2)->RpL G H vs ts Fs->Rp G H (.ref a) (.dct 2 ((ks.map λp=>UP p.1).zip ts)) (a :: Fs.flatten)
 |dctZ {a:KM} {o:Obj} {ks:List Key} {vs:List V} {ts:Wh} {Fs:Xl}:H a=some (.frz o (.dK (ks.zip vs)))->ks.length=vs.length->RpL G H vs ts Fs->Rp G H (.ref a) (.dct 3 ((ks.map aN).zip ts)) Fs.flatten
 |exc {c:Nat} {a:KM} {o:Obj}:H a=some (.frz o (.own a))->(o.cls=.ref (G.ct c).1/\o.dict=none/\∃vs,o.data=.fields vs)->Rp G H (.ref a) (.obj c []) []
 |ins {c:Nat} {a dx:KM} {b:Bool} {ks:Wq} {vs:List V} {ts:Wh} {Fs:Xl}:H a=some (.ins (G.ct (c+1)).1 dx ((ks.map (G.ct (c+1)).2).zip vs))->ks.length=vs.length->(b=true->G.me 0=some (.ref a))->RpL G H vs ts Fs->Rp G H (.ref a) (.obj (c+1) ((0,.bl b) :: ks.zip ts)) (a :: Fs.flatten)
 |mk {m:Nat} {a:KM} {t:T} {F:Xa}:G.me m=some (.ref a)->Rp G H (.ref a) t F->Rp G H (.ref a) (.obj 0 [(0,.bl true),(m,t)]) F
inductive RpL(G:Gx)(H:Hp):List V->Wh->Xl->Prop
 |nil:RpL G H [] [] []
 |cons {v:V} {t:T} {F:Xa} {vs:List V} {ts:Wh} {Fs:Xl}:Rp G H v t F->RpL G H vs ts Fs->RpL G H (v :: vs) (t :: ts) (F :: Fs)
end
structure Kept(H H':Hp):Prop where
 tup:∀a xs,H a=some (.tup xs)->H' a=some (.tup xs)
 frz:∀a o u,H a=some (.frz o u)->H' a=some (.frz o u)
def Kept.refl(H:Hp):Kept H H:=⟨λ_ _ h=>h,λ_ _ _ h=>h⟩
def Kept.trans{H e d:Hp}(a:Kept H e)(b:Kept e d):Kept H d:=⟨λc x h=>b.tup c x (a.tup c x h),λc o u h=>b.frz c o u (a.frz c o u h)⟩
def Kept.of{H b:Hp}(e:aC H b):Kept H b:=⟨λa _ h=>e a _ h,λa _ _ h=>e a _ h⟩
theorem Kept.upd{H:Hp}{a:KM}{o:HO}(d:GT (H a)\/H a=L):Kept H (upd H a o):=by
 have ne:∀b u,H b=Z u->¬GT (Z u)->b≠a:=λb u h nm e=>by
  subst e;rcases d with m | m
  ·rw[h]at m;exact nm m
  ·rw[h]at m;cases m
 exact⟨λb f h=>by rw[ax (ne b _ h λz=>z)];exact h,λb o u h=>by rw[ax (ne b _ h λz=>z)];exact h⟩
def lN.kept{K:Xk}{H d:Hp}{a:KM}{b:Wp}(h:lN K H a b)(k:Kept H d):lN K d a b:=by
 rcases h with⟨o,e⟩ | h
 ·exact .inl ⟨o,k.frz _ _ _ e⟩
 ·exact .inr h
def lN.seq{K:Xk}{H:Hp}{a:KM}{b:Wp}(h:lN K H a b):GW K H a (b.map V.int):=by
 rcases h with⟨o,e⟩ | h
 ·exact .inl (.inr ⟨o,e⟩)
 ·exact .inr h
def rY{H d:Hp}{a:KM}{F:Xa}(f:∀b∈a :: F,∀o,H b=Z o->d b=Z o):∀b∈F,∀o,H b=Z o->d b=Z o:=λb m=>f b (Zw _ m)
def vv{H a:Hp}{F:Xa}{d:Xl}(f:∀b∈(F :: d).flatten,∀o,H b=Z o->a b=Z o):(∀b∈F,∀o,H b=Z o->a b=Z o)/\∀b∈d.flatten,∀o,H b=Z o->a b=Z o:=by
 rw[ZW]at f;exact⟨λb m=>f b (ZD _ m),λb m=>f b (ZQ _ m)⟩
def Rp.keep{G:Gx}{H e:Hp}(k:Kept H e){v:V}{t:T}{F:Xa}(r:Rp G H v t F):(∀a∈F,∀o,H a=Z o->e a=Z o)->Rp G e v t F :=
 Rp.rec (motive_1:=λv t F _=>(∀a∈F,∀o,H a=Z o->e a=Z o)->Rp G e v t F) (motive_2:=λj q g _=>(∀a∈g.flatten,∀o,H a=Z o->e a=Z o)->RpL G e j q g)
  (λ_=>.non) (λb _=>.bl b) (λi _=>.int i) (λs h _=>.str s h) (λh _=>.scr (h.kept k)) (λh _ d f=>.tup (k.tup _ _ h) (d f)) (λh _ d f=>.lst (f _ Zv _ h) (d (rY f))) (λh l _ d f=>.dct (f _ Zv _ h) l (d (rY f))) (λh l _ d f=>.dctT (f _ Zv _ h) l (d (rY f)))
  (λh l n _ d f=>.dctN (f _ Zv _ h) l (λp m=>(n p m).mono k.tup) (d (rY f))) (λh l _ d f=>.dctZ (k.frz _ _ _ h) l (d f)) (λh x _=>.exc (k.frz _ _ _ h) x) (λh l m _ d f=>.ins (f _ Zv _ h) l m (d (rY f))) (λh _ d f=>.mk h (d f)) (λ_=>.nil) (λ_ _ w u f=>.cons (w (vv f).1) (u (vv f).2)) r
theorem RpL.keep{G:Gx}{H b:Hp}(k:Kept H b):∀{e:List V}{g:Wh}{d:Xl},RpL G H e g d->(∀a∈d.flatten,∀o,H a=Z o->b a=Z o)->RpL G b e g d
 |_,_,_,.nil,_=>.nil
 |_,_,_,.cons r q,f=>.cons (r.keep k (vv f).1) (RpL.keep k q (vv f).2)
def Rp.same{G:Gx}{H b:Hp}(e:aC H b){v:V}{t:T}{F:Xa}(r:Rp G H v t F):Rp G b v t F:=r.keep (Kept.of e) λa _ o h=>e a o h
def RpL.same{G:Gx}{H b:Hp}(e:aC H b){v:List V}{t:Wh}{F:Xl}(r:RpL G H v t F):RpL G b v t F:=r.keep (Kept.of e) λa _ o h=>e a o h
def xB{H:Hp}{a:KM}{F:Xa}(h:GT (H a))(d:∀b∈F,GT (H b)):∀b∈a :: F,GT (H b):=λb m=>(Zp.mp m).elim (λe=>e ▸ h) (d b)
def x4{H:Hp}{a:KM}{o:HO}(h:H a=Z o)(m:GT (Z o)):GT (H a):=by rw[h];exact m
def EO{H:Hp}{F:Xa}{a:Xl}(e:∀b∈F,GT (H b))(d:∀b∈a.flatten,GT (H b)):∀b∈(F :: a).flatten,GT (H b):=λb m=>by
 rw[ZW]at m;exact(Zd.mp m).elim (e b) (d b)
def Rp.G3{G:Gx}{H:Hp}{v:V}{t:T}{F:Xa}(r:Rp G H v t F):∀a∈F,GT (H a) :=
 Rp.rec (motive_1:=λv t F _=>∀a∈F,GT (H a)) (motive_2:=λg i f _=>∀a∈f.flatten,GT (H a))
  (λ_ m=>nomatch m) (λ_ _ m=>nomatch m) (λ_ _ m=>nomatch m) (λ_ _ _ m=>nomatch m) (λ_ _ m=>nomatch m) (λ_ _ b=>b) (λh _ b=>xB (x4 h True.intro) b) (λh _ _ b=>xB (x4 h True.intro) b) (λh _ _ b=>xB (x4 h True.intro) b)
  (λh _ _ _ b=>xB (x4 h True.intro) b) (λ_ _ _ b=>b) (λ_ _ _ m=>nomatch m) (λh _ _ _ b=>xB (x4 h True.intro) b) (λ_ _ b=>b) (λ_ m=>nomatch m) (λ_ _ e d=>EO e d) r
theorem RpL.G3{G:Gx}{H:Hp}:∀{d:List V}{e:Wh}{b:Xl},RpL G H d e b->∀a∈b.flatten,GT (H a)
 |_,_,_,.nil=>λ_ m=>nomatch m
 |_,_,_,.cons r q=>EO r.G3 (RpL.G3 q)
def GT.gV{o:Option HO}(m:GT o):o≠L:=λe=>by subst e;exact m
def Eu{F:Xa}{b:Xl}{t:T}{a:Wh}(e:VS.GQ t=B->F=[])(d:VS.eQ a=B->b.flatten=[])(i:VS.eQ (t :: a)=B):(F :: b).flatten=[]:=by
 simp only[VS.eQ,Ze]at i;rw[ZW,e i.1,d i.2];rfl
theorem Rp.GQ{G:Gx}{H:Hp}{v:V}{t:T}{F:Xa}(r:Rp G H v t F):VS.GQ t=B->F=[] :=
 Rp.rec (motive_1:=λv t F _=>VS.GQ t=B->F=[]) (motive_2:=λg a f _=>VS.eQ a=B->f.flatten=[])
  (λ_=>rfl) (λ_ _=>rfl) (λ_ _=>rfl) (λ_ _ _=>rfl) (λ_ _=>rfl) (λ_ _ b i=>b (by simpa[VS.GQ] using i)) (λ_ _ _ i=>absurd (show R=B from i) Zc) (λ_ _ _ _ i=>absurd (show R=B from i) Zc) (λ_ _ _ _ i=>absurd (show R=B from i) Zc)
  (λ_ _ _ _ _ i=>absurd (show R=B from i) Zc) (λ_ _ _ _ i=>absurd (show R=B from i) Zc) (λ_ _ _=>rfl) (λ_ _ _ _ _ i=>absurd (show R=B from i) Zc) (λ_ _ _ i=>absurd (show R=B from i) Zc) (λ_=>rfl) (λ_ _ e d i=>Eu e d i) r
theorem RpL.GQ{G:Gx}{H:Hp}:∀{d:List V}{a:Wh}{b:Xl},RpL G H d a b->VS.eQ a=B->b.flatten=[]
 |_,_,_,.nil,_=>rfl
 |_,_,_,.cons r q,i=>Eu r.GQ (RpL.GQ q) i
theorem RpL.len{G:Gx}{H:Hp}:∀{b:List V}{a:Wh}{d:Xl},RpL G H b a d->b.length=a.length/\d.length=a.length
 |_,_,_,.nil=>⟨rfl,rfl⟩
 |_,_,_,.cons _ q=>by
  have:=RpL.len q;simp only[Zi];lia
theorem RpL.get{G:Gx}{H:Hp}:∀{a:List V}{b:Wh}{d:Xl}(i:Nat){t:T},RpL G H a b d->b[i]?=Z t->∃v F,a[i]?=Z v/\d[i]?=Z F/\Rp G H v t F
 |_,_,_,_,_,.nil,e=>by simp at e
 |_,_,_,0,_,.cons r _,e=>by
  simp at e;subst e;exact⟨_,_,rfl,rfl,r⟩
 |_,_,_,i+1,_,.cons _ q,e=>by
  obtain⟨v,F,h,g,f⟩:=RpL.get i q (by simpa using e);exact⟨v,F,by simpa using h,by simpa using g,f⟩
theorem RpL.append{G:Gx}{H:Hp}:∀{a:List V}{d:Wh}{g:Xl}{b:List V}{e:Wh}{f:Xl},RpL G H a d g->RpL G H b e f->RpL G H (a++b) (d++e) (g++f)
 |_,_,_,_,_,_,.nil,s=>s
 |_,_,_,_,_,_,.cons r q,s=>.cons r (RpL.append q s)
theorem RpL.take{G:Gx}{H:Hp}:∀{a:List V}{b:Wh}{d:Xl}(n:Nat),RpL G H a b d->RpL G H (a.take n) (b.take n) (d.take n)
 |_,_,_,0,_=>by simpa using RpL.nil
 |_,_,_,n+1,.nil=>.nil
 |_,_,_,n+1,.cons r q=>.cons r (RpL.take n q)
theorem RpL.drop{G:Gx}{H:Hp}:∀{a:List V}{b:Wh}{d:Xl}(n:Nat),RpL G H a b d->RpL G H (a.drop n) (b.drop n) (d.drop n)
 |_,_,_,0,q=>q
 |_,_,_,n+1,.nil=>.nil
 |_,_,_,n+1,.cons r q=>RpL.drop n q
def iO:Cell->T
 |.pu t=>t
 |.ow t=>t
abbrev GV:=Nat->Xa
structure SR(G:Gx)(M:GV)(U:VS.Env)(J:L2.St)(H:Hp):Prop where
 len:U.length=J.length
 rp:∀i c,U[i]?=some (some c)->∃v,J[i]?=some (some v)/\Rp G H v (iO c) (M i)
 nd:∀i t,U[i]?=some (some (.ow t))->(M i).Nodup
 sep:∀i j t c,U[i]?=some (some (.ow t))->U[j]?=some (some c)->i≠j->∀a∈M i,a∉M j
def cT(M:GV)(U:VS.Env)(a:KM):Prop:=∃j t,U[j]?=Z (Z (.pu t))/\a∈M j
def bK(M:GV)(U:VS.Env)(a:KM):Prop:=∃j t,U[j]?=Z (Z (.ow t))/\a∈M j
def Fp(M:GV)(U:VS.Env)(H:Hp):Md->Xa->Prop
 |.fr,F=>F.Nodup/\∀a∈F,H a=L
 |.pu,F=>∀a∈F,H a=L\/cT M U a
 |.bo,F=>∀a∈F,H a=L\/cT M U a\/bK M U a
theorem SR.same{G:Gx}{M:GV}{U:VS.Env}{J:L2.St}{H a:Hp}(s:SR G M U J H)(e:aC H a):SR G M U J a :=
 ⟨s.len,λi c h=>let ⟨v,d,b⟩:=s.rp i c h;⟨v,d,b.same e⟩,s.nd,s.sep⟩
def SR.Iu{G:Gx}{M:GV}{U:VS.Env}{J:L2.St}{H:Hp}{a:KM}(s:SR G M U J H)(h:cT M U a):GT (H a):=by
 obtain⟨j,t,d,b⟩:=h;obtain⟨v,_,r⟩:=s.rp j _ d;exact r.G3 a b
def SR.G7{G:Gx}{M:GV}{U:VS.Env}{J:L2.St}{H:Hp}{a:KM}(s:SR G M U J H)(h:bK M U a):GT (H a):=by
 obtain⟨j,t,d,b⟩:=h;obtain⟨v,_,r⟩:=s.rp j _ d;exact r.G3 a b
def Fp.nil{M:GV}{U:VS.Env}{H:Hp}{m:Md}:Fp M U H m []:=by
 cases m
 ·exact⟨Yz,λa h=>by simp at h⟩
 ·exact λa h=>by simp at h
 ·exact λa h=>by simp at h
theorem Fp.bo{M:GV}{U:VS.Env}{H:Hp}{F:Xa}:∀{m:Md},Fp M U H m F->Fp M U H .bo F
 |.fr,h=>λa m=>.inl (h.2 a m)
 |.pu,h=>λa m=>(h a m).elim .inl λz=>.inr (.inl z)
 |.bo,h=>h
theorem Fp.pu{M:GV}{U:VS.Env}{H:Hp}{F:Xa}:∀{m:Md},m ≠ .bo->Fp M U H m F->Fp M U H .pu F
 |.fr,_,h=>λa m=>.inl (h.2 a m)
 |.pu,_,h=>h
 |.bo,n,_=>absurd Y n
theorem Fp.back{M:GV}{U:VS.Env}{H b:Hp}(e:aC H b){F:Xa}:∀{m:Md},Fp M U b m F->Fp M U H m F
 |.fr,h=>⟨h.1,λa m=>e.free (h.2 a m)⟩
 |.pu,h=>λa m=>(h a m).imp e.free id
 |.bo,h=>λa m=>(h a m).imp e.free id
theorem Fp.up{G:Gx}{M:GV}{U:VS.Env}{H a:Hp}{m:Md}{v:V}{t:T}{F:Xa}(f:Fp M U H m F)(r:Rp G a v t F):Fp M U H (VS.up m t).1 F:=by
 unfold VS.up;by_cases h:VS.GQ t=B
 ·rw[r.GQ h];exact Fp.nil
 ·simp only[h,if_false,X2];exact f
def tE(G:Gx)(c:Ex):TE:=λJ H Q=>∃M U m r,SR G M U J H/\c U=Z (m,r)/\∀v a F,aC H a->Rp G a v r F->Fp M U H m F->Q v a
def PV(G:Gx)(X:Cx)(e:Expr)(c:Ex):Prop:=PE X e (tE G c)
def PE.weak{X:Cx}{e:Expr}{t b:TE}(h:PE X e t)(w:∀J H Q,b J H Q->t J H Q):PE X e b:=λa s J H Q I q=>h a s J H Q I (w J H Q q)
def PT.weak{X:Cx}{e:Expr}{t b:TT}(h:PT X e t)(w:∀J H Q,b J H Q->t J H Q):PT X e b:=λa s J H Q I q=>h a s J H Q I (w J H Q q)
def PA.weak{X:Cx}{e:List Expr}{t b:TA}(h:PA X e t)(w:∀J H Q,b J H Q->t J H Q):PA X e b:=λpos a s J H Q I q=>h pos a s J H Q I (w J H Q q)
def tT(G:Gx)(c:Ex):TT:=λJ H Q=>∃M U m r b,SR G M U J H/\c U=Z (m,r)/\Lj r=Z b/\∀a,aC H a->Q b a
def Ip(G:Gx)(X:Cx)(e:Expr)(c:Ex):Prop:=PT X e (tT G c)
def HU(l:Wj)(a:Xl):Xa:=match l,a with
 |v :: l,F :: a=>match v.1 with
  |.fr=>F++HU l a
  |_=>HU l a
 |_,_=>[]
structure Lw(M:GV)(U:VS.Env)(H:Hp)(l:Wj)(Fs:Xl):Prop where
 each:∀(i:Nat) v F,l[i]?=some v->Fs[i]?=some F->Fp M U H v.1 F
 nd:(HU l Fs).Nodup
def Ni(G:Gx)(c:Hf):TA:=λJ H Q=>∃M U l,SR G M U J H/\c U=Z l/\∀b a d,aC H a->RpL G a b (trees l) d->Lw M U H l d->Q b a
def HI(G:Gx)(X:Cx)(a:List Expr)(c:Hf):Prop:=PA X a (Ni G c)
section
variable{G:Gx}{X:Cx}{a b c:Expr}{ca cb cc:Ex}{pos:Pos}
def ah{i j pos}:PV G X (.Constant (.int i) j pos) (Q2 i):=PE.weak pX λJ H Q d=>by
 obtain⟨M,U,m,r,s,e,k⟩:=d;cases (show Z (Md.fr,T.int i)=Z (m,r) from e);exact k _ _ _ (aC.refl _) (.int i) Fp.nil
def jC{i j pos}:PV G X (.Constant (.bool i) j pos) (eC (.bl i)):=PE.weak Et λJ H Q d=>by
 obtain⟨M,U,m,r,s,e,k⟩:=d;cases (show Z (Md.fr,T.bl i)=Z (m,r) from e);exact k _ _ _ (aC.refl _) (.bl i) Fp.nil
def zy{j pos}:PV G X (.Constant .none j pos) (eC .non):=PE.weak Df λJ H Q d=>by
 obtain⟨M,U,m,r,s,e,k⟩:=d;cases (show Z (Md.fr,T.non)=Z (m,r) from e);exact k _ _ _ (aC.refl _) .non Fp.nil
def lu{x:Str}{t:Tx}{j pos}(h:x=sx t:=by decide +kernel)(f:pP t:=by decide):PV G X (.Constant (.str x) j pos) (eC (.str t)):=PE.weak CA λJ H Q d=>by
 obtain⟨M,U,m,r,s,e,k⟩:=d;cases (show Z (Md.fr,T.str t)=Z (m,r) from e);subst h;exact k _ _ _ (aC.refl _) (.str t f) Fp.nil
def bG(i:Nat){x:Str}{g:Pos}(w:X.N[i]?=Z x:=by rfl)(p:IG X.env.scope x:=by first | exact Or.inl Y | exact Or.inr (Or.inl Y) | exact Or.inr (Or.inr Y))(u:K3 x:=by decide)(j:K4 x:=by decide):PV G X (.Name x g) (aa i):=PE.weak (fJ w p u j) λJ H Q q=>by
 obtain⟨M,U,m,r,s,e,k⟩:=q;unfold aa at e;split at e
 ·rename_i t h;obtain⟨v,n,d⟩:=s.rp _ _ h;have o:VS.up .pu t=(m,r):=Zm e;have y:t=r:=congrArg Prod.snd o;have em:(VS.up .pu t).1=m:=congrArg Prod.fst o;rw[← y,← em]at k;refine⟨v,n,k v H (M i) (aC.refl _) d ?_⟩;have f:Fp M U H .pu (M i):=λa l=>.inr ⟨i,_,h,l⟩;exact f.up d
 ·rename_i t h;obtain⟨v,n,d⟩:=s.rp _ _ h;cases e;exact⟨v,n,k v H (M i) (aC.refl _) d λa l=>.inr (.inr ⟨i,_,h,l⟩)⟩
 ·cases e
def Au{x:Str}{u:On}{v:V}{t:T}{d:Pos}(j:Gl X x)(i:X.mg x=Z u)(r:RelV v u)(g:∀H,Rp G H v t [])(l:K3 x:=by decide):PV G X (.Name x d) (eC t) :=
 PE.weak (Ag j i r l) λJ H Q h=>by
  obtain⟨M,U,m,f,s,e,k⟩:=h;cases (show Z (Md.fr,t)=Z (m,f) from e);exact k _ _ _ (aC.refl _) (g H) Fp.nil
structure OT(G:Gx)(M:GV)(U:VS.Env)(H0 H:Hp)(x y:Val)(u w:V)(F1 F2:Xa):Prop where
 same:aC H0 H
 r1:Rp G H u x.2 F1
 r2:Rp G H w y.2 F2
 f1:Fp M U H0 x.1 F1
 f2:Fp M U H0 y.1 F2
 nd:x.1=.fr->y.1=.fr->(F1++F2).Nodup
def fE(G:Gx)(r:R2)(f:Val->Val->Wi):Prop:=∀(M:GV)(U:VS.Env)(e H:Hp)(x y:Val)(u w:V)(h g:Xa)(m:Md)(t:T)(Q:VK),OT G M U e H x y u w h g->f x y=Z (m,t) →
 (∀v d F,aC H d->Rp G d v t F->Fp M U e m F->Q v d)->r u w H Q
def xM{J:L2.St}{H:Hp}{Q:V->V->Hp->Prop}{M:GV}{U:VS.Env}{x y:Val}(s:SR G M U J H)(m:ca U=Z x)(l:cb U=Z y)(k:∀u w d f e,OT G M U H d x y u w f e->Q u w d):tE G ca J H λu g=>tE G cb J g λw d=>Q u w d:=by
 refine⟨M,U,x.1,x.2,s,m,λu g f e1 r1 f1=>⟨M,U,y.1,y.2,s.same e1,l,λw d e e2 r2 f2=>k u w d f e ⟨e1.trans e2,r1.same e2,r2,f1,f2.back e1,λi h=>?_⟩⟩⟩;rw[i]at f1;rw[h]at f2;refine ZR.mpr ⟨f1.1,f2.1,λa j b hb z=>?_⟩;subst z;exact GT.gV (r1.G3 a j) (f2.2 a hb)
def nS{r:R2}{f:Val->Val->Wi}(g:fE G r f){J:L2.St}{H:Hp}{Q:VK}(h:tE G (e2 f ca cb) J H Q):NM r (tE G ca) (tE G cb) J H Q:=by
 obtain⟨M,U,m,t,s,e,k⟩:=h;unfold e2 at e;obtain⟨x,j,e⟩:=Zz.mp e;obtain⟨y,i,e⟩:=Zz.mp e;exact xM s j i λu w l p o d=>g M U H l x y u w p o m t Q d e λv n F e1 r1 f1=>k v n F (d.same.trans e1) r1 f1
def g8{d:Operator}{r:R2}{f:Val->Val->Wi}(g:OpR X (binaryOp d) r)(e:fE G r f)(j:PV G X a ca)(i:PV G X b cb):PV G X (.BinOp a d b pos) (e2 f ca cb) :=
 PE.weak (xO g j i) λJ H Q h=>nS e h
def Tells(f:Val->Val->Wi):Prop:=∀x y m t,f x y=Z (m,t)->∃b,t=.bl b
def Rp.Hz{H:Hp}{v:V}{b:Bool}{F:Xa}(r:Rp G H v (.bl b) F):v=.bl b:=by cases r;rfl
def Rp.int_inv{H:Hp}{v:V}{b:Int}{F:Xa}(r:Rp G H v (.int b) F):v=.int b:=by cases r;rfl
def Rp.str_inv{H:Hp}{v:V}{b:Tx}{F:Xa}(r:Rp G H v (.str b) F):v=.str (sx b)/\pP b:=by cases r with | str _ h=>exact⟨rfl,h⟩
def nB{c:Ex}{t:TE}{J:L2.St}{H:Hp}{Q:Bool->Hp->Prop}(h:tT G c J H Q)(f:∀U m r,c U=Z (m,r)->∃b,r=.bl b)(w:∀Q,tE G c J H Q->t J H Q):yd t J H Q:=by
 obtain⟨M,U,m,r,b,s,e,d,k⟩:=h;refine w _ ⟨M,U,m,r,s,e,λv j F e1 r1 f1=>?_⟩;obtain⟨i,g⟩:=f U m r e;rw[g]at d r1;cases (show Z i=Z b from d);exact⟨_,r1.Hz,k j e1⟩
def iy{d:CmpOp}{r:R2}{f:Val->Val->Wi}(j:OpR X (SL d) r)(g:fE G r f)(i:Tells f)(o:PV G X a ca)(n:PV G X b cb)(l:behindInMarks d b=R):Ip G X (.Compare a [d] [b] pos) (e2 f ca cb) :=
 PT.weak (vo j o n l) λJ H Q h=>nB h (λU m r e=>by
  unfold e2 at e;obtain⟨x,_,e⟩:=Zz.mp e;obtain⟨y,_,e⟩:=Zz.mp e;exact i x y m r e) λQ h=>nS g h
def bx{M:GV}{U:VS.Env}{e H:Hp}{m:Md}{t:T}{v:V}{Q:VK}(k:∀v d F,aC H d->Rp G d v t F->Fp M U e m F->Q v d)(r:Rp G H v t []):Q v H:=k v H [] (aC.refl _) r Fp.nil
def br{H:Hp}{p:KM}{o:HO}(h:H p=L):aC H (upd H p o):=λb d e=>by rw[ax (cG e h)];exact e
theorem Fp.new{M:GV}{U:VS.Env}{g:Hp}{p:KM}{F:Xa}(d:g p=L)(h:p∉F):∀{m:Md},Fp M U g m F->Fp M U g m (p :: F)
 |.fr,f=>⟨Zg.mpr ⟨h,f.1⟩,λa m=>(Zp.mp m).elim (λe=>by rw[e];exact d) (f.2 a)⟩
 |.pu,f=>λa m=>(Zp.mp m).elim (λe=>by rw[e];exact .inl d) (f a)
 |.bo,f=>λa m=>(Zp.mp m).elim (λe=>by rw[e];exact .inl d) (f a)
def qi{d m:Md}{l:Wh}{t:T}(e:JR d l=Z (m,t)):t=.lst l/\l.length<=eO/\m=(if eQ l then .fr else d):=by
 unfold JR at e;split at e
 ·rename_i h;cases e;exact⟨rfl,h,rfl⟩
 ·cases e
def je{M:GV}{U:VS.Env}{i H:Hp}{q m:Md}{l:Wh}{t:T}{o:List V}{n:Xl}{Q:VK}(d:aC i H)(e:JR q l=Z (m,t))(r:RpL G H o l n)(f:Fp M U i q n.flatten)(k:∀v j F,aC H j->Rp G j v t F->Fp M U i m F->Q v j):∀p,H p=L->Q (.ref p) (upd H p (.lst o)):=by
 intro p g;obtain⟨rfl,s,rfl⟩:=qi e;refine k _ _ _ (br g) (.lst au (r.same (br g))) ?_;have np:p∉n.flatten:=λm=>GT.gV (r.G3 p m) g;by_cases h:eQ l=B
 ·rw[h,Zq Y];rw[r.GQ h]at np ⊢;exact Fp.nil.new (d.free g) np
 ·rw[Zn h];exact f.new (d.free g) np
theorem OT.join{M:GV}{U:VS.Env}{h H:Hp}{x y:Val}{u w:V}{f e:Xa}(i:OT G M U h H x y u w f e){F:Xa}(g:F.Sublist (f++e)):Fp M U h (x.1.join y.1) F:=by
 obtain⟨same,r1,r2,f1,f2,nd⟩:=i;have split:∀a∈F,a∈f\/a∈e:=λa d=>Zd.mp (g.subset d);obtain⟨l,x⟩:=x;obtain⟨j,y⟩:=y;have both:∀{P:KM->Prop},(∀a∈f,P a)->(∀a∈e,P a)->∀a∈F,P a:=λn m a d=>(split a d).elim (n a) (m a);cases l<;>cases j
 ·exact⟨(nd Y Y).sublist g,both f1.2 f2.2⟩
 ·exact both (λa d=>.inl (f1.2 a d)) f2
 ·exact both (λa d=>.inl (f1.2 a d)) f2
 ·exact both f1 (λa d=>.inl (f2.2 a d))
 ·exact both f1 f2
 ·exact both (f1.bo) f2
 ·exact both f1 (λa d=>.inl (f2.2 a d))
 ·exact both f1 (f2.bo)
 ·exact both f1 f2
def fg:eO=sizeLine:=rfl
def de(s:Tx):(sx s).length=s.length:=rfl
def DY(s t:Tx):sx s++sx t=sx (s++t):=by
 show Str.append (sx s) (sx t)=_;simp[sx,Str.append]
def Rp.lst_inv{H:Hp}{v:V}{l:Wh}{F:Xa}(r:Rp G H v (.lst l) F):∃a d e,v=.ref a/\F=a :: e.flatten/\H a=Z (.lst d)/\RpL G H d l e:=by
 cases r with
 |lst h q=>exact⟨_,_,_,rfl,rfl,h,q⟩
def Rp.HX{H:Hp}{v:V}{l:Wh}{F:Xa}(r:Rp G H v (.tup l) F):∃a d e,v=.ref a/\F=e.flatten/\H a=Z (.tup d)/\RpL G H d l e:=by
 cases r with
 |tup h q=>exact⟨_,_,_,rfl,rfl,h,q⟩
def Rp.LF{H:Hp}{v:V}{l:Wp}{F:Xa}(r:Rp G H v (.scr l) F):∃a,v=.ref a/\F=[]/\lN G.K H a l:=by
 cases r with
 |scr h=>exact⟨_,rfl,rfl,h⟩
end
section
variable{G:Gx}{X:Cx}
def FU:R2:=λx y H Q=>J8 (λi j=>.int (i+j)) x y H Q\/(∃i j,x=.str i/\y=.str j/\i.length+j.length<=KF/\Q (.str (i++j)) H)\/FG x y H Q
def qD:OpR X (binaryOp .Add) FU:=C2.or (sU.or Cf)
def yR:fE G FU aW:=by
 intro M U E H x y u w A z m t Q f e k;have q:=λ{F:Xa} (h:List.Sublist F (A++z))=>f.join h;obtain⟨D,x⟩:=x;obtain⟨C,y⟩:=y;obtain⟨same,r1,r2,f1,f2,nd⟩:=f;unfold aW at e;split at e
 ·rename_i i _ j e1 e2;cases e1;cases e2;cases e;exact .inl ⟨_,_,r1.int_inv,r2.int_inv,bx k (.int _)⟩
 ·rename_i s _ p e1 e2;cases e1;cases e2;split at e
  ·rename_i d;cases e;refine .inr (.inl ⟨_,_,r1.str_inv.1,r2.str_inv.1,by rw[de,de,← fg];exact d,?_⟩);rw[DY];exact bx k (.str _ ⟨by rw[Zt];exact d,λc r=>(Zd.mp r).elim (r1.str_inv.2.2 c) (r2.str_inv.2.2 c)⟩)
  ·cases e
 ·rename_i s _ p e1 e2;cases e1;cases e2;obtain⟨a,n,N,rfl,rfl,v,l⟩:=r1.lst_inv;obtain⟨b,o,J,rfl,rfl,hb,g⟩:=r2.lst_inv;obtain⟨_,d,_⟩:=qi e;refine .inr (.inr ⟨a,b,n,o,rfl,rfl,v,hb,?_,je same e (l.append g) (q ?_) k⟩)
  ·rw[Zt]at d;rw[l.len.1,g.len.1,← fg];exact d
  ·rw[Z4];exact(Yw _ _).append (Yw _ _)
 ·cases e
def lJ:fE G (J8 λi j=>.int (i-j)) lB:=by
 intro M U f H x y u w h g m t Q a e k;obtain⟨d,x⟩:=x;obtain⟨b,y⟩:=y;obtain⟨same,r1,r2,f1,f2,nd⟩:=a;unfold lB at e;split at e
 ·rename_i e1 e2;cases e1;cases e2;cases e;exact⟨_,_,r1.int_inv,r2.int_inv,bx k (.int _)⟩
 ·cases e
def mE:fE G (rI Ej λi j=>.int (i/j)) jz:=by
 intro M U f H x y u w l g m t Q a e k;obtain⟨d,x⟩:=x;obtain⟨b,y⟩:=y;obtain⟨same,r1,r2,f1,f2,nd⟩:=a;unfold jz at e;split at e
 ·rename_i e1 e2;cases e1;cases e2;split at e
  ·rename_i h;cases e;exact⟨_,_,r1.int_inv,r2.int_inv,h,bx k (.int _)⟩
  ·cases e
 ·cases e
def DB:fE G (rI (λ_ j=>0<j) λi j=>.int (i%j)) oMod:=by
 intro M U f H x y u w l g m t Q a e k;obtain⟨d,x⟩:=x;obtain⟨b,y⟩:=y;obtain⟨same,r1,r2,f1,f2,nd⟩:=a;unfold oMod at e;split at e
 ·rename_i e1 e2;cases e1;cases e2;split at e
  ·rename_i h;cases e;exact⟨_,_,r1.int_inv,r2.int_inv,h,bx k (.int _)⟩
  ·cases e
 ·cases e
theorem nr:∀(s t:Tx),Kt s t=decide (s<t)
 |[],[]=>by simp[Kt]
 |[],_ :: _=>by simp[Kt]
 |_ :: _,[]=>by simp[Kt]
 |a :: s,b :: t=>by
  unfold Kt;rw[nr s t];by_cases e:a<b
  ·simp[e,Xq]
  ·by_cases d:b<a
   ·have:¬a=b:=by exact XT d
    simp[e,d,Xq,this]
   ·have:a=b:=by lia
    subst this;simp[Xq]
def Sv:R2:=λx y H Q=>J8 (λi j=>.bl (decide (i<j))) x y H Q\/(∃i j,x=.str i/\y=.str j/\Q (.bl (decide (i.cps.toList<j.cps.toList))) H)
def qd:OpR X (SL .Lt) Sv:=Fq.or vJ
def uB:fE G Sv oLt:=by
 intro M U g H x y u w i h m t Q b e k;obtain⟨f,x⟩:=x;obtain⟨d,y⟩:=y;obtain⟨same,r1,r2,f1,f2,nd⟩:=b;unfold oLt at e;split at e
 ·rename_i e1 e2;cases e1;cases e2;cases e;exact .inl ⟨_,_,r1.int_inv,r2.int_inv,bx k (.bl _)⟩
 ·rename_i s _ a e1 e2;cases e1;cases e2;cases e;refine .inr ⟨_,_,r1.str_inv.1,r2.str_inv.1,?_⟩;have:decide ((sx s).cps.toList<(sx a).cps.toList)=Kt s a:=by rw[nr];exact decide_eq_decide.mpr (by simp[sx])
  rw[this];exact bx k (.bl _)
 ·cases e
def kC:Tells oLt:=by
 intro x y m t e;unfold oLt at e;split at e<;>first | (cases e;exact⟨_,rfl⟩) | cases e
def Ci:OZ=2 ^ 64:=rfl
def Dq:fE G (rI Ak λi j=>.int (i*j)) gE:=by
 intro M U f H x y u w l g m t Q a e k;obtain⟨d,x⟩:=x;obtain⟨b,y⟩:=y;obtain⟨same,r1,r2,f1,f2,nd⟩:=a;unfold gE at e;split at e
 ·rename_i e1 e2;cases e1;cases e2;split at e
  ·rename_i h;cases e;refine⟨_,_,r1.int_inv,r2.int_inv,?_,bx k (.int _)⟩;rw[Ci]at h;exact h
  ·cases e
 ·cases e
def v7:OpR X (SL .LtE) (λx y H Q=>∃i j,x=.str i/\y=.str j/\Q (.bl (!decide (j.cps.toList<i.cps.toList))) H):=by
 intro a s J H x y v u Q I d b h;obtain⟨i,j,rfl,rfl,q⟩:=h;obtain⟨t,rfl⟩:=d;obtain⟨e,rfl⟩:=b;exact PySem.P.le_str ⟨.bl _,H,I,rfl,q⟩
def Sw:R2:=λx y H Q=>J8 (λi j=>.bl (decide (i<=j))) x y H Q\/(∃i j,x=.str i/\y=.str j/\Q (.bl (!decide (j.cps.toList<i.cps.toList))) H)
def CZ:OpR X (SL .LtE) Sw:=Es.or v7
def EJ:fE G Sw oLe:=by
 intro M U g H x y u w i h m t Q b e k;obtain⟨f,x⟩:=x;obtain⟨d,y⟩:=y;obtain⟨same,r1,r2,f1,f2,nd⟩:=b;unfold oLe at e;split at e
 ·rename_i e1 e2;cases e1;cases e2;cases e;exact .inl ⟨_,_,r1.int_inv,r2.int_inv,bx k (.bl _)⟩
 ·rename_i s _ a e1 e2;cases e1;cases e2;cases e;refine .inr ⟨_,_,r1.str_inv.1,r2.str_inv.1,?_⟩;have:decide ((sx a).cps.toList<(sx s).cps.toList)=Kt a s:=by rw[nr];exact decide_eq_decide.mpr (by simp[sx])
  rw[this];exact bx k (.bl _)
 ·cases e
def yE:Tells oLe:=by
 intro x y m t e;unfold oLe at e;split at e<;>first | (cases e;exact⟨_,rfl⟩) | cases e
def tH{n:Nat}{i:Int}:HJ n i=MG n i:=by
 unfold HJ MG;by_cases h:0<=i
 ·rw[Zq h,Zq h]
 ·rw[Zn h,Zn h];by_cases a:0<=i+n
  ·rw[Zq a,Zq (by lia)]
  ·rw[Zn a,Zn (by lia)]
def jN{α:Type}{l:List α}{i:Int}{k:Nat}{x:α}(b:HJ l.length i=Z k)(a:l[k]?=Z x):Nc l i=Z x:=by
 unfold Nc;rw[← tH,b];exact a
def cH{a:Xl}{F:Xa}{i:Nat}(h:a[i]?=Z F):F.Sublist a.flatten:=by
 obtain⟨b,rfl⟩:=Zf.mp h;exact List.sublist_flatten_of_mem (Yy b)
theorem Fp.sub{M:GV}{U:VS.Env}{H:Hp}{F d:Xa}(h:F.Sublist d):∀{m:Md},Fp M U H m d->Fp M U H m F
 |.fr,f=>⟨f.1.sublist h,λa b=>f.2 a (h.subset b)⟩
 |.pu,f=>λa b=>f a (h.subset b)
 |.bo,f=>λa b=>f a (h.subset b)
def sZ:fE G (P4 G.K) aB:=by
 intro M U O H x y u w S P m t Q C e k;obtain⟨N,x⟩:=x;obtain⟨J,y⟩:=y;obtain⟨same,r1,r2,f1,f2,nd⟩:=C;unfold aB at e;split at e
 ·rename_i p l o i e1 e2;cases e1;cases e2;obtain⟨j,d,e⟩:=Zz.mp e;obtain⟨x,b,e⟩:=Zy.mp e;obtain⟨a,n,E,rfl,rfl,q,h⟩:=r1.lst_inv;obtain⟨v,F,s,r,g⟩:=h.get j b;refine .inl ⟨a,n,i,v,rfl,r2.int_inv,GW.of q,jN (by rw[h.len.1];exact d) s,?_⟩;have f:=((f1.sub (Yw _ _)).sub (cH r)).up g;unfold VS.sub at e;rw[e]at f;have z:x=t:=congrArg Prod.snd e;rw[z]at g;exact k v H F (aC.refl _) g f
 ·rename_i p l o i e1 e2;cases e1;cases e2;obtain⟨j,d,e⟩:=Zz.mp e;obtain⟨x,b,e⟩:=Zy.mp e;obtain⟨a,n,E,rfl,rfl,q,h⟩:=r1.HX;obtain⟨v,F,s,r,g⟩:=h.get j b;refine .inr (.inl ⟨a,n,i,v,rfl,r2.int_inv,HN.of q,jN (by rw[h.len.1];exact d) s,?_⟩);have f:=(f1.sub (cH r)).up g;unfold VS.sub at e;rw[e]at f;have z:x=t:=congrArg Prod.snd e;rw[z]at g;exact k v H F (aC.refl _) g f
 ·rename_i p l o i e1 e2;cases e1;cases e2;obtain⟨j,d,e⟩:=Zz.mp e;obtain⟨x,b,e⟩:=Zy.mp e;cases e;obtain⟨a,rfl,rfl,sa⟩:=r1.LF;refine .inl ⟨a,l.map V.int,i,.int x,rfl,r2.int_inv,sa.seq,jN (by rw[Zu];exact d) (by rw[ZO,b];rfl),bx k (.int _)⟩
 ·rename_i p l o i e1 e2;cases e1;cases e2;obtain⟨j,d,e⟩:=Zz.mp e;obtain⟨x,b,e⟩:=Zy.mp e;cases e;obtain⟨rfl,A⟩:=r1.str_inv;refine .inr (.inr ⟨sx l,i,x,rfl,r2.int_inv,by rw[de,← fg];exact A.1,jN (k:=j) (by simpa[sx] using d) (by simpa[sx] using b),?_⟩);exact bx k (.str [x] ⟨by show 1<=eO;decide,λc D=>by rw[Zh.mp D];exact A.2 x (YO b)⟩)
 ·cases e
end
section
variable{G:Gx}{X:Cx}{a b c e:Expr}{es:List Expr}{ca cb cc:Ex}{cs:Hf}{pos p:Pos}
theorem uT{x:KM}:∀{l:Wj}{d:Xl},x∈HU l d->∃(i:Nat)(v:Val)(F:Xa),l[i]?=Z v/\v.1=.fr/\d[i]?=Z F/\x∈F
 |[],_,h=>by simp[HU]at h
 |_ :: _,[],h=>by simp[HU]at h
 |v :: l,F :: d,h=>by
  have go:x∈HU l d->∃(i:Nat)(u:Val)(f:Xa),(v :: l)[i]?=Z u/\u.1=.fr/\(F :: d)[i]?=Z f/\x∈f:=λm=>by
   obtain⟨i,u,f,q,o,n,j⟩:=uT m;exact⟨i+1,u,f,by simpa using q,o,by simpa using n,j⟩
  unfold HU at h;split at h
  ·rename_i g;rcases Zd.mp h with h | h
   ·exact⟨0,v,F,rfl,g,rfl,h⟩
   ·exact go h
  ·exact go h
def ai:HI G X [] ag:=PA.weak dv λJ H Q d=>by
 obtain⟨M,U,l,s,e,k⟩:=d;cases (show Z ([]:Wj)=Z l from e);exact k [] H [] (aC.refl _) .nil ⟨λi v F h=>by simp at h,by simp[HU]⟩
def ae(C:PV G X e ca)(w:HI G X es cs)(t:K1 e es X:=by rfl):HI G X (e :: es) (ab ca cs):=PA.weak (bA C w t) λJ H Q A=>by
 obtain⟨M,U,l,s,e,k⟩:=A;unfold ab at e;obtain⟨x,O,e⟩:=Zz.mp e;obtain⟨j,N,e⟩:=Zz.mp e;cases e;refine⟨M,U,x.1,x.2,s,O,λv Y F e1 r1 f1=>⟨M,U,j,s.same e1,N,λm P S e2 r2 f2=>k (v :: m) P (F :: S) (e1.trans e2) (.cons (r1.same e2) r2) ⟨λi u h g d=>?_,?_⟩⟩⟩
 ·cases i with
  |zero =>
   cases (show Z x=Z u from g);cases (show Z F=Z h from d);exact f1
  |succ i=>exact(f2.each i u h (by simpa using g) (by simpa using d)).back e1
 ·unfold HU;split
  ·rename_i r;rw[r]at f1;refine ZR.mpr ⟨f1.1,f2.nd,λy o z n q=>?_⟩;subst q;obtain⟨i,u,h,g,d,E,D⟩:=uT n;have f:=f2.each i u h g E;rw[d]at f;exact GT.gV (r1.G3 y o) (f.2 y D)
  ·exact f2.nd
theorem kQ:∀{l:Wj},cJ l=.fr->∀v∈l,v.1=.fr
 |[],_,v,h=>by simp at h
 | (m,t) :: r,e,v,h=>by
  have d:m.join (cJ r)=.fr:=e;have g:m=.fr:=by
   revert d;cases m<;>cases cJ r<;>simp[Md.join]
  have f:cJ r=.fr:=by
   revert d;cases m<;>cases cJ r<;>simp[Md.join]
  rcases Zp.mp h with rfl | h
  ·exact g
  ·exact kQ f v h
theorem km:∀{l:Wj},cJ l ≠ .bo->∀v∈l,v.1 ≠ .bo
 |[],_,v,h=>by simp at h
 | (m,t) :: r,e,v,h=>by
  have d:m.join (cJ r) ≠ .bo:=e;have g:m ≠ .bo:=by
   revert d;cases m<;>cases cJ r<;>simp[Md.join]
  have f:cJ r ≠ .bo:=by
   revert d;cases m<;>cases cJ r<;>simp[Md.join]
  rcases Zp.mp h with rfl | h
  ·exact g
  ·exact km f v h
theorem uP:∀{l:Wj}{d:Xl},l.length=d.length->(∀v∈l,v.1=.fr)->HU l d=d.flatten
 |[],[],_,_=>rfl
 |[],_ :: _,h,_=>by simp at h
 |_ :: _,[],h,_=>by simp at h
 |v :: l,F :: d,h,q=>by
  unfold HU;rw[q v Zv,uP (by simpa using h) λu f=>q u (Zw _ f)];rfl
def gf{x:KM}{d:Xl}(h:x∈d.flatten):∃(i:Nat)(F:Xa),d[i]?=Z F/\x∈F:=by
 obtain⟨F,j,f⟩:=Wu.mp h;obtain⟨i,g⟩:=List.mem_iff_getElem?.mp j;exact⟨i,F,g,f⟩
def Lw.join{M:GV}{U:VS.Env}{H:Hp}{l:Wj}{j:Xl}(f:Lw M U H l j)(n:l.length=j.length):Fp M U H (cJ l) j.flatten:=by
 have at':∀x∈j.flatten,∃v F,v∈l/\x∈F/\Fp M U H v.1 F:=λx d=>by
  obtain⟨i,F,m,g⟩:=gf d;have:i<l.length:=by
   have:=(Zf.mp m).1;lia
  exact⟨l[i],F,Yy this,g,f.each i _ F (Zr this) m⟩
 cases e:cJ l with
 |fr =>
  have al:=kQ e;refine⟨by rw[← uP n al];exact f.nd,λx d=>?_⟩;obtain⟨v,F,h,g,q⟩:=at' x d;rw[al v h]at q;exact q.2 x g
 |pu =>
  have al:=km (l:=l) (by rw[e];decide);intro x d;obtain⟨v,F,h,g,q⟩:=at' x d;exact Fp.pu (al v h) q x g
 |bo =>
  intro x d;obtain⟨v,F,h,g,q⟩:=at' x d;exact q.bo x g
structure Args(G:Gx)(M:GV)(U:VS.Env)(H0 H:Hp)(l:Wj)(vs:List V)(Fs:Xl):Prop where
 same:aC H0 H
 rp:RpL G H vs (trees l) Fs
 fp:Lw M U H0 l Fs
theorem Args.len{M:GV}{U:VS.Env}{g H:Hp}{l:Wj}{f:List V}{d:Xl}(A:Args G M U g H l f d):l.length=d.length:=by
 have:=A.rp.len.2;simp[trees]at this;exact Eq.symm this
def fF(G:Gx)(r:List V->Hp->VK->Prop)(f:Wj->Wi):Prop:=∀(M:GV)(U:VS.Env)(h H:Hp)(l:Wj)(g:List V)(i:Xl)(m:Md)(t:T)(Q:VK),Args G M U h H l g i->f l=Z (m,t) →
 (∀v d F,aC H d->Rp G d v t F->Fp M U h m F->Q v d)->r g H Q
def BV{r:List V->Hp->VK->Prop}{f:Wj->Wi}(h:fF G r f){J:L2.St}{H:Hp}{Q:VK}{U:VS.Env}{M:GV}{l:Wj}{m:Md}{t:T}(s:SR G M U J H)(i:cs U=Z l)(e:f l=Z (m,t))(k:∀v d F,aC H d->Rp G d v t F->Fp M U H m F->Q v d):Ni G cs J H λg n=>r g n Q :=
 ⟨M,U,l,s,i,λg d o e1 r1 f1=>h M U H d l g o m t Q ⟨e1,r1,f1⟩ e λv j F e2 r2 f2=>k v j F (e1.trans e2) r2 f2⟩
def kS{r:List V->Hp->VK->Prop}{f:Wj->Wi}{d:String}{x:Str}(q:d6 X (.builtin d) r)(g:fF G r f)(o:Gl X x)(n:X.mg x=L)(h:bootBuiltins x=Z (.builtin d))(u:HI G X (e :: es) cs)(j:x ≠ "__name__" := by decide)(w:K3 x:=by decide)(he:K1 e es X:=by rfl)(hpl:K2 pos es X:=by rfl):PV G X (.Call (.Name x p) (e :: es) [] pos) (eN f cs) :=
 PE.weak (rA q o n h u j w he hpl) λJ H Q i=>by
  obtain⟨M,U,m,t,s,e,k⟩:=i;unfold eN at e;obtain⟨l,v,e⟩:=Zz.mp e;exact BV g s v e k
def jh{r:List V->Hp->VK->Prop}{f:Wj->Wi}{Ty:String}{x:Str}(o:d6 X (.type Ty) r)(d:fF G r f)(n:Gl X x)(j:X.mg x=L)(g:bootBuiltins x=Z (.type Ty))(q:HI G X (e :: es) cs)(i:x ≠ "__name__" := by decide)(v:K3 x:=by decide)(he:K1 e es X:=by rfl)(hpl:K2 pos es X:=by rfl):PV G X (.Call (.Name x p) (e :: es) [] pos) (eN f cs) :=
 PE.weak (o6 o n j g q i v he hpl) λJ H Q h=>by
  obtain⟨M,U,m,t,s,e,k⟩:=h;unfold eN at e;obtain⟨l,u,e⟩:=Zz.mp e;exact BV d s u e k
def cI(h:HI G X es cs):PV G X (.List es pos) (dm cs):=PE.weak (wY h) λJ H Q f=>by
 obtain⟨M,U,m,t,s,e,k⟩:=f;unfold dm at e;obtain⟨l,i,e⟩:=Zz.mp e;refine⟨M,U,l,s,i,λd n o e1 r1 f1=>?_⟩;have A:Args G M U H n l d o:=⟨e1,r1,f1⟩
 obtain⟨_,g,_⟩:=qi e;refine⟨by rw[r1.len.1,← fg];exact g,je e1 e r1 (f1.join A.len) λv j F e2 r2 f2=>k v j F (e1.trans e2) r2 f2⟩
def jH{x1}(h:HI G X es cs):PV G X (.Tuple es x1 pos) (ka cs):=PE.weak (D1 h) λJ H Q d=>by
 obtain⟨M,U,m,t,s,e,k⟩:=d;unfold ka at e;obtain⟨l,n,e⟩:=Zz.mp e;refine⟨M,U,l,s,n,λf g i e1 r1 f1=>?_⟩;have A:Args G M U H g l f i:=⟨e1,r1,f1⟩
 unfold rh at e;split at e
 ·rename_i j;cases e;refine⟨by rw[r1.len.1,← fg,trees,Zu];exact j,λq d=>?_⟩;have r2:Rp G (upd g q (.tup f)) (.ref q) (.tup (trees l)) i.flatten:=.tup au (r1.same (br d));exact k _ _ _ (e1.trans (br d)) r2 (Fp.up (f1.join A.len) r2)
 ·cases e
def AN{H:Hp}{v:V}{t:T}{F:Xa}{k:Bool}(r:Rp G H v t F)(h:Lj t=Z k):C5 G.K v H k:=by
 cases r with
 |non=>cases h;rfl
 |bl b=>cases h;rfl
 |int i=>cases h;rfl
 |str s j =>
  cases h;refine⟨by rw[de,← fg];exact j.1,?_⟩;rw[de];cases s with
  |nil=>rfl
  |cons a r =>
   have:((List.length (a :: r):Int) != 0)=B:=by simp;lia
   rw[this];rfl
 |scr d=>cases h
 |tup d q =>
  cases h;refine .inr (.inl ⟨_,HN.of d,?_⟩);have:=q.len.1;rename_i f g _;cases f<;>cases g<;>simp_all
 |lst d q =>
  cases h;refine .inl ⟨_,GW.of d,?_⟩;have:=q.len.1;rename_i f g _;cases f<;>cases g<;>simp_all
 |dct d j q =>
  cases h;refine .inr (.inr ⟨_,d,?_⟩);have:=q.len.1;rename_i l f g _;cases l<;>cases f<;>cases g<;>simp_all
 |dctT d j q=>cases h
 |dctN d j n q=>cases h
 |dctZ _ _ _=>cases h
 |exc _ _=>cases h
 |ins _ _ _ _=>cases h
 |mk _ _=>cases h
def pC(h:PV G X a ca)(f:X.K=G.K:=by rfl)(d:∀whole,isTrue a X.env whole=(do let v ← whole;standAt a.pos;holding [v] (truthy v)):=by intro _;rfl):Ip G X a ca :=
 PT.weak (xJ h d) λJ H Q ⟨M,U,m,r,b,s,e,g,k⟩=>⟨M,U,m,r,s,e,λv i F e1 r1 f1=>⟨b,by rw[f];exact AN r1 g,k i e1⟩⟩
def JW(G:Gx)(X:Cx)(e:Expr)(c:Ex):Prop:=PW X e (tT G c)
def PW.weak{X:Cx}{e:Expr}{t f:TT}(h:PW X e t)(w:∀J H Q,f J H Q->t J H Q):PW X e f:=λg d s J H Q I q=>h g d s J H Q I (w J H Q q)
def JW.LG(h:JW G X e ca):Ip G X e ca:=PW.pt h
variable{rest:List Expr}
def qG{U:VS.Env}{m:Md}{r:T}(e:jG ca cb U=Z (m,r)):(∃n,ca U=Z (n,.bl B)/\cb U=Z (m,r))\/(∃n,ca U=Z (n,.bl R)/\m=.fr/\r=.bl R):=by
 unfold jG at e;obtain⟨⟨n,x⟩,d,e⟩:=Zz.mp e;split at e
 ·rename_i h;cases (show x=.bl B from h);exact .inl ⟨n,d,e⟩
 ·rename_i h;cases (show x=.bl R from h);cases e;exact .inr ⟨n,d,rfl,rfl⟩
 ·cases e
def Ai{U:VS.Env}{m:Md}{r:T}(e:KD ca cb U=Z (m,r)):(∃n,ca U=Z (n,.bl R)/\cb U=Z (m,r))\/(∃n,ca U=Z (n,.bl B)/\m=.fr/\r=.bl B):=by
 unfold KD at e;obtain⟨⟨n,x⟩,d,e⟩:=Zz.mp e;split at e
 ·rename_i h;cases (show x=.bl B from h);cases e;exact .inr ⟨n,d,rfl,rfl⟩
 ·rename_i h;cases (show x=.bl R from h);exact .inl ⟨n,d,e⟩
 ·cases e
def mH(j:Ip G X a ca)(i:JW G X (.BoolOp .And (b :: rest) pos) cb):JW G X (.BoolOp .And (a :: b :: rest) pos) (jG ca cb) :=
 PW.weak (yn j i) λJ H Q h=>by
  obtain⟨M,U,m,r,k,s,e,f,q⟩:=h;rcases qG e with⟨n,d,e2⟩ | ⟨n,d,rfl,rfl⟩
  ·refine⟨M,U,n,_,B,s,d,rfl,λg e1=>?_⟩;refine vU ?_;exact⟨M,U,m,r,k,s.same e1,e2,f,λl e2=>q l (e1.trans e2)⟩
  ·refine⟨M,U,n,_,R,s,d,rfl,λg e1=>?_⟩;refine wg ?_;cases f;exact q g e1
def jW(j:Ip G X a ca)(i:JW G X (.BoolOp .Or (b :: rest) pos) cb):JW G X (.BoolOp .Or (a :: b :: rest) pos) (KD ca cb) :=
 PW.weak (En j i) λJ H Q h=>by
  obtain⟨M,U,m,r,k,s,e,f,q⟩:=h;rcases Ai e with⟨n,d,e2⟩ | ⟨n,d,rfl,rfl⟩
  ·refine⟨M,U,n,_,R,s,d,rfl,λg e1=>?_⟩;refine wg ?_;exact⟨M,U,m,r,k,s.same e1,e2,f,λl e2=>q l (e1.trans e2)⟩
  ·refine⟨M,U,n,_,B,s,d,rfl,λg e1=>?_⟩;refine vU ?_;cases f;exact q g e1
def rZ{U:VS.Env}{m:Md}{r:T}(e:oF ca U=Z (m,r)):∃n b,ca U=Z (n,.bl b)/\m=.fr/\r=.bl (!b):=by
 unfold oF at e;obtain⟨⟨n,x⟩,d,e⟩:=Zz.mp e;split at e
 ·rename_i b h;cases (show x=.bl b from h);cases e;exact⟨n,b,d,rfl,rfl⟩
 ·cases e
def mL(f:Ip G X a ca):Ip G X (.UnaryOp .Not a pos) (oF ca):=PT.weak (yW f) λJ H Q d=>by
 obtain⟨M,U,m,r,k,s,e,g,q⟩:=d;obtain⟨n,b,h,rfl,rfl⟩:=rZ e;cases g;exact⟨M,U,n,_,b,s,h,rfl,λi e1=>q i e1⟩
def CO(f:PV G X a ca):PV G X (.UnaryOp .Not a pos) (oF ca):=PE.weak (Cn f) λJ H Q d=>by
 obtain⟨M,U,m,r,s,e,q⟩:=d;obtain⟨n,b,g,rfl,rfl⟩:=rZ e;exact⟨M,U,n,_,s,g,λv h F e1 r1 f1=>⟨b,r1.Hz,q _ h _ e1 (.bl _) Fp.nil⟩⟩
def Cj{op}(h:PV G X a ca):PV G X (.BoolOp op [a] pos) ca:=C7 h
def CL(i:PV G X a ca)(h:PV G X (.BoolOp .And (b :: rest) pos) cb):PV G X (.BoolOp .And (a :: b :: rest) pos) (jG ca cb) :=
 PE.weak (Cm i h) λJ H Q g=>by
  obtain⟨M,U,m,r,s,e,q⟩:=g;rcases qG e with⟨n,d,e2⟩ | ⟨n,d,rfl,rfl⟩
  ·refine⟨M,U,n,_,s,d,λv f F e1 r1 f1=>⟨B,r1.Hz,?_⟩⟩;refine vU ?_;exact⟨M,U,m,r,s.same e1,e2,λv j F e2 r2 f2=>q v j F (e1.trans e2) r2 (f2.back e1)⟩
  ·refine⟨M,U,n,_,s,d,λv f F e1 r1 f1=>⟨R,r1.Hz,?_⟩⟩;refine wg ?_;exact q _ f _ e1 (.bl _) Fp.nil
def uK{H:Hp}{v:V}{t:T}{F:Xa}(r:Rp G H v t F):decide (v=.non)=MH t:=by
 cases r<;>simp[MH]
def BP{t:TE}{c:Ex}{J:L2.St}{H:Hp}{Q:Bool->Hp->Prop}(h:tT G c J H Q)(f:∀U m r,c U=Z (m,r)->∃b,r=.bl b)(w:∀Q,tE G c J H Q->t J H Q):tB t J H Q:=by
 obtain⟨M,U,m,r,b,s,e,d,k⟩:=h;refine w _ ⟨M,U,m,r,s,e,λv j F e1 r1 f1=>?_⟩;obtain⟨i,g⟩:=f U m r e;rw[g]at d r1;cases (show Z i=Z b from d);exact⟨_,r1.Hz,k j e1⟩
end
section
variable{G:Gx}{X:Cx}{a b c e:Expr}{es:List Expr}{ca cb cc:Ex}{cs:Hf}{pos p:Pos}
def RpL.one{H:Hp}{vs:List V}{t:T}{Fs:Xl}(r:RpL G H vs [t] Fs):∃v F,vs=[v]/\Fs=[F]/\Rp G H v t F:=by
 cases r with
 |cons r q=>cases q;exact⟨_,_,rfl,rfl,r⟩
def RpL.two{H:Hp}{g:List V}{t h:T}{i:Xl}(r:RpL G H g [t,h] i):∃v d F f,g=[v,d]/\i=[F,f]/\Rp G H v t F/\Rp G H d h f:=by
 cases r with
 |cons r q =>
  obtain⟨d,f,rfl,rfl,j⟩:=q.one;exact⟨_,_,_,_,rfl,rfl,r,j⟩
def E5(K:Xk):List V->Hp->VK->Prop:=λd H Q=>(∃x n,d=[x]/\FJ K x H n/\Q (.int n) H)\/(∃a f,d=[V.ref a]/\H a=Z (.dK f)/\Q (.int f.length) H)
def sQ:d6 X (.builtin "len") (λf H Q=>∃a d,f=[V.ref a]/\H a=Z (.dK d)/\Q (.int d.length) H):=by
 intro g s J H f m Q I r h;obtain⟨a,d,rfl,j,q⟩:=h;obtain⟨u,rfl,i⟩:=vals1 r;cases i;exact E4 I (.inl j) λt n l=>⟨.int d.length,H,l,⟨t,rfl⟩,q⟩
def wk:d6 X (.builtin "len") (E5 X.K):=wW.or sQ
def Cd:fF G (E5 G.K) bP:=by
 intro M U D H l j o m t Q A e k;refine L2.jy λC f=>?_;unfold bP at e;split at e
 ·rename_i x;obtain⟨y,x⟩:=x;obtain⟨n,d,e⟩:=Zy.mp e;cases e;obtain⟨v,F,rfl,rfl,r⟩:=(show RpL G H j [x] o from A.rp).one;have fin:Q (.int (n:Int)) H:=bx k (.int _);cases r with
  |non=>cases d
  |bl b=>cases d
  |int i=>cases d
  |str s g =>
   cases d;refine f ?_;exact .inl ⟨_,_,rfl,⟨by rw[de,← fg];exact g.1,rfl⟩,by rw[de];exact fin⟩
  |scr h =>
   cases d;refine f ?_;refine .inl ⟨_,_,rfl,.inl ⟨_,h.seq,rfl⟩,?_⟩;rw[Zu];exact fin
  |tup h q =>
   cases d;refine f ?_;refine .inl ⟨_,_,rfl,.inr ⟨_,HN.of h,rfl⟩,?_⟩;rw[q.len.1];exact fin
  |lst h q =>
   cases d;refine f ?_;refine .inl ⟨_,_,rfl,.inl ⟨_,GW.of h,rfl⟩,?_⟩;rw[q.len.1];exact fin
  |dct h g q =>
   cases d;refine f ?_;refine .inr ⟨_,_,rfl,h,?_⟩;rename_i z u w _;have e1:=q.len.1;rw[Z7,Zu]at fin;rw[Z7,e1];exact fin
  |dctT h g q=>cases d
  |dctN h g n q=>cases d
  |dctZ _ _ _=>cases d
  |exc _ _=>cases d
  |ins _ _ _ _=>cases d
  |mk _ _=>cases d
 ·cases e
def A4:fF G (λd H Q=>∃i j,d=[.int i,.int j]/\Q (.int (if j<i then j else i)) H) qV:=by
 intro M U o H l f h m t Q A e k;unfold qV at e;split at e
 ·rename_i _ i _ j;cases e;obtain⟨v,n,F,q,rfl,rfl,r,g⟩:=(show RpL G H f [.int i,.int j] h from A.rp).two;exact⟨i,j,by rw[r.int_inv,g.int_inv],bx k (.int _)⟩
 ·cases e
def BX(K:Xk):List V->Hp->VK->Prop:=λf H Q=>∃p d,f=[.ref p]/\(GW K H p d\/HN K H p d)/\∀l,H l=L->Q (.ref l) (upd H l (.lst d))
def uZ:fF G (BX G.K) B7:=by
 intro M U r H l j n m t Q A e k;unfold B7 at e;split at e
 ·rename_i o x;obtain⟨v,F,rfl,rfl,g⟩:=(show RpL G H j [.lst x] n from A.rp).one;obtain⟨a,d,q,rfl,rfl,i,h⟩:=g.lst_inv;have f:=A.fp.each 0 _ _ Y Y;exact⟨a,d,rfl,.inl (GW.of i),je A.same e h (f.sub (Yw _ _)) k⟩
 ·rename_i o x;obtain⟨v,F,rfl,rfl,g⟩:=(show RpL G H j [.tup x] n from A.rp).one;obtain⟨a,d,q,rfl,rfl,i,h⟩:=g.HX;have f:=A.fp.each 0 _ _ Y Y;exact⟨a,d,rfl,.inr (HN.of i),je A.same e h f k⟩
 ·cases e
def tO(G:Gx)(c:Option Ex):TO:=λJ H Q=>∃M U o,SR G M U J H/\o7 c U=Z o/\∀d,aC H d->Q o d
def PD(G:Gx)(X:Cx)(e:Option Expr)(c:Option Ex):Prop:=PO X e (tO G c)
def PO.weak{X:Cx}{e:Option Expr}{t f:TO}(h:PO X e t)(w:∀J H Q,f J H Q->t J H Q):PO X e f:=λd s J H Q I q=>h d s J H Q I (w J H Q q)
def oo:PD G X L L:=PO.weak uG λJ H Q d=>by
 obtain⟨M,U,o,s,e,k⟩:=d;cases (show Z (L:Option Int)=Z o from e);exact k H (aC.refl _)
def gh(h:PV G X a ca):PD G X (Z a) (Z ca):=PO.weak (vg h) λJ H Q f=>by
 obtain⟨M,U,o,s,e,k⟩:=f;obtain⟨⟨m,y⟩,g,e⟩:=Zz.mp (show (ca U).bind (λy=>(int? y.2).map Z)=Z o from e);obtain⟨i,d,e⟩:=Zy.mp e;cases e;refine⟨M,U,m,y,s,g,λv l F e1 r1 f1=>?_⟩;cases y with
 |int j =>
  cases d;exact⟨_,r1.int_inv,k l e1⟩
 |_=>cases d
def lG{α:Type}(l:List α)(d f:Option Int):cut l d f=(l.drop (HT.HC l.length 0 d)).take (HT.HC l.length l.length f-HT.HC l.length 0 d):=by
 unfold cut;cases d<;>cases f<;>rfl
def yj(d f:Option Int)(n:Nat):Builtin.Str.strSliceIndices d f 1 n=Builtin.Str.strSliceIndices (Z ((min (HT.HC n 0 d) n:Nat):Int)) (Z ((min (HT.HC n n f) n:Nat):Int)) 1 n:=by
 have e1:∀k:Nat,¬((k:Int)<0):=λk=>by lia
 unfold Builtin.Str.strSliceIndices;simp only[show (1:Int) > 0 by decide,if_true,e1,if_false];congr 1
 ·cases d with
  |none=>simp only[HT.HC];lia
  |some i =>
   simp only[HT.HC];by_cases h:i<0
   ·simp only[h,if_true];lia
   ·simp only[h,if_false];lia
 ·cases f with
  |none=>simp only[HT.HC];lia
  |some i =>
   simp only[HT.HC];by_cases h:i<0
   ·simp only[h,if_true];lia
   ·simp only[h,if_false];lia
def jx(s:Tx)(d f:Option Int):PySem.StrLaws.sliceText (sx s) d f=sx (cut s d f):=by
 have key:PySem.StrLaws.sliceText (sx s) d f=PySem.StrLaws.sliceText (sx s) (Z ((min (HT.HC s.length 0 d) s.length:Nat):Int)) (Z ((min (HT.HC s.length s.length f) s.length:Nat):Int)):=by
  unfold PySem.StrLaws.sliceText;rw[de,yj]
 rw[key];have hd:∀a:Nat,s.drop (min a s.length)=s.drop a:=λa=>by
  by_cases h:a<=s.length
  ·rw[Yb h]
  ·rw[Ww (by exact Xp h),YI (Zj _),YI (by exact Xp h)]
 by_cases h:min (HT.HC s.length 0 d) s.length<=min (HT.HC s.length s.length f) s.length
 ·rw[PySem.StrLaws.sliceText_nat (sx s) h (by rw[de];exact Nat.min_le_right _ _),lG];show (⟨_⟩:Str)=⟨_⟩;congr 2;show ((sx s).cps.toList.drop _).take _=_;have:(sx s).cps.toList=s:=rfl;rw[this,hd];by_cases i:HT.HC s.length 0 d<=s.length
  ·rw[Yb i];by_cases g:HT.HC s.length s.length f<=s.length
   ·rw[Yb g]
   ·rw[Ww (by exact Xp g),Y9 (by rw[YW];exact Zj _),Y9 (by rw[YW];lia)]
  ·rw[YI (by exact Xp i)];simp
 ·have j:cut s d f=[]:=by
   rw[lG];have:HT.HC s.length s.length f-HT.HC s.length 0 d=0:=by omega
   rw[this,List.take_zero]
  rw[j];unfold PySem.StrLaws.sliceText;have e2:Builtin.Str.strSliceIndices (Z ((min (HT.HC s.length 0 d) s.length:Nat):Int)) (Z ((min (HT.HC s.length s.length f) s.length:Nat):Int)) 1 (sx s).length=[]:=by
   have e1:∀k:Nat,¬((k:Int)<0):=λk=>by lia
   unfold Builtin.Str.strSliceIndices sliceRange;simp only[show (1:Int) > 0 by decide,if_true,e1,if_false,de];rw[Zn (by omega)];rfl
  rw[e2];have:¬((1:Int)==1&&([]:Wq).length==(sx s).length)=B:=by
   rw[de];simp;lia
  rw[Zn this];rfl
def FA:V->Option Int->Option Int->Hp->VK->Prop:=λx lo d H Q=>∃z,x=.str z/\z.length<=KF/\Q (.str (PySem.StrLaws.sliceText z lo d)) H
def part_of{v:On}{o:Option Int}(h:IsPart v o):∃q:Option (Int×Tok),v=partValue q/\o=q.map (·.1):=by
 cases h with
 |none=>exact⟨L,rfl,rfl⟩
 |int i t=>exact⟨Z (i,t),rfl,rfl⟩
def pZ{α β:Type}(f:α->Option β)(l:List α):(l.filterMap f).length<=l.length:=List.length_filterMap_le f l
def zQ(d f:Option Int)(n:Nat):(Builtin.Str.strSliceIndices d f 1 n).length<=n:=by
 rw[yj];by_cases h:min (HT.HC n 0 d) n<=min (HT.HC n n f) n
 ·rw[PySem.StrLaws.strSliceIndices_plain h (by exact Nat.min_le_right _ _),Zu,ZI];lia
 ·have e1:∀k:Nat,¬((k:Int)<0):=λk=>by lia
  unfold Builtin.Str.strSliceIndices sliceRange;simp only[show (1:Int) > 0 by decide,if_true,e1,if_false];rw[Zn (by omega)];simp
def zz:Mo X FA:=by
 intro f s J H x v o n lo w r Q I g m i pu h;obtain⟨z,rfl,j,q⟩:=h;obtain⟨t,rfl⟩:=g;obtain⟨l,rfl,rfl⟩:=part_of i;obtain⟨u,rfl,rfl⟩:=part_of pu;refine⟨"str",_,F.slot_str_getitem.lookup,typeIs_str s z t,wpAny_getItem_str_slice (l:=l) (u:=u) (st:=L) m Y ?_⟩;unfold sliceMade;split
 ·rename_i d;refine⟨.str z,H,I,⟨t,rfl⟩,?_⟩;have e:PySem.StrLaws.sliceText z (l.map (·.1)) (u.map (·.1))=z:=by
   unfold PySem.StrLaws.sliceText;exact Zq d
  rw[e]at q;exact q
 ·rename_i d;refine⟨ZJ ?_ j,.str _,H,I.tok _,⟨_,rfl⟩,?_⟩
  ·show (List.filterMap _ _).toArray.size<=_;rw[ZZ];exact ZJ (pZ _ _) (zQ _ _ _)
  ·have e:PySem.StrLaws.sliceText z (l.map (·.1)) (u.map (·.1))=⟨((slicePicked z l u L).filterMap (z.cps[·]?)).toArray⟩:=by
    unfold PySem.StrLaws.sliceText;exact Zn d
   rw[e]at q;exact q
def UB(K:Xk):V->Option Int->Option Int->Hp->VK->Prop:=λx lo d H Q=>FA x lo d H Q\/FY K x lo d H Q
def Gr:Mo X (UB X.K):=zz.or zY
def vn{α:Type}(l:List α)(d f:Option Int):(cut l d f).length<=l.length:=by
 rw[lG,Ym,YW];lia
theorem RpL.cut{H:Hp}{g:List V}{i:Wh}{j:Xl}(r:RpL G H g i j)(d f:Option Int):RpL G H (wb g d f) (VS.cut i d f) (VS.cut j d f):=by
 have h:=r.len;rw[lG,lG,h.2];unfold wb;rw[h.1];exact(r.drop _).take _
def pQ{α:Type}(l:List α)(d f:Option Int):(VS.cut l d f).Sublist l:=by
 rw[lG];exact(List.take_sublist _ _).trans (List.drop_sublist _ _)
def yw{F G:Xl}(h:F.Sublist G):F.flatten.Sublist G.flatten:=by
 induction h with
 |slnil=>exact Xy _
 |cons a _ d=>rw[ZW];exact d.trans (YT _ _)
 |cons_cons a _ d=>rw[ZW,ZW];exact(Xy _).append d
def iY{j n:Option Expr}{u w:Option Ex}{N:Pos}(ha:PV G X a ca)(d:PD G X j u)(Y:PD G X n w)(hK:X.K=G.K:=by rfl):PV G X (.Subscript a (.Slice j n L N) pos) (Kc ca u w) :=
 PE.weak (so Gr ha d Y) λJ H Q S=>by
  obtain⟨M,U,m,t,s,e,k⟩:=S;unfold Kc at e;obtain⟨⟨O,x⟩,ea,r⟩:=Zz.mp e;obtain⟨l,el,y⟩:=Zz.mp r;obtain⟨h,eh,f⟩:=Zz.mp y;clear e r y;refine⟨M,U,O,x,s,ea,λv H1 F e1 r1 f1=>⟨M,U,l,s.same e1,el,λH2 e2=>⟨M,U,h,(s.same e1).same e2,eh,λA o=>?_⟩⟩⟩;have g:aC H A:=(e1.trans e2).trans o;have i:=(r1.same e2).same o;unfold SH at f;split at f
  ·rename_i P z q;cases q;cases f;obtain⟨rfl,d⟩:=i.str_inv;refine .inl ⟨_,rfl,by rw[de,← fg];exact d.1,?_⟩;rw[jx];exact k _ A _ g (.str _ ⟨ZJ (vn _ _ _) d.1,λc hc=>d.2 c ((pQ _ _ _).subset hc)⟩) Fp.nil
  ·rename_i P z q;cases q;obtain⟨a',C,Fs,rfl,rfl,GU,D⟩:=i.lst_inv;refine .inr ⟨a',C,rfl,by rw[hK];exact GW.of GU,je g f (D.cut l h) ((f1.sub (Yw _ _)).sub (yw (pQ _ _ _))) λv H4 F e5 E f4=>k v H4 F (g.trans e5) E f4⟩
  ·cases f
def Kr:Ty->String
 |.int => "int"
 |.str => "str"
 |.bool => "bool"
 |.list => "list"
 |.tuple => "tuple"
 |.dict => "dict"
def UC(K:Xk):List V->Hp->VK->Prop:=λd H Q=>∃x c t b,d=[x,.ty c]/\Ib K H x t/\PySem.W.kitOne K t (.type c)=Z b/\Q (.bl b) H
def AE:d6 X (.builtin "isinstance") (UC X.K):=by
 intro d s J H f i Q I r h;obtain⟨x,c,t,b,rfl,ty,e,q⟩:=h;obtain⟨u,g,rfl,r1,r2⟩:=vals2 r;cases r2;exact vI I r1 ty e λj=>⟨.bl b,H,I.tok _,rfl,q⟩
def A3(K:Xk)(d:Ty):(PySem.W.kitOne K (.type "NoneType") (.type (Kr d))=Z R)/\(PySem.W.kitOne K (.type "bool") (.type (Kr d))=Z (qP d (.bl B)))/\(PySem.W.kitOne K (.type "int") (.type (Kr d))=Z (qP d (.int 0))) ∧
  (PySem.W.kitOne K (.type "str") (.type (Kr d))=Z (qP d (.str [])))/\(PySem.W.kitOne K (.type "list") (.type (Kr d))=Z (qP d (.lst [])))/\(PySem.W.kitOne K (.type "tuple") (.type (Kr d))=Z (qP d (.tup [])))/\(PySem.W.kitOne K (.type "dict") (.type (Kr d))=Z (qP d (.dct 0 []))):=by
 cases d<;>refine⟨?_,?_,?_,?_,?_,?_,?_⟩<;>kernel_rfl
def Ew{H:Hp}{v:V}{t:T}{F:Xa}(d:Ty)(r:Rp G H v t F)(h:uU t=B):∃g,Ib G.K H v g/\PySem.W.kitOne G.K g (.type (Kr d))=Z (qP d t):=by
 obtain⟨y,x,w,u,o,m,j⟩:=A3 G.K d;cases r with
 |non=>exact⟨_,.non,by rw[y];cases d<;>rfl⟩
 |bl b=>exact⟨_,.bl b,by rw[x];cases d<;>rfl⟩
 |int i=>exact⟨_,.int i,by rw[w];cases d<;>rfl⟩
 |str s _=>exact⟨_,.str _,by rw[u];cases d<;>rfl⟩
 |scr _=>cases h
 |tup f q=>exact⟨_,.tup f,by rw[m];cases d<;>rfl⟩
 |lst f q=>exact⟨_,.lst f,by rw[o];cases d<;>rfl⟩
 |dct f l q=>exact⟨_,.dK f,by rw[j];cases d<;>rfl⟩
 |dctT f l q=>exact⟨_,.dT f,by rw[j];cases d<;>rfl⟩
 |dctN f l n q=>simp at h
 |dctZ _ _ _=>cases h
 |exc _ _=>cases h
 |ins _ _ _ _=>cases h
 |mk _ _=>cases h
def E9(f:Ty){x:Str}{n d:Pos}(C:PV G X a ca)(A:Gl X "isinstance")(w:X.mg "isinstance" = L)(O:Gl X x)(P:X.mg x=L)(q:bootBuiltins x=Z (.type (Kr f)))(j:X.K=G.K:=by rfl)(u:x ≠ "__name__" := by decide)(S:K3 x:=by decide)(i:Pv [a,.Name x d] X.env=(R,eval a X.env) :: Pv [.Name x d] X.env:=by rfl)(HK:Pv [.Name x d] X.env=(R,eval (.Name x d) X.env) :: Pv [] X.env:=by rfl)(g:(backTo pos (Pv [Expr.Name x d] X.env)).any (·.1)=R:=by rfl) :
  PV G X (.Call (.Name "isinstance" n) [a,.Name x d] [] pos) (OG f ca) :=
 PE.weak (rA AE A w boot_isinstance (bA C (bA (zL (v:=.ty (Kr f)) O P q Y u S) dv HK) i) (by decide) Y i g) λJ H Q r=>by
  obtain⟨M,U,m,t,s,e,k⟩:=r;unfold OG at e;obtain⟨⟨o,y⟩,N,h⟩:=Zz.mp e;split at h
  ·rename_i z;cases h;refine⟨M,U,o,y,s,N,λv H' F e1 r1 f1=>?_⟩;obtain⟨l,E,D⟩:=Ew f r1 z;exact⟨v,Kr f,l,_,rfl,by rw[j];exact E,by rw[j];exact D,k _ H' _ e1 (.bl _) Fp.nil⟩
  ·cases h
end
section
variable{G:Gx}{X:Cx}{a b c e:Expr}{es:List Expr}{ca cb cc:Ex}{cs:Hf}{pos p:Pos}
def Cq(G:Gx)(r:V->List V->Hp->VK->Prop)(f:Val->Wj->Wi):Prop:=∀(M:GV)(U:VS.Env)(d i H:Hp)(x:Val)(v:V)(F:Xa)(l:Wj)(h:List V)(j:Xl)(m:Md)(t:T)(Q:VK),
 aC d i->Rp G H v x.2 F->Fp M U d x.1 F->Args G M U i H l h j->f x l=Z (m,t)->(∀v g F,aC H g->Rp G g v t F->Fp M U d m F->Q v g)->r v h H Q
def B1{n j:String}{d:Str}{r:V->List V->Hp->VK->Prop}{f:Val->Wj->Wi}{g i:Pos}(A:PlainAttrs n)(h:Slot n d j)(MK:typeOf (.builtin j)=pure (.type "method_descriptor"))(O:NA X j r)(C:Cq G r f)(S:∀H v (x:Val) F l z,Rp G H v x.2 F->f x l=Z z->Lz G.K n v H)(N:PV G X a ca)(P:HI G X (e :: es) cs)(Y:X.K=G.K:=by rfl)(G4:UV a d X.env (eval a X.env)=eval a X.env:=by rfl)(Hj:((backTo i (Pv (e :: es) X.env)).all (λx=>!x.1)&&(backToKw i (SC [] X.env)).all (λx=>x.1.isSome)
   && decide ((e :: es).length+([]:List Keyword).length+(if ([]:List Keyword).isEmpty then 0 else 1)<30))=B:=by rfl)(GZ:(g.endLine==i.line)=B:=by rfl)(D:K1 e es X:=by rfl)(GY:K2 i es X:=by rfl) :
  PV G X (.Call (.Attribute a d g) (e :: es) [] i) (eM f ca cs) :=
 PE.weak (rD A h MK O N P G4 Hj GZ D GY) λJ H Q E=>by
  obtain⟨M,U,m,t,s,e,k⟩:=E;unfold eM at e;obtain⟨x,ea,e'⟩:=Zz.mp e;obtain⟨l,el,o⟩:=Zz.mp e';refine⟨M,U,x.1,x.2,s,ea,λv q F e1 r1 f1=>⟨by rw[Y];exact S q v x F l _ r1 o,M,U,l,s.same e1,el,λu H2 Fs e2 r2 f2=>?_⟩⟩;exact C M U H q H2 x v F l u Fs m t Q e1 (r1.same e2) f1 ⟨e2,r2,f2⟩ o λw H3 F' e3 y f3=>k w H3 F' ((e1.trans e2).trans e3) y f3
def AA:∀(sep:Tx)(d:List Tx),Txt.join (sx sep) (d.map sx)=sx (dz sep d):=by
 intro sep d;have fold:∀(l:List Tx)(acc:Tx),(l.map sx).foldl (λacc p=>acc++(sx sep).cps++p.cps) acc.toArray=(l.foldl (λacc p=>acc++sep++p) acc).toArray:=by
  intro l
  induction l with
  |nil=>intro acc;rfl
  |cons x r f =>
   intro acc;rw[Zo,YQ,YQ,← f];congr 1;simp[sx]
 have g:∀(r:List Tx)(acc:Tx),r.foldl (λacc p=>acc++sep++p) acc=dz sep (acc :: r):=by
  intro r
  induction r with
  |nil=>intro acc;rfl
  |cons x r f =>
   intro acc;rw[YQ,f];cases r with
   |nil=>rfl
   |cons y r=>simp[dz]
 cases d with
 |nil=>rfl
 |cons x r =>
  show (⟨_⟩:Str)=⟨_⟩;congr 1;show ((r.map sx).foldl _ x.toArray)=_;rw[fold,g]
theorem qw{H:Hp}:∀{d:List V}{l:Wh}{g:Xl}{f:List Tx},RpL G H d l g->strs? l=Z f->d=f.map λs=>V.str (sx s)
 |_,_,_,_,.nil,e=>by cases e;rfl
 |_,_,_,_,.cons (t:=t) r q,e=>by
  cases t with
  |str s =>
   simp only[strs?]at e;obtain⟨h,e1,e2⟩:=Zy.mp e;subst e2;rw[qw q e1,r.str_inv.1];rfl
  |_=>cases e
theorem nK:∀{d:List Tx}{f:X3},aK (d.map λs=>V.str (sx s)) f->StrsAre f (d.map sx)
 |[],_,h=>by cases h;exact .nil
 |s :: d,_,h=>by
  cases h with
  |cons r q =>
   obtain⟨t,rfl⟩:=r;exact .cons _ _ (nK q)
def rJoin(K:Xk):V->List V->Hp->VK->Prop:=λx f H Q=>∃sep p d,x=.str (sx sep)/\f=[.ref p]/\GW K H p (d.map λs=>V.str (sx s))/\total d+d.length*sep.length<=16777216/\Q (.str (sx (dz sep d))) H
theorem vq:∀d:List Tx,((d.map sx).map (·.length)).sum=total d
 |[]=>rfl
 |s :: r=>by
  rw[Zo,Zo,YD,vq r,de];rfl
def uY:NA X "str.join" (rJoin X.K):=by
 intro d s J H x o v w Q I g n h;obtain⟨sep,p,f,rfl,rfl,l,m,q⟩:=h;obtain⟨t,rfl⟩:=g;obtain⟨u,rfl,i⟩:=vals1 n;cases i;obtain⟨z,r,j,A⟩:=I.list l;refine join_list j.isList (ys:=f.map sx) (by simpa using nK r) ?_ λy k=>⟨.str _,H,I.tok _,⟨_,by rw[AA]⟩,q⟩
 rw[vq,Zu,de];exact m
theorem jX(d:Tx):∀f:List Tx,(dz d f).length<=total f+f.length*d.length
 |[]=>by simp[dz,total]
 |[x]=>by simp[dz,total]
 |x :: y :: r=>by
  have:=jX d (y :: r);simp only[dz,total,Zt,Zi]at this ⊢;have e:(r.length+1+1)*d.length=(r.length+1)*d.length+d.length:=Nat.succ_mul _ _;lia
theorem jK(d:Tx):∀(f:List Tx)(c:Nat),c∈dz d f->c∈d\/∃s∈f,c∈s
 |[],c,h=>by simp[dz]at h
 |[x],c,h=>.inr ⟨x,Zv,h⟩
 |x :: y :: r,c,h=>by
  simp only[dz,Zd]at h;rcases h with (h | h) | h
  ·exact .inr ⟨x,Zv,h⟩
  ·exact .inl h
  ·exact(jK d (y :: r) c h).imp id λ⟨s,g,i⟩=>⟨s,Zw _ g,i⟩
theorem jQ{H:Hp}:∀{g:List V}{l:Wh}{h:Xl}{f:List Tx},RpL G H g l h->strs? l=Z f->∀s∈f,∀c∈s,c<1114112
 |_,_,_,_,.nil,e,s,d=>by cases e;simp at d
 |_,_,_,_,.cons (t:=t) r q,e,s,d=>by
  cases t with
  |str x =>
   simp only[strs?]at e;obtain⟨i,e1,e2⟩:=Zy.mp e;subst e2;rcases Zp.mp d with rfl | d
   ·exact r.str_inv.2.2
   ·exact jQ q e1 s d
  |_=>cases e
def zW:Cq G (rJoin G.K) jv:=by
 intro M U Y S H x v F l o D m t Q P r f A e k;unfold jv at e;split at e
 ·rename_i N sep O u;obtain⟨d,n,g⟩:=Zz.mp e;split at g
  ·rename_i i;cases g;obtain⟨J,F',rfl,rfl,s⟩:=(show RpL G H o [.lst u] D from A.rp).one;obtain⟨y,E,Gs,rfl,rfl,j,h⟩:=s.lst_inv;rw[qw h n]at j;refine⟨sep,y,d,r.str_inv.1,rfl,GW.of j,i,bx k (.str _ ⟨ZJ (jX sep d) i,λc w=>(jK sep d c w).elim (r.str_inv.2.2 c) λ⟨q,z,C⟩=>jQ h n q z c C⟩)⟩
  ·cases g
 ·cases e
def nN{H:Hp}{v:V}{t:T}{F:Xa}(r:Rp G H v t F)(h:∃s,t=.str s):Lz G.K "str" v H:=by
 obtain⟨s,rfl⟩:=h;rw[r.str_inv.1];rfl
def AY{d f:Pos}(i:PV G X a ca)(j:HI G X [e] cs)(g:X.K=G.K:=by rfl)(q:UV a "join" X.env (eval a X.env)=eval a X.env:=by rfl)(m:((backTo f (Pv [e] X.env)).all (λx=>!x.1)&&(backToKw f (SC [] X.env)).all (λx=>x.1.isSome)
   && decide ([e].length+([]:List Keyword).length+(if ([]:List Keyword).isEmpty then 0 else 1)<30))=B:=by rfl)(n:(d.endLine==f.line)=B:=by rfl)(h:K1 e [] X:=by rfl)(o:(backTo f (Pv [] X.env)).any (·.1)=R:=by rfl) :
  PV G X (.Call (.Attribute a "join" d) [e] [] f) (eM jv ca cs) :=
 B1 XW PySem.F.slot_str_join PySem.F.type_str_join (g ▸ uY) zW (λH v x F l z r e=>nN r (by
  unfold jv at e;split at e
  ·exact⟨_,rfl⟩
  ·cases e)) i j g q m n h o
def BQ:V->List V->Hp->VK->Prop:=λx d H Q=>∃z y,x=.str z/\d=[.str y]/\Q (.bl (Txt.endswith z y)) H
def Bs:NA X "str.endswith" BQ:=by
 intro d s J H x l v m Q I g j h;obtain⟨z,y,rfl,rfl,q⟩:=h;obtain⟨t,rfl⟩:=g;obtain⟨u,rfl,i⟩:=vals1 j;obtain⟨f,rfl⟩:=i;exact call_meets F.slot_str_endswith (typeIs_str s z t) F.entry_str_endswith (F.args_str_endswith_2 _ _) (gives_str_endswith z y t f).meets (show EP X d J Q _ s from⟨.bl _,H,I,rfl,q⟩)
def BE(s t:Tx):Txt.endswith (sx s) (sx t)=t.isSuffixOf s:=by
 unfold Txt.endswith;rw[XX,de,de];have e1:(sx s).cps.toList=s:=rfl;have e2:(sx t).cps.toList=t:=rfl;rw[e1,e2];rw[YE,Xh];simp only[XU,Ze,decide_eq_true_eq,beq_iff_eq];constructor
 ·rintro⟨g,f⟩;rw[Y9 (by rw[YW];omega)]at f;have d:=List.take_append_drop (s.length-t.length) s;rw[f]at d;exact⟨_,d⟩
 ·rintro⟨u,rfl⟩;simp
def An:Cq G BQ pb:=by
 intro M U s q H x v F l d h m t Q o r f A e k;unfold pb at e;split at e
 ·rename_i j z n y;cases e;obtain⟨i,u,rfl,rfl,g⟩:=(show RpL G H d [.str y] h from A.rp).one;refine⟨_,_,r.str_inv.1,by rw[g.str_inv.1],?_⟩;rw[BE];exact bx k (.bl _)
 ·cases e
end
end VS
end
section
namespace VS
@[simp] def IM(x y:Val):Wi:=match x.2 with
 |.dct 0 l=>if iG y.2 then (fD l y.2).map (sub x.1) else L
 |_=>aB x y
def flat:T->Bool
 |.non=>B
 |.bl _=>B
 |.int _=>B
 |.str _=>B
 |_=>R
@[simp] def lq(x y:Val):Wi:=match y.2 with
 |.dct 0 l=>if iG x.2 then Z (.fr,.bl (fD l x.2).isSome) else L
 |.lst l=>if flat x.2&&l.all flat then Z (.fr,.bl (l.any λy=>eqT y x.2)) else L
 |.tup l=>if flat x.2&&l.all flat then Z (.fr,.bl (l.any λy=>eqT y x.2)) else L
 |_=>L
@[simp] def dQ(x y:Val):Wi:=match lq x y with
 |some (_,.bl b)=>Z (.fr,.bl (!b))
 |_=>L
noncomputable def pm{α:Type}(f:T->Option (T×α)):List Ky->T->Option (T×α)
 |[],t=>f t
 |.fld k :: r,t=>match t with
  |.obj (c+1) (q :: fs)=>(fs.findIdx? λp=>p.1==k).bind λi=>(fs[i]?).bind λp=>(pm f r p.2).map λz=>(.obj (c+1) (q :: fs.set i (p.1,z.1)),z.2)
  |_=>L
 |.un :: r,t=>match t with
  |.obj 0 [(0,.bl true),(m,x)]=>(pm f r x).map λz=>(.obj 0 [(0,.bl B),(m,z.1)],z.2)
  |_=>L
 |.at k :: r,t=>match t with
  |.lst l=>match k with
   |.int i=>(HJ l.length i).bind λj=>(l[j]?).bind λx=>(pm f r x).map λz=>(.lst (l.set j z.1),z.2)
   |_=>L
  |.dct 0 l=>if iG k then (l.findIdx? λp=>eqT p.1 k).bind λi=>(l[i]?).bind λp=>(pm f r p.2).map λz=>(.dct 0 (l.set i (p.1,z.1)),z.2) else L
  |_=>L
end VS
end
section
namespace VS
open PySem PySem.Spec PyProof.Rows L2
section
variable{G:Gx}{X:Cx}{a b c e:Expr}{es:List Expr}{ca cb cc:Ex}{cs:Hf}{pos p:Pos}
mutual
def IJ:T->PyData
 |.non=>.none
 |.bl b=>.bool b
 |.int i=>.int i
 |.str s=>.str (sx s)
 |.tup l=>.tuple (nO l)
 |.lst l=>.list (nO l)
 |_=>.none
def nO:Wh->List PyData
 |[]=>[]
 |t :: r=>IJ t :: nO r
end
def Fm{s:Tx}(h:pP s):PyData.strOk (sx s)=B:=by
 unfold PyData.strOk sx;simp only[Array.all_eq_true,decide_eq_true_eq];intro i a;have:s.toArray[i]∈s:=by simp
 have:=h.2 _ this;simpa using this
def zc{s t:Tx}:(sx s==sx t)=(s==t):=by
 rw[YE,beq_iff_eq,beq_iff_eq];constructor
 ·intro h;have:(sx s).cps=(sx t).cps:=by rw[h]
  simpa[sx] using this
 ·intro h;rw[h]
mutual
theorem pF:∀(n k:Nat)(t u:T),HL n t=B->HL k u=B->PyData.eqv (IJ t) (IJ u)=eqT t u
 |n,k,t,u,b,a=>by
  cases t with
  |scr _=>cases n<;>simp at b
  |dct _ _=>cases n<;>simp at b
  |obj _ _=>cases n<;>simp at b
  |tup l =>
   cases n with
   |zero=>simp at b
   |succ n =>
    cases u with
    |tup r =>
     cases k with
     |zero=>simp at a
     |succ k =>
      simp only[IJ,PyData.eqv,eqT];exact m8 n k l r (by simpa using b) (by simpa using a)
    |scr _=>cases k<;>simp at a
    |dct _ _=>cases k<;>simp at a
    |obj _ _=>cases k<;>simp at a
    |_=>simp[IJ,PyData.eqv,eqT]
  |lst l =>
   cases n with
   |zero=>simp at b
   |succ n =>
    cases u with
    |lst r =>
     cases k with
     |zero=>simp at a
     |succ k =>
      simp only[IJ,PyData.eqv,eqT];exact m8 n k l r (by simpa using b) (by simpa using a)
    |scr _=>cases k<;>simp at a
    |dct _ _=>cases k<;>simp at a
    |obj _ _=>cases k<;>simp at a
    |_=>simp[IJ,PyData.eqv,eqT]
  |str s =>
   cases u with
   |str r=>simp only[IJ,PyData.eqv,eqT];exact zc
   |scr _=>cases k<;>simp at a
   |dct _ _=>cases k<;>simp at a
   |obj _ _=>cases k<;>simp at a
   |_=>simp[IJ,PyData.eqv,eqT]
  |_ =>
   cases u with
   |scr _=>cases k<;>simp at a
   |dct _ _=>cases k<;>simp at a
   |obj _ _=>cases k<;>simp at a
   |_=>simp[IJ,PyData.eqv,eqT]
theorem m8:∀(n k:Nat)(l r:Wh),(∀t∈l,HL n t=B)->(∀t∈r,HL k t=B)->PyData.eqvAll (nO l) (nO r)=uf l r
 |_,_,[],[],_,_=>rfl
 |_,_,[],_ :: _,_,_=>rfl
 |_,_,_ :: _,[],_,_=>rfl
 |n,k,t :: l,u :: r,d,b=>by
  simp only[nO,PyData.eqvAll,uf];rw[pF n k t u (d t Zv) (b u Zv),m8 n k l r (λx a=>d x (Zw _ a)) λx a=>b x (Zw _ a)]
end
def Rp.KP{H:Hp}{v:V}{d:Wh}{F:Xa}(r:Rp G H v (.tup d) F):∃b a e,v=.ref b/\H b=Z (.tup a)/\RpL G H a d e:=by
 cases r with
 |tup h q=>exact⟨_,_,_,rfl,h,q⟩
def Rp.KY{H:Hp}{v:V}{d:Wh}{F:Xa}(r:Rp G H v (.lst d) F):∃b a e,v=.ref b/\H b=Z (.lst a)/\RpL G H a d e:=by
 cases r with
 |lst h q=>exact⟨_,_,_,rfl,h,q⟩
theorem k8{H:Hp}{s:IR}{n:Nat}(f:∀{v:V}{t:T}{F:Xa}{u:On},Rp G H v t F->RelV v u->HL n t=B->∃b,Reads s.heap u (IJ t) b/\(IJ t).canLay0=B/\(IJ t).depth<=n):∀{d:List V}{a:Wh}{o:Xl}{e:X3},RpL G H d a o->aK d e->(∀t∈a,HL n t=B) →
  ∃b,ReadsAll s.heap e (nO a) b/\PyData.canLayAll0 (nO a)=B/\PyData.depthAll (nO a)<=n
 |_,_,_,_,.nil,r,_=>by cases r;exact⟨_,.nil,rfl,Ys _⟩
 |_,_,_,_,.cons p q,r,h=>by
  cases r with
  |cons r1 r2 =>
   obtain⟨b,j,i,w⟩:=f p r1 (h _ Zv);obtain⟨bs,m,l,x⟩:=k8 f q r2 λt g=>h t (Zw _ g);exact⟨_,.cons j m,by simp only[nO,PyData.canLayAll0,i,l,Bool.and_self],by simp only[nO,PyData.depthAll];lia⟩
def nG{h:SZ}{H:Hp}{v:V}{t:T}{F:Xa}{u:On}{n:Nat}(r:Rp G H v t F)(a:RelV v u)(d:flat t=B):∃e,Reads h u (IJ t) e/\(IJ t).canLay0=B/\(IJ t).depth<=n:=by
 cases r with
 |non=>cases a;exact⟨_,.none,rfl,Ys _⟩
 |bl b=>cases a;exact⟨_,.bool b,rfl,Ys _⟩
 |int i=>obtain⟨t,rfl⟩:=a;exact⟨_,.int i t,rfl,Ys _⟩
 |str s h=>obtain⟨t,rfl⟩:=a;exact⟨_,.str _ t,Fm h,Ys _⟩
 |_=>cases d
def kH{H:Hp}{d:Xo}{J:L2.St}{s:IR}(I:Inv X d J H s)(n:Nat):∀{v:V}{t:T}{F:Xa}{u:On},Rp G H v t F->RelV v u->HL n t=B->∃w,Reads s.heap u (IJ t) w/\(IJ t).canLay0=B/\(IJ t).depth<=n:=by
 induction n with
 |zero =>
  intro v t F u r a h;refine nG r a ?_;cases t<;>first | rfl | exact h
 |succ n x =>
  intro v t F u r a h;cases t with
  |tup l =>
   obtain⟨b,y,M,rfl,e,q⟩:=Rp.KP r;cases a;obtain⟨C,f,z,E⟩:=I.tuple (HN.of e);obtain⟨w,p,m,j⟩:=k8 x q f (by simpa using h);obtain⟨o,g,i,D,hd⟩:=z;exact⟨_,.tuple g i hd (by simpa using p),m,by simp only[IJ,PyData.depth];exact YM j⟩
  |lst l =>
   obtain⟨b,y,M,rfl,e,q⟩:=Rp.KY r;cases a;obtain⟨C,f,A,E⟩:=I.list (GW.of e);obtain⟨w,p,m,j⟩:=k8 x q f (by simpa using h);obtain⟨o,g,i,D,hd⟩:=A.isList;exact⟨_,.list g i hd (by simpa using p),m,by simp only[IJ,PyData.depth];exact YM j⟩
  |scr _=>simp at h
  |dct _ _=>simp at h
  |obj _ _=>simp at h
  |_=>exact nG r a Y
def A6(G:Gx)(a:Bool):R2:=λx y H Q=>∃t u F b,Rp G H x t F/\Rp G H y u b/\HL 60 t=B/\HL 60 u=B/\Q (.bl (if a then !eqT t u else eqT t u)) H
def jd{d:PyData}(h:d.canLay0=B)(a:d.depth<=60):SeqAt.shaped d=B:=by
 unfold SeqAt.shaped;rw[h,Bool.true_and];exact decide_eq_true (by lia)
def tF(g:X.A.units+64<cLine):OpR X (SL .Eq) (A6 G R):=by
 intro a s J H x y v u Q I f e h;obtain⟨t,w,F,r,r1,r2,d,b,q⟩:=h;obtain⟨p,o,n,m⟩:=kH I 60 r1 f d;obtain⟨bs,l,j,i⟩:=kH I 60 r2 e b;refine eq_dataH o l (jd n m) (jd j i) g ⟨.bl _,H,I,rfl,?_⟩;rw[pF 60 60 t w d b];exact q
def DZ(g:X.A.units+64<cLine):OpR X (SL .NotEq) (A6 G B):=by
 intro a s J H x y v u Q I f e h;obtain⟨t,w,F,r,r1,r2,d,b,q⟩:=h;obtain⟨p,o,n,m⟩:=kH I 60 r1 f d;obtain⟨bs,l,j,i⟩:=kH I 60 r2 e b;refine ne_dataH o l (jd n m) (jd j i) g ⟨.bl _,H,I,rfl,?_⟩;rw[pF 60 60 t w d b];exact q
def yh:fE G (A6 G R) oEq:=by
 intro M U b H x y u w f d m t Q a e k;unfold oEq at e;split at e
 ·rename_i h;cases e;exact⟨_,_,_,_,a.r1,a.r2,h.1,h.2,bx k (.bl _)⟩
 ·cases e
def FV:fE G (A6 G B) JM:=by
 intro M U b H x y u w f d m t Q a e k;unfold JM at e;split at e
 ·rename_i h;cases e;exact⟨_,_,_,_,a.r1,a.r2,h.1,h.2,bx k (.bl _)⟩
 ·cases e
def tells_eq:Tells oEq:=by
 intro x y m t e;unfold oEq at e;split at e<;>first | (cases e;exact⟨_,rfl⟩) | cases e
def zH:Tells JM:=by
 intro x y m t e;unfold JM at e;split at e<;>first | (cases e;exact⟨_,rfl⟩) | cases e
end
structure G1(M:GV)(U:VS.Env)(H:Hp)(M':GV)(U':VS.Env)(H':Hp):Prop where
 keep:∀a o,H a=some o->¬bK M U a->H' a=some o/\¬bK M' U' a
 G3:∀a,H a≠none->H' a≠none
 ow:∀a,bK M' U' a->bK M U a\/H a=none
 pu:∀a,cT M' U' a->cT M U a\/bK M U a\/H a=none
 kept:Kept H H'
theorem G1.refl(M:GV)(U:VS.Env)(H:Hp):G1 M U H M U H:=⟨λa o h n=>⟨h,n⟩,λ_ h=>h,λ_ h=>.inl h,λ_ h=>.inl h,Kept.refl H⟩
theorem G1.none{M g:GV}{U d:VS.Env}{H b:Hp}(f:G1 M U H g d b){a:KM}(h:b a=L):H a=L:=by
 cases e:H a with
 |none=>rfl
 |some o=>exact absurd h (f.G3 a (by rw[e];exact λz=>nomatch z))
theorem G1.trans{M e d:GV}{U U1 b:VS.Env}{H j i:Hp}(f:G1 M U H e U1 j)(g:G1 e U1 j d b i):G1 M U H d b i where
 keep:=λa o h n=>let ⟨m,l⟩:=f.keep a o h n;g.keep a o m l
 G3:=λa h=>g.G3 a (f.G3 a h)
 ow:=λa h=>by
  rcases g.ow a h with h | h
  ·exact f.ow a h
  ·exact .inr (f.none h)
 pu:=λa h=>by
  rcases g.pu a h with h | h | h
  ·exact f.pu a h
  ·rcases f.ow a h with h | h
   ·exact .inr (.inl h)
   ·exact .inr (.inr h)
  ·exact .inr (.inr (f.none h))
 kept:=f.kept.trans g.kept
def G1.same{M:GV}{U:VS.Env}{H b:Hp}(e:aC H b):G1 M U H M U b :=
 ⟨λa o h n=>⟨e a o h,n⟩,λa h z=>h (e.free z),λ_ h=>.inl h,λ_ h=>.inl h,Kept.of e⟩
def rG(M:GV)(U:VS.Env)(H:Hp):Md->Xa->Prop
 |.fr,F=>F.Nodup/\∀a∈F,H a=L\/bK M U a
 |_,F=>∀a∈F,H a=L\/cT M U a\/bK M U a
theorem rG.back{M e:GV}{U d:VS.Env}{H g:Hp}(f:G1 M U H e d g){F:Xa}:∀{m:Md},rG e d g m F->rG M U H m F
 |.fr,h=>⟨h.1,λa b=>(h.2 a b).elim (λz=>.inl (f.none z)) λz=>(f.ow a z).elim .inr .inl⟩
 |.pu,h=>λa b=>by
  rcases h a b with z | z | z
  ·exact .inl (f.none z)
  ·rcases f.pu a z with z | z | z
   ·exact .inr (.inl z)
   ·exact .inr (.inr z)
   ·exact .inl z
  ·exact(f.ow a z).elim (λz=>.inr (.inr z)) .inl
 |.bo,h=>λa b=>by
  rcases h a b with z | z | z
  ·exact .inl (f.none z)
  ·rcases f.pu a z with z | z | z
   ·exact .inr (.inl z)
   ·exact .inr (.inr z)
   ·exact .inl z
  ·exact(f.ow a z).elim (λz=>.inr (.inr z)) .inl
def Nx(G:Gx)(M:GV)(U:VS.Env)(H:Hp)(b:VS.Env)(k:L2.St->Hp->Prop):Prop:=∀d e a,SR G d b e a->G1 M U H d b a->k e a
def vw(G:Gx)(M:GV)(U:VS.Env)(H:Hp)(D:Ends):Out->Prop
 |.nx a=>Nx G M U H a D.nx
 |.bk a=>Nx G M U H a D.bk
 |.ct a=>Nx G M U H a D.ct
 |.rt v a=>∀u b F d e,SR G d a e b->G1 M U H d a b->Rp G b u v.2 F->rG M U H v.1 F->D.rt u b
def tS(G:Gx)(c:Sx):TS:=λD J H=>∃M U o,SR G M U J H/\c U=Z o/\vw G M U H D o
def PSV(G:Gx)(X:Cx)(a:Stmt)(c:Sx):Prop:=PS X a (tS G c)
def gD(G:Gx)(X:Cx)(a:List Stmt)(c:Sx):Prop:=IH X a (tS G c)
def PS.weak{X:Cx}{e:Stmt}{t b:TS}(h:PS X e t)(w:∀D J H,b D J H->t D J H):PS X e b:=λa s J H D I q=>h a s J H D I (w D J H q)
def IH.weak{X:Cx}{e:List Stmt}{t b:TS}(h:IH X e t)(w:∀D J H,b D J H->t D J H):IH X e b:=λa s J H D I q=>h a s J H D I (w D J H q)
theorem vw.back{G:Gx}{M j:GV}{U i:VS.Env}{H l:Hp}{D:Ends}(f:G1 M U H j i l):∀{o:Out},vw G M U H D o->vw G j i l D o
 |.nx e,h=>λa b d s g=>h a b d s (f.trans g)
 |.bk e,h=>λa b d s g=>h a b d s (f.trans g)
 |.ct e,h=>λa b d s g=>h a b d s (f.trans g)
 |.rt v e,h=>λu d F a b s g r q=>h u d F a b s (f.trans g) r (q.back f)
section
variable{G:Gx}{X:Cx}{st:Stmt}{NN:List Stmt}{c c1 c2:Sx}{pos:Pos}{e:Expr}{ce:Ex}
def bg:gD G X [] dF:=IH.weak Bg λD J H a=>by
 obtain⟨M,U,o,s,e,k⟩:=a;cases (show Z (Out.nx U)=Z o from e);exact k M J H s (G1.refl _ _ _)
def af(i:PSV G X st c1)(h:gD G X NN c2):gD G X (st :: NN) (ak c1 c2):=IH.weak (x5 i h) λD J H g=>by
 obtain⟨M,U,o,s,e,k⟩:=g;unfold ak at e;obtain⟨b,e1,e2⟩:=Zz.mp e;refine⟨M,U,b,s,e1,?_⟩;cases b with
 |nx a=>exact λj l m d f=>⟨j,a,o,d,e2,k.back f⟩
 |rt v a=>cases e2;exact k
 |bk a=>cases e2;exact k
 |ct a=>cases e2;exact k
def b7{t:Expr}{f:Ex}{a b:List Stmt}(i:Ip G X t f)(l:gD G X a c1)(j:gD G X b c2):PSV G X (.If t a b pos) (HH f c1 c2):=PS.weak (BZ i l j) λD J H h=>by
 obtain⟨M,U,o,s,e,k⟩:=h;unfold HH at e;obtain⟨⟨m,x⟩,n,e1⟩:=Zz.mp e;obtain⟨g,p,e2⟩:=Zz.mp e1;refine⟨M,U,m,x,g,s,n,p,λq d=>?_⟩;cases g with
 |true =>
  rw[Zq Y]at e2;exact vU ⟨M,U,o,s.same d,e2,k.back (G1.same d)⟩
 |false =>
  rw[Zn Zc]at e2;exact wg ⟨M,U,o,s.same d,e2,k.back (G1.same d)⟩
theorem Fp.ret{M:GV}{U:VS.Env}{H:Hp}{F:Xa}:∀{m:Md},Fp M U H m F->rG M U H (match m with | .bo=>.pu | m=>m) F
 |.fr,f=>⟨f.1,λa b=>.inl (f.2 a b)⟩
 |.pu,f=>λa b=>(f a b).elim .inl λz=>.inr (.inl z)
 |.bo,f=>f
def bp(b:PV G X e ce):PSV G X (.Return (Z e) pos) (eW ce):=PS.weak (p5 b) λD J H a=>by
 obtain⟨M,U,o,s,e,k⟩:=a;unfold eW at e;obtain⟨⟨m,x⟩,d,e1⟩:=Zz.mp e;cases e1;exact⟨M,U,m,x,s,d,λv f F e1 r1 f1=>k v f F M J (s.same e1) (G1.same e1) r1 f1.ret⟩
def cW{U:VS.Env}{i j:Nat}{c:Cell}(h:(U.set i L)[j]?=Z (Z c)):j≠i/\U[j]?=Z (Z c):=by
 rw[X9]at h;split at h
 ·split at h<;>cases h
 ·rename_i n;exact⟨λz=>n z.symm,h⟩
def SR.drop{M:GV}{U:VS.Env}{J:L2.St}{H:Hp}(s:SR G M U J H)(i:Nat):SR G M (U.set i L) J H :=
 ⟨by rw[Z8];exact s.len,λj c h=>s.rp j c (cW h).2,λj t h=>s.nd j t (cW h).2,λj k t c b a n=>s.sep j k t c (cW b).2 (cW a).2 n⟩
def G1.drop{M:GV}{U:VS.Env}{H:Hp}(i:Nat):G1 M U H M (U.set i L) H :=
 ⟨λa o h n=>⟨h,λ⟨j,t,d,b⟩=>n ⟨j,t,(cW d).2,b⟩⟩,λ_ h=>h,λa ⟨j,t,d,b⟩=>.inl ⟨j,t,(cW d).2,b⟩,λa ⟨j,t,d,b⟩=>.inl ⟨j,t,(cW d).2,b⟩,Kept.refl H⟩
def df(i:Nat){x:Str}{p:Pos}(u:X.N[i]?=Z x:=by rfl)(l:IG X.env.scope x:=by first | exact Or.inl Y | exact Or.inr (Or.inl Y) | exact Or.inr (Or.inr Y))(r:K3 x:=by decide)(d:K4 x:=by decide):PSV G X (.Return (Z (.Name x p)) pos) (fC i):=PS.weak (p5 (fJ u l r d)) λD J H n=>by
 obtain⟨M,U,o,s,e,k⟩:=n;unfold fC at e;split at e
 ·rename_i t h;obtain⟨v,j,b⟩:=s.rp _ _ h;cases e;exact⟨v,j,k v H (M i) M J (s.drop i) (G1.drop i) b ⟨s.nd i t h,λa g=>.inr ⟨i,t,h,g⟩⟩⟩
 ·rename_i t h;obtain⟨v,j,b⟩:=s.rp _ _ h;cases e;refine⟨v,j,k v H (M i) M J s (G1.refl _ _ _) b ?_⟩;have f:Fp M U H .pu (M i):=λa g=>.inr ⟨i,t,h,g⟩;have f2:=(f.up b).ret;have:(match (VS.up .pu (iO (.pu t))).1 with | .bo=>Md.pu | m=>m)=(VS.up .pu t).1:=by
   show (match (VS.up .pu t).1 with | .bo=>Md.pu | m=>m)=_;unfold VS.up;split<;>(rename_i q;revert q;split<;>simp)
  rw[this]at f2;exact f2
 ·cases e
def ma(M:GV)(i:Nat)(F:Xa):GV:=λj=>if j=i then F else M j
def jt{M:GV}{i:Nat}{F:Xa}:ma M i F i=F:=Zq Y
def fi{M:GV}{i j:Nat}{F:Xa}(h:j≠i):ma M i F j=M j:=Zn h
def ir{U:VS.Env}{i j:Nat}{c a:Cell}(h:(U.set i (Z c))[j]?=Z (Z a)):(j=i/\a=c)\/(j≠i/\U[j]?=Z (Z a)):=by
 rw[X9]at h;split at h
 ·rename_i e;split at h
  ·exact .inl ⟨e.symm,(Zm (Zm h)).symm⟩
  ·cases h
 ·rename_i n;exact .inr ⟨λz=>n z.symm,h⟩
def SR.put{M:GV}{U:VS.Env}{J:L2.St}{H H':Hp}{i:Nat}{v:V}{c:Cell}{F:Xa}(s:SR G M U J H)(q:i<U.length)(r:Rp G H' v (iO c) F)(p:∀j b,j≠i->U[j]?=Z (Z b)->∀w,Rp G H w (iO b) (M j)->Rp G H' w (iO b) (M j))(u:∀t,c=.ow t->F.Nodup)(y:∀t,c=.ow t->∀j b,j≠i->U[j]?=Z (Z b)->∀a∈F,a∉M j)(x:∀j t,j≠i->U[j]?=Z (Z (.ow t))->∀a∈M j,a∉F) :
  SR G (ma M i F) (U.set i (Z c)) (J.set i (Z v)) H' where
 len:=by rw[Z8,Z8];exact s.len
 rp:=λj b h=>by
  rcases ir h with⟨rfl,rfl⟩ | ⟨n,h⟩
  ·exact⟨v,by rw[Xz (by rw[← s.len];exact q)],by rw[jt];exact r⟩
  ·obtain⟨w,l,f⟩:=s.rp j b h;exact⟨w,by rw[Yr (Yi n)];exact l,by rw[fi n];exact p j b n h w f⟩
 nd:=λj t h=>by
  rcases ir h with⟨rfl,e⟩ | ⟨n,h⟩
  ·rw[jt];exact u t e.symm
  ·rw[fi n];exact s.nd j t h
 sep:=λj k t b l f n=>by
  rcases ir l with⟨rfl,e⟩ | ⟨g,o⟩
  ·rcases ir f with⟨rfl,e2⟩ | ⟨d,m⟩
   ·exact absurd Y n
   ·rw[jt,fi d];exact y t e.symm k b d m
  ·rcases ir f with⟨rfl,e2⟩ | ⟨d,m⟩
   ·rw[jt,fi g];exact x j t g o
   ·rw[fi g,fi d];exact s.sep j k t b o m n
def iw{M:GV}{U:VS.Env}{i:Nat}{c:Cell}{F:Xa}{a:KM}(h:bK (ma M i F) (U.set i (Z c)) a):(∃t,c=.ow t/\a∈F)\/bK M U a:=by
 obtain⟨j,t,d,b⟩:=h;rcases ir d with⟨rfl,e⟩ | ⟨n,d⟩
 ·rw[jt]at b;exact .inl ⟨t,e.symm,b⟩
 ·rw[fi n]at b;exact .inr ⟨j,t,d,b⟩
def oj{M:GV}{U:VS.Env}{i:Nat}{c:Cell}{F:Xa}{a:KM}(h:cT (ma M i F) (U.set i (Z c)) a):(∃t,c=.pu t/\a∈F)\/cT M U a:=by
 obtain⟨j,t,d,b⟩:=h;rcases ir d with⟨rfl,e⟩ | ⟨n,d⟩
 ·rw[jt]at b;exact .inl ⟨t,e.symm,b⟩
 ·rw[fi n]at b;exact .inr ⟨j,t,d,b⟩
def SR.KR{M:GV}{U:VS.Env}{J:L2.St}{H:Hp}(s:SR G M U J H){a:KM}(h:bK M U a)(g:cT M U a):False:=by
 obtain⟨j,t,d,f⟩:=h;obtain⟨k,u,b,i⟩:=g;have n:j≠k:=λe=>by subst e;rw[d]at b;cases b
 exact s.sep j k t _ d b n a f i
def SR.val{M:GV}{U:VS.Env}{J:L2.St}{H y:Hp}{i:Nat}{v:V}{t:T}{m:Md}{F:Xa}{c:Cell}(s:SR G M U J H)(C:i<U.length)(e:aC H y)(r:Rp G y v t F)(f:Fp M U H m F)(p:(c=.pu t/\m ≠ .bo)\/(c=.ow t/\m=.fr)):SR G (ma M i F) (U.set i (Z c)) (J.set i (Z v)) y/\G1 M U H (ma M i F) (U.set i (Z c)) y:=by
 have G3:∀{a},H a=L->∀j x,U[j]?=Z (Z x)->a∉M j:=λ{a} h j x g b=>by
  obtain⟨w,_,q⟩:=s.rp j x g;exact GT.gV (q.G3 a b) h
 have ct:iO c=t:=by rcases p with⟨rfl,_⟩ | ⟨rfl,_⟩<;>rfl
 have A:∀a∈F,H a=L\/cT M U a:=λa b=>by
  rcases p with⟨_,n⟩ | ⟨_,n⟩
  ·exact f.pu n a b
  ·rw[n]at f;exact .inl (f.2 a b)
 constructor
 ·refine s.put C (by rw[ct];exact r) (λj x n g w q=>q.same e) (λu d=>?_) (λu d j x n g a b=>?_) λj u n g a b D=>?_
  ·rcases p with⟨h,_⟩ | ⟨_,h⟩
   ·rw[h]at d;cases d
   ·rw[h]at f;exact f.1
  ·rcases p with⟨h,_⟩ | ⟨_,h⟩
   ·rw[h]at d;cases d
   ·rw[h]at f;exact G3 (f.2 a b) j x g
  ·rcases A a D with z | z
   ·exact G3 z j _ g b
   ·exact s.KR ⟨j,u,g,b⟩ z
 ·refine⟨λa o h n=>⟨e a o h,λz=>?_⟩,λa h z=>h (e.free z),λa h=>?_,λa h=>?_,Kept.of e⟩
  ·rcases iw z with⟨u,d,b⟩ | z
   ·rcases p with⟨l,_⟩ | ⟨_,l⟩
    ·rw[l]at d;cases d
    ·rw[l]at f;rw[f.2 a b]at h;cases h
   ·exact n z
  ·rcases iw h with⟨u,d,b⟩ | z
   ·rcases p with⟨l,_⟩ | ⟨_,l⟩
    ·rw[l]at d;cases d
    ·rw[l]at f;exact .inr (f.2 a b)
   ·exact .inl z
  ·rcases oj h with⟨u,d,b⟩ | z
   ·exact(A a b).elim (λz=>.inr (.inr z)) .inl
   ·exact .inl z
def fQ{i:Nat}{x:Str}{a:Pos}(q:PV G X e ce)(r:X.N.Nodup)(n:X.N[i]?=Z x:=by rfl)(g:Loc X.env.scope x:=by first | exact Or.inl Y | exact Or.inr Y)(h:swapsWith e (Z (.Name x a)) pos.line X.env=pure R:=by rfl)(p:X.fn x=B\/X.env.scope.names.lookup x=Z .local:=by first | exact .inl Y | exact .inr Y) :
  PSV G X (.Assign [.Name x a] e pos) (kT i ce):=PS.weak (pK r n g q h p) λD J H j=>by
 obtain⟨M,U,o,s,e,k⟩:=j;unfold kT at e;obtain⟨⟨m,t⟩,w,e1⟩:=Zz.mp e;obtain⟨c,eC,e2⟩:=Zz.mp e1;split at e2
 ·rename_i l;cases e2;refine⟨M,U,m,t,s,w,λv z F y b u=>?_⟩;obtain⟨f,d⟩:=s.val (c:=c) l y b u (by
   unfold cellOf at eC;cases m with
   |fr =>
    simp only[Option.some.injEq]at eC;split at eC
    ·exact .inr ⟨eC.symm,rfl⟩
    ·exact .inl ⟨eC.symm,by decide⟩
   |pu=>cases eC;exact .inl ⟨rfl,by decide⟩
   |bo=>cases eC)
  exact k _ _ z f d
 ·cases e2
def aH{i:Nat}{x:Str}{a:Pos}(r:PV G X e ce)(u:X.N.Nodup)(p:X.N[i]?=Z x:=by rfl)(g:Loc X.env.scope x:=by first | exact Or.inl Y | exact Or.inr Y)(h:swapsWith e (Z (.Name x a)) pos.line X.env=pure R:=by rfl)(q:X.fn x=B\/X.env.scope.names.lookup x=Z .local:=by first | exact .inl Y | exact .inr Y) :
  PSV G X (.Assign [.Name x a] e pos) (aP i ce):=PS.weak (pK u p g r h q) λD J H j=>by
 obtain⟨M,U,o,s,e,k⟩:=j;unfold aP at e;obtain⟨⟨m,t⟩,y,e1⟩:=Zz.mp e;split at e1
 ·cases e1
 ·rename_i l;split at e1
  ·rename_i n;cases e1;refine⟨M,U,m,t,s,y,λv A F z b w=>?_⟩;obtain⟨f,d⟩:=s.val (c:=.pu t) n z b w (.inl ⟨rfl,l⟩);exact k _ _ A f d
  ·cases e1
def SR.frz{M:GV}{U:VS.Env}{J:L2.St}{H:Hp}{i:Nat}{t:T}(s:SR G M U J H)(h:U[i]?=Z (Z (.ow t))):SR G M (U.set i (Z (.pu t))) J H/\G1 M U H M (U.set i (Z (.pu t))) H:=by
 have back:∀{j c},(U.set i (Z (.pu t)))[j]?=Z (Z c)->∃l,U[j]?=Z (Z l)/\iO l=iO c/\∀u,c=.ow u->l=.ow u:=λ{j c} g=>by
  rcases ir g with⟨rfl,rfl⟩ | ⟨n,g⟩
  ·exact⟨.ow t,h,rfl,λu p=>nomatch p⟩
  ·exact⟨c,g,rfl,λu p=>p⟩
 refine⟨⟨by rw[Z8];exact s.len,λj c g=>?_,λj u g=>?_,λj k u c b d n=>?_⟩,⟨λa o r n=>⟨r,λ⟨j,u,b,d⟩=>?_⟩,λ_ h=>h,λa ⟨j,u,b,d⟩=>?_,λa ⟨j,u,b,d⟩=>?_,Kept.refl H⟩⟩
 ·obtain⟨l,b,d,_⟩:=back g;obtain⟨v,f,x⟩:=s.rp j l b;exact⟨v,f,by rw[← d];exact x⟩
 ·obtain⟨l,b,_,w⟩:=back g;rw[w u Y]at b;exact s.nd j u b
 ·obtain⟨c1,f,_,m⟩:=back b;obtain⟨c2,q,_,_⟩:=back d;rw[m u Y]at f;exact s.sep j k u c2 f q n
 ·obtain⟨c1,f,_,m⟩:=back b;rw[m u Y]at f;exact n ⟨j,u,f,d⟩
 ·obtain⟨c1,f,_,m⟩:=back b;rw[m u Y]at f;exact .inl ⟨j,u,f,d⟩
 ·rcases ir b with⟨rfl,_⟩ | ⟨n,b⟩
  ·exact .inr (.inl ⟨j,t,h,d⟩)
  ·exact .inl ⟨j,u,b,d⟩
def mM(i:Nat)(h:gD G X NN c):gD G X NN (ak (vE i) c):=IH.weak h λD J H f=>by
 obtain⟨M,U,o,s,e,k⟩:=f;unfold ak at e;obtain⟨g,e1,e2⟩:=Zz.mp e;unfold vE at e1;split at e1
 ·rename_i t d;cases e1;obtain⟨b,a⟩:=s.frz d;exact⟨M,_,o,b,e2,k.back a⟩
 ·cases e1;exact⟨M,U,o,s,e2,k⟩
 ·cases e1
end
section
variable{G:Gx}{X:Cx}{st:Stmt}{NN:List Stmt}{c c1 c2:Sx}{pos:Pos}{e:Expr}{es:List Expr}{ce:Ex}{cs:Hf}
structure Chg(G:Gx)(H:Hp)(v:V)(F:Xa)(t':T)(H2:Hp)(F':Xa):Prop where
 kept:Kept H H2
 keep:∀b o,b∉F->H b=some o->H2 b=some o
 G3:∀b,H b≠none->H2 b≠none
 rp:Rp G H2 v t' F'
 nd:F'.Nodup
 sub:∀a∈F',a∈F\/H a=none
def SR.mut{M:GV}{U:VS.Env}{J:L2.St}{H x:Hp}{i:Nat}{v:V}{t r:T}{p:Xa}(s:SR G M U J H)(m:U[i]?=Z (Z (.ow t)))(A:J[i]?=Z (Z v))(g:Chg G H v (M i) r x p) :
  SR G (ma M i p) (U.set i (Z (.ow r))) J x/\G1 M U H (ma M i p) (U.set i (Z (.ow r))) x:=by
 have D:i<U.length:=(Zf.mp m).1;have off:∀j d,j≠i->U[j]?=Z (Z d)->∀a∈M j,a∉M i:=λj d n f a b l=>s.sep i j t d m f (Yi n) a l b;have es:J.set i (Z v)=J:=by
  obtain⟨h,e⟩:=Zf.mp A;rw[← e];exact XJ h
 have new:∀a∈p,∀j d,j≠i->U[j]?=Z (Z d)->a∉M j:=λa b j d n f l=>by
  rcases g.sub a b with z | z
  ·exact off j d n f a l z
  ·obtain⟨w,_,q⟩:=s.rp j d f;exact GT.gV (q.G3 a l) z
 constructor
 ·have:=s.put (c:=.ow r) (F:=p) (H':=x) (v:=v) D g.rp (λj d n f w q=>q.keep g.kept λa b o C=>g.keep a o (off j d n f a b) C) (λ_ _=>g.nd) (λu y j d n f a b=>new a b j d n f) λj u n f a b l=>new a l j _ n f b;rw[es]at this;exact this
 ·refine⟨λa o h n=>⟨g.keep a o (λz=>n ⟨i,t,m,z⟩) h,λz=>?_⟩,g.G3,λa h=>?_,λa h=>?_,g.kept⟩
  ·rcases iw z with⟨u,_,b⟩ | z
   ·rcases g.sub a b with z | z
    ·exact n ⟨i,t,m,z⟩
    ·rw[z]at h;cases h
   ·exact n z
  ·rcases iw h with⟨u,_,b⟩ | z
   ·rcases g.sub a b with z | z
    ·exact .inl ⟨i,t,m,z⟩
    ·exact .inr z
   ·exact .inl z
  ·rcases oj h with⟨u,y,b⟩ | z
   ·cases y
   ·exact .inl z
def uk(G:Gx)(r:V->List V->Hp->VK->Prop)(f:T->Wj->Option (T×Val)):Prop:=∀(M:GV)(U:VS.Env)(H g:Hp)(v:V)(t b:T)(F:Xa)(l:Wj)(a:List V)(h:Xl)(x:Val)(Q:VK),
 Rp G H v t F->F.Nodup->Args G M U H g l a h->f t l=Z (b,x)->(∀u d i,Chg G H v F b d i->Q u d)->r v a g Q
def q8{q m:String}{a x:Str}{r:V->List V->Hp->VK->Prop}{f:T->Wj->Option (T×Val)}{b d j:Pos}(i:Nat)(pa:PlainAttrs q)(h:Slot q a m)(MK:typeOf (.builtin m)=pure (.type "method_descriptor"))(hm:NA X m r)(ok:uk G r f)(hT:∀H v t F l z,Rp G H v t F->f t l=Z z->Lz G.K q v H)(ha:HI G X (e :: es) cs)(hK:X.K=G.K:=by rfl)(hN:X.N[i]?=Z x:=by rfl)(hv:IG X.env.scope x:=by first | exact Or.inl Y | exact Or.inr (Or.inl Y) | exact Or.inr (Or.inr Y))(hd:K3 x:=by decide)(p:K4 x:=by decide)(G4:UV (.Name x j) a X.env (eval (.Name x j) X.env)=eval (.Name x j) X.env:=by rfl)(Hj:((backTo d (Pv (e :: es) X.env)).all (λx=>!x.1)&&(backToKw d (SC [] X.env)).all (λx=>x.1.isSome)
   && decide ((e :: es).length+([]:List Keyword).length+(if ([]:List Keyword).isEmpty then 0 else 1)<30))=B:=by rfl)(GZ:(b.endLine==d.line)=B:=by rfl)(hs:K1 e es X:=by rfl)(GY:K2 d es X:=by rfl)(Jc:swapsWith (.Call (.Attribute (.Name x j) a b) (e :: es) [] d) L pos.line X.env=pure R:=by rfl) :
  PSV G X (.Expr (.Call (.Attribute (.Name x j) a b) (e :: es) [] d) pos) (sX (kY i [] f cs)) :=
 PS.weak (kb (rD pa h MK hm (fJ hN hv hd p) ha G4 Hj GZ hs GY) Jc) λD J H hq=>by
  obtain⟨M,U,o,s,e,k⟩:=hq;unfold sX kY at e;obtain⟨⟨w,U'⟩,e1,e2⟩:=Zy.mp e;split at e1
  ·rename_i t n;obtain⟨ks,ek,e3⟩:=Zz.mp e1;cases (show Z ([]:List Ky)=Z ks from ek);obtain⟨l,el,e4⟩:=Zz.mp e3;obtain⟨⟨y,x2⟩,e5,e6⟩:=Zy.mp e4;cases e6;cases e2;obtain⟨v,C,A⟩:=s.rp _ _ n;have E:f t l=Z (y,w):=e5;refine⟨v,C,by rw[hK];exact hT H v t _ l _ A E,M,U,l,s,el,λQ H' Fs q1 q2 S=>?_⟩;refine ok M U H H' v t y (M i) l Q Fs w _ A (s.nd i t n) ⟨q1,q2,S⟩ E λu H2 F' g=>?_;obtain⟨P,O⟩:=s.mut n C g;exact k _ J H2 P O
  ·cases e1
theorem Chg.upd{H d:Hp}{v:V}{F:Xa}{a:KM}{o:HO}{t':T}{f:Xa}(e:aC H d)(m:a∈F)(l:GT (d a))(r:Rp G (upd d a o) v t' f)(j:f.Nodup)(g:∀a∈f,a∈F\/H a=L):Chg G H v F t' (upd d a o) f :=
 ⟨(Kept.of e).trans (Kept.upd (.inl l)),λb i hb h=>by rw[ax (λz=>hb (by rw[z];exact m))];exact e b i h,
  λb h z=>by
   by_cases q:b=a
   ·subst q;rw[au]at z;cases z
   ·rw[ax q]at z;exact h (e.free z),r,j,g⟩
def RpL.off{H:Hp}{f:List V}{g:Wh}{d:Xl}{a:KM}{o:HO}(r:RpL G H f g d)(j:GT (H a))(h:a∉d.flatten):RpL G (upd H a o) f g d :=
 r.keep (Kept.upd (.inl j)) λb hb l i=>by rw[ax (λz=>h (by rw[← z];exact hb))];exact i
def kJ{v:Val}{t:T}(h:fit v=Z t):v=(.fr,t):=by
 obtain⟨m,x⟩:=v;unfold fit at h;cases m<;>first | (cases h;rfl) | cases h
def o9:uk G uF aF:=by
 intro M U H j v t S F l s O x Q r nd A e k;unfold aF at e;split at e
 ·rename_i P y;obtain⟨z,E,e1⟩:=Zz.mp e;have J:=kJ E;subst J;split at e1
  ·rename_i C;cases e1;obtain⟨a,p,n,rfl,rfl,i,g⟩:=r.lst_inv;obtain⟨w,f,rfl,rfl,N⟩:=(show RpL G j s [z] O from A.rp).one;have d:Fp M U H .fr f:=A.fp.each 0 _ _ Y Y;have q:j a=Z (.lst p):=A.same a _ i;have h:GT (j a):=by rw[q];exact True.intro
   have na:a∉n.flatten:=(Zg.mp nd).1;have nw:a∉f:=λz=>by rw[d.2 a z]at i;cases i
   refine⟨a,p,w,rfl,rfl,q,by rw[g.len.1];exact C,k _ _ (a :: (n++[f]).flatten) ?_⟩;have off:∀b∈n.flatten,b∉f:=λb hb hw=>GT.gV (g.G3 b hb) (d.2 b hw);refine Chg.upd A.same Zv h (.lst au (((g.same A.same).off h na).append (.cons (N.keep (Kept.upd (.inl h)) λb hb o u=>by rw[ax (λz=>nw (by rw[← z];exact hb))];exact u) .nil))) ?_ ?_
   ·rw[Z4];refine Zg.mpr ⟨λm=>?_,ZR.mpr ⟨(Zg.mp nd).2,by simpa using d.1,λb hb c D z=>?_⟩⟩
    ·rcases Zd.mp m with m | m
     ·exact na m
     ·exact nw (by simpa using m)
    ·subst z;exact off b hb (by simpa using D)
   ·intro b hb;rcases Zp.mp hb with rfl | hb
    ·exact .inl Zv
    ·rw[Z4]at hb;rcases Zd.mp hb with hb | hb
     ·exact .inl (Zw _ hb)
     ·exact .inr (d.2 b (by simpa using hb))
  ·cases e1
 ·cases e
def sj{H:Hp}{v:V}{b:Wh}{F:Xa}(r:Rp G H v (.lst b) F):Lz G.K "list" v H:=by
 obtain⟨a,f,h,rfl,rfl,d,g⟩:=r.lst_inv;exact .inl ⟨rfl,_,GW.of d⟩
def l5{H:Hp}{v:V}{t:T}{F:Xa}{l:Wj}{z:T×Val}(r:Rp G H v t F)(h:aF t l=Z z):Lz G.K "list" v H:=by
 unfold aF at h;split at h
 ·exact sj r
 ·cases h
def sL{H:Hp}{v:V}{t:T}{F:Xa}{l:Wj}{z:T×Val}(r:Rp G H v t F)(h:ed t l=Z z):Lz G.K "list" v H:=by
 unfold ed at h;split at h
 ·exact sj r
 ·cases h
def vF:uk G uV ed:=by
 intro M U H o v t t' F l J Fs x Q r nd A e k;unfold ed at e;split at e
 ·rename_i ts y;obtain⟨z,P,e1⟩:=Zz.mp e;have S:=kJ P;subst S;split at e1
  ·rename_i _ D;split at e1
   ·rename_i N;cases e1;obtain⟨a,q,p,rfl,rfl,j,h⟩:=r.lst_inv;obtain⟨w,C,rfl,rfl,JQ⟩:=(show RpL G o J [.lst D] Fs from A.rp).one;have g:Fp M U H .fr C:=A.fp.each 0 _ _ Y Y;have u:o a=Z (.lst q):=A.same a _ j;have i:GT (o a):=by rw[u];exact True.intro
    have na:a∉p.flatten:=(Zg.mp nd).1;have nw:a∉C:=λz=>by rw[g.2 a z]at j;cases j
    obtain⟨b,E,n,rfl,rfl,hb,s⟩:=JQ.lst_inv;have nb:a∉n.flatten:=λm=>nw (Zw _ m);refine⟨a,b,q,E,rfl,rfl,u,hb,by rw[h.len.1,s.len.1];exact N,k _ _ (a :: (p++n).flatten) ?_⟩;have off:∀f∈p.flatten,f∉n.flatten:=λf d hw=>GT.gV (h.G3 f d) (g.2 f (Zw _ hw));refine Chg.upd A.same Zv i (.lst au (((h.same A.same).off i na).append (s.off i nb))) ?_ ?_
    ·rw[Z4];refine Zg.mpr ⟨λm=>?_,ZR.mpr ⟨(Zg.mp nd).2,(Zg.mp g.1).2,λb hb c O z=>?_⟩⟩
     ·rcases Zd.mp m with m | m
      ·exact na m
      ·exact nb m
     ·subst z;exact off b hb O
    ·intro f d;rcases Zp.mp d with rfl | d
     ·exact .inl Zv
     ·rw[Z4]at d;rcases Zd.mp d with d | d
      ·exact .inl (Zw _ d)
      ·exact .inr (g.2 f (Zw _ d))
   ·cases e1
  ·cases e1
 ·cases e
end
structure JY(G:Gx)(Jq:It)(l:Wh)(C:Xa)(H:Hp):Prop where
 run:∀H2,Kept H H2->(∀a∈C,∀o,H a=some o->H2 a=some o) →
  (∀(i:Nat)(t:T),l[i]?=some t->Jq.go i H2/\∀x H3,Jq.O0 i H2 x H3->aC H2 H3/\∃F,Rp G H3 x t F/\∀a∈F,a∈C\/H2 a=none)/\∀(i:Nat),l.length<=i->Jq.stop i H2
 G3:∀a∈C,H a≠none
def T8(M:GV)(U:VS.Env)(H:Hp)(m:Md)(C:Xa):Prop:=∀a∈C,H a=L\/cT M U a\/(m=.bo/\bK M U a)
theorem Fp.c{M:GV}{U:VS.Env}{H:Hp}{F:Xa}:∀{m:Md},Fp M U H m F->T8 M U H m F
 |.fr,f=>λa b=>.inl (f.2 a b)
 |.pu,f=>λa b=>(f a b).imp id .inl
 |.bo,f=>λa b=>(f a b).imp id λz=>z.imp id λz=>⟨rfl,z⟩
def tI(G:Gx)(c:JI):TI:=λJ H R=>∃M U m l,SR G M U J H/\c U=Z (m,l)/\∀b a C,aC H a->JY G b l C a->T8 M U H m C->R b a
def PVI(G:Gx)(X:Cx)(b a:Expr)(c:JI):Prop:=PI X b a (tI G c)
def PI.weak{X:Cx}{b e:Expr}{t d:TI}(h:PI X b e t)(w:∀J H Q,d J H Q->t J H Q):PI X b e d:=λa s J H Q I q=>h a s J H Q I (w J H Q q)
section
variable{G:Gx}{X:Cx}{tg e a b:Expr}{es:List Expr}{ca cb:Ex}{cs:Hf}{pos p:Pos}
def og(H:Hp)(d:Int)(n:Nat):JY G (OW d n) (rng d n) [] H:=by
 refine⟨λq _ _=>⟨λi t h=>?_,λi h=>(by simpa[rng] using h:n<=i)⟩,λa h=>by simp at h⟩;unfold rng at h;rw[ZO]at h;obtain⟨k,g,e⟩:=Zy.mp h;obtain⟨f,e2⟩:=Zf.mp g;rw[ZI]at f;have j:i=k:=by simpa using e2
 subst j;refine⟨f,λx o ⟨m,l⟩=>?_⟩;subst m;subst l;rw[← e];exact⟨aC.refl _,[],.int _,λa h=>by simp at h⟩
def ie(u:PV G X a ca)(t:Gl X "range")(r:X.mg "range" = L)(o:K1 a [] X:=by rfl)(z:Pv [a] X.env=[(false,eval a X.env)]:=by rfl):PVI G X tg (.Call (.Name "range" p) [a] [] pos) (cP ca) :=
 PI.weak (jl t r (bA u dv o) z) λJ H R q=>by
  obtain⟨M,U,m,l,s,e,k⟩:=q;unfold cP at e;obtain⟨⟨n,x⟩,w,e1⟩:=Zz.mp e;obtain⟨j,f,e2⟩:=Zz.mp e1;split at e2
  ·rename_i d;cases e2;refine⟨M,U,n,x,s,w,λv g F y i C=>?_⟩;cases x with
   |int A =>
    cases f;refine⟨j,by rw[i.int_inv],?_,?_,k _ g [] y (og g 0 j.toNat) λa h=>by simp at h⟩
    ·have:=d.1;unfold Kf at this;lia
    ·have:=d.2;unfold Kf at this;lia
   |_=>cases f
  ·cases e2
def tm(N:PV G X a ca)(E:PV G X b cb)(D:Gl X "range")(A:X.mg "range" = L)(u:Pv [a,b] X.env=(false,eval a X.env) :: Pv [b] X.env:=by rfl)(Y:Pv [a,b] X.env=[(false,eval a X.env),(false,eval b X.env)]:=by rfl)(S:K1 b [] X:=by rfl)(HK:Pv [b] X.env=[(false,eval b X.env)]:=by rfl) :
  PVI G X tg (.Call (.Name "range" p) [a,b] [] pos) (js ca cb) :=
 PI.weak (wc D A (bA N (bA E dv S) u) Y HK) λJ H R z=>by
  obtain⟨M,U,m,l,s,e,k⟩:=z;unfold js at e;obtain⟨⟨t,x⟩,P,e1⟩:=Zz.mp e;obtain⟨⟨r,y⟩,O,e1⟩:=Zz.mp e1;obtain⟨i,f,e2⟩:=Zz.mp e1;obtain⟨j,d,e2⟩:=Zz.mp e2;split at e2
  ·rename_i C;cases e2;refine⟨M,U,t,x,s,P,λv H' F g q f3=>⟨M,U,r,y,s.same g,O,λw n F2 Q o f4=>?_⟩⟩;cases x with
   |int i' =>
    cases f;cases y with
    |int j' =>
     cases d;refine⟨i,j,by rw[q.int_inv,o.int_inv],?_,k _ n [] (g.trans Q) (og n i (j-i).toNat) λa h=>by simp at h⟩;unfold Kf at C;omega
    |_=>cases d
   |_=>cases f
  ·cases e2
def cO{d:Xl}{i:Nat}{F:Xa}(h:d[i]?=Z F){a:KM}(f:a∈F):a∈d.flatten:=(cH h).subset f
def AJ{H:Hp}{a:KM}{d:List V}{f:Wh}{j:Xl}(K:Xk)(l:H a=Z (.lst d))(r:RpL G H d f j):JY G (Sg K a) f (a :: j.flatten) H:=by
 refine⟨λn k c=>?_,λb hb=>?_⟩
 ·have g:n a=Z (.lst d):=c a Zv _ l;have r2:RpL G n d f j:=r.keep k λb hb o q=>c b (Zw _ hb) o q;refine⟨λi t h=>?_,λi h=>⟨d,GW.of g,by rw[r.len.1];exact h⟩⟩;obtain⟨v,F,m,u,s⟩:=r2.get i h;refine⟨⟨d,v,GW.of g,m⟩,λx w ⟨e1,e2⟩=>?_⟩;subst e1;have ex:=e2 d (GW.of g);rw[m]at ex;cases ex;exact⟨aC.refl _,F,s,λb hb=>.inl (Zw _ (cO u hb))⟩
 ·rcases Zp.mp hb with rfl | hb
  ·rw[l];exact λz=>nomatch z
  ·exact GT.gV (r.G3 b hb)
def Ee{H:Hp}{a:KM}{d:List V}{f:Wh}{j:Xl}(K:Xk)(q:H a=Z (.tup d))(r:RpL G H d f j):JY G (Sf K a) f j.flatten H:=by
 refine⟨λm k c=>?_,λb hb=>GT.gV (r.G3 b hb)⟩;have g:m a=Z (.tup d):=k.tup a _ q;have r2:RpL G m d f j:=r.keep k λb hb o n=>c b hb o n;refine⟨λi t h=>?_,λi h=>⟨d,HN.of g,by rw[r.len.1];exact h⟩⟩;obtain⟨v,F,l,u,s⟩:=r2.get i h;refine⟨⟨d,v,HN.of g,l⟩,λx w ⟨e1,e2⟩=>?_⟩;subst e1;have ex:=e2 d (HN.of g);rw[l]at ex;cases ex;exact⟨aC.refl _,F,s,λb hb=>.inl (cO u hb)⟩
def tG(G:Gx)(g:Tg):TG:=λv J H Q=>∃M U t F d,SR G M U J H/\Rp G H v t F/\(∀a∈F,¬bK M U a)/\g t U=Z d ∧
 ∀f h,SR G f d h H->(∀a,bK f d a->bK M U a)->(∀a,cT f d a->cT M U a\/a∈F)->Q h H
def Ur(G:Gx)(l:List Tg):LX:=λj J H Q=>∃M U h g d,SR G M U J H/\RpL G H j h g/\(∀a∈g.flatten,¬bK M U a)/\oi l h U=Z d ∧
 ∀f i,SR G f d i H->(∀a,bK f d a->bK M U a)->(∀a,cT f d a->cT M U a\/a∈g.flatten)->Q i H
def LZ(G:Gx)(X:Cx)(e:Expr)(g:Tg):Prop:=PG X e (tG G g)
def AK(G:Gx)(X:Cx)(e:List Expr)(g:List Tg):Prop:=Lu X e (Ur G g)
def PG.weak{X:Cx}{e:Expr}{t f:TG}(h:PG X e t)(w:∀v J H Q,f v J H Q->t v J H Q):PG X e f:=λd s J H v u Q I r q=>h d s J H v u Q I r (w v J H Q q)
def Lu.weak{X:Cx}{e:List Expr}{t f:LX}(h:Lu X e t)(w:∀v J H Q,f v J H Q->t v J H Q):Lu X e f:=λd s J H v u Q I r q=>h d s J H v u Q I r (w v J H Q q)
def aS(i:Nat){x:Str}(C:X.N.Nodup)(y:X.N[i]?=Z x:=by rfl)(l:Loc X.env.scope x:=by first | exact Or.inl Y | exact Or.inr Y)(A:X.fn x=B\/X.env.scope.names.lookup x=Z .local:=by first | exact .inl Y | exact .inr rfl):LZ G X (.Name x pos) (ba i):=PG.weak (p6 C y l A) λv J H Q m=>by
 obtain⟨M,U,t,F,O,s,r,no,e,k⟩:=m;unfold ba at e;split at e
 ·rename_i o;cases e;refine k (ma M i F) (J.set i (Z v)) (s.put (c:=.pu t) o r (λj E n g w q=>q) (λu d=>nomatch d) (λu d=>nomatch d) λj u n g a f D=>no a D ⟨j,u,g,f⟩) (λa h=>?_) λa h=>?_
  ·rcases iw h with⟨u,d,_⟩ | z
   ·cases d
   ·exact z
  ·rcases oj h with⟨u,d,f⟩ | z
   ·exact .inr f
   ·exact .inl z
 ·cases e
def qT:AK G X [] []:=Lu.weak AF λv J H Q f=>by
 obtain⟨M,U,g,i,d,s,r,no,e,k⟩:=f;cases r with
 |nil =>
  cases (show Z U=Z d from e);exact⟨rfl,k M J s (λ_ h=>h) λ_ h=>.inl h⟩
 |cons r q=>cases (show (L:Option VS.Env)=Z d from e)
def jg{g:Tg}{i:List Tg}(y:LZ G X e g)(x:AK G X es i)(u:(assignEach (e :: es) X.env).map (·.2)=assign e X.env :: (assignEach es X.env).map (·.2):=by rfl):AK G X (e :: es) (g :: i) :=
 Lu.weak (zB y x u) λv J H Q w=>by
  obtain⟨M,U,F,Fs,l,s,r,no,e,k⟩:=w;cases r with
  |nil=>cases (show (L:Option VS.Env)=Z l from e)
  |cons r q =>
   rename_i E N F' P Y S;obtain⟨j,e1,e2⟩:=Zz.mp e;refine⟨_,_,rfl,M,U,_,_,j,s,r,λa d=>no a (by rw[ZW];exact ZD _ d),e1,λC O s1 f o=>?_⟩;refine⟨C,j,_,_,l,s1,q,λa d z=>no a (by rw[ZW];exact ZQ _ d) (f a z),e2,λA D m t n=>k A D m (λa h=>f a (t a h)) λa h=>?_⟩;rcases n a h with h | h
   ·rcases o a h with h | h
    ·exact .inl h
    ·exact .inr (by rw[ZW];exact ZD _ h)
   ·exact .inr (by rw[ZW];exact ZQ _ h)
theorem qZ:∀{i:List Tg}{f:Wh}{U d:VS.Env},oi i f U=Z d->f.length=i.length
 |[],[],_,_,_=>rfl
 |[],_ :: _,_,_,h=>by simp[oi]at h
 |_ :: _,[],_,_,h=>by simp[oi]at h
 |g :: i,t :: f,U,d,h=>by
  obtain⟨j,_,e2⟩:=Zz.mp (show (g t U).bind (λd=>oi i f d)=Z d from h);simp[qZ e2]
def ur{d:List Tg}{k:Nat}(m:X.calm=B)(h:AK G X es d)(j:(assignEach es X.env).length=d.length:=by rfl)(w:(assignEach es X.env).findIdx? (·.1)=L:=by rfl)(z:X.K=G.K:=by rfl):LZ G X (.Tuple es k pos) (oA d) :=
 PG.weak (Dj (n:=d.length) m h j w) λv J H Q i=>by
  obtain⟨M,U,t,F,u,s,r,no,e,q⟩:=i;unfold oA at e;split at e
  ·rename_i l;obtain⟨o,g,y,rfl,rfl,x,f⟩:=r.HX;exact⟨o,g,rfl,HN.of x,by rw[f.len.1];exact qZ e,M,U,l,y,u,s,f,no,e,q⟩
  ·cases e
def pw{tgt:Tg}{body:Sx}{l:Wh}{U:VS.Env}{i:Nat}{t:T}(h:l[i]?=Z t):l.drop i=t :: l.drop (i+1):=by
 obtain⟨d,e⟩:=Zf.mp h;rw[← e];exact List.drop_eq_getElem_cons d
def zA{ci:JI}{g:Tg}{cb:Sx}{D:Ends}{J:L2.St}{H:Hp}(hq:tS G (fZ g ci cb) D J H):FD (tI G ci) (tG G g) (tS G cb) D J H:=by
 obtain⟨M,U,o,s,e,k⟩:=hq;unfold fZ at e;obtain⟨⟨m,l⟩,el,e1⟩:=Zz.mp e;dsimp only at e1;split at e1
 ·rename_i hm;have HR:m ≠ .bo:=λz=>by rw[z]at hm;cases hm
  refine⟨M,U,m,l,s,el,λJq S C e2 ok fc=>?_⟩;have WR:∀a∈C,¬bK M U a:=λa A z=>by
   rcases fc a A with q | q | q
   ·exact GT.gV (s.G7 z) q
   ·exact s.KR z q
   ·exact HR q.1
  refine⟨λi n J2 Q=>n=l.length-i/\∃P d,SR G P d J2 Q/\G1 M U H P d Q/\Kept S Q/\(∀a∈C,∀o,S a=Z o->Q a=Z o/\¬bK P d a)/\forL g cb (l.drop i) d=Z o,
   ⟨l.length-0,rfl,M,U,s.same e2,G1.same e2,Kept.refl _,λa A y E=>⟨E,WR a A⟩,by rw[List.drop_zero];exact e1⟩,?_⟩
  rintro i n J2 Q ⟨rfl,P,d,s2,f2,kp,con,e3⟩;obtain⟨go,stop⟩:=ok.run Q kp λa A y E=>(con a A y E).1;cases hit:l[i]? with
  |none =>
   have hl:l.length<=i:=Yp.mp hit;left;rw[YI hl]at e3;cases (show Z (Out.nx d)=Z o from e3);exact⟨stop i hl,k P J2 Q s2 f2⟩
  |some t =>
   have hl:i<l.length:=(Zf.mp hit).1;right;obtain⟨g1,y1⟩:=go i t hit;rw[pw (tgt:=g) (body:=cb) (U:=d) hit]at e3;obtain⟨U3,e4,e5⟩:=Zz.mp (show (g t d).bind (λU1=>(cb U1).bind λo=>match o with
    |.nx d=>forL g cb (l.drop (i+1)) d
    |.ct d=>forL g cb (l.drop (i+1)) d
    |.bk d=>Z (.nx d)
    |.rt v d=>Z (.rt v d))=Z o from e3)
   obtain⟨y,e6,e7⟩:=Zz.mp e5;refine⟨g1,λN r=>∃j f,SR G j f N r/\G1 M U H j f r/\Kept S r/\(∀a∈C,∀o,S a=Z o->r a=Z o/\¬bK j f a)/\forL g cb (l.drop (i+1)) f=Z o,λN r ⟨j,f,q⟩=>⟨l.length-(i+1),by omega,rfl,j,f,q⟩,λx H3 yl=>?_⟩;obtain⟨Y,F,rF,hF⟩:=y1 x H3 yl;have s3:=s2.same Y;have UN:∀a∈F,¬bK P d a:=λa A z=>by
    rcases hF a A with q | q
    ·have Jf:=ok.G3 a q;cases E:S a with
     |none=>exact Jf E
     |some UL=>exact(con a q UL E).2 z
    ·exact GT.gV (s2.G7 z) q
   refine⟨P,d,t,F,U3,s3,rF,UN,e4,λM3 J3 s4 o3 p3=>?_⟩;have f3:G1 M U H M3 U3 H3:=⟨λa y h n=>let ⟨h1,n1⟩:=f2.keep a y h n;⟨Y a y h1,λz=>n1 (o3 a z)⟩,λa h z=>f2.G3 a h (Y.free z),λa h=>f2.ow a (o3 a h),λa h=>by
    rcases p3 a h with h | h
    ·exact f2.pu a h
    ·rcases hF a h with q | q
     ·rcases fc a q with q | q | q
      ·exact .inr (.inr q)
      ·exact .inl q
      ·exact .inr (.inl q.2)
     ·exact .inr (.inr (f2.none q)),f2.kept.trans (Kept.of Y)⟩
   have next:∀{j f r},G1 M3 U3 H3 j f r->Kept S r/\∀a∈C,∀o,S a=Z o->r a=Z o/\¬bK j f a:=λw =>
    ⟨(kp.trans (Kept.of Y)).trans w.kept,λa A y E=>by
     obtain⟨h1,n1⟩:=con a A y E;exact w.keep a y (Y a y h1) λz=>n1 (o3 a z)⟩
   refine⟨M3,U3,y,s4,e6,?_⟩;cases y with
   |nx f=>exact λj N r O w=>⟨j,f,O,f3.trans w,(next w).1,(next w).2,e7⟩
   |ct f=>exact λj N r O w=>⟨j,f,O,f3.trans w,(next w).1,(next w).2,e7⟩
   |bk f =>
    cases (show Z (Out.nx f)=Z o from e7);exact λj N r O w=>k j N r O (f3.trans w)
   |rt v f =>
    cases (show Z (Out.rt v f)=Z o from e7);exact λu r F4 j N O w r5 q5=>k u r F4 j N O (f3.trans w) r5 (q5.back f3)
 ·cases e1
def dR{d:Expr}{f:List Stmt}{h:JI}{g:Tg}{i:Sx}(m:PassesOwn (KB X.prog X.w) X.A X.env X.xe)(q:X.calm=B)(n:PVI G X tg d h)(o:LZ G X tg g)(r:gD G X f i)(j:∀x,XAA d X.env x=pure x:=by intro _;rfl):PSV G X (.For tg d f [] pos) (fZ g h i):=PS.weak (xH m q n o r j) λD J H l=>zA l
end
def Gk(H:Hp)(b:Xl):Md->Xa->Prop
 |.fr,F=>F.Nodup/\∀a∈F,H a=L
 |_,F=>∀a∈F,H a=L\/a∈b.flatten
def Ja(G:Gx)(g:Fn):Sp:=λe H Q _=>∃b d m r,RpL G H e b d/\g b=Z (m,r)/\∀v a F,aC H a->Rp G a v r F->Gk H d m F->Q v a
section
variable{G:Gx}{X:Cx}{k:Nat}{f:KM}{fd:P3}{ps:List Str}{x:Str}{p pos:Pos}{e:Expr}{es:List Expr}{cs:Hf}{g:Fn}
def call_of{J:L2.St}{H:Hp}{Q:VK}{E:XK}(h:tE G (bB g cs) J H Q):BO (Ja G g) [] E (Ni G cs) J H Q:=by
 obtain⟨M,U,m,t,s,e,u⟩:=h;unfold bB at e;obtain⟨l,Y,e1⟩:=Zz.mp e;obtain⟨⟨n,r⟩,S,e2⟩:=Zz.mp e1;refine⟨M,U,l,s,Y,λN y D b P O=>?_⟩;have A:Args G M U H y l N D:=⟨b,P,O⟩
 have i:=O.join A.len;show Ja G g (N++[]) y Q E;rw[ZV];refine⟨trees l,D,n,r,P,S,λv C F q o j=>?_⟩;have wide:(∀a∈F,y a=L\/a∈D.flatten)->Fp M U H ((Md.pu).join (cJ l)) F:=λh=>by
  cases w:cJ l with
  |fr =>
   rw[w]at i;exact λa d=>.inl ((h a d).elim b.free (i.2 a))
  |pu =>
   rw[w]at i;exact λa d=>(h a d).elim (λz=>.inl (b.free z)) (i a)
  |bo =>
   rw[w]at i;exact λa d=>(h a d).elim (λz=>.inl (b.free z)) (i a)
 cases n with
 |fr =>
  cases e2;exact u v C F (b.trans q) o ⟨j.1,λa d=>b.free (j.2 a d)⟩
 |pu =>
  cases e2;exact u v C F (b.trans q) o (wide j)
 |bo =>
  cases e2;exact u v C F (b.trans q) o (wide j)
def AD(F:FnOk X.prog X.w X.K X.mg X.base Hk k f fd ps (Ja G g))(b:p0 k X.A)(j:Gl X x)(d:X.mg x=Z (.ref f))(i:PySem.W.keepIn X.K (.ref f)=B)(m:Binds X.K fd ps [])(n:HI G X (e :: es) cs)(o:K3 x:=by decide)(l:K1 e es X:=by rfl)(a:K2 pos es X:=by rfl) :
  PV G X (.Call (.Name x p) (e :: es) [] pos) (bB g cs) :=
 PE.weak (mr F b j d i m .nil g6 n o l a) λJ H Q h=>call_of h
def x6{H:Hp}{d:List V}{a:Wh}{m:Xl}(r:RpL G H d a m)(n o:Nat)(w:o=d.length):SR G (λi=>m.getD i []) (a.map (λt=>Z (.pu t))++List.replicate (n-a.length) L) (d.map Z++List.replicate (n-o) L) H:=by
 subst w;have A:=r.len;have back:∀{i:Nat}{c:Cell},(a.map (λt=>Z (Cell.pu t))++List.replicate (n-a.length) L)[i]?=Z (Z c)->∃t,a[i]?=Z t/\c=.pu t:=λ{i c} h=>by
  by_cases q:i<a.length
  ·rw[Z0 (by rw[Zu];exact q),ZO]at h;obtain⟨t,l,b⟩:=Zy.mp h;exact⟨t,l,(Zm b).symm⟩
  ·rw[Yx (by rw[Zu];exact ZM q),Yc]at h;split at h<;>cases h
 refine⟨by simp;lia,λi c h=>?_,λi t h=>?_,λi j t c h=>?_⟩
 ·obtain⟨t,l,rfl⟩:=back h;obtain⟨v,F,s,z,y⟩:=r.get i l;refine⟨v,?_,?_⟩
  ·have:i<d.length:=(Zf.mp s).1;rw[Z0 (by rw[Zu];exact this),ZO,s];rfl
  ·show Rp G H v t (m.getD i []);rw[Zs,z];exact y
 ·obtain⟨u,_,b⟩:=back h;cases b
 ·obtain⟨u,_,b⟩:=back h;cases b
def iM{b:Wh}{n:Nat}{M:GV}{a:KM}:¬bK M (b.map (λt=>Z (Cell.pu t))++List.replicate n L) a:=by
 rintro⟨i,t,h,_⟩;by_cases d:i<b.length
 ·rw[Z0 (by rw[Zu];exact d),ZO]at h;obtain⟨l,_,j⟩:=Zy.mp h;cases j
 ·rw[Yx (by rw[Zu];exact ZM d),Yc]at h;split at h<;>cases h
def sE{H:Hp}{vs:List V}{j:Wh}{d:Xl}{n:Nat}{a:KM}(h:cT (λi=>d.getD i []) (j.map (λt=>Z (Cell.pu t))++List.replicate n L) a):a∈d.flatten:=by
 obtain⟨i,t,_,b⟩:=h;simp only[Zs]at b;cases e:d[i]? with
 |none=>rw[e]at b;simp at b
 |some F=>rw[e]at b;exact cO e b
end
section
variable{G:Gx}{P:Re}{w:UF}{K:Xk}{mg:Xg}{base:SZ}
def RJ{x b:Str}{e:Stmt}{f:KM}{M:P3}{N n:List Str}{k J j:Nat}{c:Sx}(F:G2 K x b e f M)(S:jj N n (aj e))(hp:n.length=J)(hn:N.length=j)(hb:∀(l:On)(A:SB)(outer:List PySem.Env)(s:IR)(H:Hp)(E:XK),p0 k (A.deeper (envOfC b (aj e) s.heap.objs.size f l))->gD G (iF Hk P w K mg base N b (aj e) f l A outer s H E).Jy (aQ e) c) :
  FnOk P w K mg base Hk (k+1) f M n (Ja G (fn J j c)):=by
 refine F.ok S (λvs H Q E h=>?_) λl A outer s H vs Q E hr h=>⟨_,hb l A outer s H E hr,?_⟩
 ·obtain⟨O,Fs,m,r,t,d,_⟩:=h;unfold fn at d;split at d
  ·rename_i p;rw[t.len.1,p,hp]
  ·cases d
 ·obtain⟨O,Fs,m,r,t,d,q⟩:=h;unfold fn at d;split at d
  ·rename_i p;obtain⟨o,e1,e2⟩:=Zz.mp d;have D:=x6 t j vs.length Y;rw[p]at D;have e3:L2.start N vs=vs.map Z++List.replicate (j-vs.length) L:=by
    unfold L2.start;rw[hn]
   rw[e3];refine⟨_,_,o,D,e1,?_⟩;cases o with
   |nx y =>
    cases e2;intro M' J' C U fr;exact q .non C [] (λa o h=>(fr.keep a o h iM).1) .non ⟨Yz,λa h=>by simp at h⟩
   |rt v y =>
    cases e2;intro u C F' M' J' U fr X i;refine q u C F' (λa o h=>(fr.keep a o h iM).1) X ?_;cases m with
    |fr=>exact⟨i.1,λa g=>(i.2 a g).elim id λz=>absurd z iM⟩
    |pu=>exact λa g=>(i a g).elim .inl λz=>z.elim (λz=>.inr (sE (H:=H) (vs:=vs) z)) λz=>absurd z iM
    |bo=>exact λa g=>(i a g).elim .inl λz=>z.elim (λz=>.inr (sE (H:=H) (vs:=vs) z)) λz=>absurd z iM
   |bk y=>cases e2
   |ct y=>cases e2
  ·cases d
end
end VS
end
section
namespace L2
open PySem PySem.Spec PyProof.Rows
theorem la(b:Env):∀(l:List (Str×NameKind))(acc:List (Str×KM)),(∀y∈l,y.2=.free->∃c,b.cells.lookup y.1=Z c)->(∀x c,acc.lookup x=Z c->b.cells.lookup x=Z c) →
  ∃cl,(forIn l acc (λx r=>if (x.snd==NameKind.free)=B then (do let a ← cellOf b x.fst;pure (ForInStep.yield ((x.fst,a) :: r))) else pure (ForInStep.yield r)):Sem (List (Str×KM)))=pure cl ∧
   (∀x c,cl.lookup x=Z c->b.cells.lookup x=Z c)/\(∀x c,acc.lookup x=Z c->∃e,cl.lookup x=Z e)/\∀y∈l,y.2=.free->∃c,cl.lookup y.1=Z c
 |[],acc,_,i=>⟨acc,rfl,i,λx c h=>⟨c,h⟩,λy d=>nomatch d⟩
 | (n,k) :: l,acc,o,i=>by
  by_cases m:k=.free
  ·subst m;obtain⟨c,p⟩:=o (n,.free) Zv Y;have u:cellOf b n=pure c:=by unfold cellOf;dsimp only at p;rw[p]
   have v:∀x e,((n,c) :: acc).lookup x=Z e->b.cells.lookup x=Z e:=λx e h=>by
    rw[Yu]at h;split at h
    ·rename_i g;have:x=n:=by simpa using g
     rw[this,← h];exact p
    ·exact i x e h
   obtain⟨cl,t,s,f,q⟩:=la b l ((n,c) :: acc) (λy d=>o y (Zw _ d)) v;refine⟨cl,?_,s,λx e h=>?_,λy d j=>?_⟩
   ·rw[List.forIn_cons];dsimp only;rw[Zq (show (NameKind.free==NameKind.free)=B from rfl),u,pure_bind,pure_bind];exact t
   ·by_cases g:x=n
    ·exact f x c (by rw[Yu,g];simp)
    ·refine f x e ?_;rw[Yu];have:(x==n)=R:=by simpa using g
     rw[this];exact h
   ·rcases Zp.mp d with rfl | d
    ·exact f n c (by rw[Yu];simp)
    ·exact q y d j
  ·obtain⟨cl,t,s,f,q⟩:=la b l acc (λy d=>o y (Zw _ d)) i;refine⟨cl,?_,s,f,λy d j=>?_⟩
   ·rw[List.forIn_cons];dsimp only;rw[Zn (by simpa using m),pure_bind];exact t
   ·rcases Zp.mp d with rfl | d
    ·exact absurd j m
    ·exact q y d j
def AQ{sc:Scope}{env:Env}(a:∀y∈sc.names,y.2=.free->∃c,env.cells.lookup y.1=Z c) :
  ∃cl,closureFor sc env=pure cl/\(∀x c,cl.lookup x=Z c->env.cells.lookup x=Z c)/\∀y∈sc.names,y.2=.free->∃c,cl.lookup y.1=Z c:=by
 obtain⟨cl,e,d,_,b⟩:=la env sc.names [] a (λx c h=>nomatch h);refine⟨cl,?_,d,b⟩;simp only[closureFor];rw[e];rfl
def gH{l:List (Str×NameKind)}{x:Str}{k:NameKind}(h:l.lookup x=Z k):(x,k)∈l:=by
 induction l with
 |nil=>cases h
 |cons p l a =>
  rw[Yu]at h;split at h
  ·rename_i b;have e:x=p.1:=by simpa using b
   cases h;rw[e];exact Zv
  ·exact Zw _ (a h)
theorem dn{a:Env}{x:Str}{k:NameKind}:∀{l:List (Str×NameKind)},(l.map λ(n,k)=>if (k==NameKind.free&&a.scope.kind == .function&&a.kindOf n==Z .cell) then (n,NameKind.cell) else (n,k)).lookup x=Z k →
  ∃e,l.lookup x=Z e/\(k=e\/(e=.free/\k=.cell))
 |[],h=>nomatch h
 | (n,d) :: l,h=>by
  rw[Zo,Yu]at h;by_cases f:(d==NameKind.free&&a.scope.kind == .function&&a.kindOf n==Z .cell)=B
  ·simp only[f,if_true]at h;rw[Yu];cases b:x==n with
   |true =>
    rw[b]at h;have:d=.free:=by
     have:=(Bool.and_eq_true_iff.mp (Bool.and_eq_true_iff.mp f).1).1;simpa using this
    exact⟨d,rfl,.inr ⟨this,(Zm h).symm⟩⟩
   |false=>rw[b]at h;exact dn h
  ·simp only[f,if_false,X2]at h;rw[Yu];cases b:x==n with
   |true=>rw[b]at h;exact⟨d,rfl,.inl (Zm h).symm⟩
   |false=>rw[b]at h;exact dn h
def bN(X:Cx)(N:List Str)(a:Scope)(d:List (Str×KM))(C:KM)(s:IR)(H:Hp)(b:Xa):Cx :=
 { X with N:=N,s₀:=s,H₀:=H,env:=compEnvC a d C X.env,outer:=X.stack,ex:=b,fn:=λ_=>false,pn:=[],xe:=λ_ _=>False }
def l9(a:Env)(b:Scope):Bool:=b.kind == .function&&b.names.all λy=>match y.2 with
 |.cell=>R
 |.local=>b.names.lookup y.1==Z .local
 |.free=>a.kindOf y.1==Z .cell||a.kindOf y.1==Z .free
 |_=>B
def jZ(d:Scope):List Str->List Str->Bool
 |[],[]=>B
 |a :: e,b :: bs=>((a==b&&d.names.lookup a==Z .free)||d.names.lookup a==L||d.names.lookup a==Z .globalImplicit)&&jZ d e bs
 |_,_=>R
theorem uL{d:Scope}:∀{f bs:List Str},jZ d f bs=B->f.length=bs.length/\∀(i:Nat)(x:Str),f[i]?=Z x->(bs[i]?=Z x/\d.names.lookup x=Z .free)\/d.names.lookup x=L\/d.names.lookup x=Z .globalImplicit
 |[],[],_=>⟨rfl,λi x h=>by simp at h⟩
 |a :: f,b :: bs,h=>by
  simp only[jZ,Ze]at h;obtain⟨g,n⟩:=h;obtain⟨l,r⟩:=uL n;refine⟨by simp[l],λi x e=>?_⟩;cases i with
  |zero =>
   have:a=x:=by simpa using e
   subst this;simp only[Bool.or_eq_true,Ze]at g;rcases g with (⟨m,j⟩ | z) | z
   ·exact .inl ⟨by simpa using(by simpa using m:a=b).symm,by simpa using j⟩
   ·exact .inr (.inl (by simpa using z))
   ·exact .inr (.inr (by simpa using z))
  |succ i=>simpa using r i x (by simpa using e)
 |[],_ :: _,h=>by simp[jZ]at h
 |_ :: _,[],h=>by simp[jZ]at h
section
variable{X:Cx}{pins:Xo}{J:St}{H:Hp}{s:IR}
def Inv.block{N:List Str}{sc:Scope}{cl:List (Str×KM)}{C D:KM}{fp:Xa}{k:Nat}{F:SZ}{t:Nat}{m:Xg}(I:Inv X pins J H s)(Q:l9 X.env sc=B)(Je:jZ sc (N.drop k) X.N=B)(Jh:k<=N.length)(j:∀x c,cl.lookup x=Z c->X.env.cells.lookup x=Z c)(Pq:∀y∈sc.names,y.2=.free->∃c,cl.lookup y.1=Z c)(M:∀b∈fp,nZ X pins H b)(E:s.heap.objs.size<=D)(U:s.heap.objs.size<=C)(Pu:D≠C)(Po:C∉fp)(d:∀b u,s.heap.get? b=Z u->F.get? b=Z u)(Mf:F.Ns C m)(RC:F.get? D=Z { cls:=.type "list",data:=.seq ([]:X3).toArray 0 }) :
  Inv (bN X N sc cl C s H fp) [] (List.replicate k L++J) (upd H D (.lst [])) { s with heap:=F,toks:=t }:=by
 unfold l9 at Q;rw[Ze,Yt]at Q;obtain⟨hk,IL⟩:=Q;have IQ:sc.kind=.function:=by simpa using hk
 obtain⟨hlen,VR⟩:=uL Je;have IS:∀y∈sc.names,y.2 ≠ .cell:=λy hy e=>by have:=IL y hy;rw[e]at this;cases this
 have frees:∀x a,(relabel sc X.env).names.lookup x=Z a->a=.cell\/a=.free->sc.names.lookup x=Z .free:=λx a h VC=>by
  obtain⟨w,f,VB⟩:=dn h;rcases VB with e | ⟨e,_⟩
  ·subst e;rcases VC with e | e
   ·subst e;exact absurd Y (IS _ (gH f))
   ·subst e;exact f
  ·subst e;exact f
 have KA:H D=L:=I.GN.fresh E;have VY:H C=L:=I.GN.fresh U;refine⟨⟨I.mod,IQ,I.ok.glob,I.ok.blt,U,λx y c e1 e2=>I.ok.inj x y c (j x c e1) (j y c e2),λx hx=>?_,λx c e=>(nomatch e),I.ok.hd,I.ok.frames,.inl Y,λb hb=>⟨λ(e:b=C)=>Po (e ▸ hb),λx c e=>(M b hb).2.2.2.2.1 x c (j x c e)⟩,
  I.bs,ZJ I.ok.LV I.sz,λb o e hb=>?_,λb hb g=>?_,I.stack,I.J0⟩,rfl,I.bare,Un.laid d E KA,⟨m,Mf,λi x v e1 e2 O=>?_⟩,λx c e=>?_,?_,λx c e=>?_,λp hp=>(nomatch hp),I.GN.laid d E ?_,?_⟩
 ·have h:∃a,(relabel sc X.env).names.lookup x=Z a/\(a=.cell\/a=.free):=by
   rcases hx with e | e
   ·exact⟨_,e,.inl Y⟩
   ·exact⟨_,e,.inr Y⟩
  obtain⟨a,G,P⟩:=h;exact Pq _ (gH (frees x a G P)) Y
 ·have g:b∈fp:=hb;rcases (M b g).2.2.2.1 with z | z
  ·exact I.ok.KU b o e z
  ·exact absurd (ZL (ZX e) (ZJ I.ok.LV z)) (Yh _)
 ·have VQ:b∈HU X.stack:=g;rcases Zp.mp (I.I0 b VQ) with z | z
  ·exact(M b hb).2.1 z
  ·exact(M b hb).2.2.1 z
 ·
  have Ta:k<=i:=by
   rcases Nat.lt_or_ge i k with z | z
   ·rw[Z0 (by simpa using z),Yc]at e2;split at e2<;>cases e2
   ·exact z
  rw[Yx (by simpa using Ta),YC]at e2;have R6:(N.drop k)[i-k]?=Z x:=by
   rw[List.getElem?_drop,show k+(i-k)=i by exact Nat.add_sub_of_le Ta];exact e1
  have Ui:sc.names.lookup x=Z .free->∃a,(relabel sc X.env).names.lookup x=Z a/\(a=.cell\/a=.free):=λf=>by
   have A:IG (relabel sc X.env) x:=O;rcases A with z | z | z
   ·obtain⟨w,G,P⟩:=dn z;rw[f]at G;cases G;rcases P with q | ⟨_,q⟩<;>cases q
   ·exact⟨_,z,.inl Y⟩
   ·exact⟨_,z,.inr Y⟩
  have no:∀w,sc.names.lookup x=Z w->∃a,(relabel sc X.env).names.lookup x=Z a->True:=λ_ _=>⟨.local,λ_=>trivial⟩
  rcases VR _ x R6 with⟨hX,f⟩ | f | f
  ·obtain⟨a,Nu,Oq⟩:=Ui f;have hf:=IL _ (gH f);have Td:X.env.kindOf x=Z .cell\/X.env.kindOf x=Z .free:=by
    simpa using hf
   obtain⟨mX,hnX,Vu⟩:=I.loc;have PR:IG X.env.scope x:=Td.elim (λz=>.inr (.inl z)) λz=>.inr (.inr z);obtain⟨u,r,l⟩:=Vu _ x v hX e2 PR;refine⟨u,r,.inr ⟨?_,?_⟩⟩
   ·rcases Oq with z | z
    ·subst z;exact .inl Nu
    ·subst z;exact .inr Nu
   ·obtain⟨c,S⟩:=Pq _ (gH f) Y;refine⟨c,S,?_⟩;rcases l with⟨z,_⟩ | ⟨_,c',HB,MR⟩
    ·rcases Td with q | q<;>(rw[z]at q;cases q)
    ·have:=j x c S;rw[HB]at this;cases this;exact MR.keeps d
  ·have A:IG (relabel sc X.env) x:=O;rcases A with z | z | z<;>(obtain⟨w,n,_⟩:=dn z;rw[f]at n;cases n)
  ·have A:IG (relabel sc X.env) x:=O;rcases A with z | z | z<;>(obtain⟨w,n,z2⟩:=dn z;rw[f]at n;cases n;rcases z2 with q | ⟨q,_⟩<;>cases q)
 ·obtain⟨v,z⟩:=I.cell x c (j x c e);exact⟨v,z.keeps d⟩
 ·show upd H D (.lst []) C=L;rw[ax (Yi Pu)];exact VY
 ·obtain⟨v,z⟩:=I.cell x c (j x c e);rw[ax (Zb (ZL z.lt E))];exact I.HM x c (j x c e)
 ·exact⟨Ys _,[],0,.nil,RC⟩
 ·show (List.replicate k L++J).length=N.length;rw[Zt,YC,I.len,← hlen,YW];exact Nat.add_sub_of_le Jh
def xX(X:Cx)(a:List Expr)(t:TT):Prop :=
 ∀(pins:Xo)(s:IR)(J:St)(H:Hp)(Q:Bool->Hp->Prop),Inv X pins J H s->t J H Q →
  PP (KB X.prog X.w) X.A (forIn a B λc r=>if r=B then (do let ok ← isTrue c X.env (eval c X.env);pure (ForInStep.yield ok)) else pure (ForInStep.yield r)) (TP X pins J Q) X.xe s
def j5:xX X [] (λJ H Q=>Q B H):=λpins s J H Q I q=>ZS ⟨H,I,q⟩
def sJ{c:Expr}{t:TT}(h:PT X c t):xX X [c] t:=λpins s J H Q I q=>by
 rw[List.forIn_cons,Zq Y];refine Zl (Zl (thn (h pins s J H Q I q) λb s1 a=>ZS ?_));exact ZS a
section
variable{prog:Re}{w:UF}{A:SB}{R:Result->IR->Prop}
def sy{i a f:Expr}{g:List Expr}{d:Scope}{o:Pos}{p j:On}{b:Env}{s:IR}(I:Nat->IR->Prop)(l:∀n s,I n s->PP (KB prog w) A (pyNext p) (λr t=>match r with
   |none=>R (.ok .next) t
   |some v=>PP (KB prog w) A (letOwnedTupleGo a p v) (λ_ D=>PP (KB prog w) A (assign a b v) (λ_ C =>
     PP (KB prog w) A (forIn g B λc r=>if r=B then (do let ok ← isTrue c b (eval c b);pure (ForInStep.yield ok)) else pure (ForInStep.yield r)) (λok q =>
      if ok=B then PP (KB prog w) A (eval i b) (λx z =>
       PP (KB prog w) A (call (.builtin "list.append") [j,x]) (λ_ y=>∃m,m<n/\I m y) (λ_ _=>False) z) (λ_ _=>False) q
      else ∃m,m<n/\I m q) (λ_ _=>False) C) (λ_ _=>False) D) (λ_ _=>False) t) (λ_ _=>False) s)(n:Nat)(h:I n s) :
  codeAny (KB prog w) A (.compLoop (.ListComp i [⟨a,f,g,0⟩] d o) 0 p j b) R s:=by
 refine codeAny_loop Y I (λn s N=>?_) n h;show PP _ A ((compTurn (.ListComp i [⟨a,f,g,0⟩] d o) 0 p j b).onRaise (λx=>do noteFrame x b;theTreesLotGoes x)) _ _ s;refine wpAny_noted ?_;rw[compTurn_list];refine Zl (wpAny_standAt (Zl (YJ (l n s N) (λr t E=>?_) λ_ _ e=>e.elim)));cases r with
 |none=>exact ZS E
 |some v =>
  refine Zl (YJ E (λ_ D h₀=>?_) λ_ _ e=>e.elim);refine Zl (YJ h₀ (λ_ C M=>Zl (YJ M (λok q u=>?_) λ_ _ e=>e.elim)) λ_ _ e=>e.elim);cases ok with
  |false=>exact ZS ⟨rfl,u⟩
  |true =>
   rw[Zq Y]at u;exact Zl (Zl (YJ u (λx z G=>Zl (YJ G (λ_ y F=>ZS (ZS ⟨rfl,F⟩)) λ_ _ e=>e.elim)) λ_ _ e=>e.elim))
end
noncomputable def qJ(k:Nat)(q:TI)(g:TG)(t:TT)(r:TE)(J:St)(H:Hp)(Q:VK):Prop:=q J H λh p=>∀D,p D=L->∃W:Nat->Nat->St->Hp->Prop,
 (∃m,W 0 m (List.replicate k L++J) (upd p D (.lst [])))/\∀i m j d,W i m j d->(h.stop i d/\Q (.ref D) d)\/(h.go i d/\∀x o,h.O0 i d x o->g x j o λe u=>t e u λb n =>
  if b=B then r e n λy l=>∃f,l D=Z (.lst f)/\f.length<KF/\∃a,a<m/\W (i+1) a e (upd l D (.lst (f++[y]))) else ∃a,a<m/\W (i+1) a e n)
def oY{F tg f:Expr}{l:List Expr}{sc:Scope}{pos pos':Pos}{N:List Str}{k:Nat}{wi:TI}{g:TG}{tc:TT}{te:TE}{use:Option (On->Sem Unit)}{QQ:Z5}{Q:VK}(G5:X.calm=B)(hi:PI X tg f wi)(ID:l9 X.env sc=B)(Je:jZ sc (N.drop k) X.N=B)(Jh:k<=N.length)(IK:∀cl C s H fp,PG (bN X N sc cl C s H fp) tg g/\xX (bN X N sc cl C s H fp) l tc/\PE (bN X N sc cl C s H fp) F te)(hs:∀x,XAA f X.env x=pure x)(I:Inv X pins J H s)(h:qJ k wi g tc te J H Q)(hq:∀U j D C m,Inv X pins J j U->Q (.ref D) j->U.heap.Ns C m->nZ X pins j C->compPost (KB X.prog X.w) X.A X.xe use QQ (.ref D) C (.ok .next) U) :
  PP (KB X.prog X.w) X.A (comprehension (.ListComp F [⟨tg,f,l,0⟩] sc pos) sc X.env pos' (newList []) R (eval f X.env) use) QQ X.xe s:=by
 have ML:=ID;unfold l9 at ML;rw[Ze,Yt]at ML;obtain⟨hk,IL⟩:=ML;have IQ:sc.kind=.function:=by simpa using hk
 have IS:∀y∈sc.names,y.2 ≠ .cell:=λy E e=>by have:=IL y E;rw[e]at this;cases this
 have MP:∀y∈sc.names,y.2=.local->sc.names.lookup y.1=Z .local:=λy E e=>by
  have:=IL y E;rw[e]at this;simpa using this
 obtain⟨cl,Rw,Lo,Pq⟩:=AQ (sc:=sc) (env:=X.env) λy E e=>I.ok.has y.1 (by
  have:=IL y E;rw[e]at this;simpa using this)
 refine wpAny_comprehension_free (use:=use) rfl hs Rw IQ MP (thn (hi pins s J H _ I h) λv s1 h1=>thn h1 λQN a h2=>?_);obtain⟨it,fp,tn,Jq,H2,e,I2,T,O8,f2,hW⟩:=h2;subst e;refine XQ (wpAny_newFunctionEnv IS (by intro y E;simp at E) (λh₁ JU Jd=>?_) IQ);dsimp only at JU Jd ⊢;generalize hP:a.heap.push { cls:=.type "list",dict:=L,data:=.seq ([]:X3).toArray }=P at JU Jd ⊢;have RF:P.objs.size=a.heap.objs.size+1:=by rw[← hP,Wy]
 have old:∀b o,a.heap.get? b=Z o->h₁.get? b=Z o:=λb o e =>
  Jd.extBut b o (by rw[RF];exact Zb (Yd (ZX e))) (Zk _ (hP ▸ Zk _ e))
 have Pu:a.heap.objs.size≠P.objs.size:=by rw[RF];exact Zb (Yv _)
 have RC:h₁.get? a.heap.objs.size=Z { cls:=.type "list",data:=.seq ([]:X3).toArray 0 }:=Jd.extBut _ _ Pu (Zk _ (hP ▸ ZU _ rfl));have MU:a.heap.objs.size<=P.objs.size:=by rw[RF];exact Xe _
 have L9:∀b∈fp,b<a.heap.objs.size:=λb hb=>let ⟨o,ho,_⟩:=T.obj 0 _ O8 b hb;ZX ho
 have Po:P.objs.size∉fp:=λhb=>absurd (ZL (L9 _ hb) MU) (Yh _);have IY:=I2.block (N:=N) (sc:=sc) (cl:=cl) (C:=P.objs.size) (D:=a.heap.objs.size) (fp:=fp) (k:=k) (t:=a.toks+([]:List (Str×On)).length) ID Je Jh Lo Pq f2 (Zj _) MU Pu Po old JU RC;obtain⟨hG,hT,hE⟩:=IK cl P.objs.size a H2 fp;generalize hY:bN X N sc cl P.objs.size a H2 fp=Y at IY hG hT hE;have VU:Y.prog=X.prog/\Y.w=X.w/\Y.K=X.K/\Y.A=X.A/\Y.env=compEnvC sc cl P.objs.size X.env/\Y.calm=X.calm/\(Y.xe=λ_ _=>False):=by rw[← hY];exact⟨rfl,rfl,rfl,rfl,rfl,rfl,rfl⟩
 obtain⟨O,M,y3,G,y5,y6,y7⟩:=VU;have JO:∀{j:Hp},(∀b∈fp,j b=L)->∀b∈fp,nZ Y [] j b:=λ{j} hn b hb=>by
  rw[← hY];refine⟨hn b hb,λ(e:b=P.objs.size)=>Po (e ▸ hb),λhb'=>?_,.inl hb,λx c e=>(f2 b hb).2.2.2.2.1 x c (Lo x c e),λp hp=>(nomatch hp)⟩;rcases Zp.mp (I2.I0 b hb') with z | z
  ·exact(f2 b hb).2.1 z
  ·exact(f2 b hb).2.2.1 z
 obtain⟨W,⟨m0,w0⟩,turn⟩:=hW a.heap.objs.size (I2.GN.fresh (Zj _));have Rq:∀b∈fp,upd H2 a.heap.objs.size (.lst []) b=L:=λb hb=>by rw[ax (Zb (L9 b hb))];exact(f2 b hb).1
 have L4:tn 0 h₁:=T.keep _ _ _ O8 λb _ o e=>old b o e;have loop:codeAny (KB X.prog X.w) X.A (.compLoop (.ListComp F [⟨tg,f,l,0⟩] sc pos) 0 (.ref it) (.ref a.heap.objs.size) (compEnvC sc cl P.objs.size X.env)) (compPost (KB X.prog X.w) X.A X.xe use QQ (.ref a.heap.objs.size) P.objs.size)
   { a with heap:=h₁,toks:=a.toks+([]:List (Str×On)).length }:=by
  refine sy (λn U=>∃i J' j,Inv Y [] J' j U/\tn i U.heap/\(∀b∈fp,j b=L)/\W i n J' j) ?_ m0 ⟨0,_,_,IY,L4,Rq,w0⟩;rintro n s3 ⟨i,J3,H3,I3,L4,OA,w3⟩;rcases turn i n J3 H3 w3 with⟨stop,qn⟩ | ⟨go,step⟩
  ·have q:=T.done Y O M y3 (y6.trans G5) i [] s3 J3 H3 (λ_ _=>False) I3 (JO OA) L4 stop;rw[G]at q;refine thn q λr s4 ⟨hr,I4⟩=>?_;subst hr;have IX:Inv X pins J H3 s4:=by
    have b4:=I4.base;have o4:=I4.os;have k4:=I4.GN;rw[← hY]at b4 o4 k4;refine I2.ON (ch:=fp) o4 b4 k4 I4.bare λb hb=>?_;exact⟨(f2 b hb).2.2.2.1,(f2 b hb).2.1,(f2 b hb).2.2.2.2.1,(f2 b hb).2.2.2.2.2⟩
   obtain⟨mC,S9,_⟩:=I4.loc;have f4:=I4.free;rw[y5]at S9 f4;exact hq s4 H3 _ P.objs.size mC IX qn S9 (I2.Ko MU f4)
  ·have q:=T.item Y O M y3 (y6.trans G5) i [] s3 J3 H3 (λ_ _=>False) I3 (JO OA) L4 go;rw[G]at q;refine thn q λr s4 ⟨u,hr,h4⟩=>?_;subst hr;refine thn h4 λ_ s5 ⟨x,H5,I5,r5,Ud,Mx,RI⟩=>?_;have Sj:=I5.pinned (JO RI) (T.obj _ _ Mx);have again:∀{J7:St}{H7:Hp}{S:IR}{m:Nat},Inv Y ([]++nI fp s5.heap) J7 H7 S->W (i+1) m J7 H7->∃i J' j,Inv Y [] J' j S/\tn i S.heap/\(∀b∈fp,j b=L)/\W i m J' j:=λ{J7 H7 S m} I7 w7=>by
    refine⟨i+1,J7,H7,I7.HW,T.keep _ _ _ Mx λb hb o e=>(I7.pin (b,o) (ZQ _ (ZQ _ (ik hb e)))).1,λb hb=>?_,w7⟩;obtain⟨o,e,d⟩:=T.obj _ _ Mx b hb;exact(I7.pin (b,o) (ZQ _ (ZQ _ (ik hb e)))).2.1
   have qa:=hG _ s5 J3 H5 x u _ Sj r5 (step x H5 Ud);rw[O,M,G,y5,y7]at qa;refine thn qa λ_ s6 ⟨J6,H6,I6,q6⟩=>?_;have qt:=hT _ s6 J6 H6 _ I6 q6;rw[O,M,G,y5,y7]at qt;refine thn qt λb S ⟨H7,I7,q7⟩=>?_;cases b with
   |false =>
    rw[Zn Zc]at q7 ⊢;obtain⟨m',hm,w7⟩:=q7;exact⟨m',hm,again I7 w7⟩
   |true =>
    rw[Zq rfl]at q7 ⊢;have qe:=hE _ S J6 H7 _ I7 q7;rw[O,M,G,y5,y7]at qe;refine thn qe λyv s8 ⟨y,H8,I8,r8,ys,V0,Vv,m',hm,w8⟩=>?_;have qp:=jo (X:=Y) _ s8 J6 H8 (.ref a.heap.objs.size) [y] (.ref a.heap.objs.size) [yv] (λ_ H9=>W (i+1) m' J6 H9) I8 rfl (.cons r8 .nil) ⟨_,ys,y,rfl,rfl,V0,Vv,w8⟩;rw[O,M,G,y7]at qp;refine thn qp λ_ s9 ⟨_,H9,I9,_,w9⟩=>?_;exact⟨m',hm,again I9 w9⟩
 exact codeAny_compStart_list loop (T.self _ 0 _ _ _ L4 loop)
def mN{j l a:Expr}{i:List Expr}{d:Scope}{n:Pos}{N:List Str}{k:Nat}{p:TI}{g:TG}{t:TT}{r:TE}(P:X.calm=B)(y:PI X l a p)(F:l9 X.env d=B)(A:jZ d (N.drop k) X.N=B)(z:k<=N.length)(E:∀cl C s H fp,PG (bN X N d cl C s H fp) l g/\xX (bN X N d cl C s H fp) i t/\PE (bN X N d cl C s H fp) j r)(v:∀x,XAA a X.env x=pure x:=by intro _;rfl):PE X (.ListComp j [⟨l,a,i,0⟩] d n) (qJ k p g t r):=by
 intro pins s J H Q I h;rw[eval_ListComp];refine oY (use:=L) P y F A z E v I h λu O D C m G q w f=>⟨m,w,λS M=>?_⟩
 exact⟨.ref D,O,G.turned (it:=C) (t':=u.toks) (λb o hb e=>M.extBut b o hb e) f.1 f.2.1 f.2.2.2.1 f.2.2.2.2.1 f.2.2.2.2.2,rfl,q⟩
def mZ{p t d:Expr}{n:List Expr}{l:Scope}{r j F:Pos}{N:List Str}{k i:Nat}{x:Str}{w:TI}{g:TG}{E:TT}{y:TE}(hN:X.N.Nodup)(Rm:X.N[i]?=Z x)(O:Loc X.env.scope x)(G5:X.calm=B)(U:PI X t d w)(ID:l9 X.env l=B)(Je:jZ l (N.drop k) X.N=B)(Jh:k<=N.length)(IK:∀cl C s H fp,PG (bN X N l cl C s H fp) t g/\xX (bN X N l cl C s H fp) n E/\PE (bN X N l cl C s H fp) p y)(Jc:swapsWith (.ListComp p [⟨t,d,n,0⟩] l r) (Z (.Name x j)) F.line X.env=pure B)(hf:X.fn x=B\/X.env.scope.names.lookup x=Z .local)(P:∀x,XAA d X.env x=pure x:=by intro _;rfl) :
  PS X (.Assign [.Name x j] (.ListComp p [⟨t,d,n,0⟩] l r) F) (λD J H=>qJ k w g E y J H λv H1=>D.nx (J.set i (Z v)) H1):=by
 intro pins s J H D I h;rw[exec_Assign_Name_used _ _ _ _ Jc];refine Zl (wpAny_standAt (Zl ?_));show PP _ X.A (do let _ ← comprehension (.ListComp p [⟨t,d,n,0⟩] l r) l X.env _ (newList []) R (eval d X.env) (Z (assign (.Name x j) X.env))) _ _ s;refine Zl (YJ (oY (use:=Z (assign (.Name x j) X.env)) (QQ:=λ_ u=>SP X pins D .next u) G5 U ID Je Jh IK P I h λu H' G C m I' q S f=>?_) (λ_ u Q=>ZS (ZS Q)) λ_ _ e=>e);show PP _ X.A (assign (.Name x j) X.env (.ref G)) _ _ _;refine wpAny_assign_Name (oP I' hN Rm O (v:=.ref G) Y (λM I2 ⟨a,Vg,ha⟩=>?_) hf);have V1:C≠a:=λe=>by
  rcases ha with z | z
  ·exact f.2.1 (e.trans z)
  ·exact f.2.2.2.2.1 x a z e.symm
 refine⟨m,S.sameBut Vg V1,λh' HS=>⟨_,H',?_,q⟩⟩;exact I2.turned (it:=C) (t':=M.toks) (λb o hb e=>HS.extBut b o hb e) f.1 f.2.1 f.2.2.2.1 f.2.2.2.2.1 f.2.2.2.2.2
end
end L2
end
section
namespace VS
open PySem PySem.Spec PyProof.Rows L2
def oE(k:Nat)(g:Tg):Prop:=∀t U a,g t U=Z a->a.length=U.length/\∀i,k<=i->a[i]?=U[i]?
def fT{k i:Nat}(h:i<k:=by decide):oE k (ba i):=λt U b e=>by
 unfold ba at e;split at e
 ·cases e;exact⟨by simp,λj a=>by rw[Yr (by lia)]⟩
 ·cases e
theorem uX{k:Nat}:∀{d:List Tg},(∀g∈d,oE k g)->∀b U a,oi d b U=Z a->a.length=U.length/\∀i,k<=i->a[i]?=U[i]?
 |[],_,[],U,a,e=>by cases (show Z U=Z a from e);exact⟨rfl,λ_ _=>rfl⟩
 |[],_,_ :: _,U,a,e=>by simp[oi]at e
 |_ :: _,_,[],U,a,e=>by simp[oi]at e
 |g :: d,h,t :: b,U,a,e=>by
  obtain⟨j,e1,e2⟩:=Zz.mp (show (g t U).bind (λa=>oi d b a)=Z a from e);obtain⟨p,o⟩:=h g Zv t U j e1;obtain⟨n,m⟩:=uX (λl hg=>h l (Zw _ hg)) b j a e2;exact⟨n.trans p,λi f=>(m i f).trans (o i f)⟩
def xC{k:Nat}{b a:Tg}(f:oE k b)(d:oE k a):oE k (oA [b,a]):=λt U h e=>by
 unfold oA at e;split at e
 ·refine uX (λg hg=>?_) _ U h e;rcases Zp.mp hg with rfl | hg
  ·exact f
  ·rw[Zh.mp hg];exact d
 ·cases e
theorem uH:∀(l:Wh){i:Nat}{t:T},eQ l=B->l[i]?=Z t->GQ t=B
 |[],_,_,_,h=>by simp at h
 |x :: l,0,t,h,e=>by
  simp only[eQ,Ze]at h;simp at e;rw[← e];exact h.1
 |x :: l,i+1,t,h,e=>by
  simp only[eQ,Ze]at h;exact uH l h.2 (by simpa using e)
def tC(G:Gx):Option Ex->TT
 |none=>λJ H Q=>Q B H
 |some c=>tT G c
section
variable{G:Gx}{M:GV}{U:VS.Env}{J:L2.St}{H:Hp}{k:Nat}
def j9{i:Nat}{c:Cell}:(List.replicate k L++U)[i]?=Z (Z c)↔k<=i/\U[i-k]?=Z (Z c):=by
 rcases Nat.lt_or_ge i k with h | h
 ·rw[Z0 (by simpa using h),Yc];constructor
  ·intro e;split at e<;>cases e
  ·intro ⟨e,_⟩;lia
 ·rw[Yx (by simpa using h),YC];exact⟨λe=>⟨h,e⟩,λe=>e.2⟩
def xS{a:KM}:bK (λi=>M (i-k)) (List.replicate k L++U) a↔bK M U a:=by
 constructor
 ·rintro⟨j,t,d,b⟩;exact⟨j-k,t,(j9.mp d).2,b⟩
 ·rintro⟨j,t,d,b⟩;refine⟨j+k,t,j9.mpr ⟨Nat.le_add_left _ _,by rw[Xj];exact d⟩,?_⟩;show a∈M (j+k-k);rw[Xj];exact b
def zb{a:KM}:cT (λi=>M (i-k)) (List.replicate k L++U) a↔cT M U a:=by
 constructor
 ·rintro⟨j,t,d,b⟩;exact⟨j-k,t,(j9.mp d).2,b⟩
 ·rintro⟨j,t,d,b⟩;refine⟨j+k,t,j9.mpr ⟨Nat.le_add_left _ _,by rw[Xj];exact d⟩,?_⟩;show a∈M (j+k-k);rw[Xj];exact b
def SR.sh(s:SR G M U J H):SR G (λi=>M (i-k)) (List.replicate k L++U) (List.replicate k L++J) H:=by
 refine⟨by simp[s.len],λi c h=>?_,λi t h=>?_,λi j t c b a n=>?_⟩
 ·obtain⟨b,a⟩:=j9.mp h;obtain⟨v,e,d⟩:=s.rp _ c a;refine⟨v,?_,d⟩;rw[Yx (by simpa using b),YC];exact e
 ·exact s.nd _ t (j9.mp h).2
 ·obtain⟨m,g⟩:=j9.mp b;obtain⟨l,f⟩:=j9.mp a;exact s.sep _ _ t c g f (by lia)
def SR.less{a:VS.Env}(s:SR G M a J H)(b:U.length=a.length)(h:∀(i:Nat) c,U[i]?=Z (Z c)->a[i]?=Z (Z c)):SR G M U J H :=
 ⟨b.trans s.len,λi c e=>s.rp i c (h i c e),λi t e=>s.nd i t (h i _ e),λi j t c e1 e2 n=>s.sep i j t c (h i _ e1) (h j _ e2) n⟩
def SR.off{D:KM}{o:HO}(s:SR G M U J H)(m:GT (H D)\/H D=L)(d:¬cT M U D)(a:¬bK M U D):SR G M U J (upd H D o):=by
 refine⟨s.len,λi c e=>?_,s.nd,s.sep⟩;obtain⟨v,h,g⟩:=s.rp i c e;refine⟨v,h,g.keep (Kept.upd m) λb hb j f=>?_⟩;rw[ax λz=>?_]
 ·exact f
 ·subst z;cases c with
  |pu t=>exact d ⟨i,t,e,hb⟩
  |ow t=>exact a ⟨i,t,e,hb⟩
theorem nW:∀(l:Wj)(v:Val),cJ (l++[v])=(cJ l).join v.1
 |[],(m,t)=>by cases m<;>rfl
 | (m,t) :: l,v=>by
  show m.join (cJ (l++[v]))=(m.join (cJ l)).join v.1;rw[nW l v];generalize cJ l=q;generalize v.1=r;cases m<;>cases q<;>cases r<;>rfl
def Fp.Od{m n:Md}{F j:Xa}(f:Fp M U H m F)(g:Fp M U H n j)(d:n=.fr->∀a∈F,a∉j):Fp M U H (m.join n) (F++j):=by
 have both:∀{P:KM->Prop},(∀a∈F,P a)->(∀a∈j,P a)->∀a∈F++j,P a:=λp q a h=>(Zd.mp h).elim (p a) (q a);cases m<;>cases n
 ·exact⟨ZR.mpr ⟨f.1,g.1,λa i b hb e=>d Y a i (e ▸ hb)⟩,both f.2 g.2⟩
 ·exact both (λa i=>.inl (f.2 a i)) g
 ·exact both (λa i=>.inl (f.2 a i)) g
 ·exact both f λa i=>.inl (g.2 a i)
 ·exact both f g
 ·exact both (λa i=>(f a i).imp id .inl) g
 ·exact both f λa i=>.inl (g.2 a i)
 ·exact both f λa i=>(g a i).imp id .inl
 ·exact both f g
def Fp.OL{m:Md}{F:Xa}{D:KM}(f:Fp M U H m F)(h:H D=L)(d:D∉F):Fp M U H m (D :: F):=by
 have all:∀{P:KM->Prop},P D->(∀a∈F,P a)->∀a∈D :: F,P a:=λp q a b=>(Zp.mp b).elim (λe=>e ▸ p) (q a);cases m
 ·exact⟨Zg.mpr ⟨d,f.1⟩,all h f.2⟩
 ·exact all (.inl h) f
 ·exact all (.inl h) f
end
section
variable{G:Gx}{k:Nat}{tg:Tg}{ci:JI}{cond:Option Ex}{ce:Ex}
noncomputable def CI(G:Gx)(M:GV)(U b:VS.Env)(H p:Hp)(D:KM)(l:Wh)(h:Wj)(q:Tg)(d:Option Ex)(r:Ex)(i n:Nat)(s:L2.St)(f:Hp):Prop:=n=l.length-i/\∃e g j m rest,SR G e b s f/\(∀a,bK e b a->bK M U a)/\(∀a,cT e b a->H a=L\/cT M U a)/\¬cT e b D/\¬bK e b D/\Kept p f ∧
     (∀a o,a≠D->p a=Z o->f a=Z o)/\f D=Z (.lst m)/\RpL G f m (trees g) j/\D∉j.flatten/\Fp M U H (cJ g) j.flatten/\jA q d r b (l.drop i)=Z rest/\g++rest=h
def mI{J:L2.St}{H:Hp}{Q:VK}(IK:oE k tg)(h:tE G (du k tg ci cond ce) J H Q):qJ k (tI G ci) (tG G tg) (tC G cond) (tE G ce) J H Q:=by
 refine L2.jy λP_ S=>?_;obtain⟨M,U,m,r,s,e,kq⟩:=h;unfold du at e;obtain⟨⟨mi,l⟩,el,e1⟩:=Zz.mp e;dsimp only at e1;split at e1
 ·rename_i GN;obtain⟨all,ea,e2⟩:=Zz.mp e1;unfold JR at e2;split at e2
  ·rename_i hlen;cases e2;refine S ?_;refine⟨M,U,mi,l,s,el,λJq H1 C e3 ok fc D hD=>?_⟩;have KA:H D=L:=e3.free hD;let U0:VS.Env:=List.replicate k L++U
   have good:∀{t:T}{i:Nat}{O H2:Hp}{v:V}{F:Xa},l[i]?=Z t->Rp G H2 v t F->(∀a,H1 a≠L->O a≠L)->(∀a∈F,a∈C\/O a=L)->∀a∈F,(H a=L\/cT M U a)/\¬bK M U a:=λ{t i O H2 v F} hi rF keep hF a d=>by
    have G3:∀{b},H b≠L->O b≠L:=λ{b} hb=>keep b λz=>hb (e3.free z);rcases hF a d with z | z
    ·rcases fc a z with q | q | ⟨q,w⟩
     ·exact⟨.inl q,λw=>GT.gV (s.G7 w) q⟩
     ·exact⟨.inr q,λw=>s.KR w q⟩
     ·subst q;have:GQ t=B:=by
       exact uH l GN hi
      rw[rF.GQ this]at d;simp at d
    ·have hz:H a=L:=Classical.byContradiction λq=>G3 q z;exact⟨.inl hz,λw=>GT.gV (s.G7 w) hz⟩
   refine⟨CI G M U U0 H H1 D l all tg cond ce,?_,?_⟩
   ·refine⟨l.length-0,rfl,λi=>M (i-k),[],[],[],all,?_,λa h=>xS.mp h,λa h=>.inr (zb.mp h),λh=>?_,λh=>?_,Kept.upd (.inr hD),λa o n h=>by rw[ax n];exact h,au,.nil,by simp,Fp.nil,by rw[List.drop_zero];exact ea,rfl⟩
    ·exact((s.same e3).sh).off (.inr hD) (λh=>GT.gV (s.Iu (zb.mp h)) KA) λh=>GT.gV (s.G7 (xS.mp h)) KA
    ·exact GT.gV (s.Iu (zb.mp h)) KA
    ·exact GT.gV (s.G7 (xS.mp h)) KA
   ·intro i n J' O VG;refine L2.jy λP_ S=>?_;obtain⟨rfl,M1,P,Fs,xs,rest,s1,Nl,UH,UM,UO,kp,old,Nw,rp,nD,fp,er,ev⟩:=VG;refine S ?_;have Kb:∀a,H1 a≠L->O a≠L:=λa d z=>by
     by_cases q:a=D
     ·subst q;rw[Nw]at z;cases z
     ·cases e:H1 a with
      |none=>exact d e
      |some o=>rw[old a o q e]at z;cases z
    refine L2.jy λP_ S=>?_;obtain⟨go,stop⟩:=ok.run O kp λa d o ho=>old a o (λz=>ok.G3 a d (z ▸ hD)) ho;cases hit:l[i]? with
    |none =>
     have hl:l.length<=i:=Yp.mp hit;refine S ?_;left;refine⟨stop i hl,?_⟩;rw[YI hl]at er;cases (show Z ([]:Wj)=Z rest from er);rw[ZV]at ev;subst ev;refine kq (.ref D) O (D :: Fs.flatten) (λa o h=>old a o (λz=>by rw[z,KA]at h;cases h) (e3 a o h)) (.lst Nw rp) ?_;by_cases hi:eQ (trees P)=B
     ·rw[Zq hi,rp.GQ hi];exact⟨by simp,λa d=>by rw[Zh.mp d];exact KA⟩
     ·rw[Zn hi];exact fp.OL KA nD
    |some t =>
     have hl:i<l.length:=(Zf.mp hit).1;obtain⟨g1,y1⟩:=go i t hit;refine S ?_;right;refine⟨g1,λx H2 yl=>?_⟩;refine L2.jy λP_ S=>?_;obtain⟨E,F,rF,hF⟩:=y1 x H2 yl;rw[pw (tgt:=tg) (body:=dF) (U:=U) hit]at er;rw[jA]at er;obtain⟨p,e4,e5⟩:=Zz.mp er;obtain⟨b,eb,e6⟩:=Zz.mp e5;have gd:=good hit rF Kb hF;have s2:=s1.same E;have DF:D∉F:=λh=>by
      rcases hF D h with z | z
      ·exact ok.G3 D z hD
      ·rw[Nw]at z;cases z
     refine S ?_;refine⟨M1,U0,t,F,p,s2,rF,λa d z=>(gd a d).2 (Nl a z),e4,λg J3 s3 o3 p3=>?_⟩;obtain⟨tl,NI⟩:=IK t U0 p e4;have low:∀j c,U0[j]?=Z (Z c)->p[j]?=Z (Z c):=λj c h=>by rw[NI j (j9.mp h).1];exact h
     have Pc:∀a,cT g p a->H a=L\/cT M U a:=λa h=>(p3 a h).elim (UH a) λh=>(gd a h).1;have P7:∀a,bK g p a->bK M U a:=λa h=>Nl a (o3 a h);have N1:¬cT g p D:=λh=>(p3 D h).elim UM DF;have Pf:¬bK g p D:=λh=>UO (o3 D h);have Pb:∀a,cT g U0 a->cT g p a:=λa ⟨j,u,h1,h2⟩=>⟨j,u,low j _ h1,h2⟩
     have Pd:∀a,bK g U0 a->bK g p a:=λa ⟨j,u,h1,h2⟩=>⟨j,u,low j _ h1,h2⟩
     have L6:∀A,aC H2 A->(if b=B then tE G ce J3 A λy N=>∃ys,N D=Z (.lst ys)/\ys.length<KF/\∃m',m'<l.length-i/\CI G M U U0 H H1 D l all tg cond ce (i+1) m' J3 (upd N D (.lst (ys++[y]))) else ∃m',m'<l.length-i/\CI G M U U0 H H1 D l all tg cond ce (i+1) m' J3 A):=λA f=>by
      have eo:∀{N},aC A N->∀a o,O a=Z o->N a=Z o:=λ{N} Nz a o h=>Nz a o (f a o (E a o h));cases b with
      |false =>
       rw[Zn Zc]at e6 ⊢;have same:=eo (aC.refl A);exact⟨_,by lia,rfl,g,P,Fs,xs,rest,(s3.same f).less (by rw[tl]) low,λa h=>P7 a (Pd a h),λa h=>Pc a (Pb a h),λh=>N1 (Pb D h),λh=>Pf (Pd D h),kp.trans ((Kept.of E).trans (Kept.of f)),λa o n h=>same a o (old a o n h),same D _ Nw,rp.same (aC.trans E f),nD,fp,e6,ev⟩
      |true =>
       rw[Zq Y]at e6 ⊢;obtain⟨⟨mv,tv⟩,WI,e7⟩:=Zz.mp e6;obtain⟨NS,WG,TZ⟩:=Zy.mp e7;refine⟨g,p,mv,tv,s3.same f,WI,λy N Fy Nz ry X=>?_⟩;have same:=eo Nz;have Oy:=same D _ Nw;have LK:GT (N D):=by rw[Oy];exact True.intro
       have RD:A D=Z (.lst xs):=f D _ (E D _ Nw);have KS:∀a,A a=L->H a=L:=λa h=>Classical.byContradiction λq=>Kb a (λz=>q (e3.free z)) (E.free (f.free h));have V5:Fp M U H mv Fy:=by
        cases mv with
        |fr=>exact⟨X.1,λa d=>KS a (X.2 a d)⟩
        |pu=>exact λa d=>(X a d).elim (λz=>.inl (KS a z)) (Pc a)
        |bo=>exact λa d=>(X a d).elim (λz=>.inl (KS a z)) λz=>z.elim (λz=>(Pc a z).imp id .inl) λz=>.inr (.inr (P7 a z))
       have Ua:D∉Fy:=λh=>by
        cases mv with
        |fr=>have:=X.2 D h;rw[RD]at this;cases this
        |pu=>exact(X D h).elim (λz=>by rw[RD]at z;cases z) N1
        |bo=>exact(X D h).elim (λz=>by rw[RD]at z;cases z) λz=>z.elim N1 Pf
       have UA:RpL G N xs (trees P) Fs:=rp.same ((E.trans f).trans Nz);have UT:xs.length=P.length:=by rw[rp.len.1];simp
       have UU:P.length<all.length:=by rw[← ev,← TZ];simp
       refine⟨xs,Oy,?_,_,by lia,rfl,g,P++[(mv,tv)],Fs++[Fy],xs++[y],NS,(((s3.same f).same Nz).off (.inl LK) N1 Pf).less (by rw[tl]) low,λa h=>P7 a (Pd a h),λa h=>Pc a (Pb a h),λh=>N1 (Pb D h),λh=>Pf (Pd D h),?_,λa o n h=>?_,au,?_,?_,?_,WG,?_⟩
       ·have Oo:all.length<=eO:=by simpa using hlen
        have:KF=eO:=rfl;lia
       ·exact(kp.trans ((Kept.of E).trans ((Kept.of f).trans (Kept.of Nz)))).trans (Kept.upd (.inl LK))
       ·rw[ax n];exact same a o (old a o n h)
       ·have:trees (P++[(mv,tv)])=trees P++[tv]:=by simp
        rw[this];exact(UA.off LK nD).append (.cons (ry.keep (Kept.upd (.inl LK)) λb hb o ho=>by rw[ax (λz=>Ua (by rw[← z];exact hb))];exact ho) .nil)
       ·rw[Z4];intro h;rcases Zd.mp h with z | z
        ·exact nD z
        ·exact Ua (by simpa using z)
       ·rw[Z4,nW];have:([Fy]:Xl).flatten=Fy:=by simp
        rw[this];refine fp.Od V5 λhm a d hb=>?_;subst hm;have h4:=X.2 a hb;have:GT (A a):=(rp.same (E.trans f)).G3 a d;rw[h4]at this;exact this
       ·rw[ZG,← ev,← TZ];rfl
     cases cond with
     |none =>
      cases (show Z B=Z b from eb);exact L6 H2 (aC.refl H2)
     |some c =>
      obtain⟨⟨mc,xc⟩,WK,LU⟩:=Zz.mp eb;exact⟨g,p,mc,xc,b,s3,WK,LU,λA f=>L6 A f⟩
  ·cases e2
 ·cases e1
end
section
variable{G:Gx}{X:Cx}{elt tg iter c:Expr}{sc:Scope}{pos pos' Jw:Pos}{N:List Str}{k i:Nat}{x:Str}{ci:JI}{g:Tg}{cc ce:Ex}
def kB(k:Nat)(N:List Str)(n:X.calm=B)(b:PVI G X tg iter ci)(l:oE k g)(d:∀cl C s H fp,LZ G (bN X N sc cl C s H fp) tg g)(e:∀cl C s H fp,PV G (bN X N sc cl C s H fp) elt ce)(m:l9 X.env sc=B:=by rfl)(j:jZ sc (N.drop k) X.N=B:=by rfl)(f:k<=N.length:=by decide)(a:∀x,XAA iter X.env x=pure x:=by intro _;rfl) :
  PV G X (.ListComp elt [⟨tg,iter,[],0⟩] sc pos) (du k g ci L ce) :=
 PE.weak (mN n b m j f (λcl C s H fp=>⟨d cl C s H fp,j5,e cl C s H fp⟩) a) λJ H Q h=>mI (cond:=L) l h
def v8(k:Nat)(N:List Str)(o:X.calm=B)(b:PVI G X tg iter ci)(m:oE k g)(d:∀cl C s H fp,LZ G (bN X N sc cl C s H fp) tg g)(f:∀cl C s H fp,Ip G (bN X N sc cl C s H fp) c cc)(e:∀cl C s H fp,PV G (bN X N sc cl C s H fp) elt ce)(n:l9 X.env sc=B:=by rfl)(l:jZ sc (N.drop k) X.N=B:=by rfl)(j:k<=N.length:=by decide)(a:∀x,XAA iter X.env x=pure x:=by intro _;rfl) :
  PV G X (.ListComp elt [⟨tg,iter,[c],0⟩] sc pos) (du k g ci (Z cc) ce) :=
 PE.weak (mN o b n l j (λcl C s H fp=>⟨d cl C s H fp,sJ (f cl C s H fp),e cl C s H fp⟩) a) λJ H Q h=>mI (cond:=Z cc) m h
def Bh{D:Ends}{J:L2.St}{H:Hp}{a:Ex}(h:tS G (aP i a) D J H):tE G a J H λv u=>D.nx (J.set i (Z v)) u:=by
 refine L2.jy λy j=>?_;obtain⟨M,U,o,s,e,k⟩:=h;unfold aP at e;obtain⟨⟨m,t⟩,q,e1⟩:=Zz.mp e;refine j ?_;split at e1
 ·cases e1
 ·rename_i l;split at e1
  ·rename_i n;cases e1;refine⟨M,U,m,t,s,q,λv w F r b p=>?_⟩;obtain⟨f,d⟩:=s.val (c:=.pu t) n r b p (.inl ⟨rfl,l⟩);exact k _ _ w f d
  ·cases e1
def ue(k:Nat)(N:List Str){a:Sx}(n:∀D J H,tS G a D J H->tE G (du k g ci (Z cc) ce) J H λv y=>D.nx (J.set i (Z v)) y)(z:X.calm=B)(e:PVI G X tg iter ci)(u:oE k g)(f:∀cl C s H fp,LZ G (bN X N sc cl C s H fp) tg g)(m:∀cl C s H fp,Ip G (bN X N sc cl C s H fp) c cc)(l:∀cl C s H fp,PV G (bN X N sc cl C s H fp) elt ce)(o:X.N.Nodup)(p:X.N[i]?=Z x:=by rfl)(b:Loc X.env.scope x:=by first | exact Or.inl Y | exact Or.inr Y)(w:l9 X.env sc=B:=by rfl)(r:jZ sc (N.drop k) X.N=B:=by rfl)(q:k<=N.length:=by decide)(t:swapsWith (.ListComp elt [⟨tg,iter,[c],0⟩] sc pos) (Z (.Name x pos')) Jw.line X.env=pure B:=by rfl)(j:X.fn x=B\/X.env.scope.names.lookup x=Z .local:=by first | exact .inl Y | exact .inr Y)(d:∀x,XAA iter X.env x=pure x:=by intro _;rfl) :
  PSV G X (.Assign [.Name x pos'] (.ListComp elt [⟨tg,iter,[c],0⟩] sc pos) Jw) a :=
 PS.weak (mZ o p b z e w r q (λcl C s H fp=>⟨f cl C s H fp,sJ (m cl C s H fp),l cl C s H fp⟩) t j d) λD J H h=>mI (cond:=Z cc) u (n D J H h)
end
end VS
end
section
namespace L2
open PySem PySem.Spec PyProof.Rows
def Si(K:Xk)(a:KM):It :=
 ⟨λi H=>∃b x,GW K H a b/\b[i]?=Z x,λi H v d=>∃p x,H p=L/\v=.ref p/\d=upd H p (.tup [.int i,x])/\∀b,GW K H a b->b[i]?=Z x,λi H=>∃b,GW K H a b/\b.length<=i⟩
def wq{P:Re}{w:UF}{K:Xk}{D:List Expr}{n:Nat}{N:Pos}(a e f:KM)(Jf:e≠f):Turn P w K (.Tuple D n N) (Si K a) [e,f] e (λi h=>(∃old,IsEnum h e f i old)/\h.IsListIter f a i) where
 mem:=by simp
 obj:=λi h st b hb=>by
  obtain⟨⟨old,g⟩,o,Q,c,d⟩:=st;rcases Zp.mp hb with rfl | hb
  ·exact⟨_,g,λv z=>by cases (show Data.fields _=Data.cell v from z)⟩
  ·rw[Zh.mp hb];exact⟨o,Q,λv z=>by rw[d]at z;cases z⟩
 keep:=λi h h' st k=>⟨let ⟨old,g⟩:=st.1;⟨old,k e (by simp) _ g⟩,st.2.at λo x=>k f (by simp) o x⟩
 item:=by
  intro X S hw U hc i j s J H E I t st hg;subst S hw U;obtain⟨xs,x,G,O⟩:=hg;obtain⟨pe,M,p,hz⟩:=I.list G;obtain⟨u,hu,ru⟩:=M.get O;obtain⟨⟨old,g⟩,hit⟩:=st;refine wpAny_pyNext_enum_item g hit p.isList (x:=u) (by simpa using hu) Jf λh1 Q Rj hT hsz hk=>⟨_,rfl,?_⟩
  refine wpAny_letOwnedTupleGo_enum Q λC VL F=>?_;have F:Heap.SameBut e h1 C:=F;have SS:e<s.heap.objs.size:=ZX g;have ltI:f<s.heap.objs.size:=let ⟨_,z,_⟩:=hit;ZX z
  have Ox:H s.heap.objs.size=L:=I.GN.fresh (Zj _);have A:∀b o,b∉[e,f]->s.heap.get? b=Z o->C.get? b=Z o:=λb o hb q=>by
   have Tp:b≠e:=λz=>hb (by simp[z]);have V3:b≠f:=λz=>hb (by simp[z]);exact(F.2 b Tp).trans (hk b o Tp V3 q)
  have Ov:C.get? s.heap.objs.size=Z { cls:=.type "tuple",data:=.seq #[.int i s.toks,u] }:=(F.2 _ (XT SS)).trans hT;have N5:∀b o,H b=Z o->b∉[e,f]:=λb o q hb=>by rw[(t b hb).1]at q;cases q
  have lt:∀b o,s.heap.get? b=Z o->b≠s.heap.objs.size:=λb o q=>Zb (ZX q);have up:∀b o,H b=Z o->upd H s.heap.objs.size (.tup [.int i,x]) b=Z o:=λb o q=>by rw[ax (cG q Ox)];exact q
  have MM:HP X.prog X.w (upd H s.heap.objs.size (.tup [.int i,x])) C:=λb ob q=>by
   by_cases hb:b=s.heap.objs.size
   ·subst hb;rw[au]at q;cases q;exact⟨by show 2<=KF;decide,[.int i s.toks,u],.cons ⟨_,rfl⟩ (.cons ru .nil),Lv.of Ov Y,⟨_,Ov,rfl,_,rfl⟩⟩
   ·rw[ax hb]at q;refine(I.GN b ob q).Jv (λc v l r=>A c v ?_ r) (λc r=>up c _ r) λc ys r=>up c _ r;rcases l with z | z
    ·rw[z];exact N5 b ob q
    ·exact N5 c _ z
  refine⟨.ref s.heap.objs.size,upd H s.heap.objs.size (.tup [.int i,x]),?_,rfl,⟨_,x,Ox,rfl,rfl,λys hy=>by rw[I.HY hy G];exact O⟩,⟨⟨u,by simpa using VL⟩,Rj.at λo y=>(F.2 f Jf.symm).trans y⟩,λb hb=>?_⟩
  ·show Inv X j J _ { s with heap:=C,gens:=s.gens,drawn:=s.drawn,toks:=s.toks+1 };refine I.step (g':=s.gens) (d':=s.drawn) (t':=s.toks+1) (ch:=[e,f]) (λb hb=>?_) (λb o _ _ l q _=>A b o l q) (λb o _ _ l q _=>⟨o.slots,A b o l q⟩) (λb o _ q r=>by rw[ax (lt b o q)];exact r) (λb o l q=>⟨o,A b o l q⟩)
    (λb ys q=>up b _ q) (λb o v q=>up b _ q) (λb ps q=>⟨#[],by rw[up b _ q];simp⟩) (λm hm=>?_) MM I.bare
   ·obtain⟨f0,f1,f2,f3,f4,f5⟩:=t b hb;exact⟨f3,f1,f4,f5⟩
   ·obtain⟨o,es,ep,JA,r⟩:=hm;refine⟨o,es,ep,A _ o (λz=>?_) JA,r⟩;exact(t _ z).2.1 Y
  ·have:b≠s.heap.objs.size:=by
    rcases Zp.mp hb with rfl | hb
    ·exact Zb SS
    ·rw[Zh.mp hb];exact Zb ltI
   rw[ax this];exact(t b hb).1
 done:=by
  intro X S hw U hc i j s J H E I t st hg;subst S hw U;obtain⟨xs,G,O⟩:=hg;obtain⟨pe,M,p,hz⟩:=I.list G;obtain⟨⟨old,g⟩,hit⟩:=st;obtain⟨f0,f1,f2,f3,f4,f5⟩:=t f (by simp);have hl:=M.length;exact wpAny_pyNext_enum_end (I.ok.hd hc) g hit p.isList (by simp;lia) λh' eb=>⟨rfl,I.turned (t':=s.toks) (λb o hb q=>eb b o hb q) f0 f1 f3 f4 f5⟩
 self:=λ_ _ _ _ _ st h=>let ⟨_,g⟩:=st.1;wpAny_pyIter_enum g h
section
variable{X:Cx}{tg a:Expr}{ta:TA}{p pos:Pos}
def Gq(K:Xk)(f:TA):TI:=λJ H R=>f J H λe b=>∃l,e=[.ref l]/\(∃d,GW K b l d)/\R (Si K l) b
def A9{g:List Expr}{n:Nat}{C:Pos}(z:Gl X "enumerate")(x:X.mg "enumerate" = L)(A:PA X [a] ta)(v:Pv [a] X.env=[(false,eval a X.env)]:=by rfl):PI X (.Tuple g n C) (.Call (.Name "enumerate" p) [a] [] pos) (Gq X.K ta):=by
 intro d s J H R I h;refine Call_ (i7 I z x boot_enumerate (Yl (thn (A pos d s J H _ I h) λG s1 ⟨F,D,i,r1,o⟩=>?_) v Y));obtain⟨l,e,⟨E,w⟩,q⟩:=o;subst e;cases r1 with
 |cons r m =>
  cases m;cases r;obtain⟨N,M,t,O⟩:=i.list w;refine call_enumerate_list t.isList λP j hit u y=>?_;refine wpAny_pyIter_enum j ?_;refine⟨_,_,_,_,D,rfl,i.kept (t':=s1.toks) y,wq l (s1.heap.objs.size+1) s1.heap.objs.size (Nat.succ_ne_self _),⟨⟨_,j⟩,hit⟩,λb hb=>?_,q⟩;have f:s1.heap.objs.size<=b:=by
   rcases Zp.mp hb with rfl | hb
   ·exact Yq _ _
   ·rw[Zh.mp hb];exact Zj _
  exact i.Ko f (i.GN.fresh f)
end
end L2
namespace VS
open PySem PySem.Spec PyProof.Rows L2
section
variable{G:Gx}{X:Cx}{a:Expr}{ca:Ex}{pos p Js:Pos}{elts:List Expr}{n:Nat}
theorem su:∀(l:Wh)(k i:Nat){t:T},(iB k l)[i]?=Z t->∃x,l[i]?=Z x/\t=.tup [.int ((k+i:Nat):Int),x]
 |[],_,_,_,h=>by simp[iB]at h
 |x :: l,k,0,t,h=>by
  simp[iB]at h;exact⟨x,rfl,by rw[← h];rfl⟩
 |x :: l,k,i+1,t,h=>by
  obtain⟨y,d,b⟩:=su l (k+1) i (by simpa[iB] using h);refine⟨y,by simpa using d,?_⟩;rw[b,show k+1+i=k+(i+1) by lia]
theorem oK:∀(l:Wh)(k:Nat),(iB k l).length=l.length
 |[],_=>rfl
 |x :: l,k=>by simp[iB,oK l (k+1)]
def AS{H:Hp}{a:KM}{d:List V}{e:Wh}{j:Xl}(K:Xk)(m:H a=Z (.lst d))(r:RpL G H d e j):JY G (Si K a) (iB 0 e) (a :: j.flatten) H:=by
 refine⟨λf k c=>?_,λb hb=>?_⟩
 ·have g:f a=Z (.lst d):=c a Zv _ m;have r2:RpL G f d e j:=r.keep k λb hb o C=>c b (Zw _ hb) o C;refine⟨λi t h=>?_,λi h=>⟨d,GW.of g,by rw[oK]at h;rw[r.len.1];exact h⟩⟩;obtain⟨y,w,u⟩:=su e 0 i h;rw[XU]at u;obtain⟨v,F,s,E,D⟩:=r2.get i w;refine⟨⟨d,v,GW.of g,s⟩,λx M ⟨p,z,A,e1,e2,J⟩=>?_⟩;subst e1 e2;have ex:=J d (GW.of g);rw[s]at ex;cases ex;have l:aC f (upd f p (.tup [.int i,v])):=λb o q=>by rw[ax (cG q A)];exact q
  refine⟨l,F,?_,λb hb=>.inl (Zw _ (cO E hb))⟩;rw[u];have:F=([[],F]:Xl).flatten:=by simp
  rw[this];exact .tup au (.cons (.int _) (.cons (D.same l) .nil))
 ·rcases Zp.mp hb with rfl | hb
  ·rw[m];exact λz=>nomatch z
  ·exact GT.gV (r.G3 b hb)
def x8(r:PV G X a ca)(q:Gl X "enumerate")(o:X.mg "enumerate" = L)(i:K1 a [] X:=by rfl)(z:Pv [a] X.env=[(false,eval a X.env)]:=by rfl) :
  PVI G X (.Tuple elts n Js) (.Call (.Name "enumerate" p) [a] [] pos) (yf ca) :=
 PI.weak (A9 q o (bA r dv i) z) λJ H R j=>by
  obtain⟨M,U,m,l,s,e,k⟩:=j;unfold yf at e;obtain⟨⟨h,x⟩,u,e1⟩:=Zz.mp e;refine⟨M,U,h,x,s,u,λv A F w g t=>?_⟩;cases x with
  |lst C =>
   cases e1;obtain⟨y,d,D,rfl,rfl,b,f⟩:=g.lst_inv;exact⟨y,rfl,⟨d,GW.of b⟩,k _ A _ w (AS X.K b f) t.c⟩
  |_=>cases e1
end
instance {s:Tx}:Decidable (pP s):=inferInstanceAs (Decidable (_/\_))
section
variable{G:Gx}{X:Cx}{a b c e:Expr}{es:List Expr}{ca cb cc:Ex}{cs:Hf}{pos p p1 p2 apos oe:Pos}{k k':Nat}
def w_add(f:PV G X a ca)(d:PV G X b cb):PV G X (.BinOp a .Add b pos) (e2 aW ca cb):=g8 qD yR f d
def w_mul(f:PV G X a ca)(d:PV G X b cb):PV G X (.BinOp a .Mult b pos) (e2 gE ca cb):=g8 Cu Dq f d
def w_mod(f:PV G X a ca)(d:PV G X b cb):PV G X (.BinOp a .Mod b pos) (e2 oMod ca cb):=g8 CU DB f d
def uu(f:PV G X a ca)(d:PV G X b cb):Ip G X (.Compare a [.Lt] [b] pos) (e2 oLt ca cb):=iy qd uB kC f d (jU _)
def oM(d:p0 k X.A)(g:PV G X a ca)(f:PV G X b cb):Ip G X (.Compare a [.Eq] [b] pos) (e2 oEq ca cb):=iy (tF d.units) yh tells_eq g f (jU _)
def nV(d:p0 k X.A)(g:PV G X a ca)(f:PV G X b cb):Ip G X (.Compare a [.NotEq] [b] pos) (e2 JM ca cb):=iy (DZ d.units) FV zH g f (jU _)
def bC(g:PV G X a ca)(f:PV G X b cb)(d:gQ b:=by intro _ _;rfl)(i:X.K=G.K:=by rfl):PV G X (.Subscript a b pos) (e2 aB ca cb) :=
 PE.weak (mV jJ g f d) λJ H Q h=>by rw[i];exact nS sZ h
def cY(d:X.mg "len" = L)(g:HI G X [e] cs)(f:Gl X "len" := by rfl)(h:X.K=G.K:=by rfl)(he:K1 e [] X:=by rfl):PV G X (.Call (.Name "len" p) [e] [] pos) (eN bP cs) :=
 kS (h ▸ wk) Cd f d PySem.boot_len g (he:=he) (hpl:=rfl)
def Da:bootBuiltins ("min" : Str)=Z (.builtin "min"):=by decide +kernel
def uw:bootBuiltins ("list" : Str)=Z (.type "list"):=by decide +kernel
def DW(d:X.mg "min" = L)(h:HI G X [a,b] cs)(g:X.calm=B:=by rfl)(f:Gl X "min" := by rfl)(he:Pv [a,b] X.env=(R,eval a X.env) :: Pv [b] X.env:=by rfl)(hpl:(backTo pos (Pv [b] X.env)).any (·.1)=R:=by rfl):PV G X (.Call (.Name "min" p) [a,b] [] pos) (eN qV cs) :=
 kS (wu g) A4 f d Da h (he:=he) (hpl:=hpl)
def Ng:Ty->Str
 |.int => "int" |.str => "str" |.bool => "bool" |.list => "list" |.tuple => "tuple" |.dict => "dict"
def Ef(t:Ty):bootBuiltins (Ng t)=Z (.type (Kr t)):=by cases t<;>decide +kernel
def w_is(t:Ty)(f:X.mg "isinstance" = L)(l:X.mg (Ng t)=L)(h:PV G X a ca)(g:Gl X "isinstance" := by rfl)(j:Gl X (Ng t):=by rfl)(i:X.K=G.K:=by rfl)(d:Pv [a,.Name (Ng t) p2] X.env=(R,eval a X.env) :: Pv [.Name (Ng t) p2] X.env:=by rfl):PV G X (.Call (.Name "isinstance" p1) [a,.Name (Ng t) p2] [] pos) (OG t ca) :=
 E9 t h g f j l (Ef t) i (by cases t<;>decide) (by cases t<;>decide) d Y Y
def CJ(f:PV G X a ca)(g:HI G X [e] cs)(h:X.K=G.K:=by rfl)(n:UV a "endswith" X.env (eval a X.env)=eval a X.env:=by rfl)(i:((backTo oe (Pv [e] X.env)).all (λx=>!x.1)&&(backToKw oe (SC [] X.env)).all (λx=>x.1.isSome)
   && decide ([e].length+([]:List Keyword).length+(if ([]:List Keyword).isEmpty then 0 else 1)<30))=B:=by rfl)(j:(apos.endLine==oe.line)=B:=by rfl)(d:K1 e [] X:=by rfl)(m:(backTo oe (Pv [] X.env)).any (·.1)=R:=by rfl) :
  PV G X (.Call (.Attribute a "endswith" apos) [e] [] oe) (eM pb ca cs) :=
 B1 XW PySem.F.slot_str_endswith PySem.F.type_str_endswith Bs An (λH v x F l z r e=>nN r (by
  unfold pb at e;split at e
  ·exact⟨_,rfl⟩
  ·cases e)) f g h n i j d m
def ki(i:Nat){x:Str}(m:HI G X [e] cs)(o:X.K=G.K:=by rfl)(n:X.N[i]?=Z x:=by rfl)(f:IG X.env.scope x:=by first | exact Or.inl Y | exact Or.inr (Or.inl Y) | exact Or.inr (Or.inr Y))(j:K3 x:=by decide)(d:K4 x:=by decide)(q:((backTo oe (Pv [e] X.env)).all (λx=>!x.1)&&(backToKw oe (SC [] X.env)).all (λx=>x.1.isSome)
   && decide ([e].length+([]:List Keyword).length+(if ([]:List Keyword).isEmpty then 0 else 1)<30))=B:=by rfl)(s:(apos.endLine==oe.line)=B:=by rfl)(g:K1 e [] X:=by rfl) :
  PSV G X (.Expr (.Call (.Attribute (.Name x p1) "append" apos) [e] [] oe) pos) (sX (kY i [] aF cs)) :=
 q8 i Y5 Xc Xd jo o9 (λH v t F l z r h=>l5 r h) m o n f j d Y q s g Y Y
def wO(i:Nat){x:Str}(m:HI G X [e] cs)(o:X.K=G.K:=by rfl)(n:X.N[i]?=Z x:=by rfl)(f:IG X.env.scope x:=by first | exact Or.inl Y | exact Or.inr (Or.inl Y) | exact Or.inr (Or.inr Y))(j:K3 x:=by decide)(d:K4 x:=by decide)(q:((backTo oe (Pv [e] X.env)).all (λx=>!x.1)&&(backToKw oe (SC [] X.env)).all (λx=>x.1.isSome)
   && decide ([e].length+([]:List Keyword).length+(if ([]:List Keyword).isEmpty then 0 else 1)<30))=B:=by rfl)(s:(apos.endLine==oe.line)=B:=by rfl)(g:K1 e [] X:=by rfl) :
  PSV G X (.Expr (.Call (.Attribute (.Name x p1) "extend" apos) [e] [] oe) pos) (sX (kY i [] ed cs)) :=
 q8 i Y5 PySem.F.slot_list_extend PySem.F.type_list_extend vN vF (λH v t F l z r h=>sL r h) m o n f j d Y q s g Y Y
end
structure FnAt(P:Re)(w:UF)(K:Xk)(mg:Xg)(base:SZ)(k:Nat)(x:Str)(ps:List Str)(G:Gx)(g:Fn):Prop where
 ex:∃f fd,FnOk P w K mg base Hk k f fd ps (Ja G g)/\mg x=some (.ref f)/\PySem.W.keepIn K (.ref f)=true/\Binds K fd ps []
section
variable{G:Gx}{X:Cx}{e:Expr}{es:List Expr}{cs:Hf}{pos p:Pos}{k k':Nat}{x:Str}{ps:List Str}{g:Fn}
def dA(F:FnAt X.prog X.w X.K X.mg X.base k x ps G g)(b:p0 k' X.A)(j:HI G X (e :: es) cs)(d:k<=k':=by decide)(h:Gl X x:=by rfl)(q:K3 x:=by decide)(i:K1 e es X:=by rfl)(a:K2 pos es X:=by rfl) :
  PV G X (.Call (.Name x p) (e :: es) [] pos) (bB g cs):=by
 obtain⟨f,fd,o,n,m,l⟩:=F.ex;exact AD o (b.mono d) h n m l j q i a
end
section
variable{G:Gx}{P:Re}{w:UF}{K:Xk}{mg:Xg}{base:SZ}
def jw{x:Str}{a:Stmt}{f:KM}{i:P3}{N b:List Str}{k g h:Nat}{c:Sx}(F:G2 K x x a f i)(m:mg x=Z (.ref f))(S:jj N b (aj a))(j:b.length=g)(l:N.length=h)(o:∀(kV doc pm:On)(an:Option KM)(d ct:On)(e:X3),e.length=b.length->bindArgs (PySem.W.fnOf x x (cR a) (aQ a) (aj a) .none kV doc pm an d ct) ⟨e,[]⟩=pure (b.zip e))(n:∀(d:On)(A:SB)(outer:List PySem.Env)(s:IR)(H:Hp)(E:XK),p0 k (A.deeper (envOfC x (aj a) s.heap.objs.size f d))->gD G (iF Hk P w K mg base N x (aj a) f d A outer s H E).Jy (aQ a) c) :
  FnAt P w K mg base (k+1) x b G (fn g h c) :=
 ⟨f,i,RJ F S j l n,m,F.kp,F.binds o⟩
end
end VS
end
section
namespace L2
open PySem PySem.Spec PyProof.Rows
def JI(x:Str):It:=⟨λi _=>i<x.cps.size,λi H v a=>a=H/\∃c,x.cps[i]?=Z c/\v=.str ⟨#[c]⟩,λi _=>x.cps.size<=i⟩
def oT{P:Re}{w:UF}{K:Xk}{M:Expr}(x:Str)(t:Tok)(a:KM)(j:String)(U:["enumerate", "zip", "dict_itemiterator", "dict_reverseitemiterator", "odict_iterator", "itertools.zip_longest", "itertools.pairwise"].contains j=R)(W:∀A:SB,A.handled=L->Walks P w A a [a] [a] x.cps.size (λi v=>∃c u,x.cps[i]?=Z c/\v=.str ⟨#[c]⟩ u) (λi h=>h.IsStrIter a j x t i))(Rr:∀(A:SB),A.handled=L->∀(i:Nat)(s:IR)(Q:Wr->IR->Prop)(E:Z5),s.heap.IsStrIter a j x t i->x.cps[i]?=L->(∀g,Heap.ExtBut a s.heap g->Q L { s with heap:=g })->PP (KB P w) A (pyNext (.ref a)) Q E s)(Oh:∀(A:SB)(i:Nat)(s:IR)(Q:Z5)(E:Z5),s.heap.IsStrIter a j x t i->Q (.ref a) s->PP (KB P w) A (pyIter (.ref a)) Q E s) :
  Turn P w K M (JI x) [a] a (λi h=>h.IsStrIter a j x t i) where
 mem:=by simp
 obj:=λi h st b hb=>by
  rw[Zh.mp hb];obtain⟨o,e,c,d⟩:=st;exact⟨o,e,λv z=>by rw[d]at z;cases z⟩
 keep:=λi h g st k=>let ⟨o,e,r⟩:=st;⟨o,k a (by simp) o e,r⟩
 item:=by
  intro X n hw p m i f s J H E I l st hg;subst n hw p;obtain⟨D,f1,f2,C,y,q⟩:=l a (by simp);refine(W X.A (I.ok.hd m)).item i s _ _ hg st λv g F S G N=>?_;obtain⟨c,u,HB,rfl⟩:=S;have I1:Inv X f J H { s with heap:=g,toks:=F }:=I.turned (λb o hb e=>N b o (by simpa using hb) e) D f1 C y q;obtain⟨o,e,c1,d⟩:=id G;exact⟨_,rfl,sC (s:={ s with heap:=g,toks:=F }) e c1 d U ⟨.str ⟨#[c]⟩,H,I1,⟨u,rfl⟩,⟨rfl,c,HB,rfl⟩,G,λb hb=>(l b hb).1⟩⟩
 done:=by
  intro X n hw p m i f s J H E I l st hg;subst n hw p;obtain⟨D,f1,f2,C,y,q⟩:=l a (by simp);have O:x.cps.size<=i:=hg;exact Rr X.A (I.ok.hd m) i s _ _ st (by simp[O]) λg Y=>⟨rfl,I.turned (t':=s.toks) (λb o hb e=>Y b o hb e) D f1 C y q⟩
 self:=λA i s Q E st h=>Oh A i s Q E st h
def yX{P:Re}{w:UF}{K:Xk}{g:Expr}(x:Str)(t:Tok)(a:KM):Turn P w K g (JI x) [a] a (λi h=>h.IsStrIter a (strIterType x) x t i):=by
 cases f:x.cps.all (· < 128)
 ·have e:strIterType x = "str_iterator" := by simp[strIterType,f]
  rw[e];exact oT x t a "str_iterator" rfl (λA b=>Walks.strWide b a x t) (λA b i s Q E st d q=>wpAny_pyNext_wide_end b st d q) λA i s Q E st q=>wpAny_pyIter_striter_wide st q
 ·have e:strIterType x = "str_ascii_iterator" := by simp[strIterType,f]
  rw[e];exact oT x t a "str_ascii_iterator" rfl (λA b=>Walks.strAscii b a x t) (λA b i s Q E st d q=>wpAny_pyNext_ascii_end b st d q) λA i s Q E st q=>wpAny_pyIter_striter_ascii st q
section
variable{X:Cx}{tg l a b c:Expr}{tl ta tb tc:TE}{pos:Pos}
def FS(K:Xk)(f:TE):TI:=λJ H R=>f J H λx d=>(∃a,x=.ref a/\(∃e,GW K d a e)/\R (Sg K a) d)\/(∃a,x=.ref a/\(∃e,HN K d a e)/\R (Sf K a) d)\/∃z,x=.str z/\R (JI z) d
def Bn(y:PE X l tl):PI X tg l (FS X.K tl):=by
 intro d s J H R I h;refine thn (y d s J H _ I h) λv s1 ⟨x,g,f,r1,u⟩=>?_;have j:∀b∈[s1.heap.objs.size],nZ X d g b:=λb hb=>by
  rw[Zh.mp hb];exact f.Ko (Zj _) (f.GN.fresh (Zj _))
 rcases u with⟨a,e,⟨n,i⟩,q⟩ | ⟨a,e,⟨n,i⟩,q⟩ | ⟨z,e,q⟩
 ·subst e;cases r1;obtain⟨m,r,p,w⟩:=f.list i;exact wpAny_pyIter_list p.isList ⟨s1.heap.objs.size,[s1.heap.objs.size],_,_,g,rfl,f.kept (t':=s1.toks) λb o e=>Zk _ e,vL a _,⟨_,ZU _ Y,rfl,rfl⟩,j,q⟩
 ·subst e;cases r1;obtain⟨m,r,p,w⟩:=f.tuple i;exact wpAny_pyIter_tuple (show s1.heap.IsTuple a m.toArray from p) ⟨s1.heap.objs.size,[s1.heap.objs.size],_,_,g,rfl,f.kept (t':=s1.toks) λb o e=>Zk _ e,uc a _,⟨_,ZU _ Y,rfl,rfl⟩,j,q⟩
 ·subst e;obtain⟨t,rfl⟩:=r1;exact wpAny_pyIter_strU ⟨s1.heap.objs.size,[s1.heap.objs.size],_,_,g,rfl,f.kept (t':=s1.toks) λb o e=>Zk _ e,yX z t _,⟨_,ZU _ Y,rfl,rfl⟩,j,q⟩
def zT{s:IR}{d:SZ}{o:Obj}(g:∀b x,b∉[s.heap.objs.size]->(s.heap.push o).get? b=Z x->d.get? b=Z x)(b:KM)(x:Obj)(e:s.heap.get? b=Z x):d.get? b=Z x :=
 g b x (λf=>Yh _ (by have:=ZX e;rw[Zh.mp f]at this;exact this)) (Zk _ e)
def yr(G:X.calm=B):d6 X (.builtin "sum") (λr H Q=>∃p,∃ns:Wp,r=[.ref p]/\GW X.K H p (ns.map V.int)/\Q (.int ns.sum) H):=by
 intro w s J H r N Q I C h;obtain⟨p,ns,rfl,F,q⟩:=h;obtain⟨u,rfl,j⟩:=C.one;cases j;obtain⟨d,g,m,P⟩:=I.list F;have y:p<s.heap.objs.size:=by obtain⟨_,e,_⟩:=m.isList;exact ZX e
 refine call_sum_walkG (wpAny_pyIter_list m.isList ⟨s.heap.objs.size,[s.heap.objs.size,p],[s.heap.objs.size],d.toArray.size,_,_,λi=>(ns[i]?).getD 0,rfl,Walks.list (A:=X.A.in1) (I.ok.hd G) _ p (Zb y) d.toArray,
  ⟨⟨_,ZU _ Y,rfl,rfl⟩,m.isList.push _⟩,λb hb=>?_,λi v M=>?_,λS O z o=>⟨.int ns.sum,H,I.kept (zT o),⟨z,?_⟩,q⟩⟩)
 ·rw[Wy];rcases Zp.mp hb with rfl | hb
  ·exact Yv _
  ·rw[Zh.mp hb];exact Yd y
 ·have f:d[i]?=Z v:=by simpa using M
  cases e:ns[i]? with
  |none =>
   have:=g.none_of (i:=i) (by rw[ZO,e];rfl);rw[this]at f;cases f
  |some n =>
   obtain⟨u,E,j⟩:=g.get (i:=i) (x:=.int n) (by rw[ZO,e];rfl);rw[E]at f;cases f;obtain⟨t,rfl⟩:=j;exact⟨t,by simp[e]⟩
 ·have hlen:d.toArray.size=ns.length:=by have:=g.length;simp at this ⊢;exact Eq.symm this
  have:∀k,k<=ns.length->preSum (λi=>(ns[i]?).getD 0) k=(ns.take k).sum:=λk=>by
   induction k with
   |zero=>intro _;simp[preSum]
   |succ k D =>
    intro o;rw[List.take_succ,List.sum_append,preSum,D (by exact Nat.le_of_succ_le o)];cases e:ns[k]? <;> simp
  rw[hlen,this _ (Zj _),List.take_length]
def vD:OpR X (SL .Gt) (λx y H Q=>∃i j,x=.str i/\y=.str j/\Q (.bl (decide (j.cps.toList<i.cps.toList))) H):=by
 intro d s J H x y v u Q I f e h;obtain⟨i,j,rfl,rfl,q⟩:=h;obtain⟨t,rfl⟩:=f;obtain⟨g,rfl⟩:=e;exact PySem.P.gt_str ⟨.bl _,H,I,rfl,q⟩
def we:OpR X (SL .GtE) (λx y H Q=>∃i j,x=.str i/\y=.str j/\Q (.bl (!decide (i.cps.toList<j.cps.toList))) H):=by
 intro d s J H x y v u Q I f e h;obtain⟨i,j,rfl,rfl,q⟩:=h;obtain⟨t,rfl⟩:=f;obtain⟨g,rfl⟩:=e;exact PySem.P.ge_str ⟨.bl _,H,I,rfl,q⟩
end
end L2
end
section
namespace VS
open PySem PySem.Spec PyProof.Rows L2
section
variable{G:Gx}{X:Cx}{a b c e tg:Expr}{es:List Expr}{ca cb cc:Ex}{cs:Hf}{pos p p1 p2 apos oe:Pos}{k k':Nat}
def D6(H:Hp)(s:Tx)(l:pP s):JY G (L2.JI (sx s)) (s.map λc=>T.str [c]) [] H:=by
 have sz:(sx s).cps.size=s.length:=rfl;refine⟨λo _ _=>⟨λi t h=>?_,λi h=>(by rw[Zu]at h;show (sx s).cps.size<=i;lia)⟩,λa h=>by simp at h⟩;rw[ZO]at h;obtain⟨c,f,rfl⟩:=Zy.mp h;refine⟨(by show i<(sx s).cps.size;have:=(Zf.mp f).1;lia),λx n ⟨e1,g,j,e2⟩=>?_⟩;subst e1;have:g=c:=by
  have m:(sx s).cps[i]?=Z c:=by simp[sx,f]
  rw[m]at j;exact(Zm j).symm
 subst this;rw[e2];exact⟨aC.refl _,[],.str [g] ⟨(by show 1<=eO;decide),λd hd=>by rw[Zh.mp hd];exact l.2 g (YO f)⟩,λa h=>by simp at h⟩
def dS(w:PV G X a ca)(C:X.K=G.K:=by rfl):PVI G X tg a (gj ca) :=
 PI.weak (Bn w) λJ H R u=>by
  obtain⟨M,U,m,l,s,e,k⟩:=u;unfold gj at e;obtain⟨⟨t,x⟩,y,e1⟩:=Zz.mp e;refine⟨M,U,t,x,s,y,λv f F n j q=>?_⟩;cases x with
  |lst r =>
   cases e1;obtain⟨o,g,A,rfl,rfl,d,i⟩:=j.lst_inv;exact .inl ⟨o,rfl,⟨g,GW.of d⟩,k _ f _ n (AJ X.K d i) q.c⟩
  |tup r =>
   cases e1;obtain⟨o,g,A,rfl,rfl,d,i⟩:=j.HX;exact .inr (.inl ⟨o,rfl,⟨g,HN.of d⟩,k _ f _ n (Ee X.K d i) q.c⟩)
  |str z =>
   cases e1;obtain⟨rfl,ok⟩:=j.str_inv;exact .inr (.inr ⟨_,rfl,k _ f [] n (D6 f z ok) λa h=>by simp at h⟩)
  |_=>cases e1
theorem ux{H:Hp}:∀{d:List V}{l:Wh}{g:Xl}{f:Wp},RpL G H d l g->lW l=Z f->d=f.map V.int
 |_,_,_,_,.nil,e=>by cases e;rfl
 |_,_,_,_,.cons (t:=t) r q,e=>by
  cases t with
  |int s =>
   simp only[lW]at e;obtain⟨h,e1,e2⟩:=Zy.mp e;subst e2;rw[ux q e1,r.int_inv];rfl
  |_=>cases e
def C0:fF G (λd H Q=>∃p,∃ns:Wp,d=[.ref p]/\GW G.K H p (ns.map V.int)/\Q (.int ns.sum) H) wA:=by
 intro M U r H l f n m t Q A e k;unfold wA at e;split at e
 ·rename_i q x;obtain⟨i,e1,e2⟩:=Zz.mp e;cases e2;obtain⟨v,F,rfl,rfl,g⟩:=(show RpL G H f [.lst x] n from A.rp).one;obtain⟨a,o,s,rfl,rfl,j,h⟩:=g.lst_inv;exact⟨a,i,rfl,by rw[← ux h e1];exact GW.of j,bx k (.int _)⟩
 ·cases e
def D8:bootBuiltins ("sum" : Str)=Z (.builtin "sum"):=by decide +kernel
def yL:bootBuiltins ("tuple" : Str)=Z (.type "tuple"):=by decide +kernel
def w_sum(d:X.mg "sum" = L)(h:HI G X [e] cs)(f:Gl X "sum" := by rfl)(i:X.K=G.K:=by rfl)(g:X.calm=B:=by rfl)(he:K1 e [] X:=by rfl):PV G X (.Call (.Name "sum" p) [e] [] pos) (eN wA cs) :=
 kS (yr g) (i ▸ C0) f d D8 h (he:=he) (hpl:=rfl)
def xn:fF G (λh H Q=>∃p d,h=[.ref p]/\((GW G.K H p d/\∀l,H l=L->Q (.ref l) (upd H l (.tup d)))\/(HN G.K H p d/\Q (.ref p) H))) ku:=by
 intro M U C H l i w m t Q A e k;unfold ku at e;split at e
 ·rename_i y x;split at e
  ·rename_i z;cases e;obtain⟨v,F,rfl,rfl,j⟩:=(show RpL G H i [.lst x] w from A.rp).one;obtain⟨a,d,u,rfl,rfl,s,n⟩:=j.lst_inv;have f:=(A.fp.each 0 _ _ Y Y).sub (Yw _ _);refine⟨a,d,rfl,.inl ⟨GW.of s,λq o=>?_⟩⟩;have g:aC H (upd H q (.tup d)):=br o;have r:Rp G (upd H q (.tup d)) (.ref q) (.tup x) u.flatten:=.tup au (n.same g);exact k _ _ _ g r (f.up r)
  ·cases e
 ·cases e
def Bf(d:X.mg "tuple" = L)(g:HI G X [e] cs)(f:Gl X "tuple" := by rfl)(h:X.K=G.K:=by rfl)(he:K1 e [] X:=by rfl):PV G X (.Call (.Name "tuple" p) [e] [] pos) (eN ku cs) :=
 jh oz (h ▸ xn) f d yL g (he:=he) (hpl:=rfl)
def Sy:R2:=λx y H Q=>J8 (λi j=>.bl (decide (j<i))) x y H Q\/(∃i j,x=.str i/\y=.str j/\Q (.bl (decide (j.cps.toList<i.cps.toList))) H)
def Sz:R2:=λx y H Q=>J8 (λi j=>.bl (decide (j<=i))) x y H Q\/(∃i j,x=.str i/\y=.str j/\Q (.bl (!decide (i.cps.toList<j.cps.toList))) H)
def y8(s t:Tx):decide ((sx s).cps.toList<(sx t).cps.toList)=Kt s t:=by rw[nr];exact decide_eq_decide.mpr (by simp[sx])
def FQ:fE G Sy Jx:=by
 intro M U i H x y u w l j m t Q d e k;obtain⟨h,x⟩:=x;obtain⟨g,y⟩:=y;obtain⟨same,r1,r2,f1,f2,nd⟩:=d;unfold Jx oLt at e;split at e
 ·rename_i e1 e2;cases e1;cases e2;cases e;exact .inl ⟨_,_,r1.int_inv,r2.int_inv,bx k (.bl _)⟩
 ·rename_i s _ f e1 e2;cases e1;cases e2;cases e;refine .inr ⟨_,_,r1.str_inv.1,r2.str_inv.1,?_⟩;rw[y8];exact bx k (.bl _)
 ·cases e
def Ft:fE G Sz Nm:=by
 intro M U i H x y u w l j m t Q d e k;obtain⟨h,x⟩:=x;obtain⟨g,y⟩:=y;obtain⟨same,r1,r2,f1,f2,nd⟩:=d;unfold Nm oLe at e;split at e
 ·rename_i e1 e2;cases e1;cases e2;cases e;exact .inl ⟨_,_,r1.int_inv,r2.int_inv,bx k (.bl _)⟩
 ·rename_i s _ f e1 e2;cases e1;cases e2;cases e;refine .inr ⟨_,_,r1.str_inv.1,r2.str_inv.1,?_⟩;rw[y8];exact bx k (.bl _)
 ·cases e
def xD:Tells Jx:=λx y m t e=>kC y x m t e
def yq:Tells Nm:=λx y m t e=>yE y x m t e
def lU(f:PV G X a ca)(d:PV G X b cb):Ip G X (.Compare a [.Gt] [b] pos) (e2 Jx ca cb):=iy (r:=Sy) (FE.or vD) FQ xD f d (jU _)
def Ff(f:PV G X a ca)(d:PV G X b cb):Ip G X (.Compare a [.GtE] [b] pos) (e2 Nm ca cb):=iy (r:=Sz) (Em.or we) Ft yq f d (jU _)
def rC{r o:R2}{f g:Val->Val->Wi}(O:fE G r f)(UK:fE G o g){J:L2.St}{H:Hp}{Q:VK}(h:tE G (eY f g ca cb cc) J H Q):yO r o (tE G ca) (tE G cb) (tE G cc) J H Q:=by
 obtain⟨M,U,m,t,s,e,k⟩:=h;unfold eY at e;obtain⟨x,ea,e⟩:=Zz.mp e;obtain⟨y,eb,e⟩:=Zz.mp e;obtain⟨⟨P,z⟩,ez,e⟩:=Zz.mp e;refine xM s ea eb λu w H2 F1 A d=>O M U H H2 x y u w F1 A P z _ d ez λv H3 F e1 r1 f1=>?_;cases z with
 |bl q =>
  refine⟨q,r1.Hz,?_⟩;cases q with
  |false =>
   cases e;rw[Zn Zc];exact k _ H3 [] (d.same.trans e1) (.bl R) Fp.nil
  |true =>
   rw[Zq Y];obtain⟨l,ec,e⟩:=Zz.mp (show (cc U).bind (λz=>g y z)=Z (m,t) from e);have i:=d.same.trans e1;refine⟨M,U,l.1,l.2,s.same i,ec,λC H4 F4 n N j=>?_⟩;refine UK M U H H4 y l w C A F4 m t Q ⟨i.trans n,(d.r2.same e1).same n,N,d.f2,j.back i,λhx S=>?_⟩ e λD H5 F5 e5 E f5=>k D H5 F5 ((i.trans n).trans e5) E f5;have f2:=d.f2;rw[hx]at f2;rw[S]at j;refine ZR.mpr ⟨f2.1,j.1,λa ha b hb z=>?_⟩;subst z;exact GT.gV ((d.r2.same e1).G3 a ha) (j.2 a hb)
 |_=>cases e
def uo{x:Str}{i:Int}(h:∃t,X.mg x=Z (.int i t))(f:Gl X x:=by rfl)(g:K3 x:=by decide):PV G X (.Name x pos) (Q2 i):=by
 obtain⟨t,d⟩:=h;exact Au (v:=.int i) f d ⟨t,rfl⟩ (λH=>.int i) g
end
end VS
end
section
namespace L2
open PySem PySem.Spec PyProof.Rows
section
variable{X:Cx}
def vB{α:Type}(l:List α)(n:Nat):∀acc:List α,List.foldl (λa x2=>a++x2) acc.toArray (List.replicate n l.toArray)=(acc++(List.replicate n l).flatten).toArray:=by
 induction n with
 |zero=>intro acc;simp
 |succ n b =>
  intro acc;rw[Y2,YQ];have e:acc.toArray++l.toArray=(acc++l).toArray:=by simp
  rw[e,b (acc++l),Y2,ZW,ZG]
def zX:OpR X (binaryOp .Mult) (λx y H Q=>∃(l:Wq)(k:Int),x=.str ⟨l.toArray⟩/\y=.int k/\-(2 ^ 62)<=k/\k<2 ^ 62/\l.length*k.toNat<=KF/\Q (.str ⟨(List.replicate k.toNat l).flatten.toArray⟩) H):=by
 intro f s J H x y v u Q I i g h;obtain⟨l,k,rfl,rfl,w,r,b,q⟩:=h;obtain⟨t,rfl⟩:=i;obtain⟨p,rfl⟩:=g;have hlen:(⟨l.toArray⟩:Str).length=l.length:=rfl;refine PySem.P.mul_str ?_ ?_ ?_ ?_
 ·rw[Bool.or_eq_false_iff];exact⟨Za (by lia),Za (by lia)⟩
 ·intro d _ n;rw[hlen]at n;have m:0<k:=by lia
  have:(l.length:Int)*k<=16777216:=by
   have z:l.length*k.toNat<=16777216:=b;have:((l.length*k.toNat:Nat):Int)<=16777216:=by lia
   rw[Int.natCast_mul]at this
   rwa [Int.toNat_of_nonneg (by lia)]at this
  have o:(l.length:Int)*k<=2 ^ 63-1:=by lia
  have:=(Int.le_ediv_iff_mul_le m).mpr o;lia
 ·intro _ _;rw[hlen];exact Za (by show ¬_ > _;exact Nat.not_lt.mpr b)
 ·by_cases d:k<1
  ·rw[Zq d];have e:k.toNat=0:=by lia
   rw[e]at q;exact⟨by decide,⟨.str ⟨#[]⟩,H,I.tok _,⟨_,rfl⟩,q⟩⟩
  ·rw[Zn d];split
   ·rename_i a;have e:(List.replicate k.toNat l).flatten=l:=by
     rw[Bool.or_eq_true]at a;rcases a with a | a
     ·have:k=1:=by simpa using a
      subst this;show (List.replicate 1 l).flatten=l;simp
     ·have:l=[]:=by
       rw[hlen]at a;exact List.eq_nil_of_length_eq_zero (by simpa using a)
      subst this;simp
    rw[e]at q;exact⟨.str ⟨l.toArray⟩,H,I,⟨t,rfl⟩,q⟩
   ·have e:=vB l k.toNat [];rw[YG]at e;rw[show (⟨l.toArray⟩:Str).cps=l.toArray from rfl,e];refine⟨?_,⟨.str ⟨(List.replicate k.toNat l).flatten.toArray⟩,H,I.tok _,⟨s.toks,rfl⟩,q⟩⟩;have j:=len_rep l k.toNat;show (⟨(List.replicate k.toNat l).flatten.toArray⟩:Str).length<=KF;show ((List.replicate k.toNat l).flatten.toArray).size<=KF;rw[ZZ,j,Nat.mul_comm];exact b
end
end L2
namespace VS
open PySem PySem.Spec PyProof.Rows L2
section
variable{G:Gx}{X:Cx}{a b c e tg:Expr}{es:List Expr}{ca cb cc:Ex}{cs:Hf}{pos p p1 p2 apos oe:Pos}{k k':Nat}
def Bo:fE G (λx y H Q=>∃(l:Wq)(k:Int),x=.str ⟨l.toArray⟩/\y=.int k/\-(2 ^ 62)<=k/\k<2 ^ 62/\l.length*k.toNat<=KF/\Q (.str ⟨(List.replicate k.toNat l).flatten.toArray⟩) H) vk:=by
 intro M U v H x y u w A z m t Q g e k;obtain⟨s,x⟩:=x;obtain⟨r,y⟩:=y;obtain⟨same,r1,r2,f1,f2,nd⟩:=g;unfold vk at e;split at e
 ·rename_i _ h _ j e1 e2;cases e1;cases e2;split at e
  ·rename_i d;cases e;have o:=d.2.1;have n:=d.2.2;unfold Kf at o n;refine⟨h,j,r1.str_inv.1,r2.int_inv,by lia,by lia,d.1,bx k (.str _ ⟨?_,λc q=>?_⟩)⟩
   ·rw[len_rep,Nat.mul_comm];exact d.1
   ·obtain⟨x,i,f⟩:=Wu.mp q;rw[(List.mem_replicate.mp i).2]at f;exact r1.str_inv.2.2 c f
  ·cases e
 ·cases e
def xi:PV G X (.Dict [] [] pos) (rn 0 []):=PE.weak yp λJ H Q d=>by
 obtain⟨M,U,m,t,s,e,k⟩:=d;cases (show Z (Md.fr,T.dct 0 [])=Z (m,t) from e);intro q d;have:Rp G (upd H q (.dK [])) (.ref q) (.dct 0 ((([]:List Key).map aN).zip [])) (q :: ([]:Xl).flatten):=.dct au Y .nil;exact k _ _ [q] (br d) this ⟨by simp,λb hb=>by rw[Zh.mp hb];exact d⟩
end
section
variable{G:Gx}{X:Cx}{a b c e tg:Expr}{es:List Expr}{ca cb cc ce:Ex}{cs:Hf}{pos p p1 p2 apos oe pos':Pos}{k k':Nat}
def jr{h:List Stmt}{E:Sx}(hp:PassesOwn (KB X.prog X.w) X.A X.env X.xe)(hc:Ip G X c cc)(hb:gD G X h E):PSV G X (.While c h [] pos) (lD cc E) :=
 PS.weak (xE hp hc hb) λD J H hq=>by
  obtain⟨M,U,o,s,e,k⟩:=hq;refine⟨λn F N=>∃r m,SR G r m F N/\G1 M U H r m N/\dY cc E n m=Z o,⟨vO,M,U,s,G1.refl M U H,e⟩,?_⟩;rintro n F N ⟨r,m,Q,f2,e2⟩;cases n with
  |zero=>cases (show (L:Option Out)=Z o from e2)
  |succ n =>
   rw[dY]at e2;obtain⟨⟨mx,x⟩,ex,e3⟩:=Zz.mp e2;obtain⟨t,et,C⟩:=Zz.mp e3;refine⟨r,m,mx,x,t,Q,ex,et,λH3 O=>?_⟩;have P:=Q.same O;have y:G1 M U H r m H3:=f2.trans (G1.same O);cases t with
   |false =>
    rw[Zn Zc]at C;cases C;show if R=B then _ else _
    rw[Zn Zc];exact k r F H3 P y
   |true =>
    rw[Zq Y]at C;show if B=B then _ else _
    rw[Zq Y];obtain⟨S,e5,z⟩:=Zz.mp C;refine⟨λi g=>∃f d,SR G f d i g/\G1 M U H f d g/\dY cc E n d=Z o,λi g q=>⟨n,Yv n,q⟩,r,m,S,P,e5,?_⟩;cases S with
    |nx d=>exact λf i g j l=>⟨f,d,j,y.trans l,z⟩
    |ct d=>exact λf i g j l=>⟨f,d,j,y.trans l,z⟩
    |bk d =>
     cases (show Z (Out.nx d)=Z o from z);exact λf i g j l=>k f i g j (y.trans l)
    |rt v d =>
     cases (show Z (Out.rt v d)=Z o from z);exact λu g F4 f i j l r5 q5=>k u g F4 f i j (y.trans l) r5 (q5.back y)
def NP:Sx:=λ_=>L
def pI{f:Stmt}:PSV G X f NP:=λd s J H D I ⟨_,_,_,_,e,_⟩=>nomatch (show (L:Option Out)=Z _ from e)
def fh{H:Hp}{v:V}{l:List (T×T)}{F:Xa}(r:Rp G H v (.dct 0 l) F):∃(a:KM)(f:List Key)(d:List V)(g:Wh)(i:Xl),v=.ref a/\F=a :: i.flatten/\H a=Z (.dK (f.zip d))/\f.length=d.length/\l=(f.map aN).zip g/\RpL G H d g i:=by
 cases r with
 |dct h j q=>exact⟨_,_,_,_,_,rfl,rfl,h,j,rfl,q⟩
def dW{H:Hp}{v:V}{t:T}{F:Xa}(r:Rp G H v t F)(h:iG t=B):∃k:Key,v=kV k/\t=aN k:=by
 cases t with
 |int i=>exact⟨.inl i,r.int_inv,rfl⟩
 |str s=>exact⟨.inr (sx s),r.str_inv.1,by simp[aN,sx]⟩
 |_=>cases h
theorem kz{H:Hp}{k:Key}:∀{d:List Key}{f:List V}{ts:Wh}{Fs:Xl},d.length=f.length->RpL G H f ts Fs →
  (fD ((d.map aN).zip ts) (aN k)=L/\gC (d.zip f) k=L)\/∃(i:Nat)(v:V)(t:T)(F:Xa),fD ((d.map aN).zip ts) (aN k)=Z t/\gC (d.zip f) k=Z v/\f[i]?=Z v/\Fs[i]?=Z F/\Rp G H v t F
 |[],[],_,_,_,.nil=>.inl ⟨rfl,rfl⟩
 |k' :: d,v :: f,_,_,o,.cons (t:=t) (F:=F) (ts:=ts) (Fs:=Fs) r q=>by
  have e:eqT (aN k') (aN k)=decide (k'=k):=by
   rw[YE,decide_eq_true_eq];cases k with
   |inl i=>cases k'<;>simp[aN]
   |inr x =>
    obtain⟨⟨x⟩⟩:=x;cases k' with
    |inl j=>simp[aN]
    |inr y=>obtain⟨⟨y⟩⟩:=y;simp[aN]
  by_cases g:k'=k
  ·refine .inr ⟨0,v,t,F,?_,iJ g,rfl,rfl,r⟩;have l:eqT (aN k') (aN k)=B:=by rw[e];exact decide_eq_true g
   simp only[fD,Zo,ZY,Z9,l];rfl
  ·have u:fD (((k' :: d).map aN).zip (t :: ts)) (aN k)=fD ((d.map aN).zip ts) (aN k):=by
    have l:eqT (aN k') (aN k)=R:=by rw[e];exact Za g
    simp only[fD,Zo,ZY,Z9,l]
   have s:gC ((k' :: d).zip (v :: f)) k=gC (d.zip f) k:=by simp[gC,g]
   rw[u,s];rcases kz (k:=k) (by simpa using o) q with h | ⟨i,m,n,E,D,C,A,z,w⟩
   ·exact .inl h
   ·exact .inr ⟨i+1,m,n,E,D,C,by simpa using A,by simpa using z,w⟩
def pY(m:X.A.units+1<cLine):Iq X (λx y H Q=>∃a v,x=.ref a/\h9 H a y (Z v)/\Q v H):=by
 intro value slice d s J H x y v u Q I l j h n;obtain⟨a,w,rfl,g,q⟩:=h;cases l;have f:=rj I g;unfold subscriptTail;refine Zl ?_;rw[getitemInPython_of_ne f.not_modules];refine Zl (wpAny_specialOf f PySem.F.slot_dict_getitem.lookup ?_);have fin:PP (KB X.prog X.w) X.A (subscripted slice R (.ref a) u) (λr i=>PP (KB X.prog X.w) X.A (letTemporaryGo value (.ref a) r >>= λ_=>pure r) (EP X d J Q) X.xe i) X.xe s:=by
  rw[n];exact wpAny_operating (vH m I g j λz C t o=>Zl (wpAny_letTemporaryGo (ZS ⟨w,H,t,o,q⟩)))
 first
  |exact ZS (Zl fin)
  |exact Zl (ZS (Zl fin))
  |exact Zl fin
def Fz(K:Xk):R2:=λx y H Q=>P4 K x y H Q\/∃a v,x=.ref a/\h9 H a y (Z v)/\Q v H
def EA:fE G (Fz G.K) IM:=by
 intro M U J H x y u w O N m t Q d e k;obtain⟨g,x⟩:=x;by_cases hd:∃l,x=.dct 0 l
 ·obtain⟨l,rfl⟩:=hd;simp only[IM]at e;split at e
  ·rename_i o;obtain⟨t',e1,e2⟩:=Zy.mp e;obtain⟨a,ks,P,S,Fs,rfl,rfl,r,n,rfl,q⟩:=fh d.r1;obtain⟨j,rfl,z⟩:=dW d.r2 o;rw[z]at e1;rcases kz (k:=j) n q with⟨s,_⟩ | ⟨i,v,Y,F,E,D,a3,C,h⟩
   ·rw[s]at e1;cases e1
   ·rw[E]at e1;cases e1;cases e2;refine .inr ⟨a,v,rfl,by rw[← D];exact h9.k r,?_⟩;have f:=((d.f1.sub (Yw _ _)).sub (cH C)).up h;exact k v H F (aC.refl _) h f
  ·cases e
 ·have A:aB (g,x) y=Z (m,t):=by
   simp only[IM]at e;split at e
   ·rename_i l hx;exact absurd ⟨_,rfl⟩ hd
   ·exact e
  exact .inl (sZ M U J H (g,x) y u w O N m t Q d A k)
def wD(f:p0 k X.A)(i:PV G X a ca)(g:PV G X b cb)(d:gQ b:=by intro _ _;rfl)(j:X.K=G.K:=by rfl):PV G X (.Subscript a b pos) (e2 IM ca cb) :=
 PE.weak (mV (Iq.or jJ (pY (ke f))) i g d) λJ H Q h=>by rw[j];exact nS EA h
def fV:T->V
 |.bl b=>.bl b
 |.int i=>.int i
 |.str s=>.str (sx s)
 |_=>.non
def BG{H:Hp}{v:V}{t:T}{F:Xa}(r:Rp G H v t F)(h:flat t=B):v=fV t/\fN v=B:=by
 cases r with
 |non=>exact⟨rfl,rfl⟩
 |bl b=>exact⟨rfl,rfl⟩
 |int i=>exact⟨rfl,rfl⟩
 |str s d=>exact⟨rfl,rfl⟩
 |_=>cases h
theorem Eh:∀{t u:T},flat t=B->flat u=B->Lr (fV t) (fV u)=eqT t u
 |.non,.non,_,_=>rfl
 |.non,.bl _,_,_=>rfl
 |.non,.int _,_,_=>rfl
 |.non,.str _,_,_=>rfl
 |.bl _,.non,_,_=>rfl
 |.bl _,.bl _,_,_=>rfl
 |.bl _,.int _,_,_=>rfl
 |.bl _,.str _,_,_=>rfl
 |.int _,.non,_,_=>rfl
 |.int _,.bl _,_,_=>rfl
 |.int _,.int _,_,_=>rfl
 |.int _,.str _,_,_=>rfl
 |.str _,.non,_,_=>rfl
 |.str _,.bl _,_,_=>rfl
 |.str _,.int _,_,_=>rfl
 |.str _,.str _,_,_=>zc
def wM{H:Hp}{v w:V}{t u:T}{F h:Xa}(r:Rp G H v t F)(g:Rp G H w u h)(f:flat t=B)(d:flat u=B):Lr v w=eqT t u/\fN v=B/\fN w=B:=by
 obtain⟨e1,f1⟩:=BG r f;obtain⟨e2,f2⟩:=BG g d;refine⟨?_,f1,f2⟩;rw[e1,e2];exact Eh f d
theorem pD{H:Hp}{x:V}{t:T}{F:Xa}(r:Rp G H x t F)(g:flat t=B):∀{d:List V}{f:Wh}{m:Xl},RpL G H d f m->f.all flat=B->d.all fN=B/\Oe x d=f.any λy=>eqT y t
 |_,_,_,.nil,_=>⟨rfl,rfl⟩
 |_,_,_,.cons j q,h=>by
  rw[Y3,Ze]at h;obtain⟨l,i⟩:=pD r g q h.2;obtain⟨e1,e2,n⟩:=wM j r h.1 g;refine⟨by rw[Y3,e2,l];rfl,?_⟩;unfold Oe at i ⊢;rw[Yf,Yf,i,e1]
def EW(K:Xk):R2:=λx y H Q=>Pa K R x y H Q\/∃a o,y=.ref a/\h9 H a x o/\Q (.bl o.isSome) H
def uj(K:Xk):R2:=λx y H Q=>Pa K B x y H Q\/∃a o,y=.ref a/\h9 H a x o/\Q (.bl (!o.isSome)) H
def AR(j:X.A.units+1<cLine):OpR X (SL .In) (λx y H Q=>∃a o,y=.ref a/\h9 H a x o/\Q (.bl o.isSome) H):=by
 intro d s J H x y v u Q I i f h;obtain⟨a,o,rfl,g,q⟩:=h;cases f;exact GG j I g i λm l=>⟨.bl o.isSome,H,l,rfl,q⟩
def yC(j:X.A.units+1<cLine):OpR X (SL .NotIn) (λx y H Q=>∃a o,y=.ref a/\h9 H a x o/\Q (.bl (!o.isSome)) H):=by
 intro d s J H x y v u Q I i f h;obtain⟨a,o,rfl,g,q⟩:=h;cases f;exact zP j I g i λm l=>⟨.bl (!o.isSome),H,l,rfl,q⟩
def sI{M:GV}{U:VS.Env}{O H:Hp}{x y:Val}{u w:V}{Q P:Xa}{m:Md}{t:T}(f:OT G M U O H x y u w Q P)(e:lq x y=Z (m,t)) :
  ∃b,m=.fr/\t=.bl b/\((∃p n,w=.ref p/\(GW G.K H p n\/HN G.K H p n)/\fN u=B/\n.all fN=B/\Oe u n=b)\/∃a o,w=.ref a/\h9 H a u o/\o.isSome=b):=by
 obtain⟨m2,y⟩:=y;simp only[lq]at e;split at e
 ·split at e
  ·rename_i d;cases e;obtain⟨a,C,g,S,A,rfl,rfl,h,D,rfl,q⟩:=fh f.r2;obtain⟨z,rfl,E⟩:=dW f.r1 d;refine⟨_,rfl,rfl,.inr ⟨a,gC (C.zip g) z,rfl,h9.k h,?_⟩⟩;rw[E];rcases kz (k:=z) D q with⟨l,j⟩ | ⟨i,v,Y,F,N,J,_⟩
   ·rw[l,j];rfl
   ·rw[N,J];rfl
  ·cases e
 ·split at e
  ·rename_i d;cases e;rw[Ze]at d;obtain⟨a,g,A,rfl,rfl,h,r⟩:=f.r2.lst_inv;obtain⟨l,j⟩:=pD f.r1 d.1 r d.2;have s:fN u=B:=(wM f.r1 f.r1 d.1 d.1).2.1;exact⟨_,rfl,rfl,.inl ⟨a,g,rfl,.inl (GW.of h),s,l,j⟩⟩
  ·cases e
 ·split at e
  ·rename_i d;cases e;rw[Ze]at d;obtain⟨a,g,A,rfl,rfl,h,r⟩:=f.r2.HX;obtain⟨l,j⟩:=pD f.r1 d.1 r d.2;have s:fN u=B:=(wM f.r1 f.r1 d.1 d.1).2.1;exact⟨_,rfl,rfl,.inl ⟨a,g,rfl,.inr (HN.of h),s,l,j⟩⟩
  ·cases e
 ·cases e
def Ek:fE G (EW G.K) lq:=by
 intro M U j H x y u w n l m t Q f e k;obtain⟨b,rfl,rfl,h⟩:=sI f e;rcases h with⟨p,d,rfl,i,f1,f2,hb⟩ | ⟨a,o,rfl,g,hb⟩
 ·refine .inl ⟨p,d,rfl,i,f1,f2,?_⟩;rw[hb];exact bx k (.bl b)
 ·refine .inr ⟨a,o,rfl,g,?_⟩;rw[hb];exact bx k (.bl b)
def DG:fE G (uj G.K) dQ:=by
 intro M U r H x y u w v s m t Q j e k;unfold dQ at e;split at e
 ·rename_i q f n;cases e;obtain⟨b,rfl,d,h⟩:=sI j n;cases d;rcases h with⟨p,i,rfl,l,f1,f2,hb⟩ | ⟨a,o,rfl,g,hb⟩
  ·refine .inl ⟨p,i,rfl,l,f1,f2,?_⟩;rw[hb];exact bx k (.bl (!f))
  ·refine .inr ⟨a,o,rfl,g,?_⟩;rw[hb];exact bx k (.bl (!f))
 ·cases e
def za:Tells lq:=by
 intro x y m t e;simp only[lq]at e;split at e
 all_goals first | (split at e<;>first | (cases e;exact⟨_,rfl⟩) | cases e) | cases e
def vP:Tells dQ:=by
 intro x y m t e;unfold dQ at e;split at e
 ·cases e;exact⟨_,rfl⟩
 ·cases e
def B0(d:p0 k X.A)(h:PV G X a ca)(g:PV G X b cb)(f:behindInMarks .In b=R:=by with_unfolding_all rfl)(i:X.K=G.K:=by rfl):Ip G X (.Compare a [.In] [b] pos) (e2 lq ca cb):=iy (r:=EW X.K) (vK.or (AR (ke d))) (i ▸ Ek) za h g f
def zp(d:p0 k X.A)(h:PV G X a ca)(g:PV G X b cb)(f:behindInMarks .NotIn b=R:=by with_unfolding_all rfl)(i:X.K=G.K:=by rfl):Ip G X (.Compare a [.NotIn] [b] pos) (e2 dQ ca cb):=iy (r:=uj X.K) (pO.or (yC (ke d))) (i ▸ DG) vP h g f
end
end VS
end
section
open PySem PyProof.Rows
namespace TS
variable{prog:Re}{w:UF}{A:SB}{E:Z5}{s:IR}{G:Pi->Prop}{r:Pi->Pi->Bool}
def pv{d:X3}{a:Array Pi}(e:a.Perm (pairsOf d)):(a.map (·.2)).toList.Perm d/\(a.map (·.2)).toList.map (λv=>(v,v))=a.toList:=by
 have b:=Array.perm_iff_toList_perm.mp e;rw[pairsOf_toList]at b;constructor
 ·rw[Array.toList_map];refine(b.map _).trans ?_;rw[show (λx:Pi=>x.2)=Prod.snd from rfl,List.map_snd_zip (Zj _)]
 ·rw[Array.toList_map,Z6]
  conv=>rhs;rw[← List.map_id a.toList]
  apply XF;intro p f;have:=mem_zip_self (b.mem_iff.mp f);exact Prod.ext this.1.symm Y
end TS
end
section
namespace L2
open PySem PySem.Spec PyProof.Rows TS
section
variable{X:Cx}
theorem rE:∀{a:X3},(∀v∈a,∃x t,v=Value.str x t)->aK ((a.map strOf).map V.str) a
 |[],_=>.nil
 |u :: a,h=>by
  obtain⟨x,t,rfl⟩:=h u (Zv ..);exact .cons ⟨t,rfl⟩ (rE λv b=>h v (Zw _ b))
end
end L2
end
section
namespace VS
mutual
theorem ny:∀(n:Nat)(t:T),HL n t=B->eqT t t=B
 |n,.non,_=>by simp
 |n,.bl _,_=>by simp
 |n,.int _,_=>by simp
 |n,.str _,_=>by simp
 |n+1,.tup l,h=>by
  simp only[HL,Yt]at h;simp only[eqT];exact kW n l h
 |n+1,.lst l,h=>by
  simp only[HL,Yt]at h;simp only[eqT];exact kW n l h
 |0,.tup _,h=>by simp at h
 |0,.lst _,h=>by simp at h
 |_,.scr _,h=>by simp at h
 |_,.dct _ _,h=>by simp at h
 |_,.obj _ _,h=>by simp at h
theorem kW:∀(n:Nat)(l:Wh),(∀t∈l,HL n t=B)->uf l l=B
 |_,[],_=>rfl
 |n,t :: r,h=>by
  simp only[uf,Ze];exact⟨ny n t (h t Zv),kW n r λu a=>h u (Zw _ a)⟩
end
def yy{α:Type}(l:List α)(a b:Option Int):(cut l a b).length<=l.length:=by
 unfold cut;simp only[Ym,YW];omega
def AZ{α:Type}(l:List α)(a b:Option Int){x:α}(h:x∈cut l a b):x∈l:=by
 unfold cut at h;exact List.mem_of_mem_drop (List.mem_of_mem_take h)
def yo{α:Type}(l:List α)(k:Nat):cut l L (Z (k:Int))=l.take k:=by
 have h:¬((k:Int)<0):=by lia
 by_cases a:k<=l.length
 ·simp[cut,clip,h,Yb a]
 ·rw[Y9 (by lia)];simp[cut,clip,h,Ww (Xp a)]
def dr{tg:Tg}{it:JI}{body:Sx}{U:Env}{m:Md}{l:Wh}(e:it U=Z (m,l))(h:SF m=B):fZ tg it body U=forL tg body l U:=by
 unfold fZ;rw[e];exact Zq h
def cV{g:Fn}{b:Hf}{U:Env}{a:Wj}{t:T}(h:b U=Z a)(d:g (trees a)=Z (.fr,t)):bB g b U=Z (.fr,t):=by
 simp only[bB,h,Zx,d]
def aT{i:Nat}{e:Ex}{U:Env}{m:Md}{t:T}(h:e U=Z (m,t))(a:m ≠ .bo)(b:i<U.length):aP i e U=Z (.nx (U.set i (Z (.pu t)))):=by
 simp only[aP,h,Zx];cases m with
 |bo=>exact absurd Y a
 |_=>simp[b]
end VS
end
section
namespace VS
open PySem PySem.Spec PyProof.Rows L2
def EE{a b c:Tx}(h:a<b)(d:¬c<b):a<c:=by
 by_cases e:a<c
 ·exact e
 ·exact absurd (List.lt_of_le_of_lt (List.not_lt.mp e) h) d
theorem jM(x:Tx):∀l:List Tx,(nQ x l).Perm (x :: l)
 |[]=>List.Perm.refl _
 |y :: r=>by
  unfold nQ;split
  ·exact((jM x r).cons y).trans (List.Perm.swap _ _ _)
  ·exact List.Perm.refl _
theorem iU:∀l:List Tx,(eR l).Perm l
 |[]=>List.Perm.refl _
 |x :: l=>(jM x _).trans ((iU l).cons x)
theorem rW(x:Tx):∀{l:List Tx},l.Pairwise (λa b=>¬b<a)->(nQ x l).Pairwise (λa b=>¬b<a)
 |[],_=>by simp[nQ]
 |y :: r,h=>by
  unfold nQ;rw[nr];obtain⟨f,g⟩:=X0.mp h;split
  ·rename_i c;have e:y<x:=by simpa using c
   refine X0.mpr ⟨λz d=>?_,rW x g⟩;rcases Zp.mp ((jM x r).mem_iff.mp d) with rfl | d
   ·exact λz=>List.lt_irrefl _ (List.lt_trans e z)
   ·exact f z d
  ·rename_i c;have e:¬y<x:=by simpa using c
   refine X0.mpr ⟨λz d=>?_,h⟩;rcases Zp.mp d with rfl | d
   ·exact e
   ·exact λw=>f z d (EE w e)
theorem oG:∀l:List Tx,(eR l).Pairwise (λa b=>¬b<a)
 |[]=>List.Pairwise.nil
 |x :: l=>rW x (oG l)
def pf{l d:List Tx}(h:d.Perm l)(e:d.Pairwise (λa b=>¬b<a)):d=eR l :=
 List.Perm.eq_of_pairwise (le:=λa b=>¬b<a) (λa b _ _ g f=>List.le_antisymm (List.not_lt.mp g) (List.not_lt.mp f)) e (oG l) (h.trans (iU l).symm)
def xw(s:Tx):(sx s).cps.toList=s:=rfl
def yM{f:List Tx}{d:List Str}(h:d.Perm (f.map sx))(i:d.Pairwise (λa b=>¬b.cps.toList<a.cps.toList)):d=(eR f).map sx:=by
 have e:d=(d.map λx=>x.cps.toList).map sx:=by
  rw[Z6]
  conv=>lhs;rw[← List.map_id d]
  apply XF;intro x g;obtain⟨s,_,rfl⟩:=Yg.mp (h.mem_iff.mp g);show sx s=sx (sx s).cps.toList;rw[xw]
 have e2:(d.map λx=>x.cps.toList)=eR f:=by
  refine pf ?_ ?_
  ·have:=h.map λx:Str=>x.cps.toList;rw[Z6]at this;have j:((λx:Str=>x.cps.toList) ∘ sx)=id:=by
    funext s;exact xw s
   rw[j,List.map_id]at this;exact this
  ·rw[X6];exact i
 rw[e,e2]
noncomputable def Nh(s:Tx):Bool:=decide (s.length<=eO)&&s.all (λc=>decide (c<1114112))
def DH{s:Tx}(h:Nh s=B):pP s:=by
 unfold Nh at h;simp at h;exact h
section
variable{G:Gx}{X:Cx}{e:Expr}{cs:Hf}{p pos:Pos}
theorem ud{H:Hp}:∀{ss:List Tx},(∀s∈ss,pP s)->RpL G H (ss.map λs=>V.str (sx s)) (ss.map T.str) (ss.map λ_=>[])
 |[],_=>.nil
 |s :: ss,h=>.cons (.str s (h s (Zv ..))) (ud λx a=>h x (Zw _ a))
theorem n8{α β:Type}:∀(l:List α),(l.map λ_=>([]:List β)).flatten=[]
 |[]=>rfl
 |_ :: l=>by simp
def yT{M:GV}{U:VS.Env}{i H:Hp}{d:List Tx}{Q:VK}(k:∀v g F,aC H g->Rp G g v (.lst ((eR d).map T.str)) F->Fp M U i .fr F->Q v g)(n:aC i H)(j:∀s∈d,pP s) :
  ∀(l:KM)(f:List Str),H l=L->f.Perm (d.map sx)->f.Pairwise (λa b=>¬b.cps.toList<a.cps.toList)->Q (.ref l) (upd H l (.lst (f.map V.str))):=λq f h u hw=>by
 rw[yM u hw];have m:aC H (upd H q (.lst (((eR d).map sx).map V.str))):=br h;have o:=ud (G:=G) (H:=upd H q (.lst (((eR d).map sx).map V.str))) λs t=>j s ((iU d).mem_iff.mp t);have r:Rp G (upd H q (.lst (((eR d).map sx).map V.str))) (.ref q) (.lst ((eR d).map T.str)) (q :: ((eR d).map λ_=>[]).flatten):=.lst (by rw[au,Z6];rfl) o;rw[n8]at r;exact k _ _ _ m r (Fp.new (n.free h) (by simp) Fp.nil)
theorem keys_str:∀{a:List Key}{b:List Tx},strs? (a.map aN)=Z b->a=(b.map sx).map Sum.inr
 |[],_,e=>by cases e;rfl
 |.inl i :: a,_,e=>by cases e
 |.inr x :: a,b,e=>by
  simp only[Zo,aN,strs?]at e;obtain⟨d,e1,e2⟩:=Zy.mp e;subst e2;rw[keys_str e1];simp[sx]
def vT:bootBuiltins ("sorted" : Str)=Z (.builtin "sorted"):=by decide +kernel
end
end VS
end
section
namespace ST
open PySem PySem.Spec PyProof.Rows
variable{prog:Re}{w:UF}{A:SB}{E:Z5}{s:IR}
def Ei{Q:PySem.Fin->IR->Prop}{f:Z5}(g:A.handled=L)(h:∀(d:SZ)(x:KM),(∀b o,s.heap.get? b=Z o->d.get? b=Z o)->(∃o,d.get? x=Z o/\o.cls=.type "StopIteration")->f (.ref x) { s with heap:=d }) :
  PP (KB prog w) A (newExc (.type "StopIteration") [] >>= λe=>raiseNew e) Q f s:=by
 simp only[newExc,newTuple];refine Zl (Zl (XQ (Zl (m:=firstArgMember _ _) (wpAny_of_eq (a:=Value.none) (by first | rfl | (simp only[firstArgMember];rfl)) (XQ ?_ (by size_fits)))) (by size_fits)));simp only[raiseNew];refine Zl (wpAny_handled ?_);rw[g];exact Zl (ZS (wpAny_throw (h _ _ (λb o e=>Zk _ (Zk _ e)) ⟨_,ZU _ Y,rfl⟩)))
end ST
end
section
namespace VS
open PySem PySem.Spec PyProof.Rows L2
inductive Ik(G:Gx)(H:Hp):List Ky->V->V->Prop
 |nil (v:V):Ik G H [] v v
 |fld {c k:Nat} {a dx:KM} {fs:List (Str×V)} {u w:V} {ks:List Ky}:H a=some (.ins (G.ct (c+1)).1 dx fs)->fs.lookup ((G.ct (c+1)).2 k)=some u->Ik G H ks u w->Ik G H (.fld k :: ks) (.ref a) w
 |ix {a:KM} {vs:List V} {i:Int} {j:Nat} {u w:V} {ks:List Ky}:H a=some (.lst vs)->HJ vs.length i=some j->vs[j]?=some u->Ik G H ks u w->Ik G H (.at (.int i) :: ks) (.ref a) w
 |key {a:KM} {bt:List (Key×V)} {k:Key} {u w:V} {ks:List Ky}:H a=some (.dK bt)->gC bt k=some u->Ik G H ks u w->Ik G H (.at (aN k) :: ks) (.ref a) w
 |un {v w:V} {ks:List Ky}:Ik G H ks v w->Ik G H (.un :: ks) v w
section
variable{G:Gx}
def qb{f:Xl}{i j:Nat}{F h:Xa}(d:f.flatten.Nodup)(b:f[i]?=Z F)(e:f[j]?=Z h)(n:i≠j){a:KM}(g:a∈F):a∉h:=by
 intro hb
 induction f generalizing i j with
 |nil=>simp at b
 |cons G m l =>
  rw[ZW,ZR]at d;cases i with
  |zero =>
   simp at b;subst b;cases j with
   |zero=>exact n Y
   |succ j=>exact d.2.2 a g a (cO (by simpa using e) hb) Y
  |succ i =>
   cases j with
   |zero =>
    simp at e;subst e;exact d.2.2 a hb a (cO (by simpa using b) g) Y
   |succ j=>exact l d.2.1 (by simpa using b) (by simpa using e) (by lia)
def cQ{d:Xl}{j:Nat}{g:Xa}{a:KM}(h:a∈(d.set j g).flatten):a∈g\/∃i F,i≠j/\d[i]?=Z F/\a∈F:=by
 obtain⟨i,F,b,f⟩:=gf h;by_cases e:i=j
 ·subst e;rw[List.getElem?_set_self' ]at b;cases q:d[i]? with
  |none=>rw[q]at b;cases b
  |some _=>rw[q]at b;cases b;exact .inl f
 ·rw[Yr (Yi e)]at b;exact .inr ⟨i,F,e,b,f⟩
theorem eJ:∀{p:Xl}{j:Nat}{f:Xa},p.flatten.Nodup->f.Nodup->(∀i F,i≠j->p[i]?=Z F->∀a∈F,a∉f)->(p.set j f).flatten.Nodup
 |[],_,_,h,_,_=>by simpa using h
 |G :: r,0,f,h,o,d=>by
  rw[ZW,ZR]at h;rw[List.set_cons_zero,ZW,ZR];refine⟨o,h.2.1,λa g b hb e=>?_⟩;subst e;obtain⟨i,F,m,l⟩:=gf hb;exact d (i+1) F (by lia) (by simpa using m) a l g
 |G :: r,j+1,f,h,o,d=>by
  rw[ZW,ZR]at h;rw[List.set_cons_succ,ZW,ZR];refine⟨h.1,eJ h.2.1 o λi F n q=>d (i+1) F (by lia) (by simpa using q),λa g b hb e=>?_⟩;subst e;rcases cQ hb with z | ⟨i,F,n,m,l⟩
  ·exact d 0 G (by lia) Y a g z
  ·exact h.2.2 a g a (cO m l) Y
theorem RpL.each{H h:Hp}:∀{e:List V}{f:Wh}{g:Xl},RpL G H e f g->(∀(i:Nat) v t F,e[i]?=Z v->f[i]?=Z t->g[i]?=Z F->Rp G H v t F->Rp G h v t F)->RpL G h e f g
 |_,_,_,.nil,_=>.nil
 |_,_,_,.cons r q,k=>.cons (k 0 _ _ _ Y Y Y r) (RpL.each q λi v t F a b c d=>k (i+1) v t F (by simpa using a) (by simpa using b) (by simpa using c) d)
theorem RpL.setAt{H l:Hp}:∀{e:List V}{f:Wh}{m:Xl}{j:Nat}{u:V}{o:T}{p:Xa},RpL G H e f m->e[j]?=Z u->Rp G l u o p->(∀(i:Nat) v t F,i≠j->e[i]?=Z v->f[i]?=Z t->m[i]?=Z F->Rp G H v t F->Rp G l v t F)->RpL G l e (f.set j o) (m.set j p)
 |_,_,_,_,_,_,_,.nil,h,_,_=>by simp at h
 |_,_,_,0,_,_,_,.cons r q,h,g,k=>by
  simp at h;subst h;exact .cons g (RpL.each q λi v t F a b c d=>k (i+1) v t F (by lia) (by simpa using a) (by simpa using b) (by simpa using c) d)
 |_,_,_,j+1,_,_,_,.cons r q,h,g,k=>.cons (k 0 _ _ _ (by lia) Y Y Y r) (RpL.setAt q (by simpa using h) g λi v t F n a b c d=>k (i+1) v t F (by lia) (by simpa using a) (by simpa using b) (by simpa using c) d)
def qz{H q:Hp}{a:KM}{o:HO}{s:List V}{E:Wh}{d:Xl}{j:Nat}{u:V}{D:T}{C f:Xa}(N:H a=Z o)(J:RpL G H s E d)(e:(a :: d.flatten).Nodup)(O:s[j]?=Z u)(A:d[j]?=Z C)(g:Chg G H u C D q f):q a=Z o/\RpL G q s (E.set j D) (d.set j f)/\(a :: (d.set j f).flatten).Nodup/\(∀b∈a :: (d.set j f).flatten,b∈a :: d.flatten\/H b=L)/\∀b o,b∉a :: d.flatten->H b=Z o->q b=Z o:=by
 rw[Zg]at e;have p:∀b∈C,b∈d.flatten:=λb hb=>cO A hb;have Q:∀i F,i≠j->d[i]?=Z F->∀b∈F,b∉f:=λi F n M b hb y=>by
  rcases g.sub b y with z | z
  ·exact qb e.2 M A n hb z
  ·exact GT.gV (J.G3 b (cO M hb)) z
 refine⟨g.keep a o (λz=>e.1 (p a z)) N,J.setAt O g.rp (λi v t F n m l P r=>r.keep g.kept λb hb w x=>g.keep b w (qb e.2 P A n hb) x),?_,λb hb=>?_,λb w hb x=>g.keep b w (λz=>hb (Zw _ (p b z))) x⟩
 ·rw[Zg];refine⟨λh=>?_,eJ e.2 g.nd Q⟩;rcases cQ h with z | ⟨i,F,n,m,l⟩
  ·rcases g.sub a z with z | z
   ·exact e.1 (p a z)
   ·rw[N]at z;cases z
  ·exact e.1 (cO m l)
 ·rcases Zp.mp hb with rfl | hb
  ·exact .inl Zv
  ·rcases cQ hb with z | ⟨i,F,n,m,l⟩
   ·rcases g.sub b z with z | z
    ·exact .inl (Zw _ (p b z))
    ·exact .inr z
   ·exact .inl (Zw _ (cO m l))
theorem qf{α β:Type}:∀(d:List α)(bs:List β)(i:Nat)(a:α)(y:β),d[i]?=Z a->(d.zip bs).set i (a,y)=d.zip (bs.set i y)
 |[],_,_,_,_,h=>by simp at h
 |a :: d,[],i,_,_,_=>by cases i<;>simp
 |a :: d,b :: bs,0,_,y,h=>by simp at h;subst h;rfl
 |a :: d,b :: bs,i+1,_,y,h=>by
  have:=qf d bs i _ y (by simpa using h);simp[this]
theorem j6{α β:Type}(p:α->Bool):∀{e:List α}{bs:List β}{i:Nat},e.length=bs.length->(e.zip bs).findIdx? (λq=>p q.1)=Z i->∃a b,e[i]?=Z a/\bs[i]?=Z b/\p a=B/\(e.zip bs).find? (λq=>p q.1)=Z (a,b)
 |[],[],_,_,h=>by simp at h
 |a :: e,b :: bs,i,f,h=>by
  rw[ZY,X1]at h;by_cases d:p a=B
  ·rw[Zq d]at h;cases h;exact⟨a,b,rfl,rfl,d,by simp[d]⟩
  ·rw[Zn d]at h;obtain⟨j,g,rfl⟩:=Zy.mp h;obtain⟨s,r,o,n,m,l⟩:=j6 p (by simpa using f) g;exact⟨s,r,by simpa using o,by simpa using n,m,by simp[d,l]⟩
def kF(k a:Key):eqT (aN a) (aN k)=B↔a=k:=by
 cases k with
 |inl i=>cases a<;>simp[aN]
 |inr x =>
  obtain⟨⟨x⟩⟩:=x;cases a with
  |inl j=>simp[aN]
  |inr y=>obtain⟨⟨y⟩⟩:=y;simp[aN]
theorem ui{k:Key}{u:V}:∀{ns:List Key}{d:Wh}{a:List V}{i:Nat},ns.length=d.length->ns.length=a.length->((ns.map aN).zip d).findIdx? (λq=>eqT q.1 (aN k))=Z i->a[i]?=Z u->gC (ns.zip a) k=Z u
 |[],_,_,_,_,_,h,_=>by simp at h
 |n :: ns,t :: d,v :: a,i,m,l,h,e=>by
  rw[Zo,ZY,X1]at h;by_cases b:eqT (aN n) (aN k)=B
  ·rw[Zq b]at h;cases h;simp at e;subst e;exact iJ ((kF k n).mp b)
  ·rw[Zn b]at h;obtain⟨j,g,rfl⟩:=Zy.mp h;have f:n≠k:=λz=>b ((kF k n).mpr z);have:gC ((n :: ns).zip (v :: a)) k=gC (ns.zip a) k:=by simp[gC,f]
   rw[this];exact ui (by simpa using m) (by simpa using l) g (by simpa using e)
 |_ :: _,[],_,_,h,_,_,_=>by simp at h
 |_ :: _,_ :: _,[],_,_,h,_,_=>by simp at h
def dj{H:Hp}{v:V}{c:Nat}{e:Nat×T}{g:List (Nat×T)}{F:Xa}(r:Rp G H v (.obj (c+1) (e :: g)) F):∃(i:Nat)(a p:KM)(b:Bool)(f:Wq)(d:List V)(j:Wh)(o:Xl),c+1=i+1/\v=.ref a/\e=(0,.bl b)/\g=f.zip j/\F=a :: o.flatten ∧
  H a=Z (.ins (G.ct (i+1)).1 p ((f.map (G.ct (i+1)).2).zip d))/\f.length=d.length/\(b=B->G.me 0=Z (.ref a))/\RpL G H d j o:=by
 generalize n:T.obj (c+1) (e :: g)=z at r;cases r with
 |ins h l m q =>
  cases n;exact⟨_,_,_,_,_,_,_,_,rfl,rfl,rfl,rfl,rfl,h,l,m,q⟩
 |_=>cases n
def lh{H:Hp}{v:V}{m:Nat}{t:T}{F:Xa}(r:Rp G H v (.obj 0 [(0,.bl B),(m,t)]) F):∃a,v=.ref a/\G.me m=Z (.ref a)/\Rp G H (.ref a) t F:=by
 generalize b:T.obj 0 [(0,.bl B),(m,t)]=z at r;cases r with
 |mk h q =>
  cases b;exact⟨_,rfl,h,q⟩
 |_=>cases b
def sP{c a:Nat}(h:∀c k m:Nat,(G.ct c).2 k=(G.ct c).2 m->k=m){e:Wq}{d:List V}{f:Wh}{u:V}{i:Nat}(n:e.length=d.length)(b:(e.zip f).findIdx? (λq=>q.1==a)=Z i)(o:e[i]?=Z a)(g:d[i]?=Z u):((e.map (G.ct c).2).zip d).lookup ((G.ct c).2 a)=Z u:=by
 induction e generalizing d f i with
 |nil=>simp at o
 |cons l v p =>
  cases d with
  |nil=>simp at n
  |cons t bs =>
   cases f with
   |nil=>simp at b
   |cons s f =>
    rw[Zo,ZY,Yu];rw[ZY,X1]at b;by_cases q:(l==a)=B
    ·rw[Zq q]at b;cases b;have:l=a:=by simpa using q
     subst this;simp at g;simp[g]
    ·rw[Zn q]at b;obtain⟨j,r,rfl⟩:=Zy.mp b;have:((G.ct c).2 a==(G.ct c).2 l)=R:=by
      rw[ZK];intro z;exact q (by simpa using(h c _ _ z).symm)
     rw[this];exact p (by simpa using n) r (by simpa using o) (by simpa using g)
def Fo{α:Type}{f:T->Option (T×α)}{d:List Ky}{t a:T}{y:α}(e:pm f (.un :: d) t=Z (a,y)):∃m x z,t=.obj 0 [(0,.bl B),(m,x)]/\pm f d x=Z (z,y)/\a=.obj 0 [(0,.bl B),(m,z)]:=by
 cases t with
 |obj c fs =>
  cases c with
  |succ c=>cases e
  |zero =>
   cases fs with
   |nil=>cases e
   |cons q fs =>
    obtain⟨n,v⟩:=q;cases n with
    |succ n=>cases e
    |zero =>
     cases v with
     |bl b =>
      cases b with
      |false=>cases e
      |true =>
       cases fs with
       |nil=>cases e
       |cons g fs =>
        obtain⟨m,x⟩:=g;cases fs with
        |cons _ _=>cases e
        |nil =>
         obtain⟨⟨z,h⟩,e1,e2⟩:=Zy.mp e;cases e2;exact⟨_,_,_,rfl,e1,rfl⟩
     |_=>cases e
 |_=>cases e
def m7{H:Hp}{α:Type}{f:T->Option (T×α)}:∀(ks:List Ky){v:V}{t t':T}{F:Xa}{y:α},(∀c k k':Nat,(G.ct c).2 k=(G.ct c).2 k'->k=k')->Rp G H v t F->F.Nodup->pm f ks t=Z (t',y) →
  ∃w x A C,Ik G H ks v w/\Rp G H w x A/\A.Nodup/\f x=Z (C,y)/\∀q o,Chg G H w A C q o->∃F',Chg G H v F t' q F':=by
 intro ks
 induction ks with
 |nil=>intro v t t' F y _ r nd e;exact⟨v,t,F,t',.nil v,r,nd,e,λq o g=>⟨o,g⟩⟩
 |cons ky ks ih =>
 intro v t t' F y inj r nd e;cases ky with
 |fld k =>
  cases t with
  |obj c RH =>
   cases c with
   |zero=>cases e
   |succ c =>
   cases RH with
   |nil=>cases e
   |cons q0 fs =>
   obtain⟨i,h1,e⟩:=Zz.mp e;obtain⟨p,h2,e⟩:=Zz.mp e;obtain⟨⟨z,y'⟩,e1,e2⟩:=Zy.mp e;cases e2;obtain⟨c',a,dx,b,ns,vs,X,Fs,ec,rfl,rfl,rfl,rfl,N,Y,hb,d⟩:=dj r;cases ec;have Kk:ns.length=X.length:=Y.trans d.len.1;obtain⟨M,D,g1,g2,g3,g4⟩:=j6 (λn=>n==k) Kk h1;have ek:M=k:=by simpa using g3
   subst ek;have ep:p=(M,D):=by
    have:(ns.zip X)[i]?=Z (M,D):=by rw[YS];exact⟨g1,g2⟩
    rw[this]at h2;exact(Zm h2).symm
   subst ep;obtain⟨u,Fi,J,E,u3⟩:=d.get i g2;obtain⟨w,x,A,C,U,S,Q,P,O⟩:=ih inj u3 (((Zg.mp nd).2).sublist (cH E)) e1;refine⟨w,x,A,C,.fld (c:=c) N (sP inj Y h1 g1 J) U,S,Q,P,λq o g=>?_⟩;obtain⟨T9,h⟩:=O q o g;obtain⟨s1,s2,s3,s4,s5⟩:=qz N d nd J E h;refine⟨_,h.kept,s5,h.G3,?_,s3,s4⟩;rw[qf ns X i M z g1];exact .ins s1 Y hb s2
  |_=>cases e
 |un =>
  obtain⟨m,x,z,rfl,e1,rfl⟩:=Fo e;obtain⟨a,rfl,hm,rx⟩:=lh r;obtain⟨w,D,A,C,U,S,Q,P,O⟩:=ih inj rx nd e1;refine⟨w,D,A,C,.un U,S,Q,P,λq o g=>?_⟩;obtain⟨F',g'⟩:=O q o g;exact⟨F',g'.kept,g'.keep,g'.G3,.mk hm g'.rp,g'.nd,g'.sub⟩
 | «at» k =>
  cases t with
  |lst l =>
   cases k with
   |int i =>
    obtain⟨j,h1,e⟩:=Zz.mp e;obtain⟨D,h2,e⟩:=Zz.mp e;obtain⟨⟨z,y'⟩,e1,e2⟩:=Zy.mp e;cases e2;obtain⟨a,vs,Fs,rfl,rfl,N,d⟩:=r.lst_inv;obtain⟨u,Fi,J,E,u3⟩:=d.get j h2;obtain⟨w,x,A,C,U,S,Q,P,O⟩:=ih inj u3 (((Zg.mp nd).2).sublist (cH E)) e1;refine⟨w,x,A,C,.ix N (by rw[d.len.1];exact h1) J U,S,Q,P,λq o g=>?_⟩;obtain⟨T9,h⟩:=O q o g;obtain⟨s1,s2,s3,s4,s5⟩:=qz N d nd J E h;exact⟨_,h.kept,s5,h.G3,.lst s1 s2,s3,s4⟩
   |_=>cases e
  |dct kd l =>
   cases kd with
   |zero =>
    have hk:iG k=B/\((l.findIdx? λp=>eqT p.1 k).bind λi=>(l[i]?).bind λp=>(pm f ks p.2).map λz=>(T.dct 0 (l.set i (p.1,z.1)),z.2))=Z (t',y):=by
     cases k with
     |int i=>exact⟨rfl,e⟩
     |str s=>exact⟨rfl,e⟩
     |_=>cases e
    obtain⟨hk,e⟩:=hk;obtain⟨i,h1,e⟩:=Zz.mp e;obtain⟨p,h2,e⟩:=Zz.mp e;obtain⟨⟨z,y'⟩,e1,e2⟩:=Zy.mp e;cases e2;obtain⟨a,ns,vs,X,Fs,rfl,rfl,N,Y,rfl,d⟩:=fh r;have Kk:(ns.map aN).length=X.length:=by rw[Zu];exact Y.trans d.len.1
    obtain⟨M,D,g1,g2,g3,g4⟩:=j6 (λn=>eqT n k) Kk h1;have ep:p=(M,D):=by
     have:((ns.map aN).zip X)[i]?=Z (M,D):=by rw[YS];exact⟨g1,g2⟩
     rw[this]at h2;exact(Zm h2).symm
    subst ep;obtain⟨kk,LS⟩:∃kk:Key,k=aN kk:=by
     cases k with
     |int i=>exact⟨.inl i,rfl⟩
     |str s=>exact⟨.inr (sx s),by simp[aN,sx]⟩
     |_=>cases hk
    subst LS;obtain⟨u,Fi,J,E,u3⟩:=d.get i g2;obtain⟨w,x,A,C,U,S,Q,P,O⟩:=ih inj u3 (((Zg.mp nd).2).sublist (cH E)) e1;refine⟨w,x,A,C,.key N ?_ U,S,Q,P,λq o g=>?_⟩
    ·exact ui (by simpa using Kk) Y h1 J
    ·obtain⟨T9,h⟩:=O q o g;obtain⟨s1,s2,s3,s4,s5⟩:=qz N d nd J E h;refine⟨_,h.kept,s5,h.G3,?_,s3,s4⟩;rw[qf (ns.map aN) X i M z g1];exact .dct s1 Y s2
   |succ kd=>cases e
  |_=>cases e
end
section
variable{G:Gx}
def Ik.same{H d:Hp}(e:aC H d){b:List Ky}{v w:V}(p:Ik G H b v w):Ik G d b v w:=by
 induction p with
 |nil v=>exact .nil v
 |fld h l _ a=>exact .fld (e _ _ h) l a
 |ix h l m _ a=>exact .ix (e _ _ h) l m a
 |key h l _ a=>exact .key (e _ _ h) l a
 |un _ a=>exact .un a
theorem Ik.split{H:Hp}{k:Ky}{w:V}:∀{ks:List Ky}{v:V},Ik G H (ks++[k]) v w->∃u,Ik G H ks v u/\Ik G H [k] u w
 |[],v,p=>⟨v,.nil v,p⟩
 |_ :: ks,_,.fld h l p=>let ⟨u,a,b⟩:=Ik.split (ks:=ks) p;⟨u,.fld h l a,b⟩
 |_ :: ks,_,.ix h l m p=>let ⟨u,a,b⟩:=Ik.split (ks:=ks) p;⟨u,.ix h l m a,b⟩
 |_ :: ks,_,.key h l p=>let ⟨u,a,b⟩:=Ik.split (ks:=ks) p;⟨u,.key h l a,b⟩
 |_ :: ks,_,.un p=>let ⟨u,a,b⟩:=Ik.split (ks:=ks) p;⟨u,.un a,b⟩
theorem fX{U:VS.Env}{s:Jm}:∀{way:List Jm}{f:List Ky},keys (way++[s]) U=Z f->∃g k,keys way U=Z g/\keys [s] U=Z [k]/\f=g++[k]
 |[],f,e=>by
  cases s with
  |fld k=>cases e;exact⟨[],.fld k,rfl,rfl,rfl⟩
  |un=>cases e;exact⟨[],.un,rfl,rfl,rfl⟩
  |ix c =>
   obtain⟨x,j,i⟩:=Zz.mp (show (c U).bind (λx=>(keys [] U).map (Ky.at x.2 :: ·))=Z f from e);cases i;exact⟨[],.at x.2,rfl,by simp[keys,j],rfl⟩
 |.fld k :: way,f,e=>by
  obtain⟨m,j,i⟩:=Zy.mp (show (keys (way++[s]) U).map (Ky.fld k :: ·)=Z f from e);obtain⟨g,l,a,b,c⟩:=fX j;exact⟨.fld k :: g,l,by simp[keys,a],b,by rw[← i,c];rfl⟩
 |.un :: way,f,e=>by
  obtain⟨m,j,i⟩:=Zy.mp (show (keys (way++[s]) U).map (Ky.un :: ·)=Z f from e);obtain⟨g,l,a,b,c⟩:=fX j;exact⟨.un :: g,l,by simp[keys,a],b,by rw[← i,c];rfl⟩
 |.ix c :: way,f,e=>by
  obtain⟨x,n,h⟩:=Zz.mp (show (c U).bind (λx=>(keys (way++[s]) U).map (Ky.at x.2 :: ·))=Z f from e);obtain⟨m,j,i⟩:=Zy.mp h;obtain⟨g,l,a,b,d⟩:=fX j;exact⟨.at x.2 :: g,l,by simp[keys,n,a],b,by rw[← i,d];rfl⟩
def O5(G:Gx)(i:Nat)(a:List Jm):TE:=λJ H Q=>∃M U t b v w,SR G M U J H/\U[i]?=Z (Z (.ow t))/\J[i]?=Z (Z v)/\keys a U=Z b/\Ik G H b v w/\∀d,aC H d->Q w d
def JH(G:Gx)(X:Cx)(e:Expr)(i:Nat)(a:List Jm):Prop:=PE X e (O5 G i a)
def PE.JZ{X:Cx}{e:Expr}{t:TE}{i:Nat}{a:List Jm}(h:PE X e t)(w:∀J H Q,O5 G i a J H Q->t J H Q):JH G X e i a:=λb s J H Q I q=>h b s J H Q I (w J H Q q)
variable{X:Cx}{e:Expr}{es:List Expr}{i:Nat}{way:List Jm}{pos pos' p1 apos oe:Pos}{c:Ex}{cs:Hf}{b:Expr}{k:Nat}
def bI(i:Nat){x:Str}(j:X.N[i]?=Z x:=by exact rfl)(f:IG X.env.scope x:=by exact .inl Y)(h:K3 x:=by exact rfl)(a:K4 x:=by exact rfl):JH G X (.Name x pos) i [] :=
 PE.JZ (fJ j f h a) λJ H Q g=>by
  obtain⟨M,U,t,d,v,w,s,p,o,n,m,l⟩:=g;cases (show Z ([]:List Ky)=Z d from n);cases m;exact⟨v,o,l H (aC.refl _)⟩
def Gc(h:JH G X e i way):JH G X e i (way++[.un]) :=
 PE.JZ h λJ H Q g=>by
  obtain⟨M,U,t,r,v,w,s,o,n,m,l,j⟩:=g;obtain⟨p,f,a,b,rfl⟩:=fX m;cases (show Z [Ky.un]=Z [f] from b);obtain⟨u,p1,d⟩:=l.split;cases d with
  |un q =>
   cases q;exact⟨M,U,t,p,v,w,s,o,n,a,p1,j⟩
structure HQ(G:Gx)(K:Xk)(k:Nat)(f:Str):Prop where
 nm:∀c,(G.ct (c+1)).2 k=f
 cl:∀c,Ie K (G.ct (c+1)).1
 no:∀c,aR K (G.ct (c+1)).1 f
def fH(k:Nat){f:Str}(F:HQ G X.K k f)(h:JH G X e i way)(n:UV e f X.env (eval e X.env)=eval e X.env:=by exact rfl):JH G X (.Attribute e f pos) i (way++[.fld k]) :=
 PE.JZ (zr h n) λJ H Q m=>by
  obtain⟨M,U,t,N,v,w,s,z,y,x,r,p⟩:=m;obtain⟨C,l,a,b,rfl⟩:=fX x;cases (show Z [Ky.fld k]=Z [l] from b);obtain⟨u,p1,j⟩:=r.split;refine⟨M,U,t,C,v,u,s,z,y,a,p1,λD d=>?_⟩;cases j with
  |@fld c _ a A fs E _ _ o g q =>
   cases q;rw[F.nm c]at g;exact⟨a,_,A,fs,w,rfl,d a _ o,F.cl c,F.no c,g,p D d⟩
def BM{F:Nat}(hr:p0 F X.A)(h:JH G X e i way)(hb:PV G X b c)(Y:gQ b)(hK:X.K=G.K):JH G X (.Subscript e b pos) i (way++[.ix c]) :=
 PE.JZ (mV (Iq.or jJ (pY (ke hr))) h hb Y) λJ H Q hq=>by
  obtain⟨M,U,t,ks,v,w,s,h1,h2,h3,h4,h5⟩:=hq;obtain⟨Ka,N,a,b',rfl⟩:=fX h3;obtain⟨⟨E,x⟩,ec,e2⟩:=Zz.mp (show (c U).bind (λx=>(keys [] U).map (Ky.at x.2 :: ·))=Z [N] from b');cases e2;obtain⟨u,p1,D⟩:=h4.split;refine⟨M,U,t,Ka,v,u,s,h1,h2,a,p1,λH1 d=>⟨M,U,E,x,s.same d,ec,λy H2 F2 o r2 f2=>?_⟩⟩;have C:=(D.same d).same o;have q:=h5 H2 (d.trans o);cases C with
  |@ix a p O j r _ _ l g S f =>
   cases f;refine .inl (.inl ⟨a,p,O,w,rfl,r2.int_inv,GW.of l,jN g S,q⟩)
  |@key a bt m r _ _ l g f =>
   cases f;refine .inr ⟨a,w,rfl,?_,q⟩;have P:y=kV m:=by
    cases m with
    |inl n=>exact r2.int_inv
    |inr z =>
     have:=r2.str_inv.1;rw[this];simp[kV,sx]
   rw[P,← g];exact h9.k l
@[simp] noncomputable def iC(i:Nat)(a:List Jm)(f:T->Wj->Option (T×Val))(h:Hf)(U:VS.Env):Option (Val×VS.Env):=match U[i]? with
 |some (some (.ow t))=>(keys a U).bind λg=>(h U).bind λd=>(pm (λx=>f x d) g t).map λz=>(z.2,U.set i (Z (.ow z.1)))
 |_=>L
def jV(G:Gx):Prop:=∀c k a:Nat,(G.ct c).2 k=(G.ct c).2 a->k=a
def wV{p m:String}{a:Str}{o:Expr}{r:V->List V->Hp->VK->Prop}{f:T->Wj->Option (T×Val)}(Jq:jV G)(pa:PlainAttrs p)(d:Slot p a m)(MK:typeOf (.builtin m)=pure (.type "method_descriptor"))(hm:NA X m r)(ok:uk G r f)(hT:∀H v t F l z,Rp G H v t F->f t l=Z z->Lz G.K p v H)(ho:JH G X o i way)(ha:HI G X (e :: es) cs)(hK:X.K=G.K)(G4:UV o a X.env (eval o X.env)=eval o X.env)(Hj:((backTo oe (Pv (e :: es) X.env)).all (λx=>!x.1)&&(backToKw oe (SC [] X.env)).all (λx=>x.1.isSome)
   && decide ((e :: es).length+([]:List Keyword).length+(if ([]:List Keyword).isEmpty then 0 else 1)<30))=B)(GZ:(apos.endLine==oe.line)=B)(hs:K1 e es X)(GY:K2 oe es X)(Jc:swapsWith (.Call (.Attribute o a apos) (e :: es) [] oe) L pos.line X.env=pure R) :
  PSV G X (.Expr (.Call (.Attribute o a apos) (e :: es) [] oe) pos) (sX (iC i way f cs)) :=
 PS.weak (kb (rD pa d MK hm ho ha G4 Hj GZ hs GY) Jc) λD J H hq=>by
  obtain⟨M,U,out,s,e,k⟩:=hq;refine L2.jy λP_ k_=>?_;unfold sX iC at e;obtain⟨⟨x',U'⟩,e1,e2⟩:=Zy.mp e;split at e1
  ·rename_i t h;obtain⟨E,ek,e3⟩:=Zz.mp e1;obtain⟨l,el,e4⟩:=Zz.mp e3;obtain⟨⟨t',x2⟩,e5,e6⟩:=Zy.mp e4;cases e6;cases e2;obtain⟨v,N,h2⟩:=s.rp _ _ h;obtain⟨w,x,F1,S,w1,A,w3,y,Y⟩:=m7 E Jq h2 (s.nd i t h) e5;refine k_ ?_;refine⟨M,U,t,E,v,w,s,h,N,ek,w1,λH0 j=>⟨by rw[hK];exact hT H0 w x _ l _ (A.same j) y,M,U,l,s.same j,el,λvs H' Fs q1 q2 C=>?_⟩⟩;refine ok M U H H' w x S F1 l vs Fs x2 _ A w3 ⟨j.trans q1,q2,⟨λn v' q a1 a2=>(C.each n v' q a1 a2).back j,C.nd⟩⟩ y λu O q g=>?_;obtain⟨F2,g2⟩:=Y O q g;obtain⟨Q,P⟩:=s.mut h N g2;exact k _ J O Q P
  ·cases e1
end
section
variable{G:Gx}{X:Cx}{e o:Expr}{es:List Expr}{i:Nat}{way:List Jm}{pos pos' p1 apos oe:Pos}{c:Ex}{cs:Hf}{b:Expr}{k:Nat}{ce ck:Ex}
def jF(k v:Val):T->Option (T×Unit)
 |.lst l=>match k.2 with
  |.int n=>(fit v).bind λt=>(HJ l.length n).map λj=>(.lst (l.set j t),())
  |_=>L
 |.dct 0 l=>if iG k.2/\GQ v.2/\l.length<eO then Z (.dct 0 (dput l k.2 v.2),()) else L
 |_=>L
noncomputable def dE(i:Nat)(a:List Jm)(k e:Ex)(U:VS.Env):Option Out:=(e U).bind λv=>match U[i]? with
 |some (some (.ow t))=>(keys a U).bind λf=>(k U).bind λd=>(pm (jF d v) f t).map λz=>.nx (U.set i (Z (.ow z.1)))
 |_=>L
theorem RpL.putAt{H:Hp}:∀{d:List V}{f:Wh}{g:Xl}(j:Nat){u:V}{x:T}{F:Xa},RpL G H d f g->Rp G H u x F->RpL G H (d.set j u) (f.set j x) (g.set j F)
 |_,_,_,_,_,_,_,.nil,_=>.nil
 |_,_,_,0,_,_,_,.cons r q,a=>.cons a q
 |_,_,_,j+1,_,_,_,.cons r q,a=>.cons r (RpL.putAt j q a)
theorem uq{H:Hp}{kk:Key}{l:V}{t:T}(n:Rp G H l t []):∀{a:List Key}{h:List V}{ts:Wh}{Fs:Xl},a.length=h.length->RpL G H h ts Fs →
  ∃d g f,(a.zip h).map (λm=>if m.1=kk then (m.1,l) else m)=a.zip d/\a.length=d.length/\((a.map aN).zip ts).map (λp=>if eqT p.1 (aN kk) then (p.1,t) else p)=(a.map aN).zip g/\RpL G H d g f/\f.flatten.Sublist Fs.flatten
 |[],[],_,_,_,.nil=>⟨[],[],[],rfl,rfl,rfl,.nil,Xy _⟩
 |k :: a,v :: h,_,_,C,.cons (t:=A) (F:=F) (ts:=ts) (Fs:=Fs) r q=>by
  obtain⟨d,g,f,y,x,w,u,s⟩:=uq n (by simpa using C) q;by_cases j:k=kk
  ·have e:eqT (aN k) (aN kk)=B:=(kF kk k).mpr j;refine⟨l :: d,t :: g,[] :: f,?_,by simp[x],?_,.cons n u,?_⟩
   ·rw[ZY,Zo,y,ZY];simp[j]
   ·rw[Zo,ZY,Zo,w,ZY];simp[e]
   ·rw[ZW,ZW];exact s.trans (YT _ _)
  ·have e:¬eqT (aN k) (aN kk)=B:=λz=>j ((kF kk k).mp z);refine⟨v :: d,A :: g,F :: f,?_,by simp[x],?_,.cons r u,?_⟩
   ·rw[ZY,Zo,y,ZY];simp[j]
   ·rw[Zo,ZY,Zo,w,ZY];simp[e]
   ·rw[ZW,ZW];exact List.Sublist.append (Xy _) s
theorem si{kk:Key}:∀{a:List Key}{d:List V}{f:Wh},a.length=d.length->a.length=f.length->((a.zip d).any λg=>decide (g.1=kk))=(((a.map aN).zip f).any λp=>eqT p.1 (aN kk))
 |[],_,_,_,_=>by simp
 |k :: a,v :: d,t :: f,l,j=>by
  rw[Zo,ZY,ZY,Yf,Yf,si (by simpa using l) (by simpa using j)];have:decide (k=kk)=eqT (aN k) (aN kk):=by rw[YE,decide_eq_true_eq];exact(kF kk k).symm
  rw[this]
 |_ :: _,[],_,h,_=>by simp at h
 |_ :: _,_ :: _,[],_,h=>by simp at h
def pT{H:Hp}{kk:Key}{q:V}{t:T}(u:Rp G H q t []){a:List Key}{g:List V}{j:Wh}{s:Xl}(d:a.length=g.length)(l:RpL G H g j s) :
  ∃(r:List Key)(f:List V)(n:Wh)(m:Xl),putK (a.zip g) kk q=r.zip f/\r.length=f.length/\dput ((a.map aN).zip j) (aN kk) t=(r.map aN).zip n/\RpL G H f n m/\m.flatten.Sublist s.flatten:=by
 have an:=si (kk:=kk) d (d.trans l.len.1);unfold putK dput;rw[an];by_cases h:(((a.map aN).zip j).any λp=>eqT p.1 (aN kk))=B
 ·rw[Zq h,Zq h];obtain⟨f,n,m,z,y,x,w,v⟩:=uq (kk:=kk) u d l;exact⟨a,f,n,m,z,y,x,w,v⟩
 ·rw[Zn h,Zn h];refine⟨a++[kk],g++[q],j++[t],s++[[]],?_,by simp[d],?_,l.append (.cons u .nil),by simp⟩
  ·rw[List.zip_append d];rfl
  ·rw[ZF,List.zip_append (by rw[Zu];exact d.trans l.len.1)];rfl
def BH:A5:=λo i v H Q=>B9 o i v H Q\/∃a d,o=.ref a/\t9 H a i v d/\Q d
def wL(n:X.A.units+1<cLine):DX X BH:=by
 intro d s J H o i v m iv u Q I j l f h;rcases h with h | ⟨a,r,rfl,g,q⟩
 ·exact set_list d s J H o i v m iv u Q I j l f h
 ·cases j;exact vz n I g l f λt p=>⟨r,p,q⟩
def iX{kr:Nat}(Jq:jV G)(hr:p0 kr X.A)(ho:JH G X o i way)(hk:PV G X b ck)(he:PV G X e ce)(ha:∀v,assign (.Subscript o b pos') X.env v=(do
   let ov ← holding [v] (eval o X.env)
   let iv ← holding [v,ov] (eval b X.env)
   standAt pos'
   holding [v,ov,iv] (setItem ov iv v)
   release [v,ov,iv] []):=by exact λ_=>rfl)(hs:swapsWithSole [.Subscript o b pos'] e pos.line X.env=pure R:=by exact rfl)(hw:swappedStores [.Subscript o b pos'] e X.env=pure L:=by exact rfl)(P:(assignEach [.Subscript o b pos'] X.env).map (·.2)=[assign (.Subscript o b pos') X.env]:=by exact rfl):PSV G X (.Assign [.Subscript o b pos'] e pos) (dE i way ck ce) :=
 PS.weak (tZ he (tU ho hk (wL (ke hr)) ha) hs hw P) λD J H hq=>by
  obtain⟨M,U,out,s,e,k⟩:=hq;refine L2.jy λP_ k_=>?_;unfold dE at e;obtain⟨⟨mv,m⟩,ev,e⟩:=Zz.mp e;split at e
  ·rename_i t ht;obtain⟨ks,ek,e⟩:=Zz.mp e;obtain⟨⟨mk,q⟩,LS,e⟩:=Zz.mp e;obtain⟨⟨t',y'⟩,e5,e6⟩:=Zy.mp e;cases e6;obtain⟨v,g1,g2⟩:=s.rp _ _ ht;obtain⟨w,x,F1,x3,w1,w2,w3,O,w5⟩:=m7 ks Jq g2 (s.nd i t ht) e5;refine k_ ?_;refine⟨M,U,mv,m,s,ev,λxv H1 Fv Io rv fv=>?_⟩;refine⟨M,U,t,ks,v,w,s.same Io,ht,g1,ek,w1.same Io,λH2 Hv=>⟨M,U,mk,q,(s.same Io).same Hv,LS,λkv f Fk Ir rk fk=>?_⟩⟩;have y:aC H f:=(Io.trans Hv).trans Ir;have Lk:Rp G f xv m Fv:=(rv.same Hv).same Ir;have fin:∀S N,Chg G H w F1 x3 S N->D.nx J S:=λS N g=>by
    obtain⟨F2,Mj⟩:=w5 S N g;obtain⟨z1,z2⟩:=s.mut ht g1 Mj;exact k _ J S z1 z2
   refine L2.jy λP_ k_=>?_;cases x with
   |lst l =>
    cases q with
    |int n =>
     obtain⟨tt,et,e7⟩:=Zz.mp (show ((fit (mv,m)).bind λt=>(HJ l.length n).map λj=>(T.lst (l.set j t),()))=Z (x3,y') from O);obtain⟨j,ej,e8⟩:=Zy.mp e7;cases e8;have em:=kJ et;cases em;obtain⟨a,p,Fs,rfl,rfl,Y,C⟩:=w2.lst_inv;have Q:f a=Z (.lst p):=y a _ Y;have nd:=Zg.mp w3;have na:a∉Fv:=λz=>by rw[fv.2 a z]at Y;cases Y
     have E:GT (f a):=by rw[Q];exact True.intro
     have off:∀d∈Fs.flatten,d∉Fv:=λd hb hv=>GT.gV (C.G3 d hb) (fv.2 d hv);refine k_ ?_;refine .inl ⟨a,p,n,j,rfl,rk.int_inv,Q,by rw[← tH,C.len.1];exact ej,fin _ (a :: (Fs.set j Fv).flatten) ?_⟩;have keep:∀{u:V}{x:T}{F:Xa},Rp G f u x F->a∉F->Rp G (upd f a (.lst (p.set j xv))) u x F:=λr hn=>r.keep (Kept.upd (.inl E)) λd hb o' JA=>by rw[ax (λz=>hn (by rw[← z];exact hb))];exact JA
     refine Chg.upd y Zv E (.lst au ((((C.same y).off E nd.1)).putAt j (keep Lk na))) ?_ ?_
     ·rw[Zg];refine⟨λh=>?_,eJ nd.2 fv.1 λi' N _ hi d hb=>off d (cO hi hb)⟩;rcases cQ h with z | ⟨i',N,_,P,h2⟩
      ·exact na z
      ·exact nd.1 (cO P h2)
     ·intro d hb;rcases Zp.mp hb with rfl | hb
      ·exact .inl Zv
      ·rcases cQ hb with z | ⟨i',N,_,P,h2⟩
       ·exact .inr (fv.2 d z)
       ·exact .inl (Zw _ (cO P h2))
    |_=>cases O
   |dct kd l =>
    cases kd with
    |zero =>
     have hc:(iG q=B/\GQ m=B/\l.length<eO)/\x3=.dct 0 (dput l q m):=by
      have Mw:(if iG q/\GQ m/\l.length<eO then Z (T.dct 0 (dput l q m),()) else L)=Z (x3,y'):=O;split at Mw
      ·rename_i hc;cases Mw;exact⟨hc,rfl⟩
      ·cases Mw
     obtain⟨⟨c1,c2,c3⟩,rfl⟩:=hc;have eF:=Lk.GQ c2;subst eF;obtain⟨a,ns,p,ts,Fs,rfl,rfl,Y,hl,rfl,C⟩:=fh w2;obtain⟨kk,rfl,Le⟩:=dW rk c1;subst Le;have Q:f a=Z (.dK (ns.zip p)):=y a _ Y;have E:GT (f a):=by rw[Q];exact True.intro
     have nd:=Zg.mp w3;obtain⟨MF,Iz,HG,Il,q1,q2,q3,q4,q5⟩:=pT (kk:=kk) Lk hl (C.same y);have ln:(ns.zip p).length<sizeLine:=by
      have:((ns.map aN).zip ts).length<16777216:=c3;rw[Z7,Zu]at this;rw[Z7];have:=C.len.1;have:(KF:Nat)=16777216:=rfl;lia
     refine k_ ?_;refine .inr ⟨a,_,rfl,t9.k Q ln,fin _ (a :: Il.flatten) ?_⟩;rw[q1,q3];refine Chg.upd y Zv E (.dct au q2 (q4.off E λz=>nd.1 (q5.subset z))) ?_ ?_
     ·exact Zg.mpr ⟨λz=>nd.1 (q5.subset z),nd.2.sublist q5⟩
     ·intro d hb;rcases Zp.mp hb with rfl | hb
      ·exact .inl Zv
      ·exact .inl (Zw _ (q5.subset hb))
    |succ n=>cases O
   |_=>cases O
  ·cases e
end
def Dh{K:Xk}{H:Hp}{a:KM}{b:Wp}(e:xq H)(d:GW K H a (b.map V.int)):lN K H a b:=by
 rcases d with h | h
 ·rcases h with h | h
  ·rcases e a with z | ⟨o,f,z⟩
   ·rw[z]at h;cases h
   ·rw[z]at h;cases h
  ·exact .inl h
 ·exact .inr h
def Cr{G:Gx}{g:Fn}{H:Hp}{a:KM}{b:Wp}{E:XK}(d:g [.scr b]=Z (.fr,.bl B))(f:xq H)(e:GW G.K H a (b.map V.int)):Ja G g [.ref a] H (λv _=>v=.bl B) E :=
 ⟨[.scr b],[[]],.fr,.bl B,.cons (.scr (Dh f e)) .nil,d,λv h F _ r _=>r.Hz⟩
def Oz(K:Xk):Gx:=⟨K,λ_=>(0,λk=>⟨#[k]⟩),λ_=>L⟩
end VS
end
section
namespace L2
open PySem PySem.Spec PyProof.Rows
section
variable{X:Cx}
def tM(z:X.calm=B):d6 X (.type "list") (λf H Q=>∃x:Str,f=[.str x]/\x.cps.size<=KF/\∀l,H l=L->Q (.ref l) (upd H l (.lst (x.cps.toList.map λc=>V.str ⟨#[c]⟩)))):=by
 intro j s J H f C Q I p h;obtain⟨x,rfl,m,q⟩:=h;obtain⟨u,rfl,t,rfl⟩:=vals1 p;refine call_list_str (I.ok.hd z) x t (λA D acc c kp g o=>?_) m;have y:aK (x.cps.toList.map λc=>V.str ⟨#[c]⟩) acc.toList:=by
  have key:∀(b:Wq)(a:X3),b.length=a.length->(∀(i:Nat)(v:On),a[i]?=Z v->∃c u,b[i]?=Z c/\v=.str ⟨#[c]⟩ u)->aK (b.map λc=>V.str ⟨#[c]⟩) a:=by
   intro b
   induction b with
   |nil =>
    intro a e _;cases a with
    |nil=>exact .nil
    |cons v a=>simp at e
   |cons c b r =>
    intro a e hg;cases a with
    |nil=>simp at e
    |cons v a =>
     obtain⟨d,u,e1,e2⟩:=hg 0 v Y;cases e1;exact .cons ⟨u,e2⟩ (r a (by simpa using e) λi w hw=>by simpa using hg (i+1) w (by simpa using hw))
  refine key _ _ (by rw[Ya,Ya,o.1]) λi v n=>?_;rw[Yo]at n;obtain⟨d,u,e1,e2⟩:=o.2 i v n;exact⟨d,u,by rw[Yo];exact e1,e2⟩
 refine⟨.ref s.heap.objs.size,_,I.laid kp (Zj _) (show bR X.prog X.w _ A _ (.lst (x.cps.toList.map λc=>V.str ⟨#[c]⟩)) from⟨by rw[Zu,Ya];exact m,acc.toList,c,y,g⟩),rfl,q _ (I.GN.fresh (Zj _))⟩
end
end L2
namespace VS
open PySem PySem.Spec PyProof.Rows L2
section
variable{G:Gx}{X:Cx}{a b c e tg:Expr}{es:List Expr}{ca cb cc ce ck:Ex}{cs:Hf}{pos p p1 p2 apos oe pos':Pos}{k k' kr:Nat}
def pS:Wj->Wi
 |[(m,.lst l)]=>JR m l
 |[(m,.tup l)]=>JR m l
 |[(_,.str s)]=>JR .fr (s.map λc=>.str [c])
 |_=>L
def xk:fF G (λg H Q=>BX G.K g H Q\/∃x:Str,g=[.str x]/\x.cps.size<=KF/\∀l,H l=L->Q (.ref l) (upd H l (.lst (x.cps.toList.map λc=>V.str ⟨#[c]⟩)))) pS:=by
 intro M U j H l d f m t Q A e k;unfold pS at e;split at e
 ·exact .inl (uZ M U j H _ d f m t Q A e k)
 ·exact .inl (uZ M U j H _ d f m t Q A e k)
 ·rename_i D x;obtain⟨v,F,rfl,rfl,i⟩:=(show RpL G H d [.str x] f from A.rp).one;have h:=i.str_inv.2;refine .inr ⟨sx x,by rw[i.str_inv.1],?_,λq u=>?_⟩
  ·have:=h.1;simp only[sx,ZZ];exact this
  ·have C:(sx x).cps.toList.map (λc=>V.str ⟨#[c]⟩)=(x.map λc=>[c]).map λs=>V.str (sx s):=by
    simp[sx]
   have z:(x.map λc=>T.str [c])=(x.map λc=>[c]).map T.str:=by simp
   rw[C];rw[z]at e;have n:=ud (G:=G) (H:=H) (ss:=x.map λc=>[c]) λs r=>by
    obtain⟨c,w,rfl⟩:=Yg.mp r;exact⟨by show 1<=eO;decide,λy o=>by rw[Zh.mp o];exact h.2 c w⟩
   refine je A.same e n ?_ k q u;rw[n8];exact Fp.nil
 ·cases e
def Bi(d:X.mg "list" = L)(h:HI G X [e] cs)(f:Gl X "list" := by rfl)(i:X.K=G.K:=by rfl)(g:X.calm=B:=by rfl)(he:K1 e [] X:=by rfl):PV G X (.Call (.Name "list" p) [e] [] pos) (eN pS cs) :=
 jh (qm.or (tM g)) (i ▸ xk) f d uw h (he:=he) (hpl:=rfl)
end
end VS
end
section
namespace ST
open PySem PySem.Spec PyProof.Rows
variable{prog:Re}{w:UF}{A:SB}{E:Z5}{s:IR}
abbrev dO(a:Array DictEntry)(b:Nat):Obj:={ cls:=.type "dict",data:=.dict a b }
abbrev kO(d:KM)(i n a:Nat):Obj:={ cls:=.type "dict_keyiterator",data:=.fields #[.ref d,.int i 0,.int n 0,.int a 0] }
def xy{d:KM}{b:Array DictEntry}{e:Nat}{Q:Z5}(f:(d==sysModules)=R)(a:s.heap.get? d=Z (dO b e))(q:Q (.ref s.heap.objs.size) { s with heap:=s.heap.push (kO d 0 b.size e) }) :
  PP (KB prog w) A (pyIter (.ref d)) Q E s:=by
 have ty:s.TypeIs (.ref d) "dict" := ⟨_,a,rfl⟩
 refine wpAny_pyIter_slot ty F.slot_dict_iter (XH F.slot_dict_iter ty F.entry_dict_iter (show PP _ _ (Builtin.«dict.__iter__» _) _ _ _ from ?_) (F.args_dict_iter_1 _));unfold Builtin.«dict.__iter__» Builtin.Dict.dictSlotNone Builtin.Dict.showsAll;refine Zl (Zl (wpAny_notOrdered_dict ty (show PP _ _ (pure (Value.ref d)) _ _ s from ZS (Zl (m:=Builtin.Dict.addrOf (.ref d)) (ZS ?_)))));rw[Zn (by rw[f];exact Zc)];exact Zl (ZS (Zl (wpAny_dictEntries a Y (Zl (wpAny_dictEpoch a Y (Zl (XQ (ZS ⟨_,rfl, "dict_keyiterator",_,⟨_,ZU _ Y,rfl⟩,Y0.lookup,q⟩))))))))
def rX{I d:KM}{i m:Nat}{h:Array DictEntry}{Q:Wr->IR->Prop}(u:A.handled=L)(l:s.heap.get? I=Z (kO d i h.size m))(n:s.heap.get? d=Z (dO h m))(z:∀e,h[i]?=Z e->∀a,Heap.SameBut I s.heap a->a.get? I=Z (kO d (i+1) h.size m)->Q (Z e.key) { s with heap:=a })(y:h[i]?=L->∀a,(∀b o,b≠I->s.heap.get? b=Z o->a.get? b=Z o)->Q L { s with heap:=a }):PP (KB prog w) A (pyNext (.ref I)) Q E s:=by
 have ty:s.TypeIs (.ref I) "dict_keyiterator" := ⟨_,l,rfl⟩
 unfold pyNext;refine Zl (wpAny_attempt (wpAny_callSpecial?_slot (name:=Str.ofString "__next__") ty Y0 (XH Y0 ty F.entry_dict_keyiterator_next (YJ
  (Q:=λf j=>∃v,f=.done (.ret v)/\Q (Z v) j) (E:=λe j=>∃x,e=.ref x/\(∃o,j.heap.get? x=Z o/\o.cls=.type "StopIteration")/\Q L j) ?_ (λf j ⟨v,e,q⟩=>⟨v,e,ZS q⟩) λe j ⟨x,e1,⟨o,g,c⟩,q⟩=>?_) (F.args_dict_keyiterator_next_1 _))))
 ·refine Zl (ZS (Zl (Zl (Zl (Xm ty (ZS (Zl (wpAny_fieldsOf l Y ?_))))))));have own:Builtin.Dict_items.ownsTuple "dict_keyiterator" = R:=rfl;simp only[own,X2,↓reduceIte];refine(show PP _ _ (if (Value.ref d==Value.none)=B then _ else _) _ _ s from ?_);rw[Zn (λe:(Value.ref d==Value.none)=true=>Zc e)];refine Zl (ZS (Zl (wpAny_dictEntries n Y ?_)));rw[Zn (by simp)];refine Zl (ZS (Zl (wpAny_dictEpoch n Y ?_)));rw[Zn (by simp)];refine ZS ?_;simp only[show ¬((i:Int)<0) from by lia,↓reduceIte,Xw];cases p:h[i]? with
  |some e =>
   dsimp only;have r:(s.heap.update I (Obj.mapFields (·.setIfInBounds 1 (rawInt ((i:Int)+1))))).get? I=Z (kO d (i+1) h.size m):=Heap.get?_update_self _ l Y;refine Zl (Zl (Xm ty (ZS (Zl (wpAny_isOneOf_keyiter ty ?_)))));refine(show PP _ _ (setField (.ref I) 1 (rawInt ((i:Int)+1))>>=_) _ _ s from Zl (wpAny_setField l Y (by show 1<4;decide) (Zl (Y6 ?_))));refine Zl (wpAny_isOneOf_keyiter (s:={ s with heap:=s.heap.update I (Obj.mapFields (·.setIfInBounds 1 (rawInt ((i:Int)+1)))) }) ⟨_,r,rfl⟩ ?_);refine(show PP _ _ (pure e.key) _ _ _ from ZS (ZS ⟨_,rfl,z e p _ (Heap.SameBut.update ..) r⟩))
  |none =>
   dsimp only;refine Zl (Zl (Xm ty (ZS ?_)));refine(show PP _ _ (setField (.ref I) 0 .none>>=_) _ _ s from Zl (wpAny_setField l Y (by show 0<4;decide) (Ei u λa x kp t=>⟨x,rfl,t,y p a λb o hb e=>kp b o ?_⟩)));rw[XD _ _ (Yi hb)];exact e
 ·subst e1;exact Zl (wpAny_isInstance (T := "StopIteration") (b:=B) ⟨o,g,c⟩ isSubtype_stop (ZS q))
end ST
end
section
namespace VS
open PySem PySem.Spec PyProof.Rows L2
def E3{G:Gx}{X:Cx}{i:Int}{j:Nat}{a p:Pos}:PV G X (.UnaryOp .USub (.Constant (.int i) j p) a) (Q2 (-i)) :=
 PE.weak (Fd Eb pX) λJ H Q b=>by
  obtain⟨M,U,m,t,s,e,k⟩:=b;cases (show Z (Md.fr,T.int (-i))=Z (m,t) from e);exact⟨i,rfl,k _ H [] (aC.refl _) (.int _) Fp.nil⟩
end VS
end
section
namespace VS
open PySem PySem.Spec PyProof.Rows L2
section
variable{G:Gx}{X:Cx}{a b c e o tg:Expr}{es:List Expr}{ca cb cc ce ck cv:Ex}{cs:Hf}{pos p p1 p2 apos oe pos' ap1 cp1 lp:Pos}{k k' kr i:Nat}
def Rp.Jr{H:Hp}{v:V}{ts:Wh}{F:Xa}(r:Rp G H v (.tup ts) F):∃b vs Fs,v=.ref b/\H b=Z (.tup vs)/\RpL G H vs ts Fs:=by
 cases r with
 |tup h q=>exact⟨_,_,_,rfl,h,q⟩
end
end VS
end
section
namespace L2
open PySem PySem.Spec PyProof.Rows
section
variable{X:Cx}{tg:Expr}{pos:Pos}
def zu{o:Obj}{g:Array DictEntry}{i:Nat}(h:o.ExactDict)(e:o.data=.dict g i):o=ST.dO g i:=by
 obtain⟨c,d,l,j⟩:=o;obtain⟨f,b,a⟩:=h;simp only at f b a e;subst f b a e;rfl
end
end L2
end
section
namespace L2
open PySem PySem.Spec PyProof.Rows
section
variable{X:Cx}
def zR:List V->Hp->VK->Prop:=λa H Q=>∃j:Int,a=[.int j]/\0<=j/\j<=16777216/\∀(b l:KM),H b=L->H l=L->b≠l->Q (.ref l) (upd (upd H b (.rng 0 j)) l (.lst ((List.range j.toNat).map λi:Nat=>V.int (i:Int))))
def wo{a:Expr}{A:TA}{p G pos U:Pos}(C:∀J H Q P,(∀d y,Q d y->P d y)->A J H Q->A J H P)(hc:X.calm=B)(D:Gl X "range")(hm:X.mg "range" = L)(E:Gl X "list")(Nr:X.mg "list" = L)(VP:bootBuiltins ("list" : Str)=Z (.type "list"))(ha:PA X [a] A)(hs:Pv [a] X.env=[(R,eval a X.env)])(HK:Pv [.Call (.Name "range" p) [a] [] pos] X.env=[(R,eval (.Call (.Name "range" p) [a] [] pos) X.env)]):PE X (.Call (.Name "list" G) [.Call (.Name "range" p) [a] [] pos] [] U) (λJ H Q=>A J H λd y=>zR d y Q):=by
 intro f s J H Q I h;have inner:PE X (.Call (.Name "range" p) [a] [] pos) (λJ H Q=>A J H λd y=>∃j:Int,d=[.int j]/\∀b,y b=L->Q (.ref b) (upd y b (.rng 0 j))):=by
  intro f s J H Q I h;refine Call_ (i7 I D hm boot_range (Yl (thn (ha pos f s J H _ I h) λus s1 ⟨d,y,I1,r1,q1⟩=>?_) hs Y));obtain⟨j,e,q⟩:=q1;subst e;obtain⟨u,rfl,t,rfl⟩:=vals1 r1;exact call_range_1 ⟨.ref s1.heap.objs.size,_,I1.laid (a:=s1.heap.objs.size) (o:=.rng 0 j) (λ_ _ q=>Zk _ q) (Zj _) ⟨_,_,_,ZU _ Y⟩,rfl,q _ (I1.GN.fresh (Zj _))⟩
 have outer:=o6 (X:=X) (x:=("list" : Str)) (T := "list") (p:=G) (pos:=U) (es:=[]) (e:=.Call (.Name "range" p) [a] [] pos) (r:=λF H Q=>∃(b:KM)(j:Int),F=[.ref b]/\H b=Z (.rng 0 j)/\0<=j/\j<=16777216/\∀l,H l=L->Q (.ref l) (upd H l (.lst ((List.range j.toNat).map λi:Nat=>V.int (i:Int)))))
  (by
   intro f s J H F us Q I rx h;obtain⟨b,j,rfl,hb,O,N,q⟩:=h;obtain⟨u,rfl,ru⟩:=rx.one;obtain rfl:=(show u=Value.ref b from ru)
   obtain⟨t,u,v,g⟩:=(show bR X.prog X.w H s.heap b (.rng 0 j) from I.GN b _ hb)
   refine call_list_range (n:=j.toNat) (I.ok.hd hc) g (small_one (by lia) (by lia) (by lia) (by lia)) (by rw[rangeSize_one];split<;>lia) (by lia) λh' tk acc c kp g2 S=>?_;have hv:aK ((List.range j.toNat).map λi:Nat=>V.int (i:Int)) acc.toList:=by
    have key:∀(n:Nat)(k:Nat)(d:X3),d.length=n->(∀(i:Nat)(v:On),d[i]?=Z v->∃t,v=.int ((k+i:Nat):Int) t)->aK ((List.range' k n).map λi:Nat=>V.int (i:Int)) d:=by
     intro n
     induction n with
     |zero=>intro k d m _;rw[XZ.mp m];exact .nil
     |succ n ih =>
      intro k d m D;cases d with
      |nil=>simp at m
      |cons v d =>
       obtain⟨t,rfl⟩:=D 0 v Y;refine .cons ⟨t,rfl⟩ (ih (k+1) d (by simpa using m) λi w hw=>?_);obtain⟨t2,e⟩:=D (i+1) w (by simpa using hw);exact⟨t2,by rw[e];congr 2;lia⟩
    rw[List.range_eq_range'];refine key _ _ _ (by rw[Ya,S.1]) λi v M=>?_;rw[Yo]at M;obtain⟨t,e⟩:=S.2 i v M;exact⟨t,by rw[e];congr 1;lia⟩
   exact⟨.ref s.heap.objs.size,_,I.laid kp (Zj _) (show bR X.prog X.w _ h' _ (.lst _) from⟨by rw[Zu,ZI];show _<=16777216;lia,acc.toList,c,hv,g2⟩),rfl,q _ (I.GN.fresh (Zj _))⟩)
  E Nr VP (bA inner dv HK) (by decide) Y HK Y
 refine outer f s J H Q I ?_;refine C J H _ _ (λd y q=>?_) h;obtain⟨j,e,O,N,q⟩:=q;refine⟨j,e,λb hb=>(show _ from ?_)⟩;refine⟨b,j,rfl,au,O,N,λl m=>?_⟩;have bl:b≠l:=λz=>by rw[← z,au]at m;cases m
 exact q b l hb (by rw[ax (Yi bl)]at m;exact m) bl
end
end L2
namespace VS
open PySem PySem.Spec PyProof.Rows L2
def mG:Wj->Wi
 |[(_,.int j)]=>if 0<=j/\j<=16777216 then Z (.fr,.lst ((List.range j.toNat).map λi:Nat=>T.int (i:Int))) else L
 |_=>L
section
variable{G:Gx}{X:Cx}{e:Expr}{cs:Hf}{p p2 pos LH:Pos}
theorem rT{H:Hp}:∀(l:Wq),RpL G H (l.map λi:Nat=>V.int (i:Int)) (l.map λi:Nat=>T.int (i:Int)) (l.map λ_=>[])
 |[]=>.nil
 |i :: l=>.cons (.int _) (rT l)
def ya(E:X.mg "list" = L)(z:X.mg "range" = L)(D:HI G X [e] cs)(h:Gl X "list")(A:Gl X "range")(C:X.calm=B)(y:Pv [e] X.env=[(R,eval e X.env)])(N:Pv [.Call (.Name "range" p) [e] [] pos] X.env=[(R,eval (.Call (.Name "range" p) [e] [] pos) X.env)]):PV G X (.Call (.Name "list" p2) [.Call (.Name "range" p) [e] [] pos] [] LH) (eN mG cs) :=
 PE.weak (wo (λJ H Q P m ⟨M,U,l,s,o,k⟩=>⟨M,U,l,s,o,λg f u a b c=>m _ _ (k g f u a b c)⟩) C A z h E uw D y N) λJ H Q d=>by
  obtain⟨M,U,m,t,s,e,k⟩:=d;unfold eN at e;obtain⟨l,o,e⟩:=Zz.mp e;refine⟨M,U,l,s,o,λg f u s1 r1 f1=>?_⟩;unfold mG at e;split at e
  ·rename_i O j;split at e
   ·rename_i w;cases e;obtain⟨v,F,rfl,rfl,x⟩:=(show RpL G f g [.int j] u from r1).one;cases x;refine⟨j,rfl,w.1,w.2,λb q hb d n=>?_⟩;have r:Rp G (upd (upd f b (.rng 0 j)) q (.lst ((List.range j.toNat).map λi:Nat=>V.int (i:Int)))) (.ref q) (.lst ((List.range j.toNat).map λi:Nat=>T.int (i:Int))) (q :: ((List.range j.toNat).map λ_=>[]).flatten):=.lst au (rT _);rw[n8]at r;refine k _ _ _ ((s1.trans (br hb)).trans (br (by rw[ax (Yi n)];exact d))) r (Fp.new (s1.free d) (by simp) Fp.nil)
   ·cases e
  ·cases e
end
section
variable{G:Gx}{X:Cx}{e b:Expr}{cs:Hf}{cb:Ex}{pos p p1 p2 kp apos oe:Pos}{k k' kr:Nat}{x:Str}{ps:List Str}{g:Fn}
def iS{a b c:Expr}{i f d:Ex}(s:PV G X a i)(o:PV G X b f)(n:PV G X c d)(l:lastMarks [.LtE,.Lt] [b,c]=R):Ip G X (.Compare a [.LtE,.Lt] [b,c] pos) (eY oLe oLt i f d) :=
 PT.weak (sD CZ qd s o n l) λJ H Q h=>nB h (λU m r e=>by
  unfold eY at e;obtain⟨x,A,e⟩:=Zz.mp e;obtain⟨y,w,e⟩:=Zz.mp e;obtain⟨⟨t,z⟩,u,e⟩:=Zz.mp e;cases z with
  |bl q =>
   cases q with
   |false=>cases e;exact⟨_,rfl⟩
   |true =>
    obtain⟨j,v,e⟩:=Zz.mp (show (d U).bind (λz=>oLt y z)=Z (m,r) from e);exact kC y j m r e
  |_=>cases e) λQ h=>rC EJ uB h
def zC{a:Ex}(h:PV G X e a)(j:swapsWith e L pos.line X.env=pure R):PSV G X (.Expr e pos) (sX (xP a)) :=
 PS.weak (kb h j) λD J H d=>by
  obtain⟨M,U,out,s,e,k⟩:=d;unfold sX xP at e;obtain⟨⟨v,n⟩,e1,e2⟩:=Zy.mp e;obtain⟨⟨m,t⟩,i,f⟩:=Zy.mp e1;cases f;cases e2;exact⟨M,U,m,t,s,i,λv l F e1 r1 f1=>k M J l (s.same e1) (G1.same e1)⟩
end
section
variable{G:Gx}{X:Cx}{a b e:Expr}{ca ck ce:Ex}{pos pos' p1:Pos}{kr:Nat}
def DI{j pos'}(g:PV G X a ca):Ip G X (.Compare a [.Is] [.Constant .none j pos'] pos) (BF ca) :=
 PT.weak (wZ (DJ g)) λJ H Q h=>BP h (λU m r e=>by
  unfold BF at e;obtain⟨x,_,e⟩:=Zz.mp e;cases e;exact⟨_,rfl⟩) λQ f=>by
   obtain⟨M,U,m,r,s,e,q⟩:=f;unfold BF at e;obtain⟨⟨n,x⟩,i,e⟩:=Zz.mp e;cases e;refine⟨M,U,n,x,s,i,λv d F e1 r1 f1=>?_⟩;show Q (.bl (decide (v=.non))) d;rw[uK r1];exact q _ d _ e1 (.bl _) Fp.nil
def j3{j pos'}(g:PV G X a ca):Ip G X (.Compare a [.IsNot] [.Constant .none j pos'] pos) (eK ca) :=
 PT.weak (wZ (Am g)) λJ H Q h=>BP h (λU m r e=>by
  unfold eK at e;obtain⟨x,_,e⟩:=Zz.mp e;cases e;exact⟨_,rfl⟩) λQ f=>by
   obtain⟨M,U,m,r,s,e,q⟩:=f;unfold eK at e;obtain⟨⟨n,x⟩,i,e⟩:=Zz.mp e;cases e;refine⟨M,U,n,x,s,i,λv d F e1 r1 f1=>?_⟩;show Q (.bl (!decide (v=.non))) d;rw[uK r1];exact q _ d _ e1 (.bl _) Fp.nil
def qE(i:Nat)(k e:Ex)(U:VS.Env):Option Out:=(e U).bind λv=>match U[i]? with
 |some (some (.ow (.dct 0 l)))=>(k U).bind λd=>if iG d.2/\GQ v.2/\l.length<eO then Z (.nx (U.set i (Z (.ow (.dct 0 (dput l d.2 v.2)))))) else L
 |_=>L
def DM(i:Nat){x:Str}(hr:p0 kr X.A)(hk:PV G X b ck)(he:PV G X e ce)(hN:X.N[i]?=Z x)(hv:IG X.env.scope x)(hd:K3 x)(p:K4 x)(ha:∀v,assign (.Subscript (.Name x p1) b pos') X.env v=(do
   let h ← holding [v] (eval (.Name x p1) X.env)
   let iv ← holding [v,h] (eval b X.env)
   standAt pos'
   holding [v,h,iv] (setItem h iv v)
   release [v,h,iv] []))(hs:swapsWithSole [.Subscript (.Name x p1) b pos'] e pos.line X.env=pure R)(hw:swappedStores [.Subscript (.Name x p1) b pos'] e X.env=pure L)(h1:(assignEach [.Subscript (.Name x p1) b pos'] X.env).map (·.2)=[assign (.Subscript (.Name x p1) b pos') X.env]):PSV G X (.Assign [.Subscript (.Name x p1) b pos'] e pos) (qE i ck ce) :=
 PS.weak (tZ he (tU (fJ hN hv hd p) hk (wL (ke hr)) ha) hs hw h1) λD J H hq=>by
  obtain⟨M,U,out,s,e,k⟩:=hq;unfold qE at e;obtain⟨⟨mv,m⟩,ev,e⟩:=Zz.mp e;split at e
  ·rename_i l o;obtain⟨⟨mk,tk⟩,LS,e⟩:=Zz.mp e;split at e
   ·rename_i hc;obtain⟨c1,c2,c3⟩:=hc;cases e;obtain⟨w,y,Y⟩:=s.rp _ _ o;have q:=s.nd i _ o;refine⟨M,U,mv,m,s,ev,λxv H1 Fv P rv fv=>⟨w,y,M,U,mk,tk,s.same P,LS,λkv d Fk O rk fk=>?_⟩⟩;have n:aC H d:=P.trans O;have E:Rp G d xv m Fv:=rv.same O;have eF:=E.GQ c2;subst eF;obtain⟨a,ns,j,r,Fs,rfl,C,GU,hl,rfl,t⟩:=fh Y;rw[C]at q;obtain⟨kk,rfl,Le⟩:=dW rk c1;subst Le;have F:d a=Z (.dK (ns.zip j)):=n a _ GU;have u:GT (d a):=by rw[F];exact True.intro
    have nd:=Zg.mp q;obtain⟨MF,Iz,HG,Il,q1,q2,q3,q4,f⟩:=pT (kk:=kk) E hl (t.same n);have ln:(ns.zip j).length<sizeLine:=by
     have:((ns.map aN).zip r).length<16777216:=c3;rw[Z7,Zu]at this;rw[Z7];have:=t.len.1;have:(KF:Nat)=16777216:=rfl;lia
    refine .inr ⟨a,_,rfl,t9.k F ln,?_⟩;have g:Chg G H (.ref a) (M i) (.dct 0 (dput ((ns.map aN).zip r) (aN kk) m)) (upd d a (.dK (putK (ns.zip j) kk xv))) (a :: Il.flatten):=by
     rw[C,q1,q3];refine Chg.upd n Zv u (.dct au q2 (q4.off u λz=>nd.1 (f.subset z))) ?_ ?_
     ·exact Zg.mpr ⟨λz=>nd.1 (f.subset z),nd.2.sublist f⟩
     ·intro bb hb;rcases Zp.mp hb with rfl | hb
      ·exact .inl Zv
      ·exact .inl (Zw _ (f.subset hb))
    obtain⟨S,Q⟩:=s.mut o y g;exact k _ J _ S Q
   ·cases e
  ·cases e
end
end VS
end
section
namespace DP
open PySem PySem.Spec PyProof.Rows
variable{prog:Re}{w:UF}{A:SB}{E:Z5}
def AI:typeLookup (.type "tuple") "keys" = pure L:=by rw[typeLookup_type,builtinLookup_eq_fast];kernel_rfl
def Aa{h:SZ}{g:Array GenState}{d:Drawn}{o:Nat}{os}{a:KM}{i:Array On}{k:Nat}{j:Array (Wr)}{u:Tok}{Q:Z5}(l:h.get? a=Z { cls:=.type "tuple",dict:=L,data:=.seq i k,slots:=j })(q:A.handled=L)(p:∀f b e,Heap.NewExcOf h f e "AttributeError" → E (.ref e) ⟨f,g,d,b,os⟩):PP (KB prog w) A (getAttrBy (.ref a) (.str "keys" u) R) Q E ⟨h,g,d,o,os⟩:=by
 have m:∀b,(⟨h,g,d,b,os⟩:IR).TypeIs (.ref a) "tuple" := λ_=>⟨_,l,rfl⟩
 have f1:=sub_AttributeError;have y:=XR.lookup;have x:=XR.bind (.ref a);have v:=am_tuple_getattr_none;unfold getAttrBy
 repeat (any_goals (first | assumption | exact m _ | ((with_reducible show PP _ _ (call (Value.builtin "tuple.__getattribute__") _ _) _ _ _);refine call_meets XR (m _) am_entry_tuple_getattribute (F.args_tuple_getattribute_2 _ _) (meets_getattribute_miss_tuple a i k j "keys" _ AI (by decide +kernel)) ⟨l,q,λf b e n=>?_⟩) | wp_step))
 obtain⟨s,r,t⟩:=n.there;show PP _ _ (getattributeRaised _ _ _ _ _ _ _) _ _ _;unfold getattributeRaised
 repeat (any_goals (first | assumption | wp_step))
 exact p _ _ _ n.of
end DP
end
section
namespace DP
open PySem PySem.Spec PyProof.Rows L2
variable{prog:Re}{w:UF}{A:SB}{E:Z5}
def vX{h:SZ}{g:Array GenState}{d:Drawn}{l:Nat}{os}{a:KM}{j:Array On}{k:Nat}{m:Array (Wr)}{Q:Wr->IR->Prop}(n:h.get? a=Z { cls:=.type "tuple",dict:=L,data:=.seq j k,slots:=m })(r:A.handled=L)(o:∀b i e,Heap.NewExcOf h b e "AttributeError" → Q L ⟨b,g,d,i,os⟩):PP (KB prog w) A (getAttr? (.ref a) "keys") Q E ⟨h,g,d,l,os⟩:=by
 have f1:=sub_AttributeError;unfold getAttr? getAttrBy?
 repeat (any_goals (first | assumption | (with_reducible refine Aa n (by assumption) λb i e f=>?_) | wp_step))
 obtain⟨⟨oc,q,s,t⟩,p,ge,ce,_,_⟩:=f.there;dsimp only at ce;subst ce
 repeat (any_goals (first | assumption | wp_step))
 exact o _ _ _ f
def n9:entryFor table "dict.update.loop" = Z Builtin.«dict.update.loop» := entryFor_of_tree (by kernel_rfl)
def iz:plainId "dict.update.loop" = B:=by decide +kernel
section
variable{R:Result->IR->Prop}{I:KM}{fp wr:Xa}{G:Array GenState->Array GenState->Prop}{n:Nat}{P:Nat->On->Prop}{St:Nat->IR->Prop}
theorem loop(W:WalksS prog w A.in1 I fp wr G n P St)(d:KM)(U:d∉fp)(N:SZ)(a:Nat->Key×On)(hP:∀i v,P i v->∃p m t l,v=.ref p/\N.get? p=Z { cls:=.type "tuple",dict:=L,data:=.seq #[l,(a i).2] m,slots:=t }/\(aM prog w).is (a i).1 l=B/\p∉d :: wr)(g:n<=KF) :
  ∀(k i:Nat)(s:IR),n-i=k->i<=n->St i s->(∀b o,b∉d :: wr->N.get? b=Z o->s.heap.get? b=Z o)->s.heap.DictOf (aM prog w) d (merged [] ((List.range i).map a)) →
   (∀f,Moved (d :: wr) G s f->f.heap.DictOf (aM prog w) d (merged [] ((List.range n).map a))->R (.ok (.ret .none)) f) →
   codeAny (KB prog w) A (.builtin "dict.update.loop" ⟨[.ref d,.ref I,rawInt i,.none],[]⟩) R s:=by
 have O:d∉wr:=λh=>U (W.sub _ h);have q:∀b∈wr,b∈d :: wr:=λb g=>Zw _ g;intro k
 induction k with
 |zero =>
  intro i s hk hi M C D F;have IK:i=n:=by lia
  subst IK;refine codeAny_builtin n9 ?_;rw[Wx iz _];show PP _ A.in1 (pyNext (.ref I)>>=_) _ _ s;refine Zl (W.done s _ _ M λf j=>?_);show PP _ A.in1 (Builtin.Dict.addKeywords d [] >>= λ_=>ret Value.none) _ _ f;refine Zl (ZS ?_);exact ZS (F f (j.mono q) (by
   obtain⟨o,H,J,y,rest⟩:=D;exact⟨o,H,J,j.heap d _ O y,rest⟩))
 |succ k Y =>
  intro i s hk hi M C D F;have X:i<n:=by omega
  refine codeAny_builtin n9 ?_;rw[Wx iz _];show PP _ A.in1 (pyNext (.ref I)>>=_) _ _ s;refine Zl (W.item i s _ _ X M λv f VX QW j=>?_);obtain⟨p,m,t,l,rfl,hp,Vy,S⟩:=hP i v VX;have Oi:f.heap.get? p=Z { cls:=.type "tuple",dict:=L,data:=.seq #[l,(a i).2] m,slots:=t }:=j.heap p _ (λz=>S (q p z)) (C p _ S hp);have VW:f.heap.DictOf (aM prog w) d (merged [] ((List.range i).map a)):=by
   obtain⟨o,H,J,y,rest⟩:=D;exact⟨o,H,J,j.heap d _ O y,rest⟩
  show PP _ A.in1 (holding [Value.ref p] _>>=_) _ _ f;refine Zl (Y6 ?_);have ty:f.TypeIs (.ref p) "tuple" := ⟨_,Oi,rfl⟩
  refine Zl (thn (Q:=λr x=>r=[l,(a i).2]/\x=f) ?pair λr x hr=>?rest)
  case pair =>
   refine wpAny_tryCatch ?_;unfold Builtin.Dict.pairItems
   repeat (any_goals (first | assumption | wp_step))
   exact⟨rfl,rfl⟩
  case rest =>
   obtain⟨rfl,rfl⟩:=hr;dsimp only;refine Y6 ?_;refine wpAny_dictSet_pairs Vy VW (λh' dd u=>?_) (by have:=merged_length_le (K:=Key) [] ((List.range i).map a);simp at this;lia);have e1:((i:Int)+1)=((i+1:Nat):Int):=by lia
   rw[e1];have Lf:h'.DictOf (aM prog w) d (merged [] ((List.range (i+1)).map a)):=by
    rw[List.range_succ,ZF,show merged ([]:List (Key×On)) ((List.range i).map a++[i].map a)=stored (merged [] ((List.range i).map a)) (a i).1 (a i).2 by unfold merged;rw[List.foldl_append];rfl];exact dd
   refine ZS ⟨plainId_quiet iz _,Y (i+1) _ (by omega) X (W.frame _ x _ _ QW (Xe _) λb g o e=>?_) (λb o g e=>?_) Lf λNQ Rc RB=>?_⟩
   ·rw[u.2 b (λh:b=d=>U (by rw[← h];exact g))];exact e
   ·rw[u.2 b (λh:b=d=>g (by rw[h];exact Zv))];exact j.heap b _ (λz=>g (q b z)) (C b o g e)
   ·refine F NQ (Moved.trans W.gtrans ((j.mono q).then_heap (Xe _) λb o g e=>?_) Rc) RB;rw[u.2 b (λh:b=d=>g (by rw[h];exact Zv))];exact e
end
end DP
end
section
namespace DP
open PySem PySem.Spec PyProof.Rows L2
variable{prog:Re}{w:UF}{A:SB}{E:Z5}{s:IR}
def nu:mroOf (.type "dict")=pure [.type "dict",.type "object"]:=by rw[mroOf_type];kernel_rfl
def l8:typeLookup (.type "dict") "__new__" = pure (Z (.builtin "dict.__new__")):=by rw[typeLookup_type,builtinLookup_eq_fast];kernel_rfl
def rm:TypeCalled "dict" "dict.__new__" "dict.__init__" :=
 ⟨by decide +kernel,by decide +kernel,⟨_,_,nu⟩,madeBy_type nu l8 (by decide +kernel),by decide +kernel,by rw[isSubtype_type];kernel_rfl,F.slot_dict_init⟩
def md(a:On):checkTypeCall "dict" ⟨[a],[]⟩=pure ():=by kernel_rfl
def nh(a:On):checkBuiltinCall "dict.__new__" ⟨[.type "dict",a],[]⟩=pure ():=by kernel_rfl
def nc:entryFor table "dict.__new__" = Z Builtin.«dict.__new__» := entryFor_of_tree (by kernel_rfl)
def iT:plainId "dict.__new__" = B:=by decide +kernel
def ox:isSubtype (.type "dict") (.type "dict")=pure B:=by rw[isSubtype_type];kernel_rfl
def oy(a:On){b:Z5}(h:b (.ref s.heap.objs.size) { s with heap:=s.heap.push { cls:=.type "dict",data:=.dict #[] } }) :
  codeAny (KB prog w) A (.call (.builtin "dict.__new__") ⟨[.type "dict",a],[]⟩) (wants b E) s:=by
 refine codeAny_of_tree (Zl (m:=checkBuiltinCall "dict.__new__" ⟨[.type "dict",a],[]⟩) (wpAny_of_eq (nh a) (ZS ⟨plainId_quiet iT _,codeAny_builtin nc ?_⟩)));rw[Wx iT];have own:=ox;have mro:=nu;cases s;unfold Builtin.«dict.__new__»
 wp_walk
 exact h
def wC{a:KM}{j:Array On}{C:Nat}{Uw:Array (Wr)}{kv:Nat->Key×On}{Q:Z5}(G:A.handled=L)(D:s.heap.get? a=Z { cls:=.type "tuple",dict:=L,data:=.seq j C,slots:=Uw })(S:j.size<=KF)(hp:∀(i:Nat)(v:On),j[i]?=Z v->∃p m u n,v=.ref p/\s.heap.get? p=Z { cls:=.type "tuple",dict:=L,data:=.seq #[n,(kv i).2] m,slots:=u }/\(aM prog w).is (kv i).1 n=B)(h:∀(l:SZ)(y:Nat),l.DictOf (aM prog w) s.heap.objs.size (merged [] ((List.range j.size).map kv))->(∀b o,s.heap.get? b=Z o->l.get? b=Z o)->Q (.ref s.heap.objs.size) { s with heap:=l,toks:=y }) :
  PP (KB prog w) A (call (.type "dict") [.ref a]) Q E s:=by
 refine callType_codes (Q₁:=λobj z=>obj=.ref s.heap.objs.size/\z={ s with heap:=s.heap.push { cls:=.type "dict",data:=.dict #[] } }) rm (md _) F.entry_dict_init (oy _ ⟨rfl,rfl⟩) λobj z X=>?_;obtain⟨rfl,rfl⟩:=X;have ty:Shared.TypeIs { s with heap:=s.heap.push { cls:=.type "dict",data:=.dict #[] } } (.ref s.heap.objs.size) "dict" := ⟨_,ZU _ Y,rfl⟩
 refine⟨ty,F.args_dict_init_2 _ _,?_⟩;obtain⟨f,g,d,y,os⟩:=s;have J:=Zk { cls:=.type "dict",data:=.dict #[] } D;unfold Builtin.«dict.__init__» Builtin.Dict.updateCommon Builtin.Dict.updateFrom;generalize eP:pyIter=itr;generalize eG:getAttr?=ga
 repeat (any_goals (first | assumption | wp_step))
 subst eG;dsimp only at *;refine vX J (by simp[G]) λr O e ne=>?_;simp only[Option.isNone_none,if_true];refine Zl (wpAny_rule ?_);subst eP;have at2:=ne.keeps _ _ J;have dat:=ne.keeps f.objs.size { cls:=.type "dict",data:=.dict #[] } (ZU _ Y);have t:=ZX dat;have x:∀{b:KM}{o:Obj},f.get? b=Z o->b<f.objs.size:=λe=>ZX e;have M:∀b o,f.get? b=Z o->r.get? b=Z o:=λb o e=>ne.keeps _ _ (Zk _ e);have tup:r.IsTuple a j:=⟨_,at2,rfl,C,rfl⟩
 refine Zl (wpAny_pyIter_tuple tup (ZS ⟨plainId_quiet iz _,?_⟩));have alt:=x D;have D0:(r.push { cls:=.type "tuple_iterator",data:=.fields #[.ref a,.int 0 0] }).DictOf (aM prog w) f.objs.size (merged [] ((List.range 0).map kv)):=by
  obtain⟨o,es,ep,ho,rest⟩:=(Heap.DictOf.new (knd:=aM prog w) f)
  exact⟨o,es,ep,Zk _ (ne.keeps _ _ ho),rest⟩
 refine loop (A:=A.in1) ((Walks.tuple (by simp[G]) r.objs.size a (Zb (X4 alt t)) j).toS) f.objs.size (by simp only[Zp,Yk,or_false,not_or];exact⟨Zb t,XT alt⟩) f kv (λi v U=>?_) S j.size 0 _ (by lia) (Ys _) ?_ (λb o hb e=>Zk _ (M b o e)) D0 λP mv dd=>?_
 ·obtain⟨p,m,u,n,rfl,H,g2⟩:=hp i v U;have:=x H;exact⟨p,m,u,n,rfl,H,g2,by simp only[Zp,Yk,or_false,not_or];exact⟨Zb this,Zb (X4 this t)⟩⟩
 ·exact⟨⟨_,ZU _ Y,rfl,rfl⟩,tup.push _⟩
 ·obtain⟨l,g',d',LB,NX⟩:=P;have e1:g'=g:=mv.gens;have e2:d'=d:=mv.drawn;have e3:NX=os:=mv.os;subst e1 e2 e3;refine⟨rfl,h l LB dd λb o e=>mv.heap b o (λN=>?_) (Zk _ (M b o e))⟩;have:=x e;simp only[Zp,Yk,or_false]at N;rcases N with q | q
  ·exact Zb this q
  ·exact Zb (X4 this t) q
end DP
end
section
namespace L2
open PySem PySem.Spec PyProof.Rows
section
variable{X:Cx}
abbrev KG:=KM×Key×V
def AM{a:Xo}{J:St}{H:Hp}{s:IR}(I:Inv X a J H s){q:KG}(h:H q.1=Z (.tup [kV q.2.1,q.2.2])):∃b m i d,RelV q.2.2 b/\s.heap.get? q.1=Z { cls:=.type "tuple",dict:=L,data:=.seq #[d,b] m,slots:=i }/\(aM X.prog X.w).is q.2.1 d=B:=by
 obtain⟨_,o,j,nd,⟨oc,p,r,l⟩,g,f,n,e⟩:=(show bR X.prog X.w H s.heap q.1 (.tup [kV q.2.1,q.2.2]) from I.GN _ _ h)
 have hd:=nd _ g;dsimp only at f e hd;subst f e hd;obtain⟨d,b,rfl,r1,r2⟩:=vals2 j;exact⟨b,n,l,d,r2,g,lY r1⟩
theorem rH{a:Xo}{J:St}{H:Hp}{s:IR}(I:Inv X a J H s):∀(ps:List KG),(∀q∈ps,H q.1=Z (.tup [kV q.2.1,q.2.2])) →
  ∃f:List (Key×On),Paired (λ(q:KG) (d:Key×On)=>q.2.1=d.1/\RelV q.2.2 d.2/\∃m e b,s.heap.get? q.1=Z { cls:=.type "tuple",dict:=L,data:=.seq #[b,d.2] m,slots:=e }/\(aM X.prog X.w).is d.1 b=B) ps f
 |[],_=>⟨[],.nil⟩
 |q :: ps,h=>by
  obtain⟨i,m,e,b,r,g,k⟩:=AM I (h q Zv);obtain⟨f,p⟩:=rH I ps λx j=>h x (Zw _ j);exact⟨(q.2.1,i) :: f,.cons ⟨rfl,r,m,e,b,g,k⟩ p⟩
theorem oQ{R:KG->Key×On->Prop}(e:∀q d,R q d->q.2.1=d.1/\RelV q.2.2 d.2):∀{ps:List KG}{f:List (Key×On)},Paired R ps f->∀{a:List (Key×V)}{b:List (Key×On)},KV a b->KV (ps.foldl (λacc q=>putK acc q.2.1 q.2.2) a) (merged b f)
 |_,_,.nil,_,_,r=>r
 |_,_,.cons (a:=q) (b:=d) h t,a,b,r=>by
  obtain⟨e1,e2⟩:=e _ _ h;have:=oQ e t (r.put d.1 e2);simp only[YQ,merged];rw[e1];exact this
theorem rJ:∀(ps:List KG)(a:List (Key×V)),(ps.foldl (λacc q=>putK acc q.2.1 q.2.2) a).length<=a.length+ps.length
 |[],a=>Zj _
 |q :: ps,a=>by
  have d:=rJ ps (putK a q.2.1 q.2.2);have b:=gI a q.2.1 q.2.2;simp only[YQ,Zi];lia
theorem Paired.at_{α β:Type}{R:α->β->Prop}:∀{l:List α}{m:List β},Paired R l m->∀(i:Nat){a:α},l[i]?=Z a->∃b,m[i]?=Z b/\R a b
 |_,_,.nil,i,a,h=>by simp at h
 |_,_,.cons r t,0,a,h=>by simp at h;subst h;exact⟨_,rfl,r⟩
 |_,_,.cons r t,i+1,a,h=>by simpa using Paired.at_ t i (by simpa using h)
def tK(N:X.calm=B):d6 X (.type "dict") (λf H Q=>∃(p:KM)(ps:List KG),f=[.ref p]/\H p=Z (.tup (ps.map λq=>V.ref q.1))/\(∀q∈ps,H q.1=Z (.tup [kV q.2.1,q.2.2])) ∧
  ∀l,H l=L->Q (.ref l) (upd H l (.dK (ps.foldl (λacc q=>putK acc q.2.1 q.2.2) [])))):=by
 intro o s J H f Y Q I D h;obtain⟨p,ps,rfl,M,G,q⟩:=h;obtain⟨u,rfl,E⟩:=D.one;cases E;obtain⟨t,r,j,nd,⟨oc,od,SG,JL⟩,g,y,n,x⟩:=(show bR X.prog X.w H s.heap p (.tup (ps.map λq=>V.ref q.1)) from I.GN _ _ M)
 have hd:=nd _ g;dsimp only at y x hd;subst y x hd;obtain⟨d,pr⟩:=rH I ps G;have l1:r.length=ps.length:=by have:=j.length;simpa using this.symm
 have l2:d.length=ps.length:=pr.length.symm;rw[Zu]at t;have U:(List.range r.toArray.size).map (λi=>(d[i]?).getD (.inl 0,.none))=d:=by
  apply List.ext_getElem?;intro i;rw[ZO];by_cases b:i<d.length
  ·rw[List.getElem?_range (by simp;lia),Zr b];simp[b]
  ·rw[Z3 (by simp;lia),Z3 (by exact ZM b)];rfl
 refine DP.wC (kv:=λi=>(d[i]?).getD (.inl 0,.none)) (I.ok.hd N) g (by simp;lia) (λi v e=>?_) λh' A z kp=>?_
 ·rw[List.getElem?_toArray]at e;have b:i<ps.length:=by have:=(Zf.mp e).1;lia
  obtain⟨w,e1,e2⟩:=Paired.at_ j i (a:=V.ref ps[i].1) (by rw[ZO,Zr b];rfl);rw[e]at e1;cases e1;obtain⟨kv,S,e4,_,m,C,F,P,O⟩:=Paired.at_ pr i (Zr b);rw[S];exact⟨ps[i].1,m,C,F,e2,P,O⟩
 ·rw[U]at z;have rel:=oQ (λ_ _ h=>⟨h.1,h.2.1⟩) pr (.nil:KV [] []);have ln:=rJ ps [];exact⟨.ref s.heap.objs.size,_,I.laid (t':=A) kp (Zj _) (qB (by simp at ln;exact ZJ ln t) (ZK.mpr (Yi (Zb I.big))) rel z),rfl,q _ (I.GN.fresh (Zj _))⟩
end
end L2
end
section
namespace VS
open PySem PySem.Spec PyProof.Rows L2
def pN:Wh->Option (List (T×T))
 |[]=>Z []
 |.tup [k,v] :: r=>if iG k/\GQ v then (pN r).map ((k,v) :: ·) else L
 |_=>L
def lC:Wj->Wi
 |[(_,.tup l)]=>(pN l).map λps=>(.fr,.dct 0 (ps.foldl (λd q=>dput d q.1 q.2) []))
 |_=>L
section
variable{G:Gx}{X:Cx}{e:Expr}{cs:Hf}{p pos:Pos}
def Bt{t:T}{l:Wh}{d:List (T×T)}(h:pN (t :: l)=Z d):∃k v a,t=.tup [k,v]/\iG k=B/\GQ v=B/\pN l=Z a/\d=(k,v) :: a:=by
 unfold pN at h;split at h
 ·rename_i b;cases b
 ·rename_i k v r b;cases b;split at h
  ·rename_i c;obtain⟨a,e1,e2⟩:=Zy.mp h;exact⟨k,v,a,rfl,c.1,c.2,e1,e2.symm⟩
  ·cases h
 ·cases h
theorem se{H:Hp}:∀{ts:Wh}{f:List V}{z:Xl}{a:List (T×T)},RpL G H f ts z->pN ts=Z a →
  ∃ps:List KG,f=ps.map (λq=>V.ref q.1)/\(∀q∈ps,H q.1=Z (.tup [kV q.2.1,q.2.2]))/\Paired (λ(q:KG) (x:T×T)=>x.1=aN q.2.1/\Rp G H q.2.2 x.2 []) ps a
 |[],_,_,a,r,h=>by
  cases r;cases (show Z ([]:List (T×T))=Z a from h);exact⟨[],rfl,λq n=>by simp at n,.nil⟩
 |t :: ts,_,_,a,r,h=>by
  obtain⟨k,v,j,rfl,o,m,s,rfl⟩:=Bt h;cases r with
  |cons r1 r2 =>
   obtain⟨ps,e1,e2,y⟩:=se r2 s;obtain⟨b,vs,Fs,rfl,hb,q⟩:=Rp.Jr r1;cases q with
   |cons i q =>
    cases q with
    |cons g q =>
     cases q;obtain⟨l,rfl,u⟩:=dW i o;have w:=g.GQ m;subst w;refine⟨(b,l,_) :: ps,by rw[e1];rfl,λx d=>?_,.cons ⟨u,g⟩ y⟩;rcases Zp.mp d with rfl | d
     ·exact hb
     ·exact e2 x d
theorem sF{H:Hp}:∀{ps:List KG}{n:List (T×T)},Paired (λ(q:KG) (x:T×T)=>x.1=aN q.2.1/\Rp G H q.2.2 x.2 []) ps n->∀{ns:List Key}{vs:List V}{ts:Wh}{Fs:Xl},ns.length=vs.length->RpL G H vs ts Fs->Fs.flatten=[] →
  ∃(l:List Key)(f:List V)(m:Wh)(g:Xl),ps.foldl (λacc q=>putK acc q.2.1 q.2.2) (ns.zip vs)=l.zip f/\n.foldl (λd q=>dput d q.1 q.2) ((ns.map aN).zip ts)=(l.map aN).zip m/\l.length=f.length/\RpL G H f m g/\g.flatten=[]
 |_,_,.nil,ns,vs,ts,Fs,i,r,j=>⟨ns,vs,ts,Fs,rfl,rfl,i,r,j⟩
 |_,_,.cons (a:=q) (b:=x) h t,ns,vs,ts,Fs,i,r,j=>by
  obtain⟨O,f,m,g,z,y,w,v,o⟩:=pT (kk:=q.2.1) h.2 i r;rw[j]at o;have M:g.flatten=[]:=List.sublist_nil.mp o;obtain⟨A,s,u,N,J,F,E,D,C⟩:=sF t y v M;refine⟨A,s,u,N,?_,?_,E,D,C⟩
  ·rw[YQ,z];exact J
  ·rw[YQ,h.1,w];exact F
def x9:fF G (λi H Q=>∃(p:KM)(ps:List KG),i=[.ref p]/\H p=Z (.tup (ps.map λq=>V.ref q.1))/\(∀q∈ps,H q.1=Z (.tup [kV q.2.1,q.2.2])) ∧
  ∀l,H l=L->Q (.ref l) (upd H l (.dK (ps.foldl (λacc q=>putK acc q.2.1 q.2.2) [])))) lC:=by
 intro M U J H l vs Fs m t Q A e k;unfold lC at e;split at e
 ·rename_i E ts;obtain⟨j,e1,e2⟩:=Zy.mp e;cases e2;obtain⟨v,F,rfl,rfl,r⟩:=(show RpL G H vs [.tup ts] Fs from A.rp).one;obtain⟨b,D,N,rfl,hb,q⟩:=Rp.Jr r;obtain⟨ps,rfl,y,pr⟩:=se q e1;refine⟨b,ps,rfl,hb,y,λl h=>?_⟩;obtain⟨ns,f,C,z,w,u,s,o,n⟩:=sF pr (ns:=[]) (vs:=[]) (ts:=[]) (Fs:=[]) Y .nil Y;have a:ps.foldl (λacc q=>putK acc q.2.1 q.2.2) []=ns.zip f:=w;have x:j.foldl (λd q=>dput d q.1 q.2) []=(ns.map aN).zip C:=u;rw[a];have g:aC H (upd H l (.dK (ns.zip f))):=br h;refine k _ _ (l :: z.flatten) g (by rw[x];exact .dct au s (o.same g)) ?_;rw[n];exact Fp.new (A.same.free h) (by simp) Fp.nil
 ·cases e
def uC:bootBuiltins ("dict" : Str)=Z (.type "dict"):=by decide +kernel
def zM(a:X.mg "dict" = L)(f:HI G X [e] cs)(b:Gl X "dict" := by rfl)(d:X.calm=B:=by rfl)(he:K1 e [] X:=by rfl):PV G X (.Call (.Name "dict" p) [e] [] pos) (eN lC cs) :=
 jh (tK d) x9 b a uC f (he:=he) (hpl:=rfl)
end
end VS
end
section
namespace L2
open PySem PySem.Spec PyProof.Rows
section
variable{X:Cx}{pins:Xo}{J:St}{H:Hp}{s:IR}
def pH{d:KM}{a:List (Key×V)}{o:Obj}(I:Inv X pins J H s)(e:H d=Z (.dK a))(g:s.heap.get? d=Z o):Inv X pins J (upd H d (.frz o (.dK a))) s :=
 mK (t':=s.toks) I (by rw[e];exact True.intro) ⟨rfl,λ_ _=>rfl⟩ ⟨o,g⟩ ⟨g,I.GN d _ e⟩
end
def Sh(d:KM)(o:Obj)(a:List (Key×V)):It :=
 ⟨λi H=>H d=Z (.frz o (.dK a))/\i<a.length,λi H x b=>b=H/\∃p,a[i]?=Z p/\x=kV p.1,λi H=>H d=Z (.frz o (.dK a))/\a.length<=i⟩
def Bz{k:Key}{v:On}(h:lL k v=B):RelV (kV k) v:=by
 rcases bW h with⟨i,t,rfl,rfl⟩ | ⟨x,t,rfl,rfl⟩
 ·exact⟨t,rfl⟩
 ·exact⟨t,rfl⟩
def pz{P:Re}{w:UF}{a:List DictEntry}{m:List (Key×On)}(r:Pairs (aM P w) a m){i:Nat}{e:DictEntry}(h:a[i]?=Z e):∃q,m[i]?=Z q/\lL q.1 e.key=B:=by
 induction r generalizing i with
 |nil=>simp at h
 |@cons j b a l f g _ d =>
  cases i with
  |zero =>
   simp at h;subst h;exact⟨b,rfl,f⟩
  |succ i=>simpa using d (by simpa using h)
def Cp{l:List (Key×V)}{m:List (Key×On)}(r:KV l m){i:Nat}{q:Key×On}(h:m[i]?=Z q):∃p,l[i]?=Z p/\p.1=q.1:=by
 induction r generalizing i with
 |nil=>simp at h
 |@cons a f ps e d t b =>
  cases i with
  |zero=>simp at h;subst h;exact⟨a,rfl,d.1⟩
  |succ i=>simpa using b (by simpa using h)
section
variable{X:Cx}{tg:Expr}{pos:Pos}
def DS{P:Re}{w:UF}{K:Xk}(d j:KM){Y:List (Key×V)}{n:Array DictEntry}{t:Nat}{O:List (Key×On)}(f:KV Y O)(x:Pairs (aM P w) n.toList O) :
  Turn P w K tg (Sh d (ST.dO n t) Y) [j] j (λi h=>h.get? j=Z (ST.kO d i n.size t)) where
 mem:=by simp
 obj:=λi h st b hb=>by
  rw[Zh.mp hb];exact⟨_,st,λv z=>by cases z⟩
 keep:=λi h m st k=>k j (by simp) _ st
 item:=by
  intro X A hw C y i a s J H E I r st hg;subst A hw C;obtain⟨N,f1,f2,M,G,D⟩:=r j (by simp);refine ST.rX (I.ok.hd y) st (show s.heap.get? d=Z (ST.dO n t) from(I.GN d _ hg.1).1) (λe l m Q g=>?_) λS=>?_
  ·have I1:Inv X a J H { s with heap:=m }:=I.turned (t':=s.toks) (λb o hb e=>(Q.2 b hb).trans e) N f1 M G D;rw[← Yo]at l;obtain⟨q,u,U⟩:=pz x l;obtain⟨p,hp,hb⟩:=Cp f u;exact⟨_,rfl,sC (s:={ s with heap:=m }) g rfl rfl rfl ⟨kV p.1,H,I1,by rw[hb];exact Bz U,⟨rfl,p,hp,rfl⟩,g,λb hb=>(r b hb).1⟩⟩
  ·exfalso;rw[← Yo,Yp,x.length,← Y7 f]at S;exact absurd hg.2 (by lia)
 done:=by
  intro X A hw C y i a s J H E I r st hg;subst A hw C;obtain⟨N,f1,f2,M,G,D⟩:=r j (by simp);refine ST.rX (I.ok.hd y) st (show s.heap.get? d=Z (ST.dO n t) from(I.GN d _ hg.1).1) (λe l m Q g=>?_) λS m kp=>⟨rfl,I.turned (t':=s.toks) (λb o hb e=>kp b o hb e) N f1 M G D⟩
  exfalso;rw[← Yo]at l;obtain⟨q,u,U⟩:=pz x l;have:=(Zf.mp u).1;have h2:=hg.2;rw[Y7 f]at h2;lia
 self:=λ_ _ _ _ _ st hQ=>wpAny_pyIter_slot ⟨_,st,rfl⟩ F.slot_dict_keyiterator_iter (XH F.slot_dict_keyiterator_iter ⟨_,st,rfl⟩ F.entry_dict_keyiterator_iter (show PP _ _ (ret (.ref j)) _ _ _ from ZS ⟨_,rfl, "dict_keyiterator",_,⟨_,st,rfl⟩,Y0.lookup,hQ⟩) (F.args_dict_keyiterator_iter_1 _))
def Va(e:TE):TI:=λJ H R=>e J H λx b=>∃d a,x=.ref d/\b d=Z (.dK a)/\∀o,R (Sh d o a) (upd b d (.frz o (.dK a)))
def E2{l:Expr}{i:TE}(m:PE X l i):PI X tg l (Va i):=by
 intro a s J H R I h;refine thn (m a s J H _ I h) λv s1 ⟨x,D,f,r1,j⟩=>?_;obtain⟨d,C,ex,e,q⟩:=j;subst ex;cases r1;obtain⟨z,y,t,rel,o,w,A,g,ex,hd,_,n,u⟩:=qW f.GN e;have p:=zu ex hd;subst p;refine ST.xy y g ?_;refine⟨s1.heap.objs.size,[s1.heap.objs.size],_,_,_,rfl,(pH f e g).kept (t':=s1.toks) λb o e=>Zk _ e,DS d _ rel n,ZU _ Y,λb hb=>?_,q _⟩;have r:b=s1.heap.objs.size:=by simpa using hb
 subst r;exact(pH f e g).Ko (Zj _) ((pH f e g).GN.fresh (Zj _))
end
end L2
end
section
namespace L2
def CQ{α:Type}{n:Nat}{b:List α}(d:b.length=n+1):∃a t,b=a :: t/\t.length=n:=by
 obtain⟨a,t,e⟩:=List.exists_cons_of_length_eq_add_one d;subst e;exact⟨a,t,rfl,Nat.succ.inj d⟩
def ou{α:Type}{b:List α}(d:b.length=1):∃a,b=[a]:=List.length_eq_one_iff.mp d
def d9{α:Type}{d:List α}(f:d.length=2):∃a b,d=[a,b]:=by
 obtain⟨a,t,rfl,e⟩:=CQ f;obtain⟨b,rfl⟩:=ou e;exact⟨a,b,rfl⟩
def rz{α:Type}{d:List α}(f:d.length=3):∃a b c,d=[a,b,c]:=by
 obtain⟨a,t,rfl,e⟩:=CQ f;obtain⟨b,c,rfl⟩:=d9 e;exact⟨a,b,c,rfl⟩
def Cs{α:Type}{e:List α}(g:e.length=4):∃a b c d,e=[a,b,c,d]:=by
 obtain⟨a,t,rfl,f⟩:=CQ g;obtain⟨b,c,d,rfl⟩:=rz f;exact⟨a,b,c,d,rfl⟩
end L2
end
section
namespace VS
open PySem PySem.Spec PyProof.Rows L2
inductive Res where | ok (v:Val) | ex (x:Str)
inductive Sd where | ok (o:Out) | ex (x:Str) (U:VS.Env)
abbrev ExX:=VS.Env->Option Res
abbrev SxX:=VS.Env->Option Sd
end VS
end
section
namespace TS
open PySem PySem.Spec PyProof.Rows
variable{prog:Re}{w:UF}{A:SB}{E:Z5}{s:IR}
def wB{f:X3}(o:∀v∈f,∃x t,v=Value.str x t){d:Array Pi}(g:d.Perm (pairsOf f))(p:SortedToK strKind d (pairsOf f).size):((d.map (·.2)).toList.map strOf).Pairwise (λa b=>¬b.cps.toList<a.cps.toList):=by
 obtain⟨n,m⟩:=pv g;rw[X6,List.pairwise_iff_getElem];intro i j r l u;have key:∀i (h:i<(d.map (·.2)).toList.length),KK strKind d i=(strOf (d.map (·.2)).toList[i]).cps.toList:=λi h=>by
  have e:d[i]?=Z ((d.map (·.2)).toList[i],(d.map (·.2)).toList[i]):=by
   rw[← Yo,← m,ZO,Zr h];rfl
  obtain⟨x,t,ex⟩:=o _ (n.mem_iff.mp (Yy h));unfold KK;rw[e];rw[ex];rfl
 have q:=p i j (Y8 u) (by rw[← g.size_eq];simpa using l);rw[key i r,key j l]at q;exact of_decide_eq_false q
def p9{x:On}{Q:Z5}(z:∀(q:SB)(C:Z5),q.handled=A.handled->PP (KB prog w) q (collect x) (λf s1=>(∀v∈f,∃x t,v=Value.str x t)/\f.length<64/\∀(out:X3)(i:SZ)(e:Nat),out.Perm f->(out.map strOf).Pairwise (λa b=>¬b.cps.toList<a.cps.toList)->(∀b o,s1.heap.get? b=Z o->i.get? b=Z o)->i.get? s1.heap.objs.size=Z (seqObj "list" out.toArray e)->Q (.ref s1.heap.objs.size) { s1 with heap:=i }) C s) :
  PP (KB prog w) A (call (.builtin "sorted") [x]) Q E s:=by
 refine Calls.call_function_entry kind_sorted plain_sorted entry_sorted (args_sorted1 _) (show PP _ _ (Builtin.«sorted» _) _ _ _ from ?_);unfold Builtin.«sorted»;refine Zl (m:=checkCount "sorted" 1 1 _) (ZS (Zl (YJ (z A.in1 (λ_ _=>False) Y) ?_ λ_ _ e=>e.elim)));rintro d s1 ⟨g,y,h⟩;refine Zl (wpAny_newList ?_ (by show d.length<=KF;rw[Xs];omega));have j:(s1.heap.push (seqObj "list" d.toArray 0)).get? s1.heap.objs.size=Z (seqObj "list" d.toArray 0):=ZU _ Y;show PP _ _ _ _ _ { s1 with heap:=s1.heap.push (seqObj "list" d.toArray 0) };refine Zl (Y6 (XH slot_list_sort ⟨_,j,rfl⟩ entry_list_sort (list_sort_treeK strKind_oneLt j (strsAre_map _ g).keysOf (λF D rest e=>keyKind_strs (by rw[← e];exact strsAre_map _ g)) y λl p u=>⟨_,rfl,?_⟩) (args_list_sort _)));obtain⟨e,r⟩:=sortedHeap_at (out:=(arrOf l).map (·.2)) j;exact ZS ⟨_,rfl,h ((arrOf l).map (·.2)).toList _ e (pv p).1 (wB g p u) (λb o n=>by
  have hb:=ZX n;show (sortedHeap (s1.heap.push (seqObj "list" d.toArray 0)) s1.heap.objs.size d ((arrOf l).map (·.2))).get? b=Z o;rw[sortedHeap_old (Zb hb) (by rw[size_push'];exact Yd hb),Heap.get?_push_ne _ _ _ (Zb hb)];exact n) r⟩
end TS
namespace L2
open PySem PySem.Spec PyProof.Rows TS
section
variable{X:Cx}
def jD(hc:X.calm=B):d6 X (.builtin "sorted") (λD H Q=>∃p,∃(d:List Str)(m:List V),D=[.ref p]/\d.length<64/\d.length=m.length/\H p=Z (.dK ((d.map Sum.inr).zip m)) ∧
  ∀(l:KM)(C:List Str),H l=L->C.Perm d->C.Pairwise (λa b=>¬b.cps.toList<a.cps.toList)->Q (.ref l) (upd H l (.lst (C.map V.str)))):=by
 intro f s J H D us Q I O h;obtain⟨p,d,m,rfl,To,hl,Y,q⟩:=h;obtain⟨u,rfl,P⟩:=O.one;cases P;obtain⟨U,hS,A,rel,z⟩:=qW I.GN Y;obtain⟨ep,z⟩:=z.dictAt;have VA:A.length=d.length:=by
  have:=rel.length;rw[Z7,Zu]at this;lia
 have Vx:∀i:Nat,(A[i]?).map (λx=>x.1)=(d[i]?).map (Sum.inr:Str->Key):=λi=>by
  have F:((A.map (·.1)))[i]?=(d.map (Sum.inr:Str->Key))[i]?:=by
   rw[← rel.keys];rw[Wt (by rw[Zu];exact Xn hl)]
  rw[ZO,ZO]at F;exact F
 refine TS.p9 λA' E' hA=>PySem.W.kdu_collect (PySem.W.kdl_dict hS) (hA.trans (I.ok.hd hc)) z (by rw[Z7,Zu]at U;lia) λG E acc kp M=>?_;have N:Inv X f J H { s with heap:=G,toks:=E }:=I.kept kp;have VT:acc.toList.length=d.length:=by rw[Ya,M.1,VA]
 have each:∀i v,acc.toList[i]?=Z v->∃x t,v=Value.str x t/\d[i]?=Z x:=λi v g=>by
  rw[Yo]at g;obtain⟨k,x,e1,e2⟩:=M.2 i v g;have j:=Vx i;rw[e1]at j;cases r:d[i]? with
  |none=>rw[r]at j;cases j
  |some y =>
   rw[r]at j;have e5:k=Sum.inr y:=Zm j;subst e5;obtain⟨t,rfl⟩:=Value.isStrOf_shape (show Value.isStrOf y v=B from e2);exact⟨y,t,rfl,r⟩
 have g:∀v∈acc.toList,∃x t,v=Value.str x t:=λv o=>by
  obtain⟨i,hi,e⟩:=List.getElem_of_mem o;obtain⟨x,t,e1,_⟩:=each i v (by rw[Zr hi,e]);exact⟨x,t,e1⟩
 have es:acc.toList.map strOf=d:=by
  apply List.ext_getElem?;intro i;rw[ZO];cases e:acc.toList[i]? with
  |none =>
   have:acc.toList.length<=i:=Yp.mp e;rw[Yp.mpr (by lia)];rfl
  |some v =>
   obtain⟨x,t,rfl,e1⟩:=each i v e;rw[e1];rfl
 refine⟨g,by omega,λout h2 e n S Ph he=>?_⟩;have QS:∀v∈out,∃x t,v=Value.str x t:=λv o=>g v (n.mem_iff.mp o);have Vb:((out.map strOf).map V.str).length<=sizeLine:=by rw[Zu,Zu,n.length_eq,VT,Xs];omega
 exact⟨.ref G.objs.size,_,N.laid (t':=E) Ph (Zj _) (show bR X.prog X.w _ h2 _ (.lst ((out.map strOf).map V.str)) from⟨Vb,out,e,rE QS,he⟩),rfl,q _ _ (N.GN.fresh (Zj _)) (by rw[← es];exact n.map _) S⟩
end
end L2
namespace VS
open PySem PySem.Spec PyProof.Rows L2
section
variable{G:Gx}{X:Cx}{e:Expr}{cs:Hf}{p pos:Pos}
noncomputable def gR:Wj->Wi
 |[(_,.dct 0 l)]=>(strs? (l.map (·.1))).bind λa=>if a.length<64/\a.all Nh=B then Z (.fr,.lst ((eR a).map .str)) else L
 |_=>L
def xp:fF G (λq H Q=>∃p,∃(d:List Str)(f:List V),q=[.ref p]/\d.length<64/\d.length=f.length/\H p=Z (.dK ((d.map Sum.inr).zip f)) ∧
  ∀(l:KM)(h:List Str),H l=L->h.Perm d->h.Pairwise (λa b=>¬b.cps.toList<a.cps.toList)->Q (.ref l) (upd H l (.lst (h.map V.str)))) gR:=by
 intro M U J H l f D m t Q A e k;unfold gR at e;split at e
 ·rename_i E x;obtain⟨d,e1,e2⟩:=Zz.mp e;split at e2
  ·rename_i hb;cases e2;obtain⟨v,F,rfl,rfl,r⟩:=(show RpL G H f [.dct 0 x] D from A.rp).one;obtain⟨a,g,o,i,N,rfl,rfl,y,j,rfl,u⟩:=fh r;have C:g.length=i.length:=by rw[j,u.len.1]
   have z:((g.map aN).zip i).map (·.1)=g.map aN:=Wt (by rw[Zu];exact Xn C);rw[z]at e1;have n:=keys_str e1;refine⟨a,d.map sx,o,rfl,by rw[Zu];exact hb.1,?_,by rw[← n];exact y,yT k A.same λs w=>DH (Yt.mp hb.2 s w)⟩;rw[← j,n,Zu,Zu,Zu]
  ·cases e2
 ·cases e
def uN(a:X.mg "sorted" = L)(f:HI G X [e] cs)(b:Gl X "sorted" := by rfl)(g:X.K=G.K:=by rfl)(d:X.calm=B:=by rfl)(he:K1 e [] X:=by rfl):PV G X (.Call (.Name "sorted" p) [e] [] pos) (eN gR cs) :=
 kS (jD d) xp b a vT f (he:=he) (hpl:=rfl)
end
def LL:T->Bool
 |.bl true=>B
 |_=>R
mutual
@[simp] def d8:T->Bool
 |.tup l=>aZ l
 |.lst l=>aZ l
 |.dct _ l=>pd l
 |.obj _ l=>dD l
 |_=>B
@[simp] def aZ:Wh->Bool
 |[]=>B
 |t :: r=>d8 t&&aZ r
@[simp] def pd:List (T×T)->Bool
 |[]=>B
 | (_,v) :: r=>d8 v&&pd r
@[simp] def dD:List (Nat×T)->Bool
 |[]=>B
 | (n,v) :: r=>(d8 v && !(n==0&&LL v))&&dD r
end
theorem hZ:∀{b:Wh}{a:Wh},b.length=a.length->pd (b.zip a)=B->aZ a=B
 |[],[],_,_=>rfl
 |_ :: _,[],h,_=>by simp at h
 |[],_ :: _,h,_=>by simp at h
 |k :: b,t :: a,h,e=>by
  rw[ZY,pd,Ze]at e;rw[aZ,Ze];exact⟨e.1,hZ (by simpa using h) e.2⟩
theorem d5:∀{b:Wq}{a:Wh},b.length=a.length->dD (b.zip a)=B->aZ a=B
 |[],[],_,_=>rfl
 |_ :: _,[],h,_=>by simp at h
 |[],_ :: _,h,_=>by simp at h
 |k :: b,t :: a,h,e=>by
  rw[ZY,dD,Ze,Ze]at e;rw[aZ,Ze];exact⟨e.1.1,d5 (by simpa using h) e.2⟩
section
variable{G:Gx}{H:Hp}
theorem Rp.at{v:V}{t:T}{F:Xa}(m:Me)(r:Rp G H v t F):d8 t=B->Rp (G.at m) H v t F :=
 Rp.rec (G:=G) (H:=H) (motive_1:=λv t F _=>d8 t=B->Rp (G.at m) H v t F) (motive_2:=λvs e Fs _=>aZ e=B->RpL (G.at m) H vs e Fs)
  (λ_=>.non) (λb _=>.bl b) (λi _=>.int i) (λs h _=>.str s h) (λh _=>.scr h) (λh _ d f=>.tup h (d (by simpa using f))) (λh _ d f=>.lst h (d (by simpa using f)))
  (λh l q d f=>.dct h l (d (hZ (by rw[Zu,l];exact q.len.1) (by simpa using f)))) (λh l q d f=>.dctT h l (d (hZ (by rw[Zu,l];exact q.len.1) (by simpa using f))))
  (λh l n q d f=>.dctN h l n (d (hZ (by rw[Zu,l];exact q.len.1) (by simpa using f)))) (λh l q d f=>.dctZ h l (d (hZ (by rw[Zu,l];exact q.len.1) (by simpa using f)))) (λh o _=>.exc h o)
  (λ{c a w b u vs e Fs} h l p q d f=>by
   rw[d8,dD,Ze]at f;have hb:b=R:=by
    cases b with
    |false=>rfl
    |true=>simp[LL]at f
   refine .ins h l (λz=>?_) (d (d5 (by rw[l];exact q.len.1) f.2));rw[hb]at z;cases z)
  (λ_ _ _ f=>by simp[d8,dD,LL]at f)
  (λ_=>.nil) (λ_ _ j g f=>by
   rw[aZ,Ze]at f;exact .cons (j f.1) (g f.2)) r
theorem RpL.at(m:Me):∀{vs:List V}{a:Wh}{Fs:Xl},RpL G H vs a Fs->aZ a=B->RpL (G.at m) H vs a Fs
 |_,_,_,.nil,_=>.nil
 |_,_,_,.cons r q,f=>by
  rw[aZ,Ze]at f;exact .cons (r.at m f.1) (RpL.at m q f.2)
mutual
theorem lj:∀t:T,GQ t=B->d8 t=B
 |.non,_=>rfl
 |.bl _,_=>rfl
 |.int _,_=>rfl
 |.str _,_=>rfl
 |.scr _,_=>rfl
 |.tup l,h=>by
  rw[d8];exact vm l h
 |.lst _,h=>by cases h
 |.dct _ _,h=>by cases h
 |.obj _ _,h=>by cases h
theorem vm:∀l:Wh,eQ l=B->aZ l=B
 |[],_=>rfl
 |t :: l,h=>by
  rw[eQ,Ze]at h;rw[aZ,Ze];exact⟨lj t h.1,vm l h.2⟩
end
end
def qc(k:Nat):T->Option T
 |.obj (_+1) (_ :: fs)=>(fs.findIdx? λp=>p.1==k).bind λi=>(fs[i]?).map (·.2)
 |_=>L
def aU(k:Nat)(a:Ex):Ex:=λU=>(a U).bind λx=>(qc k x.2).map λt=>sub x.1 t
section
variable{G:Gx}{X:Cx}{a e o:Expr}{ca ce:Ex}{k i:Nat}{f x:Str}{pos pos' p1:Pos}
def w_fld(Jq:jV G)(F:HQ G X.K k f)(ha:PV G X a ca)(C:UV a f X.env (eval a X.env)=eval a X.env:=by exact rfl):PV G X (.Attribute a f pos) (aU k ca) :=
 PE.weak (zr ha C) λJ H Q hq=>by
  obtain⟨M,U,m,t,s,e,kq⟩:=hq;unfold aU at e;obtain⟨⟨mx,y⟩,ea,e1⟩:=Zz.mp e;obtain⟨z,d,e2⟩:=Zy.mp e1;refine⟨M,U,mx,y,s,ea,λv H' F' sm r1 f1=>?_⟩;unfold qc at d;split at d
  ·rename_i c q0 fs w;dsimp only at w;subst w;obtain⟨j,E,e3⟩:=Zz.mp d;obtain⟨p,D,e4⟩:=Zy.mp e3;subst e4;obtain⟨c',a,dx,b,ns,vs,q,Fs,ec,rfl,rfl,rfl,rfl,hA,A,C,r⟩:=dj r1;cases ec;have Kk:ns.length=q.length:=A.trans r.len.1;obtain⟨l,g,O,N,g3,g4⟩:=j6 (λn=>n==k) Kk E;have ek:l=k:=by simpa using g3
   subst ek;have ep:p=(l,g):=by
    have:(ns.zip q)[j]?=Z (l,g):=by rw[YS];exact⟨O,N⟩
    rw[this]at D;exact(Zm D).symm
   subst ep;obtain⟨u,Fi,Y,S,h⟩:=r.get j N;have P:=sP (G:=G) (c:=c+1) Jq A E O Y;rw[F.nm c]at P;refine⟨a,_,dx,_,u,rfl,hA,F.cl c,F.no c,P,?_⟩;have fp:=((f1.sub (Yw _ _)).sub (cH S)).up h;unfold VS.sub at e2;rw[e2]at fp;have et:g=t:=congrArg Prod.snd e2;rw[et]at h;exact kq u H' Fi sm h fp
  ·cases d
def iL(i k:Nat)(e:Ex)(U:VS.Env):Option Out:=(e U).bind λv=>match U[i]? with
 |some (some (.ow (.obj (c+1) (q :: fs))))=>(fit v).bind λt=>if fs.length<900/\(fs.all λp=>!(p.1==k))=B then Z (.nx (U.set i (Z (.ow (.obj (c+1) (q :: (fs++[(k,t)]))))))) else L
 |_=>L
theorem qS{g:Nat->Str}{k:Nat}{v:V}(n:∀k m:Nat,g k=g m->k=m):∀{b:Wq}{d:List V}{j:Wh},b.length=d.length->b.length=j.length->((b.zip j).all λp=>!(p.1==k))=B->iE (g k) v ((b.map g).zip d)=((b++[k]).map g).zip (d++[v])
 |[],[],_,_,_,_=>rfl
 |[],_ :: _,_,h,_,_=>by simp at h
 |_ :: _,[],_,h,_,_=>by simp at h
 |_ :: _,_ :: _,[],_,h,_=>by simp at h
 |q :: b,t :: d,u :: j,s,r,l=>by
  rw[ZY,Y3,Ze]at l;have ne:g q≠g k:=λz=>by
   have:=n _ _ z;subst this;simp at l
  rw[Zo,ZY,iE,Zn ne,qS n (by simpa using s) (by simpa using r) l.2];rfl
def lA(i k:Nat)(Jq:jV G)(F:HQ G X.K k f)(he:PV G X e ce)(hN:X.N[i]?=Z x:=by exact rfl)(hv:IG X.env.scope x:=by exact .inl Y)(hd:K3 x:=by exact rfl)(C:K4 x:=by exact rfl)(hs:swapsWith e (Z (.Attribute (.Name x p1) f pos')) pos.line X.env=pure R:=by exact rfl):PSV G X (.Assign [.Attribute (.Name x p1) f pos'] e pos) (iL i k ce) :=
 PS.weak (C6 (fJ hN hv hd C) he hs) λD J H hq=>by
  obtain⟨M,U,out,s,e,kq⟩:=hq;unfold iL at e;obtain⟨⟨mv,h⟩,ev,e⟩:=Zz.mp e;split at e
  ·rename_i c q0 fs w;obtain⟨t,et,e⟩:=Zz.mp e;have em:=kJ et;cases em;split at e
   ·rename_i l;cases e;obtain⟨v,g1,g2⟩:=s.rp _ _ w;refine⟨M,U,.fr,h,s,ev,λy Q S q ry n=>⟨v,g1,?_⟩⟩;obtain⟨c',a,O,b,ns,p,j,Fs,ec,rfl,rfl,rfl,eF,E,A,hb,r⟩:=dj g2;cases ec;have nd:=s.nd i _ w;rw[eF]at nd;have P:=Zg.mp nd;have Tn:Q a=Z (.ins (G.ct (c+1)).1 O ((ns.map (G.ct (c+1)).2).zip p)):=q a _ E;have u:GT (Q a):=by rw[Tn];exact True.intro
    have Kk:ns.length=j.length:=A.trans r.len.1;have na:a∉S:=λz=>by rw[n.2 a z]at E;cases E
    have ln:((ns.map (G.ct (c+1)).2).zip p).length<1000:=by
     have:=l.1;rw[Z7]at this ⊢;rw[Zu];lia
    refine⟨a,_,O,_,rfl,Tn,F.cl c,F.no c,ln,?_⟩;have ep:=qS (g:=(G.ct (c+1)).2) (k:=k) (v:=y) (Jq (c+1)) A Kk l.2;rw[F.nm c]at ep;rw[ep];have off:∀d∈Fs.flatten,d∉S:=λd hb hw=>GT.gV (r.G3 d hb) (n.2 d hw);have g:Chg G H (.ref a) (M i) (.obj (c+1) ((0,.bl b) :: (ns.zip j++[(k,h)]))) (upd Q a (.ins (G.ct (c+1)).1 O (((ns++[k]).map (G.ct (c+1)).2).zip (p++[y])))) (a :: (Fs++[S]).flatten):=by
     rw[eF,show ns.zip j++[(k,h)]=(ns++[k]).zip (j++[h]) from by rw[List.zip_append Kk];rfl];refine Chg.upd q Zv u (.ins au (by simp[A]) hb (((r.same q).off u P.1).append (.cons (ry.keep (Kept.upd (.inl u)) λd hb o ho=>by rw[ax (λz=>na (by rw[← z];exact hb))];exact ho) .nil))) ?_ ?_
     ·rw[Z4];refine Zg.mpr ⟨λm=>?_,ZR.mpr ⟨P.2,by simpa using n.1,λb hb c l z=>?_⟩⟩
      ·rcases Zd.mp m with m | m
       ·exact P.1 m
       ·exact na (by simpa using m)
      ·subst z;exact off b hb (by simpa using l)
     ·intro d hb;rcases Zp.mp hb with rfl | hb
      ·exact .inl Zv
      ·rw[Z4]at hb;rcases Zd.mp hb with hb | hb
       ·exact .inl (Zw _ hb)
       ·exact .inr (n.2 d (by simpa using hb))
    obtain⟨z1,z2⟩:=s.mut w g1 g;exact kq _ J _ z1 z2
   ·cases e
  ·cases e
end
abbrev sH:=List (Nat×T)
def Jb(a:KM):Me:=λk=>if k=0 then Z (.ref a) else L
abbrev Mt:=sH->Wh->Option (sH×T)
def Hw:List Bool->Xl->Xa
 |b :: bs,F :: a=>(if b then F else [])++Hw bs a
 |_,_=>[]
def JK:List Bool->Xl->Xa
 |b :: bs,F :: a=>(if b then [] else F)++JK bs a
 |_,_=>[]
theorem gO:∀{mv:List Bool}{e:Xl}{j:Nat}{F:Xa},mv[j]?=Z B->e[j]?=Z F->F.Sublist (Hw mv e)
 |[],_,_,_,h,_=>by simp at h
 |_ :: _,[],_,_,_,h=>by simp at h
 |b :: bs,f :: e,0,F,d,a=>by
  simp at d a;subst d a;rw[Hw,Zq Y];exact List.sublist_append_left _ _
 |b :: bs,f :: e,j+1,F,d,a=>by
  rw[Hw];exact(gO (by simpa using d) (by simpa using a)).trans (YT _ _)
theorem pM:∀{mv:List Bool}{e:Xl}{j:Nat}{F:Xa},mv[j]?=Z R->e[j]?=Z F->F.Sublist (JK mv e)
 |[],_,_,_,h,_=>by simp at h
 |_ :: _,[],_,_,_,h=>by simp at h
 |b :: bs,f :: e,0,F,d,a=>by
  simp at d a;subst d a;rw[JK];exact List.sublist_append_left _ _
 |b :: bs,f :: e,j+1,F,d,a=>by
  rw[JK];exact(pM (by simpa using d) (by simpa using a)).trans (YT _ _)
theorem vd:∀{mv:List Bool}{d:Xl}{i j:Nat}{F m:Xa},(Hw mv d).Nodup->mv[i]?=Z B->mv[j]?=Z B->d[i]?=Z F->d[j]?=Z m->i≠j->∀a∈F,a∉m
 |[],_,_,_,_,_,_,h,_,_,_,_=>by simp at h
 |_ :: _,[],_,_,_,_,_,_,_,h,_,_=>by simp at h
 |b :: bs,q :: d,0,0,F,m,_,_,_,_,_,n=>absurd Y n
 |b :: bs,q :: d,0,j+1,F,m,nd,l,g,f,e,n=>λa o p=>by
  simp at l f;subst l f;rw[Hw,Zq Y,ZR]at nd;exact nd.2.2 a o a ((gO (by simpa using g) (by simpa using e)).subset p) Y
 |b :: bs,q :: d,i+1,0,F,m,nd,l,g,f,e,n=>λa o p=>by
  simp at g e;subst g e;rw[Hw,Zq Y,ZR]at nd;exact nd.2.2 a p a ((gO (by simpa using l) (by simpa using f)).subset o) Y
 |b :: bs,q :: d,i+1,j+1,F,m,nd,l,g,f,e,n=>by
  rw[Hw,ZR]at nd;exact vd nd.2.1 (by simpa using l) (by simpa using g) (by simpa using f) (by simpa using e) (by lia)
theorem uy:∀{mv:List Bool}{d:Xl}{a:KM},a∈Hw mv d->∃(j:Nat)(F:Xa),mv[j]?=Z B/\d[j]?=Z F/\a∈F
 |[],_,_,h=>by simp[Hw]at h
 |_ :: _,[],_,h=>by simp[Hw]at h
 |b :: bs,i :: d,a,h=>by
  rw[Hw]at h;rcases Zd.mp h with h | h
  ·cases b with
   |true=>exact⟨0,i,rfl,rfl,h⟩
   |false=>simp at h
  ·obtain⟨j,F,g,f,e⟩:=uy h;exact⟨j+1,F,by simpa using g,by simpa using f,e⟩
def i4(b:Bool)(t:T):Wk:=Z (if b then .ow t else .pu t)
def y0(c:Nat)(U:VS.Env):Option sH:=match (U[(0:Nat)]?:Option (Wk)) with
 |some (some (.ow (.obj a ((0,.bl true) :: fs))))=>if a=c+1 then Z fs else L
 |_=>L
noncomputable def IB(c d f:Nat)(e:List Bool)(body:Sx):Mt:=λfs a=>if a.length+1=d/\e.length=a.length then
 (body ((Z (.ow (.obj (c+1) ((0,.bl B) :: fs))) :: List.zipWith i4 e a)++List.replicate (f-d) L)).bind λo=>match o with
  |.rt v U=>(y0 c U).bind λb=>if GQ v.2 then Z (b,v.2) else L
  |.nx U=>(y0 c U).map λb=>(b,.non)
  |_=>L else L
noncomputable def J5(G:Gx)(c:Nat)(d:List Bool)(g:Mt):Sp:=λl H Q _=>∃(a:KM)(i:List V)(fs:sH)(f:Wh)(F:Xa)(e:Xl)(j:sH)(x:T),l=.ref a :: i/\Rp (G.at (Jb a)) H (.ref a) (.obj (c+1) ((0,.bl B) :: fs)) F ∧
 RpL (G.at (Jb a)) H i f e/\d.length=f.length/\(F++Hw d e).Nodup/\(∀b∈F++Hw d e,b∉JK d e)/\g fs f=Z (j,x) ∧
 ∀u h m,Chg (G.at (Jb a)) H (.ref a) (F++Hw d e) (.obj (c+1) ((0,.bl B) :: j)) h m->Rp (G.at (Jb a)) h u x []->Q u h
section
variable{G:Gx}{H:Hp}
def rR{v:V}{D:List V}{t:T}{d:Wh}{F:Xa}{f:Xl}{mv:List Bool}(r0:Rp G H v t F)(r:RpL G H D d f)(hm:mv.length=d.length)(s:(F++Hw mv f).Nodup)(S:∀b∈F++Hw mv f,b∉JK mv f)(n U:Nat)(hn:U=D.length+1) :
  SR G (λi=>(F :: f).getD i []) ((Z (.ow t) :: List.zipWith i4 mv d)++List.replicate (n-(d.length+1)) L) ((v :: D).map Z++List.replicate (n-U) L) H ∧
  ∀a,bK (λi=>(F :: f).getD i []) ((Z (.ow t) :: List.zipWith i4 mv d)++List.replicate (n-(d.length+1)) L) a->a∈F++Hw mv f:=by
 subst hn;have hl:=r.len;have J:(List.zipWith i4 mv d).length=d.length:=by rw[List.length_zipWith,hm,Nat.min_self]
 have back:∀{i:Nat}{c:Cell},((Z (Cell.ow t) :: List.zipWith i4 mv d)++List.replicate (n-(d.length+1)) L)[i]?=Z (Z c)->(i=0/\c=.ow t)\/∃(j:Nat)(b:Bool)(u:T),i=j+1/\mv[j]?=Z b/\d[j]?=Z u/\c=(if b then .ow u else .pu u):=λ{i c} h=>by
  cases i with
  |zero=>exact .inl ⟨rfl,(Zm (Zm h)).symm⟩
  |succ j =>
   rw[XY,List.getElem?_cons_succ]at h;by_cases E:j<d.length
   ·rw[Z0 (by rw[J];exact E),List.getElem?_zipWith]at h;have e1:mv[j]?=Z mv[j]:=Zr (by rw[hm];exact E);have e2:d[j]?=Z d[j]:=Zr E;rw[e1,e2]at h;exact .inr ⟨j,_,_,rfl,e1,e2,(Zm (Zm h)).symm⟩
   ·rw[Yx (by rw[J];exact ZM E),Yc]at h;split at h<;>cases h
 have fp:∀{j:Nat}{u:T},d[j]?=Z u->∃w q,D[j]?=Z w/\f[j]?=Z q/\Rp G H w u q:=λ{j u} h=>r.get j h;have ow:∀{i:Nat}{u:T},((Z (Cell.ow t) :: List.zipWith i4 mv d)++List.replicate (n-(d.length+1)) L)[i]?=Z (Z (.ow u))->i=0\/∃j:Nat,i=j+1/\mv[j]?=Z B/\d[j]?=Z u:=λ{i u} h=>by
  rcases back h with⟨o,g⟩ | ⟨j,b,Q,o,g,m,x⟩
  ·exact .inl o
  ·cases b with
   |true=>cases x;exact .inr ⟨j,o,g,m⟩
   |false=>cases x
 rw[ZR]at s;refine⟨⟨?_,λi c h=>?_,λi u h=>?_,λi j u c o g n=>?_⟩,λa ⟨i,u,o,g⟩=>?_⟩
 ·simp[J];lia
 ·rcases back h with⟨rfl,rfl⟩ | ⟨j,b,u,rfl,g,m,x⟩
  ·exact⟨v,rfl,r0⟩
  ·obtain⟨w,q,y,e,A⟩:=fp m;refine⟨w,?_,?_⟩
   ·rw[Zo,XY,List.getElem?_cons_succ,Z0 (by rw[Zu];exact(Zf.mp y).1),ZO,y];rfl
   ·show Rp G H w (iO c) ((F :: f).getD (j+1) []);rw[YN,Zs,e,x];cases b<;>exact A
 ·rcases ow h with rfl | ⟨j,rfl,g,m⟩
  ·exact s.1
  ·obtain⟨w,q,y,e,A⟩:=fp m;show ((F :: f).getD (j+1) []).Nodup;rw[YN,Zs,e];exact s.2.1.sublist (gO g e)
 ·rcases ow o with rfl | ⟨X,rfl,P,a3⟩
  ·rcases back g with⟨rfl,_⟩ | ⟨N,b,Q,rfl,C,O,_⟩
   ·exact absurd Y n
   ·obtain⟨w,q,y,e,A⟩:=fp O;intro a l;show a∉(F :: f).getD (N+1) [];rw[YN,Zs,e];intro p;cases b with
    |true=>exact s.2.2 a l a ((gO C e).subset p) Y
    |false=>exact S a (ZD _ l) ((pM C e).subset p)
  ·obtain⟨w,Fi,y,e,A⟩:=fp a3;have ei:(F :: f).getD (X+1) []=Fi:=by rw[YN,Zs,e];rfl
   show ∀a∈(F :: f).getD (X+1) [],_;rw[ei];rcases back g with⟨rfl,_⟩ | ⟨N,b,Q,rfl,C,O,_⟩
   ·exact λa l p=>s.2.2 a p a ((gO P e).subset l) Y
   ·obtain⟨w',q,k1,M,k3⟩:=fp O;intro a l;show a∉(F :: f).getD (N+1) [];rw[YN,Zs,M];intro p;cases b with
    |true=>exact vd s.2.1 P C e M (λz=>n (by rw[z])) a l p
    |false=>exact S a (ZQ _ ((gO P e).subset l)) ((pM C M).subset p)
 ·rcases ow o with rfl | ⟨j,rfl,m,x⟩
  ·exact ZD _ g
  ·obtain⟨w,q,y,e,A⟩:=fp x;have Iv:a∈(F :: f).getD (j+1) []:=g;rw[YN,Zs,e]at Iv;exact ZQ _ ((gO m e).subset Iv)
def zE{c:Nat}{U:VS.Env}{a:sH}(h:y0 c U=Z a):U[0]?=Z (Z (.ow (.obj (c+1) ((0,.bl B) :: a)))):=by
 unfold y0 at h;split at h
 ·rename_i d f e;split at h
  ·rename_i b;cases h;rw[e,b]
  ·cases h
 ·cases h
end
section
variable{G:Gx}{P:Re}{w:UF}{K:Xk}{mg:Xg}{base:SZ}
def EI{d:Str}{C:Stmt}{f:KM}{fd:P3}{N U:List Str}{k np M c:Nat}{X:List Bool}{m:Sx}(ok:∀{sp:Sp},(∀l H Q E,sp l H Q E->l.length=U.length)->(∀(x:On)(A:SB)(outer:List PySem.Env)(s:IR)(H:Hp)(l:List V)(Q:VK)(E:XK),p0 k (A.deeper (envOfC d (aj C) s.heap.objs.size f x))->sp l H Q E →
   ∃t,IH (iF Hk P w K mg base N d (aj C) f x A outer s H E).Jy (aQ C) t/\t { nx:=λ_ j=>Q .non j,rt:=Q } (L2.start N l) H)->FnOk P w K mg base Hk (k+1) f fd U sp)(hp:U.length=np)(hn:N.length=M)(hb:∀(a:KM)(x:On)(A:SB)(outer:List PySem.Env)(s:IR)(H:Hp)(E:XK),p0 k (A.deeper (envOfC d (aj C) s.heap.objs.size f x))->gD (G.at (Jb a)) (iF Hk P w K mg base N d (aj C) f x A outer s H E).Jy (aQ C) m) :
  FnOk P w K mg base Hk (k+1) f fd U (J5 G c X (IB c np M X m)):=by
 refine ok (λl H Q E h=>?_) λx A outer s H l Q E hr h=>?_
 ·obtain⟨a,J,fs,ts,F,Fs,Ic,y,rfl,r0,r,hm,nd,sp,e,q⟩:=h;unfold IB at e;split at e
  ·rename_i hl;rw[Zi,r.len.1,hl.1,hp]
  ·cases e
 ·obtain⟨a,J,fs,ts,F,Fs,Ic,y,rfl,r0,r,hm,nd,sp,e,q⟩:=h;refine⟨_,hb a x A outer s H E hr,?_⟩;unfold IB at e;split at e
  ·rename_i hl;obtain⟨o,e1,e2⟩:=Zz.mp e;obtain⟨s0,Kj⟩:=rR r0 r hm nd sp M (J.length+1) Y;rw[hl.1]at s0 Kj;have e3:L2.start N (V.ref a :: J)=(V.ref a :: J).map Z++List.replicate (M-(J.length+1)) L:=by
    unfold L2.start;rw[hn];rfl
   rw[e3];have fin:∀{n:VS.Env}{p:GV}{J':L2.St}{j:Hp},y0 c n=Z Ic->SR (G.at (Jb a)) p n J' j->G1 (λi=>(F :: Fs).getD i []) ((Z (.ow (.obj (c+1) ((0,.bl B) :: fs))) :: List.zipWith i4 X ts)++List.replicate (M-np) L) H p n j →
     Chg (G.at (Jb a)) H (.ref a) (F++Hw X Fs) (.obj (c+1) ((0,.bl B) :: Ic)) j (p 0):=λ{n p J' j} Vt D fr=>by
    have h0:=zE Vt;obtain⟨v',g1,g2⟩:=D.rp 0 _ h0;have Mj:Rp (G.at (Jb a)) j v' (.obj (c+1) ((0,.bl B) :: Ic)) (p 0):=g2;obtain⟨c',a',dx,b,ns,l,HG,Il,ec,rfl,eb,_,eF,hA,Vw,g,ra⟩:=dj Mj;have Kn:b=B:=by cases eb;rfl
    have ea:Z (V.ref a)=Z (V.ref a'):=g Kn;cases ea;refine⟨fr.kept,λS o' g ho=>(fr.keep S o' ho λz=>g (Kj S z)).1,fr.G3,Mj,D.nd 0 _ h0,λS g=>?_⟩;rcases fr.ow S ⟨0,_,h0,g⟩ with z | z
    ·exact .inl (Kj S z)
    ·exact .inr z
   refine⟨_,_,o,s0,e1,?_⟩;cases o with
   |nx n =>
    obtain⟨V6,e4,O⟩:=Zy.mp e2;cases O;intro p J' j D fr;exact q .non j _ (fin e4 D fr) .non
   |rt v n =>
    obtain⟨V6,e4,O⟩:=Zz.mp e2;split at O
    ·rename_i hi;cases O;intro u j F' p J' D fr r' rf;have:=r'.GQ hi;subst this;exact q u j _ (fin e4 D fr) r'
    ·cases O
   |bk n=>cases e2
   |ct n=>cases e2
  ·cases e
def Ts{x d:Str}{g:Stmt}{f:KM}{n:P3}{N h:List Str}{k i j c:Nat}{m:List Bool}{e:Sx}(F:G2 K x d g f n)(S:jj N h (aj g))(p:h.length=i)(q:N.length=j)(r:∀(a:KM)(o:On)(A:SB)(outer:List PySem.Env)(s:IR)(H:Hp)(E:XK),p0 k (A.deeper (envOfC d (aj g) s.heap.objs.size f o))->gD (G.at (Jb a)) (iF Hk P w K mg base N d (aj g) f o A outer s H E).Jy (aQ g) e) :
  FnOk P w K mg base Hk (k+1) f n h (J5 G c m (IB c i j m e)):=EI (λl b=>F.ok S l b) p q r
structure Kq(K:Xk)(x qual:Str)(st:Stmt)(f:KM)(fd:P3):Prop where
 ex:∃(T:KM)(oc:On)(od:Option KM)(kV doc pm:On)(an:Option KM)(GS ct:On)(JL:Array (Wr))(o:Obj)(n:Nat),
  fd=PySem.W.fnOf x qual (cR st) (aQ st) (aj st) (.ref T) kV doc pm an GS ct/\K.lookup f=some ⟨oc,od,.func fd,JL⟩/\PySem.W.codeIn K GS qual=true/\K.lookup T=some o/\o.data=.seq #[.none] n
 kp:PySem.W.keepIn K (.ref f)=true
def Kq.ok{x a:Str}{d:Stmt}{f:KM}{m:P3}{N i:List Str}{k:Nat}{g:Sp}(F:Kq K x a d f m)(S:jj N i (aj d))(j:∀b H Q E,g b H Q E->b.length=i.length)(u:∀(e:On)(A:SB)(outer:List PySem.Env)(s:IR)(H:Hp)(b:List V)(Q:VK)(E:XK),p0 k (A.deeper (envOfC a (aj d) s.heap.objs.size f e))->g b H Q E →
   ∃t,IH (iF Hk P w K mg base N a (aj d) f e A outer s H E).Jy (aQ d) t/\t { nx:=λ_ v=>Q .non v,rt:=Q } (L2.start N b) H):FnOk P w K mg base Hk (k+1) f m i g:=by
 obtain⟨T,oc,y,kV,doc,pm,an,e,ct,z,o,n,rfl,lk,l,_⟩:=F.ex;refine B5 lk l S j λA outer s H b Q E p r=>?_;obtain⟨t,h,q⟩:=u e A outer s H b Q E p r;exact⟨t,h.Jy,q⟩
def Kq.binds{x a:Str}{d:Stmt}{f:KM}{j:P3}{e:List Str}(F:Kq K x a d f j)(h:∀(s:IR)(T:KM)(kV doc pm:On)(an:Option KM)(g ct:On)(o:Obj)(n:Nat)(b:X3),K.In s.heap->K.lookup T=Z o->o.data=.seq #[.none] n->b.length=e.length->BindsTo s (PySem.W.fnOf x a (cR d) (aQ d) (aj d) (.ref T) kV doc pm an g ct) ⟨b,[]⟩ (e.zip b)):Binds K j e []:=by
 obtain⟨T,oc,q,kV,doc,pm,an,g,ct,r,o,n,rfl,lk,p,m,l⟩:=F.ex;intro s b X i;rw[ZV]at i ⊢;exact h s T kV doc pm an g ct o n b X m l i
end
def argsOk:List Bool->Wj->Bool
 |[],[]=>B
 |b :: bs,v :: a=>(if b then v.1 == .fr else GQ v.2)&&argsOk bs a
 |_,_=>R
def lP(c:Nat)(e:List Bool)(g:Mt)(a:Wj):T->Option (T×Val)
 |.obj d ((0,.bl b) :: fs)=>if d=c+1/\dD fs=B/\argsOk e a=B/\aZ (trees a)=B then (g fs (trees a)).bind λz=>if dD z.1=B/\GQ z.2=B then Z (.obj d ((0,.bl b) :: z.1),(.fr,z.2)) else L else L
 |_=>L
noncomputable def bH(i:Nat)(a:List Jm)(c:Nat)(d:List Bool)(g:Mt)(f:Hf)(U:VS.Env):Option (Val×VS.Env):=match (U[i]?:Option (Wk)) with
 |some (some (.ow t))=>(keys a U).bind λe=>(f U).bind λb=>(pm (lP c d g b) e t).map λz=>(z.2,U.set i (Z (.ow z.1)))
 |_=>L
def tX(G:Gx)(x:Xx):TE:=λJ H Q=>∃M U v b,SR G M U J H/\x U=Z (v,b)/\GQ v.2=B/\∀u a d,SR G d b J a->G1 M U H d b a->Rp G a u v.2 []->Q u a
def PX(G:Gx)(X:Cx)(e:Expr)(x:Xx):Prop:=PE X e (tX G x)
theorem jS:∀{mv:List Bool}{a:Wj},argsOk mv a=B->mv.length=a.length
 |[],[],_=>rfl
 |[],_ :: _,h=>by simp[argsOk]at h
 |_ :: _,[],h=>by simp[argsOk]at h
 |b :: bs,v :: d,h=>by
  rw[argsOk,Ze]at h;rw[Zi,Zi,jS h.2]
theorem nR:∀{mv:List Bool}{d:Wj}{Fs:Xl},argsOk mv d=B->(Hw mv Fs).Sublist (HU d Fs)
 |[],[],_,_=>by simp[Hw]
 |[],_ :: _,_,h=>by simp[argsOk]at h
 |_ :: _,[],_,h=>by simp[argsOk]at h
 |b :: bs,v :: e,[],h=>by simp[Hw]
 |b :: bs,(m,t) :: e,F :: Fs,h=>by
  rw[argsOk,Ze]at h;have a:=nR (Fs:=Fs) h.2;rw[Hw];cases b with
  |true =>
   have:m=.fr:=by simpa using h.1
   subst this;exact List.Sublist.append (Xy _) a
  |false =>
   rw[Zn Zc,YG];cases m with
   |fr=>exact a.trans (YT _ _)
   |pu=>exact a
   |bo=>exact a
theorem qq{G:Gx}{H:Hp}:∀{mv:List Bool}{a:Wj}{e:List V}{d:Xl},argsOk mv a=B->RpL G H e (trees a) d->JK mv d=[]
 |[],[],_,_,_,_=>by simp[JK]
 |[],_ :: _,_,_,h,_=>by simp[argsOk]at h
 |_ :: _,[],_,_,h,_=>by simp[argsOk]at h
 |b :: bs,(m,t) :: g,_,_,h,r=>by
  rw[argsOk,Ze]at h;cases r with
  |cons f q =>
   rw[JK,qq h.2 q,ZV];cases b with
   |true=>rfl
   |false=>exact f.GQ (by simpa using h.1)
def uD{M:GV}{U:VS.Env}{H:Hp}{e:List Bool}{d:Wj}{m:Xl}(h:argsOk e d=B)(f:Lw M U H d m):∀a∈Hw e m,H a=L:=λa o=>by
 obtain⟨j,F,g,q,p⟩:=uy o;have key:∀{e:List Bool}{d:Wj}{j:Nat},argsOk e d=B->e[j]?=Z B->∃v,d[j]?=Z v/\v.1=.fr:=by
  intro e
  induction e with
  |nil=>intro d j _ h;simp at h
  |cons b bs n =>
   intro d j h g;cases d with
   |nil=>simp[argsOk]at h
   |cons v r =>
    rw[argsOk,Ze]at h;cases j with
    |zero =>
     simp at g;subst g;exact⟨v,rfl,by simpa using h.1⟩
    |succ j =>
     obtain⟨w,l,i⟩:=n h.2 (by simpa using g);exact⟨w,by simpa using l,i⟩
 obtain⟨v,l,i⟩:=key h g;have:=f.each j v F l q;rw[i]at this;exact this.2 a p
section
variable{G:Gx}{X:Cx}{CX:KH}{i c k k':Nat}{way:List Jm}{o e:Expr}{es:List Expr}{cs:Hf}{m:Str}{f:KM}{fd:P3}{ps:List Str}{mv:List Bool}{g:Mt}{apos pos:Pos}
def rV{J:L2.St}{H:Hp}{Q:VK}{E:XK}{t:TA}(Jq:jV G)(hn:∀k,(G.ct (c+1)).2 k≠m)(ht:∀M U p J H (R:List V->Hp->Prop),SR G M U J H->cs U=Z p->(∀d l P,aC H l->RpL G l d (trees p) P->Lw M U H p P->R d l)->t J H R)(h:tX G (bH i way c mv g cs) J H Q):vt (G.ct (c+1)).1 m (J5 G c mv g) [] E (O5 G i way) t J H Q:=by
 obtain⟨M,U,v,U',s,e,Kw,kq⟩:=h;unfold bH at e;split at e
 ·rename_i t0 N;obtain⟨ks,ek,e3⟩:=Zz.mp e;obtain⟨p,el,e4⟩:=Zz.mp e3;obtain⟨⟨t',x2⟩,e5,e6⟩:=Zy.mp e4;cases e6;obtain⟨v0,h1,h2⟩:=s.rp _ _ N;obtain⟨w,x,F1,x3,w1,w2,w3,q,w5⟩:=m7 ks Jq h2 (s.nd i t0 N) e5;unfold lP at q;split at q
  ·rename_i c1 b fs;split at q
   ·rename_i hc;obtain⟨rfl,K8,O,MT⟩:=hc;obtain⟨⟨Ic,y⟩,eg,e7⟩:=Zz.mp q;split at e7
    ·rename_i K7;cases e7;obtain⟨c',a,dx,b',ns,d,S,P,ec,rfl,eb,rfl,eF,hA,hl,hb,ra⟩:=dj w2;cases ec;cases eb;have Kk:ns.length=S.length:=hl.trans ra.len.1;refine⟨M,U,t0,ks,v0,.ref a,s,N,h1,ek,w1,λH1 F=>⟨a,dx,_,rfl,F a _ hA,?_,?_⟩⟩
     ·have key:∀(ns:Wq)(d:List V),((ns.map (G.ct (c+1)).2).zip d).lookup m=L:=by
       intro ns
       induction ns with
       |nil=>intro d;simp
       |cons n ns ih =>
        intro d;cases d with
        |nil=>simp
        |cons v d =>
         rw[Zo,ZY,Yu];have:(m==(G.ct (c+1)).2 n)=false:=by
          rw[ZK];exact λz=>hn n z.symm
         rw[this];exact ih d
      exact key ns d
     ·refine ht M U p J H1 _ (s.same F) el λus H2 Gs Hv Nj MY=>?_;have A:aC H H2:=F.trans Hv;have V7:Lw M U H p Gs:=⟨λn v' D a1 a2=>(MY.each n v' D a1 a2).back F,MY.nd⟩
      have MB:=uD O V7;have Nk:RpL (G.at (Jb a)) H2 d S P:=(ra.same A).at (Jb a) (d5 Kk K8);refine⟨a,us,ns.zip S,trees p,F1,Gs,Ic,y,by rw[ZV],?_,Nj.at (Jb a) MT,?_,?_,?_,eg,λu l D r ru=>?_⟩
      ·rw[eF];exact .ins (A a _ hA) hl (λ_=>rfl) Nk
      ·rw[jS O];simp[trees]
      ·refine ZR.mpr ⟨w3,MY.nd.sublist (nR O),λj C b2 Kz z=>?_⟩;subst z;exact GT.gV (w2.G3 j C) (MB j Kz)
      ·rw[qq O Nj];exact λj _ z=>nomatch z
      ·have back:Rp G l (.ref a) (.obj (c+1) ((0,.bl b) :: Ic)) D:=by
        obtain⟨c2,a2,R8,b2,N0,PQ,NJ,Sk,LU,M0,Py,OF,M6,MV,Ig,Kz,JJ⟩:=dj r.rp;cases LU;cases M0;subst OF;rw[M6];exact .ins MV Ig hb (JJ.at G.me (d5 (Ig.trans JJ.len.1) K7.1))
       have gG:Chg G H (.ref a) F1 (.obj (c+1) ((0,.bl b) :: Ic)) l D:=⟨(Kept.of A).trans r.kept,λj o1 C Y=>r.keep j o1 (λz=>(Zd.mp z).elim C λz=>by rw[MB j z]at Y;cases Y) (A j o1 Y),λj h=>r.G3 j λz=>h (A.free z),back,r.nd,λj C=>by
        rcases r.sub j C with z | z
        ·rcases Zd.mp z with z | z
         ·exact .inl z
         ·exact .inr (MB j z)
        ·exact .inr (A.free z)⟩
       obtain⟨F2,g2⟩:=w5 l D gG;obtain⟨z1,z2⟩:=s.mut N h1 g2;exact kq u l _ z1 z2 (ru.at G.me (lj y K7.2))
    ·cases e7
   ·cases q
  ·cases q
 ·cases e
def BA{j:Sem Bool}(z:jV G)(q:∀k,(G.ct (c+1)).2 k≠m)(p:JH G X o i way)(v:Ie X.K (G.ct (c+1)).1)(r:Meth X.K (G.ct (c+1)).1 m f)(F:FnOk X.prog X.w X.K X.mg X.base Hk k f fd ps (J5 G c mv g))(n:p0 k' X.A)(u:k<=k')(x:Binds X.K fd ps [])(y:HI G X (e :: es) cs)(C:K1 e es X)(a:K2 pos es X)(l:eval (.Call (.Attribute o m apos) (e :: es) [] pos) X.env=(do
   let b ← eval o X.env
   standAt apos.atName
   let (f,first) ← holding [b] (getMethod b m j)
   callWith pos f first (backTo pos (Pv (e :: es) X.env)) (backToKw pos (SC [] X.env)))):PX G X (.Call (.Attribute o m apos) (e :: es) [] pos) (bH i way c mv g cs) :=
 PE.weak (qo (E:=E0) p v r F (n.mono u) x .nil g6 y C a l) λJ H Q h=>rV (t:=Ni G cs) z q (λM U d J H R s e k=>⟨M,U,d,s,e,k⟩) h
def xQ{d:Sem Bool}(y:jV G)(p:∀k,(G.ct (c+1)).2 k≠m)(n:JH G X o i way)(u:Ie X.K (G.ct (c+1)).1)(q:Meth X.K (G.ct (c+1)).1 m f)(F:FnOk X.prog X.w X.K X.mg X.base Hk k f fd ps (J5 G c mv g))(l:p0 k' X.A)(r:k<=k')(x:Binds X.K fd ps [])(j:eval (.Call (.Attribute o m apos) [] [] pos) X.env=(do
   let a ← eval o X.env
   standAt apos.atName
   let (f,first) ← holding [a] (getMethod a m d)
   callWith pos f first (backTo pos (Pv [] X.env)) (backToKw pos (SC [] X.env)))):PX G X (.Call (.Attribute o m apos) [] [] pos) (bH i way c mv g ag) :=
 PE.weak (ot (E:=E0) n u q F (l.mono r) x .nil g6 j) λJ H Q h=>rV (t:=t8) y p (λM U b J H R s e k=>by
  cases (show Z ([]:Wj)=Z b from e);exact k [] H [] (aC.refl _) .nil ⟨λi v F h=>by simp at h,by simp[HU]⟩) h
def NO(x:Xx):Sx:=λU=>(x U).bind λz=>if GQ z.1.2 then Z (.nx z.2) else L
def cz(j:Nat)(x:Xx):Sx:=λU=>(x U).bind λz=>if GQ z.1.2=B/\j<z.2.length then Z (.nx (z.2.set j (Z (.pu z.1.2)))) else L
def kj(x:Xx):Sx:=λU=>(x U).bind λz=>if GQ z.1.2 then Z (.rt (.fr,z.1.2) z.2) else L
variable{x:Xx}
def qY(h:PX G X e x)(n:swapsWith e L pos.line X.env=pure R):PSV G X (.Expr e pos) (NO x) :=
 PS.weak (kb h n) λD J H b=>by
  obtain⟨M,U,out,s,e,k⟩:=b;unfold NO at e;obtain⟨⟨v,j⟩,e1,e2⟩:=Zz.mp e;split at e2
  ·rename_i d;cases e2;exact⟨M,U,v,j,s,e1,d,λu p l a f r=>k l J p a f⟩
  ·cases e2
def uz(h:PX G X e x):PSV G X (.Return (Z e) pos) (kj x) :=
 PS.weak (p5 h) λD J H d=>by
  obtain⟨M,U,out,s,e,k⟩:=d;unfold kj at e;obtain⟨⟨v,l⟩,e1,e2⟩:=Zz.mp e;split at e2
  ·rename_i j;cases e2;exact⟨M,U,v,l,s,e1,j,λu p n b f r=>k u p [] n J b f r ⟨Yz,λa h=>nomatch h⟩⟩
  ·cases e2
def cu{j:Nat}{d:Str}{b:Pos}(h:PX G X e x)(C:X.N.Nodup)(l:X.N[j]?=Z d)(w:Loc X.env.scope d)(y:swapsWith e (Z (.Name d b)) pos.line X.env=pure R:=by exact rfl)(A:X.fn d=B\/X.env.scope.names.lookup d=Z .local:=by exact .inl Y) :
  PSV G X (.Assign [.Name d b] e pos) (cz j x) :=
 PS.weak (pK C l w h y A) λD J H z=>by
  obtain⟨M,U,out,s,e,k⟩:=z;unfold cz at e;obtain⟨⟨v,E⟩,e1,e2⟩:=Zz.mp e;split at e2
  ·rename_i l;cases e2;refine⟨M,U,v,E,s,e1,l.1,λu n F p f r=>?_⟩;obtain⟨t,q⟩:=p.val (c:=.pu v.2) (m:=.fr) l.2 (aC.refl n) r ⟨Yz,λa h=>nomatch h⟩ (.inl ⟨rfl,by decide⟩);exact k _ _ n t (f.trans q)
  ·cases e2
noncomputable def iZ(i:Nat)(a:List Jm)(k:Ex)(x:Xx):Sx:=λU=>(x U).bind λz=>if GQ z.1.2 then dE i a k (λ_=>Z (.fr,z.1.2)) z.2 else L
def yg{M:GV}{U:VS.Env}{J:L2.St}{H H1:Hp}{t t':T}{ks:List Ky}{mk mv:Md}{p d:T}{y':Unit}{xv:V}{N:Xa}{ck:Ex}{D:L2.St->Hp->Prop}(Jq:jV G)(s:SR G M U J H)(ht:U[i]?=Z (Z (.ow t)))(ek:keys way U=Z ks)(LS:ck U=Z (mk,p))(e5:pm (jF (mk,p) (mv,d)) ks t=Z (t',y'))(Io:aC H H1)(rv:Rp G H1 xv d N)(fv:Fp M U H mv N)(k:∀M' H',SR G M' (U.set i (Z (.ow t'))) J H'->G1 M U H M' (U.set i (Z (.ow t'))) H'->D J H'):FW (O5 G i way) (tE G ck) BH xv J H1 D:=by
   obtain⟨v,g1,g2⟩:=s.rp _ _ ht;obtain⟨w,x,F1,x3,w1,w2,w3,P,w5⟩:=m7 ks Jq g2 (s.nd i t ht) e5;refine⟨M,U,t,ks,v,w,s.same Io,ht,g1,ek,w1.same Io,λH2 Hv=>⟨M,U,mk,p,(s.same Io).same Hv,LS,λkv q Fk Ir rk fk=>?_⟩⟩;have A:aC H q:=(Io.trans Hv).trans Ir;have Lk:Rp G q xv d N:=(rv.same Hv).same Ir;have fin:∀S O,Chg G H w F1 x3 S O->D J S:=λS O g=>by
    obtain⟨F2,Mj⟩:=w5 S O g;obtain⟨z1,z2⟩:=s.mut ht g1 Mj;exact k _ S z1 z2
   refine L2.jy λP_ k_=>?_;cases x with
   |lst l =>
    cases p with
    |int n =>
     obtain⟨tt,et,e7⟩:=Zz.mp (show ((fit (mv,d)).bind λt=>(HJ l.length n).map λj=>(T.lst (l.set j t),()))=Z (x3,y') from P);obtain⟨j,ej,e8⟩:=Zy.mp e7;cases e8;have em:=kJ et;cases em;obtain⟨a,y,Fs,rfl,rfl,Y,C⟩:=w2.lst_inv;have Q:q a=Z (.lst y):=A a _ Y;have nd:=Zg.mp w3;have na:a∉N:=λz=>by rw[fv.2 a z]at Y;cases Y
     have E:GT (q a):=by rw[Q];exact True.intro
     have off:∀b∈Fs.flatten,b∉N:=λb hb hv=>GT.gV (C.G3 b hb) (fv.2 b hv);refine k_ ?_;refine .inl ⟨a,y,n,j,rfl,rk.int_inv,Q,by rw[← tH,C.len.1];exact ej,fin _ (a :: (Fs.set j N).flatten) ?_⟩;have keep:∀{u:V}{x:T}{F:Xa},Rp G q u x F->a∉F->Rp G (upd q a (.lst (y.set j xv))) u x F:=λr hn=>r.keep (Kept.upd (.inl E)) λb hb o' JA=>by rw[ax (λz=>hn (by rw[← z];exact hb))];exact JA
     refine Chg.upd A Zv E (.lst au ((((C.same A).off E nd.1)).putAt j (keep Lk na))) ?_ ?_
     ·rw[Zg];refine⟨λh=>?_,eJ nd.2 fv.1 λi' O _ hi b hb=>off b (cO hi hb)⟩;rcases cQ h with z | ⟨i',O,_,h1,h2⟩
      ·exact na z
      ·exact nd.1 (cO h1 h2)
     ·intro b hb;rcases Zp.mp hb with rfl | hb
      ·exact .inl Zv
      ·rcases cQ hb with z | ⟨i',O,_,h1,h2⟩
       ·exact .inr (fv.2 b z)
       ·exact .inl (Zw _ (cO h1 h2))
    |_=>cases P
   |dct kd l =>
    cases kd with
    |zero =>
     have hc:(iG p=B/\GQ d=B/\l.length<eO)/\x3=.dct 0 (dput l p d):=by
      have Mw:(if iG p/\GQ d/\l.length<eO then Z (T.dct 0 (dput l p d),()) else L)=Z (x3,y'):=P;split at Mw
      ·rename_i hc;cases Mw;exact⟨hc,rfl⟩
      ·cases Mw
     obtain⟨⟨c1,c2,c3⟩,rfl⟩:=hc;have eF:=Lk.GQ c2;subst eF;obtain⟨a,ns,y,ts,Fs,rfl,rfl,Y,hl,rfl,C⟩:=fh w2;obtain⟨kk,rfl,Le⟩:=dW rk c1;subst Le;have Q:q a=Z (.dK (ns.zip y)):=A a _ Y;have E:GT (q a):=by rw[Q];exact True.intro
     have nd:=Zg.mp w3;obtain⟨MF,Iz,HG,Il,q1,q2,q3,q4,q5⟩:=pT (kk:=kk) Lk hl (C.same A);have ln:(ns.zip y).length<sizeLine:=by
      have:((ns.map aN).zip ts).length<16777216:=c3;rw[Z7,Zu]at this;rw[Z7];have:=C.len.1;have:(KF:Nat)=16777216:=rfl;lia
     refine k_ ?_;refine .inr ⟨a,_,rfl,t9.k Q ln,fin _ (a :: Il.flatten) ?_⟩;rw[q1,q3];refine Chg.upd A Zv E (.dct au q2 (q4.off E λz=>nd.1 (q5.subset z))) ?_ ?_
     ·exact Zg.mpr ⟨λz=>nd.1 (q5.subset z),nd.2.sublist q5⟩
     ·intro b hb;rcases Zp.mp hb with rfl | hb
      ·exact .inl Zv
      ·exact .inl (Zw _ (q5.subset hb))
    |succ n=>cases P
   |_=>cases P
def pJ{w:Nat}{b:Expr}{l:Ex}{d:Pos}(Jq:jV G)(C:p0 w X.A)(F:JH G X o i way)(N:PV G X b l)(P:PX G X e x)(Q:∀v,assign (.Subscript o b d) X.env v=(do
   let j ← holding [v] (eval o X.env)
   let iv ← holding [v,j] (eval b X.env)
   standAt d
   holding [v,j,iv] (setItem j iv v)
   release [v,j,iv] []))(z:swapsWithSole [.Subscript o b d] e pos.line X.env=pure R)(hw:swappedStores [.Subscript o b d] e X.env=pure L)(S:(assignEach [.Subscript o b d] X.env).map (·.2)=[assign (.Subscript o b d) X.env]):PSV G X (.Assign [.Subscript o b d] e pos) (iZ i way l x) :=
 PS.weak (tZ P (tU F N (wL (ke C)) Q) z hw S) λD J H E=>by
  obtain⟨M,U,out,s,e,k⟩:=E;unfold iZ at e;obtain⟨⟨v,U'⟩,e1,e2⟩:=Zz.mp e;split at e2
  ·rename_i O;refine⟨M,U,v,U',s,e1,O,λu H' M' q f r=>?_⟩;unfold dE at e2;obtain⟨⟨mv,tv⟩,ev,e2⟩:=Zz.mp e2;cases ev;split at e2
   ·rename_i t y;obtain⟨ks,Y,e2⟩:=Zz.mp e2;obtain⟨⟨mk,tk⟩,LS,e2⟩:=Zz.mp e2;obtain⟨⟨t',y'⟩,e5,e6⟩:=Zy.mp e2;cases e6;exact yg Jq q y Y LS e5 (aC.refl H') r (mv:=.fr) ⟨Yz,λa h=>nomatch h⟩ λM2 H2 p n=>k _ J H2 p (f.trans n)
   ·cases e2
  ·cases e2
end
end VS
end
section
namespace L2
open PySem PySem.Spec PyProof.Rows
def tj{X:Cx}:d6 X (.type "dict") (λf H Q=>∃(d:KM)(a:List (Key×V)),f=[.ref d]/\H d=Z (.dK a)/\∀l,H l=L->Q (.ref l) (upd H l (.dK a))):=by
 intro g s J H f w Q I m h;obtain⟨d,a,rfl,hd,q⟩:=h;obtain⟨u,rfl,n⟩:=m.one;cases n;obtain⟨i,t,v,rel,p⟩:=qW I.GN hd;refine PySem.kt_call_dict t p (by rw[← Y7 rel];exact i) λx r j=>?_;exact⟨.ref s.heap.objs.size,_,I.laid (t':=s.toks) (λb o e=>(j.2 b (Zb (ZX e))).trans (Zk _ e)) (Zj _) (qB i (ZK.mpr (Yi (Zb I.big))) rel r),rfl,q _ (I.GN.fresh (Zj _))⟩
end L2
namespace VS
open PySem PySem.Spec PyProof.Rows L2
def lH:Wj->Wi
 |[(_,.dct 0 l)]=>if eQ (l.map (·.2))=B then Z (.fr,.dct 0 l) else L
 |_=>L
section
variable{G:Gx}{X:Cx}{a b e o:Expr}{ca cb ce:Ex}{cs:Hf}{p pos oe apos:Pos}{k kr:Nat}
def yU:fF G (λs H Q=>∃(d:KM)(n:List (Key×V)),s=[.ref d]/\H d=Z (.dK n)/\∀l,H l=L->Q (.ref l) (upd H l (.dK n))) lH:=by
 intro M U N H l u D m t Q A e k;unfold lH at e;split at e
 ·rename_i J x;split at e
  ·rename_i j;cases e;obtain⟨v,F,rfl,rfl,r⟩:=(show RpL G H u [.dct 0 x] D from A.rp).one;obtain⟨a,ns,w,E,C,rfl,rfl,y,i,rfl,f⟩:=fh r;refine⟨a,_,rfl,y,λq h=>?_⟩;have g:aC H (upd H q (.dK (ns.zip w))):=br h;rw[List.map_snd_zip (by rw[Zu,i,f.len.1];exact Zj _)]at j;have z:=f.GQ j;refine k _ _ (q :: C.flatten) g (.dct au i (f.same g)) ?_;rw[z];exact Fp.new (A.same.free h) (by simp) Fp.nil
  ·cases e
 ·cases e
def zV(d:X.mg "dict" = L)(g:HI G X [e] cs)(f:Gl X "dict")(he:K1 e [] X):PV G X (.Call (.Name "dict" p) [e] [] pos) (eN lH cs) :=
 jh tj yU f d uC g (he:=he) (hpl:=rfl)
def CV{i d:Int}{j h:Nat}{q g:Pos}:PV G X (.Dict [Z (.Constant (.int i) j q)] [.Constant (.int d) h g] pos) (rn 0 [(Q2 i,Q2 d)]) :=
 PE.weak (Ar (zi pX pX AV) Y Y (by simp) (by show 1<=15;decide)) λJ H Q l=>by
  obtain⟨M,U,m,r,s,e,k⟩:=l;cases (show Z (Md.fr,T.dct 0 [(.int i,.int d)])=Z (m,r) from e);intro p f;refine⟨au,[(Sum.inl i,.int d)],rfl,(by show 1<=15;decide),?_⟩;rw[Br];have:Rp G (upd H p (.dK [(Sum.inl i,V.int d)])) (.ref p) (.dct 0 ((([Sum.inl i]:List Key).map aN).zip [.int d])) (p :: ([[]]:Xl).flatten) :=
   .dct (ks:=[Sum.inl i]) (vs:=[V.int d]) au Y (.cons (.int d) .nil)
  exact k _ _ _ (br f) this ⟨by simp,λb hb=>by simp at hb;rw[hb];exact f⟩
def vM(x y:Val):Wi:=match x.2 with
 |.dct 0 l=>if iG y.2 then Z (match fD l y.2 with | some t=>sub x.1 t | none=>(.fr,.non)) else none
 |_=>L
def w_get(N:p0 kr X.A)(P:PV G X o ca)(he:PV G X e cb)(G4:UV o "get" X.env (eval o X.env)=eval o X.env)(Hj:((backTo oe (Pv [e] X.env)).all (λx=>!x.1)&&(backToKw oe (SC [] X.env)).all (λx=>x.1.isSome)
   && decide (([e]:List Expr).length+([]:List Keyword).length+(if ([]:List Keyword).isEmpty then 0 else 1)<30))=B)(GZ:(apos.endLine==oe.line)=B)(Ve:backTo oe (Pv [e] X.env)=[(R,eval e X.env)]):PV G X (.Call (.Attribute o "get" apos) [e] [] oe) (e2 vM ca cb) :=
 PE.weak (yi (ke N) P he ⟨G4,Hj,GZ,Ve⟩) λJ H Q O=>by
  obtain⟨M,U,m,r,s,e,t⟩:=O;unfold e2 at e;obtain⟨⟨D,x⟩,ea,e⟩:=Zz.mp e;obtain⟨⟨C,y⟩,eb,e⟩:=Zz.mp e;unfold vM at e;split at e
  ·rename_i l u;dsimp only at u;subst u;split at e
   ·rename_i Y;have d:=Zm e;refine⟨M,U,D,_,s,ea,λv H1 F1 n r1 f1=>?_⟩;obtain⟨a,ks,vs,ts,Fs,rfl,rfl,h,S,rfl,q⟩:=fh r1;refine⟨a,rfl,.inl ⟨_,.inl h⟩,M,U,C,y,s.same n,eb,λv2 w F2 g r2 f2=>?_⟩;obtain⟨E,rfl,ek⟩:=dW r2 Y;dsimp only at d;rw[ek]at d;rcases kz (k:=E) S (q.same g) with⟨h1,h2⟩ | ⟨i,v,z,F,a1,a2,a3,a4,j⟩
    ·rw[h1]at d;cases d;refine⟨_,h9.k (g a _ h),?_⟩;rw[h2];exact t .non w [] (n.trans g) .non Fp.nil
    ·rw[a1]at d;refine⟨_,h9.k (g a _ h),?_⟩;rw[a2];have f:=((f1.sub (Yw _ _)).sub (cH a4)).up j;unfold VS.sub at d;dsimp only at d;rw[d]at f;have et:z=r:=congrArg Prod.snd d;rw[et]at j;exact t v w F (n.trans g) j f
   ·cases e
  ·cases e
def pE(x y:Val):Wi:=match x.2 with
 |.dct 3 l=>if iG y.2 then (fD l y.2).map (sub x.1) else L
 |_=>L
def r6{H:Hp}{v:V}{l:List (T×T)}{F:Xa}(r:Rp G H v (.dct 3 l) F):∃(a:KM)(o:Obj)(f:List Key)(d:List V)(g:Wh)(j:Xl),v=.ref a/\F=j.flatten/\H a=Z (.frz o (.dK (f.zip d)))/\f.length=d.length/\l=(f.map aN).zip g/\RpL G H d g j:=by
 generalize i:T.dct 3 l=z at r;cases r with
 |dctZ h m q=>cases i;exact⟨_,_,_,_,_,_,rfl,rfl,h,m,rfl,q⟩
 |_=>cases i
def CN:fE G (Fz G.K) pE:=by
 intro M U H0 H x y u w F1 F2 m t Q d e k;obtain⟨S,x⟩:=x;unfold pE at e;split at e
 ·rename_i l h;dsimp only at h;subst h;split at e
  ·rename_i r;obtain⟨P,e1,e2⟩:=Zy.mp e;obtain⟨a,o,Y,J,N,Fs,rfl,rfl,s,n,rfl,q⟩:=r6 d.r1;obtain⟨g,rfl,A⟩:=dW d.r2 r;rw[A]at e1;rcases kz (k:=g) n q with⟨z,_⟩ | ⟨i,v,O,F,E,D,a3,C,j⟩
   ·rw[z]at e1;cases e1
   ·rw[E]at e1;cases e1;cases e2;refine .inr ⟨a,v,rfl,.inl ⟨_,g,.inr ⟨o,s⟩,rfl,D.symm⟩,?_⟩;have f:=(d.f1.sub (cH C)).up j;exact k v H F (aC.refl _) j f
  ·cases e
 ·cases e
def BS(f:p0 kr X.A)(i:PV G X a ca)(g:PV G X b cb)(d:gQ b)(j:X.K=G.K):PV G X (.Subscript a b pos) (e2 pE ca cb) :=
 PE.weak (mV (Iq.or jJ (pY (ke f))) i g d) λJ H Q h=>by rw[j];exact nS CN h
end
def eNew(c:Nat)(g:Mt)(b:Hf):Ex:=λU=>(b U).bind λa=>if aZ (trees a)=B then (g [] (trees a)).bind λz=>if dD z.1=B/\MH z.2=B then Z (.fr,.obj (c+1) ((0,.bl R) :: z.1)) else L else L
def fA(c:Nat)(g:Fn)(d:Ex)(b:Hf):Ex:=λU=>(d U).bind λx=>match x.2 with
 |.obj e (_ :: _)=>if e=c+1 then (b U).bind λa=>(g (x.2 :: trees a)).bind λr=>match r.1 with
  |.fr=>Z r
  |_=>L else L
 |_=>L
theorem yS{α:Type}:∀(l:List α)(a:Xl),Hw (l.map λ_=>R) a=[]
 |[],_=>by simp[Hw]
 |_ :: _,[]=>by simp[Hw]
 |_ :: l,F :: a=>by
  rw[Zo,Hw,Zn Zc,YG];exact yS l a
theorem tq:∀(mv:List Bool)(d:Xl),∀a∈JK mv d,a∈d.flatten
 |[],_,a,h=>by simp[JK]at h
 |_ :: _,[],a,h=>by simp[JK]at h
 |b :: bs,F :: d,a,h=>by
  rw[JK]at h;rw[ZW];rcases Zd.mp h with h | h
  ·cases b with
   |true=>simp at h
   |false=>exact ZD _ (by simpa using h)
  ·exact ZQ _ (tq bs d a h)
section
variable{G:Gx}{X:Cx}{i c k k':Nat}{o e:Expr}{es:List Expr}{cs:Hf}{ca:Ex}{m x:Str}{f:KM}{fd:P3}{ps:List Str}{g:Mt}{h:Fn}{apos pos p:Pos}
def uJ{G:Gx}{H:Hp}{u:V}{t:T}{F:Xa}(r:Rp G H u t F)(h:MH t=B):u=.non:=by
 cases r with
 |non=>rfl
 |_=>cases h
def xf{J:L2.St}{H:Hp}{Q:VK}{E:XK}{t:TA}(F:∀n,FnOk X.prog X.w X.K X.mg X.base Hk k f fd ps (J5 G c (List.replicate n false) g)->True)(ht:∀M U d J H (R:List V->Hp->Prop),SR G M U J H->cs U=Z d->(∀vs j Fs,aC H j->RpL G j vs (trees d) Fs->Lw M U H d Fs->R vs j)->t J H R)(n:Nat)(hn:∀U d,cs U=Z d->d.length=n)(hq:tE G (eNew c g cs) J H Q):zm (G.ct (c+1)).1 (J5 G c (List.replicate n false) g) [] E t J H Q:=by
 obtain⟨M,U,mo,r,s,e,kq⟩:=hq;unfold eNew at e;obtain⟨d,el,e1⟩:=Zz.mp e;split at e1
 ·rename_i MT;obtain⟨⟨Ic,y⟩,eg,e2⟩:=Zz.mp e1;split at e2
  ·rename_i hc;cases e2;have lx:=hn U d el;refine ht M U d J H _ s el λvs S Gs O NR Px a A D Rt ne=>?_;have Tj:H a=L:=O.free D;have P:aC S (upd (upd S A (.own a)) a (.ins (G.ct (c+1)).1 A [])):=λb v q=>by
    rw[ax (λz=>by rw[z,D]at q;cases q),ax (λz=>by rw[z,Rt]at q;cases q)];exact q
   have em:List.replicate n false=(List.range n).map λ_=>false:=by rw[List.map_const',ZI]
   have N:Hw (List.replicate n false) Gs=[]:=by rw[em];exact yS _ _
   have fresh:∀b,(upd (upd S A (.own a)) a (.ins (G.ct (c+1)).1 A [])) b=L->H b=L:=λb z=>O.free (P.free z);refine⟨a,vs,[],trees d,[a],Gs,Ic,y,by rw[ZV],.ins (ks:=[]) (vs:=[]) (ts:=[]) (Fs:=[]) au Y (λ_=>rfl) .nil,(NR.same P).at (Jb a) MT,?_,?_,?_,eg,λu j F' l ru=>⟨uJ ru hc.2,?_⟩⟩
   ·simp[trees,lx]
   ·rw[N];simp
   ·rw[N];intro b hb C;have:b=a:=by simpa using hb
    subst this;exact GT.gV (NR.G3 b (tq _ _ b C)) D
   ·rw[N,ZV]at l;have back:Rp G j (.ref a) (.obj (c+1) ((0,.bl false) :: Ic)) F':=by
     obtain⟨c2,a2,R8,b2,N0,PQ,NJ,Sk,LU,M0,Py,OF,M6,MV,Ig,Kz,JJ⟩:=dj l.rp;cases LU;cases M0;subst OF;rw[M6];exact .ins MV Ig (λz=>nomatch z) (JJ.at G.me (d5 (Ig.trans JJ.len.1) hc.1))
    refine kq (.ref a) j F' (λb v q=>l.keep b v (λz=>?_) (P b v (O b v q))) back ⟨l.nd,λb hb=>?_⟩
    ·have:b=a:=by simpa using z
     rw[this,Tj]at q;cases q
    ·rcases l.sub b hb with z | z
     ·have:b=a:=by simpa using z
      rw[this];exact Tj
     ·exact fresh b z
  ·cases e2
 ·cases e1
def FR(n:Nat)(z:Mk X.K (G.ct (c+1)).1 f)(F:FnOk X.prog X.w X.K X.mg X.base Hk k f fd ps (J5 G c (List.replicate n false) g))(d:p0 k' X.A)(q:k+1<=k')(r:Gl X x)(l:X.mg x=Z (.ref (G.ct (c+1)).1))(v:Binds X.K fd ps [])(y:HI G X (e :: es) cs)(j:∀U a,cs U=Z a->a.length=n)(C:K3 x)(u:K1 e es X)(b:K2 pos es X):PV G X (.Call (.Name x p) (e :: es) [] pos) (eNew c g cs) :=
 PE.weak (uO (E:=E0) z F (d.mono q) r l v .nil g6 y C u b) λJ H Q h=>xf (X:=X) (k:=k) (f:=f) (fd:=fd) (ps:=ps) (t:=Ni G cs) (λ_ _=>True.intro) (λM U a J H R s e k=>⟨M,U,a,s,e,k⟩) n j h
def Dc(q:Mk X.K (G.ct (c+1)).1 f)(F:FnOk X.prog X.w X.K X.mg X.base Hk k f fd ps (J5 G c [] g))(b:p0 k' X.A)(j:k+1<=k')(l:Gl X x)(d:X.mg x=Z (.ref (G.ct (c+1)).1))(n:Binds X.K fd ps [])(r:K3 x):PV G X (.Call (.Name x p) [] [] pos) (eNew c g ag) :=
 PE.weak (yH (E:=E0) q F (b.mono j) l d n .nil g6 r) λJ H Q h=>xf (X:=X) (k:=k) (f:=f) (fd:=fd) (ps:=ps) (t:=t8) (λ_ _=>True.intro) (λM U a J H R s e k=>by
  cases (show Z ([]:Wj)=Z a from e);exact k [] H [] (aC.refl _) .nil ⟨λi v F h=>by simp at h,by simp[HU]⟩) 0 (λU a e=>by
  cases (show Z ([]:Wj)=Z a from e);rfl) h
theorem qy{g:Nat->Str}(b:∀k,g k≠m):∀(ns:Wq)(a:List V),((ns.map g).zip a).lookup m=L
 |[],a=>by simp
 |_ :: _,[]=>by simp
 |n :: ns,v :: a=>by
  rw[Zo,ZY,Yu];have:(m==g n)=R:=by
   rw[ZK];exact λz=>b n z.symm
  rw[this];exact qy b ns a
def u4{J:L2.St}{H:Hp}{Q:VK}{E:XK}{t:TA}(hn:∀k,(G.ct (c+1)).2 k≠m)(S:∀M U d J H (R:List V->Hp->Prop),SR G M U J H->cs U=Z d->(∀l j A,aC H j->RpL G j l (trees d) A->Lw M U H d A->R l j)->t J H R)(Y:tE G (fA c h ca cs) J H Q):vt (G.ct (c+1)).1 m (Ja G h) [] E (tE G ca) t J H Q:=by
 obtain⟨M,U,mo,r,s,e,P⟩:=Y;unfold fA at e;obtain⟨⟨O,y⟩,ea,e1⟩:=Zz.mp e;split at e1
 ·rename_i c' q0 fs C;dsimp only at C;subst C;split at e1
  ·rename_i hc;subst hc;obtain⟨d,el,e2⟩:=Zz.mp e1;obtain⟨⟨n,N⟩,eg,q⟩:=Zz.mp e2;refine⟨M,U,O,_,s,ea,λv H1 F1 w r1 f1=>?_⟩;obtain⟨c2,a,dx,b,ns,l,ts,A,ec,rfl,eb,ef,eF,hA,hl,hb,ra⟩:=dj r1;cases ec;refine⟨a,dx,_,rfl,hA,qy hn _ _,S M U d J H1 _ (s.same w) el λus H2 Gs z Nj MY=>?_⟩;rw[ZV];refine⟨_ :: trees d,F1 :: Gs,n,N,.cons (r1.same z) Nj,eg,λu j F' Ir F D=>?_⟩;cases n with
   |fr =>
    cases q;exact P u j F' ((w.trans z).trans Ir) F ⟨D.1,λb hb=>w.free (z.free (D.2 b hb))⟩
   |pu=>cases q
   |bo=>cases q
  ·cases e1
 ·cases e1
def Dd{j:Sem Bool}(u:∀k,(G.ct (c+1)).2 k≠m)(r:PV G X o ca)(z:Ie X.K (G.ct (c+1)).1)(v:Meth X.K (G.ct (c+1)).1 m f)(F:FnOk X.prog X.w X.K X.mg X.base Hk k f fd ps (Ja G h))(n:p0 k' X.A)(y:k<=k')(C:Binds X.K fd ps [])(D:HI G X (e :: es) cs)(N:K1 e es X)(a:K2 pos es X)(l:eval (.Call (.Attribute o m apos) (e :: es) [] pos) X.env=(do
   let b ← eval o X.env
   standAt apos.atName
   let (f,first) ← holding [b] (getMethod b m j)
   callWith pos f first (backTo pos (Pv (e :: es) X.env)) (backToKw pos (SC [] X.env)))):PV G X (.Call (.Attribute o m apos) (e :: es) [] pos) (fA c h ca cs) :=
 PE.weak (qo (E:=E0) r z v F (n.mono y) C .nil g6 D N a l) λJ H Q q=>u4 (t:=Ni G cs) u (λM U d J H R s e k=>⟨M,U,d,s,e,k⟩) q
def z9{d:Sem Bool}(r:∀k,(G.ct (c+1)).2 k≠m)(n:PV G X o ca)(z:Ie X.K (G.ct (c+1)).1)(u:Meth X.K (G.ct (c+1)).1 m f)(F:FnOk X.prog X.w X.K X.mg X.base Hk k f fd ps (Ja G h))(l:p0 k' X.A)(y:k<=k')(C:Binds X.K fd ps [])(j:eval (.Call (.Attribute o m apos) [] [] pos) X.env=(do
   let a ← eval o X.env
   standAt apos.atName
   let (f,first) ← holding [a] (getMethod a m d)
   callWith pos f first (backTo pos (Pv [] X.env)) (backToKw pos (SC [] X.env)))):PV G X (.Call (.Attribute o m apos) [] [] pos) (fA c h ca ag) :=
 PE.weak (ot (E:=E0) n z u F (l.mono y) C .nil g6 j) λJ H Q q=>u4 (t:=t8) r (λM U b J H R s e k=>by
  cases (show Z ([]:Wj)=Z b from e);exact k [] H [] (aC.refl _) .nil ⟨λi v F h=>by simp at h,by simp[HU]⟩) q
end
noncomputable def ng(i:Nat)(a:List Jm)(j:Nat)(U:VS.Env):Option Out:=match (U[i]?:Option (Wk)),(U[j]?:Option (Wk)) with
 |some (some (.ow t)),some (some (.ow u))=>if i≠j then (keys a U).bind λb=>(pm (λx=>aF x [(.fr,u)]) b t).map λz=>.nx ((U.set j L).set i (Z (.ow z.1))) else L
 |_,_=>L
open Classical in
def less(H:Hp)(F:Xa):Hp:=λb=>if b∈F then L else H b
section
variable{G:Gx}{X:Cx}{i j:Nat}{way:List Jm}{o:Expr}{y:Str}{apos oe pos p1:Pos}
def pV{H:Hp}{F:Xa}{b:KM}(h:b∈F):less H F b=L:=Zq h
def hU{H:Hp}{F:Xa}{b:KM}(h:b∉F):less H F b=H b:=Zn h
def g7{H:Hp}{F:Xa}{b:KM}{o:HO}(h:less H F b=Z o):H b=Z o/\b∉F:=by
 by_cases q:b∈F
 ·rw[pV q]at h;cases h
 ·rw[hU q]at h;exact⟨h,q⟩
def vy{H:Hp}{F:Xa}(h:∀b∈F,GT (H b)):Kept H (less H F) :=
 ⟨λb a e=>by
  rw[hU (λz=>by have:=h b z;rw[e]at this;exact this)];exact e,λb o u e=>by
  rw[hU (λz=>by have:=h b z;rw[e]at this;exact this)];exact e⟩
def As(Jq:jV G)(ho:JH G X o i way)(hK:X.K=G.K)(hN:X.N[j]?=Z y)(hv:IG X.env.scope y)(hd:K3 y)(hcd:K4 y)(G4:UV o "append" X.env (eval o X.env)=eval o X.env)(Hj:((backTo oe (Pv [.Name y p1] X.env)).all (λx=>!x.1)&&(backToKw oe (SC [] X.env)).all (λx=>x.1.isSome)
   && decide ([Expr.Name y p1].length+([]:List Keyword).length+(if ([]:List Keyword).isEmpty then 0 else 1)<30))=B)(GZ:(apos.endLine==oe.line)=B)(hs:Pv [.Name y p1] X.env=(R,eval (.Name y p1) X.env) :: Pv [] X.env)(GY:(backTo oe (Pv [] X.env)).any (·.1)=R)(Jc:swapsWith (.Call (.Attribute o "append" apos) [.Name y p1] [] oe) L pos.line X.env=pure R) :
  PSV G X (.Expr (.Call (.Attribute o "append" apos) [.Name y p1] [] oe) pos) (ng i way j) :=
 PS.weak (kb (rD Y5 Xc Xd jo ho (bA (fJ hN hv hd hcd) dv hs) G4 Hj GZ hs GY) Jc) λD J H hq=>by
  obtain⟨M,U,out,s,e,k⟩:=hq;unfold ng at e;split at e
  ·rename_i t u ht O;split at e
   ·rename_i Rl;obtain⟨r,ek,e3⟩:=Zz.mp e;obtain⟨⟨Y,x2⟩,e5,e6⟩:=Zy.mp e3;cases e6;obtain⟨S,j1,j2⟩:=s.rp _ _ O;have SW:Rp G H S u (M j):=j2;have UQ:=s.nd j u O;have mj:∀b∈M j,GT (H b):=SW.G3;have kp:=vy mj;have P1:∀f F,f≠j->U[f]?=Z (Z F)->∀b∈M f,b∉M j:=λf F n h b hb C=>s.sep j f u F O h (Yi n) b C hb;have s0:SR G M (U.set j L) J (less H (M j)):=⟨(s.drop j).len,λf F h=>by
     obtain⟨n,h'⟩:=cW h;obtain⟨v,h1,h2⟩:=s.rp f F h';exact⟨v,h1,h2.keep kp λb hb d Nq=>by rw[hU (P1 f F n h' b hb)];exact Nq⟩,(s.drop j).nd,(s.drop j).sep⟩
    have QU:(U.set j L)[i]?=Z (Z (.ow t)):=by
     rw[Yr (Yi Rl)];exact ht
    obtain⟨v,h1,h2⟩:=s0.rp _ _ QU;obtain⟨w,x,F1,x3,w1,w2,w3,Q,w5⟩:=m7 r Jq h2 (s0.nd i t QU) e5;unfold aF at Q;split at Q
    ·rename_i l yv heq;cases heq;obtain⟨z,ez,e7⟩:=Zz.mp Q;cases (show Z u=Z z from ez);split at e7
     ·rename_i hl;cases e7;obtain⟨a,us,Gs,rfl,rfl,ha,ra⟩:=w2.lst_inv;obtain⟨Rz,Tf⟩:=g7 ha;have Uh:Ik G H r v (.ref a):=by
       have:∀{r:List Ky}{v w:V},Ik G (less H (M j)) r v w->Ik G H r v w:=by
        intro r v w p
        induction p with
        |nil v=>exact .nil v
        |fld h l _ A=>exact .fld (g7 h).1 l A
        |ix h l m _ A=>exact .ix (g7 h).1 l m A
        |key h l _ A=>exact .key (g7 h).1 l A
        |un _ A=>exact .un A
       exact this w1
      refine⟨M,U,t,r,v,.ref a,s,ht,h1,ek,Uh,λH0 E=>⟨.inl ⟨rfl,us,by rw[hK];exact GW.of (E a _ Rz)⟩,S,j1,a,us,S,rfl,rfl,E a _ Rz,by rw[ra.len.1];exact hl,?_⟩⟩;have m0:GT (H0 a):=by rw[E a _ Rz];exact True.intro
      have N6:=Zg.mp w3;have Qu:∀b∈Gs.flatten,b∉M j:=λb hb C=>by
       have:=ra.G3 b hb;rw[pV C]at this;exact this
      have P:∀b d,less H (M j) b=Z d->H0 b=Z d:=λb d h=>E b d (g7 h).1;have kl:Kept (less H (M j)) H0:=⟨λb xs h=>P b _ h,λb d u h=>P b _ h⟩
      have g:Chg G (less H (M j)) (.ref a) (a :: Gs.flatten) (.lst (l++[u])) (upd H0 a (.lst (us++[S]))) (a :: (Gs++[M j]).flatten):=by
       refine⟨kl.trans (Kept.upd (.inl m0)),λb d hb h=>by rw[ax (λz=>hb (by rw[z];exact Zv))];exact P b d h,λb h z=>?_,.lst au ((RpL.off (ra.keep kl λb hb d h=>P b d h) m0 N6.1).append (.cons (((SW.same E)).keep (Kept.upd (.inl m0)) λb hb d ho=>by rw[ax (λz=>Tf (by rw[← z];exact hb))];exact ho) .nil)),?_,λb hb=>?_⟩
       ·by_cases q:b=a
        ·rw[q,au]at z;cases z
        ·rw[ax q]at z;cases e:less H (M j) b with
         |none=>exact h e
         |some d=>rw[P b d e]at z;cases z
       ·rw[Z4];refine Zg.mpr ⟨λm=>?_,ZR.mpr ⟨N6.2,by simpa using UQ,λb hb c hc z=>?_⟩⟩
        ·rcases Zd.mp m with m | m
         ·exact N6.1 m
         ·exact Tf (by simpa using m)
        ·subst z;exact Qu b hb (by simpa using hc)
       ·rcases Zp.mp hb with rfl | hb
        ·exact .inl Zv
        ·rw[Z4]at hb;rcases Zd.mp hb with hb | hb
         ·exact .inl (Zw _ hb)
         ·exact .inr (pV (by simpa using hb))
      obtain⟨F2,g2⟩:=w5 _ _ g;obtain⟨z1,z2⟩:=s0.mut QU h1 g2;have back:∀b,less H (M j) b=L->bK M U b\/H b=L:=λb h=>by
       by_cases q:b∈M j
       ·exact .inl ⟨j,u,O,q⟩
       ·rw[hU q]at h;exact .inr h
      have Kj:∀b,bK M (U.set j L) b->bK M U b:=λb ⟨j',Y,q1,q2⟩=>⟨j',Y,(cW q1).2,q2⟩
      have UI:∀b,cT M (U.set j L) b->cT M U b:=λb ⟨j',Y,q1,q2⟩=>⟨j',Y,(cW q1).2,q2⟩
      refine k _ J _ z1 ⟨λb d h n=>?_,λb h z=>?_,λb h=>?_,λb h=>?_,(Kept.of E).trans (Kept.upd (.inl m0))⟩
      ·have nj:b∉M j:=λz=>n ⟨j,u,O,z⟩;exact z2.keep b d (by rw[hU nj];exact h) λz=>n (Kj b z)
      ·by_cases q:b=a
       ·rw[q,au]at z;cases z
       ·rw[ax q]at z;exact h (E.free z)
      ·rcases z2.ow b h with h | h
       ·exact .inl (Kj b h)
       ·exact back b h
      ·rcases z2.pu b h with h | h | h
       ·exact .inl (UI b h)
       ·exact .inr (.inl (Kj b h))
       ·exact(back b h).elim (λz=>.inr (.inl z)) λz=>.inr (.inr z)
     ·cases e7
    ·cases Q
   ·cases e
  ·cases e
end
end VS
end
section
namespace VS
open PySem PySem.Spec PyProof.Rows L2
def isInt:T->Bool
 |.int _=>B
 |_=>R
def rK(i:Nat):JI:=λU=>match (U[i]?:Option (Wk)) with
 |some (some (.pu (.dct 3 l)))=>if (l.all λp=>isInt p.1)=B then Z (.fr,l.map (·.1)) else L
 |_=>L
def xV(i:Nat)(a:Tg)(b:Ex):Sx:=λU=>match (U[i]?:Option (Wk)) with
 |some (some (.ow (.dct 0 l)))=>(du 1 a (rK i) L b (U.set i (Z (.pu (.dct 3 l))))).bind λv=>match v.1 with
  |.fr=>Z (.rt v (U.set i L))
  |_=>L
 |_=>L
theorem zip_inj{α β:Type}:∀{a c:List α}{b d:List β},a.length=b.length->c.length=d.length->a.zip b=c.zip d->a=c
 |[],[],_,_,_,_,_=>rfl
 |[],_ :: _,_,[],_,h,_=>by simp at h
 |[],_ :: _,[],_ :: _,_,_,h=>by simp at h
 |[],_ :: _,_ :: _,_ :: _,h,_,_=>by simp at h
 |_ :: _,_,[],_,h,_,_=>by simp at h
 |_ :: _,[],_ :: _,[],_,_,h=>by simp at h
 |_ :: _,[],_ :: _,_ :: _,_,h,_=>by simp at h
 |_ :: _,_ :: _,_ :: _,[],_,h,_=>by simp at h
 |x :: a,y :: c,z :: b,w :: d,f,e,h=>by
  rw[ZY,ZY]at h;obtain⟨e1,e2⟩:=List.cons.inj h;rw[zip_inj (by simpa using f) (by simpa using e) e2,(Xf e1).1]
section
variable{G:Gx}{X:Cx}{i:Nat}{elt tg:Expr}{sc:Scope}{pos pos' p1:Pos}{N:List Str}{x:Str}{g:Tg}{ce:Ex}
def CM(i:Nat)(N:List Str)(G5:X.calm=B)(hN:X.N[i]?=Z x)(hv:IG X.env.scope x)(hd:K3 x)(hcd:K4 x)(IK:oE 1 g)(hg:∀cl C s H fp,LZ G (bN X N sc cl C s H fp) tg g)(he:∀cl C s H fp,PV G (bN X N sc cl C s H fp) elt ce)(ID:l9 X.env sc=B)(Je:jZ sc (N.drop 1) X.N=B)(Jh:1<=N.length)(hs:∀y,XAA (.Name x p1) X.env y=pure y) :
  PSV G X (.Return (Z (.ListComp elt [⟨tg,.Name x p1,[],0⟩] sc pos)) pos') (xV i g ce) :=
 PS.weak (p5 (mN G5 (E2 (fJ hN hv hd hcd)) ID Je Jh (λcl C s H fp=>⟨hg cl C s H fp,j5,he cl C s H fp⟩) hs)) λD J H hq=>by
  obtain⟨M,U,out,s,e,k⟩:=hq;unfold xV at e;split at e
  ·rename_i l E;obtain⟨⟨mv,tv⟩,ev,e1⟩:=Zz.mp e;have Mh:mv=.fr/\out=.rt (.fr,tv) (U.set i L):=by
    cases mv with
    |fr=>cases e1;exact⟨rfl,rfl⟩
    |pu=>cases e1
    |bo=>cases e1
   obtain⟨rfl,rfl⟩:=Mh;obtain⟨v,g1,g2⟩:=s.rp _ _ E;obtain⟨a,ns,d,Y,S,rfl,eF,ha,Rf,rfl,ra⟩:=fh g2;have Ii:i<U.length:=(Zf.mp E).1;have nd:=s.nd i _ E;rw[eF]at nd;have HA:=Zg.mp nd;refine⟨.ref a,g1,a,ns.zip d,rfl,ha,λo=>?_⟩;have mu:GT (H a):=by rw[ha];exact True.intro
   have kp:Kept H (upd H a (.frz o (.dK (ns.zip d)))):=Kept.upd (.inl mu);have es:J.set i (Z (.ref a))=J:=by
    obtain⟨h,e⟩:=Zf.mp g1;rw[← e];exact XJ h
   have aΦ:a∈M i:=by rw[eF];exact Zv
   have sub:∀b∈S.flatten,b∈M i:=λb hb=>by rw[eF];exact Zw _ hb
   have s1:SR G (ma M i S.flatten) (U.set i (Z (.pu (.dct 3 ((ns.map aN).zip Y))))) J (upd H a (.frz o (.dK (ns.zip d)))):=by
    have:=s.put (c:=.pu (.dct 3 ((ns.map aN).zip Y))) (v:=.ref a) (F:=S.flatten) (H':=upd H a (.frz o (.dK (ns.zip d)))) Ii (.dctZ au Rf (ra.off mu HA.1)) (λj c' n hj w q=>q.keep kp λb hb ob ho=>by
     rw[ax (λz=>s.sep i j _ c' E hj (Yi n) a aΦ (by rw[← z];exact hb))];exact ho) (λ_ z=>nomatch z) (λ_ z=>nomatch z) λj u n hj b hb hb'=>s.sep j i u _ hj E n b hb (sub b hb')
    rw[es]at this;exact this
   have hT:tE G (du 1 g (rK i) L ce) J (upd H a (.frz o (.dK (ns.zip d)))) D.rt:=by
    refine⟨_,_,.fr,tv,s1,ev,λu H' F Q r f=>?_⟩;have ee:(U.set i (Z (.pu (.dct 3 ((ns.map aN).zip Y))))).set i L=U.set i L:=by rw[List.set_set]
    have sd:=(s1.drop i).same Q;rw[ee]at sd;have Kj:∀b,bK (ma M i S.flatten) (U.set i L) b->bK M U b:=λb ⟨j,t,A,m⟩=>by
     obtain⟨n,NT⟩:=cW A;rw[fi n]at m;exact⟨j,t,NT,m⟩
    refine k u H' F _ J sd ⟨λb ob h n=>?_,λb h z=>?_,λb h=>.inl (Kj b h),λb ⟨j,t,A,m⟩=>?_,kp.trans (Kept.of Q)⟩ r ⟨f.1,λb hb=>.inl ?_⟩
    ·have nb:b≠a:=λz=>n ⟨i,_,E,by rw[z];exact aΦ⟩;exact⟨Q b ob (by rw[ax nb];exact h),λz=>n (Kj b z)⟩
    ·have P:=Q.free z;by_cases q:b=a
     ·rw[q,au]at P;cases P
     ·rw[ax q]at P;exact h P
    ·obtain⟨n,NT⟩:=cW A;rw[fi n]at m;exact .inl ⟨j,t,NT,m⟩
    ·have:=f.2 b hb;by_cases q:b=a
     ·rw[q,au]at this;cases this
     ·rw[ax q]at this;exact this
   obtain⟨M2,U2,m2,l2,s2,e2,k2⟩:=mI (cond:=L) IK hT;refine k2 (Sh a o (ns.zip d)) _ [] (aC.refl _) ?_ (λb hb=>nomatch hb);unfold rK at e2;split at e2
   ·rename_i l3 h3;split at e2
    ·rename_i hint;cases e2;obtain⟨v3,A,m⟩:=s2.rp _ _ h3;rw[g1]at A;cases A;obtain⟨a3,o3,UZ,Sl,PU,Fs3,R5,_,JC,Nt,rfl,JJ⟩:=r6 m;cases R5;rw[au]at JC;have hz:ns.zip d=UZ.zip Sl:=HO.dK.inj (HO.frz.inj (Zm JC)).2;have ek:=zip_inj Rf Nt hz;subst ek;have em:((ns.map aN).zip PU).map (·.1)=ns.map aN:=Wt (by rw[Zu,Nt,JJ.len.1];exact Zj _);have zl:(ns.zip d).length=ns.length:=by rw[Z7,Rf,Nat.min_self]
     refine⟨λH2 Ph _=>⟨λn t O=>?_,λn O=>?_⟩,λb hb=>nomatch hb⟩
     ·rw[em,ZO]at O;obtain⟨kk,Nu,Oq⟩:=Zy.mp O;have S8:=(Zf.mp Nu).1;refine⟨⟨Ph.frz _ _ _ au,by rw[zl];exact S8⟩,λy H3 hy=>?_⟩;obtain⟨rfl,p,hp,rfl⟩:=hy;refine⟨aC.refl _,[],?_,λb hb=>nomatch hb⟩;have Vn:p.1=kk:=by
       have MI:(ns.zip d)[n]?=Z p:=hp;rw[YS]at MI;rw[Nu]at MI;exact(Zm MI.1).symm
      have hi:isInt t=B:=by
       have:=Yt.mp hint (t,PU[n]'(by rw[← JJ.len.1,← Nt];exact S8)) (by
        refine YO (i:=n) ?_;rw[YS];exact⟨by rw[ZO,Nu];exact congrArg Z Oq,Zr _⟩)
       exact this
      rw[Vn,← Oq];rw[← Oq]at hi;cases kk with
      |inl n=>exact .int n
      |inr z=>cases hi
     ·refine⟨Ph.frz _ _ _ au,?_⟩;rw[em,Zu]at O;rw[zl];exact O
    ·cases e2
   ·cases e2
  ·cases e
end
def DU(c:Nat):Option (Wk)->Bool
 |some (some (.ow (.obj a (_ :: _))))=>a==c+1
 |_=>R
def oO(i c:Nat)(b:List Bool)(g:Mt)(x:Xx)(d:Hf)(U:VS.Env):Option (Val×VS.Env):=if DU c (U[i]?:Option (Wk))=B then (x U).bind λz=>if GQ z.1.2=B then (match (z.2[i]?:Option (Wk)) with
 |some (some (.ow t))=>(d z.2).bind λa=>(lP c b g ((.fr,z.1.2) :: a) t).map λr=>(r.2,z.2.set i (Z (.ow r.1)))
 |_=>L) else L else L
section
variable{G:Gx}{X:Cx}{i c k k':Nat}{e:Expr}{es:List Expr}{cs:Hf}{m y:Str}{f:KM}{fd:P3}{ps:List Str}{mv:List Bool}{g:Mt}{x:Xx}{apos pos p1:Pos}
def Bx{pl:Sem Bool}(hn:∀k,(G.ct (c+1)).2 k≠m)(hN:X.N[i]?=Z y)(hv:IG X.env.scope y)(hd:K3 y)(hcd:K4 y)(hc:Ie X.K (G.ct (c+1)).1)(hm:Meth X.K (G.ct (c+1)).1 m f)(F:FnOk X.prog X.w X.K X.mg X.base Hk k f fd ps (J5 G c mv g))(hr:p0 k' X.A)(hk:k<=k')(hb:Binds X.K fd ps [])(h1:PX G X e x)(ha:HI G X es cs)(IC:K1 e es X)(hpl:K2 pos es X)(ht:eval (.Call (.Attribute (.Name y p1) m apos) (e :: es) [] pos) X.env=(do
   let ov ← eval (.Name y p1) X.env
   standAt apos.atName
   let (f,first) ← holding [ov] (getMethod ov m pl)
   callWith pos f first (backTo pos (Pv (e :: es) X.env)) (backToKw pos (SC [] X.env)))):PX G X (.Call (.Attribute (.Name y p1) m apos) (e :: es) [] pos) (oO i c mv g x cs) :=
 PE.weak (qo (E:=E0) (fJ hN hv hd hcd) hc hm F (hr.mono hk) hb .nil g6 (bA h1 ha IC) IC hpl ht) λJ H Q h=>by
  obtain⟨M,U,v,U',s,e,Kw,kq⟩:=h;unfold oO at e;split at e
  ·rename_i D;obtain⟨⟨C,U1⟩,e1,e2⟩:=Zz.mp e;split at e2
   ·rename_i Rk;unfold DU at D;split at D
    ·rename_i c0 q0 RH h0;have WM:c0=c+1:=by simpa using D
     subst WM;obtain⟨v0,g1,g2⟩:=s.rp _ _ h0;have Mj:Rp G H v0 (.obj (c+1) (q0 :: RH)) (M i):=g2;obtain⟨c',a,dx,b,ns,j,ts,Fs,ec,rfl,eb,ef,eF,hA,hl,Pr,ra⟩:=dj Mj;cases ec;have key:∀(ns:Wq)(j:List V),((ns.map (G.ct (c+1)).2).zip j).lookup m=L:=by
      intro ns
      induction ns with
      |nil=>intro j;simp
      |cons n ns ih =>
       intro j;cases j with
       |nil=>simp
       |cons v j =>
        rw[Zo,ZY,Yu];have:(m==(G.ct (c+1)).2 n)=R:=by
         rw[ZK];exact λz=>hn n z.symm
        rw[this];exact ih j
     refine⟨.ref a,g1,a,dx,_,rfl,hA,key _ _,M,U,C,U1,s,e1,Rk,λu1 H1 r s1 f1 r1=>?_⟩;dsimp only at e2;split at e2
     ·rename_i t1 QT;obtain⟨q,el,e3⟩:=Zz.mp e2;obtain⟨⟨x3,y3⟩,o,e4⟩:=Zy.mp e3;cases e4;obtain⟨va,q1,w2⟩:=s1.rp _ _ QT;rw[g1]at q1;cases q1;have w3:=s1.nd i t1 QT;refine⟨r,U1,q,s1,el,λY H2 P l Nj MY=>?_⟩;show J5 G c mv g (V.ref a :: ((u1 :: Y)++[])) H2 Q E0;rw[ZV];unfold lP at o;split at o
      ·rename_i c1 d fs;split at o
       ·rename_i Pp;obtain⟨rfl,K8,O,MT⟩:=Pp;obtain⟨⟨Ic,z⟩,eg,e7⟩:=Zz.mp o;split at e7
        ·rename_i K7;cases e7;have O1:Rp G H1 (.ref a) (.obj (c+1) ((0,.bl d) :: fs)) (r i):=w2;obtain⟨c2,a2,R8,b2,N0,PQ,NJ,Sk,LU,M0,Py,rfl,M6,MV,Ig,Kz,Nk⟩:=dj O1;cases LU;cases M0;cases Py;have Kk:N0.length=NJ.length:=Ig.trans Nk.len.1;have Tr:Lw r U1 H1 ((.fr,C.2) :: q) ([] :: P):=⟨λn v' S a1 a2=>by
          cases n with
          |zero=>cases a1;cases a2;exact Fp.nil
          |succ n=>exact MY.each n v' S (by simpa using a1) (by simpa using a2),by
          show ([]++HU q P).Nodup;exact MY.nd⟩
         have MB:=uD O Tr;have Su:RpL G H2 (u1 :: Y) (trees ((.fr,C.2) :: q)) ([] :: P):=.cons (r1.same l) Nj;refine⟨a,u1 :: Y,N0.zip NJ,trees ((.fr,C.2) :: q),r i,[] :: P,Ic,z,rfl,?_,Su.at (Jb a) MT,?_,?_,?_,eg,λu H' S p ru=>?_⟩
         ·rw[M6];exact .ins (l a _ MV) Ig (λ_=>rfl) ((Nk.same l).at (Jb a) (d5 Kk K8))
         ·rw[jS O];simp[trees]
         ·refine ZR.mpr ⟨w3,Tr.nd.sublist (nR O),λd t b2 Kz z=>?_⟩;subst z;exact GT.gV (w2.G3 d t) (MB d Kz)
         ·rw[qq O Su];exact λd _ z=>nomatch z
         ·have back:Rp G H' (.ref a) (.obj (c+1) ((0,.bl d) :: Ic)) S:=by
           obtain⟨c3,a3,dx3,b3,ns3,Sl,PU,Fs3,WJ,R5,eb3,WH,WN,V2,Nt,hb3,JJ⟩:=dj p.rp;cases WJ;cases R5;subst WH;rw[WN];exact .ins V2 Nt Kz (JJ.at G.me (d5 (Nt.trans JJ.len.1) K7.1))
          have gG:Chg G H1 (.ref a) (r i) (.obj (c+1) ((0,.bl d) :: Ic)) H' S:=⟨(Kept.of l).trans p.kept,λd o1 t ho=>p.keep d o1 (λz=>(Zd.mp z).elim t λz=>by rw[MB d z]at ho;cases ho) (l d o1 ho),λd h=>p.G3 d λz=>h (l.free z),back,p.nd,λd t=>by
           rcases p.sub d t with z | z
           ·rcases Zd.mp z with z | z
            ·exact .inl z
            ·exact .inr (MB d z)
           ·exact .inr (l.free z)⟩
          obtain⟨z1,z2⟩:=s1.mut QT g1 gG;exact kq u H' _ z1 (f1.trans z2) (ru.at G.me (lj z K7.2))
        ·cases e7
       ·cases o
      ·cases o
     ·cases e2
    ·cases D
   ·cases e2
  ·cases e
end
def Ml(a:List Str)(k:Nat):Str:=match a[k]? with
 |some x=>x
 |none=>⟨#[k]⟩
def Lq(a:List Str)(K:Xk)(C D:KM):Gx:=⟨K,λc=>(if c=2 then D else C,Ml a),λ_=>L⟩
def Af{a:List Str}(i:a.Nodup)(h:∀x∈a,x.cps.size≠1)(k b:Nat)(e:Ml a k=Ml a b):k=b:=by
 unfold Ml at e;by_cases f:k<a.length
 ·by_cases d:b<a.length
  ·rw[Zr f,Zr d]at e;exact(List.getElem_inj i).mp e
  ·rw[Zr f,Z3 (ZM d)]at e;have g:a[k]=(⟨#[b]⟩:Str):=e;exact absurd (by rw[g];rfl) (h _ (Yy f))
 ·by_cases d:b<a.length
  ·rw[Z3 (ZM f),Zr d]at e;have g:(⟨#[k]⟩:Str)=a[b]:=e;exact absurd (by rw[← g];rfl) (h _ (Yy d))
  ·rw[Z3 (ZM f),Z3 (ZM d)]at e;have g:(⟨#[k]⟩:Str)=⟨#[b]⟩:=e;cases g;rfl
def AO{a:List Str}{K:Xk}{C D:KM}{m:Me}(b:a.Nodup)(h:∀x∈a,x.cps.size≠1):jV ((Lq a K C D).at m):=λ_ k d e=>Af b h k d e
def gA{a:List Str}{x:Str}(h:x∉a)(d:x.cps.size≠1)(k:Nat):Ml a k≠x:=λe=>by
 unfold Ml at e;split at e
 ·rename_i y b;exact h (e ▸ YO b)
 ·exact d (by rw[← e];rfl)
def vQ{a:List Str}{K:Xk}{C D:KM}{m:Me}{k:Nat}{f:Str}(b:a[k]?=Z f)(h:Ie K C)(g:Ie K D)(e:aR K C f)(d:aR K D f):HQ ((Lq a K C D).at m) K k f :=
 ⟨λc=>by show Ml a k=f;unfold Ml;rw[b],λc=>by show Ie K (if c+1=2 then D else C);split<;>assumption,λc=>by show aR K (if c+1=2 then D else C) f;split<;>assumption⟩
structure MtAt(P:Re)(w:UF)(K:Xk)(mg:Xg)(base:SZ)(k:Nat)(G:Gx)(c:Nat)(x:Str)(ps:List Str)(mv:List Bool)(g:Mt):Prop where
 ex:∃f fd,FnOk P w K mg base Hk k f fd ps (J5 G c mv g)/\Meth K (G.ct (c+1)).1 x f/\Binds K fd ps []
 cl:Ie K (G.ct (c+1)).1
 no:∀k,(G.ct (c+1)).2 k≠x
structure MpAt(P:Re)(w:UF)(K:Xk)(mg:Xg)(base:SZ)(k:Nat)(G:Gx)(c:Nat)(x:Str)(ps:List Str)(h:Fn):Prop where
 ex:∃f fd,FnOk P w K mg base Hk k f fd ps (Ja G h)/\Meth K (G.ct (c+1)).1 x f/\Binds K fd ps []
 cl:Ie K (G.ct (c+1)).1
 no:∀k,(G.ct (c+1)).2 k≠x
structure InAt(P:Re)(w:UF)(K:Xk)(mg:Xg)(base:SZ)(k:Nat)(G:Gx)(c n:Nat)(x:Str)(ps:List Str)(g:Mt):Prop where
 ex:∃f fd,FnOk P w K mg base Hk k f fd ps (J5 G c (List.replicate n false) g)/\Mk K (G.ct (c+1)).1 f/\Binds K fd ps []
 mg:mg x=some (.ref (G.ct (c+1)).1)
section
variable{P:Re}{w:UF}{K:Xk}{mg:Xg}{base:SZ}{k c n:Nat}{G:Gx}{x:Str}{ps:List Str}{mv:List Bool}{g:Mt}
theorem MtAt.at{m:Me}(h:MtAt P w K mg base k G c x ps mv g):MtAt P w K mg base k (G.at m) c x ps mv g:=⟨h.ex,h.cl,h.no⟩
theorem InAt.at{m:Me}(h:InAt P w K mg base k G c n x ps g):InAt P w K mg base k (G.at m) c n x ps g:=⟨h.ex,h.mg⟩
def lr{b:Str}{d:Stmt}{f:KM}{m:P3}{N:List Str}{j l:Nat}{e:Sx}(F:G2 K x b d f m)(q:Meth K (G.ct (c+1)).1 x f)(r:Ie K (G.ct (c+1)).1)(v:∀k,(G.ct (c+1)).2 k≠x)(S:jj N ps (aj d))(o:ps.length=j)(p:N.length=l)(u:∀(kV doc pm:On)(an:Option KM)(h ct:On)(i:X3),i.length=ps.length->bindArgs (PySem.W.fnOf x b (cR d) (aQ d) (aj d) .none kV doc pm an h ct) ⟨i,[]⟩=pure (ps.zip i))(t:∀(a:KM)(h:On)(A:SB)(outer:List PySem.Env)(s:IR)(H:Hp)(E:XK),p0 k (A.deeper (envOfC b (aj d) s.heap.objs.size f h))->gD (G.at (Jb a)) (iF Hk P w K mg base N b (aj d) f h A outer s H E).Jy (aQ d) e) :
  MtAt P w K mg base (k+1) G c x ps mv (IB c j l mv e):=⟨⟨f,m,Ts F S o p t,q,F.binds u⟩,r,v⟩
def DT{y b:Str}{d:Stmt}{f:KM}{m:P3}{N:List Str}{j l:Nat}{e:Sx}(F:G2 K y b d f m)(q:Mk K (G.ct (c+1)).1 f)(r:mg x=Z (.ref (G.ct (c+1)).1))(S:jj N ps (aj d))(o:ps.length=j)(p:N.length=l)(u:∀(kV doc pm:On)(an:Option KM)(h ct:On)(i:X3),i.length=ps.length->bindArgs (PySem.W.fnOf y b (cR d) (aQ d) (aj d) .none kV doc pm an h ct) ⟨i,[]⟩=pure (ps.zip i))(t:∀(a:KM)(h:On)(A:SB)(outer:List PySem.Env)(s:IR)(H:Hp)(E:XK),p0 k (A.deeper (envOfC b (aj d) s.heap.objs.size f h))->gD (G.at (Jb a)) (iF Hk P w K mg base N b (aj d) f h A outer s H E).Jy (aQ d) e) :
  InAt P w K mg base (k+1) G c n x ps (IB c j l (List.replicate n R) e):=⟨⟨f,m,Ts F S o p t,q,F.binds u⟩,r⟩
def A8{y d:Str}{e:Stmt}{f:KM}{q:P3}{N:List Str}{m p:Nat}{h:Sx}(F:Kq K y d e f q)(u:Mk K (G.ct (c+1)).1 f)(v:mg x=Z (.ref (G.ct (c+1)).1))(S:jj N ps (aj e))(r:ps.length=m)(t:N.length=p)(C:∀(s:IR)(T:KM)(kV doc pm:On)(an:Option KM)(i ct:On)(o:Obj)(n:Nat)(j:X3),K.In s.heap->K.lookup T=Z o->o.data=.seq #[.none] n->j.length=ps.length->BindsTo s (PySem.W.fnOf y d (cR e) (aQ e) (aj e) (.ref T) kV doc pm an i ct) ⟨j,[]⟩ (ps.zip j))(z:∀(a:KM)(i:On)(A:SB)(outer:List PySem.Env)(s:IR)(H:Hp)(E:XK),p0 k (A.deeper (envOfC d (aj e) s.heap.objs.size f i))->gD (G.at (Jb a)) (iF Hk P w K mg base N d (aj e) f i A outer s H E).Jy (aQ e) h) :
  InAt P w K mg base (k+1) G c n x ps (IB c m p (List.replicate n R) h):=⟨⟨f,q,EI (λl b=>F.ok S l b) r t z,u,F.binds C⟩,v⟩
def m6{a:Str}{b:Stmt}{f:KM}{l:P3}{N:List Str}{i j:Nat}{d:Sx}(F:G2 K x a b f l)(p:Meth K (G.ct (c+1)).1 x f)(q:Ie K (G.ct (c+1)).1)(u:∀k,(G.ct (c+1)).2 k≠x)(S:jj N ps (aj b))(m:ps.length=i)(o:N.length=j)(t:∀(kV doc pm:On)(an:Option KM)(e ct:On)(h:X3),h.length=ps.length->bindArgs (PySem.W.fnOf x a (cR b) (aQ b) (aj b) .none kV doc pm an e ct) ⟨h,[]⟩=pure (ps.zip h))(r:∀(e:On)(A:SB)(outer:List PySem.Env)(s:IR)(H:Hp)(E:XK),p0 k (A.deeper (envOfC a (aj b) s.heap.objs.size f e))->gD G (iF Hk P w K mg base N a (aj b) f e A outer s H E).Jy (aQ b) d) :
  MpAt P w K mg base (k+1) G c x ps (fn i j d):=⟨⟨f,l,RJ F S m o r,p,F.binds t⟩,q,u⟩
end
section
variable{G:Gx}{X:Cx}{i j c k k' kr n:Nat}{way:List Jm}{o e b:Expr}{es:List Expr}{cs:Hf}{ca ck ce:Ex}{m x:Str}{ps:List Str}{mv:List Bool}{g:Mt}{h:Fn}{xc:Xx}{f:Str}{apos oe pos pos' p p1:Pos}
def ij{l:Sem Bool}(C:jV G)(F:MtAt X.prog X.w X.K X.mg X.base k G c m ps mv g)(r:p0 k' X.A)(t:k<=k')(s:JH G X o i way)(u:HI G X (e :: es) cs)(D:K1 e es X:=by exact rfl)(a:K2 pos es X:=by exact rfl)(q:eval (.Call (.Attribute o m apos) (e :: es) [] pos) X.env=(do
   let d ← eval o X.env
   standAt apos.atName
   let (f,first) ← holding [d] (getMethod d m l)
   callWith pos f first (backTo pos (Pv (e :: es) X.env)) (backToKw pos (SC [] X.env))):=by exact rfl):PX G X (.Call (.Attribute o m apos) (e :: es) [] pos) (bH i way c mv g cs):=by
 obtain⟨f,fd,z,y,v⟩:=F.ex;exact BA C F.no s F.cl y z r t v u D a q
def zj{d:Sem Bool}(y:jV G)(F:MtAt X.prog X.w X.K X.mg X.base k G c m ps mv g)(q:p0 k' X.A)(s:k<=k')(r:JH G X o i way)(l:eval (.Call (.Attribute o m apos) [] [] pos) X.env=(do
   let a ← eval o X.env
   standAt apos.atName
   let (f,first) ← holding [a] (getMethod a m d)
   callWith pos f first (backTo pos (Pv [] X.env)) (backToKw pos (SC [] X.env)))):PX G X (.Call (.Attribute o m apos) [] [] pos) (bH i way c mv g ag):=by
 obtain⟨f,fd,v,u,t⟩:=F.ex;exact xQ y F.no r F.cl u v q s t l
def Ce{q:Sem Bool}(F:MtAt X.prog X.w X.K X.mg X.base k G c m ps mv g)(t:p0 k' X.A)(u:k<=k')(z:X.N[i]?=Z x)(r:IG X.env.scope x)(v:K3 x)(d:K4 x)(H:PX G X e xc)(y:HI G X es cs)(J:K1 e es X)(a:K2 pos es X)(s:eval (.Call (.Attribute (.Name x p1) m apos) (e :: es) [] pos) X.env=(do
   let l ← eval (.Name x p1) X.env
   standAt apos.atName
   let (f,first) ← holding [l] (getMethod l m q)
   callWith pos f first (backTo pos (Pv (e :: es) X.env)) (backToKw pos (SC [] X.env)))):PX G X (.Call (.Attribute (.Name x p1) m apos) (e :: es) [] pos) (oO i c mv g xc cs):=by
 obtain⟨f,fd,E,D,C⟩:=F.ex;exact Bx F.no z r v d F.cl D E t u C H y J a s
def Bq{l:Sem Bool}(F:MpAt X.prog X.w X.K X.mg X.base k G c m ps h)(r:p0 k' X.A)(t:k<=k')(s:PV G X o ca)(u:HI G X (e :: es) cs)(C:K1 e es X)(a:K2 pos es X)(q:eval (.Call (.Attribute o m apos) (e :: es) [] pos) X.env=(do
   let d ← eval o X.env
   standAt apos.atName
   let (f,first) ← holding [d] (getMethod d m l)
   callWith pos f first (backTo pos (Pv (e :: es) X.env)) (backToKw pos (SC [] X.env)))):PV G X (.Call (.Attribute o m apos) (e :: es) [] pos) (fA c h ca cs):=by
 obtain⟨f,fd,z,y,v⟩:=F.ex;exact Dd F.no s F.cl y z r t v u C a q
def mO{d:Sem Bool}(F:MpAt X.prog X.w X.K X.mg X.base k G c m ps h)(q:p0 k' X.A)(s:k<=k')(r:PV G X o ca)(l:eval (.Call (.Attribute o m apos) [] [] pos) X.env=(do
   let a ← eval o X.env
   standAt apos.atName
   let (f,first) ← holding [a] (getMethod a m d)
   callWith pos f first (backTo pos (Pv [] X.env)) (backToKw pos (SC [] X.env)))):PV G X (.Call (.Attribute o m apos) [] [] pos) (fA c h ca ag):=by
 obtain⟨f,fd,v,u,t⟩:=F.ex;exact z9 F.no r F.cl u v q s t l
def FN{e:Ex}:∀(U:VS.Env)(d:Wj),ab e ag U=Z d->d.length=1:=λU d h=>by
 obtain⟨a,_,h⟩:=Zz.mp h;cases h;rfl
def Dk(F:InAt X.prog X.w X.K X.mg X.base k G c n x ps g)(l:p0 k' X.A)(r:k+1<=k')(u:HI G X (e :: es) cs)(q:∀U d,cs U=Z d->d.length=n)(s:Gl X x)(C:K3 x)(t:K1 e es X)(a:K2 pos es X):PV G X (.Call (.Name x p) (e :: es) [] pos) (eNew c g cs):=by
 obtain⟨f,fd,z,y,v⟩:=F.ex;exact FR n y z l r s F.mg v u q C t a
def A1(F:InAt X.prog X.w X.K X.mg X.base k G c 0 x ps g)(a:p0 k' X.A)(d:k+1<=k')(l:Gl X x)(t:K3 x):PV G X (.Call (.Name x p) [] [] pos) (eNew c g ag):=by
 obtain⟨f,fd,s,r,q⟩:=F.ex;exact Dc r s a d l F.mg q t
def pG(u:jV G)(d:JH G X o i way)(q:HI G X [e] cs)(s:X.K=G.K:=by exact rfl)(D:UV o "append" X.env (eval o X.env)=eval o X.env:=by exact rfl)(y:((backTo oe (Pv [e] X.env)).all (λx=>!x.1)&&(backToKw oe (SC [] X.env)).all (λx=>x.1.isSome)
   && decide ([e].length+([]:List Keyword).length+(if ([]:List Keyword).isEmpty then 0 else 1)<30))=B:=by exact rfl)(A:(apos.endLine==oe.line)=B:=by exact rfl)(a:K1 e [] X:=by exact rfl)(C:(backTo oe (Pv [] X.env)).any (·.1)=R:=by exact rfl)(w:swapsWith (.Call (.Attribute o "append" apos) [e] [] oe) L pos.line X.env=pure R:=by exact rfl) :
  PSV G X (.Expr (.Call (.Attribute o "append" apos) [e] [] oe) pos) (sX (iC i way aF cs)) :=
 wV u Y5 Xc Xd jo o9 (λH v t F l z r h=>l5 r h) d q s D y A a C w
end
def Ll(m:Nat)(t:T):T:=.obj 0 [(0,.bl B),(m,t)]
def KO:T->Option (Nat×T)
 |.obj 0 [(0,.bl true),(m,t)]=>Z (m,t)
 |_=>L
def kG{t u:T}{m:Nat}(h:KO t=Z (m,u)):t=Ll m u:=by
 unfold KO at h;split at h
 ·cases h;rfl
 ·cases h
def rB(a:List V):Me:=λk=>match k with
 |0=>L
 |k+1=>a[k]?
def markL:Nat->List Bool->Wh->Wh
 |k,b :: bs,t :: a=>(if b then Ll (k+1) t else t) :: markL (k+1) bs a
 |_,_,_=>[]
def lK(U:VS.Env):Nat->List Bool->Option (Wh)
 |_,[]=>Z []
 |k,true :: bs=>match (U[k]?:Option (Wk)) with
  |some (some (.ow t))=>(KO t).bind λz=>if z.1=k+1 then (lK U (k+1) bs).map (z.2 :: ·) else L
  |_=>L
 |k,false :: bs=>lK U (k+1) bs
def dM{α:Type}:List Bool->List α->List α
 |true :: bs,x :: a=>x :: dM bs a
 |false :: bs,_ :: a=>dM bs a
 |_,_=>[]
def Mb(M:GV):Nat->List Bool->Xl
 |_,[]=>[]
 |k,true :: bs=>M k :: Mb M (k+1) bs
 |k,false :: bs=>Mb M (k+1) bs
def xg:T->Bool
 |.str _=>B
 |_=>R
def wI(b:Wh)(v:Val):Bool:=GQ v.2||(match b,v with
 |[.lst [.int _]],(.fr,.lst a)=>a.all xg
 |_,_=>R)
def Bk{b:Wh}{v:Val}(h:wI b v=B):GQ v.2=B\/∃n a,b=[.lst [.int n]]/\v=(.fr,.lst a)/\a.all xg=B:=by
 unfold wI at h;rcases Bool.or_eq_true_iff.mp h with h | h
 ·exact .inl h
 ·split at h
  ·exact .inr ⟨_,_,rfl,rfl,h⟩
  ·cases h
def rg{a:Wh}(h:a.all xg=B):eQ a=B/\aZ a=B:=by
 induction a with
 |nil=>exact⟨rfl,rfl⟩
 |cons t a b =>
  rw[Y3,Ze]at h;cases t<;>first | exact b h.2 | cases h.1
noncomputable def Ku(e g:Nat)(a:List Bool)(b:Sx):Wh->Option (Wh×T)
 |f :: d=>if d.length+1=e/\a.length=d.length then
  (b ((Z (.ow (Ll 1 f)) :: List.zipWith i4 a (markL 1 a d))++List.replicate (g-e) L)).bind λo=>match o with
   |.rt v U=>(lK U 0 (B :: a)).bind λos=>if wI os v=B/\aZ os=B then Z (os,v.2) else L
   |.nx U=>(lK U 0 (B :: a)).bind λos=>if aZ os=B then Z (os,.non) else L
   |_=>L else L
 |[]=>L
structure ChI(G:Gx)(H:Hp)(mv:List Bool)(vs:List V)(Fs:Xl)(os:Wh)(H2:Hp)(Gs:Xl):Prop where
 kept:Kept H H2
 keep:∀b o,b∉Hw mv Fs->H b=some o->H2 b=some o
 G3:∀b,H b≠none->H2 b≠none
 rp:RpL G H2 (dM mv vs) os Gs
 nd:Gs.flatten.Nodup
 sub:∀a∈Gs.flatten,a∈Hw mv Fs\/H a=none
noncomputable def My(G:Gx)(d:List Bool)(g:Wh->Option (Wh×T)):Sp:=λm H Q _=>∃(a:KM)(i:List V)(j:T)(f:Wh)(F:Xa)(e:Xl)(os:Wh)(x:T),m=.ref a :: i/\Rp G H (.ref a) j F/\RpL G H i f e/\(∀v∈dM d i,∃b,v=.ref b)/\d8 j=B/\aZ f=B/\d.length=f.length ∧
 (F++Hw d e).Nodup/\(∀b∈F++Hw d e,b∉JK d e)/\g (j :: f)=Z (os,x)/\∀u l n h,ChI G H (B :: d) m (F :: e) os l n->Rp G l u x h->h.Nodup->(∀a∈h,a∉n.flatten)->(∀a∈h,H a=L\/a∈F++Hw d e)->Q u l
section
variable{G:Gx}{H:Hp}
def new_apart{x:Gx}{e:List V}{n:Int}{j:Xl}{u:V}{f:Wh}{F:Xa}(r:RpL G H e [.lst [.int n]] j)(q:Rp x H u (.lst f) F)(g:f.all xg=B):∀a∈F,a∉j.flatten:=by
 cases r with
 |cons l r1 =>
  cases r1;obtain⟨a,e,A,rfl,rfl,w,v⟩:=l.lst_inv;obtain⟨p,y,z,rfl,rfl,i,h⟩:=q.lst_inv;rw[h.GQ (rg g).1];intro b hb d;rw[Zh]at hb;subst hb;cases v with
  |cons t s =>
   cases s;cases t;have:b=a:=by simpa using d
   subst this;rw[w]at i;cases i;cases h with
   |cons o m =>
    cases m;cases o;cases g
theorem vf{m:Me}:∀{bs:List Bool}{d:List V}{e:Wh}{f:Xl}(k:Nat),RpL (G.at m) H d e f->(∀v∈dM bs d,∃b,v=.ref b)->(∀j,m (k+1+j)=d[j]?)->bs.length=e.length->RpL (G.at m) H d (markL k bs e) f
 |[],_,_,_,k,.nil,_,_,_=>.nil
 |[],_,_,_,k,.cons _ _,_,_,h=>by simp at h
 |_ :: _,_,_,_,k,.nil,_,_,h=>by simp at h
 |b :: bs,v :: d,t :: e,F :: f,k,.cons r q,i,l,n=>by
  have g:=vf (bs:=bs) (k+1) q (λw hw=>i w (by cases b<;>simp[dM,hw])) (λj=>by rw[show k+1+1+j=k+1+(j+1) by omega,l (j+1)];rfl) (by simpa using n);cases b with
  |false=>exact .cons r g
  |true =>
   obtain⟨a,rfl⟩:=i v (by simp[dM]);exact .cons (.mk (l 0) r) g
theorem t7{d:List V}{M:GV}{U:VS.Env}{J:L2.St}(s:SR (G.at (rB d)) M U J H):∀(bs:List Bool)(k:Nat)(os:Wh),lK U k bs=Z os->aZ os=B →
  RpL G H (dM bs (d.drop k)) os (Mb M k bs)/\(Mb M k bs).flatten.Nodup/\∀a∈(Mb M k bs).flatten,∃j t,k<=j/\U[j]?=Z (Z (.ow t))/\a∈M j
 |[],k,os,h,_=>by
  cases h;refine⟨?_,Yz,λa h=>nomatch h⟩;cases d.drop k<;>exact .nil
 |false :: bs,k,os,h,g=>by
  obtain⟨f,o,n⟩:=t7 s bs (k+1) os h g;refine⟨?_,o,λa C=>?_⟩
  ·rw[← List.drop_drop,List.drop_one]at f;cases q:d.drop k with
   |nil=>rw[q]at f;cases bs<;>(try rename_i b _;cases b)<;>exact f
   |cons v r=>rw[q]at f;exact f
  ·obtain⟨j,t,w,i⟩:=n a C;exact⟨j,t,by omega,i⟩
 |true :: bs,k,os,h,g=>by
  unfold lK at h;split at h
  ·rename_i t l;obtain⟨⟨m,u⟩,e1,e2⟩:=Zz.mp h;split at e2
   ·rename_i x;obtain⟨S,P,rfl⟩:=Zy.mp e2;rw[aZ,Ze]at g;obtain⟨f,o,n⟩:=t7 s bs (k+1) S P g.2;have O:=kG e1;subst O;have X:m=k+1:=x;subst X;obtain⟨v,Y,N⟩:=s.rp k _ l;obtain⟨a,rfl,F,E⟩:=lh (show Rp (G.at (rB d)) H v (.obj 0 [(0,.bl B),(k+1,u)]) (M k) from N);have D:d[k]?=Z (.ref a):=F;have hd:d.drop k=.ref a :: d.drop (k+1):=by
     obtain⟨y,e⟩:=Zf.mp D;rw[List.drop_eq_getElem_cons y,e]
    refine⟨?_,?_,λb hb=>?_⟩
    ·rw[hd];exact .cons (E.at G.me g.1) f
    ·show (M k++(Mb M (k+1) bs).flatten).Nodup;refine ZR.mpr ⟨s.nd k _ l,o,λb hb c A z=>?_⟩;subst z;obtain⟨j,p,w,i,Q⟩:=n b A;exact s.sep k j _ _ l i (by omega) b hb Q
    ·rcases Zd.mp (show b∈M k++(Mb M (k+1) bs).flatten from hb) with z | z
     ·exact⟨k,_,Zj _,l,z⟩
     ·obtain⟨j,p,w,i⟩:=n b z;exact⟨j,p,by omega,i⟩
   ·cases e2
  ·cases h
end
section
variable{G:Gx}{P:Re}{w:UF}{K:Xk}{mg:Xg}{base:SZ}
def Wa{x l:Str}{st:Stmt}{f:KM}{fd:P3}{N ps:List Str}{k np U:Nat}{mv:List Bool}{C:Sx}(F:G2 K x l st f fd)(S:jj N ps (aj st))(hp:ps.length=np)(hn:N.length=U)(hb:∀(m:Me)(GS:On)(A:SB)(outer:List PySem.Env)(s:IR)(H:Hp)(E:XK),p0 k (A.deeper (envOfC l (aj st) s.heap.objs.size f GS))->gD (G.at m) (iF Hk P w K mg base N l (aj st) f GS A outer s H E).Jy (aQ st) C) :
  FnOk P w K mg base Hk (k+1) f fd ps (My G mv (Ku np U mv C)):=by
 refine F.ok S (λvs H Q E h=>?_) λGS A outer s H vs Q E hr h=>?_
 ·obtain⟨a,g,t0,d,F0,Fs,os,y,rfl,r0,r,rf,no,SK,hm,nd,sp,e,q⟩:=h;dsimp only[Ku]at e;split at e
  ·rename_i hl;rw[Zi,r.len.1,hl.1,hp]
  ·cases e
 ·obtain⟨a,g,t0,d,F0,Fs,os,y,rfl,r0,r,rf,no,SK,hm,nd,sp,e,q⟩:=h;refine⟨_,hb (rB (.ref a :: g)) GS A outer s H E hr,?_⟩;dsimp only[Ku]at e;split at e
  ·rename_i hl;obtain⟨o,e1,e2⟩:=Zz.mp e;have Nr:∀(bs:List Bool)(d:Wh)(k:Nat),bs.length=d.length->(markL k bs d).length=d.length:=by
    intro bs
    induction bs with
    |nil=>intro d k h;cases d<;>simp_all[markL]
    |cons b bs ih =>
     intro d k h;cases d with
     |nil=>simp at h
     |cons t d=>simp only[markL,Zi];rw[ih d (k+1) (by simpa using h)]
   have m1:=vf (m:=rB (.ref a :: g)) (bs:=mv) 1 (r.at (rB (.ref a :: g)) SK) rf (λj=>by rw[show 1+1+j=(1+j)+1 by omega];show (V.ref a :: g)[1+j]?=_;rw[Nat.add_comm 1 j];rfl) hm;obtain⟨s0,Kj⟩:=rR (mv:=mv) (Rp.mk (m:=1) (show (G.at (rB (.ref a :: g))).me 1=Z (.ref a) from rfl) (r0.at (rB (.ref a :: g)) no)) m1 (by rw[Nr mv d 1 hm];exact hm) nd sp U (g.length+1) Y;rw[Nr mv d 1 hm,hl.1]at s0 Kj;have e3:L2.start N (V.ref a :: g)=(V.ref a :: g).map Z++List.replicate (U-(g.length+1)) L:=by
    unfold L2.start;rw[hn];rfl
   rw[e3];have Nl:∀b,bK (λi=>(F0 :: Fs).getD i []) ((Z (.ow (Ll 1 t0)) :: List.zipWith i4 mv (markL 1 mv d))++List.replicate (U-np) L) b->b∈Hw (B :: mv) (F0 :: Fs):=Kj;have fin:∀{D:VS.Env}{M':GV}{J':L2.St}{p:Hp}{os:Wh},lK D 0 (B :: mv)=Z os->aZ os=B->SR (G.at (rB (.ref a :: g))) M' D J' p->G1 (λi=>(F0 :: Fs).getD i []) ((Z (.ow (Ll 1 t0)) :: List.zipWith i4 mv (markL 1 mv d))++List.replicate (U-np) L) H M' D p →
     ChI G H (B :: mv) (.ref a :: g) (F0 :: Fs) os p (Mb M' 0 (B :: mv)):=λ{D M' J' p os} ho K8 O fr=>by
    obtain⟨h1,h2,h3⟩:=t7 O (B :: mv) 0 os ho K8;refine⟨fr.kept,λX o' J ho=>(fr.keep X o' ho λz=>J (Nl X z)).1,fr.G3,h1,h2,λX J=>?_⟩;obtain⟨j,t,_,a2,a3⟩:=h3 X J;rcases fr.ow X ⟨j,t,a2,a3⟩ with z | z
    ·exact .inl (Nl X z)
    ·exact .inr z
   refine⟨_,_,o,s0,e1,?_⟩;cases o with
   |nx D =>
    obtain⟨UJ,e4,M⟩:=Zz.mp e2;split at M
    ·rename_i hi;cases M;intro M' J' p O fr;exact q .non p _ [] (fin e4 hi O fr) .non Yz (λa h=>nomatch h) λa h=>nomatch h
    ·cases M
   |rt v D =>
    obtain⟨UJ,e4,M⟩:=Zz.mp e2;split at M
    ·rename_i hi;cases M;intro u p F' M' J' O fr r' rf;rcases Bk hi.1 with z | ⟨n,HG,rfl,rfl,z⟩
     ·have:=r'.GQ z;subst this;exact q u p _ [] (fin e4 hi.2 O fr) (r'.at G.me (lj _ z)) Yz (λa h=>nomatch h) λa h=>nomatch h
     ·have ch:=fin e4 hi.2 O fr;exact q u p _ F' ch (r'.at G.me (rg z).2) rf.1 (new_apart ch.rp r' z) λa ha=>(rf.2 a ha).imp id (Nl a)
    ·cases M
   |bk D=>cases e2
   |ct D=>cases e2
  ·cases e
end
section
variable{G:Gx}
def SR.QH{M M':GV}{U U':VS.Env}{J:L2.St}{H H2:Hp}{S:Nat->Prop}(s:SR G M U J H)(hl:U'.length=U.length)(m:∀j,¬S j->U'[j]?=U[j]?/\M' j=M j)(C:∀j,S j->∃t E v,U[j]?=Z (Z (.ow t))/\U'[j]?=Z (Z (.ow E))/\J[j]?=Z (Z v)/\Rp G H2 v E (M' j)/\(M' j).Nodup)(ap:∀i j,S i->S j->i≠j->∀a∈M' i,a∉M' j)(x:Kept H H2)(y:∀b o,(∀j,S j->b∉M j)->H b=Z o->H2 b=Z o)(G3:∀b,H b≠L->H2 b≠L)(A:∀j,S j->∀a∈M' j,(∃i,S i/\a∈M i)\/H a=L) :
  SR G M' U' J H2/\G1 M U H M' U' H2:=by
 have P:∀j c,¬S j->U[j]?=Z (Z c)->∀a∈M j,∀i,S i->a∉M i:=λj c d F a u i f D=>by
  obtain⟨t,_,_,l,_⟩:=C i f;exact s.sep i j t c l F (λe=>d (e ▸ f)) a D u
 have new:∀i,S i->∀a∈M' i,∀j c,¬S j->U[j]?=Z (Z c)->a∉M j:=λi f a u j c d F D=>by
  rcases A i f a u with⟨k,hk,z⟩ | z
  ·exact P j c d F a D k hk z
  ·obtain⟨w,_,q⟩:=s.rp j c F;exact GT.gV (q.G3 a D) z
 refine⟨⟨hl.trans s.len,λi c h=>?_,λi t h=>?_,λi j t c l r n=>?_⟩,⟨λa o h n=>⟨y a o (λj d z=>?_) h,λz=>?_⟩,G3,λa h=>?_,λa h=>?_,x⟩⟩
 ·by_cases f:S i
  ·obtain⟨t,E,v,g,p,O,N,_⟩:=C i f;rw[p]at h;cases h;exact⟨v,O,N⟩
  ·obtain⟨g,p⟩:=m i f;rw[g]at h;obtain⟨v,X,Q⟩:=s.rp i c h;rw[p];exact⟨v,X,Q.keep x λa u o Y=>y a o (λj d=>P i c f h a u j d) Y⟩
 ·by_cases f:S i
  ·exact(C i f).choose_spec.choose_spec.choose_spec.2.2.2.2
  ·obtain⟨g,p⟩:=m i f;rw[g]at h;rw[p];exact s.nd i t h
 ·by_cases f:S i
  ·by_cases d:S j
   ·exact ap i j f d n
   ·obtain⟨g,p⟩:=m j d;rw[g]at r;rw[p];exact λa u=>new i f a u j c d r
  ·obtain⟨g,p⟩:=m i f;rw[g]at l;rw[p];by_cases d:S j
   ·exact λa u D=>new j d a D i _ f l u
   ·obtain⟨O,N⟩:=m j d;rw[O]at r;rw[N];exact s.sep i j t c l r n
 ·obtain⟨t,_,_,l,_⟩:=C j d;exact n ⟨j,t,l,z⟩
 ·obtain⟨j,t,l,r⟩:=z;by_cases d:S j
  ·rcases A j d a r with⟨i,f,z⟩ | z
   ·obtain⟨t,_,_,g,_⟩:=C i f;exact n ⟨i,t,g,z⟩
   ·rw[z]at h;cases h
  ·obtain⟨g,p⟩:=m j d;rw[g]at l;rw[p]at r;exact n ⟨j,t,l,r⟩
 ·obtain⟨j,t,l,r⟩:=h;by_cases d:S j
  ·rcases A j d a r with⟨i,f,z⟩ | z
   ·obtain⟨t,_,_,g,_⟩:=C i f;exact .inl ⟨i,t,g,z⟩
   ·exact .inr z
  ·obtain⟨g,p⟩:=m j d;rw[g]at l;rw[p]at r;exact .inl ⟨j,t,l,r⟩
 ·obtain⟨j,t,l,r⟩:=h;by_cases d:S j
  ·obtain⟨t,E,v,g,p,_⟩:=C j d;rw[p]at l;cases l
  ·obtain⟨g,p⟩:=m j d;rw[g]at l;rw[p]at r;exact .inl ⟨j,t,l,r⟩
end
inductive Ia where | io (i:Nat) (un:Bool) | ex (c:Ex)
def LM(a:Bool):Option (Wk)->Option T
 |some (some (.ow t))=>if a then (KO t).map (·.2) else if oJ t then Z t else L
 |_=>L
def MZ(v:Val):Option T:=match v.1 with
 |.bo=>if GQ v.2 then Z v.2 else L
 |_=>Z v.2
def iI(U:VS.Env):List Ia->Option (Wh)
 |[]=>Z []
 |.io i un :: a=>(LM un U[i]?).bind λt=>(iI U a).map (t :: ·)
 |.ex c :: a=>(c U).bind λv=>(MZ v).bind λt=>(iI U a).map (t :: ·)
def HD:List Ia->List Bool
 |[]=>[]
 |.io _ _ :: a=>B :: HD a
 |.ex _ :: a=>R :: HD a
def Hl:List Ia->Wq
 |[]=>[]
 |.io i _ :: a=>i :: Hl a
 |.ex _ :: a=>Hl a
def oI(a:Bool)(c:Option (Wk))(o:T):T:=if a then (match c with
 |some (some (.ow t))=>(match KO t with
  |some z=>Ll z.1 o
  |none=>o)
 |_=>o) else o
def iA:List Ia->Wh->VS.Env->VS.Env
 |.io i un :: a,o :: os,U=>iA a os (U.set i (Z (.ow (oI un U[i]? o))))
 |.ex _ :: a,os,U=>iA a os U
 |_,_,U=>U
def fI(a:List Ia)(g:Wh->Option (Wh×T)):Xx:=λU=>(iI U a).bind λb=>if aZ b=B/\(Hl a).Nodup then (g b).map λz=>((.fr,z.2),iA a z.1 U) else L
inductive Kp(M:GV)(U:VS.Env)(J:L2.St)(H:Hp):List Ia->List V->Xl->Prop
 |nil:Kp M U J H [] [] []
 |io {i:Nat} {un:Bool} {a:KM} {as:List Ia} {vs:List V} {Fs:Xl}:J[i]?=some (some (.ref a))->Kp M U J H as vs Fs->Kp M U J H (.io i un :: as) (.ref a :: vs) (M i :: Fs)
 |ex {c:Ex} {v:V} {F:Xa} {as:List Ia} {vs:List V} {Fs:Xl}:(∀a∈F,H a=none\/cT M U a)->Kp M U J H as vs Fs->Kp M U J H (.ex c :: as) (v :: vs) (F :: Fs)
def Uq(G:Gx)(e:List Ia):TA:=λJ H Q=>∃M U d,SR G M U J H/\iI U e=Z d/\∀a b f,aC H b->RpL G b a d f->Kp M U J H e a f->Q a b
def Nd(G:Gx)(X:Cx)(a:List Expr)(b:List Ia):Prop:=PA X a (Uq G b)
section
variable{G:Gx}{X:Cx}{e:Expr}{es:List Expr}{as:List Ia}{c:Ex}{pos:Pos}
def wQ{H:Hp}{v:V}{t:T}{F:Xa}(r:Rp G H v t F)(h:oJ t=B):∃a,v=.ref a:=by
 cases r<;>first | exact⟨_,rfl⟩ | (cases h)
def Kp.mono{M:GV}{U:VS.Env}{J:L2.St}{H g:Hp}(e:aC H g){f:List Ia}{d:List V}{i:Xl}(h:Kp M U J g f d i):Kp M U J H f d i:=by
 induction h with
 |nil=>exact .nil
 |io h _ b=>exact .io h b
 |ex h _ b=>exact .ex (λa j=>(h a j).imp e.free id) b
def By:Nd G X [] []:=PA.weak dv λJ H Q a=>by
 obtain⟨M,U,b,s,e,k⟩:=a;cases e;exact k [] H [] (aC.refl _) .nil .nil
def CT(i:Nat)(f:Bool){x:Str}(D:X.N[i]?=Z x)(q:IG X.env.scope x)(C:K3 x)(d:K4 x)(y:Nd G X es as)(w:Pv (.Name x pos :: es) X.env=(R,eval (.Name x pos) X.env) :: Pv es X.env):Nd G X (.Name x pos :: es) (.io i f :: as) :=
 PA.weak (bA (fJ D q C d) y w) λJ H Q z=>by
  obtain⟨M,U,j,s,e,k⟩:=z;obtain⟨t,e1,e2⟩:=Zz.mp (show (LM f U[i]?).bind (λt=>(iI U as).map (t :: ·))=Z j from e);obtain⟨Y,S,rfl⟩:=Zy.mp e2;unfold LM at e1;split at e1
  ·rename_i l F;obtain⟨v,h,E⟩:=s.rp _ _ F;have b:Rp G H v l (M i):=E;have key:∃a,v=.ref a/\Rp G H (.ref a) t (M i):=by
    split at e1
    ·obtain⟨⟨m,u⟩,P,O⟩:=Zy.mp e1;cases O;rw[kG P]at b;obtain⟨a,o,_,n⟩:=lh b;exact⟨a,o,n⟩
    ·split at e1
     ·rename_i A;cases e1;obtain⟨a,rfl⟩:=wQ b A;exact⟨a,rfl,b⟩
     ·cases e1
   obtain⟨a,rfl,r⟩:=key;exact⟨_,h,M,U,Y,s,S,λvs H' Fs g rp p=>k _ H' _ g (.cons (r.same g) rp) (.io h p)⟩
  ·cases e1
def zg(h:PV G X e c)(p:Nd G X es as)(o:K1 e es X):Nd G X (e :: es) (.ex c :: as) :=
 PA.weak (bA h p o) λJ H Q q=>by
  obtain⟨M,U,j,s,e,k⟩:=q;obtain⟨⟨m,t⟩,e1,e2⟩:=Zz.mp (show (c U).bind (λv=>(MZ v).bind λt=>(iI U as).map (t :: ·))=Z j from e);obtain⟨l,b,y⟩:=Zz.mp e2;obtain⟨z,x,rfl⟩:=Zy.mp y;refine⟨M,U,m,t,s,e1,λv D F d r f=>⟨M,U,z,s.same d,x,λC A E i rp n=>?_⟩⟩;have key:l=t/\∀a∈F,H a=L\/cT M U a:=by
   unfold MZ at b;cases m with
   |fr=>cases b;exact⟨rfl,λa g=>.inl (f.2 a g)⟩
   |pu=>cases b;exact⟨rfl,f⟩
   |bo =>
    dsimp only at b;split at b
    ·rename_i u;cases b;rw[r.GQ u];exact⟨rfl,λa g=>nomatch g⟩
    ·cases b
  obtain⟨rfl,w⟩:=key;exact k _ A _ (d.trans i) (.cons (r.same i) rp) (.ex w (n.mono d))
end
section
variable{G:Gx}{M:GV}{U:VS.Env}{J:L2.St}{H:Hp}
structure IaF(G:Gx)(M:GV)(U:VS.Env)(J:L2.St)(H:Hp)(as:List Ia)(ts:Wh)(vs:List V)(Fs:Xl):Prop where
 ref:∀v∈dM (HD as) vs,∃b,v=.ref b
 len:(HD as).length=ts.length
 mv:∀a,a∈Hw (HD as) Fs ↔ ∃j∈Hl as,a∈M j
 pu:∀a∈JK (HD as) Fs,H a=none\/cT M U a
 ow:∀i un,Ia.io i un∈as->∃t a,U[i]?=some (some (.ow t))/\J[i]?=some (some (.ref a))/\(un=true->∃m u,KO t=some (m,u)/\G.me m=some (.ref a))
 nd:(Hl as).Nodup->(Hw (HD as) Fs).Nodup
theorem jm:∀{a:List Ia}{i:Nat},i∈Hl a ↔ ∃un,Ia.io i un∈a
 |[],i=>⟨(λh=>nomatch h),λ⟨_,h⟩=>nomatch h⟩
 |.io j un :: a,i=>by
  show i∈j :: Hl a↔_;rw[Zp,jm];constructor
  ·rintro (rfl | ⟨u,h⟩)
   ·exact⟨un,Zv⟩
   ·exact⟨u,Zw _ h⟩
  ·rintro⟨u,h⟩;rcases Zp.mp h with h | h
   ·cases h;exact .inl Y
   ·exact .inr ⟨u,h⟩
 |.ex c :: a,i=>by
  show i∈Hl a↔_;rw[jm];exact⟨λ⟨u,h⟩=>⟨u,Zw _ h⟩,λ⟨u,h⟩=>by
   rcases Zp.mp h with h | h
   ·cases h
   ·exact⟨u,h⟩⟩
def xu(s:SR G M U J H):∀{d:List Ia}{q:Wh}{o:List V}{l:Xl},iI U d=Z q->Kp M U J H d o l->IaF G M U J H d q o l:=by
 intro d
 induction d with
 |nil =>
  intro q o l e r;cases e;cases r;exact⟨(λv h=>nomatch h),rfl,λa=>⟨(λh=>nomatch h),λ⟨_,h,_⟩=>nomatch h⟩,(λa h=>nomatch h),(λi un h=>nomatch h),λ_=>Yz⟩
 |cons x d P =>
  intro q o l e r;cases r with
  |@io i un a _ o l h r =>
   obtain⟨t,e1,e2⟩:=Zz.mp (show (LM un U[i]?).bind (λt=>(iI U d).map (t :: ·))=Z q from e);obtain⟨O,e3,rfl⟩:=Zy.mp e2;have f:=P e3 r;have hi:∃p,U[i]?=Z (Z (.ow p))/\(un=B->∃m u,KO p=Z (m,u)/\G.me m=Z (.ref a)):=by
    unfold LM at e1;split at e1
    ·rename_i p w;refine⟨p,w,λE=>?_⟩;rw[E,Zq Y]at e1;obtain⟨⟨m,u⟩,A,g2⟩:=Zy.mp e1;obtain⟨v,Q,h2⟩:=s.rp _ _ w;rw[h]at Q;cases Q;have S:Rp G H (.ref a) p (M i):=h2;rw[kG A]at S;obtain⟨a',q1,q2,_⟩:=lh S;cases q1;exact⟨m,u,A,q2⟩
    ·cases e1
   obtain⟨p,w,E⟩:=hi;have US:∀b,b∈M i++Hw (HD d) l ↔ ∃j∈i :: Hl d,b∈M j:=λb=>by
    rw[Zd,f.mv];constructor
    ·rintro (z | ⟨j,n,z⟩)
     ·exact⟨i,Zv,z⟩
     ·exact⟨j,Zw _ n,z⟩
    ·rintro⟨j,n,z⟩;rcases Zp.mp n with rfl | n
     ·exact .inl z
     ·exact .inr ⟨j,n,z⟩
   refine⟨λv D=>?_,?_,US,?_,λC y g=>?_,λnd=>?_⟩
   ·rcases Zp.mp (show v∈V.ref a :: dM (HD d) o from D) with rfl | D
    ·exact⟨a,rfl⟩
    ·exact f.ref v D
   ·show (HD d).length+1=O.length+1;rw[f.len]
   ·exact λb hb=>f.pu b hb
   ·rcases Zp.mp g with g | g
    ·cases g;exact⟨p,a,w,h,E⟩
    ·exact f.ow C y g
   ·have X:=Zg.mp (show (i :: Hl d).Nodup from nd);show (M i++Hw (HD d) l).Nodup;refine ZR.mpr ⟨s.nd i _ w,f.nd X.2,λb hb b' N z=>?_⟩;subst z;obtain⟨j,n,z⟩:=(f.mv b).mp N;obtain⟨y,Kv⟩:=jm.mp n;obtain⟨t',_,A,_⟩:=f.ow j y Kv;exact s.sep i j _ _ w A (λe=>X.1 (e ▸ n)) b hb z
  |@ex c v F _ o l h r =>
   obtain⟨⟨m,t⟩,e1,e2⟩:=Zz.mp (show (c U).bind (λv=>(MZ v).bind λt=>(iI U d).map (t :: ·))=Z q from e);obtain⟨t',_,e4⟩:=Zz.mp e2;obtain⟨O,e5,rfl⟩:=Zy.mp e4;have f:=P e5 r;refine⟨f.ref,?_,f.mv,λa ha=>?_,λC y g=>?_,f.nd⟩
   ·show (HD d).length+1=O.length+1;rw[f.len]
   ·rcases Zd.mp (show a∈F++JK (HD d) l from ha) with z | z
    ·exact h a z
    ·exact f.pu a z
   ·rcases Zp.mp g with g | g
    ·cases g
    ·exact f.ow C y g
def wx{H2:Hp}:∀{d:List Ia}{vs:List V}{Fs:Xl}{os:Wh}{Gs:Xl}{U:VS.Env},(∀i un,Ia.io i un∈d->∃t a,U[i]?=Z (Z (.ow t))/\J[i]?=Z (Z (.ref a))/\(un=B->∃m u,KO t=Z (m,u)/\G.me m=Z (.ref a)))->(Hl d).Nodup →
  (∀(n:Nat)(v:V),(dM (HD d) vs)[n]?=Z v->∃i:Nat,(Hl d)[n]?=Z i/\J[i]?=Z (Z v))->RpL G H2 (dM (HD d) vs) os Gs->(dM (HD d) vs).length=(Hl d).length →
  (iA d os U).length=U.length/\(∀j:Nat,j∉Hl d->(iA d os U)[j]?=U[j]?)/\∀(n j:Nat),(Hl d)[n]?=Z j->∃(t l:T)(v:V)(F:Xa),U[j]?=Z (Z (Cell.ow t))/\(iA d os U)[j]?=Z (Z (Cell.ow l))/\J[j]?=Z (Z v)/\Gs[n]?=Z F/\Rp G H2 v l F:=by
 intro d
 induction d with
 |nil=>intro vs Fs os Gs U _ _ _ r _;exact⟨rfl,λ_ _=>rfl,λn j h=>by simp[Hl]at h⟩
 |cons x d A =>
  intro vs Fs os Gs U ow nd al r q;cases x with
  |ex c =>
   cases vs with
   |nil =>
    have e:(dM (HD (.ex c :: d)) ([]:List V))=[]:=rfl;have e2:Hl d=[]:=XZ.mp (by rw[e]at q;exact q.symm);rw[e]at r;cases r;obtain⟨N,s,E⟩:=A (vs:=[]) (os:=[]) (Gs:=[]) (Fs:=Fs) (U:=U) (λi un h=>ow i un (Zw _ h)) nd (λn v h=>by cases HD d<;>(try rename_i b _;cases b)<;>simp[dM]at h) (by cases HD d<;>(try rename_i b _;cases b)<;>exact .nil) (by rw[e2];cases HD d<;>(try rename_i b _;cases b)<;>rfl);exact⟨N,s,E⟩
   |cons v vs=>exact A (Fs:=Fs) (λi un h=>ow i un (Zw _ h)) nd al r q
  |io i un =>
   have y:=Zg.mp (show (i :: Hl d).Nodup from nd);cases vs with
   |nil=>simp[HD,dM,Hl]at q
   |cons v vs =>
    cases r with
    |@cons _ o F _ os Gs O r =>
     obtain⟨t,a,D,Q,hu⟩:=ow i un Zv;have VD:i<U.length:=(Zf.mp D).1;have hv:v=.ref a:=by
      obtain⟨p,g,f⟩:=al 0 v Y;cases (show Z i=Z p from g);rw[Q]at f;cases f;rfl
     subst hv;obtain⟨N,s,E⟩:=A (vs:=vs) (os:=os) (Gs:=Gs) (Fs:=Fs) (U:=U.set i (Z (.ow (oI un U[i]? o)))) (λp X h=>by
      obtain⟨l,a',g,f⟩:=ow p X (Zw _ h);have ne:i≠p:=λe=>y.1 (e ▸ jm.mpr ⟨X,h⟩);exact⟨l,a',by rw[Yr ne];exact g,f⟩) y.2 (λn w h=>by
      obtain⟨p,g,f⟩:=al (n+1) w h;exact⟨p,g,f⟩) r (by simpa[HD,dM,Hl] using q)
     refine⟨by rw[show iA (.io i un :: d) (o :: os) U=iA d os (U.set i (Z (.ow (oI un U[i]? o)))) from rfl,N,Z8],λj P=>?_,λn j C=>?_⟩
     ·have S:j≠i/\j∉Hl d:=⟨λe=>P (e ▸ Zv),λz=>P (Zw _ z)⟩
      exact(s j S.2).trans (Yr (Yi S.1))
     ·cases n with
      |zero =>
       cases (show Z i=Z j from C);refine⟨t,_,.ref a,F,D,(s i y.1).trans (Xz VD),Q,rfl,?_⟩;cases un with
       |false=>exact O
       |true =>
        obtain⟨m,u,g,f⟩:=hu Y;have:oI B U[i]? o=Ll m o:=by
         unfold oI;rw[Zq Y,D];show (match KO t with | some z=>Ll z.1 o | none=>o)=_;rw[g]
        rw[this];exact .mk f O
      |succ n =>
       obtain⟨l,t2,v',F',g,f,g3,g4,g5⟩:=E n j C;have ne:i≠j:=λe=>y.1 (e ▸ YO (show (Hl d)[n]?=Z j from C));rw[Yr ne]at g;exact⟨l,t2,v',F',g,f,g3,g4,g5⟩
def Fh{j:Hp}:∀{b:List Ia}{d:List V}{f:Xl},Kp M U J j b d f->(∀(n:Nat)(v:V),(dM (HD b) d)[n]?=Z v->∃i:Nat,(Hl b)[n]?=Z i/\J[i]?=Z (Z v))/\(dM (HD b) d).length=(Hl b).length:=by
 intro b d f r
 induction r with
 |nil=>exact⟨λn v h=>by simp[HD,dM]at h,rfl⟩
 |@io i un a b d f h _ e =>
  refine⟨λn v g=>?_,by simpa[HD,dM,Hl] using e.2⟩;cases n with
  |zero=>cases (show Z (V.ref a)=Z v from g);exact⟨i,rfl,h⟩
  |succ n=>exact e.1 n v g
 |ex _ _ e=>exact e
end
section
variable{G:Gx}{X:Cx}{k:Nat}{f:KM}{fd:P3}{ps:List Str}{x:Str}{p pos:Pos}{e:Expr}{es:List Expr}{as:List Ia}{i:Nat}{un:Bool}{g:Wh->Option (Wh×T)}
structure OV(M:GV)(U:VS.Env)(H:Hp)(M':GV)(U':VS.Env)(F:Xa):Prop where
 nd:F.Nodup
 ap:∀j c,U'[j]?=some (some c)->∀a∈F,a∉M' j
 of:∀a∈F,H a=none\/bK M U a
def PY(G:Gx)(x:Xx):TE:=λJ H Q=>∃M U v a,SR G M U J H/\x U=Z (v,a)/\∀u b d F,SR G d a J b->G1 M U H d a b->Rp G b u v.2 F->OV M U H d a F->Q u b
def PXN(G:Gx)(X:Cx)(e:Expr)(x:Xx):Prop:=PE X e (PY G x)
def PXN.px{x:Xx}(h:PXN G X e x):PX G X e x:=PE.weak h λJ H Q b=>by
 obtain⟨M,U,v,j,s,e,d,k⟩:=b;exact⟨M,U,v,j,s,e,λu m l F a f r _=>k u m l a f (r.GQ d ▸ r)⟩
def OV.back{M h j:GV}{U b d:VS.Env}{H l:Hp}{F:Xa}(f:G1 M U H h b l)(n:OV h b l j d F):OV M U H j d F :=
 ⟨n.nd,n.ap,λa m=>(n.of a m).elim (λz=>.inl (f.none z)) λz=>(f.ow a z).elim .inr .inl⟩
def nH{M:GV}{U U':VS.Env}{J:L2.St}{H H1:Hp}{v:Val}{ts:Wh}{vs:List V}{Fs:Xl}{Q:VK}{E:XK}(s:SR G M U J H)(e:fI (.io i un :: as) g U=Z (v,U'))(e0:iI U (.io i un :: as)=Z ts)(sm:aC H H1)(rp:RpL G H1 vs ts Fs)(ia:Kp M U J H (.io i un :: as) vs Fs)(kq:∀u P M' F,SR G M' U' J P->G1 M U H M' U' P->Rp G P u v.2 F->OV M U H M' U' F->Q u P):My G (HD as) g vs H1 Q E:=by
 unfold fI at e;rw[e0,Zx]at e;have e2:=e;have e1:=e0;split at e2
 ·rename_i O;obtain⟨⟨os,y⟩,eg,e3⟩:=Zy.mp e2
  ·cases e3;have r:=xu s e1 ia;have al:=Fh ia;cases ia with
   |@io _ _ a _ us Fs hσ ia =>
    cases rp with
    |@cons _ t0 _ _ HG _ r0 rp =>
     have no:d8 t0=B/\aZ HG=B:=by
      have:=O.1;rw[aZ,Ze]at this;exact this
     refine⟨a,us,t0,HG,M i,Fs,os,y,rfl,r0,rp,λv hv=>r.ref v (Zw _ hv),no.1,no.2,by simpa[HD] using r.len,r.nd O.2,λb hb hb'=>?_,eg,λu P Gs Fu ch ru V9 fap V8=>?_⟩
     ·obtain⟨j,d,z⟩:=(r.mv b).mp hb;obtain⟨Kg,Y⟩:=jm.mp d;obtain⟨t,_,A,_⟩:=r.ow j Kg Y;rcases r.pu b hb' with q | ⟨j2,t2,N,D⟩
      ·exact GT.gV (s.G7 ⟨j,t,A,z⟩) q
      ·refine s.sep j j2 t _ A N (λe=>?_) b z D;rw[e,N]at A;cases A
     ·obtain⟨p1,p2,p3⟩:=wx (Fs:=[]) (U:=U) r.ow O.2 al.1 ch.rp al.2;have at_:∀j,j∈Hl (.io i un :: as)->∃n F,(Hl (.io i un :: as))[n]?=Z j/\n=(Hl (.io i un :: as)).idxOf j/\Gs[n]?=Z F:=λj d=>by
       have hn:=Xb.mpr d;have:(Hl (.io i un :: as))[(Hl (.io i un :: as)).idxOf j]?=Z j:=by
        rw[Zr hn,List.getElem_idxOf]
       obtain⟨_,_,_,F,_,_,_,q,_⟩:=p3 _ j this;exact⟨_,F,this,rfl,q⟩
      have Φe:∀j,j∈Hl (.io i un :: as)->(if j∈Hl (.io i un :: as) then Gs.getD ((Hl (.io i un :: as)).idxOf j) [] else M j)=Gs.getD ((Hl (.io i un :: as)).idxOf j) []:=λj d=>Zq d;obtain⟨z1,z2⟩:=s.QH (S:=λj=>j∈Hl (.io i un :: as)) (H2:=P) (U':=iA (.io i un :: as) os U) (M':=λj=>if j∈Hl (.io i un :: as) then Gs.getD ((Hl (.io i un :: as)).idxOf j) [] else M j) p1 (λj d=>⟨p2 j d,Zn d⟩) (λj d=>by
       obtain⟨n,F,N,D,m⟩:=at_ j d
       obtain⟨t,t',v,F',w1,w2,w3,w4,w5⟩:=p3 n j N;rw[m]at w4;cases w4;have eF:(if j∈Hl (.io i un :: as) then Gs.getD ((Hl (.io i un :: as)).idxOf j) [] else M j)=F:=by rw[Φe j d,← D,Zs,m];rfl
       refine⟨t,t',v,w1,w2,w3,?_,?_⟩
       ·rw[eF];exact w5
       ·rw[eF];exact ch.nd.sublist (cH m)) (λj j' d Y n a l C=>by
       rw[Φe j d]at l;rw[Φe j' Y]at C;obtain⟨n1,F,N,D,m⟩:=at_ j d
       obtain⟨n2,F',NT,P5,SD⟩:=at_ j' Y
       rw[← D,Zs,m]at l;rw[← P5,Zs,SD]at C;exact qb ch.nd m SD (λe=>n (by rw[e,NT]at N;exact(Zm N).symm)) l C) ((Kept.of sm).trans ch.kept) (λb o hb ho=>ch.keep b o (λz=>by
       obtain⟨j,d,z'⟩:=(r.mv b).mp z;exact hb j d z') (sm b o ho)) (λb h=>ch.G3 b λz=>h (sm.free z)) (λj d a l=>by
       rw[Φe j d]at l;obtain⟨n1,F,N,D,m⟩:=at_ j d
       rw[← D,Zs,m]at l;rcases ch.sub a ((cH m).subset l) with z | z
       ·exact .inl ((r.mv a).mp z)
       ·exact .inr (sm.free z))
      have OB:∀a∈Fu,H a=L\/∃j t,j∈Hl (.io i un :: as)/\U[j]?=Z (Z (.ow t))/\a∈M j:=λa l=>by
       rcases V8 a l with z | z
       ·exact .inl (sm.free z)
       ·obtain⟨j,d,z'⟩:=(r.mv a).mp z;obtain⟨Kg,Y⟩:=jm.mp d;obtain⟨t,_,A,_⟩:=r.ow j Kg Y;exact .inr ⟨j,t,d,A,z'⟩
      refine kq u P _ Fu z1 z2 ru ⟨V9,λj c O a l C=>?_,λa l=>(OB a l).imp id λ⟨j,t,_,A,g2⟩=>⟨j,t,A,g2⟩⟩;by_cases d:j∈Hl (.io i un :: as)
      ·rw[Φe j d]at C;obtain⟨n1,F,N,D,m⟩:=at_ j d
       rw[← D,Zs,m]at C;exact fap a l ((cH m).subset C)
      ·rw[Zn d]at C;rw[p2 j d]at O;rcases OB a l with z | ⟨j2,t,g0,A,g2⟩
       ·obtain⟨w,_,q⟩:=s.rp j c O;exact GT.gV (q.G3 a C) z
       ·exact s.sep j2 j t c A O (λe=>d (e ▸ g0)) a g2 C
 ·cases e2
def yP(F:FnOk X.prog X.w X.K X.mg X.base Hk k f fd ps (My G (HD as) g))(q:p0 k X.A)(z:Gl X x)(t:X.mg x=Z (.ref f))(y:PySem.W.keepIn X.K (.ref f)=B)(D:Binds X.K fd ps [])(N:Nd G X (e :: es) (.io i un :: as))(S:K3 x)(C:K1 e es X)(a:K2 pos es X):PX G X (.Call (.Name x p) (e :: es) [] pos) (fI (.io i un :: as) g) :=
 PE.weak (mr (E:=E0) F q z t y D .nil g6 N S C a) λJ H Q h=>by
  obtain⟨M,U,v,U',s,e,P,n⟩:=h;have b:=e;unfold fI at b;obtain⟨j,e1,_⟩:=Zz.mp b;refine⟨M,U,j,s,e1,λd Y Fs l rp o=>?_⟩;show My G (HD as) g (d++[]) Y Q _;rw[ZV];exact nH s e e1 l rp o λu H' O F m f r _=>n u H' O m f (r.GQ P ▸ r)
end
def Ny(c:Ex):Ex:=λU=>(c U).bind λv=>(KO v.2).map λz=>(v.1,z.2)
abbrev Xt:=VS.Env->Option (Bool×VS.Env)
def Sn(G:Gx)(x:Xt):TT:=λJ H Q=>∃M U b a,SR G M U J H/\x U=Z (b,a)/\∀d e,SR G e a J d->G1 M U H e a d->Q b d
def LY(G:Gx)(X:Cx)(e:Expr)(x:Xt):Prop:=PT X e (Sn G x)
def OU(G:Gx)(X:Cx)(e:Expr)(x:Xt):Prop:=PW X e (Sn G x)
def KJ(x:Xx):Xt:=λU=>(x U).bind λz=>match z.1.2 with
 |.bl b=>Z (b,z.2)
 |_=>L
def Cc(x:Xt):Xt:=λU=>(x U).map λz=>(!z.1,z.2)
def qL(x:Xt)(a b:Sx):Sx:=λU=>(x U).bind λz=>if z.1 then a z.2 else b z.2
section
variable{G:Gx}{X:Cx}{e a b:Expr}{rest:List Expr}{c cb:Ex}{x:Xx}{xt:Xt}{pos pos':Pos}{c1 c2:Sx}
def E8(h:PV G X e c):PV G X e (Ny c):=PE.weak h λJ H Q l=>by
 obtain⟨M,U,m,t,s,e,k⟩:=l;obtain⟨⟨j,y⟩,e1,e2⟩:=Zz.mp e;obtain⟨⟨n,u⟩,p,o⟩:=Zy.mp e2;cases o;refine⟨M,U,j,y,s,e1,λv g F i r f=>k v g F i ?_ f⟩;have d:Rp G g v y F:=r;rw[kG (show KO y=Z (n,u) from p)]at d;obtain⟨a,rfl,_,q⟩:=lh d;exact q
def Av(h:PX G X e x)(i:∀whole,isTrue e X.env whole=(do let v ← whole;standAt e.pos;holding [v] (truthy v))):LY G X e (KJ x) :=
 PT.weak (Cv h i) λJ H Q g=>by
  obtain⟨M,U,b,o,s,e,k⟩:=g;obtain⟨⟨⟨m,t⟩,n⟩,e1,e2⟩:=Zz.mp e;dsimp only at e2;split at e2
  ·cases e2;exact⟨M,U,_,_,s,e1,rfl,λu l j d f r=>⟨b,r.Hz,k l j d f⟩⟩
  ·cases e2
def zJ(h:LY G X e xt):LY G X (.UnaryOp .Not e pos) (Cc xt):=PT.weak (yW h) λJ H Q d=>by
 obtain⟨M,U,b,i,s,e,k⟩:=d;obtain⟨⟨f,g⟩,e1,e2⟩:=Zy.mp e;cases e2;exact⟨M,U,f,_,s,e1,k⟩
def OU.UG(h:OU G X e xt):LY G X e xt:=PW.pt h
def t6{h f:List Stmt}(l:LY G X e xt)(n:gD G X h c1)(m:gD G X f c2):PSV G X (.If e h f pos) (qL xt c1 c2):=PS.weak (BZ l n m) λD J H j=>by
 obtain⟨M,U,o,s,e,k⟩:=j;obtain⟨⟨g,d⟩,e1,e2⟩:=Zz.mp e;refine⟨M,U,g,d,s,e1,λp i s1 f1=>?_⟩;cases g with
 |true=>exact vU ⟨i,d,o,s1,e2,k.back f1⟩
 |false=>exact wg ⟨i,d,o,s1,e2,k.back f1⟩
end
structure IoAt(P:Re)(w:UF)(K:Xk)(mg:Xg)(base:SZ)(k:Nat)(x:Str)(ps:List Str)(G:Gx)(mv:List Bool)(g:Wh->Option (Wh×T)):Prop where
 ex:∃f fd,FnOk P w K mg base Hk k f fd ps (My G mv g)/\mg x=some (.ref f)/\PySem.W.keepIn K (.ref f)=true/\Binds K fd ps []
section
variable{P:Re}{w:UF}{K:Xk}{mg:Xg}{base:SZ}{k:Nat}{G:Gx}{x:Str}{ps:List Str}{mv:List Bool}
def mP{a:Stmt}{f:KM}{i:P3}{N:List Str}{g h:Nat}{b:Sx}(F:G2 K x x a f i)(n:mg x=Z (.ref f))(S:jj N ps (aj a))(j:ps.length=g)(l:N.length=h)(p:∀(kV doc pm:On)(an:Option KM)(d ct:On)(e:X3),e.length=ps.length->bindArgs (PySem.W.fnOf x x (cR a) (aQ a) (aj a) .none kV doc pm an d ct) ⟨e,[]⟩=pure (ps.zip e))(o:∀(m:Me)(d:On)(A:SB)(outer:List PySem.Env)(s:IR)(H:Hp)(E:XK),p0 k (A.deeper (envOfC x (aj a) s.heap.objs.size f d))->gD (G.at m) (iF Hk P w K mg base N x (aj a) f d A outer s H E).Jy (aQ a) b) :
  IoAt P w K mg base (k+1) x ps G mv (Ku g h mv b):=⟨f,i,Wa F S j l o,n,F.kp,F.binds p⟩
end
section
variable{G:Gx}{X:Cx}{e a b:Expr}{es rest:List Expr}{as:List Ia}{c cb:Ex}{xc:Xx}{xt:Xt}{p pos pos':Pos}{c1 c2:Sx}{i k k':Nat}{un:Bool}{x:Str}{ps:List Str}{g:Wh->Option (Wh×T)}{way:List Jm}
def zZ(F:IoAt X.prog X.w X.K X.mg X.base k x ps G (HD as) g)(h:p0 k' X.A)(n:Nd G X (e :: es) (.io i un :: as))(j:k<=k')(l:Gl X x)(t:K3 x)(m:K1 e es X)(d:K2 pos es X) :
  PX G X (.Call (.Name x p) (e :: es) [] pos) (fI (.io i un :: as) g):=by
 obtain⟨f,fd,s,r,q,o⟩:=F.ex;exact yP s (h.mono j) l r q o n t m d
end
end VS
end
section
namespace VS
open PySem PySem.Spec PyProof.Rows L2
section
variable{G:Gx}{X:Cx}{e b:Expr}{ck ce:Ex}{pos pos' p1:Pos}{kr:Nat}
def nM{a b c:Expr}{g f d:Ex}(o:PV G X a g)(n:PV G X b f)(l:PV G X c d)(j:lastMarks [.Lt,.Lt] [b,c]=R):Ip G X (.Compare a [.Lt,.Lt] [b,c] pos) (eY oLt oLt g f d) :=
 PT.weak (sD qd qd o n l j) λJ H Q h=>nB h (λU m r e=>by
  unfold eY at e;obtain⟨x,v,e⟩:=Zz.mp e;obtain⟨y,u,e⟩:=Zz.mp e;obtain⟨⟨p,z⟩,s,e⟩:=Zz.mp e;cases z with
  |bl q =>
   cases q with
   |false=>cases e;exact⟨_,rfl⟩
   |true =>
    obtain⟨i,t,e⟩:=Zz.mp (show (d U).bind (λz=>oLt y z)=Z (m,r) from e);exact kC y i m r e
  |_=>cases e) λQ h=>rC uB uB h
end
def xI(c:Ex):Xx:=λU=>(c U).bind λv=>if GQ v.2=B then Z ((.fr,v.2),U) else L
def x2(f:Val->Val->Wi)(a b:Xx):Xx:=λU=>(a U).bind λz=>(b z.2).bind λw=>(f (.fr,z.1.2) (.fr,w.1.2)).bind λv=>if GQ z.1.2=B/\GQ w.1.2=B/\GQ v.2=B then Z ((.fr,v.2),w.2) else L
def iP(c:Ex)(x:Xt):Xt:=λU=>(c U).bind λv=>(Lj v.2).bind λb=>if b then x U else Z (R,U)
def lX(c:Ex)(b:Xx):Xx:=λU=>(c U).bind λx=>match x with
 | (.fr,.lst a)=>(b U).bind λz=>match z.1.2 with
  |.int i=>(HJ a.length i).bind λj=>(a[j]?).bind λt=>if eQ a=B/\GQ t=B then Z ((.fr,t),z.2) else L
  |_=>L
 |_=>L
def oR(n:Nat)(b:Xx):Xx:=λU=>match (U[n]?:Option (Wk)) with
 |some (some _)=>(b U).bind λz=>match z.1.2,(z.2[n]?:Option (Wk)) with
  |.int i,some (some c)=>(match iO c with
   |.lst a=>(HJ a.length i).bind λj=>(a[j]?).bind λt=>if GQ t=B then Z ((.fr,t),z.2) else L
   |_=>L)
  |_,_=>L
 |_=>L
section
variable{G:Gx}{X:Cx}{e a b:Expr}{rest:List Expr}{ca cb:Ex}{xa xb:Xx}{xt:Xt}{pos:Pos}{f:Val->Val->Wi}{r:R2}
def ay(h:PV G X e ca):PX G X e (xI ca):=PE.weak h λJ H Q g=>by
 obtain⟨M,U,v,n,s,e,l,k⟩:=g;obtain⟨⟨m,t⟩,e1,e2⟩:=Zz.mp e;split at e2
 ·rename_i i;cases e2;refine⟨M,U,m,t,s,e1,λu j F d r f=>k u j M (s.same d) (G1.same d) ?_⟩;have:=r.GQ i;subst this;exact r
 ·cases e2
def zI(x:fE G r f){J:L2.St}{H:Hp}{Q:VK}(h:tX G (x2 f xa xb) J H Q):NM r (tX G xa) (tX G xb) J H Q:=by
 obtain⟨M,U,v,O,s,e,E,k⟩:=h;obtain⟨z,A,e1⟩:=Zz.mp e;obtain⟨w,y,e2⟩:=Zz.mp e1;obtain⟨⟨m,t⟩,ef,g⟩:=Zz.mp e2;split at g
 ·rename_i d;cases g;refine⟨M,U,z.1,z.2,s,A,d.1,λq P C s1 f1 r1=>⟨C,z.2,w.1,w.2,s1,y,d.2.1,λp n l u f2 r2=>?_⟩⟩;refine x l w.2 n n (.fr,z.1.2) (.fr,w.1.2) q p [] [] m t Q ⟨aC.refl _,r1.keep f2.kept (λa h=>nomatch h),r2,Fp.nil,Fp.nil,λ_ _=>Yz⟩ ef λo D F i j N=>k o D l (u.same i) ((f1.trans f2).trans (G1.same i)) ?_;have:=j.GQ d.2.2;subst this;exact j
 ·cases g
def B8{d:Operator}(i:OpR X (binaryOp d) r)(g:fE G r f)(l:PX G X a xa)(j:PX G X b xb):PX G X (.BinOp a d b pos) (x2 f xa xb):=PE.weak (xO i l j) λJ H Q h=>zI g h
def uR{d:CmpOp}(l:OpR X (SL d) r)(j:fE G r f)(p:PX G X a xa)(o:PX G X b xb)(n:behindInMarks d b=R):LY G X (.Compare a [d] [b] pos) (KJ (x2 f xa xb)):=PT.weak (vo l p o n) λJ H Q h=>by
 obtain⟨M,U,b,w,s,e,k⟩:=h;obtain⟨⟨⟨m,t⟩,v⟩,e1,e2⟩:=Zz.mp e;dsimp only at e2;split at e2
 ·cases e2;exact zI (Q:=λx g=>∃k,x=.bl k/\Q k g) j ⟨M,U,_,_,s,e1,rfl,λu g q i f r=>⟨b,r.Hz,k g q i f⟩⟩
 ·cases e2
def BW(i:PX G X a xa)(g:PX G X b xb)(d:gQ b)(j:X.K=G.K):PX G X (.Subscript a b pos) (x2 aB xa xb):=PE.weak (mV jJ i g d) λJ H Q h=>by
 rw[j];exact zI sZ h
def xY(h:LY G X e xt):OU G X (.BoolOp .And [e] pos) xt:=j0 h
def Ay(n:Ip G X a ca)(l:OU G X (.BoolOp .And (b :: rest) pos) xt):OU G X (.BoolOp .And (a :: b :: rest) pos) (iP ca xt):=PW.weak (yn n l) λJ H Q j=>by
 obtain⟨M,U,r,p,s,e,k⟩:=j;obtain⟨⟨m,t⟩,e1,e2⟩:=Zz.mp e;obtain⟨h,o,g⟩:=Zz.mp e2;refine⟨M,U,m,t,h,s,e1,o,λu d=>?_⟩;cases h with
 |true=>exact vU ⟨M,U,r,p,s.same d,g,λv q i f=>k v q i ((G1.same d).trans f)⟩
 |false =>
  cases g;exact wg (k u M (s.same d) (G1.same d))
def pR(O:PV G X a ca)(N:PX G X b xb)(C:gQ b:=by exact λ_ _=>rfl)(P:X.K=G.K:=by exact rfl):PX G X (.Subscript a b pos) (lX ca xb):=PE.weak (mV jJ O N C) λJ H Q D=>by
 obtain⟨M,U,v,U',s,e,hi,k⟩:=D;obtain⟨x,ea,e1⟩:=Zz.mp e;split at e1
 ·rename_i p;obtain⟨z,eb,e2⟩:=Zz.mp e1;split at e2
  ·rename_i y m;obtain⟨j,Y,e3⟩:=Zz.mp e2;obtain⟨t,S,d⟩:=Zz.mp e3;split at d
   ·rename_i F;cases d;refine⟨M,U,.fr,.lst p,s,ea,λu H1 F1 i r1 f1=>⟨M,U,z.1,z.2,s.same i,eb,by rw[m];rfl,λw H2 M2 q f2 r2=>?_⟩⟩;obtain⟨a,n,Fs,rfl,rfl,Ld,l⟩:=r1.lst_inv;have E:¬bK M U a:=λz=>GT.gV (s.G7 z) (f1.2 a Zv);have Jg:=(f2.keep a _ Ld E).1;obtain⟨x,Fx,o,u2,g⟩:=l.get j S;have A:=g.GQ F.2;subst A;rw[m]at r2;refine .inl ⟨a,n,y,x,rfl,r2.int_inv,by rw[P];exact GW.of Jg,jN (by rw[l.len.1];exact Y) o,?_⟩;exact k x H2 M2 q ((G1.same i).trans f2) (g.keep f2.kept (λa h=>nomatch h))
   ·cases d
  ·cases e2
 ·cases e1
end
section
variable{G:Gx}{M M5:GV}{U U5:VS.Env}{J:L2.St}{H H5:Hp}
def NU(M:GV):GV:=λi=>match i with
 |0=>[]
 |i+1=>M i
def zF{t:T}{a:KM}:bK (NU M) (Z (.pu t) :: U) a↔bK M U a:=by
 constructor
 ·rintro⟨j,u,b,d⟩;cases j with
  |zero=>cases (show Z (Z (Cell.pu t))=Z (Z (Cell.ow u)) from b)
  |succ j=>exact⟨j,u,b,d⟩
 ·rintro⟨j,u,b,d⟩;exact⟨j+1,u,b,d⟩
def EX{t:T}{a:KM}(h:cT (NU M) (Z (.pu t) :: U) a):cT M U a:=by
 obtain⟨j,u,d,b⟩:=h;cases j with
 |zero=>exact nomatch b
 |succ j=>exact⟨j,u,d,b⟩
def SR.ps{v:V}{t:T}(s:SR G M U J H)(r:Rp G H v t []):SR G (NU M) (Z (.pu t) :: U) (Z v :: J) H:=by
 refine⟨by rw[Zi,Zi,s.len],λi c h=>?_,λi u h=>?_,λi j u c b d n=>?_⟩
 ·cases i with
  |zero=>cases (show Z (Z (Cell.pu t))=Z (Z c) from h);exact⟨v,rfl,r⟩
  |succ i=>exact s.rp i c h
 ·cases i with
  |zero=>cases (show Z (Z (Cell.pu t))=Z (Z (Cell.ow u)) from h)
  |succ i=>exact s.nd i u h
 ·cases i with
  |zero=>cases (show Z (Z (Cell.pu t))=Z (Z (Cell.ow u)) from b)
  |succ i =>
   cases j with
   |zero=>exact λa _ h=>nomatch h
   |succ j=>exact s.sep i j u c b d (λe=>n (by rw[e]))
def SR.pop{c:Wk}{v:Option V}(s:SR G M5 (c :: U5) (v :: J) H):SR G (λi=>M5 (i+1)) U5 J H :=
 ⟨by have:=s.len;simpa using this,λi c h=>s.rp (i+1) c h,λi u h=>s.nd (i+1) u h,λi j u c b a n=>s.sep (i+1) (j+1) u c b a (λe=>n (by omega))⟩
def G1.pop{t:T}{c:Wk}(f:G1 (NU M) (Z (.pu t) :: U) H M5 (c :: U5) H5):G1 M U H (λi=>M5 (i+1)) U5 H5:=by
 have ow:∀a,bK (λi=>M5 (i+1)) U5 a->bK M5 (c :: U5) a:=λa ⟨j,u,d,b⟩=>⟨j+1,u,d,b⟩
 refine⟨λa o h n=>?_,f.G3,λa h=>?_,λa h=>?_,f.kept⟩
 ·obtain⟨d,b⟩:=f.keep a o h λz=>n (zF.mp z);exact⟨d,λz=>b (ow a z)⟩
 ·exact(f.ow a (ow a h)).imp zF.mp id
 ·obtain⟨j,u,d,b⟩:=h;rcases f.pu a ⟨j+1,u,d,b⟩ with z | z | z
  ·exact .inl (EX z)
  ·exact .inr (.inl (zF.mp z))
  ·exact .inr (.inr z)
end
def gP(x:Xx):Wp->VS.Env->Option (Wh×VS.Env)
 |[],U=>Z ([],U)
 |i :: r,U=>(x (Z (.pu (.int i)) :: U)).bind λz=>match z.2 with
  |_ :: a=>if GQ z.1.2=B then (gP x r a).map λw=>(z.1.2 :: w.1,w.2) else L
  |[]=>L
def Lm(i n:Nat):Wp:=(List.range' i n).map λ(k:Nat)=>(k:Int)
def j8(a x:Xx)(U:VS.Env):Option (Wh×VS.Env):=(a U).bind λz=>match z.1.2 with
 |.int j=>if 0<=j/\j<1000000 then gP x (Lm 0 j.toNat) z.2 else L
 |_=>L
def NL(G:Gx)(y:VS.Env->Option (Wh×VS.Env)):TE:=λJ H Q=>∃M U e a,SR G M U J H/\y U=Z (e,a)/\∀D f b d,SR G d a J b->G1 M U H d a b->b D=Z (.lst f)->RpL G b f e (List.replicate e.length [])->H D=L->¬bK d a D->¬cT d a D->Q (.ref D) b
theorem kI{α:Type}:∀n:Nat,(List.replicate n ([]:List α)).flatten=[]
 |0=>rfl
 |n+1=>by rw[Y2,ZW,kI n];rfl
section
variable{G:Gx}{X:Cx}{elt a:Expr}{sc:Scope}{pos p p2 p3:Pos}{N:List Str}{nm:Str}{xa x:Xx}{g:TG}
def qN{J:L2.St}{H:Hp}{Q:VK}(hg:∀v J H (R:L2.St->Hp->Prop),R (J.set 0 (Z v)) H->g v J H R)(h:NL G (j8 xa x) J H Q):qJ 1 (BK (B6 (tX G xa) t8)) g (λJ H Q=>Q B H) (tX G x) J H Q:=by
 obtain⟨M,U,ts,P,s,e,kq⟩:=h;obtain⟨z,ea,e1⟩:=Zz.mp e;split at e1
 ·rename_i j hj;split at e1
  ·rename_i hb;obtain⟨n,hn⟩:∃n:Nat,n=j.toNat:=⟨_,rfl⟩
   rw[← hn]at e1;refine⟨M,U,z.1,z.2,s,ea,by rw[hj];rfl,λu H1 M1 s1 f1 r1=>⟨j,by rw[hj]at r1;rw[r1.int_inv],by omega,by omega,λD C=>?_⟩⟩;have KA:H D=L:=f1.none C;rw[← hn];refine⟨λi m J' S=>m=n-i/\i<=n/\∃F E f d rest c0,J'=c0 :: J/\SR G F E J S/\G1 M1 z.2 H1 F E S/\S D=Z (.lst d)/\¬bK F E D/\¬cT F E D/\RpL G S d f (List.replicate f.length [])/\gP x (Lm i (n-i)) E=Z (rest,P)/\f++rest=ts,⟨n,by omega,Ys _,M1,z.2,[],[],ts,L,rfl,?_,G1.same (br C),au,?_,?_,.nil,e1,rfl⟩,?_⟩
   ·exact s1.off (.inr C) (λq=>GT.gV (s1.Iu q) C) λq=>GT.gV (s1.G7 q) C
   ·exact λq=>GT.gV (s1.G7 q) C
   ·exact λq=>GT.gV (s1.Iu q) C
   ·rintro i m J' S ⟨rfl,IK,F,E,f,d,rest,c0,rfl,s2,f2,RE,QD,SJ,rp,O,ev⟩;by_cases Ii:i<n
    ·right;refine⟨Ii,λy H2 yl=>hg _ _ _ _ ?_⟩;obtain⟨rfl,rfl⟩:=yl;rw[show n-i=(n-(i+1))+1 by omega]at O;unfold Lm at O;rw[List.range'_succ,Zo,gP]at O;obtain⟨w,ex,OD⟩:=Zz.mp O;split at OD
     ·rename_i c3 U3 hw;split at OD
      ·rename_i Kw;obtain⟨q,eq,e3⟩:=Zy.mp OD;cases e3;show (if B=B then _ else _);rw[Zq Y];have s3:=s2.ps (v:=.int ((0:Int)+(i:Int))) (t:=.int (i:Int)) (by rw[Int.zero_add];exact .int _);refine⟨NU F,Z (.pu (.int (i:Int))) :: E,w.1,w.2,s3,ex,Kw,λu5 H5 M5 s5 f5 r5=>?_⟩;rw[hw]at s5 f5;have s6:=s5.pop;have f6:=f5.pop;obtain⟨Oy,SM⟩:=f6.keep D _ RE QD;have SI:¬cT (λi=>M5 (i+1)) U3 D:=λq=>by
        rcases f6.pu D q with q | q | q
        ·exact SJ q
        ·exact QD q
        ·rw[RE]at q;cases q
       have LK:GT (H5 D):=by rw[Oy];exact True.intro
       have lx:d.length=f.length:=rp.len.1;refine⟨d,Oy,?_,n-(i+1),by omega,rfl,Ii,λi=>M5 (i+1),U3,f++[w.1.2],d++[u5],q.1,_,rfl,s6.off (.inl LK) SI SM,?_,au,SM,SI,?_,eq,?_⟩
       ·have:f.length<=n:=by
         have hc:∀(l:Wp)(U:VS.Env)(r:Wh)(P:VS.Env),gP x l U=Z (r,P)->r.length=l.length:=by
          intro l
          induction l with
          |nil=>intro U r P h;cases h;rfl
          |cons a l ih =>
           intro U r P h;rw[gP]at h;obtain⟨w',_,b⟩:=Zz.mp h;split at b
           ·split at b
            ·obtain⟨q',h3,h4⟩:=Zy.mp b;cases h4;rw[Zi,Zi,ih _ _ _ h3]
            ·cases b
           ·cases b
         have A:=hc _ _ _ _ e1;have b:=hc _ _ _ _ eq;unfold Lm at A;rw[Zu,Xi]at A;rw[← ev,Zt]at A;omega
        have hs:(KF:Nat)=16777216:=rfl;omega
       ·have ff:=f2.trans f6;refine⟨λa o A b=>?_,λa A b=>?_,ff.ow,ff.pu,ff.kept.trans (Kept.upd (.inl LK))⟩
        ·obtain⟨q1,q2⟩:=ff.keep a o A b;exact⟨by rw[ax (λz=>by rw[z,C]at A;cases A)];exact q1,q2⟩
        ·by_cases q:a=D
         ·rw[q,au]at b;cases b
         ·rw[ax q]at b;exact ff.G3 a A b
       ·have r1:RpL G (upd H5 D (.lst (d++[u5]))) d f (List.replicate f.length []):=(rp.keep f6.kept (by rw[kI];exact λa h=>nomatch h)).keep (Kept.upd (.inl LK)) (by rw[kI];exact λa h=>nomatch h);have r2:Rp G (upd H5 D (.lst (d++[u5]))) u5 w.1.2 []:=r5.keep (Kept.upd (.inl LK)) (λa h=>nomatch h);have:=r1.append (.cons r2 .nil);rw[Zt,ZP,List.replicate_succ'];exact this
       ·rw[ZG];exact ev
      ·cases OD
     ·cases OD
    ·left;have Vq:n-i=0:=by omega
     rw[Vq]at O;cases (show Z (([]:Wh),E)=Z (rest,P) from O);rw[ZV]at ev;subst ev;refine⟨by show n<=i;omega,kq D d S F s2 (f1.trans f2) RE rp KA QD SJ⟩
  ·cases e1
 ·cases e1
end
def vp(a:Tx)(y:VS.Env->Option (Wh×VS.Env)):Xx:=λU=>(y U).bind λz=>(jv (.fr,.str a) [(.fr,.lst z.1)]).map λv=>((.fr,v.2),z.2)
section
variable{G:Gx}{X:Cx}{e a:Expr}{y:VS.Env->Option (Wh×VS.Env)}{sep:Tx}{elt:Expr}{sc:Scope}{pos p p2 p3:Pos}{N:List Str}{nm:Str}{xa x:Xx}
def Al{b d:Pos}(w:PV G X a (eC (.str sep)))(g:PE X e (NL G y))(n:X.K=G.K)(G4:UV a "join" X.env (eval a X.env)=eval a X.env)(O:((backTo d (Pv [e] X.env)).all (λx=>!x.1)&&(backToKw d (SC [] X.env)).all (λx=>x.1.isSome)
   && decide ([e].length+([]:List Keyword).length+(if ([]:List Keyword).isEmpty then 0 else 1)<30))=B)(GZ:(b.endLine==d.line)=B)(l:K1 e [] X)(GY:(backTo d (Pv [] X.env)).any (·.1)=R) :
  PX G X (.Call (.Attribute a "join" b) [e] [] d) (vp sep y) :=
 PE.weak (rD XW PySem.F.slot_str_join PySem.F.type_str_join uY w (bA g dv l) G4 O GZ l GY) λJ H Q h=>by
  obtain⟨M,U,v,U',s,e,hi,k⟩:=h;obtain⟨z,A,e1⟩:=Zz.mp e;obtain⟨v0,e2,C⟩:=Zy.mp e1;cases C;unfold jv at e2;obtain⟨f,q,i⟩:=Zz.mp e2;split at i
  ·rename_i m;cases i;refine⟨M,U,.fr,.str sep,s,rfl,λu H1 F1 j r1 f1=>⟨by rw[n];exact nN r1 ⟨_,rfl⟩,M,U,z.1,z.2,s.same j,A,λD vs Y E r f2 o rp KA no np=>?_⟩⟩;rw[qw rp q]at o;refine⟨sep,D,f,r1.str_inv.1,rfl,by rw[n];exact GW.of o,m,k _ Y E r ((G1.same j).trans f2) (.str _ ⟨ZJ (jX sep f) m,λc g=>(jK sep f c g).elim (r1.str_inv.2.2 c) λ⟨t,P,S⟩=>jQ rp q t P c S⟩)⟩
  ·cases i
end
inductive Ix where | io (i:Nat) (un:Bool) | px (x:Xx)
def ju:List Ix->VS.Env->Option (List Ia×VS.Env)
 |[],U=>Z ([],U)
 |.io i un :: r,U=>match (U[i]?:Option (Wk)) with
  |some (some _)=>(ju r U).map λw=>(.io i un :: w.1,w.2)
  |_=>L
 |.px x :: r,U=>(x U).bind λz=>if GQ z.1.2=B then (ju r z.2).map λw=>(.ex (eC z.1.2) :: w.1,w.2) else L
def K5:List Ix->List Bool
 |[]=>[]
 |.io _ _ :: r=>B :: K5 r
 |.px _ :: r=>R :: K5 r
def aJ(a:List Ix)(g:Wh->Option (Wh×T)):Xx:=λU=>(ju a U).bind λw=>fI w.1 g w.2
inductive Iq(G:Gx)(J:L2.St)(H:Hp):List Ia->List V->Prop
 |nil:Iq G J H [] []
 |io {i:Nat} {un:Bool} {v:V} {as:List Ia} {vs:List V}:J[i]?=some (some v)->Iq G J H as vs->Iq G J H (.io i un :: as) (v :: vs)
 |ex {t:T} {v:V} {as:List Ia} {vs:List V}:GQ t=true->Rp G H v t []->Iq G J H as vs->Iq G J H (.ex (eC t) :: as) (v :: vs)
def Up(G:Gx)(g:List Ix):TA:=λJ H Q=>∃M U a d,SR G M U J H/\ju g U=Z (a,d)/\∀e b f,SR G f d J b->G1 M U H f d b->Iq G J b a e->Q e b
def Mp(G:Gx)(X:Cx)(a:List Expr)(b:List Ix):Prop:=PA X a (Up G b)
section
variable{G:Gx}{X:Cx}{e:Expr}{es:List Expr}{as:List Ix}{x:Xx}{pos p:Pos}{i:Nat}{un:Bool}{g:Wh->Option (Wh×T)}{mv:List Bool}
theorem tW:∀{as:List Ix}{U U':VS.Env}{ias:List Ia},ju as U=Z (ias,U')->HD ias=K5 as
 |[],_,_,_,h=>by cases h;rfl
 |.io i un :: as,U,U',ias,h=>by
  unfold ju at h;split at h
  ·obtain⟨w,b,a⟩:=Zy.mp h;cases a;show B :: HD w.1=B :: K5 as;rw[tW (ias:=w.1) (U':=w.2) b]
  ·cases h
 |.px x :: as,U,U',ias,h=>by
  unfold ju at h;obtain⟨z,_,d⟩:=Zz.mp h;split at d
  ·obtain⟨w,b,a⟩:=Zy.mp d;cases a;show R :: HD w.1=R :: K5 as;rw[tW (ias:=w.1) (U':=w.2) b]
  ·cases d
theorem Iq.keep{J:L2.St}{H j:Hp}(k:Kept H j){f:List Ia}{d:List V}(h:Iq G J H f d):Iq G J j f d:=by
 induction h with
 |nil=>exact .nil
 |io h _ b=>exact .io h b
 |ex l r _ b=>exact .ex l (r.keep k (λa h=>nomatch h)) b
def EN{M:GV}{U:VS.Env}{J:L2.St}{H:Hp}(s:SR G M U J H){f:List Ia}{l:List V}(h:Iq G J H f l):∀{d:Wh},iI U f=Z d->∃j,RpL G H l d j/\Kp M U J H f l j:=by
 induction h with
 |nil=>intro d e;cases e;exact⟨[],.nil,.nil⟩
 |@io i un v f l y _ o =>
  intro d e;obtain⟨t,e1,e2⟩:=Zz.mp (show (LM un U[i]?).bind (λt=>(iI U f).map (t :: ·))=Z d from e);obtain⟨HG,b,rfl⟩:=Zy.mp e2;obtain⟨j,r,q⟩:=o b;unfold LM at e1;split at e1
  ·rename_i A Q;obtain⟨w,z,P⟩:=s.rp _ _ Q;rw[y]at z;cases z;have n:Rp G H v A (M i):=P;have key:∃a,v=.ref a/\Rp G H (.ref a) t (M i):=by
    split at e1
    ·obtain⟨⟨m,u⟩,Y,S⟩:=Zy.mp e1;cases S;rw[kG Y]at n;obtain⟨a,N,_,F⟩:=lh n;exact⟨a,N,F⟩
    ·split at e1
     ·rename_i O;cases e1;obtain⟨a,rfl⟩:=wQ n O;exact⟨a,rfl,n⟩
     ·cases e1
   obtain⟨a,rfl,E⟩:=key;exact⟨M i :: j,.cons E r,.io y q⟩
  ·cases e1
 |@ex t v f l hi D _ o =>
  intro d e;obtain⟨w,e1,e2⟩:=Zz.mp (show (eC t U).bind (λv=>(MZ v).bind λt=>(iI U f).map (t :: ·))=Z d from e);have ev:w.2=t:=by
   unfold eC at e1;cases e1;rfl
  obtain⟨C,b,e4⟩:=Zz.mp e2;obtain⟨HG,e5,rfl⟩:=Zy.mp e4;have et:C=t:=by
   unfold MZ at b;split at b
   ·split at b
    ·cases b;exact ev
    ·cases b
   ·cases b;exact ev
  subst et;obtain⟨j,r,q⟩:=o e5;exact⟨[] :: j,.cons D r,.ex (λa h=>nomatch h) q⟩
def aX:Mp G X [] []:=PA.weak dv λJ H Q b=>by
 obtain⟨M,U,a,d,s,e,k⟩:=b;cases e;exact k [] H M s (G1.refl _ _ _) .nil
def bM(i:Nat)(d:Bool){n:Str}(u:X.N[i]?=Z n)(l:IG X.env.scope n)(r:K3 n)(a:K4 n)(o:Mp G X es as)(m:Pv (.Name n pos :: es) X.env=(R,eval (.Name n pos) X.env) :: Pv es X.env:=by exact rfl):Mp G X (.Name n pos :: es) (.io i d :: as) :=
 PA.weak (bA (fJ u l r a) o m) λJ H Q q=>by
  obtain⟨M,U,j,C,s,e,k⟩:=q;unfold ju at e;split at e
  ·rename_i c t;obtain⟨w,e1,e2⟩:=Zy.mp e;cases e2;obtain⟨v,b,_⟩:=s.rp _ _ t;exact⟨v,b,M,U,w.1,w.2,s,e1,λA z y h f ix=>k _ z y h f (.io b ix)⟩
  ·cases e
def bw(h:PX G X e x)(m:Mp G X es as)(l:K1 e es X:=by exact rfl):Mp G X (e :: es) (.px x :: as) :=
 PA.weak (bA h m l) λJ H Q n=>by
  obtain⟨M,U,j,A,s,e,k⟩:=n;unfold ju at e;obtain⟨z,e1,e2⟩:=Zz.mp e;split at e2
  ·rename_i d;obtain⟨w,q,o⟩:=Zy.mp e2;cases o;exact⟨M,U,z.1,z.2,s,e1,d,λu C r s1 f1 r1=>⟨r,z.2,w.1,w.2,s1,q,λy v t f b ix=>k _ v t f (f1.trans b) (.ex d (r1.keep b.kept (λa h=>nomatch h)) ix)⟩⟩
  ·cases e2
def oS{k:Nat}{f:KM}{l:P3}{j:List Str}{n:Str}(F:FnOk X.prog X.w X.K X.mg X.base Hk k f l j (My G (K5 as) g))(D:p0 k X.A)(P:Gl X n)(N:X.mg n=Z (.ref f))(O:PySem.W.keepIn X.K (.ref f)=B)(Y:Binds X.K l j [])(ha:Mp G X (e :: es) (.io i un :: as))(Ht:K3 n)(S:K1 e es X)(b:K2 pos es X):PXN G X (.Call (.Name n p) (e :: es) [] pos) (aJ (.io i un :: as) g) :=
 PE.weak (mr (E:=E0) F D P N O Y .nil g6 ha Ht S b) λJ H Q h=>by
  obtain⟨M,U,v,U',s,e,z⟩:=h;obtain⟨⟨a,U1⟩,e1,e2⟩:=Zz.mp e;have d:=tW e1;refine⟨M,U,a,U1,s,e1,λt H1 M1 s1 f1 ix=>?_⟩;show My G (K5 as) g (t++[]) H1 Q _;rw[ZV];cases ix with
  |nil=>cases d
  |ex _ _ _=>cases d
  |@io i' Kg v' o Iz h0 U8 =>
   have WO:HD o=K5 as:=(List.cons.inj (show B :: HD o=B :: K5 as from d)).2;have q:=e2;unfold fI at q;obtain⟨ts,m,_⟩:=Zz.mp q;obtain⟨Fs,rp,C⟩:=EN s1 (.io h0 U8) m;rw[← WO];exact nH s1 e2 m (aC.refl _) rp C λu H' M' F y f' r n=>z u H' M' F y (f1.trans f') r (n.back f1)
end
def rM(j:Nat)(x:Xx):Sx:=λU=>(x U).bind λz=>if j<z.2.length then Z (.nx (z.2.set j (Z (.ow z.1.2)))) else L
section
variable{G:Gx}{X:Cx}{e:Expr}{x:Xx}{pos pos':Pos}{j:Nat}{nm:Str}
def Be{D:Ends}{J:L2.St}{H:Hp}(l:tS G (rM j x) D J H):PY G x J H λu i=>D.nx (J.set j (Z u)) i:=by
 obtain⟨M,U,o,s,e,k⟩:=l;obtain⟨z,e1,e2⟩:=Zz.mp e;split at e2
 ·rename_i m;cases e2;refine⟨M,U,z.1,z.2,s,e1,λu i v F s1 f1 r1 d=>?_⟩;refine k _ _ _ (s1.put (c:=.ow z.1.2) (H':=i) m r1 (λ_ _ _ _ _ q=>q) (λ_ _=>d.nd) (λ_ _ f p _ g a b=>d.ap f p g a b) λf t _ g a b r=>d.ap f _ g a r b) ⟨λa o h n=>⟨(f1.keep a o h n).1,λz=>?_⟩,f1.G3,λa h=>?_,λa h=>?_,f1.kept⟩
  ·rcases iw z with⟨_,_,b⟩ | z
   ·rcases d.of a b with q | q
    ·rw[q]at h;cases h
    ·exact n q
   ·exact(f1.keep a o h n).2 z
  ·rcases iw h with⟨_,_,b⟩ | z
   ·exact(d.of a b).symm
   ·exact f1.ow a z
  ·rcases oj h with⟨_,q,_⟩ | z
   ·cases q
   ·exact f1.pu a z
 ·cases e2
end
def lR(o:Option Xx)(U:VS.Env):Option (Option Int×VS.Env):=match o with
 |none=>Z (L,U)
 |some x=>(x U).bind λz=>match z.1.2 with
  |.int i=>Z (Z i,z.2)
  |_=>L
def Nf(a:Xx)(b d:Option Xx):Xx:=λU=>(a U).bind λz=>match z.1.2 with
 |.str t=>(lR b z.2).bind λl=>(lR d l.2).map λh=>((.fr,.str (cut t l.1 h.1)),h.2)
 |_=>L
def O4(G:Gx)(o:Option Xx):TO:=λJ H Q=>∃M U i a,SR G M U J H/\lR o U=Z (i,a)/\∀b d,SR G d a J b->G1 M U H d a b->Q i b
section
variable{G:Gx}{X:Cx}{e a b:Expr}{lo hi:Option Expr}{xl xh:Option Xx}{xa x xb:Xx}{pos p2:Pos}{i:Nat}{n:Str}
def qM:PO X L (O4 G L):=PO.weak uG λJ H Q d=>by
 obtain⟨M,U,o,f,s,e,k⟩:=d;cases e;exact k H M s (G1.refl _ _ _)
def ko(h:PX G X e x):PO X (Z e) (O4 G (Z x)):=PO.weak (vg h) λJ H Q l=>by
 obtain⟨M,U,o,q,s,e,k⟩:=l;obtain⟨z,e1,e2⟩:=Zz.mp e;split at e2
 ·rename_i j d;cases e2;refine⟨M,U,z.1,z.2,s,e1,by rw[d];rfl,λu p m g f r=>⟨j,?_,k p m g f⟩⟩;rw[d]at r;exact r.int_inv
 ·cases e2
def yQ(r:PX G X a xa)(o:PO X lo (O4 G xl))(p:PO X hi (O4 G xh)):PX G X (.Subscript a (.Slice lo hi L p2) pos) (Nf xa xl xh) :=
 PE.weak (so zz r o p) λJ H Q m=>by
  obtain⟨M,U,v,P,s,e,S,k⟩:=m;obtain⟨z,e1,e2⟩:=Zz.mp e;split at e2
  ·rename_i t f;obtain⟨l,D,C⟩:=Zz.mp e2;obtain⟨h,A,y⟩:=Zy.mp C;cases y;refine⟨M,U,z.1,z.2,s,e1,by rw[f];rfl,λu H1 N s1 f1 r1=>⟨N,z.2,l.1,l.2,s1,D,λY F j f2=>⟨F,l.2,h.1,h.2,j,A,λO E g w=>?_⟩⟩⟩;rw[f]at r1;obtain⟨rfl,d⟩:=r1.str_inv;refine⟨_,rfl,by rw[de,← fg];exact d.1,?_⟩;rw[jx];exact k _ O E g ((f1.trans f2).trans w) (.str _ ⟨ZJ (vn _ _ _) d.1,λc q=>d.2 c ((pQ _ _ _).subset q)⟩)
  ·cases e2
def yt(i:Nat)(S:X.N[i]?=Z n)(C:IG X.env.scope n)(F:K3 n)(d:K4 n)(P:PX G X b xb)(D:gQ b)(Y:X.K=G.K):PX G X (.Subscript (.Name n p2) b pos) (oR i xb) :=
 PE.weak (mV jJ (fJ S C F d) P D) λJ H Q E=>by
  obtain⟨M,U,v,U',s,e,Kw,k⟩:=E;unfold oR at e;split at e
  ·rename_i c0 VO;obtain⟨r,p,_⟩:=s.rp _ _ VO;obtain⟨z,e1,e2⟩:=Zz.mp e;split at e2
   ·rename_i y c m O;split at e2
    ·rename_i ts Vd;obtain⟨j,ej,e3⟩:=Zz.mp e2;obtain⟨t,et,f⟩:=Zz.mp e3;split at f
     ·rename_i hit;cases f;refine⟨r,p,M,U,z.1,z.2,s,e1,by rw[m];rfl,λw H2 M2 h f2 r2=>?_⟩;obtain⟨v1,o,r1⟩:=h.rp _ _ O;rw[p]at o;cases o;rw[Vd]at r1;rw[m]at r2;obtain⟨a,q,Fs,rfl,eF,Ld,l⟩:=r1.lst_inv;obtain⟨x,Fx,u,u2,g⟩:=l.get j et;have A:=g.GQ hit;subst A;exact .inl ⟨a,q,y,x,rfl,r2.int_inv,by rw[Y];exact GW.of Ld,jN (by rw[l.len.1];exact ej) u,k x H2 M2 h f2 g⟩
     ·cases f
    ·cases e2
   ·cases e2
  ·cases e
end
section
variable{G:Gx}{X:Cx}{elt a:Expr}{sc:Scope}{pos p p2 p3:Pos}{N:List Str}{nm:Str}{xa x:Xx}
def xA(N:List Str)(t:X.calm=B)(e:Gl X "range")(d:X.mg "range" = L)(j:PX G X a xa)(l:∀cl C s H fp,PG (bN X N sc cl C s H fp) (.Name nm p2) (oU 0))(i:∀cl C s H fp,PX G (bN X N sc cl C s H fp) elt x)(b:K1 a [] X)(q:Pv [a] X.env=[(false,eval a X.env)])(o:l9 X.env sc=B)(n:jZ sc (N.drop 1) X.N=B)(m:1<=N.length)(f:∀x,XAA (.Call (.Name "range" p) [a] [] p3) X.env x=pure x) :
  PE X (.ListComp elt [⟨.Name nm p2,.Call (.Name "range" p) [a] [] p3,[],0⟩] sc pos) (NL G (j8 xa x)) :=
 PE.weak (mN t (jl e d (bA j dv b) q) o n m (λcl C s H fp=>⟨l cl C s H fp,j5,i cl C s H fp⟩) f) λJ H Q h=>qN (g:=oU 0) (λv J H R r=>r) h
end
def T4(G:Gx)(X:Cx)(e:Expr)(y:VS.Env->Option (Wh×VS.Env)):Prop:=PE X e (NL G y)
section
variable{G:Gx}{X:Cx}{e a b elt:Expr}{es rest:List Expr}{ca cb:Ex}{xa xb xc:Xx}{xt:Xt}{as:List Ix}{lo hi:Option Expr}{xl xh:Option Xx}{y:VS.Env->Option (Wh×VS.Env)}{sep:Tx}{sc:Scope}{N:List Str}{p pos pos' p1 p2 p3 apos oe:Pos}{i j k k':Nat}{un:Bool}{n nm x:Str}{ps:List Str}{g:Wh->Option (Wh×T)}
def ic(f:PX G X a xa)(d:PX G X b xb):PX G X (.BinOp a .Add b pos) (x2 aW xa xb):=B8 qD yR f d
def uI(f:Ip G X a ca)(d:LY G X b xt):LY G X (.BoolOp .And [a,b] pos) (iP ca xt):=(Ay f (xY d)).UG
def bh(F:IoAt X.prog X.w X.K X.mg X.base k x ps G (K5 as) g)(h:p0 k' X.A)(q:Mp G X (e :: es) (.io i un :: as))(l:k<=k':=by decide)(m:Gl X x:=by exact rfl)(v:K3 x:=by exact rfl)(o:K1 e es X:=by exact rfl)(d:K2 pos es X:=by exact rfl) :
  PX G X (.Call (.Name x p) (e :: es) [] pos) (aJ (.io i un :: as) g):=by
 obtain⟨f,fd,u,t,s,r⟩:=F.ex;exact(oS u (h.mono l) m t s r q v o d).px
def AC(F:IoAt X.prog X.w X.K X.mg X.base k x ps G (K5 as) g)(h:p0 k' X.A)(q:Mp G X (e :: es) (.io i un :: as))(l:k<=k')(m:Gl X x)(v:K3 x)(o:K1 e es X)(d:K2 pos es X) :
  PXN G X (.Call (.Name x p) (e :: es) [] pos) (aJ (.io i un :: as) g):=by
 obtain⟨f,fd,u,t,s,r⟩:=F.ex;exact oS u (h.mono l) m t s r q v o d
end
def uQ(c:Ex)(y:VS.Env->Option (Wh×VS.Env)):Xx:=λU=>(c U).bind λx=>match x with
 | (.bo,_)=>L
 | (_,.lst a)=>(y U).bind λz=>if eQ a=B/\a.length+z.1.length<=eO then Z ((.fr,.lst (a++z.1)),z.2) else L
 |_=>L
def sS(x:Xx):VS.Env->Option (Wh×VS.Env):=λU=>(x U).bind λz=>if GQ z.1.2=B then Z ([z.1.2],z.2) else L
def n0(j:Nat)(x:Xx):Sx:=λU=>(x U).bind λz=>if j<z.2.length then Z (.nx (z.2.set j (Z (.pu z.1.2)))) else L
def uE(g:Tg)(x:Xx)(b:Sx):Sx:=λU=>(x U).bind λz=>if GQ z.1.2=B then fZ g (cP (eC z.1.2)) b z.2 else L
section
variable{G:Gx}{X:Cx}{e a b:Expr}{ca:Ex}{xc:Xx}{y:VS.Env->Option (Wh×VS.Env)}{pos pos':Pos}{j:Nat}{nm:Str}
def Ae(f:PV G X a ca)(hb:T4 G X b y):PXN G X (.BinOp a .Add b pos) (uQ ca y):=PE.weak (xO qD f hb) λJ H Q hq=>by
 obtain⟨M,U,v,U',s,e,k⟩:=hq;obtain⟨x,ea,e1⟩:=Zz.mp e;split at e1
 ·cases e1
 ·rename_i m A hm;obtain⟨z,eb,e2⟩:=Zz.mp e1;split at e2
  ·rename_i N;cases e2;refine⟨M,U,m,.lst A,s,ea,λu H1 F1 g r1 f1=>⟨M,U,z.1,z.2,s.same g,eb,λD o H2 M2 C f2 hD rp hn no np=>?_⟩⟩;obtain⟨a,r,P,rfl,rfl,Ld,l⟩:=r1.lst_inv;have Jg:=(f2.keep a _ Ld λz=>by
    rcases f1.pu hm a Zv with q | ⟨j,t,n,Y⟩
    ·exact GT.gV (s.G7 z) q
    ·obtain⟨i,S,F,p2⟩:=z;refine s.sep i j S _ F n (λe=>?_) a p2 Y;subst e;rw[F]at n;cases n).1
   refine .inr (.inr ⟨a,D,r,o,rfl,rfl,Jg,hD,by rw[l.len.1,rp.len.1,← fg];exact N.2,λp d=>?_⟩);have O:=l.GQ N.1;have Nk:=l.keep f2.kept (by rw[O];exact λa h=>nomatch h);have JJ:=Nk.append rp;have fe:(P++List.replicate z.1.length []).flatten=([]:Xa):=by rw[Z4,O,kI];rfl
   have E:Rp G (upd H2 p (.lst (r++o))) (.ref p) (.lst (A++z.1)) (p :: (P++List.replicate z.1.length []).flatten):=.lst au (JJ.same (br d));rw[fe]at E;refine k _ _ M2 _ (C.same (br d)) ((G1.same g).trans (f2.trans (G1.same (br d)))) E ⟨by simp,λj c hj a f GU=>?_,λa f=>.inl ?_⟩
   ·cases Zh.mp f;obtain⟨w,_,q⟩:=C.rp j c hj;exact GT.gV (q.G3 p GU) d
   ·cases Zh.mp f;exact g.free (f2.none d)
  ·cases e2
 ·cases e1
def DE{p:Pos}(h:PX G X e xc)(f:K1 e [] X):T4 G X (.List [e] p) (sS xc) :=
 PE.weak (wY (bA h dv f)) λJ H Q g=>by
  obtain⟨M,U,m,n,s,e,k⟩:=g;obtain⟨z,e1,e2⟩:=Zz.mp e;split at e2
  ·rename_i i;cases e2;refine⟨M,U,z.1,z.2,s,e1,i,λu o l s1 f1 r1=>⟨by show 1<=16777216;decide,λp d=>?_⟩⟩;exact k p [u] _ l (s1.same (br d)) (f1.trans (G1.same (br d))) au (.cons (r1.same (br d)) .nil) (f1.none d) (λz=>GT.gV (s1.G7 z) d) (λz=>GT.gV (s1.Iu z) d)
  ·cases e2
def r9(h:PXN G X e xc)(w:X.N.Nodup)(p:X.N[j]?=Z nm)(i:Loc X.env.scope nm)(x:swapsWith e (Z (.Name nm pos')) pos.line X.env=pure R)(r:X.fn nm=B\/X.env.scope.names.lookup nm=Z .local) :
  PSV G X (.Assign [.Name nm pos'] e pos) (n0 j xc) :=
 PS.weak (pK w p i h x r) λD J H l=>by
  obtain⟨M,U,o,s,e,k⟩:=l;obtain⟨z,e1,e2⟩:=Zz.mp e;split at e2
  ·rename_i v;cases e2;refine⟨M,U,z.1,z.2,s,e1,λu A E F s1 f1 r1 f=>?_⟩;refine k _ _ _ (s1.put (c:=.pu z.1.2) (H':=A) v r1 (λ_ _ _ _ _ q=>q) (λ_ h=>nomatch h) (λ_ h=>nomatch h) λg t _ m a d C=>f.ap g _ m a C d) ⟨λa o h n=>⟨(f1.keep a o h n).1,λz=>?_⟩,f1.G3,λa h=>?_,λa h=>?_,f1.kept⟩
   ·rcases iw z with⟨_,q,_⟩ | z
    ·cases q
    ·exact(f1.keep a o h n).2 z
   ·rcases iw h with⟨_,q,_⟩ | z
    ·cases q
    ·exact f1.ow a z
   ·rcases oj h with⟨_,_,d⟩ | z
    ·rcases f.of a d with q | q
     ·exact .inr (.inr q)
     ·exact .inr (.inl q)
    ·exact f1.pu a z
  ·cases e2
def CS{n:Expr}{d:List Stmt}{g:Tg}{cb:Sx}{p q:Pos}(S:PassesOwn (KB X.prog X.w) X.A X.env X.xe)(hc:X.calm=B)(f:Gl X "range")(Y:X.mg "range" = L)(O:PX G X a xc)(hg:LZ G X n g)(hb:gD G X d cb)(P:K1 a [] X)(HS:Pv [a] X.env=[(R,eval a X.env)])(hf:∀x,XAA (.Call (.Name "range" p) [a] [] q) X.env x=pure x):PSV G X (.For n (.Call (.Name "range" p) [a] [] q) d [] pos) (uE g xc cb) :=
 PS.weak (xH S hc (jl f Y (bA O dv P) HS) hg hb hf) λD J H Q=>by
  obtain⟨M,U,o,s,e,k⟩:=Q;obtain⟨z,e1,e2⟩:=Zz.mp e;split at e2
  ·rename_i hi;refine⟨M,U,z.1,z.2,s,e1,hi,λu E M1 s1 f1 r1=>?_⟩;obtain⟨M3,U3,m,l,s3,C,N⟩:=zA (g:=g) (cb:=cb) ⟨M1,z.2,o,s1,e2,k.back f1⟩;unfold cP at C;obtain⟨⟨F,x⟩,ea,e4⟩:=Zz.mp C;obtain⟨j,v,i⟩:=Zz.mp e4;cases (show Z ((Md.fr,z.1.2):Val)=Z (F,x) from ea);split at i
   ·rename_i r;cases i;generalize z.1.2=t at *;cases t with
    |int j' =>
     cases v;refine⟨j,by rw[r1.int_inv],?_,?_,N _ E [] (aC.refl _) (og E 0 j.toNat) λa h=>nomatch h⟩
     ·have:=r.1;unfold Kf at this;omega
     ·have:=r.2;unfold Kf at this;omega
    |_=>cases v
   ·cases i
  ·cases e2
end
def Bu(y:VS.Env->Option (Wh×VS.Env)):Xx:=λU=>(y U).map λz=>((.fr,.lst z.1),z.2)
section
variable{G:Gx}{X:Cx}{e:Expr}{y:VS.Env->Option (Wh×VS.Env)}
def DD{J:L2.St}{H:Hp}{Q:VK}(m:PY G (Bu y) J H Q):NL G y J H Q:=by
 obtain⟨M,U,v,r,s,e,k⟩:=m;obtain⟨z,e1,e2⟩:=Zy.mp e;cases e2;refine⟨M,U,z.1,z.2,s,e1,λD q g p i f o rp n no np=>k (.ref D) g p [D] i f ?_ ⟨by simp,λj c d a b h=>?_,λa b=>.inl ?_⟩⟩
 ·have l:Rp G g (.ref D) (.lst z.1) (D :: (List.replicate z.1.length []).flatten):=.lst o rp
  rwa [kI]at l
 ·cases Zh.mp b;cases c with
  |ow t=>exact no ⟨j,t,d,h⟩
  |pu t=>exact np ⟨j,t,d,h⟩
 ·cases Zh.mp b;exact n
def Ba{d a:Expr}{f:Scope}{i b t p m l:Pos}{n x:Str}{q o:Xx}{j:Nat}(N:List Str)(G5:X.calm=B)(E:Gl X "range")(z:X.mg "range" = L)(O:PX G X a q)(Q:∀cl C s H fp,PG (bN X N f cl C s H fp) (.Name n m) (oU 0))(M:∀cl C s H fp,PX G (bN X N f cl C s H fp) d o)(w:K1 a [] X)(HS:Pv [a] X.env=[(false,eval a X.env)])(ID:l9 X.env f=B)(Y:jZ f (N.drop 1) X.N=B)(U:1<=N.length)(F:∀x,XAA (.Call (.Name "range" p) [a] [] l) X.env x=pure x)(P:X.N.Nodup)(A:X.N[j]?=Z x)(u:Loc X.env.scope x)(Jc:swapsWith (.ListComp d [⟨.Name n m,.Call (.Name "range" p) [a] [] l,[],0⟩] f i) (Z (.Name x b)) t.line X.env=pure B)(S:X.fn x=B\/X.env.scope.names.lookup x=Z .local) :
  PSV G X (.Assign [.Name x b] (.ListComp d [⟨.Name n m,.Call (.Name "range" p) [a] [] l,[],0⟩] f i) t) (rM j (Bu (j8 q o))) :=
 PS.weak (mZ P A u G5 (jl E z (bA O dv w) HS) ID Y U (λcl C s H fp=>⟨Q cl C s H fp,j5,M cl C s H fp⟩) Jc S F) λD J H h=>qN (g:=oU 0) (λv J H R r=>r) (DD (Be h))
end
end VS
end
section
namespace VS
open PySem PySem.Spec PyProof.Rows L2
def zo(l:Wj):Bool:=l.all λv=>match v.1 with | .bo=>false | _=>true
def pU(a:Hf)(x:Xx)(g:Fn):Xx:=λU=>(a U).bind λl=>(x U).bind λz=>if zo l=B/\GQ z.1.2=B then (g (trees l++[z.1.2])).bind λr=>if GQ r.2=B then Z ((.fr,r.2),z.2) else L else L
def Ut(G:Gx)(e:Hf)(x:Xx):TA:=λJ H Q=>∃M U l z,SR G M U J H/\e U=Z l/\zo l=B/\x U=Z z/\GQ z.1.2=B/\∀b u a d f,SR G d z.2 J a->G1 M U H d z.2 a->RpL G a b (trees l) f->Rp G a u z.1.2 []->Q (b++[u]) a
def PF(G:Gx)(X:Cx)(a:List Expr)(b:Hf)(x:Xx):Prop:=PA X a (Ut G b x)
section
variable{G:Gx}{X:Cx}{a e:Expr}{es:List Expr}{ca:Ex}{cs:Hf}{x xc:Xx}{pos p:Pos}{k k':Nat}{nm:Str}{ps:List Str}{g:Fn}
def zh(h:PX G X e xc)(b:K1 e [] X):PF G X [e] ag xc:=PA.weak (bA h dv b) λJ H Q d=>by
 obtain⟨M,U,l,z,s,j,_,i,f,k⟩:=d;cases (show Z ([]:Wj)=Z l from j);exact⟨M,U,z.1,z.2,s,i,f,λu n m s1 f1 r1=>k [] u n m [] s1 f1 .nil r1⟩
def nA(ha:PV G X a ca)(h:PF G X es cs xc)(Y:K1 a es X):PF G X (a :: es) (ab ca cs) xc:=PA.weak (bA ha h Y) λJ H Q hq=>by
 obtain⟨M,U,l,z,s,el,hb,ez,hi,k⟩:=hq;obtain⟨⟨m,t⟩,e1,e2⟩:=Zz.mp (show (ca U).bind (λx=>(cs U).bind λl=>Z (x :: l))=Z l from by simpa[ab] using el);obtain⟨y,e3,e4⟩:=Zz.mp e2;cases e4;have d:m ≠ .bo/\zo y=B:=by
  unfold zo at hb ⊢;rw[Y3,Ze]at hb;exact⟨λz=>by rw[z]at hb;exact Zc hb.1,hb.2⟩
 refine⟨M,U,m,t,s,e1,λu H1 A v O f0=>⟨M,U,y,z,s.same v,e3,d.2,ez,hi,λC D H' M' Fs E n N F=>?_⟩⟩;have no:∀b∈A,¬bK M U b:=λb r z=>by
  rcases f0.pu d.1 b r with q | ⟨j,t',f,P⟩
  ·exact GT.gV (s.G7 z) q
  ·obtain⟨i,Uv,w,S⟩:=z;refine s.sep i j Uv _ w f (λe=>?_) b S P;subst e;rw[w]at f;cases f
 exact k (u :: C) D H' M' (A :: Fs) E ((G1.same v).trans n) (.cons (O.keep n.kept λb r o ho=>(n.keep b o ho (no b r)).1) N) F
def zd(F:FnAt X.prog X.w X.K X.mg X.base k nm ps G g)(D:p0 k' X.A)(Y:PF G X (e :: es) cs xc)(N:k<=k')(P:Gl X nm)(Ht:K3 nm)(S:K1 e es X)(b:K2 pos es X):PX G X (.Call (.Name nm p) (e :: es) [] pos) (pU cs xc g):=by
 obtain⟨f,fd,h1,h2,h3,h4⟩:=F.ex;refine PE.weak (mr h1 (D.mono N) P h2 h3 h4 .nil g6 Y Ht S b) λJ H Q E=>?_;obtain⟨M,U,v,U',s,e0,hv,C⟩:=E;obtain⟨l,el,e1⟩:=Zz.mp e0;obtain⟨z,ez,e2⟩:=Zz.mp e1;split at e2
 ·rename_i j;obtain⟨⟨n,r⟩,er,d⟩:=Zz.mp e2;split at d
  ·rename_i O;cases d;refine⟨M,U,l,z,s,el,j.1,ez,j.2,λo u H' M' Fs q f' y t=>?_⟩;show Ja G g ((o++[u])++[]) H' Q _;rw[ZV];refine⟨trees l++[z.1.2],Fs++[[]],n,r,y.append (.cons t .nil),er,λv H2 F2 i h _=>?_⟩;have m:=h;rw[h.GQ O]at m;exact C v H2 M' (q.same i) (f'.trans (G1.same i)) m
  ·cases d
 ·cases e2
end
def o8(c:Nat)(g:Mt)(x:Xx):Xx:=λU=>(x U).bind λz=>if aZ [z.1.2]=B then (g [] [z.1.2]).bind λw=>if dD w.1=B/\MH w.2=B then Z ((.fr,.obj (c+1) ((0,.bl R) :: w.1)),z.2) else L else L
def nP(c:Nat)(h:Fn)(x:Xx):Xx:=λU=>(x U).bind λz=>match z.1.2 with
 |.obj a (_ :: _)=>if a=c+1 then (h [z.1.2]).bind λr=>match r.1 with
  |.fr=>Z (r,z.2)
  |_=>L else L
 |_=>L
section
variable{G:Gx}{X:Cx}{e o:Expr}{xc:Xx}{pos p apos:Pos}{k k' c:Nat}{f:KM}{fd:P3}{ps:List Str}{nm m:Str}{g:Mt}{h:Fn}
def Aq(Mq:Mk X.K (G.ct (c+1)).1 f)(F:FnOk X.prog X.w X.K X.mg X.base Hk k f fd ps (J5 G c [R] g))(hr:p0 k' X.A)(hk:k+1<=k')(hg:Gl X nm)(hm:X.mg nm=Z (.ref (G.ct (c+1)).1))(d:Binds X.K fd ps [])(l:PXN G X e xc)(Ht:K3 nm)(S:K1 e [] X)(x:(backTo pos (Pv [] X.env)).any (·.1)=R):PXN G X (.Call (.Name nm p) [e] [] pos) (o8 c g xc) :=
 PE.weak (uO (E:=E0) Mq F (hr.mono hk) hg hm d .nil g6 (bA l dv S) Ht S x) λJ H Q hq=>by
  obtain⟨M,U,v,U',s,e0,kq⟩:=hq;obtain⟨z,ez,e1⟩:=Zz.mp e0;split at e1
  ·rename_i MT;obtain⟨⟨Ic,y⟩,eg,e2⟩:=Zz.mp e1;split at e2
   ·rename_i hc;cases e2;refine⟨M,U,z.1,z.2,s,ez,λu r M1 O s1 f1 r1 n1 a dx l Rt ne=>?_⟩;have D:aC r (upd (upd r dx (.own a)) a (.ins (G.ct (c+1)).1 dx [])):=λb t q=>by
     rw[ax (λz=>by rw[z,l]at q;cases q),ax (λz=>by rw[z,Rt]at q;cases q)];exact q
    have NR:RpL G r [u] [z.1.2] [O]:=.cons r1 .nil;have C:Hw [R] [O]=[]:=by simp[Hw]
    refine⟨a,[u],[],[z.1.2],[a],[O],Ic,y,by rw[ZV],.ins (ks:=[]) (vs:=[]) (ts:=[]) (Fs:=[]) au Y (λ_=>rfl) .nil,(NR.same D).at (Jb a) MT,rfl,?_,?_,eg,λu' N P n ru=>⟨uJ ru hc.2,?_⟩⟩
    ·rw[C];simp
    ·rw[C];intro b d i;have:b=a:=by simpa using d
     subst this;exact GT.gV (NR.G3 b (tq _ _ b i)) l
    ·rw[C,ZV]at n;have back:Rp G N (.ref a) (.obj (c+1) ((0,.bl R) :: Ic)) P:=by
      obtain⟨c2,a2,R8,b2,N0,PQ,NJ,Sk,LU,M0,Py,OF,M6,MV,Ig,Kz,JJ⟩:=dj n.rp;cases LU;cases M0;subst OF;rw[M6];exact .ins MV Ig (λz=>nomatch z) (JJ.at G.me (d5 (Ig.trans JJ.len.1) hc.1))
     have Ir:aC r N:=λb t q=>n.keep b t (λz=>by
      have:b=a:=by simpa using z
      rw[this,l]at q;cases q) (D b t q)
     have fr:∀b∈P,r b=L:=λb d=>by
      rcases n.sub b d with z | z
      ·have:b=a:=by simpa using z
       rw[this];exact l
      ·exact D.free z
     refine kq (.ref a) N M1 P (s1.same Ir) (f1.trans (G1.same Ir)) back ⟨n.nd,λj c' hj b d i=>?_,λb d=>.inl (f1.none (fr b d))⟩;obtain⟨w,_,q⟩:=s1.rp j c' hj;exact GT.gV (q.G3 b i) (fr b d)
   ·cases e2
  ·cases e1
def zG{O:Sem Bool}(hn:∀k,(G.ct (c+1)).2 k≠m)(ho:PXN G X o xc)(hc:Ie X.K (G.ct (c+1)).1)(hm:Meth X.K (G.ct (c+1)).1 m f)(F:FnOk X.prog X.w X.K X.mg X.base Hk k f fd ps (Ja G h))(hr:p0 k' X.A)(hk:k<=k')(d:Binds X.K fd ps [])(Y:eval (.Call (.Attribute o m apos) [] [] pos) X.env=(do
   let t ← eval o X.env
   standAt apos.atName
   let (f,first) ← holding [t] (getMethod t m O)
   callWith pos f first (backTo pos (Pv [] X.env)) (backToKw pos (SC [] X.env)))):PXN G X (.Call (.Attribute o m apos) [] [] pos) (nP c h xc) :=
 PE.weak (ot (E:=E0) ho hc hm F (hr.mono hk) d .nil g6 Y) λJ H Q hq=>by
  obtain⟨M,U,v,U',s,e0,P⟩:=hq;obtain⟨z,ez,e1⟩:=Zz.mp e0;split at e1
  ·rename_i y q0 fs S;split at e1
   ·rename_i HB;subst HB;obtain⟨⟨n,N⟩,x,r⟩:=Zz.mp e1;refine⟨M,U,z.1,z.2,s,ez,λv H1 M1 F1 s1 f1 r1 n1=>?_⟩;rw[S]at r1 x;have UE:=r1;obtain⟨c2,a,dx,b,ns,vs,ts,Fs,ec,rfl,eb,ef,eF,hA,hl,d,ra⟩:=dj r1;cases ec;refine⟨a,dx,_,rfl,hA,qy hn _ _,?_⟩;show Ja G h (V.ref a :: ([]++[])) H1 Q E0;rw[ZV];refine⟨[_],[F1],n,N,.cons UE .nil,x,λu H' F' C D l=>?_⟩;cases n with
    |fr =>
     cases r;refine P u H' M1 F' (s1.same C) (f1.trans (G1.same C)) D ⟨l.1,λj y hj b d i=>?_,λb d=>.inl (f1.none (l.2 b d))⟩;obtain⟨w,_,q⟩:=s1.rp j y hj;exact GT.gV (q.G3 b i) (l.2 b d)
    |pu=>cases r
    |bo=>cases r
   ·cases e1
  ·cases e1
def Bb(F:InAt X.prog X.w X.K X.mg X.base k G c 1 nm ps g)(b:p0 k' X.A)(d:k+1<=k')(l:PXN G X e xc)(i:Gl X nm)(s:K3 nm)(j:K1 e [] X)(a:(backTo pos (Pv [] X.env)).any (·.1)=R):PXN G X (.Call (.Name nm p) [e] [] pos) (o8 c g xc):=by
 obtain⟨f,fd,r,q,n⟩:=F.ex;exact Aq q r b d i F.mg n l s j a
def wF{b:Sem Bool}(F:MpAt X.prog X.w X.K X.mg X.base k G c m ps h)(i:p0 k' X.A)(l:k<=k')(j:PXN G X o xc)(d:eval (.Call (.Attribute o m apos) [] [] pos) X.env=(do
   let a ← eval o X.env
   standAt apos.atName
   let (f,first) ← holding [a] (getMethod a m b)
   callWith pos f first (backTo pos (Pv [] X.env)) (backToKw pos (SC [] X.env)))):PXN G X (.Call (.Attribute o m apos) [] [] pos) (nP c h xc):=by
 obtain⟨f,fd,r,q,n⟩:=F.ex;exact zG F.no j F.cl q r i l n d
end
end VS
end
section
namespace L2
open PySem PySem.Spec PyProof.Rows
def Se(K:Xk)(a b:KM):It :=
 ⟨λi H=>∃e d x y,GW K H a e/\GW K H b d/\e[i]?=Z x/\d[i]?=Z y,λi H v f=>∃p x y,H p=L/\v=.ref p/\f=upd H p (.tup [x,y])/\(∀e,GW K H a e->e[i]?=Z x)/\∀d,GW K H b d->d[i]?=Z y,
  λi H=>∃e d,GW K H a e/\GW K H b d/\(e.length<=i\/d.length<=i)⟩
def Inv.turns{X:Cx}{a:Xo}{J:St}{H:Hp}{s:IR}{g:SZ}{t':Nat}{ch:Xa}(I:Inv X a J H s)(k:∀b o,b∉ch->s.heap.get? b=Z o->g.get? b=Z o)(f:∀b∈ch,nZ X a H b):Inv X a J H { s with heap:=g,toks:=t' }:=by
 have h:∀b u,H b=Z u->b∉ch:=λb u e z=>by rw[(f b z).1]at e;cases e
 refine I.step (g':=s.gens) (d':=s.drawn) (ch:=ch) (λb hb=>?_) (λb o _ _ d e _=>k b o d e) (λb o _ _ d e _=>⟨o.slots,k b o d e⟩) (λ_ _ _ _ n=>n)
  (λb o d e=>⟨o,k b o d e⟩) (λ_ _ e=>e) (λ_ _ _ e=>e) (λb ps e=>⟨#[],by rw[e];simp⟩) (λm j=>?_) (λb u e=>?_) I.bare
 ·obtain⟨y,f1,f2,t,p,l⟩:=f b hb;exact⟨t,f1,p,l⟩
 ·obtain⟨o,w,x,i,r⟩:=j;exact⟨o,w,x,k _ o (λz=>(f _ z).2.1 Y) i,r⟩
 ·refine(I.GN b u e).Jv (λc v d q=>k c v ?_ q) (λ_ q=>q) λ_ _ q=>q;rcases d with z | z
  ·rw[z];exact h b u e
  ·exact h c _ z
def zw{P:Re}{w:UF}{K:Xk}{U:List Expr}{n:Nat}{pos:Pos}{z t o f e a b:KM}(D:ZipApart z t o f e a b):Turn P w K (.Tuple U n pos) (Se K a b) [z,t,o,f,e] z (λi h=>IsZip h z t o .none/\IsPair h t (.ref f) (.ref e)/\(∃u v,IsPair h o u v)/\h.IsListIter f a i/\h.IsListIter e b i) where
 mem:=by simp
 obj:=λi h ⟨A,l,⟨_,_,F⟩,⟨o4,j,_,e4⟩,⟨o5,g,_,e5⟩⟩ b hb=>by
  simp only[Zp,Yk,or_false]at hb;rcases hb with rfl | rfl | rfl | rfl | rfl
  ·exact⟨_,A,λv z=>by cases (show Data.fields _=Data.cell v from z)⟩
  ·exact⟨_,l,λv z=>nomatch z⟩
  ·exact⟨_,F,λv z=>nomatch z⟩
  ·exact⟨_,j,λv z=>by rw[e4]at z;cases z⟩
  ·exact⟨_,g,λv z=>by rw[e5]at z;cases z⟩
 keep:=λi h h' ⟨A,l,⟨u,v,F⟩,j,g⟩ k=>⟨k z (by simp) _ A,k t (by simp) _ l,⟨u,v,k o (by simp) _ F⟩,j.at λq x=>k f (by simp) q x,g.at λq x=>k e (by simp) q x⟩
 item:=by
  intro X hP hw hK hc i C s J H E I Q st hg;subst hP hw hK;obtain⟨xs,ys,x,y,hq,IE,hx,hy⟩:=hg;obtain⟨pe,rv,p,hz⟩:=I.list hq;obtain⟨S,O9,p',QO⟩:=I.list IE;obtain⟨u,hu,ru⟩:=rv.get hx;obtain⟨u',Vc,Uz⟩:=O9.get hy;obtain⟨A,l,⟨c1,c2,F⟩,j,g⟩:=st;refine wpAny_pyNext_zip_item D A l F j g p.isList p'.isList (x:=u) (y:=u') (by simpa using hu) (by simpa using Vc) λg1 k1 k3 k4 k5 hT hsz hk=>⟨_,rfl,?_⟩
  refine wpAny_letOwnedTupleGo_zip k1 λG e2 M=>?_;have M:Heap.SameBut z g1 G:=M;have lt:∀{b d},s.heap.get? b=Z d->b≠s.heap.objs.size:=λq=>Zb (ZX q);have Ox:H s.heap.objs.size=L:=I.GN.fresh (Zj _);have N:∀b d,b∉[z,t,o,f,e]->s.heap.get? b=Z d->G.get? b=Z d:=λb d hb q=>by
   simp only[Zp,Yk,or_false,not_or]at hb;exact(M.2 b hb.1).trans (hk b d hb.1 hb.2.2.1 hb.2.2.2.1 hb.2.2.2.2 q)
  have kt:∀d,s.heap.get? t=Z d->G.get? t=Z d:=λd q=>(M.2 t D.TIz).trans (hk t d D.TIz D.TITO D.TIi1 D.TIi2 q);have Ov:G.get? s.heap.objs.size=Z { cls:=.type "tuple",data:=.seq #[u,u'] }:=(M.2 _ (lt A).symm).trans hT;have N5:∀b d,H b=Z d->b∉[z,t,o,f,e]:=λb d q hb=>by rw[(Q b hb).1]at q;cases q
  have up:∀b d,H b=Z d->upd H s.heap.objs.size (.tup [x,y]) b=Z d:=λb d q=>by rw[ax (cG q Ox)];exact q
  have MM:HP X.prog X.w (upd H s.heap.objs.size (.tup [x,y])) G:=λb d q=>by
   by_cases hb:b=s.heap.objs.size
   ·subst hb;rw[au]at q;cases q;exact⟨by show 2<=KF;decide,[u,u'],.cons ru (.cons Uz .nil),Lv.of Ov Y,⟨_,Ov,rfl,_,rfl⟩⟩
   ·rw[ax hb]at q;refine(I.GN b d q).Jv (λc v O r=>N c v ?_ r) (λc r=>up c _ r) λc ys r=>up c _ r;rcases O with z | z
    ·rw[z];exact N5 b d q
    ·exact N5 c _ z
  refine⟨.ref s.heap.objs.size,upd H s.heap.objs.size (.tup [x,y]),?_,rfl,⟨_,x,y,Ox,rfl,rfl,λvs hv=>by rw[I.HY hv hq];exact hx,λvs hv=>by rw[I.HY hv IE];exact hy⟩,⟨e2,kt _ l,⟨u,u',(M.2 o D.TOz).trans k3⟩,k4.at λq y=>(M.2 f D.i1z).trans y,k5.at λq y=>(M.2 e D.i2z).trans y⟩,λb hb=>?_⟩
  ·show Inv X C J _ { s with heap:=G,gens:=s.gens,drawn:=s.drawn,toks:=s.toks };refine I.step (g':=s.gens) (d':=s.drawn) (t':=s.toks) (ch:=[z,t,o,f,e]) (λb hb=>?_) (λb o _ _ O q _=>N b o O q) (λb o _ _ O q _=>⟨o.slots,N b o O q⟩) (λb o _ q r=>by rw[ax (lt q)];exact r) (λb o O q=>⟨o,N b o O q⟩)
    (λb ys q=>up b _ q) (λb o v q=>up b _ q) (λb ps q=>⟨#[],by rw[up b _ q];simp⟩) (λm hm=>?_) MM I.bare
   ·obtain⟨f0,f1,f2,f3,f4,f5⟩:=Q b hb;exact⟨f3,f1,f4,f5⟩
   ·obtain⟨o,es,ep,JA,r⟩:=hm;refine⟨o,es,ep,N _ o (λz=>?_) JA,r⟩;exact(Q _ z).2.1 Y
  ·have:b≠s.heap.objs.size:=by
    simp only[Zp,Yk,or_false]at hb;obtain⟨o4,j,_⟩:=j;obtain⟨o5,g,_⟩:=g;rcases hb with rfl | rfl | rfl | rfl | rfl
    ·exact lt A
    ·exact lt l
    ·exact lt F
    ·exact lt j
    ·exact lt g
   rw[ax this];exact(Q b hb).1
 done:=by
  intro X hP hw hK hc i C s J H E I Q st hg;subst hP hw hK;obtain⟨xs,ys,hq,IE,hx⟩:=hg;obtain⟨pe,rv,p,hz⟩:=I.list hq;obtain⟨S,O9,p',QO⟩:=I.list IE;obtain⟨A,l,⟨c1,c2,F⟩,j,g⟩:=st;have hl:=rv.length;have Vw:=O9.length;refine wpAny_pyNext_zip_end (I.ok.hd hc) D A l F j g p.isList p'.isList (hx.imp (λz=>by simp;lia) λz=>by simp;lia) λG hk=>⟨rfl,?_⟩
  have N:∀b d,b∉[z,o,f,e]->s.heap.get? b=Z d->G.get? b=Z d:=λb d hb q=>by
   simp only[Zp,Yk,or_false,not_or]at hb;exact hk b d hb.1 hb.2.1 hb.2.2.1 hb.2.2.2 q
  exact I.turns (t':=s.toks) (ch:=[z,o,f,e]) N λb hb=>Q b (by
   simp only[Zp,Yk,or_false]at hb ⊢;lia)
 self:=λ_ _ _ _ _ st h=>wpAny_pyIter_zip st.1 h
section
variable{X:Cx}{a b:Expr}{ta:TA}{p pos:Pos}
def U9(K:Xk)(g:TA):TI:=λJ H R=>g J H λf e=>∃l m,f=[.ref l,.ref m]/\(∃d,GW K e l d)/\(∃d,GW K e m d)/\R (Se K l m) e
def CD{g:List Expr}{n:Nat}{U:Pos}(M:Gl X "zip")(F:X.mg "zip" = L)(N:PA X [a,b] ta)(C:Pv [a,b] X.env=(false,eval a X.env) :: Pv [b] X.env)(E:(backTo pos (Pv [b] X.env)).any (·.1)=false):PI X (.Tuple g n U) (.Call (.Name "zip" p) [a,b] [] pos) (U9 X.K ta):=by
 intro d s J H R I h;refine Call_ (i7 I M F boot_zip (Yl (thn (N pos d s J H _ I h) λus s1 ⟨vs,H1,i,r1,z⟩=>?_) C E));obtain⟨l,m,e,⟨xs,D⟩,⟨ys,Y⟩,q⟩:=z;subst e;cases r1 with
 |cons r j =>
  cases j with
  |cons y j =>
   cases j;cases r;cases y;obtain⟨pe,rv,o,hz⟩:=i.list D;obtain⟨t,O9,v,QO⟩:=i.list Y;refine call_zip_2 o.isList v.isList λh' u S Q P O A G=>?_;refine wpAny_pyIter_zip u ?_;obtain⟨_,x,_⟩:=o.isList;obtain⟨_,w,_⟩:=v.isList;refine⟨_,_,_,_,H1,rfl,i.kept (t':=s1.toks) G,zw (zipApart_new (ZX x) (ZX w)),⟨u,S,⟨_,_,Q⟩,P,O⟩,λb hb=>?_,q⟩;have f:s1.heap.objs.size<=b:=by
    simp only[Zp,Yk,or_false]at hb;lia
   exact i.Ko f (i.GN.fresh f)
end
end L2
namespace VS
open PySem PySem.Spec PyProof.Rows L2
def ni:Wh->Wh->Wh
 |a :: l,b :: m=>.tup [a,b] :: ni l m
 |_,_=>[]
def GF:Val->Val->Option (Md×Wh)
 | (m,.lst l),(n,.lst k)=>Z (m.join (n.join .fr),ni l k)
 |_,_=>L
def A0(a b:Ex)(U:Env):Option (Md×Wh):=(a U).bind λx=>(b U).bind λy=>GF x y
section
variable{G:Gx}{X:Cx}{a b:Expr}{ca cb:Ex}{pos p Js:Pos}{elts:List Expr}{n:Nat}
theorem uA:∀(l m:Wh)(i:Nat){t:T},(ni l m)[i]?=Z t->∃x y,l[i]?=Z x/\m[i]?=Z y/\t=.tup [x,y]
 |[],_,_,_,h=>by simp[ni]at h
 |_ :: _,[],_,_,h=>by simp[ni]at h
 |x :: l,y :: m,0,t,h=>⟨x,y,rfl,rfl,(Zm h).symm⟩
 |x :: l,y :: m,i+1,t,h=>by simpa using uA l m i (t:=t) (by simpa[ni] using h)
theorem uh:∀(l m:Wh)(i:Nat),(ni l m).length<=i->l.length<=i\/m.length<=i
 |[],_,_,h=>.inl (Ys _)
 |_ :: _,[],_,h=>.inr (Ys _)
 |x :: l,y :: m,0,h=>nomatch h
 |x :: l,y :: m,i+1,h=>(uh l m i (Nat.le_of_succ_le_succ h)).imp YM YM
def Dw{H:Hp}{a b:KM}{f j:List V}{m s:Wh}{l C:Xl}(K:Xk)(w:H a=Z (.lst f))(e:H b=Z (.lst j))(r:RpL G H f m l)(J:RpL G H j s C):JY G (Se K a b) (ni m s) ((a :: l.flatten)++b :: C.flatten) H:=by
 refine⟨λg k c=>?_,λc N=>?_⟩
 ·have ca:∀d∈a :: l.flatten,∀o,H d=Z o->g d=Z o:=λd hd=>c d (ZD _ hd);have cb:∀d∈b :: C.flatten,∀o,H d=Z o->g d=Z o:=λd hd=>c d (ZQ _ hd);have P:g a=Z (.lst f):=ca a Zv _ w;have O:g b=Z (.lst j):=cb b Zv _ e;have r2:RpL G g f m l:=r.keep k λb e o M=>ca b (Zw _ e) o M;have U:RpL G g j s C:=J.keep k λb e o M=>cb b (Zw _ e) o M;refine⟨λi t h=>?_,λi h=>⟨f,j,GW.of P,GW.of O,by rw[r.len.1,J.len.1];exact uh _ _ _ h⟩⟩;obtain⟨x,y,hx,Y,et⟩:=uA m s i h;obtain⟨v,F,S,h2,h3⟩:=r2.get i hx;obtain⟨u,D,Q,h5,h6⟩:=U.get i Y;refine⟨⟨f,j,v,u,GW.of P,GW.of O,S,Q⟩,λq H3 ⟨p,z,z',hp,e1,e2,e3,e4⟩=>?_⟩;subst e1 e2;have ex:=e3 f (GW.of P);rw[S]at ex;cases ex;have ex:=e4 j (GW.of O);rw[Q]at ex;cases ex;have E:aC g (upd g p (.tup [v,u])):=λb o q=>by rw[ax (cG q hp)];exact q
  refine⟨E,F++D,?_,λb e=>.inl ?_⟩
  ·rw[et];have:F++D=([F,D]:Xl).flatten:=by simp
   rw[this];exact .tup au (.cons (h3.same E) (.cons (h6.same E) .nil))
  ·rcases Zd.mp e with e | e
   ·exact ZD _ (Zw _ (cO h2 e))
   ·exact ZQ _ (Zw _ (cO h5 e))
 ·have A:∀{a:KM}{f:List V}{m:Wh}{l:Xl},H a=Z (.lst f)->RpL G H f m l->c∈a :: l.flatten->H c≠L:=λw r N=>by
   rcases Zp.mp N with rfl | e
   ·rw[w];exact λz=>nomatch z
   ·exact GT.gV (r.G3 c e)
  exact(Zd.mp N).elim (A w r) (A e J)
def Bv(E:PV G X a ca)(D:PV G X b cb)(C:Gl X "zip")(A:X.mg "zip" = L)(h:Pv [a,b] X.env=(false,eval a X.env) :: Pv [b] X.env)(Q:K1 b [] X)(z:(backTo pos (Pv [b] X.env)).any (·.1)=false) :
  PVI G X (.Tuple elts n Js) (.Call (.Name "zip" p) [a,b] [] pos) (A0 ca cb) :=
 PI.weak (CD C A (ae E (ae D ai Q) h) h z) λJ H R w=>by
  obtain⟨M,U,m,l,s,e,k⟩:=w;obtain⟨⟨v,x⟩,N,e1⟩:=Zz.mp e;obtain⟨⟨u,y⟩,F,e2⟩:=Zz.mp e1;refine⟨M,U,[(v,x),(u,y)],s,by simp[ab,N,F],λj S Fs t d r=>?_⟩;cases x with
  |lst ts =>
   cases y with
   |lst rs =>
    cases e2;cases d with
    |cons r1 d =>
     cases d with
     |cons r2 d =>
      cases d;obtain⟨P,j,Fa,rfl,rfl,i,q⟩:=r1.lst_inv;obtain⟨O,Y,Fb,rfl,rfl,g,o⟩:=r2.lst_inv;have f:=r.join (by simp);refine⟨P,O,rfl,⟨_,GW.of i⟩,⟨_,GW.of g⟩,k _ S _ t (Dw X.K i g q o) ?_⟩;have f2:=f.c;simp only[ZW,List.flatten_nil,ZV]at f2;exact f2
   |_=>cases e2
  |_=>cases e2
end
def yu:Fn:=λa=>match a with
 |[.scr ns]=>if ns.length<=63 then Z (.fr,.bl B) else L
 |_=>L
section
variable{P:Re}{w:UF}{K:Xk}{mg:Xg}{base:SZ}{G:Gx}
def Aw{k:Nat}{f:KM}{b:P3}{y:Str}{g:Fn}(j:G.K=K)(F:FnOk P w K mg base Hk k f b [y] (Ja G g))(i:∀ns:Wp,ns.length<=63->g [.scr ns]=Z (.fr,.bl B)) :
  FnOk P w K mg base Hk k f b [y] (Ja (Oz K) yu):=F.imp λo H Q E h=>by
 obtain⟨p,s,m,r,l,a,q⟩:=h;unfold yu at a;split at a
 ·rename_i ns;split at a
  ·rename_i e;cases a;cases l with
   |cons r1 r2 =>
    cases r2;cases r1 with
    |scr d=>exact⟨[.scr ns],[[]],.fr,.bl B,.cons (.scr (by rw[j];exact d)) .nil,i ns e,λv n F e1 r f1=>q v n F e1 (by cases r;exact .bl _) f1⟩
  ·cases a
 ·cases a
end
def xo{l:PySem.W.OpenLaw}{q:Re}{b:List Str}{r:(Xg)->SZ->Prop}{d:DefRec}{K:Params->Xk}{x:Str}{k:Nat}(j:l.most=Z 63)(t:d.params.defaults=[])(i:p0 k callerA)(F:∀(w:UF)(mg:Xg)(e:KM)(h:SZ),(K w.params).In h->h.Ns mainGlobals mg->mg d.name=Z (.ref e) →
   ∃fd:P3,(∀(s:IR)(u:On),BindsTo s fd ⟨[u],[]⟩ [(x,u)])/\∀base:SZ,(K w.params).In base->base.Ns mainGlobals mg->FnOk l.prog w (K w.params) mg base Hk k e fd [x] (Ja (Oz (K w.params)) yu)) :
  PySem.W.WalkO q b r (λw h=>(K w.params).In h) l.row.toRowW d [] (λf g=>PySem.call f g) :=
 L2.Bm (n:=63) (k:=k) (x:=x) (CX:=λ_=>Hk) (sp:=λw=>Ja (Oz (K w.params)) yu) j (by decide) t i (λ_ _ h=>h) F (λw H a ns m p o=>Cr (G:=Oz (K w.params)) (Zq m) p o) λ_ _ _ _ _ z=>z
end VS
end
section
namespace T43
open VS
noncomputable def aE:Mt:=IB 0 4 4 [R,R,B]
  (ak (sX (iC 0 [.fld 1] aF (ab (aa 1) ag)))
  (ak (sX (iC 0 [.fld 2] aF (ab (aa 2) ag)))
  (ak (ng 0 [.fld 3] 3)
  (eW (e2 lB (eN bP (ab (aU 1 (aa 0)) ag)) (Q2 1))))))
noncomputable def di:Mt:=IB 0 1 1 (List.replicate 0 R)
  (ak (iL 0 1 (dm ag))
  (ak (iL 0 2 (dm ag))
  (ak (iL 0 3 (dm ag))
  (NO (bH 0 [] 0 [R,R,B] aE (ab (Q2 0) (ab (eC .non) (ab (rn 0 []) ag))))))))
noncomputable def bU:Sx :=
  (ak (dE 0 [.fld 3,.ix (aa 1)] (aa 2) (aa 5))
  (aP 1 (e2 aB (aU 2 (aa 0)) (aa 1))))
noncomputable def av:Mt:=IB 0 3 6 [R,R]
  (ak (aP 3 (e2 IM (e2 aB (aU 3 (aa 0)) (aa 1)) (aa 2)))
  (ak (aP 4 (e2 aW (e2 aB (aU 1 (aa 0)) (aa 1)) (Q2 1)))
  (ak (HH (e2 oEq (e2 aB (aU 1 (aa 0)) (aa 3)) (aa 4)) (fC 3) dF)
  (ak (cz 5 (bH 0 [] 0 [R,R,B] aE (ab (aa 4) (ab (e2 aB (aU 2 (aa 0)) (aa 3)) (ab (eN lH (ab (e2 aB (aU 3 (aa 0)) (aa 3)) ag)) ag)))))
  (ak (dE 0 [.fld 2] (aa 3) (aa 5))
  (ak (lD (jG (eK (aa 1)) (e2 oEq (e2 vM (e2 aB (aU 3 (aa 0)) (aa 1)) (aa 2)) (aa 3))) bU)
  (fC 5)))))))
noncomputable def bV:Sx :=
  (ak (dE 0 [.fld 3,.ix (aa 4)] (aa 2) (aa 3))
  (aP 4 (e2 aB (aU 2 (aa 0)) (aa 4))))
noncomputable def bS:Mt:=IB 0 3 5 [R,R]
  (ak (HH (e2 lq (aa 2) (e2 aB (aU 3 (aa 0)) (aa 1))) (kj (bH 0 [] 0 [R,R] av (ab (aa 1) (ab (aa 2) ag)))) dF)
  (ak (cz 3 (bH 0 [] 0 [R,R,B] aE (ab (e2 aW (e2 aB (aU 1 (aa 0)) (aa 1)) (Q2 1)) (ab (Q2 0) (ab (rn 0 []) ag)))))
  (ak (aP 4 (aa 1))
  (ak (lD (jG (eK (aa 4)) (e2 dQ (aa 2) (e2 aB (aU 3 (aa 0)) (aa 4)))) bV)
  (ak (HH (eK (aa 4)) (iZ 0 [.fld 2] (aa 3) (bH 0 [] 0 [R,R] av (ab (aa 4) (ab (aa 2) ag)))) dF)
  (fC 3))))))
noncomputable def cj:Sx :=
  (cz 1 (bH 0 [] 0 [R,R] bS (ab (aa 1) (ab (aa 3) ag))))
noncomputable def aL:Mt:=IB 0 3 4 [R,R]
  (ak (fZ (ba 3) (gj (aa 2)) cj)
  (fC 1))
noncomputable def bq:Sx :=
  (HH (e2 dQ (e2 IM (aa 4) (aa 5)) (aa 1)) (ak (qE 1 (e2 IM (aa 4) (aa 5)) (eN bP (ab (aa 2) ag)))
  (sX (kY 2 [] aF (ab (e2 IM (aa 4) (aa 5)) ag)))) dF)
noncomputable def bZ:Sx :=
  (ak (aP 4 (e2 aB (aU 3 (aa 0)) (e2 aB (aa 2) (aa 3))))
  (ak (fZ (ba 5) (gj (eN gR (ab (aa 4) ag))) bq)
  (aP 3 (e2 aW (aa 3) (Q2 1)))))
noncomputable def aD:Fn:=fn 1 6
  (ak (kT 1 (rn 0 [((Q2 0),(Q2 0))]))
  (ak (kT 2 (dm (ab (Q2 0) ag)))
  (ak (aP 3 (Q2 0))
  (ak (lD (e2 oLt (aa 3) (eN bP (ab (aa 2) ag))) bZ)
  (ak (vE 2)
  (fC 1))))))
noncomputable def bY:Fn:=fn 3 6
  (ak (aP 3 (e2 aB (aU 2 (aa 0)) (aa 1)))
  (ak (aP 4 (e2 aB (aU 3 (aa 0)) (aa 1)))
  (ak (aP 5 (eN ku (ab (du 1 (ba 0) (gj (eN gR (ab (aa 4) ag))) L (ka (ab (aa 0) (ab (e2 pE (aa 3) (e2 IM (aa 5) (aa 0))) ag)))) ag)))
  (ak (HH (BF (aa 3)) (eW (ka (ab (Q2 0) (ab (Q2 0) (ab (eC .non) (ab (aa 5) ag)))))) dF)
  (eW (ka (ab (e2 aW (e2 aB (aU 1 (aa 0)) (aa 3)) (Q2 1)) (ab (e2 aB (aU 1 (aa 0)) (aa 1)) (ab (e2 pE (aa 2) (aa 3)) (ab (aa 5) ag))))))))))
noncomputable def dC:Fn:=fn 1 2
  (ak (kT 1 (fA 0 aD (aa 0) ag))
  (xV 1 (ba 0) (fA 0 bY (aa 1) (ab (aa 0) (ab (aa 2) ag)))))
noncomputable def bu:Mt:=IB 1 1 1 []
  (ak (HH (e2 Nm (eN bP (ab (aU 4 (aa 0)) ag)) (Q2 8)) NP dF)
  (ak (sX (iC 0 [.fld 4] aF (ab (eC (.str [])) ag)))
  (ak (sX (iC 0 [.fld 5] aF (ab (Q2 0) ag)))
  (eW (e2 lB (eN bP (ab (aU 4 (aa 0)) ag)) (Q2 1))))))
def gb:Fn:=fn 1 1
  (eW (jG (OG .int (aa 0)) (oF (OG .bool (aa 0)))))
def bf:Fn:=fn 2 2
  (HH (KD (oF (bB gb (ab (aa 1) ag))) (oF (eY oLe oLt (Q2 0) (aa 1) (eN bP (ab (aa 0) ag))))) NP dF)
def gg:Fn:=fn 1 1
  (eW (eN wA (ab (du 1 (ba 0) (gj (aa 0)) L (eN bP (ab (aa 0) ag))) ag)))
noncomputable def bj:Mt:=IB 1 3 3 [R,R]
  (ak (sX (xP (bB bf (ab (aU 4 (aa 0)) (ab (aa 1) ag)))))
  (ak (HH (e2 Jx (e2 aW (bB gg (ab (aU 4 (aa 0)) ag)) (eN bP (ab (aa 2) ag))) (Q2 120)) NP dF)
  (ak (iZ 0 [.fld 5] (aa 1) (bH 0 [.fld 6] 0 [R,R] aL (ab (e2 aB (aU 5 (aa 0)) (aa 1)) (ab (aa 2) ag))))
  (dE 0 [.fld 4] (aa 1) (e2 aW (e2 aB (aU 4 (aa 0)) (aa 1)) (aa 2))))))
noncomputable def bE:Sx :=
  (NO (oO 0 1 [R,R] bj (bH 0 [] 1 [] bu ag) (ab (aa 2) ag)))
noncomputable def aA:Mt:=IB 1 2 3 (List.replicate 1 R)
  (ak (iL 0 4 (dm ag))
  (ak (iL 0 5 (dm ag))
  (ak (iL 0 6 (eNew 0 di ag))
  (HH (eK (aa 1)) (fZ (ba 2) (gj (aa 1)) bE) dF))))
def nL:Fn:=fn 1 1
  (eW (eN pS (ab (aU 4 (aa 0)) ag)))
noncomputable def aY:Fn:=fn 1 1
  (eW (fA 0 dC (aU 6 (aa 0)) ag))
noncomputable def lZ:Sx :=
  (ak (aP 5 (du 1 (ba 0) (cP (e2 aW (eN bP (ab (aa 4) ag)) (Q2 1))) (Z (eM pb (Kc (aa 5) L (Z (aa 0))) (ab (aa 2) ag))) (aa 0)))
  (sX (kY 2 [] ed (ab (du 1 (ba 0) (gj (aa 5)) L (ka (ab (aa 4) (ab (aa 0) ag)))) ag))))
noncomputable def fm:Fn:=fn 2 6
  (ak (kT 2 (dm ag))
  (ak (fZ (oA [(ba 3),(ba 4)]) (yf (aa 0)) lZ)
  (fC 2)))
def bL:Fn:=fn 2 2
  (HH (KD (oF (bB gb (ab (aa 1) ag))) (oF (eY oLe oLt (Q2 0) (aa 1) (eN bP (ab (aa 0) ag))))) NP dF)
noncomputable def il:Sx :=
  (ak (sX (kY 2 [] aF (ab (aa 1) ag)))
  (aP 1 (e2 aB (e2 aB (aa 0) (aa 1)) (Q2 2))))
noncomputable def jq:Fn:=fn 2 3
  (ak (sX (xP (bB bL (ab (aa 0) (ab (aa 1) ag)))))
  (ak (kT 2 (dm ag))
  (ak (lD (eK (aa 1)) il)
  (fC 2))))
def bX:Sx :=
  (ak (aP 5 (eN lC (ab (e2 aB (e2 aB (aa 0) (aa 4)) (Q2 3)) ag)))
  (HH (e2 lq (aa 3) (aa 5)) (eW (ka (ab (e2 IM (aa 5) (aa 3)) (ab (e2 aW (eN qV (ab (aa 2) (ab (e2 aB (e2 aB (aa 0) (aa 4)) (Q2 1)) ag))) (Q2 1)) ag)))) dF))
noncomputable def dH:Fn:=fn 4 6
  (ak (fZ (ba 4) (gj (bB jq (ab (aa 0) (ab (aa 1) ag)))) bX)
  (eW (ka (ab (Q2 0) (ab (Q2 0) ag)))))
noncomputable def kM:Sx :=
  (ak (aP 2 (bB dH (ab (aa 0) (ab (e2 aB (aa 2) (Q2 0)) (ab (e2 aB (aa 2) (Q2 1)) (ab (aa 4) ag))))))
  (sX (kY 3 [] aF (ab (e2 aB (aa 2) (Q2 1)) ag))))
noncomputable def cq:Fn:=fn 2 5
  (ak (aP 2 (ka (ab (Q2 0) (ab (Q2 0) ag))))
  (ak (kT 3 (dm (ab (Q2 0) ag)))
  (ak (fZ (ba 4) (gj (aa 1)) kM)
  (fC 3))))
def fG:Sx :=
  (ak (aP 3 (e2 oMod (e2 aW (e2 aW (e2 gE (aa 3) (Q2 69621)) (e2 gE (Q2 7) (aa 5))) (Q2 1)) (Q2 2147483647)))
  (ak (aP 6 (e2 oMod (e2 gE (aa 3) (aa 3)) (Q2 2147483629)))
  (aP 4 (e2 aW (e2 gE (aa 4) (Q2 999983)) (e2 oMod (e2 gE (aa 6) (e2 aW (e2 oMod (aa 6) (Q2 65521)) (Q2 3))) (Q2 999983))))))
noncomputable def cy:Fn:=fn 2 7
  (ak (aP 2 (e2 aW (e2 gE (aa 1) (Q2 7919)) (Q2 104729)))
  (ak (HH (e2 Jx (eN bP (ab (aa 0) ag)) (Q2 0)) (aP 2 (e2 aW (e2 aB (aa 0) (e2 oMod (aa 1) (eN bP (ab (aa 0) ag)))) (e2 gE (e2 jz (aa 1) (eN bP (ab (aa 0) ag))) (Q2 48271)))) dF)
  (ak (HH (e2 oEq (e2 oMod (aa 2) (Q2 2)) (Q2 0)) (eW (dm (ab (e2 jz (aa 2) (Q2 2)) ag))) dF)
  (ak (aP 3 (e2 oMod (e2 aW (e2 jz (aa 2) (Q2 2)) (e2 gE (Q2 40503) (aa 1))) (Q2 2147483629)))
  (ak (aP 4 (Q2 0))
  (ak (fZ (ba 5) (cP (Q2 24)) fG)
  (eW (dm (ab (aa 4) ag)))))))))
noncomputable def ar:Wh->Option (Wh×T):=Ku 2 3 [R]
  (ak (aP 2 (e2 oMod (e2 aB (Ny (aa 0)) (Q2 0)) (aa 1)))
  (ak (dE 0 [.un] (Q2 0) (e2 jz (e2 aB (Ny (aa 0)) (Q2 0)) (aa 1)))
  (fC 2)))
noncomputable def cF:Wh->Option (Wh×T):=Ku 3 3 [R,R]
  (kj (vp [] (j8 (aJ [(.io 0 B),(.px (xI (e2 aW (aa 2) (Q2 1))))] ar) (x2 aB (xI (aa 2)) (aJ [(.io 1 B),(.px (xI (eN bP (ab (aa 2) ag))))] ar)))))
noncomputable def gK:Wh->Option (Wh×T):=Ku 1 5 []
  (ak (aP 1 (eC (.str [97,98,99,100,101,102,103,104,105,106,107,108,109,110,111,112,113,114,115,116,117,118,119,120,121,122])))
  (ak (cz 2 (lX (dm (ab (Q2 2) (ab (Q2 1) (ab (Q2 3) (ab (Q2 2) (ab (Q2 4) (ab (Q2 2) (ab (Q2 3) (ab (Q2 26) ag))))))))) (aJ [(.io 0 B),(.px (xI (Q2 8)))] ar)))
  (ak (cz 3 (aJ [(.io 0 B),(.px (xI (Q2 26)))] ar))
  (ak (cz 4 (lX (dm (ab (Q2 1) (ab (Q2 3) (ab (Q2 25) (ab (Q2 7) ag))))) (aJ [(.io 0 B),(.px (xI (Q2 4)))] ar)))
  (eW (eM jv (eC (.str [])) (ab (du 1 (ba 0) (cP (aa 2)) L (e2 aB (aa 2) (e2 oMod (e2 aW (aa 4) (e2 gE (aa 5) (aa 0))) (Q2 26)))) ag)))))))
noncomputable def dB:Sx :=
  (ak (cz 5 (aJ [(.io 0 B),(.px (xI (aa 1))),(.px (lX (dm (ab (Q2 6) (ab (Q2 3) (ab (Q2 10) (ab (Q2 8) ag))))) (aJ [(.io 0 B),(.px (xI (Q2 4)))] ar)))] cF))
  (ak (qL (iP (e2 Jx (aa 4) (Q2 0)) (KJ (x2 oEq (aJ [(.io 0 B),(.px (xI (Q2 4)))] ar) (xI (Q2 1))))) (ak (cz 6 (oR 3 (aJ [(.io 0 B),(.px (xI (aa 4)))] ar)))
  (cz 5 (Nf (x2 aW (Nf (xI (aa 6)) (Z (aJ [(.io 0 B),(.px (xI (e2 aW (eN bP (ab (aa 6) ag)) (Q2 1))))] ar)) L) (xI (aa 5))) L (Z (xI (Q2 14)))))) dF)
  (sX (kY 3 [] aF (ab (aa 5) ag)))))
noncomputable def ig:Wh->Option (Wh×T):=Ku 2 7 [R]
  (ak (cz 2 (lX (dm (ab (Q2 2) (ab (Q2 1) (ab (Q2 3) (ab (Q2 2) (ab (Q2 4) (ab (Q2 0) (ab (Q2 1) (ab (Q2 8) ag))))))))) (aJ [(.io 0 B),(.px (xI (Q2 8)))] ar)))
  (ak (kT 3 (dm ag))
  (ak (fZ (ba 4) (cP (aa 2)) dB)
  (ak (qL (iP (eY oLt oLt (Q2 0) (aa 2) (Q2 3)) (KJ (x2 oEq (aJ [(.io 0 B),(.px (xI (Q2 6)))] ar) (xI (Q2 1))))) (iZ 3 [] (Q2 0) (x2 vk (x2 aW (x2 aW (xI (e2 aB (aa 3) (Q2 0))) (aJ [(.io 0 B),(.px (xI (aa 1))),(.px (xI (Q2 24)))] cF)) (xI (e2 aB (aa 3) (Q2 (-1))))) (x2 aW (xI (Q2 1)) (aJ [(.io 0 B),(.px (xI (Q2 2)))] ar)))) dF)
  (fC 3)))))
noncomputable def fj:Sx :=
  (ak (cz 5 (aJ [(.io 0 B),(.px (xI (Q2 6)))] ar))
  (HH (e2 oLt (aa 5) (Q2 2)) (cz 3 (x2 aW (xI (aa 3)) (aJ [(.io 0 B),(.px (xI (aa 2))),(.px (xI (Q2 7)))] cF))) (HH (e2 oEq (aa 5) (Q2 2)) (cz 3 (x2 aW (xI (aa 3)) (x2 aB (xI (eC (.str [97,98,99,100,101,102,103,104,105,106,107,108,109,110,111,112,113,114,115,116,117,118,119,120,121,122]))) (aJ [(.io 0 B),(.px (xI (Q2 26)))] ar)))) (HH (e2 JM (aa 1) (dm ag)) (ak (cz 6 (oR 1 (aJ [(.io 0 B),(.px (xI (eN bP (ab (aa 1) ag))))] ar)))
  (ak (cz 7 (aJ [(.io 0 B),(.px (xI (e2 aW (eN bP (ab (aa 6) ag)) (Q2 1))))] ar))
  (cz 3 (x2 aW (xI (aa 3)) (Nf (xI (aa 6)) (Z (xI (aa 7))) (Z (x2 aW (xI (e2 aW (aa 7) (Q2 1))) (aJ [(.io 0 B),(.px (xI (Q2 40)))] ar)))))))) dF))))
noncomputable def eZ:Wh->Option (Wh×T):=Ku 3 8 [R,R]
  (ak (aP 3 (eC (.str [])))
  (ak (uE (ba 4) (x2 aW (xI (Q2 1)) (aJ [(.io 0 B),(.px (xI (Q2 5)))] ar)) fj)
  (fC 3)))
noncomputable def gk:Sx :=
  (ak (aP 6 (e2 aB (aa 4) (aa 5)))
  (ak (HH (KD (e2 oLt (aa 6) (Q2 0)) (KD (e2 Jx (aa 6) (e2 aW (e2 aB (aa 4) (e2 lB (aa 5) (Q2 1))) (Q2 1))) (e2 Jx (aa 6) (aa 5)))) (eW (eC (.bl R))) dF)
  (ak (HH (jG (e2 Jx (aa 6) (Q2 0)) (e2 oEq (bB fm (ab (aa 0) (ab (Kc (aa 2) (Z (e2 lB (aa 5) (aa 6))) (Z (aa 5))) ag))) (dm ag))) (eW (eC (.bl R))) dF)
  (HH (jG (e2 oLt (aa 6) (aa 5)) (e2 JM (bB fm (ab (aa 0) (ab (Kc (aa 2) (Z (e2 lB (e2 lB (aa 5) (aa 6)) (Q2 1))) (Z (aa 5))) ag))) (dm ag))) (eW (eC (.bl R))) dF))))
noncomputable def gF:Fn:=fn 4 7
  (ak (aP 4 (bB cq (ab (aa 1) (ab (aa 2) ag))))
  (ak (HH (KD (e2 JM (eN bP (ab (aa 4) ag)) (e2 aW (eN bP (ab (aa 2) ag)) (Q2 1))) (KD (e2 JM (e2 aB (aa 4) (Q2 0)) (Q2 0)) (e2 JM (bB cq (ab (aa 1) (ab (Kc (aa 2) L (Z (aa 3))) ag))) (Kc (aa 4) L (Z (e2 aW (aa 3) (Q2 1))))))) (eW (eC (.bl R))) dF)
  (ak (fZ (ba 5) (js (Q2 1) (eN bP (ab (aa 4) ag))) gk)
  (eW (eC (.bl B))))))
noncomputable def sA:Sx :=
  (HH (e2 JM (bB cq (ab (aa 4) (ab (aa 6) ag))) (eN mG (ab (e2 aW (eN bP (ab (aa 6) ag)) (Q2 1)) ag))) (eW (eC (.bl R))) dF)
noncomputable def sr:Sx :=
  (qL (Cc (KJ (pU (ab (aa 3) (ab (aa 4) (ab (aa 8) ag))) (aJ [(.io 5 R),(.px (xI (e2 aW (eN bP (ab (aa 8) ag)) (Q2 1))))] ar) gF))) (eW (eC (.bl R))) dF)
noncomputable def rL:Sx :=
  (HH (e2 JM (du 2 (oA [(ba 0),(ba 1)]) (A0 (bB cq (ab (aa 4) (ab (aa 8) ag))) (bB cq (ab (aa 9) (ab (aa 8) ag)))) (Z (e2 Jx (aa 0) (aa 1))) (Q2 1)) (dm ag)) (eW (eC (.bl R))) dF)
noncomputable def yK:Fn:=fn 1 10
  (ak (kT 1 (bB cy (ab (aa 0) (ab (Q2 0) ag))))
  (ak (cz 2 (aJ [(.io 1 R)] gK))
  (ak (n0 3 (aJ [(.io 1 R),(.px (xI (aa 2)))] ig))
  (ak (vE 1)
  (ak (aP 4 (fA 1 aY (eNew 1 aA (ab (aa 3) ag)) ag))
  (ak (kT 5 (bB cy (ab (aa 0) (ab (Q2 1) ag))))
  (ak (fZ (ba 6) (gj (aa 3)) sA)
  (ak (rM 7 (Bu (j8 (xI (Q2 2)) (fI [(.io 6 R),(.ex (aa 4)),(.ex (aa 3))] eZ))))
  (ak (vE 7)
  (ak (fZ (ba 8) (gj (aa 7)) sr)
  (ak (HH (KD (e2 oEq (eN bP (ab (aa 3) ag)) (Q2 8)) (e2 Jx (eN wA (ab (du 1 (ba 0) (gj (aa 3)) L (eN bP (ab (aa 0) ag))) ag)) (Q2 108))) (eW (eC (.bl B))) dF)
  (ak (n0 9 (nP 1 aY (o8 1 aA (uQ (aa 3) (sS (aJ [(.io 5 R),(.px (xI (aa 2))),(.px (xI (Q2 12)))] cF))))))
  (ak (vE 5)
  (ak (fZ (ba 8) (gj (aa 7)) rL)
  (eW (eC (.bl B)))))))))))))))))
end T43
end
section
namespace AU
structure St where
 lg:Wq
 lk:List (Option Nat)
 wy:List (List (Nat×Nat))
def gW(w:List (Nat×Nat))(c:Nat):Option Nat:=(w.find? λp=>p.1==c).map (·.2)
def pW(w:List (Nat×Nat))(c m:Nat):List (Nat×Nat):=if w.any (λp=>p.1==c) then w.map (λp=>if p.1==c then (p.1,m) else p) else w++[(c,m)]
structure WF(S:St):Prop where
 lk:S.lk.length=S.lg.length
 wy:S.wy.length=S.lg.length
 pos:0<S.lg.length
 up:∀i n,S.lk.getD i none=some n->n<S.lg.length
 on:∀i c n,gW (S.wy.getD i []) c=some n->n<S.lg.length
 nd:∀w∈S.wy,(w.map (·.1)).Nodup
 az:∀w∈S.wy,∀p∈w,97<=p.1/\p.1<=122
theorem sub_len{α:Type}[DecidableEq α]:∀(l r:List α),l.Nodup->(∀x∈l,x∈r)->l.length<=r.length
 |[],_,_,_=>Ys _
 |a :: l,r,nd,h=>by
  obtain⟨g,f⟩:=Zg.mp nd;have d:a∈r:=h a Zv;have:=sub_len l (r.erase a) f λx b=>(List.mem_erase_of_ne (show x≠a from λe=>g (by rw[← e];exact b))).mpr (h x (Zw _ b));rw[List.length_erase_of_mem d]at this;have:0<r.length:=List.length_pos_of_mem d;rw[Zi];lia
def WF.small{S:St}(W:WF S)(i:Nat):(S.wy.getD i []).length<16777216:=by
 by_cases h:i<S.wy.length
 ·have a:S.wy.getD i []∈S.wy:=by
   rw[Zs,Zr h];exact Yy h
  have:=sub_len ((S.wy.getD i []).map (·.1)) (List.range 123) (W.nd _ a) λx b=>by
   obtain⟨p,d,rfl⟩:=Yg.mp b;have:=(W.az _ a p d).2;exact YL.mpr (by exact Nat.lt_succ_of_le this)
  rw[Zu,ZI]at this;lia
 ·rw[Zs,Z3 (ZM h)];decide
def D3(w:List (Nat×Nat))(c:Nat):(w.any λp=>p.1==c)=(gW w c).isSome:=by
 unfold gW;rw[Ye,YE,YK,List.find?_isSome]
def Cb(w:List (Nat×Nat))(c m d:Nat):gW (pW w c m) d=if d=c then Z m else gW w d:=by
 unfold pW;split
 ·rename_i h
  induction w with
  |nil=>simp at h
  |cons p w b =>
   rw[Zo];unfold gW;rw[Z9,Z9];by_cases q:p.1=c
   ·rw[Zq (by simpa using q)];by_cases r:p.1=d
    ·have:(p.1==d)=B:=by simpa using r
     simp only[this];rw[Zq (by rw[← r,q])];rfl
    ·have a:(p.1==d)=R:=by simpa using r
     have:d≠c:=λe=>r (by rw[e,q]);simp only[a,Zn this];have key:∀w:List (Nat×Nat),(w.map λp=>if p.1==c then (p.1,m) else p).find? (λp=>p.1==d)=w.find? λp=>p.1==d:=by
      intro w
      induction w with
      |nil=>rfl
      |cons x w b =>
       rw[Zo,Z9,Z9,b];by_cases y:x.1=c
       ·rw[Zq (by simpa using y)];have:(x.1==d)=R:=by simpa using λe=>this (by rw[← e,y])
        simp only[this]
       ·rw[Zn (by simpa using y)]
     rw[key w]
   ·rw[Zn (by simpa using q)];have i:(w.any λp=>p.1==c)=B:=by
     rw[Yf]at h;simpa[q] using h
    have f:=b i;unfold gW at f;by_cases r:p.1=d
    ·have a:(p.1==d)=B:=by simpa using r
     simp only[a];rw[Zn (λe=>q (by rw[r,e]))]
    ·have a:(p.1==d)=R:=by simpa using r
     simp only[a];exact f
 ·rename_i h;unfold gW;rw[List.find?_append];by_cases q:d=c
  ·subst q;have:w.find? (λp=>p.1==d)=L:=by
    rw[List.find?_eq_none];intro p g e;exact h (YK.mpr ⟨p,g,e⟩)
   rw[this,Zq Y];simp
  ·rw[Zn q];have:((c==d)=R):=by simpa using λe=>q e.symm
   simp[this]
def zU(w:List (Nat×Nat))(c m:Nat)(f:(w.map (·.1)).Nodup):((pW w c m).map (·.1)).Nodup:=by
 unfold pW;split
 ·rw[Z6];have:((λp:Nat×Nat=>p.1) ∘ λp=>if (p.1==c)=B then (p.1,m) else p)=λp=>p.1:=by
   funext p;simp only[Function.comp];split<;>rfl
  rw[this];exact f
 ·rename_i h;rw[ZF,ZR];refine⟨f,by simp,λa i b hb e=>?_⟩;have d:b=c:=by simpa using hb
  subst e d;obtain⟨p,g,e⟩:=Yg.mp i;exact h (YK.mpr ⟨p,g,by simpa using e⟩)
def Dy{w:List (Nat×Nat)}{c m:Nat}{p:Nat×Nat}(h:p∈pW w c m):p.1=c\/p∈w:=by
 unfold pW at h;split at h
 ·obtain⟨q,a,rfl⟩:=Yg.mp h;by_cases r:(q.1==c)=B
  ·rw[Zq r];exact .inl (by simpa using r)
  ·rw[Zn r];exact .inr a
 ·rcases Zd.mp h with h | h
  ·exact .inr h
  ·rw[Zh.mp h];exact .inl Y
def hV{α:Type}(l:List α)(i j:Nat)(x d:α):(l.set i x).getD j d=if i=j/\i<l.length then x else l.getD j d:=by
 rw[Zs,Zs,X9];by_cases h:i=j
 ·subst h;by_cases a:i<l.length
  ·rw[Zq Y,Zq a,Zq ⟨rfl,a⟩];rfl
  ·rw[Zq Y,Zn a,Zn (λz=>a z.2),Z3 (ZM a)]
 ·rw[Zn h,Zn (λz=>h z.1)]
def cf{α:Type}(l:List α)(x d:α)(j:Nat):(l++[x]).getD j d=if j=l.length then x else l.getD j d:=by
 rw[Zs,Zs];by_cases h:j<l.length
 ·rw[Z0 h,Zn (Zb h)]
 ·rw[Yx (ZM h)];by_cases a:j=l.length
  ·rw[Zq a,a,Nat.sub_self];rfl
  ·rw[Zn a,Z3 (ZM h),Z3 (by simp;lia)]
def WF.way{S:St}(W:WF S){n c v:Nat}(g:v<S.lg.length)(j:97<=c/\c<=122):WF ⟨S.lg,S.lk,S.wy.set n (pW (S.wy.getD n []) c v)⟩:=by
 refine⟨W.lk,by rw[Z8];exact W.wy,W.pos,W.up,λi d m h=>?_,λw hw=>?_,λw hw p f=>?_⟩
 ·show m<S.lg.length;have b:gW ((S.wy.set n (pW (S.wy.getD n []) c v)).getD i []) d=Z m:=h;rw[hV]at b;split at b
  ·rw[Cb]at b;split at b
   ·cases b;exact g
   ·exact W.on n d m b
  ·exact W.on i d m b
 ·by_cases a:n<S.wy.length
  ·rcases List.mem_or_eq_of_mem_set hw with h | h
   ·exact W.nd w h
   ·rw[h];refine zU _ c v (W.nd _ ?_);rw[Zs,Zr a];exact Yy a
  ·rw[List.set_eq_of_length_le (ZM a)]at hw;exact W.nd w hw
 ·by_cases a:n<S.wy.length
  ·rcases List.mem_or_eq_of_mem_set hw with h | h
   ·exact W.az w h p f
   ·rw[h]at f;rcases Dy f with e | e
    ·rw[e];exact j
    ·refine W.az _ ?_ p e;rw[Zs,Zr a];exact Yy a
  ·rw[List.set_eq_of_length_le (ZM a)]at hw;exact W.az w hw p f
def WF.link{S:St}(W:WF S){n v:Nat}(b:v<S.lg.length):WF ⟨S.lg,S.lk.set n (Z v),S.wy⟩:=by
 refine⟨by rw[Z8];exact W.lk,W.wy,W.pos,λi m h=>?_,W.on,W.nd,W.az⟩;have a:(S.lk.set n (Z v)).getD i L=Z m:=h;rw[hV]at a;split at a
 ·cases a;exact b
 ·exact W.up i m a
def WF.more{S:St}(W:WF S){l:Nat}{o:Option Nat}{w:List (Nat×Nat)}(f:∀n,o=Z n->n<S.lg.length)(hw:∀c n,gW w c=Z n->n<S.lg.length)(e:(w.map (·.1)).Nodup)(g:∀p∈w,97<=p.1/\p.1<=122):WF ⟨S.lg++[l],S.lk++[o],S.wy++[w]⟩:=by
 have b:∀{n},n<S.lg.length->n<(S.lg++[l]).length:=λh=>by rw[Zt,ZP];exact Yd h
 refine⟨by rw[Zt,Zt,W.lk];rfl,by rw[Zt,Zt,W.wy];rfl,by rw[Zt];exact ZL W.pos (Yq _ _),λi n h=>?_,λi c n h=>?_,λx d=>?_,λx d=>?_⟩
 ·have a:(S.lk++[o]).getD i L=Z n:=h;rw[cf]at a;split at a
  ·exact b (f n a)
  ·exact b (W.up i n a)
 ·have a:gW ((S.wy++[w]).getD i []) c=Z n:=h;rw[cf]at a;split at a
  ·exact b (hw c n a)
  ·exact b (W.on i c n a)
 ·rcases Zd.mp d with h | h
  ·exact W.nd x h
  ·rw[Zh.mp h];exact e
 ·rcases Zd.mp d with h | h
  ·exact W.az x h
  ·rw[Zh.mp h];exact g
def up1(c v:Nat):Nat->St->Option Nat->Option (St×Option Nat)
 |_,S,none=>Z (S,L)
 |0,_,some _=>L
 |k+1,S,some n=>if (gW (S.wy.getD n []) c).isSome then Z (S,Z n) else up1 c v k ⟨S.lg,S.lk,S.wy.set n (pW (S.wy.getD n []) c v)⟩ (S.lk.getD n L)
def L1(c a v:Nat):Nat->St->Option Nat->Option St
 |_,S,none=>Z S
 |0,_,some _=>L
 |k+1,S,some n=>if gW (S.wy.getD n []) c=Z a then L1 c a v k ⟨S.lg,S.lk,S.wy.set n (pW (S.wy.getD n []) c v)⟩ (S.lk.getD n L) else Z S
def LI(S:St)(n c:Nat):Option (St×Nat):=(gW (S.wy.getD n []) c).bind λold=>if S.lg.getD old 0=S.lg.getD n 0+1 then Z (S,old) else
 (L1 c old S.lg.length 1000 ⟨S.lg++[S.lg.getD n 0+1],(S.lk++[S.lk.getD old L]).set old (Z S.lg.length),S.wy++[S.wy.getD old []]⟩ (Z n)).map λa=>(a,S.lg.length)
def hb(S:St)(h c:Nat):Option (St×Nat):=if (gW (S.wy.getD h []) c).isSome then LI S h c else
 (up1 c S.lg.length 1000 ⟨S.lg++[S.lg.getD h 0+1],S.lk++[Z 0],S.wy++[[]]⟩ (Z h)).bind λz=>match z.2 with
  |none=>Z (z.1,S.lg.length)
  |some n=>(LI z.1 n c).map λy=>(⟨y.1.lg,y.1.lk.set S.lg.length (Z y.2),y.1.wy⟩,S.lg.length)
def hg(S:St)(h:Nat):Wq->Option (St×Nat)
 |[]=>Z (S,h)
 |c :: r=>(hb S h c).bind λz=>hg z.1 z.2 r
def Sm(S:St):Prop:=S.lg.length<=100001
def WF.NH{S:St}(W:WF S)(i:Nat):((S.wy.getD i []).map (·.1)).Nodup/\∀p∈S.wy.getD i [],97<=p.1/\p.1<=122:=by
 by_cases h:i<S.wy.length
 ·have a:S.wy.getD i []∈S.wy:=by
   rw[Zs,Zr h];exact Yy h
  exact⟨W.nd _ a,W.az _ a⟩
 ·rw[Zs,Z3 (ZM h)];exact⟨Yz,λp b=>nomatch b⟩
def S0:St:=⟨[0],[L],[[]]⟩
def BN:WF S0:=by
 refine⟨rfl,rfl,by decide,λi n h=>?_,λi c n h=>?_,λw hw=>?_,λw hw p a=>?_⟩
 ·cases i with
  |zero=>cases h
  |succ i=>cases h
 ·cases i with
  |zero=>cases h
  |succ i=>cases h
 ·rw[Zh.mp hw];exact Yz
 ·rw[Zh.mp hw]at a;cases a
end AU
end
section
namespace VS
def e2v{f:Val->Val->Wi}{a b:Ex}{U:Env}{x y z:Val}(g:a U=Z x)(e:b U=Z y)(d:f x y=Z z):e2 f a b U=Z z:=by
 show (a U).bind _=_;rw[g,Zx,e];exact d
def xv{a:Ex}{r:Hf}{U:Env}{x:Val}{b:Wj}(e:a U=Z x)(d:r U=Z b):ab a r U=Z (x :: b):=by
 show (a U).bind _=_;rw[e,Zx,d];rfl
def GC{c:Ex}{a b:Sx}{U:Env}{m:Md}(h:c U=Z (m,.bl B)):HH c a b U=a U:=by
 show (c U).bind _=_;rw[h];rfl
def Gn{c:Ex}{a b:Sx}{U:Env}{m:Md}(h:c U=Z (m,.bl R)):HH c a b U=b U:=by
 show (c U).bind _=_;rw[h];rfl
def iq{f:Wj->Wi}{a:Hf}{U:Env}{b:Wj}{v:Val}(h:a U=Z b)(d:f b=Z v):eN f a U=Z v:=by
 show (a U).bind f=_;rw[h,Zx,d]
def gY{e:Ex}{U:Env}{t:T}(h:e U=Z (.fr,t)):eW e U=Z (.rt (.fr,t) U):=by
 show (e U).bind _=_;rw[h];rfl
def jc{a b:Sx}{U d:Env}{v:Val}(h:a U=Z (.rt v d)):ak a b U=Z (.rt v d):=by
 show (a U).bind _=_;rw[h];rfl
def qg{a b:Sx}{U U1:Env}(h:a U=Z (.nx U1)):ak a b U=b U1:=by
 show (a U).bind _=_;rw[h];rfl
def sq{a b:Sx}{U U1:Env}{r:Option Out}(h:a U=Z (.nx U1))(q:b U1=r):ak a b U=r:=(qg h).trans q
def Kl{c:Ex}{a b:Sx}{U:Env}{m:Md}{r:Option Out}(h:c U=Z (m,.bl B))(q:a U=r):HH c a b U=r:=(GC h).trans q
def fP{c:Ex}{a b:Sx}{U:Env}{m:Md}{r:Option Out}(h:c U=Z (m,.bl R))(q:b U=r):HH c a b U=r:=(Gn h).trans q
def gM{d e:Nat}{b:Sx}{a:Wh}{v:Val}{U:Env}(f:a.length=d)(h:b (a.map (λt=>Z (.pu t))++List.replicate (e-d) L)=Z (.rt v U)):fn d e b a=Z v:=by
 unfold fn;rw[Zq f,h];rfl
def FI{d e:Nat}{b:Sx}{a:Wh}{U:Env}(f:a.length=d)(h:b (a.map (λt=>Z (.pu t))++List.replicate (e-d) L)=Z (.nx U)):fn d e b a=Z (.fr,.non):=by
 unfold fn;rw[Zq f,h];rfl
def pL{a b:Ex}{U:Env}{m:Md}{x:Bool}{v:Val}(f:a U=Z (m,.bl x))(e:x=B->b U=Z v)(d:x=R->v=(.fr,.bl R)):jG a b U=Z v:=by
 show (a U).bind _=_;rw[f,Zx];cases x with
 |true=>exact e Y
 |false=>exact congrArg Z (d Y).symm
def ym{a b:Ex}{U:Env}{m:Md}{x:Bool}{v:Val}(f:a U=Z (m,.bl x))(e:x=R->b U=Z v)(d:x=B->v=(.fr,.bl B)):KD a b U=Z v:=by
 show (a U).bind _=_;rw[f,Zx];cases x with
 |false=>exact e Y
 |true=>exact congrArg Z (d Y).symm
def NY{a b:Ex}{U:Env}{m n:Md}{x y:Bool}(f:a U=Z (m,.bl x))(d:b U=Z (.fr,.bl y)):KD a b U=Z (.fr,.bl (x||y)):=ym f (λe=>by rw[e];exact d) (λe=>by rw[e];rfl)
def xF{a:Ex}{U:Env}{m:Md}{b:Bool}(h:a U=Z (m,.bl b)):oF a U=Z (.fr,.bl (!b)):=by
 show (a U).bind _=_;rw[h];rfl
def ql{f g:Val->Val->Wi}{a b c:Ex}{U:Env}{x y z v:Val}(j:a U=Z x)(i:b U=Z y)(h:f x y=Z (.fr,.bl B))(e:c U=Z z)(d:g y z=Z v):eY f g a b c U=Z v:=by
 show (a U).bind _=_;rw[j,Zx,i,Zx,h,Zx];show (c U).bind _=_;rw[e];exact d
def AW{f g:Val->Val->Wi}{a b c:Ex}{U:Env}{x y:Val}(h:a U=Z x)(e:b U=Z y)(d:f x y=Z (.fr,.bl R)):eY f g a b c U=Z (.fr,.bl R):=by
 show (a U).bind _=_;rw[h,Zx,e,Zx,d];rfl
def u9{n:Nat}{i:Int}(b:0<=i)(a:i<n):HJ n i=Z i.toNat:=by rw[HJ,Zq b,Zq a]
def wG{n:Nat}{i:Nat}(a:i<n):HJ n (i:Int)=Z i:=by
 rw[HJ,Zq (Int.natCast_nonneg i),Zq (Int.ofNat_lt.mpr a)];rfl
def zS{m n:Md}(l:Wp)(i:Int)(b:0<=i)(a:i<l.length):aB (m,.scr l) (n,.int i)=Z (.fr,.int (l.getD i.toNat 0)):=by
 have d:i.toNat<l.length:=by lia
 show (HJ l.length i).bind _=_;rw[u9 b a,Zx,Zs,Zr d];rfl
def tQ{m n:Md}(t:Tx)(i:Int)(b:0<=i)(a:i<t.length):aB (m,.str t) (n,.int i)=Z (.fr,.str [t.getD i.toNat 0]):=by
 have d:i.toNat<t.length:=by lia
 show (HJ t.length i).bind _=_;rw[u9 b a,Zx,Zs,Zr d];rfl
def lM{m n:Md}{a b:T}{r:Bool}(e:HL 60 a=B)(d:HL 60 b=B)(h:eqT a b=r):oEq (m,a) (n,b)=Z (.fr,.bl r):=by
 show (if HL 60 a/\HL 60 b then Z (Md.fr,T.bl (eqT a b)) else L)=_;rw[Zq ⟨e,d⟩,h]
def qF{m n:Md}{a b:T}{r:Bool}(e:HL 60 a=B)(d:HL 60 b=B)(h:eqT a b=r):JM (m,a) (n,b)=Z (.fr,.bl (!r)):=by
 show (if HL 60 a/\HL 60 b then Z (Md.fr,T.bl (!eqT a b)) else L)=_;rw[Zq ⟨e,d⟩,h]
def qk{i:Nat}{e:Ex}{U:Env}{l:Wh}{v:T}(f:U[i]?=Z (Z (.ow (.lst l))))(d:e U=Z (.fr,v))(b:l.length<16777216):sX (kY i [] aF (ab e ag)) U=Z (.nx (U.set i (Z (.ow (.lst (l++[v])))))):=by
 have a:ab e ag U=Z [(.fr,v)]:=xv d Y;unfold sX kY;rw[f];show ((Z ([]:List Ky)).bind _ |>.map _)=_;rw[Zx,a,Zx];show ((aF (.lst l) [(.fr,v)]).map _ |>.map _)=_;rw[eT b];rfl
end VS
end
section
namespace T43
open VS AU
abbrev pc(t:T):Wk:=Z (.pu t)
abbrev Q0(i:Int):Option Cell:=Z (.pu (.int i))
abbrev Q1(t:Tx):Option Cell:=Z (.pu (.str t))
abbrev oc(t:T):Wk:=Z (.ow t)
def G6(w:List (Nat×Nat)):T:=.dct 0 (w.map λp=>(T.str [p.1],T.int (p.2:Int)))
def G8:Option Nat->T
 |none=>.non
 |some n=>.int (n:Int)
def JD(S:St):sH:=[(1,.lst (S.lg.map λ(n:Nat)=>T.int (n:Int))),(2,.lst (S.lk.map G8)),(3,.lst (S.wy.map G6))]
def GO(S:St)(b:Bool):T:=.obj 1 ((0,.bl b) :: JD S)
def k9(o:Option Nat):GQ (G8 o)=B:=by cases o<;>rfl
theorem dZ{α:Type}(f:α->T)(h:∀a,d8 (f a)=B):∀l:List α,aZ (l.map f)=B
 |[]=>rfl
 |a :: l=>by rw[Zo,aZ,h a,dZ f h l];rfl
def xG(w:List (Nat×Nat)):d8 (G6 w)=B:=by
 show pd (w.map λp=>(T.str [p.1],T.int (p.2:Int)))=B
 induction w with
 |nil=>rfl
 |cons p w a=>rw[Zo,pd,a];rfl
def kA(S:St):dD (JD S)=B:=by
 have d:d8 (.lst (S.lg.map λ(n:Nat)=>T.int (n:Int)))=B:=dZ _ (λ_=>rfl) _;have b:d8 (.lst (S.lk.map G8))=B:=dZ _ (λo=>lj _ (k9 o)) _;have a:d8 (.lst (S.wy.map G6))=B:=dZ _ xG _;show ((d8 _ && !(1==0&&LL _))&&((d8 _ && !(2==0&&LL _))&&((d8 _ && !(3==0&&LL _))&&B)))=B;rw[d,b,a];rfl
def EC(S:St)(b:Bool):qc 1 (GO S b)=Z (.lst (S.lg.map λ(n:Nat)=>T.int (n:Int))):=rfl
def Gp(S:St)(b:Bool):qc 2 (GO S b)=Z (.lst (S.lk.map G8)):=rfl
def Gj(S:St)(b:Bool):qc 3 (GO S b)=Z (.lst (S.wy.map G6)):=rfl
def gU{k:Nat}{a:Ex}{U:Env}{m:Md}{t u:T}(h:a U=Z (m,t))(b:qc k t=Z u):aU k a U=Z (sub m u):=by
 unfold aU;rw[h,Zx,b];rfl
def j7{α:Type}{m n:Md}(f:α->T)(l:List α)(i:Nat)(d:α)(h:i<l.length):aB (m,.lst (l.map f)) (n,.int (i:Int))=Z (sub m (f (l.getD i d))):=by
 show (HJ (l.map f).length (i:Int)).bind _=_;rw[Zu,wG h,Zx,ZO,Zr h,Zs,Zr h];rfl
section
variable{U:Env}{m n:Md}{S:St}{b:Bool}{a e:Ex}{i:Nat}
def qQ(h:a U=Z (m,GO S b))(f:e U=Z (n,.int (i:Int)))(d:i<S.lg.length):e2 aB (aU 1 a) e U=Z (.fr,.int ((S.lg.getD i 0:Nat):Int)):=e2v (gU h (EC S b)) f (j7 _ _ i 0 d)
def uv(h:a U=Z (m,GO S b))(f:e U=Z (n,.int (i:Int)))(d:i<S.lk.length):e2 aB (aU 2 a) e U=Z (.fr,G8 (S.lk.getD i L)):=(e2v (gU h (Gp S b)) f (j7 _ _ i L d)).trans (by
 show Z (up _ _)=_;unfold up;rw[k9];rfl)
def om(h:a U=Z (m,GO S b))(f:e U=Z (n,.int (i:Int)))(d:i<S.wy.length):e2 aB (aU 3 a) e U=Z (m,G6 (S.wy.getD i [])):=e2v (gU h (Gj S b)) f (j7 _ _ i [] d)
def Dz(h:a U=Z (m,GO S b)):eN bP (ab (aU 1 a) ag) U=Z (.fr,.int (S.lg.length:Nat)):=iq (xv (gU h (EC S b)) Y) (by
 show Z (Md.fr,T.int (((S.lg.map λ(n:Nat)=>T.int (n:Int)).length:Nat):Int))=_;rw[Zu])
end
def CF(a c:Nat):eqT (.str [a]) (.str [c])=(a==c):=by
 simp only[eqT];by_cases h:a=c
 ·simp[h]
 ·simp[h]
def qx(w:List (Nat×Nat))(c:Nat):fD (w.map λp=>(T.str [p.1],T.int (p.2:Int))) (.str [c])=(gW w c).map λ(n:Nat)=>T.int (n:Int):=by
 unfold fD gW;rw[List.find?_map];have:((λp:T×T=>eqT p.1 (.str [c])) ∘ λp:Nat×Nat=>(T.str [p.1],T.int (p.2:Int)))=λp:Nat×Nat=>p.1==c:=by
  funext p;exact CF p.1 c
 rw[this];cases w.find? λp=>p.1==c with
 |none=>rfl
 |some p=>rfl
def E7(w:List (Nat×Nat))(c m:Nat):dput (w.map λp=>(T.str [p.1],T.int (p.2:Int))) (.str [c]) (.int (m:Int))=(pW w c m).map λp=>(T.str [p.1],T.int (p.2:Int)):=by
 have a:(w.map λp=>(T.str [p.1],T.int (p.2:Int))).any (λp=>eqT p.1 (.str [c]))=w.any λp=>p.1==c:=by
  rw[List.any_map];congr 1;funext p;exact CF p.1 c
 unfold dput pW;rw[a];split
 ·rw[Z6,Z6];apply XF;intro p _;simp only[Function.comp,CF];split<;>rfl
 ·rw[ZF];rfl
section
variable{U:Env}{m n k:Md}{S:St}{b:Bool}{a e ec ev:Ex}{i c v:Nat}{w:List (Nat×Nat)}
def FF(h:a U=Z (m,G6 w))(d:e U=Z (n,.str [c])):e2 lq e a U=Z (.fr,.bl (gW w c).isSome):=e2v d h (by
 show (if B=B then Z (Md.fr,T.bl (fD _ _).isSome) else L)=_;rw[Zq Y,qx,Ye])
def Er(h:a U=Z (m,G6 w))(d:e U=Z (n,.str [c])):e2 dQ e a U=Z (.fr,.bl (!(gW w c).isSome)):=e2v d h (by
 show (match (if B=B then Z (Md.fr,T.bl (fD (w.map λp=>(T.str [p.1],T.int (p.2:Int))) (.str [c])).isSome) else L) with | some (_,.bl b)=>some (Md.fr,T.bl (!b)) | _=>none)=_;rw[Zq Y,qx,Ye])
def wm(h:a U=Z (m,G6 w))(f:e U=Z (n,.str [c]))(d:gW w c=Z v):e2 IM a e U=Z (.fr,.int (v:Int)):=e2v h f (by
 show (if B=B then (fD _ _).map (sub m) else L)=_;rw[Zq Y,qx,d];rfl)
def Fc(h:a U=Z (m,G6 w))(d:e U=Z (n,.str [c])):e2 vM a e U=Z (.fr,G8 (gW w c)):=e2v h d (by
 show (if B=B then Z (match fD (w.map λp=>(T.str [p.1],T.int (p.2:Int))) (.str [c]) with | some t=>sub m t | none=>(.fr,.non)) else none)=_;rw[Zq Y,qx];cases gW w c with
 |none=>rfl
 |some v=>rfl)
def zv{r:List (Wk)}(d:i<S.wy.length)(l:e (oc (GO S b) :: r)=Z (n,.int (i:Int)))(o:ec (oc (GO S b) :: r)=Z (m,.str [c]))(g:ev (oc (GO S b) :: r)=Z (k,.int (v:Int)))(f:(S.wy.getD i []).length<16777216) :
  dE 0 [.fld 3,.ix e] ec ev (oc (GO S b) :: r)=Z (.nx (oc (GO ⟨S.lg,S.lk,S.wy.set i (pW (S.wy.getD i []) c v)⟩ b) :: r)):=by
 unfold dE;rw[g,Zx];show ((keys [.fld 3,.ix e] (oc (GO S b) :: r)).bind _)=_;have j:keys [.fld 3,.ix e] (oc (GO S b) :: r)=Z [.fld 3,.at (.int (i:Int))]:=by
  show ((e _).bind _).map _=_;rw[l];rfl
 rw[j,Zx,o,Zx];have h:pm (jF (m,.str [c]) (k,.int (v:Int))) [.fld 3,.at (.int (i:Int))] (GO S b)=Z (GO ⟨S.lg,S.lk,S.wy.set i (pW (S.wy.getD i []) c v)⟩ b,()):=by
  show ((pm (jF (m,.str [c]) (k,.int (v:Int))) [.at (.int (i:Int))] (.lst (S.wy.map G6))).map _)=_;have:pm (jF (m,.str [c]) (k,.int (v:Int))) [.at (.int (i:Int))] (.lst (S.wy.map G6))=Z (.lst ((S.wy.set i (pW (S.wy.getD i []) c v)).map G6),()):=by
   show ((HJ (S.wy.map G6).length (i:Int)).bind _)=_;rw[Zu,wG d,Zx,ZO,Zr d];show ((jF (m,.str [c]) (k,.int (v:Int)) (G6 S.wy[i])).map _)=_;have e1:S.wy.getD i []=S.wy[i]:=by rw[Zs,Zr d];rfl
   rw[e1]at f ⊢;show ((if B=B/\B=B/\(S.wy[i].map _).length<eO then Z (T.dct 0 (dput _ _ _),()) else L).map _)=_;rw[Zq ⟨rfl,rfl,by rw[Zu];exact f⟩,E7,XS];rfl
  rw[this];rfl
 rw[h];rfl
def ze{r:List (Wk)}(h:i<S.lk.length)(j:e (oc (GO S b) :: r)=Z (n,.int (i:Int)))(d:ev (oc (GO S b) :: r)=Z (.fr,.int (v:Int))) :
  dE 0 [.fld 2] e ev (oc (GO S b) :: r)=Z (.nx (oc (GO ⟨S.lg,S.lk.set i (Z v),S.wy⟩ b) :: r)):=by
 unfold dE;rw[d,Zx];show ((keys [.fld 2] (oc (GO S b) :: r)).bind _)=_;have g:keys [.fld 2] (oc (GO S b) :: r)=Z [.fld 2]:=rfl;rw[g,Zx,j,Zx];have f:pm (jF (n,.int (i:Int)) (.fr,.int (v:Int))) [.fld 2] (GO S b)=Z (GO ⟨S.lg,S.lk.set i (Z v),S.wy⟩ b,()):=by
  show ((jF (n,.int (i:Int)) (.fr,.int (v:Int)) (.lst (S.lk.map G8))).map _)=_;have:jF (n,.int (i:Int)) (.fr,.int (v:Int)) (.lst (S.lk.map G8))=Z (.lst ((S.lk.set i (Z v)).map G8),()):=by
   show ((HJ (S.lk.map G8).length (i:Int)).map _)=_;rw[Zu,wG h,XS];rfl
  rw[this];rfl
 rw[f];rfl
end
end T43
end
section
namespace VS
def wr(a:Bool)(k:Nat)(t:T):T:=if a then Ll k t else t
def Mm(l:Wh):List Ia:=l.map λt=>Ia.ex (eC t)
theorem yN(U:Env):∀l:Wh,iI U (Mm l)=Z l
 |[]=>rfl
 |t :: l=>by
  show ((Z (Md.fr,t):Wi).bind λv=>(MZ v).bind λt=>(iI U (Mm l)).map (t :: ·))=_;rw[yN U l];rfl
theorem uS(U:Env):∀l:Wh,iA (Mm l) [] U=U
 |[]=>rfl
 |t :: l=>uS U l
theorem B4:∀l:Wh,Hl (Mm l)=[]
 |[]=>rfl
 |t :: l=>B4 l
section
variable{i k j:Nat}{un:Bool}{r:List Ix}{l:Wh}{U U1 U2 U3:Env}{c0:Cell}{s t t0 t1 u y:T}{g:Wh->Option (Wh×T)}{x a b:Xx}{c:Ex}{m:Md}{f:Val->Val->Wi}
def ci{r:List Ia}(d:U[i]?=Z (Z (.ow (wr un k t0))))(e:iI U r=Z l)(w:Hl r=[])(n:∀U,iA r [] U=U)(p:oJ t0=B)(o:d8 t0=B)(q:aZ l=B)(v:g (t0 :: l)=Z ([t1],y)) :
  fI (.io i un :: r) g U=Z ((.fr,y),U.set i (Z (.ow (wr un k t1)))):=by
 have e2:iI U (.io i un :: r)=Z (t0 :: l):=by
  show (LM un U[i]?).bind _=_;rw[d];have:LM un (Z (Z (.ow (wr un k t0))))=Z t0:=by
   cases un
   ·show (if oJ t0 then Z t0 else L)=_;rw[Zq p]
   ·rfl
  rw[this];show (iI U r).map _=_;rw[e];rfl
 unfold fI;rw[e2,Zx,Zq ⟨by rw[aZ,o,q];rfl,by show (i :: Hl r).Nodup;rw[w];exact Zg.mpr ⟨(λh=>nomatch h),Yz⟩⟩,v];show Z ((Md.fr,y),iA r [] (U.set i (Z (.ow (oI un U[i]? t1)))))=_;rw[n,d];cases un<;>rfl
def cx(q:U[i]?=Z (Z c0))(d:ju r U=Z (Mm l,U1))(p:U1[i]?=Z (Z (.ow (wr un k t0))))(h:oJ t0=B)(e:d8 t0=B)(n:aZ l=B)(o:g (t0 :: l)=Z ([t1],y)) :
  aJ (.io i un :: r) g U=Z ((.fr,y),U1.set i (Z (.ow (wr un k t1)))):=by
 have e1:ju (.io i un :: r) U=Z (.io i un :: Mm l,U1):=by
  unfold ju;rw[q];show (ju r U).map _=_;rw[d];rfl
 unfold aJ;rw[e1];exact ci p (yN U1 l) (B4 l) (λU=>uS U l) h e n o
def lS(d:x U=Z ((.fr,t),U1))(h:GQ t=B)(e:ju r U1=Z (Mm l,U2)):ju (.px x :: r) U=Z (Mm (t :: l),U2):=by
 unfold ju;rw[d,Zx,Zq h,e];rfl
def bQ(h:c U=Z (m,t))(hi:GQ t=B):xI c U=Z ((.fr,t),U):=by
 unfold xI;rw[h,Zx,Zq hi]
def ja(p:a U=Z ((.fr,s),U1))(o:b U1=Z ((.fr,t),U2))(n:f (.fr,s) (.fr,t)=Z (m,u))(h:GQ s=B)(e:GQ t=B)(d:GQ u=B):x2 f a b U=Z ((.fr,u),U2):=by
 unfold x2;rw[p,Zx,o,Zx,n,Zx,Zq ⟨h,e,d⟩]
def dP(h:x U=Z ((.fr,t),U1))(hi:GQ t=B)(d:j<U1.length):cz j x U=Z (.nx (U1.set j (Z (.pu t)))):=by
 unfold cz;rw[h,Zx,Zq ⟨hi,d⟩]
def Ad(h:x U=Z ((.fr,t),U1))(d:GQ t=B):kj x U=Z (.rt (.fr,t) U1):=by
 unfold kj;rw[h,Zx,Zq d]
def v9(l:Wp):eQ (l.map .int)=B:=by
 induction l with
 |nil=>rfl
 |cons a l d=>exact d
def mD{i:Int}(l:Wp)(h:c U=Z (.fr,.lst (l.map .int)))(e:b U=Z ((.fr,.int i),U1))(n:0<=i)(d:i<l.length):lX c b U=Z ((.fr,.int (l.getD i.toNat 0)),U1):=by
 unfold lX;rw[h,Zx];show (b U).bind _=_;rw[e,Zx];show (HJ (l.map T.int).length i).bind _=_;rw[Zu,u9 n d,Zx,ZO,Zr (by omega)];show (if eQ (l.map .int)=B/\GQ (T.int (l[i.toNat]'(by omega)))=B then Z ((Md.fr,T.int (l[i.toNat]'(by omega))),U1) else L)=_;rw[Zq ⟨v9 l,rfl⟩,Zs,Zr (by omega)];rfl
def vb{n:Nat}{c d:Cell}{i:Int}(l:List Tx)(h:U[n]?=Z (Z c))(q:b U=Z ((.fr,.int i),U1))(p:U1[n]?=Z (Z d))(o:iO d=.lst (l.map .str))(v:0<=i)(e:i<l.length):oR n b U=Z ((.fr,.str (l.getD i.toNat [])),U1):=by
 unfold oR;rw[h];show (b U).bind _=_;rw[q,Zx];dsimp only;rw[p];dsimp only;rw[o];show (HJ (l.map T.str).length i).bind _=_;rw[Zu,u9 v e,Zx,ZO,Zr (by omega)];show Z ((Md.fr,T.str (l[i.toNat]'(by omega))),U1)=_;rw[Zs,Zr (by omega)];rfl
def mh{i:Int}(h:x U=Z ((.fr,.int i),U1)):lR (Z x) U=Z (Z i,U1):=by
 show (x U).bind _=_;rw[h];rfl
def yA{lo hi:Option Xx}{w:Tx}{p q:Option Int}(h:a U=Z ((.fr,.str w),U1))(e:lR lo U1=Z (p,U2))(d:lR hi U2=Z (q,U3)):Nf a lo hi U=Z ((.fr,.str (cut w p q)),U3):=by
 unfold Nf;rw[h,Zx];show (lR lo U1).bind _=_;rw[e,Zx];show (lR hi U2).map _=_;rw[d];rfl
def oa{o p:Nat}{e:List Bool}{d:Sx}{h n:Wh}{v:Val}(z:h.length+1=o/\e.length=h.length)(A:d ((Z (.ow (Ll 1 t0)) :: List.zipWith i4 e (markL 1 e h))++List.replicate (p-o) L)=Z (.rt v U))(q:lK U 0 (B :: e)=Z n)(C:wI n v=B)(w:aZ n=B):Ku o p e d (t0 :: h)=Z (n,v.2):=by
 dsimp only[Ku];rw[Zq z,A,Zx];dsimp only;rw[q,Zx,Zq ⟨C,w⟩]
def BI{d:Xt}{p q:Sx}(h:d U=Z (B,U1)):qL d p q U=p U1:=by
 unfold qL;rw[h];rfl
def sv{d:Xt}{p q:Sx}(h:d U=Z (R,U1)):qL d p q U=q U1:=by
 unfold qL;rw[h];rfl
def zk{d:Xt}(h:c U=Z (m,.bl R)):iP c d U=Z (R,U):=by
 unfold iP;rw[h];rfl
def yF{d:Xt}(h:c U=Z (m,.bl B)):iP c d U=d U:=by
 unfold iP;rw[h];rfl
def Ca{b:Bool}(h:x U=Z ((.fr,.bl b),U1)):KJ x U=Z (b,U1):=by
 unfold KJ;rw[h];rfl
def u6{i j:Int}(e:a U=Z ((.fr,.int i),U1))(d:b U1=Z ((.fr,.int j),U2)):KJ (x2 oEq a b) U=Z (i==j,U2):=Ca (ja e d (lM Y Y (by simp only[eqT])) Y Y Y)
def wX{f:Val->Wj->Wi}{o:Ex}{e:Hf}{x v:Val}{d:Wj}(p:o U=Z x)(n:e U=Z d)(h:f x d=Z v):eM f o e U=Z v:=by
 unfold eM;rw[p,Zx,n];exact h
def Bd(h:x U=Z ((m,t),U1))(d:j<U1.length):rM j x U=Z (.nx (U1.set j (Z (.ow t)))):=by
 unfold rM;rw[h,Zx,Zq d]
end
end VS
end
section
namespace T43
open VS
abbrev sp(un:Bool)(n:Int):Wk:=oc (wr un 1 (.lst [.int n]))
def Cy(n m:Int)(h:0<m/\m<1073741824):ar [.lst [.int n],.int m]=Z ([.lst [.int (n/m)]],.int (n%m)):=by
 have s1:aP 2 (e2 oMod (e2 aB (Ny (aa 0)) (Q2 0)) (aa 1)) [sp B n,Q0 m,L]=Z (.nx [sp B n,Q0 m,Q0 (n%m)]) :=
  aT (m:=.fr) (e2v (x:=(.fr,.int n)) (y:=(.fr,.int m)) Y Y (fR h.1)) (by decide) (by show 2<3;decide)
 have d:dE 0 [.un] (Q2 0) (e2 jz (e2 aB (Ny (aa 0)) (Q2 0)) (aa 1)) [sp B n,Q0 m,Q0 (n%m)]=Z (.nx [sp B (n/m),Q0 m,Q0 (n%m)]):=by
  unfold dE;rw[e2v (f:=jz) (x:=(.fr,.int n)) (y:=(.fr,.int m)) (U:=[sp B n,Q0 m,Q0 (n%m)]) (a:=e2 aB (Ny (aa 0)) (Q2 0)) (b:=aa 1) Y Y (kh h)];rfl
 exact oa (v:=(.fr,.int (n%m))) ⟨rfl,rfl⟩ (sq s1 (sq d Y)) Y Y Y
section
variable{i:Nat}{un:Bool}{U U1:Env}{c0:Cell}{n m:Int}{x:Xx}
def nx(a:0<m/\m<1073741824)(g:U[i]?=Z (Z c0))(e:x U=Z ((.fr,.int m),U1))(f:U1[i]?=Z (sp un n)):∃d b,0<=d/\d<m/\aJ [.io i un,.px x] ar U=Z ((.fr,.int d),U1.set i (sp un b)) :=
 ⟨n%m,n/m,YF _ (by lia),YU _ a.1,cx g (lS e Y Y) f Y Y Y (Cy n m a)⟩
end
def m9{x:Xx}{i:Int}{r:Wp}{U a d:Env}{c:Wk}{t:T}{b:Wh}(h:x (Q0 i :: U)=Z ((.fr,t),c :: a))(f:GQ t=B)(e:gP x r a=Z (b,d)):gP x (i :: r) U=Z (t :: b,d):=by
 unfold gP;rw[h,Zx];show (if GQ t=B then (gP x r a).map _ else _)=_;rw[Zq f,e];rfl
def zK{y:Env->Option (Wh×Env)}{U a:Env}{s:Tx}(h:y U=Z (s.map λc=>T.str [c],a))(b:s.length<=100000):vp [] y U=Z ((.fr,.str s),a):=by
 unfold vp;rw[h,Zx];have:=oH (m:=.fr) (n:=.fr) (strs_map (λx=>[x]) s) (by rw[fO];lia);rw[fO]at this;show (jv (.fr,.str []) [(.fr,.lst (s.map λc=>T.str [c]))]).map _=_;rw[this];rfl
def um{b x:Xx}{j:Int}{U a e:Env}{d:Wh}(g:b U=Z ((.fr,.int j),a))(f:0<=j/\j<1000000)(h:gP x (Lm 0 j.toNat) a=Z (d,e)):j8 b x U=Z (d,e):=by
 unfold j8;rw[g,Zx];show (if 0<=j/\j<1000000 then gP x (Lm 0 j.toNat) a else L)=_;rw[Zq f];exact h
def zN(n:Nat):(Lm 0 n).length=n:=by unfold Lm;rw[Zu,Xi]
def tY(L:Tx)(a n:Int)(y:0<L.length)(C:L.length<1000)(A:0<=a)(z:a<1000):∃(b:Int)(t:Tx),cF [.lst [.int n],.str L,.int a]=Z ([.lst [.int b]],.str t)/\t.length<=a.toNat/\∀c∈t,c∈L:=by
 have loop:∀(r:Wp)(n:Int),∃(b:Int)(s:Tx),gP (x2 aB (xI (aa 2)) (aJ [(.io 1 B),(.px (xI (eN bP (ab (aa 2) ag))))] ar)) r [sp B n,Q1 L,Q0 a]=Z (s.map λc=>T.str [c],[sp B b,Q1 L,Q0 a])/\s.length=r.length/\∀c∈s,c∈L:=by
  intro r
  induction r with
  |nil=>intro n;exact⟨n,[],rfl,rfl,λ_ h=>nomatch h⟩
  |cons i r q =>
   intro n;obtain⟨d,f,l,p,e⟩:=nx (i:=1) (un:=B) (m:=(L.length:Int)) (n:=n) (x:=xI (eN bP (ab (aa 2) ag))) (U:=[Q0 i,sp B n,Q1 L,Q0 a]) (U1:=[Q0 i,sp B n,Q1 L,Q0 a]) (by lia) Y (bQ (m:=.fr) Y Y) Y;obtain⟨b,s,o,g,j⟩:=q f;have hd:d.toNat<L.length:=by lia
   refine⟨b,L.getD d.toNat 0 :: s,m9 (ja (bQ (m:=.fr) Y Y) e (tQ L d l p) Y Y Y) Y o,by rw[Zi,Zi,g],λc w=>?_⟩;rcases Zp.mp w with rfl | h
   ·rw[Zs,Zr hd];exact Yy hd
   ·exact j c h
 obtain⟨d,f,l,p,e⟩:=nx (i:=0) (un:=B) (m:=a+1) (n:=n) (x:=xI (e2 aW (aa 2) (Q2 1))) (U:=[sp B n,Q1 L,Q0 a]) (by lia) Y (bQ (m:=.fr) Y Y) Y;obtain⟨b,s,o,g,j⟩:=loop (Lm 0 d.toNat) f;have u:s.length=d.toNat:=by rw[g,zN]
 exact⟨b,s,oa (v:=(.fr,.str s)) (U:=[sp B b,Q1 L,Q0 a]) ⟨rfl,rfl⟩ (Ad (zK (um e ⟨l,by lia⟩ o) (by lia)) Y) Y Y Y,by lia,j⟩
def az:Tx:=[97,98,99,100,101,102,103,104,105,106,107,108,109,110,111,112,113,114,115,116,117,118,119,120,121,122]
def yZ:∀c∈az,97<=c/\c<=122:=by decide
def getD_mem'{l:Tx}{i:Nat}(h:i<l.length):l.getD i 0∈l:=by
 rw[Zs,Zr h];exact Yy h
def Ap(n:Int):∃(r:Int)(s:Tx),gK [.lst [.int n]]=Z ([.lst [.int r]],.str s)/\0<s.length/\s.length<=26/\∀c∈s,97<=c/\c<=122:=by
 obtain⟨d,o,E,D,e⟩:=nx (i:=0) (un:=B) (m:=8) (n:=n) (x:=xI (Q2 8)) (U:=[sp B n,Q1 az,L,L,L]) (by decide) Y (bQ (m:=.fr) Y Y) Y;have u:∀k,k<8->1<=([2,1,3,2,4,2,3,26]:Wp).getD k 0/\([2,1,3,2,4,2,3,26]:Wp).getD k 0<=26:=by decide
 have f1:=u d.toNat (by lia);have g:=dP (j:=2) (mD (c:=(dm (ab (Q2 2) (ab (Q2 1) (ab (Q2 3) (ab (Q2 2) (ab (Q2 4) (ab (Q2 2) (ab (Q2 3) (ab (Q2 26) ag)))))))))) ([2,1,3,2,4,2,3,26]:Wp) Y e E D) Y (by show 2<5;decide);generalize ([2,1,3,2,4,2,3,26]:Wp).getD d.toNat 0=JN at f1 g;obtain⟨a,l,N,M,C⟩:=nx (i:=0) (un:=B) (m:=26) (n:=o) (x:=xI (Q2 26)) (U:=[sp B o,Q1 az,Q0 JN,L,L]) (by decide) Y (bQ (m:=.fr) Y Y) Y;obtain⟨q,h,H,G,A⟩:=nx (i:=0) (un:=B) (m:=4) (n:=l) (x:=xI (Q2 4)) (U:=[sp B l,Q1 az,Q0 JN,Q0 a,L]) (by decide) Y (bQ (m:=.fr) Y Y) Y;have f:=dP (j:=4) (mD (c:=(dm (ab (Q2 1) (ab (Q2 3) (ab (Q2 25) (ab (Q2 7) ag)))))) ([1,3,25,7]:Wp) Y A H G) Y (by show 4<5;decide);have t:∀k,k<4->0<=([1,3,25,7]:Wp).getD k 0/\([1,3,25,7]:Wp).getD k 0<=26:=by decide
 have z:=t q.toNat (by lia);generalize ([1,3,25,7]:Wp).getD q.toNat 0=st at z f;have F:=fY (k:=1) (tg:=ba 0) (it:=cP (aa 2)) (elt:=e2 aB (aa 2) (e2 oMod (e2 aW (aa 4) (e2 gE (aa 5) (aa 0))) (Q2 26))) (m:=.fr) (U:=[sp B h,Q1 az,Q0 JN,Q0 a,Q0 st]) (λ(j:Nat)=>T.int (j:Int)) (λj=>T.str [az.getD ((a+st*(j:Int))%26).toNat 0]) (List.range JN.toNat) (by
   rw[gx (m:=.fr) (j:=JN) Y (by lia),i5]) Y (by rw[ZI];lia) λj J=>⟨_,rfl,by
   refine e2v (x:=(.fr,.str az)) Y (e2v (x:=(.fr,.int (a+st*(j:Int)))) (y:=(.fr,.int 26)) (e2v (x:=(.fr,.int a)) Y (e2v (x:=(.fr,.int st)) (y:=(.fr,.int (j:Int))) Y Y (jT (by omega))) Y) Y (fR (by decide))) (tQ az _ (YF _ (by decide)) (YU _ (by decide)))⟩
 have p:=oH (m:=.fr) (n:=.fr) (strs_map (λ(j:Nat)=>[az.getD ((a+st*(j:Int))%26).toNat 0]) (List.range JN.toNat)) (by rw[show (List.range JN.toNat).map (λ(j:Nat)=>[az.getD ((a+st*(j:Int))%26).toNat 0])=((List.range JN.toNat).map λ(j:Nat)=>az.getD ((a+st*(j:Int))%26).toNat 0).map (λx=>[x]) from by rw[Z6];rfl,fO,Zu,ZI];lia);rw[show (List.range JN.toNat).map (λ(j:Nat)=>[az.getD ((a+st*(j:Int))%26).toNat 0])=((List.range JN.toNat).map λ(j:Nat)=>az.getD ((a+st*(j:Int))%26).toNat 0).map (λx=>[x]) from by rw[Z6];rfl,fO]at p;refine⟨h,(List.range JN.toNat).map λ(j:Nat)=>az.getD ((a+st*(j:Int))%26).toNat 0,oa (v:=(.fr,.str _)) ⟨rfl,rfl⟩ (sq (U1:=[sp B n,Q1 az,L,L,L]) Y (sq g (sq (dP C Y (by show 3<5;decide)) (sq f (gY ?_))))) Y Y Y,by rw[Zu,ZI];lia,by rw[Zu,ZI];lia,λc w=>?_⟩
 ·exact wX Y (xv F Y) p
 ·obtain⟨j,_,rfl⟩:=Yg.mp w;have:=YF (a+st*(j:Int)) (b:=26) (by decide);have:=YU (a+st*(j:Int)) (b:=26) (by decide);exact yZ _ (getD_mem' (by show _<26;lia))
theorem d7{β:Type}{tg:Tg}{body:Sx}(g:β->T)(Inv:List β->Env->Prop)(h:∀t r U,Inv (t :: r) U->∃e a,tg (g t) U=Z e/\body e=Z (.nx a)/\Inv r a):∀(l:List β)(U:Env),Inv l U->∃b,forL tg body (l.map g) U=Z (.nx b)/\Inv [] b
 |[],U,d=>⟨U,rfl,d⟩
 |t :: l,U,d=>by
  obtain⟨e,a,e1,e2,i⟩:=h t l U d;obtain⟨b,f,j⟩:=d7 g Inv h l a i;exact⟨b,(gL e1 e2).trans f,j⟩
def Az(t:Tx):Prop:=∀c∈t,97<=c/\c<=122
abbrev EB(n:Int)(L:Tx)(a:Int)(f:List Tx)(e d b:Wk):Env:=[sp B n,Q1 L,Q0 a,oc (.lst (f.map .str)),e,d,b]
section
variable{L:Tx}{many:Int}{bk:List Tx}{z4 z5 z6:Wk}
def Nn(n m:Int)(b:0<m/\m<1073741824){c:Ex}(e:c (EB n L many bk z4 z5 z6)=Z (.fr,.int m)):∃d a,0<=d/\d<m/\aJ [.io 0 B,.px (xI c)] ar (EB n L many bk z4 z5 z6)=Z ((.fr,.int d),EB a L many bk z4 z5 z6) :=
 nx (i:=0) (un:=B) (n:=n) b Y (bQ e Y) Y
def Nh(g:0<L.length/\L.length<=26/\Az L)(n b a:Int)(f:0<=a/\a<1000){x:Xx}(j:x (EB n L many bk z4 z5 z6)=Z ((.fr,.int a),EB b L many bk z4 z5 z6)):∃(d:Int)(t:Tx),t.length<=a.toNat/\Az t/\aJ [.io 0 B,.px (xI (aa 1)),.px x] cF (EB n L many bk z4 z5 z6)=Z ((.fr,.str t),EB d L many bk z4 z5 z6):=by
 obtain⟨d,t,e,p,o⟩:=tY L a b g.1 (by lia) f.1 f.2;exact⟨d,t,p,λc h=>g.2.2 c (o c h),cx (i:=0) (un:=B) (k:=1) (r:=[.px (xI (aa 1)),.px x]) (l:=[.str L,.int a]) (U1:=EB b L many bk z4 z5 z6) Y (lS (t:=.str L) (bQ (m:=.fr) Y Y) Y (lS j Y Y)) Y Y Y Y e⟩
end
def sV{t:Tx}{p q:Option Int}(h:Az t):Az (cut t p q):=λc a=>h c (AZ t p q a)
def lI{s t:Tx}(h:Az s)(g:Az t):Az (s++t):=λc a=>(Zd.mp a).elim (h c) (g c)
def yB(t:Tx)(k:Nat):(cut t L (Z (k:Int))).length<=k:=by
 rw[yo];exact List.length_take_le _ _
def Aj:∀k,k<8->0<=([2,1,3,2,4,0,1,8]:Wp).getD k 0/\([2,1,3,2,4,0,1,8]:Wp).getD k 0<=8:=by decide
def Ah:∀k,k<4->0<=([6,3,10,8]:Wp).getD k 0/\([6,3,10,8]:Wp).getD k 0<=10:=by decide
def ji{l:List Tx}{i:Nat}(h:i<l.length):l.getD i []∈l:=by
 rw[Zs,Zr h];exact Yy h
def wH{L:Tx}(U:0<L.length/\L.length<=26/\Az L){many:Int}{bk:List Tx}(S:∀t∈bk,t.length<=14/\Az t)(h8:bk.length<8)(n:Int)(z5 z6:Wk) :
  ∃(h:Int)(t:Tx)(C o:Wk),dB (EB n L many bk (Q0 (bk.length:Int)) z5 z6)=Z (.nx (EB h L many (bk++[t]) (Q0 (bk.length:Int)) C o))/\t.length<=14/\Az t:=by
 obtain⟨d,Q,d0,d1,e⟩:=Nn (L:=L) (many:=many) (bk:=bk) (z4:=Q0 (bk.length:Int)) (z5:=z5) (z6:=z6) n 4 (by decide) (c:=Q2 4) Y;have g:=Ah d.toNat (by lia);obtain⟨w,t,ht,z,Iw⟩:=Nh U n Q _ ⟨g.1,by lia⟩ (mD (c:=dm (ab (Q2 6) (ab (Q2 3) (ab (Q2 10) (ab (Q2 8) ag))))) ([6,3,10,8]:Wp) Y e d0 d1);have H:t.length<=14:=by lia
 have s1:=dP (j:=5) Iw Y (by show 5<7;decide);have fin:∀(h:Int)(t:Tx)(o:Wk),t.length<=14->Az t->∃(UR:Int)(s:Tx)(C PJ:Wk),sX (kY 3 [] aF (ab (aa 5) ag)) (EB h L many bk (Q0 (bk.length:Int)) (Q1 t) o)=Z (.nx (EB UR L many (bk++[s]) (Q0 (bk.length:Int)) C PJ))/\s.length<=14/\Az s:=λh t o h1 X=>by
  refine⟨h,t,Q1 t,o,?_,h1,X⟩;rw[qk (i:=3) (l:=bk.map T.str) (v:=.str t) Y Y (by rw[Zu];lia)];show Z (Out.nx [sp B h,Q1 L,Q0 many,oc (.lst (bk.map T.str++[.str t])),Q0 (bk.length:Int),Q1 t,o])=_;rw[show bk.map T.str++[.str t]=(bk++[t]).map T.str from by rw[ZF];rfl]
 by_cases hk:bk.length=0
 ·obtain⟨q,p,a,b,f1,f2⟩:=fin w t z6 H z;refine⟨q,p,a,b,sq s1 (sq ((sv (zk (m:=.fr) ?_)).trans Y) f1),f2⟩;refine e2v (x:=(.fr,.int (bk.length:Int))) (y:=(.fr,.int 0)) Y Y ?_;show Z (Md.fr,T.bl (decide ((0:Int)<(bk.length:Int))))=_;rw[Za (by lia)]
 ·obtain⟨G,q,a0,a1,e3⟩:=Nn (L:=L) (many:=many) (bk:=bk) (z4:=Q0 (bk.length:Int)) (z5:=Q1 t) (z6:=z6) w 4 (by decide) (c:=Q2 4) Y;have tt:iP (e2 Jx (aa 4) (Q2 0)) (KJ (x2 oEq (aJ [(.io 0 B),(.px (xI (Q2 4)))] ar) (xI (Q2 1)))) (EB w L many bk (Q0 (bk.length:Int)) (Q1 t) z6)=Z (G==1,EB q L many bk (Q0 (bk.length:Int)) (Q1 t) z6):=by
   refine(yF (m:=.fr) ?_).trans (u6 e3 (bQ (m:=.fr) Y Y));refine e2v (x:=(.fr,.int (bk.length:Int))) (y:=(.fr,.int 0)) Y Y ?_;show Z (Md.fr,T.bl (decide ((0:Int)<(bk.length:Int))))=_;rw[decide_eq_true (by lia)]
  cases hd:(G==1) with
  |false =>
   rw[hd]at tt;obtain⟨r,p,a,b,f1,f2⟩:=fin q t z6 H z;exact⟨r,p,a,b,sq s1 (sq ((sv tt).trans Y) f1),f2⟩
  |true =>
   rw[hd]at tt;obtain⟨F,r,b0,b1,e4⟩:=Nn (L:=L) (many:=many) (bk:=bk) (z4:=Q0 (bk.length:Int)) (z5:=Q1 t) (z6:=z6) q (bk.length:Int) (by lia) (c:=aa 4) Y;have D:=dP (j:=6) (vb (n:=3) bk Y e4 Y Y b0 b1) Y (by show 6<7;decide);have E:=S _ (ji (l:=bk) (i:=F.toNat) (by lia));generalize bk.getD F.toNat []=old at D E;obtain⟨A,u,_,_,e5⟩:=Nn (L:=L) (many:=many) (bk:=bk) (z4:=Q0 (bk.length:Int)) (z5:=Q1 t) (z6:=Q1 old) r ((old.length:Int)+1) (by lia) (c:=e2 aW (eN bP (ab (aa 6) ag)) (Q2 1)) Y;have Rw:(cut old (Z A) none).length<=old.length:=yy old (Z A) none;have N:xI (aa 6) (EB r L many bk (Q0 (bk.length:Int)) (Q1 t) (Q1 old))=Z ((.fr,.str old),_):=bQ (m:=.fr) Y Y;have M:xI (aa 5) (EB u L many bk (Q0 (bk.length:Int)) (Q1 t) (Q1 old))=Z ((.fr,.str t),_):=bQ (m:=.fr) Y Y;have J:xI (Q2 14) (EB u L many bk (Q0 (bk.length:Int)) (Q1 t) (Q1 old))=Z ((.fr,.int 14),_):=bQ (m:=.fr) Y Y;have O:=dP (j:=5) (yA (ja (f:=aW) (yA (hi:=none) N (mh e5) Y) M (iV (by lia)) Y Y Y) (lo:=none) Y (mh J)) Y (by show 5<7;decide);obtain⟨P,p,a,b,f1,f2⟩:=fin u (cut (cut old (Z A) none++t) none (Z 14)) (Q1 old) (yB _ 14) (sV (lI (sV E.2) z));exact⟨P,p,a,b,sq s1 (sq ((BI tt).trans (sq D O)) f1),f2⟩
def DA{b:List Tx}(h:∀t∈b,t.length<=14):(b.map List.length).sum<=14*b.length:=by
 induction b with
 |nil=>exact Zj _
 |cons a l d =>
  have:=d λt e=>h t (Zw _ e);have:=h a Zv;rw[Zo,YD,Zi];lia
def zq(n:Int)(a:List Tx):wI [.lst [.int n]] (.fr,.lst (a.map .str))=B:=by
 unfold wI;rw[Bool.or_eq_true];refine .inr ?_;show (a.map T.str).all xg=B;rw[Wz];exact Yt.mpr λ_ _=>rfl
def yJ{α:Type}{m n:Md}(f:α->T)(l:List α)(d:α)(h:0<l.length):aB (m,.lst (l.map f)) (n,.int (-1))=Z (sub m (f (l.getD (l.length-1) d))):=by
 show ((HJ (l.map f).length (-1)).bind _)=_;have:HJ (l.map f).length (-1)=Z (l.length-1):=by
  unfold HJ;rw[Zu,Zn (by decide),Zq (by lia)];congr 1;lia
 rw[this,Zx,ZO,Zs,Zr (by omega)];rfl
theorem uM(w:Tx):∀k,(List.replicate k w).flatten.length=k*w.length
 |0=>by rw[Nat.zero_mul];rfl
 |k+1=>by rw[Y2,ZW,Zt,uM w k,Nat.succ_mul,Nat.add_comm]
def Dv{L:Tx}(hL:0<L.length/\L.length<=26/\Az L)(n:Int):∃(E:Int)(bk:List Tx),ig [.lst [.int n],.str L]=Z ([.lst [.int E]],.lst (bk.map .str))/\bk.length<=8/\(bk.map List.length).sum<=120/\∀t∈bk,Az t:=by
 obtain⟨d,s,d0,d1,e⟩:=nx (i:=0) (un:=true) (m:=8) (n:=n) (x:=xI (Q2 8)) (U:=[sp true n,Q1 L,none,none,none,none,none]) (by decide) Y (bQ (m:=.fr) Y Y) Y;have hf:=Aj d.toNat (by lia);have s1:=dP (j:=2) (mD (c:=(dm (ab (Q2 2) (ab (Q2 1) (ab (Q2 3) (ab (Q2 2) (ab (Q2 4) (ab (Q2 0) (ab (Q2 1) (ab (Q2 8) ag)))))))))) ([2,1,3,2,4,0,1,8]:Wp) Y e d0 d1) Y (by show 2<7;decide);generalize ([2,1,3,2,4,0,1,8]:Wp).getD d.toNat 0=many at hf s1;obtain⟨U',f1,q,bk,z4,z5,z6,rfl,_,hb,hlen⟩:=d7 (tg:=ba 4) (body:=dB) (λ(k:Nat)=>T.int (k:Int)) (λr U=>∃(n:Int)(bk:List Tx)(z4 z5 z6:Wk),U=EB n L many bk z4 z5 z6/\r=List.range' bk.length r.length/\(∀t∈bk,t.length<=14/\Az t)/\bk.length+r.length=many.toNat) (by
  rintro k r _ ⟨n,bk,z4,z5,z6,rfl,hr,hb,hl⟩;rw[Zi]at hl;rw[Zi,List.range'_succ]at hr;obtain⟨rfl,Vh⟩:=List.cons.inj hr;obtain⟨E,t,Mv,L0,e,h1,h2⟩:=wH (many:=many) hL hb (by lia) n z5 z6;refine⟨EB n L many bk (Q0 (bk.length:Int)) z5 z6,_,rfl,e,E,bk++[t],_,Mv,L0,rfl,by rw[Zt];exact Vh,λu G=>?_,by rw[Zt,ZP];lia⟩;rcases Zd.mp G with h | h
  ·exact hb u h
  ·rw[Zh.mp h];exact⟨h1,h2⟩) (List.range many.toNat) (EB s L many [] none none none) ⟨s,[],none,none,none,rfl,by rw[ZI];exact List.range_eq_range',(λ_ h=>nomatch h),by rw[ZI];exact XU _⟩
 have Oo:bk.length=many.toNat:=hlen;have s3:fZ (ba 4) (cP (aa 2)) dB (EB s L many [] none none none)=Z (.nx (EB q L many bk z4 z5 z6)):=by
  refine(dr (m:=.fr) ?_ Y).trans f1;rw[gx (m:=.fr) (j:=many) Y (by lia),i5]
 have fin:∀{p:Int}{T1:List Tx}(b:Sx),b (EB q L many bk z4 z5 z6)=Z (.nx (EB p L many T1 z4 z5 z6))->Ku 2 7 [R] (ak (cz 2 (lX (dm (ab (Q2 2) (ab (Q2 1) (ab (Q2 3) (ab (Q2 2) (ab (Q2 4) (ab (Q2 0) (ab (Q2 1) (ab (Q2 8) ag))))))))) (aJ [(.io 0 true),(.px (xI (Q2 8)))] ar))) (ak (kT 3 (dm ag)) (ak (fZ (ba 4) (cP (aa 2)) dB) (ak b (fC 3))))) [.lst [.int n],.str L]=Z ([.lst [.int p]],.lst (T1.map .str)):=λb hb =>
  oa (v:=(.fr,.lst (_:Wh))) ⟨rfl,rfl⟩ (sq s1 (sq (U1:=EB s L many [] none none none) Y (sq s3 (sq hb Y)))) Y (zq _ _) Y
 have OC:bk.length<=8/\(bk.map List.length).sum<=120/\∀t∈bk,Az t:=⟨by lia,by have:=DA λt g=>(hb t g).1;lia,λt g=>(hb t g).2⟩
 obtain⟨d2,p,a0,a1,e3⟩:=Nn (L:=L) (many:=many) (bk:=bk) (z4:=z4) (z5:=z5) (z6:=z6) q 6 (by decide) (c:=Q2 6) Y;by_cases hm:0<many/\many<3
 ·have tt:iP (eY oLt oLt (Q2 0) (aa 2) (Q2 3)) (KJ (x2 oEq (aJ [(.io 0 true),(.px (xI (Q2 6)))] ar) (xI (Q2 1)))) (EB q L many bk z4 z5 z6)=Z (d2==1,EB p L many bk z4 z5 z6):=by
   refine(yF (m:=.fr) (ql (x:=(.fr,.int 0)) (y:=(.fr,.int many)) (z:=(.fr,.int 3)) Y Y ?_ Y ?_)).trans (u6 e3 (bQ (m:=.fr) Y Y))
   ·show Z (Md.fr,T.bl (decide ((0:Int)<many)))=_;rw[decide_eq_true hm.1]
   ·show Z (Md.fr,T.bl (decide (many<3)))=_;rw[decide_eq_true hm.2]
  cases hd:(d2==1) with
  |false =>
   rw[hd]at tt;exact⟨p,bk,fin _ ((sv tt).trans Y),OC⟩
  |true =>
   rw[hd]at tt;have C:0<bk.length:=by lia
   obtain⟨Q,t,g,hz,e4⟩:=Nh (bk:=bk) (z4:=z4) (z5:=z5) (z6:=z6) (many:=many) hL p p 24 (by decide) (x:=xI (Q2 24)) (bQ (m:=.fr) Y Y);obtain⟨o,D,b0,b1,e5⟩:=Nn (L:=L) (many:=many) (bk:=bk) (z4:=z4) (z5:=z5) (z6:=z6) Q 2 (by decide) (c:=Q2 2) Y;have X:e2 aB (aa 3) (Q2 0) (EB p L many bk z4 z5 z6)=Z (.fr,.str (bk.getD 0 [])):=e2v (x:=(.bo,.lst (bk.map .str))) (y:=(.fr,.int ((0:Nat):Int))) Y Y (j7 T.str bk 0 [] C);have S:e2 aB (aa 3) (Q2 (-1)) (EB Q L many bk z4 z5 z6)=Z (.fr,.str (bk.getD (bk.length-1) [])):=e2v (x:=(.bo,.lst (bk.map .str))) (y:=(.fr,.int (-1))) Y Y (yJ T.str bk [] C);have P:=hb _ (ji (l:=bk) C);have O:=hb _ (ji (l:=bk) (i:=bk.length-1) (by lia));generalize hA:bk.getD 0 []=A at X P;generalize bk.getD (bk.length-1) []=B at S O;have N:=ja (ja (bQ X Y) e4 (iV (by lia)) Y Y Y) (bQ S Y) (iV (by rw[Zt];lia)) Y Y Y;have xr:=ja (f:=aW) (bQ (c:=Q2 1) (m:=.fr) Y Y) e5 (u:=.int (1+o)) Y Y Y Y;have J:(A++t++B).length<=52:=by rw[Zt,Zt];lia
   have Ou:Az (A++t++B):=lI (lI P.2 hz) O.2;generalize A++t++B=w at N J Ou;have M:=ja N xr (f:=vk) (m:=.fr) (u:=.str (List.replicate (1+o).toNat w).flatten) (by
    show (if w.length*(1+o).toNat<=16777216/\-4611686018427387904<=1+o/\1+o<4611686018427387904 then _ else _)=_;rw[Zq ⟨by
     have:w.length*(1+o).toNat<=52*2:=Nat.mul_le_mul J (by lia);lia,by lia,by lia⟩]) Y Y Y
   have F:(List.replicate (1+o).toNat w).flatten.length<=104:=by
    rw[uM];have:(1+o).toNat*w.length<=2*52:=Nat.mul_le_mul (by lia) J;omega
   have H:Az (List.replicate (1+o).toNat w).flatten:=λc hc=>by
    obtain⟨u,G,HB⟩:=Wu.mp hc;rw[(List.mem_replicate.mp G).2]at HB;exact Ou c HB
   generalize (List.replicate (1+o).toNat w).flatten=W at M F H;refine⟨D,bk.set 0 W,fin _ ((BI tt).trans ?_),?_⟩
   ·refine(congrArg (λz=>Option.bind z _) M).trans ?_;show dE 3 [] (Q2 0) (λ_=>Z (.fr,.str W)) (EB D L many bk z4 z5 z6)=_;show ((((HJ (bk.map T.str).length 0).map λj=>(T.lst ((bk.map T.str).set j (.str W)),())).map _):Option Out)=_;rw[Zu,show HJ bk.length 0=Z 0 from wG (i:=0) C];show Z (Out.nx [sp true D,Q1 L,Q0 many,oc (.lst ((bk.map T.str).set 0 (.str W))),z4,z5,z6])=_;rw[show (bk.map T.str).set 0 (.str W)=(bk.set 0 W).map T.str from by rw[XS]]
   ·have:bk.length=1\/bk.length=2:=by lia
    rcases this with h | h
    ·obtain⟨a,rfl⟩:=List.length_eq_one_iff.mp h;refine⟨by show 1<=8;decide,by show W.length+0<=120;lia,λt g=>?_⟩;rw[Zh.mp (show t∈[W] from g)];exact H
    ·match bk,h with
     |[a,b],_ =>
      have Pr:=hb b (by simp);refine⟨by show 2<=8;decide,by show W.length+(b.length+0)<=120;lia,λt g=>?_⟩;rcases Zp.mp (show t∈[W,b] from g) with rfl | g
      ·exact H
      ·rw[Zh.mp g];exact Pr.2
 ·have tt:iP (eY oLt oLt (Q2 0) (aa 2) (Q2 3)) (KJ (x2 oEq (aJ [(.io 0 true),(.px (xI (Q2 6)))] ar) (xI (Q2 1)))) (EB q L many bk z4 z5 z6)=Z (R,EB q L many bk z4 z5 z6):=by
   refine zk (m:=.fr) ?_;by_cases h0:0<many
   ·refine ql (x:=(.fr,.int 0)) (y:=(.fr,.int many)) (z:=(.fr,.int 3)) Y Y ?_ Y ?_
    ·show Z (Md.fr,T.bl (decide ((0:Int)<many)))=_;rw[decide_eq_true h0]
    ·show Z (Md.fr,T.bl (decide (many<3)))=_;rw[Za (by lia)]
   ·refine AW (x:=(.fr,.int 0)) (y:=(.fr,.int many)) Y Y ?_;show Z (Md.fr,T.bl (decide ((0:Int)<many)))=_;rw[Za h0]
  exact⟨q,bk,fin _ ((sv tt).trans Y),OC⟩
abbrev s1(c:Nat):T:=.str [c]
def eq_int{a:Ex}{U:Env}{m:Md}{i:Int}(k:Int)(h:a U=Z (m,.int i)):e2 oEq a (Q2 k) U=Z (.fr,.bl (i==k)):=e2v h Y (lM Y Y (by simp only[eqT]))
def mul_r{m n:Md}{i j:Int}(h:-18446744073709551616<j/\j<18446744073709551616):gE (m,.int i) (n,.int j)=Z (.fr,.int (i*j)):=Zq (.inr h)
abbrev ES(f:Wp)(k:Nat)(c:Int)(e d b a:Wk):Env:=[pc (.scr f),Q0 k,Q0 c,e,d,b,a]
def qH(d:Wp)(Mf:d.length<=63)(k:Nat)(P:k<1000):∃n,cy [.scr d,.int k]=Z (.fr,.lst [.int n]):=by
 have s1:aP 2 (e2 aW (e2 gE (aa 1) (Q2 7919)) (Q2 104729)) [pc (.scr d),Q0 k,L,L,L,L,L]=Z (.nx (ES d k (((k:Int)*7919+104729)) L L L L)) :=
  aT (m:=.fr) (e2v (e2v (x:=(.fr,.int k)) (y:=(.fr,.int 7919)) Y Y (jT (by lia))) (y:=(.fr,.int 104729)) Y Y) (by decide) (by show 2<7;decide)
 have p:∃c,HH (e2 Jx (eN bP (ab (aa 0) ag)) (Q2 0)) (aP 2 (e2 aW (e2 aB (aa 0) (e2 oMod (aa 1) (eN bP (ab (aa 0) ag)))) (e2 gE (e2 jz (aa 1) (eN bP (ab (aa 0) ag))) (Q2 48271)))) dF (ES d k (((k:Int)*7919+104729)) L L L L)=Z (.nx (ES d k c L L L L)):=by
  have A:e2 Jx (eN bP (ab (aa 0) ag)) (Q2 0) (ES d k (((k:Int)*7919+104729)) L L L L)=Z (.fr,.bl (decide ((0:Int)<(d.length:Int)))):=e2v (x:=(.fr,.int (d.length:Int))) (y:=(.fr,.int 0)) Y Y Y;by_cases h:0<d.length
  ·have G:=YF (k:Int) (b:=(d.length:Int)) (by lia);have F:=YU (k:Int) (b:=(d.length:Int)) (by lia);exact⟨_,Kl (A.trans (by rw[decide_eq_true (by lia)])) (aT (m:=.fr) (e2v (e2v (x:=(.fr,.scr d)) Y (e2v (x:=(.fr,.int k)) (y:=(.fr,.int (d.length:Int))) Y Y (fR (by lia))) (zS d _ G F)) (e2v (e2v (x:=(.fr,.int k)) (y:=(.fr,.int (d.length:Int))) Y Y (kh (by lia))) (y:=(.fr,.int 48271)) Y (mul_r (by decide))) Y) (by decide) (by show 2<7;decide))⟩
  ·exact⟨_,fP (A.trans (by rw[Za (by lia)])) Y⟩
 obtain⟨c,p⟩:=p;have s:e2 oEq (e2 oMod (aa 2) (Q2 2)) (Q2 0) (ES d k c L L L L)=Z (.fr,.bl (c%2==0)):=eq_int 0 (m:=.fr) (e2v (x:=(.fr,.int c)) (y:=(.fr,.int 2)) Y Y (fR (by decide)));cases hb:(c%2==0) with
 |true =>
  rw[hb]at s;refine⟨c/2,gM Y (sq s1 (sq p (jc (Kl s (gY ?_)))))⟩;unfold dm;rw[xv (r:=ag) (e2v (x:=(.fr,.int c)) (y:=(.fr,.int 2)) Y Y (kh (by decide))) Y];rfl
 |false =>
  rw[hb]at s;have t:=aT (U:=(ES d k c L L L L)) (i:=3) (m:=.fr) (e2v (e2v (f:=aW) (z:=(.fr,.int (c/2+40503*(k:Int)))) (e2v (x:=(.fr,.int c)) (y:=(.fr,.int 2)) (a:=aa 2) (b:=Q2 2) Y Y (kh (by decide))) (e2v (x:=(.fr,.int 40503)) (y:=(.fr,.int k)) (a:=Q2 40503) (b:=aa 1) Y Y (jT (by decide))) Y) (y:=(.fr,.int 2147483629)) (b:=Q2 2147483629) Y (fR (by decide))) (by decide) (by show 3<7;decide);have u:=YF (c/2+40503*(k:Int)) (b:=2147483629) (by decide);have H:=YU (c/2+40503*(k:Int)) (b:=2147483629) (by decide);generalize (c/2+40503*(k:Int))%2147483629=left at t u H;obtain⟨X,f1,l,n,o,g,rfl,_⟩:=d7 (tg:=ba 5) (body:=fG) (λ(j:Nat)=>T.int (j:Int)) (λr U=>∃(l n:Int)(o g:Wk),U=(ES d k c (Q0 l) (Q0 n) o g)/\0<=l/\l<2147483647/\∀j∈r,j<24) (by
   rintro j r _ ⟨l,n,o,g,rfl,S,Q,q⟩;have Kv:=q j Zv;have D:aP 3 (e2 oMod (e2 aW (e2 aW (e2 gE (aa 3) (Q2 69621)) (e2 gE (Q2 7) (aa 5))) (Q2 1)) (Q2 2147483647)) (ES d k c (Q0 l) (Q0 n) (Q0 (j:Int)) g)=Z (.nx (ES d k c (Q0 ((l*69621+7*(j:Int)+1)%2147483647)) (Q0 n) (Q0 (j:Int)) g)) :=
    aT (m:=.fr) (e2v (e2v (e2v (e2v (x:=(.fr,.int l)) (y:=(.fr,.int 69621)) Y Y (jT (by lia))) (e2v (x:=(.fr,.int 7)) (y:=(.fr,.int (j:Int))) Y Y (jT (by decide))) Y) (y:=(.fr,.int 1)) Y Y) (y:=(.fr,.int 2147483647)) Y (fR (by decide))) (by decide) (by show 3<7;decide)
   have w:=YF (l*69621+7*(j:Int)+1) (b:=2147483647) (by decide);have v:=YU (l*69621+7*(j:Int)+1) (b:=2147483647) (by decide);generalize (l*69621+7*(j:Int)+1)%2147483647=e at D w v;have C:aP 6 (e2 oMod (e2 gE (aa 3) (aa 3)) (Q2 2147483629)) (ES d k c (Q0 e) (Q0 n) (Q0 (j:Int)) g)=Z (.nx (ES d k c (Q0 e) (Q0 n) (Q0 (j:Int)) (Q0 (e*e%2147483629)))) :=
    aT (m:=.fr) (e2v (e2v (x:=(.fr,.int e)) (y:=(.fr,.int e)) Y Y (jT (by lia))) (y:=(.fr,.int 2147483629)) Y (fR (by decide))) (by decide) (by show 6<7;decide)
   have M:=YF (e*e) (b:=2147483629) (by decide);have J:=YU (e*e) (b:=2147483629) (by decide);generalize e*e%2147483629=mo at C M J;have O:aP 4 (e2 aW (e2 gE (aa 4) (Q2 999983)) (e2 oMod (e2 gE (aa 6) (e2 aW (e2 oMod (aa 6) (Q2 65521)) (Q2 3))) (Q2 999983))) (ES d k c (Q0 e) (Q0 n) (Q0 (j:Int)) (Q0 mo))=Z (.nx (ES d k c (Q0 e) (Q0 (n*999983+mo*(mo%65521+3)%999983)) (Q0 (j:Int)) (Q0 mo))) :=
    aT (m:=.fr) (e2v (e2v (x:=(.fr,.int n)) (y:=(.fr,.int 999983)) Y Y (mul_r (by decide))) (e2v (e2v (x:=(.fr,.int mo)) Y (e2v (e2v (x:=(.fr,.int mo)) (y:=(.fr,.int 65521)) Y Y (fR (by decide))) (y:=(.fr,.int 3)) Y Y) (jT (by lia))) (y:=(.fr,.int 999983)) Y (fR (by decide))) Y) (by decide) (by show 4<7;decide)
   exact⟨_,_,rfl,sq D (sq C O),e,_,_,_,rfl,w,v,λi N=>q i (Zw _ N)⟩) (List.range 24) (ES d k c (Q0 left) (Q0 0) L L) ⟨left,0,L,L,rfl,u,by lia,λj q=>YL.mp q⟩
  have E:fZ (ba 5) (cP (Q2 24)) fG (ES d k c (Q0 left) (Q0 0) L L)=Z (.nx (ES d k c (Q0 l) (Q0 n) o g)):=by
   refine(dr (m:=.fr) ?_ Y).trans f1;rw[gx (m:=.fr) (j:=24) Y (by decide),i5];rfl
  refine⟨n,gM Y (sq s1 (sq p (sq (fP s Y) (sq t (sq (U1:=(ES d k c (Q0 left) (Q0 0) L L)) Y (sq E (gY ?_)))))))⟩;rfl
def yc(l:List Tx):HL 60 (.lst (l.map .str))=B:=by
 show ((l.map T.str).all (HL 59))=B;rw[Wz];exact Yt.mpr λ_ _=>rfl
def ne_nil{U:Env}{a b:Ex}{m n:Md}{l:List Tx}(e:a U=Z (m,.lst (l.map .str)))(d:b U=Z (n,.lst [])):e2 JM a b U=Z (.fr,.bl (!l.isEmpty)):=e2v e d (qF (yc l) Y (by cases l<;>rfl))
abbrev EV(n:Int)(f:List Tx)(L w:Tx)(e d b a:Wk):Env:=[sp B n,pc (.lst (f.map .str)),Q1 L,Q1 w,e,d,b,a]
section
variable{L:Tx}{bk:List Tx}(hL:0<L.length/\L.length<=26/\Az L)(hb:∀t∈bk,t.length<=120/\Az t)(h8:bk.length<=8)
include hL hb h8
theorem wJ{w:Tx}(hw:Az w)(hl:w.length<=10000)(n:Int)(g s b a:Wk):∃G F y5 y6 y7,fj (EV n bk L w g s b a)=Z (.nx (EV G bk L F g y5 y6 y7))/\Az F/\F.length<=w.length+120:=by
 have A:∀(n m:Int)(s b a:Wk)(c:Ex),0<m/\m<1073741824->c (EV n bk L w g s b a)=Z (.fr,.int m)->∃d G,0<=d/\d<m/\aJ [.io 0 B,.px (xI c)] ar (EV n bk L w g s b a)=Z ((.fr,.int d),EV G bk L w g s b a):=λn m s b a c H hc=>nx (i:=0) (un:=B) (n:=n) H Y (bQ hc Y) Y;obtain⟨d,p,d0,d1,e⟩:=A n 6 s b a (Q2 6) (by decide) Y;have D:=dP (j:=5) e Y (by show 5<8;decide);have ad:∀(o v:Int)(b a:Wk)(x:Xx)(t:Tx),x (EV o bk L w g (Q0 d) b a)=Z ((.fr,.str t),EV v bk L w g (Q0 d) b a)->t.length<=120->cz 3 (x2 aW (xI (aa 3)) x) (EV o bk L w g (Q0 d) b a)=Z (.nx (EV v bk L (w++t) g (Q0 d) b a)):=λo v b a x t h X=>dP (j:=3) (ja (bQ (m:=.fr) (t:=.str w) Y Y) h (iV (by lia)) Y Y Y) Y (by show 3<8;decide);have le:∀t:Tx,t.length<=120->(w++t).length<=w.length+120:=λt h=>by rw[Zt];lia
 have z:e2 oLt (aa 5) (Q2 2) (EV p bk L w g (Q0 d) b a)=Z (.fr,.bl (decide (d<2))):=e2v (x:=(.fr,.int d)) (y:=(.fr,.int 2)) Y Y Y;by_cases h2:d<2
 ·obtain⟨o,t,Iw,X,hz⟩:=tY L 7 p hL.1 (by lia) (by decide) (by decide);have Og:t.length<=120:=ZJ X (by decide);exact⟨o,w++t,_,b,a,sq D (Kl (z.trans (by rw[decide_eq_true h2])) (ad p o b a _ t (cx (i:=0) (un:=B) (k:=1) (r:=[.px (xI (aa 2)),.px (xI (Q2 7))]) (l:=[.str L,.int 7]) (U1:=EV p bk L w g (Q0 d) b a) Y (lS (t:=.str L) (bQ (m:=.fr) Y Y) Y (lS (t:=.int 7) (bQ (m:=.fr) Y Y) Y Y)) Y Y Y Y Iw) Og)),lI hw λc h=>hL.2.2 c (hz c h),le t Og⟩
 ·have z:=z.trans (by rw[Za h2]);have C:e2 oEq (aa 5) (Q2 2) (EV p bk L w g (Q0 d) b a)=Z (.fr,.bl (d==2)):=eq_int 2 (m:=.fr) Y;by_cases h3:d=2
  ·obtain⟨N,o,P,O,J⟩:=A p 26 (Q0 d) b a (Q2 26) (by decide) Y;have H:=yZ _ (getD_mem' (l:=az) (i:=N.toNat) (by show _<26;lia));exact⟨o,w++[az.getD N.toNat 0],_,b,a,sq D (fP z (Kl (C.trans (by rw[h3];rfl)) (ad p o b a _ _ (ja (bQ (m:=.fr) (t:=.str az) Y Y) J (tQ az N P O) Y Y Y) (by show 1<=120;decide)))),lI hw λc h=>by rw[Zh.mp h];exact H,le _ (by show 1<=120;decide)⟩
  ·have C:=C.trans (by rw[ZK.mpr h3]);have E:e2 JM (aa 1) (dm ag) (EV p bk L w g (Q0 d) b a)=Z (.fr,.bl (!bk.isEmpty)):=ne_nil (m:=.pu) (n:=.fr) Y Y;cases Q:bk.isEmpty with
   |true =>
    rw[Q]at E;exact⟨p,w,_,b,a,sq D (fP z (fP C (fP E Y))),hw,Yq _ _⟩
   |false =>
    rw[Q]at E;have hp:0<bk.length:=by cases bk with
     |nil=>cases Q
     |cons=>exact Nat.succ_pos _
    obtain⟨d2,o,P,O,J⟩:=A p (bk.length:Int) (Q0 d) b a (eN bP (ab (aa 1) ag)) (by lia) (iq (xv (r:=ag) (x:=(.pu,.lst (bk.map .str))) Y Y) (by show Z (Md.fr,T.int (((bk.map T.str).length:Nat):Int))=_;rw[Zu]));have S:=dP (j:=6) (vb (n:=1) bk Y J Y Y P O) Y (by show 6<8;decide);have ho:=hb _ (ji (l:=bk) (i:=d2.toNat) (by lia));generalize bk.getD d2.toNat []=old at S ho;obtain⟨q,v,b0,b1,e4⟩:=A o ((old.length:Int)+1) (Q0 d) (Q1 old) a (e2 aW (eN bP (ab (aa 6) ag)) (Q2 1)) (by lia) Y;have q6:=dP (j:=7) e4 Y (by show 7<8;decide);obtain⟨M,U,g0,g1,e5⟩:=A v 40 (Q0 d) (Q1 old) (Q0 q) (Q2 40) (by decide) Y;have Rw:=yy old (Z q) (Z (q+1+M));exact⟨U,w++cut old (Z q) (Z (q+1+M)),_,_,_,sq D (fP z (fP C (Kl E (sq S (sq q6 (ad v U _ _ _ _ (yA (bQ (m:=.fr) (t:=.str old) Y Y) (mh (bQ (m:=.fr) (t:=.int q) Y Y)) (mh (ja (f:=aW) (bQ (m:=.fr) (t:=.int (q+1)) Y Y) e5 (u:=.int (q+1+M)) Y Y Y Y))) (by lia))))))),lI hw (sV ho.2),le _ (by lia)⟩
theorem Dt(n:Int):∃(o:Int)(w:Tx),eZ [.lst [.int n],.lst (bk.map .str),.str L]=Z ([.lst [.int o]],.str w)/\Az w/\w.length<=1000:=by
 obtain⟨d,s,G,F,e⟩:=nx (i:=0) (un:=B) (m:=5) (n:=n) (x:=xI (Q2 5)) (U:=EV n bk L [] none none none none) (by decide) Y (bQ (m:=.fr) Y Y) Y;obtain⟨H,f1,q,w,l,g,b,a,rfl,hw,p⟩:=d7 (tg:=ba 4) (body:=fj) (λ(k:Nat)=>T.int (k:Int)) (λr U=>∃(n:Int)(w:Tx)(l g b a:Wk),U=EV n bk L w l g b a/\Az w/\w.length+120*r.length<=1000) (by
  rintro k r _ ⟨n,w,l,g,b,a,rfl,hw,p⟩;rw[Zi]at p;obtain⟨o,A,z,y,t,e,D,E⟩:=wJ hL hb h8 hw (by lia) n (Q0 (k:Int)) g b a;exact⟨_,_,rfl,e,o,A,_,z,y,t,rfl,D,by lia⟩) (List.range (1+d).toNat) (EV s bk L [] none none none none) ⟨s,[],none,none,none,none,rfl,(λ_ h=>nomatch h),by rw[ZI];show 0+_<=1000;lia⟩
 have C:uE (ba 4) (x2 aW (xI (Q2 1)) (aJ [(.io 0 B),(.px (xI (Q2 5)))] ar)) fj (EV n bk L [] none none none none)=Z (.nx (EV q bk L w l g b a)):=by
  unfold uE;rw[ja (f:=aW) (bQ (c:=Q2 1) (m:=.fr) Y Y) e (u:=.int (1+d)) Y Y Y Y];refine(dr (m:=.fr) ?_ Y).trans f1;rw[gx (m:=.fr) (j:=1+d) Y (by lia),i5]
 exact⟨q,w,oa (v:=(.fr,.str w)) ⟨rfl,rfl⟩ (sq (U1:=EV n bk L [] none none none none) Y (sq C Y)) Y Y Y,hw,by simpa using p⟩
end
end T43
end
section
namespace T43
open VS AU
def mJ{c:Ex}{a:Sx}{n:Nat}{U b:Env}{m:Md}(e:c U=Z (m,.bl B))(d:a U=Z (.nx b)):dY c a (n+1) U=dY c a n b:=by
 show (c U).bind _=_;rw[e];show (if B=B then (a U).bind _ else Z (.nx U))=_;rw[Zq Y,d];rfl
def fW{c:Ex}{a:Sx}{n:Nat}{U:Env}{m:Md}(b:c U=Z (m,.bl R)):dY c a (n+1) U=Z (.nx U):=by
 show (c U).bind _=_;rw[b];rfl
def i8{mv:List Bool}{g:Mt}{as:Hf}{xs:Wj}{S a:St}{v:T}{b:Bool}{r:List (Wk)}(h:as (oc (GO S b) :: r)=Z xs)(i:argsOk mv xs=B)(j:aZ (trees xs)=B)(f:g (JD S) (trees xs)=Z (JD a,v))(e:GQ v=B) :
  bH 0 [] 0 mv g as (oc (GO S b) :: r)=Z ((.fr,v),oc (GO a b) :: r):=by
 show ((Z ([]:List Ky)).bind λd=>(as (oc (GO S b) :: r)).bind λxs=>(pm (lP 0 mv g xs) d (GO S b)).map λz=>(z.2,(oc (GO S b) :: r).set 0 (oc z.1)))=_;rw[Zx,h,Zx];show ((if 1=0+1/\dD (JD S)=B/\argsOk mv xs=B/\aZ (trees xs)=B then (g (JD S) (trees xs)).bind λz=>if dD z.1=B/\GQ z.2=B then Z (T.obj 1 ((0,.bl b) :: z.1),(Md.fr,z.2)) else L else L).map _)=_;rw[Zq ⟨rfl,kA S,i,j⟩,f,Zx,Zq ⟨kA a,e⟩];rfl
def C8{e:Ex}{S:St}{b:Bool}{r:List (Wk)}{v:Nat}(h:e (oc (GO S b) :: r)=Z (.fr,.int (v:Int)))(f:S.lg.length<16777216):sX (iC 0 [.fld 1] aF (ab e ag)) (oc (GO S b) :: r)=Z (.nx (oc (GO ⟨S.lg++[v],S.lk,S.wy⟩ b) :: r)):=by
 show (((Z [Ky.fld 1]).bind λd=>(ab e ag (oc (GO S b) :: r)).bind λa=>(pm (λx=>aF x a) d (GO S b)).map _).map _)=_;rw[Zx,xv (r:=ag) h Y,Zx];show (((aF (.lst (S.lg.map λ(n:Nat)=>T.int (n:Int))) [(.fr,.int (v:Int))]).map _).map _ |>.map _)=_;rw[eT (by rw[Zu];exact f),show (S.lg.map λ(n:Nat)=>T.int (n:Int))++[.int (v:Int)]=(S.lg++[v]).map λ(n:Nat)=>T.int (n:Int) from by rw[ZF];rfl];rfl
def Cg{e:Ex}{S:St}{b:Bool}{r:List (Wk)}{v:Option Nat}(h:e (oc (GO S b) :: r)=Z (.fr,G8 v))(f:S.lk.length<16777216):sX (iC 0 [.fld 2] aF (ab e ag)) (oc (GO S b) :: r)=Z (.nx (oc (GO ⟨S.lg,S.lk++[v],S.wy⟩ b) :: r)):=by
 show (((Z [Ky.fld 2]).bind λd=>(ab e ag (oc (GO S b) :: r)).bind λa=>(pm (λx=>aF x a) d (GO S b)).map _).map _)=_;rw[Zx,xv (r:=ag) h Y,Zx];show (((aF (.lst (S.lk.map G8)) [(.fr,G8 v)]).map _).map _ |>.map _)=_;rw[eT (by rw[Zu];exact f),show (S.lk.map G8)++[G8 v]=(S.lk++[v]).map G8 from by rw[ZF];rfl];rfl
def Dx(o:Option Nat):up .pu (G8 o)=(.fr,G8 o):=by
 unfold up;rw[k9];rfl
def xm(S:St)(l:Nat)(o:Option Nat)(w:List (Nat×Nat))(f:S.lg.length<16777216)(d:S.lk.length<16777216)(a:S.wy.length<16777216):aE (JD S) [.int (l:Int),G8 o,G6 w]=Z (JD ⟨S.lg++[l],S.lk++[o],S.wy++[w]⟩,.int (S.lg.length:Int)):=by
 have j:=C8 (S:=S) (b:=B) (r:=[Q0 (l:Int),pc (G8 o),oc (G6 w)]) (e:=aa 1) (v:=l) Y f;have i:=Cg (S:=⟨S.lg++[l],S.lk,S.wy⟩) (b:=B) (r:=[Q0 (l:Int),pc (G8 o),oc (G6 w)]) (e:=aa 2) (v:=o) (congrArg Z (Dx o)) d;have h:ng 0 [.fld 3] 3 [oc (GO ⟨S.lg++[l],S.lk++[o],S.wy⟩ B),Q0 (l:Int),pc (G8 o),oc (G6 w)]=Z (.nx [oc (GO ⟨S.lg++[l],S.lk++[o],S.wy++[w]⟩ B),Q0 (l:Int),pc (G8 o),L]):=by
  show ((aF (.lst (S.wy.map G6)) [(.fr,G6 w)]).map _ |>.map _)=_;rw[eT (by rw[Zu];exact a),show (S.wy.map G6)++[G6 w]=(S.wy++[w]).map G6 from by rw[ZF];rfl];rfl
 have g:=gY (e:=e2 lB (eN bP (ab (aU 1 (aa 0)) ag)) (Q2 1)) (U:=[oc (GO ⟨S.lg++[l],S.lk++[o],S.wy++[w]⟩ B),Q0 (l:Int),pc (G8 o),L]) (t:=.int (S.lg.length:Int)) (e2v (Dz (m:=.bo) Y) Y (by
  show Z (Md.fr,T.int ((((S.lg++[l]).length:Nat):Int)-1))=_;rw[Zt,ZP,show (((S.lg.length+1:Nat)):Int)-1=(S.lg.length:Int) by lia]))
 unfold aE IB;rw[Zq ⟨rfl,rfl⟩];have body:=sq (b:=ak (sX (iC 0 [.fld 2] aF (ab (aa 2) ag))) (ak (ng 0 [.fld 3] 3) (eW (e2 lB (eN bP (ab (aU 1 (aa 0)) ag)) (Q2 1))))) j (sq i (sq h g));exact congrArg (λz:Option Out=>z.bind _) body
def Ec{c a v:Nat}(D:97<=c/\c<=122):∀(k:Nat)(S b:St)(o:Option Nat),WF S->v<S.lg.length->(∀n,o=Z n->n<S.lg.length)->L1 c a v k S o=Z b->WF b/\b.lg=S.lg/\∃f,∀N,k<N->∀z:Wk,
  dY (jG (eK (aa 1)) (e2 oEq (e2 vM (e2 aB (aU 3 (aa 0)) (aa 1)) (aa 2)) (aa 3))) bU N [oc (GO S B),pc (G8 o),Q1 ([c]),Q0 (a:Int),z,Q0 (v:Int)] =
   Z (.nx [oc (GO b B),pc (G8 f),Q1 ([c]),Q0 (a:Int),z,Q0 (v:Int)]):=by
 intro k
 induction k with
 |zero =>
  intro S b o W g l e;cases o with
  |none =>
   cases (show Z S=Z b from e);refine⟨W,rfl,L,λN hN z=>?_⟩;obtain⟨N,rfl⟩:∃d,N=d+1:=⟨N-1,by lia⟩
   exact fW (m:=.fr) Y
  |some n=>cases e
 |succ k A =>
  intro S b o W g l e;cases o with
  |none =>
   cases (show Z S=Z b from e);refine⟨W,rfl,L,λN hN z=>?_⟩;obtain⟨N,rfl⟩:∃d,N=d+1:=⟨N-1,by lia⟩
   exact fW (m:=.fr) Y
  |some n =>
   have p:=l n Y;have r:n<S.wy.length:=by rw[W.wy];exact p
   have cond:∀z:Wk,jG (eK (aa 1)) (e2 oEq (e2 vM (e2 aB (aU 3 (aa 0)) (aa 1)) (aa 2)) (aa 3)) [oc (GO S B),Q0 (n:Int),Q1 ([c]),Q0 (a:Int),z,Q0 (v:Int)]=Z (.fr,.bl (decide (gW (S.wy.getD n []) c=Z a))):=λz=>by
    refine pL (m:=.fr) (x:=B) Y (λ_=>?_) (λh=>by cases h);refine e2v (Fc (m:=.bo) (om (m:=.bo) (n:=.fr) Y Y r) (n:=.fr) Y) (y:=(.fr,.int (a:Int))) Y ?_;cases hg:gW (S.wy.getD n []) c with
    |none=>rw[Za (by simp)];exact lM Y Y Y
    |some q =>
     refine(lM Y Y (show eqT (.int (q:Int)) (.int (a:Int))=decide (Z q=Z a) from ?_));simp only[eqT];by_cases h:q=a
     ·subst h;simp
     ·have F:¬(q:Int)=(a:Int):=by lia
      have E:¬Z q=Z a:=λz=>h (Zm z);rw[Za E];exact ZK.mpr F
   unfold L1 at e;split at e
   ·rename_i j;have G:=W.way (n:=n) (c:=c) (v:=v) g D;obtain⟨w,u,f,s⟩:=A _ b (S.lk.getD n L) G g (λm C=>W.up n m C) e;refine⟨w,u,f,λN hN z=>?_⟩;obtain⟨N,rfl⟩:∃d,N=d+1:=⟨N-1,by lia⟩
    refine(mJ (m:=.fr) ((cond z).trans (by rw[decide_eq_true j])) ?_).trans (s N (by exact YZ hN) z);unfold bU;refine sq (zv (S:=S) (i:=n) (n:=.fr) (m:=.fr) (k:=.fr) (c:=c) (v:=v) r Y Y Y (W.small n)) ?_;have H:n<S.lk.length:=by rw[W.lk];exact p
    exact aT (m:=.fr) (t:=G8 (S.lk.getD n L)) (uv (S:=⟨S.lg,S.lk,S.wy.set n (pW (S.wy.getD n []) c v)⟩) (m:=.bo) (n:=.fr) Y Y H) (by decide) (by decide:1<6)
   ·rename_i j;cases e;refine⟨W,rfl,Z n,λN hN z=>?_⟩;obtain⟨N,rfl⟩:∃d,N=d+1:=⟨N-1,by lia⟩
    exact fW (m:=.fr) ((cond z).trans (by rw[Za j]))
def CB{c v:Nat}(A:97<=c/\c<=122):∀(k:Nat)(S a:St)(o b:Option Nat),WF S->v<S.lg.length->(∀n,o=Z n->n<S.lg.length)->up1 c v k S o=Z (a,b)->WF a/\a.lg=S.lg/\(∀n,b=Z n->n<S.lg.length)/\∀N,k<N->∀z:Wk,
  dY (jG (eK (aa 4)) (e2 dQ (aa 2) (e2 aB (aU 3 (aa 0)) (aa 4)))) bV N [oc (GO S B),z,Q1 ([c]),Q0 (v:Int),pc (G8 o)] =
   Z (.nx [oc (GO a B),z,Q1 ([c]),Q0 (v:Int),pc (G8 b)]):=by
 intro k
 induction k with
 |zero =>
  intro S a o b W f j e;cases o with
  |none =>
   cases (show Z (S,L)=Z (a,b) from e);refine⟨W,rfl,(λn h=>nomatch h),λN hN z=>?_⟩;obtain⟨N,rfl⟩:∃d,N=d+1:=⟨N-1,by lia⟩
   exact fW (m:=.fr) Y
  |some n=>cases e
 |succ k w =>
  intro S a o b W f j e;cases o with
  |none =>
   cases (show Z (S,L)=Z (a,b) from e);refine⟨W,rfl,(λn h=>nomatch h),λN hN z=>?_⟩;obtain⟨N,rfl⟩:∃d,N=d+1:=⟨N-1,by lia⟩
   exact fW (m:=.fr) Y
  |some n =>
   have l:=j n Y;have p:n<S.wy.length:=by rw[W.wy];exact l
   have cond:∀z:Wk,jG (eK (aa 4)) (e2 dQ (aa 2) (e2 aB (aU 3 (aa 0)) (aa 4))) [oc (GO S B),z,Q1 ([c]),Q0 (v:Int),Q0 (n:Int)]=Z (.fr,.bl (!(gW (S.wy.getD n []) c).isSome)):=λz =>
    pL (m:=.fr) (x:=B) Y (λ_=>Er (m:=.bo) (n:=.fr) (om (m:=.bo) (n:=.fr) Y Y p) Y) (λh=>by cases h)
   unfold up1 at e;split at e
   ·rename_i g;cases e;refine⟨W,rfl,j,λN hN z=>?_⟩;obtain⟨N,rfl⟩:∃d,N=d+1:=⟨N-1,by lia⟩
    exact fW (m:=.fr) ((cond z).trans (by rw[g];rfl))
   ·rename_i g;have C:=W.way (n:=n) (c:=c) (v:=v) f A;obtain⟨u,s,q,r⟩:=w _ a (S.lk.getD n L) b C f (λm y=>W.up n m y) e;refine⟨u,s,q,λN hN z=>?_⟩;obtain⟨N,rfl⟩:∃d,N=d+1:=⟨N-1,by lia⟩
    have E:(gW (S.wy.getD n []) c).isSome=R:=by simpa using g
    refine(mJ (m:=.fr) ((cond z).trans (by rw[E];rfl)) ?_).trans (r N (by exact YZ hN) z);unfold bV;refine sq (zv (S:=S) (i:=n) (n:=.fr) (m:=.fr) (k:=.fr) (c:=c) (v:=v) p Y Y Y (W.small n)) ?_;have D:n<S.lk.length:=by rw[W.lk];exact l
    exact aT (m:=.fr) (t:=G8 (S.lk.getD n L)) (uv (S:=⟨S.lg,S.lk,S.wy.set n (pW (S.wy.getD n []) c v)⟩) (m:=.bo) (n:=.fr) Y Y D) (by decide) (by decide:4<5)
def DV(a b:Nat){m n:Md}:oEq (m,.int (a:Int)) (n,.int (b:Int))=Z (.fr,.bl (decide (a=b))):=lM Y Y (by
 simp only[eqT];by_cases h:a=b
 ·subst h;simp
 ·rw[Za h];exact ZK.mpr (by lia))
def yD{S a:St}{n c r:Nat}(W:WF S)(F:Sm S)(q:n<S.lg.length)(G:97<=c/\c<=122)(e:LI S n c=Z (a,r)):WF a/\r<a.lg.length/\S.lg.length<=a.lg.length/\a.lg.length<=S.lg.length+1/\av (JD S) [.int (n:Int),.str [c]]=Z (JD a,.int (r:Int)):=by
 unfold LI at e;obtain⟨old,j,e⟩:=Zz.mp e;have hold:=W.on n c old j;have X:n<S.wy.length:=by rw[W.wy];exact q
 have how:old<S.wy.length:=by rw[W.wy];exact hold
 have GN:old<S.lk.length:=by rw[W.lk];exact hold
 have Pl:S.lg.length<=100001:=F;unfold av IB;rw[Zq ⟨rfl,rfl⟩];have s1:=aT (i:=3) (m:=.fr) (e:=e2 IM (e2 aB (aU 3 (aa 0)) (aa 1)) (aa 2)) (U:=[oc (GO S B),Q0 (n:Int),Q1 ([c]),L,L,L]) (wm (m:=.bo) (n:=.fr) (om (m:=.bo) (n:=.fr) Y Y X) Y j) (by decide) (by decide:3<6);have h:=aT (i:=4) (m:=.fr) (e:=e2 aW (e2 aB (aU 1 (aa 0)) (aa 1)) (Q2 1)) (U:=[oc (GO S B),Q0 (n:Int),Q1 ([c]),Q0 (old:Int),L,L]) (t:=.int ((S.lg.getD n 0+1:Nat):Int)) (e2v (qQ (m:=.bo) (n:=.fr) Y Y q) Y Y) (by decide) (by decide:4<6);have cd:e2 oEq (e2 aB (aU 1 (aa 0)) (aa 3)) (aa 4) [oc (GO S B),Q0 (n:Int),Q1 ([c]),Q0 (old:Int),Q0 ((S.lg.getD n 0+1:Nat):Int),L]=Z (.fr,.bl (decide (S.lg.getD old 0=S.lg.getD n 0+1))):=e2v (qQ (m:=.bo) (n:=.fr) Y Y hold) (y:=(.fr,.int ((S.lg.getD n 0+1:Nat):Int))) Y (DV _ _);split at e
 ·rename_i g;obtain⟨rfl,rfl⟩:=Xf (Zm e);rw[decide_eq_true g]at cd;refine⟨W,hold,Zj _,Xe _,?_⟩;have body:∀b:Sx,ak (aP 3 (e2 IM (e2 aB (aU 3 (aa 0)) (aa 1)) (aa 2))) (ak (aP 4 (e2 aW (e2 aB (aU 1 (aa 0)) (aa 1)) (Q2 1))) (ak (HH (e2 oEq (e2 aB (aU 1 (aa 0)) (aa 3)) (aa 4)) (fC 3) dF) b)) [oc (GO S B),Q0 (n:Int),Q1 ([c]),L,L,L]=Z (.rt (.fr,.int (old:Int)) [oc (GO S B),Q0 (n:Int),Q1 ([c]),Q0 (old:Int),Q0 ((S.lg.getD n 0+1:Nat):Int),L]):=λb =>
   sq s1 (sq h (jc (Kl cd Y)))
  exact congrArg (λz:Option Out=>z.bind _) (body _)
 ·rename_i g;rw[Za g]at cd;obtain⟨s,Q,H⟩:=Zy.mp e;obtain⟨rfl,rfl⟩:=Xf H;have wn:=W.NH old;have O:=W.more (l:=S.lg.getD n 0+1) (o:=S.lk.getD old L) (w:=S.wy.getD old []) (λm f=>W.up old m f) (λd m f=>W.on old d m f) wn.1 wn.2;have hlen:(S.lg++[S.lg.getD n 0+1]).length=S.lg.length+1:=by rw[Zt];rfl
  have N:=O.link (n:=old) (v:=S.lg.length) (by show S.lg.length<(S.lg++[S.lg.getD n 0+1]).length;lia);obtain⟨A,x,o',u⟩:=Ec G 1000 _ s (Z n) N (by show S.lg.length<(S.lg++[S.lg.getD n 0+1]).length;lia) (λm f=>by cases f;show n<(S.lg++[S.lg.getD n 0+1]).length;lia) Q;have P:s.lg.length=S.lg.length+1:=by rw[x];exact hlen
  refine⟨A,by lia,by lia,by exact Xn P,?_⟩;have nw:=xm S (S.lg.getD n 0+1) (S.lk.getD old L) (S.wy.getD old []) (by lia) (by rw[W.lk];lia) (by rw[W.wy];lia);have args:ab (aa 4) (ab (e2 aB (aU 2 (aa 0)) (aa 3)) (ab (eN lH (ab (e2 aB (aU 3 (aa 0)) (aa 3)) ag)) ag)) [oc (GO S B),Q0 (n:Int),Q1 ([c]),Q0 (old:Int),Q0 ((S.lg.getD n 0+1:Nat):Int),L]=Z [(.fr,.int ((S.lg.getD n 0+1:Nat):Int)),(.fr,G8 (S.lk.getD old L)),(.fr,G6 (S.wy.getD old []))] :=
   xv Y (xv (uv (m:=.bo) (n:=.fr) Y Y GN) (xv (iq (xv (om (m:=.bo) (n:=.fr) Y Y how) Y) (by
    show (if eQ (((S.wy.getD old []).map λp=>(T.str [p.1],T.int (p.2:Int))).map (·.2))=B then Z (Md.fr,G6 (S.wy.getD old [])) else L)=_;rw[Zq (by rw[Z6];exact iQ _ (λ_=>rfl) _)])) Y))
  have M:argsOk [R,R,B] [(.fr,.int ((S.lg.getD n 0+1:Nat):Int)),(.fr,G8 (S.lk.getD old L)),(.fr,G6 (S.wy.getD old []))]=B:=by
   show (B&&(GQ (G8 (S.lk.getD old L))&&B))=B;rw[k9];rfl
  have an:aZ (trees [(Md.fr,T.int ((S.lg.getD n 0+1:Nat):Int)),(.fr,G8 (S.lk.getD old L)),(.fr,G6 (S.wy.getD old []))])=B:=by
   show (B&&(d8 (G8 (S.lk.getD old L))&&(d8 (G6 (S.wy.getD old []))&&B)))=B;rw[lj _ (k9 _),xG];rfl
  have J:=i8 (b:=B) args M an nw Y;have E:cz 5 (bH 0 [] 0 [R,R,B] aE (ab (aa 4) (ab (e2 aB (aU 2 (aa 0)) (aa 3)) (ab (eN lH (ab (e2 aB (aU 3 (aa 0)) (aa 3)) ag)) ag)))) [oc (GO S B),Q0 (n:Int),Q1 ([c]),Q0 (old:Int),Q0 ((S.lg.getD n 0+1:Nat):Int),L]=Z (.nx [oc (GO ⟨S.lg++[S.lg.getD n 0+1],S.lk++[S.lk.getD old L],S.wy++[S.wy.getD old []]⟩ B),Q0 (n:Int),Q1 ([c]),Q0 (old:Int),Q0 ((S.lg.getD n 0+1:Nat):Int),Q0 (S.lg.length:Int)]):=by
   unfold cz;rw[J];rfl
  have D:=ze (S:=⟨S.lg++[S.lg.getD n 0+1],S.lk++[S.lk.getD old L],S.wy++[S.wy.getD old []]⟩) (b:=B) (r:=[Q0 (n:Int),Q1 ([c]),Q0 (old:Int),Q0 ((S.lg.getD n 0+1:Nat):Int),Q0 (S.lg.length:Int)]) (i:=old) (v:=S.lg.length) (n:=.fr) (e:=aa 3) (ev:=aa 5) (by show old<(S.lk++[S.lk.getD old L]).length;rw[Zt];lia) Y Y;have C:=u vO (by decide) (Q0 ((S.lg.getD n 0+1:Nat):Int));exact congrArg (λz:Option Out=>z.bind _) (sq s1 (sq h (sq (fP cd Y) (sq E (sq D (sq C Y))))))
def FC{S S':St}{h c r:Nat}(W:WF S)(Pl:S.lg.length<=100000)(y:h<S.lg.length)(A:97<=c/\c<=122)(e:hb S h c=Z (S',r)):WF S'/\r<S'.lg.length/\S.lg.length<=S'.lg.length/\S'.lg.length<=S.lg.length+2/\bS (JD S) [.int (h:Int),.str [c]]=Z (JD S',.int (r:Int)):=by
 have hw:h<S.wy.length:=by rw[W.wy];exact y
 unfold hb at e;unfold bS IB;rw[Zq ⟨rfl,rfl⟩];have cd:e2 lq (aa 2) (e2 aB (aU 3 (aa 0)) (aa 1)) [oc (GO S B),Q0 (h:Int),Q1 ([c]),L,L]=Z (.fr,.bl (gW (S.wy.getD h []) c).isSome):=FF (m:=.bo) (n:=.fr) (om (m:=.bo) (n:=.fr) Y Y hw) Y;split at e
 ·rename_i x;rw[x]at cd;obtain⟨s,q,u,t,E⟩:=yD W (X5 Pl) y A e;refine⟨s,q,u,by exact X5 t,?_⟩;have j:=i8 (mv:=[R,R]) (as:=ab (aa 1) (ab (aa 2) ag)) (xs:=[(.fr,.int (h:Int)),(.fr,.str [c])]) (b:=B) (r:=[Q0 (h:Int),Q1 ([c]),L,L]) Y Y Y E Y;have s1:kj (bH 0 [] 0 [R,R] av (ab (aa 1) (ab (aa 2) ag))) [oc (GO S B),Q0 (h:Int),Q1 ([c]),L,L]=Z (.rt (.fr,.int (r:Int)) [oc (GO S' B),Q0 (h:Int),Q1 ([c]),L,L]):=by
   unfold kj;rw[j];rfl
  exact congrArg (λz:Option Out=>z.bind _) (jc (Kl cd s1))
 ·rename_i x;have IE:(gW (S.wy.getD h []) c).isSome=R:=by simpa using x
  rw[IE]at cd;obtain⟨⟨a,o⟩,e1,D⟩:=Zz.mp e;have X:=W.more (l:=S.lg.getD h 0+1) (o:=Z 0) (w:=[]) (λm g=>by cases g;exact W.pos) (λd m g=>by cases g) Yz (λp O=>nomatch O);have hlen:(S.lg++[S.lg.getD h 0+1]).length=S.lg.length+1:=by rw[Zt];rfl
  obtain⟨s,q,u,t⟩:=CB A 1000 _ a (Z h) o X (by show S.lg.length<(S.lg++[S.lg.getD h 0+1]).length;lia) (λm g=>by cases g;show h<(S.lg++[S.lg.getD h 0+1]).length;lia) e1;have O1:a.lg.length=S.lg.length+1:=by rw[q];exact hlen
  have nw:=xm S (S.lg.getD h 0+1) (Z 0) [] (by lia) (by rw[W.lk];lia) (by rw[W.wy];lia);have args:ab (e2 aW (e2 aB (aU 1 (aa 0)) (aa 1)) (Q2 1)) (ab (Q2 0) (ab (rn 0 []) ag)) [oc (GO S B),Q0 (h:Int),Q1 ([c]),L,L]=Z [(.fr,.int ((S.lg.getD h 0+1:Nat):Int)),(.fr,.int 0),(.fr,.dct 0 [])] :=
   xv (e2v (qQ (m:=.bo) (n:=.fr) Y Y y) Y Y) (xv Y (xv Y Y))
  have j:=i8 (mv:=[R,R,B]) (b:=B) args Y Y nw Y;have s1:cz 3 (bH 0 [] 0 [R,R,B] aE (ab (e2 aW (e2 aB (aU 1 (aa 0)) (aa 1)) (Q2 1)) (ab (Q2 0) (ab (rn 0 []) ag)))) [oc (GO S B),Q0 (h:Int),Q1 ([c]),L,L]=Z (.nx [oc (GO ⟨S.lg++[S.lg.getD h 0+1],S.lk++[Z 0],S.wy++[[]]⟩ B),Q0 (h:Int),Q1 ([c]),Q0 (S.lg.length:Int),L]):=by
   unfold cz;rw[j];rfl
  have M:=t vO (by decide) (Q0 (h:Int));have hd:∀b:Sx,ak (HH (e2 lq (aa 2) (e2 aB (aU 3 (aa 0)) (aa 1))) (kj (bH 0 [] 0 [R,R] av (ab (aa 1) (ab (aa 2) ag)))) dF)
    (ak (cz 3 (bH 0 [] 0 [R,R,B] aE (ab (e2 aW (e2 aB (aU 1 (aa 0)) (aa 1)) (Q2 1)) (ab (Q2 0) (ab (rn 0 []) ag)))))
    (ak (aP 4 (aa 1)) (ak (lD (jG (eK (aa 4)) (e2 dQ (aa 2) (e2 aB (aU 3 (aa 0)) (aa 4)))) bV) b))) [oc (GO S B),Q0 (h:Int),Q1 ([c]),L,L] =
    b [oc (GO a B),Q0 (h:Int),Q1 ([c]),Q0 (S.lg.length:Int),pc (G8 o)]:=λb =>
   sq (fP cd Y) (sq s1 (sq Y (qg M)))
  cases o with
  |none =>
   obtain⟨rfl,rfl⟩:=Xf (Zm D);have fin:ak (HH (eK (aa 4)) (iZ 0 [.fld 2] (aa 3) (bH 0 [] 0 [R,R] av (ab (aa 4) (ab (aa 2) ag)))) dF) (fC 3) [oc (GO a B),Q0 (h:Int),Q1 ([c]),Q0 (S.lg.length:Int),pc (G8 L)] =
     Z (.rt (.fr,.int (S.lg.length:Int)) [oc (GO a B),Q0 (h:Int),Q1 ([c]),Q0 (S.lg.length:Int),pc (G8 L)]):=sq (fP (m:=.fr) Y Y) Y
   refine⟨s,by show S.lg.length<a.lg.length;lia,by show S.lg.length<=a.lg.length;lia,by show a.lg.length<=_;lia,?_⟩;exact congrArg (λz:Option Out=>z.bind _) ((hd _).trans fin)
  |some n =>
   obtain⟨⟨f,m⟩,U,Q⟩:=Zy.mp D;obtain⟨rfl,rfl⟩:=Xf Q;have P:n<a.lg.length:=by
    have:=u n Y;rw[q];exact this
   obtain⟨C,H,v3,v4,G⟩:=yD s (by show a.lg.length<=100001;lia) P A U;have F:=C.link (n:=S.lg.length) (v:=m) H;have j:=i8 (mv:=[R,R]) (as:=ab (aa 4) (ab (aa 2) ag)) (xs:=[(.fr,.int (n:Int)),(.fr,.str [c])]) (b:=B) (r:=[Q0 (h:Int),Q1 ([c]),Q0 (S.lg.length:Int),Q0 (n:Int)]) Y Y Y G Y;have N:=ze (S:=f) (b:=B) (r:=[Q0 (h:Int),Q1 ([c]),Q0 (S.lg.length:Int),Q0 (n:Int)]) (i:=S.lg.length) (v:=m) (n:=.fr) (e:=aa 3) (ev:=λ_=>Z (.fr,.int (m:Int))) (by rw[C.lk];lia) Y Y;have J:iZ 0 [.fld 2] (aa 3) (bH 0 [] 0 [R,R] av (ab (aa 4) (ab (aa 2) ag))) [oc (GO a B),Q0 (h:Int),Q1 ([c]),Q0 (S.lg.length:Int),Q0 (n:Int)]=Z (.nx [oc (GO ⟨f.lg,f.lk.set S.lg.length (Z m),f.wy⟩ B),Q0 (h:Int),Q1 ([c]),Q0 (S.lg.length:Int),Q0 (n:Int)]):=by
    unfold iZ;rw[j];exact N
   have fin:ak (HH (eK (aa 4)) (iZ 0 [.fld 2] (aa 3) (bH 0 [] 0 [R,R] av (ab (aa 4) (ab (aa 2) ag)))) dF) (fC 3) [oc (GO a B),Q0 (h:Int),Q1 ([c]),Q0 (S.lg.length:Int),Q0 (n:Int)] =
     Z (.rt (.fr,.int (S.lg.length:Int)) [oc (GO ⟨f.lg,f.lk.set S.lg.length (Z m),f.wy⟩ B),Q0 (h:Int),Q1 ([c]),Q0 (S.lg.length:Int),Q0 (n:Int)]):=sq (Kl (m:=.fr) Y J) Y
   refine⟨F,by show S.lg.length<f.lg.length;lia,by show S.lg.length<=f.lg.length;lia,by show f.lg.length<=_;lia,?_⟩;exact congrArg (λz:Option Out=>z.bind _) ((hd _).trans fin)
theorem xW{S S':St}:∀{word:Wq}{h r:Nat},WF S->S.lg.length+2*word.length<=100000->h<S.lg.length->(∀c∈word,97<=c/\c<=122)->hg S h word=Z (S',r) →
  WF S'/\r<S'.lg.length/\S'.lg.length<=S.lg.length+2*word.length/\∀f:Wk,∀a:T,∃j,forL (ba 3) cj (word.map λc=>T.str [c]) [oc (GO S B),Q0 (h:Int),pc a,f]=Z (.nx [oc (GO S' B),Q0 (r:Int),pc a,j])
 |[],h,r,W,l,g,i,e=>by
  obtain⟨rfl,rfl⟩:=Xf (Zm e);exact⟨W,g,by simp,λf a=>⟨f,rfl⟩⟩
 |c :: word,h,r,W,l,g,i,e=>by
  obtain⟨⟨v,A⟩,e1,w⟩:=Zz.mp e;rw[Zi]at l;obtain⟨o,n,y,x,m⟩:=FC W (by lia) g (i c Zv) e1;obtain⟨t,s,z,p⟩:=xW (S:=v) (S':=S') (word:=word) o (by lia) n (λd hd=>i d (Zw _ hd)) w;refine⟨t,s,by rw[Zi];lia,λf a=>?_⟩;obtain⟨j,q⟩:=p (Q1 ([c])) a;refine⟨j,?_⟩;rw[Zo];refine(gL (U1:=[oc (GO S B),Q0 (h:Int),pc a,Q1 ([c])]) Y ?_).trans q;have u:=i8 (mv:=[R,R]) (as:=ab (aa 1) (ab (aa 3) ag)) (xs:=[(.fr,.int (h:Int)),(.fr,.str [c])]) (b:=B) (r:=[Q0 (h:Int),pc a,Q1 ([c])]) Y Y Y m Y;unfold cj cz;rw[u];rfl
def BJ{S S':St}{a:Tx}{h r:Nat}(W:WF S)(i:S.lg.length+2*a.length<=100000)(j:h<S.lg.length)(n:∀c∈a,97<=c/\c<=122)(e:hg S h a=Z (S',r)) :
  WF S'/\r<S'.lg.length/\S'.lg.length<=S.lg.length+2*a.length/\aL (JD S) [.int (h:Int),.str a]=Z (JD S',.int (r:Int)):=by
 obtain⟨g,f,d,b⟩:=xW W i j n e;obtain⟨o,q⟩:=b L (.str a);refine⟨g,f,d,?_⟩;unfold aL IB;rw[Zq ⟨rfl,rfl⟩];have s1:=(dr (tg:=ba 3) (it:=gj (aa 2)) (body:=cj) (U:=[oc (GO S B),Q0 (h:Int),Q1 a,L]) (m:=.fr) (l:=a.map λc=>T.str [c]) Y Y).trans q;exact congrArg (λz:Option Out=>z.bind _) (sq s1 Y)
end T43
end
section
namespace AU
abbrev Wd:=Wq
abbrev W(a:List Wd)(n:Nat):Wd:=a.getD n []
structure I(fr:Option Nat)(S:St)(nd:Wd->Option Nat)(wd:List Wd):Prop where
 wf:WF S
 len:wd.length=S.lg.length
 lg:∀n,n<wd.length->S.lg.getD n 0=(W wd n).length
 z:nd []=some 0
 wz:W wd 0=[]
 lt:∀{x n},nd x=some n->n<wd.length
 sf:∀{x n},nd x=some n->x <:+ W wd n
 top:∀{n},n<wd.length->nd (W wd n)=some n
 iv:∀{x y n},nd x=some n->x <:+ y->y <:+ W wd n->nd y=some n
 pre:∀{x c n},nd (x++[c])=some n->∃m,nd x=some m
 LC:∀{x y n},nd y=some n->x <:+ y->∃m,nd x=some m
 ME:S.lk.getD 0 none=none
 lk:∀{n},0<n->n<wd.length->some n≠fr->∃m,S.lk.getD n none=some m/\(m<wd.length/\some m≠fr)/\W wd m <:+ W wd n/\(W wd m).length<(W wd n).length/\∀y,y <:+ W wd n->(W wd m).length<y.length->nd y=some n
 wy:∀{x n},nd x=some n->∀c,gW (S.wy.getD n []) c=nd (x++[c])
def cn{α:Type}{x y w:List α}(d:x <:+ w)(b:y <:+ w)(a:x.length<=y.length):x <:+ y:=List.suffix_of_suffix_length_le d b a
section
variable{fr:Option Nat}{S:St}{nd:Wd->Option Nat}{wd:List Wd}
def I.up(H:I fr S nd wd):∀(k n:Nat)(x:Wd),(W wd n).length<=k->n<wd.length->Z n≠fr->x <:+ W wd n->∃m,nd x=Z m/\W wd m <:+ W wd n:=by
 intro k
 induction k with
 |zero =>
  intro n x f b g a;have e:W wd n=[]:=XZ.mp (Nat.le_zero.mp f);rw[e]at a;have:x=[]:=YR.mp a;subst this;exact⟨0,H.z,by rw[H.wz];exact YH⟩
 |succ k o =>
  intro n x f b g a;by_cases i:n=0
  ·subst i;rw[H.wz]at a;have:x=[]:=YR.mp a;subst this;exact⟨0,H.z,ZC _⟩
  ·obtain⟨m,u,⟨r,s⟩,h,t,p⟩:=H.lk (YV i) b g;by_cases d:(W wd m).length<x.length
   ·exact⟨n,p x a d,ZC _⟩
   ·obtain⟨q,l,j⟩:=o m x (by lia) r s (cn a h (by exact ZM d));exact⟨q,l,j.trans h⟩
def I.O2(H:I fr S nd wd){n:Nat}{x:Wd}(b:n<wd.length)(d:Z n≠fr)(a:x <:+ W wd n):∃m,nd x=Z m/\W wd m <:+ W wd n:=H.up _ n x (Zj _) b d a
def I.all(H:I fr S nd wd){n q:Nat}{x y:Wd}(e:q<wd.length)(f:Z q≠fr)(d:nd x=Z n)(b:nd y=Z n)(h:x <:+ W wd q):y <:+ W wd q:=by
 obtain⟨m,a,g⟩:=H.O2 e f h;rw[d]at a;cases a;exact(H.sf b).trans g
def I.inj(H:I fr S nd wd){m n:Nat}(b:m<wd.length)(a:n<wd.length)(h:W wd m=W wd n):m=n:=by
 have:=H.top b;rw[h,H.top a]at this;exact(Zm this).symm
def I.way(H:I fr S nd wd){n c a:Nat}(b:n<wd.length)(h:gW (S.wy.getD n []) c=Z a):nd (W wd n++[c])=Z a:=by
 rw[← H.wy (H.top b) c];exact h
def I.zero(H:I fr S nd wd){x:Wd}(h:nd x=Z 0):x=[]:=by
 have:=H.sf h;rw[H.wz]at this;exact YR.mp this
def I.low(H:I fr S nd wd){n m:Nat}{y:Wd}(h:Z n≠fr)(a:S.lk.getD n L=Z m)(b:nd y=Z n):(W wd m).length<y.length/\m<wd.length/\W wd m <:+ W wd n/\Z m≠fr:=by
 have g:=H.lt b;by_cases f:n=0
 ·subst f;rw[H.ME]at a;cases a
 ·obtain⟨o,j,⟨e,l⟩,d,i,p⟩:=H.lk (YV f) g h;rw[j]at a;cases a;refine⟨Nat.lt_of_not_le λhle=>?_,e,d,l⟩;have:=H.iv b (cn (H.sf b) d hle) d;rw[H.top e]at this;cases this;exact Yh _ i
def I.below(H:I fr S nd wd){n q m:Nat}(e:n<wd.length)(g:Z n≠fr)(a:S.lk.getD n L=Z q)(f:m<wd.length)(b:W wd m <:+ W wd n)(l:m≠n):W wd m <:+ W wd q:=by
 by_cases d:n=0
 ·subst d;rw[H.ME]at a;cases a
 ·obtain⟨p,j,⟨s,_⟩,i,r,h⟩:=H.lk (YV d) e g;rw[j]at a;cases a;refine cn b i (ZM λo=>l ?_);have:=h _ b o;rw[H.top f]at this;exact Zm this
def I.root(H:I fr S nd wd){n m:Nat}(b:n<wd.length)(g:Z n≠fr)(d:S.lk.getD n L=L)(f:m<wd.length)(a:W wd m <:+ W wd n):m=n:=by
 have i:n=0:=Nat.eq_zero_of_not_pos λe=>by
  obtain⟨q,h,_⟩:=H.lk e b g;rw[h]at d;cases d
 subst i;rw[H.wz]at a;exact H.inj f b (by rw[H.wz,YR.mp a])
def gn(a:List (List (Nat×Nat)))(n m c v d:Nat)(b:n<a.length):gW ((a.set n (pW (a.getD n []) c v)).getD m []) d=if m=n/\d=c then Z v else gW (a.getD m []) d:=by
 rw[hV];by_cases h:n=m
 ·subst h;rw[Zq ⟨rfl,b⟩,Cb];by_cases hd:d=c
  ·rw[Zq hd,Zq ⟨rfl,hd⟩]
  ·rw[Zn hd,Zn (λz=>hd z.2)]
 ·rw[Zn (λz=>h z.1),Zn (λz=>h z.1.symm)]
def I.M8(H:I fr S nd wd){c old v:Nat}:∀(k:Nat)(T:St)(n:Nat),n<wd.length->Z n≠fr->(W wd n).length<k->(∀m,m<wd.length->W wd m <:+ W wd n->T.lk.getD m L=S.lk.getD m L)->wd.length<=T.wy.length →
  (∀m b,m<wd.length->b<wd.length->W wd m <:+ W wd b->W wd b <:+ W wd n->gW (T.wy.getD m []) c=Z old->gW (T.wy.getD b []) c=Z old) →
  ∃j,L1 c old v k T (Z n)=Z ⟨T.lg,T.lk,j⟩/\j.length=T.wy.length/\∀m d,gW (j.getD m []) d=if d=c/\m<wd.length/\W wd m <:+ W wd n/\gW (T.wy.getD m []) c=Z old then Z v else gW (T.wy.getD m []) d:=by
 intro k
 induction k with
 |zero=>intro T n _ _ h;lia
 |succ k C =>
  intro T n f s G x hw mono;have l:n<T.wy.length:=ZL f hw;unfold L1;by_cases i:gW (T.wy.getD n []) c=Z old
  ·rw[Zq i,x n f (ZC _)];cases r:S.lk.getD n L with
   |none =>
    refine⟨T.wy.set n (pW (T.wy.getD n []) c v),by cases k<;>rfl,Z8,λm d=>?_⟩;rw[gn _ _ _ _ _ _ l];by_cases a:m=n/\d=c
    ·rw[Zq a,Zq ⟨a.2,by rw[a.1];exact f,by rw[a.1];exact ZC _,by rw[a.1];exact i⟩]
    ·rw[Zn a,Zn λz=>a ⟨H.root f s r z.2.1 z.2.2.1,z.1⟩]
   |some q =>
    obtain⟨F,A,p,y⟩:=H.low s r (H.top f);have ne:∀m,W wd m <:+ W wd q->m≠n:=λm a e=>by
     rw[e]at a;have:=a.length_le;lia
    obtain⟨j,e1,e2,D⟩:=C ⟨T.lg,T.lk,T.wy.set n (pW (T.wy.getD n []) c v)⟩ q A y (by lia) (λm a o=>x m a (o.trans p)) (by show _<=(T.wy.set _ _).length;rw[Z8];exact hw) (λm b a E o t h=>by
     have u:gW ((T.wy.set n (pW (T.wy.getD n []) c v)).getD m []) c=Z old:=h;show gW ((T.wy.set n (pW (T.wy.getD n []) c v)).getD b []) c=Z old;rw[gn _ _ _ _ _ _ l,Zn (λz=>ne m (o.trans t) z.1)]at u;rw[gn _ _ _ _ _ _ l,Zn (λz=>ne b t z.1)];exact mono m b a E o (t.trans p) u)
    refine⟨j,e1,by rw[e2];exact Z8,λm d=>?_⟩;rw[D m d];show (if d=c/\m<wd.length/\W wd m <:+ W wd q/\gW ((T.wy.set n (pW (T.wy.getD n []) c v)).getD m []) c=Z old then Z v else gW ((T.wy.set n (pW (T.wy.getD n []) c v)).getD m []) d)=_;by_cases a:m=n
    ·subst a;rw[Zn (λz=>ne m z.2.2.1 Y),gn _ _ _ _ _ _ l];by_cases hd:d=c
     ·rw[Zq ⟨rfl,hd⟩,Zq ⟨hd,f,ZC _,i⟩]
     ·rw[Zn (λz=>hd z.2),Zn (λz=>hd z.1)]
    ·have w:∀d,gW ((T.wy.set n (pW (T.wy.getD n []) c v)).getD m []) d=gW (T.wy.getD m []) d:=λd=>by rw[gn _ _ _ _ _ _ l,Zn (λz=>a z.1)]
     rw[w,w];by_cases g:d=c/\m<wd.length/\W wd m <:+ W wd n/\gW (T.wy.getD m []) c=Z old
     ·rw[Zq g,Zq ⟨g.1,g.2.1,H.below f s r g.2.1 g.2.2.1 a,g.2.2.2⟩]
     ·rw[Zn g,Zn λz=>g ⟨z.1,z.2.1,z.2.2.1.trans p,z.2.2.2⟩]
  ·rw[Zn i];refine⟨T.wy,rfl,rfl,λm d=>?_⟩;rw[Zn λz=>i (mono m n z.2.1 f z.2.2.1 (ZC _) z.2.2.2)]
def I.M9(H:I fr S nd wd){c v:Nat}:∀(k:Nat)(T:St)(n:Nat),n<wd.length->Z n≠fr->(W wd n).length<k->(∀m,m<wd.length->W wd m <:+ W wd n->T.lk.getD m L=S.lk.getD m L)->wd.length<=T.wy.length →
  (∀m g,m<wd.length->g<wd.length->W wd m <:+ W wd g->W wd g <:+ W wd n->(gW (T.wy.getD g []) c).isSome->(gW (T.wy.getD m []) c).isSome) →
  ∃w s,up1 c v k T (Z n)=Z (⟨T.lg,T.lk,w⟩,s)/\w.length=T.wy.length/\(∀m d,gW (w.getD m []) d=if d=c/\m<wd.length/\W wd m <:+ W wd n/\gW (T.wy.getD m []) c=L then Z v else gW (T.wy.getD m []) d) ∧
   (s=L->∀m,m<wd.length->W wd m <:+ W wd n->gW (T.wy.getD m []) c=L) ∧
   ∀p,s=Z p->p<wd.length/\W wd p <:+ W wd n/\(gW (T.wy.getD p []) c).isSome/\∀m,m<wd.length->W wd m <:+ W wd n->(W wd p).length<(W wd m).length->gW (T.wy.getD m []) c=L:=by
 intro k
 induction k with
 |zero=>intro T n _ _ h;lia
 |succ k U =>
  intro T n f o hk J hw mono;have r:n<T.wy.length:=ZL f hw;unfold up1;by_cases l:(gW (T.wy.getD n []) c).isSome=B
  ·rw[Zq l];refine⟨T.wy,Z n,rfl,rfl,λm d=>?_,(λh=>nomatch h),λp t=>?_⟩
   ·rw[Zn λz=>?_];have:=mono m n z.2.1 f z.2.2.1 (ZC _) l;rw[z.2.2.2]at this;cases this
   ·cases t;refine⟨f,ZC _,l,λm a b j=>?_⟩;have:=b.length_le;lia
  ·have y:gW (T.wy.getD n []) c=L:=by
    cases h:gW (T.wy.getD n []) c with
    |none=>rfl
    |some x=>rw[h]at l;exact absurd Y l
   rw[Zn l,J n f (ZC _)];cases j:S.lk.getD n L with
   |none =>
    refine⟨T.wy.set n (pW (T.wy.getD n []) c v),L,by cases k<;>rfl,Z8,λm d=>?_,λ_ m a b=>?_,(λp t=>nomatch t)⟩
    ·rw[gn _ _ _ _ _ _ r];by_cases a:m=n/\d=c
     ·rw[Zq a,Zq ⟨a.2,by rw[a.1];exact f,by rw[a.1];exact ZC _,by rw[a.1];exact y⟩]
     ·rw[Zn a,Zn λz=>a ⟨H.root f o j z.2.1 z.2.2.1,z.1⟩]
    ·rw[H.root f o j a b];exact y
   |some q =>
    obtain⟨l1,Q,A,P⟩:=H.low o j (H.top f);have ne:∀m,W wd m <:+ W wd q->m≠n:=λm a e=>by
     rw[e]at a;have:=a.length_le;lia
    obtain⟨w,s,e1,e2,e3,e4,e5⟩:=U ⟨T.lg,T.lk,T.wy.set n (pW (T.wy.getD n []) c v)⟩ q Q P (by lia) (λm a b=>J m a (b.trans A)) (by show _<=(T.wy.set _ _).length;rw[Z8];exact hw) (λm g a HR b C h=>by
     have E:(gW ((T.wy.set n (pW (T.wy.getD n []) c v)).getD g []) c).isSome:=h;show (gW ((T.wy.set n (pW (T.wy.getD n []) c v)).getD m []) c).isSome;rw[gn _ _ _ _ _ _ r,Zn (λz=>ne g C z.1)]at E;rw[gn _ _ _ _ _ _ r,Zn (λz=>ne m (b.trans C) z.1)];exact mono m g a HR b (C.trans A) E)
    have old:∀m,W wd m <:+ W wd q->gW ((T.wy.set n (pW (T.wy.getD n []) c v)).getD m []) c=gW (T.wy.getD m []) c:=λm a=>by rw[gn _ _ _ _ _ _ r,Zn (λz=>ne m a z.1)]
    refine⟨w,s,e1,by rw[e2];exact Z8,λm d=>?_,λX m a b=>?_,λp t=>?_⟩
    ·rw[e3 m d];show (if d=c/\m<wd.length/\W wd m <:+ W wd q/\gW ((T.wy.set n (pW (T.wy.getD n []) c v)).getD m []) c=L then Z v else gW ((T.wy.set n (pW (T.wy.getD n []) c v)).getD m []) d)=_;by_cases a:m=n
     ·subst a;rw[Zn (λz=>ne m z.2.2.1 Y),gn _ _ _ _ _ _ r];by_cases hd:d=c
      ·rw[Zq ⟨rfl,hd⟩,Zq ⟨hd,f,ZC _,y⟩]
      ·rw[Zn (λz=>hd z.2),Zn (λz=>hd z.1)]
     ·have F:∀d,gW ((T.wy.set n (pW (T.wy.getD n []) c v)).getD m []) d=gW (T.wy.getD m []) d:=λd=>by rw[gn _ _ _ _ _ _ r,Zn (λz=>a z.1)]
      rw[F,F];by_cases i:d=c/\m<wd.length/\W wd m <:+ W wd n/\gW (T.wy.getD m []) c=L
      ·rw[Zq i,Zq ⟨i.1,i.2.1,H.below f o j i.2.1 i.2.2.1 a,i.2.2.2⟩]
      ·rw[Zn i,Zn λz=>i ⟨z.1,z.2.1,z.2.2.1.trans A,z.2.2.2⟩]
    ·by_cases u:m=n
     ·rw[u];exact y
     ·have hb:=H.below f o j a b u;rw[← old m hb];exact e4 X m a hb
    ·obtain⟨O,D,N,M⟩:=e5 p t;have G:(gW ((T.wy.set n (pW (T.wy.getD n []) c v)).getD p []) c).isSome:=N;rw[old p D]at G;refine⟨O,D.trans A,G,λm a b Ii=>?_⟩;by_cases u:m=n
     ·rw[u];exact y
     ·have hb:=H.below f o j a b u;rw[← old m hb];exact M m a hb Ii
end
def DK{c b v:Nat}(g:97<=c/\c<=122):∀(k:Nat)(S a:St)(o:Option Nat),WF S->v<S.lg.length->L1 c b v k S o=Z a->WF a:=by
 intro k
 induction k with
 |zero =>
  intro S a o H d e;cases o with
  |none=>cases (show Z S=Z a from e);exact H
  |some n=>cases e
 |succ k f =>
  intro S a o H d e;cases o with
  |none=>cases (show Z S=Z a from e);exact H
  |some n =>
   unfold L1 at e;split at e
   ·exact f ⟨S.lg,S.lk,S.wy.set n (pW (S.wy.getD n []) c v)⟩ a _ (H.way (n:=n) d g) d e
   ·cases e;exact H
def De{c v:Nat}(g:97<=c/\c<=122):∀(k:Nat)(S a:St)(o b:Option Nat),WF S->v<S.lg.length->up1 c v k S o=Z (a,b)->WF a:=by
 intro k
 induction k with
 |zero =>
  intro S a o b H d e;cases o with
  |none=>cases (show Z (S,L)=Z (a,b) from e);exact H
  |some n=>cases e
 |succ k f =>
  intro S a o b H d e;cases o with
  |none=>cases (show Z (S,L)=Z (a,b) from e);exact H
  |some n =>
   unfold up1 at e;split at e
   ·cases e;exact H
   ·exact f ⟨S.lg,S.lk,S.wy.set n (pW (S.wy.getD n []) c v)⟩ a _ b (H.way (n:=n) d g) d e
def jb{α:Type}{x y:List α}{a b:α}(h:x++[a] <:+ y++[b]):a=b/\x <:+ y:=by
 obtain⟨t,e⟩:=h;rw[← ZG]at e;obtain⟨e1,e2⟩:=List.append_inj' e Y;exact⟨by simpa using e2,⟨t,e1⟩⟩
def g9{α:Type}{x y:List α}(a:α)(h:x <:+ y):x++[a] <:+ y++[a]:=by
 obtain⟨t,e⟩:=h;exact⟨t,by rw[← e,ZG]⟩
def iD(b:Wd->Option Nat)(a l h:Nat)(x:Wd):Option Nat:=if b x=Z a/\x.length<=l then Z h else b x
theorem I.split{N:Option Nat}{S:St}{j:Wd->Option Nat}{a:List Wd}(H:I N S j a){n c old:Nat}(J:n<a.length)(hf:Z n≠N)(hc:97<=c/\c<=122)(ho:gW (S.wy.getD n []) c=Z old)(MN:Z old≠N)(Mh:N≠Z a.length)(Jf:S.lg.getD old 0≠S.lg.getD n 0+1)(hk:(W a n).length<1000) :
  ∃S',LI S n c=Z (S',S.lg.length)/\I N S' (iD j old ((W a n).length+1) a.length) (a++[W a n++[c]]):=by
 have M:S.lg.length=a.length:=H.len.symm;have hw:=H.way J ho;have hold:=H.lt hw;have u:=H.sf hw;have lw:(W a n++[c]).length=(W a n).length+1:=by rw[Zt];rfl
 rw[H.lg old hold,H.lg n J]at Jf;have Ii:(W a n).length+1<(W a old).length:=by
  have:=u.length_le;rw[lw]at this;lia
 have U:old≠0:=λe=>by
  rw[e,H.wz]at Ii;simp at Ii
 have Ow:0<a.length:=by rw[H.len];exact H.wf.pos
 have l1:S.lk.length=a.length:=by rw[H.wf.lk,M]
 have l2:S.wy.length=a.length:=by rw[H.wf.wy,M]
 have Ma:∀m,((S.lk++[S.lk.getD old L]).set old (Z S.lg.length)).getD m L=if m=old then Z a.length else if m=a.length then S.lk.getD old L else S.lk.getD m L:=λm=>by
  rw[hV,cf,l1,M];by_cases h:m=old
  ·rw[Zq ⟨h.symm,by rw[Zt,l1];lia⟩,Zq h]
  ·rw[Zn (λz=>h z.1.symm),Zn h]
 have Jo:∀m,(S.wy++[S.wy.getD old []]).getD m []=if m=a.length then S.wy.getD old [] else S.wy.getD m []:=λm=>by rw[cf,l2]
 have KL:∀m,m<a.length->(S.wy++[S.wy.getD old []]).getD m []=S.wy.getD m []:=λm b=>by rw[Jo,Zn (Zb b)]
 obtain⟨w2,e1,e2,e3⟩:=H.M8 (c:=c) (old:=old) (v:=S.lg.length) 1000 ⟨S.lg++[S.lg.getD n 0+1],(S.lk++[S.lk.getD old L]).set old (Z S.lg.length),S.wy++[S.wy.getD old []]⟩ n J hf hk (λm b X=>by
   have:=X.length_le;show ((S.lk++[S.lk.getD old L]).set old (Z S.lg.length)).getD m L=_;rw[Ma,Zn (λe=>by rw[e]at this;lia),Zn (Zb b)])
  (by show _<=(S.wy++[S.wy.getD old []]).length;rw[Zt,l2];exact Yq _ _)
  (λm t b E X HS h=>by
   have D:gW ((S.wy++[S.wy.getD old []]).getD m []) c=Z old:=h;show gW ((S.wy++[S.wy.getD old []]).getD t []) c=Z old;rw[KL m b]at D;rw[KL t E,H.wy (H.top E) c];rw[H.wy (H.top b) c]at D;exact H.iv D (g9 c X) ((g9 c HS).trans u))
 have wn:=H.wf.NH old;have W1:=H.wf.more (l:=S.lg.getD n 0+1) (o:=S.lk.getD old L) (w:=S.wy.getD old []) (λm b=>H.wf.up old m b) (λd m b=>H.wf.on old d m b) wn.1 wn.2;have hlen:(S.lg++[S.lg.getD n 0+1]).length=S.lg.length+1:=by rw[Zt];rfl
 have W2:=W1.link (n:=old) (v:=S.lg.length) (by show S.lg.length<(S.lg++[S.lg.getD n 0+1]).length;lia);have PL:=DK hc 1000 _ _ _ W2 (by show S.lg.length<(S.lg++[S.lg.getD n 0+1]).length;lia) e1;refine⟨⟨S.lg++[S.lg.getD n 0+1],(S.lk++[S.lk.getD old L]).set old (Z S.lg.length),w2⟩,?_,?_⟩
 ·unfold LI;rw[ho,Zx,Zn (by rw[H.lg old hold,H.lg n J];exact Jf),e1];rfl
 have Wn:∀m,W (a++[W a n++[c]]) m=if m=a.length then W a n++[c] else W a m:=λm=>cf a _ _ m
 have s:W (a++[W a n++[c]]) a.length=W a n++[c]:=by rw[Wn,Zq Y]
 have f:∀{m},m<a.length->W (a++[W a n++[c]]) m=W a m:=λ{m} b=>by rw[Wn,Zn (Zb b)]
 have d9:(a++[W a n++[c]]).length=a.length+1:=by rw[Zt];rfl
 have tell:∀{x m},iD j old ((W a n).length+1) a.length x=Z m->(m=a.length/\j x=Z old/\x.length<=(W a n).length+1)\/(m<a.length/\j x=Z m/\¬(m=old/\x.length<=(W a n).length+1)):=λ{x m} h=>by
  unfold iD at h;split at h
  ·rename_i q;cases h;exact .inl ⟨rfl,q.1,q.2⟩
  ·rename_i q;exact .inr ⟨H.lt h,h,λz=>q ⟨by rw[h,z.1],z.2⟩⟩
 have Q:∀{x},j x=Z old->x.length<=(W a n).length+1->iD j old ((W a n).length+1) a.length x=Z a.length:=λ{x} C h2=>Zq ⟨C,h2⟩;have tO:∀{x m},j x=Z m->¬(m=old/\x.length<=(W a n).length+1)->iD j old ((W a n).length+1) a.length x=Z m:=λ{x m} C h2=>by
  unfold iD;rw[Zn (λz=>h2 ⟨by rw[C]at z;exact Zm z.1,z.2⟩),C]
 have L5:∀{x m},j x=Z m->∃t,iD j old ((W a n).length+1) a.length x=Z t:=λ{x m} h=>by
  unfold iD;split
  ·exact⟨_,rfl⟩
  ·exact⟨m,h⟩
 have un:∀{x m},iD j old ((W a n).length+1) a.length x=Z m->∃t,j x=Z t:=λ{x m} h=>(tell h).elim (λz=>⟨_,z.2.1⟩) λz=>⟨_,z.2.1⟩
 refine⟨PL,by rw[d9,hlen,M],λm b=>?_,tO H.z (λz=>U z.1.symm),by rw[f Ow];exact H.wz,λ{x m} h=>by rcases tell h with z | z<;>lia,λ{x m} h=>?_,λ{m} b=>?_,λ{x y m} h O g=>?_,λ{x d m} h=>?_,λ{x y m} h O=>?_,?_,λ{m} h0 b Ra=>?_,λ{x m} h d=>?_⟩
 ·rw[d9]at b;show (S.lg++[S.lg.getD n 0+1]).getD m 0=_;rw[cf,M];by_cases e:m=a.length
  ·rw[Zq e,e,s,H.lg n J,lw]
  ·rw[Zn e,f (by lia),H.lg m (by lia)]
 ·rcases tell h with⟨rfl,i,F⟩ | ⟨G,i,_⟩
  ·rw[s];exact cn (H.sf i) u (by rw[lw];exact F)
  ·rw[f G];exact H.sf i
 ·rw[d9]at b;by_cases e:m=a.length
  ·rw[e,s];exact Q hw (by rw[lw];exact Zj _)
  ·rw[f (by lia)];exact tO (H.top (by lia)) (λz=>by have:=z.2;rw[z.1]at this;lia)
 ·rcases tell h with⟨rfl,i,F⟩ | ⟨G,i,F⟩
  ·rw[s]at g;have:=g.length_le;rw[lw]at this;exact Q (H.iv i O (g.trans u)) this
  ·rw[f G]at g;exact tO (H.iv i O g) (λz=>F ⟨z.1,ZJ O.length_le z.2⟩)
 ·obtain⟨t,D⟩:=un h;obtain⟨q,p⟩:=H.pre D;exact L5 p
 ·obtain⟨t,D⟩:=un h;obtain⟨q,p⟩:=H.LC D O;exact L5 p
 ·show ((S.lk++[S.lk.getD old L]).set old (Z S.lg.length)).getD 0 L=L;rw[Ma,Zn (Yi U),Zn (by exact Zb Ow)];exact H.ME
 ·rw[d9]at b;show ∃q,((S.lk++[S.lk.getD old L]).set old (Z S.lg.length)).getD m L=Z q/\_;rw[Ma,d9];obtain⟨q,q1,⟨P,P5⟩,q3,q4,q5⟩:=H.lk (YV U) hold MN;obtain⟨lo,_⟩:=H.low MN q1 hw;rw[lw]at lo;by_cases e:m=old
  ·subst e;rw[Zq Y];refine⟨a.length,rfl,⟨by exact Yv _,λz=>Mh z.symm⟩,?_,?_,λy g A=>?_⟩
   ·rw[s,f hold];exact u
   ·rw[s,f hold,lw];exact Ii
   ·rw[s,lw]at A;rw[f hold]at g;exact tO (H.iv hw (cn u g (by rw[lw];exact Y8 A)) g) (λz=>by have:=z.2;lia)
  ·rw[Zn e];by_cases eL:m=a.length
   ·subst eL;rw[Zq Y,q1];refine⟨q,rfl,⟨by exact Yd P,P5⟩,?_,?_,λy g A=>?_⟩
    ·rw[s,f P];exact cn q3 u (by rw[lw];exact Y8 lo)
    ·rw[s,f P,lw];exact lo
    ·rw[s]at g;rw[f P]at A;have:=g.length_le;rw[lw]at this;exact Q (q5 y (g.trans u) A) this
   ·rw[Zn eL];have E:m<a.length:=by lia
    obtain⟨r,r1,⟨r2,UD⟩,r3,r4,r5⟩:=H.lk h0 E Ra;rw[r1];refine⟨r,rfl,⟨by exact Yd r2,UD⟩,by rw[f r2,f E];exact r3,by rw[f r2,f E];exact r4,λy g A=>?_⟩;rw[f E]at g;rw[f r2]at A;exact tO (r5 y g A) (λz=>e z.1)
 ·show gW (w2.getD m []) d=_;rw[e3 m d];show (if d=c/\m<a.length/\W a m <:+ W a n/\gW ((S.wy++[S.wy.getD old []]).getD m []) c=Z old then Z S.lg.length else gW ((S.wy++[S.wy.getD old []]).getD m []) d)=_;rcases tell h with⟨rfl,i,F⟩ | ⟨G,i,F⟩
  ·rw[Zn (λz=>Yh _ z.2.1),Jo,Zq Y,H.wy i d];unfold iD;rw[Zn];intro z;have C:=z.1;rw[← H.wy i d,H.wy (H.top hold) d]at C;have:=(H.sf C).length_le;rw[Zt,ZP]at this;lia
  ·rw[KL m G,H.wy i c,H.wy i d];unfold iD;by_cases p:j (x++[d])=Z old/\(x++[d]).length<=(W a n).length+1
   ·have HK:=cn (H.sf p.1) u (by rw[lw];exact p.2);obtain⟨rfl,hx⟩:=jb HK;obtain⟨t,m1,m2⟩:=H.O2 J hf hx;rw[i]at m1;cases m1;rw[Zq ⟨rfl,G,m2,p.1⟩,Zq p,M]
   ·rw[Zn p,Zn];rintro⟨rfl,_,a3,a4⟩;refine p ⟨a4,?_⟩;have b1:=(H.sf i).length_le;have b2:=a3.length_le;rw[Zt,ZP];lia
end AU
end
section
namespace AU
open Classical in
def ip(a:Wd->Option Nat)(w:Wd)(f:Nat)(x:Wd):Option Nat:=match a x with
 |some m=>Z m
 |none=>if x <:+ w then Z f else L
def dG{a:Wd->Option Nat}{w:Wd}{f m:Nat}{x:Wd}(h:a x=Z m):ip a w f x=Z m:=by
 unfold ip;rw[h]
def gp{a:Wd->Option Nat}{w:Wd}{f:Nat}{x:Wd}(h:a x=L)(b:x <:+ w):ip a w f x=Z f:=by
 unfold ip;rw[h];exact Zq b
def cU{a:Wd->Option Nat}{w:Wd}{f m:Nat}{x:Wd}(h:ip a w f x=Z m):a x=Z m\/(m=f/\a x=L/\x <:+ w):=by
 unfold ip at h;split at h
 ·rename_i q e;cases h;exact .inl e
 ·rename_i e;split at h
  ·rename_i b;cases h;exact .inr ⟨rfl,e,b⟩
  ·cases h
def xK{α:Type}{y t:List α}{c:α}(h:y <:+ t++[c])(d:y≠[]):∃a,y=a++[c]/\a <:+ t:=by
 rcases List.eq_nil_or_concat y with e | ⟨a,b,e⟩
 ·exact absurd e d
 ·rw[List.concat_eq_append]at e;subst e;obtain⟨e1,e2⟩:=jb h;exact⟨a,by rw[e1],e2⟩
section
variable{S:St}{nd:Wd->Option Nat}{wd:List Wd}
def I.fresh(H:I L S nd wd){h c:Nat}(t:h<wd.length)(hc:97<=c/\c<=122)(hn:gW (S.wy.getD h []) c=L)(hk:(W wd h).length<1000) :
  ∃D u,up1 c S.lg.length 1000 ⟨S.lg++[S.lg.getD h 0+1],S.lk++[Z 0],S.wy++[[]]⟩ (Z h)=Z (D,u)/\I (Z wd.length) D (ip nd (W wd h++[c]) wd.length) (wd++[W wd h++[c]])/\D.lk.getD wd.length L=Z 0/\D.lg.length=S.lg.length+1 ∧
   (∀m,m<wd.length->(gW (S.wy.getD m []) c).isSome->gW (D.wy.getD m []) c=gW (S.wy.getD m []) c) ∧
   (u=L->∀m,m<wd.length->W wd m <:+ W wd h->gW (S.wy.getD m []) c=L) ∧
   ∀p,u=Z p->p<wd.length/\W wd p <:+ W wd h/\(gW (S.wy.getD p []) c).isSome/\∀m,m<wd.length->W wd m <:+ W wd h->(W wd p).length<(W wd m).length->gW (S.wy.getD m []) c=L:=by
 have C:S.lg.length=wd.length:=H.len.symm;have l1:S.lk.length=wd.length:=by rw[H.wf.lk,C]
 have l2:S.wy.length=wd.length:=by rw[H.wf.wy,C]
 have Ow:0<wd.length:=by rw[H.len];exact H.wf.pos
 have N:∀m,(S.lk++[Z 0]).getD m L=if m=wd.length then Z 0 else S.lk.getD m L:=λm=>by rw[cf,l1]
 have Jo:∀m,(S.wy++[[]]).getD m []=if m=wd.length then [] else S.wy.getD m []:=λm=>by rw[cf,l2]
 have s:∀m,m<wd.length->(S.wy++[[]]).getD m []=S.wy.getD m []:=λm b=>by rw[Jo,Zn (Zb b)]
 have nt:nd (W wd h++[c])=L:=by rw[← H.wy (H.top t) c];exact hn
 obtain⟨O,u,e1,e2,e3,e4,e5⟩:=H.M9 (c:=c) (v:=S.lg.length) 1000 ⟨S.lg++[S.lg.getD h 0+1],S.lk++[Z 0],S.wy++[[]]⟩ h t (λz=>nomatch z) hk (λm b _=>by
   show (S.lk++[Z 0]).getD m L=_;rw[N,Zn (Zb b)])
  (by show _<=(S.wy++[[]]).length;rw[Zt,l2];exact Yq _ _)
  (λm P b j g HS q=>by
   have X:(gW ((S.wy++[[]]).getD P []) c).isSome:=q;show (gW ((S.wy++[[]]).getD m []) c).isSome;rw[s P j,H.wy (H.top j) c]at X;rw[s m b,H.wy (H.top b) c];obtain⟨r,f⟩:=Yj.mp X;obtain⟨U,Vi⟩:=H.LC f (g9 c g);rw[Vi];rfl)
 have hlen:(S.lg++[S.lg.getD h 0+1]).length=S.lg.length+1:=by rw[Zt];rfl
 have W1:=H.wf.more (l:=S.lg.getD h 0+1) (o:=Z 0) (w:=[]) (λm b=>by cases b;exact H.wf.pos) (λd m b=>by cases b) Yz (λp Q=>nomatch Q);have PL:=De hc 1000 _ _ _ _ W1 (by show S.lg.length<(S.lg++[S.lg.getD h 0+1]).length;lia) e1;have lw:(W wd h++[c]).length=(W wd h).length+1:=by rw[Zt];rfl
 have Wn:∀m,W (wd++[W wd h++[c]]) m=if m=wd.length then W wd h++[c] else W wd m:=λm=>cf wd _ _ m
 have M:W (wd++[W wd h++[c]]) wd.length=W wd h++[c]:=by rw[Wn,Zq Y]
 have i:∀{m},m<wd.length->W (wd++[W wd h++[c]]) m=W wd m:=λ{m} b=>by rw[Wn,Zn (Zb b)]
 have d9:(wd++[W wd h++[c]]).length=wd.length+1:=by rw[Zt];rfl
 refine⟨⟨S.lg++[S.lg.getD h 0+1],S.lk++[Z 0],O⟩,u,e1,?_,by show (S.lk++[Z 0]).getD wd.length L=_;rw[N,Zq Y],hlen,λm b g=>?_,λho m b g=>?_,λp Q=>?_⟩
 rotate_left
 ·show gW (O.getD m []) c=_;rw[e3 m c];show (if c=c/\m<wd.length/\W wd m <:+ W wd h/\gW ((S.wy++[[]]).getD m []) c=L then Z S.lg.length else gW ((S.wy++[[]]).getD m []) c)=_;rw[s m b,Zn (λz=>by rw[z.2.2.2]at g;cases g)]
 ·have:=e4 ho m b g;have F:gW ((S.wy++[[]]).getD m []) c=L:=this;rw[s m b]at F;exact F
 ·obtain⟨p1,p2,p3,p4⟩:=e5 p Q;have NW:(gW ((S.wy++[[]]).getD p []) c).isSome:=p3;rw[s p p1]at NW;refine⟨p1,p2,NW,λm b g J=>?_⟩;have:=p4 m b g J;have F:gW ((S.wy++[[]]).getD m []) c=L:=this;rw[s m b]at F;exact F
 refine⟨PL,by rw[d9];show _=(S.lg++[S.lg.getD h 0+1]).length;rw[hlen,C],λm b=>?_,dG H.z,by rw[i Ow];exact H.wz,λ{x m} q=>?_,λ{x m} q=>?_,λ{m} b=>?_,λ{x y m} q E n=>?_,λ{x d m} q=>?_,λ{x y m} q E=>?_,?_,λ{m} h0 b Ra=>?_,λ{x m} q d=>?_⟩
 ·rw[d9]at b;show (S.lg++[S.lg.getD h 0+1]).getD m 0=_;rw[cf,C];by_cases e:m=wd.length
  ·rw[Zq e,e,M,H.lg h t,lw]
  ·rw[Zn e,i (by lia),H.lg m (by lia)]
 ·rw[d9];rcases cU q with z | z
  ·have:=H.lt z;exact Yd this
  ·lia
 ·rcases cU q with z | ⟨rfl,_,z⟩
  ·rw[i (H.lt z)];exact H.sf z
  ·rw[M];exact z
 ·rw[d9]at b;by_cases e:m=wd.length
  ·rw[e,M];exact gp nt (ZC _)
  ·rw[i (by lia)];exact dG (H.top (by lia))
 ·rcases cU q with z | ⟨rfl,G,z2⟩
  ·rw[i (H.lt z)]at n;exact dG (H.iv z E n)
  ·rw[M]at n;refine gp ?_ n;cases e:nd y with
   |none=>rfl
   |some r =>
    obtain⟨U,f⟩:=H.LC e E;rw[G]at f;cases f
 ·rcases cU q with z | ⟨_,_,z⟩
  ·obtain⟨r,f⟩:=H.pre z;exact⟨r,dG f⟩
  ·obtain⟨_,A⟩:=jb z;obtain⟨r,f⟩:=H.LC (H.top t) A;exact⟨r,dG f⟩
 ·rcases cU q with z | ⟨_,_,z⟩
  ·obtain⟨r,f⟩:=H.LC z E;exact⟨r,dG f⟩
  ·cases e:nd x with
   |none=>exact⟨_,gp e (E.trans z)⟩
   |some r=>exact⟨r,dG e⟩
 ·show (S.lk++[Z 0]).getD 0 L=L;rw[N,Zn (by exact Zb Ow)];exact H.ME
 ·rw[d9]at b;have j:m<wd.length:=by
   have:m≠wd.length:=λe=>Ra (by rw[e]);lia
  show ∃q,(S.lk++[Z 0]).getD m L=Z q/\_;rw[N,Zn (Zb j),d9];obtain⟨r,r1,⟨r2,_⟩,r3,r4,r5⟩:=H.lk h0 j (λz=>nomatch z);refine⟨r,r1,⟨by exact Yd r2,λz=>?_⟩,by rw[i r2,i j];exact r3,by rw[i r2,i j];exact r4,λy n J=>?_⟩
  ·have:=Zm z;lia
  ·rw[i j]at n;rw[i r2]at J;exact dG (r5 y n J)
 ·show gW (O.getD m []) d=_;rw[e3 m d];show (if d=c/\m<wd.length/\W wd m <:+ W wd h/\gW ((S.wy++[[]]).getD m []) c=L then Z S.lg.length else gW ((S.wy++[[]]).getD m []) d)=_;rcases cU q with z | ⟨rfl,G,z2⟩
  ·have b:=H.lt z;rw[s m b,H.wy z c,H.wy z d];cases e:nd (x++[d]) with
   |some r =>
    rw[dG e,Zn];rintro⟨rfl,_,_,a⟩;rw[e]at a;cases a
   |none =>
    by_cases g:x++[d] <:+ W wd h++[c]
    ·obtain⟨rfl,A⟩:=jb g;obtain⟨P,m1,m2⟩:=H.O2 t (λz=>nomatch z) A;rw[z]at m1;cases m1;rw[gp e g,Zq ⟨rfl,b,m2,e⟩,C]
    ·have:ip nd (W wd h++[c]) wd.length (x++[d])=L:=by
      unfold ip;rw[e];exact Zn g
     rw[this,Zn];rintro⟨rfl,_,a,_⟩;exact g (g9 d ((H.sf z).trans a))
  ·rw[Zn (λa=>Yh _ a.2.1),Jo,Zq Y];have e:nd (x++[d])=L:=by
    cases e:nd (x++[d]) with
    |none=>rfl
    |some r =>
     obtain⟨U,f⟩:=H.pre e;rw[G]at f;cases f
   have:ip nd (W wd h++[c]) wd.length (x++[d])=L:=by
    unfold ip;rw[e];refine Zn λg=>?_;obtain⟨_,A⟩:=jb g;obtain⟨r,f⟩:=H.LC (H.top t) A;rw[G]at f;cases f
   rw[this];rfl
def I.fix{f m:Nat}(H:I (Z f) S nd wd)(j:f<wd.length)(b:m<wd.length)(h:W wd m <:+ W wd f)(a:(W wd m).length<(W wd f).length)(g:∀y,y <:+ W wd f->(W wd m).length<y.length->nd y=Z f):I L ⟨S.lg,S.lk.set f (Z m),S.wy⟩ nd wd:=by
 have o:f≠0:=λe=>by
  rw[e,H.wz]at a;simp at a
 have lf:f<S.lk.length:=by rw[H.wf.lk,← H.len];exact j
 refine⟨H.wf.link (by rw[← H.len];exact b),H.len,H.lg,H.z,H.wz,H.lt,H.sf,H.top,H.iv,H.pre,H.LC,?_,λ{n} l i _=>?_,H.wy⟩
 ·show (S.lk.set f (Z m)).getD 0 L=L;rw[hV,Zn (λz=>o z.1)];exact H.ME
 ·show ∃q,(S.lk.set f (Z m)).getD n L=Z q/\_;rw[hV];by_cases e:f=n
  ·subst e;rw[Zq ⟨rfl,lf⟩];exact⟨m,rfl,⟨b,λz=>nomatch z⟩,h,a,g⟩
  ·rw[Zn (λz=>e z.1)];obtain⟨r,r1,⟨r2,_⟩,d⟩:=H.lk l i (λz=>e (Zm z).symm);exact⟨r,r1,⟨r2,λz=>nomatch z⟩,d⟩
end
end AU
end
section
namespace AU
structure OY(nd HA:Wd->Option Nat)(w:Wd):Prop where
 eq:∀{x y m n},HA x=some m->HA y=some n->(m=n↔nd x=nd y/\(x <:+ w↔y <:+ w))
section
variable{fr:Option Nat}{S:St}{nd:Wd->Option Nat}{wd:List Wd}
def I.Oc(H:I fr S nd wd){n c old:Nat}(p:n<wd.length)(O:Z n≠fr)(P:97<=c/\c<=122)(o:gW (S.wy.getD n []) c=Z old)(i:Z old≠fr)(g:fr≠Z wd.length)(N:(W wd n).length<1000) :
  ∃e r j Hg,LI S n c=Z (e,r)/\I fr e j Hg/\r<Hg.length/\Z r≠fr/\W Hg r=W wd n++[c]/\(∀m,m<wd.length->W Hg m=W wd m)/\wd.length<=Hg.length/\Hg.length<=wd.length+1 ∧
   (∀x,(∃m,j x=Z m) ↔ ∃m,nd x=Z m)/\OY nd j (W wd n++[c])/\∀x f,f≠old->nd x=Z f->j x=Z f:=by
 have hw:=H.way p o;have hold:=H.lt hw;have E:=H.sf hw;have lw:(W wd n++[c]).length=(W wd n).length+1:=by rw[Zt];rfl
 by_cases t:S.lg.getD old 0=S.lg.getD n 0+1
 ·have s:W wd old=W wd n++[c]:=by
   have:=t;rw[H.lg old hold,H.lg n p]at this;exact(E.eq_of_length (by rw[lw,this])).symm
  refine⟨S,old,nd,wd,?_,H,hold,i,s,λm _=>rfl,Zj _,Xe _,λx=>Iff.rfl,⟨λ{x y m k} b a=>?_⟩,λx f _ h=>h⟩
  ·unfold LI;rw[o,Zx,Zq t]
  ·constructor
   ·rintro rfl;exact⟨by rw[b,a],λh=>by rw[← s]at h ⊢;exact H.all hold i b a h,λh=>by rw[← s]at h ⊢;exact H.all hold i a b h⟩
   ·rintro⟨h,_⟩;rw[b,a]at h;exact Zm h
 ·obtain⟨e,e1,u⟩:=H.split p O P o i g t N;have C:W (wd++[W wd n++[c]]) wd.length=W wd n++[c]:=(cf wd _ _ _).trans (Zq Y);have Q:∀m,m<wd.length->W (wd++[W wd n++[c]]) m=W wd m:=λm J=>(cf wd _ _ m).trans (Zn (Zb J));have d9:(wd++[W wd n++[c]]).length=wd.length+1:=by rw[Zt];rfl
  have inv:∀{x m},iD nd old ((W wd n).length+1) wd.length x=Z m->(m=wd.length/\nd x=Z old/\x.length<=(W wd n).length+1)\/nd x=Z m:=λ{x m} h=>by
   unfold iD at h;split at h
   ·rename_i q;cases h;exact .inl ⟨rfl,q.1,q.2⟩
   ·exact .inr h
  have D:∀{x},nd x=Z old->(x.length<=(W wd n).length+1↔x <:+ W wd n++[c]):=λ{x} h=>⟨λM=>cn (H.sf h) E (by rw[lw];exact M),λd=>by have:=d.length_le;rw[lw]at this;exact this⟩
  refine⟨e,S.lg.length,_,_,e1,u,by rw[d9,← H.len];exact Yv _,by rw[← H.len];exact λz=>g z.symm,by rw[← H.len];exact C,Q,by lia,by exact Xn d9,λx=>⟨λ⟨m,h⟩=>(inv h).elim (λz=>⟨_,z.2.1⟩) λz=>⟨_,z⟩,λ⟨m,h⟩=>?_⟩,⟨λ{x y m k} b a=>?_⟩,λx f U h=>?_⟩
  ·unfold iD;split
   ·exact⟨_,rfl⟩
   ·exact⟨m,h⟩
  ·constructor
   ·rintro rfl;have v:wd.length<(wd++[W wd n++[c]]).length:=by lia
    have A:=λh=>u.all v (λz=>g z.symm) b a h;have w:=λh=>u.all v (λz=>g z.symm) a b h;rw[C]at A w;refine⟨?_,A,w⟩;rcases inv b with⟨X,F,_⟩ | z
    ·rcases inv a with⟨_,G,_⟩ | y
     ·rw[F,G]
     ·have:=H.lt y;lia
    ·rcases inv a with⟨y1,_,_⟩ | y
     ·have:=H.lt z;lia
     ·rw[z,y]
   ·rintro⟨h,d⟩;have:iD nd old ((W wd n).length+1) wd.length x=iD nd old ((W wd n).length+1) wd.length y:=by
     unfold iD;rw[h];by_cases q:nd y=Z old
     ·have e1:=D (show nd x=Z old by rw[h,q]);have e2:=D q;by_cases l:y.length<=(W wd n).length+1
      ·rw[Zq ⟨q,e1.mpr (d.mpr (e2.mp l))⟩,Zq ⟨q,l⟩]
      ·rw[Zn (λz=>l (e2.mpr (d.mp (e1.mp z.2)))),Zn (λz=>l z.2)]
     ·rw[Zn (λz=>q z.1),Zn (λz=>q z.1)]
    rw[b,a]at this;exact Zm this
  ·unfold iD;rw[Zn (λz=>U (by rw[h]at z;exact Zm z.1))];exact h
end
section
variable{S:St}{nd:Wd->Option Nat}{wd:List Wd}
def I.step(H:I L S nd wd){h c:Nat}(A:h<wd.length)(hc:97<=c/\c<=122)(hk:(W wd h).length+1<1000) :
  ∃S' r u Hg,hb S h c=Z (S',r)/\I L S' u Hg/\r<Hg.length/\W Hg r=W wd h++[c]/\(∀m,m<wd.length->W Hg m=W wd m)/\wd.length<=Hg.length/\Hg.length<=wd.length+2 ∧
   (∀x,(∃m,u x=Z m)↔(∃m,nd x=Z m)\/x <:+ W wd h++[c])/\OY nd u (W wd h++[c]):=by
 cases hg:gW (S.wy.getD h []) c with
 |some old =>
  obtain⟨S',r,u,Hg,e,H',h1,_,h2,h3,h4,h5,h6,h7,_⟩:=H.Oc A (λz=>nomatch z) hc hg (λz=>nomatch z) (λz=>nomatch z) (by exact Nat.lt_of_succ_lt hk);refine⟨S',r,u,Hg,?_,H',h1,h2,h3,h4,by exact X5 h5,λx=>(h6 x).trans ⟨.inl,λz=>z.elim id λz=>H.LC (H.way A hg) z⟩,h7⟩;unfold hb;rw[hg];exact e
 |none =>
  have G:S.lg.length=wd.length:=H.len.symm;obtain⟨o,o',e1,v,k0,k1,k2,k3,k4⟩:=H.fresh A hc hg (by exact Nat.lt_of_succ_lt hk);have X:W (wd++[W wd h++[c]]) wd.length=W wd h++[c]:=(cf wd _ _ _).trans (Zq Y);have U:∀m,m<wd.length->W (wd++[W wd h++[c]]) m=W wd m:=λm hm=>(cf wd _ _ m).trans (Zn (Zb hm));have d9:(wd++[W wd h++[c]]).length=wd.length+1:=by rw[Zt];rfl
  have lw:(W wd h++[c]).length=(W wd h).length+1:=by rw[Zt];rfl
  have nt:nd (W wd h++[c])=L:=by rw[← H.wy (H.top A) c];exact hg
  have ex:∀x,(∃m,ip nd (W wd h++[c]) wd.length x=Z m)↔(∃m,nd x=Z m)\/x <:+ W wd h++[c]:=λx=>⟨λ⟨m,q⟩=>(cU q).elim (λz=>.inl ⟨_,z⟩) λz=>.inr z.2.2,λq=>by
   cases e:nd x with
   |some m=>exact⟨m,dG e⟩
   |none=>exact q.elim (λ⟨m,z⟩=>by rw[e]at z;cases z) λz=>⟨_,gp e z⟩⟩
  have same:∀{x y m n},ip nd (W wd h++[c]) wd.length x=Z m->ip nd (W wd h++[c]) wd.length y=Z n->(m=n↔nd x=nd y):=λ{x y m n} s j=>by
   rcases cU s with z | ⟨z1,z2,_⟩
   ·rcases cU j with i | ⟨y1,y2,_⟩
    ·rw[z,i];exact⟨λe=>by rw[e],λe=>Zm e⟩
    ·have:=H.lt z;refine⟨λe=>by lia,λe=>?_⟩;rw[z,y2]at e;cases e
   ·rcases cU j with i | ⟨y1,y2,_⟩
    ·have:=H.lt i;refine⟨λe=>by lia,λe=>?_⟩;rw[z2,i]at e;cases e
    ·exact⟨λ_=>by rw[z2,y2],λ_=>by rw[z1,y1]⟩
  have L3:∀{y},y <:+ W wd h++[c]->y≠[]->∀{q},nd y=Z q->∃i m,y=i++[c]/\i <:+ W wd h/\nd i=Z m/\m<wd.length/\W wd m <:+ W wd h/\(gW (S.wy.getD m []) c).isSome:=λ{y} d Jf {q} O=>by
   obtain⟨i,rfl,LN⟩:=xK d Jf;obtain⟨m,E,m2⟩:=H.O2 A (λz=>nomatch z) LN;exact⟨i,m,rfl,LN,E,H.lt E,m2,by rw[H.wy E c,O];rfl⟩
  unfold hb;rw[hg,Zn (by simp),e1];cases o' with
  |none =>
   have w:=k3 Y;have none_:∀{y},y <:+ W wd h++[c]->y≠[]->nd y=L:=λ{y} d Jf=>by
    cases e:nd y with
    |none=>rfl
    |some q =>
     obtain⟨i,m,_,_,_,m3,m4,D⟩:=L3 d Jf e;rw[w m m3 m4]at D;cases D
   have H3:=v.fix (f:=wd.length) (m:=0) (by lia) (by lia) (by rw[v.wz];exact YH) (by rw[v.wz,X,lw];exact Nat.succ_pos _) (λy d g=>by
    rw[X]at d;rw[v.wz]at g;exact gp (none_ d (λe=>by rw[e]at g;cases g)) d)
   have eS:(⟨o.lg,o.lk.set wd.length (Z 0),o.wy⟩:St)=o:=by
    have g:wd.length<o.lk.length:=by rw[v.wf.lk,← v.len,d9];exact Yv _
    have:o.lk.set wd.length (Z 0)=o.lk:=by
     rw[Zs,Zr g,YX]at k0;rw[← k0];exact XJ g
    rw[this]
   rw[eS]at H3;refine⟨o,S.lg.length,_,_,rfl,H3,by rw[d9,G];exact Yv _,by rw[G];exact X,U,by lia,by lia,ex,⟨λ{x y m n} s j=>?_⟩⟩;rw[same s j];refine⟨λe=>⟨e,?_⟩,λe=>e.1⟩;have key:∀{x y m n},ip nd (W wd h++[c]) wd.length x=Z m->ip nd (W wd h++[c]) wd.length y=Z n->nd x=nd y->x <:+ W wd h++[c]->y <:+ W wd h++[c]:=λ{x y m n} s j e hx=>by
    rcases cU j with z | z
    ·rw[z]at e;by_cases S4:x=[]
     ·subst S4;rw[H.z]at e;cases e;rw[H.zero z];exact YH
     ·rw[none_ hx S4]at e;cases e
    ·exact z.2.2
   exact⟨key s j e,key j s e.symm⟩
  |some p =>
   obtain⟨C,N,p3,p4⟩:=k4 p Y;obtain⟨old,P⟩:=Yj.mp p3;have Vp:gW (o.wy.getD p []) c=Z old:=by rw[k2 p C p3];exact P
   have SO:=H.way C P;have hold:=H.lt SO;have ph:(W wd p).length<(W wd h).length:=by
    rcases Nat.lt_or_eq_of_le N.length_le with l | l
    ·exact l
    ·have:=H.inj C A (N.eq_of_length l);rw[this,hg]at P;cases P
   obtain⟨S3,r,u,Hg,f1,H3,f2,f2',Q,f4,f5,f6,f7,f8,f9⟩:=v.Oc (n:=p) (c:=c) (old:=old) (by lia) (λz=>by have:=Zm z;lia) hc Vp (λz=>by have:=Zm z;lia) (λz=>by have:=Zm z;lia) (by rw[U p C];lia);rw[U p C]at Q f8;have QI:(W wd p++[c]).length=(W wd p).length+1:=by rw[Zt];rfl
   have PB:W Hg wd.length=W wd h++[c]:=by rw[f4 _ (by lia),X]
   have none_:∀{y},y <:+ W wd h++[c]->(W wd p).length+1<y.length->nd y=L:=λ{y} d g=>by
    cases e:nd y with
    |none=>rfl
    |some q =>
     obtain⟨i,m,rfl,E,m2,m3,m4,D⟩:=L3 d (λe=>by rw[e]at g;cases g) e;have l1:=(H.sf m2).length_le;rw[Zt,ZP]at g;rw[p4 m m3 m4 (by lia)]at D;cases D
   have H4:=H3.fix (f:=wd.length) (m:=r) (by lia) f2 (by rw[Q,PB];exact g9 c N) (by rw[Q,PB,QI,lw];exact Nat.succ_lt_succ ph) (λy d g=>by
    rw[PB]at d;rw[Q,QI]at g;exact f9 y wd.length (by exact XT hold) (gp (none_ d g) d))
   refine⟨⟨S3.lg,S3.lk.set S.lg.length (Z r),S3.wy⟩,S.lg.length,u,Hg,?_,by rw[G];exact H4,by rw[G];lia,by rw[G];exact PB,λm hm=>by rw[f4 m (by lia),U m hm],by lia,by lia,λx=>(f7 x).trans (ex x),⟨λ{x y m n} s j=>?_⟩⟩
   ·show (LI o p c).map _=_;rw[f1];rfl
   ·rw[f8.eq s j];obtain⟨E,M⟩:=(f7 x).mp ⟨m,s⟩;obtain⟨n1,J⟩:=(f7 y).mp ⟨n,j⟩;have e1:ip nd (W wd h++[c]) wd.length x=ip nd (W wd h++[c]) wd.length y↔nd x=nd y:=by
     rw[M,J];exact⟨λe=>(same M J).mp (Zm e),λe=>by rw[(same M J).mpr e]⟩
    rw[e1];have sw:W wd p++[c] <:+ W wd h++[c]:=g9 c N;have w:∀{z q},nd z=Z q->(z <:+ W wd h++[c]↔z <:+ W wd p++[c]):=λ{z q} F=>⟨λa=>cn a sw (by
     rw[QI];refine ZM λb=>?_;rw[none_ a b]at F;cases F),λa=>a.trans sw⟩
    have un:∀{z q},nd z=L->ip nd (W wd h++[c]) wd.length z=Z q->z <:+ W wd h++[c]/\¬z <:+ W wd p++[c]:=λ{z q} F a=>by
     rcases cU a with b | b
     ·rw[F]at b;cases b
     ·refine⟨b.2.2,λa=>?_⟩;obtain⟨q',O⟩:=H.LC SO a;rw[F]at O;cases O
    refine⟨λ⟨a,b⟩=>⟨a,?_⟩,λ⟨a,b⟩=>⟨a,?_⟩⟩
    ·cases t:nd x with
     |some q=>rw[w t,w (show nd y=Z q by rw[← a,t])];exact b
     |none =>
      have u1:=un t M;have u2:=un (show nd y=L by rw[← a,t]) J;exact⟨λ_=>u2.1,λ_=>u1.1⟩
    ·cases t:nd x with
     |some q=>rw[← w t,← w (show nd y=Z q by rw[← a,t])];exact b
     |none =>
      have u1:=un t M;have u2:=un (show nd y=L by rw[← a,t]) J;exact⟨λz=>absurd z u1.2,λz=>absurd z u2.2⟩
end
structure K(P:Wd->Prop)(S:St)(nd:Wd->Option Nat)(wd:List Wd):Prop where
 i:I none S nd wd
 nil:P []
 some:∀x,(∃m,nd x=some m) ↔ ∃p,P p/\x <:+ p
 eq:∀{x y m n},nd x=.some m->nd y=.some n->(m=n ↔ ∀p,P p->(x <:+ p↔y <:+ p))
def K.congr{P Q:Wd->Prop}{S:St}{b:Wd->Option Nat}{a:List Wd}(H:K P S b a)(h:∀p,P p↔Q p):K Q S b a:=by
 have:P=Q:=funext λp=>propext (h p);rw[← this];exact H
def QG(x:Wd):Option Nat:=if x=[] then Z 0 else L
def fS{x:Wd}{n:Nat}(h:QG x=Z n):x=[]/\n=0:=by
 unfold QG at h;split at h
 ·exact⟨by assumption,(Zm h).symm⟩
 ·cases h
def K0:K (λp=>p=[]) S0 QG [[]]:=by
 refine⟨⟨BN,rfl,λn d=>?_,rfl,rfl,λ{x n} h=>?_,λ{x n} h=>?_,λ{n} d=>?_,λ{x y n} h b a=>?_,λ{x c n} h=>?_,λ{x y n} h b=>?_,rfl,λ{n} b a=>?_,λ{x n} h c=>?_⟩,rfl,λx=>?_,λ{x y m n} b a=>?_⟩
 ·have:n=0:=Nat.lt_one_iff.mp d;subst this;rfl
 ·rw[(fS h).2];exact Nat.one_pos
 ·rw[(fS h).1];exact YH
 ·have:n=0:=Nat.lt_one_iff.mp d;subst this;rfl
 ·have e:=(fS h).2;subst e;have:y=[]:=YR.mp a;subst this;rfl
 ·have:=(fS h).1;exact absurd this (by simp)
 ·have e:=(fS h).1;subst e;have:x=[]:=YR.mp b;subst this;exact⟨0,rfl⟩
 ·have:n<1:=a;lia
 ·have e:=fS h;obtain⟨rfl,rfl⟩:=e;rfl
 ·constructor
  ·rintro⟨m,h⟩;exact⟨[],rfl,by rw[(fS h).1];exact YH⟩
  ·rintro⟨p,rfl,h⟩;have:x=[]:=YR.mp h;subst this;exact⟨0,rfl⟩
 ·obtain⟨rfl,rfl⟩:=fS b;obtain⟨rfl,rfl⟩:=fS a;exact⟨λ_ _ _=>Iff.rfl,λ_=>rfl⟩
section
variable{P:Wd->Prop}{S:St}{nd:Wd->Option Nat}{wd:List Wd}
theorem K.step(H:K P S nd wd){h c:Nat}(w:h<wd.length)(A:97<=c/\c<=122)(v:(W wd h).length+1<1000) :
  ∃g r j Hg,hb S h c=.some (g,r)/\K (λp=>P p\/p=W wd h++[c]) g j Hg/\r<Hg.length/\W Hg r=W wd h++[c]/\(∀m,m<wd.length->W Hg m=W wd m)/\wd.length<=Hg.length/\Hg.length<=wd.length+2:=by
 obtain⟨g,r,j,Hg,e,M,J,G,F,E,D,t,C⟩:=H.i.step w A v;refine⟨g,r,j,Hg,e,⟨M,.inl H.nil,λx=>?_,λ{x y m n} s o=>?_⟩,J,G,F,E,D⟩
 ·rw[t,H.some];constructor
  ·rintro (⟨p,a,b⟩ | a)
   ·exact⟨p,.inl a,b⟩
   ·exact⟨_,.inr Y,a⟩
  ·rintro⟨p,a | rfl,b⟩
   ·exact .inl ⟨p,a,b⟩
   ·exact .inr b
 ·rw[C.eq s o];have un:∀{z q},j z=.some q->nd z=L->z <:+ W wd h++[c]/\∀p,P p->¬z <:+ p:=λ{z q} a b=>⟨((t z).mp ⟨q,a⟩).elim (λ⟨m,x⟩=>by rw[b]at x;cases x) id,λp d u=>by
   obtain⟨m,x⟩:=(H.some z).mpr ⟨p,d,u⟩;rw[b]at x;cases x⟩
  have old:nd x=nd y ↔ ∀p,P p->(x <:+ p↔y <:+ p):=by
   cases ex:nd x with
   |some a =>
    cases f:nd y with
    |some b=>exact⟨λe=>(H.eq ex f).mp (Zm e),λe=>by rw[(H.eq ex f).mpr e]⟩
    |none =>
     refine⟨λe=>(nomatch e),λe=>?_⟩;obtain⟨p,d,l⟩:=(H.some x).mp ⟨a,ex⟩;exact absurd ((e p d).mp l) ((un o f).2 p d)
   |none =>
    cases f:nd y with
    |some b =>
     refine⟨λe=>(nomatch e),λe=>?_⟩;obtain⟨p,d,l⟩:=(H.some y).mp ⟨b,f⟩;exact absurd ((e p d).mpr l) ((un s ex).2 p d)
    |none=>exact⟨λ_ p d=>⟨λz=>absurd z ((un s ex).2 p d),λz=>absurd z ((un o f).2 p d)⟩,λ_=>rfl⟩
  rw[old];constructor
  ·rintro⟨a,b⟩ p (d | rfl)
   ·exact a p d
   ·exact b
  ·intro a;exact⟨λp d=>a p (.inl d),a _ (.inr Y)⟩
end
def K.grow:∀(w:Wq){P:Wd->Prop}{S:St}{nd:Wd->Option Nat}{b:List Wd}(H:K P S nd b){h:Nat},h<b.length->P (W b h)->(∀c∈w,97<=c/\c<=122)->(W b h).length+w.length<1000 →
  ∃n r E Hg,hg S h w=.some (n,r)/\K (λp=>P p\/∃v,v <+: w/\p=W b h++v) n E Hg/\r<Hg.length/\W Hg r=W b h++w/\(∀m,m<b.length->W Hg m=W b m)/\b.length<=Hg.length/\Hg.length<=b.length+2*w.length:=by
 intro w
 induction w with
 |nil =>
  intro P S nd b H h g f hw j;refine⟨S,h,nd,b,rfl,H.congr λp=>⟨.inl,?_⟩,g,(ZV _).symm,λ_ _=>rfl,Zj _,Zj _⟩;rintro (a | ⟨v,a,rfl⟩)
  ·exact a
  ·rw[List.prefix_nil.mp a,ZV];exact f
 |cons c w o =>
  intro P S nd b H h g f hw j;rw[Zi]at j;obtain⟨O,r1,Q,N,e1,G,y,e,x,l,M⟩:=H.step g (hw c Zv) (by lia);obtain⟨A,r2,C,D,e2,F,u,t,s,q,J⟩:=o G y (.inr e) (λd hd=>hw d (Zw _ hd)) (by rw[e,Zt,ZP];lia);refine⟨A,r2,C,D,?_,F.congr λp=>?_,u,?_,λm i=>by rw[s m (by exact ZL i l),x m i],by exact ZJ l q,by rw[Zi];lia⟩
  ·show (hb S h c).bind _=_;rw[e1];exact e2
  ·rw[e];constructor
   ·rintro ((a | rfl) | ⟨v,a,rfl⟩)
    ·exact .inl a
    ·exact .inr ⟨[c],XI.mpr ⟨rfl,List.nil_prefix⟩,rfl⟩
    ·exact .inr ⟨c :: v,XI.mpr ⟨rfl,a⟩,by rw[ZG];rfl⟩
   ·rintro (a | ⟨v,a,rfl⟩)
    ·exact .inl (.inl a)
    ·cases v with
     |nil=>rw[ZV];exact .inl (.inl f)
     |cons d v =>
      obtain⟨rfl,z⟩:=XI.mp a;exact .inr ⟨v,z,by rw[ZG];rfl⟩
  ·rw[t,e,ZG];rfl
def mB(S:St):List Wd->Option St
 |[]=>Z S
 |t :: b=>(hg S 0 t).bind λz=>mB z.1 b
def K.book:∀(b:List Wd){P:Wd->Prop}{S:St}{nd:Wd->Option Nat}{d:List Wd}(H:K P S nd d),(∀t∈b,∀c∈t,97<=c/\c<=122)->(∀t∈b,t.length<1000) →
  ∃j w Hg,mB S b=.some j/\K (λp=>P p\/∃t∈b,p <+: t) j w Hg/\d.length<=Hg.length/\Hg.length<=d.length+2*(b.map List.length).sum:=by
 intro b
 induction b with
 |nil =>
  intro P S nd d H _ _;refine⟨S,nd,d,rfl,H.congr λp=>⟨.inl,?_⟩,Zj _,Yq _ _⟩;rintro (a | ⟨t,f,_⟩)
  ·exact a
  ·cases f
 |cons t b l =>
  intro P S nd d H h g;have m:0<d.length:=H.i.lt H.i.z;obtain⟨J,r1,M,G,e1,y,F,E,D,o,C⟩:=H.grow t m (by rw[H.i.wz];exact H.nil) (h t Zv) (by rw[H.i.wz];have:=g t Zv;simpa using this);obtain⟨q,r,s,e2,x,n,A⟩:=l y (λt f=>h t (Zw _ f)) (λt f=>g t (Zw _ f));refine⟨q,r,s,?_,x.congr λp=>?_,by exact ZJ o n,by rw[Zo,YD];lia⟩
  ·show (hg S 0 t).bind _=_;rw[e1];exact e2
  ·rw[H.i.wz];constructor
   ·rintro ((a | ⟨v,a,rfl⟩) | ⟨u,e,a⟩)
    ·exact .inl a
    ·exact .inr ⟨t,Zv,a⟩
    ·exact .inr ⟨u,Zw _ e,a⟩
   ·rintro (a | ⟨u,e,a⟩)
    ·exact .inl (.inl a)
    ·rcases Zp.mp e with rfl | e
     ·exact .inl (.inr ⟨p,a,rfl⟩)
     ·exact .inr ⟨u,e,a⟩
def Hd(b:List Wd)(p:Wd):Prop:=p=[]\/∃t∈b,p <+: t
def K.of(b:List Wd)(f:∀t∈b,∀c∈t,97<=c/\c<=122)(d:∀t∈b,t.length<1000):∃S nd a,mB S0 b=.some S/\K (Hd b) S nd a/\a.length<=1+2*(b.map List.length).sum:=by
 obtain⟨S,nd,a,e,H,_,l⟩:=K0.book b f d;exact⟨S,nd,a,e,H,l⟩
def sk(w:List (Nat×Nat)):Wq:=(List.range' 97 26).filter λc=>(gW w c).isSome
def visit(w:List (Nat×Nat)):Wq->Wq->Wq
 |[],met=>met
 |c :: r,met=>visit w r (if (gW w c).getD 0∈met then met else met++[(gW w c).getD 0])
def Kd(S:St):Nat->Wq->Nat->Option (Wq)
 |k,met,d=>if d<met.length then (match k with
  |0=>L
  |k+1=>Kd S k (visit (S.wy.getD (met.getD d 0) []) (sk (S.wy.getD (met.getD d 0) [])) met) (d+1)) else Z met
def steps(S:St)(a:Wq)(n:Nat):List (Nat×Nat):=(sk (S.wy.getD n [])).map λc=>(c,a.idxOf ((gW (S.wy.getD n []) c).getD 0))
abbrev Row:=Nat×Nat×Option Nat×List (Nat×Nat)
def row(S:St)(a:Wq)(n:Nat):Row:=match S.lk.getD n L with
 |none=>(0,0,L,steps S a n)
 |some l=>(S.lg.getD l 0+1,S.lg.getD n 0,Z (a.idxOf l),steps S a n)
def tab(S:St)(a:Wq):List Row:=a.map (row S a)
section
variable{S T:St}{f:Nat->Nat}
def nq{w:List (Nat×Nat)}{c:Nat}(h:c∈sk w):∃m,gW w c=Z m:=Yj.mp (Y4.mp h).2
theorem mY{w:List (Nat×Nat)}{N:Nat}(hw:∀c m,gW w c=Z m->m<N):∀(r met:Wq),(∀c∈r,∃m,gW w c=Z m)->(∀x∈met,x<N)->∀x∈visit w r met,x<N
 |[],met,_,a=>a
 |c :: r,met,b,a=>by
  refine mY hw r _ (λd hd=>b d (Zw _ hd)) ?_;obtain⟨m,e⟩:=b c Zv;rw[e,YX];split
  ·exact a
  ·intro x g;rcases Zd.mp g with h | h
   ·exact a x h
   ·rw[Zh.mp h];exact hw c m e
def getD_mem{l:Wq}{d:Nat}(h:d<l.length):l.getD d 0∈l:=by
 rw[Zs,Zr h];exact Yy h
end
theorem kZ{w:List (Nat×Nat)}:∀(r met:Wq),∃l,visit w r met=met++l
 |[],met=>⟨[],(ZV _).symm⟩
 |c :: r,met=>by
  obtain⟨l,e⟩:=kZ (w:=w) r (if (gW w c).getD 0∈met then met else met++[(gW w c).getD 0]);show ∃l,visit w r _=_;rw[e];split
  ·exact⟨l,rfl⟩
  ·exact⟨_,ZG _ _ _⟩
theorem nz{w:List (Nat×Nat)}:∀(r met:Wq),met.Nodup->(visit w r met).Nodup
 |[],met,h=>h
 |c :: r,met,h=>by
  refine nz (w:=w) r _ ?_;split
  ·exact h
  ·rename_i q;rw[ZR];refine⟨h,by simp,λa d b hb e=>q ?_⟩;rw[Zh.mp hb]at e;rw[← e];exact d
theorem pq{w:List (Nat×Nat)}:∀(r met:Wq),∀c∈r,(gW w c).getD 0∈visit w r met
 |d :: r,met,c,a=>by
  rcases Zp.mp a with rfl | a
  ·obtain⟨l,e⟩:=kZ (w:=w) r (if (gW w c).getD 0∈met then met else met++[(gW w c).getD 0]);show _∈visit w r _;rw[e];refine ZD _ ?_;split
   ·assumption
   ·exact ZQ _ Zv
  ·exact pq r _ c a
def xj{w:List (Nat×Nat)}(d:∀p∈w,97<=p.1/\p.1<=122){c m:Nat}(h:gW w c=Z m):c∈sk w:=by
 refine Y4.mpr ⟨?_,by rw[h];rfl⟩;unfold gW at h;obtain⟨p,a,_⟩:=Zy.mp h;have e:=List.find?_some a;have:=d p (List.mem_of_find?_eq_some a);have b:p.1=c:=by simpa using e
 rw[b]at this;rw[X7];lia
def Co{S:St}(o:WF S):∀(k:Nat)(met:Wq)(d:Nat),met.Nodup->(∀x∈met,x<S.lg.length)->d<=met.length->S.lg.length<=k+d->(∀i,i<d->∀c m,gW (S.wy.getD (met.getD i 0) []) c=Z m->m∈met) →
  ∃l,Kd S k met d=Z (met++l)/\(met++l).Nodup/\(∀x∈met++l,x<S.lg.length)/\∀n∈met++l,∀c m,gW (S.wy.getD n []) c=Z m->m∈met++l:=by
 intro k;have fin:∀(met:Wq)(d:Nat),¬d<met.length->d<=met.length->(∀i,i<d->∀c m,gW (S.wy.getD (met.getD i 0) []) c=Z m->m∈met)->∀n∈met,∀c m,gW (S.wy.getD n []) c=Z m->m∈met:=by
  intro met d f b h n t c m e;obtain⟨i,g,q⟩:=List.mem_iff_getElem.mp t;refine h i (by lia) c m ?_;have:met.getD i 0=n:=by rw[Zs,Zr g,q];rfl
  rw[this];exact e
 induction k with
 |zero =>
  intro met d nd lt hd u h;have z:met.length<=S.lg.length:=by
   have:=sub_len met (List.range S.lg.length) nd λx s=>YL.mpr (lt x s)
   rwa [ZI]at this
  have a:¬d<met.length:=by lia
  refine⟨[],?_,?_⟩
  ·unfold Kd;rw[Zn a,ZV]
  ·rw[ZV];exact⟨nd,lt,fin met d a hd h⟩
 |succ k r =>
  intro met d nd lt hd u h;by_cases a:d<met.length
  ·obtain⟨p,e1⟩:=kZ (w:=S.wy.getD (met.getD d 0) []) (sk (S.wy.getD (met.getD d 0) [])) met;obtain⟨l,e,f,b,j⟩:=r (visit (S.wy.getD (met.getD d 0) []) (sk (S.wy.getD (met.getD d 0) [])) met) (d+1) (nz _ _ nd) (mY (λc m e=>o.on _ c m e) _ _ (λc v=>nq v) lt) (by rw[e1,Zt];lia) (by lia) (λi g c m e=>by
    have y:(visit (S.wy.getD (met.getD d 0) []) (sk (S.wy.getD (met.getD d 0) [])) met).getD i 0=met.getD i 0:=by
     rw[e1,Zs,Zs,Z0 (by lia)]
    rw[y]at e;by_cases q:i=d
    ·subst q;have:=pq (w:=S.wy.getD (met.getD i 0) []) (sk (S.wy.getD (met.getD i 0) [])) met c (xj (o.NH _).2 e);rw[e]at this;exact this
    ·rw[e1];exact ZD _ (h i (by lia) c m e))
   rw[e1,ZG]at f b j;refine⟨p++l,?_,f,b,j⟩;unfold Kd;rw[Zq a];show Kd S k _ (d+1)=_;rw[e,e1,ZG]
  ·refine⟨[],?_,?_⟩
   ·unfold Kd;rw[Zn a,ZV]
   ·rw[ZV];exact⟨nd,lt,fin met d a hd h⟩
def A2{α:Type}{p:List α->Prop}(h0:p [])(h1:∀l a,p l->p (l++[a]))(l:List α):p l:=by
 have:∀l:List α,p l.reverse:=by
  intro l
  induction l with
  |nil=>exact h0
  |cons a l ih=>rw[List.reverse_cons];exact h1 _ a ih
 rw[← List.reverse_reverse l];exact this _
def K.met{P:Wd->Prop}{S:St}{nd:Wd->Option Nat}{wd:List Wd}(H:K P S nd wd){k:Nat}(hk:wd.length<=k):∃l,Kd S k [0] 0=Z (0 :: l)/\(0 :: l).Nodup/\(∀x,x∈0 :: l↔x<wd.length)/\(0 :: l).length=wd.length:=by
 have L:S.lg.length=wd.length:=H.i.len.symm;obtain⟨l,e,h1,h2,h3⟩:=Co H.i.wf k [0] 0 (by simp) (λx hx=>by rw[Zh.mp hx];exact H.i.wf.pos) (Ys _) (by lia) (λi hi=>absurd hi (XO _));have h0:∀(x:Wd) n,nd x=Z n->n∈0 :: l:=by
  intro x
  induction x using A2 with
  |h0=>intro n e;rw[H.i.z]at e;cases e;exact Zv
  |h1 x c ih =>
   intro n e;obtain⟨m,hm⟩:=H.i.pre e;exact h3 m (ih m hm) c n (by rw[H.i.wy hm];exact e)
 have hx:∀x,x∈0 :: l↔x<wd.length:=λx=>⟨λz=>by rw[← L];exact h2 x z,λz=>h0 _ x (H.i.top z)⟩
 refine⟨l,e,h1,hx,Nat.le_antisymm ?_ ?_⟩
 ·have:=sub_len (0 :: l) (List.range wd.length) h1 λx z=>YL.mpr ((hx x).mp z)
  rwa [ZI]at this
 ·have:=sub_len (List.range wd.length) (0 :: l) List.nodup_range λx z=>(hx x).mpr (YL.mp z)
  rwa [ZI]at this
end AU
end
section
namespace T43
open VS AU
def AX(w:List (Nat×Nat))(c:Nat):c∈w.map (·.1)↔(gW w c).isSome=B:=by
 rw[← D3,YK,Yg];exact⟨λ⟨p,b,a⟩=>⟨p,b,by rw[a];exact beq_self_eq_true c⟩,λ⟨p,b,a⟩=>⟨p,b,by simpa using a⟩⟩
def vh{w:List (Nat×Nat)}(a:(w.map (·.1)).Nodup)(b:∀p∈w,97<=p.1/\p.1<=122):(sk w).Perm (w.map (·.1)):=by
 refine(List.perm_ext_iff_of_nodup ?_ a).mpr λc=>?_
 ·exact List.Nodup.sublist List.filter_sublist List.nodup_range'
 ·rw[AX];constructor
  ·intro h;exact(Y4.mp h).2
  ·intro h;obtain⟨m,e⟩:=Yj.mp h;exact xj b e
def yb{m:Md}{w:List (Nat×Nat)}(e:(w.map (·.1)).Nodup)(d:∀p∈w,97<=p.1/\p.1<=122):gR [(m,G6 w)]=Z (.fr,.lst ((sk w).map λc=>T.str [c])):=by
 show ((strs? ((w.map λp=>(T.str [p.1],T.int (p.2:Int))).map (·.1))).bind _)=_;have e1:(w.map λp=>(T.str [p.1],T.int (p.2:Int))).map (·.1)=(w.map (·.1)).map λc=>T.str [c]:=by
  rw[Z6,Z6];rfl
 rw[e1,strs_map (λc=>[c]),Zx,Zq]
 ·have:(sk w).map (λc=>[c])=eR ((w.map (·.1)).map λc=>[c]):=by
   refine pf ((vh e d).map _) ?_;rw[X6];refine List.Pairwise.imp ?_ (List.Pairwise.filter _ (List.pairwise_lt_range' (s:=97) (n:=26)));intro a b j h;rcases Xq.mp h with h | ⟨_,h⟩
   ·lia
   ·exact absurd h (List.not_lt_nil _)
  rw[← this,Z6];rfl
 ·refine⟨?_,Yt.mpr ?_⟩
  ·rw[Zu,← (vh e d).length_eq];have:(sk w).length<=(List.range' 97 26).length:=Xr _ _;rw[Xi]at this;lia
  intro s f;obtain⟨c,i,rfl⟩:=Yg.mp f;obtain⟨p,g,rfl⟩:=Yg.mp i;have:=d p g;show (decide (1<=eO)&&(decide (p.1<1114112)&&B))=B;rw[decide_eq_true (show p.1<1114112 by lia)];rfl
def nE:Nat->Wq->List (T×T)
 |_,[]=>[]
 |k,n :: r=>(T.int (n:Int),T.int (k:Int)) :: nE (k+1) r
theorem wU:∀(met:Wq)(k:Nat),(nE k met).length=met.length
 |[],_=>rfl
 |_ :: r,k=>by rw[nE,Zi,Zi,wU r]
theorem qr:∀(met:Wq)(k:Nat),(nE k met).map (·.1)=met.map λ(n:Nat)=>T.int (n:Int)
 |[],_=>rfl
 |_ :: r,k=>by rw[nE,Zo,Zo,qr r]
theorem yY:∀(met:Wq)(k n:Nat),nE k (met++[n])=nE k met++[(T.int (n:Int),T.int ((k+met.length:Nat):Int))]
 |[],k,n=>rfl
 |m :: r,k,n=>by
  rw[XY,nE,nE,yY r (k+1) n,Zi,XY];rw[show k+1+r.length=k+(r.length+1) by lia]
def GK(a b:Nat):eqT (.int (a:Int)) (.int (b:Int))=(a==b):=by
 simp only[eqT];by_cases h:a=b
 ·simp[h]
 ·have d:¬(a:Int)=(b:Int):=by lia
  rw[ZK.mpr h,ZK.mpr d]
theorem p7:∀(met:Wq)(k n:Nat),fD (nE k met) (.int (n:Int))=if n∈met then Z (T.int ((k+met.idxOf n:Nat):Int)) else L
 |[],_,_=>rfl
 |m :: r,k,n=>by
  show ((((T.int (m:Int),T.int (k:Int)) :: nE (k+1) r).find? λp=>eqT p.1 (.int (n:Int))).map (·.2))=_;rw[Z9];simp only[GK];by_cases h:m=n
  ·subst h;simp[List.idxOf_cons]
  ·have hb:(m==n)=R:=ZK.mpr h;have a:=p7 r (k+1) n;unfold fD at a;simp only[hb];rw[a,List.idxOf_cons,hb];by_cases q:n∈r
   ·rw[Zq q,Zq (Zw _ q)];show Z (T.int ((k+1+r.idxOf n:Nat):Int))=Z (T.int ((k+(r.idxOf n+1):Nat):Int));rw[show k+1+r.idxOf n=k+(r.idxOf n+1) by lia]
   ·rw[Zn q,Zn (λz=>(Zp.mp z).elim (λe=>h e.symm) q)]
def D9(a:Wq)(n:Nat)(h:n∉a):dput (nE 0 a) (.int (n:Int)) (.int (a.length:Int))=nE 0 (a++[n]):=by
 unfold dput;rw[Zn,yY]
 ·rw[XU]
 ·intro z;obtain⟨p,b,e⟩:=YK.mp z;have:(fD (nE 0 a) (.int (n:Int))).isSome=B:=by
   unfold fD;rw[Ye,List.find?_isSome];exact⟨p,b,e⟩
  rw[p7,Zn h]at this;cases this
def nT(met:Wq):T:=.dct 0 (nE 0 met)
def mT(met:Wq):T:=.lst (met.map λ(n:Nat)=>T.int (n:Int))
def BL{U:Env}{m k:Md}{met:Wq}{n:Nat}{a e:Ex}(h:a U=Z (m,nT met))(d:e U=Z (k,.int (n:Int))):e2 dQ e a U=Z (.fr,.bl (decide (n∉met))):=e2v d h (by
 show (match (if B=B then Z (Md.fr,T.bl (fD (nE 0 met) (.int (n:Int))).isSome) else L) with | some (_,.bl b)=>some (Md.fr,T.bl (!b)) | _=>none)=_;rw[Zq Y,p7];by_cases q:n∈met
 ·rw[Zq q,Za (λz=>z q)];rfl
 ·rw[Zn q,decide_eq_true q];rfl)
section
variable{S:St}{w:List (Nat×Nat)}
theorem yx{d:Nat}{ob:Wk}:∀(r met:Wq)(z:Wk),(∀c∈r,∃m,gW w c=Z m)->met.length+r.length<16777216->∃a,forL (ba 5) bq (r.map λc=>T.str [c]) [ob,oc (nT met),oc (mT met),Q0 (d:Int),pc (G6 w),z]=Z (.nx [ob,oc (nT (visit w r met)),oc (mT (visit w r met)),Q0 (d:Int),pc (G6 w),a])
 |[],met,z,_,_=>⟨z,rfl⟩
 |c :: r,met,z,f,p=>by
  obtain⟨m,e⟩:=f c Zv;rw[Zi]at p;have hlen:(nE 0 met).length=met.length:=wU met 0;by_cases q:m∈met
  ·obtain⟨a,b⟩:=yx r met (Q1 ([c])) (λd hd=>f d (Zw _ hd)) (by lia);refine⟨a,?_⟩;have ev:visit w (c :: r) met=visit w r met:=by
    show visit w r (if (gW w c).getD 0∈met then met else met++[(gW w c).getD 0])=_;rw[e,YX,Zq q]
   rw[ev,Zo];refine(gL (U1:=[ob,oc (nT met),oc (mT met),Q0 (d:Int),pc (G6 w),Q1 ([c])]) Y ?_).trans b;unfold bq;refine fP (m:=.fr) ?_ Y;refine(BL (m:=.bo) (k:=.fr) (met:=met) (n:=m) Y (wm (m:=.pu) (n:=.fr) (c:=c) (w:=w) Y Y e)).trans ?_;rw[Za (λz=>z q)]
  ·obtain⟨a,b⟩:=yx r (met++[m]) (Q1 ([c])) (λd hd=>f d (Zw _ hd)) (by rw[Zt,ZP];lia);refine⟨a,?_⟩;have ev:visit w (c :: r) met=visit w r (met++[m]):=by
    show visit w r (if (gW w c).getD 0∈met then met else met++[(gW w c).getD 0])=_;rw[e,YX,Zn q]
   rw[ev,Zo];refine(gL (U1:=[ob,oc (nT met),oc (mT met),Q0 (d:Int),pc (G6 w),Q1 ([c])]) Y ?_).trans b;unfold bq;refine Kl (m:=.fr) ?_ ?_
   ·refine(BL (m:=.bo) (k:=.fr) (met:=met) (n:=m) Y (wm (m:=.pu) (n:=.fr) (c:=c) (w:=w) Y Y e)).trans ?_;rw[decide_eq_true q]
   ·have h:∀nn g:Wk,e2 IM (aa 4) (aa 5) [ob,nn,g,Q0 (d:Int),pc (G6 w),Q1 ([c])]=Z (.fr,.int (m:Int)):=λnn g=>wm (m:=.pu) (n:=.fr) (c:=c) (w:=w) Y Y e;have j:qE 1 (e2 IM (aa 4) (aa 5)) (eN bP (ab (aa 2) ag)) [ob,oc (nT met),oc (mT met),Q0 (d:Int),pc (G6 w),Q1 ([c])]=Z (.nx [ob,oc (nT (met++[m])),oc (mT met),Q0 (d:Int),pc (G6 w),Q1 ([c])]):=by
     have o:eN bP (ab (aa 2) ag) [ob,oc (nT met),oc (mT met),Q0 (d:Int),pc (G6 w),Q1 ([c])]=Z (.fr,.int (met.length:Int)):=iq (xv (x:=(.bo,mT met)) Y Y) (by
      show Z (Md.fr,T.int (((met.map λ(n:Nat)=>T.int (n:Int)).length:Nat):Int))=_;rw[Zu])
     unfold qE;rw[o,Zx];show ((e2 IM (aa 4) (aa 5) [ob,oc (nT met),oc (mT met),Q0 (d:Int),pc (G6 w),Q1 ([c])]).bind _)=_;rw[h,Zx];show (if B=B/\B=B/\(nE 0 met).length<eO then Z (Out.nx [ob,oc (.dct 0 (dput (nE 0 met) (.int (m:Int)) (.int (met.length:Int)))),oc (mT met),Q0 (d:Int),pc (G6 w),Q1 ([c])]) else L)=_;rw[Zq ⟨rfl,rfl,by rw[hlen];show met.length<16777216;lia⟩,D9 met m q];rfl
    refine sq j ?_;refine(qk (i:=2) (l:=met.map λ(n:Nat)=>T.int (n:Int)) (v:=.int (m:Int)) Y (h _ _) (by rw[Zu];lia)).trans ?_;rw[show (met.map λ(n:Nat)=>T.int (n:Int))++[.int (m:Int)]=(met++[m]).map λ(n:Nat)=>T.int (n:Int) from by rw[ZF];rfl];rfl
end
def tf(w:List (Nat×Nat)):(sk w).length<=26:=by
 refine ZJ (Xr _ _) ?_;rw[Xi];exact Zj _
def BD{S:St}{a:Wq}(b:a.Nodup)(d:∀x∈a,x<S.lg.length):a.length<=S.lg.length:=by
 have:=sub_len a (List.range S.lg.length) b λx e=>YL.mpr (d x e)
 rwa [ZI]at this
def Gb{S:St}(o:WF S)(H:S.lg.length<=100001):∀(k:Nat)(met:Wq)(d:Nat)(g:Wq),met.Nodup->(∀x∈met,x<S.lg.length)->Kd S k met d=Z g->∀N,k<N->∀f a:Wk,∃j C D,
  dY (e2 oLt (aa 3) (eN bP (ab (aa 2) ag))) bZ N [pc (GO S R),oc (nT met),oc (mT met),Q0 ((d:Nat):Int),f,a] =
   Z (.nx [pc (GO S R),oc (nT g),oc (mT g),pc j,C,D]):=by
 have cond:∀(met:Wq)(d:Nat)(f a:Wk),e2 oLt (aa 3) (eN bP (ab (aa 2) ag)) [pc (GO S R),oc (nT met),oc (mT met),Q0 ((d:Nat):Int),f,a]=Z (.fr,.bl (decide (d<met.length))):=λmet d f a =>
  e2v (x:=(.fr,.int (d:Int))) Y (iq (v:=(.fr,.int (met.length:Int))) (xv (x:=(.bo,mT met)) Y Y) (by
   show Z (Md.fr,T.int (((met.map λ(n:Nat)=>T.int (n:Int)).length:Nat):Int))=_;rw[Zu])) (by
   show Z (Md.fr,T.bl (decide ((d:Int)<(met.length:Int))))=_;rw[show decide ((d:Int)<(met.length:Int))=decide (d<met.length) from decide_eq_decide.mpr (by lia)])
 intro k
 induction k with
 |zero =>
  intro met d g nd lt e N hN f a;obtain⟨N,rfl⟩:∃g,N=g+1:=⟨N-1,by lia⟩
  unfold Kd at e;split at e
  ·cases e
  ·rename_i h;cases e;exact⟨_,f,a,fW (m:=.fr) ((cond _ _ _ _).trans (by rw[Za h]))⟩
 |succ k z =>
  intro met d g nd lt e N hN f a;obtain⟨N,rfl⟩:∃g,N=g+1:=⟨N-1,by lia⟩
  unfold Kd at e;split at e
  ·rename_i h;have A:=lt _ (getD_mem h);have E:met.getD d 0<S.wy.length:=by rw[o.wy];exact A
   have G:=BD nd lt;have F:=tf (S.wy.getD (met.getD d 0) []);obtain⟨p,u⟩:=yx (w:=S.wy.getD (met.getD d 0) []) (d:=d) (ob:=pc (GO S R)) (sk (S.wy.getD (met.getD d 0) [])) met a (λc i=>nq i) (by lia);obtain⟨j,s,r,q⟩:=z _ (d+1) g (nz _ _ nd) (mY (λc m e=>o.on _ c m e) _ _ (λc i=>nq i) lt) e N (by exact YZ hN) (pc (G6 (S.wy.getD (met.getD d 0) []))) p;refine⟨j,s,r,(mJ (m:=.fr) ((cond _ _ _ _).trans (by rw[decide_eq_true h])) ?_).trans q⟩;unfold bZ;have ix:e2 aB (aa 2) (aa 3) [pc (GO S R),oc (nT met),oc (mT met),Q0 ((d:Nat):Int),f,a]=Z (.fr,.int ((met.getD d 0:Nat):Int)):=e2v (x:=(.bo,mT met)) (y:=(.fr,.int (d:Int))) Y Y (j7 _ met d 0 h);have s1:aP 4 (e2 aB (aU 3 (aa 0)) (e2 aB (aa 2) (aa 3))) [pc (GO S R),oc (nT met),oc (mT met),Q0 ((d:Nat):Int),f,a]=Z (.nx [pc (GO S R),oc (nT met),oc (mT met),Q0 ((d:Nat):Int),pc (G6 (S.wy.getD (met.getD d 0) [])),a]) :=
    aT (m:=.pu) (om (S:=S) (b:=R) (m:=.pu) (n:=.fr) Y ix E) (by decide) (by decide:4<6)
   refine sq s1 ?_;have nw:=o.NH (met.getD d 0);refine sq ((dr (m:=.fr) (l:=(sk (S.wy.getD (met.getD d 0) [])).map λc=>T.str [c]) ?_ Y).trans u) ?_
   ·show (eN gR (ab (aa 4) ag) _).bind Cz=_;rw[iq (xv (x:=(.pu,G6 (S.wy.getD (met.getD d 0) []))) Y Y) (yb nw.1 nw.2)];rfl
   ·exact aT (m:=.fr) (t:=.int (((d+1:Nat)):Int)) Y (by decide) (by decide:3<6)
  ·rename_i h;cases e;exact⟨_,f,a,fW (m:=.fr) ((cond _ _ _ _).trans (by rw[Za h]))⟩
def C1{S:St}(b:WF S)(h:S.lg.length<=100001){a:Wq}{k:Nat}(i:k<1000000)(e:Kd S k [0] 0=Z a):aD [GO S R]=Z (.fr,nT a):=by
 obtain⟨j,f,d,q⟩:=Gb b h k [0] 0 a (by simp) (λx g=>by rw[Zh.mp g];exact b.pos) e vO (by show k<1000000;exact i) L L;refine gM (U:=[pc (GO S R),L,pc (mT a),pc j,f,d]) Y ?_;exact sq Y (sq Y (sq Y (sq q (sq Y Y))))
def Ki(l:List (Nat×Nat)):T:=.tup (l.map λp=>T.tup [.str [p.1],.int (p.2:Int)])
def qh(r:Row):T:=.tup [.int (r.1:Int),.int (r.2.1:Int),G8 r.2.2.1,Ki r.2.2.2]
theorem vi:∀l:List (Nat×Nat),eQ (l.map λp=>T.tup [.str [p.1],.int (p.2:Int)])=B
 |[]=>rfl
 |p :: l=>by
  rw[Zo];show (B&&eQ _)=B;rw[vi l];rfl
def qC(l:List (Nat×Nat)):GQ (Ki l)=B:=vi l
def Bc(r:Row):GQ (qh r)=B:=by
 show (B&&(B&&(GQ (G8 r.2.2.1)&&(GQ (Ki r.2.2.2)&&B))))=B;rw[k9,qC];rfl
def EK{a b c d:Ex}{U:Env}{x y z w:T}(h:a U=Z (.fr,x))(g:b U=Z (.fr,y))(f:c U=Z (.fr,z))(e:d U=Z (.fr,w)):ka (ab a (ab b (ab c (ab d ag)))) U=Z (.fr,.tup [x,y,z,w]):=by
 show (ab a (ab b (ab c (ab d ag))) U).bind rh=_;rw[xv h (xv g (xv f (xv (r:=ag) e Y))),Zx];show Z (up .fr _)=_;unfold up;split<;>rfl
def Dm{S:St}(d:WF S){a:Wq}(o:∀x,x<S.lg.length->x∈a){n:Nat}(g:n<S.lg.length):bY [GO S R,.int (n:Int),.dct 3 (nE 0 a)]=Z (.fr,qh (row S a n)):=by
 have hw:n<S.wy.length:=by rw[d.wy];exact g
 have z:n<S.lk.length:=by rw[d.lk];exact g
 have nw:=d.NH n;have get:∀v,v<S.lg.length->fD (nE 0 a) (.int (v:Int))=Z (T.int ((a.idxOf v:Nat):Int)):=λv u=>by rw[p7,Zq (o v u),XU]
 have s1:aP 3 (e2 aB (aU 2 (aa 0)) (aa 1)) [pc (GO S R),Q0 (n:Int),pc (.dct 3 (nE 0 a)),L,L,L]=Z (.nx [pc (GO S R),Q0 (n:Int),pc (.dct 3 (nE 0 a)),pc (G8 (S.lk.getD n L)),L,L]):=aT (m:=.fr) (uv (S:=S) (b:=R) (m:=.pu) (n:=.fr) Y Y z) (by decide) (by decide:3<6);have f:aP 4 (e2 aB (aU 3 (aa 0)) (aa 1)) [pc (GO S R),Q0 (n:Int),pc (.dct 3 (nE 0 a)),pc (G8 (S.lk.getD n L)),L,L]=Z (.nx [pc (GO S R),Q0 (n:Int),pc (.dct 3 (nE 0 a)),pc (G8 (S.lk.getD n L)),pc (G6 (S.wy.getD n [])),L]):=aT (m:=.pu) (om (S:=S) (b:=R) (m:=.pu) (n:=.fr) Y Y hw) (by decide) (by decide:4<6);have C:eN ku (ab (du 1 (ba 0) (gj (eN gR (ab (aa 4) ag))) L (ka (ab (aa 0) (ab (e2 pE (aa 3) (e2 IM (aa 5) (aa 0))) ag)))) ag) [pc (GO S R),Q0 (n:Int),pc (.dct 3 (nE 0 a)),pc (G8 (S.lk.getD n L)),pc (G6 (S.wy.getD n [])),L]=Z (.fr,Ki (steps S a n)):=by
  have D:=fY (k:=1) (tg:=ba 0) (it:=gj (eN gR (ab (aa 4) ag))) (elt:=ka (ab (aa 0) (ab (e2 pE (aa 3) (e2 IM (aa 5) (aa 0))) ag))) (m:=.fr) (U:=[pc (GO S R),Q0 (n:Int),pc (.dct 3 (nE 0 a)),pc (G8 (S.lk.getD n L)),pc (G6 (S.wy.getD n [])),L]) (λc=>T.str [c]) (λc=>T.tup [.str [c],.int ((a.idxOf ((gW (S.wy.getD n []) c).getD 0):Nat):Int)]) (sk (S.wy.getD n [])) (by
   show (eN gR (ab (aa 4) ag) _).bind Cz=_;rw[iq (xv (x:=(.pu,G6 (S.wy.getD n []))) Y Y) (yb nw.1 nw.2)];rfl) Y (ZJ (tf _) (by decide)) (λc A=>by
   obtain⟨v,ev⟩:=nq A;refine⟨[Q1 ([c]),pc (GO S R),Q0 (n:Int),pc (.dct 3 (nE 0 a)),pc (G8 (S.lk.getD n L)),pc (G6 (S.wy.getD n [])),L],rfl,?_⟩;have s:e2 pE (aa 3) (e2 IM (aa 5) (aa 0)) [Q1 ([c]),pc (GO S R),Q0 (n:Int),pc (.dct 3 (nE 0 a)),pc (G8 (S.lk.getD n L)),pc (G6 (S.wy.getD n [])),L]=Z (.fr,.int ((a.idxOf v:Nat):Int)) :=
    e2v (x:=(.pu,.dct 3 (nE 0 a))) Y (wm (m:=.pu) (n:=.fr) (c:=c) (w:=S.wy.getD n []) Y Y ev) (by
     show (if B=B then (fD (nE 0 a) (.int (v:Int))).map (sub .pu) else L)=_;rw[Zq Y,get v (d.on n c v ev)];rfl)
   rw[ev,YX];show (ab (aa 0) (ab (e2 pE (aa 3) (e2 IM (aa 5) (aa 0))) ag) _).bind rh=_;rw[xv (x:=(.fr,.str [c])) Y (xv (r:=ag) s Y)];rfl)
  refine iq (xv (r:=ag) D Y) ?_;show (if _<=eO then Z (up .fr (.tup _)) else L)=_;rw[Zq (by rw[Zu];exact ZJ (tf _) (by decide))];have:T.tup ((sk (S.wy.getD n [])).map λc=>T.tup [.str [c],.int ((a.idxOf ((gW (S.wy.getD n []) c).getD 0):Nat):Int)])=Ki (steps S a n):=by
   unfold Ki steps;rw[Z6];rfl
  rw[this];unfold up;rw[qC];rfl
 have e:=aT (i:=5) C (by decide) (by decide:5<6);have p:∀U:Env,U[5]?=Z (pc (Ki (steps S a n)))->aa 5 U=Z (.fr,Ki (steps S a n)):=λU h=>by
  show (match U[5]? with | some (some (.pu t))=>some (up .pu t) | some (some (.ow t))=>some (.bo,t) | _=>none)=_;rw[h];show Z (up .pu _)=_;unfold up;rw[qC];rfl
 unfold row;cases j:S.lk.getD n L with
 |none =>
  rw[j]at s1 f e;refine gM (v:=(.fr,qh (0,0,L,steps S a n))) (U:=[pc (GO S R),Q0 (n:Int),pc (.dct 3 (nE 0 a)),pc (G8 L),pc (G6 (S.wy.getD n [])),pc (Ki (steps S a n))]) Y ?_;refine sq s1 (sq f (sq e (jc (Kl (m:=.fr) Y (gY (EK Y Y Y (p _ Y)))))))
 |some l =>
  rw[j]at s1 f e;have q:=d.up n l j;refine gM (v:=(.fr,qh (S.lg.getD l 0+1,S.lg.getD n 0,Z (a.idxOf l),steps S a n))) (U:=[pc (GO S R),Q0 (n:Int),pc (.dct 3 (nE 0 a)),pc (G8 (Z l)),pc (G6 (S.wy.getD n [])),pc (Ki (steps S a n))]) Y ?_;refine sq s1 (sq f (sq e (sq (fP (m:=.fr) Y Y) (gY (EK ?_ ?_ ?_ (p _ Y))))))
  ·exact e2v (qQ (S:=S) (b:=R) (m:=.pu) (n:=.fr) (i:=l) Y Y q) Y Y
  ·exact qQ (S:=S) (b:=R) (m:=.pu) (n:=.fr) (i:=n) Y Y g
  ·exact e2v (x:=(.pu,.dct 3 (nE 0 a))) (y:=(.fr,.int (l:Int))) Y Y (by
    show (if B=B then (fD (nE 0 a) (.int (l:Int))).map (sub .pu) else L)=_;rw[Zq Y,get l q];rfl)
def Hu(t:List Row):T:=.lst (t.map qh)
def Ed{S:St}(d:WF S)(h:S.lg.length<=100001){a:Wq}{k:Nat}(o:k<1000000)(e:Kd S k [0] 0=Z a)(b:∀x,x∈a↔x<S.lg.length)(l:a.length<=16777216):dC [GO S R]=Z (.fr,Hu (tab S a)):=by
 have f:=C1 d h o e;refine gM (U:=[pc (GO S R),L]) Y ?_;have s1:kT 1 (fA 0 aD (aa 0) ag) [pc (GO S R),L]=Z (.nx [pc (GO S R),oc (nT a)]):=by
  show (fA 0 aD (aa 0) ag [pc (GO S R),L]).bind _=_;have:fA 0 aD (aa 0) ag [pc (GO S R),L]=Z (.fr,nT a):=by
   show ((aD [GO S R]).bind _)=_;rw[f];rfl
  rw[this];rfl
 refine sq s1 ?_;have q:=fY (k:=1) (tg:=ba 0) (it:=rK 1) (elt:=fA 0 bY (aa 1) (ab (aa 0) (ab (aa 2) ag))) (m:=.fr) (U:=[pc (GO S R),pc (.dct 3 (nE 0 a))]) (λ(n:Nat)=>T.int (n:Int)) (λn=>qh (row S a n)) a (by
  show (if ((nE 0 a).all λp=>isInt p.1)=B then Z (Md.fr,(nE 0 a).map (·.1)) else L)=_;rw[Zq,qr];rw[Yt];intro p i;have:p.1∈(nE 0 a).map (·.1):=List.mem_map_of_mem i;rw[qr]at this;obtain⟨n,_,e⟩:=Yg.mp this;rw[← e];rfl) Y l (λn j=>by
  refine⟨[Q0 (n:Int),pc (GO S R),pc (.dct 3 (nE 0 a))],rfl,?_⟩;show ((bY [GO S R,.int (n:Int),.dct 3 (nE 0 a)]).bind _)=_;rw[Dm d (λx g=>(b x).mpr g) ((b n).mp j)];rfl)
 show ((du 1 (ba 0) (rK 1) L (fA 0 bY (aa 1) (ab (aa 0) (ab (aa 2) ag))) [pc (GO S R),pc (.dct 3 (nE 0 a))]).bind _)=_;rw[q];unfold Hu tab;rw[Z6];rfl
def KC(a:List Tx)(b:Wq)(S:St):sH:=[(4,.lst (a.map .str)),(5,.lst (b.map λ(n:Nat)=>T.int (n:Int))),(6,GO S R)]
def G0(a:List Tx)(d:Wq)(S:St)(b:Bool):T:=.obj 2 ((0,.bl b) :: KC a d S)
def Ab(S:St):d8 (GO S R)=B:=by
 show ((B && !(0==0&&R))&&dD (JD S))=B;rw[kA];rfl
def jk(a:List Tx)(b:Wq)(S:St):dD (KC a b S)=B:=by
 have e:d8 (.lst (a.map T.str))=B:=dZ _ (λ_=>rfl) _;have d:d8 (.lst (b.map λ(n:Nat)=>T.int (n:Int)))=B:=dZ _ (λ_=>rfl) _;show ((d8 _ && !(4==0&&LL _))&&((d8 _ && !(5==0&&LL _))&&((d8 _ && !(6==0&&LL _))&&B)))=B;rw[e,d,Ab];rfl
def BC(a:List Tx)(d:Wq)(S:St)(b:Bool):qc 4 (G0 a d S b)=Z (.lst (a.map .str)):=rfl
def GL(d:List Tx)(a:Wq)(S:St)(b:Bool):qc 5 (G0 d a S b)=Z (.lst (a.map λ(n:Nat)=>T.int (n:Int))):=rfl
def GA(a:List Tx)(d:Wq)(S:St)(b:Bool):qc 6 (G0 a d S b)=Z (GO S R):=rfl
section
variable{tx:List Tx}{hd:Wq}{S S':St}{b:Bool}{r:List (Wk)}
def ye{a:Ex}{U:Env}{m:Md}(h:a U=Z (m,G0 tx hd S b)):eN bP (ab (aU 4 a) ag) U=Z (.fr,.int (tx.length:Nat)):=iq (xv (gU h (BC tx hd S b)) Y) (by
 show Z (Md.fr,T.int (((tx.map T.str).length:Nat):Int))=_;rw[Zu])
def DQ{e:Ex}{v:Tx}(h:e (oc (G0 tx hd S b) :: r)=Z (.fr,.str v))(f:tx.length<16777216):sX (iC 0 [.fld 4] aF (ab e ag)) (oc (G0 tx hd S b) :: r)=Z (.nx (oc (G0 (tx++[v]) hd S b) :: r)):=by
 show (((Z [Ky.fld 4]).bind λd=>(ab e ag (oc (G0 tx hd S b) :: r)).bind λa=>(pm (λx=>aF x a) d (G0 tx hd S b)).map _).map _)=_;rw[Zx,xv (r:=ag) h Y,Zx];show (((aF (.lst (tx.map T.str)) [(.fr,.str v)]).map _).map _ |>.map _)=_;rw[eT (by rw[Zu];exact f),show (tx.map T.str)++[.str v]=(tx++[v]).map T.str from by rw[ZF];rfl];rfl
def Dn{e:Ex}{v:Nat}(h:e (oc (G0 tx hd S b) :: r)=Z (.fr,.int (v:Int)))(f:hd.length<16777216):sX (iC 0 [.fld 5] aF (ab e ag)) (oc (G0 tx hd S b) :: r)=Z (.nx (oc (G0 tx (hd++[v]) S b) :: r)):=by
 show (((Z [Ky.fld 5]).bind λd=>(ab e ag (oc (G0 tx hd S b) :: r)).bind λa=>(pm (λx=>aF x a) d (G0 tx hd S b)).map _).map _)=_;rw[Zx,xv (r:=ag) h Y,Zx];show (((aF (.lst (hd.map λ(n:Nat)=>T.int (n:Int))) [(.fr,.int (v:Int))]).map _).map _ |>.map _)=_;rw[eT (by rw[Zu];exact f),show (hd.map λ(n:Nat)=>T.int (n:Int))++[.int (v:Int)]=(hd++[v]).map λ(n:Nat)=>T.int (n:Int) from by rw[ZF];rfl];rfl
def yG(h:tx.length<8)(i:hd.length=tx.length):bu (KC tx hd S) []=Z (KC (tx++[[]]) (hd++[0]) S,.int (tx.length:Int)):=by
 unfold bu IB;rw[Zq ⟨rfl,rfl⟩];have a:e2 Nm (eN bP (ab (aU 4 (aa 0)) ag)) (Q2 8) [oc (G0 tx hd S B)]=Z (.fr,.bl R):=e2v (ye (m:=.bo) Y) Y (by
  show Z (Md.fr,T.bl (decide ((8:Int)<=(tx.length:Int))))=_;rw[Za (by lia)])
 have g:=DQ (tx:=tx) (hd:=hd) (S:=S) (b:=B) (r:=[]) (e:=eC (.str [])) (v:=[]) Y (by lia);have f:=Dn (tx:=tx++[[]]) (hd:=hd) (S:=S) (b:=B) (r:=[]) (e:=Q2 0) (v:=0) Y (by lia);have d:=gY (e:=e2 lB (eN bP (ab (aU 4 (aa 0)) ag)) (Q2 1)) (U:=[oc (G0 (tx++[[]]) (hd++[0]) S B)]) (t:=.int (tx.length:Int)) (e2v (ye (m:=.bo) Y) Y (by
  show Z (Md.fr,T.int ((((tx++[[]]).length:Nat):Int)-1))=_;rw[Zt,ZP,show (((tx.length+1:Nat)):Int)-1=(tx.length:Int) by lia]))
 exact congrArg (λz:Option Out=>z.bind _) (sq (fP a Y) (sq g (sq f d)))
def BU{l:Wh}{i:Nat}(a:i<l.length):bf [.lst l,.int (i:Int)]=Z (.fr,.non):=by
 refine FI (U:=[pc (.lst l),Q0 (i:Int)]) Y ?_;refine fP (m:=.fr) (ym (m:=.fr) (x:=R) ?_ (λ_=>?_) (λh=>by cases h)) rfl
 ·exact xF (m:=.fr) (b:=B) Y
 ·refine xF (m:=.fr) (b:=B) (ql (x:=(.fr,.int 0)) (y:=(.fr,.int (i:Int))) (z:=(.fr,.int (l.length:Int))) Y Y ?_ (iq (xv (x:=(.pu,.lst l)) Y Y) Y) ?_)
  ·show Z (Md.fr,T.bl (decide ((0:Int)<=(i:Int))))=_;rw[decide_eq_true (by lia)]
  ·show Z (Md.fr,T.bl (decide ((i:Int)<(l.length:Int))))=_;rw[decide_eq_true (by lia)]
def vZ{i:Nat}(a:i<tx.length):bf [.lst (tx.map .str),.int (i:Int)]=Z (.fr,.non):=BU (by rw[Zu];exact a)
end
def dU(a:List Tx):Nat:=(a.map List.length).sum
theorem pB:∀a:List Tx,(a.map λt=>(t.length:Int)).sum=(dU a:Int)
 |[]=>rfl
 |t :: a=>by
  rw[Zo,YD,pB a];unfold dU;rw[Zo,YD];lia
def wK(a:List Tx)(b:a.length<=16777216):gg [.lst (a.map .str)]=Z (.fr,.int (dU a:Int)):=by
 refine gM (U:=[pc (.lst (a.map .str))]) Y ?_;refine gY (iq (xv (r:=ag) (fY (m:=.pu) T.str (λ(t:Tx)=>T.int (t.length:Int)) a Y Y b (λt d=>⟨[Q1 t,pc (.lst (a.map .str))],rfl,rfl⟩)) Y) ?_);show (lW (a.map λ(t:Tx)=>T.int (t.length:Int))).bind _=_;rw[ints_map (λ(t:Tx)=>(t.length:Int)),Zx,pB]
section
variable{tx:List Tx}{hd:Wq}{S S':St}{b:Bool}
def CY{i v:Nat}{e ev:Ex}{n:Md}{r:List (Wk)}(g:i<hd.length)(h:e (oc (G0 tx hd S b) :: r)=Z (n,.int (i:Int)))(a:ev (oc (G0 tx hd S b) :: r)=Z (.fr,.int (v:Int))) :
  dE 0 [.fld 5] e ev (oc (G0 tx hd S b) :: r)=Z (.nx (oc (G0 tx (hd.set i v) S b) :: r)):=by
 unfold dE;rw[a,Zx];show ((keys [.fld 5] (oc (G0 tx hd S b) :: r)).bind _)=_;have f:keys [.fld 5] (oc (G0 tx hd S b) :: r)=Z [.fld 5]:=rfl;rw[f,Zx,h,Zx];have d:pm (jF (n,.int (i:Int)) (.fr,.int (v:Int))) [.fld 5] (G0 tx hd S b)=Z (G0 tx (hd.set i v) S b,()):=by
  show ((jF (n,.int (i:Int)) (.fr,.int (v:Int)) (.lst (hd.map λ(n:Nat)=>T.int (n:Int)))).map _)=_;have:jF (n,.int (i:Int)) (.fr,.int (v:Int)) (.lst (hd.map λ(n:Nat)=>T.int (n:Int)))=Z (.lst ((hd.set i v).map λ(n:Nat)=>T.int (n:Int)),()):=by
   show ((HJ (hd.map λ(n:Nat)=>T.int (n:Int)).length (i:Int)).map _)=_;rw[Zu,wG g,XS];rfl
  rw[this];rfl
 rw[d];rfl
def Dg{i:Nat}{v:Tx}{e a:Ex}{n:Md}{r:List (Wk)}(h:i<tx.length)(j:e (oc (G0 tx hd S b) :: r)=Z (n,.int (i:Int)))(d:a (oc (G0 tx hd S b) :: r)=Z (.fr,.str v)) :
  dE 0 [.fld 4] e a (oc (G0 tx hd S b) :: r)=Z (.nx (oc (G0 (tx.set i v) hd S b) :: r)):=by
 unfold dE;rw[d,Zx];show ((keys [.fld 4] (oc (G0 tx hd S b) :: r)).bind _)=_;have g:keys [.fld 4] (oc (G0 tx hd S b) :: r)=Z [.fld 4]:=rfl;rw[g,Zx,j,Zx];have f:pm (jF (n,.int (i:Int)) (.fr,.str v)) [.fld 4] (G0 tx hd S b)=Z (G0 (tx.set i v) hd S b,()):=by
  show ((jF (n,.int (i:Int)) (.fr,.str v) (.lst (tx.map T.str))).map _)=_;have:jF (n,.int (i:Int)) (.fr,.str v) (.lst (tx.map T.str))=Z (.lst ((tx.set i v).map T.str),()):=by
   show ((HJ (tx.map T.str).length (i:Int)).map _)=_;rw[Zu,wG h,XS];rfl
  rw[this];rfl
 rw[f];rfl
def zO{i r:Nat}{w:Tx}(W:WF S)(G:hd.length=tx.length)(a:i<tx.length)(H:tx.length<=8)(F:dU tx+w.length<=120)(q:S.lg.length+2*w.length<=100000)(p:hd.getD i 0<S.lg.length)(s:∀c∈w,97<=c/\c<=122)(E:(tx.getD i []).length<=120)(e:hg S (hd.getD i 0) w=Z (S',r)) :
  bj (KC tx hd S) [.int (i:Int),.str w]=Z (KC (tx.set i (tx.getD i []++w)) (hd.set i r) S',.non):=by
 obtain⟨D,C,A,g⟩:=BJ W q p s e;unfold bj IB;rw[Zq ⟨rfl,rfl⟩];have s1:sX (xP (bB bf (ab (aU 4 (aa 0)) (ab (aa 1) ag)))) [oc (G0 tx hd S B),Q0 (i:Int),Q1 w]=Z (.nx [oc (G0 tx hd S B),Q0 (i:Int),Q1 w]):=by
  have:bB bf (ab (aU 4 (aa 0)) (ab (aa 1) ag)) [oc (G0 tx hd S B),Q0 (i:Int),Q1 w]=Z (.fr,.non):=cV (xv (gU (m:=.bo) (t:=G0 tx hd S B) Y (BC tx hd S B)) (xv (x:=(.fr,.int (i:Int))) Y Y)) (vZ a);show (((bB bf _ _).map _).map _)=_;rw[this];rfl
 have u:e2 Jx (e2 aW (bB gg (ab (aU 4 (aa 0)) ag)) (eN bP (ab (aa 2) ag))) (Q2 120) [oc (G0 tx hd S B),Q0 (i:Int),Q1 w]=Z (.fr,.bl R) :=
  e2v (x:=(.fr,.int ((dU tx:Int)+(w.length:Int)))) (e2v (cV (xv (r:=ag) (gU (m:=.bo) (t:=G0 tx hd S B) Y (BC tx hd S B)) Y) (wK tx (by lia))) (y:=(.fr,.int (w.length:Int))) Y Y) Y (by
   show Z (Md.fr,T.bl (decide ((120:Int)<(dU tx:Int)+(w.length:Int))))=_;rw[Za (by lia)])
 have f:bH 0 [.fld 6] 0 [R,R] aL (ab (e2 aB (aU 5 (aa 0)) (aa 1)) (ab (aa 2) ag)) [oc (G0 tx hd S B),Q0 (i:Int),Q1 w]=Z ((.fr,.int (r:Int)),[oc (G0 tx hd S' B),Q0 (i:Int),Q1 w]):=by
  show ((Z [Ky.fld 6]).bind λo=>(ab (e2 aB (aU 5 (aa 0)) (aa 1)) (ab (aa 2) ag) [oc (G0 tx hd S B),Q0 (i:Int),Q1 w]).bind λd=>(pm (lP 0 [R,R] aL d) o (G0 tx hd S B)).map λz=>(z.2,[oc z.1,Q0 (i:Int),Q1 w]))=_;rw[Zx,xv (x:=(.fr,.int ((hd.getD i 0:Nat):Int))) (e2v (gU (m:=.bo) (t:=G0 tx hd S B) Y (GL tx hd S B)) (y:=(.fr,.int (i:Int))) Y (j7 _ hd i 0 (by lia))) (xv (r:=ag) (x:=(.fr,.str w)) Y Y),Zx];show (((if 1=0+1/\dD (JD S)=B/\argsOk [R,R] [(Md.fr,T.int ((hd.getD i 0:Nat):Int)),(Md.fr,T.str w)]=B/\aZ (trees [(Md.fr,T.int ((hd.getD i 0:Nat):Int)),(Md.fr,T.str w)])=B then (aL (JD S) [.int ((hd.getD i 0:Nat):Int),.str w]).bind λz=>if dD z.1=B/\GQ z.2=B then Z (T.obj 1 ((0,.bl R) :: z.1),(Md.fr,z.2)) else L else L).map _).map _)=_;rw[Zq ⟨rfl,kA S,rfl,rfl⟩,g,Zx,Zq ⟨kA S',rfl⟩];rfl
 have l:iZ 0 [.fld 5] (aa 1) (bH 0 [.fld 6] 0 [R,R] aL (ab (e2 aB (aU 5 (aa 0)) (aa 1)) (ab (aa 2) ag))) [oc (G0 tx hd S B),Q0 (i:Int),Q1 w]=Z (.nx [oc (G0 tx (hd.set i r) S' B),Q0 (i:Int),Q1 w]):=by
  unfold iZ;rw[f];exact CY (tx:=tx) (hd:=hd) (S:=S') (b:=B) (r:=[Q0 (i:Int),Q1 w]) (e:=aa 1) (ev:=λ_=>Z (.fr,.int (r:Int))) (i:=i) (v:=r) (n:=.fr) (by lia) Y Y
 have j:dE 0 [.fld 4] (aa 1) (e2 aW (e2 aB (aU 4 (aa 0)) (aa 1)) (aa 2)) [oc (G0 tx (hd.set i r) S' B),Q0 (i:Int),Q1 w]=Z (.nx [oc (G0 (tx.set i (tx.getD i []++w)) (hd.set i r) S' B),Q0 (i:Int),Q1 w]) :=
  Dg (n:=.fr) a Y (e2v (gU (m:=.bo) (t:=G0 tx (hd.set i r) S' B) Y (BC tx (hd.set i r) S' B) |> λh=>e2v h (y:=(.fr,.int (i:Int))) Y (j7 T.str tx i [] a)) (y:=(.fr,.str w)) Y (iV (by lia)))
 exact congrArg (λz:Option Out=>z.bind _) (sq s1 (sq (fP u Y) (sq l j)))
end
def kE{α:Type}(l:List α)(x d:α):(l++[x]).getD l.length d=x:=(cf l x d l.length).trans (Zq Y)
def uW{α:Type}(l:List α)(x y:α):(l++[x]).set l.length y=l++[y]:=by
 rw[List.set_append_right _ _ (Zj _),Nat.sub_self];rfl
def qU(a b:List Tx):dU (a++b)=dU a+dU b:=by
 unfold dU;rw[ZF,List.sum_append]
def Du:∀(rest:List Tx){tx:List Tx}{hd:Wq}{S S':St}{B:T}{z:Wk},WF S->hd.length=tx.length->tx.length+rest.length<=8->dU tx+dU rest<=120->S.lg.length+2*dU rest<=100000->(∀t∈rest,∀c∈t,97<=c/\c<=122)->mB S rest=Z S' →
  ∃j h,forL (ba 2) bE (rest.map .str) [oc (G0 tx hd S true),pc B,z]=Z (.nx [oc (G0 (tx++rest) j S' true),pc B,h]):=by
 intro rest
 induction rest with
 |nil =>
  intro tx hd S S' B z W a n l m f e;cases (show Z S=Z S' from e);exact⟨hd,z,by rw[ZV];rfl⟩
 |cons t rest s =>
  intro tx hd S S' B z W a n l m f e;obtain⟨⟨d,r⟩,e1,C⟩:=Zz.mp (show (hg S 0 t).bind _=Z S' from e);rw[Zi]at n;have A:dU (t :: rest)=t.length+dU rest:=by unfold dU;rw[Zo,YD]
  rw[A]at l m;have y:hg S ((hd++[0]).getD tx.length 0) t=Z (d,r):=by rw[← a,kE];exact e1
  have o:=BJ W (by lia) W.pos (f t Zv) e1;have g:=zO (tx:=tx++[[]]) (hd:=hd++[0]) (S:=S) (S':=d) (i:=tx.length) (r:=r) (w:=t) W (by rw[Zt,Zt,a];rfl) (by rw[Zt];exact Yv _) (by rw[Zt];show tx.length+1<=8;lia) (by rw[qU];show dU tx+0+t.length<=120;lia) (by lia) (by rw[← a,kE];exact W.pos) (f t Zv) (by rw[kE];exact Ys _) y;rw[kE,uW,YG]at g;have x:(hd++[0]).set tx.length r=hd++[r]:=by rw[← a];exact uW hd 0 r
  rw[x]at g;have b:=yG (tx:=tx) (hd:=hd) (S:=S) (by lia) a;obtain⟨j,h,q⟩:=s (tx:=tx++[t]) (hd:=hd++[r]) (S:=d) (S':=S') (B:=B) (z:=Q1 t) o.1 (by rw[Zt,Zt,a];rfl) (by rw[Zt,ZP];lia) (by rw[qU];show dU tx+(t.length+0)+dU rest<=120;lia) (by have:=o.2.2.1;lia) (λu v=>f u (Zw _ v)) C;refine⟨j,h,?_⟩;rw[Zo];refine(gL (U1:=[oc (G0 tx hd S true),pc B,Q1 t]) Y ?_).trans (q.trans (by rw[ZG];rfl));have p:bH 0 [] 1 [] bu ag [oc (G0 tx hd S true),pc B,Q1 t]=Z ((.fr,.int (tx.length:Int)),[oc (G0 (tx++[[]]) (hd++[0]) S true),pc B,Q1 t]):=by
   show (((if 2=1+1/\dD (KC tx hd S)=true/\argsOk [] []=true/\aZ (trees [])=true then (bu (KC tx hd S) (trees [])).bind λz=>if dD z.1=true/\GQ z.2=true then Z (T.obj 2 ((0,.bl true) :: z.1),(Md.fr,z.2)) else L else L).map _))=_;rw[Zq ⟨rfl,jk tx hd S,rfl,rfl⟩,show trees []=[] from rfl,b,Zx,Zq ⟨jk _ _ _,rfl⟩];rfl
  have x2:oO 0 1 [R,R] bj (bH 0 [] 1 [] bu ag) (ab (aa 2) ag) [oc (G0 tx hd S true),pc B,Q1 t]=Z ((.fr,.non),[oc (G0 (tx++[t]) (hd++[r]) d true),pc B,Q1 t]):=by
   unfold oO;rw[Zq (show DU 1 [oc (G0 tx hd S true),pc B,pc (T.str t)][0]?=true from rfl),p,Zx,Zq (show GQ (T.int (tx.length:Int))=true from rfl)];have ct:lP 1 [R,R] bj [(Md.fr,T.int (tx.length:Int)),(Md.fr,T.str t)] (G0 (tx++[[]]) (hd++[0]) S true)=Z (G0 (tx++[t]) (hd++[r]) d true,(Md.fr,T.non)):=by
    show (if 2=1+1/\dD (KC (tx++[[]]) (hd++[0]) S)=true/\argsOk [R,R] [(Md.fr,T.int (tx.length:Int)),(Md.fr,T.str t)]=true/\aZ (trees [(Md.fr,T.int (tx.length:Int)),(Md.fr,T.str t)])=true then (bj (KC (tx++[[]]) (hd++[0]) S) (trees [(Md.fr,T.int (tx.length:Int)),(Md.fr,T.str t)])).bind λz=>if dD z.1=true/\GQ z.2=true then Z (T.obj 2 ((0,.bl true) :: z.1),(Md.fr,z.2)) else L else L)=_;rw[Zq ⟨rfl,jk _ _ _,rfl,rfl⟩,show trees [(Md.fr,T.int (tx.length:Int)),(Md.fr,T.str t)]=[T.int (tx.length:Int),T.str t] from rfl,g,Zx,Zq ⟨jk _ _ _,rfl⟩];rfl
   show ((lP 1 [R,R] bj [(Md.fr,T.int (tx.length:Int)),(Md.fr,T.str t)] (G0 (tx++[[]]) (hd++[0]) S true)).map _)=_;rw[ct];rfl
  unfold bE NO;rw[x2];rfl
structure Jl(bk:List Tx):Prop where
 JN:bk.length<=8
 sum:dU bk<=120
 az:∀t∈bk,∀c∈t,97<=c/\c<=122
theorem Jl.KQ{t:Tx}:∀{l:List Tx},t∈l->t.length<=dU l
 |a :: l,h=>by
  have e:dU (a :: l)=a.length+dU l:=by unfold dU;rw[Zo,YD]
  rw[e];rcases Zp.mp h with rfl | h
  ·exact Yq _ _
  ·have:=Jl.KQ h;lia
def Jl.len{a:List Tx}(h:Jl a):∀t∈a,t.length<1000:=λt b=>XA (Jl.KQ b) (XA h.sum (by decide))
def bD(a:List Tx):St:=(mB S0 a).getD S0
def dg(a:List Tx):Wq:=(Kd (bD a) 1000 [0] 0).getD []
def tabOf(a:List Tx):List Row:=tab (bD a) (dg a)
theorem Jl.k{a:List Tx}(h:Jl a):mB S0 a=Z (bD a)/\∃nd b,K (Hd a) (bD a) nd b/\b.length<=241/\Kd (bD a) 1000 [0] 0=Z (dg a)/\(∀x,x∈dg a↔x<(bD a).lg.length)/\(dg a).length=b.length/\(dg a).idxOf 0=0:=by
 obtain⟨S,nd,b,e,H,l⟩:=K.of a h.az h.len;have d:bD a=S:=by unfold bD;rw[e];rfl
 rw[d];have f:b.length<=241:=by
  have:=h.sum;unfold dU at this;lia
 obtain⟨m,e2,_,j,g⟩:=H.met (k:=1000) (by lia);have eM:dg a=0 :: m:=by unfold dg;rw[d,e2];rfl
 rw[eM];exact⟨e,nd,b,H,f,e2,λx=>by rw[j,H.i.len],g,List.idxOf_cons_self⟩
def C9{d:List Tx}(h:Jl d):∃hd,aA [] [.lst (d.map .str)]=Z (KC d hd (bD d),.non):=by
 obtain⟨e,_⟩:=h.k;have g:=h.sum;obtain⟨hd,z,q⟩:=Du d (tx:=[]) (hd:=[]) (S:=S0) (S':=bD d) (B:=.lst (d.map .str)) (z:=L) BN Y (by have:=h.JN;simpa using this) (by show 0+dU d<=120;lia) (by show 1+2*dU d<=100000;lia) h.az e;rw[YG]at q;refine⟨hd,?_⟩;unfold aA IB;rw[Zq ⟨rfl,rfl⟩];have f:=(dr (tg:=ba 2) (it:=gj (aa 1)) (body:=bE) (U:=[oc (G0 [] [] S0 true),pc (.lst (d.map .str)),L]) (m:=.pu) (l:=d.map .str) Y Y).trans q;have body:=(qg (a:=iL 0 4 (dm ag)) (b:=ak (iL 0 5 (dm ag)) (ak (iL 0 6 (eNew 0 di ag)) (HH (eK (aa 1)) (fZ (ba 2) (gj (aa 1)) bE) dF))) (U:=[oc (.obj 2 [(0,.bl true)]),pc (.lst (d.map .str)),L]) (U1:=[oc (.obj 2 [(0,.bl true),(4,.lst [])]),pc (.lst (d.map .str)),L]) Y).trans
  (sq (U1:=[oc (.obj 2 [(0,.bl true),(4,.lst []),(5,.lst [])]),pc (.lst (d.map .str)),L]) Y (sq (U1:=[oc (G0 [] [] S0 true),pc (.lst (d.map .str)),L]) Y (Kl (m:=.fr) Y f)))
 exact congrArg (λz:Option Out=>z.bind _) body
def zx{a:List Tx}(h:Jl a):∃hd,aA [] [.lst (a.map .str)]=Z (KC a hd (bD a),.non)/\aY [G0 a hd (bD a) R]=Z (.fr,Hu (tabOf a)):=by
 obtain⟨hd,e⟩:=C9 h;obtain⟨_,nd,g,H,l,e2,f,j,_⟩:=h.k;have hlen:(bD a).lg.length<=100001:=by rw[← H.i.len];lia
 have b:=Ed H.i.wf hlen (k:=1000) (by decide) e2 f (by lia);refine⟨hd,e,gM (U:=[pc (G0 a hd (bD a) R)]) Y (gY ?_)⟩;have d:aU 6 (aa 0) [pc (G0 a hd (bD a) R)]=Z (.pu,GO (bD a) R):=gU (m:=.pu) (t:=G0 a hd (bD a) R) Y (GA a hd (bD a) R);unfold fA;show ((aU 6 (aa 0) [pc (G0 a hd (bD a) R)]).bind _)=_;rw[d];show ((dC [GO (bD a) R]).bind _)=_;rw[b];rfl
def B3(a:List Tx):aZ [T.lst (a.map .str)]=B:=by
 show (aZ (a.map T.str)&&B)=B;rw[dZ _ (λ_=>rfl)];rfl
def Ac{a:List Tx}(h:Jl a){arg:Ex}{U:Env}{m:Md}(f:arg U=Z (m,.lst (a.map .str))):fA 1 aY (eNew 1 aA (ab arg ag)) ag U=Z (.fr,Hu (tabOf a)):=by
 obtain⟨hd,e,b⟩:=zx h;have d:eNew 1 aA (ab arg ag) U=Z (.fr,G0 a hd (bD a) R):=by
  unfold eNew;rw[xv (r:=ag) f Y,Zx,Zq (show aZ (trees [(m,T.lst (a.map .str))])=B from B3 a),show trees [(m,T.lst (a.map .str))]=[T.lst (a.map .str)] from rfl,e,Zx,Zq ⟨jk _ _ _,rfl⟩];rfl
 show ((eNew 1 aA (ab arg ag) U).bind _)=_;rw[d];show ((aY [G0 a hd (bD a) R]).bind _)=_;rw[b];rfl
def zt{a:List Tx}(h:Jl a){x:Xx}{U b:Env}{m:Md}(g:x U=Z ((m,.lst (a.map .str)),b)):nP 1 aY (o8 1 aA x) U=Z ((.fr,Hu (tabOf a)),b):=by
 obtain⟨hd,e,d⟩:=zx h;have f:o8 1 aA x U=Z ((.fr,G0 a hd (bD a) R),b):=by
  unfold o8;rw[g,Zx,Zq (B3 a)];show (aA [] [T.lst (a.map .str)]).bind _=_;rw[e,Zx,Zq ⟨jk _ _ _,rfl⟩];rfl
 unfold nP;rw[f];show (if 2=1+1 then (aY [G0 a hd (bD a) R]).bind _ else L)=_;rw[d];rfl
abbrev Hg(a:List (Nat×Nat)):List (T×T):=a.map λp=>(T.str [p.1],T.int (p.2:Int))
abbrev PN(p:Nat×Nat):T:=.tup [.str [p.1],.int (p.2:Int)]
def FZ(a:List (Nat×Nat)):pN (a.map PN)=Z (Hg a):=by
 induction a with
 |nil=>rfl
 |cons w a b =>
  show (if iG (T.str [w.1])/\GQ (T.int (w.2:Int)) then (pN (a.map PN)).map _ else L)=_;rw[Zq ⟨rfl,rfl⟩,b];rfl
theorem qR:∀(a acc:List (Nat×Nat)),((acc++a).map (·.1)).Nodup->(Hg a).foldl (λd q=>dput d q.1 q.2) (Hg acc)=Hg (acc++a)
 |[],acc,_=>by rw[ZV];rfl
 |w :: a,acc,h=>by
  have g:w.1∉acc.map (·.1):=λz=>by
   rw[ZF,Zo]at h;exact(ZR.mp h).2.2 w.1 z w.1 Zv Y
  have e:dput (Hg acc) (T.str [w.1]) (T.int (w.2:Int))=Hg (acc++[w]):=by
   unfold dput;rw[Zn (by
    simp only[YK,not_exists,not_and];intro p f;obtain⟨q,b,rfl⟩:=Yg.mp f;simp only[eqT,beq_iff_eq,List.cons.injEq,and_true];intro z;exact g (Yg.mpr ⟨q,b,z⟩))]
   simp[Hg]
  show (Hg a).foldl _ (dput (Hg acc) (T.str [w.1]) (T.int (w.2:Int)))=_;rw[e,qR a (acc++[w]) (by rw[ZG];exact h),ZG];rfl
def yz(w:List (Nat×Nat)):(sk w).Nodup:=by
 unfold sk;exact List.Nodup.sublist List.filter_sublist (by decide)
def sW(S:St)(a:Wq)(n:Nat):(steps S a n).map (·.1)=sk (S.wy.getD n []):=by
 unfold steps;rw[Z6];exact List.map_id' _
def Gv{m:Md}(S:St)(a:Wq)(n:Nat):lC [(m,Ki (steps S a n))]=Z (.fr,.dct 0 (Hg (steps S a n))):=by
 show (pN ((steps S a n).map PN)).map _=_;rw[FZ,Option.map_some];have:=qR (steps S a n) [] (by rw[YG,sW];exact yz _);rw[YG]at this;exact congrArg (λz=>Z (Md.fr,T.dct 0 z)) this
def xR(S:St)(b:Wq)(n c:Nat)(f:97<=c/\c<=122):gW (steps S b n) c=(gW (S.wy.getD n []) c).map λm=>b.idxOf m:=by
 have key:∀l:Wq,gW (l.map λc=>(c,b.idxOf ((gW (S.wy.getD n []) c).getD 0))) c=if c∈l then Z (b.idxOf ((gW (S.wy.getD n []) c).getD 0)) else L:=by
  intro l
  induction l with
  |nil=>rfl
  |cons a l d =>
   unfold gW at d ⊢;rw[Zo,Z9];by_cases h:a=c
   ·subst h;simp
   ·have:(a==c)=R:=by simpa using h
    rw[this];show (List.map _ l |>.find? _).map _=_;rw[d];simp[Yi h]
 unfold steps;rw[key];cases hg:gW (S.wy.getD n []) c with
 |none =>
  rw[Zn λz=>by
   obtain⟨m,e⟩:=nq z;rw[hg]at e;cases e]
  rfl
 |some m =>
  rw[Zq (by
   unfold sk;refine Y4.mpr ⟨X7.mpr (by lia),by rw[hg];rfl⟩)]
  rfl
def vY(S:St)(a:Wq)(n:Nat):(row S a n).2.2.2=steps S a n:=by
 unfold row;split<;>rfl
def Pt(a:List Tx)(w:Tx):Prop:=w=[]\/∃t∈a,w <:+: t
def FK{f:List Tx}{w:Tx}:Pt f w ↔ ∃p,Hd f p/\w <:+ p:=by
 constructor
 ·rintro (rfl | ⟨t,d,a,b,rfl⟩)
  ·exact⟨[],.inl Y,ZC _⟩
  ·exact⟨a++w,.inr ⟨_,d,⟨b,rfl⟩⟩,⟨a,rfl⟩⟩
 ·rintro⟨p,rfl | ⟨t,d,g⟩,e⟩
  ·exact .inl (YR.mp e)
  ·exact .inr ⟨t,d,e.isInfix.trans g.isInfix⟩
def ve{a b c:Ex}{U:Env}{m n n':Md}{t:Tx}{k j i:Nat}(g:a U=Z (m,.str t))(f:b U=Z (n,.int (k:Int)))(e:c U=Z (n',.int (i:Int)))(d:i=k+j)(h:i<=t.length):Kc a (Z b) (Z c) U=Z (.fr,.str ((t.drop k).take j)):=by
 unfold Kc o7;dsimp only;rw[g,f,e];show Z (Md.fr,T.str ((t.drop (clip t.length (k:Int))).take (clip t.length (i:Int)-clip t.length (k:Int))))=_;have o:clip t.length (k:Int)=k:=by
  unfold clip;rw[Zn (by lia),Xw,Yb (by lia)]
 have l:clip t.length (i:Int)=i:=by
  unfold clip;rw[Zn (by lia),Xw,Yb h]
 rw[o,l,d,Nat.add_sub_cancel_left]
abbrev IA(l:Wq):T:=.lst (l.map λ(n:Nat)=>T.int (n:Int))
abbrev ix(a:List Tx)(m:Nat):Nat:=(dg a).idxOf m
def JE(S:St):Nat->Nat->Wq
 |0,m=>[m]
 |k+1,m=>m :: match S.lk.getD m L with
  |none=>[]
  |some r=>JE S k r
section
variable{bk:List Tx}{nd:Wd->Option Nat}{wd:List Wd}(H:K (Hd bk) (bD bk) nd wd)(hM:∀x,x∈dg bk↔x<(bD bk).lg.length)(h0:(dg bk).idxOf 0=0)
include hM
theorem Ep{m:Nat}(a:m<(bD bk).lg.length):ix bk m<(tabOf bk).length:=by
 unfold tabOf tab;rw[Zu];exact Xb.mpr ((hM m).mpr a)
theorem t4{m:Nat}(e:m<(bD bk).lg.length){a b:Ex}{U:Env}{n:Md}(g:a U=Z (.pu,Hu (tabOf bk)))(f:b U=Z (n,.int (ix bk m:Int))):e2 aB a b U=Z (.fr,qh (row (bD bk) (dg bk) m)):=by
 refine e2v g f ?_;have d:ix bk m<(dg bk).length:=Xb.mpr ((hM m).mpr e);unfold Hu tabOf tab;rw[Z6,j7 (qh ∘ row (bD bk) (dg bk)) (dg bk) (ix bk m) 0 d,Zs,Zr d];show Z (up .pu (qh (row (bD bk) (dg bk) (dg bk)[ix bk m])))=_;rw[show (dg bk)[ix bk m]=m from List.getElem_idxOf _];unfold up;rw[Bc];rfl
include H
theorem D7{m:Nat}(a:m<wd.length):(row (bD bk) (dg bk) m).2.1=(W wd m).length:=by
 unfold row;rw[← H.i.lg m a];split
 ·rename_i h;by_cases h0:m=0
  ·rw[h0,H.i.lg 0 (by exact Nat.zero_lt_of_lt a),H.i.wz];rfl
  ·obtain⟨r,e,_⟩:=H.i.lk (YV h0) a (by simp);rw[h]at e;cases e
 ·rfl
theorem FH:∀(k m:Nat)(acc:Wq)(F:Nat),m<wd.length->(W wd m).length<=k->k+1<F->acc.length+k<1000000->dY (eK (aa 1)) il F [pc (Hu (tabOf bk)),Q0 (ix bk m:Int),oc (IA acc)]=Z (.nx [pc (Hu (tabOf bk)),pc .non,oc (IA (acc++(JE (bD bk) k m).map (ix bk)))]):=by
 intro k
 induction k using Nat.strongRecOn with
 |ind k ih =>
  intro m acc F hm hk hF ha;obtain⟨F,rfl⟩:∃j,F=j+2:=⟨F-2,by lia⟩
  have HR:m<(bD bk).lg.length:=by rw[← H.i.len];exact hm
  have a1:=qk (i:=2) (U:=[pc (Hu (tabOf bk)),Q0 (ix bk m:Int),oc (IA acc)]) (e:=aa 1) (l:=acc.map λ(n:Nat)=>T.int (n:Int)) Y Y (by rw[Zu];lia);rw[show acc.map (λ(n:Nat)=>T.int (n:Int))++[T.int (ix bk m:Int)]=(acc++[ix bk m]).map λ(n:Nat)=>T.int (n:Int) from by rw[ZF];rfl]at a1;have a2:aP 1 (e2 aB (e2 aB (aa 0) (aa 1)) (Q2 2)) [pc (Hu (tabOf bk)),Q0 (ix bk m:Int),oc (IA (acc++[ix bk m]))]=Z (.nx [pc (Hu (tabOf bk)),pc (G8 (((bD bk).lk.getD m L).map (ix bk))),oc (IA (acc++[ix bk m]))]):=by
   refine aT (m:=.fr) (e2v (t4 hM HR (n:=.fr) Y Y) (y:=(.fr,.int 2)) Y ?_) (by decide) (by show 1<3;decide);show Z (up .fr (G8 (row (bD bk) (dg bk) m).2.2.1))=_;unfold row;split<;>(rename_i e;rw[e];rfl)
  have st:dY (eK (aa 1)) il (F+2) [pc (Hu (tabOf bk)),Q0 (ix bk m:Int),oc (IA acc)]=dY (eK (aa 1)) il (F+1) [pc (Hu (tabOf bk)),pc (G8 (((bD bk).lk.getD m L).map (ix bk))),oc (IA (acc++[ix bk m]))]:=mJ (m:=.fr) Y (sq a1 a2);rw[st];cases hl:(bD bk).lk.getD m L with
  |none =>
   rw[show JE (bD bk) k m=[m] from by cases k with | zero=>rfl | succ k=>rw[JE,hl]];exact fW (m:=.fr) Y
  |some r =>
   have h1:0<m:=YV λz=>by rw[z,H.i.ME]at hl;cases hl
   obtain⟨r',e,⟨g1,_⟩,_,g2,_⟩:=H.i.lk h1 hm (by simp);rw[hl]at e;cases e;obtain⟨k,rfl⟩:∃j,k=j+1:=⟨k-1,by lia⟩
   have:=ih k (Yv _) r (acc++[ix bk m]) (F+1) g1 (by lia) (by exact YZ hF) (by rw[Zt,ZP];lia);rw[show JE (bD bk) (k+1) m=m :: JE (bD bk) k r from by rw[JE,hl]];exact this.trans (by rw[ZG];rfl)
theorem AL{m:Nat}(a:m<wd.length)(b:(W wd m).length<=1000):jq [Hu (tabOf bk),.int (ix bk m:Int)]=Z (.fr,IA ((JE (bD bk) 1000 m).map (ix bk))):=by
 have d:m<(bD bk).lg.length:=by rw[← H.i.len];exact a
 have r1:sX (xP (bB bL (ab (aa 0) (ab (aa 1) ag)))) [pc (Hu (tabOf bk)),Q0 (ix bk m:Int),L]=Z (.nx [pc (Hu (tabOf bk)),Q0 (ix bk m:Int),L]):=by
  show (((bB bL _ _).map _).map _)=_;rw[cV (xv (x:=(.pu,Hu (tabOf bk))) Y (xv (r:=ag) (x:=(.fr,.int (ix bk m:Int))) Y Y)) (show bL [Hu (tabOf bk),.int (ix bk m:Int)]=Z (.fr,.non) from BU (by rw[Zu];exact Ep hM d))];rfl
 exact gM Y (sq r1 (sq (U1:=[pc (Hu (tabOf bk)),Q0 (ix bk m:Int),oc (IA [])]) Y (sq (FH H hM 1000 m [] vO a b (by decide) (by decide)) Y)))
def Ls(a:Wd->Option Nat)(v t:Tx):Prop:=(∃m,a t=Z m)/\t <:+ v/\∀y,y <:+ v->t.length<y.length->a y=L
abbrev ET(d:List Tx)(s:T)(l:Nat)(c:Nat)(b a:Wk):Env:=[pc (Hu (tabOf d)),pc s,Q0 (l:Int),pc (s1 c),b,a]
theorem tl{c:Nat}(hc:97<=c/\c<=122)(s:T){t:Tx}(ht:t.length<=100000):∀(k m:Nat)(u:Tx)(z4 z5:Wk),nd u=Z m->u <:+ t->u.length=min t.length (W wd m).length->(∀y,y <:+ t->u.length<y.length->nd (y++[c])=L)->(W wd m).length<=k →
  (∃u' m' U',forL (ba 4) bX (((JE (bD bk) k m).map (ix bk)).map λ(n:Nat)=>T.int (n:Int)) (ET bk s t.length c z4 z5)=Z (.rt (.fr,.tup [.int (ix bk m':Int),.int ((u'++[c]).length:Int)]) U')/\nd (u'++[c])=Z m'/\u' <:+ t/\∀y,y <:+ t->u'.length<y.length->nd (y++[c])=L) ∨
  ((∀y,y <:+ t->nd (y++[c])=L)/\∃y4 y5,forL (ba 4) bX (((JE (bD bk) k m).map (ix bk)).map λ(n:Nat)=>T.int (n:Int)) (ET bk s t.length c z4 z5)=Z (.nx (ET bk s t.length c y4 y5))):=by
 intro k
 induction k using Nat.strongRecOn with
 |ind k ih =>
  intro m u z4 z5 hu Pk hl hy hk;have hm:=H.i.lt hu;have HR:m<(bD bk).lg.length:=by rw[← H.i.len];exact hm
  have hs:=(xR (bD bk) (dg bk) m c hc).trans (congrArg (Option.map _) (H.i.wy hu c));have b1:aP 5 (eN lC (ab (e2 aB (e2 aB (aa 0) (aa 4)) (Q2 3)) ag)) (ET bk s t.length c (Q0 (ix bk m:Int)) z5)=Z (.nx (ET bk s t.length c (Q0 (ix bk m:Int)) (pc (G6 (steps (bD bk) (dg bk) m))))):=by
   refine aT (m:=.fr) (iq (xv (r:=ag) (x:=(.fr,Ki (steps (bD bk) (dg bk) m))) (e2v (t4 hM HR (n:=.fr) Y Y) (y:=(.fr,.int 3)) Y ?_) Y) (Gv _ _ _)) (by decide) (by show 5<6;decide);rw[← vY];show Z (up .fr (Ki _))=_;unfold up;rw[qC];rfl
  generalize steps (bD bk) (dg bk) m=ws at b1 hs;have ci:e2 lq (aa 3) (aa 5) (ET bk s t.length c (Q0 (ix bk m:Int)) (pc (G6 ws)))=Z (.fr,.bl (nd (u++[c])).isSome):=by
   rw[show (nd (u++[c])).isSome=(gW ws c).isSome from by rw[hs,Ye]];exact FF (m:=.pu) (n:=.fr) Y Y
  cases hn:nd (u++[c]) with
  |some m' =>
   rw[hn]at ci hs;refine .inl ⟨u,m',ET bk s t.length c (Q0 (ix bk m:Int)) (pc (G6 ws)),?_,hn,Pk,hy⟩;have Kx:∃r,JE (bD bk) k m=m :: r:=by cases k with
    |zero=>exact⟨[],rfl⟩
    |succ k=>exact⟨_,rfl⟩
   obtain⟨r,hr⟩:=Kx;rw[hr,Zo,Zo];refine Bw Y (sq b1 (Kl ci (gY ?_)));have mn:e2 aW (eN qV (ab (aa 2) (ab (e2 aB (e2 aB (aa 0) (aa 4)) (Q2 1)) ag))) (Q2 1) (ET bk s t.length c (Q0 (ix bk m:Int)) (pc (G6 ws)))=Z (.fr,.int ((u++[c]).length:Int)):=by
    refine e2v (x:=(.fr,.int (u.length:Int))) (y:=(.fr,.int 1)) (iq (xv (x:=(.fr,.int (t.length:Int))) Y (xv (r:=ag) (x:=(.fr,.int ((W wd m).length:Int))) (e2v (t4 hM HR (n:=.fr) Y Y) (y:=(.fr,.int 1)) Y (by rw[← D7 H hM hm];rfl)) Y)) ?_) Y ?_
    ·show Z (Md.fr,T.int (if ((W wd m).length:Int)<(t.length:Int) then ((W wd m).length:Int) else (t.length:Int)))=_;congr 3;split<;>lia
    ·show Z (Md.fr,T.int ((u.length:Int)+1))=_;rw[Zt];rfl
   show (ab _ _ _).bind rh=_;rw[xv (wm (m:=.pu) (n:=.fr) Y Y hs) (xv (r:=ag) mn Y)];rfl
  |none =>
   rw[hn]at ci;have bo:bX (ET bk s t.length c (Q0 (ix bk m:Int)) z5)=Z (.nx (ET bk s t.length c (Q0 (ix bk m:Int)) (pc (G6 ws)))):=sq b1 (fP ci Y);cases IP:(bD bk).lk.getD m L with
   |none =>
    rw[show JE (bD bk) k m=[m] from by cases k with | zero=>rfl | succ k=>rw[JE,IP]];have m0:m=0:=Nat.eq_zero_of_not_pos λz=>by
     obtain⟨r,e,_⟩:=H.i.lk z hm (by simp);rw[IP]at e;cases e
    have u0:u=[]:=H.i.zero (m0 ▸ hu);refine .inr ⟨λy Np=>?_,_,_,gL Y bo⟩;by_cases h:y=[]
    ·rw[u0]at hn;rw[h];exact hn
    ·exact hy y Np (by rw[u0];exact List.length_pos_iff.mpr h)
   |some r =>
    obtain⟨g1,g2,g3,_⟩:=H.i.low (by simp) IP hu;have h1:0<m:=YV λz=>by rw[z,H.i.ME]at IP;cases IP
    obtain⟨r',e,_,_,g4,g5⟩:=H.i.lk h1 hm (by simp);rw[IP]at e;cases e;obtain⟨k,rfl⟩:∃j,k=j+1:=⟨k-1,by lia⟩
    have hle:=Pk.length_le;rw[show JE (bD bk) (k+1) m=m :: JE (bD bk) k r from by rw[JE,IP],Zo,Zo,show forL (ba 4) bX (T.int (ix bk m:Int) :: _) (ET bk s t.length c z4 z5)=_ from gL Y bo];exact ih k (Yv _) r (W wd r) _ _ (H.i.top g2) ((cn g3 (H.i.sf hu) (by exact Y8 g1)).trans Pk) (by lia) (λy Np Ig=>by
     by_cases h:u.length<y.length
     ·exact hy y Np h
     ·have:nd y=Z m:=g5 y ((cn Np Pk (by exact ZM h)).trans (H.i.sf hu)) Ig;rw[← H.i.wy this c,H.i.wy hu c];exact hn) (by lia)
include h0
theorem Di{c:Nat}(N:97<=c/\c<=122){v t:Tx}{m:Nat}(S:v.length<=1000)(s:nd t=Z m)(j:t <:+ v)(M:∀y,y <:+ v->t.length<y.length->nd y=L)(hw:(W wd m).length<=1000):∃f g,dH [Hu (tabOf bk),.int (ix bk m:Int),.int (t.length:Int),s1 c]=Z (.fr,.tup [.int (ix bk g:Int),.int (f.length:Int)])/\nd f=Z g/\f <:+ v++[c]/\∀y,y <:+ v++[c]->f.length<y.length->nd y=L:=by
 have F:∀D C,fZ (ba 4) (gj (bB jq (ab (aa 0) (ab (aa 1) ag)))) bX (ET bk (.int (ix bk m:Int)) t.length c D C)=_:=λD C=>dr (m:=.fr) (l:=((JE (bD bk) 1000 m).map (ix bk)).map λ(n:Nat)=>T.int (n:Int)) (by
  show (bB jq _ _).bind _=_;rw[cV (xv (x:=(.pu,Hu (tabOf bk))) Y (xv (r:=ag) (x:=(.fr,.int (ix bk m:Int))) Y Y)) (AL H hM (H.i.lt s) hw)];rfl) Y
 have X:=j.length_le;have Km:=(H.i.sf s).length_le;have key:∀a,a <:+ v->(a <:+ t->nd (a++[c])=L)->nd (a++[c])=L:=λa d h=>by
  cases o:nd (a++[c]) with
  |none=>rfl
  |some q =>
   obtain⟨p,E⟩:=H.i.pre o;rw[h (cn d j (ZM λz=>by rw[M a d z]at E;cases E))]at o;cases o
 have ends:∀y,y <:+ v++[c]->y=[]\/∃a,y=a++[c]/\a <:+ v:=λy h=>List.suffix_concat_iff.mp h;rcases tl H hM N (.int (ix bk m:Int)) (t:=t) (by lia) 1000 m t L L s (ZC _) (by lia) (λy Q b=>absurd Q.length_le (by exact Nat.not_le_of_gt b)) hw with⟨u,g,U',e,w,P,O⟩ | ⟨w,J,G,e⟩
 ·refine⟨u++[c],g,gM Y (jc ((F _ _).trans e)),w,by
   obtain⟨p,rfl⟩:=P.trans j;exact⟨p,by rw[ZG]⟩,λy A b=>?_⟩
  rw[Zt,ZP]at b;rcases ends y A with rfl | ⟨a,rfl,d⟩
  ·exact absurd b (XO _)
  ·rw[Zt,ZP]at b;exact key a d λz=>O a z (by exact YZ b)
 ·refine⟨[],0,gM (U:=ET bk (.int (ix bk m:Int)) t.length c J G) Y (sq ((F _ _).trans e) ?_),H.i.z,YH,λy A b=>?_⟩
  ·rw[show ix bk 0=0 from h0];rfl
  ·rcases ends y A with rfl | ⟨a,rfl,d⟩
   ·exact absurd b (XO _)
   ·exact key a d (w a)
abbrev EM(a:List Tx)(W:Tx)(m l:Nat)(d:Wq)(b:Wk):Env:=[pc (Hu (tabOf a)),Q1 W,pc (.tup [.int (ix a m:Int),.int (l:Int)]),oc (IA d),b]
theorem mt{Wo:Tx}(hw:∀m,m<wd.length->(W wd m).length<=1000):∀(r v t:Tx)(m:Nat)(b:Wq)(f:Wk),Az r->v.length+r.length<=1000->b.length+r.length<=100000->nd t=Z m->t <:+ v->(∀y,y <:+ v->t.length<y.length->nd y=L) →
  ∃l d k g,forL (ba 4) kM (r.map s1) (EM bk Wo m t.length b f)=Z (.nx (EM bk Wo d k (b++l) g))/\l.length=r.length/\∀i,i<r.length->∃a,l.getD i 0=a.length/\Ls nd (v++r.take (i+1)) a:=by
 intro r
 induction r with
 |nil=>exact λv t m b f _ _ _ _ _ _=>⟨[],m,t.length,f,by rw[ZV];rfl,rfl,λi h=>absurd h (XO _)⟩
 |cons c r C =>
  intro v t m b f o N P p M G;rw[Zi]at N P;obtain⟨a,d,e,w,s,q⟩:=Di H hM h0 (o c Zv) (by lia) p M G (hw m (H.i.lt p));obtain⟨l,A,k,g,F,E,D⟩:=C (v++[c]) a d (b++[a.length]) (pc (s1 c)) (λx J=>o x (Zw _ J)) (by rw[Zt,ZP];lia) (by rw[Zt,ZP];lia) w s q;have z:aP 2 (bB dH (ab (aa 0) (ab (e2 aB (aa 2) (Q2 0)) (ab (e2 aB (aa 2) (Q2 1)) (ab (aa 4) ag))))) (EM bk Wo m t.length b (pc (s1 c)))=Z (.nx (EM bk Wo d a.length b (pc (s1 c)))):=aT (m:=.fr) (cV (xv (x:=(.pu,Hu (tabOf bk))) Y (xv (x:=(.fr,.int (ix bk m:Int))) Y (xv (x:=(.fr,.int (t.length:Int))) Y (xv (r:=ag) (x:=(.fr,s1 c)) Y Y)))) e) (by decide) (by show 2<5;decide);have j:=qk (i:=3) (U:=EM bk Wo d a.length b (pc (s1 c))) (e:=e2 aB (aa 2) (Q2 1)) (l:=b.map λ(n:Nat)=>T.int (n:Int)) (v:=.int (a.length:Int)) Y Y (by rw[Zu];lia);rw[show b.map (λ(n:Nat)=>T.int (n:Int))++[T.int (a.length:Int)]=(b++[a.length]).map λ(n:Nat)=>T.int (n:Int) from by rw[ZF];rfl]at j;refine⟨a.length :: l,A,k,g,(gL Y (sq z j)).trans (F.trans (by rw[ZG];rfl)),by rw[Zi,Zi,E],λi O=>?_⟩;cases i with
  |zero=>exact⟨a,rfl,⟨d,w⟩,s,q⟩
  |succ i =>
   obtain⟨u,S,Q⟩:=D i (YZ O);exact⟨u,S,by rw[List.take_succ_cons,List.append_cons];exact Q⟩
def Dl(b:Wd->Option Nat)(a:Tx)(l:Wq):Prop:=l.length=a.length+1/\∀i,i<=a.length->∃t,l.getD i 0=t.length/\Ls b (a.take i) t
theorem vG{Wo:Tx}(hw:∀m,m<wd.length->(W wd m).length<=1000)(f:Az Wo)(p:Wo.length<=1000):∃l,cq [Hu (tabOf bk),.str Wo]=Z (.fr,IA l)/\Dl nd Wo l:=by
 obtain⟨l,o,k,n,e,d,b⟩:=mt H hM h0 (Wo:=Wo) hw Wo [] [] 0 [0] L f (by show 0+_<=_;lia) (by show 1+_<=_;lia) H.i.z (ZC _) λy a h=>absurd a.length_le (by show ¬y.length<=0;exact Nat.not_le_of_lt h);have j:EM bk Wo 0 0 [0] L=[pc (Hu (tabOf bk)),Q1 Wo,pc (.tup [.int 0,.int 0]),oc (IA [0]),L]:=by
  show [_,_,pc (.tup [.int (ix bk 0:Int),.int ((0:Nat):Int)]),_,_]=_;rw[show ix bk 0=0 from h0];rfl
 refine⟨0 :: l,gM Y (sq (U1:=[pc (Hu (tabOf bk)),Q1 Wo,pc (.tup [.int 0,.int 0]),L,L]) Y (sq (U1:=EM bk Wo 0 0 [0] L) (by rw[j];rfl) (sq ((dr (m:=.fr) Y Y).trans e) Y))),by rw[Zi,d],λi g=>?_⟩
 ·cases i with
  |zero=>exact⟨[],rfl,⟨0,H.i.z⟩,YH,λy a h=>absurd a.length_le (Nat.not_le_of_lt h)⟩
  |succ i=>exact b i g
end
def B2{a b:Ex}{U:Env}{m n:Md}{t:Tx}{k:Nat}(e:a U=Z (m,.str t))(d:b U=Z (n,.int (k:Int))):Kc a L (Z b) U=Z (.fr,.str (t.take k)):=by
 unfold Kc o7;dsimp only;rw[e,d];show Z (Md.fr,T.str (cut t L (Z (k:Int))))=_;rw[yo]
def tD(x y:Tx):PySem.Txt.contains (sx y) (sx x)=B↔x <:+: y:=by
 refine(PySem.StrLaws.found_iff (sx y) (sx x)).trans ⟨λ⟨i,h,d⟩=>?_,λ⟨a,b,e⟩=>⟨a.length,?_,?_⟩⟩
 ·rw[XX]at d;have:(y.drop i).take x.length=x:=by simpa[sx,PySem.Str.length] using d
  rw[← this];exact((Wv _ _).isInfix).trans (List.drop_suffix _ _).isInfix
 ·show a.length+x.length<=y.length;rw[← e,Zt,Zt];exact Yq _ _
 ·rw[XX];have:(y.drop a.length).take x.length=x:=by rw[← e,ZG,List.drop_left,List.take_left]
  simpa[sx,PySem.Str.length] using this
def xU(a:List Tx):∀k,iB k (a.map .str)=(a.zipIdx k).map λp=>T.tup [.int (p.2:Int),.str p.1]:=by
 induction a with
 |nil=>exact λk=>rfl
 |cons t r b=>exact λk=>by rw[Zo,iB,b,List.zipIdx_cons,Zo]
def AG(w t:Tx):((List.range (t.length+1)).filter λe=>w.isSuffixOf (t.take e)).isEmpty=!PySem.Txt.contains (sx t) (sx w):=by
 rw[YE,List.isEmpty_iff,List.filter_eq_nil_iff,Bool.not_eq_true',Bool.eq_false_iff,ne_eq,tD];constructor
 ·rintro h ⟨a,b,e⟩;refine h (a++w).length (YL.mpr (by rw[← e,Zt (as:=a++w)];lia)) (Xh.mpr ?_);rw[← e,List.take_left];exact List.suffix_append a w
 ·exact λh e _ z=>h ((Xh.mp z).isInfix.trans (Wv _ _).isInfix)
section
variable{bk:List Tx}(h8:bk.length<=8)
include h8
abbrev tP(p:Nat×Nat):T:=.tup [.int (p.1:Int),.int (p.2:Int)]
abbrev EL(f:List Tx)(w:Tx)(e:List (Nat×Nat))(d b a:Wk):Env:=[pc (.lst (f.map .str)),Q1 w,oc (.lst (e.map tP)),d,b,a]
theorem wR(q:∀t∈bk,t.length<=120)(w:Tx):∃ps:List (Nat×Nat),fm [.lst (bk.map .str),.str w]=Z (.fr,.lst (ps.map tP))/\ps.isEmpty=!bk.any λt=>PySem.Txt.contains (sx t) (sx w):=by
 obtain⟨z,f1,a,f,d,b,rfl,_,_,he⟩:=d7 (tg:=oA [ba 3,ba 4]) (body:=lZ) (λ(p:Tx×Nat)=>T.tup [.int (p.2:Int),.str p.1]) (λr U=>∃a f d b,U=EL bk w a f d b/\(∀p∈r,p.1.length<=120)/\a.length+121*r.length<=968/\(!a.isEmpty||r.any λp=>PySem.Txt.contains (sx p.1) (sx w))=bk.any λt=>PySem.Txt.contains (sx t) (sx w)) (by
  rintro⟨t,n⟩ r _ ⟨a,f,d,b,rfl,h,o,he⟩;rw[Zi]at o;have y:t.length<=120:=h (t,n) Zv;have sh:=AG w t;have v:=Xr (λe=>w.isSuffixOf (t.take e)) (List.range (t.length+1));rw[ZI]at v;have u:=kf (k:=1) (tg:=ba 0) (it:=cP (e2 aW (eN bP (ab (aa 4) ag)) (Q2 1))) (c:=eM pb (Kc (aa 5) L (Z (aa 0))) (ab (aa 2) ag)) (elt:=aa 0) (U:=EL bk w a (Q0 (n:Int)) (Q1 t) b) (m:=.fr) (λ(e:Nat)=>T.int (e:Int)) (λe=>w.isSuffixOf (t.take e)) (λe=>T.int (e:Int)) (List.range (t.length+1)) (by
    rw[gx (m:=.fr) (j:=(t.length:Int)+1) Y (by lia),show ((t.length:Int)+1).toNat=t.length+1 by lia,i5]) Y (by rw[ZI];lia) λe _=>⟨_,(.fr,.bl (w.isSuffixOf (t.take e))),rfl,wX (B2 (m:=.fr) (n:=.fr) Y Y) (xv (r:=ag) (x:=(.fr,.str w)) Y Y) Y,rfl,λ_=>rfl⟩
  generalize (List.range (t.length+1)).filter (λe=>w.isSuffixOf (t.take e))=es at *;have s:=fY (k:=1) (tg:=ba 0) (it:=gj (aa 5)) (elt:=ka (ab (aa 4) (ab (aa 0) ag))) (U:=EL bk w a (Q0 (n:Int)) (Q1 t) (pc (.lst (es.map λ(e:Nat)=>T.int (e:Int))))) (m:=.pu) (λ(e:Nat)=>T.int (e:Int)) (λe=>tP (n,e)) es Y Y (by lia) λe _=>⟨_,rfl,rfl⟩
  have ex:sX (kY 2 [] ed (ab (du 1 (ba 0) (gj (aa 5)) L (ka (ab (aa 4) (ab (aa 0) ag)))) ag)) (EL bk w a (Q0 (n:Int)) (Q1 t) (pc (.lst (es.map λ(e:Nat)=>T.int (e:Int)))))=Z (.nx (EL bk w (a++es.map λe=>(n,e)) (Q0 (n:Int)) (Q1 t) (pc (.lst (es.map λ(e:Nat)=>T.int (e:Int)))))):=by
   show (((Z ([]:List Ky)).bind λl=>(ab _ ag _).bind λi=>(pm (λx=>ed x i) l (.lst (a.map tP))).map _).map _)=_;rw[Zx,xv (r:=ag) s Y,Zx];show ((ed (.lst (a.map tP)) [(.fr,.lst (es.map λe=>tP (n,e)))]).map _ |>.map _)=_;rw[ug (by rw[Zu,Zu];lia),show a.map tP++es.map (λe=>tP (n,e))=(a++es.map λe=>(n,e)).map tP from by rw[ZF,Z6];rfl];rfl
  refine⟨_,_,rfl,sq (aT (m:=.fr) u (by decide) (by show 5<6;decide)) ex,_,_,_,_,rfl,λp g=>h p (Zw _ g),by rw[Zt,Zu];lia,?_⟩;rw[← he,Yf];have:PySem.Txt.contains (sx t) (sx w)=!es.isEmpty:=by rw[sh,Bool.not_not]
  show _=(!a.isEmpty||(PySem.Txt.contains (sx t) (sx w)||_));rw[this];cases a<;>cases es<;>rfl) (bk.zipIdx 0) (EL bk w [] L L L) ⟨[],_,_,_,rfl,λp g=>q _ (List.fst_mem_of_mem_zipIdx g),by rw[List.length_zipIdx];show 0+_<=_;lia,by
   show (R||_)=_;rw[Bool.false_or,show (λp:Tx×Nat=>PySem.Txt.contains (sx p.1) (sx w))=(λt=>PySem.Txt.contains (sx t) (sx w)) ∘ Prod.fst from rfl,← List.any_map,List.zipIdx_map_fst]⟩
 refine⟨a,gM Y (sq (U1:=EL bk w [] L L L) Y (sq ((dr (m:=.pu) ?_ Y).trans f1) Y)),?_⟩
 ·show Z (Md.pu,iB 0 (bk.map .str))=_;rw[xU]
 ·rw[← he];show _=!(!a.isEmpty||R);cases a<;>rfl
end
def Lp(P:Tx->Prop)(v t:Tx):Prop:=P t/\t <:+ v/\∀y,y <:+ v->t.length<y.length->¬P y
def Dp(P:Tx->Prop)(W:Tx)(l:Wq):Prop:=l.length=W.length+1/\∀i,i<=W.length->∃t,l.getD i 0=t.length/\Lp P (W.take i) t
def Lp.le{P Q:Tx->Prop}(a:∀u,P u->Q u){v t u:Tx}(h:Lp P v t)(g:Lp Q v u):t.length<=u.length:=ZM λz=>g.2.2 t h.2.1 z (a t h.1)
theorem Dp.le{P Q:Tx->Prop}(j:∀u,P u->Q u){W:Tx}{l k:Wq}(h:Dp P W l)(g:Dp Q W k){i:Nat}(d:i<=W.length):l.getD i 0<=k.getD i 0:=by
 obtain⟨t,e,a⟩:=h.2 i d;obtain⟨u,f,b⟩:=g.2 i d;rw[e,f];exact a.le j b
def Dp.same{P:Tx->Prop}{W:Tx}{l k:Wq}(h:Dp P W l)(g:Dp P W k):l=k:=by
 refine List.ext_getElem (by rw[h.1,g.1]) λi f e=>?_;have d:i<=W.length:=by have:=h.1;lia
 have a:=h.le (λ_ z=>z) g d;have b:=g.le (λ_ z=>z) h d;simp only[Zs,Zr f,Zr e,YX]at a b;exact Nat.le_antisymm a b
theorem Dp.take{P:Tx->Prop}{W:Tx}{l:Wq}(h:Dp P W l){c:Nat}(f:c<=W.length):Dp P (W.take c) (l.take (c+1)):=by
 have d:(W.take c).length=c:=by rw[Ym];exact Yb f
 refine⟨by rw[Ym,h.1,d];lia,λi b=>?_⟩;rw[d]at b;obtain⟨t,e,a⟩:=h.2 i (by exact ZJ b f);refine⟨t,?_,by rw[List.take_take,Yb b];exact a⟩;rw[← e,Zs,Zs,List.getElem?_take,Zq (by exact Nat.lt_succ_of_le b)]
def Dp.all{P:Tx->Prop}{W:Tx}{l:Wq}(h:Dp P W l)(f:∀i,i<=W.length->P (W.take i)):l=List.range (W.length+1):=by
 refine List.ext_getElem (by rw[h.1,ZI]) λi g j=>?_;have d:i<=W.length:=by have:=h.1;lia
 obtain⟨t,e,a⟩:=h.2 i d;have b:(W.take i).length<=t.length:=ZM λz=>a.2.2 _ (ZC _) z (f i d);have c:=a.2.1.length_le;rw[Ym]at b c;rw[Zs,Zr g,YX]at e;rw[List.getElem_range,e];lia
def kc{d:List Tx}(h:Jl d){W:Tx}(j:Az W)(o:W.length<=1000):∃l,cq [Hu (tabOf d),.str W]=Z (.fr,IA l)/\Dp (Pt d) W l:=by
 obtain⟨_,nd,x,H,_,_,u,A,v⟩:=h.k;have f:∀w,(nd w).isSome=B↔Pt d w:=λw=>by rw[FK,← H.some,Yj]
 obtain⟨l,s,g⟩:=vG H u v (Wo:=W) (λm n=>by
  rcases (f _).mp (by rw[H.i.top n];rfl) with z | ⟨t,ht,z⟩
  ·rw[z];exact Ys _
  ·have:=z.length_le;have:=Jl.KQ ht;have:=h.sum;lia) j o
 refine⟨l,s,g.1,λi p=>?_⟩;obtain⟨t,e,⟨m,a⟩,b,c⟩:=g.2 i p;exact⟨t,e,(f t).mp (by rw[a];rfl),b,λy r q z=>by rw[← f,c y r q]at z;cases z⟩
def CC{b:List Tx}(h:Jl b){u:Tx}(d:u≠[]):∃ps:List (Nat×Nat),fm [.lst (b.map .str),.str u]=Z (.fr,.lst (ps.map tP))/\(ps=[] ↔ ¬Pt b u):=by
 obtain⟨ps,e,f⟩:=wR h.JN (λt a=>ZJ (Jl.KQ a) h.sum) u;refine⟨ps,e,?_⟩;rw[← List.isEmpty_iff,f,Bool.not_eq_true',Bool.eq_false_iff,ne_eq,YK];refine not_congr ⟨?_,?_⟩
 ·rintro⟨t,a,z⟩;exact .inr ⟨t,a,(tD u t).mp z⟩
 ·rintro (z | ⟨t,a,z⟩)
  ·exact absurd z d
  ·exact⟨t,a,(tD u t).mpr z⟩
def rq{j:Nat}{x:Xx}{U a:Env}{m:Md}{t:T}(h:x U=Z ((m,t),a))(b:j<a.length):n0 j x U=Z (.nx (a.set j (Z (.pu t)))):=by
 unfold n0;rw[h,Zx,Zq b]
def BR{d e:Nat}{b:Sx}{a:Wh}{v:Val}(f:a.length=d)(h:∃U,b (a.map (λt=>Z (.pu t))++List.replicate (e-d) L)=Z (.rt v U)):fn d e b a=Z v:=by
 obtain⟨U,h⟩:=h;exact gM f h
def fB{a b:Sx}{U U1:Env}{v:Val}(h:a U=Z (.nx U1))(q:∃z,b U1=Z (.rt v z)):∃z,ak a b U=Z (.rt v z):=by
 obtain⟨z,q⟩:=q;exact⟨z,sq h q⟩
def Sq{a:Wp}{j k:Nat}{n:Int}{U:Env}(e:cy [.scr a,.int k]=Z (.fr,.lst [.int n]))(d:U[0]?=Z (pc (.scr a)))(b:j<U.length):kT j (bB cy (ab (aa 0) (ab (Q2 k) ag))) U=Z (.nx (U.set j (oc (.lst [.int n])))):=by
 show (bB cy _ _).bind _=_;rw[cV (xv (x:=(.fr,.scr a)) (by unfold aa;rw[d];rfl) (xv (r:=ag) (x:=(.fr,.int (k:Int))) Y Y)) e,Zx];exact Zq b
def FM{c:Ex}{x:Xx}{U b:Env}{m:Md}{a:List Tx}{t:Tx}(g:c U=Z (m,.lst (a.map .str)))(e:m ≠ .bo)(f:x U=Z ((.fr,.str t),b))(h:a.length<1000):uQ c (sS x) U=Z ((.fr,.lst ((a++[t]).map .str)),b):=by
 have d:sS x U=Z ([.str t],b):=by unfold sS;rw[f];rfl
 unfold uQ;rw[g,Zx,ZF];cases m with
 |bo=>exact absurd Y e
 |fr =>
  show (sS x U).bind _=_;rw[d];exact Zq ⟨iQ T.str (λ_=>rfl) a,by rw[Zu];show a.length+1<=16777216;lia⟩
 |pu =>
  show (sS x U).bind _=_;rw[d];exact Zq ⟨iQ T.str (λ_=>rfl) a,by rw[Zu];show a.length+1<=16777216;lia⟩
def DL{a:List Tx}{u:Tx}{c:Nat}(h:Pt a (u++[c])):Pt a u:=by
 rcases h with z | ⟨t,b,z⟩
 ·exact absurd z (by simp)
 ·exact .inr ⟨t,b,(List.prefix_append u [c]).isInfix.trans z⟩
def lF(l:Wq):HL 60 (IA l)=B:=by
 show (l.map λ(n:Nat)=>T.int (n:Int)).all (HL 59)=B;rw[Wz];exact Yt.mpr λ_ _=>rfl
def DO(a:List (Nat×Nat)):HL 60 (.lst (a.map tP))=B:=by
 show (a.map tP).all (HL 59)=B;rw[Wz];exact Yt.mpr λ_ _=>rfl
def yk{U:Env}{a b:Ex}{m n:Md}{l:Wq}{i:Nat}(e:a U=Z (m,IA l))(d:b U=Z (n,.int (i:Int)))(h:i<l.length):e2 aB a b U=Z (.fr,.int (l.getD i 0:Int)):=e2v e d ((j7 (λ(n:Nat)=>T.int (n:Int)) l i 0 h).trans Y)
def u7{U:Env}{a b:Ex}{m n:Md}{i j k:Nat}(e:a U=Z (m,.int (i:Int)))(d:b U=Z (n,.int (j:Int)))(h:i=k+j):e2 lB a b U=Z (.fr,.int (k:Int)):=e2v e d (by
 show Z (Md.fr,T.int ((i:Int)-(j:Int)))=_;rw[show (i:Int)-(j:Int)=(k:Int) by lia])
def FO{a b:Ex}{U:Env}{m n:Md}{l:Wq}{k:Nat}(e:a U=Z (m,IA l))(d:b U=Z (n,.int (k:Int)))(g:l.length<=100000):Kc a L (Z b) U=Z (.fr,IA (l.take k)):=by
 unfold Kc o7;dsimp only;rw[e,d];show JR m ((l.map λ(n:Nat)=>T.int (n:Int)).drop 0 |>.take (clip (l.map λ(n:Nat)=>T.int (n:Int)).length (k:Int)-0))=_;have f:clip (l.map λ(n:Nat)=>T.int (n:Int)).length (k:Int)=min k l.length:=by
  unfold clip;rw[Zn (by lia),Xw,Zu]
 rw[f,List.drop_zero,Nat.sub_zero,← List.map_take,← List.take_eq_take_min,ub (by rw[Zu,Ym];lia),Zq (iQ _ (λ_=>rfl) _)]
def tu{a b:Ex}{U:Env}{m n:Md}{i j:Int}(e:a U=Z (m,.int i))(d:b U=Z (n,.int j))(h:(-4611686018427387904<=i/\i<4611686018427387904)/\-4611686018427387904<=j/\j<4611686018427387904):js a b U=Z (.fr,rng i (j-i).toNat):=by
 simp only[js,e,d,Zx,int?];exact Zq h
abbrev ER(a:List Tx)(W:Tx)(c:Nat)(l:Wq)(d b:Wk):Env:=[pc (.lst (a.map .str)),pc (Hu (tabOf a)),Q1 W,Q0 (c:Int),pc (IA l),d,b]
section
variable{bk:List Tx}(h:Jl bk){W:Tx}{c:Nat}{l:Wq}
include h
theorem EF{U:Env}{a b:Ex}{u:Tx}(g:a U=Z (.pu,.lst (bk.map .str)))(f:b U=Z (.fr,.str u))(d:u≠[]):(Pt bk u->e2 oEq (bB fm (ab a (ab b ag))) (dm ag) U=Z (.fr,.bl R))/\(¬Pt bk u->e2 JM (bB fm (ab a (ab b ag))) (dm ag) U=Z (.fr,.bl R)):=by
 obtain⟨ps,e,he⟩:=CC h d;have e1:=cV (xv g (xv (r:=ag) f Y)) e;refine⟨λz=>e2v e1 (y:=(.fr,.lst [])) Y (lM (DO ps) Y ?_),λz=>e2v e1 (y:=(.fr,.lst [])) Y ?_⟩
 ·cases ps with
  |nil=>exact absurd z (he.mp Y)
  |cons p r=>rfl
 ·cases he.mpr z;rfl
theorem Do(d:Dp (Pt bk) W l){e:Nat}(M:1<=e)(f:e<=W.length)(w:Wk):∃A,gk (ER bk W c l (Q0 (e:Int)) w)=Z (.nx (ER bk W c l (Q0 (e:Int)) A)):=by
 have dl:=d.1;obtain⟨t,F,r,g,H⟩:=d.2 e f;obtain⟨u,E,O,N,G⟩:=d.2 (e-1) (by lia);have tl:=g.length_le;have wl:(W.take e).length=e:=by rw[Ym];exact Yb f
 rw[wl]at tl;have le:t.length<=u.length+1:=by
  have D:W.take e=W.take (e-1)++[W[e-1]]:=by
   obtain⟨k,rfl⟩:∃k,e=k+1:=⟨e-1,by lia⟩
   rw[List.take_succ_eq_append_getElem (by exact Nat.lt_of_succ_le f)];rfl
  rw[D]at g;rcases List.suffix_concat_iff.mp g with z | ⟨y,z,q⟩
  ·rw[z];exact Ys _
  ·rw[z]at r ⊢;rw[Zt,ZP];exact YM (ZM λz=>G y q z (DL r))
 have v:∀k,k<=e->(W.drop (e-k)).take k=(W.take e).drop (e-k):=λk J=>by rw[List.drop_take,show e-(e-k)=k by lia]
 have C:(W.drop (e-t.length)).take t.length=t:=by
  rw[v _ tl];have:=List.suffix_iff_eq_drop.mp g;rw[wl]at this;exact this.symm
 refine⟨Q0 (t.length:Int),sq (aT (m:=.fr) (t:=.int (t.length:Int)) (by rw[← F];exact yk (m:=.pu) (n:=.fr) (i:=e) Y Y (by lia)) (by decide) (by show 6<7;decide)) ?_⟩;refine sq (fP (m:=.fr) (NY (m:=.fr) (n:=.fr) (x:=R) (y:=R) (e2v (x:=(.fr,.int (t.length:Int))) (y:=(.fr,.int 0)) Y Y ?_) (NY (m:=.fr) (n:=.fr) (x:=R) (y:=R) (e2v (x:=(.fr,.int (t.length:Int))) (y:=(.fr,.int ((u.length:Int)+1))) Y (e2v (y:=(.fr,.int 1)) (yk (m:=.pu) (n:=.fr) (i:=e-1) Y (u7 (m:=.fr) (n:=.fr) (i:=e) (j:=1) Y Y (by lia)) (by lia)) Y (by rw[E];rfl)) ?_) (e2v (x:=(.fr,.int (t.length:Int))) (y:=(.fr,.int (e:Int))) Y Y ?_))) Y) (sq (fP (m:=.fr) (pL (m:=.fr) (x:=decide ((0:Int)<(t.length:Int))) (e2v (x:=(.fr,.int (t.length:Int))) (y:=(.fr,.int 0)) Y Y Y) (λz=>?_) λ_=>rfl) Y) (fP (m:=.fr) (pL (m:=.fr) (x:=decide ((t.length:Int)<(e:Int))) (e2v (x:=(.fr,.int (t.length:Int))) (y:=(.fr,.int (e:Int))) Y Y Y) (λz=>?_) λ_=>rfl) Y))
 ·exact congrArg (λb=>Z (Md.fr,T.bl b)) (Za (by lia))
 ·exact congrArg (λb=>Z (Md.fr,T.bl b)) (Za (by lia))
 ·exact congrArg (λb=>Z (Md.fr,T.bl b)) (Za (by lia))
 ·refine(EF h (u:=t) Y ?_ λo=>?_).1 r
  ·have:=ve (U:=ER bk W c l (Q0 (e:Int)) (Q0 (t.length:Int))) (a:=aa 2) (b:=e2 lB (aa 5) (aa 6)) (c:=aa 5) (m:=.fr) (n:=.fr) (n':=.fr) (t:=W) (k:=e-t.length) (j:=t.length) (i:=e) Y (u7 (m:=.fr) (n:=.fr) (i:=e) (j:=t.length) Y Y (by lia)) Y (by lia) f;rw[C]at this;exact this
  ·rw[o]at z;exact absurd (of_decide_eq_true z) (by simp)
 ·have z:=of_decide_eq_true z;have q:=v (t.length+1) (by lia);have p:((W.take e).drop (e-(t.length+1))).length=t.length+1:=by rw[YW,wl];lia
  have s:=List.drop_suffix (e-(t.length+1)) (W.take e);rw[← q]at p s;refine(EF h (u:=(W.drop (e-(t.length+1))).take (t.length+1)) Y ?_ λo=>by rw[o]at p;cases p).2 (H _ s (by lia));exact ve (m:=.fr) (n:=.fr) (n':=.fr) (k:=e-(t.length+1)) (j:=t.length+1) (i:=e) Y (u7 (m:=.fr) (n:=.fr) (i:=e-t.length) (j:=1) (u7 (m:=.fr) (n:=.fr) (i:=e) (j:=t.length) Y Y (by lia)) Y (by lia)) Y (by lia) f
theorem AB(o:Az W)(s:W.length<=1000)(u:c<=W.length):gF [.lst (bk.map .str),Hu (tabOf bk),.str W,.int (c:Int)]=Z (.fr,.bl B):=by
 obtain⟨l,e1,d⟩:=kc h o s;obtain⟨E,C,A⟩:=kc h (W:=W.take c) (λx g=>o x (List.mem_of_mem_take g)) (by rw[Ym];lia);cases A.same (d.take u);have dl:=d.1;obtain⟨t,z,_,b,_⟩:=d.2 0 (Ys _);have q:l.getD 0 0=0:=by
  have:=b.length_le;rw[List.take_zero]at this;exact z.trans (Nat.le_zero.mp this)
 obtain⟨F,f1,f,a,rfl,_⟩:=d7 (tg:=ba 5) (body:=gk) (λ(k:Nat)=>T.int (k:Int)) (λr U=>∃f a,U=ER bk W c l f a/\∀e∈r,1<=e/\e<=W.length) (by
  rintro e r _ ⟨f,a,rfl,p⟩;obtain⟨w,v⟩:=p e Zv;obtain⟨D,e⟩:=Do h (c:=c) d w v a;exact⟨_,_,rfl,e,_,_,rfl,λx g=>p x (Zw _ g)⟩) (List.range' 1 W.length) (ER bk W c l L L) ⟨_,_,rfl,λe he=>by
   have:=X7.mp he;lia⟩
 refine BR Y (fB (aT (m:=.fr) (cV (xv (x:=(.pu,Hu (tabOf bk))) Y (xv (r:=ag) (x:=(.fr,.str W)) Y Y)) e1) (by decide) (by show 4<7;decide)) (fB (U1:=ER bk W c l L L) (fP (m:=.fr) (NY (m:=.fr) (n:=.fr) (x:=R) (y:=R) (e2v (x:=(.fr,.int (l.length:Int))) (y:=(.fr,.int ((W.length:Int)+1))) (iq (xv (r:=ag) (x:=(.pu,IA l)) Y Y) (by show Z (Md.fr,T.int (((l.map _).length:Nat):Int))=_;rw[Zu])) Y (qF (r:=B) Y Y ?_)) (NY (m:=.fr) (n:=.fr) (x:=R) (y:=R) (e2v (y:=(.fr,.int 0)) (yk (m:=.pu) (n:=.fr) (i:=0) Y Y (by lia)) Y (qF (r:=B) Y Y (by rw[q];rfl))) (e2v (cV (xv (x:=(.pu,Hu (tabOf bk))) Y (xv (r:=ag) (B2 (m:=.fr) (n:=.fr) (k:=c) Y Y) Y)) C) (FO (m:=.pu) (n:=.fr) (k:=c+1) Y Y (by lia)) (qF (r:=B) (lF _) (lF _) (ny 60 _ (lF _)))))) Y) (fB ((dr (m:=.fr) ?_ Y).trans f1) ⟨_,rfl⟩)))
 ·rw[dl];simp[eqT]
 ·show (js _ _ _)=_;rw[tu (m:=.fr) (i:=1) (n:=.fr) (j:=(l.length:Int)) Y (iq (xv (r:=ag) (x:=(.pu,IA l)) Y Y) (by show Z (Md.fr,T.int (((l.map _).length:Nat):Int))=_;rw[Zu])) (by lia),show ((l.length:Int)-1).toNat=W.length by lia];unfold rng;rw[List.range'_eq_map_range,Z6];rfl
end
theorem zip_map:∀(l k:Wq),ni (l.map λ(n:Nat)=>T.int (n:Int)) (k.map λ(n:Nat)=>T.int (n:Int))=(l.zip k).map tP
 |[],_=>rfl
 |_ :: _,[]=>rfl
 |a :: l,b :: k=>by
  show T.tup [.int (a:Int),.int (b:Int)] :: ni (l.map _) (k.map _)=_;rw[zip_map l k];rfl
def Ea{P Q:Tx->Prop}(d:∀u,P u->Q u){W:Tx}{l k:Wq}(h:Dp P W l)(g:Dp Q W k):(l.zip k).filter (λp=>decide ((p.2:Int)<(p.1:Int)))=[]:=by
 refine List.filter_eq_nil_iff.mpr λp a z=>?_;obtain⟨i,b,e⟩:=List.getElem_of_mem a;have:=h.1;rw[Z7]at b;have le:=h.le d g (i:=i) (by lia);simp only[Zs]at le;rw[Zr (by lia),Zr (by lia)]at le;rw[List.getElem_zip]at e;subst e;have:=of_decide_eq_true z;simp only[YX]at le;omega
def EH{m:Md}(k:Nat)(h:k<=1000000):mG [(m,.int (k:Int))]=Z (.fr,IA (List.range k)):=by
 show (if 0<=(k:Int)/\(k:Int)<=16777216 then Z (Md.fr,T.lst ((List.range (k:Int).toNat).map λi:Nat=>T.int (i:Int))) else L)=_;rw[Zq (by lia),Xw]
def y9{a:Hf}{x:Xx}{g:Fn}{U b:Env}{l:Wj}{t v:T}{m:Md}(j:a U=Z l)(h:zo l=B)(i:x U=Z ((.fr,t),b))(e:GQ t=B)(f:g (trees l++[t])=Z (m,v))(d:GQ v=B):pU a x g U=Z ((.fr,v),b):=by
 unfold pU;rw[j,Zx,i,Zx,Zq ⟨h,e⟩];show (g (trees l++[t])).bind _=_;rw[f,Zx,Zq d]
abbrev EY(a:Wp)(l j i h g f e d b:Wk):Env:=[pc (.scr a),l,j,i,h,g,f,e,d,b]
abbrev EZ(b:Wp)(n:Int)(L:Tx)(a:List Tx)(h g f e d:Wk):Env:=EY b (pc (.lst [.int n])) (Q1 L) (pc (.lst (a.map .str))) (pc (Hu (tabOf a))) h g f e d
def yI(a:Wp)(Mf:a.length<=63):yK [.scr a]=Z (.fr,.bl B):=by
 obtain⟨n,e1⟩:=qH a Mf 0 (by decide);obtain⟨N,L,Iw,Q,UX,P⟩:=Ap n;have S:0<L.length/\L.length<=26/\Az L:=⟨Q,UX,P⟩
 obtain⟨g,bk,e3,b8,bs,H⟩:=Dv S N;have h:Jl bk:=⟨b8,bs,H⟩
 have M:∀t∈bk,t.length<=120:=λt C=>ZJ (Jl.KQ C) bs;obtain⟨m,e5⟩:=qH a Mf 1 (by decide);have q2:=dP (j:=2) (cx (i:=1) (un:=R) (k:=0) (r:=[]) (l:=[]) (U:=EY a (oc (.lst [.int n])) none none none none none none none none) Y Y Y Y Y Y Iw) Y (by show 2<10;decide);have q3:=rq (j:=3) (cx (i:=1) (un:=R) (k:=0) (r:=[.px (xI (aa 2))]) (l:=[.str L]) (U:=EY a (oc (.lst [.int N])) (Q1 L) none none none none none none none) Y (lS (t:=.str L) (bQ (m:=.fr) Y Y) Y Y) Y Y Y Y e3) (by show 3<10;decide);obtain⟨U',f1,f,rfl,_⟩:=d7 (tg:=ba 6) (body:=sA) T.str (λr U=>∃f,U=EZ a g L bk (oc (.lst [.int m])) f none none none/\∀w∈r,w∈bk) (by
  rintro w r _ ⟨f,rfl,s⟩;have hw:=s w Zv;obtain⟨l,e,d⟩:=kc h (H w hw) (by have:=M w hw;lia);cases d.all λi _=>.inr ⟨w,hw,(Wv i w).isInfix⟩;have hl:=M w hw;refine⟨_,_,rfl,fP (m:=.fr) (e2v (cV (xv (x:=(.pu,Hu (tabOf bk))) Y (xv (r:=ag) (x:=(.fr,.str w)) Y Y)) e) (y:=(.fr,IA (List.range (w.length+1)))) (iq (xv (r:=ag) (x:=(.fr,.int ((w.length+1:Nat):Int))) Y Y) (EH _ (by lia))) (qF (r:=B) (lF _) (lF _) (ny 60 _ (lF _)))) Y,_,rfl,λu o=>s u (Zw _ o)⟩) bk (EZ a g L bk (oc (.lst [.int m])) none none none none) ⟨none,rfl,λw h=>h⟩
 have Ue:∀(r:Wp)(m:Int),∃(A:Int)(b:List Tx),gP (fI [(.io 6 R),(.ex (aa 4)),(.ex (aa 3))] eZ) r (EZ a g L bk (oc (.lst [.int m])) f none none none)=Z (b.map .str,EZ a g L bk (oc (.lst [.int A])) f none none none)/\∀w∈b,Az w/\w.length<=1000:=by
  intro r
  induction r with
  |nil=>exact λm=>⟨m,[],rfl,λ_ h=>nomatch h⟩
  |cons i r ih =>
   intro m;obtain⟨m1,w,e,E,D⟩:=Dt S (λt C=>⟨M t C,H t C⟩) b8 m;obtain⟨A,b,e',g4⟩:=ih m1;refine⟨A,w :: b,m9 (ci (i:=6) (un:=R) (k:=0) (r:=[.ex (aa 4),.ex (aa 3)]) (l:=[.lst (bk.map .str),.str L]) (U:=Q0 i :: EZ a g L bk (oc (.lst [.int m])) f none none none) Y Y Y (λ_=>rfl) Y Y (by
    show (aZ (bk.map T.str)&&B)=B;rw[dZ _ (λ_=>rfl)];rfl) e) Y e',λu o=>?_⟩
   rcases Zp.mp o with rfl | o
   ·exact⟨E,D⟩
   ·exact g4 u o
 obtain⟨A,b,e7,hw⟩:=Ue (Lm 0 2) m;have q6:=Bd (j:=7) (m:=.fr) (x:=Bu (j8 (xI (Q2 2)) (fI [(.io 6 R),(.ex (aa 4)),(.ex (aa 3))] eZ))) (t:=.lst (b.map .str)) (U:=EZ a g L bk (oc (.lst [.int m])) f none none none) (by
  show (j8 _ _ _).map _=_;rw[um (bQ (m:=.fr) (t:=.int 2) Y Y) (by decide) e7];rfl) (by show 7<10;decide)
 obtain⟨U',f2,G,q,rfl,_⟩:=d7 (tg:=ba 8) (body:=sr) T.str (λr U=>∃m q,U=EZ a g L bk (oc (.lst [.int m])) f (pc (.lst (b.map .str))) q none/\∀w∈r,w∈b) (by
  rintro w r _ ⟨m,q,rfl,s⟩;obtain⟨E,D⟩:=hw w (s w Zv);obtain⟨d,O,d0,d1,e⟩:=nx (i:=5) (un:=R) (m:=(w.length:Int)+1) (n:=m) (x:=xI (e2 aW (eN bP (ab (aa 8) ag)) (Q2 1))) (U:=EZ a g L bk (oc (.lst [.int m])) f (pc (.lst (b.map .str))) (Q1 w) none) (by lia) Y (bQ (m:=.fr) Y Y) Y;obtain⟨c,rfl⟩:∃c:Nat,d=(c:Int):=⟨d.toNat,by lia⟩
  refine⟨_,_,rfl,(sv (U1:=EZ a g L bk (oc (.lst [.int O])) f (pc (.lst (b.map .str))) (Q1 w) none) ?_).trans Y,O,_,rfl,λu o=>s u (Zw _ o)⟩;exact congrArg (Option.map _) (Ca (y9 (xv (x:=(.pu,.lst (bk.map .str))) Y (xv (x:=(.pu,Hu (tabOf bk))) Y (xv (r:=ag) (x:=(.fr,.str w)) Y Y))) Y e Y (AB h E D (by lia)) Y))) b (EZ a g L bk (oc (.lst [.int A])) f (pc (.lst (b.map .str))) none none) ⟨A,none,rfl,λw h=>h⟩
 have J:eN wA (ab (du 1 (ba 0) (gj (aa 3)) none (eN bP (ab (aa 0) ag))) ag) (EZ a g L bk (oc (.lst [.int G])) f (pc (.lst (b.map .str))) q none)=Z (.fr,.int ((bk.map λt=>(t.length:Int)).sum)):=iq (xv (r:=ag) (fY (k:=1) (tg:=ba 0) (m:=.pu) T.str (λt=>T.int (t.length:Int)) bk Y Y (by lia) λt _=>⟨_,rfl,rfl⟩) Y) (by
  show (lW _).bind _=_;rw[ints_map (λ(t:Tx)=>(t.length:Int)) bk];rfl)
 rw[pB bk]at J;refine BR Y (fB (Sq (k:=0) e1 Y (by show 1<10;decide)) (fB q2 (fB q3 (fB (U1:=EY a (pc (.lst [.int g])) (Q1 L) (pc (.lst (bk.map .str))) none none none none none none) Y (fB (aT (m:=.fr) (Ac h (m:=.pu) Y) (by decide) (by show 4<10;decide)) (fB (Sq (k:=1) e5 Y (by show 5<10;decide)) (fB ((dr (m:=.pu) Y Y).trans f1) (fB q6 (fB (U1:=EZ a g L bk (oc (.lst [.int A])) f (pc (.lst (b.map .str))) none none) Y (fB ((dr (m:=.pu) Y Y).trans f2) ?_))))))))));by_cases hb:bk.length=8\/108<dU bk
 ·refine⟨_,jc (Kl (m:=.fr) (ym (m:=.fr) (x:=decide (bk.length=8)) (v:=(.fr,.bl B)) (e2v (x:=(.fr,.int (bk.length:Int))) (y:=(.fr,.int 8)) (iq (xv (r:=ag) (x:=(.pu,.lst (bk.map .str))) Y Y) (by show Z (Md.fr,T.int (((bk.map T.str).length:Nat):Int))=_;rw[Zu])) Y (lM Y Y ?_)) (λz=>e2v J (y:=(.fr,.int 108)) Y ?_) λ_=>rfl) Y)⟩
  ·show ((bk.length:Int)==8)=_;rw[YE,beq_iff_eq,decide_eq_true_iff];lia
  ·have:=of_decide_eq_false z;show Z (Md.fr,T.bl (decide ((108:Int)<(dU bk:Int))))=_;rw[decide_eq_true (by lia)]
 ·obtain⟨h1,h2⟩:=not_or.mp hb;obtain⟨F,t,e8,C,hz⟩:=tY L 12 G Q (by lia) (by decide) (by decide);have X:Jl (bk++[t]):=⟨by rw[Zt,ZP];lia,by
   unfold dU at h2 ⊢;rw[ZF,List.sum_append];have:t.length<=12:=C;simp only[Zo,X8,YD,List.sum_nil];lia,λu o=>by
   rcases Zd.mp o with o | o
   ·exact H u o
   ·cases Zh.mp o;exact λc hc=>P c (hz c hc)⟩
  have q9:=rq (j:=9) (zt X (FM (c:=aa 3) (U:=EZ a g L bk (oc (.lst [.int G])) f (pc (.lst (b.map .str))) q none) (m:=.pu) Y (by decide) (cx (i:=5) (un:=R) (k:=0) (r:=[.px (xI (aa 2)),.px (xI (Q2 12))]) (l:=[.str L,.int 12]) Y (lS (t:=.str L) (bQ (m:=.fr) Y Y) Y (lS (t:=.int 12) (bQ (m:=.fr) Y Y) Y Y)) Y Y Y Y e8) (by omega))) (by show 9<10;decide);obtain⟨U',f3,z8',rfl,_⟩:=d7 (tg:=ba 8) (body:=rL) T.str (λr U=>∃q,U=EZ a g L bk (pc (.lst [.int F])) f (pc (.lst (b.map .str))) q (pc (Hu (tabOf (bk++[t]))))/\∀w∈r,w∈b) (by
   rintro w r _ ⟨q,rfl,s⟩;obtain⟨E,D⟩:=hw w (s w Zv);obtain⟨l,el,dl⟩:=kc h E D;obtain⟨k,ek,dk⟩:=kc X E D;have c1:=kf (k:=2) (tg:=oA [ba 0,ba 1]) (it:=A0 (bB cq (ab (aa 4) (ab (aa 8) ag))) (bB cq (ab (aa 9) (ab (aa 8) ag)))) (c:=e2 Jx (aa 0) (aa 1)) (elt:=Q2 1) (U:=EZ a g L bk (pc (.lst [.int F])) f (pc (.lst (b.map .str))) (Q1 w) (pc (Hu (tabOf (bk++[t]))))) (m:=.fr) tP (λp=>decide ((p.2:Int)<(p.1:Int))) (λ_=>T.int 1) (l.zip k) (by
    unfold A0;rw[cV (xv (x:=(.pu,Hu (tabOf bk))) Y (xv (r:=ag) (x:=(.fr,.str w)) Y Y)) el,Zx,cV (xv (x:=(.pu,Hu (tabOf (bk++[t])))) Y (xv (r:=ag) (x:=(.fr,.str w)) Y Y)) ek];show Z (Md.fr,ni _ _)=_;rw[zip_map]) Y (by have:=dl.1;rw[Z7];lia) λp _=>⟨_,(.fr,.bl (decide ((p.2:Int)<(p.1:Int)))),rfl,e2v (x:=(.fr,.int (p.1:Int))) (y:=(.fr,.int (p.2:Int))) Y Y Y,rfl,λ_=>rfl⟩
   rw[Ea (λu o=>o.imp id λ⟨x,hx,z⟩=>⟨x,ZD _ hx,z⟩) dl dk]at c1;exact⟨_,_,rfl,fP (m:=.fr) (e2v c1 (y:=(.fr,.lst [])) Y Y) Y,_,rfl,λu o=>s u (Zw _ o)⟩) b (EZ a g L bk (pc (.lst [.int F])) f (pc (.lst (b.map .str))) q (pc (Hu (tabOf (bk++[t]))))) ⟨q,rfl,λw h=>h⟩
  refine fB (U1:=EZ a g L bk (oc (.lst [.int G])) f (pc (.lst (b.map .str))) q none) (fP (m:=.fr) (NY (m:=.fr) (n:=.fr) (x:=R) (y:=R) (e2v (x:=(.fr,.int (bk.length:Int))) (y:=(.fr,.int 8)) (iq (xv (r:=ag) (x:=(.pu,.lst (bk.map .str))) Y Y) (by show Z (Md.fr,T.int (((bk.map T.str).length:Nat):Int))=_;rw[Zu])) Y (lM Y Y ?_)) (e2v J (y:=(.fr,.int 108)) Y ?_)) Y) (fB q9 (fB (U1:=EZ a g L bk (pc (.lst [.int F])) f (pc (.lst (b.map .str))) q (pc (Hu (tabOf (bk++[t]))))) Y (fB ((dr (m:=.pu) Y Y).trans f3) ⟨_,rfl⟩)))
  ·show ((bk.length:Int)==8)=R;rw[ZK];lia
  ·show Z (Md.fr,T.bl (decide ((108:Int)<(dU bk:Int))))=_;rw[Za (by lia)]
end T43
end
section
namespace T43
open PySem PySem.Spec PyProof.Rows L2 VS
def qv{G:Gx}{X:Cx}{x:Str}{p:Pos}(i:Nat)(a:X.N[i]?=Z x:=by exact rfl)(b:IG X.env.scope x:=by exact Or.inl Y)(c:K3 x:=by rfl)(d:K4 x:=by rfl):PV G X (.Name x p) (aa i):=bG i a b c d
def Q3{α:Sort _}{x:α}{b:Prop}:x=x∨b:=.inl Y
abbrev Q4:List Str:=["_law_book_here", "_law_table", "_law_word_here", "_law_cut"]
abbrev Q5:List Str:=["_law_k", "_law_spring_here", "_law_letters", "_law_few", "_law_start", "_law_step"]
abbrev Q6:List Str:=["_law_k", "_law_spring_here", "_law_signs_here", "_law_most"]
abbrev Q7:List Str:=["_law_one", "_law_other", "_law_script", "_law_spring_here", "_law_signs_here", "_law_book_here", "_law_table", "_law_more", "_law_text_here", "_law_asked", "_law_word_here", "_law_fresh"]
abbrev Q8:List Str:=["_law_script", "_law_k"]
abbrev Q9:List Str:=["_law_spring_here", "_law_book_here", "_law_signs_here"]
abbrev Qa:List Str:=["_law_spring_here", "_law_most"]
abbrev Qb:List Str:=["_law_spring_here", "_law_signs_here", "_law_most"]
abbrev Qc:List Str:=["_law_spring_here", "_law_signs_here"]
abbrev Qd:List Str:=["_law_spring_here"]
abbrev Qe:List Str:=["_law_text_here", "_law_script", "_law_spring_here", "_law_signs_here", "_law_book_here", "_law_table", "_law_more", "-7", "_law_asked", "_law_word_here", "_law_fresh"]
abbrev Qf:List Str:=["_law_turn", "_law_script", "_law_spring_here", "_law_signs_here", "_law_book_here", "_law_table", "_law_more", "_law_text_here", "_law_asked", "_law_word_here", "_law_fresh"]
abbrev Qg:List Str:=["book", "number"]
abbrev Qh:List Str:=["end", "book", "word", "found", "number", "text", "ends"]
abbrev Qi:List Str:=["self", "head", "sign"]
abbrev Qj:List Str:=["self", "head", "word"]
abbrev Qk:List Str:=["self", "long", "link", "ways"]
abbrev Ql:List Str:=["self", "node", "numbers"]
abbrev Qm:List Str:=["self", "node", "sign"]
abbrev Qn:List Str:=["self", "text", "word"]
abbrev Qo:List Str:=["self"]
abbrev Qp:List Str:=["sign", "self", "node", "numbers", "link", "ways", "steps"]
abbrev Qq:List Str:=["table", "stand", "long", "sign"]
abbrev Qr:List Str:=["table", "stand"]
abbrev Qs:List Str:=["table", "word"]
def top(i:Nat):Stmt:=PySem.Challenge.pw_allparts_k43_matches_along_links.main.body.getD i (.Pass ⟨0,0,0,0⟩)
structure HV(mg:Xg):Prop where
 Nb:mg "bool" = none
 Lh:mg "dict" = none
 JG:mg "enumerate" = none
 OR:mg "int" = none
 HZ:mg "isinstance" = none
 GX:mg "len" = none
 Lg:mg "list" = none
 OQ:mg "min" = none
 Hh:mg "range" = none
 JF:mg "sorted" = none
 Mn:mg "sum" = none
 LW:mg "tuple" = none
 OP:mg "zip" = none
 Jk:∃t,mg "MOST_SIGNS" = some (.int 120 t)
 Jj:∃t,mg "MOST_TEXTS" = some (.int 8 t)
abbrev L8:List Str:=["  ", "longs", "links", "ways", "texts", "heads", "nodes"]
abbrev gX(K:Xk)(C D:KM):Gx:=Lq L8 K C D
def gJ{K:Xk}{C D:KM}{m:Me}:jV ((Lq L8 K C D).at m):=AO (by decide +kernel) (by decide +kernel)
structure HE(K:Xk)(mg:Xg)(C D:KM):Prop where
 GR:Ie K C
 KW:mg "Nodes" = some (.ref C)
 Ho:aR K C "longs"
 Hq:aR K C "links"
 Hy:aR K C "ways"
 Hm:aR K C "texts"
 Hr:aR K C "heads"
 Hn:aR K C "nodes"
 GP:Ie K D
 JS:mg "Machine" = some (.ref D)
 Hb:aR K D "longs"
 Hc:aR K D "links"
 Hi:aR K D "ways"
 G9:aR K D "texts"
 He:aR K D "heads"
 Ha:aR K D "nodes"
def fz{K:Xk}{a:Xg}{C D:KM}{m:Me}(O:HE K a C D):HQ ((Lq L8 K C D).at m) K 1 "longs" := vQ Y O.GR O.GP O.Ho O.Hb
def fu{K:Xk}{a:Xg}{C D:KM}{m:Me}(O:HE K a C D):HQ ((Lq L8 K C D).at m) K 2 "links" := vQ Y O.GR O.GP O.Hq O.Hc
def eI{K:Xk}{a:Xg}{C D:KM}{m:Me}(O:HE K a C D):HQ ((Lq L8 K C D).at m) K 3 "ways" := vQ Y O.GR O.GP O.Hy O.Hi
def eD{K:Xk}{a:Xg}{C D:KM}{m:Me}(O:HE K a C D):HQ ((Lq L8 K C D).at m) K 4 "texts" := vQ Y O.GR O.GP O.Hm O.G9
def j4{K:Xk}{a:Xg}{C D:KM}{m:Me}(O:HE K a C D):HQ ((Lq L8 K C D).at m) K 5 "heads" := vQ Y O.GR O.GP O.Hr O.He
def mW{K:Xk}{a:Xg}{C D:KM}{m:Me}(O:HE K a C D):HQ ((Lq L8 K C D).at m) K 6 "nodes" := vQ Y O.GR O.GP O.Hn O.Ha
section
variable(P:Re)(w:UF)(base:SZ){K:Xk}{mg:Xg}{C D:KM}
abbrev eX:Stmt:=inClass (top 20) 1
def kP:jj Qk Qk (aj eX):=by constructor<;>first | rfl | decide +kernel
def aI{f:KM}{d:P3}(F:G2 K "new_node" "Nodes.new_node" eX f d)(a:Meth K C "new_node" f)(B:HV mg)(O:HE K mg C D) :
  MtAt P w K mg base 1 (gX K C D) 0 "new_node" Qk [R,R,true] aE:=lr F a O.GR (gA (by decide +kernel) (by decide +kernel)) kP Y Y (λ_ _ _ _ _ _ e b=>by obtain⟨_,_,_,_,rfl⟩:=L2.Cs b;rfl) λ_ _ _ _ _ _ _ g =>
  (af (pG gJ (fH 1 (fz O) (bI 0)) (ae (qv 1) ai))
  (af (pG gJ (fH 2 (fu O) (bI 0)) (ae (qv 2) ai))
  (af (As gJ (fH 3 (eI O) (bI 0)) Y Y Q3 Y Y Y Y Y Y Y Y)
  (aq (bp (g8 lE lJ (cY B.GX (ae (w_fld gJ (fz O) (qv 0)) ai)) ah))))))
abbrev eV:Stmt:=inClass (top 20) 0
def kN:jj Qo Qo (aj eV):=by constructor<;>first | rfl | decide +kernel
def cM{f:KM}{e:P3}(F:G2 K "__init__" "Nodes.__init__" eV f e)(b:Mk K C f)(B:HV mg)(O:HE K mg C D)(g:MtAt P w K mg base 1 (gX K C D) 0 "new_node" Qk [R,R,true] aE) :
  InAt P w K mg base 2 (gX K C D) 0 0 "Nodes" Qo di:=DT F b O.KW kN Y Y (λ_ _ _ _ _ _ h d=>by obtain⟨_,rfl⟩:=L2.ou d;rfl) λ_ _ _ _ _ _ _ a =>
  (af (lA 0 1 gJ (fz O) (cI ai))
  (af (lA 0 2 gJ (fu O) (cI ai))
  (af (lA 0 3 gJ (eI O) (cI ai))
  (aq (qY (ij gJ g.at a (by decide) (bI 0) (ae ah (ae zy (ae xi ai)))) Y)))))
abbrev cE:Stmt:=inClass (top 20) 4
def aV:jj ["self", "node", "sign", "old", "long", "half"] Qm (aj cE):=by constructor<;>first | rfl | decide +kernel
def aO{f:KM}{e:P3}(F:G2 K "node_just_behind" "Nodes.node_just_behind" cE f e)(b:Meth K C "node_just_behind" f)(B:HV mg)(O:HE K mg C D)(g:MtAt P w K mg base 1 (gX K C D) 0 "new_node" Qk [R,R,true] aE) :
  MtAt P w K mg base 2 (gX K C D) 0 "node_just_behind" Qm [R,R] av:=lr F b O.GR (gA (by decide +kernel) (by decide +kernel)) aV Y Y (λ_ _ _ _ _ _ h d=>by obtain⟨_,_,_,rfl⟩:=L2.rz d;rfl) λ_ _ _ _ _ _ _ a =>
  (af (aH (wD a (bC (w_fld gJ (eI O) (qv 0)) (qv 1) (λ_ _=>rfl)) (qv 2) (λ_ _=>rfl)) aV.nd Y Q3)
  (af (aH (w_add (bC (w_fld gJ (fz O) (qv 0)) (qv 1) (λ_ _=>rfl)) ah) aV.nd Y Q3)
  (af (b7 (oM a (bC (w_fld gJ (fz O) (qv 0)) (qv 3) (λ_ _=>rfl)) (qv 4)) (aq (df 3 Y (Or.inl Y) Y Y)) bg)
  (af (cu (ij gJ g.at a (by decide) (bI 0) (ae (qv 4) (ae (bC (w_fld gJ (fu O) (qv 0)) (qv 3) (λ_ _=>rfl)) (ae (zV B.Lh (ae (bC (w_fld gJ (eI O) (qv 0)) (qv 3) (λ_ _=>rfl)) ai) Y Y) ai)))) aV.nd Y Q3)
  (af (iX gJ a (fH 2 (fu O) (bI 0)) (qv 3) (qv 5))
  (af (jr Z1 (JW.LG (mH (j3 (qv 1)) (j0 (oM a (w_get a (bC (w_fld gJ (eI O) (qv 0)) (qv 1) (λ_ _=>rfl)) (qv 2) Y Y Y Y) (qv 3)))))
  (af (iX gJ a (BM a (fH 3 (eI O) (bI 0)) (qv 1) (λ_ _=>rfl) Y) (qv 2) (qv 5))
  (aq (aH (bC (w_fld gJ (fu O) (qv 0)) (qv 1) (λ_ _=>rfl)) aV.nd Y Q3))))
  (aq (df 5 Y (Or.inl Y) Y Y))))))))
abbrev dw:Stmt:=inClass (top 20) 3
def cB:jj ["self", "head", "sign", "fresh", "node"] Qi (aj dw):=by constructor<;>first | rfl | decide +kernel
def bT{f:KM}{g:P3}(F:G2 K "head_behind" "Nodes.head_behind" dw f g)(d:Meth K C "head_behind" f)(B:HV mg)(O:HE K mg C D)(h:MtAt P w K mg base 1 (gX K C D) 0 "new_node" Qk [R,R,true] aE)(b:MtAt P w K mg base 2 (gX K C D) 0 "node_just_behind" Qm [R,R] av) :
  MtAt P w K mg base 3 (gX K C D) 0 "head_behind" Qi [R,R] bS:=lr F d O.GR (gA (by decide +kernel) (by decide +kernel)) cB Y Y (λ_ _ _ _ _ _ i e=>by obtain⟨_,_,_,rfl⟩:=L2.rz e;rfl) λ_ _ _ _ _ _ _ a =>
  (af (b7 (B0 a (qv 2) (bC (w_fld gJ (eI O) (qv 0)) (qv 1) (λ_ _=>rfl)) (by with_unfolding_all rfl) Y) (aq (uz (ij gJ b.at a (by decide) (bI 0) (ae (qv 1) (ae (qv 2) ai))))) bg)
  (af (cu (ij gJ h.at a (by decide) (bI 0) (ae (w_add (bC (w_fld gJ (fz O) (qv 0)) (qv 1) (λ_ _=>rfl)) ah) (ae ah (ae xi ai)))) cB.nd Y Q3)
  (af (aH (qv 1) cB.nd Y Q3)
  (af (jr Z1 (JW.LG (mH (j3 (qv 4)) (j0 (zp a (qv 2) (bC (w_fld gJ (eI O) (qv 0)) (qv 4) (λ_ _=>rfl)) (by with_unfolding_all rfl) Y))))
  (af (iX gJ a (BM a (fH 3 (eI O) (bI 0)) (qv 4) (λ_ _=>rfl) Y) (qv 2) (qv 3))
  (aq (aH (bC (w_fld gJ (fu O) (qv 0)) (qv 4) (λ_ _=>rfl)) cB.nd Y Q3))))
  (af (b7 (j3 (qv 4)) (aq (pJ gJ a (fH 2 (fu O) (bI 0)) (qv 3) (ij gJ b.at a (by decide) (bI 0) (ae (qv 4) (ae (qv 2) ai))) (λ_=>rfl) Y Y Y)) bg)
  (aq (df 3 Y (Or.inl Y) Y Y)))))))
abbrev dX:Stmt:=inClass (top 20) 2
def dy:jj ["self", "head", "word", "sign"] Qj (aj dX):=by constructor<;>first | rfl | decide +kernel
def b9{f:KM}{e:P3}(F:G2 K "head_grown" "Nodes.head_grown" dX f e)(b:Meth K C "head_grown" f)(B:HV mg)(O:HE K mg C D)(g:MtAt P w K mg base 3 (gX K C D) 0 "head_behind" Qi [R,R] bS) :
  MtAt P w K mg base 4 (gX K C D) 0 "head_grown" Qj [R,R] aL:=lr F b O.GR (gA (by decide +kernel) (by decide +kernel)) dy Y Y (λ_ _ _ _ _ _ h d=>by obtain⟨_,_,_,rfl⟩:=L2.rz d;rfl) λ_ _ _ _ _ _ _ a =>
  (af (dR Z1 Y (dS (qv 2)) (aS 3 dy.nd Y Q3 Q3)
  (aq (cu (ij gJ g.at a (by decide) (bI 0) (ae (qv 1) (ae (qv 3) ai))) dy.nd Y Q3)))
  (aq (df 1 Y (Or.inl Y) Y Y)))
abbrev cL:Stmt:=inClass (top 20) 6
def aG:jj ["self", "numbers", "met", "done", "ways", "sign"] Qo (aj cL):=by constructor<;>first | rfl | decide +kernel
def bc{m:Me}{f:KM}{e:P3}(F:G2 K "numbers_by_node" "Nodes.numbers_by_node" cL f e)(b:Meth K C "numbers_by_node" f)(B:HV mg)(O:HE K mg C D) :
  MpAt P w K mg base 1 ((gX K C D).at m) 0 "numbers_by_node" Qo aD:=m6 F b O.GR (gA (by decide +kernel) (by decide +kernel)) aG Y Y (λ_ _ _ _ _ _ g d=>by obtain⟨_,rfl⟩:=L2.ou d;rfl) λ_ _ _ _ _ _ a =>
  (af (fQ CV aG.nd Y Q3)
  (af (fQ (cI (ae ah ai)) aG.nd Y Q3)
  (af (aH ah aG.nd Y Q3)
  (af (jr Z1 (uu (qv 3) (cY B.GX (ae (qv 2) ai)))
  (af (aH (bC (w_fld gJ (eI O) (qv 0)) (bC (qv 2) (qv 3) (λ_ _=>rfl)) (λ_ _=>rfl)) aG.nd Y Q3)
  (af (dR Z1 Y (dS (uN B.JF (ae (qv 4) ai))) (aS 5 aG.nd Y Q3 Q3)
  (aq (b7 (zp a (wD a (qv 4) (qv 5) (λ_ _=>rfl)) (qv 1) (by with_unfolding_all rfl) Y) (af (DM 1 a (wD a (qv 4) (qv 5) (λ_ _=>rfl)) (cY B.GX (ae (qv 2) ai)) Y Q3 Y Y (λ_=>rfl) Y Y Y)
  (aq (ki 2 (ae (wD a (qv 4) (qv 5) (λ_ _=>rfl)) ai) Y Y Q3 Y Y))) bg)))
  (aq (aH (w_add (qv 3) ah) aG.nd Y Q3)))))
  (mM 2 (aq (df 1 Y (Or.inl Y) Y Y)))))))
abbrev gw:Stmt:=inClass (top 20) 7
def dN:jj ["self", "node", "numbers", "link", "ways", "steps"] Ql (aj gw):=by constructor<;>first | rfl | decide +kernel
def dh{m:Me}{f:KM}{e:P3}(F:G2 K "row_of" "Nodes.row_of" gw f e)(b:Meth K C "row_of" f)(B:HV mg)(O:HE K mg C D) :
  MpAt P w K mg base 1 ((gX K C D).at m) 0 "row_of" Ql bY:=m6 F b O.GR (gA (by decide +kernel) (by decide +kernel)) dN Y Y (λ_ _ _ _ _ _ g d=>by obtain⟨_,_,_,rfl⟩:=L2.rz d;rfl) λ_ _ _ _ _ _ a =>
  (af (aH (bC (w_fld gJ (fu O) (qv 0)) (qv 1) (λ_ _=>rfl)) dN.nd Y Q3)
  (af (aH (bC (w_fld gJ (eI O) (qv 0)) (qv 1) (λ_ _=>rfl)) dN.nd Y (Or.inr Y))
  (af (aH (Bf B.LW (ae (kB 1 Qp Y (dS (uN B.JF (ae (bG 4 Y (Or.inr Q3) Y Y) ai))) (fT) (λ_ _ _ _ _=>(aS 0 (show List.Nodup Qp from by decide +kernel) Y Q3 (Or.inr Y))) (λ_ _ _ _ _=>(jH (ae (qv 0) (ae (BS a (bG 3 Y (Or.inr Q3) Y Y) (wD a (bG 5 Y (Or.inr Q3) Y Y) (qv 0) (λ_ _=>rfl)) (λ_ _=>rfl) Y) ai)))) Y Y (by decide)) ai)) dN.nd Y Q3)
  (af (b7 (DI (qv 3)) (aq (bp (jH (ae ah (ae ah (ae zy (ae (qv 5) ai))))))) bg)
  (aq (bp (jH (ae (w_add (bC (w_fld gJ (fz O) (qv 0)) (qv 3) (λ_ _=>rfl)) ah) (ae (bC (w_fld gJ (fz O) (qv 0)) (qv 1) (λ_ _=>rfl)) (ae (BS a (bG 2 Y (Or.inr Q3) Y Y) (qv 3) (λ_ _=>rfl) Y) (ae (qv 5) ai)))))))))))
abbrev gT:Stmt:=inClass (top 20) 5
def i9:jj ["self", "numbers"] Qo (aj gT):=by constructor<;>first | rfl | decide +kernel
def dJ{m:Me}{f:KM}{e:P3}(F:G2 K "table" "Nodes.table" gT f e)(b:Meth K C "table" f)(B:HV mg)(O:HE K mg C D)(h:∀m,MpAt P w K mg base 1 ((gX K C D).at m) 0 "numbers_by_node" Qo aD)(g:∀m,MpAt P w K mg base 1 ((gX K C D).at m) 0 "row_of" Ql bY) :
  MpAt P w K mg base 2 ((gX K C D).at m) 0 "table" Qo dC:=m6 F b O.GR (gA (by decide +kernel) (by decide +kernel)) i9 Y Y (λ_ _ _ _ _ _ i d=>by obtain⟨_,rfl⟩:=L2.ou d;rfl) λ_ _ _ _ _ _ a =>
  (af (fQ (mO (h _) a (by decide) (bG 0 Y (Or.inr Q3) Y Y) Y) i9.nd Y (Or.inr Y))
  (aq (CM 1 ["node", "self", "numbers"] Y Y (Or.inr Q3) Y Y (fT) (λ_ _ _ _ _=>(aS 0 (show List.Nodup (["node", "self", "numbers"]:List Str) from by decide +kernel) Y Q3 (Or.inr Y))) (λ_ _ _ _ _=>(Bq (g _) a (by decide) (bG 1 Y (Or.inr Q3) Y Y) (ae (qv 0) (ae (bG 2 Y (Or.inr Q3) Y Y) ai)) Y Y Y)) Y Y (by decide) (λ_=>rfl))))
abbrev fL:Stmt:=inClass (top 22) 1
def kX:jj Qo Qo (aj fL):=by constructor<;>first | rfl | decide +kernel
def cX{f:KM}{d:P3}(F:G2 K "begin" "Machine.begin" fL f d)(a:Meth K D "begin" f)(B:HV mg)(O:HE K mg C D) :
  MtAt P w K mg base 1 (gX K C D) 1 "begin" Qo [] bu:=lr F a O.GP (gA (by decide +kernel) (by decide +kernel)) kX Y Y (λ_ _ _ _ _ _ e b=>by obtain⟨_,rfl⟩:=L2.ou b;rfl) λ_ _ _ _ _ _ _ g =>
  (af (b7 (Ff (cY B.GX (ae (w_fld gJ (eD O) (qv 0)) ai)) (uo B.Jj Y Y)) (aq pI) bg)
  (af (pG gJ (fH 4 (eD O) (bI 0)) (ae (lu (by decide +kernel) (by decide)) ai))
  (af (pG gJ (fH 5 (j4 O) (bI 0)) (ae ah ai))
  (aq (bp (g8 lE lJ (cY B.GX (ae (w_fld gJ (eD O) (qv 0)) ai)) ah))))))
abbrev jI:Stmt:=top 8
def sO:jj ["thing"] ["thing"] (aj jI):=by constructor<;>first | rfl | decide +kernel
def cZ{m:Me}{f:KM}{d:P3}(F:G2 K "is_whole" "is_whole" jI f d)(a:mg "is_whole" = Z (.ref f))(B:HV mg)(O:HE K mg C D) :
  FnAt P w K mg base 1 "is_whole" ["thing"] ((gX K C D).at m) gb:=jw F a sO Y Y (λ_ _ _ _ _ _ e b=>by obtain⟨_,rfl⟩:=L2.ou b;rfl) λ_ _ _ _ _ _ g =>
  (aq (bp (CL (w_is .int B.HZ B.OR (qv 0)) (Cj (CO (w_is .bool B.HZ B.Nb (qv 0)))))))
abbrev eU:Stmt:=top 9
def kR:jj Qg Qg (aj eU):=by constructor<;>first | rfl | decide +kernel
def cN{m:Me}{f:KM}{e:P3}(F:G2 K "refuse_no_text" "refuse_no_text" eU f e)(b:mg "refuse_no_text" = Z (.ref f))(B:HV mg)(O:HE K mg C D)(g:∀m,FnAt P w K mg base 1 "is_whole" ["thing"] ((gX K C D).at m) gb) :
  FnAt P w K mg base 2 "refuse_no_text" Qg ((gX K C D).at m) bf:=jw F b kR Y Y (λ_ _ _ _ _ _ h d=>by obtain⟨_,_,rfl⟩:=L2.d9 d;rfl) λ_ _ _ _ _ _ a =>
  (aq (b7 (JW.LG (jW (mL (pC (dA (g _) a (ae (qv 1) ai) (by decide) Y Y))) (nJ (mL (iS ah (qv 1) (cY B.GX (ae (qv 0) ai)) (by with_unfolding_all rfl)))))) (aq pI) bg))
abbrev jL:Stmt:=top 10
def qO:jj ["book"] ["book"] (aj jL):=by constructor<;>first | rfl | decide +kernel
def gm{m:Me}{f:KM}{d:P3}(F:G2 K "signs_in" "signs_in" jL f d)(a:mg "signs_in" = Z (.ref f))(B:HV mg)(O:HE K mg C D) :
  FnAt P w K mg base 1 "signs_in" ["book"] ((gX K C D).at m) gg:=jw F a qO Y Y (λ_ _ _ _ _ _ e b=>by obtain⟨_,rfl⟩:=L2.ou b;rfl) λ_ _ _ _ _ _ g =>
  (aq (bp (w_sum B.Mn (ae (kB 1 ["text", "book"] Y (dS (qv 0)) (fT) (λ_ _ _ _ _=>(aS 0 (show List.Nodup (["text", "book"]:List Str) from by decide +kernel) Y Q3 (Or.inr Y))) (λ_ _ _ _ _=>(cY B.GX (ae (qv 0) ai))) Y Y (by decide)) ai))))
abbrev gu:Stmt:=inClass (top 22) 2
def l7:jj Qn Qn (aj gu):=by constructor<;>first | rfl | decide +kernel
def dc{f:KM}{g:P3}(F:G2 K "grow" "Machine.grow" gu f g)(b:Meth K D "grow" f)(B:HV mg)(O:HE K mg C D)(i:MtAt P w K mg base 4 (gX K C D) 0 "head_grown" Qj [R,R] aL)(h:∀m,FnAt P w K mg base 2 "refuse_no_text" Qg ((gX K C D).at m) bf)(e:∀m,FnAt P w K mg base 1 "signs_in" ["book"] ((gX K C D).at m) gg) :
  MtAt P w K mg base 5 (gX K C D) 1 "grow" Qn [R,R] bj:=lr F b O.GP (gA (by decide +kernel) (by decide +kernel)) l7 Y Y (λ_ _ _ _ _ _ j d=>by obtain⟨_,_,_,rfl⟩:=L2.rz d;rfl) λ_ _ _ _ _ _ _ a =>
  (af (zC (dA (h _) a (ae (w_fld gJ (eD O) (qv 0)) (ae (qv 1) ai)) (by decide) Y Y) Y)
  (af (b7 (lU (w_add (dA (e _) a (ae (w_fld gJ (eD O) (qv 0)) ai) (by decide) Y Y) (cY B.GX (ae (qv 2) ai))) (uo B.Jk Y Y)) (aq pI) bg)
  (af (pJ gJ a (fH 5 (j4 O) (bI 0)) (qv 1) (ij gJ i.at a (by decide) (fH 6 (mW O) (bI 0)) (ae (bC (w_fld gJ (j4 O) (qv 0)) (qv 1) (λ_ _=>rfl)) (ae (qv 2) ai))) (λ_=>rfl) Y Y Y)
  (aq (iX gJ a (fH 4 (eD O) (bI 0)) (qv 1) (w_add (bC (w_fld gJ (eD O) (qv 0)) (qv 1) (λ_ _=>rfl)) (qv 2)))))))
abbrev b6:Stmt:=inClass (top 22) 0
def fM:jj ["self", "book", "text"] ["self", "book"] (aj b6):=by constructor<;>first | rfl | decide +kernel
def bF{f:KM}{h:P3}(F:Kq K "__init__" "Machine.__init__" b6 f h)(e:Mk K D f)(B:HV mg)(O:HE K mg C D)(j:MtAt P w K mg base 1 (gX K C D) 1 "begin" Qo [] bu)(i:MtAt P w K mg base 5 (gX K C D) 1 "grow" Qn [R,R] bj)(l:InAt P w K mg base 2 (gX K C D) 0 0 "Nodes" Qo di) :
  InAt P w K mg base 6 (gX K C D) 1 1 "Machine" ["self", "book"] aA:=A8 F e O.JS fM Y Y (λ_ _ _ _ _ _ _ _ _ _ m X d b g=>by obtain⟨_,_,rfl⟩:=L2.d9 g;exact PySem.W.binds_K X Y d b Y Y) λ_ _ _ _ _ _ _ a =>
  (af (lA 0 4 gJ (eD O) (cI ai))
  (af (lA 0 5 gJ (j4 O) (cI ai))
  (af (lA 0 6 gJ (mW O) (A1 l.at a (by decide) Y Y))
  (aq (b7 (j3 (qv 1)) (aq (dR Z1 Y (dS (qv 1)) (aS 2 fM.nd Y Q3 Q3)
  (aq (qY (Ce i.at a (by decide) Y Q3 Y Y (zj gJ j.at a (by decide) (bI 0) Y) (ae (qv 2) ai) Y Y Y) Y)))) bg)))))
abbrev gB:Stmt:=inClass (top 22) 3
def l6:jj Qo Qo (aj gB):=by constructor<;>first | rfl | decide +kernel
def i6{m:Me}{f:KM}{d:P3}(F:G2 K "book" "Machine.book" gB f d)(a:Meth K D "book" f)(B:HV mg)(O:HE K mg C D) :
  MpAt P w K mg base 1 ((gX K C D).at m) 1 "book" Qo nL:=m6 F a O.GP (gA (by decide +kernel) (by decide +kernel)) l6 Y Y (λ_ _ _ _ _ _ e b=>by obtain⟨_,rfl⟩:=L2.ou b;rfl) λ_ _ _ _ _ _ g =>
  (aq (bp (Bi B.Lg (ae (w_fld gJ (eD O) (qv 0)) ai))))
abbrev fK:Stmt:=inClass (top 22) 4
def kU:jj Qo Qo (aj fK):=by constructor<;>first | rfl | decide +kernel
def cp{m:Me}{f:KM}{e:P3}(F:G2 K "table" "Machine.table" fK f e)(b:Meth K D "table" f)(B:HV mg)(O:HE K mg C D)(g:∀m,MpAt P w K mg base 2 ((gX K C D).at m) 0 "table" Qo dC) :
  MpAt P w K mg base 3 ((gX K C D).at m) 1 "table" Qo aY:=m6 F b O.GP (gA (by decide +kernel) (by decide +kernel)) kU Y Y (λ_ _ _ _ _ _ h d=>by obtain⟨_,rfl⟩:=L2.ou d;rfl) λ_ _ _ _ _ _ a =>
  (aq (bp (mO (g _) a (by decide) (w_fld gJ (mW O) (qv 0)) Y)))
abbrev mU:Stmt:=top 11
def hJ:jj ["book", "word", "found", "number", "text", "ends"] ["book", "word"] (aj mU):=by constructor<;>first | rfl | decide +kernel
def ib{m:Me}{f:KM}{d:P3}(F:G2 K "places" "places" mU f d)(a:mg "places" = Z (.ref f))(B:HV mg)(O:HE K mg C D) :
  FnAt P w K mg base 1 "places" ["book", "word"] ((gX K C D).at m) fm:=jw F a hJ Y Y (λ_ _ _ _ _ _ e b=>by obtain⟨_,_,rfl⟩:=L2.d9 b;rfl) λ_ _ _ _ _ _ g =>
  (af (fQ (cI ai) hJ.nd Y Q3)
  (af (dR Z1 Y (x8 (qv 0) Y B.JG Y Y) (ur Y (jg (aS 3 hJ.nd Y (Or.inr Y) Q3) (jg (aS 4 hJ.nd Y (Or.inr Y) Q3) qT)))
  (af (ue 1 Qh (λ_ _ _ h=>Bh h) Y (ie (w_add (cY B.GX (ae (bG 4 Y (Or.inr Q3) Y Y) ai)) ah) Y B.Hh) (fT) (λ_ _ _ _ _=>(aS 0 (show List.Nodup Qh from by decide +kernel) Y Q3 (Or.inr Y))) (λ_ _ _ _ _=>(pC (CJ (iY (bG 5 Y (Or.inr Q3) Y Y) oo (gh (qv 0))) (ae (bG 2 Y (Or.inr Q3) Y Y) ai)))) (λ_ _ _ _ _=>(qv 0)) hJ.nd Y Q3 Y Y (by decide))
  (aq (wO 2 (ae (kB 1 Qh Y (dS (qv 5)) (fT) (λ_ _ _ _ _=>(aS 0 (show List.Nodup Qh from by decide +kernel) Y Q3 (Or.inr Y))) (λ_ _ _ _ _=>(jH (ae (bG 4 Y (Or.inr Q3) Y Y) (ae (qv 0) ai)))) Y Y (by decide)) ai) Y Y Q3 Y Y))))
  (aq (df 2 Y (Or.inl Y) Y Y))))
abbrev eE:Stmt:=top 13
def jO:jj Qr Qr (aj eE):=by constructor<;>first | rfl | decide +kernel
def cA{m:Me}{f:KM}{e:P3}(F:G2 K "refuse_no_stand" "refuse_no_stand" eE f e)(b:mg "refuse_no_stand" = Z (.ref f))(B:HV mg)(O:HE K mg C D)(g:∀m,FnAt P w K mg base 1 "is_whole" ["thing"] ((gX K C D).at m) gb) :
  FnAt P w K mg base 2 "refuse_no_stand" Qr ((gX K C D).at m) bL:=jw F b jO Y Y (λ_ _ _ _ _ _ h d=>by obtain⟨_,_,rfl⟩:=L2.d9 d;rfl) λ_ _ _ _ _ _ a =>
  (aq (b7 (JW.LG (jW (mL (pC (dA (g _) a (ae (qv 1) ai) (by decide) Y Y))) (nJ (mL (iS ah (qv 1) (cY B.GX (ae (qv 0) ai)) (by with_unfolding_all rfl)))))) (aq pI) bg))
abbrev qj:Stmt:=top 15
def oq:jj ["table", "stand", "met"] Qr (aj qj):=by constructor<;>first | rfl | decide +kernel
def kK{m:Me}{f:KM}{e:P3}(F:G2 K "chain" "chain" qj f e)(b:mg "chain" = Z (.ref f))(B:HV mg)(O:HE K mg C D)(g:∀m,FnAt P w K mg base 2 "refuse_no_stand" Qr ((gX K C D).at m) bL) :
  FnAt P w K mg base 3 "chain" Qr ((gX K C D).at m) jq:=jw F b oq Y Y (λ_ _ _ _ _ _ h d=>by obtain⟨_,_,rfl⟩:=L2.d9 d;rfl) λ_ _ _ _ _ _ a =>
  (af (zC (dA (g _) a (ae (qv 0) (ae (qv 1) ai)) (by decide) Y Y) Y)
  (af (fQ (cI ai) oq.nd Y Q3)
  (af (jr Z1 (j3 (qv 1))
  (af (ki 2 (ae (qv 1) ai) Y Y Q3 Y Y)
  (aq (aH (bC (bC (qv 0) (qv 1) (λ_ _=>rfl)) ah (λ_ _=>rfl)) oq.nd Y Q3))))
  (aq (df 2 Y (Or.inl Y) Y Y)))))
abbrev gS:Stmt:=top 18
def gv:jj ["table", "stand", "long", "sign", "kept", "ways"] Qq (aj gS):=by constructor<;>first | rfl | decide +kernel
def dI{m:Me}{f:KM}{g:P3}(F:G2 K "tail_behind" "tail_behind" gS f g)(d:mg "tail_behind" = Z (.ref f))(B:HV mg)(O:HE K mg C D)(b:∀m,FnAt P w K mg base 3 "chain" Qr ((gX K C D).at m) jq) :
  FnAt P w K mg base 4 "tail_behind" Qq ((gX K C D).at m) dH:=jw F d gv Y Y (λ_ _ _ _ _ _ h e=>by obtain⟨_,_,_,_,rfl⟩:=L2.Cs e;rfl) λ_ _ _ _ _ _ a =>
  (af (dR Z1 Y (dS (dA (b _) a (ae (qv 0) (ae (qv 1) ai)) (by decide) Y Y)) (aS 4 gv.nd Y Q3 Q3)
  (af (aH (zM B.Lh (ae (bC (bC (qv 0) (qv 4) (λ_ _=>rfl)) ah (λ_ _=>rfl)) ai)) gv.nd Y Q3)
  (aq (b7 (B0 a (qv 3) (qv 5) (by with_unfolding_all rfl) Y) (aq (bp (jH (ae (wD a (qv 5) (qv 3) (λ_ _=>rfl)) (ae (w_add (DW B.OQ (ae (qv 2) (ae (bC (bC (qv 0) (qv 4) (λ_ _=>rfl)) ah (λ_ _=>rfl)) ai))) ah) ai))))) bg))))
  (aq (bp (jH (ae ah (ae ah ai))))))
abbrev lb:Stmt:=top 17
def gq:jj ["table", "word", "tail", "found", "sign"] Qs (aj lb):=by constructor<;>first | rfl | decide +kernel
def cK{m:Me}{f:KM}{e:P3}(F:G2 K "matches" "matches" lb f e)(b:mg "matches" = Z (.ref f))(B:HV mg)(O:HE K mg C D)(g:∀m,FnAt P w K mg base 4 "tail_behind" Qq ((gX K C D).at m) dH) :
  FnAt P w K mg base 5 "matches" Qs ((gX K C D).at m) cq:=jw F b gq Y Y (λ_ _ _ _ _ _ h d=>by obtain⟨_,_,rfl⟩:=L2.d9 d;rfl) λ_ _ _ _ _ _ a =>
  (af (aH (jH (ae ah (ae ah ai))) gq.nd Y Q3)
  (af (fQ (cI (ae ah ai)) gq.nd Y Q3)
  (af (dR Z1 Y (dS (qv 1)) (aS 4 gq.nd Y Q3 Q3)
  (af (aH (dA (g _) a (ae (qv 0) (ae (bC (qv 2) ah (λ_ _=>rfl)) (ae (bC (qv 2) ah (λ_ _=>rfl)) (ae (qv 4) ai)))) (by decide) Y Y) gq.nd Y Q3)
  (aq (ki 3 (ae (bC (qv 2) ah (λ_ _=>rfl)) ai) Y Y Q3 Y Y))))
  (aq (df 3 Y (Or.inl Y) Y Y)))))
abbrev iu:Stmt:=top 24
def bJ:jj ["_law_script", "_law_k", "_law_cell", "_law_left", "_law_number", "_law_turn", "_law_more"] Q8 (aj iu):=by constructor<;>first | rfl | decide +kernel
def dq{m:Me}{f:KM}{e:P3}(F:G2 K "_law_spring" "_law_spring" iu f e)(b:mg "_law_spring" = Z (.ref f))(B:HV mg)(O:HE K mg C D) :
  FnAt P w K mg base 1 "_law_spring" Q8 ((gX K C D).at m) cy:=jw F b bJ Y Y (λ_ _ _ _ _ _ g d=>by obtain⟨_,_,rfl⟩:=L2.d9 d;rfl) λ_ _ _ _ _ _ a =>
  (af (aH (w_add (w_mul (qv 1) ah) ah) bJ.nd Y Q3)
  (af (b7 (lU (cY B.GX (ae (qv 0) ai)) ah) (aq (aH (w_add (bC (qv 0) (w_mod (qv 1) (cY B.GX (ae (qv 0) ai))) (λ_ _=>rfl)) (w_mul (g8 mF mE (qv 1) (cY B.GX (ae (qv 0) ai))) ah)) bJ.nd Y Q3)) bg)
  (af (b7 (oM a (w_mod (qv 2) ah) ah) (aq (bp (cI (ae (g8 mF mE (qv 2) ah) ai)))) bg)
  (af (aH (w_mod (w_add (g8 mF mE (qv 2) ah) (w_mul ah (qv 1))) ah) bJ.nd Y Q3)
  (af (aH ah bJ.nd Y Q3)
  (af (dR Z1 Y (ie ah Y B.Hh) (aS 5 bJ.nd Y Q3 Q3)
  (af (aH (w_mod (w_add (w_add (w_mul (qv 3) ah) (w_mul ah (qv 5))) ah) ah) bJ.nd Y Q3)
  (af (aH (w_mod (w_mul (qv 3) (qv 3)) ah) bJ.nd Y Q3)
  (aq (aH (w_add (w_mul (qv 4) ah) (w_mod (w_mul (qv 6) (w_add (w_mod (qv 6) ah) ah)) ah)) bJ.nd Y Q3)))))
  (aq (bp (cI (ae (qv 4) ai))))))))))
abbrev jP:Stmt:=top 25
def lT:jj ["_law_spring_here", "_law_most", "_law_digit"] Qa (aj jP):=by constructor<;>first | rfl | decide +kernel
def aw{m:Me}{f:KM}{e:P3}(F:G2 K "_law_next" "_law_next" jP f e)(b:mg "_law_next" = Z (.ref f))(B:HV mg)(O:HE K mg C D) :
  IoAt P w K mg base 1 "_law_next" Qa ((gX K C D).at m) [R] ar:=mP F b lT Y Y (λ_ _ _ _ _ _ g d=>by obtain⟨_,_,rfl⟩:=L2.d9 d;rfl) λ_ _ _ _ _ _ _ a =>
  (af (aH (w_mod (bC (E8 (qv 0)) ah (λ_ _=>rfl)) (qv 1)) lT.nd Y Q3)
  (af (iX gJ a (Gc (bI 0)) ah (g8 mF mE (bC (E8 (qv 0)) ah (λ_ _=>rfl)) (qv 1)))
  (aq (df 2 Y (Or.inl Y) Y Y))))
abbrev jY:Stmt:=top 26
def sG:jj Qb Qb (aj jY):=by constructor<;>first | rfl | decide +kernel
def bO{m:Me}{f:KM}{g:P3}(F:G2 K "_law_text" "_law_text" jY f g)(d:mg "_law_text" = Z (.ref f))(B:HV mg)(O:HE K mg C D)(b:∀m,IoAt P w K mg base 1 "_law_next" Qa ((gX K C D).at m) [R] ar) :
  IoAt P w K mg base 2 "_law_text" Qb ((gX K C D).at m) [R,R] cF:=mP F d sG Y Y (λ_ _ _ _ _ _ h e=>by obtain⟨_,_,_,rfl⟩:=L2.rz e;rfl) λ_ _ _ _ _ _ _ a =>
  (aq (uz (Al (lu (by decide +kernel) (by decide)) (xA Q6 Y Y B.Hh (bh (b _) a (bM 0 true Y (Or.inr Q3) Y Y (bw (ay (w_add (qv 2) ah)) aX))) (λ_ _ _ _ _=>L2.p6 (show List.Nodup Q6 from by decide +kernel) Y Q3 (Or.inr Y)) (λ_ _ _ _ _=>(BW (ay (bG 2 Y (Or.inr Q3) Y Y)) (bh (b _) a (bM 1 true Y (Or.inr Q3) Y Y (bw (ay (cY B.GX (ae (bG 2 Y (Or.inr Q3) Y Y) ai))) aX))) (λ_ _=>rfl) Y)) Y Y Y Y (by decide) (λ_=>rfl)) Y Y Y Y Y Y)))
abbrev iW:Stmt:=top 27
def eA:jj ["_law_spring_here", "_law_letters", "_law_few", "_law_start", "_law_step"] Qd (aj iW):=by constructor<;>first | rfl | decide +kernel
def ft{m:Me}{f:KM}{g:P3}(F:G2 K "_law_signs" "_law_signs" iW f g)(d:mg "_law_signs" = Z (.ref f))(B:HV mg)(O:HE K mg C D)(b:∀m,IoAt P w K mg base 1 "_law_next" Qa ((gX K C D).at m) [R] ar) :
  IoAt P w K mg base 2 "_law_signs" Qd ((gX K C D).at m) [] gK:=mP F d eA Y Y (λ_ _ _ _ _ _ h e=>by obtain⟨_,rfl⟩:=L2.ou e;rfl) λ_ _ _ _ _ _ _ a =>
  (af (aH (lu (by decide +kernel) (by decide)) eA.nd Y (Or.inr Y))
  (af (cu (pR (cI (ae ah (ae ah (ae ah (ae ah (ae ah (ae ah (ae ah (ae ah ai))))))))) (bh (b _) a (bM 0 true Y (Or.inl Y) Y Y (bw (ay ah) aX)))) eA.nd Y Q3)
  (af (cu (bh (b _) a (bM 0 true Y (Or.inl Y) Y Y (bw (ay ah) aX))) eA.nd Y (Or.inr Y))
  (af (cu (pR (cI (ae ah (ae ah (ae ah (ae ah ai))))) (bh (b _) a (bM 0 true Y (Or.inl Y) Y Y (bw (ay ah) aX)))) eA.nd Y (Or.inr Y))
  (aq (bp (AY (lu (by decide +kernel) (by decide)) (ae (kB 1 Q5 Y (ie (qv 2) Y B.Hh) (fT) (λ_ _ _ _ _=>(aS 0 (show List.Nodup Q5 from by decide +kernel) Y Q3 (Or.inr Y))) (λ_ _ _ _ _=>(bC (bG 2 Y (Or.inr Q3) Y Y) (w_mod (w_add (bG 4 Y (Or.inr Q3) Y Y) (w_mul (bG 5 Y (Or.inr Q3) Y Y) (qv 0))) ah) (λ_ _=>rfl))) Y Y (by decide)) ai))))))))
abbrev jR:Stmt:=top 28
def da:jj ["_law_spring_here", "_law_signs_here", "_law_many", "_law_book_here", "_law_k", "_law_text_here", "_law_old"] Qc (aj jR):=by constructor<;>first | rfl | decide +kernel
def gz{m:Me}{f:KM}{h:P3}(F:G2 K "_law_book" "_law_book" jR f h)(e:mg "_law_book" = Z (.ref f))(B:HV mg)(O:HE K mg C D)(b:∀m,IoAt P w K mg base 1 "_law_next" Qa ((gX K C D).at m) [R] ar)(d:∀m,IoAt P w K mg base 2 "_law_text" Qb ((gX K C D).at m) [R,R] cF) :
  IoAt P w K mg base 3 "_law_book" Qc ((gX K C D).at m) [R] ig:=mP F e da Y Y (λ_ _ _ _ _ _ i g=>by obtain⟨_,_,rfl⟩:=L2.d9 g;rfl) λ_ _ _ _ _ _ _ a =>
  (af (cu (pR (cI (ae ah (ae ah (ae ah (ae ah (ae ah (ae ah (ae ah (ae ah ai))))))))) (bh (b _) a (bM 0 true Y (Or.inl Y) Y Y (bw (ay ah) aX)))) da.nd Y Q3)
  (af (fQ (cI ai) da.nd Y Q3)
  (af (dR Z1 Y (ie (qv 2) Y B.Hh) (aS 4 da.nd Y Q3 Q3)
  (af (cu (bh (d _) a (bM 0 true Y (Or.inl Y) Y Y (bw (ay (qv 1)) (bw (pR (cI (ae ah (ae ah (ae ah (ae ah ai))))) (bh (b _) a (bM 0 true Y (Or.inl Y) Y Y (bw (ay ah) aX)))) aX)))) da.nd Y Q3)
  (af (t6 (uI (lU (qv 4) ah) (uR (tF a.units) yh (bh (b _) a (bM 0 true Y (Or.inl Y) Y Y (bw (ay ah) aX))) (ay ah) (jU _))) (af (cu (yt 3 Y (Or.inl Y) Y Y (bh (b _) a (bM 0 true Y (Or.inl Y) Y Y (bw (ay (qv 4)) aX))) (λ_ _=>rfl) Y) da.nd Y Q3)
  (aq (cu (yQ (ic (yQ (ay (qv 6)) (ko (bh (b _) a (bM 0 true Y (Or.inl Y) Y Y (bw (ay (w_add (cY B.GX (ae (qv 6) ai)) ah)) aX)))) qM) (ay (qv 5))) qM (ko (ay ah))) da.nd Y Q3))) bg)
  (aq (ki 3 (ae (qv 5) ai) Y Y Q3 Y Y)))))
  (af (t6 (uI (nM ah (qv 2) ah (by with_unfolding_all rfl)) (uR (tF a.units) yh (bh (b _) a (bM 0 true Y (Or.inl Y) Y Y (bw (ay ah) aX))) (ay ah) (jU _))) (aq (pJ gJ a (bI 3) ah (B8 zX Bo (ic (ic (ay (bC (qv 3) ah (λ_ _=>rfl))) (bh (d _) a (bM 0 true Y (Or.inl Y) Y Y (bw (ay (qv 1)) (bw (ay ah) aX))))) (ay (bC (qv 3) E3 (λ_ _=>rfl)))) (ic (ay ah) (bh (b _) a (bM 0 true Y (Or.inl Y) Y Y (bw (ay ah) aX))))) (λ_=>rfl) Y Y Y)) bg)
  (aq (df 3 Y (Or.inl Y) Y Y))))))
abbrev jE:Stmt:=top 29
def cw:jj ["_law_spring_here", "_law_book_here", "_law_signs_here", "_law_word_here", "_law_turn", "_law_way", "_law_text_here", "_law_start"] Q9 (aj jE):=by constructor<;>first | rfl | decide +kernel
def gr{m:Me}{f:KM}{g:P3}(F:G2 K "_law_word" "_law_word" jE f g)(d:mg "_law_word" = Z (.ref f))(B:HV mg)(O:HE K mg C D)(b:∀m,IoAt P w K mg base 1 "_law_next" Qa ((gX K C D).at m) [R] ar)(h:∀m,IoAt P w K mg base 2 "_law_text" Qb ((gX K C D).at m) [R,R] cF) :
  IoAt P w K mg base 3 "_law_word" Q9 ((gX K C D).at m) [R,R] eZ:=mP F d cw Y Y (λ_ _ _ _ _ _ i e=>by obtain⟨_,_,_,rfl⟩:=L2.rz e;rfl) λ_ _ _ _ _ _ _ a =>
  (af (aH (lu (by decide +kernel) (by decide)) cw.nd Y Q3)
  (af (CS Z1 Y Y B.Hh (ic (ay ah) (bh (b _) a (bM 0 true Y (Or.inl Y) Y Y (bw (ay ah) aX)))) (aS 4 cw.nd Y Q3 Q3)
  (af (cu (bh (b _) a (bM 0 true Y (Or.inl Y) Y Y (bw (ay ah) aX))) cw.nd Y Q3)
  (aq (b7 (uu (qv 5) ah) (aq (cu (ic (ay (qv 3)) (bh (h _) a (bM 0 true Y (Or.inl Y) Y Y (bw (ay (qv 2)) (bw (ay ah) aX))))) cw.nd Y Q3)) (aq (b7 (oM a (qv 5) ah) (aq (cu (ic (ay (qv 3)) (BW (ay (lu (by decide +kernel) (by decide))) (bh (b _) a (bM 0 true Y (Or.inl Y) Y Y (bw (ay ah) aX))) (λ_ _=>rfl) Y)) cw.nd Y Q3)) (aq (b7 (nV a (qv 1) (cI ai)) (af (cu (yt 1 Y (Or.inl Y) Y Y (bh (b _) a (bM 0 true Y (Or.inl Y) Y Y (bw (ay (cY B.GX (ae (qv 1) ai))) aX))) (λ_ _=>rfl) Y) cw.nd Y Q3)
  (af (cu (bh (b _) a (bM 0 true Y (Or.inl Y) Y Y (bw (ay (w_add (cY B.GX (ae (qv 6) ai)) ah)) aX))) cw.nd Y Q3)
  (aq (cu (ic (ay (qv 3)) (yQ (ay (qv 6)) (ko (ay (qv 7))) (ko (ic (ay (w_add (qv 7) ah)) (bh (b _) a (bM 0 true Y (Or.inl Y) Y Y (bw (ay ah) aX))))))) cw.nd Y Q3)))) bg))))))) Y Y (λ_=>rfl))
  (aq (df 3 Y (Or.inl Y) Y Y))))
abbrev iR:Stmt:=top 30
def fU:jj ["_law_book_here", "_law_table", "_law_word_here", "_law_cut", "_law_got", "_law_end", "_law_long"] Q4 (aj iR):=by constructor<;>first | rfl | decide +kernel
def fq{m:Me}{f:KM}{h:P3}(F:G2 K "_law_right" "_law_right" iR f h)(e:mg "_law_right" = Z (.ref f))(B:HV mg)(O:HE K mg C D)(d:∀m,FnAt P w K mg base 5 "matches" Qs ((gX K C D).at m) cq)(b:∀m,FnAt P w K mg base 1 "places" ["book", "word"] ((gX K C D).at m) fm) :
  FnAt P w K mg base 6 "_law_right" Q4 ((gX K C D).at m) gF:=jw F e fU Y Y (λ_ _ _ _ _ _ i g=>by obtain⟨_,_,_,_,rfl⟩:=L2.Cs g;rfl) λ_ _ _ _ _ _ a =>
  (af (aH (dA (d _) a (ae (qv 1) (ae (qv 2) ai)) (by decide) Y Y) fU.nd Y Q3)
  (af (b7 (JW.LG (jW (nV a (cY B.GX (ae (qv 4) ai)) (w_add (cY B.GX (ae (qv 2) ai)) ah)) (jW (nV a (bC (qv 4) ah (λ_ _=>rfl)) ah) (nJ (nV a (dA (d _) a (ae (qv 1) (ae (iY (qv 2) oo (gh (qv 3))) ai)) (by decide) Y Y) (iY (qv 4) oo (gh (w_add (qv 3) ah)))))))) (aq (bp jC)) bg)
  (af (dR Z1 Y (tm ah (cY B.GX (ae (qv 4) ai)) Y B.Hh) (aS 5 fU.nd Y Q3 Q3)
  (af (aH (bC (qv 4) (qv 5) (λ_ _=>rfl)) fU.nd Y Q3)
  (af (b7 (JW.LG (jW (uu (qv 6) ah) (jW (lU (qv 6) (w_add (bC (qv 4) (g8 lE lJ (qv 5) ah) (λ_ _=>rfl)) ah)) (nJ (lU (qv 6) (qv 5)))))) (aq (bp jC)) bg)
  (af (b7 (JW.LG (mH (lU (qv 6) ah) (j0 (oM a (dA (b _) a (ae (qv 0) (ae (iY (qv 2) (gh (g8 lE lJ (qv 5) (qv 6))) (gh (qv 5))) ai)) (by decide) Y Y) (cI ai))))) (aq (bp jC)) bg)
  (aq (b7 (JW.LG (mH (uu (qv 6) (qv 5)) (j0 (nV a (dA (b _) a (ae (qv 0) (ae (iY (qv 2) (gh (g8 lE lJ (g8 lE lJ (qv 5) (qv 6)) ah)) (gh (qv 5))) ai)) (by decide) Y Y) (cI ai))))) (aq (bp jC)) bg))))))
  (aq (bp jC)))))
abbrev kD:Stmt:=top 31
def gy:jj ["_law_script", "_law_spring_here", "_law_signs_here", "_law_book_here", "_law_table", "_law_more", "_law_text_here", "_law_asked", "_law_word_here", "_law_fresh"] ["_law_script"] (aj kD):=by constructor<;>first | rfl | decide +kernel
def DC{m:Me}{f:KM}{d:P3}(F:G2 K "law" "law" kD f d)(B:HV mg)(O:HE K mg C D)(h:InAt P w K mg base 6 (gX K C D) 1 1 "Machine" ["self", "book"] aA)(g:∀m,MpAt P w K mg base 3 ((gX K C D).at m) 1 "table" Qo aY)(i:∀m,IoAt P w K mg base 3 "_law_book" Qc ((gX K C D).at m) [R] ig)(p:∀m,IoAt P w K mg base 1 "_law_next" Qa ((gX K C D).at m) [R] ar)(n:∀m,FnAt P w K mg base 6 "_law_right" Q4 ((gX K C D).at m) gF)(l:∀m,IoAt P w K mg base 2 "_law_signs" Qd ((gX K C D).at m) [] gK)(e:∀m,FnAt P w K mg base 1 "_law_spring" Q8 ((gX K C D).at m) cy)(o:∀m,IoAt P w K mg base 2 "_law_text" Qb ((gX K C D).at m) [R,R] cF)(j:∀m,IoAt P w K mg base 3 "_law_word" Q9 ((gX K C D).at m) [R,R] eZ)(b:∀m,FnAt P w K mg base 5 "matches" Qs ((gX K C D).at m) cq) :
  FnOk P w K mg base Hk 8 f d ["_law_script"] (Ja ((gX K C D).at m) yK):=RJ F gy Y Y λ_ _ _ _ _ _ a =>
  (af (fQ (dA (e _) a (ae (qv 0) (ae ah ai)) (by decide) Y Y) gy.nd Y Q3)
  (af (cu (bh (l _) a (bM 1 R Y (Or.inl Y) Y Y aX)) gy.nd Y (Or.inr Y))
  (af (r9 (AC (i _) a (bM 1 R Y (Or.inl Y) Y Y (bw (ay (bG 2 Y (Or.inr Q3) Y Y)) aX)) (by decide) Y Y Y Y) gy.nd Y (Or.inr Y) Y Q3)
  (mM 1 (af (aH (mO (g _) a (by decide) (Dk h.at a (by decide) (ae (bG 3 Y (Or.inr Q3) Y Y) ai) FN Y Y Y Y) Y) gy.nd Y Q3)
  (af (fQ (dA (e _) a (ae (qv 0) (ae ah ai)) (by decide) Y Y) gy.nd Y (Or.inr Y))
  (af (dR Z1 Y (dS (bG 3 Y (Or.inr Q3) Y Y)) (aS 6 gy.nd Y Q3 Q3)
  (aq (b7 (nV a (dA (b _) a (ae (qv 4) (ae (qv 6) ai)) (by decide) Y Y) (ya B.Lg B.Hh (ae (w_add (cY B.GX (ae (qv 6) ai)) ah) ai) Y Y Y Y Y)) (aq (bp jC)) bg)))
  (af (Ba Qf Y Y B.Hh (ay ah) (λ_ _ _ _ _=>L2.p6 (show List.Nodup Qf from by decide +kernel) Y Q3 (Or.inr Y)) (λ_ _ _ _ _=>(zZ (j _) a (CT 6 R Y (Or.inr Q3) Y Y (zg (bG 4 Y (Or.inr Q3) Y Y) (zg (bG 3 Y (Or.inr Q3) Y Y) By Y) Y) Y) (by decide) Y Y Y Y)) Y Y Y Y (by decide) (λ_=>rfl) gy.nd Y Q3 Y Q3)
  (mM 7 (af (dR Z1 Y (dS (qv 7)) (aS 8 gy.nd Y Q3 Q3)
  (aq (t6 (zJ (Av (zd (n _) a (nA (bG 3 Y (Or.inr Q3) Y Y) (nA (qv 4) (nA (qv 8) (zh (bh (p _) a (bM 5 R Y (Or.inr Q3) Y Y (bw (ay (w_add (cY B.GX (ae (qv 8) ai)) ah)) aX))) Y) Y) Y) Y) (by decide) Y Y Y Y) (λ_=>rfl))) (aq (bp jC)) bg)))
  (af (b7 (JW.LG (jW (oM a (cY B.GX (ae (bG 3 Y (Or.inr Q3) Y Y) ai)) ah) (nJ (lU (w_sum B.Mn (ae (kB 1 Qe Y (dS (bG 3 Y (Or.inr Q3) Y Y)) (fT) (λ_ _ _ _ _=>(aS 0 (show List.Nodup Qe from by decide +kernel) Y Q3 (Or.inr Y))) (λ_ _ _ _ _=>(cY B.GX (ae (qv 0) ai))) Y Y (by decide)) ai)) ah)))) (aq (bp jC)) bg)
  (af (r9 (wF (g _) a (by decide) (Bb h.at a (by decide) (Ae (bG 3 Y (Or.inr Q3) Y Y) (DE (bh (o _) a (bM 5 R Y (Or.inr Q3) Y Y (bw (ay (bG 2 Y (Or.inr Q3) Y Y)) (bw (ay ah) aX)))) Y)) Y Y Y Y) Y) gy.nd Y Q3 Y Q3)
  (mM 5 (af (dR Z1 Y (dS (qv 7)) (aS 8 gy.nd Y Q3 Q3)
  (aq (b7 (nV a (v8 2 Q7 Y (Bv (dA (b _) a (ae (qv 4) (ae (qv 8) ai)) (by decide) Y Y) (dA (b _) a (ae (qv 9) (ae (qv 8) ai)) (by decide) Y Y) Y B.OP Y Y Y) (xC (fT) (fT)) (λ_ _ _ _ _=>(ur Y (jg (aS 0 (show List.Nodup Q7 from by decide +kernel) Y Q3 (Or.inr Y)) (jg (aS 1 (show List.Nodup Q7 from by decide +kernel) Y Q3 (Or.inr Y)) qT)))) (λ_ _ _ _ _=>(lU (qv 0) (qv 1))) (λ_ _ _ _ _=>ah) Y Y (by decide)) (cI ai)) (aq (bp jC)) bg)))
  (aq (bp jC))))))))))))))))
end
abbrev gN(K:Xk)(x:Str)(f:KM):Prop:=PySem.W.nsIn K mainGlobals x=Z (Z (.ref f))
abbrev gZ(K:Xk)(x:Str):Prop:=PySem.W.nsIn K mainGlobals x=Z L
def all_mk{l:PySem.W.OpenLaw}{w:UF}{K:Xk}{h:SZ}{a:Xg}{fa C D f0 f1 f2 f3 f4 f5 f6 f7 f8 f9 TV TU TR n TQ TN TM TL TK TJ TH TF TC TB Tz Tw Tv Tu o:KM}(X:K.In h)(G:h.Ns mainGlobals a)(VJ:a "law" = Z (.ref fa)){Qw Sb Qv OS:Option KM}{P0 PZ:Array (Wr)}{Qy QM R9 P6 OM Sa Qx Ob OJ NV p OK:On}(Rh:∀ns:Wp,ns.length<=63->yK [.scr ns]=Z (.fr,.bl true))(a0:Meth K C "new_node" f0){WE:P3}(F0:G2 K "new_node" "Nodes.new_node" eX f0 WE)(a1:Mk K C f1){WD:P3}(F1:G2 K "__init__" "Nodes.__init__" eV f1 WD)(a2:Meth K C "node_just_behind" f2){WC:P3}(F2:G2 K "node_just_behind" "Nodes.node_just_behind" cE f2 WC)(a3:Meth K C "head_behind" f3){WB:P3}(F3:G2 K "head_behind" "Nodes.head_behind" dw f3 WB)(a4:Meth K C "head_grown" f4){WA:P3}(F4:G2 K "head_grown" "Nodes.head_grown" dX f4 WA)(a5:Meth K C "numbers_by_node" f5){Wg:P3}(F5:G2 K "numbers_by_node" "Nodes.numbers_by_node" cL f5 Wg)(a6:Meth K C "row_of" f6){Wf:P3}(F6:G2 K "row_of" "Nodes.row_of" gw f6 Wf)(a7:Meth K C "table" f7){We:P3}(F7:G2 K "table" "Nodes.table" gT f7 We)(a8:Meth K D "begin" f8){Wc:P3}(F8:G2 K "begin" "Machine.begin" fL f8 Wc)(a9:gN K "is_whole" f9){Wb:P3}(F9:G2 K "is_whole" "is_whole" jI f9 Wb)(j:gN K "refuse_no_text" TV){R0:P3}(U:G2 K "refuse_no_text" "refuse_no_text" eU TV R0)(i:gN K "signs_in" TU){RZ:P3}(S:G2 K "signs_in" "signs_in" jL TU RZ)(g:Meth K D "grow" TR){RY:P3}(Q:G2 K "grow" "Machine.grow" gu TR RY){b:KM}{NZ:Obj}{QE:Nat}(f:Mk K D n)(UY:K.lookup n=Z ⟨Qy,Qw,.func (PySem.W.fnOf "__init__" "Machine.__init__" (cR b6) (aQ b6) (aj b6) (.ref b) QM R9 P6 Sb OM Sa),P0⟩)(WU:PySem.W.codeIn K OM "Machine.__init__" = true)(U7:PySem.W.keepIn K (.ref n)=true)(Uu:K.lookup b=Z NZ)(Uk:NZ.data=.seq #[.none] QE)(ZE:Meth K D "book" TQ){RX:P3}(P:G2 K "book" "Machine.book" gB TQ RX)(YA:Meth K D "table" TN){RW:P3}(N:G2 K "table" "Machine.table" fK TN RW)(XN:gN K "places" TM){RV:P3}(M:G2 K "places" "places" mU TM RV)(W9:gN K "refuse_no_stand" TL){RU:P3}(J:G2 K "refuse_no_stand" "refuse_no_stand" eE TL RU)(W8:gN K "chain" TK){RT:P3}(H:G2 K "chain" "chain" qj TK RT)(W7:gN K "tail_behind" TJ){RS:P3}(E:G2 K "tail_behind" "tail_behind" gS TJ RS)(W5:gN K "matches" TH){RR:P3}(A:G2 K "matches" "matches" lb TH RR)(W4:gN K "_law_spring" TF){RQ:P3}(z:G2 K "_law_spring" "_law_spring" iu TF RQ)(W3:gN K "_law_next" TC){RP:P3}(y:G2 K "_law_next" "_law_next" jP TC RP)(W0:gN K "_law_text" TB){RO:P3}(x:G2 K "_law_text" "_law_text" jY TB RO)(WZ:gN K "_law_signs" Tz){RN:P3}(u:G2 K "_law_signs" "_law_signs" iW Tz RN)(WY:gN K "_law_book" Tw){RM:P3}(t:G2 K "_law_book" "_law_book" jR Tw RM)(WX:gN K "_law_word" Tv){RL:P3}(r:G2 K "_law_word" "_law_word" jE Tv RL)(WW:gN K "_law_right" Tu){RK:P3}(q:G2 K "_law_right" "_law_right" iR Tu RK)(WV:gN K "law" o)(UW:K.lookup o=Z ⟨Qx,Qv,.func (PySem.W.fnOf "law" "law" (cR kD) (aQ kD) (aj kD) .none Ob OJ NV OS p OK),PZ⟩)(WT:PySem.W.codeIn K p "law" = true)(U6:PySem.W.keepIn K (.ref o)=true)(Mu:gZ K "bool")(Ms:gZ K "dict")(Jn:gZ K "enumerate")(NG:gZ K "int")(IT:gZ K "isinstance")(NF:gZ K "len")(Mr:gZ K "list")(ND:gZ K "min")(Ly:gZ K "range")(KI:gZ K "sorted")(NC:gZ K "sum")(Lx:gZ K "tuple")(NB:gZ K "zip"){IZ:Tok}(IV:PySem.W.nsIn K mainGlobals "MOST_SIGNS" = Z (Z (.int 120 IZ))){IW:Tok}(IU:PySem.W.nsIn K mainGlobals "MOST_TEXTS" = Z (Z (.int 8 IW)))(w_Nodes:gN K "Nodes" C)(GR:Ie K C)(Ho:aR K C "longs")(Hq:aR K C "links")(Hy:aR K C "ways")(Hm:aR K C "texts")(Hr:aR K C "heads")(Hn:aR K C "nodes")(w_Machine:gN K "Machine" D)(GP:Ie K D)(Hb:aR K D "longs")(Hc:aR K D "links")(Hi:aR K D "ways")(G9:aR K D "texts")(He:aR K D "heads")(Ha:aR K D "nodes")
  : ∃fd:P3,(∀(s:IR)(v:On),BindsTo s fd ⟨[v],[]⟩ [("_law_script",v)])/\∀base:SZ,K.In base->base.Ns mainGlobals a->FnOk l.prog w K a base Hk 8 fa fd ["_law_script"] (Ja (Oz K) yu):=by
 have e:=VJ.symm.trans (ZA X G WV);cases e;have B:HV a:=⟨Z2 X G Mu,Z2 X G Ms,Z2 X G Jn,Z2 X G NG,Z2 X G IT,Z2 X G NF,Z2 X G Mr,Z2 X G ND,Z2 X G Ly,Z2 X G KI,Z2 X G NC,Z2 X G Lx,Z2 X G NB,⟨_,ZA X G IV⟩,⟨_,ZA X G IU⟩⟩
 have O:HE K a C D:=⟨GR,ZA X G w_Nodes,Ho,Hq,Hy,Hm,Hr,Hn,GP,ZA X G w_Machine,Hb,Hc,Hi,G9,He,Ha⟩
 refine⟨PySem.W.fnOf "law" "law" (cR kD) (aQ kD) (aj kD) .none Ob OJ NV OS p OK,λs v=>.of_eq Y,λbase _ _=>?_⟩;have aI:=aI l.prog w base F0 a0 B O;have cM:=cM l.prog w base F1 a1 B O aI;have aO:=aO l.prog w base F2 a2 B O aI;have bT:=bT l.prog w base F3 a3 B O aI aO;have b9:=b9 l.prog w base F4 a4 B O bT;have bc:=λm=>bc (m:=m) l.prog w base F5 a5 B O;have dh:=λm=>dh (m:=m) l.prog w base F6 a6 B O;have dJ:=λm=>dJ (m:=m) l.prog w base F7 a7 B O bc dh;have cX:=cX l.prog w base F8 a8 B O;have cZ:=λm=>cZ (m:=m) l.prog w base F9 (ZA X G a9) B O;have cN:=λm=>cN (m:=m) l.prog w base U (ZA X G j) B O cZ;have gm:=λm=>gm (m:=m) l.prog w base S (ZA X G i) B O;have dc:=dc l.prog w base Q g B O b9 cN gm;have bF:=bF l.prog w base ⟨⟨_,_,_,_,_,_,_,_,_,_,_,_,rfl,UY,WU,Uu,Uk⟩,U7⟩ f B O cX dc cM;have i6:=λm=>i6 (m:=m) l.prog w base P ZE B O;have cp:=λm=>cp (m:=m) l.prog w base N YA B O dJ;have ib:=λm=>ib (m:=m) l.prog w base M (ZA X G XN) B O;have cA:=λm=>cA (m:=m) l.prog w base J (ZA X G W9) B O cZ;have kK:=λm=>kK (m:=m) l.prog w base H (ZA X G W8) B O cA;have dI:=λm=>dI (m:=m) l.prog w base E (ZA X G W7) B O kK;have cK:=λm=>cK (m:=m) l.prog w base A (ZA X G W5) B O dI;have dq:=λm=>dq (m:=m) l.prog w base z (ZA X G W4) B O;have aw:=λm=>aw (m:=m) l.prog w base y (ZA X G W3) B O;have bO:=λm=>bO (m:=m) l.prog w base x (ZA X G W0) B O aw;have ft:=λm=>ft (m:=m) l.prog w base u (ZA X G WZ) B O aw;have gz:=λm=>gz (m:=m) l.prog w base t (ZA X G WY) B O aw bO;have gr:=λm=>gr (m:=m) l.prog w base r (ZA X G WX) B O aw bO;have fq:=λm=>fq (m:=m) l.prog w base q (ZA X G WW) B O cK ib;exact Aw Y (DC l.prog w base (m:=λ_=>L) (xT (st:=kD) UW WT U6) B O bF cp gz aw fq ft dq bO gr cK) Rh
end T43
open PySem PySem.W PyProof.Rows PySem.W.X PySem.W.ZRun
set_option maxRecDepth 100000 in
set_option maxHeartbeats 0 in
theorem PySem.Challenge.cw_allparts_k43_matches_along_links_holds : PySem.Challenge.rw_allparts_k43_matches_along_links.Holds := by
 w_on;o_law;z_head;(case hw=>w_witness2)
 k_fill
 intro w s₀ s₁ mg mb G y fa o pm cd doc dV kV ho hd hcd hD hmg hg args vals as L hpre hlay hrd hwl hlo
 z_open y L KX ZH ZN ZT
 clear ZH ZN ZT;refine VS.xo (l:=PySem.Challenge.rw_allparts_k43_matches_along_links) (k:=8) (x := "_law_script") rfl rfl ⟨rfl,by decide,by decide⟩ ?F w s₀ s₁ mg mb G KX fa o pm cd doc dV kV ho hd hcd hD hmg hg args vals as hpre hlay hrd hwl hlo
 case F =>
  intro w mg fa h KX G hmg;apply T43.all_mk KX G hmg T43.yI
  (case w_Nodes=>unfold T43.gN;k_is)
  (case w_Machine=>unfold T43.gN;k_is)
  all_goals first | (refine' L2.xT ?l ?c ?k;(case l=>k_is);(case c=>k_is);(case k=>k_is)) | (refine' ⟨?l,?c,?k⟩;(case l=>k_is);(case c=>k_is);(case k=>k_is)) | (refine' ⟨?l,?c,?k,?d⟩;(case l=>k_is);(case c=>k_is);(case k=>k_is);(case d=>k_is)) | (unfold T43.gN;k_is) | (unfold T43.gZ;k_is) | (unfold L2.aR;k_is) | k_is | exact rfl
end
