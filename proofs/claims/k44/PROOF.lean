import PyProof.Rows.All
import Wide.All
import OpenK.AllK
import Wide.FinOn
import Lean
import PyProof.EqAt
import PyProof.EqKinds
import PyProof.TupleCall
import PyProof.Rows.SortShellK
import PyProof.Rows.SortStr
import PyProof.Rows.SortWalk
import PyProof.StrBlockH
import PyProof.StrLawsIn
import PyProof.Rows.SetFrom
import PyProof.CollectWalk
import KE.KDictSum
import PyProof.ListStr
import PyProof.SeqI3
import PyProof.Rows.CallKwBuiltin
import PyProof.ListRange
import PyProof.AttrMissSeq
import PyProof.DictUpdate
import PyProof.DictList
import PyProof.ListNew
import PyProof.FactsAll.dict_1
import PyProof.SliceList
import PyProof.WalkInts
import PyProof.StationsW
import OpenK.KOwn
import KE.KTryMore
import PyProof.NsDelKeeps
import PyProof.ExcArgsOwn
import PyProof.ExcAttrAll.Exception
import OpenK.KDescr
import KE.KIsAll
import PyProof.ExcBaseAll.ValueError
import PyProof.StrBlock
import PyProof.StrCalls
import PyProof.StrLawsOccR
import KE.KDictOf
import PyProof.Rows.Range3
import PyProof.Rows.ZipForRows
import PySem.Challenge.RW_allparts_k44_whole_pieces_turned_about
namespace PySem.W.Fast
def tw8737955291522417010:True:=⟨⟩
def tw2827032399659840611:True:=⟨⟩
def tw18377639687818864268:True:=⟨⟩
def tw211069462072654939:True:=⟨⟩
def tw17265081860760719925:True:=⟨⟩
def tw3047450135502469696:True:=⟨⟩
def tw14705056330895316631:True:=⟨⟩
def tw16278107564168408575:True:=⟨⟩
def tw3397533759345915211:True:=⟨⟩
def tw5617416721469833568:True:=⟨⟩
def tw6659150977475556143:True:=⟨⟩
def tw6920153222309333502:True:=⟨⟩
def tw773808154380618371:True:=⟨⟩
def tw11558536985182237134:True:=⟨⟩
def tw2467025784328028128:True:=⟨⟩
def tw483021911455593052:True:=⟨⟩
def tw8683775608608736083:True:=⟨⟩
def tw8638346373219821304:True:=⟨⟩
def tw5571128904820818621:True:=⟨⟩
def tw10752156367255086030:True:=⟨⟩
def tw12402466472052028527:True:=⟨⟩
def tw4198934225667554586:True:=⟨⟩
def tw17631750681255312196:True:=⟨⟩
def tw11530629184512875423:True:=⟨⟩
def tw17360655386268828319:True:=⟨⟩
def tw12399327730346309097:True:=⟨⟩
def tw17254648506112934431:True:=⟨⟩
def tw5018018525389710078:True:=⟨⟩
def tw7120587697680289350:True:=⟨⟩
def tw9671631921520816874:True:=⟨⟩
def tw15101482750892860195:True:=⟨⟩
def tw1439012531519189304:True:=⟨⟩
def tw8203773156688021874:True:=⟨⟩
def tw5897797881461146028:True:=⟨⟩
def tw5351489725114781477:True:=⟨⟩
def tw1295602509804564497:True:=⟨⟩
def tw1480341957139905683:True:=⟨⟩
def tw14913571161597510864:True:=⟨⟩
def tw8119000640677903582:True:=⟨⟩
def tw7710762414693547938:True:=⟨⟩
end PySem.W.Fast
open Option renaming some->Z, none->L
open Bool renaming true->R, false->B
theorem Y.{u}{α:Sort u}{a:α}:a=a:=rfl
open PySem renaming Shared->GM, model->IR, sizeLine->KB, Addr->KF, Value->KM, wpAny->On, starEach->Pi, FuncData->Pv, Program->P3, Around->Re, keywordEach->SB, compareOp->SC, Heap->SL, World->SZ, attributeBase->UF, foldedSetIterable->UV
open PyProof.Rows renaming Keyed->PP
set_option linter.all false
set_option maxRecDepth 100000
set_option Elab.async false
set_option maxHeartbeats 4000000
abbrev Z4:=PySem.Value->PySem.Shared->Prop
abbrev Xy:=List (PySem.Addr×PySem.Obj)
abbrev Xg:=List (List PySem.Addr)
abbrev Xd:=PySem.W.Frag
abbrev X6:=PySem.Str->Option PySem.Value
abbrev X7:=List PySem.Addr
abbrev Wf:=List PySem.Value
abbrev We:=Option PySem.Value
abbrev Wc:=List Nat
abbrev Wb:=List Int
abbrev Wa:=List (List (List Nat))
abbrev Zq:=@if_pos
abbrev Zp:=@if_neg
abbrev ZZ:=@decide_eq_false
abbrev ZL:=@beq_eq_false_iff_ne
open Option renaming bind_eq_some_iff->Zz,map_eq_some_iff->Zy,bind_some->Zx,isSome_iff_exists->Yt,isSome_map->Yh,getD_some->Y1
open List renaming length_map->Zw,length_append->Zv,mem_cons_of_mem->Zu,mem_cons_self->Zt,getD_eq_getElem?_getD->Zs,getElem?_eq_getElem->Zr,map_cons->Zo,length_cons->Zl,mem_cons->Zi,getElem?_eq_some_iff->Zh,append_nil->Zg,nodup_cons->Zf,size_toArray->Ze,length_singleton->Zc,mem_singleton->Zb,mem_append->ZY,zip_cons_cons->ZX,flatten_cons->ZV,getElem?_map->ZS,nodup_append->ZP,mem_append_right->ZK,append_assoc->ZI,map_append->ZF,suffix_refl->ZD,length_range->ZC,getElem?_append_left->ZA,map_map->Z0,length_drop->Z1,getElem?_eq_none->Z2,getElem?_eq_none_iff->Z3,nodup_nil->Z5,flatten_append->Z7,length_set->Z8,find?_cons->Z9,getElem_mem->Yy,getElem?_append_right->Yx,all_eq_true->Yw,sublist_cons_self->Yu,lookup_cons->Ys,filterMap_cons->Yr,mem_map->Yq,getElem?_set_ne->Yp,length_zip->Yo,mem_of_getElem?->Yj,mem_append_left->Yi,getElem?_replicate->Yd,nil_append->Yc,any_cons->YY,sublist_append_right->YU,getElem?_zip_eq_some->YT,suffix_nil->YS,foldl_cons->YR,reverse_reverse->YQ,sum_cons->YO,getD_cons_succ->YN,mem_range->YL,length_eq_zero_iff->YK,take_of_length_le->YH,drop_of_length_le->YG,nil_suffix->YE,length_replicate->YC,mem_reverse->Y2,any_eq_true->Y3,replicate_succ->Y5,length_reverse->Y6,length_pos_iff->Y7,idxOf_lt_length_iff->Y8,mem_filter->Xz,getElem?_set_self->Xs,getElem?_toArray->Xn,cons_lt_cons_iff->Xm,all_cons->Xk,take_succ_cons->Xh,length_range'->Xc,drop_drop->Xb,length_take->XS,cons_append->XR,map_set->XQ,set_getElem_self->XI,cons_prefix_cons->XH,map_congr_left->XE,pairwise_cons->X1,mem_filterMap->X2,getElem_idxOf->X3,findIdx?_cons->X4,pairwise_map->Wv,map_nil->Wu,getElem?_set->Wt,all_map->Ws,take_length->Wm,not_mem_nil->Wk,mem_flatten->Wj,map_fst_zip->Wi,flatten_nil->Wh,append_cons->Wg
open Option.some renaming inj->Zn
open Nat renaming le_refl->Zm,ne_of_lt->ZW,lt_of_lt_of_le->ZR,le_of_not_lt->ZQ,le_trans->ZJ,lt_succ_self->Yz,lt_of_succ_lt_succ->Yn,zero_le->Ym,le_add_right->Yk,lt_irrefl->Yf,lt_succ_of_lt->Ye,succ_le_succ->YX,pos_of_ne_zero->YW,add_sub_cancel->YI,min_eq_left->YF,not_lt_zero->Y9,le_of_lt->Xu,le_of_not_le->Xl,le_succ->Xj,le_antisymm->Xi,le_of_eq->Xf,lt_of_le_of_lt->X0,succ_pos->X8,ne_of_gt->X9,lt_trans->Wz,le_succ_of_le->Wy,add_sub_of_le->Wx,add_comm->Ww,min_eq_right->Wp
open PySem.Heap renaming get?_push_of_some->Zk,get?_push_size->ZU,lt_size->ZM,get?_update_other->XD,size_push->Wr
open PySem renaming wpAny_bind->Zj,wpAny_pure->ZO,wpAny_truthy_bool->YZ,wpAny_mono->YB,wpAny_passesOwn->YA,mem_of_lookup->Y4,wpAny_holding->Xw,wpAny_Call_Name_kw->Xq,tupleKind_room_in1->Xp,sizeLine_eq->Xo,wpAny_typeNameOfWhole_keyiter->Xe,wpAny_newObj_type->XM,wpAny_call_entry->XG,wpAny_execs_nil->XC
open Bool renaming and_eq_true->Zd,false_ne_true->Za,eq_iff_iff->Yb,false_eq_true->X5
open PySem.W renaming mg_of->ZE,mg_none_of->Yv,kia_one->Yl,plainGet_of->XF,callWith_K->XA
open PySem.PassesOwn renaming never->Z6
open Array renaming getElem?_toList->Yg,length_toList->YM
open Ne renaming symm->Ya
open Int renaming emod_lt_of_pos->YV,emod_nonneg->YD,toNat_natCast->XZ
open PySem.F renaming slot_dict_keyiterator_next->Y0,type_list_append->XX,slot_list_append->XW,plainAttrs_list->XT,slot_tuple_getattribute->XO,slot_dict_get->XJ
open PySem.Paired renaming length->Xv
open List.Sublist renaming refl->Xr
open Prod.mk renaming inj->Xa
open PySem.Around renaming under_plainId->Wq
section
namespace L2
def kD{G:Prop}(h:∀P:Prop,(G->P)->P):G:=h G id
end L2
namespace VS
abbrev Tx:=Wc
inductive T where
 |non | bl (b:Bool) | int (i:Int) | str (s:Tx) | scr (ns:Wb)
 |tup (l:List T) | lst (l:List T) | dct (kd:Nat) (l:List (T×T)) | obj (c:Nat) (fs:List (Nat×T))
 deriving Inhabited
abbrev W5:=List T
def eY:Nat:=16777216
mutual
def GR:T->Bool
 |.lst _=>B
 |.dct _ _=>B
 |.obj _ _=>B
 |.tup l=>d6 l
 |_=>R
@[simp] def d6:W5->Bool
 |[]=>R
 |t :: r=>GR t&&d6 r
end
mutual
@[simp] def eqT:T->T->Bool
 |.non,.non=>R
 |.bl a,.bl b=>a==b
 |.bl a,.int i=>(if a then 1 else 0)==i
 |.int i,.bl a=>i==(if a then 1 else 0)
 |.int i,.int j=>i==j
 |.str s,.str t=>s==t
 |.tup a,.tup b=>tD a b
 |.lst a,.lst b=>tD a b
 |_,_=>B
def tD:W5->W5->Bool
 |[],[]=>R
 |a :: d,b :: bs=>eqT a b&&tD d bs
 |_,_=>B
end
@[simp] def HJ:Nat->T->Bool
 |_,.non=>R
 |_,.bl _=>R
 |_,.int _=>R
 |_,.str _=>R
 |n+1,.tup l=>l.all (HJ n)
 |n+1,.lst l=>l.all (HJ n)
 |_,_=>B
inductive Md where | fr | pu | bo
 deriving DecidableEq,Inhabited
@[simp] def Md.join:Md->Md->Md
 |.bo,_=>.bo
 |_,.bo=>.bo
 |.pu,_=>.pu
 |_,.pu=>.pu
 |.fr,.fr=>.fr
inductive Cell where | pu (t:T) | ow (t:T)
 deriving Inhabited
abbrev W0:=Option Cell
abbrev Env:=List (W0)
abbrev Val:=Md×T
abbrev W4:=Option Val
abbrev W3:=List Val
abbrev Ex:=Env->W4
abbrev Hf:=Env->Option (W3)
@[simp] def up(m:Md)(t:T):Val:=(if GR t then .fr else m,t)
def oQ:T->Bool
 |.lst _=>R
 |.dct _ _=>R
 |.obj _ _=>R
 |_=>B
@[simp] def cellOf:Val->W0
 | (.fr,t)=>Z (if oQ t then .ow t else .pu t)
 | (.pu,t)=>Z (.pu t)
 | (.bo,_)=>L
inductive Out where | nx (U:Env) | rt (v:Val) (U:Env) | bk (U:Env) | ct (U:Env)
abbrev Sx:=Env->Option Out
@[simp] def eC(t:T)(_:Env):W4:=Z (.fr,t)
abbrev Q2(i:Int):Ex:=eC (.int i)
@[simp] def aa(i:Nat)(U:Env):W4:=match U[i]? with
 |some (some (.pu t))=>Z (up .pu t)
 |some (some (.ow t))=>Z (.bo,t)
 |_=>L
@[simp] def e1(f:Val->W4)(a:Ex)(U:Env):W4:=(a U).bind f
@[simp] def e2(f:Val->Val->W4)(a b:Ex)(U:Env):W4:=(a U).bind λx=>(b U).bind λy=>f x y
@[simp] def ah(_:Env):Option (W3):=Z []
@[simp] def ab(a:Ex)(r:Hf)(U:Env):Option (W3):=(a U).bind λx=>(r U).bind λxs=>Z (x :: xs)
@[simp] def eN(f:W3->W4)(a:Hf)(U:Env):W4:=(a U).bind f
@[simp] def cK:W3->Md
 |[]=>.fr
 |v :: r=>v.1.join (cK r)
@[simp] def trees(l:W3):W5:=l.map (·.2)
def Jz(m:Md)(l:W5):W4:=if l.length<=eY then Z (if d6 l then .fr else m,.lst l) else L
@[simp] def dk(a:Hf)(U:Env):W4:=(a U).bind λl=>Jz (cK l) (trees l)
def sL(l:W3):W4:=if l.length<=eY then Z (up (cK l) (.tup (trees l))) else L
@[simp] def mR(a:Hf)(U:Env):W4:=(a U).bind sL
def dput(l:List (T×T))(k v:T):List (T×T):=if l.any (λp=>eqT p.1 k) then l.map (λp=>if eqT p.1 k then (p.1,v) else p) else l++[(k,v)]
def iU:T->Bool
 |.int _=>R
 |.str _=>R
 |_=>B
def keyOk:Nat->T->Bool
 |0,t=>iU t
 |1,.tup l=>l.all iU
 |_,_=>B
def pairs:List (Ex×Ex)->Env->Option (List (Val×Val))
 |[],_=>Z []
 | (a,b) :: r,U=>(a U).bind λx=>(b U).bind λy=>(pairs r U).map ((x,y) :: ·)
def r6(a:Nat)(b:List (Ex×Ex))(U:Env):W4:=(pairs b U).bind λl=>if l.all (λp=>keyOk a p.1.2)/\l.length<=15 then
 Z (cK (l.map (·.2)),.dct a (l.foldl (λd p=>dput d p.1.2 p.2.2) [])) else L
def Nb:T->Option Bool
 |.bl b=>Z b
 |.int i=>Z (i != 0)
 |.str s=>Z (!s.isEmpty)
 |.lst l=>Z (!l.isEmpty)
 |.tup l=>Z (!l.isEmpty)
 |.dct 0 l=>Z (!l.isEmpty)
 |.non=>Z B
 |_=>L
@[simp] def g8(a b:Ex)(U:Env):W4:=(a U).bind λx=>match x.2 with
 |.bl true=>b U
 |.bl false=>Z (.fr,.bl B)
 |_=>L
@[simp] def KZ(a b:Ex)(U:Env):W4:=(a U).bind λx=>match x.2 with
 |.bl true=>Z (.fr,.bl R)
 |.bl false=>b U
 |_=>L
@[simp] def nU(a:Ex)(U:Env):W4:=(a U).bind λx=>match x.2 with
 |.bl b=>Z (.fr,.bl (!b))
 |_=>L
def MA:T->Bool
 |.non=>R
 |_=>B
@[simp] def sA(a:Ex)(U:Env):W4:=(a U).bind λx=>Z (.fr,.bl (MA x.2))
@[simp] def cY(a:Ex)(U:Env):W4:=(a U).bind λx=>Z (.fr,.bl (!MA x.2))
@[simp] def fh(f g:Val->Val->W4)(a b c:Ex)(U:Env):W4:=(a U).bind λx=>(b U).bind λy=>(f x y).bind λr=>match r.2 with
 |.bl true=>(c U).bind λz=>g y z
 |.bl false=>Z (.fr,.bl B)
 |_=>L
@[simp] def int?:T->Option Int
 |.int i=>Z i
 |_=>L
def ba:Val->Val->W4
 | (_,.int i),(_,.int j)=>Z (.fr,.int (i+j))
 | (_,.str s),(_,.str t)=>if s.length+t.length<=eY then Z (.fr,.str (s++t)) else L
 | (m,.lst s),(n,.lst t)=>Jz (m.join n) (s++t)
 |_,_=>L
@[simp] def oG:Val->Val->W4
 | (_,.int i),(_,.int j)=>Z (.fr,.int (i-j))
 |_,_=>L
def LL:Int:=4611686018427387904
def OL:Int:=18446744073709551616
def gH:Val->Val->W4
 | (_,.int i),(_,.int j)=>if (-OL<i/\i<OL)\/(-OL<j/\j<OL) then Z (.fr,.int (i*j)) else L
 |_,_=>L
def uH:Val->Val->W4
 | (_,.str s),(_,.int j)=>if s.length*j.toNat<=eY/\-LL<=j/\j<LL then Z (.fr,.str (List.replicate j.toNat s).flatten) else L
 |_,_=>L
def jK:Val->Val->W4
 | (_,.int i),(_,.int j)=>if 0<j/\j<1073741824 then Z (.fr,.int (i/j)) else L
 |_,_=>L
def oMod:Val->Val->W4
 | (_,.int i),(_,.int j)=>if 0<j then Z (.fr,.int (i%j)) else L
 |_,_=>L
def Kk:Tx->Tx->Bool
 |[],[]=>B
 |[],_ :: _=>R
 |_ :: _,[]=>B
 |a :: d,b :: bs=>if a<b then R else if b<a then B else Kk d bs
@[simp] def oLt:Val->Val->W4
 | (_,.int i),(_,.int j)=>Z (.fr,.bl (decide (i<j)))
 | (_,.str s),(_,.str t)=>Z (.fr,.bl (Kk s t))
 |_,_=>L
@[simp] def oLe:Val->Val->W4
 | (_,.int i),(_,.int j)=>Z (.fr,.bl (decide (i<=j)))
 | (_,.str s),(_,.str t)=>Z (.fr,.bl (!Kk t s))
 |_,_=>L
@[simp] def Jy(a b:Val):W4:=oLt b a
@[simp] def Mp(a b:Val):W4:=oLe b a
@[simp] def oEq(a b:Val):W4:=if HJ 60 a.2/\HJ 60 b.2 then Z (.fr,.bl (eqT a.2 b.2)) else L
@[simp] def JR(a b:Val):W4:=if HJ 60 a.2/\HJ 60 b.2 then Z (.fr,.bl (!eqT a.2 b.2)) else L
def fI(l:List (T×T))(k:T):Option T:=(l.find? λp=>eqT p.1 k).map (·.2)
def HI(n:Nat)(i:Int):Option Nat:=if 0<=i then (if i<n then Z i.toNat else L) else (if 0<=i+n then Z (i+n).toNat else L)
@[simp] def sub(m:Md)(t:T):Val:=up m t
@[simp] def aB:Val->Val->W4
 | (m,.lst l),(_,.int i)=>(HI l.length i).bind λk=>(l[k]?).map (sub m)
 | (m,.tup l),(_,.int i)=>(HI l.length i).bind λk=>(l[k]?).map (sub m)
 | (_,.scr l),(_,.int i)=>(HI l.length i).bind λk=>(l[k]?).map λn=>(.fr,.int n)
 | (_,.str l),(_,.int i)=>(HI l.length i).bind λk=>(l[k]?).map λn=>(.fr,.str [n])
 |_,_=>L
def clip(n:Nat)(i:Int):Nat:=if i<0 then (i+n).toNat else min i.toNat n
def cut{α:Type}(l:List α)(a b:Option Int):List α :=
 let lo:=match a with | none=>0 | some i=>clip l.length i
 let d:=match b with | none=>l.length | some i=>clip l.length i
 (l.drop lo).take (d-lo)
@[simp] def Sq(v:Val)(a b:Option Int):W4:=match v with
 | (_,.str s)=>Z (.fr,.str (cut s a b))
 | (m,.lst l)=>Jz m (cut l a b)
 |_=>L
@[simp] def kW(c:Option Ex)(U:Env):Option (Option Int):=match c with
 |none=>Z L
 |some e=>(e U).bind λy=>(int? y.2).map Z
@[simp] def Kd(a:Ex)(b d:Option Ex)(U:Env):W4:=(a U).bind λx=>(kW b U).bind λl=>(kW d U).bind λh=>Sq x l h
def Gg:T->Option Nat
 |.lst l=>Z l.length
 |.tup l=>Z l.length
 |.str l=>Z l.length
 |.scr l=>Z l.length
 |.dct 0 l=>Z l.length
 |_=>L
@[simp] def bu:W3->W4
 |[x]=>(Gg x.2).map λn=>(.fr,.int n)
 |_=>L
@[simp] def rA:W3->W4
 |[(_,.int i),(_,.int j)]=>Z (.fr,.int (if j<i then j else i))
 |_=>L
def l5:W5->Option (Wb)
 |[]=>Z []
 |.int i :: r=>(l5 r).map (i :: ·)
 |_=>L
def strs?:W5->Option (List Tx)
 |[]=>Z []
 |.str i :: r=>(strs? r).map (i :: ·)
 |_=>L
def wQ:W3->W4
 |[(_,.lst l)]=>(l5 l).bind λa=>Z (.fr,.int a.sum)
 |_=>L
@[simp] def BQ:W3->W4
 |[(m,.lst l)]=>Jz m l
 |[(m,.tup l)]=>Jz m l
 |_=>L
def ko:W3->W4
 |[(m,.lst l)]=>if l.length<=eY then Z (up m (.tup l)) else L
 |_=>L
def oy(x:Tx):List Tx->List Tx
 |[]=>[x]
 |y :: r=>if Kk y x then y :: oy x r else x :: y :: r
def eX(l:List Tx):List Tx:=l.foldr oy []
inductive Ty where | int | str | bool | list | tuple | dict
@[simp] def qX:Ty->T->Bool
 |.int,.int _=>R
 |.int,.bl _=>R
 |.bool,.bl _=>R
 |.str,.str _=>R
 |.list,.lst _=>R
 |.tuple,.tup _=>R
 |.dict,.dct _ _=>R
 |_,_=>B
@[simp] def uG:T->Bool
 |.obj _ _=>B
 |.scr _=>B
 |.dct 0 _=>R
 |.dct 1 _=>R
 |.dct _ _=>B
 |_=>R
@[simp] def Ot(t:Ty)(a:Ex)(U:Env):W4:=(a U).bind λx=>if uG x.2 then Z (.fr,.bl (qX t x.2)) else L
def total:List Tx->Nat
 |[]=>0
 |x :: r=>x.length+total r
def dA(a:Tx):List Tx->Tx
 |[]=>[]
 |[x]=>x
 |x :: r=>x++a++dA a r
def jI:Val->W3->W4
 | (_,.str sep),[(_,.lst l)]=>(strs? l).bind λa=>if total a+a.length*sep.length<=eY then Z (.fr,.str (dA sep a)) else L
 |_,_=>L
@[simp] def eM(f:Val->W3->W4)(o:Ex)(b:Hf)(U:Env):W4:=(o U).bind λx=>(b U).bind λa=>f x a
abbrev Fn:=W5->W4
@[simp] def bh(g:Fn)(b:Hf)(U:Env):W4:=(b U).bind λa=>(g (trees a)).bind λr=>match r with
 | (.fr,t)=>Z (.fr,t)
 | (_,t)=>Z ((Md.pu).join (cK a),t)
abbrev JB:=Env->Option (Md×W5)
def D6:Val->Option (Md×W5)
 | (m,.lst l)=>Z (m,l)
 | (m,.tup l)=>Z (m,l)
 | (_,.str l)=>Z (.fr,l.map λc=>.str [c])
 |_=>L
@[simp] def hZ(a:Ex)(U:Env):Option (Md×W5):=(a U).bind D6
def rng(a:Int)(n:Nat):W5:=(List.range n).map λ(k:Nat)=>T.int (a+k)
def df(a:Ex)(U:Env):Option (Md×W5):=(a U).bind λx=>(int? x.2).bind λj=>if -LL<=j/\j<LL then Z (.fr,rng 0 j.toNat) else L
abbrev Tg:=T->Env->Option Env
@[simp] def bL(i:Nat)(t:T)(U:Env):Option Env:=if i<U.length then Z (U.set i (Z (.pu t))) else L
@[simp] def Sl(m:Md)(l:W5):Bool:=match m with
 |.bo=>d6 l
 |_=>R
def nr(e:Tg)(a:Option Ex)(d:Ex)(U:Env):W5->Option (W3)
 |[]=>Z []
 |t :: r=>(e t U).bind λf=>(match a with | none=>some true | some c=>(c f).bind λx=>Nb x.2).bind λb =>
  if b then (d f).bind λv=>(nr e a d U r).map (v :: ·) else nr e a d U r
def gy(k:Nat)(tg:Tg)(e:JB)(a:Option Ex)(b:Ex)(U:Env):W4:=(e U).bind λ(m,l)=>if Sl m l then
 (nr tg a b (List.replicate k L++U) l).bind λd=>Jz (cK d) (trees d) else L
@[simp] def dc(U:Env):Option Out:=Z (.nx U)
@[simp] def ak(a b:Sx)(U:Env):Option Out:=(a U).bind λo=>match o with
 |.nx d=>b d
 |o=>Z o
@[simp] def j5(i:Nat)(e:Ex)(U:Env):Option Out:=(e U).bind λv=>(cellOf v).bind λc=>if i<U.length then Z (.nx (U.set i (Z c))) else L
@[simp] def aK(i:Nat)(e:Ex)(U:Env):Option Out:=(e U).bind λv=>match v.1 with
 |.bo=>L
 |_=>if i<U.length then Z (.nx (U.set i (Z (.pu v.2)))) else L
@[simp] def eK(e:Ex)(U:Env):Option Out:=(e U).bind λv=>Z (.rt (match v.1 with | .bo=>.pu | m=>m,v.2) U)
@[simp] def eI(i:Nat)(U:Env):Option Out:=match U[i]? with
 |some (some (.ow t))=>Z (.rt (.fr,t) (U.set i L))
 |some (some (.pu t))=>Z (.rt (up .pu t) U)
 |_=>L
@[simp] def Hx(c:Ex)(a b:Sx)(U:Env):Option Out:=(c U).bind λx=>(Nb x.2).bind λt=>if t then a U else b U
def forL(d:Tg)(a:Sx):W5->Env->Option Out
 |[],U=>Z (.nx U)
 |t :: r,U=>(d t U).bind λe=>(a e).bind λo=>match o with
  |.nx b=>forL d a r b
  |.ct b=>forL d a r b
  |.bk b=>Z (.nx b)
  |.rt v b=>Z (.rt v b)
@[simp] def Sn:Md->Bool
 |.bo=>B
 |_=>R
@[simp] def gS(b:Tg)(d:JB)(a:Sx)(U:Env):Option Out:=(d U).bind λ(m,l)=>if Sn m then forL b a l U else L
def da(c:Ex)(a:Sx):Nat->Env->Option Out
 |0,_=>L
 |n+1,U=>(c U).bind λx=>(Nb x.2).bind λt=>if t then (a U).bind λo=>match o with
  |.nx b=>da c a n b
  |.ct b=>da c a n b
  |.bk b=>Z (.nx b)
  |.rt v b=>Z (.rt v b)
  else Z (.nx U)
def t5:Nat:=1000000
def jM(c:Ex)(a:Sx)(U:Env):Option Out:=da c a t5 U
@[simp] def wZ(i:Nat)(U:Env):Option Out:=match U[i]? with
 |some (some (.ow t))=>Z (.nx (U.set i (Z (.pu t))))
 |some (some (.pu _))=>Z (.nx U)
 |_=>L
inductive Jg where | fld (k:Nat) | ix (e:Ex) | un
inductive Ky where | fld (k:Nat) | at (t:T) | un
def keys:List Jg->Env->Option (List Ky)
 |[],_=>Z []
 |.fld k :: r,U=>(keys r U).map (.fld k :: ·)
 |.ix e :: r,U=>(e U).bind λx=>(keys r U).map (.at x.2 :: ·)
 |.un :: r,U=>(keys r U).map (.un :: ·)
def Gz(a:List (Nat×T))(k:Nat):Option T:=a.lookup k
def GF(a:List (Nat×T))(k:Nat)(v:T):List (Nat×T):=if a.any (λp=>p.1==k) then a.map (λp=>if p.1==k then (p.1,v) else p) else a++[(k,v)]
noncomputable def AJ{α:Type}(f:T->Option (T×α)):List Ky->T->Option (T×α)
 |[],t=>f t
 |.fld k :: r,.obj c fs=>(Gz fs k).bind λx=>(AJ f r x).map λ(y,a)=>(.obj c (GF fs k y),a)
 |.at (.int i) :: r,.lst l=>(HI l.length i).bind λj=>(l[j]?).bind λx=>(AJ f r x).map λ(y,a)=>(.lst (l.set j y),a)
 |.at k :: r,.dct d l=>(fI l k).bind λx=>(AJ f r x).map λ(y,a)=>(.dct d (dput l k y),a)
 |_,_=>L
abbrev Xx:=Env->Option (Val×Env)
@[simp] def xP(e:Ex)(U:Env):Option (Val×Env):=(e U).map λv=>(v,U)
@[simp] noncomputable def mh(i:Nat)(a:List Jg)(f:T->W3->Option (T×Val))(g:Hf)(U:Env):Option (Val×Env):=match U[i]? with
 |some (some (.ow t))=>(keys a U).bind λe=>(g U).bind λb=>(AJ (λx=>f x b) e t).map λ(d,v)=>(v,U.set i (Z (.ow d)))
 |_=>L
@[simp] def fit(v:Val):Option T:=match v.1 with
 |.fr=>Z v.2
 |_=>L
def aF:T->W3->Option (T×Val)
 |.lst l,[v]=>(fit v).bind λt=>if l.length<eY then Z (.lst (l++[t]),(.fr,.non)) else L
 |_,_=>L
@[simp] def sX(x:Xx)(U:Env):Option Out:=(x U).map λr=>.nx r.2
@[simp] def fn(d e:Nat)(a:Sx):Fn:=λb=>if b.length=d then
 (a (b.map (λt=>Z (.pu t))++List.replicate (e-d) L)).bind λo=>match o with
  |.rt v _=>Z v
  |.nx _=>Z (.fr,.non)
  |_=>L else L
def jl{m n:Md}{s t:Tx}(h:s.length+t.length<=16777216):ba (m,.str s) (n,.str t)=Z (.fr,.str (s++t)):=Zq h
def jZ{m n:Md}{i j:Int}(h:-18446744073709551616<i/\i<18446744073709551616):gH (m,.int i) (n,.int j)=Z (.fr,.int (i*j)):=Zq (.inl h)
def kC{m n:Md}{i j:Int}(h:0<j/\j<1073741824):jK (m,.int i) (n,.int j)=Z (.fr,.int (i/j)):=Zq h
def fX{m n:Md}{i j:Int}(h:0<j):oMod (m,.int i) (n,.int j)=Z (.fr,.int (i%j)):=Zq h
def eV{l:W5}{t:T}(h:l.length<16777216):aF (.lst l) [(.fr,t)]=Z (.lst (l++[t]),(.fr,.non)):=by
 simp only[aF,fit,Zx];exact Zq h
def gv{a:Ex}{U:Env}{m:Md}{j:Int}(e:a U=Z (m,.int j))(h:-4611686018427387904<=j/\j<4611686018427387904):df a U=Z (.fr,rng 0 j.toNat):=by
 simp only[df,e,Zx,int?];exact Zq h
def yg{m:Md}{l:W5}(h:l.length<=16777216):Jz m l=Z (if d6 l then .fr else m,.lst l):=Zq h
def fY{b:Tg}{a:Sx}{t:T}{r:W5}{U U1 d:Env}(f:b t U=Z U1)(e:a U1=Z (.nx d)):forL b a (t :: r) U=forL b a r d:=by
 simp[forL,f,e]
def uJ{b:Tg}{a:Sx}{t:T}{r:W5}{U e d:Env}{v:Val}(g:b t U=Z e)(f:a e=Z (.rt v d)):forL b a (t :: r) U=Z (.rt v d):=by
 simp[forL,g,f]
theorem strs_map{α:Type}(f:α->Tx):∀l:List α,strs? (l.map λx=>T.str (f x))=Z (l.map f)
 |[]=>rfl
 |a :: r=>by simp[strs?,strs_map f r]
theorem ints_map{α:Type}(f:α->Int):∀l:List α,l5 (l.map λx=>T.int (f x))=Z (l.map f)
 |[]=>rfl
 |a :: r=>by simp[l5,ints_map f r]
theorem oa:∀a:List Tx,dA [] a=a.flatten
 |[]=>rfl
 |[x]=>by simp[dA]
 |x :: y :: r=>by
  have:=oa (y :: r);simp[dA]at this ⊢;exact this
theorem m6:∀a:List Tx,total a=a.flatten.length
 |[]=>rfl
 |x :: r=>by simp[total,m6 r]
def o5{m n:Md}{l:W5}{a:List Tx}(e:strs? l=Z a)(b:a.flatten.length<=16777216):jI (m,.str []) [(n,.lst l)]=Z (.fr,.str a.flatten):=by
 simp only[jI,Zx,e,oa];refine Zq ?_;rw[m6];show _<=16777216;simpa using b
def fU{α:Type}(l:List α):(l.map λx=>[x]).flatten=l:=by
 induction l with
 |nil=>rfl
 |cons a r b=>rw[Zo,ZV,b];rfl
def i8(n:Nat):rng 0 n=(List.range n).map λ(k:Nat)=>T.int (k:Int):=by
 unfold rng;simp
theorem kh{α:Type}(f:α->T)(h:∀x,GR (f x)=R):∀l:List α,d6 (l.map f)=R
 |[]=>rfl
 |a :: r=>by simp[h,kh f h r]
theorem oJ{α:Type}{i:Tg}{d:Ex}{U:Env}(g:α->T)(f:α->Val):∀l:List α,(∀a∈l,∃e,i (g a) U=Z e/\d e=Z (f a))->nr i L d U (l.map g)=Z (l.map f)
 |[],_=>rfl
 |a :: r,h=>by
  obtain⟨e,m,j⟩:=h a Zt;simp[nr,m,j,oJ g f r λb hb=>h b (Zu _ hb)]
theorem rM{α:Type}(f:α->T):∀l:List α,cK (l.map λa=>(Md.fr,f a))=.fr
 |[]=>rfl
 |a :: r=>by simp[rM f r]
def we{α:Type}(f:α->Val)(l:List α):trees (l.map f)=l.map λa=>(f a).2:=by simp
def gg{α:Type}{k:Nat}{tg:Tg}{it:JB}{elt:Ex}{U:Env}{m:Md}(g:α->T)(f:α->T)(l:List α)(i:it U=Z (m,l.map g))(e:Sl m (l.map g)=R)(d:l.length<=16777216)(h:∀a∈l,∃b,tg (g a) (List.replicate k L++U)=Z b/\elt b=Z (.fr,f a)):gy k tg it L elt U=Z (.fr,.lst (l.map f)):=by
 simp only[gy,i,Zx];rw[Zq e,oJ g (λa=>(Md.fr,f a)) l h];simp only[Zx,rM,we];rw[yg (by rw[Zw];exact d)];simp
end VS
end
section
namespace L2
open PySem PySem.Spec PyProof.Rows
abbrev Key:=Sum Int Str
def lX:Key->KM->Bool
 |.inl k,v=>Value.isInt k v
 |.inr x,v=>Value.isStrOf x v
def Gb(w:SZ):Key->Int
 |.inl k=>hashInt k
 |.inr x=>hashStr w x
theorem bW:∀{k:Key}{v:KM},lX k v=R->(∃i t,k=Sum.inl i/\v=Value.int i t)\/(∃x t,k=Sum.inr x/\v=Value.str x t)
 |.inl i,v,h=>by
  obtain⟨t,e⟩:=Value.isInt_shape (k:=i) (v:=v) h;exact .inl ⟨i,t,rfl,e⟩
 |.inr x,v,h=>by
  obtain⟨t,e⟩:=Value.isStrOf_shape (x:=x) (v:=v) h;exact .inr ⟨x,t,rfl,e⟩
def wc(i:Int)(t:Tok):lX (.inl i) (.int i t)=R:=by simp[lX,Value.isInt]
def wa(x:Str)(t:Tok):lX (.inr x) (.str x t)=R:=by simp[lX,Value.isStrOf]
def Ei(a b:Int):decide ((Sum.inl a:Key)=Sum.inl b)=(a==b):=by
 by_cases e:a=b
 ·subst e;simp
 ·have h:¬(Sum.inl a:Key)=Sum.inl b:=λq=>e (Sum.inl.inj q);rw[ZZ h];exact(ZL.mpr e).symm
def Dk(a b:Str):decide ((Sum.inr a:Key)=Sum.inr b)=decide (a=b):=by
 by_cases e:a=b
 ·subst e;simp
 ·have h:¬(Sum.inr a:Key)=Sum.inr b:=λq=>e (Sum.inr.inj q);rw[ZZ h,ZZ e]
def DS(a:Int)(b:Str):decide ((Sum.inl a:Key)=Sum.inr b)=B:=ZZ (λq=>nomatch q)
def CJ(a:Str)(b:Int):decide ((Sum.inr a:Key)=Sum.inl b)=B:=ZZ (λq=>nomatch q)
noncomputable def aP(d:P3)(w:SZ):PySem.KeyKind d w Key where
 is:=lX
 hash:=Gb w
 inj:=λv a b l hb=>by
  rcases bW l with⟨i,t,rfl,rfl⟩ | ⟨x,t,rfl,rfl⟩
  ·rcases bW hb with⟨j,u,rfl,e⟩ | ⟨y,u,rfl,e⟩
   ·injection e with e1 _;rw[e1]
   ·exact nomatch e
  ·rcases bW hb with⟨j,u,rfl,e⟩ | ⟨y,u,rfl,e⟩
   ·exact nomatch e
   ·injection e with e1 _;rw[e1]
 byValue:=λk v h=>by
  rcases bW h with⟨i,t,rfl,rfl⟩ | ⟨x,t,rfl,rfl⟩<;>rfl
 pyHash:=λf h=>by
  rcases bW f with⟨i,t,rfl,rfl⟩ | ⟨x,t,rfl,rfl⟩
  ·exact wpAny_pyHash_int h
  ·exact wpAny_pyHash_str h
 eqBool:=λg f h=>by
  rcases bW g with⟨i,t,rfl,rfl⟩ | ⟨x,t,rfl,rfl⟩
  ·rcases bW f with⟨j,u,rfl,rfl⟩ | ⟨y,u,rfl,rfl⟩
   ·rw[Ei]at h;exact wpAny_eqBool_int h
   ·rw[DS]at h;exact SeqAt.EqAt.int_str i t y u _ _ _ _ h
  ·rcases bW f with⟨j,u,rfl,rfl⟩ | ⟨y,u,rfl,rfl⟩
   ·rw[CJ]at h;exact SeqAt.EqAt.str_int x t j u _ _ _ _ h
   ·rw[Dk]at h;exact wpAny_eqBool_str h
 «strs» := λk x t v h=>by
  rcases bW h with⟨i,u,rfl,e⟩ | ⟨y,u,rfl,e⟩
  ·exact nomatch e
  ·injection e with e1 _
   subst e1;cases v<;>rfl
def rL(a:P3)(w:SZ)(i:Int)(t:Tok):(aP a w).is (.inl i) (.int i t)=R:=wc i t
def sF(a:P3)(w:SZ)(x:Str)(t:Tok):(aP a w).is (.inr x) (.str x t)=R:=wa x t
inductive V where
 |non | bl (b:Bool) | int (i:Int) | str (x:Str) | byt (b:Array UInt8) | flt (b:UInt64) | ref (a:KF) | ty (n:String)
 deriving DecidableEq
def RelV:V->KM->Prop
 |.non,u=>u=Value.none
 |.bl b,u=>u=Value.bool b
 |.int i,u=>∃t,u=Value.int i t
 |.str x,u=>∃t,u=Value.str x t
 |.byt b,u=>∃t,u=Value.bytes b t
 |.flt b,u=>∃t,u=Value.float b t
 |.ref a,u=>u=Value.ref a
 |.ty n,u=>u=Value.type n
abbrev aQ:List V->Wf->Prop:=Paired RelV
theorem aQ.length{xs:List V}{a:Wf}(r:aQ xs a):xs.length=a.length:=Xv r
theorem aQ.get:∀{a:List V}{b:Wf}{i:Nat}{x:V},aQ a b->a[i]?=Z x->∃u,b[i]?=Z u/\RelV x u
 |_,_,_,_,.nil,e=>by simp at e
 |_,_,0,_,.cons r _,e=>by simp at e;subst e;exact⟨_,rfl,r⟩
 |_,_,i+1,x,.cons _ t,e=>by
  obtain⟨u,f,d⟩:=aQ.get (i:=i) (x:=x) t (by simpa using e);exact⟨u,by simpa using f,d⟩
theorem aQ.set{x:V}{u:KM}(r:RelV x u):∀{a:List V}{b:Wf}(i:Nat),aQ a b->aQ (a.set i x) (b.set i u)
 |_,_,_,.nil=>.nil
 |_,_,0,.cons _ t=>.cons r t
 |_,_,i+1,.cons q t=>.cons q (aQ.set r i t)
theorem aQ.append:∀{b a:List V}{e d:Wf},aQ b e->aQ a d->aQ (b++a) (e++d)
 |_,_,_,_,.nil,s=>s
 |_,_,_,_,.cons r t,s=>.cons r (aQ.append t s)
theorem aQ.take:∀{a:List V}{b:Wf}(n:Nat),aQ a b->aQ (a.take n) (b.take n)
 |_,_,0,_=>.nil
 |_,_,_+1,.nil=>.nil
 |_,_,n+1,.cons r t=>.cons r (aQ.take n t)
theorem aQ.drop:∀{a:List V}{b:Wf}(n:Nat),aQ a b->aQ (a.drop n) (b.drop n)
 |_,_,0,r=>r
 |_,_,_+1,.nil=>.nil
 |_,_,n+1,.cons _ t=>aQ.drop n t
def aQ.none_of:∀{a:List V}{b:Wf}{i:Nat},aQ a b->a[i]?=L->b[i]?=L:=λ{a b i} r e=>by
 have f:=r.length;have d:a.length<=i:=Z3.mp e;exact Z3.mpr (by lia)
def iP:Option V->We->Prop
 |some v,some u=>RelV v u
 |none,none=>True
 |_,_=>False
def KV{κ:Type}:List (κ×V)->List (κ×KM)->Prop:=Paired λ(p:κ×V) (q:κ×KM)=>p.1=q.1/\RelV p.2 q.2
def kV:Key->V
 |.inl i=>.int i
 |.inr x=>.str x
inductive HO where
 |lst (xs:List V)
 |tup (xs:List V)
 |dK (bt:List (Key×V)) | dT (bt:List (List Key×V))
 |set (S:Int->Bool) (n:Nat)
 |ins (C dx:KF) (fs:List (Str×V))
 |own (x:KF)
 |xd (fs:List (Str×V))
 |met (f x:KF)
 |rng (lo hi:Int)
 |frz (o:Obj) (u:HO)
 |tbl (ps:Array KM)
 |ext (φ:SZ->SL->Prop)
abbrev Hp:=KF->Option HO
def upd(H:Hp)(a:KF)(o:HO):Hp:=λb=>if b=a then Z o else H b
def aw{H:Hp}{a:KF}{o:HO}:upd H a o a=Z o:=by unfold upd;rw[Zq Y]
def aC{H:Hp}{a b:KF}{o:HO}(h:b≠a):upd H a o b=H b:=by unfold upd;rw[Zp h]
def Ai{H:Hp}{a:KF}{o u:HO}:upd (upd H a o) a u=upd H a u:=by
 funext b;unfold upd;split<;>rfl
def Ez{H:Hp}{a b:KF}{o u:HO}(h:H a=Z o)(f:H b=Z u)(d:o≠u):a≠b:=by
 intro e;subst e;rw[h]at f;exact d (Zn f)
def eZ{H:Hp}{a b:KF}{o:HO}(h:H a=Z o)(d:H b=L):a≠b:=by
 intro e;subst e;rw[h]at d;cases d
def Mb(h:SL)(a:KF):Prop:=∀o,h.get? a=Z o->o.dict=L
def Mb.new(h:SL)(a:Array KM):Mb (h.push { cls:=.type "tuple",data:=.seq a }) h.objs.size:=λo e=>by
 rw[ZU _ Y]at e;cases e;rfl
def Mb.of{h:SL}{a:KF}{o:Obj}(e:h.get? a=Z o)(d:o.dict=L):Mb h a:=λf b=>by
 rw[e]at b;cases b;exact d
section
variable(P:P3)(w:SZ)
noncomputable def cp(H:Hp)(h:SL)(a:KF):HO->Prop
 |.lst b=>b.length<=KB/\∃(e:Wf)(n:Nat),aQ b e/\h.get? a=Z { cls:=.type "list",data:=.seq e.toArray n }
 |.tup b=>b.length<=KB/\∃e:Wf,aQ b e/\Mb h a/\IsTup h a e.toArray
 |.dK g=>g.length<=KB/\(a==sysModules)=B/\∃j,KV g j/\h.DictOf (aP P w) a j
 |.dT g=>g.length<=KB/\(a==sysModules)=B/\∃b:List (List Key×KF×KM),
   Paired (λ(p:List Key×V) (q:List Key×KF×KM)=>p.1=q.1/\H q.2.1=Z (.tup (p.1.map kV))/\RelV p.2 q.2.2) g b ∧
   ∃o r y,h.get? a=Z o/\o.ExactDict/\o.data=.dict r y/\r.toList=b.map (entryOfKey (tupleKind (aP P w)))/\(b.map (·.1)).Nodup
 |.set S n=>h.SetOf (intKind P w) a S n
 |.ins C i fs=>H i=Z (.own a)/\fs.length<=1000/\i≠a/\h.get? a=Z (PySem.W.instObj C i) ∧
   ∃d,h.Ns1 i d/\(∀f,iP (fs.lookup f) (d f))/\PySem.Within d (fs.map (·.1))
 |.own _=>∃o,h.get? a=Z o
 |.xd fs=>∃d,h.Ns1 a d/\∀f,iP (fs.lookup f) (d f)
 |.rng lo s=>∃t u v,h.get? a=Z { cls:=.type "range",data:=.fields #[.int lo t,.int s u,.int 1 v] }
 |.frz o u=>h.get? a=Z o/\cp H h a u
 |.tbl ps=>h.get? a=Z { cls:=.none,data:=.fields ps }
 |.met f x=>h.get? a=Z (PySem.W.methodObj (.ref f) (.ref x))
 |.ext φ=>φ w h/\(∃o,h.get? a=Z o)/\∀m l:SL,φ w m->(∀o,m.get? a=Z o->l.get? a=Z o)->φ w l
noncomputable def HU(H:Hp)(h:SL):Prop:=∀a o,H a=Z o->cp P w H h a o
end
section
variable{P:P3}{w:SZ}{H H':Hp}{h h':SL}{a:KF}{o:HO}
theorem cp.lt(x:cp P w H h a o):a<h.objs.size:=by
 cases o with
 |lst b=>obtain⟨_,_,_,_,e⟩:=x;exact ZM e
 |tup b=>obtain⟨_,_,_,_,p⟩:=x;exact p.lt
 |dK d=>obtain⟨_,_,_,_,o,_,_,e,_⟩:=x;exact ZM e
 |dT d=>obtain⟨_,_,_,_,o,_,_,e,_⟩:=x;exact ZM e
 |set S n=>obtain⟨o,_,_,_,e,_⟩:=x;exact ZM e
 |ins C i fs=>obtain⟨_,_,_,e,_⟩:=x;exact ZM e
 |own y=>obtain⟨_,e⟩:=x;exact ZM e
 |xd fs=>obtain⟨_,⟨_,_,_,e,_⟩,_⟩:=x;exact ZM e
 |rng lo g=>obtain⟨_,_,_,e⟩:=x;exact ZM e
 |frz ob u=>obtain⟨e,_⟩:=x;exact ZM e
 |tbl ps=>exact ZM (show h.get? a=Z _ from x)
 |met f y=>exact ZM (show h.get? a=Z _ from x)
 |ext φ=>obtain⟨_,⟨_,e⟩,_⟩:=x;exact ZM e
theorem Paired.Lr{α β:Type}{F G:α->β->Prop}:∀{e:List α}{d:List β},Paired F e d->(∀a b,F a b->G a b)->Paired G e d
 |_,_,.nil,_=>.nil
 |_,_,.cons r t,f=>.cons (f _ _ r) (Paired.Lr t f)
def cp.Kx(x:cp P w H h a o)(k:∀b u,(b=a\/H b=Z (.own a))->h.get? b=Z u->h'.get? b=Z u)(G:∀b,H b=Z (.own a)->H' b=Z (.own a))(F:∀b l,H b=Z (.tup l)->H' b=Z (.tup l)):cp P w H' h' a o:=by
 induction o with
 |lst l=>obtain⟨z,m,n,r,e⟩:=x;exact⟨z,m,n,r,k _ _ (.inl Y) e⟩
 |tup l=>obtain⟨z,m,r,nd,g,e,c⟩:=x;exact⟨z,m,r,Mb.of (k _ _ (.inl Y) e) (nd _ e),g,k _ _ (.inl Y) e,c⟩
 |dK J=>obtain⟨z,y,D,r,g,i,j,e,c⟩:=x;exact⟨z,y,D,r,g,i,j,k _ _ (.inl Y) e,c⟩
 |dT J =>
  obtain⟨z,y,l,r,g,i,j,e,c⟩:=x;exact⟨z,y,l,Paired.Lr r λp q z=>⟨z.1,F _ _ z.2.1,z.2.2⟩,g,i,j,k _ _ (.inl Y) e,c⟩
 |set S n=>obtain⟨g,i,j,t,e,c⟩:=x;exact⟨g,i,j,t,k _ _ (.inl Y) e,c⟩
 |ins C N fs =>
  obtain⟨d,z,ne,e,A,⟨s,i,j,e2,c⟩,r⟩:=x;exact⟨G _ d,z,ne,k _ _ (.inl Y) e,A,⟨s,i,j,k _ _ (.inr d) e2,c⟩,r⟩
 |own y=>obtain⟨g,e⟩:=x;exact⟨g,k _ _ (.inl Y) e⟩
 |xd fs=>obtain⟨A,⟨s,i,j,e,c⟩,r⟩:=x;exact⟨A,⟨s,i,j,k _ _ (.inl Y) e,c⟩,r⟩
 |rng lo M=>obtain⟨t,u,v,e⟩:=x;exact⟨t,u,v,k _ _ (.inl Y) e⟩
 |frz g u E=>obtain⟨e,q⟩:=x;exact⟨k _ _ (.inl Y) e,E q⟩
 |tbl ps =>
  have e:h.get? a=Z { cls:=.none,data:=.fields ps }:=x;show h'.get? a=Z { cls:=.none,data:=.fields ps };exact k a _ (.inl Y) e
 |met f y =>
  have e:h.get? a=Z (PySem.W.methodObj (.ref f) (.ref y)):=x;show h'.get? a=Z (PySem.W.methodObj (.ref f) (.ref y));exact k a _ (.inl Y) e
 |ext φ=>obtain⟨p,⟨o,e⟩,st⟩:=x;exact⟨st _ _ p λo q=>k _ _ (.inl Y) q,⟨o,k _ _ (.inl Y) e⟩,st⟩
theorem HU.lt(x:HU P w H h)(e:H a=Z o):a<h.objs.size:=(x a o e).lt
def HU.fresh(x:HU P w H h)(e:h.objs.size<=a):H a=L:=by
 cases q:H a with
 |none=>rfl
 |some u=>exact absurd (ZR (x.lt q) e) (Yf _)
def HU.kept(x:HU P w H h)(k:∀b u,h.get? b=Z u->h'.get? b=Z u):HU P w H h':=λa o e =>
 (x a o e).Kx (λb u _ q=>k b u q) (λ_ q=>q) λ_ _ q=>q
def HU.laid(x:HU P w H h)(k:∀b u,h.get? b=Z u->h'.get? b=Z u)(g:h.objs.size<=a)(d:cp P w (upd H a o) h' a o):HU P w (upd H a o) h':=λb u e=>by
 have f:=x.fresh g;by_cases hb:b=a
 ·subst hb;rw[aw]at e;cases e;exact d
 ·rw[aC hb]at e;exact(x b u e).Kx (λc v _ q=>k c v q) (λc q=>by rw[aC (eZ q f)];exact q) λc i q=>by rw[aC (eZ q f)];exact q
end
def Rd(H:Hp)(a:KF)(u:HO):Prop:=H a=Z u\/∃o,H a=Z (.frz o u)
def Rd.ok{P:P3}{w:SZ}{H:Hp}{h:SL}{a:KF}{u:HO}(r:Rd H a u)(x:HU P w H h):cp P w H h a u:=by
 rcases r with r | ⟨o,r⟩
 ·exact x a u r
 ·obtain⟨_,q⟩:=x a _ r;exact q
def GV:Option HO->Prop
 |some (.lst _)=>True
 |some (.dK _)=>True
 |some (.dT _)=>True
 |some (.set _ _)=>True
 |some (.ins _ _ _)=>True
 |some (.ext _)=>True
 |_=>False
section
variable{P:P3}{w:SZ}{H:Hp}{h h':SL}{x e:KF}{o':HO}
def HU.write(n:HU P w H h)(d:GV (H x))(l:e=x\/H e=Z (.own x))(k:∀b u,b≠e->h.get? b=Z u->h'.get? b=Z u)(s:∃u,h'.get? e=Z u)(i:cp P w (upd H x o') h' x o'):HU P w (upd H x o') h':=λb u q=>by
 have m:∀c y,H c=Z (.own y)->c≠x:=λc y r z=>by subst z;rw[r]at d;exact d
 have p:∀c a,H c=Z (.tup a)->c≠x:=λc a r z=>by subst z;rw[r]at d;exact d
 by_cases hb:b=x
 ·subst hb;rw[aw]at q;cases q;exact i
 ·rw[aC hb]at q;by_cases g:b=e
  ·have j:H b=Z (.own x):=by
    rcases l with z | z
    ·exact absurd (g.trans z) hb
    ·rw[g];exact z
   rw[q]at j;cases j;obtain⟨v,o⟩:=s;exact⟨v,by rw[g];exact o⟩
  ·refine(n b u q).Kx (λc v f r=>k c v ?_ r) (λc r=>by rw[aC (m c b r)];exact r) λc a r=>by rw[aC (p c a r)];exact r
   rcases f with rfl | f
   ·exact g
   ·rintro rfl;rcases l with z | z
    ·exact m c b f z
    ·rw[f]at z;cases z;exact hb Y
end
structure Un(fs ex:X7)(H H':Hp)(h h':SL):Prop where
 keep:∀b o,h.get? b=some o->H b=none->b∉fs->b∉ex->h'.get? b=some o
 slot:∀b o,h.get? b=some o->H b=none->b∈fs->b∉ex->∃sl,h'.get? b=some { o with slots:=sl }
 free:∀b o,h.get? b=some o->H b=none->b∉ex->H' b=none
 there:∀b o,h.get? b=some o->b∉ex->∃o',h'.get? b=some o'
 Ji:∀b xs,H b=some (.tup xs)->H' b=some (.tup xs)
 Jd:∀b o u,H b=some (.frz o u)->H' b=some (.frz o u)
 Jl:∀b ps,H b=some (.tbl ps)->∃more,H' b=some (.tbl (ps++more))
section
variable{fs HY ex ex':X7}{H H1 H2:Hp}{h h1 h2 h':SL}{a x e:KF}{o:HO}
def Un.any(u:Un fs ex H H1 h h1){b:KF}{d:Obj}(q:h.get? b=Z d)(n:H b=L)(f:b∉ex):∃g,h1.get? b=Z { d with slots:=g }:=by
 by_cases hb:b∈fs
 ·exact u.slot b d q n hb f
 ·exact⟨d.slots,u.keep b d q n hb f⟩
def Un.kept(k:∀b u,h.get? b=Z u->h'.get? b=Z u):Un fs ex H H h h' :=
 ⟨λb d q _ _ _=>k b d q,λb d q _ _ _=>⟨d.slots,k b d q⟩,λ_ _ _ n _=>n,λb d q _=>⟨d,k b d q⟩,λ_ _ q=>q,λ_ _ _ q=>q,λ_ ps q=>⟨#[],by rw[q];simp⟩⟩
def Un.refl:Un fs ex H H h h:=Un.kept λ_ _ q=>q
def Un.laid(k:∀b u,h.get? b=Z u->h'.get? b=Z u)(g:h.objs.size<=a)(d:H a=L):Un fs ex H (upd H a o) h h' where
 keep:=λb u q _ _ _=>k b u q
 slot:=λb u q _ _ _=>⟨u.slots,k b u q⟩
 free:=λb u q n _=>by rw[aC (ZW (ZR (ZM q) g))];exact n
 there:=λb u q _=>⟨u,k b u q⟩
 Ji:=λb f q=>by rw[aC (eZ q d)];exact q
 Jd:=λb u f q=>by rw[aC (eZ q d)];exact q
 Jl:=λb ps q=>⟨#[],by rw[aC (eZ q d),q];simp⟩
def Un.write(d:GV (H x))(l:e=x\/H e=Z (.own x))(k:∀b u,b≠e->h.get? b=Z u->h'.get? b=Z u)(m:∃u,h'.get? e=Z u):Un fs ex H (upd H x o) h h':=by
 have g:∀b,H b=L->b≠x:=λb n z=>by subst z;rw[n]at d;exact d
 have hb:∀b,H b=L->b≠e:=λb n z=>by
  subst z;rcases l with r | r
  ·exact g b n r
  ·rw[n]at r;cases r
 have f:∀b u,H b=Z u->¬GV (Z u)->b≠x:=λb u q nm z=>by subst z;rw[q]at d;exact nm d
 refine⟨λb u q n _ _=>k b u (hb b n) q,λb u q n _ _=>⟨u.slots,k b u (hb b n) q⟩,λb u q n _=>by rw[aC (g b n)];exact n,λb u q _=>?_,
  λb j q=>by rw[aC (f b _ q λz=>z)];exact q,λb u j q=>by rw[aC (f b _ q λz=>z)];exact q,λb ps q=>⟨#[],by rw[aC (f b _ q λz=>z),q];simp⟩⟩
 by_cases i:b=e
 ·subst i;exact m
 ·exact⟨u,k b u i q⟩
end
def OP(h:SL)(H:Hp):X7:=(List.range h.objs.size).filter λa=>(H a).isSome
def pD(h:SL)(H:Hp):Heap:=PySem.W.hideAll h (OP h H)
def vY(h:SL)(H:Hp):(pD h H).objs.size=h.objs.size:=PySem.W.hideAll_size _ _
def xW{h:SL}{H:Hp}{b:KF}{o:Obj}(e:h.get? b=Z o)(n:H b=L):(pD h H).get? b=Z o :=
 PySem.W.hideAll_get _ e λa=>by
  have q:(H b).isSome=R:=(Xz.mp a).2;rw[n]at q;simp at q
def AA{h:SL}{H:Hp}{b:KF}{o:Obj}(e:(pD h H).get? b=Z o):h.get? b=Z o/\H b=L:=by
 have a:h.get? b=Z o:=PySem.W.of_hideAll (OP h H) e;refine⟨a,?_⟩;cases q:H b with
 |none=>rfl
 |some x =>
  have d:b∈OP h H:=Xz.mpr ⟨YL.mpr (ZM a),by simp[q]⟩;have z:(pD h H).get? b=L:=PySem.W.hideAll_none (OP h H) d;rw[z]at e;cases e
def BK(g h:SL)(L:KF):Xy:=(List.range h.objs.size).filterMap λa=>if a=L\/(g.get? a).isSome=R then none else (h.get? a).map λo=>(a,o)
def rest(g h:SL)(L d:KF):Xy:=(BK g h L).filter λp=>decide (p.1≠d)
structure Mod(K:Xd)(mg:X6)(base:SL):Prop where
 NY:K.In base
 glob:base.Ns mainGlobals mg
 blt:∃mb,base.Ns builtinsNs mb/\∀x:Str,x ≠ "__name__" → mb x=bootBuiltins x
 nolimit:base.NoLimit
structure Cx where
 prog:P3
 w:SZ
 K:Xd
 mg:X6
 base:SL
 A:Re
 N:List Str
 s₀:GM
 H₀:Hp
 env:Env
 outer:List Env
 stack:List Env
 ex:X7
 fn:Str->Bool
 calm:Bool
 pn:Xy
 xe:Z4
abbrev K1(e:Expr)(l:List Expr)(X:Cx):Prop:=Pi (e :: l) X.env=(B,eval e X.env) :: Pi l X.env
abbrev K2(p:Pos)(l:List Expr)(X:Cx):Prop:=(backTo p (Pi l X.env)).any (·.1)=B
abbrev K3(x:Str):Prop:=(x==("__debug__" : Str))=B
abbrev K4(x:Str):Prop:=(x==("__classdict__" : Str))=B
def HR(l:List Env):X7:=l.filterMap (·.frame)
abbrev Cx.fs(X:Cx):X7:=HR X.outer
def IJ(a:Scope)(x:Str):Prop:=a.names.lookup x=Z .local\/a.names.lookup x=Z .cell\/a.names.lookup x=Z .free
def Loc(a:Scope)(x:Str):Prop:=a.names.lookup x=Z .local\/a.names.lookup x=Z .cell
def Look(a:Env)(h:SL)(m:X6)(x:Str)(u:KM):Prop :=
 (a.kindOf x=Z .local/\m x=Z u)\/((a.kindOf x=Z .cell\/a.kindOf x=Z .free)/\∃c,a.cells.lookup x=Z c/\h.IsCell c (Z u))
structure Cx.Ok(X:Cx):Prop where
 mod:Mod X.K X.mg X.base
 kind:X.env.scope.kind=.function
 glob:X.env.globals=mainGlobals
 blt:X.env.builtins=builtinsNs
 above:X.s₀.heap.objs.size<=X.env.locals
 inj:∀x y c,X.env.cells.lookup x=some c->X.env.cells.lookup y=some c->x=y
 has:∀x,(X.env.kindOf x=some .cell\/X.env.kindOf x=some .free)->∃c,X.env.cells.lookup x=some c
 OB:∀x c,X.fn x=true->X.env.cells.lookup x=some c->X.s₀.heap.objs.size<=c
 hd:X.calm=true->X.A.handled=none
 frames:X.A.frames=some X.stack
 OU:X.stack=X.outer\/(X.stack=X.env :: X.outer/\X.env.frame=some X.env.locals)
 TK:∀b∈X.ex,b≠X.env.locals/\∀x c,X.env.cells.lookup x=some c->c≠b
 bs:∀b o,X.base.get? b=some o->X.s₀.heap.get? b=some o/\X.H₀ b=none
 LI:X.base.objs.size<=X.s₀.heap.objs.size
 KD:∀b o,X.base.get? b=some o->b∉X.ex
 LD:∀b∈X.ex,b∉X.fs
 Ih:X.s₀.heap.FunFrames X.base X.outer
 MQ:∀b∈X.fs,X.H₀ b=none
structure Inv(X:Cx)(pins:Xy)(J:List (Option V))(H:Hp)(s:GM):Prop where
 ok:X.Ok
 os:s.os=X.s₀.os
 bare:AllBare s.gens
 base:Un X.fs X.ex X.H₀ H X.s₀.heap s.heap
 loc:∃m,s.heap.Ns X.env.locals m/\∀(i:Nat)(x:Str)(v:V),X.N[i]?=some x->J[i]?=some (some v)->IJ X.env.scope x->∃u,RelV v u/\Look X.env s.heap m x u
 cell:∀x c,X.env.cells.lookup x=some c->∃v,s.heap.IsCell c v
 free:H X.env.locals=none
 HL:∀x c,X.env.cells.lookup x=some c->H c=none
 pin:∀p∈X.pn++pins,s.heap.get? p.1=some p.2/\H p.1=none/\p.1≠X.env.locals/\p.1∉X.fs/\∀v,p.2.data ≠ .cell v
 GO:HU X.prog X.w H s.heap
 len:J.length=X.N.length
section
variable{X:Cx}{pins:Xy}{J:List (Option V)}{H H':Hp}{s:GM}{h':SL}
def Cx.Ok.P8(a:X.Ok){b:KF}{o:Obj}(e:X.base.get? b=Z o):b∉X.fs:=λhb=>by
 have:=(a.Ih.mem hb).1;rw[e]at this;cases this
theorem Inv.bs(I:Inv X pins J H s):∀b o,X.base.get? b=Z o->s.heap.get? b=Z o/\H b=L:=λb o e =>
 ⟨I.base.keep b o (I.ok.bs b o e).1 (I.ok.bs b o e).2 (I.ok.P8 e) (I.ok.KD b o e),I.base.free b o (I.ok.bs b o e).1 (I.ok.bs b o e).2 (I.ok.KD b o e)⟩
def Inv.bk(I:Inv X pins J H s):∀b o,X.base.get? b=Z o->s.heap.get? b=Z o:=λb o e=>(I.bs b o e).1
theorem Inv.mod(I:Inv X pins J H s):Mod X.K X.mg X.base:=I.ok.mod
def Inv.Ic(I:Inv X pins J H s):X.K.In s.heap:=I.ok.mod.NY.keeps I.bk
theorem Inv.lt(I:Inv X pins J H s):X.env.locals<s.heap.objs.size:=let ⟨_,a,_⟩:=I.loc;a.lt
def Inv.sz(I:Inv X pins J H s):X.s₀.heap.objs.size<=s.heap.objs.size:=ZJ I.ok.above (Xu I.lt)
def Inv.P7(I:Inv X pins J H s){a:KF}(h:s.heap.objs.size<=a):a∉X.fs:=λhb=>by
 obtain⟨_,o,b,_⟩:=I.ok.Ih.mem hb;exact absurd (ZR (ZM b) (ZJ I.sz h)) (Yf _)
def Inv.MV(I:Inv X pins J H s):∀x c,X.env.cells.lookup x=Z c->c≠X.env.locals:=λx c e z=>by
 obtain⟨v,o,a,hd⟩:=I.cell x c e;obtain⟨m,⟨f,g,h,d,b,_⟩,_⟩:=I.loc;rw[z,d]at a;cases a;rw[b]at hd;cases hd
theorem Inv.Ih(I:Inv X pins J H s):s.heap.FunFrames X.base X.outer:=by
 have all:∀(l:List Env),(∀b∈HR l,b∈X.fs)->X.s₀.heap.FunFrames X.base l->s.heap.FunFrames X.base l:=by
  intro l
  induction l with
  |nil=>intro _ _;trivial
  |cons env r g =>
   intro f m;obtain⟨n,⟨L,o,a,j,i,hd⟩,h⟩:=m;have d:L∈X.fs:=f L (by unfold HR;rw[Yr,a];exact Zt);obtain⟨p,e⟩:=I.base.slot L o i (I.ok.MQ L d) d λz=>I.ok.LD L z d;exact⟨n,⟨L,_,a,j,e,hd⟩,g (λb hb=>f b (by unfold HR;rw[Yr,a];exact Zu _ hb)) h⟩
 exact all X.outer (λ_ hb=>hb) I.ok.Ih
theorem Inv.stack(I:Inv X pins J H s):s.heap.FunFrames X.base X.stack:=by
 rcases I.ok.OU with e | ⟨e,b⟩
 ·rw[e];exact I.Ih
 ·rw[e];obtain⟨m,a,_⟩:=I.loc;refine .cons (by rw[I.ok.kind];decide) b a ?_ I.Ih;exact Heap.get?_none_of_le (ZJ I.ok.LI I.ok.above)
def Inv.IZ(I:Inv X pins J H s):∀b∈HR X.stack,b∈X.env.locals :: X.fs:=λb hb=>by
 rcases I.ok.OU with e | ⟨e,a⟩
 ·rw[e]at hb;exact Zu _ hb
 ·rw[e]at hb;unfold HR at hb;rw[Yr,a]at hb;exact hb
def Inv.JN(I:Inv X pins J H s):∀b∈HR X.stack,H b=L:=λb hb=>by
 rcases Zi.mp (I.IZ b hb) with e | hb
 ·rw[e];exact I.free
 ·obtain⟨_,o,a,_⟩:=I.ok.Ih.mem hb;exact I.base.free b o a (I.ok.MQ b hb) λz=>I.ok.LD b z hb
def Inv.step{g':Array GenState}{P:Nat}{d':Drawn}{ch:X7}(I:Inv X pins J H s)(D:∀b∈ch,(b∈X.ex\/X.s₀.heap.objs.size<=b)/\b≠X.env.locals/\(∀x c,X.env.cells.lookup x=Z c->c≠b)/\∀p∈X.pn++pins,p.1≠b)(g:∀b o,b≠X.env.locals->b∉X.fs->b∉ch->s.heap.get? b=Z o->H b=L->h'.get? b=Z o)(j:∀b o,b≠X.env.locals->b∈X.fs->b∉ch->s.heap.get? b=Z o->H b=L->∃F,h'.get? b=Z { o with slots:=F })(f:∀b o,b∉ch->s.heap.get? b=some o->H b=none->H' b=none)(t:∀b o,b∉ch->s.heap.get? b=Z o->∃A,h'.get? b=Z A)(Ji:∀b h,H b=Z (.tup h)->H' b=Z (.tup h))(Jd:∀b o u,H b=Z (.frz o u)->H' b=Z (.frz o u))(Jl:∀b ps,H b=Z (.tbl ps)->∃more,H' b=Z (.tbl (ps++more)))(Q:∀m,s.heap.Ns X.env.locals m->h'.Ns X.env.locals m)(GO:HU X.prog X.w H' h')(hg:AllBare g') :
  Inv X pins J H' { s with heap:=h',gens:=g',drawn:=d',toks:=P }:=by
 have O:∀b o,X.s₀.heap.get? b=Z o->b≠X.env.locals:=λb o e=>ZW (ZR (ZM e) I.ok.above);have E:∀b o,X.s₀.heap.get? b=Z o->b∉X.ex->b∉ch:=λb o e a hb=>by
  rcases (D b hb).1 with z | z
  ·exact a z
  ·exact absurd (ZR (ZM e) z) (Yf _)
 have cellK:∀x c,X.env.cells.lookup x=Z c->∀v,s.heap.IsCell c v->h'.IsCell c v:=λx c e v ⟨o,y,hd⟩=>by
  have C:c∉ch:=λz=>(D c z).2.2.1 x c e Y;by_cases N:c∈X.fs
  ·obtain⟨F,q⟩:=j c o (I.MV x c e) N C y (I.HL x c e);exact⟨_,q,hd⟩
  ·exact⟨o,g c o (I.MV x c e) N C y (I.HL x c e),hd⟩
 refine⟨I.ok,I.os,hg,⟨λb o e n hb a=>?_,λb o e n hb a=>?_,λb o e n a=>?_,λb o e a=>?_,λb h e=>Ji b h (I.base.Ji b h e),λb o h e=>Jd b o h (I.base.Jd b o h e),λb ps e=>?_⟩,?_,λx c e=>?_,?_,λx c e=>?_,λp M=>?_,GO,I.len⟩
 ·exact g b o (O b o e) hb (E b o e a) (I.base.keep b o e n hb a) (I.base.free b o e n a)
 ·obtain⟨F,e1⟩:=I.base.slot b o e n hb a;obtain⟨Uo,e2⟩:=j b _ (O b o e) hb (E b o e a) e1 (I.base.free b o e n a);exact⟨Uo,e2⟩
 ·obtain⟨A,e1⟩:=I.base.there b o e a;exact f b A (E b o e a) e1 (I.base.free b o e n a)
 ·obtain⟨A,e1⟩:=I.base.there b o e a;exact t b A (E b o e a) e1
 ·obtain⟨U,e1⟩:=I.base.Jl b ps e;obtain⟨S,e2⟩:=Jl b _ e1;exact⟨U++S,by rw[e2,Array.append_assoc]⟩
 ·obtain⟨m,hn,hl⟩:=I.loc;refine⟨m,Q m hn,λi x v e1 e2 e3=>?_⟩;obtain⟨u,r,l⟩:=hl i x v e1 e2 e3;refine⟨u,r,?_⟩;rcases l with l | ⟨k,c,e,z⟩
  ·exact .inl l
  ·exact .inr ⟨k,c,e,cellK x c e _ z⟩
 ·obtain⟨v,z⟩:=I.cell x c e;exact⟨v,cellK x c e v z⟩
 ·obtain⟨m,⟨o,_,_,y,_⟩,_⟩:=I.loc;exact f _ o (λz=>(D _ z).2.1 Y) y I.free
 ·obtain⟨v,o,y,hd⟩:=I.cell x c e;exact f c o (λz=>(D c z).2.2.1 x c e Y) y (I.HL x c e)
 ·obtain⟨e,n,ne,G,d⟩:=I.pin p M;have C:p.1∉ch:=λz=>(D p.1 z).2.2.2 p M Y;exact⟨g p.1 p.2 ne G C e n,f p.1 p.2 C e n,ne,G,d⟩
def Inv.un{t':Nat}(I:Inv X pins J H s)(u:Un X.fs [] H H' s.heap h')(l:HU X.prog X.w H' h'):Inv X pins J H' { s with heap:=h',toks:=t' }:=by
 obtain⟨m,⟨o,v,x,a,r⟩,_⟩:=id I.loc;obtain⟨p,h⟩:=u.any a I.free (by simp);exact I.step (g':=s.gens) (d':=s.drawn) (ch:=[]) (λ_ z=>nomatch z) (λb o _ hb _ e n=>u.keep b o e n hb (by simp)) (λb o _ hb _ e n=>u.slot b o e n hb (by simp)) (λb o _ e n=>u.free b o e n (by simp)) (λb o _ e=>u.there b o e (by simp)) u.Ji u.Jd u.Jl (λt g=>by
  obtain⟨q,j,i,d,f⟩:=g;rw[a]at d;cases d;exact⟨_,j,i,h,f⟩) l I.bare
def Inv.call{g':Array GenState}{t':Nat}{d':Drawn}{ch:X7}(I:Inv X pins J H s)(u:Un (HR X.stack) ch H H' s.heap h')(v:HU X.prog X.w H' h')(l:AllBare g')(g:∀b∈ch,(b∈X.ex\/X.s₀.heap.objs.size<=b)/\b≠X.env.locals/\(∀x c,X.env.cells.lookup x=Z c->c≠b)/\∀p∈X.pn++pins,p.1≠b) :
  Inv X pins J H' { s with heap:=h',gens:=g',drawn:=d',toks:=t' }:=by
 obtain⟨m,⟨o,D,E,f,r⟩,_⟩:=id I.loc;obtain⟨y,d⟩:=u.any f I.free λz=>(g _ z).2.1 Y;exact I.step (ch:=ch) g (λb o d hb a e n=>u.keep b o e n (λz=>(Zi.mp (I.IZ b z)).elim d hb) a) (λb o _ _ a e n=>u.any e n a) (λb o a e n=>u.free b o e n a) (λb o a e=>u.there b o e a) u.Ji u.Jd u.Jl (λC j=>by
  obtain⟨A,t,q,h,i⟩:=j;rw[f]at h;cases h;exact⟨_,t,q,d,i⟩) v l
def Inv.turned{t':Nat}{it:KF}(I:Inv X pins J H s)(k:∀b o,b≠it->s.heap.get? b=Z o->h'.get? b=Z o)(h:H it=L)(d:it≠X.env.locals)(t:it∈X.ex\/X.s₀.heap.objs.size<=it)(l:∀x c,X.env.cells.lookup x=Z c->c≠it)(j:∀p∈X.pn++pins,p.1≠it):Inv X pins J H { s with heap:=h',toks:=t' }:=by
 have f:∀b u,H b=Z u->b≠it:=λb u e z=>by rw[z,h]at e;cases e
 refine I.step (g':=s.gens) (d':=s.drawn) (ch:=[it]) (λb hb=>?_) (λb o _ _ a e _=>k b o (λz=>a (by simp[z])) e) (λb o _ _ a e _=>⟨o.slots,k b o (λz=>a (by simp[z])) e⟩) (λ_ _ _ _ n=>n)
  (λb o a e=>⟨o,k b o (λz=>a (by simp[z])) e⟩) (λ_ _ e=>e) (λ_ _ _ e=>e) (λb ps e=>⟨#[],by rw[e];simp⟩) (λm i=>?_) (λb u e=>?_) I.bare
 ·have e:b=it:=by simpa using hb
  subst e;exact⟨t,d,l,j⟩
 ·obtain⟨o,w,y,g,r⟩:=i;exact⟨o,w,y,k _ o (Ya d) g,r⟩
 ·refine(I.GO b u e).Kx (λc v a q=>k c v ?_ q) (λ_ q=>q) λ_ _ q=>q;rcases a with z | z
  ·rw[z];exact f b u e
  ·exact f c _ z
def Inv.tok(I:Inv X pins J H s)(t:Nat):Inv X pins J H { s with toks:=t }:=I.un (h':=s.heap) (t':=t) Un.refl I.GO
theorem Inv.kept{t':Nat}(I:Inv X pins J H s)(k:∀b u,s.heap.get? b=Z u->h'.get? b=Z u):Inv X pins J H { s with heap:=h',toks:=t' }:=I.un (Un.kept k) (I.GO.kept k)
theorem Inv.laid{a:KF}{o:HO}{t':Nat}(I:Inv X pins J H s)(k:∀b u,s.heap.get? b=Z u->h'.get? b=Z u)(e:s.heap.objs.size<=a)(d:cp X.prog X.w (upd H a o) h' a o) :
  Inv X pins J (upd H a o) { s with heap:=h',toks:=t' }:=I.un (Un.laid k e (I.GO.fresh e)) (I.GO.laid k e d)
theorem Inv.write{x e:KF}{o:HO}{g:Nat}(I:Inv X pins J H s)(d:GV (H x))(he:e=x\/H e=Z (.own x))(k:∀b u,b≠e->s.heap.get? b=Z u->h'.get? b=Z u)(f:∃u,h'.get? e=Z u)(a:cp X.prog X.w (upd H x o) h' x o):Inv X pins J (upd H x o) { s with heap:=h',toks:=g }:=I.un (Un.write d he k f) (I.GO.write d he k f a)
def Inv.JQ{a:Xy}(I:Inv X pins J H s)(h:∀p∈a,s.heap.get? p.1=Z p.2/\H p.1=L/\p.1≠X.env.locals/\p.1∉X.fs/\∀v,p.2.data ≠ .cell v):Inv X a J H s :=
 ⟨I.ok,I.os,I.bare,I.base,I.loc,I.cell,I.free,I.HL,λp b=>(ZY.mp b).elim (λz=>I.pin p (Yi _ z)) (h p),I.GO,I.len⟩
def rH{N:List Str}(d:N.Nodup){i j:Nat}{x:Str}(a:N[i]?=Z x)(b:N[j]?=Z x):i=j:=by
 obtain⟨f,e1⟩:=Zh.mp a;obtain⟨e,e2⟩:=Zh.mp b;exact(List.getElem_inj d).mp (e1.trans e2.symm)
def wN{Mq:Model}{A:Re}{E:Z4}{i:Nat}{x:Str}{v:V}{u:KM}{Q:Unit->GM->Prop}(I:Inv X pins J H s)(hN:X.N.Nodup)(D:X.N[i]?=Z x)(l:Loc X.env.scope x)(r:RelV v u)(h:∀S,Inv X pins (J.set i (Z v)) H S->(∃a,Heap.SameBut a s.heap S.heap/\(a=X.env.locals\/X.env.cells.lookup x=Z a))->Q () S)(hf:X.fn x=R\/X.env.scope.names.lookup x=Z .local:=by first | exact .inl Y | exact .inr Y | assumption):On Mq A (storeName X.env x u) Q E s:=by
 obtain⟨m,hn,hl⟩:=id I.loc;have Rh:(X.env.scope.kind == .class||(X.env.scope.kind == .module&&X.env.locals != X.env.globals))=B:=by rw[I.ok.kind];rfl
 have SW:i<J.length:=by rw[I.len];exact(Zh.mp D).1
 have MV:=I.MV;have tracked:∀{a:KF}{h':SL},(∃o,s.heap.get? a=Z o/\H a=L)->Heap.SameBut a s.heap h'->HU X.prog X.w H h':=λ{a h'} ha f b ob e=>by
  obtain⟨_,_,L0⟩:=ha;refine(I.GO b ob e).Kx (λc F g q=>(f.2 c ?_).trans q) (λ_ q=>q) λ_ _ q=>q;rintro rfl;rcases g with rfl | g
  ·rw[L0]at e;cases e
  ·rw[L0]at g;cases g
 rcases l with t | t
 ·refine wpAny_storeName_local t hn (λh' Ve f=>?_) Rh;obtain⟨oL,_,_,N8,_⟩:=id hn;refine h _ ⟨I.ok,I.os,I.bare,⟨λb o e n hb l=>?_,λb o e n hb l=>?_,I.base.free,λb o e l=>?_,I.base.Ji,I.base.Jd,I.base.Jl⟩,⟨_,Ve,λj y M e1 e2 e3=>?_⟩,λy c e=>?_,I.free,I.HL,λp hp=>?_,tracked ⟨oL,N8,I.free⟩ f,by simpa using I.len⟩ ⟨_,f,.inl Y⟩
  ·exact(f.2 b (ZW (ZR (ZM e) I.ok.above))).trans (I.base.keep b o e n hb l)
  ·obtain⟨P,e1⟩:=I.base.slot b o e n hb l;exact⟨P,(f.2 b (ZW (ZR (ZM e) I.ok.above))).trans e1⟩
  ·obtain⟨o',e1⟩:=I.base.there b o e l;exact⟨o',(f.2 b (ZW (ZR (ZM e) I.ok.above))).trans e1⟩
  ·by_cases C:j=i
   ·subst C;rw[D]at e1;cases e1;rw[Xs SW]at e2;cases e2;exact⟨u,r,.inl ⟨t,by simp⟩⟩
   ·rw[Yp (Ya C)]at e2;obtain⟨O,U,q⟩:=hl j y M e1 e2 e3;refine⟨O,U,?_⟩;rcases q with⟨k,e⟩ | ⟨k,c,e,z⟩
    ·refine .inl ⟨k,?_⟩;have:y≠x:=λe=>C (rH hN e1 (e ▸ D));simp[this,e]
    ·exact .inr ⟨k,c,e,z.sameBut f (MV y c e)⟩
  ·obtain⟨F,z⟩:=I.cell y c e;exact⟨F,z.sameBut f (MV y c e)⟩
  ·obtain⟨e,n,ne,nf,d⟩:=I.pin p hp;exact⟨(f.2 p.1 ne).trans e,n,ne,nf,d⟩
 ·have Rb:X.fn x=R:=by
   rcases hf with z | z
   ·exact z
   ·rw[z]at t;cases t
  obtain⟨c,g⟩:=I.ok.has x (.inl t);obtain⟨F,z⟩:=I.cell x c g;refine wpAny_storeName_cell I.ok.kind t g z (λh' IC f=>?_);obtain⟨oc,SN,QM⟩:=id z;refine h { s with heap:=h' } ⟨I.ok,I.os,I.bare,⟨λb o e n hb l=>?_,λb o e n hb l=>?_,I.base.free,λb o e l=>?_,I.base.Ji,I.base.Jd,I.base.Jl⟩,⟨m,hn.sameBut f (Ya (MV x c g)),λj y M e1 e2 e3=>?_⟩,λy G e=>?_,I.free,I.HL,λp hp=>?_,tracked ⟨oc,SN,I.HL x c g⟩ f,by simpa using I.len⟩ ⟨c,f,.inr g⟩
  ·exact(f.2 b (ZW (ZR (ZM e) (I.ok.OB x c Rb g)))).trans (I.base.keep b o e n hb l)
  ·obtain⟨P,e1⟩:=I.base.slot b o e n hb l;exact⟨P,(f.2 b (ZW (ZR (ZM e) (I.ok.OB x c Rb g)))).trans e1⟩
  ·obtain⟨o',e1⟩:=I.base.there b o e l;exact⟨o',(f.2 b (ZW (ZR (ZM e) (I.ok.OB x c Rb g)))).trans e1⟩
  ·by_cases C:j=i
   ·subst C;rw[D]at e1;cases e1;rw[Xs SW]at e2;cases e2;exact⟨u,r,.inr ⟨.inl t,c,g,IC⟩⟩
   ·rw[Yp (Ya C)]at e2;obtain⟨O,U,q⟩:=hl j y M e1 e2 e3;refine⟨O,U,?_⟩;rcases q with q | ⟨k,G,e,z'⟩
    ·exact .inl q
    ·refine .inr ⟨k,G,e,z'.sameBut f ?_⟩;rintro rfl;exact C (rH hN e1 (I.ok.inj _ _ _ e g ▸ D))
  ·by_cases Pd:G=c
   ·subst Pd;exact⟨_,IC⟩
   ·obtain⟨w2,z2⟩:=I.cell y G e;exact⟨w2,z2.sameBut f Pd⟩
  ·obtain⟨e,n,ne,nf,d⟩:=I.pin p hp;refine⟨(f.2 p.1 ?_).trans e,n,ne,nf,d⟩;intro q;rw[q,SN]at e;have q':oc=p.2:=Zn e;exact d F (by rw[← q'];exact QM)
def sg{g:Model}{A:Re}{E:Z4}{i:Nat}{x:Str}{v:V}{u:KM}{Q:Unit->GM->Prop}(I:Inv X pins J H s)(f:X.N.Nodup)(d:X.N[i]?=Z x)(b:Loc X.env.scope x)(r:RelV v u)(h:∀a,Inv X pins (J.set i (Z v)) H a->Q () a)(e:X.fn x=R\/X.env.scope.names.lookup x=Z .local:=by first | exact .inl Y | exact .inr Y | assumption):On g A (storeName X.env x u) Q E s :=
 wN I f d b r (λa j _=>h a j) e
def Inv.OA{a:GM}{ch:X7}(I:Inv X pins J H s)(f:a.os=s.os)(u:Un (HR X.stack) ch H H' s.heap a.heap)(i:HU X.prog X.w H' a.heap)(g:AllBare a.gens)(h:∀b∈ch,(b∈X.ex\/X.s₀.heap.objs.size<=b)/\b≠X.env.locals/\(∀x c,X.env.cells.lookup x=Z c->c≠b)/\∀p∈X.pn++pins,p.1≠b):Inv X pins J H' a:=by
 obtain⟨h',g',d',t',d⟩:=a;have e:d=s.os:=f;subst e;exact I.call (g':=g') (t':=t') (d':=d') u i g h
end
abbrev XK:=KM->Option KF->Hp->Prop
abbrev St:=List (Option V)
abbrev VK:=V->Hp->Prop
abbrev TE:=St->Hp->VK->Prop
abbrev TT:=St->Hp->(Bool->Hp->Prop)->Prop
abbrev TA:=St->Hp->(List V->Hp->Prop)->Prop
structure Ends where
 nx:St->Hp->Prop
 rt:VK
 bk:St->Hp->Prop:=λ_ _=>False
 ct:St->Hp->Prop:=λ_ _=>False
abbrev TS:=Ends->St->Hp->Prop
def EP(X:Cx)(a:Xy)(J:St)(Q:VK)(u:KM)(d:GM):Prop:=∃v b,Inv X a J b d/\RelV v u/\Q v b
def TP(X:Cx)(a:Xy)(J:St)(Q:Bool->Hp->Prop)(b:Bool)(e:GM):Prop:=∃d,Inv X a J d e/\Q b d
def AP(X:Cx)(a:Xy)(J:St)(Q:List V->Hp->Prop)(e:Wf)(f:GM):Prop:=∃b d,Inv X a J d f/\aQ b e/\Q b d
def SP(X:Cx)(a:Xy)(D:Ends)(f:Flow)(e:GM):Prop :=
 match f with
 |.next=>∃d b,Inv X a d b e/\D.nx d b
 |.brk=>∃d b,Inv X a d b e/\D.bk d b
 |.cont=>∃d b,Inv X a d b e/\D.ct d b
 |.ret u=>∃v d b,Inv X a d b e/\RelV v u/\D.rt v b
def PE(X:Cx)(e:Expr)(t:TE):Prop :=
 ∀(a:Xy)(s:GM)(J:St)(H:Hp)(Q:VK),Inv X a J H s->t J H Q->On (IR X.prog X.w) X.A (eval e X.env) (EP X a J Q) X.xe s
def PT(X:Cx)(e:Expr)(t:TT):Prop :=
 ∀(a:Xy)(s:GM)(J:St)(H:Hp)(Q:Bool->Hp->Prop),Inv X a J H s->t J H Q->On (IR X.prog X.w) X.A (isTrue e X.env (eval e X.env)) (TP X a J Q) X.xe s
def PW(X:Cx)(e:Expr)(t:TT):Prop :=
 ∀(whole:Sem KM)(a:Xy)(s:GM)(J:St)(H:Hp)(Q:Bool->Hp->Prop),Inv X a J H s->t J H Q->On (IR X.prog X.w) X.A (isTrue e X.env whole) (TP X a J Q) X.xe s
def PW.pt{X:Cx}{e:Expr}{t:TT}(h:PW X e t):PT X e t:=h _
def PA(X:Cx)(b:List Expr)(t:TA):Prop :=
 ∀(pos:Pos)(a:Xy)(s:GM)(J:St)(H:Hp)(Q:List V->Hp->Prop),Inv X a J H s->t J H Q->On (IR X.prog X.w) X.A (spliced (backTo pos (Pi b X.env))) (AP X a J Q) X.xe s
def PS(X:Cx)(b:Stmt)(t:TS):Prop :=
 ∀(a:Xy)(s:GM)(J:St)(H:Hp)(D:Ends),Inv X a J H s->t D J H->On (IR X.prog X.w) X.A (exec b X.env) (SP X a D) X.xe s
def IE(X:Cx)(b:List Stmt)(t:TS):Prop :=
 ∀(a:Xy)(s:GM)(J:St)(H:Hp)(D:Ends),Inv X a J H s->t D J H->On (IR X.prog X.w) X.A (execs b X.env) (SP X a D) X.xe s
def thn{α:Type}{t:Sem α}{Q b:α->GM->Prop}{d:Model}{A:Re}{E:Z4}{s:GM}(h:On d A t Q E s)(e:∀a s,Q a s->b a s):On d A t b E s:=YB h e λ_ _ x=>x
section
variable{X:Cx}
def GL(i:Nat):TE:=λJ H Q=>∃v,J[i]?=Z (Z v)/\Q v H
def tC(v:V):TE:=λ_ H Q=>Q v H
def fK{i:Nat}{x:Str}{d:Pos}(w:X.N[i]?=Z x)(o:IJ X.env.scope x)(f:K3 x:=by decide)(g:K4 x:=by decide):PE X (.Name x d) (GL i):=by
 intro b s J H Q I h;obtain⟨v,e,h⟩:=h;obtain⟨m,p,t⟩:=I.loc;obtain⟨u,r,l⟩:=t i x v w e o;have fin:EP X b J Q u s:=⟨v,H,I,r,h⟩
 rcases l with⟨a,q⟩ | ⟨a,c,j,n⟩
 ·exact wpAny_Name (wpAny_loadName_local I.ok.kind a p q fin) f
 ·rcases a with a | a
  ·exact wpAny_Name (wpAny_loadName_cell I.ok.kind a j n fin) f
  ·exact wpAny_Name (wpAny_loadName_free I.ok.kind a j n fin g) f
def pC{i j pos}:PE X (.Constant (.int i) j pos) (tC (.int i)):=λ_ _ _ H _ I h=>wpAny_Constant_int ⟨.int i,H,I.tok _,⟨_,rfl⟩,h⟩
def FF{b j pos}:PE X (.Constant (.bool b) j pos) (tC (.bl b)):=λ_ _ _ H _ I h=>Constant_bool ⟨.bl b,H,I,rfl,h⟩
def DX{j pos}:PE X (.Constant .none j pos) (tC .non):=λ_ _ _ H _ I h=>Constant_none ⟨.non,H,I,rfl,h⟩
def C4{x j pos}:PE X (.Constant (.str x) j pos) (tC (.str x)):=λ_ _ _ H _ I h=>Calls.Constant_str ⟨.str x,H,I.tok _,⟨_,rfl⟩,h⟩
def Gl(X:Cx)(x:Str):Prop:=X.env.kindOf x=Z .globalImplicit
def mM{E:Z4}{a:Xy}{s:GM}{J:St}{H:Hp}{x:Str}{u:KM}{b:Pos}{Q:Z4}(I:Inv X a J H s)(e:Gl X x)(d:X.mg x=Z u)(h:Q u s)(f:K3 x:=by decide):On (IR X.prog X.w) X.A (eval (.Name x b) X.env) Q E s :=
 Calls.Name_function_global I.ok.kind e (Calls.loadGlobal_global (by rw[I.ok.glob];exact I.mod.glob.keeps I.bk) d h) f
def qx{E:Z4}{a:Xy}{s:GM}{J:St}{H:Hp}{x:Str}{u:KM}{b:Pos}{Q:Z4}(I:Inv X a J H s)(g:Gl X x)(f:X.mg x=L)(d:bootBuiltins x=Z u)(h:Q u s)(e:x ≠ "__name__" := by decide)(i:K3 x:=by decide):On (IR X.prog X.w) X.A (eval (.Name x b) X.env) Q E s:=by
 obtain⟨m,l,j⟩:=I.mod.blt;exact Calls.Name_function_global I.ok.kind g (Calls.loadGlobal_builtin (by rw[I.ok.glob];exact I.mod.glob.keeps I.bk) f (by rw[I.ok.blt];exact l.keeps I.bk) ((j x e).trans d) h) i
def AI{x:Str}{v:V}{u:KM}{a:Pos}(d:Gl X x)(b:X.mg x=Z u)(r:RelV v u)(e:K3 x:=by decide):PE X (.Name x a) (tC v) :=
 λ_ _ _ H _ I h=>mM I d b ⟨v,H,I,r,h⟩ e
def Ag{x:Str}{v:V}{u:KM}{a:Pos}(f:Gl X x)(e:X.mg x=L)(b:bootBuiltins x=Z u)(r:RelV v u)(d:x ≠ "__name__" := by decide)(g:K3 x:=by decide):PE X (.Name x a) (tC v) :=
 λ_ _ _ H _ I h=>qx I f e b ⟨v,H,I,r,h⟩ d g
variable{a b:Expr}{ta tb:TE}{pos:Pos}
def PC(X:Cx)(g:CmpOp)(a b:Expr)(t:TE):Prop :=
 ∀(d:Xy)(s:GM)(J:St)(H:Hp)(Q:VK),Inv X d J H s->t J H Q →
  On (IR X.prog X.w) X.A (eval a X.env) (λv f=>On (IR X.prog X.w) X.A (eval b X.env) (λu e=>On (IR X.prog X.w) X.A (SC g v u) (EP X d J Q) X.xe e) X.xe f) X.xe s
def rj(b:Expr){d:CmpOp}(h:d ≠ .In)(e:d ≠ .NotIn):behindInMarks d b=B:=by
 have e1:(d==CmpOp.In)=B:=by cases d<;>first | rfl | exact absurd Y h
 have e2:(d==CmpOp.NotIn)=B:=by cases d<;>first | rfl | exact absurd Y e
 cases b<;>simp[behindInMarks,e1,e2]
def GC(d:TE):TE:=λJ H Q=>d J H λx e=>Q (.bl (decide (x=.non))) e
def EI(d:TE):TE:=λJ H Q=>d J H λx e=>Q (.bl (!decide (x=.non))) e
def RelV.Jn{x:V}{v:KM}(r:RelV x v):(v==Value.none)=decide (x=.non):=by
 cases x with
 |non=>cases r;rfl
 |bl _=>cases r;rfl
 |int _=>obtain⟨t,rfl⟩:=r;rfl
 |str _=>obtain⟨t,rfl⟩:=r;rfl
 |byt _=>obtain⟨t,rfl⟩:=r;rfl
 |flt _=>obtain⟨t,rfl⟩:=r;rfl
 |ref _=>cases r;rfl
 |ty _=>cases r;rfl
def zE{j pos'}(f:PE X a ta):PC X .Is a (.Constant .none j pos') (GC ta):=by
 intro d s J H Q I h;refine thn (f d s J H _ I h) λv s1 ⟨x,i,g,r1,e⟩=>?_;exact Constant_none (is_none_gen ⟨.bl _,i,g,by rw[r1.Jn];rfl,e⟩)
def vm{j pos'}(f:PE X a ta):PC X .IsNot a (.Constant .none j pos') (EI ta):=by
 intro d s J H Q I h;refine thn (f d s J H _ I h) λv s1 ⟨x,i,g,r1,e⟩=>?_;exact Constant_none (isnot_none_gen ⟨.bl _,i,g,by rw[r1.Jn];rfl,e⟩)
def tB(t:TE):TT:=λJ H Q=>t J H λx d=>∃c,x=.bl c/\Q c d
def zg{e:CmpOp}{t:TE}(h:PC X e a b t)(f:behindInMarks e b=B:=by first | exact rj _ (by decide) (by decide) | rfl):PE X (.Compare a [e] [b] pos) t:=λd s J H Q I hw=>wpAny_Compare1 (h d s J H Q I hw) f
def yJ{f:CmpOp}{t:TE}(h:PC X f a b t)(g:behindInMarks f b=B:=by first | exact rj _ (by decide) (by decide) | rfl):PT X (.Compare a [f] [b] pos) (tB t):=by
 intro e s J H Q I hw;refine wpAny_isTrue_Compare1 (thn (h e s J H _ I hw) λv s1 g=>thn g λu o j=>thn j λc n ⟨x,m,l,r1,i⟩=>?_) g;obtain⟨d,rfl,q⟩:=i;cases r1;exact YZ ⟨m,l,q⟩
variable{tA OT:TT}{rest:List Expr}
def Gi(t u:TT):TT:=λJ H Q=>t J H λc d=>if c=R then u J d Q else Q B d
def Ug(t u:TT):TT:=λJ H Q=>t J H λc d=>if c=R then Q R d else u J d Q
def Gn(t:TT):TT:=λJ H Q=>t J H λc d=>Q (!c) d
def kR(f:PT X a tA):PW X (.BoolOp .And [a] pos) tA:=by
 intro g d s J H Q I h;refine isTrue_and (thn (f d s J H Q I h) λc s1 e=>?_);cases c with
 |true=>exact isTrue_and_nil e
 |false=>exact e
def ur(f:PT X a tA):PW X (.BoolOp .Or [a] pos) tA:=by
 intro g d s J H Q I h;refine isTrue_or (thn (f d s J H Q I h) λc s1 e=>?_);cases c with
 |false=>exact isTrue_or_nil e
 |true=>exact e
def zJ(l:PT X a tA)(j:PW X (.BoolOp .And (b :: rest) pos) OT):PW X (.BoolOp .And (a :: b :: rest) pos) (Gi tA OT):=by
 intro i d s J H Q I h;refine isTrue_and (thn (l d s J H _ I h) λc s1 ⟨g,f,e⟩=>?_);cases c with
 |true=>exact j i d s1 J g Q f e
 |false=>exact⟨g,f,e⟩
def FE(l:PT X a tA)(j:PW X (.BoolOp .Or (b :: rest) pos) OT):PW X (.BoolOp .Or (a :: b :: rest) pos) (Ug tA OT):=by
 intro i d s J H Q I h;refine isTrue_or (thn (l d s J H _ I h) λc s1 ⟨g,f,e⟩=>?_);cases c with
 |true=>exact⟨g,f,e⟩
 |false=>exact j i d s1 J g Q f e
def Cz(e:PT X a tA):PT X (.UnaryOp .Not a pos) (Gn tA):=by
 intro d s J H Q I h;exact isTrue_not (e d s J H (λc f=>Q (!c) f) I h)
def EO(f e:TE):TE:=λJ H Q=>f J H λx d=>∃c,x=.bl c/\if c=R then e J d Q else Q (.bl B) d
def Gu(f e:TE):TE:=λJ H Q=>f J H λx d=>∃c,x=.bl c/\if c=R then Q (.bl R) d else e J d Q
def FH(d:TE):TE:=λJ H Q=>d J H λx e=>∃c,x=.bl c/\Q (.bl (!c)) e
def CN{op}{t:TE}(h:PE X a t):PE X (.BoolOp op [a] pos) t:=λd s J H Q I hw=>BoolOp_one (h d s J H Q I hw)
def Ct(j:PE X a ta)(i:PE X (.BoolOp .And (b :: rest) pos) tb):PE X (.BoolOp .And (a :: b :: rest) pos) (EO ta tb):=by
 intro d s J H Q I h;refine BoolOp_and (thn (j d s J H _ I h) λv s1 ⟨x,g,f,r1,e⟩=>?_);obtain⟨c,rfl,e⟩:=e;cases r1;refine YZ ?_;cases c with
 |true=>exact i d s1 J g Q f e
 |false=>exact⟨.bl B,g,f,rfl,e⟩
def En(j:PE X a ta)(i:PE X (.BoolOp .Or (b :: rest) pos) tb):PE X (.BoolOp .Or (a :: b :: rest) pos) (Gu ta tb):=by
 intro d s J H Q I h;refine BoolOp_or (thn (j d s J H _ I h) λv s1 ⟨x,g,f,r1,e⟩=>?_);obtain⟨c,rfl,e⟩:=e;cases r1;refine YZ ?_;cases c with
 |false=>exact i d s1 J g Q f e
 |true=>exact⟨.bl R,g,f,rfl,e⟩
def Dx(f:PE X a ta):PE X (.UnaryOp .Not a pos) (FH ta):=by
 intro d s J H Q I h;refine UnaryOp_ (thn (f d s J H _ I h) λv s1 ⟨x,i,g,r1,e⟩=>?_);obtain⟨c,rfl,e⟩:=e;cases r1;exact not_of (YZ ⟨.bl (!c),i,g,rfl,e⟩)
end
def G5(K:Xd)(H:Hp)(a:KF)(d:List V):Prop :=
 Rd H a (.lst d) ∨
  ∃(o:Obj)(b:Array KM)(n:Nat),K.lookup a=Z o/\o.cls=.type "list" ∧ o.dict=L/\o.data=.seq b n/\b.size<=KB/\aQ d b.toList
def HS(K:Xd)(H:Hp)(a:KF)(d:List V):Prop :=
 Rd H a (.tup d) ∨
  ∃(o:Obj)(b:Array KM)(n:Nat),K.lookup a=Z o/\o.cls=.type "tuple" ∧ o.data=.seq b n/\b.size<=KB/\aQ d b.toList
def Gy:KM->Option V
 |.none=>Z .non
 |.bool b=>Z (.bl b)
 |.int i _=>Z (.int i)
 |.str x _=>Z (.str x)
 |.bytes b _=>Z (.byt b)
 |.float b _=>Z (.flt b)
 |.ref a=>Z (.ref a)
 |.type n=>Z (.ty n)
 |_=>L
def RelV.abs{x:V}{u:KM}(r:RelV x u):Gy u=Z x:=by
 cases x with
 |non=>cases r;rfl
 |bl _=>cases r;rfl
 |int _=>obtain⟨t,rfl⟩:=r;rfl
 |str _=>obtain⟨t,rfl⟩:=r;rfl
 |byt _=>obtain⟨t,rfl⟩:=r;rfl
 |flt _=>obtain⟨t,rfl⟩:=r;rfl
 |ref _=>cases r;rfl
 |ty _=>cases r;rfl
def RelV.inj{x y:V}{u:KM}(r:RelV x u)(q:RelV y u):x=y:=Zn (r.abs.symm.trans q.abs)
theorem aQ.inj:∀{b a:List V}{d:Wf},aQ b d->aQ a d->b=a
 |_,_,_,.nil,.nil=>rfl
 |_,_,_,.cons r t,.cons f e=>by rw[r.inj f,aQ.inj t e]
section
variable{X:Cx}{pins:Xy}{J:St}{H:Hp}{s:GM}{a:KF}{xs ys:List V}
def G5.of{K:Xd}(h:H a=Z (.lst xs)):G5 K H a xs:=.inl (.inl h)
def HS.of{K:Xd}(h:H a=Z (.tup xs)):HS K H a xs:=.inl (.inl h)
def Inv.list(I:Inv X pins J H s)(h:G5 X.K H a xs):∃b:Wf,aQ xs b/\PlainL s.heap a b.toArray/\xs.length<=sizeLine:=by
 rcases h with h | ⟨o,b,n,f,g,hd,d,i,r⟩
 ·obtain⟨z,b,n,r,e⟩:=h.ok I.GO;exact⟨b,r,⟨_,n,e,rfl,rfl,rfl⟩,z⟩
 ·refine⟨b.toList,r,⟨o,n,I.Ic a o f,g,hd,by simpa using d⟩,?_⟩;have e:=r.length;simp only[YM]at e;lia
def Inv.tuple(I:Inv X pins J H s)(h:HS X.K H a xs):∃b:Wf,aQ xs b/\IsTup s.heap a b.toArray/\xs.length<=sizeLine:=by
 rcases h with h | ⟨o,b,n,f,g,d,i,r⟩
 ·obtain⟨z,b,r,_,p⟩:=h.ok I.GO;exact⟨b,r,p,z⟩
 ·refine⟨b.toList,r,⟨o,I.Ic a o f,g,n,by simpa using d⟩,?_⟩;have e:=r.length;simp only[YM]at e;lia
def Inv.KI(I:Inv X pins J H s)(h:G5 X.K H a xs)(l:G5 X.K H a ys):xs=ys:=by
 obtain⟨j,r,⟨o,n,e,_,_,d⟩,_⟩:=I.list h;obtain⟨b,i,⟨m,p,f,_,_,g⟩,_⟩:=I.list l;rw[e]at f;cases f;rw[d]at g;injection g with d1 _
 have:j=b:=by simpa using congrArg Array.toList d1
 subst this;exact r.inj i
def Inv.JY(I:Inv X pins J H s)(h:HS X.K H a xs)(l:HS X.K H a ys):xs=ys:=by
 obtain⟨j,r,⟨o,e,_,n,d⟩,_⟩:=I.tuple h;obtain⟨b,i,⟨m,f,_,p,g⟩,_⟩:=I.tuple l;rw[e]at f;cases f;rw[d]at g;injection g with d1 _
 have:j=b:=by simpa using congrArg Array.toList d1
 subst this;exact r.inj i
end
abbrev Cx.IF(X:Cx)(E:Z4):Cx:={ X with xe:=E }
abbrev Cx.Jm(X:Cx):Cx:=X.IF λ_ _=>False
theorem Cx.Ok.IF{X:Cx}(a:X.Ok)(E:Z4):(X.IF E).Ok :=
 ⟨a.mod,a.kind,a.glob,a.blt,a.above,a.inj,a.has,a.OB,a.hd,a.frames,a.OU,a.TK,a.bs,a.LI,a.KD,a.LD,a.Ih,a.MQ⟩
def Cx.Ok.HF{X:Cx}{E:Z4}(a:(X.IF E).Ok):X.Ok :=
 ⟨a.mod,a.kind,a.glob,a.blt,a.above,a.inj,a.has,a.OB,a.hd,a.frames,a.OU,a.TK,a.bs,a.LI,a.KD,a.LD,a.Ih,a.MQ⟩
section
variable{X:Cx}{pins:Xy}{J:St}{H:Hp}{s:GM}{E:Z4}
theorem Inv.IF(I:Inv X pins J H s)(E:Z4):Inv (X.IF E) pins J H s:=⟨I.ok.IF E,I.os,I.bare,I.base,I.loc,I.cell,I.free,I.HL,I.pin,I.GO,I.len⟩
theorem Inv.HF(I:Inv (X.IF E) pins J H s):Inv X pins J H s:=⟨I.ok.HF,I.os,I.bare,I.base,I.loc,I.cell,I.free,I.HL,I.pin,I.GO,I.len⟩
theorem SP.HF{D:Ends}{f:Flow}{d:GM}(h:SP (X.IF E) pins D f d):SP X pins D f d:=by
 cases f with
 |next=>obtain⟨a,b,I,q⟩:=h;exact⟨a,b,I.HF,q⟩
 |brk=>obtain⟨a,b,I,q⟩:=h;exact⟨a,b,I.HF,q⟩
 |cont=>obtain⟨a,b,I,q⟩:=h;exact⟨a,b,I.HF,q⟩
 |ret u=>obtain⟨v,a,b,I,r,q⟩:=h;exact⟨v,a,b,I.HF,r,q⟩
theorem IE.Jm{a:List Stmt}{t:TS}(h:IE X.Jm a t):IE X a t:=λpins s J H D I hw =>
 YB (h pins s J H D (I.IF _) hw) (λ_ _ q=>q.HF) λ_ _ z=>False.elim z
end
section
variable{X:Cx}{st:Stmt}{rest:List Stmt}{t u:TS}{e:Expr}{te:TE}{pos:Pos}
def FJ:TS:=λD J H=>D.nx J H
def Gv(t u:TS):TS:=λD J H=>t { D with nx:=u D } J H
def Bl:IE X [] FJ:=λ_ _ J H _ I h=>XC ⟨J,H,I,h⟩
def xo(d:PS X st t)(b:IE X rest u):IE X (st :: rest) (Gv t u):=by
 intro a s J H D I h;refine wpAny_execs_cons (thn (d a s J H { D with nx:=u D } I h) λf s1 q=>?_);cases f with
 |next =>
  obtain⟨g,j,i,q⟩:=q;exact b a s1 g j D i q
 |ret v=>exact q
 |brk=>exact q
 |cont=>exact q
def aq(b:PS X st t):IE X [st] t:=by
 intro a s J H D I h;refine wpAny_execs_cons (thn (b a s J H D I h) λf s1 q=>?_);cases f with
 |next=>exact XC q
 |ret v=>exact q
 |brk=>exact q
 |cont=>exact q
def Inv.quiet{a:Xy}{J:St}{H:Hp}{s:GM}(I:Inv X a J H s):interactive X.env=B:=by simp[interactive,I.ok.kind]
def E4(a:TE):TS:=λD J H=>a J H λ_ b=>D.nx J b
def kM(f:PE X e te)(d:swapsWith e L pos.line X.env=pure B:=by rfl):PS X (.Expr e pos) (E4 te):=by
 intro a s J H D I h;exact wpAny_Expr_any (thn (f a s J H _ I h) λv s1 ⟨x,i,g,r1,b⟩=>⟨J,i,g,b⟩) I.quiet d
def GI(a:TE):TS:=λD J H=>a J H D.rt
def qD(d:PE X e te):PS X (.Return (Z e) pos) (GI te):=by
 intro a s J H D I h;exact wpAny_Return_some (thn (d a s J H _ I h) λv s1 ⟨x,g,f,r1,b⟩=>⟨x,J,g,f,r1,b⟩)
def Gc(c:TT)(t u:TS):TS:=λD J H=>c J H λb a=>if b=R then t D J a else u D J a
def Co{c:Expr}{a b:List Stmt}{g:TT}(m:PT X c g)(o:IE X a t)(n:IE X b u):PS X (.If c a b pos) (Gc g t u):=by
 intro f s J H D I h;refine wpAny_If (thn (m f s J H _ I h) λd s1 ⟨l,j,i⟩=>?_);cases d with
 |true=>exact o f s1 J l D j i
 |false=>exact n f s1 J l D j i
end
abbrev TG:=V->St->Hp->(St->Hp->Prop)->Prop
def PG(X:Cx)(a:Expr)(t:TG):Prop :=
 ∀(b:Xy)(s:GM)(J:St)(H:Hp)(v:V)(u:KM)(Q:St->Hp->Prop),Inv X b J H s->RelV v u->t v J H Q →
  On (IR X.prog X.w) X.A (assign a X.env u) (λ_ f=>∃d e,Inv X b d e f/\Q d e) X.xe s
abbrev AM:=V->V->V->Hp->(Hp->Prop)->Prop
def CQ(X:Cx)(t:AM):Prop :=
 ∀(a:Xy)(s:GM)(J:St)(H:Hp)(o i v:V)(b iv u:KM)(Q:Hp->Prop),Inv X a J H s->RelV o b->RelV i iv->RelV v u->t o i v H Q →
  On (IR X.prog X.w) X.A (setItem b iv u) (λ_ e=>∃d,Inv X a J d e/\Q d) X.xe s
section
variable{X:Cx}{pos:Pos}
def vr(i:Nat):TG:=λv J H Q=>Q (J.set i (Z v)) H
def uS{i:Nat}{x:Str}(f:X.N.Nodup)(d:X.N[i]?=Z x)(b:Loc X.env.scope x)(e:X.fn x=R\/X.env.scope.names.lookup x=Z .local:=by first | exact .inl Y | exact .inr Y | assumption):PG X (.Name x pos) (vr i):=by
 intro a s J H v u Q I r h;exact wpAny_assign_Name (sg I f d b r (λj g=>⟨_,H,g,h⟩) e)
def FQ(a b:TE)(t:AM):TG:=λv J H Q=>a J H λo f=>b J f λi e=>t o i v e λd=>Q J d
def uk{o i:Expr}{d e:TE}{t:AM}(n:PE X o d)(p:PE X i e)(m:CQ X t)(q:∀v,assign (.Subscript o i pos) X.env v=(do
   let b ← holding [v] (eval o X.env)
   let iv ← holding [v,b] (eval i X.env)
   standAt pos
   holding [v,b,iv] (setItem b iv v)
   release [v,b,iv] []):=by intro _;rfl):PG X (.Subscript o i pos) (FQ d e t):=by
 intro a s J H v u Q I r h;rw[q];refine Zj (Xw (thn (n a s J H _ I h) λb s1 ⟨x,E,A,r1,l⟩=>?_));refine Zj (Xw (thn (p a s1 J E _ A l) λiv f ⟨y,D,z,r2,j⟩=>?_));refine Zj (wpAny_standAt (Zj (Xw (thn (m a f J D x y v b iv u _ z r1 r2 r j) λ_ F ⟨C,w,g⟩=>?_))));exact wpAny_release ⟨J,C,w,g⟩
def E2(a:TE)(g:TG):TS:=λD J H=>a J H λx b=>g x J b D.nx
def t9{b e:Expr}{d:TE}{g:TG}(l:PE X e d)(j:PG X b g)(i:swapsWithSole [b] e pos.line X.env=pure B:=by rfl)(hw:swappedStores [b] e X.env=pure L:=by rfl)(m:(assignEach [b] X.env).map (·.2)=[assign b X.env]:=by rfl):PS X (.Assign [b] e pos) (E2 d g):=by
 intro a s J H D I h;refine wpAny_Assign_stores (thn (l a s J H _ I h) λv s1 ⟨x,o,n,r1,f⟩=>?_) i hw;rw[m];exact thn (j a s1 J o x v _ n r1 f) λ_ p q=>q
def pI{i:Nat}{x:Str}{e:Expr}{d:TE}{a:Pos}(o:X.N.Nodup)(l:X.N[i]?=Z x)(g:Loc X.env.scope x)(n:PE X e d)(j:swapsWith e (Z (.Name x a)) pos.line X.env=pure B:=by rfl)(m:X.fn x=R\/X.env.scope.names.lookup x=Z .local:=by first | exact .inl Y | exact .inr Y | assumption) :
  PS X (.Assign [.Name x a] e pos) (E2 d (vr i)):=by
 intro b s J H D I h;refine wpAny_Assign_Name (thn (n b s J H _ I h) λv s1 ⟨y,r,q,r1,f⟩=>?_) j;exact sg q o l g r1 (λt p=>⟨_,r,p,f⟩) m
end
section
variable{X:Cx}{pos:Pos}
def Em(c:TT)(g:TS):TS:=λD J H=>∃W:Nat->St->Hp->Prop,(∃m,W m J H)/\∀m J H,W m J H →
 c J H λb e=>if b=R then ∃N:St->Hp->Prop,(∀d f,N d f->∃a,a<m/\W a d f)/\g { D with nx:=N,ct:=N,bk:=D.nx } J e else D.nx J e
def yR{c:Expr}{d:List Stmt}{t:TT}{u:TS}(x:PassesOwn (IR X.prog X.w) X.A X.env X.xe)(S:PT X c t)(U:IE X d u):PS X (.While c d [] pos) (Em t u):=by
 intro a s J H D I h;obtain⟨W,⟨Q,M⟩,turn⟩:=h;refine wpAny_While (codeAny_whileLoop (λn P=>∃y F,Inv X a y F P/\W n y F) ?_ Q ⟨J,H,I,M⟩);rintro n s1 ⟨l,E,I1,G⟩;refine YA x (thn (S a s1 l E _ I1 (turn n l E G)) λb O ⟨C,z,j⟩=>?_);cases b with
 |true =>
  obtain⟨N,hN,j⟩:=j;rw[Zq Y];refine YA x (thn (U a O l C _ z j) λf s3 i=>?_);cases f with
  |next =>
   obtain⟨e,g,r,o⟩:=i;obtain⟨p,q,m⟩:=hN e g o;exact⟨p,q,e,g,r,m⟩
  |cont =>
   obtain⟨e,g,r,o⟩:=i;obtain⟨p,q,m⟩:=hN e g o;exact⟨p,q,e,g,r,m⟩
  |brk=>exact i
  |ret v=>exact i
 |false =>
  rw[Zp Za];exact XC ⟨l,C,z,j⟩
end
structure It where
 go:Nat->Hp->Prop
 OM:Nat->Hp->V->Hp->Prop
 stop:Nat->Hp->Prop
def oC(X:Cx)(a:Xy)(H:Hp)(b:KF):Prop :=
 H b=L/\b≠X.env.locals/\b∉X.fs/\(b∈X.ex\/X.s₀.heap.objs.size<=b)/\(∀x c,X.env.cells.lookup x=Z c->c≠b)/\∀p∈X.pn++a,p.1≠b
def Inv.LC{X:Cx}{a:Xy}{J:St}{H f:Hp}{s:GM}{b:KF}(I:Inv X a J H s)(d:s.heap.objs.size<=b)(h:f b=L):oC X a f b:=by
 refine⟨h,X9 (ZR I.lt d),I.P7 d,.inr (ZJ I.sz d),λx c e z=>?_,λp g z=>?_⟩
 ·obtain⟨v,q⟩:=I.cell x c e;exact absurd (ZR q.lt (by rw[z];exact d)) (Yf _)
 ·exact absurd (ZR (ZM (I.pin p g).1) (by rw[z];exact d)) (Yf _)
structure Turn(P:P3)(w:SZ)(K:Xd)(tg:Expr)(Jq:It)(fp:X7)(it:KF)(tn:Nat->SL->Prop):Prop where
 mem:it∈fp
 obj:∀i h,tn i h->∀b∈fp,∃o,h.get? b=some o/\∀v,o.data ≠ .cell v
 keep:∀i h h',tn i h->(∀b∈fp,∀o,h.get? b=some o->h'.get? b=some o)->tn i h'
 item:∀(X:Cx),X.prog=P->X.w=w->X.K=K->X.calm=true->∀(i:Nat)(pins:Xy)(s:GM)(J:St)(H:Hp)(E:Z4),Inv X pins J H s->(∀b∈fp,oC X pins H b)->tn i s.heap->Jq.go i H →
  On (IR P w) X.A (pyNext (.ref it)) (λr s1=>∃u,r=some u ∧
   On (IR P w) X.A (letOwnedTupleGo tg (.ref it) u) (λ_ s2=>∃x H',Inv X pins J H' s2/\RelV x u/\Jq.OM i H x H'/\tn (i+1) s2.heap/\∀b∈fp,H' b=none) E s1) E s
 done:∀(X:Cx),X.prog=P->X.w=w->X.K=K->X.calm=true->∀(i:Nat)(pins:Xy)(s:GM)(J:St)(H:Hp)(E:Z4),Inv X pins J H s->(∀b∈fp,oC X pins H b)->tn i s.heap->Jq.stop i H →
  On (IR P w) X.A (pyNext (.ref it)) (λr s1=>r=none/\Inv X pins J H s1) E s
 self:∀(A:Re)(i:Nat)(s:GM)(Q:Z4)(E:Z4),tn i s.heap->Q (.ref it) s->On (IR P w) A (pyIter (.ref it)) Q E s
abbrev TI:=St->Hp->(It->Hp->Prop)->Prop
def TX(X:Cx)(a:Xy)(J:St)(h:Expr)(R:It->Hp->Prop)(i:KM)(f:GM):Prop :=
 ∃(it:KF)(fp:X7)(e:Nat->SL->Prop)(g:It)(d:Hp),i=.ref it/\Inv X a J d f/\Turn X.prog X.w X.K h g fp it e/\e 0 f.heap/\(∀b∈fp,oC X a d b)/\R g d
def PI(X:Cx)(e b:Expr)(d:TI):Prop :=
 ∀(a:Xy)(s:GM)(J:St)(H:Hp)(R:It->Hp->Prop),Inv X a J H s->d J H R →
  On (IR X.prog X.w) X.A (eval b X.env) (λv s1=>On (IR X.prog X.w) X.A (pyIter v) (TX X a J e R) X.xe s1) X.xe s
def r9{f:Model}{A:Re}{E:Z4}{s:GM}{d:Expr}{e:KF}{u:KM}{o:Obj}{n:String}{b:Array KM}{Q:Unit->GM->Prop}(g:s.heap.get? e=Z o)(l:o.cls=.type n)(j:o.data=.fields b)(i:["enumerate", "zip", "dict_itemiterator", "dict_reverseitemiterator", "odict_iterator", "itertools.zip_longest", "itertools.pairwise"].contains n=B)(a:Q () s):On f A (letOwnedTupleGo d (.ref e) u) Q E s:=by
 unfold letOwnedTupleGo;cases d<;>first
  |exact ZO a
  | (cases u<;>first
    |exact ZO a
    | (refine Zj (wpAny_load g ?_)
       rw[l,j];show On f A (if (["enumerate", "zip", "dict_itemiterator", "dict_reverseitemiterator", "odict_iterator", "itertools.zip_longest", "itertools.pairwise"].contains n&&b[0]? == Z (rawInt _))=R then _ else _) Q E s;rw[Zp (by intro h;rw[i,Bool.false_and]at h;cases h)];exact ZO a))
def R4(K:Xd)(a:KF):It :=
 ⟨λi H=>∃b x,G5 K H a b/\b[i]?=Z x,λi H x d=>d=H/\∀b,G5 K H a b->b[i]?=Z x,λi H=>∃b,G5 K H a b/\b.length<=i⟩
def R3(K:Xd)(a:KF):It :=
 ⟨λi H=>∃b x,HS K H a b/\b[i]?=Z x,λi H x d=>d=H/\∀b,HS K H a b->b[i]?=Z x,λi H=>∃b,HS K H a b/\b.length<=i⟩
def Pp(a:Int)(n:Nat):It:=⟨λi _=>i<n,λi H x b=>b=H/\x=.int (a+i),λi _=>n<=i⟩
def wG{P:P3}{w:SZ}{K:Xd}{N:Expr}(a g:KF):Turn P w K N (R4 K a) [g] g (λi h=>h.IsListIter g a i) where
 mem:=by simp
 obj:=λi h st b hb=>by
  have e:b=g:=by simpa using hb
  subst e;obtain⟨o,e,c,d⟩:=st;exact⟨o,e,λv z=>by rw[d]at z;cases z⟩
 keep:=λi h m st k=>st.at λo e=>k g (by simp) o e
 item:=by
  intro X r hw t F i f s J H E I l st hg;subst r hw t;obtain⟨M,x,j,q⟩:=hg;obtain⟨S,n,p,U⟩:=I.list j;obtain⟨u,hu,Q⟩:=n.get q;obtain⟨D,f1,f2,C,A,y⟩:=l g (by simp);refine wpAny_pyNext_list_item st p.isList (x:=u) (by simpa using hu) λm G O=>?_;have I1:Inv X f J H { s with heap:=m }:=I.turned (t':=s.toks) (λb o hb e=>(O.2 b hb).trans e) D f1 C A y;obtain⟨o,e,c,d⟩:=id G;exact⟨u,rfl,r9 (s:={ s with heap:=m }) e c d (by decide) ⟨x,H,I1,Q,⟨rfl,λys Y=>by rw[I.KI Y j];exact q⟩,G,λb hb=>(l b hb).1⟩⟩
 done:=by
  intro X r hw t F i f s J H E I l st hg;subst r hw t;obtain⟨M,j,q⟩:=hg;obtain⟨S,n,p,U⟩:=I.list j;obtain⟨D,f1,f2,C,A,y⟩:=l g (by simp);have hl:=n.length;exact wpAny_pyNext_list_end (I.ok.hd F) st p.isList (by simp;lia) λm eb=>⟨rfl,I.turned (t':=s.toks) (λb o hb e=>eb b o hb e) D f1 C A y⟩
 self:=λ_ _ _ _ _ st h=>wpAny_pyIter_listiter st h
def ux{P:P3}{w:SZ}{K:Xd}{O:Expr}(a g:KF):Turn P w K O (R3 K a) [g] g (λi h=>h.IsTupleIter g a i) where
 mem:=by simp
 obj:=λi h st b hb=>by
  have e:b=g:=by simpa using hb
  subst e;obtain⟨o,e,c,d⟩:=st;exact⟨o,e,λv z=>by rw[d]at z;cases z⟩
 keep:=λi h m st k=>st.at λo e=>k g (by simp) o e
 item:=by
  intro X t hw y G i f s J H E I l st hg;subst t hw y;obtain⟨N,x,j,r⟩:=hg;obtain⟨q,n,p,U⟩:=I.tuple j;obtain⟨u,hu,S⟩:=n.get r;obtain⟨F,f1,f2,D,C,A⟩:=l g (by simp);refine wpAny_pyNext_tuple_item st (show s.heap.IsTuple a q.toArray from p) (x:=u) (by simpa using hu) λm M Q=>?_;have I1:Inv X f J H { s with heap:=m }:=I.turned (t':=s.toks) (λb o hb e=>(Q.2 b hb).trans e) F f1 D C A;obtain⟨o,e,c,d⟩:=id M;exact⟨u,rfl,r9 (s:={ s with heap:=m }) e c d (by decide) ⟨x,H,I1,S,⟨rfl,λys Y=>by rw[I.JY Y j];exact r⟩,M,λb hb=>(l b hb).1⟩⟩
 done:=by
  intro X t hw y G i f s J H E I l st hg;subst t hw y;obtain⟨N,j,r⟩:=hg;obtain⟨q,n,p,U⟩:=I.tuple j;obtain⟨F,f1,f2,D,C,A⟩:=l g (by simp);have hl:=n.length;exact wpAny_pyNext_tuple_end (I.ok.hd G) st (show s.heap.IsTuple a q.toArray from p) (by simp;lia) λm eb=>⟨rfl,I.turned (t':=s.toks) (λb o hb e=>eb b o hb e) F f1 D C A⟩
 self:=λ_ _ _ _ _ st h=>wpAny_pyIter_tupleiter st h
def t4{P:P3}{w:SZ}{K:Xd}{D:Expr}(d:KF)(f:Int)(n:Nat):Turn P w K D (Pp f n) [d] d (λi h=>IsRangeIter h d (f+(i:Nat)*1) ((n:Int)-(i:Nat)) 1) where
 mem:=by simp
 obj:=λi h st b hb=>by
  have e:b=d:=by simpa using hb
  subst e;exact⟨_,st,λv z=>by
   have C:Data.fields _=Data.cell v:=z;cases C⟩
 keep:=λi h j st k=>k d (by simp) _ st
 item:=by
  intro X m hw p l i a s J H E I g st hg;subst m hw p;obtain⟨x,f1,f2,u,r,q⟩:=g d (by simp);have W:=Walks.range (prog:=X.prog) (w:=X.w) (I.ok.hd l) d f 1 n;refine W.item i s _ _ hg st λv j y G A F=>?_;obtain⟨t,rfl⟩:=G;have N:Inv X a J H { s with heap:=j,toks:=y }:=I.turned (λb o hb e=>F b o (by simpa using hb) e) x f1 u r q;refine⟨_,rfl,r9 (s:={ s with heap:=j,toks:=y }) (n := "range_iterator") A Y Y (by decide) ⟨.int (f+i),H,N,⟨t,?_⟩,⟨rfl,rfl⟩,A,λb hb=>(g b hb).1⟩⟩;rw[Int.mul_one]
 done:=by
  intro X m hw p l i a s J H E I g st hg;subst m hw p;obtain⟨x,f1,f2,u,r,q⟩:=g d (by simp);exact wpAny_pyNext_range_end (I.ok.hd l) st (by have:n<=i:=hg;lia) λj M=>⟨rfl,I.turned (t':=s.toks) (λb o hb e=>M b o hb e) x f1 u r q⟩
 self:=λ_ _ _ _ _ st h=>wpAny_pyIter_rangeiter st h
section
variable{X:Cx}{tg:Expr}
def yO{f:Xy}{J:St}{H:Hp}{s:GM}{R:It->Hp->Prop}{E:Z4}{a d:Int}{t u v:Tok}{g:Nat}(I:Inv X f J H s)(m:-(2 ^ 62)<=a)(l:a<2 ^ 62)(j:-(2 ^ 62)<=d)(i:d<2 ^ 62)(q:R (Pp a (d-a).toNat) H):On (IR X.prog X.w) X.A (pyIter (.ref s.heap.objs.size)) (TX X f J tg R) E { s with heap:=s.heap.push { cls:=.type "range",data:=.fields #[.int a t,.int d u,.int 1 v] },toks:=g }:=by
 refine wpAny_pyIter_range (IsRange.new ..) (small_one m l j i) ?_;have h:Inv X f J H { s with heap:=s.heap.push { cls:=.type "range",data:=.fields #[.int a t,.int d u,.int 1 v] },toks:=g }:=I.kept λb o e=>Zk _ e;refine⟨(s.heap.push { cls:=.type "range",data:=.fields #[.int a t,.int d u,.int 1 v] }).objs.size,[(s.heap.push { cls:=.type "range",data:=.fields #[.int a t,.int d u,.int 1 v] }).objs.size],_,_,H,rfl,
  h.kept (t':=g) λb o e=>Zk _ e,t4 _ a (d-a).toNat,?_,λb hb=>?_,q⟩
 ·have e1:a+((0:Nat):Int)*1=a:=by simp
  have e2:(((d-a).toNat:Nat):Int)-((0:Nat):Int)=Builtin.Range.rangeSize a d 1:=by rw[rangeSize_one];split<;>lia
  show IsRangeIter _ _ (a+((0:Nat):Int)*1) ((((d-a).toNat:Nat):Int)-((0:Nat):Int)) 1;rw[e1,e2];exact ZU _ Y
 ·have e:b=(s.heap.push { cls:=.type "range",data:=.fields #[.int a t,.int d u,.int 1 v] }).objs.size:=by simpa using hb
  subst e;exact h.LC (Zm _) (h.GO.fresh (Zm _))
def B4(b:TA):TI:=λJ H R=>b J H λa d=>∃j:Int,a=[.int j]/\-(2 ^ 62)<=j/\j<2 ^ 62/\R (Pp 0 j.toNat) d
def lC{a:Expr}{g:TA}{p b:Pos}(o:Gl X "range")(n:X.mg "range" = L)(u:PA X [a] g)(m:Pi [a] X.env=[(B,eval a X.env)]:=by rfl):PI X tg (.Call (.Name "range" p) [a] [] b) (B4 g):=by
 intro d s J H R I h;refine Call_ (qx I o n boot_range (PyProof.Rows.callWith_type1 (thn (u b d s J H _ I h) λx s1 ⟨w,y,v,r1,f⟩=>?_) m Y));obtain⟨j,e,f,l,q⟩:=f;subst e;cases r1 with
 |cons r i =>
  cases i;obtain⟨t,rfl⟩:=r;exact call_range_1 (yO v (by lia) (by lia) f l (by simpa using q))
def FC(f:TI)(g:TG)(h:TS):TS:=λD J H=>f J H λb n=>∃W:Nat->Nat->St->Hp->Prop,(∃m,W 0 m J n)/\∀i m J H,W i m J H →
 (b.stop i H/\D.nx J H)\/(b.go i H/\∃N:St->Hp->Prop,(∀e a,N e a->∃d,d<m/\W (i+1) d e a)/\∀x a,b.OM i H x a->g x J a λj l=>h { D with nx:=N,ct:=N,bk:=D.nx } j l)
def nF(a:X7)(h:SL):Xy:=a.filterMap λb=>(h.get? b).map λo=>(b,o)
def iD{a:X7}{h:SL}{b:KF}{o:Obj}(d:b∈a)(e:h.get? b=Z o):(b,o)∈nF a h:=X2.mpr ⟨b,d,by rw[e];rfl⟩
def wA{a:X7}{h:SL}{p:KF×Obj}(d:p∈nF a h):p.1∈a/\h.get? p.1=Z p.2:=by
 obtain⟨b,hb,e⟩:=X2.mp d;cases q:h.get? b with
 |none=>rw[q]at e;cases e
 |some o =>
  rw[q]at e;have f:(b,o)=p:=Zn e;subst f;exact⟨hb,q⟩
def Inv.pinned{a:Xy}{J:St}{H:Hp}{s:GM}{f:X7}(I:Inv X a J H s)(j:∀b∈f,oC X a H b)(i:∀b∈f,∃o,s.heap.get? b=Z o/\∀v,o.data ≠ .cell v):Inv X (a++nF f s.heap) J H s :=
 I.JQ λp h=>(ZY.mp h).elim (λz=>I.pin p (ZK _ z)) λz=>by
  obtain⟨hb,e⟩:=wA z;obtain⟨l,f1,f2,_⟩:=j p.1 hb;obtain⟨o,g,d⟩:=i p.1 hb;rw[e]at g;cases g;exact⟨e,l,f1,f2,d⟩
def Inv.HV{a b:Xy}{J:St}{H:Hp}{s:GM}(I:Inv X (a++b) J H s):Inv X a J H s:=I.JQ λp d=>I.pin p (ZK _ (Yi _ d))
def xk{j:Expr}{C:List Stmt}{wi:TI}{g:TG}{tb:TS}{Q:Pos}(F:PassesOwn (IR X.prog X.w) X.A X.env X.xe)(hc:X.calm=R)(hi:PI X tg j wi)(hg:PG X tg g)(l:IE X C tb)(hs:∀x,UV j X.env x=pure x:=by intro _;rfl):PS X (.For tg j C [] Q) (FC wi g tb):=by
 intro a s J H D I h;refine wpAny_For (thn (hi a s J H _ I h) λv s1 h1=>thn h1 λQD s2 h2=>?_) hs;obtain⟨it,fp,tn,Jq,H2,e,I2,T,OV,f2,W,⟨m0,w0⟩,turn⟩:=h2;subst e;have JC:∀{y:Hp},(∀b∈fp,y b=L)->∀b∈fp,oC X a y b:=λhn b l=>⟨hn b l,(f2 b l).2⟩
 refine codeAny_forLoop_any (λn s'=>∃i M y,Inv X a M y s'/\tn i s'.heap/\(∀b∈fp,y b=L)/\W i n M y) ?_ m0 ⟨0,J,H2,I2,OV,λb l=>(f2 b l).1,w0⟩;rintro n s3 ⟨i,G,O,I3,LQ,Oj,w3⟩;rcases turn i n G O w3 with⟨stop,qn⟩ | ⟨go,N,hN,step⟩
 ·refine YA F (thn (T.done X Y Y Y hc i a s3 G O X.xe I3 (JC Oj) LQ stop) λr s4 ⟨S,I4⟩=>?_);subst S;exact XC ⟨G,O,I4,qn⟩
 ·refine YA F (thn (T.item X Y Y Y hc i a s3 G O X.xe I3 (JC Oj) LQ go) λr s4 ⟨u,S,h4⟩=>?_);subst S;refine YA F (thn h4 λ_ s5 ⟨x,H5,I5,r5,y5,U,Rw⟩=>?_);have R6:=I5.pinned (JC Rw) (T.obj _ _ U);refine YA F (thn (hg _ s5 G H5 x u _ R6 r5 (step x H5 y5)) λ_ s6 ⟨J6,H6,I6,q6⟩=>?_);refine YA F (thn (l _ s6 J6 H6 _ I6 q6) λf P z=>?_);have again:∀{p:St}{t:Hp},Inv X (a++nF fp s5.heap) p t P->N p t->∃m,m<n/\∃i M y,Inv X a M y P/\tn i P.heap/\(∀b∈fp,y b=L)/\W i m M y:=λ{p t} q E=>by
   obtain⟨m',hm,w7⟩:=hN p t E;refine⟨m',hm,i+1,p,t,q.HV,T.keep _ _ _ U λb l o e=>(q.pin (b,o) (ZK _ (ZK _ (iD l e)))).1,λb l=>?_,w7⟩;obtain⟨o,e,d⟩:=T.obj _ _ U b l;exact(q.pin (b,o) (ZK _ (ZK _ (iD l e)))).2.1
  cases f with
  |next=>obtain⟨p,t,q,E⟩:=z;exact again q E
  |cont=>obtain⟨p,t,q,E⟩:=z;exact again q E
  |brk=>obtain⟨p,t,q,z⟩:=z;exact⟨p,t,q.HV,z⟩
  |ret v=>obtain⟨x7,p,t,q,r7,z⟩:=z;exact⟨x7,p,t,q.HV,r7,z⟩
end
abbrev R2:=V->V->Hp->VK->Prop
def OpR(X:Cx)(f:KM->KM->Sem KM)(r:R2):Prop :=
 ∀(a:Xy)(s:GM)(J:St)(H:Hp)(x y:V)(v u:KM)(Q:VK),Inv X a J H s->RelV x v->RelV y u->r x y H Q →
  On (IR X.prog X.w) X.A (f v u) (EP X a J Q) X.xe s
def UnR(X:Cx)(f:KM->Sem KM)(r:V->Hp->VK->Prop):Prop :=
 ∀(a:Xy)(s:GM)(J:St)(H:Hp)(x:V)(v:KM)(Q:VK),Inv X a J H s->RelV x v->r x H Q →
  On (IR X.prog X.w) X.A (f v) (EP X a J Q) X.xe s
def dX(X:Cx)(f:KM)(r:List V->Hp->VK->Prop):Prop :=
 ∀(a:Xy)(s:GM)(J:St)(H:Hp)(b:List V)(d:Wf)(Q:VK),Inv X a J H s->aQ b d->r b H Q →
  On (IR X.prog X.w) X.A (call f d) (EP X a J Q) X.xe s
def Gj(X:Cx)(r:V->Hp->(Bool->Hp->Prop)->Prop):Prop :=
 ∀(a:Xy)(s:GM)(J:St)(H:Hp)(x:V)(v:KM)(Q:Bool->Hp->Prop),Inv X a J H s->RelV x v->r x H Q →
  On (IR X.prog X.w) X.A (truthy v) (TP X a J Q) X.xe s
def Nc(r:R2)(b a:TE):TE:=λJ H Q=>b J H λx e=>a J e λy d=>r x y d Q
def Ud(r:V->Hp->VK->Prop)(a:TE):TE:=λJ H Q=>a J H λx b=>r x b Q
def rI(C:Int->Int->Prop)(g:Int->Int->V):R2:=λx y H Q=>∃i j,x=.int i/\y=.int j/\C i j/\Q (g i j) H
def JP(g:Int->Int->V):R2:=λx y H Q=>∃i j,x=.int i/\y=.int j/\Q (g i j) H
def rU(g:Int->V):V->Hp->VK->Prop:=λx H Q=>∃i,x=.int i/\Q (g i) H
section
variable{X:Cx}{a b c:Expr}{ta tb tc:TE}{pos:Pos}
def C5(q:PE X a ta)(p:PE X b tb){d:Xy}{s:GM}{J:St}{H:Hp}{R:V->V->Hp->Prop}(I:Inv X d J H s)(h:ta J H λx i=>tb J i λy e=>R x y e){Q:Z4}{f:KM->KM->Sem KM}(o:∀v u g x y e,Inv X d J e g->RelV x v->RelV y u->R x y e->On (IR X.prog X.w) X.A (f v u) Q X.xe g) :
  On (IR X.prog X.w) X.A (eval a X.env) (λv l=>On (IR X.prog X.w) X.A (eval b X.env) (λu j=>On (IR X.prog X.w) X.A (f v u) Q X.xe j) X.xe l) X.xe s:=by
 refine thn (q d s J H _ I h) λv s1 ⟨x,i,t,r1,n⟩=>?_;refine thn (p d s1 J i _ t n) λu g ⟨y,e,r,r2,m⟩=>?_;exact o v u g x y e r r1 r2 m
def zb{e:Operator}{r:R2}(j:OpR X (binaryOp e) r)(m:PE X a ta)(l:PE X b tb):PE X (.BinOp a e b pos) (Nc r ta tb):=by
 intro d s J H Q I h;exact wpAny_BinOp (C5 m l I h λv u f x y o n i g q=>j d f J o x y v u Q n i g q)
def EG{e:UnaryOp}{r:V->Hp->VK->Prop}(g:UnR X (unaryOp e) r)(i:PE X a ta):PE X (.UnaryOp e a pos) (Ud r ta):=by
 intro d s J H Q I h;exact UnaryOp_ (thn (i d s J H _ I h) λv s1 ⟨x,l,j,r1,f⟩=>g d s1 J l x v Q j r1 f)
def PU{f:KM->KM->Sem KM}{C:Int->Int->Prop}{g:Int->Int->Int}(d:∀(i j:Int)(t u:Tok)(s:GM)(Q:Z4)(E:Z4),C i j->Q (.int (g i j) s.toks) { s with toks:=s.toks+1 }->On (IR X.prog X.w) X.A (f (.int i t) (.int j u)) Q E s) :
  OpR X f (rI C λi j=>.int (g i j)):=by
 intro e s J H x y v u Q I n m h;obtain⟨i,j,rfl,rfl,o,q⟩:=h;obtain⟨t,rfl⟩:=n;obtain⟨l,rfl⟩:=m;exact d i j t l s _ _ o ⟨.int (g i j),H,I.tok _,⟨_,rfl⟩,q⟩
def Es{f:KM->KM->Sem KM}{g:Int->Int->Int}(d:∀(i j:Int)(t u:Tok)(s:GM)(Q:Z4)(E:Z4),Q (.int (g i j) s.toks) { s with toks:=s.toks+1 }->On (IR X.prog X.w) X.A (f (.int i t) (.int j u)) Q E s) :
  OpR X f (JP λi j=>.int (g i j)):=by
 intro e s J H x y v u Q I n m h;obtain⟨i,j,rfl,rfl,q⟩:=h;obtain⟨t,rfl⟩:=n;obtain⟨l,rfl⟩:=m;exact d i j t l s _ _ ⟨.int (g i j),H,I.tok _,⟨_,rfl⟩,q⟩
def AF{f:KM->KM->Sem KM}{g:Int->Int->Bool}(d:∀(i j:Int)(t u:Tok)(s:GM)(Q:Z4)(E:Z4),Q (.bool (g i j)) s->On (IR X.prog X.w) X.A (f (.int i t) (.int j u)) Q E s) :
  OpR X f (JP λi j=>.bl (g i j)):=by
 intro e s J H x y v u Q I n m h;obtain⟨i,j,rfl,rfl,q⟩:=h;obtain⟨t,rfl⟩:=n;obtain⟨l,rfl⟩:=m;exact d i j t l s _ _ ⟨.bl (g i j),H,I,rfl,q⟩
def E6(i j:Int):Prop:=0<j/\j<1073741824
def Bd(i j:Int):Prop:=(-(2 ^ 64)<i/\i<2 ^ 64)\/(-(2 ^ 64)<j/\j<2 ^ 64)
def Bd.ok{i j:Int}(h:Bd i j):IntMulOk i j:=by
 rcases h with⟨e,d⟩ | ⟨e,d⟩
 ·exact .of_left (intBits_le_64 e d)
 ·exact .of_right (intBits_le_64 e d)
def CT:OpR X (binaryOp .Add) (JP λi j=>.int (i+j)):=Es λ_ _ _ _ _ _ _ q=>add_int q
def qc:OpR X (binaryOp .Sub) (JP λi j=>.int (i-j)):=Es λ_ _ _ _ _ _ _ q=>sub_int q
def DO:OpR X (binaryOp .Mult) (rI Bd λi j=>.int (i*j)):=PU λ_ _ _ _ _ _ _ d q=>mul_int q d.ok
def mD:OpR X (binaryOp .FloorDiv) (rI E6 λi j=>.int (i/j)):=PU λi j _ _ _ _ _ d q=>by
 have f:(0:Int)<j:=d.1;have e:j<1073741824:=d.2;exact floordiv_int (by lia) (by rw[Int.fdiv_eq_ediv_of_nonneg i (by lia)];exact q) (.inl (PyProof.noPylong_small (by omega)))
def CY:OpR X (binaryOp .Mod) (rI (λ_ j=>0<j) λi j=>.int (i%j)):=PU λi j _ _ _ _ _ d q=>by
 have e:(0:Int)<j:=d;exact mod_int' (by lia) (by rw[Int.fmod_eq_emod_of_nonneg i (by lia)];exact q)
def T9{f:KM->Sem KM}{g:Int->Int}(d:∀(i:Int)(t:Tok)(s:GM)(Q:Z4)(E:Z4),Q (.int (g i) s.toks) { s with toks:=s.toks+1 }->On (IR X.prog X.w) X.A (f (.int i t)) Q E s) :
  UnR X f (rU λi=>.int (g i)):=by
 intro e s J H x v Q I j h;obtain⟨i,rfl,q⟩:=h;obtain⟨t,rfl⟩:=j;exact d i t s _ _ ⟨.int (g i),H,I.tok _,⟨_,rfl⟩,q⟩
def Ef:UnR X (unaryOp .USub) (rU λi=>.int (-i)):=T9 λ_ _ _ _ _ q=>neg_int q
end
section
variable{X:Cx}{a b c:Expr}{ta tb tc:TE}{pos:Pos}
def C9{d:Xy}{J:St}{H:Hp}{s:GM}{Q:VK}{k f:Bool}(I:Inv X d J H s)(q:Q (.bl k) H)(e:k=f):EP X d J Q (.bool f) s:=by
 subst e;exact⟨.bl k,H,I,rfl,q⟩
def FP:OpR X (SC .Lt) (JP λi j=>.bl (decide (i<j))):=AF λ_ _ _ _ _ _ _ q=>lt_int q
def Er:OpR X (SC .LtE) (JP λi j=>.bl (decide (i<=j))):=AF λ_ _ _ _ _ _ _ q=>le_int q
def B0:OpR X (SC .Gt) (JP λi j=>.bl (decide (j<i))):=AF λ_ _ _ _ _ _ _ q=>gt_int q
def EJ:OpR X (SC .GtE) (JP λi j=>.bl (decide (j<=i))):=AF λ_ _ _ _ _ _ _ q=>ge_int q
def wJ:OpR X (SC .Lt) (λx y H Q=>∃i j,x=.str i/\y=.str j/\Q (.bl (decide (i.cps.toList<j.cps.toList))) H):=by
 intro d s J H x y v u Q I f e h;obtain⟨i,j,rfl,rfl,q⟩:=h;obtain⟨t,rfl⟩:=f;obtain⟨g,rfl⟩:=e;exact lt_str (C9 I q Y)
def OpR.or{f:KM->KM->Sem KM}{r i:R2}(h:OpR X f r)(j:OpR X f i):OpR X f (λx y H Q=>r x y H Q\/i x y H Q):=by
 intro d s J H x y v u Q I g e q;rcases q with q | q
 ·exact h d s J H x y v u Q I g e q
 ·exact j d s J H x y v u Q I g e q
def fQ(b:Expr){d:CmpOp}(h:d ≠ .In:=by decide)(e:d ≠ .NotIn:=by decide):behindInMarks d b=B:=by
 have e1:(d==CmpOp.In)=B:=by cases d<;>first | rfl | exact absurd Y h
 have e2:(d==CmpOp.NotIn)=B:=by cases d<;>first | rfl | exact absurd Y e
 cases b<;>simp[behindInMarks,e1,e2]
def A2{e:CmpOp}{r:R2}(j:OpR X (SC e) r)(n:PE X a ta)(m:PE X b tb)(l:behindInMarks e b=B):PE X (.Compare a [e] [b] pos) (Nc r ta tb):=by
 intro d s J H Q I h;exact wpAny_Compare1 (C5 n m I h λv u f x y p o i g q=>j d f J p x y v u Q o i g q) l
def yt(t:TE):TT:=λJ H Q=>t J H λx d=>∃k,x=.bl k/\Q k d
def u7{f:CmpOp}{r:R2}(n:OpR X (SC f) r)(q:PE X a ta)(p:PE X b tb)(o:behindInMarks f b=B):PT X (.Compare a [f] [b] pos) (yt (Nc r ta tb)):=by
 intro d s J H Q I h;refine wpAny_isTrue_Compare1 (thn (q d s J H _ I h) λv s1 ⟨x,E,A,r1,m⟩=>thn (p d s1 J E _ A m) λu g ⟨y,D,w,r2,l⟩ =>
  thn (n d g J D x y v u _ w r1 r2 l) λc F ⟨z,C,t,i,k,e,j⟩=>?_) o
 subst e;cases i;exact YZ ⟨C,t,j⟩
def zP(r i:R2)(h g f:TE):TE:=λJ H Q=>h J H λx m=>g J m λy l=>r x y l λz d=>∃k,z=.bl k ∧
 (if k=R then f J d λe j=>i y e j Q else Q (.bl B) d)
def sD{g i:CmpOp}{r j:R2}(O:OpR X (SC g) r)(Kb:OpR X (SC i) j)(Y:PE X a ta)(U:PE X b tb)(S:PE X c tc)(P:lastMarks [g,i] [b,c]=B:=by with_unfolding_all rfl):PT X (.Compare a [g,i] [b,c] pos) (yt (zP r j ta tb tc)):=by
 intro f s J H Q I h;refine isTrue_chain (thn (Y f s J H _ I h) λv s1 ⟨x,H1,I1,r1,M⟩=>test_link (thn (U f s1 J H1 _ I1 M) λu w ⟨y,H2,I2,r2,G⟩ =>
  thn (O f w J H2 x y v u _ I2 r1 r2 G) λd t ⟨z,n,m,D,k,e,l⟩=>?_)) P
 subst e;cases D;refine YZ ?_;cases k with
 |false =>
  obtain⟨k',e',N⟩:=l;cases e';exact ite_ff ⟨n,m,N⟩
 |true =>
  refine ite_tt (test_last (thn (S f t J n _ m l) λp q ⟨o,H4,I4,C,F⟩=>thn (Kb f q J H4 y o u p _ I4 r2 C F) λd' s5 ⟨z2,H5,I5,A,k2,e2,E⟩=>?_));subst e2;cases A;exact YZ ⟨H5,I5,E⟩
def Cr(K:Xd)(x:V)(H:Hp)(k:Bool):Prop :=
 match x with
 |.non=>k=B
 |.bl b=>k=b
 |.int i=>k=(i != 0)
 |.str y=>y.length<=KB/\k=((y.length:Int) != 0)
 |.byt y=>y.size<=KB/\k=((y.size:Int) != 0)
 |.ref p=>(∃d,G5 K H p d/\k=!d.isEmpty)\/(∃d,HS K H p d/\k=!d.isEmpty)\/∃e,H p=Z (.dK e)/\k=!e.isEmpty
 |_=>False
def tm{κ:Type}{e:List (κ×V)}{d:List (κ×KM)}(r:KV e d):(!d.isEmpty)=!e.isEmpty:=by
 cases r<;>rfl
def oo{d:List V}{e:Wf}(r:aQ d e):(!e.toArray.isEmpty)=!d.isEmpty:=by
 cases r<;>simp
def lb:(KB:Nat)<2 ^ 63:=by rw[Xo];decide
def DQ:Gj X (λx H Q=>∃k,Cr X.K x H k/\Q k H):=by
 intro u s J H x v Q I g h;obtain⟨k,e,q⟩:=h;have F:=lb;have E:KB=16777216:=Xo;cases x with
 |non =>
  cases g;have d:k=B:=e;subst d;exact truthy_none ⟨H,I,q⟩
 |bl b =>
  cases g;have d:k=b:=e;subst d;exact YZ ⟨H,I,q⟩
 |int i =>
  obtain⟨t,rfl⟩:=g;have d:k=(i != 0):=e;subst d;exact PySem.P.truthy_int ⟨H,I,q⟩
 |str y =>
  obtain⟨t,rfl⟩:=g;obtain⟨C,d⟩:y.length<=KB/\k=((y.length:Int) != 0):=e;subst d;exact PySem.P.truthy_str (by lia) ⟨H,I.tok _,q⟩
 |byt y =>
  obtain⟨t,rfl⟩:=g;obtain⟨C,d⟩:y.size<=KB/\k=((y.size:Int) != 0):=e;subst d;exact PySem.W.truthy_bytes (by lia) ⟨H,I.tok _,q⟩
 |ref p =>
  cases g;have d:(∃f,G5 X.K H p f/\k=!f.isEmpty)\/(∃f,HS X.K H p f/\k=!f.isEmpty)\/∃j,H p=Z (.dK j)/\k=!j.isEmpty:=e;rcases d with⟨f,l,d⟩ | ⟨f,l,d⟩ | ⟨j,l,d⟩
  ·subst d;obtain⟨A,r,o,z⟩:=I.list l;have hlen:=r.length;exact wpAny_truthy_list o.isList (by simp only[Ze];lia) ⟨H,I.tok _,by rw[oo r];exact q⟩
  ·subst d;obtain⟨A,r,o,z⟩:=I.tuple l;have hlen:=r.length;exact truthy_tuple o (by simp only[Ze];lia) ⟨H,I.tok _,by rw[oo r];exact q⟩
  ·subst d;obtain⟨z,D,n,r,m⟩:j.length<=KB/\(p==sysModules)=B/\∃n,KV j n/\s.heap.DictOf (aP X.prog X.w) p n:=I.GO p _ l;have hlen:j.length=n.length:=Xv r;exact wpAny_truthy_dict D m (by lia) ⟨H,I.tok _,by rw[tm r];exact q⟩
 |_=>exact(show False from e).elim
def yY(i:PE X a ta)(g:∀whole,isTrue a X.env whole=(do let v ← whole;standAt a.pos;holding [v] (truthy v))) :
  PT X a (λJ H Q=>ta J H λx e=>∃k,Cr X.K x e k/\Q k e):=by
 intro d s J H Q I h;exact isTrue_plain (thn (i d s J H _ I h) λv s1 ⟨x,l,j,r1,f⟩=>DQ d s1 J l x v Q j r1 f) (g _)
def uB:OpR X (binaryOp .Add) (λx y H Q=>∃i j,x=.str i/\y=.str j/\i.length+j.length<=KB/\Q (.str (i++j)) H):=by
 intro d s J H x y v u Q I g f h;obtain⟨i,j,rfl,rfl,l,q⟩:=h;obtain⟨t,rfl⟩:=g;obtain⟨e,rfl⟩:=f;exact add_str (λe m=>⟨.str (i++j),H,I.tok _,⟨_,rfl⟩,q⟩) l
def vals1{x:V}{d:Wf}(r:aQ [x] d):∃u,d=[u]/\RelV x u:=by
 cases r with
 |cons r1 r2=>cases r2;exact⟨_,rfl,r1⟩
def vals2{x y:V}{e:Wf}(r:aQ [x,y] e):∃u d,e=[u,d]/\RelV x u/\RelV y d:=by
 cases r with
 |cons r1 r2 =>
  cases r2 with
  |cons g f=>cases f;exact⟨_,_,rfl,r1,g⟩
def wR(g:X.calm=R):dX X (.builtin "min") (λe H Q=>∃i j,e=[.int i,.int j]/\Q (.int (if j<i then j else i)) H):=by
 intro f s J H e m Q I r h;obtain⟨i,j,rfl,q⟩:=h;obtain⟨u,l,rfl,⟨t,rfl⟩,⟨o,rfl⟩⟩:=vals2 r;refine min_two_ints (I.ok.hd g) λp n k=>⟨_,H,I.kept k,?_,q⟩
 by_cases d:j<i
 ·rw[Zq d,Zq d];exact⟨_,rfl⟩
 ·rw[Zp d,Zp d];exact⟨_,rfl⟩
def FB(K:Xd)(x:V)(H:Hp)(n:Nat):Prop :=
 match x with
 |.str y=>y.length<=KB/\n=y.length
 |.byt y=>y.size<=KB/\n=y.size
 |.ref p=>(∃d,G5 K H p d/\n=d.length)\/∃d,HS K H p d/\n=d.length
 |_=>False
def xp:dX X (.builtin "len") (λd H Q=>∃x n,d=[x]/\FB X.K x H n/\Q (.int n) H):=by
 intro m s J H d z Q I r h;obtain⟨x,n,rfl,e,q⟩:=h;obtain⟨u,rfl,g⟩:=vals1 r;have C:=lb;have A:KB=16777216:=Xo;cases x with
 |str y =>
  obtain⟨t,rfl⟩:=g;obtain⟨w,f⟩:y.length<=KB/\n=y.length:=e;subst f;exact len_str (by lia) ⟨.int _,H,I.tok _,⟨_,rfl⟩,q⟩
 |byt y =>
  obtain⟨t,rfl⟩:=g;obtain⟨w,f⟩:y.size<=KB/\n=y.size:=e;subst f;exact PySem.W.len_bytes (by lia) ⟨.int _,H,I.tok _,⟨_,rfl⟩,q⟩
 |ref p =>
  cases g;have f:(∃d,G5 X.K H p d/\n=d.length)\/∃d,HS X.K H p d/\n=d.length:=e;rcases f with⟨d,l,f⟩ | ⟨d,l,f⟩
  ·subst f;obtain⟨o,i,j,v⟩:=I.list l;have hlen:=i.length;exact Calls.call_len_list j.isList (by simp only[Ze];lia) ⟨.int d.length,H,I.tok _,⟨_,by simp only[Ze];rw[hlen]⟩,q⟩
  ·subst f;obtain⟨o,i,j,v⟩:=I.tuple l;have hlen:=i.length;exact len_tuple j (by simp only[Ze];lia) ⟨.int d.length,H,I.tok _,⟨_,by simp only[Ze];rw[hlen]⟩,q⟩
 |_=>exact(show False from e).elim
end
structure JL(h:SL)(x dx C:KF)(mA:X6):Prop where
 obj:h.get? x=some (PySem.W.instObj C dx)
 ns:h.Ns1 dx mA
 ne:dx≠x
def wB{h:SL}{g:KF}{d:X6}(n:h.Ns1 g d):∃b,h.get? g=Z b/\∀name,PySem.W.lookIn name b=Z (d name):=by
 obtain⟨o,f,s,j,hd,m,_,l⟩:=n;refine⟨o,j,λname=>?_⟩;have e:=l name;unfold nsFind findBy at e;rw[← Array.find?_toList]at e;unfold PySem.W.lookIn;rw[hd];dsimp only;split
 ·rename_i y q;rw[q]at e;exact congrArg Z e
 ·rename_i q;rw[q]at e;have a:f.toList.any (·.refKey)=B:=by
   rw[List.any_eq_false];intro y i;obtain⟨z,t,r⟩:=m y (Array.mem_toList_iff.mp i);simp[DictEntry.refKey,r]
  have p:¬f.toList.any (·.refKey)=R:=by rw[a];exact Za
  rw[Zp p];exact congrArg Z e
def JL.look{h:SL}{x d C:KF}{b:X6}(I:JL h x d C b):∃a,PySem.W.InstAt h x (PySem.W.instObj C d) C (Z a)/\∀name,PySem.W.lookIn name a=Z (b name) :=
 let ⟨a,e,f⟩:=wB I.ns
 ⟨a,⟨I.obj,rfl,rfl,e⟩,f⟩
section
variable{prog:P3}{w:SZ}{A:Re}{E:Z4}{s:GM}{K:Xd}{x dx C f:KF}{mA:X6}{name:Str}{v:KM}
def get_map{a:Bool}{Q:Z4}(X:K.In s.heap)(I:JL s.heap x dx C mA)(g:PySem.W.plainGet K C name=R)(e:PySem.W.hasDictIn K C=R)(i:PySem.W.findIn K (.ref C) name=Z L)(b:mA name=Z v)(j:PySem.W.handedIn v=R)(h:Q v { s with toks:=s.toks+1 }) :
  On (IR prog w) A (getAttr (.ref x) name a) Q E s:=by
 obtain⟨m,l,d⟩:=I.look;exact PySem.W.get_value X l (XF g).1 (PySem.W.findObj_own e i Y (by rw[d,b])) j h
def zc{b:Sem Bool}{Q:KM×Wf->GM->Prop}(X:K.In s.heap)(I:JL s.heap x dx C mA)(a:PySem.W.plainGet K C name=R)(j:PySem.W.findIn K (.ref C) name=Z (Z (.ref f)))(g:PySem.W.isFn K (.ref f)=R)(e:mA name=L)(h:Q (.ref f,[.ref x]) s) :
  On (IR prog w) A (getMethod (.ref x) name b) Q E s:=by
 obtain⟨d,l,i⟩:=I.look;exact PySem.W.method_fn X l (XF a).1 (XF a).2 j (beq_iff_eq.mp g) (by show (PySem.W.lookIn name d).map (·.isSome)=Z B;rw[i,e];rfl) h
def Al{g:List Str}{Q:Unit->GM->Prop}(X:K.In s.heap)(I:JL s.heap x dx C mA)(o:PySem.W.findIn K (.ref C) "__setattr__" = Z (Z (.builtin "object.__setattr__")))(p:PySem.W.plainOver K C=R)(n:PySem.W.takerIn K C name=Z L)(q:PySem.W.hasDictIn K C=R)(hw:PySem.Within mA g)(e:g.length<=KB)(h:∀d,JL d x dx C (λy=>if y=name then Z v else mA y)->Heap.SameBut dx s.heap d->Q () { s with heap:=d,toks:=s.toks+2 }) :
  On (IR prog w) A (setAttr (.ref x) name v) Q E s:=by
 obtain⟨J,l,N⟩:=I.look;refine PySem.W.set_plain X l o (PySem.W.osa_open (s:={ s with toks:=s.toks+1 }) (r:=none) X l p n λb=>?_);obtain⟨cd,t,H⟩:=PySem.W.any_some q;have m:s.heap.get? x=Z ⟨.ref C,Z dx,.plain,#[]⟩:=I.obj;refine Zj (ZO (Zj (Zj (wpAny_loadPart m (Zj (PySem.W.Looks.here (s:={ s with toks:=s.toks+1 }) (PySem.W.looks_clsIn X t) ?_))))));rw[H];refine ZO (a:=Z dx) (Zj (ZO (Zj ?_)));refine wpAny_nsSet1 (s:={ s with toks:=s.toks+1 }) I.ns λd i j=>?_;obtain⟨M,u,z,G,F,D⟩:=i.count (PySem.Within.cons name v hw);refine Zj (wpAny_lookBehind G (by rw[F];exact pastItsLine_dict (ZJ D (by rw[Zl];exact YX e))) ?_);exact ZO (h _ ⟨(j.2 _ (Ya I.ne)).trans I.obj,i,I.ne⟩ j)
def xg{R:Result->GM->Prop}{a:Wf}{b:List (Str×KM)}(X:K.In s.heap)(e:PySem.W.makesIn K C=true)(i:PySem.W.findIn K (.ref C) "__init__" = Z (Z (.ref f)))(j:PySem.W.typeIn K (.ref f)=Z (.type "function"))(h:codeAny (IR prog w) (A.under (.builtin "type.__call__" ⟨.ref C :: a,b⟩)) (.call (.ref f) ⟨.ref (s.heap.objs.size+1) :: a,b⟩) (PySem.W.InitBack (s.heap.objs.size+1) R)
   { s with heap:=(s.heap.push PySem.W.emptyDict).push (PySem.W.instObj C s.heap.objs.size) }) :
  codeAny (IR prog w) A (.call (.ref C) ⟨a,b⟩) R s:=by
 obtain⟨l,g,d,t,os⟩:=s;exact PySem.W.make_core (PySem.W.makes_of X e) (PySem.W.looks_findIn X i) (λself=>PySem.W.bind_fn X self j) (.inl Y) h
end
def iV(f:Str)(v:V):List (Str×V)->List (Str×V)
 |[]=>[(f,v)]
 | (g,x) :: r=>if g=f then (g,v) :: r else (g,x) :: iV f v r
theorem lY(f g:Str)(v:V):∀fs:List (Str×V),(iV f v fs).lookup g=if g=f then Z v else fs.lookup g
 |[]=>by
  show List.lookup g [(f,v)]=_;by_cases h:g=f
  ·have hb:(g==f)=R:=beq_iff_eq.mpr h;simp only[List.lookup,hb,Zq h]
  ·have hb:(g==f)=B:=ZL.mpr h;simp only[List.lookup,hb,Zp h]
 | (k,x) :: r=>by
  have b:=lY f g v r;rw[show iV f v ((k,x) :: r)=(if k=f then (k,v) :: r else (k,x) :: iV f v r) from rfl];by_cases a:k=f
  ·rw[Zq a];by_cases h:g=k
   ·have hb:(g==k)=R:=beq_iff_eq.mpr h;simp only[List.lookup,hb,Zq (h.trans a)]
   ·have hb:(g==k)=B:=ZL.mpr h;simp only[List.lookup,hb,Zp (λe:g=f=>h (e.trans a.symm))]
  ·rw[Zp a];by_cases h:g=k
   ·have hb:(g==k)=R:=beq_iff_eq.mpr h;simp only[List.lookup,hb,Zp (λe:g=f=>a (h.symm.trans e))]
   ·have hb:(g==k)=B:=ZL.mpr h;simp only[List.lookup,hb];exact b
theorem lE(f:Str)(v:V):∀fs:List (Str×V),f∈(iV f v fs).map (·.1)/\∀g,g∈fs.map (·.1)->g∈(iV f v fs).map (·.1)
 |[]=>⟨by simp[iV],λg h=>by simp at h⟩
 | (k,x) :: r=>by
  obtain⟨d,b⟩:=lE f v r;rw[show iV f v ((k,x) :: r)=(if k=f then (k,v) :: r else (k,x) :: iV f v r) from rfl];by_cases a:k=f
  ·rw[Zq a];subst a;exact⟨by simp,λg h=>by simpa using h⟩
  ·rw[Zp a];refine⟨?_,λg h=>?_⟩
   ·rw[Zo];exact Zu _ d
   ·rw[Zo]at h ⊢;rcases Zi.mp h with e | e
    ·exact Zi.mpr (.inl e)
    ·exact Zu _ (b g e)
theorem lW(f:Str)(v:V):∀fs:List (Str×V),(iV f v fs).length<=fs.length+1
 |[]=>by simp[iV]
 | (k,x) :: r=>by
  have b:=lW f v r;rw[show iV f v ((k,x) :: r)=(if k=f then (k,v) :: r else (k,x) :: iV f v r) from rfl];by_cases a:k=f
  ·rw[Zq a,Zl,Zl];exact Yk _ _
  ·rw[Zp a,Zl,Zl];exact YX b
def iP.some_of{v:V}{o:We}(r:iP (Z v) o):∃u,o=Z u/\RelV v u:=by
 cases o with
 |none=>exact(show False from r).elim
 |some u=>exact⟨u,rfl,r⟩
def iP.none_of{o:We}(r:iP L o):o=L:=by
 cases o with
 |none=>rfl
 |some u=>exact(show False from r).elim
def wm{v:V}{u:KM}(r:RelV v u):PySem.W.handedIn u=R:=by
 cases v with
 |non=>cases (show u=Value.none from r);rfl
 |bl b=>cases (show u=Value.bool b from r);rfl
 |int i=>obtain⟨t,e⟩:=(show ∃t,u=Value.int i t from r);cases e;rfl
 |str x=>obtain⟨t,e⟩:=(show ∃t,u=Value.str x t from r);cases e;rfl
 |byt b=>obtain⟨t,e⟩:=(show ∃t,u=Value.bytes b t from r);cases e;rfl
 |flt b=>obtain⟨t,e⟩:=(show ∃t,u=Value.float b t from r);cases e;rfl
 |ref a=>cases (show u=Value.ref a from r);rfl
 |ty n=>cases (show u=Value.type n from r);rfl
section
variable{P:P3}{w:SZ}{H H':Hp}{h h':SL}{a C dx:KF}{fs HY:List (Str×V)}
def mN(i:HU P w H h)(e:H a=Z (.ins C dx fs)):∃b,JL h a dx C b/\(∀f,iP (fs.lookup f) (b f))/\PySem.Within b (fs.map (·.1))/\fs.length<=1000/\H dx=Z (.own a):=by
 obtain⟨d,z,ne,g,b,n,r,q⟩:=(show cp P w H h a (.ins C dx fs) from i a _ e)
 exact⟨b,⟨g,n,ne⟩,r,q,z,d⟩
end
structure HZ(K:Xd)(C:KF):Prop where
 pg:PySem.W.plainGet K C Str.empty=true
 hd:PySem.W.hasDictIn K C=true
 po:PySem.W.plainOver K C=true
 sa:PySem.W.findIn K (.ref C) "__setattr__" = some (some (.builtin "object.__setattr__"))
def HZ.get{K:Xd}{C:KF}(c:HZ K C)(f:Str):PySem.W.plainGet K C f=R:=c.pg
def aV(K:Xd)(C:KF)(f:Str):Prop:=PySem.W.findIn K (.ref C) f=Z L
def aV.ND{K:Xd}{C:KF}{f:Str}(n:aV K C f):PySem.W.takerIn K C f=Z L:=by
 unfold PySem.W.takerIn;rw[show PySem.W.findIn K (.ref C) f=Z L from n];rfl
structure Meth(K:Xd)(C:KF)(m:Str)(f:KF):Prop where
 at_:PySem.W.findIn K (.ref C) m=some (some (.ref f))
 fn:PySem.W.isFn K (.ref f)=true
 kp:PySem.W.keepIn K (.ref f)=true
section
variable{X:Cx}{pins:Xy}{J:St}{H:Hp}{s:GM}{a C dx:KF}{fs:List (Str×V)}{f:Str}{v:V}{A:Re}{E:Z4}
def uw{b:Bool}{Q:Z4}(I:Inv X pins J H s)(e:H a=Z (.ins C dx fs))(c:HZ X.K C)(n:aV X.K C f)(l:fs.lookup f=Z v)(h:∀u d,Inv X pins J H d->RelV v u->Q u d):On (IR X.prog X.w) A (getAttr (.ref a) f b) Q E s:=by
 obtain⟨i,O,r,_,_,_⟩:=mN I.GO e;obtain⟨u,j,g⟩:=iP.some_of (v:=v) (o:=i f) (by rw[← l];exact r f);exact get_map I.Ic O (c.get f) c.hd n j (wm g) (h u _ (I.tok _) g)
def ox{m:Str}{g:KF}{b:Sem Bool}{Q:KM×Wf->GM->Prop}(I:Inv X pins J H s)(e:H a=Z (.ins C dx fs))(c:HZ X.K C)(k:Meth X.K C m g)(l:fs.lookup m=L)(h:Q (.ref g,[.ref a]) s):On (IR X.prog X.w) A (getMethod (.ref a) m b) Q E s:=by
 obtain⟨d,O,r,_,_,_⟩:=mN I.GO e;have i:d m=L:=iP.none_of (by rw[← l];exact r m);exact zc I.Ic O (c.get m) k.at_ k.fn i h
def tR{y:V}{u:KM}{Q:Unit->GM->Prop}(I:Inv X pins J H s)(e:H a=Z (.ins C dx fs))(c:HZ X.K C)(n:aV X.K C f)(M:fs.length<1000)(t:RelV y u)(h:∀j,Inv X pins J (upd H a (.ins C dx (iV f y fs))) j->Q () j):On (IR X.prog X.w) A (setAttr (.ref a) f u) Q E s:=by
 obtain⟨l,O,r,i,_,m⟩:=mN I.GO e;have D:(fs.map (·.1)).length<=sizeLine:=by rw[Zw,Xo];lia
 refine Al I.Ic O c.sa c.po n.ND c.hd i D λF d p=>h _ ?_;have hd:∃o,F.get? dx=Z o:=let ⟨o,_,_,G,_⟩:=d.ns;⟨o,G⟩
 refine I.write (x:=a) (e:=dx) (by rw[e];exact True.intro) (.inr m) (λb q hb z=>(p.2 b hb).trans z) hd ?_;refine⟨by rw[aC O.ne];exact m,?_,O.ne,d.obj,_,d.ns,λg=>?_,λg hg=>?_⟩
 ·have:=lW f y fs;lia
 ·show iP ((iV f y fs).lookup g) (if g=f then Z u else l g);rw[lY];by_cases q:g=f
  ·rw[Zq q,Zq q];exact t
  ·rw[Zp q,Zp q];exact r g
 ·by_cases q:g=f
  ·rw[q];exact(lE f y fs).1
  ·refine(lE f y fs).2 g (i g λz=>hg ?_);show (if g=f then Z u else l g)=L;rw[Zp q];exact z
def Inv.made(I:Inv X pins J H s):Inv X pins J (upd (upd H s.heap.objs.size (.own (s.heap.objs.size+1))) (s.heap.objs.size+1) (.ins C s.heap.objs.size []))
  { s with heap:=(s.heap.push PySem.W.emptyDict).push (PySem.W.instObj C s.heap.objs.size) }:=by
 have e1:(s.heap.push PySem.W.emptyDict).get? s.heap.objs.size=Z PySem.W.emptyDict:=ZU s.heap Y;have e2:((s.heap.push PySem.W.emptyDict).push (PySem.W.instObj C s.heap.objs.size)).get? (s.heap.objs.size+1)=Z (PySem.W.instObj C s.heap.objs.size):=by
  have:=ZU (s.heap.push PySem.W.emptyDict) (o:=PySem.W.instObj C s.heap.objs.size) Y
  rwa [Wr]at this
 have h:(s.heap.push PySem.W.emptyDict).Ns s.heap.objs.size (λ_=>L):=⟨PySem.W.emptyDict,#[],_,e1,rfl,(λe g=>absurd g (by simp)),λ_=>rfl⟩
 have i:=I.laid (a:=s.heap.objs.size) (o:=.own (s.heap.objs.size+1)) (h':=s.heap.push PySem.W.emptyDict) (t':=s.toks) (λb u q=>Zk _ q) (Zm _) ⟨_,e1⟩;refine i.laid (a:=s.heap.objs.size+1) (o:=.ins C s.heap.objs.size []) (t':=s.toks) (λb u q=>Zk _ q) (Xf (Wr _ _)) ?_;have ne:s.heap.objs.size≠s.heap.objs.size+1:=ZW (Yz _);refine⟨by rw[aC ne,aw],Ym _,ne,e2,λ_=>L,(Heap.Ns1.of_empty h).at λo q=>Zk _ q,λ_=>True.intro,λy d=>absurd Y d⟩
def AD{b:P3}{w:SZ}{d:Env}{e:Expr}{f:Str}{g:Pos}{s:GM}{Q:Z4}(j:UF e f d (eval e d)=eval e d)(h:On (IR b w) A (eval e d) (λo i=>On (IR b w) A (getAttr o f R) Q E i) E s):On (IR b w) A (eval (.Attribute e f g) d) Q E s :=
 Attribute_any_ h (by rw[arm_eval_Attribute,j])
end
def GA(K:Xd)(d:TE)(f:Str):TE:=λJ H Q=>d J H λx b=>∃a C e fs v,x=.ref a/\b a=Z (.ins C e fs)/\HZ K C/\aV K C f/\fs.lookup f=Z v/\Q v b
def GK(K:Xd)(g e:TE)(f:Str):TS:=λD J H=>e J H λy h=>g J h λx d=>∃a C b fs,x=.ref a/\d a=Z (.ins C b fs)/\HZ K C/\aV K C f/\fs.length<1000 ∧
 D.nx J (upd d a (.ins C b (iV f y fs)))
section
variable{X:Cx}{o e value:Expr}{f:Str}{pos pos' Ub:Pos}{ta tv:TE}
def xN(i:PE X e ta)(j:UF e f X.env (eval e X.env)=eval e X.env):PE X (.Attribute e f pos) (GA X.K ta f):=by
 intro b s J H Q I h;refine AD j (thn (i b s J H _ I h) λu s1 ⟨x,t,r,d,a,C,z,fs,v,ex,m,c,n,l,q⟩=>?_);subst ex;obtain rfl:u=Value.ref a:=d;exact uw r m c n l λw y p g=>⟨v,t,p,g,q⟩
def Dd(r:PE X o ta)(m:PE X value tv)(p:swapsWith value (Z (.Attribute o f pos')) pos.line X.env=pure B):PS X (.Assign [.Attribute o f pos'] value pos) (GK X.K ta tv f):=by
 intro b s J H D I h;refine plainObj_wpAny_Assign_Attribute (thn (m b s J H _ I h) λu s1 ⟨y,A,z,d,q⟩=>thn (r b s1 J A _ z q) λj F ⟨x,M,w,g,a,C,G,fs,ex,t,c,n,l,i⟩=>?_) p;subst ex;obtain rfl:j=Value.ref a:=g;exact tR w t c n l d λE v=>⟨J,_,v,i⟩
end
section
variable{X:Cx}{pins:Xy}{J:St}{H:Hp}{s:GM}{A:Re}{E:Z4}{Q:Z4}{c:KM}{b:Bool}
inductive HX(K:Xd)(H:Hp):V->KM->Prop where
 |non:HX K H .non (.type "NoneType")
 |bl (x:Bool):HX K H (.bl x) (.type "bool")
 |int (i:Int):HX K H (.int i) (.type "int")
 |str (x:Str):HX K H (.str x) (.type "str")
 |flt (x:UInt64):HX K H (.flt x) (.type "float")
 |lst {a:KF} {xs:List V} (e:H a=some (.lst xs)):HX K H (.ref a) (.type "list")
 |frz {a:KF} {o:Obj} {xs:List V} (e:H a=some (.frz o (.lst xs))):HX K H (.ref a) (.type "list")
 |tup {a:KF} {xs:List V} (e:H a=some (.tup xs)):HX K H (.ref a) (.type "tuple")
 |dK {a:KF} {bt:List (Key×V)} (e:H a=some (.dK bt)):HX K H (.ref a) (.type "dict")
 |dT {a:KF} {bt:List (List Key×V)} (e:H a=some (.dT bt)):HX K H (.ref a) (.type "dict")
 |ins {a C dx:KF} {fs:List (Str×V)} (e:H a=some (.ins C dx fs)) (cl:HZ K C) (ha:PySem.W.findIn K (.ref C) "__class__" = some (some (.builtin "object.__class__")))
   (hn:PySem.W.specialIn K (.builtin "object.__class__") "__get__" = some (some (.builtin "getset_descriptor.__get__"))) (SJ:PySem.W.takesIn K (.builtin "object.__class__")=some true)
   (hm:PySem.W.mroIn K C (.type "object")=some true):HX K H (.ref a) (.ref C)
def vX{x:V}{u t:KM}(I:Inv X pins J H s)(d:RelV x u)(r:HX X.K H x t)(e:PySem.W.kitOne X.K t c=Z b)(h:∀v,Q (.bool b) { s with toks:=v }) :
  On (IR X.prog X.w) A (call (.builtin "isinstance") [u,c]) Q E s:=by
 cases r with
 |non=>cases (show u=Value.none from d);exact Yl PySem.W.kitx_none I.Ic True.intro e (λz=>nomatch z) h
 |bl y=>cases (show u=Value.bool y from d);exact Yl PySem.W.kitx_bool I.Ic True.intro e (λz=>nomatch z) h
 |int i=>obtain⟨t,q⟩:=(show ∃t,u=Value.int i t from d);cases q;exact Yl PySem.W.kitx_int I.Ic True.intro e (λz=>nomatch z) h
 |str y=>obtain⟨t,q⟩:=(show ∃t,u=Value.str y t from d);cases q;exact Yl PySem.W.kitx_str I.Ic True.intro e (λz=>nomatch z) h
 |flt y=>obtain⟨t,q⟩:=(show ∃t,u=Value.float y t from d);cases q;exact Yl PySem.W.kitx_float I.Ic True.intro e (λz=>nomatch z) h
 |@lst a j f =>
  cases (show u=Value.ref a from d);obtain⟨_,_,n,_,g⟩:=(show cp X.prog X.w H s.heap a (.lst j) from I.GO a _ f)
  exact Yl PySem.W.kitx_list I.Ic ⟨_,g,rfl⟩ e (λz=>nomatch z) h
 |@frz a D j f =>
  cases (show u=Value.ref a from d);obtain⟨_,_,_,n,_,g⟩:=(show cp X.prog X.w H s.heap a (.frz D (.lst j)) from I.GO a _ f)
  exact Yl PySem.W.kitx_list I.Ic ⟨_,g,rfl⟩ e (λz=>nomatch z) h
 |@tup a j f =>
  cases (show u=Value.ref a from d);obtain⟨_,_,_,_,p⟩:=(show cp X.prog X.w H s.heap a (.tup j) from I.GO a _ f)
  obtain⟨o,g,l,_⟩:=p;exact Yl PySem.W.kitx_tuple I.Ic ⟨o,g,l⟩ e (λz=>nomatch z) h
 |@dK a m f =>
  cases (show u=Value.ref a from d);obtain⟨_,_,Y,_,p⟩:=(show cp X.prog X.w H s.heap a (.dK m) from I.GO a _ f)
  obtain⟨o,N,P,g,l,_⟩:=p;exact Yl PySem.W.kitx_dict I.Ic ⟨o,g,l.1⟩ e (λz=>nomatch z) h
 |@dT a m f =>
  cases (show u=Value.ref a from d);obtain⟨_,_,j,_,o,N,P,g,l,_⟩:=(show cp X.prog X.w H s.heap a (.dT m) from I.GO a _ f)
  exact Yl PySem.W.kitx_dict I.Ic ⟨o,g,l.1⟩ e (λz=>nomatch z) h
 |@ins a C dx fs f cl M F S G =>
  cases (show u=Value.ref a from d);obtain⟨mA,O,_⟩:=mN I.GO f;obtain⟨od,U,_⟩:=O.look;exact Yl (PySem.W.kitx_own (cl.get _) cl.hd M F S G) I.Ic U e (λz=>nomatch z) h
end
structure p0(k:Nat)(A:Re):Prop where
 hd:A.handled=none
 dp:A.depth+3*k+5<recursionLimit
 un:A.units+16*k+200<cLine
def p0.mono{j k:Nat}{A:Re}(r:p0 k A)(h:j<=k):p0 j A:=⟨r.hd,by have:=r.dp;lia,by have:=r.un;lia⟩
theorem p0.deeper{k:Nat}{A:Re}(r:p0 (k+1) A)(a:Env):p0 k (A.deeper a) :=
 ⟨r.hd,by have:=r.dp;show A.depth+1+3*k+5<_;lia,by have:=r.un;show A.units+3+16*k+200<_;lia⟩
def tU{A:Re}{C:KF}{a:Wf}{b:List (Str×KM)}:(A.under (.builtin "type.__call__" ⟨.ref C :: a,b⟩)).depth=A.depth+1:=by
 first | rfl | simp[Around.under,Code.weight,Code.isCreation,Code.isGuard,Code.isCaller,Code.frames,Code.isFrame,guardIds]
def tM{A:Re}{C:KF}{a:Wf}{b:List (Str×KM)}:(A.under (.builtin "type.__call__" ⟨.ref C :: a,b⟩)).units=A.units+1:=by
 first | rfl | simp[Around.under,Code.cUnits,Code.frames,Code.isFrame]
def p0.make{k:Nat}{A:Re}(r:p0 (k+1) A)(C:KF)(a:Wf)(b:List (Str×KM)):p0 k (A.under (.builtin "type.__call__" ⟨.ref C :: a,b⟩)) :=
 ⟨r.hd,by have:=r.dp;rw[tU];lia,by have:=r.un;rw[tM];lia⟩
theorem p0.depth{k:Nat}{A:Re}(r:p0 k A):A.depth<recursionLimit:=by have:=r.dp;lia
theorem p0.units{k:Nat}{A:Re}(r:p0 k A):A.units+64<cLine:=by have:=r.un;lia
def tY:TA:=λ_ H Q=>Q [] H
def B1(d:TE)(b:TA):TA:=λJ H Q=>d J H λx f=>b J f λa e=>Q (x :: a) e
section
variable{X:Cx}{e:Expr}{es:List Expr}{te:TE}{t:TA}{pos:Pos}
def fO:PA X [] tY:=λ_ _ _ _ H Q I h=>Calls.spliced_nil ⟨[],H,I,.nil,h⟩
def cA(j:PE X e te)(i:PA X es t)(g:K1 e es X:=by rfl):PA X (e :: es) (B1 te t):=by
 intro pos a s J H Q I h;rw[g];show On _ _ (spliced ((B,eval e X.env) :: backTo pos (Pi es X.env))) _ _ s;refine Calls.spliced_cons (thn (j a s J H _ I h) λu s1 ⟨x,o,m,r1,f⟩=>?_);exact thn (i pos a s1 J o _ m f) λp q ⟨b,n,l,r2,d⟩=>⟨x :: b,n,l,.cons r1 r2,d⟩
def GE(t:TA):TE:=λJ H Q=>t J H λa b=>a.length<=KB/\∀p,b p=L->Q (.ref p) (upd b p (.tup a))
def GG(t:TA):TE:=λJ H Q=>t J H λa b=>a.length<=KB/\∀p,b p=L->Q (.ref p) (upd b p (.lst a))
def D9{x1}(h:PA X es t):PE X (.Tuple es x1 pos) (GE t):=by
 intro a s J H Q I j;refine wpAny_Tuple_spliced (thn (h pos a s J H _ I j) λi s1 ⟨g,f,d,r,z,q⟩=>⟨by rw[← r.length];exact z,?_⟩);have l:f s1.heap.objs.size=L:=d.GO.fresh (Zm _);refine⟨.ref s1.heap.objs.size,upd f s1.heap.objs.size (.tup g),d.laid (t':=s1.toks) (λb u e=>Zk _ e) (Zm _) ?_,rfl,q _ l⟩;exact⟨z,i,r,Mb.of (ZU _ Y) Y,⟨_,ZU _ Y,rfl,_,rfl⟩⟩
def xj(h:PA X es t):PE X (.List es pos) (GG t):=by
 intro a s J H Q I j;refine wpAny_List_spliced (thn (h pos a s J H _ I j) λi s1 ⟨g,f,d,r,z,q⟩=>⟨by rw[← r.length];exact z,?_⟩);have l:f s1.heap.objs.size=L:=d.GO.fresh (Zm _);refine⟨.ref s1.heap.objs.size,upd f s1.heap.objs.size (.lst g),d.laid (t':=s1.toks) (λb u e=>Zk _ e) (Zm _) ?_,rfl,q _ l⟩;exact⟨z,i,0,r,ZU _ Y⟩
end
abbrev Sp:=List V->Hp->VK->XK->Prop
abbrev Ks:=List Env->Hp->GM->XK->Z4
structure Env0(P:P3)(w:SZ)(K:Xd)(mg:X6)(base:SL)(A:Re)(outer:List Env)(s:GM)(H:Hp):Prop where
 frames:A.frames=some outer
 mod:Mod K mg base
 bs:∀b o,base.get? b=some o->s.heap.get? b=some o/\H b=none
 LI:base.objs.size<=s.heap.objs.size
 Ih:s.heap.FunFrames base outer
 MQ:∀b∈HR outer,H b=none
 GO:HU P w H s.heap
 bare:AllBare s.gens
noncomputable def CE(a:List Env)(P:P3)(w:SZ)(H:Hp)(s:GM)(Q:VK)(u:KM)(b:GM):Prop :=
 ∃v d,b.os=s.os/\AllBare b.gens/\Un (HR a) [] H d s.heap b.heap/\HU P w d b.heap/\RelV v u/\Q v d
noncomputable def CR(d:Ks)(a:List Env)(P:P3)(w:SZ)(H:Hp)(s:GM)(Q:VK)(E:XK)(r:Result)(b:GM):Prop :=
 match r with
 |.ok (.ret u)=>CE a P w H s Q u b
 |.ok _=>False
 |.error e=>d a H s E e b
structure FnOk(P:P3)(w:SZ)(K:Xd)(mg:X6)(base:SL)(CX:Ks)(k:Nat)(f:KF)(fd:Pv)(ps:List Str)(sp:Sp):Prop where
 len:∀vs H Q E,sp vs H Q E->vs.length=ps.length
 run:∀(A:Re)(outer:List Env)(s:GM)(H:Hp)(args:Args)(us:Wf)(vs:List V)(Q:VK)(E:XK),p0 k A->Env0 P w K mg base A outer s H->BindsTo s fd args (ps.zip us)->aQ vs us->sp vs H Q E →
  codeAny (IR P w) A (.call (.ref f) args) (CR CX outer P w H s Q E) s
def FnOk.imp{P:P3}{w:SZ}{K:Xd}{g:X6}{a:SL}{l:Ks}{k:Nat}{f:KF}{i:Pv}{e:List Str}{d j:Sp}(F:FnOk P w K g a l k f i e d)(h:∀b H Q E,j b H Q E->d b H Q E):FnOk P w K g a l k f i e j :=
 ⟨λb H Q E q=>F.len b H Q E (h _ _ _ _ q),λA outer s H args m b Q E p r hb n o=>F.run A outer s H args m b Q E p r hb n (h _ _ _ _ o)⟩
def Env0.make{P:P3}{w:SZ}{K:Xd}{d:X6}{b:SL}{A:Re}{a:List Env}{s:GM}{H:Hp}(e:Env0 P w K d b A a s H)(C:KF)(f:Wf)(g:List (Str×KM)) :
  Env0 P w K d b (A.under (.builtin "type.__call__" ⟨.ref C :: f,g⟩)) a s H:=⟨by first | exact e.frames | (simpa[Around.under,Code.envs,Code.isFrame,pushEnvs] using e.frames),e.mod,e.bs,e.LI,e.Ih,e.MQ,e.GO,e.bare⟩
section
variable{X:Cx}{pins:Xy}{J:St}{H:Hp}{s s':GM}
def Inv.Oq(I:Inv X pins J H s):Env0 X.prog X.w X.K X.mg X.base X.A X.stack s H :=
 ⟨I.ok.frames,I.ok.mod,I.bs,ZJ I.ok.LI I.sz,I.stack,I.JN,I.GO,I.bare⟩
def Inv.after{Q:VK}{u:KM}(I:Inv X pins J H s)(h:CE X.stack X.prog X.w H s Q u s'):EP X pins J Q u s':=by
 obtain⟨v,f,os,bare,un,GO,r,q⟩:=h;obtain⟨a,g,d,t,e⟩:=s';obtain rfl:e=s.os:=os;exact⟨v,f,I.call (h':=a) (g':=g) (d':=d) (t':=t) (ch:=[]) un GO bare (λb z=>absurd z (by simp)),r,q⟩
end
def B9(b:Sp)(d:List V)(E:XK)(t:TA):TE:=λJ H Q=>t J H λa e=>b (a++d) e Q E
def vk(C:KF)(m:Str)(f:Sp)(h:List V)(E:XK)(e:TE)(t:TA):TE:=λJ H Q=>e J H λx b=>∃a g fs,x=.ref a/\b a=Z (.ins C g fs)/\fs.lookup m=L ∧
 t J b λd i=>f (x :: (d++h)) i Q E
def yS(C:KF)(e:Sp)(f:List V)(E:XK)(t:TA):TE:=λJ H Q=>t J H λd b=>∀x a,b x=L->b a=L->a≠x →
 e (.ref x :: (d++f)) (upd (upd b a (.own x)) x (.ins C a [])) (λv g=>v=.non/\Q (.ref x) g) E
def Binds(K:Xd)(d:Pv)(b:List Str)(ds:Wf):Prop :=
 ∀(s:GM)(a:Wf),K.In s.heap->(a++ds).length=b.length->BindsTo s d ⟨a,[]⟩ (b.zip (a++ds))
def Binds.all{K:Xd}{e:Pv}{b:List Str}(h:∀a:Wf,a.length=b.length->bindArgs e ⟨a,[]⟩=pure (b.zip a)):Binds K e b []:=λs a _ d=>by
 rw[Zg]at d ⊢;exact .of_eq (h a d)
def jd(d:Ks)(X:Cx)(E:XK):Prop:=∀(a:Xy)(J:St)(H:Hp)(s:GM)(e:KM)(b:GM),Inv X a J H s->d X.stack H s E e b->X.xe e b
section
variable{X:Cx}{CX:Ks}{k:Nat}{f C:KF}{fd:Pv}{ps:List Str}{sp:Sp}{Iw:List V}{ds:Wf}{E:XK}{x m:Str}{p pos apos:Pos}{e o:Expr}{es:List Expr}{ta:TE}{t:TA}
def tQ{a:Xy}{J:St}{H:Hp}{s:GM}{Q:VK}{us:Wf}{vs:List V}(F:FnOk X.prog X.w X.K X.mg X.base CX k f fd ps sp)(i:p0 k X.A)(n:Binds X.K fd ps ds)(l:aQ Iw ds)(g:jd CX X E)(I:Inv X a J H s)(r:aQ vs us)(h:sp (vs++Iw) H Q E):On (IR X.prog X.w) X.A (call (.ref f) us) (EP X a J Q) X.xe s:=by
 have r2:aQ (vs++Iw) (us++ds):=r.append l;have j:(us++ds).length=ps.length:=by rw[← r2.length];exact F.len _ _ _ _ h
 refine wpAny_call (codeAny_mono (F.run X.A X.stack s H ⟨us,[]⟩ (us++ds) (vs++Iw) Q E i I.Oq (n s us I.Ic j) r2 h) λr d b=>?_);cases r with
 |error e=>exact g a J H s e d I b
 |ok q =>
  cases q with
  |ret u=>exact I.after b
  |next=>exact False.elim b
  |brk=>exact False.elim b
  |cont=>exact False.elim b
def mL(F:FnOk X.prog X.w X.K X.mg X.base CX k f fd ps sp)(i:p0 k X.A)(n:Gl X x)(j:X.mg x=Z (.ref f))(l:PySem.W.keepIn X.K (.ref f)=R)(y:Binds X.K fd ps ds)(v:aQ Iw ds)(g:jd CX X E)(z:PA X (e :: es) t)(D:K3 x:=by decide)(u:K1 e es X:=by rfl)(b:K2 pos es X:=by rfl) :
  PE X (.Call (.Name x p) (e :: es) [] pos) (B9 sp Iw E t):=by
 intro a s J H Q I h;refine Xq (mM I n j ?_ D);refine XA (h₀:=X.base) I.ok.mod.NY l (thn (z pos a s J H _ I h) λM s1 ⟨G,N,d,r,q⟩=>⟨d.Ic,?_⟩) u b;exact tQ F i y v g d r q
def pR{pl:Sem Bool}(M:PE X o ta)(c:HZ X.K C)(i:Meth X.K C m f)(F:FnOk X.prog X.w X.K X.mg X.base CX k f fd ps sp)(G:p0 k X.A)(O:Binds X.K fd ps ds)(N:aQ Iw ds)(z:jd CX X E)(P:PA X (e :: es) t)(U:K1 e es X:=by rfl)(d:K2 pos es X:=by rfl)(D:eval (.Call (.Attribute o m apos) (e :: es) [] pos) X.env=(do
   let g ← eval o X.env
   standAt apos.atName
   let (f,first) ← holding [g] (getMethod g m pl)
   callWith pos f first (backTo pos (Pi (e :: es) X.env)) (backToKw pos (SB [] X.env))):=by rfl) :
  PE X (.Call (.Attribute o m apos) (e :: es) [] pos) (vk C m sp Iw E ta t):=by
 intro b s J H Q I h;refine PySem.W.methodCall_KW (pl:=pl) (thn (M b s J H _ I h) λu s1 ⟨x,H1,n,v,a,dx,fs,ex,S,l,q⟩=>?_) D;subst ex;obtain rfl:u=Value.ref a:=v;refine ox n S c i l ?_;refine XA (first:=[.ref a]) (h₀:=X.base) I.ok.mod.NY i.kp (thn (P pos b s1 J H1 _ n q) λus s2 ⟨vs,H2,j,r,y⟩=>⟨j.Ic,?_⟩) U d;exact tQ (us:=.ref a :: us) (vs:=.ref a :: vs) F G O N z j (.cons Y r) y
def nB{pl:Sem Bool}(y:PE X o ta)(c:HZ X.K C)(i:Meth X.K C m f)(F:FnOk X.prog X.w X.K X.mg X.base CX k f fd ps sp)(v:p0 k X.A)(D:Binds X.K fd ps ds)(z:aQ Iw ds)(n:jd CX X E)(r:eval (.Call (.Attribute o m apos) [] [] pos) X.env=(do
   let g ← eval o X.env
   standAt apos.atName
   let (f,first) ← holding [g] (getMethod g m pl)
   callWith pos f first (backTo pos (Pi [] X.env)) (backToKw pos (SB [] X.env))):=by rfl) :
  PE X (.Call (.Attribute o m apos) [] [] pos) (vk C m sp Iw E ta tY):=by
 intro b s J H Q I h;refine PySem.W.methodCall_KW (pl:=pl) (thn (y b s J H _ I h) λu s1 ⟨x,N,d,j,a,M,fs,ex,G,l,q⟩=>?_) r;subst ex;obtain rfl:u=Value.ref a:=j;refine ox d G c i l ?_;exact PySem.W.callWith_K0 (first:=[.ref a]) d.Ic i.kp (tQ (us:=[.ref a]) (vs:=[.ref a]) F v D z n d (.cons Y .nil) q)
structure Mk(K:Xd)(C f:KF):Prop where
 makes:PySem.W.makesIn K C=true
 init:PySem.W.findIn K (.ref C) "__init__" = some (some (.ref f))
 fn:PySem.W.isFn K (.ref f)=true
 kp:PySem.W.keepIn K (.ref C)=true
def rZ{a:Xy}{J:St}{H:Hp}{s:GM}{Q:VK}{us:Wf}{i:List V}(j:Mk X.K C f)(F:FnOk X.prog X.w X.K X.mg X.base CX k f fd ps sp)(D:p0 (k+1) X.A)(N:Binds X.K fd ps ds)(M:aQ Iw ds)(z:jd CX X E)(I:Inv X a J H s)(r:aQ i us)(h:∀x d,H x=L->H d=L->d≠x->sp (.ref x :: (i++Iw)) (upd (upd H d (.own x)) x (.ins C d [])) (λv S=>v=.non/\Q (.ref x) S) E) :
  On (IR X.prog X.w) X.A (call (.ref C) us) (EP X a J Q) X.xe s:=by
 have l:=h (s.heap.objs.size+1) s.heap.objs.size (I.GO.fresh (Xj _)) (I.GO.fresh (Zm _)) (ZW (Yz _));have g:=Inv.made (C:=C) I;have r2:aQ (V.ref (s.heap.objs.size+1) :: (i++Iw)) (Value.ref (s.heap.objs.size+1) :: (us++ds)):=.cons Y (r.append M);have G:(Value.ref (s.heap.objs.size+1) :: us++ds).length=ps.length:=by
  have e:=r2.length;rw[F.len _ _ _ _ l]at e;exact e.symm
 refine wpAny_call (xg (f:=f) I.Ic j.makes j.init (beq_iff_eq.mp j.fn) (codeAny_mono (F.run _ X.stack _ _ ⟨Value.ref (s.heap.objs.size+1) :: us,[]⟩ (Value.ref (s.heap.objs.size+1) :: (us++ds)) _ _ E (D.make C us [])
  (g.Oq.make C us []) (N _ (Value.ref (s.heap.objs.size+1) :: us) g.Ic G) r2 l) λr n b=>?_))
 cases r with
 |error e=>exact z a J _ _ e n g b
 |ok O =>
  cases O with
  |ret u =>
   obtain⟨v,U,P,q,ev,y⟩:=g.after b;subst ev;exact⟨q,⟨V.ref (s.heap.objs.size+1),U,P,rfl,y⟩⟩
  |next=>exact False.elim b
  |brk=>exact False.elim b
  |cont=>exact False.elim b
def uP(d:Mk X.K C f)(F:FnOk X.prog X.w X.K X.mg X.base CX k f fd ps sp)(j:p0 (k+1) X.A)(n:Gl X x)(l:X.mg x=Z (.ref C))(y:Binds X.K fd ps ds)(v:aQ Iw ds)(i:jd CX X E)(z:PA X (e :: es) t)(D:K3 x:=by decide)(u:K1 e es X:=by rfl)(b:K2 pos es X:=by rfl) :
  PE X (.Call (.Name x p) (e :: es) [] pos) (yS C sp Iw E t):=by
 intro a s J H Q I h;refine Xq (mM I n l ?_ D);refine XA (h₀:=X.base) I.ok.mod.NY d.kp (thn (z pos a s J H _ I h) λM s1 ⟨G,N,g,r,q⟩=>⟨g.Ic,?_⟩) u b;exact rZ d F j y v i g r q
def zj(b:Mk X.K C f)(F:FnOk X.prog X.w X.K X.mg X.base CX k f fd ps sp)(g:p0 (k+1) X.A)(j:Gl X x)(i:X.mg x=Z (.ref C))(n:Binds X.K fd ps ds)(l:aQ Iw ds)(d:jd CX X E)(q:K3 x:=by decide):PE X (.Call (.Name x p) [] [] pos) (yS C sp Iw E tY):=by
 intro a s J H Q I h;refine Xq (mM I j i ?_ q);exact PySem.W.callWith_K0 I.Ic b.kp (rZ (us:=[]) b F g n l d I .nil h)
end
structure gV(N P:List Str)(sc:Scope):Prop where
 kind:sc.kind=.function
 co:sc.isCoroutine=false
 gen:sc.isGenerator=false
 nd:N.Nodup
 pre:N.take P.length=P
 par:∀x∈P,sc.names.lookup x=some .local\/sc.names.lookup x=some .cell
 Mr:∀y∈sc.names,y.2 ≠ .free
theorem pf{a:Str->Option NameKind}{x:Str}:∀{binds:List (Str×KM)}{m:X6},(∀v,(x,v)∉binds)->bindL a binds m x=m x
 |[],_,_=>rfl
 | (n,v) :: r,m,h=>by
  unfold bindL;rw[pf λw hw=>h w (Zu _ hw)];split
  ·have:x≠n:=by rintro rfl;exact h v Zt
   simp[this]
  ·rfl
theorem oS{a:Str->Option NameKind}{x:Str}:∀{binds:List (Str×KM)}{m:X6},(∀v,(x,v)∉binds)->bindC a binds m x=m x
 |[],_,_=>rfl
 | (n,v) :: r,m,h=>by
  unfold bindC;rw[oS λw hw=>h w (Zu _ hw)];split
  ·rfl
  ·have:x≠n:=by rintro rfl;exact h v Zt
   simp[this]
theorem oT{a:Str->Option NameKind}{x:Str}{v:KM}:∀{P:List Str}{b:Wf}{i:Nat}{m:X6},P.Nodup->P[i]?=Z x->b[i]?=Z v->a x=Z .local →
  bindL a (P.zip b) m x=Z v
 |[],_,_,_,_,h,_,_=>by simp at h
 |_ :: _,[],_,_,_,_,h,_=>by simp at h
 |p :: P,w :: b,0,m,nd,e,d,f=>by
  simp at e d;subst e;subst d;show bindL a ((p,w) :: P.zip b) m p=_;unfold bindL;rw[pf λv g=>(Zf.mp nd).1 (List.of_mem_zip g).1,Zq f];simp
 |p :: P,w :: b,i+1,m,nd,e,d,f=>by
  show bindL a ((p,w) :: P.zip b) m x=_;unfold bindL;exact oT (i:=i) (Zf.mp nd).2 (by simpa using e) (by simpa using d) f
theorem pq{a:Str->Option NameKind}{x:Str}{v:KM}:∀{P:List Str}{b:Wf}{i:Nat}{m:X6},P.Nodup->P[i]?=Z x->b[i]?=Z v->a x≠Z .local →
  bindC a (P.zip b) m x=Z v
 |[],_,_,_,_,h,_,_=>by simp at h
 |_ :: _,[],_,_,_,_,h,_=>by simp at h
 |p :: P,w :: b,0,m,nd,e,d,f=>by
  simp at e d;subst e;subst d;show bindC a ((p,w) :: P.zip b) m p=_;unfold bindC;rw[oS λv g=>(Zf.mp nd).1 (List.of_mem_zip g).1,Zp f];simp
 |p :: P,w :: b,i+1,m,nd,e,d,f=>by
  show bindC a ((p,w) :: P.zip b) m x=_;unfold bindC;exact pq (i:=i) (Zf.mp nd).2 (by simpa using e) (by simpa using d) f
def start(N:List Str)(a:List V):St:=a.map Z++List.replicate (N.length-a.length) L
noncomputable def iR(j:Ks)(P:P3)(w:SZ)(K:Xd)(m:X6)(h:SL)(N:List Str)(d:Str)(a:Scope)(f:KF)(g:KM)(A:Re)(b:List Env)(s:GM)(H:Hp)(E:XK):Cx where
 prog:=P
 w:=w
 K:=K
 mg:=m
 base:=h
 A:=A.deeper (envOfC d a s.heap.objs.size f g)
 N:=N
 s₀:=s
 H₀:=H
 env:=envOfC d a s.heap.objs.size f g
 outer:=b
 stack:=envOfC d a s.heap.objs.size f g :: b
 ex:=[]
 calm:=R
 fn:=λ_=>R
 pn:=[]
 xe:=λe l=>On (IR P w) (A.deeper (envOfC d a s.heap.objs.size f g)) (leaving (envOfC d a s.heap.objs.size f g) e) (λ_ i=>j b H s E e i) (λn i=>j b H s E n i) l
def rh{a:Scope}{n:Nat}{x:Str}(h:a.names.lookup x=Z .cell):∃c,(cellsFrom n a.names []).lookup x=Z c:=by
 have q:=PySem.W.cellsFrom_some a.names n [] (.inl h);exact Yt.mp q
def wX{CX:Ks}{P:P3}{w:SZ}{K:Xd}{Q:X6}{m:SL}{N C:List Str}{j:Str}{d:Scope}{f:KF}{M:KM}{A:Re}{g:List Env}{s X:GM}{H:Hp}{E:XK}{O:Wf}{t:List V}(S:gV N C d)(hd:A.handled=L)(o:Env0 P w K Q m A g s H)(hl:t.length=C.length)(r:aQ t O)(x:InCallC s s.heap.objs.size (bindL (envOfC j d s.heap.objs.size f M).kindOf (C.zip O) λ_=>L) (cellsFrom (s.heap.objs.size+1) d.names []) (bindC (envOfC j d s.heap.objs.size f M).kindOf (C.zip O) λ_=>L) X) :
  Inv (iR CX P w K Q m N j d f M A g s H E) [] (start N t) H X:=by
 have hpl:C.length<=N.length:=by have:=congrArg List.length S.pre;rw[XS]at this;lia
 obtain⟨J,tk,rfl,hk⟩:=x.done;have U:∀b:KF,b∉(iR CX P w K Q m N j d f M A g s H E).ex:=λb z=>absurd (show b∈([]:X7) from z) (by simp);refine⟨⟨o.mod,S.kind,rfl,rfl,Zm _,λy z c J l=>?_,λy D=>?_,λy c _ h=>?_,λ_=>hd,Around.frames_deeper o.frames,.inr ⟨rfl,rfl⟩,λb z=>absurd z (U b),o.bs,o.LI,λb _ _=>U b,λb z=>absurd z (U b),o.Ih,o.MQ⟩,
  rfl,o.bare,Un.kept hk,⟨_,x.toInCall.ns,λi y v J l h3=>?_⟩,λy c h=>⟨_,x.cell y c h⟩,o.GO.fresh (Zm _),λy c h=>?_,λp F=>absurd (show p∈([]:Xy) from F) (by simp),o.GO.kept hk,?_⟩
 ·exact name_of_addr x.apart (Y4 J) (Y4 l)
 ·have D:d.names.lookup y=Z .cell\/d.names.lookup y=Z .free:=D;rcases D with D | D
  ·exact rh D
  ·exact absurd Y (S.Mr _ (Y4 D))
 ·exact Xu (x.above y c (Y4 h))
 ·have G:i<t.length:=by
   unfold start at l;by_cases G:i<t.length
   ·exact G
   ·rw[Yx (by simpa using G)]at l;rw[Yd]at l;split at l<;>cases l
  have ha:t[i]?=Z v:=by
   unfold start at l;rw[ZA (by simpa using G),ZS]at l;cases e:t[i]? with
   |none=>rw[e]at l;cases l
   |some a=>rw[e]at l;cases l;rfl
  obtain⟨u,hu,rv⟩:=r.get ha;have F:C[i]?=Z y:=by
   rw[← S.pre,List.getElem?_take_of_lt (by lia)];exact J
  have SA:C.Nodup:=by rw[← S.pre];exact S.nd.sublist (List.take_sublist _ _)
  refine⟨u,rv,?_⟩;rcases S.par y (Yj F) with k | k
  ·exact .inl ⟨k,oT SA F hu k⟩
  ·obtain⟨c,e⟩:=rh (n:=s.heap.objs.size+1) k;refine .inr ⟨.inl k,c,e,?_⟩;have q:=x.cell y c e;rw[pq SA F hu (by show d.names.lookup y≠_;rw[k];decide)]at q;exact q
 ·exact o.GO.fresh (Xu (x.above y c (Y4 h)))
 ·unfold start;show _=N.length;rw[Zv,Zw,YC];lia
def Ci{U:Ks}{P:P3}{w:SZ}{K:Xd}{M:X6}{h:SL}{k:Nat}{f:KF}{l d:Str}{g:Arguments}{i:List Stmt}{a:Scope}{dV kV G pm z ct oc:KM}{an od:Option KF}{Jx:Array (We)}{N J:List Str}{X:Sp}(lk:K.lookup f=Z ⟨oc,od,.func (PySem.W.fnOf l d g i a dV kV G pm an z ct),Jx⟩)(hcd:PySem.W.codeIn K z d=R)(S:gV N J a)(D:∀j H Q E,X j H Q E->j.length=J.length)(Jo:∀(A:Re)(outer:List Env)(s:GM)(H:Hp)(j:List V)(Q:VK)(E:XK),p0 k (A.deeper (envOfC d a s.heap.objs.size f z))->X j H Q E →
   ∃t,IE (iR U P w K M h N d a f z A outer s H E) i t/\t { nx:=λ_ p=>Q .non p,rt:=Q } (start N j) H) :
  FnOk P w K M h U (k+1) f (PySem.W.fnOf l d g i a dV kV G pm an z ct) J X:=by
 refine⟨D,λA outer s H args us j Q E hr F hb r La=>?_⟩;have hl:=D _ _ _ _ La;have KX:K.In s.heap:=F.mod.NY.keeps λb o e=>(F.bs b o e).1;have lim:s.heap.NoLimit:=F.mod.nolimit.keeps λb o e=>(F.bs b o e).1;have IM:∀y∈J.zip us,a.names.lookup y.1=Z .local\/(a.names.lookup y.1=Z .cell/\((cellsFrom (s.heap.objs.size+1) a.names []).lookup y.1).isSome=R):=λ⟨n,v⟩ hy=>by
  rcases S.par n (List.of_mem_zip hy).1 with q | q
  ·exact .inl q
  ·exact .inr ⟨q,PySem.W.cellsFrom_some _ _ _ (.inl q)⟩
 refine codeAny_call_function hr.depth (KX _ _ lk) Y S.co S.gen Y (PySem.W.codeRec_of KX hcd) (hb _ _ _ _ ?_);refine wpAny_newFunctionEnv_cells S.kind IM λenv he s1 x=>?_;subst he;refine⟨lim.keeps x.toInCall.keep,codeAny_func ?_⟩;obtain⟨t,ht,hq⟩:=Jo A outer s H j Q E (hr.deeper _) La;have I:Inv (iR U P w K M h N d a f z A outer s H E) [] (start N j) H s1:=wX S hr.hd F hl r x;refine YB (ht [] s1 (start N j) H _ I hq) (λfl s' C=>?_) λe s' C=>C;have fin:∀{O:St}{p:Hp}{v:V}{u:KM},Inv (iR U P w K M h N d a f z A outer s H E) [] O p s'->RelV v u->Q v p->CE outer P w H s Q u s' :=
  λ{O p v u} m rv q=>⟨v,p,m.os,m.bare,m.base,m.GO,rv,q⟩
 cases fl with
 |ret u =>
  obtain⟨v,O,p,m,rv,q⟩:=C;exact fin m rv q
 |next =>
  obtain⟨O,p,m,q⟩:=C;exact fin (v:=V.non) (u:=Value.none) m Y q
 |brk =>
  obtain⟨_,_,_,q⟩:=C;exact False.elim q
 |cont =>
  obtain⟨_,_,_,q⟩:=C;exact False.elim q
section
variable{X:Cx}{x:Str}{p pos:Pos}{e:Expr}{es:List Expr}{t:TA}{id T:String}{r:List V->Hp->VK->Prop}
def Sa(r:List V->Hp->VK->Prop)(t:TA):TE:=λJ H Q=>t J H λa b=>r a b Q
def mW(m:dX X (.builtin id) r)(l:Gl X x)(j:X.mg x=L)(g:bootBuiltins x=Z (.builtin id))(n:PA X (e :: es) t)(i:x ≠ "__name__" := by decide)(q:K3 x:=by decide)(he:K1 e es X:=by rfl)(hpl:K2 pos es X:=by rfl):PE X (.Call (.Name x p) (e :: es) [] pos) (Sa r t):=by
 intro a s J H Q I h;refine Xq (qx I l j g ?_ i q);exact PyProof.Rows.callWith_builtin1 (thn (n pos a s J H _ I h) λd s1 ⟨b,u,o,r1,f⟩=>m a s1 J u b d Q o r1 f) he hpl
def v8(o:dX X (.type T) r)(m:Gl X x)(l:X.mg x=L)(i:bootBuiltins x=Z (.type T))(q:PA X (e :: es) t)(j:x ≠ "__name__" := by decide)(v:K3 x:=by decide)(n:K1 e es X:=by rfl)(b:K2 pos es X:=by rfl):PE X (.Call (.Name x p) (e :: es) [] pos) (Sa r t):=by
 intro a s J H Q I h;refine Xq (qx I m l i ?_ j v);exact PyProof.Rows.callWith_type1 (thn (q pos a s J H _ I h) λf s1 ⟨d,w,u,r1,g⟩=>o a s1 J w d f Q u r1 g) n b
end
end L2
namespace HT
open PySem PyProof.Rows
section
variable{prog:P3}{w:SZ}{A:Re}{E:Z4}{s:GM}
def HD(n d:Nat):Option Int->Nat
 |none=>d
 |some v=>if v<0 then (v+(n:Int)).toNat else min v.toNat n
end
end HT
namespace L2
open PySem PySem.Spec PyProof.Rows
abbrev TO:=St->Hp->(Option Int->Hp->Prop)->Prop
def PO(X:Cx)(e:Option Expr)(t:TO):Prop :=
 ∀(a:Xy)(s:GM)(J:St)(H:Hp)(Q:Option Int->Hp->Prop),Inv X a J H s->t J H Q →
  On (IR X.prog X.w) X.A (evalPart e X.env) (λu d=>∃o b,Inv X a J b d/\IsPart u o/\Q o b) X.xe s
def AG:TO:=λ_ H Q=>Q L H
def E9(t:TE):TO:=λJ H Q=>t J H λx a=>∃i,x=.int i/\Q (Z i) a
section
variable{X:Cx}{e:Expr}{te:TE}{lo hi:Option Expr}{tl th:TO}{pos p2:Pos}
def vP:PO X L AG:=by
 intro a s J H Q I h;rw[evalPart_none];exact ZO ⟨L,H,I,.none,h⟩
def u9(h:PE X e te):PO X (Z e) (E9 te):=by
 intro a s J H Q I hw;rw[evalPart_some];refine thn (h a s J H _ I hw) λu s1 ⟨x,f,d,r1,b⟩=>?_;obtain⟨i,rfl,q⟩:=b;obtain⟨t,rfl⟩:=r1;exact⟨Z i,f,d,.int i t,q⟩
noncomputable def L9(X:Cx)(r:V->Option Int->Option Int->Hp->VK->Prop):Prop :=
 ∀(a:Xy)(s:GM)(J:St)(H:Hp)(x:V)(v d b:KM)(lo hi:Option Int)(f:KF)(Q:VK),Inv X a J H s->RelV x v->s.heap.IsSliceOf f d b .none->IsPart d lo->IsPart b hi->r x lo hi H Q →
  ∃T id,typeLookup (.type T) "__getitem__" = pure (Z (.builtin id))/\s.TypeIs v T/\On (IR X.prog X.w) X.A (getItem v (.ref f)) (EP X a J Q) X.xe s
def L9.or{r i:V->Option Int->Option Int->Hp->VK->Prop}(h:L9 X r)(m:L9 X i):L9 X (λx lo hi H Q=>r x lo hi H Q\/i x lo hi H Q):=by
 intro a s J H x v d b lo hi f Q I g l j pu q;rcases q with q | q
 ·exact h a s J H x v d b lo hi f Q I g l j pu q
 ·exact m a s J H x v d b lo hi f Q I g l j pu q
def Ue(r:V->Option Int->Option Int->Hp->VK->Prop)(d:TE)(a b:TO):TE:=λJ H Q=>d J H λx h=>a J h λl g=>b J g λu f=>r x l u f Q
def rq{r:V->Option Int->Option Int->Hp->VK->Prop}(z:L9 X r)(D:PE X e te)(C:PO X lo tl)(t:PO X hi th):PE X (.Subscript e (.Slice lo hi L p2) pos) (Ue r te tl th):=by
 intro a s J H Q I h;refine Subscript_ (thn (D a s J H _ I h) λv s1 ⟨x,P,N,r1,o⟩=>?_);refine wpAny_Slice (thn (C a s1 J P _ N o) λg j ⟨l,O,M,p,n⟩=>thn (t a j J O _ M n) λf d ⟨u,i,G,pu,m⟩=>?_);rw[evalPart_none];refine ZO ?_;have F:Inv X a J i { d with heap:=d.heap.push { cls:=.type "slice",data:=.fields #[g,f,.none] } }:=G.kept (t':=d.toks) λb S q=>Zk _ q;obtain⟨T,id,E,y,hg⟩:=z a { d with heap:=d.heap.push { cls:=.type "slice",data:=.fields #[g,f,.none] } } J i x v g f l u d.heap.objs.size Q F r1 (Heap.IsSliceOf.new ..) p pu m;show On (IR X.prog X.w) X.A (subscriptTail e (.Slice lo hi L p2) v (.ref d.heap.objs.size)) (EP X a J Q) X.xe { d with heap:=d.heap.push { cls:=.type "slice",data:=.fields #[g,f,.none] } };exact tail_any (ops:=[.ref d.heap.objs.size,v]) y E hg (by with_unfolding_all rfl)
def wW(a:List V)(b d:Option Int):List V:=(a.drop (HT.HD a.length 0 b)).take (HT.HD a.length a.length d-HT.HD a.length 0 b)
def sH(a:List V)(b d:Option Int):(wW a b d).length<=a.length:=by
 unfold wW;rw[XS,Z1];lia
end
def Mz(n:Nat)(i:Int):Option Nat:=if 0<=i then (if i<n then Z i.toNat else L) else if -(n:Int)<=i then Z (i+n).toNat else L
def M6{α:Type}(a:List α)(i:Int):Option α:=(Mz a.length i).bind λj=>a[j]?
def vG{n:Nat}{i:Int}{j:Nat}(h:Mz n i=Z j):seqIndex? i n=Z j/\j<n/\-(n:Int)<=i/\i<n:=by
 unfold Mz at h;by_cases b:0<=i
 ·rw[Zq b]at h;by_cases a:i<n
  ·rw[Zq a]at h;have e:i.toNat=j:=Zn h;exact⟨by rw[seqIndex_of b a,e],by lia,by lia,a⟩
  ·rw[Zp a]at h;cases h
 ·rw[Zp b]at h;by_cases a:-(n:Int)<=i
  ·rw[Zq a]at h;have e:(i+n).toNat=j:=Zn h;exact⟨by rw[seqIndex_neg (by lia) a,e],by lia,a,by lia⟩
  ·rw[Zp a]at h;cases h
def pO{α:Type}{a:List α}{i:Int}{v:α}(h:M6 a i=Z v):∃j,seqIndex? i a.length=Z j/\a[j]?=Z v/\j<a.length/\-(a.length:Int)<=i/\i<a.length:=by
 unfold M6 at h;cases e:Mz a.length i with
 |none=>rw[e]at h;cases h
 |some j =>
  rw[e]at h;obtain⟨g,f,d,b⟩:=vG e;exact⟨j,g,h,f,d,b⟩
def gI(b:Expr):Prop:=∀o i,subscripted b B o i=operate [o,i] (getItem o i)
def Ip(X:Cx)(r:R2):Prop :=
 ∀(value slice:Expr)(a:Xy)(s:GM)(J:St)(H:Hp)(x y:V)(v u:KM)(Q:VK),Inv X a J H s->RelV x v->RelV y u->r x y H Q →
  subscripted slice B v u=operate [v,u] (getItem v u)->On (IR X.prog X.w) X.A (subscriptTail value slice v u) (EP X a J Q) X.xe s
def OI(X:Cx)(e:String)(r:V->List V->Hp->VK->Prop):Prop :=
 ∀(a:Xy)(s:GM)(J:St)(H:Hp)(x:V)(b:List V)(v:KM)(d:Wf)(Q:VK),Inv X a J H s->RelV x v->aQ b d->r x b H Q →
  On (IR X.prog X.w) X.A (call (.builtin e) (v :: d)) (EP X a J Q) X.xe s
section
variable{X:Cx}{a b:Expr}{ta tb:TE}{pos:Pos}
def Ip.or{r g:R2}(h:Ip X r)(j:Ip X g):Ip X (λx y H Q=>r x y H Q\/g x y H Q):=by
 intro value slice d s J H x y v u Q I f e q i;rcases q with q | q
 ·exact h value slice d s J H x y v u Q I f e q i
 ·exact j value slice d s J H x y v u Q I f e q i
def mQ{r:R2}(j:Ip X r)(m:PE X a ta)(l:PE X b tb)(i:gI b):PE X (.Subscript a b pos) (Nc r ta tb):=by
 intro d s J H Q I h;exact Subscript_ (C5 m l I h λv u e x y o n g f q=>j a b d e J o x y v u Q n g f q (i _ _))
def Fl(K:Xd):R2:=λx y H Q=>∃p d i v,x=.ref p/\y=.int i/\G5 K H p d/\M6 d i=Z v/\Q v H
def FG(K:Xd):R2:=λx y H Q=>∃p d i v,x=.ref p/\y=.int i/\HS K H p d/\M6 d i=Z v/\Q v H
def Ff:R2:=λx y H Q=>∃z i c,x=.str z/\y=.int i/\z.length<=KB/\M6 z.cps.toList i=Z c/\Q (.str ⟨#[c]⟩) H
def AS:Ip X (Fl X.K):=by
 intro value slice d s J H x y v u Q I C A h l;obtain⟨p,S,i,z,rfl,rfl,E,G,q⟩:=h;cases C;obtain⟨t,rfl⟩:=A;obtain⟨D,r,f,U⟩:=I.list E;obtain⟨j,e,O,h3,N,M⟩:=pO G;obtain⟨w,n,P⟩:=r.get O;have F:=r.length;have Y:=lb;have fin:EP X d J Q w s:=⟨z,H,I,P,q⟩
 by_cases m:0<=i
 ·have g:i.toNat=j:=by
   rw[seqIndex_of m M]at e;exact Zn e
  exact item_listR f.isList m (by lia) (by rw[g];simpa using n) fin l
 ·have g:(i+(D.toArray.size:Int)).toNat=j:=by
   rw[seqIndex_neg (by lia) N]at e;rw[Ze,← F];exact Zn e
  exact subscriptTail_builtinR (x:=w) f.isList.typeIs slot_list_getitem.lookup
   (wpAny_getItem_list_neg (Q:=λr o=>r=w/\EP X d J Q r o) f.isList (by lia) (by rw[Ze]<;>lia) (by lia) (by rw[g];simpa using n) ⟨rfl,fin⟩) l
def C1:Ip X (FG X.K):=by
 intro value slice d s J H x y v u Q I l g h m;obtain⟨p,G,i,z,rfl,rfl,n,A,q⟩:=h;cases l;obtain⟨t,rfl⟩:=g;obtain⟨M,r,e,N⟩:=I.tuple n;obtain⟨j,D,C,U,S,P⟩:=pO A;obtain⟨w,E,F⟩:=r.get C;have o:=r.length;have O:=lb;have fin:EP X d J Q w s:=⟨z,H,I,F,q⟩
 exact subscriptTail_builtinR (x:=w) e.typeIs slot_tuple_getitem.lookup
  (getItem_tuple (j:=j) (Q:=λr f=>r=w/\EP X d J Q r f) e (by lia) (by lia) (by rw[Ze,← o];exact D) (by simpa using E) ⟨rfl,fin⟩) m
def DC:Ip X Ff:=by
 intro value slice d s J H x y v u Q I g f h l;obtain⟨z,i,c,rfl,rfl,A,n,q⟩:=h;obtain⟨t,rfl⟩:=g;obtain⟨w,rfl⟩:=f;obtain⟨j,e,r,D,p,o⟩:=pO n;have m:z.cps.toList.length=z.length:=by simp[Str.length]
 rw[m]at e p o;have C:=lb;exact tail_any (typeIs_str s z t) slot_str_getitem.lookup (getItem_str (c:=c) (by
  have e1:decide (i < -(2 ^ 63:Int))=B:=ZZ (by lia);have e2:decide (i ≥ 2 ^ 63)=B:=ZZ (by lia);rw[e1,e2,Bool.or_false]) (by rw[e];simpa using r) ⟨.str ⟨#[c]⟩,H,I.tok _,⟨_,rfl⟩,q⟩) l
def PL(K:Xd):R2:=λx y H Q=>Fl K x y H Q\/FG K x y H Q\/Ff x y H Q
def jS:Ip X (PL X.K):=AS.or (C1.or DC)
def uc(d:Wf)(n j:Nat)(u:KM):Obj.mapSeq (·.setIfInBounds j u) { cls:=.type "list",data:=.seq d.toArray n }={ cls:=.type "list",data:=.seq (d.set j u).toArray n }:=by
 simp[Obj.mapSeq]
theorem Inv.lst{d:Xy}{J:St}{H:Hp}{s:GM}{p:KF}{g:List V}(I:Inv X d J H s)(h:H p=Z (.lst g)) :
  ∃(f:Wf)(n:Nat),aQ g f/\s.heap.get? p=Z { cls:=.type "list",data:=.seq f.toArray n }/\g.length<=sizeLine:=by
 obtain⟨z,f,n,r,e⟩:=I.GO p _ h;exact⟨f,n,r,e,z⟩
def Inv.Mv{g:Xy}{J:St}{H:Hp}{s:GM}{p:KF}{o i:List V}{l d:Wf}{n j:Nat}{f:Obj->Obj}(I:Inv X g J H s)(h:H p=Z (.lst o))(w:s.heap.get? p=Z { cls:=.type "list",data:=.seq l.toArray n })(m:f { cls:=.type "list",data:=.seq l.toArray n }={ cls:=.type "list",data:=.seq d.toArray j })(r:aQ i d)(v:i.length<=KB)(t:Nat) :
  Inv X g J (upd H p (.lst i)) { s with heap:=s.heap.update p f,toks:=t }:=by
 have e:(s.heap.update p f).get? p=Z { cls:=.type "list",data:=.seq d.toArray j }:=by
  rw[Heap.get?_update_self f w (by rw[m]<;>rfl),m]
 refine I.write (x:=p) (e:=p) (by rw[h];trivial) (.inl Y) (λb u hb q=>(XD _ _ (Ya hb)).trans q) ⟨_,e⟩ ?_;exact⟨v,d,j,r,e⟩
def Cg:V->V->V->Hp->(Hp->Prop)->Prop:=λo i v H Q=>∃p d k j,o=.ref p/\i=.int k/\H p=Z (.lst d)/\Mz d.length k=Z j/\Q (upd H p (.lst (d.set j v)))
def set_list:CQ X Cg:=by
 intro d s J H o i v N iv u Q I E F D h;obtain⟨p,C,k,j,rfl,rfl,w,M,q⟩:=h;cases E;obtain⟨t,rfl⟩:=F;obtain⟨m,n,r,f,G⟩:=I.lst w;obtain⟨e,P,y,x⟩:=vG M;have g:=r.length;have O:=lb;have A:Inv X d J (upd H p (.lst (C.set j v))) { s with heap:=s.heap.update p (Obj.mapSeq (·.setIfInBounds j u)) } :=
  I.Mv w f (uc m n j u) (r.set D j) (by rw[Z8];exact G) s.toks
 by_cases z:0<=k
 ·have l:k.toNat=j:=by
   rw[seqIndex_of z x]at e;exact Zn e
  exact PySem.W.ki_setAt f z (by lia) (by rw[Ze,← g];exact x) (by rw[l];exact⟨_,A,q⟩)
 ·have l:(k+(m.toArray.size:Int)).toNat=j:=by
   rw[seqIndex_neg (by lia) y]at e;rw[Ze,← g];exact Zn e
  exact PySem.W.ki_setBack f (by lia) (by rw[Ze,← g];exact y) (by lia) (by rw[l];exact⟨_,A,q⟩)
def qh(d e:Option Int)(n:Nat):(sliceBounds d e L n).1=((HT.HD n 0 d:Nat):Int)/\(sliceBounds d e L n).2.1=((HT.HD n n e:Nat):Int)/\(sliceBounds d e L n).2.2=1:=by
 refine⟨?_,?_,rfl⟩
 ·cases d with
  |none=>simp[sliceBounds,HT.HD]
  |some i =>
   simp only[sliceBounds,HT.HD,Option.getD_none,show (1:Int) > 0 by decide,if_true];by_cases h:i<0
   ·simp only[h,if_true]<;>lia
   ·simp only[h,if_false]<;>lia
 ·cases e with
  |none=>simp[sliceBounds,HT.HD]
  |some i =>
   simp only[sliceBounds,HT.HD,Option.getD_none,show (1:Int) > 0 by decide,if_true];by_cases h:i<0
   ·simp only[h,if_true]<;>lia
   ·simp only[h,if_false]<;>lia
def oA(d:Wf)(e f:Option Int):slicePick d.toArray e f L=((d.drop (HT.HD d.length 0 e)).take (HT.HD d.length d.length f-HT.HD d.length 0 e)).toArray:=by
 obtain⟨i,h,g⟩:=qh e f d.toArray.size;unfold slicePick;rw[i,h,g];simp only[sliceRange_one,pick_run,Ze]<;>rfl
def EU(K:Xd):V->Option Int->Option Int->Hp->VK->Prop:=λx lo e H Q=>∃a d,x=.ref a/\G5 K H a d/\∀p,H p=L->Q (.ref p) (upd H p (.lst (wW d lo e)))
def Ay:L9 X (EU X.K):=by
 intro f s J H x v t p lo e u Q I i n j pu h;obtain⟨a,d,rfl,m,q⟩:=h;cases i;obtain⟨w,r,g,l⟩:=I.list m;have hlen:=r.length;refine⟨"list",_,slot_list_getitem.lookup,g.isList.typeIs,?_⟩;refine wpAny_getItem_list_slice g.isList n j pu .none (by simp) ?_ (by rw[Ze]<;>lia);rw[oA,← hlen];refine⟨.ref s.heap.objs.size,_,I.laid (t':=s.toks) (o:=.lst (wW d lo e)) (λb y q=>Zk _ q) (Zm _) ?_,rfl,q _ (I.GO.fresh (Zm _))⟩;exact⟨ZJ (sH d lo e) l,_,0,(r.drop (HT.HD d.length 0 lo)).take (HT.HD d.length d.length e-HT.HD d.length 0 lo),ZU _ Y⟩
def fS:V->Bool
 |.non=>R
 |.bl _=>R
 |.int _=>R
 |.str _=>R
 |_=>B
def Le:V->V->Bool
 |.non,.non=>R
 |.bl a,.bl b=>a==b
 |.bl a,.int b=>(if a then 1 else 0)==b
 |.int a,.bl b=>a==(if b then 1 else 0)
 |.int a,.int b=>a==b
 |.str a,.str b=>a==b
 |_,_=>B
def DR{A:Re}{s:GM}{y x:V}{u v:KM}(f:RelV y u)(d:RelV x v)(h:fS y=R)(g:fS x=R):SeqAt.EqAt A s u v (Le y x):=by
 cases y with
 |non =>
  cases f;cases x with
  |non=>cases d;exact SeqAt.EqAt.same _
  |bl b=>cases d;exact SeqAt.EqAt.none_bool b
  |int b=>obtain⟨t,rfl⟩:=d;exact SeqAt.EqAt.none_int b t
  |str b=>obtain⟨t,rfl⟩:=d;exact SeqAt.EqAt.none_str b t
  |_=>exact absurd (show B=R from g) Za
 |bl a =>
  cases f;cases x with
  |non=>cases d;exact SeqAt.EqAt.bool_none a
  |bl b=>cases d;exact SeqAt.EqAt.bool_bool a b
  |int b=>obtain⟨t,rfl⟩:=d;exact SeqAt.EqAt.bool_int a b t
  |str b=>obtain⟨t,rfl⟩:=d;exact SeqAt.EqAt.bool_str a b t
  |_=>exact absurd (show B=R from g) Za
 |int a =>
  obtain⟨e,rfl⟩:=f;cases x with
  |non=>cases d;exact SeqAt.EqAt.int_none a e
  |bl b=>cases d;exact SeqAt.EqAt.int_bool a e b
  |int b=>obtain⟨t,rfl⟩:=d;exact SeqAt.EqAt.int_int a e b t
  |str b=>obtain⟨t,rfl⟩:=d;exact SeqAt.EqAt.int_str a e b t
  |_=>exact absurd (show B=R from g) Za
 |str a =>
  obtain⟨e,rfl⟩:=f;cases x with
  |non=>cases d;exact SeqAt.EqAt.str_none a e
  |bl b=>cases d;exact SeqAt.EqAt.str_bool a e b
  |int b=>obtain⟨t,rfl⟩:=d;exact SeqAt.EqAt.str_int a e b t
  |str b=>obtain⟨t,rfl⟩:=d;exact SeqAt.EqAt.str_str a e b t
  |_=>exact absurd (show B=R from g) Za
 |_=>exact absurd (show B=R from h) Za
def JJ(x:V)(u:KM):Bool:=match u with
 |.none=>Le .non x
 |.bool b=>Le (.bl b) x
 |.int i _=>Le (.int i) x
 |.str z _=>Le (.str z) x
 |_=>B
def xM{x y:V}{u:KM}(r:RelV y u)(f:fS y=R):JJ x u=Le y x:=by
 cases y with
 |non=>cases r;rfl
 |bl b=>cases r;rfl
 |int i=>obtain⟨t,rfl⟩:=r;rfl
 |str z=>obtain⟨t,rfl⟩:=r;rfl
 |_=>exact absurd (show B=R from f) Za
theorem kU{x:V}:∀{d:List V}{e:Wf},aQ d e->d.all fS=R->e.any (JJ x)=d.any λy=>Le y x
 |_,_,.nil,_=>rfl
 |y :: d,u :: e,.cons r t,f=>by
  rw[Xk,Zd]at f;rw[YY,YY,xM r f.1,kU t f.2]
theorem je{A:Re}{s:GM}{x:V}{v:KM}(h:RelV x v)(i:fS x=R):∀{e:List V}{g:Wf},aQ e g->e.all fS=R->∀u∈g,SeqAt.EqAt A s u v (JJ x u)
 |_,_,.nil,_=>λu d=>by cases d
 |y :: e,u :: g,.cons r t,f=>λj d=>by
  rw[Xk,Zd]at f;rcases Zi.mp d with rfl | d
  ·rw[xM r f.1];exact DR r h f.1 i
  ·exact je h i t f.2 j d
def N3(x:V)(d:List V):Bool:=d.any λy=>Le y x
def OX(K:Xd)(e:Bool):R2:=λx y H Q=>∃p d,y=.ref p/\(G5 K H p d\/HS K H p d)/\fS x=R/\d.all fS=R/\Q (.bl (if e then !N3 x d else N3 x d)) H
def wL:OpR X (SC .In) (OX X.K B):=by
 intro i s J H x y v u Q I g l h;obtain⟨p,n,rfl,e,j,fs,q⟩:=h;cases l;rcases e with e | e
 ·obtain⟨d,r,f,m⟩:=I.list e;refine SeqAt.in_listAt (JJ x) f.isList (λw hw=>je g j r fs w (by simpa using hw)) ⟨.bl _,H,I,rfl,?_⟩;rw[show d.toArray.any (JJ x)=d.any (JJ x) by simp,kU r fs];exact q
 ·obtain⟨d,r,f,m⟩:=I.tuple e;refine SeqAt.in_tupleAt (JJ x) f (λw hw=>je g j r fs w (by simpa using hw)) ⟨.bl _,H,I,rfl,?_⟩;rw[show d.toArray.any (JJ x)=d.any (JJ x) by simp,kU r fs];exact q
def pG:OpR X (SC .NotIn) (OX X.K R):=by
 intro i s J H x y v u Q I g l h;obtain⟨p,n,rfl,e,j,fs,q⟩:=h;cases l;rcases e with e | e
 ·obtain⟨d,r,f,m⟩:=I.list e;refine SeqAt.notIn_listAt (JJ x) f.isList (λw hw=>je g j r fs w (by simpa using hw)) ⟨.bl _,H,I,rfl,?_⟩;rw[show d.toArray.any (JJ x)=d.any (JJ x) by simp,kU r fs];exact q
 ·obtain⟨d,r,f,m⟩:=I.tuple e;refine SeqAt.notIn_tupleAt (JJ x) f (λw hw=>je g j r fs w (by simpa using hw)) ⟨.bl _,H,I,rfl,?_⟩;rw[show d.toArray.any (JJ x)=d.any (JJ x) by simp,kU r fs];exact q
def dX.or{f:KM}{r j:List V->Hp->VK->Prop}(h:dX X f r)(l:dX X f j):dX X f (λe H Q=>r e H Q\/j e H Q):=by
 intro d s J H e g Q I i q;rcases q with q | q
 ·exact h d s J H e g Q I i q
 ·exact l d s J H e g Q I i q
def pP:dX X (.type "list") (λA H Q=>∃p g,A=[.ref p]/\(G5 X.K H p g\/HS X.K H p g)/\∀l,H l=L->Q (.ref l) (upd H l (.lst g))):=by
 intro m s J H A E Q I r h;obtain⟨p,g,rfl,v,q⟩:=h;obtain⟨u,rfl,D⟩:=vals1 r;cases D;have fin:∀(f:Wf),aQ g f->g.length<=KB->∀(d:SL)(j:Nat),(∀b C,s.heap.get? b=Z C->d.get? b=Z C) →
   d.get? s.heap.objs.size=Z { cls:=.type "list",dict:=L,data:=.seq f.toArray j,slots:=#[] }->EP X m J Q (.ref s.heap.objs.size) { s with heap:=d }:=λf i t d j kp e =>
  ⟨.ref s.heap.objs.size,_,I.laid (t':=s.toks) kp (Zm _) (show cp X.prog X.w _ d _ (.lst g) from⟨t,f,j,i,e⟩),rfl,q _ (I.GO.fresh (Zm _))⟩
 rcases v with v | v
 ·obtain⟨f,i,x,t⟩:=I.list v;have hlen:=i.length;obtain⟨o,y,z,n,hd⟩:=x.isList;exact call_list_seq p (.inl Y) y z hd (λd j kp e=>fin f i t d j kp e) (by simp only[Ze]<;>lia)
 ·obtain⟨f,i,x,t⟩:=I.tuple v;have hlen:=i.length;obtain⟨o,y,z,n,hd⟩:=x;exact call_list_seq p (.inr Y) y z hd (λd j kp e=>fin f i t d j kp e) (by simp only[Ze]<;>lia)
def oE:dX X (.type "tuple") (λt H Q=>∃p f,t=[.ref p]/\((G5 X.K H p f/\∀l,H l=L->Q (.ref l) (upd H l (.tup f)))\/(HS X.K H p f/\Q (.ref p) H))):=by
 intro d s J H t A Q I r h;obtain⟨p,f,rfl,h⟩:=h;obtain⟨u,rfl,y⟩:=vals1 r;cases y;rcases h with⟨n,q⟩ | ⟨n,q⟩
 ·obtain⟨m,i,j,v⟩:=I.list n;have hlen:=i.length;refine call_tuple_list j.isList (λg kp=>?_) (by simp only[Ze]<;>lia);have x:Inv X d J H { s with heap:=g }:=I.kept (t':=s.toks) kp;have z:Inv X d J (upd H g.objs.size (.tup f)) { s with heap:=g.push { cls:=.type "tuple",data:=.seq m.toArray } } :=
   x.laid (t':=s.toks) (λb o e=>Zk _ e) (Zm _) (show cp X.prog X.w _ _ _ (.tup f) from⟨v,m,i,Mb.new _ _,IsTup.new _ _⟩)
  exact⟨.ref g.objs.size,_,z,rfl,q _ (x.GO.fresh (Zm _))⟩
 ·obtain⟨m,i,j,v⟩:=I.tuple n;exact call_tuple_same j ⟨.ref p,H,I,rfl,q⟩
def LO(K:Xd)(T:String)(x:V)(H:Hp):Prop:=match x with
 |.str _=>T = "str"
 |.int _=>T = "int"
 |.ref p=>(T = "list" ∧ ∃e,G5 K H p e)\/(T = "tuple" ∧ ∃o,K.lookup p=Z o/\o.cls=.type "tuple" ∧ o.dict=L) ∨
   (T = "dict" ∧ ((∃d,H p=Z (.dK d))\/∃d,H p=Z (.dT d)))\/(T = "set" ∧ ∃S n,H p=Z (.set S n))
 |_=>False
def Da{f:Xy}{J:St}{H:Hp}{s:GM}{T:String}{x:V}{v:KM}(I:Inv X f J H s)(r:RelV x v)(g:LO X.K T x H) :
  s.TypeIs v T/\∀a,v=.ref a->∃j,s.heap.get? a=Z j/\j.dict=L:=by
 cases x with
 |str z =>
  obtain⟨t,rfl⟩:=r;cases (show T = "str" from g);exact⟨typeIs_str s z t,λ_ e=>nomatch e⟩
 |int i =>
  obtain⟨t,rfl⟩:=r;cases (show T = "int" from g);exact⟨typeIs_int s i t,λ_ e=>nomatch e⟩
 |ref p =>
  cases r;rcases g with⟨rfl,u,l⟩ | ⟨rfl,o,d,m,hd⟩ | ⟨rfl,d⟩ | ⟨rfl,S,n,d⟩
  ·obtain⟨w,_,h,_⟩:=I.list l;refine⟨h.isList.typeIs,λa e=>?_⟩;cases e;obtain⟨o,n,e,c,hd,_⟩:=h;exact⟨o,e,hd⟩
  ·refine⟨⟨o,I.Ic p o d,m⟩,λa e=>?_⟩;cases e;exact⟨o,I.Ic _ o d,hd⟩
  ·have z:∃o,s.heap.get? p=Z o/\o.ExactDict:=by
    rcases d with⟨q,d⟩ | ⟨q,d⟩
    ·obtain⟨_,_,_,_,o,_,_,e,ex,_⟩:=I.GO p _ d;exact⟨o,e,ex⟩
    ·obtain⟨_,_,_,_,o,_,_,e,ex,_⟩:=I.GO p _ d;exact⟨o,e,ex⟩
   obtain⟨o,e,ex⟩:=z;refine⟨⟨o,e,ex.1⟩,λa e2=>?_⟩;cases e2;exact⟨o,e,ex.2.1⟩
  ·obtain⟨o,_,_,_,e,ex,_⟩:=I.GO p _ d;refine⟨⟨o,e,ex.1⟩,λa e2=>?_⟩;cases e2;exact⟨o,e,ex.2.1⟩
 |_=>exact False.elim g
def Uj(K:Xd)(T:String)(r:V->List V->Hp->VK->Prop)(f:TE)(t:TA):TE:=λJ H Q=>f J H λx d=>LO K T x d/\t J d λe g=>r x e g Q
variable{o e:Expr}{es:List Expr}{to:TE}{t:TA}{name:Str}{apos oe:Pos}{T id:String}{r:V->List V->Hp->VK->Prop}
def rR(q:PlainAttrs T)(f:Slot T name id)(D:typeOf (.builtin id)=pure (.type "method_descriptor"))(y:OI X id r)(w:PE X o to)(z:PA X (e :: es) t)(N:UF o name X.env (eval o X.env)=eval o X.env:=by rfl)(F:((backTo oe (Pi (e :: es) X.env)).all (λx=>!x.1)&&(backToKw oe (SB [] X.env)).all (λx=>x.1.isSome)
   && decide ((e :: es).length+([]:List Keyword).length+(if ([]:List Keyword).isEmpty then 0 else 1)<30))=R:=by rfl)(O:(apos.endLine==oe.line)=R:=by rfl)(u:K1 e es X:=by rfl)(P:K2 oe es X:=by rfl) :
  PE X (.Call (.Attribute o name apos) (e :: es) [] oe) (Uj X.K T r to t):=by
 intro d s J H Q I h;refine wpAny_Call_method_late N F O Y (thn (w d s J H _ I h) λv s1 ⟨x,M,i,r1,ty,p⟩=>?_);obtain⟨C,A⟩:=Da i r1 ty;refine⟨T,id,q,f,D,C,A,?_⟩;have g:=z oe d s1 J M _ i p;rw[u]at g ⊢;refine Calls.callWith_builtin (by show (B||(backTo oe (Pi es X.env)).any (·.1))=B;rw[P]<;>rfl) (Calls.evalArgs_plain ?_);exact thn g λl m ⟨j,G,E,r2,n⟩=>y d m J G x j v l Q E r1 r2 n
end
def XY(X:Cx)(e:String)(r:V->List V->Hp->VK->Prop):Prop :=
 ∀(a:Xy)(s:GM)(J:St)(H:Hp)(x:V)(b:List V)(v:KM)(d:Wf)(Q:VK),Inv X a J H s->RelV x v->aQ b d->r x b H Q →
  On (IR X.prog X.w) X.A (call (.builtin e) (v :: d)) (EP X a J Q) X.xe s
def aQ.nil_inv{a:Wf}(h:aQ [] a):a=[]:=by
 cases h;rfl
def aQ.cons_inv{x:V}{a:List V}{d:Wf}(h:aQ (x :: a) d):∃u b,d=u :: b/\RelV x u/\aQ a b:=by
 cases h with
 |cons r t=>exact⟨_,_,rfl,r,t⟩
def aQ.one{x:V}{a:Wf}(h:aQ [x] a):∃u,a=[u]/\RelV x u:=by
 obtain⟨u,vs,rfl,r,t⟩:=h.cons_inv;rw[t.nil_inv];exact⟨_,rfl,r⟩
section
variable{X:Cx}{pins:Xy}{J:St}{H:Hp}{s:GM}{l b:KF}{xs ys zs:List V}
def Inv.Qz{a its':Wf}{n:Nat}{f:Array KM->Array KM}{d:Nat}(I:Inv X pins J H s)(m:H l=Z (.lst xs))(e:s.heap.get? l=Z { cls:=.type "list",data:=.seq a.toArray n })(j:f a.toArray=its'.toArray)(h:aQ ys its')(g:ys.length<=KB) :
  Inv X pins J (upd H l (.lst ys)) { s with heap:=s.heap.update l (Obj.mapSeq f),toks:=d }:=by
 have q:=PySem.IsL.update e f;rw[j]at q;refine I.write (x:=l) (e:=l) (by rw[m];exact trivial) (.inl Y) (λo u hb i=>(XD s.heap (Obj.mapSeq f) (Ya hb)).trans i) ⟨_,q⟩ ?_;exact⟨g,its',_,h,q⟩
def Inv.QA{a:Wf}{t':Nat}(I:Inv X pins J H s)(e:aQ ys a)(d:ys.length<=KB) :
  Inv X pins J (upd H s.heap.objs.size (.lst ys)) { s with heap:=s.heap.push { cls:=.type "list",data:=.seq a.toArray },toks:=t' } :=
 I.laid (λ_ _ q=>Zk _ q) (Zm _) ⟨d,a,0,e,ZU _ Y⟩
theorem Inv.fresh(I:Inv X pins J H s):H s.heap.objs.size=L:=I.GO.fresh (Zm _)
def Inv.Mw(I:Inv X pins J H s)(d:H l=Z (.lst xs)):xs.length<=KB/\∃(a:Wf)(n:Nat),aQ xs a/\xs.length=a.length/\s.heap.get? l=Z { cls:=.type "list",data:=.seq a.toArray n }:=by
 obtain⟨z,a,n,r,e⟩:=I.GO l _ d;exact⟨z,a,n,r,r.length,e⟩
end
section
variable{X:Cx}
def vf:V->List V->Hp->VK->Prop:=λx b H Q=>∃l a y,x=.ref l/\b=[y]/\H l=Z (.lst a)/\a.length<KB/\Q .non (upd H l (.lst (a++[y])))
def jA:XY X "list.append" vf:=by
 intro a s J H x o v p Q I f g h;obtain⟨l,m,y,rfl,rfl,d,j,q⟩:=h;cases f;obtain⟨u,rfl,i⟩:=g.one;obtain⟨z,b,n,r,t,e⟩:=I.Mw d;refine call_meets F.slot_list_append ⟨_,e,rfl⟩ F.entry_list_append (F.args_list_append_2 _ _) (PySem.list_append l b.toArray n u (by rw[Ze];lia)) ⟨e,?_⟩;refine⟨.non,_,I.Qz (its':=b++[u]) d e (by simp) (r.append (.cons i .nil)) ?_,rfl,q⟩;rw[Zv,Zc];exact Nat.succ_le_of_lt j
def FZ:R2:=λx y H Q=>∃l b d a,x=.ref l/\y=.ref b/\H l=Z (.lst d)/\H b=Z (.lst a)/\d.length+a.length<=KB/\∀p,H p=L->Q (.ref p) (upd H p (.lst (d++a)))
def CU:OpR X (binaryOp .Add) FZ:=by
 intro a s J H x y v u Q I i g h;obtain⟨l,b,w,p,rfl,rfl,j,m,C,q⟩:=h;cases i;cases g;obtain⟨z,d,n,r,D,e⟩:=I.Mw j;obtain⟨t,f,A,r2,E,e2⟩:=I.Mw m;refine PySem.P.add_list e e2 ?_ (by rw[Ze,Ze];lia);have o:d.toArray++f.toArray=(d++f).toArray:=by simp
 rw[o];exact⟨.ref _,_,I.QA (t':=s.toks) (r.append r2) (by rw[Zv];omega),rfl,q _ I.fresh⟩
def len_rep{α:Type}(a:List α)(k:Nat):(List.replicate k a).flatten.length=k*a.length:=by
 induction k with
 |zero=>simp
 |succ k b=>rw[Y5,ZV,Zv,b,Nat.succ_mul,Ww]
end
section
variable{prog:P3}{w:SZ}{A:Re}{E:Z4}{s:GM}
set_option maxRecDepth 100000 in
end
section
variable{κ:Type}[DecidableEq κ]
def gE(b:List (κ×V))(k:κ):Option V:=(b.find? λa=>decide (a.1=k)).map (·.2)
def putK(b:List (κ×V))(k:κ)(v:V):List (κ×V) :=
 if (b.any λa=>decide (a.1=k))=R then b.map (λa=>if a.1=k then (a.1,v) else a) else b++[(k,v)]
def iX{p:κ×V}{r:List (κ×V)}{k:κ}(e:p.1=k):gE (p :: r) k=Z p.2:=by simp[gE,Z9,e]
def nZ{p:κ×V}{r:List (κ×V)}{k:κ}(e:¬p.1=k):gE (p :: r) k=gE r k:=by simp[gE,Z9,e]
theorem q8(k:κ):∀a:List (κ×V),(a.any λb=>decide (b.1=k))=(gE a k).isSome
 |[]=>rfl
 |p :: r=>by
  rw[YY];by_cases e:p.1=k
  ·simp only[iX e,decide_eq_true e,Bool.true_or,Option.isSome_some]
  ·rw[nZ e,ZZ e,Bool.false_or];exact q8 k r
def gO(a:List (κ×V))(k:κ)(v:V):(putK a k v).length<=a.length+1:=by
 unfold putK;split
 ·rw[Zw];exact Yk _ _
 ·rw[Zv,Zl,List.length_nil];exact Zm _
def iP.Hw{o:Option V}{u:We}(r:iP o u):o.isSome=u.isSome:=by
 cases o with
 |none=>cases u with
  |none=>rfl
  |some _=>exact(show False from r).elim
 |some _=>cases u with
  |none=>exact(show False from r).elim
  |some _=>rfl
theorem iP.getD{o:Option V}{u:We}{d:V}{a:KM}(r:iP o u)(b:RelV d a):RelV (o.getD d) (u.getD a):=by
 cases o with
 |none=>cases u with
  |none=>exact b
  |some _=>exact(show False from r).elim
 |some _=>cases u with
  |none=>exact(show False from r).elim
  |some _=>exact r
def KV.val{i:List (κ×V)}{f:List (κ×KM)}(r:KV i f)(k:κ):iP (gE i k) (valueAt f k):=by
 unfold KV at r
 induction r with
 |nil=>exact True.intro
 |@cons p q ps a h t j =>
  obtain⟨g,l⟩:=h;by_cases e:p.1=k
  ·have d:q.1=k:=g.symm.trans e;have b:valueAt (q :: a) k=Z q.2:=by simp[valueAt,Z9,d]
   rw[iX e,b];exact l
  ·have d:¬q.1=k:=λz=>e (g.trans z);have b:valueAt (q :: a) k=valueAt a k:=by simp[valueAt,Z9,d]
   rw[nZ e,b];exact j
theorem KV.any{d:List (κ×V)}{b:List (κ×KM)}(r:KV d b)(k:κ):(d.any λa=>decide (a.1=k))=b.any λa=>decide (a.1=k):=by
 unfold KV at r
 induction r with
 |nil=>rfl
 |cons h t e=>rw[YY,YY,e,h.1]
def KV.Mn{f:List (κ×V)}{d:List (κ×KM)}(r:KV f d)(k:κ){y:V}{u:KM}(g:RelV y u) :
  KV (f.map λa=>if a.1=k then (a.1,y) else a) (d.map λa=>if a.1=k then (a.1,u) else a):=by
 unfold KV at r ⊢
 induction r with
 |nil=>exact .nil
 |@cons p q ps l h t i =>
  rw[Zo,Zo];refine .cons ?_ i;obtain⟨b,j⟩:=h;by_cases e:p.1=k
  ·rw[Zq e,Zq (b.symm.trans e)];exact⟨b,g⟩
  ·rw[Zp e,Zp (λz=>e (b.trans z))];exact⟨b,j⟩
def KV.put{d:List (κ×V)}{a:List (κ×KM)}(r:KV d a)(k:κ){y:V}{u:KM}(b:RelV y u):KV (putK d k y) (stored a k u):=by
 unfold putK stored;rw[r.any k];by_cases e:(a.any λf=>decide (f.1=k))=R
 ·rw[Zq e,Zq e];exact r.Mn k b
 ·rw[Zp e,Zp e];exact Paired.snoc r ⟨rfl,b⟩
def KV.keys{b:List (κ×V)}{a:List (κ×KM)}(r:KV b a):b.map (·.1)=a.map (·.1):=by
 unfold KV at r
 induction r with
 |nil=>rfl
 |cons h t d=>rw[Zo,Zo,d,h.1]
theorem KV.length{b:List (κ×V)}{a:List (κ×KM)}(r:KV b a):b.length=a.length:=Xv r
end
def lP{P:P3}{w:SZ}{k:Key}{u:KM}(r:RelV (kV k) u):(aP P w).is k u=R:=by
 cases k with
 |inl i=>obtain⟨t,e⟩:=(show ∃t,u=Value.int i t from r);subst e;exact rL P w i t
 |inr x=>obtain⟨t,e⟩:=(show ∃t,u=Value.str x t from r);subst e;exact sF P w x t
theorem oI{P:P3}{w:SZ}:∀{a:List Key}{b:Wf},aQ (a.map kV) b->ItemsAre (aP P w) a b
 |[],_,r=>by rw[Wu]at r;cases r;exact .nil
 |k :: a,_,r=>by
  rw[Zo]at r;cases r with
  |cons h t=>exact .cons (lP h) (oI t)
abbrev KT(H:Hp):List (List Key×V)->List (List Key×KF×KM)->Prop:=Paired λp q=>p.1=q.1/\H q.2.1=Z (.tup (p.1.map kV))/\RelV p.2 q.2.2
def KT.val{H:Hp}{i:List (List Key×V)}{f:List (List Key×KF×KM)}(r:KT H i f)(k:List Key):iP (gE i k) ((atKey f k).map (·.2)):=by
 induction r with
 |nil=>exact True.intro
 |@cons p q ps a h t j =>
  obtain⟨g,_,l⟩:=h;by_cases e:p.1=k
  ·have d:q.1=k:=g.symm.trans e;have b:atKey (q :: a) k=Z q.2:=by simp[atKey,Z9,d]
   rw[iX e,b];exact l
  ·have d:¬q.1=k:=λz=>e (g.trans z);have b:atKey (q :: a) k=atKey a k:=by simp[atKey,Z9,d]
   rw[nZ e,b];exact j
def KT.Mn{H:Hp}{g:List (List Key×V)}{d:List (List Key×KF×KM)}(r:KT H g d)(k:List Key){y:V}{u:KM}(i:RelV y u) :
  KT H (g.map λb=>if b.1=k then (b.1,y) else b) (d.map (putAt k u)):=by
 induction r with
 |nil=>exact .nil
 |@cons p q ps m h t j =>
  rw[Zo,Zo];refine .cons ?_ j;obtain⟨a,f,l⟩:=h;unfold putAt;by_cases e:p.1=k
  ·rw[Zq e,Zq (a.symm.trans e)];exact⟨a,f,i⟩
  ·rw[Zp e,Zp (λz=>e (a.trans z))];exact⟨a,f,l⟩
def KT.put{H:Hp}{d:List (List Key×V)}{a:List (List Key×KF×KM)}(r:KT H d a)(k:List Key){b:KF}{y:V}{u:KM}(h:H b=Z (.tup (k.map kV)))(f:RelV y u) :
  KT H (putK d k y) (storedH a k b u):=by
 have e:(d.any λg=>decide (g.1=k))=(atKey a k).isSome:=by
  rw[q8,(r.val k).Hw,Yh]
 unfold putK storedH;rw[e];by_cases q:(atKey a k).isSome=R
 ·rw[Zq q,Zq q];exact r.Mn k f
 ·rw[Zp q,Zp q];exact Paired.snoc r ⟨rfl,h,f⟩
def KT.keeps{H f:Hp}{e:List (List Key×V)}{d:List (List Key×KF×KM)}(r:KT H e d)(g:∀b a,H b=Z (.tup a)->f b=Z (.tup a)):KT f e d :=
 Paired.Lr r λ_ _ z=>⟨z.1,g _ _ z.2.1,z.2.2⟩
section
variable{P:P3}{w:SZ}{H:Hp}{h:SL}{a:KF}
def B5{u:HO}(b:HU P w H h)(e:Rd H a u):cp P w H h a u:=e.ok b
def lT{b:List (Key×V)}(f:HU P w H h)(e:Rd H a (.dK b)):b.length<=KB/\(a==sysModules)=B/\∃d,KV b d/\h.DictOf (aP P w) a d :=
 show cp P w H h a (.dK b) from B5 f e
def sj{b:List (Key×V)}(f:HU P w H h)(e:H a=Z (.dK b)):b.length<=KB/\(a==sysModules)=B/\∃d,KV b d/\h.DictOf (aP P w) a d:=lT f (.inl e)
def dR{b:List Key}(f:HU P w H h)(e:H a=Z (.tup (b.map kV))):(tupleKind (aP P w)).is h b a:=by
 obtain⟨_,d,r,_,o,j,i,n,g⟩:=(show cp P w H h a (.tup (b.map kV)) from f a _ e)
 exact⟨o,d.toArray,n,j,i,g,by simpa using oI r⟩
def mV{f:List (List Key×V)}(g:HU P w H h)(e:Rd H a (.dT f)):f.length<=KB/\(a==sysModules)=B ∧
  ∃d,KT H f d/\h.DictOfH (tupleKind (aP P w)) a d:=by
 obtain⟨z,y,d,r,o,C,D,A,v,u,s,n⟩:=(show cp P w H h a (.dT f) from B5 g e)
 refine⟨z,y,d,r,o,C,D,A,v,u,s,λx b=>?_,n⟩;have all:∀{l:List (List Key×V)}{m:List (List Key×KF×KM)},KT H l m->∀x∈m,(tupleKind (aP P w)).is h x.1 x.2.1:=by
  intro l m q
  induction q with
  |nil=>intro x b;exact nomatch b
  |@cons p q ps E i t j =>
   intro x b;rcases Zi.mp b with e | b
   ·subst e;exact dR g (by rw[← i.1];exact i.2.1)
   ·exact j x b
 exact all r x b
def Fq{b:List (List Key×V)}(f:HU P w H h)(e:H a=Z (.dT b)):b.length<=KB/\(a==sysModules)=B ∧
  ∃d,KT H b d/\h.DictOfH (tupleKind (aP P w)) a d:=mV f (.inl e)
end
def ig(H:Hp)(a:KF)(y:V)(r:Option V):Prop :=
 (∃d k,Rd H a (.dK d)/\y=kV k/\r=gE d k)\/∃d k b,Rd H a (.dT d)/\y=.ref b/\H b=Z (.tup (k.map kV))/\r=gE d k
def uf(H:Hp)(a:KF)(y v:V)(e:Hp):Prop :=
 (∃d k,H a=Z (.dK d)/\y=kV k/\d.length<KB/\e=upd H a (.dK (putK d k v))) ∨
 ∃d k b,H a=Z (.dT d)/\y=.ref b/\H b=Z (.tup (k.map kV))/\d.length<KB/\e=upd H a (.dT (putK d k v))
theorem ig.k{H:Hp}{a:KF}{b:List (Key×V)}{k:Key}(e:H a=Z (.dK b)):ig H a (kV k) (gE b k):=.inl ⟨b,k,.inl e,rfl,rfl⟩
theorem uf.k{H:Hp}{a:KF}{b:List (Key×V)}{k:Key}{v:V}(e:H a=Z (.dK b))(d:b.length<KB):uf H a (kV k) v (upd H a (.dK (putK b k v))):=.inl ⟨b,k,e,rfl,d,rfl⟩
section
variable{X:Cx}{pins:Xy}{J:St}{H:Hp}{s:GM}{a:KF}{y v:V}{u r:KM}{o:Option V}{A:Re}{E:Z4}
def Inv.big(I:Inv X pins J H s):sysModules<s.heap.objs.size:=by
 have h:mainGlobals<s.heap.objs.size:=(I.mod.glob.keeps I.bk).lt;exact Wz (by decide) h
def wg{Q:Z4}(x:A.units+1<cLine)(I:Inv X pins J H s)(g:ig H a y (Z v))(n:RelV y u)(h:∀d m,Inv X pins J H m->RelV v d->Q d m) :
  On (IR X.prog X.w) A (getItem (.ref a) u) Q E s:=by
 rcases g with⟨F,k,e,f,l⟩ | ⟨F,k,b,e,f,D,l⟩
 ·subst f;obtain⟨z,hd,t,rel,i⟩:=lT I.GO e;obtain⟨d,hw,j⟩:=iP.some_of (v:=v) (o:=valueAt t k) (by rw[l];exact rel.val k);exact wpAny_getItem_of (lP n) i.mapOf hw (h d _ (I.tok _) j)
 ·subst f;cases (show u=Value.ref b from n);obtain⟨z,hd,q,rel,i⟩:=mV I.GO e;obtain⟨d,hw,j⟩:=iP.some_of (v:=v) (o:=(atKey q k).map (·.2)) (by rw[l];exact rel.val k);obtain⟨p,C,G⟩:=Zy.mp hw;refine wpAny_getItem_heap (Xp x) (dR I.GO D) i C ?_;rw[G];exact h d _ (I.tok _) j
def Ge{Q:Z4}(m:A.units+1<cLine)(I:Inv X pins J H s)(g:ig H a y o)(j:RelV y u)(h:∀i,Inv X pins J H i->Q (.bool o.isSome) i) :
  On (IR X.prog X.w) A (SC .In u (.ref a)) Q E s:=by
 rcases g with⟨p,k,e,d,l⟩ | ⟨p,k,b,e,d,n,l⟩
 ·subst d;obtain⟨z,hd,x,rel,f⟩:=lT I.GO e;refine wpAny_in_of (lP j) hd f.mapOf ?_;rw[← (rel.val k).Hw,← l];exact h _ (I.tok _)
 ·subst d;cases (show u=Value.ref b from j);obtain⟨z,hd,t,rel,f⟩:=mV I.GO e;refine wpAny_in_heap (Xp m) (dR I.GO n) hd f ?_;have q:=(rel.val k).Hw;rw[Yh]at q;rw[← q,← l];exact h _ (I.tok _)
def Aa{Q:Z4}(m:A.units+1<cLine)(I:Inv X pins J H s)(g:ig H a y o)(j:RelV y u)(h:∀i,Inv X pins J H i->Q (.bool (!o.isSome)) i) :
  On (IR X.prog X.w) A (SC .NotIn u (.ref a)) Q E s:=by
 rcases g with⟨p,k,e,d,l⟩ | ⟨p,k,b,e,d,n,l⟩
 ·subst d;obtain⟨z,hd,x,rel,f⟩:=lT I.GO e;refine wpAny_notIn_of (lP j) hd f.mapOf ?_;rw[← (rel.val k).Hw,← l];exact h _ (I.tok _)
 ·subst d;cases (show u=Value.ref b from j);obtain⟨z,hd,t,rel,f⟩:=mV I.GO e;refine wpAny_notIn_heap (Xp m) (dR I.GO n) hd f ?_;have q:=(rel.val k).Hw;rw[Yh]at q;rw[← q,← l];exact h _ (I.tok _)
def mH{d:SL}{t':Nat}{f:HO}(I:Inv X pins J H s)(h:GV (H a))(i:Heap.SameBut a s.heap d)(j:∃q,d.get? a=Z q)(g:cp X.prog X.w (upd H a f) d a f) :
  Inv X pins J (upd H a f) { s with heap:=d,toks:=t' } :=
 I.write (x:=a) (e:=a) h (.inl Y) (λb q hb z=>(i.2 b hb).trans z) j g
def qk{P:P3}{w:SZ}{i:Hp}{f:SL}{e:List (Key×V)}{b:List (Key×KM)}(z:e.length<=KB)(g:(a==sysModules)=B)(d:KV e b)(h:f.DictOf (aP P w) a b) :
  cp P w i f a (.dK e):=⟨z,g,b,d,h⟩
def wF{O:Hp}{Q:Unit->GM->Prop}(U:A.units+1<cLine)(I:Inv X pins J H s)(g:uf H a y v O)(D:RelV y u)(F:RelV v r)(h:∀C,Inv X pins J O C->Q () C) :
  On (IR X.prog X.w) A (setItem (.ref a) u r) Q E s:=by
 rcases g with⟨d,k,e,p,l,t⟩ | ⟨d,k,b,e,p,N,l,t⟩
 ·subst p t;obtain⟨z,hd,S,rel,x⟩:=sj I.GO e;have j:S.length<=sizeLine:=by rw[← rel.length];exact z
  have n:(putK d k v).length<=sizeLine:=by have:=gO d k v;lia
  refine wpAny_setItem_pairs (hsz:=j) (lP D) x λG i m=>h _ ?_;have Y:∃q,G.get? a=Z q:=let ⟨q,_,_,f,_⟩:=i;⟨q,f⟩
  exact mH I (by rw[e];exact True.intro) m Y (qk n hd (rel.put k F) i)
 ·subst p t;cases (show u=Value.ref b from D);obtain⟨z,hd,P,rel,x⟩:=Fq I.GO e;have j:P.length<=sizeLine:=by rw[← Xv rel];exact z
  have n:(putK d k v).length<=sizeLine:=by have:=gO d k v;lia
  refine wpAny_setItem_heap (hsz:=j) (Xp U) (dR I.GO N) x λG i m=>h _ ?_;obtain⟨q,es,ep,f,h2,h3,h4,_,h5⟩:=i;refine mH I (by rw[e];exact True.intro) m ⟨q,f⟩ ⟨n,hd,_,(rel.put k N F).keeps λc ys M=>?_,q,es,ep,f,h2,h3,h4,h5⟩;rw[aC (Ez M e (λz=>nomatch z))];exact M
end
section
variable{X:Cx}{pins:Xy}{J:St}{H:Hp}{s:GM}{a:KF}{bt:List (Key×V)}{k:Key}{u:KM}{A:Re}{E:Z4}
def FL{Q:Z4}(I:Inv X pins J H s)(e:Rd H a (.dK bt))(h:∀t b,Inv X pins J H b->Q (.int bt.length t) b):On (IR X.prog X.w) A (call (.builtin "len") [.ref a]) Q E s:=by
 obtain⟨z,hd,f,rel,d⟩:=lT I.GO e;refine call_len_dict hd d (by rw[← rel.length];rw[Xo]at z;lia) ?_;rw[← rel.length];exact h _ _ (I.tok _)
end
def rO{X:Cx}{d:Xy}{J:St}{H:Hp}{s:GM}{a:KF}{y:V}{o:Option V}(I:Inv X d J H s)(g:ig H a y o):s.TypeIs (.ref a) "dict" := by
 rcases g with⟨h,k,e,_,_⟩ | ⟨h,k,b,e,_,_,_⟩
 ·obtain⟨_,_,j,_,f⟩:=lT I.GO e;exact f.typeIs
 ·obtain⟨_,_,i,_,f⟩:=mV I.GO e;exact f.typeIs
def sC{P:P3}{w:SZ}{H:Hp}(h:SL)(a:sysModules<h.objs.size):cp P w H (h.push { cls:=.type "dict",data:=.dict #[] }) h.objs.size (.dK []) :=
 ⟨Ym _,ZL.mpr (Ya (ZW a)),[],.nil,Heap.DictOf.new h⟩
def DJ:TE:=λ_ H Q=>∀p,H p=L->Q (.ref p) (upd H p (.dK []))
section
variable{X:Cx}{pos:Pos}
def zV:PE X (.Dict [] [] pos) DJ:=λb s J H Q I h =>
 wpAny_Dict_empty ⟨.ref s.heap.objs.size,_,I.laid (a:=s.heap.objs.size) (o:=.dK []) (t':=s.toks) (λ_ _ q=>Zk _ q) (Zm _) (sC s.heap I.big),rfl,h _ (I.GO.fresh (Zm _))⟩
end
def tZ:List (TE×TE)->St->Hp->(List (V×V)->Hp->Prop)->Prop
 |[],_,H,Q=>Q [] H
 | (b,a) :: r,J,H,Q=>b J H λx f=>a J f λy e=>tZ r J e λps d=>Q ((x,y) :: ps) d
abbrev VV:List (V×V)->List (KM×KM)->Prop:=Paired λp q=>RelV p.1 q.1/\RelV p.2 q.2
def PPs(X:Cx)(e:Pos)(d:List (Option Expr))(a:List Expr)(i:List (TE×TE)):Prop :=
 ∀(b:Xy)(s:GM)(J:St)(H:Hp)(Q:List (V×V)->Hp->Prop),Inv X b J H s->tZ i J H Q →
  On (IR X.prog X.w) X.A (evalPairs (pairTrees d a X.env e)) (λg h=>∃ps f,Inv X b J f h/\VV ps g/\Q ps f) X.xe s
def Br{X:Cx}{a:Pos}:PPs X a [] [] []:=λb s J H Q I h=>pairTrees_nil_walk ⟨[],H,I,.nil,h⟩
def xm{X:Cx}{b:Pos}{k v:Expr}{g:List (Option Expr)}{d:List Expr}{f e:TE}{i:List (TE×TE)}(t:PE X k f)(q:PE X v e)(r:PPs X b g d i) :
  PPs X b (Z k :: g) (v :: d) ((f,e) :: i):=λa s J H Q I h =>
 pairTrees_cons_walk (thn (t a s J H _ I h) λu s1 ⟨x,E,A,m,p⟩=>thn (q a s1 J E _ A p) λG j ⟨y,D,z,l,o⟩ =>
  thn (r a j J D _ z o) λF M ⟨ps,C,w,rel,n⟩=>⟨(x,y) :: ps,C,w,.cons ⟨m,l⟩ rel,n⟩)
def nV(d a:List (Key×V)):List (Key×V):=a.foldl (λacc b=>putK acc b.1 b.2) d
def KV.merge:∀{more:List (Key×V)}{d:List (Key×KM)}{b:List (Key×V)}{a:List (Key×KM)},KV more d->KV b a->KV (nV b more) (merged a d):=by
 intro more d b a r;unfold KV at r
 induction r generalizing b a with
 |nil=>intro q;exact q
 |@cons p q ps i h t g =>
  intro f;have e:KV (putK b p.1 p.2) (stored a q.1 q.2):=by
   have:=f.put p.1 h.2;rw[← h.1];exact this
  exact g e
theorem jJ:∀(more a:List (Key×V)),(nV a more).length<=a.length+more.length
 |[],a=>by show a.length<=a.length+0;exact Yk _ _
 |p :: r,a=>by
  have d:=jJ r (putK a p.1 p.2);have b:=gO a p.1 p.2;show (nV (putK a p.1 p.2) r).length<=_;rw[Zl];lia
theorem mZ{P:P3}{w:SZ}:∀{e:List (Key×V)}{f:List (KM×KM)},VV (e.map λg=>(kV g.1,g.2)) f->∃d,Carries (aP P w) f d/\KV e d
 |[],_,r=>by rw[Wu]at r;cases r;exact⟨[],True.intro,.nil⟩
 |p :: e,_,r=>by
  rw[Zo]at r;cases r with
  |@cons a b l bs h t =>
   obtain⟨d,c,q⟩:=mZ (P:=P) (w:=w) t;obtain⟨j,i⟩:=b;exact⟨(p.1,i) :: d,⟨lP h.1,rfl,c⟩,.cons ⟨rfl,h.2⟩ q⟩
def FW(e:List (TE×TE)):TE:=λJ H Q=>∀p,H p=L->tZ e J (upd H p (.dK [])) λps d=>d p=Z (.dK [])/\∃a:List (Key×V),ps=a.map (λb=>(kV b.1,b.2))/\a.length<=15/\Q (.ref p) (upd d p (.dK (nV [] a)))
def Bb{X:Cx}{f:Pos}{b:List (Option Expr)}{d:List Expr}{j:List (TE×TE)}(h:PPs X f b d j)(O:b.all (·.isSome)=R)(C:b.length=d.length)(F:b≠[])(N:b.length<=15):PE X (.Dict b d f) (FW j):=by
 intro g s J H Q I q;have A:=I.GO.fresh (Zm s.heap.objs.size);have S:=I.laid (a:=s.heap.objs.size) (o:=.dK []) (h':=s.heap.push { cls:=.type "dict",data:=.dict #[] }) (t':=s.toks) (λ_ _ q=>Zk _ q) (Zm _) (sC s.heap I.big);refine wpAny_Dict_walk (knd:=aP X.prog X.w) O C F N (thn (h g _ J _ _ S (q _ A)) λU Y ⟨ps,H2,m,rel,e,i,G,lk,u⟩=>?_);subst G;obtain⟨p,c,r⟩:=mZ (P:=X.prog) (w:=X.w) rel;obtain⟨z,hd,n,t,M⟩:=sj m.GO e;cases t;refine⟨p,c,M,λh' l x=>⟨.ref s.heap.objs.size,_,?_,rfl,u⟩⟩;have v:(nV [] i).length<=sizeLine:=by
  have E:=jJ i [];rw[List.length_nil]at E;rw[Xo];lia
 have D:∃q,h'.get? s.heap.objs.size=Z q:=let ⟨q,_,_,y,_⟩:=l;⟨q,y⟩
 exact mH m (by rw[e];exact True.intro) x D (qk v hd (r.merge .nil) l)
structure YJ(X:Cx)(o:Expr)(m:Str)(apos:Pos)(e:Expr)(oe:Pos):Prop where
 base:UF o m X.env (eval o X.env)=eval o X.env
 IQ:((backTo oe (Pi [e] X.env)).all (λx=>!x.1)&&(backToKw oe (SB [] X.env)).all (λx=>x.1.isSome)
  && decide (([e]:List Expr).length+([]:List Keyword).length+(if ([]:List Keyword).isEmpty then 0 else 1)<30))=true
 line:(apos.endLine==oe.line)=true
 trees:backTo oe (Pi [e] X.env)=[(false,eval e X.env)]
def TY(H:Hp)(a:KF):Prop:=(∃b,Rd H a (.dK b))\/∃b,Rd H a (.dT b)
def Ds{X:Cx}{g:Xy}{J:St}{H:Hp}{s:GM}{a:KF}(I:Inv X g J H s)(d:TY H a) :
  s.TypeIs (.ref a) "dict" ∧ (∀b,Value.ref a=.ref b->∃f,s.heap.get? b=Z f/\f.dict=L)/\(a==sysModules)=B:=by
 rcases d with⟨l,e⟩ | ⟨l,e⟩
 ·obtain⟨_,hd,n,_,h⟩:=lT I.GO e;refine⟨h.typeIs,λb q=>?_,hd⟩;cases q;obtain⟨f,_,_,j,i,_⟩:=h;exact⟨f,j,i.2.1⟩
 ·obtain⟨_,hd,m,_,h⟩:=mV I.GO e;refine⟨h.typeIs,λb q=>?_,hd⟩;cases q;obtain⟨f,_,_,j,i,_⟩:=h;exact⟨f,j,i.2.1⟩
section
variable{X:Cx}{pins:Xy}{J:St}{H:Hp}{s:GM}{a:KF}{y d:V}{u r:KM}{o:Option V}{A:Re}{E:Z4}
def D3{Q:Z4}(q:A.units+1<cLine)(I:Inv X pins J H s)(g:ig H a y o)(n:RelV y u)(h:∀j m,Inv X pins J H m->RelV (o.getD .non) j->Q j m) :
  On (IR X.prog X.w) A (call (.builtin "dict.get") [.ref a,u]) Q E s:=by
 rcases g with⟨v,k,e,i,l⟩ | ⟨v,k,b,e,i,t,l⟩
 ·subst i;obtain⟨z,hd,x,rel,f⟩:=lT I.GO e;refine call_meetsIn XJ f.typeIs PySem.F.entry_dict_get (PySem.F.args_dict_get_2 _ _) (meets_dict_get (aP X.prog X.w) a (lP n) hd) ⟨_,f.mapOf,h _ _ (I.tok _) ?_⟩;rw[l];exact(rel.val k).getD Y
 ·subst i;cases (show u=Value.ref b from n);obtain⟨z,hd,p,rel,f⟩:=mV I.GO e;refine call_meetsIn XJ f.typeIs PySem.F.entry_dict_get (PySem.F.args_dict_get_2 _ _) (meetsH_dict_get (tupleKind (aP X.prog X.w)) a b hd) ⟨Xp q,k,p,dR I.GO t,f,h _ _ (I.tok _) ?_⟩;rw[l];exact(rel.val k).getD Y
end
def DG(f e:TE):TE:=λJ H Q=>f J H λx d=>∃a,x=.ref a/\TY d a/\e J d λy b=>∃o,ig b a y o/\Q (o.getD .non) b
section
variable{X:Cx}{o e f:Expr}{apos oe:Pos}{td ty tx:TE}
def yr(t:X.A.units+1<cLine)(v:PE X o td)(w:PE X e ty)(m:YJ X o "get" apos e oe):PE X (.Call (.Attribute o "get" apos) [e] [] oe) (DG td ty):=by
 intro b s J H Q I h;refine wpAny_Call_method m.base m.IQ m.line PySem.F.plainAttrs_dict XJ PySem.F.type_dict_get (thn (v b s J H _ I h) λu s1 ⟨x,G,i,p,a,ex,d,r⟩=>?_);subst ex;obtain rfl:u=Value.ref a:=p;obtain⟨l,j,_⟩:=Ds i d;refine⟨l,j,?_⟩;rw[m.trees];refine Calls.callWith_builtin Y (Calls.evalArgs_plain (Calls.spliced_cons (thn (w b s1 J G _ i r) λiv O ⟨y,E,D,n,P,g,q⟩=>Calls.spliced_nil ?_)));exact D3 t D g n λM N C z=>⟨_,E,C,z,q⟩
end
end L2
namespace T3
open PySem PySem.W PySem.Calls PyProof.Rows
def mr{P:Params}{h:SL}:∀(ns:Wb)(d:Wf),WellAll P h d (ns.map WData.int)->IntsAre d ns:=by
 intro ns
 induction ns with
 |nil =>
  intro d w;rw[Wu]at w;cases w;exact .nil
 |cons n ns e =>
  intro d w;rw[Zo]at w;cases w with
  |cons a b =>
   cases a;exact .cons _ _ (e _ b)
def wD{l:OpenLaw}{n:Nat}(v:l.most=Z n){P:Params}{h:SL}{b:List WData}{e:Wf}(f:l.row.toRowW.claim.pre b=R)(j:WellAll P h e b) :
  ∃a m ns,e=[Value.ref a]/\b=[WData.list (ns.map WData.int)]/\h.get? a=Z { cls:=.type "list",data:=.seq m.toArray }/\IntsAre m ns/\ns.length<=n:=by
 have z:WShape.hasAll [] b [.list .int]=R:=(pre_splitW f).1;have o:l.pre.holds [] { args:=b }=R:=(pre_splitW f).2;obtain⟨d,r,rfl,y,x⟩:=hasAllW_cons z;obtain rfl:=hasAllW_nil x;obtain⟨C,rfl,w⟩:=hasW_list y;obtain⟨ns,rfl⟩:=items_int w;have hlen:ns.length<=n:=by
  unfold OpenLaw.pre at o;have i:(WTm.not (.lt (.lit (.int (n:Int))) (.len (.arg 0)))).holds [] { args:=[.list (ns.map .int)] }=R:=by
   have i:=(holds_andW o).1;rw[v]at i;exact i
  have g:=condW_of i (w_not (w_lt w_lit (w_len_list (w_arg Y))));rw[Zw]at g;refine ZQ λq=>?_;have t:(n:Int)<((ns.length:Nat):Int):=by omega
  first
   | (rw[decide_eq_true t]at g;exact absurd g (by decide))
   | (simp at g;omega)
 cases j with
 |cons s p =>
  cases p;cases s with
  |list u A=>exact⟨_,_,ns,rfl,rfl,u,mr ns _ A,hlen⟩
def vU(l:OpenLaw)(a:List WData):l.row.toRowW.claim.post a (.bool R) a=R :=
 postW_of (r:=l.row.toRowW) (X:=(R==R))
  (show WShape.has [] (.bool R) .bool=R by first | rfl | decide | simp[WShape.has,WShape.arms,WShape.armsAll])
  (show (WTm.eq .res (.lit (.bool R))).value [] { args:=a,res:=Z (.bool R),after:=a }=Z (.bool (R==R)) from w_eq_bool (w_res Y) w_lit) Y
def rN{l:OpenLaw}{n:Nat}{q:P3}{e:List Str}{A:(X6)->SL->Prop}{z:SZ->SL->Prop}{d:DefRec}(F:l.most=Z n)(S:d.params.defaults=[])(j:∀(w:SZ)(p b:GM)(mg s:X6)(i:KF)(o:Obj)(pm cd doc:KM)(a:KF)(g:Wf)(ns:Wb),
   Ground q e [] A w p mg s b.heap->z w b.heap →
   b.heap.get? i=Z o->o.data=.func (docDef d.name d.params d.body d.scope pm cd doc)->b.heap.CodeRec cd d.name->mg d.name=Z (.ref i) →
   b.heap.get? a=Z { cls:=.type "list",data:=.seq g.toArray }->IntsAre g ns->ns.length<=n->b.gens=#[] →
   codeAny (IR l.prog w) callerA (.call (.ref i) ⟨[.ref a],[]⟩) (λr m=>r=.ok (.ret (.bool R))/\OldK b.heap m.heap/\m.os=b.os/\AllBare m.gens) b) :
  WalkO q e A z l.row.toRowW d [] (λf g=>PySem.call f g):=by
 intro w p b mg s G Y i o pm cd doc P kV E hd v y u hg args vals U h x C t J;obtain rfl:P=.none:=Dflts.none y S;obtain rfl:kV=.none:=Dflts.noKw y;obtain⟨a,g,ns,rfl,rfl,Q,hints,hlen⟩:=wD F h t;refine enter_call (codeAny_mono (j w p b mg s i o pm cd doc a g ns G Y E (fd_plain hd) v u Q hints hlen hg) λr m D=>?_);obtain⟨rfl,O,N,M⟩:=D;exact⟨.inl ⟨.bool R,.bool R,[],rfl,λ_=>rfl,.bool R,vU l _,λ_=>⟨List.Pairwise.nil,λ_ H=>(nomatch H)⟩⟩,O,N,M⟩
end T3
namespace L2
open PySem PySem.Spec PyProof.Rows
theorem oK:∀{a:Wf}{ns:Wb},IntsAre a ns->aQ (ns.map V.int) a
 |_,_,.nil=>.nil
 |_,_,.cons n t h=>.cons ⟨t,rfl⟩ (oK h)
def yz(H:Hp):Prop:=∀b,H b=L\/∃o a,H b=Z (.frz o (.lst a))
def yM{P:P3}{w:SZ}{K:Xd}{t E:X6}{CX:Ks}{k:Nat}{J a:KF}{fd:Pv}{x:Str}{N:Sp}{f:GM}{j:Wf}{p:Wb}(KX:K.In f.heap)(LZ:f.heap.Ns mainGlobals t)(g:f.heap.Ns builtinsNs E)(Pf:∀x:Str,x ≠ "__name__" → E x=bootBuiltins x)(QT:f.heap.NoLimit)(hg:f.gens=#[])(C:f.heap.get? a=Z { cls:=.type "list",data:=.seq j.toArray })(S:IntsAre j p)(Q:p.length<=KB)(hr:p0 k callerA)(F:∀base:SL,K.In base->base.Ns mainGlobals t->FnOk P w K t base CX k J fd [x] N)(Od:∀(s:GM)(u:KM),BindsTo s fd ⟨[u],[]⟩ [(x,u)])(La:∀H:Hp,yz H->G5 K H a (p.map V.int)->N [.ref a] H (λv _=>v=.bl R) λ_ _ _=>False)(Rt:∀H e i,CX [] H f (λ_ _ _=>False) e i->False) :
  codeAny (IR P w) callerA (.call (.ref J) ⟨[.ref a],[]⟩) (λr i=>r=.ok (.ret (.bool R))/\OldK f.heap i.heap/\i.os=f.os/\AllBare i.gens) f:=by
 have O:=oK S;have QB:=S.length;have core:∀H:Hp,yz H->G5 K H a (p.map V.int)->HU P w H f.heap->(∀b,H b≠L->b=a)->(H a≠L->K.lookup a=L) →
   codeAny (IR P w) callerA (.call (.ref J) ⟨[.ref a],[]⟩) (λr i=>r=.ok (.ret (.bool R))/\OldK f.heap i.heap/\i.os=f.os/\AllBare i.gens) f:=by
  intro H U hS GO X hK;have JW:∀{b:KF}{o:Obj},f.heap.get? b=Z o->H b=L->(pD f.heap H).get? b=Z o:=λe n=>xW e n;have NU:∀{b:KF}{o:Obj}{y:Array DictEntry}{A:Nat},f.heap.get? b=Z o->o.data=.dict y A->H b=L:=λ{b o y A} e d=>by
   cases q:H b with
   |none=>rfl
   |some u =>
    have M:b=a:=X b (by rw[q];simp);subst M;rw[C]at e;cases e;have d':Data.seq j.toArray _=Data.dict y A:=d;cases d'
  have D:∀{b:KF}{m:X6},f.heap.Ns b m->(pD f.heap H).Ns b m:=λ{b m} ⟨o,y,A,e,d,r⟩=>⟨o,y,A,JW e (NU e d),d,r⟩
  have S8:K.In (pD f.heap H):=λb o e=>JW (KX b o e) (by
   cases q:H b with
   |none=>rfl
   |some u =>
    have M:b=a:=X b (by rw[q];simp);subst M;rw[hK (by rw[q];simp)]at e;cases e)
  have hM:Mod K t (pD f.heap H):=⟨S8,D LZ,⟨E,D g,Pf⟩,let ⟨mc,h1,h2⟩:=QT;⟨mc,D h1,h2⟩⟩
  have e0:Env0 P w K t (pD f.heap H) callerA [] f H:=⟨rfl,hM,λb o e=>AA e,Xf (vY _ _),trivial,λb g=>absurd (show b∈([]:X7) from g) (by simp),GO,.of_eq hg⟩
  refine codeAny_mono ((F _ S8 (D LZ)).run callerA [] f H ⟨[.ref a],[]⟩ [.ref a] [.ref a] _ _ hr e0 (Od f (.ref a)) (.cons Y .nil) (La H U hS)) λr i h=>?_;cases r with
  |error e=>exact(Rt H e i h).elim
  |ok fl =>
   cases fl with
   |next=>exact False.elim h
   |brk=>exact False.elim h
   |cont=>exact False.elim h
   |ret u =>
    obtain⟨v,H',os,bare,un,QL,r',q⟩:=h;have q':v=.bl R:=q;subst q';obtain rfl:u=Value.bool R:=r';refine⟨rfl,OldK.of_keep λb o e=>?_,os,bare⟩;cases q:H b with
    |none=>exact un.keep b o e q (by intro z;exact absurd (show b∈([]:X7) from z) (by simp)) (by simp)
    |some u =>
     rcases U b with z | ⟨ob,xs,z⟩
     ·rw[q]at z;cases z
     ·have z2:=un.Jd b ob _ z;obtain⟨e1,_⟩:=GO b _ z;obtain⟨e2,_⟩:=QL b _ z2;rw[e]at e1;cases e1;exact e2
 cases G:K.lookup a with
 |some o =>
  have e:=KX a o G;rw[C]at e;cases e;refine core (λ_=>L) (λ_=>.inl Y) (.inr ⟨_,j.toArray,_,G,rfl,rfl,rfl,by rw[Ze,QB];exact Q,by simpa using O⟩) (λb u z=>by have l:(L:Option HO)=Z u:=z;cases l) (λb z=>absurd Y z) λz=>absurd Y z
 |none =>
  refine core (λb=>if b=a then Z (.frz { cls:=.type "list",data:=.seq j.toArray } (.lst (p.map V.int))) else L) (λb=>?_) (.inl (.inr ⟨{ cls:=.type "list",data:=.seq j.toArray },Zq Y⟩)) (λb u z=>?_) (λb z=>?_) λ_=>G
  ·by_cases g:b=a
   ·exact .inr ⟨_,_,Zq g⟩
   ·exact .inl (Zp g)
  ·by_cases g:b=a
   ·have l:=(Zq g).symm.trans z;cases l;subst g;exact⟨C,by rw[Zw];exact Q,j,_,O,C⟩
   ·have l:=(Zp g).symm.trans z;cases l
  ·by_cases g:b=a
   ·exact g
   ·exact absurd (Zp g) z
def BB{l:PySem.W.OpenLaw}{n k:Nat}{q:P3}{i:List Str}{O:(X6)->SL->Prop}{t:SZ->SL->Prop}{d:DefRec}{K:Params->Xd}{CX:SZ->Ks}{sp:SZ->Sp}{x:Str}(C:l.most=Z n)(Q:n<=KB)(X:d.params.defaults=[])(A:p0 k callerA)(E:∀(w:SZ)(h:SL),t w h->(K w.params).In h)(F:∀(w:SZ)(mg:X6)(j:KF)(h:SL),(K w.params).In h->h.Ns mainGlobals mg->mg d.name=Z (.ref j) →
   ∃fd:Pv,(∀(s:GM)(u:KM),BindsTo s fd ⟨[u],[]⟩ [(x,u)]) ∧
    ∀base:SL,(K w.params).In base->base.Ns mainGlobals mg->FnOk l.prog w (K w.params) mg base (CX w) k j fd [x] (sp w))(U:∀(w:SZ)(H:Hp)(a:KF)(ns:Wb),ns.length<=n->yz H->G5 (K w.params) H a (ns.map V.int)->sp w [.ref a] H (λv _=>v=.bl R) λ_ _ _=>False)(P:∀(w:SZ)(H:Hp)(s:GM)(e:KM)(m:GM),CX w [] H s (λ_ _ _=>False) e m->False) :
  PySem.W.WalkO q i O t l.row.toRowW d [] (λf r=>PySem.call f r):=by
 refine T3.rN C X λw s₀ z mg mb j o pm cd doc a r ns G Y ho hd D p S hints hlen hg=>?_;have y:=E w _ Y;obtain⟨fd,hb,N⟩:=F w mg j _ y G.T.g p;exact yM y G.T.g G.T.b G.T.builtins G.T.nolimit hg S hints (ZJ hlen Q) A N hb (λH M J=>U w H a ns hlen M J) λH e m=>P w H z e m
def inClass(s:Stmt)(j:Nat):Stmt:=match s with
 |.ClassDef _ _ _ body _ _ _ _ _ _ _=>body.getD j (.Pass ⟨0,0,0,0⟩)
 |_=>.Pass ⟨0,0,0,0⟩
def cR(s:Stmt):Arguments:=match s with
 |.FunctionDef _ a _ _ _ _ _ _ _ _=>a
 |_=>{ posonlyargs:=[],args:=[],vararg:=L,kwonlyargs:=[],kw_defaults:=[],kwarg:=L,defaults:=[] }
def aU(s:Stmt):List Stmt:=match s with
 |.FunctionDef _ _ b _ _ _ _ _ _ _=>b
 |_=>[]
def ai(s:Stmt):Scope:=match s with
 |.FunctionDef _ _ _ _ _ _ sc _ _ _=>sc
 |_=>{ kind:=.function,names:=[],isGenerator:=B,isCoroutine:=B }
abbrev Hi:Ks:=λ_ _ _ _ _ _=>False
abbrev E0:XK:=λ_ _ _=>False
def g9{X:Cx}:jd Hi X E0:=λ_ _ _ _ _ _ _ h=>h.elim
structure GW(K:Xd)(x qual:Str)(st:Stmt)(f:KF)(fd:Pv):Prop where
 ex:∃(oc:KM)(od:Option KF)(kV doc pm:KM)(an:Option KF)(GS ct:KM)(Jx:Array (We)),
  fd=PySem.W.fnOf x qual (cR st) (aU st) (ai st) .none kV doc pm an GS ct/\K.lookup f=some ⟨oc,od,.func fd,Jx⟩/\PySem.W.codeIn K GS qual=true
 kp:PySem.W.keepIn K (.ref f)=true
section
variable{P:P3}{w:SZ}{K:Xd}{mg:X6}{base:SL}
def GW.ok{x a:Str}{d:Stmt}{f:KF}{m:Pv}{N i:List Str}{k:Nat}{g:Sp}(F:GW K x a d f m)(S:gV N i (ai d))(j:∀b H Q E,g b H Q E->b.length=i.length)(p:∀(e:KM)(A:Re)(outer:List Env)(s:GM)(H:Hp)(b:List V)(Q:VK)(E:XK),p0 k (A.deeper (envOfC a (ai d) s.heap.objs.size f e))->g b H Q E →
   ∃t,IE (iR Hi P w K mg base N a (ai d) f e A outer s H E).Jm (aU d) t/\t { nx:=λ_ r=>Q .non r,rt:=Q } (start N b) H):FnOk P w K mg base Hi (k+1) f m i g:=by
 obtain⟨oc,u,kV,doc,pm,an,e,ct,v,rfl,lk,l⟩:=F.ex;refine Ci lk l S j λA outer s H b Q E n o=>?_;obtain⟨t,h,q⟩:=p e A outer s H b Q E n o;exact⟨t,h.Jm,q⟩
def GW.binds{x a:Str}{b:Stmt}{f:KF}{i:Pv}{e:List Str}(F:GW K x a b f i)(h:∀(kV doc pm:KM)(an:Option KF)(g ct:KM)(d:Wf),d.length=e.length->bindArgs (PySem.W.fnOf x a (cR b) (aU b) (ai b) .none kV doc pm an g ct) ⟨d,[]⟩=pure (e.zip d)):Binds K i e []:=by
 obtain⟨oc,l,kV,doc,pm,an,g,ct,m,rfl,lk,j⟩:=F.ex;exact .all (h kV doc pm an g ct)
def xT{x a:Str}{st:Stmt}{f:KF}{m:KM}{j i:Option KF}{n:Array (We)}{g b e d h:KM}(l:K.lookup f=Z ⟨m,j,.func (PySem.W.fnOf x a (cR st) (aU st) (ai st) .none g b e i d h),n⟩)(c:PySem.W.codeIn K d a=R)(k:PySem.W.keepIn K (.ref f)=R):GW K x a st f (PySem.W.fnOf x a (cR st) (aU st) (ai st) .none g b e i d h):=⟨⟨m,j,g,b,e,i,d,h,n,rfl,l,c⟩,k⟩
end
def ke{A:Re}{k:Nat}(a:p0 k A):A.units+1<cLine:=X0 (Nat.add_le_add_left (by decide:1<=64) _) a.units
def uq{A B:Prop}(h:B):if false=R then A else B:=by
 rw[Zp Za];exact h
def uv{A B:Prop}(h:A):if R=R then A else B:=by
 rw[Zq Y];exact h
def aG(H a:Hp):Prop:=∀b o,H b=Z o->a b=Z o
def aG.refl(H:Hp):aG H H:=λ_ _ h=>h
def aG.trans{H e d:Hp}(a:aG H e)(b:aG e d):aG H d:=λc o h=>b c o (a c o h)
def aG.free{H a:Hp}(e:aG H a){l:KF}(h:a l=L):H l=L:=by
 cases q:H l with
 |none=>rfl
 |some o =>
  rw[e l o q]at h;cases h
end L2
end
section
namespace L2
open PySem PySem.Spec PyProof.Rows
abbrev oH:=List (List Key)
def hN(w:SZ)(k:oH):Int:=reduceHash (Builtin.Tuple.tupleHashOf (k.map λx=>reduceHash (Builtin.Tuple.tupleHashOf (x.map (Gb w)))))
def Gq(w:SZ)(x:oH×KF×KM):DictEntry:=⟨hN w x.1,.ref x.2.1,x.2.2⟩
abbrev KN:List (oH×KF×V)->List (oH×KF×KM)->Prop:=Paired λp q=>p.1=q.1/\p.2.1=q.2.1/\RelV p.2.2 q.2.2
def DN(a:KF)(e:List (oH×KF×V)):HO:=.ext λw h=>e.length<=KB/\(a==sysModules)=B/\∃b:List (oH×KF×KM),KN e b ∧
 ∃o d f,h.get? a=Z o/\o.ExactDict/\o.data=.dict d f/\d.toList=b.map (Gq w)/\(b.map (·.1)).Nodup
def Po(H:Hp)(k:oH)(b:KF):Prop:=∃a:X7,H b=Z (.tup (a.map V.ref))/\Paired (λ(x:List Key) (c:KF)=>H c=Z (.tup (x.map kV))) k a
def Po.mono{H e:Hp}{k:oH}{b:KF}(x:Po H k b)(t:∀a d,H a=Z (.tup d)->e a=Z (.tup d)):Po e k b:=by
 obtain⟨f,h,r⟩:=x;exact⟨f,t _ _ h,Paired.Lr r λ_ _ z=>t _ _ z⟩
end L2
end
section
namespace VS
open PySem PySem.Spec PyProof.Rows L2
def sx(s:Tx):Str:=⟨s.toArray⟩
def pH(s:Tx):Prop:=s.length<=eY/\∀c∈s,c<1114112
abbrev Me:=Nat->Option V
structure Gx where
 K:Xd
 ct:Nat->KF×(Nat->Str)
 me:Me:=λ_=>none
def Gx.at(G:Gx)(m:Me):Gx:=⟨G.K,G.ct,m⟩
def aR:Key->T
 |.inl i=>.int i
 |.inr x=>.str x.cps.toList
def UG(k:oH):T:=.tup (k.map λx=>T.tup (x.map aR))
def l7(K:Xd)(H:Hp)(a:KF)(d:Wb):Prop :=
 (∃o,H a=Z (.frz o (.lst (d.map V.int)))) ∨
  ∃(o:Obj)(b:Array KM)(n:Nat),K.lookup a=Z o/\o.cls=.type "list" ∧ o.dict=L/\o.data=.seq b n/\b.size<=KB/\aQ (d.map V.int) b.toList
mutual
inductive Rp(G:Gx)(H:Hp):V->T->X7->Prop
 |non:Rp G H .non .non []
 |bl (b:Bool):Rp G H (.bl b) (.bl b) []
 |int (i:Int):Rp G H (.int i) (.int i) []
 |str (s:Tx):pH s->Rp G H (.str (sx s)) (.str s) []
 |scr {a:KF} {ns:Wb}:l7 G.K H a ns->Rp G H (.ref a) (.scr ns) []
 |tup {a:KF} {vs:List V} {ts:W5} {Fs:Xg}:H a=some (.tup vs)->RpL G H vs ts Fs->Rp G H (.ref a) (.tup ts) Fs.flatten
 |lst {a:KF} {vs:List V} {ts:W5} {Fs:Xg}:H a=some (.lst vs)->RpL G H vs ts Fs->Rp G H (.ref a) (.lst ts) (a :: Fs.flatten)
 |dct {a:KF} {ks:List Key} {vs:List V} {ts:W5} {Fs:Xg}:H a=some (.dK (ks.zip vs))->ks.length=vs.length->RpL G H vs ts Fs->Rp G H (.ref a) (.dct 0 ((ks.map aR).zip ts)) (a :: Fs.flatten)
 |dctT {a:KF} {ks:List (List Key)} {vs:List V} {ts:W5} {Fs:Xg}:H a=some (.dT (ks.zip vs))->ks.length=vs.length->RpL G H vs ts Fs->Rp G H (.ref a) (.dct 1 ((ks.map λk=>T.tup (k.map aR)).zip ts)) (a :: Fs.flatten)
 |dctN {a:KF} {ks:List (oH×KF)} {vs:List V} {ts:W5} {Fs:Xg}:H a=some (DN a ((ks.zip vs).map λp=>(p.1.1,p.1.2,p.2)))->ks.length=vs.length->(∀p∈ks,Po H p.1 p.2)->RpL G H vs ts Fs->Rp G H (.ref a) (.dct 2 ((ks.map λp=>UG p.1).zip ts)) (a :: Fs.flatten)
 |dctZ {a:KF} {o:Obj} {ks:List Key} {vs:List V} {ts:W5} {Fs:Xg}:H a=some (.frz o (.dK (ks.zip vs)))->ks.length=vs.length->RpL G H vs ts Fs->Rp G H (.ref a) (.dct 3 ((ks.map aR).zip ts)) Fs.flatten
 |exc {c:Nat} {a:KF} {o:Obj}:H a=some (.frz o (.own a))->(o.cls=.ref (G.ct c).1/\o.dict=none/\∃vs,o.data=.fields vs)->Rp G H (.ref a) (.obj c []) []
 |ins {c:Nat} {a dx:KF} {b:Bool} {ks:Wc} {vs:List V} {ts:W5} {Fs:Xg}:H a=some (.ins (G.ct (c+1)).1 dx ((ks.map (G.ct (c+1)).2).zip vs))->ks.length=vs.length->(b=true->G.me 0=some (.ref a))->RpL G H vs ts Fs->Rp G H (.ref a) (.obj (c+1) ((0,.bl b) :: ks.zip ts)) (a :: Fs.flatten)
 |mk {m:Nat} {a:KF} {t:T} {F:X7}:G.me m=some (.ref a)->Rp G H (.ref a) t F->Rp G H (.ref a) (.obj 0 [(0,.bl true),(m,t)]) F
inductive RpL(G:Gx)(H:Hp):List V->W5->Xg->Prop
 |nil:RpL G H [] [] []
 |cons {v:V} {t:T} {F:X7} {vs:List V} {ts:W5} {Fs:Xg}:Rp G H v t F->RpL G H vs ts Fs->RpL G H (v :: vs) (t :: ts) (F :: Fs)
end
structure Kept(H H':Hp):Prop where
 tup:∀a xs,H a=some (.tup xs)->H' a=some (.tup xs)
 frz:∀a o u,H a=some (.frz o u)->H' a=some (.frz o u)
def Kept.refl(H:Hp):Kept H H:=⟨λ_ _ h=>h,λ_ _ _ h=>h⟩
def Kept.trans{H e d:Hp}(a:Kept H e)(b:Kept e d):Kept H d:=⟨λc x h=>b.tup c x (a.tup c x h),λc o u h=>b.frz c o u (a.frz c o u h)⟩
def Kept.of{H b:Hp}(e:aG H b):Kept H b:=⟨λa _ h=>e a _ h,λa _ _ h=>e a _ h⟩
theorem Kept.upd{H:Hp}{a:KF}{o:HO}(d:GV (H a)\/H a=L):Kept H (upd H a o):=by
 have ne:∀b u,H b=Z u->¬GV (Z u)->b≠a:=λb u h nm e=>by
  subst e;rcases d with m | m
  ·rw[h]at m;exact nm m
  ·rw[h]at m;cases m
 exact⟨λb f h=>by rw[aC (ne b _ h λz=>z)];exact h,λb o u h=>by rw[aC (ne b _ h λz=>z)];exact h⟩
def l7.kept{K:Xd}{H d:Hp}{a:KF}{b:Wb}(h:l7 K H a b)(k:Kept H d):l7 K d a b:=by
 rcases h with⟨o,e⟩ | h
 ·exact .inl ⟨o,k.frz _ _ _ e⟩
 ·exact .inr h
def l7.seq{K:Xd}{H:Hp}{a:KF}{b:Wb}(h:l7 K H a b):G5 K H a (b.map V.int):=by
 rcases h with⟨o,e⟩ | h
 ·exact .inl (.inr ⟨o,e⟩)
 ·exact .inr h
def rY{H d:Hp}{a:KF}{F:X7}(f:∀b∈a :: F,∀o,H b=Z o->d b=Z o):∀b∈F,∀o,H b=Z o->d b=Z o:=λb m=>f b (Zu _ m)
def vp{H a:Hp}{F:X7}{d:Xg}(f:∀b∈(F :: d).flatten,∀o,H b=Z o->a b=Z o):(∀b∈F,∀o,H b=Z o->a b=Z o)/\∀b∈d.flatten,∀o,H b=Z o->a b=Z o:=by
 rw[ZV]at f;exact⟨λb m=>f b (Yi _ m),λb m=>f b (ZK _ m)⟩
def Rp.keep{G:Gx}{H e:Hp}(k:Kept H e){v:V}{t:T}{F:X7}(r:Rp G H v t F):(∀a∈F,∀o,H a=Z o->e a=Z o)->Rp G e v t F :=
 Rp.rec (motive_1:=λv t F _=>(∀a∈F,∀o,H a=Z o->e a=Z o)->Rp G e v t F) (motive_2:=λj q g _=>(∀a∈g.flatten,∀o,H a=Z o->e a=Z o)->RpL G e j q g)
  (λ_=>.non) (λb _=>.bl b) (λi _=>.int i) (λs h _=>.str s h) (λh _=>.scr (h.kept k)) (λh _ d f=>.tup (k.tup _ _ h) (d f)) (λh _ d f=>.lst (f _ Zt _ h) (d (rY f))) (λh l _ d f=>.dct (f _ Zt _ h) l (d (rY f))) (λh l _ d f=>.dctT (f _ Zt _ h) l (d (rY f)))
  (λh l n _ d f=>.dctN (f _ Zt _ h) l (λp m=>(n p m).mono k.tup) (d (rY f))) (λh l _ d f=>.dctZ (k.frz _ _ _ h) l (d f)) (λh x _=>.exc (k.frz _ _ _ h) x) (λh l m _ d f=>.ins (f _ Zt _ h) l m (d (rY f))) (λh _ d f=>.mk h (d f)) (λ_=>.nil) (λ_ _ w u f=>.cons (w (vp f).1) (u (vp f).2)) r
theorem RpL.keep{G:Gx}{H b:Hp}(k:Kept H b):∀{e:List V}{g:W5}{d:Xg},RpL G H e g d->(∀a∈d.flatten,∀o,H a=Z o->b a=Z o)->RpL G b e g d
 |_,_,_,.nil,_=>.nil
 |_,_,_,.cons r q,f=>.cons (r.keep k (vp f).1) (RpL.keep k q (vp f).2)
def Rp.same{G:Gx}{H b:Hp}(e:aG H b){v:V}{t:T}{F:X7}(r:Rp G H v t F):Rp G b v t F:=r.keep (Kept.of e) λa _ o h=>e a o h
def RpL.same{G:Gx}{H b:Hp}(e:aG H b){v:List V}{t:W5}{F:Xg}(r:RpL G H v t F):RpL G b v t F:=r.keep (Kept.of e) λa _ o h=>e a o h
def xA{H:Hp}{a:KF}{F:X7}(h:GV (H a))(d:∀b∈F,GV (H b)):∀b∈a :: F,GV (H b):=λb m=>(Zi.mp m).elim (λe=>e ▸ h) (d b)
def zD{H:Hp}{a:KF}{o:HO}(h:H a=Z o)(m:GV (Z o)):GV (H a):=by rw[h];exact m
def FR{H:Hp}{F:X7}{a:Xg}(e:∀b∈F,GV (H b))(d:∀b∈a.flatten,GV (H b)):∀b∈(F :: a).flatten,GV (H b):=λb m=>by
 rw[ZV]at m;exact(ZY.mp m).elim (e b) (d b)
def Rp.G1{G:Gx}{H:Hp}{v:V}{t:T}{F:X7}(r:Rp G H v t F):∀a∈F,GV (H a) :=
 Rp.rec (motive_1:=λv t F _=>∀a∈F,GV (H a)) (motive_2:=λg i f _=>∀a∈f.flatten,GV (H a))
  (λ_ m=>nomatch m) (λ_ _ m=>nomatch m) (λ_ _ m=>nomatch m) (λ_ _ _ m=>nomatch m) (λ_ _ m=>nomatch m) (λ_ _ b=>b) (λh _ b=>xA (zD h True.intro) b) (λh _ _ b=>xA (zD h True.intro) b) (λh _ _ b=>xA (zD h True.intro) b)
  (λh _ _ _ b=>xA (zD h True.intro) b) (λ_ _ _ b=>b) (λ_ _ _ m=>nomatch m) (λh _ _ _ b=>xA (zD h True.intro) b) (λ_ _ b=>b) (λ_ m=>nomatch m) (λ_ _ e d=>FR e d) r
theorem RpL.G1{G:Gx}{H:Hp}:∀{d:List V}{e:W5}{b:Xg},RpL G H d e b->∀a∈b.flatten,GV (H a)
 |_,_,_,.nil=>λ_ m=>nomatch m
 |_,_,_,.cons r q=>FR r.G1 (RpL.G1 q)
def GV.jj{o:Option HO}(m:GV o):o≠L:=λe=>by subst e;exact m
def E5{F:X7}{b:Xg}{t:T}{a:W5}(e:VS.GR t=R->F=[])(d:VS.d6 a=R->b.flatten=[])(i:VS.d6 (t :: a)=R):(F :: b).flatten=[]:=by
 simp only[VS.d6,Zd]at i;rw[ZV,e i.1,d i.2];rfl
theorem Rp.GR{G:Gx}{H:Hp}{v:V}{t:T}{F:X7}(r:Rp G H v t F):VS.GR t=R->F=[] :=
 Rp.rec (motive_1:=λv t F _=>VS.GR t=R->F=[]) (motive_2:=λg a f _=>VS.d6 a=R->f.flatten=[])
  (λ_=>rfl) (λ_ _=>rfl) (λ_ _=>rfl) (λ_ _ _=>rfl) (λ_ _=>rfl) (λ_ _ b i=>b (by simpa[VS.GR] using i)) (λ_ _ _ i=>absurd (show B=R from i) Za) (λ_ _ _ _ i=>absurd (show B=R from i) Za) (λ_ _ _ _ i=>absurd (show B=R from i) Za)
  (λ_ _ _ _ _ i=>absurd (show B=R from i) Za) (λ_ _ _ _ i=>absurd (show B=R from i) Za) (λ_ _ _=>rfl) (λ_ _ _ _ _ i=>absurd (show B=R from i) Za) (λ_ _ _ i=>absurd (show B=R from i) Za) (λ_=>rfl) (λ_ _ e d i=>E5 e d i) r
theorem RpL.GR{G:Gx}{H:Hp}:∀{d:List V}{a:W5}{b:Xg},RpL G H d a b->VS.d6 a=R->b.flatten=[]
 |_,_,_,.nil,_=>rfl
 |_,_,_,.cons r q,i=>E5 r.GR (RpL.GR q) i
theorem RpL.len{G:Gx}{H:Hp}:∀{b:List V}{a:W5}{d:Xg},RpL G H b a d->b.length=a.length/\d.length=a.length
 |_,_,_,.nil=>⟨rfl,rfl⟩
 |_,_,_,.cons _ q=>by
  have:=RpL.len q;simp only[Zl];lia
theorem RpL.get{G:Gx}{H:Hp}:∀{a:List V}{b:W5}{d:Xg}(i:Nat){t:T},RpL G H a b d->b[i]?=Z t->∃v F,a[i]?=Z v/\d[i]?=Z F/\Rp G H v t F
 |_,_,_,_,_,.nil,e=>by simp at e
 |_,_,_,0,_,.cons r _,e=>by
  simp at e;subst e;exact⟨_,_,rfl,rfl,r⟩
 |_,_,_,i+1,_,.cons _ q,e=>by
  obtain⟨v,F,h,g,f⟩:=RpL.get i q (by simpa using e);exact⟨v,F,by simpa using h,by simpa using g,f⟩
theorem RpL.append{G:Gx}{H:Hp}:∀{a:List V}{d:W5}{g:Xg}{b:List V}{e:W5}{f:Xg},RpL G H a d g->RpL G H b e f->RpL G H (a++b) (d++e) (g++f)
 |_,_,_,_,_,_,.nil,s=>s
 |_,_,_,_,_,_,.cons r q,s=>.cons r (RpL.append q s)
theorem RpL.take{G:Gx}{H:Hp}:∀{a:List V}{b:W5}{d:Xg}(n:Nat),RpL G H a b d->RpL G H (a.take n) (b.take n) (d.take n)
 |_,_,_,0,_=>by simpa using RpL.nil
 |_,_,_,n+1,.nil=>.nil
 |_,_,_,n+1,.cons r q=>.cons r (RpL.take n q)
theorem RpL.drop{G:Gx}{H:Hp}:∀{a:List V}{b:W5}{d:Xg}(n:Nat),RpL G H a b d->RpL G H (a.drop n) (b.drop n) (d.drop n)
 |_,_,_,0,q=>q
 |_,_,_,n+1,.nil=>.nil
 |_,_,_,n+1,.cons r q=>RpL.drop n q
def i4:Cell->T
 |.pu t=>t
 |.ow t=>t
abbrev GU:=Nat->X7
structure SR(G:Gx)(M:GU)(U:VS.Env)(J:L2.St)(H:Hp):Prop where
 len:U.length=J.length
 rp:∀i c,U[i]?=some (some c)->∃v,J[i]?=some (some v)/\Rp G H v (i4 c) (M i)
 nd:∀i t,U[i]?=some (some (.ow t))->(M i).Nodup
 sep:∀i j t c,U[i]?=some (some (.ow t))->U[j]?=some (some c)->i≠j->∀a∈M i,a∉M j
def dg(M:GU)(U:VS.Env)(a:KF):Prop:=∃j t,U[j]?=Z (Z (.pu t))/\a∈M j
def bU(M:GU)(U:VS.Env)(a:KF):Prop:=∃j t,U[j]?=Z (Z (.ow t))/\a∈M j
def Fp(M:GU)(U:VS.Env)(H:Hp):Md->X7->Prop
 |.fr,F=>F.Nodup/\∀a∈F,H a=L
 |.pu,F=>∀a∈F,H a=L\/dg M U a
 |.bo,F=>∀a∈F,H a=L\/dg M U a\/bU M U a
theorem SR.same{G:Gx}{M:GU}{U:VS.Env}{J:L2.St}{H a:Hp}(s:SR G M U J H)(e:aG H a):SR G M U J a :=
 ⟨s.len,λi c h=>let ⟨v,d,b⟩:=s.rp i c h;⟨v,d,b.same e⟩,s.nd,s.sep⟩
def SR.Iu{G:Gx}{M:GU}{U:VS.Env}{J:L2.St}{H:Hp}{a:KF}(s:SR G M U J H)(h:dg M U a):GV (H a):=by
 obtain⟨j,t,d,b⟩:=h;obtain⟨v,_,r⟩:=s.rp j _ d;exact r.G1 a b
def SR.Hg{G:Gx}{M:GU}{U:VS.Env}{J:L2.St}{H:Hp}{a:KF}(s:SR G M U J H)(h:bU M U a):GV (H a):=by
 obtain⟨j,t,d,b⟩:=h;obtain⟨v,_,r⟩:=s.rp j _ d;exact r.G1 a b
def Fp.nil{M:GU}{U:VS.Env}{H:Hp}{m:Md}:Fp M U H m []:=by
 cases m
 ·exact⟨Z5,λa h=>by simp at h⟩
 ·exact λa h=>by simp at h
 ·exact λa h=>by simp at h
theorem Fp.bo{M:GU}{U:VS.Env}{H:Hp}{F:X7}:∀{m:Md},Fp M U H m F->Fp M U H .bo F
 |.fr,h=>λa m=>.inl (h.2 a m)
 |.pu,h=>λa m=>(h a m).elim .inl λz=>.inr (.inl z)
 |.bo,h=>h
theorem Fp.pu{M:GU}{U:VS.Env}{H:Hp}{F:X7}:∀{m:Md},m ≠ .bo->Fp M U H m F->Fp M U H .pu F
 |.fr,_,h=>λa m=>.inl (h.2 a m)
 |.pu,_,h=>h
 |.bo,n,_=>absurd Y n
theorem Fp.back{M:GU}{U:VS.Env}{H b:Hp}(e:aG H b){F:X7}:∀{m:Md},Fp M U b m F->Fp M U H m F
 |.fr,h=>⟨h.1,λa m=>e.free (h.2 a m)⟩
 |.pu,h=>λa m=>(h a m).imp e.free id
 |.bo,h=>λa m=>(h a m).imp e.free id
theorem Fp.up{G:Gx}{M:GU}{U:VS.Env}{H a:Hp}{m:Md}{v:V}{t:T}{F:X7}(f:Fp M U H m F)(r:Rp G a v t F):Fp M U H (VS.up m t).1 F:=by
 unfold VS.up;by_cases h:VS.GR t=R
 ·rw[r.GR h];exact Fp.nil
 ·simp only[h,if_false,X5];exact f
def tE(G:Gx)(c:Ex):TE:=λJ H Q=>∃M U m r,SR G M U J H/\c U=Z (m,r)/\∀v a F,aG H a->Rp G a v r F->Fp M U H m F->Q v a
def PV(G:Gx)(X:Cx)(e:Expr)(c:Ex):Prop:=PE X e (tE G c)
def PE.weak{X:Cx}{e:Expr}{t b:TE}(h:PE X e t)(w:∀J H Q,b J H Q->t J H Q):PE X e b:=λa s J H Q I q=>h a s J H Q I (w J H Q q)
def PT.weak{X:Cx}{e:Expr}{t b:TT}(h:PT X e t)(w:∀J H Q,b J H Q->t J H Q):PT X e b:=λa s J H Q I q=>h a s J H Q I (w J H Q q)
def PA.weak{X:Cx}{e:List Expr}{t b:TA}(h:PA X e t)(w:∀J H Q,b J H Q->t J H Q):PA X e b:=λpos a s J H Q I q=>h pos a s J H Q I (w J H Q q)
def tT(G:Gx)(c:Ex):TT:=λJ H Q=>∃M U m r b,SR G M U J H/\c U=Z (m,r)/\Nb r=Z b/\∀a,aG H a->Q b a
def ID(G:Gx)(X:Cx)(e:Expr)(c:Ex):Prop:=PT X e (tT G c)
def HR(l:W3)(a:Xg):X7:=match l,a with
 |v :: l,F :: a=>match v.1 with
  |.fr=>F++HR l a
  |_=>HR l a
 |_,_=>[]
structure Lf(M:GU)(U:VS.Env)(H:Hp)(l:W3)(Fs:Xg):Prop where
 each:∀(i:Nat) v F,l[i]?=some v->Fs[i]?=some F->Fp M U H v.1 F
 nd:(HR l Fs).Nodup
def Nd(G:Gx)(c:Hf):TA:=λJ H Q=>∃M U l,SR G M U J H/\c U=Z l/\∀b a d,aG H a->RpL G a b (trees l) d->Lf M U H l d->Q b a
def HM(G:Gx)(X:Cx)(a:List Expr)(c:Hf):Prop:=PA X a (Nd G c)
section
variable{G:Gx}{X:Cx}{a b c:Expr}{ca cb cc:Ex}{pos:Pos}
def aj{i j pos}:PV G X (.Constant (.int i) j pos) (Q2 i):=PE.weak pC λJ H Q d=>by
 obtain⟨M,U,m,r,s,e,k⟩:=d;cases (show Z (Md.fr,T.int i)=Z (m,r) from e);exact k _ _ _ (aG.refl _) (.int i) Fp.nil
def nh{i j pos}:PV G X (.Constant (.bool i) j pos) (eC (.bl i)):=PE.weak FF λJ H Q d=>by
 obtain⟨M,U,m,r,s,e,k⟩:=d;cases (show Z (Md.fr,T.bl i)=Z (m,r) from e);exact k _ _ _ (aG.refl _) (.bl i) Fp.nil
def qM{j pos}:PV G X (.Constant .none j pos) (eC .non):=PE.weak DX λJ H Q d=>by
 obtain⟨M,U,m,r,s,e,k⟩:=d;cases (show Z (Md.fr,T.non)=Z (m,r) from e);exact k _ _ _ (aG.refl _) .non Fp.nil
def lI{x:Str}{t:Tx}{j pos}(h:x=sx t:=by decide +kernel)(f:pH t:=by decide):PV G X (.Constant (.str x) j pos) (eC (.str t)):=PE.weak C4 λJ H Q d=>by
 obtain⟨M,U,m,r,s,e,k⟩:=d;cases (show Z (Md.fr,T.str t)=Z (m,r) from e);subst h;exact k _ _ _ (aG.refl _) (.str t f) Fp.nil
def eR(i:Nat){x:Str}{g:Pos}(w:X.N[i]?=Z x:=by rfl)(p:IJ X.env.scope x:=by first | exact Or.inl Y | exact Or.inr (Or.inl Y) | exact Or.inr (Or.inr Y))(u:K3 x:=by decide)(j:K4 x:=by decide):PV G X (.Name x g) (aa i):=PE.weak (fK w p u j) λJ H Q q=>by
 obtain⟨M,U,m,r,s,e,k⟩:=q;unfold aa at e;split at e
 ·rename_i t h;obtain⟨v,n,d⟩:=s.rp _ _ h;have o:VS.up .pu t=(m,r):=Zn e;have y:t=r:=congrArg Prod.snd o;have em:(VS.up .pu t).1=m:=congrArg Prod.fst o;rw[← y,← em]at k;refine⟨v,n,k v H (M i) (aG.refl _) d ?_⟩;have f:Fp M U H .pu (M i):=λa l=>.inr ⟨i,_,h,l⟩;exact f.up d
 ·rename_i t h;obtain⟨v,n,d⟩:=s.rp _ _ h;cases e;exact⟨v,n,k v H (M i) (aG.refl _) d λa l=>.inr (.inr ⟨i,_,h,l⟩)⟩
 ·cases e
def Bq{x:Str}{u:KM}{v:V}{t:T}{d:Pos}(j:Gl X x)(i:X.mg x=Z u)(r:RelV v u)(g:∀H,Rp G H v t [])(l:K3 x:=by decide):PV G X (.Name x d) (eC t) :=
 PE.weak (AI j i r l) λJ H Q h=>by
  obtain⟨M,U,m,f,s,e,k⟩:=h;cases (show Z (Md.fr,t)=Z (m,f) from e);exact k _ _ _ (aG.refl _) (g H) Fp.nil
structure OF(G:Gx)(M:GU)(U:VS.Env)(H0 H:Hp)(x y:Val)(u w:V)(F1 F2:X7):Prop where
 same:aG H0 H
 r1:Rp G H u x.2 F1
 r2:Rp G H w y.2 F2
 f1:Fp M U H0 x.1 F1
 f2:Fp M U H0 y.1 F2
 nd:x.1=.fr->y.1=.fr->(F1++F2).Nodup
def fF(G:Gx)(r:R2)(f:Val->Val->W4):Prop:=∀(M:GU)(U:VS.Env)(e H:Hp)(x y:Val)(u w:V)(h g:X7)(m:Md)(t:T)(Q:VK),OF G M U e H x y u w h g->f x y=Z (m,t) →
 (∀v d F,aG H d->Rp G d v t F->Fp M U e m F->Q v d)->r u w H Q
def zR{J:L2.St}{H:Hp}{Q:V->V->Hp->Prop}{M:GU}{U:VS.Env}{x y:Val}(s:SR G M U J H)(m:ca U=Z x)(l:cb U=Z y)(k:∀u w d f e,OF G M U H d x y u w f e->Q u w d):tE G ca J H λu g=>tE G cb J g λw d=>Q u w d:=by
 refine⟨M,U,x.1,x.2,s,m,λu g f e1 r1 f1=>⟨M,U,y.1,y.2,s.same e1,l,λw d e e2 r2 f2=>k u w d f e ⟨e1.trans e2,r1.same e2,r2,f1,f2.back e1,λi h=>?_⟩⟩⟩;rw[i]at f1;rw[h]at f2;refine ZP.mpr ⟨f1.1,f2.1,λa j b hb z=>?_⟩;subst z;exact GV.jj (r1.G1 a j) (f2.2 a hb)
def lD{r:R2}{f:Val->Val->W4}(g:fF G r f){J:L2.St}{H:Hp}{Q:VK}(h:tE G (e2 f ca cb) J H Q):Nc r (tE G ca) (tE G cb) J H Q:=by
 obtain⟨M,U,m,t,s,e,k⟩:=h;unfold e2 at e;obtain⟨x,j,e⟩:=Zz.mp e;obtain⟨y,i,e⟩:=Zz.mp e;exact zR s j i λu w l p o d=>g M U H l x y u w p o m t Q d e λv n F e1 r1 f1=>k v n F (d.same.trans e1) r1 f1
def i7{d:Operator}{r:R2}{f:Val->Val->W4}(g:OpR X (binaryOp d) r)(e:fF G r f)(j:PV G X a ca)(i:PV G X b cb):PV G X (.BinOp a d b pos) (e2 f ca cb) :=
 PE.weak (zb g j i) λJ H Q h=>lD e h
def pA{d:CmpOp}{r:R2}{f:Val->Val->W4}(g:OpR X (SC d) r)(e:fF G r f)(l:PV G X a ca)(j:PV G X b cb)(i:behindInMarks d b=B):PV G X (.Compare a [d] [b] pos) (e2 f ca cb) :=
 PE.weak (A2 g l j i) λJ H Q h=>lD e h
def Tells(f:Val->Val->W4):Prop:=∀x y m t,f x y=Z (m,t)->∃b,t=.bl b
def Rp.Ht{H:Hp}{v:V}{b:Bool}{F:X7}(r:Rp G H v (.bl b) F):v=.bl b:=by cases r;rfl
def Rp.int_inv{H:Hp}{v:V}{b:Int}{F:X7}(r:Rp G H v (.int b) F):v=.int b:=by cases r;rfl
def Rp.str_inv{H:Hp}{v:V}{b:Tx}{F:X7}(r:Rp G H v (.str b) F):v=.str (sx b)/\pH b:=by cases r with | str _ h=>exact⟨rfl,h⟩
def nH{c:Ex}{t:TE}{J:L2.St}{H:Hp}{Q:Bool->Hp->Prop}(h:tT G c J H Q)(f:∀U m r,c U=Z (m,r)->∃b,r=.bl b)(w:∀Q,tE G c J H Q->t J H Q):yt t J H Q:=by
 obtain⟨M,U,m,r,b,s,e,d,k⟩:=h;refine w _ ⟨M,U,m,r,s,e,λv j F e1 r1 f1=>?_⟩;obtain⟨i,g⟩:=f U m r e;rw[g]at d r1;cases (show Z i=Z b from d);exact⟨_,r1.Ht,k j e1⟩
def iG{d:CmpOp}{r:R2}{f:Val->Val->W4}(j:OpR X (SC d) r)(g:fF G r f)(i:Tells f)(o:PV G X a ca)(n:PV G X b cb)(l:behindInMarks d b=B):ID G X (.Compare a [d] [b] pos) (e2 f ca cb) :=
 PT.weak (u7 j o n l) λJ H Q h=>nH h (λU m r e=>by
  unfold e2 at e;obtain⟨x,_,e⟩:=Zz.mp e;obtain⟨y,_,e⟩:=Zz.mp e;exact i x y m r e) λQ h=>lD g h
def bF{M:GU}{U:VS.Env}{e H:Hp}{m:Md}{t:T}{v:V}{Q:VK}(k:∀v d F,aG H d->Rp G d v t F->Fp M U e m F->Q v d)(r:Rp G H v t []):Q v H:=k v H [] (aG.refl _) r Fp.nil
def bD{H:Hp}{p:KF}{o:HO}(h:H p=L):aG H (upd H p o):=λb d e=>by rw[aC (eZ e h)];exact e
theorem Fp.new{M:GU}{U:VS.Env}{g:Hp}{p:KF}{F:X7}(d:g p=L)(h:p∉F):∀{m:Md},Fp M U g m F->Fp M U g m (p :: F)
 |.fr,f=>⟨Zf.mpr ⟨h,f.1⟩,λa m=>(Zi.mp m).elim (λe=>by rw[e];exact d) (f.2 a)⟩
 |.pu,f=>λa m=>(Zi.mp m).elim (λe=>by rw[e];exact .inl d) (f a)
 |.bo,f=>λa m=>(Zi.mp m).elim (λe=>by rw[e];exact .inl d) (f a)
def qB{d m:Md}{l:W5}{t:T}(e:Jz d l=Z (m,t)):t=.lst l/\l.length<=eY/\m=(if d6 l then .fr else d):=by
 unfold Jz at e;split at e
 ·rename_i h;cases e;exact⟨rfl,h,rfl⟩
 ·cases e
def jy{M:GU}{U:VS.Env}{i H:Hp}{q m:Md}{l:W5}{t:T}{o:List V}{n:Xg}{Q:VK}(d:aG i H)(e:Jz q l=Z (m,t))(r:RpL G H o l n)(f:Fp M U i q n.flatten)(k:∀v j F,aG H j->Rp G j v t F->Fp M U i m F->Q v j):∀p,H p=L->Q (.ref p) (upd H p (.lst o)):=by
 intro p g;obtain⟨rfl,s,rfl⟩:=qB e;refine k _ _ _ (bD g) (.lst aw (r.same (bD g))) ?_;have np:p∉n.flatten:=λm=>GV.jj (r.G1 p m) g;by_cases h:d6 l=R
 ·rw[h,Zq Y];rw[r.GR h]at np ⊢;exact Fp.nil.new (d.free g) np
 ·rw[Zp h];exact f.new (d.free g) np
theorem OF.join{M:GU}{U:VS.Env}{h H:Hp}{x y:Val}{u w:V}{f e:X7}(i:OF G M U h H x y u w f e){F:X7}(g:F.Sublist (f++e)):Fp M U h (x.1.join y.1) F:=by
 obtain⟨same,r1,r2,f1,f2,nd⟩:=i;have split:∀a∈F,a∈f\/a∈e:=λa d=>ZY.mp (g.subset d);obtain⟨l,x⟩:=x;obtain⟨j,y⟩:=y;have both:∀{P:KF->Prop},(∀a∈f,P a)->(∀a∈e,P a)->∀a∈F,P a:=λn m a d=>(split a d).elim (n a) (m a);cases l<;>cases j
 ·exact⟨(nd Y Y).sublist g,both f1.2 f2.2⟩
 ·exact both (λa d=>.inl (f1.2 a d)) f2
 ·exact both (λa d=>.inl (f1.2 a d)) f2
 ·exact both f1 (λa d=>.inl (f2.2 a d))
 ·exact both f1 f2
 ·exact both (f1.bo) f2
 ·exact both f1 (λa d=>.inl (f2.2 a d))
 ·exact both f1 (f2.bo)
 ·exact both f1 f2
def fA:eY=sizeLine:=rfl
def dB(s:Tx):(sx s).length=s.length:=rfl
def DE(s t:Tx):sx s++sx t=sx (s++t):=by
 show Str.append (sx s) (sx t)=_;simp[sx,Str.append]
def Rp.lst_inv{H:Hp}{v:V}{l:W5}{F:X7}(r:Rp G H v (.lst l) F):∃a d e,v=.ref a/\F=a :: e.flatten/\H a=Z (.lst d)/\RpL G H d l e:=by
 cases r with
 |lst h q=>exact⟨_,_,_,rfl,rfl,h,q⟩
def Rp.Ij{H:Hp}{v:V}{l:W5}{F:X7}(r:Rp G H v (.tup l) F):∃a d e,v=.ref a/\F=e.flatten/\H a=Z (.tup d)/\RpL G H d l e:=by
 cases r with
 |tup h q=>exact⟨_,_,_,rfl,rfl,h,q⟩
def Rp.Lo{H:Hp}{v:V}{l:Wb}{F:X7}(r:Rp G H v (.scr l) F):∃a,v=.ref a/\F=[]/\l7 G.K H a l:=by
 cases r with
 |scr h=>exact⟨_,rfl,rfl,h⟩
end
section
variable{G:Gx}{X:Cx}
def E8:R2:=λx y H Q=>JP (λi j=>.int (i+j)) x y H Q\/(∃i j,x=.str i/\y=.str j/\i.length+j.length<=KB/\Q (.str (i++j)) H)\/FZ x y H Q
def qm:OpR X (binaryOp .Add) E8:=CT.or (uB.or CU)
def xO:fF G E8 ba:=by
 intro M U E H x y u w A z m t Q f e k;have q:=λ{F:X7} (h:List.Sublist F (A++z))=>f.join h;obtain⟨D,x⟩:=x;obtain⟨C,y⟩:=y;obtain⟨same,r1,r2,f1,f2,nd⟩:=f;unfold ba at e;split at e
 ·rename_i i _ j e1 e2;cases e1;cases e2;cases e;exact .inl ⟨_,_,r1.int_inv,r2.int_inv,bF k (.int _)⟩
 ·rename_i s _ p e1 e2;cases e1;cases e2;split at e
  ·rename_i d;cases e;refine .inr (.inl ⟨_,_,r1.str_inv.1,r2.str_inv.1,by rw[dB,dB,← fA];exact d,?_⟩);rw[DE];exact bF k (.str _ ⟨by rw[Zv];exact d,λc r=>(ZY.mp r).elim (r1.str_inv.2.2 c) (r2.str_inv.2.2 c)⟩)
  ·cases e
 ·rename_i s _ p e1 e2;cases e1;cases e2;obtain⟨a,n,N,rfl,rfl,v,l⟩:=r1.lst_inv;obtain⟨b,o,J,rfl,rfl,hb,g⟩:=r2.lst_inv;obtain⟨_,d,_⟩:=qB e;refine .inr (.inr ⟨a,b,n,o,rfl,rfl,v,hb,?_,jy same e (l.append g) (q ?_) k⟩)
  ·rw[Zv]at d;rw[l.len.1,g.len.1,← fA];exact d
  ·rw[Z7];exact(Yu _ _).append (Yu _ _)
 ·cases e
def pE:fF G (JP λi j=>.int (i-j)) oG:=by
 intro M U f H x y u w h g m t Q a e k;obtain⟨d,x⟩:=x;obtain⟨b,y⟩:=y;obtain⟨same,r1,r2,f1,f2,nd⟩:=a;unfold oG at e;split at e
 ·rename_i e1 e2;cases e1;cases e2;cases e;exact⟨_,_,r1.int_inv,r2.int_inv,bF k (.int _)⟩
 ·cases e
def mF:fF G (rI E6 λi j=>.int (i/j)) jK:=by
 intro M U f H x y u w l g m t Q a e k;obtain⟨d,x⟩:=x;obtain⟨b,y⟩:=y;obtain⟨same,r1,r2,f1,f2,nd⟩:=a;unfold jK at e;split at e
 ·rename_i e1 e2;cases e1;cases e2;split at e
  ·rename_i h;cases e;exact⟨_,_,r1.int_inv,r2.int_inv,h,bF k (.int _)⟩
  ·cases e
 ·cases e
def Eg:fF G (rI (λ_ j=>0<j) λi j=>.int (i%j)) oMod:=by
 intro M U f H x y u w l g m t Q a e k;obtain⟨d,x⟩:=x;obtain⟨b,y⟩:=y;obtain⟨same,r1,r2,f1,f2,nd⟩:=a;unfold oMod at e;split at e
 ·rename_i e1 e2;cases e1;cases e2;split at e
  ·rename_i h;cases e;exact⟨_,_,r1.int_inv,r2.int_inv,h,bF k (.int _)⟩
  ·cases e
 ·cases e
theorem oi:∀(s t:Tx),Kk s t=decide (s<t)
 |[],[]=>by simp[Kk]
 |[],_ :: _=>by simp[Kk]
 |_ :: _,[]=>by simp[Kk]
 |a :: s,b :: t=>by
  unfold Kk;rw[oi s t];by_cases e:a<b
  ·simp[e,Xm]
  ·by_cases d:b<a
   ·have:¬a=b:=by exact X9 d
    simp[e,d,Xm,this]
   ·have:a=b:=by lia
    subst this;simp[Xm]
def Sh:R2:=λx y H Q=>JP (λi j=>.bl (decide (i<j))) x y H Q\/(∃i j,x=.str i/\y=.str j/\Q (.bl (decide (i.cps.toList<j.cps.toList))) H)
def nW:OpR X (SC .Lt) Sh:=FP.or wJ
def sG:fF G Sh oLt:=by
 intro M U g H x y u w i h m t Q b e k;obtain⟨f,x⟩:=x;obtain⟨d,y⟩:=y;obtain⟨same,r1,r2,f1,f2,nd⟩:=b;unfold oLt at e;split at e
 ·rename_i e1 e2;cases e1;cases e2;cases e;exact .inl ⟨_,_,r1.int_inv,r2.int_inv,bF k (.bl _)⟩
 ·rename_i s _ a e1 e2;cases e1;cases e2;cases e;refine .inr ⟨_,_,r1.str_inv.1,r2.str_inv.1,?_⟩;have:decide ((sx s).cps.toList<(sx a).cps.toList)=Kk s a:=by rw[oi];exact decide_eq_decide.mpr (by simp[sx])
  rw[this];exact bF k (.bl _)
 ·cases e
def kG:Tells oLt:=by
 intro x y m t e;unfold oLt at e;split at e<;>first | (cases e;exact⟨_,rfl⟩) | cases e
def D4:OL=2 ^ 64:=rfl
def CP:fF G (rI Bd λi j=>.int (i*j)) gH:=by
 intro M U f H x y u w l g m t Q a e k;obtain⟨d,x⟩:=x;obtain⟨b,y⟩:=y;obtain⟨same,r1,r2,f1,f2,nd⟩:=a;unfold gH at e;split at e
 ·rename_i e1 e2;cases e1;cases e2;split at e
  ·rename_i h;cases e;refine⟨_,_,r1.int_inv,r2.int_inv,?_,bF k (.int _)⟩;rw[D4]at h;exact h
  ·cases e
 ·cases e
def wu:OpR X (SC .LtE) (λx y H Q=>∃i j,x=.str i/\y=.str j/\Q (.bl (!decide (j.cps.toList<i.cps.toList))) H):=by
 intro a s J H x y v u Q I d b h;obtain⟨i,j,rfl,rfl,q⟩:=h;obtain⟨t,rfl⟩:=d;obtain⟨e,rfl⟩:=b;exact PySem.P.le_str ⟨.bl _,H,I,rfl,q⟩
def Si:R2:=λx y H Q=>JP (λi j=>.bl (decide (i<=j))) x y H Q\/(∃i j,x=.str i/\y=.str j/\Q (.bl (!decide (j.cps.toList<i.cps.toList))) H)
def wY:OpR X (SC .LtE) Si:=Er.or wu
def B3:fF G Si oLe:=by
 intro M U g H x y u w i h m t Q b e k;obtain⟨f,x⟩:=x;obtain⟨d,y⟩:=y;obtain⟨same,r1,r2,f1,f2,nd⟩:=b;unfold oLe at e;split at e
 ·rename_i e1 e2;cases e1;cases e2;cases e;exact .inl ⟨_,_,r1.int_inv,r2.int_inv,bF k (.bl _)⟩
 ·rename_i s _ a e1 e2;cases e1;cases e2;cases e;refine .inr ⟨_,_,r1.str_inv.1,r2.str_inv.1,?_⟩;have:decide ((sx a).cps.toList<(sx s).cps.toList)=Kk a s:=by rw[oi];exact decide_eq_decide.mpr (by simp[sx])
  rw[this];exact bF k (.bl _)
 ·cases e
def ye:Tells oLe:=by
 intro x y m t e;unfold oLe at e;split at e<;>first | (cases e;exact⟨_,rfl⟩) | cases e
def tq{n:Nat}{i:Int}:HI n i=Mz n i:=by
 unfold HI Mz;by_cases h:0<=i
 ·rw[Zq h,Zq h]
 ·rw[Zp h,Zp h];by_cases a:0<=i+n
  ·rw[Zq a,Zq (by lia)]
  ·rw[Zp a,Zp (by lia)]
def jO{α:Type}{l:List α}{i:Int}{k:Nat}{x:α}(b:HI l.length i=Z k)(a:l[k]?=Z x):M6 l i=Z x:=by
 unfold M6;rw[← tq,b];exact a
def cJ{a:Xg}{F:X7}{i:Nat}(h:a[i]?=Z F):F.Sublist a.flatten:=by
 obtain⟨b,rfl⟩:=Zh.mp h;exact List.sublist_flatten_of_mem (Yy b)
theorem Fp.sub{M:GU}{U:VS.Env}{H:Hp}{F d:X7}(h:F.Sublist d):∀{m:Md},Fp M U H m d->Fp M U H m F
 |.fr,f=>⟨f.1.sublist h,λa b=>f.2 a (h.subset b)⟩
 |.pu,f=>λa b=>f a (h.subset b)
 |.bo,f=>λa b=>f a (h.subset b)
def uy:fF G (PL G.K) aB:=by
 intro M U O H x y u w S P m t Q C e k;obtain⟨N,x⟩:=x;obtain⟨J,y⟩:=y;obtain⟨same,r1,r2,f1,f2,nd⟩:=C;unfold aB at e;split at e
 ·rename_i p l o i e1 e2;cases e1;cases e2;obtain⟨j,d,e⟩:=Zz.mp e;obtain⟨x,b,e⟩:=Zy.mp e;obtain⟨a,n,E,rfl,rfl,q,h⟩:=r1.lst_inv;obtain⟨v,F,s,r,g⟩:=h.get j b;refine .inl ⟨a,n,i,v,rfl,r2.int_inv,G5.of q,jO (by rw[h.len.1];exact d) s,?_⟩;have f:=((f1.sub (Yu _ _)).sub (cJ r)).up g;unfold VS.sub at e;rw[e]at f;have z:x=t:=congrArg Prod.snd e;rw[z]at g;exact k v H F (aG.refl _) g f
 ·rename_i p l o i e1 e2;cases e1;cases e2;obtain⟨j,d,e⟩:=Zz.mp e;obtain⟨x,b,e⟩:=Zy.mp e;obtain⟨a,n,E,rfl,rfl,q,h⟩:=r1.Ij;obtain⟨v,F,s,r,g⟩:=h.get j b;refine .inr (.inl ⟨a,n,i,v,rfl,r2.int_inv,HS.of q,jO (by rw[h.len.1];exact d) s,?_⟩);have f:=(f1.sub (cJ r)).up g;unfold VS.sub at e;rw[e]at f;have z:x=t:=congrArg Prod.snd e;rw[z]at g;exact k v H F (aG.refl _) g f
 ·rename_i p l o i e1 e2;cases e1;cases e2;obtain⟨j,d,e⟩:=Zz.mp e;obtain⟨x,b,e⟩:=Zy.mp e;cases e;obtain⟨a,rfl,rfl,sa⟩:=r1.Lo;refine .inl ⟨a,l.map V.int,i,.int x,rfl,r2.int_inv,sa.seq,jO (by rw[Zw];exact d) (by rw[ZS,b];rfl),bF k (.int _)⟩
 ·rename_i p l o i e1 e2;cases e1;cases e2;obtain⟨j,d,e⟩:=Zz.mp e;obtain⟨x,b,e⟩:=Zy.mp e;cases e;obtain⟨rfl,A⟩:=r1.str_inv;refine .inr (.inr ⟨sx l,i,x,rfl,r2.int_inv,by rw[dB,← fA];exact A.1,jO (k:=j) (by simpa[sx] using d) (by simpa[sx] using b),?_⟩);exact bF k (.str [x] ⟨by show 1<=eY;decide,λc D=>by rw[Zb.mp D];exact A.2 x (Yj b)⟩)
 ·cases e
end
section
variable{G:Gx}{X:Cx}{a b c e:Expr}{es:List Expr}{ca cb cc:Ex}{cs:Hf}{pos p:Pos}
theorem vO{x:KF}:∀{l:W3}{d:Xg},x∈HR l d->∃(i:Nat)(v:Val)(F:X7),l[i]?=Z v/\v.1=.fr/\d[i]?=Z F/\x∈F
 |[],_,h=>by simp[HR]at h
 |_ :: _,[],h=>by simp[HR]at h
 |v :: l,F :: d,h=>by
  have go:x∈HR l d->∃(i:Nat)(u:Val)(f:X7),(v :: l)[i]?=Z u/\u.1=.fr/\(F :: d)[i]?=Z f/\x∈f:=λm=>by
   obtain⟨i,u,f,q,o,n,j⟩:=vO m;exact⟨i+1,u,f,by simpa using q,o,by simpa using n,j⟩
  unfold HR at h;split at h
  ·rename_i g;rcases ZY.mp h with h | h
   ·exact⟨0,v,F,rfl,g,rfl,h⟩
   ·exact go h
  ·exact go h
def ag:HM G X [] ah:=PA.weak fO λJ H Q d=>by
 obtain⟨M,U,l,s,e,k⟩:=d;cases (show Z ([]:W3)=Z l from e);exact k [] H [] (aG.refl _) .nil ⟨λi v F h=>by simp at h,by simp[HR]⟩
def ae(C:PV G X e ca)(w:HM G X es cs)(t:K1 e es X:=by rfl):HM G X (e :: es) (ab ca cs):=PA.weak (cA C w t) λJ H Q A=>by
 obtain⟨M,U,l,s,e,k⟩:=A;unfold ab at e;obtain⟨x,O,e⟩:=Zz.mp e;obtain⟨j,N,e⟩:=Zz.mp e;cases e;refine⟨M,U,x.1,x.2,s,O,λv Y F e1 r1 f1=>⟨M,U,j,s.same e1,N,λm P S e2 r2 f2=>k (v :: m) P (F :: S) (e1.trans e2) (.cons (r1.same e2) r2) ⟨λi u h g d=>?_,?_⟩⟩⟩
 ·cases i with
  |zero =>
   cases (show Z x=Z u from g);cases (show Z F=Z h from d);exact f1
  |succ i=>exact(f2.each i u h (by simpa using g) (by simpa using d)).back e1
 ·unfold HR;split
  ·rename_i r;rw[r]at f1;refine ZP.mpr ⟨f1.1,f2.nd,λy o z n q=>?_⟩;subst q;obtain⟨i,u,h,g,d,E,D⟩:=vO n;have f:=f2.each i u h g E;rw[d]at f;exact GV.jj (r1.G1 y o) (f.2 y D)
  ·exact f2.nd
theorem ku:∀{l:W3},cK l=.fr->∀v∈l,v.1=.fr
 |[],_,v,h=>by simp at h
 | (m,t) :: r,e,v,h=>by
  have d:m.join (cK r)=.fr:=e;have g:m=.fr:=by
   revert d;cases m<;>cases cK r<;>simp[Md.join]
  have f:cK r=.fr:=by
   revert d;cases m<;>cases cK r<;>simp[Md.join]
  rcases Zi.mp h with rfl | h
  ·exact g
  ·exact ku f v h
theorem kX:∀{l:W3},cK l ≠ .bo->∀v∈l,v.1 ≠ .bo
 |[],_,v,h=>by simp at h
 | (m,t) :: r,e,v,h=>by
  have d:m.join (cK r) ≠ .bo:=e;have g:m ≠ .bo:=by
   revert d;cases m<;>cases cK r<;>simp[Md.join]
  have f:cK r ≠ .bo:=by
   revert d;cases m<;>cases cK r<;>simp[Md.join]
  rcases Zi.mp h with rfl | h
  ·exact g
  ·exact kX f v h
theorem uR:∀{l:W3}{d:Xg},l.length=d.length->(∀v∈l,v.1=.fr)->HR l d=d.flatten
 |[],[],_,_=>rfl
 |[],_ :: _,h,_=>by simp at h
 |_ :: _,[],h,_=>by simp at h
 |v :: l,F :: d,h,q=>by
  unfold HR;rw[q v Zt,uR (by simpa using h) λu f=>q u (Zu _ f)];rfl
def gB{x:KF}{d:Xg}(h:x∈d.flatten):∃(i:Nat)(F:X7),d[i]?=Z F/\x∈F:=by
 obtain⟨F,j,f⟩:=Wj.mp h;obtain⟨i,g⟩:=List.mem_iff_getElem?.mp j;exact⟨i,F,g,f⟩
def Lf.join{M:GU}{U:VS.Env}{H:Hp}{l:W3}{j:Xg}(f:Lf M U H l j)(n:l.length=j.length):Fp M U H (cK l) j.flatten:=by
 have at':∀x∈j.flatten,∃v F,v∈l/\x∈F/\Fp M U H v.1 F:=λx d=>by
  obtain⟨i,F,m,g⟩:=gB d;have:i<l.length:=by
   have:=(Zh.mp m).1;lia
  exact⟨l[i],F,Yy this,g,f.each i _ F (Zr this) m⟩
 cases e:cK l with
 |fr =>
  have al:=ku e;refine⟨by rw[← uR n al];exact f.nd,λx d=>?_⟩;obtain⟨v,F,h,g,q⟩:=at' x d;rw[al v h]at q;exact q.2 x g
 |pu =>
  have al:=kX (l:=l) (by rw[e];decide);intro x d;obtain⟨v,F,h,g,q⟩:=at' x d;exact Fp.pu (al v h) q x g
 |bo =>
  intro x d;obtain⟨v,F,h,g,q⟩:=at' x d;exact q.bo x g
structure Args(G:Gx)(M:GU)(U:VS.Env)(H0 H:Hp)(l:W3)(vs:List V)(Fs:Xg):Prop where
 same:aG H0 H
 rp:RpL G H vs (trees l) Fs
 fp:Lf M U H0 l Fs
theorem Args.len{M:GU}{U:VS.Env}{g H:Hp}{l:W3}{f:List V}{d:Xg}(A:Args G M U g H l f d):l.length=d.length:=by
 have:=A.rp.len.2;simp[trees]at this;exact Eq.symm this
def fP(G:Gx)(r:List V->Hp->VK->Prop)(f:W3->W4):Prop:=∀(M:GU)(U:VS.Env)(h H:Hp)(l:W3)(g:List V)(i:Xg)(m:Md)(t:T)(Q:VK),Args G M U h H l g i->f l=Z (m,t) →
 (∀v d F,aG H d->Rp G d v t F->Fp M U h m F->Q v d)->r g H Q
def BZ{r:List V->Hp->VK->Prop}{f:W3->W4}(h:fP G r f){J:L2.St}{H:Hp}{Q:VK}{U:VS.Env}{M:GU}{l:W3}{m:Md}{t:T}(s:SR G M U J H)(i:cs U=Z l)(e:f l=Z (m,t))(k:∀v d F,aG H d->Rp G d v t F->Fp M U H m F->Q v d):Nd G cs J H λg n=>r g n Q :=
 ⟨M,U,l,s,i,λg d o e1 r1 f1=>h M U H d l g o m t Q ⟨e1,r1,f1⟩ e λv j F e2 r2 f2=>k v j F (e1.trans e2) r2 f2⟩
def km{r:List V->Hp->VK->Prop}{f:W3->W4}{d:String}{x:Str}(q:dX X (.builtin d) r)(g:fP G r f)(o:Gl X x)(n:X.mg x=L)(h:bootBuiltins x=Z (.builtin d))(u:HM G X (e :: es) cs)(j:x ≠ "__name__" := by decide)(w:K3 x:=by decide)(he:K1 e es X:=by rfl)(hpl:K2 pos es X:=by rfl):PV G X (.Call (.Name x p) (e :: es) [] pos) (eN f cs) :=
 PE.weak (mW q o n h u j w he hpl) λJ H Q i=>by
  obtain⟨M,U,m,t,s,e,k⟩:=i;unfold eN at e;obtain⟨l,v,e⟩:=Zz.mp e;exact BZ g s v e k
def jC{r:List V->Hp->VK->Prop}{f:W3->W4}{Ty:String}{x:Str}(o:dX X (.type Ty) r)(d:fP G r f)(n:Gl X x)(j:X.mg x=L)(g:bootBuiltins x=Z (.type Ty))(q:HM G X (e :: es) cs)(i:x ≠ "__name__" := by decide)(v:K3 x:=by decide)(he:K1 e es X:=by rfl)(hpl:K2 pos es X:=by rfl):PV G X (.Call (.Name x p) (e :: es) [] pos) (eN f cs) :=
 PE.weak (v8 o n j g q i v he hpl) λJ H Q h=>by
  obtain⟨M,U,m,t,s,e,k⟩:=h;unfold eN at e;obtain⟨l,u,e⟩:=Zz.mp e;exact BZ d s u e k
def cI(h:HM G X es cs):PV G X (.List es pos) (dk cs):=PE.weak (xj h) λJ H Q f=>by
 obtain⟨M,U,m,t,s,e,k⟩:=f;unfold dk at e;obtain⟨l,i,e⟩:=Zz.mp e;refine⟨M,U,l,s,i,λd n o e1 r1 f1=>?_⟩;have A:Args G M U H n l d o:=⟨e1,r1,f1⟩
 obtain⟨_,g,_⟩:=qB e;refine⟨by rw[r1.len.1,← fA];exact g,jy e1 e r1 (f1.join A.len) λv j F e2 r2 f2=>k v j F (e1.trans e2) r2 f2⟩
def lK{x1}(h:HM G X es cs):PV G X (.Tuple es x1 pos) (mR cs):=PE.weak (D9 h) λJ H Q d=>by
 obtain⟨M,U,m,t,s,e,k⟩:=d;unfold mR at e;obtain⟨l,n,e⟩:=Zz.mp e;refine⟨M,U,l,s,n,λf g i e1 r1 f1=>?_⟩;have A:Args G M U H g l f i:=⟨e1,r1,f1⟩
 unfold sL at e;split at e
 ·rename_i j;cases e;refine⟨by rw[r1.len.1,← fA,trees,Zw];exact j,λq d=>?_⟩;have r2:Rp G (upd g q (.tup f)) (.ref q) (.tup (trees l)) i.flatten:=.tup aw (r1.same (bD d));exact k _ _ _ (e1.trans (bD d)) r2 (Fp.up (f1.join A.len) r2)
 ·cases e
def Ax{H:Hp}{v:V}{t:T}{F:X7}{k:Bool}(r:Rp G H v t F)(h:Nb t=Z k):Cr G.K v H k:=by
 cases r with
 |non=>cases h;rfl
 |bl b=>cases h;rfl
 |int i=>cases h;rfl
 |str s j =>
  cases h;refine⟨by rw[dB,← fA];exact j.1,?_⟩;rw[dB];cases s with
  |nil=>rfl
  |cons a r =>
   have:((List.length (a :: r):Int) != 0)=R:=by simp;lia
   rw[this];rfl
 |scr d=>cases h
 |tup d q =>
  cases h;refine .inr (.inl ⟨_,HS.of d,?_⟩);have:=q.len.1;rename_i f g _;cases f<;>cases g<;>simp_all
 |lst d q =>
  cases h;refine .inl ⟨_,G5.of d,?_⟩;have:=q.len.1;rename_i f g _;cases f<;>cases g<;>simp_all
 |dct d j q =>
  cases h;refine .inr (.inr ⟨_,d,?_⟩);have:=q.len.1;rename_i l f g _;cases l<;>cases f<;>cases g<;>simp_all
 |dctT d j q=>cases h
 |dctN d j n q=>cases h
 |dctZ _ _ _=>cases h
 |exc _ _=>cases h
 |ins _ _ _ _=>cases h
 |mk _ _=>cases h
def pY(h:PV G X a ca)(f:X.K=G.K:=by rfl)(d:∀whole,isTrue a X.env whole=(do let v ← whole;standAt a.pos;holding [v] (truthy v)):=by intro _;rfl):ID G X a ca :=
 PT.weak (yY h d) λJ H Q ⟨M,U,m,r,b,s,e,g,k⟩=>⟨M,U,m,r,s,e,λv i F e1 r1 f1=>⟨b,by rw[f];exact Ax r1 g,k i e1⟩⟩
def Ke(G:Gx)(X:Cx)(e:Expr)(c:Ex):Prop:=PW X e (tT G c)
def PW.weak{X:Cx}{e:Expr}{t f:TT}(h:PW X e t)(w:∀J H Q,f J H Q->t J H Q):PW X e f:=λg d s J H Q I q=>h g d s J H Q I (w J H Q q)
def Ke.Mo(h:Ke G X e ca):ID G X e ca:=PW.pt h
variable{rest:List Expr}
def sI{U:VS.Env}{m:Md}{r:T}(e:g8 ca cb U=Z (m,r)):(∃n,ca U=Z (n,.bl R)/\cb U=Z (m,r))\/(∃n,ca U=Z (n,.bl B)/\m=.fr/\r=.bl B):=by
 unfold g8 at e;obtain⟨⟨n,x⟩,d,e⟩:=Zz.mp e;split at e
 ·rename_i h;cases (show x=.bl R from h);exact .inl ⟨n,d,e⟩
 ·rename_i h;cases (show x=.bl B from h);cases e;exact .inr ⟨n,d,rfl,rfl⟩
 ·cases e
def uZ{U:VS.Env}{m:Md}{r:T}(e:KZ ca cb U=Z (m,r)):(∃n,ca U=Z (n,.bl B)/\cb U=Z (m,r))\/(∃n,ca U=Z (n,.bl R)/\m=.fr/\r=.bl R):=by
 unfold KZ at e;obtain⟨⟨n,x⟩,d,e⟩:=Zz.mp e;split at e
 ·rename_i h;cases (show x=.bl R from h);cases e;exact .inr ⟨n,d,rfl,rfl⟩
 ·rename_i h;cases (show x=.bl B from h);exact .inl ⟨n,d,e⟩
 ·cases e
def kg(j:ID G X a ca)(i:Ke G X (.BoolOp .And (b :: rest) pos) cb):Ke G X (.BoolOp .And (a :: b :: rest) pos) (g8 ca cb) :=
 PW.weak (zJ j i) λJ H Q h=>by
  obtain⟨M,U,m,r,k,s,e,f,q⟩:=h;rcases sI e with⟨n,d,e2⟩ | ⟨n,d,rfl,rfl⟩
  ·refine⟨M,U,n,_,R,s,d,rfl,λg e1=>?_⟩;refine uv ?_;exact⟨M,U,m,r,k,s.same e1,e2,f,λl e2=>q l (e1.trans e2)⟩
  ·refine⟨M,U,n,_,B,s,d,rfl,λg e1=>?_⟩;refine uq ?_;cases f;exact q g e1
def tu(j:ID G X a ca)(i:Ke G X (.BoolOp .Or (b :: rest) pos) cb):Ke G X (.BoolOp .Or (a :: b :: rest) pos) (KZ ca cb) :=
 PW.weak (FE j i) λJ H Q h=>by
  obtain⟨M,U,m,r,k,s,e,f,q⟩:=h;rcases uZ e with⟨n,d,e2⟩ | ⟨n,d,rfl,rfl⟩
  ·refine⟨M,U,n,_,B,s,d,rfl,λg e1=>?_⟩;refine uq ?_;exact⟨M,U,m,r,k,s.same e1,e2,f,λl e2=>q l (e1.trans e2)⟩
  ·refine⟨M,U,n,_,R,s,d,rfl,λg e1=>?_⟩;refine uv ?_;cases f;exact q g e1
def qO{U:VS.Env}{m:Md}{r:T}(e:nU ca U=Z (m,r)):∃n b,ca U=Z (n,.bl b)/\m=.fr/\r=.bl (!b):=by
 unfold nU at e;obtain⟨⟨n,x⟩,d,e⟩:=Zz.mp e;split at e
 ·rename_i b h;cases (show x=.bl b from h);cases e;exact⟨n,b,d,rfl,rfl⟩
 ·cases e
def kL(f:ID G X a ca):ID G X (.UnaryOp .Not a pos) (nU ca):=PT.weak (Cz f) λJ H Q d=>by
 obtain⟨M,U,m,r,k,s,e,g,q⟩:=d;obtain⟨n,b,h,rfl,rfl⟩:=qO e;cases g;exact⟨M,U,n,_,b,s,h,rfl,λi e1=>q i e1⟩
def Do(f:PV G X a ca):PV G X (.UnaryOp .Not a pos) (nU ca):=PE.weak (Dx f) λJ H Q d=>by
 obtain⟨M,U,m,r,s,e,q⟩:=d;obtain⟨n,b,g,rfl,rfl⟩:=qO e;exact⟨M,U,n,_,s,g,λv h F e1 r1 f1=>⟨b,r1.Ht,q _ h _ e1 (.bl _) Fp.nil⟩⟩
def ua{op}(h:PV G X a ca):PV G X (.BoolOp op [a] pos) ca:=CN h
def zp(i:PV G X a ca)(h:PV G X (.BoolOp .And (b :: rest) pos) cb):PV G X (.BoolOp .And (a :: b :: rest) pos) (g8 ca cb) :=
 PE.weak (Ct i h) λJ H Q g=>by
  obtain⟨M,U,m,r,s,e,q⟩:=g;rcases sI e with⟨n,d,e2⟩ | ⟨n,d,rfl,rfl⟩
  ·refine⟨M,U,n,_,s,d,λv f F e1 r1 f1=>⟨R,r1.Ht,?_⟩⟩;refine uv ?_;exact⟨M,U,m,r,s.same e1,e2,λv j F e2 r2 f2=>q v j F (e1.trans e2) r2 (f2.back e1)⟩
  ·refine⟨M,U,n,_,s,d,λv f F e1 r1 f1=>⟨B,r1.Ht,?_⟩⟩;refine uq ?_;exact q _ f _ e1 (.bl _) Fp.nil
def BV(i:PV G X a ca)(h:PV G X (.BoolOp .Or (b :: rest) pos) cb):PV G X (.BoolOp .Or (a :: b :: rest) pos) (KZ ca cb) :=
 PE.weak (En i h) λJ H Q g=>by
  obtain⟨M,U,m,r,s,e,q⟩:=g;rcases uZ e with⟨n,d,e2⟩ | ⟨n,d,rfl,rfl⟩
  ·refine⟨M,U,n,_,s,d,λv f F e1 r1 f1=>⟨B,r1.Ht,?_⟩⟩;refine uq ?_;exact⟨M,U,m,r,s.same e1,e2,λv j F e2 r2 f2=>q v j F (e1.trans e2) r2 (f2.back e1)⟩
  ·refine⟨M,U,n,_,s,d,λv f F e1 r1 f1=>⟨R,r1.Ht,?_⟩⟩;refine uv ?_;exact q _ f _ e1 (.bl _) Fp.nil
def mG{H:Hp}{v:V}{t:T}{F:X7}(r:Rp G H v t F):decide (v=.non)=MA t:=by
 cases r<;>simp[MA]
def Ec{j pos'}(g:PV G X a ca):PV G X (.Compare a [.Is] [.Constant .none j pos'] pos) (sA ca):=PE.weak (zg (zE g)) λJ H Q f=>by
 obtain⟨M,U,m,r,s,e,q⟩:=f;unfold sA at e;obtain⟨⟨n,x⟩,h,e⟩:=Zz.mp e;cases e;refine⟨M,U,n,x,s,h,λv d F e1 r1 f1=>?_⟩;show Q (.bl (decide (v=.non))) d;rw[mG r1];exact q _ d _ e1 (.bl _) Fp.nil
def zZ{j pos'}(g:PV G X a ca):PV G X (.Compare a [.IsNot] [.Constant .none j pos'] pos) (cY ca):=PE.weak (zg (vm g)) λJ H Q f=>by
 obtain⟨M,U,m,r,s,e,q⟩:=f;unfold cY at e;obtain⟨⟨n,x⟩,h,e⟩:=Zz.mp e;cases e;refine⟨M,U,n,x,s,h,λv d F e1 r1 f1=>?_⟩;show Q (.bl (!decide (v=.non))) d;rw[mG r1];exact q _ d _ e1 (.bl _) Fp.nil
def Cj{t:TE}{c:Ex}{J:L2.St}{H:Hp}{Q:Bool->Hp->Prop}(h:tT G c J H Q)(f:∀U m r,c U=Z (m,r)->∃b,r=.bl b)(w:∀Q,tE G c J H Q->t J H Q):tB t J H Q:=by
 obtain⟨M,U,m,r,b,s,e,d,k⟩:=h;refine w _ ⟨M,U,m,r,s,e,λv j F e1 r1 f1=>?_⟩;obtain⟨i,g⟩:=f U m r e;rw[g]at d r1;cases (show Z i=Z b from d);exact⟨_,r1.Ht,k j e1⟩
end
section
variable{G:Gx}{X:Cx}{a b c e:Expr}{es:List Expr}{ca cb cc:Ex}{cs:Hf}{pos p:Pos}
def RpL.one{H:Hp}{vs:List V}{t:T}{Fs:Xg}(r:RpL G H vs [t] Fs):∃v F,vs=[v]/\Fs=[F]/\Rp G H v t F:=by
 cases r with
 |cons r q=>cases q;exact⟨_,_,rfl,rfl,r⟩
def RpL.two{H:Hp}{g:List V}{t h:T}{i:Xg}(r:RpL G H g [t,h] i):∃v d F f,g=[v,d]/\i=[F,f]/\Rp G H v t F/\Rp G H d h f:=by
 cases r with
 |cons r q =>
  obtain⟨d,f,rfl,rfl,j⟩:=q.one;exact⟨_,_,_,_,rfl,rfl,r,j⟩
def FX(K:Xd):List V->Hp->VK->Prop:=λd H Q=>(∃x n,d=[x]/\FB K x H n/\Q (.int n) H)\/(∃a f,d=[V.ref a]/\H a=Z (.dK f)/\Q (.int f.length) H)
def uh:dX X (.builtin "len") (λf H Q=>∃a d,f=[V.ref a]/\H a=Z (.dK d)/\Q (.int d.length) H):=by
 intro g s J H f m Q I r h;obtain⟨a,d,rfl,j,q⟩:=h;obtain⟨u,rfl,i⟩:=vals1 r;cases i;exact FL I (.inl j) λt n l=>⟨.int d.length,H,l,⟨t,rfl⟩,q⟩
def pz:dX X (.builtin "len") (FX X.K):=xp.or uh
def Dy:fP G (FX G.K) bu:=by
 intro M U D H l j o m t Q A e k;refine L2.kD λC f=>?_;unfold bu at e;split at e
 ·rename_i x;obtain⟨y,x⟩:=x;obtain⟨n,d,e⟩:=Zy.mp e;cases e;obtain⟨v,F,rfl,rfl,r⟩:=(show RpL G H j [x] o from A.rp).one;have fin:Q (.int (n:Int)) H:=bF k (.int _);cases r with
  |non=>cases d
  |bl b=>cases d
  |int i=>cases d
  |str s g =>
   cases d;refine f ?_;exact .inl ⟨_,_,rfl,⟨by rw[dB,← fA];exact g.1,rfl⟩,by rw[dB];exact fin⟩
  |scr h =>
   cases d;refine f ?_;refine .inl ⟨_,_,rfl,.inl ⟨_,h.seq,rfl⟩,?_⟩;rw[Zw];exact fin
  |tup h q =>
   cases d;refine f ?_;refine .inl ⟨_,_,rfl,.inr ⟨_,HS.of h,rfl⟩,?_⟩;rw[q.len.1];exact fin
  |lst h q =>
   cases d;refine f ?_;refine .inl ⟨_,_,rfl,.inl ⟨_,G5.of h,rfl⟩,?_⟩;rw[q.len.1];exact fin
  |dct h g q =>
   cases d;refine f ?_;refine .inr ⟨_,_,rfl,h,?_⟩;rename_i z u w _;have e1:=q.len.1;rw[Yo,Zw]at fin;rw[Yo,e1];exact fin
  |dctT h g q=>cases d
  |dctN h g n q=>cases d
  |dctZ _ _ _=>cases d
  |exc _ _=>cases d
  |ins _ _ _ _=>cases d
  |mk _ _=>cases d
 ·cases e
def AN:fP G (λd H Q=>∃i j,d=[.int i,.int j]/\Q (.int (if j<i then j else i)) H) rA:=by
 intro M U o H l f h m t Q A e k;unfold rA at e;split at e
 ·rename_i _ i _ j;cases e;obtain⟨v,n,F,q,rfl,rfl,r,g⟩:=(show RpL G H f [.int i,.int j] h from A.rp).two;exact⟨i,j,by rw[r.int_inv,g.int_inv],bF k (.int _)⟩
 ·cases e
def B2(K:Xd):List V->Hp->VK->Prop:=λf H Q=>∃p d,f=[.ref p]/\(G5 K H p d\/HS K H p d)/\∀l,H l=L->Q (.ref l) (upd H l (.lst d))
def vN:fP G (B2 G.K) BQ:=by
 intro M U r H l j n m t Q A e k;unfold BQ at e;split at e
 ·rename_i o x;obtain⟨v,F,rfl,rfl,g⟩:=(show RpL G H j [.lst x] n from A.rp).one;obtain⟨a,d,q,rfl,rfl,i,h⟩:=g.lst_inv;have f:=A.fp.each 0 _ _ Y Y;exact⟨a,d,rfl,.inl (G5.of i),jy A.same e h (f.sub (Yu _ _)) k⟩
 ·rename_i o x;obtain⟨v,F,rfl,rfl,g⟩:=(show RpL G H j [.tup x] n from A.rp).one;obtain⟨a,d,q,rfl,rfl,i,h⟩:=g.Ij;have f:=A.fp.each 0 _ _ Y Y;exact⟨a,d,rfl,.inr (HS.of i),jy A.same e h f k⟩
 ·cases e
def tO(G:Gx)(c:Option Ex):TO:=λJ H Q=>∃M U o,SR G M U J H/\kW c U=Z o/\∀d,aG H d->Q o d
def LK(G:Gx)(X:Cx)(e:Option Expr)(c:Option Ex):Prop:=PO X e (tO G c)
def PO.weak{X:Cx}{e:Option Expr}{t f:TO}(h:PO X e t)(w:∀J H Q,f J H Q->t J H Q):PO X e f:=λd s J H Q I q=>h d s J H Q I (w J H Q q)
def hU:LK G X L L:=PO.weak vP λJ H Q d=>by
 obtain⟨M,U,o,s,e,k⟩:=d;cases (show Z (L:Option Int)=Z o from e);exact k H (aG.refl _)
def gm(h:PV G X a ca):LK G X (Z a) (Z ca):=PO.weak (u9 h) λJ H Q f=>by
 obtain⟨M,U,o,s,e,k⟩:=f;obtain⟨⟨m,y⟩,g,e⟩:=Zz.mp (show (ca U).bind (λy=>(int? y.2).map Z)=Z o from e);obtain⟨i,d,e⟩:=Zy.mp e;cases e;refine⟨M,U,m,y,s,g,λv l F e1 r1 f1=>?_⟩;cases y with
 |int j =>
  cases d;exact⟨_,r1.int_inv,k l e1⟩
 |_=>cases d
def k9{α:Type}(l:List α)(d f:Option Int):cut l d f=(l.drop (HT.HD l.length 0 d)).take (HT.HD l.length l.length f-HT.HD l.length 0 d):=by
 unfold cut;cases d<;>cases f<;>rfl
def yx(d f:Option Int)(n:Nat):Builtin.Str.strSliceIndices d f 1 n=Builtin.Str.strSliceIndices (Z ((min (HT.HD n 0 d) n:Nat):Int)) (Z ((min (HT.HD n n f) n:Nat):Int)) 1 n:=by
 have e1:∀k:Nat,¬((k:Int)<0):=λk=>by lia
 unfold Builtin.Str.strSliceIndices;simp only[show (1:Int) > 0 by decide,if_true,e1,if_false];congr 1
 ·cases d with
  |none=>simp only[HT.HD];lia
  |some i =>
   simp only[HT.HD];by_cases h:i<0
   ·simp only[h,if_true];lia
   ·simp only[h,if_false];lia
 ·cases f with
  |none=>simp only[HT.HD];lia
  |some i =>
   simp only[HT.HD];by_cases h:i<0
   ·simp only[h,if_true];lia
   ·simp only[h,if_false];lia
def jL(s:Tx)(d f:Option Int):PySem.StrLaws.sliceText (sx s) d f=sx (cut s d f):=by
 have key:PySem.StrLaws.sliceText (sx s) d f=PySem.StrLaws.sliceText (sx s) (Z ((min (HT.HD s.length 0 d) s.length:Nat):Int)) (Z ((min (HT.HD s.length s.length f) s.length:Nat):Int)):=by
  unfold PySem.StrLaws.sliceText;rw[dB,yx]
 rw[key];have hd:∀a:Nat,s.drop (min a s.length)=s.drop a:=λa=>by
  by_cases h:a<=s.length
  ·rw[YF h]
  ·rw[Wp (by exact Xl h),YG (Zm _),YG (by exact Xl h)]
 by_cases h:min (HT.HD s.length 0 d) s.length<=min (HT.HD s.length s.length f) s.length
 ·rw[PySem.StrLaws.sliceText_nat (sx s) h (by rw[dB];exact Nat.min_le_right _ _),k9];show (⟨_⟩:Str)=⟨_⟩;congr 2;show ((sx s).cps.toList.drop _).take _=_;have:(sx s).cps.toList=s:=rfl;rw[this,hd];by_cases i:HT.HD s.length 0 d<=s.length
  ·rw[YF i];by_cases g:HT.HD s.length s.length f<=s.length
   ·rw[YF g]
   ·rw[Wp (by exact Xl g),YH (by rw[Z1];exact Zm _),YH (by rw[Z1];lia)]
  ·rw[YG (by exact Xl i)];simp
 ·have j:cut s d f=[]:=by
   rw[k9];have:HT.HD s.length s.length f-HT.HD s.length 0 d=0:=by omega
   rw[this,List.take_zero]
  rw[j];unfold PySem.StrLaws.sliceText;have e2:Builtin.Str.strSliceIndices (Z ((min (HT.HD s.length 0 d) s.length:Nat):Int)) (Z ((min (HT.HD s.length s.length f) s.length:Nat):Int)) 1 (sx s).length=[]:=by
   have e1:∀k:Nat,¬((k:Int)<0):=λk=>by lia
   unfold Builtin.Str.strSliceIndices sliceRange;simp only[show (1:Int) > 0 by decide,if_true,e1,if_false,dB];rw[Zp (by omega)];rfl
  rw[e2];have:¬((1:Int)==1&&([]:Wc).length==(sx s).length)=R:=by
   rw[dB];simp;lia
  rw[Zp this];rfl
def EW:V->Option Int->Option Int->Hp->VK->Prop:=λx lo d H Q=>∃z,x=.str z/\z.length<=KB/\Q (.str (PySem.StrLaws.sliceText z lo d)) H
def part_of{v:KM}{o:Option Int}(h:IsPart v o):∃q:Option (Int×Tok),v=partValue q/\o=q.map (·.1):=by
 cases h with
 |none=>exact⟨L,rfl,rfl⟩
 |int i t=>exact⟨Z (i,t),rfl,rfl⟩
def qF{α β:Type}(f:α->Option β)(l:List α):(l.filterMap f).length<=l.length:=List.length_filterMap_le f l
def As(d f:Option Int)(n:Nat):(Builtin.Str.strSliceIndices d f 1 n).length<=n:=by
 rw[yx];by_cases h:min (HT.HD n 0 d) n<=min (HT.HD n n f) n
 ·rw[PySem.StrLaws.strSliceIndices_plain h (by exact Nat.min_le_right _ _),Zw,ZC];lia
 ·have e1:∀k:Nat,¬((k:Int)<0):=λk=>by lia
  unfold Builtin.Str.strSliceIndices sliceRange;simp only[show (1:Int) > 0 by decide,if_true,e1,if_false];rw[Zp (by omega)];simp
def xS:L9 X EW:=by
 intro f s J H x v o n lo w r Q I g m i pu h;obtain⟨z,rfl,j,q⟩:=h;obtain⟨t,rfl⟩:=g;obtain⟨l,rfl,rfl⟩:=part_of i;obtain⟨u,rfl,rfl⟩:=part_of pu;refine⟨"str",_,F.slot_str_getitem.lookup,typeIs_str s z t,wpAny_getItem_str_slice (l:=l) (u:=u) (st:=L) m Y ?_⟩;unfold sliceMade;split
 ·rename_i d;refine⟨.str z,H,I,⟨t,rfl⟩,?_⟩;have e:PySem.StrLaws.sliceText z (l.map (·.1)) (u.map (·.1))=z:=by
   unfold PySem.StrLaws.sliceText;exact Zq d
  rw[e]at q;exact q
 ·rename_i d;refine⟨ZJ ?_ j,.str _,H,I.tok _,⟨_,rfl⟩,?_⟩
  ·show (List.filterMap _ _).toArray.size<=_;rw[Ze];exact ZJ (qF _ _) (As _ _ _)
  ·have e:PySem.StrLaws.sliceText z (l.map (·.1)) (u.map (·.1))=⟨((slicePicked z l u L).filterMap (z.cps[·]?)).toArray⟩:=by
    unfold PySem.StrLaws.sliceText;exact Zp d
   rw[e]at q;exact q
def Ur(K:Xd):V->Option Int->Option Int->Hp->VK->Prop:=λx lo d H Q=>EW x lo d H Q\/EU K x lo d H Q
def Gm:L9 X (Ur X.K):=xS.or Ay
def uF{α:Type}(l:List α)(d f:Option Int):(cut l d f).length<=l.length:=by
 rw[k9,XS,Z1];lia
theorem RpL.cut{H:Hp}{g:List V}{i:W5}{j:Xg}(r:RpL G H g i j)(d f:Option Int):RpL G H (wW g d f) (VS.cut i d f) (VS.cut j d f):=by
 have h:=r.len;rw[k9,k9,h.2];unfold wW;rw[h.1];exact(r.drop _).take _
def pU{α:Type}(l:List α)(d f:Option Int):(VS.cut l d f).Sublist l:=by
 rw[k9];exact(List.take_sublist _ _).trans (List.drop_sublist _ _)
def xJ{F G:Xg}(h:F.Sublist G):F.flatten.Sublist G.flatten:=by
 induction h with
 |slnil=>exact Xr _
 |cons a _ d=>rw[ZV];exact d.trans (YU _ _)
 |cons_cons a _ d=>rw[ZV,ZV];exact(Xr _).append d
def mU{j n:Option Expr}{u w:Option Ex}{N:Pos}(ha:PV G X a ca)(d:LK G X j u)(Y:LK G X n w)(hK:X.K=G.K:=by rfl):PV G X (.Subscript a (.Slice j n L N) pos) (Kd ca u w) :=
 PE.weak (rq Gm ha d Y) λJ H Q S=>by
  obtain⟨M,U,m,t,s,e,k⟩:=S;unfold Kd at e;obtain⟨⟨O,x⟩,ea,r⟩:=Zz.mp e;obtain⟨l,el,y⟩:=Zz.mp r;obtain⟨h,eh,f⟩:=Zz.mp y;clear e r y;refine⟨M,U,O,x,s,ea,λv H1 F e1 r1 f1=>⟨M,U,l,s.same e1,el,λH2 e2=>⟨M,U,h,(s.same e1).same e2,eh,λA o=>?_⟩⟩⟩;have g:aG H A:=(e1.trans e2).trans o;have i:=(r1.same e2).same o;unfold Sq at f;split at f
  ·rename_i P z q;cases q;cases f;obtain⟨rfl,d⟩:=i.str_inv;refine .inl ⟨_,rfl,by rw[dB,← fA];exact d.1,?_⟩;rw[jL];exact k _ A _ g (.str _ ⟨ZJ (uF _ _ _) d.1,λc hc=>d.2 c ((pU _ _ _).subset hc)⟩) Fp.nil
  ·rename_i P z q;cases q;obtain⟨a',C,Fs,rfl,rfl,GZ,D⟩:=i.lst_inv;refine .inr ⟨a',C,rfl,by rw[hK];exact G5.of GZ,jy g f (D.cut l h) ((f1.sub (Yu _ _)).sub (xJ (pU _ _ _))) λv H4 F e5 E f4=>k v H4 F (g.trans e5) E f4⟩
  ·cases f
def Ki:Ty->String
 |.int => "int"
 |.str => "str"
 |.bool => "bool"
 |.list => "list"
 |.tuple => "tuple"
 |.dict => "dict"
def Us(K:Xd):List V->Hp->VK->Prop:=λd H Q=>∃x c t b,d=[x,.ty c]/\HX K H x t/\PySem.W.kitOne K t (.type c)=Z b/\Q (.bl b) H
def Af:dX X (.builtin "isinstance") (Us X.K):=by
 intro d s J H f i Q I r h;obtain⟨x,c,t,b,rfl,ty,e,q⟩:=h;obtain⟨u,g,rfl,r1,r2⟩:=vals2 r;cases r2;exact vX I r1 ty e λj=>⟨.bl b,H,I.tok _,rfl,q⟩
def Bu(K:Xd)(d:Ty):(PySem.W.kitOne K (.type "NoneType") (.type (Ki d))=Z B)/\(PySem.W.kitOne K (.type "bool") (.type (Ki d))=Z (qX d (.bl R)))/\(PySem.W.kitOne K (.type "int") (.type (Ki d))=Z (qX d (.int 0))) ∧
  (PySem.W.kitOne K (.type "str") (.type (Ki d))=Z (qX d (.str [])))/\(PySem.W.kitOne K (.type "list") (.type (Ki d))=Z (qX d (.lst [])))/\(PySem.W.kitOne K (.type "tuple") (.type (Ki d))=Z (qX d (.tup [])))/\(PySem.W.kitOne K (.type "dict") (.type (Ki d))=Z (qX d (.dct 0 []))):=by
 cases d<;>refine⟨?_,?_,?_,?_,?_,?_,?_⟩<;>kernel_rfl
def FM{H:Hp}{v:V}{t:T}{F:X7}(d:Ty)(r:Rp G H v t F)(h:uG t=R):∃g,HX G.K H v g/\PySem.W.kitOne G.K g (.type (Ki d))=Z (qX d t):=by
 obtain⟨y,x,w,u,o,m,j⟩:=Bu G.K d;cases r with
 |non=>exact⟨_,.non,by rw[y];cases d<;>rfl⟩
 |bl b=>exact⟨_,.bl b,by rw[x];cases d<;>rfl⟩
 |int i=>exact⟨_,.int i,by rw[w];cases d<;>rfl⟩
 |str s _=>exact⟨_,.str _,by rw[u];cases d<;>rfl⟩
 |scr _=>cases h
 |tup f q=>exact⟨_,.tup f,by rw[m];cases d<;>rfl⟩
 |lst f q=>exact⟨_,.lst f,by rw[o];cases d<;>rfl⟩
 |dct f l q=>exact⟨_,.dK f,by rw[j];cases d<;>rfl⟩
 |dctT f l q=>exact⟨_,.dT f,by rw[j];cases d<;>rfl⟩
 |dctN f l n q=>simp at h
 |dctZ _ _ _=>cases h
 |exc _ _=>cases h
 |ins _ _ _ _=>cases h
 |mk _ _=>cases h
def EH(f:Ty){x:Str}{n d:Pos}(C:PV G X a ca)(A:Gl X "isinstance")(w:X.mg "isinstance" = L)(O:Gl X x)(P:X.mg x=L)(q:bootBuiltins x=Z (.type (Ki f)))(j:X.K=G.K:=by rfl)(u:x ≠ "__name__" := by decide)(Hq:K3 x:=by decide)(i:Pi [a,.Name x d] X.env=(B,eval a X.env) :: Pi [.Name x d] X.env:=by rfl)(S:Pi [.Name x d] X.env=(B,eval (.Name x d) X.env) :: Pi [] X.env:=by rfl)(g:(backTo pos (Pi [Expr.Name x d] X.env)).any (·.1)=B:=by rfl) :
  PV G X (.Call (.Name "isinstance" n) [a,.Name x d] [] pos) (Ot f ca) :=
 PE.weak (mW Af A w boot_isinstance (cA C (cA (Ag (v:=.ty (Ki f)) O P q Y u Hq) fO S) i) (by decide) Y i g) λJ H Q r=>by
  obtain⟨M,U,m,t,s,e,k⟩:=r;unfold Ot at e;obtain⟨⟨o,y⟩,N,h⟩:=Zz.mp e;split at h
  ·rename_i z;cases h;refine⟨M,U,o,y,s,N,λv H' F e1 r1 f1=>?_⟩;obtain⟨l,E,D⟩:=FM f r1 z;exact⟨v,Ki f,l,_,rfl,by rw[j];exact E,by rw[j];exact D,k _ H' _ e1 (.bl _) Fp.nil⟩
  ·cases h
end
section
variable{G:Gx}{X:Cx}{a b c e:Expr}{es:List Expr}{ca cb cc:Ex}{cs:Hf}{pos p:Pos}
def FI(G:Gx)(r:V->List V->Hp->VK->Prop)(f:Val->W3->W4):Prop:=∀(M:GU)(U:VS.Env)(d i H:Hp)(x:Val)(v:V)(F:X7)(l:W3)(h:List V)(j:Xg)(m:Md)(t:T)(Q:VK),
 aG d i->Rp G H v x.2 F->Fp M U d x.1 F->Args G M U i H l h j->f x l=Z (m,t)->(∀v g F,aG H g->Rp G g v t F->Fp M U d m F->Q v g)->r v h H Q
def Fm{n j:String}{d:Str}{r:V->List V->Hp->VK->Prop}{f:Val->W3->W4}{g i:Pos}(A:PlainAttrs n)(h:Slot n d j)(MD:typeOf (.builtin j)=pure (.type "method_descriptor"))(O:OI X j r)(C:FI G r f)(S:∀H v (x:Val) F l z,Rp G H v x.2 F->f x l=Z z->LO G.K n v H)(N:PV G X a ca)(P:HM G X (e :: es) cs)(Y:X.K=G.K:=by rfl)(G6:UF a d X.env (eval a X.env)=eval a X.env:=by rfl)(Hz:((backTo i (Pi (e :: es) X.env)).all (λx=>!x.1)&&(backToKw i (SB [] X.env)).all (λx=>x.1.isSome)
   && decide ((e :: es).length+([]:List Keyword).length+(if ([]:List Keyword).isEmpty then 0 else 1)<30))=R:=by rfl)(G4:(g.endLine==i.line)=R:=by rfl)(D:K1 e es X:=by rfl)(G0:K2 i es X:=by rfl) :
  PV G X (.Call (.Attribute a d g) (e :: es) [] i) (eM f ca cs) :=
 PE.weak (rR A h MD O N P G6 Hz G4 D G0) λJ H Q E=>by
  obtain⟨M,U,m,t,s,e,k⟩:=E;unfold eM at e;obtain⟨x,ea,e'⟩:=Zz.mp e;obtain⟨l,el,o⟩:=Zz.mp e';refine⟨M,U,x.1,x.2,s,ea,λv q F e1 r1 f1=>⟨by rw[Y];exact S q v x F l _ r1 o,M,U,l,s.same e1,el,λu H2 Fs e2 r2 f2=>?_⟩⟩;exact C M U H q H2 x v F l u Fs m t Q e1 (r1.same e2) f1 ⟨e2,r2,f2⟩ o λw H3 F' e3 y f3=>k w H3 F' ((e1.trans e2).trans e3) y f3
def Bw:∀(sep:Tx)(d:List Tx),Txt.join (sx sep) (d.map sx)=sx (dA sep d):=by
 intro sep d;have fold:∀(l:List Tx)(acc:Tx),(l.map sx).foldl (λacc p=>acc++(sx sep).cps++p.cps) acc.toArray=(l.foldl (λacc p=>acc++sep++p) acc).toArray:=by
  intro l
  induction l with
  |nil=>intro acc;rfl
  |cons x r f =>
   intro acc;rw[Zo,YR,YR,← f];congr 1;simp[sx]
 have g:∀(r:List Tx)(acc:Tx),r.foldl (λacc p=>acc++sep++p) acc=dA sep (acc :: r):=by
  intro r
  induction r with
  |nil=>intro acc;rfl
  |cons x r f =>
   intro acc;rw[YR,f];cases r with
   |nil=>rfl
   |cons y r=>simp[dA]
 cases d with
 |nil=>rfl
 |cons x r =>
  show (⟨_⟩:Str)=⟨_⟩;congr 1;show ((r.map sx).foldl _ x.toArray)=_;rw[fold,g]
theorem p9{H:Hp}:∀{d:List V}{l:W5}{g:Xg}{f:List Tx},RpL G H d l g->strs? l=Z f->d=f.map λs=>V.str (sx s)
 |_,_,_,_,.nil,e=>by cases e;rfl
 |_,_,_,_,.cons (t:=t) r q,e=>by
  cases t with
  |str s =>
   simp only[strs?]at e;obtain⟨h,e1,e2⟩:=Zy.mp e;subst e2;rw[p9 q e1,r.str_inv.1];rfl
  |_=>cases e
theorem nY:∀{d:List Tx}{f:Wf},aQ (d.map λs=>V.str (sx s)) f->StrsAre f (d.map sx)
 |[],_,h=>by cases h;exact .nil
 |s :: d,_,h=>by
  cases h with
  |cons r q =>
   obtain⟨t,rfl⟩:=r;exact .cons _ _ (nY q)
def rJoin(K:Xd):V->List V->Hp->VK->Prop:=λx f H Q=>∃sep p d,x=.str (sx sep)/\f=[.ref p]/\G5 K H p (d.map λs=>V.str (sx s))/\total d+d.length*sep.length<=16777216/\Q (.str (sx (dA sep d))) H
theorem u6:∀d:List Tx,((d.map sx).map (·.length)).sum=total d
 |[]=>rfl
 |s :: r=>by
  rw[Zo,Zo,YO,u6 r,dB];rfl
def uU:OI X "str.join" (rJoin X.K):=by
 intro d s J H x o v w Q I g n h;obtain⟨sep,p,f,rfl,rfl,l,m,q⟩:=h;obtain⟨t,rfl⟩:=g;obtain⟨u,rfl,i⟩:=vals1 n;cases i;obtain⟨z,r,j,A⟩:=I.list l;refine join_list j.isList (ys:=f.map sx) (by simpa using nY r) ?_ λy k=>⟨.str _,H,I.tok _,⟨_,by rw[Bw]⟩,q⟩
 rw[u6,Zw,dB];exact m
theorem jW(d:Tx):∀f:List Tx,(dA d f).length<=total f+f.length*d.length
 |[]=>by simp[dA,total]
 |[x]=>by simp[dA,total]
 |x :: y :: r=>by
  have:=jW d (y :: r);simp only[dA,total,Zv,Zl]at this ⊢;have e:(r.length+1+1)*d.length=(r.length+1)*d.length+d.length:=Nat.succ_mul _ _;lia
theorem jX(d:Tx):∀(f:List Tx)(c:Nat),c∈dA d f->c∈d\/∃s∈f,c∈s
 |[],c,h=>by simp[dA]at h
 |[x],c,h=>.inr ⟨x,Zt,h⟩
 |x :: y :: r,c,h=>by
  simp only[dA,ZY]at h;rcases h with (h | h) | h
  ·exact .inr ⟨x,Zt,h⟩
  ·exact .inl h
  ·exact(jX d (y :: r) c h).imp id λ⟨s,g,i⟩=>⟨s,Zu _ g,i⟩
theorem j0{H:Hp}:∀{g:List V}{l:W5}{h:Xg}{f:List Tx},RpL G H g l h->strs? l=Z f->∀s∈f,∀c∈s,c<1114112
 |_,_,_,_,.nil,e,s,d=>by cases e;simp at d
 |_,_,_,_,.cons (t:=t) r q,e,s,d=>by
  cases t with
  |str x =>
   simp only[strs?]at e;obtain⟨i,e1,e2⟩:=Zy.mp e;subst e2;rcases Zi.mp d with rfl | d
   ·exact r.str_inv.2.2
   ·exact j0 q e1 s d
  |_=>cases e
def Bx:FI G (rJoin G.K) jI:=by
 intro M U Y S H x v F l o E m t Q q r f A e k;unfold jI at e;split at e
 ·rename_i O sep P w;obtain⟨d,n,g⟩:=Zz.mp e;split at g
  ·rename_i i;cases g;obtain⟨N,F',rfl,rfl,u⟩:=(show RpL G H o [.lst w] E from A.rp).one;obtain⟨z,J,Gs,rfl,rfl,j,h⟩:=u.lst_inv;rw[p9 h n]at j;refine⟨sep,z,d,r.str_inv.1,rfl,G5.of j,i,bF k (.str _ ⟨ZJ (jW sep d) i,λc y=>(jX sep d c y).elim (r.str_inv.2.2 c) λ⟨s,D,C⟩=>j0 h n s D c C⟩)⟩
  ·cases g
 ·cases e
def sW{H:Hp}{v:V}{t:T}{F:X7}(r:Rp G H v t F)(h:∃s,t=.str s):LO G.K "str" v H:=by
 obtain⟨s,rfl⟩:=h;rw[r.str_inv.1];rfl
def Ac{d f:Pos}(i:PV G X a ca)(j:HM G X [e] cs)(g:X.K=G.K:=by rfl)(n:UF a "join" X.env (eval a X.env)=eval a X.env:=by rfl)(m:((backTo f (Pi [e] X.env)).all (λx=>!x.1)&&(backToKw f (SB [] X.env)).all (λx=>x.1.isSome)
   && decide ([e].length+([]:List Keyword).length+(if ([]:List Keyword).isEmpty then 0 else 1)<30))=R:=by rfl)(o:(d.endLine==f.line)=R:=by rfl)(h:K1 e [] X:=by rfl)(q:(backTo f (Pi [] X.env)).any (·.1)=B:=by rfl) :
  PV G X (.Call (.Attribute a "join" d) [e] [] f) (eM jI ca cs) :=
 Fm PySem.F.plainAttrs_str PySem.F.slot_str_join PySem.F.type_str_join (g ▸ uU) Bx (λH v x F l z r e=>sW r (by
  unfold jI at e;split at e
  ·exact⟨_,rfl⟩
  ·cases e)) i j g n m o h q
end
end VS
end
section
namespace VS
@[simp] def Iy(x y:Val):W4:=match x.2 with
 |.dct 0 l=>if iU y.2 then (fI l y.2).map (sub x.1) else L
 |_=>aB x y
def flat:T->Bool
 |.non=>R
 |.bl _=>R
 |.int _=>R
 |.str _=>R
 |_=>B
@[simp] def lM(x y:Val):W4:=match y.2 with
 |.dct 0 l=>if iU x.2 then Z (.fr,.bl (fI l x.2).isSome) else L
 |.lst l=>if flat x.2&&l.all flat then Z (.fr,.bl (l.any λy=>eqT y x.2)) else L
 |.tup l=>if flat x.2&&l.all flat then Z (.fr,.bl (l.any λy=>eqT y x.2)) else L
 |_=>L
@[simp] def de(x y:Val):W4:=match lM x y with
 |some (_,.bl b)=>Z (.fr,.bl (!b))
 |_=>L
noncomputable def pm{α:Type}(f:T->Option (T×α)):List Ky->T->Option (T×α)
 |[],t=>f t
 |.fld k :: r,t=>match t with
  |.obj (c+1) (q :: fs)=>(fs.findIdx? λp=>p.1==k).bind λi=>(fs[i]?).bind λp=>(pm f r p.2).map λz=>(.obj (c+1) (q :: fs.set i (p.1,z.1)),z.2)
  |_=>L
 |.un :: r,t=>match t with
  |.obj 0 [(0,.bl true),(m,x)]=>(pm f r x).map λz=>(.obj 0 [(0,.bl R),(m,z.1)],z.2)
  |_=>L
 |.at k :: r,t=>match t with
  |.lst l=>match k with
   |.int i=>(HI l.length i).bind λj=>(l[j]?).bind λx=>(pm f r x).map λz=>(.lst (l.set j z.1),z.2)
   |_=>L
  |.dct 0 l=>if iU k then (l.findIdx? λp=>eqT p.1 k).bind λi=>(l[i]?).bind λp=>(pm f r p.2).map λz=>(.dct 0 (l.set i (p.1,z.1)),z.2) else L
  |_=>L
end VS
end
section
namespace VS
open PySem PySem.Spec PyProof.Rows L2
section
variable{G:Gx}{X:Cx}{a b c e:Expr}{es:List Expr}{ca cb cc:Ex}{cs:Hf}{pos p:Pos}
mutual
def IH:T->PyData
 |.non=>.none
 |.bl b=>.bool b
 |.int i=>.int i
 |.str s=>.str (sx s)
 |.tup l=>.tuple (oj l)
 |.lst l=>.list (oj l)
 |_=>.none
def oj:W5->List PyData
 |[]=>[]
 |t :: r=>IH t :: oj r
end
def Eo{s:Tx}(h:pH s):PyData.strOk (sx s)=R:=by
 unfold PyData.strOk sx;simp only[Array.all_eq_true,decide_eq_true_eq];intro i a;have:s.toArray[i]∈s:=by simp
 have:=h.2 _ this;simpa using this
def zW{s t:Tx}:(sx s==sx t)=(s==t):=by
 rw[Yb,beq_iff_eq,beq_iff_eq];constructor
 ·intro h;have:(sx s).cps=(sx t).cps:=by rw[h]
  simpa[sx] using this
 ·intro h;rw[h]
mutual
theorem qb:∀(n k:Nat)(t u:T),HJ n t=R->HJ k u=R->PyData.eqv (IH t) (IH u)=eqT t u
 |n,k,t,u,b,a=>by
  cases t with
  |scr _=>cases n<;>simp at b
  |dct _ _=>cases n<;>simp at b
  |obj _ _=>cases n<;>simp at b
  |tup l =>
   cases n with
   |zero=>simp at b
   |succ n =>
    cases u with
    |tup r =>
     cases k with
     |zero=>simp at a
     |succ k =>
      simp only[IH,PyData.eqv,eqT];exact m9 n k l r (by simpa using b) (by simpa using a)
    |scr _=>cases k<;>simp at a
    |dct _ _=>cases k<;>simp at a
    |obj _ _=>cases k<;>simp at a
    |_=>simp[IH,PyData.eqv,eqT]
  |lst l =>
   cases n with
   |zero=>simp at b
   |succ n =>
    cases u with
    |lst r =>
     cases k with
     |zero=>simp at a
     |succ k =>
      simp only[IH,PyData.eqv,eqT];exact m9 n k l r (by simpa using b) (by simpa using a)
    |scr _=>cases k<;>simp at a
    |dct _ _=>cases k<;>simp at a
    |obj _ _=>cases k<;>simp at a
    |_=>simp[IH,PyData.eqv,eqT]
  |str s =>
   cases u with
   |str r=>simp only[IH,PyData.eqv,eqT];exact zW
   |scr _=>cases k<;>simp at a
   |dct _ _=>cases k<;>simp at a
   |obj _ _=>cases k<;>simp at a
   |_=>simp[IH,PyData.eqv,eqT]
  |_ =>
   cases u with
   |scr _=>cases k<;>simp at a
   |dct _ _=>cases k<;>simp at a
   |obj _ _=>cases k<;>simp at a
   |_=>simp[IH,PyData.eqv,eqT]
theorem m9:∀(n k:Nat)(l r:W5),(∀t∈l,HJ n t=R)->(∀t∈r,HJ k t=R)->PyData.eqvAll (oj l) (oj r)=tD l r
 |_,_,[],[],_,_=>rfl
 |_,_,[],_ :: _,_,_=>rfl
 |_,_,_ :: _,[],_,_=>rfl
 |n,k,t :: l,u :: r,d,b=>by
  simp only[oj,PyData.eqvAll,tD];rw[qb n k t u (d t Zt) (b u Zt),m9 n k l r (λx a=>d x (Zu _ a)) λx a=>b x (Zu _ a)]
end
def Rp.Kw{H:Hp}{v:V}{d:W5}{F:X7}(r:Rp G H v (.tup d) F):∃b a e,v=.ref b/\H b=Z (.tup a)/\RpL G H a d e:=by
 cases r with
 |tup h q=>exact⟨_,_,_,rfl,h,q⟩
def Rp.KH{H:Hp}{v:V}{d:W5}{F:X7}(r:Rp G H v (.lst d) F):∃b a e,v=.ref b/\H b=Z (.lst a)/\RpL G H a d e:=by
 cases r with
 |lst h q=>exact⟨_,_,_,rfl,h,q⟩
theorem k8{H:Hp}{s:GM}{n:Nat}(f:∀{v:V}{t:T}{F:X7}{u:KM},Rp G H v t F->RelV v u->HJ n t=R->∃b,Reads s.heap u (IH t) b/\(IH t).canLay0=R/\(IH t).depth<=n):∀{d:List V}{a:W5}{o:Xg}{e:Wf},RpL G H d a o->aQ d e->(∀t∈a,HJ n t=R) →
  ∃b,ReadsAll s.heap e (oj a) b/\PyData.canLayAll0 (oj a)=R/\PyData.depthAll (oj a)<=n
 |_,_,_,_,.nil,r,_=>by cases r;exact⟨_,.nil,rfl,Ym _⟩
 |_,_,_,_,.cons p q,r,h=>by
  cases r with
  |cons r1 r2 =>
   obtain⟨b,j,i,w⟩:=f p r1 (h _ Zt);obtain⟨bs,m,l,x⟩:=k8 f q r2 λt g=>h t (Zu _ g);exact⟨_,.cons j m,by simp only[oj,PyData.canLayAll0,i,l,Bool.and_self],by simp only[oj,PyData.depthAll];lia⟩
def n8{h:SL}{H:Hp}{v:V}{t:T}{F:X7}{u:KM}{n:Nat}(r:Rp G H v t F)(a:RelV v u)(d:flat t=R):∃e,Reads h u (IH t) e/\(IH t).canLay0=R/\(IH t).depth<=n:=by
 cases r with
 |non=>cases a;exact⟨_,.none,rfl,Ym _⟩
 |bl b=>cases a;exact⟨_,.bool b,rfl,Ym _⟩
 |int i=>obtain⟨t,rfl⟩:=a;exact⟨_,.int i t,rfl,Ym _⟩
 |str s h=>obtain⟨t,rfl⟩:=a;exact⟨_,.str _ t,Eo h,Ym _⟩
 |_=>cases d
def kE{H:Hp}{d:Xy}{J:L2.St}{s:GM}(I:Inv X d J H s)(n:Nat):∀{v:V}{t:T}{F:X7}{u:KM},Rp G H v t F->RelV v u->HJ n t=R->∃w,Reads s.heap u (IH t) w/\(IH t).canLay0=R/\(IH t).depth<=n:=by
 induction n with
 |zero =>
  intro v t F u r a h;refine n8 r a ?_;cases t<;>first | rfl | exact h
 |succ n x =>
  intro v t F u r a h;cases t with
  |tup l =>
   obtain⟨b,y,M,rfl,e,q⟩:=Rp.Kw r;cases a;obtain⟨C,f,z,E⟩:=I.tuple (HS.of e);obtain⟨w,p,m,j⟩:=k8 x q f (by simpa using h);obtain⟨o,g,i,D,hd⟩:=z;exact⟨_,.tuple g i hd (by simpa using p),m,by simp only[IH,PyData.depth];exact YX j⟩
  |lst l =>
   obtain⟨b,y,M,rfl,e,q⟩:=Rp.KH r;cases a;obtain⟨C,f,A,E⟩:=I.list (G5.of e);obtain⟨w,p,m,j⟩:=k8 x q f (by simpa using h);obtain⟨o,g,i,D,hd⟩:=A.isList;exact⟨_,.list g i hd (by simpa using p),m,by simp only[IH,PyData.depth];exact YX j⟩
  |scr _=>simp at h
  |dct _ _=>simp at h
  |obj _ _=>simp at h
  |_=>exact n8 r a Y
def Bi(G:Gx)(a:Bool):R2:=λx y H Q=>∃t u F b,Rp G H x t F/\Rp G H y u b/\HJ 60 t=R/\HJ 60 u=R/\Q (.bl (if a then !eqT t u else eqT t u)) H
def jF{d:PyData}(h:d.canLay0=R)(a:d.depth<=60):SeqAt.shaped d=R:=by
 unfold SeqAt.shaped;rw[h,Bool.true_and];exact decide_eq_true (by lia)
def nQ(g:X.A.units+64<cLine):OpR X (SC .Eq) (Bi G B):=by
 intro a s J H x y v u Q I f e h;obtain⟨t,w,F,r,r1,r2,d,b,q⟩:=h;obtain⟨p,o,n,m⟩:=kE I 60 r1 f d;obtain⟨bs,l,j,i⟩:=kE I 60 r2 e b;refine eq_dataH o l (jF n m) (jF j i) g ⟨.bl _,H,I,rfl,?_⟩;rw[qb 60 60 t w d b];exact q
def CH(g:X.A.units+64<cLine):OpR X (SC .NotEq) (Bi G R):=by
 intro a s J H x y v u Q I f e h;obtain⟨t,w,F,r,r1,r2,d,b,q⟩:=h;obtain⟨p,o,n,m⟩:=kE I 60 r1 f d;obtain⟨bs,l,j,i⟩:=kE I 60 r2 e b;refine ne_dataH o l (jF n m) (jF j i) g ⟨.bl _,H,I,rfl,?_⟩;rw[qb 60 60 t w d b];exact q
def rV:fF G (Bi G B) oEq:=by
 intro M U b H x y u w f d m t Q a e k;unfold oEq at e;split at e
 ·rename_i h;cases e;exact⟨_,_,_,_,a.r1,a.r2,h.1,h.2,bF k (.bl _)⟩
 ·cases e
def FD:fF G (Bi G R) JR:=by
 intro M U b H x y u w f d m t Q a e k;unfold JR at e;split at e
 ·rename_i h;cases e;exact⟨_,_,_,_,a.r1,a.r2,h.1,h.2,bF k (.bl _)⟩
 ·cases e
def tells_eq:Tells oEq:=by
 intro x y m t e;unfold oEq at e;split at e<;>first | (cases e;exact⟨_,rfl⟩) | cases e
def x4:Tells JR:=by
 intro x y m t e;unfold JR at e;split at e<;>first | (cases e;exact⟨_,rfl⟩) | cases e
end
structure GX(M:GU)(U:VS.Env)(H:Hp)(M':GU)(U':VS.Env)(H':Hp):Prop where
 keep:∀a o,H a=some o->¬bU M U a->H' a=some o/\¬bU M' U' a
 G1:∀a,H a≠none->H' a≠none
 ow:∀a,bU M' U' a->bU M U a\/H a=none
 pu:∀a,dg M' U' a->dg M U a\/bU M U a\/H a=none
 kept:Kept H H'
theorem GX.refl(M:GU)(U:VS.Env)(H:Hp):GX M U H M U H:=⟨λa o h n=>⟨h,n⟩,λ_ h=>h,λ_ h=>.inl h,λ_ h=>.inl h,Kept.refl H⟩
theorem GX.none{M g:GU}{U d:VS.Env}{H b:Hp}(f:GX M U H g d b){a:KF}(h:b a=L):H a=L:=by
 cases e:H a with
 |none=>rfl
 |some o=>exact absurd h (f.G1 a (by rw[e];exact λz=>nomatch z))
theorem GX.trans{M e d:GU}{U U1 b:VS.Env}{H j i:Hp}(f:GX M U H e U1 j)(g:GX e U1 j d b i):GX M U H d b i where
 keep:=λa o h n=>let ⟨m,l⟩:=f.keep a o h n;g.keep a o m l
 G1:=λa h=>g.G1 a (f.G1 a h)
 ow:=λa h=>by
  rcases g.ow a h with h | h
  ·exact f.ow a h
  ·exact .inr (f.none h)
 pu:=λa h=>by
  rcases g.pu a h with h | h | h
  ·exact f.pu a h
  ·rcases f.ow a h with h | h
   ·exact .inr (.inl h)
   ·exact .inr (.inr h)
  ·exact .inr (.inr (f.none h))
 kept:=f.kept.trans g.kept
def GX.same{M:GU}{U:VS.Env}{H b:Hp}(e:aG H b):GX M U H M U b :=
 ⟨λa o h n=>⟨e a o h,n⟩,λa h z=>h (e.free z),λ_ h=>.inl h,λ_ h=>.inl h,Kept.of e⟩
def rW(M:GU)(U:VS.Env)(H:Hp):Md->X7->Prop
 |.fr,F=>F.Nodup/\∀a∈F,H a=L\/bU M U a
 |_,F=>∀a∈F,H a=L\/dg M U a\/bU M U a
theorem rW.back{M e:GU}{U d:VS.Env}{H g:Hp}(f:GX M U H e d g){F:X7}:∀{m:Md},rW e d g m F->rW M U H m F
 |.fr,h=>⟨h.1,λa b=>(h.2 a b).elim (λz=>.inl (f.none z)) λz=>(f.ow a z).elim .inr .inl⟩
 |.pu,h=>λa b=>by
  rcases h a b with z | z | z
  ·exact .inl (f.none z)
  ·rcases f.pu a z with z | z | z
   ·exact .inr (.inl z)
   ·exact .inr (.inr z)
   ·exact .inl z
  ·exact(f.ow a z).elim (λz=>.inr (.inr z)) .inl
 |.bo,h=>λa b=>by
  rcases h a b with z | z | z
  ·exact .inl (f.none z)
  ·rcases f.pu a z with z | z | z
   ·exact .inr (.inl z)
   ·exact .inr (.inr z)
   ·exact .inl z
  ·exact(f.ow a z).elim (λz=>.inr (.inr z)) .inl
def Nx(G:Gx)(M:GU)(U:VS.Env)(H:Hp)(b:VS.Env)(k:L2.St->Hp->Prop):Prop:=∀d e a,SR G d b e a->GX M U H d b a->k e a
def vH(G:Gx)(M:GU)(U:VS.Env)(H:Hp)(D:Ends):Out->Prop
 |.nx a=>Nx G M U H a D.nx
 |.bk a=>Nx G M U H a D.bk
 |.ct a=>Nx G M U H a D.ct
 |.rt v a=>∀u b F d e,SR G d a e b->GX M U H d a b->Rp G b u v.2 F->rW M U H v.1 F->D.rt u b
def tS(G:Gx)(c:Sx):TS:=λD J H=>∃M U o,SR G M U J H/\c U=Z o/\vH G M U H D o
def PSV(G:Gx)(X:Cx)(a:Stmt)(c:Sx):Prop:=PS X a (tS G c)
def gF(G:Gx)(X:Cx)(a:List Stmt)(c:Sx):Prop:=IE X a (tS G c)
def PS.weak{X:Cx}{e:Stmt}{t b:TS}(h:PS X e t)(w:∀D J H,b D J H->t D J H):PS X e b:=λa s J H D I q=>h a s J H D I (w D J H q)
def IE.weak{X:Cx}{e:List Stmt}{t b:TS}(h:IE X e t)(w:∀D J H,b D J H->t D J H):IE X e b:=λa s J H D I q=>h a s J H D I (w D J H q)
theorem vH.back{G:Gx}{M j:GU}{U i:VS.Env}{H l:Hp}{D:Ends}(f:GX M U H j i l):∀{o:Out},vH G M U H D o->vH G j i l D o
 |.nx e,h=>λa b d s g=>h a b d s (f.trans g)
 |.bk e,h=>λa b d s g=>h a b d s (f.trans g)
 |.ct e,h=>λa b d s g=>h a b d s (f.trans g)
 |.rt v e,h=>λu d F a b s g r q=>h u d F a b s (f.trans g) r (q.back f)
section
variable{G:Gx}{X:Cx}{st:Stmt}{NF:List Stmt}{c c1 c2:Sx}{pos:Pos}{e:Expr}{ce:Ex}
def aX:gF G X [] dc:=IE.weak Bl λD J H a=>by
 obtain⟨M,U,o,s,e,k⟩:=a;cases (show Z (Out.nx U)=Z o from e);exact k M J H s (GX.refl _ _ _)
def af(i:PSV G X st c1)(h:gF G X NF c2):gF G X (st :: NF) (ak c1 c2):=IE.weak (xo i h) λD J H g=>by
 obtain⟨M,U,o,s,e,k⟩:=g;unfold ak at e;obtain⟨b,e1,e2⟩:=Zz.mp e;refine⟨M,U,b,s,e1,?_⟩;cases b with
 |nx a=>exact λj l m d f=>⟨j,a,o,d,e2,k.back f⟩
 |rt v a=>cases e2;exact k
 |bk a=>cases e2;exact k
 |ct a=>cases e2;exact k
def bK{t:Expr}{f:Ex}{a b:List Stmt}(i:ID G X t f)(l:gF G X a c1)(j:gF G X b c2):PSV G X (.If t a b pos) (Hx f c1 c2):=PS.weak (Co i l j) λD J H h=>by
 obtain⟨M,U,o,s,e,k⟩:=h;unfold Hx at e;obtain⟨⟨m,x⟩,n,e1⟩:=Zz.mp e;obtain⟨g,p,e2⟩:=Zz.mp e1;refine⟨M,U,m,x,g,s,n,p,λq d=>?_⟩;cases g with
 |true =>
  rw[Zq Y]at e2;exact uv ⟨M,U,o,s.same d,e2,k.back (GX.same d)⟩
 |false =>
  rw[Zp Za]at e2;exact uq ⟨M,U,o,s.same d,e2,k.back (GX.same d)⟩
theorem Fp.ret{M:GU}{U:VS.Env}{H:Hp}{F:X7}:∀{m:Md},Fp M U H m F->rW M U H (match m with | .bo=>.pu | m=>m) F
 |.fr,f=>⟨f.1,λa b=>.inl (f.2 a b)⟩
 |.pu,f=>λa b=>(f a b).elim .inl λz=>.inr (.inl z)
 |.bo,f=>f
def bp(b:PV G X e ce):PSV G X (.Return (Z e) pos) (eK ce):=PS.weak (qD b) λD J H a=>by
 obtain⟨M,U,o,s,e,k⟩:=a;unfold eK at e;obtain⟨⟨m,x⟩,d,e1⟩:=Zz.mp e;cases e1;exact⟨M,U,m,x,s,d,λv f F e1 r1 f1=>k v f F M J (s.same e1) (GX.same e1) r1 f1.ret⟩
def cZ{U:VS.Env}{i j:Nat}{c:Cell}(h:(U.set i L)[j]?=Z (Z c)):j≠i/\U[j]?=Z (Z c):=by
 rw[Wt]at h;split at h
 ·split at h<;>cases h
 ·rename_i n;exact⟨λz=>n z.symm,h⟩
def SR.drop{M:GU}{U:VS.Env}{J:L2.St}{H:Hp}(s:SR G M U J H)(i:Nat):SR G M (U.set i L) J H :=
 ⟨by rw[Z8];exact s.len,λj c h=>s.rp j c (cZ h).2,λj t h=>s.nd j t (cZ h).2,λj k t c b a n=>s.sep j k t c (cZ b).2 (cZ a).2 n⟩
def GX.drop{M:GU}{U:VS.Env}{H:Hp}(i:Nat):GX M U H M (U.set i L) H :=
 ⟨λa o h n=>⟨h,λ⟨j,t,d,b⟩=>n ⟨j,t,(cZ d).2,b⟩⟩,λ_ h=>h,λa ⟨j,t,d,b⟩=>.inl ⟨j,t,(cZ d).2,b⟩,λa ⟨j,t,d,b⟩=>.inl ⟨j,t,(cZ d).2,b⟩,Kept.refl H⟩
def cQ(i:Nat){x:Str}{p:Pos}(u:X.N[i]?=Z x:=by rfl)(l:IJ X.env.scope x:=by first | exact Or.inl Y | exact Or.inr (Or.inl Y) | exact Or.inr (Or.inr Y))(r:K3 x:=by decide)(d:K4 x:=by decide):PSV G X (.Return (Z (.Name x p)) pos) (eI i):=PS.weak (qD (fK u l r d)) λD J H n=>by
 obtain⟨M,U,o,s,e,k⟩:=n;unfold eI at e;split at e
 ·rename_i t h;obtain⟨v,j,b⟩:=s.rp _ _ h;cases e;exact⟨v,j,k v H (M i) M J (s.drop i) (GX.drop i) b ⟨s.nd i t h,λa g=>.inr ⟨i,t,h,g⟩⟩⟩
 ·rename_i t h;obtain⟨v,j,b⟩:=s.rp _ _ h;cases e;refine⟨v,j,k v H (M i) M J s (GX.refl _ _ _) b ?_⟩;have f:Fp M U H .pu (M i):=λa g=>.inr ⟨i,t,h,g⟩;have f2:=(f.up b).ret;have:(match (VS.up .pu (i4 (.pu t))).1 with | .bo=>Md.pu | m=>m)=(VS.up .pu t).1:=by
   show (match (VS.up .pu t).1 with | .bo=>Md.pu | m=>m)=_;unfold VS.up;split<;>(rename_i q;revert q;split<;>simp)
  rw[this]at f2;exact f2
 ·cases e
def md(M:GU)(i:Nat)(F:X7):GU:=λj=>if j=i then F else M j
def jG{M:GU}{i:Nat}{F:X7}:md M i F i=F:=Zq Y
def fB{M:GU}{i j:Nat}{F:X7}(h:j≠i):md M i F j=M j:=Zp h
def iz{U:VS.Env}{i j:Nat}{c a:Cell}(h:(U.set i (Z c))[j]?=Z (Z a)):(j=i/\a=c)\/(j≠i/\U[j]?=Z (Z a)):=by
 rw[Wt]at h;split at h
 ·rename_i e;split at h
  ·exact .inl ⟨e.symm,(Zn (Zn h)).symm⟩
  ·cases h
 ·rename_i n;exact .inr ⟨λz=>n z.symm,h⟩
def SR.put{M:GU}{U:VS.Env}{J:L2.St}{H H':Hp}{i:Nat}{v:V}{c:Cell}{F:X7}(s:SR G M U J H)(q:i<U.length)(r:Rp G H' v (i4 c) F)(p:∀j b,j≠i->U[j]?=Z (Z b)->∀w,Rp G H w (i4 b) (M j)->Rp G H' w (i4 b) (M j))(u:∀t,c=.ow t->F.Nodup)(y:∀t,c=.ow t->∀j b,j≠i->U[j]?=Z (Z b)->∀a∈F,a∉M j)(x:∀j t,j≠i->U[j]?=Z (Z (.ow t))->∀a∈M j,a∉F) :
  SR G (md M i F) (U.set i (Z c)) (J.set i (Z v)) H' where
 len:=by rw[Z8,Z8];exact s.len
 rp:=λj b h=>by
  rcases iz h with⟨rfl,rfl⟩ | ⟨n,h⟩
  ·exact⟨v,by rw[Xs (by rw[← s.len];exact q)],by rw[jG];exact r⟩
  ·obtain⟨w,l,f⟩:=s.rp j b h;exact⟨w,by rw[Yp (Ya n)];exact l,by rw[fB n];exact p j b n h w f⟩
 nd:=λj t h=>by
  rcases iz h with⟨rfl,e⟩ | ⟨n,h⟩
  ·rw[jG];exact u t e.symm
  ·rw[fB n];exact s.nd j t h
 sep:=λj k t b l f n=>by
  rcases iz l with⟨rfl,e⟩ | ⟨g,o⟩
  ·rcases iz f with⟨rfl,e2⟩ | ⟨d,m⟩
   ·exact absurd Y n
   ·rw[jG,fB d];exact y t e.symm k b d m
  ·rcases iz f with⟨rfl,e2⟩ | ⟨d,m⟩
   ·rw[jG,fB g];exact x j t g o
   ·rw[fB g,fB d];exact s.sep j k t b o m n
def jQ{M:GU}{U:VS.Env}{i:Nat}{c:Cell}{F:X7}{a:KF}(h:bU (md M i F) (U.set i (Z c)) a):(∃t,c=.ow t/\a∈F)\/bU M U a:=by
 obtain⟨j,t,d,b⟩:=h;rcases iz d with⟨rfl,e⟩ | ⟨n,d⟩
 ·rw[jG]at b;exact .inl ⟨t,e.symm,b⟩
 ·rw[fB n]at b;exact .inr ⟨j,t,d,b⟩
def qd{M:GU}{U:VS.Env}{i:Nat}{c:Cell}{F:X7}{a:KF}(h:dg (md M i F) (U.set i (Z c)) a):(∃t,c=.pu t/\a∈F)\/dg M U a:=by
 obtain⟨j,t,d,b⟩:=h;rcases iz d with⟨rfl,e⟩ | ⟨n,d⟩
 ·rw[jG]at b;exact .inl ⟨t,e.symm,b⟩
 ·rw[fB n]at b;exact .inr ⟨j,t,d,b⟩
def SR.KA{M:GU}{U:VS.Env}{J:L2.St}{H:Hp}(s:SR G M U J H){a:KF}(h:bU M U a)(g:dg M U a):False:=by
 obtain⟨j,t,d,f⟩:=h;obtain⟨k,u,b,i⟩:=g;have n:j≠k:=λe=>by subst e;rw[d]at b;cases b
 exact s.sep j k t _ d b n a f i
def SR.val{M:GU}{U:VS.Env}{J:L2.St}{H y:Hp}{i:Nat}{v:V}{t:T}{m:Md}{F:X7}{c:Cell}(s:SR G M U J H)(C:i<U.length)(e:aG H y)(r:Rp G y v t F)(f:Fp M U H m F)(p:(c=.pu t/\m ≠ .bo)\/(c=.ow t/\m=.fr)):SR G (md M i F) (U.set i (Z c)) (J.set i (Z v)) y/\GX M U H (md M i F) (U.set i (Z c)) y:=by
 have G1:∀{a},H a=L->∀j x,U[j]?=Z (Z x)->a∉M j:=λ{a} h j x g b=>by
  obtain⟨w,_,q⟩:=s.rp j x g;exact GV.jj (q.G1 a b) h
 have ct:i4 c=t:=by rcases p with⟨rfl,_⟩ | ⟨rfl,_⟩<;>rfl
 have A:∀a∈F,H a=L\/dg M U a:=λa b=>by
  rcases p with⟨_,n⟩ | ⟨_,n⟩
  ·exact f.pu n a b
  ·rw[n]at f;exact .inl (f.2 a b)
 constructor
 ·refine s.put C (by rw[ct];exact r) (λj x n g w q=>q.same e) (λu d=>?_) (λu d j x n g a b=>?_) λj u n g a b D=>?_
  ·rcases p with⟨h,_⟩ | ⟨_,h⟩
   ·rw[h]at d;cases d
   ·rw[h]at f;exact f.1
  ·rcases p with⟨h,_⟩ | ⟨_,h⟩
   ·rw[h]at d;cases d
   ·rw[h]at f;exact G1 (f.2 a b) j x g
  ·rcases A a D with z | z
   ·exact G1 z j _ g b
   ·exact s.KA ⟨j,u,g,b⟩ z
 ·refine⟨λa o h n=>⟨e a o h,λz=>?_⟩,λa h z=>h (e.free z),λa h=>?_,λa h=>?_,Kept.of e⟩
  ·rcases jQ z with⟨u,d,b⟩ | z
   ·rcases p with⟨l,_⟩ | ⟨_,l⟩
    ·rw[l]at d;cases d
    ·rw[l]at f;rw[f.2 a b]at h;cases h
   ·exact n z
  ·rcases jQ h with⟨u,d,b⟩ | z
   ·rcases p with⟨l,_⟩ | ⟨_,l⟩
    ·rw[l]at d;cases d
    ·rw[l]at f;exact .inr (f.2 a b)
   ·exact .inl z
  ·rcases qd h with⟨u,d,b⟩ | z
   ·exact(A a b).elim (λz=>.inr (.inr z)) .inl
   ·exact .inl z
def fm{i:Nat}{x:Str}{a:Pos}(q:PV G X e ce)(r:X.N.Nodup)(n:X.N[i]?=Z x:=by rfl)(g:Loc X.env.scope x:=by first | exact Or.inl Y | exact Or.inr Y)(h:swapsWith e (Z (.Name x a)) pos.line X.env=pure B:=by rfl)(p:X.fn x=R\/X.env.scope.names.lookup x=Z .local:=by first | exact .inl Y | exact .inr Y) :
  PSV G X (.Assign [.Name x a] e pos) (j5 i ce):=PS.weak (pI r n g q h p) λD J H j=>by
 obtain⟨M,U,o,s,e,k⟩:=j;unfold j5 at e;obtain⟨⟨m,t⟩,w,e1⟩:=Zz.mp e;obtain⟨c,eC,e2⟩:=Zz.mp e1;split at e2
 ·rename_i l;cases e2;refine⟨M,U,m,t,s,w,λv z F y b u=>?_⟩;obtain⟨f,d⟩:=s.val (c:=c) l y b u (by
   unfold cellOf at eC;cases m with
   |fr =>
    simp only[Option.some.injEq]at eC;split at eC
    ·exact .inr ⟨eC.symm,rfl⟩
    ·exact .inl ⟨eC.symm,by decide⟩
   |pu=>cases eC;exact .inl ⟨rfl,by decide⟩
   |bo=>cases eC)
  exact k _ _ z f d
 ·cases e2
def aA{i:Nat}{x:Str}{a:Pos}(r:PV G X e ce)(u:X.N.Nodup)(p:X.N[i]?=Z x:=by rfl)(g:Loc X.env.scope x:=by first | exact Or.inl Y | exact Or.inr Y)(h:swapsWith e (Z (.Name x a)) pos.line X.env=pure B:=by rfl)(q:X.fn x=R\/X.env.scope.names.lookup x=Z .local:=by first | exact .inl Y | exact .inr Y) :
  PSV G X (.Assign [.Name x a] e pos) (aK i ce):=PS.weak (pI u p g r h q) λD J H j=>by
 obtain⟨M,U,o,s,e,k⟩:=j;unfold aK at e;obtain⟨⟨m,t⟩,y,e1⟩:=Zz.mp e;split at e1
 ·cases e1
 ·rename_i l;split at e1
  ·rename_i n;cases e1;refine⟨M,U,m,t,s,y,λv A F z b w=>?_⟩;obtain⟨f,d⟩:=s.val (c:=.pu t) n z b w (.inl ⟨rfl,l⟩);exact k _ _ A f d
  ·cases e1
def SR.frz{M:GU}{U:VS.Env}{J:L2.St}{H:Hp}{i:Nat}{t:T}(s:SR G M U J H)(h:U[i]?=Z (Z (.ow t))):SR G M (U.set i (Z (.pu t))) J H/\GX M U H M (U.set i (Z (.pu t))) H:=by
 have back:∀{j c},(U.set i (Z (.pu t)))[j]?=Z (Z c)->∃l,U[j]?=Z (Z l)/\i4 l=i4 c/\∀u,c=.ow u->l=.ow u:=λ{j c} g=>by
  rcases iz g with⟨rfl,rfl⟩ | ⟨n,g⟩
  ·exact⟨.ow t,h,rfl,λu p=>nomatch p⟩
  ·exact⟨c,g,rfl,λu p=>p⟩
 refine⟨⟨by rw[Z8];exact s.len,λj c g=>?_,λj u g=>?_,λj k u c b d n=>?_⟩,⟨λa o r n=>⟨r,λ⟨j,u,b,d⟩=>?_⟩,λ_ h=>h,λa ⟨j,u,b,d⟩=>?_,λa ⟨j,u,b,d⟩=>?_,Kept.refl H⟩⟩
 ·obtain⟨l,b,d,_⟩:=back g;obtain⟨v,f,x⟩:=s.rp j l b;exact⟨v,f,by rw[← d];exact x⟩
 ·obtain⟨l,b,_,w⟩:=back g;rw[w u Y]at b;exact s.nd j u b
 ·obtain⟨c1,f,_,m⟩:=back b;obtain⟨c2,q,_,_⟩:=back d;rw[m u Y]at f;exact s.sep j k u c2 f q n
 ·obtain⟨c1,f,_,m⟩:=back b;rw[m u Y]at f;exact n ⟨j,u,f,d⟩
 ·obtain⟨c1,f,_,m⟩:=back b;rw[m u Y]at f;exact .inl ⟨j,u,f,d⟩
 ·rcases iz b with⟨rfl,_⟩ | ⟨n,b⟩
  ·exact .inr (.inl ⟨j,t,h,d⟩)
  ·exact .inl ⟨j,u,b,d⟩
def qJ(i:Nat)(h:gF G X NF c):gF G X NF (ak (wZ i) c):=IE.weak h λD J H f=>by
 obtain⟨M,U,o,s,e,k⟩:=f;unfold ak at e;obtain⟨g,e1,e2⟩:=Zz.mp e;unfold wZ at e1;split at e1
 ·rename_i t d;cases e1;obtain⟨b,a⟩:=s.frz d;exact⟨M,_,o,b,e2,k.back a⟩
 ·cases e1;exact⟨M,U,o,s,e2,k⟩
 ·cases e1
end
section
variable{G:Gx}{X:Cx}{st:Stmt}{NF:List Stmt}{c c1 c2:Sx}{pos:Pos}{e:Expr}{es:List Expr}{ce:Ex}{cs:Hf}
structure Chg(G:Gx)(H:Hp)(v:V)(F:X7)(t':T)(H2:Hp)(F':X7):Prop where
 kept:Kept H H2
 keep:∀b o,b∉F->H b=some o->H2 b=some o
 G1:∀b,H b≠none->H2 b≠none
 rp:Rp G H2 v t' F'
 nd:F'.Nodup
 sub:∀a∈F',a∈F\/H a=none
def SR.mut{M:GU}{U:VS.Env}{J:L2.St}{H x:Hp}{i:Nat}{v:V}{t r:T}{p:X7}(s:SR G M U J H)(m:U[i]?=Z (Z (.ow t)))(A:J[i]?=Z (Z v))(g:Chg G H v (M i) r x p) :
  SR G (md M i p) (U.set i (Z (.ow r))) J x/\GX M U H (md M i p) (U.set i (Z (.ow r))) x:=by
 have D:i<U.length:=(Zh.mp m).1;have off:∀j d,j≠i->U[j]?=Z (Z d)->∀a∈M j,a∉M i:=λj d n f a b l=>s.sep i j t d m f (Ya n) a l b;have es:J.set i (Z v)=J:=by
  obtain⟨h,e⟩:=Zh.mp A;rw[← e];exact XI h
 have new:∀a∈p,∀j d,j≠i->U[j]?=Z (Z d)->a∉M j:=λa b j d n f l=>by
  rcases g.sub a b with z | z
  ·exact off j d n f a l z
  ·obtain⟨w,_,q⟩:=s.rp j d f;exact GV.jj (q.G1 a l) z
 constructor
 ·have:=s.put (c:=.ow r) (F:=p) (H':=x) (v:=v) D g.rp (λj d n f w q=>q.keep g.kept λa b o C=>g.keep a o (off j d n f a b) C) (λ_ _=>g.nd) (λu y j d n f a b=>new a b j d n f) λj u n f a b l=>new a l j _ n f b;rw[es]at this;exact this
 ·refine⟨λa o h n=>⟨g.keep a o (λz=>n ⟨i,t,m,z⟩) h,λz=>?_⟩,g.G1,λa h=>?_,λa h=>?_,g.kept⟩
  ·rcases jQ z with⟨u,_,b⟩ | z
   ·rcases g.sub a b with z | z
    ·exact n ⟨i,t,m,z⟩
    ·rw[z]at h;cases h
   ·exact n z
  ·rcases jQ h with⟨u,_,b⟩ | z
   ·rcases g.sub a b with z | z
    ·exact .inl ⟨i,t,m,z⟩
    ·exact .inr z
   ·exact .inl z
  ·rcases qd h with⟨u,y,b⟩ | z
   ·cases y
   ·exact .inl z
def yI(G:Gx)(r:V->List V->Hp->VK->Prop)(f:T->W3->Option (T×Val)):Prop:=∀(M:GU)(U:VS.Env)(H g:Hp)(v:V)(t b:T)(F:X7)(l:W3)(a:List V)(h:Xg)(x:Val)(Q:VK),
 Rp G H v t F->F.Nodup->Args G M U H g l a h->f t l=Z (b,x)->(∀u d i,Chg G H v F b d i->Q u d)->r v a g Q
def xD{q m:String}{a x:Str}{r:V->List V->Hp->VK->Prop}{f:T->W3->Option (T×Val)}{b d j:Pos}(i:Nat)(pa:PlainAttrs q)(h:Slot q a m)(MD:typeOf (.builtin m)=pure (.type "method_descriptor"))(hm:OI X m r)(ok:yI G r f)(hT:∀H v t F l z,Rp G H v t F->f t l=Z z->LO G.K q v H)(ha:HM G X (e :: es) cs)(hK:X.K=G.K:=by rfl)(hN:X.N[i]?=Z x:=by rfl)(hv:IJ X.env.scope x:=by first | exact Or.inl Y | exact Or.inr (Or.inl Y) | exact Or.inr (Or.inr Y))(hd:K3 x:=by decide)(p:K4 x:=by decide)(G6:UF (.Name x j) a X.env (eval (.Name x j) X.env)=eval (.Name x j) X.env:=by rfl)(Hz:((backTo d (Pi (e :: es) X.env)).all (λx=>!x.1)&&(backToKw d (SB [] X.env)).all (λx=>x.1.isSome)
   && decide ((e :: es).length+([]:List Keyword).length+(if ([]:List Keyword).isEmpty then 0 else 1)<30))=R:=by rfl)(G4:(b.endLine==d.line)=R:=by rfl)(hs:K1 e es X:=by rfl)(G0:K2 d es X:=by rfl)(J8:swapsWith (.Call (.Attribute (.Name x j) a b) (e :: es) [] d) L pos.line X.env=pure B:=by rfl) :
  PSV G X (.Expr (.Call (.Attribute (.Name x j) a b) (e :: es) [] d) pos) (sX (mh i [] f cs)) :=
 PS.weak (kM (rR pa h MD hm (fK hN hv hd p) ha G6 Hz G4 hs G0) J8) λD J H hq=>by
  obtain⟨M,U,o,s,e,k⟩:=hq;unfold sX mh at e;obtain⟨⟨w,U'⟩,e1,e2⟩:=Zy.mp e;split at e1
  ·rename_i t n;obtain⟨ks,ek,e3⟩:=Zz.mp e1;cases (show Z ([]:List Ky)=Z ks from ek);obtain⟨l,el,e4⟩:=Zz.mp e3;obtain⟨⟨y,x2⟩,e5,e6⟩:=Zy.mp e4;cases e6;cases e2;obtain⟨v,C,A⟩:=s.rp _ _ n;have E:f t l=Z (y,w):=e5;refine⟨v,C,by rw[hK];exact hT H v t _ l _ A E,M,U,l,s,el,λQ H' Fs q1 q2 S=>?_⟩;refine ok M U H H' v t y (M i) l Q Fs w _ A (s.nd i t n) ⟨q1,q2,S⟩ E λu H2 F' g=>?_;obtain⟨P,O⟩:=s.mut n C g;exact k _ J H2 P O
  ·cases e1
theorem Chg.upd{H d:Hp}{v:V}{F:X7}{a:KF}{o:HO}{t':T}{f:X7}(e:aG H d)(m:a∈F)(l:GV (d a))(r:Rp G (upd d a o) v t' f)(j:f.Nodup)(g:∀a∈f,a∈F\/H a=L):Chg G H v F t' (upd d a o) f :=
 ⟨(Kept.of e).trans (Kept.upd (.inl l)),λb i hb h=>by rw[aC (λz=>hb (by rw[z];exact m))];exact e b i h,
  λb h z=>by
   by_cases q:b=a
   ·subst q;rw[aw]at z;cases z
   ·rw[aC q]at z;exact h (e.free z),r,j,g⟩
def RpL.off{H:Hp}{f:List V}{g:W5}{d:Xg}{a:KF}{o:HO}(r:RpL G H f g d)(j:GV (H a))(h:a∉d.flatten):RpL G (upd H a o) f g d :=
 r.keep (Kept.upd (.inl j)) λb hb l i=>by rw[aC (λz=>h (by rw[← z];exact hb))];exact i
def mE{v:Val}{t:T}(h:fit v=Z t):v=(.fr,t):=by
 obtain⟨m,x⟩:=v;unfold fit at h;cases m<;>first | (cases h;rfl) | cases h
def o8:yI G vf aF:=by
 intro M U H j v t S F l s O x Q r nd A e k;unfold aF at e;split at e
 ·rename_i P y;obtain⟨z,E,e1⟩:=Zz.mp e;have J:=mE E;subst J;split at e1
  ·rename_i C;cases e1;obtain⟨a,p,n,rfl,rfl,i,g⟩:=r.lst_inv;obtain⟨w,f,rfl,rfl,N⟩:=(show RpL G j s [z] O from A.rp).one;have d:Fp M U H .fr f:=A.fp.each 0 _ _ Y Y;have q:j a=Z (.lst p):=A.same a _ i;have h:GV (j a):=by rw[q];exact True.intro
   have na:a∉n.flatten:=(Zf.mp nd).1;have nw:a∉f:=λz=>by rw[d.2 a z]at i;cases i
   refine⟨a,p,w,rfl,rfl,q,by rw[g.len.1];exact C,k _ _ (a :: (n++[f]).flatten) ?_⟩;have off:∀b∈n.flatten,b∉f:=λb hb hw=>GV.jj (g.G1 b hb) (d.2 b hw);refine Chg.upd A.same Zt h (.lst aw (((g.same A.same).off h na).append (.cons (N.keep (Kept.upd (.inl h)) λb hb o u=>by rw[aC (λz=>nw (by rw[← z];exact hb))];exact u) .nil))) ?_ ?_
   ·rw[Z7];refine Zf.mpr ⟨λm=>?_,ZP.mpr ⟨(Zf.mp nd).2,by simpa using d.1,λb hb c D z=>?_⟩⟩
    ·rcases ZY.mp m with m | m
     ·exact na m
     ·exact nw (by simpa using m)
    ·subst z;exact off b hb (by simpa using D)
   ·intro b hb;rcases Zi.mp hb with rfl | hb
    ·exact .inl Zt
    ·rw[Z7]at hb;rcases ZY.mp hb with hb | hb
     ·exact .inl (Zu _ hb)
     ·exact .inr (d.2 b (by simpa using hb))
  ·cases e1
 ·cases e
def yf{H:Hp}{v:V}{b:W5}{F:X7}(r:Rp G H v (.lst b) F):LO G.K "list" v H:=by
 obtain⟨a,f,h,rfl,rfl,d,g⟩:=r.lst_inv;exact .inl ⟨rfl,_,G5.of d⟩
def l8{H:Hp}{v:V}{t:T}{F:X7}{l:W3}{z:T×Val}(r:Rp G H v t F)(h:aF t l=Z z):LO G.K "list" v H:=by
 unfold aF at h;split at h
 ·exact yf r
 ·cases h
end
structure K6(G:Gx)(Jq:It)(l:W5)(C:X7)(H:Hp):Prop where
 run:∀H2,Kept H H2->(∀a∈C,∀o,H a=some o->H2 a=some o) →
  (∀(i:Nat)(t:T),l[i]?=some t->Jq.go i H2/\∀x H3,Jq.OM i H2 x H3->aG H2 H3/\∃F,Rp G H3 x t F/\∀a∈F,a∈C\/H2 a=none)/\∀(i:Nat),l.length<=i->Jq.stop i H2
 G1:∀a∈C,H a≠none
def TZ(M:GU)(U:VS.Env)(H:Hp)(m:Md)(C:X7):Prop:=∀a∈C,H a=L\/dg M U a\/(m=.bo/\bU M U a)
theorem Fp.c{M:GU}{U:VS.Env}{H:Hp}{F:X7}:∀{m:Md},Fp M U H m F->TZ M U H m F
 |.fr,f=>λa b=>.inl (f.2 a b)
 |.pu,f=>λa b=>(f a b).imp id .inl
 |.bo,f=>λa b=>(f a b).imp id λz=>z.imp id λz=>⟨rfl,z⟩
def tI(G:Gx)(c:JB):TI:=λJ H R=>∃M U m l,SR G M U J H/\c U=Z (m,l)/\∀b a C,aG H a->K6 G b l C a->TZ M U H m C->R b a
def Pn(G:Gx)(X:Cx)(b a:Expr)(c:JB):Prop:=PI X b a (tI G c)
def PI.weak{X:Cx}{b e:Expr}{t d:TI}(h:PI X b e t)(w:∀J H Q,d J H Q->t J H Q):PI X b e d:=λa s J H Q I q=>h a s J H Q I (w J H Q q)
section
variable{G:Gx}{X:Cx}{tg e a b:Expr}{es:List Expr}{ca cb:Ex}{cs:Hf}{pos p:Pos}
def qR(H:Hp)(d:Int)(n:Nat):K6 G (Pp d n) (rng d n) [] H:=by
 refine⟨λq _ _=>⟨λi t h=>?_,λi h=>(by simpa[rng] using h:n<=i)⟩,λa h=>by simp at h⟩;unfold rng at h;rw[ZS]at h;obtain⟨k,g,e⟩:=Zy.mp h;obtain⟨f,e2⟩:=Zh.mp g;rw[ZC]at f;have j:i=k:=by simpa using e2
 subst j;refine⟨f,λx o ⟨m,l⟩=>?_⟩;subst m;subst l;rw[← e];exact⟨aG.refl _,[],.int _,λa h=>by simp at h⟩
def iy(u:PV G X a ca)(t:Gl X "range")(r:X.mg "range" = L)(o:K1 a [] X:=by rfl)(z:Pi [a] X.env=[(B,eval a X.env)]:=by rfl):Pn G X tg (.Call (.Name "range" p) [a] [] pos) (df ca) :=
 PI.weak (lC t r (cA u fO o) z) λJ H R q=>by
  obtain⟨M,U,m,l,s,e,k⟩:=q;unfold df at e;obtain⟨⟨n,x⟩,w,e1⟩:=Zz.mp e;obtain⟨j,f,e2⟩:=Zz.mp e1;split at e2
  ·rename_i d;cases e2;refine⟨M,U,n,x,s,w,λv g F y i C=>?_⟩;cases x with
   |int A =>
    cases f;refine⟨j,by rw[i.int_inv],?_,?_,k _ g [] y (qR g 0 j.toNat) λa h=>by simp at h⟩
    ·have:=d.1;unfold LL at this;lia
    ·have:=d.2;unfold LL at this;lia
   |_=>cases f
  ·cases e2
def dw{d:Xg}{i:Nat}{F:X7}(h:d[i]?=Z F){a:KF}(f:a∈F):a∈d.flatten:=(cJ h).subset f
def Bh{H:Hp}{a:KF}{d:List V}{f:W5}{j:Xg}(K:Xd)(l:H a=Z (.lst d))(r:RpL G H d f j):K6 G (R4 K a) f (a :: j.flatten) H:=by
 refine⟨λn k c=>?_,λb hb=>?_⟩
 ·have g:n a=Z (.lst d):=c a Zt _ l;have r2:RpL G n d f j:=r.keep k λb hb o q=>c b (Zu _ hb) o q;refine⟨λi t h=>?_,λi h=>⟨d,G5.of g,by rw[r.len.1];exact h⟩⟩;obtain⟨v,F,m,u,s⟩:=r2.get i h;refine⟨⟨d,v,G5.of g,m⟩,λx w ⟨e1,e2⟩=>?_⟩;subst e1;have ex:=e2 d (G5.of g);rw[m]at ex;cases ex;exact⟨aG.refl _,F,s,λb hb=>.inl (Zu _ (dw u hb))⟩
 ·rcases Zi.mp hb with rfl | hb
  ·rw[l];exact λz=>nomatch z
  ·exact GV.jj (r.G1 b hb)
def DD{H:Hp}{a:KF}{d:List V}{f:W5}{j:Xg}(K:Xd)(q:H a=Z (.tup d))(r:RpL G H d f j):K6 G (R3 K a) f j.flatten H:=by
 refine⟨λm k c=>?_,λb hb=>GV.jj (r.G1 b hb)⟩;have g:m a=Z (.tup d):=k.tup a _ q;have r2:RpL G m d f j:=r.keep k λb hb o n=>c b hb o n;refine⟨λi t h=>?_,λi h=>⟨d,HS.of g,by rw[r.len.1];exact h⟩⟩;obtain⟨v,F,l,u,s⟩:=r2.get i h;refine⟨⟨d,v,HS.of g,l⟩,λx w ⟨e1,e2⟩=>?_⟩;subst e1;have ex:=e2 d (HS.of g);rw[l]at ex;cases ex;exact⟨aG.refl _,F,s,λb hb=>.inl (dw u hb)⟩
def tG(G:Gx)(g:Tg):TG:=λv J H Q=>∃M U t F d,SR G M U J H/\Rp G H v t F/\(∀a∈F,¬bU M U a)/\g t U=Z d ∧
 ∀f h,SR G f d h H->(∀a,bU f d a->bU M U a)->(∀a,dg f d a->dg M U a\/a∈F)->Q h H
def OH(G:Gx)(X:Cx)(e:Expr)(g:Tg):Prop:=PG X e (tG G g)
def PG.weak{X:Cx}{e:Expr}{t f:TG}(h:PG X e t)(w:∀v J H Q,f v J H Q->t v J H Q):PG X e f:=λd s J H v u Q I r q=>h d s J H v u Q I r (w v J H Q q)
def bR(i:Nat){x:Str}(C:X.N.Nodup)(y:X.N[i]?=Z x:=by rfl)(l:Loc X.env.scope x:=by first | exact Or.inl Y | exact Or.inr Y)(A:X.fn x=R\/X.env.scope.names.lookup x=Z .local:=by first | exact .inl Y | exact .inr rfl):OH G X (.Name x pos) (bL i):=PG.weak (uS C y l A) λv J H Q m=>by
 obtain⟨M,U,t,F,O,s,r,no,e,k⟩:=m;unfold bL at e;split at e
 ·rename_i o;cases e;refine k (md M i F) (J.set i (Z v)) (s.put (c:=.pu t) o r (λj E n g w q=>q) (λu d=>nomatch d) (λu d=>nomatch d) λj u n g a f D=>no a D ⟨j,u,g,f⟩) (λa h=>?_) λa h=>?_
  ·rcases jQ h with⟨u,d,_⟩ | z
   ·cases d
   ·exact z
  ·rcases qd h with⟨u,d,f⟩ | z
   ·exact .inr f
   ·exact .inl z
 ·cases e
def oP{tgt:Tg}{body:Sx}{l:W5}{U:VS.Env}{i:Nat}{t:T}(h:l[i]?=Z t):l.drop i=t :: l.drop (i+1):=by
 obtain⟨d,e⟩:=Zh.mp h;rw[← e];exact List.drop_eq_getElem_cons d
def x9{ci:JB}{g:Tg}{cb:Sx}{D:Ends}{J:L2.St}{H:Hp}(hq:tS G (gS g ci cb) D J H):FC (tI G ci) (tG G g) (tS G cb) D J H:=by
 obtain⟨M,U,o,s,e,k⟩:=hq;unfold gS at e;obtain⟨⟨m,l⟩,el,e1⟩:=Zz.mp e;dsimp only at e1;split at e1
 ·rename_i hm;have HQ:m ≠ .bo:=λz=>by rw[z]at hm;cases hm
  refine⟨M,U,m,l,s,el,λJq S C e2 ok fc=>?_⟩;have WD:∀a∈C,¬bU M U a:=λa A z=>by
   rcases fc a A with q | q | q
   ·exact GV.jj (s.Hg z) q
   ·exact s.KA z q
   ·exact HQ q.1
  refine⟨λi n J2 Q=>n=l.length-i/\∃P d,SR G P d J2 Q/\GX M U H P d Q/\Kept S Q/\(∀a∈C,∀o,S a=Z o->Q a=Z o/\¬bU P d a)/\forL g cb (l.drop i) d=Z o,
   ⟨l.length-0,rfl,M,U,s.same e2,GX.same e2,Kept.refl _,λa A y E=>⟨E,WD a A⟩,by rw[List.drop_zero];exact e1⟩,?_⟩
  rintro i n J2 Q ⟨rfl,P,d,s2,f2,kp,con,e3⟩;obtain⟨go,stop⟩:=ok.run Q kp λa A y E=>(con a A y E).1;cases hit:l[i]? with
  |none =>
   have hl:l.length<=i:=Z3.mp hit;left;rw[YG hl]at e3;cases (show Z (Out.nx d)=Z o from e3);exact⟨stop i hl,k P J2 Q s2 f2⟩
  |some t =>
   have hl:i<l.length:=(Zh.mp hit).1;right;obtain⟨g1,y1⟩:=go i t hit;rw[oP (tgt:=g) (body:=cb) (U:=d) hit]at e3;obtain⟨U3,e4,e5⟩:=Zz.mp (show (g t d).bind (λU1=>(cb U1).bind λo=>match o with
    |.nx d=>forL g cb (l.drop (i+1)) d
    |.ct d=>forL g cb (l.drop (i+1)) d
    |.bk d=>Z (.nx d)
    |.rt v d=>Z (.rt v d))=Z o from e3)
   obtain⟨y,e6,e7⟩:=Zz.mp e5;refine⟨g1,λN r=>∃j f,SR G j f N r/\GX M U H j f r/\Kept S r/\(∀a∈C,∀o,S a=Z o->r a=Z o/\¬bU j f a)/\forL g cb (l.drop (i+1)) f=Z o,λN r ⟨j,f,q⟩=>⟨l.length-(i+1),by omega,rfl,j,f,q⟩,λx H3 yl=>?_⟩;obtain⟨Y,F,rF,hF⟩:=y1 x H3 yl;have s3:=s2.same Y;have UD:∀a∈F,¬bU P d a:=λa A z=>by
    rcases hF a A with q | q
    ·have IK:=ok.G1 a q;cases E:S a with
     |none=>exact IK E
     |some UB=>exact(con a q UB E).2 z
    ·exact GV.jj (s2.Hg z) q
   refine⟨P,d,t,F,U3,s3,rF,UD,e4,λM3 J3 s4 o3 p3=>?_⟩;have f3:GX M U H M3 U3 H3:=⟨λa y h n=>let ⟨h1,n1⟩:=f2.keep a y h n;⟨Y a y h1,λz=>n1 (o3 a z)⟩,λa h z=>f2.G1 a h (Y.free z),λa h=>f2.ow a (o3 a h),λa h=>by
    rcases p3 a h with h | h
    ·exact f2.pu a h
    ·rcases hF a h with q | q
     ·rcases fc a q with q | q | q
      ·exact .inr (.inr q)
      ·exact .inl q
      ·exact .inr (.inl q.2)
     ·exact .inr (.inr (f2.none q)),f2.kept.trans (Kept.of Y)⟩
   have next:∀{j f r},GX M3 U3 H3 j f r->Kept S r/\∀a∈C,∀o,S a=Z o->r a=Z o/\¬bU j f a:=λw =>
    ⟨(kp.trans (Kept.of Y)).trans w.kept,λa A y E=>by
     obtain⟨h1,n1⟩:=con a A y E;exact w.keep a y (Y a y h1) λz=>n1 (o3 a z)⟩
   refine⟨M3,U3,y,s4,e6,?_⟩;cases y with
   |nx f=>exact λj N r O w=>⟨j,f,O,f3.trans w,(next w).1,(next w).2,e7⟩
   |ct f=>exact λj N r O w=>⟨j,f,O,f3.trans w,(next w).1,(next w).2,e7⟩
   |bk f =>
    cases (show Z (Out.nx f)=Z o from e7);exact λj N r O w=>k j N r O (f3.trans w)
   |rt v f =>
    cases (show Z (Out.rt v f)=Z o from e7);exact λu r F4 j N O w r5 q5=>k u r F4 j N O (f3.trans w) r5 (q5.back f3)
 ·cases e1
def fT{d:Expr}{f:List Stmt}{h:JB}{g:Tg}{i:Sx}(m:PassesOwn (IR X.prog X.w) X.A X.env X.xe)(q:X.calm=R)(n:Pn G X tg d h)(o:OH G X tg g)(r:gF G X f i)(j:∀x,UV d X.env x=pure x:=by intro _;rfl):PSV G X (.For tg d f [] pos) (gS g h i):=PS.weak (xk m q n o r j) λD J H l=>x9 l
end
def GH(H:Hp)(b:Xg):Md->X7->Prop
 |.fr,F=>F.Nodup/\∀a∈F,H a=L
 |_,F=>∀a∈F,H a=L\/a∈b.flatten
def I0(G:Gx)(g:Fn):Sp:=λe H Q _=>∃b d m r,RpL G H e b d/\g b=Z (m,r)/\∀v a F,aG H a->Rp G a v r F->GH H d m F->Q v a
section
variable{G:Gx}{X:Cx}{k:Nat}{f:KF}{fd:Pv}{ps:List Str}{x:Str}{p pos:Pos}{e:Expr}{es:List Expr}{cs:Hf}{g:Fn}
def call_of{J:L2.St}{H:Hp}{Q:VK}{E:XK}(h:tE G (bh g cs) J H Q):B9 (I0 G g) [] E (Nd G cs) J H Q:=by
 obtain⟨M,U,m,t,s,e,u⟩:=h;unfold bh at e;obtain⟨l,Y,e1⟩:=Zz.mp e;obtain⟨⟨n,r⟩,S,e2⟩:=Zz.mp e1;refine⟨M,U,l,s,Y,λN y D b P O=>?_⟩;have A:Args G M U H y l N D:=⟨b,P,O⟩
 have i:=O.join A.len;show I0 G g (N++[]) y Q E;rw[Zg];refine⟨trees l,D,n,r,P,S,λv C F q o j=>?_⟩;have wide:(∀a∈F,y a=L\/a∈D.flatten)->Fp M U H ((Md.pu).join (cK l)) F:=λh=>by
  cases w:cK l with
  |fr =>
   rw[w]at i;exact λa d=>.inl ((h a d).elim b.free (i.2 a))
  |pu =>
   rw[w]at i;exact λa d=>(h a d).elim (λz=>.inl (b.free z)) (i a)
  |bo =>
   rw[w]at i;exact λa d=>(h a d).elim (λz=>.inl (b.free z)) (i a)
 cases n with
 |fr =>
  cases e2;exact u v C F (b.trans q) o ⟨j.1,λa d=>b.free (j.2 a d)⟩
 |pu =>
  cases e2;exact u v C F (b.trans q) o (wide j)
 |bo =>
  cases e2;exact u v C F (b.trans q) o (wide j)
def AR(F:FnOk X.prog X.w X.K X.mg X.base Hi k f fd ps (I0 G g))(b:p0 k X.A)(j:Gl X x)(d:X.mg x=Z (.ref f))(i:PySem.W.keepIn X.K (.ref f)=R)(m:Binds X.K fd ps [])(n:HM G X (e :: es) cs)(o:K3 x:=by decide)(l:K1 e es X:=by rfl)(a:K2 pos es X:=by rfl) :
  PV G X (.Call (.Name x p) (e :: es) [] pos) (bh g cs) :=
 PE.weak (mL F b j d i m .nil g9 n o l a) λJ H Q h=>call_of h
def zk{H:Hp}{d:List V}{a:W5}{m:Xg}(r:RpL G H d a m)(n o:Nat)(w:o=d.length):SR G (λi=>m.getD i []) (a.map (λt=>Z (.pu t))++List.replicate (n-a.length) L) (d.map Z++List.replicate (n-o) L) H:=by
 subst w;have A:=r.len;have back:∀{i:Nat}{c:Cell},(a.map (λt=>Z (Cell.pu t))++List.replicate (n-a.length) L)[i]?=Z (Z c)->∃t,a[i]?=Z t/\c=.pu t:=λ{i c} h=>by
  by_cases q:i<a.length
  ·rw[ZA (by rw[Zw];exact q),ZS]at h;obtain⟨t,l,b⟩:=Zy.mp h;exact⟨t,l,(Zn b).symm⟩
  ·rw[Yx (by rw[Zw];exact ZQ q),Yd]at h;split at h<;>cases h
 refine⟨by simp;lia,λi c h=>?_,λi t h=>?_,λi j t c h=>?_⟩
 ·obtain⟨t,l,rfl⟩:=back h;obtain⟨v,F,s,z,y⟩:=r.get i l;refine⟨v,?_,?_⟩
  ·have:i<d.length:=(Zh.mp s).1;rw[ZA (by rw[Zw];exact this),ZS,s];rfl
  ·show Rp G H v t (m.getD i []);rw[Zs,z];exact y
 ·obtain⟨u,_,b⟩:=back h;cases b
 ·obtain⟨u,_,b⟩:=back h;cases b
def jq{b:W5}{n:Nat}{M:GU}{a:KF}:¬bU M (b.map (λt=>Z (Cell.pu t))++List.replicate n L) a:=by
 rintro⟨i,t,h,_⟩;by_cases d:i<b.length
 ·rw[ZA (by rw[Zw];exact d),ZS]at h;obtain⟨l,_,j⟩:=Zy.mp h;cases j
 ·rw[Yx (by rw[Zw];exact ZQ d),Yd]at h;split at h<;>cases h
def qY{H:Hp}{vs:List V}{j:W5}{d:Xg}{n:Nat}{a:KF}(h:dg (λi=>d.getD i []) (j.map (λt=>Z (Cell.pu t))++List.replicate n L) a):a∈d.flatten:=by
 obtain⟨i,t,_,b⟩:=h;simp only[Zs]at b;cases e:d[i]? with
 |none=>rw[e]at b;simp at b
 |some F=>rw[e]at b;exact dw e b
end
section
variable{G:Gx}{P:P3}{w:SZ}{K:Xd}{mg:X6}{base:SL}
def Rx{x b:Str}{e:Stmt}{f:KF}{M:Pv}{N n:List Str}{k J j:Nat}{c:Sx}(F:GW K x b e f M)(S:gV N n (ai e))(hp:n.length=J)(hn:N.length=j)(hb:∀(l:KM)(A:Re)(outer:List PySem.Env)(s:GM)(H:Hp)(E:XK),p0 k (A.deeper (envOfC b (ai e) s.heap.objs.size f l))->gF G (iR Hi P w K mg base N b (ai e) f l A outer s H E).Jm (aU e) c) :
  FnOk P w K mg base Hi (k+1) f M n (I0 G (fn J j c)):=by
 refine F.ok S (λvs H Q E h=>?_) λl A outer s H vs Q E hr h=>⟨_,hb l A outer s H E hr,?_⟩
 ·obtain⟨O,Fs,m,r,t,d,_⟩:=h;unfold fn at d;split at d
  ·rename_i p;rw[t.len.1,p,hp]
  ·cases d
 ·obtain⟨O,Fs,m,r,t,d,q⟩:=h;unfold fn at d;split at d
  ·rename_i p;obtain⟨o,e1,e2⟩:=Zz.mp d;have D:=zk t j vs.length Y;rw[p]at D;have e3:L2.start N vs=vs.map Z++List.replicate (j-vs.length) L:=by
    unfold L2.start;rw[hn]
   rw[e3];refine⟨_,_,o,D,e1,?_⟩;cases o with
   |nx y =>
    cases e2;intro M' J' C U fr;exact q .non C [] (λa o h=>(fr.keep a o h jq).1) .non ⟨Z5,λa h=>by simp at h⟩
   |rt v y =>
    cases e2;intro u C F' M' J' U fr X i;refine q u C F' (λa o h=>(fr.keep a o h jq).1) X ?_;cases m with
    |fr=>exact⟨i.1,λa g=>(i.2 a g).elim id λz=>absurd z jq⟩
    |pu=>exact λa g=>(i a g).elim .inl λz=>z.elim (λz=>.inr (qY (H:=H) (vs:=vs) z)) λz=>absurd z jq
    |bo=>exact λa g=>(i a g).elim .inl λz=>z.elim (λz=>.inr (qY (H:=H) (vs:=vs) z)) λz=>absurd z jq
   |bk y=>cases e2
   |ct y=>cases e2
  ·cases d
end
end VS
end
section
namespace L2
open PySem PySem.Spec PyProof.Rows
theorem ll(b:Env):∀(l:List (Str×NameKind))(acc:List (Str×KF)),(∀y∈l,y.2=.free->∃c,b.cells.lookup y.1=Z c)->(∀x c,acc.lookup x=Z c->b.cells.lookup x=Z c) →
  ∃cl,(forIn l acc (λx r=>if (x.snd==NameKind.free)=R then (do let a ← cellOf b x.fst;pure (ForInStep.yield ((x.fst,a) :: r))) else pure (ForInStep.yield r)):Sem (List (Str×KF)))=pure cl ∧
   (∀x c,cl.lookup x=Z c->b.cells.lookup x=Z c)/\(∀x c,acc.lookup x=Z c->∃e,cl.lookup x=Z e)/\∀y∈l,y.2=.free->∃c,cl.lookup y.1=Z c
 |[],acc,_,i=>⟨acc,rfl,i,λx c h=>⟨c,h⟩,λy d=>nomatch d⟩
 | (n,k) :: l,acc,o,i=>by
  by_cases m:k=.free
  ·subst m;obtain⟨c,p⟩:=o (n,.free) Zt Y;have u:cellOf b n=pure c:=by unfold cellOf;dsimp only at p;rw[p]
   have v:∀x e,((n,c) :: acc).lookup x=Z e->b.cells.lookup x=Z e:=λx e h=>by
    rw[Ys]at h;split at h
    ·rename_i g;have:x=n:=by simpa using g
     rw[this,← h];exact p
    ·exact i x e h
   obtain⟨cl,t,s,f,q⟩:=ll b l ((n,c) :: acc) (λy d=>o y (Zu _ d)) v;refine⟨cl,?_,s,λx e h=>?_,λy d j=>?_⟩
   ·rw[List.forIn_cons];dsimp only;rw[Zq (show (NameKind.free==NameKind.free)=R from rfl),u,pure_bind,pure_bind];exact t
   ·by_cases g:x=n
    ·exact f x c (by rw[Ys,g];simp)
    ·refine f x e ?_;rw[Ys];have:(x==n)=B:=by simpa using g
     rw[this];exact h
   ·rcases Zi.mp d with rfl | d
    ·exact f n c (by rw[Ys];simp)
    ·exact q y d j
  ·obtain⟨cl,t,s,f,q⟩:=ll b l acc (λy d=>o y (Zu _ d)) i;refine⟨cl,?_,s,f,λy d j=>?_⟩
   ·rw[List.forIn_cons];dsimp only;rw[Zp (by simpa using m),pure_bind];exact t
   ·rcases Zi.mp d with rfl | d
    ·exact absurd j m
    ·exact q y d j
def Au{sc:Scope}{env:Env}(a:∀y∈sc.names,y.2=.free->∃c,env.cells.lookup y.1=Z c) :
  ∃cl,closureFor sc env=pure cl/\(∀x c,cl.lookup x=Z c->env.cells.lookup x=Z c)/\∀y∈sc.names,y.2=.free->∃c,cl.lookup y.1=Z c:=by
 obtain⟨cl,e,d,_,b⟩:=ll env sc.names [] a (λx c h=>nomatch h);refine⟨cl,?_,d,b⟩;simp only[closureFor];rw[e];rfl
def gQ{l:List (Str×NameKind)}{x:Str}{k:NameKind}(h:l.lookup x=Z k):(x,k)∈l:=by
 induction l with
 |nil=>cases h
 |cons p l a =>
  rw[Ys]at h;split at h
  ·rename_i b;have e:x=p.1:=by simpa using b
   cases h;rw[e];exact Zt
  ·exact Zu _ (a h)
theorem dr{a:Env}{x:Str}{k:NameKind}:∀{l:List (Str×NameKind)},(l.map λ(n,k)=>if (k==NameKind.free&&a.scope.kind == .function&&a.kindOf n==Z .cell) then (n,NameKind.cell) else (n,k)).lookup x=Z k →
  ∃e,l.lookup x=Z e/\(k=e\/(e=.free/\k=.cell))
 |[],h=>nomatch h
 | (n,d) :: l,h=>by
  rw[Zo,Ys]at h;by_cases f:(d==NameKind.free&&a.scope.kind == .function&&a.kindOf n==Z .cell)=R
  ·simp only[f,if_true]at h;rw[Ys];cases b:x==n with
   |true =>
    rw[b]at h;have:d=.free:=by
     have:=(Bool.and_eq_true_iff.mp (Bool.and_eq_true_iff.mp f).1).1;simpa using this
    exact⟨d,rfl,.inr ⟨this,(Zn h).symm⟩⟩
   |false=>rw[b]at h;exact dr h
  ·simp only[f,if_false,X5]at h;rw[Ys];cases b:x==n with
   |true=>rw[b]at h;exact⟨d,rfl,.inl (Zn h).symm⟩
   |false=>rw[b]at h;exact dr h
def eE(X:Cx)(N:List Str)(a:Scope)(d:List (Str×KF))(C:KF)(s:GM)(H:Hp)(b:X7):Cx :=
 { X with N:=N,s₀:=s,H₀:=H,env:=compEnvC a d C X.env,outer:=X.stack,ex:=b,fn:=λ_=>false,pn:=[],xe:=λ_ _=>False }
def qQ(a:Env)(b:Scope):Bool:=b.kind == .function&&b.names.all λy=>match y.2 with
 |.cell=>B
 |.local=>b.names.lookup y.1==Z .local
 |.free=>a.kindOf y.1==Z .cell||a.kindOf y.1==Z .free
 |_=>R
def nI(d:Scope):List Str->List Str->Bool
 |[],[]=>R
 |a :: e,b :: bs=>((a==b&&d.names.lookup a==Z .free)||d.names.lookup a==L||d.names.lookup a==Z .globalImplicit)&&nI d e bs
 |_,_=>B
theorem uK{d:Scope}:∀{f bs:List Str},nI d f bs=R->f.length=bs.length/\∀(i:Nat)(x:Str),f[i]?=Z x->(bs[i]?=Z x/\d.names.lookup x=Z .free)\/d.names.lookup x=L\/d.names.lookup x=Z .globalImplicit
 |[],[],_=>⟨rfl,λi x h=>by simp at h⟩
 |a :: f,b :: bs,h=>by
  simp only[nI,Zd]at h;obtain⟨g,n⟩:=h;obtain⟨l,r⟩:=uK n;refine⟨by simp[l],λi x e=>?_⟩;cases i with
  |zero =>
   have:a=x:=by simpa using e
   subst this;simp only[Bool.or_eq_true,Zd]at g;rcases g with (⟨m,j⟩ | z) | z
   ·exact .inl ⟨by simpa using(by simpa using m:a=b).symm,by simpa using j⟩
   ·exact .inr (.inl (by simpa using z))
   ·exact .inr (.inr (by simpa using z))
  |succ i=>simpa using r i x (by simpa using e)
 |[],_ :: _,h=>by simp[nI]at h
 |_ :: _,[],h=>by simp[nI]at h
section
variable{X:Cx}{pins:Xy}{J:St}{H:Hp}{s:GM}
def Inv.block{N:List Str}{sc:Scope}{cl:List (Str×KF)}{C D:KF}{fp:X7}{k:Nat}{E:SL}{t:Nat}{m:X6}(I:Inv X pins J H s)(O:qQ X.env sc=R)(KQ:nI sc (N.drop k) X.N=R)(KW:k<=N.length)(g:∀x c,cl.lookup x=Z c->X.env.cells.lookup x=Z c)(Pe:∀y∈sc.names,y.2=.free->∃c,cl.lookup y.1=Z c)(G:∀b∈fp,oC X pins H b)(A:s.heap.objs.size<=D)(U:s.heap.objs.size<=C)(Pg:D≠C)(Pc:C∉fp)(d:∀b u,s.heap.get? b=Z u->E.get? b=Z u)(LZ:E.Ns C m)(Rn:E.get? D=Z { cls:=.type "list",data:=.seq ([]:Wf).toArray 0 }) :
  Inv (eE X N sc cl C s H fp) [] (List.replicate k L++J) (upd H D (.lst [])) { s with heap:=E,toks:=t }:=by
 unfold qQ at O;rw[Zd,Yw]at O;obtain⟨hk,II⟩:=O;have IM:sc.kind=.function:=by simpa using hk
 obtain⟨hlen,Vz⟩:=uK KQ;have IP:∀y∈sc.names,y.2 ≠ .cell:=λy hy e=>by have:=II y hy;rw[e]at this;cases this
 have frees:∀x a,(relabel sc X.env).names.lookup x=Z a->a=.cell\/a=.free->sc.names.lookup x=Z .free:=λx a h SU=>by
  obtain⟨n,f,Vm⟩:=dr h;rcases Vm with e | ⟨e,_⟩
  ·subst e;rcases SU with e | e
   ·subst e;exact absurd Y (IP _ (gQ f))
   ·subst e;exact f
  ·subst e;exact f
 have Kp:H D=L:=I.GO.fresh A;have VE:H C=L:=I.GO.fresh U;refine⟨⟨I.mod,IM,I.ok.glob,I.ok.blt,U,λx y c e1 e2=>I.ok.inj x y c (g x c e1) (g y c e2),λx hx=>?_,λx c e=>(nomatch e),I.ok.hd,I.ok.frames,.inl Y,λb hb=>⟨λ(e:b=C)=>Pc (e ▸ hb),λx c e=>(G b hb).2.2.2.2.1 x c (g x c e)⟩,
  I.bs,ZJ I.ok.LI I.sz,λb o e hb=>?_,λb hb Q=>?_,I.stack,I.JN⟩,rfl,I.bare,Un.laid d A Kp,⟨m,LZ,λi x v e1 e2 M=>?_⟩,λx c e=>?_,?_,λx c e=>?_,λp hp=>(nomatch hp),I.GO.laid d A ?_,?_⟩
 ·have h:∃a,(relabel sc X.env).names.lookup x=Z a/\(a=.cell\/a=.free):=by
   rcases hx with e | e
   ·exact⟨_,e,.inl Y⟩
   ·exact⟨_,e,.inr Y⟩
  obtain⟨a,F,P⟩:=h;exact Pe _ (gQ (frees x a F P)) Y
 ·have Q:b∈fp:=hb;rcases (G b Q).2.2.2.1 with z | z
  ·exact I.ok.KD b o e z
  ·exact absurd (ZR (ZM e) (ZJ I.ok.LI z)) (Yf _)
 ·have Vy:b∈HR X.stack:=Q;rcases Zi.mp (I.IZ b Vy) with z | z
  ·exact(G b hb).2.1 z
  ·exact(G b hb).2.2.1 z
 ·
  have SV:k<=i:=by
   rcases Nat.lt_or_ge i k with z | z
   ·rw[ZA (by simpa using z),Yd]at e2;split at e2<;>cases e2
   ·exact z
  rw[Yx (by simpa using SV),YC]at e2;have RV:(N.drop k)[i-k]?=Z x:=by
   rw[List.getElem?_drop,show k+(i-k)=i by exact Wx SV];exact e1
  have T8:sc.names.lookup x=Z .free->∃a,(relabel sc X.env).names.lookup x=Z a/\(a=.cell\/a=.free):=λf=>by
   have w:IJ (relabel sc X.env) x:=M;rcases w with z | z | z
   ·obtain⟨n,F,P⟩:=dr z;rw[f]at F;cases F;rcases P with q | ⟨_,q⟩<;>cases q
   ·exact⟨_,z,.inl Y⟩
   ·exact⟨_,z,.inr Y⟩
  have no:∀n,sc.names.lookup x=Z n->∃a,(relabel sc X.env).names.lookup x=Z a->True:=λ_ _=>⟨.local,λ_=>trivial⟩
  rcases Vz _ x RV with⟨hX,f⟩ | f | f
  ·obtain⟨a,Nn,Nm⟩:=T8 f;have hf:=II _ (gQ f);have SY:X.env.kindOf x=Z .cell\/X.env.kindOf x=Z .free:=by
    simpa using hf
   obtain⟨mX,hnX,Vg⟩:=I.loc;have PB:IJ X.env.scope x:=SY.elim (λz=>.inr (.inl z)) λz=>.inr (.inr z);obtain⟨u,r,l⟩:=Vg _ x v hX e2 PB;refine⟨u,r,.inr ⟨?_,?_⟩⟩
   ·rcases Nm with z | z
    ·subst z;exact .inl Nn
    ·subst z;exact .inr Nn
   ·obtain⟨c,S⟩:=Pe _ (gQ f) Y;refine⟨c,S,?_⟩;rcases l with⟨z,_⟩ | ⟨_,c',IC,ML⟩
    ·rcases SY with q | q<;>(rw[z]at q;cases q)
    ·have:=g x c S;rw[IC]at this;cases this;exact ML.keeps d
  ·have w:IJ (relabel sc X.env) x:=M;rcases w with z | z | z<;>(obtain⟨n,j,_⟩:=dr z;rw[f]at j;cases j)
  ·have w:IJ (relabel sc X.env) x:=M;rcases w with z | z | z<;>(obtain⟨n,j,z2⟩:=dr z;rw[f]at j;cases j;rcases z2 with q | ⟨q,_⟩<;>cases q)
 ·obtain⟨v,z⟩:=I.cell x c (g x c e);exact⟨v,z.keeps d⟩
 ·show upd H D (.lst []) C=L;rw[aC (Ya Pg)];exact VE
 ·obtain⟨v,z⟩:=I.cell x c (g x c e);rw[aC (ZW (ZR z.lt A))];exact I.HL x c (g x c e)
 ·exact⟨Ym _,[],0,.nil,Rn⟩
 ·show (List.replicate k L++J).length=N.length;rw[Zv,YC,I.len,← hlen,Z1];exact Wx KW
def CA(X:Cx)(a:List Expr)(t:TT):Prop :=
 ∀(pins:Xy)(s:GM)(J:St)(H:Hp)(Q:Bool->Hp->Prop),Inv X pins J H s->t J H Q →
  On (IR X.prog X.w) X.A (forIn a R λc r=>if r=R then (do let ok ← isTrue c X.env (eval c X.env);pure (ForInStep.yield ok)) else pure (ForInStep.yield r)) (TP X pins J Q) X.xe s
def mP:CA X [] (λJ H Q=>Q R H):=λpins s J H Q I q=>ZO ⟨H,I,q⟩
section
variable{prog:P3}{w:SZ}{A:Re}{R:Result->GM->Prop}
def sy{i a f:Expr}{g:List Expr}{d:Scope}{o:Pos}{p j:KM}{b:Env}{s:GM}(I:Nat->GM->Prop)(l:∀n s,I n s->On (IR prog w) A (pyNext p) (λr t=>match r with
   |none=>R (.ok .next) t
   |some v=>On (IR prog w) A (letOwnedTupleGo a p v) (λ_ D=>On (IR prog w) A (assign a b v) (λ_ C =>
     On (IR prog w) A (forIn g true λc r=>if r=true then (do let ok ← isTrue c b (eval c b);pure (ForInStep.yield ok)) else pure (ForInStep.yield r)) (λok q =>
      if ok=true then On (IR prog w) A (eval i b) (λx z =>
       On (IR prog w) A (call (.builtin "list.append") [j,x]) (λ_ y=>∃m,m<n/\I m y) (λ_ _=>False) z) (λ_ _=>False) q
      else ∃m,m<n/\I m q) (λ_ _=>False) C) (λ_ _=>False) D) (λ_ _=>False) t) (λ_ _=>False) s)(n:Nat)(h:I n s) :
  codeAny (IR prog w) A (.compLoop (.ListComp i [⟨a,f,g,0⟩] d o) 0 p j b) R s:=by
 refine codeAny_loop Y I (λn s N=>?_) n h;show On _ A ((compTurn (.ListComp i [⟨a,f,g,0⟩] d o) 0 p j b).onRaise (λx=>do noteFrame x b;theTreesLotGoes x)) _ _ s;refine wpAny_noted ?_;rw[compTurn_list];refine Zj (wpAny_standAt (Zj (YB (l n s N) (λr t E=>?_) λ_ _ e=>e.elim)));cases r with
 |none=>exact ZO E
 |some v =>
  refine Zj (YB E (λ_ D h₀=>?_) λ_ _ e=>e.elim);refine Zj (YB h₀ (λ_ C M=>Zj (YB M (λok q u=>?_) λ_ _ e=>e.elim)) λ_ _ e=>e.elim);cases ok with
  |false=>exact ZO ⟨rfl,u⟩
  |true =>
   rw[Zq Y]at u;exact Zj (Zj (YB u (λx z G=>Zj (YB G (λ_ y F=>ZO (ZO ⟨rfl,F⟩)) λ_ _ e=>e.elim)) λ_ _ e=>e.elim))
end
noncomputable def uQ(k:Nat)(q:TI)(g:TG)(t:TT)(r:TE)(J:St)(H:Hp)(Q:VK):Prop:=q J H λh p=>∀D,p D=L->∃W:Nat->Nat->St->Hp->Prop,
 (∃m,W 0 m (List.replicate k L++J) (upd p D (.lst [])))/\∀i m j d,W i m j d->(h.stop i d/\Q (.ref D) d)\/(h.go i d/\∀x o,h.OM i d x o->g x j o λe u=>t e u λb n =>
  if b=R then r e n λy l=>∃f,l D=Z (.lst f)/\f.length<KB/\∃a,a<m/\W (i+1) a e (upd l D (.lst (f++[y]))) else ∃a,a<m/\W (i+1) a e n)
def vR{F tg f:Expr}{l:List Expr}{sc:Scope}{pos pos':Pos}{N:List Str}{k:Nat}{wi:TI}{g:TG}{tc:TT}{te:TE}{use:Option (KM->Sem Unit)}{QQ:Z4}{Q:VK}(HK:X.calm=R)(hi:PI X tg f wi)(JU:qQ X.env sc=R)(KQ:nI sc (N.drop k) X.N=R)(KW:k<=N.length)(JI:∀cl C s H fp,PG (eE X N sc cl C s H fp) tg g/\CA (eE X N sc cl C s H fp) l tc/\PE (eE X N sc cl C s H fp) F te)(hs:∀x,UV f X.env x=pure x)(I:Inv X pins J H s)(h:uQ k wi g tc te J H Q)(hq:∀U j D C m,Inv X pins J j U->Q (.ref D) j->U.heap.Ns C m->oC X pins j C->compPost (IR X.prog X.w) X.A X.xe use QQ (.ref D) C (.ok .next) U) :
  On (IR X.prog X.w) X.A (comprehension (.ListComp F [⟨tg,f,l,0⟩] sc pos) sc X.env pos' (newList []) B (eval f X.env) use) QQ X.xe s:=by
 have ME:=JU;unfold qQ at ME;rw[Zd,Yw]at ME;obtain⟨hk,II⟩:=ME;have IM:sc.kind=.function:=by simpa using hk
 have IP:∀y∈sc.names,y.2 ≠ .cell:=λy E e=>by have:=II y E;rw[e]at this;cases this
 have MJ:∀y∈sc.names,y.2=.local->sc.names.lookup y.1=Z .local:=λy E e=>by
  have:=II y E;rw[e]at this;simpa using this
 obtain⟨cl,Ri,Lb,Pe⟩:=Au (sc:=sc) (env:=X.env) λy E e=>I.ok.has y.1 (by
  have:=II y E;rw[e]at this;simpa using this)
 refine wpAny_comprehension_free (use:=use) rfl hs Ri IM MJ (thn (hi pins s J H _ I h) λv s1 h1=>thn h1 λQD a h2=>?_);obtain⟨it,fp,tn,Jq,H2,e,I2,T,OV,f2,hW⟩:=h2;subst e;refine XM (wpAny_newFunctionEnv IP (by intro y E;simp at E) (λh₁ JH Jc=>?_) IM);dsimp only at JH Jc ⊢;generalize hP:a.heap.push { cls:=.type "list",dict:=L,data:=.seq ([]:Wf).toArray }=P at JH Jc ⊢;have Rr:P.objs.size=a.heap.objs.size+1:=by rw[← hP,Wr]
 have old:∀b o,a.heap.get? b=Z o->h₁.get? b=Z o:=λb o e =>
  Jc.extBut b o (by rw[Rr];exact ZW (Ye (ZM e))) (Zk _ (hP ▸ Zk _ e))
 have Pg:a.heap.objs.size≠P.objs.size:=by rw[Rr];exact ZW (Yz _)
 have Rn:h₁.get? a.heap.objs.size=Z { cls:=.type "list",data:=.seq ([]:Wf).toArray 0 }:=Jc.extBut _ _ Pg (Zk _ (hP ▸ ZU _ rfl));have MO:a.heap.objs.size<=P.objs.size:=by rw[Rr];exact Xj _
 have LW:∀b∈fp,b<a.heap.objs.size:=λb hb=>let ⟨o,ho,_⟩:=T.obj 0 _ OV b hb;ZM ho
 have Pc:P.objs.size∉fp:=λhb=>absurd (ZR (LW _ hb) MO) (Yf _);have IY:=I2.block (N:=N) (sc:=sc) (cl:=cl) (C:=P.objs.size) (D:=a.heap.objs.size) (fp:=fp) (k:=k) (t:=a.toks+([]:List (Str×KM)).length) JU KQ KW Lb Pe f2 (Zm _) MO Pg Pc old JH Rn;obtain⟨hG,hT,hE⟩:=JI cl P.objs.size a H2 fp;generalize hY:eE X N sc cl P.objs.size a H2 fp=Y at IY hG hT hE;have VB:Y.prog=X.prog/\Y.w=X.w/\Y.K=X.K/\Y.A=X.A/\Y.env=compEnvC sc cl P.objs.size X.env/\Y.calm=X.calm/\(Y.xe=λ_ _=>False):=by rw[← hY];exact⟨rfl,rfl,rfl,rfl,rfl,rfl,rfl⟩
 obtain⟨O,M,y3,G,y5,y6,y7⟩:=VB;have JC:∀{j:Hp},(∀b∈fp,j b=L)->∀b∈fp,oC Y [] j b:=λ{j} hn b hb=>by
  rw[← hY];refine⟨hn b hb,λ(e:b=P.objs.size)=>Pc (e ▸ hb),λHr=>?_,.inl hb,λx c e=>(f2 b hb).2.2.2.2.1 x c (Lb x c e),λp hp=>(nomatch hp)⟩;rcases Zi.mp (I2.IZ b Hr) with z | z
  ·exact(f2 b hb).2.1 z
  ·exact(f2 b hb).2.2.1 z
 obtain⟨W,⟨m0,w0⟩,turn⟩:=hW a.heap.objs.size (I2.GO.fresh (Zm _));have Ra:∀b∈fp,upd H2 a.heap.objs.size (.lst []) b=L:=λb hb=>by rw[aC (ZW (LW b hb))];exact(f2 b hb).1
 have LQ:tn 0 h₁:=T.keep _ _ _ OV λb _ o e=>old b o e;have loop:codeAny (IR X.prog X.w) X.A (.compLoop (.ListComp F [⟨tg,f,l,0⟩] sc pos) 0 (.ref it) (.ref a.heap.objs.size) (compEnvC sc cl P.objs.size X.env)) (compPost (IR X.prog X.w) X.A X.xe use QQ (.ref a.heap.objs.size) P.objs.size)
   { a with heap:=h₁,toks:=a.toks+([]:List (Str×KM)).length }:=by
  refine sy (λn U=>∃i J' j,Inv Y [] J' j U/\tn i U.heap/\(∀b∈fp,j b=L)/\W i n J' j) ?_ m0 ⟨0,_,_,IY,LQ,Ra,w0⟩;rintro n s3 ⟨i,J3,H3,I3,LQ,Oj,w3⟩;rcases turn i n J3 H3 w3 with⟨stop,qn⟩ | ⟨go,step⟩
  ·have q:=T.done Y O M y3 (y6.trans HK) i [] s3 J3 H3 (λ_ _=>False) I3 (JC Oj) LQ stop;rw[G]at q;refine thn q λr s4 ⟨hr,I4⟩=>?_;subst hr;have IX:Inv X pins J H3 s4:=by
    have b4:=I4.base;have o4:=I4.os;have k4:=I4.GO;rw[← hY]at b4 o4 k4;refine I2.OA (ch:=fp) o4 b4 k4 I4.bare λb hb=>?_;exact⟨(f2 b hb).2.2.2.1,(f2 b hb).2.1,(f2 b hb).2.2.2.2.1,(f2 b hb).2.2.2.2.2⟩
   obtain⟨mC,SQ,_⟩:=I4.loc;have f4:=I4.free;rw[y5]at SQ f4;exact hq s4 H3 _ P.objs.size mC IX qn SQ (I2.LC MO f4)
  ·have q:=T.item Y O M y3 (y6.trans HK) i [] s3 J3 H3 (λ_ _=>False) I3 (JC Oj) LQ go;rw[G]at q;refine thn q λr s4 ⟨u,hr,h4⟩=>?_;subst hr;refine thn h4 λ_ s5 ⟨x,H5,I5,r5,T5,Ml,Rw⟩=>?_;have R6:=I5.pinned (JC Rw) (T.obj _ _ Ml);have again:∀{J7:St}{H7:Hp}{S:GM}{m:Nat},Inv Y ([]++nF fp s5.heap) J7 H7 S->W (i+1) m J7 H7->∃i J' j,Inv Y [] J' j S/\tn i S.heap/\(∀b∈fp,j b=L)/\W i m J' j:=λ{J7 H7 S m} I7 w7=>by
    refine⟨i+1,J7,H7,I7.HV,T.keep _ _ _ Ml λb hb o e=>(I7.pin (b,o) (ZK _ (ZK _ (iD hb e)))).1,λb hb=>?_,w7⟩;obtain⟨o,e,d⟩:=T.obj _ _ Ml b hb;exact(I7.pin (b,o) (ZK _ (ZK _ (iD hb e)))).2.1
   have qa:=hG _ s5 J3 H5 x u _ R6 r5 (step x H5 T5);rw[O,M,G,y5,y7]at qa;refine thn qa λ_ s6 ⟨J6,H6,I6,q6⟩=>?_;have qt:=hT _ s6 J6 H6 _ I6 q6;rw[O,M,G,y5,y7]at qt;refine thn qt λb S ⟨H7,I7,q7⟩=>?_;cases b with
   |false =>
    rw[Zp Za]at q7 ⊢;obtain⟨m',hm,w7⟩:=q7;exact⟨m',hm,again I7 w7⟩
   |true =>
    rw[Zq rfl]at q7 ⊢;have qe:=hE _ S J6 H7 _ I7 q7;rw[O,M,G,y5,y7]at qe;refine thn qe λyv s8 ⟨y,H8,I8,r8,ys,VG,Vh,m',hm,w8⟩=>?_;have qp:=jA (X:=Y) _ s8 J6 H8 (.ref a.heap.objs.size) [y] (.ref a.heap.objs.size) [yv] (λ_ H9=>W (i+1) m' J6 H9) I8 rfl (.cons r8 .nil) ⟨_,ys,y,rfl,rfl,VG,Vh,w8⟩;rw[O,M,G,y7]at qp;refine thn qp λ_ s9 ⟨_,H9,I9,_,w9⟩=>?_;exact⟨m',hm,again I9 w9⟩
 exact codeAny_compStart_list loop (T.self _ 0 _ _ _ LQ loop)
def pT{j l a:Expr}{i:List Expr}{d:Scope}{n:Pos}{N:List Str}{k:Nat}{p:TI}{g:TG}{t:TT}{r:TE}(O:X.calm=R)(y:PI X l a p)(E:qQ X.env d=R)(A:nI d (N.drop k) X.N=R)(z:k<=N.length)(F:∀cl C s H fp,PG (eE X N d cl C s H fp) l g/\CA (eE X N d cl C s H fp) i t/\PE (eE X N d cl C s H fp) j r)(v:∀x,UV a X.env x=pure x:=by intro _;rfl):PE X (.ListComp j [⟨l,a,i,0⟩] d n) (uQ k p g t r):=by
 intro pins s J H Q I h;rw[eval_ListComp];refine vR (use:=L) O y E A z F v I h λu P D C m M q w f=>⟨m,w,λS G=>?_⟩
 exact⟨.ref D,P,M.turned (it:=C) (t':=u.toks) (λb o hb e=>G.extBut b o hb e) f.1 f.2.1 f.2.2.2.1 f.2.2.2.2.1 f.2.2.2.2.2,rfl,q⟩
end
end L2
end
section
namespace VS
open PySem PySem.Spec PyProof.Rows L2
def Bz(k:Nat)(g:Tg):Prop:=∀t U a,g t U=Z a->a.length=U.length/\∀i,k<=i->a[i]?=U[i]?
def jB{k i:Nat}(h:i<k:=by decide):Bz k (bL i):=λt U b e=>by
 unfold bL at e;split at e
 ·cases e;exact⟨by simp,λj a=>by rw[Yp (by lia)]⟩
 ·cases e
theorem uV:∀(l:W5){i:Nat}{t:T},d6 l=R->l[i]?=Z t->GR t=R
 |[],_,_,_,h=>by simp at h
 |x :: l,0,t,h,e=>by
  simp only[d6,Zd]at h;simp at e;rw[← e];exact h.1
 |x :: l,i+1,t,h,e=>by
  simp only[d6,Zd]at h;exact uV l h.2 (by simpa using e)
def tC(G:Gx):Option Ex->TT
 |none=>λJ H Q=>Q R H
 |some c=>tT G c
section
variable{G:Gx}{M:GU}{U:VS.Env}{J:L2.St}{H:Hp}{k:Nat}
def kT{i:Nat}{c:Cell}:(List.replicate k L++U)[i]?=Z (Z c)↔k<=i/\U[i-k]?=Z (Z c):=by
 rcases Nat.lt_or_ge i k with h | h
 ·rw[ZA (by simpa using h),Yd];constructor
  ·intro e;split at e<;>cases e
  ·intro ⟨e,_⟩;lia
 ·rw[Yx (by simpa using h),YC];exact⟨λe=>⟨h,e⟩,λe=>e.2⟩
def yq{a:KF}:bU (λi=>M (i-k)) (List.replicate k L++U) a↔bU M U a:=by
 constructor
 ·rintro⟨j,t,d,b⟩;exact⟨j-k,t,(kT.mp d).2,b⟩
 ·rintro⟨j,t,d,b⟩;refine⟨j+k,t,kT.mpr ⟨Nat.le_add_left _ _,by rw[YI];exact d⟩,?_⟩;show a∈M (j+k-k);rw[YI];exact b
def zz{a:KF}:dg (λi=>M (i-k)) (List.replicate k L++U) a↔dg M U a:=by
 constructor
 ·rintro⟨j,t,d,b⟩;exact⟨j-k,t,(kT.mp d).2,b⟩
 ·rintro⟨j,t,d,b⟩;refine⟨j+k,t,kT.mpr ⟨Nat.le_add_left _ _,by rw[YI];exact d⟩,?_⟩;show a∈M (j+k-k);rw[YI];exact b
def SR.sh(s:SR G M U J H):SR G (λi=>M (i-k)) (List.replicate k L++U) (List.replicate k L++J) H:=by
 refine⟨by simp[s.len],λi c h=>?_,λi t h=>?_,λi j t c b a n=>?_⟩
 ·obtain⟨b,a⟩:=kT.mp h;obtain⟨v,e,d⟩:=s.rp _ c a;refine⟨v,?_,d⟩;rw[Yx (by simpa using b),YC];exact e
 ·exact s.nd _ t (kT.mp h).2
 ·obtain⟨m,g⟩:=kT.mp b;obtain⟨l,f⟩:=kT.mp a;exact s.sep _ _ t c g f (by lia)
def SR.less{a:VS.Env}(s:SR G M a J H)(b:U.length=a.length)(h:∀(i:Nat) c,U[i]?=Z (Z c)->a[i]?=Z (Z c)):SR G M U J H :=
 ⟨b.trans s.len,λi c e=>s.rp i c (h i c e),λi t e=>s.nd i t (h i _ e),λi j t c e1 e2 n=>s.sep i j t c (h i _ e1) (h j _ e2) n⟩
def SR.off{D:KF}{o:HO}(s:SR G M U J H)(m:GV (H D)\/H D=L)(d:¬dg M U D)(a:¬bU M U D):SR G M U J (upd H D o):=by
 refine⟨s.len,λi c e=>?_,s.nd,s.sep⟩;obtain⟨v,h,g⟩:=s.rp i c e;refine⟨v,h,g.keep (Kept.upd m) λb hb j f=>?_⟩;rw[aC λz=>?_]
 ·exact f
 ·subst z;cases c with
  |pu t=>exact d ⟨i,t,e,hb⟩
  |ow t=>exact a ⟨i,t,e,hb⟩
theorem om:∀(l:W3)(v:Val),cK (l++[v])=(cK l).join v.1
 |[],(m,t)=>by cases m<;>rfl
 | (m,t) :: l,v=>by
  show m.join (cK (l++[v]))=(m.join (cK l)).join v.1;rw[om l v];generalize cK l=q;generalize v.1=r;cases m<;>cases q<;>cases r<;>rfl
def Fp.N1{m n:Md}{F j:X7}(f:Fp M U H m F)(g:Fp M U H n j)(d:n=.fr->∀a∈F,a∉j):Fp M U H (m.join n) (F++j):=by
 have both:∀{P:KF->Prop},(∀a∈F,P a)->(∀a∈j,P a)->∀a∈F++j,P a:=λp q a h=>(ZY.mp h).elim (p a) (q a);cases m<;>cases n
 ·exact⟨ZP.mpr ⟨f.1,g.1,λa i b hb e=>d Y a i (e ▸ hb)⟩,both f.2 g.2⟩
 ·exact both (λa i=>.inl (f.2 a i)) g
 ·exact both (λa i=>.inl (f.2 a i)) g
 ·exact both f λa i=>.inl (g.2 a i)
 ·exact both f g
 ·exact both (λa i=>(f a i).imp id .inl) g
 ·exact both f λa i=>.inl (g.2 a i)
 ·exact both f λa i=>(g a i).imp id .inl
 ·exact both f g
def Fp.Oy{m:Md}{F:X7}{D:KF}(f:Fp M U H m F)(h:H D=L)(d:D∉F):Fp M U H m (D :: F):=by
 have all:∀{P:KF->Prop},P D->(∀a∈F,P a)->∀a∈D :: F,P a:=λp q a b=>(Zi.mp b).elim (λe=>e ▸ p) (q a);cases m
 ·exact⟨Zf.mpr ⟨d,f.1⟩,all h f.2⟩
 ·exact all (.inl h) f
 ·exact all (.inl h) f
end
section
variable{G:Gx}{k:Nat}{tg:Tg}{ci:JB}{cond:Option Ex}{ce:Ex}
noncomputable def CI(G:Gx)(M:GU)(U b:VS.Env)(H p:Hp)(D:KF)(l:W5)(h:W3)(q:Tg)(d:Option Ex)(r:Ex)(i n:Nat)(s:L2.St)(f:Hp):Prop:=n=l.length-i/\∃e g j m rest,SR G e b s f/\(∀a,bU e b a->bU M U a)/\(∀a,dg e b a->H a=L\/dg M U a)/\¬dg e b D/\¬bU e b D/\Kept p f ∧
     (∀a o,a≠D->p a=Z o->f a=Z o)/\f D=Z (.lst m)/\RpL G f m (trees g) j/\D∉j.flatten/\Fp M U H (cK g) j.flatten/\nr q d r b (l.drop i)=Z rest/\g++rest=h
def u4{J:L2.St}{H:Hp}{Q:VK}(JI:Bz k tg)(h:tE G (gy k tg ci cond ce) J H Q):uQ k (tI G ci) (tG G tg) (tC G cond) (tE G ce) J H Q:=by
 refine L2.kD λP_ S=>?_;obtain⟨M,U,m,r,s,e,kq⟩:=h;unfold gy at e;obtain⟨⟨mi,l⟩,el,e1⟩:=Zz.mp e;dsimp only at e1;split at e1
 ·rename_i GO;obtain⟨all,ea,e2⟩:=Zz.mp e1;unfold Jz at e2;split at e2
  ·rename_i hlen;cases e2;refine S ?_;refine⟨M,U,mi,l,s,el,λJq H1 C e3 ok fc D hD=>?_⟩;have Kp:H D=L:=e3.free hD;let U0:VS.Env:=List.replicate k L++U
   have good:∀{t:T}{i:Nat}{O H2:Hp}{v:V}{F:X7},l[i]?=Z t->Rp G H2 v t F->(∀a,H1 a≠L->O a≠L)->(∀a∈F,a∈C\/O a=L)->∀a∈F,(H a=L\/dg M U a)/\¬bU M U a:=λ{t i O H2 v F} hi rF keep hF a d=>by
    have G1:∀{b},H b≠L->O b≠L:=λ{b} hb=>keep b λz=>hb (e3.free z);rcases hF a d with z | z
    ·rcases fc a z with q | q | ⟨q,w⟩
     ·exact⟨.inl q,λw=>GV.jj (s.Hg w) q⟩
     ·exact⟨.inr q,λw=>s.KA w q⟩
     ·subst q;have:GR t=R:=by
       exact uV l GO hi
      rw[rF.GR this]at d;simp at d
    ·have hz:H a=L:=Classical.byContradiction λq=>G1 q z;exact⟨.inl hz,λw=>GV.jj (s.Hg w) hz⟩
   refine⟨CI G M U U0 H H1 D l all tg cond ce,?_,?_⟩
   ·refine⟨l.length-0,rfl,λi=>M (i-k),[],[],[],all,?_,λa h=>yq.mp h,λa h=>.inr (zz.mp h),λh=>?_,λh=>?_,Kept.upd (.inr hD),λa o n h=>by rw[aC n];exact h,aw,.nil,by simp,Fp.nil,by rw[List.drop_zero];exact ea,rfl⟩
    ·exact((s.same e3).sh).off (.inr hD) (λh=>GV.jj (s.Iu (zz.mp h)) Kp) λh=>GV.jj (s.Hg (yq.mp h)) Kp
    ·exact GV.jj (s.Iu (zz.mp h)) Kp
    ·exact GV.jj (s.Hg (yq.mp h)) Kp
   ·intro i n J' O Vq;refine L2.kD λP_ S=>?_;obtain⟨rfl,M1,P,Fs,xs,rest,s1,Ng,Uw,UC,UE,kp,old,Nq,rp,nD,fp,er,ev⟩:=Vq;refine S ?_;have JT:∀a,H1 a≠L->O a≠L:=λa d z=>by
     by_cases q:a=D
     ·subst q;rw[Nq]at z;cases z
     ·cases e:H1 a with
      |none=>exact d e
      |some o=>rw[old a o q e]at z;cases z
    refine L2.kD λP_ S=>?_;obtain⟨go,stop⟩:=ok.run O kp λa d o ho=>old a o (λz=>ok.G1 a d (z ▸ hD)) ho;cases hit:l[i]? with
    |none =>
     have hl:l.length<=i:=Z3.mp hit;refine S ?_;left;refine⟨stop i hl,?_⟩;rw[YG hl]at er;cases (show Z ([]:W3)=Z rest from er);rw[Zg]at ev;subst ev;refine kq (.ref D) O (D :: Fs.flatten) (λa o h=>old a o (λz=>by rw[z,Kp]at h;cases h) (e3 a o h)) (.lst Nq rp) ?_;by_cases hi:d6 (trees P)=R
     ·rw[Zq hi,rp.GR hi];exact⟨by simp,λa d=>by rw[Zb.mp d];exact Kp⟩
     ·rw[Zp hi];exact fp.Oy Kp nD
    |some t =>
     have hl:i<l.length:=(Zh.mp hit).1;obtain⟨g1,y1⟩:=go i t hit;refine S ?_;right;refine⟨g1,λx H2 yl=>?_⟩;refine L2.kD λP_ S=>?_;obtain⟨E,F,rF,hF⟩:=y1 x H2 yl;rw[oP (tgt:=tg) (body:=dc) (U:=U) hit]at er;rw[nr]at er;obtain⟨p,e4,e5⟩:=Zz.mp er;obtain⟨b,eb,e6⟩:=Zz.mp e5;have gd:=good hit rF JT hF;have s2:=s1.same E;have DF:D∉F:=λh=>by
      rcases hF D h with z | z
      ·exact ok.G1 D z hD
      ·rw[Nq]at z;cases z
     refine S ?_;refine⟨M1,U0,t,F,p,s2,rF,λa d z=>(gd a d).2 (Ng a z),e4,λg J3 s3 o3 p3=>?_⟩;obtain⟨tl,NB⟩:=JI t U0 p e4;have low:∀j c,U0[j]?=Z (Z c)->p[j]?=Z (Z c):=λj c h=>by rw[NB j (kT.mp h).1];exact h
     have OZ:∀a,dg g p a->H a=L\/dg M U a:=λa h=>(p3 a h).elim (Uw a) λh=>(gd a h).1;have PR:∀a,bU g p a->bU M U a:=λa h=>Ng a (o3 a h);have NS:¬dg g p D:=λh=>(p3 D h).elim UC DF;have O2:¬bU g p D:=λh=>UE (o3 D h);have OY:∀a,dg g U0 a->dg g p a:=λa ⟨j,u,h1,h2⟩=>⟨j,u,low j _ h1,h2⟩
     have O0:∀a,bU g U0 a->bU g p a:=λa ⟨j,u,h1,h2⟩=>⟨j,u,low j _ h1,h2⟩
     have LS:∀A,aG H2 A->(if b=R then tE G ce J3 A λy N=>∃ys,N D=Z (.lst ys)/\ys.length<KB/\∃m',m'<l.length-i/\CI G M U U0 H H1 D l all tg cond ce (i+1) m' J3 (upd N D (.lst (ys++[y]))) else ∃m',m'<l.length-i/\CI G M U U0 H H1 D l all tg cond ce (i+1) m' J3 A):=λA f=>by
      have eo:∀{N},aG A N->∀a o,O a=Z o->N a=Z o:=λ{N} Nt a o h=>Nt a o (f a o (E a o h));cases b with
      |false =>
       rw[Zp Za]at e6 ⊢;have same:=eo (aG.refl A);exact⟨_,by lia,rfl,g,P,Fs,xs,rest,(s3.same f).less (by rw[tl]) low,λa h=>PR a (O0 a h),λa h=>OZ a (OY a h),λh=>NS (OY D h),λh=>O2 (O0 D h),kp.trans ((Kept.of E).trans (Kept.of f)),λa o n h=>same a o (old a o n h),same D _ Nq,rp.same (aG.trans E f),nD,fp,e6,ev⟩
      |true =>
       rw[Zq Y]at e6 ⊢;obtain⟨⟨mv,tv⟩,V6,e7⟩:=Zz.mp e6;obtain⟨NK,V2,TM⟩:=Zy.mp e7;refine⟨g,p,mv,tv,s3.same f,V6,λy N Fy Nt ry X=>?_⟩;have same:=eo Nt;have Oh:=same D _ Nq;have Lu:GV (N D):=by rw[Oh];exact True.intro
       have Ro:A D=Z (.lst xs):=f D _ (E D _ Nq);have KC:∀a,A a=L->H a=L:=λa h=>Classical.byContradiction λq=>JT a (λz=>q (e3.free z)) (E.free (f.free h));have VJ:Fp M U H mv Fy:=by
        cases mv with
        |fr=>exact⟨X.1,λa d=>KC a (X.2 a d)⟩
        |pu=>exact λa d=>(X a d).elim (λz=>.inl (KC a z)) (OZ a)
        |bo=>exact λa d=>(X a d).elim (λz=>.inl (KC a z)) λz=>z.elim (λz=>(OZ a z).imp id .inl) λz=>.inr (.inr (PR a z))
       have T2:D∉Fy:=λh=>by
        cases mv with
        |fr=>have:=X.2 D h;rw[Ro]at this;cases this
        |pu=>exact(X D h).elim (λz=>by rw[Ro]at z;cases z) NS
        |bo=>exact(X D h).elim (λz=>by rw[Ro]at z;cases z) λz=>z.elim NS O2
       have Uq:RpL G N xs (trees P) Fs:=rp.same ((E.trans f).trans Nt);have UK:xs.length=P.length:=by rw[rp.len.1];simp
       have UL:P.length<all.length:=by rw[← ev,← TM];simp
       refine⟨xs,Oh,?_,_,by lia,rfl,g,P++[(mv,tv)],Fs++[Fy],xs++[y],NK,(((s3.same f).same Nt).off (.inl Lu) NS O2).less (by rw[tl]) low,λa h=>PR a (O0 a h),λa h=>OZ a (OY a h),λh=>NS (OY D h),λh=>O2 (O0 D h),?_,λa o n h=>?_,aw,?_,?_,?_,V2,?_⟩
       ·have Oc:all.length<=eY:=by simpa using hlen
        have:KB=eY:=rfl;lia
       ·exact(kp.trans ((Kept.of E).trans ((Kept.of f).trans (Kept.of Nt)))).trans (Kept.upd (.inl Lu))
       ·rw[aC n];exact same a o (old a o n h)
       ·have:trees (P++[(mv,tv)])=trees P++[tv]:=by simp
        rw[this];exact(Uq.off Lu nD).append (.cons (ry.keep (Kept.upd (.inl Lu)) λb hb o ho=>by rw[aC (λz=>T2 (by rw[← z];exact hb))];exact ho) .nil)
       ·rw[Z7];intro h;rcases ZY.mp h with z | z
        ·exact nD z
        ·exact T2 (by simpa using z)
       ·rw[Z7,om];have:([Fy]:Xg).flatten=Fy:=by simp
        rw[this];refine fp.N1 VJ λhm a d hb=>?_;subst hm;have h4:=X.2 a hb;have:GV (A a):=(rp.same (E.trans f)).G1 a d;rw[h4]at this;exact this
       ·rw[ZI,← ev,← TM];rfl
     cases cond with
     |none =>
      cases (show Z R=Z b from eb);exact LS H2 (aG.refl H2)
     |some c =>
      obtain⟨⟨mc,xc⟩,V8,LH⟩:=Zz.mp eb;exact⟨g,p,mc,xc,b,s3,V8,LH,λA f=>LS A f⟩
  ·cases e2
 ·cases e1
end
section
variable{G:Gx}{X:Cx}{elt tg iter c:Expr}{sc:Scope}{pos pos' Ul:Pos}{N:List Str}{k i:Nat}{x:Str}{ci:JB}{g:Tg}{cc ce:Ex}
def kc(k:Nat)(N:List Str)(n:X.calm=R)(b:Pn G X tg iter ci)(m:Bz k g)(d:∀cl C s H fp,OH G (eE X N sc cl C s H fp) tg g)(e:∀cl C s H fp,PV G (eE X N sc cl C s H fp) elt ce)(l:qQ X.env sc=R:=by rfl)(j:nI sc (N.drop k) X.N=R:=by rfl)(f:k<=N.length:=by decide)(a:∀x,UV iter X.env x=pure x:=by intro _;rfl) :
  PV G X (.ListComp elt [⟨tg,iter,[],0⟩] sc pos) (gy k g ci L ce) :=
 PE.weak (pT n b l j f (λcl C s H fp=>⟨d cl C s H fp,mP,e cl C s H fp⟩) a) λJ H Q h=>u4 (cond:=L) m h
end
end VS
end
section
namespace VS
open PySem PySem.Spec PyProof.Rows L2
instance {s:Tx}:Decidable (pH s):=inferInstanceAs (Decidable (_/\_))
section
variable{G:Gx}{X:Cx}{a b c e:Expr}{es:List Expr}{ca cb cc:Ex}{cs:Hf}{pos p p1 p2 apos oe:Pos}{k k':Nat}
def w_add(f:PV G X a ca)(d:PV G X b cb):PV G X (.BinOp a .Add b pos) (e2 ba ca cb):=i7 qm xO f d
def w_mul(f:PV G X a ca)(d:PV G X b cb):PV G X (.BinOp a .Mult b pos) (e2 gH ca cb):=i7 DO CP f d
def w_mod(f:PV G X a ca)(d:PV G X b cb):PV G X (.BinOp a .Mod b pos) (e2 oMod ca cb):=i7 CY Eg f d
def rX(f:PV G X a ca)(d:PV G X b cb):ID G X (.Compare a [.Lt] [b] pos) (e2 oLt ca cb):=iG nW sG kG f d (fQ _)
def sv(d:p0 k X.A)(g:PV G X a ca)(f:PV G X b cb):ID G X (.Compare a [.Eq] [b] pos) (e2 oEq ca cb):=iG (nQ d.units) rV tells_eq g f (fQ _)
def oY(d:p0 k X.A)(g:PV G X a ca)(f:PV G X b cb):ID G X (.Compare a [.NotEq] [b] pos) (e2 JR ca cb):=iG (CH d.units) FD x4 g f (fQ _)
def bx(g:PV G X a ca)(f:PV G X b cb)(d:gI b:=by intro _ _;rfl)(i:X.K=G.K:=by rfl):PV G X (.Subscript a b pos) (e2 aB ca cb) :=
 PE.weak (mQ jS g f d) λJ H Q h=>by rw[i];exact lD uy h
def cP(d:X.mg "len" = L)(g:HM G X [e] cs)(f:Gl X "len" := by rfl)(h:X.K=G.K:=by rfl)(he:K1 e [] X:=by rfl):PV G X (.Call (.Name "len" p) [e] [] pos) (eN bu cs) :=
 km (h ▸ pz) Dy f d PySem.boot_len g (he:=he) (hpl:=rfl)
def C0:bootBuiltins ("min" : Str)=Z (.builtin "min"):=by decide +kernel
def Bt:bootBuiltins ("list" : Str)=Z (.type "list"):=by decide +kernel
def Di(d:X.mg "min" = L)(h:HM G X [a,b] cs)(g:X.calm=R:=by rfl)(f:Gl X "min" := by rfl)(he:Pi [a,b] X.env=(B,eval a X.env) :: Pi [b] X.env:=by rfl)(hpl:(backTo pos (Pi [b] X.env)).any (·.1)=B:=by rfl):PV G X (.Call (.Name "min" p) [a,b] [] pos) (eN rA cs) :=
 km (wR g) AN f d C0 h (he:=he) (hpl:=hpl)
def M9:Ty->Str
 |.int => "int" |.str => "str" |.bool => "bool" |.list => "list" |.tuple => "tuple" |.dict => "dict"
def ED(t:Ty):bootBuiltins (M9 t)=Z (.type (Ki t)):=by cases t<;>decide +kernel
def w_is(t:Ty)(f:X.mg "isinstance" = L)(l:X.mg (M9 t)=L)(h:PV G X a ca)(g:Gl X "isinstance" := by rfl)(j:Gl X (M9 t):=by rfl)(i:X.K=G.K:=by rfl)(d:Pi [a,.Name (M9 t) p2] X.env=(B,eval a X.env) :: Pi [.Name (M9 t) p2] X.env:=by rfl):PV G X (.Call (.Name "isinstance" p1) [a,.Name (M9 t) p2] [] pos) (Ot t ca) :=
 EH t h g f j l (ED t) i (by cases t<;>decide) (by cases t<;>decide) d Y Y
def iq(i:Nat){x:Str}(m:HM G X [e] cs)(o:X.K=G.K:=by rfl)(n:X.N[i]?=Z x:=by rfl)(f:IJ X.env.scope x:=by first | exact Or.inl Y | exact Or.inr (Or.inl Y) | exact Or.inr (Or.inr Y))(j:K3 x:=by decide)(d:K4 x:=by decide)(q:((backTo oe (Pi [e] X.env)).all (λx=>!x.1)&&(backToKw oe (SB [] X.env)).all (λx=>x.1.isSome)
   && decide ([e].length+([]:List Keyword).length+(if ([]:List Keyword).isEmpty then 0 else 1)<30))=R:=by rfl)(s:(apos.endLine==oe.line)=R:=by rfl)(g:K1 e [] X:=by rfl) :
  PSV G X (.Expr (.Call (.Attribute (.Name x p1) "append" apos) [e] [] oe) pos) (sX (mh i [] aF cs)) :=
 xD i XT XW XX jA o8 (λH v t F l z r h=>l8 r h) m o n f j d Y q s g Y Y
end
structure FnAt(P:P3)(w:SZ)(K:Xd)(mg:X6)(base:SL)(k:Nat)(x:Str)(ps:List Str)(G:Gx)(g:Fn):Prop where
 ex:∃f fd,FnOk P w K mg base Hi k f fd ps (I0 G g)/\mg x=some (.ref f)/\PySem.W.keepIn K (.ref f)=true/\Binds K fd ps []
section
variable{G:Gx}{X:Cx}{e:Expr}{es:List Expr}{cs:Hf}{pos p:Pos}{k k':Nat}{x:Str}{ps:List Str}{g:Fn}
def cy(F:FnAt X.prog X.w X.K X.mg X.base k x ps G g)(b:p0 k' X.A)(j:HM G X (e :: es) cs)(d:k<=k':=by decide)(h:Gl X x:=by rfl)(q:K3 x:=by decide)(i:K1 e es X:=by rfl)(a:K2 pos es X:=by rfl) :
  PV G X (.Call (.Name x p) (e :: es) [] pos) (bh g cs):=by
 obtain⟨f,fd,o,n,m,l⟩:=F.ex;exact AR o (b.mono d) h n m l j q i a
end
section
variable{G:Gx}{P:P3}{w:SZ}{K:Xd}{mg:X6}{base:SL}
def iO{x:Str}{a:Stmt}{f:KF}{i:Pv}{N b:List Str}{k g h:Nat}{c:Sx}(F:GW K x x a f i)(m:mg x=Z (.ref f))(S:gV N b (ai a))(j:b.length=g)(l:N.length=h)(o:∀(kV doc pm:KM)(an:Option KF)(d ct:KM)(e:Wf),e.length=b.length->bindArgs (PySem.W.fnOf x x (cR a) (aU a) (ai a) .none kV doc pm an d ct) ⟨e,[]⟩=pure (b.zip e))(n:∀(d:KM)(A:Re)(outer:List PySem.Env)(s:GM)(H:Hp)(E:XK),p0 k (A.deeper (envOfC x (ai a) s.heap.objs.size f d))->gF G (iR Hi P w K mg base N x (ai a) f d A outer s H E).Jm (aU a) c) :
  FnAt P w K mg base (k+1) x b G (fn g h c) :=
 ⟨f,i,Rx F S j l n,m,F.kp,F.binds o⟩
end
end VS
end
section
namespace L2
open PySem PySem.Spec PyProof.Rows
def JB(x:Str):It:=⟨λi _=>i<x.cps.size,λi H v a=>a=H/\∃c,x.cps[i]?=Z c/\v=.str ⟨#[c]⟩,λi _=>x.cps.size<=i⟩
def pv{P:P3}{w:SZ}{K:Xd}{M:Expr}(x:Str)(t:Tok)(a:KF)(j:String)(U:["enumerate", "zip", "dict_itemiterator", "dict_reverseitemiterator", "odict_iterator", "itertools.zip_longest", "itertools.pairwise"].contains j=B)(W:∀A:Re,A.handled=L->Walks P w A a [a] [a] x.cps.size (λi v=>∃c u,x.cps[i]?=Z c/\v=.str ⟨#[c]⟩ u) (λi h=>h.IsStrIter a j x t i))(Rc:∀(A:Re),A.handled=L->∀(i:Nat)(s:GM)(Q:We->GM->Prop)(E:Z4),s.heap.IsStrIter a j x t i->x.cps[i]?=L->(∀g,Heap.ExtBut a s.heap g->Q L { s with heap:=g })->On (IR P w) A (pyNext (.ref a)) Q E s)(N7:∀(A:Re)(i:Nat)(s:GM)(Q:Z4)(E:Z4),s.heap.IsStrIter a j x t i->Q (.ref a) s->On (IR P w) A (pyIter (.ref a)) Q E s) :
  Turn P w K M (JB x) [a] a (λi h=>h.IsStrIter a j x t i) where
 mem:=by simp
 obj:=λi h st b hb=>by
  rw[Zb.mp hb];obtain⟨o,e,c,d⟩:=st;exact⟨o,e,λv z=>by rw[d]at z;cases z⟩
 keep:=λi h g st k=>let ⟨o,e,r⟩:=st;⟨o,k a (by simp) o e,r⟩
 item:=by
  intro X n hw p m i f s J H E I l st hg;subst n hw p;obtain⟨D,f1,f2,C,y,q⟩:=l a (by simp);refine(W X.A (I.ok.hd m)).item i s _ _ hg st λv g F S G N=>?_;obtain⟨c,u,IC,rfl⟩:=S;have I1:Inv X f J H { s with heap:=g,toks:=F }:=I.turned (λb o hb e=>N b o (by simpa using hb) e) D f1 C y q;obtain⟨o,e,c1,d⟩:=id G;exact⟨_,rfl,r9 (s:={ s with heap:=g,toks:=F }) e c1 d U ⟨.str ⟨#[c]⟩,H,I1,⟨u,rfl⟩,⟨rfl,c,IC,rfl⟩,G,λb hb=>(l b hb).1⟩⟩
 done:=by
  intro X n hw p m i f s J H E I l st hg;subst n hw p;obtain⟨D,f1,f2,C,y,q⟩:=l a (by simp);have O:x.cps.size<=i:=hg;exact Rc X.A (I.ok.hd m) i s _ _ st (by simp[O]) λg Y=>⟨rfl,I.turned (t':=s.toks) (λb o hb e=>Y b o hb e) D f1 C y q⟩
 self:=λA i s Q E st h=>N7 A i s Q E st h
def yc{P:P3}{w:SZ}{K:Xd}{g:Expr}(x:Str)(t:Tok)(a:KF):Turn P w K g (JB x) [a] a (λi h=>h.IsStrIter a (strIterType x) x t i):=by
 cases f:x.cps.all (· < 128)
 ·have e:strIterType x = "str_iterator" := by simp[strIterType,f]
  rw[e];exact pv x t a "str_iterator" rfl (λA b=>Walks.strWide b a x t) (λA b i s Q E st d q=>wpAny_pyNext_wide_end b st d q) λA i s Q E st q=>wpAny_pyIter_striter_wide st q
 ·have e:strIterType x = "str_ascii_iterator" := by simp[strIterType,f]
  rw[e];exact pv x t a "str_ascii_iterator" rfl (λA b=>Walks.strAscii b a x t) (λA b i s Q E st d q=>wpAny_pyNext_ascii_end b st d q) λA i s Q E st q=>wpAny_pyIter_striter_ascii st q
section
variable{X:Cx}{tg l a b c:Expr}{tl ta tb tc:TE}{pos:Pos}
def Ep(K:Xd)(f:TE):TI:=λJ H R=>f J H λx d=>(∃a,x=.ref a/\(∃e,G5 K d a e)/\R (R4 K a) d)\/(∃a,x=.ref a/\(∃e,HS K d a e)/\R (R3 K a) d)\/∃z,x=.str z/\R (JB z) d
def Ap(y:PE X l tl):PI X tg l (Ep X.K tl):=by
 intro d s J H R I h;refine thn (y d s J H _ I h) λv s1 ⟨x,g,f,r1,u⟩=>?_;have j:∀b∈[s1.heap.objs.size],oC X d g b:=λb hb=>by
  rw[Zb.mp hb];exact f.LC (Zm _) (f.GO.fresh (Zm _))
 rcases u with⟨a,e,⟨n,i⟩,q⟩ | ⟨a,e,⟨n,i⟩,q⟩ | ⟨z,e,q⟩
 ·subst e;cases r1;obtain⟨m,r,p,w⟩:=f.list i;exact wpAny_pyIter_list p.isList ⟨s1.heap.objs.size,[s1.heap.objs.size],_,_,g,rfl,f.kept (t':=s1.toks) λb o e=>Zk _ e,wG a _,⟨_,ZU _ Y,rfl,rfl⟩,j,q⟩
 ·subst e;cases r1;obtain⟨m,r,p,w⟩:=f.tuple i;exact wpAny_pyIter_tuple (show s1.heap.IsTuple a m.toArray from p) ⟨s1.heap.objs.size,[s1.heap.objs.size],_,_,g,rfl,f.kept (t':=s1.toks) λb o e=>Zk _ e,ux a _,⟨_,ZU _ Y,rfl,rfl⟩,j,q⟩
 ·subst e;obtain⟨t,rfl⟩:=r1;exact wpAny_pyIter_strU ⟨s1.heap.objs.size,[s1.heap.objs.size],_,_,g,rfl,f.kept (t':=s1.toks) λb o e=>Zk _ e,yc z t _,⟨_,ZU _ Y,rfl,rfl⟩,j,q⟩
def Ah{s:GM}{d:SL}{o:Obj}(g:∀b x,b∉[s.heap.objs.size]->(s.heap.push o).get? b=Z x->d.get? b=Z x)(b:KF)(x:Obj)(e:s.heap.get? b=Z x):d.get? b=Z x :=
 g b x (λf=>Yf _ (by have:=ZM e;rw[Zb.mp f]at this;exact this)) (Zk _ e)
def yw(G:X.calm=R):dX X (.builtin "sum") (λr H Q=>∃p,∃ns:Wb,r=[.ref p]/\G5 X.K H p (ns.map V.int)/\Q (.int ns.sum) H):=by
 intro w s J H r N Q I C h;obtain⟨p,ns,rfl,F,q⟩:=h;obtain⟨u,rfl,j⟩:=C.one;cases j;obtain⟨d,g,m,P⟩:=I.list F;have y:p<s.heap.objs.size:=by obtain⟨_,e,_⟩:=m.isList;exact ZM e
 refine call_sum_walkG (wpAny_pyIter_list m.isList ⟨s.heap.objs.size,[s.heap.objs.size,p],[s.heap.objs.size],d.toArray.size,_,_,λi=>(ns[i]?).getD 0,rfl,Walks.list (A:=X.A.in1) (I.ok.hd G) _ p (ZW y) d.toArray,
  ⟨⟨_,ZU _ Y,rfl,rfl⟩,m.isList.push _⟩,λb hb=>?_,λi v M=>?_,λS O z o=>⟨.int ns.sum,H,I.kept (Ah o),⟨z,?_⟩,q⟩⟩)
 ·rw[Wr];rcases Zi.mp hb with rfl | hb
  ·exact Yz _
  ·rw[Zb.mp hb];exact Ye y
 ·have f:d[i]?=Z v:=by simpa using M
  cases e:ns[i]? with
  |none =>
   have:=g.none_of (i:=i) (by rw[ZS,e];rfl);rw[this]at f;cases f
  |some n =>
   obtain⟨u,E,j⟩:=g.get (i:=i) (x:=.int n) (by rw[ZS,e];rfl);rw[E]at f;cases f;obtain⟨t,rfl⟩:=j;exact⟨t,by simp[e]⟩
 ·have hlen:d.toArray.size=ns.length:=by have:=g.length;simp at this ⊢;exact Eq.symm this
  have:∀k,k<=ns.length->preSum (λi=>(ns[i]?).getD 0) k=(ns.take k).sum:=λk=>by
   induction k with
   |zero=>intro _;simp[preSum]
   |succ k D =>
    intro o;rw[List.take_succ,List.sum_append,preSum,D (by exact Nat.le_of_succ_le o)];cases e:ns[k]? <;> simp
  rw[hlen,this _ (Zm _),Wm]
def oX:OpR X (SC .Gt) (λx y H Q=>∃i j,x=.str i/\y=.str j/\Q (.bl (decide (j.cps.toList<i.cps.toList))) H):=by
 intro d s J H x y v u Q I f e h;obtain⟨i,j,rfl,rfl,q⟩:=h;obtain⟨t,rfl⟩:=f;obtain⟨g,rfl⟩:=e;exact PySem.P.gt_str ⟨.bl _,H,I,rfl,q⟩
def v7:OpR X (SC .GtE) (λx y H Q=>∃i j,x=.str i/\y=.str j/\Q (.bl (!decide (i.cps.toList<j.cps.toList))) H):=by
 intro d s J H x y v u Q I f e h;obtain⟨i,j,rfl,rfl,q⟩:=h;obtain⟨t,rfl⟩:=f;obtain⟨g,rfl⟩:=e;exact PySem.P.ge_str ⟨.bl _,H,I,rfl,q⟩
end
end L2
end
section
namespace VS
open PySem PySem.Spec PyProof.Rows L2
section
variable{G:Gx}{X:Cx}{a b c e tg:Expr}{es:List Expr}{ca cb cc:Ex}{cs:Hf}{pos p p1 p2 apos oe:Pos}{k k':Nat}
def Dg(H:Hp)(s:Tx)(l:pH s):K6 G (L2.JB (sx s)) (s.map λc=>T.str [c]) [] H:=by
 have sz:(sx s).cps.size=s.length:=rfl;refine⟨λo _ _=>⟨λi t h=>?_,λi h=>(by rw[Zw]at h;show (sx s).cps.size<=i;lia)⟩,λa h=>by simp at h⟩;rw[ZS]at h;obtain⟨c,f,rfl⟩:=Zy.mp h;refine⟨(by show i<(sx s).cps.size;have:=(Zh.mp f).1;lia),λx n ⟨e1,g,j,e2⟩=>?_⟩;subst e1;have:g=c:=by
  have m:(sx s).cps[i]?=Z c:=by simp[sx,f]
  rw[m]at j;exact(Zn j).symm
 subst this;rw[e2];exact⟨aG.refl _,[],.str [g] ⟨(by show 1<=eY;decide),λd hd=>by rw[Zb.mp hd];exact l.2 g (Yj f)⟩,λa h=>by simp at h⟩
def fq(w:PV G X a ca)(C:X.K=G.K:=by rfl):Pn G X tg a (hZ ca) :=
 PI.weak (Ap w) λJ H R u=>by
  obtain⟨M,U,m,l,s,e,k⟩:=u;unfold hZ at e;obtain⟨⟨t,x⟩,y,e1⟩:=Zz.mp e;refine⟨M,U,t,x,s,y,λv f F n j q=>?_⟩;cases x with
  |lst r =>
   cases e1;obtain⟨o,g,A,rfl,rfl,d,i⟩:=j.lst_inv;exact .inl ⟨o,rfl,⟨g,G5.of d⟩,k _ f _ n (Bh X.K d i) q.c⟩
  |tup r =>
   cases e1;obtain⟨o,g,A,rfl,rfl,d,i⟩:=j.Ij;exact .inr (.inl ⟨o,rfl,⟨g,HS.of d⟩,k _ f _ n (DD X.K d i) q.c⟩)
  |str z =>
   cases e1;obtain⟨rfl,ok⟩:=j.str_inv;exact .inr (.inr ⟨_,rfl,k _ f [] n (Dg f z ok) λa h=>by simp at h⟩)
  |_=>cases e1
theorem vD{H:Hp}:∀{d:List V}{l:W5}{g:Xg}{f:Wb},RpL G H d l g->l5 l=Z f->d=f.map V.int
 |_,_,_,_,.nil,e=>by cases e;rfl
 |_,_,_,_,.cons (t:=t) r q,e=>by
  cases t with
  |int s =>
   simp only[l5]at e;obtain⟨h,e1,e2⟩:=Zy.mp e;subst e2;rw[vD q e1,r.int_inv];rfl
  |_=>cases e
def C2:fP G (λd H Q=>∃p,∃ns:Wb,d=[.ref p]/\G5 G.K H p (ns.map V.int)/\Q (.int ns.sum) H) wQ:=by
 intro M U r H l f n m t Q A e k;unfold wQ at e;split at e
 ·rename_i q x;obtain⟨i,e1,e2⟩:=Zz.mp e;cases e2;obtain⟨v,F,rfl,rfl,g⟩:=(show RpL G H f [.lst x] n from A.rp).one;obtain⟨a,o,s,rfl,rfl,j,h⟩:=g.lst_inv;exact⟨a,i,rfl,by rw[← vD h e1];exact G5.of j,bF k (.int _)⟩
 ·cases e
def Cs:bootBuiltins ("sum" : Str)=Z (.builtin "sum"):=by decide +kernel
def zt:bootBuiltins ("tuple" : Str)=Z (.type "tuple"):=by decide +kernel
def w_sum(d:X.mg "sum" = L)(h:HM G X [e] cs)(f:Gl X "sum" := by rfl)(i:X.K=G.K:=by rfl)(g:X.calm=R:=by rfl)(he:K1 e [] X:=by rfl):PV G X (.Call (.Name "sum" p) [e] [] pos) (eN wQ cs) :=
 km (yw g) (i ▸ C2) f d Cs h (he:=he) (hpl:=rfl)
def zM:fP G (λh H Q=>∃p d,h=[.ref p]/\((G5 G.K H p d/\∀l,H l=L->Q (.ref l) (upd H l (.tup d)))\/(HS G.K H p d/\Q (.ref p) H))) ko:=by
 intro M U C H l i w m t Q A e k;unfold ko at e;split at e
 ·rename_i y x;split at e
  ·rename_i z;cases e;obtain⟨v,F,rfl,rfl,j⟩:=(show RpL G H i [.lst x] w from A.rp).one;obtain⟨a,d,u,rfl,rfl,s,n⟩:=j.lst_inv;have f:=(A.fp.each 0 _ _ Y Y).sub (Yu _ _);refine⟨a,d,rfl,.inl ⟨G5.of s,λq o=>?_⟩⟩;have g:aG H (upd H q (.tup d)):=bD o;have r:Rp G (upd H q (.tup d)) (.ref q) (.tup x) u.flatten:=.tup aw (n.same g);exact k _ _ _ g r (f.up r)
  ·cases e
 ·cases e
def Bm(d:X.mg "tuple" = L)(g:HM G X [e] cs)(f:Gl X "tuple" := by rfl)(h:X.K=G.K:=by rfl)(he:K1 e [] X:=by rfl):PV G X (.Call (.Name "tuple" p) [e] [] pos) (eN ko cs) :=
 jC oE (h ▸ zM) f d zt g (he:=he) (hpl:=rfl)
def PM:R2:=λx y H Q=>JP (λi j=>.bl (decide (j<i))) x y H Q\/(∃i j,x=.str i/\y=.str j/\Q (.bl (decide (j.cps.toList<i.cps.toList))) H)
def Sj:R2:=λx y H Q=>JP (λi j=>.bl (decide (j<=i))) x y H Q\/(∃i j,x=.str i/\y=.str j/\Q (.bl (!decide (i.cps.toList<j.cps.toList))) H)
def yQ(s t:Tx):decide ((sx s).cps.toList<(sx t).cps.toList)=Kk s t:=by rw[oi];exact decide_eq_decide.mpr (by simp[sx])
def BP:fF G PM Jy:=by
 intro M U i H x y u w l j m t Q d e k;obtain⟨h,x⟩:=x;obtain⟨g,y⟩:=y;obtain⟨same,r1,r2,f1,f2,nd⟩:=d;unfold Jy oLt at e;split at e
 ·rename_i e1 e2;cases e1;cases e2;cases e;exact .inl ⟨_,_,r1.int_inv,r2.int_inv,bF k (.bl _)⟩
 ·rename_i s _ f e1 e2;cases e1;cases e2;cases e;refine .inr ⟨_,_,r1.str_inv.1,r2.str_inv.1,?_⟩;rw[yQ];exact bF k (.bl _)
 ·cases e
def FS:fF G Sj Mp:=by
 intro M U i H x y u w l j m t Q d e k;obtain⟨h,x⟩:=x;obtain⟨g,y⟩:=y;obtain⟨same,r1,r2,f1,f2,nd⟩:=d;unfold Mp oLe at e;split at e
 ·rename_i e1 e2;cases e1;cases e2;cases e;exact .inl ⟨_,_,r1.int_inv,r2.int_inv,bF k (.bl _)⟩
 ·rename_i s _ f e1 e2;cases e1;cases e2;cases e;refine .inr ⟨_,_,r1.str_inv.1,r2.str_inv.1,?_⟩;rw[yQ];exact bF k (.bl _)
 ·cases e
def yi:Tells Jy:=λx y m t e=>kG y x m t e
def xG:Tells Mp:=λx y m t e=>ye y x m t e
def vi(f:PV G X a ca)(d:PV G X b cb):ID G X (.Compare a [.Gt] [b] pos) (e2 Jy ca cb):=iG (r:=PM) (B0.or oX) BP yi f d (fQ _)
def BU(f:PV G X a ca)(d:PV G X b cb):ID G X (.Compare a [.GtE] [b] pos) (e2 Mp ca cb):=iG (r:=Sj) (EJ.or v7) FS xG f d (fQ _)
def qN{r o:R2}{f g:Val->Val->W4}(O:fF G r f)(UA:fF G o g){J:L2.St}{H:Hp}{Q:VK}(h:tE G (fh f g ca cb cc) J H Q):zP r o (tE G ca) (tE G cb) (tE G cc) J H Q:=by
 obtain⟨M,U,m,t,s,e,k⟩:=h;unfold fh at e;obtain⟨x,ea,e⟩:=Zz.mp e;obtain⟨y,eb,e⟩:=Zz.mp e;obtain⟨⟨P,z⟩,ez,e⟩:=Zz.mp e;refine zR s ea eb λu w H2 F1 A d=>O M U H H2 x y u w F1 A P z _ d ez λv H3 F e1 r1 f1=>?_;cases z with
 |bl q =>
  refine⟨q,r1.Ht,?_⟩;cases q with
  |false =>
   cases e;rw[Zp Za];exact k _ H3 [] (d.same.trans e1) (.bl B) Fp.nil
  |true =>
   rw[Zq Y];obtain⟨l,ec,e⟩:=Zz.mp (show (cc U).bind (λz=>g y z)=Z (m,t) from e);have i:=d.same.trans e1;refine⟨M,U,l.1,l.2,s.same i,ec,λC H4 F4 n N j=>?_⟩;refine UA M U H H4 y l w C A F4 m t Q ⟨i.trans n,(d.r2.same e1).same n,N,d.f2,j.back i,λhx S=>?_⟩ e λD H5 F5 e5 E f5=>k D H5 F5 ((i.trans n).trans e5) E f5;have f2:=d.f2;rw[hx]at f2;rw[S]at j;refine ZP.mpr ⟨f2.1,j.1,λa ha b hb z=>?_⟩;subst z;exact GV.jj ((d.r2.same e1).G1 a ha) (j.2 a hb)
 |_=>cases e
def vq{x:Str}{i:Int}(h:∃t,X.mg x=Z (.int i t))(f:Gl X x:=by rfl)(g:K3 x:=by decide):PV G X (.Name x pos) (Q2 i):=by
 obtain⟨t,d⟩:=h;exact Bq (v:=.int i) f d ⟨t,rfl⟩ (λH=>.int i) g
end
end VS
end
section
namespace L2
open PySem PySem.Spec PyProof.Rows
section
variable{X:Cx}
def wo{α:Type}(l:List α)(n:Nat):∀acc:List α,List.foldl (λa x2=>a++x2) acc.toArray (List.replicate n l.toArray)=(acc++(List.replicate n l).flatten).toArray:=by
 induction n with
 |zero=>intro acc;simp
 |succ n b =>
  intro acc;rw[Y5,YR];have e:acc.toArray++l.toArray=(acc++l).toArray:=by simp
  rw[e,b (acc++l),Y5,ZV,ZI]
def Bf:OpR X (binaryOp .Mult) (λx y H Q=>∃(l:Wc)(k:Int),x=.str ⟨l.toArray⟩/\y=.int k/\-(2 ^ 62)<=k/\k<2 ^ 62/\l.length*k.toNat<=KB/\Q (.str ⟨(List.replicate k.toNat l).flatten.toArray⟩) H):=by
 intro f s J H x y v u Q I i g h;obtain⟨l,k,rfl,rfl,z,w,b,q⟩:=h;obtain⟨t,rfl⟩:=i;obtain⟨r,rfl⟩:=g;have hlen:(⟨l.toArray⟩:Str).length=l.length:=rfl;refine PySem.P.mul_str ?_ ?_ ?_ ?_
 ·rw[Bool.or_eq_false_iff];exact⟨ZZ (by lia),ZZ (by lia)⟩
 ·intro d _ o;rw[hlen]at o;have n:0<k:=by lia
  have:(l.length:Int)*k<=16777216:=by
   have j:l.length*k.toNat<=16777216:=b;have:((l.length*k.toNat:Nat):Int)<=16777216:=by lia
   rw[Int.natCast_mul]at this
   rwa [Int.toNat_of_nonneg (by lia)]at this
  have p:(l.length:Int)*k<=2 ^ 63-1:=by lia
  have:=(Int.le_ediv_iff_mul_le n).mpr p;lia
 ·intro _ _;rw[hlen];exact ZZ (by show ¬_ > _;exact Nat.not_lt.mpr b)
 ·by_cases d:k<1
  ·rw[Zq d];have e:k.toNat=0:=by lia
   rw[e]at q;exact⟨by decide,⟨.str ⟨#[]⟩,H,I.tok _,⟨_,rfl⟩,q⟩⟩
  ·rw[Zp d];split
   ·rename_i a;have e:(List.replicate k.toNat l).flatten=l:=by
     rw[Bool.or_eq_true]at a;rcases a with a | a
     ·have:k=1:=by simpa using a
      subst this;show (List.replicate 1 l).flatten=l;simp
     ·have:l=[]:=by
       rw[hlen]at a;exact List.eq_nil_of_length_eq_zero (by simpa using a)
      subst this;simp
    rw[e]at q;exact⟨.str ⟨l.toArray⟩,H,I,⟨t,rfl⟩,q⟩
   ·have e:=wo l k.toNat [];rw[Yc]at e;rw[show (⟨l.toArray⟩:Str).cps=l.toArray from rfl,e];refine⟨?_,⟨.str ⟨(List.replicate k.toNat l).flatten.toArray⟩,H,I.tok _,⟨s.toks,rfl⟩,q⟩⟩;have m:=len_rep l k.toNat;show (⟨(List.replicate k.toNat l).flatten.toArray⟩:Str).length<=KB;show ((List.replicate k.toNat l).flatten.toArray).size<=KB;rw[Ze,m,Nat.mul_comm];exact b
end
end L2
namespace VS
open PySem PySem.Spec PyProof.Rows L2
section
variable{G:Gx}{X:Cx}{a b c e tg:Expr}{es:List Expr}{ca cb cc:Ex}{cs:Hf}{pos p p1 p2 apos oe:Pos}{k k':Nat}
def AH:fF G (λx y H Q=>∃(l:Wc)(k:Int),x=.str ⟨l.toArray⟩/\y=.int k/\-(2 ^ 62)<=k/\k<2 ^ 62/\l.length*k.toNat<=KB/\Q (.str ⟨(List.replicate k.toNat l).flatten.toArray⟩) H) uH:=by
 intro M U v H x y u w A z m t Q g e k;obtain⟨s,x⟩:=x;obtain⟨r,y⟩:=y;obtain⟨same,r1,r2,f1,f2,nd⟩:=g;unfold uH at e;split at e
 ·rename_i _ h _ j e1 e2;cases e1;cases e2;split at e
  ·rename_i d;cases e;have o:=d.2.1;have n:=d.2.2;unfold LL at o n;refine⟨h,j,r1.str_inv.1,r2.int_inv,by lia,by lia,d.1,bF k (.str _ ⟨?_,λc q=>?_⟩)⟩
   ·rw[len_rep,Nat.mul_comm];exact d.1
   ·obtain⟨x,i,f⟩:=Wj.mp q;rw[(List.mem_replicate.mp i).2]at f;exact r1.str_inv.2.2 c f
  ·cases e
 ·cases e
def xX:PV G X (.Dict [] [] pos) (r6 0 []):=PE.weak zV λJ H Q d=>by
 obtain⟨M,U,m,t,s,e,k⟩:=d;cases (show Z (Md.fr,T.dct 0 [])=Z (m,t) from e);intro q d;have:Rp G (upd H q (.dK [])) (.ref q) (.dct 0 ((([]:List Key).map aR).zip [])) (q :: ([]:Xg).flatten):=.dct aw Y .nil;exact k _ _ [q] (bD d) this ⟨by simp,λb hb=>by rw[Zb.mp hb];exact d⟩
end
section
variable{G:Gx}{X:Cx}{a b c e tg:Expr}{es:List Expr}{ca cb cc ce:Ex}{cs:Hf}{pos p p1 p2 apos oe pos':Pos}{k k':Nat}
def ie{h:List Stmt}{E:Sx}(hp:PassesOwn (IR X.prog X.w) X.A X.env X.xe)(hc:ID G X c cc)(hb:gF G X h E):PSV G X (.While c h [] pos) (jM cc E) :=
 PS.weak (yR hp hc hb) λD J H hq=>by
  obtain⟨M,U,o,s,e,k⟩:=hq;refine⟨λn F N=>∃r m,SR G r m F N/\GX M U H r m N/\da cc E n m=Z o,⟨t5,M,U,s,GX.refl M U H,e⟩,?_⟩;rintro n F N ⟨r,m,Q,f2,e2⟩;cases n with
  |zero=>cases (show (L:Option Out)=Z o from e2)
  |succ n =>
   rw[da]at e2;obtain⟨⟨mx,x⟩,ex,e3⟩:=Zz.mp e2;obtain⟨t,et,C⟩:=Zz.mp e3;refine⟨r,m,mx,x,t,Q,ex,et,λH3 O=>?_⟩;have P:=Q.same O;have y:GX M U H r m H3:=f2.trans (GX.same O);cases t with
   |false =>
    rw[Zp Za]at C;cases C;show if B=R then _ else _
    rw[Zp Za];exact k r F H3 P y
   |true =>
    rw[Zq Y]at C;show if R=R then _ else _
    rw[Zq Y];obtain⟨S,e5,z⟩:=Zz.mp C;refine⟨λi g=>∃f d,SR G f d i g/\GX M U H f d g/\da cc E n d=Z o,λi g q=>⟨n,Yz n,q⟩,r,m,S,P,e5,?_⟩;cases S with
    |nx d=>exact λf i g j l=>⟨f,d,j,y.trans l,z⟩
    |ct d=>exact λf i g j l=>⟨f,d,j,y.trans l,z⟩
    |bk d =>
     cases (show Z (Out.nx d)=Z o from z);exact λf i g j l=>k f i g j (y.trans l)
    |rt v d =>
     cases (show Z (Out.rt v d)=Z o from z);exact λu g F4 f i j l r5 q5=>k u g F4 f i j (y.trans l) r5 (q5.back y)
def NH:Sx:=λ_=>L
def qu{f:Stmt}:PSV G X f NH:=λd s J H D I ⟨_,_,_,_,e,_⟩=>nomatch (show (L:Option Out)=Z _ from e)
def fj{H:Hp}{v:V}{l:List (T×T)}{F:X7}(r:Rp G H v (.dct 0 l) F):∃(a:KF)(f:List Key)(d:List V)(g:W5)(i:Xg),v=.ref a/\F=a :: i.flatten/\H a=Z (.dK (f.zip d))/\f.length=d.length/\l=(f.map aR).zip g/\RpL G H d g i:=by
 cases r with
 |dct h j q=>exact⟨_,_,_,_,_,rfl,rfl,h,j,rfl,q⟩
def dR{H:Hp}{v:V}{t:T}{F:X7}(r:Rp G H v t F)(h:iU t=R):∃k:Key,v=kV k/\t=aR k:=by
 cases t with
 |int i=>exact⟨.inl i,r.int_inv,rfl⟩
 |str s=>exact⟨.inr (sx s),r.str_inv.1,by simp[aR,sx]⟩
 |_=>cases h
theorem kS{H:Hp}{k:Key}:∀{d:List Key}{f:List V}{ts:W5}{Fs:Xg},d.length=f.length->RpL G H f ts Fs →
  (fI ((d.map aR).zip ts) (aR k)=L/\gE (d.zip f) k=L)\/∃(i:Nat)(v:V)(t:T)(F:X7),fI ((d.map aR).zip ts) (aR k)=Z t/\gE (d.zip f) k=Z v/\f[i]?=Z v/\Fs[i]?=Z F/\Rp G H v t F
 |[],[],_,_,_,.nil=>.inl ⟨rfl,rfl⟩
 |k' :: d,v :: f,_,_,o,.cons (t:=t) (F:=F) (ts:=ts) (Fs:=Fs) r q=>by
  have e:eqT (aR k') (aR k)=decide (k'=k):=by
   rw[Yb,decide_eq_true_eq];cases k with
   |inl i=>cases k'<;>simp[aR]
   |inr x =>
    obtain⟨⟨x⟩⟩:=x;cases k' with
    |inl j=>simp[aR]
    |inr y=>obtain⟨⟨y⟩⟩:=y;simp[aR]
  by_cases g:k'=k
  ·refine .inr ⟨0,v,t,F,?_,iX g,rfl,rfl,r⟩;have l:eqT (aR k') (aR k)=R:=by rw[e];exact decide_eq_true g
   simp only[fI,Zo,ZX,Z9,l];rfl
  ·have u:fI (((k' :: d).map aR).zip (t :: ts)) (aR k)=fI ((d.map aR).zip ts) (aR k):=by
    have l:eqT (aR k') (aR k)=B:=by rw[e];exact ZZ g
    simp only[fI,Zo,ZX,Z9,l]
   have s:gE ((k' :: d).zip (v :: f)) k=gE (d.zip f) k:=by simp[gE,g]
   rw[u,s];rcases kS (k:=k) (by simpa using o) q with h | ⟨i,m,n,E,D,C,A,z,w⟩
   ·exact .inl h
   ·exact .inr ⟨i+1,m,n,E,D,C,by simpa using A,by simpa using z,w⟩
def qC(m:X.A.units+1<cLine):Ip X (λx y H Q=>∃a v,x=.ref a/\ig H a y (Z v)/\Q v H):=by
 intro value slice d s J H x y v u Q I l j h n;obtain⟨a,w,rfl,g,q⟩:=h;cases l;have f:=rO I g;unfold subscriptTail;refine Zj ?_;rw[getitemInPython_of_ne f.not_modules];refine Zj (wpAny_specialOf f PySem.F.slot_dict_getitem.lookup ?_);have fin:On (IR X.prog X.w) X.A (subscripted slice B (.ref a) u) (λr i=>On (IR X.prog X.w) X.A (letTemporaryGo value (.ref a) r >>= λ_=>pure r) (EP X d J Q) X.xe i) X.xe s:=by
  rw[n];exact wpAny_operating (wg m I g j λz C t o=>Zj (wpAny_letTemporaryGo (ZO ⟨w,H,t,o,q⟩)))
 first
  |exact ZO (Zj fin)
  |exact Zj (ZO (Zj fin))
  |exact Zj fin
def E7(K:Xd):R2:=λx y H Q=>PL K x y H Q\/∃a v,x=.ref a/\ig H a y (Z v)/\Q v H
def FY:fF G (E7 G.K) Iy:=by
 intro M U J H x y u w O N m t Q d e k;obtain⟨g,x⟩:=x;by_cases hd:∃l,x=.dct 0 l
 ·obtain⟨l,rfl⟩:=hd;simp only[Iy]at e;split at e
  ·rename_i o;obtain⟨t',e1,e2⟩:=Zy.mp e;obtain⟨a,ks,P,S,Fs,rfl,rfl,r,n,rfl,q⟩:=fj d.r1;obtain⟨j,rfl,z⟩:=dR d.r2 o;rw[z]at e1;rcases kS (k:=j) n q with⟨s,_⟩ | ⟨i,v,Y,F,E,D,a3,C,h⟩
   ·rw[s]at e1;cases e1
   ·rw[E]at e1;cases e1;cases e2;refine .inr ⟨a,v,rfl,by rw[← D];exact ig.k r,?_⟩;have f:=((d.f1.sub (Yu _ _)).sub (cJ C)).up h;exact k v H F (aG.refl _) h f
  ·cases e
 ·have A:aB (g,x) y=Z (m,t):=by
   simp only[Iy]at e;split at e
   ·rename_i l hx;exact absurd ⟨_,rfl⟩ hd
   ·exact e
  exact .inl (uy M U J H (g,x) y u w O N m t Q d A k)
def ub(f:p0 k X.A)(i:PV G X a ca)(g:PV G X b cb)(d:gI b:=by intro _ _;rfl)(j:X.K=G.K:=by rfl):PV G X (.Subscript a b pos) (e2 Iy ca cb) :=
 PE.weak (mQ (Ip.or jS (qC (ke f))) i g d) λJ H Q h=>by rw[j];exact lD FY h
def fV:T->V
 |.bl b=>.bl b
 |.int i=>.int i
 |.str s=>.str (sx s)
 |_=>.non
def Ck{H:Hp}{v:V}{t:T}{F:X7}(r:Rp G H v t F)(h:flat t=R):v=fV t/\fS v=R:=by
 cases r with
 |non=>exact⟨rfl,rfl⟩
 |bl b=>exact⟨rfl,rfl⟩
 |int i=>exact⟨rfl,rfl⟩
 |str s d=>exact⟨rfl,rfl⟩
 |_=>cases h
theorem Eu:∀{t u:T},flat t=R->flat u=R->Le (fV t) (fV u)=eqT t u
 |.non,.non,_,_=>rfl
 |.non,.bl _,_,_=>rfl
 |.non,.int _,_,_=>rfl
 |.non,.str _,_,_=>rfl
 |.bl _,.non,_,_=>rfl
 |.bl _,.bl _,_,_=>rfl
 |.bl _,.int _,_,_=>rfl
 |.bl _,.str _,_,_=>rfl
 |.int _,.non,_,_=>rfl
 |.int _,.bl _,_,_=>rfl
 |.int _,.int _,_,_=>rfl
 |.int _,.str _,_,_=>rfl
 |.str _,.non,_,_=>rfl
 |.str _,.bl _,_,_=>rfl
 |.str _,.int _,_,_=>rfl
 |.str _,.str _,_,_=>zW
def yD{H:Hp}{v w:V}{t u:T}{F h:X7}(r:Rp G H v t F)(g:Rp G H w u h)(f:flat t=R)(d:flat u=R):Le v w=eqT t u/\fS v=R/\fS w=R:=by
 obtain⟨e1,f1⟩:=Ck r f;obtain⟨e2,f2⟩:=Ck g d;refine⟨?_,f1,f2⟩;rw[e1,e2];exact Eu f d
theorem p8{H:Hp}{x:V}{t:T}{F:X7}(r:Rp G H x t F)(g:flat t=R):∀{d:List V}{f:W5}{m:Xg},RpL G H d f m->f.all flat=R->d.all fS=R/\N3 x d=f.any λy=>eqT y t
 |_,_,_,.nil,_=>⟨rfl,rfl⟩
 |_,_,_,.cons j q,h=>by
  rw[Xk,Zd]at h;obtain⟨l,i⟩:=p8 r g q h.2;obtain⟨e1,e2,n⟩:=yD j r h.1 g;refine⟨by rw[Xk,e2,l];rfl,?_⟩;unfold N3 at i ⊢;rw[YY,YY,i,e1]
def FU(K:Xd):R2:=λx y H Q=>OX K B x y H Q\/∃a o,y=.ref a/\ig H a x o/\Q (.bl o.isSome) H
def uL(K:Xd):R2:=λx y H Q=>OX K R x y H Q\/∃a o,y=.ref a/\ig H a x o/\Q (.bl (!o.isSome)) H
def BA(j:X.A.units+1<cLine):OpR X (SC .In) (λx y H Q=>∃a o,y=.ref a/\ig H a x o/\Q (.bl o.isSome) H):=by
 intro d s J H x y v u Q I i f h;obtain⟨a,o,rfl,g,q⟩:=h;cases f;exact Ge j I g i λm l=>⟨.bl o.isSome,H,l,rfl,q⟩
def xY(j:X.A.units+1<cLine):OpR X (SC .NotIn) (λx y H Q=>∃a o,y=.ref a/\ig H a x o/\Q (.bl (!o.isSome)) H):=by
 intro d s J H x y v u Q I i f h;obtain⟨a,o,rfl,g,q⟩:=h;cases f;exact Aa j I g i λm l=>⟨.bl (!o.isSome),H,l,rfl,q⟩
def rJ{M:GU}{U:VS.Env}{O H:Hp}{x y:Val}{u w:V}{Q P:X7}{m:Md}{t:T}(f:OF G M U O H x y u w Q P)(e:lM x y=Z (m,t)) :
  ∃b,m=.fr/\t=.bl b/\((∃p n,w=.ref p/\(G5 G.K H p n\/HS G.K H p n)/\fS u=R/\n.all fS=R/\N3 u n=b)\/∃a o,w=.ref a/\ig H a u o/\o.isSome=b):=by
 obtain⟨m2,y⟩:=y;simp only[lM]at e;split at e
 ·split at e
  ·rename_i d;cases e;obtain⟨a,C,g,S,A,rfl,rfl,h,D,rfl,q⟩:=fj f.r2;obtain⟨z,rfl,E⟩:=dR f.r1 d;refine⟨_,rfl,rfl,.inr ⟨a,gE (C.zip g) z,rfl,ig.k h,?_⟩⟩;rw[E];rcases kS (k:=z) D q with⟨l,j⟩ | ⟨i,v,Y,F,N,J,_⟩
   ·rw[l,j];rfl
   ·rw[N,J];rfl
  ·cases e
 ·split at e
  ·rename_i d;cases e;rw[Zd]at d;obtain⟨a,g,A,rfl,rfl,h,r⟩:=f.r2.lst_inv;obtain⟨l,j⟩:=p8 f.r1 d.1 r d.2;have s:fS u=R:=(yD f.r1 f.r1 d.1 d.1).2.1;exact⟨_,rfl,rfl,.inl ⟨a,g,rfl,.inl (G5.of h),s,l,j⟩⟩
  ·cases e
 ·split at e
  ·rename_i d;cases e;rw[Zd]at d;obtain⟨a,g,A,rfl,rfl,h,r⟩:=f.r2.Ij;obtain⟨l,j⟩:=p8 f.r1 d.1 r d.2;have s:fS u=R:=(yD f.r1 f.r1 d.1 d.1).2.1;exact⟨_,rfl,rfl,.inl ⟨a,g,rfl,.inr (HS.of h),s,l,j⟩⟩
  ·cases e
 ·cases e
def EE:fF G (FU G.K) lM:=by
 intro M U j H x y u w n l m t Q f e k;obtain⟨b,rfl,rfl,h⟩:=rJ f e;rcases h with⟨p,d,rfl,i,f1,f2,hb⟩ | ⟨a,o,rfl,g,hb⟩
 ·refine .inl ⟨p,d,rfl,i,f1,f2,?_⟩;rw[hb];exact bF k (.bl b)
 ·refine .inr ⟨a,o,rfl,g,?_⟩;rw[hb];exact bF k (.bl b)
def Ed:fF G (uL G.K) de:=by
 intro M U r H x y u w v s m t Q i e k;unfold de at e;split at e
 ·rename_i q d l;cases e;obtain⟨b,rfl,n,h⟩:=rJ i l;cases n;rcases h with⟨p,f,rfl,j,f1,f2,hb⟩ | ⟨a,o,rfl,g,hb⟩
  ·refine .inl ⟨p,f,rfl,j,f1,f2,?_⟩;rw[hb];exact bF k (.bl (!d))
  ·refine .inr ⟨a,o,rfl,g,?_⟩;rw[hb];exact bF k (.bl (!d))
 ·cases e
def ya:Tells lM:=by
 intro x y m t e;simp only[lM]at e;split at e
 all_goals first | (split at e<;>first | (cases e;exact⟨_,rfl⟩) | cases e) | cases e
def wM:Tells de:=by
 intro x y m t e;unfold de at e;split at e
 ·cases e;exact⟨_,rfl⟩
 ·cases e
def BX(d:p0 k X.A)(h:PV G X a ca)(g:PV G X b cb)(f:behindInMarks .In b=B:=by with_unfolding_all rfl)(i:X.K=G.K:=by rfl):ID G X (.Compare a [.In] [b] pos) (e2 lM ca cb):=iG (r:=FU X.K) (wL.or (BA (ke d))) (i ▸ EE) ya h g f
def tP(d:p0 k X.A)(h:PV G X a ca)(g:PV G X b cb)(f:behindInMarks .NotIn b=B:=by with_unfolding_all rfl)(i:X.K=G.K:=by rfl):ID G X (.Compare a [.NotIn] [b] pos) (e2 de ca cb):=iG (r:=uL X.K) (pG.or (xY (ke d))) (i ▸ Ed) wM h g f
end
end VS
end
section
open PySem PyProof.Rows
namespace TS
variable{prog:P3}{w:SZ}{A:Re}{E:Z4}{s:GM}{G:PP->Prop}{r:PP->PP->Bool}
def oM{d:Wf}{a:Array PP}(e:a.Perm (pairsOf d)):(a.map (·.2)).toList.Perm d/\(a.map (·.2)).toList.map (λv=>(v,v))=a.toList:=by
 have b:=Array.perm_iff_toList_perm.mp e;rw[pairsOf_toList]at b;constructor
 ·rw[Array.toList_map];refine(b.map _).trans ?_;rw[show (λx:PP=>x.2)=Prod.snd from rfl,List.map_snd_zip (Zm _)]
 ·rw[Array.toList_map,Z0]
  conv=>rhs;rw[← List.map_id a.toList]
  apply XE;intro p f;have:=mem_zip_self (b.mem_iff.mp f);exact Prod.ext this.1.symm Y
end TS
end
section
namespace L2
open PySem PySem.Spec PyProof.Rows TS
section
variable{X:Cx}
theorem qU:∀{a:Wf},(∀v∈a,∃x t,v=Value.str x t)->aQ ((a.map strOf).map V.str) a
 |[],_=>.nil
 |u :: a,h=>by
  obtain⟨x,t,rfl⟩:=h u (Zt ..);exact .cons ⟨t,rfl⟩ (qU λv b=>h v (Zu _ b))
end
end L2
end
section
namespace VS
mutual
theorem jo:∀(n:Nat)(t:T),HJ n t=R->eqT t t=R
 |n,.non,_=>by simp
 |n,.bl _,_=>by simp
 |n,.int _,_=>by simp
 |n,.str _,_=>by simp
 |n+1,.tup l,h=>by
  simp only[HJ,Yw]at h;simp only[eqT];exact lO n l h
 |n+1,.lst l,h=>by
  simp only[HJ,Yw]at h;simp only[eqT];exact lO n l h
 |0,.tup _,h=>by simp at h
 |0,.lst _,h=>by simp at h
 |_,.scr _,h=>by simp at h
 |_,.dct _ _,h=>by simp at h
 |_,.obj _ _,h=>by simp at h
theorem lO:∀(n:Nat)(l:W5),(∀t∈l,HJ n t=R)->tD l l=R
 |_,[],_=>rfl
 |n,t :: r,h=>by
  simp only[tD,Zd];exact⟨jo n t (h t Zt),lO n r λu a=>h u (Zu _ a)⟩
end
def za{α:Type}(l:List α)(a b:Option Int):(cut l a b).length<=l.length:=by
 unfold cut;simp only[XS,Z1];omega
def Be{α:Type}(l:List α)(a b:Option Int){x:α}(h:x∈cut l a b):x∈l:=by
 unfold cut at h;exact List.mem_of_mem_drop (List.mem_of_mem_take h)
def Cw{α:Type}(l:List α)(k:Nat):cut l L (Z (k:Int))=l.take k:=by
 have h:¬((k:Int)<0):=by lia
 by_cases a:k<=l.length
 ·simp[cut,clip,h,YF a]
 ·rw[YH (by lia)];simp[cut,clip,h,Wp (Xl a)]
def fz{tg:Tg}{it:JB}{body:Sx}{U:Env}{m:Md}{l:W5}(e:it U=Z (m,l))(h:Sn m=R):gS tg it body U=forL tg body l U:=by
 unfold gS;rw[e];exact Zq h
def bw{g:Fn}{b:Hf}{U:Env}{a:W3}{t:T}(h:b U=Z a)(d:g (trees a)=Z (.fr,t)):bh g b U=Z (.fr,t):=by
 simp only[bh,h,Zx,d]
def aJ{i:Nat}{e:Ex}{U:Env}{m:Md}{t:T}(h:e U=Z (m,t))(a:m ≠ .bo)(b:i<U.length):aK i e U=Z (.nx (U.set i (Z (.pu t)))):=by
 simp only[aK,h,Zx];cases m with
 |bo=>exact absurd Y a
 |_=>simp[b]
end VS
end
section
namespace VS
open PySem PySem.Spec PyProof.Rows L2
def Fz{a b c:Tx}(h:a<b)(d:¬c<b):a<c:=by
 by_cases e:a<c
 ·exact e
 ·exact absurd (List.lt_of_le_of_lt (List.not_lt.mp e) h) d
theorem jV(x:Tx):∀l:List Tx,(oy x l).Perm (x :: l)
 |[]=>List.Perm.refl _
 |y :: r=>by
  unfold oy;split
  ·exact((jV x r).cons y).trans (List.Perm.swap _ _ _)
  ·exact List.Perm.refl _
theorem jh:∀l:List Tx,(eX l).Perm l
 |[]=>List.Perm.refl _
 |x :: l=>(jV x _).trans ((jh l).cons x)
theorem rC(x:Tx):∀{l:List Tx},l.Pairwise (λa b=>¬b<a)->(oy x l).Pairwise (λa b=>¬b<a)
 |[],_=>by simp[oy]
 |y :: r,h=>by
  unfold oy;rw[oi];obtain⟨f,g⟩:=X1.mp h;split
  ·rename_i c;have e:y<x:=by simpa using c
   refine X1.mpr ⟨λz d=>?_,rC x g⟩;rcases Zi.mp ((jV x r).mem_iff.mp d) with rfl | d
   ·exact λz=>List.lt_irrefl _ (List.lt_trans e z)
   ·exact f z d
  ·rename_i c;have e:¬y<x:=by simpa using c
   refine X1.mpr ⟨λz d=>?_,h⟩;rcases Zi.mp d with rfl | d
   ·exact e
   ·exact λw=>f z d (Fz w e)
theorem pk:∀l:List Tx,(eX l).Pairwise (λa b=>¬b<a)
 |[]=>List.Pairwise.nil
 |x :: l=>rC x (pk l)
def oV{l d:List Tx}(h:d.Perm l)(e:d.Pairwise (λa b=>¬b<a)):d=eX l :=
 List.Perm.eq_of_pairwise (le:=λa b=>¬b<a) (λa b _ _ g f=>List.le_antisymm (List.not_lt.mp g) (List.not_lt.mp f)) e (pk l) (h.trans (jh l).symm)
def yN(s:Tx):(sx s).cps.toList=s:=rfl
def zm{f:List Tx}{d:List Str}(h:d.Perm (f.map sx))(i:d.Pairwise (λa b=>¬b.cps.toList<a.cps.toList)):d=(eX f).map sx:=by
 have e:d=(d.map λx=>x.cps.toList).map sx:=by
  rw[Z0]
  conv=>lhs;rw[← List.map_id d]
  apply XE;intro x g;obtain⟨s,_,rfl⟩:=Yq.mp (h.mem_iff.mp g);show sx s=sx (sx s).cps.toList;rw[yN]
 have e2:(d.map λx=>x.cps.toList)=eX f:=by
  refine oV ?_ ?_
  ·have:=h.map λx:Str=>x.cps.toList;rw[Z0]at this;have j:((λx:Str=>x.cps.toList) ∘ sx)=id:=by
    funext s;exact yN s
   rw[j,List.map_id]at this;exact this
  ·rw[Wv];exact i
 rw[e,e2]
noncomputable def Na(s:Tx):Bool:=decide (s.length<=eY)&&s.all (λc=>decide (c<1114112))
def C6{s:Tx}(h:Na s=R):pH s:=by
 unfold Na at h;simp at h;exact h
section
variable{G:Gx}{X:Cx}{e:Expr}{cs:Hf}{p pos:Pos}
theorem tV{H:Hp}:∀{ss:List Tx},(∀s∈ss,pH s)->RpL G H (ss.map λs=>V.str (sx s)) (ss.map T.str) (ss.map λ_=>[])
 |[],_=>.nil
 |s :: ss,h=>.cons (.str s (h s (Zt ..))) (tV λx a=>h x (Zu _ a))
theorem sY{α β:Type}:∀(l:List α),(l.map λ_=>([]:List β)).flatten=[]
 |[]=>rfl
 |_ :: l=>by simp
def xB{M:GU}{U:VS.Env}{i H:Hp}{d:List Tx}{Q:VK}(k:∀v g F,aG H g->Rp G g v (.lst ((eX d).map T.str)) F->Fp M U i .fr F->Q v g)(n:aG i H)(j:∀s∈d,pH s) :
  ∀(l:KF)(f:List Str),H l=L->f.Perm (d.map sx)->f.Pairwise (λa b=>¬b.cps.toList<a.cps.toList)->Q (.ref l) (upd H l (.lst (f.map V.str))):=λq f h u hw=>by
 rw[zm u hw];have m:aG H (upd H q (.lst (((eX d).map sx).map V.str))):=bD h;have o:=tV (G:=G) (H:=upd H q (.lst (((eX d).map sx).map V.str))) λs t=>j s ((jh d).mem_iff.mp t);have r:Rp G (upd H q (.lst (((eX d).map sx).map V.str))) (.ref q) (.lst ((eX d).map T.str)) (q :: ((eX d).map λ_=>[]).flatten):=.lst (by rw[aw,Z0];rfl) o;rw[sY]at r;exact k _ _ _ m r (Fp.new (n.free h) (by simp) Fp.nil)
theorem keys_str:∀{a:List Key}{b:List Tx},strs? (a.map aR)=Z b->a=(b.map sx).map Sum.inr
 |[],_,e=>by cases e;rfl
 |.inl i :: a,_,e=>by cases e
 |.inr x :: a,b,e=>by
  simp only[Zo,aR,strs?]at e;obtain⟨d,e1,e2⟩:=Zy.mp e;subst e2;rw[keys_str e1];simp[sx]
def vS:bootBuiltins ("sorted" : Str)=Z (.builtin "sorted"):=by decide +kernel
end
end VS
end
section
namespace ST
open PySem PySem.Spec PyProof.Rows
variable{prog:P3}{w:SZ}{A:Re}{E:Z4}{s:GM}
def Ga{Q:PySem.Fin->GM->Prop}{f:Z4}(g:A.handled=L)(h:∀(d:SL)(x:KF),(∀b o,s.heap.get? b=Z o->d.get? b=Z o)->(∃o,d.get? x=Z o/\o.cls=.type "StopIteration")->f (.ref x) { s with heap:=d }) :
  On (IR prog w) A (newExc (.type "StopIteration") [] >>= λe=>raiseNew e) Q f s:=by
 simp only[newExc,newTuple];refine Zj (Zj (XM (Zj (m:=firstArgMember _ _) (wpAny_of_eq (a:=Value.none) (by first | rfl | (simp only[firstArgMember];rfl)) (XM ?_ (by size_fits)))) (by size_fits)));simp only[raiseNew];refine Zj (wpAny_handled ?_);rw[g];exact Zj (ZO (wpAny_throw (h _ _ (λb o e=>Zk _ (Zk _ e)) ⟨_,ZU _ Y,rfl⟩)))
end ST
end
section
namespace VS
open PySem PySem.Spec PyProof.Rows L2
inductive Ii(G:Gx)(H:Hp):List Ky->V->V->Prop
 |nil (v:V):Ii G H [] v v
 |fld {c k:Nat} {a dx:KF} {fs:List (Str×V)} {u w:V} {ks:List Ky}:H a=some (.ins (G.ct (c+1)).1 dx fs)->fs.lookup ((G.ct (c+1)).2 k)=some u->Ii G H ks u w->Ii G H (.fld k :: ks) (.ref a) w
 |ix {a:KF} {vs:List V} {i:Int} {j:Nat} {u w:V} {ks:List Ky}:H a=some (.lst vs)->HI vs.length i=some j->vs[j]?=some u->Ii G H ks u w->Ii G H (.at (.int i) :: ks) (.ref a) w
 |key {a:KF} {bt:List (Key×V)} {k:Key} {u w:V} {ks:List Ky}:H a=some (.dK bt)->gE bt k=some u->Ii G H ks u w->Ii G H (.at (aR k) :: ks) (.ref a) w
 |un {v w:V} {ks:List Ky}:Ii G H ks v w->Ii G H (.un :: ks) v w
section
variable{G:Gx}
def pB{f:Xg}{i j:Nat}{F h:X7}(d:f.flatten.Nodup)(b:f[i]?=Z F)(e:f[j]?=Z h)(n:i≠j){a:KF}(g:a∈F):a∉h:=by
 intro hb
 induction f generalizing i j with
 |nil=>simp at b
 |cons G m l =>
  rw[ZV,ZP]at d;cases i with
  |zero =>
   simp at b;subst b;cases j with
   |zero=>exact n Y
   |succ j=>exact d.2.2 a g a (dw (by simpa using e) hb) Y
  |succ i =>
   cases j with
   |zero =>
    simp at e;subst e;exact d.2.2 a hb a (dw (by simpa using b) g) Y
   |succ j=>exact l d.2.1 (by simpa using b) (by simpa using e) (by lia)
def cS{d:Xg}{j:Nat}{g:X7}{a:KF}(h:a∈(d.set j g).flatten):a∈g\/∃i F,i≠j/\d[i]?=Z F/\a∈F:=by
 obtain⟨i,F,b,f⟩:=gB h;by_cases e:i=j
 ·subst e;rw[List.getElem?_set_self' ]at b;cases q:d[i]? with
  |none=>rw[q]at b;cases b
  |some _=>rw[q]at b;cases b;exact .inl f
 ·rw[Yp (Ya e)]at b;exact .inr ⟨i,F,e,b,f⟩
theorem eD:∀{p:Xg}{j:Nat}{f:X7},p.flatten.Nodup->f.Nodup->(∀i F,i≠j->p[i]?=Z F->∀a∈F,a∉f)->(p.set j f).flatten.Nodup
 |[],_,_,h,_,_=>by simpa using h
 |G :: r,0,f,h,o,d=>by
  rw[ZV,ZP]at h;rw[List.set_cons_zero,ZV,ZP];refine⟨o,h.2.1,λa g b hb e=>?_⟩;subst e;obtain⟨i,F,m,l⟩:=gB hb;exact d (i+1) F (by lia) (by simpa using m) a l g
 |G :: r,j+1,f,h,o,d=>by
  rw[ZV,ZP]at h;rw[List.set_cons_succ,ZV,ZP];refine⟨h.1,eD h.2.1 o λi F n q=>d (i+1) F (by lia) (by simpa using q),λa g b hb e=>?_⟩;subst e;rcases cS hb with z | ⟨i,F,n,m,l⟩
  ·exact d 0 G (by lia) Y a g z
  ·exact h.2.2 a g a (dw m l) Y
theorem RpL.each{H h:Hp}:∀{e:List V}{f:W5}{g:Xg},RpL G H e f g->(∀(i:Nat) v t F,e[i]?=Z v->f[i]?=Z t->g[i]?=Z F->Rp G H v t F->Rp G h v t F)->RpL G h e f g
 |_,_,_,.nil,_=>.nil
 |_,_,_,.cons r q,k=>.cons (k 0 _ _ _ Y Y Y r) (RpL.each q λi v t F a b c d=>k (i+1) v t F (by simpa using a) (by simpa using b) (by simpa using c) d)
theorem RpL.setAt{H l:Hp}:∀{e:List V}{f:W5}{m:Xg}{j:Nat}{u:V}{o:T}{p:X7},RpL G H e f m->e[j]?=Z u->Rp G l u o p->(∀(i:Nat) v t F,i≠j->e[i]?=Z v->f[i]?=Z t->m[i]?=Z F->Rp G H v t F->Rp G l v t F)->RpL G l e (f.set j o) (m.set j p)
 |_,_,_,_,_,_,_,.nil,h,_,_=>by simp at h
 |_,_,_,0,_,_,_,.cons r q,h,g,k=>by
  simp at h;subst h;exact .cons g (RpL.each q λi v t F a b c d=>k (i+1) v t F (by lia) (by simpa using a) (by simpa using b) (by simpa using c) d)
 |_,_,_,j+1,_,_,_,.cons r q,h,g,k=>.cons (k 0 _ _ _ (by lia) Y Y Y r) (RpL.setAt q (by simpa using h) g λi v t F n a b c d=>k (i+1) v t F (by lia) (by simpa using a) (by simpa using b) (by simpa using c) d)
def p7{H q:Hp}{a:KF}{o:HO}{s:List V}{D:W5}{d:Xg}{j:Nat}{u:V}{C:T}{A f:X7}(M:H a=Z o)(E:RpL G H s D d)(e:(a :: d.flatten).Nodup)(N:s[j]?=Z u)(y:d[j]?=Z A)(g:Chg G H u A C q f):q a=Z o/\RpL G q s (D.set j C) (d.set j f)/\(a :: (d.set j f).flatten).Nodup/\(∀b∈a :: (d.set j f).flatten,b∈a :: d.flatten\/H b=L)/\∀b o,b∉a :: d.flatten->H b=Z o->q b=Z o:=by
 rw[Zf]at e;have p:∀b∈A,b∈d.flatten:=λb hb=>dw y hb;have P:∀i F,i≠j->d[i]?=Z F->∀b∈F,b∉f:=λi F n J b hb Q=>by
  rcases g.sub b Q with z | z
  ·exact pB e.2 J y n hb z
  ·exact GV.jj (E.G1 b (dw J hb)) z
 refine⟨g.keep a o (λz=>e.1 (p a z)) M,E.setAt N g.rp (λi v t F n m l O r=>r.keep g.kept λb hb w x=>g.keep b w (pB e.2 O y n hb) x),?_,λb hb=>?_,λb w hb x=>g.keep b w (λz=>hb (Zu _ (p b z))) x⟩
 ·rw[Zf];refine⟨λh=>?_,eD e.2 g.nd P⟩;rcases cS h with z | ⟨i,F,n,m,l⟩
  ·rcases g.sub a z with z | z
   ·exact e.1 (p a z)
   ·rw[M]at z;cases z
  ·exact e.1 (dw m l)
 ·rcases Zi.mp hb with rfl | hb
  ·exact .inl Zt
  ·rcases cS hb with z | ⟨i,F,n,m,l⟩
   ·rcases g.sub b z with z | z
    ·exact .inl (Zu _ (p b z))
    ·exact .inr z
   ·exact .inl (Zu _ (dw m l))
theorem qf{α β:Type}:∀(d:List α)(bs:List β)(i:Nat)(a:α)(y:β),d[i]?=Z a->(d.zip bs).set i (a,y)=d.zip (bs.set i y)
 |[],_,_,_,_,h=>by simp at h
 |a :: d,[],i,_,_,_=>by cases i<;>simp
 |a :: d,b :: bs,0,_,y,h=>by simp at h;subst h;rfl
 |a :: d,b :: bs,i+1,_,y,h=>by
  have:=qf d bs i _ y (by simpa using h);simp[this]
theorem kJ{α β:Type}(p:α->Bool):∀{e:List α}{bs:List β}{i:Nat},e.length=bs.length->(e.zip bs).findIdx? (λq=>p q.1)=Z i->∃a b,e[i]?=Z a/\bs[i]?=Z b/\p a=R/\(e.zip bs).find? (λq=>p q.1)=Z (a,b)
 |[],[],_,_,h=>by simp at h
 |a :: e,b :: bs,i,f,h=>by
  rw[ZX,X4]at h;by_cases d:p a=R
  ·rw[Zq d]at h;cases h;exact⟨a,b,rfl,rfl,d,by simp[d]⟩
  ·rw[Zp d]at h;obtain⟨j,g,rfl⟩:=Zy.mp h;obtain⟨s,r,o,n,m,l⟩:=kJ p (by simpa using f) g;exact⟨s,r,by simpa using o,by simpa using n,m,by simp[d,l]⟩
def kK(k a:Key):eqT (aR a) (aR k)=R↔a=k:=by
 cases k with
 |inl i=>cases a<;>simp[aR]
 |inr x =>
  obtain⟨⟨x⟩⟩:=x;cases a with
  |inl j=>simp[aR]
  |inr y=>obtain⟨⟨y⟩⟩:=y;simp[aR]
theorem vn{k:Key}{u:V}:∀{ns:List Key}{d:W5}{a:List V}{i:Nat},ns.length=d.length->ns.length=a.length->((ns.map aR).zip d).findIdx? (λq=>eqT q.1 (aR k))=Z i->a[i]?=Z u->gE (ns.zip a) k=Z u
 |[],_,_,_,_,_,h,_=>by simp at h
 |n :: ns,t :: d,v :: a,i,m,l,h,e=>by
  rw[Zo,ZX,X4]at h;by_cases b:eqT (aR n) (aR k)=R
  ·rw[Zq b]at h;cases h;simp at e;subst e;exact iX ((kK k n).mp b)
  ·rw[Zp b]at h;obtain⟨j,g,rfl⟩:=Zy.mp h;have f:n≠k:=λz=>b ((kK k n).mpr z);have:gE ((n :: ns).zip (v :: a)) k=gE (ns.zip a) k:=by simp[gE,f]
   rw[this];exact vn (by simpa using m) (by simpa using l) g (by simpa using e)
 |_ :: _,[],_,_,h,_,_,_=>by simp at h
 |_ :: _,_ :: _,[],_,_,h,_,_=>by simp at h
def dn{H:Hp}{v:V}{c:Nat}{e:Nat×T}{g:List (Nat×T)}{F:X7}(r:Rp G H v (.obj (c+1) (e :: g)) F):∃(i:Nat)(a p:KF)(b:Bool)(f:Wc)(d:List V)(j:W5)(o:Xg),c+1=i+1/\v=.ref a/\e=(0,.bl b)/\g=f.zip j/\F=a :: o.flatten ∧
  H a=Z (.ins (G.ct (i+1)).1 p ((f.map (G.ct (i+1)).2).zip d))/\f.length=d.length/\(b=R->G.me 0=Z (.ref a))/\RpL G H d j o:=by
 generalize n:T.obj (c+1) (e :: g)=z at r;cases r with
 |ins h l m q =>
  cases n;exact⟨_,_,_,_,_,_,_,_,rfl,rfl,rfl,rfl,rfl,h,l,m,q⟩
 |_=>cases n
def ly{H:Hp}{v:V}{m:Nat}{t:T}{F:X7}(r:Rp G H v (.obj 0 [(0,.bl R),(m,t)]) F):∃a,v=.ref a/\G.me m=Z (.ref a)/\Rp G H (.ref a) t F:=by
 generalize b:T.obj 0 [(0,.bl R),(m,t)]=z at r;cases r with
 |mk h q =>
  cases b;exact⟨_,rfl,h,q⟩
 |_=>cases b
def rP{c a:Nat}(h:∀c k m:Nat,(G.ct c).2 k=(G.ct c).2 m->k=m){e:Wc}{d:List V}{f:W5}{u:V}{i:Nat}(n:e.length=d.length)(b:(e.zip f).findIdx? (λq=>q.1==a)=Z i)(o:e[i]?=Z a)(g:d[i]?=Z u):((e.map (G.ct c).2).zip d).lookup ((G.ct c).2 a)=Z u:=by
 induction e generalizing d f i with
 |nil=>simp at o
 |cons l v p =>
  cases d with
  |nil=>simp at n
  |cons t bs =>
   cases f with
   |nil=>simp at b
   |cons s f =>
    rw[Zo,ZX,Ys];rw[ZX,X4]at b;by_cases q:(l==a)=R
    ·rw[Zq q]at b;cases b;have:l=a:=by simpa using q
     subst this;simp at g;simp[g]
    ·rw[Zp q]at b;obtain⟨j,r,rfl⟩:=Zy.mp b;have:((G.ct c).2 a==(G.ct c).2 l)=B:=by
      rw[ZL];intro z;exact q (by simpa using(h c _ _ z).symm)
     rw[this];exact p (by simpa using n) r (by simpa using o) (by simpa using g)
def Fd{α:Type}{f:T->Option (T×α)}{d:List Ky}{t a:T}{y:α}(e:pm f (.un :: d) t=Z (a,y)):∃m x z,t=.obj 0 [(0,.bl R),(m,x)]/\pm f d x=Z (z,y)/\a=.obj 0 [(0,.bl R),(m,z)]:=by
 cases t with
 |obj c fs =>
  cases c with
  |succ c=>cases e
  |zero =>
   cases fs with
   |nil=>cases e
   |cons q fs =>
    obtain⟨n,v⟩:=q;cases n with
    |succ n=>cases e
    |zero =>
     cases v with
     |bl b =>
      cases b with
      |false=>cases e
      |true =>
       cases fs with
       |nil=>cases e
       |cons g fs =>
        obtain⟨m,x⟩:=g;cases fs with
        |cons _ _=>cases e
        |nil =>
         obtain⟨⟨z,h⟩,e1,e2⟩:=Zy.mp e;cases e2;exact⟨_,_,_,rfl,e1,rfl⟩
     |_=>cases e
 |_=>cases e
def nJ{H:Hp}{α:Type}{f:T->Option (T×α)}:∀(ks:List Ky){v:V}{t t':T}{F:X7}{y:α},(∀c k k':Nat,(G.ct c).2 k=(G.ct c).2 k'->k=k')->Rp G H v t F->F.Nodup->pm f ks t=Z (t',y) →
  ∃w x A C,Ii G H ks v w/\Rp G H w x A/\A.Nodup/\f x=Z (C,y)/\∀q o,Chg G H w A C q o->∃F',Chg G H v F t' q F':=by
 intro ks
 induction ks with
 |nil=>intro v t t' F y _ r nd e;exact⟨v,t,F,t',.nil v,r,nd,e,λq o g=>⟨o,g⟩⟩
 |cons ky ks ih =>
 intro v t t' F y inj r nd e;cases ky with
 |fld k =>
  cases t with
  |obj c Rv =>
   cases c with
   |zero=>cases e
   |succ c =>
   cases Rv with
   |nil=>cases e
   |cons q0 fs =>
   obtain⟨i,h1,e⟩:=Zz.mp e;obtain⟨p,h2,e⟩:=Zz.mp e;obtain⟨⟨z,y'⟩,e1,e2⟩:=Zy.mp e;cases e2;obtain⟨c',a,dx,b,ns,vs,X,Fs,ec,rfl,rfl,rfl,rfl,N,Y,hb,d⟩:=dn r;cases ec;have J5:ns.length=X.length:=Y.trans d.len.1;obtain⟨M,D,g1,g2,g3,g4⟩:=kJ (λn=>n==k) J5 h1;have ek:M=k:=by simpa using g3
   subst ek;have ep:p=(M,D):=by
    have:(ns.zip X)[i]?=Z (M,D):=by rw[YT];exact⟨g1,g2⟩
    rw[this]at h2;exact(Zn h2).symm
   subst ep;obtain⟨u,Fi,J,E,u3⟩:=d.get i g2;obtain⟨w,x,A,C,U,S,Q,P,O⟩:=ih inj u3 (((Zf.mp nd).2).sublist (cJ E)) e1;refine⟨w,x,A,C,.fld (c:=c) N (rP inj Y h1 g1 J) U,S,Q,P,λq o g=>?_⟩;obtain⟨T1,h⟩:=O q o g;obtain⟨s1,s2,s3,s4,s5⟩:=p7 N d nd J E h;refine⟨_,h.kept,s5,h.G1,?_,s3,s4⟩;rw[qf ns X i M z g1];exact .ins s1 Y hb s2
  |_=>cases e
 |un =>
  obtain⟨m,x,z,rfl,e1,rfl⟩:=Fd e;obtain⟨a,rfl,hm,rx⟩:=ly r;obtain⟨w,D,A,C,U,S,Q,P,O⟩:=ih inj rx nd e1;refine⟨w,D,A,C,.un U,S,Q,P,λq o g=>?_⟩;obtain⟨F',g'⟩:=O q o g;exact⟨F',g'.kept,g'.keep,g'.G1,.mk hm g'.rp,g'.nd,g'.sub⟩
 | «at» k =>
  cases t with
  |lst l =>
   cases k with
   |int i =>
    obtain⟨j,h1,e⟩:=Zz.mp e;obtain⟨D,h2,e⟩:=Zz.mp e;obtain⟨⟨z,y'⟩,e1,e2⟩:=Zy.mp e;cases e2;obtain⟨a,vs,Fs,rfl,rfl,N,d⟩:=r.lst_inv;obtain⟨u,Fi,J,E,u3⟩:=d.get j h2;obtain⟨w,x,A,C,U,S,Q,P,O⟩:=ih inj u3 (((Zf.mp nd).2).sublist (cJ E)) e1;refine⟨w,x,A,C,.ix N (by rw[d.len.1];exact h1) J U,S,Q,P,λq o g=>?_⟩;obtain⟨T1,h⟩:=O q o g;obtain⟨s1,s2,s3,s4,s5⟩:=p7 N d nd J E h;exact⟨_,h.kept,s5,h.G1,.lst s1 s2,s3,s4⟩
   |_=>cases e
  |dct kd l =>
   cases kd with
   |zero =>
    have hk:iU k=R/\((l.findIdx? λp=>eqT p.1 k).bind λi=>(l[i]?).bind λp=>(pm f ks p.2).map λz=>(T.dct 0 (l.set i (p.1,z.1)),z.2))=Z (t',y):=by
     cases k with
     |int i=>exact⟨rfl,e⟩
     |str s=>exact⟨rfl,e⟩
     |_=>cases e
    obtain⟨hk,e⟩:=hk;obtain⟨i,h1,e⟩:=Zz.mp e;obtain⟨p,h2,e⟩:=Zz.mp e;obtain⟨⟨z,y'⟩,e1,e2⟩:=Zy.mp e;cases e2;obtain⟨a,ns,vs,X,Fs,rfl,rfl,N,Y,rfl,d⟩:=fj r;have J5:(ns.map aR).length=X.length:=by rw[Zw];exact Y.trans d.len.1
    obtain⟨M,D,g1,g2,g3,g4⟩:=kJ (λn=>eqT n k) J5 h1;have ep:p=(M,D):=by
     have:((ns.map aR).zip X)[i]?=Z (M,D):=by rw[YT];exact⟨g1,g2⟩
     rw[this]at h2;exact(Zn h2).symm
    subst ep;obtain⟨kk,LG⟩:∃kk:Key,k=aR kk:=by
     cases k with
     |int i=>exact⟨.inl i,rfl⟩
     |str s=>exact⟨.inr (sx s),by simp[aR,sx]⟩
     |_=>cases hk
    subst LG;obtain⟨u,Fi,J,E,u3⟩:=d.get i g2;obtain⟨w,x,A,C,U,S,Q,P,O⟩:=ih inj u3 (((Zf.mp nd).2).sublist (cJ E)) e1;refine⟨w,x,A,C,.key N ?_ U,S,Q,P,λq o g=>?_⟩
    ·exact vn (by simpa using J5) Y h1 J
    ·obtain⟨T1,h⟩:=O q o g;obtain⟨s1,s2,s3,s4,s5⟩:=p7 N d nd J E h;refine⟨_,h.kept,s5,h.G1,?_,s3,s4⟩;rw[qf (ns.map aR) X i M z g1];exact .dct s1 Y s2
   |succ kd=>cases e
  |_=>cases e
end
section
variable{G:Gx}
def Ii.same{H d:Hp}(e:aG H d){b:List Ky}{v w:V}(p:Ii G H b v w):Ii G d b v w:=by
 induction p with
 |nil v=>exact .nil v
 |fld h l _ a=>exact .fld (e _ _ h) l a
 |ix h l m _ a=>exact .ix (e _ _ h) l m a
 |key h l _ a=>exact .key (e _ _ h) l a
 |un _ a=>exact .un a
theorem Ii.split{H:Hp}{k:Ky}{w:V}:∀{ks:List Ky}{v:V},Ii G H (ks++[k]) v w->∃u,Ii G H ks v u/\Ii G H [k] u w
 |[],v,p=>⟨v,.nil v,p⟩
 |_ :: ks,_,.fld h l p=>let ⟨u,a,b⟩:=Ii.split (ks:=ks) p;⟨u,.fld h l a,b⟩
 |_ :: ks,_,.ix h l m p=>let ⟨u,a,b⟩:=Ii.split (ks:=ks) p;⟨u,.ix h l m a,b⟩
 |_ :: ks,_,.key h l p=>let ⟨u,a,b⟩:=Ii.split (ks:=ks) p;⟨u,.key h l a,b⟩
 |_ :: ks,_,.un p=>let ⟨u,a,b⟩:=Ii.split (ks:=ks) p;⟨u,.un a,b⟩
theorem gf{U:VS.Env}{s:Jg}:∀{way:List Jg}{f:List Ky},keys (way++[s]) U=Z f->∃g k,keys way U=Z g/\keys [s] U=Z [k]/\f=g++[k]
 |[],f,e=>by
  cases s with
  |fld k=>cases e;exact⟨[],.fld k,rfl,rfl,rfl⟩
  |un=>cases e;exact⟨[],.un,rfl,rfl,rfl⟩
  |ix c =>
   obtain⟨x,j,i⟩:=Zz.mp (show (c U).bind (λx=>(keys [] U).map (Ky.at x.2 :: ·))=Z f from e);cases i;exact⟨[],.at x.2,rfl,by simp[keys,j],rfl⟩
 |.fld k :: way,f,e=>by
  obtain⟨m,j,i⟩:=Zy.mp (show (keys (way++[s]) U).map (Ky.fld k :: ·)=Z f from e);obtain⟨g,l,a,b,c⟩:=gf j;exact⟨.fld k :: g,l,by simp[keys,a],b,by rw[← i,c];rfl⟩
 |.un :: way,f,e=>by
  obtain⟨m,j,i⟩:=Zy.mp (show (keys (way++[s]) U).map (Ky.un :: ·)=Z f from e);obtain⟨g,l,a,b,c⟩:=gf j;exact⟨.un :: g,l,by simp[keys,a],b,by rw[← i,c];rfl⟩
 |.ix c :: way,f,e=>by
  obtain⟨x,n,h⟩:=Zz.mp (show (c U).bind (λx=>(keys (way++[s]) U).map (Ky.at x.2 :: ·))=Z f from e);obtain⟨m,j,i⟩:=Zy.mp h;obtain⟨g,l,a,b,d⟩:=gf j;exact⟨.at x.2 :: g,l,by simp[keys,n,a],b,by rw[← i,d];rfl⟩
def OS(G:Gx)(i:Nat)(a:List Jg):TE:=λJ H Q=>∃M U t b v w,SR G M U J H/\U[i]?=Z (Z (.ow t))/\J[i]?=Z (Z v)/\keys a U=Z b/\Ii G H b v w/\∀d,aG H d->Q w d
def Ju(G:Gx)(X:Cx)(e:Expr)(i:Nat)(a:List Jg):Prop:=PE X e (OS G i a)
def PE.JM{X:Cx}{e:Expr}{t:TE}{i:Nat}{a:List Jg}(h:PE X e t)(w:∀J H Q,OS G i a J H Q->t J H Q):Ju G X e i a:=λb s J H Q I q=>h b s J H Q I (w J H Q q)
variable{X:Cx}{e:Expr}{es:List Expr}{i:Nat}{way:List Jg}{pos pos' p1 apos oe:Pos}{c:Ex}{cs:Hf}{b:Expr}{k:Nat}
def bI(i:Nat){x:Str}(j:X.N[i]?=Z x:=by exact rfl)(f:IJ X.env.scope x:=by exact .inl Y)(h:K3 x:=by exact rfl)(a:K4 x:=by exact rfl):Ju G X (.Name x pos) i [] :=
 PE.JM (fK j f h a) λJ H Q g=>by
  obtain⟨M,U,t,d,v,w,s,p,o,n,m,l⟩:=g;cases (show Z ([]:List Ky)=Z d from n);cases m;exact⟨v,o,l H (aG.refl _)⟩
def FK(h:Ju G X e i way):Ju G X e i (way++[.un]) :=
 PE.JM h λJ H Q g=>by
  obtain⟨M,U,t,r,v,w,s,o,n,m,l,j⟩:=g;obtain⟨p,f,a,b,rfl⟩:=gf m;cases (show Z [Ky.un]=Z [f] from b);obtain⟨u,p1,d⟩:=l.split;cases d with
  |un q =>
   cases q;exact⟨M,U,t,p,v,w,s,o,n,a,p1,j⟩
structure HN(G:Gx)(K:Xd)(k:Nat)(f:Str):Prop where
 nm:∀c,(G.ct (c+1)).2 k=f
 cl:∀c,HZ K (G.ct (c+1)).1
 no:∀c,aV K (G.ct (c+1)).1 f
def fH(k:Nat){f:Str}(F:HN G X.K k f)(h:Ju G X e i way)(n:UF e f X.env (eval e X.env)=eval e X.env:=by exact rfl):Ju G X (.Attribute e f pos) i (way++[.fld k]) :=
 PE.JM (xN h n) λJ H Q m=>by
  obtain⟨M,U,t,N,v,w,s,z,y,x,r,p⟩:=m;obtain⟨C,l,a,b,rfl⟩:=gf x;cases (show Z [Ky.fld k]=Z [l] from b);obtain⟨u,p1,j⟩:=r.split;refine⟨M,U,t,C,v,u,s,z,y,a,p1,λD d=>?_⟩;cases j with
  |@fld c _ a A fs E _ _ o g q =>
   cases q;rw[F.nm c]at g;exact⟨a,_,A,fs,w,rfl,d a _ o,F.cl c,F.no c,g,p D d⟩
def Ca{F:Nat}(hr:p0 F X.A)(h:Ju G X e i way)(hb:PV G X b c)(Y:gI b)(hK:X.K=G.K):Ju G X (.Subscript e b pos) i (way++[.ix c]) :=
 PE.JM (mQ (Ip.or jS (qC (ke hr))) h hb Y) λJ H Q hq=>by
  obtain⟨M,U,t,ks,v,w,s,h1,h2,h3,h4,h5⟩:=hq;obtain⟨JS,N,a,b',rfl⟩:=gf h3;obtain⟨⟨E,x⟩,ec,e2⟩:=Zz.mp (show (c U).bind (λx=>(keys [] U).map (Ky.at x.2 :: ·))=Z [N] from b');cases e2;obtain⟨u,p1,D⟩:=h4.split;refine⟨M,U,t,JS,v,u,s,h1,h2,a,p1,λH1 d=>⟨M,U,E,x,s.same d,ec,λy H2 F2 o r2 f2=>?_⟩⟩;have C:=(D.same d).same o;have q:=h5 H2 (d.trans o);cases C with
  |@ix a p O j r _ _ l g S f =>
   cases f;refine .inl (.inl ⟨a,p,O,w,rfl,r2.int_inv,G5.of l,jO g S,q⟩)
  |@key a bt m r _ _ l g f =>
   cases f;refine .inr ⟨a,w,rfl,?_,q⟩;have P:y=kV m:=by
    cases m with
    |inl n=>exact r2.int_inv
    |inr z =>
     have:=r2.str_inv.1;rw[this];simp[kV,sx]
   rw[P,← g];exact ig.k l
@[simp] noncomputable def iM(i:Nat)(a:List Jg)(f:T->W3->Option (T×Val))(h:Hf)(U:VS.Env):Option (Val×VS.Env):=match U[i]? with
 |some (some (.ow t))=>(keys a U).bind λg=>(h U).bind λd=>(pm (λx=>f x d) g t).map λz=>(z.2,U.set i (Z (.ow z.1)))
 |_=>L
def jT(G:Gx):Prop:=∀c k a:Nat,(G.ct c).2 k=(G.ct c).2 a->k=a
def zw{p m:String}{a:Str}{o:Expr}{r:V->List V->Hp->VK->Prop}{f:T->W3->Option (T×Val)}(Jq:jT G)(pa:PlainAttrs p)(d:Slot p a m)(MD:typeOf (.builtin m)=pure (.type "method_descriptor"))(hm:OI X m r)(ok:yI G r f)(hT:∀H v t F l z,Rp G H v t F->f t l=Z z->LO G.K p v H)(ho:Ju G X o i way)(ha:HM G X (e :: es) cs)(hK:X.K=G.K)(G6:UF o a X.env (eval o X.env)=eval o X.env)(Hz:((backTo oe (Pi (e :: es) X.env)).all (λx=>!x.1)&&(backToKw oe (SB [] X.env)).all (λx=>x.1.isSome)
   && decide ((e :: es).length+([]:List Keyword).length+(if ([]:List Keyword).isEmpty then 0 else 1)<30))=R)(G4:(apos.endLine==oe.line)=R)(hs:K1 e es X)(G0:K2 oe es X)(J8:swapsWith (.Call (.Attribute o a apos) (e :: es) [] oe) L pos.line X.env=pure B) :
  PSV G X (.Expr (.Call (.Attribute o a apos) (e :: es) [] oe) pos) (sX (iM i way f cs)) :=
 PS.weak (kM (rR pa d MD hm ho ha G6 Hz G4 hs G0) J8) λD J H hq=>by
  obtain⟨M,U,out,s,e,k⟩:=hq;refine L2.kD λP_ k_=>?_;unfold sX iM at e;obtain⟨⟨x',U'⟩,e1,e2⟩:=Zy.mp e;split at e1
  ·rename_i t h;obtain⟨E,ek,e3⟩:=Zz.mp e1;obtain⟨l,el,e4⟩:=Zz.mp e3;obtain⟨⟨t',x2⟩,e5,e6⟩:=Zy.mp e4;cases e6;cases e2;obtain⟨v,N,h2⟩:=s.rp _ _ h;obtain⟨w,x,F1,S,w1,A,w3,y,Y⟩:=nJ E Jq h2 (s.nd i t h) e5;refine k_ ?_;refine⟨M,U,t,E,v,w,s,h,N,ek,w1,λH0 j=>⟨by rw[hK];exact hT H0 w x _ l _ (A.same j) y,M,U,l,s.same j,el,λvs H' Fs q1 q2 C=>?_⟩⟩;refine ok M U H H' w x S F1 l vs Fs x2 _ A w3 ⟨j.trans q1,q2,⟨λn v' q a1 a2=>(C.each n v' q a1 a2).back j,C.nd⟩⟩ y λu O q g=>?_;obtain⟨F2,g2⟩:=Y O q g;obtain⟨Q,P⟩:=s.mut h N g2;exact k _ J O Q P
  ·cases e1
end
section
variable{G:Gx}{X:Cx}{e o:Expr}{es:List Expr}{i:Nat}{way:List Jg}{pos pos' p1 apos oe:Pos}{c:Ex}{cs:Hf}{b:Expr}{k:Nat}{ce ck:Ex}
def j3(k v:Val):T->Option (T×Unit)
 |.lst l=>match k.2 with
  |.int n=>(fit v).bind λt=>(HI l.length n).map λj=>(.lst (l.set j t),())
  |_=>L
 |.dct 0 l=>if iU k.2/\GR v.2/\l.length<eY then Z (.dct 0 (dput l k.2 v.2),()) else L
 |_=>L
noncomputable def dG(i:Nat)(a:List Jg)(k e:Ex)(U:VS.Env):Option Out:=(e U).bind λv=>match U[i]? with
 |some (some (.ow t))=>(keys a U).bind λf=>(k U).bind λd=>(pm (j3 d v) f t).map λz=>.nx (U.set i (Z (.ow z.1)))
 |_=>L
theorem RpL.putAt{H:Hp}:∀{d:List V}{f:W5}{g:Xg}(j:Nat){u:V}{x:T}{F:X7},RpL G H d f g->Rp G H u x F->RpL G H (d.set j u) (f.set j x) (g.set j F)
 |_,_,_,_,_,_,_,.nil,_=>.nil
 |_,_,_,0,_,_,_,.cons r q,a=>.cons a q
 |_,_,_,j+1,_,_,_,.cons r q,a=>.cons r (RpL.putAt j q a)
theorem uM{H:Hp}{kk:Key}{l:V}{t:T}(n:Rp G H l t []):∀{a:List Key}{h:List V}{ts:W5}{Fs:Xg},a.length=h.length->RpL G H h ts Fs →
  ∃d g f,(a.zip h).map (λm=>if m.1=kk then (m.1,l) else m)=a.zip d/\a.length=d.length/\((a.map aR).zip ts).map (λp=>if eqT p.1 (aR kk) then (p.1,t) else p)=(a.map aR).zip g/\RpL G H d g f/\f.flatten.Sublist Fs.flatten
 |[],[],_,_,_,.nil=>⟨[],[],[],rfl,rfl,rfl,.nil,Xr _⟩
 |k :: a,v :: h,_,_,C,.cons (t:=A) (F:=F) (ts:=ts) (Fs:=Fs) r q=>by
  obtain⟨d,g,f,y,x,w,u,s⟩:=uM n (by simpa using C) q;by_cases j:k=kk
  ·have e:eqT (aR k) (aR kk)=R:=(kK kk k).mpr j;refine⟨l :: d,t :: g,[] :: f,?_,by simp[x],?_,.cons n u,?_⟩
   ·rw[ZX,Zo,y,ZX];simp[j]
   ·rw[Zo,ZX,Zo,w,ZX];simp[e]
   ·rw[ZV,ZV];exact s.trans (YU _ _)
  ·have e:¬eqT (aR k) (aR kk)=R:=λz=>j ((kK kk k).mp z);refine⟨v :: d,A :: g,F :: f,?_,by simp[x],?_,.cons r u,?_⟩
   ·rw[ZX,Zo,y,ZX];simp[j]
   ·rw[Zo,ZX,Zo,w,ZX];simp[e]
   ·rw[ZV,ZV];exact List.Sublist.append (Xr _) s
theorem rQ{kk:Key}:∀{a:List Key}{d:List V}{f:W5},a.length=d.length->a.length=f.length->((a.zip d).any λg=>decide (g.1=kk))=(((a.map aR).zip f).any λp=>eqT p.1 (aR kk))
 |[],_,_,_,_=>by simp
 |k :: a,v :: d,t :: f,l,j=>by
  rw[Zo,ZX,ZX,YY,YY,rQ (by simpa using l) (by simpa using j)];have:decide (k=kk)=eqT (aR k) (aR kk):=by rw[Yb,decide_eq_true_eq];exact(kK kk k).symm
  rw[this]
 |_ :: _,[],_,h,_=>by simp at h
 |_ :: _,_ :: _,[],_,h=>by simp at h
def qg{H:Hp}{kk:Key}{q:V}{t:T}(u:Rp G H q t []){a:List Key}{g:List V}{j:W5}{s:Xg}(d:a.length=g.length)(l:RpL G H g j s) :
  ∃(r:List Key)(f:List V)(n:W5)(m:Xg),putK (a.zip g) kk q=r.zip f/\r.length=f.length/\dput ((a.map aR).zip j) (aR kk) t=(r.map aR).zip n/\RpL G H f n m/\m.flatten.Sublist s.flatten:=by
 have an:=rQ (kk:=kk) d (d.trans l.len.1);unfold putK dput;rw[an];by_cases h:(((a.map aR).zip j).any λp=>eqT p.1 (aR kk))=R
 ·rw[Zq h,Zq h];obtain⟨f,n,m,z,y,x,w,v⟩:=uM (kk:=kk) u d l;exact⟨a,f,n,m,z,y,x,w,v⟩
 ·rw[Zp h,Zp h];refine⟨a++[kk],g++[q],j++[t],s++[[]],?_,by simp[d],?_,l.append (.cons u .nil),by simp⟩
  ·rw[List.zip_append d];rfl
  ·rw[ZF,List.zip_append (by rw[Zw];exact d.trans l.len.1)];rfl
def BY:AM:=λo i v H Q=>Cg o i v H Q\/∃a d,o=.ref a/\uf H a i v d/\Q d
def yh(n:X.A.units+1<cLine):CQ X BY:=by
 intro d s J H o i v m iv u Q I j l f h;rcases h with h | ⟨a,r,rfl,g,q⟩
 ·exact set_list d s J H o i v m iv u Q I j l f h
 ·cases j;exact wF n I g l f λt p=>⟨r,p,q⟩
def iZ{kr:Nat}(Jq:jT G)(hr:p0 kr X.A)(ho:Ju G X o i way)(hk:PV G X b ck)(he:PV G X e ce)(ha:∀v,assign (.Subscript o b pos') X.env v=(do
   let ov ← holding [v] (eval o X.env)
   let iv ← holding [v,ov] (eval b X.env)
   standAt pos'
   holding [v,ov,iv] (setItem ov iv v)
   release [v,ov,iv] []):=by exact λ_=>rfl)(hs:swapsWithSole [.Subscript o b pos'] e pos.line X.env=pure B:=by exact rfl)(hw:swappedStores [.Subscript o b pos'] e X.env=pure L:=by exact rfl)(P:(assignEach [.Subscript o b pos'] X.env).map (·.2)=[assign (.Subscript o b pos') X.env]:=by exact rfl):PSV G X (.Assign [.Subscript o b pos'] e pos) (dG i way ck ce) :=
 PS.weak (t9 he (uk ho hk (yh (ke hr)) ha) hs hw P) λD J H hq=>by
  obtain⟨M,U,out,s,e,k⟩:=hq;refine L2.kD λP_ k_=>?_;unfold dG at e;obtain⟨⟨mv,m⟩,ev,e⟩:=Zz.mp e;split at e
  ·rename_i t ht;obtain⟨ks,ek,e⟩:=Zz.mp e;obtain⟨⟨mk,q⟩,LG,e⟩:=Zz.mp e;obtain⟨⟨t',y'⟩,e5,e6⟩:=Zy.mp e;cases e6;obtain⟨v,g1,g2⟩:=s.rp _ _ ht;obtain⟨w,x,F1,x3,w1,w2,w3,O,w5⟩:=nJ ks Jq g2 (s.nd i t ht) e5;refine k_ ?_;refine⟨M,U,mv,m,s,ev,λxv H1 Fv Il rv fv=>?_⟩;refine⟨M,U,t,ks,v,w,s.same Il,ht,g1,ek,w1.same Il,λH2 Hu=>⟨M,U,mk,q,(s.same Il).same Hu,LG,λkv f Fk Ir rk fk=>?_⟩⟩;have y:aG H f:=(Il.trans Hu).trans Ir;have K8:Rp G f xv m Fv:=(rv.same Hu).same Ir;have fin:∀S N,Chg G H w F1 x3 S N->D.nx J S:=λS N g=>by
    obtain⟨F2,L5⟩:=w5 S N g;obtain⟨z1,z2⟩:=s.mut ht g1 L5;exact k _ J S z1 z2
   refine L2.kD λP_ k_=>?_;cases x with
   |lst l =>
    cases q with
    |int n =>
     obtain⟨tt,et,e7⟩:=Zz.mp (show ((fit (mv,m)).bind λt=>(HI l.length n).map λj=>(T.lst (l.set j t),()))=Z (x3,y') from O);obtain⟨j,ej,e8⟩:=Zy.mp e7;cases e8;have em:=mE et;cases em;obtain⟨a,p,Fs,rfl,rfl,Y,C⟩:=w2.lst_inv;have Q:f a=Z (.lst p):=y a _ Y;have nd:=Zf.mp w3;have na:a∉Fv:=λz=>by rw[fv.2 a z]at Y;cases Y
     have E:GV (f a):=by rw[Q];exact True.intro
     have off:∀d∈Fs.flatten,d∉Fv:=λd hb hv=>GV.jj (C.G1 d hb) (fv.2 d hv);refine k_ ?_;refine .inl ⟨a,p,n,j,rfl,rk.int_inv,Q,by rw[← tq,C.len.1];exact ej,fin _ (a :: (Fs.set j Fv).flatten) ?_⟩;have keep:∀{u:V}{x:T}{F:X7},Rp G f u x F->a∉F->Rp G (upd f a (.lst (p.set j xv))) u x F:=λr hn=>r.keep (Kept.upd (.inl E)) λd hb o' Kb=>by rw[aC (λz=>hn (by rw[← z];exact hb))];exact Kb
     refine Chg.upd y Zt E (.lst aw ((((C.same y).off E nd.1)).putAt j (keep K8 na))) ?_ ?_
     ·rw[Zf];refine⟨λh=>?_,eD nd.2 fv.1 λi' N _ hi d hb=>off d (dw hi hb)⟩;rcases cS h with z | ⟨i',N,_,P,h2⟩
      ·exact na z
      ·exact nd.1 (dw P h2)
     ·intro d hb;rcases Zi.mp hb with rfl | hb
      ·exact .inl Zt
      ·rcases cS hb with z | ⟨i',N,_,P,h2⟩
       ·exact .inr (fv.2 d z)
       ·exact .inl (Zu _ (dw P h2))
    |_=>cases O
   |dct kd l =>
    cases kd with
    |zero =>
     have hc:(iU q=R/\GR m=R/\l.length<eY)/\x3=.dct 0 (dput l q m):=by
      have Mj:(if iU q/\GR m/\l.length<eY then Z (T.dct 0 (dput l q m),()) else L)=Z (x3,y'):=O;split at Mj
      ·rename_i hc;cases Mj;exact⟨hc,rfl⟩
      ·cases Mj
     obtain⟨⟨c1,c2,c3⟩,rfl⟩:=hc;have eF:=K8.GR c2;subst eF;obtain⟨a,ns,p,ts,Fs,rfl,rfl,Y,hl,rfl,C⟩:=fj w2;obtain⟨kk,rfl,KY⟩:=dR rk c1;subst KY;have Q:f a=Z (.dK (ns.zip p)):=y a _ Y;have E:GV (f a):=by rw[Q];exact True.intro
     have nd:=Zf.mp w3;obtain⟨My,IG,HG,Iq,q1,q2,q3,q4,q5⟩:=qg (kk:=kk) K8 hl (C.same y);have ln:(ns.zip p).length<sizeLine:=by
      have:((ns.map aR).zip ts).length<16777216:=c3;rw[Yo,Zw]at this;rw[Yo];have:=C.len.1;have:(KB:Nat)=16777216:=rfl;lia
     refine k_ ?_;refine .inr ⟨a,_,rfl,uf.k Q ln,fin _ (a :: Iq.flatten) ?_⟩;rw[q1,q3];refine Chg.upd y Zt E (.dct aw q2 (q4.off E λz=>nd.1 (q5.subset z))) ?_ ?_
     ·exact Zf.mpr ⟨λz=>nd.1 (q5.subset z),nd.2.sublist q5⟩
     ·intro d hb;rcases Zi.mp hb with rfl | hb
      ·exact .inl Zt
      ·exact .inl (Zu _ (q5.subset hb))
    |succ n=>cases O
   |_=>cases O
  ·cases e
end
def El{K:Xd}{H:Hp}{a:KF}{b:Wb}(e:yz H)(d:G5 K H a (b.map V.int)):l7 K H a b:=by
 rcases d with h | h
 ·rcases h with h | h
  ·rcases e a with z | ⟨o,f,z⟩
   ·rw[z]at h;cases h
   ·rw[z]at h;cases h
  ·exact .inl h
 ·exact .inr h
def Ej{G:Gx}{g:Fn}{H:Hp}{a:KF}{b:Wb}{E:XK}(d:g [.scr b]=Z (.fr,.bl R))(f:yz H)(e:G5 G.K H a (b.map V.int)):I0 G g [.ref a] H (λv _=>v=.bl R) E :=
 ⟨[.scr b],[[]],.fr,.bl R,.cons (.scr (El f e)) .nil,d,λv h F _ r _=>r.Ht⟩
def Oi(K:Xd):Gx:=⟨K,λ_=>(0,λk=>⟨#[k]⟩),λ_=>L⟩
end VS
end
section
namespace L2
open PySem PySem.Spec PyProof.Rows
section
variable{X:Cx}
def uo(z:X.calm=R):dX X (.type "list") (λf H Q=>∃x:Str,f=[.str x]/\x.cps.size<=KB/\∀l,H l=L->Q (.ref l) (upd H l (.lst (x.cps.toList.map λc=>V.str ⟨#[c]⟩)))):=by
 intro j s J H f C Q I p h;obtain⟨x,rfl,m,q⟩:=h;obtain⟨u,rfl,t,rfl⟩:=vals1 p;refine call_list_str (I.ok.hd z) x t (λA D acc c kp g o=>?_) m;have y:aQ (x.cps.toList.map λc=>V.str ⟨#[c]⟩) acc.toList:=by
  have key:∀(b:Wc)(a:Wf),b.length=a.length->(∀(i:Nat)(v:KM),a[i]?=Z v->∃c u,b[i]?=Z c/\v=.str ⟨#[c]⟩ u)->aQ (b.map λc=>V.str ⟨#[c]⟩) a:=by
   intro b
   induction b with
   |nil =>
    intro a e _;cases a with
    |nil=>exact .nil
    |cons v a=>simp at e
   |cons c b r =>
    intro a e hg;cases a with
    |nil=>simp at e
    |cons v a =>
     obtain⟨d,u,e1,e2⟩:=hg 0 v Y;cases e1;exact .cons ⟨u,e2⟩ (r a (by simpa using e) λi w hw=>by simpa using hg (i+1) w (by simpa using hw))
  refine key _ _ (by rw[YM,YM,o.1]) λi v n=>?_;rw[Yg]at n;obtain⟨d,u,e1,e2⟩:=o.2 i v n;exact⟨d,u,by rw[Yg];exact e1,e2⟩
 refine⟨.ref s.heap.objs.size,_,I.laid kp (Zm _) (show cp X.prog X.w _ A _ (.lst (x.cps.toList.map λc=>V.str ⟨#[c]⟩)) from⟨by rw[Zw,YM];exact m,acc.toList,c,y,g⟩),rfl,q _ (I.GO.fresh (Zm _))⟩
end
end L2
namespace VS
open PySem PySem.Spec PyProof.Rows L2
section
variable{G:Gx}{X:Cx}{a b c e tg:Expr}{es:List Expr}{ca cb cc ce ck:Ex}{cs:Hf}{pos p p1 p2 apos oe pos':Pos}{k k' kr:Nat}
def qr:W3->W4
 |[(m,.lst l)]=>Jz m l
 |[(m,.tup l)]=>Jz m l
 |[(_,.str s)]=>Jz .fr (s.map λc=>.str [c])
 |_=>L
def yH:fP G (λg H Q=>B2 G.K g H Q\/∃x:Str,g=[.str x]/\x.cps.size<=KB/\∀l,H l=L->Q (.ref l) (upd H l (.lst (x.cps.toList.map λc=>V.str ⟨#[c]⟩)))) qr:=by
 intro M U j H l d f m t Q A e k;unfold qr at e;split at e
 ·exact .inl (vN M U j H _ d f m t Q A e k)
 ·exact .inl (vN M U j H _ d f m t Q A e k)
 ·rename_i D x;obtain⟨v,F,rfl,rfl,i⟩:=(show RpL G H d [.str x] f from A.rp).one;have h:=i.str_inv.2;refine .inr ⟨sx x,by rw[i.str_inv.1],?_,λq u=>?_⟩
  ·have:=h.1;simp only[sx,Ze];exact this
  ·have C:(sx x).cps.toList.map (λc=>V.str ⟨#[c]⟩)=(x.map λc=>[c]).map λs=>V.str (sx s):=by
    simp[sx]
   have z:(x.map λc=>T.str [c])=(x.map λc=>[c]).map T.str:=by simp
   rw[C];rw[z]at e;have n:=tV (G:=G) (H:=H) (ss:=x.map λc=>[c]) λs r=>by
    obtain⟨c,w,rfl⟩:=Yq.mp r;exact⟨by show 1<=eY;decide,λy o=>by rw[Zb.mp o];exact h.2 c w⟩
   refine jy A.same e n ?_ k q u;rw[sY];exact Fp.nil
 ·cases e
def Ba(d:X.mg "list" = L)(h:HM G X [e] cs)(f:Gl X "list" := by rfl)(i:X.K=G.K:=by rfl)(g:X.calm=R:=by rfl)(he:K1 e [] X:=by rfl):PV G X (.Call (.Name "list" p) [e] [] pos) (eN qr cs) :=
 jC (pP.or (uo g)) (i ▸ yH) f d Bt h (he:=he) (hpl:=rfl)
end
end VS
end
section
namespace ST
open PySem PySem.Spec PyProof.Rows
variable{prog:P3}{w:SZ}{A:Re}{E:Z4}{s:GM}
abbrev dO(a:Array DictEntry)(b:Nat):Obj:={ cls:=.type "dict",data:=.dict a b }
abbrev kO(d:KF)(i n a:Nat):Obj:={ cls:=.type "dict_keyiterator",data:=.fields #[.ref d,.int i 0,.int n 0,.int a 0] }
def zT{d:KF}{b:Array DictEntry}{e:Nat}{Q:Z4}(f:(d==sysModules)=B)(a:s.heap.get? d=Z (dO b e))(q:Q (.ref s.heap.objs.size) { s with heap:=s.heap.push (kO d 0 b.size e) }) :
  On (IR prog w) A (pyIter (.ref d)) Q E s:=by
 have ty:s.TypeIs (.ref d) "dict" := ⟨_,a,rfl⟩
 refine wpAny_pyIter_slot ty F.slot_dict_iter (XG F.slot_dict_iter ty F.entry_dict_iter (show On _ _ (Builtin.«dict.__iter__» _) _ _ _ from ?_) (F.args_dict_iter_1 _));unfold Builtin.«dict.__iter__» Builtin.Dict.dictSlotNone Builtin.Dict.showsAll;refine Zj (Zj (wpAny_notOrdered_dict ty (show On _ _ (pure (Value.ref d)) _ _ s from ZO (Zj (m:=Builtin.Dict.addrOf (.ref d)) (ZO ?_)))));rw[Zp (by rw[f];exact Za)];exact Zj (ZO (Zj (wpAny_dictEntries a Y (Zj (wpAny_dictEpoch a Y (Zj (XM (ZO ⟨_,rfl, "dict_keyiterator",_,⟨_,ZU _ Y,rfl⟩,Y0.lookup,q⟩))))))))
def qP{I d:KF}{i m:Nat}{h:Array DictEntry}{Q:We->GM->Prop}(u:A.handled=L)(l:s.heap.get? I=Z (kO d i h.size m))(n:s.heap.get? d=Z (dO h m))(z:∀e,h[i]?=Z e->∀a,Heap.SameBut I s.heap a->a.get? I=Z (kO d (i+1) h.size m)->Q (Z e.key) { s with heap:=a })(y:h[i]?=L->∀a,(∀b o,b≠I->s.heap.get? b=Z o->a.get? b=Z o)->Q L { s with heap:=a }):On (IR prog w) A (pyNext (.ref I)) Q E s:=by
 have ty:s.TypeIs (.ref I) "dict_keyiterator" := ⟨_,l,rfl⟩
 unfold pyNext;refine Zj (wpAny_attempt (wpAny_callSpecial?_slot (name:=Str.ofString "__next__") ty Y0 (XG Y0 ty F.entry_dict_keyiterator_next (YB
  (Q:=λf j=>∃v,f=.done (.ret v)/\Q (Z v) j) (E:=λe j=>∃x,e=.ref x/\(∃o,j.heap.get? x=Z o/\o.cls=.type "StopIteration")/\Q L j) ?_ (λf j ⟨v,e,q⟩=>⟨v,e,ZO q⟩) λe j ⟨x,e1,⟨o,g,c⟩,q⟩=>?_) (F.args_dict_keyiterator_next_1 _))))
 ·refine Zj (ZO (Zj (Zj (Zj (Xe ty (ZO (Zj (wpAny_fieldsOf l Y ?_))))))));have own:Builtin.Dict_items.ownsTuple "dict_keyiterator" = B:=rfl;simp only[own,X5,↓reduceIte];refine(show On _ _ (if (Value.ref d==Value.none)=R then _ else _) _ _ s from ?_);rw[Zp (λe:(Value.ref d==Value.none)=true=>Za e)];refine Zj (ZO (Zj (wpAny_dictEntries n Y ?_)));rw[Zp (by simp)];refine Zj (ZO (Zj (wpAny_dictEpoch n Y ?_)));rw[Zp (by simp)];refine ZO ?_;simp only[show ¬((i:Int)<0) from by lia,↓reduceIte,XZ];cases p:h[i]? with
  |some e =>
   dsimp only;have r:(s.heap.update I (Obj.mapFields (·.setIfInBounds 1 (rawInt ((i:Int)+1))))).get? I=Z (kO d (i+1) h.size m):=Heap.get?_update_self _ l Y;refine Zj (Zj (Xe ty (ZO (Zj (wpAny_isOneOf_keyiter ty ?_)))));refine(show On _ _ (setField (.ref I) 1 (rawInt ((i:Int)+1))>>=_) _ _ s from Zj (wpAny_setField l Y (by show 1<4;decide) (Zj (Xw ?_))));refine Zj (wpAny_isOneOf_keyiter (s:={ s with heap:=s.heap.update I (Obj.mapFields (·.setIfInBounds 1 (rawInt ((i:Int)+1)))) }) ⟨_,r,rfl⟩ ?_);refine(show On _ _ (pure e.key) _ _ _ from ZO (ZO ⟨_,rfl,z e p _ (Heap.SameBut.update ..) r⟩))
  |none =>
   dsimp only;refine Zj (Zj (Xe ty (ZO ?_)));refine(show On _ _ (setField (.ref I) 0 .none>>=_) _ _ s from Zj (wpAny_setField l Y (by show 0<4;decide) (Ga u λa x kp t=>⟨x,rfl,t,y p a λb o hb e=>kp b o ?_⟩)));rw[XD _ _ (Ya hb)];exact e
 ·subst e1;exact Zj (wpAny_isInstance (T := "StopIteration") (b:=R) ⟨o,g,c⟩ isSubtype_stop (ZO q))
end ST
end
section
namespace VS
open PySem PySem.Spec PyProof.Rows L2 TS
section
variable{G:Gx}{X:Cx}{a b c e o tg:Expr}{es:List Expr}{ca cb cc ce ck:Ex}{cs:Hf}{pos p p1 p2 apos oe pos':Pos}{k k' kr i:Nat}
abbrev Pr:=Int×Int
def kP(p:Pr):List Key:=[.inl p.1,.inl p.2]
end
end VS
namespace VS
open PySem PySem.Spec PyProof.Rows L2
def mO{G:Gx}{X:Cx}{i:Int}{j:Nat}{a p:Pos}:PV G X (.UnaryOp .USub (.Constant (.int i) j p) a) (Q2 (-i)) :=
 PE.weak (EG Ef pC) λJ H Q b=>by
  obtain⟨M,U,m,t,s,e,k⟩:=b;cases (show Z (Md.fr,T.int (-i))=Z (m,t) from e);exact⟨i,rfl,k _ H [] (aG.refl _) (.int _) Fp.nil⟩
end VS
end
section
namespace VS
open PySem PySem.Spec PyProof.Rows L2
section
variable{G:Gx}{X:Cx}{a b c e o tg:Expr}{es:List Expr}{ca cb cc ce ck cv:Ex}{cs:Hf}{pos p p1 p2 apos oe pos' ap1 cp1 lp:Pos}{k k' kr i:Nat}
def Rp.Jj{H:Hp}{v:V}{ts:W5}{F:X7}(r:Rp G H v (.tup ts) F):∃b vs Fs,v=.ref b/\H b=Z (.tup vs)/\RpL G H vs ts Fs:=by
 cases r with
 |tup h q=>exact⟨_,_,_,rfl,h,q⟩
end
end VS
end
section
namespace L2
open PySem PySem.Spec PyProof.Rows
section
variable{X:Cx}{tg:Expr}{pos:Pos}
def xw{o:Obj}{g:Array DictEntry}{i:Nat}(h:o.ExactDict)(e:o.data=.dict g i):o=ST.dO g i:=by
 obtain⟨c,d,l,j⟩:=o;obtain⟨f,b,a⟩:=h;simp only at f b a e;subst f b a e;rfl
end
end L2
end
section
namespace VS
open PySem PySem.Spec PyProof.Rows L2
section
variable{G:Gx}{X:Cx}{e b:Expr}{cs:Hf}{cb:Ex}{pos p p1 p2 kp apos oe:Pos}{k k' kr:Nat}{x:Str}{ps:List Str}{g:Fn}
def ju{a b c:Expr}{i f d:Ex}(s:PV G X a i)(o:PV G X b f)(n:PV G X c d)(l:lastMarks [.LtE,.Lt] [b,c]=B):ID G X (.Compare a [.LtE,.Lt] [b,c] pos) (fh oLe oLt i f d) :=
 PT.weak (sD wY nW s o n l) λJ H Q h=>nH h (λU m r e=>by
  unfold fh at e;obtain⟨x,A,e⟩:=Zz.mp e;obtain⟨y,w,e⟩:=Zz.mp e;obtain⟨⟨t,z⟩,u,e⟩:=Zz.mp e;cases z with
  |bl q =>
   cases q with
   |false=>cases e;exact⟨_,rfl⟩
   |true =>
    obtain⟨j,v,e⟩:=Zz.mp (show (d U).bind (λz=>oLt y z)=Z (m,r) from e);exact kG y j m r e
  |_=>cases e) λQ h=>qN B3 sG h
def yj{a:Ex}(h:PV G X e a)(j:swapsWith e L pos.line X.env=pure B):PSV G X (.Expr e pos) (sX (xP a)) :=
 PS.weak (kM h j) λD J H d=>by
  obtain⟨M,U,out,s,e,k⟩:=d;unfold sX xP at e;obtain⟨⟨v,n⟩,e1,e2⟩:=Zy.mp e;obtain⟨⟨m,t⟩,i,f⟩:=Zy.mp e1;cases f;cases e2;exact⟨M,U,m,t,s,i,λv l F e1 r1 f1=>k M J l (s.same e1) (GX.same e1)⟩
end
section
variable{G:Gx}{X:Cx}{a b e:Expr}{ca ck ce:Ex}{pos pos' p1:Pos}{kr:Nat}
def yk{j pos'}(g:PV G X a ca):ID G X (.Compare a [.Is] [.Constant .none j pos'] pos) (sA ca) :=
 PT.weak (yJ (zE g)) λJ H Q h=>Cj h (λU m r e=>by
  unfold sA at e;obtain⟨x,_,e⟩:=Zz.mp e;cases e;exact⟨_,rfl⟩) λQ f=>by
   obtain⟨M,U,m,r,s,e,q⟩:=f;unfold sA at e;obtain⟨⟨n,x⟩,i,e⟩:=Zz.mp e;cases e;refine⟨M,U,n,x,s,i,λv d F e1 r1 f1=>?_⟩;show Q (.bl (decide (v=.non))) d;rw[mG r1];exact q _ d _ e1 (.bl _) Fp.nil
def jE{j pos'}(g:PV G X a ca):ID G X (.Compare a [.IsNot] [.Constant .none j pos'] pos) (cY ca) :=
 PT.weak (yJ (vm g)) λJ H Q h=>Cj h (λU m r e=>by
  unfold cY at e;obtain⟨x,_,e⟩:=Zz.mp e;cases e;exact⟨_,rfl⟩) λQ f=>by
   obtain⟨M,U,m,r,s,e,q⟩:=f;unfold cY at e;obtain⟨⟨n,x⟩,i,e⟩:=Zz.mp e;cases e;refine⟨M,U,n,x,s,i,λv d F e1 r1 f1=>?_⟩;show Q (.bl (!decide (v=.non))) d;rw[mG r1];exact q _ d _ e1 (.bl _) Fp.nil
def su(i:Nat)(k e:Ex)(U:VS.Env):Option Out:=(e U).bind λv=>match U[i]? with
 |some (some (.ow (.dct 0 l)))=>(k U).bind λd=>if iU d.2/\GR v.2/\l.length<eY then Z (.nx (U.set i (Z (.ow (.dct 0 (dput l d.2 v.2)))))) else L
 |_=>L
def CV(i:Nat){x:Str}(hr:p0 kr X.A)(hk:PV G X b ck)(he:PV G X e ce)(hN:X.N[i]?=Z x)(hv:IJ X.env.scope x)(hd:K3 x)(p:K4 x)(ha:∀v,assign (.Subscript (.Name x p1) b pos') X.env v=(do
   let h ← holding [v] (eval (.Name x p1) X.env)
   let iv ← holding [v,h] (eval b X.env)
   standAt pos'
   holding [v,h,iv] (setItem h iv v)
   release [v,h,iv] []))(hs:swapsWithSole [.Subscript (.Name x p1) b pos'] e pos.line X.env=pure B)(hw:swappedStores [.Subscript (.Name x p1) b pos'] e X.env=pure L)(h1:(assignEach [.Subscript (.Name x p1) b pos'] X.env).map (·.2)=[assign (.Subscript (.Name x p1) b pos') X.env]):PSV G X (.Assign [.Subscript (.Name x p1) b pos'] e pos) (su i ck ce) :=
 PS.weak (t9 he (uk (fK hN hv hd p) hk (yh (ke hr)) ha) hs hw h1) λD J H hq=>by
  obtain⟨M,U,out,s,e,k⟩:=hq;unfold su at e;obtain⟨⟨mv,m⟩,ev,e⟩:=Zz.mp e;split at e
  ·rename_i l o;obtain⟨⟨mk,tk⟩,LG,e⟩:=Zz.mp e;split at e
   ·rename_i hc;obtain⟨c1,c2,c3⟩:=hc;cases e;obtain⟨w,y,Y⟩:=s.rp _ _ o;have q:=s.nd i _ o;refine⟨M,U,mv,m,s,ev,λxv H1 Fv P rv fv=>⟨w,y,M,U,mk,tk,s.same P,LG,λkv d Fk O rk fk=>?_⟩⟩;have n:aG H d:=P.trans O;have E:Rp G d xv m Fv:=rv.same O;have eF:=E.GR c2;subst eF;obtain⟨a,ns,j,r,Fs,rfl,C,GZ,hl,rfl,t⟩:=fj Y;rw[C]at q;obtain⟨kk,rfl,KY⟩:=dR rk c1;subst KY;have F:d a=Z (.dK (ns.zip j)):=n a _ GZ;have u:GV (d a):=by rw[F];exact True.intro
    have nd:=Zf.mp q;obtain⟨My,IG,HG,Iq,q1,q2,q3,q4,f⟩:=qg (kk:=kk) E hl (t.same n);have ln:(ns.zip j).length<sizeLine:=by
     have:((ns.map aR).zip r).length<16777216:=c3;rw[Yo,Zw]at this;rw[Yo];have:=t.len.1;have:(KB:Nat)=16777216:=rfl;lia
    refine .inr ⟨a,_,rfl,uf.k F ln,?_⟩;have g:Chg G H (.ref a) (M i) (.dct 0 (dput ((ns.map aR).zip r) (aR kk) m)) (upd d a (.dK (putK (ns.zip j) kk xv))) (a :: Iq.flatten):=by
     rw[C,q1,q3];refine Chg.upd n Zt u (.dct aw q2 (q4.off u λz=>nd.1 (f.subset z))) ?_ ?_
     ·exact Zf.mpr ⟨λz=>nd.1 (f.subset z),nd.2.sublist f⟩
     ·intro bb hb;rcases Zi.mp hb with rfl | hb
      ·exact .inl Zt
      ·exact .inl (Zu _ (f.subset hb))
    obtain⟨S,Q⟩:=s.mut o y g;exact k _ J _ S Q
   ·cases e
  ·cases e
end
end VS
end
section
namespace DP
open PySem PySem.Spec PyProof.Rows
variable{prog:P3}{w:SZ}{A:Re}{E:Z4}
def Bg:typeLookup (.type "tuple") "keys" = pure L:=by rw[typeLookup_type,builtinLookup_eq_fast];kernel_rfl
def AC{h:SL}{g:Array GenState}{d:Drawn}{o:Nat}{os}{a:KF}{i:Array KM}{k:Nat}{j:Array (We)}{u:Tok}{Q:Z4}(l:h.get? a=Z { cls:=.type "tuple",dict:=L,data:=.seq i k,slots:=j })(q:A.handled=L)(p:∀f b e,Heap.NewExcOf h f e "AttributeError" → E (.ref e) ⟨f,g,d,b,os⟩):On (IR prog w) A (getAttrBy (.ref a) (.str "keys" u) B) Q E ⟨h,g,d,o,os⟩:=by
 have m:∀b,(⟨h,g,d,b,os⟩:GM).TypeIs (.ref a) "tuple" := λ_=>⟨_,l,rfl⟩
 have f1:=sub_AttributeError;have y:=XO.lookup;have x:=XO.bind (.ref a);have v:=am_tuple_getattr_none;unfold getAttrBy
 repeat (any_goals (first | assumption | exact m _ | ((with_reducible show On _ _ (call (Value.builtin "tuple.__getattribute__") _ _) _ _ _);refine call_meets XO (m _) am_entry_tuple_getattribute (F.args_tuple_getattribute_2 _ _) (meets_getattribute_miss_tuple a i k j "keys" _ Bg (by decide +kernel)) ⟨l,q,λf b e n=>?_⟩) | wp_step))
 obtain⟨s,r,t⟩:=n.there;show On _ _ (getattributeRaised _ _ _ _ _ _ _) _ _ _;unfold getattributeRaised
 repeat (any_goals (first | assumption | wp_step))
 exact p _ _ _ n.of
end DP
end
section
namespace DP
open PySem PySem.Spec PyProof.Rows L2
variable{prog:P3}{w:SZ}{A:Re}{E:Z4}
def wI{h:SL}{g:Array GenState}{d:Drawn}{l:Nat}{os}{a:KF}{j:Array KM}{k:Nat}{m:Array (We)}{Q:We->GM->Prop}(n:h.get? a=Z { cls:=.type "tuple",dict:=L,data:=.seq j k,slots:=m })(r:A.handled=L)(o:∀b i e,Heap.NewExcOf h b e "AttributeError" → Q L ⟨b,g,d,i,os⟩):On (IR prog w) A (getAttr? (.ref a) "keys") Q E ⟨h,g,d,l,os⟩:=by
 have f1:=sub_AttributeError;unfold getAttr? getAttrBy?
 repeat (any_goals (first | assumption | (with_reducible refine AC n (by assumption) λb i e f=>?_) | wp_step))
 obtain⟨⟨oc,q,s,t⟩,p,ge,ce,_,_⟩:=f.there;dsimp only at ce;subst ce
 repeat (any_goals (first | assumption | wp_step))
 exact o _ _ _ f
def ot:entryFor table "dict.update.loop" = Z Builtin.«dict.update.loop» := entryFor_of_tree (by kernel_rfl)
def iH:plainId "dict.update.loop" = R:=by decide +kernel
section
variable{R:Result->GM->Prop}{I:KF}{fp wr:X7}{G:Array GenState->Array GenState->Prop}{n:Nat}{P:Nat->KM->Prop}{St:Nat->GM->Prop}
theorem loop(W:WalksS prog w A.in1 I fp wr G n P St)(d:KF)(U:d∉fp)(N:SL)(a:Nat->Key×KM)(hP:∀i v,P i v->∃p m t l,v=.ref p/\N.get? p=Z { cls:=.type "tuple",dict:=L,data:=.seq #[l,(a i).2] m,slots:=t }/\(aP prog w).is (a i).1 l=true/\p∉d :: wr)(g:n<=KB) :
  ∀(k i:Nat)(s:GM),n-i=k->i<=n->St i s->(∀b o,b∉d :: wr->N.get? b=Z o->s.heap.get? b=Z o)->s.heap.DictOf (aP prog w) d (merged [] ((List.range i).map a)) →
   (∀f,Moved (d :: wr) G s f->f.heap.DictOf (aP prog w) d (merged [] ((List.range n).map a))->R (.ok (.ret .none)) f) →
   codeAny (IR prog w) A (.builtin "dict.update.loop" ⟨[.ref d,.ref I,rawInt i,.none],[]⟩) R s:=by
 have S:d∉wr:=λh=>U (W.sub _ h);have q:∀b∈wr,b∈d :: wr:=λb g=>Zu _ g;intro k
 induction k with
 |zero =>
  intro i s hk hi M C D F;have JI:i=n:=by lia
  subst JI;refine codeAny_builtin ot ?_;rw[Wq iH _];show On _ A.in1 (pyNext (.ref I)>>=_) _ _ s;refine Zj (W.done s _ _ M λf j=>?_);show On _ A.in1 (Builtin.Dict.addKeywords d [] >>= λ_=>ret Value.none) _ _ f;refine Zj (ZO ?_);exact ZO (F f (j.mono q) (by
   obtain⟨o,H,J,y,rest⟩:=D;exact⟨o,H,J,j.heap d _ S y,rest⟩))
 |succ k Y =>
  intro i s hk hi M C D F;have X:i<n:=by omega
  refine codeAny_builtin ot ?_;rw[Wq iH _];show On _ A.in1 (pyNext (.ref I)>>=_) _ _ s;refine Zj (W.item i s _ _ X M λv f VD QJ j=>?_);obtain⟨p,m,t,l,rfl,hp,Vk,O⟩:=hP i v VD;have MG:f.heap.get? p=Z { cls:=.type "tuple",dict:=L,data:=.seq #[l,(a i).2] m,slots:=t }:=j.heap p _ (λz=>O (q p z)) (C p _ O hp);have VC:f.heap.DictOf (aP prog w) d (merged [] ((List.range i).map a)):=by
   obtain⟨o,H,J,y,rest⟩:=D;exact⟨o,H,J,j.heap d _ S y,rest⟩
  show On _ A.in1 (holding [Value.ref p] _>>=_) _ _ f;refine Zj (Xw ?_);have ty:f.TypeIs (.ref p) "tuple" := ⟨_,MG,rfl⟩
  refine Zj (thn (Q:=λr x=>r=[l,(a i).2]/\x=f) ?pair λr x hr=>?rest)
  case pair =>
   refine wpAny_tryCatch ?_;unfold Builtin.Dict.pairItems
   repeat (any_goals (first | assumption | wp_step))
   exact⟨rfl,rfl⟩
  case rest =>
   obtain⟨rfl,rfl⟩:=hr;dsimp only;refine Xw ?_;refine wpAny_dictSet_pairs Vk VC (λh' dd u=>?_) (by have:=merged_length_le (K:=Key) [] ((List.range i).map a);simp at this;lia);have e1:((i:Int)+1)=((i+1:Nat):Int):=by lia
   rw[e1];have K5:h'.DictOf (aP prog w) d (merged [] ((List.range (i+1)).map a)):=by
    rw[List.range_succ,ZF,show merged ([]:List (Key×KM)) ((List.range i).map a++[i].map a)=stored (merged [] ((List.range i).map a)) (a i).1 (a i).2 by unfold merged;rw[List.foldl_append];rfl];exact dd
   refine ZO ⟨plainId_quiet iH _,Y (i+1) _ (by omega) X (W.frame _ x _ _ QJ (Xj _) λb g o e=>?_) (λb o g e=>?_) K5 λNI QR Rm=>?_⟩
   ·rw[u.2 b (λh:b=d=>U (by rw[← h];exact g))];exact e
   ·rw[u.2 b (λh:b=d=>g (by rw[h];exact Zt))];exact j.heap b _ (λz=>g (q b z)) (C b o g e)
   ·refine F NI (Moved.trans W.gtrans ((j.mono q).then_heap (Xj _) λb o g e=>?_) QR) Rm;rw[u.2 b (λh:b=d=>g (by rw[h];exact Zt))];exact e
end
end DP
end
section
namespace DP
open PySem PySem.Spec PyProof.Rows L2
variable{prog:P3}{w:SZ}{A:Re}{E:Z4}{s:GM}
def mY:mroOf (.type "dict")=pure [.type "dict",.type "object"]:=by rw[mroOf_type];kernel_rfl
def mw:typeLookup (.type "dict") "__new__" = pure (Z (.builtin "dict.__new__")):=by rw[typeLookup_type,builtinLookup_eq_fast];kernel_rfl
def rg:TypeCalled "dict" "dict.__new__" "dict.__init__" :=
 ⟨by decide +kernel,by decide +kernel,⟨_,_,mY⟩,madeBy_type mY mw (by decide +kernel),by decide +kernel,by rw[isSubtype_type];kernel_rfl,F.slot_dict_init⟩
def mf(a:KM):checkTypeCall "dict" ⟨[a],[]⟩=pure ():=by kernel_rfl
def n9(a:KM):checkBuiltinCall "dict.__new__" ⟨[.type "dict",a],[]⟩=pure ():=by kernel_rfl
def nM:entryFor table "dict.__new__" = Z Builtin.«dict.__new__» := entryFor_of_tree (by kernel_rfl)
def ja:plainId "dict.__new__" = R:=by decide +kernel
def oB:isSubtype (.type "dict") (.type "dict")=pure R:=by rw[isSubtype_type];kernel_rfl
def oz(a:KM){b:Z4}(h:b (.ref s.heap.objs.size) { s with heap:=s.heap.push { cls:=.type "dict",data:=.dict #[] } }) :
  codeAny (IR prog w) A (.call (.builtin "dict.__new__") ⟨[.type "dict",a],[]⟩) (wants b E) s:=by
 refine codeAny_of_tree (Zj (m:=checkBuiltinCall "dict.__new__" ⟨[.type "dict",a],[]⟩) (wpAny_of_eq (n9 a) (ZO ⟨plainId_quiet ja _,codeAny_builtin nM ?_⟩)));rw[Wq ja];have own:=oB;have mro:=mY;cases s;unfold Builtin.«dict.__new__»
 wp_walk
 exact h
def vZ{a:KF}{j:Array KM}{C:Nat}{Um:Array (We)}{kv:Nat->Key×KM}{Q:Z4}(G:A.handled=L)(D:s.heap.get? a=Z { cls:=.type "tuple",dict:=L,data:=.seq j C,slots:=Um })(S:j.size<=KB)(hp:∀(i:Nat)(v:KM),j[i]?=Z v->∃p m u n,v=.ref p/\s.heap.get? p=Z { cls:=.type "tuple",dict:=L,data:=.seq #[n,(kv i).2] m,slots:=u }/\(aP prog w).is (kv i).1 n=R)(h:∀(l:SL)(y:Nat),l.DictOf (aP prog w) s.heap.objs.size (merged [] ((List.range j.size).map kv))->(∀b o,s.heap.get? b=Z o->l.get? b=Z o)->Q (.ref s.heap.objs.size) { s with heap:=l,toks:=y }) :
  On (IR prog w) A (call (.type "dict") [.ref a]) Q E s:=by
 refine callType_codes (Q₁:=λobj z=>obj=.ref s.heap.objs.size/\z={ s with heap:=s.heap.push { cls:=.type "dict",data:=.dict #[] } }) rg (mf _) F.entry_dict_init (oz _ ⟨rfl,rfl⟩) λobj z X=>?_;obtain⟨rfl,rfl⟩:=X;have ty:Shared.TypeIs { s with heap:=s.heap.push { cls:=.type "dict",data:=.dict #[] } } (.ref s.heap.objs.size) "dict" := ⟨_,ZU _ Y,rfl⟩
 refine⟨ty,F.args_dict_init_2 _ _,?_⟩;obtain⟨f,g,d,y,os⟩:=s;have J:=Zk { cls:=.type "dict",data:=.dict #[] } D;unfold Builtin.«dict.__init__» Builtin.Dict.updateCommon Builtin.Dict.updateFrom;generalize eP:pyIter=itr;generalize eG:getAttr?=ga
 repeat (any_goals (first | assumption | wp_step))
 subst eG;dsimp only at *;refine wI J (by simp[G]) λr O e ne=>?_;simp only[Option.isNone_none,if_true];refine Zj (wpAny_rule ?_);subst eP;have at2:=ne.keeps _ _ J;have dat:=ne.keeps f.objs.size { cls:=.type "dict",data:=.dict #[] } (ZU _ Y);have t:=ZM dat;have x:∀{b:KF}{o:Obj},f.get? b=Z o->b<f.objs.size:=λe=>ZM e;have M:∀b o,f.get? b=Z o->r.get? b=Z o:=λb o e=>ne.keeps _ _ (Zk _ e);have tup:r.IsTuple a j:=⟨_,at2,rfl,C,rfl⟩
 refine Zj (wpAny_pyIter_tuple tup (ZO ⟨plainId_quiet iH _,?_⟩));have alt:=x D;have D0:(r.push { cls:=.type "tuple_iterator",data:=.fields #[.ref a,.int 0 0] }).DictOf (aP prog w) f.objs.size (merged [] ((List.range 0).map kv)):=by
  obtain⟨o,es,ep,ho,rest⟩:=(Heap.DictOf.new (knd:=aP prog w) f)
  exact⟨o,es,ep,Zk _ (ne.keeps _ _ ho),rest⟩
 refine loop (A:=A.in1) ((Walks.tuple (by simp[G]) r.objs.size a (ZW (Wz alt t)) j).toS) f.objs.size (by simp only[Zi,Wk,or_false,not_or];exact⟨ZW t,X9 alt⟩) f kv (λi v U=>?_) S j.size 0 _ (by lia) (Ym _) ?_ (λb o hb e=>Zk _ (M b o e)) D0 λP mv dd=>?_
 ·obtain⟨p,m,u,n,rfl,H,g2⟩:=hp i v U;have:=x H;exact⟨p,m,u,n,rfl,H,g2,by simp only[Zi,Wk,or_false,not_or];exact⟨ZW this,ZW (Wz this t)⟩⟩
 ·exact⟨⟨_,ZU _ Y,rfl,rfl⟩,tup.push _⟩
 ·obtain⟨l,g',d',Lj,NP⟩:=P;have e1:g'=g:=mv.gens;have e2:d'=d:=mv.drawn;have e3:NP=os:=mv.os;subst e1 e2 e3;refine⟨rfl,h l Lj dd λb o e=>mv.heap b o (λN=>?_) (Zk _ (M b o e))⟩;have:=x e;simp only[Zi,Wk,or_false]at N;rcases N with q | q
  ·exact ZW this q
  ·exact ZW (Wz this t) q
end DP
end
section
namespace L2
open PySem PySem.Spec PyProof.Rows
section
variable{X:Cx}
abbrev Kr:=KF×Key×V
def A9{a:Xy}{J:St}{H:Hp}{s:GM}(I:Inv X a J H s){q:Kr}(h:H q.1=Z (.tup [kV q.2.1,q.2.2])):∃b m i d,RelV q.2.2 b/\s.heap.get? q.1=Z { cls:=.type "tuple",dict:=L,data:=.seq #[d,b] m,slots:=i }/\(aP X.prog X.w).is q.2.1 d=R:=by
 obtain⟨_,o,j,nd,⟨oc,p,r,l⟩,g,f,n,e⟩:=(show cp X.prog X.w H s.heap q.1 (.tup [kV q.2.1,q.2.2]) from I.GO _ _ h)
 have hd:=nd _ g;dsimp only at f e hd;subst f e hd;obtain⟨d,b,rfl,r1,r2⟩:=vals2 j;exact⟨b,n,l,d,r2,g,lP r1⟩
theorem tf{a:Xy}{J:St}{H:Hp}{s:GM}(I:Inv X a J H s):∀(ps:List Kr),(∀q∈ps,H q.1=Z (.tup [kV q.2.1,q.2.2])) →
  ∃f:List (Key×KM),Paired (λ(q:Kr) (d:Key×KM)=>q.2.1=d.1/\RelV q.2.2 d.2/\∃m e b,s.heap.get? q.1=Z { cls:=.type "tuple",dict:=L,data:=.seq #[b,d.2] m,slots:=e }/\(aP X.prog X.w).is d.1 b=R) ps f
 |[],_=>⟨[],.nil⟩
 |q :: ps,h=>by
  obtain⟨i,m,e,b,r,g,k⟩:=A9 I (h q Zt);obtain⟨f,p⟩:=tf I ps λx j=>h x (Zu _ j);exact⟨(q.2.1,i) :: f,.cons ⟨rfl,r,m,e,b,g,k⟩ p⟩
theorem oO{R:Kr->Key×KM->Prop}(e:∀q d,R q d->q.2.1=d.1/\RelV q.2.2 d.2):∀{ps:List Kr}{f:List (Key×KM)},Paired R ps f->∀{a:List (Key×V)}{b:List (Key×KM)},KV a b->KV (ps.foldl (λacc q=>putK acc q.2.1 q.2.2) a) (merged b f)
 |_,_,.nil,_,_,r=>r
 |_,_,.cons (a:=q) (b:=d) h t,a,b,r=>by
  obtain⟨e1,e2⟩:=e _ _ h;have:=oO e t (r.put d.1 e2);simp only[YR,merged];rw[e1];exact this
theorem qS:∀(ps:List Kr)(a:List (Key×V)),(ps.foldl (λacc q=>putK acc q.2.1 q.2.2) a).length<=a.length+ps.length
 |[],a=>Zm _
 |q :: ps,a=>by
  have d:=qS ps (putK a q.2.1 q.2.2);have b:=gO a q.2.1 q.2.2;simp only[YR,Zl];lia
theorem Paired.at_{α β:Type}{R:α->β->Prop}:∀{l:List α}{m:List β},Paired R l m->∀(i:Nat){a:α},l[i]?=Z a->∃b,m[i]?=Z b/\R a b
 |_,_,.nil,i,a,h=>by simp at h
 |_,_,.cons r t,0,a,h=>by simp at h;subst h;exact⟨_,rfl,r⟩
 |_,_,.cons r t,i+1,a,h=>by simpa using Paired.at_ t i (by simpa using h)
def t6(N:X.calm=R):dX X (.type "dict") (λf H Q=>∃(p:KF)(ps:List Kr),f=[.ref p]/\H p=Z (.tup (ps.map λq=>V.ref q.1))/\(∀q∈ps,H q.1=Z (.tup [kV q.2.1,q.2.2])) ∧
  ∀l,H l=L->Q (.ref l) (upd H l (.dK (ps.foldl (λacc q=>putK acc q.2.1 q.2.2) [])))):=by
 intro o s J H f Y Q I D h;obtain⟨p,ps,rfl,M,G,q⟩:=h;obtain⟨u,rfl,E⟩:=D.one;cases E;obtain⟨t,r,j,nd,⟨oc,od,So,Jx⟩,g,y,n,x⟩:=(show cp X.prog X.w H s.heap p (.tup (ps.map λq=>V.ref q.1)) from I.GO _ _ M)
 have hd:=nd _ g;dsimp only at y x hd;subst y x hd;obtain⟨d,pr⟩:=tf I ps G;have l1:r.length=ps.length:=by have:=j.length;simpa using this.symm
 have l2:d.length=ps.length:=pr.length.symm;rw[Zw]at t;have U:(List.range r.toArray.size).map (λi=>(d[i]?).getD (.inl 0,.none))=d:=by
  apply List.ext_getElem?;intro i;rw[ZS];by_cases b:i<d.length
  ·rw[List.getElem?_range (by simp;lia),Zr b];simp[b]
  ·rw[Z2 (by simp;lia),Z2 (by exact ZQ b)];rfl
 refine DP.vZ (kv:=λi=>(d[i]?).getD (.inl 0,.none)) (I.ok.hd N) g (by simp;lia) (λi v e=>?_) λh' A z kp=>?_
 ·rw[Xn]at e;have b:i<ps.length:=by have:=(Zh.mp e).1;lia
  obtain⟨w,e1,e2⟩:=Paired.at_ j i (a:=V.ref ps[i].1) (by rw[ZS,Zr b];rfl);rw[e]at e1;cases e1;obtain⟨kv,S,e4,_,m,C,F,P,O⟩:=Paired.at_ pr i (Zr b);rw[S];exact⟨ps[i].1,m,C,F,e2,P,O⟩
 ·rw[U]at z;have rel:=oO (λ_ _ h=>⟨h.1,h.2.1⟩) pr (.nil:KV [] []);have ln:=qS ps [];exact⟨.ref s.heap.objs.size,_,I.laid (t':=A) kp (Zm _) (qk (by simp at ln;exact ZJ ln t) (ZL.mpr (Ya (ZW I.big))) rel z),rfl,q _ (I.GO.fresh (Zm _))⟩
end
end L2
end
section
namespace VS
open PySem PySem.Spec PyProof.Rows L2
def ql:W5->Option (List (T×T))
 |[]=>Z []
 |.tup [k,v] :: r=>if iU k/\GR v then (ql r).map ((k,v) :: ·) else L
 |_=>L
def jv:W3->W4
 |[(_,.tup l)]=>(ql l).map λps=>(.fr,.dct 0 (ps.foldl (λd q=>dput d q.1 q.2) []))
 |_=>L
section
variable{G:Gx}{X:Cx}{e:Expr}{cs:Hf}{p pos:Pos}
def A4{t:T}{l:W5}{d:List (T×T)}(h:ql (t :: l)=Z d):∃k v a,t=.tup [k,v]/\iU k=R/\GR v=R/\ql l=Z a/\d=(k,v) :: a:=by
 unfold ql at h;split at h
 ·rename_i b;cases b
 ·rename_i k v r b;cases b;split at h
  ·rename_i c;obtain⟨a,e1,e2⟩:=Zy.mp h;exact⟨k,v,a,rfl,c.1,c.2,e1,e2.symm⟩
  ·cases h
 ·cases h
theorem se{H:Hp}:∀{ts:W5}{f:List V}{z:Xg}{a:List (T×T)},RpL G H f ts z->ql ts=Z a →
  ∃ps:List Kr,f=ps.map (λq=>V.ref q.1)/\(∀q∈ps,H q.1=Z (.tup [kV q.2.1,q.2.2]))/\Paired (λ(q:Kr) (x:T×T)=>x.1=aR q.2.1/\Rp G H q.2.2 x.2 []) ps a
 |[],_,_,a,r,h=>by
  cases r;cases (show Z ([]:List (T×T))=Z a from h);exact⟨[],rfl,λq n=>by simp at n,.nil⟩
 |t :: ts,_,_,a,r,h=>by
  obtain⟨k,v,j,rfl,o,m,s,rfl⟩:=A4 h;cases r with
  |cons r1 r2 =>
   obtain⟨ps,e1,e2,y⟩:=se r2 s;obtain⟨b,vs,Fs,rfl,hb,q⟩:=Rp.Jj r1;cases q with
   |cons i q =>
    cases q with
    |cons g q =>
     cases q;obtain⟨l,rfl,u⟩:=dR i o;have w:=g.GR m;subst w;refine⟨(b,l,_) :: ps,by rw[e1];rfl,λx d=>?_,.cons ⟨u,g⟩ y⟩;rcases Zi.mp d with rfl | d
     ·exact hb
     ·exact e2 x d
theorem rT{H:Hp}:∀{ps:List Kr}{n:List (T×T)},Paired (λ(q:Kr) (x:T×T)=>x.1=aR q.2.1/\Rp G H q.2.2 x.2 []) ps n->∀{ns:List Key}{vs:List V}{ts:W5}{Fs:Xg},ns.length=vs.length->RpL G H vs ts Fs->Fs.flatten=[] →
  ∃(l:List Key)(g:List V)(m:W5)(f:Xg),ps.foldl (λacc q=>putK acc q.2.1 q.2.2) (ns.zip vs)=l.zip g/\n.foldl (λd q=>dput d q.1 q.2) ((ns.map aR).zip ts)=(l.map aR).zip m/\l.length=g.length/\RpL G H g m f/\f.flatten=[]
 |_,_,.nil,ns,vs,ts,Fs,i,r,j=>⟨ns,vs,ts,Fs,rfl,rfl,i,r,j⟩
 |_,_,.cons (a:=q) (b:=x) h t,ns,vs,ts,Fs,i,r,j=>by
  obtain⟨O,g,m,f,z,y,w,v,o⟩:=qg (kk:=q.2.1) h.2 i r;rw[j]at o;have M:f.flatten=[]:=List.sublist_nil.mp o;obtain⟨A,s,u,N,J,F,E,D,C⟩:=rT t y v M;refine⟨A,s,u,N,?_,?_,E,D,C⟩
  ·rw[YR,z];exact J
  ·rw[YR,h.1,w];exact F
def yy:fP G (λh H Q=>∃(p:KF)(ps:List Kr),h=[.ref p]/\H p=Z (.tup (ps.map λq=>V.ref q.1))/\(∀q∈ps,H q.1=Z (.tup [kV q.2.1,q.2.2])) ∧
  ∀l,H l=L->Q (.ref l) (upd H l (.dK (ps.foldl (λacc q=>putK acc q.2.1 q.2.2) [])))) jv:=by
 intro M U J H l vs Fs m t Q A e k;unfold jv at e;split at e
 ·rename_i E ts;obtain⟨i,e1,e2⟩:=Zy.mp e;cases e2;obtain⟨v,F,rfl,rfl,r⟩:=(show RpL G H vs [.tup ts] Fs from A.rp).one;obtain⟨b,D,N,rfl,hb,q⟩:=Rp.Jj r;obtain⟨ps,rfl,y,pr⟩:=se q e1;refine⟨b,ps,rfl,hb,y,λl g=>?_⟩;obtain⟨ns,a,C,z,u,s,o,n,j⟩:=rT pr (ns:=[]) (vs:=[]) (ts:=[]) (Fs:=[]) Y .nil Y;have w:ps.foldl (λacc q=>putK acc q.2.1 q.2.2) []=ns.zip a:=u;have x:i.foldl (λd q=>dput d q.1 q.2) []=(ns.map aR).zip C:=s;rw[w];have f:aG H (upd H l (.dK (ns.zip a))):=bD g;refine k _ _ (l :: z.flatten) f (by rw[x];exact .dct aw o (n.same f)) ?_;rw[j];exact Fp.new (A.same.free g) (by simp) Fp.nil
 ·cases e
def vh:bootBuiltins ("dict" : Str)=Z (.type "dict"):=by decide +kernel
def vF(a:X.mg "dict" = L)(f:HM G X [e] cs)(b:Gl X "dict" := by rfl)(d:X.calm=R:=by rfl)(he:K1 e [] X:=by rfl):PV G X (.Call (.Name "dict" p) [e] [] pos) (eN jv cs) :=
 jC (t6 d) yy b a vh f (he:=he) (hpl:=rfl)
end
end VS
end
section
namespace L2
open PySem PySem.Spec PyProof.Rows
section
variable{X:Cx}{pins:Xy}{J:St}{H:Hp}{s:GM}
def qI{d:KF}{a:List (Key×V)}{o:Obj}(I:Inv X pins J H s)(e:H d=Z (.dK a))(g:s.heap.get? d=Z o):Inv X pins J (upd H d (.frz o (.dK a))) s :=
 mH (t':=s.toks) I (by rw[e];exact True.intro) ⟨rfl,λ_ _=>rfl⟩ ⟨o,g⟩ ⟨g,I.GO d _ e⟩
end
def R5(d:KF)(o:Obj)(a:List (Key×V)):It :=
 ⟨λi H=>H d=Z (.frz o (.dK a))/\i<a.length,λi H x b=>b=H/\∃p,a[i]?=Z p/\x=kV p.1,λi H=>H d=Z (.frz o (.dK a))/\a.length<=i⟩
def Ak{k:Key}{v:KM}(h:lX k v=R):RelV (kV k) v:=by
 rcases bW h with⟨i,t,rfl,rfl⟩ | ⟨x,t,rfl,rfl⟩
 ·exact⟨t,rfl⟩
 ·exact⟨t,rfl⟩
def oZ{P:P3}{w:SZ}{a:List DictEntry}{m:List (Key×KM)}(r:Pairs (aP P w) a m){i:Nat}{e:DictEntry}(h:a[i]?=Z e):∃q,m[i]?=Z q/\lX q.1 e.key=R:=by
 induction r generalizing i with
 |nil=>simp at h
 |@cons j b a l f g _ d =>
  cases i with
  |zero =>
   simp at h;subst h;exact⟨b,rfl,f⟩
  |succ i=>simpa using d (by simpa using h)
def Dc{l:List (Key×V)}{m:List (Key×KM)}(r:KV l m){i:Nat}{q:Key×KM}(h:m[i]?=Z q):∃p,l[i]?=Z p/\p.1=q.1:=by
 induction r generalizing i with
 |nil=>simp at h
 |@cons a f ps e d t b =>
  cases i with
  |zero=>simp at h;subst h;exact⟨a,rfl,d.1⟩
  |succ i=>simpa using b (by simpa using h)
section
variable{X:Cx}{tg:Expr}{pos:Pos}
def Cy{P:P3}{w:SZ}{K:Xd}(d j:KF){Y:List (Key×V)}{n:Array DictEntry}{t:Nat}{O:List (Key×KM)}(f:KV Y O)(x:Pairs (aP P w) n.toList O) :
  Turn P w K tg (R5 d (ST.dO n t) Y) [j] j (λi h=>h.get? j=Z (ST.kO d i n.size t)) where
 mem:=by simp
 obj:=λi h st b hb=>by
  rw[Zb.mp hb];exact⟨_,st,λv z=>by cases z⟩
 keep:=λi h m st k=>k j (by simp) _ st
 item:=by
  intro X A hw C y i a s J H E I r st hg;subst A hw C;obtain⟨N,f1,f2,M,G,D⟩:=r j (by simp);refine ST.qP (I.ok.hd y) st (show s.heap.get? d=Z (ST.dO n t) from(I.GO d _ hg.1).1) (λe l m Q g=>?_) λS=>?_
  ·have I1:Inv X a J H { s with heap:=m }:=I.turned (t':=s.toks) (λb o hb e=>(Q.2 b hb).trans e) N f1 M G D;rw[← Yg]at l;obtain⟨q,u,U⟩:=oZ x l;obtain⟨p,hp,hb⟩:=Dc f u;exact⟨_,rfl,r9 (s:={ s with heap:=m }) g rfl rfl rfl ⟨kV p.1,H,I1,by rw[hb];exact Ak U,⟨rfl,p,hp,rfl⟩,g,λb hb=>(r b hb).1⟩⟩
  ·exfalso;rw[← Yg,Z3,x.length,← Xv f]at S;exact absurd hg.2 (by lia)
 done:=by
  intro X A hw C y i a s J H E I r st hg;subst A hw C;obtain⟨N,f1,f2,M,G,D⟩:=r j (by simp);refine ST.qP (I.ok.hd y) st (show s.heap.get? d=Z (ST.dO n t) from(I.GO d _ hg.1).1) (λe l m Q g=>?_) λS m kp=>⟨rfl,I.turned (t':=s.toks) (λb o hb e=>kp b o hb e) N f1 M G D⟩
  exfalso;rw[← Yg]at l;obtain⟨q,u,U⟩:=oZ x l;have:=(Zh.mp u).1;have h2:=hg.2;rw[Xv f]at h2;lia
 self:=λ_ _ _ _ _ st hQ=>wpAny_pyIter_slot ⟨_,st,rfl⟩ F.slot_dict_keyiterator_iter (XG F.slot_dict_keyiterator_iter ⟨_,st,rfl⟩ F.entry_dict_keyiterator_iter (show On _ _ (ret (.ref j)) _ _ _ from ZO ⟨_,rfl, "dict_keyiterator",_,⟨_,st,rfl⟩,Y0.lookup,hQ⟩) (F.args_dict_keyiterator_iter_1 _))
def UT(e:TE):TI:=λJ H R=>e J H λx b=>∃d a,x=.ref d/\b d=Z (.dK a)/\∀o,R (R5 d o a) (upd b d (.frz o (.dK a)))
def EF{l:Expr}{i:TE}(m:PE X l i):PI X tg l (UT i):=by
 intro a s J H R I h;refine thn (m a s J H _ I h) λv s1 ⟨x,D,f,r1,j⟩=>?_;obtain⟨d,C,ex,e,q⟩:=j;subst ex;cases r1;obtain⟨z,y,t,rel,o,w,A,g,ex,hd,_,n,u⟩:=sj f.GO e;have p:=xw ex hd;subst p;refine ST.zT y g ?_;refine⟨s1.heap.objs.size,[s1.heap.objs.size],_,_,_,rfl,(qI f e g).kept (t':=s1.toks) λb o e=>Zk _ e,Cy d _ rel n,ZU _ Y,λb hb=>?_,q _⟩;have r:b=s1.heap.objs.size:=by simpa using hb
 subst r;exact(qI f e g).LC (Zm _) ((qI f e g).GO.fresh (Zm _))
end
end L2
namespace VS
open PySem PySem.Spec PyProof.Rows L2
def PK:T->Bool
 |.non=>R
 |.bl _=>R
 |.int _=>R
 |.str _=>R
 |_=>B
def BM{G:Gx}{H a:Hp}{v:V}{t:T}{F:X7}(h:PK t=R)(r:Rp G H v t F):F=[]/\Rp G a v t []:=by
 cases r with
 |non=>exact⟨rfl,.non⟩
 |bl b=>exact⟨rfl,.bl b⟩
 |int i=>exact⟨rfl,.int i⟩
 |str s ok=>exact⟨rfl,.str s ok⟩
 |_=>cases h
end VS
end
section
namespace L2
open PySem PySem.Spec PyProof.Rows
def pick{α:Type}(l:List α)(a:Wc):List α:=a.filterMap (l[·]?)
def js{α:Type}(l:List α)(b d a:Option Int):List α:=pick l (sliceRange (sliceBounds b d a l.length).1 (sliceBounds b d a l.length).2.1 (sliceBounds b d a l.length).2.2)
def xH{α:Type}(l:List α)(a:Wc){x:α}(h:x∈pick l a):x∈l:=by
 obtain⟨i,_,e⟩:=X2.mp h;exact Yj e
def zS{α β:Type}(f:α->β)(l:List α)(a:Wc):pick (l.map f) a=(pick l a).map f:=by
 unfold pick;rw[List.map_filterMap];congr 1;funext i;rw[ZS]
def zd{α β:Type}(f:α->β)(l:List α)(b d a:Option Int):js (l.map f) b d a=(js l b d a).map f:=by
 unfold js;rw[Zw,zS]
def sM{α:Type}(l:List α)(b d a:Option Int):(js l b d a).length<=l.length:=by
 have h:=slicePick_size_le (l.map λ_=>Value.none).toArray b d a;have e:(slicePick (l.map λ_=>Value.none).toArray b d a).size=(js (l.map λ_=>Value.none) b d a).length:=by
  unfold slicePick js pick;simp only[Ze,Xn]
 rw[e,zd,Zw,Ze,Zw]at h;exact h
def wq{b:List V}{d:Wf}(r:aQ b d)(a:Wc):aQ (pick b a) (pick d a):=by
 induction a with
 |nil=>exact .nil
 |cons i a e =>
  unfold pick at e ⊢;rw[Yr,Yr];cases f:b[i]? with
  |none =>
   have:d[i]?=L:=by
    rw[Z3]at f ⊢;rw[← r.length];exact f
   rw[this];exact e
  |some x =>
   obtain⟨u,h,g⟩:=r.get f;rw[h];exact .cons g e
section
variable{X:Cx}{e st:Expr}{lo hi:Option Expr}{te:TE}{tl th ts:TO}{pos p2:Pos}
noncomputable def De(X:Cx)(r:V->Option Int->Option Int->Option Int->Hp->VK->Prop):Prop :=
 ∀(a:Xy)(s:GM)(J:St)(H:Hp)(x:V)(v f b d:KM)(lo hi st:Option Int)(g:KF)(Q:VK),Inv X a J H s->RelV x v->s.heap.IsSliceOf g f b d->IsPart f lo->IsPart b hi->IsPart d st->r x lo hi st H Q →
  ∃T id,typeLookup (.type T) "__getitem__" = pure (Z (.builtin id))/\s.TypeIs v T/\On (IR X.prog X.w) X.A (getItem v (.ref g)) (EP X a J Q) X.xe s
def Gd(r:V->Option Int->Option Int->Option Int->Hp->VK->Prop)(f:TE)(b d a:TO):TE:=λJ H Q=>f J H λx j=>b J j λl i=>d J i λu h=>a J h λc g=>r x l u c g Q
def oR{r:V->Option Int->Option Int->Option Int->Hp->VK->Prop}(F:De X r)(M:PE X e te)(G:PO X lo tl)(C:PO X hi th)(E:PO X (Z st) ts):PE X (.Subscript e (.Slice lo hi (Z st) p2) pos) (Gd r te tl th ts):=by
 intro a s J H Q I h;refine Subscript_ (thn (M a s J H _ I h) λv s1 ⟨x,H1,Y,r1,y⟩=>?_);refine wpAny_Slice (thn (G a s1 J H1 _ Y y) λi n ⟨l,H2,U,z,t⟩=>thn (C a n J H2 _ U t) λf m ⟨u,H3,S,pu,p⟩=>thn (E a m J H3 _ S p) λg d ⟨c,j,P,ps,o⟩=>?_);have O:Inv X a J j { d with heap:=d.heap.push { cls:=.type "slice",data:=.fields #[i,f,g] } }:=P.kept (t':=d.toks) λb ob q=>Zk _ q;obtain⟨T,id,N,D,hg⟩:=F a { d with heap:=d.heap.push { cls:=.type "slice",data:=.fields #[i,f,g] } } J j x v i f g l u c d.heap.objs.size Q O r1 (Heap.IsSliceOf.new ..) z pu ps o;show On (IR X.prog X.w) X.A (subscriptTail e (.Slice lo hi (Z st) p2) v (.ref d.heap.objs.size)) (EP X a J Q) X.xe { d with heap:=d.heap.push { cls:=.type "slice",data:=.fields #[i,f,g] } };exact tail_any (ops:=[v,.ref d.heap.objs.size]) D N hg (by with_unfolding_all rfl)
def EN(K:Xd):V->Option Int->Option Int->Option Int->Hp->VK->Prop:=λx lo hi st H Q=>∃a b,x=.ref a/\G5 K H a b/\st≠Z 0/\∀p,H p=L->Q (.ref p) (upd H p (.lst (js b lo hi st)))
def yL:De X (EN X.K):=by
 intro f s J H x v y u w lo hi st z Q I j p l pu ps h;obtain⟨a,d,rfl,n,t,q⟩:=h;cases j;obtain⟨g,r,i,m⟩:=I.list n;have hlen:=r.length;refine⟨"list",_,slot_list_getitem.lookup,i.isList.typeIs,?_⟩;refine wpAny_getItem_list_slice i.isList p l pu ps t ?_ (by rw[Ze]<;>lia);have e:slicePick g.toArray lo hi st=(js g lo hi st).toArray:=by
  unfold slicePick js pick;simp only[Ze,Xn]
 rw[e];refine⟨.ref s.heap.objs.size,_,I.laid (t':=s.toks) (o:=.lst (js d lo hi st)) (λb A q=>Zk _ q) (Zm _) ?_,rfl,q _ (I.GO.fresh (Zm _))⟩;refine⟨ZJ (sM d lo hi st) m,_,0,?_,ZU _ Y⟩;unfold js;rw[← hlen];exact wq r _
end
end L2
namespace VS
open PySem PySem.Spec PyProof.Rows L2
section
variable{G:Gx}{X:Cx}{a:Expr}{ca:Ex}{pos:Pos}
def Se(x:Val)(l h c:Option Int):W4:=match x with
 | (_,.lst b)=>if b.all PK/\c≠Z 0 then Z (.fr,.lst (js b l h c)) else L
 |_=>L
def Eb(a:Ex)(d e b:Option Ex)(U:VS.Env):W4:=(a U).bind λx=>(kW d U).bind λl=>(kW e U).bind λh=>(kW b U).bind λc=>Se x l h c
def BE{H m:Hp}{f:List V}{b:W5}{n:Xg}(r:RpL G H f b n)(l:b.all PK=R)(d:Wc):RpL G m (pick f d) (pick b d) (List.replicate (pick b d).length []):=by
 induction d with
 |nil=>exact .nil
 |cons i d g =>
  unfold pick at g ⊢;rw[Yr,Yr];cases e:b[i]? with
  |none =>
   have:f[i]?=L:=by
    rw[Z3]at e ⊢;rw[r.len.1];exact e
   rw[this];exact g
  |some t =>
   obtain⟨v,F,j,_,h⟩:=r.get i e;rw[j];exact .cons (BM (Yw.mp l t (Yj e)) h).2 g
def yV{u:Expr}{y C:Option Expr}{P S O:Option Ex}{p2:Pos}(ha:PV G X a ca)(hl:LK G X y P)(hh:LK G X C S)(Im:LK G X (Z u) O)(hK:X.K=G.K:=by rfl):PV G X (.Subscript a (.Slice y C (Z u) p2) pos) (Eb ca P S O) :=
 PE.weak (oR yL ha hl hh Im) λJ H Q hq=>by
  obtain⟨M,U,m,t,s,e,k⟩:=hq;unfold Eb at e;obtain⟨⟨mx,x⟩,ea,o⟩:=Zz.mp e;obtain⟨l,g,n⟩:=Zz.mp o;obtain⟨h,eh,j⟩:=Zz.mp n;obtain⟨c,ec,d⟩:=Zz.mp j;clear e o n j;refine⟨M,U,mx,x,s,ea,λv H1 F e1 r1 f1=>⟨M,U,l,s.same e1,g,λH2 e2=>⟨M,U,h,(s.same e1).same e2,eh,λH3 i=>⟨M,U,c,((s.same e1).same e2).same i,ec,λH4 N=>?_⟩⟩⟩⟩;have Y:aG H H4:=((e1.trans e2).trans i).trans N;have r4:=((r1.same e2).same i).same N;unfold Se at d;split at d
  ·rename_i m' f q;cases q;split at d
   ·rename_i D;cases d;obtain⟨a',r,Fs,rfl,rfl,GZ,w⟩:=r4.lst_inv;refine⟨a',r,rfl,by rw[hK];exact G5.of GZ,D.2,λp A=>?_⟩;have E:(List.replicate (js f l h c).length ([]:X7)).flatten=[]:=by simp
    refine k (.ref p) _ (p :: (List.replicate (js f l h c).length ([]:X7)).flatten) (Y.trans (bD A)) (.lst aw ?_) ⟨?_,λb hb=>?_⟩
    ·have g:r.length=f.length:=w.len.1;unfold js;rw[g];exact BE w D.1 _
    ·rw[E];exact Zf.mpr ⟨(λz=>nomatch z),Z5⟩
    ·rw[E]at hb;rw[Zb.mp hb];exact Y.free A
   ·cases d
  ·cases d
end
end VS
end
section
namespace L2
def DH{α:Type}{n:Nat}{b:List α}(d:b.length=n+1):∃a t,b=a :: t/\t.length=n:=by
 obtain⟨a,t,e⟩:=List.exists_cons_of_length_eq_add_one d;subst e;exact⟨a,t,rfl,Nat.succ.inj d⟩
def nL{α:Type}{b:List α}(d:b.length=1):∃a,b=[a]:=List.length_eq_one_iff.mp d
def dZ{α:Type}{d:List α}(f:d.length=2):∃a b,d=[a,b]:=by
 obtain⟨a,t,rfl,e⟩:=DH f;obtain⟨b,rfl⟩:=nL e;exact⟨a,b,rfl⟩
def qo{α:Type}{d:List α}(f:d.length=3):∃a b c,d=[a,b,c]:=by
 obtain⟨a,t,rfl,e⟩:=DH f;obtain⟨b,c,rfl⟩:=dZ e;exact⟨a,b,c,rfl⟩
def FT{α:Type}{e:List α}(g:e.length=4):∃a b c d,e=[a,b,c,d]:=by
 obtain⟨a,t,rfl,f⟩:=DH g;obtain⟨b,c,d,rfl⟩:=qo f;exact⟨a,b,c,d,rfl⟩
end L2
end
section
namespace VS
open PySem PySem.Spec PyProof.Rows L2
inductive Res where | ok (v:Val) | ex (x:Str)
inductive R1 where | ok (o:Out) | ex (x:Str) (U:VS.Env)
abbrev ExX:=VS.Env->Option Res
abbrev SxX:=VS.Env->Option R1
end VS
end
section
namespace TS
open PySem PySem.Spec PyProof.Rows
variable{prog:P3}{w:SZ}{A:Re}{E:Z4}{s:GM}
def wj{f:Wf}(o:∀v∈f,∃x t,v=Value.str x t){d:Array PP}(g:d.Perm (pairsOf f))(p:SortedToK strKind d (pairsOf f).size):((d.map (·.2)).toList.map strOf).Pairwise (λa b=>¬b.cps.toList<a.cps.toList):=by
 obtain⟨n,m⟩:=oM g;rw[Wv,List.pairwise_iff_getElem];intro i j r l u;have key:∀i (h:i<(d.map (·.2)).toList.length),KK strKind d i=(strOf (d.map (·.2)).toList[i]).cps.toList:=λi h=>by
  have e:d[i]?=Z ((d.map (·.2)).toList[i],(d.map (·.2)).toList[i]):=by
   rw[← Yg,← m,ZS,Zr h];rfl
  obtain⟨x,t,ex⟩:=o _ (n.mem_iff.mp (Yy h));unfold KK;rw[e];rw[ex];rfl
 have q:=p i j (Xu u) (by rw[← g.size_eq];simpa using l);rw[key i r,key j l]at q;exact of_decide_eq_false q
def qA{x:KM}{Q:Z4}(z:∀(q:Re)(C:Z4),q.handled=A.handled->On (IR prog w) q (collect x) (λf s1=>(∀v∈f,∃x t,v=Value.str x t)/\f.length<64/\∀(out:Wf)(i:SL)(e:Nat),out.Perm f->(out.map strOf).Pairwise (λa b=>¬b.cps.toList<a.cps.toList)->(∀b o,s1.heap.get? b=Z o->i.get? b=Z o)->i.get? s1.heap.objs.size=Z (seqObj "list" out.toArray e)->Q (.ref s1.heap.objs.size) { s1 with heap:=i }) C s) :
  On (IR prog w) A (call (.builtin "sorted") [x]) Q E s:=by
 refine Calls.call_function_entry kind_sorted plain_sorted entry_sorted (args_sorted1 _) (show On _ _ (Builtin.«sorted» _) _ _ _ from ?_);unfold Builtin.«sorted»;refine Zj (m:=checkCount "sorted" 1 1 _) (ZO (Zj (YB (z A.in1 (λ_ _=>False) Y) ?_ λ_ _ e=>e.elim)));rintro d s1 ⟨g,y,h⟩;refine Zj (wpAny_newList ?_ (by show d.length<=KB;rw[Xo];omega));have j:(s1.heap.push (seqObj "list" d.toArray 0)).get? s1.heap.objs.size=Z (seqObj "list" d.toArray 0):=ZU _ Y;show On _ _ _ _ _ { s1 with heap:=s1.heap.push (seqObj "list" d.toArray 0) };refine Zj (Xw (XG slot_list_sort ⟨_,j,rfl⟩ entry_list_sort (list_sort_treeK strKind_oneLt j (strsAre_map _ g).keysOf (λF D rest e=>keyKind_strs (by rw[← e];exact strsAre_map _ g)) y λl p u=>⟨_,rfl,?_⟩) (args_list_sort _)));obtain⟨e,r⟩:=sortedHeap_at (out:=(arrOf l).map (·.2)) j;exact ZO ⟨_,rfl,h ((arrOf l).map (·.2)).toList _ e (oM p).1 (wj g p u) (λb o n=>by
  have hb:=ZM n;show (sortedHeap (s1.heap.push (seqObj "list" d.toArray 0)) s1.heap.objs.size d ((arrOf l).map (·.2))).get? b=Z o;rw[sortedHeap_old (ZW hb) (by rw[size_push'];exact Ye hb),Heap.get?_push_ne _ _ _ (ZW hb)];exact n) r⟩
end TS
namespace L2
open PySem PySem.Spec PyProof.Rows TS
section
variable{X:Cx}
def jY(hc:X.calm=R):dX X (.builtin "sorted") (λD H Q=>∃p,∃(d:List Str)(m:List V),D=[.ref p]/\d.length<64/\d.length=m.length/\H p=Z (.dK ((d.map Sum.inr).zip m)) ∧
  ∀(l:KF)(C:List Str),H l=L->C.Perm d->C.Pairwise (λa b=>¬b.cps.toList<a.cps.toList)->Q (.ref l) (upd H l (.lst (C.map V.str)))):=by
 intro f s J H D us Q I O h;obtain⟨p,d,m,rfl,Tb,hl,Y,q⟩:=h;obtain⟨u,rfl,P⟩:=O.one;cases P;obtain⟨U,hS,A,rel,z⟩:=sj I.GO Y;obtain⟨ep,z⟩:=z.dictAt;have SS:A.length=d.length:=by
  have:=rel.length;rw[Yo,Zw]at this;lia
 have Vj:∀i:Nat,(A[i]?).map (λx=>x.1)=(d[i]?).map (Sum.inr:Str->Key):=λi=>by
  have F:((A.map (·.1)))[i]?=(d.map (Sum.inr:Str->Key))[i]?:=by
   rw[← rel.keys];rw[Wi (by rw[Zw];exact Xf hl)]
  rw[ZS,ZS]at F;exact F
 refine TS.qA λA' E' hA=>PySem.W.kdu_collect (PySem.W.kdl_dict hS) (hA.trans (I.ok.hd hc)) z (by rw[Yo,Zw]at U;lia) λG E acc kp M=>?_;have N:Inv X f J H { s with heap:=G,toks:=E }:=I.kept kp;have VA:acc.toList.length=d.length:=by rw[YM,M.1,SS]
 have each:∀i v,acc.toList[i]?=Z v->∃x t,v=Value.str x t/\d[i]?=Z x:=λi v g=>by
  rw[Yg]at g;obtain⟨k,x,e1,e2⟩:=M.2 i v g;have j:=Vj i;rw[e1]at j;cases r:d[i]? with
  |none=>rw[r]at j;cases j
  |some y =>
   rw[r]at j;have e5:k=Sum.inr y:=Zn j;subst e5;obtain⟨t,rfl⟩:=Value.isStrOf_shape (show Value.isStrOf y v=R from e2);exact⟨y,t,rfl,r⟩
 have g:∀v∈acc.toList,∃x t,v=Value.str x t:=λv o=>by
  obtain⟨i,hi,e⟩:=List.getElem_of_mem o;obtain⟨x,t,e1,_⟩:=each i v (by rw[Zr hi,e]);exact⟨x,t,e1⟩
 have es:acc.toList.map strOf=d:=by
  apply List.ext_getElem?;intro i;rw[ZS];cases e:acc.toList[i]? with
  |none =>
   have:acc.toList.length<=i:=Z3.mp e;rw[Z3.mpr (by lia)];rfl
  |some v =>
   obtain⟨x,t,rfl,e1⟩:=each i v e;rw[e1];rfl
 refine⟨g,by omega,λout h2 e n S O4 he=>?_⟩;have O6:∀v∈out,∃x t,v=Value.str x t:=λv o=>g v (n.mem_iff.mp o);have UU:((out.map strOf).map V.str).length<=sizeLine:=by rw[Zw,Zw,n.length_eq,VA,Xo];omega
 exact⟨.ref G.objs.size,_,N.laid (t':=E) O4 (Zm _) (show cp X.prog X.w _ h2 _ (.lst ((out.map strOf).map V.str)) from⟨UU,out,e,qU O6,he⟩),rfl,q _ _ (N.GO.fresh (Zm _)) (by rw[← es];exact n.map _) S⟩
end
end L2
namespace VS
open PySem PySem.Spec PyProof.Rows L2
section
variable{G:Gx}{X:Cx}{e:Expr}{cs:Hf}{p pos:Pos}
noncomputable def g6:W3->W4
 |[(_,.dct 0 l)]=>(strs? (l.map (·.1))).bind λa=>if a.length<64/\a.all Na=R then Z (.fr,.lst ((eX a).map .str)) else L
 |_=>L
def xu:fP G (λq H Q=>∃p,∃(d:List Str)(f:List V),q=[.ref p]/\d.length<64/\d.length=f.length/\H p=Z (.dK ((d.map Sum.inr).zip f)) ∧
  ∀(l:KF)(h:List Str),H l=L->h.Perm d->h.Pairwise (λa b=>¬b.cps.toList<a.cps.toList)->Q (.ref l) (upd H l (.lst (h.map V.str)))) g6:=by
 intro M U J H l f D m t Q A e k;unfold g6 at e;split at e
 ·rename_i E x;obtain⟨d,e1,e2⟩:=Zz.mp e;split at e2
  ·rename_i hb;cases e2;obtain⟨v,F,rfl,rfl,r⟩:=(show RpL G H f [.dct 0 x] D from A.rp).one;obtain⟨a,g,o,i,N,rfl,rfl,y,j,rfl,u⟩:=fj r;have C:g.length=i.length:=by rw[j,u.len.1]
   have z:((g.map aR).zip i).map (·.1)=g.map aR:=Wi (by rw[Zw];exact Xf C);rw[z]at e1;have n:=keys_str e1;refine⟨a,d.map sx,o,rfl,by rw[Zw];exact hb.1,?_,by rw[← n];exact y,xB k A.same λs w=>C6 (Yw.mp hb.2 s w)⟩;rw[← j,n,Zw,Zw,Zw]
  ·cases e2
 ·cases e
def vK(a:X.mg "sorted" = L)(f:HM G X [e] cs)(b:Gl X "sorted" := by rfl)(g:X.K=G.K:=by rfl)(d:X.calm=R:=by rfl)(he:K1 e [] X:=by rfl):PV G X (.Call (.Name "sorted" p) [e] [] pos) (eN g6 cs) :=
 km (jY d) xu b a vS f (he:=he) (hpl:=rfl)
end
def Lv:T->Bool
 |.bl true=>R
 |_=>B
mutual
@[simp] def eJ:T->Bool
 |.tup l=>bc l
 |.lst l=>bc l
 |.dct _ l=>oU l
 |.obj _ l=>dE l
 |_=>R
@[simp] def bc:W5->Bool
 |[]=>R
 |t :: r=>eJ t&&bc r
@[simp] def oU:List (T×T)->Bool
 |[]=>R
 | (_,v) :: r=>eJ v&&oU r
@[simp] def dE:List (Nat×T)->Bool
 |[]=>R
 | (n,v) :: r=>(eJ v && !(n==0&&Lv v))&&dE r
end
theorem hV:∀{b:W5}{a:W5},b.length=a.length->oU (b.zip a)=R->bc a=R
 |[],[],_,_=>rfl
 |_ :: _,[],h,_=>by simp at h
 |[],_ :: _,h,_=>by simp at h
 |k :: b,t :: a,h,e=>by
  rw[ZX,oU,Zd]at e;rw[bc,Zd];exact⟨e.1,hV (by simpa using h) e.2⟩
theorem dS:∀{b:Wc}{a:W5},b.length=a.length->dE (b.zip a)=R->bc a=R
 |[],[],_,_=>rfl
 |_ :: _,[],h,_=>by simp at h
 |[],_ :: _,h,_=>by simp at h
 |k :: b,t :: a,h,e=>by
  rw[ZX,dE,Zd,Zd]at e;rw[bc,Zd];exact⟨e.1.1,dS (by simpa using h) e.2⟩
section
variable{G:Gx}{H:Hp}
theorem Rp.at{v:V}{t:T}{F:X7}(m:Me)(r:Rp G H v t F):eJ t=R->Rp (G.at m) H v t F :=
 Rp.rec (G:=G) (H:=H) (motive_1:=λv t F _=>eJ t=R->Rp (G.at m) H v t F) (motive_2:=λvs e Fs _=>bc e=R->RpL (G.at m) H vs e Fs)
  (λ_=>.non) (λb _=>.bl b) (λi _=>.int i) (λs h _=>.str s h) (λh _=>.scr h) (λh _ d f=>.tup h (d (by simpa using f))) (λh _ d f=>.lst h (d (by simpa using f)))
  (λh l q d f=>.dct h l (d (hV (by rw[Zw,l];exact q.len.1) (by simpa using f)))) (λh l q d f=>.dctT h l (d (hV (by rw[Zw,l];exact q.len.1) (by simpa using f))))
  (λh l n q d f=>.dctN h l n (d (hV (by rw[Zw,l];exact q.len.1) (by simpa using f)))) (λh l q d f=>.dctZ h l (d (hV (by rw[Zw,l];exact q.len.1) (by simpa using f)))) (λh o _=>.exc h o)
  (λ{c a w b u vs e Fs} h l p q d f=>by
   rw[eJ,dE,Zd]at f;have hb:b=B:=by
    cases b with
    |false=>rfl
    |true=>simp[Lv]at f
   refine .ins h l (λz=>?_) (d (dS (by rw[l];exact q.len.1) f.2));rw[hb]at z;cases z)
  (λ_ _ _ f=>by simp[eJ,dE,Lv]at f)
  (λ_=>.nil) (λ_ _ j g f=>by
   rw[bc,Zd]at f;exact .cons (j f.1) (g f.2)) r
theorem RpL.at(m:Me):∀{vs:List V}{a:W5}{Fs:Xg},RpL G H vs a Fs->bc a=R->RpL (G.at m) H vs a Fs
 |_,_,_,.nil,_=>.nil
 |_,_,_,.cons r q,f=>by
  rw[bc,Zd]at f;exact .cons (r.at m f.1) (RpL.at m q f.2)
mutual
theorem lN:∀t:T,GR t=R->eJ t=R
 |.non,_=>rfl
 |.bl _,_=>rfl
 |.int _,_=>rfl
 |.str _,_=>rfl
 |.scr _,_=>rfl
 |.tup l,h=>by
  rw[eJ];exact vA l h
 |.lst _,h=>by cases h
 |.dct _ _,h=>by cases h
 |.obj _ _,h=>by cases h
theorem vA:∀l:W5,d6 l=R->bc l=R
 |[],_=>rfl
 |t :: l,h=>by
  rw[d6,Zd]at h;rw[bc,Zd];exact⟨lN t h.1,vA l h.2⟩
end
end
def qK(k:Nat):T->Option T
 |.obj (_+1) (_ :: fs)=>(fs.findIdx? λp=>p.1==k).bind λi=>(fs[i]?).map (·.2)
 |_=>L
def aW(k:Nat)(a:Ex):Ex:=λU=>(a U).bind λx=>(qK k x.2).map λt=>sub x.1 t
section
variable{G:Gx}{X:Cx}{a e o:Expr}{ca ce:Ex}{k i:Nat}{f x:Str}{pos pos' p1:Pos}
def w_fld(Jq:jT G)(F:HN G X.K k f)(ha:PV G X a ca)(C:UF a f X.env (eval a X.env)=eval a X.env:=by exact rfl):PV G X (.Attribute a f pos) (aW k ca) :=
 PE.weak (xN ha C) λJ H Q hq=>by
  obtain⟨M,U,m,t,s,e,kq⟩:=hq;unfold aW at e;obtain⟨⟨mx,y⟩,ea,e1⟩:=Zz.mp e;obtain⟨z,d,e2⟩:=Zy.mp e1;refine⟨M,U,mx,y,s,ea,λv H' F' sm r1 f1=>?_⟩;unfold qK at d;split at d
  ·rename_i c q0 fs w;dsimp only at w;subst w;obtain⟨j,E,e3⟩:=Zz.mp d;obtain⟨p,D,e4⟩:=Zy.mp e3;subst e4;obtain⟨c',a,dx,b,ns,vs,q,Fs,ec,rfl,rfl,rfl,rfl,hA,A,C,r⟩:=dn r1;cases ec;have J5:ns.length=q.length:=A.trans r.len.1;obtain⟨l,g,O,N,g3,g4⟩:=kJ (λn=>n==k) J5 E;have ek:l=k:=by simpa using g3
   subst ek;have ep:p=(l,g):=by
    have:(ns.zip q)[j]?=Z (l,g):=by rw[YT];exact⟨O,N⟩
    rw[this]at D;exact(Zn D).symm
   subst ep;obtain⟨u,Fi,Y,S,h⟩:=r.get j N;have P:=rP (G:=G) (c:=c+1) Jq A E O Y;rw[F.nm c]at P;refine⟨a,_,dx,_,u,rfl,hA,F.cl c,F.no c,P,?_⟩;have fp:=((f1.sub (Yu _ _)).sub (cJ S)).up h;unfold VS.sub at e2;rw[e2]at fp;have et:g=t:=congrArg Prod.snd e2;rw[et]at h;exact kq u H' Fi sm h fp
  ·cases d
def jm(i k:Nat)(e:Ex)(U:VS.Env):Option Out:=(e U).bind λv=>match U[i]? with
 |some (some (.ow (.obj (c+1) (q :: fs))))=>(fit v).bind λt=>if fs.length<900/\(fs.all λp=>!(p.1==k))=R then Z (.nx (U.set i (Z (.ow (.obj (c+1) (q :: (fs++[(k,t)]))))))) else L
 |_=>L
theorem so{g:Nat->Str}{k:Nat}{v:V}(n:∀k m:Nat,g k=g m->k=m):∀{b:Wc}{d:List V}{j:W5},b.length=d.length->b.length=j.length->((b.zip j).all λp=>!(p.1==k))=R->iV (g k) v ((b.map g).zip d)=((b++[k]).map g).zip (d++[v])
 |[],[],_,_,_,_=>rfl
 |[],_ :: _,_,h,_,_=>by simp at h
 |_ :: _,[],_,h,_,_=>by simp at h
 |_ :: _,_ :: _,[],_,h,_=>by simp at h
 |q :: b,t :: d,u :: j,s,r,l=>by
  rw[ZX,Xk,Zd]at l;have ne:g q≠g k:=λz=>by
   have:=n _ _ z;subst this;simp at l
  rw[Zo,ZX,iV,Zp ne,so n (by simpa using s) (by simpa using r) l.2];rfl
def lJ(i k:Nat)(Jq:jT G)(F:HN G X.K k f)(he:PV G X e ce)(hN:X.N[i]?=Z x:=by exact rfl)(hv:IJ X.env.scope x:=by exact .inl Y)(hd:K3 x:=by exact rfl)(C:K4 x:=by exact rfl)(hs:swapsWith e (Z (.Attribute (.Name x p1) f pos')) pos.line X.env=pure B:=by exact rfl):PSV G X (.Assign [.Attribute (.Name x p1) f pos'] e pos) (jm i k ce) :=
 PS.weak (Dd (fK hN hv hd C) he hs) λD J H hq=>by
  obtain⟨M,U,out,s,e,kq⟩:=hq;unfold jm at e;obtain⟨⟨mv,h⟩,ev,e⟩:=Zz.mp e;split at e
  ·rename_i c q0 fs w;obtain⟨t,et,e⟩:=Zz.mp e;have em:=mE et;cases em;split at e
   ·rename_i l;cases e;obtain⟨v,g1,g2⟩:=s.rp _ _ w;refine⟨M,U,.fr,h,s,ev,λy Q S q ry n=>⟨v,g1,?_⟩⟩;obtain⟨c',a,O,b,ns,p,j,Fs,ec,rfl,rfl,rfl,eF,E,A,hb,r⟩:=dn g2;cases ec;have nd:=s.nd i _ w;rw[eF]at nd;have P:=Zf.mp nd;have Ta:Q a=Z (.ins (G.ct (c+1)).1 O ((ns.map (G.ct (c+1)).2).zip p)):=q a _ E;have u:GV (Q a):=by rw[Ta];exact True.intro
    have J5:ns.length=j.length:=A.trans r.len.1;have na:a∉S:=λz=>by rw[n.2 a z]at E;cases E
    have ln:((ns.map (G.ct (c+1)).2).zip p).length<1000:=by
     have:=l.1;rw[Yo]at this ⊢;rw[Zw];lia
    refine⟨a,_,O,_,rfl,Ta,F.cl c,F.no c,ln,?_⟩;have ep:=so (g:=(G.ct (c+1)).2) (k:=k) (v:=y) (Jq (c+1)) A J5 l.2;rw[F.nm c]at ep;rw[ep];have off:∀d∈Fs.flatten,d∉S:=λd hb hw=>GV.jj (r.G1 d hb) (n.2 d hw);have g:Chg G H (.ref a) (M i) (.obj (c+1) ((0,.bl b) :: (ns.zip j++[(k,h)]))) (upd Q a (.ins (G.ct (c+1)).1 O (((ns++[k]).map (G.ct (c+1)).2).zip (p++[y])))) (a :: (Fs++[S]).flatten):=by
     rw[eF,show ns.zip j++[(k,h)]=(ns++[k]).zip (j++[h]) from by rw[List.zip_append J5];rfl];refine Chg.upd q Zt u (.ins aw (by simp[A]) hb (((r.same q).off u P.1).append (.cons (ry.keep (Kept.upd (.inl u)) λd hb o ho=>by rw[aC (λz=>na (by rw[← z];exact hb))];exact ho) .nil))) ?_ ?_
     ·rw[Z7];refine Zf.mpr ⟨λm=>?_,ZP.mpr ⟨P.2,by simpa using n.1,λb hb c l z=>?_⟩⟩
      ·rcases ZY.mp m with m | m
       ·exact P.1 m
       ·exact na (by simpa using m)
      ·subst z;exact off b hb (by simpa using l)
     ·intro d hb;rcases Zi.mp hb with rfl | hb
      ·exact .inl Zt
      ·rw[Z7]at hb;rcases ZY.mp hb with hb | hb
       ·exact .inl (Zu _ hb)
       ·exact .inr (n.2 d (by simpa using hb))
    obtain⟨z1,z2⟩:=s.mut w g1 g;exact kq _ J _ z1 z2
   ·cases e
  ·cases e
end
abbrev sO:=List (Nat×T)
def Jb(a:KF):Me:=λk=>if k=0 then Z (.ref a) else L
abbrev Mt:=sO->W5->Option (sO×T)
def Hv:List Bool->Xg->X7
 |b :: bs,F :: a=>(if b then F else [])++Hv bs a
 |_,_=>[]
def Jw:List Bool->Xg->X7
 |b :: bs,F :: a=>(if b then [] else F)++Jw bs a
 |_,_=>[]
theorem gM:∀{mv:List Bool}{e:Xg}{j:Nat}{F:X7},mv[j]?=Z R->e[j]?=Z F->F.Sublist (Hv mv e)
 |[],_,_,_,h,_=>by simp at h
 |_ :: _,[],_,_,_,h=>by simp at h
 |b :: bs,f :: e,0,F,d,a=>by
  simp at d a;subst d a;rw[Hv,Zq Y];exact List.sublist_append_left _ _
 |b :: bs,f :: e,j+1,F,d,a=>by
  rw[Hv];exact(gM (by simpa using d) (by simpa using a)).trans (YU _ _)
theorem qH:∀{mv:List Bool}{e:Xg}{j:Nat}{F:X7},mv[j]?=Z B->e[j]?=Z F->F.Sublist (Jw mv e)
 |[],_,_,_,h,_=>by simp at h
 |_ :: _,[],_,_,_,h=>by simp at h
 |b :: bs,f :: e,0,F,d,a=>by
  simp at d a;subst d a;rw[Jw];exact List.sublist_append_left _ _
 |b :: bs,f :: e,j+1,F,d,a=>by
  rw[Jw];exact(qH (by simpa using d) (by simpa using a)).trans (YU _ _)
theorem vC:∀{mv:List Bool}{d:Xg}{i j:Nat}{F m:X7},(Hv mv d).Nodup->mv[i]?=Z R->mv[j]?=Z R->d[i]?=Z F->d[j]?=Z m->i≠j->∀a∈F,a∉m
 |[],_,_,_,_,_,_,h,_,_,_,_=>by simp at h
 |_ :: _,[],_,_,_,_,_,_,_,h,_,_=>by simp at h
 |b :: bs,q :: d,0,0,F,m,_,_,_,_,_,n=>absurd Y n
 |b :: bs,q :: d,0,j+1,F,m,nd,l,g,f,e,n=>λa o p=>by
  simp at l f;subst l f;rw[Hv,Zq Y,ZP]at nd;exact nd.2.2 a o a ((gM (by simpa using g) (by simpa using e)).subset p) Y
 |b :: bs,q :: d,i+1,0,F,m,nd,l,g,f,e,n=>λa o p=>by
  simp at g e;subst g e;rw[Hv,Zq Y,ZP]at nd;exact nd.2.2 a p a ((gM (by simpa using l) (by simpa using f)).subset o) Y
 |b :: bs,q :: d,i+1,j+1,F,m,nd,l,g,f,e,n=>by
  rw[Hv,ZP]at nd;exact vC nd.2.1 (by simpa using l) (by simpa using g) (by simpa using f) (by simpa using e) (by lia)
theorem vv:∀{mv:List Bool}{d:Xg}{a:KF},a∈Hv mv d->∃(j:Nat)(F:X7),mv[j]?=Z R/\d[j]?=Z F/\a∈F
 |[],_,_,h=>by simp[Hv]at h
 |_ :: _,[],_,h=>by simp[Hv]at h
 |b :: bs,i :: d,a,h=>by
  rw[Hv]at h;rcases ZY.mp h with h | h
  ·cases b with
   |true=>exact⟨0,i,rfl,rfl,h⟩
   |false=>simp at h
  ·obtain⟨j,F,g,f,e⟩:=vv h;exact⟨j+1,F,by simpa using g,by simpa using f,e⟩
def jr(b:Bool)(t:T):W0:=Z (if b then .ow t else .pu t)
def xZ(c:Nat)(U:VS.Env):Option sO:=match (U[(0:Nat)]?:Option (W0)) with
 |some (some (.ow (.obj a ((0,.bl true) :: fs))))=>if a=c+1 then Z fs else L
 |_=>L
noncomputable def Iz(c d f:Nat)(e:List Bool)(body:Sx):Mt:=λfs a=>if a.length+1=d/\e.length=a.length then
 (body ((Z (.ow (.obj (c+1) ((0,.bl R) :: fs))) :: List.zipWith jr e a)++List.replicate (f-d) L)).bind λo=>match o with
  |.rt v U=>(xZ c U).bind λb=>if GR v.2 then Z (b,v.2) else L
  |.nx U=>(xZ c U).map λb=>(b,.non)
  |_=>L else L
noncomputable def JO(G:Gx)(c:Nat)(d:List Bool)(g:Mt):Sp:=λl H Q _=>∃(a:KF)(i:List V)(fs:sO)(f:W5)(F:X7)(e:Xg)(j:sO)(x:T),l=.ref a :: i/\Rp (G.at (Jb a)) H (.ref a) (.obj (c+1) ((0,.bl R) :: fs)) F ∧
 RpL (G.at (Jb a)) H i f e/\d.length=f.length/\(F++Hv d e).Nodup/\(∀b∈F++Hv d e,b∉Jw d e)/\g fs f=Z (j,x) ∧
 ∀u h m,Chg (G.at (Jb a)) H (.ref a) (F++Hv d e) (.obj (c+1) ((0,.bl R) :: j)) h m->Rp (G.at (Jb a)) h u x []->Q u h
section
variable{G:Gx}{H:Hp}
def sU{v:V}{D:List V}{t:T}{d:W5}{F:X7}{f:Xg}{mv:List Bool}(r0:Rp G H v t F)(r:RpL G H D d f)(hm:mv.length=d.length)(s:(F++Hv mv f).Nodup)(S:∀b∈F++Hv mv f,b∉Jw mv f)(n U:Nat)(hn:U=D.length+1) :
  SR G (λi=>(F :: f).getD i []) ((Z (.ow t) :: List.zipWith jr mv d)++List.replicate (n-(d.length+1)) L) ((v :: D).map Z++List.replicate (n-U) L) H ∧
  ∀a,bU (λi=>(F :: f).getD i []) ((Z (.ow t) :: List.zipWith jr mv d)++List.replicate (n-(d.length+1)) L) a->a∈F++Hv mv f:=by
 subst hn;have hl:=r.len;have J:(List.zipWith jr mv d).length=d.length:=by rw[List.length_zipWith,hm,Nat.min_self]
 have back:∀{i:Nat}{c:Cell},((Z (Cell.ow t) :: List.zipWith jr mv d)++List.replicate (n-(d.length+1)) L)[i]?=Z (Z c)->(i=0/\c=.ow t)\/∃(j:Nat)(b:Bool)(u:T),i=j+1/\mv[j]?=Z b/\d[j]?=Z u/\c=(if b then .ow u else .pu u):=λ{i c} h=>by
  cases i with
  |zero=>exact .inl ⟨rfl,(Zn (Zn h)).symm⟩
  |succ j =>
   rw[XR,List.getElem?_cons_succ]at h;by_cases E:j<d.length
   ·rw[ZA (by rw[J];exact E),List.getElem?_zipWith]at h;have e1:mv[j]?=Z mv[j]:=Zr (by rw[hm];exact E);have e2:d[j]?=Z d[j]:=Zr E;rw[e1,e2]at h;exact .inr ⟨j,_,_,rfl,e1,e2,(Zn (Zn h)).symm⟩
   ·rw[Yx (by rw[J];exact ZQ E),Yd]at h;split at h<;>cases h
 have fp:∀{j:Nat}{u:T},d[j]?=Z u->∃w q,D[j]?=Z w/\f[j]?=Z q/\Rp G H w u q:=λ{j u} h=>r.get j h;have ow:∀{i:Nat}{u:T},((Z (Cell.ow t) :: List.zipWith jr mv d)++List.replicate (n-(d.length+1)) L)[i]?=Z (Z (.ow u))->i=0\/∃j:Nat,i=j+1/\mv[j]?=Z R/\d[j]?=Z u:=λ{i u} h=>by
  rcases back h with⟨o,g⟩ | ⟨j,b,Q,o,g,m,x⟩
  ·exact .inl o
  ·cases b with
   |true=>cases x;exact .inr ⟨j,o,g,m⟩
   |false=>cases x
 rw[ZP]at s;refine⟨⟨?_,λi c h=>?_,λi u h=>?_,λi j u c o g n=>?_⟩,λa ⟨i,u,o,g⟩=>?_⟩
 ·simp[J];lia
 ·rcases back h with⟨rfl,rfl⟩ | ⟨j,b,u,rfl,g,m,x⟩
  ·exact⟨v,rfl,r0⟩
  ·obtain⟨w,q,y,e,A⟩:=fp m;refine⟨w,?_,?_⟩
   ·rw[Zo,XR,List.getElem?_cons_succ,ZA (by rw[Zw];exact(Zh.mp y).1),ZS,y];rfl
   ·show Rp G H w (i4 c) ((F :: f).getD (j+1) []);rw[YN,Zs,e,x];cases b<;>exact A
 ·rcases ow h with rfl | ⟨j,rfl,g,m⟩
  ·exact s.1
  ·obtain⟨w,q,y,e,A⟩:=fp m;show ((F :: f).getD (j+1) []).Nodup;rw[YN,Zs,e];exact s.2.1.sublist (gM g e)
 ·rcases ow o with rfl | ⟨X,rfl,P,a3⟩
  ·rcases back g with⟨rfl,_⟩ | ⟨N,b,Q,rfl,C,O,_⟩
   ·exact absurd Y n
   ·obtain⟨w,q,y,e,A⟩:=fp O;intro a l;show a∉(F :: f).getD (N+1) [];rw[YN,Zs,e];intro p;cases b with
    |true=>exact s.2.2 a l a ((gM C e).subset p) Y
    |false=>exact S a (Yi _ l) ((qH C e).subset p)
  ·obtain⟨w,Fi,y,e,A⟩:=fp a3;have ei:(F :: f).getD (X+1) []=Fi:=by rw[YN,Zs,e];rfl
   show ∀a∈(F :: f).getD (X+1) [],_;rw[ei];rcases back g with⟨rfl,_⟩ | ⟨N,b,Q,rfl,C,O,_⟩
   ·exact λa l p=>s.2.2 a p a ((gM P e).subset l) Y
   ·obtain⟨w',q,k1,M,k3⟩:=fp O;intro a l;show a∉(F :: f).getD (N+1) [];rw[YN,Zs,M];intro p;cases b with
    |true=>exact vC s.2.1 P C e M (λz=>n (by rw[z])) a l p
    |false=>exact S a (ZK _ ((gM P e).subset l)) ((qH C M).subset p)
 ·rcases ow o with rfl | ⟨j,rfl,m,x⟩
  ·exact Yi _ g
  ·obtain⟨w,q,y,e,A⟩:=fp x;have Iv:a∈(F :: f).getD (j+1) []:=g;rw[YN,Zs,e]at Iv;exact ZK _ ((gM m e).subset Iv)
def zG{c:Nat}{U:VS.Env}{a:sO}(h:xZ c U=Z a):U[0]?=Z (Z (.ow (.obj (c+1) ((0,.bl R) :: a)))):=by
 unfold xZ at h;split at h
 ·rename_i d f e;split at h
  ·rename_i b;cases h;rw[e,b]
  ·cases h
 ·cases h
end
section
variable{G:Gx}{P:P3}{w:SZ}{K:Xd}{mg:X6}{base:SL}
def Fb{d:Str}{x:Stmt}{f:KF}{fd:Pv}{N U:List Str}{k np J c:Nat}{X:List Bool}{l:Sx}(ok:∀{sp:Sp},(∀j H Q E,sp j H Q E->j.length=U.length)->(∀(p:KM)(A:Re)(outer:List PySem.Env)(s:GM)(H:Hp)(j:List V)(Q:VK)(E:XK),p0 k (A.deeper (envOfC d (ai x) s.heap.objs.size f p))->sp j H Q E →
   ∃t,IE (iR Hi P w K mg base N d (ai x) f p A outer s H E).Jm (aU x) t/\t { nx:=λ_ g=>Q .non g,rt:=Q } (L2.start N j) H)->FnOk P w K mg base Hi (k+1) f fd U sp)(hp:U.length=np)(hn:N.length=J)(hb:∀(a:KF)(p:KM)(A:Re)(outer:List PySem.Env)(s:GM)(H:Hp)(E:XK),p0 k (A.deeper (envOfC d (ai x) s.heap.objs.size f p))->gF (G.at (Jb a)) (iR Hi P w K mg base N d (ai x) f p A outer s H E).Jm (aU x) l) :
  FnOk P w K mg base Hi (k+1) f fd U (JO G c X (Iz c np J X l)):=by
 refine ok (λj H Q E h=>?_) λp A outer s H j Q E hr h=>?_
 ·obtain⟨a,D,fs,ts,F,Fs,HY,y,rfl,r0,r,hm,nd,sp,e,q⟩:=h;unfold Iz at e;split at e
  ·rename_i hl;rw[Zl,r.len.1,hl.1,hp]
  ·cases e
 ·obtain⟨a,D,fs,ts,F,Fs,HY,y,rfl,r0,r,hm,nd,sp,e,q⟩:=h;refine⟨_,hb a p A outer s H E hr,?_⟩;unfold Iz at e;split at e
  ·rename_i hl;obtain⟨o,e1,e2⟩:=Zz.mp e;obtain⟨s0,J0⟩:=sU r0 r hm nd sp J (D.length+1) Y;rw[hl.1]at s0 J0;have e3:L2.start N (V.ref a :: D)=(V.ref a :: D).map Z++List.replicate (J-(D.length+1)) L:=by
    unfold L2.start;rw[hn];rfl
   rw[e3];have fin:∀{m:VS.Env}{n:GU}{J':L2.St}{g:Hp},xZ c m=Z HY->SR (G.at (Jb a)) n m J' g->GX (λi=>(F :: Fs).getD i []) ((Z (.ow (.obj (c+1) ((0,.bl R) :: fs))) :: List.zipWith jr X ts)++List.replicate (J-np) L) H n m g →
     Chg (G.at (Jb a)) H (.ref a) (F++Hv X Fs) (.obj (c+1) ((0,.bl R) :: HY)) g (n 0):=λ{m n J' g} Vf C fr=>by
    have h0:=zG Vf;obtain⟨v',g1,g2⟩:=C.rp 0 _ h0;have L5:Rp (G.at (Jb a)) g v' (.obj (c+1) ((0,.bl R) :: HY)) (n 0):=g2;obtain⟨c',a',dx,b,ns,j,HG,Iq,ec,rfl,eb,_,eF,hA,hl',S,ra⟩:=dn L5;have Kc:b=R:=by cases eb;rfl
    have ea:Z (V.ref a)=Z (V.ref a'):=S Kc;cases ea;refine⟨fr.kept,λO o' S ho=>(fr.keep O o' ho λz=>S (J0 O z)).1,fr.G1,L5,C.nd 0 _ h0,λO S=>?_⟩;rcases fr.ow O ⟨0,_,h0,S⟩ with z | z
    ·exact .inl (J0 O z)
    ·exact .inr z
   refine⟨_,_,o,s0,e1,?_⟩;cases o with
   |nx m =>
    obtain⟨VL,e4,M⟩:=Zy.mp e2;cases M;intro n J' g C fr;exact q .non g _ (fin e4 C fr) .non
   |rt v m =>
    obtain⟨VL,e4,M⟩:=Zz.mp e2;split at M
    ·rename_i hi;cases M;intro u g F' n J' C fr r' rf;have:=r'.GR hi;subst this;exact q u g _ (fin e4 C fr) r'
    ·cases M
   |bk m=>cases e2
   |ct m=>cases e2
  ·cases e
def Te{x d:Str}{g:Stmt}{f:KF}{n:Pv}{N h:List Str}{k i j c:Nat}{m:List Bool}{e:Sx}(F:GW K x d g f n)(S:gV N h (ai g))(p:h.length=i)(q:N.length=j)(r:∀(a:KF)(o:KM)(A:Re)(outer:List PySem.Env)(s:GM)(H:Hp)(E:XK),p0 k (A.deeper (envOfC d (ai g) s.heap.objs.size f o))->gF (G.at (Jb a)) (iR Hi P w K mg base N d (ai g) f o A outer s H E).Jm (aU g) e) :
  FnOk P w K mg base Hi (k+1) f n h (JO G c m (Iz c i j m e)):=Fb (λl b=>F.ok S l b) p q r
structure Kg(K:Xd)(x qual:Str)(st:Stmt)(f:KF)(fd:Pv):Prop where
 ex:∃(T:KF)(oc:KM)(od:Option KF)(kV doc pm:KM)(an:Option KF)(GS ct:KM)(Jx:Array (We))(o:Obj)(n:Nat),
  fd=PySem.W.fnOf x qual (cR st) (aU st) (ai st) (.ref T) kV doc pm an GS ct/\K.lookup f=some ⟨oc,od,.func fd,Jx⟩/\PySem.W.codeIn K GS qual=true/\K.lookup T=some o/\o.data=.seq #[.none] n
 kp:PySem.W.keepIn K (.ref f)=true
def Kg.ok{x a:Str}{d:Stmt}{f:KF}{m:Pv}{N i:List Str}{k:Nat}{g:Sp}(F:Kg K x a d f m)(S:gV N i (ai d))(j:∀b H Q E,g b H Q E->b.length=i.length)(u:∀(e:KM)(A:Re)(outer:List PySem.Env)(s:GM)(H:Hp)(b:List V)(Q:VK)(E:XK),p0 k (A.deeper (envOfC a (ai d) s.heap.objs.size f e))->g b H Q E →
   ∃t,IE (iR Hi P w K mg base N a (ai d) f e A outer s H E).Jm (aU d) t/\t { nx:=λ_ v=>Q .non v,rt:=Q } (L2.start N b) H):FnOk P w K mg base Hi (k+1) f m i g:=by
 obtain⟨T,oc,y,kV,doc,pm,an,e,ct,z,o,n,rfl,lk,l,_⟩:=F.ex;refine Ci lk l S j λA outer s H b Q E p r=>?_;obtain⟨t,h,q⟩:=u e A outer s H b Q E p r;exact⟨t,h.Jm,q⟩
def Kg.binds{x a:Str}{d:Stmt}{f:KF}{j:Pv}{e:List Str}(F:Kg K x a d f j)(h:∀(s:GM)(T:KF)(kV doc pm:KM)(an:Option KF)(g ct:KM)(o:Obj)(n:Nat)(b:Wf),K.In s.heap->K.lookup T=Z o->o.data=.seq #[.none] n->b.length=e.length->BindsTo s (PySem.W.fnOf x a (cR d) (aU d) (ai d) (.ref T) kV doc pm an g ct) ⟨b,[]⟩ (e.zip b)):Binds K j e []:=by
 obtain⟨T,oc,q,kV,doc,pm,an,g,ct,r,o,n,rfl,lk,p,m,l⟩:=F.ex;intro s b X i;rw[Zg]at i ⊢;exact h s T kV doc pm an g ct o n b X m l i
end
def argsOk:List Bool->W3->Bool
 |[],[]=>R
 |b :: bs,v :: a=>(if b then v.1 == .fr else GR v.2)&&argsOk bs a
 |_,_=>B
def lQ(c:Nat)(e:List Bool)(g:Mt)(a:W3):T->Option (T×Val)
 |.obj d ((0,.bl b) :: fs)=>if d=c+1/\dE fs=R/\argsOk e a=R/\bc (trees a)=R then (g fs (trees a)).bind λz=>if dE z.1=R/\GR z.2=R then Z (.obj d ((0,.bl b) :: z.1),(.fr,z.2)) else L else L
 |_=>L
noncomputable def bG(i:Nat)(a:List Jg)(c:Nat)(d:List Bool)(g:Mt)(f:Hf)(U:VS.Env):Option (Val×VS.Env):=match (U[i]?:Option (W0)) with
 |some (some (.ow t))=>(keys a U).bind λe=>(f U).bind λb=>(pm (lQ c d g b) e t).map λz=>(z.2,U.set i (Z (.ow z.1)))
 |_=>L
def tX(G:Gx)(x:Xx):TE:=λJ H Q=>∃M U v b,SR G M U J H/\x U=Z (v,b)/\GR v.2=R/\∀u a d,SR G d b J a->GX M U H d b a->Rp G a u v.2 []->Q u a
def PX(G:Gx)(X:Cx)(e:Expr)(x:Xx):Prop:=PE X e (tX G x)
theorem jR:∀{mv:List Bool}{a:W3},argsOk mv a=R->mv.length=a.length
 |[],[],_=>rfl
 |[],_ :: _,h=>by simp[argsOk]at h
 |_ :: _,[],h=>by simp[argsOk]at h
 |b :: bs,v :: d,h=>by
  rw[argsOk,Zd]at h;rw[Zl,Zl,jR h.2]
theorem nc:∀{mv:List Bool}{d:W3}{Fs:Xg},argsOk mv d=R->(Hv mv Fs).Sublist (HR d Fs)
 |[],[],_,_=>by simp[Hv]
 |[],_ :: _,_,h=>by simp[argsOk]at h
 |_ :: _,[],_,h=>by simp[argsOk]at h
 |b :: bs,v :: e,[],h=>by simp[Hv]
 |b :: bs,(m,t) :: e,F :: Fs,h=>by
  rw[argsOk,Zd]at h;have a:=nc (Fs:=Fs) h.2;rw[Hv];cases b with
  |true =>
   have:m=.fr:=by simpa using h.1
   subst this;exact List.Sublist.append (Xr _) a
  |false =>
   rw[Zp Za,Yc];cases m with
   |fr=>exact a.trans (YU _ _)
   |pu=>exact a
   |bo=>exact a
theorem pF{G:Gx}{H:Hp}:∀{mv:List Bool}{a:W3}{e:List V}{d:Xg},argsOk mv a=R->RpL G H e (trees a) d->Jw mv d=[]
 |[],[],_,_,_,_=>by simp[Jw]
 |[],_ :: _,_,_,h,_=>by simp[argsOk]at h
 |_ :: _,[],_,_,h,_=>by simp[argsOk]at h
 |b :: bs,(m,t) :: g,_,_,h,r=>by
  rw[argsOk,Zd]at h;cases r with
  |cons f q =>
   rw[Jw,pF h.2 q,Zg];cases b with
   |true=>rfl
   |false=>exact f.GR (by simpa using h.1)
def vJ{M:GU}{U:VS.Env}{H:Hp}{e:List Bool}{d:W3}{m:Xg}(h:argsOk e d=R)(f:Lf M U H d m):∀a∈Hv e m,H a=L:=λa o=>by
 obtain⟨j,F,g,q,p⟩:=vv o;have key:∀{e:List Bool}{d:W3}{j:Nat},argsOk e d=R->e[j]?=Z R->∃v,d[j]?=Z v/\v.1=.fr:=by
  intro e
  induction e with
  |nil=>intro d j _ h;simp at h
  |cons b bs n =>
   intro d j h g;cases d with
   |nil=>simp[argsOk]at h
   |cons v r =>
    rw[argsOk,Zd]at h;cases j with
    |zero =>
     simp at g;subst g;exact⟨v,rfl,by simpa using h.1⟩
    |succ j =>
     obtain⟨w,l,i⟩:=n h.2 (by simpa using g);exact⟨w,by simpa using l,i⟩
 obtain⟨v,l,i⟩:=key h g;have:=f.each j v F l q;rw[i]at this;exact this.2 a p
section
variable{G:Gx}{X:Cx}{CX:Ks}{i c k k':Nat}{way:List Jg}{o e:Expr}{es:List Expr}{cs:Hf}{m:Str}{f:KF}{fd:Pv}{ps:List Str}{mv:List Bool}{g:Mt}{apos pos:Pos}
def qT{J:L2.St}{H:Hp}{Q:VK}{E:XK}{t:TA}(Jq:jT G)(hn:∀k,(G.ct (c+1)).2 k≠m)(ht:∀M U p J H (R:List V->Hp->Prop),SR G M U J H->cs U=Z p->(∀d l P,aG H l->RpL G l d (trees p) P->Lf M U H p P->R d l)->t J H R)(h:tX G (bG i way c mv g cs) J H Q):vk (G.ct (c+1)).1 m (JO G c mv g) [] E (OS G i way) t J H Q:=by
 obtain⟨M,U,v,U',s,e,Kn,kq⟩:=h;unfold bG at e;split at e
 ·rename_i t0 N;obtain⟨ks,ek,e3⟩:=Zz.mp e;obtain⟨p,el,e4⟩:=Zz.mp e3;obtain⟨⟨t',x2⟩,e5,e6⟩:=Zy.mp e4;cases e6;obtain⟨v0,h1,h2⟩:=s.rp _ _ N;obtain⟨w,x,F1,x3,w1,w2,w3,q,w5⟩:=nJ ks Jq h2 (s.nd i t0 N) e5;unfold lQ at q;split at q
  ·rename_i c1 b fs;split at q
   ·rename_i hc;obtain⟨rfl,KP,O,MN⟩:=hc;obtain⟨⟨HY,y⟩,eg,e7⟩:=Zz.mp q;split at e7
    ·rename_i KO;cases e7;obtain⟨c',a,dx,b',ns,d,S,P,ec,rfl,eb,rfl,eF,hA,hl,hb,ra⟩:=dn w2;cases ec;cases eb;have J5:ns.length=S.length:=hl.trans ra.len.1;refine⟨M,U,t0,ks,v0,.ref a,s,N,h1,ek,w1,λH1 F=>⟨a,dx,_,rfl,F a _ hA,?_,?_⟩⟩
     ·have key:∀(ns:Wc)(d:List V),((ns.map (G.ct (c+1)).2).zip d).lookup m=L:=by
       intro ns
       induction ns with
       |nil=>intro d;simp
       |cons n ns ih =>
        intro d;cases d with
        |nil=>simp
        |cons v d =>
         rw[Zo,ZX,Ys];have:(m==(G.ct (c+1)).2 n)=B:=by
          rw[ZL];exact λz=>hn n z.symm
         rw[this];exact ih d
      exact key ns d
     ·refine ht M U p J H1 _ (s.same F) el λus H2 Gs Hu Nf MR=>?_;have A:aG H H2:=F.trans Hu;have VM:Lf M U H p Gs:=⟨λn v' D a1 a2=>(MR.each n v' D a1 a2).back F,MR.nd⟩
      have Ms:=vJ O VM;have OW:RpL (G.at (Jb a)) H2 d S P:=(ra.same A).at (Jb a) (dS J5 KP);refine⟨a,us,ns.zip S,trees p,F1,Gs,HY,y,by rw[Zg],?_,Nf.at (Jb a) MN,?_,?_,?_,eg,λu l D r ru=>?_⟩
      ·rw[eF];exact .ins (A a _ hA) hl (λ_=>rfl) OW
      ·rw[jR O];simp[trees]
      ·refine ZP.mpr ⟨w3,MR.nd.sublist (nc O),λj C b2 L4 z=>?_⟩;subst z;exact GV.jj (w2.G1 j C) (Ms j L4)
      ·rw[pF O Nf];exact λj _ z=>nomatch z
      ·have back:Rp G l (.ref a) (.obj (c+1) ((0,.bl b) :: HY)) D:=by
        obtain⟨c2,a2,RX,b2,NR,Pz,NC,R7,LH,MT,Pk,Os,MU,MP,Ie,L4,Jv⟩:=dn r.rp;cases LH;cases MT;subst Os;rw[MU];exact .ins MP Ie hb (Jv.at G.me (dS (Ie.trans Jv.len.1) KO.1))
       have gG:Chg G H (.ref a) F1 (.obj (c+1) ((0,.bl b) :: HY)) l D:=⟨(Kept.of A).trans r.kept,λj o1 C Y=>r.keep j o1 (λz=>(ZY.mp z).elim C λz=>by rw[Ms j z]at Y;cases Y) (A j o1 Y),λj h=>r.G1 j λz=>h (A.free z),back,r.nd,λj C=>by
        rcases r.sub j C with z | z
        ·rcases ZY.mp z with z | z
         ·exact .inl z
         ·exact .inr (Ms j z)
        ·exact .inr (A.free z)⟩
       obtain⟨F2,g2⟩:=w5 l D gG;obtain⟨z1,z2⟩:=s.mut N h1 g2;exact kq u l _ z1 z2 (ru.at G.me (lN y KO.2))
    ·cases e7
   ·cases q
  ·cases q
 ·cases e
def BH{j:Sem Bool}(z:jT G)(q:∀k,(G.ct (c+1)).2 k≠m)(p:Ju G X o i way)(v:HZ X.K (G.ct (c+1)).1)(r:Meth X.K (G.ct (c+1)).1 m f)(F:FnOk X.prog X.w X.K X.mg X.base Hi k f fd ps (JO G c mv g))(n:p0 k' X.A)(u:k<=k')(x:Binds X.K fd ps [])(y:HM G X (e :: es) cs)(C:K1 e es X)(a:K2 pos es X)(l:eval (.Call (.Attribute o m apos) (e :: es) [] pos) X.env=(do
   let b ← eval o X.env
   standAt apos.atName
   let (f,first) ← holding [b] (getMethod b m j)
   callWith pos f first (backTo pos (Pi (e :: es) X.env)) (backToKw pos (SB [] X.env)))):PX G X (.Call (.Attribute o m apos) (e :: es) [] pos) (bG i way c mv g cs) :=
 PE.weak (pR (E:=E0) p v r F (n.mono u) x .nil g9 y C a l) λJ H Q h=>qT (t:=Nd G cs) z q (λM U d J H R s e k=>⟨M,U,d,s,e,k⟩) h
def zq{d:Sem Bool}(y:jT G)(p:∀k,(G.ct (c+1)).2 k≠m)(n:Ju G X o i way)(u:HZ X.K (G.ct (c+1)).1)(q:Meth X.K (G.ct (c+1)).1 m f)(F:FnOk X.prog X.w X.K X.mg X.base Hi k f fd ps (JO G c mv g))(l:p0 k' X.A)(r:k<=k')(x:Binds X.K fd ps [])(j:eval (.Call (.Attribute o m apos) [] [] pos) X.env=(do
   let a ← eval o X.env
   standAt apos.atName
   let (f,first) ← holding [a] (getMethod a m d)
   callWith pos f first (backTo pos (Pi [] X.env)) (backToKw pos (SB [] X.env)))):PX G X (.Call (.Attribute o m apos) [] [] pos) (bG i way c mv g ah) :=
 PE.weak (nB (E:=E0) n u q F (l.mono r) x .nil g9 j) λJ H Q h=>qT (t:=tY) y p (λM U b J H R s e k=>by
  cases (show Z ([]:W3)=Z b from e);exact k [] H [] (aG.refl _) .nil ⟨λi v F h=>by simp at h,by simp[HR]⟩) h
def NG(x:Xx):Sx:=λU=>(x U).bind λz=>if GR z.1.2 then Z (.nx z.2) else L
def cw(j:Nat)(x:Xx):Sx:=λU=>(x U).bind λz=>if GR z.1.2=R/\j<z.2.length then Z (.nx (z.2.set j (Z (.pu z.1.2)))) else L
def kB(x:Xx):Sx:=λU=>(x U).bind λz=>if GR z.1.2 then Z (.rt (.fr,z.1.2) z.2) else L
variable{x:Xx}
def rz(h:PX G X e x)(n:swapsWith e L pos.line X.env=pure B):PSV G X (.Expr e pos) (NG x) :=
 PS.weak (kM h n) λD J H b=>by
  obtain⟨M,U,out,s,e,k⟩:=b;unfold NG at e;obtain⟨⟨v,j⟩,e1,e2⟩:=Zz.mp e;split at e2
  ·rename_i d;cases e2;exact⟨M,U,v,j,s,e1,d,λu p l a f r=>k l J p a f⟩
  ·cases e2
def vt(h:PX G X e x):PSV G X (.Return (Z e) pos) (kB x) :=
 PS.weak (qD h) λD J H d=>by
  obtain⟨M,U,out,s,e,k⟩:=d;unfold kB at e;obtain⟨⟨v,l⟩,e1,e2⟩:=Zz.mp e;split at e2
  ·rename_i j;cases e2;exact⟨M,U,v,l,s,e1,j,λu p n b f r=>k u p [] n J b f r ⟨Z5,λa h=>nomatch h⟩⟩
  ·cases e2
def cu{j:Nat}{d:Str}{b:Pos}(h:PX G X e x)(C:X.N.Nodup)(l:X.N[j]?=Z d)(w:Loc X.env.scope d)(y:swapsWith e (Z (.Name d b)) pos.line X.env=pure B:=by exact rfl)(A:X.fn d=R\/X.env.scope.names.lookup d=Z .local:=by exact .inl Y) :
  PSV G X (.Assign [.Name d b] e pos) (cw j x) :=
 PS.weak (pI C l w h y A) λD J H z=>by
  obtain⟨M,U,out,s,e,k⟩:=z;unfold cw at e;obtain⟨⟨v,E⟩,e1,e2⟩:=Zz.mp e;split at e2
  ·rename_i l;cases e2;refine⟨M,U,v,E,s,e1,l.1,λu n F p f r=>?_⟩;obtain⟨t,q⟩:=p.val (c:=.pu v.2) (m:=.fr) l.2 (aG.refl n) r ⟨Z5,λa h=>nomatch h⟩ (.inl ⟨rfl,by decide⟩);exact k _ _ n t (f.trans q)
  ·cases e2
noncomputable def ji(i:Nat)(a:List Jg)(k:Ex)(x:Xx):Sx:=λU=>(x U).bind λz=>if GR z.1.2 then dG i a k (λ_=>Z (.fr,z.1.2)) z.2 else L
def yb{M:GU}{U:VS.Env}{J:L2.St}{H H1:Hp}{t t':T}{ks:List Ky}{mk mv:Md}{p d:T}{y':Unit}{xv:V}{N:X7}{ck:Ex}{D:L2.St->Hp->Prop}(Jq:jT G)(s:SR G M U J H)(ht:U[i]?=Z (Z (.ow t)))(ek:keys way U=Z ks)(LG:ck U=Z (mk,p))(e5:pm (j3 (mk,p) (mv,d)) ks t=Z (t',y'))(Il:aG H H1)(rv:Rp G H1 xv d N)(fv:Fp M U H mv N)(k:∀M' H',SR G M' (U.set i (Z (.ow t'))) J H'->GX M U H M' (U.set i (Z (.ow t'))) H'->D J H'):FQ (OS G i way) (tE G ck) BY xv J H1 D:=by
   obtain⟨v,g1,g2⟩:=s.rp _ _ ht;obtain⟨w,x,F1,x3,w1,w2,w3,P,w5⟩:=nJ ks Jq g2 (s.nd i t ht) e5;refine⟨M,U,t,ks,v,w,s.same Il,ht,g1,ek,w1.same Il,λH2 Hu=>⟨M,U,mk,p,(s.same Il).same Hu,LG,λkv q Fk Ir rk fk=>?_⟩⟩;have A:aG H q:=(Il.trans Hu).trans Ir;have K8:Rp G q xv d N:=(rv.same Hu).same Ir;have fin:∀S O,Chg G H w F1 x3 S O->D J S:=λS O g=>by
    obtain⟨F2,L5⟩:=w5 S O g;obtain⟨z1,z2⟩:=s.mut ht g1 L5;exact k _ S z1 z2
   refine L2.kD λP_ k_=>?_;cases x with
   |lst l =>
    cases p with
    |int n =>
     obtain⟨tt,et,e7⟩:=Zz.mp (show ((fit (mv,d)).bind λt=>(HI l.length n).map λj=>(T.lst (l.set j t),()))=Z (x3,y') from P);obtain⟨j,ej,e8⟩:=Zy.mp e7;cases e8;have em:=mE et;cases em;obtain⟨a,y,Fs,rfl,rfl,Y,C⟩:=w2.lst_inv;have Q:q a=Z (.lst y):=A a _ Y;have nd:=Zf.mp w3;have na:a∉N:=λz=>by rw[fv.2 a z]at Y;cases Y
     have E:GV (q a):=by rw[Q];exact True.intro
     have off:∀b∈Fs.flatten,b∉N:=λb hb hv=>GV.jj (C.G1 b hb) (fv.2 b hv);refine k_ ?_;refine .inl ⟨a,y,n,j,rfl,rk.int_inv,Q,by rw[← tq,C.len.1];exact ej,fin _ (a :: (Fs.set j N).flatten) ?_⟩;have keep:∀{u:V}{x:T}{F:X7},Rp G q u x F->a∉F->Rp G (upd q a (.lst (y.set j xv))) u x F:=λr hn=>r.keep (Kept.upd (.inl E)) λb hb o' Kb=>by rw[aC (λz=>hn (by rw[← z];exact hb))];exact Kb
     refine Chg.upd A Zt E (.lst aw ((((C.same A).off E nd.1)).putAt j (keep K8 na))) ?_ ?_
     ·rw[Zf];refine⟨λh=>?_,eD nd.2 fv.1 λi' O _ hi b hb=>off b (dw hi hb)⟩;rcases cS h with z | ⟨i',O,_,h1,h2⟩
      ·exact na z
      ·exact nd.1 (dw h1 h2)
     ·intro b hb;rcases Zi.mp hb with rfl | hb
      ·exact .inl Zt
      ·rcases cS hb with z | ⟨i',O,_,h1,h2⟩
       ·exact .inr (fv.2 b z)
       ·exact .inl (Zu _ (dw h1 h2))
    |_=>cases P
   |dct kd l =>
    cases kd with
    |zero =>
     have hc:(iU p=R/\GR d=R/\l.length<eY)/\x3=.dct 0 (dput l p d):=by
      have Mj:(if iU p/\GR d/\l.length<eY then Z (T.dct 0 (dput l p d),()) else L)=Z (x3,y'):=P;split at Mj
      ·rename_i hc;cases Mj;exact⟨hc,rfl⟩
      ·cases Mj
     obtain⟨⟨c1,c2,c3⟩,rfl⟩:=hc;have eF:=K8.GR c2;subst eF;obtain⟨a,ns,y,ts,Fs,rfl,rfl,Y,hl,rfl,C⟩:=fj w2;obtain⟨kk,rfl,KY⟩:=dR rk c1;subst KY;have Q:q a=Z (.dK (ns.zip y)):=A a _ Y;have E:GV (q a):=by rw[Q];exact True.intro
     have nd:=Zf.mp w3;obtain⟨My,IG,HG,Iq,q1,q2,q3,q4,q5⟩:=qg (kk:=kk) K8 hl (C.same A);have ln:(ns.zip y).length<sizeLine:=by
      have:((ns.map aR).zip ts).length<16777216:=c3;rw[Yo,Zw]at this;rw[Yo];have:=C.len.1;have:(KB:Nat)=16777216:=rfl;lia
     refine k_ ?_;refine .inr ⟨a,_,rfl,uf.k Q ln,fin _ (a :: Iq.flatten) ?_⟩;rw[q1,q3];refine Chg.upd A Zt E (.dct aw q2 (q4.off E λz=>nd.1 (q5.subset z))) ?_ ?_
     ·exact Zf.mpr ⟨λz=>nd.1 (q5.subset z),nd.2.sublist q5⟩
     ·intro b hb;rcases Zi.mp hb with rfl | hb
      ·exact .inl Zt
      ·exact .inl (Zu _ (q5.subset hb))
    |succ n=>cases P
   |_=>cases P
def qq{w:Nat}{b:Expr}{l:Ex}{d:Pos}(Jq:jT G)(C:p0 w X.A)(F:Ju G X o i way)(N:PV G X b l)(P:PX G X e x)(Q:∀v,assign (.Subscript o b d) X.env v=(do
   let j ← holding [v] (eval o X.env)
   let iv ← holding [v,j] (eval b X.env)
   standAt d
   holding [v,j,iv] (setItem j iv v)
   release [v,j,iv] []))(z:swapsWithSole [.Subscript o b d] e pos.line X.env=pure B)(hw:swappedStores [.Subscript o b d] e X.env=pure L)(S:(assignEach [.Subscript o b d] X.env).map (·.2)=[assign (.Subscript o b d) X.env]):PSV G X (.Assign [.Subscript o b d] e pos) (ji i way l x) :=
 PS.weak (t9 P (uk F N (yh (ke C)) Q) z hw S) λD J H E=>by
  obtain⟨M,U,out,s,e,k⟩:=E;unfold ji at e;obtain⟨⟨v,U'⟩,e1,e2⟩:=Zz.mp e;split at e2
  ·rename_i O;refine⟨M,U,v,U',s,e1,O,λu H' M' q f r=>?_⟩;unfold dG at e2;obtain⟨⟨mv,tv⟩,ev,e2⟩:=Zz.mp e2;cases ev;split at e2
   ·rename_i t y;obtain⟨ks,Y,e2⟩:=Zz.mp e2;obtain⟨⟨mk,tk⟩,LG,e2⟩:=Zz.mp e2;obtain⟨⟨t',y'⟩,e5,e6⟩:=Zy.mp e2;cases e6;exact yb Jq q y Y LG e5 (aG.refl H') r (mv:=.fr) ⟨Z5,λa h=>nomatch h⟩ λM2 H2 p n=>k _ J H2 p (f.trans n)
   ·cases e2
  ·cases e2
end
end VS
end
section
namespace L2
open PySem PySem.Spec PyProof.Rows
def uu{X:Cx}:dX X (.type "dict") (λf H Q=>∃(d:KF)(a:List (Key×V)),f=[.ref d]/\H d=Z (.dK a)/\∀l,H l=L->Q (.ref l) (upd H l (.dK a))):=by
 intro g s J H f w Q I m h;obtain⟨d,a,rfl,hd,q⟩:=h;obtain⟨u,rfl,n⟩:=m.one;cases n;obtain⟨i,t,v,rel,p⟩:=sj I.GO hd;refine PySem.kt_call_dict t p (by rw[← Xv rel];exact i) λx r j=>?_;exact⟨.ref s.heap.objs.size,_,I.laid (t':=s.toks) (λb o e=>(j.2 b (ZW (ZM e))).trans (Zk _ e)) (Zm _) (qk i (ZL.mpr (Ya (ZW I.big))) rel r),rfl,q _ (I.GO.fresh (Zm _))⟩
end L2
namespace VS
open PySem PySem.Spec PyProof.Rows L2
def lF:W3->W4
 |[(_,.dct 0 l)]=>if d6 (l.map (·.2))=R then Z (.fr,.dct 0 l) else L
 |_=>L
section
variable{G:Gx}{X:Cx}{a b e o:Expr}{ca cb ce:Ex}{cs:Hf}{p pos oe apos:Pos}{k kr:Nat}
def zC:fP G (λs H Q=>∃(d:KF)(n:List (Key×V)),s=[.ref d]/\H d=Z (.dK n)/\∀l,H l=L->Q (.ref l) (upd H l (.dK n))) lF:=by
 intro M U N H l u D m t Q A e k;unfold lF at e;split at e
 ·rename_i J x;split at e
  ·rename_i j;cases e;obtain⟨v,F,rfl,rfl,r⟩:=(show RpL G H u [.dct 0 x] D from A.rp).one;obtain⟨a,ns,w,E,C,rfl,rfl,y,i,rfl,f⟩:=fj r;refine⟨a,_,rfl,y,λq h=>?_⟩;have g:aG H (upd H q (.dK (ns.zip w))):=bD h;rw[List.map_snd_zip (by rw[Zw,i,f.len.1];exact Zm _)]at j;have z:=f.GR j;refine k _ _ (q :: C.flatten) g (.dct aw i (f.same g)) ?_;rw[z];exact Fp.new (A.same.free h) (by simp) Fp.nil
  ·cases e
 ·cases e
def BI(d:X.mg "dict" = L)(g:HM G X [e] cs)(f:Gl X "dict")(he:K1 e [] X):PV G X (.Call (.Name "dict" p) [e] [] pos) (eN lF cs) :=
 jC uu zC f d vh g (he:=he) (hpl:=rfl)
def Ee{i d:Int}{j h:Nat}{q g:Pos}:PV G X (.Dict [Z (.Constant (.int i) j q)] [.Constant (.int d) h g] pos) (r6 0 [(Q2 i,Q2 d)]) :=
 PE.weak (Bb (xm pC pC Br) Y Y (by simp) (by show 1<=15;decide)) λJ H Q l=>by
  obtain⟨M,U,m,r,s,e,k⟩:=l;cases (show Z (Md.fr,T.dct 0 [(.int i,.int d)])=Z (m,r) from e);intro p f;refine⟨aw,[(Sum.inl i,.int d)],rfl,(by show 1<=15;decide),?_⟩;rw[Ai];have:Rp G (upd H p (.dK [(Sum.inl i,V.int d)])) (.ref p) (.dct 0 ((([Sum.inl i]:List Key).map aR).zip [.int d])) (p :: ([[]]:Xg).flatten) :=
   .dct (ks:=[Sum.inl i]) (vs:=[V.int d]) aw Y (.cons (.int d) .nil)
  exact k _ _ _ (bD f) this ⟨by simp,λb hb=>by simp at hb;rw[hb];exact f⟩
def wH(x y:Val):W4:=match x.2 with
 |.dct 0 l=>if iU y.2 then Z (match fI l y.2 with | some t=>sub x.1 t | none=>(.fr,.non)) else none
 |_=>L
def w_get(N:p0 kr X.A)(P:PV G X o ca)(he:PV G X e cb)(G6:UF o "get" X.env (eval o X.env)=eval o X.env)(Hz:((backTo oe (Pi [e] X.env)).all (λx=>!x.1)&&(backToKw oe (SB [] X.env)).all (λx=>x.1.isSome)
   && decide (([e]:List Expr).length+([]:List Keyword).length+(if ([]:List Keyword).isEmpty then 0 else 1)<30))=R)(G4:(apos.endLine==oe.line)=R)(UW:backTo oe (Pi [e] X.env)=[(B,eval e X.env)]):PV G X (.Call (.Attribute o "get" apos) [e] [] oe) (e2 wH ca cb) :=
 PE.weak (yr (ke N) P he ⟨G6,Hz,G4,UW⟩) λJ H Q O=>by
  obtain⟨M,U,m,r,s,e,t⟩:=O;unfold e2 at e;obtain⟨⟨D,x⟩,ea,e⟩:=Zz.mp e;obtain⟨⟨C,y⟩,eb,e⟩:=Zz.mp e;unfold wH at e;split at e
  ·rename_i l u;dsimp only at u;subst u;split at e
   ·rename_i Y;have d:=Zn e;refine⟨M,U,D,_,s,ea,λv H1 F1 n r1 f1=>?_⟩;obtain⟨a,ks,vs,ts,Fs,rfl,rfl,h,S,rfl,q⟩:=fj r1;refine⟨a,rfl,.inl ⟨_,.inl h⟩,M,U,C,y,s.same n,eb,λv2 w F2 g r2 f2=>?_⟩;obtain⟨E,rfl,ek⟩:=dR r2 Y;dsimp only at d;rw[ek]at d;rcases kS (k:=E) S (q.same g) with⟨h1,h2⟩ | ⟨i,v,z,F,a1,a2,a3,a4,j⟩
    ·rw[h1]at d;cases d;refine⟨_,ig.k (g a _ h),?_⟩;rw[h2];exact t .non w [] (n.trans g) .non Fp.nil
    ·rw[a1]at d;refine⟨_,ig.k (g a _ h),?_⟩;rw[a2];have f:=((f1.sub (Yu _ _)).sub (cJ a4)).up j;unfold VS.sub at d;dsimp only at d;rw[d]at f;have et:z=r:=congrArg Prod.snd d;rw[et]at j;exact t v w F (n.trans g) j f
   ·cases e
  ·cases e
def pJ(x y:Val):W4:=match x.2 with
 |.dct 3 l=>if iU y.2 then (fI l y.2).map (sub x.1) else L
 |_=>L
def sR{H:Hp}{v:V}{l:List (T×T)}{F:X7}(r:Rp G H v (.dct 3 l) F):∃(a:KF)(o:Obj)(f:List Key)(d:List V)(g:W5)(j:Xg),v=.ref a/\F=j.flatten/\H a=Z (.frz o (.dK (f.zip d)))/\f.length=d.length/\l=(f.map aR).zip g/\RpL G H d g j:=by
 generalize i:T.dct 3 l=z at r;cases r with
 |dctZ h m q=>cases i;exact⟨_,_,_,_,_,_,rfl,rfl,h,m,rfl,q⟩
 |_=>cases i
def D8:fF G (E7 G.K) pJ:=by
 intro M U H0 H x y u w F1 F2 m t Q d e k;obtain⟨S,x⟩:=x;unfold pJ at e;split at e
 ·rename_i l h;dsimp only at h;subst h;split at e
  ·rename_i r;obtain⟨P,e1,e2⟩:=Zy.mp e;obtain⟨a,o,Y,J,N,Fs,rfl,rfl,s,n,rfl,q⟩:=sR d.r1;obtain⟨g,rfl,A⟩:=dR d.r2 r;rw[A]at e1;rcases kS (k:=g) n q with⟨z,_⟩ | ⟨i,v,O,F,E,D,a3,C,j⟩
   ·rw[z]at e1;cases e1
   ·rw[E]at e1;cases e1;cases e2;refine .inr ⟨a,v,rfl,.inl ⟨_,g,.inr ⟨o,s⟩,rfl,D.symm⟩,?_⟩;have f:=(d.f1.sub (cJ C)).up j;exact k v H F (aG.refl _) j f
  ·cases e
 ·cases e
def B7(f:p0 kr X.A)(i:PV G X a ca)(g:PV G X b cb)(d:gI b)(j:X.K=G.K):PV G X (.Subscript a b pos) (e2 pJ ca cb) :=
 PE.weak (mQ (Ip.or jS (qC (ke f))) i g d) λJ H Q h=>by rw[j];exact lD D8 h
end
def eNew(c:Nat)(g:Mt)(b:Hf):Ex:=λU=>(b U).bind λa=>if bc (trees a)=R then (g [] (trees a)).bind λz=>if dE z.1=R/\MA z.2=R then Z (.fr,.obj (c+1) ((0,.bl B) :: z.1)) else L else L
def dU(c:Nat)(g:Fn)(d:Ex)(b:Hf):Ex:=λU=>(d U).bind λx=>match x.2 with
 |.obj e (_ :: _)=>if e=c+1 then (b U).bind λa=>(g (x.2 :: trees a)).bind λr=>match r.1 with
  |.fr=>Z r
  |_=>L else L
 |_=>L
theorem xy{α:Type}:∀(l:List α)(a:Xg),Hv (l.map λ_=>B) a=[]
 |[],_=>by simp[Hv]
 |_ :: _,[]=>by simp[Hv]
 |_ :: l,F :: a=>by
  rw[Zo,Hv,Zp Za,Yc];exact xy l a
theorem t7:∀(mv:List Bool)(d:Xg),∀a∈Jw mv d,a∈d.flatten
 |[],_,a,h=>by simp[Jw]at h
 |_ :: _,[],a,h=>by simp[Jw]at h
 |b :: bs,F :: d,a,h=>by
  rw[Jw]at h;rw[ZV];rcases ZY.mp h with h | h
  ·cases b with
   |true=>simp at h
   |false=>exact Yi _ (by simpa using h)
  ·exact ZK _ (t7 bs d a h)
section
variable{G:Gx}{X:Cx}{i c k k':Nat}{o e:Expr}{es:List Expr}{cs:Hf}{ca:Ex}{m x:Str}{f:KF}{fd:Pv}{ps:List Str}{g:Mt}{h:Fn}{apos pos p:Pos}
def uI{G:Gx}{H:Hp}{u:V}{t:T}{F:X7}(r:Rp G H u t F)(h:MA t=R):u=.non:=by
 cases r with
 |non=>rfl
 |_=>cases h
def ym{J:L2.St}{H:Hp}{Q:VK}{E:XK}{t:TA}(F:∀n,FnOk X.prog X.w X.K X.mg X.base Hi k f fd ps (JO G c (List.replicate n B) g)->True)(ht:∀M U d J H (R:List V->Hp->Prop),SR G M U J H->cs U=Z d->(∀vs j Fs,aG H j->RpL G j vs (trees d) Fs->Lf M U H d Fs->R vs j)->t J H R)(n:Nat)(hn:∀U d,cs U=Z d->d.length=n)(hq:tE G (eNew c g cs) J H Q):yS (G.ct (c+1)).1 (JO G c (List.replicate n B) g) [] E t J H Q:=by
 obtain⟨M,U,mo,r,s,e,kq⟩:=hq;unfold eNew at e;obtain⟨d,el,e1⟩:=Zz.mp e;split at e1
 ·rename_i MN;obtain⟨⟨HY,y⟩,eg,e2⟩:=Zz.mp e1;split at e2
  ·rename_i S;cases e2;have lx:=hn U d el;refine ht M U d J H _ s el λvs P Gs N NJ Pj a A C Rf ne=>?_;have S9:H a=L:=N.free C;have O:aG P (upd (upd P A (.own a)) a (.ins (G.ct (c+1)).1 A [])):=λb v q=>by
    rw[aC (λz=>by rw[z,C]at q;cases q),aC (λz=>by rw[z,Rf]at q;cases q)];exact q
   have em:List.replicate n B=(List.range n).map λ_=>B:=by rw[List.map_const',ZC]
   have D:Hv (List.replicate n B) Gs=[]:=by rw[em];exact xy _ _
   have fresh:∀b,(upd (upd P A (.own a)) a (.ins (G.ct (c+1)).1 A [])) b=L->H b=L:=λb z=>N.free (O.free z);refine⟨a,vs,[],trees d,[a],Gs,HY,y,by rw[Zg],.ins (ks:=[]) (vs:=[]) (ts:=[]) (Fs:=[]) aw Y (λ_=>rfl) .nil,(NJ.same O).at (Jb a) MN,?_,?_,?_,eg,λu j F' l ru=>⟨uI ru S.2,?_⟩⟩
   ·simp[trees,lx]
   ·rw[D];simp
   ·rw[D];intro b hb Hr;have:b=a:=by simpa using hb
    subst this;exact GV.jj (NJ.G1 b (t7 _ _ b Hr)) C
   ·rw[D,Zg]at l;have back:Rp G j (.ref a) (.obj (c+1) ((0,.bl B) :: HY)) F':=by
     obtain⟨c2,a2,RX,b2,NR,Pz,NC,R7,LH,MT,Pk,Os,MU,MP,Ie,L4,Jv⟩:=dn l.rp;cases LH;cases MT;subst Os;rw[MU];exact .ins MP Ie (λz=>nomatch z) (Jv.at G.me (dS (Ie.trans Jv.len.1) S.1))
    refine kq (.ref a) j F' (λb v q=>l.keep b v (λz=>?_) (O b v (N b v q))) back ⟨l.nd,λb hb=>?_⟩
    ·have:b=a:=by simpa using z
     rw[this,S9]at q;cases q
    ·rcases l.sub b hb with z | z
     ·have:b=a:=by simpa using z
      rw[this];exact S9
     ·exact fresh b z
  ·cases e2
 ·cases e1
def FO(n:Nat)(z:Mk X.K (G.ct (c+1)).1 f)(F:FnOk X.prog X.w X.K X.mg X.base Hi k f fd ps (JO G c (List.replicate n B) g))(d:p0 k' X.A)(q:k+1<=k')(r:Gl X x)(l:X.mg x=Z (.ref (G.ct (c+1)).1))(v:Binds X.K fd ps [])(y:HM G X (e :: es) cs)(j:∀U a,cs U=Z a->a.length=n)(C:K3 x)(u:K1 e es X)(b:K2 pos es X):PV G X (.Call (.Name x p) (e :: es) [] pos) (eNew c g cs) :=
 PE.weak (uP (E:=E0) z F (d.mono q) r l v .nil g9 y C u b) λJ H Q h=>ym (X:=X) (k:=k) (f:=f) (fd:=fd) (ps:=ps) (t:=Nd G cs) (λ_ _=>True.intro) (λM U a J H R s e k=>⟨M,U,a,s,e,k⟩) n j h
def CB(q:Mk X.K (G.ct (c+1)).1 f)(F:FnOk X.prog X.w X.K X.mg X.base Hi k f fd ps (JO G c [] g))(b:p0 k' X.A)(j:k+1<=k')(l:Gl X x)(d:X.mg x=Z (.ref (G.ct (c+1)).1))(n:Binds X.K fd ps [])(r:K3 x):PV G X (.Call (.Name x p) [] [] pos) (eNew c g ah) :=
 PE.weak (zj (E:=E0) q F (b.mono j) l d n .nil g9 r) λJ H Q h=>ym (X:=X) (k:=k) (f:=f) (fd:=fd) (ps:=ps) (t:=tY) (λ_ _=>True.intro) (λM U a J H R s e k=>by
  cases (show Z ([]:W3)=Z a from e);exact k [] H [] (aG.refl _) .nil ⟨λi v F h=>by simp at h,by simp[HR]⟩) 0 (λU a e=>by
  cases (show Z ([]:W3)=Z a from e);rfl) h
theorem pX{g:Nat->Str}(b:∀k,g k≠m):∀(ns:Wc)(a:List V),((ns.map g).zip a).lookup m=L
 |[],a=>by simp
 |_ :: _,[]=>by simp
 |n :: ns,v :: a=>by
  rw[Zo,ZX,Ys];have:(m==g n)=B:=by
   rw[ZL];exact λz=>b n z.symm
  rw[this];exact pX b ns a
def vz{J:L2.St}{H:Hp}{Q:VK}{E:XK}{t:TA}(hn:∀k,(G.ct (c+1)).2 k≠m)(S:∀M U d J H (R:List V->Hp->Prop),SR G M U J H->cs U=Z d->(∀l j A,aG H j->RpL G j l (trees d) A->Lf M U H d A->R l j)->t J H R)(Y:tE G (dU c h ca cs) J H Q):vk (G.ct (c+1)).1 m (I0 G h) [] E (tE G ca) t J H Q:=by
 obtain⟨M,U,mo,r,s,e,P⟩:=Y;unfold dU at e;obtain⟨⟨O,y⟩,ea,e1⟩:=Zz.mp e;split at e1
 ·rename_i c' q0 fs C;dsimp only at C;subst C;split at e1
  ·rename_i hc;subst hc;obtain⟨d,el,e2⟩:=Zz.mp e1;obtain⟨⟨n,N⟩,eg,q⟩:=Zz.mp e2;refine⟨M,U,O,_,s,ea,λv H1 F1 w r1 f1=>?_⟩;obtain⟨c2,a,dx,b,ns,l,ts,A,ec,rfl,eb,ef,eF,hA,hl,hb,ra⟩:=dn r1;cases ec;refine⟨a,dx,_,rfl,hA,pX hn _ _,S M U d J H1 _ (s.same w) el λus H2 Gs z Nf MR=>?_⟩;rw[Zg];refine⟨_ :: trees d,F1 :: Gs,n,N,.cons (r1.same z) Nf,eg,λu j F' Ir F D=>?_⟩;cases n with
   |fr =>
    cases q;exact P u j F' ((w.trans z).trans Ir) F ⟨D.1,λb hb=>w.free (z.free (D.2 b hb))⟩
   |pu=>cases q
   |bo=>cases q
  ·cases e1
 ·cases e1
def CD{j:Sem Bool}(u:∀k,(G.ct (c+1)).2 k≠m)(r:PV G X o ca)(z:HZ X.K (G.ct (c+1)).1)(v:Meth X.K (G.ct (c+1)).1 m f)(F:FnOk X.prog X.w X.K X.mg X.base Hi k f fd ps (I0 G h))(n:p0 k' X.A)(y:k<=k')(C:Binds X.K fd ps [])(D:HM G X (e :: es) cs)(N:K1 e es X)(a:K2 pos es X)(l:eval (.Call (.Attribute o m apos) (e :: es) [] pos) X.env=(do
   let b ← eval o X.env
   standAt apos.atName
   let (f,first) ← holding [b] (getMethod b m j)
   callWith pos f first (backTo pos (Pi (e :: es) X.env)) (backToKw pos (SB [] X.env)))):PV G X (.Call (.Attribute o m apos) (e :: es) [] pos) (dU c h ca cs) :=
 PE.weak (pR (E:=E0) r z v F (n.mono y) C .nil g9 D N a l) λJ H Q q=>vz (t:=Nd G cs) u (λM U d J H R s e k=>⟨M,U,d,s,e,k⟩) q
def AE{d:Sem Bool}(r:∀k,(G.ct (c+1)).2 k≠m)(n:PV G X o ca)(z:HZ X.K (G.ct (c+1)).1)(u:Meth X.K (G.ct (c+1)).1 m f)(F:FnOk X.prog X.w X.K X.mg X.base Hi k f fd ps (I0 G h))(l:p0 k' X.A)(y:k<=k')(C:Binds X.K fd ps [])(j:eval (.Call (.Attribute o m apos) [] [] pos) X.env=(do
   let a ← eval o X.env
   standAt apos.atName
   let (f,first) ← holding [a] (getMethod a m d)
   callWith pos f first (backTo pos (Pi [] X.env)) (backToKw pos (SB [] X.env)))):PV G X (.Call (.Attribute o m apos) [] [] pos) (dU c h ca ah) :=
 PE.weak (nB (E:=E0) n z u F (l.mono y) C .nil g9 j) λJ H Q q=>vz (t:=tY) r (λM U b J H R s e k=>by
  cases (show Z ([]:W3)=Z b from e);exact k [] H [] (aG.refl _) .nil ⟨λi v F h=>by simp at h,by simp[HR]⟩) q
end
noncomputable def nS(i:Nat)(a:List Jg)(j:Nat)(U:VS.Env):Option Out:=match (U[i]?:Option (W0)),(U[j]?:Option (W0)) with
 |some (some (.ow t)),some (some (.ow u))=>if i≠j then (keys a U).bind λb=>(pm (λx=>aF x [(.fr,u)]) b t).map λz=>.nx ((U.set j L).set i (Z (.ow z.1))) else L
 |_,_=>L
open Classical in
def less(H:Hp)(F:X7):Hp:=λb=>if b∈F then L else H b
section
variable{G:Gx}{X:Cx}{i j:Nat}{way:List Jg}{o:Expr}{y:Str}{apos oe pos p1:Pos}
def p6{H:Hp}{F:X7}{b:KF}(h:b∈F):less H F b=L:=Zq h
def iu{H:Hp}{F:X7}{b:KF}(h:b∉F):less H F b=H b:=Zp h
def ip{H:Hp}{F:X7}{b:KF}{o:HO}(h:less H F b=Z o):H b=Z o/\b∉F:=by
 by_cases q:b∈F
 ·rw[p6 q]at h;cases h
 ·rw[iu q]at h;exact⟨h,q⟩
def wK{H:Hp}{F:X7}(h:∀b∈F,GV (H b)):Kept H (less H F) :=
 ⟨λb a e=>by
  rw[iu (λz=>by have:=h b z;rw[e]at this;exact this)];exact e,λb o u e=>by
  rw[iu (λz=>by have:=h b z;rw[e]at this;exact this)];exact e⟩
def AQ(Jq:jT G)(ho:Ju G X o i way)(hK:X.K=G.K)(hN:X.N[j]?=Z y)(hv:IJ X.env.scope y)(hd:K3 y)(hcd:K4 y)(G6:UF o "append" X.env (eval o X.env)=eval o X.env)(Hz:((backTo oe (Pi [.Name y p1] X.env)).all (λx=>!x.1)&&(backToKw oe (SB [] X.env)).all (λx=>x.1.isSome)
   && decide ([Expr.Name y p1].length+([]:List Keyword).length+(if ([]:List Keyword).isEmpty then 0 else 1)<30))=R)(G4:(apos.endLine==oe.line)=R)(hs:Pi [.Name y p1] X.env=(B,eval (.Name y p1) X.env) :: Pi [] X.env)(G0:(backTo oe (Pi [] X.env)).any (·.1)=B)(J8:swapsWith (.Call (.Attribute o "append" apos) [.Name y p1] [] oe) L pos.line X.env=pure B) :
  PSV G X (.Expr (.Call (.Attribute o "append" apos) [.Name y p1] [] oe) pos) (nS i way j) :=
 PS.weak (kM (rR XT XW XX jA ho (cA (fK hN hv hd hcd) fO hs) G6 Hz G4 hs G0) J8) λD J H hq=>by
  obtain⟨M,U,out,s,e,k⟩:=hq;unfold nS at e;split at e
  ·rename_i t u ht F;split at e
   ·rename_i QX;obtain⟨r,ek,e3⟩:=Zz.mp e;obtain⟨⟨S,x2⟩,e5,e6⟩:=Zy.mp e3;cases e6;obtain⟨Q,j1,j2⟩:=s.rp _ _ F;have SF:Rp G H Q u (M j):=j2;have UH:=s.nd j u F;have mj:∀b∈M j,GV (H b):=SF.G1;have kp:=wK mj;have PJ:∀f E,f≠j->U[f]?=Z (Z E)->∀b∈M f,b∉M j:=λf E n h b hb Hr=>s.sep j f u E F h (Ya n) b Hr hb;have s0:SR G M (U.set j L) J (less H (M j)):=⟨(s.drop j).len,λf E h=>by
     obtain⟨n,h'⟩:=cZ h;obtain⟨v,h1,h2⟩:=s.rp f E h';exact⟨v,h1,h2.keep kp λb hb d Nk=>by rw[iu (PJ f E n h' b hb)];exact Nk⟩,(s.drop j).nd,(s.drop j).sep⟩
    have QI:(U.set j L)[i]?=Z (Z (.ow t)):=by
     rw[Yp (Ya QX)];exact ht
    obtain⟨v,h1,h2⟩:=s0.rp _ _ QI;obtain⟨w,x,F1,x3,w1,w2,w3,P,w5⟩:=nJ r Jq h2 (s0.nd i t QI) e5;unfold aF at P;split at P
    ·rename_i l yv heq;cases heq;obtain⟨z,ez,e7⟩:=Zz.mp P;cases (show Z u=Z z from ez);split at e7
     ·rename_i hl;cases e7;obtain⟨a,us,Gs,rfl,rfl,ha,ra⟩:=w2.lst_inv;obtain⟨Rk,S6⟩:=ip ha;have T7:Ii G H r v (.ref a):=by
       have:∀{r:List Ky}{v w:V},Ii G (less H (M j)) r v w->Ii G H r v w:=by
        intro r v w p
        induction p with
        |nil v=>exact .nil v
        |fld h l _ A=>exact .fld (ip h).1 l A
        |ix h l m _ A=>exact .ix (ip h).1 l m A
        |key h l _ A=>exact .key (ip h).1 l A
        |un _ A=>exact .un A
       exact this w1
      refine⟨M,U,t,r,v,.ref a,s,ht,h1,ek,T7,λH0 C=>⟨.inl ⟨rfl,us,by rw[hK];exact G5.of (C a _ Rk)⟩,Q,j1,a,us,Q,rfl,rfl,C a _ Rk,by rw[ra.len.1];exact hl,?_⟩⟩;have Y:GV (H0 a):=by rw[C a _ Rk];exact True.intro
      have NV:=Zf.mp w3;have PZ:∀b∈Gs.flatten,b∉M j:=λb hb Hr=>by
       have:=ra.G1 b hb;rw[p6 Hr]at this;exact this
      have O:∀b d,less H (M j) b=Z d->H0 b=Z d:=λb d h=>C b d (ip h).1;have kl:Kept (less H (M j)) H0:=⟨λb xs h=>O b _ h,λb d u h=>O b _ h⟩
      have g:Chg G (less H (M j)) (.ref a) (a :: Gs.flatten) (.lst (l++[u])) (upd H0 a (.lst (us++[Q]))) (a :: (Gs++[M j]).flatten):=by
       refine⟨kl.trans (Kept.upd (.inl Y)),λb d hb h=>by rw[aC (λz=>hb (by rw[z];exact Zt))];exact O b d h,λb h z=>?_,.lst aw ((RpL.off (ra.keep kl λb hb d h=>O b d h) Y NV.1).append (.cons (((SF.same C)).keep (Kept.upd (.inl Y)) λb hb d ho=>by rw[aC (λz=>S6 (by rw[← z];exact hb))];exact ho) .nil)),?_,λb hb=>?_⟩
       ·by_cases q:b=a
        ·rw[q,aw]at z;cases z
        ·rw[aC q]at z;cases e:less H (M j) b with
         |none=>exact h e
         |some d=>rw[O b d e]at z;cases z
       ·rw[Z7];refine Zf.mpr ⟨λm=>?_,ZP.mpr ⟨NV.2,by simpa using UH,λb hb c hc z=>?_⟩⟩
        ·rcases ZY.mp m with m | m
         ·exact NV.1 m
         ·exact S6 (by simpa using m)
        ·subst z;exact PZ b hb (by simpa using hc)
       ·rcases Zi.mp hb with rfl | hb
        ·exact .inl Zt
        ·rw[Z7]at hb;rcases ZY.mp hb with hb | hb
         ·exact .inl (Zu _ hb)
         ·exact .inr (p6 (by simpa using hb))
      obtain⟨F2,g2⟩:=w5 _ _ g;obtain⟨z1,z2⟩:=s0.mut QI h1 g2;have back:∀b,less H (M j) b=L->bU M U b\/H b=L:=λb h=>by
       by_cases q:b∈M j
       ·exact .inl ⟨j,u,F,q⟩
       ·rw[iu q]at h;exact .inr h
      have J0:∀b,bU M (U.set j L) b->bU M U b:=λb ⟨j',S,q1,q2⟩=>⟨j',S,(cZ q1).2,q2⟩
      have Ux:∀b,dg M (U.set j L) b->dg M U b:=λb ⟨j',S,q1,q2⟩=>⟨j',S,(cZ q1).2,q2⟩
      refine k _ J _ z1 ⟨λb d h n=>?_,λb h z=>?_,λb h=>?_,λb h=>?_,(Kept.of C).trans (Kept.upd (.inl Y))⟩
      ·have nj:b∉M j:=λz=>n ⟨j,u,F,z⟩;exact z2.keep b d (by rw[iu nj];exact h) λz=>n (J0 b z)
      ·by_cases q:b=a
       ·rw[q,aw]at z;cases z
       ·rw[aC q]at z;exact h (C.free z)
      ·rcases z2.ow b h with h | h
       ·exact .inl (J0 b h)
       ·exact back b h
      ·rcases z2.pu b h with h | h | h
       ·exact .inl (Ux b h)
       ·exact .inr (.inl (J0 b h))
       ·exact(back b h).elim (λz=>.inr (.inl z)) λz=>.inr (.inr z)
     ·cases e7
    ·cases P
   ·cases e
  ·cases e
end
end VS
end
section
namespace VS
open PySem PySem.Spec PyProof.Rows L2
def isInt:T->Bool
 |.int _=>R
 |_=>B
def rE(i:Nat):JB:=λU=>match (U[i]?:Option (W0)) with
 |some (some (.pu (.dct 3 l)))=>if (l.all λp=>isInt p.1)=R then Z (.fr,l.map (·.1)) else L
 |_=>L
def x8(i:Nat)(a:Tg)(b:Ex):Sx:=λU=>match (U[i]?:Option (W0)) with
 |some (some (.ow (.dct 0 l)))=>(gy 1 a (rE i) L b (U.set i (Z (.pu (.dct 3 l))))).bind λv=>match v.1 with
  |.fr=>Z (.rt v (U.set i L))
  |_=>L
 |_=>L
theorem zip_inj{α β:Type}:∀{a c:List α}{b d:List β},a.length=b.length->c.length=d.length->a.zip b=c.zip d->a=c
 |[],[],_,_,_,_,_=>rfl
 |[],_ :: _,_,[],_,h,_=>by simp at h
 |[],_ :: _,[],_ :: _,_,_,h=>by simp at h
 |[],_ :: _,_ :: _,_ :: _,h,_,_=>by simp at h
 |_ :: _,_,[],_,h,_,_=>by simp at h
 |_ :: _,[],_ :: _,[],_,_,h=>by simp at h
 |_ :: _,[],_ :: _,_ :: _,_,h,_=>by simp at h
 |_ :: _,_ :: _,_ :: _,[],_,h,_=>by simp at h
 |x :: a,y :: c,z :: b,w :: d,f,e,h=>by
  rw[ZX,ZX]at h;obtain⟨e1,e2⟩:=List.cons.inj h;rw[zip_inj (by simpa using f) (by simpa using e) e2,(Xa e1).1]
section
variable{G:Gx}{X:Cx}{i:Nat}{elt tg:Expr}{sc:Scope}{pos pos' p1:Pos}{N:List Str}{x:Str}{g:Tg}{ce:Ex}
def C7(i:Nat)(N:List Str)(HK:X.calm=R)(hN:X.N[i]?=Z x)(hv:IJ X.env.scope x)(hd:K3 x)(hcd:K4 x)(JI:Bz 1 g)(hg:∀cl C s H fp,OH G (eE X N sc cl C s H fp) tg g)(he:∀cl C s H fp,PV G (eE X N sc cl C s H fp) elt ce)(JU:qQ X.env sc=R)(KQ:nI sc (N.drop 1) X.N=R)(KW:1<=N.length)(hs:∀y,UV (.Name x p1) X.env y=pure y) :
  PSV G X (.Return (Z (.ListComp elt [⟨tg,.Name x p1,[],0⟩] sc pos)) pos') (x8 i g ce) :=
 PS.weak (qD (pT HK (EF (fK hN hv hd hcd)) JU KQ KW (λcl C s H fp=>⟨hg cl C s H fp,mP,he cl C s H fp⟩) hs)) λD J H hq=>by
  obtain⟨M,U,out,s,e,k⟩:=hq;unfold x8 at e;split at e
  ·rename_i l E;obtain⟨⟨mv,tv⟩,ev,e1⟩:=Zz.mp e;have L1:mv=.fr/\out=.rt (.fr,tv) (U.set i L):=by
    cases mv with
    |fr=>cases e1;exact⟨rfl,rfl⟩
    |pu=>cases e1
    |bo=>cases e1
   obtain⟨rfl,rfl⟩:=L1;obtain⟨v,g1,g2⟩:=s.rp _ _ E;obtain⟨a,ns,d,Y,S,rfl,eF,ha,QS,rfl,ra⟩:=fj g2;have Ig:i<U.length:=(Zh.mp E).1;have nd:=s.nd i _ E;rw[eF]at nd;have HA:=Zf.mp nd;refine⟨.ref a,g1,a,ns.zip d,rfl,ha,λo=>?_⟩;have mu:GV (H a):=by rw[ha];exact True.intro
   have kp:Kept H (upd H a (.frz o (.dK (ns.zip d)))):=Kept.upd (.inl mu);have es:J.set i (Z (.ref a))=J:=by
    obtain⟨h,e⟩:=Zh.mp g1;rw[← e];exact XI h
   have aΦ:a∈M i:=by rw[eF];exact Zt
   have sub:∀b∈S.flatten,b∈M i:=λb hb=>by rw[eF];exact Zu _ hb
   have s1:SR G (md M i S.flatten) (U.set i (Z (.pu (.dct 3 ((ns.map aR).zip Y))))) J (upd H a (.frz o (.dK (ns.zip d)))):=by
    have:=s.put (c:=.pu (.dct 3 ((ns.map aR).zip Y))) (v:=.ref a) (F:=S.flatten) (H':=upd H a (.frz o (.dK (ns.zip d)))) Ig (.dctZ aw QS (ra.off mu HA.1)) (λj c' n hj w q=>q.keep kp λb hb ob ho=>by
     rw[aC (λz=>s.sep i j _ c' E hj (Ya n) a aΦ (by rw[← z];exact hb))];exact ho) (λ_ z=>nomatch z) (λ_ z=>nomatch z) λj u n hj b hb Hr=>s.sep j i u _ hj E n b hb (sub b Hr)
    rw[es]at this;exact this
   have hT:tE G (gy 1 g (rE i) L ce) J (upd H a (.frz o (.dK (ns.zip d)))) D.rt:=by
    refine⟨_,_,.fr,tv,s1,ev,λu H' F Q r f=>?_⟩;have ee:(U.set i (Z (.pu (.dct 3 ((ns.map aR).zip Y))))).set i L=U.set i L:=by rw[List.set_set]
    have sd:=(s1.drop i).same Q;rw[ee]at sd;have J0:∀b,bU (md M i S.flatten) (U.set i L) b->bU M U b:=λb ⟨j,t,A,m⟩=>by
     obtain⟨n,NL⟩:=cZ A;rw[fB n]at m;exact⟨j,t,NL,m⟩
    refine k u H' F _ J sd ⟨λb ob h n=>?_,λb h z=>?_,λb h=>.inl (J0 b h),λb ⟨j,t,A,m⟩=>?_,kp.trans (Kept.of Q)⟩ r ⟨f.1,λb hb=>.inl ?_⟩
    ·have nb:b≠a:=λz=>n ⟨i,_,E,by rw[z];exact aΦ⟩;exact⟨Q b ob (by rw[aC nb];exact h),λz=>n (J0 b z)⟩
    ·have P:=Q.free z;by_cases q:b=a
     ·rw[q,aw]at P;cases P
     ·rw[aC q]at P;exact h P
    ·obtain⟨n,NL⟩:=cZ A;rw[fB n]at m;exact .inl ⟨j,t,NL,m⟩
    ·have:=f.2 b hb;by_cases q:b=a
     ·rw[q,aw]at this;cases this
     ·rw[aC q]at this;exact this
   obtain⟨M2,U2,m2,l2,s2,e2,k2⟩:=u4 (cond:=L) JI hT;refine k2 (R5 a o (ns.zip d)) _ [] (aG.refl _) ?_ (λb hb=>nomatch hb);unfold rE at e2;split at e2
   ·rename_i l3 h3;split at e2
    ·rename_i hint;cases e2;obtain⟨v3,A,m⟩:=s2.rp _ _ h3;rw[g1]at A;cases A;obtain⟨a3,o3,UP,R8,PD,Fs3,RU,_,Jp,Nl,rfl,Jv⟩:=sR m;cases RU;rw[aw]at Jp;have hz:ns.zip d=UP.zip R8:=HO.dK.inj (HO.frz.inj (Zn Jp)).2;have ek:=zip_inj QS Nl hz;subst ek;have em:((ns.map aR).zip PD).map (·.1)=ns.map aR:=Wi (by rw[Zw,Nl,Jv.len.1];exact Zm _);have zl:(ns.zip d).length=ns.length:=by rw[Yo,QS,Nat.min_self]
     refine⟨λH2 O4 _=>⟨λn t O=>?_,λn O=>?_⟩,λb hb=>nomatch hb⟩
     ·rw[em,ZS]at O;obtain⟨kk,Nn,Nm⟩:=Zy.mp O;have Oa:=(Zh.mp Nn).1;refine⟨⟨O4.frz _ _ _ aw,by rw[zl];exact Oa⟩,λy H3 hy=>?_⟩;obtain⟨rfl,p,hp,rfl⟩:=hy;refine⟨aG.refl _,[],?_,λb hb=>nomatch hb⟩;have U9:p.1=kk:=by
       have MB:(ns.zip d)[n]?=Z p:=hp;rw[YT]at MB;rw[Nn]at MB;exact(Zn MB.1).symm
      have hi:isInt t=R:=by
       have:=Yw.mp hint (t,PD[n]'(by rw[← Jv.len.1,← Nl];exact Oa)) (by
        refine Yj (i:=n) ?_;rw[YT];exact⟨by rw[ZS,Nn];exact congrArg Z Nm,Zr _⟩)
       exact this
      rw[U9,← Nm];rw[← Nm]at hi;cases kk with
      |inl n=>exact .int n
      |inr z=>cases hi
     ·refine⟨O4.frz _ _ _ aw,?_⟩;rw[em,Zw]at O;rw[zl];exact O
    ·cases e2
   ·cases e2
  ·cases e
end
def Dn(c:Nat):Option (W0)->Bool
 |some (some (.ow (.obj a (_ :: _))))=>a==c+1
 |_=>B
def o9(i c:Nat)(b:List Bool)(g:Mt)(x:Xx)(d:Hf)(U:VS.Env):Option (Val×VS.Env):=if Dn c (U[i]?:Option (W0))=R then (x U).bind λz=>if GR z.1.2=R then (match (z.2[i]?:Option (W0)) with
 |some (some (.ow t))=>(d z.2).bind λa=>(lQ c b g ((.fr,z.1.2) :: a) t).map λr=>(r.2,z.2.set i (Z (.ow r.1)))
 |_=>L) else L else L
section
variable{G:Gx}{X:Cx}{i c k k':Nat}{e:Expr}{es:List Expr}{cs:Hf}{m y:Str}{f:KF}{fd:Pv}{ps:List Str}{mv:List Bool}{g:Mt}{x:Xx}{apos pos p1:Pos}
def Ab{pl:Sem Bool}(hn:∀k,(G.ct (c+1)).2 k≠m)(hN:X.N[i]?=Z y)(hv:IJ X.env.scope y)(hd:K3 y)(hcd:K4 y)(hc:HZ X.K (G.ct (c+1)).1)(hm:Meth X.K (G.ct (c+1)).1 m f)(F:FnOk X.prog X.w X.K X.mg X.base Hi k f fd ps (JO G c mv g))(hr:p0 k' X.A)(hk:k<=k')(hb:Binds X.K fd ps [])(h1:PX G X e x)(ha:HM G X es cs)(Im:K1 e es X)(hpl:K2 pos es X)(ht:eval (.Call (.Attribute (.Name y p1) m apos) (e :: es) [] pos) X.env=(do
   let ov ← eval (.Name y p1) X.env
   standAt apos.atName
   let (f,first) ← holding [ov] (getMethod ov m pl)
   callWith pos f first (backTo pos (Pi (e :: es) X.env)) (backToKw pos (SB [] X.env)))):PX G X (.Call (.Attribute (.Name y p1) m apos) (e :: es) [] pos) (o9 i c mv g x cs) :=
 PE.weak (pR (E:=E0) (fK hN hv hd hcd) hc hm F (hr.mono hk) hb .nil g9 (cA h1 ha Im) Im hpl ht) λJ H Q h=>by
  obtain⟨M,U,v,U',s,e,Kn,kq⟩:=h;unfold o9 at e;split at e
  ·rename_i D;obtain⟨⟨C,U1⟩,e1,e2⟩:=Zz.mp e;split at e2
   ·rename_i QW;unfold Dn at D;split at D
    ·rename_i c0 q0 Rv h0;have V9:c0=c+1:=by simpa using D
     subst V9;obtain⟨v0,g1,g2⟩:=s.rp _ _ h0;have L5:Rp G H v0 (.obj (c+1) (q0 :: Rv)) (M i):=g2;obtain⟨c',a,dx,b,ns,j,ts,Fs,ec,rfl,eb,ef,eF,hA,hl,Pf,ra⟩:=dn L5;cases ec;have key:∀(ns:Wc)(j:List V),((ns.map (G.ct (c+1)).2).zip j).lookup m=L:=by
      intro ns
      induction ns with
      |nil=>intro j;simp
      |cons n ns ih =>
       intro j;cases j with
       |nil=>simp
       |cons v j =>
        rw[Zo,ZX,Ys];have:(m==(G.ct (c+1)).2 n)=B:=by
         rw[ZL];exact λz=>hn n z.symm
        rw[this];exact ih j
     refine⟨.ref a,g1,a,dx,_,rfl,hA,key _ _,M,U,C,U1,s,e1,QW,λu1 H1 r s1 f1 r1=>?_⟩;dsimp only at e2;split at e2
     ·rename_i t1 QH;obtain⟨q,el,e3⟩:=Zz.mp e2;obtain⟨⟨x3,y3⟩,o,e4⟩:=Zy.mp e3;cases e4;obtain⟨va,q1,w2⟩:=s1.rp _ _ QH;rw[g1]at q1;cases q1;have w3:=s1.nd i t1 QH;refine⟨r,U1,q,s1,el,λY H2 P l Nf MR=>?_⟩;show JO G c mv g (V.ref a :: ((u1 :: Y)++[])) H2 Q E0;rw[Zg];unfold lQ at o;split at o
      ·rename_i c1 d fs;split at o
       ·rename_i Pd;obtain⟨rfl,KP,O,MN⟩:=Pd;obtain⟨⟨HY,z⟩,eg,e7⟩:=Zz.mp o;split at e7
        ·rename_i KO;cases e7;have ON:Rp G H1 (.ref a) (.obj (c+1) ((0,.bl d) :: fs)) (r i):=w2;obtain⟨c2,a2,RX,b2,NR,Pz,NC,R7,LH,MT,Pk,rfl,MU,MP,Ie,L4,OW⟩:=dn ON;cases LH;cases MT;cases Pk;have J5:NR.length=NC.length:=Ie.trans OW.len.1;have Td:Lf r U1 H1 ((.fr,C.2) :: q) ([] :: P):=⟨λn v' S a1 a2=>by
          cases n with
          |zero=>cases a1;cases a2;exact Fp.nil
          |succ n=>exact MR.each n v' S (by simpa using a1) (by simpa using a2),by
          show ([]++HR q P).Nodup;exact MR.nd⟩
         have Ms:=vJ O Td;have Sg:RpL G H2 (u1 :: Y) (trees ((.fr,C.2) :: q)) ([] :: P):=.cons (r1.same l) Nf;refine⟨a,u1 :: Y,NR.zip NC,trees ((.fr,C.2) :: q),r i,[] :: P,HY,z,rfl,?_,Sg.at (Jb a) MN,?_,?_,?_,eg,λu H' S p ru=>?_⟩
         ·rw[MU];exact .ins (l a _ MP) Ie (λ_=>rfl) ((OW.same l).at (Jb a) (dS J5 KP))
         ·rw[jR O];simp[trees]
         ·refine ZP.mpr ⟨w3,Td.nd.sublist (nc O),λd t b2 L4 z=>?_⟩;subst z;exact GV.jj (w2.G1 d t) (Ms d L4)
         ·rw[pF O Sg];exact λd _ z=>nomatch z
         ·have back:Rp G H' (.ref a) (.obj (c+1) ((0,.bl d) :: HY)) S:=by
           obtain⟨c3,a3,dx3,b3,ns3,R8,PD,Fs3,V7,RU,eb3,V5,WA,VH,Nl,hb3,Jv⟩:=dn p.rp;cases V7;cases RU;subst V5;rw[WA];exact .ins VH Nl L4 (Jv.at G.me (dS (Nl.trans Jv.len.1) KO.1))
          have gG:Chg G H1 (.ref a) (r i) (.obj (c+1) ((0,.bl d) :: HY)) H' S:=⟨(Kept.of l).trans p.kept,λd o1 t ho=>p.keep d o1 (λz=>(ZY.mp z).elim t λz=>by rw[Ms d z]at ho;cases ho) (l d o1 ho),λd h=>p.G1 d λz=>h (l.free z),back,p.nd,λd t=>by
           rcases p.sub d t with z | z
           ·rcases ZY.mp z with z | z
            ·exact .inl z
            ·exact .inr (Ms d z)
           ·exact .inr (l.free z)⟩
          obtain⟨z1,z2⟩:=s1.mut QH g1 gG;exact kq u H' _ z1 (f1.trans z2) (ru.at G.me (lN z KO.2))
        ·cases e7
       ·cases o
      ·cases o
     ·cases e2
    ·cases D
   ·cases e2
  ·cases e
end
def L6(a:List Str)(k:Nat):Str:=match a[k]? with
 |some x=>x
 |none=>⟨#[k]⟩
def Ld(a:List Str)(K:Xd)(C D:KF):Gx:=⟨K,λc=>(if c=2 then D else C,L6 a),λ_=>L⟩
def AO{a:List Str}(i:a.Nodup)(h:∀x∈a,x.cps.size≠1)(k b:Nat)(e:L6 a k=L6 a b):k=b:=by
 unfold L6 at e;by_cases f:k<a.length
 ·by_cases d:b<a.length
  ·rw[Zr f,Zr d]at e;exact(List.getElem_inj i).mp e
  ·rw[Zr f,Z2 (ZQ d)]at e;have g:a[k]=(⟨#[b]⟩:Str):=e;exact absurd (by rw[g];rfl) (h _ (Yy f))
 ·by_cases d:b<a.length
  ·rw[Z2 (ZQ f),Zr d]at e;have g:(⟨#[k]⟩:Str)=a[b]:=e;exact absurd (by rw[← g];rfl) (h _ (Yy d))
  ·rw[Z2 (ZQ f),Z2 (ZQ d)]at e;have g:(⟨#[k]⟩:Str)=⟨#[b]⟩:=e;cases g;rfl
def Bo{a:List Str}{K:Xd}{C D:KF}{m:Me}(b:a.Nodup)(h:∀x∈a,x.cps.size≠1):jT ((Ld a K C D).at m):=λ_ k d e=>AO b h k d e
def gx{a:List Str}{x:Str}(h:x∉a)(d:x.cps.size≠1)(k:Nat):L6 a k≠x:=λe=>by
 unfold L6 at e;split at e
 ·rename_i y b;exact h (e ▸ Yj b)
 ·exact d (by rw[← e];rfl)
def wC{a:List Str}{K:Xd}{C D:KF}{m:Me}{k:Nat}{f:Str}(b:a[k]?=Z f)(h:HZ K C)(g:HZ K D)(e:aV K C f)(d:aV K D f):HN ((Ld a K C D).at m) K k f :=
 ⟨λc=>by show L6 a k=f;unfold L6;rw[b],λc=>by show HZ K (if c+1=2 then D else C);split<;>assumption,λc=>by show aV K (if c+1=2 then D else C) f;split<;>assumption⟩
structure MtAt(P:P3)(w:SZ)(K:Xd)(mg:X6)(base:SL)(k:Nat)(G:Gx)(c:Nat)(x:Str)(ps:List Str)(mv:List Bool)(g:Mt):Prop where
 ex:∃f fd,FnOk P w K mg base Hi k f fd ps (JO G c mv g)/\Meth K (G.ct (c+1)).1 x f/\Binds K fd ps []
 cl:HZ K (G.ct (c+1)).1
 no:∀k,(G.ct (c+1)).2 k≠x
structure MpAt(P:P3)(w:SZ)(K:Xd)(mg:X6)(base:SL)(k:Nat)(G:Gx)(c:Nat)(x:Str)(ps:List Str)(h:Fn):Prop where
 ex:∃f fd,FnOk P w K mg base Hi k f fd ps (I0 G h)/\Meth K (G.ct (c+1)).1 x f/\Binds K fd ps []
 cl:HZ K (G.ct (c+1)).1
 no:∀k,(G.ct (c+1)).2 k≠x
structure InAt(P:P3)(w:SZ)(K:Xd)(mg:X6)(base:SL)(k:Nat)(G:Gx)(c n:Nat)(x:Str)(ps:List Str)(g:Mt):Prop where
 ex:∃f fd,FnOk P w K mg base Hi k f fd ps (JO G c (List.replicate n false) g)/\Mk K (G.ct (c+1)).1 f/\Binds K fd ps []
 mg:mg x=some (.ref (G.ct (c+1)).1)
section
variable{P:P3}{w:SZ}{K:Xd}{mg:X6}{base:SL}{k c n:Nat}{G:Gx}{x:Str}{ps:List Str}{mv:List Bool}{g:Mt}
theorem MtAt.at{m:Me}(h:MtAt P w K mg base k G c x ps mv g):MtAt P w K mg base k (G.at m) c x ps mv g:=⟨h.ex,h.cl,h.no⟩
theorem InAt.at{m:Me}(h:InAt P w K mg base k G c n x ps g):InAt P w K mg base k (G.at m) c n x ps g:=⟨h.ex,h.mg⟩
def lL{b:Str}{d:Stmt}{f:KF}{m:Pv}{N:List Str}{j l:Nat}{e:Sx}(F:GW K x b d f m)(q:Meth K (G.ct (c+1)).1 x f)(r:HZ K (G.ct (c+1)).1)(v:∀k,(G.ct (c+1)).2 k≠x)(S:gV N ps (ai d))(o:ps.length=j)(p:N.length=l)(u:∀(kV doc pm:KM)(an:Option KF)(h ct:KM)(i:Wf),i.length=ps.length->bindArgs (PySem.W.fnOf x b (cR d) (aU d) (ai d) .none kV doc pm an h ct) ⟨i,[]⟩=pure (ps.zip i))(t:∀(a:KF)(h:KM)(A:Re)(outer:List PySem.Env)(s:GM)(H:Hp)(E:XK),p0 k (A.deeper (envOfC b (ai d) s.heap.objs.size f h))->gF (G.at (Jb a)) (iR Hi P w K mg base N b (ai d) f h A outer s H E).Jm (aU d) e) :
  MtAt P w K mg base (k+1) G c x ps mv (Iz c j l mv e):=⟨⟨f,m,Te F S o p t,q,F.binds u⟩,r,v⟩
def DZ{y b:Str}{d:Stmt}{f:KF}{m:Pv}{N:List Str}{j l:Nat}{e:Sx}(F:GW K y b d f m)(q:Mk K (G.ct (c+1)).1 f)(r:mg x=Z (.ref (G.ct (c+1)).1))(S:gV N ps (ai d))(o:ps.length=j)(p:N.length=l)(u:∀(kV doc pm:KM)(an:Option KF)(h ct:KM)(i:Wf),i.length=ps.length->bindArgs (PySem.W.fnOf y b (cR d) (aU d) (ai d) .none kV doc pm an h ct) ⟨i,[]⟩=pure (ps.zip i))(t:∀(a:KF)(h:KM)(A:Re)(outer:List PySem.Env)(s:GM)(H:Hp)(E:XK),p0 k (A.deeper (envOfC b (ai d) s.heap.objs.size f h))->gF (G.at (Jb a)) (iR Hi P w K mg base N b (ai d) f h A outer s H E).Jm (aU d) e) :
  InAt P w K mg base (k+1) G c n x ps (Iz c j l (List.replicate n B) e):=⟨⟨f,m,Te F S o p t,q,F.binds u⟩,r⟩
def Bj{y d:Str}{e:Stmt}{f:KF}{q:Pv}{N:List Str}{m p:Nat}{h:Sx}(F:Kg K y d e f q)(u:Mk K (G.ct (c+1)).1 f)(v:mg x=Z (.ref (G.ct (c+1)).1))(S:gV N ps (ai e))(r:ps.length=m)(t:N.length=p)(C:∀(s:GM)(T:KF)(kV doc pm:KM)(an:Option KF)(i ct:KM)(o:Obj)(n:Nat)(j:Wf),K.In s.heap->K.lookup T=Z o->o.data=.seq #[.none] n->j.length=ps.length->BindsTo s (PySem.W.fnOf y d (cR e) (aU e) (ai e) (.ref T) kV doc pm an i ct) ⟨j,[]⟩ (ps.zip j))(z:∀(a:KF)(i:KM)(A:Re)(outer:List PySem.Env)(s:GM)(H:Hp)(E:XK),p0 k (A.deeper (envOfC d (ai e) s.heap.objs.size f i))->gF (G.at (Jb a)) (iR Hi P w K mg base N d (ai e) f i A outer s H E).Jm (aU e) h) :
  InAt P w K mg base (k+1) G c n x ps (Iz c m p (List.replicate n B) h):=⟨⟨f,q,Fb (λl b=>F.ok S l b) r t z,u,F.binds C⟩,v⟩
def nK{a:Str}{b:Stmt}{f:KF}{l:Pv}{N:List Str}{i j:Nat}{d:Sx}(F:GW K x a b f l)(p:Meth K (G.ct (c+1)).1 x f)(q:HZ K (G.ct (c+1)).1)(u:∀k,(G.ct (c+1)).2 k≠x)(S:gV N ps (ai b))(m:ps.length=i)(o:N.length=j)(t:∀(kV doc pm:KM)(an:Option KF)(e ct:KM)(h:Wf),h.length=ps.length->bindArgs (PySem.W.fnOf x a (cR b) (aU b) (ai b) .none kV doc pm an e ct) ⟨h,[]⟩=pure (ps.zip h))(r:∀(e:KM)(A:Re)(outer:List PySem.Env)(s:GM)(H:Hp)(E:XK),p0 k (A.deeper (envOfC a (ai b) s.heap.objs.size f e))->gF G (iR Hi P w K mg base N a (ai b) f e A outer s H E).Jm (aU b) d) :
  MpAt P w K mg base (k+1) G c x ps (fn i j d):=⟨⟨f,l,Rx F S m o r,p,F.binds t⟩,q,u⟩
end
section
variable{G:Gx}{X:Cx}{i j c k k' kr n:Nat}{way:List Jg}{o e b:Expr}{es:List Expr}{cs:Hf}{ca ck ce:Ex}{m x:Str}{ps:List Str}{mv:List Bool}{g:Mt}{h:Fn}{xc:Xx}{f:Str}{apos oe pos pos' p p1:Pos}
def iA{l:Sem Bool}(C:jT G)(F:MtAt X.prog X.w X.K X.mg X.base k G c m ps mv g)(r:p0 k' X.A)(t:k<=k')(s:Ju G X o i way)(u:HM G X (e :: es) cs)(D:K1 e es X:=by exact rfl)(a:K2 pos es X:=by exact rfl)(q:eval (.Call (.Attribute o m apos) (e :: es) [] pos) X.env=(do
   let d ← eval o X.env
   standAt apos.atName
   let (f,first) ← holding [d] (getMethod d m l)
   callWith pos f first (backTo pos (Pi (e :: es) X.env)) (backToKw pos (SB [] X.env))):=by exact rfl):PX G X (.Call (.Attribute o m apos) (e :: es) [] pos) (bG i way c mv g cs):=by
 obtain⟨f,fd,z,y,v⟩:=F.ex;exact BH C F.no s F.cl y z r t v u D a q
def xE{d:Sem Bool}(y:jT G)(F:MtAt X.prog X.w X.K X.mg X.base k G c m ps mv g)(q:p0 k' X.A)(s:k<=k')(r:Ju G X o i way)(l:eval (.Call (.Attribute o m apos) [] [] pos) X.env=(do
   let a ← eval o X.env
   standAt apos.atName
   let (f,first) ← holding [a] (getMethod a m d)
   callWith pos f first (backTo pos (Pi [] X.env)) (backToKw pos (SB [] X.env)))):PX G X (.Call (.Attribute o m apos) [] [] pos) (bG i way c mv g ah):=by
 obtain⟨f,fd,v,u,t⟩:=F.ex;exact zq y F.no r F.cl u v q s t l
def Dm{q:Sem Bool}(F:MtAt X.prog X.w X.K X.mg X.base k G c m ps mv g)(t:p0 k' X.A)(u:k<=k')(z:X.N[i]?=Z x)(r:IJ X.env.scope x)(v:K3 x)(d:K4 x)(H:PX G X e xc)(y:HM G X es cs)(J:K1 e es X)(a:K2 pos es X)(s:eval (.Call (.Attribute (.Name x p1) m apos) (e :: es) [] pos) X.env=(do
   let l ← eval (.Name x p1) X.env
   standAt apos.atName
   let (f,first) ← holding [l] (getMethod l m q)
   callWith pos f first (backTo pos (Pi (e :: es) X.env)) (backToKw pos (SB [] X.env)))):PX G X (.Call (.Attribute (.Name x p1) m apos) (e :: es) [] pos) (o9 i c mv g xc cs):=by
 obtain⟨f,fd,E,D,C⟩:=F.ex;exact Ab F.no z r v d F.cl D E t u C H y J a s
def AV{l:Sem Bool}(F:MpAt X.prog X.w X.K X.mg X.base k G c m ps h)(r:p0 k' X.A)(t:k<=k')(s:PV G X o ca)(u:HM G X (e :: es) cs)(C:K1 e es X)(a:K2 pos es X)(q:eval (.Call (.Attribute o m apos) (e :: es) [] pos) X.env=(do
   let d ← eval o X.env
   standAt apos.atName
   let (f,first) ← holding [d] (getMethod d m l)
   callWith pos f first (backTo pos (Pi (e :: es) X.env)) (backToKw pos (SB [] X.env)))):PV G X (.Call (.Attribute o m apos) (e :: es) [] pos) (dU c h ca cs):=by
 obtain⟨f,fd,z,y,v⟩:=F.ex;exact CD F.no s F.cl y z r t v u C a q
def hJ{d:Sem Bool}(F:MpAt X.prog X.w X.K X.mg X.base k G c m ps h)(q:p0 k' X.A)(s:k<=k')(r:PV G X o ca)(l:eval (.Call (.Attribute o m apos) [] [] pos) X.env=(do
   let a ← eval o X.env
   standAt apos.atName
   let (f,first) ← holding [a] (getMethod a m d)
   callWith pos f first (backTo pos (Pi [] X.env)) (backToKw pos (SB [] X.env)))):PV G X (.Call (.Attribute o m apos) [] [] pos) (dU c h ca ah):=by
 obtain⟨f,fd,v,u,t⟩:=F.ex;exact AE F.no r F.cl u v q s t l
def vw{e:Ex}:∀(U:VS.Env)(d:W3),ab e ah U=Z d->d.length=1:=λU d h=>by
 obtain⟨a,_,h⟩:=Zz.mp h;cases h;rfl
def qz(F:InAt X.prog X.w X.K X.mg X.base k G c n x ps g)(l:p0 k' X.A)(r:k+1<=k')(u:HM G X (e :: es) cs)(q:∀U d,cs U=Z d->d.length=n)(s:Gl X x)(C:K3 x)(t:K1 e es X)(a:K2 pos es X):PV G X (.Call (.Name x p) (e :: es) [] pos) (eNew c g cs):=by
 obtain⟨f,fd,z,y,v⟩:=F.ex;exact FO n y z l r s F.mg v u q C t a
def Bc(F:InAt X.prog X.w X.K X.mg X.base k G c 0 x ps g)(a:p0 k' X.A)(d:k+1<=k')(l:Gl X x)(t:K3 x):PV G X (.Call (.Name x p) [] [] pos) (eNew c g ah):=by
 obtain⟨f,fd,s,r,q⟩:=F.ex;exact CB r s a d l F.mg q t
def pZ(u:jT G)(d:Ju G X o i way)(q:HM G X [e] cs)(s:X.K=G.K:=by exact rfl)(A:UF o "append" X.env (eval o X.env)=eval o X.env:=by exact rfl)(y:((backTo oe (Pi [e] X.env)).all (λx=>!x.1)&&(backToKw oe (SB [] X.env)).all (λx=>x.1.isSome)
   && decide ([e].length+([]:List Keyword).length+(if ([]:List Keyword).isEmpty then 0 else 1)<30))=R:=by exact rfl)(C:(apos.endLine==oe.line)=R:=by exact rfl)(a:K1 e [] X:=by exact rfl)(D:(backTo oe (Pi [] X.env)).any (·.1)=B:=by exact rfl)(w:swapsWith (.Call (.Attribute o "append" apos) [e] [] oe) L pos.line X.env=pure B:=by exact rfl) :
  PSV G X (.Expr (.Call (.Attribute o "append" apos) [e] [] oe) pos) (sX (iM i way aF cs)) :=
 zw u XT XW XX jA o8 (λH v t F l z r h=>l8 r h) d q s A y C a D w
end
def K9(m:Nat)(t:T):T:=.obj 0 [(0,.bl R),(m,t)]
def Kv:T->Option (Nat×T)
 |.obj 0 [(0,.bl true),(m,t)]=>Z (m,t)
 |_=>L
def kj{t u:T}{m:Nat}(h:Kv t=Z (m,u)):t=K9 m u:=by
 unfold Kv at h;split at h
 ·cases h;rfl
 ·cases h
def rm(a:List V):Me:=λk=>match k with
 |0=>L
 |k+1=>a[k]?
def markL:Nat->List Bool->W5->W5
 |k,b :: bs,t :: a=>(if b then K9 (k+1) t else t) :: markL (k+1) bs a
 |_,_,_=>[]
def l6(U:VS.Env):Nat->List Bool->Option (W5)
 |_,[]=>Z []
 |k,true :: bs=>match (U[k]?:Option (W0)) with
  |some (some (.ow t))=>(Kv t).bind λz=>if z.1=k+1 then (l6 U (k+1) bs).map (z.2 :: ·) else L
  |_=>L
 |k,false :: bs=>l6 U (k+1) bs
def dD{α:Type}:List Bool->List α->List α
 |true :: bs,x :: a=>x :: dD bs a
 |false :: bs,_ :: a=>dD bs a
 |_,_=>[]
def LY(M:GU):Nat->List Bool->Xg
 |_,[]=>[]
 |k,true :: bs=>M k :: LY M (k+1) bs
 |k,false :: bs=>LY M (k+1) bs
def xR:T->Bool
 |.str _=>R
 |_=>B
def wU(b:W5)(v:Val):Bool:=GR v.2||(match b,v with
 |[.lst [.int _]],(.fr,.lst a)=>a.all xR
 |_,_=>B)
def Aw{b:W5}{v:Val}(h:wU b v=R):GR v.2=R\/∃n a,b=[.lst [.int n]]/\v=(.fr,.lst a)/\a.all xR=R:=by
 unfold wU at h;rcases Bool.or_eq_true_iff.mp h with h | h
 ·exact .inl h
 ·split at h
  ·exact .inr ⟨_,_,rfl,rfl,h⟩
  ·cases h
def qW{a:W5}(h:a.all xR=R):d6 a=R/\bc a=R:=by
 induction a with
 |nil=>exact⟨rfl,rfl⟩
 |cons t a b =>
  rw[Xk,Zd]at h;cases t<;>first | exact b h.2 | cases h.1
noncomputable def Kl(e g:Nat)(a:List Bool)(b:Sx):W5->Option (W5×T)
 |f :: d=>if d.length+1=e/\a.length=d.length then
  (b ((Z (.ow (K9 1 f)) :: List.zipWith jr a (markL 1 a d))++List.replicate (g-e) L)).bind λo=>match o with
   |.rt v U=>(l6 U 0 (R :: a)).bind λos=>if wU os v=R/\bc os=R then Z (os,v.2) else L
   |.nx U=>(l6 U 0 (R :: a)).bind λos=>if bc os=R then Z (os,.non) else L
   |_=>L else L
 |[]=>L
structure ChI(G:Gx)(H:Hp)(mv:List Bool)(vs:List V)(Fs:Xg)(os:W5)(H2:Hp)(Gs:Xg):Prop where
 kept:Kept H H2
 keep:∀b o,b∉Hv mv Fs->H b=some o->H2 b=some o
 G1:∀b,H b≠none->H2 b≠none
 rp:RpL G H2 (dD mv vs) os Gs
 nd:Gs.flatten.Nodup
 sub:∀a∈Gs.flatten,a∈Hv mv Fs\/H a=none
noncomputable def Mm(G:Gx)(d:List Bool)(g:W5->Option (W5×T)):Sp:=λm H Q _=>∃(a:KF)(i:List V)(j:T)(f:W5)(F:X7)(e:Xg)(os:W5)(x:T),m=.ref a :: i/\Rp G H (.ref a) j F/\RpL G H i f e/\(∀v∈dD d i,∃b,v=.ref b)/\eJ j=R/\bc f=R/\d.length=f.length ∧
 (F++Hv d e).Nodup/\(∀b∈F++Hv d e,b∉Jw d e)/\g (j :: f)=Z (os,x)/\∀u l n h,ChI G H (R :: d) m (F :: e) os l n->Rp G l u x h->h.Nodup->(∀a∈h,a∉n.flatten)->(∀a∈h,H a=L\/a∈F++Hv d e)->Q u l
section
variable{G:Gx}{H:Hp}
def new_apart{x:Gx}{d:List V}{n:Int}{i:Xg}{u:V}{e:W5}{F:X7}(r:RpL G H d [.lst [.int n]] i)(q:Rp x H u (.lst e) F)(f:e.all xR=R):∀a∈F,a∉i.flatten:=by
 cases r with
 |cons j r1 =>
  cases r1;obtain⟨a,d,A,rfl,rfl,v,t⟩:=j.lst_inv;obtain⟨p,y,z,rfl,rfl,h,g⟩:=q.lst_inv;rw[g.GR (qW f).1];intro b hb w;rw[Zb]at hb;subst hb;cases t with
  |cons s o =>
   cases o;cases s;have:b=a:=by simpa using w
   subst this;rw[v]at h;cases h;cases g with
   |cons m l =>
    cases l;cases m;cases f
theorem vb{m:Me}:∀{bs:List Bool}{d:List V}{e:W5}{f:Xg}(k:Nat),RpL (G.at m) H d e f->(∀v∈dD bs d,∃b,v=.ref b)->(∀j,m (k+1+j)=d[j]?)->bs.length=e.length->RpL (G.at m) H d (markL k bs e) f
 |[],_,_,_,k,.nil,_,_,_=>.nil
 |[],_,_,_,k,.cons _ _,_,_,h=>by simp at h
 |_ :: _,_,_,_,k,.nil,_,_,h=>by simp at h
 |b :: bs,v :: d,t :: e,F :: f,k,.cons r q,i,l,n=>by
  have g:=vb (bs:=bs) (k+1) q (λw hw=>i w (by cases b<;>simp[dD,hw])) (λj=>by rw[show k+1+1+j=k+1+(j+1) by omega,l (j+1)];rfl) (by simpa using n);cases b with
  |false=>exact .cons r g
  |true =>
   obtain⟨a,rfl⟩:=i v (by simp[dD]);exact .cons (.mk (l 0) r) g
theorem tN{d:List V}{M:GU}{U:VS.Env}{J:L2.St}(s:SR (G.at (rm d)) M U J H):∀(bs:List Bool)(k:Nat)(os:W5),l6 U k bs=Z os->bc os=R →
  RpL G H (dD bs (d.drop k)) os (LY M k bs)/\(LY M k bs).flatten.Nodup/\∀a∈(LY M k bs).flatten,∃j t,k<=j/\U[j]?=Z (Z (.ow t))/\a∈M j
 |[],k,os,h,_=>by
  cases h;refine⟨?_,Z5,λa h=>nomatch h⟩;cases d.drop k<;>exact .nil
 |false :: bs,k,os,h,g=>by
  obtain⟨f,o,n⟩:=tN s bs (k+1) os h g;refine⟨?_,o,λa C=>?_⟩
  ·rw[← Xb,List.drop_one]at f;cases q:d.drop k with
   |nil=>rw[q]at f;cases bs<;>(try rename_i b _;cases b)<;>exact f
   |cons v r=>rw[q]at f;exact f
  ·obtain⟨j,t,w,i⟩:=n a C;exact⟨j,t,by omega,i⟩
 |true :: bs,k,os,h,g=>by
  unfold l6 at h;split at h
  ·rename_i t l;obtain⟨⟨m,u⟩,e1,e2⟩:=Zz.mp h;split at e2
   ·rename_i x;obtain⟨S,P,rfl⟩:=Zy.mp e2;rw[bc,Zd]at g;obtain⟨f,o,n⟩:=tN s bs (k+1) S P g.2;have O:=kj e1;subst O;have X:m=k+1:=x;subst X;obtain⟨v,Y,N⟩:=s.rp k _ l;obtain⟨a,rfl,F,E⟩:=ly (show Rp (G.at (rm d)) H v (.obj 0 [(0,.bl R),(k+1,u)]) (M k) from N);have D:d[k]?=Z (.ref a):=F;have hd:d.drop k=.ref a :: d.drop (k+1):=by
     obtain⟨y,e⟩:=Zh.mp D;rw[List.drop_eq_getElem_cons y,e]
    refine⟨?_,?_,λb hb=>?_⟩
    ·rw[hd];exact .cons (E.at G.me g.1) f
    ·show (M k++(LY M (k+1) bs).flatten).Nodup;refine ZP.mpr ⟨s.nd k _ l,o,λb hb c A z=>?_⟩;subst z;obtain⟨j,p,w,i,Q⟩:=n b A;exact s.sep k j _ _ l i (by omega) b hb Q
    ·rcases ZY.mp (show b∈M k++(LY M (k+1) bs).flatten from hb) with z | z
     ·exact⟨k,_,Zm _,l,z⟩
     ·obtain⟨j,p,w,i⟩:=n b z;exact⟨j,p,by omega,i⟩
   ·cases e2
  ·cases h
end
section
variable{G:Gx}{P:P3}{w:SZ}{K:Xd}{mg:X6}{base:SL}
def VP{x l:Str}{st:Stmt}{f:KF}{fd:Pv}{N ps:List Str}{k np O:Nat}{mv:List Bool}{C:Sx}(F:GW K x l st f fd)(S:gV N ps (ai st))(hp:ps.length=np)(hn:N.length=O)(hb:∀(m:Me)(GS:KM)(A:Re)(outer:List PySem.Env)(s:GM)(H:Hp)(E:XK),p0 k (A.deeper (envOfC l (ai st) s.heap.objs.size f GS))->gF (G.at m) (iR Hi P w K mg base N l (ai st) f GS A outer s H E).Jm (aU st) C) :
  FnOk P w K mg base Hi (k+1) f fd ps (Mm G mv (Kl np O mv C)):=by
 refine F.ok S (λvs H Q E h=>?_) λGS A outer s H vs Q E hr h=>?_
 ·obtain⟨a,g,t0,d,F0,Fs,os,y,rfl,r0,r,rf,no,Su,hm,nd,sp,e,q⟩:=h;dsimp only[Kl]at e;split at e
  ·rename_i hl;rw[Zl,r.len.1,hl.1,hp]
  ·cases e
 ·obtain⟨a,g,t0,d,F0,Fs,os,y,rfl,r0,r,rf,no,Su,hm,nd,sp,e,q⟩:=h;refine⟨_,hb (rm (.ref a :: g)) GS A outer s H E hr,?_⟩;dsimp only[Kl]at e;split at e
  ·rename_i hl;obtain⟨o,e1,e2⟩:=Zz.mp e;have SO:∀(bs:List Bool)(d:W5)(k:Nat),bs.length=d.length->(markL k bs d).length=d.length:=by
    intro bs
    induction bs with
    |nil=>intro d k h;cases d<;>simp_all[markL]
    |cons b bs ih =>
     intro d k h;cases d with
     |nil=>simp at h
     |cons t d=>simp only[markL,Zl];rw[ih d (k+1) (by simpa using h)]
   have m1:=vb (m:=rm (.ref a :: g)) (bs:=mv) 1 (r.at (rm (.ref a :: g)) Su) rf (λj=>by rw[show 1+1+j=(1+j)+1 by omega];show (V.ref a :: g)[1+j]?=_;rw[Ww 1 j];rfl) hm;obtain⟨s0,J0⟩:=sU (mv:=mv) (Rp.mk (m:=1) (show (G.at (rm (.ref a :: g))).me 1=Z (.ref a) from rfl) (r0.at (rm (.ref a :: g)) no)) m1 (by rw[SO mv d 1 hm];exact hm) nd sp O (g.length+1) Y;rw[SO mv d 1 hm,hl.1]at s0 J0;have e3:L2.start N (V.ref a :: g)=(V.ref a :: g).map Z++List.replicate (O-(g.length+1)) L:=by
    unfold L2.start;rw[hn];rfl
   rw[e3];have Ng:∀b,bU (λi=>(F0 :: Fs).getD i []) ((Z (.ow (K9 1 t0)) :: List.zipWith jr mv (markL 1 mv d))++List.replicate (O-np) L) b->b∈Hv (R :: mv) (F0 :: Fs):=J0;have fin:∀{D:VS.Env}{X:GU}{J':L2.St}{p:Hp}{os:W5},l6 D 0 (R :: mv)=Z os->bc os=R->SR (G.at (rm (.ref a :: g))) X D J' p->GX (λi=>(F0 :: Fs).getD i []) ((Z (.ow (K9 1 t0)) :: List.zipWith jr mv (markL 1 mv d))++List.replicate (O-np) L) H X D p →
     ChI G H (R :: mv) (.ref a :: g) (F0 :: Fs) os p (LY X 0 (R :: mv)):=λ{D X J' p os} ho KP M fr=>by
    obtain⟨h1,h2,h3⟩:=tN M (R :: mv) 0 os ho KP;refine⟨fr.kept,λU o' Hr ho=>(fr.keep U o' ho λz=>Hr (Ng U z)).1,fr.G1,h1,h2,λU Hr=>?_⟩;obtain⟨j,t,_,a2,a3⟩:=h3 U Hr;rcases fr.ow U ⟨j,t,a2,a3⟩ with z | z
    ·exact .inl (Ng U z)
    ·exact .inr z
   refine⟨_,_,o,s0,e1,?_⟩;cases o with
   |nx D =>
    obtain⟨Uy,e4,J⟩:=Zz.mp e2;split at J
    ·rename_i hi;cases J;intro X J' p M fr;exact q .non p _ [] (fin e4 hi M fr) .non Z5 (λa h=>nomatch h) λa h=>nomatch h
    ·cases J
   |rt v D =>
    obtain⟨Uy,e4,J⟩:=Zz.mp e2;split at J
    ·rename_i hi;cases J;intro u p F' X J' M fr r' rf;rcases Aw hi.1 with z | ⟨n,HG,rfl,rfl,z⟩
     ·have:=r'.GR z;subst this;exact q u p _ [] (fin e4 hi.2 M fr) (r'.at G.me (lN _ z)) Z5 (λa h=>nomatch h) λa h=>nomatch h
     ·have ch:=fin e4 hi.2 M fr;exact q u p _ F' ch (r'.at G.me (qW z).2) rf.1 (new_apart ch.rp r' z) λa ha=>(rf.2 a ha).imp id (Ng a)
    ·cases J
   |bk D=>cases e2
   |ct D=>cases e2
  ·cases e
end
section
variable{G:Gx}
def SR.Qw{M M':GU}{U U':VS.Env}{J:L2.St}{H H2:Hp}{S:Nat->Prop}(s:SR G M U J H)(hl:U'.length=U.length)(m:∀j,¬S j->U'[j]?=U[j]?/\M' j=M j)(C:∀j,S j->∃t E v,U[j]?=Z (Z (.ow t))/\U'[j]?=Z (Z (.ow E))/\J[j]?=Z (Z v)/\Rp G H2 v E (M' j)/\(M' j).Nodup)(ap:∀i j,S i->S j->i≠j->∀a∈M' i,a∉M' j)(x:Kept H H2)(y:∀b o,(∀j,S j->b∉M j)->H b=Z o->H2 b=Z o)(G1:∀b,H b≠L->H2 b≠L)(A:∀j,S j->∀a∈M' j,(∃i,S i/\a∈M i)\/H a=L) :
  SR G M' U' J H2/\GX M U H M' U' H2:=by
 have P:∀j c,¬S j->U[j]?=Z (Z c)->∀a∈M j,∀i,S i->a∉M i:=λj c d F a u i f D=>by
  obtain⟨t,_,_,l,_⟩:=C i f;exact s.sep i j t c l F (λe=>d (e ▸ f)) a D u
 have new:∀i,S i->∀a∈M' i,∀j c,¬S j->U[j]?=Z (Z c)->a∉M j:=λi f a u j c d F D=>by
  rcases A i f a u with⟨k,hk,z⟩ | z
  ·exact P j c d F a D k hk z
  ·obtain⟨w,_,q⟩:=s.rp j c F;exact GV.jj (q.G1 a D) z
 refine⟨⟨hl.trans s.len,λi c h=>?_,λi t h=>?_,λi j t c l r n=>?_⟩,⟨λa o h n=>⟨y a o (λj d z=>?_) h,λz=>?_⟩,G1,λa h=>?_,λa h=>?_,x⟩⟩
 ·by_cases f:S i
  ·obtain⟨t,E,v,g,p,O,N,_⟩:=C i f;rw[p]at h;cases h;exact⟨v,O,N⟩
  ·obtain⟨g,p⟩:=m i f;rw[g]at h;obtain⟨v,X,Q⟩:=s.rp i c h;rw[p];exact⟨v,X,Q.keep x λa u o Y=>y a o (λj d=>P i c f h a u j d) Y⟩
 ·by_cases f:S i
  ·exact(C i f).choose_spec.choose_spec.choose_spec.2.2.2.2
  ·obtain⟨g,p⟩:=m i f;rw[g]at h;rw[p];exact s.nd i t h
 ·by_cases f:S i
  ·by_cases d:S j
   ·exact ap i j f d n
   ·obtain⟨g,p⟩:=m j d;rw[g]at r;rw[p];exact λa u=>new i f a u j c d r
  ·obtain⟨g,p⟩:=m i f;rw[g]at l;rw[p];by_cases d:S j
   ·exact λa u D=>new j d a D i _ f l u
   ·obtain⟨O,N⟩:=m j d;rw[O]at r;rw[N];exact s.sep i j t c l r n
 ·obtain⟨t,_,_,l,_⟩:=C j d;exact n ⟨j,t,l,z⟩
 ·obtain⟨j,t,l,r⟩:=z;by_cases d:S j
  ·rcases A j d a r with⟨i,f,z⟩ | z
   ·obtain⟨t,_,_,g,_⟩:=C i f;exact n ⟨i,t,g,z⟩
   ·rw[z]at h;cases h
  ·obtain⟨g,p⟩:=m j d;rw[g]at l;rw[p]at r;exact n ⟨j,t,l,r⟩
 ·obtain⟨j,t,l,r⟩:=h;by_cases d:S j
  ·rcases A j d a r with⟨i,f,z⟩ | z
   ·obtain⟨t,_,_,g,_⟩:=C i f;exact .inl ⟨i,t,g,z⟩
   ·exact .inr z
  ·obtain⟨g,p⟩:=m j d;rw[g]at l;rw[p]at r;exact .inl ⟨j,t,l,r⟩
 ·obtain⟨j,t,l,r⟩:=h;by_cases d:S j
  ·obtain⟨t,E,v,g,p,_⟩:=C j d;rw[p]at l;cases l
  ·obtain⟨g,p⟩:=m j d;rw[g]at l;rw[p]at r;exact .inl ⟨j,t,l,r⟩
end
inductive Ia where | io (i:Nat) (un:Bool) | ex (c:Ex)
def Lx(a:Bool):Option (W0)->Option T
 |some (some (.ow t))=>if a then (Kv t).map (·.2) else if oQ t then Z t else L
 |_=>L
def MS(v:Val):Option T:=match v.1 with
 |.bo=>if GR v.2 then Z v.2 else L
 |_=>Z v.2
def iQ(U:VS.Env):List Ia->Option (W5)
 |[]=>Z []
 |.io i un :: a=>(Lx un U[i]?).bind λt=>(iQ U a).map (t :: ·)
 |.ex c :: a=>(c U).bind λv=>(MS v).bind λt=>(iQ U a).map (t :: ·)
def HE:List Ia->List Bool
 |[]=>[]
 |.io _ _ :: a=>R :: HE a
 |.ex _ :: a=>B :: HE a
def Hj:List Ia->Wc
 |[]=>[]
 |.io i _ :: a=>i :: Hj a
 |.ex _ :: a=>Hj a
def pd(a:Bool)(c:Option (W0))(o:T):T:=if a then (match c with
 |some (some (.ow t))=>(match Kv t with
  |some z=>K9 z.1 o
  |none=>o)
 |_=>o) else o
def iL:List Ia->W5->VS.Env->VS.Env
 |.io i un :: a,o :: os,U=>iL a os (U.set i (Z (.ow (pd un U[i]? o))))
 |.ex _ :: a,os,U=>iL a os U
 |_,_,U=>U
def gY(a:List Ia)(g:W5->Option (W5×T)):Xx:=λU=>(iQ U a).bind λb=>if bc b=R/\(Hj a).Nodup then (g b).map λz=>((.fr,z.2),iL a z.1 U) else L
inductive Kf(M:GU)(U:VS.Env)(J:L2.St)(H:Hp):List Ia->List V->Xg->Prop
 |nil:Kf M U J H [] [] []
 |io {i:Nat} {un:Bool} {a:KF} {as:List Ia} {vs:List V} {Fs:Xg}:J[i]?=some (some (.ref a))->Kf M U J H as vs Fs->Kf M U J H (.io i un :: as) (.ref a :: vs) (M i :: Fs)
 |ex {c:Ex} {v:V} {F:X7} {as:List Ia} {vs:List V} {Fs:Xg}:(∀a∈F,H a=none\/dg M U a)->Kf M U J H as vs Fs->Kf M U J H (.ex c :: as) (v :: vs) (F :: Fs)
def Ui(G:Gx)(e:List Ia):TA:=λJ H Q=>∃M U d,SR G M U J H/\iQ U e=Z d/\∀a b f,aG H b->RpL G b a d f->Kf M U J H e a f->Q a b
def M8(G:Gx)(X:Cx)(a:List Expr)(b:List Ia):Prop:=PA X a (Ui G b)
section
variable{G:Gx}{X:Cx}{e:Expr}{es:List Expr}{as:List Ia}{c:Ex}{pos:Pos}
def zi{H:Hp}{v:V}{t:T}{F:X7}(r:Rp G H v t F)(h:oQ t=R):∃a,v=.ref a:=by
 cases r<;>first | exact⟨_,rfl⟩ | (cases h)
def Kf.mono{M:GU}{U:VS.Env}{J:L2.St}{H g:Hp}(e:aG H g){f:List Ia}{d:List V}{i:Xg}(h:Kf M U J g f d i):Kf M U J H f d i:=by
 induction h with
 |nil=>exact .nil
 |io h _ b=>exact .io h b
 |ex h _ b=>exact .ex (λa j=>(h a j).imp e.free id) b
def AX:M8 G X [] []:=PA.weak fO λJ H Q a=>by
 obtain⟨M,U,b,s,e,k⟩:=a;cases e;exact k [] H [] (aG.refl _) .nil .nil
def D5(i:Nat)(f:Bool){x:Str}(D:X.N[i]?=Z x)(q:IJ X.env.scope x)(C:K3 x)(d:K4 x)(y:M8 G X es as)(w:Pi (.Name x pos :: es) X.env=(B,eval (.Name x pos) X.env) :: Pi es X.env):M8 G X (.Name x pos :: es) (.io i f :: as) :=
 PA.weak (cA (fK D q C d) y w) λJ H Q z=>by
  obtain⟨M,U,j,s,e,k⟩:=z;obtain⟨t,e1,e2⟩:=Zz.mp (show (Lx f U[i]?).bind (λt=>(iQ U as).map (t :: ·))=Z j from e);obtain⟨Y,S,rfl⟩:=Zy.mp e2;unfold Lx at e1;split at e1
  ·rename_i l F;obtain⟨v,h,E⟩:=s.rp _ _ F;have b:Rp G H v l (M i):=E;have key:∃a,v=.ref a/\Rp G H (.ref a) t (M i):=by
    split at e1
    ·obtain⟨⟨m,u⟩,P,O⟩:=Zy.mp e1;cases O;rw[kj P]at b;obtain⟨a,o,_,n⟩:=ly b;exact⟨a,o,n⟩
    ·split at e1
     ·rename_i A;cases e1;obtain⟨a,rfl⟩:=zi b A;exact⟨a,rfl,b⟩
     ·cases e1
   obtain⟨a,rfl,r⟩:=key;exact⟨_,h,M,U,Y,s,S,λvs H' Fs g rp p=>k _ H' _ g (.cons (r.same g) rp) (.io h p)⟩
  ·cases e1
def xC(h:PV G X e c)(p:M8 G X es as)(o:K1 e es X):M8 G X (e :: es) (.ex c :: as) :=
 PA.weak (cA h p o) λJ H Q q=>by
  obtain⟨M,U,j,s,e,k⟩:=q;obtain⟨⟨m,t⟩,e1,e2⟩:=Zz.mp (show (c U).bind (λv=>(MS v).bind λt=>(iQ U as).map (t :: ·))=Z j from e);obtain⟨l,b,y⟩:=Zz.mp e2;obtain⟨z,x,rfl⟩:=Zy.mp y;refine⟨M,U,m,t,s,e1,λv D F d r f=>⟨M,U,z,s.same d,x,λC A E i rp n=>?_⟩⟩;have key:l=t/\∀a∈F,H a=L\/dg M U a:=by
   unfold MS at b;cases m with
   |fr=>cases b;exact⟨rfl,λa g=>.inl (f.2 a g)⟩
   |pu=>cases b;exact⟨rfl,f⟩
   |bo =>
    dsimp only at b;split at b
    ·rename_i u;cases b;rw[r.GR u];exact⟨rfl,λa g=>nomatch g⟩
    ·cases b
  obtain⟨rfl,w⟩:=key;exact k _ A _ (d.trans i) (.cons (r.same i) rp) (.ex w (n.mono d))
end
section
variable{G:Gx}{M:GU}{U:VS.Env}{J:L2.St}{H:Hp}
structure ZG(G:Gx)(M:GU)(U:VS.Env)(J:L2.St)(H:Hp)(as:List Ia)(ts:W5)(vs:List V)(Fs:Xg):Prop where
 ref:∀v∈dD (HE as) vs,∃b,v=.ref b
 len:(HE as).length=ts.length
 mv:∀a,a∈Hv (HE as) Fs ↔ ∃j∈Hj as,a∈M j
 pu:∀a∈Jw (HE as) Fs,H a=none\/dg M U a
 ow:∀i un,Ia.io i un∈as->∃t a,U[i]?=some (some (.ow t))/\J[i]?=some (some (.ref a))/\(un=true->∃m u,Kv t=some (m,u)/\G.me m=some (.ref a))
 nd:(Hj as).Nodup->(Hv (HE as) Fs).Nodup
theorem jz:∀{a:List Ia}{i:Nat},i∈Hj a ↔ ∃un,Ia.io i un∈a
 |[],i=>⟨(λh=>nomatch h),λ⟨_,h⟩=>nomatch h⟩
 |.io j un :: a,i=>by
  show i∈j :: Hj a↔_;rw[Zi,jz];constructor
  ·rintro (rfl | ⟨u,h⟩)
   ·exact⟨un,Zt⟩
   ·exact⟨u,Zu _ h⟩
  ·rintro⟨u,h⟩;rcases Zi.mp h with h | h
   ·cases h;exact .inl Y
   ·exact .inr ⟨u,h⟩
 |.ex c :: a,i=>by
  show i∈Hj a↔_;rw[jz];exact⟨λ⟨u,h⟩=>⟨u,Zu _ h⟩,λ⟨u,h⟩=>by
   rcases Zi.mp h with h | h
   ·cases h
   ·exact⟨u,h⟩⟩
def x5(s:SR G M U J H):∀{d:List Ia}{q:W5}{o:List V}{l:Xg},iQ U d=Z q->Kf M U J H d o l->ZG G M U J H d q o l:=by
 intro d
 induction d with
 |nil =>
  intro q o l e r;cases e;cases r;exact⟨(λv h=>nomatch h),rfl,λa=>⟨(λh=>nomatch h),λ⟨_,h,_⟩=>nomatch h⟩,(λa h=>nomatch h),(λi un h=>nomatch h),λ_=>Z5⟩
 |cons x d O =>
  intro q o l e r;cases r with
  |@io i un a _ o l h r =>
   obtain⟨t,e1,e2⟩:=Zz.mp (show (Lx un U[i]?).bind (λt=>(iQ U d).map (t :: ·))=Z q from e);obtain⟨N,e3,rfl⟩:=Zy.mp e2;have f:=O e3 r;have hi:∃p,U[i]?=Z (Z (.ow p))/\(un=R->∃m u,Kv p=Z (m,u)/\G.me m=Z (.ref a)):=by
    unfold Lx at e1;split at e1
    ·rename_i p w;refine⟨p,w,λE=>?_⟩;rw[E,Zq Y]at e1;obtain⟨⟨m,u⟩,A,g2⟩:=Zy.mp e1;obtain⟨v,P,h2⟩:=s.rp _ _ w;rw[h]at P;cases P;have Q:Rp G H (.ref a) p (M i):=h2;rw[kj A]at Q;obtain⟨a',q1,q2,_⟩:=ly Q;cases q1;exact⟨m,u,A,q2⟩
    ·cases e1
   obtain⟨p,w,E⟩:=hi;have UJ:∀b,b∈M i++Hv (HE d) l ↔ ∃j∈i :: Hj d,b∈M j:=λb=>by
    rw[ZY,f.mv];constructor
    ·rintro (z | ⟨j,n,z⟩)
     ·exact⟨i,Zt,z⟩
     ·exact⟨j,Zu _ n,z⟩
    ·rintro⟨j,n,z⟩;rcases Zi.mp n with rfl | n
     ·exact .inl z
     ·exact .inr ⟨j,n,z⟩
   refine⟨λv D=>?_,?_,UJ,?_,λC y g=>?_,λnd=>?_⟩
   ·rcases Zi.mp (show v∈V.ref a :: dD (HE d) o from D) with rfl | D
    ·exact⟨a,rfl⟩
    ·exact f.ref v D
   ·show (HE d).length+1=N.length+1;rw[f.len]
   ·exact λb hb=>f.pu b hb
   ·rcases Zi.mp g with g | g
    ·cases g;exact⟨p,a,w,h,E⟩
    ·exact f.ow C y g
   ·have S:=Zf.mp (show (i :: Hj d).Nodup from nd);show (M i++Hv (HE d) l).Nodup;refine ZP.mpr ⟨s.nd i _ w,f.nd S.2,λb hb b' Hr z=>?_⟩;subst z;obtain⟨j,n,z⟩:=(f.mv b).mp Hr;obtain⟨y,Km⟩:=jz.mp n;obtain⟨X,_,A,_⟩:=f.ow j y Km;exact s.sep i j _ _ w A (λe=>S.1 (e ▸ n)) b hb z
  |@ex c v F _ o l h r =>
   obtain⟨⟨m,t⟩,e1,e2⟩:=Zz.mp (show (c U).bind (λv=>(MS v).bind λt=>(iQ U d).map (t :: ·))=Z q from e);obtain⟨X,_,e4⟩:=Zz.mp e2;obtain⟨N,e5,rfl⟩:=Zy.mp e4;have f:=O e5 r;refine⟨f.ref,?_,f.mv,λa ha=>?_,λC y g=>?_,f.nd⟩
   ·show (HE d).length+1=N.length+1;rw[f.len]
   ·rcases ZY.mp (show a∈F++Jw (HE d) l from ha) with z | z
    ·exact h a z
    ·exact f.pu a z
   ·rcases Zi.mp g with g | g
    ·cases g
    ·exact f.ow C y g
def vW{H2:Hp}:∀{d:List Ia}{vs:List V}{Fs:Xg}{os:W5}{Gs:Xg}{U:VS.Env},(∀i un,Ia.io i un∈d->∃t a,U[i]?=Z (Z (.ow t))/\J[i]?=Z (Z (.ref a))/\(un=R->∃m u,Kv t=Z (m,u)/\G.me m=Z (.ref a)))->(Hj d).Nodup →
  (∀(n:Nat)(v:V),(dD (HE d) vs)[n]?=Z v->∃i:Nat,(Hj d)[n]?=Z i/\J[i]?=Z (Z v))->RpL G H2 (dD (HE d) vs) os Gs->(dD (HE d) vs).length=(Hj d).length →
  (iL d os U).length=U.length/\(∀j:Nat,j∉Hj d->(iL d os U)[j]?=U[j]?)/\∀(n j:Nat),(Hj d)[n]?=Z j->∃(t l:T)(v:V)(F:X7),U[j]?=Z (Z (Cell.ow t))/\(iL d os U)[j]?=Z (Z (Cell.ow l))/\J[j]?=Z (Z v)/\Gs[n]?=Z F/\Rp G H2 v l F:=by
 intro d
 induction d with
 |nil=>intro vs Fs os Gs U _ _ _ r _;exact⟨rfl,λ_ _=>rfl,λn j h=>by simp[Hj]at h⟩
 |cons x d A =>
  intro vs Fs os Gs U ow nd al r q;cases x with
  |ex c =>
   cases vs with
   |nil =>
    have e:(dD (HE (.ex c :: d)) ([]:List V))=[]:=rfl;have e2:Hj d=[]:=YK.mp (by rw[e]at q;exact q.symm);rw[e]at r;cases r;obtain⟨N,s,E⟩:=A (vs:=[]) (os:=[]) (Gs:=[]) (Fs:=Fs) (U:=U) (λi un h=>ow i un (Zu _ h)) nd (λn v h=>by cases HE d<;>(try rename_i b _;cases b)<;>simp[dD]at h) (by cases HE d<;>(try rename_i b _;cases b)<;>exact .nil) (by rw[e2];cases HE d<;>(try rename_i b _;cases b)<;>rfl);exact⟨N,s,E⟩
   |cons v vs=>exact A (Fs:=Fs) (λi un h=>ow i un (Zu _ h)) nd al r q
  |io i un =>
   have y:=Zf.mp (show (i :: Hj d).Nodup from nd);cases vs with
   |nil=>simp[HE,dD,Hj]at q
   |cons v vs =>
    cases r with
    |@cons _ o F _ os Gs O r =>
     obtain⟨t,a,D,Q,hu⟩:=ow i un Zt;have Vn:i<U.length:=(Zh.mp D).1;have hv:v=.ref a:=by
      obtain⟨p,g,f⟩:=al 0 v Y;cases (show Z i=Z p from g);rw[Q]at f;cases f;rfl
     subst hv;obtain⟨N,s,E⟩:=A (vs:=vs) (os:=os) (Gs:=Gs) (Fs:=Fs) (U:=U.set i (Z (.ow (pd un U[i]? o)))) (λp X h=>by
      obtain⟨l,a',g,f⟩:=ow p X (Zu _ h);have ne:i≠p:=λe=>y.1 (e ▸ jz.mpr ⟨X,h⟩);exact⟨l,a',by rw[Yp ne];exact g,f⟩) y.2 (λn w h=>by
      obtain⟨p,g,f⟩:=al (n+1) w h;exact⟨p,g,f⟩) r (by simpa[HE,dD,Hj] using q)
     refine⟨by rw[show iL (.io i un :: d) (o :: os) U=iL d os (U.set i (Z (.ow (pd un U[i]? o)))) from rfl,N,Z8],λj P=>?_,λn j C=>?_⟩
     ·have S:j≠i/\j∉Hj d:=⟨λe=>P (e ▸ Zt),λz=>P (Zu _ z)⟩
      exact(s j S.2).trans (Yp (Ya S.1))
     ·cases n with
      |zero =>
       cases (show Z i=Z j from C);refine⟨t,_,.ref a,F,D,(s i y.1).trans (Xs Vn),Q,rfl,?_⟩;cases un with
       |false=>exact O
       |true =>
        obtain⟨m,u,g,f⟩:=hu Y;have:pd R U[i]? o=K9 m o:=by
         unfold pd;rw[Zq Y,D];show (match Kv t with | some z=>K9 z.1 o | none=>o)=_;rw[g]
        rw[this];exact .mk f O
      |succ n =>
       obtain⟨l,t2,v',F',g,f,g3,g4,g5⟩:=E n j C;have ne:i≠j:=λe=>y.1 (e ▸ Yj (show (Hj d)[n]?=Z j from C));rw[Yp ne]at g;exact⟨l,t2,v',F',g,f,g3,g4,g5⟩
def Fo{j:Hp}:∀{b:List Ia}{d:List V}{f:Xg},Kf M U J j b d f->(∀(n:Nat)(v:V),(dD (HE b) d)[n]?=Z v->∃i:Nat,(Hj b)[n]?=Z i/\J[i]?=Z (Z v))/\(dD (HE b) d).length=(Hj b).length:=by
 intro b d f r
 induction r with
 |nil=>exact⟨λn v h=>by simp[HE,dD]at h,rfl⟩
 |@io i un a b d f h _ e =>
  refine⟨λn v g=>?_,by simpa[HE,dD,Hj] using e.2⟩;cases n with
  |zero=>cases (show Z (V.ref a)=Z v from g);exact⟨i,rfl,h⟩
  |succ n=>exact e.1 n v g
 |ex _ _ e=>exact e
end
section
variable{G:Gx}{X:Cx}{k:Nat}{f:KF}{fd:Pv}{ps:List Str}{x:Str}{p pos:Pos}{e:Expr}{es:List Expr}{as:List Ia}{i:Nat}{un:Bool}{g:W5->Option (W5×T)}
structure Nu(M:GU)(U:VS.Env)(H:Hp)(M':GU)(U':VS.Env)(F:X7):Prop where
 nd:F.Nodup
 ap:∀j c,U'[j]?=some (some c)->∀a∈F,a∉M' j
 of:∀a∈F,H a=none\/bU M U a
def Uc(G:Gx)(x:Xx):TE:=λJ H Q=>∃M U v a,SR G M U J H/\x U=Z (v,a)/\∀u b d F,SR G d a J b->GX M U H d a b->Rp G b u v.2 F->Nu M U H d a F->Q u b
def PXN(G:Gx)(X:Cx)(e:Expr)(x:Xx):Prop:=PE X e (Uc G x)
def PXN.px{x:Xx}(h:PXN G X e x):PX G X e x:=PE.weak h λJ H Q b=>by
 obtain⟨M,U,v,j,s,e,d,k⟩:=b;exact⟨M,U,v,j,s,e,λu m l F a f r _=>k u m l a f (r.GR d ▸ r)⟩
def Nu.back{M h j:GU}{U b d:VS.Env}{H l:Hp}{F:X7}(f:GX M U H h b l)(n:Nu h b l j d F):Nu M U H j d F :=
 ⟨n.nd,n.ap,λa m=>(n.of a m).elim (λz=>.inl (f.none z)) λz=>(f.ow a z).elim .inr .inl⟩
def og{M:GU}{U U':VS.Env}{J:L2.St}{H H1:Hp}{v:Val}{ts:W5}{vs:List V}{Fs:Xg}{Q:VK}{E:XK}(s:SR G M U J H)(e:gY (.io i un :: as) g U=Z (v,U'))(e0:iQ U (.io i un :: as)=Z ts)(sm:aG H H1)(rp:RpL G H1 vs ts Fs)(ia:Kf M U J H (.io i un :: as) vs Fs)(kq:∀u P M' F,SR G M' U' J P->GX M U H M' U' P->Rp G P u v.2 F->Nu M U H M' U' F->Q u P):Mm G (HE as) g vs H1 Q E:=by
 unfold gY at e;rw[e0,Zx]at e;have e2:=e;have e1:=e0;split at e2
 ·rename_i O;obtain⟨⟨os,y⟩,eg,e3⟩:=Zy.mp e2
  ·cases e3;have r:=x5 s e1 ia;have al:=Fo ia;cases ia with
   |@io _ _ a _ us Fs hσ ia =>
    cases rp with
    |@cons _ t0 _ _ HG _ r0 rp =>
     have no:eJ t0=R/\bc HG=R:=by
      have:=O.1;rw[bc,Zd]at this;exact this
     refine⟨a,us,t0,HG,M i,Fs,os,y,rfl,r0,rp,λv hv=>r.ref v (Zu _ hv),no.1,no.2,by simpa[HE] using r.len,r.nd O.2,λb hb Hr=>?_,eg,λu P Gs Fu ch ru VO fap VN=>?_⟩
     ·obtain⟨j,d,z⟩:=(r.mv b).mp hb;obtain⟨JX,Y⟩:=jz.mp d;obtain⟨t,_,A,_⟩:=r.ow j JX Y;rcases r.pu b Hr with q | ⟨j2,t2,N,D⟩
      ·exact GV.jj (s.Hg ⟨j,t,A,z⟩) q
      ·refine s.sep j j2 t _ A N (λe=>?_) b z D;rw[e,N]at A;cases A
     ·obtain⟨p1,p2,p3⟩:=vW (Fs:=[]) (U:=U) r.ow O.2 al.1 ch.rp al.2;have at_:∀j,j∈Hj (.io i un :: as)->∃n F,(Hj (.io i un :: as))[n]?=Z j/\n=(Hj (.io i un :: as)).idxOf j/\Gs[n]?=Z F:=λj d=>by
       have hn:=Y8.mpr d;have:(Hj (.io i un :: as))[(Hj (.io i un :: as)).idxOf j]?=Z j:=by
        rw[Zr hn,X3]
       obtain⟨_,_,_,F,_,_,_,q,_⟩:=p3 _ j this;exact⟨_,F,this,rfl,q⟩
      have Φe:∀j,j∈Hj (.io i un :: as)->(if j∈Hj (.io i un :: as) then Gs.getD ((Hj (.io i un :: as)).idxOf j) [] else M j)=Gs.getD ((Hj (.io i un :: as)).idxOf j) []:=λj d=>Zq d;obtain⟨z1,z2⟩:=s.Qw (S:=λj=>j∈Hj (.io i un :: as)) (H2:=P) (U':=iL (.io i un :: as) os U) (M':=λj=>if j∈Hj (.io i un :: as) then Gs.getD ((Hj (.io i un :: as)).idxOf j) [] else M j) p1 (λj d=>⟨p2 j d,Zp d⟩) (λj d=>by
       obtain⟨n,F,N,D,m⟩:=at_ j d
       obtain⟨t,t',v,F',w1,w2,w3,w4,w5⟩:=p3 n j N;rw[m]at w4;cases w4;have eF:(if j∈Hj (.io i un :: as) then Gs.getD ((Hj (.io i un :: as)).idxOf j) [] else M j)=F:=by rw[Φe j d,← D,Zs,m];rfl
       refine⟨t,t',v,w1,w2,w3,?_,?_⟩
       ·rw[eF];exact w5
       ·rw[eF];exact ch.nd.sublist (cJ m)) (λj j' d Y n a l C=>by
       rw[Φe j d]at l;rw[Φe j' Y]at C;obtain⟨n1,F,N,D,m⟩:=at_ j d
       obtain⟨n2,F',NL,PN,Sk⟩:=at_ j' Y
       rw[← D,Zs,m]at l;rw[← PN,Zs,Sk]at C;exact pB ch.nd m Sk (λe=>n (by rw[e,NL]at N;exact(Zn N).symm)) l C) ((Kept.of sm).trans ch.kept) (λb o hb ho=>ch.keep b o (λz=>by
       obtain⟨j,d,z'⟩:=(r.mv b).mp z;exact hb j d z') (sm b o ho)) (λb h=>ch.G1 b λz=>h (sm.free z)) (λj d a l=>by
       rw[Φe j d]at l;obtain⟨n1,F,N,D,m⟩:=at_ j d
       rw[← D,Zs,m]at l;rcases ch.sub a ((cJ m).subset l) with z | z
       ·exact .inl ((r.mv a).mp z)
       ·exact .inr (sm.free z))
      have Ol:∀a∈Fu,H a=L\/∃j t,j∈Hj (.io i un :: as)/\U[j]?=Z (Z (.ow t))/\a∈M j:=λa l=>by
       rcases VN a l with z | z
       ·exact .inl (sm.free z)
       ·obtain⟨j,d,z'⟩:=(r.mv a).mp z;obtain⟨JX,Y⟩:=jz.mp d;obtain⟨t,_,A,_⟩:=r.ow j JX Y;exact .inr ⟨j,t,d,A,z'⟩
      refine kq u P _ Fu z1 z2 ru ⟨VO,λj c O a l C=>?_,λa l=>(Ol a l).imp id λ⟨j,t,_,A,g2⟩=>⟨j,t,A,g2⟩⟩;by_cases d:j∈Hj (.io i un :: as)
      ·rw[Φe j d]at C;obtain⟨n1,F,N,D,m⟩:=at_ j d
       rw[← D,Zs,m]at C;exact fap a l ((cJ m).subset C)
      ·rw[Zp d]at C;rw[p2 j d]at O;rcases Ol a l with z | ⟨j2,t,g0,A,g2⟩
       ·obtain⟨w,_,q⟩:=s.rp j c O;exact GV.jj (q.G1 a C) z
       ·exact s.sep j2 j t c A O (λe=>d (e ▸ g0)) a g2 C
 ·cases e2
def zh(F:FnOk X.prog X.w X.K X.mg X.base Hi k f fd ps (Mm G (HE as) g))(q:p0 k X.A)(z:Gl X x)(t:X.mg x=Z (.ref f))(y:PySem.W.keepIn X.K (.ref f)=R)(D:Binds X.K fd ps [])(N:M8 G X (e :: es) (.io i un :: as))(S:K3 x)(C:K1 e es X)(a:K2 pos es X):PX G X (.Call (.Name x p) (e :: es) [] pos) (gY (.io i un :: as) g) :=
 PE.weak (mL (E:=E0) F q z t y D .nil g9 N S C a) λJ H Q h=>by
  obtain⟨M,U,v,U',s,e,P,n⟩:=h;have b:=e;unfold gY at b;obtain⟨j,e1,_⟩:=Zz.mp b;refine⟨M,U,j,s,e1,λd Y Fs l rp o=>?_⟩;show Mm G (HE as) g (d++[]) Y Q _;rw[Zg];exact og s e e1 l rp o λu H' O F m f r _=>n u H' O m f (r.GR P ▸ r)
end
def Nr(c:Ex):Ex:=λU=>(c U).bind λv=>(Kv v.2).map λz=>(v.1,z.2)
abbrev Xt:=VS.Env->Option (Bool×VS.Env)
def R9(G:Gx)(x:Xt):TT:=λJ H Q=>∃M U b a,SR G M U J H/\x U=Z (b,a)/\∀d e,SR G e a J d->GX M U H e a d->Q b d
def M7(G:Gx)(X:Cx)(e:Expr)(x:Xt):Prop:=PT X e (R9 G x)
def OG(G:Gx)(X:Cx)(e:Expr)(x:Xt):Prop:=PW X e (R9 G x)
def Kh(x:Xx):Xt:=λU=>(x U).bind λz=>match z.1.2 with
 |.bl b=>Z (b,z.2)
 |_=>L
def p5(x:Xt)(a b:Sx):Sx:=λU=>(x U).bind λz=>if z.1 then a z.2 else b z.2
section
variable{G:Gx}{X:Cx}{e a b:Expr}{rest:List Expr}{c cb:Ex}{x:Xx}{xt:Xt}{pos pos':Pos}{c1 c2:Sx}
def FV(h:PV G X e c):PV G X e (Nr c):=PE.weak h λJ H Q l=>by
 obtain⟨M,U,m,t,s,e,k⟩:=l;obtain⟨⟨j,y⟩,e1,e2⟩:=Zz.mp e;obtain⟨⟨n,u⟩,p,o⟩:=Zy.mp e2;cases o;refine⟨M,U,j,y,s,e1,λv g F i r f=>k v g F i ?_ f⟩;have d:Rp G g v y F:=r;rw[kj (show Kv y=Z (n,u) from p)]at d;obtain⟨a,rfl,_,q⟩:=ly d;exact q
def OG.Uv(h:OG G X e xt):M7 G X e xt:=PW.pt h
def tJ{h f:List Stmt}(l:M7 G X e xt)(n:gF G X h c1)(m:gF G X f c2):PSV G X (.If e h f pos) (p5 xt c1 c2):=PS.weak (Co l n m) λD J H j=>by
 obtain⟨M,U,o,s,e,k⟩:=j;obtain⟨⟨g,d⟩,e1,e2⟩:=Zz.mp e;refine⟨M,U,g,d,s,e1,λp i s1 f1=>?_⟩;cases g with
 |true=>exact uv ⟨i,d,o,s1,e2,k.back f1⟩
 |false=>exact uq ⟨i,d,o,s1,e2,k.back f1⟩
end
structure IoAt(P:P3)(w:SZ)(K:Xd)(mg:X6)(base:SL)(k:Nat)(x:Str)(ps:List Str)(G:Gx)(mv:List Bool)(g:W5->Option (W5×T)):Prop where
 ex:∃f fd,FnOk P w K mg base Hi k f fd ps (Mm G mv g)/\mg x=some (.ref f)/\PySem.W.keepIn K (.ref f)=true/\Binds K fd ps []
section
variable{P:P3}{w:SZ}{K:Xd}{mg:X6}{base:SL}{k:Nat}{G:Gx}{x:Str}{ps:List Str}{mv:List Bool}
def nO{a:Stmt}{f:KF}{i:Pv}{N:List Str}{g h:Nat}{b:Sx}(F:GW K x x a f i)(n:mg x=Z (.ref f))(S:gV N ps (ai a))(j:ps.length=g)(l:N.length=h)(p:∀(kV doc pm:KM)(an:Option KF)(d ct:KM)(e:Wf),e.length=ps.length->bindArgs (PySem.W.fnOf x x (cR a) (aU a) (ai a) .none kV doc pm an d ct) ⟨e,[]⟩=pure (ps.zip e))(o:∀(m:Me)(d:KM)(A:Re)(outer:List PySem.Env)(s:GM)(H:Hp)(E:XK),p0 k (A.deeper (envOfC x (ai a) s.heap.objs.size f d))->gF (G.at m) (iR Hi P w K mg base N x (ai a) f d A outer s H E).Jm (aU a) b) :
  IoAt P w K mg base (k+1) x ps G mv (Kl g h mv b):=⟨f,i,VP F S j l o,n,F.kp,F.binds p⟩
end
section
variable{G:Gx}{X:Cx}{e a b:Expr}{es rest:List Expr}{as:List Ia}{c cb:Ex}{xc:Xx}{xt:Xt}{p pos pos':Pos}{c1 c2:Sx}{i k k':Nat}{un:Bool}{x:Str}{ps:List Str}{g:W5->Option (W5×T)}{way:List Jg}
def zY(F:IoAt X.prog X.w X.K X.mg X.base k x ps G (HE as) g)(h:p0 k' X.A)(n:M8 G X (e :: es) (.io i un :: as))(j:k<=k')(l:Gl X x)(t:K3 x)(m:K1 e es X)(d:K2 pos es X) :
  PX G X (.Call (.Name x p) (e :: es) [] pos) (gY (.io i un :: as) g):=by
 obtain⟨f,fd,s,r,q,o⟩:=F.ex;exact zh s (h.mono j) l r q o n t m d
end
end VS
end
section
namespace VS
open PySem PySem.Spec PyProof.Rows L2
section
variable{G:Gx}{X:Cx}{e b:Expr}{ck ce:Ex}{pos pos' p1:Pos}{kr:Nat}
def nu{a b c:Expr}{g f d:Ex}(o:PV G X a g)(n:PV G X b f)(l:PV G X c d)(j:lastMarks [.Lt,.Lt] [b,c]=B):ID G X (.Compare a [.Lt,.Lt] [b,c] pos) (fh oLt oLt g f d) :=
 PT.weak (sD nW nW o n l j) λJ H Q h=>nH h (λU m r e=>by
  unfold fh at e;obtain⟨x,v,e⟩:=Zz.mp e;obtain⟨y,u,e⟩:=Zz.mp e;obtain⟨⟨p,z⟩,s,e⟩:=Zz.mp e;cases z with
  |bl q =>
   cases q with
   |false=>cases e;exact⟨_,rfl⟩
   |true =>
    obtain⟨i,t,e⟩:=Zz.mp (show (d U).bind (λz=>oLt y z)=Z (m,r) from e);exact kG y i m r e
  |_=>cases e) λQ h=>qN sG sG h
end
def mS(z:Tx):Tx:=pick z (Builtin.Str.strSliceIndices L L (-1) z.length)
def Aj(c:Ex):Ex:=λU=>(c U).bind λv=>match v.2 with
 |.str z=>Z (.fr,.str (mS z))
 |_=>L
def AW(n:Nat):Builtin.Str.strSliceIndices L L (-1) n=sliceRange (sliceBounds L L (Z (-1)) n).1 (sliceBounds L L (Z (-1)) n).2.1 (sliceBounds L L (Z (-1)) n).2.2:=rfl
def rS(z:Tx):(mS z).length<=z.length:=by
 unfold mS;rw[AW];exact sM z L L (Z (-1))
def zF{z:Tx}{c:Nat}(h:c∈mS z):c∈z:=xH _ _ h
section
variable{G:Gx}{X:Cx}{a:Expr}{ca:Ex}{pos:Pos}
def Gf:V->Option Int->Option Int->Option Int->Hp->VK->Prop:=λx lo b st H Q=>lo=L/\b=L/\st=Z (-1)/\∃z,x=.str (sx z)/\z.length<=KB/\Q (.str (sx (mS z))) H
def CM:De X Gf:=by
 intro d s J H x v A w y lo f st C Q I j o m pu ps h;obtain⟨rfl,rfl,rfl,z,rfl,n,q⟩:=h;obtain⟨t,rfl⟩:=j;obtain⟨l,rfl,r⟩:=part_of m;obtain⟨u,rfl,p⟩:=part_of pu;obtain⟨st,rfl,g⟩:=part_of ps;cases l with
 |some l=>cases r
 |none =>
  cases u with
  |some u=>cases p
  |none =>
   cases st with
   |none=>cases g
   |some st =>
    obtain⟨i,b⟩:=st;have f:i=-1:=(Zn g).symm;subst f;refine⟨"str",_,F.slot_str_getitem.lookup,typeIs_str s (sx z) t,wpAny_getItem_str_slice (l:=L) (u:=L) (st:=Z (-1,b)) o Y ?_⟩;have e:sliceMade (sx z) t L L (Z (-1,b))=.str (sx (mS z)):=by
     unfold sliceMade;rw[Zp (by show ¬((-1:Int)==1&&_)=R;rw[show ((-1:Int)==1)=B from rfl,Bool.false_and];exact Za)];have e2:((slicePicked (sx z) L L (Z (-1,b))).filterMap ((sx z).cps[·]?))=mS z:=by
      show (Builtin.Str.strSliceIndices L L (-1) (sx z).length).filterMap (z.toArray[·]?)=pick z (Builtin.Str.strSliceIndices L L (-1) z.length);unfold pick;rw[dB];simp only[Xn]
     rw[e2];rfl
    rw[e];refine⟨?_,.str _,H,I.tok _,⟨_,rfl⟩,q⟩;show (mS z).toArray.size<=_;rw[Ze];exact ZJ (rS z) n
def w_rev{f:Expr}{h:Pos}(n:PV G X a ca)(b:LK G X L L)(q:LK G X (Z f) (Z (Q2 (-1)))):PV G X (.Subscript a (.Slice L L (Z f) h) pos) (Aj ca) :=
 PE.weak (oR CM n b b q) λJ H Q j=>by
  obtain⟨M,U,m,t,s,e,k⟩:=j;unfold Aj at e;obtain⟨⟨i,x⟩,o,d⟩:=Zz.mp e;dsimp only at d;split at d
  ·rename_i z;cases d;refine⟨M,U,i,_,s,o,λv y F e1 r1 f1=>⟨M,U,L,s.same e1,rfl,λw e2=>⟨M,U,L,(s.same e1).same e2,rfl,λu g=>⟨M,U,Z (-1),((s.same e1).same e2).same g,rfl,λr p=>?_⟩⟩⟩⟩;obtain⟨rfl,b⟩:=r1.str_inv;exact⟨rfl,rfl,rfl,z,rfl,b.1,k _ r [] (((e1.trans e2).trans g).trans p) (.str _ ⟨ZJ (rS z) b.1,λc l=>b.2 c (zF l)⟩) Fp.nil⟩
  ·cases d
end
def xI(c:Ex):Xx:=λU=>(c U).bind λv=>if GR v.2=R then Z ((.fr,v.2),U) else L
def x2(f:Val->Val->W4)(a b:Xx):Xx:=λU=>(a U).bind λz=>(b z.2).bind λw=>(f (.fr,z.1.2) (.fr,w.1.2)).bind λv=>if GR z.1.2=R/\GR w.1.2=R/\GR v.2=R then Z ((.fr,v.2),w.2) else L
def iY(c:Ex)(x:Xt):Xt:=λU=>(c U).bind λv=>(Nb v.2).bind λb=>if b then x U else Z (B,U)
def lZ(c:Ex)(b:Xx):Xx:=λU=>(c U).bind λx=>match x with
 | (.fr,.lst a)=>(b U).bind λz=>match z.1.2 with
  |.int i=>(HI a.length i).bind λj=>(a[j]?).bind λt=>if d6 a=R/\GR t=R then Z ((.fr,t),z.2) else L
  |_=>L
 |_=>L
def o7(n:Nat)(b:Xx):Xx:=λU=>match (U[n]?:Option (W0)) with
 |some (some _)=>(b U).bind λz=>match z.1.2,(z.2[n]?:Option (W0)) with
  |.int i,some (some c)=>(match i4 c with
   |.lst a=>(HI a.length i).bind λj=>(a[j]?).bind λt=>if GR t=R then Z ((.fr,t),z.2) else L
   |_=>L)
  |_,_=>L
 |_=>L
section
variable{G:Gx}{X:Cx}{e a b:Expr}{rest:List Expr}{ca cb:Ex}{xa xb:Xx}{xt:Xt}{pos:Pos}{f:Val->Val->W4}{r:R2}
def ay(h:PV G X e ca):PX G X e (xI ca):=PE.weak h λJ H Q g=>by
 obtain⟨M,U,v,n,s,e,l,k⟩:=g;obtain⟨⟨m,t⟩,e1,e2⟩:=Zz.mp e;split at e2
 ·rename_i i;cases e2;refine⟨M,U,m,t,s,e1,λu j F d r f=>k u j M (s.same d) (GX.same d) ?_⟩;have:=r.GR i;subst this;exact r
 ·cases e2
def yo(x:fF G r f){J:L2.St}{H:Hp}{Q:VK}(h:tX G (x2 f xa xb) J H Q):Nc r (tX G xa) (tX G xb) J H Q:=by
 obtain⟨M,U,v,O,s,e,E,k⟩:=h;obtain⟨z,A,e1⟩:=Zz.mp e;obtain⟨w,y,e2⟩:=Zz.mp e1;obtain⟨⟨m,t⟩,ef,g⟩:=Zz.mp e2;split at g
 ·rename_i d;cases g;refine⟨M,U,z.1,z.2,s,A,d.1,λq P C s1 f1 r1=>⟨C,z.2,w.1,w.2,s1,y,d.2.1,λp n l u f2 r2=>?_⟩⟩;refine x l w.2 n n (.fr,z.1.2) (.fr,w.1.2) q p [] [] m t Q ⟨aG.refl _,r1.keep f2.kept (λa h=>nomatch h),r2,Fp.nil,Fp.nil,λ_ _=>Z5⟩ ef λo D F i j N=>k o D l (u.same i) ((f1.trans f2).trans (GX.same i)) ?_;have:=j.GR d.2.2;subst this;exact j
 ·cases g
def Cq{d:Operator}(i:OpR X (binaryOp d) r)(g:fF G r f)(l:PX G X a xa)(j:PX G X b xb):PX G X (.BinOp a d b pos) (x2 f xa xb):=PE.weak (zb i l j) λJ H Q h=>yo g h
def pL{d:CmpOp}(l:OpR X (SC d) r)(j:fF G r f)(p:PX G X a xa)(o:PX G X b xb)(n:behindInMarks d b=B):M7 G X (.Compare a [d] [b] pos) (Kh (x2 f xa xb)):=PT.weak (u7 l p o n) λJ H Q h=>by
 obtain⟨M,U,b,w,s,e,k⟩:=h;obtain⟨⟨⟨m,t⟩,v⟩,e1,e2⟩:=Zz.mp e;dsimp only at e2;split at e2
 ·cases e2;exact yo (Q:=λx g=>∃k,x=.bl k/\Q k g) j ⟨M,U,_,_,s,e1,rfl,λu g q i f r=>⟨b,r.Ht,k g q i f⟩⟩
 ·cases e2
def BR(i:PX G X a xa)(g:PX G X b xb)(d:gI b)(j:X.K=G.K):PX G X (.Subscript a b pos) (x2 aB xa xb):=PE.weak (mQ jS i g d) λJ H Q h=>by
 rw[j];exact yo uy h
def xn(h:M7 G X e xt):OG G X (.BoolOp .And [e] pos) xt:=kR h
def Bv(n:ID G X a ca)(l:OG G X (.BoolOp .And (b :: rest) pos) xt):OG G X (.BoolOp .And (a :: b :: rest) pos) (iY ca xt):=PW.weak (zJ n l) λJ H Q j=>by
 obtain⟨M,U,r,p,s,e,k⟩:=j;obtain⟨⟨m,t⟩,e1,e2⟩:=Zz.mp e;obtain⟨h,o,g⟩:=Zz.mp e2;refine⟨M,U,m,t,h,s,e1,o,λu d=>?_⟩;cases h with
 |true=>exact uv ⟨M,U,r,p,s.same d,g,λv q i f=>k v q i ((GX.same d).trans f)⟩
 |false =>
  cases g;exact uq (k u M (s.same d) (GX.same d))
def qj(O:PV G X a ca)(N:PX G X b xb)(C:gI b:=by exact λ_ _=>rfl)(P:X.K=G.K:=by exact rfl):PX G X (.Subscript a b pos) (lZ ca xb):=PE.weak (mQ jS O N C) λJ H Q D=>by
 obtain⟨M,U,v,U',s,e,hi,k⟩:=D;obtain⟨x,ea,e1⟩:=Zz.mp e;split at e1
 ·rename_i p;obtain⟨z,eb,e2⟩:=Zz.mp e1;split at e2
  ·rename_i y m;obtain⟨j,Y,e3⟩:=Zz.mp e2;obtain⟨t,S,d⟩:=Zz.mp e3;split at d
   ·rename_i F;cases d;refine⟨M,U,.fr,.lst p,s,ea,λu H1 F1 i r1 f1=>⟨M,U,z.1,z.2,s.same i,eb,by rw[m];rfl,λw H2 M2 q f2 r2=>?_⟩⟩;obtain⟨a,n,Fs,rfl,rfl,Lc,l⟩:=r1.lst_inv;have E:¬bU M U a:=λz=>GV.jj (s.Hg z) (f1.2 a Zt);have LB:=(f2.keep a _ Lc E).1;obtain⟨x,Fx,o,u2,g⟩:=l.get j S;have A:=g.GR F.2;subst A;rw[m]at r2;refine .inl ⟨a,n,y,x,rfl,r2.int_inv,by rw[P];exact G5.of LB,jO (by rw[l.len.1];exact Y) o,?_⟩;exact k x H2 M2 q ((GX.same i).trans f2) (g.keep f2.kept (λa h=>nomatch h))
   ·cases d
  ·cases e2
 ·cases e1
end
section
variable{G:Gx}{M M5:GU}{U U5:VS.Env}{J:L2.St}{H H5:Hp}
def NM(M:GU):GU:=λi=>match i with
 |0=>[]
 |i+1=>M i
def yW{t:T}{a:KF}:bU (NM M) (Z (.pu t) :: U) a↔bU M U a:=by
 constructor
 ·rintro⟨j,u,b,d⟩;cases j with
  |zero=>cases (show Z (Z (Cell.pu t))=Z (Z (Cell.ow u)) from b)
  |succ j=>exact⟨j,u,b,d⟩
 ·rintro⟨j,u,b,d⟩;exact⟨j+1,u,b,d⟩
def EL{t:T}{a:KF}(h:dg (NM M) (Z (.pu t) :: U) a):dg M U a:=by
 obtain⟨j,u,d,b⟩:=h;cases j with
 |zero=>exact nomatch b
 |succ j=>exact⟨j,u,d,b⟩
def SR.ps{v:V}{t:T}(s:SR G M U J H)(r:Rp G H v t []):SR G (NM M) (Z (.pu t) :: U) (Z v :: J) H:=by
 refine⟨by rw[Zl,Zl,s.len],λi c h=>?_,λi u h=>?_,λi j u c b d n=>?_⟩
 ·cases i with
  |zero=>cases (show Z (Z (Cell.pu t))=Z (Z c) from h);exact⟨v,rfl,r⟩
  |succ i=>exact s.rp i c h
 ·cases i with
  |zero=>cases (show Z (Z (Cell.pu t))=Z (Z (Cell.ow u)) from h)
  |succ i=>exact s.nd i u h
 ·cases i with
  |zero=>cases (show Z (Z (Cell.pu t))=Z (Z (Cell.ow u)) from b)
  |succ i =>
   cases j with
   |zero=>exact λa _ h=>nomatch h
   |succ j=>exact s.sep i j u c b d (λe=>n (by rw[e]))
def SR.pop{c:W0}{v:Option V}(s:SR G M5 (c :: U5) (v :: J) H):SR G (λi=>M5 (i+1)) U5 J H :=
 ⟨by have:=s.len;simpa using this,λi c h=>s.rp (i+1) c h,λi u h=>s.nd (i+1) u h,λi j u c b a n=>s.sep (i+1) (j+1) u c b a (λe=>n (by omega))⟩
def GX.pop{t:T}{c:W0}(f:GX (NM M) (Z (.pu t) :: U) H M5 (c :: U5) H5):GX M U H (λi=>M5 (i+1)) U5 H5:=by
 have ow:∀a,bU (λi=>M5 (i+1)) U5 a->bU M5 (c :: U5) a:=λa ⟨j,u,d,b⟩=>⟨j+1,u,d,b⟩
 refine⟨λa o h n=>?_,f.G1,λa h=>?_,λa h=>?_,f.kept⟩
 ·obtain⟨d,b⟩:=f.keep a o h λz=>n (yW.mp z);exact⟨d,λz=>b (ow a z)⟩
 ·exact(f.ow a (ow a h)).imp yW.mp id
 ·obtain⟨j,u,d,b⟩:=h;rcases f.pu a ⟨j+1,u,d,b⟩ with z | z | z
  ·exact .inl (EL z)
  ·exact .inr (.inl (yW.mp z))
  ·exact .inr (.inr z)
end
def ic(x:Xx):Wb->VS.Env->Option (W5×VS.Env)
 |[],U=>Z ([],U)
 |i :: r,U=>(x (Z (.pu (.int i)) :: U)).bind λz=>match z.2 with
  |_ :: a=>if GR z.1.2=R then (ic x r a).map λw=>(z.1.2 :: w.1,w.2) else L
  |[]=>L
def Lw(i n:Nat):Wb:=(List.range' i n).map λ(k:Nat)=>(k:Int)
def rn(a x:Xx)(U:VS.Env):Option (W5×VS.Env):=(a U).bind λz=>match z.1.2 with
 |.int j=>if 0<=j/\j<1000000 then ic x (Lw 0 j.toNat) z.2 else L
 |_=>L
def OR(G:Gx)(y:VS.Env->Option (W5×VS.Env)):TE:=λJ H Q=>∃M U e a,SR G M U J H/\y U=Z (e,a)/\∀D f b d,SR G d a J b->GX M U H d a b->b D=Z (.lst f)->RpL G b f e (List.replicate e.length [])->H D=L->¬bU d a D->¬dg d a D->Q (.ref D) b
theorem mI{α:Type}:∀n:Nat,(List.replicate n ([]:List α)).flatten=[]
 |0=>rfl
 |n+1=>by rw[Y5,ZV,mI n];rfl
section
variable{G:Gx}{X:Cx}{elt a:Expr}{sc:Scope}{pos p p2 p3:Pos}{N:List Str}{nm:Str}{xa x:Xx}{g:TG}
def yZ{J:L2.St}{H:Hp}{Q:VK}(hg:∀v J H (R:L2.St->Hp->Prop),R (J.set 0 (Z v)) H->g v J H R)(h:OR G (rn xa x) J H Q):uQ 1 (B4 (B1 (tX G xa) tY)) g (λJ H Q=>Q true H) (tX G x) J H Q:=by
 obtain⟨M,U,ts,P,s,e,kq⟩:=h;obtain⟨z,ea,e1⟩:=Zz.mp e;split at e1
 ·rename_i j hj;split at e1
  ·rename_i hb;obtain⟨n,hn⟩:∃n:Nat,n=j.toNat:=⟨_,rfl⟩
   rw[← hn]at e1;refine⟨M,U,z.1,z.2,s,ea,by rw[hj];rfl,λu H1 M1 s1 f1 r1=>⟨j,by rw[hj]at r1;rw[r1.int_inv],by omega,by omega,λD C=>?_⟩⟩;have Kp:H D=L:=f1.none C;rw[← hn];refine⟨λi m J' S=>m=n-i/\i<=n/\∃F E f d rest c0,J'=c0 :: J/\SR G F E J S/\GX M1 z.2 H1 F E S/\S D=Z (.lst d)/\¬bU F E D/\¬dg F E D/\RpL G S d f (List.replicate f.length [])/\ic x (Lw i (n-i)) E=Z (rest,P)/\f++rest=ts,⟨n,by omega,Ym _,M1,z.2,[],[],ts,L,rfl,?_,GX.same (bD C),aw,?_,?_,.nil,e1,rfl⟩,?_⟩
   ·exact s1.off (.inr C) (λq=>GV.jj (s1.Iu q) C) λq=>GV.jj (s1.Hg q) C
   ·exact λq=>GV.jj (s1.Hg q) C
   ·exact λq=>GV.jj (s1.Iu q) C
   ·rintro i m J' S ⟨rfl,JI,F,E,f,d,rest,c0,rfl,s2,f2,Rq,P9,Ss,rp,O,ev⟩;by_cases Ig:i<n
    ·right;refine⟨Ig,λy H2 yl=>hg _ _ _ _ ?_⟩;obtain⟨rfl,rfl⟩:=yl;rw[show n-i=(n-(i+1))+1 by omega]at O;unfold Lw at O;rw[List.range'_succ,Zo,ic]at O;obtain⟨w,ex,Oo⟩:=Zz.mp O;split at Oo
     ·rename_i c3 U3 hw;split at Oo
      ·rename_i Kn;obtain⟨q,eq,e3⟩:=Zy.mp Oo;cases e3;show (if true=true then _ else _);rw[Zq Y];have s3:=s2.ps (v:=.int ((0:Int)+(i:Int))) (t:=.int (i:Int)) (by rw[Int.zero_add];exact .int _);refine⟨NM F,Z (.pu (.int (i:Int))) :: E,w.1,w.2,s3,ex,Kn,λu5 H5 M5 s5 f5 r5=>?_⟩;rw[hw]at s5 f5;have s6:=s5.pop;have f6:=f5.pop;obtain⟨Oh,Sv⟩:=f6.keep D _ Rq P9;have Sr:¬dg (λi=>M5 (i+1)) U3 D:=λq=>by
        rcases f6.pu D q with q | q | q
        ·exact Ss q
        ·exact P9 q
        ·rw[Rq]at q;cases q
       have Lu:GV (H5 D):=by rw[Oh];exact True.intro
       have lx:d.length=f.length:=rp.len.1;refine⟨d,Oh,?_,n-(i+1),by omega,rfl,Ig,λi=>M5 (i+1),U3,f++[w.1.2],d++[u5],q.1,_,rfl,s6.off (.inl Lu) Sr Sv,?_,aw,Sv,Sr,?_,eq,?_⟩
       ·have:f.length<=n:=by
         have hc:∀(l:Wb)(U:VS.Env)(r:W5)(P:VS.Env),ic x l U=Z (r,P)->r.length=l.length:=by
          intro l
          induction l with
          |nil=>intro U r P h;cases h;rfl
          |cons a l ih =>
           intro U r P h;rw[ic]at h;obtain⟨w',_,b⟩:=Zz.mp h;split at b
           ·split at b
            ·obtain⟨q',h3,h4⟩:=Zy.mp b;cases h4;rw[Zl,Zl,ih _ _ _ h3]
            ·cases b
           ·cases b
         have A:=hc _ _ _ _ e1;have b:=hc _ _ _ _ eq;unfold Lw at A;rw[Zw,Xc]at A;rw[← ev,Zv]at A;omega
        have hs:(KB:Nat)=16777216:=rfl;omega
       ·have ff:=f2.trans f6;refine⟨λa o A b=>?_,λa A b=>?_,ff.ow,ff.pu,ff.kept.trans (Kept.upd (.inl Lu))⟩
        ·obtain⟨q1,q2⟩:=ff.keep a o A b;exact⟨by rw[aC (λz=>by rw[z,C]at A;cases A)];exact q1,q2⟩
        ·by_cases q:a=D
         ·rw[q,aw]at b;cases b
         ·rw[aC q]at b;exact ff.G1 a A b
       ·have r1:RpL G (upd H5 D (.lst (d++[u5]))) d f (List.replicate f.length []):=(rp.keep f6.kept (by rw[mI];exact λa h=>nomatch h)).keep (Kept.upd (.inl Lu)) (by rw[mI];exact λa h=>nomatch h);have r2:Rp G (upd H5 D (.lst (d++[u5]))) u5 w.1.2 []:=r5.keep (Kept.upd (.inl Lu)) (λa h=>nomatch h);have:=r1.append (.cons r2 .nil);rw[Zv,Zc,List.replicate_succ'];exact this
       ·rw[ZI];exact ev
      ·cases Oo
     ·cases Oo
    ·left;have Vc:n-i=0:=by omega
     rw[Vc]at O;cases (show Z (([]:W5),E)=Z (rest,P) from O);rw[Zg]at ev;subst ev;refine⟨by show n<=i;omega,kq D d S F s2 (f1.trans f2) Rq rp Kp P9 Ss⟩
  ·cases e1
 ·cases e1
end
def vL(a:Tx)(y:VS.Env->Option (W5×VS.Env)):Xx:=λU=>(y U).bind λz=>(jI (.fr,.str a) [(.fr,.lst z.1)]).map λv=>((.fr,v.2),z.2)
section
variable{G:Gx}{X:Cx}{e a:Expr}{y:VS.Env->Option (W5×VS.Env)}{sep:Tx}{elt:Expr}{sc:Scope}{pos p p2 p3:Pos}{N:List Str}{nm:Str}{xa x:Xx}
def BF{b d:Pos}(w:PV G X a (eC (.str sep)))(g:PE X e (OR G y))(n:X.K=G.K)(G6:UF a "join" X.env (eval a X.env)=eval a X.env)(S:((backTo d (Pi [e] X.env)).all (λx=>!x.1)&&(backToKw d (SB [] X.env)).all (λx=>x.1.isSome)
   && decide ([e].length+([]:List Keyword).length+(if ([]:List Keyword).isEmpty then 0 else 1)<30))=R)(G4:(b.endLine==d.line)=R)(l:K1 e [] X)(G0:(backTo d (Pi [] X.env)).any (·.1)=B) :
  PX G X (.Call (.Attribute a "join" b) [e] [] d) (vL sep y) :=
 PE.weak (rR PySem.F.plainAttrs_str PySem.F.slot_str_join PySem.F.type_str_join uU w (cA g fO l) G6 S G4 l G0) λJ H Q h=>by
  obtain⟨M,U,v,U',s,e,hi,k⟩:=h;obtain⟨z,A,e1⟩:=Zz.mp e;obtain⟨v0,e2,C⟩:=Zy.mp e1;cases C;unfold jI at e2;obtain⟨f,q,i⟩:=Zz.mp e2;split at i
  ·rename_i m;cases i;refine⟨M,U,.fr,.str sep,s,rfl,λu H1 F1 j r1 f1=>⟨by rw[n];exact sW r1 ⟨_,rfl⟩,M,U,z.1,z.2,s.same j,A,λD vs Y E r f2 o rp Kp no np=>?_⟩⟩;rw[p9 rp q]at o;refine⟨sep,D,f,r1.str_inv.1,rfl,by rw[n];exact G5.of o,m,k _ Y E r ((GX.same j).trans f2) (.str _ ⟨ZJ (jW sep f) m,λc g=>(jX sep f c g).elim (r1.str_inv.2.2 c) λ⟨t,P,O⟩=>j0 rp q t P c O⟩)⟩
  ·cases i
end
inductive Ix where | io (i:Nat) (un:Bool) | px (x:Xx)
def jH:List Ix->VS.Env->Option (List Ia×VS.Env)
 |[],U=>Z ([],U)
 |.io i un :: r,U=>match (U[i]?:Option (W0)) with
  |some (some _)=>(jH r U).map λw=>(.io i un :: w.1,w.2)
  |_=>L
 |.px x :: r,U=>(x U).bind λz=>if GR z.1.2=R then (jH r z.2).map λw=>(.ex (eC z.1.2) :: w.1,w.2) else L
def KJ:List Ix->List Bool
 |[]=>[]
 |.io _ _ :: r=>R :: KJ r
 |.px _ :: r=>B :: KJ r
def aN(a:List Ix)(g:W5->Option (W5×T)):Xx:=λU=>(jH a U).bind λw=>gY w.1 g w.2
inductive Ip(G:Gx)(J:L2.St)(H:Hp):List Ia->List V->Prop
 |nil:Ip G J H [] []
 |io {i:Nat} {un:Bool} {v:V} {as:List Ia} {vs:List V}:J[i]?=some (some v)->Ip G J H as vs->Ip G J H (.io i un :: as) (v :: vs)
 |ex {t:T} {v:V} {as:List Ia} {vs:List V}:GR t=true->Rp G H v t []->Ip G J H as vs->Ip G J H (.ex (eC t) :: as) (v :: vs)
def Uh(G:Gx)(g:List Ix):TA:=λJ H Q=>∃M U a d,SR G M U J H/\jH g U=Z (a,d)/\∀e b f,SR G f d J b->GX M U H f d b->Ip G J b a e->Q e b
def Ma(G:Gx)(X:Cx)(a:List Expr)(b:List Ix):Prop:=PA X a (Uh G b)
section
variable{G:Gx}{X:Cx}{e:Expr}{es:List Expr}{as:List Ix}{x:Xx}{pos p:Pos}{i:Nat}{un:Bool}{g:W5->Option (W5×T)}{mv:List Bool}
theorem tW:∀{as:List Ix}{U U':VS.Env}{ias:List Ia},jH as U=Z (ias,U')->HE ias=KJ as
 |[],_,_,_,h=>by cases h;rfl
 |.io i un :: as,U,U',ias,h=>by
  unfold jH at h;split at h
  ·obtain⟨w,b,a⟩:=Zy.mp h;cases a;show R :: HE w.1=R :: KJ as;rw[tW (ias:=w.1) (U':=w.2) b]
  ·cases h
 |.px x :: as,U,U',ias,h=>by
  unfold jH at h;obtain⟨z,_,d⟩:=Zz.mp h;split at d
  ·obtain⟨w,b,a⟩:=Zy.mp d;cases a;show B :: HE w.1=B :: KJ as;rw[tW (ias:=w.1) (U':=w.2) b]
  ·cases d
theorem Ip.keep{J:L2.St}{H j:Hp}(k:Kept H j){f:List Ia}{d:List V}(h:Ip G J H f d):Ip G J j f d:=by
 induction h with
 |nil=>exact .nil
 |io h _ b=>exact .io h b
 |ex l r _ b=>exact .ex l (r.keep k (λa h=>nomatch h)) b
def Ey{M:GU}{U:VS.Env}{J:L2.St}{H:Hp}(s:SR G M U J H){f:List Ia}{l:List V}(h:Ip G J H f l):∀{d:W5},iQ U f=Z d->∃j,RpL G H l d j/\Kf M U J H f l j:=by
 induction h with
 |nil=>intro d e;cases e;exact⟨[],.nil,.nil⟩
 |@io i un v f l y _ o =>
  intro d e;obtain⟨t,e1,e2⟩:=Zz.mp (show (Lx un U[i]?).bind (λt=>(iQ U f).map (t :: ·))=Z d from e);obtain⟨HG,b,rfl⟩:=Zy.mp e2;obtain⟨j,r,q⟩:=o b;unfold Lx at e1;split at e1
  ·rename_i A Q;obtain⟨w,z,P⟩:=s.rp _ _ Q;rw[y]at z;cases z;have n:Rp G H v A (M i):=P;have key:∃a,v=.ref a/\Rp G H (.ref a) t (M i):=by
    split at e1
    ·obtain⟨⟨m,u⟩,Y,S⟩:=Zy.mp e1;cases S;rw[kj Y]at n;obtain⟨a,N,_,F⟩:=ly n;exact⟨a,N,F⟩
    ·split at e1
     ·rename_i O;cases e1;obtain⟨a,rfl⟩:=zi n O;exact⟨a,rfl,n⟩
     ·cases e1
   obtain⟨a,rfl,E⟩:=key;exact⟨M i :: j,.cons E r,.io y q⟩
  ·cases e1
 |@ex t v f l hi D _ o =>
  intro d e;obtain⟨w,e1,e2⟩:=Zz.mp (show (eC t U).bind (λv=>(MS v).bind λt=>(iQ U f).map (t :: ·))=Z d from e);have ev:w.2=t:=by
   unfold eC at e1;cases e1;rfl
  obtain⟨C,b,e4⟩:=Zz.mp e2;obtain⟨HG,e5,rfl⟩:=Zy.mp e4;have et:C=t:=by
   unfold MS at b;split at b
   ·split at b
    ·cases b;exact ev
    ·cases b
   ·cases b;exact ev
  subst et;obtain⟨j,r,q⟩:=o e5;exact⟨[] :: j,.cons D r,.ex (λa h=>nomatch h) q⟩
def bj:Ma G X [] []:=PA.weak fO λJ H Q b=>by
 obtain⟨M,U,a,d,s,e,k⟩:=b;cases e;exact k [] H M s (GX.refl _ _ _) .nil
def bV(i:Nat)(d:Bool){n:Str}(u:X.N[i]?=Z n)(l:IJ X.env.scope n)(r:K3 n)(a:K4 n)(o:Ma G X es as)(m:Pi (.Name n pos :: es) X.env=(B,eval (.Name n pos) X.env) :: Pi es X.env:=by exact rfl):Ma G X (.Name n pos :: es) (.io i d :: as) :=
 PA.weak (cA (fK u l r a) o m) λJ H Q q=>by
  obtain⟨M,U,j,C,s,e,k⟩:=q;unfold jH at e;split at e
  ·rename_i c t;obtain⟨w,e1,e2⟩:=Zy.mp e;cases e2;obtain⟨v,b,_⟩:=s.rp _ _ t;exact⟨v,b,M,U,w.1,w.2,s,e1,λA z y h f ix=>k _ z y h f (.io b ix)⟩
  ·cases e
def bH(h:PX G X e x)(m:Ma G X es as)(l:K1 e es X:=by exact rfl):Ma G X (e :: es) (.px x :: as) :=
 PA.weak (cA h m l) λJ H Q n=>by
  obtain⟨M,U,j,A,s,e,k⟩:=n;unfold jH at e;obtain⟨z,e1,e2⟩:=Zz.mp e;split at e2
  ·rename_i d;obtain⟨w,q,o⟩:=Zy.mp e2;cases o;exact⟨M,U,z.1,z.2,s,e1,d,λu C r s1 f1 r1=>⟨r,z.2,w.1,w.2,s1,q,λy v t f b ix=>k _ v t f (f1.trans b) (.ex d (r1.keep b.kept (λa h=>nomatch h)) ix)⟩⟩
  ·cases e2
def pj{k:Nat}{f:KF}{l:Pv}{j:List Str}{n:Str}(F:FnOk X.prog X.w X.K X.mg X.base Hi k f l j (Mm G (KJ as) g))(D:p0 k X.A)(P:Gl X n)(N:X.mg n=Z (.ref f))(O:PySem.W.keepIn X.K (.ref f)=R)(Y:Binds X.K l j [])(ha:Ma G X (e :: es) (.io i un :: as))(Hq:K3 n)(S:K1 e es X)(b:K2 pos es X):PXN G X (.Call (.Name n p) (e :: es) [] pos) (aN (.io i un :: as) g) :=
 PE.weak (mL (E:=E0) F D P N O Y .nil g9 ha Hq S b) λJ H Q h=>by
  obtain⟨M,U,v,U',s,e,z⟩:=h;obtain⟨⟨a,U1⟩,e1,e2⟩:=Zz.mp e;have d:=tW e1;refine⟨M,U,a,U1,s,e1,λt H1 M1 s1 f1 ix=>?_⟩;show Mm G (KJ as) g (t++[]) H1 Q _;rw[Zg];cases ix with
  |nil=>cases d
  |ex _ _ _=>cases d
  |@io i' JX v' o IG h0 US =>
   have WB:HE o=KJ as:=(List.cons.inj (show R :: HE o=R :: KJ as from d)).2;have q:=e2;unfold gY at q;obtain⟨ts,m,_⟩:=Zz.mp q;obtain⟨Fs,rp,C⟩:=Ey s1 (.io h0 US) m;rw[← WB];exact og s1 e2 m (aG.refl _) rp C λu H' M' F y f' r n=>z u H' M' F y (f1.trans f') r (n.back f1)
end
def lV(o:Option Xx)(U:VS.Env):Option (Option Int×VS.Env):=match o with
 |none=>Z (L,U)
 |some x=>(x U).bind λz=>match z.1.2 with
  |.int i=>Z (Z i,z.2)
  |_=>L
def Mi(a:Xx)(b d:Option Xx):Xx:=λU=>(a U).bind λz=>match z.1.2 with
 |.str t=>(lV b z.2).bind λl=>(lV d l.2).map λh=>((.fr,.str (cut t l.1 h.1)),h.2)
 |_=>L
def OQ(G:Gx)(o:Option Xx):TO:=λJ H Q=>∃M U i a,SR G M U J H/\lV o U=Z (i,a)/\∀b d,SR G d a J b->GX M U H d a b->Q i b
section
variable{G:Gx}{X:Cx}{e a b:Expr}{lo hi:Option Expr}{xl xh:Option Xx}{xa x xb:Xx}{pos p2:Pos}{i:Nat}{n:Str}
def nP:PO X L (OQ G L):=PO.weak vP λJ H Q d=>by
 obtain⟨M,U,o,f,s,e,k⟩:=d;cases e;exact k H M s (GX.refl _ _ _)
def jt(h:PX G X e x):PO X (Z e) (OQ G (Z x)):=PO.weak (u9 h) λJ H Q l=>by
 obtain⟨M,U,o,q,s,e,k⟩:=l;obtain⟨z,e1,e2⟩:=Zz.mp e;split at e2
 ·rename_i j d;cases e2;refine⟨M,U,z.1,z.2,s,e1,by rw[d];rfl,λu p m g f r=>⟨j,?_,k p m g f⟩⟩;rw[d]at r;exact r.int_inv
 ·cases e2
def uN(r:PX G X a xa)(o:PO X lo (OQ G xl))(p:PO X hi (OQ G xh)):PX G X (.Subscript a (.Slice lo hi L p2) pos) (Mi xa xl xh) :=
 PE.weak (rq xS r o p) λJ H Q m=>by
  obtain⟨M,U,v,P,s,e,S,k⟩:=m;obtain⟨z,e1,e2⟩:=Zz.mp e;split at e2
  ·rename_i t f;obtain⟨l,D,C⟩:=Zz.mp e2;obtain⟨h,A,y⟩:=Zy.mp C;cases y;refine⟨M,U,z.1,z.2,s,e1,by rw[f];rfl,λu H1 N s1 f1 r1=>⟨N,z.2,l.1,l.2,s1,D,λY F j f2=>⟨F,l.2,h.1,h.2,j,A,λO E g w=>?_⟩⟩⟩;rw[f]at r1;obtain⟨rfl,d⟩:=r1.str_inv;refine⟨_,rfl,by rw[dB,← fA];exact d.1,?_⟩;rw[jL];exact k _ O E g ((f1.trans f2).trans w) (.str _ ⟨ZJ (uF _ _ _) d.1,λc q=>d.2 c ((pU _ _ _).subset q)⟩)
  ·cases e2
def yp(i:Nat)(S:X.N[i]?=Z n)(C:IJ X.env.scope n)(F:K3 n)(d:K4 n)(P:PX G X b xb)(D:gI b)(Y:X.K=G.K):PX G X (.Subscript (.Name n p2) b pos) (o7 i xb) :=
 PE.weak (mQ jS (fK S C F d) P D) λJ H Q E=>by
  obtain⟨M,U,v,U',s,e,Kn,k⟩:=E;unfold o7 at e;split at e
  ·rename_i c0 Vx;obtain⟨r,p,_⟩:=s.rp _ _ Vx;obtain⟨z,e1,e2⟩:=Zz.mp e;split at e2
   ·rename_i y c m O;split at e2
    ·rename_i ts QG;obtain⟨j,ej,e3⟩:=Zz.mp e2;obtain⟨t,et,f⟩:=Zz.mp e3;split at f
     ·rename_i hit;cases f;refine⟨r,p,M,U,z.1,z.2,s,e1,by rw[m];rfl,λw H2 M2 h f2 r2=>?_⟩;obtain⟨v1,o,r1⟩:=h.rp _ _ O;rw[p]at o;cases o;rw[QG]at r1;rw[m]at r2;obtain⟨a,q,Fs,rfl,eF,Lc,l⟩:=r1.lst_inv;obtain⟨x,Fx,u,u2,g⟩:=l.get j et;have A:=g.GR hit;subst A;exact .inl ⟨a,q,y,x,rfl,r2.int_inv,by rw[Y];exact G5.of Lc,jO (by rw[l.len.1];exact ej) u,k x H2 M2 h f2 g⟩
     ·cases f
    ·cases e2
   ·cases e2
  ·cases e
end
section
variable{G:Gx}{X:Cx}{elt a:Expr}{sc:Scope}{pos p p2 p3:Pos}{N:List Str}{nm:Str}{xa x:Xx}
def yE(N:List Str)(t:X.calm=true)(e:Gl X "range")(d:X.mg "range" = L)(j:PX G X a xa)(l:∀cl C s H fp,PG (eE X N sc cl C s H fp) (.Name nm p2) (vr 0))(i:∀cl C s H fp,PX G (eE X N sc cl C s H fp) elt x)(b:K1 a [] X)(q:Pi [a] X.env=[(B,eval a X.env)])(o:qQ X.env sc=true)(n:nI sc (N.drop 1) X.N=true)(m:1<=N.length)(f:∀x,UV (.Call (.Name "range" p) [a] [] p3) X.env x=pure x) :
  PE X (.ListComp elt [⟨.Name nm p2,.Call (.Name "range" p) [a] [] p3,[],0⟩] sc pos) (OR G (rn xa x)) :=
 PE.weak (pT t (lC e d (cA j fO b) q) o n m (λcl C s H fp=>⟨l cl C s H fp,mP,i cl C s H fp⟩) f) λJ H Q h=>yZ (g:=vr 0) (λv J H R r=>r) h
end
def TV(G:Gx)(X:Cx)(e:Expr)(y:VS.Env->Option (W5×VS.Env)):Prop:=PE X e (OR G y)
section
variable{G:Gx}{X:Cx}{e a b elt:Expr}{es rest:List Expr}{ca cb:Ex}{xa xb xc:Xx}{xt:Xt}{as:List Ix}{lo hi:Option Expr}{xl xh:Option Xx}{y:VS.Env->Option (W5×VS.Env)}{sep:Tx}{sc:Scope}{N:List Str}{p pos pos' p1 p2 p3 apos oe:Pos}{i j k k':Nat}{un:Bool}{n nm x:Str}{ps:List Str}{g:W5->Option (W5×T)}
def iE(f:PX G X a xa)(d:PX G X b xb):PX G X (.BinOp a .Add b pos) (x2 ba xa xb):=Cq qm xO f d
def vc(f:ID G X a ca)(d:M7 G X b xt):M7 G X (.BoolOp .And [a,b] pos) (iY ca xt):=(Bv f (xn d)).Uv
def br(F:IoAt X.prog X.w X.K X.mg X.base k x ps G (KJ as) g)(h:p0 k' X.A)(q:Ma G X (e :: es) (.io i un :: as))(l:k<=k':=by decide)(m:Gl X x:=by exact rfl)(v:K3 x:=by exact rfl)(o:K1 e es X:=by exact rfl)(d:K2 pos es X:=by exact rfl) :
  PX G X (.Call (.Name x p) (e :: es) [] pos) (aN (.io i un :: as) g):=by
 obtain⟨f,fd,u,t,s,r⟩:=F.ex;exact(pj u (h.mono l) m t s r q v o d).px
def BD(F:IoAt X.prog X.w X.K X.mg X.base k x ps G (KJ as) g)(h:p0 k' X.A)(q:Ma G X (e :: es) (.io i un :: as))(l:k<=k')(m:Gl X x)(v:K3 x)(o:K1 e es X)(d:K2 pos es X) :
  PXN G X (.Call (.Name x p) (e :: es) [] pos) (aN (.io i un :: as) g):=by
 obtain⟨f,fd,u,t,s,r⟩:=F.ex;exact pj u (h.mono l) m t s r q v o d
end
def wt(x:Xx):VS.Env->Option (W5×VS.Env):=λU=>(x U).bind λz=>if GR z.1.2=R then Z ([z.1.2],z.2) else L
def pS(j:Nat)(x:Xx):Sx:=λU=>(x U).bind λz=>if j<z.2.length then Z (.nx (z.2.set j (Z (.pu z.1.2)))) else L
def ve(g:Tg)(x:Xx)(b:Sx):Sx:=λU=>(x U).bind λz=>if GR z.1.2=R then gS g (df (eC z.1.2)) b z.2 else L
section
variable{G:Gx}{X:Cx}{e a b:Expr}{ca:Ex}{xc:Xx}{y:VS.Env->Option (W5×VS.Env)}{pos pos':Pos}{j:Nat}{nm:Str}
def Du{p:Pos}(h:PX G X e xc)(f:K1 e [] X):TV G X (.List [e] p) (wt xc) :=
 PE.weak (xj (cA h fO f)) λJ H Q g=>by
  obtain⟨M,U,m,n,s,e,k⟩:=g;obtain⟨z,e1,e2⟩:=Zz.mp e;split at e2
  ·rename_i i;cases e2;refine⟨M,U,z.1,z.2,s,e1,i,λu o l s1 f1 r1=>⟨by show 1<=16777216;decide,λp d=>?_⟩⟩;exact k p [u] _ l (s1.same (bD d)) (f1.trans (GX.same (bD d))) aw (.cons (r1.same (bD d)) .nil) (f1.none d) (λz=>GV.jj (s1.Hg z) d) (λz=>GV.jj (s1.Iu z) d)
  ·cases e2
def yK(h:PXN G X e xc)(w:X.N.Nodup)(p:X.N[j]?=Z nm)(i:Loc X.env.scope nm)(x:swapsWith e (Z (.Name nm pos')) pos.line X.env=pure B)(r:X.fn nm=R\/X.env.scope.names.lookup nm=Z .local) :
  PSV G X (.Assign [.Name nm pos'] e pos) (pS j xc) :=
 PS.weak (pI w p i h x r) λD J H l=>by
  obtain⟨M,U,o,s,e,k⟩:=l;obtain⟨z,e1,e2⟩:=Zz.mp e;split at e2
  ·rename_i v;cases e2;refine⟨M,U,z.1,z.2,s,e1,λu A E F s1 f1 r1 f=>?_⟩;refine k _ _ _ (s1.put (c:=.pu z.1.2) (H':=A) v r1 (λ_ _ _ _ _ q=>q) (λ_ h=>nomatch h) (λ_ h=>nomatch h) λg t _ m a d C=>f.ap g _ m a C d) ⟨λa o h n=>⟨(f1.keep a o h n).1,λz=>?_⟩,f1.G1,λa h=>?_,λa h=>?_,f1.kept⟩
   ·rcases jQ z with⟨_,q,_⟩ | z
    ·cases q
    ·exact(f1.keep a o h n).2 z
   ·rcases jQ h with⟨_,q,_⟩ | z
    ·cases q
    ·exact f1.ow a z
   ·rcases qd h with⟨_,_,d⟩ | z
    ·rcases f.of a d with q | q
     ·exact .inr (.inr q)
     ·exact .inr (.inl q)
    ·exact f1.pu a z
  ·cases e2
def D7{i:Expr}{d:List Stmt}{g:Tg}{cb:Sx}{p n:Pos}(Q:PassesOwn (IR X.prog X.w) X.A X.env X.xe)(hc:X.calm=R)(Vs:Gl X "range")(S:X.mg "range" = L)(N:PX G X a xc)(hg:OH G X i g)(hb:gF G X d cb)(O:K1 a [] X)(IA:Pi [a] X.env=[(B,eval a X.env)])(hf:∀x,UV (.Call (.Name "range" p) [a] [] n) X.env x=pure x):PSV G X (.For i (.Call (.Name "range" p) [a] [] n) d [] pos) (ve g xc cb) :=
 PS.weak (xk Q hc (lC Vs S (cA N fO O) IA) hg hb hf) λD J H P=>by
  obtain⟨M,U,o,s,e,k⟩:=P;obtain⟨z,e1,e2⟩:=Zz.mp e;split at e2
  ·rename_i Y;refine⟨M,U,z.1,z.2,s,e1,Y,λu C M1 s1 f1 r1=>?_⟩;obtain⟨M3,U3,m,l,s3,v,F⟩:=x9 (g:=g) (cb:=cb) ⟨M1,z.2,o,s1,e2,k.back f1⟩;unfold df at v;obtain⟨⟨E,x⟩,ea,e4⟩:=Zz.mp v;obtain⟨j,r,f⟩:=Zz.mp e4;cases (show Z ((Md.fr,z.1.2):Val)=Z (E,x) from ea);split at f
   ·rename_i q;cases f;generalize z.1.2=t at *;cases t with
    |int j' =>
     cases r;refine⟨j,by rw[r1.int_inv],?_,?_,F _ C [] (aG.refl _) (qR C 0 j.toNat) λa h=>nomatch h⟩
     ·have:=q.1;unfold LL at this;omega
     ·have:=q.2;unfold LL at this;omega
    |_=>cases r
   ·cases f
  ·cases e2
end
end VS
end
section
namespace VS
open PySem PySem.Spec PyProof.Rows L2
def oq(c:Nat)(g:Mt)(x:Xx):Xx:=λU=>(x U).bind λz=>if bc [z.1.2]=R then (g [] [z.1.2]).bind λw=>if dE w.1=R/\MA w.2=R then Z ((.fr,.obj (c+1) ((0,.bl B) :: w.1)),z.2) else L else L
def lA(c:Nat)(h:Fn)(x:Xx):Xx:=λU=>(x U).bind λz=>match z.1.2 with
 |.obj a (_ :: _)=>if a=c+1 then (h [z.1.2]).bind λr=>match r.1 with
  |.fr=>Z (r,z.2)
  |_=>L else L
 |_=>L
section
variable{G:Gx}{X:Cx}{e o:Expr}{xc:Xx}{pos p apos:Pos}{k k' c:Nat}{f:KF}{fd:Pv}{ps:List Str}{nm m:Str}{g:Mt}{h:Fn}
def Av(Mq:Mk X.K (G.ct (c+1)).1 f)(F:FnOk X.prog X.w X.K X.mg X.base Hi k f fd ps (JO G c [B] g))(hr:p0 k' X.A)(hk:k+1<=k')(hg:Gl X nm)(hm:X.mg nm=Z (.ref (G.ct (c+1)).1))(d:Binds X.K fd ps [])(i:PXN G X e xc)(Hq:K3 nm)(S:K1 e [] X)(t:(backTo pos (Pi [] X.env)).any (·.1)=B):PXN G X (.Call (.Name nm p) [e] [] pos) (oq c g xc) :=
 PE.weak (uP (E:=E0) Mq F (hr.mono hk) hg hm d .nil g9 (cA i fO S) Hq S t) λJ H Q hq=>by
  obtain⟨M,U,v,U',s,e0,kq⟩:=hq;obtain⟨z,ez,e1⟩:=Zz.mp e0;split at e1
  ·rename_i MN;obtain⟨⟨HY,y⟩,eg,e2⟩:=Zz.mp e1;split at e2
   ·rename_i hc;cases e2;refine⟨M,U,z.1,z.2,s,ez,λu n M1 O s1 f1 r1 n1 a dx i Rf ne=>?_⟩;have C:aG n (upd (upd n dx (.own a)) a (.ins (G.ct (c+1)).1 dx [])):=λb r q=>by
     rw[aC (λz=>by rw[z,i]at q;cases q),aC (λz=>by rw[z,Rf]at q;cases q)];exact q
    have NJ:RpL G n [u] [z.1.2] [O]:=.cons r1 .nil;have x:Hv [B] [O]=[]:=by simp[Hv]
    refine⟨a,[u],[],[z.1.2],[a],[O],HY,y,by rw[Zg],.ins (ks:=[]) (vs:=[]) (ts:=[]) (Fs:=[]) aw Y (λ_=>rfl) .nil,(NJ.same C).at (Jb a) MN,rfl,?_,?_,eg,λu' N P l ru=>⟨uI ru hc.2,?_⟩⟩
    ·rw[x];simp
    ·rw[x];intro b d D;have:b=a:=by simpa using d
     subst this;exact GV.jj (NJ.G1 b (t7 _ _ b D)) i
    ·rw[x,Zg]at l;have back:Rp G N (.ref a) (.obj (c+1) ((0,.bl B) :: HY)) P:=by
      obtain⟨c2,a2,RX,b2,NR,Pz,NC,R7,LH,MT,Pk,Os,MU,MP,Ie,L4,Jv⟩:=dn l.rp;cases LH;cases MT;subst Os;rw[MU];exact .ins MP Ie (λz=>nomatch z) (Jv.at G.me (dS (Ie.trans Jv.len.1) hc.1))
     have Ir:aG n N:=λb r q=>l.keep b r (λz=>by
      have:b=a:=by simpa using z
      rw[this,i]at q;cases q) (C b r q)
     have fr:∀b∈P,n b=L:=λb d=>by
      rcases l.sub b d with z | z
      ·have:b=a:=by simpa using z
       rw[this];exact i
      ·exact C.free z
     refine kq (.ref a) N M1 P (s1.same Ir) (f1.trans (GX.same Ir)) back ⟨l.nd,λj c' hj b d D=>?_,λb d=>.inl (f1.none (fr b d))⟩;obtain⟨w,_,q⟩:=s1.rp j c' hj;exact GV.jj (q.G1 b D) (fr b d)
   ·cases e2
  ·cases e1
def yU{N:Sem Bool}(hn:∀k,(G.ct (c+1)).2 k≠m)(ho:PXN G X o xc)(hc:HZ X.K (G.ct (c+1)).1)(hm:Meth X.K (G.ct (c+1)).1 m f)(F:FnOk X.prog X.w X.K X.mg X.base Hi k f fd ps (I0 G h))(Y:p0 k' X.A)(hk:k<=k')(d:Binds X.K fd ps [])(S:eval (.Call (.Attribute o m apos) [] [] pos) X.env=(do
   let r ← eval o X.env
   standAt apos.atName
   let (f,first) ← holding [r] (getMethod r m N)
   callWith pos f first (backTo pos (Pi [] X.env)) (backToKw pos (SB [] X.env)))):PXN G X (.Call (.Attribute o m apos) [] [] pos) (lA c h xc) :=
 PE.weak (nB (E:=E0) ho hc hm F (Y.mono hk) d .nil g9 S) λJ H Q hq=>by
  obtain⟨M,U,v,U',s,e0,O⟩:=hq;obtain⟨z,ez,e1⟩:=Zz.mp e0;split at e1
  ·rename_i x q0 fs P;split at e1
   ·rename_i IC;subst IC;obtain⟨⟨n,D⟩,t,l⟩:=Zz.mp e1;refine⟨M,U,z.1,z.2,s,ez,λv H1 M1 F1 s1 f1 r1 n1=>?_⟩;rw[P]at r1 t;have Uu:=r1;obtain⟨c2,a,dx,b,ns,vs,ts,Fs,ec,rfl,eb,ef,eF,hA,hl,d,ra⟩:=dn r1;cases ec;refine⟨a,dx,_,rfl,hA,pX hn _ _,?_⟩;show I0 G h (V.ref a :: ([]++[])) H1 Q E0;rw[Zg];refine⟨[_],[F1],n,D,.cons Uu .nil,t,λu H' F' y C i=>?_⟩;cases n with
    |fr =>
     cases l;refine O u H' M1 F' (s1.same y) (f1.trans (GX.same y)) C ⟨i.1,λj x hj b d Hr=>?_,λb d=>.inl (f1.none (i.2 b d))⟩;obtain⟨w,_,q⟩:=s1.rp j x hj;exact GV.jj (q.G1 b Hr) (i.2 b d)
    |pu=>cases l
    |bo=>cases l
   ·cases e1
  ·cases e1
def A8(F:InAt X.prog X.w X.K X.mg X.base k G c 1 nm ps g)(b:p0 k' X.A)(d:k+1<=k')(l:PXN G X e xc)(i:Gl X nm)(s:K3 nm)(j:K1 e [] X)(a:(backTo pos (Pi [] X.env)).any (·.1)=B):PXN G X (.Call (.Name nm p) [e] [] pos) (oq c g xc):=by
 obtain⟨f,fd,r,q,n⟩:=F.ex;exact Av q r b d i F.mg n l s j a
def vT{b:Sem Bool}(F:MpAt X.prog X.w X.K X.mg X.base k G c m ps h)(i:p0 k' X.A)(l:k<=k')(j:PXN G X o xc)(d:eval (.Call (.Attribute o m apos) [] [] pos) X.env=(do
   let a ← eval o X.env
   standAt apos.atName
   let (f,first) ← holding [a] (getMethod a m b)
   callWith pos f first (backTo pos (Pi [] X.env)) (backToKw pos (SB [] X.env)))):PXN G X (.Call (.Attribute o m apos) [] [] pos) (lA c h xc):=by
 obtain⟨f,fd,r,q,n⟩:=F.ex;exact yU F.no j F.cl q r i l n d
end
def lB(x:Xx)(a:Hf)(g:Fn):Xx:=λU=>(x U).bind λz=>(a z.2).bind λl=>(g (z.1.2 :: trees l)).bind λr=>match r.1 with
 |.fr=>Z (r,z.2)
 |_=>L
def q9(x:Xx):Xx:=λU=>(x U).bind λz=>match z.1.2 with
 |.lst a=>Z ((.fr,.int (a.length:Int)),z.2)
 |_=>L
def sJ(y:VS.Env->Option (W5×VS.Env))(c:Ex):Xx:=λU=>(y U).bind λz=>(c z.2).bind λx=>match x.2 with
 |.lst a=>if d6 a=R/\z.1.length+a.length<=eY then Z ((.fr,.lst (z.1++a)),z.2) else L
 |_=>L
section
variable{G:Gx}{X:Cx}{a b e:Expr}{es:List Expr}{ca:Ex}{cs:Hf}{xc xa xb:Xx}{y:VS.Env->Option (W5×VS.Env)}{pos p:Pos}{k k':Nat}{nm:Str}{ps:List Str}{g:Fn}
def qZ{M h:GU}{U d:VS.Env}{J:L2.St}{H i:Hp}{F:X7}(s:SR G h d J i)(f:GX M U H h d i)(m:F.Nodup)(l:∀b∈F,i b=L):Nu M U H h d F:=⟨m,λj c n b hb o=>by
 obtain⟨w,_,q⟩:=s.rp j c n;exact GV.jj (q.G1 b o) (l b hb),λb hb=>.inl (f.none (l b hb))⟩
def zv(F:FnAt X.prog X.w X.K X.mg X.base k nm ps G g)(N:p0 k' X.A)(E:PXN G X e xc)(Y:HM G X es cs)(P:k<=k')(S:Gl X nm)(Hq:K3 nm)(o:K1 e es X)(h:K2 pos es X):PXN G X (.Call (.Name nm p) (e :: es) [] pos) (lB xc cs g):=by
 obtain⟨f,fd,h1,h2,h3,h4⟩:=F.ex;refine PE.weak (mL h1 (N.mono P) S h2 h3 h4 .nil g9 (cA E Y o) Hq o h) λJ H Q O=>?_;obtain⟨M,U,v,U',s,e0,D⟩:=O;obtain⟨z,ez,e1⟩:=Zz.mp e0;obtain⟨l,el,e2⟩:=Zz.mp e1;obtain⟨⟨n,r⟩,er,i⟩:=Zz.mp e2;refine⟨M,U,z.1,z.2,s,ez,λu H1 q F1 s1 f1 r1 n1=>⟨q,z.2,l,s1,el,λt H' Fs d x fl=>?_⟩⟩;show I0 G g ((u :: t)++[]) H' Q _;rw[Zg];refine⟨z.1.2 :: trees l,F1 :: Fs,n,r,.cons (r1.same d) x,er,λv H2 F2 m C j=>?_⟩;cases n with
 |fr =>
  cases i;exact D v H2 q F2 ((s1.same d).same m) (f1.trans ((GX.same d).trans (GX.same m))) C (qZ (s1.same d) (f1.trans (GX.same d)) j.1 j.2)
 |pu=>cases i
 |bo=>cases i
def A7(j:X.mg "len" = L)(h:PXN G X e xc)(l:Gl X "len")(A:X.K=G.K)(he:K1 e [] X):PX G X (.Call (.Name "len" p) [e] [] pos) (q9 xc) :=
 PE.weak (mW pz l j PySem.boot_len (cA h fO he) (he:=he) (hpl:=rfl)) λJ H Q i=>by
  obtain⟨M,U,v,C,s,e,x,f⟩:=i;obtain⟨z,e1,e2⟩:=Zz.mp e;split at e2
  ·rename_i t m;cases e2;refine⟨M,U,z.1,z.2,s,e1,λu q n F s1 f1 r1 w=>?_⟩;rw[m]at r1;obtain⟨a,r,D,rfl,rfl,o,d⟩:=r1.lst_inv;refine .inl ⟨_,_,rfl,.inl ⟨_,G5.of o,rfl⟩,?_⟩;rw[d.len.1];exact f _ q n s1 f1 (.int _)
  ·cases e2
def CG(f:PX G X a xa)(d:PX G X b xb):M7 G X (.Compare a [.Gt] [b] pos) (Kh (x2 Jy xa xb)):=pL (r:=PM) (B0.or oX) BP f d (fQ _)
def A3(j:TV G X b y)(C:PV G X a ca):PXN G X (.BinOp b .Add a pos) (sJ y ca):=PE.weak (zb qm j C) λJ H Q A=>by
 obtain⟨M,U,v,U',s,e,k⟩:=A;obtain⟨z,N,e1⟩:=Zz.mp e;obtain⟨⟨m,x⟩,O,e2⟩:=Zz.mp e1;dsimp only at e2;split at e2
 ·rename_i o;split at e2
  ·rename_i r;cases e2;refine⟨M,U,z.1,z.2,s,N,λD l H2 t h f2 E rp hn no np=>⟨t,z.2,m,.lst o,h,O,λu Y F1 d r1 f1=>?_⟩⟩;obtain⟨a,n,w,rfl,rfl,P,i⟩:=r1.lst_inv;refine .inr (.inr ⟨D,a,l,n,rfl,rfl,d _ _ E,P,by rw[i.len.1,rp.len.1,← fA];exact r.2,λp f=>?_⟩);have S:=(rp.same d).append i;have F:(List.replicate z.1.length []++w).flatten=([]:X7):=by rw[Z7,i.GR r.1,mI];rfl
   have q:Rp G (upd Y p (.lst (l++n))) (.ref p) (.lst (z.1++o)) (p :: (List.replicate z.1.length []++w).flatten):=.lst aw (S.same (bD f));rw[F]at q;exact k _ _ t _ ((h.same d).same (bD f)) (f2.trans ((GX.same d).trans (GX.same (bD f)))) q (qZ (h.same d) (f2.trans (GX.same d)) (by simp) λb j=>by
    cases Zb.mp j;exact f)
  ·cases e2
 ·cases e2
end
end VS
end
section
namespace VS
open PySem PySem.Spec PyProof.Rows L2
def yX:Fn:=λa=>match a with
 |[.scr ns]=>if ns.length<=63 then Z (.fr,.bl R) else L
 |_=>L
section
variable{P:P3}{w:SZ}{K:Xd}{mg:X6}{base:SL}{G:Gx}
def AB{k:Nat}{f:KF}{b:Pv}{y:Str}{g:Fn}(j:G.K=K)(F:FnOk P w K mg base Hi k f b [y] (I0 G g))(i:∀ns:Wb,ns.length<=63->g [.scr ns]=Z (.fr,.bl R)) :
  FnOk P w K mg base Hi k f b [y] (I0 (Oi K) yX):=F.imp λo H Q E h=>by
 obtain⟨p,s,m,r,l,a,q⟩:=h;unfold yX at a;split at a
 ·rename_i ns;split at a
  ·rename_i e;cases a;cases l with
   |cons r1 r2 =>
    cases r2;cases r1 with
    |scr d=>exact⟨[.scr ns],[[]],.fr,.bl R,.cons (.scr (by rw[j];exact d)) .nil,i ns e,λv n F e1 r f1=>q v n F e1 (by cases r;exact .bl _) f1⟩
  ·cases a
 ·cases a
end
def xU{l:PySem.W.OpenLaw}{q:P3}{b:List Str}{r:(X6)->SL->Prop}{d:DefRec}{K:Params->Xd}{x:Str}{k:Nat}(j:l.most=Z 63)(t:d.params.defaults=[])(i:p0 k callerA)(F:∀(w:SZ)(mg:X6)(e:KF)(h:SL),(K w.params).In h->h.Ns mainGlobals mg->mg d.name=Z (.ref e) →
   ∃fd:Pv,(∀(s:GM)(u:KM),BindsTo s fd ⟨[u],[]⟩ [(x,u)])/\∀base:SL,(K w.params).In base->base.Ns mainGlobals mg->FnOk l.prog w (K w.params) mg base Hi k e fd [x] (I0 (Oi (K w.params)) yX)) :
  PySem.W.WalkO q b r (λw h=>(K w.params).In h) l.row.toRowW d [] (λf g=>PySem.call f g) :=
 L2.BB (n:=63) (k:=k) (x:=x) (CX:=λ_=>Hi) (sp:=λw=>I0 (Oi (K w.params)) yX) j (by decide) t i (λ_ _ h=>h) F (λw H a ns m p o=>Ej (G:=Oi (K w.params)) (Zq m) p o) λ_ _ _ _ _ z=>z
end VS
end
section
namespace T44
open VS
noncomputable def aI:Mt:=Iz 0 4 4 [B,B,R]
  (ak (sX (iM 0 [.fld 1] aF (ab (aa 1) ah)))
  (ak (sX (iM 0 [.fld 2] aF (ab (aa 2) ah)))
  (ak (nS 0 [.fld 3] 3)
  (eK (e2 oG (eN bu (ab (aW 1 (aa 0)) ah)) (Q2 1))))))
noncomputable def du:Mt:=Iz 0 1 1 (List.replicate 0 B)
  (ak (jm 0 1 (dk ah))
  (ak (jm 0 2 (dk ah))
  (ak (jm 0 3 (dk ah))
  (NG (bG 0 [] 0 [B,B,R] aI (ab (Q2 0) (ab (eC .non) (ab (r6 0 []) ah))))))))
noncomputable def bT:Sx :=
  (ak (dG 0 [.fld 3,.ix (aa 1)] (aa 2) (aa 5))
  (aK 1 (e2 aB (aW 2 (aa 0)) (aa 1))))
noncomputable def av:Mt:=Iz 0 3 6 [B,B]
  (ak (aK 3 (e2 Iy (e2 aB (aW 3 (aa 0)) (aa 1)) (aa 2)))
  (ak (aK 4 (e2 ba (e2 aB (aW 1 (aa 0)) (aa 1)) (Q2 1)))
  (ak (Hx (e2 oEq (e2 aB (aW 1 (aa 0)) (aa 3)) (aa 4)) (eI 3) dc)
  (ak (cw 5 (bG 0 [] 0 [B,B,R] aI (ab (aa 4) (ab (e2 aB (aW 2 (aa 0)) (aa 3)) (ab (eN lF (ab (e2 aB (aW 3 (aa 0)) (aa 3)) ah)) ah)))))
  (ak (dG 0 [.fld 2] (aa 3) (aa 5))
  (ak (jM (g8 (cY (aa 1)) (e2 oEq (e2 wH (e2 aB (aW 3 (aa 0)) (aa 1)) (aa 2)) (aa 3))) bT)
  (eI 5)))))))
noncomputable def bS:Sx :=
  (ak (dG 0 [.fld 3,.ix (aa 4)] (aa 2) (aa 3))
  (aK 4 (e2 aB (aW 2 (aa 0)) (aa 4))))
noncomputable def bO:Mt:=Iz 0 3 5 [B,B]
  (ak (Hx (e2 lM (aa 2) (e2 aB (aW 3 (aa 0)) (aa 1))) (kB (bG 0 [] 0 [B,B] av (ab (aa 1) (ab (aa 2) ah)))) dc)
  (ak (cw 3 (bG 0 [] 0 [B,B,R] aI (ab (e2 ba (e2 aB (aW 1 (aa 0)) (aa 1)) (Q2 1)) (ab (Q2 0) (ab (r6 0 []) ah)))))
  (ak (aK 4 (aa 1))
  (ak (jM (g8 (cY (aa 4)) (e2 de (aa 2) (e2 aB (aW 3 (aa 0)) (aa 4)))) bS)
  (ak (Hx (cY (aa 4)) (ji 0 [.fld 2] (aa 3) (bG 0 [] 0 [B,B] av (ab (aa 4) (ab (aa 2) ah)))) dc)
  (eI 3))))))
noncomputable def cq:Sx :=
  (cw 1 (bG 0 [] 0 [B,B] bO (ab (aa 1) (ab (aa 3) ah))))
noncomputable def aO:Mt:=Iz 0 3 4 [B,B]
  (ak (gS (bL 3) (hZ (aa 2)) cq)
  (eI 1))
noncomputable def bB:Sx :=
  (Hx (e2 de (e2 Iy (aa 4) (aa 5)) (aa 1)) (ak (su 1 (e2 Iy (aa 4) (aa 5)) (eN bu (ab (aa 2) ah)))
  (sX (mh 2 [] aF (ab (e2 Iy (aa 4) (aa 5)) ah)))) dc)
noncomputable def cj:Sx :=
  (ak (aK 4 (e2 aB (aW 3 (aa 0)) (e2 aB (aa 2) (aa 3))))
  (ak (gS (bL 5) (hZ (eN g6 (ab (aa 4) ah))) bB)
  (aK 3 (e2 ba (aa 3) (Q2 1)))))
noncomputable def aH:Fn:=fn 1 6
  (ak (j5 1 (r6 0 [((Q2 0),(Q2 0))]))
  (ak (j5 2 (dk (ab (Q2 0) ah)))
  (ak (aK 3 (Q2 0))
  (ak (jM (e2 oLt (aa 3) (eN bu (ab (aa 2) ah))) cj)
  (ak (wZ 2)
  (eI 1))))))
noncomputable def bZ:Fn:=fn 3 6
  (ak (aK 3 (e2 aB (aW 2 (aa 0)) (aa 1)))
  (ak (aK 4 (e2 aB (aW 3 (aa 0)) (aa 1)))
  (ak (aK 5 (eN ko (ab (gy 1 (bL 0) (hZ (eN g6 (ab (aa 4) ah))) L (mR (ab (aa 0) (ab (e2 pJ (aa 3) (e2 Iy (aa 5) (aa 0))) ah)))) ah)))
  (ak (Hx (sA (aa 3)) (eK (mR (ab (Q2 0) (ab (Q2 0) (ab (eC .non) (ab (aa 5) ah)))))) dc)
  (eK (mR (ab (e2 ba (e2 aB (aW 1 (aa 0)) (aa 3)) (Q2 1)) (ab (e2 aB (aW 1 (aa 0)) (aa 1)) (ab (e2 pJ (aa 2) (aa 3)) (ab (aa 5) ah))))))))))
noncomputable def dJ:Fn:=fn 1 2
  (ak (j5 1 (dU 0 aH (aa 0) ah))
  (x8 1 (bL 0) (dU 0 bZ (aa 1) (ab (aa 0) (ab (aa 2) ah)))))
noncomputable def bC:Mt:=Iz 1 1 1 []
  (ak (Hx (e2 Mp (eN bu (ab (aW 4 (aa 0)) ah)) (Q2 8)) NH dc)
  (ak (sX (iM 0 [.fld 4] aF (ab (eC (.str [])) ah)))
  (ak (sX (iM 0 [.fld 5] aF (ab (Q2 0) ah)))
  (eK (e2 oG (eN bu (ab (aW 4 (aa 0)) ah)) (Q2 1))))))
def gk:Fn:=fn 1 1
  (eK (g8 (Ot .int (aa 0)) (nU (Ot .bool (aa 0)))))
def bf:Fn:=fn 2 2
  (Hx (KZ (nU (bh gk (ab (aa 1) ah))) (nU (fh oLe oLt (Q2 0) (aa 1) (eN bu (ab (aa 0) ah))))) NH dc)
def gu:Fn:=fn 1 1
  (eK (eN wQ (ab (gy 1 (bL 0) (hZ (aa 0)) L (eN bu (ab (aa 0) ah))) ah)))
noncomputable def bA:Mt:=Iz 1 3 3 [B,B]
  (ak (sX (xP (bh bf (ab (aW 4 (aa 0)) (ab (aa 1) ah)))))
  (ak (Hx (e2 Jy (e2 ba (bh gu (ab (aW 4 (aa 0)) ah)) (eN bu (ab (aa 2) ah))) (Q2 120)) NH dc)
  (ak (ji 0 [.fld 5] (aa 1) (bG 0 [.fld 6] 0 [B,B] aO (ab (e2 aB (aW 5 (aa 0)) (aa 1)) (ab (aa 2) ah))))
  (dG 0 [.fld 4] (aa 1) (e2 ba (e2 aB (aW 4 (aa 0)) (aa 1)) (aa 2))))))
noncomputable def bE:Sx :=
  (NG (o9 0 1 [B,B] bA (bG 0 [] 1 [] bC ah) (ab (aa 2) ah)))
noncomputable def ar:Mt:=Iz 1 2 3 (List.replicate 1 B)
  (ak (jm 0 4 (dk ah))
  (ak (jm 0 5 (dk ah))
  (ak (jm 0 6 (eNew 0 du ah))
  (Hx (cY (aa 1)) (gS (bL 2) (hZ (aa 1)) bE) dc))))
def nX:Fn:=fn 1 1
  (eK (eN qr (ab (aW 4 (aa 0)) ah)))
noncomputable def aD:Fn:=fn 1 1
  (eK (dU 0 dJ (aW 6 (aa 0)) ah))
noncomputable def gb:Sx :=
  (ak (aK 4 (eN jv (ab (e2 aB (e2 aB (aa 0) (e2 aB (aa 2) (Q2 (-1)))) (Q2 3)) ah)))
  (ak (Hx (e2 de (aa 3) (aa 4)) (eI 2) dc)
  (sX (mh 2 [] aF (ab (e2 Iy (aa 4) (aa 3)) ah)))))
noncomputable def lr:Fn:=fn 2 5
  (ak (j5 2 (dk (ab (Q2 0) ah)))
  (ak (gS (bL 3) (hZ (aa 1)) gb)
  (eI 2)))
def bM:Fn:=fn 2 2
  (Hx (KZ (nU (bh gk (ab (aa 1) ah))) (nU (fh oLe oLt (Q2 0) (aa 1) (eN bu (ab (aa 0) ah))))) NH dc)
noncomputable def iF:Sx :=
  (ak (sX (mh 2 [] aF (ab (aa 1) ah)))
  (aK 1 (e2 aB (e2 aB (aa 0) (aa 1)) (Q2 2))))
noncomputable def jw:Fn:=fn 2 3
  (ak (sX (xP (bh bM (ab (aa 0) (ab (aa 1) ah)))))
  (ak (j5 2 (dk ah))
  (ak (jM (cY (aa 1)) iF)
  (eI 2))))
def bY:Sx :=
  (ak (aK 5 (eN jv (ab (e2 aB (e2 aB (aa 0) (aa 4)) (Q2 3)) ah)))
  (Hx (e2 lM (aa 3) (aa 5)) (eK (mR (ab (e2 Iy (aa 5) (aa 3)) (ab (e2 ba (eN rA (ab (aa 2) (ab (e2 aB (e2 aB (aa 0) (aa 4)) (Q2 1)) ah))) (Q2 1)) ah)))) dc))
noncomputable def dF:Fn:=fn 4 6
  (ak (gS (bL 4) (hZ (bh jw (ab (aa 0) (ab (aa 1) ah)))) bY)
  (eK (mR (ab (Q2 0) (ab (Q2 0) ah)))))
noncomputable def kf:Sx :=
  (ak (aK 2 (bh dF (ab (aa 0) (ab (e2 aB (aa 2) (Q2 0)) (ab (e2 aB (aa 2) (Q2 1)) (ab (aa 4) ah))))))
  (sX (mh 3 [] aF (ab (e2 aB (aa 2) (Q2 1)) ah))))
noncomputable def dW:Fn:=fn 2 5
  (ak (aK 2 (mR (ab (Q2 0) (ab (Q2 0) ah))))
  (ak (j5 3 (dk (ab (Q2 0) ah)))
  (ak (gS (bL 4) (hZ (aa 1)) kf)
  (eI 3))))
noncomputable def lR:Sx :=
  (ak (aK 4 (e2 oG (eN bu (ab (bh lr (ab (aa 0) (ab (Kd (aa 1) (Z (aa 3)) L) ah))) ah)) (Q2 1)))
  (ak (Hx (e2 oEq (aa 4) (Q2 0)) (eK (eC .non)) dc)
  (ak (sX (mh 2 [] aF (ab (Kd (aa 1) (Z (aa 3)) (Z (e2 ba (aa 3) (aa 4)))) ah)))
  (aK 3 (e2 ba (aa 3) (aa 4))))))
noncomputable def cL:Fn:=fn 2 5
  (ak (j5 2 (dk ah))
  (ak (aK 3 (Q2 0))
  (ak (jM (e2 oLt (aa 3) (eN bu (ab (aa 1) ah))) lR)
  (eI 2))))
def fJ:Sx :=
  (ak (aK 3 (e2 oMod (e2 ba (e2 ba (e2 gH (aa 3) (Q2 69621)) (e2 gH (Q2 7) (aa 5))) (Q2 1)) (Q2 2147483647)))
  (ak (aK 6 (e2 oMod (e2 gH (aa 3) (aa 3)) (Q2 2147483629)))
  (aK 4 (e2 ba (e2 gH (aa 4) (Q2 999983)) (e2 oMod (e2 gH (aa 6) (e2 ba (e2 oMod (aa 6) (Q2 65521)) (Q2 3))) (Q2 999983))))))
noncomputable def cF:Fn:=fn 2 7
  (ak (aK 2 (e2 ba (e2 gH (aa 1) (Q2 7919)) (Q2 104729)))
  (ak (Hx (e2 Jy (eN bu (ab (aa 0) ah)) (Q2 0)) (aK 2 (e2 ba (e2 aB (aa 0) (e2 oMod (aa 1) (eN bu (ab (aa 0) ah)))) (e2 gH (e2 jK (aa 1) (eN bu (ab (aa 0) ah))) (Q2 48271)))) dc)
  (ak (Hx (e2 oEq (e2 oMod (aa 2) (Q2 2)) (Q2 0)) (eK (dk (ab (e2 jK (aa 2) (Q2 2)) ah))) dc)
  (ak (aK 3 (e2 oMod (e2 ba (e2 jK (aa 2) (Q2 2)) (e2 gH (Q2 40503) (aa 1))) (Q2 2147483629)))
  (ak (aK 4 (Q2 0))
  (ak (gS (bL 5) (df (Q2 24)) fJ)
  (eK (dk (ab (aa 4) ah)))))))))
noncomputable def au:W5->Option (W5×T):=Kl 2 3 [B]
  (ak (aK 2 (e2 oMod (e2 aB (Nr (aa 0)) (Q2 0)) (aa 1)))
  (ak (dG 0 [.un] (Q2 0) (e2 jK (e2 aB (Nr (aa 0)) (Q2 0)) (aa 1)))
  (eI 2)))
noncomputable def cf:W5->Option (W5×T):=Kl 3 3 [B,B]
  (kB (vL [] (rn (aN [(.io 0 R),(.px (xI (e2 ba (aa 2) (Q2 1))))] au) (x2 aB (xI (aa 2)) (aN [(.io 1 R),(.px (xI (eN bu (ab (aa 2) ah))))] au)))))
noncomputable def gP:W5->Option (W5×T):=Kl 1 5 []
  (ak (aK 1 (eC (.str [97,98,99,100,101,102,103,104,105,106,107,108,109,110,111,112,113,114,115,116,117,118,119,120,121,122])))
  (ak (cw 2 (lZ (dk (ab (Q2 2) (ab (Q2 1) (ab (Q2 3) (ab (Q2 2) (ab (Q2 4) (ab (Q2 2) (ab (Q2 3) (ab (Q2 26) ah))))))))) (aN [(.io 0 R),(.px (xI (Q2 8)))] au)))
  (ak (cw 3 (aN [(.io 0 R),(.px (xI (Q2 26)))] au))
  (ak (cw 4 (lZ (dk (ab (Q2 1) (ab (Q2 3) (ab (Q2 25) (ab (Q2 7) ah))))) (aN [(.io 0 R),(.px (xI (Q2 4)))] au)))
  (eK (eM jI (eC (.str [])) (ab (gy 1 (bL 0) (df (aa 2)) L (e2 aB (aa 2) (e2 oMod (e2 ba (aa 4) (e2 gH (aa 5) (aa 0))) (Q2 26)))) ah)))))))
noncomputable def dM:Sx :=
  (ak (cw 5 (aN [(.io 0 R),(.px (xI (aa 1))),(.px (lZ (dk (ab (Q2 6) (ab (Q2 3) (ab (Q2 10) (ab (Q2 8) ah))))) (aN [(.io 0 R),(.px (xI (Q2 4)))] au)))] cf))
  (ak (p5 (iY (e2 Jy (aa 4) (Q2 0)) (Kh (x2 oEq (aN [(.io 0 R),(.px (xI (Q2 4)))] au) (xI (Q2 1))))) (ak (cw 6 (o7 3 (aN [(.io 0 R),(.px (xI (aa 4)))] au)))
  (cw 5 (Mi (x2 ba (Mi (xI (aa 6)) (Z (aN [(.io 0 R),(.px (xI (e2 ba (eN bu (ab (aa 6) ah)) (Q2 1))))] au)) L) (xI (aa 5))) L (Z (xI (Q2 14)))))) dc)
  (sX (mh 3 [] aF (ab (aa 5) ah)))))
noncomputable def iC:W5->Option (W5×T):=Kl 2 7 [B]
  (ak (cw 2 (lZ (dk (ab (Q2 2) (ab (Q2 1) (ab (Q2 3) (ab (Q2 2) (ab (Q2 4) (ab (Q2 0) (ab (Q2 1) (ab (Q2 8) ah))))))))) (aN [(.io 0 R),(.px (xI (Q2 8)))] au)))
  (ak (j5 3 (dk ah))
  (ak (gS (bL 4) (df (aa 2)) dM)
  (ak (p5 (iY (fh oLt oLt (Q2 0) (aa 2) (Q2 3)) (Kh (x2 oEq (aN [(.io 0 R),(.px (xI (Q2 6)))] au) (xI (Q2 1))))) (ji 3 [] (Q2 0) (x2 uH (x2 ba (x2 ba (xI (e2 aB (aa 3) (Q2 0))) (aN [(.io 0 R),(.px (xI (aa 1))),(.px (xI (Q2 24)))] cf)) (xI (e2 aB (aa 3) (Q2 (-1))))) (x2 ba (xI (Q2 1)) (aN [(.io 0 R),(.px (xI (Q2 2)))] au)))) dc)
  (eI 3)))))
noncomputable def fu:Sx :=
  (ak (cw 5 (aN [(.io 0 R),(.px (xI (Q2 6)))] au))
  (Hx (e2 oLt (aa 5) (Q2 2)) (cw 3 (x2 ba (xI (aa 3)) (aN [(.io 0 R),(.px (xI (aa 2))),(.px (xI (Q2 7)))] cf))) (Hx (e2 oEq (aa 5) (Q2 2)) (cw 3 (x2 ba (xI (aa 3)) (x2 aB (xI (eC (.str [97,98,99,100,101,102,103,104,105,106,107,108,109,110,111,112,113,114,115,116,117,118,119,120,121,122]))) (aN [(.io 0 R),(.px (xI (Q2 26)))] au)))) (Hx (e2 JR (aa 1) (dk ah)) (ak (cw 6 (o7 1 (aN [(.io 0 R),(.px (xI (eN bu (ab (aa 1) ah))))] au)))
  (ak (cw 7 (aN [(.io 0 R),(.px (xI (e2 ba (eN bu (ab (aa 6) ah)) (Q2 1))))] au))
  (cw 3 (x2 ba (xI (aa 3)) (Mi (xI (aa 6)) (Z (xI (aa 7))) (Z (x2 ba (xI (e2 ba (aa 7) (Q2 1))) (aN [(.io 0 R),(.px (xI (Q2 40)))] au)))))))) dc))))
noncomputable def iK:W5->Option (W5×T):=Kl 3 8 [B,B]
  (ak (aK 3 (eC (.str [])))
  (ak (ve (bL 4) (x2 ba (xI (Q2 1)) (aN [(.io 0 R),(.px (xI (Q2 5)))] au)) fu)
  (eI 3)))
def dP:Fn:=fn 1 1
  (ak (Hx (sA (aa 0)) (eK (eC .non)) dc)
  (eK (eN bu (ab (aa 0) ah))))
noncomputable def gL:Fn:=fn 3 7
  (ak (aK 3 (bh cL (ab (aa 1) (ab (aa 2) ah))))
  (ak (aK 4 (dU 1 aD (eNew 1 ar (ab (gy 1 (bL 0) (hZ (aa 0)) L (Aj (aa 0))) ah)) ah))
  (ak (aK 5 (dU 1 aD (eNew 1 ar (ab (Eb (aa 0) L L (Z (Q2 (-1)))) ah)) ah))
  (ak (Hx (e2 JR (bh dP (ab (bh cL (ab (aa 4) (ab (Aj (aa 2)) ah))) ah)) (bh dP (ab (aa 3) ah))) (eK (eC (.bl B))) dc)
  (ak (Hx (KZ (e2 JR (bh dW (ab (aa 5) (ab (aa 2) ah))) (bh dW (ab (aa 1) (ab (aa 2) ah)))) (e2 JR (bh cL (ab (aa 5) (ab (aa 2) ah))) (aa 3))) (eK (eC (.bl B))) dc)
  (ak (aK 6 (e2 aB (bh dW (ab (aa 1) (ab (aa 2) ah))) (Q2 (-1))))
  (ak (Hx (e2 JR (g8 (cY (aa 3)) (e2 oLt (eN bu (ab (aa 3) ah)) (Q2 2))) (e2 oEq (aa 6) (eN bu (ab (aa 2) ah)))) (eK (eC (.bl B))) dc)
  (eK (KZ (sA (aa 3)) (KZ (e2 oEq (aa 3) (dk ah)) (e2 oLe (eN bu (ab (e2 aB (aa 3) (Q2 (-1))) ah)) (aa 6))))))))))))
noncomputable def nA:Sx :=
  (ak (cw 7 (Mi (gY [(.io 5 B),(.ex (aa 3)),(.ex (aa 2))] iK) L (Z (xI (Q2 60)))))
  (ak (Hx (nU (bh gL (ab (aa 3) (ab (aa 4) (ab (aa 7) ah))))) (eK (eC (.bl B))) dc)
  (ak (aK 8 (bh dP (ab (bh cL (ab (aa 4) (ab (aa 7) ah))) ah)))
  (ak (aK 9 (e2 oG (Q2 120) (eN wQ (ab (gy 1 (bL 0) (hZ (aa 3)) L (eN bu (ab (aa 0) ah))) ah))))
  (ak (Hx (g8 (e2 oLt (eN bu (ab (aa 3) ah)) (Q2 8)) (e2 Mp (aa 9) (eN bu (ab (aa 7) ah)))) (Hx (e2 JR (bh cL (ab (dU 1 aD (eNew 1 ar (ab (e2 ba (aa 3) (dk (ab (aa 7) ah))) ah)) ah) (ab (aa 7) ah))) (Kd (dk (ab (aa 7) ah)) L (Z (eN bu (ab (aa 7) ah))))) (eK (eC (.bl B))) dc) dc)
  (Hx (g8 (e2 oLt (eN bu (ab (aa 3) ah)) (Q2 8)) (g8 (e2 Jy (aa 9) (Q2 9)) (cY (aa 8)))) (p5 (Kh (x2 Jy (q9 (lB (lA 1 aD (oq 1 ar (sJ (wt (aN [(.io 5 B),(.px (xI (aa 2))),(.px (xI (Q2 9)))] cf)) (aa 3)))) (ab (aa 7) ah) cL)) (xI (aa 8)))) (eK (eC (.bl B))) dc) dc))))))
noncomputable def yC:Fn:=fn 1 10
  (ak (j5 1 (bh cF (ab (aa 0) (ab (Q2 0) ah))))
  (ak (cw 2 (aN [(.io 1 B)] gP))
  (ak (pS 3 (aN [(.io 1 B),(.px (xI (aa 2)))] iC))
  (ak (wZ 1)
  (ak (aK 4 (dU 1 aD (eNew 1 ar (ab (aa 3) ah)) ah))
  (ak (j5 5 (bh cF (ab (aa 0) (ab (Q2 1) ah))))
  (ak (gS (bL 6) (df (Q2 2)) nA)
  (ak (wZ 5)
  (eK (eC (.bl R)))))))))))
end T44
end
section
namespace AU
structure St where
 lg:Wc
 lk:List (Option Nat)
 wy:List (List (Nat×Nat))
def gW(w:List (Nat×Nat))(c:Nat):Option Nat:=(w.find? λp=>p.1==c).map (·.2)
def pW(w:List (Nat×Nat))(c m:Nat):List (Nat×Nat):=if w.any (λp=>p.1==c) then w.map (λp=>if p.1==c then (p.1,m) else p) else w++[(c,m)]
structure WF(S:St):Prop where
 lk:S.lk.length=S.lg.length
 wy:S.wy.length=S.lg.length
 pos:0<S.lg.length
 up:∀i n,S.lk.getD i none=some n->n<S.lg.length
 on:∀i c n,gW (S.wy.getD i []) c=some n->n<S.lg.length
 nd:∀w∈S.wy,(w.map (·.1)).Nodup
 az:∀w∈S.wy,∀p∈w,97<=p.1/\p.1<=122
theorem sub_len{α:Type}[DecidableEq α]:∀(l r:List α),l.Nodup->(∀x∈l,x∈r)->l.length<=r.length
 |[],_,_,_=>Ym _
 |a :: l,r,nd,h=>by
  obtain⟨g,f⟩:=Zf.mp nd;have d:a∈r:=h a Zt;have:=sub_len l (r.erase a) f λx b=>(List.mem_erase_of_ne (show x≠a from λe=>g (by rw[← e];exact b))).mpr (h x (Zu _ b));rw[List.length_erase_of_mem d]at this;have:0<r.length:=List.length_pos_of_mem d;rw[Zl];lia
def WF.small{S:St}(W:WF S)(i:Nat):(S.wy.getD i []).length<16777216:=by
 by_cases h:i<S.wy.length
 ·have a:S.wy.getD i []∈S.wy:=by
   rw[Zs,Zr h];exact Yy h
  have:=sub_len ((S.wy.getD i []).map (·.1)) (List.range 123) (W.nd _ a) λx b=>by
   obtain⟨p,d,rfl⟩:=Yq.mp b;have:=(W.az _ a p d).2;exact YL.mpr (by exact Nat.lt_succ_of_le this)
  rw[Zw,ZC]at this;lia
 ·rw[Zs,Z2 (ZQ h)];decide
def DI(w:List (Nat×Nat))(c:Nat):(w.any λp=>p.1==c)=(gW w c).isSome:=by
 unfold gW;rw[Yh,Yb,Y3,List.find?_isSome]
def Cd(w:List (Nat×Nat))(c m d:Nat):gW (pW w c m) d=if d=c then Z m else gW w d:=by
 unfold pW;split
 ·rename_i h
  induction w with
  |nil=>simp at h
  |cons p w b =>
   rw[Zo];unfold gW;rw[Z9,Z9];by_cases q:p.1=c
   ·rw[Zq (by simpa using q)];by_cases r:p.1=d
    ·have:(p.1==d)=R:=by simpa using r
     simp only[this];rw[Zq (by rw[← r,q])];rfl
    ·have a:(p.1==d)=B:=by simpa using r
     have:d≠c:=λe=>r (by rw[e,q]);simp only[a,Zp this];have key:∀w:List (Nat×Nat),(w.map λp=>if p.1==c then (p.1,m) else p).find? (λp=>p.1==d)=w.find? λp=>p.1==d:=by
      intro w
      induction w with
      |nil=>rfl
      |cons x w b =>
       rw[Zo,Z9,Z9,b];by_cases y:x.1=c
       ·rw[Zq (by simpa using y)];have:(x.1==d)=B:=by simpa using λe=>this (by rw[← e,y])
        simp only[this]
       ·rw[Zp (by simpa using y)]
     rw[key w]
   ·rw[Zp (by simpa using q)];have i:(w.any λp=>p.1==c)=R:=by
     rw[YY]at h;simpa[q] using h
    have f:=b i;unfold gW at f;by_cases r:p.1=d
    ·have a:(p.1==d)=R:=by simpa using r
     simp only[a];rw[Zp (λe=>q (by rw[r,e]))]
    ·have a:(p.1==d)=B:=by simpa using r
     simp only[a];exact f
 ·rename_i h;unfold gW;rw[List.find?_append];by_cases q:d=c
  ·subst q;have:w.find? (λp=>p.1==d)=L:=by
    rw[List.find?_eq_none];intro p g e;exact h (Y3.mpr ⟨p,g,e⟩)
   rw[this,Zq Y];simp
  ·rw[Zp q];have:((c==d)=B):=by simpa using λe=>q e.symm
   simp[this]
def Ar(w:List (Nat×Nat))(c m:Nat)(d:(w.map (·.1)).Nodup):((pW w c m).map (·.1)).Nodup:=by
 unfold pW;split
 ·rw[Z0];have:((λp:Nat×Nat=>p.1) ∘ λp=>if (p.1==c)=R then (p.1,m) else p)=λp=>p.1:=by
   funext p;simp only[Function.comp];split<;>rfl
  rw[this];exact d
 ·rename_i h;rw[ZF,ZP];refine⟨d,by simp,λa g b hb e=>?_⟩;have i:b=c:=by simpa using hb
  subst e i;obtain⟨p,f,e⟩:=Yq.mp g;exact h (Y3.mpr ⟨p,f,by simpa using e⟩)
def Dj{w:List (Nat×Nat)}{c m:Nat}{p:Nat×Nat}(h:p∈pW w c m):p.1=c\/p∈w:=by
 unfold pW at h;split at h
 ·obtain⟨q,a,rfl⟩:=Yq.mp h;by_cases r:(q.1==c)=R
  ·rw[Zq r];exact .inl (by simpa using r)
  ·rw[Zp r];exact .inr a
 ·rcases ZY.mp h with h | h
  ·exact .inr h
  ·rw[Zb.mp h];exact .inl Y
def iw{α:Type}(l:List α)(i j:Nat)(x d:α):(l.set i x).getD j d=if i=j/\i<l.length then x else l.getD j d:=by
 rw[Zs,Zs,Wt];by_cases h:i=j
 ·subst h;by_cases a:i<l.length
  ·rw[Zq Y,Zq a,Zq ⟨rfl,a⟩];rfl
  ·rw[Zq Y,Zp a,Zp (λz=>a z.2),Z2 (ZQ a)]
 ·rw[Zp h,Zp (λz=>h z.1)]
def b6{α:Type}(l:List α)(x d:α)(j:Nat):(l++[x]).getD j d=if j=l.length then x else l.getD j d:=by
 rw[Zs,Zs];by_cases h:j<l.length
 ·rw[ZA h,Zp (ZW h)]
 ·rw[Yx (ZQ h)];by_cases a:j=l.length
  ·rw[Zq a,a,Nat.sub_self];rfl
  ·rw[Zp a,Z2 (ZQ h),Z2 (by simp;lia)]
def WF.way{S:St}(W:WF S){n c v:Nat}(g:v<S.lg.length)(j:97<=c/\c<=122):WF ⟨S.lg,S.lk,S.wy.set n (pW (S.wy.getD n []) c v)⟩:=by
 refine⟨W.lk,by rw[Z8];exact W.wy,W.pos,W.up,λi d m h=>?_,λw hw=>?_,λw hw p f=>?_⟩
 ·show m<S.lg.length;have b:gW ((S.wy.set n (pW (S.wy.getD n []) c v)).getD i []) d=Z m:=h;rw[iw]at b;split at b
  ·rw[Cd]at b;split at b
   ·cases b;exact g
   ·exact W.on n d m b
  ·exact W.on i d m b
 ·by_cases a:n<S.wy.length
  ·rcases List.mem_or_eq_of_mem_set hw with h | h
   ·exact W.nd w h
   ·rw[h];refine Ar _ c v (W.nd _ ?_);rw[Zs,Zr a];exact Yy a
  ·rw[List.set_eq_of_length_le (ZQ a)]at hw;exact W.nd w hw
 ·by_cases a:n<S.wy.length
  ·rcases List.mem_or_eq_of_mem_set hw with h | h
   ·exact W.az w h p f
   ·rw[h]at f;rcases Dj f with e | e
    ·rw[e];exact j
    ·refine W.az _ ?_ p e;rw[Zs,Zr a];exact Yy a
  ·rw[List.set_eq_of_length_le (ZQ a)]at hw;exact W.az w hw p f
def WF.link{S:St}(W:WF S){n v:Nat}(b:v<S.lg.length):WF ⟨S.lg,S.lk.set n (Z v),S.wy⟩:=by
 refine⟨by rw[Z8];exact W.lk,W.wy,W.pos,λi m h=>?_,W.on,W.nd,W.az⟩;have a:(S.lk.set n (Z v)).getD i L=Z m:=h;rw[iw]at a;split at a
 ·cases a;exact b
 ·exact W.up i m a
def WF.more{S:St}(W:WF S){l:Nat}{o:Option Nat}{w:List (Nat×Nat)}(f:∀n,o=Z n->n<S.lg.length)(hw:∀c n,gW w c=Z n->n<S.lg.length)(e:(w.map (·.1)).Nodup)(g:∀p∈w,97<=p.1/\p.1<=122):WF ⟨S.lg++[l],S.lk++[o],S.wy++[w]⟩:=by
 have b:∀{n},n<S.lg.length->n<(S.lg++[l]).length:=λh=>by rw[Zv,Zc];exact Ye h
 refine⟨by rw[Zv,Zv,W.lk];rfl,by rw[Zv,Zv,W.wy];rfl,by rw[Zv];exact ZR W.pos (Yk _ _),λi n h=>?_,λi c n h=>?_,λx d=>?_,λx d=>?_⟩
 ·have a:(S.lk++[o]).getD i L=Z n:=h;rw[b6]at a;split at a
  ·exact b (f n a)
  ·exact b (W.up i n a)
 ·have a:gW ((S.wy++[w]).getD i []) c=Z n:=h;rw[b6]at a;split at a
  ·exact b (hw c n a)
  ·exact b (W.on i c n a)
 ·rcases ZY.mp d with h | h
  ·exact W.nd x h
  ·rw[Zb.mp h];exact e
 ·rcases ZY.mp d with h | h
  ·exact W.az x h
  ·rw[Zb.mp h];exact g
def up1(c v:Nat):Nat->St->Option Nat->Option (St×Option Nat)
 |_,S,none=>Z (S,L)
 |0,_,some _=>L
 |k+1,S,some n=>if (gW (S.wy.getD n []) c).isSome then Z (S,Z n) else up1 c v k ⟨S.lg,S.lk,S.wy.set n (pW (S.wy.getD n []) c v)⟩ (S.lk.getD n L)
def LN(c a v:Nat):Nat->St->Option Nat->Option St
 |_,S,none=>Z S
 |0,_,some _=>L
 |k+1,S,some n=>if gW (S.wy.getD n []) c=Z a then LN c a v k ⟨S.lg,S.lk,S.wy.set n (pW (S.wy.getD n []) c v)⟩ (S.lk.getD n L) else Z S
def Lq(S:St)(n c:Nat):Option (St×Nat):=(gW (S.wy.getD n []) c).bind λold=>if S.lg.getD old 0=S.lg.getD n 0+1 then Z (S,old) else
 (LN c old S.lg.length 1000 ⟨S.lg++[S.lg.getD n 0+1],(S.lk++[S.lk.getD old L]).set old (Z S.lg.length),S.wy++[S.wy.getD old []]⟩ (Z n)).map λa=>(a,S.lg.length)
def hb(S:St)(h c:Nat):Option (St×Nat):=if (gW (S.wy.getD h []) c).isSome then Lq S h c else
 (up1 c S.lg.length 1000 ⟨S.lg++[S.lg.getD h 0+1],S.lk++[Z 0],S.wy++[[]]⟩ (Z h)).bind λz=>match z.2 with
  |none=>Z (z.1,S.lg.length)
  |some n=>(Lq z.1 n c).map λy=>(⟨y.1.lg,y.1.lk.set S.lg.length (Z y.2),y.1.wy⟩,S.lg.length)
def hg(S:St)(h:Nat):Wc->Option (St×Nat)
 |[]=>Z (S,h)
 |c :: r=>(hb S h c).bind λz=>hg z.1 z.2 r
def Sm(S:St):Prop:=S.lg.length<=100001
def WF.NA{S:St}(W:WF S)(i:Nat):((S.wy.getD i []).map (·.1)).Nodup/\∀p∈S.wy.getD i [],97<=p.1/\p.1<=122:=by
 by_cases h:i<S.wy.length
 ·have a:S.wy.getD i []∈S.wy:=by
   rw[Zs,Zr h];exact Yy h
  exact⟨W.nd _ a,W.az _ a⟩
 ·rw[Zs,Z2 (ZQ h)];exact⟨Z5,λp b=>nomatch b⟩
def S0:St:=⟨[0],[L],[[]]⟩
def BS:WF S0:=by
 refine⟨rfl,rfl,by decide,λi n h=>?_,λi c n h=>?_,λw hw=>?_,λw hw p a=>?_⟩
 ·cases i with
  |zero=>cases h
  |succ i=>cases h
 ·cases i with
  |zero=>cases h
  |succ i=>cases h
 ·rw[Zb.mp hw];exact Z5
 ·rw[Zb.mp hw]at a;cases a
end AU
end
section
namespace VS
def e2v{f:Val->Val->W4}{a b:Ex}{U:Env}{x y z:Val}(g:a U=Z x)(e:b U=Z y)(d:f x y=Z z):e2 f a b U=Z z:=by
 show (a U).bind _=_;rw[g,Zx,e];exact d
def xv{a:Ex}{r:Hf}{U:Env}{x:Val}{b:W3}(e:a U=Z x)(d:r U=Z b):ab a r U=Z (x :: b):=by
 show (a U).bind _=_;rw[e,Zx,d];rfl
def Gp{c:Ex}{a b:Sx}{U:Env}{m:Md}(h:c U=Z (m,.bl R)):Hx c a b U=a U:=by
 show (c U).bind _=_;rw[h];rfl
def GJ{c:Ex}{a b:Sx}{U:Env}{m:Md}(h:c U=Z (m,.bl B)):Hx c a b U=b U:=by
 show (c U).bind _=_;rw[h];rfl
def iT{f:W3->W4}{a:Hf}{U:Env}{b:W3}{v:Val}(h:a U=Z b)(d:f b=Z v):eN f a U=Z v:=by
 show (a U).bind f=_;rw[h,Zx,d]
def fL{e:Ex}{U:Env}{t:T}(h:e U=Z (.fr,t)):eK e U=Z (.rt (.fr,t) U):=by
 show (e U).bind _=_;rw[h];rfl
def fW{a b:Sx}{U d:Env}{v:Val}(h:a U=Z (.rt v d)):ak a b U=Z (.rt v d):=by
 show (a U).bind _=_;rw[h];rfl
def qG{a b:Sx}{U U1:Env}(h:a U=Z (.nx U1)):ak a b U=b U1:=by
 show (a U).bind _=_;rw[h];rfl
def sq{a b:Sx}{U U1:Env}{r:Option Out}(h:a U=Z (.nx U1))(q:b U1=r):ak a b U=r:=(qG h).trans q
def JA{c:Ex}{a b:Sx}{U:Env}{m:Md}{r:Option Out}(h:c U=Z (m,.bl R))(q:a U=r):Hx c a b U=r:=(Gp h).trans q
def eO{c:Ex}{a b:Sx}{U:Env}{m:Md}{r:Option Out}(h:c U=Z (m,.bl B))(q:b U=r):Hx c a b U=r:=(GJ h).trans q
def eQ{d e:Nat}{b:Sx}{a:W5}{v:Val}{U:Env}(f:a.length=d)(h:b (a.map (λt=>Z (.pu t))++List.replicate (e-d) L)=Z (.rt v U)):fn d e b a=Z v:=by
 unfold fn;rw[Zq f,h];rfl
def Fh{d e:Nat}{b:Sx}{a:W5}{U:Env}(f:a.length=d)(h:b (a.map (λt=>Z (.pu t))++List.replicate (e-d) L)=Z (.nx U)):fn d e b a=Z (.fr,.non):=by
 unfold fn;rw[Zq f,h];rfl
def iI{a b:Ex}{U:Env}{m:Md}{x:Bool}{v:Val}(f:a U=Z (m,.bl x))(e:x=R->b U=Z v)(d:x=B->v=(.fr,.bl B)):g8 a b U=Z v:=by
 show (a U).bind _=_;rw[f,Zx];cases x with
 |true=>exact e Y
 |false=>exact congrArg Z (d Y).symm
def sr{a b:Ex}{U:Env}{m:Md}{x:Bool}{v:Val}(f:a U=Z (m,.bl x))(e:x=B->b U=Z v)(d:x=R->v=(.fr,.bl R)):KZ a b U=Z v:=by
 show (a U).bind _=_;rw[f,Zx];cases x with
 |false=>exact e Y
 |true=>exact congrArg Z (d Y).symm
def Gk{a b:Ex}{U:Env}{m n:Md}{x y:Bool}(f:a U=Z (m,.bl x))(d:b U=Z (.fr,.bl y)):g8 a b U=Z (.fr,.bl (x&&y)):=iI f (λe=>by rw[e];exact d) (λe=>by rw[e];rfl)
def Uz{a b:Ex}{U:Env}{m n:Md}{x y:Bool}(f:a U=Z (m,.bl x))(d:b U=Z (.fr,.bl y)):KZ a b U=Z (.fr,.bl (x||y)):=sr f (λe=>by rw[e];exact d) (λe=>by rw[e];rfl)
def uj{a:Ex}{U:Env}{m:Md}{b:Bool}(h:a U=Z (m,.bl b)):nU a U=Z (.fr,.bl (!b)):=by
 show (a U).bind _=_;rw[h];rfl
def qy{f g:Val->Val->W4}{a b c:Ex}{U:Env}{x y z v:Val}(j:a U=Z x)(i:b U=Z y)(h:f x y=Z (.fr,.bl R))(e:c U=Z z)(d:g y z=Z v):fh f g a b c U=Z v:=by
 show (a U).bind _=_;rw[j,Zx,i,Zx,h,Zx];show (c U).bind _=_;rw[e];exact d
def Bp{f g:Val->Val->W4}{a b c:Ex}{U:Env}{x y:Val}(h:a U=Z x)(e:b U=Z y)(d:f x y=Z (.fr,.bl B)):fh f g a b c U=Z (.fr,.bl B):=by
 show (a U).bind _=_;rw[h,Zx,e,Zx,d];rfl
def vI{n:Nat}{i:Int}(b:0<=i)(a:i<n):HI n i=Z i.toNat:=by rw[HI,Zq b,Zq a]
def v9{n:Nat}{i:Nat}(a:i<n):HI n (i:Int)=Z i:=by
 rw[HI,Zq (Int.natCast_nonneg i),Zq (Int.ofNat_lt.mpr a)];rfl
def A1{m n:Md}(l:Wb)(i:Int)(b:0<=i)(a:i<l.length):aB (m,.scr l) (n,.int i)=Z (.fr,.int (l.getD i.toNat 0)):=by
 have d:i.toNat<l.length:=by lia
 show (HI l.length i).bind _=_;rw[vI b a,Zx,Zs,Zr d];rfl
def tF{m n:Md}(t:Tx)(i:Int)(b:0<=i)(a:i<t.length):aB (m,.str t) (n,.int i)=Z (.fr,.str [t.getD i.toNat 0]):=by
 have d:i.toNat<t.length:=by lia
 show (HI t.length i).bind _=_;rw[vI b a,Zx,Zs,Zr d];rfl
def nN{m n:Md}{a b:T}{r:Bool}(e:HJ 60 a=R)(d:HJ 60 b=R)(h:eqT a b=r):oEq (m,a) (n,b)=Z (.fr,.bl r):=by
 show (if HJ 60 a/\HJ 60 b then Z (Md.fr,T.bl (eqT a b)) else L)=_;rw[Zq ⟨e,d⟩,h]
def o6{m n:Md}{a b:T}{r:Bool}(e:HJ 60 a=R)(d:HJ 60 b=R)(h:eqT a b=r):JR (m,a) (n,b)=Z (.fr,.bl (!r)):=by
 show (if HJ 60 a/\HJ 60 b then Z (Md.fr,T.bl (!eqT a b)) else L)=_;rw[Zq ⟨e,d⟩,h]
def lj{i:Nat}{e:Ex}{U:Env}{l:W5}{v:T}(f:U[i]?=Z (Z (.ow (.lst l))))(d:e U=Z (.fr,v))(b:l.length<16777216):sX (mh i [] aF (ab e ah)) U=Z (.nx (U.set i (Z (.ow (.lst (l++[v])))))):=by
 have a:ab e ah U=Z [(.fr,v)]:=xv d Y;unfold sX mh;rw[f];show ((Z ([]:List Ky)).bind _ |>.map _)=_;rw[Zx,a,Zx];show ((aF (.lst l) [(.fr,v)]).map _ |>.map _)=_;rw[eV b];rfl
end VS
end
section
namespace T44
open VS AU
abbrev pc(t:T):W0:=Z (.pu t)
abbrev Q0(i:Int):Option Cell:=Z (.pu (.int i))
abbrev Q1(t:Tx):Option Cell:=Z (.pu (.str t))
abbrev oc(t:T):W0:=Z (.ow t)
def G2(w:List (Nat×Nat)):T:=.dct 0 (w.map λp=>(T.str [p.1],T.int (p.2:Int)))
def G7:Option Nat->T
 |none=>.non
 |some n=>.int (n:Int)
def Jr(S:St):sO:=[(1,.lst (S.lg.map λ(n:Nat)=>T.int (n:Int))),(2,.lst (S.lk.map G7)),(3,.lst (S.wy.map G2))]
def GN(S:St)(b:Bool):T:=.obj 1 ((0,.bl b) :: Jr S)
def lh(o:Option Nat):GR (G7 o)=R:=by cases o<;>rfl
theorem dY{α:Type}(f:α->T)(h:∀a,eJ (f a)=R):∀l:List α,bc (l.map f)=R
 |[]=>rfl
 |a :: l=>by rw[Zo,bc,h a,dY f h l];rfl
def yG(w:List (Nat×Nat)):eJ (G2 w)=R:=by
 show oU (w.map λp=>(T.str [p.1],T.int (p.2:Int)))=R
 induction w with
 |nil=>rfl
 |cons p w a=>rw[Zo,oU,a];rfl
def kz(S:St):dE (Jr S)=R:=by
 have d:eJ (.lst (S.lg.map λ(n:Nat)=>T.int (n:Int)))=R:=dY _ (λ_=>rfl) _;have b:eJ (.lst (S.lk.map G7))=R:=dY _ (λo=>lN _ (lh o)) _;have a:eJ (.lst (S.wy.map G2))=R:=dY _ yG _;show ((eJ _ && !(1==0&&Lv _))&&((eJ _ && !(2==0&&Lv _))&&((eJ _ && !(3==0&&Lv _))&&R)))=R;rw[d,b,a];rfl
def EA(S:St)(b:Bool):qK 1 (GN S b)=Z (.lst (S.lg.map λ(n:Nat)=>T.int (n:Int))):=rfl
def Gh(S:St)(b:Bool):qK 2 (GN S b)=Z (.lst (S.lk.map G7)):=rfl
def GD(S:St)(b:Bool):qK 3 (GN S b)=Z (.lst (S.wy.map G2)):=rfl
def g7{k:Nat}{a:Ex}{U:Env}{m:Md}{t u:T}(h:a U=Z (m,t))(b:qK k t=Z u):aW k a U=Z (sub m u):=by
 unfold aW;rw[h,Zx,b];rfl
def kb{α:Type}{m n:Md}(f:α->T)(l:List α)(i:Nat)(d:α)(h:i<l.length):aB (m,.lst (l.map f)) (n,.int (i:Int))=Z (sub m (f (l.getD i d))):=by
 show (HI (l.map f).length (i:Int)).bind _=_;rw[Zw,v9 h,Zx,ZS,Zr h,Zs,Zr h];rfl
section
variable{U:Env}{m n:Md}{S:St}{b:Bool}{a e:Ex}{i:Nat}
def sZ(h:a U=Z (m,GN S b))(f:e U=Z (n,.int (i:Int)))(d:i<S.lg.length):e2 aB (aW 1 a) e U=Z (.fr,.int ((S.lg.getD i 0:Nat):Int)):=e2v (g7 h (EA S b)) f (kb _ _ i 0 d)
def vB(h:a U=Z (m,GN S b))(f:e U=Z (n,.int (i:Int)))(d:i<S.lk.length):e2 aB (aW 2 a) e U=Z (.fr,G7 (S.lk.getD i L)):=(e2v (g7 h (Gh S b)) f (kb _ _ i L d)).trans (by
 show Z (up _ _)=_;unfold up;rw[lh];rfl)
def ng(h:a U=Z (m,GN S b))(f:e U=Z (n,.int (i:Int)))(d:i<S.wy.length):e2 aB (aW 3 a) e U=Z (m,G2 (S.wy.getD i [])):=e2v (g7 h (GD S b)) f (kb _ _ i [] d)
def Df(h:a U=Z (m,GN S b)):eN bu (ab (aW 1 a) ah) U=Z (.fr,.int (S.lg.length:Nat)):=iT (xv (g7 h (EA S b)) Y) (by
 show Z (Md.fr,T.int (((S.lg.map λ(n:Nat)=>T.int (n:Int)).length:Nat):Int))=_;rw[Zw])
end
def Dq(a c:Nat):eqT (.str [a]) (.str [c])=(a==c):=by
 simp only[eqT];by_cases h:a=c
 ·simp[h]
 ·simp[h]
def pK(w:List (Nat×Nat))(c:Nat):fI (w.map λp=>(T.str [p.1],T.int (p.2:Int))) (.str [c])=(gW w c).map λ(n:Nat)=>T.int (n:Int):=by
 unfold fI gW;rw[List.find?_map];have:((λp:T×T=>eqT p.1 (.str [c])) ∘ λp:Nat×Nat=>(T.str [p.1],T.int (p.2:Int)))=λp:Nat×Nat=>p.1==c:=by
  funext p;exact Dq p.1 c
 rw[this];cases w.find? λp=>p.1==c with
 |none=>rfl
 |some p=>rfl
def Ft(w:List (Nat×Nat))(c m:Nat):dput (w.map λp=>(T.str [p.1],T.int (p.2:Int))) (.str [c]) (.int (m:Int))=(pW w c m).map λp=>(T.str [p.1],T.int (p.2:Int)):=by
 have a:(w.map λp=>(T.str [p.1],T.int (p.2:Int))).any (λp=>eqT p.1 (.str [c]))=w.any λp=>p.1==c:=by
  rw[List.any_map];congr 1;funext p;exact Dq p.1 c
 unfold dput pW;rw[a];split
 ·rw[Z0,Z0];apply XE;intro p _;simp only[Function.comp,Dq];split<;>rfl
 ·rw[ZF];rfl
section
variable{U:Env}{m n k:Md}{S:St}{b:Bool}{a e ec ev:Ex}{i c v:Nat}{w:List (Nat×Nat)}
def E1(h:a U=Z (m,G2 w))(d:e U=Z (n,.str [c])):e2 lM e a U=Z (.fr,.bl (gW w c).isSome):=e2v d h (by
 show (if R=R then Z (Md.fr,T.bl (fI _ _).isSome) else L)=_;rw[Zq Y,pK,Yh])
def BO(h:a U=Z (m,G2 w))(d:e U=Z (n,.str [c])):e2 de e a U=Z (.fr,.bl (!(gW w c).isSome)):=e2v d h (by
 show (match (if R=R then Z (Md.fr,T.bl (fI (w.map λp=>(T.str [p.1],T.int (p.2:Int))) (.str [c])).isSome) else L) with | some (_,.bl b)=>some (Md.fr,T.bl (!b)) | _=>none)=_;rw[Zq Y,pK,Yh])
def tK(h:a U=Z (m,G2 w))(f:e U=Z (n,.str [c]))(d:gW w c=Z v):e2 Iy a e U=Z (.fr,.int (v:Int)):=e2v h f (by
 show (if R=R then (fI _ _).map (sub m) else L)=_;rw[Zq Y,pK,d];rfl)
def EX(h:a U=Z (m,G2 w))(d:e U=Z (n,.str [c])):e2 wH a e U=Z (.fr,G7 (gW w c)):=e2v h d (by
 show (if R=R then Z (match fI (w.map λp=>(T.str [p.1],T.int (p.2:Int))) (.str [c]) with | some t=>sub m t | none=>(.fr,.non)) else none)=_;rw[Zq Y,pK];cases gW w c with
 |none=>rfl
 |some v=>rfl)
def yF{r:List (W0)}(d:i<S.wy.length)(l:e (oc (GN S b) :: r)=Z (n,.int (i:Int)))(o:ec (oc (GN S b) :: r)=Z (m,.str [c]))(g:ev (oc (GN S b) :: r)=Z (k,.int (v:Int)))(f:(S.wy.getD i []).length<16777216) :
  dG 0 [.fld 3,.ix e] ec ev (oc (GN S b) :: r)=Z (.nx (oc (GN ⟨S.lg,S.lk,S.wy.set i (pW (S.wy.getD i []) c v)⟩ b) :: r)):=by
 unfold dG;rw[g,Zx];show ((keys [.fld 3,.ix e] (oc (GN S b) :: r)).bind _)=_;have j:keys [.fld 3,.ix e] (oc (GN S b) :: r)=Z [.fld 3,.at (.int (i:Int))]:=by
  show ((e _).bind _).map _=_;rw[l];rfl
 rw[j,Zx,o,Zx];have h:pm (j3 (m,.str [c]) (k,.int (v:Int))) [.fld 3,.at (.int (i:Int))] (GN S b)=Z (GN ⟨S.lg,S.lk,S.wy.set i (pW (S.wy.getD i []) c v)⟩ b,()):=by
  show ((pm (j3 (m,.str [c]) (k,.int (v:Int))) [.at (.int (i:Int))] (.lst (S.wy.map G2))).map _)=_;have:pm (j3 (m,.str [c]) (k,.int (v:Int))) [.at (.int (i:Int))] (.lst (S.wy.map G2))=Z (.lst ((S.wy.set i (pW (S.wy.getD i []) c v)).map G2),()):=by
   show ((HI (S.wy.map G2).length (i:Int)).bind _)=_;rw[Zw,v9 d,Zx,ZS,Zr d];show ((j3 (m,.str [c]) (k,.int (v:Int)) (G2 S.wy[i])).map _)=_;have e1:S.wy.getD i []=S.wy[i]:=by rw[Zs,Zr d];rfl
   rw[e1]at f ⊢;show ((if R=R/\R=R/\(S.wy[i].map _).length<eY then Z (T.dct 0 (dput _ _ _),()) else L).map _)=_;rw[Zq ⟨rfl,rfl,by rw[Zw];exact f⟩,Ft,XQ];rfl
  rw[this];rfl
 rw[h];rfl
def yP{r:List (W0)}(h:i<S.lk.length)(j:e (oc (GN S b) :: r)=Z (n,.int (i:Int)))(d:ev (oc (GN S b) :: r)=Z (.fr,.int (v:Int))) :
  dG 0 [.fld 2] e ev (oc (GN S b) :: r)=Z (.nx (oc (GN ⟨S.lg,S.lk.set i (Z v),S.wy⟩ b) :: r)):=by
 unfold dG;rw[d,Zx];show ((keys [.fld 2] (oc (GN S b) :: r)).bind _)=_;have g:keys [.fld 2] (oc (GN S b) :: r)=Z [.fld 2]:=rfl;rw[g,Zx,j,Zx];have f:pm (j3 (n,.int (i:Int)) (.fr,.int (v:Int))) [.fld 2] (GN S b)=Z (GN ⟨S.lg,S.lk.set i (Z v),S.wy⟩ b,()):=by
  show ((j3 (n,.int (i:Int)) (.fr,.int (v:Int)) (.lst (S.lk.map G7))).map _)=_;have:j3 (n,.int (i:Int)) (.fr,.int (v:Int)) (.lst (S.lk.map G7))=Z (.lst ((S.lk.set i (Z v)).map G7),()):=by
   show ((HI (S.lk.map G7).length (i:Int)).map _)=_;rw[Zw,v9 h,XQ];rfl
  rw[this];rfl
 rw[f];rfl
end
end T44
end
section
namespace VS
def wr(a:Bool)(k:Nat)(t:T):T:=if a then K9 k t else t
def L7(l:W5):List Ia:=l.map λt=>Ia.ex (eC t)
theorem zU(U:Env):∀l:W5,iQ U (L7 l)=Z l
 |[]=>rfl
 |t :: l=>by
  show ((Z (Md.fr,t):W4).bind λv=>(MS v).bind λt=>(iQ U (L7 l)).map (t :: ·))=_;rw[zU U l];rfl
theorem vM(U:Env):∀l:W5,iL (L7 l) [] U=U
 |[]=>rfl
 |t :: l=>vM U l
theorem Ce:∀l:W5,Hj (L7 l)=[]
 |[]=>rfl
 |t :: l=>Ce l
section
variable{i k j:Nat}{un:Bool}{r:List Ix}{l:W5}{U U1 U2 U3:Env}{c0:Cell}{s t t0 t1 u y:T}{g:W5->Option (W5×T)}{x a b:Xx}{c:Ex}{m:Md}{f:Val->Val->W4}
def ci{r:List Ia}(d:U[i]?=Z (Z (.ow (wr un k t0))))(e:iQ U r=Z l)(w:Hj r=[])(n:∀U,iL r [] U=U)(p:oQ t0=R)(o:eJ t0=R)(q:bc l=R)(v:g (t0 :: l)=Z ([t1],y)) :
  gY (.io i un :: r) g U=Z ((.fr,y),U.set i (Z (.ow (wr un k t1)))):=by
 have e2:iQ U (.io i un :: r)=Z (t0 :: l):=by
  show (Lx un U[i]?).bind _=_;rw[d];have:Lx un (Z (Z (.ow (wr un k t0))))=Z t0:=by
   cases un
   ·show (if oQ t0 then Z t0 else L)=_;rw[Zq p]
   ·rfl
  rw[this];show (iQ U r).map _=_;rw[e];rfl
 unfold gY;rw[e2,Zx,Zq ⟨by rw[bc,o,q];rfl,by show (i :: Hj r).Nodup;rw[w];exact Zf.mpr ⟨(λh=>nomatch h),Z5⟩⟩,v];show Z ((Md.fr,y),iL r [] (U.set i (Z (.ow (pd un U[i]? t1)))))=_;rw[n,d];cases un<;>rfl
def cx(q:U[i]?=Z (Z c0))(d:jH r U=Z (L7 l,U1))(p:U1[i]?=Z (Z (.ow (wr un k t0))))(h:oQ t0=R)(e:eJ t0=R)(n:bc l=R)(o:g (t0 :: l)=Z ([t1],y)) :
  aN (.io i un :: r) g U=Z ((.fr,y),U1.set i (Z (.ow (wr un k t1)))):=by
 have e1:jH (.io i un :: r) U=Z (.io i un :: L7 l,U1):=by
  unfold jH;rw[q];show (jH r U).map _=_;rw[d];rfl
 unfold aN;rw[e1];exact ci p (zU U1 l) (Ce l) (λU=>vM U l) h e n o
def lS(d:x U=Z ((.fr,t),U1))(h:GR t=R)(e:jH r U1=Z (L7 l,U2)):jH (.px x :: r) U=Z (L7 (t :: l),U2):=by
 unfold jH;rw[d,Zx,Zq h,e];rfl
def bP(h:c U=Z (m,t))(hi:GR t=R):xI c U=Z ((.fr,t),U):=by
 unfold xI;rw[h,Zx,Zq hi]
def iN(p:a U=Z ((.fr,s),U1))(o:b U1=Z ((.fr,t),U2))(n:f (.fr,s) (.fr,t)=Z (m,u))(h:GR s=R)(e:GR t=R)(d:GR u=R):x2 f a b U=Z ((.fr,u),U2):=by
 unfold x2;rw[p,Zx,o,Zx,n,Zx,Zq ⟨h,e,d⟩]
def dv(h:x U=Z ((.fr,t),U1))(hi:GR t=R)(d:j<U1.length):cw j x U=Z (.nx (U1.set j (Z (.pu t)))):=by
 unfold cw;rw[h,Zx,Zq ⟨hi,d⟩]
def AK(h:x U=Z ((.fr,t),U1))(d:GR t=R):kB x U=Z (.rt (.fr,t) U1):=by
 unfold kB;rw[h,Zx,Zq d]
def wb(l:Wb):d6 (l.map .int)=R:=by
 induction l with
 |nil=>rfl
 |cons a l d=>exact d
def my{i:Int}(l:Wb)(h:c U=Z (.fr,.lst (l.map .int)))(e:b U=Z ((.fr,.int i),U1))(n:0<=i)(d:i<l.length):lZ c b U=Z ((.fr,.int (l.getD i.toNat 0)),U1):=by
 unfold lZ;rw[h,Zx];show (b U).bind _=_;rw[e,Zx];show (HI (l.map T.int).length i).bind _=_;rw[Zw,vI n d,Zx,ZS,Zr (by omega)];show (if d6 (l.map .int)=R/\GR (T.int (l[i.toNat]'(by omega)))=R then Z ((Md.fr,T.int (l[i.toNat]'(by omega))),U1) else L)=_;rw[Zq ⟨wb l,rfl⟩,Zs,Zr (by omega)];rfl
def uC{n:Nat}{c d:Cell}{i:Int}(l:List Tx)(h:U[n]?=Z (Z c))(q:b U=Z ((.fr,.int i),U1))(p:U1[n]?=Z (Z d))(o:i4 d=.lst (l.map .str))(v:0<=i)(e:i<l.length):o7 n b U=Z ((.fr,.str (l.getD i.toNat [])),U1):=by
 unfold o7;rw[h];show (b U).bind _=_;rw[q,Zx];dsimp only;rw[p];dsimp only;rw[o];show (HI (l.map T.str).length i).bind _=_;rw[Zw,vI v e,Zx,ZS,Zr (by omega)];show Z ((Md.fr,T.str (l[i.toNat]'(by omega))),U1)=_;rw[Zs,Zr (by omega)];rfl
def kH{i:Int}(h:x U=Z ((.fr,.int i),U1)):lV (Z x) U=Z (Z i,U1):=by
 show (x U).bind _=_;rw[h];rfl
def uW{lo hi:Option Xx}{w:Tx}{p q:Option Int}(h:a U=Z ((.fr,.str w),U1))(e:lV lo U1=Z (p,U2))(d:lV hi U2=Z (q,U3)):Mi a lo hi U=Z ((.fr,.str (cut w p q)),U3):=by
 unfold Mi;rw[h,Zx];show (lV lo U1).bind _=_;rw[e,Zx];show (lV hi U2).map _=_;rw[d];rfl
def oh{o p:Nat}{e:List Bool}{d:Sx}{h n:W5}{v:Val}(z:h.length+1=o/\e.length=h.length)(A:d ((Z (.ow (K9 1 t0)) :: List.zipWith jr e (markL 1 e h))++List.replicate (p-o) L)=Z (.rt v U))(q:l6 U 0 (R :: e)=Z n)(C:wU n v=R)(w:bc n=R):Kl o p e d (t0 :: h)=Z (n,v.2):=by
 dsimp only[Kl];rw[Zq z,A,Zx];dsimp only;rw[q,Zx,Zq ⟨C,w⟩]
def Cn{d:Xt}{p q:Sx}(h:d U=Z (R,U1)):p5 d p q U=p U1:=by
 unfold p5;rw[h];rfl
def sT{d:Xt}{p q:Sx}(h:d U=Z (B,U1)):p5 d p q U=q U1:=by
 unfold p5;rw[h];rfl
def zH{d:Xt}(h:c U=Z (m,.bl B)):iY c d U=Z (B,U):=by
 unfold iY;rw[h];rfl
def ze{d:Xt}(h:c U=Z (m,.bl R)):iY c d U=d U:=by
 unfold iY;rw[h];rfl
def Cm{b:Bool}(h:x U=Z ((.fr,.bl b),U1)):Kh x U=Z (b,U1):=by
 unfold Kh;rw[h];rfl
def vo{i j:Int}(e:a U=Z ((.fr,.int i),U1))(d:b U1=Z ((.fr,.int j),U2)):Kh (x2 oEq a b) U=Z (i==j,U2):=Cm (iN e d (nN Y Y (by simp only[eqT])) Y Y Y)
def DT{f:Val->W3->W4}{o:Ex}{e:Hf}{x v:Val}{d:W3}(p:o U=Z x)(n:e U=Z d)(h:f x d=Z v):eM f o e U=Z v:=by
 unfold eM;rw[p,Zx,n];exact h
end
end VS
end
section
namespace T44
open VS
abbrev sp(un:Bool)(n:Int):W0:=oc (wr un 1 (.lst [.int n]))
def DL(n m:Int)(h:0<m/\m<1073741824):au [.lst [.int n],.int m]=Z ([.lst [.int (n/m)]],.int (n%m)):=by
 have s1:aK 2 (e2 oMod (e2 aB (Nr (aa 0)) (Q2 0)) (aa 1)) [sp R n,Q0 m,L]=Z (.nx [sp R n,Q0 m,Q0 (n%m)]) :=
  aJ (m:=.fr) (e2v (x:=(.fr,.int n)) (y:=(.fr,.int m)) Y Y (fX h.1)) (by decide) (by show 2<3;decide)
 have d:dG 0 [.un] (Q2 0) (e2 jK (e2 aB (Nr (aa 0)) (Q2 0)) (aa 1)) [sp R n,Q0 m,Q0 (n%m)]=Z (.nx [sp R (n/m),Q0 m,Q0 (n%m)]):=by
  unfold dG;rw[e2v (f:=jK) (x:=(.fr,.int n)) (y:=(.fr,.int m)) (U:=[sp R n,Q0 m,Q0 (n%m)]) (a:=e2 aB (Nr (aa 0)) (Q2 0)) (b:=aa 1) Y Y (kC h)];rfl
 exact oh (v:=(.fr,.int (n%m))) ⟨rfl,rfl⟩ (sq s1 (sq d Y)) Y Y Y
section
variable{i:Nat}{un:Bool}{U U1:Env}{c0:Cell}{n m:Int}{x:Xx}
def nx(a:0<m/\m<1073741824)(g:U[i]?=Z (Z c0))(e:x U=Z ((.fr,.int m),U1))(f:U1[i]?=Z (sp un n)):∃d b,0<=d/\d<m/\aN [.io i un,.px x] au U=Z ((.fr,.int d),U1.set i (sp un b)) :=
 ⟨n%m,n/m,YD _ (by lia),YV _ a.1,cx g (lS e Y Y) f Y Y Y (DL n m a)⟩
end
def ui{x:Xx}{i:Int}{r:Wb}{U a d:Env}{c:W0}{t:T}{b:W5}(h:x (Q0 i :: U)=Z ((.fr,t),c :: a))(f:GR t=R)(e:ic x r a=Z (b,d)):ic x (i :: r) U=Z (t :: b,d):=by
 unfold ic;rw[h,Zx];show (if GR t=R then (ic x r a).map _ else _)=_;rw[Zq f,e];rfl
def Ao{y:Env->Option (W5×Env)}{U a:Env}{s:Tx}(h:y U=Z (s.map λc=>T.str [c],a))(b:s.length<=100000):vL [] y U=Z ((.fr,.str s),a):=by
 unfold vL;rw[h,Zx];have:=o5 (m:=.fr) (n:=.fr) (strs_map (λx=>[x]) s) (by rw[fU];lia);rw[fU]at this;show (jI (.fr,.str []) [(.fr,.lst (s.map λc=>T.str [c]))]).map _=_;rw[this];rfl
def BG{b x:Xx}{j:Int}{U a e:Env}{d:W5}(g:b U=Z ((.fr,.int j),a))(f:0<=j/\j<1000000)(h:ic x (Lw 0 j.toNat) a=Z (d,e)):rn b x U=Z (d,e):=by
 unfold rn;rw[g,Zx];show (if 0<=j/\j<1000000 then ic x (Lw 0 j.toNat) a else L)=_;rw[Zq f];exact h
def An(n:Nat):(Lw 0 n).length=n:=by unfold Lw;rw[Zw,Xc]
def tH(L:Tx)(a n:Int)(y:0<L.length)(C:L.length<1000)(A:0<=a)(z:a<1000):∃(b:Int)(t:Tx),cf [.lst [.int n],.str L,.int a]=Z ([.lst [.int b]],.str t)/\t.length<=a.toNat/\∀c∈t,c∈L:=by
 have loop:∀(r:Wb)(n:Int),∃(b:Int)(s:Tx),ic (x2 aB (xI (aa 2)) (aN [(.io 1 R),(.px (xI (eN bu (ab (aa 2) ah))))] au)) r [sp R n,Q1 L,Q0 a]=Z (s.map λc=>T.str [c],[sp R b,Q1 L,Q0 a])/\s.length=r.length/\∀c∈s,c∈L:=by
  intro r
  induction r with
  |nil=>intro n;exact⟨n,[],rfl,rfl,λ_ h=>nomatch h⟩
  |cons i r q =>
   intro n;obtain⟨d,f,l,p,e⟩:=nx (i:=1) (un:=R) (m:=(L.length:Int)) (n:=n) (x:=xI (eN bu (ab (aa 2) ah))) (U:=[Q0 i,sp R n,Q1 L,Q0 a]) (U1:=[Q0 i,sp R n,Q1 L,Q0 a]) (by lia) Y (bP (m:=.fr) Y Y) Y;obtain⟨b,s,o,g,j⟩:=q f;have hd:d.toNat<L.length:=by lia
   refine⟨b,L.getD d.toNat 0 :: s,ui (iN (bP (m:=.fr) Y Y) e (tF L d l p) Y Y Y) Y o,by rw[Zl,Zl,g],λc w=>?_⟩;rcases Zi.mp w with rfl | h
   ·rw[Zs,Zr hd];exact Yy hd
   ·exact j c h
 obtain⟨d,f,l,p,e⟩:=nx (i:=0) (un:=R) (m:=a+1) (n:=n) (x:=xI (e2 ba (aa 2) (Q2 1))) (U:=[sp R n,Q1 L,Q0 a]) (by lia) Y (bP (m:=.fr) Y Y) Y;obtain⟨b,s,o,g,j⟩:=loop (Lw 0 d.toNat) f;have u:s.length=d.toNat:=by rw[g,An]
 exact⟨b,s,oh (v:=(.fr,.str s)) (U:=[sp R b,Q1 L,Q0 a]) ⟨rfl,rfl⟩ (AK (Ao (BG e ⟨l,by lia⟩ o) (by lia)) Y) Y Y Y,by lia,j⟩
def az:Tx:=[97,98,99,100,101,102,103,104,105,106,107,108,109,110,111,112,113,114,115,116,117,118,119,120,121,122]
def zr:∀c∈az,97<=c/\c<=122:=by decide
def getD_mem'{l:Tx}{i:Nat}(h:i<l.length):l.getD i 0∈l:=by
 rw[Zs,Zr h];exact Yy h
def BJ(n:Int):∃(r:Int)(s:Tx),gP [.lst [.int n]]=Z ([.lst [.int r]],.str s)/\0<s.length/\s.length<=26/\∀c∈s,97<=c/\c<=122:=by
 obtain⟨d,o,E,D,e⟩:=nx (i:=0) (un:=R) (m:=8) (n:=n) (x:=xI (Q2 8)) (U:=[sp R n,Q1 az,L,L,L]) (by decide) Y (bP (m:=.fr) Y Y) Y;have u:∀k,k<8->1<=([2,1,3,2,4,2,3,26]:Wb).getD k 0/\([2,1,3,2,4,2,3,26]:Wb).getD k 0<=26:=by decide
 have f1:=u d.toNat (by lia);have g:=dv (j:=2) (my (c:=(dk (ab (Q2 2) (ab (Q2 1) (ab (Q2 3) (ab (Q2 2) (ab (Q2 4) (ab (Q2 2) (ab (Q2 3) (ab (Q2 26) ah)))))))))) ([2,1,3,2,4,2,3,26]:Wb) Y e E D) Y (by show 2<5;decide);generalize ([2,1,3,2,4,2,3,26]:Wb).getD d.toNat 0=IQ at f1 g;obtain⟨a,l,N,M,C⟩:=nx (i:=0) (un:=R) (m:=26) (n:=o) (x:=xI (Q2 26)) (U:=[sp R o,Q1 az,Q0 IQ,L,L]) (by decide) Y (bP (m:=.fr) Y Y) Y;obtain⟨q,h,H,G,A⟩:=nx (i:=0) (un:=R) (m:=4) (n:=l) (x:=xI (Q2 4)) (U:=[sp R l,Q1 az,Q0 IQ,Q0 a,L]) (by decide) Y (bP (m:=.fr) Y Y) Y;have f:=dv (j:=4) (my (c:=(dk (ab (Q2 1) (ab (Q2 3) (ab (Q2 25) (ab (Q2 7) ah)))))) ([1,3,25,7]:Wb) Y A H G) Y (by show 4<5;decide);have t:∀k,k<4->0<=([1,3,25,7]:Wb).getD k 0/\([1,3,25,7]:Wb).getD k 0<=26:=by decide
 have z:=t q.toNat (by lia);generalize ([1,3,25,7]:Wb).getD q.toNat 0=st at z f;have F:=gg (k:=1) (tg:=bL 0) (it:=df (aa 2)) (elt:=e2 aB (aa 2) (e2 oMod (e2 ba (aa 4) (e2 gH (aa 5) (aa 0))) (Q2 26))) (m:=.fr) (U:=[sp R h,Q1 az,Q0 IQ,Q0 a,Q0 st]) (λ(j:Nat)=>T.int (j:Int)) (λj=>T.str [az.getD ((a+st*(j:Int))%26).toNat 0]) (List.range IQ.toNat) (by
   rw[gv (m:=.fr) (j:=IQ) Y (by lia),i8]) Y (by rw[ZC];lia) λj J=>⟨_,rfl,by
   refine e2v (x:=(.fr,.str az)) Y (e2v (x:=(.fr,.int (a+st*(j:Int)))) (y:=(.fr,.int 26)) (e2v (x:=(.fr,.int a)) Y (e2v (x:=(.fr,.int st)) (y:=(.fr,.int (j:Int))) Y Y (jZ (by omega))) Y) Y (fX (by decide))) (tF az _ (YD _ (by decide)) (YV _ (by decide)))⟩
 have p:=o5 (m:=.fr) (n:=.fr) (strs_map (λ(j:Nat)=>[az.getD ((a+st*(j:Int))%26).toNat 0]) (List.range IQ.toNat)) (by rw[show (List.range IQ.toNat).map (λ(j:Nat)=>[az.getD ((a+st*(j:Int))%26).toNat 0])=((List.range IQ.toNat).map λ(j:Nat)=>az.getD ((a+st*(j:Int))%26).toNat 0).map (λx=>[x]) from by rw[Z0];rfl,fU,Zw,ZC];lia);rw[show (List.range IQ.toNat).map (λ(j:Nat)=>[az.getD ((a+st*(j:Int))%26).toNat 0])=((List.range IQ.toNat).map λ(j:Nat)=>az.getD ((a+st*(j:Int))%26).toNat 0).map (λx=>[x]) from by rw[Z0];rfl,fU]at p;refine⟨h,(List.range IQ.toNat).map λ(j:Nat)=>az.getD ((a+st*(j:Int))%26).toNat 0,oh (v:=(.fr,.str _)) ⟨rfl,rfl⟩ (sq (U1:=[sp R n,Q1 az,L,L,L]) Y (sq g (sq (dv C Y (by show 3<5;decide)) (sq f (fL ?_))))) Y Y Y,by rw[Zw,ZC];lia,by rw[Zw,ZC];lia,λc w=>?_⟩
 ·exact DT Y (xv F Y) p
 ·obtain⟨j,_,rfl⟩:=Yq.mp w;have:=YD (a+st*(j:Int)) (b:=26) (by decide);have:=YV (a+st*(j:Int)) (b:=26) (by decide);exact zr _ (getD_mem' (by show _<26;lia))
theorem i9{β:Type}{tg:Tg}{body:Sx}(g:β->T)(Inv:List β->Env->Prop)(h:∀t r U,Inv (t :: r) U->∃e a,tg (g t) U=Z e/\body e=Z (.nx a)/\Inv r a):∀(l:List β)(U:Env),Inv l U->∃b,forL tg body (l.map g) U=Z (.nx b)/\Inv [] b
 |[],U,d=>⟨U,rfl,d⟩
 |t :: l,U,d=>by
  obtain⟨e,a,e1,e2,i⟩:=h t l U d;obtain⟨b,f,j⟩:=i9 g Inv h l a i;exact⟨b,(fY e1 e2).trans f,j⟩
def Az(t:Tx):Prop:=∀c∈t,97<=c/\c<=122
abbrev EB(n:Int)(L:Tx)(a:Int)(f:List Tx)(e d b:W0):Env:=[sp R n,Q1 L,Q0 a,oc (.lst (f.map .str)),e,d,b]
section
variable{L:Tx}{many:Int}{bk:List Tx}{z4 z5 z6:W0}
def Nh(n m:Int)(b:0<m/\m<1073741824){c:Ex}(e:c (EB n L many bk z4 z5 z6)=Z (.fr,.int m)):∃d a,0<=d/\d<m/\aN [.io 0 R,.px (xI c)] au (EB n L many bk z4 z5 z6)=Z ((.fr,.int d),EB a L many bk z4 z5 z6) :=
 nx (i:=0) (un:=R) (n:=n) b Y (bP e Y) Y
def Na(g:0<L.length/\L.length<=26/\Az L)(n b a:Int)(f:0<=a/\a<1000){x:Xx}(j:x (EB n L many bk z4 z5 z6)=Z ((.fr,.int a),EB b L many bk z4 z5 z6)):∃(d:Int)(t:Tx),t.length<=a.toNat/\Az t/\aN [.io 0 R,.px (xI (aa 1)),.px x] cf (EB n L many bk z4 z5 z6)=Z ((.fr,.str t),EB d L many bk z4 z5 z6):=by
 obtain⟨d,t,e,p,o⟩:=tH L a b g.1 (by lia) f.1 f.2;exact⟨d,t,p,λc h=>g.2.2 c (o c h),cx (i:=0) (un:=R) (k:=1) (r:=[.px (xI (aa 1)),.px x]) (l:=[.str L,.int a]) (U1:=EB b L many bk z4 z5 z6) Y (lS (t:=.str L) (bP (m:=.fr) Y Y) Y (lS j Y Y)) Y Y Y Y e⟩
end
def qL{t:Tx}{p q:Option Int}(h:Az t):Az (cut t p q):=λc a=>h c (Be t p q a)
def lH{s t:Tx}(h:Az s)(g:Az t):Az (s++t):=λc a=>(ZY.mp a).elim (h c) (g c)
def rG(t:Tx)(k:Nat):(cut t L (Z (k:Int))).length<=k:=by
 rw[Cw];exact List.length_take_le _ _
def AL:∀k,k<8->0<=([2,1,3,2,4,0,1,8]:Wb).getD k 0/\([2,1,3,2,4,0,1,8]:Wb).getD k 0<=8:=by decide
def AY:∀k,k<4->0<=([6,3,10,8]:Wb).getD k 0/\([6,3,10,8]:Wb).getD k 0<=10:=by decide
def ir{l:List Tx}{i:Nat}(h:i<l.length):l.getD i []∈l:=by
 rw[Zs,Zr h];exact Yy h
def vV{L:Tx}(U:0<L.length/\L.length<=26/\Az L){many:Int}{bk:List Tx}(S:∀t∈bk,t.length<=14/\Az t)(h8:bk.length<8)(n:Int)(z5 z6:W0) :
  ∃(h:Int)(t:Tx)(C o:W0),dM (EB n L many bk (Q0 (bk.length:Int)) z5 z6)=Z (.nx (EB h L many (bk++[t]) (Q0 (bk.length:Int)) C o))/\t.length<=14/\Az t:=by
 obtain⟨d,Q,d0,d1,e⟩:=Nh (L:=L) (many:=many) (bk:=bk) (z4:=Q0 (bk.length:Int)) (z5:=z5) (z6:=z6) n 4 (by decide) (c:=Q2 4) Y;have g:=AY d.toNat (by lia);obtain⟨w,t,ht,z,Io⟩:=Na U n Q _ ⟨g.1,by lia⟩ (my (c:=dk (ab (Q2 6) (ab (Q2 3) (ab (Q2 10) (ab (Q2 8) ah))))) ([6,3,10,8]:Wb) Y e d0 d1);have H:t.length<=14:=by lia
 have s1:=dv (j:=5) Io Y (by show 5<7;decide);have fin:∀(h:Int)(t:Tx)(o:W0),t.length<=14->Az t->∃(UI:Int)(s:Tx)(C Pq:W0),sX (mh 3 [] aF (ab (aa 5) ah)) (EB h L many bk (Q0 (bk.length:Int)) (Q1 t) o)=Z (.nx (EB UI L many (bk++[s]) (Q0 (bk.length:Int)) C Pq))/\s.length<=14/\Az s:=λh t o h1 X=>by
  refine⟨h,t,Q1 t,o,?_,h1,X⟩;rw[lj (i:=3) (l:=bk.map T.str) (v:=.str t) Y Y (by rw[Zw];lia)];show Z (Out.nx [sp R h,Q1 L,Q0 many,oc (.lst (bk.map T.str++[.str t])),Q0 (bk.length:Int),Q1 t,o])=_;rw[show bk.map T.str++[.str t]=(bk++[t]).map T.str from by rw[ZF];rfl]
 by_cases hk:bk.length=0
 ·obtain⟨q,p,a,b,f1,f2⟩:=fin w t z6 H z;refine⟨q,p,a,b,sq s1 (sq ((sT (zH (m:=.fr) ?_)).trans Y) f1),f2⟩;refine e2v (x:=(.fr,.int (bk.length:Int))) (y:=(.fr,.int 0)) Y Y ?_;show Z (Md.fr,T.bl (decide ((0:Int)<(bk.length:Int))))=_;rw[ZZ (by lia)]
 ·obtain⟨G,q,a0,a1,e3⟩:=Nh (L:=L) (many:=many) (bk:=bk) (z4:=Q0 (bk.length:Int)) (z5:=Q1 t) (z6:=z6) w 4 (by decide) (c:=Q2 4) Y;have tt:iY (e2 Jy (aa 4) (Q2 0)) (Kh (x2 oEq (aN [(.io 0 R),(.px (xI (Q2 4)))] au) (xI (Q2 1)))) (EB w L many bk (Q0 (bk.length:Int)) (Q1 t) z6)=Z (G==1,EB q L many bk (Q0 (bk.length:Int)) (Q1 t) z6):=by
   refine(ze (m:=.fr) ?_).trans (vo e3 (bP (m:=.fr) Y Y));refine e2v (x:=(.fr,.int (bk.length:Int))) (y:=(.fr,.int 0)) Y Y ?_;show Z (Md.fr,T.bl (decide ((0:Int)<(bk.length:Int))))=_;rw[decide_eq_true (by lia)]
  cases hd:(G==1) with
  |false =>
   rw[hd]at tt;obtain⟨r,p,a,b,f1,f2⟩:=fin q t z6 H z;exact⟨r,p,a,b,sq s1 (sq ((sT tt).trans Y) f1),f2⟩
  |true =>
   rw[hd]at tt;obtain⟨F,r,b0,b1,e4⟩:=Nh (L:=L) (many:=many) (bk:=bk) (z4:=Q0 (bk.length:Int)) (z5:=Q1 t) (z6:=z6) q (bk.length:Int) (by lia) (c:=aa 4) Y;have D:=dv (j:=6) (uC (n:=3) bk Y e4 Y Y b0 b1) Y (by show 6<7;decide);have E:=S _ (ir (l:=bk) (i:=F.toNat) (by lia));generalize bk.getD F.toNat []=old at D E;obtain⟨A,u,_,_,e5⟩:=Nh (L:=L) (many:=many) (bk:=bk) (z4:=Q0 (bk.length:Int)) (z5:=Q1 t) (z6:=Q1 old) r ((old.length:Int)+1) (by lia) (c:=e2 ba (eN bu (ab (aa 6) ah)) (Q2 1)) Y;have Ri:(cut old (Z A) none).length<=old.length:=za old (Z A) none;have N:xI (aa 6) (EB r L many bk (Q0 (bk.length:Int)) (Q1 t) (Q1 old))=Z ((.fr,.str old),_):=bP (m:=.fr) Y Y;have M:xI (aa 5) (EB u L many bk (Q0 (bk.length:Int)) (Q1 t) (Q1 old))=Z ((.fr,.str t),_):=bP (m:=.fr) Y Y;have J:xI (Q2 14) (EB u L many bk (Q0 (bk.length:Int)) (Q1 t) (Q1 old))=Z ((.fr,.int 14),_):=bP (m:=.fr) Y Y;have O:=dv (j:=5) (uW (iN (f:=ba) (uW (hi:=none) N (kH e5) Y) M (jl (by lia)) Y Y Y) (lo:=none) Y (kH J)) Y (by show 5<7;decide);obtain⟨P,p,a,b,f1,f2⟩:=fin u (cut (cut old (Z A) none++t) none (Z 14)) (Q1 old) (rG _ 14) (qL (lH (qL E.2) z));exact⟨P,p,a,b,sq s1 (sq ((Cn tt).trans (sq D O)) f1),f2⟩
def Dt{b:List Tx}(h:∀t∈b,t.length<=14):(b.map List.length).sum<=14*b.length:=by
 induction b with
 |nil=>exact Zm _
 |cons a l d =>
  have:=d λt e=>h t (Zu _ e);have:=h a Zt;rw[Zo,YO,Zl];lia
def zX(n:Int)(a:List Tx):wU [.lst [.int n]] (.fr,.lst (a.map .str))=R:=by
 unfold wU;rw[Bool.or_eq_true];refine .inr ?_;show (a.map T.str).all xR=R;rw[Ws];exact Yw.mpr λ_ _=>rfl
def kF{α:Type}{m n:Md}(f:α->T)(l:List α)(d:α)(h:0<l.length):aB (m,.lst (l.map f)) (n,.int (-1))=Z (sub m (f (l.getD (l.length-1) d))):=by
 show ((HI (l.map f).length (-1)).bind _)=_;have:HI (l.map f).length (-1)=Z (l.length-1):=by
  unfold HI;rw[Zw,Zp (by decide),Zq (by lia)];congr 1;lia
 rw[this,Zx,ZS,Zs,Zr (by omega)];rfl
theorem uY(w:Tx):∀k,(List.replicate k w).flatten.length=k*w.length
 |0=>by rw[Nat.zero_mul];rfl
 |k+1=>by rw[Y5,ZV,Zv,uY w k,Nat.succ_mul,Ww]
def D1{L:Tx}(hL:0<L.length/\L.length<=26/\Az L)(n:Int):∃(E:Int)(bk:List Tx),iC [.lst [.int n],.str L]=Z ([.lst [.int E]],.lst (bk.map .str))/\bk.length<=8/\(bk.map List.length).sum<=120/\∀t∈bk,Az t:=by
 obtain⟨d,s,d0,d1,e⟩:=nx (i:=0) (un:=R) (m:=8) (n:=n) (x:=xI (Q2 8)) (U:=[sp R n,Q1 L,none,none,none,none,none]) (by decide) Y (bP (m:=.fr) Y Y) Y;have hf:=AL d.toNat (by lia);have s1:=dv (j:=2) (my (c:=(dk (ab (Q2 2) (ab (Q2 1) (ab (Q2 3) (ab (Q2 2) (ab (Q2 4) (ab (Q2 0) (ab (Q2 1) (ab (Q2 8) ah)))))))))) ([2,1,3,2,4,0,1,8]:Wb) Y e d0 d1) Y (by show 2<7;decide);generalize ([2,1,3,2,4,0,1,8]:Wb).getD d.toNat 0=many at hf s1;obtain⟨U',f1,q,bk,z4,z5,z6,rfl,_,hb,hlen⟩:=i9 (tg:=bL 4) (body:=dM) (λ(k:Nat)=>T.int (k:Int)) (λr U=>∃(n:Int)(bk:List Tx)(z4 z5 z6:W0),U=EB n L many bk z4 z5 z6/\r=List.range' bk.length r.length/\(∀t∈bk,t.length<=14/\Az t)/\bk.length+r.length=many.toNat) (by
  rintro k r _ ⟨n,bk,z4,z5,z6,rfl,hr,hb,hl⟩;rw[Zl]at hl;rw[Zl,List.range'_succ]at hr;obtain⟨rfl,UY⟩:=List.cons.inj hr;obtain⟨E,t,Mh,LM,e,h1,h2⟩:=vV (many:=many) hL hb (by lia) n z5 z6;refine⟨EB n L many bk (Q0 (bk.length:Int)) z5 z6,_,rfl,e,E,bk++[t],_,Mh,LM,rfl,by rw[Zv];exact UY,λu G=>?_,by rw[Zv,Zc];lia⟩;rcases ZY.mp G with h | h
  ·exact hb u h
  ·rw[Zb.mp h];exact⟨h1,h2⟩) (List.range many.toNat) (EB s L many [] none none none) ⟨s,[],none,none,none,rfl,by rw[ZC];exact List.range_eq_range',(λ_ h=>nomatch h),by rw[ZC];exact Nat.zero_add _⟩
 have Oc:bk.length=many.toNat:=hlen;have s3:gS (bL 4) (df (aa 2)) dM (EB s L many [] none none none)=Z (.nx (EB q L many bk z4 z5 z6)):=by
  refine(fz (m:=.fr) ?_ Y).trans f1;rw[gv (m:=.fr) (j:=many) Y (by lia),i8]
 have fin:∀{p:Int}{TQ:List Tx}(b:Sx),b (EB q L many bk z4 z5 z6)=Z (.nx (EB p L many TQ z4 z5 z6))->Kl 2 7 [false] (ak (cw 2 (lZ (dk (ab (Q2 2) (ab (Q2 1) (ab (Q2 3) (ab (Q2 2) (ab (Q2 4) (ab (Q2 0) (ab (Q2 1) (ab (Q2 8) ah))))))))) (aN [(.io 0 R),(.px (xI (Q2 8)))] au))) (ak (j5 3 (dk ah)) (ak (gS (bL 4) (df (aa 2)) dM) (ak b (eI 3))))) [.lst [.int n],.str L]=Z ([.lst [.int p]],.lst (TQ.map .str)):=λb hb =>
  oh (v:=(.fr,.lst (_:W5))) ⟨rfl,rfl⟩ (sq s1 (sq (U1:=EB s L many [] none none none) Y (sq s3 (sq hb Y)))) Y (zX _ _) Y
 have Om:bk.length<=8/\(bk.map List.length).sum<=120/\∀t∈bk,Az t:=⟨by lia,by have:=Dt λt g=>(hb t g).1;lia,λt g=>(hb t g).2⟩
 obtain⟨d2,p,a0,a1,e3⟩:=Nh (L:=L) (many:=many) (bk:=bk) (z4:=z4) (z5:=z5) (z6:=z6) q 6 (by decide) (c:=Q2 6) Y;by_cases hm:0<many/\many<3
 ·have tt:iY (fh oLt oLt (Q2 0) (aa 2) (Q2 3)) (Kh (x2 oEq (aN [(.io 0 R),(.px (xI (Q2 6)))] au) (xI (Q2 1)))) (EB q L many bk z4 z5 z6)=Z (d2==1,EB p L many bk z4 z5 z6):=by
   refine(ze (m:=.fr) (qy (x:=(.fr,.int 0)) (y:=(.fr,.int many)) (z:=(.fr,.int 3)) Y Y ?_ Y ?_)).trans (vo e3 (bP (m:=.fr) Y Y))
   ·show Z (Md.fr,T.bl (decide ((0:Int)<many)))=_;rw[decide_eq_true hm.1]
   ·show Z (Md.fr,T.bl (decide (many<3)))=_;rw[decide_eq_true hm.2]
  cases hd:(d2==1) with
  |false =>
   rw[hd]at tt;exact⟨p,bk,fin _ ((sT tt).trans Y),Om⟩
  |true =>
   rw[hd]at tt;have C:0<bk.length:=by lia
   obtain⟨Q,t,g,hz,e4⟩:=Na (bk:=bk) (z4:=z4) (z5:=z5) (z6:=z6) (many:=many) hL p p 24 (by decide) (x:=xI (Q2 24)) (bP (m:=.fr) Y Y);obtain⟨o,D,b0,b1,e5⟩:=Nh (L:=L) (many:=many) (bk:=bk) (z4:=z4) (z5:=z5) (z6:=z6) Q 2 (by decide) (c:=Q2 2) Y;have X:e2 aB (aa 3) (Q2 0) (EB p L many bk z4 z5 z6)=Z (.fr,.str (bk.getD 0 [])):=e2v (x:=(.bo,.lst (bk.map .str))) (y:=(.fr,.int ((0:Nat):Int))) Y Y (kb T.str bk 0 [] C);have S:e2 aB (aa 3) (Q2 (-1)) (EB Q L many bk z4 z5 z6)=Z (.fr,.str (bk.getD (bk.length-1) [])):=e2v (x:=(.bo,.lst (bk.map .str))) (y:=(.fr,.int (-1))) Y Y (kF T.str bk [] C);have P:=hb _ (ir (l:=bk) C);have O:=hb _ (ir (l:=bk) (i:=bk.length-1) (by lia));generalize hA:bk.getD 0 []=A at X P;generalize bk.getD (bk.length-1) []=B at S O;have N:=iN (iN (bP X Y) e4 (jl (by lia)) Y Y Y) (bP S Y) (jl (by rw[Zv];lia)) Y Y Y;have xr:=iN (f:=ba) (bP (c:=Q2 1) (m:=.fr) Y Y) e5 (u:=.int (1+o)) Y Y Y Y;have J:(A++t++B).length<=52:=by rw[Zv,Zv];lia
   have Oe:Az (A++t++B):=lH (lH P.2 hz) O.2;generalize A++t++B=w at N J Oe;have M:=iN N xr (f:=uH) (m:=.fr) (u:=.str (List.replicate (1+o).toNat w).flatten) (by
    show (if w.length*(1+o).toNat<=16777216/\-4611686018427387904<=1+o/\1+o<4611686018427387904 then _ else _)=_;rw[Zq ⟨by
     have:w.length*(1+o).toNat<=52*2:=Nat.mul_le_mul J (by lia);lia,by lia,by lia⟩]) Y Y Y
   have F:(List.replicate (1+o).toNat w).flatten.length<=104:=by
    rw[uY];have:(1+o).toNat*w.length<=2*52:=Nat.mul_le_mul (by lia) J;omega
   have H:Az (List.replicate (1+o).toNat w).flatten:=λc hc=>by
    obtain⟨u,G,IC⟩:=Wj.mp hc;rw[(List.mem_replicate.mp G).2]at IC;exact Oe c IC
   generalize (List.replicate (1+o).toNat w).flatten=W at M F H;refine⟨D,bk.set 0 W,fin _ ((Cn tt).trans ?_),?_⟩
   ·refine(congrArg (λz=>Option.bind z _) M).trans ?_;show dG 3 [] (Q2 0) (λ_=>Z (.fr,.str W)) (EB D L many bk z4 z5 z6)=_;show ((((HI (bk.map T.str).length 0).map λj=>(T.lst ((bk.map T.str).set j (.str W)),())).map _):Option Out)=_;rw[Zw,show HI bk.length 0=Z 0 from v9 (i:=0) C];show Z (Out.nx [sp R D,Q1 L,Q0 many,oc (.lst ((bk.map T.str).set 0 (.str W))),z4,z5,z6])=_;rw[show (bk.map T.str).set 0 (.str W)=(bk.set 0 W).map T.str from by rw[XQ]]
   ·have:bk.length=1\/bk.length=2:=by lia
    rcases this with h | h
    ·obtain⟨a,rfl⟩:=List.length_eq_one_iff.mp h;refine⟨by show 1<=8;decide,by show W.length+0<=120;lia,λt g=>?_⟩;rw[Zb.mp (show t∈[W] from g)];exact H
    ·match bk,h with
     |[a,b],_ =>
      have Pf:=hb b (by simp);refine⟨by show 2<=8;decide,by show W.length+(b.length+0)<=120;lia,λt g=>?_⟩;rcases Zi.mp (show t∈[W,b] from g) with rfl | g
      ·exact H
      ·rw[Zb.mp g];exact Pf.2
 ·have tt:iY (fh oLt oLt (Q2 0) (aa 2) (Q2 3)) (Kh (x2 oEq (aN [(.io 0 R),(.px (xI (Q2 6)))] au) (xI (Q2 1)))) (EB q L many bk z4 z5 z6)=Z (false,EB q L many bk z4 z5 z6):=by
   refine zH (m:=.fr) ?_;by_cases h0:0<many
   ·refine qy (x:=(.fr,.int 0)) (y:=(.fr,.int many)) (z:=(.fr,.int 3)) Y Y ?_ Y ?_
    ·show Z (Md.fr,T.bl (decide ((0:Int)<many)))=_;rw[decide_eq_true h0]
    ·show Z (Md.fr,T.bl (decide (many<3)))=_;rw[ZZ (by lia)]
   ·refine Bp (x:=(.fr,.int 0)) (y:=(.fr,.int many)) Y Y ?_;show Z (Md.fr,T.bl (decide ((0:Int)<many)))=_;rw[ZZ h0]
  exact⟨q,bk,fin _ ((sT tt).trans Y),Om⟩
abbrev s1(c:Nat):T:=.str [c]
def eq_int{a:Ex}{U:Env}{m:Md}{i:Int}(k:Int)(h:a U=Z (m,.int i)):e2 oEq a (Q2 k) U=Z (.fr,.bl (i==k)):=e2v h Y (nN Y Y (by simp only[eqT]))
def mul_r{m n:Md}{i j:Int}(h:-18446744073709551616<j/\j<18446744073709551616):gH (m,.int i) (n,.int j)=Z (.fr,.int (i*j)):=Zq (.inr h)
abbrev ES(f:Wb)(k:Nat)(c:Int)(e d b a:W0):Env:=[pc (.scr f),Q0 k,Q0 c,e,d,b,a]
def rK(d:Wb)(LZ:d.length<=63)(k:Nat)(P:k<1000):∃n,cF [.scr d,.int k]=Z (.fr,.lst [.int n]):=by
 have s1:aK 2 (e2 ba (e2 gH (aa 1) (Q2 7919)) (Q2 104729)) [pc (.scr d),Q0 k,L,L,L,L,L]=Z (.nx (ES d k (((k:Int)*7919+104729)) L L L L)) :=
  aJ (m:=.fr) (e2v (e2v (x:=(.fr,.int k)) (y:=(.fr,.int 7919)) Y Y (jZ (by lia))) (y:=(.fr,.int 104729)) Y Y) (by decide) (by show 2<7;decide)
 have p:∃c,Hx (e2 Jy (eN bu (ab (aa 0) ah)) (Q2 0)) (aK 2 (e2 ba (e2 aB (aa 0) (e2 oMod (aa 1) (eN bu (ab (aa 0) ah)))) (e2 gH (e2 jK (aa 1) (eN bu (ab (aa 0) ah))) (Q2 48271)))) dc (ES d k (((k:Int)*7919+104729)) L L L L)=Z (.nx (ES d k c L L L L)):=by
  have A:e2 Jy (eN bu (ab (aa 0) ah)) (Q2 0) (ES d k (((k:Int)*7919+104729)) L L L L)=Z (.fr,.bl (decide ((0:Int)<(d.length:Int)))):=e2v (x:=(.fr,.int (d.length:Int))) (y:=(.fr,.int 0)) Y Y Y;by_cases h:0<d.length
  ·have G:=YD (k:Int) (b:=(d.length:Int)) (by lia);have F:=YV (k:Int) (b:=(d.length:Int)) (by lia);exact⟨_,JA (A.trans (by rw[decide_eq_true (by lia)])) (aJ (m:=.fr) (e2v (e2v (x:=(.fr,.scr d)) Y (e2v (x:=(.fr,.int k)) (y:=(.fr,.int (d.length:Int))) Y Y (fX (by lia))) (A1 d _ G F)) (e2v (e2v (x:=(.fr,.int k)) (y:=(.fr,.int (d.length:Int))) Y Y (kC (by lia))) (y:=(.fr,.int 48271)) Y (mul_r (by decide))) Y) (by decide) (by show 2<7;decide))⟩
  ·exact⟨_,eO (A.trans (by rw[ZZ (by lia)])) Y⟩
 obtain⟨c,p⟩:=p;have s:e2 oEq (e2 oMod (aa 2) (Q2 2)) (Q2 0) (ES d k c L L L L)=Z (.fr,.bl (c%2==0)):=eq_int 0 (m:=.fr) (e2v (x:=(.fr,.int c)) (y:=(.fr,.int 2)) Y Y (fX (by decide)));cases hb:(c%2==0) with
 |true =>
  rw[hb]at s;refine⟨c/2,eQ Y (sq s1 (sq p (fW (JA s (fL ?_)))))⟩;unfold dk;rw[xv (r:=ah) (e2v (x:=(.fr,.int c)) (y:=(.fr,.int 2)) Y Y (kC (by decide))) Y];rfl
 |false =>
  rw[hb]at s;have t:=aJ (U:=(ES d k c L L L L)) (i:=3) (m:=.fr) (e2v (e2v (f:=ba) (z:=(.fr,.int (c/2+40503*(k:Int)))) (e2v (x:=(.fr,.int c)) (y:=(.fr,.int 2)) (a:=aa 2) (b:=Q2 2) Y Y (kC (by decide))) (e2v (x:=(.fr,.int 40503)) (y:=(.fr,.int k)) (a:=Q2 40503) (b:=aa 1) Y Y (jZ (by decide))) Y) (y:=(.fr,.int 2147483629)) (b:=Q2 2147483629) Y (fX (by decide))) (by decide) (by show 3<7;decide);have u:=YD (c/2+40503*(k:Int)) (b:=2147483629) (by decide);have H:=YV (c/2+40503*(k:Int)) (b:=2147483629) (by decide);generalize (c/2+40503*(k:Int))%2147483629=left at t u H;obtain⟨X,f1,l,n,o,g,rfl,_⟩:=i9 (tg:=bL 5) (body:=fJ) (λ(j:Nat)=>T.int (j:Int)) (λr U=>∃(l n:Int)(o g:W0),U=(ES d k c (Q0 l) (Q0 n) o g)/\0<=l/\l<2147483647/\∀j∈r,j<24) (by
   rintro j r _ ⟨l,n,o,g,rfl,S,Q,q⟩;have Km:=q j Zt;have D:aK 3 (e2 oMod (e2 ba (e2 ba (e2 gH (aa 3) (Q2 69621)) (e2 gH (Q2 7) (aa 5))) (Q2 1)) (Q2 2147483647)) (ES d k c (Q0 l) (Q0 n) (Q0 (j:Int)) g)=Z (.nx (ES d k c (Q0 ((l*69621+7*(j:Int)+1)%2147483647)) (Q0 n) (Q0 (j:Int)) g)) :=
    aJ (m:=.fr) (e2v (e2v (e2v (e2v (x:=(.fr,.int l)) (y:=(.fr,.int 69621)) Y Y (jZ (by lia))) (e2v (x:=(.fr,.int 7)) (y:=(.fr,.int (j:Int))) Y Y (jZ (by decide))) Y) (y:=(.fr,.int 1)) Y Y) (y:=(.fr,.int 2147483647)) Y (fX (by decide))) (by decide) (by show 3<7;decide)
   have w:=YD (l*69621+7*(j:Int)+1) (b:=2147483647) (by decide);have v:=YV (l*69621+7*(j:Int)+1) (b:=2147483647) (by decide);generalize (l*69621+7*(j:Int)+1)%2147483647=e at D w v;have C:aK 6 (e2 oMod (e2 gH (aa 3) (aa 3)) (Q2 2147483629)) (ES d k c (Q0 e) (Q0 n) (Q0 (j:Int)) g)=Z (.nx (ES d k c (Q0 e) (Q0 n) (Q0 (j:Int)) (Q0 (e*e%2147483629)))) :=
    aJ (m:=.fr) (e2v (e2v (x:=(.fr,.int e)) (y:=(.fr,.int e)) Y Y (jZ (by lia))) (y:=(.fr,.int 2147483629)) Y (fX (by decide))) (by decide) (by show 6<7;decide)
   have M:=YD (e*e) (b:=2147483629) (by decide);have J:=YV (e*e) (b:=2147483629) (by decide);generalize e*e%2147483629=mo at C M J;have O:aK 4 (e2 ba (e2 gH (aa 4) (Q2 999983)) (e2 oMod (e2 gH (aa 6) (e2 ba (e2 oMod (aa 6) (Q2 65521)) (Q2 3))) (Q2 999983))) (ES d k c (Q0 e) (Q0 n) (Q0 (j:Int)) (Q0 mo))=Z (.nx (ES d k c (Q0 e) (Q0 (n*999983+mo*(mo%65521+3)%999983)) (Q0 (j:Int)) (Q0 mo))) :=
    aJ (m:=.fr) (e2v (e2v (x:=(.fr,.int n)) (y:=(.fr,.int 999983)) Y Y (mul_r (by decide))) (e2v (e2v (x:=(.fr,.int mo)) Y (e2v (e2v (x:=(.fr,.int mo)) (y:=(.fr,.int 65521)) Y Y (fX (by decide))) (y:=(.fr,.int 3)) Y Y) (jZ (by lia))) (y:=(.fr,.int 999983)) Y (fX (by decide))) Y) (by decide) (by show 4<7;decide)
   exact⟨_,_,rfl,sq D (sq C O),e,_,_,_,rfl,w,v,λi N=>q i (Zu _ N)⟩) (List.range 24) (ES d k c (Q0 left) (Q0 0) L L) ⟨left,0,L,L,rfl,u,by lia,λj q=>YL.mp q⟩
  have E:gS (bL 5) (df (Q2 24)) fJ (ES d k c (Q0 left) (Q0 0) L L)=Z (.nx (ES d k c (Q0 l) (Q0 n) o g)):=by
   refine(fz (m:=.fr) ?_ Y).trans f1;rw[gv (m:=.fr) (j:=24) Y (by decide),i8];rfl
  refine⟨n,eQ Y (sq s1 (sq p (sq (eO s Y) (sq t (sq (U1:=(ES d k c (Q0 left) (Q0 0) L L)) Y (sq E (fL ?_)))))))⟩;rfl
def ib(l:List Tx):HJ 60 (.lst (l.map .str))=R:=by
 show ((l.map T.str).all (HJ 59))=R;rw[Ws];exact Yw.mpr λ_ _=>rfl
def ne_nil{U:Env}{a b:Ex}{m n:Md}{l:List Tx}(e:a U=Z (m,.lst (l.map .str)))(d:b U=Z (n,.lst [])):e2 JR a b U=Z (.fr,.bl (!l.isEmpty)):=e2v e d (o6 (ib l) Y (by cases l<;>rfl))
abbrev EV(n:Int)(f:List Tx)(L w:Tx)(e d b a:W0):Env:=[sp R n,pc (.lst (f.map .str)),Q1 L,Q1 w,e,d,b,a]
section
variable{L:Tx}{bk:List Tx}(hL:0<L.length/\L.length<=26/\Az L)(hb:∀t∈bk,t.length<=120/\Az t)(h8:bk.length<=8)
include hL hb h8
theorem wx{w:Tx}(hw:Az w)(hl:w.length<=10000)(n:Int)(g s b a:W0):∃G F y5 y6 y7,fu (EV n bk L w g s b a)=Z (.nx (EV G bk L F g y5 y6 y7))/\Az F/\F.length<=w.length+120:=by
 have A:∀(n m:Int)(s b a:W0)(c:Ex),0<m/\m<1073741824->c (EV n bk L w g s b a)=Z (.fr,.int m)->∃d G,0<=d/\d<m/\aN [.io 0 R,.px (xI c)] au (EV n bk L w g s b a)=Z ((.fr,.int d),EV G bk L w g s b a):=λn m s b a c H hc=>nx (i:=0) (un:=R) (n:=n) H Y (bP hc Y) Y;obtain⟨d,p,d0,d1,e⟩:=A n 6 s b a (Q2 6) (by decide) Y;have D:=dv (j:=5) e Y (by show 5<8;decide);have ad:∀(o v:Int)(b a:W0)(x:Xx)(t:Tx),x (EV o bk L w g (Q0 d) b a)=Z ((.fr,.str t),EV v bk L w g (Q0 d) b a)->t.length<=120->cw 3 (x2 ba (xI (aa 3)) x) (EV o bk L w g (Q0 d) b a)=Z (.nx (EV v bk L (w++t) g (Q0 d) b a)):=λo v b a x t h X=>dv (j:=3) (iN (bP (m:=.fr) (t:=.str w) Y Y) h (jl (by lia)) Y Y Y) Y (by show 3<8;decide);have le:∀t:Tx,t.length<=120->(w++t).length<=w.length+120:=λt h=>by rw[Zv];lia
 have z:e2 oLt (aa 5) (Q2 2) (EV p bk L w g (Q0 d) b a)=Z (.fr,.bl (decide (d<2))):=e2v (x:=(.fr,.int d)) (y:=(.fr,.int 2)) Y Y Y;by_cases h2:d<2
 ·obtain⟨o,t,Io,X,hz⟩:=tH L 7 p hL.1 (by lia) (by decide) (by decide);have N5:t.length<=120:=ZJ X (by decide);exact⟨o,w++t,_,b,a,sq D (JA (z.trans (by rw[decide_eq_true h2])) (ad p o b a _ t (cx (i:=0) (un:=R) (k:=1) (r:=[.px (xI (aa 2)),.px (xI (Q2 7))]) (l:=[.str L,.int 7]) (U1:=EV p bk L w g (Q0 d) b a) Y (lS (t:=.str L) (bP (m:=.fr) Y Y) Y (lS (t:=.int 7) (bP (m:=.fr) Y Y) Y Y)) Y Y Y Y Io) N5)),lH hw λc h=>hL.2.2 c (hz c h),le t N5⟩
 ·have z:=z.trans (by rw[ZZ h2]);have C:e2 oEq (aa 5) (Q2 2) (EV p bk L w g (Q0 d) b a)=Z (.fr,.bl (d==2)):=eq_int 2 (m:=.fr) Y;by_cases h3:d=2
  ·obtain⟨N,o,P,O,J⟩:=A p 26 (Q0 d) b a (Q2 26) (by decide) Y;have H:=zr _ (getD_mem' (l:=az) (i:=N.toNat) (by show _<26;lia));exact⟨o,w++[az.getD N.toNat 0],_,b,a,sq D (eO z (JA (C.trans (by rw[h3];rfl)) (ad p o b a _ _ (iN (bP (m:=.fr) (t:=.str az) Y Y) J (tF az N P O) Y Y Y) (by show 1<=120;decide)))),lH hw λc h=>by rw[Zb.mp h];exact H,le _ (by show 1<=120;decide)⟩
  ·have C:=C.trans (by rw[ZL.mpr h3]);have E:e2 JR (aa 1) (dk ah) (EV p bk L w g (Q0 d) b a)=Z (.fr,.bl (!bk.isEmpty)):=ne_nil (m:=.pu) (n:=.fr) Y Y;cases Q:bk.isEmpty with
   |true =>
    rw[Q]at E;exact⟨p,w,_,b,a,sq D (eO z (eO C (eO E Y))),hw,Yk _ _⟩
   |false =>
    rw[Q]at E;have hp:0<bk.length:=by cases bk with
     |nil=>cases Q
     |cons=>exact X8 _
    obtain⟨d2,o,P,O,J⟩:=A p (bk.length:Int) (Q0 d) b a (eN bu (ab (aa 1) ah)) (by lia) (iT (xv (r:=ah) (x:=(.pu,.lst (bk.map .str))) Y Y) (by show Z (Md.fr,T.int (((bk.map T.str).length:Nat):Int))=_;rw[Zw]));have S:=dv (j:=6) (uC (n:=1) bk Y J Y Y P O) Y (by show 6<8;decide);have ho:=hb _ (ir (l:=bk) (i:=d2.toNat) (by lia));generalize bk.getD d2.toNat []=old at S ho;obtain⟨q,v,b0,b1,e4⟩:=A o ((old.length:Int)+1) (Q0 d) (Q1 old) a (e2 ba (eN bu (ab (aa 6) ah)) (Q2 1)) (by lia) Y;have q6:=dv (j:=7) e4 Y (by show 7<8;decide);obtain⟨M,U,g0,g1,e5⟩:=A v 40 (Q0 d) (Q1 old) (Q0 q) (Q2 40) (by decide) Y;have Ri:=za old (Z q) (Z (q+1+M));exact⟨U,w++cut old (Z q) (Z (q+1+M)),_,_,_,sq D (eO z (eO C (JA E (sq S (sq q6 (ad v U _ _ _ _ (uW (bP (m:=.fr) (t:=.str old) Y Y) (kH (bP (m:=.fr) (t:=.int q) Y Y)) (kH (iN (f:=ba) (bP (m:=.fr) (t:=.int (q+1)) Y Y) e5 (u:=.int (q+1+M)) Y Y Y Y))) (by lia))))))),lH hw (qL ho.2),le _ (by lia)⟩
theorem DV(n:Int):∃(o:Int)(w:Tx),iK [.lst [.int n],.lst (bk.map .str),.str L]=Z ([.lst [.int o]],.str w)/\Az w/\w.length<=1000:=by
 obtain⟨d,s,G,F,e⟩:=nx (i:=0) (un:=R) (m:=5) (n:=n) (x:=xI (Q2 5)) (U:=EV n bk L [] none none none none) (by decide) Y (bP (m:=.fr) Y Y) Y;obtain⟨H,f1,q,w,l,g,b,a,rfl,hw,p⟩:=i9 (tg:=bL 4) (body:=fu) (λ(k:Nat)=>T.int (k:Int)) (λr U=>∃(n:Int)(w:Tx)(l g b a:W0),U=EV n bk L w l g b a/\Az w/\w.length+120*r.length<=1000) (by
  rintro k r _ ⟨n,w,l,g,b,a,rfl,hw,p⟩;rw[Zl]at p;obtain⟨o,A,z,y,t,e,D,E⟩:=wx hL hb h8 hw (by lia) n (Q0 (k:Int)) g b a;exact⟨_,_,rfl,e,o,A,_,z,y,t,rfl,D,by lia⟩) (List.range (1+d).toNat) (EV s bk L [] none none none none) ⟨s,[],none,none,none,none,rfl,(λ_ h=>nomatch h),by rw[ZC];show 0+_<=1000;lia⟩
 have C:ve (bL 4) (x2 ba (xI (Q2 1)) (aN [(.io 0 R),(.px (xI (Q2 5)))] au)) fu (EV n bk L [] none none none none)=Z (.nx (EV q bk L w l g b a)):=by
  unfold ve;rw[iN (f:=ba) (bP (c:=Q2 1) (m:=.fr) Y Y) e (u:=.int (1+d)) Y Y Y Y];refine(fz (m:=.fr) ?_ Y).trans f1;rw[gv (m:=.fr) (j:=1+d) Y (by lia),i8]
 exact⟨q,w,oh (v:=(.fr,.str w)) ⟨rfl,rfl⟩ (sq (U1:=EV n bk L [] none none none none) Y (sq C Y)) Y Y Y,hw,by simpa using p⟩
end
end T44
end
section
namespace T44
open VS AU
def kY{c:Ex}{a:Sx}{n:Nat}{U b:Env}{m:Md}(e:c U=Z (m,.bl R))(d:a U=Z (.nx b)):da c a (n+1) U=da c a n b:=by
 show (c U).bind _=_;rw[e];show (if R=R then (a U).bind _ else Z (.nx U))=_;rw[Zq Y,d];rfl
def ft{c:Ex}{a:Sx}{n:Nat}{U:Env}{m:Md}(b:c U=Z (m,.bl B)):da c a (n+1) U=Z (.nx U):=by
 show (c U).bind _=_;rw[b];rfl
def i5{mv:List Bool}{g:Mt}{as:Hf}{xs:W3}{S a:St}{v:T}{b:Bool}{r:List (W0)}(h:as (oc (GN S b) :: r)=Z xs)(i:argsOk mv xs=R)(j:bc (trees xs)=R)(f:g (Jr S) (trees xs)=Z (Jr a,v))(e:GR v=R) :
  bG 0 [] 0 mv g as (oc (GN S b) :: r)=Z ((.fr,v),oc (GN a b) :: r):=by
 show ((Z ([]:List Ky)).bind λd=>(as (oc (GN S b) :: r)).bind λxs=>(pm (lQ 0 mv g xs) d (GN S b)).map λz=>(z.2,(oc (GN S b) :: r).set 0 (oc z.1)))=_;rw[Zx,h,Zx];show ((if 1=0+1/\dE (Jr S)=R/\argsOk mv xs=R/\bc (trees xs)=R then (g (Jr S) (trees xs)).bind λz=>if dE z.1=R/\GR z.2=R then Z (T.obj 1 ((0,.bl b) :: z.1),(Md.fr,z.2)) else L else L).map _)=_;rw[Zq ⟨rfl,kz S,i,j⟩,f,Zx,Zq ⟨kz a,e⟩];rfl
def D2{e:Ex}{S:St}{b:Bool}{r:List (W0)}{v:Nat}(h:e (oc (GN S b) :: r)=Z (.fr,.int (v:Int)))(f:S.lg.length<16777216):sX (iM 0 [.fld 1] aF (ab e ah)) (oc (GN S b) :: r)=Z (.nx (oc (GN ⟨S.lg++[v],S.lk,S.wy⟩ b) :: r)):=by
 show (((Z [Ky.fld 1]).bind λd=>(ab e ah (oc (GN S b) :: r)).bind λa=>(pm (λx=>aF x a) d (GN S b)).map _).map _)=_;rw[Zx,xv (r:=ah) h Y,Zx];show (((aF (.lst (S.lg.map λ(n:Nat)=>T.int (n:Int))) [(.fr,.int (v:Int))]).map _).map _ |>.map _)=_;rw[eV (by rw[Zw];exact f),show (S.lg.map λ(n:Nat)=>T.int (n:Int))++[.int (v:Int)]=(S.lg++[v]).map λ(n:Nat)=>T.int (n:Int) from by rw[ZF];rfl];rfl
def CO{e:Ex}{S:St}{b:Bool}{r:List (W0)}{v:Option Nat}(h:e (oc (GN S b) :: r)=Z (.fr,G7 v))(f:S.lk.length<16777216):sX (iM 0 [.fld 2] aF (ab e ah)) (oc (GN S b) :: r)=Z (.nx (oc (GN ⟨S.lg,S.lk++[v],S.wy⟩ b) :: r)):=by
 show (((Z [Ky.fld 2]).bind λd=>(ab e ah (oc (GN S b) :: r)).bind λa=>(pm (λx=>aF x a) d (GN S b)).map _).map _)=_;rw[Zx,xv (r:=ah) h Y,Zx];show (((aF (.lst (S.lk.map G7)) [(.fr,G7 v)]).map _).map _ |>.map _)=_;rw[eV (by rw[Zw];exact f),show (S.lk.map G7)++[G7 v]=(S.lk++[v]).map G7 from by rw[ZF];rfl];rfl
def CC(o:Option Nat):up .pu (G7 o)=(.fr,G7 o):=by
 unfold up;rw[lh];rfl
def zf(S:St)(l:Nat)(o:Option Nat)(w:List (Nat×Nat))(f:S.lg.length<16777216)(d:S.lk.length<16777216)(a:S.wy.length<16777216):aI (Jr S) [.int (l:Int),G7 o,G2 w]=Z (Jr ⟨S.lg++[l],S.lk++[o],S.wy++[w]⟩,.int (S.lg.length:Int)):=by
 have j:=D2 (S:=S) (b:=R) (r:=[Q0 (l:Int),pc (G7 o),oc (G2 w)]) (e:=aa 1) (v:=l) Y f;have i:=CO (S:=⟨S.lg++[l],S.lk,S.wy⟩) (b:=R) (r:=[Q0 (l:Int),pc (G7 o),oc (G2 w)]) (e:=aa 2) (v:=o) (congrArg Z (CC o)) d;have h:nS 0 [.fld 3] 3 [oc (GN ⟨S.lg++[l],S.lk++[o],S.wy⟩ R),Q0 (l:Int),pc (G7 o),oc (G2 w)]=Z (.nx [oc (GN ⟨S.lg++[l],S.lk++[o],S.wy++[w]⟩ R),Q0 (l:Int),pc (G7 o),L]):=by
  show ((aF (.lst (S.wy.map G2)) [(.fr,G2 w)]).map _ |>.map _)=_;rw[eV (by rw[Zw];exact a),show (S.wy.map G2)++[G2 w]=(S.wy++[w]).map G2 from by rw[ZF];rfl];rfl
 have g:=fL (e:=e2 oG (eN bu (ab (aW 1 (aa 0)) ah)) (Q2 1)) (U:=[oc (GN ⟨S.lg++[l],S.lk++[o],S.wy++[w]⟩ R),Q0 (l:Int),pc (G7 o),L]) (t:=.int (S.lg.length:Int)) (e2v (Df (m:=.bo) Y) Y (by
  show Z (Md.fr,T.int ((((S.lg++[l]).length:Nat):Int)-1))=_;rw[Zv,Zc,show (((S.lg.length+1:Nat)):Int)-1=(S.lg.length:Int) by lia]))
 unfold aI Iz;rw[Zq ⟨rfl,rfl⟩];have body:=sq (b:=ak (sX (iM 0 [.fld 2] aF (ab (aa 2) ah))) (ak (nS 0 [.fld 3] 3) (eK (e2 oG (eN bu (ab (aW 1 (aa 0)) ah)) (Q2 1))))) j (sq i (sq h g));exact congrArg (λz:Option Out=>z.bind _) body
def CL{c a v:Nat}(D:97<=c/\c<=122):∀(k:Nat)(S b:St)(o:Option Nat),WF S->v<S.lg.length->(∀n,o=Z n->n<S.lg.length)->LN c a v k S o=Z b->WF b/\b.lg=S.lg/\∃f,∀N,k<N->∀z:W0,
  da (g8 (cY (aa 1)) (e2 oEq (e2 wH (e2 aB (aW 3 (aa 0)) (aa 1)) (aa 2)) (aa 3))) bT N [oc (GN S R),pc (G7 o),Q1 ([c]),Q0 (a:Int),z,Q0 (v:Int)] =
   Z (.nx [oc (GN b R),pc (G7 f),Q1 ([c]),Q0 (a:Int),z,Q0 (v:Int)]):=by
 intro k
 induction k with
 |zero =>
  intro S b o W g l e;cases o with
  |none =>
   cases (show Z S=Z b from e);refine⟨W,rfl,L,λN hN z=>?_⟩;obtain⟨N,rfl⟩:∃d,N=d+1:=⟨N-1,by lia⟩
   exact ft (m:=.fr) Y
  |some n=>cases e
 |succ k A =>
  intro S b o W g l e;cases o with
  |none =>
   cases (show Z S=Z b from e);refine⟨W,rfl,L,λN hN z=>?_⟩;obtain⟨N,rfl⟩:∃d,N=d+1:=⟨N-1,by lia⟩
   exact ft (m:=.fr) Y
  |some n =>
   have p:=l n Y;have r:n<S.wy.length:=by rw[W.wy];exact p
   have cond:∀z:W0,g8 (cY (aa 1)) (e2 oEq (e2 wH (e2 aB (aW 3 (aa 0)) (aa 1)) (aa 2)) (aa 3)) [oc (GN S R),Q0 (n:Int),Q1 ([c]),Q0 (a:Int),z,Q0 (v:Int)]=Z (.fr,.bl (decide (gW (S.wy.getD n []) c=Z a))):=λz=>by
    refine iI (m:=.fr) (x:=R) Y (λ_=>?_) (λh=>by cases h);refine e2v (EX (m:=.bo) (ng (m:=.bo) (n:=.fr) Y Y r) (n:=.fr) Y) (y:=(.fr,.int (a:Int))) Y ?_;cases hg:gW (S.wy.getD n []) c with
    |none=>rw[ZZ (by simp)];exact nN Y Y Y
    |some q =>
     refine(nN Y Y (show eqT (.int (q:Int)) (.int (a:Int))=decide (Z q=Z a) from ?_));simp only[eqT];by_cases h:q=a
     ·subst h;simp
     ·have F:¬(q:Int)=(a:Int):=by lia
      have E:¬Z q=Z a:=λz=>h (Zn z);rw[ZZ E];exact ZL.mpr F
   unfold LN at e;split at e
   ·rename_i j;have G:=W.way (n:=n) (c:=c) (v:=v) g D;obtain⟨w,u,f,s⟩:=A _ b (S.lk.getD n L) G g (λm C=>W.up n m C) e;refine⟨w,u,f,λN hN z=>?_⟩;obtain⟨N,rfl⟩:∃d,N=d+1:=⟨N-1,by lia⟩
    refine(kY (m:=.fr) ((cond z).trans (by rw[decide_eq_true j])) ?_).trans (s N (by exact Yn hN) z);unfold bT;refine sq (yF (S:=S) (i:=n) (n:=.fr) (m:=.fr) (k:=.fr) (c:=c) (v:=v) r Y Y Y (W.small n)) ?_;have H:n<S.lk.length:=by rw[W.lk];exact p
    exact aJ (m:=.fr) (t:=G7 (S.lk.getD n L)) (vB (S:=⟨S.lg,S.lk,S.wy.set n (pW (S.wy.getD n []) c v)⟩) (m:=.bo) (n:=.fr) Y Y H) (by decide) (by decide:1<6)
   ·rename_i j;cases e;refine⟨W,rfl,Z n,λN hN z=>?_⟩;obtain⟨N,rfl⟩:∃d,N=d+1:=⟨N-1,by lia⟩
    exact ft (m:=.fr) ((cond z).trans (by rw[ZZ j]))
def CZ{c v:Nat}(A:97<=c/\c<=122):∀(k:Nat)(S a:St)(o b:Option Nat),WF S->v<S.lg.length->(∀n,o=Z n->n<S.lg.length)->up1 c v k S o=Z (a,b)->WF a/\a.lg=S.lg/\(∀n,b=Z n->n<S.lg.length)/\∀N,k<N->∀z:W0,
  da (g8 (cY (aa 4)) (e2 de (aa 2) (e2 aB (aW 3 (aa 0)) (aa 4)))) bS N [oc (GN S R),z,Q1 ([c]),Q0 (v:Int),pc (G7 o)] =
   Z (.nx [oc (GN a R),z,Q1 ([c]),Q0 (v:Int),pc (G7 b)]):=by
 intro k
 induction k with
 |zero =>
  intro S a o b W f j e;cases o with
  |none =>
   cases (show Z (S,L)=Z (a,b) from e);refine⟨W,rfl,(λn h=>nomatch h),λN hN z=>?_⟩;obtain⟨N,rfl⟩:∃d,N=d+1:=⟨N-1,by lia⟩
   exact ft (m:=.fr) Y
  |some n=>cases e
 |succ k w =>
  intro S a o b W f j e;cases o with
  |none =>
   cases (show Z (S,L)=Z (a,b) from e);refine⟨W,rfl,(λn h=>nomatch h),λN hN z=>?_⟩;obtain⟨N,rfl⟩:∃d,N=d+1:=⟨N-1,by lia⟩
   exact ft (m:=.fr) Y
  |some n =>
   have l:=j n Y;have p:n<S.wy.length:=by rw[W.wy];exact l
   have cond:∀z:W0,g8 (cY (aa 4)) (e2 de (aa 2) (e2 aB (aW 3 (aa 0)) (aa 4))) [oc (GN S R),z,Q1 ([c]),Q0 (v:Int),Q0 (n:Int)]=Z (.fr,.bl (!(gW (S.wy.getD n []) c).isSome)):=λz =>
    iI (m:=.fr) (x:=R) Y (λ_=>BO (m:=.bo) (n:=.fr) (ng (m:=.bo) (n:=.fr) Y Y p) Y) (λh=>by cases h)
   unfold up1 at e;split at e
   ·rename_i g;cases e;refine⟨W,rfl,j,λN hN z=>?_⟩;obtain⟨N,rfl⟩:∃d,N=d+1:=⟨N-1,by lia⟩
    exact ft (m:=.fr) ((cond z).trans (by rw[g];rfl))
   ·rename_i g;have C:=W.way (n:=n) (c:=c) (v:=v) f A;obtain⟨u,s,q,r⟩:=w _ a (S.lk.getD n L) b C f (λm y=>W.up n m y) e;refine⟨u,s,q,λN hN z=>?_⟩;obtain⟨N,rfl⟩:∃d,N=d+1:=⟨N-1,by lia⟩
    have D:(gW (S.wy.getD n []) c).isSome=B:=by simpa using g
    refine(kY (m:=.fr) ((cond z).trans (by rw[D];rfl)) ?_).trans (r N (by exact Yn hN) z);unfold bS;refine sq (yF (S:=S) (i:=n) (n:=.fr) (m:=.fr) (k:=.fr) (c:=c) (v:=v) p Y Y Y (W.small n)) ?_;have E:n<S.lk.length:=by rw[W.lk];exact l
    exact aJ (m:=.fr) (t:=G7 (S.lk.getD n L)) (vB (S:=⟨S.lg,S.lk,S.wy.set n (pW (S.wy.getD n []) c v)⟩) (m:=.bo) (n:=.fr) Y Y E) (by decide) (by decide:4<5)
def DK(a b:Nat){m n:Md}:oEq (m,.int (a:Int)) (n,.int (b:Int))=Z (.fr,.bl (decide (a=b))):=nN Y Y (by
 simp only[eqT];by_cases h:a=b
 ·subst h;simp
 ·rw[ZZ h];exact ZL.mpr (by lia))
def zB{S a:St}{n c r:Nat}(W:WF S)(F:Sm S)(q:n<S.lg.length)(G:97<=c/\c<=122)(e:Lq S n c=Z (a,r)):WF a/\r<a.lg.length/\S.lg.length<=a.lg.length/\a.lg.length<=S.lg.length+1/\av (Jr S) [.int (n:Int),.str [c]]=Z (Jr a,.int (r:Int)):=by
 unfold Lq at e;obtain⟨old,j,e⟩:=Zz.mp e;have hold:=W.on n c old j;have X:n<S.wy.length:=by rw[W.wy];exact q
 have how:old<S.wy.length:=by rw[W.wy];exact hold
 have GO:old<S.lk.length:=by rw[W.lk];exact hold
 have SK:S.lg.length<=100001:=F;unfold av Iz;rw[Zq ⟨rfl,rfl⟩];have s1:=aJ (i:=3) (m:=.fr) (e:=e2 Iy (e2 aB (aW 3 (aa 0)) (aa 1)) (aa 2)) (U:=[oc (GN S R),Q0 (n:Int),Q1 ([c]),L,L,L]) (tK (m:=.bo) (n:=.fr) (ng (m:=.bo) (n:=.fr) Y Y X) Y j) (by decide) (by decide:3<6);have h:=aJ (i:=4) (m:=.fr) (e:=e2 ba (e2 aB (aW 1 (aa 0)) (aa 1)) (Q2 1)) (U:=[oc (GN S R),Q0 (n:Int),Q1 ([c]),Q0 (old:Int),L,L]) (t:=.int ((S.lg.getD n 0+1:Nat):Int)) (e2v (sZ (m:=.bo) (n:=.fr) Y Y q) Y Y) (by decide) (by decide:4<6);have cd:e2 oEq (e2 aB (aW 1 (aa 0)) (aa 3)) (aa 4) [oc (GN S R),Q0 (n:Int),Q1 ([c]),Q0 (old:Int),Q0 ((S.lg.getD n 0+1:Nat):Int),L]=Z (.fr,.bl (decide (S.lg.getD old 0=S.lg.getD n 0+1))):=e2v (sZ (m:=.bo) (n:=.fr) Y Y hold) (y:=(.fr,.int ((S.lg.getD n 0+1:Nat):Int))) Y (DK _ _);split at e
 ·rename_i g;obtain⟨rfl,rfl⟩:=Xa (Zn e);rw[decide_eq_true g]at cd;refine⟨W,hold,Zm _,Xj _,?_⟩;have body:∀b:Sx,ak (aK 3 (e2 Iy (e2 aB (aW 3 (aa 0)) (aa 1)) (aa 2))) (ak (aK 4 (e2 ba (e2 aB (aW 1 (aa 0)) (aa 1)) (Q2 1))) (ak (Hx (e2 oEq (e2 aB (aW 1 (aa 0)) (aa 3)) (aa 4)) (eI 3) dc) b)) [oc (GN S R),Q0 (n:Int),Q1 ([c]),L,L,L]=Z (.rt (.fr,.int (old:Int)) [oc (GN S R),Q0 (n:Int),Q1 ([c]),Q0 (old:Int),Q0 ((S.lg.getD n 0+1:Nat):Int),L]):=λb =>
   sq s1 (sq h (fW (JA cd Y)))
  exact congrArg (λz:Option Out=>z.bind _) (body _)
 ·rename_i g;rw[ZZ g]at cd;obtain⟨s,Q,H⟩:=Zy.mp e;obtain⟨rfl,rfl⟩:=Xa H;have wn:=W.NA old;have O:=W.more (l:=S.lg.getD n 0+1) (o:=S.lk.getD old L) (w:=S.wy.getD old []) (λm f=>W.up old m f) (λd m f=>W.on old d m f) wn.1 wn.2;have hlen:(S.lg++[S.lg.getD n 0+1]).length=S.lg.length+1:=by rw[Zv];rfl
  have N:=O.link (n:=old) (v:=S.lg.length) (by show S.lg.length<(S.lg++[S.lg.getD n 0+1]).length;lia);obtain⟨A,x,o',u⟩:=CL G 1000 _ s (Z n) N (by show S.lg.length<(S.lg++[S.lg.getD n 0+1]).length;lia) (λm f=>by cases f;show n<(S.lg++[S.lg.getD n 0+1]).length;lia) Q;have P:s.lg.length=S.lg.length+1:=by rw[x];exact hlen
  refine⟨A,by lia,by lia,by exact Xf P,?_⟩;have nw:=zf S (S.lg.getD n 0+1) (S.lk.getD old L) (S.wy.getD old []) (by lia) (by rw[W.lk];lia) (by rw[W.wy];lia);have args:ab (aa 4) (ab (e2 aB (aW 2 (aa 0)) (aa 3)) (ab (eN lF (ab (e2 aB (aW 3 (aa 0)) (aa 3)) ah)) ah)) [oc (GN S R),Q0 (n:Int),Q1 ([c]),Q0 (old:Int),Q0 ((S.lg.getD n 0+1:Nat):Int),L]=Z [(.fr,.int ((S.lg.getD n 0+1:Nat):Int)),(.fr,G7 (S.lk.getD old L)),(.fr,G2 (S.wy.getD old []))] :=
   xv Y (xv (vB (m:=.bo) (n:=.fr) Y Y GO) (xv (iT (xv (ng (m:=.bo) (n:=.fr) Y Y how) Y) (by
    show (if d6 (((S.wy.getD old []).map λp=>(T.str [p.1],T.int (p.2:Int))).map (·.2))=R then Z (Md.fr,G2 (S.wy.getD old [])) else L)=_;rw[Zq (by rw[Z0];exact kh _ (λ_=>rfl) _)])) Y))
  have M:argsOk [B,B,R] [(.fr,.int ((S.lg.getD n 0+1:Nat):Int)),(.fr,G7 (S.lk.getD old L)),(.fr,G2 (S.wy.getD old []))]=R:=by
   show (R&&(GR (G7 (S.lk.getD old L))&&R))=R;rw[lh];rfl
  have an:bc (trees [(Md.fr,T.int ((S.lg.getD n 0+1:Nat):Int)),(.fr,G7 (S.lk.getD old L)),(.fr,G2 (S.wy.getD old []))])=R:=by
   show (R&&(eJ (G7 (S.lk.getD old L))&&(eJ (G2 (S.wy.getD old []))&&R)))=R;rw[lN _ (lh _),yG];rfl
  have J:=i5 (b:=R) args M an nw Y;have E:cw 5 (bG 0 [] 0 [B,B,R] aI (ab (aa 4) (ab (e2 aB (aW 2 (aa 0)) (aa 3)) (ab (eN lF (ab (e2 aB (aW 3 (aa 0)) (aa 3)) ah)) ah)))) [oc (GN S R),Q0 (n:Int),Q1 ([c]),Q0 (old:Int),Q0 ((S.lg.getD n 0+1:Nat):Int),L]=Z (.nx [oc (GN ⟨S.lg++[S.lg.getD n 0+1],S.lk++[S.lk.getD old L],S.wy++[S.wy.getD old []]⟩ R),Q0 (n:Int),Q1 ([c]),Q0 (old:Int),Q0 ((S.lg.getD n 0+1:Nat):Int),Q0 (S.lg.length:Int)]):=by
   unfold cw;rw[J];rfl
  have D:=yP (S:=⟨S.lg++[S.lg.getD n 0+1],S.lk++[S.lk.getD old L],S.wy++[S.wy.getD old []]⟩) (b:=R) (r:=[Q0 (n:Int),Q1 ([c]),Q0 (old:Int),Q0 ((S.lg.getD n 0+1:Nat):Int),Q0 (S.lg.length:Int)]) (i:=old) (v:=S.lg.length) (n:=.fr) (e:=aa 3) (ev:=aa 5) (by show old<(S.lk++[S.lk.getD old L]).length;rw[Zv];lia) Y Y;have C:=u t5 (by decide) (Q0 ((S.lg.getD n 0+1:Nat):Int));exact congrArg (λz:Option Out=>z.bind _) (sq s1 (sq h (sq (eO cd Y) (sq E (sq D (sq C Y))))))
def Et{S S':St}{h c r:Nat}(W:WF S)(SK:S.lg.length<=100000)(y:h<S.lg.length)(A:97<=c/\c<=122)(e:hb S h c=Z (S',r)):WF S'/\r<S'.lg.length/\S.lg.length<=S'.lg.length/\S'.lg.length<=S.lg.length+2/\bO (Jr S) [.int (h:Int),.str [c]]=Z (Jr S',.int (r:Int)):=by
 have hw:h<S.wy.length:=by rw[W.wy];exact y
 unfold hb at e;unfold bO Iz;rw[Zq ⟨rfl,rfl⟩];have cd:e2 lM (aa 2) (e2 aB (aW 3 (aa 0)) (aa 1)) [oc (GN S R),Q0 (h:Int),Q1 ([c]),L,L]=Z (.fr,.bl (gW (S.wy.getD h []) c).isSome):=E1 (m:=.bo) (n:=.fr) (ng (m:=.bo) (n:=.fr) Y Y hw) Y;split at e
 ·rename_i x;rw[x]at cd;obtain⟨s,q,u,t,E⟩:=zB W (Wy SK) y A e;refine⟨s,q,u,by exact Wy t,?_⟩;have j:=i5 (mv:=[B,B]) (as:=ab (aa 1) (ab (aa 2) ah)) (xs:=[(.fr,.int (h:Int)),(.fr,.str [c])]) (b:=R) (r:=[Q0 (h:Int),Q1 ([c]),L,L]) Y Y Y E Y;have s1:kB (bG 0 [] 0 [B,B] av (ab (aa 1) (ab (aa 2) ah))) [oc (GN S R),Q0 (h:Int),Q1 ([c]),L,L]=Z (.rt (.fr,.int (r:Int)) [oc (GN S' R),Q0 (h:Int),Q1 ([c]),L,L]):=by
   unfold kB;rw[j];rfl
  exact congrArg (λz:Option Out=>z.bind _) (fW (JA cd s1))
 ·rename_i x;have JG:(gW (S.wy.getD h []) c).isSome=B:=by simpa using x
  rw[JG]at cd;obtain⟨⟨a,o⟩,e1,D⟩:=Zz.mp e;have X:=W.more (l:=S.lg.getD h 0+1) (o:=Z 0) (w:=[]) (λm g=>by cases g;exact W.pos) (λd m g=>by cases g) Z5 (λp O=>nomatch O);have hlen:(S.lg++[S.lg.getD h 0+1]).length=S.lg.length+1:=by rw[Zv];rfl
  obtain⟨s,q,u,t⟩:=CZ A 1000 _ a (Z h) o X (by show S.lg.length<(S.lg++[S.lg.getD h 0+1]).length;lia) (λm g=>by cases g;show h<(S.lg++[S.lg.getD h 0+1]).length;lia) e1;have ON:a.lg.length=S.lg.length+1:=by rw[q];exact hlen
  have nw:=zf S (S.lg.getD h 0+1) (Z 0) [] (by lia) (by rw[W.lk];lia) (by rw[W.wy];lia);have args:ab (e2 ba (e2 aB (aW 1 (aa 0)) (aa 1)) (Q2 1)) (ab (Q2 0) (ab (r6 0 []) ah)) [oc (GN S R),Q0 (h:Int),Q1 ([c]),L,L]=Z [(.fr,.int ((S.lg.getD h 0+1:Nat):Int)),(.fr,.int 0),(.fr,.dct 0 [])] :=
   xv (e2v (sZ (m:=.bo) (n:=.fr) Y Y y) Y Y) (xv Y (xv Y Y))
  have j:=i5 (mv:=[B,B,R]) (b:=R) args Y Y nw Y;have s1:cw 3 (bG 0 [] 0 [B,B,R] aI (ab (e2 ba (e2 aB (aW 1 (aa 0)) (aa 1)) (Q2 1)) (ab (Q2 0) (ab (r6 0 []) ah)))) [oc (GN S R),Q0 (h:Int),Q1 ([c]),L,L]=Z (.nx [oc (GN ⟨S.lg++[S.lg.getD h 0+1],S.lk++[Z 0],S.wy++[[]]⟩ R),Q0 (h:Int),Q1 ([c]),Q0 (S.lg.length:Int),L]):=by
   unfold cw;rw[j];rfl
  have M:=t t5 (by decide) (Q0 (h:Int));have hd:∀b:Sx,ak (Hx (e2 lM (aa 2) (e2 aB (aW 3 (aa 0)) (aa 1))) (kB (bG 0 [] 0 [B,B] av (ab (aa 1) (ab (aa 2) ah)))) dc)
    (ak (cw 3 (bG 0 [] 0 [B,B,R] aI (ab (e2 ba (e2 aB (aW 1 (aa 0)) (aa 1)) (Q2 1)) (ab (Q2 0) (ab (r6 0 []) ah)))))
    (ak (aK 4 (aa 1)) (ak (jM (g8 (cY (aa 4)) (e2 de (aa 2) (e2 aB (aW 3 (aa 0)) (aa 4)))) bS) b))) [oc (GN S R),Q0 (h:Int),Q1 ([c]),L,L] =
    b [oc (GN a R),Q0 (h:Int),Q1 ([c]),Q0 (S.lg.length:Int),pc (G7 o)]:=λb =>
   sq (eO cd Y) (sq s1 (sq Y (qG M)))
  cases o with
  |none =>
   obtain⟨rfl,rfl⟩:=Xa (Zn D);have fin:ak (Hx (cY (aa 4)) (ji 0 [.fld 2] (aa 3) (bG 0 [] 0 [B,B] av (ab (aa 4) (ab (aa 2) ah)))) dc) (eI 3) [oc (GN a R),Q0 (h:Int),Q1 ([c]),Q0 (S.lg.length:Int),pc (G7 L)] =
     Z (.rt (.fr,.int (S.lg.length:Int)) [oc (GN a R),Q0 (h:Int),Q1 ([c]),Q0 (S.lg.length:Int),pc (G7 L)]):=sq (eO (m:=.fr) Y Y) Y
   refine⟨s,by show S.lg.length<a.lg.length;lia,by show S.lg.length<=a.lg.length;lia,by show a.lg.length<=_;lia,?_⟩;exact congrArg (λz:Option Out=>z.bind _) ((hd _).trans fin)
  |some n =>
   obtain⟨⟨f,m⟩,U,Q⟩:=Zy.mp D;obtain⟨rfl,rfl⟩:=Xa Q;have P:n<a.lg.length:=by
    have:=u n Y;rw[q];exact this
   obtain⟨C,H,v3,v4,G⟩:=zB s (by show a.lg.length<=100001;lia) P A U;have F:=C.link (n:=S.lg.length) (v:=m) H;have j:=i5 (mv:=[B,B]) (as:=ab (aa 4) (ab (aa 2) ah)) (xs:=[(.fr,.int (n:Int)),(.fr,.str [c])]) (b:=R) (r:=[Q0 (h:Int),Q1 ([c]),Q0 (S.lg.length:Int),Q0 (n:Int)]) Y Y Y G Y;have N:=yP (S:=f) (b:=R) (r:=[Q0 (h:Int),Q1 ([c]),Q0 (S.lg.length:Int),Q0 (n:Int)]) (i:=S.lg.length) (v:=m) (n:=.fr) (e:=aa 3) (ev:=λ_=>Z (.fr,.int (m:Int))) (by rw[C.lk];lia) Y Y;have J:ji 0 [.fld 2] (aa 3) (bG 0 [] 0 [B,B] av (ab (aa 4) (ab (aa 2) ah))) [oc (GN a R),Q0 (h:Int),Q1 ([c]),Q0 (S.lg.length:Int),Q0 (n:Int)]=Z (.nx [oc (GN ⟨f.lg,f.lk.set S.lg.length (Z m),f.wy⟩ R),Q0 (h:Int),Q1 ([c]),Q0 (S.lg.length:Int),Q0 (n:Int)]):=by
    unfold ji;rw[j];exact N
   have fin:ak (Hx (cY (aa 4)) (ji 0 [.fld 2] (aa 3) (bG 0 [] 0 [B,B] av (ab (aa 4) (ab (aa 2) ah)))) dc) (eI 3) [oc (GN a R),Q0 (h:Int),Q1 ([c]),Q0 (S.lg.length:Int),Q0 (n:Int)] =
     Z (.rt (.fr,.int (S.lg.length:Int)) [oc (GN ⟨f.lg,f.lk.set S.lg.length (Z m),f.wy⟩ R),Q0 (h:Int),Q1 ([c]),Q0 (S.lg.length:Int),Q0 (n:Int)]):=sq (JA (m:=.fr) Y J) Y
   refine⟨F,by show S.lg.length<f.lg.length;lia,by show S.lg.length<=f.lg.length;lia,by show f.lg.length<=_;lia,?_⟩;exact congrArg (λz:Option Out=>z.bind _) ((hd _).trans fin)
theorem yu{S S':St}:∀{word:Wc}{h r:Nat},WF S->S.lg.length+2*word.length<=100000->h<S.lg.length->(∀c∈word,97<=c/\c<=122)->hg S h word=Z (S',r) →
  WF S'/\r<S'.lg.length/\S'.lg.length<=S.lg.length+2*word.length/\∀f:W0,∀a:T,∃j,forL (bL 3) cq (word.map λc=>T.str [c]) [oc (GN S R),Q0 (h:Int),pc a,f]=Z (.nx [oc (GN S' R),Q0 (r:Int),pc a,j])
 |[],h,r,W,l,g,i,e=>by
  obtain⟨rfl,rfl⟩:=Xa (Zn e);exact⟨W,g,by simp,λf a=>⟨f,rfl⟩⟩
 |c :: word,h,r,W,l,g,i,e=>by
  obtain⟨⟨v,A⟩,e1,w⟩:=Zz.mp e;rw[Zl]at l;obtain⟨o,n,y,x,m⟩:=Et W (by lia) g (i c Zt) e1;obtain⟨t,s,z,p⟩:=yu (S:=v) (S':=S') (word:=word) o (by lia) n (λd hd=>i d (Zu _ hd)) w;refine⟨t,s,by rw[Zl];lia,λf a=>?_⟩;obtain⟨j,q⟩:=p (Q1 ([c])) a;refine⟨j,?_⟩;rw[Zo];refine(fY (U1:=[oc (GN S R),Q0 (h:Int),pc a,Q1 ([c])]) Y ?_).trans q;have u:=i5 (mv:=[B,B]) (as:=ab (aa 1) (ab (aa 3) ah)) (xs:=[(.fr,.int (h:Int)),(.fr,.str [c])]) (b:=R) (r:=[Q0 (h:Int),pc a,Q1 ([c])]) Y Y Y m Y;unfold cq cw;rw[u];rfl
def Cf{S S':St}{a:Tx}{h r:Nat}(W:WF S)(i:S.lg.length+2*a.length<=100000)(j:h<S.lg.length)(n:∀c∈a,97<=c/\c<=122)(e:hg S h a=Z (S',r)) :
  WF S'/\r<S'.lg.length/\S'.lg.length<=S.lg.length+2*a.length/\aO (Jr S) [.int (h:Int),.str a]=Z (Jr S',.int (r:Int)):=by
 obtain⟨g,f,d,b⟩:=yu W i j n e;obtain⟨o,q⟩:=b L (.str a);refine⟨g,f,d,?_⟩;unfold aO Iz;rw[Zq ⟨rfl,rfl⟩];have s1:=(fz (tg:=bL 3) (it:=hZ (aa 2)) (body:=cq) (U:=[oc (GN S R),Q0 (h:Int),Q1 a,L]) (m:=.fr) (l:=a.map λc=>T.str [c]) Y Y).trans q;exact congrArg (λz:Option Out=>z.bind _) (sq s1 Y)
end T44
end
section
namespace AU
abbrev Wd:=Wc
abbrev W(a:List Wd)(n:Nat):Wd:=a.getD n []
structure I(fr:Option Nat)(S:St)(nd:Wd->Option Nat)(wd:List Wd):Prop where
 wf:WF S
 len:wd.length=S.lg.length
 lg:∀n,n<wd.length->S.lg.getD n 0=(W wd n).length
 z:nd []=some 0
 wz:W wd 0=[]
 lt:∀{x n},nd x=some n->n<wd.length
 sf:∀{x n},nd x=some n->x <:+ W wd n
 top:∀{n},n<wd.length->nd (W wd n)=some n
 iv:∀{x y n},nd x=some n->x <:+ y->y <:+ W wd n->nd y=some n
 pre:∀{x c n},nd (x++[c])=some n->∃m,nd x=some m
 Lm:∀{x y n},nd y=some n->x <:+ y->∃m,nd x=some m
 Mx:S.lk.getD 0 none=none
 lk:∀{n},0<n->n<wd.length->some n≠fr->∃m,S.lk.getD n none=some m/\(m<wd.length/\some m≠fr)/\W wd m <:+ W wd n/\(W wd m).length<(W wd n).length/\∀y,y <:+ W wd n->(W wd m).length<y.length->nd y=some n
 wy:∀{x n},nd x=some n->∀c,gW (S.wy.getD n []) c=nd (x++[c])
def cz{α:Type}{x y w:List α}(d:x <:+ w)(b:y <:+ w)(a:x.length<=y.length):x <:+ y:=List.suffix_of_suffix_length_le d b a
section
variable{fr:Option Nat}{S:St}{nd:Wd->Option Nat}{wd:List Wd}
def I.up(H:I fr S nd wd):∀(k n:Nat)(x:Wd),(W wd n).length<=k->n<wd.length->Z n≠fr->x <:+ W wd n->∃m,nd x=Z m/\W wd m <:+ W wd n:=by
 intro k
 induction k with
 |zero =>
  intro n x f b g a;have e:W wd n=[]:=YK.mp (Nat.le_zero.mp f);rw[e]at a;have:x=[]:=YS.mp a;subst this;exact⟨0,H.z,by rw[H.wz];exact YE⟩
 |succ k o =>
  intro n x f b g a;by_cases i:n=0
  ·subst i;rw[H.wz]at a;have:x=[]:=YS.mp a;subst this;exact⟨0,H.z,ZD _⟩
  ·obtain⟨m,u,⟨r,s⟩,h,t,p⟩:=H.lk (YW i) b g;by_cases d:(W wd m).length<x.length
   ·exact⟨n,p x a d,ZD _⟩
   ·obtain⟨q,l,j⟩:=o m x (by lia) r s (cz a h (by exact ZQ d));exact⟨q,l,j.trans h⟩
def I.OO(H:I fr S nd wd){n:Nat}{x:Wd}(b:n<wd.length)(d:Z n≠fr)(a:x <:+ W wd n):∃m,nd x=Z m/\W wd m <:+ W wd n:=H.up _ n x (Zm _) b d a
def I.all(H:I fr S nd wd){n q:Nat}{x y:Wd}(e:q<wd.length)(f:Z q≠fr)(d:nd x=Z n)(b:nd y=Z n)(h:x <:+ W wd q):y <:+ W wd q:=by
 obtain⟨m,a,g⟩:=H.OO e f h;rw[d]at a;cases a;exact(H.sf b).trans g
def I.inj(H:I fr S nd wd){m n:Nat}(b:m<wd.length)(a:n<wd.length)(h:W wd m=W wd n):m=n:=by
 have:=H.top b;rw[h,H.top a]at this;exact(Zn this).symm
def I.way(H:I fr S nd wd){n c a:Nat}(b:n<wd.length)(h:gW (S.wy.getD n []) c=Z a):nd (W wd n++[c])=Z a:=by
 rw[← H.wy (H.top b) c];exact h
def I.zero(H:I fr S nd wd){x:Wd}(h:nd x=Z 0):x=[]:=by
 have:=H.sf h;rw[H.wz]at this;exact YS.mp this
def I.low(H:I fr S nd wd){n m:Nat}{y:Wd}(h:Z n≠fr)(a:S.lk.getD n L=Z m)(b:nd y=Z n):(W wd m).length<y.length/\m<wd.length/\W wd m <:+ W wd n/\Z m≠fr:=by
 have g:=H.lt b;by_cases f:n=0
 ·subst f;rw[H.Mx]at a;cases a
 ·obtain⟨o,j,⟨e,l⟩,d,i,p⟩:=H.lk (YW f) g h;rw[j]at a;cases a;refine⟨Nat.lt_of_not_le λhle=>?_,e,d,l⟩;have:=H.iv b (cz (H.sf b) d hle) d;rw[H.top e]at this;cases this;exact Yf _ i
def I.below(H:I fr S nd wd){n q m:Nat}(e:n<wd.length)(g:Z n≠fr)(a:S.lk.getD n L=Z q)(f:m<wd.length)(b:W wd m <:+ W wd n)(o:m≠n):W wd m <:+ W wd q:=by
 by_cases d:n=0
 ·subst d;rw[H.Mx]at a;cases a
 ·obtain⟨p,j,⟨s,_⟩,i,r,h⟩:=H.lk (YW d) e g;rw[j]at a;cases a;refine cz b i (ZQ λl=>o ?_);have:=h _ b l;rw[H.top f]at this;exact Zn this
def I.root(H:I fr S nd wd){n m:Nat}(b:n<wd.length)(g:Z n≠fr)(d:S.lk.getD n L=L)(f:m<wd.length)(a:W wd m <:+ W wd n):m=n:=by
 have i:n=0:=Nat.eq_zero_of_not_pos λe=>by
  obtain⟨q,h,_⟩:=H.lk e b g;rw[h]at d;cases d
 subst i;rw[H.wz]at a;exact H.inj f b (by rw[H.wz,YS.mp a])
def gz(a:List (List (Nat×Nat)))(n m c v d:Nat)(b:n<a.length):gW ((a.set n (pW (a.getD n []) c v)).getD m []) d=if m=n/\d=c then Z v else gW (a.getD m []) d:=by
 rw[iw];by_cases h:n=m
 ·subst h;rw[Zq ⟨rfl,b⟩,Cd];by_cases hd:d=c
  ·rw[Zq hd,Zq ⟨rfl,hd⟩]
  ·rw[Zp hd,Zp (λz=>hd z.2)]
 ·rw[Zp (λz=>h z.1),Zp (λz=>h z.1.symm)]
def I.MW(H:I fr S nd wd){c old v:Nat}:∀(k:Nat)(T:St)(n:Nat),n<wd.length->Z n≠fr->(W wd n).length<k->(∀m,m<wd.length->W wd m <:+ W wd n->T.lk.getD m L=S.lk.getD m L)->wd.length<=T.wy.length →
  (∀m b,m<wd.length->b<wd.length->W wd m <:+ W wd b->W wd b <:+ W wd n->gW (T.wy.getD m []) c=Z old->gW (T.wy.getD b []) c=Z old) →
  ∃j,LN c old v k T (Z n)=Z ⟨T.lg,T.lk,j⟩/\j.length=T.wy.length/\∀m d,gW (j.getD m []) d=if d=c/\m<wd.length/\W wd m <:+ W wd n/\gW (T.wy.getD m []) c=Z old then Z v else gW (T.wy.getD m []) d:=by
 intro k
 induction k with
 |zero=>intro T n _ _ h;lia
 |succ k C =>
  intro T n f s G x hw mono;have l:n<T.wy.length:=ZR f hw;unfold LN;by_cases i:gW (T.wy.getD n []) c=Z old
  ·rw[Zq i,x n f (ZD _)];cases r:S.lk.getD n L with
   |none =>
    refine⟨T.wy.set n (pW (T.wy.getD n []) c v),by cases k<;>rfl,Z8,λm d=>?_⟩;rw[gz _ _ _ _ _ _ l];by_cases a:m=n/\d=c
    ·rw[Zq a,Zq ⟨a.2,by rw[a.1];exact f,by rw[a.1];exact ZD _,by rw[a.1];exact i⟩]
    ·rw[Zp a,Zp λz=>a ⟨H.root f s r z.2.1 z.2.2.1,z.1⟩]
   |some q =>
    obtain⟨F,A,p,y⟩:=H.low s r (H.top f);have ne:∀m,W wd m <:+ W wd q->m≠n:=λm a e=>by
     rw[e]at a;have:=a.length_le;lia
    obtain⟨j,e1,e2,D⟩:=C ⟨T.lg,T.lk,T.wy.set n (pW (T.wy.getD n []) c v)⟩ q A y (by lia) (λm a o=>x m a (o.trans p)) (by show _<=(T.wy.set _ _).length;rw[Z8];exact hw) (λm b a E o t h=>by
     have u:gW ((T.wy.set n (pW (T.wy.getD n []) c v)).getD m []) c=Z old:=h;show gW ((T.wy.set n (pW (T.wy.getD n []) c v)).getD b []) c=Z old;rw[gz _ _ _ _ _ _ l,Zp (λz=>ne m (o.trans t) z.1)]at u;rw[gz _ _ _ _ _ _ l,Zp (λz=>ne b t z.1)];exact mono m b a E o (t.trans p) u)
    refine⟨j,e1,by rw[e2];exact Z8,λm d=>?_⟩;rw[D m d];show (if d=c/\m<wd.length/\W wd m <:+ W wd q/\gW ((T.wy.set n (pW (T.wy.getD n []) c v)).getD m []) c=Z old then Z v else gW ((T.wy.set n (pW (T.wy.getD n []) c v)).getD m []) d)=_;by_cases a:m=n
    ·subst a;rw[Zp (λz=>ne m z.2.2.1 Y),gz _ _ _ _ _ _ l];by_cases hd:d=c
     ·rw[Zq ⟨rfl,hd⟩,Zq ⟨hd,f,ZD _,i⟩]
     ·rw[Zp (λz=>hd z.2),Zp (λz=>hd z.1)]
    ·have w:∀d,gW ((T.wy.set n (pW (T.wy.getD n []) c v)).getD m []) d=gW (T.wy.getD m []) d:=λd=>by rw[gz _ _ _ _ _ _ l,Zp (λz=>a z.1)]
     rw[w,w];by_cases g:d=c/\m<wd.length/\W wd m <:+ W wd n/\gW (T.wy.getD m []) c=Z old
     ·rw[Zq g,Zq ⟨g.1,g.2.1,H.below f s r g.2.1 g.2.2.1 a,g.2.2.2⟩]
     ·rw[Zp g,Zp λz=>g ⟨z.1,z.2.1,z.2.2.1.trans p,z.2.2.2⟩]
  ·rw[Zp i];refine⟨T.wy,rfl,rfl,λm d=>?_⟩;rw[Zp λz=>i (mono m n z.2.1 f z.2.2.1 (ZD _) z.2.2.2)]
def I.MX(H:I fr S nd wd){c v:Nat}:∀(k:Nat)(T:St)(n:Nat),n<wd.length->Z n≠fr->(W wd n).length<k->(∀m,m<wd.length->W wd m <:+ W wd n->T.lk.getD m L=S.lk.getD m L)->wd.length<=T.wy.length →
  (∀m g,m<wd.length->g<wd.length->W wd m <:+ W wd g->W wd g <:+ W wd n->(gW (T.wy.getD g []) c).isSome->(gW (T.wy.getD m []) c).isSome) →
  ∃w s,up1 c v k T (Z n)=Z (⟨T.lg,T.lk,w⟩,s)/\w.length=T.wy.length/\(∀m d,gW (w.getD m []) d=if d=c/\m<wd.length/\W wd m <:+ W wd n/\gW (T.wy.getD m []) c=L then Z v else gW (T.wy.getD m []) d) ∧
   (s=L->∀m,m<wd.length->W wd m <:+ W wd n->gW (T.wy.getD m []) c=L) ∧
   ∀p,s=Z p->p<wd.length/\W wd p <:+ W wd n/\(gW (T.wy.getD p []) c).isSome/\∀m,m<wd.length->W wd m <:+ W wd n->(W wd p).length<(W wd m).length->gW (T.wy.getD m []) c=L:=by
 intro k
 induction k with
 |zero=>intro T n _ _ h;lia
 |succ k U =>
  intro T n f o hk J hw mono;have r:n<T.wy.length:=ZR f hw;unfold up1;by_cases l:(gW (T.wy.getD n []) c).isSome=R
  ·rw[Zq l];refine⟨T.wy,Z n,rfl,rfl,λm d=>?_,(λh=>nomatch h),λp t=>?_⟩
   ·rw[Zp λz=>?_];have:=mono m n z.2.1 f z.2.2.1 (ZD _) l;rw[z.2.2.2]at this;cases this
   ·cases t;refine⟨f,ZD _,l,λm a b j=>?_⟩;have:=b.length_le;lia
  ·have y:gW (T.wy.getD n []) c=L:=by
    cases h:gW (T.wy.getD n []) c with
    |none=>rfl
    |some x=>rw[h]at l;exact absurd Y l
   rw[Zp l,J n f (ZD _)];cases j:S.lk.getD n L with
   |none =>
    refine⟨T.wy.set n (pW (T.wy.getD n []) c v),L,by cases k<;>rfl,Z8,λm d=>?_,λ_ m a b=>?_,(λp t=>nomatch t)⟩
    ·rw[gz _ _ _ _ _ _ r];by_cases a:m=n/\d=c
     ·rw[Zq a,Zq ⟨a.2,by rw[a.1];exact f,by rw[a.1];exact ZD _,by rw[a.1];exact y⟩]
     ·rw[Zp a,Zp λz=>a ⟨H.root f o j z.2.1 z.2.2.1,z.1⟩]
    ·rw[H.root f o j a b];exact y
   |some q =>
    obtain⟨l1,Q,A,P⟩:=H.low o j (H.top f);have ne:∀m,W wd m <:+ W wd q->m≠n:=λm a e=>by
     rw[e]at a;have:=a.length_le;lia
    obtain⟨w,s,e1,e2,e3,e4,e5⟩:=U ⟨T.lg,T.lk,T.wy.set n (pW (T.wy.getD n []) c v)⟩ q Q P (by lia) (λm a b=>J m a (b.trans A)) (by show _<=(T.wy.set _ _).length;rw[Z8];exact hw) (λm g a HQ b C h=>by
     have E:(gW ((T.wy.set n (pW (T.wy.getD n []) c v)).getD g []) c).isSome:=h;show (gW ((T.wy.set n (pW (T.wy.getD n []) c v)).getD m []) c).isSome;rw[gz _ _ _ _ _ _ r,Zp (λz=>ne g C z.1)]at E;rw[gz _ _ _ _ _ _ r,Zp (λz=>ne m (b.trans C) z.1)];exact mono m g a HQ b (C.trans A) E)
    have old:∀m,W wd m <:+ W wd q->gW ((T.wy.set n (pW (T.wy.getD n []) c v)).getD m []) c=gW (T.wy.getD m []) c:=λm a=>by rw[gz _ _ _ _ _ _ r,Zp (λz=>ne m a z.1)]
    refine⟨w,s,e1,by rw[e2];exact Z8,λm d=>?_,λX m a b=>?_,λp t=>?_⟩
    ·rw[e3 m d];show (if d=c/\m<wd.length/\W wd m <:+ W wd q/\gW ((T.wy.set n (pW (T.wy.getD n []) c v)).getD m []) c=L then Z v else gW ((T.wy.set n (pW (T.wy.getD n []) c v)).getD m []) d)=_;by_cases a:m=n
     ·subst a;rw[Zp (λz=>ne m z.2.2.1 Y),gz _ _ _ _ _ _ r];by_cases hd:d=c
      ·rw[Zq ⟨rfl,hd⟩,Zq ⟨hd,f,ZD _,y⟩]
      ·rw[Zp (λz=>hd z.2),Zp (λz=>hd z.1)]
     ·have F:∀d,gW ((T.wy.set n (pW (T.wy.getD n []) c v)).getD m []) d=gW (T.wy.getD m []) d:=λd=>by rw[gz _ _ _ _ _ _ r,Zp (λz=>a z.1)]
      rw[F,F];by_cases i:d=c/\m<wd.length/\W wd m <:+ W wd n/\gW (T.wy.getD m []) c=L
      ·rw[Zq i,Zq ⟨i.1,i.2.1,H.below f o j i.2.1 i.2.2.1 a,i.2.2.2⟩]
      ·rw[Zp i,Zp λz=>i ⟨z.1,z.2.1,z.2.2.1.trans A,z.2.2.2⟩]
    ·by_cases u:m=n
     ·rw[u];exact y
     ·have hb:=H.below f o j a b u;rw[← old m hb];exact e4 X m a hb
    ·obtain⟨O,D,N,M⟩:=e5 p t;have G:(gW ((T.wy.set n (pW (T.wy.getD n []) c v)).getD p []) c).isSome:=N;rw[old p D]at G;refine⟨O,D.trans A,G,λm a b Ig=>?_⟩;by_cases u:m=n
     ·rw[u];exact y
     ·have hb:=H.below f o j a b u;rw[← old m hb];exact M m a hb Ig
end
def CS{c b v:Nat}(g:97<=c/\c<=122):∀(k:Nat)(S a:St)(o:Option Nat),WF S->v<S.lg.length->LN c b v k S o=Z a->WF a:=by
 intro k
 induction k with
 |zero =>
  intro S a o H d e;cases o with
  |none=>cases (show Z S=Z a from e);exact H
  |some n=>cases e
 |succ k f =>
  intro S a o H d e;cases o with
  |none=>cases (show Z S=Z a from e);exact H
  |some n =>
   unfold LN at e;split at e
   ·exact f ⟨S.lg,S.lk,S.wy.set n (pW (S.wy.getD n []) c v)⟩ a _ (H.way (n:=n) d g) d e
   ·cases e;exact H
def DY{c v:Nat}(g:97<=c/\c<=122):∀(k:Nat)(S a:St)(o b:Option Nat),WF S->v<S.lg.length->up1 c v k S o=Z (a,b)->WF a:=by
 intro k
 induction k with
 |zero =>
  intro S a o b H d e;cases o with
  |none=>cases (show Z (S,L)=Z (a,b) from e);exact H
  |some n=>cases e
 |succ k f =>
  intro S a o b H d e;cases o with
  |none=>cases (show Z (S,L)=Z (a,b) from e);exact H
  |some n =>
   unfold up1 at e;split at e
   ·cases e;exact H
   ·exact f ⟨S.lg,S.lk,S.wy.set n (pW (S.wy.getD n []) c v)⟩ a _ b (H.way (n:=n) d g) d e
def jg{α:Type}{x y:List α}{a b:α}(h:x++[a] <:+ y++[b]):a=b/\x <:+ y:=by
 obtain⟨t,e⟩:=h;rw[← ZI]at e;obtain⟨e1,e2⟩:=List.append_inj' e Y;exact⟨by simpa using e2,⟨t,e1⟩⟩
def ik{α:Type}{x y:List α}(a:α)(h:x <:+ y):x++[a] <:+ y++[a]:=by
 obtain⟨t,e⟩:=h;exact⟨t,by rw[← e,ZI]⟩
def iS(b:Wd->Option Nat)(a l h:Nat)(x:Wd):Option Nat:=if b x=Z a/\x.length<=l then Z h else b x
theorem I.split{N:Option Nat}{S:St}{j:Wd->Option Nat}{a:List Wd}(H:I N S j a){n c old:Nat}(J:n<a.length)(hf:Z n≠N)(hc:97<=c/\c<=122)(ho:gW (S.wy.getD n []) c=Z old)(MH:Z old≠N)(L1:N≠Z a.length)(IK:S.lg.getD old 0≠S.lg.getD n 0+1)(hk:(W a n).length<1000) :
  ∃S',Lq S n c=Z (S',S.lg.length)/\I N S' (iS j old ((W a n).length+1) a.length) (a++[W a n++[c]]):=by
 have M:S.lg.length=a.length:=H.len.symm;have hw:=H.way J ho;have hold:=H.lt hw;have u:=H.sf hw;have lw:(W a n++[c]).length=(W a n).length+1:=by rw[Zv];rfl
 rw[H.lg old hold,H.lg n J]at IK;have Ig:(W a n).length+1<(W a old).length:=by
  have:=u.length_le;rw[lw]at this;lia
 have U:old≠0:=λe=>by
  rw[e,H.wz]at Ig;simp at Ig
 have Og:0<a.length:=by rw[H.len];exact H.wf.pos
 have l1:S.lk.length=a.length:=by rw[H.wf.lk,M]
 have l2:S.wy.length=a.length:=by rw[H.wf.wy,M]
 have LX:∀m,((S.lk++[S.lk.getD old L]).set old (Z S.lg.length)).getD m L=if m=old then Z a.length else if m=a.length then S.lk.getD old L else S.lk.getD m L:=λm=>by
  rw[iw,b6,l1,M];by_cases h:m=old
  ·rw[Zq ⟨h.symm,by rw[Zv,l1];lia⟩,Zq h]
  ·rw[Zp (λz=>h z.1.symm),Zp h]
 have Jh:∀m,(S.wy++[S.wy.getD old []]).getD m []=if m=a.length then S.wy.getD old [] else S.wy.getD m []:=λm=>by rw[b6,l2]
 have Ku:∀m,m<a.length->(S.wy++[S.wy.getD old []]).getD m []=S.wy.getD m []:=λm b=>by rw[Jh,Zp (ZW b)]
 obtain⟨w2,e1,e2,e3⟩:=H.MW (c:=c) (old:=old) (v:=S.lg.length) 1000 ⟨S.lg++[S.lg.getD n 0+1],(S.lk++[S.lk.getD old L]).set old (Z S.lg.length),S.wy++[S.wy.getD old []]⟩ n J hf hk (λm b X=>by
   have:=X.length_le;show ((S.lk++[S.lk.getD old L]).set old (Z S.lg.length)).getD m L=_;rw[LX,Zp (λe=>by rw[e]at this;lia),Zp (ZW b)])
  (by show _<=(S.wy++[S.wy.getD old []]).length;rw[Zv,l2];exact Yk _ _)
  (λm t b E X IA h=>by
   have D:gW ((S.wy++[S.wy.getD old []]).getD m []) c=Z old:=h;show gW ((S.wy++[S.wy.getD old []]).getD t []) c=Z old;rw[Ku m b]at D;rw[Ku t E,H.wy (H.top E) c];rw[H.wy (H.top b) c]at D;exact H.iv D (ik c X) ((ik c IA).trans u))
 have wn:=H.wf.NA old;have W1:=H.wf.more (l:=S.lg.getD n 0+1) (o:=S.lk.getD old L) (w:=S.wy.getD old []) (λm b=>H.wf.up old m b) (λd m b=>H.wf.on old d m b) wn.1 wn.2;have hlen:(S.lg++[S.lg.getD n 0+1]).length=S.lg.length+1:=by rw[Zv];rfl
 have W2:=W1.link (n:=old) (v:=S.lg.length) (by show S.lg.length<(S.lg++[S.lg.getD n 0+1]).length;lia);have Pw:=CS hc 1000 _ _ _ W2 (by show S.lg.length<(S.lg++[S.lg.getD n 0+1]).length;lia) e1;refine⟨⟨S.lg++[S.lg.getD n 0+1],(S.lk++[S.lk.getD old L]).set old (Z S.lg.length),w2⟩,?_,?_⟩
 ·unfold Lq;rw[ho,Zx,Zp (by rw[H.lg old hold,H.lg n J];exact IK),e1];rfl
 have Wn:∀m,W (a++[W a n++[c]]) m=if m=a.length then W a n++[c] else W a m:=λm=>b6 a _ _ m
 have s:W (a++[W a n++[c]]) a.length=W a n++[c]:=by rw[Wn,Zq Y]
 have f:∀{m},m<a.length->W (a++[W a n++[c]]) m=W a m:=λ{m} b=>by rw[Wn,Zp (ZW b)]
 have dZ:(a++[W a n++[c]]).length=a.length+1:=by rw[Zv];rfl
 have tell:∀{x m},iS j old ((W a n).length+1) a.length x=Z m->(m=a.length/\j x=Z old/\x.length<=(W a n).length+1)\/(m<a.length/\j x=Z m/\¬(m=old/\x.length<=(W a n).length+1)):=λ{x m} h=>by
  unfold iS at h;split at h
  ·rename_i q;cases h;exact .inl ⟨rfl,q.1,q.2⟩
  ·rename_i q;exact .inr ⟨H.lt h,h,λz=>q ⟨by rw[h,z.1],z.2⟩⟩
 have Q:∀{x},j x=Z old->x.length<=(W a n).length+1->iS j old ((W a n).length+1) a.length x=Z a.length:=λ{x} C h2=>Zq ⟨C,h2⟩;have tO:∀{x m},j x=Z m->¬(m=old/\x.length<=(W a n).length+1)->iS j old ((W a n).length+1) a.length x=Z m:=λ{x m} C h2=>by
  unfold iS;rw[Zp (λz=>h2 ⟨by rw[C]at z;exact Zn z.1,z.2⟩),C]
 have LR:∀{x m},j x=Z m->∃t,iS j old ((W a n).length+1) a.length x=Z t:=λ{x m} h=>by
  unfold iS;split
  ·exact⟨_,rfl⟩
  ·exact⟨m,h⟩
 have un:∀{x m},iS j old ((W a n).length+1) a.length x=Z m->∃t,j x=Z t:=λ{x m} h=>(tell h).elim (λz=>⟨_,z.2.1⟩) λz=>⟨_,z.2.1⟩
 refine⟨Pw,by rw[dZ,hlen,M],λm b=>?_,tO H.z (λz=>U z.1.symm),by rw[f Og];exact H.wz,λ{x m} h=>by rcases tell h with z | z<;>lia,λ{x m} h=>?_,λ{m} b=>?_,λ{x y m} h O g=>?_,λ{x d m} h=>?_,λ{x y m} h O=>?_,?_,λ{m} h0 b QN=>?_,λ{x m} h d=>?_⟩
 ·rw[dZ]at b;show (S.lg++[S.lg.getD n 0+1]).getD m 0=_;rw[b6,M];by_cases e:m=a.length
  ·rw[Zq e,e,s,H.lg n J,lw]
  ·rw[Zp e,f (by lia),H.lg m (by lia)]
 ·rcases tell h with⟨rfl,i,F⟩ | ⟨G,i,_⟩
  ·rw[s];exact cz (H.sf i) u (by rw[lw];exact F)
  ·rw[f G];exact H.sf i
 ·rw[dZ]at b;by_cases e:m=a.length
  ·rw[e,s];exact Q hw (by rw[lw];exact Zm _)
  ·rw[f (by lia)];exact tO (H.top (by lia)) (λz=>by have:=z.2;rw[z.1]at this;lia)
 ·rcases tell h with⟨rfl,i,F⟩ | ⟨G,i,F⟩
  ·rw[s]at g;have:=g.length_le;rw[lw]at this;exact Q (H.iv i O (g.trans u)) this
  ·rw[f G]at g;exact tO (H.iv i O g) (λz=>F ⟨z.1,ZJ O.length_le z.2⟩)
 ·obtain⟨t,D⟩:=un h;obtain⟨q,p⟩:=H.pre D;exact LR p
 ·obtain⟨t,D⟩:=un h;obtain⟨q,p⟩:=H.Lm D O;exact LR p
 ·show ((S.lk++[S.lk.getD old L]).set old (Z S.lg.length)).getD 0 L=L;rw[LX,Zp (Ya U),Zp (by exact ZW Og)];exact H.Mx
 ·rw[dZ]at b;show ∃q,((S.lk++[S.lk.getD old L]).set old (Z S.lg.length)).getD m L=Z q/\_;rw[LX,dZ];obtain⟨q,q1,⟨P,PN⟩,q3,q4,q5⟩:=H.lk (YW U) hold MH;obtain⟨lo,_⟩:=H.low MH q1 hw;rw[lw]at lo;by_cases e:m=old
  ·subst e;rw[Zq Y];refine⟨a.length,rfl,⟨by exact Yz _,λz=>L1 z.symm⟩,?_,?_,λy g A=>?_⟩
   ·rw[s,f hold];exact u
   ·rw[s,f hold,lw];exact Ig
   ·rw[s,lw]at A;rw[f hold]at g;exact tO (H.iv hw (cz u g (by rw[lw];exact Xu A)) g) (λz=>by have:=z.2;lia)
  ·rw[Zp e];by_cases eL:m=a.length
   ·subst eL;rw[Zq Y,q1];refine⟨q,rfl,⟨by exact Ye P,PN⟩,?_,?_,λy g A=>?_⟩
    ·rw[s,f P];exact cz q3 u (by rw[lw];exact Xu lo)
    ·rw[s,f P,lw];exact lo
    ·rw[s]at g;rw[f P]at A;have:=g.length_le;rw[lw]at this;exact Q (q5 y (g.trans u) A) this
   ·rw[Zp eL];have E:m<a.length:=by lia
    obtain⟨r,r1,⟨r2,Ut⟩,r3,r4,r5⟩:=H.lk h0 E QN;rw[r1];refine⟨r,rfl,⟨by exact Ye r2,Ut⟩,by rw[f r2,f E];exact r3,by rw[f r2,f E];exact r4,λy g A=>?_⟩;rw[f E]at g;rw[f r2]at A;exact tO (r5 y g A) (λz=>e z.1)
 ·show gW (w2.getD m []) d=_;rw[e3 m d];show (if d=c/\m<a.length/\W a m <:+ W a n/\gW ((S.wy++[S.wy.getD old []]).getD m []) c=Z old then Z S.lg.length else gW ((S.wy++[S.wy.getD old []]).getD m []) d)=_;rcases tell h with⟨rfl,i,F⟩ | ⟨G,i,F⟩
  ·rw[Zp (λz=>Yf _ z.2.1),Jh,Zq Y,H.wy i d];unfold iS;rw[Zp];intro z;have C:=z.1;rw[← H.wy i d,H.wy (H.top hold) d]at C;have:=(H.sf C).length_le;rw[Zv,Zc]at this;lia
  ·rw[Ku m G,H.wy i c,H.wy i d];unfold iS;by_cases p:j (x++[d])=Z old/\(x++[d]).length<=(W a n).length+1
   ·have Nj:=cz (H.sf p.1) u (by rw[lw];exact p.2);obtain⟨rfl,hx⟩:=jg Nj;obtain⟨t,m1,m2⟩:=H.OO J hf hx;rw[i]at m1;cases m1;rw[Zq ⟨rfl,G,m2,p.1⟩,Zq p,M]
   ·rw[Zp p,Zp];rintro⟨rfl,_,a3,a4⟩;refine p ⟨a4,?_⟩;have b1:=(H.sf i).length_le;have b2:=a3.length_le;rw[Zv,Zc];lia
end AU
end
section
namespace AU
open Classical in
def iJ(a:Wd->Option Nat)(w:Wd)(f:Nat)(x:Wd):Option Nat:=match a x with
 |some m=>Z m
 |none=>if x <:+ w then Z f else L
def dH{a:Wd->Option Nat}{w:Wd}{f m:Nat}{x:Wd}(h:a x=Z m):iJ a w f x=Z m:=by
 unfold iJ;rw[h]
def gA{a:Wd->Option Nat}{w:Wd}{f:Nat}{x:Wd}(h:a x=L)(b:x <:+ w):iJ a w f x=Z f:=by
 unfold iJ;rw[h];exact Zq b
def cX{a:Wd->Option Nat}{w:Wd}{f m:Nat}{x:Wd}(h:iJ a w f x=Z m):a x=Z m\/(m=f/\a x=L/\x <:+ w):=by
 unfold iJ at h;split at h
 ·rename_i q e;cases h;exact .inl e
 ·rename_i e;split at h
  ·rename_i b;cases h;exact .inr ⟨rfl,e,b⟩
  ·cases h
def zK{α:Type}{y t:List α}{c:α}(h:y <:+ t++[c])(d:y≠[]):∃a,y=a++[c]/\a <:+ t:=by
 rcases List.eq_nil_or_concat y with e | ⟨a,b,e⟩
 ·exact absurd e d
 ·rw[List.concat_eq_append]at e;subst e;obtain⟨e1,e2⟩:=jg h;exact⟨a,by rw[e1],e2⟩
section
variable{S:St}{nd:Wd->Option Nat}{wd:List Wd}
def I.fresh(H:I L S nd wd){h c:Nat}(t:h<wd.length)(hc:97<=c/\c<=122)(hn:gW (S.wy.getD h []) c=L)(hk:(W wd h).length<1000) :
  ∃D u,up1 c S.lg.length 1000 ⟨S.lg++[S.lg.getD h 0+1],S.lk++[Z 0],S.wy++[[]]⟩ (Z h)=Z (D,u)/\I (Z wd.length) D (iJ nd (W wd h++[c]) wd.length) (wd++[W wd h++[c]])/\D.lk.getD wd.length L=Z 0/\D.lg.length=S.lg.length+1 ∧
   (∀m,m<wd.length->(gW (S.wy.getD m []) c).isSome->gW (D.wy.getD m []) c=gW (S.wy.getD m []) c) ∧
   (u=L->∀m,m<wd.length->W wd m <:+ W wd h->gW (S.wy.getD m []) c=L) ∧
   ∀p,u=Z p->p<wd.length/\W wd p <:+ W wd h/\(gW (S.wy.getD p []) c).isSome/\∀m,m<wd.length->W wd m <:+ W wd h->(W wd p).length<(W wd m).length->gW (S.wy.getD m []) c=L:=by
 have C:S.lg.length=wd.length:=H.len.symm;have l1:S.lk.length=wd.length:=by rw[H.wf.lk,C]
 have l2:S.wy.length=wd.length:=by rw[H.wf.wy,C]
 have Og:0<wd.length:=by rw[H.len];exact H.wf.pos
 have N:∀m,(S.lk++[Z 0]).getD m L=if m=wd.length then Z 0 else S.lk.getD m L:=λm=>by rw[b6,l1]
 have Jh:∀m,(S.wy++[[]]).getD m []=if m=wd.length then [] else S.wy.getD m []:=λm=>by rw[b6,l2]
 have s:∀m,m<wd.length->(S.wy++[[]]).getD m []=S.wy.getD m []:=λm b=>by rw[Jh,Zp (ZW b)]
 have nt:nd (W wd h++[c])=L:=by rw[← H.wy (H.top t) c];exact hn
 obtain⟨O,u,e1,e2,e3,e4,e5⟩:=H.MX (c:=c) (v:=S.lg.length) 1000 ⟨S.lg++[S.lg.getD h 0+1],S.lk++[Z 0],S.wy++[[]]⟩ h t (λz=>nomatch z) hk (λm b _=>by
   show (S.lk++[Z 0]).getD m L=_;rw[N,Zp (ZW b)])
  (by show _<=(S.wy++[[]]).length;rw[Zv,l2];exact Yk _ _)
  (λm P b j g IA q=>by
   have X:(gW ((S.wy++[[]]).getD P []) c).isSome:=q;show (gW ((S.wy++[[]]).getD m []) c).isSome;rw[s P j,H.wy (H.top j) c]at X;rw[s m b,H.wy (H.top b) c];obtain⟨r,f⟩:=Yt.mp X;obtain⟨U,UZ⟩:=H.Lm f (ik c g);rw[UZ];rfl)
 have hlen:(S.lg++[S.lg.getD h 0+1]).length=S.lg.length+1:=by rw[Zv];rfl
 have W1:=H.wf.more (l:=S.lg.getD h 0+1) (o:=Z 0) (w:=[]) (λm b=>by cases b;exact H.wf.pos) (λd m b=>by cases b) Z5 (λp Q=>nomatch Q);have Pw:=DY hc 1000 _ _ _ _ W1 (by show S.lg.length<(S.lg++[S.lg.getD h 0+1]).length;lia) e1;have lw:(W wd h++[c]).length=(W wd h).length+1:=by rw[Zv];rfl
 have Wn:∀m,W (wd++[W wd h++[c]]) m=if m=wd.length then W wd h++[c] else W wd m:=λm=>b6 wd _ _ m
 have M:W (wd++[W wd h++[c]]) wd.length=W wd h++[c]:=by rw[Wn,Zq Y]
 have i:∀{m},m<wd.length->W (wd++[W wd h++[c]]) m=W wd m:=λ{m} b=>by rw[Wn,Zp (ZW b)]
 have dZ:(wd++[W wd h++[c]]).length=wd.length+1:=by rw[Zv];rfl
 refine⟨⟨S.lg++[S.lg.getD h 0+1],S.lk++[Z 0],O⟩,u,e1,?_,by show (S.lk++[Z 0]).getD wd.length L=_;rw[N,Zq Y],hlen,λm b g=>?_,λho m b g=>?_,λp Q=>?_⟩
 rotate_left
 ·show gW (O.getD m []) c=_;rw[e3 m c];show (if c=c/\m<wd.length/\W wd m <:+ W wd h/\gW ((S.wy++[[]]).getD m []) c=L then Z S.lg.length else gW ((S.wy++[[]]).getD m []) c)=_;rw[s m b,Zp (λz=>by rw[z.2.2.2]at g;cases g)]
 ·have:=e4 ho m b g;have F:gW ((S.wy++[[]]).getD m []) c=L:=this;rw[s m b]at F;exact F
 ·obtain⟨p1,p2,p3,p4⟩:=e5 p Q;have NO:(gW ((S.wy++[[]]).getD p []) c).isSome:=p3;rw[s p p1]at NO;refine⟨p1,p2,NO,λm b g J=>?_⟩;have:=p4 m b g J;have F:gW ((S.wy++[[]]).getD m []) c=L:=this;rw[s m b]at F;exact F
 refine⟨Pw,by rw[dZ];show _=(S.lg++[S.lg.getD h 0+1]).length;rw[hlen,C],λm b=>?_,dH H.z,by rw[i Og];exact H.wz,λ{x m} q=>?_,λ{x m} q=>?_,λ{m} b=>?_,λ{x y m} q E n=>?_,λ{x d m} q=>?_,λ{x y m} q E=>?_,?_,λ{m} h0 b QN=>?_,λ{x m} q d=>?_⟩
 ·rw[dZ]at b;show (S.lg++[S.lg.getD h 0+1]).getD m 0=_;rw[b6,C];by_cases e:m=wd.length
  ·rw[Zq e,e,M,H.lg h t,lw]
  ·rw[Zp e,i (by lia),H.lg m (by lia)]
 ·rw[dZ];rcases cX q with z | z
  ·have:=H.lt z;exact Ye this
  ·lia
 ·rcases cX q with z | ⟨rfl,_,z⟩
  ·rw[i (H.lt z)];exact H.sf z
  ·rw[M];exact z
 ·rw[dZ]at b;by_cases e:m=wd.length
  ·rw[e,M];exact gA nt (ZD _)
  ·rw[i (by lia)];exact dH (H.top (by lia))
 ·rcases cX q with z | ⟨rfl,G,z2⟩
  ·rw[i (H.lt z)]at n;exact dH (H.iv z E n)
  ·rw[M]at n;refine gA ?_ n;cases e:nd y with
   |none=>rfl
   |some r =>
    obtain⟨U,f⟩:=H.Lm e E;rw[G]at f;cases f
 ·rcases cX q with z | ⟨_,_,z⟩
  ·obtain⟨r,f⟩:=H.pre z;exact⟨r,dH f⟩
  ·obtain⟨_,A⟩:=jg z;obtain⟨r,f⟩:=H.Lm (H.top t) A;exact⟨r,dH f⟩
 ·rcases cX q with z | ⟨_,_,z⟩
  ·obtain⟨r,f⟩:=H.Lm z E;exact⟨r,dH f⟩
  ·cases e:nd x with
   |none=>exact⟨_,gA e (E.trans z)⟩
   |some r=>exact⟨r,dH e⟩
 ·show (S.lk++[Z 0]).getD 0 L=L;rw[N,Zp (by exact ZW Og)];exact H.Mx
 ·rw[dZ]at b;have j:m<wd.length:=by
   have:m≠wd.length:=λe=>QN (by rw[e]);lia
  show ∃q,(S.lk++[Z 0]).getD m L=Z q/\_;rw[N,Zp (ZW j),dZ];obtain⟨r,r1,⟨r2,_⟩,r3,r4,r5⟩:=H.lk h0 j (λz=>nomatch z);refine⟨r,r1,⟨by exact Ye r2,λz=>?_⟩,by rw[i r2,i j];exact r3,by rw[i r2,i j];exact r4,λy n J=>?_⟩
  ·have:=Zn z;lia
  ·rw[i j]at n;rw[i r2]at J;exact dH (r5 y n J)
 ·show gW (O.getD m []) d=_;rw[e3 m d];show (if d=c/\m<wd.length/\W wd m <:+ W wd h/\gW ((S.wy++[[]]).getD m []) c=L then Z S.lg.length else gW ((S.wy++[[]]).getD m []) d)=_;rcases cX q with z | ⟨rfl,G,z2⟩
  ·have b:=H.lt z;rw[s m b,H.wy z c,H.wy z d];cases e:nd (x++[d]) with
   |some r =>
    rw[dH e,Zp];rintro⟨rfl,_,_,a⟩;rw[e]at a;cases a
   |none =>
    by_cases g:x++[d] <:+ W wd h++[c]
    ·obtain⟨rfl,A⟩:=jg g;obtain⟨P,m1,m2⟩:=H.OO t (λz=>nomatch z) A;rw[z]at m1;cases m1;rw[gA e g,Zq ⟨rfl,b,m2,e⟩,C]
    ·have:iJ nd (W wd h++[c]) wd.length (x++[d])=L:=by
      unfold iJ;rw[e];exact Zp g
     rw[this,Zp];rintro⟨rfl,_,a,_⟩;exact g (ik d ((H.sf z).trans a))
  ·rw[Zp (λa=>Yf _ a.2.1),Jh,Zq Y];have e:nd (x++[d])=L:=by
    cases e:nd (x++[d]) with
    |none=>rfl
    |some r =>
     obtain⟨U,f⟩:=H.pre e;rw[G]at f;cases f
   have:iJ nd (W wd h++[c]) wd.length (x++[d])=L:=by
    unfold iJ;rw[e];refine Zp λg=>?_;obtain⟨_,A⟩:=jg g;obtain⟨r,f⟩:=H.Lm (H.top t) A;rw[G]at f;cases f
   rw[this];rfl
def I.fix{f m:Nat}(H:I (Z f) S nd wd)(j:f<wd.length)(b:m<wd.length)(h:W wd m <:+ W wd f)(a:(W wd m).length<(W wd f).length)(g:∀y,y <:+ W wd f->(W wd m).length<y.length->nd y=Z f):I L ⟨S.lg,S.lk.set f (Z m),S.wy⟩ nd wd:=by
 have o:f≠0:=λe=>by
  rw[e,H.wz]at a;simp at a
 have lf:f<S.lk.length:=by rw[H.wf.lk,← H.len];exact j
 refine⟨H.wf.link (by rw[← H.len];exact b),H.len,H.lg,H.z,H.wz,H.lt,H.sf,H.top,H.iv,H.pre,H.Lm,?_,λ{n} l i _=>?_,H.wy⟩
 ·show (S.lk.set f (Z m)).getD 0 L=L;rw[iw,Zp (λz=>o z.1)];exact H.Mx
 ·show ∃q,(S.lk.set f (Z m)).getD n L=Z q/\_;rw[iw];by_cases e:f=n
  ·subst e;rw[Zq ⟨rfl,lf⟩];exact⟨m,rfl,⟨b,λz=>nomatch z⟩,h,a,g⟩
  ·rw[Zp (λz=>e z.1)];obtain⟨r,r1,⟨r2,_⟩,d⟩:=H.lk l i (λz=>e (Zn z).symm);exact⟨r,r1,⟨r2,λz=>nomatch z⟩,d⟩
end
end AU
end
section
namespace AU
structure OK(nd HA:Wd->Option Nat)(w:Wd):Prop where
 eq:∀{x y m n},HA x=some m->HA y=some n->(m=n↔nd x=nd y/\(x <:+ w↔y <:+ w))
section
variable{fr:Option Nat}{S:St}{nd:Wd->Option Nat}{wd:List Wd}
def I.N0(H:I fr S nd wd){n c old:Nat}(p:n<wd.length)(O:Z n≠fr)(P:97<=c/\c<=122)(o:gW (S.wy.getD n []) c=Z old)(g:Z old≠fr)(i:fr≠Z wd.length)(N:(W wd n).length<1000) :
  ∃e r j He,Lq S n c=Z (e,r)/\I fr e j He/\r<He.length/\Z r≠fr/\W He r=W wd n++[c]/\(∀m,m<wd.length->W He m=W wd m)/\wd.length<=He.length/\He.length<=wd.length+1 ∧
   (∀x,(∃m,j x=Z m) ↔ ∃m,nd x=Z m)/\OK nd j (W wd n++[c])/\∀x f,f≠old->nd x=Z f->j x=Z f:=by
 have hw:=H.way p o;have hold:=H.lt hw;have E:=H.sf hw;have lw:(W wd n++[c]).length=(W wd n).length+1:=by rw[Zv];rfl
 by_cases t:S.lg.getD old 0=S.lg.getD n 0+1
 ·have s:W wd old=W wd n++[c]:=by
   have:=t;rw[H.lg old hold,H.lg n p]at this;exact(E.eq_of_length (by rw[lw,this])).symm
  refine⟨S,old,nd,wd,?_,H,hold,g,s,λm _=>rfl,Zm _,Xj _,λx=>Iff.rfl,⟨λ{x y m k} b a=>?_⟩,λx f _ h=>h⟩
  ·unfold Lq;rw[o,Zx,Zq t]
  ·constructor
   ·rintro rfl;exact⟨by rw[b,a],λh=>by rw[← s]at h ⊢;exact H.all hold g b a h,λh=>by rw[← s]at h ⊢;exact H.all hold g a b h⟩
   ·rintro⟨h,_⟩;rw[b,a]at h;exact Zn h
 ·obtain⟨e,e1,u⟩:=H.split p O P o g i t N;have C:W (wd++[W wd n++[c]]) wd.length=W wd n++[c]:=(b6 wd _ _ _).trans (Zq Y);have Q:∀m,m<wd.length->W (wd++[W wd n++[c]]) m=W wd m:=λm J=>(b6 wd _ _ m).trans (Zp (ZW J));have dZ:(wd++[W wd n++[c]]).length=wd.length+1:=by rw[Zv];rfl
  have inv:∀{x m},iS nd old ((W wd n).length+1) wd.length x=Z m->(m=wd.length/\nd x=Z old/\x.length<=(W wd n).length+1)\/nd x=Z m:=λ{x m} h=>by
   unfold iS at h;split at h
   ·rename_i q;cases h;exact .inl ⟨rfl,q.1,q.2⟩
   ·exact .inr h
  have D:∀{x},nd x=Z old->(x.length<=(W wd n).length+1↔x <:+ W wd n++[c]):=λ{x} h=>⟨λM=>cz (H.sf h) E (by rw[lw];exact M),λd=>by have:=d.length_le;rw[lw]at this;exact this⟩
  refine⟨e,S.lg.length,_,_,e1,u,by rw[dZ,← H.len];exact Yz _,by rw[← H.len];exact λz=>i z.symm,by rw[← H.len];exact C,Q,by lia,by exact Xf dZ,λx=>⟨λ⟨m,h⟩=>(inv h).elim (λz=>⟨_,z.2.1⟩) λz=>⟨_,z⟩,λ⟨m,h⟩=>?_⟩,⟨λ{x y m k} b a=>?_⟩,λx f U h=>?_⟩
  ·unfold iS;split
   ·exact⟨_,rfl⟩
   ·exact⟨m,h⟩
  ·constructor
   ·rintro rfl;have v:wd.length<(wd++[W wd n++[c]]).length:=by lia
    have A:=λh=>u.all v (λz=>i z.symm) b a h;have w:=λh=>u.all v (λz=>i z.symm) a b h;rw[C]at A w;refine⟨?_,A,w⟩;rcases inv b with⟨X,F,_⟩ | z
    ·rcases inv a with⟨_,G,_⟩ | y
     ·rw[F,G]
     ·have:=H.lt y;lia
    ·rcases inv a with⟨y1,_,_⟩ | y
     ·have:=H.lt z;lia
     ·rw[z,y]
   ·rintro⟨h,d⟩;have:iS nd old ((W wd n).length+1) wd.length x=iS nd old ((W wd n).length+1) wd.length y:=by
     unfold iS;rw[h];by_cases q:nd y=Z old
     ·have e1:=D (show nd x=Z old by rw[h,q]);have e2:=D q;by_cases l:y.length<=(W wd n).length+1
      ·rw[Zq ⟨q,e1.mpr (d.mpr (e2.mp l))⟩,Zq ⟨q,l⟩]
      ·rw[Zp (λz=>l (e2.mpr (d.mp (e1.mp z.2)))),Zp (λz=>l z.2)]
     ·rw[Zp (λz=>q z.1),Zp (λz=>q z.1)]
    rw[b,a]at this;exact Zn this
  ·unfold iS;rw[Zp (λz=>U (by rw[h]at z;exact Zn z.1))];exact h
end
section
variable{S:St}{nd:Wd->Option Nat}{wd:List Wd}
def I.step(H:I L S nd wd){h c:Nat}(A:h<wd.length)(hc:97<=c/\c<=122)(hk:(W wd h).length+1<1000) :
  ∃S' r u He,hb S h c=Z (S',r)/\I L S' u He/\r<He.length/\W He r=W wd h++[c]/\(∀m,m<wd.length->W He m=W wd m)/\wd.length<=He.length/\He.length<=wd.length+2 ∧
   (∀x,(∃m,u x=Z m)↔(∃m,nd x=Z m)\/x <:+ W wd h++[c])/\OK nd u (W wd h++[c]):=by
 cases hg:gW (S.wy.getD h []) c with
 |some old =>
  obtain⟨S',r,u,He,e,H',h1,_,h2,h3,h4,h5,h6,h7,_⟩:=H.N0 A (λz=>nomatch z) hc hg (λz=>nomatch z) (λz=>nomatch z) (by exact Nat.lt_of_succ_lt hk);refine⟨S',r,u,He,?_,H',h1,h2,h3,h4,by exact Wy h5,λx=>(h6 x).trans ⟨.inl,λz=>z.elim id λz=>H.Lm (H.way A hg) z⟩,h7⟩;unfold hb;rw[hg];exact e
 |none =>
  have G:S.lg.length=wd.length:=H.len.symm;obtain⟨o,o',e1,v,k0,k1,k2,k3,k4⟩:=H.fresh A hc hg (by exact Nat.lt_of_succ_lt hk);have X:W (wd++[W wd h++[c]]) wd.length=W wd h++[c]:=(b6 wd _ _ _).trans (Zq Y);have U:∀m,m<wd.length->W (wd++[W wd h++[c]]) m=W wd m:=λm hm=>(b6 wd _ _ m).trans (Zp (ZW hm));have dZ:(wd++[W wd h++[c]]).length=wd.length+1:=by rw[Zv];rfl
  have lw:(W wd h++[c]).length=(W wd h).length+1:=by rw[Zv];rfl
  have nt:nd (W wd h++[c])=L:=by rw[← H.wy (H.top A) c];exact hg
  have ex:∀x,(∃m,iJ nd (W wd h++[c]) wd.length x=Z m)↔(∃m,nd x=Z m)\/x <:+ W wd h++[c]:=λx=>⟨λ⟨m,q⟩=>(cX q).elim (λz=>.inl ⟨_,z⟩) λz=>.inr z.2.2,λq=>by
   cases e:nd x with
   |some m=>exact⟨m,dH e⟩
   |none=>exact q.elim (λ⟨m,z⟩=>by rw[e]at z;cases z) λz=>⟨_,gA e z⟩⟩
  have same:∀{x y m n},iJ nd (W wd h++[c]) wd.length x=Z m->iJ nd (W wd h++[c]) wd.length y=Z n->(m=n↔nd x=nd y):=λ{x y m n} s j=>by
   rcases cX s with z | ⟨z1,z2,_⟩
   ·rcases cX j with i | ⟨y1,y2,_⟩
    ·rw[z,i];exact⟨λe=>by rw[e],λe=>Zn e⟩
    ·have:=H.lt z;refine⟨λe=>by lia,λe=>?_⟩;rw[z,y2]at e;cases e
   ·rcases cX j with i | ⟨y1,y2,_⟩
    ·have:=H.lt i;refine⟨λe=>by lia,λe=>?_⟩;rw[z2,i]at e;cases e
    ·exact⟨λ_=>by rw[z2,y2],λ_=>by rw[z1,y1]⟩
  have LP:∀{y},y <:+ W wd h++[c]->y≠[]->∀{q},nd y=Z q->∃i m,y=i++[c]/\i <:+ W wd h/\nd i=Z m/\m<wd.length/\W wd m <:+ W wd h/\(gW (S.wy.getD m []) c).isSome:=λ{y} d IK {q} O=>by
   obtain⟨i,rfl,Ly⟩:=zK d IK;obtain⟨m,E,m2⟩:=H.OO A (λz=>nomatch z) Ly;exact⟨i,m,rfl,Ly,E,H.lt E,m2,by rw[H.wy E c,O];rfl⟩
  unfold hb;rw[hg,Zp (by simp),e1];cases o' with
  |none =>
   have w:=k3 Y;have none_:∀{y},y <:+ W wd h++[c]->y≠[]->nd y=L:=λ{y} d IK=>by
    cases e:nd y with
    |none=>rfl
    |some q =>
     obtain⟨i,m,_,_,_,m3,m4,D⟩:=LP d IK e;rw[w m m3 m4]at D;cases D
   have H3:=v.fix (f:=wd.length) (m:=0) (by lia) (by lia) (by rw[v.wz];exact YE) (by rw[v.wz,X,lw];exact X8 _) (λy d g=>by
    rw[X]at d;rw[v.wz]at g;exact gA (none_ d (λe=>by rw[e]at g;cases g)) d)
   have eS:(⟨o.lg,o.lk.set wd.length (Z 0),o.wy⟩:St)=o:=by
    have g:wd.length<o.lk.length:=by rw[v.wf.lk,← v.len,dZ];exact Yz _
    have:o.lk.set wd.length (Z 0)=o.lk:=by
     rw[Zs,Zr g,Y1]at k0;rw[← k0];exact XI g
    rw[this]
   rw[eS]at H3;refine⟨o,S.lg.length,_,_,rfl,H3,by rw[dZ,G];exact Yz _,by rw[G];exact X,U,by lia,by lia,ex,⟨λ{x y m n} s j=>?_⟩⟩;rw[same s j];refine⟨λe=>⟨e,?_⟩,λe=>e.1⟩;have key:∀{x y m n},iJ nd (W wd h++[c]) wd.length x=Z m->iJ nd (W wd h++[c]) wd.length y=Z n->nd x=nd y->x <:+ W wd h++[c]->y <:+ W wd h++[c]:=λ{x y m n} s j e hx=>by
    rcases cX j with z | z
    ·rw[z]at e;by_cases SI:x=[]
     ·subst SI;rw[H.z]at e;cases e;rw[H.zero z];exact YE
     ·rw[none_ hx SI]at e;cases e
    ·exact z.2.2
   exact⟨key s j e,key j s e.symm⟩
  |some p =>
   obtain⟨C,N,p3,p4⟩:=k4 p Y;obtain⟨old,P⟩:=Yt.mp p3;have Vb:gW (o.wy.getD p []) c=Z old:=by rw[k2 p C p3];exact P
   have Sz:=H.way C P;have hold:=H.lt Sz;have ph:(W wd p).length<(W wd h).length:=by
    rcases Nat.lt_or_eq_of_le N.length_le with l | l
    ·exact l
    ·have:=H.inj C A (N.eq_of_length l);rw[this,hg]at P;cases P
   obtain⟨S3,r,u,He,f1,H3,f2,f2',Q,f4,f5,f6,f7,f8,f9⟩:=v.N0 (n:=p) (c:=c) (old:=old) (by lia) (λz=>by have:=Zn z;lia) hc Vb (λz=>by have:=Zn z;lia) (λz=>by have:=Zn z;lia) (by rw[U p C];lia);rw[U p C]at Q f8;have Qx:(W wd p++[c]).length=(W wd p).length+1:=by rw[Zv];rfl
   have Pm:W He wd.length=W wd h++[c]:=by rw[f4 _ (by lia),X]
   have none_:∀{y},y <:+ W wd h++[c]->(W wd p).length+1<y.length->nd y=L:=λ{y} d g=>by
    cases e:nd y with
    |none=>rfl
    |some q =>
     obtain⟨i,m,rfl,E,m2,m3,m4,D⟩:=LP d (λe=>by rw[e]at g;cases g) e;have l1:=(H.sf m2).length_le;rw[Zv,Zc]at g;rw[p4 m m3 m4 (by lia)]at D;cases D
   have H4:=H3.fix (f:=wd.length) (m:=r) (by lia) f2 (by rw[Q,Pm];exact ik c N) (by rw[Q,Pm,Qx,lw];exact Nat.succ_lt_succ ph) (λy d g=>by
    rw[Pm]at d;rw[Q,Qx]at g;exact f9 y wd.length (by exact X9 hold) (gA (none_ d g) d))
   refine⟨⟨S3.lg,S3.lk.set S.lg.length (Z r),S3.wy⟩,S.lg.length,u,He,?_,by rw[G];exact H4,by rw[G];lia,by rw[G];exact Pm,λm hm=>by rw[f4 m (by lia),U m hm],by lia,by lia,λx=>(f7 x).trans (ex x),⟨λ{x y m n} s j=>?_⟩⟩
   ·show (Lq o p c).map _=_;rw[f1];rfl
   ·rw[f8.eq s j];obtain⟨E,M⟩:=(f7 x).mp ⟨m,s⟩;obtain⟨n1,J⟩:=(f7 y).mp ⟨n,j⟩;have e1:iJ nd (W wd h++[c]) wd.length x=iJ nd (W wd h++[c]) wd.length y↔nd x=nd y:=by
     rw[M,J];exact⟨λe=>(same M J).mp (Zn e),λe=>by rw[(same M J).mpr e]⟩
    rw[e1];have sw:W wd p++[c] <:+ W wd h++[c]:=ik c N;have w:∀{z q},nd z=Z q->(z <:+ W wd h++[c]↔z <:+ W wd p++[c]):=λ{z q} F=>⟨λa=>cz a sw (by
     rw[Qx];refine ZQ λb=>?_;rw[none_ a b]at F;cases F),λa=>a.trans sw⟩
    have un:∀{z q},nd z=L->iJ nd (W wd h++[c]) wd.length z=Z q->z <:+ W wd h++[c]/\¬z <:+ W wd p++[c]:=λ{z q} F a=>by
     rcases cX a with b | b
     ·rw[F]at b;cases b
     ·refine⟨b.2.2,λa=>?_⟩;obtain⟨q',O⟩:=H.Lm Sz a;rw[F]at O;cases O
    refine⟨λ⟨a,b⟩=>⟨a,?_⟩,λ⟨a,b⟩=>⟨a,?_⟩⟩
    ·cases t:nd x with
     |some q=>rw[w t,w (show nd y=Z q by rw[← a,t])];exact b
     |none =>
      have u1:=un t M;have u2:=un (show nd y=L by rw[← a,t]) J;exact⟨λ_=>u2.1,λ_=>u1.1⟩
    ·cases t:nd x with
     |some q=>rw[← w t,← w (show nd y=Z q by rw[← a,t])];exact b
     |none =>
      have u1:=un t M;have u2:=un (show nd y=L by rw[← a,t]) J;exact⟨λz=>absurd z u1.2,λz=>absurd z u2.2⟩
end
structure K(P:Wd->Prop)(S:St)(nd:Wd->Option Nat)(wd:List Wd):Prop where
 i:I none S nd wd
 nil:P []
 some:∀x,(∃m,nd x=some m) ↔ ∃p,P p/\x <:+ p
 eq:∀{x y m n},nd x=.some m->nd y=.some n->(m=n ↔ ∀p,P p->(x <:+ p↔y <:+ p))
def K.congr{P Q:Wd->Prop}{S:St}{b:Wd->Option Nat}{a:List Wd}(H:K P S b a)(h:∀p,P p↔Q p):K Q S b a:=by
 have:P=Q:=funext λp=>propext (h p);rw[← this];exact H
def Qv(x:Wd):Option Nat:=if x=[] then Z 0 else L
def fZ{x:Wd}{n:Nat}(h:Qv x=Z n):x=[]/\n=0:=by
 unfold Qv at h;split at h
 ·exact⟨by assumption,(Zn h).symm⟩
 ·cases h
def K0:K (λp=>p=[]) S0 Qv [[]]:=by
 refine⟨⟨BS,rfl,λn d=>?_,rfl,rfl,λ{x n} h=>?_,λ{x n} h=>?_,λ{n} d=>?_,λ{x y n} h b a=>?_,λ{x c n} h=>?_,λ{x y n} h b=>?_,rfl,λ{n} b a=>?_,λ{x n} h c=>?_⟩,rfl,λx=>?_,λ{x y m n} b a=>?_⟩
 ·have:n=0:=Nat.lt_one_iff.mp d;subst this;rfl
 ·rw[(fZ h).2];exact Nat.one_pos
 ·rw[(fZ h).1];exact YE
 ·have:n=0:=Nat.lt_one_iff.mp d;subst this;rfl
 ·have e:=(fZ h).2;subst e;have:y=[]:=YS.mp a;subst this;rfl
 ·have:=(fZ h).1;exact absurd this (by simp)
 ·have e:=(fZ h).1;subst e;have:x=[]:=YS.mp b;subst this;exact⟨0,rfl⟩
 ·have:n<1:=a;lia
 ·have e:=fZ h;obtain⟨rfl,rfl⟩:=e;rfl
 ·constructor
  ·rintro⟨m,h⟩;exact⟨[],rfl,by rw[(fZ h).1];exact YE⟩
  ·rintro⟨p,rfl,h⟩;have:x=[]:=YS.mp h;subst this;exact⟨0,rfl⟩
 ·obtain⟨rfl,rfl⟩:=fZ b;obtain⟨rfl,rfl⟩:=fZ a;exact⟨λ_ _ _=>Iff.rfl,λ_=>rfl⟩
section
variable{P:Wd->Prop}{S:St}{nd:Wd->Option Nat}{wd:List Wd}
theorem K.step(H:K P S nd wd){h c:Nat}(w:h<wd.length)(A:97<=c/\c<=122)(v:(W wd h).length+1<1000) :
  ∃g r j He,hb S h c=.some (g,r)/\K (λp=>P p\/p=W wd h++[c]) g j He/\r<He.length/\W He r=W wd h++[c]/\(∀m,m<wd.length->W He m=W wd m)/\wd.length<=He.length/\He.length<=wd.length+2:=by
 obtain⟨g,r,j,He,e,M,J,G,F,E,D,t,C⟩:=H.i.step w A v;refine⟨g,r,j,He,e,⟨M,.inl H.nil,λx=>?_,λ{x y m n} s o=>?_⟩,J,G,F,E,D⟩
 ·rw[t,H.some];constructor
  ·rintro (⟨p,a,b⟩ | a)
   ·exact⟨p,.inl a,b⟩
   ·exact⟨_,.inr Y,a⟩
  ·rintro⟨p,a | rfl,b⟩
   ·exact .inl ⟨p,a,b⟩
   ·exact .inr b
 ·rw[C.eq s o];have un:∀{z q},j z=.some q->nd z=L->z <:+ W wd h++[c]/\∀p,P p->¬z <:+ p:=λ{z q} a b=>⟨((t z).mp ⟨q,a⟩).elim (λ⟨m,x⟩=>by rw[b]at x;cases x) id,λp d u=>by
   obtain⟨m,x⟩:=(H.some z).mpr ⟨p,d,u⟩;rw[b]at x;cases x⟩
  have old:nd x=nd y ↔ ∀p,P p->(x <:+ p↔y <:+ p):=by
   cases ex:nd x with
   |some a =>
    cases f:nd y with
    |some b=>exact⟨λe=>(H.eq ex f).mp (Zn e),λe=>by rw[(H.eq ex f).mpr e]⟩
    |none =>
     refine⟨λe=>(nomatch e),λe=>?_⟩;obtain⟨p,d,l⟩:=(H.some x).mp ⟨a,ex⟩;exact absurd ((e p d).mp l) ((un o f).2 p d)
   |none =>
    cases f:nd y with
    |some b =>
     refine⟨λe=>(nomatch e),λe=>?_⟩;obtain⟨p,d,l⟩:=(H.some y).mp ⟨b,f⟩;exact absurd ((e p d).mpr l) ((un s ex).2 p d)
    |none=>exact⟨λ_ p d=>⟨λz=>absurd z ((un s ex).2 p d),λz=>absurd z ((un o f).2 p d)⟩,λ_=>rfl⟩
  rw[old];constructor
  ·rintro⟨a,b⟩ p (d | rfl)
   ·exact a p d
   ·exact b
  ·intro a;exact⟨λp d=>a p (.inl d),a _ (.inr Y)⟩
end
def K.grow:∀(w:Wc){P:Wd->Prop}{S:St}{nd:Wd->Option Nat}{b:List Wd}(H:K P S nd b){h:Nat},h<b.length->P (W b h)->(∀c∈w,97<=c/\c<=122)->(W b h).length+w.length<1000 →
  ∃n r E He,hg S h w=.some (n,r)/\K (λp=>P p\/∃v,v <+: w/\p=W b h++v) n E He/\r<He.length/\W He r=W b h++w/\(∀m,m<b.length->W He m=W b m)/\b.length<=He.length/\He.length<=b.length+2*w.length:=by
 intro w
 induction w with
 |nil =>
  intro P S nd b H h g f hw j;refine⟨S,h,nd,b,rfl,H.congr λp=>⟨.inl,?_⟩,g,(Zg _).symm,λ_ _=>rfl,Zm _,Zm _⟩;rintro (a | ⟨v,a,rfl⟩)
  ·exact a
  ·rw[List.prefix_nil.mp a,Zg];exact f
 |cons c w o =>
  intro P S nd b H h g f hw j;rw[Zl]at j;obtain⟨O,r1,Q,N,e1,G,y,e,x,l,M⟩:=H.step g (hw c Zt) (by lia);obtain⟨A,r2,C,D,e2,F,u,t,s,q,J⟩:=o G y (.inr e) (λd hd=>hw d (Zu _ hd)) (by rw[e,Zv,Zc];lia);refine⟨A,r2,C,D,?_,F.congr λp=>?_,u,?_,λm i=>by rw[s m (by exact ZR i l),x m i],by exact ZJ l q,by rw[Zl];lia⟩
  ·show (hb S h c).bind _=_;rw[e1];exact e2
  ·rw[e];constructor
   ·rintro ((a | rfl) | ⟨v,a,rfl⟩)
    ·exact .inl a
    ·exact .inr ⟨[c],XH.mpr ⟨rfl,List.nil_prefix⟩,rfl⟩
    ·exact .inr ⟨c :: v,XH.mpr ⟨rfl,a⟩,by rw[ZI];rfl⟩
   ·rintro (a | ⟨v,a,rfl⟩)
    ·exact .inl (.inl a)
    ·cases v with
     |nil=>rw[Zg];exact .inl (.inl f)
     |cons d v =>
      obtain⟨rfl,z⟩:=XH.mp a;exact .inr ⟨v,z,by rw[ZI];rfl⟩
  ·rw[t,e,ZI];rfl
def mB(S:St):List Wd->Option St
 |[]=>Z S
 |t :: b=>(hg S 0 t).bind λz=>mB z.1 b
def K.book:∀(b:List Wd){P:Wd->Prop}{S:St}{nd:Wd->Option Nat}{d:List Wd}(H:K P S nd d),(∀t∈b,∀c∈t,97<=c/\c<=122)->(∀t∈b,t.length<1000) →
  ∃j w He,mB S b=.some j/\K (λp=>P p\/∃t∈b,p <+: t) j w He/\d.length<=He.length/\He.length<=d.length+2*(b.map List.length).sum:=by
 intro b
 induction b with
 |nil =>
  intro P S nd d H _ _;refine⟨S,nd,d,rfl,H.congr λp=>⟨.inl,?_⟩,Zm _,Yk _ _⟩;rintro (a | ⟨t,f,_⟩)
  ·exact a
  ·cases f
 |cons t b l =>
  intro P S nd d H h g;have m:0<d.length:=H.i.lt H.i.z;obtain⟨J,r1,M,G,e1,y,F,E,D,o,C⟩:=H.grow t m (by rw[H.i.wz];exact H.nil) (h t Zt) (by rw[H.i.wz];have:=g t Zt;simpa using this);obtain⟨q,r,s,e2,x,n,A⟩:=l y (λt f=>h t (Zu _ f)) (λt f=>g t (Zu _ f));refine⟨q,r,s,?_,x.congr λp=>?_,by exact ZJ o n,by rw[Zo,YO];lia⟩
  ·show (hg S 0 t).bind _=_;rw[e1];exact e2
  ·rw[H.i.wz];constructor
   ·rintro ((a | ⟨v,a,rfl⟩) | ⟨u,e,a⟩)
    ·exact .inl a
    ·exact .inr ⟨t,Zt,a⟩
    ·exact .inr ⟨u,Zu _ e,a⟩
   ·rintro (a | ⟨u,e,a⟩)
    ·exact .inl (.inl a)
    ·rcases Zi.mp e with rfl | e
     ·exact .inl (.inr ⟨p,a,rfl⟩)
     ·exact .inr ⟨u,e,a⟩
def Hd(b:List Wd)(p:Wd):Prop:=p=[]\/∃t∈b,p <+: t
def K.of(b:List Wd)(f:∀t∈b,∀c∈t,97<=c/\c<=122)(d:∀t∈b,t.length<1000):∃S nd a,mB S0 b=.some S/\K (Hd b) S nd a/\a.length<=1+2*(b.map List.length).sum:=by
 obtain⟨S,nd,a,e,H,_,l⟩:=K0.book b f d;exact⟨S,nd,a,e,H,l⟩
def sk(w:List (Nat×Nat)):Wc:=(List.range' 97 26).filter λc=>(gW w c).isSome
def visit(w:List (Nat×Nat)):Wc->Wc->Wc
 |[],met=>met
 |c :: r,met=>visit w r (if (gW w c).getD 0∈met then met else met++[(gW w c).getD 0])
def JV(S:St):Nat->Wc->Nat->Option (Wc)
 |k,met,d=>if d<met.length then (match k with
  |0=>L
  |k+1=>JV S k (visit (S.wy.getD (met.getD d 0) []) (sk (S.wy.getD (met.getD d 0) [])) met) (d+1)) else Z met
def steps(S:St)(a:Wc)(n:Nat):List (Nat×Nat):=(sk (S.wy.getD n [])).map λc=>(c,a.idxOf ((gW (S.wy.getD n []) c).getD 0))
abbrev Row:=Nat×Nat×Option Nat×List (Nat×Nat)
def row(S:St)(a:Wc)(n:Nat):Row:=match S.lk.getD n L with
 |none=>(0,0,L,steps S a n)
 |some l=>(S.lg.getD l 0+1,S.lg.getD n 0,Z (a.idxOf l),steps S a n)
def tab(S:St)(a:Wc):List Row:=a.map (row S a)
section
variable{S T:St}{f:Nat->Nat}
def ny{w:List (Nat×Nat)}{c:Nat}(h:c∈sk w):∃m,gW w c=Z m:=Yt.mp (Xz.mp h).2
theorem nR{w:List (Nat×Nat)}{N:Nat}(hw:∀c m,gW w c=Z m->m<N):∀(r met:Wc),(∀c∈r,∃m,gW w c=Z m)->(∀x∈met,x<N)->∀x∈visit w r met,x<N
 |[],met,_,a=>a
 |c :: r,met,b,a=>by
  refine nR hw r _ (λd hd=>b d (Zu _ hd)) ?_;obtain⟨m,e⟩:=b c Zt;rw[e,Y1];split
  ·exact a
  ·intro x g;rcases ZY.mp g with h | h
   ·exact a x h
   ·rw[Zb.mp h];exact hw c m e
def getD_mem{l:Wc}{d:Nat}(h:d<l.length):l.getD d 0∈l:=by
 rw[Zs,Zr h];exact Yy h
end
theorem lq{w:List (Nat×Nat)}:∀(r met:Wc),∃l,visit w r met=met++l
 |[],met=>⟨[],(Zg _).symm⟩
 |c :: r,met=>by
  obtain⟨l,e⟩:=lq (w:=w) r (if (gW w c).getD 0∈met then met else met++[(gW w c).getD 0]);show ∃l,visit w r _=_;rw[e];split
  ·exact⟨l,rfl⟩
  ·exact⟨_,ZI _ _ _⟩
theorem nk{w:List (Nat×Nat)}:∀(r met:Wc),met.Nodup->(visit w r met).Nodup
 |[],met,h=>h
 |c :: r,met,h=>by
  refine nk (w:=w) r _ ?_;split
  ·exact h
  ·rename_i q;rw[ZP];refine⟨h,by simp,λa d b hb e=>q ?_⟩;rw[Zb.mp hb]at e;rw[← e];exact d
theorem oW{w:List (Nat×Nat)}:∀(r met:Wc),∀c∈r,(gW w c).getD 0∈visit w r met
 |d :: r,met,c,a=>by
  rcases Zi.mp a with rfl | a
  ·obtain⟨l,e⟩:=lq (w:=w) r (if (gW w c).getD 0∈met then met else met++[(gW w c).getD 0]);show _∈visit w r _;rw[e];refine Yi _ ?_;split
   ·assumption
   ·exact ZK _ Zt
  ·exact oW r _ c a
def zQ{w:List (Nat×Nat)}(d:∀p∈w,97<=p.1/\p.1<=122){c m:Nat}(h:gW w c=Z m):c∈sk w:=by
 refine Xz.mpr ⟨?_,by rw[h];rfl⟩;unfold gW at h;obtain⟨p,a,_⟩:=Zy.mp h;have e:=List.find?_some a;have:=d p (List.mem_of_find?_eq_some a);have b:p.1=c:=by simpa using e
 rw[b]at this;rw[List.mem_range'_1];lia
def Dr{S:St}(o:WF S):∀(k:Nat)(met:Wc)(d:Nat),met.Nodup->(∀x∈met,x<S.lg.length)->d<=met.length->S.lg.length<=k+d->(∀i,i<d->∀c m,gW (S.wy.getD (met.getD i 0) []) c=Z m->m∈met) →
  ∃l,JV S k met d=Z (met++l)/\(met++l).Nodup/\(∀x∈met++l,x<S.lg.length)/\∀n∈met++l,∀c m,gW (S.wy.getD n []) c=Z m->m∈met++l:=by
 intro k;have fin:∀(met:Wc)(d:Nat),¬d<met.length->d<=met.length->(∀i,i<d->∀c m,gW (S.wy.getD (met.getD i 0) []) c=Z m->m∈met)->∀n∈met,∀c m,gW (S.wy.getD n []) c=Z m->m∈met:=by
  intro met d f b h n t c m e;obtain⟨i,g,q⟩:=List.mem_iff_getElem.mp t;refine h i (by lia) c m ?_;have:met.getD i 0=n:=by rw[Zs,Zr g,q];rfl
  rw[this];exact e
 induction k with
 |zero =>
  intro met d nd lt hd u h;have z:met.length<=S.lg.length:=by
   have:=sub_len met (List.range S.lg.length) nd λx s=>YL.mpr (lt x s)
   rwa [ZC]at this
  have a:¬d<met.length:=by lia
  refine⟨[],?_,?_⟩
  ·unfold JV;rw[Zp a,Zg]
  ·rw[Zg];exact⟨nd,lt,fin met d a hd h⟩
 |succ k r =>
  intro met d nd lt hd u h;by_cases a:d<met.length
  ·obtain⟨p,e1⟩:=lq (w:=S.wy.getD (met.getD d 0) []) (sk (S.wy.getD (met.getD d 0) [])) met;obtain⟨l,e,f,b,j⟩:=r (visit (S.wy.getD (met.getD d 0) []) (sk (S.wy.getD (met.getD d 0) [])) met) (d+1) (nk _ _ nd) (nR (λc m e=>o.on _ c m e) _ _ (λc v=>ny v) lt) (by rw[e1,Zv];lia) (by lia) (λi g c m e=>by
    have y:(visit (S.wy.getD (met.getD d 0) []) (sk (S.wy.getD (met.getD d 0) [])) met).getD i 0=met.getD i 0:=by
     rw[e1,Zs,Zs,ZA (by lia)]
    rw[y]at e;by_cases q:i=d
    ·subst q;have:=oW (w:=S.wy.getD (met.getD i 0) []) (sk (S.wy.getD (met.getD i 0) [])) met c (zQ (o.NA _).2 e);rw[e]at this;exact this
    ·rw[e1];exact Yi _ (h i (by lia) c m e))
   rw[e1,ZI]at f b j;refine⟨p++l,?_,f,b,j⟩;unfold JV;rw[Zq a];show JV S k _ (d+1)=_;rw[e,e1,ZI]
  ·refine⟨[],?_,?_⟩
   ·unfold JV;rw[Zp a,Zg]
   ·rw[Zg];exact⟨nd,lt,fin met d a hd h⟩
def BL{α:Type}{p:List α->Prop}(h0:p [])(h1:∀l a,p l->p (l++[a]))(l:List α):p l:=by
 have:∀l:List α,p l.reverse:=by
  intro l
  induction l with
  |nil=>exact h0
  |cons a l ih=>rw[List.reverse_cons];exact h1 _ a ih
 rw[← YQ l];exact this _
def K.met{P:Wd->Prop}{S:St}{nd:Wd->Option Nat}{wd:List Wd}(H:K P S nd wd){k:Nat}(hk:wd.length<=k):∃l,JV S k [0] 0=Z (0 :: l)/\(0 :: l).Nodup/\(∀x,x∈0 :: l↔x<wd.length)/\(0 :: l).length=wd.length:=by
 have L:S.lg.length=wd.length:=H.i.len.symm;obtain⟨l,e,h1,h2,h3⟩:=Dr H.i.wf k [0] 0 (by simp) (λx hx=>by rw[Zb.mp hx];exact H.i.wf.pos) (Ym _) (by lia) (λi hi=>absurd hi (Y9 _));have h0:∀(x:Wd) n,nd x=Z n->n∈0 :: l:=by
  intro x
  induction x using BL with
  |h0=>intro n e;rw[H.i.z]at e;cases e;exact Zt
  |h1 x c ih =>
   intro n e;obtain⟨m,hm⟩:=H.i.pre e;exact h3 m (ih m hm) c n (by rw[H.i.wy hm];exact e)
 have hx:∀x,x∈0 :: l↔x<wd.length:=λx=>⟨λz=>by rw[← L];exact h2 x z,λz=>h0 _ x (H.i.top z)⟩
 refine⟨l,e,h1,hx,Xi ?_ ?_⟩
 ·have:=sub_len (0 :: l) (List.range wd.length) h1 λx z=>YL.mpr ((hx x).mp z)
  rwa [ZC]at this
 ·have:=sub_len (List.range wd.length) (0 :: l) List.nodup_range λx z=>(hx x).mpr (YL.mp z)
  rwa [ZC]at this
end AU
end
section
namespace T44
open VS AU
def Am(w:List (Nat×Nat))(c:Nat):c∈w.map (·.1)↔(gW w c).isSome=R:=by
 rw[← DI,Y3,Yq];exact⟨λ⟨p,b,a⟩=>⟨p,b,by rw[a];exact beq_self_eq_true c⟩,λ⟨p,b,a⟩=>⟨p,b,by simpa using a⟩⟩
def uO{w:List (Nat×Nat)}(a:(w.map (·.1)).Nodup)(b:∀p∈w,97<=p.1/\p.1<=122):(sk w).Perm (w.map (·.1)):=by
 refine(List.perm_ext_iff_of_nodup ?_ a).mpr λc=>?_
 ·exact List.Nodup.sublist List.filter_sublist List.nodup_range'
 ·rw[Am];constructor
  ·intro h;exact(Xz.mp h).2
  ·intro h;obtain⟨m,e⟩:=Yt.mp h;exact zQ b e
def xV{m:Md}{w:List (Nat×Nat)}(e:(w.map (·.1)).Nodup)(d:∀p∈w,97<=p.1/\p.1<=122):g6 [(m,G2 w)]=Z (.fr,.lst ((sk w).map λc=>T.str [c])):=by
 show ((strs? ((w.map λp=>(T.str [p.1],T.int (p.2:Int))).map (·.1))).bind _)=_;have e1:(w.map λp=>(T.str [p.1],T.int (p.2:Int))).map (·.1)=(w.map (·.1)).map λc=>T.str [c]:=by
  rw[Z0,Z0];rfl
 rw[e1,strs_map (λc=>[c]),Zx,Zq]
 ·have:(sk w).map (λc=>[c])=eX ((w.map (·.1)).map λc=>[c]):=by
   refine oV ((uO e d).map _) ?_;rw[Wv];refine List.Pairwise.imp ?_ (List.Pairwise.filter _ (List.pairwise_lt_range' (s:=97) (n:=26)));intro a b j h;rcases Xm.mp h with h | ⟨_,h⟩
   ·lia
   ·exact absurd h (List.not_lt_nil _)
  rw[← this,Z0];rfl
 ·refine⟨?_,Yw.mpr ?_⟩
  ·rw[Zw,← (uO e d).length_eq];have:(sk w).length<=(List.range' 97 26).length:=List.length_filter_le _ _;rw[Xc]at this;lia
  intro s f;obtain⟨c,i,rfl⟩:=Yq.mp f;obtain⟨p,g,rfl⟩:=Yq.mp i;have:=d p g;show (decide (1<=eY)&&(decide (p.1<1114112)&&R))=R;rw[decide_eq_true (show p.1<1114112 by lia)];rfl
def nE:Nat->Wc->List (T×T)
 |_,[]=>[]
 |k,n :: r=>(T.int (n:Int),T.int (k:Int)) :: nE (k+1) r
theorem x6:∀(met:Wc)(k:Nat),(nE k met).length=met.length
 |[],_=>rfl
 |_ :: r,k=>by rw[nE,Zl,Zl,x6 r]
theorem qw:∀(met:Wc)(k:Nat),(nE k met).map (·.1)=met.map λ(n:Nat)=>T.int (n:Int)
 |[],_=>rfl
 |_ :: r,k=>by rw[nE,Zo,Zo,qw r]
theorem xf:∀(met:Wc)(k n:Nat),nE k (met++[n])=nE k met++[(T.int (n:Int),T.int ((k+met.length:Nat):Int))]
 |[],k,n=>rfl
 |m :: r,k,n=>by
  rw[XR,nE,nE,xf r (k+1) n,Zl,XR];rw[show k+1+r.length=k+(r.length+1) by lia]
def GB(a b:Nat):eqT (.int (a:Int)) (.int (b:Int))=(a==b):=by
 simp only[eqT];by_cases h:a=b
 ·simp[h]
 ·have d:¬(a:Int)=(b:Int):=by lia
  rw[ZL.mpr h,ZL.mpr d]
theorem pQ:∀(met:Wc)(k n:Nat),fI (nE k met) (.int (n:Int))=if n∈met then Z (T.int ((k+met.idxOf n:Nat):Int)) else L
 |[],_,_=>rfl
 |m :: r,k,n=>by
  show ((((T.int (m:Int),T.int (k:Int)) :: nE (k+1) r).find? λp=>eqT p.1 (.int (n:Int))).map (·.2))=_;rw[Z9];simp only[GB];by_cases h:m=n
  ·subst h;simp[List.idxOf_cons]
  ·have hb:(m==n)=B:=ZL.mpr h;have a:=pQ r (k+1) n;unfold fI at a;simp only[hb];rw[a,List.idxOf_cons,hb];by_cases q:n∈r
   ·rw[Zq q,Zq (Zu _ q)];show Z (T.int ((k+1+r.idxOf n:Nat):Int))=Z (T.int ((k+(r.idxOf n+1):Nat):Int));rw[show k+1+r.idxOf n=k+(r.idxOf n+1) by lia]
   ·rw[Zp q,Zp (λz=>(Zi.mp z).elim (λe=>h e.symm) q)]
def Dv(a:Wc)(n:Nat)(h:n∉a):dput (nE 0 a) (.int (n:Int)) (.int (a.length:Int))=nE 0 (a++[n]):=by
 unfold dput;rw[Zp,xf]
 ·rw[Nat.zero_add]
 ·intro z;obtain⟨p,b,e⟩:=Y3.mp z;have:(fI (nE 0 a) (.int (n:Int))).isSome=R:=by
   unfold fI;rw[Yh,List.find?_isSome];exact⟨p,b,e⟩
  rw[pQ,Zp h]at this;cases this
def nT(met:Wc):T:=.dct 0 (nE 0 met)
def mT(met:Wc):T:=.lst (met.map λ(n:Nat)=>T.int (n:Int))
def B8{U:Env}{m k:Md}{met:Wc}{n:Nat}{a e:Ex}(h:a U=Z (m,nT met))(d:e U=Z (k,.int (n:Int))):e2 de e a U=Z (.fr,.bl (decide (n∉met))):=e2v d h (by
 show (match (if R=R then Z (Md.fr,T.bl (fI (nE 0 met) (.int (n:Int))).isSome) else L) with | some (_,.bl b)=>some (Md.fr,T.bl (!b)) | _=>none)=_;rw[Zq Y,pQ];by_cases q:n∈met
 ·rw[Zq q,ZZ (λz=>z q)];rfl
 ·rw[Zp q,decide_eq_true q];rfl)
section
variable{S:St}{w:List (Nat×Nat)}
theorem y0{d:Nat}{ob:W0}:∀(r met:Wc)(z:W0),(∀c∈r,∃m,gW w c=Z m)->met.length+r.length<16777216->∃a,forL (bL 5) bB (r.map λc=>T.str [c]) [ob,oc (nT met),oc (mT met),Q0 (d:Int),pc (G2 w),z]=Z (.nx [ob,oc (nT (visit w r met)),oc (mT (visit w r met)),Q0 (d:Int),pc (G2 w),a])
 |[],met,z,_,_=>⟨z,rfl⟩
 |c :: r,met,z,f,p=>by
  obtain⟨m,e⟩:=f c Zt;rw[Zl]at p;have hlen:(nE 0 met).length=met.length:=x6 met 0;by_cases q:m∈met
  ·obtain⟨a,b⟩:=y0 r met (Q1 ([c])) (λd hd=>f d (Zu _ hd)) (by lia);refine⟨a,?_⟩;have ev:visit w (c :: r) met=visit w r met:=by
    show visit w r (if (gW w c).getD 0∈met then met else met++[(gW w c).getD 0])=_;rw[e,Y1,Zq q]
   rw[ev,Zo];refine(fY (U1:=[ob,oc (nT met),oc (mT met),Q0 (d:Int),pc (G2 w),Q1 ([c])]) Y ?_).trans b;unfold bB;refine eO (m:=.fr) ?_ Y;refine(B8 (m:=.bo) (k:=.fr) (met:=met) (n:=m) Y (tK (m:=.pu) (n:=.fr) (c:=c) (w:=w) Y Y e)).trans ?_;rw[ZZ (λz=>z q)]
  ·obtain⟨a,b⟩:=y0 r (met++[m]) (Q1 ([c])) (λd hd=>f d (Zu _ hd)) (by rw[Zv,Zc];lia);refine⟨a,?_⟩;have ev:visit w (c :: r) met=visit w r (met++[m]):=by
    show visit w r (if (gW w c).getD 0∈met then met else met++[(gW w c).getD 0])=_;rw[e,Y1,Zp q]
   rw[ev,Zo];refine(fY (U1:=[ob,oc (nT met),oc (mT met),Q0 (d:Int),pc (G2 w),Q1 ([c])]) Y ?_).trans b;unfold bB;refine JA (m:=.fr) ?_ ?_
   ·refine(B8 (m:=.bo) (k:=.fr) (met:=met) (n:=m) Y (tK (m:=.pu) (n:=.fr) (c:=c) (w:=w) Y Y e)).trans ?_;rw[decide_eq_true q]
   ·have h:∀nn g:W0,e2 Iy (aa 4) (aa 5) [ob,nn,g,Q0 (d:Int),pc (G2 w),Q1 ([c])]=Z (.fr,.int (m:Int)):=λnn g=>tK (m:=.pu) (n:=.fr) (c:=c) (w:=w) Y Y e;have j:su 1 (e2 Iy (aa 4) (aa 5)) (eN bu (ab (aa 2) ah)) [ob,oc (nT met),oc (mT met),Q0 (d:Int),pc (G2 w),Q1 ([c])]=Z (.nx [ob,oc (nT (met++[m])),oc (mT met),Q0 (d:Int),pc (G2 w),Q1 ([c])]):=by
     have o:eN bu (ab (aa 2) ah) [ob,oc (nT met),oc (mT met),Q0 (d:Int),pc (G2 w),Q1 ([c])]=Z (.fr,.int (met.length:Int)):=iT (xv (x:=(.bo,mT met)) Y Y) (by
      show Z (Md.fr,T.int (((met.map λ(n:Nat)=>T.int (n:Int)).length:Nat):Int))=_;rw[Zw])
     unfold su;rw[o,Zx];show ((e2 Iy (aa 4) (aa 5) [ob,oc (nT met),oc (mT met),Q0 (d:Int),pc (G2 w),Q1 ([c])]).bind _)=_;rw[h,Zx];show (if R=R/\R=R/\(nE 0 met).length<eY then Z (Out.nx [ob,oc (.dct 0 (dput (nE 0 met) (.int (m:Int)) (.int (met.length:Int)))),oc (mT met),Q0 (d:Int),pc (G2 w),Q1 ([c])]) else L)=_;rw[Zq ⟨rfl,rfl,by rw[hlen];show met.length<16777216;lia⟩,Dv met m q];rfl
    refine sq j ?_;refine(lj (i:=2) (l:=met.map λ(n:Nat)=>T.int (n:Int)) (v:=.int (m:Int)) Y (h _ _) (by rw[Zw];lia)).trans ?_;rw[show (met.map λ(n:Nat)=>T.int (n:Int))++[.int (m:Int)]=(met++[m]).map λ(n:Nat)=>T.int (n:Int) from by rw[ZF];rfl];rfl
end
def tj(w:List (Nat×Nat)):(sk w).length<=26:=by
 refine ZJ (List.length_filter_le _ _) ?_;rw[Xc];exact Zm _
def Aq{S:St}{a:Wc}(b:a.Nodup)(d:∀x∈a,x<S.lg.length):a.length<=S.lg.length:=by
 have:=sub_len a (List.range S.lg.length) b λx e=>YL.mpr (d x e)
 rwa [ZC]at this
def Fe{S:St}(o:WF S)(H:S.lg.length<=100001):∀(k:Nat)(met:Wc)(d:Nat)(g:Wc),met.Nodup->(∀x∈met,x<S.lg.length)->JV S k met d=Z g->∀N,k<N->∀f a:W0,∃j C D,
  da (e2 oLt (aa 3) (eN bu (ab (aa 2) ah))) cj N [pc (GN S B),oc (nT met),oc (mT met),Q0 ((d:Nat):Int),f,a] =
   Z (.nx [pc (GN S B),oc (nT g),oc (mT g),pc j,C,D]):=by
 have cond:∀(met:Wc)(d:Nat)(f a:W0),e2 oLt (aa 3) (eN bu (ab (aa 2) ah)) [pc (GN S B),oc (nT met),oc (mT met),Q0 ((d:Nat):Int),f,a]=Z (.fr,.bl (decide (d<met.length))):=λmet d f a =>
  e2v (x:=(.fr,.int (d:Int))) Y (iT (v:=(.fr,.int (met.length:Int))) (xv (x:=(.bo,mT met)) Y Y) (by
   show Z (Md.fr,T.int (((met.map λ(n:Nat)=>T.int (n:Int)).length:Nat):Int))=_;rw[Zw])) (by
   show Z (Md.fr,T.bl (decide ((d:Int)<(met.length:Int))))=_;rw[show decide ((d:Int)<(met.length:Int))=decide (d<met.length) from decide_eq_decide.mpr (by lia)])
 intro k
 induction k with
 |zero =>
  intro met d g nd lt e N hN f a;obtain⟨N,rfl⟩:∃g,N=g+1:=⟨N-1,by lia⟩
  unfold JV at e;split at e
  ·cases e
  ·rename_i h;cases e;exact⟨_,f,a,ft (m:=.fr) ((cond _ _ _ _).trans (by rw[ZZ h]))⟩
 |succ k z =>
  intro met d g nd lt e N hN f a;obtain⟨N,rfl⟩:∃g,N=g+1:=⟨N-1,by lia⟩
  unfold JV at e;split at e
  ·rename_i h;have A:=lt _ (getD_mem h);have E:met.getD d 0<S.wy.length:=by rw[o.wy];exact A
   have G:=Aq nd lt;have F:=tj (S.wy.getD (met.getD d 0) []);obtain⟨p,u⟩:=y0 (w:=S.wy.getD (met.getD d 0) []) (d:=d) (ob:=pc (GN S B)) (sk (S.wy.getD (met.getD d 0) [])) met a (λc i=>ny i) (by lia);obtain⟨j,s,r,q⟩:=z _ (d+1) g (nk _ _ nd) (nR (λc m e=>o.on _ c m e) _ _ (λc i=>ny i) lt) e N (by exact Yn hN) (pc (G2 (S.wy.getD (met.getD d 0) []))) p;refine⟨j,s,r,(kY (m:=.fr) ((cond _ _ _ _).trans (by rw[decide_eq_true h])) ?_).trans q⟩;unfold cj;have ix:e2 aB (aa 2) (aa 3) [pc (GN S B),oc (nT met),oc (mT met),Q0 ((d:Nat):Int),f,a]=Z (.fr,.int ((met.getD d 0:Nat):Int)):=e2v (x:=(.bo,mT met)) (y:=(.fr,.int (d:Int))) Y Y (kb _ met d 0 h);have s1:aK 4 (e2 aB (aW 3 (aa 0)) (e2 aB (aa 2) (aa 3))) [pc (GN S B),oc (nT met),oc (mT met),Q0 ((d:Nat):Int),f,a]=Z (.nx [pc (GN S B),oc (nT met),oc (mT met),Q0 ((d:Nat):Int),pc (G2 (S.wy.getD (met.getD d 0) [])),a]) :=
    aJ (m:=.pu) (ng (S:=S) (b:=B) (m:=.pu) (n:=.fr) Y ix E) (by decide) (by decide:4<6)
   refine sq s1 ?_;have nw:=o.NA (met.getD d 0);refine sq ((fz (m:=.fr) (l:=(sk (S.wy.getD (met.getD d 0) [])).map λc=>T.str [c]) ?_ Y).trans u) ?_
   ·show (eN g6 (ab (aa 4) ah) _).bind D6=_;rw[iT (xv (x:=(.pu,G2 (S.wy.getD (met.getD d 0) []))) Y Y) (xV nw.1 nw.2)];rfl
   ·exact aJ (m:=.fr) (t:=.int (((d+1:Nat)):Int)) Y (by decide) (by decide:3<6)
  ·rename_i h;cases e;exact⟨_,f,a,ft (m:=.fr) ((cond _ _ _ _).trans (by rw[ZZ h]))⟩
def DA{S:St}(b:WF S)(h:S.lg.length<=100001){a:Wc}{k:Nat}(i:k<1000000)(e:JV S k [0] 0=Z a):aH [GN S B]=Z (.fr,nT a):=by
 obtain⟨j,f,d,q⟩:=Fe b h k [0] 0 a (by simp) (λx g=>by rw[Zb.mp g];exact b.pos) e t5 (by show k<1000000;exact i) L L;refine eQ (U:=[pc (GN S B),L,pc (mT a),pc j,f,d]) Y ?_;exact sq Y (sq Y (sq Y (sq q (sq Y Y))))
def JD(l:List (Nat×Nat)):T:=.tup (l.map λp=>T.tup [.str [p.1],.int (p.2:Int)])
def l9(r:Row):T:=.tup [.int (r.1:Int),.int (r.2.1:Int),G7 r.2.2.1,JD r.2.2.2]
theorem vQ:∀l:List (Nat×Nat),d6 (l.map λp=>T.tup [.str [p.1],.int (p.2:Int)])=R
 |[]=>rfl
 |p :: l=>by
  rw[Zo];show (R&&d6 _)=R;rw[vQ l];rfl
def nG(l:List (Nat×Nat)):GR (JD l)=R:=vQ l
def vE(r:Row):GR (l9 r)=R:=by
 show (R&&(R&&(GR (G7 r.2.2.1)&&(GR (JD r.2.2.2)&&R))))=R;rw[lh,nG];rfl
def Ew{a b c d:Ex}{U:Env}{x y z w:T}(h:a U=Z (.fr,x))(g:b U=Z (.fr,y))(f:c U=Z (.fr,z))(e:d U=Z (.fr,w)):mR (ab a (ab b (ab c (ab d ah)))) U=Z (.fr,.tup [x,y,z,w]):=by
 show (ab a (ab b (ab c (ab d ah))) U).bind sL=_;rw[xv h (xv g (xv f (xv (r:=ah) e Y))),Zx];show Z (up .fr _)=_;unfold up;split<;>rfl
def CK{S:St}(d:WF S){a:Wc}(o:∀x,x<S.lg.length->x∈a){n:Nat}(g:n<S.lg.length):bZ [GN S B,.int (n:Int),.dct 3 (nE 0 a)]=Z (.fr,l9 (row S a n)):=by
 have hw:n<S.wy.length:=by rw[d.wy];exact g
 have z:n<S.lk.length:=by rw[d.lk];exact g
 have nw:=d.NA n;have get:∀v,v<S.lg.length->fI (nE 0 a) (.int (v:Int))=Z (T.int ((a.idxOf v:Nat):Int)):=λv u=>by rw[pQ,Zq (o v u),Nat.zero_add]
 have s1:aK 3 (e2 aB (aW 2 (aa 0)) (aa 1)) [pc (GN S B),Q0 (n:Int),pc (.dct 3 (nE 0 a)),L,L,L]=Z (.nx [pc (GN S B),Q0 (n:Int),pc (.dct 3 (nE 0 a)),pc (G7 (S.lk.getD n L)),L,L]):=aJ (m:=.fr) (vB (S:=S) (b:=B) (m:=.pu) (n:=.fr) Y Y z) (by decide) (by decide:3<6);have f:aK 4 (e2 aB (aW 3 (aa 0)) (aa 1)) [pc (GN S B),Q0 (n:Int),pc (.dct 3 (nE 0 a)),pc (G7 (S.lk.getD n L)),L,L]=Z (.nx [pc (GN S B),Q0 (n:Int),pc (.dct 3 (nE 0 a)),pc (G7 (S.lk.getD n L)),pc (G2 (S.wy.getD n [])),L]):=aJ (m:=.pu) (ng (S:=S) (b:=B) (m:=.pu) (n:=.fr) Y Y hw) (by decide) (by decide:4<6);have C:eN ko (ab (gy 1 (bL 0) (hZ (eN g6 (ab (aa 4) ah))) L (mR (ab (aa 0) (ab (e2 pJ (aa 3) (e2 Iy (aa 5) (aa 0))) ah)))) ah) [pc (GN S B),Q0 (n:Int),pc (.dct 3 (nE 0 a)),pc (G7 (S.lk.getD n L)),pc (G2 (S.wy.getD n [])),L]=Z (.fr,JD (steps S a n)):=by
  have D:=gg (k:=1) (tg:=bL 0) (it:=hZ (eN g6 (ab (aa 4) ah))) (elt:=mR (ab (aa 0) (ab (e2 pJ (aa 3) (e2 Iy (aa 5) (aa 0))) ah))) (m:=.fr) (U:=[pc (GN S B),Q0 (n:Int),pc (.dct 3 (nE 0 a)),pc (G7 (S.lk.getD n L)),pc (G2 (S.wy.getD n [])),L]) (λc=>T.str [c]) (λc=>T.tup [.str [c],.int ((a.idxOf ((gW (S.wy.getD n []) c).getD 0):Nat):Int)]) (sk (S.wy.getD n [])) (by
   show (eN g6 (ab (aa 4) ah) _).bind D6=_;rw[iT (xv (x:=(.pu,G2 (S.wy.getD n []))) Y Y) (xV nw.1 nw.2)];rfl) Y (ZJ (tj _) (by decide)) (λc A=>by
   obtain⟨v,ev⟩:=ny A;refine⟨[Q1 ([c]),pc (GN S B),Q0 (n:Int),pc (.dct 3 (nE 0 a)),pc (G7 (S.lk.getD n L)),pc (G2 (S.wy.getD n [])),L],rfl,?_⟩;have s:e2 pJ (aa 3) (e2 Iy (aa 5) (aa 0)) [Q1 ([c]),pc (GN S B),Q0 (n:Int),pc (.dct 3 (nE 0 a)),pc (G7 (S.lk.getD n L)),pc (G2 (S.wy.getD n [])),L]=Z (.fr,.int ((a.idxOf v:Nat):Int)) :=
    e2v (x:=(.pu,.dct 3 (nE 0 a))) Y (tK (m:=.pu) (n:=.fr) (c:=c) (w:=S.wy.getD n []) Y Y ev) (by
     show (if R=R then (fI (nE 0 a) (.int (v:Int))).map (sub .pu) else L)=_;rw[Zq Y,get v (d.on n c v ev)];rfl)
   rw[ev,Y1];show (ab (aa 0) (ab (e2 pJ (aa 3) (e2 Iy (aa 5) (aa 0))) ah) _).bind sL=_;rw[xv (x:=(.fr,.str [c])) Y (xv (r:=ah) s Y)];rfl)
  refine iT (xv (r:=ah) D Y) ?_;show (if _<=eY then Z (up .fr (.tup _)) else L)=_;rw[Zq (by rw[Zw];exact ZJ (tj _) (by decide))];have:T.tup ((sk (S.wy.getD n [])).map λc=>T.tup [.str [c],.int ((a.idxOf ((gW (S.wy.getD n []) c).getD 0):Nat):Int)])=JD (steps S a n):=by
   unfold JD steps;rw[Z0];rfl
  rw[this];unfold up;rw[nG];rfl
 have e:=aJ (i:=5) C (by decide) (by decide:5<6);have p:∀U:Env,U[5]?=Z (pc (JD (steps S a n)))->aa 5 U=Z (.fr,JD (steps S a n)):=λU h=>by
  show (match U[5]? with | some (some (.pu t))=>some (up .pu t) | some (some (.ow t))=>some (.bo,t) | _=>none)=_;rw[h];show Z (up .pu _)=_;unfold up;rw[nG];rfl
 unfold row;cases j:S.lk.getD n L with
 |none =>
  rw[j]at s1 f e;refine eQ (v:=(.fr,l9 (0,0,L,steps S a n))) (U:=[pc (GN S B),Q0 (n:Int),pc (.dct 3 (nE 0 a)),pc (G7 L),pc (G2 (S.wy.getD n [])),pc (JD (steps S a n))]) Y ?_;refine sq s1 (sq f (sq e (fW (JA (m:=.fr) Y (fL (Ew Y Y Y (p _ Y)))))))
 |some l =>
  rw[j]at s1 f e;have q:=d.up n l j;refine eQ (v:=(.fr,l9 (S.lg.getD l 0+1,S.lg.getD n 0,Z (a.idxOf l),steps S a n))) (U:=[pc (GN S B),Q0 (n:Int),pc (.dct 3 (nE 0 a)),pc (G7 (Z l)),pc (G2 (S.wy.getD n [])),pc (JD (steps S a n))]) Y ?_;refine sq s1 (sq f (sq e (sq (eO (m:=.fr) Y Y) (fL (Ew ?_ ?_ ?_ (p _ Y))))))
  ·exact e2v (sZ (S:=S) (b:=B) (m:=.pu) (n:=.fr) (i:=l) Y Y q) Y Y
  ·exact sZ (S:=S) (b:=B) (m:=.pu) (n:=.fr) (i:=n) Y Y g
  ·exact e2v (x:=(.pu,.dct 3 (nE 0 a))) (y:=(.fr,.int (l:Int))) Y Y (by
    show (if R=R then (fI (nE 0 a) (.int (l:Int))).map (sub .pu) else L)=_;rw[Zq Y,get l q];rfl)
def G3(t:List Row):T:=.lst (t.map l9)
def Cv{S:St}(d:WF S)(h:S.lg.length<=100001){a:Wc}{k:Nat}(o:k<1000000)(e:JV S k [0] 0=Z a)(b:∀x,x∈a↔x<S.lg.length)(l:a.length<=16777216):dJ [GN S B]=Z (.fr,G3 (tab S a)):=by
 have f:=DA d h o e;refine eQ (U:=[pc (GN S B),L]) Y ?_;have s1:j5 1 (dU 0 aH (aa 0) ah) [pc (GN S B),L]=Z (.nx [pc (GN S B),oc (nT a)]):=by
  show (dU 0 aH (aa 0) ah [pc (GN S B),L]).bind _=_;have:dU 0 aH (aa 0) ah [pc (GN S B),L]=Z (.fr,nT a):=by
   show ((aH [GN S B]).bind _)=_;rw[f];rfl
  rw[this];rfl
 refine sq s1 ?_;have q:=gg (k:=1) (tg:=bL 0) (it:=rE 1) (elt:=dU 0 bZ (aa 1) (ab (aa 0) (ab (aa 2) ah))) (m:=.fr) (U:=[pc (GN S B),pc (.dct 3 (nE 0 a))]) (λ(n:Nat)=>T.int (n:Int)) (λn=>l9 (row S a n)) a (by
  show (if ((nE 0 a).all λp=>isInt p.1)=R then Z (Md.fr,(nE 0 a).map (·.1)) else L)=_;rw[Zq,qw];rw[Yw];intro p i;have:p.1∈(nE 0 a).map (·.1):=List.mem_map_of_mem i;rw[qw]at this;obtain⟨n,_,e⟩:=Yq.mp this;rw[← e];rfl) Y l (λn j=>by
  refine⟨[Q0 (n:Int),pc (GN S B),pc (.dct 3 (nE 0 a))],rfl,?_⟩;show ((bZ [GN S B,.int (n:Int),.dct 3 (nE 0 a)]).bind _)=_;rw[CK d (λx g=>(b x).mpr g) ((b n).mp j)];rfl)
 show ((gy 1 (bL 0) (rE 1) L (dU 0 bZ (aa 1) (ab (aa 0) (ab (aa 2) ah))) [pc (GN S B),pc (.dct 3 (nE 0 a))]).bind _)=_;rw[q];unfold G3 tab;rw[Z0];rfl
def Kq(a:List Tx)(b:Wc)(S:St):sO:=[(4,.lst (a.map .str)),(5,.lst (b.map λ(n:Nat)=>T.int (n:Int))),(6,GN S B)]
def GY(a:List Tx)(d:Wc)(S:St)(b:Bool):T:=.obj 2 ((0,.bl b) :: Kq a d S)
def A5(S:St):eJ (GN S B)=R:=by
 show ((R && !(0==0&&B))&&dE (Jr S))=R;rw[kz];rfl
def jx(a:List Tx)(b:Wc)(S:St):dE (Kq a b S)=R:=by
 have e:eJ (.lst (a.map T.str))=R:=dY _ (λ_=>rfl) _;have d:eJ (.lst (b.map λ(n:Nat)=>T.int (n:Int)))=R:=dY _ (λ_=>rfl) _;show ((eJ _ && !(4==0&&Lv _))&&((eJ _ && !(5==0&&Lv _))&&((eJ _ && !(6==0&&Lv _))&&R)))=R;rw[e,d,A5];rfl
def Ad(a:List Tx)(d:Wc)(S:St)(b:Bool):qK 4 (GY a d S b)=Z (.lst (a.map .str)):=rfl
def Gw(d:List Tx)(a:Wc)(S:St)(b:Bool):qK 5 (GY d a S b)=Z (.lst (a.map λ(n:Nat)=>T.int (n:Int))):=rfl
def Gr(a:List Tx)(d:Wc)(S:St)(b:Bool):qK 6 (GY a d S b)=Z (GN S B):=rfl
section
variable{tx:List Tx}{hd:Wc}{S S':St}{b:Bool}{r:List (W0)}
def zy{a:Ex}{U:Env}{m:Md}(h:a U=Z (m,GY tx hd S b)):eN bu (ab (aW 4 a) ah) U=Z (.fr,.int (tx.length:Nat)):=iT (xv (g7 h (Ad tx hd S b)) Y) (by
 show Z (Md.fr,T.int (((tx.map T.str).length:Nat):Int))=_;rw[Zw])
def Dw{e:Ex}{v:Tx}(h:e (oc (GY tx hd S b) :: r)=Z (.fr,.str v))(f:tx.length<16777216):sX (iM 0 [.fld 4] aF (ab e ah)) (oc (GY tx hd S b) :: r)=Z (.nx (oc (GY (tx++[v]) hd S b) :: r)):=by
 show (((Z [Ky.fld 4]).bind λd=>(ab e ah (oc (GY tx hd S b) :: r)).bind λa=>(pm (λx=>aF x a) d (GY tx hd S b)).map _).map _)=_;rw[Zx,xv (r:=ah) h Y,Zx];show (((aF (.lst (tx.map T.str)) [(.fr,.str v)]).map _).map _ |>.map _)=_;rw[eV (by rw[Zw];exact f),show (tx.map T.str)++[.str v]=(tx++[v]).map T.str from by rw[ZF];rfl];rfl
def Ek{e:Ex}{v:Nat}(h:e (oc (GY tx hd S b) :: r)=Z (.fr,.int (v:Int)))(f:hd.length<16777216):sX (iM 0 [.fld 5] aF (ab e ah)) (oc (GY tx hd S b) :: r)=Z (.nx (oc (GY tx (hd++[v]) S b) :: r)):=by
 show (((Z [Ky.fld 5]).bind λd=>(ab e ah (oc (GY tx hd S b) :: r)).bind λa=>(pm (λx=>aF x a) d (GY tx hd S b)).map _).map _)=_;rw[Zx,xv (r:=ah) h Y,Zx];show (((aF (.lst (hd.map λ(n:Nat)=>T.int (n:Int))) [(.fr,.int (v:Int))]).map _).map _ |>.map _)=_;rw[eV (by rw[Zw];exact f),show (hd.map λ(n:Nat)=>T.int (n:Int))++[.int (v:Int)]=(hd++[v]).map λ(n:Nat)=>T.int (n:Int) from by rw[ZF];rfl];rfl
def yd(h:tx.length<8)(i:hd.length=tx.length):bC (Kq tx hd S) []=Z (Kq (tx++[[]]) (hd++[0]) S,.int (tx.length:Int)):=by
 unfold bC Iz;rw[Zq ⟨rfl,rfl⟩];have a:e2 Mp (eN bu (ab (aW 4 (aa 0)) ah)) (Q2 8) [oc (GY tx hd S R)]=Z (.fr,.bl B):=e2v (zy (m:=.bo) Y) Y (by
  show Z (Md.fr,T.bl (decide ((8:Int)<=(tx.length:Int))))=_;rw[ZZ (by lia)])
 have g:=Dw (tx:=tx) (hd:=hd) (S:=S) (b:=R) (r:=[]) (e:=eC (.str [])) (v:=[]) Y (by lia);have f:=Ek (tx:=tx++[[]]) (hd:=hd) (S:=S) (b:=R) (r:=[]) (e:=Q2 0) (v:=0) Y (by lia);have d:=fL (e:=e2 oG (eN bu (ab (aW 4 (aa 0)) ah)) (Q2 1)) (U:=[oc (GY (tx++[[]]) (hd++[0]) S R)]) (t:=.int (tx.length:Int)) (e2v (zy (m:=.bo) Y) Y (by
  show Z (Md.fr,T.int ((((tx++[[]]).length:Nat):Int)-1))=_;rw[Zv,Zc,show (((tx.length+1:Nat)):Int)-1=(tx.length:Int) by lia]))
 exact congrArg (λz:Option Out=>z.bind _) (sq (eO a Y) (sq g (sq f d)))
def BW{l:W5}{i:Nat}(a:i<l.length):bf [.lst l,.int (i:Int)]=Z (.fr,.non):=by
 refine Fh (U:=[pc (.lst l),Q0 (i:Int)]) Y ?_;refine eO (m:=.fr) (sr (m:=.fr) (x:=B) ?_ (λ_=>?_) (λh=>by cases h)) rfl
 ·exact uj (m:=.fr) (b:=R) Y
 ·refine uj (m:=.fr) (b:=R) (qy (x:=(.fr,.int 0)) (y:=(.fr,.int (i:Int))) (z:=(.fr,.int (l.length:Int))) Y Y ?_ (iT (xv (x:=(.pu,.lst l)) Y Y) Y) ?_)
  ·show Z (Md.fr,T.bl (decide ((0:Int)<=(i:Int))))=_;rw[decide_eq_true (by lia)]
  ·show Z (Md.fr,T.bl (decide ((i:Int)<(l.length:Int))))=_;rw[decide_eq_true (by lia)]
def wV{i:Nat}(a:i<tx.length):bf [.lst (tx.map .str),.int (i:Int)]=Z (.fr,.non):=BW (by rw[Zw];exact a)
end
def bX(a:List Tx):Nat:=(a.map List.length).sum
theorem pM:∀a:List Tx,(a.map λt=>(t.length:Int)).sum=(bX a:Int)
 |[]=>rfl
 |t :: a=>by
  rw[Zo,YO,pM a];unfold bX;rw[Zo,YO];lia
def xQ(a:List Tx)(b:a.length<=16777216):gu [.lst (a.map .str)]=Z (.fr,.int (bX a:Int)):=by
 refine eQ (U:=[pc (.lst (a.map .str))]) Y ?_;refine fL (iT (xv (r:=ah) (gg (m:=.pu) T.str (λ(t:Tx)=>T.int (t.length:Int)) a Y Y b (λt d=>⟨[Q1 t,pc (.lst (a.map .str))],rfl,rfl⟩)) Y) ?_);show (l5 (a.map λ(t:Tx)=>T.int (t.length:Int))).bind _=_;rw[ints_map (λ(t:Tx)=>(t.length:Int)),Zx,pM]
section
variable{tx:List Tx}{hd:Wc}{S S':St}{b:Bool}
def DU{i v:Nat}{e ev:Ex}{n:Md}{r:List (W0)}(g:i<hd.length)(h:e (oc (GY tx hd S b) :: r)=Z (n,.int (i:Int)))(a:ev (oc (GY tx hd S b) :: r)=Z (.fr,.int (v:Int))) :
  dG 0 [.fld 5] e ev (oc (GY tx hd S b) :: r)=Z (.nx (oc (GY tx (hd.set i v) S b) :: r)):=by
 unfold dG;rw[a,Zx];show ((keys [.fld 5] (oc (GY tx hd S b) :: r)).bind _)=_;have f:keys [.fld 5] (oc (GY tx hd S b) :: r)=Z [.fld 5]:=rfl;rw[f,Zx,h,Zx];have d:pm (j3 (n,.int (i:Int)) (.fr,.int (v:Int))) [.fld 5] (GY tx hd S b)=Z (GY tx (hd.set i v) S b,()):=by
  show ((j3 (n,.int (i:Int)) (.fr,.int (v:Int)) (.lst (hd.map λ(n:Nat)=>T.int (n:Int)))).map _)=_;have:j3 (n,.int (i:Int)) (.fr,.int (v:Int)) (.lst (hd.map λ(n:Nat)=>T.int (n:Int)))=Z (.lst ((hd.set i v).map λ(n:Nat)=>T.int (n:Int)),()):=by
   show ((HI (hd.map λ(n:Nat)=>T.int (n:Int)).length (i:Int)).map _)=_;rw[Zw,v9 g,XQ];rfl
  rw[this];rfl
 rw[d];rfl
def CF{i:Nat}{v:Tx}{e a:Ex}{n:Md}{r:List (W0)}(h:i<tx.length)(j:e (oc (GY tx hd S b) :: r)=Z (n,.int (i:Int)))(d:a (oc (GY tx hd S b) :: r)=Z (.fr,.str v)) :
  dG 0 [.fld 4] e a (oc (GY tx hd S b) :: r)=Z (.nx (oc (GY (tx.set i v) hd S b) :: r)):=by
 unfold dG;rw[d,Zx];show ((keys [.fld 4] (oc (GY tx hd S b) :: r)).bind _)=_;have g:keys [.fld 4] (oc (GY tx hd S b) :: r)=Z [.fld 4]:=rfl;rw[g,Zx,j,Zx];have f:pm (j3 (n,.int (i:Int)) (.fr,.str v)) [.fld 4] (GY tx hd S b)=Z (GY (tx.set i v) hd S b,()):=by
  show ((j3 (n,.int (i:Int)) (.fr,.str v) (.lst (tx.map T.str))).map _)=_;have:j3 (n,.int (i:Int)) (.fr,.str v) (.lst (tx.map T.str))=Z (.lst ((tx.set i v).map T.str),()):=by
   show ((HI (tx.map T.str).length (i:Int)).map _)=_;rw[Zw,v9 h,XQ];rfl
  rw[this];rfl
 rw[f];rfl
def Bs{i r:Nat}{w:Tx}(W:WF S)(G:hd.length=tx.length)(a:i<tx.length)(H:tx.length<=8)(F:bX tx+w.length<=120)(q:S.lg.length+2*w.length<=100000)(p:hd.getD i 0<S.lg.length)(s:∀c∈w,97<=c/\c<=122)(E:(tx.getD i []).length<=120)(e:hg S (hd.getD i 0) w=Z (S',r)) :
  bA (Kq tx hd S) [.int (i:Int),.str w]=Z (Kq (tx.set i (tx.getD i []++w)) (hd.set i r) S',.non):=by
 obtain⟨D,C,A,g⟩:=Cf W q p s e;unfold bA Iz;rw[Zq ⟨rfl,rfl⟩];have s1:sX (xP (bh bf (ab (aW 4 (aa 0)) (ab (aa 1) ah)))) [oc (GY tx hd S R),Q0 (i:Int),Q1 w]=Z (.nx [oc (GY tx hd S R),Q0 (i:Int),Q1 w]):=by
  have:bh bf (ab (aW 4 (aa 0)) (ab (aa 1) ah)) [oc (GY tx hd S R),Q0 (i:Int),Q1 w]=Z (.fr,.non):=bw (xv (g7 (m:=.bo) (t:=GY tx hd S R) Y (Ad tx hd S R)) (xv (x:=(.fr,.int (i:Int))) Y Y)) (wV a);show (((bh bf _ _).map _).map _)=_;rw[this];rfl
 have u:e2 Jy (e2 ba (bh gu (ab (aW 4 (aa 0)) ah)) (eN bu (ab (aa 2) ah))) (Q2 120) [oc (GY tx hd S R),Q0 (i:Int),Q1 w]=Z (.fr,.bl B) :=
  e2v (x:=(.fr,.int ((bX tx:Int)+(w.length:Int)))) (e2v (bw (xv (r:=ah) (g7 (m:=.bo) (t:=GY tx hd S R) Y (Ad tx hd S R)) Y) (xQ tx (by lia))) (y:=(.fr,.int (w.length:Int))) Y Y) Y (by
   show Z (Md.fr,T.bl (decide ((120:Int)<(bX tx:Int)+(w.length:Int))))=_;rw[ZZ (by lia)])
 have f:bG 0 [.fld 6] 0 [B,B] aO (ab (e2 aB (aW 5 (aa 0)) (aa 1)) (ab (aa 2) ah)) [oc (GY tx hd S R),Q0 (i:Int),Q1 w]=Z ((.fr,.int (r:Int)),[oc (GY tx hd S' R),Q0 (i:Int),Q1 w]):=by
  show ((Z [Ky.fld 6]).bind λo=>(ab (e2 aB (aW 5 (aa 0)) (aa 1)) (ab (aa 2) ah) [oc (GY tx hd S R),Q0 (i:Int),Q1 w]).bind λd=>(pm (lQ 0 [B,B] aO d) o (GY tx hd S R)).map λz=>(z.2,[oc z.1,Q0 (i:Int),Q1 w]))=_;rw[Zx,xv (x:=(.fr,.int ((hd.getD i 0:Nat):Int))) (e2v (g7 (m:=.bo) (t:=GY tx hd S R) Y (Gw tx hd S R)) (y:=(.fr,.int (i:Int))) Y (kb _ hd i 0 (by lia))) (xv (r:=ah) (x:=(.fr,.str w)) Y Y),Zx];show (((if 1=0+1/\dE (Jr S)=R/\argsOk [B,B] [(Md.fr,T.int ((hd.getD i 0:Nat):Int)),(Md.fr,T.str w)]=R/\bc (trees [(Md.fr,T.int ((hd.getD i 0:Nat):Int)),(Md.fr,T.str w)])=R then (aO (Jr S) [.int ((hd.getD i 0:Nat):Int),.str w]).bind λz=>if dE z.1=R/\GR z.2=R then Z (T.obj 1 ((0,.bl B) :: z.1),(Md.fr,z.2)) else L else L).map _).map _)=_;rw[Zq ⟨rfl,kz S,rfl,rfl⟩,g,Zx,Zq ⟨kz S',rfl⟩];rfl
 have l:ji 0 [.fld 5] (aa 1) (bG 0 [.fld 6] 0 [B,B] aO (ab (e2 aB (aW 5 (aa 0)) (aa 1)) (ab (aa 2) ah))) [oc (GY tx hd S R),Q0 (i:Int),Q1 w]=Z (.nx [oc (GY tx (hd.set i r) S' R),Q0 (i:Int),Q1 w]):=by
  unfold ji;rw[f];exact DU (tx:=tx) (hd:=hd) (S:=S') (b:=R) (r:=[Q0 (i:Int),Q1 w]) (e:=aa 1) (ev:=λ_=>Z (.fr,.int (r:Int))) (i:=i) (v:=r) (n:=.fr) (by lia) Y Y
 have j:dG 0 [.fld 4] (aa 1) (e2 ba (e2 aB (aW 4 (aa 0)) (aa 1)) (aa 2)) [oc (GY tx (hd.set i r) S' R),Q0 (i:Int),Q1 w]=Z (.nx [oc (GY (tx.set i (tx.getD i []++w)) (hd.set i r) S' R),Q0 (i:Int),Q1 w]) :=
  CF (n:=.fr) a Y (e2v (g7 (m:=.bo) (t:=GY tx (hd.set i r) S' R) Y (Ad tx (hd.set i r) S' R) |> λh=>e2v h (y:=(.fr,.int (i:Int))) Y (kb T.str tx i [] a)) (y:=(.fr,.str w)) Y (jl (by lia)))
 exact congrArg (λz:Option Out=>z.bind _) (sq s1 (sq (eO u Y) (sq l j)))
end
def il{α:Type}(l:List α)(x d:α):(l++[x]).getD l.length d=x:=(b6 l x d l.length).trans (Zq Y)
def uT{α:Type}(l:List α)(x y:α):(l++[x]).set l.length y=l++[y]:=by
 rw[List.set_append_right _ _ (Zm _),Nat.sub_self];rfl
def rD(a b:List Tx):bX (a++b)=bX a+bX b:=by
 unfold bX;rw[ZF,List.sum_append]
def C8:∀(rest:List Tx){tx:List Tx}{hd:Wc}{S S':St}{B:T}{z:W0},WF S->hd.length=tx.length->tx.length+rest.length<=8->bX tx+bX rest<=120->S.lg.length+2*bX rest<=100000->(∀t∈rest,∀c∈t,97<=c/\c<=122)->mB S rest=Z S' →
  ∃j h,forL (bL 2) bE (rest.map .str) [oc (GY tx hd S R),pc B,z]=Z (.nx [oc (GY (tx++rest) j S' R),pc B,h]):=by
 intro rest
 induction rest with
 |nil =>
  intro tx hd S S' B z W a n l m f e;cases (show Z S=Z S' from e);exact⟨hd,z,by rw[Zg];rfl⟩
 |cons t rest s =>
  intro tx hd S S' B z W a n l m f e;obtain⟨⟨d,r⟩,e1,C⟩:=Zz.mp (show (hg S 0 t).bind _=Z S' from e);rw[Zl]at n;have A:bX (t :: rest)=t.length+bX rest:=by unfold bX;rw[Zo,YO]
  rw[A]at l m;have y:hg S ((hd++[0]).getD tx.length 0) t=Z (d,r):=by rw[← a,il];exact e1
  have o:=Cf W (by lia) W.pos (f t Zt) e1;have g:=Bs (tx:=tx++[[]]) (hd:=hd++[0]) (S:=S) (S':=d) (i:=tx.length) (r:=r) (w:=t) W (by rw[Zv,Zv,a];rfl) (by rw[Zv];exact Yz _) (by rw[Zv];show tx.length+1<=8;lia) (by rw[rD];show bX tx+0+t.length<=120;lia) (by lia) (by rw[← a,il];exact W.pos) (f t Zt) (by rw[il];exact Ym _) y;rw[il,uT,Yc]at g;have x:(hd++[0]).set tx.length r=hd++[r]:=by rw[← a];exact uT hd 0 r
  rw[x]at g;have b:=yd (tx:=tx) (hd:=hd) (S:=S) (by lia) a;obtain⟨j,h,q⟩:=s (tx:=tx++[t]) (hd:=hd++[r]) (S:=d) (S':=S') (B:=B) (z:=Q1 t) o.1 (by rw[Zv,Zv,a];rfl) (by rw[Zv,Zc];lia) (by rw[rD];show bX tx+(t.length+0)+bX rest<=120;lia) (by have:=o.2.2.1;lia) (λu v=>f u (Zu _ v)) C;refine⟨j,h,?_⟩;rw[Zo];refine(fY (U1:=[oc (GY tx hd S R),pc B,Q1 t]) Y ?_).trans (q.trans (by rw[ZI];rfl));have p:bG 0 [] 1 [] bC ah [oc (GY tx hd S R),pc B,Q1 t]=Z ((.fr,.int (tx.length:Int)),[oc (GY (tx++[[]]) (hd++[0]) S R),pc B,Q1 t]):=by
   show (((if 2=1+1/\dE (Kq tx hd S)=R/\argsOk [] []=R/\bc (trees [])=R then (bC (Kq tx hd S) (trees [])).bind λz=>if dE z.1=R/\GR z.2=R then Z (T.obj 2 ((0,.bl R) :: z.1),(Md.fr,z.2)) else L else L).map _))=_;rw[Zq ⟨rfl,jx tx hd S,rfl,rfl⟩,show trees []=[] from rfl,b,Zx,Zq ⟨jx _ _ _,rfl⟩];rfl
  have x2:o9 0 1 [false,false] bA (bG 0 [] 1 [] bC ah) (ab (aa 2) ah) [oc (GY tx hd S R),pc B,Q1 t]=Z ((.fr,.non),[oc (GY (tx++[t]) (hd++[r]) d R),pc B,Q1 t]):=by
   unfold o9;rw[Zq (show Dn 1 [oc (GY tx hd S R),pc B,pc (T.str t)][0]?=R from rfl),p,Zx,Zq (show GR (T.int (tx.length:Int))=R from rfl)];have ct:lQ 1 [false,false] bA [(Md.fr,T.int (tx.length:Int)),(Md.fr,T.str t)] (GY (tx++[[]]) (hd++[0]) S R)=Z (GY (tx++[t]) (hd++[r]) d R,(Md.fr,T.non)):=by
    show (if 2=1+1/\dE (Kq (tx++[[]]) (hd++[0]) S)=R/\argsOk [false,false] [(Md.fr,T.int (tx.length:Int)),(Md.fr,T.str t)]=R/\bc (trees [(Md.fr,T.int (tx.length:Int)),(Md.fr,T.str t)])=R then (bA (Kq (tx++[[]]) (hd++[0]) S) (trees [(Md.fr,T.int (tx.length:Int)),(Md.fr,T.str t)])).bind λz=>if dE z.1=R/\GR z.2=R then Z (T.obj 2 ((0,.bl R) :: z.1),(Md.fr,z.2)) else L else L)=_;rw[Zq ⟨rfl,jx _ _ _,rfl,rfl⟩,show trees [(Md.fr,T.int (tx.length:Int)),(Md.fr,T.str t)]=[T.int (tx.length:Int),T.str t] from rfl,g,Zx,Zq ⟨jx _ _ _,rfl⟩];rfl
   show ((lQ 1 [false,false] bA [(Md.fr,T.int (tx.length:Int)),(Md.fr,T.str t)] (GY (tx++[[]]) (hd++[0]) S R)).map _)=_;rw[ct];rfl
  unfold bE NG;rw[x2];rfl
structure Ib(bk:List Tx):Prop where
 IQ:bk.length<=8
 sum:bX bk<=120
 az:∀t∈bk,∀c∈t,97<=c/\c<=122
theorem Ib.Ll{t:Tx}:∀{l:List Tx},t∈l->t.length<=bX l
 |a :: l,h=>by
  have e:bX (a :: l)=a.length+bX l:=by unfold bX;rw[Zo,YO]
  rw[e];rcases Zi.mp h with rfl | h
  ·exact Yk _ _
  ·have:=Ib.Ll h;lia
def Ib.len{a:List Tx}(h:Ib a):∀t∈a,t.length<1000:=λt b=>X0 (Ib.Ll b) (X0 h.sum (by decide))
def aZ(a:List Tx):St:=(mB S0 a).getD S0
def bq(a:List Tx):Wc:=(JV (aZ a) 1000 [0] 0).getD []
def tabOf(a:List Tx):List Row:=tab (aZ a) (bq a)
theorem Ib.k{a:List Tx}(h:Ib a):mB S0 a=Z (aZ a)/\∃nd b,K (Hd a) (aZ a) nd b/\b.length<=241/\JV (aZ a) 1000 [0] 0=Z (bq a)/\(∀x,x∈bq a↔x<(aZ a).lg.length)/\(bq a).length=b.length/\(bq a).idxOf 0=0:=by
 obtain⟨S,nd,b,e,H,l⟩:=K.of a h.az h.len;have d:aZ a=S:=by unfold aZ;rw[e];rfl
 rw[d];have f:b.length<=241:=by
  have:=h.sum;unfold bX at this;lia
 obtain⟨m,e2,_,j,g⟩:=H.met (k:=1000) (by lia);have eM:bq a=0 :: m:=by unfold bq;rw[d,e2];rfl
 rw[eM];exact⟨e,nd,b,H,f,e2,λx=>by rw[j,H.i.len],g,List.idxOf_cons_self⟩
def DB{d:List Tx}(h:Ib d):∃hd,ar [] [.lst (d.map .str)]=Z (Kq d hd (aZ d),.non):=by
 obtain⟨e,_⟩:=h.k;have g:=h.sum;obtain⟨hd,z,q⟩:=C8 d (tx:=[]) (hd:=[]) (S:=S0) (S':=aZ d) (B:=.lst (d.map .str)) (z:=L) BS Y (by have:=h.IQ;simpa using this) (by show 0+bX d<=120;lia) (by show 1+2*bX d<=100000;lia) h.az e;rw[Yc]at q;refine⟨hd,?_⟩;unfold ar Iz;rw[Zq ⟨rfl,rfl⟩];have f:=(fz (tg:=bL 2) (it:=hZ (aa 1)) (body:=bE) (U:=[oc (GY [] [] S0 R),pc (.lst (d.map .str)),L]) (m:=.pu) (l:=d.map .str) Y Y).trans q;have body:=(qG (a:=jm 0 4 (dk ah)) (b:=ak (jm 0 5 (dk ah)) (ak (jm 0 6 (eNew 0 du ah)) (Hx (cY (aa 1)) (gS (bL 2) (hZ (aa 1)) bE) dc))) (U:=[oc (.obj 2 [(0,.bl R)]),pc (.lst (d.map .str)),L]) (U1:=[oc (.obj 2 [(0,.bl R),(4,.lst [])]),pc (.lst (d.map .str)),L]) Y).trans
  (sq (U1:=[oc (.obj 2 [(0,.bl R),(4,.lst []),(5,.lst [])]),pc (.lst (d.map .str)),L]) Y (sq (U1:=[oc (GY [] [] S0 R),pc (.lst (d.map .str)),L]) Y (JA (m:=.fr) Y f)))
 exact congrArg (λz:Option Out=>z.bind _) body
def zA{a:List Tx}(h:Ib a):∃hd,ar [] [.lst (a.map .str)]=Z (Kq a hd (aZ a),.non)/\aD [GY a hd (aZ a) B]=Z (.fr,G3 (tabOf a)):=by
 obtain⟨hd,e⟩:=DB h;obtain⟨_,nd,g,H,l,e2,f,j,_⟩:=h.k;have hlen:(aZ a).lg.length<=100001:=by rw[← H.i.len];lia
 have b:=Cv H.i.wf hlen (k:=1000) (by decide) e2 f (by lia);refine⟨hd,e,eQ (U:=[pc (GY a hd (aZ a) B)]) Y (fL ?_)⟩;have d:aW 6 (aa 0) [pc (GY a hd (aZ a) B)]=Z (.pu,GN (aZ a) B):=g7 (m:=.pu) (t:=GY a hd (aZ a) B) Y (Gr a hd (aZ a) B);unfold dU;show ((aW 6 (aa 0) [pc (GY a hd (aZ a) B)]).bind _)=_;rw[d];show ((dJ [GN (aZ a) B]).bind _)=_;rw[b];rfl
def Cc(a:List Tx):bc [T.lst (a.map .str)]=R:=by
 show (bc (a.map T.str)&&R)=R;rw[dY _ (λ_=>rfl)];rfl
def mJ{a:List Tx}(h:Ib a){arg:Ex}{U:Env}{m:Md}(f:arg U=Z (m,.lst (a.map .str))):dU 1 aD (eNew 1 ar (ab arg ah)) ah U=Z (.fr,G3 (tabOf a)):=by
 obtain⟨hd,e,b⟩:=zA h;have d:eNew 1 ar (ab arg ah) U=Z (.fr,GY a hd (aZ a) B):=by
  unfold eNew;rw[xv (r:=ah) f Y,Zx,Zq (show bc (trees [(m,T.lst (a.map .str))])=R from Cc a),show trees [(m,T.lst (a.map .str))]=[T.lst (a.map .str)] from rfl,e,Zx,Zq ⟨jx _ _ _,rfl⟩];rfl
 show ((eNew 1 ar (ab arg ah) U).bind _)=_;rw[d];show ((aD [GY a hd (aZ a) B]).bind _)=_;rw[b];rfl
def yn{a:List Tx}(h:Ib a){x:Xx}{U U1:Env}{m:Md}(f:x U=Z ((m,.lst (a.map .str)),U1)):lA 1 aD (oq 1 ar x) U=Z ((.fr,G3 (tabOf a)),U1):=by
 obtain⟨hd,e,b⟩:=zA h;have d:oq 1 ar x U=Z ((.fr,GY a hd (aZ a) B),U1):=by
  unfold oq;rw[f,Zx,Zq (Cc a)];show (ar [] [T.lst (a.map .str)]).bind _=_;rw[e,Zx,Zq ⟨jx _ _ _,rfl⟩];rfl
 unfold lA;rw[d];show (if 2=1+1 then (aD [GY a hd (aZ a) B]).bind _ else L)=_;rw[b];rfl
abbrev He(a:List (Nat×Nat)):List (T×T):=a.map λp=>(T.str [p.1],T.int (p.2:Int))
abbrev Py(p:Nat×Nat):T:=.tup [.str [p.1],.int (p.2:Int)]
def E3(a:List (Nat×Nat)):ql (a.map Py)=Z (He a):=by
 induction a with
 |nil=>rfl
 |cons w a b =>
  show (if iU (T.str [w.1])/\GR (T.int (w.2:Int)) then (ql (a.map Py)).map _ else L)=_;rw[Zq ⟨rfl,rfl⟩,b];rfl
theorem sP:∀(a acc:List (Nat×Nat)),((acc++a).map (·.1)).Nodup->(He a).foldl (λd q=>dput d q.1 q.2) (He acc)=He (acc++a)
 |[],acc,_=>by rw[Zg];rfl
 |w :: a,acc,h=>by
  have g:w.1∉acc.map (·.1):=λz=>by
   rw[ZF,Zo]at h;exact(ZP.mp h).2.2 w.1 z w.1 Zt Y
  have e:dput (He acc) (T.str [w.1]) (T.int (w.2:Int))=He (acc++[w]):=by
   unfold dput;rw[Zp (by
    simp only[Y3,not_exists,not_and];intro p f;obtain⟨q,b,rfl⟩:=Yq.mp f;simp only[eqT,beq_iff_eq,List.cons.injEq,and_true];intro z;exact g (Yq.mpr ⟨q,b,z⟩))]
   simp[He]
  show (He a).foldl _ (dput (He acc) (T.str [w.1]) (T.int (w.2:Int)))=_;rw[e,sP a (acc++[w]) (by rw[ZI];exact h),ZI];rfl
def xF(w:List (Nat×Nat)):(sk w).Nodup:=by
 unfold sk;exact List.Nodup.sublist List.filter_sublist (by decide)
def ug(S:St)(a:Wc)(n:Nat):(steps S a n).map (·.1)=sk (S.wy.getD n []):=by
 unfold steps;rw[Z0];exact List.map_id' _
def Fc{m:Md}(S:St)(a:Wc)(n:Nat):jv [(m,JD (steps S a n))]=Z (.fr,.dct 0 (He (steps S a n))):=by
 show (ql ((steps S a n).map Py)).map _=_;rw[E3,Option.map_some];have:=sP (steps S a n) [] (by rw[Yc,ug];exact xF _);rw[Yc]at this;exact congrArg (λz=>Z (Md.fr,T.dct 0 z)) this
def sE(S:St)(b:Wc)(n c:Nat)(f:97<=c/\c<=122):gW (steps S b n) c=(gW (S.wy.getD n []) c).map λm=>b.idxOf m:=by
 have key:∀l:Wc,gW (l.map λc=>(c,b.idxOf ((gW (S.wy.getD n []) c).getD 0))) c=if c∈l then Z (b.idxOf ((gW (S.wy.getD n []) c).getD 0)) else L:=by
  intro l
  induction l with
  |nil=>rfl
  |cons a l d =>
   unfold gW at d ⊢;rw[Zo,Z9];by_cases h:a=c
   ·subst h;simp
   ·have:(a==c)=B:=by simpa using h
    rw[this];show (List.map _ l |>.find? _).map _=_;rw[d];simp[Ya h]
 unfold steps;rw[key];cases hg:gW (S.wy.getD n []) c with
 |none =>
  rw[Zp λz=>by
   obtain⟨m,e⟩:=ny z;rw[hg]at e;cases e]
  rfl
 |some m =>
  rw[Zq (by
   unfold sk;refine Xz.mpr ⟨List.mem_range'_1.mpr (by lia),by rw[hg];rfl⟩)]
  rfl
def oN(S:St)(a:Wc)(n:Nat):(row S a n).2.2.2=steps S a n:=by
 unfold row;split<;>rfl
def Pt(a:List Tx)(w:Tx):Prop:=w=[]\/∃t∈a,w <:+: t
def Cp{f:List Tx}{w:Tx}:Pt f w ↔ ∃p,Hd f p/\w <:+ p:=by
 constructor
 ·rintro (rfl | ⟨t,d,a,b,rfl⟩)
  ·exact⟨[],.inl Y,ZD _⟩
  ·exact⟨a++w,.inr ⟨_,d,⟨b,rfl⟩⟩,⟨a,rfl⟩⟩
 ·rintro⟨p,rfl | ⟨t,d,g⟩,e⟩
  ·exact .inl (YS.mp e)
  ·exact .inr ⟨t,d,e.isInfix.trans g.isInfix⟩
abbrev Ja(l:Wc):T:=.lst (l.map λ(n:Nat)=>T.int (n:Int))
abbrev ix(a:List Tx)(m:Nat):Nat:=(bq a).idxOf m
def Js(S:St):Nat->Nat->Wc
 |0,m=>[m]
 |k+1,m=>m :: match S.lk.getD m L with
  |none=>[]
  |some r=>Js S k r
section
variable{bk:List Tx}{nd:Wd->Option Nat}{wd:List Wd}(H:K (Hd bk) (aZ bk) nd wd)(hM:∀x,x∈bq bk↔x<(aZ bk).lg.length)(h0:(bq bk).idxOf 0=0)
include hM
theorem EC{m:Nat}(a:m<(aZ bk).lg.length):ix bk m<(tabOf bk).length:=by
 unfold tabOf tab;rw[Zw];exact Y8.mpr ((hM m).mpr a)
theorem ud{m:Nat}(e:m<(aZ bk).lg.length){a b:Ex}{U:Env}{n:Md}(g:a U=Z (.pu,G3 (tabOf bk)))(f:b U=Z (n,.int (ix bk m:Int))):e2 aB a b U=Z (.fr,l9 (row (aZ bk) (bq bk) m)):=by
 refine e2v g f ?_;have d:ix bk m<(bq bk).length:=Y8.mpr ((hM m).mpr e);unfold G3 tabOf tab;rw[Z0,kb (l9 ∘ row (aZ bk) (bq bk)) (bq bk) (ix bk m) 0 d,Zs,Zr d];show Z (up .pu (l9 (row (aZ bk) (bq bk) (bq bk)[ix bk m])))=_;rw[show (bq bk)[ix bk m]=m from X3 _];unfold up;rw[vE];rfl
include H
theorem CW{m:Nat}(a:m<wd.length):(row (aZ bk) (bq bk) m).2.1=(W wd m).length:=by
 unfold row;rw[← H.i.lg m a];split
 ·rename_i h;by_cases h0:m=0
  ·rw[h0,H.i.lg 0 (by exact Nat.zero_lt_of_lt a),H.i.wz];rfl
  ·obtain⟨r,e,_⟩:=H.i.lk (YW h0) a (by simp);rw[h]at e;cases e
 ·rfl
theorem Fg:∀(k m:Nat)(acc:Wc)(F:Nat),m<wd.length->(W wd m).length<=k->k+1<F->acc.length+k<1000000->da (cY (aa 1)) iF F [pc (G3 (tabOf bk)),Q0 (ix bk m:Int),oc (Ja acc)]=Z (.nx [pc (G3 (tabOf bk)),pc .non,oc (Ja (acc++(Js (aZ bk) k m).map (ix bk)))]):=by
 intro k
 induction k using Nat.strongRecOn with
 |ind k ih =>
  intro m acc F hm hk hF ha;obtain⟨F,rfl⟩:∃j,F=j+2:=⟨F-2,by lia⟩
  have HQ:m<(aZ bk).lg.length:=by rw[← H.i.len];exact hm
  have a1:=lj (i:=2) (U:=[pc (G3 (tabOf bk)),Q0 (ix bk m:Int),oc (Ja acc)]) (e:=aa 1) (l:=acc.map λ(n:Nat)=>T.int (n:Int)) Y Y (by rw[Zw];lia);rw[show acc.map (λ(n:Nat)=>T.int (n:Int))++[T.int (ix bk m:Int)]=(acc++[ix bk m]).map λ(n:Nat)=>T.int (n:Int) from by rw[ZF];rfl]at a1;have a2:aK 1 (e2 aB (e2 aB (aa 0) (aa 1)) (Q2 2)) [pc (G3 (tabOf bk)),Q0 (ix bk m:Int),oc (Ja (acc++[ix bk m]))]=Z (.nx [pc (G3 (tabOf bk)),pc (G7 (((aZ bk).lk.getD m L).map (ix bk))),oc (Ja (acc++[ix bk m]))]):=by
   refine aJ (m:=.fr) (e2v (ud hM HQ (n:=.fr) Y Y) (y:=(.fr,.int 2)) Y ?_) (by decide) (by show 1<3;decide);show Z (up .fr (G7 (row (aZ bk) (bq bk) m).2.2.1))=_;unfold row;split<;>(rename_i e;rw[e];rfl)
  have st:da (cY (aa 1)) iF (F+2) [pc (G3 (tabOf bk)),Q0 (ix bk m:Int),oc (Ja acc)]=da (cY (aa 1)) iF (F+1) [pc (G3 (tabOf bk)),pc (G7 (((aZ bk).lk.getD m L).map (ix bk))),oc (Ja (acc++[ix bk m]))]:=kY (m:=.fr) Y (sq a1 a2);rw[st];cases hl:(aZ bk).lk.getD m L with
  |none =>
   rw[show Js (aZ bk) k m=[m] from by cases k with | zero=>rfl | succ k=>rw[Js,hl]];exact ft (m:=.fr) Y
  |some r =>
   have h1:0<m:=YW λz=>by rw[z,H.i.Mx]at hl;cases hl
   obtain⟨r',e,⟨g1,_⟩,_,g2,_⟩:=H.i.lk h1 hm (by simp);rw[hl]at e;cases e;obtain⟨k,rfl⟩:∃j,k=j+1:=⟨k-1,by lia⟩
   have:=ih k (Yz _) r (acc++[ix bk m]) (F+1) g1 (by lia) (by exact Yn hF) (by rw[Zv,Zc];lia);rw[show Js (aZ bk) (k+1) m=m :: Js (aZ bk) k r from by rw[Js,hl]];exact this.trans (by rw[ZI];rfl)
theorem A0{m:Nat}(a:m<wd.length)(b:(W wd m).length<=1000):jw [G3 (tabOf bk),.int (ix bk m:Int)]=Z (.fr,Ja ((Js (aZ bk) 1000 m).map (ix bk))):=by
 have d:m<(aZ bk).lg.length:=by rw[← H.i.len];exact a
 have r1:sX (xP (bh bM (ab (aa 0) (ab (aa 1) ah)))) [pc (G3 (tabOf bk)),Q0 (ix bk m:Int),L]=Z (.nx [pc (G3 (tabOf bk)),Q0 (ix bk m:Int),L]):=by
  show (((bh bM _ _).map _).map _)=_;rw[bw (xv (x:=(.pu,G3 (tabOf bk))) Y (xv (r:=ah) (x:=(.fr,.int (ix bk m:Int))) Y Y)) (show bM [G3 (tabOf bk),.int (ix bk m:Int)]=Z (.fr,.non) from BW (by rw[Zw];exact EC hM d))];rfl
 exact eQ Y (sq r1 (sq (U1:=[pc (G3 (tabOf bk)),Q0 (ix bk m:Int),oc (Ja [])]) Y (sq (Fg H hM 1000 m [] t5 a b (by decide) (by decide)) Y)))
def Ls(a:Wd->Option Nat)(v t:Tx):Prop:=(∃m,a t=Z m)/\t <:+ v/\∀y,y <:+ v->t.length<y.length->a y=L
abbrev ET(d:List Tx)(s:T)(l:Nat)(c:Nat)(b a:W0):Env:=[pc (G3 (tabOf d)),pc s,Q0 (l:Int),pc (s1 c),b,a]
theorem tl{c:Nat}(hc:97<=c/\c<=122)(s:T){t:Tx}(ht:t.length<=100000):∀(k m:Nat)(u:Tx)(z4 z5:W0),nd u=Z m->u <:+ t->u.length=min t.length (W wd m).length->(∀y,y <:+ t->u.length<y.length->nd (y++[c])=L)->(W wd m).length<=k →
  (∃u' m' U',forL (bL 4) bY (((Js (aZ bk) k m).map (ix bk)).map λ(n:Nat)=>T.int (n:Int)) (ET bk s t.length c z4 z5)=Z (.rt (.fr,.tup [.int (ix bk m':Int),.int ((u'++[c]).length:Int)]) U')/\nd (u'++[c])=Z m'/\u' <:+ t/\∀y,y <:+ t->u'.length<y.length->nd (y++[c])=L) ∨
  ((∀y,y <:+ t->nd (y++[c])=L)/\∃y4 y5,forL (bL 4) bY (((Js (aZ bk) k m).map (ix bk)).map λ(n:Nat)=>T.int (n:Int)) (ET bk s t.length c z4 z5)=Z (.nx (ET bk s t.length c y4 y5))):=by
 intro k
 induction k using Nat.strongRecOn with
 |ind k ih =>
  intro m u z4 z5 hu O7 hl hy hk;have hm:=H.i.lt hu;have HQ:m<(aZ bk).lg.length:=by rw[← H.i.len];exact hm
  have hs:=(sE (aZ bk) (bq bk) m c hc).trans (congrArg (Option.map _) (H.i.wy hu c));have b1:aK 5 (eN jv (ab (e2 aB (e2 aB (aa 0) (aa 4)) (Q2 3)) ah)) (ET bk s t.length c (Q0 (ix bk m:Int)) z5)=Z (.nx (ET bk s t.length c (Q0 (ix bk m:Int)) (pc (G2 (steps (aZ bk) (bq bk) m))))):=by
   refine aJ (m:=.fr) (iT (xv (r:=ah) (x:=(.fr,JD (steps (aZ bk) (bq bk) m))) (e2v (ud hM HQ (n:=.fr) Y Y) (y:=(.fr,.int 3)) Y ?_) Y) (Fc _ _ _)) (by decide) (by show 5<6;decide);rw[← oN];show Z (up .fr (JD _))=_;unfold up;rw[nG];rfl
  generalize steps (aZ bk) (bq bk) m=ws at b1 hs;have ci:e2 lM (aa 3) (aa 5) (ET bk s t.length c (Q0 (ix bk m:Int)) (pc (G2 ws)))=Z (.fr,.bl (nd (u++[c])).isSome):=by
   rw[show (nd (u++[c])).isSome=(gW ws c).isSome from by rw[hs,Yh]];exact E1 (m:=.pu) (n:=.fr) Y Y
  cases hn:nd (u++[c]) with
  |some m' =>
   rw[hn]at ci hs;refine .inl ⟨u,m',ET bk s t.length c (Q0 (ix bk m:Int)) (pc (G2 ws)),?_,hn,O7,hy⟩;have Ko:∃r,Js (aZ bk) k m=m :: r:=by cases k with
    |zero=>exact⟨[],rfl⟩
    |succ k=>exact⟨_,rfl⟩
   obtain⟨r,hr⟩:=Ko;rw[hr,Zo,Zo];refine uJ Y (sq b1 (JA ci (fL ?_)));have mn:e2 ba (eN rA (ab (aa 2) (ab (e2 aB (e2 aB (aa 0) (aa 4)) (Q2 1)) ah))) (Q2 1) (ET bk s t.length c (Q0 (ix bk m:Int)) (pc (G2 ws)))=Z (.fr,.int ((u++[c]).length:Int)):=by
    refine e2v (x:=(.fr,.int (u.length:Int))) (y:=(.fr,.int 1)) (iT (xv (x:=(.fr,.int (t.length:Int))) Y (xv (r:=ah) (x:=(.fr,.int ((W wd m).length:Int))) (e2v (ud hM HQ (n:=.fr) Y Y) (y:=(.fr,.int 1)) Y (by rw[← CW H hM hm];rfl)) Y)) ?_) Y ?_
    ·show Z (Md.fr,T.int (if ((W wd m).length:Int)<(t.length:Int) then ((W wd m).length:Int) else (t.length:Int)))=_;congr 3;split<;>lia
    ·show Z (Md.fr,T.int ((u.length:Int)+1))=_;rw[Zv];rfl
   show (ab _ _ _).bind sL=_;rw[xv (tK (m:=.pu) (n:=.fr) Y Y hs) (xv (r:=ah) mn Y)];rfl
  |none =>
   rw[hn]at ci;have bo:bY (ET bk s t.length c (Q0 (ix bk m:Int)) z5)=Z (.nx (ET bk s t.length c (Q0 (ix bk m:Int)) (pc (G2 ws)))):=sq b1 (eO ci Y);cases IL:(aZ bk).lk.getD m L with
   |none =>
    rw[show Js (aZ bk) k m=[m] from by cases k with | zero=>rfl | succ k=>rw[Js,IL]];have m0:m=0:=Nat.eq_zero_of_not_pos λz=>by
     obtain⟨r,e,_⟩:=H.i.lk z hm (by simp);rw[IL]at e;cases e
    have u0:u=[]:=H.i.zero (m0 ▸ hu);refine .inr ⟨λy Ni=>?_,_,_,fY Y bo⟩;by_cases h:y=[]
    ·rw[u0]at hn;rw[h];exact hn
    ·exact hy y Ni (by rw[u0];exact Y7.mpr h)
   |some r =>
    obtain⟨g1,g2,g3,_⟩:=H.i.low (by simp) IL hu;have h1:0<m:=YW λz=>by rw[z,H.i.Mx]at IL;cases IL
    obtain⟨r',e,_,_,g4,g5⟩:=H.i.lk h1 hm (by simp);rw[IL]at e;cases e;obtain⟨k,rfl⟩:∃j,k=j+1:=⟨k-1,by lia⟩
    have hle:=O7.length_le;rw[show Js (aZ bk) (k+1) m=m :: Js (aZ bk) k r from by rw[Js,IL],Zo,Zo,show forL (bL 4) bY (T.int (ix bk m:Int) :: _) (ET bk s t.length c z4 z5)=_ from fY Y bo];exact ih k (Yz _) r (W wd r) _ _ (H.i.top g2) ((cz g3 (H.i.sf hu) (by exact Xu g1)).trans O7) (by lia) (λy Ni Ie=>by
     by_cases h:u.length<y.length
     ·exact hy y Ni h
     ·have:nd y=Z m:=g5 y ((cz Ni O7 (by exact ZQ h)).trans (H.i.sf hu)) Ie;rw[← H.i.wy this c,H.i.wy hu c];exact hn) (by lia)
include h0
theorem C3{c:Nat}(N:97<=c/\c<=122){v t:Tx}{m:Nat}(S:v.length<=1000)(s:nd t=Z m)(j:t <:+ v)(M:∀y,y <:+ v->t.length<y.length->nd y=L)(hw:(W wd m).length<=1000):∃f g,dF [G3 (tabOf bk),.int (ix bk m:Int),.int (t.length:Int),s1 c]=Z (.fr,.tup [.int (ix bk g:Int),.int (f.length:Int)])/\nd f=Z g/\f <:+ v++[c]/\∀y,y <:+ v++[c]->f.length<y.length->nd y=L:=by
 have F:∀D C,gS (bL 4) (hZ (bh jw (ab (aa 0) (ab (aa 1) ah)))) bY (ET bk (.int (ix bk m:Int)) t.length c D C)=_:=λD C=>fz (m:=.fr) (l:=((Js (aZ bk) 1000 m).map (ix bk)).map λ(n:Nat)=>T.int (n:Int)) (by
  show (bh jw _ _).bind _=_;rw[bw (xv (x:=(.pu,G3 (tabOf bk))) Y (xv (r:=ah) (x:=(.fr,.int (ix bk m:Int))) Y Y)) (A0 H hM (H.i.lt s) hw)];rfl) Y
 have X:=j.length_le;have J9:=(H.i.sf s).length_le;have key:∀a,a <:+ v->(a <:+ t->nd (a++[c])=L)->nd (a++[c])=L:=λa d h=>by
  cases o:nd (a++[c]) with
  |none=>rfl
  |some q =>
   obtain⟨p,E⟩:=H.i.pre o;rw[h (cz d j (ZQ λz=>by rw[M a d z]at E;cases E))]at o;cases o
 have ends:∀y,y <:+ v++[c]->y=[]\/∃a,y=a++[c]/\a <:+ v:=λy h=>List.suffix_concat_iff.mp h;rcases tl H hM N (.int (ix bk m:Int)) (t:=t) (by lia) 1000 m t L L s (ZD _) (by lia) (λy Q b=>absurd Q.length_le (by exact Nat.not_le_of_gt b)) hw with⟨u,g,U',e,w,P,O⟩ | ⟨w,J,G,e⟩
 ·refine⟨u++[c],g,eQ Y (fW ((F _ _).trans e)),w,by
   obtain⟨p,rfl⟩:=P.trans j;exact⟨p,by rw[ZI]⟩,λy A b=>?_⟩
  rw[Zv,Zc]at b;rcases ends y A with rfl | ⟨a,rfl,d⟩
  ·exact absurd b (Y9 _)
  ·rw[Zv,Zc]at b;exact key a d λz=>O a z (by exact Yn b)
 ·refine⟨[],0,eQ (U:=ET bk (.int (ix bk m:Int)) t.length c J G) Y (sq ((F _ _).trans e) ?_),H.i.z,YE,λy A b=>?_⟩
  ·rw[show ix bk 0=0 from h0];rfl
  ·rcases ends y A with rfl | ⟨a,rfl,d⟩
   ·exact absurd b (Y9 _)
   ·exact key a d (w a)
abbrev EM(a:List Tx)(W:Tx)(m l:Nat)(d:Wc)(b:W0):Env:=[pc (G3 (tabOf a)),Q1 W,pc (.tup [.int (ix a m:Int),.int (l:Int)]),oc (Ja d),b]
theorem mt{Wo:Tx}(hw:∀m,m<wd.length->(W wd m).length<=1000):∀(r v t:Tx)(m:Nat)(b:Wc)(f:W0),Az r->v.length+r.length<=1000->b.length+r.length<=100000->nd t=Z m->t <:+ v->(∀y,y <:+ v->t.length<y.length->nd y=L) →
  ∃l d k g,forL (bL 4) kf (r.map s1) (EM bk Wo m t.length b f)=Z (.nx (EM bk Wo d k (b++l) g))/\l.length=r.length/\∀i,i<r.length->∃a,l.getD i 0=a.length/\Ls nd (v++r.take (i+1)) a:=by
 intro r
 induction r with
 |nil=>exact λv t m b f _ _ _ _ _ _=>⟨[],m,t.length,f,by rw[Zg];rfl,rfl,λi h=>absurd h (Y9 _)⟩
 |cons c r C =>
  intro v t m b f o N P p M G;rw[Zl]at N P;obtain⟨a,d,e,w,s,q⟩:=C3 H hM h0 (o c Zt) (by lia) p M G (hw m (H.i.lt p));obtain⟨l,A,k,g,F,E,D⟩:=C (v++[c]) a d (b++[a.length]) (pc (s1 c)) (λx J=>o x (Zu _ J)) (by rw[Zv,Zc];lia) (by rw[Zv,Zc];lia) w s q;have z:aK 2 (bh dF (ab (aa 0) (ab (e2 aB (aa 2) (Q2 0)) (ab (e2 aB (aa 2) (Q2 1)) (ab (aa 4) ah))))) (EM bk Wo m t.length b (pc (s1 c)))=Z (.nx (EM bk Wo d a.length b (pc (s1 c)))):=aJ (m:=.fr) (bw (xv (x:=(.pu,G3 (tabOf bk))) Y (xv (x:=(.fr,.int (ix bk m:Int))) Y (xv (x:=(.fr,.int (t.length:Int))) Y (xv (r:=ah) (x:=(.fr,s1 c)) Y Y)))) e) (by decide) (by show 2<5;decide);have j:=lj (i:=3) (U:=EM bk Wo d a.length b (pc (s1 c))) (e:=e2 aB (aa 2) (Q2 1)) (l:=b.map λ(n:Nat)=>T.int (n:Int)) (v:=.int (a.length:Int)) Y Y (by rw[Zw];lia);rw[show b.map (λ(n:Nat)=>T.int (n:Int))++[T.int (a.length:Int)]=(b++[a.length]).map λ(n:Nat)=>T.int (n:Int) from by rw[ZF];rfl]at j;refine⟨a.length :: l,A,k,g,(fY Y (sq z j)).trans (F.trans (by rw[ZI];rfl)),by rw[Zl,Zl,E],λi O=>?_⟩;cases i with
  |zero=>exact⟨a,rfl,⟨d,w⟩,s,q⟩
  |succ i =>
   obtain⟨u,S,Q⟩:=D i (Yn O);exact⟨u,S,by rw[Xh,Wg];exact Q⟩
def Dl(b:Wd->Option Nat)(a:Tx)(l:Wc):Prop:=l.length=a.length+1/\∀i,i<=a.length->∃t,l.getD i 0=t.length/\Ls b (a.take i) t
theorem wO{Wo:Tx}(hw:∀m,m<wd.length->(W wd m).length<=1000)(f:Az Wo)(p:Wo.length<=1000):∃l,dW [G3 (tabOf bk),.str Wo]=Z (.fr,Ja l)/\Dl nd Wo l:=by
 obtain⟨l,o,k,n,e,d,b⟩:=mt H hM h0 (Wo:=Wo) hw Wo [] [] 0 [0] L f (by show 0+_<=_;lia) (by show 1+_<=_;lia) H.i.z (ZD _) λy a h=>absurd a.length_le (by show ¬y.length<=0;exact Nat.not_le_of_lt h);have j:EM bk Wo 0 0 [0] L=[pc (G3 (tabOf bk)),Q1 Wo,pc (.tup [.int 0,.int 0]),oc (Ja [0]),L]:=by
  show [_,_,pc (.tup [.int (ix bk 0:Int),.int ((0:Nat):Int)]),_,_]=_;rw[show ix bk 0=0 from h0];rfl
 refine⟨0 :: l,eQ Y (sq (U1:=[pc (G3 (tabOf bk)),Q1 Wo,pc (.tup [.int 0,.int 0]),L,L]) Y (sq (U1:=EM bk Wo 0 0 [0] L) (by rw[j];rfl) (sq ((fz (m:=.fr) Y Y).trans e) Y))),by rw[Zl,d],λi g=>?_⟩
 ·cases i with
  |zero=>exact⟨[],rfl,⟨0,H.i.z⟩,YE,λy a h=>absurd a.length_le (Nat.not_le_of_lt h)⟩
  |succ i=>exact b i g
end
def num(b:List Tx)(a:Wd->Option Nat)(w:Tx):Nat:=(bq b).idxOf ((a w).getD 0)
def zO{α:Type}(l:List α)(k:Nat)(h:k<=l.length):cut l (Z (k:Int)) L=l.drop k:=by
 have a:clip l.length (k:Int)=k:=by
  unfold clip;rw[Zp (by lia),XZ,YF h]
 show (l.drop (clip l.length (k:Int))).take (l.length-clip l.length (k:Int))=_;rw[a];exact YH (by rw[Z1];exact Zm _)
def Bk{a b:Ex}{U:Env}{m n:Md}{t:Tx}{k:Nat}(e:a U=Z (m,.str t))(d:b U=Z (n,.int (k:Int)))(h:k<=t.length):Kd a (Z b) L U=Z (.fr,.str (t.drop k)):=by
 unfold Kd kW;dsimp only;rw[e,d];show Z (Md.fr,T.str (cut t (Z (k:Int)) L))=_;rw[zO t k h]
def FN{a b c:Ex}{U:Env}{m n n':Md}{t:Tx}{k j:Nat}(f:a U=Z (m,.str t))(e:b U=Z (n,.int (k:Int)))(d:c U=Z (n',.int ((k:Int)+(j:Int))))(h:k+j<=t.length):Kd a (Z b) (Z c) U=Z (.fr,.str ((t.drop k).take j)):=by
 unfold Kd kW;dsimp only;rw[f,e,d];show Z (Md.fr,T.str ((t.drop (clip t.length (k:Int))).take (clip t.length ((k:Int)+(j:Int))-clip t.length (k:Int))))=_;have i:clip t.length (k:Int)=k:=by
  unfold clip;rw[Zp (by lia),XZ,YF (by lia)]
 have g:clip t.length ((k:Int)+(j:Int))=k+j:=by
  unfold clip;rw[Zp (by lia),show ((k:Int)+(j:Int)).toNat=k+j by lia,YF h]
 rw[i,g,Nat.add_sub_cancel_left]
def HB(P:Tx->Bool)(p:Tx):Tx->Nat
 |[]=>0
 |c :: r=>if P (p++[c]) then HB P (p++[c]) r+1 else 0
theorem m7{P:Tx->Bool}:∀(v p:Tx),HB P p v<=v.length
 |[],_=>Zm _
 |c :: r,p=>by
  unfold HB;split
  ·have:=m7 (P:=P) r (p++[c]);rw[Zl];exact YX this
  ·exact Ym _
abbrev EK(e:List Tx)(W:Tx)(d:Wc)(b a:W0):Env:=[pc (G3 (tabOf e)),Q1 W,oc (Ja d),b,a]
section
variable{bk:List Tx}{nd:Wd->Option Nat}{wd:List Wd}(H:K (Hd bk) (aZ bk) nd wd)(hM:∀x,x∈bq bk↔x<(aZ bk).lg.length)(h0:(bq bk).idxOf 0=0)
include H hM
theorem wk(W:Tx):∀(v p:Tx)(st:Wc)(d b:W0),(nd p).isSome=R->Az v->st.length+v.length<16000000->∃l:Wc,l.length=st.length+1+HB (λw=>(nd w).isSome) p v/\((∃O,forL (bL 3) gb (v.map s1) (EK bk W (st++[num bk nd p]) d b)=Z (.rt (.fr,Ja l) O))\/∃A z,forL (bL 3) gb (v.map s1) (EK bk W (st++[num bk nd p]) d b)=Z (.nx (EK bk W l A z))):=by
 intro v
 induction v with
 |nil=>exact λp st d b _ _ _=>⟨st++[num bk nd p],by rw[Zv];rfl,.inr ⟨d,b,rfl⟩⟩
 |cons c v D =>
  intro p st d b J s M;rw[Zl]at M;obtain⟨a,o⟩:=Yt.mp J;have Q:=(hM a).mpr (by rw[← H.i.len];exact H.i.lt o);have u:num bk nd p=(bq bk).idxOf a:=by unfold num;rw[o];rfl
  have t:num bk nd p<(bq bk).length:=by rw[u];exact Y8.mpr Q
  have P:(bq bk).getD (num bk nd p) 0=a:=by
   rw[Zs,Zr t];show (bq bk)[num bk nd p]=a;simp only[u];exact X3 _
  have F:e2 aB (aa 2) (Q2 (-1)) (EK bk W (st++[num bk nd p]) (pc (s1 c)) b)=Z (.fr,.int (num bk nd p:Int)):=by
   refine e2v (x:=(.bo,Ja (st++[num bk nd p]))) (y:=(.fr,.int (-1))) Y Y ?_;rw[kF (λ(n:Nat)=>T.int (n:Int)) (st++[num bk nd p]) 0 (by rw[Zv];exact X8 _),Zv,Zc,YI,il];rfl
  have r1:e2 aB (aa 0) (e2 aB (aa 2) (Q2 (-1))) (EK bk W (st++[num bk nd p]) (pc (s1 c)) b)=Z (.fr,l9 (row (aZ bk) (bq bk) a)):=by
   refine e2v (x:=(.pu,G3 (tabOf bk))) Y F ?_;unfold G3 tabOf tab;rw[Z0,kb (l9 ∘ row (aZ bk) (bq bk)) (bq bk) (num bk nd p) 0 t,P];show Z (up .pu (l9 (row (aZ bk) (bq bk) a)))=_;unfold up;rw[vE];rfl
  have q:aK 4 (eN jv (ab (e2 aB (e2 aB (aa 0) (e2 aB (aa 2) (Q2 (-1)))) (Q2 3)) ah)) (EK bk W (st++[num bk nd p]) (pc (s1 c)) b)=Z (.nx (EK bk W (st++[num bk nd p]) (pc (s1 c)) (pc (G2 (steps (aZ bk) (bq bk) a))))):=by
   refine aJ (m:=.fr) (iT (xv (r:=ah) (x:=(.fr,JD (steps (aZ bk) (bq bk) a))) (e2v r1 (y:=(.fr,.int 3)) Y ?_) Y) (Fc _ _ _)) (by decide) (by show 4<5;decide);rw[← oN];show Z (up .fr (JD _))=_;unfold up;rw[nG];rfl
  have g:=(sE (aZ bk) (bq bk) a c (s c Zt)).trans (congrArg (Option.map _) (H.i.wy o c));generalize steps (aZ bk) (bq bk) a=f at q g;have h:e2 de (aa 3) (aa 4) (EK bk W (st++[num bk nd p]) (pc (s1 c)) (pc (G2 f)))=Z (.fr,.bl (!(nd (p++[c])).isSome)):=by
   rw[show (nd (p++[c])).isSome=(gW f c).isSome from by rw[g,Yh]];exact BO (m:=.pu) (n:=.fr) Y Y
  unfold HB;cases j:nd (p++[c]) with
  |none =>
   rw[j]at h;exact⟨st++[num bk nd p],by rw[Zv];rfl,.inl ⟨_,uJ Y (sq q (fW (JA h Y)))⟩⟩
  |some C =>
   rw[j]at h g;have g:gW f c=Z (num bk nd (p++[c])):=g.trans (by unfold num;rw[j];rfl);have ap:=lj (i:=2) (U:=EK bk W (st++[num bk nd p]) (pc (s1 c)) (pc (G2 f))) (e:=e2 Iy (aa 4) (aa 3)) (l:=(st++[num bk nd p]).map λ(n:Nat)=>T.int (n:Int)) Y (tK (m:=.pu) (n:=.fr) Y Y g) (by rw[Zw,Zv];show st.length+1<16777216;lia);rw[show (st++[num bk nd p]).map (λ(n:Nat)=>T.int (n:Int))++[T.int (num bk nd (p++[c]):Int)]=((st++[num bk nd p])++[num bk nd (p++[c])]).map λ(n:Nat)=>T.int (n:Int) from by rw[ZF,ZF,ZF];rfl]at ap;obtain⟨l,N,E⟩:=D (p++[c]) (st++[num bk nd p]) (pc (s1 c)) (pc (G2 f)) (by rw[j];rfl) (λx G=>s x (Zu _ G)) (by rw[Zv,Zc];lia);have S:forL (bL 3) gb ((c :: v).map s1) (EK bk W (st++[num bk nd p]) d b)=forL (bL 3) gb (v.map s1) (EK bk W ((st++[num bk nd p])++[num bk nd (p++[c])]) (pc (s1 c)) (pc (G2 f))):=fY Y (sq q (sq (eO h Y) ap));rw[S];refine⟨l,N.trans ?_,E⟩;rw[Zv,Zc,Zq (show (Z C).isSome=R from rfl)];lia
include h0
theorem Eh{v:Tx}(d:Az v)(n:v.length<1000000):∃l:Wc,l.length=HB (λw=>(nd w).isSome) [] v+1/\lr [G3 (tabOf bk),.str v]=Z (.fr,Ja l):=by
 have a:num bk nd []=0:=by unfold num;rw[H.i.z];exact h0
 obtain⟨l,e,h⟩:=wk H hM v v [] [] L L (by rw[H.i.z];rfl) d (by show 0+v.length<_;lia);refine⟨l,by rw[e];show 0+1+_=_;exact Ww _ _,?_⟩;have b:gS (bL 3) (hZ (aa 1)) gb (EK bk v [0] L L)=_:=fz (m:=.fr) Y Y;rw[← a]at b;rcases h with⟨f,h⟩ | ⟨j,g,h⟩
 ·exact eQ (U:=f) Y (sq (U1:=EK bk v [0] L L) Y (fW (by rw[← a];exact b.trans h)))
 ·exact eQ Y (sq (U1:=EK bk v [0] L L) Y (sq (by rw[← a];exact b.trans h) Y))
end
def Kz(P:Tx->Bool):Nat->Tx->Option (List Tx)
 |0,_=>Z []
 |n+1,v=>if v=[] then Z [] else if HB P [] v=0 then L else (Kz P n (v.drop (HB P [] v))).map (v.take (HB P [] v) :: ·)
abbrev EP(d:List Tx)(W:Tx)(a:List Tx)(k:Nat)(b:W0):Env:=[pc (G3 (tabOf d)),Q1 W,oc (.lst (a.map .str)),Q0 (k:Int),b]
def oF:Option (List Tx)->T
 |none=>.non
 |some l=>.lst (l.map .str)
def zI{c:Ex}{a:Sx}{n:Nat}{U b:Env}{m:Md}{v:Val}(e:c U=Z (m,.bl R))(d:a U=Z (.rt v b)):da c a (n+1) U=Z (.rt v b):=by
 unfold da;rw[e];show (a U).bind _=_;rw[d];rfl
def vg(l:List Tx)(t:Tx):l.map T.str++[.str t]=(l++[t]).map T.str:=by rw[ZF];rfl
noncomputable abbrev WP:=da (e2 oLt (aa 3) (eN bu (ab (aa 1) ah))) lR
def pw{bk:List Tx}{P:Tx->Bool}{W:Tx}(S:W.length<1000000)(hw:∀k,∃l:Wc,l.length=HB P [] (W.drop k)+1/\lr [G3 (tabOf bk),.str (W.drop k)]=Z (.fr,Ja l)):∀(n k:Nat)(acc:List Tx)(F:Nat)(a:W0),k<=W.length->W.length-k<=n->n<F->acc.length+n<10000000 →
  (Kz P n (W.drop k)=L->∃O,WP F (EP bk W acc k a)=Z (.rt (.fr,.non) O)) ∧
  ∀l,Kz P n (W.drop k)=Z l->∃f d,WP F (EP bk W acc k a)=Z (.nx (EP bk W (acc++l) f d)):=by
 have cd:∀(acc:List Tx)(k:Nat)(a:W0),e2 oLt (aa 3) (eN bu (ab (aa 1) ah)) (EP bk W acc k a)=Z (.fr,.bl (decide ((k:Int)<(W.length:Int)))):=λacc k a=>e2v (x:=(.fr,.int (k:Int))) (y:=(.fr,.int (W.length:Int))) Y Y Y;have s:∀(acc:List Tx)(F k:Nat)(a:W0),W.length<=k->WP (F+1) (EP bk W acc k a)=Z (.nx (EP bk W acc k a)):=λacc F k a h=>ft ((cd acc k a).trans (by rw[ZZ (by lia)]));intro n
 induction n with
 |zero =>
  intro k acc F a p G q J;obtain⟨F,rfl⟩:∃j,F=j+1:=⟨F-1,by lia⟩
  refine⟨(λh=>nomatch h),λl h=>⟨k,a,?_⟩⟩;cases h;rw[Zg];exact s acc F k a (by lia)
 |succ n C =>
  intro k acc F a p G q J;obtain⟨F,rfl⟩:∃j,F=j+1:=⟨F-1,by lia⟩
  unfold Kz;by_cases b:W.drop k=[]
  ·have:W.length<=k:=by simpa using b
   rw[Zq b];refine⟨(λh=>nomatch h),λl h=>⟨k,a,?_⟩⟩;cases h;rw[Zg];exact s acc F k a this
  ·have X:k<W.length:=Nat.lt_of_not_le λz=>b (List.drop_eq_nil_of_le z);rw[Zp b];obtain⟨l,H,e⟩:=hw k;have hle:=m7 (P:=P) (W.drop k) [];rw[Z1]at hle;have o:aK 4 (e2 oG (eN bu (ab (bh lr (ab (aa 0) (ab (Kd (aa 1) (Z (aa 3)) L) ah))) ah)) (Q2 1)) (EP bk W acc k a)=Z (.nx (EP bk W acc k (Q0 (HB P [] (W.drop k):Int)))):=by
    refine aJ (m:=.fr) (e2v (x:=(.fr,.int ((l.length:Nat):Int))) (iT (xv (r:=ah) (bw (xv (x:=(.pu,G3 (tabOf bk))) Y (xv (r:=ah) (Bk (m:=.fr) (n:=.fr) Y Y p) Y)) e) Y) (by show Z (Md.fr,T.int (((l.map λ(n:Nat)=>T.int (n:Int)).length:Nat):Int))=_;rw[Zw])) (y:=(.fr,.int 1)) Y ?_) (by decide) (by show 4<5;decide);show Z (Md.fr,T.int (((l.length:Nat):Int)-1))=_;rw[H,show (((HB P [] (W.drop k)+1:Nat)):Int)-1=(HB P [] (W.drop k):Int) by lia]
   have v:e2 oEq (aa 4) (Q2 0) (EP bk W acc k (Q0 (HB P [] (W.drop k):Int)))=Z (.fr,.bl ((HB P [] (W.drop k):Int)==0)):=eq_int 0 (m:=.fr) Y;have u:=(cd acc k a).trans (by rw[decide_eq_true (by lia)]);generalize Q:HB P [] (W.drop k)=j at *;by_cases g:j=0
   ·rw[Zq g];refine⟨λ_=>⟨_,zI u (sq o (fW (JA (v.trans (by rw[g];rfl)) Y)))⟩,λl h=>by cases h⟩
   ·rw[Zp g];have w:=lj (i:=2) (U:=EP bk W acc k (Q0 (j:Int))) (e:=Kd (aa 1) (Z (aa 3)) (Z (e2 ba (aa 3) (aa 4)))) (l:=acc.map T.str) Y (FN (m:=.fr) (n:=.fr) (n':=.fr) Y Y Y (by lia)) (by rw[Zw];lia);rw[vg]at w;have N:aK 3 (e2 ba (aa 3) (aa 4)) (EP bk W (acc++[(W.drop k).take j]) k (Q0 (j:Int)))=Z (.nx (EP bk W (acc++[(W.drop k).take j]) (k+j) (Q0 (j:Int)))):=aJ (m:=.fr) (t:=.int ((k+j:Nat):Int)) (e2v (x:=(.fr,.int (k:Int))) (y:=(.fr,.int (j:Int))) Y Y Y) (by decide) (by show 3<5;decide);have st:WP (F+1) (EP bk W acc k a)=WP F (EP bk W (acc++[(W.drop k).take j]) (k+j) (Q0 (j:Int))):=kY u (sq o (sq (eO (v.trans (by rw[ZL.mpr (by lia)])) Y) (sq w N)));rw[st,Xb];obtain⟨E,D⟩:=C (k+j) (acc++[(W.drop k).take j]) F (Q0 (j:Int)) (by lia) (by lia) (by exact Yn q) (by rw[Zv,Zc];lia);refine⟨λh=>E (Option.map_eq_none_iff.mp h),λl h=>?_⟩;obtain⟨A,M,rfl⟩:=Zy.mp h;obtain⟨f,d,e⟩:=D A M;exact⟨f,d,e.trans (by rw[ZI];rfl)⟩
def yT{bk:List Tx}{a:Wd->Option Nat}{f:List Wd}(H:K (Hd bk) (aZ bk) a f)(j:∀x,x∈bq bk↔x<(aZ bk).lg.length)(m:(bq bk).idxOf 0=0){W:Tx}(g:Az W)(q:W.length<=1000):cL [G3 (tabOf bk),.str W]=Z (.fr,oF (Kz (λw=>(a w).isSome) W.length W)):=by
 obtain⟨d,b⟩:=pw (bk:=bk) (P:=λw=>(a w).isSome) (W:=W) (by lia) (λk=>Eh H j m (λc i=>g c (List.mem_of_mem_drop i)) (by rw[Z1];omega)) W.length 0 [] t5 L (Ym _) (Zm _) (by show _<1000000;lia) (by show 0+_<_;lia);rw[List.drop_zero]at d b;cases h:Kz (λw=>(a w).isSome) W.length W with
 |none =>
  obtain⟨n,e⟩:=d h;exact eQ (U:=n) Y (sq (U1:=[pc (G3 (tabOf bk)),Q1 W,oc (.lst []),L,L]) Y (sq (U1:=EP bk W [] 0 L) Y (fW e)))
 |some l =>
  obtain⟨p,o,e⟩:=b l h;exact eQ Y (sq (U1:=[pc (G3 (tabOf bk)),Q1 W,oc (.lst []),L,L]) Y (sq (U1:=EP bk W [] 0 L) Y (sq e Y)))
section
variable{P:Tx->Bool}
theorem zL:∀(v p:Tx),P p=R->P (p++v.take (HB P p v))=R
 |[],p,h=>by rw[List.take_nil,Zg];exact h
 |c :: r,p,h=>by
  unfold HB;by_cases a:P (p++[c])=R
  ·rw[Zq a,Xh,Wg];exact zL r (p++[c]) a
  ·rw[Zp a,List.take_zero,Zg];exact h
theorem uD(e:∀a b,P (a++b)=R->P a=R):∀(v p:Tx)(j:Nat),HB P p v<j->j<=v.length->¬P (p++v.take j)=R
 |[],p,j,h,d,_=>absurd (ZR h d) (Y9 _)
 |c :: r,p,0,h,d,_=>absurd h (Y9 _)
 |c :: r,p,j+1,h,d,z=>by
  rw[Xh,Wg]at z;unfold HB at h;rw[Zq (e _ _ z)]at h;exact uD e r (p++[c]) j (Yn h) (Nat.le_of_succ_le_succ d) z
def yA:∀(n:Nat)(v:Tx),v.length<=n->Kz P n v=Kz P v.length v:=by
 intro n
 induction n using Nat.strongRecOn with
 |ind n ih =>
  intro v h;cases n with
  |zero=>rw[Nat.le_zero.mp h]
  |succ n =>
   cases v with
   |nil=>rfl
   |cons c r =>
    rw[Zl]at h ⊢;unfold Kz;split
    ·rfl
    ·split
     ·rfl
     ·rename_i h0;have hd:((c :: r).drop (HB P [] (c :: r))).length<=r.length:=by rw[Z1,Zl];omega
      rw[ih n (Yz _) _ (by lia)];by_cases hr:r.length<n+1
      ·rw[ih r.length hr _ hd]
      ·lia
def gp(P:Tx->Bool)(v:Tx):Option (List Tx):=Kz P v.length v
def pV{v:Tx}(a:v≠[]):gp P v=if HB P [] v=0 then L else (gp P (v.drop (HB P [] v))).map (v.take (HB P [] v) :: ·):=by
 have d:0<v.length:=Y7.mpr a;obtain⟨n,b⟩:∃n,v.length=n+1:=⟨v.length-1,by lia⟩
 unfold gp;rw[b]
 conv=>lhs;unfold Kz
 rw[Zp a];split
 ·rfl
 ·rw[yA n _ (by rw[Z1];lia)]
def cn(P:Tx->Bool)(v:Tx):Option Nat:=(gp P v).map List.length
def BN{v:Tx}{a:Nat}(d:v≠[])(h:cn P v=Z a):HB P [] v≠0/\∃b,cn P (v.drop (HB P [] v))=Z b/\a=b+1:=by
 unfold cn at h ⊢;rw[pV d]at h;split at h
 ·cases h
 ·rename_i f;refine⟨f,?_⟩;rw[Option.map_map]at h;obtain⟨l,e,rfl⟩:=Zy.mp h;exact⟨l.length,by rw[e];rfl,rfl⟩
def w6{v:Tx}{b:Nat}(a:v≠[])(d:HB P [] v≠0)(h:cn P (v.drop (HB P [] v))=Z b):cn P v=Z (b+1):=by
 unfold cn at h ⊢;rw[pV a,Zp d,Option.map_map];obtain⟨l,e,rfl⟩:=Zy.mp h;rw[e];rfl
variable(h1:P []=true)(hi:∀u v,v <:+: u->P u=true->P v=true)
include h1 hi
theorem xi{v:Tx}{k:Nat}(d:k<=v.length)(h:P (v.take k)=R):k<=HB P [] v:=ZQ λz=>uD (λa b h=>hi _ _ (List.prefix_append a b).isInfix h) v [] k z d h
theorem DW:∀(n:Nat)(v:Tx)(a j:Nat),v.length<=n->cn P v=Z a->∃b,b<=a/\cn P (v.drop j)=Z b:=by
 intro n
 induction n with
 |zero=>exact λv a j h e=>by cases YK.mp (Nat.le_zero.mp h);exact⟨a,Zm _,by rw[List.drop_nil];exact e⟩
 |succ n g =>
  intro v a j h e;by_cases i:v=[]
  ·subst i;exact⟨a,Zm _,by rw[List.drop_nil];exact e⟩
  obtain⟨q,b,l,rfl⟩:=BN i e;have p:=m7 (P:=P) v [];have kP:=zL v [] h1;rw[Yc]at kP;generalize HB P [] v=k at *;have hd:(v.drop k).length<=n:=by rw[Z1];lia
  by_cases m:k<=j
  ·obtain⟨c,f,d⟩:=g (v.drop k) b (j-k) hd l;rw[Xb,show k+(j-k)=j by exact Wx m]at d;exact⟨c,by exact Nat.le_add_right_of_le f,d⟩
  ·have o:v.drop j≠[]:=λz=>by have:=congrArg List.length z;rw[Z1]at this;simp at this;lia
   have r:k-j<=HB P [] (v.drop j):=xi h1 hi (by rw[Z1];lia) (hi _ _ (by rw[← List.drop_take];exact(List.drop_suffix _ _).isInfix) kP);have s:=m7 (P:=P) (v.drop j) [];obtain⟨c,f,d⟩:=g (v.drop k) b (j+HB P [] (v.drop j)-k) hd l;rw[Xb,show k+(j+HB P [] (v.drop j)-k)=j+HB P [] (v.drop j) by lia,← Xb]at d;exact⟨c+1,by exact YX f,w6 o (by lia) d⟩
theorem A6{q v:Tx}{a:Nat}(f:P q=R)(e:cn P v=Z a):∃b,b<=a+1/\cn P (q++v)=Z b:=by
 by_cases d:q=[]
 ·subst d;exact⟨a,Xj _,e⟩
 have j:q++v≠[]:=λz=>d (List.append_eq_nil_iff.mp z).1;have g:q.length<=HB P [] (q++v):=xi h1 hi (by rw[Zv];exact Yk _ _) (by rw[List.take_left];exact f);have:=Y7.mpr d;obtain⟨b,i,h⟩:=DW h1 hi v.length v a (HB P [] (q++v)-q.length) (Zm _) e;refine⟨b+1,by exact YX i,w6 j (by lia) ?_⟩;rw[List.drop_append,List.drop_eq_nil_of_le g,Yc];exact h
theorem Cu{q:Tx}(a:q≠[])(d:P q=R):cn P q=Z 1:=by
 have b:HB P [] q=q.length:=Xi (m7 _ _) (xi h1 hi (Zm _) (by rw[Wm];exact d));exact w6 a (by rw[b];exact λz=>a (YK.mp z)) (by rw[b,List.drop_length];rfl)
end
def Lp(P:Tx->Prop)(v t:Tx):Prop:=P t/\t <:+ v/\∀y,y <:+ v->t.length<y.length->¬P y
def Dp(P:Tx->Prop)(W:Tx)(l:Wc):Prop:=l.length=W.length+1/\∀i,i<=W.length->∃t,l.getD i 0=t.length/\Lp P (W.take i) t
def Lp.le{P Q:Tx->Prop}(a:∀u,P u->Q u){v t u:Tx}(h:Lp P v t)(g:Lp Q v u):t.length<=u.length:=ZQ λz=>g.2.2 t h.2.1 z (a t h.1)
theorem Dp.le{P Q:Tx->Prop}(j:∀u,P u->Q u){W:Tx}{l k:Wc}(h:Dp P W l)(g:Dp Q W k){i:Nat}(d:i<=W.length):l.getD i 0<=k.getD i 0:=by
 obtain⟨t,e,a⟩:=h.2 i d;obtain⟨u,f,b⟩:=g.2 i d;rw[e,f];exact a.le j b
def Dp.same{P:Tx->Prop}{W:Tx}{l k:Wc}(h:Dp P W l)(g:Dp P W k):l=k:=by
 refine List.ext_getElem (by rw[h.1,g.1]) λi f e=>?_;have d:i<=W.length:=by have:=h.1;lia
 have a:=h.le (λ_ z=>z) g d;have b:=g.le (λ_ z=>z) h d;simp only[Zs,Zr f,Zr e,Y1]at a b;exact Xi a b
def uE{d:List Tx}(h:Ib d){W:Tx}(j:Az W)(o:W.length<=1000):∃l,dW [G3 (tabOf d),.str W]=Z (.fr,Ja l)/\Dp (Pt d) W l:=by
 obtain⟨_,nd,x,H,_,_,u,A,v⟩:=h.k;have f:∀w,(nd w).isSome=R↔Pt d w:=λw=>by rw[Cp,← H.some,Yt]
 obtain⟨l,s,g⟩:=wO H u v (Wo:=W) (λm n=>by
  rcases (f _).mp (by rw[H.i.top n];rfl) with z | ⟨t,ht,z⟩
  ·rw[z];exact Ym _
  ·have:=z.length_le;have:=Ib.Ll ht;have:=h.sum;lia) j o
 refine⟨l,s,g.1,λi p=>?_⟩;obtain⟨t,e,⟨m,a⟩,b,c⟩:=g.2 i p;exact⟨t,e,(f t).mp (by rw[a];rfl),b,λy r q z=>by rw[← f,c y r q]at z;cases z⟩
noncomputable def pb(a:List Tx)(w:Tx):Bool:=@decide (Pt a w) (Classical.propDecidable _)
def eT{a:List Tx}{w:Tx}:pb a w=R↔Pt a w:=@decide_eq_true_iff _ (Classical.propDecidable _)
def jb(a:List Tx):pb a []=R:=eT.mpr (.inl Y)
def FA{a:List Tx}{u v:Tx}(h:v <:+: u)(b:Pt a u):Pt a v:=by
 rcases b with rfl | ⟨t,d,z⟩
 ·exact .inl (List.infix_nil.mp h)
 ·exact .inr ⟨t,d,h.trans z⟩
def xq(a:List Tx)(u v:Tx)(h:v <:+: u)(b:pb a u=R):pb a v=R:=eT.mpr (FA h (eT.mp b))
def jD{a:List Tx}(h:Ib a){W:Tx}(f:Az W)(g:W.length<=1000):cL [G3 (tabOf a),.str W]=Z (.fr,oF (gp (pb a) W)):=by
 obtain⟨_,nd,i,H,_,_,b,j,d⟩:=h.k;have e:(λw=>(nd w).isSome)=pb a:=funext λw=>by rw[Yb,eT,Cp,← H.some,Yt]
 rw[← e];exact yT H b d f g
section
variable{P:Tx->Bool}
def pN:∀(n:Nat)(v:Tx)(l:List Tx),v.length<=n->P []=R->gp P v=Z l->l.flatten=v/\∀p∈l,P p=R:=by
 intro n
 induction n with
 |zero=>intro v l h _ e;cases YK.mp (Nat.le_zero.mp h);cases e;exact⟨rfl,λ_ h=>nomatch h⟩
 |succ n g =>
  intro v l h d e;by_cases a:v=[]
  ·subst a;cases e;exact⟨rfl,λ_ h=>nomatch h⟩
  rw[pV a]at e;split at e
  ·cases e
  ·rename_i o;obtain⟨f,m,rfl⟩:=Zy.mp e;have kP:=zL v [] d;generalize HB P [] v=k at *;have q:0<v.length:=Y7.mpr a;obtain⟨j,i⟩:=g (v.drop k) f (by rw[Z1];lia) d m;refine⟨by rw[ZV,j,List.take_append_drop],λp b=>?_⟩;rcases Zi.mp b with rfl | b
   ·exact kP
   ·exact i p b
theorem vy(f:P []=R)(d:∀u v,v <:+: u->P u=R->P v=R):∀(ps:List Tx),(∀p∈ps,P p=R)->∃a,a<=ps.length/\cn P ps.flatten=Z a
 |[],_=>⟨0,Zm _,rfl⟩
 |p :: ps,h=>by
  obtain⟨a,i,e⟩:=vy f d ps λq g=>h q (Zu _ g);obtain⟨b,hb,j⟩:=A6 f d (h p Zt) e;exact⟨b,ZJ hb (YX i),by rw[ZV];exact j⟩
end
def Cb{P Q:Tx->Bool}(g:P []=R)(d:Q []=R)(b:∀u v,v <:+: u->Q u=R->Q v=R)(f:List Tx->List Tx)(j:∀l,(f l).length=l.length)(i:∀l,(∀p∈l,P p=R)->∀q∈f l,Q q=R){W:Tx}{n:Nat}(h:cn P W=Z n):∃a l,a<=n/\l.flatten=W/\cn Q (f l).flatten=Z a:=by
 obtain⟨l,e,rfl⟩:=Zy.mp h;obtain⟨r,o⟩:=pN _ W l (Zm _) g e;obtain⟨a,m,s⟩:=vy d b (f l) (i l o);exact⟨a,l,by rw[← j l];exact m,r,s⟩
def Dh{b:List Tx}{w:Tx}:Pt (b.map List.reverse) w↔Pt b w.reverse:=by
 unfold Pt;rw[List.reverse_eq_nil_iff];refine or_congr Iff.rfl ⟨?_,?_⟩
 ·rintro⟨t,a,z⟩;obtain⟨u,d,rfl⟩:=Yq.mp a;exact⟨u,d,by rw[← List.reverse_infix,YQ];exact z⟩
 ·rintro⟨t,a,z⟩;exact⟨t.reverse,Yq.mpr ⟨t,a,rfl⟩,by rw[← List.reverse_infix,YQ];exact z⟩
def uX(b:List Tx)(W:Tx){n:Nat}(h:cn (pb b) W=Z n):∃a,a<=n/\cn (pb (b.map List.reverse)) W.reverse=Z a:=by
 obtain⟨a,l,i,g,e⟩:=Cb (jb b) (jb _) (xq (b.map List.reverse)) (λl=>(l.map List.reverse).reverse) (λl=>by rw[Y6,Zw]) (λl f q d=>by
  obtain⟨p,j,rfl⟩:=Yq.mp (Y2.mp d);rw[eT,Dh,YQ];exact eT.mp (f p j)) h
 rw[← List.reverse_flatten,g]at e;exact⟨a,i,e⟩
def Dz(d:List Tx)(W:Tx):cn (pb (d.map List.reverse)) W.reverse=cn (pb d) W:=by
 have back:∀{n},cn (pb (d.map List.reverse)) W.reverse=Z n->∃a,a<=n/\cn (pb d) W=Z a:=λh=>by
  have:=uX (d.map List.reverse) W.reverse h;rw[Z0,YQ,show (List.reverse ∘ List.reverse:Tx->Tx)=id from funext λt=>YQ t,List.map_id]at this;exact this
 cases h:cn (pb d) W with
 |some n =>
  obtain⟨a,g,e⟩:=uX d W h;obtain⟨b,hb,f⟩:=back e;rw[h]at f;cases f;rw[e,Xi g hb]
 |none =>
  cases i:cn (pb (d.map List.reverse)) W.reverse with
  |none=>rfl
  |some n =>
   obtain⟨b,_,f⟩:=back i;rw[h]at f;cases f
def By(a:List Tx):pb a.reverse=pb a:=funext λw=>by
 rw[Yb,eT,eT];unfold Pt;simp only[Y2]
def AZ(a:List Tx):Pt a.reverse=Pt a:=funext λw=>by
 unfold Pt;simp only[Y2]
def vd(a:List Tx)(W:Tx):(∃l,gp (pb a) W=Z l/\l.length<2)↔Pt a W:=by
 constructor
 ·rintro⟨l,e,h⟩;obtain⟨b,f⟩:=pN _ W l (Zm _) (jb a) e
  match l,h with
  |[],_=>exact .inl b.symm
  |[p],_ =>
   rw[ZV,Wh,Zg]at b;rw[← b];exact eT.mp (f p Zt)
  |_ :: _ :: _,h=>exact absurd h (by simp)
 ·intro h;by_cases d:W=[]
  ·subst d;exact⟨[],rfl,by decide⟩
  ·have:=Cu (jb a) (xq a) d (eT.mpr h);obtain⟨l,e,g⟩:=Zy.mp this;exact⟨l,e,by lia⟩
def Bn{a:List Tx}{W:Tx}(h:Pt a W):gp (pb a) W=Z ([W].take W.length):=by
 obtain⟨l,e,f⟩:=(vd a W).mpr h;obtain⟨b,g⟩:=pN _ W l (Zm _) (jb a) e;rw[e]
 match l,f with
 |[],_ =>
  cases (show W=[] from b.symm);rfl
 |[p],_ =>
  rw[ZV,Wh,Zg]at b;subst b;by_cases d:p=[]
  ·subst d;cases e
  ·rw[YH (by have:=Y7.mpr d;show 1<=_;exact Nat.succ_le_of_lt this)]
 |_ :: _ :: _,h=>exact absurd h (by simp)
def Dp.last{f:List Tx}{W:Tx}{l:Wc}(d:Dp (Pt f) W l):(l.getD W.length 0=W.length↔Pt f W)/\∀q,q <:+ W->Pt f q->q.length<=l.getD W.length 0:=by
 obtain⟨t,e,a,b,c⟩:=d.2 W.length (Zm _);rw[Wm]at b c;rw[e];refine⟨⟨λh=>?_,λh=>Xi b.length_le (ZQ λz=>c W (ZD _) z h)⟩,λq g i=>ZQ λz=>c q g z i⟩;rw[← b.eq_of_length h];exact a
end T44
end
section
namespace T44
open VS AU L2
def zu{j:Nat}{x:Xx}{U a:Env}{m:Md}{t:T}(h:x U=Z ((m,t),a))(b:j<a.length):pS j x U=Z (.nx (a.set j (Z (.pu t)))):=by
 unfold pS;rw[h,Zx,Zq b]
def B6{d e:Nat}{b:Sx}{a:W5}{v:Val}(f:a.length=d)(h:∃U,b (a.map (λt=>Z (.pu t))++List.replicate (e-d) L)=Z (.rt v U)):fn d e b a=Z v:=by
 obtain⟨U,h⟩:=h;exact eQ f h
def gK{a b:Sx}{U U1:Env}{v:Val}(h:a U=Z (.nx U1))(q:∃z,b U1=Z (.rt v z)):∃z,ak a b U=Z (.rt v z):=by
 obtain⟨z,q⟩:=q;exact⟨z,sq h q⟩
def Sb{a:Wb}{j k:Nat}{n:Int}{U:Env}(e:cF [.scr a,.int k]=Z (.fr,.lst [.int n]))(d:U[0]?=Z (pc (.scr a)))(b:j<U.length):j5 j (bh cF (ab (aa 0) (ab (Q2 k) ah))) U=Z (.nx (U.set j (oc (.lst [.int n])))):=by
 show (bh cF _ _).bind _=_;rw[bw (xv (x:=(.fr,.scr a)) (by unfold aa;rw[d];rfl) (xv (r:=ah) (x:=(.fr,.int (k:Int))) Y Y)) e,Zx];exact Zq b
def um(l:Wc):HJ 60 (Ja l)=R:=by
 show (l.map λ(n:Nat)=>T.int (n:Int)).all (HJ 59)=R;rw[Ws];exact Yw.mpr λ_ _=>rfl
def zo{U:Env}{a:Ex}{m:Md}{l:List Tx}(b:a U=Z (m,.lst (l.map .str))):eN bu (ab a ah) U=Z (.fr,.int (l.length:Int)):=iT (xv (r:=ah) b Y) (by show Z (Md.fr,T.int (((l.map T.str).length:Nat):Int))=_;rw[Zw])
theorem qV{α:Type}:∀l:List α,(List.range l.length).filterMap (l[·]?)=l
 |[]=>rfl
 |x :: l=>by
  rw[Zl,List.range_succ_eq_map,Yr];show x :: (List.map Nat.succ (List.range l.length)).filterMap _=_;rw[List.filterMap_map];exact congrArg (x :: ·) (qV l)
theorem sQ{α β:Type}{f g:α->Option β}:∀{l:List α},(∀a∈l,f a=g a)->l.filterMap f=l.filterMap g
 |[],_=>rfl
 |a :: l,h=>by rw[Yr,Yr,h a Zt,sQ λb hb=>h b (Zu _ hb)]
def si{α:Type}(l:List α):pick l (PySem.sliceRange ((l.length:Int)-1) (-1) (-1))=l.reverse:=by
 have e:PySem.sliceRange ((l.length:Int)-1) (-1) (-1)=(List.range l.length).map λ(k:Nat)=>((l.length:Int)-1+(-1)*(k:Int)).toNat:=by
  show (List.range (if (l.length:Int)-1 > -1 then ((l.length:Int)-1 - -1 - -1-1)/(- -1) else 0:Int).toNat).map _=_;rw[show (- -1:Int)=1 from rfl,Int.ediv_one,show (if (l.length:Int)-1 > -1 then ((l.length:Int)-1 - -1 - -1-1) else 0:Int).toNat=l.length by split<;>lia]
 rw[e];unfold pick;rw[List.filterMap_map];refine Eq.trans ?_ (qV l.reverse);rw[Y6];refine sQ λk a=>?_;have a:=YL.mp a;rw[List.getElem?_reverse a];show l[((l.length:Int)-1+(-1)*(k:Int)).toNat]?=_;rw[show ((l.length:Int)-1+(-1)*(k:Int)).toNat=l.length-1-k by lia]
def xK(z:Tx):mS z=z.reverse:=si z
def yB{α:Type}(l:List α):js l L L (Z (-1))=l.reverse:=si l
def Lk:Option Nat->T
 |none=>.non
 |some n=>.int (n:Int)
def ue(g:Option (List Tx)):dP [oF g]=Z (.fr,Lk (g.map List.length)):=by
 cases g with
 |none=>rfl
 |some l=>exact eQ (U:=[pc (.lst (l.map .str))]) Y (sq (eO (m:=.fr) Y Y) (fL (zo (m:=.pu) Y)))
def t8(g:Option Nat):HJ 60 (Lk g)=R:=by cases g<;>rfl
def uz(g:Option (List Tx)):HJ 60 (oF g)=R:=by
 cases g with
 |none=>rfl
 |some l=>exact ib l
def Ib.rev{a:List Tx}(h:Ib a):Ib (a.map List.reverse):=⟨by rw[Zw];exact h.IQ,by
 have:=h.sum;unfold bX at this ⊢;rw[Z0,show (List.length ∘ List.reverse:Tx->Nat)=List.length from funext λt=>Y6];exact this,λt d c e=>by
 obtain⟨u,b,rfl⟩:=Yq.mp d;exact h.az u b c (Y2.mp e)⟩
def Ib.swap{a:List Tx}(h:Ib a):Ib a.reverse:=⟨by rw[Y6];exact h.IQ,by
 have:=h.sum;unfold bX at this ⊢;rw[List.map_reverse,List.sum_reverse];exact this,λt b=>h.az t (Y2.mp b)⟩
abbrev ER(a:List Tx)(W:Tx)(f e d b:W0):Env:=[pc (.lst (a.map .str)),pc (G3 (tabOf a)),Q1 W,f,e,d,b]
def Ae{a:List Tx}(h:Ib a){W:Tx}(f:Az W)(i:W.length<=1000):gL [.lst (a.map .str),G3 (tabOf a),.str W]=Z (.fr,.bl R):=by
 have G:=jD h f i;have X:=jD h.rev (W:=W.reverse) (λc M=>f c (Y2.mp M)) (by rw[Y6];exact i);have D:=jD h.swap f i;rw[By]at D;obtain⟨l,em,d⟩:=uE h f i;obtain⟨l',U,A⟩:=uE h.swap f i;rw[AZ]at A;cases A.same d;have dl:=d.1;obtain⟨w,E⟩:=d.last;have u:=vd a W;have ga:=pN (P:=pb a) W.length W;have ct:=Dz a W;unfold cn at ct;generalize gp (pb a) W=g at *;generalize gp (pb (a.map List.reverse)) W.reverse=N at *;have S:e2 aB (bh dW (ab (aa 1) (ab (aa 2) ah))) (Q2 (-1)) (ER a W (pc (oF g)) (pc (G3 (tabOf (a.map List.reverse)))) (pc (G3 (tabOf a.reverse))) L)=Z (.fr,.int (l.getD W.length 0:Int)):=e2v (bw (xv (x:=(.pu,G3 (tabOf a))) Y (xv (r:=ah) (x:=(.fr,.str W)) Y Y)) em) (y:=(.fr,.int (-1))) Y ((kF (λ(n:Nat)=>T.int (n:Int)) l 0 (by lia)).trans (by rw[dl];rfl));generalize l.getD W.length 0=b at *;refine B6 Y (gK (U1:=ER a W (pc (oF g)) L L L) (aJ (m:=.fr) (bw (xv (x:=(.pu,G3 (tabOf a))) Y (xv (r:=ah) (x:=(.fr,.str W)) Y Y)) G) (by decide) (by show 3<7;decide)) (gK (aJ (m:=.fr) (mJ h.rev (m:=.fr) ?_) (by decide) (by show 4<7;decide)) (gK (aJ (m:=.fr) (mJ h.swap (m:=.fr) ?_) (by decide) (by show 5<7;decide)) (gK (U1:=ER a W (pc (oF g)) (pc (G3 (tabOf (a.map List.reverse)))) (pc (G3 (tabOf a.reverse))) L) (eO (m:=.fr) (e2v (bw (xv (r:=ah) (bw (xv (x:=(.pu,G3 (tabOf (a.map List.reverse)))) Y (xv (r:=ah) (x:=(.fr,.str W.reverse)) ?_ Y)) X) Y) (ue N)) (bw (xv (r:=ah) (x:=up .pu (oF g)) Y Y) (ue g)) (o6 (r:=R) (t8 _) (t8 _) (by rw[ct];exact jo 60 _ (t8 _)))) Y) (gK (eO (m:=.fr) (Uz (m:=.fr) (n:=.fr) (x:=B) (y:=B) (e2v (bw (xv (x:=(.pu,G3 (tabOf a.reverse))) Y (xv (r:=ah) (x:=(.fr,.str W)) Y Y)) U) (bw (xv (x:=(.pu,G3 (tabOf a))) Y (xv (r:=ah) (x:=(.fr,.str W)) Y Y)) em) (o6 (r:=R) (um _) (um _) (jo 60 _ (um _)))) (e2v (bw (xv (x:=(.pu,G3 (tabOf a.reverse))) Y (xv (r:=ah) (x:=(.fr,.str W)) Y Y)) D) (y:=up .pu (oF g)) Y (o6 (r:=R) (uz _) (uz _) (jo 60 _ (uz _))))) Y) (gK (aJ (m:=.fr) S (by decide) (by show 6<7;decide)) ?_))))))
 ·refine(gg (k:=1) (tg:=bL 0) (m:=.pu) T.str (λt=>T.str t.reverse) a Y Y (by have:=h.IQ;lia) λt _=>⟨_,rfl,?_⟩).trans (by rw[Z0];rfl);show Z (Md.fr,T.str (mS t))=_;rw[xK]
 ·show (if _ then Z (Md.fr,T.lst (js (a.map T.str) L L (Z (-1)))) else L)=_;rw[Zq ⟨by rw[Ws];exact Yw.mpr λ_ _=>rfl,by decide⟩,yB,List.map_reverse]
 ·show Z (Md.fr,T.str (mS W))=_;rw[xK]
 ·have o:e2 oEq (aa 6) (eN bu (ab (aa 2) ah)) (ER a W (pc (oF g)) (pc (G3 (tabOf (a.map List.reverse)))) (pc (G3 (tabOf a.reverse))) (Q0 (b:Int)))=Z (.fr,.bl (decide (b=W.length))):=e2v (x:=(.fr,.int (b:Int))) (y:=(.fr,.int (W.length:Int))) Y Y (nN Y Y (by
   show ((b:Int)==(W.length:Int))=_;rw[Yb,beq_iff_eq,decide_eq_true_iff];lia))
  cases g with
  |none =>
   have H:¬b=W.length:=λz=>by
    obtain⟨_,z,_⟩:=u.mpr (w.mp z);cases z
   rw[ZZ H]at o;exact⟨_,sq (eO (m:=.fr) (e2v (x:=(.fr,.bl B)) Y o Y) Y) Y⟩
  |some p =>
   obtain⟨Q,O⟩:=ga p (Zm _) (jb a) Y;have C:g8 (cY (aa 3)) (e2 oLt (eN bu (ab (aa 3) ah)) (Q2 2)) (ER a W (pc (.lst (p.map .str))) (pc (G3 (tabOf (a.map List.reverse)))) (pc (G3 (tabOf a.reverse))) (Q0 (b:Int)))=Z (.fr,.bl (decide ((p.length:Int)<2))):=iI (m:=.fr) (x:=R) Y (λ_=>e2v (zo (m:=.pu) Y) (y:=(.fr,.int 2)) Y Y) λz=>nomatch z
   have same:decide ((p.length:Int)<2)=decide (b=W.length):=by
    rw[Yb,decide_eq_true_iff,decide_eq_true_iff,w,← u];exact⟨λz=>⟨p,rfl,by lia⟩,λ⟨q,e,z⟩=>by cases e;lia⟩
   rw[same]at C;refine⟨_,sq (eO (m:=.fr) (e2v C o (o6 (r:=R) Y Y (by show (_==_)=R;exact beq_self_eq_true _))) Y) (fL (sr (m:=.fr) (x:=B) Y (λ_=>?_) λz=>nomatch z))⟩;cases j:p with
   |nil=>exact sr (m:=.fr) (x:=R) (v:=(.fr,.bl R)) Y (λz=>nomatch z) λ_=>rfl
   |cons q r =>
    rw[← j];have hlen:0<p.length:=by rw[j];exact X8 _
    refine sr (m:=.fr) (x:=B) (v:=(.fr,.bl R)) (e2v (x:=(.pu,.lst (p.map .str))) (y:=(.fr,.lst [])) Y Y (nN (ib p) Y (by rw[j];rfl))) (λ_=>?_) λz=>nomatch z
    have J:p.getD (p.length-1) []∈p:=ir (by omega);have F:p.getD (p.length-1) [] <:+ W:=by
     rw[← Q];obtain⟨s,x,e⟩:∃s x,p=s++[x]:=⟨p.dropLast,p.getLast (by rw[j];simp),(List.dropLast_concat_getLast _).symm⟩
     rw[e,Zv,Zc,YI,il,Z7];simp only[ZV,Wh,Zg];exact List.suffix_append _ _
    have le:=E _ F (eT.mp (O _ J));refine e2v (iT (xv (r:=ah) (e2v (x:=(.pu,.lst (p.map .str))) (y:=(.fr,.int (-1))) Y Y ((kF T.str p [] hlen).trans Y)) Y) Y) (y:=(.fr,.int (b:Int))) Y ?_;show Z (Md.fr,T.bl (decide (((p.getD (p.length-1) []).length:Int)<=(b:Int))))=_;rw[decide_eq_true (by lia)]
end T44
end
section
namespace T44
open VS AU
def Ib.more{b:List Tx}(h:Ib b){t:Tx}(d:Az t)(f:b.length<8)(e:bX b+t.length<=120):Ib (t :: b)/\Ib (b++[t]):=by
 refine⟨⟨f,?_,λu a=>?_⟩,⟨by rw[Zv];exact f,?_,λu a=>?_⟩⟩
 ·unfold bX at e ⊢;rw[Zo,YO];lia
 ·rcases Zi.mp a with rfl | a
  ·exact d
  ·exact h.az u a
 ·unfold bX at e ⊢;rw[ZF,List.sum_append];simp only[Zo,Wu,YO,List.sum_nil];omega
 ·rcases ZY.mp a with a | a
  ·exact h.az u a
  ·cases Zb.mp a;exact d
def DM{a b:Ex}{U:Env}{t:Tx}{n:Md}{k:Nat}(e:a U=Z (.fr,.lst [.str t]))(d:b U=Z (n,.int (k:Int))):Kd a L (Z b) U=Z (.fr,.lst (([t].take k).map .str)):=by
 unfold Kd kW;dsimp only;rw[e,d];show Jz .fr ((([T.str t]:W5).drop 0).take (clip 1 (k:Int)-0))=_;have f:clip 1 (k:Int)=min k 1:=by
  unfold clip;rw[Zp (by lia),XZ]
 rw[f,Nat.sub_zero];cases k with
 |zero=>rfl
 |succ k=>rw[show min (k+1) 1=1 by lia,Xh,List.take_nil];rfl
def add_one{c:Ex}{U:Env}{a:List Tx}{W:Tx}{i:Nat}(d:c U=Z (.pu,.lst (a.map .str)))(b:aa i U=Z (.fr,.str W))(e:a.length<1000):e2 ba c (dk (ab (aa i) ah)) U=Z (.fr,.lst ((a++[W]).map .str)):=by
 refine e2v d (y:=(.fr,.lst [.str W])) (by unfold dk;rw[xv (r:=ah) b Y];rfl) ?_;show Jz _ (a.map T.str++[.str W])=_;rw[vg,yg (by rw[Zw,Zv,Zc];lia),Zq (kh _ (λ_=>rfl) _)]
def zN{c:Ex}{x:Xx}{U U1:Env}{m:Md}{a:List Tx}{t:Tx}(d:x U=Z ((.fr,.str t),U1))(e:c U1=Z (m,.lst (a.map .str)))(f:a.length<1000):sJ (wt x) c U=Z ((.fr,.lst ((t :: a).map .str)),U1):=by
 have b:wt x U=Z ([.str t],U1):=by unfold wt;rw[d];rfl
 unfold sJ;rw[b,Zx];show (c U1).bind _=_;rw[e,Zx];show (if d6 (a.map T.str)=R/\1+(a.map T.str).length<=16777216 then _ else L)=_;rw[Zq ⟨kh _ (λ_=>rfl) _,by rw[Zw];lia⟩];rfl
def BC{x:Xx}{cs:Hf}{g:Fn}{U U1:Env}{m:Md}{t:T}{l:W3}{r:W5}(h:x U=Z ((m,t),U1))(b:cs U1=Z l)(a:g (t :: trees l)=Z (.fr,.lst r)):q9 (lB x cs g) U=Z ((.fr,.int (r.length:Int)),U1):=by
 have:lB x cs g U=Z ((.fr,.lst r),U1):=by
  unfold lB;rw[h,Zx,b,Zx];show (g (t :: trees l)).bind _=_;rw[a];rfl
 unfold q9;rw[this];rfl
abbrev EZ(b:Wb)(n:Int)(L:Tx)(a:List Tx)(h g f e d:W0):Env:=[pc (.scr b),pc (.lst [.int n]),Q1 L,pc (.lst (a.map .str)),pc (G3 (tabOf a)),h,g,f,e,d]
abbrev EY(a:Wb)(g f e d b:W0):Env:=[pc (.scr a),g,f,e,d,b,L,L,L,L]
section
variable{ns:Wb}{n2:Int}{L:Tx}{bk:List Tx}(h:Ib bk)(hL:0<L.length/\L.length<=26/\Az L)
include h hL
theorem turn(m:Int)(d J A s:W0):∃u y7 X S,nA (EZ ns n2 L bk (oc (.lst [.int m])) d J A s)=Z (.nx (EZ ns n2 L bk (oc (.lst [.int u])) d y7 X S)):=by
 have Ru:∀t∈bk,t.length<=120:=λt o=>ZJ (Ib.Ll o) h.sum;obtain⟨f,w,e,g1,g2⟩:=DV hL (λt o=>⟨Ru t o,h.az t o⟩) h.IQ m;have x1:=ci (i:=5) (un:=B) (k:=0) (r:=[.ex (aa 3),.ex (aa 2)]) (l:=[.lst (bk.map .str),.str L]) (U:=EZ ns n2 L bk (oc (.lst [.int m])) d J A s) Y Y Y (λ_=>rfl) Y Y (by
  show (bc (bk.map T.str)&&R)=R;rw[dY _ (λ_=>rfl)];rfl) e
 have q7:=dv (j:=7) (uW (lo:=none) x1 Y (kH (x:=xI (Q2 60)) (bP (m:=.fr) Y Y))) Y (by show 7<10;decide);have wz:Az (cut w none (Z 60)):=qL g1;have wl:=rG w 60;generalize cut w none (Z 60)=W at *;have hp:=jD h wz (by lia);have sm:∀A,eN wQ (ab (gy 1 (bL 0) (hZ (aa 3)) none (eN bu (ab (aa 0) ah))) ah) (EZ ns n2 L bk (oc (.lst [.int f])) d (Q1 W) A s)=Z (.fr,.int (bX bk:Int)):=λA=>iT (xv (r:=ah) (gg (k:=1) (tg:=bL 0) (m:=.pu) T.str (λt=>T.int (t.length:Int)) bk Y Y (by have:=h.IQ;lia) λt _=>⟨_,rfl,rfl⟩) Y) (by
  show (l5 _).bind _=_;rw[ints_map (λ(t:Tx)=>(t.length:Int)) bk,Zx,pM])
 have N6:=h.sum;have lf:∀s,e2 oLt (eN bu (ab (aa 3) ah)) (Q2 8) (EZ ns n2 L bk (oc (.lst [.int f])) d (Q1 W) (pc (Lk ((gp (pb bk) W).map List.length))) s)=Z (.fr,.bl (decide (bk.length<8))):=λs=>e2v (zo (m:=.pu) Y) (y:=(.fr,.int 8)) Y (by
  show Z (Md.fr,T.bl (decide ((bk.length:Int)<8)))=_;rw[show decide ((bk.length:Int)<8)=decide (bk.length<8) from by rw[Yb,decide_eq_true_iff,decide_eq_true_iff];omega])
 have M:cn (pb bk) W=(gp (pb bk) W).map List.length:=rfl;generalize (gp (pb bk) W).map List.length=sz at *;have fin:∃u,Hx (g8 (e2 oLt (eN bu (ab (aa 3) ah)) (Q2 8)) (g8 (e2 Jy (aa 9) (Q2 9)) (cY (aa 8)))) (p5 (Kh (x2 Jy (q9 (lB (lA 1 aD (oq 1 ar (sJ (wt (aN [(.io 5 B),(.px (xI (aa 2))),(.px (xI (Q2 9)))] cf)) (aa 3)))) (ab (aa 7) ah) cL)) (xI (aa 8)))) (eK (eC (.bl B))) dc) dc (EZ ns n2 L bk (oc (.lst [.int f])) d (Q1 W) (pc (Lk sz)) (Q0 (120-(bX bk:Int))))=Z (.nx (EZ ns n2 L bk (oc (.lst [.int u])) d (Q1 W) (pc (Lk sz)) (Q0 (120-(bX bk:Int))))):=by
  by_cases p:bk.length<8/\9<120-bX bk/\∃n,sz=Z n
  ·obtain⟨G,h9,n,rfl⟩:=p;obtain⟨E,t,e8,o,hz⟩:=tH L 9 f hL.1 (by lia) (by decide) (by decide);have o:t.length<=9:=o;have v:=(h.more (λc p=>hL.2.2 c (hz c p)) G (by lia)).1;obtain⟨a,l,ha,D,H⟩:=Cb (P:=pb bk) (Q:=pb (t :: bk)) (jb bk) (jb _) (xq _) id (λ_=>rfl) (λl D q hq=>eT.mpr ((eT.mp (D q hq)).imp id λ⟨x,hx,z⟩=>⟨x,Zu _ hx,z⟩)) M;rw[show (id l).flatten=W from D]at H;obtain⟨F,V4,rfl⟩:=Zy.mp H;have C:=jD v wz (by lia);rw[V4]at C;have mm:=yn v (zN (c:=aa 3) (m:=.pu) (cx (i:=5) (un:=B) (k:=0) (r:=[.px (xI (aa 2)),.px (xI (Q2 9))]) (l:=[.str L,.int 9]) (U:=EZ ns n2 L bk (oc (.lst [.int f])) d (Q1 W) (pc (Lk (Z n))) (Q0 (120-(bX bk:Int)))) Y (lS (t:=.str L) (bP (m:=.fr) Y Y) Y (lS (t:=.int 9) (bP (m:=.fr) Y Y) Y Y)) Y Y Y Y e8) Y (by lia));have ln:=BC (U1:=EZ ns n2 L bk (oc (.lst [.int E])) d (Q1 W) (pc (Lk (Z n))) (Q0 (120-(bX bk:Int)))) mm (cs:=ab (aa 7) ah) (xv (r:=ah) (x:=(.fr,.str W)) Y Y) (g:=cL) (r:=F.map .str) C;rw[Zw]at ln;refine⟨E,JA (m:=.fr) (iI (lf _) (λ_=>Gk (m:=.fr) (n:=.fr) (x:=R) (y:=R) (e2v (x:=(.fr,.int (120-(bX bk:Int)))) (y:=(.fr,.int 9)) Y Y ?_) Y) λz=>absurd G (of_decide_eq_false z)) ((sT (Cm (b:=B) (iN (m:=.fr) ln (bP (m:=.fr) (t:=.int (n:Int)) Y Y) ?_ Y Y Y))).trans Y)⟩
   ·show Z (Md.fr,T.bl (decide ((9:Int)<120-(bX bk:Int))))=_;rw[decide_eq_true (by lia)]
   ·show Z (Md.fr,T.bl (decide ((n:Int)<(F.length:Int))))=_;rw[ZZ (by lia)]
  ·refine⟨f,eO (m:=.fr) (iI (lf _) (λz=>iI (m:=.fr) (x:=decide ((9:Int)<120-(bX bk:Int))) (e2v (x:=(.fr,.int (120-(bX bk:Int)))) (y:=(.fr,.int 9)) Y Y Y) (λN=>?_) λ_=>rfl) λ_=>rfl) Y⟩;have O:=of_decide_eq_true z;have z3:=of_decide_eq_true N;cases sz with
   |none=>rfl
   |some n=>exact absurd ⟨O,by omega,n,rfl⟩ p
 obtain⟨u,fin⟩:=fin;refine⟨u,_,_,_,sq q7 (sq (eO (uj (m:=.fr) (bw (xv (x:=(.pu,.lst (bk.map .str))) Y (xv (x:=(.pu,G3 (tabOf bk))) Y (xv (r:=ah) (x:=(.fr,.str W)) Y Y))) (Ae h wz (by lia)))) Y) (sq (U1:=EZ ns n2 L bk (oc (.lst [.int f])) d (Q1 W) (pc (Lk sz)) s) (aJ (m:=.fr) (bw (xv (r:=ah) (bw (xv (x:=(.pu,G3 (tabOf bk))) Y (xv (r:=ah) (x:=(.fr,.str W)) Y Y)) hp) Y) ?_) (by decide) (by show 8<10;decide)) (sq (aJ (m:=.fr) (e2v (x:=(.fr,.int 120)) Y (sm _) Y) (by decide) (by show 9<10;decide)) (sq (U1:=EZ ns n2 L bk (oc (.lst [.int f])) d (Q1 W) (pc (Lk sz)) (Q0 (120-(bX bk:Int)))) ?_ fin))))⟩
 ·rw[← M];exact ue _
 ·by_cases p:bk.length<8/\W.length<=120-bX bk
  ·have v:=(h.more wz p.1 (by omega)).2;have C:=jD v wz (by lia);rw[Bn (.inr ⟨W,ZK _ Zt,List.infix_refl _⟩)]at C;refine JA (m:=.fr) (iI (lf _) (λ_=>e2v (x:=(.fr,.int (120-(bX bk:Int)))) (y:=(.fr,.int (W.length:Int))) Y Y ?_) λz=>absurd p.1 (of_decide_eq_false z)) (eO (m:=.fr) (e2v (bw (xv (mJ v (m:=.fr) (add_one Y Y (by lia))) (xv (r:=ah) (x:=(.fr,.str W)) Y Y)) C) (DM (t:=W) (n:=.fr) (k:=W.length) Y Y) (o6 (r:=R) (ib _) (ib _) (jo 60 _ (ib _)))) Y);show Z (Md.fr,T.bl (decide ((W.length:Int)<=120-(bX bk:Int))))=_;rw[decide_eq_true (by omega)]
  ·refine eO (m:=.fr) (iI (lf _) (λz=>e2v (x:=(.fr,.int (120-(bX bk:Int)))) (y:=(.fr,.int (W.length:Int))) Y Y ?_) λ_=>rfl) Y;have z:=of_decide_eq_true z;show Z (Md.fr,T.bl (decide ((W.length:Int)<=120-(bX bk:Int))))=_;rw[ZZ (by lia)]
end
def zx(ns:Wb)(q:ns.length<=63):yC [.scr ns]=Z (.fr,.bl R):=by
 obtain⟨n,e1⟩:=rK ns q 0 (by decide);obtain⟨o,L,D,w,C,v⟩:=BJ n;have p:0<L.length/\L.length<=26/\Az L:=⟨w,C,v⟩
 obtain⟨n2,bk,y,A,bs,z⟩:=D1 p o;have h:Ib bk:=⟨A,bs,z⟩
 obtain⟨m,x⟩:=rK ns q 1 (by decide);have u:=dv (j:=2) (cx (i:=1) (un:=B) (k:=0) (r:=[]) (l:=[]) (U:=EY ns (oc (.lst [.int n])) none none none none) Y Y Y Y Y Y D) Y (by show 2<10;decide);have s:=zu (j:=3) (cx (i:=1) (un:=B) (k:=0) (r:=[.px (xI (aa 2))]) (l:=[.str L]) (U:=EY ns (oc (.lst [.int o])) (Q1 L) none none none) Y (lS (t:=.str L) (bP (m:=.fr) Y Y) Y Y) Y Y Y Y y) (by show 3<10;decide);obtain⟨H,f1,g,f,d,b,a,rfl⟩:=i9 (tg:=bL 6) (body:=nA) (λ(k:Nat)=>T.int (k:Int)) (λ_ U=>∃(m:Int)(f d b a:W0),U=EZ ns n2 L bk (oc (.lst [.int m])) f d b a) (by
  rintro k r _ ⟨m,f,d,b,a,rfl⟩;obtain⟨g,G,F,E,e⟩:=turn (ns:=ns) (n2:=n2) h p m (Q0 (k:Int)) d b a;exact⟨_,_,rfl,e,g,_,_,_,_,rfl⟩) (List.range 2) (EZ ns n2 L bk (oc (.lst [.int m])) none none none none) ⟨m,_,_,_,_,rfl⟩
 refine B6 Y (gK (Sb (k:=0) e1 Y (by show 1<10;decide)) (gK u (gK s (gK (U1:=EY ns (pc (.lst [.int n2])) (Q1 L) (pc (.lst (bk.map .str))) none none) Y (gK (aJ (m:=.fr) (mJ h (m:=.pu) Y) (by decide) (by show 4<10;decide)) (gK (Sb (k:=1) x Y (by show 5<10;decide)) (gK ((fz (m:=.fr) ?_ Y).trans f1) (gK (U1:=EZ ns n2 L bk (pc (.lst [.int g])) f d b a) Y ⟨_,rfl⟩))))))));rw[gv (m:=.fr) (j:=2) Y (by decide),i8];rfl
end T44
end
section
namespace T44
open PySem PySem.Spec PyProof.Rows L2 VS
def qv{G:Gx}{X:Cx}{x:Str}{p:Pos}(i:Nat)(a:X.N[i]?=Z x:=by exact rfl)(b:IJ X.env.scope x:=by exact Or.inl Y)(c:K3 x:=by rfl)(d:K4 x:=by rfl):PV G X (.Name x p) (aa i):=eR i a b c d
def Q3{α:Sort _}{x:α}{b:Prop}:x=x∨b:=.inl Y
abbrev Q4:List Str:=["_law_book_here", "_law_table", "_law_word_here"]
abbrev Q5:List Str:=["_law_k", "_law_spring_here", "_law_letters", "_law_few", "_law_start", "_law_step"]
abbrev Q6:List Str:=["_law_k", "_law_spring_here", "_law_signs_here", "_law_most"]
abbrev Q7:List Str:=["_law_script", "_law_k"]
abbrev Q8:List Str:=["_law_some"]
abbrev Q9:List Str:=["_law_spring_here", "_law_book_here", "_law_signs_here"]
abbrev Qa:List Str:=["_law_spring_here", "_law_most"]
abbrev Qb:List Str:=["_law_spring_here", "_law_signs_here", "_law_most"]
abbrev Qc:List Str:=["_law_spring_here", "_law_signs_here"]
abbrev Qd:List Str:=["_law_spring_here"]
abbrev Qe:List Str:=["_law_text_here", "_law_book_here", "_law_table", "_law_word_here", "_law_got", "_law_turned", "_law_other", "_law_last"]
abbrev Qf:List Str:=["_law_text_here", "_law_script", "_law_spring_here", "_law_signs_here", "_law_book_here", "_law_table", "_law_more", "_law_turn", "_law_word_here", "_law_size_here", "_law_left"]
abbrev Qg:List Str:=["book", "number"]
abbrev Qh:List Str:=["self", "book"]
abbrev Qi:List Str:=["self", "head", "sign"]
abbrev Qj:List Str:=["self", "head", "word"]
abbrev Qk:List Str:=["self", "long", "link", "ways"]
abbrev Ql:List Str:=["self", "node", "numbers"]
abbrev Qm:List Str:=["self", "node", "sign"]
abbrev Qn:List Str:=["self", "text", "word"]
abbrev Qo:List Str:=["self"]
abbrev Qp:List Str:=["sign", "self", "node", "numbers", "link", "ways", "steps"]
abbrev Qq:List Str:=["table", "stand", "long", "sign"]
abbrev Qr:List Str:=["table", "stand"]
abbrev Qs:List Str:=["table", "word"]
def top(i:Nat):Stmt:=PySem.Challenge.pw_allparts_k44_whole_pieces_turned_about.main.body.getD i (.Pass ⟨0,0,0,0⟩)
structure HP(mg:X6):Prop where
 M0:mg "bool" = none
 JK:mg "dict" = none
 OD:mg "int" = none
 HW:mg "isinstance" = none
 GT:mg "len" = none
 MZ:mg "list" = none
 OC:mg "min" = none
 HH:mg "range" = none
 Jt:mg "sorted" = none
 L8:mg "sum" = none
 LJ:mg "tuple" = none
 Jf:∃t,mg "MOST_SIGNS" = some (.int 120 t)
 Je:∃t,mg "MOST_TEXTS" = some (.int 8 t)
abbrev LV:List Str:=["  ", "longs", "links", "ways", "texts", "heads", "nodes"]
abbrev gX(K:Xd)(C D:KF):Gx:=Ld LV K C D
def gJ{K:Xd}{C D:KF}{m:Me}:jT ((Ld LV K C D).at m):=Bo (by decide +kernel) (by decide +kernel)
structure HC(K:Xd)(mg:X6)(C D:KF):Prop where
 GQ:HZ K C
 KG:mg "Nodes" = some (.ref C)
 Hm:aV K C "longs"
 Hn:aV K C "links"
 Hy:aV K C "ways"
 Hk:aV K C "texts"
 Ho:aV K C "heads"
 Hl:aV K C "nodes"
 GP:HZ K D
 JF:mg "Machine" = some (.ref D)
 Ha:aV K D "longs"
 Hb:aV K D "links"
 Hh:aV K D "ways"
 G8:aV K D "texts"
 Hc:aV K D "heads"
 G9:aV K D "nodes"
def fD{K:Xd}{a:X6}{C D:KF}{m:Me}(O:HC K a C D):HN ((Ld LV K C D).at m) K 1 "longs" := wC Y O.GQ O.GP O.Hm O.Ha
def fG{K:Xd}{a:X6}{C D:KF}{m:Me}(O:HC K a C D):HN ((Ld LV K C D).at m) K 2 "links" := wC Y O.GQ O.GP O.Hn O.Hb
def eA{K:Xd}{a:X6}{C D:KF}{m:Me}(O:HC K a C D):HN ((Ld LV K C D).at m) K 3 "ways" := wC Y O.GQ O.GP O.Hy O.Hh
def d7{K:Xd}{a:X6}{C D:KF}{m:Me}(O:HC K a C D):HN ((Ld LV K C D).at m) K 4 "texts" := wC Y O.GQ O.GP O.Hk O.G8
def kI{K:Xd}{a:X6}{C D:KF}{m:Me}(O:HC K a C D):HN ((Ld LV K C D).at m) K 5 "heads" := wC Y O.GQ O.GP O.Ho O.Hc
def ou{K:Xd}{a:X6}{C D:KF}{m:Me}(O:HC K a C D):HN ((Ld LV K C D).at m) K 6 "nodes" := wC Y O.GQ O.GP O.Hl O.G9
section
variable(P:P3)(w:SZ)(base:SL){K:Xd}{mg:X6}{C D:KF}
abbrev fg:Stmt:=inClass (top 21) 1
def kN:gV Qk Qk (ai fg):=by constructor<;>first | rfl | decide +kernel
def aM{f:KF}{d:Pv}(F:GW K "new_node" "Nodes.new_node" fg f d)(a:Meth K C "new_node" f)(B:HP mg)(O:HC K mg C D) :
  MtAt P w K mg base 1 (gX K C D) 0 "new_node" Qk [false,false,R] aI:=lL F a O.GQ (gx (by decide +kernel) (by decide +kernel)) kN Y Y (λ_ _ _ _ _ _ e b=>by obtain⟨_,_,_,_,rfl⟩:=L2.FT b;rfl) λ_ _ _ _ _ _ _ g =>
  (af (pZ gJ (fH 1 (fD O) (bI 0)) (ae (qv 1) ag))
  (af (pZ gJ (fH 2 (fG O) (bI 0)) (ae (qv 2) ag))
  (af (AQ gJ (fH 3 (eA O) (bI 0)) Y Y Q3 Y Y Y Y Y Y Y Y)
  (aq (bp (i7 qc pE (cP B.GT (ae (w_fld gJ (fD O) (qv 0)) ag)) aj))))))
abbrev eW:Stmt:=inClass (top 21) 0
def kQ:gV Qo Qo (ai eW):=by constructor<;>first | rfl | decide +kernel
def cN{f:KF}{e:Pv}(F:GW K "__init__" "Nodes.__init__" eW f e)(b:Mk K C f)(B:HP mg)(O:HC K mg C D)(g:MtAt P w K mg base 1 (gX K C D) 0 "new_node" Qk [false,false,R] aI) :
  InAt P w K mg base 2 (gX K C D) 0 0 "Nodes" Qo du:=DZ F b O.KG kQ Y Y (λ_ _ _ _ _ _ h d=>by obtain⟨_,rfl⟩:=L2.nL d;rfl) λ_ _ _ _ _ _ _ a =>
  (af (lJ 0 1 gJ (fD O) (cI ag))
  (af (lJ 0 2 gJ (fG O) (cI ag))
  (af (lJ 0 3 gJ (eA O) (cI ag))
  (aq (rz (iA gJ g.at a (by decide) (bI 0) (ae aj (ae qM (ae xX ag)))) Y)))))
abbrev cH:Stmt:=inClass (top 21) 4
def aY:gV ["self", "node", "sign", "old", "long", "half"] Qm (ai cH):=by constructor<;>first | rfl | decide +kernel
def aT{f:KF}{e:Pv}(F:GW K "node_just_behind" "Nodes.node_just_behind" cH f e)(b:Meth K C "node_just_behind" f)(B:HP mg)(O:HC K mg C D)(g:MtAt P w K mg base 1 (gX K C D) 0 "new_node" Qk [false,false,R] aI) :
  MtAt P w K mg base 2 (gX K C D) 0 "node_just_behind" Qm [false,false] av:=lL F b O.GQ (gx (by decide +kernel) (by decide +kernel)) aY Y Y (λ_ _ _ _ _ _ h d=>by obtain⟨_,_,_,rfl⟩:=L2.qo d;rfl) λ_ _ _ _ _ _ _ a =>
  (af (aA (ub a (bx (w_fld gJ (eA O) (qv 0)) (qv 1) (λ_ _=>rfl)) (qv 2) (λ_ _=>rfl)) aY.nd Y Q3)
  (af (aA (w_add (bx (w_fld gJ (fD O) (qv 0)) (qv 1) (λ_ _=>rfl)) aj) aY.nd Y Q3)
  (af (bK (sv a (bx (w_fld gJ (fD O) (qv 0)) (qv 3) (λ_ _=>rfl)) (qv 4)) (aq (cQ 3 Y (Or.inl Y) Y Y)) aX)
  (af (cu (iA gJ g.at a (by decide) (bI 0) (ae (qv 4) (ae (bx (w_fld gJ (fG O) (qv 0)) (qv 3) (λ_ _=>rfl)) (ae (BI B.JK (ae (bx (w_fld gJ (eA O) (qv 0)) (qv 3) (λ_ _=>rfl)) ag) Y Y) ag)))) aY.nd Y Q3)
  (af (iZ gJ a (fH 2 (fG O) (bI 0)) (qv 3) (qv 5))
  (af (ie Z6 (Ke.Mo (kg (jE (qv 1)) (kR (sv a (w_get a (bx (w_fld gJ (eA O) (qv 0)) (qv 1) (λ_ _=>rfl)) (qv 2) Y Y Y Y) (qv 3)))))
  (af (iZ gJ a (Ca a (fH 3 (eA O) (bI 0)) (qv 1) (λ_ _=>rfl) Y) (qv 2) (qv 5))
  (aq (aA (bx (w_fld gJ (fG O) (qv 0)) (qv 1) (λ_ _=>rfl)) aY.nd Y Q3))))
  (aq (cQ 5 Y (Or.inl Y) Y Y))))))))
abbrev dz:Stmt:=inClass (top 21) 3
def cE:gV ["self", "head", "sign", "fresh", "node"] Qi (ai dz):=by constructor<;>first | rfl | decide +kernel
def bQ{f:KF}{g:Pv}(F:GW K "head_behind" "Nodes.head_behind" dz f g)(d:Meth K C "head_behind" f)(B:HP mg)(O:HC K mg C D)(h:MtAt P w K mg base 1 (gX K C D) 0 "new_node" Qk [false,false,R] aI)(b:MtAt P w K mg base 2 (gX K C D) 0 "node_just_behind" Qm [false,false] av) :
  MtAt P w K mg base 3 (gX K C D) 0 "head_behind" Qi [false,false] bO:=lL F d O.GQ (gx (by decide +kernel) (by decide +kernel)) cE Y Y (λ_ _ _ _ _ _ i e=>by obtain⟨_,_,_,rfl⟩:=L2.qo e;rfl) λ_ _ _ _ _ _ _ a =>
  (af (bK (BX a (qv 2) (bx (w_fld gJ (eA O) (qv 0)) (qv 1) (λ_ _=>rfl)) (by with_unfolding_all rfl) Y) (aq (vt (iA gJ b.at a (by decide) (bI 0) (ae (qv 1) (ae (qv 2) ag))))) aX)
  (af (cu (iA gJ h.at a (by decide) (bI 0) (ae (w_add (bx (w_fld gJ (fD O) (qv 0)) (qv 1) (λ_ _=>rfl)) aj) (ae aj (ae xX ag)))) cE.nd Y Q3)
  (af (aA (qv 1) cE.nd Y Q3)
  (af (ie Z6 (Ke.Mo (kg (jE (qv 4)) (kR (tP a (qv 2) (bx (w_fld gJ (eA O) (qv 0)) (qv 4) (λ_ _=>rfl)) (by with_unfolding_all rfl)))))
  (af (iZ gJ a (Ca a (fH 3 (eA O) (bI 0)) (qv 4) (λ_ _=>rfl) Y) (qv 2) (qv 3))
  (aq (aA (bx (w_fld gJ (fG O) (qv 0)) (qv 4) (λ_ _=>rfl)) cE.nd Y Q3))))
  (af (bK (jE (qv 4)) (aq (qq gJ a (fH 2 (fG O) (bI 0)) (qv 3) (iA gJ b.at a (by decide) (bI 0) (ae (qv 4) (ae (qv 2) ag))) (λ_=>rfl) Y Y Y)) aX)
  (aq (cQ 3 Y (Or.inl Y) Y Y)))))))
abbrev dQ:Stmt:=inClass (top 21) 2
def dy:gV ["self", "head", "word", "sign"] Qj (ai dQ):=by constructor<;>first | rfl | decide +kernel
def b9{f:KF}{e:Pv}(F:GW K "head_grown" "Nodes.head_grown" dQ f e)(b:Meth K C "head_grown" f)(B:HP mg)(O:HC K mg C D)(g:MtAt P w K mg base 3 (gX K C D) 0 "head_behind" Qi [false,false] bO) :
  MtAt P w K mg base 4 (gX K C D) 0 "head_grown" Qj [false,false] aO:=lL F b O.GQ (gx (by decide +kernel) (by decide +kernel)) dy Y Y (λ_ _ _ _ _ _ h d=>by obtain⟨_,_,_,rfl⟩:=L2.qo d;rfl) λ_ _ _ _ _ _ _ a =>
  (af (fT Z6 Y (fq (qv 2)) (bR 3 dy.nd Y Q3 Q3)
  (aq (cu (iA gJ g.at a (by decide) (bI 0) (ae (qv 1) (ae (qv 3) ag))) dy.nd Y Q3)))
  (aq (cQ 1 Y (Or.inl Y) Y Y)))
abbrev cO:Stmt:=inClass (top 21) 6
def aL:gV ["self", "numbers", "met", "done", "ways", "sign"] Qo (ai cO):=by constructor<;>first | rfl | decide +kernel
def bg{m:Me}{f:KF}{e:Pv}(F:GW K "numbers_by_node" "Nodes.numbers_by_node" cO f e)(b:Meth K C "numbers_by_node" f)(B:HP mg)(O:HC K mg C D) :
  MpAt P w K mg base 1 ((gX K C D).at m) 0 "numbers_by_node" Qo aH:=nK F b O.GQ (gx (by decide +kernel) (by decide +kernel)) aL Y Y (λ_ _ _ _ _ _ g d=>by obtain⟨_,rfl⟩:=L2.nL d;rfl) λ_ _ _ _ _ _ a =>
  (af (fm Ee aL.nd Y Q3)
  (af (fm (cI (ae aj ag)) aL.nd Y Q3)
  (af (aA aj aL.nd Y Q3)
  (af (ie Z6 (rX (qv 3) (cP B.GT (ae (qv 2) ag)))
  (af (aA (bx (w_fld gJ (eA O) (qv 0)) (bx (qv 2) (qv 3) (λ_ _=>rfl)) (λ_ _=>rfl)) aL.nd Y Q3)
  (af (fT Z6 Y (fq (vK B.Jt (ae (qv 4) ag))) (bR 5 aL.nd Y Q3 Q3)
  (aq (bK (tP a (ub a (qv 4) (qv 5) (λ_ _=>rfl)) (qv 1) (by with_unfolding_all rfl)) (af (CV 1 a (ub a (qv 4) (qv 5) (λ_ _=>rfl)) (cP B.GT (ae (qv 2) ag)) Y Q3 Y Y (λ_=>rfl) Y Y Y)
  (aq (iq 2 (ae (ub a (qv 4) (qv 5) (λ_ _=>rfl)) ag) Y Y Q3 Y Y))) aX)))
  (aq (aA (w_add (qv 3) aj) aL.nd Y Q3)))))
  (qJ 2 (aq (cQ 1 Y (Or.inl Y) Y Y)))))))
abbrev gw:Stmt:=inClass (top 21) 7
def dN:gV ["self", "node", "numbers", "link", "ways", "steps"] Ql (ai gw):=by constructor<;>first | rfl | decide +kernel
def dj{m:Me}{f:KF}{e:Pv}(F:GW K "row_of" "Nodes.row_of" gw f e)(b:Meth K C "row_of" f)(B:HP mg)(O:HC K mg C D) :
  MpAt P w K mg base 1 ((gX K C D).at m) 0 "row_of" Ql bZ:=nK F b O.GQ (gx (by decide +kernel) (by decide +kernel)) dN Y Y (λ_ _ _ _ _ _ g d=>by obtain⟨_,_,_,rfl⟩:=L2.qo d;rfl) λ_ _ _ _ _ _ a =>
  (af (aA (bx (w_fld gJ (fG O) (qv 0)) (qv 1) (λ_ _=>rfl)) dN.nd Y Q3)
  (af (aA (bx (w_fld gJ (eA O) (qv 0)) (qv 1) (λ_ _=>rfl)) dN.nd Y (Or.inr Y))
  (af (aA (Bm B.LJ (ae (kc 1 Qp Y (fq (vK B.Jt (ae (eR 4 Y (Or.inr Q3) Y Y) ag))) (jB) (λ_ _ _ _ _=>(bR 0 (show List.Nodup Qp from by decide +kernel) Y Q3 (Or.inr Y))) (λ_ _ _ _ _=>(lK (ae (qv 0) (ae (B7 a (eR 3 Y (Or.inr Q3) Y Y) (ub a (eR 5 Y (Or.inr Q3) Y Y) (qv 0) (λ_ _=>rfl)) (λ_ _=>rfl) Y) ag)))) Y Y (by decide)) ag)) dN.nd Y Q3)
  (af (bK (yk (qv 3)) (aq (bp (lK (ae aj (ae aj (ae qM (ae (qv 5) ag))))))) aX)
  (aq (bp (lK (ae (w_add (bx (w_fld gJ (fD O) (qv 0)) (qv 3) (λ_ _=>rfl)) aj) (ae (bx (w_fld gJ (fD O) (qv 0)) (qv 1) (λ_ _=>rfl)) (ae (B7 a (eR 2 Y (Or.inr Q3) Y Y) (qv 3) (λ_ _=>rfl) Y) (ae (qv 5) ag)))))))))))
abbrev gU:Stmt:=inClass (top 21) 5
def i6:gV ["self", "numbers"] Qo (ai gU):=by constructor<;>first | rfl | decide +kernel
def dC{m:Me}{f:KF}{e:Pv}(F:GW K "table" "Nodes.table" gU f e)(b:Meth K C "table" f)(B:HP mg)(O:HC K mg C D)(h:∀m,MpAt P w K mg base 1 ((gX K C D).at m) 0 "numbers_by_node" Qo aH)(g:∀m,MpAt P w K mg base 1 ((gX K C D).at m) 0 "row_of" Ql bZ) :
  MpAt P w K mg base 2 ((gX K C D).at m) 0 "table" Qo dJ:=nK F b O.GQ (gx (by decide +kernel) (by decide +kernel)) i6 Y Y (λ_ _ _ _ _ _ i d=>by obtain⟨_,rfl⟩:=L2.nL d;rfl) λ_ _ _ _ _ _ a =>
  (af (fm (hJ (h _) a (by decide) (eR 0 Y (Or.inr Q3) Y Y) Y) i6.nd Y (Or.inr Y))
  (aq (C7 1 ["node", "self", "numbers"] Y Y (Or.inr Q3) Y Y (jB) (λ_ _ _ _ _=>(bR 0 (show List.Nodup (["node", "self", "numbers"]:List Str) from by decide +kernel) Y Q3 (Or.inr Y))) (λ_ _ _ _ _=>(AV (g _) a (by decide) (eR 1 Y (Or.inr Q3) Y Y) (ae (qv 0) (ae (eR 2 Y (Or.inr Q3) Y Y) ag)) Y Y Y)) Y Y (by decide) (λ_=>rfl))))
abbrev fM:Stmt:=inClass (top 23) 1
def lG:gV Qo Qo (ai fM):=by constructor<;>first | rfl | decide +kernel
def cV{f:KF}{d:Pv}(F:GW K "begin" "Machine.begin" fM f d)(a:Meth K D "begin" f)(B:HP mg)(O:HC K mg C D) :
  MtAt P w K mg base 1 (gX K C D) 1 "begin" Qo [] bC:=lL F a O.GP (gx (by decide +kernel) (by decide +kernel)) lG Y Y (λ_ _ _ _ _ _ e b=>by obtain⟨_,rfl⟩:=L2.nL b;rfl) λ_ _ _ _ _ _ _ g =>
  (af (bK (BU (cP B.GT (ae (w_fld gJ (d7 O) (qv 0)) ag)) (vq B.Je Y Y)) (aq qu) aX)
  (af (pZ gJ (fH 4 (d7 O) (bI 0)) (ae (lI (by decide +kernel) (by decide)) ag))
  (af (pZ gJ (fH 5 (kI O) (bI 0)) (ae aj ag))
  (aq (bp (i7 qc pE (cP B.GT (ae (w_fld gJ (d7 O) (qv 0)) ag)) aj))))))
abbrev jP:Stmt:=top 8
def sV:gV ["thing"] ["thing"] (ai jP):=by constructor<;>first | rfl | decide +kernel
def dm{m:Me}{f:KF}{d:Pv}(F:GW K "is_whole" "is_whole" jP f d)(a:mg "is_whole" = Z (.ref f))(B:HP mg)(O:HC K mg C D) :
  FnAt P w K mg base 1 "is_whole" ["thing"] ((gX K C D).at m) gk:=iO F a sV Y Y (λ_ _ _ _ _ _ e b=>by obtain⟨_,rfl⟩:=L2.nL b;rfl) λ_ _ _ _ _ _ g =>
  (aq (bp (zp (w_is .int B.HW B.OD (qv 0)) (ua (Do (w_is .bool B.HW B.M0 (qv 0)))))))
abbrev eU:Stmt:=top 9
def ka:gV Qg Qg (ai eU):=by constructor<;>first | rfl | decide +kernel
def cM{m:Me}{f:KF}{e:Pv}(F:GW K "refuse_no_text" "refuse_no_text" eU f e)(b:mg "refuse_no_text" = Z (.ref f))(B:HP mg)(O:HC K mg C D)(g:∀m,FnAt P w K mg base 1 "is_whole" ["thing"] ((gX K C D).at m) gk) :
  FnAt P w K mg base 2 "refuse_no_text" Qg ((gX K C D).at m) bf:=iO F b ka Y Y (λ_ _ _ _ _ _ h d=>by obtain⟨_,_,rfl⟩:=L2.dZ d;rfl) λ_ _ _ _ _ _ a =>
  (aq (bK (Ke.Mo (tu (kL (pY (cy (g _) a (ae (qv 1) ag) (by decide) Y Y))) (ur (kL (ju aj (qv 1) (cP B.GT (ae (qv 0) ag)) (by with_unfolding_all rfl)))))) (aq qu) aX))
abbrev jN:Stmt:=top 10
def sS:gV ["book"] ["book"] (ai jN):=by constructor<;>first | rfl | decide +kernel
def gn{m:Me}{f:KF}{d:Pv}(F:GW K "signs_in" "signs_in" jN f d)(a:mg "signs_in" = Z (.ref f))(B:HP mg)(O:HC K mg C D) :
  FnAt P w K mg base 1 "signs_in" ["book"] ((gX K C D).at m) gu:=iO F a sS Y Y (λ_ _ _ _ _ _ e b=>by obtain⟨_,rfl⟩:=L2.nL b;rfl) λ_ _ _ _ _ _ g =>
  (aq (bp (w_sum B.L8 (ae (kc 1 ["text", "book"] Y (fq (qv 0)) (jB) (λ_ _ _ _ _=>(bR 0 (show List.Nodup (["text", "book"]:List Str) from by decide +kernel) Y Q3 (Or.inr Y))) (λ_ _ _ _ _=>(cP B.GT (ae (qv 0) ag))) Y Y (by decide)) ag))))
abbrev gq:Stmt:=inClass (top 23) 2
def mq:gV Qn Qn (ai gq):=by constructor<;>first | rfl | decide +kernel
def dh{f:KF}{g:Pv}(F:GW K "grow" "Machine.grow" gq f g)(b:Meth K D "grow" f)(B:HP mg)(O:HC K mg C D)(i:MtAt P w K mg base 4 (gX K C D) 0 "head_grown" Qj [false,false] aO)(h:∀m,FnAt P w K mg base 2 "refuse_no_text" Qg ((gX K C D).at m) bf)(e:∀m,FnAt P w K mg base 1 "signs_in" ["book"] ((gX K C D).at m) gu) :
  MtAt P w K mg base 5 (gX K C D) 1 "grow" Qn [false,false] bA:=lL F b O.GP (gx (by decide +kernel) (by decide +kernel)) mq Y Y (λ_ _ _ _ _ _ j d=>by obtain⟨_,_,_,rfl⟩:=L2.qo d;rfl) λ_ _ _ _ _ _ _ a =>
  (af (yj (cy (h _) a (ae (w_fld gJ (d7 O) (qv 0)) (ae (qv 1) ag)) (by decide) Y Y) Y)
  (af (bK (vi (w_add (cy (e _) a (ae (w_fld gJ (d7 O) (qv 0)) ag) (by decide) Y Y) (cP B.GT (ae (qv 2) ag))) (vq B.Jf Y Y)) (aq qu) aX)
  (af (qq gJ a (fH 5 (kI O) (bI 0)) (qv 1) (iA gJ i.at a (by decide) (fH 6 (ou O) (bI 0)) (ae (bx (w_fld gJ (kI O) (qv 0)) (qv 1) (λ_ _=>rfl)) (ae (qv 2) ag))) (λ_=>rfl) Y Y Y)
  (aq (iZ gJ a (fH 4 (d7 O) (bI 0)) (qv 1) (w_add (bx (w_fld gJ (d7 O) (qv 0)) (qv 1) (λ_ _=>rfl)) (qv 2)))))))
abbrev b7:Stmt:=inClass (top 23) 0
def fR:gV ["self", "book", "text"] Qh (ai b7):=by constructor<;>first | rfl | decide +kernel
def aE{f:KF}{h:Pv}(F:Kg K "__init__" "Machine.__init__" b7 f h)(e:Mk K D f)(B:HP mg)(O:HC K mg C D)(j:MtAt P w K mg base 1 (gX K C D) 1 "begin" Qo [] bC)(i:MtAt P w K mg base 5 (gX K C D) 1 "grow" Qn [false,false] bA)(l:InAt P w K mg base 2 (gX K C D) 0 0 "Nodes" Qo du) :
  InAt P w K mg base 6 (gX K C D) 1 1 "Machine" Qh ar:=Bj F e O.JF fR Y Y (λ_ _ _ _ _ _ _ _ _ _ m X d b g=>by obtain⟨_,_,rfl⟩:=L2.dZ g;exact PySem.W.binds_K X Y d b Y Y) λ_ _ _ _ _ _ _ a =>
  (af (lJ 0 4 gJ (d7 O) (cI ag))
  (af (lJ 0 5 gJ (kI O) (cI ag))
  (af (lJ 0 6 gJ (ou O) (Bc l.at a (by decide) Y Y))
  (aq (bK (jE (qv 1)) (aq (fT Z6 Y (fq (qv 1)) (bR 2 fR.nd Y Q3 Q3)
  (aq (rz (Dm i.at a (by decide) Y Q3 Y Y (xE gJ j.at a (by decide) (bI 0) Y) (ae (qv 2) ag) Y Y Y) Y)))) aX)))))
abbrev gs:Stmt:=inClass (top 23) 3
def ma:gV Qo Qo (ai gs):=by constructor<;>first | rfl | decide +kernel
def jk{m:Me}{f:KF}{d:Pv}(F:GW K "book" "Machine.book" gs f d)(a:Meth K D "book" f)(B:HP mg)(O:HC K mg C D) :
  MpAt P w K mg base 1 ((gX K C D).at m) 1 "book" Qo nX:=nK F a O.GP (gx (by decide +kernel) (by decide +kernel)) ma Y Y (λ_ _ _ _ _ _ e b=>by obtain⟨_,rfl⟩:=L2.nL b;rfl) λ_ _ _ _ _ _ g =>
  (aq (bp (Ba B.MZ (ae (w_fld gJ (d7 O) (qv 0)) ag))))
abbrev fN:Stmt:=inClass (top 23) 4
def kZ:gV Qo Qo (ai fN):=by constructor<;>first | rfl | decide +kernel
def aS{m:Me}{f:KF}{e:Pv}(F:GW K "table" "Machine.table" fN f e)(b:Meth K D "table" f)(B:HP mg)(O:HC K mg C D)(g:∀m,MpAt P w K mg base 2 ((gX K C D).at m) 0 "table" Qo dJ) :
  MpAt P w K mg base 3 ((gX K C D).at m) 1 "table" Qo aD:=nK F b O.GP (gx (by decide +kernel) (by decide +kernel)) kZ Y Y (λ_ _ _ _ _ _ h d=>by obtain⟨_,rfl⟩:=L2.nL d;rfl) λ_ _ _ _ _ _ a =>
  (aq (bp (hJ (g _) a (by decide) (w_fld gJ (ou O) (qv 0)) Y)))
abbrev uA:Stmt:=top 12
def mK:gV ["table", "word", "stands", "sign", "ways"] Qs (ai uA):=by constructor<;>first | rfl | decide +kernel
def m8{m:Me}{f:KF}{e:Pv}(F:GW K "walk" "walk" uA f e)(b:mg "walk" = Z (.ref f))(B:HP mg)(O:HC K mg C D) :
  FnAt P w K mg base 1 "walk" Qs ((gX K C D).at m) lr:=iO F b mK Y Y (λ_ _ _ _ _ _ g d=>by obtain⟨_,_,rfl⟩:=L2.dZ d;rfl) λ_ _ _ _ _ _ a =>
  (af (fm (cI (ae aj ag)) mK.nd Y Q3)
  (af (fT Z6 Y (fq (qv 1)) (bR 3 mK.nd Y Q3 Q3)
  (af (aA (vF B.JK (ae (bx (bx (qv 0) (bx (qv 2) mO (λ_ _=>rfl)) (λ_ _=>rfl)) aj (λ_ _=>rfl)) ag)) mK.nd Y Q3)
  (af (bK (tP a (qv 3) (qv 4) (by with_unfolding_all rfl)) (aq (cQ 2 Y (Or.inl Y) Y Y)) aX)
  (aq (iq 2 (ae (ub a (qv 4) (qv 3) (λ_ _=>rfl)) ag) Y Y Q3 Y Y)))))
  (aq (cQ 2 Y (Or.inl Y) Y Y))))
abbrev d5:Stmt:=top 13
def j6:gV Qr Qr (ai d5):=by constructor<;>first | rfl | decide +kernel
def cB{m:Me}{f:KF}{e:Pv}(F:GW K "refuse_no_stand" "refuse_no_stand" d5 f e)(b:mg "refuse_no_stand" = Z (.ref f))(B:HP mg)(O:HC K mg C D)(g:∀m,FnAt P w K mg base 1 "is_whole" ["thing"] ((gX K C D).at m) gk) :
  FnAt P w K mg base 2 "refuse_no_stand" Qr ((gX K C D).at m) bM:=iO F b j6 Y Y (λ_ _ _ _ _ _ h d=>by obtain⟨_,_,rfl⟩:=L2.dZ d;rfl) λ_ _ _ _ _ _ a =>
  (aq (bK (Ke.Mo (tu (kL (pY (cy (g _) a (ae (qv 1) ag) (by decide) Y Y))) (ur (kL (ju aj (qv 1) (cP B.GT (ae (qv 0) ag)) (by with_unfolding_all rfl)))))) (aq qu) aX))
abbrev qE:Stmt:=top 15
def nz:gV ["table", "stand", "met"] Qr (ai qE):=by constructor<;>first | rfl | decide +kernel
def kA{m:Me}{f:KF}{e:Pv}(F:GW K "chain" "chain" qE f e)(b:mg "chain" = Z (.ref f))(B:HP mg)(O:HC K mg C D)(g:∀m,FnAt P w K mg base 2 "refuse_no_stand" Qr ((gX K C D).at m) bM) :
  FnAt P w K mg base 3 "chain" Qr ((gX K C D).at m) jw:=iO F b nz Y Y (λ_ _ _ _ _ _ h d=>by obtain⟨_,_,rfl⟩:=L2.dZ d;rfl) λ_ _ _ _ _ _ a =>
  (af (yj (cy (g _) a (ae (qv 0) (ae (qv 1) ag)) (by decide) Y Y) Y)
  (af (fm (cI ag) nz.nd Y Q3)
  (af (ie Z6 (jE (qv 1))
  (af (iq 2 (ae (qv 1) ag) Y Y Q3 Y Y)
  (aq (aA (bx (bx (qv 0) (qv 1) (λ_ _=>rfl)) aj (λ_ _=>rfl)) nz.nd Y Q3))))
  (aq (cQ 2 Y (Or.inl Y) Y Y)))))
abbrev gR:Stmt:=top 18
def gh:gV ["table", "stand", "long", "sign", "kept", "ways"] Qq (ai gR):=by constructor<;>first | rfl | decide +kernel
def dI{m:Me}{f:KF}{g:Pv}(F:GW K "tail_behind" "tail_behind" gR f g)(d:mg "tail_behind" = Z (.ref f))(B:HP mg)(O:HC K mg C D)(b:∀m,FnAt P w K mg base 3 "chain" Qr ((gX K C D).at m) jw) :
  FnAt P w K mg base 4 "tail_behind" Qq ((gX K C D).at m) dF:=iO F d gh Y Y (λ_ _ _ _ _ _ h e=>by obtain⟨_,_,_,_,rfl⟩:=L2.FT e;rfl) λ_ _ _ _ _ _ a =>
  (af (fT Z6 Y (fq (cy (b _) a (ae (qv 0) (ae (qv 1) ag)) (by decide) Y Y)) (bR 4 gh.nd Y Q3 Q3)
  (af (aA (vF B.JK (ae (bx (bx (qv 0) (qv 4) (λ_ _=>rfl)) aj (λ_ _=>rfl)) ag)) gh.nd Y Q3)
  (aq (bK (BX a (qv 3) (qv 5) (by with_unfolding_all rfl) Y) (aq (bp (lK (ae (ub a (qv 5) (qv 3) (λ_ _=>rfl)) (ae (w_add (Di B.OC (ae (qv 2) (ae (bx (bx (qv 0) (qv 4) (λ_ _=>rfl)) aj (λ_ _=>rfl)) ag))) aj) ag))))) aX))))
  (aq (bp (lK (ae aj (ae aj ag))))))
abbrev lu:Stmt:=top 17
def gD:gV ["table", "word", "tail", "found", "sign"] Qs (ai lu):=by constructor<;>first | rfl | decide +kernel
def fi{m:Me}{f:KF}{e:Pv}(F:GW K "matches" "matches" lu f e)(b:mg "matches" = Z (.ref f))(B:HP mg)(O:HC K mg C D)(g:∀m,FnAt P w K mg base 4 "tail_behind" Qq ((gX K C D).at m) dF) :
  FnAt P w K mg base 5 "matches" Qs ((gX K C D).at m) dW:=iO F b gD Y Y (λ_ _ _ _ _ _ h d=>by obtain⟨_,_,rfl⟩:=L2.dZ d;rfl) λ_ _ _ _ _ _ a =>
  (af (aA (lK (ae aj (ae aj ag))) gD.nd Y Q3)
  (af (fm (cI (ae aj ag)) gD.nd Y Q3)
  (af (fT Z6 Y (fq (qv 1)) (bR 4 gD.nd Y Q3 Q3)
  (af (aA (cy (g _) a (ae (qv 0) (ae (bx (qv 2) aj (λ_ _=>rfl)) (ae (bx (qv 2) aj (λ_ _=>rfl)) (ae (qv 4) ag)))) (by decide) Y Y) gD.nd Y Q3)
  (aq (iq 3 (ae (bx (qv 2) aj (λ_ _=>rfl)) ag) Y Y Q3 Y Y))))
  (aq (cQ 3 Y (Or.inl Y) Y Y)))))
abbrev nq:Stmt:=top 19
def ij:gV ["table", "word", "found", "done", "long"] Qs (ai nq):=by constructor<;>first | rfl | decide +kernel
def cW{m:Me}{f:KF}{g:Pv}(F:GW K "pieces" "pieces" nq f g)(d:mg "pieces" = Z (.ref f))(B:HP mg)(O:HC K mg C D)(b:∀m,FnAt P w K mg base 1 "walk" Qs ((gX K C D).at m) lr) :
  FnAt P w K mg base 2 "pieces" Qs ((gX K C D).at m) cL:=iO F d ij Y Y (λ_ _ _ _ _ _ h e=>by obtain⟨_,_,rfl⟩:=L2.dZ e;rfl) λ_ _ _ _ _ _ a =>
  (af (fm (cI ag) ij.nd Y Q3)
  (af (aA aj ij.nd Y Q3)
  (af (ie Z6 (rX (qv 3) (cP B.GT (ae (qv 1) ag)))
  (af (aA (i7 qc pE (cP B.GT (ae (cy (b _) a (ae (qv 0) (ae (mU (qv 1) (gm (qv 3)) hU) ag)) (by decide) Y Y) ag)) aj) ij.nd Y Q3)
  (af (bK (sv a (qv 4) aj) (aq (bp qM)) aX)
  (af (iq 2 (ae (mU (qv 1) (gm (qv 3)) (gm (w_add (qv 3) (qv 4)))) ag) Y Y Q3 Y Y)
  (aq (aA (w_add (qv 3) (qv 4)) ij.nd Y Q3))))))
  (aq (cQ 2 Y (Or.inl Y) Y Y)))))
abbrev iB:Stmt:=top 25
def bJ:gV ["_law_script", "_law_k", "_law_cell", "_law_left", "_law_number", "_law_turn", "_law_more"] Q7 (ai iB):=by constructor<;>first | rfl | decide +kernel
def dq{m:Me}{f:KF}{e:Pv}(F:GW K "_law_spring" "_law_spring" iB f e)(b:mg "_law_spring" = Z (.ref f))(B:HP mg)(O:HC K mg C D) :
  FnAt P w K mg base 1 "_law_spring" Q7 ((gX K C D).at m) cF:=iO F b bJ Y Y (λ_ _ _ _ _ _ g d=>by obtain⟨_,_,rfl⟩:=L2.dZ d;rfl) λ_ _ _ _ _ _ a =>
  (af (aA (w_add (w_mul (qv 1) aj) aj) bJ.nd Y Q3)
  (af (bK (vi (cP B.GT (ae (qv 0) ag)) aj) (aq (aA (w_add (bx (qv 0) (w_mod (qv 1) (cP B.GT (ae (qv 0) ag))) (λ_ _=>rfl)) (w_mul (i7 mD mF (qv 1) (cP B.GT (ae (qv 0) ag))) aj)) bJ.nd Y Q3)) aX)
  (af (bK (sv a (w_mod (qv 2) aj) aj) (aq (bp (cI (ae (i7 mD mF (qv 2) aj) ag)))) aX)
  (af (aA (w_mod (w_add (i7 mD mF (qv 2) aj) (w_mul aj (qv 1))) aj) bJ.nd Y Q3)
  (af (aA aj bJ.nd Y Q3)
  (af (fT Z6 Y (iy aj Y B.HH) (bR 5 bJ.nd Y Q3 Q3)
  (af (aA (w_mod (w_add (w_add (w_mul (qv 3) aj) (w_mul aj (qv 5))) aj) aj) bJ.nd Y Q3)
  (af (aA (w_mod (w_mul (qv 3) (qv 3)) aj) bJ.nd Y Q3)
  (aq (aA (w_add (w_mul (qv 4) aj) (w_mod (w_mul (qv 6) (w_add (w_mod (qv 6) aj) aj)) aj)) bJ.nd Y Q3)))))
  (aq (bp (cI (ae (qv 4) ag))))))))))
abbrev j7:Stmt:=top 26
def lU:gV ["_law_spring_here", "_law_most", "_law_digit"] Qa (ai j7):=by constructor<;>first | rfl | decide +kernel
def ax{m:Me}{f:KF}{e:Pv}(F:GW K "_law_next" "_law_next" j7 f e)(b:mg "_law_next" = Z (.ref f))(B:HP mg)(O:HC K mg C D) :
  IoAt P w K mg base 1 "_law_next" Qa ((gX K C D).at m) [false] au:=nO F b lU Y Y (λ_ _ _ _ _ _ g d=>by obtain⟨_,_,rfl⟩:=L2.dZ d;rfl) λ_ _ _ _ _ _ _ a =>
  (af (aA (w_mod (bx (FV (qv 0)) aj (λ_ _=>rfl)) (qv 1)) lU.nd Y Q3)
  (af (iZ gJ a (FK (bI 0)) aj (i7 mD mF (bx (FV (qv 0)) aj (λ_ _=>rfl)) (qv 1)))
  (aq (cQ 2 Y (Or.inl Y) Y Y))))
abbrev j4:Stmt:=top 27
def rB:gV Qb Qb (ai j4):=by constructor<;>first | rfl | decide +kernel
def bN{m:Me}{f:KF}{g:Pv}(F:GW K "_law_text" "_law_text" j4 f g)(d:mg "_law_text" = Z (.ref f))(B:HP mg)(O:HC K mg C D)(b:∀m,IoAt P w K mg base 1 "_law_next" Qa ((gX K C D).at m) [false] au) :
  IoAt P w K mg base 2 "_law_text" Qb ((gX K C D).at m) [false,false] cf:=nO F d rB Y Y (λ_ _ _ _ _ _ h e=>by obtain⟨_,_,_,rfl⟩:=L2.qo e;rfl) λ_ _ _ _ _ _ _ a =>
  (aq (vt (BF (lI (by decide +kernel) (by decide)) (yE Q6 Y Y B.HH (br (b _) a (bV 0 R Y (Or.inr Q3) Y Y (bH (ay (w_add (qv 2) aj)) bj))) (λ_ _ _ _ _=>L2.uS (show List.Nodup Q6 from by decide +kernel) Y Q3 (Or.inr Y)) (λ_ _ _ _ _=>(BR (ay (eR 2 Y (Or.inr Q3) Y Y)) (br (b _) a (bV 1 R Y (Or.inr Q3) Y Y (bH (ay (cP B.GT (ae (eR 2 Y (Or.inr Q3) Y Y) ag))) bj))) (λ_ _=>rfl) Y)) Y Y Y Y (by decide) (λ_=>rfl)) Y Y Y Y Y Y)))
abbrev jc:Stmt:=top 28
def d9:gV ["_law_spring_here", "_law_letters", "_law_few", "_law_start", "_law_step"] Qd (ai jc):=by constructor<;>first | rfl | decide +kernel
def fC{m:Me}{f:KF}{g:Pv}(F:GW K "_law_signs" "_law_signs" jc f g)(d:mg "_law_signs" = Z (.ref f))(B:HP mg)(O:HC K mg C D)(b:∀m,IoAt P w K mg base 1 "_law_next" Qa ((gX K C D).at m) [false] au) :
  IoAt P w K mg base 2 "_law_signs" Qd ((gX K C D).at m) [] gP:=nO F d d9 Y Y (λ_ _ _ _ _ _ h e=>by obtain⟨_,rfl⟩:=L2.nL e;rfl) λ_ _ _ _ _ _ _ a =>
  (af (aA (lI (by decide +kernel) (by decide)) d9.nd Y (Or.inr Y))
  (af (cu (qj (cI (ae aj (ae aj (ae aj (ae aj (ae aj (ae aj (ae aj (ae aj ag))))))))) (br (b _) a (bV 0 R Y (Or.inl Y) Y Y (bH (ay aj) bj)))) d9.nd Y Q3)
  (af (cu (br (b _) a (bV 0 R Y (Or.inl Y) Y Y (bH (ay aj) bj))) d9.nd Y (Or.inr Y))
  (af (cu (qj (cI (ae aj (ae aj (ae aj (ae aj ag))))) (br (b _) a (bV 0 R Y (Or.inl Y) Y Y (bH (ay aj) bj)))) d9.nd Y (Or.inr Y))
  (aq (bp (Ac (lI (by decide +kernel) (by decide)) (ae (kc 1 Q5 Y (iy (qv 2) Y B.HH) (jB) (λ_ _ _ _ _=>(bR 0 (show List.Nodup Q5 from by decide +kernel) Y Q3 (Or.inr Y))) (λ_ _ _ _ _=>(bx (eR 2 Y (Or.inr Q3) Y Y) (w_mod (w_add (eR 4 Y (Or.inr Q3) Y Y) (w_mul (eR 5 Y (Or.inr Q3) Y Y) (qv 0))) aj) (λ_ _=>rfl))) Y Y (by decide)) ag))))))))
abbrev j9:Stmt:=top 29
def di:gV ["_law_spring_here", "_law_signs_here", "_law_many", "_law_book_here", "_law_k", "_law_text_here", "_law_old"] Qc (ai j9):=by constructor<;>first | rfl | decide +kernel
def gj{m:Me}{f:KF}{h:Pv}(F:GW K "_law_book" "_law_book" j9 f h)(e:mg "_law_book" = Z (.ref f))(B:HP mg)(O:HC K mg C D)(b:∀m,IoAt P w K mg base 1 "_law_next" Qa ((gX K C D).at m) [false] au)(d:∀m,IoAt P w K mg base 2 "_law_text" Qb ((gX K C D).at m) [false,false] cf) :
  IoAt P w K mg base 3 "_law_book" Qc ((gX K C D).at m) [false] iC:=nO F e di Y Y (λ_ _ _ _ _ _ i g=>by obtain⟨_,_,rfl⟩:=L2.dZ g;rfl) λ_ _ _ _ _ _ _ a =>
  (af (cu (qj (cI (ae aj (ae aj (ae aj (ae aj (ae aj (ae aj (ae aj (ae aj ag))))))))) (br (b _) a (bV 0 R Y (Or.inl Y) Y Y (bH (ay aj) bj)))) di.nd Y Q3)
  (af (fm (cI ag) di.nd Y Q3)
  (af (fT Z6 Y (iy (qv 2) Y B.HH) (bR 4 di.nd Y Q3 Q3)
  (af (cu (br (d _) a (bV 0 R Y (Or.inl Y) Y Y (bH (ay (qv 1)) (bH (qj (cI (ae aj (ae aj (ae aj (ae aj ag))))) (br (b _) a (bV 0 R Y (Or.inl Y) Y Y (bH (ay aj) bj)))) bj)))) di.nd Y Q3)
  (af (tJ (vc (vi (qv 4) aj) (pL (nQ a.units) rV (br (b _) a (bV 0 R Y (Or.inl Y) Y Y (bH (ay aj) bj))) (ay aj) (fQ _))) (af (cu (yp 3 Y (Or.inl Y) Y Y (br (b _) a (bV 0 R Y (Or.inl Y) Y Y (bH (ay (qv 4)) bj))) (λ_ _=>rfl) Y) di.nd Y Q3)
  (aq (cu (uN (iE (uN (ay (qv 6)) (jt (br (b _) a (bV 0 R Y (Or.inl Y) Y Y (bH (ay (w_add (cP B.GT (ae (qv 6) ag)) aj)) bj)))) nP) (ay (qv 5))) nP (jt (ay aj))) di.nd Y Q3))) aX)
  (aq (iq 3 (ae (qv 5) ag) Y Y Q3 Y Y)))))
  (af (tJ (vc (nu aj (qv 2) aj (by with_unfolding_all rfl)) (pL (nQ a.units) rV (br (b _) a (bV 0 R Y (Or.inl Y) Y Y (bH (ay aj) bj))) (ay aj) (fQ _))) (aq (qq gJ a (bI 3) aj (Cq Bf AH (iE (iE (ay (bx (qv 3) aj (λ_ _=>rfl))) (br (d _) a (bV 0 R Y (Or.inl Y) Y Y (bH (ay (qv 1)) (bH (ay aj) bj))))) (ay (bx (qv 3) mO (λ_ _=>rfl)))) (iE (ay aj) (br (b _) a (bV 0 R Y (Or.inl Y) Y Y (bH (ay aj) bj))))) (λ_=>rfl) Y Y Y)) aX)
  (aq (cQ 3 Y (Or.inl Y) Y Y))))))
abbrev jU:Stmt:=top 30
def cG:gV ["_law_spring_here", "_law_book_here", "_law_signs_here", "_law_word_here", "_law_turn", "_law_way", "_law_text_here", "_law_start"] Q9 (ai jU):=by constructor<;>first | rfl | decide +kernel
def gC{m:Me}{f:KF}{g:Pv}(F:GW K "_law_word" "_law_word" jU f g)(d:mg "_law_word" = Z (.ref f))(B:HP mg)(O:HC K mg C D)(b:∀m,IoAt P w K mg base 1 "_law_next" Qa ((gX K C D).at m) [false] au)(h:∀m,IoAt P w K mg base 2 "_law_text" Qb ((gX K C D).at m) [false,false] cf) :
  IoAt P w K mg base 3 "_law_word" Q9 ((gX K C D).at m) [false,false] iK:=nO F d cG Y Y (λ_ _ _ _ _ _ i e=>by obtain⟨_,_,_,rfl⟩:=L2.qo e;rfl) λ_ _ _ _ _ _ _ a =>
  (af (aA (lI (by decide +kernel) (by decide)) cG.nd Y Q3)
  (af (D7 Z6 Y Y B.HH (iE (ay aj) (br (b _) a (bV 0 R Y (Or.inl Y) Y Y (bH (ay aj) bj)))) (bR 4 cG.nd Y Q3 Q3)
  (af (cu (br (b _) a (bV 0 R Y (Or.inl Y) Y Y (bH (ay aj) bj))) cG.nd Y Q3)
  (aq (bK (rX (qv 5) aj) (aq (cu (iE (ay (qv 3)) (br (h _) a (bV 0 R Y (Or.inl Y) Y Y (bH (ay (qv 2)) (bH (ay aj) bj))))) cG.nd Y Q3)) (aq (bK (sv a (qv 5) aj) (aq (cu (iE (ay (qv 3)) (BR (ay (lI (by decide +kernel) (by decide))) (br (b _) a (bV 0 R Y (Or.inl Y) Y Y (bH (ay aj) bj))) (λ_ _=>rfl) Y)) cG.nd Y Q3)) (aq (bK (oY a (qv 1) (cI ag)) (af (cu (yp 1 Y (Or.inl Y) Y Y (br (b _) a (bV 0 R Y (Or.inl Y) Y Y (bH (ay (cP B.GT (ae (qv 1) ag))) bj))) (λ_ _=>rfl) Y) cG.nd Y Q3)
  (af (cu (br (b _) a (bV 0 R Y (Or.inl Y) Y Y (bH (ay (w_add (cP B.GT (ae (qv 6) ag)) aj)) bj))) cG.nd Y Q3)
  (aq (cu (iE (ay (qv 3)) (uN (ay (qv 6)) (jt (ay (qv 7))) (jt (iE (ay (w_add (qv 7) aj)) (br (b _) a (bV 0 R Y (Or.inl Y) Y Y (bH (ay aj) bj))))))) cG.nd Y Q3)))) aX))))))) Y Y (λ_=>rfl))
  (aq (cQ 3 Y (Or.inl Y) Y Y))))
abbrev j8:Stmt:=top 31
def sN:gV Q8 Q8 (ai j8):=by constructor<;>first | rfl | decide +kernel
def cU{m:Me}{f:KF}{d:Pv}(F:GW K "_law_size" "_law_size" j8 f d)(a:mg "_law_size" = Z (.ref f))(B:HP mg)(O:HC K mg C D) :
  FnAt P w K mg base 1 "_law_size" Q8 ((gX K C D).at m) dP:=iO F a sN Y Y (λ_ _ _ _ _ _ e b=>by obtain⟨_,rfl⟩:=L2.nL b;rfl) λ_ _ _ _ _ _ g =>
  (af (bK (yk (qv 0)) (aq (bp qM)) aX)
  (aq (bp (cP B.GT (ae (qv 0) ag)))))
abbrev iW:Stmt:=top 32
def d8:gV ["_law_book_here", "_law_table", "_law_word_here", "_law_got", "_law_turned", "_law_other", "_law_last"] Q4 (ai iW):=by constructor<;>first | rfl | decide +kernel
def fE{m:Me}{f:KF}{l:Pv}(F:GW K "_law_right" "_law_right" iW f l)(i:mg "_law_right" = Z (.ref f))(B:HP mg)(O:HC K mg C D)(h:InAt P w K mg base 6 (gX K C D) 1 1 "Machine" Qh ar)(g:∀m,MpAt P w K mg base 3 ((gX K C D).at m) 1 "table" Qo aD)(e:∀m,FnAt P w K mg base 1 "_law_size" Q8 ((gX K C D).at m) dP)(b:∀m,FnAt P w K mg base 5 "matches" Qs ((gX K C D).at m) dW)(d:∀m,FnAt P w K mg base 2 "pieces" Qs ((gX K C D).at m) cL) :
  FnAt P w K mg base 8 "_law_right" Q4 ((gX K C D).at m) gL:=iO F i d8 Y Y (λ_ _ _ _ _ _ n j=>by obtain⟨_,_,_,rfl⟩:=L2.qo j;rfl) λ_ _ _ _ _ _ a =>
  (af (aA (cy (d _) a (ae (qv 1) (ae (qv 2) ag)) (by decide) Y Y) d8.nd Y Q3)
  (af (aA (hJ (g _) a (by decide) (qz h.at a (by decide) (ae (kc 1 Qe Y (fq (qv 0)) (jB) (λ_ _ _ _ _=>(bR 0 (show List.Nodup Qe from by decide +kernel) Y Q3 (Or.inr Y))) (λ_ _ _ _ _=>(w_rev (qv 0) hU (gm mO))) Y Y (by decide)) ag) vw Y Y Y Y) Y) d8.nd Y Q3)
  (af (aA (hJ (g _) a (by decide) (qz h.at a (by decide) (ae (yV (qv 0) hU hU (gm mO) Y) ag) vw Y Y Y Y) Y) d8.nd Y Q3)
  (af (bK (oY a (cy (e _) a (ae (cy (d _) a (ae (qv 4) (ae (w_rev (qv 2) hU (gm mO)) ag)) (by decide) Y Y) ag) (by decide) Y Y) (cy (e _) a (ae (qv 3) ag) (by decide) Y Y)) (aq (bp nh)) aX)
  (af (bK (Ke.Mo (tu (oY a (cy (b _) a (ae (qv 5) (ae (qv 2) ag)) (by decide) Y Y) (cy (b _) a (ae (qv 1) (ae (qv 2) ag)) (by decide) Y Y)) (ur (oY a (cy (d _) a (ae (qv 5) (ae (qv 2) ag)) (by decide) Y Y) (qv 3))))) (aq (bp nh)) aX)
  (af (aA (bx (cy (b _) a (ae (qv 1) (ae (qv 2) ag)) (by decide) Y Y) mO (λ_ _=>rfl)) d8.nd Y Q3)
  (af (bK (oY a (zp (zZ (qv 3)) (ua (pA nW sG (cP B.GT (ae (qv 3) ag)) aj (fQ _)))) (pA (nQ a.units) rV (qv 6) (cP B.GT (ae (qv 2) ag)) (fQ _))) (aq (bp nh)) aX)
  (aq (bp (BV (Ec (qv 3)) (BV (pA (nQ a.units) rV (qv 3) (cI ag) (fQ _)) (ua (pA wY B3 (cP B.GT (ae (bx (qv 3) mO (λ_ _=>rfl)) ag)) (qv 6) (fQ _))))))))))))))
abbrev ki:Stmt:=top 33
def gT:gV ["_law_script", "_law_spring_here", "_law_signs_here", "_law_book_here", "_law_table", "_law_more", "_law_turn", "_law_word_here", "_law_size_here", "_law_left"] ["_law_script"] (ai ki):=by constructor<;>first | rfl | decide +kernel
def Ea{m:Me}{f:KF}{g:Pv}(F:GW K "law" "law" ki f g)(B:HP mg)(O:HC K mg C D)(e:InAt P w K mg base 6 (gX K C D) 1 1 "Machine" Qh ar)(d:∀m,MpAt P w K mg base 3 ((gX K C D).at m) 1 "table" Qo aD)(i:∀m,IoAt P w K mg base 3 "_law_book" Qc ((gX K C D).at m) [false] iC)(l:∀m,FnAt P w K mg base 8 "_law_right" Q4 ((gX K C D).at m) gL)(n:∀m,IoAt P w K mg base 2 "_law_signs" Qd ((gX K C D).at m) [] gP)(o:∀m,FnAt P w K mg base 1 "_law_size" Q8 ((gX K C D).at m) dP)(h:∀m,FnAt P w K mg base 1 "_law_spring" Q7 ((gX K C D).at m) cF)(p:∀m,IoAt P w K mg base 2 "_law_text" Qb ((gX K C D).at m) [false,false] cf)(j:∀m,IoAt P w K mg base 3 "_law_word" Q9 ((gX K C D).at m) [false,false] iK)(b:∀m,FnAt P w K mg base 2 "pieces" Qs ((gX K C D).at m) cL) :
  FnOk P w K mg base Hi 9 f g ["_law_script"] (I0 ((gX K C D).at m) yC):=Rx F gT Y Y λ_ _ _ _ _ _ a =>
  (af (fm (cy (h _) a (ae (qv 0) (ae aj ag)) (by decide) Y Y) gT.nd Y Q3)
  (af (cu (br (n _) a (bV 1 false Y (Or.inl Y) Y Y bj)) gT.nd Y Q3)
  (af (yK (BD (i _) a (bV 1 false Y (Or.inl Y) Y Y (bH (ay (qv 2)) bj)) (by decide) Y Y Y Y) gT.nd Y Q3 Y Q3)
  (qJ 1 (af (aA (hJ (d _) a (by decide) (qz e.at a (by decide) (ae (qv 3) ag) vw Y Y Y Y) Y) gT.nd Y Q3)
  (af (fm (cy (h _) a (ae (qv 0) (ae aj ag)) (by decide) Y Y) gT.nd Y Q3)
  (af (fT Z6 Y (iy aj Y B.HH) (bR 6 gT.nd Y Q3 Q3)
  (af (cu (uN (zY (j _) a (D5 5 false Y (Or.inl Y) Y Y (xC (qv 3) (xC (qv 2) AX Y) Y) Y) (by decide) Y Y Y Y) nP (jt (ay aj))) gT.nd Y Q3)
  (af (bK (kL (pY (cy (l _) a (ae (qv 3) (ae (qv 4) (ae (qv 7) ag))) (by decide) Y Y))) (aq (bp nh)) aX)
  (af (aA (cy (o _) a (ae (cy (b _) a (ae (qv 4) (ae (qv 7) ag)) (by decide) Y Y) ag) (by decide) Y Y) gT.nd Y Q3)
  (af (aA (i7 qc pE aj (w_sum B.L8 (ae (kc 1 Qf Y (fq (qv 3)) (jB) (λ_ _ _ _ _=>(bR 0 (show List.Nodup Qf from by decide +kernel) Y Q3 (Or.inr Y))) (λ_ _ _ _ _=>(cP B.GT (ae (qv 0) ag))) Y Y (by decide)) ag))) gT.nd Y Q3)
  (af (bK (Ke.Mo (kg (rX (cP B.GT (ae (qv 3) ag)) aj) (kR (BU (qv 9) (cP B.GT (ae (qv 7) ag)))))) (aq (bK (oY a (cy (b _) a (ae (hJ (d _) a (by decide) (qz e.at a (by decide) (ae (w_add (qv 3) (cI (ae (qv 7) ag))) ag) vw Y Y Y Y) Y) (ae (qv 7) ag)) (by decide) Y Y) (mU (cI (ae (qv 7) ag)) hU (gm (cP B.GT (ae (qv 7) ag))))) (aq (bp nh)) aX)) aX)
  (aq (bK (Ke.Mo (kg (rX (cP B.GT (ae (qv 3) ag)) aj) (kg (vi (qv 9) aj) (kR (jE (qv 8)))))) (aq (tJ (CG (A7 B.GT (zv (b _) a (vT (d _) a (by decide) (A8 e.at a (by decide) (A3 (Du (br (p _) a (bV 5 false Y (Or.inl Y) Y Y (bH (ay (qv 2)) (bH (ay aj) bj)))) Y) (qv 3)) Y Y Y Y) Y) (ae (qv 7) ag) (by decide) Y Y Y Y) Y Y Y) (ay (qv 8))) (aq (bp nh)) aX)) aX))))))))
  (qJ 5 (aq (bp nh))))))))))
end
abbrev gN(K:Xd)(x:Str)(f:KF):Prop:=PySem.W.nsIn K mainGlobals x=Z (Z (.ref f))
abbrev gZ(K:Xd)(x:Str):Prop:=PySem.W.nsIn K mainGlobals x=Z L
def all_mk{l:PySem.W.OpenLaw}{w:SZ}{K:Xd}{h:SL}{a:X6}{S C D f0 f1 f2 f3 f4 f5 f6 f7 f8 U TJ TH TF f TC TB Tz Tw Tv Tu Tt Ts Tr Tq Tp To Tn Tj Ti Th g:KF}(X:K.In h)(G:h.Ns mainGlobals a)(Vu:a "law" = Z (.ref S)){P1 R0 P0 OE:Option KF}{PH PF:Array (We)}{P4 QC RY PQ Oz RZ P2 NZ Ow NN i Ox:KM}(QU:∀ns:Wb,ns.length<=63->yC [.scr ns]=Z (.fr,.bl R))(a0:Meth K C "new_node" f0){V1:Pv}(F0:GW K "new_node" "Nodes.new_node" fg f0 V1)(a1:Mk K C f1){V0:Pv}(F1:GW K "__init__" "Nodes.__init__" eW f1 V0)(a2:Meth K C "node_just_behind" f2){VZ:Pv}(F2:GW K "node_just_behind" "Nodes.node_just_behind" cH f2 VZ)(a3:Meth K C "head_behind" f3){VY:Pv}(F3:GW K "head_behind" "Nodes.head_behind" dz f3 VY)(a4:Meth K C "head_grown" f4){VX:Pv}(F4:GW K "head_grown" "Nodes.head_grown" dQ f4 VX)(a5:Meth K C "numbers_by_node" f5){VW:Pv}(F5:GW K "numbers_by_node" "Nodes.numbers_by_node" cO f5 VW)(a6:Meth K C "row_of" f6){VU:Pv}(F6:GW K "row_of" "Nodes.row_of" gw f6 VU)(a7:Meth K C "table" f7){VT:Pv}(F7:GW K "table" "Nodes.table" gU f7 VT)(a8:Meth K D "begin" f8){VR:Pv}(F8:GW K "begin" "Machine.begin" fM f8 VR)(a9:gN K "is_whole" U){VQ:Pv}(F9:GW K "is_whole" "is_whole" jP U VQ)(XN:gN K "refuse_no_text" TJ){RQ:Pv}(Q:GW K "refuse_no_text" "refuse_no_text" eU TJ RQ)(XB:gN K "signs_in" TH){RP:Pv}(P:GW K "signs_in" "signs_in" jN TH RP)(W9:Meth K D "grow" TF){RO:Pv}(N:GW K "grow" "Machine.grow" gq TF RO){b:KF}{NQ:Obj}{Qt:Nat}(W8:Mk K D f)(UO:K.lookup f=Z ⟨P4,P1,.func (PySem.W.fnOf "__init__" "Machine.__init__" (cR b7) (aU b7) (ai b7) (.ref b) QC RY PQ R0 Oz RZ),PH⟩)(WG:PySem.W.codeIn K Oz "Machine.__init__" = R)(UR:PySem.W.keepIn K (.ref f)=R)(Uk:K.lookup b=Z NQ)(Ua:NQ.data=.seq #[.none] Qt)(W7:Meth K D "book" TC){RN:Pv}(M:GW K "book" "Machine.book" gs TC RN)(W6:Meth K D "table" TB){RM:Pv}(J:GW K "table" "Machine.table" fN TB RM)(WZ:gN K "walk" Tz){RL:Pv}(H:GW K "walk" "walk" uA Tz RL)(WY:gN K "refuse_no_stand" Tw){RK:Pv}(E:GW K "refuse_no_stand" "refuse_no_stand" d5 Tw RK)(WX:gN K "chain" Tv){RJ:Pv}(A:GW K "chain" "chain" qE Tv RJ)(WW:gN K "tail_behind" Tu){RI:Pv}(z:GW K "tail_behind" "tail_behind" gR Tu RI)(WU:gN K "matches" Tt){RH:Pv}(y:GW K "matches" "matches" lu Tt RH)(WT:gN K "pieces" Ts){RG:Pv}(x:GW K "pieces" "pieces" nq Ts RG)(WR:gN K "_law_spring" Tr){RF:Pv}(u:GW K "_law_spring" "_law_spring" iB Tr RF)(WQ:gN K "_law_next" Tq){RE:Pv}(t:GW K "_law_next" "_law_next" j7 Tq RE)(WO:gN K "_law_text" Tp){RD:Pv}(r:GW K "_law_text" "_law_text" j4 Tp RD)(WN:gN K "_law_signs" To){RC:Pv}(q:GW K "_law_signs" "_law_signs" jc To RC)(WM:gN K "_law_book" Tn){RB:Pv}(p:GW K "_law_book" "_law_book" j9 Tn RB)(WK:gN K "_law_word" Tj){RA:Pv}(o:GW K "_law_word" "_law_word" jU Tj RA)(WJ:gN K "_law_size" Ti){Rz:Pv}(n:GW K "_law_size" "_law_size" j8 Ti Rz)(WI:gN K "_law_right" Th){Ry:Pv}(j:GW K "_law_right" "_law_right" iW Th Ry)(WH:gN K "law" g)(UM:K.lookup g=Z ⟨P2,P0,.func (PySem.W.fnOf "law" "law" (cR ki) (aU ki) (ai ki) .none NZ Ow NN OE i Ox),PF⟩)(WE:PySem.W.codeIn K i "law" = R)(UQ:PySem.W.keepIn K (.ref g)=R)(Mg:gZ K "bool")(Mf:gZ K "dict")(Nz:gZ K "int")(IS:gZ K "isinstance")(Ny:gZ K "len")(Mc:gZ K "list")(Nw:gZ K "min")(Lh:gZ K "range")(Kt:gZ K "sorted")(Nv:gZ K "sum")(Lg:gZ K "tuple"){IW:Tok}(IU:PySem.W.nsIn K mainGlobals "MOST_SIGNS" = Z (Z (.int 120 IW))){IV:Tok}(IT:PySem.W.nsIn K mainGlobals "MOST_TEXTS" = Z (Z (.int 8 IV)))(w_Nodes:gN K "Nodes" C)(GQ:HZ K C)(Hm:aV K C "longs")(Hn:aV K C "links")(Hy:aV K C "ways")(Hk:aV K C "texts")(Ho:aV K C "heads")(Hl:aV K C "nodes")(w_Machine:gN K "Machine" D)(GP:HZ K D)(Ha:aV K D "longs")(Hb:aV K D "links")(Hh:aV K D "ways")(G8:aV K D "texts")(Hc:aV K D "heads")(G9:aV K D "nodes")
  : ∃fd:Pv,(∀(s:GM)(v:KM),BindsTo s fd ⟨[v],[]⟩ [("_law_script",v)])/\∀base:SL,K.In base->base.Ns mainGlobals a->FnOk l.prog w K a base Hi 9 S fd ["_law_script"] (I0 (Oi K) yX):=by
 have e:=Vu.symm.trans (ZE X G WH);cases e;have B:HP a:=⟨Yv X G Mg,Yv X G Mf,Yv X G Nz,Yv X G IS,Yv X G Ny,Yv X G Mc,Yv X G Nw,Yv X G Lh,Yv X G Kt,Yv X G Nv,Yv X G Lg,⟨_,ZE X G IU⟩,⟨_,ZE X G IT⟩⟩
 have O:HC K a C D:=⟨GQ,ZE X G w_Nodes,Hm,Hn,Hy,Hk,Ho,Hl,GP,ZE X G w_Machine,Ha,Hb,Hh,G8,Hc,G9⟩
 refine⟨PySem.W.fnOf "law" "law" (cR ki) (aU ki) (ai ki) .none NZ Ow NN OE i Ox,λs v=>.of_eq Y,λbase _ _=>?_⟩;have aM:=aM l.prog w base F0 a0 B O;have cN:=cN l.prog w base F1 a1 B O aM;have aT:=aT l.prog w base F2 a2 B O aM;have bQ:=bQ l.prog w base F3 a3 B O aM aT;have b9:=b9 l.prog w base F4 a4 B O bQ;have bg:=λm=>bg (m:=m) l.prog w base F5 a5 B O;have dj:=λm=>dj (m:=m) l.prog w base F6 a6 B O;have dC:=λm=>dC (m:=m) l.prog w base F7 a7 B O bg dj;have cV:=cV l.prog w base F8 a8 B O;have dm:=λm=>dm (m:=m) l.prog w base F9 (ZE X G a9) B O;have cM:=λm=>cM (m:=m) l.prog w base Q (ZE X G XN) B O dm;have gn:=λm=>gn (m:=m) l.prog w base P (ZE X G XB) B O;have dh:=dh l.prog w base N W9 B O b9 cM gn;have aE:=aE l.prog w base ⟨⟨_,_,_,_,_,_,_,_,_,_,_,_,rfl,UO,WG,Uk,Ua⟩,UR⟩ W8 B O cV dh cN;have jk:=λm=>jk (m:=m) l.prog w base M W7 B O;have aS:=λm=>aS (m:=m) l.prog w base J W6 B O dC;have m8:=λm=>m8 (m:=m) l.prog w base H (ZE X G WZ) B O;have cB:=λm=>cB (m:=m) l.prog w base E (ZE X G WY) B O dm;have kA:=λm=>kA (m:=m) l.prog w base A (ZE X G WX) B O cB;have dI:=λm=>dI (m:=m) l.prog w base z (ZE X G WW) B O kA;have fi:=λm=>fi (m:=m) l.prog w base y (ZE X G WU) B O dI;have cW:=λm=>cW (m:=m) l.prog w base x (ZE X G WT) B O m8;have dq:=λm=>dq (m:=m) l.prog w base u (ZE X G WR) B O;have ax:=λm=>ax (m:=m) l.prog w base t (ZE X G WQ) B O;have bN:=λm=>bN (m:=m) l.prog w base r (ZE X G WO) B O ax;have fC:=λm=>fC (m:=m) l.prog w base q (ZE X G WN) B O ax;have gj:=λm=>gj (m:=m) l.prog w base p (ZE X G WM) B O ax bN;have gC:=λm=>gC (m:=m) l.prog w base o (ZE X G WK) B O ax bN;have cU:=λm=>cU (m:=m) l.prog w base n (ZE X G WJ) B O;have fE:=λm=>fE (m:=m) l.prog w base j (ZE X G WI) B O aE aS cU fi cW;exact AB Y (Ea l.prog w base (m:=λ_=>L) (xT (st:=ki) UM WE UQ) B O aE aS gj fE fC cU dq bN gC cW) QU
end T44
open PySem PySem.W PyProof.Rows PySem.W.X PySem.W.ZRun
set_option maxRecDepth 100000 in
set_option maxHeartbeats 0 in
theorem PySem.Challenge.cw_allparts_k44_whole_pieces_turned_about_holds : PySem.Challenge.rw_allparts_k44_whole_pieces_turned_about.Holds := by
 w_on;o_law;z_head;(case hw=>w_witness2)
 k_fill
 intro w s₀ s₁ mg mb G y fa o pm cd doc dV kV ho hd hcd hD hmg hg args vals as L hpre hlay hrd hwl hlo
 z_open y L KX ZH ZN ZT
 clear ZH ZN ZT;refine VS.xU (l:=PySem.Challenge.rw_allparts_k44_whole_pieces_turned_about) (k:=9) (x := "_law_script") rfl rfl ⟨rfl,by decide,by decide⟩ ?F w s₀ s₁ mg mb G KX fa o pm cd doc dV kV ho hd hcd hD hmg hg args vals as hpre hlay hrd hwl hlo
 case F =>
  intro w mg fa h KX G hmg;apply T44.all_mk KX G hmg T44.zx
  (case w_Nodes=>unfold T44.gN;k_is)
  (case w_Machine=>unfold T44.gN;k_is)
  all_goals first | (refine' L2.xT ?l ?c ?k;(case l=>k_is);(case c=>k_is);(case k=>k_is)) | (refine' ⟨?l,?c,?k⟩;(case l=>k_is);(case c=>k_is);(case k=>k_is)) | (refine' ⟨?l,?c,?k,?d⟩;(case l=>k_is);(case c=>k_is);(case k=>k_is);(case d=>k_is)) | (unfold T44.gN;k_is) | (unfold T44.gZ;k_is) | (unfold L2.aV;k_is) | k_is | exact rfl
end
