import PyProof.Rows.All
import Wide.All
import OpenK.AllK
import Wide.FinOn
import Lean
import PyProof.EqAt
import PyProof.EqKinds
import PyProof.TupleCall
import PyProof.Rows.SortShellK
import PyProof.Rows.SortStr
import PyProof.Rows.SortWalk
import PyProof.StrBlockH
import PyProof.StrLawsIn
import PyProof.Rows.SetFrom
import PyProof.CollectWalk
import KE.KDictSum
import PyProof.ListStr
import PyProof.SeqI3
import PyProof.Rows.CallKwBuiltin
import PyProof.ListRange
import PyProof.AttrMissSeq
import PyProof.DictUpdate
import PyProof.DictList
import PyProof.ListNew
import PyProof.FactsAll.dict_1
import PyProof.SliceList
import PyProof.WalkInts
import PyProof.StationsW
import OpenK.KOwn
import KE.KTryMore
import PyProof.NsDelKeeps
import PyProof.ExcArgsOwn
import PyProof.ExcAttrAll.Exception
import OpenK.KDescr
import KE.KIsAll
import PyProof.ExcBaseAll.ValueError
import PyProof.StrBlock
import PyProof.StrCalls
import PyProof.StrLawsOccR
import KE.KDictOf
import PyProof.Rows.Range3
import PySem.Challenge.RW_allparts_k35_the_shortest_once
namespace PySem.W.Fast
def tw8618835091273058395:True:=⟨⟩
def tw9960627354459733520:True:=⟨⟩
def tw16738641422212253289:True:=⟨⟩
def tw7548545925661127744:True:=⟨⟩
def tw4846031345344795968:True:=⟨⟩
def tw8552483832805505349:True:=⟨⟩
def tw7670681488545132792:True:=⟨⟩
def tw11306655764176980206:True:=⟨⟩
def tw17288674410870622644:True:=⟨⟩
def tw3658086226766189463:True:=⟨⟩
def tw7494762194430354111:True:=⟨⟩
def tw4707691010051029044:True:=⟨⟩
def tw8690531846854153120:True:=⟨⟩
def tw4105555823117654160:True:=⟨⟩
def tw17061252547339581858:True:=⟨⟩
def tw631421173445233320:True:=⟨⟩
def tw4968555157994809604:True:=⟨⟩
def tw12743635404832881405:True:=⟨⟩
def tw4978900454744263342:True:=⟨⟩
def tw6658548524389432584:True:=⟨⟩
def tw14872891519724006347:True:=⟨⟩
def tw1211031191133894869:True:=⟨⟩
def tw13324684395135121951:True:=⟨⟩
def tw2616631834989567846:True:=⟨⟩
def tw18429087348181376863:True:=⟨⟩
def tw10600753442233537238:True:=⟨⟩
def tw18247464375761862067:True:=⟨⟩
def tw6552222427184313108:True:=⟨⟩
def tw11628583873249400490:True:=⟨⟩
def tw10351054185952075435:True:=⟨⟩
def tw7399698014943571987:True:=⟨⟩
def tw6008982239531220731:True:=⟨⟩
def tw5434654726226493641:True:=⟨⟩
def tw7644914677339167490:True:=⟨⟩
def tw14256810507119484611:True:=⟨⟩
def tw13060874993532483459:True:=⟨⟩
def tw13276750074887566525:True:=⟨⟩
def tw2370395290352174287:True:=⟨⟩
def tw1438645463001036721:True:=⟨⟩
def tw8888396218016500479:True:=⟨⟩
end PySem.W.Fast
set_option linter.all false
set_option maxRecDepth 100000
set_option Elab.async false
set_option maxHeartbeats 4000000
abbrev GS:=PySem.Value->PySem.Shared->Prop
abbrev Yy:=List (PySem.Addr×PySem.Obj)
abbrev Yd:=List (List PySem.Addr)
abbrev Y2:=PySem.W.Frag
abbrev Xk:=PySem.Str->Option PySem.Value
abbrev Xi:=List PySem.Addr
abbrev Xg:=List PySem.Value
abbrev Wm:=Option PySem.Value
abbrev W0:=List Nat
abbrev W3:=List Int
abbrev W4:=List (List (List Nat))
abbrev Zq:=@if_pos
abbrev Zp:=@if_neg
abbrev Zc:=@decide_eq_false
abbrev ZP:=@decide_eq_true
open Option renaming bind_eq_some_iff->Zz,map_eq_some_iff->Zw,bind_some->Zr,isSome_iff_exists->Yi,map_some->YE,isSome_map->YC,getD_some->Y4
open List renaming mem_cons_of_mem->Zy,mem_cons_self->Zx,getD_eq_getElem?_getD->Zv,length_map->Zu,getElem?_eq_getElem->Zt,length_append->Zs,mem_cons->Zo,map_cons->Zl,length_cons->Zk,mem_singleton->Zj,getElem?_eq_some_iff->Zg,nodup_cons->Zf,mem_append->Ze,zip_cons_cons->Za,getElem?_map->ZY,append_nil->ZV,mem_append_right->ZU,size_toArray->ZS,flatten_cons->ZR,nodup_append->ZO,append_assoc->ZM,length_singleton->ZL,length_range->ZJ,getElem_mem->ZG,mem_map->ZF,suffix_refl->ZA,all_eq_true->Ja,mem_append_left->Kc,find?_cons->IV,map_map->Ig,getElem?_eq_none->Kk,map_append->Jv,length_zip->Ju,length_set->Jt,getElem?_append_left->Yz,nodup_nil->Yx,getElem?_zip_eq_some->Yw,mem_range->Yu,getElem?_set_ne->Yt,idxOf_lt_length_iff->Yr,flatten_append->Yp,getElem?_append_right->Yo,drop_eq_getElem_cons->Yn,sublist_cons_self->Yl,suffix_nil->Yk,mem_filter->Yj,length_drop->Yh,length_replicate->Yg,cons_lt_cons_iff->Yf,getElem?_replicate->Ye,mem_of_getElem?->Yc,isSuffixOf_iff_suffix->Yb,lookup_cons->YY,length_take->YX,getElem?_eq_none_iff->YW,any_cons->YU,take_of_length_le->YT,getElem?_set_self->YS,map_congr_left->YR,foldl_cons->YL,length_range'->YI,getElem_idxOf->YH,sublist_append_right->YF,nil_append->YD,all_cons->Y0,getD_cons_succ->Y1,cons_append->Y5,drop_of_length_le->Y8,length_filter_le->Xw,any_eq_true->Xn,replicate_succ->Xl,sum_cons->Xj,pairwise_cons->Xe,findIdx?_cons->Xd,length_eq_zero_iff->Xc,mem_range'_1->Xa,lt_irrefl->XZ,length_eq_one_iff->XY,drop_eq_nil_of_le->XX,all_map->XW,zipIdx_cons->XO,append_cons->XM,zip_append->XF,nil_suffix->XE,pairwise_lt_range'->X3,map_fst_zip->X4,getElem?_cons_succ->X5,of_mem_zip->Wz,set_getElem_self->Wx,cons_prefix_cons->Ww,pairwise_append->Wv,not_lt->Wu,filterMap_cons->Wr,pairwise_map->Wh,map_set->Wg,map_nil->Wf,getElem?_set->We,flatMap_cons->Wc,take_prefix->WY,range'_succ->WX,not_mem_nil->WW,mem_flatten->WV,map_snd_zip->WU,getElem_inj->WT
open PySem renaming wpAny_bind->Zn,wpAny_pure->ZZ,wpAny_truthy_bool->YK,wpAny_mono->YJ,wpAny_holding->Y7,wpAny_passesOwn->Xu,mem_of_lookup->Xm,plainId_quiet->Xb,codeAny_builtin->XT,tupleKind_room_in1->XS,sizeLine_eq->XR,wpAny_newObj_type->XI,wpAny_call_entry->XC,wpAny_typeNameOfWhole_keyiter->XB,wpAny_tryCatch->X0,wpAny_Call_Name_kw->X1,wpAny_execs_nil->Wq
open Option.some renaming inj->Zm
open PySem.Heap renaming get?_push_of_some->Zi,lt_size->ZW,get?_push_size->ZQ,get?_update_other->YO,get?_update_self->XD,size_push->X6
open Nat renaming le_refl->Zh,ne_of_lt->Zb,lt_of_lt_of_le->ZK,le_trans->ZI,le_of_not_lt->ZE,zero_le->Yv,pos_of_ne_zero->Ym,lt_irrefl->Ya,lt_succ_self->YZ,min_eq_left->Y9,succ_le_succ->Xp,le_add_right->Xo,add_sub_cancel->Xf,le_of_not_le->XQ,le_succ->XH,lt_succ_of_lt->XA,min_eq_right->X2,le_of_lt->X7,le_of_eq->X8,eq_or_lt_of_le->Wp,zero_add->Wk,ne_of_gt->Wj,lt_trans->Wi,lt_of_not_le->WZ
open Bool renaming and_eq_true->Zd,false_ne_true->ZX,false_eq_true->YM,eq_iff_iff->Xh
open PySem.PassesOwn renaming never->ZC
open PySem.W renaming mg_of->II,mg_none_of->Ys,kia_one->YV,plainGet_of->Wt
open Ne renaming symm->Yq
open Array renaming length_toList->YQ,getElem?_toList->YN
open Int renaming emod_lt_of_pos->YG,emod_nonneg->Xz,toNat_natCast->Wa
open PySem.F renaming type_list_append->YB,slot_list_append->YA,plainAttrs_list->Y3,plain_min_loop->Xy,slot_dict_keyiterator_next->Xr,slot_tuple_getattribute->X9,slot_dict_get->Wy
open PySem.Around renaming under_plainId->Y6
open PyProof.Rows renaming callWith_type1->Xv
open Prod.mk renaming inj->Xs
open PySem.Paired renaming length->Xq
open List.Sublist renaming refl->XU
open List.cons renaming inj->XJ
open List.Pairwise renaming filter->XG,imp->Wb
section
namespace L2
def gI{G:Prop}(h:∀P:Prop,(G->P)->P):G:=h G id
end L2
namespace VS
noncomputable abbrev Tx:=W0
inductive T where
 |non | bl (b:Bool) | int (i:Int) | str (s:Tx) | scr (ns:W3)
 |tup (l:List T) | lst (l:List T) | dct (kd:Nat) (l:List (T×T)) | obj (c:Nat) (fs:List (Nat×T))
 deriving Inhabited
abbrev W8:=List T
noncomputable def dY:Nat:=16777216
mutual
@[simp] noncomputable def GO:T->Bool
 |.lst _=>false
 |.dct _ _=>false
 |.obj _ _=>false
 |.tup l=>cZ l
 |_=>true
@[simp] noncomputable def cZ:W8->Bool
 |[]=>true
 |t :: r=>GO t&&cZ r
end
mutual
@[simp] noncomputable def eqT:T->T->Bool
 |.non,.non=>true
 |.bl a,.bl b=>a==b
 |.bl a,.int i=>(if a then 1 else 0)==i
 |.int i,.bl a=>i==(if a then 1 else 0)
 |.int i,.int j=>i==j
 |.str s,.str t=>s==t
 |.tup a,.tup b=>sZ a b
 |.lst a,.lst b=>sZ a b
 |_,_=>false
@[simp] noncomputable def sZ:W8->W8->Bool
 |[],[]=>true
 |a :: d,b :: bs=>eqT a b&&sZ d bs
 |_,_=>false
end
@[simp] noncomputable def HC:Nat->T->Bool
 |_,.non=>true
 |_,.bl _=>true
 |_,.int _=>true
 |_,.str _=>true
 |n+1,.tup l=>l.all (HC n)
 |n+1,.lst l=>l.all (HC n)
 |_,_=>false
inductive Md where | fr | pu | bo
 deriving DecidableEq,Inhabited
@[simp] noncomputable def Md.join:Md->Md->Md
 |.bo,_=>.bo
 |_,.bo=>.bo
 |.pu,_=>.pu
 |_,.pu=>.pu
 |.fr,.fr=>.fr
inductive Cell where | pu (t:T) | ow (t:T)
 deriving Inhabited
abbrev W5:=Option Cell
noncomputable abbrev Env:=List (W5)
noncomputable abbrev Val:=Md×T
abbrev W7:=Option Val
abbrev W6:=List Val
noncomputable abbrev Ex:=Env->W7
noncomputable abbrev Hf:=Env->Option (W6)
@[simp] noncomputable def up(m:Md)(t:T):Val:=(if GO t then .fr else m,t)
@[simp] noncomputable def mS:T->Bool
 |.lst _=>true
 |.dct _ _=>true
 |.obj _ _=>true
 |_=>false
@[simp] noncomputable def cellOf:Val->W5
 | (.fr,t)=>some (if mS t then .ow t else .pu t)
 | (.pu,t)=>some (.pu t)
 | (.bo,_)=>none
inductive Out where | nx (J:Env) | rt (v:Val) (J:Env) | bk (J:Env) | ct (J:Env)
noncomputable abbrev Sx:=Env->Option Out
@[simp] noncomputable def eC(t:T)(_:Env):W7:=some (.fr,t)
noncomputable abbrev Q2(i:Int):Ex:=eC (.int i)
@[simp] noncomputable def aa(i:Nat)(J:Env):W7:=match J[i]? with
 |some (some (.pu t))=>some (up .pu t)
 |some (some (.ow t))=>some (.bo,t)
 |_=>none
@[simp] noncomputable def e1(f:Val->W7)(a:Ex)(J:Env):W7:=(a J).bind f
@[simp] noncomputable def e2(f:Val->Val->W7)(a b:Ex)(J:Env):W7:=(a J).bind λx=>(b J).bind λy=>f x y
@[simp] noncomputable def ah(_:Env):Option (W6):=some []
@[simp] noncomputable def ab(a:Ex)(r:Hf)(J:Env):Option (W6):=(a J).bind λx=>(r J).bind λxs=>some (x :: xs)
@[simp] noncomputable def eN(f:W6->W7)(a:Hf)(J:Env):W7:=(a J).bind f
@[simp] noncomputable def cy:W6->Md
 |[]=>.fr
 |v :: r=>v.1.join (cy r)
@[simp] noncomputable def trees(l:W6):W8:=l.map (·.2)
noncomputable def IZ(m:Md)(l:W8):W7:=if l.length<=dY then some (if cZ l then .fr else m,.lst l) else none
@[simp] noncomputable def dW(a:Hf)(J:Env):W7:=(a J).bind λl=>IZ (cy l) (trees l)
noncomputable def rR(l:W6):W7:=if l.length<=dY then some (up (cy l) (.tup (trees l))) else none
@[simp] noncomputable def fB(a:Hf)(J:Env):W7:=(a J).bind rR
noncomputable def dput(l:List (T×T))(k v:T):List (T×T):=if l.any (λp=>eqT p.1 k) then l.map (λp=>if eqT p.1 k then (p.1,v) else p) else l++[(k,v)]
noncomputable def fL:T->Bool
 |.int _=>true
 |.str _=>true
 |_=>false
noncomputable def keyOk:Nat->T->Bool
 |0,t=>fL t
 |1,.tup l=>l.all fL
 |_,_=>false
noncomputable def pairs:List (Ex×Ex)->Env->Option (List (Val×Val))
 |[],_=>some []
 | (a,b) :: r,J=>(a J).bind λx=>(b J).bind λy=>(pairs r J).map ((x,y) :: ·)
noncomputable def nk(a:Nat)(b:List (Ex×Ex))(J:Env):W7:=(pairs b J).bind λl=>if l.all (λp=>keyOk a p.1.2)/\l.length<=15 then
 some (cy (l.map (·.2)),.dct a (l.foldl (λd p=>dput d p.1.2 p.2.2) [])) else none
@[simp] noncomputable def Ld:T->Option Bool
 |.bl b=>some b
 |.int i=>some (i != 0)
 |.str s=>some (!s.isEmpty)
 |.lst l=>some (!l.isEmpty)
 |.tup l=>some (!l.isEmpty)
 |.dct 0 l=>some (!l.isEmpty)
 |.non=>some false
 |_=>none
@[simp] noncomputable def fN(a b:Ex)(J:Env):W7:=(a J).bind λx=>match x.2 with
 |.bl true=>b J
 |.bl false=>some (.fr,.bl false)
 |_=>none
@[simp] noncomputable def Mn(a b:Ex)(J:Env):W7:=(a J).bind λx=>match x.2 with
 |.bl true=>some (.fr,.bl true)
 |.bl false=>b J
 |_=>none
@[simp] noncomputable def lT(a:Ex)(J:Env):W7:=(a J).bind λx=>match x.2 with
 |.bl b=>some (.fr,.bl (!b))
 |_=>none
@[simp] noncomputable def Nl:T->Bool
 |.non=>true
 |_=>false
@[simp] noncomputable def Be(a:Ex)(J:Env):W7:=(a J).bind λx=>some (.fr,.bl (Nl x.2))
@[simp] noncomputable def eE(a:Ex)(J:Env):W7:=(a J).bind λx=>some (.fr,.bl (!Nl x.2))
@[simp] noncomputable def dE(f g:Val->Val->W7)(a b c:Ex)(J:Env):W7:=(a J).bind λx=>(b J).bind λy=>(f x y).bind λr=>match r.2 with
 |.bl true=>(c J).bind λz=>g y z
 |.bl false=>some (.fr,.bl false)
 |_=>none
@[simp] noncomputable def int?:T->Option Int
 |.int i=>some i
 |_=>none
noncomputable def bg:Val->Val->W7
 | (_,.int i),(_,.int j)=>some (.fr,.int (i+j))
 | (_,.str s),(_,.str t)=>if s.length+t.length<=dY then some (.fr,.str (s++t)) else none
 | (m,.lst s),(n,.lst t)=>IZ (m.join n) (s++t)
 |_,_=>none
@[simp] noncomputable def vJ:Val->Val->W7
 | (_,.int i),(_,.int j)=>some (.fr,.int (i-j))
 |_,_=>none
noncomputable def KC:Int:=4611686018427387904
noncomputable def O9:Int:=18446744073709551616
noncomputable def gz:Val->Val->W7
 | (_,.int i),(_,.int j)=>if (-O9<i/\i<O9)\/(-O9<j/\j<O9) then some (.fr,.int (i*j)) else none
 |_,_=>none
noncomputable def uC:Val->Val->W7
 | (_,.str s),(_,.int j)=>if s.length*j.toNat<=dY/\-KC<=j/\j<KC then some (.fr,.str (List.replicate j.toNat s).flatten) else none
 |_,_=>none
noncomputable def jv:Val->Val->W7
 | (_,.int i),(_,.int j)=>if 0<j/\j<1073741824 then some (.fr,.int (i/j)) else none
 |_,_=>none
noncomputable def oMod:Val->Val->W7
 | (_,.int i),(_,.int j)=>if 0<j then some (.fr,.int (i%j)) else none
 |_,_=>none
noncomputable def JJ:Tx->Tx->Bool
 |[],[]=>false
 |[],_ :: _=>true
 |_ :: _,[]=>false
 |a :: d,b :: bs=>if a<b then true else if b<a then false else JJ d bs
@[simp] noncomputable def oLt:Val->Val->W7
 | (_,.int i),(_,.int j)=>some (.fr,.bl (decide (i<j)))
 | (_,.str s),(_,.str t)=>some (.fr,.bl (JJ s t))
 |_,_=>none
@[simp] noncomputable def oLe:Val->Val->W7
 | (_,.int i),(_,.int j)=>some (.fr,.bl (decide (i<=j)))
 | (_,.str s),(_,.str t)=>some (.fr,.bl (!JJ t s))
 |_,_=>none
@[simp] noncomputable def KQ(a b:Val):W7:=oLt b a
@[simp] noncomputable def oEq(a b:Val):W7:=if HC 60 a.2/\HC 60 b.2 then some (.fr,.bl (eqT a.2 b.2)) else none
@[simp] noncomputable def JZ(a b:Val):W7:=if HC 60 a.2/\HC 60 b.2 then some (.fr,.bl (!eqT a.2 b.2)) else none
noncomputable def cR(l:List (T×T))(k:T):Option T:=(l.find? λp=>eqT p.1 k).map (·.2)
noncomputable def Hu(n:Nat)(i:Int):Option Nat:=if 0<=i then (if i<n then some i.toNat else none) else (if 0<=i+n then some (i+n).toNat else none)
@[simp] noncomputable def sub(m:Md)(t:T):Val:=up m t
@[simp] noncomputable def aD:Val->Val->W7
 | (m,.lst l),(_,.int i)=>(Hu l.length i).bind λk=>(l[k]?).map (sub m)
 | (m,.tup l),(_,.int i)=>(Hu l.length i).bind λk=>(l[k]?).map (sub m)
 | (_,.scr l),(_,.int i)=>(Hu l.length i).bind λk=>(l[k]?).map λn=>(.fr,.int n)
 | (_,.str l),(_,.int i)=>(Hu l.length i).bind λk=>(l[k]?).map λn=>(.fr,.str [n])
 |_,_=>none
noncomputable def clip(n:Nat)(i:Int):Nat:=if i<0 then (i+n).toNat else min i.toNat n
noncomputable def cut{α:Type}(l:List α)(a b:Option Int):List α :=
 let lo:=match a with | none=>0 | some i=>clip l.length i
 let d:=match b with | none=>l.length | some i=>clip l.length i
 (l.drop lo).take (d-lo)
@[simp] noncomputable def S7(v:Val)(a b:Option Int):W7:=match v with
 | (_,.str s)=>some (.fr,.str (cut s a b))
 | (m,.lst l)=>IZ m (cut l a b)
 |_=>none
@[simp] noncomputable def vh(c:Option Ex)(J:Env):Option (Option Int):=match c with
 |none=>some none
 |some e=>(e J).bind λy=>(int? y.2).map some
@[simp] noncomputable def Kx(a:Ex)(b d:Option Ex)(J:Env):W7:=(a J).bind λx=>(vh b J).bind λl=>(vh d J).bind λh=>S7 x l h
@[simp] noncomputable def Ge:T->Option Nat
 |.lst l=>some l.length
 |.tup l=>some l.length
 |.str l=>some l.length
 |.scr l=>some l.length
 |.dct 0 l=>some l.length
 |_=>none
@[simp] noncomputable def bx:W6->W7
 |[x]=>(Ge x.2).map λn=>(.fr,.int n)
 |_=>none
noncomputable def mG:W8->Option (W3)
 |[]=>some []
 |.int i :: r=>(mG r).map (i :: ·)
 |_=>none
noncomputable def strs?:W8->Option (List Tx)
 |[]=>some []
 |.str i :: r=>(strs? r).map (i :: ·)
 |_=>none
noncomputable def vZ:W6->W7
 |[(_,.lst l)]=>(mG l).bind λa=>some (.fr,.int a.sum)
 |_=>none
@[simp] noncomputable def B8:W6->W7
 |[(m,.lst l)]=>IZ m l
 |[(m,.tup l)]=>IZ m l
 |_=>none
noncomputable def ka:W6->W7
 |[(m,.lst l)]=>if l.length<=dY then some (up m (.tup l)) else none
 |_=>none
noncomputable def nK(x:Tx):List Tx->List Tx
 |[]=>[x]
 |y :: r=>if JJ y x then y :: nK x r else x :: y :: r
noncomputable def eR(l:List Tx):List Tx:=l.foldr nK []
inductive Ty where | int | str | bool | list | tuple | dict
@[simp] noncomputable def qQ:Ty->T->Bool
 |.int,.int _=>true
 |.int,.bl _=>true
 |.bool,.bl _=>true
 |.str,.str _=>true
 |.list,.lst _=>true
 |.tuple,.tup _=>true
 |.dict,.dct _ _=>true
 |_,_=>false
@[simp] noncomputable def uh:T->Bool
 |.obj _ _=>false
 |.scr _=>false
 |.dct 0 _=>true
 |.dct 1 _=>true
 |.dct _ _=>false
 |_=>true
@[simp] noncomputable def M6(t:Ty)(a:Ex)(J:Env):W7:=(a J).bind λx=>if uh x.2 then some (.fr,.bl (qQ t x.2)) else none
noncomputable def total:List Tx->Nat
 |[]=>0
 |x :: r=>x.length+total r
noncomputable def dm(a:Tx):List Tx->Tx
 |[]=>[]
 |[x]=>x
 |x :: r=>x++a++dm a r
noncomputable def jt:Val->W6->W7
 | (_,.str sep),[(_,.lst l)]=>(strs? l).bind λa=>if total a+a.length*sep.length<=dY then some (.fr,.str (dm sep a)) else none
 |_,_=>none
@[simp] noncomputable def eM(f:Val->W6->W7)(o:Ex)(b:Hf)(J:Env):W7:=(o J).bind λx=>(b J).bind λa=>f x a
noncomputable abbrev Fn:=W8->W7
@[simp] noncomputable def bu(g:Fn)(b:Hf)(J:Env):W7:=(b J).bind λa=>(g (trees a)).bind λr=>match r with
 | (.fr,t)=>some (.fr,t)
 | (_,t)=>some ((Md.pu).join (cy a),t)
noncomputable abbrev Jb:=Env->Option (Md×W8)
@[simp] noncomputable def Dl:Val->Option (Md×W8)
 | (m,.lst l)=>some (m,l)
 | (m,.tup l)=>some (m,l)
 | (_,.str l)=>some (.fr,l.map λc=>.str [c])
 |_=>none
@[simp] noncomputable def gU(a:Ex)(J:Env):Option (Md×W8):=(a J).bind Dl
noncomputable def rng(a:Int)(n:Nat):W8:=(List.range n).map λ(k:Nat)=>T.int (a+k)
noncomputable def bV(a:Ex)(J:Env):Option (Md×W8):=(a J).bind λx=>(int? x.2).bind λj=>if -KC<=j/\j<KC then some (.fr,rng 0 j.toNat) else none
noncomputable def kA(a b:Ex)(J:Env):Option (Md×W8):=(a J).bind λx=>(b J).bind λy=>(int? x.2).bind λi=>(int? y.2).bind λj =>
 if (-KC<=i/\i<KC)/\-KC<=j/\j<KC then some (.fr,rng i (j-i).toNat) else none
noncomputable def dP(k:Nat):W8->W8
 |[]=>[]
 |t :: r=>.tup [.int k,t] :: dP (k+1) r
@[simp] noncomputable def FO:Val->Option (Md×W8)
 | (m,.lst l)=>some (m,dP 0 l)
 |_=>none
@[simp] noncomputable def lI(a:Ex)(J:Env):Option (Md×W8):=(a J).bind FO
noncomputable abbrev Tg:=T->Env->Option Env
@[simp] noncomputable def aU(i:Nat)(t:T)(J:Env):Option Env:=if i<J.length then some (J.set i (some (.pu t))) else none
@[simp] noncomputable def sH:List Tg->W8->Env->Option Env
 |[],[],J=>some J
 |g :: b,t :: a,J=>(g t J).bind λd=>sH b a d
 |_,_,_=>none
@[simp] noncomputable def iY(a:List Tg)(t:T)(J:Env):Option Env:=match t with
 |.tup l=>sH a l J
 |_=>none
@[simp] noncomputable def Pu(m:Md)(l:W8):Bool:=match m with
 |.bo=>cZ l
 |_=>true
noncomputable def ju(e:Tg)(a:Option Ex)(d:Ex)(J:Env):W8->Option (W6)
 |[]=>some []
 |t :: r=>(e t J).bind λf=>(match a with | none=>some true | some c=>(c f).bind λx=>Ld x.2).bind λb =>
  if b then (d f).bind λv=>(ju e a d J r).map (v :: ·) else ju e a d J r
noncomputable def cz(k:Nat)(e:Tg)(f:Jb)(a:Option Ex)(b:Ex)(J:Env):W7:=(f J).bind λ(m,l)=>if Pu m l then
 (ju e a b (List.replicate k none++J) l).bind λd=>IZ (cy d) (trees d) else none
@[simp] noncomputable def eT(J:Env):Option Out:=some (.nx J)
@[simp] noncomputable def av(a b:Sx)(J:Env):Option Out:=(a J).bind λo=>match o with
 |.nx d=>b d
 |o=>some o
@[simp] noncomputable def gR(i:Nat)(e:Ex)(J:Env):Option Out:=(e J).bind λv=>(cellOf v).bind λc=>if i<J.length then some (.nx (J.set i (some c))) else none
@[simp] noncomputable def aQ(i:Nat)(e:Ex)(J:Env):Option Out:=(e J).bind λv=>match v.1 with
 |.bo=>none
 |_=>if i<J.length then some (.nx (J.set i (some (.pu v.2)))) else none
@[simp] noncomputable def fj(e:Ex)(J:Env):Option Out:=(e J).bind λv=>some (.rt (match v.1 with | .bo=>.pu | m=>m,v.2) J)
@[simp] noncomputable def dH(i:Nat)(J:Env):Option Out:=match J[i]? with
 |some (some (.ow t))=>some (.rt (.fr,t) (J.set i none))
 |some (some (.pu t))=>some (.rt (up .pu t) J)
 |_=>none
@[simp] noncomputable def HL(c:Ex)(a b:Sx)(J:Env):Option Out:=(c J).bind λx=>(Ld x.2).bind λt=>if t then a J else b J
noncomputable def forL(d:Tg)(a:Sx):W8->Env->Option Out
 |[],J=>some (.nx J)
 |t :: r,J=>(d t J).bind λe=>(a e).bind λo=>match o with
  |.nx b=>forL d a r b
  |.ct b=>forL d a r b
  |.bk b=>some (.nx b)
  |.rt v b=>some (.rt v b)
@[simp] noncomputable def S5:Md->Bool
 |.bo=>false
 |_=>true
@[simp] noncomputable def fH(b:Tg)(d:Jb)(a:Sx)(J:Env):Option Out:=(d J).bind λ(m,l)=>if S5 m then forL b a l J else none
noncomputable def di(c:Ex)(a:Sx):Nat->Env->Option Out
 |0,_=>none
 |n+1,J=>(c J).bind λx=>(Ld x.2).bind λt=>if t then (a J).bind λo=>match o with
  |.nx b=>di c a n b
  |.ct b=>di c a n b
  |.bk b=>some (.nx b)
  |.rt v b=>some (.rt v b)
  else some (.nx J)
noncomputable def tW:Nat:=1000000
noncomputable def jQ(c:Ex)(a:Sx)(J:Env):Option Out:=di c a tW J
@[simp] noncomputable def v9(i:Nat)(J:Env):Option Out:=match J[i]? with
 |some (some (.ow t))=>some (.nx (J.set i (some (.pu t))))
 |some (some (.pu _))=>some (.nx J)
 |_=>none
inductive Jw where | fld (k:Nat) | ix (e:Ex) | un
inductive Ky where | fld (k:Nat) | at (t:T) | un
@[simp] noncomputable def keys:List Jw->Env->Option (List Ky)
 |[],_=>some []
 |.fld k :: r,J=>(keys r J).map (.fld k :: ·)
 |.ix e :: r,J=>(e J).bind λx=>(keys r J).map (.at x.2 :: ·)
 |.un :: r,J=>(keys r J).map (.un :: ·)
noncomputable def GC(a:List (Nat×T))(k:Nat):Option T:=a.lookup k
noncomputable def FU(a:List (Nat×T))(k:Nat)(v:T):List (Nat×T):=if a.any (λp=>p.1==k) then a.map (λp=>if p.1==k then (p.1,v) else p) else a++[(k,v)]
@[simp] noncomputable def zT{α:Type}(f:T->Option (T×α)):List Ky->T->Option (T×α)
 |[],t=>f t
 |.fld k :: r,.obj c fs=>(GC fs k).bind λx=>(zT f r x).map λ(y,a)=>(.obj c (FU fs k y),a)
 |.at (.int i) :: r,.lst l=>(Hu l.length i).bind λj=>(l[j]?).bind λx=>(zT f r x).map λ(y,a)=>(.lst (l.set j y),a)
 |.at k :: r,.dct d l=>(cR l k).bind λx=>(zT f r x).map λ(y,a)=>(.dct d (dput l k y),a)
 |_,_=>none
noncomputable abbrev Xx:=Env->Option (Val×Env)
@[simp] noncomputable def xP(e:Ex)(J:Env):Option (Val×Env):=(e J).map λv=>(v,J)
@[simp] noncomputable def oi(i:Nat)(a:List Jw)(f:T->W6->Option (T×Val))(e:Hf)(J:Env):Option (Val×Env):=match J[i]? with
 |some (some (.ow t))=>(keys a J).bind λks=>(e J).bind λb=>(zT (λx=>f x b) ks t).map λ(d,v)=>(v,J.set i (some (.ow d)))
 |_=>none
@[simp] noncomputable def fit(v:Val):Option T:=match v.1 with
 |.fr=>some v.2
 |_=>none
noncomputable def aN:T->W6->Option (T×Val)
 |.lst l,[v]=>(fit v).bind λt=>if l.length<dY then some (.lst (l++[t]),(.fr,.non)) else none
 |_,_=>none
@[simp] noncomputable def sX(x:Xx)(J:Env):Option Out:=(x J).map λr=>.nx r.2
@[simp] noncomputable def fn(d e:Nat)(a:Sx):Fn:=λb=>if b.length=d then
 (a (b.map (λt=>some (.pu t))++List.replicate (e-d) none)).bind λo=>match o with
  |.rt v _=>some v
  |.nx _=>some (.fr,.non)
  |_=>none else none
def kL{m n:Md}{s t:Tx}(h:s.length+t.length<=16777216):bg (m,.str s) (n,.str t)=some (.fr,.str (s++t)):=Zq h
def jR{m n:Md}{i j:Int}(h:-18446744073709551616<i/\i<18446744073709551616):gz (m,.int i) (n,.int j)=some (.fr,.int (i*j)):=Zq (.inl h)
def ko{m n:Md}{i j:Int}(h:0<j/\j<1073741824):jv (m,.int i) (n,.int j)=some (.fr,.int (i/j)):=Zq h
def fI{m n:Md}{i j:Int}(h:0<j):oMod (m,.int i) (n,.int j)=some (.fr,.int (i%j)):=Zq h
def dG{l:W8}{t:T}(h:l.length<16777216):aN (.lst l) [(.fr,t)]=some (.lst (l++[t]),(.fr,.non)):=by
 simp only[aN,fit,Zr];exact Zq h
def fT{a:Ex}{J:Env}{m:Md}{j:Int}(e:a J=some (m,.int j))(h:-4611686018427387904<=j/\j<4611686018427387904):bV a J=some (.fr,rng 0 j.toNat):=by
 simp only[bV,e,Zr,int?];exact Zq h
def lb{m:Md}{l:W8}(h:l.length<=16777216):IZ m l=some (if cZ l then .fr else m,.lst l):=Zq h
def cA{b:Tg}{a:Sx}{t:T}{r:W8}{J J1 d:Env}(f:b t J=some J1)(e:a J1=some (.nx d)):forL b a (t :: r) J=forL b a r d:=by
 simp[forL,f,e]
def Bv{b:Tg}{a:Sx}{t:T}{r:W8}{J e d:Env}{v:Val}(g:b t J=some e)(f:a e=some (.rt v d)):forL b a (t :: r) J=some (.rt v d):=by
 simp[forL,g,f]
theorem strs_map{α:Type}(f:α->Tx):∀l:List α,strs? (l.map λx=>T.str (f x))=some (l.map f)
 |[]=>rfl
 |a :: r=>by simp[strs?,strs_map f r]
theorem ints_map{α:Type}(f:α->Int):∀l:List α,mG (l.map λx=>T.int (f x))=some (l.map f)
 |[]=>rfl
 |a :: r=>by simp[mG,ints_map f r]
theorem nG:∀a:List Tx,dm [] a=a.flatten
 |[]=>rfl
 |[x]=>by simp[dm]
 |x :: y :: r=>by
  have:=nG (y :: r);simp[dm]at this ⊢;exact this
theorem mN:∀a:List Tx,total a=a.flatten.length
 |[]=>rfl
 |x :: r=>by simp[total,mN r]
def oN{m n:Md}{l:W8}{a:List Tx}(e:strs? l=some a)(b:a.flatten.length<=16777216):jt (m,.str []) [(n,.lst l)]=some (.fr,.str a.flatten):=by
 simp only[jt,Zr,e,nG];refine Zq ?_;rw[mN];show _<=16777216;simpa using b
def fJ{α:Type}(l:List α):(l.map λx=>[x]).flatten=l:=by
 induction l with
 |nil=>rfl
 |cons a r b=>rw[Zl,ZR,b];rfl
def iS(n:Nat):rng 0 n=(List.range n).map λ(k:Nat)=>T.int (k:Int):=by
 unfold rng;simp
theorem hZ{α:Type}(f:α->T)(h:∀x,GO (f x)=true):∀l:List α,cZ (l.map f)=true
 |[]=>rfl
 |a :: r=>by simp[h,hZ f h r]
theorem oW{α:Type}{i:Tg}{d:Ex}{J:Env}(g:α->T)(f:α->Val):∀l:List α,(∀a∈l,∃e,i (g a) J=some e/\d e=some (f a))->ju i none d J (l.map g)=some (l.map f)
 |[],_=>rfl
 |a :: r,h=>by
  obtain⟨e,m,j⟩:=h a Zx;simp[ju,m,j,oW g f r λb hb=>h b (Zy _ hb)]
theorem j8{α:Type}{j:Tg}{c d:Ex}{J:Env}(g:α->T)(p:α->Bool)(f:α->Val):∀l:List α,(∀a∈l,∃i x,j (g a) J=some i/\c i=some x/\Ld x.2=some (p a)/\(p a=true->d i=some (f a))) →
  ju j (some c) d J (l.map g)=some ((l.filter p).map f)
 |[],_=>rfl
 |a :: r,h=>by
  obtain⟨i,x,q,o,n,s⟩:=h a Zx;have m:=j8 (c:=c) g p f r λb hb=>h b (Zy _ hb);cases e:p a with
  |true=>simp[-Ld,ju,q,o,n,e,s e,m]
  |false=>simp[-Ld,ju,q,o,n,e,m]
theorem mL{α:Type}(f:α->T):∀l:List α,cy (l.map λa=>(Md.fr,f a))=.fr
 |[]=>rfl
 |a :: r=>by simp[mL f r]
def oy{α:Type}(f:α->Val)(l:List α):trees (l.map f)=l.map λa=>(f a).2:=by simp
def fR{α:Type}{k:Nat}{tg:Tg}{it:Jb}{elt:Ex}{J:Env}{m:Md}(g:α->T)(f:α->T)(l:List α)(i:it J=some (m,l.map g))(e:Pu m (l.map g)=true)(d:l.length<=16777216)(h:∀a∈l,∃b,tg (g a) (List.replicate k none++J)=some b/\elt b=some (.fr,f a)):cz k tg it none elt J=some (.fr,.lst (l.map f)):=by
 simp only[cz,i,Zr];rw[Zq e,oW g (λa=>(Md.fr,f a)) l h];simp only[Zr,mL,oy];rw[lb (by rw[Zu];exact d)];simp
def pU{α:Type}{k:Nat}{tg:Tg}{d:Jb}{c elt:Ex}{J:Env}{m:Md}(g:α->T)(p:α->Bool)(f:α->T)(l:List α)(j:d J=some (m,l.map g))(i:Pu m (l.map g)=true)(e:l.length<=16777216)(h:∀a∈l,∃b x,tg (g a) (List.replicate k none++J)=some b/\c b=some x/\Ld x.2=some (p a)/\(p a=true->elt b=some (.fr,f a))):cz k tg d (some c) elt J=some (.fr,.lst ((l.filter p).map f)):=by
 simp only[cz,j,Zr];rw[Zq i,j8 g p (λa=>(Md.fr,f a)) l h];simp only[Zr,mL,oy];rw[lb (by rw[Zu];exact ZI (Xw _ _) e)];simp
end VS
end
section
namespace L2
open PySem PySem.Spec PyProof.Rows
noncomputable abbrev Key:=Sum Int Str
noncomputable def lP:Key->Value->Bool
 |.inl k,v=>Value.isInt k v
 |.inr x,v=>Value.isStrOf x v
noncomputable def Ez(w:World):Key->Int
 |.inl k=>hashInt k
 |.inr x=>hashStr w x
theorem bI:∀{k:Key}{v:Value},lP k v=true->(∃i t,k=Sum.inl i/\v=Value.int i t)\/(∃x t,k=Sum.inr x/\v=Value.str x t)
 |.inl i,v,h=>by
  obtain⟨t,e⟩:=Value.isInt_shape (k:=i) (v:=v) h;exact .inl ⟨i,t,rfl,e⟩
 |.inr x,v,h=>by
  obtain⟨t,e⟩:=Value.isStrOf_shape (x:=x) (v:=v) h;exact .inr ⟨x,t,rfl,e⟩
def vH(i:Int)(t:Tok):lP (.inl i) (.int i t)=true:=by simp[lP,Value.isInt]
def wJ(x:Str)(t:Tok):lP (.inr x) (.str x t)=true:=by simp[lP,Value.isStrOf]
def Cq(a b:Int):decide ((Sum.inl a:Key)=Sum.inl b)=(a==b):=by
 by_cases e:a=b
 ·subst e;simp
 ·have h:¬(Sum.inl a:Key)=Sum.inl b:=λq=>e (Sum.inl.inj q);rw[Zc h];exact(beq_eq_false_iff_ne.mpr e).symm
def C2(a b:Str):decide ((Sum.inr a:Key)=Sum.inr b)=decide (a=b):=by
 by_cases e:a=b
 ·subst e;simp
 ·have h:¬(Sum.inr a:Key)=Sum.inr b:=λq=>e (Sum.inr.inj q);rw[Zc h,Zc e]
def Dz(a:Int)(b:Str):decide ((Sum.inl a:Key)=Sum.inr b)=false:=Zc (λq=>nomatch q)
def Cn(a:Str)(b:Int):decide ((Sum.inr a:Key)=Sum.inl b)=false:=Zc (λq=>nomatch q)
noncomputable def aS(d:Program)(w:World):PySem.KeyKind d w Key where
 is:=lP
 hash:=Ez w
 inj:=λv a b l hb=>by
  rcases bI l with⟨i,t,rfl,rfl⟩ | ⟨x,t,rfl,rfl⟩
  ·rcases bI hb with⟨j,u,rfl,e⟩ | ⟨y,u,rfl,e⟩
   ·injection e with e1 _;rw[e1]
   ·exact nomatch e
  ·rcases bI hb with⟨j,u,rfl,e⟩ | ⟨y,u,rfl,e⟩
   ·exact nomatch e
   ·injection e with e1 _;rw[e1]
 byValue:=λk v h=>by
  rcases bI h with⟨i,t,rfl,rfl⟩ | ⟨x,t,rfl,rfl⟩<;>rfl
 pyHash:=λf h=>by
  rcases bI f with⟨i,t,rfl,rfl⟩ | ⟨x,t,rfl,rfl⟩
  ·exact wpAny_pyHash_int h
  ·exact wpAny_pyHash_str h
 eqBool:=λg f h=>by
  rcases bI g with⟨i,t,rfl,rfl⟩ | ⟨x,t,rfl,rfl⟩
  ·rcases bI f with⟨j,u,rfl,rfl⟩ | ⟨y,u,rfl,rfl⟩
   ·rw[Cq]at h;exact wpAny_eqBool_int h
   ·rw[Dz]at h;exact SeqAt.EqAt.int_str i t y u _ _ _ _ h
  ·rcases bI f with⟨j,u,rfl,rfl⟩ | ⟨y,u,rfl,rfl⟩
   ·rw[Cn]at h;exact SeqAt.EqAt.str_int x t j u _ _ _ _ h
   ·rw[C2]at h;exact wpAny_eqBool_str h
 «strs» := λk x t v h=>by
  rcases bI h with⟨i,u,rfl,e⟩ | ⟨y,u,rfl,e⟩
  ·exact nomatch e
  ·injection e with e1 _
   subst e1;cases v<;>rfl
def ql(a:Program)(w:World)(i:Int)(t:Tok):(aS a w).is (.inl i) (.int i t)=true:=vH i t
def qB(a:Program)(w:World)(x:Str)(t:Tok):(aS a w).is (.inr x) (.str x t)=true:=wJ x t
inductive V where
 |non | bl (b:Bool) | int (i:Int) | str (x:Str) | byt (b:Array UInt8) | flt (b:UInt64) | ref (a:Addr) | ty (n:String)
 deriving DecidableEq
noncomputable def RelV:V->Value->Prop
 |.non,u=>u=Value.none
 |.bl b,u=>u=Value.bool b
 |.int i,u=>∃t,u=Value.int i t
 |.str x,u=>∃t,u=Value.str x t
 |.byt b,u=>∃t,u=Value.bytes b t
 |.flt b,u=>∃t,u=Value.float b t
 |.ref a,u=>u=Value.ref a
 |.ty n,u=>u=Value.type n
noncomputable abbrev aT:List V->Xg->Prop:=Paired RelV
theorem aT.length{xs:List V}{a:Xg}(r:aT xs a):xs.length=a.length:=Xq r
theorem aT.get:∀{a:List V}{b:Xg}{i:Nat}{x:V},aT a b->a[i]?=some x->∃u,b[i]?=some u/\RelV x u
 |_,_,_,_,.nil,e=>by simp at e
 |_,_,0,_,.cons r _,e=>by simp at e;subst e;exact⟨_,rfl,r⟩
 |_,_,i+1,x,.cons _ t,e=>by
  obtain⟨u,f,d⟩:=aT.get (i:=i) (x:=x) t (by simpa using e);exact⟨u,by simpa using f,d⟩
theorem aT.set{x:V}{u:Value}(r:RelV x u):∀{a:List V}{b:Xg}(i:Nat),aT a b->aT (a.set i x) (b.set i u)
 |_,_,_,.nil=>.nil
 |_,_,0,.cons _ t=>.cons r t
 |_,_,i+1,.cons q t=>.cons q (aT.set r i t)
theorem aT.append:∀{b a:List V}{e d:Xg},aT b e->aT a d->aT (b++a) (e++d)
 |_,_,_,_,.nil,s=>s
 |_,_,_,_,.cons r t,s=>.cons r (aT.append t s)
theorem aT.take:∀{a:List V}{b:Xg}(n:Nat),aT a b->aT (a.take n) (b.take n)
 |_,_,0,_=>.nil
 |_,_,_+1,.nil=>.nil
 |_,_,n+1,.cons r t=>.cons r (aT.take n t)
theorem aT.drop:∀{a:List V}{b:Xg}(n:Nat),aT a b->aT (a.drop n) (b.drop n)
 |_,_,0,r=>r
 |_,_,_+1,.nil=>.nil
 |_,_,n+1,.cons _ t=>aT.drop n t
def aT.none_of:∀{a:List V}{b:Xg}{i:Nat},aT a b->a[i]?=none->b[i]?=none:=λ{a b i} r e=>by
 have f:=r.length;have d:a.length<=i:=YW.mp e;exact YW.mpr (by lia)
noncomputable def iK:Option V->Wm->Prop
 |some v,some u=>RelV v u
 |none,none=>True
 |_,_=>False
noncomputable def KV{κ:Type}:List (κ×V)->List (κ×Value)->Prop:=Paired λ(p:κ×V) (q:κ×Value)=>p.1=q.1/\RelV p.2 q.2
noncomputable def kV:Key->V
 |.inl i=>.int i
 |.inr x=>.str x
inductive HO where
 |lst (xs:List V)
 |tup (xs:List V)
 |dK (gV:List (Key×V)) | dT (gV:List (List Key×V))
 |set (S:Int->Bool) (n:Nat)
 |ins (C dx:Addr) (fs:List (Str×V))
 |own (x:Addr)
 |xd (fs:List (Str×V))
 |met (f x:Addr)
 |rng (lo hi:Int)
 |frz (o:Obj) (u:HO)
 |tbl (ps:Array Value)
 |ext (φ:World->Heap->Prop)
noncomputable abbrev Hp:=Addr->Option HO
noncomputable def upd(H:Hp)(a:Addr)(o:HO):Hp:=λb=>if b=a then some o else H b
def aw{H:Hp}{a:Addr}{o:HO}:upd H a o a=some o:=by unfold upd;rw[Zq rfl]
def ay{H:Hp}{a b:Addr}{o:HO}(h:b≠a):upd H a o b=H b:=by unfold upd;rw[Zp h]
def Ao{H:Hp}{a:Addr}{o u:HO}:upd (upd H a o) a u=upd H a u:=by
 funext b;unfold upd;split<;>rfl
def E3{H:Hp}{a b:Addr}{o u:HO}(h:H a=some o)(f:H b=some u)(d:o≠u):a≠b:=by
 intro e;subst e;rw[h]at f;exact d (Zm f)
def bN{H:Hp}{a b:Addr}{o:HO}(h:H a=some o)(d:H b=none):a≠b:=by
 intro e;subst e;rw[h]at d;cases d
noncomputable def LV(h:Heap)(a:Addr):Prop:=∀o,h.get? a=some o->o.dict=none
def LV.new(h:Heap)(a:Array Value):LV (h.push { cls:=.type "tuple",data:=.seq a }) h.objs.size:=λo e=>by
 rw[ZQ _ rfl]at e;cases e;rfl
def LV.of{h:Heap}{a:Addr}{o:Obj}(e:h.get? a=some o)(d:o.dict=none):LV h a:=λf b=>by
 rw[e]at b;cases b;exact d
section
variable(P:Program)(w:World)
noncomputable def br(H:Hp)(h:Heap)(a:Addr):HO->Prop
 |.lst b=>b.length<=sizeLine/\∃(g:Xg)(n:Nat),aT b g/\h.get? a=some { cls:=.type "list",data:=.seq g.toArray n }
 |.tup b=>b.length<=sizeLine/\∃g:Xg,aT b g/\LV h a/\IsTup h a g.toArray
 |.dK e=>e.length<=sizeLine/\(a==sysModules)=false/\∃j,KV e j/\h.DictOf (aS P w) a j
 |.dT e=>e.length<=sizeLine/\(a==sysModules)=false/\∃b:List (List Key×Addr×Value),
   Paired (λ(p:List Key×V) (q:List Key×Addr×Value)=>p.1=q.1/\H q.2.1=some (.tup (p.1.map kV))/\RelV p.2 q.2.2) e b ∧
   ∃o r y,h.get? a=some o/\o.ExactDict/\o.data=.dict r y/\r.toList=b.map (entryOfKey (tupleKind (aS P w)))/\(b.map (·.1)).Nodup
 |.set S n=>h.SetOf (intKind P w) a S n
 |.ins C i fs=>H i=some (.own a)/\fs.length<=1000/\i≠a/\h.get? a=some (PySem.W.instObj C i) ∧
   ∃d,h.Ns1 i d/\(∀f,iK (fs.lookup f) (d f))/\PySem.Within d (fs.map (·.1))
 |.own _=>∃o,h.get? a=some o
 |.xd fs=>∃d,h.Ns1 a d/\∀f,iK (fs.lookup f) (d f)
 |.rng lo s=>∃t u v,h.get? a=some { cls:=.type "range",data:=.fields #[.int lo t,.int s u,.int 1 v] }
 |.frz o u=>h.get? a=some o/\br H h a u
 |.tbl ps=>h.get? a=some { cls:=.none,data:=.fields ps }
 |.met f x=>h.get? a=some (PySem.W.methodObj (.ref f) (.ref x))
 |.ext φ=>φ w h/\(∃o,h.get? a=some o)/\∀m l:Heap,φ w m->(∀o,m.get? a=some o->l.get? a=some o)->φ w l
noncomputable def HE(H:Hp)(h:Heap):Prop:=∀a o,H a=some o->br P w H h a o
end
section
variable{P:Program}{w:World}{H H':Hp}{h h':Heap}{a:Addr}{o:HO}
theorem br.lt(x:br P w H h a o):a<h.objs.size:=by
 cases o with
 |lst b=>obtain⟨_,_,_,_,e⟩:=x;exact ZW e
 |tup b=>obtain⟨_,_,_,_,p⟩:=x;exact p.lt
 |dK d=>obtain⟨_,_,_,_,o,_,_,e,_⟩:=x;exact ZW e
 |dT d=>obtain⟨_,_,_,_,o,_,_,e,_⟩:=x;exact ZW e
 |set S n=>obtain⟨o,_,_,_,e,_⟩:=x;exact ZW e
 |ins C i fs=>obtain⟨_,_,_,e,_⟩:=x;exact ZW e
 |own y=>obtain⟨_,e⟩:=x;exact ZW e
 |xd fs=>obtain⟨_,⟨_,_,_,e,_⟩,_⟩:=x;exact ZW e
 |rng lo g=>obtain⟨_,_,_,e⟩:=x;exact ZW e
 |frz ob u=>obtain⟨e,_⟩:=x;exact ZW e
 |tbl ps=>exact ZW (show h.get? a=some _ from x)
 |met f y=>exact ZW (show h.get? a=some _ from x)
 |ext φ=>obtain⟨_,⟨_,e⟩,_⟩:=x;exact ZW e
theorem Paired.LF{α β:Type}{F G:α->β->Prop}:∀{e:List α}{d:List β},Paired F e d->(∀a b,F a b->G a b)->Paired G e d
 |_,_,.nil,_=>.nil
 |_,_,.cons r t,f=>.cons (f _ _ r) (Paired.LF t f)
def br.Jg(x:br P w H h a o)(k:∀b u,(b=a\/H b=some (.own a))->h.get? b=some u->h'.get? b=some u)(F:∀b,H b=some (.own a)->H' b=some (.own a))(E:∀b l,H b=some (.tup l)->H' b=some (.tup l)):br P w H' h' a o:=by
 induction o with
 |lst l=>obtain⟨z,A,n,r,e⟩:=x;exact⟨z,A,n,r,k _ _ (.inl rfl) e⟩
 |tup l=>obtain⟨z,A,r,nd,g,e,c⟩:=x;exact⟨z,A,r,LV.of (k _ _ (.inl rfl) e) (nd _ e),g,k _ _ (.inl rfl) e,c⟩
 |dK G=>obtain⟨z,y,B,r,g,i,j,e,c⟩:=x;exact⟨z,y,B,r,g,i,j,k _ _ (.inl rfl) e,c⟩
 |dT G =>
  obtain⟨z,y,l,r,g,i,j,e,c⟩:=x;exact⟨z,y,l,Paired.LF r λp q z=>⟨z.1,E _ _ z.2.1,z.2.2⟩,g,i,j,k _ _ (.inl rfl) e,c⟩
 |set S n=>obtain⟨g,i,j,t,e,c⟩:=x;exact⟨g,i,j,t,k _ _ (.inl rfl) e,c⟩
 |ins C L fs =>
  obtain⟨d,z,ne,e,s,⟨m,i,j,e2,c⟩,r⟩:=x;exact⟨F _ d,z,ne,k _ _ (.inl rfl) e,s,⟨m,i,j,k _ _ (.inr d) e2,c⟩,r⟩
 |own y=>obtain⟨g,e⟩:=x;exact⟨g,k _ _ (.inl rfl) e⟩
 |xd fs=>obtain⟨s,⟨m,i,j,e,c⟩,r⟩:=x;exact⟨s,⟨m,i,j,k _ _ (.inl rfl) e,c⟩,r⟩
 |rng lo J=>obtain⟨t,u,v,e⟩:=x;exact⟨t,u,v,k _ _ (.inl rfl) e⟩
 |frz g u D=>obtain⟨e,q⟩:=x;exact⟨k _ _ (.inl rfl) e,D q⟩
 |tbl ps =>
  have e:h.get? a=some { cls:=.none,data:=.fields ps }:=x;show h'.get? a=some { cls:=.none,data:=.fields ps };exact k a _ (.inl rfl) e
 |met f y =>
  have e:h.get? a=some (PySem.W.methodObj (.ref f) (.ref y)):=x;show h'.get? a=some (PySem.W.methodObj (.ref f) (.ref y));exact k a _ (.inl rfl) e
 |ext φ=>obtain⟨p,⟨o,e⟩,st⟩:=x;exact⟨st _ _ p λo q=>k _ _ (.inl rfl) q,⟨o,k _ _ (.inl rfl) e⟩,st⟩
theorem HE.lt(x:HE P w H h)(e:H a=some o):a<h.objs.size:=(x a o e).lt
def HE.fresh(x:HE P w H h)(e:h.objs.size<=a):H a=none:=by
 cases q:H a with
 |none=>rfl
 |some u=>exact absurd (ZK (x.lt q) e) (Ya _)
def HE.kept(x:HE P w H h)(k:∀b u,h.get? b=some u->h'.get? b=some u):HE P w H h':=λa o e =>
 (x a o e).Jg (λb u _ q=>k b u q) (λ_ q=>q) λ_ _ q=>q
def HE.laid(x:HE P w H h)(k:∀b u,h.get? b=some u->h'.get? b=some u)(g:h.objs.size<=a)(d:br P w (upd H a o) h' a o):HE P w (upd H a o) h':=λb u e=>by
 have f:=x.fresh g;by_cases hb:b=a
 ·subst hb;rw[aw]at e;cases e;exact d
 ·rw[ay hb]at e;exact(x b u e).Jg (λc v _ q=>k c v q) (λc q=>by rw[ay (bN q f)];exact q) λc i q=>by rw[ay (bN q f)];exact q
end
noncomputable def Rd(H:Hp)(a:Addr)(u:HO):Prop:=H a=some u\/∃o,H a=some (.frz o u)
def Rd.ok{P:Program}{w:World}{H:Hp}{h:Heap}{a:Addr}{u:HO}(r:Rd H a u)(x:HE P w H h):br P w H h a u:=by
 rcases r with r | ⟨o,r⟩
 ·exact x a u r
 ·obtain⟨_,q⟩:=x a _ r;exact q
noncomputable def GQ:Option HO->Prop
 |some (.lst _)=>True
 |some (.dK _)=>True
 |some (.dT _)=>True
 |some (.set _ _)=>True
 |some (.ins _ _ _)=>True
 |some (.ext _)=>True
 |_=>False
section
variable{P:Program}{w:World}{H:Hp}{h h':Heap}{x e:Addr}{o':HO}
def HE.write(n:HE P w H h)(d:GQ (H x))(l:e=x\/H e=some (.own x))(k:∀b u,b≠e->h.get? b=some u->h'.get? b=some u)(s:∃u,h'.get? e=some u)(i:br P w (upd H x o') h' x o'):HE P w (upd H x o') h':=λb u q=>by
 have m:∀c y,H c=some (.own y)->c≠x:=λc y r z=>by subst z;rw[r]at d;exact d
 have p:∀c a,H c=some (.tup a)->c≠x:=λc a r z=>by subst z;rw[r]at d;exact d
 by_cases hb:b=x
 ·subst hb;rw[aw]at q;cases q;exact i
 ·rw[ay hb]at q;by_cases g:b=e
  ·have j:H b=some (.own x):=by
    rcases l with z | z
    ·exact absurd (g.trans z) hb
    ·rw[g];exact z
   rw[q]at j;cases j;obtain⟨v,o⟩:=s;exact⟨v,by rw[g];exact o⟩
  ·refine(n b u q).Jg (λc v f r=>k c v ?_ r) (λc r=>by rw[ay (m c b r)];exact r) λc a r=>by rw[ay (p c a r)];exact r
   rcases f with rfl | f
   ·exact g
   ·rintro rfl;rcases l with z | z
    ·exact m c b f z
    ·rw[f]at z;cases z;exact hb rfl
end
structure Un(fs ex:Xi)(H H':Hp)(h h':Heap):Prop where
 keep:∀b o,h.get? b=some o->H b=none->b∉fs->b∉ex->h'.get? b=some o
 slot:∀b o,h.get? b=some o->H b=none->b∈fs->b∉ex->∃sl,h'.get? b=some { o with slots:=sl }
 free:∀b o,h.get? b=some o->H b=none->b∉ex->H' b=none
 there:∀b o,h.get? b=some o->b∉ex->∃o',h'.get? b=some o'
 IK:∀b xs,H b=some (.tup xs)->H' b=some (.tup xs)
 Il:∀b o u,H b=some (.frz o u)->H' b=some (.frz o u)
 IL:∀b ps,H b=some (.tbl ps)->∃more,H' b=some (.tbl (ps++more))
section
variable{fs Iy ex ex':Xi}{H H1 H2:Hp}{h h1 h2 h':Heap}{a x e:Addr}{o:HO}
def Un.any(u:Un fs ex H H1 h h1){b:Addr}{d:Obj}(q:h.get? b=some d)(n:H b=none)(f:b∉ex):∃g,h1.get? b=some { d with slots:=g }:=by
 by_cases hb:b∈fs
 ·exact u.slot b d q n hb f
 ·exact⟨d.slots,u.keep b d q n hb f⟩
def Un.kept(k:∀b u,h.get? b=some u->h'.get? b=some u):Un fs ex H H h h' :=
 ⟨λb d q _ _ _=>k b d q,λb d q _ _ _=>⟨d.slots,k b d q⟩,λ_ _ _ n _=>n,λb d q _=>⟨d,k b d q⟩,λ_ _ q=>q,λ_ _ _ q=>q,λ_ ps q=>⟨#[],by rw[q];simp⟩⟩
def Un.refl:Un fs ex H H h h:=Un.kept λ_ _ q=>q
def Un.laid(k:∀b u,h.get? b=some u->h'.get? b=some u)(g:h.objs.size<=a)(d:H a=none):Un fs ex H (upd H a o) h h' where
 keep:=λb u q _ _ _=>k b u q
 slot:=λb u q _ _ _=>⟨u.slots,k b u q⟩
 free:=λb u q n _=>by rw[ay (Zb (ZK (ZW q) g))];exact n
 there:=λb u q _=>⟨u,k b u q⟩
 IK:=λb f q=>by rw[ay (bN q d)];exact q
 Il:=λb u f q=>by rw[ay (bN q d)];exact q
 IL:=λb ps q=>⟨#[],by rw[ay (bN q d),q];simp⟩
def Un.write(d:GQ (H x))(l:e=x\/H e=some (.own x))(k:∀b u,b≠e->h.get? b=some u->h'.get? b=some u)(m:∃u,h'.get? e=some u):Un fs ex H (upd H x o) h h':=by
 have g:∀b,H b=none->b≠x:=λb n z=>by subst z;rw[n]at d;exact d
 have hb:∀b,H b=none->b≠e:=λb n z=>by
  subst z;rcases l with r | r
  ·exact g b n r
  ·rw[n]at r;cases r
 have f:∀b u,H b=some u->¬GQ (some u)->b≠x:=λb u q nm z=>by subst z;rw[q]at d;exact nm d
 refine⟨λb u q n _ _=>k b u (hb b n) q,λb u q n _ _=>⟨u.slots,k b u (hb b n) q⟩,λb u q n _=>by rw[ay (g b n)];exact n,λb u q _=>?_,
  λb j q=>by rw[ay (f b _ q λz=>z)];exact q,λb u j q=>by rw[ay (f b _ q λz=>z)];exact q,λb ps q=>⟨#[],by rw[ay (f b _ q λz=>z),q];simp⟩⟩
 by_cases i:b=e
 ·subst i;exact m
 ·exact⟨u,k b u i q⟩
end
noncomputable def Pf(h:Heap)(H:Hp):Xi:=(List.range h.objs.size).filter λa=>(H a).isSome
noncomputable def qk(h:Heap)(H:Hp):Heap:=PySem.W.hideAll h (Pf h H)
def vI(h:Heap)(H:Hp):(qk h H).objs.size=h.objs.size:=PySem.W.hideAll_size _ _
def xM{h:Heap}{H:Hp}{b:Addr}{o:Obj}(e:h.get? b=some o)(n:H b=none):(qk h H).get? b=some o :=
 PySem.W.hideAll_get _ e λa=>by
  have q:(H b).isSome=true:=(Yj.mp a).2;rw[n]at q;simp at q
def Bz{h:Heap}{H:Hp}{b:Addr}{o:Obj}(e:(qk h H).get? b=some o):h.get? b=some o/\H b=none:=by
 have a:h.get? b=some o:=PySem.W.of_hideAll (Pf h H) e;refine⟨a,?_⟩;cases q:H b with
 |none=>rfl
 |some x =>
  have d:b∈Pf h H:=Yj.mpr ⟨Yu.mpr (ZW a),by simp[q]⟩;have z:(qk h H).get? b=none:=PySem.W.hideAll_none (Pf h H) d;rw[z]at e;cases e
noncomputable def A8(g h:Heap)(L:Addr):Yy:=(List.range h.objs.size).filterMap λa=>if a=L\/(g.get? a).isSome=true then none else (h.get? a).map λo=>(a,o)
noncomputable def rest(g h:Heap)(L d:Addr):Yy:=(A8 g h L).filter λp=>decide (p.1≠d)
structure Mod(K:Y2)(mg:Xk)(base:Heap):Prop where
 PB:K.In base
 glob:base.Ns mainGlobals mg
 blt:∃mb,base.Ns builtinsNs mb/\∀x:Str,x ≠ "__name__" → mb x=bootBuiltins x
 nolimit:base.NoLimit
structure Cx where
 prog:Program
 w:World
 K:Y2
 mg:Xk
 base:Heap
 A:Around
 N:List Str
 s₀:Shared
 H₀:Hp
 env:Env
 outer:List Env
 stack:List Env
 ex:Xi
 fn:Str->Bool
 calm:Bool
 pn:Yy
 xe:GS
abbrev K1(e:Expr)(l:List Expr)(X:Cx):Prop:=starEach (e :: l) X.env=(false,eval e X.env) :: starEach l X.env
abbrev K2(p:Pos)(l:List Expr)(X:Cx):Prop:=(backTo p (starEach l X.env)).any (·.1)=false
abbrev K3(x:Str):Prop:=(x==("__debug__" : Str))=false
abbrev K4(x:Str):Prop:=(x==("__classdict__" : Str))=false
noncomputable def HS(l:List Env):Xi:=l.filterMap (·.frame)
noncomputable abbrev Cx.fs(X:Cx):Xi:=HS X.outer
noncomputable def Ir(a:Scope)(x:Str):Prop:=a.names.lookup x=some .local\/a.names.lookup x=some .cell\/a.names.lookup x=some .free
noncomputable def Loc(a:Scope)(x:Str):Prop:=a.names.lookup x=some .local\/a.names.lookup x=some .cell
noncomputable def Look(a:Env)(h:Heap)(m:Xk)(x:Str)(u:Value):Prop :=
 (a.kindOf x=some .local/\m x=some u)\/((a.kindOf x=some .cell\/a.kindOf x=some .free)/\∃c,a.cells.lookup x=some c/\h.IsCell c (some u))
structure Cx.Ok(X:Cx):Prop where
 mod:Mod X.K X.mg X.base
 kind:X.env.scope.kind=.function
 glob:X.env.globals=mainGlobals
 blt:X.env.builtins=builtinsNs
 above:X.s₀.heap.objs.size<=X.env.locals
 inj:∀x y c,X.env.cells.lookup x=some c->X.env.cells.lookup y=some c->x=y
 has:∀x,(X.env.kindOf x=some .cell\/X.env.kindOf x=some .free)->∃c,X.env.cells.lookup x=some c
 OP:∀x c,X.fn x=true->X.env.cells.lookup x=some c->X.s₀.heap.objs.size<=c
 hd:X.calm=true->X.A.handled=none
 frames:X.A.frames=some X.stack
 Pk:X.stack=X.outer\/(X.stack=X.env :: X.outer/\X.env.frame=some X.env.locals)
 Ur:∀b∈X.ex,b≠X.env.locals/\∀x c,X.env.cells.lookup x=some c->c≠b
 bs:∀b o,X.base.get? b=some o->X.s₀.heap.get? b=some o/\X.H₀ b=none
 LS:X.base.objs.size<=X.s₀.heap.objs.size
 KS:∀b o,X.base.get? b=some o->b∉X.ex
 LQ:∀b∈X.ex,b∉X.fs
 HZ:X.s₀.heap.FunFrames X.base X.outer
 M5:∀b∈X.fs,X.H₀ b=none
structure Inv(X:Cx)(pins:Yy)(O:List (Option V))(H:Hp)(s:Shared):Prop where
 ok:X.Ok
 os:s.os=X.s₀.os
 bare:AllBare s.gens
 base:Un X.fs X.ex X.H₀ H X.s₀.heap s.heap
 loc:∃m,s.heap.Ns X.env.locals m/\∀(i:Nat)(x:Str)(v:V),X.N[i]?=some x->O[i]?=some (some v)->Ir X.env.scope x->∃u,RelV v u/\Look X.env s.heap m x u
 cell:∀x c,X.env.cells.lookup x=some c->∃v,s.heap.IsCell c v
 free:H X.env.locals=none
 Hz:∀x c,X.env.cells.lookup x=some c->H c=none
 pin:∀p∈X.pn++pins,s.heap.get? p.1=some p.2/\H p.1=none/\p.1≠X.env.locals/\p.1∉X.fs/\∀v,p.2.data ≠ .cell v
 GL:HE X.prog X.w H s.heap
 len:O.length=X.N.length
section
variable{X:Cx}{pins:Yy}{O:List (Option V)}{H H':Hp}{s:Shared}{h':Heap}
def Cx.Ok.QJ(a:X.Ok){b:Addr}{o:Obj}(e:X.base.get? b=some o):b∉X.fs:=λhb=>by
 have:=(a.HZ.mem hb).1;rw[e]at this;cases this
theorem Inv.bs(I:Inv X pins O H s):∀b o,X.base.get? b=some o->s.heap.get? b=some o/\H b=none:=λb o e =>
 ⟨I.base.keep b o (I.ok.bs b o e).1 (I.ok.bs b o e).2 (I.ok.QJ e) (I.ok.KS b o e),I.base.free b o (I.ok.bs b o e).1 (I.ok.bs b o e).2 (I.ok.KS b o e)⟩
def Inv.bk(I:Inv X pins O H s):∀b o,X.base.get? b=some o->s.heap.get? b=some o:=λb o e=>(I.bs b o e).1
theorem Inv.mod(I:Inv X pins O H s):Mod X.K X.mg X.base:=I.ok.mod
def Inv.HY(I:Inv X pins O H s):X.K.In s.heap:=I.ok.mod.PB.keeps I.bk
theorem Inv.lt(I:Inv X pins O H s):X.env.locals<s.heap.objs.size:=let ⟨_,a,_⟩:=I.loc;a.lt
def Inv.sz(I:Inv X pins O H s):X.s₀.heap.objs.size<=s.heap.objs.size:=ZI I.ok.above (X7 I.lt)
def Inv.QI(I:Inv X pins O H s){a:Addr}(h:s.heap.objs.size<=a):a∉X.fs:=λhb=>by
 obtain⟨_,o,b,_⟩:=I.ok.HZ.mem hb;exact absurd (ZK (ZW b) (ZI I.sz h)) (Ya _)
def Inv.M7(I:Inv X pins O H s):∀x c,X.env.cells.lookup x=some c->c≠X.env.locals:=λx c e z=>by
 obtain⟨v,o,a,hd⟩:=I.cell x c e;obtain⟨m,⟨f,g,h,d,b,_⟩,_⟩:=I.loc;rw[z,d]at a;cases a;rw[b]at hd;cases hd
theorem Inv.HZ(I:Inv X pins O H s):s.heap.FunFrames X.base X.outer:=by
 have all:∀(l:List Env),(∀b∈HS l,b∈X.fs)->X.s₀.heap.FunFrames X.base l->s.heap.FunFrames X.base l:=by
  intro l
  induction l with
  |nil=>intro _ _;trivial
  |cons env r g =>
   intro f m;obtain⟨n,⟨L,o,a,j,i,hd⟩,h⟩:=m;have d:L∈X.fs:=f L (by unfold HS;rw[Wr,a];exact Zx);obtain⟨p,e⟩:=I.base.slot L o i (I.ok.M5 L d) d λz=>I.ok.LQ L z d;exact⟨n,⟨L,_,a,j,e,hd⟩,g (λb hb=>f b (by unfold HS;rw[Wr,a];exact Zy _ hb)) h⟩
 exact all X.outer (λ_ hb=>hb) I.ok.HZ
theorem Inv.stack(I:Inv X pins O H s):s.heap.FunFrames X.base X.stack:=by
 rcases I.ok.Pk with e | ⟨e,b⟩
 ·rw[e];exact I.HZ
 ·rw[e];obtain⟨m,a,_⟩:=I.loc;refine .cons (by rw[I.ok.kind];decide) b a ?_ I.HZ;exact Heap.get?_none_of_le (ZI I.ok.LS I.ok.above)
def Inv.IM(I:Inv X pins O H s):∀b∈HS X.stack,b∈X.env.locals :: X.fs:=λb hb=>by
 rcases I.ok.Pk with e | ⟨e,a⟩
 ·rw[e]at hb;exact Zy _ hb
 ·rw[e]at hb;unfold HS at hb;rw[Wr,a]at hb;exact hb
def Inv.JX(I:Inv X pins O H s):∀b∈HS X.stack,H b=none:=λb hb=>by
 rcases Zo.mp (I.IM b hb) with e | hb
 ·rw[e];exact I.free
 ·obtain⟨_,o,a,_⟩:=I.ok.HZ.mem hb;exact I.base.free b o a (I.ok.M5 b hb) λz=>I.ok.LQ b z hb
def Inv.step{g':Array GenState}{t':Nat}{d':Drawn}{ch:Xi}(I:Inv X pins O H s)(C:∀b∈ch,(b∈X.ex\/X.s₀.heap.objs.size<=b)/\b≠X.env.locals/\(∀x c,X.env.cells.lookup x=some c->c≠b)/\∀p∈X.pn++pins,p.1≠b)(g:∀b o,b≠X.env.locals->b∉X.fs->b∉ch->s.heap.get? b=some o->H b=none->h'.get? b=some o)(j:∀b o,b≠X.env.locals->b∈X.fs->b∉ch->s.heap.get? b=some o->H b=none->∃E,h'.get? b=some { o with slots:=E })(f:∀b o,b∉ch->s.heap.get? b=some o->H b=none->H' b=none)(t:∀b o,b∉ch->s.heap.get? b=some o->∃A,h'.get? b=some A)(IK:∀b h,H b=some (.tup h)->H' b=some (.tup h))(Z:∀b o u,H b=some (.frz o u)->H' b=some (.frz o u))(IL:∀b ps,H b=some (.tbl ps)->∃more,H' b=some (.tbl (ps++more)))(M:∀m,s.heap.Ns X.env.locals m->h'.Ns X.env.locals m)(GL:HE X.prog X.w H' h')(S:AllBare g') :
  Inv X pins O H' { s with heap:=h',gens:=g',drawn:=d',toks:=t' }:=by
 have L:∀b o,X.s₀.heap.get? b=some o->b≠X.env.locals:=λb o e=>Zb (ZK (ZW e) I.ok.above);have D:∀b o,X.s₀.heap.get? b=some o->b∉X.ex->b∉ch:=λb o e a hb=>by
  rcases (C b hb).1 with z | z
  ·exact a z
  ·exact absurd (ZK (ZW e) z) (Ya _)
 have cellK:∀x c,X.env.cells.lookup x=some c->∀v,s.heap.IsCell c v->h'.IsCell c v:=λx c e v ⟨o,y,hd⟩=>by
  have B:c∉ch:=λz=>(C c z).2.2.1 x c e rfl;by_cases J:c∈X.fs
  ·obtain⟨E,q⟩:=j c o (I.M7 x c e) J B y (I.Hz x c e);exact⟨_,q,hd⟩
  ·exact⟨o,g c o (I.M7 x c e) J B y (I.Hz x c e),hd⟩
 refine⟨I.ok,I.os,S,⟨λb o e n hb a=>?_,λb o e n hb a=>?_,λb o e n a=>?_,λb o e a=>?_,λb h e=>IK b h (I.base.IK b h e),λb o h e=>Z b o h (I.base.Il b o h e),λb ps e=>?_⟩,?_,λx c e=>?_,?_,λx c e=>?_,λp G=>?_,GL,I.len⟩
 ·exact g b o (L b o e) hb (D b o e a) (I.base.keep b o e n hb a) (I.base.free b o e n a)
 ·obtain⟨E,e1⟩:=I.base.slot b o e n hb a;obtain⟨Y,e2⟩:=j b _ (L b o e) hb (D b o e a) e1 (I.base.free b o e n a);exact⟨Y,e2⟩
 ·obtain⟨A,e1⟩:=I.base.there b o e a;exact f b A (D b o e a) e1 (I.base.free b o e n a)
 ·obtain⟨A,e1⟩:=I.base.there b o e a;exact t b A (D b o e a) e1
 ·obtain⟨P,e1⟩:=I.base.IL b ps e;obtain⟨N,e2⟩:=IL b _ e1;exact⟨P++N,by rw[e2,Array.append_assoc]⟩
 ·obtain⟨m,Q,R⟩:=I.loc;refine⟨m,M m Q,λi x v e1 e2 U=>?_⟩;obtain⟨u,r,l⟩:=R i x v e1 e2 U;refine⟨u,r,?_⟩;rcases l with l | ⟨k,c,e,z⟩
  ·exact .inl l
  ·exact .inr ⟨k,c,e,cellK x c e _ z⟩
 ·obtain⟨v,z⟩:=I.cell x c e;exact⟨v,cellK x c e v z⟩
 ·obtain⟨m,⟨o,_,_,y,_⟩,_⟩:=I.loc;exact f _ o (λz=>(C _ z).2.1 rfl) y I.free
 ·obtain⟨v,o,y,hd⟩:=I.cell x c e;exact f c o (λz=>(C c z).2.2.1 x c e rfl) y (I.Hz x c e)
 ·obtain⟨e,n,ne,F,d⟩:=I.pin p G;have B:p.1∉ch:=λz=>(C p.1 z).2.2.2 p G rfl;exact⟨g p.1 p.2 ne F B e n,f p.1 p.2 B e n,ne,F,d⟩
def Inv.un{t':Nat}(I:Inv X pins O H s)(u:Un X.fs [] H H' s.heap h')(l:HE X.prog X.w H' h'):Inv X pins O H' { s with heap:=h',toks:=t' }:=by
 obtain⟨m,⟨o,v,x,a,r⟩,_⟩:=id I.loc;obtain⟨p,h⟩:=u.any a I.free (by simp);exact I.step (g':=s.gens) (d':=s.drawn) (ch:=[]) (λ_ z=>nomatch z) (λb o _ hb _ e n=>u.keep b o e n hb (by simp)) (λb o _ hb _ e n=>u.slot b o e n hb (by simp)) (λb o _ e n=>u.free b o e n (by simp)) (λb o _ e=>u.there b o e (by simp)) u.IK u.Il u.IL (λt g=>by
  obtain⟨q,j,i,d,f⟩:=g;rw[a]at d;cases d;exact⟨_,j,i,h,f⟩) l I.bare
def Inv.call{g':Array GenState}{t':Nat}{d':Drawn}{ch:Xi}(I:Inv X pins O H s)(u:Un (HS X.stack) ch H H' s.heap h')(v:HE X.prog X.w H' h')(l:AllBare g')(g:∀b∈ch,(b∈X.ex\/X.s₀.heap.objs.size<=b)/\b≠X.env.locals/\(∀x c,X.env.cells.lookup x=some c->c≠b)/\∀p∈X.pn++pins,p.1≠b) :
  Inv X pins O H' { s with heap:=h',gens:=g',drawn:=d',toks:=t' }:=by
 obtain⟨m,⟨o,C,D,f,r⟩,_⟩:=id I.loc;obtain⟨y,d⟩:=u.any f I.free λz=>(g _ z).2.1 rfl;exact I.step (ch:=ch) g (λb o d hb a e n=>u.keep b o e n (λz=>(Zo.mp (I.IM b z)).elim d hb) a) (λb o _ _ a e n=>u.any e n a) (λb o a e n=>u.free b o e n a) (λb o a e=>u.there b o e a) u.IK u.Il u.IL (λB j=>by
  obtain⟨A,t,q,h,i⟩:=j;rw[f]at h;cases h;exact⟨_,t,q,d,i⟩) v l
def Inv.turned{t':Nat}{it:Addr}(I:Inv X pins O H s)(k:∀b o,b≠it->s.heap.get? b=some o->h'.get? b=some o)(h:H it=none)(d:it≠X.env.locals)(t:it∈X.ex\/X.s₀.heap.objs.size<=it)(l:∀x c,X.env.cells.lookup x=some c->c≠it)(j:∀p∈X.pn++pins,p.1≠it):Inv X pins O H { s with heap:=h',toks:=t' }:=by
 have f:∀b u,H b=some u->b≠it:=λb u e z=>by rw[z,h]at e;cases e
 refine I.step (g':=s.gens) (d':=s.drawn) (ch:=[it]) (λb hb=>?_) (λb o _ _ a e _=>k b o (λz=>a (by simp[z])) e) (λb o _ _ a e _=>⟨o.slots,k b o (λz=>a (by simp[z])) e⟩) (λ_ _ _ _ n=>n)
  (λb o a e=>⟨o,k b o (λz=>a (by simp[z])) e⟩) (λ_ _ e=>e) (λ_ _ _ e=>e) (λb ps e=>⟨#[],by rw[e];simp⟩) (λm i=>?_) (λb u e=>?_) I.bare
 ·have e:b=it:=by simpa using hb
  subst e;exact⟨t,d,l,j⟩
 ·obtain⟨o,w,y,g,r⟩:=i;exact⟨o,w,y,k _ o (Yq d) g,r⟩
 ·refine(I.GL b u e).Jg (λc v a q=>k c v ?_ q) (λ_ q=>q) λ_ _ q=>q;rcases a with z | z
  ·rw[z];exact f b u e
  ·exact f c _ z
def Inv.tok(I:Inv X pins O H s)(t:Nat):Inv X pins O H { s with toks:=t }:=I.un (h':=s.heap) (t':=t) Un.refl I.GL
theorem Inv.kept{t':Nat}(I:Inv X pins O H s)(k:∀b u,s.heap.get? b=some u->h'.get? b=some u):Inv X pins O H { s with heap:=h',toks:=t' }:=I.un (Un.kept k) (I.GL.kept k)
theorem Inv.laid{a:Addr}{o:HO}{t':Nat}(I:Inv X pins O H s)(k:∀b u,s.heap.get? b=some u->h'.get? b=some u)(e:s.heap.objs.size<=a)(d:br X.prog X.w (upd H a o) h' a o) :
  Inv X pins O (upd H a o) { s with heap:=h',toks:=t' }:=I.un (Un.laid k e (I.GL.fresh e)) (I.GL.laid k e d)
theorem Inv.write{x e:Addr}{o:HO}{g:Nat}(I:Inv X pins O H s)(d:GQ (H x))(he:e=x\/H e=some (.own x))(k:∀b u,b≠e->s.heap.get? b=some u->h'.get? b=some u)(f:∃u,h'.get? e=some u)(a:br X.prog X.w (upd H x o) h' x o):Inv X pins O (upd H x o) { s with heap:=h',toks:=g }:=I.un (Un.write d he k f) (I.GL.write d he k f a)
def Inv.JY{a:Yy}(I:Inv X pins O H s)(h:∀p∈a,s.heap.get? p.1=some p.2/\H p.1=none/\p.1≠X.env.locals/\p.1∉X.fs/\∀v,p.2.data ≠ .cell v):Inv X a O H s :=
 ⟨I.ok,I.os,I.bare,I.base,I.loc,I.cell,I.free,I.Hz,λp b=>(Ze.mp b).elim (λz=>I.pin p (Kc _ z)) (h p),I.GL,I.len⟩
def sA{N:List Str}(d:N.Nodup){i j:Nat}{x:Str}(a:N[i]?=some x)(b:N[j]?=some x):i=j:=by
 obtain⟨f,e1⟩:=Zg.mp a;obtain⟨e,e2⟩:=Zg.mp b;exact(WT d).mp (e1.trans e2.symm)
def oE{M:Model}{A:Around}{E:GS}{i:Nat}{x:Str}{v:V}{u:Value}{Q:Unit->Shared->Prop}(I:Inv X pins O H s)(hN:X.N.Nodup)(C:X.N[i]?=some x)(l:Loc X.env.scope x)(r:RelV v u)(h:∀P,Inv X pins (O.set i (some v)) H P->(∃a,Heap.SameBut a s.heap P.heap/\(a=X.env.locals\/X.env.cells.lookup x=some a))->Q () P)(hf:X.fn x=true\/X.env.scope.names.lookup x=some .local:=by first | exact .inl rfl | exact .inr rfl | assumption):wpAny M A (storeName X.env x u) Q E s:=by
 obtain⟨m,Z,hl⟩:=id I.loc;have RO:(X.env.scope.kind == .class||(X.env.scope.kind == .module&&X.env.locals != X.env.globals))=false:=by rw[I.ok.kind];rfl
 have TL:i<O.length:=by rw[I.len];exact(Zg.mp C).1
 have M7:=I.M7;have tracked:∀{a:Addr}{h':Heap},(∃o,s.heap.get? a=some o/\H a=none)->Heap.SameBut a s.heap h'->HE X.prog X.w H h':=λ{a h'} ha f b ob e=>by
  obtain⟨_,_,Mg⟩:=ha;refine(I.GL b ob e).Jg (λc D g q=>(f.2 c ?_).trans q) (λ_ q=>q) λ_ _ q=>q;rintro rfl;rcases g with rfl | g
  ·rw[Mg]at e;cases e
  ·rw[Mg]at g;cases g
 rcases l with t | t
 ·refine wpAny_storeName_local t Z (λh' Mf f=>?_) RO;obtain⟨oL,_,_,Of,_⟩:=id Z;refine h _ ⟨I.ok,I.os,I.bare,⟨λb o e n hb l=>?_,λb o e n hb l=>?_,I.base.free,λb o e l=>?_,I.base.IK,I.base.Il,I.base.IL⟩,⟨_,Mf,λj y G e1 e2 e3=>?_⟩,λy c e=>?_,I.free,I.Hz,λp Y=>?_,tracked ⟨oL,Of,I.free⟩ f,by simpa using I.len⟩ ⟨_,f,.inl rfl⟩
  ·exact(f.2 b (Zb (ZK (ZW e) I.ok.above))).trans (I.base.keep b o e n hb l)
  ·obtain⟨L,e1⟩:=I.base.slot b o e n hb l;exact⟨L,(f.2 b (Zb (ZK (ZW e) I.ok.above))).trans e1⟩
  ·obtain⟨S,e1⟩:=I.base.there b o e l;exact⟨S,(f.2 b (Zb (ZK (ZW e) I.ok.above))).trans e1⟩
  ·by_cases B:j=i
   ·subst B;rw[C]at e1;cases e1;rw[YS TL]at e2;cases e2;exact⟨u,r,.inl ⟨t,by simp⟩⟩
   ·rw[Yt (Yq B)]at e2;obtain⟨J,R,q⟩:=hl j y G e1 e2 e3;refine⟨J,R,?_⟩;rcases q with⟨k,e⟩ | ⟨k,c,e,z⟩
    ·refine .inl ⟨k,?_⟩;have:y≠x:=λe=>B (sA hN e1 (e ▸ C));simp[this,e]
    ·exact .inr ⟨k,c,e,z.sameBut f (M7 y c e)⟩
  ·obtain⟨D,z⟩:=I.cell y c e;exact⟨D,z.sameBut f (M7 y c e)⟩
  ·obtain⟨e,n,ne,U,d⟩:=I.pin p Y;exact⟨(f.2 p.1 ne).trans e,n,ne,U,d⟩
 ·have RJ:X.fn x=true:=by
   rcases hf with z | z
   ·exact z
   ·rw[z]at t;cases t
  obtain⟨c,g⟩:=I.ok.has x (.inl t);obtain⟨D,z⟩:=I.cell x c g;refine wpAny_storeName_cell I.ok.kind t g z (λh' Hw f=>?_);obtain⟨oc,Tz,Rr⟩:=id z;refine h { s with heap:=h' } ⟨I.ok,I.os,I.bare,⟨λb o e n hb l=>?_,λb o e n hb l=>?_,I.base.free,λb o e l=>?_,I.base.IK,I.base.Il,I.base.IL⟩,⟨m,Z.sameBut f (Yq (M7 x c g)),λj y G e1 e2 e3=>?_⟩,λy F e=>?_,I.free,I.Hz,λp Y=>?_,tracked ⟨oc,Tz,I.Hz x c g⟩ f,by simpa using I.len⟩ ⟨c,f,.inr g⟩
  ·exact(f.2 b (Zb (ZK (ZW e) (I.ok.OP x c RJ g)))).trans (I.base.keep b o e n hb l)
  ·obtain⟨L,e1⟩:=I.base.slot b o e n hb l;exact⟨L,(f.2 b (Zb (ZK (ZW e) (I.ok.OP x c RJ g)))).trans e1⟩
  ·obtain⟨S,e1⟩:=I.base.there b o e l;exact⟨S,(f.2 b (Zb (ZK (ZW e) (I.ok.OP x c RJ g)))).trans e1⟩
  ·by_cases B:j=i
   ·subst B;rw[C]at e1;cases e1;rw[YS TL]at e2;cases e2;exact⟨u,r,.inr ⟨.inl t,c,g,Hw⟩⟩
   ·rw[Yt (Yq B)]at e2;obtain⟨J,R,q⟩:=hl j y G e1 e2 e3;refine⟨J,R,?_⟩;rcases q with q | ⟨k,F,e,z'⟩
    ·exact .inl q
    ·refine .inr ⟨k,F,e,z'.sameBut f ?_⟩;rintro rfl;exact B (sA hN e1 (I.ok.inj _ _ _ e g ▸ C))
  ·by_cases TU:F=c
   ·subst TU;exact⟨_,Hw⟩
   ·obtain⟨w2,z2⟩:=I.cell y F e;exact⟨w2,z2.sameBut f TU⟩
  ·obtain⟨e,n,ne,U,d⟩:=I.pin p Y;refine⟨(f.2 p.1 ?_).trans e,n,ne,U,d⟩;intro q;rw[q,Tz]at e;have q':oc=p.2:=Zm e;exact d D (by rw[← q'];exact Rr)
def se{M:Model}{A:Around}{E:GS}{i:Nat}{x:Str}{v:V}{u:Value}{Q:Unit->Shared->Prop}(I:Inv X pins O H s)(f:X.N.Nodup)(d:X.N[i]?=some x)(b:Loc X.env.scope x)(r:RelV v u)(h:∀a,Inv X pins (O.set i (some v)) H a->Q () a)(e:X.fn x=true\/X.env.scope.names.lookup x=some .local:=by first | exact .inl rfl | exact .inr rfl | assumption):wpAny M A (storeName X.env x u) Q E s :=
 oE I f d b r (λa g _=>h a g) e
def Inv.OO{a:Shared}{ch:Xi}(I:Inv X pins O H s)(f:a.os=s.os)(u:Un (HS X.stack) ch H H' s.heap a.heap)(i:HE X.prog X.w H' a.heap)(g:AllBare a.gens)(h:∀b∈ch,(b∈X.ex\/X.s₀.heap.objs.size<=b)/\b≠X.env.locals/\(∀x c,X.env.cells.lookup x=some c->c≠b)/\∀p∈X.pn++pins,p.1≠b):Inv X pins O H' a:=by
 obtain⟨h',g',d',t',d⟩:=a;have e:d=s.os:=f;subst e;exact I.call (g':=g') (t':=t') (d':=d') u i g h
end
noncomputable abbrev XK:=Value->Option Addr->Hp->Prop
noncomputable abbrev St:=List (Option V)
noncomputable abbrev VK:=V->Hp->Prop
noncomputable abbrev TE:=St->Hp->VK->Prop
noncomputable abbrev TT:=St->Hp->(Bool->Hp->Prop)->Prop
noncomputable abbrev TA:=St->Hp->(List V->Hp->Prop)->Prop
structure Ends where
 nx:St->Hp->Prop
 rt:VK
 bk:St->Hp->Prop:=λ_ _=>False
 ct:St->Hp->Prop:=λ_ _=>False
noncomputable abbrev TS:=Ends->St->Hp->Prop
noncomputable def EP(X:Cx)(a:Yy)(O:St)(Q:VK)(u:Value)(d:Shared):Prop:=∃v b,Inv X a O b d/\RelV v u/\Q v b
noncomputable def TP(X:Cx)(a:Yy)(O:St)(Q:Bool->Hp->Prop)(b:Bool)(e:Shared):Prop:=∃d,Inv X a O d e/\Q b d
noncomputable def AP(X:Cx)(a:Yy)(O:St)(Q:List V->Hp->Prop)(e:Xg)(f:Shared):Prop:=∃b d,Inv X a O d f/\aT b e/\Q b d
noncomputable def SP(X:Cx)(a:Yy)(D:Ends)(f:Flow)(e:Shared):Prop :=
 match f with
 |.next=>∃d b,Inv X a d b e/\D.nx d b
 |.brk=>∃d b,Inv X a d b e/\D.bk d b
 |.cont=>∃d b,Inv X a d b e/\D.ct d b
 |.ret u=>∃v d b,Inv X a d b e/\RelV v u/\D.rt v b
noncomputable def PE(X:Cx)(e:Expr)(t:TE):Prop :=
 ∀(pins:Yy)(s:Shared)(O:St)(H:Hp)(Q:VK),Inv X pins O H s->t O H Q->wpAny (model X.prog X.w) X.A (eval e X.env) (EP X pins O Q) X.xe s
noncomputable def PT(X:Cx)(e:Expr)(t:TT):Prop :=
 ∀(pins:Yy)(s:Shared)(O:St)(H:Hp)(Q:Bool->Hp->Prop),Inv X pins O H s->t O H Q->wpAny (model X.prog X.w) X.A (isTrue e X.env (eval e X.env)) (TP X pins O Q) X.xe s
noncomputable def PW(X:Cx)(e:Expr)(t:TT):Prop :=
 ∀(whole:Sem Value)(pins:Yy)(s:Shared)(O:St)(H:Hp)(Q:Bool->Hp->Prop),Inv X pins O H s->t O H Q->wpAny (model X.prog X.w) X.A (isTrue e X.env whole) (TP X pins O Q) X.xe s
def PW.pt{X:Cx}{e:Expr}{t:TT}(h:PW X e t):PT X e t:=h _
noncomputable def PA(X:Cx)(a:List Expr)(t:TA):Prop :=
 ∀(pos:Pos)(pins:Yy)(s:Shared)(O:St)(H:Hp)(Q:List V->Hp->Prop),Inv X pins O H s->t O H Q->wpAny (model X.prog X.w) X.A (spliced (backTo pos (starEach a X.env))) (AP X pins O Q) X.xe s
noncomputable def PS(X:Cx)(a:Stmt)(t:TS):Prop :=
 ∀(pins:Yy)(s:Shared)(O:St)(H:Hp)(D:Ends),Inv X pins O H s->t D O H->wpAny (model X.prog X.w) X.A (exec a X.env) (SP X pins D) X.xe s
noncomputable def ID(X:Cx)(a:List Stmt)(t:TS):Prop :=
 ∀(pins:Yy)(s:Shared)(O:St)(H:Hp)(D:Ends),Inv X pins O H s->t D O H->wpAny (model X.prog X.w) X.A (execs a X.env) (SP X pins D) X.xe s
def thn{α:Type}{t:Sem α}{Q b:α->Shared->Prop}{M:Model}{A:Around}{E:GS}{s:Shared}(h:wpAny M A t Q E s)(d:∀a s,Q a s->b a s):wpAny M A t b E s:=YJ h d λ_ _ x=>x
section
variable{X:Cx}
noncomputable def FV(i:Nat):TE:=λO H Q=>∃v,O[i]?=some (some v)/\Q v H
noncomputable def tC(v:V):TE:=λ_ H Q=>Q v H
def dM{i:Nat}{x:Str}{b:Pos}(t:X.N[i]?=some x)(n:Ir X.env.scope x)(d:K3 x:=by decide)(f:K4 x:=by decide):PE X (.Name x b) (FV i):=by
 intro pins s O H Q I h;obtain⟨v,e,h⟩:=h;obtain⟨m,o,q⟩:=I.loc;obtain⟨u,r,l⟩:=q i x v t e n;have fin:EP X pins O Q u s:=⟨v,H,I,r,h⟩
 rcases l with⟨a,p⟩ | ⟨a,c,g,j⟩
 ·exact wpAny_Name (wpAny_loadName_local I.ok.kind a o p fin) d
 ·rcases a with a | a
  ·exact wpAny_Name (wpAny_loadName_cell I.ok.kind a g j fin) d
  ·exact wpAny_Name (wpAny_loadName_free I.ok.kind a g j fin f) d
def p9{i j pos}:PE X (.Constant (.int i) j pos) (tC (.int i)):=λ_ _ _ H _ I h=>wpAny_Constant_int ⟨.int i,H,I.tok _,⟨_,rfl⟩,h⟩
def ES{b j pos}:PE X (.Constant (.bool b) j pos) (tC (.bl b)):=λ_ _ _ H _ I h=>Constant_bool ⟨.bl b,H,I,rfl,h⟩
def Cg{j pos}:PE X (.Constant .none j pos) (tC .non):=λ_ _ _ H _ I h=>Constant_none ⟨.non,H,I,rfl,h⟩
def zR{x j pos}:PE X (.Constant (.str x) j pos) (tC (.str x)):=λ_ _ _ H _ I h=>Calls.Constant_str ⟨.str x,H,I.tok _,⟨_,rfl⟩,h⟩
noncomputable def Gl(X:Cx)(x:Str):Prop:=X.env.kindOf x=some .globalImplicit
def vA{E:GS}{a:Yy}{s:Shared}{O:St}{H:Hp}{x:Str}{u:Value}{b:Pos}{Q:GS}(I:Inv X a O H s)(e:Gl X x)(d:X.mg x=some u)(h:Q u s)(f:K3 x:=by decide):wpAny (model X.prog X.w) X.A (eval (.Name x b) X.env) Q E s :=
 Calls.Name_function_global I.ok.kind e (Calls.loadGlobal_global (by rw[I.ok.glob];exact I.mod.glob.keeps I.bk) d h) f
def k8{E:GS}{a:Yy}{s:Shared}{O:St}{H:Hp}{x:Str}{u:Value}{b:Pos}{Q:GS}(I:Inv X a O H s)(g:Gl X x)(f:X.mg x=none)(d:bootBuiltins x=some u)(h:Q u s)(e:x ≠ "__name__" := by decide)(i:K3 x:=by decide):wpAny (model X.prog X.w) X.A (eval (.Name x b) X.env) Q E s:=by
 obtain⟨m,l,j⟩:=I.mod.blt;exact Calls.Name_function_global I.ok.kind g (Calls.loadGlobal_builtin (by rw[I.ok.glob];exact I.mod.glob.keeps I.bk) f (by rw[I.ok.blt];exact l.keeps I.bk) ((j x e).trans d) h) i
def BE{x:Str}{v:V}{u:Value}{a:Pos}(f:Gl X x)(e:X.mg x=none)(b:bootBuiltins x=some u)(r:RelV v u)(d:x ≠ "__name__" := by decide)(g:K3 x:=by decide):PE X (.Name x a) (tC v) :=
 λ_ _ _ H _ I h=>k8 I f e b ⟨v,H,I,r,h⟩ d g
variable{a b:Expr}{ta tb:TE}{pos:Pos}
noncomputable def PC(X:Cx)(f:CmpOp)(a b:Expr)(t:TE):Prop :=
 ∀(pins:Yy)(s:Shared)(O:St)(H:Hp)(Q:VK),Inv X pins O H s->t O H Q →
  wpAny (model X.prog X.w) X.A (eval a X.env) (λv e=>wpAny (model X.prog X.w) X.A (eval b X.env) (λu d=>wpAny (model X.prog X.w) X.A (compareOp f v u) (EP X pins O Q) X.xe d) X.xe e) X.xe s
def yR(b:Expr){d:CmpOp}(h:d ≠ .In)(e:d ≠ .NotIn):behindInMarks d b=false:=by
 have e1:(d==CmpOp.In)=false:=by cases d<;>first | rfl | exact absurd rfl h
 have e2:(d==CmpOp.NotIn)=false:=by cases d<;>first | rfl | exact absurd rfl e
 cases b<;>simp[behindInMarks,e1,e2]
noncomputable def Gk(ta:TE):TE:=λO H Q=>ta O H λx d=>Q (.bl (decide (x=.non))) d
noncomputable def FI(ta:TE):TE:=λO H Q=>ta O H λx d=>Q (.bl (!decide (x=.non))) d
def RelV.Ji{x:V}{v:Value}(r:RelV x v):(v==Value.none)=decide (x=.non):=by
 cases x with
 |non=>cases r;rfl
 |bl _=>cases r;rfl
 |int _=>obtain⟨t,rfl⟩:=r;rfl
 |str _=>obtain⟨t,rfl⟩:=r;rfl
 |byt _=>obtain⟨t,rfl⟩:=r;rfl
 |flt _=>obtain⟨t,rfl⟩:=r;rfl
 |ref _=>cases r;rfl
 |ty _=>cases r;rfl
def CW{j pos'}(e:PE X a ta):PC X .Is a (.Constant .none j pos') (Gk ta):=by
 intro pins s O H Q I h;refine thn (e pins s O H _ I h) λv s1 ⟨x,g,f,r1,d⟩=>?_;exact Constant_none (is_none_gen ⟨.bl _,g,f,by rw[r1.Ji];rfl,d⟩)
def Bw{j pos'}(e:PE X a ta):PC X .IsNot a (.Constant .none j pos') (FI ta):=by
 intro pins s O H Q I h;refine thn (e pins s O H _ I h) λv s1 ⟨x,g,f,r1,d⟩=>?_;exact Constant_none (isnot_none_gen ⟨.bl _,g,f,by rw[r1.Ji];rfl,d⟩)
noncomputable def tB(t:TE):TT:=λO H Q=>t O H λx d=>∃c,x=.bl c/\Q c d
def zi{e:CmpOp}{t:TE}(h:PC X e a b t)(f:behindInMarks e b=false:=by first | exact yR _ (by decide) (by decide) | rfl):PT X (.Compare a [e] [b] pos) (tB t):=by
 intro pins s O H Q I hw;refine wpAny_isTrue_Compare1 (thn (h pins s O H _ I hw) λv s1 f=>thn f λu n i=>thn i λc m ⟨x,l,j,r1,g⟩=>?_) f;obtain⟨d,rfl,q⟩:=g;cases r1;exact YK ⟨l,j,q⟩
variable{tA Pj:TT}{rest:List Expr}
noncomputable def Gp(t u:TT):TT:=λO H Q=>t O H λc d=>if c=true then u O d Q else Q false d
noncomputable def US(t u:TT):TT:=λO H Q=>t O H λc d=>if c=true then Q true d else u O d Q
noncomputable def Gy(t:TT):TT:=λO H Q=>t O H λc d=>Q (!c) d
def iB(d:PT X a tA):PW X (.BoolOp .And [a] pos) tA:=by
 intro f pins s O H Q I h;refine isTrue_and (thn (d pins s O H Q I h) λc s1 e=>?_);cases c with
 |true=>exact isTrue_and_nil e
 |false=>exact e
def ud(d:PT X a tA):PW X (.BoolOp .Or [a] pos) tA:=by
 intro f pins s O H Q I h;refine isTrue_or (thn (d pins s O H Q I h) λc s1 e=>?_);cases c with
 |false=>exact isTrue_or_nil e
 |true=>exact e
def ze(j:PT X a tA)(i:PW X (.BoolOp .And (b :: rest) pos) Pj):PW X (.BoolOp .And (a :: b :: rest) pos) (Gp tA Pj):=by
 intro g pins s O H Q I h;refine isTrue_and (thn (j pins s O H _ I h) λc s1 ⟨f,e,d⟩=>?_);cases c with
 |true=>exact i g pins s1 O f Q e d
 |false=>exact⟨f,e,d⟩
def En(j:PT X a tA)(i:PW X (.BoolOp .Or (b :: rest) pos) Pj):PW X (.BoolOp .Or (a :: b :: rest) pos) (US tA Pj):=by
 intro g pins s O H Q I h;refine isTrue_or (thn (j pins s O H _ I h) λc s1 ⟨f,e,d⟩=>?_);cases c with
 |true=>exact⟨f,e,d⟩
 |false=>exact i g pins s1 O f Q e d
def DZ(d:PT X a tA):PT X (.UnaryOp .Not a pos) (Gy tA):=by
 intro pins s O H Q I h;exact isTrue_not (d pins s O H (λc e=>Q (!c) e) I h)
noncomputable def Es(ta e:TE):TE:=λO H Q=>ta O H λx d=>∃c,x=.bl c/\if c=true then e O d Q else Q (.bl false) d
noncomputable def FR(ta:TE):TE:=λO H Q=>ta O H λx d=>∃c,x=.bl c/\Q (.bl (!c)) d
def Dk{op}{t:TE}(h:PE X a t):PE X (.BoolOp op [a] pos) t:=λpins s O H Q I hw=>BoolOp_one (h pins s O H Q I hw)
def Cv(i:PE X a ta)(g:PE X (.BoolOp .And (b :: rest) pos) tb):PE X (.BoolOp .And (a :: b :: rest) pos) (Es ta tb):=by
 intro pins s O H Q I h;refine BoolOp_and (thn (i pins s O H _ I h) λv s1 ⟨x,f,e,r1,d⟩=>?_);obtain⟨c,rfl,d⟩:=d;cases r1;refine YK ?_;cases c with
 |true=>exact g pins s1 O f Q e d
 |false=>exact⟨.bl false,f,e,rfl,d⟩
def Dd(e:PE X a ta):PE X (.UnaryOp .Not a pos) (FR ta):=by
 intro pins s O H Q I h;refine UnaryOp_ (thn (e pins s O H _ I h) λv s1 ⟨x,g,f,r1,d⟩=>?_);obtain⟨c,rfl,d⟩:=d;cases r1;exact not_of (YK ⟨.bl (!c),g,f,rfl,d⟩)
end
noncomputable def GY(K:Y2)(H:Hp)(a:Addr)(d:List V):Prop :=
 Rd H a (.lst d) ∨
  ∃(o:Obj)(b:Array Value)(n:Nat),K.lookup a=some o/\o.cls=.type "list" ∧ o.dict=none/\o.data=.seq b n/\b.size<=sizeLine/\aT d b.toList
noncomputable def HD(K:Y2)(H:Hp)(a:Addr)(d:List V):Prop :=
 Rd H a (.tup d) ∨
  ∃(o:Obj)(b:Array Value)(n:Nat),K.lookup a=some o/\o.cls=.type "tuple" ∧ o.data=.seq b n/\b.size<=sizeLine/\aT d b.toList
noncomputable def GF:Value->Option V
 |.none=>some .non
 |.bool b=>some (.bl b)
 |.int i _=>some (.int i)
 |.str x _=>some (.str x)
 |.bytes b _=>some (.byt b)
 |.float b _=>some (.flt b)
 |.ref a=>some (.ref a)
 |.type n=>some (.ty n)
 |_=>none
def RelV.abs{x:V}{u:Value}(r:RelV x u):GF u=some x:=by
 cases x with
 |non=>cases r;rfl
 |bl _=>cases r;rfl
 |int _=>obtain⟨t,rfl⟩:=r;rfl
 |str _=>obtain⟨t,rfl⟩:=r;rfl
 |byt _=>obtain⟨t,rfl⟩:=r;rfl
 |flt _=>obtain⟨t,rfl⟩:=r;rfl
 |ref _=>cases r;rfl
 |ty _=>cases r;rfl
def RelV.inj{x y:V}{u:Value}(r:RelV x u)(q:RelV y u):x=y:=Zm (r.abs.symm.trans q.abs)
theorem aT.inj:∀{b a:List V}{d:Xg},aT b d->aT a d->b=a
 |_,_,_,.nil,.nil=>rfl
 |_,_,_,.cons r t,.cons f e=>by rw[r.inj f,aT.inj t e]
section
variable{X:Cx}{pins:Yy}{O:St}{H:Hp}{s:Shared}{a:Addr}{xs ys:List V}
def GY.of{K:Y2}(h:H a=some (.lst xs)):GY K H a xs:=.inl (.inl h)
def HD.of{K:Y2}(h:H a=some (.tup xs)):HD K H a xs:=.inl (.inl h)
def Inv.list(I:Inv X pins O H s)(h:GY X.K H a xs):∃b:Xg,aT xs b/\PlainL s.heap a b.toArray/\xs.length<=sizeLine:=by
 rcases h with h | ⟨o,b,n,f,g,hd,d,i,r⟩
 ·obtain⟨z,b,n,r,e⟩:=h.ok I.GL;exact⟨b,r,⟨_,n,e,rfl,rfl,rfl⟩,z⟩
 ·refine⟨b.toList,r,⟨o,n,I.HY a o f,g,hd,by simpa using d⟩,?_⟩;have e:=r.length;simp only[YQ]at e;lia
def Inv.tuple(I:Inv X pins O H s)(h:HD X.K H a xs):∃b:Xg,aT xs b/\IsTup s.heap a b.toArray/\xs.length<=sizeLine:=by
 rcases h with h | ⟨o,b,n,f,g,d,i,r⟩
 ·obtain⟨z,b,r,_,p⟩:=h.ok I.GL;exact⟨b,r,p,z⟩
 ·refine⟨b.toList,r,⟨o,I.HY a o f,g,n,by simpa using d⟩,?_⟩;have e:=r.length;simp only[YQ]at e;lia
def Inv.Jj(I:Inv X pins O H s)(h:GY X.K H a xs)(j:GY X.K H a ys):xs=ys:=by
 obtain⟨l,r,⟨o,n,e,_,_,d⟩,_⟩:=I.list h;obtain⟨b,i,⟨m,p,f,_,_,g⟩,_⟩:=I.list j;rw[e]at f;cases f;rw[d]at g;injection g with d1 _
 have:l=b:=by simpa using congrArg Array.toList d1
 subst this;exact r.inj i
def Inv.Kg(I:Inv X pins O H s)(h:HD X.K H a xs)(j:HD X.K H a ys):xs=ys:=by
 obtain⟨l,r,⟨o,e,_,n,d⟩,_⟩:=I.tuple h;obtain⟨b,i,⟨m,f,_,p,g⟩,_⟩:=I.tuple j;rw[e]at f;cases f;rw[d]at g;injection g with d1 _
 have:l=b:=by simpa using congrArg Array.toList d1
 subst this;exact r.inj i
end
noncomputable abbrev Cx.Iu(X:Cx)(E:GS):Cx:={ X with xe:=E }
noncomputable abbrev Cx.J6(X:Cx):Cx:=X.Iu λ_ _=>False
theorem Cx.Ok.Iu{X:Cx}(a:X.Ok)(E:GS):(X.Iu E).Ok :=
 ⟨a.mod,a.kind,a.glob,a.blt,a.above,a.inj,a.has,a.OP,a.hd,a.frames,a.Pk,a.Ur,a.bs,a.LS,a.KS,a.LQ,a.HZ,a.M5⟩
def Cx.Ok.Hy{X:Cx}{E:GS}(a:(X.Iu E).Ok):X.Ok :=
 ⟨a.mod,a.kind,a.glob,a.blt,a.above,a.inj,a.has,a.OP,a.hd,a.frames,a.Pk,a.Ur,a.bs,a.LS,a.KS,a.LQ,a.HZ,a.M5⟩
section
variable{X:Cx}{pins:Yy}{O:St}{H:Hp}{s:Shared}{E:GS}
theorem Inv.Iu(I:Inv X pins O H s)(E:GS):Inv (X.Iu E) pins O H s:=⟨I.ok.Iu E,I.os,I.bare,I.base,I.loc,I.cell,I.free,I.Hz,I.pin,I.GL,I.len⟩
theorem Inv.Hy(I:Inv (X.Iu E) pins O H s):Inv X pins O H s:=⟨I.ok.Hy,I.os,I.bare,I.base,I.loc,I.cell,I.free,I.Hz,I.pin,I.GL,I.len⟩
theorem SP.Hy{D:Ends}{f:Flow}{d:Shared}(h:SP (X.Iu E) pins D f d):SP X pins D f d:=by
 cases f with
 |next=>obtain⟨a,b,I,q⟩:=h;exact⟨a,b,I.Hy,q⟩
 |brk=>obtain⟨a,b,I,q⟩:=h;exact⟨a,b,I.Hy,q⟩
 |cont=>obtain⟨a,b,I,q⟩:=h;exact⟨a,b,I.Hy,q⟩
 |ret u=>obtain⟨v,a,b,I,r,q⟩:=h;exact⟨v,a,b,I.Hy,r,q⟩
theorem ID.J6{a:List Stmt}{t:TS}(h:ID X.J6 a t):ID X a t:=λpins s O H D I hw =>
 YJ (h pins s O H D (I.Iu _) hw) (λ_ _ q=>q.Hy) λ_ _ z=>False.elim z
end
section
variable{X:Cx}{st:Stmt}{rest:List Stmt}{t u:TS}{e:Expr}{te:TE}{pos:Pos}
noncomputable def Ej:TS:=λD O H=>D.nx O H
noncomputable def Gg(t u:TS):TS:=λD O H=>t { D with nx:=u D } O H
def Ah:ID X [] Ej:=λ_ _ O H _ I h=>Wq ⟨O,H,I,h⟩
def yo(b:PS X st t)(a:ID X rest u):ID X (st :: rest) (Gg t u):=by
 intro pins s O H D I h;refine wpAny_execs_cons (thn (b pins s O H { D with nx:=u D } I h) λf s1 q=>?_);cases f with
 |next =>
  obtain⟨d,i,g,q⟩:=q;exact a pins s1 d i D g q
 |ret v=>exact q
 |brk=>exact q
 |cont=>exact q
def ax(a:PS X st t):ID X [st] t:=by
 intro pins s O H D I h;refine wpAny_execs_cons (thn (a pins s O H D I h) λf s1 q=>?_);cases f with
 |next=>exact Wq q
 |ret v=>exact q
 |brk=>exact q
 |cont=>exact q
def Inv.quiet{a:Yy}{O:St}{H:Hp}{s:Shared}(I:Inv X a O H s):interactive X.env=false:=by simp[interactive,I.ok.kind]
noncomputable def FD(a:TE):TS:=λD O H=>a O H λ_ b=>D.nx O b
def iE(d:PE X e te)(b:swapsWith e none pos.line X.env=pure false:=by rfl):PS X (.Expr e pos) (FD te):=by
 intro pins s O H D I h;exact wpAny_Expr_any (thn (d pins s O H _ I h) λv s1 ⟨x,g,f,r1,a⟩=>⟨O,g,f,a⟩) I.quiet b
noncomputable def Gi(a:TE):TS:=λD O H=>a O H D.rt
def pb(b:PE X e te):PS X (.Return (some e) pos) (Gi te):=by
 intro pins s O H D I h;exact wpAny_Return_some (thn (b pins s O H _ I h) λv s1 ⟨x,f,d,r1,a⟩=>⟨x,O,f,d,r1,a⟩)
noncomputable def Gw(c:TT)(t u:TS):TS:=λD O H=>c O H λb a=>if b=true then t D O a else u D O a
def BW{c:Expr}{a b:List Stmt}{f:TT}(l:PT X c f)(n:ID X a t)(m:ID X b u):PS X (.If c a b pos) (Gw f t u):=by
 intro pins s O H D I h;refine wpAny_If (thn (l pins s O H _ I h) λd s1 ⟨j,i,g⟩=>?_);cases d with
 |true=>exact n pins s1 O j D i g
 |false=>exact m pins s1 O j D i g
end
noncomputable abbrev TG:=V->St->Hp->(St->Hp->Prop)->Prop
noncomputable abbrev LU:=List V->St->Hp->(St->Hp->Prop)->Prop
noncomputable def PG(X:Cx)(a:Expr)(t:TG):Prop :=
 ∀(pins:Yy)(s:Shared)(O:St)(H:Hp)(v:V)(u:Value)(Q:St->Hp->Prop),Inv X pins O H s->RelV v u->t v O H Q →
  wpAny (model X.prog X.w) X.A (assign a X.env u) (λ_ e=>∃b d,Inv X pins b d e/\Q b d) X.xe s
noncomputable def Ln(X:Cx)(f:List Expr)(t:LU):Prop :=
 ∀(pins:Yy)(s:Shared)(O:St)(H:Hp)(a:List V)(b:Xg)(Q:St->Hp->Prop),Inv X pins O H s->aT a b->t a O H Q →
  wpAny (model X.prog X.w) X.A (assignInOrder ((assignEach f X.env).map (·.2)) b) (λ_ g=>∃d e,Inv X pins d e g/\Q d e) X.xe s
noncomputable abbrev zZ:=V->V->V->Hp->(Hp->Prop)->Prop
noncomputable def Du(X:Cx)(t:zZ):Prop :=
 ∀(pins:Yy)(s:Shared)(O:St)(H:Hp)(o i v:V)(a iv u:Value)(Q:Hp->Prop),Inv X pins O H s->RelV o a->RelV i iv->RelV v u->t o i v H Q →
  wpAny (model X.prog X.w) X.A (setItem a iv u) (λ_ d=>∃b,Inv X pins O b d/\Q b) X.xe s
section
variable{X:Cx}{pos:Pos}
noncomputable def vw(i:Nat):TG:=λv O H Q=>Q (O.set i (some v)) H
def vm{i:Nat}{x:Str}(e:X.N.Nodup)(b:X.N[i]?=some x)(a:Loc X.env.scope x)(d:X.fn x=true\/X.env.scope.names.lookup x=some .local:=by first | exact .inl rfl | exact .inr rfl | assumption):PG X (.Name x pos) (vw i):=by
 intro pins s O H v u Q I r h;exact wpAny_assign_Name (se I e b a r (λg f=>⟨_,H,f,h⟩) d)
noncomputable def Gb:LU:=λa O H Q=>a=[]/\Q O H
noncomputable def EG(t:TG)(u:LU):LU:=λa O H Q=>∃v r,a=v :: r/\t v O H λb d=>u r b d Q
def Ay:Ln X [] Gb:=by
 intro pins s O H a b Q I r h;obtain⟨e,h⟩:=h;subst e;cases r;exact assignInOrder_nil ⟨O,H,I,h⟩
def wW{e:Expr}{a:List Expr}{t:TG}{u:LU}(i:PG X e t)(g:Ln X a u)(f:(assignEach (e :: a) X.env).map (·.2)=assign e X.env :: (assignEach a X.env).map (·.2):=by rfl):Ln X (e :: a) (EG t u):=by
 intro pins s O H n p Q I r h;obtain⟨v,o,e1,h⟩:=h;subst e1;cases r with
 |cons r b =>
  rw[f];refine assignInOrder_cons (thn (i pins s O H _ _ _ I r h) λ_ s1 ⟨j,m,l,d⟩=>?_);exact g pins s1 j m _ _ Q l b d
noncomputable def iY(K:Y2)(n:Nat)(t:LU):TG:=λv O H Q=>∃a b,v=.ref a/\HD K H a b/\b.length=n/\t b O H Q
def Dr{d:List Expr}{k:Nat}{t:LU}{n:Nat}(q:X.calm=true)(h:Ln X d t)(m:(assignEach d X.env).length=n:=by rfl)(x:(assignEach d X.env).findIdx? (·.1)=none:=by rfl):PG X (.Tuple d k pos) (iY X.K n t):=by
 intro pins s O H v u Q I r hw;obtain⟨a,g,e1,l,p,hw⟩:=hw;subst e1;cases r;obtain⟨A,f,j,z⟩:=I.tuple l;refine assign_Tuple_tuple (I.ok.hd q) j (by simp[m,← p,f.length]) x λw i=>?_;have y:Inv X pins O H { s with heap:=w }:=I.kept (t':=s.toks) λb o e=>i b o (Zb (ZW e)) e;exact h pins _ O H g _ Q y (by simpa using f) hw
noncomputable def FB(a b:TE)(t:zZ):TG:=λv O H Q=>a O H λo f=>b O f λi e=>t o i v e λd=>Q O d
def pI{o i:Expr}{b d:TE}{t:zZ}(m:PE X o b)(n:PE X i d)(l:Du X t)(p:∀v,assign (.Subscript o i pos) X.env v=(do
   let a ← holding [v] (eval o X.env)
   let iv ← holding [v,a] (eval i X.env)
   standAt pos
   holding [v,a,iv] (setItem a iv v)
   release [v,a,iv] []):=by intro _;rfl):PG X (.Subscript o i pos) (FB b d t):=by
 intro pins s O H v u Q I r h;rw[p];refine Zn (Y7 (thn (m pins s O H _ I h) λa s1 ⟨x,C,z,r1,j⟩=>?_));refine Zn (Y7 (thn (n pins s1 O C _ z j) λiv e ⟨y,B,w,r2,g⟩=>?_));refine Zn (wpAny_standAt (Zn (Y7 (thn (l pins e O B x y v a iv u _ w r1 r2 r g) λ_ D ⟨A,q,f⟩=>?_))));exact wpAny_release ⟨O,A,q,f⟩
noncomputable def FG(a:TE)(g:TG):TS:=λD O H=>a O H λx b=>g x O b D.nx
def pB{a e:Expr}{b:TE}{g:TG}(j:PE X e b)(i:PG X a g)(f:swapsWithSole [a] e pos.line X.env=pure false:=by rfl)(hw:swappedStores [a] e X.env=pure none:=by rfl)(l:(assignEach [a] X.env).map (·.2)=[assign a X.env]:=by rfl):PS X (.Assign [a] e pos) (FG b g):=by
 intro pins s O H D I h;refine wpAny_Assign_stores (thn (j pins s O H _ I h) λv s1 ⟨x,n,m,r1,d⟩=>?_) f hw;rw[l];exact thn (i pins s1 O n x v _ m r1 d) λ_ o q=>q
def o8{i:Nat}{x:Str}{e:Expr}{b:TE}{a:Pos}(n:X.N.Nodup)(j:X.N[i]?=some x)(f:Loc X.env.scope x)(m:PE X e b)(g:swapsWith e (some (.Name x a)) pos.line X.env=pure false:=by rfl)(l:X.fn x=true\/X.env.scope.names.lookup x=some .local:=by first | exact .inl rfl | exact .inr rfl | assumption) :
  PS X (.Assign [.Name x a] e pos) (FG b (vw i)):=by
 intro pins s O H D I h;refine wpAny_Assign_Name (thn (m pins s O H _ I h) λv s1 ⟨y,q,p,r1,d⟩=>?_) g;exact se p n j f r1 (λr o=>⟨_,q,o,d⟩) l
end
section
variable{X:Cx}{pos:Pos}
noncomputable def Cu(c:TT)(g:TS):TS:=λD O H=>∃W:Nat->St->Hp->Prop,(∃m,W m O H)/\∀m O H,W m O H →
 c O H λb e=>if b=true then ∃N:St->Hp->Prop,(∀d f,N d f->∃a,a<m/\W a d f)/\g { D with nx:=N,ct:=N,bk:=D.nx } O e else D.nx O e
def yN{c:Expr}{a:List Stmt}{r:TT}{t:TS}(u:PassesOwn (model X.prog X.w) X.A X.env X.xe)(M:PT X c r)(P:ID X a t):PS X (.While c a [] pos) (Cu r t):=by
 intro pins s O H D I h;obtain⟨W,⟨L,F⟩,turn⟩:=h;refine wpAny_While (codeAny_whileLoop (λn J=>∃x C,Inv X pins x C J/\W n x C) ?_ L ⟨O,H,I,F⟩);rintro n s1 ⟨j,B,Q,E⟩;refine Xu u (thn (M pins s1 j B _ Q (turn n j B E)) λb G ⟨z,y,i⟩=>?_);cases b with
 |true =>
  obtain⟨N,hN,i⟩:=i;rw[Zq rfl];refine Xu u (thn (P pins G j z _ y i) λf R g=>?_);cases f with
  |next =>
   obtain⟨d,e,q,m⟩:=g;obtain⟨o,p,l⟩:=hN d e m;exact⟨o,p,d,e,q,l⟩
  |cont =>
   obtain⟨d,e,q,m⟩:=g;obtain⟨o,p,l⟩:=hN d e m;exact⟨o,p,d,e,q,l⟩
  |brk=>exact g
  |ret v=>exact g
 |false =>
  rw[Zp ZX];exact Wq ⟨j,z,y,i⟩
end
structure It where
 go:Nat->Hp->Prop
 Pb:Nat->Hp->V->Hp->Prop
 stop:Nat->Hp->Prop
noncomputable def nY(X:Cx)(a:Yy)(H:Hp)(b:Addr):Prop :=
 H b=none/\b≠X.env.locals/\b∉X.fs/\(b∈X.ex\/X.s₀.heap.objs.size<=b)/\(∀x c,X.env.cells.lookup x=some c->c≠b)/\∀p∈X.pn++a,p.1≠b
def Inv.La{X:Cx}{a:Yy}{O:St}{H f:Hp}{s:Shared}{b:Addr}(I:Inv X a O H s)(d:s.heap.objs.size<=b)(h:f b=none):nY X a f b:=by
 refine⟨h,Wj (ZK I.lt d),I.QI d,.inr (ZI I.sz d),λx c e z=>?_,λp g z=>?_⟩
 ·obtain⟨v,q⟩:=I.cell x c e;exact absurd (ZK q.lt (by rw[z];exact d)) (Ya _)
 ·exact absurd (ZK (ZW (I.pin p g).1) (by rw[z];exact d)) (Ya _)
structure Turn(P:Program)(w:World)(K:Y2)(tg:Expr)(Jq:It)(fp:Xi)(it:Addr)(tn:Nat->Heap->Prop):Prop where
 mem:it∈fp
 obj:∀i h,tn i h->∀b∈fp,∃o,h.get? b=some o/\∀v,o.data ≠ .cell v
 keep:∀i h h',tn i h->(∀b∈fp,∀o,h.get? b=some o->h'.get? b=some o)->tn i h'
 item:∀(X:Cx),X.prog=P->X.w=w->X.K=K->X.calm=true->∀(i:Nat)(pins:Yy)(s:Shared)(O:St)(H:Hp)(E:GS),Inv X pins O H s->(∀b∈fp,nY X pins H b)->tn i s.heap->Jq.go i H →
  wpAny (model P w) X.A (pyNext (.ref it)) (λr s1=>∃u,r=some u ∧
   wpAny (model P w) X.A (letOwnedTupleGo tg (.ref it) u) (λ_ s2=>∃x H',Inv X pins O H' s2/\RelV x u/\Jq.Pb i H x H'/\tn (i+1) s2.heap/\∀b∈fp,H' b=none) E s1) E s
 done:∀(X:Cx),X.prog=P->X.w=w->X.K=K->X.calm=true->∀(i:Nat)(pins:Yy)(s:Shared)(O:St)(H:Hp)(E:GS),Inv X pins O H s->(∀b∈fp,nY X pins H b)->tn i s.heap->Jq.stop i H →
  wpAny (model P w) X.A (pyNext (.ref it)) (λr s1=>r=none/\Inv X pins O H s1) E s
 self:∀(A:Around)(i:Nat)(s:Shared)(Q:GS)(E:GS),tn i s.heap->Q (.ref it) s->wpAny (model P w) A (pyIter (.ref it)) Q E s
noncomputable abbrev TI:=St->Hp->(It->Hp->Prop)->Prop
noncomputable def Uw(X:Cx)(a:Yy)(O:St)(h:Expr)(R:It->Hp->Prop)(i:Value)(f:Shared):Prop :=
 ∃(it:Addr)(fp:Xi)(e:Nat->Heap->Prop)(g:It)(d:Hp),i=.ref it/\Inv X a O d f/\Turn X.prog X.w X.K h g fp it e/\e 0 f.heap/\(∀b∈fp,nY X a d b)/\R g d
noncomputable def PI(X:Cx)(d a:Expr)(b:TI):Prop :=
 ∀(pins:Yy)(s:Shared)(O:St)(H:Hp)(R:It->Hp->Prop),Inv X pins O H s->b O H R →
  wpAny (model X.prog X.w) X.A (eval a X.env) (λv s1=>wpAny (model X.prog X.w) X.A (pyIter v) (Uw X pins O d R) X.xe s1) X.xe s
def q9{M:Model}{A:Around}{E:GS}{s:Shared}{d:Expr}{e:Addr}{u:Value}{o:Obj}{n:String}{b:Array Value}{Q:Unit->Shared->Prop}(f:s.heap.get? e=some o)(j:o.cls=.type n)(i:o.data=.fields b)(g:["enumerate", "zip", "dict_itemiterator", "dict_reverseitemiterator", "odict_iterator", "itertools.zip_longest", "itertools.pairwise"].contains n=false)(a:Q () s):wpAny M A (letOwnedTupleGo d (.ref e) u) Q E s:=by
 unfold letOwnedTupleGo;cases d<;>first
  |exact ZZ a
  | (cases u<;>first
    |exact ZZ a
    | (refine Zn (wpAny_load f ?_)
       rw[j,i];show wpAny M A (if (["enumerate", "zip", "dict_itemiterator", "dict_reverseitemiterator", "odict_iterator", "itertools.zip_longest", "itertools.pairwise"].contains n&&b[0]? == some (rawInt _))=true then _ else _) Q E s;rw[Zp (by intro h;rw[g,Bool.false_and]at h;cases h)];exact ZZ a))
noncomputable def SG(K:Y2)(a:Addr):It :=
 ⟨λi H=>∃b x,GY K H a b/\b[i]?=some x,λi H x d=>d=H/\∀b,GY K H a b->b[i]?=some x,λi H=>∃b,GY K H a b/\b.length<=i⟩
noncomputable def SF(K:Y2)(a:Addr):It :=
 ⟨λi H=>∃b x,HD K H a b/\b[i]?=some x,λi H x d=>d=H/\∀b,HD K H a b->b[i]?=some x,λi H=>∃b,HD K H a b/\b.length<=i⟩
noncomputable def OZ(a:Int)(n:Nat):It:=⟨λi _=>i<n,λi H x b=>b=H/\x=.int (a+i),λi _=>n<=i⟩
def wA{P:Program}{w:World}{K:Y2}{G:Expr}(a f:Addr):Turn P w K G (SG K a) [f] f (λi h=>h.IsListIter f a i) where
 mem:=by simp
 obj:=λi h st b hb=>by
  have e:b=f:=by simpa using hb
  subst e;obtain⟨o,e,c,d⟩:=st;exact⟨o,e,λv z=>by rw[d]at z;cases z⟩
 keep:=λi h l st k=>st.at λo e=>k f (by simp) o e
 item:=by
  intro X q hw r C i pins s O H E I j st hg;subst q hw r;obtain⟨F,x,g,n⟩:=hg;obtain⟨U,m,p,M⟩:=I.list g;obtain⟨u,Q,L⟩:=m.get n;obtain⟨B,f1,f2,A,y,t⟩:=j f (by simp);refine wpAny_pyNext_list_item st p.isList (x:=u) (by simpa using Q) λl D J=>?_;have S:Inv X pins O H { s with heap:=l }:=I.turned (t':=s.toks) (λb o hb e=>(J.2 b hb).trans e) B f1 A y t;obtain⟨o,e,c,d⟩:=id D;exact⟨u,rfl,q9 (s:={ s with heap:=l }) e c d (by decide) ⟨x,H,S,L,⟨rfl,λY N=>by rw[I.Jj N g];exact n⟩,D,λb hb=>(j b hb).1⟩⟩
 done:=by
  intro X q hw r C i pins s O H E I j st hg;subst q hw r;obtain⟨F,g,n⟩:=hg;obtain⟨U,m,p,M⟩:=I.list g;obtain⟨B,f1,f2,A,y,t⟩:=j f (by simp);have Z:=m.length;exact wpAny_pyNext_list_end (I.ok.hd C) st p.isList (by simp;lia) λl R=>⟨rfl,I.turned (t':=s.toks) (λb o hb e=>R b o hb e) B f1 A y t⟩
 self:=λ_ _ _ _ _ st h=>wpAny_pyIter_listiter st h
def ug{P:Program}{w:World}{K:Y2}{J:Expr}(a f:Addr):Turn P w K J (SF K a) [f] f (λi h=>h.IsTupleIter f a i) where
 mem:=by simp
 obj:=λi h st b hb=>by
  have e:b=f:=by simpa using hb
  subst e;obtain⟨o,e,c,d⟩:=st;exact⟨o,e,λv z=>by rw[d]at z;cases z⟩
 keep:=λi h l st k=>st.at λo e=>k f (by simp) o e
 item:=by
  intro X q hw r D i pins s O H E I j st hg;subst q hw r;obtain⟨G,x,g,n⟩:=hg;obtain⟨C,m,p,N⟩:=I.tuple g;obtain⟨u,R,M⟩:=m.get n;obtain⟨B,f1,f2,A,y,t⟩:=j f (by simp);refine wpAny_pyNext_tuple_item st (show s.heap.IsTuple a C.toArray from p) (x:=u) (by simpa using R) λl F L=>?_;have U:Inv X pins O H { s with heap:=l }:=I.turned (t':=s.toks) (λb o hb e=>(L.2 b hb).trans e) B f1 A y t;obtain⟨o,e,c,d⟩:=id F;exact⟨u,rfl,q9 (s:={ s with heap:=l }) e c d (by decide) ⟨x,H,U,M,⟨rfl,λY Q=>by rw[I.Kg Q g];exact n⟩,F,λb hb=>(j b hb).1⟩⟩
 done:=by
  intro X q hw r D i pins s O H E I j st hg;subst q hw r;obtain⟨G,g,n⟩:=hg;obtain⟨C,m,p,N⟩:=I.tuple g;obtain⟨B,f1,f2,A,y,t⟩:=j f (by simp);have Z:=m.length;exact wpAny_pyNext_tuple_end (I.ok.hd D) st (show s.heap.IsTuple a C.toArray from p) (by simp;lia) λl S=>⟨rfl,I.turned (t':=s.toks) (λb o hb e=>S b o hb e) B f1 A y t⟩
 self:=λ_ _ _ _ _ st h=>wpAny_pyIter_tupleiter st h
def sO{P:Program}{w:World}{K:Y2}{B:Expr}(a:Addr)(d:Int)(n:Nat):Turn P w K B (OZ d n) [a] a (λi h=>IsRangeIter h a (d+(i:Nat)*1) ((n:Int)-(i:Nat)) 1) where
 mem:=by simp
 obj:=λi h st b hb=>by
  have e:b=a:=by simpa using hb
  subst e;exact⟨_,st,λv z=>by
   have A:Data.fields _=Data.cell v:=z;cases A⟩
 keep:=λi h g st k=>k a (by simp) _ st
 item:=by
  intro X l hw m j i pins s O H E I f st hg;subst l hw m;obtain⟨u,f1,f2,r,q,p⟩:=f a (by simp);have W:=Walks.range (prog:=X.prog) (w:=X.w) (I.ok.hd j) a d 1 n;refine W.item i s _ _ hg st λv g x D y C=>?_;obtain⟨t,rfl⟩:=D;have G:Inv X pins O H { s with heap:=g,toks:=x }:=I.turned (λb o hb e=>C b o (by simpa using hb) e) u f1 r q p;refine⟨_,rfl,q9 (s:={ s with heap:=g,toks:=x }) (n := "range_iterator") y rfl rfl (by decide) ⟨.int (d+i),H,G,⟨t,?_⟩,⟨rfl,rfl⟩,y,λb hb=>(f b hb).1⟩⟩;rw[Int.mul_one]
 done:=by
  intro X l hw m j i pins s O H E I f st hg;subst l hw m;obtain⟨u,f1,f2,r,q,p⟩:=f a (by simp);exact wpAny_pyNext_range_end (I.ok.hd j) st (by have:n<=i:=hg;lia) λg F=>⟨rfl,I.turned (t':=s.toks) (λb o hb e=>F b o hb e) u f1 r q p⟩
 self:=λ_ _ _ _ _ st h=>wpAny_pyIter_rangeiter st h
section
variable{X:Cx}{tg:Expr}
def qw{f:Yy}{O:St}{H:Hp}{s:Shared}{R:It->Hp->Prop}{E:GS}{a d:Int}{t u v:Tok}{g:Nat}(I:Inv X f O H s)(m:-(2 ^ 62)<=a)(l:a<2 ^ 62)(j:-(2 ^ 62)<=d)(i:d<2 ^ 62)(q:R (OZ a (d-a).toNat) H):wpAny (model X.prog X.w) X.A (pyIter (.ref s.heap.objs.size)) (Uw X f O tg R) E { s with heap:=s.heap.push { cls:=.type "range",data:=.fields #[.int a t,.int d u,.int 1 v] },toks:=g }:=by
 refine wpAny_pyIter_range (IsRange.new ..) (small_one m l j i) ?_;have h:Inv X f O H { s with heap:=s.heap.push { cls:=.type "range",data:=.fields #[.int a t,.int d u,.int 1 v] },toks:=g }:=I.kept λb o e=>Zi _ e;refine⟨(s.heap.push { cls:=.type "range",data:=.fields #[.int a t,.int d u,.int 1 v] }).objs.size,[(s.heap.push { cls:=.type "range",data:=.fields #[.int a t,.int d u,.int 1 v] }).objs.size],_,_,H,rfl,
  h.kept (t':=g) λb o e=>Zi _ e,sO _ a (d-a).toNat,?_,λb hb=>?_,q⟩
 ·have e1:a+((0:Nat):Int)*1=a:=by simp
  have e2:(((d-a).toNat:Nat):Int)-((0:Nat):Int)=Builtin.Range.rangeSize a d 1:=by rw[rangeSize_one];split<;>lia
  show IsRangeIter _ _ (a+((0:Nat):Int)*1) ((((d-a).toNat:Nat):Int)-((0:Nat):Int)) 1;rw[e1,e2];exact ZQ _ rfl
 ·have e:b=(s.heap.push { cls:=.type "range",data:=.fields #[.int a t,.int d u,.int 1 v] }).objs.size:=by simpa using hb
  subst e;exact h.La (Zh _) (h.GL.fresh (Zh _))
noncomputable def B4(ta:TA):TI:=λO H R=>ta O H λa b=>∃j:Int,a=[.int j]/\-(2 ^ 62)<=j/\j<2 ^ 62/\R (OZ 0 j.toNat) b
noncomputable def FL(ta:TA):TI:=λO H R=>ta O H λa b=>∃i j:Int,a=[.int i,.int j]/\(-(2 ^ 62)<=i/\i<2 ^ 62/\-(2 ^ 62)<=j/\j<2 ^ 62)/\R (OZ i (j-i).toNat) b
def oV{a:Expr}{f:TA}{p b:Pos}(n:Gl X "range")(m:X.mg "range" = none)(o:PA X [a] f)(l:starEach [a] X.env=[(false,eval a X.env)]:=by rfl):PI X tg (.Call (.Name "range" p) [a] [] b) (B4 f):=by
 intro pins s O H R I h;refine Call_ (k8 I n m boot_range (Xv (thn (o b pins s O H _ I h) λw s1 ⟨v,x,u,r1,d⟩=>?_) l rfl));obtain⟨j,e,d,i,q⟩:=d;subst e;cases r1 with
 |cons r g =>
  cases g;obtain⟨t,rfl⟩:=r;exact call_range_1 (qw u (by lia) (by lia) d i (by simpa using q))
def we{a b:Expr}{l:TA}{p d:Pos}(y:Gl X "range")(x:X.mg "range" = none)(z:PA X [a,b] l)(w:starEach [a,b] X.env=[(false,eval a X.env),(false,eval b X.env)]:=by rfl)(m:starEach [b] X.env=[(false,eval b X.env)]:=by rfl) :
  PI X tg (.Call (.Name "range" p) [a,b] [] d) (FL l):=by
 intro pins s O H R I h;refine Call_ (k8 I y x boot_range (Xv (thn (z d pins s O H _ I h) λC s1 ⟨B,E,A,r1,g⟩=>?_) (by rw[w,m]) (by rw[m];rfl)));obtain⟨i,j,e,⟨g,v,u,o⟩,q⟩:=g;subst e;cases r1 with
 |cons r f =>
  cases f with
  |cons n f =>
   cases f;obtain⟨t,rfl⟩:=r;obtain⟨D,rfl⟩:=n;exact call_range_2 (qw A g v u o q)
noncomputable def FQ(f:TI)(g:TG)(h:TS):TS:=λD O H=>f O H λb n=>∃W:Nat->Nat->St->Hp->Prop,(∃m,W 0 m O n)/\∀i m O H,W i m O H →
 (b.stop i H/\D.nx O H)\/(b.go i H/\∃N:St->Hp->Prop,(∀e a,N e a->∃d,d<m/\W (i+1) d e a)/\∀x a,b.Pb i H x a->g x O a λj l=>h { D with nx:=N,ct:=N,bk:=D.nx } j l)
noncomputable def nN(a:Xi)(h:Heap):Yy:=a.filterMap λb=>(h.get? b).map λo=>(b,o)
def iC{a:Xi}{h:Heap}{b:Addr}{o:Obj}(d:b∈a)(e:h.get? b=some o):(b,o)∈nN a h:=List.mem_filterMap.mpr ⟨b,d,by rw[e];rfl⟩
def wD{a:Xi}{h:Heap}{p:Addr×Obj}(d:p∈nN a h):p.1∈a/\h.get? p.1=some p.2:=by
 obtain⟨b,hb,e⟩:=List.mem_filterMap.mp d;cases q:h.get? b with
 |none=>rw[q]at e;cases e
 |some o =>
  rw[q]at e;have f:(b,o)=p:=Zm e;subst f;exact⟨hb,q⟩
def Inv.pinned{a:Yy}{O:St}{H:Hp}{s:Shared}{f:Xi}(I:Inv X a O H s)(j:∀b∈f,nY X a H b)(i:∀b∈f,∃o,s.heap.get? b=some o/\∀v,o.data ≠ .cell v):Inv X (a++nN f s.heap) O H s :=
 I.JY λp h=>(Ze.mp h).elim (λz=>I.pin p (ZU _ z)) λz=>by
  obtain⟨hb,e⟩:=wD z;obtain⟨l,f1,f2,_⟩:=j p.1 hb;obtain⟨o,g,d⟩:=i p.1 hb;rw[e]at g;cases g;exact⟨e,l,f1,f2,d⟩
def Inv.HJ{a b:Yy}{O:St}{H:Hp}{s:Shared}(I:Inv X (a++b) O H s):Inv X a O H s:=I.JY λp d=>I.pin p (ZU _ (Kc _ d))
def Dm{a:Expr}{z:List Stmt}{R:TI}{g:TG}{U:TS}{L:Pos}(C:PassesOwn (model X.prog X.w) X.A X.env X.xe)(hc:X.calm=true)(hi:PI X tg a R)(hg:PG X tg g)(j:ID X z U)(hs:∀x,foldedSetIterable a X.env x=pure x:=by intro _;rfl):PS X (.For tg a z [] L) (FQ R g U):=by
 intro pins s O H D I h;refine wpAny_For (thn (hi pins s O H _ I h) λv s1 h1=>thn h1 λQY s2 h2=>?_) hs;obtain⟨it,fp,S,Jq,H2,e,I2,T,Pm,f2,W,⟨m0,w0⟩,turn⟩:=h2;subst e;have Q:∀{t:Hp},(∀b∈fp,t b=none)->∀b∈fp,nY X pins t b:=λhn b j=>⟨hn b j,(f2 b j).2⟩
 refine codeAny_forLoop_any (λn s'=>∃i F t,Inv X pins F t s'/\S i s'.heap/\(∀b∈fp,t b=none)/\W i n F t) ?_ m0 ⟨0,O,H2,I2,Pm,λb j=>(f2 b j).1,w0⟩;rintro n Z ⟨i,E,G,I3,L3,OC,w3⟩;rcases turn i n E G w3 with⟨stop,qn⟩ | ⟨go,N,hN,step⟩
 ·refine Xu C (thn (T.done X rfl rfl rfl hc i pins Z E G X.xe I3 (Q OC) L3 stop) λr s4 ⟨M,I4⟩=>?_);subst M;exact Wq ⟨E,G,I4,qn⟩
 ·refine Xu C (thn (T.item X rfl rfl rfl hc i pins Z E G X.xe I3 (Q OC) L3 go) λr s4 ⟨u,M,h4⟩=>?_);subst M;refine Xu C (thn h4 λ_ Y ⟨x,H5,I5,r5,y5,P,R5⟩=>?_);have SI:=I5.pinned (Q R5) (T.obj _ _ P);refine Xu C (thn (hg _ Y E H5 x u _ SI r5 (step x H5 y5)) λ_ s6 ⟨O6,H6,I6,q6⟩=>?_);refine Xu C (thn (j _ s6 O6 H6 _ I6 q6) λf J y=>?_);have again:∀{l:St}{q:Hp},Inv X (pins++nN fp Y.heap) l q J->N l q->∃m,m<n/\∃i F t,Inv X pins F t J/\S i J.heap/\(∀b∈fp,t b=none)/\W i m F t:=λ{l q} p B=>by
   obtain⟨m',hm,w7⟩:=hN l q B;refine⟨m',hm,i+1,l,q,p.HJ,T.keep _ _ _ P λb j o e=>(p.pin (b,o) (ZU _ (ZU _ (iC j e)))).1,λb j=>?_,w7⟩;obtain⟨o,e,d⟩:=T.obj _ _ P b j;exact(p.pin (b,o) (ZU _ (ZU _ (iC j e)))).2.1
  cases f with
  |next=>obtain⟨l,q,p,B⟩:=y;exact again p B
  |cont=>obtain⟨l,q,p,B⟩:=y;exact again p B
  |brk=>obtain⟨l,q,p,y⟩:=y;exact⟨l,q,p.HJ,y⟩
  |ret v=>obtain⟨x7,l,q,p,r7,y⟩:=y;exact⟨x7,l,q,p.HJ,r7,y⟩
end
noncomputable abbrev R2:=V->V->Hp->VK->Prop
noncomputable def OpR(X:Cx)(f:Value->Value->Sem Value)(r:R2):Prop :=
 ∀(pins:Yy)(s:Shared)(O:St)(H:Hp)(x y:V)(v u:Value)(Q:VK),Inv X pins O H s->RelV x v->RelV y u->r x y H Q →
  wpAny (model X.prog X.w) X.A (f v u) (EP X pins O Q) X.xe s
noncomputable def UnR(X:Cx)(f:Value->Sem Value)(r:V->Hp->VK->Prop):Prop :=
 ∀(pins:Yy)(s:Shared)(O:St)(H:Hp)(x:V)(v:Value)(Q:VK),Inv X pins O H s->RelV x v->r x H Q →
  wpAny (model X.prog X.w) X.A (f v) (EP X pins O Q) X.xe s
noncomputable def dI(X:Cx)(f:Value)(r:List V->Hp->VK->Prop):Prop :=
 ∀(pins:Yy)(s:Shared)(O:St)(H:Hp)(a:List V)(b:Xg)(Q:VK),Inv X pins O H s->aT a b->r a H Q →
  wpAny (model X.prog X.w) X.A (call f b) (EP X pins O Q) X.xe s
noncomputable def Gf(X:Cx)(r:V->Hp->(Bool->Hp->Prop)->Prop):Prop :=
 ∀(pins:Yy)(s:Shared)(O:St)(H:Hp)(x:V)(v:Value)(Q:Bool->Hp->Prop),Inv X pins O H s->RelV x v->r x H Q →
  wpAny (model X.prog X.w) X.A (truthy v) (TP X pins O Q) X.xe s
noncomputable def NN(r:R2)(ta a:TE):TE:=λO H Q=>ta O H λx d=>a O d λy b=>r x y b Q
noncomputable def UQ(r:V->Hp->VK->Prop)(ta:TE):TE:=λO H Q=>ta O H λx a=>r x a Q
noncomputable def rI(C:Int->Int->Prop)(g:Int->Int->V):R2:=λx y H Q=>∃i j,x=.int i/\y=.int j/\C i j/\Q (g i j) H
noncomputable def Kp(g:Int->Int->V):R2:=λx y H Q=>∃i j,x=.int i/\y=.int j/\Q (g i j) H
noncomputable def rU(g:Int->V):V->Hp->VK->Prop:=λx H Q=>∃i,x=.int i/\Q (g i) H
section
variable{X:Cx}{a b c:Expr}{ta tb tc:TE}{pos:Pos}
def Fh(q:PE X a ta)(p:PE X b tb){d:Yy}{s:Shared}{O:St}{H:Hp}{R:V->V->Hp->Prop}(I:Inv X d O H s)(h:ta O H λx i=>tb O i λy e=>R x y e){Q:GS}{f:Value->Value->Sem Value}(o:∀v u g x y e,Inv X d O e g->RelV x v->RelV y u->R x y e->wpAny (model X.prog X.w) X.A (f v u) Q X.xe g) :
  wpAny (model X.prog X.w) X.A (eval a X.env) (λv l=>wpAny (model X.prog X.w) X.A (eval b X.env) (λu j=>wpAny (model X.prog X.w) X.A (f v u) Q X.xe j) X.xe l) X.xe s:=by
 refine thn (q d s O H _ I h) λv s1 ⟨x,i,t,r1,n⟩=>?_;refine thn (p d s1 O i _ t n) λu g ⟨y,e,r,r2,m⟩=>?_;exact o v u g x y e r r1 r2 m
def BX{d:Operator}{r:R2}(i:OpR X (binaryOp d) r)(l:PE X a ta)(j:PE X b tb):PE X (.BinOp a d b pos) (NN r ta tb):=by
 intro pins s O H Q I h;exact wpAny_BinOp (Fh l j I h λv u e x y n m g f q=>i pins e O n x y v u Q m g f q)
def E1{d:UnaryOp}{r:V->Hp->VK->Prop}(f:UnR X (unaryOp d) r)(g:PE X a ta):PE X (.UnaryOp d a pos) (UQ r ta):=by
 intro pins s O H Q I h;exact UnaryOp_ (thn (g pins s O H _ I h) λv s1 ⟨x,j,i,r1,e⟩=>f pins s1 O j x v Q i r1 e)
def QB{f:Value->Value->Sem Value}{C:Int->Int->Prop}{g:Int->Int->Int}(d:∀(i j:Int)(t u:Tok)(s:Shared)(Q:GS)(E:GS),C i j->Q (.int (g i j) s.toks) { s with toks:=s.toks+1 }->wpAny (model X.prog X.w) X.A (f (.int i t) (.int j u)) Q E s) :
  OpR X f (rI C λi j=>.int (g i j)):=by
 intro pins s O H x y v u Q I m l h;obtain⟨i,j,rfl,rfl,n,q⟩:=h;obtain⟨t,rfl⟩:=m;obtain⟨e,rfl⟩:=l;exact d i j t e s _ _ n ⟨.int (g i j),H,I.tok _,⟨_,rfl⟩,q⟩
def EF{f:Value->Value->Sem Value}{g:Int->Int->Int}(d:∀(i j:Int)(t u:Tok)(s:Shared)(Q:GS)(E:GS),Q (.int (g i j) s.toks) { s with toks:=s.toks+1 }->wpAny (model X.prog X.w) X.A (f (.int i t) (.int j u)) Q E s) :
  OpR X f (Kp λi j=>.int (g i j)):=by
 intro pins s O H x y v u Q I m l h;obtain⟨i,j,rfl,rfl,q⟩:=h;obtain⟨t,rfl⟩:=m;obtain⟨e,rfl⟩:=l;exact d i j t e s _ _ ⟨.int (g i j),H,I.tok _,⟨_,rfl⟩,q⟩
def C0{f:Value->Value->Sem Value}{g:Int->Int->Bool}(d:∀(i j:Int)(t u:Tok)(s:Shared)(Q:GS)(E:GS),Q (.bool (g i j)) s->wpAny (model X.prog X.w) X.A (f (.int i t) (.int j u)) Q E s) :
  OpR X f (Kp λi j=>.bl (g i j)):=by
 intro pins s O H x y v u Q I m l h;obtain⟨i,j,rfl,rfl,q⟩:=h;obtain⟨t,rfl⟩:=m;obtain⟨e,rfl⟩:=l;exact d i j t e s _ _ ⟨.bl (g i j),H,I,rfl,q⟩
noncomputable def Eg(i j:Int):Prop:=0<j/\j<1073741824
noncomputable def Bf(i j:Int):Prop:=(-(2 ^ 64)<i/\i<2 ^ 64)\/(-(2 ^ 64)<j/\j<2 ^ 64)
def Bf.ok{i j:Int}(h:Bf i j):IntMulOk i j:=by
 rcases h with⟨e,d⟩ | ⟨e,d⟩
 ·exact .of_left (intBits_le_64 e d)
 ·exact .of_right (intBits_le_64 e d)
def CC:OpR X (binaryOp .Add) (Kp λi j=>.int (i+j)):=EF λ_ _ _ _ _ _ _ q=>add_int q
def zO:OpR X (binaryOp .Sub) (Kp λi j=>.int (i-j)):=EF λ_ _ _ _ _ _ _ q=>sub_int q
def DC:OpR X (binaryOp .Mult) (rI Bf λi j=>.int (i*j)):=QB λ_ _ _ _ _ _ _ d q=>mul_int q d.ok
def mf:OpR X (binaryOp .FloorDiv) (rI Eg λi j=>.int (i/j)):=QB λi j _ _ _ _ _ d q=>by
 have f:(0:Int)<j:=d.1;have e:j<1073741824:=d.2;exact floordiv_int (by lia) (by rw[Int.fdiv_eq_ediv_of_nonneg i (by lia)];exact q) (.inl (PyProof.noPylong_small (by omega)))
def DB:OpR X (binaryOp .Mod) (rI (λ_ j=>0<j) λi j=>.int (i%j)):=QB λi j _ _ _ _ _ d q=>by
 have e:(0:Int)<j:=d;exact mod_int' (by lia) (by rw[Int.fmod_eq_emod_of_nonneg i (by lia)];exact q)
def UN{f:Value->Sem Value}{g:Int->Int}(d:∀(i:Int)(t:Tok)(s:Shared)(Q:GS)(E:GS),Q (.int (g i) s.toks) { s with toks:=s.toks+1 }->wpAny (model X.prog X.w) X.A (f (.int i t)) Q E s) :
  UnR X f (rU λi=>.int (g i)):=by
 intro pins s O H x v Q I e h;obtain⟨i,rfl,q⟩:=h;obtain⟨t,rfl⟩:=e;exact d i t s _ _ ⟨.int (g i),H,I.tok _,⟨_,rfl⟩,q⟩
def CL:UnR X (unaryOp .USub) (rU λi=>.int (-i)):=UN λ_ _ _ _ _ q=>neg_int q
end
section
variable{X:Cx}{a b c:Expr}{ta tb tc:TE}{pos:Pos}
def DL{d:Yy}{O:St}{H:Hp}{s:Shared}{Q:VK}{k f:Bool}(I:Inv X d O H s)(q:Q (.bl k) H)(e:k=f):EP X d O Q (.bool f) s:=by
 subst e;exact⟨.bl k,H,I,rfl,q⟩
def Ee:OpR X (compareOp .Lt) (Kp λi j=>.bl (decide (i<j))):=C0 λ_ _ _ _ _ _ _ q=>lt_int q
def EZ:OpR X (compareOp .LtE) (Kp λi j=>.bl (decide (i<=j))):=C0 λ_ _ _ _ _ _ _ q=>le_int q
def Fc:OpR X (compareOp .Gt) (Kp λi j=>.bl (decide (j<i))):=C0 λ_ _ _ _ _ _ _ q=>gt_int q
def wB:OpR X (compareOp .Lt) (λx y H Q=>∃i j,x=.str i/\y=.str j/\Q (.bl (decide (i.cps.toList<j.cps.toList))) H):=by
 intro pins s O H x y v u Q I e d h;obtain⟨i,j,rfl,rfl,q⟩:=h;obtain⟨t,rfl⟩:=e;obtain⟨f,rfl⟩:=d;exact lt_str (DL I q rfl)
def OpR.or{f:Value->Value->Sem Value}{r g:R2}(h:OpR X f r)(i:OpR X f g):OpR X f (λx y H Q=>r x y H Q\/g x y H Q):=by
 intro pins s O H x y v u Q I e d q;rcases q with q | q
 ·exact h pins s O H x y v u Q I e d q
 ·exact i pins s O H x y v u Q I e d q
def jD(b:Expr){d:CmpOp}(h:d ≠ .In:=by decide)(e:d ≠ .NotIn:=by decide):behindInMarks d b=false:=by
 have e1:(d==CmpOp.In)=false:=by cases d<;>first | rfl | exact absurd rfl h
 have e2:(d==CmpOp.NotIn)=false:=by cases d<;>first | rfl | exact absurd rfl e
 cases b<;>simp[behindInMarks,e1,e2]
noncomputable def zz(t:TE):TT:=λO H Q=>t O H λx d=>∃k,x=.bl k/\Q k d
def vq{d:CmpOp}{r:R2}(m:OpR X (compareOp d) r)(p:PE X a ta)(o:PE X b tb)(n:behindInMarks d b=false):PT X (.Compare a [d] [b] pos) (zz (NN r ta tb)):=by
 intro pins s O H Q I h;refine wpAny_isTrue_Compare1 (thn (p pins s O H _ I h) λv s1 ⟨x,C,w,r1,l⟩=>thn (o pins s1 O C _ w l) λu f ⟨y,B,t,r2,j⟩ =>
  thn (m pins f O B x y v u _ t r1 r2 j) λc D ⟨z,A,q,g,k,e,i⟩=>?_) n
 subst e;cases g;exact YK ⟨A,q,i⟩
noncomputable def zo(r h:R2)(ta g f:TE):TE:=λO H Q=>ta O H λx l=>g O l λy j=>r x y j λz d=>∃k,z=.bl k ∧
 (if k=true then f O d λe i=>h y e i Q else Q (.bl false) d)
def rL{f g:CmpOp}{r i:R2}(J:OpR X (compareOp f) r)(S:OpR X (compareOp g) i)(P:PE X a ta)(N:PE X b tb)(M:PE X c tc)(L:lastMarks [f,g] [b,c]=false:=by with_unfolding_all rfl):PT X (.Compare a [f,g] [b,c] pos) (zz (zo r i ta tb tc)):=by
 intro pins s O H Q I h;refine isTrue_chain (thn (P pins s O H _ I h) λv s1 ⟨x,H1,I1,r1,F⟩=>test_link (thn (N pins s1 O H1 _ I1 F) λu t ⟨y,H2,Z,r2,E⟩ =>
  thn (J pins t O H2 x y v u _ Z r1 r2 E) λd q ⟨z,m,l,B,k,e,j⟩=>?_)) L
 subst e;cases B;refine YK ?_;cases k with
 |false =>
  obtain⟨k',R,G⟩:=j;cases R;exact ite_ff ⟨m,l,G⟩
 |true =>
  refine ite_tt (test_last (thn (M pins q O m _ l j) λo p ⟨n,H4,Y,A,D⟩=>thn (S pins p O H4 y n u o _ Y r2 A D) λd' s5 ⟨z2,H5,U,w,k2,e2,C⟩=>?_));subst e2;cases w;exact YK ⟨H5,U,C⟩
noncomputable def DG(K:Y2)(x:V)(H:Hp)(k:Bool):Prop :=
 match x with
 |.non=>k=false
 |.bl b=>k=b
 |.int i=>k=(i != 0)
 |.str y=>y.length<=sizeLine/\k=((y.length:Int) != 0)
 |.byt y=>y.size<=sizeLine/\k=((y.size:Int) != 0)
 |.ref p=>(∃d,GY K H p d/\k=!d.isEmpty)\/(∃d,HD K H p d/\k=!d.isEmpty)\/∃e,H p=some (.dK e)/\k=!e.isEmpty
 |_=>False
def tR{κ:Type}{e:List (κ×V)}{d:List (κ×Value)}(r:KV e d):(!d.isEmpty)=!e.isEmpty:=by
 cases r<;>rfl
def nI{d:List V}{e:Xg}(r:aT d e):(!e.toArray.isEmpty)=!d.isEmpty:=by
 cases r<;>simp
def ly:(sizeLine:Nat)<2 ^ 63:=by rw[XR];decide
def CS:Gf X (λx H Q=>∃k,DG X.K x H k/\Q k H):=by
 intro pins s O H x v Q I g h;obtain⟨k,e,q⟩:=h;have C:=ly;have B:sizeLine=16777216:=XR;cases x with
 |non =>
  cases g;have d:k=false:=e;subst d;exact truthy_none ⟨H,I,q⟩
 |bl b =>
  cases g;have d:k=b:=e;subst d;exact YK ⟨H,I,q⟩
 |int i =>
  obtain⟨t,rfl⟩:=g;have d:k=(i != 0):=e;subst d;exact PySem.P.truthy_int ⟨H,I,q⟩
 |str y =>
  obtain⟨t,rfl⟩:=g;obtain⟨z,d⟩:y.length<=sizeLine/\k=((y.length:Int) != 0):=e;subst d;exact PySem.P.truthy_str (by lia) ⟨H,I.tok _,q⟩
 |byt y =>
  obtain⟨t,rfl⟩:=g;obtain⟨z,d⟩:y.size<=sizeLine/\k=((y.size:Int) != 0):=e;subst d;exact PySem.W.truthy_bytes (by lia) ⟨H,I.tok _,q⟩
 |ref p =>
  cases g;have d:(∃f,GY X.K H p f/\k=!f.isEmpty)\/(∃f,HD X.K H p f/\k=!f.isEmpty)\/∃j,H p=some (.dK j)/\k=!j.isEmpty:=e;rcases d with⟨f,l,d⟩ | ⟨f,l,d⟩ | ⟨j,l,d⟩
  ·subst d;obtain⟨A,r,o,u⟩:=I.list l;have hlen:=r.length;exact wpAny_truthy_list o.isList (by simp only[ZS];lia) ⟨H,I.tok _,by rw[nI r];exact q⟩
  ·subst d;obtain⟨A,r,o,u⟩:=I.tuple l;have hlen:=r.length;exact truthy_tuple o (by simp only[ZS];lia) ⟨H,I.tok _,by rw[nI r];exact q⟩
  ·subst d;obtain⟨u,hS,n,r,m⟩:j.length<=sizeLine/\(p==sysModules)=false/\∃n,KV j n/\s.heap.DictOf (aS X.prog X.w) p n:=I.GL p _ l;have hlen:j.length=n.length:=Xq r;exact wpAny_truthy_dict hS m (by lia) ⟨H,I.tok _,by rw[tR r];exact q⟩
 |_=>exact(show False from e).elim
def xu(g:PE X a ta)(f:∀whole,isTrue a X.env whole=(do let v ← whole;standAt a.pos;holding [v] (truthy v))) :
  PT X a (λO H Q=>ta O H λx d=>∃k,DG X.K x d k/\Q k d):=by
 intro pins s O H Q I h;exact isTrue_plain (thn (g pins s O H _ I h) λv s1 ⟨x,j,i,r1,e⟩=>CS pins s1 O j x v Q i r1 e) (f _)
def tq:OpR X (binaryOp .Add) (λx y H Q=>∃i j,x=.str i/\y=.str j/\i.length+j.length<=sizeLine/\Q (.str (i++j)) H):=by
 intro pins s O H x y v u Q I f e h;obtain⟨i,j,rfl,rfl,g,q⟩:=h;obtain⟨t,rfl⟩:=f;obtain⟨d,rfl⟩:=e;exact add_str (λd l=>⟨.str (i++j),H,I.tok _,⟨_,rfl⟩,q⟩) g
def vals1{x:V}{d:Xg}(r:aT [x] d):∃u,d=[u]/\RelV x u:=by
 cases r with
 |cons r1 r2=>cases r2;exact⟨_,rfl,r1⟩
def vals2{x y:V}{e:Xg}(r:aT [x,y] e):∃u d,e=[u,d]/\RelV x u/\RelV y d:=by
 cases r with
 |cons r1 r2 =>
  cases r2 with
  |cons g f=>cases f;exact⟨_,_,rfl,r1,g⟩
noncomputable def Ec(K:Y2)(x:V)(H:Hp)(n:Nat):Prop :=
 match x with
 |.str y=>y.length<=sizeLine/\n=y.length
 |.byt y=>y.size<=sizeLine/\n=y.size
 |.ref p=>(∃d,GY K H p d/\n=d.length)\/∃d,HD K H p d/\n=d.length
 |_=>False
def xq:dI X (.builtin "len") (λd H Q=>∃x n,d=[x]/\Ec X.K x H n/\Q (.int n) H):=by
 intro pins s O H d w Q I r h;obtain⟨x,n,rfl,e,q⟩:=h;obtain⟨u,rfl,g⟩:=vals1 r;have A:=ly;have z:sizeLine=16777216:=XR;cases x with
 |str y =>
  obtain⟨t,rfl⟩:=g;obtain⟨o,f⟩:y.length<=sizeLine/\n=y.length:=e;subst f;exact len_str (by lia) ⟨.int _,H,I.tok _,⟨_,rfl⟩,q⟩
 |byt y =>
  obtain⟨t,rfl⟩:=g;obtain⟨o,f⟩:y.size<=sizeLine/\n=y.size:=e;subst f;exact PySem.W.len_bytes (by lia) ⟨.int _,H,I.tok _,⟨_,rfl⟩,q⟩
 |ref p =>
  cases g;have f:(∃d,GY X.K H p d/\n=d.length)\/∃d,HD X.K H p d/\n=d.length:=e;rcases f with⟨d,l,f⟩ | ⟨d,l,f⟩
  ·subst f;obtain⟨v,i,j,m⟩:=I.list l;have hlen:=i.length;exact Calls.call_len_list j.isList (by simp only[ZS];lia) ⟨.int d.length,H,I.tok _,⟨_,by simp only[ZS];rw[hlen]⟩,q⟩
  ·subst f;obtain⟨v,i,j,m⟩:=I.tuple l;have hlen:=i.length;exact len_tuple j (by simp only[ZS];lia) ⟨.int d.length,H,I.tok _,⟨_,by simp only[ZS];rw[hlen]⟩,q⟩
 |_=>exact(show False from e).elim
end
structure JU(h:Heap)(x dx C:Addr)(mA:Xk):Prop where
 obj:h.get? x=some (PySem.W.instObj C dx)
 ns:h.Ns1 dx mA
 ne:dx≠x
def wt{h:Heap}{g:Addr}{d:Xk}(n:h.Ns1 g d):∃b,h.get? g=some b/\∀name,PySem.W.lookIn name b=some (d name):=by
 obtain⟨o,f,s,j,hd,m,_,l⟩:=n;refine⟨o,j,λname=>?_⟩;have e:=l name;unfold nsFind findBy at e;rw[← Array.find?_toList]at e;unfold PySem.W.lookIn;rw[hd];dsimp only;split
 ·rename_i y q;rw[q]at e;exact congrArg some e
 ·rename_i q;rw[q]at e;have a:f.toList.any (·.refKey)=false:=by
   rw[List.any_eq_false];intro y i;obtain⟨z,t,r⟩:=m y (Array.mem_toList_iff.mp i);simp[DictEntry.refKey,r]
  have p:¬f.toList.any (·.refKey)=true:=by rw[a];exact ZX
  rw[Zp p];exact congrArg some e
def JU.look{h:Heap}{x d C:Addr}{b:Xk}(I:JU h x d C b):∃a,PySem.W.InstAt h x (PySem.W.instObj C d) C (some a)/\∀name,PySem.W.lookIn name a=some (b name) :=
 let ⟨a,e,f⟩:=wt I.ns
 ⟨a,⟨I.obj,rfl,rfl,e⟩,f⟩
section
variable{prog:Program}{w:World}{A:Around}{E:GS}{s:Shared}{K:Y2}{x dx C f:Addr}{mA:Xk}{name:Str}{v:Value}
def get_map{a:Bool}{Q:GS}(X:K.In s.heap)(I:JU s.heap x dx C mA)(g:PySem.W.plainGet K C name=true)(e:PySem.W.hasDictIn K C=true)(i:PySem.W.findIn K (.ref C) name=some none)(b:mA name=some v)(j:PySem.W.handedIn v=true)(h:Q v { s with toks:=s.toks+1 }) :
  wpAny (model prog w) A (getAttr (.ref x) name a) Q E s:=by
 obtain⟨m,l,d⟩:=I.look;exact PySem.W.get_value X l (Wt g).1 (PySem.W.findObj_own e i rfl (by rw[d,b])) j h
def yU{b:Sem Bool}{Q:Value×Xg->Shared->Prop}(X:K.In s.heap)(I:JU s.heap x dx C mA)(a:PySem.W.plainGet K C name=true)(j:PySem.W.findIn K (.ref C) name=some (some (.ref f)))(g:PySem.W.isFn K (.ref f)=true)(e:mA name=none)(h:Q (.ref f,[.ref x]) s) :
  wpAny (model prog w) A (getMethod (.ref x) name b) Q E s:=by
 obtain⟨d,l,i⟩:=I.look;exact PySem.W.method_fn X l (Wt a).1 (Wt a).2 j (beq_iff_eq.mp g) (by show (PySem.W.lookIn name d).map (·.isSome)=some false;rw[i,e];rfl) h
def z9{g:List Str}{Q:Unit->Shared->Prop}(X:K.In s.heap)(I:JU s.heap x dx C mA)(o:PySem.W.findIn K (.ref C) "__setattr__" = some (some (.builtin "object.__setattr__")))(p:PySem.W.plainOver K C=true)(n:PySem.W.takerIn K C name=some none)(q:PySem.W.hasDictIn K C=true)(hw:PySem.Within mA g)(e:g.length<=sizeLine)(h:∀d,JU d x dx C (λy=>if y=name then some v else mA y)->Heap.SameBut dx s.heap d->Q () { s with heap:=d,toks:=s.toks+2 }) :
  wpAny (model prog w) A (setAttr (.ref x) name v) Q E s:=by
 obtain⟨H,j,L⟩:=I.look;refine PySem.W.set_plain X j o (PySem.W.osa_open (s:={ s with toks:=s.toks+1 }) (r:=none) X j p n λb=>?_);obtain⟨cd,t,G⟩:=PySem.W.any_some q;have m:s.heap.get? x=some ⟨.ref C,some dx,.plain,#[]⟩:=I.obj;refine Zn (ZZ (Zn (Zn (wpAny_loadPart m (Zn (PySem.W.Looks.here (s:={ s with toks:=s.toks+1 }) (PySem.W.looks_clsIn X t) ?_))))));rw[G];refine ZZ (a:=some dx) (Zn (ZZ (Zn ?_)));refine wpAny_nsSet1 (s:={ s with toks:=s.toks+1 }) I.ns λd i l=>?_;obtain⟨J,u,z,F,D,B⟩:=i.count (PySem.Within.cons name v hw);refine Zn (wpAny_lookBehind F (by rw[D];exact pastItsLine_dict (ZI B (by rw[Zk];exact Xp e))) ?_);exact ZZ (h _ ⟨(l.2 _ (Yq I.ne)).trans I.obj,i,I.ne⟩ l)
def yD{R:Result->Shared->Prop}{a:Xg}{b:List (Str×Value)}(X:K.In s.heap)(e:PySem.W.makesIn K C=true)(i:PySem.W.findIn K (.ref C) "__init__" = some (some (.ref f)))(j:PySem.W.typeIn K (.ref f)=some (.type "function"))(h:codeAny (model prog w) (A.under (.builtin "type.__call__" ⟨.ref C :: a,b⟩)) (.call (.ref f) ⟨.ref (s.heap.objs.size+1) :: a,b⟩) (PySem.W.InitBack (s.heap.objs.size+1) R)
   { s with heap:=(s.heap.push PySem.W.emptyDict).push (PySem.W.instObj C s.heap.objs.size) }) :
  codeAny (model prog w) A (.call (.ref C) ⟨a,b⟩) R s:=by
 obtain⟨l,g,d,t,os⟩:=s;exact PySem.W.make_core (PySem.W.makes_of X e) (PySem.W.looks_findIn X i) (λself=>PySem.W.bind_fn X self j) (.inl rfl) h
end
noncomputable def iL(f:Str)(v:V):List (Str×V)->List (Str×V)
 |[]=>[(f,v)]
 | (g,x) :: r=>if g=f then (g,v) :: r else (g,x) :: iL f v r
theorem lA(f g:Str)(v:V):∀fs:List (Str×V),(iL f v fs).lookup g=if g=f then some v else fs.lookup g
 |[]=>by
  show List.lookup g [(f,v)]=_;by_cases h:g=f
  ·have hb:(g==f)=true:=beq_iff_eq.mpr h;simp only[List.lookup,hb,Zq h]
  ·have hb:(g==f)=false:=beq_eq_false_iff_ne.mpr h;simp only[List.lookup,hb,Zp h]
 | (k,x) :: r=>by
  have b:=lA f g v r;rw[show iL f v ((k,x) :: r)=(if k=f then (k,v) :: r else (k,x) :: iL f v r) from rfl];by_cases a:k=f
  ·rw[Zq a];by_cases h:g=k
   ·have hb:(g==k)=true:=beq_iff_eq.mpr h;simp only[List.lookup,hb,Zq (h.trans a)]
   ·have hb:(g==k)=false:=beq_eq_false_iff_ne.mpr h;simp only[List.lookup,hb,Zp (λe:g=f=>h (e.trans a.symm))]
  ·rw[Zp a];by_cases h:g=k
   ·have hb:(g==k)=true:=beq_iff_eq.mpr h;simp only[List.lookup,hb,Zp (λe:g=f=>a (h.symm.trans e))]
   ·have hb:(g==k)=false:=beq_eq_false_iff_ne.mpr h;simp only[List.lookup,hb];exact b
theorem lu(f:Str)(v:V):∀fs:List (Str×V),f∈(iL f v fs).map (·.1)/\∀g,g∈fs.map (·.1)->g∈(iL f v fs).map (·.1)
 |[]=>⟨by simp[iL],λg h=>by simp at h⟩
 | (k,x) :: r=>by
  obtain⟨d,b⟩:=lu f v r;rw[show iL f v ((k,x) :: r)=(if k=f then (k,v) :: r else (k,x) :: iL f v r) from rfl];by_cases a:k=f
  ·rw[Zq a];subst a;exact⟨by simp,λg h=>by simpa using h⟩
  ·rw[Zp a];refine⟨?_,λg h=>?_⟩
   ·rw[Zl];exact Zy _ d
   ·rw[Zl]at h ⊢;rcases Zo.mp h with e | e
    ·exact Zo.mpr (.inl e)
    ·exact Zy _ (b g e)
theorem lO(f:Str)(v:V):∀fs:List (Str×V),(iL f v fs).length<=fs.length+1
 |[]=>by simp[iL]
 | (k,x) :: r=>by
  have b:=lO f v r;rw[show iL f v ((k,x) :: r)=(if k=f then (k,v) :: r else (k,x) :: iL f v r) from rfl];by_cases a:k=f
  ·rw[Zq a,Zk,Zk];exact Xo _ _
  ·rw[Zp a,Zk,Zk];exact Xp b
def iK.some_of{v:V}{o:Wm}(r:iK (some v) o):∃u,o=some u/\RelV v u:=by
 cases o with
 |none=>exact(show False from r).elim
 |some u=>exact⟨u,rfl,r⟩
def iK.none_of{o:Wm}(r:iK none o):o=none:=by
 cases o with
 |none=>rfl
 |some u=>exact(show False from r).elim
def wj{v:V}{u:Value}(r:RelV v u):PySem.W.handedIn u=true:=by
 cases v with
 |non=>cases (show u=Value.none from r);rfl
 |bl b=>cases (show u=Value.bool b from r);rfl
 |int i=>obtain⟨t,e⟩:=(show ∃t,u=Value.int i t from r);cases e;rfl
 |str x=>obtain⟨t,e⟩:=(show ∃t,u=Value.str x t from r);cases e;rfl
 |byt b=>obtain⟨t,e⟩:=(show ∃t,u=Value.bytes b t from r);cases e;rfl
 |flt b=>obtain⟨t,e⟩:=(show ∃t,u=Value.float b t from r);cases e;rfl
 |ref a=>cases (show u=Value.ref a from r);rfl
 |ty n=>cases (show u=Value.type n from r);rfl
section
variable{P:Program}{w:World}{H H':Hp}{h h':Heap}{a C dx:Addr}{fs Iy:List (Str×V)}
def l6(i:HE P w H h)(e:H a=some (.ins C dx fs)):∃b,JU h a dx C b/\(∀f,iK (fs.lookup f) (b f))/\PySem.Within b (fs.map (·.1))/\fs.length<=1000/\H dx=some (.own a):=by
 obtain⟨d,z,ne,g,b,n,r,q⟩:=(show br P w H h a (.ins C dx fs) from i a _ e)
 exact⟨b,⟨g,n,ne⟩,r,q,z,d⟩
end
structure Io(K:Y2)(C:Addr):Prop where
 pg:PySem.W.plainGet K C Str.empty=true
 hd:PySem.W.hasDictIn K C=true
 po:PySem.W.plainOver K C=true
 sa:PySem.W.findIn K (.ref C) "__setattr__" = some (some (.builtin "object.__setattr__"))
def Io.get{K:Y2}{C:Addr}(c:Io K C)(f:Str):PySem.W.plainGet K C f=true:=c.pg
noncomputable def cY(K:Y2)(C:Addr)(f:Str):Prop:=PySem.W.findIn K (.ref C) f=some none
def cY.NM{K:Y2}{C:Addr}{f:Str}(n:cY K C f):PySem.W.takerIn K C f=some none:=by
 unfold PySem.W.takerIn;rw[show PySem.W.findIn K (.ref C) f=some none from n];rfl
structure Meth(K:Y2)(C:Addr)(m:Str)(f:Addr):Prop where
 at_:PySem.W.findIn K (.ref C) m=some (some (.ref f))
 fn:PySem.W.isFn K (.ref f)=true
 kp:PySem.W.keepIn K (.ref f)=true
section
variable{X:Cx}{pins:Yy}{O:St}{H:Hp}{s:Shared}{a C dx:Addr}{fs:List (Str×V)}{f:Str}{v:V}{A:Around}{E:GS}
def sJ{b:Bool}{Q:GS}(I:Inv X pins O H s)(e:H a=some (.ins C dx fs))(c:Io X.K C)(n:cY X.K C f)(l:fs.lookup f=some v)(h:∀u d,Inv X pins O H d->RelV v u->Q u d):wpAny (model X.prog X.w) A (getAttr (.ref a) f b) Q E s:=by
 obtain⟨i,m,r,_,_,_⟩:=l6 I.GL e;obtain⟨u,j,g⟩:=iK.some_of (v:=v) (o:=i f) (by rw[← l];exact r f);exact get_map I.HY m (c.get f) c.hd n j (wj g) (h u _ (I.tok _) g)
def nF{m:Str}{g:Addr}{b:Sem Bool}{Q:Value×Xg->Shared->Prop}(I:Inv X pins O H s)(e:H a=some (.ins C dx fs))(c:Io X.K C)(k:Meth X.K C m g)(l:fs.lookup m=none)(h:Q (.ref g,[.ref a]) s):wpAny (model X.prog X.w) A (getMethod (.ref a) m b) Q E s:=by
 obtain⟨d,j,r,_,_,_⟩:=l6 I.GL e;have i:d m=none:=iK.none_of (by rw[← l];exact r m);exact yU I.HY j (c.get m) k.at_ k.fn i h
def sL{y:V}{u:Value}{Q:Unit->Shared->Prop}(I:Inv X pins O H s)(e:H a=some (.ins C dx fs))(c:Io X.K C)(n:cY X.K C f)(J:fs.length<1000)(B:RelV y u)(h:∀l,Inv X pins O (upd H a (.ins C dx (iL f y fs))) l->Q () l):wpAny (model X.prog X.w) A (setAttr (.ref a) f u) Q E s:=by
 obtain⟨m,i,r,j,_,p⟩:=l6 I.GL e;have D:(fs.map (·.1)).length<=sizeLine:=by rw[Zu,XR];lia
 refine z9 I.HY i c.sa c.po n.NM c.hd j D λF d t=>h _ ?_;have hd:∃o,F.get? dx=some o:=let ⟨o,_,_,G,_⟩:=d.ns;⟨o,G⟩
 refine I.write (x:=a) (e:=dx) (by rw[e];exact True.intro) (.inr p) (λb q hb z=>(t.2 b hb).trans z) hd ?_;refine⟨by rw[ay i.ne];exact p,?_,i.ne,d.obj,_,d.ns,λg=>?_,λg hg=>?_⟩
 ·have:=lO f y fs;lia
 ·show iK ((iL f y fs).lookup g) (if g=f then some u else m g);rw[lA];by_cases q:g=f
  ·rw[Zq q,Zq q];exact B
  ·rw[Zp q,Zp q];exact r g
 ·by_cases q:g=f
  ·rw[q];exact(lu f y fs).1
  ·refine(lu f y fs).2 g (j g λz=>hg ?_);show (if g=f then some u else m g)=none;rw[Zp q];exact z
def Inv.made(I:Inv X pins O H s):Inv X pins O (upd (upd H s.heap.objs.size (.own (s.heap.objs.size+1))) (s.heap.objs.size+1) (.ins C s.heap.objs.size []))
  { s with heap:=(s.heap.push PySem.W.emptyDict).push (PySem.W.instObj C s.heap.objs.size) }:=by
 have e1:(s.heap.push PySem.W.emptyDict).get? s.heap.objs.size=some PySem.W.emptyDict:=ZQ s.heap rfl;have e2:((s.heap.push PySem.W.emptyDict).push (PySem.W.instObj C s.heap.objs.size)).get? (s.heap.objs.size+1)=some (PySem.W.instObj C s.heap.objs.size):=by
  have:=ZQ (s.heap.push PySem.W.emptyDict) (o:=PySem.W.instObj C s.heap.objs.size) rfl
  rwa [X6]at this
 have h:(s.heap.push PySem.W.emptyDict).Ns s.heap.objs.size (λ_=>none):=⟨PySem.W.emptyDict,#[],_,e1,rfl,(λe g=>absurd g (by simp)),λ_=>rfl⟩
 have i:=I.laid (a:=s.heap.objs.size) (o:=.own (s.heap.objs.size+1)) (h':=s.heap.push PySem.W.emptyDict) (t':=s.toks) (λb u q=>Zi _ q) (Zh _) ⟨_,e1⟩;refine i.laid (a:=s.heap.objs.size+1) (o:=.ins C s.heap.objs.size []) (t':=s.toks) (λb u q=>Zi _ q) (X8 (X6 _ _)) ?_;have ne:s.heap.objs.size≠s.heap.objs.size+1:=Zb (YZ _);refine⟨by rw[ay ne,aw],Yv _,ne,e2,λ_=>none,(Heap.Ns1.of_empty h).at λo q=>Zi _ q,λ_=>True.intro,λy d=>absurd rfl d⟩
def AS{b:Program}{w:World}{d:Env}{e:Expr}{f:Str}{g:Pos}{s:Shared}{Q:GS}(j:attributeBase e f d (eval e d)=eval e d)(h:wpAny (model b w) A (eval e d) (λo i=>wpAny (model b w) A (getAttr o f true) Q E i) E s):wpAny (model b w) A (eval (.Attribute e f g) d) Q E s :=
 Attribute_any_ h (by rw[arm_eval_Attribute,j])
end
noncomputable def GG(K:Y2)(ta:TE)(f:Str):TE:=λO H Q=>ta O H λx b=>∃a C d fs v,x=.ref a/\b a=some (.ins C d fs)/\Io K C/\cY K C f/\fs.lookup f=some v/\Q v b
noncomputable def GE(K:Y2)(ta e:TE)(f:Str):TS:=λD O H=>e O H λy g=>ta O g λx d=>∃a C b fs,x=.ref a/\d a=some (.ins C b fs)/\Io K C/\cY K C f/\fs.length<1000 ∧
 D.nx O (upd d a (.ins C b (iL f y fs)))
section
variable{X:Cx}{o e value:Expr}{f:Str}{pos pos' Lv:Pos}{ta tv:TE}
def zk(g:PE X e ta)(i:attributeBase e f X.env (eval e X.env)=eval e X.env):PE X (.Attribute e f pos) (GG X.K ta f):=by
 intro pins s O H Q I h;refine AS i (thn (g pins s O H _ I h) λu s1 ⟨x,r,p,b,a,C,y,fs,v,ex,j,c,n,l,q⟩=>?_);subst ex;obtain rfl:u=Value.ref a:=b;exact sJ p j c n l λt w m d=>⟨v,r,m,d,q⟩
def CJ(p:PE X o ta)(j:PE X value tv)(m:swapsWith value (some (.Attribute o f pos')) pos.line X.env=pure false):PS X (.Assign [.Attribute o f pos'] value pos) (GE X.K ta tv f):=by
 intro pins s O H D I h;refine plainObj_wpAny_Assign_Attribute (thn (j pins s O H _ I h) λu s1 ⟨y,z,w,b,q⟩=>thn (p pins s1 O z _ w q) λi B ⟨x,F,v,d,a,C,E,fs,ex,r,c,n,l,g⟩=>?_) m;subst ex;obtain rfl:i=Value.ref a:=d;exact sL v r c n l b λA t=>⟨O,_,t,g⟩
end
section
variable{X:Cx}{pins:Yy}{O:St}{H:Hp}{s:Shared}{A:Around}{E:GS}{Q:GS}{c:Value}{b:Bool}
inductive HN(K:Y2)(H:Hp):V->Value->Prop where
 |non:HN K H .non (.type "NoneType")
 |bl (x:Bool):HN K H (.bl x) (.type "bool")
 |int (i:Int):HN K H (.int i) (.type "int")
 |str (x:Str):HN K H (.str x) (.type "str")
 |flt (x:UInt64):HN K H (.flt x) (.type "float")
 |lst {a:Addr} {xs:List V} (e:H a=some (.lst xs)):HN K H (.ref a) (.type "list")
 |frz {a:Addr} {o:Obj} {xs:List V} (e:H a=some (.frz o (.lst xs))):HN K H (.ref a) (.type "list")
 |tup {a:Addr} {xs:List V} (e:H a=some (.tup xs)):HN K H (.ref a) (.type "tuple")
 |dK {a:Addr} {gV:List (Key×V)} (e:H a=some (.dK gV)):HN K H (.ref a) (.type "dict")
 |dT {a:Addr} {gV:List (List Key×V)} (e:H a=some (.dT gV)):HN K H (.ref a) (.type "dict")
 |ins {a C dx:Addr} {fs:List (Str×V)} (e:H a=some (.ins C dx fs)) (cl:Io K C) (ha:PySem.W.findIn K (.ref C) "__class__" = some (some (.builtin "object.__class__")))
   (hn:PySem.W.specialIn K (.builtin "object.__class__") "__get__" = some (some (.builtin "getset_descriptor.__get__"))) (Tt:PySem.W.takesIn K (.builtin "object.__class__")=some true)
   (hm:PySem.W.mroIn K C (.type "object")=some true):HN K H (.ref a) (.ref C)
def v8{x:V}{u t:Value}(I:Inv X pins O H s)(d:RelV x u)(r:HN X.K H x t)(e:PySem.W.kitOne X.K t c=some b)(h:∀v,Q (.bool b) { s with toks:=v }) :
  wpAny (model X.prog X.w) A (call (.builtin "isinstance") [u,c]) Q E s:=by
 cases r with
 |non=>cases (show u=Value.none from d);exact YV PySem.W.kitx_none I.HY True.intro e (λz=>nomatch z) h
 |bl y=>cases (show u=Value.bool y from d);exact YV PySem.W.kitx_bool I.HY True.intro e (λz=>nomatch z) h
 |int i=>obtain⟨t,q⟩:=(show ∃t,u=Value.int i t from d);cases q;exact YV PySem.W.kitx_int I.HY True.intro e (λz=>nomatch z) h
 |str y=>obtain⟨t,q⟩:=(show ∃t,u=Value.str y t from d);cases q;exact YV PySem.W.kitx_str I.HY True.intro e (λz=>nomatch z) h
 |flt y=>obtain⟨t,q⟩:=(show ∃t,u=Value.float y t from d);cases q;exact YV PySem.W.kitx_float I.HY True.intro e (λz=>nomatch z) h
 |@lst a j f =>
  cases (show u=Value.ref a from d);obtain⟨_,_,n,_,g⟩:=(show br X.prog X.w H s.heap a (.lst j) from I.GL a _ f)
  exact YV PySem.W.kitx_list I.HY ⟨_,g,rfl⟩ e (λz=>nomatch z) h
 |@frz a B j f =>
  cases (show u=Value.ref a from d);obtain⟨_,_,_,n,_,g⟩:=(show br X.prog X.w H s.heap a (.frz B (.lst j)) from I.GL a _ f)
  exact YV PySem.W.kitx_list I.HY ⟨_,g,rfl⟩ e (λz=>nomatch z) h
 |@tup a j f =>
  cases (show u=Value.ref a from d);obtain⟨_,_,_,_,p⟩:=(show br X.prog X.w H s.heap a (.tup j) from I.GL a _ f)
  obtain⟨o,g,l,_⟩:=p;exact YV PySem.W.kitx_tuple I.HY ⟨o,g,l⟩ e (λz=>nomatch z) h
 |@dK a m f =>
  cases (show u=Value.ref a from d);obtain⟨_,_,R,_,p⟩:=(show br X.prog X.w H s.heap a (.dK m) from I.GL a _ f)
  obtain⟨o,J,L,g,l,_⟩:=p;exact YV PySem.W.kitx_dict I.HY ⟨o,g,l.1⟩ e (λz=>nomatch z) h
 |@dT a m f =>
  cases (show u=Value.ref a from d);obtain⟨_,_,j,_,o,J,L,g,l,_⟩:=(show br X.prog X.w H s.heap a (.dT m) from I.GL a _ f)
  exact YV PySem.W.kitx_dict I.HY ⟨o,g,l.1⟩ e (λz=>nomatch z) h
 |@ins a C Y fs f cl G D M F =>
  cases (show u=Value.ref a from d);obtain⟨U,N,_⟩:=l6 I.GL f;obtain⟨S,P,_⟩:=N.look;exact YV (PySem.W.kitx_own (cl.get _) cl.hd G D M F) I.HY P e (λz=>nomatch z) h
end
structure GJ(k:Nat)(A:Around):Prop where
 hd:A.handled=none
 dp:A.depth+3*k+5<recursionLimit
 un:A.units+16*k+200<cLine
def GJ.mono{j k:Nat}{A:Around}(r:GJ k A)(h:j<=k):GJ j A:=⟨r.hd,by have:=r.dp;lia,by have:=r.un;lia⟩
theorem GJ.deeper{k:Nat}{A:Around}(r:GJ (k+1) A)(a:Env):GJ k (A.deeper a) :=
 ⟨r.hd,by have:=r.dp;show A.depth+1+3*k+5<_;lia,by have:=r.un;show A.units+3+16*k+200<_;lia⟩
def sN{A:Around}{C:Addr}{a:Xg}{b:List (Str×Value)}:(A.under (.builtin "type.__call__" ⟨.ref C :: a,b⟩)).depth=A.depth+1:=by
 first | rfl | simp[Around.under,Code.weight,Code.isCreation,Code.isGuard,Code.isCaller,Code.frames,Code.isFrame,guardIds]
def sF{A:Around}{C:Addr}{a:Xg}{b:List (Str×Value)}:(A.under (.builtin "type.__call__" ⟨.ref C :: a,b⟩)).units=A.units+1:=by
 first | rfl | simp[Around.under,Code.cUnits,Code.frames,Code.isFrame]
def GJ.make{k:Nat}{A:Around}(r:GJ (k+1) A)(C:Addr)(a:Xg)(b:List (Str×Value)):GJ k (A.under (.builtin "type.__call__" ⟨.ref C :: a,b⟩)) :=
 ⟨r.hd,by have:=r.dp;rw[sN];lia,by have:=r.un;rw[sF];lia⟩
theorem GJ.depth{k:Nat}{A:Around}(r:GJ k A):A.depth<recursionLimit:=by have:=r.dp;lia
theorem GJ.units{k:Nat}{A:Around}(r:GJ k A):A.units+64<cLine:=by have:=r.un;lia
noncomputable def wu:TA:=λ_ H Q=>Q [] H
noncomputable def B5(ta:TE)(b:TA):TA:=λO H Q=>ta O H λx e=>b O e λa d=>Q (x :: a) d
section
variable{X:Cx}{e:Expr}{es:List Expr}{te:TE}{t:TA}{pos:Pos}
def fD:PA X [] wu:=λ_ _ _ _ H Q I h=>Calls.spliced_nil ⟨[],H,I,.nil,h⟩
def cP(i:PE X e te)(g:PA X es t)(f:K1 e es X:=by rfl):PA X (e :: es) (B5 te t):=by
 intro pos pins s O H Q I h;rw[f];show wpAny _ _ (spliced ((false,eval e X.env) :: backTo pos (starEach es X.env))) _ _ s;refine Calls.spliced_cons (thn (i pins s O H _ I h) λu s1 ⟨x,n,l,r1,d⟩=>?_);exact thn (g pos pins s1 O n _ l d) λo p ⟨a,m,j,r2,b⟩=>⟨x :: a,m,j,.cons r1 r2,b⟩
noncomputable def FY(t:TA):TE:=λO H Q=>t O H λa b=>a.length<=sizeLine/\∀p,b p=none->Q (.ref p) (upd b p (.tup a))
noncomputable def Gq(t:TA):TE:=λO H Q=>t O H λa b=>a.length<=sizeLine/\∀p,b p=none->Q (.ref p) (upd b p (.lst a))
def Dy{x1}(h:PA X es t):PE X (.Tuple es x1 pos) (FY t):=by
 intro pins s O H Q I i;refine wpAny_Tuple_spliced (thn (h pos pins s O H _ I i) λg s1 ⟨f,d,a,r,z,q⟩=>⟨by rw[← r.length];exact z,?_⟩);have j:d s1.heap.objs.size=none:=a.GL.fresh (Zh _);refine⟨.ref s1.heap.objs.size,upd d s1.heap.objs.size (.tup f),a.laid (t':=s1.toks) (λb u e=>Zi _ e) (Zh _) ?_,rfl,q _ j⟩;exact⟨z,g,r,LV.of (ZQ _ rfl) rfl,⟨_,ZQ _ rfl,rfl,_,rfl⟩⟩
def t7(h:PA X es t):PE X (.List es pos) (Gq t):=by
 intro pins s O H Q I i;refine wpAny_List_spliced (thn (h pos pins s O H _ I i) λg s1 ⟨f,d,a,r,z,q⟩=>⟨by rw[← r.length];exact z,?_⟩);have j:d s1.heap.objs.size=none:=a.GL.fresh (Zh _);refine⟨.ref s1.heap.objs.size,upd d s1.heap.objs.size (.lst f),a.laid (t':=s1.toks) (λb u e=>Zi _ e) (Zh _) ?_,rfl,q _ j⟩;exact⟨z,g,0,r,ZQ _ rfl⟩
end
noncomputable abbrev Sp:=List V->Hp->VK->XK->Prop
noncomputable abbrev KA:=List Env->Hp->Shared->XK->GS
structure Env0(P:Program)(w:World)(K:Y2)(mg:Xk)(base:Heap)(A:Around)(outer:List Env)(s:Shared)(H:Hp):Prop where
 frames:A.frames=some outer
 mod:Mod K mg base
 bs:∀b o,base.get? b=some o->s.heap.get? b=some o/\H b=none
 LS:base.objs.size<=s.heap.objs.size
 HZ:s.heap.FunFrames base outer
 M5:∀b∈HS outer,H b=none
 GL:HE P w H s.heap
 bare:AllBare s.gens
noncomputable def CE(a:List Env)(P:Program)(w:World)(H:Hp)(s:Shared)(Q:VK)(u:Value)(b:Shared):Prop :=
 ∃v d,b.os=s.os/\AllBare b.gens/\Un (HS a) [] H d s.heap b.heap/\HE P w d b.heap/\RelV v u/\Q v d
noncomputable def CR(d:KA)(a:List Env)(P:Program)(w:World)(H:Hp)(s:Shared)(Q:VK)(E:XK)(r:Result)(b:Shared):Prop :=
 match r with
 |.ok (.ret u)=>CE a P w H s Q u b
 |.ok _=>False
 |.error e=>d a H s E e b
structure FnOk(P:Program)(w:World)(K:Y2)(mg:Xk)(base:Heap)(CX:KA)(k:Nat)(f:Addr)(fd:FuncData)(ps:List Str)(sp:Sp):Prop where
 len:∀vs H Q E,sp vs H Q E->vs.length=ps.length
 run:∀(A:Around)(outer:List Env)(s:Shared)(H:Hp)(args:Args)(us:Xg)(vs:List V)(Q:VK)(E:XK),GJ k A->Env0 P w K mg base A outer s H->BindsTo s fd args (ps.zip us)->aT vs us->sp vs H Q E →
  codeAny (model P w) A (.call (.ref f) args) (CR CX outer P w H s Q E) s
def FnOk.imp{P:Program}{w:World}{K:Y2}{g:Xk}{a:Heap}{l:KA}{k:Nat}{f:Addr}{i:FuncData}{e:List Str}{d j:Sp}(F:FnOk P w K g a l k f i e d)(h:∀b H Q E,j b H Q E->d b H Q E):FnOk P w K g a l k f i e j :=
 ⟨λb H Q E q=>F.len b H Q E (h _ _ _ _ q),λA outer s H args m b Q E p r hb n o=>F.run A outer s H args m b Q E p r hb n (h _ _ _ _ o)⟩
def Env0.make{P:Program}{w:World}{K:Y2}{d:Xk}{b:Heap}{A:Around}{a:List Env}{s:Shared}{H:Hp}(e:Env0 P w K d b A a s H)(C:Addr)(f:Xg)(g:List (Str×Value)) :
  Env0 P w K d b (A.under (.builtin "type.__call__" ⟨.ref C :: f,g⟩)) a s H:=⟨by first | exact e.frames | (simpa[Around.under,Code.envs,Code.isFrame,pushEnvs] using e.frames),e.mod,e.bs,e.LS,e.HZ,e.M5,e.GL,e.bare⟩
section
variable{X:Cx}{pins:Yy}{O:St}{H:Hp}{s s':Shared}
def Inv.OH(I:Inv X pins O H s):Env0 X.prog X.w X.K X.mg X.base X.A X.stack s H :=
 ⟨I.ok.frames,I.ok.mod,I.bs,ZI I.ok.LS I.sz,I.stack,I.JX,I.GL,I.bare⟩
def Inv.after{Q:VK}{u:Value}(I:Inv X pins O H s)(h:CE X.stack X.prog X.w H s Q u s'):EP X pins O Q u s':=by
 obtain⟨v,f,os,bare,un,GL,r,q⟩:=h;obtain⟨a,g,d,t,e⟩:=s';obtain rfl:e=s.os:=os;exact⟨v,f,I.call (h':=a) (g':=g) (d':=d) (t':=t) (ch:=[]) un GL bare (λb z=>absurd z (by simp)),r,q⟩
end
noncomputable def BL(b:Sp)(d:List V)(E:XK)(t:TA):TE:=λO H Q=>t O H λa e=>b (a++d) e Q E
noncomputable def ur(C:Addr)(m:Str)(e:Sp)(g:List V)(E:XK)(ta:TE)(t:TA):TE:=λO H Q=>ta O H λx b=>∃a f fs,x=.ref a/\b a=some (.ins C f fs)/\fs.lookup m=none ∧
 t O b λd h=>e (x :: (d++g)) h Q E
noncomputable def BP(C:Addr)(e:Sp)(f:List V)(E:XK)(t:TA):TE:=λO H Q=>t O H λd b=>∀x a,b x=none->b a=none->a≠x →
 e (.ref x :: (d++f)) (upd (upd b a (.own x)) x (.ins C a [])) (λv g=>v=.non/\Q (.ref x) g) E
noncomputable def Binds(K:Y2)(d:FuncData)(b:List Str)(ds:Xg):Prop :=
 ∀(s:Shared)(a:Xg),K.In s.heap->(a++ds).length=b.length->BindsTo s d ⟨a,[]⟩ (b.zip (a++ds))
def Binds.all{K:Y2}{e:FuncData}{b:List Str}(h:∀a:Xg,a.length=b.length->bindArgs e ⟨a,[]⟩=pure (b.zip a)):Binds K e b []:=λs a _ d=>by
 rw[ZV]at d ⊢;exact .of_eq (h a d)
noncomputable def jV(b:KA)(X:Cx)(E:XK):Prop:=∀(pins:Yy)(O:St)(H:Hp)(s:Shared)(e:Value)(a:Shared),Inv X pins O H s->b X.stack H s E e a->X.xe e a
section
variable{X:Cx}{CX:KA}{k:Nat}{f C:Addr}{fd:FuncData}{ps:List Str}{sp:Sp}{Iz:List V}{ds:Xg}{E:XK}{x m:Str}{p pos apos:Pos}{e o:Expr}{es:List Expr}{ta:TE}{t:TA}
def tK{a:Yy}{O:St}{H:Hp}{s:Shared}{Q:VK}{us:Xg}{vs:List V}(F:FnOk X.prog X.w X.K X.mg X.base CX k f fd ps sp)(i:GJ k X.A)(n:Binds X.K fd ps ds)(l:aT Iz ds)(g:jV CX X E)(I:Inv X a O H s)(r:aT vs us)(h:sp (vs++Iz) H Q E):wpAny (model X.prog X.w) X.A (call (.ref f) us) (EP X a O Q) X.xe s:=by
 have r2:aT (vs++Iz) (us++ds):=r.append l;have j:(us++ds).length=ps.length:=by rw[← r2.length];exact F.len _ _ _ _ h
 refine wpAny_call (codeAny_mono (F.run X.A X.stack s H ⟨us,[]⟩ (us++ds) (vs++Iz) Q E i I.OH (n s us I.HY j) r2 h) λr d b=>?_);cases r with
 |error e=>exact g a O H s e d I b
 |ok q =>
  cases q with
  |ret u=>exact I.after b
  |next=>exact False.elim b
  |brk=>exact False.elim b
  |cont=>exact False.elim b
def vc(F:FnOk X.prog X.w X.K X.mg X.base CX k f fd ps sp)(g:GJ k X.A)(l:Gl X x)(i:X.mg x=some (.ref f))(j:PySem.W.keepIn X.K (.ref f)=true)(v:Binds X.K fd ps ds)(u:aT Iz ds)(d:jV CX X E)(y:PA X (e :: es) t)(z:K3 x:=by decide)(n:K1 e es X:=by rfl)(a:K2 pos es X:=by rfl) :
  PE X (.Call (.Name x p) (e :: es) [] pos) (BL sp Iz E t):=by
 intro pins s O H Q I h;refine X1 (vA I l i ?_ z);refine PySem.W.callWith_K (h₀:=X.base) I.ok.mod.PB j (thn (y pos pins s O H _ I h) λD s1 ⟨B,G,b,r,q⟩=>⟨b.HY,?_⟩) n a;exact tK F g v u d b r q
def uY{pl:Sem Bool}(D:PE X o ta)(c:Io X.K C)(g:Meth X.K C m f)(F:FnOk X.prog X.w X.K X.mg X.base CX k f fd ps sp)(B:GJ k X.A)(J:Binds X.K fd ps ds)(G:aT Iz ds)(y:jV CX X E)(L:PA X (e :: es) t)(N:K1 e es X:=by rfl)(b:K2 pos es X:=by rfl)(z:eval (.Call (.Attribute o m apos) (e :: es) [] pos) X.env=(do
   let d ← eval o X.env
   standAt apos.atName
   let (f,first) ← holding [d] (getMethod d m pl)
   callWith pos f first (backTo pos (starEach (e :: es) X.env)) (backToKw pos (keywordEach [] X.env))):=by rfl) :
  PE X (.Call (.Attribute o m apos) (e :: es) [] pos) (ur C m sp Iz E ta t):=by
 intro pins s O H Q I h;refine PySem.W.methodCall_KW (pl:=pl) (thn (D pins s O H _ I h) λu s1 ⟨x,P,j,n,a,S,fs,ex,M,l,q⟩=>?_) z;subst ex;obtain rfl:u=Value.ref a:=n;refine nF j M c g l ?_;refine PySem.W.callWith_K (first:=[.ref a]) (h₀:=X.base) I.ok.mod.PB g.kp (thn (L pos pins s1 O P _ j q) λus R ⟨vs,U,i,r,v⟩=>⟨i.HY,?_⟩) N b;exact tK (us:=.ref a :: us) (vs:=.ref a :: vs) F B J G y i (.cons rfl r) v
def zh{pl:Sem Bool}(v:PE X o ta)(c:Io X.K C)(g:Meth X.K C m f)(F:FnOk X.prog X.w X.K X.mg X.base CX k f fd ps sp)(r:GJ k X.A)(z:Binds X.K fd ps ds)(y:aT Iz ds)(j:jV CX X E)(n:eval (.Call (.Attribute o m apos) [] [] pos) X.env=(do
   let d ← eval o X.env
   standAt apos.atName
   let (f,first) ← holding [d] (getMethod d m pl)
   callWith pos f first (backTo pos (starEach [] X.env)) (backToKw pos (keywordEach [] X.env))):=by rfl) :
  PE X (.Call (.Attribute o m apos) [] [] pos) (ur C m sp Iz E ta wu):=by
 intro pins s O H Q I h;refine PySem.W.methodCall_KW (pl:=pl) (thn (v pins s O H _ I h) λu s1 ⟨x,G,b,i,a,D,fs,ex,B,l,q⟩=>?_) n;subst ex;obtain rfl:u=Value.ref a:=i;refine nF b B c g l ?_;exact PySem.W.callWith_K0 (first:=[.ref a]) b.HY g.kp (tK (us:=[.ref a]) (vs:=[.ref a]) F r z y j b (.cons rfl .nil) q)
structure Mk(K:Y2)(C f:Addr):Prop where
 makes:PySem.W.makesIn K C=true
 init:PySem.W.findIn K (.ref C) "__init__" = some (some (.ref f))
 fn:PySem.W.isFn K (.ref f)=true
 kp:PySem.W.keepIn K (.ref C)=true
def zQ{a:Yy}{O:St}{H:Hp}{s:Shared}{Q:VK}{us:Xg}{i:List V}(M:Mk X.K C f)(F:FnOk X.prog X.w X.K X.mg X.base CX k f fd ps sp)(z:GJ (k+1) X.A)(G:Binds X.K fd ps ds)(D:aT Iz ds)(y:jV CX X E)(I:Inv X a O H s)(r:aT i us)(h:∀x d,H x=none->H d=none->d≠x->sp (.ref x :: (i++Iz)) (upd (upd H d (.own x)) x (.ins C d [])) (λv N=>v=.non/\Q (.ref x) N) E) :
  wpAny (model X.prog X.w) X.A (call (.ref C) us) (EP X a O Q) X.xe s:=by
 have j:=h (s.heap.objs.size+1) s.heap.objs.size (I.GL.fresh (XH _)) (I.GL.fresh (Zh _)) (Zb (YZ _));have g:=Inv.made (C:=C) I;have r2:aT (V.ref (s.heap.objs.size+1) :: (i++Iz)) (Value.ref (s.heap.objs.size+1) :: (us++ds)):=.cons rfl (r.append D);have B:(Value.ref (s.heap.objs.size+1) :: us++ds).length=ps.length:=by
  have e:=r2.length;rw[F.len _ _ _ _ j]at e;exact e.symm
 refine wpAny_call (yD (f:=f) I.HY M.makes M.init (beq_iff_eq.mp M.fn) (codeAny_mono (F.run _ X.stack _ _ ⟨Value.ref (s.heap.objs.size+1) :: us,[]⟩ (Value.ref (s.heap.objs.size+1) :: (us++ds)) _ _ E (z.make C us [])
  (g.OH.make C us []) (G _ (Value.ref (s.heap.objs.size+1) :: us) g.HY B) r2 j) λr l b=>?_))
 cases r with
 |error e=>exact y a O _ _ e l g b
 |ok J =>
  cases J with
  |ret u =>
   obtain⟨v,P,L,n,ev,q⟩:=g.after b;subst ev;exact⟨n,⟨V.ref (s.heap.objs.size+1),P,L,rfl,q⟩⟩
  |next=>exact False.elim b
  |brk=>exact False.elim b
  |cont=>exact False.elim b
def zC(M:Mk X.K C f)(F:FnOk X.prog X.w X.K X.mg X.base CX k f fd ps sp)(b:GJ (k+1) X.A)(g:Gl X x)(d:X.mg x=some (.ref C))(j:Binds X.K fd ps ds)(i:aT Iz ds)(a:jV CX X E)(l:K3 x:=by decide):PE X (.Call (.Name x p) [] [] pos) (BP C sp Iz E wu):=by
 intro pins s O H Q I h;refine X1 (vA I g d ?_ l);exact PySem.W.callWith_K0 I.HY M.kp (zQ (us:=[]) M F b j i a I .nil h)
end
structure oe(N P:List Str)(sc:Scope):Prop where
 kind:sc.kind=.function
 co:sc.isCoroutine=false
 gen:sc.isGenerator=false
 nd:N.Nodup
 pre:N.take P.length=P
 par:∀x∈P,sc.names.lookup x=some .local\/sc.names.lookup x=some .cell
 MD:∀y∈sc.names,y.2 ≠ .free
theorem oI{a:Str->Option NameKind}{x:Str}:∀{binds:List (Str×Value)}{m:Xk},(∀v,(x,v)∉binds)->bindL a binds m x=m x
 |[],_,_=>rfl
 | (n,v) :: r,m,h=>by
  unfold bindL;rw[oI λw hw=>h w (Zy _ hw)];split
  ·have:x≠n:=by rintro rfl;exact h v Zx
   simp[this]
  ·rfl
theorem ox{a:Str->Option NameKind}{x:Str}:∀{binds:List (Str×Value)}{m:Xk},(∀v,(x,v)∉binds)->bindC a binds m x=m x
 |[],_,_=>rfl
 | (n,v) :: r,m,h=>by
  unfold bindC;rw[ox λw hw=>h w (Zy _ hw)];split
  ·rfl
  ·have:x≠n:=by rintro rfl;exact h v Zx
   simp[this]
theorem oo{a:Str->Option NameKind}{x:Str}{v:Value}:∀{P:List Str}{b:Xg}{i:Nat}{m:Xk},P.Nodup->P[i]?=some x->b[i]?=some v->a x=some .local →
  bindL a (P.zip b) m x=some v
 |[],_,_,_,_,h,_,_=>by simp at h
 |_ :: _,[],_,_,_,_,h,_=>by simp at h
 |p :: P,w :: b,0,m,nd,e,d,f=>by
  simp at e d;subst e;subst d;show bindL a ((p,w) :: P.zip b) m p=_;unfold bindL;rw[oI λv g=>(Zf.mp nd).1 (Wz g).1,Zq f];simp
 |p :: P,w :: b,i+1,m,nd,e,d,f=>by
  show bindL a ((p,w) :: P.zip b) m x=_;unfold bindL;exact oo (i:=i) (Zf.mp nd).2 (by simpa using e) (by simpa using d) f
theorem oY{a:Str->Option NameKind}{x:Str}{v:Value}:∀{P:List Str}{b:Xg}{i:Nat}{m:Xk},P.Nodup->P[i]?=some x->b[i]?=some v->a x≠some .local →
  bindC a (P.zip b) m x=some v
 |[],_,_,_,_,h,_,_=>by simp at h
 |_ :: _,[],_,_,_,_,h,_=>by simp at h
 |p :: P,w :: b,0,m,nd,e,d,f=>by
  simp at e d;subst e;subst d;show bindC a ((p,w) :: P.zip b) m p=_;unfold bindC;rw[ox λv g=>(Zf.mp nd).1 (Wz g).1,Zp f];simp
 |p :: P,w :: b,i+1,m,nd,e,d,f=>by
  show bindC a ((p,w) :: P.zip b) m x=_;unfold bindC;exact oY (i:=i) (Zf.mp nd).2 (by simpa using e) (by simpa using d) f
noncomputable def start(N:List Str)(a:List V):St:=a.map some++List.replicate (N.length-a.length) none
noncomputable def jr(j:KA)(P:Program)(w:World)(K:Y2)(m:Xk)(h:Heap)(N:List Str)(d:Str)(a:Scope)(f:Addr)(g:Value)(A:Around)(b:List Env)(s:Shared)(H:Hp)(E:XK):Cx where
 prog:=P
 w:=w
 K:=K
 mg:=m
 base:=h
 A:=A.deeper (envOfC d a s.heap.objs.size f g)
 N:=N
 s₀:=s
 H₀:=H
 env:=envOfC d a s.heap.objs.size f g
 outer:=b
 stack:=envOfC d a s.heap.objs.size f g :: b
 ex:=[]
 calm:=true
 fn:=λ_=>true
 pn:=[]
 xe:=λe l=>wpAny (model P w) (A.deeper (envOfC d a s.heap.objs.size f g)) (leaving (envOfC d a s.heap.objs.size f g) e) (λ_ i=>j b H s E e i) (λn i=>j b H s E n i) l
def rz{a:Scope}{n:Nat}{x:Str}(h:a.names.lookup x=some .cell):∃c,(cellsFrom n a.names []).lookup x=some c:=by
 have q:=PySem.W.cellsFrom_some a.names n [] (.inl h);exact Yi.mp q
def wo{Y:KA}{P:Program}{w:World}{K:Y2}{M:Xk}{m:Heap}{N B:List Str}{j:Str}{d:Scope}{f:Addr}{J:Value}{A:Around}{g:List Env}{s Q:Shared}{H:Hp}{E:XK}{L:Xg}{t:List V}(S:oe N B d)(hd:A.handled=none)(o:Env0 P w K M m A g s H)(hl:t.length=B.length)(r:aT t L)(x:InCallC s s.heap.objs.size (bindL (envOfC j d s.heap.objs.size f J).kindOf (B.zip L) λ_=>none) (cellsFrom (s.heap.objs.size+1) d.names []) (bindC (envOfC j d s.heap.objs.size f J).kindOf (B.zip L) λ_=>none) Q) :
  Inv (jr Y P w K M m N j d f J A g s H E) [] (start N t) H Q:=by
 have hpl:B.length<=N.length:=by have:=congrArg List.length S.pre;rw[YX]at this;lia
 obtain⟨G,tk,rfl,U⟩:=x.done;have O:∀b:Addr,b∉(jr Y P w K M m N j d f J A g s H E).ex:=λb z=>absurd (show b∈([]:Xi) from z) (by simp);refine⟨⟨o.mod,S.kind,rfl,rfl,Zh _,λy z c G l=>?_,λy C=>?_,λy c _ h=>?_,λ_=>hd,Around.frames_deeper o.frames,.inr ⟨rfl,rfl⟩,λb z=>absurd z (O b),o.bs,o.LS,λb _ _=>O b,λb z=>absurd z (O b),o.HZ,o.M5⟩,
  rfl,o.bare,Un.kept U,⟨_,x.toInCall.ns,λi y v G l h3=>?_⟩,λy c h=>⟨_,x.cell y c h⟩,o.GL.fresh (Zh _),λy c h=>?_,λp D=>absurd (show p∈([]:Yy) from D) (by simp),o.GL.kept U,?_⟩
 ·exact name_of_addr x.apart (Xm G) (Xm l)
 ·have C:d.names.lookup y=some .cell\/d.names.lookup y=some .free:=C;rcases C with C | C
  ·exact rz C
  ·exact absurd rfl (S.MD _ (Xm C))
 ·exact X7 (x.above y c (Xm h))
 ·have F:i<t.length:=by
   unfold start at l;by_cases F:i<t.length
   ·exact F
   ·rw[Yo (by simpa using F)]at l;rw[Ye]at l;split at l<;>cases l
  have ha:t[i]?=some v:=by
   unfold start at l;rw[Yz (by simpa using F),ZY]at l;cases e:t[i]? with
   |none=>rw[e]at l;cases l
   |some a=>rw[e]at l;cases l;rfl
  obtain⟨u,R,Z⟩:=r.get ha;have D:B[i]?=some y:=by
   rw[← S.pre,List.getElem?_take_of_lt (by lia)];exact G
  have X:B.Nodup:=by rw[← S.pre];exact S.nd.sublist (List.take_sublist _ _)
  refine⟨u,Z,?_⟩;rcases S.par y (Yc D) with k | k
  ·exact .inl ⟨k,oo X D R k⟩
  ·obtain⟨c,e⟩:=rz (n:=s.heap.objs.size+1) k;refine .inr ⟨.inl k,c,e,?_⟩;have q:=x.cell y c e;rw[oY X D R (by show d.names.lookup y≠_;rw[k];decide)]at q;exact q
 ·exact o.GL.fresh (X7 (x.above y c (Xm h)))
 ·unfold start;show _=N.length;rw[Zs,Zu,Yg];lia
def E6{M:KA}{P:Program}{w:World}{K:Y2}{J:Xk}{h:Heap}{k:Nat}{f:Addr}{l d:Str}{g:Arguments}{i:List Stmt}{a:Scope}{dV kV F Z z ct oc:Value}{an od:Option Addr}{Kq:Array (Wm)}{N G:List Str}{O:Sp}(lk:K.lookup f=some ⟨oc,od,.func (PySem.W.fnOf l d g i a dV kV F Z an z ct),Kq⟩)(Y:PySem.W.codeIn K z d=true)(S:oe N G a)(C:∀j H Q E,O j H Q E->j.length=G.length)(K9:∀(A:Around)(outer:List Env)(s:Shared)(H:Hp)(j:List V)(Q:VK)(E:XK),GJ k (A.deeper (envOfC d a s.heap.objs.size f z))->O j H Q E →
   ∃t,ID (jr M P w K J h N d a f z A outer s H E) i t/\t { nx:=λ_ p=>Q .non p,rt:=Q } (start N j) H) :
  FnOk P w K J h M (k+1) f (PySem.W.fnOf l d g i a dV kV F Z an z ct) G O:=by
 refine⟨C,λA outer s H args us j Q E X D hb r Mb=>?_⟩;have hl:=C _ _ _ _ Mb;have KX:K.In s.heap:=D.mod.PB.keeps λb o e=>(D.bs b o e).1;have lim:s.heap.NoLimit:=D.mod.nolimit.keeps λb o e=>(D.bs b o e).1;have IG:∀y∈G.zip us,a.names.lookup y.1=some .local\/(a.names.lookup y.1=some .cell/\((cellsFrom (s.heap.objs.size+1) a.names []).lookup y.1).isSome=true):=λ⟨n,v⟩ hy=>by
  rcases S.par n (Wz hy).1 with q | q
  ·exact .inl q
  ·exact .inr ⟨q,PySem.W.cellsFrom_some _ _ _ (.inl q)⟩
 refine codeAny_call_function X.depth (KX _ _ lk) rfl S.co S.gen rfl (PySem.W.codeRec_of KX Y) (hb _ _ _ _ ?_);refine wpAny_newFunctionEnv_cells S.kind IG λenv he s1 x=>?_;subst he;refine⟨lim.keeps x.toInCall.keep,codeAny_func ?_⟩;obtain⟨t,ht,hq⟩:=K9 A outer s H j Q E (X.deeper _) Mb;have I:Inv (jr M P w K J h N d a f z A outer s H E) [] (start N j) H s1:=wo S X.hd D hl r x;refine YJ (ht [] s1 (start N j) H _ I hq) (λfl R B=>?_) λe R B=>B;have fin:∀{L:St}{p:Hp}{v:V}{u:Value},Inv (jr M P w K J h N d a f z A outer s H E) [] L p R->RelV v u->Q v p->CE outer P w H s Q u R :=
  λ{L p v u} m U q=>⟨v,p,m.os,m.bare,m.base,m.GL,U,q⟩
 cases fl with
 |ret u =>
  obtain⟨v,L,p,m,U,q⟩:=B;exact fin m U q
 |next =>
  obtain⟨L,p,m,q⟩:=B;exact fin (v:=V.non) (u:=Value.none) m rfl q
 |brk =>
  obtain⟨_,_,_,q⟩:=B;exact False.elim q
 |cont =>
  obtain⟨_,_,_,q⟩:=B;exact False.elim q
section
variable{X:Cx}{x:Str}{p pos:Pos}{e:Expr}{es:List Expr}{t:TA}{id T:String}{r:List V->Hp->VK->Prop}
noncomputable def SM(r:List V->Hp->VK->Prop)(t:TA):TE:=λO H Q=>t O H λa b=>r a b Q
def qI(n:dI X (.builtin id) r)(l:Gl X x)(j:X.mg x=none)(g:bootBuiltins x=some (.builtin id))(o:PA X (e :: es) t)(i:x ≠ "__name__" := by decide)(u:K3 x:=by decide)(m:K1 e es X:=by rfl)(a:K2 pos es X:=by rfl):PE X (.Call (.Name x p) (e :: es) [] pos) (SM r t):=by
 intro pins s O H Q I h;refine X1 (k8 I l j g ?_ i u);exact PyProof.Rows.callWith_builtin1 (thn (o pos pins s O H _ I h) λd s1 ⟨b,v,q,r1,f⟩=>n pins s1 O v b d Q q r1 f) m a
def v7(n:dI X (.type T) r)(l:Gl X x)(j:X.mg x=none)(g:bootBuiltins x=some (.type T))(o:PA X (e :: es) t)(i:x ≠ "__name__" := by decide)(u:K3 x:=by decide)(m:K1 e es X:=by rfl)(a:K2 pos es X:=by rfl):PE X (.Call (.Name x p) (e :: es) [] pos) (SM r t):=by
 intro pins s O H Q I h;refine X1 (k8 I l j g ?_ i u);exact Xv (thn (o pos pins s O H _ I h) λd s1 ⟨b,v,q,r1,f⟩=>n pins s1 O v b d Q q r1 f) m a
end
end L2
namespace HT
open PySem PyProof.Rows
section
variable{prog:Program}{w:World}{A:Around}{E:GS}{s:Shared}
noncomputable def Ht(n d:Nat):Option Int->Nat
 |none=>d
 |some v=>if v<0 then (v+(n:Int)).toNat else min v.toNat n
end
end HT
namespace L2
open PySem PySem.Spec PyProof.Rows
noncomputable abbrev TO:=St->Hp->(Option Int->Hp->Prop)->Prop
noncomputable def PO(X:Cx)(e:Option Expr)(t:TO):Prop :=
 ∀(pins:Yy)(s:Shared)(O:St)(H:Hp)(Q:Option Int->Hp->Prop),Inv X pins O H s->t O H Q →
  wpAny (model X.prog X.w) X.A (evalPart e X.env) (λu b=>∃o a,Inv X pins O a b/\IsPart u o/\Q o a) X.xe s
noncomputable def Bd:TO:=λ_ H Q=>Q none H
noncomputable def Em(t:TE):TO:=λO H Q=>t O H λx a=>∃i,x=.int i/\Q (some i) a
section
variable{X:Cx}{e:Expr}{te:TE}{lo hi:Option Expr}{tl th:TO}{pos p2:Pos}
def uQ:PO X none Bd:=by
 intro pins s O H Q I h;rw[evalPart_none];exact ZZ ⟨none,H,I,.none,h⟩
def uA(h:PE X e te):PO X (some e) (Em te):=by
 intro pins s O H Q I hw;rw[evalPart_some];refine thn (h pins s O H _ I hw) λu s1 ⟨x,d,b,r1,a⟩=>?_;obtain⟨i,rfl,q⟩:=a;obtain⟨t,rfl⟩:=r1;exact⟨some i,d,b,.int i t,q⟩
noncomputable def Mp(X:Cx)(r:V->Option Int->Option Int->Hp->VK->Prop):Prop :=
 ∀(pins:Yy)(s:Shared)(O:St)(H:Hp)(x:V)(v b a:Value)(lo hi:Option Int)(d:Addr)(Q:VK),Inv X pins O H s->RelV x v->s.heap.IsSliceOf d b a .none->IsPart b lo->IsPart a hi->r x lo hi H Q →
  ∃T id,typeLookup (.type T) "__getitem__" = pure (some (.builtin id))/\s.TypeIs v T/\wpAny (model X.prog X.w) X.A (getItem v (.ref d)) (EP X pins O Q) X.xe s
def Mp.or{r g:V->Option Int->Option Int->Hp->VK->Prop}(h:Mp X r)(l:Mp X g):Mp X (λx lo hi H Q=>r x lo hi H Q\/g x lo hi H Q):=by
 intro pins s O H x v b a lo hi d Q I f j i pu q;rcases q with q | q
 ·exact h pins s O H x v b a lo hi d Q I f j i pu q
 ·exact l pins s O H x v b a lo hi d Q I f j i pu q
noncomputable def UR(r:V->Option Int->Option Int->Hp->VK->Prop)(d:TE)(a b:TO):TE:=λO H Q=>d O H λx h=>a O h λl g=>b O g λu f=>r x l u f Q
def rP{r:V->Option Int->Option Int->Hp->VK->Prop}(y:Mp X r)(B:PE X e te)(z:PO X lo tl)(p:PO X hi th):PE X (.Subscript e (.Slice lo hi none p2) pos) (UR r te tl th):=by
 intro pins s O H Q I h;refine Subscript_ (thn (B pins s O H _ I h) λv s1 ⟨x,L,G,r1,n⟩=>?_);refine wpAny_Slice (thn (z pins s1 O L _ G n) λf i ⟨l,J,F,o,m⟩=>thn (p pins i O J _ F m) λd a ⟨u,g,E,pu,j⟩=>?_);rw[evalPart_none];refine ZZ ?_;have D:Inv X pins O g { a with heap:=a.heap.push { cls:=.type "slice",data:=.fields #[f,d,.none] } }:=E.kept (t':=a.toks) λb M q=>Zi _ q;obtain⟨T,id,C,t,hg⟩:=y pins { a with heap:=a.heap.push { cls:=.type "slice",data:=.fields #[f,d,.none] } } O g x v f d l u a.heap.objs.size Q D r1 (Heap.IsSliceOf.new ..) o pu j;show wpAny (model X.prog X.w) X.A (subscriptTail e (.Slice lo hi none p2) v (.ref a.heap.objs.size)) (EP X pins O Q) X.xe { a with heap:=a.heap.push { cls:=.type "slice",data:=.fields #[f,d,.none] } };exact tail_any (ops:=[.ref a.heap.objs.size,v]) t C hg (by with_unfolding_all rfl)
noncomputable def wx(a:List V)(b d:Option Int):List V:=(a.drop (HT.Ht a.length 0 b)).take (HT.Ht a.length a.length d-HT.Ht a.length 0 b)
def qJ(a:List V)(b d:Option Int):(wx a b d).length<=a.length:=by
 unfold wx;rw[YX,Yh];lia
end
noncomputable def MK(n:Nat)(i:Int):Option Nat:=if 0<=i then (if i<n then some i.toNat else none) else if -(n:Int)<=i then some (i+n).toNat else none
noncomputable def Nd{α:Type}(a:List α)(i:Int):Option α:=(MK a.length i).bind λj=>a[j]?
def ui{n:Nat}{i:Int}{j:Nat}(h:MK n i=some j):seqIndex? i n=some j/\j<n/\-(n:Int)<=i/\i<n:=by
 unfold MK at h;by_cases b:0<=i
 ·rw[Zq b]at h;by_cases a:i<n
  ·rw[Zq a]at h;have e:i.toNat=j:=Zm h;exact⟨by rw[seqIndex_of b a,e],by lia,by lia,a⟩
  ·rw[Zp a]at h;cases h
 ·rw[Zp b]at h;by_cases a:-(n:Int)<=i
  ·rw[Zq a]at h;have e:(i+n).toNat=j:=Zm h;exact⟨by rw[seqIndex_neg (by lia) a,e],by lia,a,by lia⟩
  ·rw[Zp a]at h;cases h
def qd{α:Type}{a:List α}{i:Int}{v:α}(h:Nd a i=some v):∃j,seqIndex? i a.length=some j/\a[j]?=some v/\j<a.length/\-(a.length:Int)<=i/\i<a.length:=by
 unfold Nd at h;cases e:MK a.length i with
 |none=>rw[e]at h;cases h
 |some j =>
  rw[e]at h;obtain⟨g,f,d,b⟩:=ui e;exact⟨j,g,h,f,d,b⟩
noncomputable def fM(b:Expr):Prop:=∀o i,subscripted b false o i=operate [o,i] (getItem o i)
noncomputable def Ih(X:Cx)(r:R2):Prop :=
 ∀(value slice:Expr)(pins:Yy)(s:Shared)(O:St)(H:Hp)(x y:V)(v u:Value)(Q:VK),Inv X pins O H s->RelV x v->RelV y u->r x y H Q →
  subscripted slice false v u=operate [v,u] (getItem v u)->wpAny (model X.prog X.w) X.A (subscriptTail value slice v u) (EP X pins O Q) X.xe s
noncomputable def Nz(X:Cx)(d:String)(r:V->List V->Hp->VK->Prop):Prop :=
 ∀(pins:Yy)(s:Shared)(O:St)(H:Hp)(x:V)(a:List V)(v:Value)(b:Xg)(Q:VK),Inv X pins O H s->RelV x v->aT a b->r x a H Q →
  wpAny (model X.prog X.w) X.A (call (.builtin d) (v :: b)) (EP X pins O Q) X.xe s
section
variable{X:Cx}{a b:Expr}{ta tb:TE}{pos:Pos}
def Ih.or{r f:R2}(h:Ih X r)(i:Ih X f):Ih X (λx y H Q=>r x y H Q\/f x y H Q):=by
 intro value slice pins s O H x y v u Q I e d q g;rcases q with q | q
 ·exact h value slice pins s O H x y v u Q I e d q g
 ·exact i value slice pins s O H x y v u Q I e d q g
def lF{r:R2}(i:Ih X r)(l:PE X a ta)(j:PE X b tb)(g:fM b):PE X (.Subscript a b pos) (NN r ta tb):=by
 intro pins s O H Q I h;exact Subscript_ (Fh l j I h λv u d x y n m f e q=>i a b pins d O n x y v u Q m f e q (g _ _))
noncomputable def Fl(K:Y2):R2:=λx y H Q=>∃p d i v,x=.ref p/\y=.int i/\GY K H p d/\Nd d i=some v/\Q v H
noncomputable def FJ(K:Y2):R2:=λx y H Q=>∃p d i v,x=.ref p/\y=.int i/\HD K H p d/\Nd d i=some v/\Q v H
noncomputable def FE:R2:=λx y H Q=>∃z i c,x=.str z/\y=.int i/\z.length<=sizeLine/\Nd z.cps.toList i=some c/\Q (.str ⟨#[c]⟩) H
def vi:Ih X (Fl X.K):=by
 intro value slice pins s O H x y v u Q I A o h g;obtain⟨p,M,i,z,rfl,rfl,B,D,q⟩:=h;cases A;obtain⟨t,rfl⟩:=o;obtain⟨L,r,e,N⟩:=I.list B;obtain⟨j,d,G,R,F,E⟩:=qd D;obtain⟨w,m,J⟩:=r.get G;have C:=r.length;have P:=ly;have fin:EP X pins O Q w s:=⟨z,H,I,J,q⟩
 by_cases l:0<=i
 ·have f:i.toNat=j:=by
   rw[seqIndex_of l E]at d;exact Zm d
  exact item_listR e.isList l (by lia) (by rw[f];simpa using m) fin g
 ·have f:(i+(L.toArray.size:Int)).toNat=j:=by
   rw[seqIndex_neg (by lia) F]at d;rw[ZS,← C];exact Zm d
  exact subscriptTail_builtinR (x:=w) e.isList.typeIs slot_list_getitem.lookup
   (wpAny_getItem_list_neg (Q:=λr n=>r=w/\EP X pins O Q r n) e.isList (by lia) (by rw[ZS]<;>lia) (by lia) (by rw[f];simpa using m) ⟨rfl,fin⟩) g
def Cy:Ih X (FJ X.K):=by
 intro value slice pins s O H x y v u Q I g f h l;obtain⟨p,E,i,z,rfl,rfl,m,o,q⟩:=h;cases g;obtain⟨t,rfl⟩:=f;obtain⟨N,r,d,F⟩:=I.tuple m;obtain⟨j,B,A,M,L,J⟩:=qd o;obtain⟨w,C,D⟩:=r.get A;have n:=r.length;have G:=ly;have fin:EP X pins O Q w s:=⟨z,H,I,D,q⟩
 exact subscriptTail_builtinR (x:=w) d.typeIs slot_tuple_getitem.lookup
  (getItem_tuple (j:=j) (Q:=λr e=>r=w/\EP X pins O Q r e) d (by lia) (by lia) (by rw[ZS,← n];exact B) (by simpa using C) ⟨rfl,fin⟩) l
def Da:Ih X FE:=by
 intro value slice pins s O H x y v u Q I f e h g;obtain⟨z,i,c,rfl,rfl,w,m,q⟩:=h;obtain⟨t,rfl⟩:=f;obtain⟨r,rfl⟩:=e;obtain⟨j,d,p,B,o,n⟩:=qd m;have l:z.cps.toList.length=z.length:=by simp[Str.length]
 rw[l]at d o n;have A:=ly;exact tail_any (typeIs_str s z t) slot_str_getitem.lookup (getItem_str (c:=c) (by
  have e1:decide (i < -(2 ^ 63:Int))=false:=Zc (by lia);have e2:decide (i ≥ 2 ^ 63)=false:=Zc (by lia);rw[e1,e2,Bool.or_false]) (by rw[d];simpa using p) ⟨.str ⟨#[c]⟩,H,I.tok _,⟨_,rfl⟩,q⟩) g
noncomputable def Qy(K:Y2):R2:=λx y H Q=>Fl K x y H Q\/FJ K x y H Q\/FE x y H Q
def jU:Ih X (Qy X.K):=vi.or (Cy.or Da)
def t9(d:Xg)(n j:Nat)(u:Value):Obj.mapSeq (·.setIfInBounds j u) { cls:=.type "list",data:=.seq d.toArray n }={ cls:=.type "list",data:=.seq (d.set j u).toArray n }:=by
 simp[Obj.mapSeq]
theorem Inv.lst{d:Yy}{O:St}{H:Hp}{s:Shared}{p:Addr}{g:List V}(I:Inv X d O H s)(h:H p=some (.lst g)) :
  ∃(f:Xg)(n:Nat),aT g f/\s.heap.get? p=some { cls:=.type "list",data:=.seq f.toArray n }/\g.length<=sizeLine:=by
 obtain⟨z,f,n,r,e⟩:=I.GL p _ h;exact⟨f,n,r,e,z⟩
def Inv.MF{g:Yy}{O:St}{H:Hp}{s:Shared}{p:Addr}{o i:List V}{m d:Xg}{n j:Nat}{f:Obj->Obj}(I:Inv X g O H s)(h:H p=some (.lst o))(w:s.heap.get? p=some { cls:=.type "list",data:=.seq m.toArray n })(l:f { cls:=.type "list",data:=.seq m.toArray n }={ cls:=.type "list",data:=.seq d.toArray j })(r:aT i d)(v:i.length<=sizeLine)(t:Nat) :
  Inv X g O (upd H p (.lst i)) { s with heap:=s.heap.update p f,toks:=t }:=by
 have e:(s.heap.update p f).get? p=some { cls:=.type "list",data:=.seq d.toArray j }:=by
  rw[XD f w (by rw[l]<;>rfl),l]
 refine I.write (x:=p) (e:=p) (by rw[h];trivial) (.inl rfl) (λb u hb q=>(YO _ _ (Yq hb)).trans q) ⟨_,e⟩ ?_;exact⟨v,d,j,r,e⟩
noncomputable def B7:V->V->V->Hp->(Hp->Prop)->Prop:=λo i v H Q=>∃p d k j,o=.ref p/\i=.int k/\H p=some (.lst d)/\MK d.length k=some j/\Q (upd H p (.lst (d.set j v)))
def set_list:Du X B7:=by
 intro pins s O H o i v G iv u Q I C D B h;obtain⟨p,A,k,j,rfl,rfl,l,F,q⟩:=h;cases C;obtain⟨t,rfl⟩:=D;obtain⟨z,n,r,e,E⟩:=I.lst l;obtain⟨d,L,w,m⟩:=ui F;have f:=r.length;have J:=ly;have y:Inv X pins O (upd H p (.lst (A.set j v))) { s with heap:=s.heap.update p (Obj.mapSeq (·.setIfInBounds j u)) } :=
  I.MF l e (t9 z n j u) (r.set B j) (by rw[Jt];exact E) s.toks
 by_cases x:0<=k
 ·have g:k.toNat=j:=by
   rw[seqIndex_of x m]at d;exact Zm d
  exact PySem.W.ki_setAt e x (by lia) (by rw[ZS,← f];exact m) (by rw[g];exact⟨_,y,q⟩)
 ·have g:(k+(z.toArray.size:Int)).toNat=j:=by
   rw[seqIndex_neg (by lia) w]at d;rw[ZS,← f];exact Zm d
  exact PySem.W.ki_setBack e (by lia) (by rw[ZS,← f];exact w) (by lia) (by rw[g];exact⟨_,y,q⟩)
def pH(d e:Option Int)(n:Nat):(sliceBounds d e none n).1=((HT.Ht n 0 d:Nat):Int)/\(sliceBounds d e none n).2.1=((HT.Ht n n e:Nat):Int)/\(sliceBounds d e none n).2.2=1:=by
 refine⟨?_,?_,rfl⟩
 ·cases d with
  |none=>simp[sliceBounds,HT.Ht]
  |some i =>
   simp only[sliceBounds,HT.Ht,Option.getD_none,show (1:Int) > 0 by decide,if_true];by_cases h:i<0
   ·simp only[h,if_true]<;>lia
   ·simp only[h,if_false]<;>lia
 ·cases e with
  |none=>simp[sliceBounds,HT.Ht]
  |some i =>
   simp only[sliceBounds,HT.Ht,Option.getD_none,show (1:Int) > 0 by decide,if_true];by_cases h:i<0
   ·simp only[h,if_true]<;>lia
   ·simp only[h,if_false]<;>lia
def nZ(d:Xg)(e f:Option Int):slicePick d.toArray e f none=((d.drop (HT.Ht d.length 0 e)).take (HT.Ht d.length d.length f-HT.Ht d.length 0 e)).toArray:=by
 obtain⟨i,h,g⟩:=pH e f d.toArray.size;unfold slicePick;rw[i,h,g];simp only[sliceRange_one,pick_run,ZS]<;>rfl
noncomputable def EY(K:Y2):V->Option Int->Option Int->Hp->VK->Prop:=λx lo e H Q=>∃a d,x=.ref a/\GY K H a d/\∀p,H p=none->Q (.ref p) (upd H p (.lst (wx d lo e)))
def AR:Mp X (EY X.K):=by
 intro pins s O H x v p n lo e t Q I g m i pu h;obtain⟨a,d,rfl,l,q⟩:=h;cases g;obtain⟨w,r,f,j⟩:=I.list l;have hlen:=r.length;refine⟨"list",_,slot_list_getitem.lookup,f.isList.typeIs,?_⟩;refine wpAny_getItem_list_slice f.isList m i pu .none (by simp) ?_ (by rw[ZS]<;>lia);rw[nZ,← hlen];refine⟨.ref s.heap.objs.size,_,I.laid (t':=s.toks) (o:=.lst (wx d lo e)) (λb u q=>Zi _ q) (Zh _) ?_,rfl,q _ (I.GL.fresh (Zh _))⟩;exact⟨ZI (qJ d lo e) j,_,0,(r.drop (HT.Ht d.length 0 lo)).take (HT.Ht d.length d.length e-HT.Ht d.length 0 lo),ZQ _ rfl⟩
noncomputable def fE:V->Bool
 |.non=>true
 |.bl _=>true
 |.int _=>true
 |.str _=>true
 |_=>false
noncomputable def Ll:V->V->Bool
 |.non,.non=>true
 |.bl a,.bl b=>a==b
 |.bl a,.int b=>(if a then 1 else 0)==b
 |.int a,.bl b=>a==(if b then 1 else 0)
 |.int a,.int b=>a==b
 |.str a,.str b=>a==b
 |_,_=>false
def C1{A:Around}{s:Shared}{y x:V}{u v:Value}(f:RelV y u)(d:RelV x v)(h:fE y=true)(g:fE x=true):SeqAt.EqAt A s u v (Ll y x):=by
 cases y with
 |non =>
  cases f;cases x with
  |non=>cases d;exact SeqAt.EqAt.same _
  |bl b=>cases d;exact SeqAt.EqAt.none_bool b
  |int b=>obtain⟨t,rfl⟩:=d;exact SeqAt.EqAt.none_int b t
  |str b=>obtain⟨t,rfl⟩:=d;exact SeqAt.EqAt.none_str b t
  |_=>exact absurd (show false=true from g) ZX
 |bl a =>
  cases f;cases x with
  |non=>cases d;exact SeqAt.EqAt.bool_none a
  |bl b=>cases d;exact SeqAt.EqAt.bool_bool a b
  |int b=>obtain⟨t,rfl⟩:=d;exact SeqAt.EqAt.bool_int a b t
  |str b=>obtain⟨t,rfl⟩:=d;exact SeqAt.EqAt.bool_str a b t
  |_=>exact absurd (show false=true from g) ZX
 |int a =>
  obtain⟨e,rfl⟩:=f;cases x with
  |non=>cases d;exact SeqAt.EqAt.int_none a e
  |bl b=>cases d;exact SeqAt.EqAt.int_bool a e b
  |int b=>obtain⟨t,rfl⟩:=d;exact SeqAt.EqAt.int_int a e b t
  |str b=>obtain⟨t,rfl⟩:=d;exact SeqAt.EqAt.int_str a e b t
  |_=>exact absurd (show false=true from g) ZX
 |str a =>
  obtain⟨e,rfl⟩:=f;cases x with
  |non=>cases d;exact SeqAt.EqAt.str_none a e
  |bl b=>cases d;exact SeqAt.EqAt.str_bool a e b
  |int b=>obtain⟨t,rfl⟩:=d;exact SeqAt.EqAt.str_int a e b t
  |str b=>obtain⟨t,rfl⟩:=d;exact SeqAt.EqAt.str_str a e b t
  |_=>exact absurd (show false=true from g) ZX
 |_=>exact absurd (show false=true from h) ZX
noncomputable def JQ(x:V)(u:Value):Bool:=match u with
 |.none=>Ll .non x
 |.bool b=>Ll (.bl b) x
 |.int i _=>Ll (.int i) x
 |.str z _=>Ll (.str z) x
 |_=>false
def xj{x y:V}{u:Value}(r:RelV y u)(f:fE y=true):JQ x u=Ll y x:=by
 cases y with
 |non=>cases r;rfl
 |bl b=>cases r;rfl
 |int i=>obtain⟨t,rfl⟩:=r;rfl
 |str z=>obtain⟨t,rfl⟩:=r;rfl
 |_=>exact absurd (show false=true from f) ZX
theorem kf{x:V}:∀{d:List V}{e:Xg},aT d e->d.all fE=true->e.any (JQ x)=d.any λy=>Ll y x
 |_,_,.nil,_=>rfl
 |y :: d,u :: e,.cons r t,f=>by
  rw[Y0,Zd]at f;rw[YU,YU,xj r f.1,kf t f.2]
theorem iZ{A:Around}{s:Shared}{x:V}{v:Value}(h:RelV x v)(i:fE x=true):∀{e:List V}{g:Xg},aT e g->e.all fE=true->∀u∈g,SeqAt.EqAt A s u v (JQ x u)
 |_,_,.nil,_=>λu d=>by cases d
 |y :: e,u :: g,.cons r t,f=>λj d=>by
  rw[Y0,Zd]at f;rcases Zo.mp d with rfl | d
  ·rw[xj r f.1];exact C1 r h f.1 i
  ·exact iZ h i t f.2 j d
noncomputable def Oc(x:V)(d:List V):Bool:=d.any λy=>Ll y x
noncomputable def Po(K:Y2)(e:Bool):R2:=λx y H Q=>∃p d,y=.ref p/\(GY K H p d\/HD K H p d)/\fE x=true/\d.all fE=true/\Q (.bl (if e then !Oc x d else Oc x d)) H
def vG:OpR X (compareOp .In) (Po X.K false):=by
 intro pins s O H x y v u Q I g j h;obtain⟨p,m,rfl,d,i,fs,q⟩:=h;cases j;rcases d with d | d
 ·obtain⟨e,r,f,l⟩:=I.list d;refine SeqAt.in_listAt (JQ x) f.isList (λw hw=>iZ g i r fs w (by simpa using hw)) ⟨.bl _,H,I,rfl,?_⟩;rw[show e.toArray.any (JQ x)=e.any (JQ x) by simp,kf r fs];exact q
 ·obtain⟨e,r,f,l⟩:=I.tuple d;refine SeqAt.in_tupleAt (JQ x) f (λw hw=>iZ g i r fs w (by simpa using hw)) ⟨.bl _,H,I,rfl,?_⟩;rw[show e.toArray.any (JQ x)=e.any (JQ x) by simp,kf r fs];exact q
def p5:OpR X (compareOp .NotIn) (Po X.K true):=by
 intro pins s O H x y v u Q I g j h;obtain⟨p,m,rfl,d,i,fs,q⟩:=h;cases j;rcases d with d | d
 ·obtain⟨e,r,f,l⟩:=I.list d;refine SeqAt.notIn_listAt (JQ x) f.isList (λw hw=>iZ g i r fs w (by simpa using hw)) ⟨.bl _,H,I,rfl,?_⟩;rw[show e.toArray.any (JQ x)=e.any (JQ x) by simp,kf r fs];exact q
 ·obtain⟨e,r,f,l⟩:=I.tuple d;refine SeqAt.notIn_tupleAt (JQ x) f (λw hw=>iZ g i r fs w (by simpa using hw)) ⟨.bl _,H,I,rfl,?_⟩;rw[show e.toArray.any (JQ x)=e.any (JQ x) by simp,kf r fs];exact q
def dI.or{f:Value}{r i:List V->Hp->VK->Prop}(h:dI X f r)(j:dI X f i):dI X f (λd H Q=>r d H Q\/i d H Q):=by
 intro pins s O H d e Q I g q;rcases q with q | q
 ·exact h pins s O H d e Q I g q
 ·exact j pins s O H d e Q I g q
def p6:dI X (.type "list") (λz H Q=>∃p g,z=[.ref p]/\(GY X.K H p g\/HD X.K H p g)/\∀l,H l=none->Q (.ref l) (upd H l (.lst g))):=by
 intro pins s O H z C Q I r h;obtain⟨p,g,rfl,t,q⟩:=h;obtain⟨u,rfl,B⟩:=vals1 r;cases B;have fin:∀(f:Xg),aT g f->g.length<=sizeLine->∀(d:Heap)(j:Nat),(∀b A,s.heap.get? b=some A->d.get? b=some A) →
   d.get? s.heap.objs.size=some { cls:=.type "list",dict:=none,data:=.seq f.toArray j,slots:=#[] }->EP X pins O Q (.ref s.heap.objs.size) { s with heap:=d }:=λf i m d j kp e =>
  ⟨.ref s.heap.objs.size,_,I.laid (t':=s.toks) kp (Zh _) (show br X.prog X.w _ d _ (.lst g) from⟨m,f,j,i,e⟩),rfl,q _ (I.GL.fresh (Zh _))⟩
 rcases t with t | t
 ·obtain⟨f,i,v,m⟩:=I.list t;have hlen:=i.length;obtain⟨o,x,y,n,hd⟩:=v.isList;exact call_list_seq p (.inl rfl) x y hd (λd j kp e=>fin f i m d j kp e) (by simp only[ZS]<;>lia)
 ·obtain⟨f,i,v,m⟩:=I.tuple t;have hlen:=i.length;obtain⟨o,x,y,n,hd⟩:=v;exact call_list_seq p (.inr rfl) x y hd (λd j kp e=>fin f i m d j kp e) (by simp only[ZS]<;>lia)
def oh:dI X (.type "tuple") (λn H Q=>∃p d,n=[.ref p]/\((GY X.K H p d/\∀l,H l=none->Q (.ref l) (upd H l (.tup d)))\/(HD X.K H p d/\Q (.ref p) H))):=by
 intro pins s O H n z Q I r h;obtain⟨p,d,rfl,h⟩:=h;obtain⟨u,rfl,x⟩:=vals1 r;cases x;rcases h with⟨j,q⟩ | ⟨j,q⟩
 ·obtain⟨m,g,i,t⟩:=I.list j;have hlen:=g.length;refine call_tuple_list i.isList (λf kp=>?_) (by simp only[ZS]<;>lia);have v:Inv X pins O H { s with heap:=f }:=I.kept (t':=s.toks) kp;have y:Inv X pins O (upd H f.objs.size (.tup d)) { s with heap:=f.push { cls:=.type "tuple",data:=.seq m.toArray } } :=
   v.laid (t':=s.toks) (λb o e=>Zi _ e) (Zh _) (show br X.prog X.w _ _ _ (.tup d) from⟨t,m,g,LV.new _ _,IsTup.new _ _⟩)
  exact⟨.ref f.objs.size,_,y,rfl,q _ (v.GL.fresh (Zh _))⟩
 ·obtain⟨m,g,i,t⟩:=I.tuple j;exact call_tuple_same i ⟨.ref p,H,I,rfl,q⟩
noncomputable def tyV(K:Y2)(T:String)(x:V)(H:Hp):Prop:=match x with
 |.str _=>T = "str"
 |.int _=>T = "int"
 |.ref p=>(T = "list" ∧ ∃e,GY K H p e)\/(T = "tuple" ∧ ∃o,K.lookup p=some o/\o.cls=.type "tuple" ∧ o.dict=none) ∨
   (T = "dict" ∧ ((∃d,H p=some (.dK d))\/∃d,H p=some (.dT d)))\/(T = "set" ∧ ∃S n,H p=some (.set S n))
 |_=>False
def DM{f:Yy}{O:St}{H:Hp}{s:Shared}{T:String}{x:V}{v:Value}(I:Inv X f O H s)(r:RelV x v)(g:tyV X.K T x H) :
  s.TypeIs v T/\∀a,v=.ref a->∃j,s.heap.get? a=some j/\j.dict=none:=by
 cases x with
 |str z =>
  obtain⟨t,rfl⟩:=r;cases (show T = "str" from g);exact⟨typeIs_str s z t,λ_ e=>nomatch e⟩
 |int i =>
  obtain⟨t,rfl⟩:=r;cases (show T = "int" from g);exact⟨typeIs_int s i t,λ_ e=>nomatch e⟩
 |ref p =>
  cases r;rcases g with⟨rfl,u,l⟩ | ⟨rfl,o,d,m,hd⟩ | ⟨rfl,d⟩ | ⟨rfl,S,n,d⟩
  ·obtain⟨w,_,h,_⟩:=I.list l;refine⟨h.isList.typeIs,λa e=>?_⟩;cases e;obtain⟨o,n,e,c,hd,_⟩:=h;exact⟨o,e,hd⟩
  ·refine⟨⟨o,I.HY p o d,m⟩,λa e=>?_⟩;cases e;exact⟨o,I.HY _ o d,hd⟩
  ·have z:∃o,s.heap.get? p=some o/\o.ExactDict:=by
    rcases d with⟨q,d⟩ | ⟨q,d⟩
    ·obtain⟨_,_,_,_,o,_,_,e,ex,_⟩:=I.GL p _ d;exact⟨o,e,ex⟩
    ·obtain⟨_,_,_,_,o,_,_,e,ex,_⟩:=I.GL p _ d;exact⟨o,e,ex⟩
   obtain⟨o,e,ex⟩:=z;refine⟨⟨o,e,ex.1⟩,λa e2=>?_⟩;cases e2;exact⟨o,e,ex.2.1⟩
  ·obtain⟨o,_,_,_,e,ex,_⟩:=I.GL p _ d;refine⟨⟨o,e,ex.1⟩,λa e2=>?_⟩;cases e2;exact⟨o,e,ex.2.1⟩
 |_=>exact False.elim g
noncomputable def UW(K:Y2)(T:String)(r:V->List V->Hp->VK->Prop)(f:TE)(t:TA):TE:=λO H Q=>f O H λx d=>tyV K T x d/\t O d λe g=>r x e g Q
variable{o e:Expr}{es:List Expr}{to:TE}{t:TA}{name:Str}{apos pe:Pos}{T id:String}{r:V->List V->Hp->VK->Prop}
def lJ(p:PlainAttrs T)(d:Slot T name id)(B:typeOf (.builtin id)=pure (.type "method_descriptor"))(w:Nz X id r)(u:PE X o to)(y:PA X (e :: es) t)(L:attributeBase o name X.env (eval o X.env)=eval o X.env:=by rfl)(D:((backTo pe (starEach (e :: es) X.env)).all (λx=>!x.1)&&(backToKw pe (keywordEach [] X.env)).all (λx=>x.1.isSome)
   && decide ((e :: es).length+([]:List Keyword).length+(if ([]:List Keyword).isEmpty then 0 else 1)<30))=true:=by rfl)(G:(apos.endLine==pe.line)=true:=by rfl)(q:K1 e es X:=by rfl)(J:K2 pe es X:=by rfl) :
  PE X (.Call (.Attribute o name apos) (e :: es) [] pe) (UW X.K T r to t):=by
 intro pins s O H Q I h;refine wpAny_Call_method_late L D G rfl (thn (u pins s O H _ I h) λv s1 ⟨x,F,g,r1,ty,n⟩=>?_);obtain⟨A,z⟩:=DM g r1 ty;refine⟨T,id,p,d,B,A,z,?_⟩;have f:=y pe pins s1 O F _ g n;rw[q]at f ⊢;refine Calls.callWith_builtin (by show (false||(backTo pe (starEach es X.env)).any (·.1))=false;rw[J]<;>rfl) (Calls.evalArgs_plain ?_);exact thn f λj l ⟨i,E,C,r2,m⟩=>w pins l O E x i v j Q C r1 r2 m
end
noncomputable def MtM(X:Cx)(d:String)(r:V->List V->Hp->VK->Prop):Prop :=
 ∀(pins:Yy)(s:Shared)(O:St)(H:Hp)(x:V)(a:List V)(v:Value)(b:Xg)(Q:VK),Inv X pins O H s->RelV x v->aT a b->r x a H Q →
  wpAny (model X.prog X.w) X.A (call (.builtin d) (v :: b)) (EP X pins O Q) X.xe s
def aT.nil_inv{a:Xg}(h:aT [] a):a=[]:=by
 cases h;rfl
def aT.cons_inv{x:V}{a:List V}{d:Xg}(h:aT (x :: a) d):∃u b,d=u :: b/\RelV x u/\aT a b:=by
 cases h with
 |cons r t=>exact⟨_,_,rfl,r,t⟩
def aT.one{x:V}{a:Xg}(h:aT [x] a):∃u,a=[u]/\RelV x u:=by
 obtain⟨u,vs,rfl,r,t⟩:=h.cons_inv;rw[t.nil_inv];exact⟨_,rfl,r⟩
def aT.two{x y:V}{a:Xg}(h:aT [x,y] a):∃u v,a=[u,v]/\RelV x u/\RelV y v:=by
 obtain⟨u,b,rfl,r,t⟩:=h.cons_inv;obtain⟨v,rfl,q⟩:=t.one;exact⟨_,_,rfl,r,q⟩
section
variable{X:Cx}{pins:Yy}{O:St}{H:Hp}{s:Shared}{l b:Addr}{xs ys zs:List V}
def Inv.QT{a its':Xg}{n:Nat}{f:Array Value->Array Value}{d:Nat}(I:Inv X pins O H s)(m:H l=some (.lst xs))(e:s.heap.get? l=some { cls:=.type "list",data:=.seq a.toArray n })(j:f a.toArray=its'.toArray)(h:aT ys its')(g:ys.length<=sizeLine) :
  Inv X pins O (upd H l (.lst ys)) { s with heap:=s.heap.update l (Obj.mapSeq f),toks:=d }:=by
 have q:=PySem.IsL.update e f;rw[j]at q;refine I.write (x:=l) (e:=l) (by rw[m];exact trivial) (.inl rfl) (λo u hb i=>(YO s.heap (Obj.mapSeq f) (Yq hb)).trans i) ⟨_,q⟩ ?_;exact⟨g,its',_,h,q⟩
def Inv.QU{a:Xg}{t':Nat}(I:Inv X pins O H s)(e:aT ys a)(d:ys.length<=sizeLine) :
  Inv X pins O (upd H s.heap.objs.size (.lst ys)) { s with heap:=s.heap.push { cls:=.type "list",data:=.seq a.toArray },toks:=t' } :=
 I.laid (λ_ _ q=>Zi _ q) (Zh _) ⟨d,a,0,e,ZQ _ rfl⟩
theorem Inv.fresh(I:Inv X pins O H s):H s.heap.objs.size=none:=I.GL.fresh (Zh _)
def Inv.MG(I:Inv X pins O H s)(d:H l=some (.lst xs)):xs.length<=sizeLine/\∃(a:Xg)(n:Nat),aT xs a/\xs.length=a.length/\s.heap.get? l=some { cls:=.type "list",data:=.seq a.toArray n }:=by
 obtain⟨z,a,n,r,e⟩:=I.GL l _ d;exact⟨z,a,n,r,r.length,e⟩
end
section
variable{X:Cx}
noncomputable def pJ:V->List V->Hp->VK->Prop:=λx b H Q=>∃l a y,x=.ref l/\b=[y]/\H l=some (.lst a)/\a.length<sizeLine/\Q .non (upd H l (.lst (a++[y])))
def fQ:MtM X "list.append" pJ:=by
 intro pins s O H x m v o Q I d f h;obtain⟨l,j,y,rfl,rfl,a,i,q⟩:=h;cases d;obtain⟨u,rfl,g⟩:=f.one;obtain⟨z,b,n,r,p,e⟩:=I.MG a;refine call_meets F.slot_list_append ⟨_,e,rfl⟩ F.entry_list_append (F.args_list_append_2 _ _) (PySem.list_append l b.toArray n u (by rw[ZS];lia)) ⟨e,?_⟩;refine⟨.non,_,I.QT (its':=b++[u]) a e (by simp) (r.append (.cons g .nil)) ?_,rfl,q⟩;rw[Zs,ZL];exact Nat.succ_le_of_lt i
noncomputable def Er:R2:=λx y H Q=>∃l b d a,x=.ref l/\y=.ref b/\H l=some (.lst d)/\H b=some (.lst a)/\d.length+a.length<=sizeLine/\∀p,H p=none->Q (.ref p) (upd H p (.lst (d++a)))
def CP:OpR X (binaryOp .Add) Er:=by
 intro pins s O H x y v u Q I g f h;obtain⟨l,b,t,o,rfl,rfl,i,j,A,q⟩:=h;cases g;cases f;obtain⟨z,d,n,r,B,e⟩:=I.MG i;obtain⟨p,a,w,r2,C,e2⟩:=I.MG j;refine PySem.P.add_list e e2 ?_ (by rw[ZS,ZS];lia);have m:d.toArray++a.toArray=(d++a).toArray:=by simp
 rw[m];exact⟨.ref _,_,I.QU (t':=s.toks) (r.append r2) (by rw[Zs];omega),rfl,q _ I.fresh⟩
def len_rep{α:Type}(a:List α)(k:Nat):(List.replicate k a).flatten.length=k*a.length:=by
 induction k with
 |zero=>simp
 |succ k b=>rw[Xl,ZR,Zs,b,Nat.succ_mul,Nat.add_comm]
end
section
variable{prog:Program}{w:World}{A:Around}{E:GS}{s:Shared}
set_option maxRecDepth 100000 in
end
section
variable{κ:Type}[DecidableEq κ]
noncomputable def cE(b:List (κ×V))(k:κ):Option V:=(b.find? λa=>decide (a.1=k)).map (·.2)
noncomputable def putK(b:List (κ×V))(k:κ)(v:V):List (κ×V) :=
 if (b.any λa=>decide (a.1=k))=true then b.map (λa=>if a.1=k then (a.1,v) else a) else b++[(k,v)]
def cp{p:κ×V}{r:List (κ×V)}{k:κ}(e:p.1=k):cE (p :: r) k=some p.2:=by simp[cE,IV,e]
def c7{p:κ×V}{r:List (κ×V)}{k:κ}(e:¬p.1=k):cE (p :: r) k=cE r k:=by simp[cE,IV,e]
theorem i9(k:κ):∀a:List (κ×V),(a.any λb=>decide (b.1=k))=(cE a k).isSome
 |[]=>rfl
 |p :: r=>by
  rw[YU];by_cases e:p.1=k
  ·simp only[cp e,ZP e,Bool.true_or,Option.isSome_some]
  ·rw[c7 e,Zc e,Bool.false_or];exact i9 k r
theorem qS(k j:κ)(y:V):∀d:List (κ×V),cE (d.map λa=>if a.1=k then (a.1,y) else a) j=(cE d j).map λx=>if j=k then y else x
 |[]=>rfl
 |p :: r=>by
  have b:=qS k j y r;rw[Zl];by_cases h:p.1=k
  ·rw[Zq h];by_cases e:p.1=j
   ·rw[cp (p:=(p.1,y)) e,cp e,YE,Zq (e.symm.trans h)]
   ·rw[c7 (p:=(p.1,y)) e,c7 e,b]
  ·rw[Zp h];by_cases e:p.1=j
   ·rw[cp (p:=p) e,cp e,YE,Zp (λz=>h (e.trans z))]
   ·rw[c7 (p:=p) e,c7 e,b]
theorem ot(k j:κ)(y:V):∀b:List (κ×V),cE b k=none->cE (b++[(k,y)]) j=if j=k then some y else cE b j
 |[],_=>by
  by_cases e:k=j
  ·rw[Zq e.symm];exact cp (p:=(k,y)) e
  ·rw[Zp (λz=>e z.symm)];exact c7 (p:=(k,y)) e
 |p :: r,a=>by
  rw[Y5];have d:¬p.1=k:=λz=>by rw[cp z]at a;cases a
  rw[c7 d]at a;have f:=ot k j y r a;by_cases e:p.1=j
  ·rw[cp e,cp e,Zp (λz=>d (e.trans z))]
  ·rw[c7 e,c7 e,f]
def ye(b:List (κ×V))(k j:κ)(y:V):cE (putK b k y) j=if j=k then some y else cE b j:=by
 unfold putK;by_cases a:(b.any λd=>decide (d.1=k))=true
 ·rw[Zq a,qS];rw[i9]at a;by_cases e:j=k
  ·obtain⟨x,f⟩:=Yi.mp a;rw[Zq e,e,f,YE,Zq rfl]
  ·rw[Zp e];cases cE b j with
   |none=>rfl
   |some x=>rw[YE,Zp e]
 ·rw[Zp a];refine ot k j y b ?_;rw[i9]at a;cases q:cE b k with
  |none=>rfl
  |some x=>rw[q]at a;exact(a rfl).elim
def ft(a:List (κ×V))(k:κ)(v:V):(putK a k v).length<=a.length+1:=by
 unfold putK;split
 ·rw[Zu];exact Xo _ _
 ·rw[Zs,Zk,List.length_nil];exact Zh _
def iK.Hk{o:Option V}{u:Wm}(r:iK o u):o.isSome=u.isSome:=by
 cases o with
 |none=>cases u with
  |none=>rfl
  |some _=>exact(show False from r).elim
 |some _=>cases u with
  |none=>exact(show False from r).elim
  |some _=>rfl
theorem iK.getD{o:Option V}{u:Wm}{d:V}{a:Value}(r:iK o u)(b:RelV d a):RelV (o.getD d) (u.getD a):=by
 cases o with
 |none=>cases u with
  |none=>exact b
  |some _=>exact(show False from r).elim
 |some _=>cases u with
  |none=>exact(show False from r).elim
  |some _=>exact r
def KV.val{i:List (κ×V)}{f:List (κ×Value)}(r:KV i f)(k:κ):iK (cE i k) (valueAt f k):=by
 unfold KV at r
 induction r with
 |nil=>exact True.intro
 |@cons p q ps a h t j =>
  obtain⟨g,l⟩:=h;by_cases e:p.1=k
  ·have d:q.1=k:=g.symm.trans e;have b:valueAt (q :: a) k=some q.2:=by simp[valueAt,IV,d]
   rw[cp e,b];exact l
  ·have d:¬q.1=k:=λz=>e (g.trans z);have b:valueAt (q :: a) k=valueAt a k:=by simp[valueAt,IV,d]
   rw[c7 e,b];exact j
theorem KV.any{d:List (κ×V)}{b:List (κ×Value)}(r:KV d b)(k:κ):(d.any λa=>decide (a.1=k))=b.any λa=>decide (a.1=k):=by
 unfold KV at r
 induction r with
 |nil=>rfl
 |cons h t e=>rw[YU,YU,e,h.1]
def KV.MB{f:List (κ×V)}{d:List (κ×Value)}(r:KV f d)(k:κ){y:V}{u:Value}(g:RelV y u) :
  KV (f.map λa=>if a.1=k then (a.1,y) else a) (d.map λa=>if a.1=k then (a.1,u) else a):=by
 unfold KV at r ⊢
 induction r with
 |nil=>exact .nil
 |@cons p q ps l h t i =>
  rw[Zl,Zl];refine .cons ?_ i;obtain⟨b,j⟩:=h;by_cases e:p.1=k
  ·rw[Zq e,Zq (b.symm.trans e)];exact⟨b,g⟩
  ·rw[Zp e,Zp (λz=>e (b.trans z))];exact⟨b,j⟩
def KV.put{d:List (κ×V)}{a:List (κ×Value)}(r:KV d a)(k:κ){y:V}{u:Value}(b:RelV y u):KV (putK d k y) (stored a k u):=by
 unfold putK stored;rw[r.any k];by_cases e:(a.any λf=>decide (f.1=k))=true
 ·rw[Zq e,Zq e];exact r.MB k b
 ·rw[Zp e,Zp e];exact Paired.snoc r ⟨rfl,b⟩
def KV.keys{b:List (κ×V)}{a:List (κ×Value)}(r:KV b a):b.map (·.1)=a.map (·.1):=by
 unfold KV at r
 induction r with
 |nil=>rfl
 |cons h t d=>rw[Zl,Zl,d,h.1]
theorem KV.length{b:List (κ×V)}{a:List (κ×Value)}(r:KV b a):b.length=a.length:=Xq r
end
def kG{P:Program}{w:World}{k:Key}{u:Value}(r:RelV (kV k) u):(aS P w).is k u=true:=by
 cases k with
 |inl i=>obtain⟨t,e⟩:=(show ∃t,u=Value.int i t from r);subst e;exact ql P w i t
 |inr x=>obtain⟨t,e⟩:=(show ∃t,u=Value.str x t from r);subst e;exact qB P w x t
theorem oO{P:Program}{w:World}:∀{ks:List Key}{a:Xg},aT (ks.map kV) a->ItemsAre (aS P w) ks a
 |[],_,r=>by rw[Wf]at r;cases r;exact .nil
 |k :: ks,_,r=>by
  rw[Zl]at r;cases r with
  |cons h t=>exact .cons (kG h) (oO t)
noncomputable abbrev KT(H:Hp):List (List Key×V)->List (List Key×Addr×Value)->Prop:=Paired λp q=>p.1=q.1/\H q.2.1=some (.tup (p.1.map kV))/\RelV p.2 q.2.2
def KT.val{H:Hp}{i:List (List Key×V)}{f:List (List Key×Addr×Value)}(r:KT H i f)(k:List Key):iK (cE i k) ((atKey f k).map (·.2)):=by
 induction r with
 |nil=>exact True.intro
 |@cons p q ps a h t j =>
  obtain⟨g,_,l⟩:=h;by_cases e:p.1=k
  ·have d:q.1=k:=g.symm.trans e;have b:atKey (q :: a) k=some q.2:=by simp[atKey,IV,d]
   rw[cp e,b];exact l
  ·have d:¬q.1=k:=λz=>e (g.trans z);have b:atKey (q :: a) k=atKey a k:=by simp[atKey,IV,d]
   rw[c7 e,b];exact j
def KT.MB{H:Hp}{g:List (List Key×V)}{d:List (List Key×Addr×Value)}(r:KT H g d)(k:List Key){y:V}{u:Value}(i:RelV y u) :
  KT H (g.map λb=>if b.1=k then (b.1,y) else b) (d.map (putAt k u)):=by
 induction r with
 |nil=>exact .nil
 |@cons p q ps m h t j =>
  rw[Zl,Zl];refine .cons ?_ j;obtain⟨a,f,l⟩:=h;unfold putAt;by_cases e:p.1=k
  ·rw[Zq e,Zq (a.symm.trans e)];exact⟨a,f,i⟩
  ·rw[Zp e,Zp (λz=>e (a.trans z))];exact⟨a,f,l⟩
def KT.put{H:Hp}{d:List (List Key×V)}{a:List (List Key×Addr×Value)}(r:KT H d a)(k:List Key){b:Addr}{y:V}{u:Value}(h:H b=some (.tup (k.map kV)))(f:RelV y u) :
  KT H (putK d k y) (storedH a k b u):=by
 have e:(d.any λg=>decide (g.1=k))=(atKey a k).isSome:=by
  rw[i9,(r.val k).Hk,YC]
 unfold putK storedH;rw[e];by_cases q:(atKey a k).isSome=true
 ·rw[Zq q,Zq q];exact r.MB k f
 ·rw[Zp q,Zp q];exact Paired.snoc r ⟨rfl,h,f⟩
def KT.keeps{H f:Hp}{e:List (List Key×V)}{d:List (List Key×Addr×Value)}(r:KT H e d)(g:∀b a,H b=some (.tup a)->f b=some (.tup a)):KT f e d :=
 Paired.LF r λ_ _ z=>⟨z.1,g _ _ z.2.1,z.2.2⟩
section
variable{P:Program}{w:World}{H:Hp}{h:Heap}{a:Addr}
def BO{u:HO}(b:HE P w H h)(e:Rd H a u):br P w H h a u:=e.ok b
def lB{b:List (Key×V)}(f:HE P w H h)(e:Rd H a (.dK b)):b.length<=sizeLine/\(a==sysModules)=false/\∃d,KV b d/\h.DictOf (aS P w) a d :=
 show br P w H h a (.dK b) from BO f e
def oq{b:List (Key×V)}(f:HE P w H h)(e:H a=some (.dK b)):b.length<=sizeLine/\(a==sysModules)=false/\∃d,KV b d/\h.DictOf (aS P w) a d:=lB f (.inl e)
def c8{b:List Key}(d:HE P w H h)(e:H a=some (.tup (b.map kV))):(tupleKind (aS P w)).is h b a:=by
 obtain⟨_,j,r,_,o,i,g,n,f⟩:=(show br P w H h a (.tup (b.map kV)) from d a _ e)
 exact⟨o,j.toArray,n,i,g,f,by simpa using oO r⟩
def nu{f:List (List Key×V)}(g:HE P w H h)(e:Rd H a (.dT f)):f.length<=sizeLine/\(a==sysModules)=false ∧
  ∃d,KT H f d/\h.DictOfH (tupleKind (aS P w)) a d:=by
 obtain⟨z,y,d,r,o,B,C,A,v,u,s,n⟩:=(show br P w H h a (.dT f) from BO g e)
 refine⟨z,y,d,r,o,B,C,A,v,u,s,λx b=>?_,n⟩;have all:∀{l:List (List Key×V)}{m:List (List Key×Addr×Value)},KT H l m->∀x∈m,(tupleKind (aS P w)).is h x.1 x.2.1:=by
  intro l m q
  induction q with
  |nil=>intro x b;exact nomatch b
  |@cons p q ps D i t j =>
   intro x b;rcases Zo.mp b with e | b
   ·subst e;exact c8 g (by rw[← i.1];exact i.2.1)
   ·exact j x b
 exact all r x b
def Ey{b:List (List Key×V)}(f:HE P w H h)(e:H a=some (.dT b)):b.length<=sizeLine/\(a==sysModules)=false ∧
  ∃d,KT H b d/\h.DictOfH (tupleKind (aS P w)) a d:=nu f (.inl e)
end
noncomputable def hU(H:Hp)(a:Addr)(y:V)(r:Option V):Prop :=
 (∃d k,Rd H a (.dK d)/\y=kV k/\r=cE d k)\/∃d k b,Rd H a (.dT d)/\y=.ref b/\H b=some (.tup (k.map kV))/\r=cE d k
noncomputable def si(H:Hp)(a:Addr)(y v:V)(e:Hp):Prop :=
 (∃d k,H a=some (.dK d)/\y=kV k/\d.length<sizeLine/\e=upd H a (.dK (putK d k v))) ∨
 ∃d k b,H a=some (.dT d)/\y=.ref b/\H b=some (.tup (k.map kV))/\d.length<sizeLine/\e=upd H a (.dT (putK d k v))
theorem hU.k{H:Hp}{a:Addr}{b:List (Key×V)}{k:Key}(e:H a=some (.dK b)):hU H a (kV k) (cE b k):=.inl ⟨b,k,.inl e,rfl,rfl⟩
theorem si.k{H:Hp}{a:Addr}{b:List (Key×V)}{k:Key}{v:V}(e:H a=some (.dK b))(d:b.length<sizeLine):si H a (kV k) v (upd H a (.dK (putK b k v))):=.inl ⟨b,k,e,rfl,d,rfl⟩
section
variable{X:Cx}{pins:Yy}{O:St}{H:Hp}{s:Shared}{a:Addr}{y v:V}{u r:Value}{o:Option V}{A:Around}{E:GS}
def Inv.big(I:Inv X pins O H s):sysModules<s.heap.objs.size:=by
 have h:mainGlobals<s.heap.objs.size:=(I.mod.glob.keeps I.bk).lt;exact Wi (by decide) h
def wM{Q:GS}(x:A.units+1<cLine)(I:Inv X pins O H s)(g:hU H a y (some v))(n:RelV y u)(h:∀d m,Inv X pins O H m->RelV v d->Q d m) :
  wpAny (model X.prog X.w) A (getItem (.ref a) u) Q E s:=by
 rcases g with⟨C,k,e,f,l⟩ | ⟨C,k,b,e,f,D,l⟩
 ·subst f;obtain⟨z,hd,t,rel,i⟩:=lB I.GL e;obtain⟨d,hw,j⟩:=iK.some_of (v:=v) (o:=valueAt t k) (by rw[l];exact rel.val k);exact wpAny_getItem_of (kG n) i.mapOf hw (h d _ (I.tok _) j)
 ·subst f;cases (show u=Value.ref b from n);obtain⟨z,hd,q,rel,i⟩:=nu I.GL e;obtain⟨d,hw,j⟩:=iK.some_of (v:=v) (o:=(atKey q k).map (·.2)) (by rw[l];exact rel.val k);obtain⟨p,B,F⟩:=Zw.mp hw;refine wpAny_getItem_heap (XS x) (c8 I.GL D) i B ?_;rw[F];exact h d _ (I.tok _) j
def GB{Q:GS}(m:A.units+1<cLine)(I:Inv X pins O H s)(g:hU H a y o)(j:RelV y u)(h:∀i,Inv X pins O H i->Q (.bool o.isSome) i) :
  wpAny (model X.prog X.w) A (compareOp .In u (.ref a)) Q E s:=by
 rcases g with⟨n,k,e,d,l⟩ | ⟨n,k,b,e,d,p,l⟩
 ·subst d;obtain⟨z,hd,x,rel,f⟩:=lB I.GL e;refine wpAny_in_of (kG j) hd f.mapOf ?_;rw[← (rel.val k).Hk,← l];exact h _ (I.tok _)
 ·subst d;cases (show u=Value.ref b from j);obtain⟨z,hd,t,rel,f⟩:=nu I.GL e;refine wpAny_in_heap (XS m) (c8 I.GL p) hd f ?_;have q:=(rel.val k).Hk;rw[YC]at q;rw[← q,← l];exact h _ (I.tok _)
def AG{Q:GS}(m:A.units+1<cLine)(I:Inv X pins O H s)(g:hU H a y o)(j:RelV y u)(h:∀i,Inv X pins O H i->Q (.bool (!o.isSome)) i) :
  wpAny (model X.prog X.w) A (compareOp .NotIn u (.ref a)) Q E s:=by
 rcases g with⟨n,k,e,d,l⟩ | ⟨n,k,b,e,d,p,l⟩
 ·subst d;obtain⟨z,hd,x,rel,f⟩:=lB I.GL e;refine wpAny_notIn_of (kG j) hd f.mapOf ?_;rw[← (rel.val k).Hk,← l];exact h _ (I.tok _)
 ·subst d;cases (show u=Value.ref b from j);obtain⟨z,hd,t,rel,f⟩:=nu I.GL e;refine wpAny_notIn_heap (XS m) (c8 I.GL p) hd f ?_;have q:=(rel.val k).Hk;rw[YC]at q;rw[← q,← l];exact h _ (I.tok _)
def kc{d:Heap}{t':Nat}{f:HO}(I:Inv X pins O H s)(h:GQ (H a))(i:Heap.SameBut a s.heap d)(j:∃q,d.get? a=some q)(g:br X.prog X.w (upd H a f) d a f) :
  Inv X pins O (upd H a f) { s with heap:=d,toks:=t' } :=
 I.write (x:=a) (e:=a) h (.inl rfl) (λb q hb z=>(i.2 b hb).trans z) j g
def m8{P:Program}{w:World}{i:Hp}{f:Heap}{e:List (Key×V)}{b:List (Key×Value)}(z:e.length<=sizeLine)(g:(a==sysModules)=false)(d:KV e b)(h:f.DictOf (aS P w) a b) :
  br P w i f a (.dK e):=⟨z,g,b,d,h⟩
def wm{L:Hp}{Q:Unit->Shared->Prop}(P:A.units+1<cLine)(I:Inv X pins O H s)(g:si H a y v L)(C:RelV y u)(D:RelV v r)(h:∀B,Inv X pins O L B->Q () B) :
  wpAny (model X.prog X.w) A (setItem (.ref a) u r) Q E s:=by
 rcases g with⟨d,k,e,p,l,t⟩ | ⟨d,k,b,e,p,J,l,t⟩
 ·subst p t;obtain⟨z,hd,N,rel,x⟩:=oq I.GL e;have j:N.length<=sizeLine:=by rw[← rel.length];exact z
  have n:(putK d k v).length<=sizeLine:=by have:=ft d k v;lia
  refine wpAny_setItem_pairs (hsz:=j) (kG C) x λF i m=>h _ ?_;have R:∃q,F.get? a=some q:=let ⟨q,_,_,f,_⟩:=i;⟨q,f⟩
  exact kc I (by rw[e];exact True.intro) m R (m8 n hd (rel.put k D) i)
 ·subst p t;cases (show u=Value.ref b from C);obtain⟨z,hd,M,rel,x⟩:=Ey I.GL e;have j:M.length<=sizeLine:=by rw[← Xq rel];exact z
  have n:(putK d k v).length<=sizeLine:=by have:=ft d k v;lia
  refine wpAny_setItem_heap (hsz:=j) (XS P) (c8 I.GL J) x λF i m=>h _ ?_;obtain⟨q,es,ep,f,Z,Y,U,_,S⟩:=i;refine kc I (by rw[e];exact True.intro) m ⟨q,f⟩ ⟨n,hd,_,(rel.put k J D).keeps λc ys G=>?_,q,es,ep,f,Z,Y,U,S⟩;rw[ay (E3 G e (λz=>nomatch z))];exact G
end
section
variable{X:Cx}{pins:Yy}{O:St}{H:Hp}{s:Shared}{a:Addr}{gV:List (Key×V)}{k:Key}{u:Value}{A:Around}{E:GS}
def Fz{Q:GS}(I:Inv X pins O H s)(e:Rd H a (.dK gV))(h:∀t b,Inv X pins O H b->Q (.int gV.length t) b):wpAny (model X.prog X.w) A (call (.builtin "len") [.ref a]) Q E s:=by
 obtain⟨z,hd,f,rel,d⟩:=lB I.GL e;refine call_len_dict hd d (by rw[← rel.length];rw[XR]at z;lia) ?_;rw[← rel.length];exact h _ _ (I.tok _)
end
def qA{X:Cx}{d:Yy}{O:St}{H:Hp}{s:Shared}{a:Addr}{y:V}{o:Option V}(I:Inv X d O H s)(g:hU H a y o):s.TypeIs (.ref a) "dict" := by
 rcases g with⟨h,k,e,_,_⟩ | ⟨h,k,b,e,_,_,_⟩
 ·obtain⟨_,_,j,_,f⟩:=lB I.GL e;exact f.typeIs
 ·obtain⟨_,_,i,_,f⟩:=nu I.GL e;exact f.typeIs
def qW{P:Program}{w:World}{H:Hp}(h:Heap)(a:sysModules<h.objs.size):br P w H (h.push { cls:=.type "dict",data:=.dict #[] }) h.objs.size (.dK []) :=
 ⟨Yv _,beq_eq_false_iff_ne.mpr (Yq (Zb a)),[],.nil,Heap.DictOf.new h⟩
noncomputable def DE:TE:=λ_ H Q=>∀p,H p=none->Q (.ref p) (upd H p (.dK []))
section
variable{X:Cx}{pos:Pos}
def xR:PE X (.Dict [] [] pos) DE:=λpins s O H Q I h =>
 wpAny_Dict_empty ⟨.ref s.heap.objs.size,_,I.laid (a:=s.heap.objs.size) (o:=.dK []) (t':=s.toks) (λ_ _ q=>Zi _ q) (Zh _) (qW s.heap I.big),rfl,h _ (I.GL.fresh (Zh _))⟩
end
noncomputable def sY:List (TE×TE)->St->Hp->(List (V×V)->Hp->Prop)->Prop
 |[],_,H,Q=>Q [] H
 | (b,a) :: r,O,H,Q=>b O H λx f=>a O f λy e=>sY r O e λps d=>Q ((x,y) :: ps) d
noncomputable abbrev VV:List (V×V)->List (Value×Value)->Prop:=Paired λp q=>RelV p.1 q.1/\RelV p.2 q.2
noncomputable def PPs(X:Cx)(d:Pos)(b:List (Option Expr))(a:List Expr)(h:List (TE×TE)):Prop :=
 ∀(pins:Yy)(s:Shared)(O:St)(H:Hp)(Q:List (V×V)->Hp->Prop),Inv X pins O H s->sY h O H Q →
  wpAny (model X.prog X.w) X.A (evalPairs (pairTrees b a X.env d)) (λf g=>∃ps e,Inv X pins O e g/\VV ps f/\Q ps e) X.xe s
def ux{X:Cx}{a:Pos}:PPs X a [] [] []:=λpins s O H Q I h=>pairTrees_nil_walk ⟨[],H,I,.nil,h⟩
def qT{X:Cx}{a:Pos}{k v:Expr}{f:List (Option Expr)}{b:List Expr}{e d:TE}{g:List (TE×TE)}(r:PE X k e)(p:PE X v d)(q:PPs X a f b g) :
  PPs X a (some k :: f) (v :: b) ((e,d) :: g):=λpins s O H Q I h =>
 pairTrees_cons_walk (thn (r pins s O H _ I h) λu s1 ⟨x,C,z,l,o⟩=>thn (p pins s1 O C _ z o) λE i ⟨y,B,w,j,n⟩ =>
  thn (q pins i O B _ w n) λD F ⟨ps,A,t,rel,m⟩=>⟨(x,y) :: ps,A,t,.cons ⟨l,j⟩ rel,m⟩)
noncomputable def kR(d a:List (Key×V)):List (Key×V):=a.foldl (λacc b=>putK acc b.1 b.2) d
def KV.merge:∀{more:List (Key×V)}{d:List (Key×Value)}{b:List (Key×V)}{a:List (Key×Value)},KV more d->KV b a->KV (kR b more) (merged a d):=by
 intro more d b a r;unfold KV at r
 induction r generalizing b a with
 |nil=>intro q;exact q
 |@cons p q ps i h t g =>
  intro f;have e:KV (putK b p.1 p.2) (stored a q.1 q.2):=by
   have:=f.put p.1 h.2;rw[← h.1];exact this
  exact g e
theorem jx:∀(more a:List (Key×V)),(kR a more).length<=a.length+more.length
 |[],a=>by show a.length<=a.length+0;exact Xo _ _
 |p :: r,a=>by
  have d:=jx r (putK a p.1 p.2);have b:=ft a p.1 p.2;show (kR (putK a p.1 p.2) r).length<=_;rw[Zk];lia
theorem mY{P:Program}{w:World}:∀{e:List (Key×V)}{f:List (Value×Value)},VV (e.map λg=>(kV g.1,g.2)) f->∃d,Carries (aS P w) f d/\KV e d
 |[],_,r=>by rw[Wf]at r;cases r;exact⟨[],True.intro,.nil⟩
 |p :: e,_,r=>by
  rw[Zl]at r;cases r with
  |@cons a b l bs h t =>
   obtain⟨d,c,q⟩:=mY (P:=P) (w:=w) t;obtain⟨j,i⟩:=b;exact⟨(p.1,i) :: d,⟨kG h.1,rfl,c⟩,.cons ⟨rfl,h.2⟩ q⟩
noncomputable def Eb(e:List (TE×TE)):TE:=λO H Q=>∀p,H p=none->sY e O (upd H p (.dK [])) λps d=>d p=some (.dK [])/\∃a:List (Key×V),ps=a.map (λb=>(kV b.1,b.2))/\a.length<=15/\Q (.ref p) (upd d p (.dK (kR [] a)))
def uS{X:Cx}{f:Pos}{b:List (Option Expr)}{d:List Expr}{j:List (TE×TE)}(h:PPs X f b d j)(L:b.all (·.isSome)=true)(B:b.length=d.length)(E:b≠[])(g:b.length<=15):PE X (.Dict b d f) (Eb j):=by
 intro pins s O H Q I q;have A:=I.GL.fresh (Zh s.heap.objs.size);have J:=I.laid (a:=s.heap.objs.size) (o:=.dK []) (h':=s.heap.push { cls:=.type "dict",data:=.dict #[] }) (t':=s.toks) (λ_ _ q=>Zi _ q) (Zh _) (qW s.heap I.big);refine wpAny_Dict_walk (knd:=aS X.prog X.w) L B E g (thn (h pins _ O _ _ J (q _ A)) λM N ⟨ps,R,m,rel,e,i,F,lk,u⟩=>?_);subst F;obtain⟨p,c,r⟩:=mY (P:=X.prog) (w:=X.w) rel;obtain⟨z,hd,n,t,G⟩:=oq m.GL e;cases t;refine⟨p,c,G,λh' l x=>⟨.ref s.heap.objs.size,_,?_,rfl,u⟩⟩;have v:(kR [] i).length<=sizeLine:=by
  have D:=jx i [];rw[List.length_nil]at D;rw[XR];lia
 have C:∃q,h'.get? s.heap.objs.size=some q:=let ⟨q,_,_,y,_⟩:=l;⟨q,y⟩
 exact kc m (by rw[e];exact True.intro) x C (m8 v hd (r.merge .nil) l)
structure M1(X:Cx)(o:Expr)(m:Str)(apos:Pos)(e:Expr)(pe:Pos):Prop where
 base:attributeBase o m X.env (eval o X.env)=eval o X.env
 Jr:((backTo pe (starEach [e] X.env)).all (λx=>!x.1)&&(backToKw pe (keywordEach [] X.env)).all (λx=>x.1.isSome)
  && decide (([e]:List Expr).length+([]:List Keyword).length+(if ([]:List Keyword).isEmpty then 0 else 1)<30))=true
 line:(apos.endLine==pe.line)=true
 trees:backTo pe (starEach [e] X.env)=[(false,eval e X.env)]
noncomputable def Ux(H:Hp)(a:Addr):Prop:=(∃b,Rd H a (.dK b))\/∃b,Rd H a (.dT b)
def B9{X:Cx}{g:Yy}{O:St}{H:Hp}{s:Shared}{a:Addr}(I:Inv X g O H s)(d:Ux H a) :
  s.TypeIs (.ref a) "dict" ∧ (∀b,Value.ref a=.ref b->∃f,s.heap.get? b=some f/\f.dict=none)/\(a==sysModules)=false:=by
 rcases d with⟨l,e⟩ | ⟨l,e⟩
 ·obtain⟨_,hd,n,_,h⟩:=lB I.GL e;refine⟨h.typeIs,λb q=>?_,hd⟩;cases q;obtain⟨f,_,_,j,i,_⟩:=h;exact⟨f,j,i.2.1⟩
 ·obtain⟨_,hd,m,_,h⟩:=nu I.GL e;refine⟨h.typeIs,λb q=>?_,hd⟩;cases q;obtain⟨f,_,_,j,i,_⟩:=h;exact⟨f,j,i.2.1⟩
section
variable{X:Cx}{pins:Yy}{O:St}{H:Hp}{s:Shared}{a:Addr}{y d:V}{u r:Value}{o:Option V}{A:Around}{E:GS}
def D5{Q:GS}(q:A.units+1<cLine)(I:Inv X pins O H s)(g:hU H a y o)(n:RelV y u)(h:∀j m,Inv X pins O H m->RelV (o.getD .non) j->Q j m) :
  wpAny (model X.prog X.w) A (call (.builtin "dict.get") [.ref a,u]) Q E s:=by
 rcases g with⟨t,k,e,i,l⟩ | ⟨t,k,b,e,i,v,l⟩
 ·subst i;obtain⟨z,hd,x,rel,f⟩:=lB I.GL e;refine call_meetsIn Wy f.typeIs PySem.F.entry_dict_get (PySem.F.args_dict_get_2 _ _) (meets_dict_get (aS X.prog X.w) a (kG n) hd) ⟨_,f.mapOf,h _ _ (I.tok _) ?_⟩;rw[l];exact(rel.val k).getD rfl
 ·subst i;cases (show u=Value.ref b from n);obtain⟨z,hd,p,rel,f⟩:=nu I.GL e;refine call_meetsIn Wy f.typeIs PySem.F.entry_dict_get (PySem.F.args_dict_get_2 _ _) (meetsH_dict_get (tupleKind (aS X.prog X.w)) a b hd) ⟨XS q,k,p,c8 I.GL v,f,h _ _ (I.tok _) ?_⟩;rw[l];exact(rel.val k).getD rfl
end
noncomputable def Cm(f e:TE):TE:=λO H Q=>f O H λx d=>∃a,x=.ref a/\Ux d a/\e O d λy b=>∃o,hU b a y o/\Q (o.getD .non) b
section
variable{X:Cx}{o e f:Expr}{apos pe:Pos}{td ty tx:TE}
def yK(r:X.A.units+1<cLine)(t:PE X o td)(v:PE X e ty)(m:M1 X o "get" apos e pe):PE X (.Call (.Attribute o "get" apos) [e] [] pe) (Cm td ty):=by
 intro pins s O H Q I h;refine wpAny_Call_method m.base m.Jr m.line PySem.F.plainAttrs_dict Wy PySem.F.type_dict_get (thn (t pins s O H _ I h) λu s1 ⟨x,D,b,n,a,ex,d,q⟩=>?_);subst ex;obtain rfl:u=Value.ref a:=n;obtain⟨j,i,_⟩:=B9 b d;refine⟨j,i,?_⟩;rw[m.trees];refine Calls.callWith_builtin rfl (Calls.evalArgs_plain (Calls.spliced_cons (thn (v pins s1 O D _ b q) λiv J ⟨y,C,B,l,L,g,p⟩=>Calls.spliced_nil ?_)));exact D5 r B g l λE G z w=>⟨_,C,z,w,p⟩
end
end L2
namespace UC
open PySem PySem.W PySem.Calls PyProof.Rows
def lV{P:Params}{h:Heap}:∀(ns:W3)(d:Xg),WellAll P h d (ns.map WData.int)->IntsAre d ns:=by
 intro ns
 induction ns with
 |nil =>
  intro d w;rw[Wf]at w;cases w;exact .nil
 |cons n ns e =>
  intro d w;rw[Zl]at w;cases w with
  |cons a b =>
   cases a;exact .cons _ _ (e _ b)
def vP{l:OpenLaw}{n:Nat}(v:l.most=some n){P:Params}{h:Heap}{b:List WData}{e:Xg}(f:l.row.toRowW.claim.pre b=true)(j:WellAll P h e b) :
  ∃a m ns,e=[Value.ref a]/\b=[WData.list (ns.map WData.int)]/\h.get? a=some { cls:=.type "list",data:=.seq m.toArray }/\IntsAre m ns/\ns.length<=n:=by
 have z:WShape.hasAll [] b [.list .int]=true:=(pre_splitW f).1;have o:l.pre.holds [] { args:=b }=true:=(pre_splitW f).2;obtain⟨d,r,rfl,y,x⟩:=hasAllW_cons z;obtain rfl:=hasAllW_nil x;obtain⟨B,rfl,w⟩:=hasW_list y;obtain⟨ns,rfl⟩:=items_int w;have hlen:ns.length<=n:=by
  unfold OpenLaw.pre at o;have i:(WTm.not (.lt (.lit (.int (n:Int))) (.len (.arg 0)))).holds [] { args:=[.list (ns.map .int)] }=true:=by
   have i:=(holds_andW o).1;rw[v]at i;exact i
  have g:=condW_of i (w_not (w_lt w_lit (w_len_list (w_arg rfl))));rw[Zu]at g;refine ZE λq=>?_;have t:(n:Int)<((ns.length:Nat):Int):=by omega
  first
   | (rw[ZP t]at g;exact absurd g (by decide))
   | (simp at g;omega)
 cases j with
 |cons s p =>
  cases p;cases s with
  |list u A=>exact⟨_,_,ns,rfl,rfl,u,lV ns _ A,hlen⟩
def vY(l:OpenLaw)(a:List WData):l.row.toRowW.claim.post a (.bool true) a=true :=
 postW_of (r:=l.row.toRowW) (X:=(true==true))
  (show WShape.has [] (.bool true) .bool=true by first | rfl | decide | simp[WShape.has,WShape.arms,WShape.armsAll])
  (show (WTm.eq .res (.lit (.bool true))).value [] { args:=a,res:=some (.bool true),after:=a }=some (.bool (true==true)) from w_eq_bool (w_res rfl) w_lit) rfl
def rG{l:OpenLaw}{n:Nat}{q:Program}{e:List Str}{A:(Xk)->Heap->Prop}{z:World->Heap->Prop}{d:DefRec}(E:l.most=some n)(O:d.params.defaults=[])(j:∀(w:World)(p b:Shared)(mg s:Xk)(i:Addr)(o:Obj)(pm cd doc:Value)(a:Addr)(g:Xg)(ns:W3),
   Ground q e [] A w p mg s b.heap->z w b.heap →
   b.heap.get? i=some o->o.data=.func (docDef d.name d.params d.body d.scope pm cd doc)->b.heap.CodeRec cd d.name->mg d.name=some (.ref i) →
   b.heap.get? a=some { cls:=.type "list",data:=.seq g.toArray }->IntsAre g ns->ns.length<=n->b.gens=#[] →
   codeAny (model l.prog w) callerA (.call (.ref i) ⟨[.ref a],[]⟩) (λr m=>r=.ok (.ret (.bool true))/\OldK b.heap m.heap/\m.os=b.os/\AllBare m.gens) b) :
  WalkO q e A z l.row.toRowW d [] (λf g=>PySem.call f g):=by
 intro w p b mg s G Y i o pm cd doc N kV D hd v y u hg args vals Q h x B t H;obtain rfl:N=.none:=Dflts.none y O;obtain rfl:kV=.none:=Dflts.noKw y;obtain⟨a,g,ns,rfl,rfl,P,hints,hlen⟩:=vP E h t;refine enter_call (codeAny_mono (j w p b mg s i o pm cd doc a g ns G Y D (fd_plain hd) v u P hints hlen hg) λr m C=>?_);obtain⟨rfl,M,L,J⟩:=C;exact⟨.inl ⟨.bool true,.bool true,[],rfl,λ_=>rfl,.bool true,vY l _,λ_=>⟨List.Pairwise.nil,λ_ F=>(nomatch F)⟩⟩,M,L,J⟩
end UC
namespace L2
open PySem PySem.Spec PyProof.Rows
theorem oP:∀{a:Xg}{ns:W3},IntsAre a ns->aT (ns.map V.int) a
 |_,_,.nil=>.nil
 |_,_,.cons n t h=>.cons ⟨t,rfl⟩ (oP h)
noncomputable def zw(H:Hp):Prop:=∀b,H b=none\/∃o a,H b=some (.frz o (.lst a))
def x8{P:Program}{w:World}{K:Y2}{t D:Xk}{CX:KA}{k:Nat}{G a:Addr}{S:FuncData}{x:Str}{L:Sp}{f:Shared}{j:Xg}{p:W3}(Z:K.In f.heap)(X:f.heap.Ns mainGlobals t)(g:f.heap.Ns builtinsNs D)(RQ:∀x:Str,x ≠ "__name__" → D x=bootBuiltins x)(Rz:f.heap.NoLimit)(hg:f.gens=#[])(B:f.heap.get? a=some { cls:=.type "list",data:=.seq j.toArray })(O:IntsAre j p)(N:p.length<=sizeLine)(hr:GJ k callerA)(F:∀base:Heap,K.In base->base.Ns mainGlobals t->FnOk P w K t base CX k G S [x] L)(Ou:∀(s:Shared)(u:Value),BindsTo s S ⟨[u],[]⟩ [(x,u)])(Mb:∀H:Hp,zw H->GY K H a (p.map V.int)->L [.ref a] H (λv _=>v=.bl true) λ_ _ _=>False)(R1:∀H e i,CX [] H f (λ_ _ _=>False) e i->False) :
  codeAny (model P w) callerA (.call (.ref G) ⟨[.ref a],[]⟩) (λr i=>r=.ok (.ret (.bool true))/\OldK f.heap i.heap/\i.os=f.os/\AllBare i.gens) f:=by
 have M:=oP O;have QV:=O.length;have core:∀H:Hp,zw H->GY K H a (p.map V.int)->HE P w H f.heap->(∀b,H b≠none->b=a)->(H a≠none->K.lookup a=none) →
   codeAny (model P w) callerA (.call (.ref G) ⟨[.ref a],[]⟩) (λr i=>r=.ok (.ret (.bool true))/\OldK f.heap i.heap/\i.os=f.os/\AllBare i.gens) f:=by
  intro H Q hS GL R hK;have Y:∀{b:Addr}{o:Obj},f.heap.get? b=some o->H b=none->(qk f.heap H).get? b=some o:=λe n=>xM e n;have N1:∀{b:Addr}{o:Obj}{y:Array DictEntry}{A:Nat},f.heap.get? b=some o->o.data=.dict y A->H b=none:=λ{b o y A} e d=>by
   cases q:H b with
   |none=>rfl
   |some u =>
    have J:b=a:=R b (by rw[q];simp);subst J;rw[B]at e;cases e;have d':Data.seq j.toArray _=Data.dict y A:=d;cases d'
  have C:∀{b:Addr}{m:Xk},f.heap.Ns b m->(qk f.heap H).Ns b m:=λ{b m} ⟨o,y,A,e,d,r⟩=>⟨o,y,A,Y e (N1 e d),d,r⟩
  have U:K.In (qk f.heap H):=λb o e=>Y (Z b o e) (by
   cases q:H b with
   |none=>rfl
   |some u =>
    have J:b=a:=R b (by rw[q];simp);subst J;rw[hK (by rw[q];simp)]at e;cases e)
  have hM:Mod K t (qk f.heap H):=⟨U,C X,⟨D,C g,RQ⟩,let ⟨mc,h1,h2⟩:=Rz;⟨mc,C h1,h2⟩⟩
  have e0:Env0 P w K t (qk f.heap H) callerA [] f H:=⟨rfl,hM,λb o e=>Bz e,X8 (vI _ _),trivial,λb g=>absurd (show b∈([]:Xi) from g) (by simp),GL,.of_eq hg⟩
  refine codeAny_mono ((F _ U (C X)).run callerA [] f H ⟨[.ref a],[]⟩ [.ref a] [.ref a] _ _ hr e0 (Ou f (.ref a)) (.cons rfl .nil) (Mb H Q hS)) λr i h=>?_;cases r with
  |error e=>exact(R1 H e i h).elim
  |ok fl =>
   cases fl with
   |next=>exact False.elim h
   |brk=>exact False.elim h
   |cont=>exact False.elim h
   |ret u =>
    obtain⟨v,H',os,bare,un,Rq,r',q⟩:=h;have q':v=.bl true:=q;subst q';obtain rfl:u=Value.bool true:=r';refine⟨rfl,OldK.of_keep λb o e=>?_,os,bare⟩;cases q:H b with
    |none=>exact un.keep b o e q (by intro z;exact absurd (show b∈([]:Xi) from z) (by simp)) (by simp)
    |some u =>
     rcases Q b with z | ⟨ob,xs,z⟩
     ·rw[q]at z;cases z
     ·have z2:=un.Il b ob _ z;obtain⟨e1,_⟩:=GL b _ z;obtain⟨e2,_⟩:=Rq b _ z2;rw[e]at e1;cases e1;exact e2
 cases E:K.lookup a with
 |some o =>
  have e:=Z a o E;rw[B]at e;cases e;refine core (λ_=>none) (λ_=>.inl rfl) (.inr ⟨_,j.toArray,_,E,rfl,rfl,rfl,by rw[ZS,QV];exact N,by simpa using M⟩) (λb u z=>by have l:(none:Option HO)=some u:=z;cases l) (λb z=>absurd rfl z) λz=>absurd rfl z
 |none =>
  refine core (λb=>if b=a then some (.frz { cls:=.type "list",data:=.seq j.toArray } (.lst (p.map V.int))) else none) (λb=>?_) (.inl (.inr ⟨{ cls:=.type "list",data:=.seq j.toArray },Zq rfl⟩)) (λb u z=>?_) (λb z=>?_) λ_=>E
  ·by_cases g:b=a
   ·exact .inr ⟨_,_,Zq g⟩
   ·exact .inl (Zp g)
  ·by_cases g:b=a
   ·have l:=(Zq g).symm.trans z;cases l;subst g;exact⟨B,by rw[Zu];exact N,j,_,M,B⟩
   ·have l:=(Zp g).symm.trans z;cases l
  ·by_cases g:b=a
   ·exact g
   ·exact absurd (Zp g) z
def AL{l:PySem.W.OpenLaw}{n k:Nat}{q:Program}{i:List Str}{L:(Xk)->Heap->Prop}{t:World->Heap->Prop}{d:DefRec}{K:Params->Y2}{CX:World->KA}{sp:World->Sp}{x:Str}(B:l.most=some n)(N:n<=sizeLine)(O:d.params.defaults=[])(A:GJ k callerA)(D:∀(w:World)(h:Heap),t w h->(K w.params).In h)(F:∀(w:World)(mg:Xk)(j:Addr)(h:Heap),(K w.params).In h->h.Ns mainGlobals mg->mg d.name=some (.ref j) →
   ∃fd:FuncData,(∀(s:Shared)(u:Value),BindsTo s fd ⟨[u],[]⟩ [(x,u)]) ∧
    ∀base:Heap,(K w.params).In base->base.Ns mainGlobals mg->FnOk l.prog w (K w.params) mg base (CX w) k j fd [x] (sp w))(P:∀(w:World)(H:Hp)(a:Addr)(ns:W3),ns.length<=n->zw H->GY (K w.params) H a (ns.map V.int)->sp w [.ref a] H (λv _=>v=.bl true) λ_ _ _=>False)(M:∀(w:World)(H:Hp)(s:Shared)(e:Value)(m:Shared),CX w [] H s (λ_ _ _=>False) e m->False) :
  PySem.W.WalkO q i L t l.row.toRowW d [] (λf r=>PySem.call f r):=by
 refine UC.rG B O λw R z mg S j o pm cd doc a r ns G Y U hd C p Q hints hlen hg=>?_;have y:=D w _ Y;obtain⟨fd,hb,J⟩:=F w mg j _ y G.T.g p;exact x8 y G.T.g G.T.b G.T.builtins G.T.nolimit hg Q hints (ZI hlen N) A J hb (λH E hS=>P w H a ns hlen E hS) λH e m=>M w H z e m
noncomputable def inClass(s:Stmt)(j:Nat):Stmt:=match s with
 |.ClassDef _ _ _ body _ _ _ _ _ _ _=>body.getD j (.Pass ⟨0,0,0,0⟩)
 |_=>.Pass ⟨0,0,0,0⟩
noncomputable def dZ(s:Stmt):Arguments:=match s with
 |.FunctionDef _ a _ _ _ _ _ _ _ _=>a
 |_=>{ posonlyargs:=[],args:=[],vararg:=none,kwonlyargs:=[],kw_defaults:=[],kwarg:=none,defaults:=[] }
noncomputable def bh(s:Stmt):List Stmt:=match s with
 |.FunctionDef _ _ b _ _ _ _ _ _ _=>b
 |_=>[]
noncomputable def aq(s:Stmt):Scope:=match s with
 |.FunctionDef _ _ _ _ _ _ sc _ _ _=>sc
 |_=>{ kind:=.function,names:=[],isGenerator:=false,isCoroutine:=false }
noncomputable abbrev Hx:KA:=λ_ _ _ _ _ _=>False
noncomputable abbrev E0:XK:=λ_ _ _=>False
def ou{X:Cx}:jV Hx X E0:=λ_ _ _ _ _ _ _ h=>h.elim
structure GV(K:Y2)(x qual:Str)(st:Stmt)(f:Addr)(fd:FuncData):Prop where
 ex:∃(oc:Value)(od:Option Addr)(kV doc pm:Value)(an:Option Addr)(GU ct:Value)(Kq:Array (Wm)),
  fd=PySem.W.fnOf x qual (dZ st) (bh st) (aq st) .none kV doc pm an GU ct/\K.lookup f=some ⟨oc,od,.func fd,Kq⟩/\PySem.W.codeIn K GU qual=true
 kp:PySem.W.keepIn K (.ref f)=true
section
variable{P:Program}{w:World}{K:Y2}{mg:Xk}{base:Heap}
def GV.ok{x a:Str}{d:Stmt}{f:Addr}{m:FuncData}{N i:List Str}{k:Nat}{g:Sp}(F:GV K x a d f m)(S:oe N i (aq d))(j:∀b H Q E,g b H Q E->b.length=i.length)(p:∀(e:Value)(A:Around)(outer:List Env)(s:Shared)(H:Hp)(b:List V)(Q:VK)(E:XK),GJ k (A.deeper (envOfC a (aq d) s.heap.objs.size f e))->g b H Q E →
   ∃t,ID (jr Hx P w K mg base N a (aq d) f e A outer s H E).J6 (bh d) t/\t { nx:=λ_ r=>Q .non r,rt:=Q } (start N b) H):FnOk P w K mg base Hx (k+1) f m i g:=by
 obtain⟨oc,u,kV,doc,pm,an,e,ct,v,rfl,lk,l⟩:=F.ex;refine E6 lk l S j λA outer s H b Q E n o=>?_;obtain⟨t,h,q⟩:=p e A outer s H b Q E n o;exact⟨t,h.J6,q⟩
def GV.binds{x a:Str}{b:Stmt}{f:Addr}{i:FuncData}{e:List Str}(F:GV K x a b f i)(h:∀(kV doc pm:Value)(an:Option Addr)(g ct:Value)(d:Xg),d.length=e.length->bindArgs (PySem.W.fnOf x a (dZ b) (bh b) (aq b) .none kV doc pm an g ct) ⟨d,[]⟩=pure (e.zip d)):Binds K i e []:=by
 obtain⟨oc,l,kV,doc,pm,an,g,ct,m,rfl,lk,j⟩:=F.ex;exact .all (h kV doc pm an g ct)
def xi{x a:Str}{st:Stmt}{f:Addr}{m:Value}{j i:Option Addr}{n:Array (Wm)}{g b e d h:Value}(l:K.lookup f=some ⟨m,j,.func (PySem.W.fnOf x a (dZ st) (bh st) (aq st) .none g b e i d h),n⟩)(c:PySem.W.codeIn K d a=true)(k:PySem.W.keepIn K (.ref f)=true):GV K x a st f (PySem.W.fnOf x a (dZ st) (bh st) (aq st) .none g b e i d h):=⟨⟨m,j,g,b,e,i,d,h,n,rfl,l,c⟩,k⟩
end
def jy{A:Around}{k:Nat}(a:GJ k A):A.units+1<cLine:=Nat.lt_of_le_of_lt (Nat.add_le_add_left (by decide:1<=64) _) a.units
def vS{A B:Prop}(h:B):if false=true then A else B:=by
 rw[Zp ZX];exact h
def vW{A B:Prop}(h:A):if true=true then A else B:=by
 rw[Zq rfl];exact h
noncomputable def aH(H a:Hp):Prop:=∀b o,H b=some o->a b=some o
def aH.refl(H:Hp):aH H H:=λ_ _ h=>h
def aH.trans{H e d:Hp}(a:aH H e)(b:aH e d):aH H d:=λc o h=>b c o (a c o h)
def aH.free{H a:Hp}(e:aH H a){l:Addr}(h:a l=Option.none):H l=Option.none:=by
 cases q:H l with
 |none=>rfl
 |some o =>
  rw[e l o q]at h;cases h
end L2
end
section
namespace L2
open PySem PySem.Spec PyProof.Rows
noncomputable abbrev og:=List (List Key)
noncomputable def hN(w:World)(k:og):Int:=reduceHash (Builtin.Tuple.tupleHashOf (k.map λx=>reduceHash (Builtin.Tuple.tupleHashOf (x.map (Ez w)))))
noncomputable def Gd(w:World)(x:og×Addr×Value):DictEntry:=⟨hN w x.1,.ref x.2.1,x.2.2⟩
noncomputable abbrev KN:List (og×Addr×V)->List (og×Addr×Value)->Prop:=Paired λp q=>p.1=q.1/\p.2.1=q.2.1/\RelV p.2.2 q.2.2
noncomputable def DN(a:Addr)(d:List (og×Addr×V)):HO:=.ext λw h=>d.length<=sizeLine/\(a==sysModules)=false/\∃b:List (og×Addr×Value),KN d b ∧
 ∃o e f,h.get? a=some o/\o.ExactDict/\o.data=.dict e f/\e.toList=b.map (Gd w)/\(b.map (·.1)).Nodup
noncomputable def P8(H:Hp)(k:og)(b:Addr):Prop:=∃a:Xi,H b=some (.tup (a.map V.ref))/\Paired (λ(x:List Key) (c:Addr)=>H c=some (.tup (x.map kV))) k a
def P8.mono{H e:Hp}{k:og}{b:Addr}(x:P8 H k b)(t:∀a d,H a=some (.tup d)->e a=some (.tup d)):P8 e k b:=by
 obtain⟨f,h,r⟩:=x;exact⟨f,t _ _ h,Paired.LF r λ_ _ z=>t _ _ z⟩
end L2
end
section
namespace VS
open PySem PySem.Spec PyProof.Rows L2
noncomputable def sx(s:Tx):Str:=⟨s.toArray⟩
noncomputable def nX(s:Tx):Prop:=s.length<=dY/\∀c∈s,c<1114112
noncomputable abbrev Me:=Nat->Option V
structure Gx where
 K:Y2
 ct:Nat->Addr×(Nat->Str)
 me:Me:=λ_=>none
noncomputable def Gx.at(G:Gx)(m:Me):Gx:=⟨G.K,G.ct,m⟩
noncomputable def aB:Key->T
 |.inl i=>.int i
 |.inr x=>.str x.cps.toList
noncomputable def Vt(k:og):T:=.tup (k.map λx=>T.tup (x.map aB))
noncomputable def lD(K:Y2)(H:Hp)(a:Addr)(d:W3):Prop :=
 (∃o,H a=some (.frz o (.lst (d.map V.int)))) ∨
  ∃(o:Obj)(b:Array Value)(n:Nat),K.lookup a=some o/\o.cls=.type "list" ∧ o.dict=none/\o.data=.seq b n/\b.size<=sizeLine/\aT (d.map V.int) b.toList
mutual
inductive Rp(G:Gx)(H:Hp):V->T->Xi->Prop
 |non:Rp G H .non .non []
 |bl (b:Bool):Rp G H (.bl b) (.bl b) []
 |int (i:Int):Rp G H (.int i) (.int i) []
 |str (s:Tx):nX s->Rp G H (.str (sx s)) (.str s) []
 |scr {a:Addr} {ns:W3}:lD G.K H a ns->Rp G H (.ref a) (.scr ns) []
 |tup {a:Addr} {vs:List V} {ts:W8} {Fs:Yd}:H a=some (.tup vs)->RpL G H vs ts Fs->Rp G H (.ref a) (.tup ts) Fs.flatten
 |lst {a:Addr} {vs:List V} {ts:W8} {Fs:Yd}:H a=some (.lst vs)->RpL G H vs ts Fs->Rp G H (.ref a) (.lst ts) (a :: Fs.flatten)
 |dct {a:Addr} {ks:List Key} {vs:List V} {ts:W8} {Fs:Yd}:H a=some (.dK (ks.zip vs))->ks.length=vs.length->RpL G H vs ts Fs->Rp G H (.ref a) (.dct 0 ((ks.map aB).zip ts)) (a :: Fs.flatten)
 |dctT {a:Addr} {ks:List (List Key)} {vs:List V} {ts:W8} {Fs:Yd}:H a=some (.dT (ks.zip vs))->ks.length=vs.length->RpL G H vs ts Fs->Rp G H (.ref a) (.dct 1 ((ks.map λk=>T.tup (k.map aB)).zip ts)) (a :: Fs.flatten)
 |dctN {a:Addr} {ks:List (og×Addr)} {vs:List V} {ts:W8} {Fs:Yd}:H a=some (DN a ((ks.zip vs).map λp=>(p.1.1,p.1.2,p.2)))->ks.length=vs.length->(∀p∈ks,P8 H p.1 p.2)->RpL G H vs ts Fs->Rp G H (.ref a) (.dct 2 ((ks.map λp=>Vt p.1).zip ts)) (a :: Fs.flatten)
 |dctZ {a:Addr} {o:Obj} {ks:List Key} {vs:List V} {ts:W8} {Fs:Yd}:H a=some (.frz o (.dK (ks.zip vs)))->ks.length=vs.length->RpL G H vs ts Fs->Rp G H (.ref a) (.dct 3 ((ks.map aB).zip ts)) Fs.flatten
 |exc {c:Nat} {a:Addr} {o:Obj}:H a=some (.frz o (.own a))->(o.cls=.ref (G.ct c).1/\o.dict=none/\∃vs,o.data=.fields vs)->Rp G H (.ref a) (.obj c []) []
 |ins {c:Nat} {a dx:Addr} {b:Bool} {ks:W0} {vs:List V} {ts:W8} {Fs:Yd}:H a=some (.ins (G.ct (c+1)).1 dx ((ks.map (G.ct (c+1)).2).zip vs))->ks.length=vs.length->(b=true->G.me 0=some (.ref a))->RpL G H vs ts Fs->Rp G H (.ref a) (.obj (c+1) ((0,.bl b) :: ks.zip ts)) (a :: Fs.flatten)
 |mk {m:Nat} {a:Addr} {t:T} {F:Xi}:G.me m=some (.ref a)->Rp G H (.ref a) t F->Rp G H (.ref a) (.obj 0 [(0,.bl true),(m,t)]) F
inductive RpL(G:Gx)(H:Hp):List V->W8->Yd->Prop
 |nil:RpL G H [] [] []
 |cons {v:V} {t:T} {F:Xi} {vs:List V} {ts:W8} {Fs:Yd}:Rp G H v t F->RpL G H vs ts Fs->RpL G H (v :: vs) (t :: ts) (F :: Fs)
end
structure Kept(H H':Hp):Prop where
 tup:∀a xs,H a=some (.tup xs)->H' a=some (.tup xs)
 frz:∀a o u,H a=some (.frz o u)->H' a=some (.frz o u)
def Kept.refl(H:Hp):Kept H H:=⟨λ_ _ h=>h,λ_ _ _ h=>h⟩
def Kept.trans{H e d:Hp}(a:Kept H e)(b:Kept e d):Kept H d:=⟨λc x h=>b.tup c x (a.tup c x h),λc o u h=>b.frz c o u (a.frz c o u h)⟩
def Kept.of{H b:Hp}(e:aH H b):Kept H b:=⟨λa _ h=>e a _ h,λa _ _ h=>e a _ h⟩
theorem Kept.upd{H:Hp}{a:Addr}{o:HO}(d:GQ (H a)\/H a=none):Kept H (upd H a o):=by
 have ne:∀b u,H b=some u->¬GQ (some u)->b≠a:=λb u h nm e=>by
  subst e;rcases d with m | m
  ·rw[h]at m;exact nm m
  ·rw[h]at m;cases m
 exact⟨λb f h=>by rw[ay (ne b _ h λz=>z)];exact h,λb o u h=>by rw[ay (ne b _ h λz=>z)];exact h⟩
def lD.kept{K:Y2}{H d:Hp}{a:Addr}{b:W3}(h:lD K H a b)(k:Kept H d):lD K d a b:=by
 rcases h with⟨o,e⟩ | h
 ·exact .inl ⟨o,k.frz _ _ _ e⟩
 ·exact .inr h
def lD.seq{K:Y2}{H:Hp}{a:Addr}{b:W3}(h:lD K H a b):GY K H a (b.map V.int):=by
 rcases h with⟨o,e⟩ | h
 ·exact .inl (.inr ⟨o,e⟩)
 ·exact .inr h
def rj{H d:Hp}{a:Addr}{F:Xi}(f:∀b∈a :: F,∀o,H b=some o->d b=some o):∀b∈F,∀o,H b=some o->d b=some o:=λb m=>f b (Zy _ m)
def vy{H a:Hp}{F:Xi}{d:Yd}(f:∀b∈(F :: d).flatten,∀o,H b=some o->a b=some o):(∀b∈F,∀o,H b=some o->a b=some o)/\∀b∈d.flatten,∀o,H b=some o->a b=some o:=by
 rw[ZR]at f;exact⟨λb m=>f b (Kc _ m),λb m=>f b (ZU _ m)⟩
def Rp.keep{G:Gx}{H e:Hp}(k:Kept H e){v:V}{t:T}{F:Xi}(r:Rp G H v t F):(∀a∈F,∀o,H a=some o->e a=some o)->Rp G e v t F :=
 Rp.rec (motive_1:=λv t F _=>(∀a∈F,∀o,H a=some o->e a=some o)->Rp G e v t F) (motive_2:=λj q g _=>(∀a∈g.flatten,∀o,H a=some o->e a=some o)->RpL G e j q g)
  (λ_=>.non) (λb _=>.bl b) (λi _=>.int i) (λs h _=>.str s h) (λh _=>.scr (h.kept k)) (λh _ d f=>.tup (k.tup _ _ h) (d f)) (λh _ d f=>.lst (f _ Zx _ h) (d (rj f))) (λh l _ d f=>.dct (f _ Zx _ h) l (d (rj f))) (λh l _ d f=>.dctT (f _ Zx _ h) l (d (rj f)))
  (λh l n _ d f=>.dctN (f _ Zx _ h) l (λp m=>(n p m).mono k.tup) (d (rj f))) (λh l _ d f=>.dctZ (k.frz _ _ _ h) l (d f)) (λh x _=>.exc (k.frz _ _ _ h) x) (λh l m _ d f=>.ins (f _ Zx _ h) l m (d (rj f))) (λh _ d f=>.mk h (d f)) (λ_=>.nil) (λ_ _ w u f=>.cons (w (vy f).1) (u (vy f).2)) r
theorem RpL.keep{G:Gx}{H b:Hp}(k:Kept H b):∀{e:List V}{g:W8}{d:Yd},RpL G H e g d->(∀a∈d.flatten,∀o,H a=some o->b a=some o)->RpL G b e g d
 |_,_,_,.nil,_=>.nil
 |_,_,_,.cons r q,f=>.cons (r.keep k (vy f).1) (RpL.keep k q (vy f).2)
def Rp.same{G:Gx}{H b:Hp}(e:aH H b){v:V}{t:T}{F:Xi}(r:Rp G H v t F):Rp G b v t F:=r.keep (Kept.of e) λa _ o h=>e a o h
def RpL.same{G:Gx}{H b:Hp}(e:aH H b){v:List V}{t:W8}{F:Yd}(r:RpL G H v t F):RpL G b v t F:=r.keep (Kept.of e) λa _ o h=>e a o h
def xH{H:Hp}{a:Addr}{F:Xi}(h:GQ (H a))(d:∀b∈F,GQ (H b)):∀b∈a :: F,GQ (H b):=λb m=>(Zo.mp m).elim (λe=>e ▸ h) (d b)
def zF{H:Hp}{a:Addr}{o:HO}(h:H a=some o)(m:GQ (some o)):GQ (H a):=by rw[h];exact m
def Fq{H:Hp}{F:Xi}{a:Yd}(e:∀b∈F,GQ (H b))(d:∀b∈a.flatten,GQ (H b)):∀b∈(F :: a).flatten,GQ (H b):=λb m=>by
 rw[ZR]at m;exact(Ze.mp m).elim (e b) (d b)
def Rp.GX{G:Gx}{H:Hp}{v:V}{t:T}{F:Xi}(r:Rp G H v t F):∀a∈F,GQ (H a) :=
 Rp.rec (motive_1:=λv t F _=>∀a∈F,GQ (H a)) (motive_2:=λg i f _=>∀a∈f.flatten,GQ (H a))
  (λ_ m=>nomatch m) (λ_ _ m=>nomatch m) (λ_ _ m=>nomatch m) (λ_ _ _ m=>nomatch m) (λ_ _ m=>nomatch m) (λ_ _ b=>b) (λh _ b=>xH (zF h True.intro) b) (λh _ _ b=>xH (zF h True.intro) b) (λh _ _ b=>xH (zF h True.intro) b)
  (λh _ _ _ b=>xH (zF h True.intro) b) (λ_ _ _ b=>b) (λ_ _ _ m=>nomatch m) (λh _ _ _ b=>xH (zF h True.intro) b) (λ_ _ b=>b) (λ_ m=>nomatch m) (λ_ _ e d=>Fq e d) r
theorem RpL.GX{G:Gx}{H:Hp}:∀{d:List V}{e:W8}{b:Yd},RpL G H d e b->∀a∈b.flatten,GQ (H a)
 |_,_,_,.nil=>λ_ m=>nomatch m
 |_,_,_,.cons r q=>Fq r.GX (RpL.GX q)
def GQ.p0{o:Option HO}(m:GQ o):o≠none:=λe=>by subst e;exact m
def EX{F:Xi}{b:Yd}{t:T}{a:W8}(e:VS.GO t=true->F=[])(d:VS.cZ a=true->b.flatten=[])(i:VS.cZ (t :: a)=true):(F :: b).flatten=[]:=by
 simp only[VS.cZ,Zd]at i;rw[ZR,e i.1,d i.2];rfl
theorem Rp.GO{G:Gx}{H:Hp}{v:V}{t:T}{F:Xi}(r:Rp G H v t F):VS.GO t=true->F=[] :=
 Rp.rec (motive_1:=λv t F _=>VS.GO t=true->F=[]) (motive_2:=λg a f _=>VS.cZ a=true->f.flatten=[])
  (λ_=>rfl) (λ_ _=>rfl) (λ_ _=>rfl) (λ_ _ _=>rfl) (λ_ _=>rfl) (λ_ _ b i=>b (by simpa[VS.GO] using i)) (λ_ _ _ i=>absurd (show false=true from i) ZX) (λ_ _ _ _ i=>absurd (show false=true from i) ZX) (λ_ _ _ _ i=>absurd (show false=true from i) ZX)
  (λ_ _ _ _ _ i=>absurd (show false=true from i) ZX) (λ_ _ _ _ i=>absurd (show false=true from i) ZX) (λ_ _ _=>rfl) (λ_ _ _ _ _ i=>absurd (show false=true from i) ZX) (λ_ _ _ i=>absurd (show false=true from i) ZX) (λ_=>rfl) (λ_ _ e d i=>EX e d i) r
theorem RpL.GO{G:Gx}{H:Hp}:∀{d:List V}{a:W8}{b:Yd},RpL G H d a b->VS.cZ a=true->b.flatten=[]
 |_,_,_,.nil,_=>rfl
 |_,_,_,.cons r q,i=>EX r.GO (RpL.GO q) i
theorem RpL.len{G:Gx}{H:Hp}:∀{b:List V}{a:W8}{d:Yd},RpL G H b a d->b.length=a.length/\d.length=a.length
 |_,_,_,.nil=>⟨rfl,rfl⟩
 |_,_,_,.cons _ q=>by
  have:=RpL.len q;simp only[Zk];lia
theorem RpL.get{G:Gx}{H:Hp}:∀{a:List V}{b:W8}{d:Yd}(i:Nat){t:T},RpL G H a b d->b[i]?=some t->∃v F,a[i]?=some v/\d[i]?=some F/\Rp G H v t F
 |_,_,_,_,_,.nil,e=>by simp at e
 |_,_,_,0,_,.cons r _,e=>by
  simp at e;subst e;exact⟨_,_,rfl,rfl,r⟩
 |_,_,_,i+1,_,.cons _ q,e=>by
  obtain⟨v,F,h,g,f⟩:=RpL.get i q (by simpa using e);exact⟨v,F,by simpa using h,by simpa using g,f⟩
theorem RpL.append{G:Gx}{H:Hp}:∀{a:List V}{d:W8}{g:Yd}{b:List V}{e:W8}{f:Yd},RpL G H a d g->RpL G H b e f->RpL G H (a++b) (d++e) (g++f)
 |_,_,_,_,_,_,.nil,s=>s
 |_,_,_,_,_,_,.cons r q,s=>.cons r (RpL.append q s)
theorem RpL.take{G:Gx}{H:Hp}:∀{a:List V}{b:W8}{d:Yd}(n:Nat),RpL G H a b d->RpL G H (a.take n) (b.take n) (d.take n)
 |_,_,_,0,_=>by simpa using RpL.nil
 |_,_,_,n+1,.nil=>.nil
 |_,_,_,n+1,.cons r q=>.cons r (RpL.take n q)
theorem RpL.drop{G:Gx}{H:Hp}:∀{a:List V}{b:W8}{d:Yd}(n:Nat),RpL G H a b d->RpL G H (a.drop n) (b.drop n) (d.drop n)
 |_,_,_,0,q=>q
 |_,_,_,n+1,.nil=>.nil
 |_,_,_,n+1,.cons r q=>RpL.drop n q
noncomputable def iU:Cell->T
 |.pu t=>t
 |.ow t=>t
noncomputable abbrev GP:=Nat->Xi
structure SR(G:Gx)(Z:GP)(J:VS.Env)(O:L2.St)(H:Hp):Prop where
 len:J.length=O.length
 rp:∀i c,J[i]?=some (some c)->∃v,O[i]?=some (some v)/\Rp G H v (iU c) (Z i)
 nd:∀i t,J[i]?=some (some (.ow t))->(Z i).Nodup
 sep:∀i j t c,J[i]?=some (some (.ow t))->J[j]?=some (some c)->i≠j->∀a∈Z i,a∉Z j
noncomputable def cM(Z:GP)(J:VS.Env)(a:Addr):Prop:=∃j t,J[j]?=some (some (.pu t))/\a∈Z j
noncomputable def bw(Z:GP)(J:VS.Env)(a:Addr):Prop:=∃j t,J[j]?=some (some (.ow t))/\a∈Z j
noncomputable def Fp(Z:GP)(J:VS.Env)(H:Hp):Md->Xi->Prop
 |.fr,F=>F.Nodup/\∀a∈F,H a=none
 |.pu,F=>∀a∈F,H a=none\/cM Z J a
 |.bo,F=>∀a∈F,H a=none\/cM Z J a\/bw Z J a
theorem SR.same{G:Gx}{Z:GP}{J:VS.Env}{O:L2.St}{H a:Hp}(s:SR G Z J O H)(e:aH H a):SR G Z J O a :=
 ⟨s.len,λi c h=>let ⟨v,d,b⟩:=s.rp i c h;⟨v,d,b.same e⟩,s.nd,s.sep⟩
def SR.IP{G:Gx}{Z:GP}{J:VS.Env}{O:L2.St}{H:Hp}{a:Addr}(s:SR G Z J O H)(h:cM Z J a):GQ (H a):=by
 obtain⟨j,t,d,b⟩:=h;obtain⟨v,_,r⟩:=s.rp j _ d;exact r.GX a b
def SR.Hi{G:Gx}{Z:GP}{J:VS.Env}{O:L2.St}{H:Hp}{a:Addr}(s:SR G Z J O H)(h:bw Z J a):GQ (H a):=by
 obtain⟨j,t,d,b⟩:=h;obtain⟨v,_,r⟩:=s.rp j _ d;exact r.GX a b
def Fp.nil{Z:GP}{J:VS.Env}{H:Hp}{m:Md}:Fp Z J H m []:=by
 cases m
 ·exact⟨Yx,λa h=>by simp at h⟩
 ·exact λa h=>by simp at h
 ·exact λa h=>by simp at h
theorem Fp.bo{Z:GP}{J:VS.Env}{H:Hp}{F:Xi}:∀{m:Md},Fp Z J H m F->Fp Z J H .bo F
 |.fr,h=>λa m=>.inl (h.2 a m)
 |.pu,h=>λa m=>(h a m).elim .inl λz=>.inr (.inl z)
 |.bo,h=>h
theorem Fp.pu{Z:GP}{J:VS.Env}{H:Hp}{F:Xi}:∀{m:Md},m ≠ .bo->Fp Z J H m F->Fp Z J H .pu F
 |.fr,_,h=>λa m=>.inl (h.2 a m)
 |.pu,_,h=>h
 |.bo,n,_=>absurd rfl n
theorem Fp.back{Z:GP}{J:VS.Env}{H b:Hp}(e:aH H b){F:Xi}:∀{m:Md},Fp Z J b m F->Fp Z J H m F
 |.fr,h=>⟨h.1,λa m=>e.free (h.2 a m)⟩
 |.pu,h=>λa m=>(h a m).imp e.free id
 |.bo,h=>λa m=>(h a m).imp e.free id
theorem Fp.up{G:Gx}{Z:GP}{J:VS.Env}{H a:Hp}{m:Md}{v:V}{t:T}{F:Xi}(f:Fp Z J H m F)(r:Rp G a v t F):Fp Z J H (VS.up m t).1 F:=by
 unfold VS.up;by_cases h:VS.GO t=true
 ·rw[r.GO h];exact Fp.nil
 ·simp only[h,if_false,YM];exact f
noncomputable def tE(G:Gx)(c:Ex):TE:=λO H Q=>∃Z J m r,SR G Z J O H/\c J=some (m,r)/\∀v a F,aH H a->Rp G a v r F->Fp Z J H m F->Q v a
noncomputable def PV(G:Gx)(X:Cx)(e:Expr)(c:Ex):Prop:=PE X e (tE G c)
def PE.weak{X:Cx}{e:Expr}{t a:TE}(h:PE X e t)(w:∀O H Q,a O H Q->t O H Q):PE X e a:=λpins s O H Q I q=>h pins s O H Q I (w O H Q q)
def PT.weak{X:Cx}{e:Expr}{t a:TT}(h:PT X e t)(w:∀O H Q,a O H Q->t O H Q):PT X e a:=λpins s O H Q I q=>h pins s O H Q I (w O H Q q)
def PA.weak{X:Cx}{e:List Expr}{t a:TA}(h:PA X e t)(w:∀O H Q,a O H Q->t O H Q):PA X e a:=λpos pins s O H Q I q=>h pos pins s O H Q I (w O H Q q)
noncomputable def tT(G:Gx)(c:Ex):TT:=λO H Q=>∃Z J m r b,SR G Z J O H/\c J=some (m,r)/\Ld r=some b/\∀a,aH H a->Q b a
noncomputable def IC(G:Gx)(X:Cx)(e:Expr)(c:Ex):Prop:=PT X e (tT G c)
noncomputable def HS(l:W6)(a:Yd):Xi:=match l,a with
 |v :: l,F :: a=>match v.1 with
  |.fr=>F++HS l a
  |_=>HS l a
 |_,_=>[]
structure LX(Z:GP)(J:VS.Env)(H:Hp)(l:W6)(Fs:Yd):Prop where
 each:∀(i:Nat) v F,l[i]?=some v->Fs[i]?=some F->Fp Z J H v.1 F
 nd:(HS l Fs).Nodup
noncomputable def Ng(G:Gx)(c:Hf):TA:=λO H Q=>∃Z J l,SR G Z J O H/\c J=some l/\∀b a d,aH H a->RpL G a b (trees l) d->LX Z J H l d->Q b a
noncomputable def HP(G:Gx)(X:Cx)(a:List Expr)(c:Hf):Prop:=PA X a (Ng G c)
section
variable{G:Gx}{X:Cx}{a b c:Expr}{ca cb cc:Ex}{pos:Pos}
def ag{i j pos}:PV G X (.Constant (.int i) j pos) (Q2 i):=PE.weak p9 λO H Q d=>by
 obtain⟨Z,J,m,r,s,e,k⟩:=d;cases (show some (Md.fr,T.int i)=some (m,r) from e);exact k _ _ _ (aH.refl _) (.int i) Fp.nil
def qD{i j pos}:PV G X (.Constant (.bool i) j pos) (eC (.bl i)):=PE.weak ES λO H Q d=>by
 obtain⟨Z,J,m,r,s,e,k⟩:=d;cases (show some (Md.fr,T.bl i)=some (m,r) from e);exact k _ _ _ (aH.refl _) (.bl i) Fp.nil
def pL{j pos}:PV G X (.Constant .none j pos) (eC .non):=PE.weak Cg λO H Q d=>by
 obtain⟨Z,J,m,r,s,e,k⟩:=d;cases (show some (Md.fr,T.non)=some (m,r) from e);exact k _ _ _ (aH.refl _) .non Fp.nil
def jF{x:Str}{t:Tx}{j pos}(h:x=sx t:=by decide +kernel)(f:nX t:=by decide):PV G X (.Constant (.str x) j pos) (eC (.str t)):=PE.weak zR λO H Q d=>by
 obtain⟨Z,J,m,r,s,e,k⟩:=d;cases (show some (Md.fr,T.str t)=some (m,r) from e);subst h;exact k _ _ _ (aH.refl _) (.str t f) Fp.nil
def cX(i:Nat){x:Str}{g:Pos}(w:X.N[i]?=some x:=by rfl)(p:Ir X.env.scope x:=by first | exact Or.inl rfl | exact Or.inr (Or.inl rfl) | exact Or.inr (Or.inr rfl))(u:K3 x:=by decide)(j:K4 x:=by decide):PV G X (.Name x g) (aa i):=PE.weak (dM w p u j) λO H Q q=>by
 obtain⟨Z,J,m,r,s,e,k⟩:=q;unfold aa at e;split at e
 ·rename_i t h;obtain⟨v,n,d⟩:=s.rp _ _ h;have o:VS.up .pu t=(m,r):=Zm e;have y:t=r:=congrArg Prod.snd o;have em:(VS.up .pu t).1=m:=congrArg Prod.fst o;rw[← y,← em]at k;refine⟨v,n,k v H (Z i) (aH.refl _) d ?_⟩;have f:Fp Z J H .pu (Z i):=λa l=>.inr ⟨i,_,h,l⟩;exact f.up d
 ·rename_i t h;obtain⟨v,n,d⟩:=s.rp _ _ h;cases e;exact⟨v,n,k v H (Z i) (aH.refl _) d λa l=>.inr (.inr ⟨i,_,h,l⟩)⟩
 ·cases e
structure OV(G:Gx)(Z:GP)(J:VS.Env)(H0 H:Hp)(x y:Val)(u w:V)(F1 F2:Xi):Prop where
 same:aH H0 H
 r1:Rp G H u x.2 F1
 r2:Rp G H w y.2 F2
 f1:Fp Z J H0 x.1 F1
 f2:Fp Z J H0 y.1 F2
 nd:x.1=.fr->y.1=.fr->(F1++F2).Nodup
noncomputable def fK(G:Gx)(r:R2)(f:Val->Val->W7):Prop:=∀(Z:GP)(J:VS.Env)(e H:Hp)(x y:Val)(u w:V)(h g:Xi)(m:Md)(t:T)(Q:VK),OV G Z J e H x y u w h g->f x y=some (m,t) →
 (∀v d F,aH H d->Rp G d v t F->Fp Z J e m F->Q v d)->r u w H Q
def x9{O:L2.St}{H:Hp}{Q:V->V->Hp->Prop}{Z:GP}{J:VS.Env}{x y:Val}(s:SR G Z J O H)(m:ca J=some x)(l:cb J=some y)(k:∀u w d f e,OV G Z J H d x y u w f e->Q u w d):tE G ca O H λu g=>tE G cb O g λw d=>Q u w d:=by
 refine⟨Z,J,x.1,x.2,s,m,λu g f e1 r1 f1=>⟨Z,J,y.1,y.2,s.same e1,l,λw d e e2 r2 f2=>k u w d f e ⟨e1.trans e2,r1.same e2,r2,f1,f2.back e1,λi h=>?_⟩⟩⟩;rw[i]at f1;rw[h]at f2;refine ZO.mpr ⟨f1.1,f2.1,λa j b hb z=>?_⟩;subst z;exact GQ.p0 (r1.GX a j) (f2.2 a hb)
def mP{r:R2}{f:Val->Val->W7}(g:fK G r f){O:L2.St}{H:Hp}{Q:VK}(h:tE G (e2 f ca cb) O H Q):NN r (tE G ca) (tE G cb) O H Q:=by
 obtain⟨Z,J,m,t,s,e,k⟩:=h;unfold e2 at e;obtain⟨x,j,e⟩:=Zz.mp e;obtain⟨y,i,e⟩:=Zz.mp e;exact x9 s j i λu w l p o d=>g Z J H l x y u w p o m t Q d e λv n F e1 r1 f1=>k v n F (d.same.trans e1) r1 f1
def kJ{d:Operator}{r:R2}{f:Val->Val->W7}(g:OpR X (binaryOp d) r)(e:fK G r f)(j:PV G X a ca)(i:PV G X b cb):PV G X (.BinOp a d b pos) (e2 f ca cb) :=
 PE.weak (BX g j i) λO H Q h=>mP e h
noncomputable def Tells(f:Val->Val->W7):Prop:=∀x y m t,f x y=some (m,t)->∃b,t=.bl b
def Rp.HA{H:Hp}{v:V}{b:Bool}{F:Xi}(r:Rp G H v (.bl b) F):v=.bl b:=by cases r;rfl
def Rp.int_inv{H:Hp}{v:V}{b:Int}{F:Xi}(r:Rp G H v (.int b) F):v=.int b:=by cases r;rfl
def Rp.str_inv{H:Hp}{v:V}{b:Tx}{F:Xi}(r:Rp G H v (.str b) F):v=.str (sx b)/\nX b:=by cases r with | str _ h=>exact⟨rfl,h⟩
def mZ{c:Ex}{t:TE}{O:L2.St}{H:Hp}{Q:Bool->Hp->Prop}(h:tT G c O H Q)(f:∀J m r,c J=some (m,r)->∃b,r=.bl b)(w:∀Q,tE G c O H Q->t O H Q):zz t O H Q:=by
 obtain⟨Z,J,m,r,b,s,e,d,k⟩:=h;refine w _ ⟨Z,J,m,r,s,e,λv j F e1 r1 f1=>?_⟩;obtain⟨i,g⟩:=f J m r e;rw[g]at d r1;cases (show some i=some b from d);exact⟨_,r1.HA,k j e1⟩
def ik{d:CmpOp}{r:R2}{f:Val->Val->W7}(j:OpR X (compareOp d) r)(g:fK G r f)(i:Tells f)(o:PV G X a ca)(n:PV G X b cb)(l:behindInMarks d b=false):IC G X (.Compare a [d] [b] pos) (e2 f ca cb) :=
 PT.weak (vq j o n l) λO H Q h=>mZ h (λJ m r e=>by
  unfold e2 at e;obtain⟨x,_,e⟩:=Zz.mp e;obtain⟨y,_,e⟩:=Zz.mp e;exact i x y m r e) λQ h=>mP g h
def bG{Z:GP}{J:VS.Env}{e H:Hp}{m:Md}{t:T}{v:V}{Q:VK}(k:∀v d F,aH H d->Rp G d v t F->Fp Z J e m F->Q v d)(r:Rp G H v t []):Q v H:=k v H [] (aH.refl _) r Fp.nil
def cK{H:Hp}{p:Addr}{o:HO}(h:H p=none):aH H (upd H p o):=λb d e=>by rw[ay (bN e h)];exact e
theorem Fp.new{Z:GP}{J:VS.Env}{g:Hp}{p:Addr}{F:Xi}(d:g p=none)(h:p∉F):∀{m:Md},Fp Z J g m F->Fp Z J g m (p :: F)
 |.fr,f=>⟨Zf.mpr ⟨h,f.1⟩,λa m=>(Zo.mp m).elim (λe=>by rw[e];exact d) (f.2 a)⟩
 |.pu,f=>λa m=>(Zo.mp m).elim (λe=>by rw[e];exact .inl d) (f a)
 |.bo,f=>λa m=>(Zo.mp m).elim (λe=>by rw[e];exact .inl d) (f a)
def pS{d m:Md}{l:W8}{t:T}(e:IZ d l=some (m,t)):t=.lst l/\l.length<=dY/\m=(if cZ l then .fr else d):=by
 unfold IZ at e;split at e
 ·rename_i h;cases e;exact⟨rfl,h,rfl⟩
 ·cases e
def jg{Z:GP}{J:VS.Env}{i H:Hp}{q m:Md}{l:W8}{t:T}{o:List V}{n:Yd}{Q:VK}(d:aH i H)(e:IZ q l=some (m,t))(r:RpL G H o l n)(f:Fp Z J i q n.flatten)(k:∀v j F,aH H j->Rp G j v t F->Fp Z J i m F->Q v j):∀p,H p=none->Q (.ref p) (upd H p (.lst o)):=by
 intro p g;obtain⟨rfl,s,rfl⟩:=pS e;refine k _ _ _ (cK g) (.lst aw (r.same (cK g))) ?_;have np:p∉n.flatten:=λm=>GQ.p0 (r.GX p m) g;by_cases h:cZ l=true
 ·rw[h,Zq rfl];rw[r.GO h]at np ⊢;exact Fp.nil.new (d.free g) np
 ·rw[Zp h];exact f.new (d.free g) np
theorem OV.join{Z:GP}{J:VS.Env}{h H:Hp}{x y:Val}{u w:V}{f e:Xi}(i:OV G Z J h H x y u w f e){F:Xi}(g:F.Sublist (f++e)):Fp Z J h (x.1.join y.1) F:=by
 obtain⟨same,r1,r2,f1,f2,nd⟩:=i;have split:∀a∈F,a∈f\/a∈e:=λa d=>Ze.mp (g.subset d);obtain⟨l,x⟩:=x;obtain⟨j,y⟩:=y;have both:∀{P:Addr->Prop},(∀a∈f,P a)->(∀a∈e,P a)->∀a∈F,P a:=λn m a d=>(split a d).elim (n a) (m a);cases l<;>cases j
 ·exact⟨(nd rfl rfl).sublist g,both f1.2 f2.2⟩
 ·exact both (λa d=>.inl (f1.2 a d)) f2
 ·exact both (λa d=>.inl (f1.2 a d)) f2
 ·exact both f1 (λa d=>.inl (f2.2 a d))
 ·exact both f1 f2
 ·exact both (f1.bo) f2
 ·exact both f1 (λa d=>.inl (f2.2 a d))
 ·exact both f1 (f2.bo)
 ·exact both f1 f2
def fG:dY=sizeLine:=rfl
def dF(s:Tx):(sx s).length=s.length:=rfl
def Dj(s t:Tx):sx s++sx t=sx (s++t):=by
 show Str.append (sx s) (sx t)=_;simp[sx,Str.append]
def Rp.lst_inv{H:Hp}{v:V}{l:W8}{F:Xi}(r:Rp G H v (.lst l) F):∃a d e,v=.ref a/\F=a :: e.flatten/\H a=some (.lst d)/\RpL G H d l e:=by
 cases r with
 |lst h q=>exact⟨_,_,_,rfl,rfl,h,q⟩
def Rp.Hl{H:Hp}{v:V}{l:W8}{F:Xi}(r:Rp G H v (.tup l) F):∃a d e,v=.ref a/\F=e.flatten/\H a=some (.tup d)/\RpL G H d l e:=by
 cases r with
 |tup h q=>exact⟨_,_,_,rfl,rfl,h,q⟩
def Rp.LA{H:Hp}{v:V}{l:W3}{F:Xi}(r:Rp G H v (.scr l) F):∃a,v=.ref a/\F=[]/\lD G.K H a l:=by
 cases r with
 |scr h=>exact⟨_,rfl,rfl,h⟩
end
section
variable{G:Gx}{X:Cx}
noncomputable def FN:R2:=λx y H Q=>Kp (λi j=>.int (i+j)) x y H Q\/(∃i j,x=.str i/\y=.str j/\i.length+j.length<=sizeLine/\Q (.str (i++j)) H)\/Er x y H Q
def kM:OpR X (binaryOp .Add) FN:=CC.or (tq.or CP)
def nB:fK G FN bg:=by
 intro Z J D H x y u w A z m t Q f e k;have q:=λ{F:Xi} (h:List.Sublist F (A++z))=>f.join h;obtain⟨C,x⟩:=x;obtain⟨B,y⟩:=y;obtain⟨same,r1,r2,f1,f2,nd⟩:=f;unfold bg at e;split at e
 ·rename_i i _ j e1 e2;cases e1;cases e2;cases e;exact .inl ⟨_,_,r1.int_inv,r2.int_inv,bG k (.int _)⟩
 ·rename_i s _ p e1 e2;cases e1;cases e2;split at e
  ·rename_i d;cases e;refine .inr (.inl ⟨_,_,r1.str_inv.1,r2.str_inv.1,by rw[dF,dF,← fG];exact d,?_⟩);rw[Dj];exact bG k (.str _ ⟨by rw[Zs];exact d,λc r=>(Ze.mp r).elim (r1.str_inv.2.2 c) (r2.str_inv.2.2 c)⟩)
  ·cases e
 ·rename_i s _ p e1 e2;cases e1;cases e2;obtain⟨a,n,L,rfl,rfl,v,l⟩:=r1.lst_inv;obtain⟨b,o,E,rfl,rfl,hb,g⟩:=r2.lst_inv;obtain⟨_,d,_⟩:=pS e;refine .inr (.inr ⟨a,b,n,o,rfl,rfl,v,hb,?_,jg same e (l.append g) (q ?_) k⟩)
  ·rw[Zs]at d;rw[l.len.1,g.len.1,← fG];exact d
  ·rw[Yp];exact(Yl _ _).append (Yl _ _)
 ·cases e
def xV:fK G (Kp λi j=>.int (i-j)) vJ:=by
 intro Z J f H x y u w h g m t Q a e k;obtain⟨d,x⟩:=x;obtain⟨b,y⟩:=y;obtain⟨same,r1,r2,f1,f2,nd⟩:=a;unfold vJ at e;split at e
 ·rename_i e1 e2;cases e1;cases e2;cases e;exact⟨_,_,r1.int_inv,r2.int_inv,bG k (.int _)⟩
 ·cases e
def l9:fK G (rI Eg λi j=>.int (i/j)) jv:=by
 intro Z J f H x y u w l g m t Q a e k;obtain⟨d,x⟩:=x;obtain⟨b,y⟩:=y;obtain⟨same,r1,r2,f1,f2,nd⟩:=a;unfold jv at e;split at e
 ·rename_i e1 e2;cases e1;cases e2;split at e
  ·rename_i h;cases e;exact⟨_,_,r1.int_inv,r2.int_inv,h,bG k (.int _)⟩
  ·cases e
 ·cases e
def DW:fK G (rI (λ_ j=>0<j) λi j=>.int (i%j)) oMod:=by
 intro Z J f H x y u w l g m t Q a e k;obtain⟨d,x⟩:=x;obtain⟨b,y⟩:=y;obtain⟨same,r1,r2,f1,f2,nd⟩:=a;unfold oMod at e;split at e
 ·rename_i e1 e2;cases e1;cases e2;split at e
  ·rename_i h;cases e;exact⟨_,_,r1.int_inv,r2.int_inv,h,bG k (.int _)⟩
  ·cases e
 ·cases e
theorem fX:∀(s t:Tx),JJ s t=decide (s<t)
 |[],[]=>by simp[JJ]
 |[],_ :: _=>by simp[JJ]
 |_ :: _,[]=>by simp[JJ]
 |a :: s,b :: t=>by
  unfold JJ;rw[fX s t];by_cases e:a<b
  ·simp[e,Yf]
  ·by_cases d:b<a
   ·have:¬a=b:=by exact Wj d
    simp[e,d,Yf,this]
   ·have:a=b:=by lia
    subst this;simp[Yf]
noncomputable def SV:R2:=λx y H Q=>Kp (λi j=>.bl (decide (i<j))) x y H Q\/(∃i j,x=.str i/\y=.str j/\Q (.bl (decide (i.cps.toList<j.cps.toList))) H)
def pR:OpR X (compareOp .Lt) SV:=Ee.or wB
def vd:fK G SV oLt:=by
 intro Z J g H x y u w i h m t Q b e k;obtain⟨f,x⟩:=x;obtain⟨d,y⟩:=y;obtain⟨same,r1,r2,f1,f2,nd⟩:=b;unfold oLt at e;split at e
 ·rename_i e1 e2;cases e1;cases e2;cases e;exact .inl ⟨_,_,r1.int_inv,r2.int_inv,bG k (.bl _)⟩
 ·rename_i s _ a e1 e2;cases e1;cases e2;cases e;refine .inr ⟨_,_,r1.str_inv.1,r2.str_inv.1,?_⟩;have:decide ((sx s).cps.toList<(sx a).cps.toList)=JJ s a:=by rw[fX];exact decide_eq_decide.mpr (by simp[sx])
  rw[this];exact bG k (.bl _)
 ·cases e
def j6:Tells oLt:=by
 intro x y m t e;unfold oLt at e;split at e<;>first | (cases e;exact⟨_,rfl⟩) | cases e
def C3:O9=2 ^ 64:=rfl
def CV:fK G (rI Bf λi j=>.int (i*j)) gz:=by
 intro Z J f H x y u w l g m t Q a e k;obtain⟨d,x⟩:=x;obtain⟨b,y⟩:=y;obtain⟨same,r1,r2,f1,f2,nd⟩:=a;unfold gz at e;split at e
 ·rename_i e1 e2;cases e1;cases e2;split at e
  ·rename_i h;cases e;refine⟨_,_,r1.int_inv,r2.int_inv,?_,bG k (.int _)⟩;rw[C3]at h;exact h
  ·cases e
 ·cases e
def wU:OpR X (compareOp .LtE) (λx y H Q=>∃i j,x=.str i/\y=.str j/\Q (.bl (!decide (j.cps.toList<i.cps.toList))) H):=by
 intro pins s O H x y v u Q I b a h;obtain⟨i,j,rfl,rfl,q⟩:=h;obtain⟨t,rfl⟩:=b;obtain⟨d,rfl⟩:=a;exact PySem.P.le_str ⟨.bl _,H,I,rfl,q⟩
noncomputable def SW:R2:=λx y H Q=>Kp (λi j=>.bl (decide (i<=j))) x y H Q\/(∃i j,x=.str i/\y=.str j/\Q (.bl (!decide (j.cps.toList<i.cps.toList))) H)
def xF:OpR X (compareOp .LtE) SW:=EZ.or wU
def BU:fK G SW oLe:=by
 intro Z J g H x y u w i h m t Q b e k;obtain⟨f,x⟩:=x;obtain⟨d,y⟩:=y;obtain⟨same,r1,r2,f1,f2,nd⟩:=b;unfold oLe at e;split at e
 ·rename_i e1 e2;cases e1;cases e2;cases e;exact .inl ⟨_,_,r1.int_inv,r2.int_inv,bG k (.bl _)⟩
 ·rename_i s _ a e1 e2;cases e1;cases e2;cases e;refine .inr ⟨_,_,r1.str_inv.1,r2.str_inv.1,?_⟩;have:decide ((sx a).cps.toList<(sx s).cps.toList)=JJ a s:=by rw[fX];exact decide_eq_decide.mpr (by simp[sx])
  rw[this];exact bG k (.bl _)
 ·cases e
def yq:Tells oLe:=by
 intro x y m t e;unfold oLe at e;split at e<;>first | (cases e;exact⟨_,rfl⟩) | cases e
def sP{n:Nat}{i:Int}:Hu n i=MK n i:=by
 unfold Hu MK;by_cases h:0<=i
 ·rw[Zq h,Zq h]
 ·rw[Zp h,Zp h];by_cases a:0<=i+n
  ·rw[Zq a,Zq (by lia)]
  ·rw[Zp a,Zp (by lia)]
def iO{α:Type}{l:List α}{i:Int}{k:Nat}{x:α}(b:Hu l.length i=some k)(a:l[k]?=some x):Nd l i=some x:=by
 unfold Nd;rw[← sP,b];exact a
def bM{a:Yd}{F:Xi}{i:Nat}(h:a[i]?=some F):F.Sublist a.flatten:=by
 obtain⟨b,rfl⟩:=Zg.mp h;exact List.sublist_flatten_of_mem (ZG b)
theorem Fp.sub{Z:GP}{J:VS.Env}{H:Hp}{F d:Xi}(h:F.Sublist d):∀{m:Md},Fp Z J H m d->Fp Z J H m F
 |.fr,f=>⟨f.1.sublist h,λa b=>f.2 a (h.subset b)⟩
 |.pu,f=>λa b=>f a (h.subset b)
 |.bo,f=>λa b=>f a (h.subset b)
def ue:fK G (Qy G.K) aD:=by
 intro Z J M H x y u w O N m t Q B e k;obtain⟨L,x⟩:=x;obtain⟨E,y⟩:=y;obtain⟨same,r1,r2,f1,f2,nd⟩:=B;unfold aD at e;split at e
 ·rename_i p l o i e1 e2;cases e1;cases e2;obtain⟨j,d,e⟩:=Zz.mp e;obtain⟨x,b,e⟩:=Zw.mp e;obtain⟨a,n,D,rfl,rfl,q,h⟩:=r1.lst_inv;obtain⟨v,F,s,r,g⟩:=h.get j b;refine .inl ⟨a,n,i,v,rfl,r2.int_inv,GY.of q,iO (by rw[h.len.1];exact d) s,?_⟩;have f:=((f1.sub (Yl _ _)).sub (bM r)).up g;unfold VS.sub at e;rw[e]at f;have z:x=t:=congrArg Prod.snd e;rw[z]at g;exact k v H F (aH.refl _) g f
 ·rename_i p l o i e1 e2;cases e1;cases e2;obtain⟨j,d,e⟩:=Zz.mp e;obtain⟨x,b,e⟩:=Zw.mp e;obtain⟨a,n,D,rfl,rfl,q,h⟩:=r1.Hl;obtain⟨v,F,s,r,g⟩:=h.get j b;refine .inr (.inl ⟨a,n,i,v,rfl,r2.int_inv,HD.of q,iO (by rw[h.len.1];exact d) s,?_⟩);have f:=(f1.sub (bM r)).up g;unfold VS.sub at e;rw[e]at f;have z:x=t:=congrArg Prod.snd e;rw[z]at g;exact k v H F (aH.refl _) g f
 ·rename_i p l o i e1 e2;cases e1;cases e2;obtain⟨j,d,e⟩:=Zz.mp e;obtain⟨x,b,e⟩:=Zw.mp e;cases e;obtain⟨a,rfl,rfl,sa⟩:=r1.LA;refine .inl ⟨a,l.map V.int,i,.int x,rfl,r2.int_inv,sa.seq,iO (by rw[Zu];exact d) (by rw[ZY,b];rfl),bG k (.int _)⟩
 ·rename_i p l o i e1 e2;cases e1;cases e2;obtain⟨j,d,e⟩:=Zz.mp e;obtain⟨x,b,e⟩:=Zw.mp e;cases e;obtain⟨rfl,A⟩:=r1.str_inv;refine .inr (.inr ⟨sx l,i,x,rfl,r2.int_inv,by rw[dF,← fG];exact A.1,iO (k:=j) (by simpa[sx] using d) (by simpa[sx] using b),?_⟩);exact bG k (.str [x] ⟨by show 1<=dY;decide,λc C=>by rw[Zj.mp C];exact A.2 x (Yc b)⟩)
 ·cases e
end
section
variable{G:Gx}{X:Cx}{a b c e:Expr}{es:List Expr}{ca cb cc:Ex}{cs:Hf}{pos p:Pos}
theorem vF{x:Addr}:∀{l:W6}{d:Yd},x∈HS l d->∃(i:Nat)(v:Val)(F:Xi),l[i]?=some v/\v.1=.fr/\d[i]?=some F/\x∈F
 |[],_,h=>by simp[HS]at h
 |_ :: _,[],h=>by simp[HS]at h
 |v :: l,F :: d,h=>by
  have go:x∈HS l d->∃(i:Nat)(u:Val)(f:Xi),(v :: l)[i]?=some u/\u.1=.fr/\(F :: d)[i]?=some f/\x∈f:=λm=>by
   obtain⟨i,u,f,q,o,n,j⟩:=vF m;exact⟨i+1,u,f,by simpa using q,o,by simpa using n,j⟩
  unfold HS at h;split at h
  ·rename_i g;rcases Ze.mp h with h | h
   ·exact⟨0,v,F,rfl,g,rfl,h⟩
   ·exact go h
  ·exact go h
def ak:HP G X [] ah:=PA.weak fD λO H Q d=>by
 obtain⟨Z,J,l,s,e,k⟩:=d;cases (show some ([]:W6)=some l from e);exact k [] H [] (aH.refl _) .nil ⟨λi v F h=>by simp at h,by simp[HS]⟩
def ae(B:PV G X e ca)(w:HP G X es cs)(t:K1 e es X:=by rfl):HP G X (e :: es) (ab ca cs):=PA.weak (cP B w t) λO H Q A=>by
 obtain⟨Z,J,l,s,e,k⟩:=A;unfold ab at e;obtain⟨x,L,e⟩:=Zz.mp e;obtain⟨j,E,e⟩:=Zz.mp e;cases e;refine⟨Z,J,x.1,x.2,s,L,λv P F e1 r1 f1=>⟨Z,J,j,s.same e1,E,λm M N e2 r2 f2=>k (v :: m) M (F :: N) (e1.trans e2) (.cons (r1.same e2) r2) ⟨λi u h g d=>?_,?_⟩⟩⟩
 ·cases i with
  |zero =>
   cases (show some x=some u from g);cases (show some F=some h from d);exact f1
  |succ i=>exact(f2.each i u h (by simpa using g) (by simpa using d)).back e1
 ·unfold HS;split
  ·rename_i r;rw[r]at f1;refine ZO.mpr ⟨f1.1,f2.nd,λy o z n q=>?_⟩;subst q;obtain⟨i,u,h,g,d,D,C⟩:=vF n;have f:=f2.each i u h g D;rw[d]at f;exact GQ.p0 (r1.GX y o) (f.2 y C)
  ·exact f2.nd
theorem km:∀{l:W6},cy l=.fr->∀v∈l,v.1=.fr
 |[],_,v,h=>by simp at h
 | (m,t) :: r,e,v,h=>by
  have d:m.join (cy r)=.fr:=e;have g:m=.fr:=by
   revert d;cases m<;>cases cy r<;>simp[Md.join]
  have f:cy r=.fr:=by
   revert d;cases m<;>cases cy r<;>simp[Md.join]
  rcases Zo.mp h with rfl | h
  ·exact g
  ·exact km f v h
theorem kF:∀{l:W6},cy l ≠ .bo->∀v∈l,v.1 ≠ .bo
 |[],_,v,h=>by simp at h
 | (m,t) :: r,e,v,h=>by
  have d:m.join (cy r) ≠ .bo:=e;have g:m ≠ .bo:=by
   revert d;cases m<;>cases cy r<;>simp[Md.join]
  have f:cy r ≠ .bo:=by
   revert d;cases m<;>cases cy r<;>simp[Md.join]
  rcases Zo.mp h with rfl | h
  ·exact g
  ·exact kF f v h
theorem uy:∀{l:W6}{d:Yd},l.length=d.length->(∀v∈l,v.1=.fr)->HS l d=d.flatten
 |[],[],_,_=>rfl
 |[],_ :: _,h,_=>by simp at h
 |_ :: _,[],h,_=>by simp at h
 |v :: l,F :: d,h,q=>by
  unfold HS;rw[q v Zx,uy (by simpa using h) λu f=>q u (Zy _ f)];rfl
def gg{x:Addr}{d:Yd}(h:x∈d.flatten):∃(i:Nat)(F:Xi),d[i]?=some F/\x∈F:=by
 obtain⟨F,j,f⟩:=WV.mp h;obtain⟨i,g⟩:=List.mem_iff_getElem?.mp j;exact⟨i,F,g,f⟩
def LX.join{Z:GP}{J:VS.Env}{H:Hp}{l:W6}{j:Yd}(f:LX Z J H l j)(n:l.length=j.length):Fp Z J H (cy l) j.flatten:=by
 have at':∀x∈j.flatten,∃v F,v∈l/\x∈F/\Fp Z J H v.1 F:=λx d=>by
  obtain⟨i,F,m,g⟩:=gg d;have:i<l.length:=by
   have:=(Zg.mp m).1;lia
  exact⟨l[i],F,ZG this,g,f.each i _ F (Zt this) m⟩
 cases e:cy l with
 |fr =>
  have al:=km e;refine⟨by rw[← uy n al];exact f.nd,λx d=>?_⟩;obtain⟨v,F,h,g,q⟩:=at' x d;rw[al v h]at q;exact q.2 x g
 |pu =>
  have al:=kF (l:=l) (by rw[e];decide);intro x d;obtain⟨v,F,h,g,q⟩:=at' x d;exact Fp.pu (al v h) q x g
 |bo =>
  intro x d;obtain⟨v,F,h,g,q⟩:=at' x d;exact q.bo x g
structure Args(G:Gx)(Z:GP)(J:VS.Env)(H0 H:Hp)(l:W6)(vs:List V)(Fs:Yd):Prop where
 same:aH H0 H
 rp:RpL G H vs (trees l) Fs
 fp:LX Z J H0 l Fs
theorem Args.len{Z:GP}{J:VS.Env}{g H:Hp}{l:W6}{f:List V}{d:Yd}(A:Args G Z J g H l f d):l.length=d.length:=by
 have:=A.rp.len.2;simp[trees]at this;exact Eq.symm this
noncomputable def fC(G:Gx)(r:List V->Hp->VK->Prop)(f:W6->W7):Prop:=∀(Z:GP)(J:VS.Env)(h H:Hp)(l:W6)(g:List V)(i:Yd)(m:Md)(t:T)(Q:VK),Args G Z J h H l g i->f l=some (m,t) →
 (∀v d F,aH H d->Rp G d v t F->Fp Z J h m F->Q v d)->r g H Q
def B6{r:List V->Hp->VK->Prop}{f:W6->W7}(h:fC G r f){O:L2.St}{H:Hp}{Q:VK}{J:VS.Env}{Z:GP}{l:W6}{m:Md}{t:T}(s:SR G Z J O H)(i:cs J=some l)(e:f l=some (m,t))(k:∀v d F,aH H d->Rp G d v t F->Fp Z J H m F->Q v d):Ng G cs O H λg n=>r g n Q :=
 ⟨Z,J,l,s,i,λg d o e1 r1 f1=>h Z J H d l g o m t Q ⟨e1,r1,f1⟩ e λv j F e2 r2 f2=>k v j F (e1.trans e2) r2 f2⟩
def ke{r:List V->Hp->VK->Prop}{f:W6->W7}{d:String}{x:Str}(q:dI X (.builtin d) r)(g:fC G r f)(o:Gl X x)(n:X.mg x=none)(h:bootBuiltins x=some (.builtin d))(u:HP G X (e :: es) cs)(j:x ≠ "__name__" := by decide)(w:K3 x:=by decide)(he:K1 e es X:=by rfl)(hpl:K2 pos es X:=by rfl):PV G X (.Call (.Name x p) (e :: es) [] pos) (eN f cs) :=
 PE.weak (qI q o n h u j w he hpl) λO H Q i=>by
  obtain⟨Z,J,m,t,s,e,k⟩:=i;unfold eN at e;obtain⟨l,v,e⟩:=Zz.mp e;exact B6 g s v e k
def ji{r:List V->Hp->VK->Prop}{f:W6->W7}{Ty:String}{x:Str}(o:dI X (.type Ty) r)(d:fC G r f)(n:Gl X x)(j:X.mg x=none)(g:bootBuiltins x=some (.type Ty))(q:HP G X (e :: es) cs)(i:x ≠ "__name__" := by decide)(v:K3 x:=by decide)(he:K1 e es X:=by rfl)(hpl:K2 pos es X:=by rfl):PV G X (.Call (.Name x p) (e :: es) [] pos) (eN f cs) :=
 PE.weak (v7 o n j g q i v he hpl) λO H Q h=>by
  obtain⟨Z,J,m,t,s,e,k⟩:=h;unfold eN at e;obtain⟨l,u,e⟩:=Zz.mp e;exact B6 d s u e k
def dD(h:HP G X es cs):PV G X (.List es pos) (dW cs):=PE.weak (t7 h) λO H Q f=>by
 obtain⟨Z,J,m,t,s,e,k⟩:=f;unfold dW at e;obtain⟨l,i,e⟩:=Zz.mp e;refine⟨Z,J,l,s,i,λd n o e1 r1 f1=>?_⟩;have A:Args G Z J H n l d o:=⟨e1,r1,f1⟩
 obtain⟨_,g,_⟩:=pS e;refine⟨by rw[r1.len.1,← fG];exact g,jg e1 e r1 (f1.join A.len) λv j F e2 r2 f2=>k v j F (e1.trans e2) r2 f2⟩
def gM{x1}(h:HP G X es cs):PV G X (.Tuple es x1 pos) (fB cs):=PE.weak (Dy h) λO H Q d=>by
 obtain⟨Z,J,m,t,s,e,k⟩:=d;unfold fB at e;obtain⟨l,n,e⟩:=Zz.mp e;refine⟨Z,J,l,s,n,λf g i e1 r1 f1=>?_⟩;have A:Args G Z J H g l f i:=⟨e1,r1,f1⟩
 unfold rR at e;split at e
 ·rename_i j;cases e;refine⟨by rw[r1.len.1,← fG,trees,Zu];exact j,λq d=>?_⟩;have r2:Rp G (upd g q (.tup f)) (.ref q) (.tup (trees l)) i.flatten:=.tup aw (r1.same (cK d));exact k _ _ _ (e1.trans (cK d)) r2 (Fp.up (f1.join A.len) r2)
 ·cases e
def An{H:Hp}{v:V}{t:T}{F:Xi}{k:Bool}(r:Rp G H v t F)(h:Ld t=some k):DG G.K v H k:=by
 cases r with
 |non=>cases h;rfl
 |bl b=>cases h;rfl
 |int i=>cases h;rfl
 |str s j =>
  cases h;refine⟨by rw[dF,← fG];exact j.1,?_⟩;rw[dF];cases s with
  |nil=>rfl
  |cons a r =>
   have:((List.length (a :: r):Int) != 0)=true:=by simp;lia
   rw[this];rfl
 |scr d=>cases h
 |tup d q =>
  cases h;refine .inr (.inl ⟨_,HD.of d,?_⟩);have:=q.len.1;rename_i f g _;cases f<;>cases g<;>simp_all
 |lst d q =>
  cases h;refine .inl ⟨_,GY.of d,?_⟩;have:=q.len.1;rename_i f g _;cases f<;>cases g<;>simp_all
 |dct d j q =>
  cases h;refine .inr (.inr ⟨_,d,?_⟩);have:=q.len.1;rename_i ks f g _;cases ks<;>cases f<;>cases g<;>simp_all
 |dctT d j q=>cases h
 |dctN d j n q=>cases h
 |dctZ _ _ _=>cases h
 |exc _ _=>cases h
 |ins _ _ _ _=>cases h
 |mk _ _=>cases h
def mh(h:PV G X a ca)(f:X.K=G.K:=by rfl)(d:∀whole,isTrue a X.env whole=(do let v ← whole;standAt a.pos;holding [v] (truthy v)):=by intro _;rfl):IC G X a ca :=
 PT.weak (xu h d) λO H Q ⟨Z,J,m,r,b,s,e,g,k⟩=>⟨Z,J,m,r,s,e,λv i F e1 r1 f1=>⟨b,by rw[f];exact An r1 g,k i e1⟩⟩
noncomputable def JS(G:Gx)(X:Cx)(e:Expr)(c:Ex):Prop:=PW X e (tT G c)
def PW.weak{X:Cx}{e:Expr}{t d:TT}(h:PW X e t)(w:∀O H Q,d O H Q->t O H Q):PW X e d:=λf pins s O H Q I q=>h f pins s O H Q I (w O H Q q)
def JS.LB(h:JS G X e ca):IC G X e ca:=PW.pt h
variable{rest:List Expr}
def rS{J:VS.Env}{m:Md}{r:T}(e:fN ca cb J=some (m,r)):(∃n,ca J=some (n,.bl true)/\cb J=some (m,r))\/(∃n,ca J=some (n,.bl false)/\m=.fr/\r=.bl false):=by
 unfold fN at e;obtain⟨⟨n,x⟩,d,e⟩:=Zz.mp e;split at e
 ·rename_i h;cases (show x=.bl true from h);exact .inl ⟨n,d,e⟩
 ·rename_i h;cases (show x=.bl false from h);cases e;exact .inr ⟨n,d,rfl,rfl⟩
 ·cases e
def AW{J:VS.Env}{m:Md}{r:T}(e:Mn ca cb J=some (m,r)):(∃n,ca J=some (n,.bl false)/\cb J=some (m,r))\/(∃n,ca J=some (n,.bl true)/\m=.fr/\r=.bl true):=by
 unfold Mn at e;obtain⟨⟨n,x⟩,d,e⟩:=Zz.mp e;split at e
 ·rename_i h;cases (show x=.bl true from h);cases e;exact .inr ⟨n,d,rfl,rfl⟩
 ·rename_i h;cases (show x=.bl false from h);exact .inl ⟨n,d,e⟩
 ·cases e
def jo(j:IC G X a ca)(i:JS G X (.BoolOp .And (b :: rest) pos) cb):JS G X (.BoolOp .And (a :: b :: rest) pos) (fN ca cb) :=
 PW.weak (ze j i) λO H Q h=>by
  obtain⟨Z,J,m,r,k,s,e,f,q⟩:=h;rcases rS e with⟨n,d,e2⟩ | ⟨n,d,rfl,rfl⟩
  ·refine⟨Z,J,n,_,true,s,d,rfl,λg e1=>?_⟩;refine vW ?_;exact⟨Z,J,m,r,k,s.same e1,e2,f,λl e2=>q l (e1.trans e2)⟩
  ·refine⟨Z,J,n,_,false,s,d,rfl,λg e1=>?_⟩;refine vS ?_;cases f;exact q g e1
def sC(j:IC G X a ca)(i:JS G X (.BoolOp .Or (b :: rest) pos) cb):JS G X (.BoolOp .Or (a :: b :: rest) pos) (Mn ca cb) :=
 PW.weak (En j i) λO H Q h=>by
  obtain⟨Z,J,m,r,k,s,e,f,q⟩:=h;rcases AW e with⟨n,d,e2⟩ | ⟨n,d,rfl,rfl⟩
  ·refine⟨Z,J,n,_,false,s,d,rfl,λg e1=>?_⟩;refine vS ?_;exact⟨Z,J,m,r,k,s.same e1,e2,f,λl e2=>q l (e1.trans e2)⟩
  ·refine⟨Z,J,n,_,true,s,d,rfl,λg e1=>?_⟩;refine vW ?_;cases f;exact q g e1
def qr{J:VS.Env}{m:Md}{r:T}(e:lT ca J=some (m,r)):∃n b,ca J=some (n,.bl b)/\m=.fr/\r=.bl (!b):=by
 unfold lT at e;obtain⟨⟨n,x⟩,d,e⟩:=Zz.mp e;split at e
 ·rename_i b h;cases (show x=.bl b from h);cases e;exact⟨n,b,d,rfl,rfl⟩
 ·cases e
def j5(f:IC G X a ca):IC G X (.UnaryOp .Not a pos) (lT ca):=PT.weak (DZ f) λO H Q d=>by
 obtain⟨Z,J,m,r,k,s,e,g,q⟩:=d;obtain⟨n,b,h,rfl,rfl⟩:=qr e;cases g;exact⟨Z,J,n,_,b,s,h,rfl,λi e1=>q i e1⟩
def Cf(f:PV G X a ca):PV G X (.UnaryOp .Not a pos) (lT ca):=PE.weak (Dd f) λO H Q d=>by
 obtain⟨Z,J,m,r,s,e,q⟩:=d;obtain⟨n,b,g,rfl,rfl⟩:=qr e;exact⟨Z,J,n,_,s,g,λv h F e1 r1 f1=>⟨b,r1.HA,q _ h _ e1 (.bl _) Fp.nil⟩⟩
def zA{op}(h:PV G X a ca):PV G X (.BoolOp op [a] pos) ca:=Dk h
def yu(i:PV G X a ca)(h:PV G X (.BoolOp .And (b :: rest) pos) cb):PV G X (.BoolOp .And (a :: b :: rest) pos) (fN ca cb) :=
 PE.weak (Cv i h) λO H Q g=>by
  obtain⟨Z,J,m,r,s,e,q⟩:=g;rcases rS e with⟨n,d,e2⟩ | ⟨n,d,rfl,rfl⟩
  ·refine⟨Z,J,n,_,s,d,λv f F e1 r1 f1=>⟨true,r1.HA,?_⟩⟩;refine vW ?_;exact⟨Z,J,m,r,s.same e1,e2,λv j F e2 r2 f2=>q v j F (e1.trans e2) r2 (f2.back e1)⟩
  ·refine⟨Z,J,n,_,s,d,λv f F e1 r1 f1=>⟨false,r1.HA,?_⟩⟩;refine vS ?_;exact q _ f _ e1 (.bl _) Fp.nil
def uP{H:Hp}{v:V}{t:T}{F:Xi}(r:Rp G H v t F):decide (v=.non)=Nl t:=by
 cases r<;>simp[Nl]
def BI{t:TE}{c:Ex}{O:L2.St}{H:Hp}{Q:Bool->Hp->Prop}(h:tT G c O H Q)(f:∀J m r,c J=some (m,r)->∃b,r=.bl b)(w:∀Q,tE G c O H Q->t O H Q):tB t O H Q:=by
 obtain⟨Z,J,m,r,b,s,e,d,k⟩:=h;refine w _ ⟨Z,J,m,r,s,e,λv j F e1 r1 f1=>?_⟩;obtain⟨i,g⟩:=f J m r e;rw[g]at d r1;cases (show some i=some b from d);exact⟨_,r1.HA,k j e1⟩
end
section
variable{G:Gx}{X:Cx}{a b c e:Expr}{es:List Expr}{ca cb cc:Ex}{cs:Hf}{pos p:Pos}
def RpL.one{H:Hp}{vs:List V}{t:T}{Fs:Yd}(r:RpL G H vs [t] Fs):∃v F,vs=[v]/\Fs=[F]/\Rp G H v t F:=by
 cases r with
 |cons r q=>cases q;exact⟨_,_,rfl,rfl,r⟩
noncomputable def EC(K:Y2):List V->Hp->VK->Prop:=λd H Q=>(∃x n,d=[x]/\Ec K x H n/\Q (.int n) H)\/(∃a f,d=[V.ref a]/\H a=some (.dK f)/\Q (.int f.length) H)
def sG:dI X (.builtin "len") (λf H Q=>∃a d,f=[V.ref a]/\H a=some (.dK d)/\Q (.int d.length) H):=by
 intro pins s O H f l Q I r h;obtain⟨a,d,rfl,i,q⟩:=h;obtain⟨u,rfl,g⟩:=vals1 r;cases g;exact Fz I (.inl i) λt m j=>⟨.int d.length,H,j,⟨t,rfl⟩,q⟩
def wQ:dI X (.builtin "len") (EC X.K):=xq.or sG
def Dh:fC G (EC G.K) bx:=by
 intro Z J B H l j o m t Q A e k;refine L2.gI λz f=>?_;unfold bx at e;split at e
 ·rename_i x;obtain⟨y,x⟩:=x;obtain⟨n,d,e⟩:=Zw.mp e;cases e;obtain⟨v,F,rfl,rfl,r⟩:=(show RpL G H j [x] o from A.rp).one;have fin:Q (.int (n:Int)) H:=bG k (.int _);cases r with
  |non=>cases d
  |bl b=>cases d
  |int i=>cases d
  |str s g =>
   cases d;refine f ?_;exact .inl ⟨_,_,rfl,⟨by rw[dF,← fG];exact g.1,rfl⟩,by rw[dF];exact fin⟩
  |scr h =>
   cases d;refine f ?_;refine .inl ⟨_,_,rfl,.inl ⟨_,h.seq,rfl⟩,?_⟩;rw[Zu];exact fin
  |tup h q =>
   cases d;refine f ?_;refine .inl ⟨_,_,rfl,.inr ⟨_,HD.of h,rfl⟩,?_⟩;rw[q.len.1];exact fin
  |lst h q =>
   cases d;refine f ?_;refine .inl ⟨_,_,rfl,.inl ⟨_,GY.of h,rfl⟩,?_⟩;rw[q.len.1];exact fin
  |dct h g q =>
   cases d;refine f ?_;refine .inr ⟨_,_,rfl,h,?_⟩;rename_i ks u w _;have e1:=q.len.1;rw[Ju,Zu]at fin;rw[Ju,e1];exact fin
  |dctT h g q=>cases d
  |dctN h g n q=>cases d
  |dctZ _ _ _=>cases d
  |exc _ _=>cases d
  |ins _ _ _ _=>cases d
  |mk _ _=>cases d
 ·cases e
noncomputable def BS(K:Y2):List V->Hp->VK->Prop:=λf H Q=>∃p d,f=[.ref p]/\(GY K H p d\/HD K H p d)/\∀l,H l=none->Q (.ref l) (upd H l (.lst d))
def uZ:fC G (BS G.K) B8:=by
 intro Z J r H l j n m t Q A e k;unfold B8 at e;split at e
 ·rename_i o x;obtain⟨v,F,rfl,rfl,g⟩:=(show RpL G H j [.lst x] n from A.rp).one;obtain⟨a,d,q,rfl,rfl,i,h⟩:=g.lst_inv;have f:=A.fp.each 0 _ _ rfl rfl;exact⟨a,d,rfl,.inl (GY.of i),jg A.same e h (f.sub (Yl _ _)) k⟩
 ·rename_i o x;obtain⟨v,F,rfl,rfl,g⟩:=(show RpL G H j [.tup x] n from A.rp).one;obtain⟨a,d,q,rfl,rfl,i,h⟩:=g.Hl;have f:=A.fp.each 0 _ _ rfl rfl;exact⟨a,d,rfl,.inr (HD.of i),jg A.same e h f k⟩
 ·cases e
noncomputable def tO(G:Gx)(c:Option Ex):TO:=λO H Q=>∃Z J o,SR G Z J O H/\vh c J=some o/\∀d,aH H d->Q o d
noncomputable def P7(G:Gx)(X:Cx)(e:Option Expr)(c:Option Ex):Prop:=PO X e (tO G c)
def PO.weak{X:Cx}{e:Option Expr}{t d:TO}(h:PO X e t)(w:∀O H Q,d O H Q->t O H Q):PO X e d:=λpins s O H Q I q=>h pins s O H Q I (w O H Q q)
def nO:P7 G X none none:=PO.weak uQ λO H Q d=>by
 obtain⟨Z,J,o,s,e,k⟩:=d;cases (show some (none:Option Int)=some o from e);exact k H (aH.refl _)
def i7(h:PV G X a ca):P7 G X (some a) (some ca):=PO.weak (uA h) λO H Q f=>by
 obtain⟨Z,J,o,s,e,k⟩:=f;obtain⟨⟨m,y⟩,g,e⟩:=Zz.mp (show (ca J).bind (λy=>(int? y.2).map some)=some o from e);obtain⟨i,d,e⟩:=Zw.mp e;cases e;refine⟨Z,J,m,y,s,g,λv l F e1 r1 f1=>?_⟩;cases y with
 |int j =>
  cases d;exact⟨_,r1.int_inv,k l e1⟩
 |_=>cases d
def kY{α:Type}(l:List α)(d f:Option Int):cut l d f=(l.drop (HT.Ht l.length 0 d)).take (HT.Ht l.length l.length f-HT.Ht l.length 0 d):=by
 unfold cut;cases d<;>cases f<;>rfl
def yF(d f:Option Int)(n:Nat):Builtin.Str.strSliceIndices d f 1 n=Builtin.Str.strSliceIndices (some ((min (HT.Ht n 0 d) n:Nat):Int)) (some ((min (HT.Ht n n f) n:Nat):Int)) 1 n:=by
 have e1:∀k:Nat,¬((k:Int)<0):=λk=>by lia
 unfold Builtin.Str.strSliceIndices;simp only[show (1:Int) > 0 by decide,if_true,e1,if_false];congr 1
 ·cases d with
  |none=>simp only[HT.Ht];lia
  |some i =>
   simp only[HT.Ht];by_cases h:i<0
   ·simp only[h,if_true];lia
   ·simp only[h,if_false];lia
 ·cases f with
  |none=>simp only[HT.Ht];lia
  |some i =>
   simp only[HT.Ht];by_cases h:i<0
   ·simp only[h,if_true];lia
   ·simp only[h,if_false];lia
def jw(s:Tx)(d f:Option Int):PySem.StrLaws.sliceText (sx s) d f=sx (cut s d f):=by
 have key:PySem.StrLaws.sliceText (sx s) d f=PySem.StrLaws.sliceText (sx s) (some ((min (HT.Ht s.length 0 d) s.length:Nat):Int)) (some ((min (HT.Ht s.length s.length f) s.length:Nat):Int)):=by
  unfold PySem.StrLaws.sliceText;rw[dF,yF]
 rw[key];have hd:∀a:Nat,s.drop (min a s.length)=s.drop a:=λa=>by
  by_cases h:a<=s.length
  ·rw[Y9 h]
  ·rw[X2 (by exact XQ h),Y8 (Zh _),Y8 (by exact XQ h)]
 by_cases h:min (HT.Ht s.length 0 d) s.length<=min (HT.Ht s.length s.length f) s.length
 ·rw[PySem.StrLaws.sliceText_nat (sx s) h (by rw[dF];exact Nat.min_le_right _ _),kY];show (⟨_⟩:Str)=⟨_⟩;congr 2;show ((sx s).cps.toList.drop _).take _=_;have:(sx s).cps.toList=s:=rfl;rw[this,hd];by_cases i:HT.Ht s.length 0 d<=s.length
  ·rw[Y9 i];by_cases g:HT.Ht s.length s.length f<=s.length
   ·rw[Y9 g]
   ·rw[X2 (by exact XQ g),YT (by rw[Yh];exact Zh _),YT (by rw[Yh];lia)]
  ·rw[Y8 (by exact XQ i)];simp
 ·have j:cut s d f=[]:=by
   rw[kY];have:HT.Ht s.length s.length f-HT.Ht s.length 0 d=0:=by omega
   rw[this,List.take_zero]
  rw[j];unfold PySem.StrLaws.sliceText;have e2:Builtin.Str.strSliceIndices (some ((min (HT.Ht s.length 0 d) s.length:Nat):Int)) (some ((min (HT.Ht s.length s.length f) s.length:Nat):Int)) 1 (sx s).length=[]:=by
   have e1:∀k:Nat,¬((k:Int)<0):=λk=>by lia
   unfold Builtin.Str.strSliceIndices sliceRange;simp only[show (1:Int) > 0 by decide,if_true,e1,if_false,dF];rw[Zp (by omega)];rfl
  rw[e2];have:¬((1:Int)==1&&([]:W0).length==(sx s).length)=true:=by
   rw[dF];simp;lia
  rw[Zp this];rfl
noncomputable def ED:V->Option Int->Option Int->Hp->VK->Prop:=λx lo d H Q=>∃z,x=.str z/\z.length<=sizeLine/\Q (.str (PySem.StrLaws.sliceText z lo d)) H
def part_of{v:Value}{o:Option Int}(h:IsPart v o):∃q:Option (Int×Tok),v=partValue q/\o=q.map (·.1):=by
 cases h with
 |none=>exact⟨none,rfl,rfl⟩
 |int i t=>exact⟨some (i,t),rfl,rfl⟩
def qh{α β:Type}(f:α->Option β)(l:List α):(l.filterMap f).length<=l.length:=List.length_filterMap_le f l
def Bh(d f:Option Int)(n:Nat):(Builtin.Str.strSliceIndices d f 1 n).length<=n:=by
 rw[yF];by_cases h:min (HT.Ht n 0 d) n<=min (HT.Ht n n f) n
 ·rw[PySem.StrLaws.strSliceIndices_plain h (by exact Nat.min_le_right _ _),Zu,ZJ];lia
 ·have e1:∀k:Nat,¬((k:Int)<0):=λk=>by lia
  unfold Builtin.Str.strSliceIndices sliceRange;simp only[show (1:Int) > 0 by decide,if_true,e1,if_false];rw[Zp (by omega)];simp
def zm:Mp X ED:=by
 intro pins s O H x v n m lo r o Q I f j g pu h;obtain⟨z,rfl,i,q⟩:=h;obtain⟨t,rfl⟩:=f;obtain⟨l,rfl,rfl⟩:=part_of g;obtain⟨u,rfl,rfl⟩:=part_of pu;refine⟨"str",_,F.slot_str_getitem.lookup,typeIs_str s z t,wpAny_getItem_str_slice (l:=l) (u:=u) (st:=none) j rfl ?_⟩;unfold sliceMade;split
 ·rename_i d;refine⟨.str z,H,I,⟨t,rfl⟩,?_⟩;have e:PySem.StrLaws.sliceText z (l.map (·.1)) (u.map (·.1))=z:=by
   unfold PySem.StrLaws.sliceText;exact Zq d
  rw[e]at q;exact q
 ·rename_i d;refine⟨ZI ?_ i,.str _,H,I.tok _,⟨_,rfl⟩,?_⟩
  ·show (List.filterMap _ _).toArray.size<=_;rw[ZS];exact ZI (qh _ _) (Bh _ _ _)
  ·have e:PySem.StrLaws.sliceText z (l.map (·.1)) (u.map (·.1))=⟨((slicePicked z l u none).filterMap (z.cps[·]?)).toArray⟩:=by
    unfold PySem.StrLaws.sliceText;exact Zp d
   rw[e]at q;exact q
noncomputable def U6(K:Y2):V->Option Int->Option Int->Hp->VK->Prop:=λx lo d H Q=>ED x lo d H Q\/EY K x lo d H Q
def GD:Mp X (U6 X.K):=zm.or AR
def vn{α:Type}(l:List α)(d f:Option Int):(cut l d f).length<=l.length:=by
 rw[kY,YX,Yh];lia
theorem RpL.cut{H:Hp}{g:List V}{i:W8}{j:Yd}(r:RpL G H g i j)(d f:Option Int):RpL G H (wx g d f) (VS.cut i d f) (VS.cut j d f):=by
 have h:=r.len;rw[kY,kY,h.2];unfold wx;rw[h.1];exact(r.drop _).take _
def pj{α:Type}(l:List α)(d f:Option Int):(VS.cut l d f).Sublist l:=by
 rw[kY];exact(List.take_sublist _ _).trans (List.drop_sublist _ _)
def zB{F G:Yd}(h:F.Sublist G):F.flatten.Sublist G.flatten:=by
 induction h with
 |slnil=>exact XU _
 |cons a _ d=>rw[ZR];exact d.trans (YF _ _)
 |cons_cons a _ d=>rw[ZR,ZR];exact(XU _).append d
def ku{j n:Option Expr}{u w:Option Ex}{E:Pos}(S:PV G X a ca)(d:P7 G X j u)(P:P7 G X n w)(U:X.K=G.K:=by rfl):PV G X (.Subscript a (.Slice j n none E) pos) (Kx ca u w) :=
 PE.weak (rP GD S d P) λO H Q N=>by
  obtain⟨Z,J,m,t,s,e,k⟩:=N;unfold Kx at e;obtain⟨⟨L,x⟩,ea,r⟩:=Zz.mp e;obtain⟨l,el,y⟩:=Zz.mp r;obtain⟨h,eh,f⟩:=Zz.mp y;clear e r y;refine⟨Z,J,L,x,s,ea,λv H1 F e1 r1 f1=>⟨Z,J,l,s.same e1,el,λH2 e2=>⟨Z,J,h,(s.same e1).same e2,eh,λA o=>?_⟩⟩⟩;have g:aH H A:=(e1.trans e2).trans o;have i:=(r1.same e2).same o;unfold S7 at f;split at f
  ·rename_i M z q;cases q;cases f;obtain⟨rfl,d⟩:=i.str_inv;refine .inl ⟨_,rfl,by rw[dF,← fG];exact d.1,?_⟩;rw[jw];exact k _ A _ g (.str _ ⟨ZI (vn _ _ _) d.1,λc R=>d.2 c ((pj _ _ _).subset R)⟩) Fp.nil
  ·rename_i M z q;cases q;obtain⟨a',B,Fs,rfl,rfl,GR,C⟩:=i.lst_inv;refine .inr ⟨a',B,rfl,by rw[U];exact GY.of GR,jg g f (C.cut l h) ((f1.sub (Yl _ _)).sub (zB (pj _ _ _))) λv H4 F e5 D Y=>k v H4 F (g.trans e5) D Y⟩
  ·cases f
noncomputable def Km:Ty->String
 |.int => "int"
 |.str => "str"
 |.bool => "bool"
 |.list => "list"
 |.tuple => "tuple"
 |.dict => "dict"
noncomputable def U7(K:Y2):List V->Hp->VK->Prop:=λd H Q=>∃x c t b,d=[x,.ty c]/\HN K H x t/\PySem.W.kitOne K t (.type c)=some b/\Q (.bl b) H
def Bx:dI X (.builtin "isinstance") (U7 X.K):=by
 intro pins s O H d g Q I r h;obtain⟨x,c,t,b,rfl,ty,e,q⟩:=h;obtain⟨u,f,rfl,r1,r2⟩:=vals2 r;cases r2;exact v8 I r1 ty e λi=>⟨.bl b,H,I.tok _,rfl,q⟩
def AF(K:Y2)(d:Ty):(PySem.W.kitOne K (.type "NoneType") (.type (Km d))=some false)/\(PySem.W.kitOne K (.type "bool") (.type (Km d))=some (qQ d (.bl true)))/\(PySem.W.kitOne K (.type "int") (.type (Km d))=some (qQ d (.int 0))) ∧
  (PySem.W.kitOne K (.type "str") (.type (Km d))=some (qQ d (.str [])))/\(PySem.W.kitOne K (.type "list") (.type (Km d))=some (qQ d (.lst [])))/\(PySem.W.kitOne K (.type "tuple") (.type (Km d))=some (qQ d (.tup [])))/\(PySem.W.kitOne K (.type "dict") (.type (Km d))=some (qQ d (.dct 0 []))):=by
 cases d<;>refine⟨?_,?_,?_,?_,?_,?_,?_⟩<;>kernel_rfl
def EV{H:Hp}{v:V}{t:T}{F:Xi}(d:Ty)(r:Rp G H v t F)(h:uh t=true):∃g,HN G.K H v g/\PySem.W.kitOne G.K g (.type (Km d))=some (qQ d t):=by
 obtain⟨y,x,w,u,o,m,j⟩:=AF G.K d;cases r with
 |non=>exact⟨_,.non,by rw[y];cases d<;>rfl⟩
 |bl b=>exact⟨_,.bl b,by rw[x];cases d<;>rfl⟩
 |int i=>exact⟨_,.int i,by rw[w];cases d<;>rfl⟩
 |str s _=>exact⟨_,.str _,by rw[u];cases d<;>rfl⟩
 |scr _=>cases h
 |tup f q=>exact⟨_,.tup f,by rw[m];cases d<;>rfl⟩
 |lst f q=>exact⟨_,.lst f,by rw[o];cases d<;>rfl⟩
 |dct f l q=>exact⟨_,.dK f,by rw[j];cases d<;>rfl⟩
 |dctT f l q=>exact⟨_,.dT f,by rw[j];cases d<;>rfl⟩
 |dctN f l n q=>simp at h
 |dctZ _ _ _=>cases h
 |exc _ _=>cases h
 |ins _ _ _ _=>cases h
 |mk _ _=>cases h
def Ft(f:Ty){x:Str}{n d:Pos}(B:PV G X a ca)(A:Gl X "isinstance")(w:X.mg "isinstance" = none)(M:Gl X x)(L:X.mg x=none)(q:bootBuiltins x=some (.type (Km f)))(j:X.K=G.K:=by rfl)(u:x ≠ "__name__" := by decide)(P:K3 x:=by decide)(i:starEach [a,.Name x d] X.env=(false,eval a X.env) :: starEach [.Name x d] X.env:=by rfl)(N:starEach [.Name x d] X.env=(false,eval (.Name x d) X.env) :: starEach [] X.env:=by rfl)(g:(backTo pos (starEach [Expr.Name x d] X.env)).any (·.1)=false:=by rfl) :
  PV G X (.Call (.Name "isinstance" n) [a,.Name x d] [] pos) (M6 f ca) :=
 PE.weak (qI Bx A w boot_isinstance (cP B (cP (BE (v:=.ty (Km f)) M L q rfl u P) fD N) i) (by decide) rfl i g) λO H Q r=>by
  obtain⟨Z,J,m,t,s,e,k⟩:=r;unfold M6 at e;obtain⟨⟨o,y⟩,E,h⟩:=Zz.mp e;split at h
  ·rename_i z;cases h;refine⟨Z,J,o,y,s,E,λv R F e1 r1 f1=>?_⟩;obtain⟨l,D,C⟩:=EV f r1 z;exact⟨v,Km f,l,_,rfl,by rw[j];exact D,by rw[j];exact C,k _ R _ e1 (.bl _) Fp.nil⟩
  ·cases h
end
section
variable{G:Gx}{X:Cx}{a b c e:Expr}{es:List Expr}{ca cb cc:Ex}{cs:Hf}{pos p:Pos}
noncomputable def EN(G:Gx)(r:V->List V->Hp->VK->Prop)(f:Val->W6->W7):Prop:=∀(Z:GP)(J:VS.Env)(d i H:Hp)(x:Val)(v:V)(F:Xi)(l:W6)(h:List V)(j:Yd)(m:Md)(t:T)(Q:VK),
 aH d i->Rp G H v x.2 F->Fp Z J d x.1 F->Args G Z J i H l h j->f x l=some (m,t)->(∀v g F,aH H g->Rp G g v t F->Fp Z J d m F->Q v g)->r v h H Q
def EL{n j:String}{d:Str}{r:V->List V->Hp->VK->Prop}{f:Val->W6->W7}{g i:Pos}(A:PlainAttrs n)(h:Slot n d j)(MP:typeOf (.builtin j)=pure (.type "method_descriptor"))(L:Nz X j r)(B:EN G r f)(N:∀H v (x:Val) F l z,Rp G H v x.2 F->f x l=some z->tyV G.K n v H)(E:PV G X a ca)(M:HP G X (e :: es) cs)(P:X.K=G.K:=by rfl)(G2:attributeBase a d X.env (eval a X.env)=eval a X.env:=by rfl)(Hj:((backTo i (starEach (e :: es) X.env)).all (λx=>!x.1)&&(backToKw i (keywordEach [] X.env)).all (λx=>x.1.isSome)
   && decide ((e :: es).length+([]:List Keyword).length+(if ([]:List Keyword).isEmpty then 0 else 1)<30))=true:=by rfl)(GW:(g.endLine==i.line)=true:=by rfl)(C:K1 e es X:=by rfl)(GT:K2 i es X:=by rfl) :
  PV G X (.Call (.Attribute a d g) (e :: es) [] i) (eM f ca cs) :=
 PE.weak (lJ A h MP L E M G2 Hj GW C GT) λO H Q D=>by
  obtain⟨Z,J,m,t,s,e,k⟩:=D;unfold eM at e;obtain⟨x,U,e'⟩:=Zz.mp e;obtain⟨l,S,o⟩:=Zz.mp e';refine⟨Z,J,x.1,x.2,s,U,λv q F e1 r1 f1=>⟨by rw[P];exact N q v x F l _ r1 o,Z,J,l,s.same e1,S,λu H2 Fs e2 r2 f2=>?_⟩⟩;exact B Z J H q H2 x v F l u Fs m t Q e1 (r1.same e2) f1 ⟨e2,r2,f2⟩ o λw H3 F' Y y R=>k w H3 F' ((e1.trans e2).trans Y) y R
def Av:∀(sep:Tx)(d:List Tx),Txt.join (sx sep) (d.map sx)=sx (dm sep d):=by
 intro sep d;have fold:∀(l:List Tx)(acc:Tx),(l.map sx).foldl (λacc p=>acc++(sx sep).cps++p.cps) acc.toArray=(l.foldl (λacc p=>acc++sep++p) acc).toArray:=by
  intro l
  induction l with
  |nil=>intro acc;rfl
  |cons x r f =>
   intro acc;rw[Zl,YL,YL,← f];congr 1;simp[sx]
 have g:∀(r:List Tx)(acc:Tx),r.foldl (λacc p=>acc++sep++p) acc=dm sep (acc :: r):=by
  intro r
  induction r with
  |nil=>intro acc;rfl
  |cons x r f =>
   intro acc;rw[YL,f];cases r with
   |nil=>rfl
   |cons y r=>simp[dm]
 cases d with
 |nil=>rfl
 |cons x r =>
  show (⟨_⟩:Str)=⟨_⟩;congr 1;show ((r.map sx).foldl _ x.toArray)=_;rw[fold,g]
theorem pE{H:Hp}:∀{d:List V}{l:W8}{g:Yd}{f:List Tx},RpL G H d l g->strs? l=some f->d=f.map λs=>V.str (sx s)
 |_,_,_,_,.nil,e=>by cases e;rfl
 |_,_,_,_,.cons (t:=t) r q,e=>by
  cases t with
  |str s =>
   simp only[strs?]at e;obtain⟨h,e1,e2⟩:=Zw.mp e;subst e2;rw[pE q e1,r.str_inv.1];rfl
  |_=>cases e
theorem mF:∀{d:List Tx}{f:Xg},aT (d.map λs=>V.str (sx s)) f->StrsAre f (d.map sx)
 |[],_,h=>by cases h;exact .nil
 |s :: d,_,h=>by
  cases h with
  |cons r q =>
   obtain⟨t,rfl⟩:=r;exact .cons _ _ (mF q)
noncomputable def rJoin(K:Y2):V->List V->Hp->VK->Prop:=λx f H Q=>∃sep p d,x=.str (sx sep)/\f=[.ref p]/\GY K H p (d.map λs=>V.str (sx s))/\total d+d.length*sep.length<=16777216/\Q (.str (sx (dm sep d))) H
theorem uI:∀d:List Tx,((d.map sx).map (·.length)).sum=total d
 |[]=>rfl
 |s :: r=>by
  rw[Zl,Zl,Xj,uI r,dF];rfl
def uR:Nz X "str.join" (rJoin X.K):=by
 intro pins s O H x n v o Q I f m h;obtain⟨sep,p,d,rfl,rfl,j,l,q⟩:=h;obtain⟨t,rfl⟩:=f;obtain⟨u,rfl,g⟩:=vals1 m;cases g;obtain⟨z,r,i,y⟩:=I.list j;refine join_list i.isList (ys:=d.map sx) (by simpa using mF r) ?_ λw k=>⟨.str _,H,I.tok _,⟨_,by rw[Av]⟩,q⟩
 rw[uI,Zu,dF];exact l
theorem jY(d:Tx):∀f:List Tx,(dm d f).length<=total f+f.length*d.length
 |[]=>by simp[dm,total]
 |[x]=>by simp[dm,total]
 |x :: y :: r=>by
  have:=jY d (y :: r);simp only[dm,total,Zs,Zk]at this ⊢;have e:(r.length+1+1)*d.length=(r.length+1)*d.length+d.length:=Nat.succ_mul _ _;lia
theorem jX(d:Tx):∀(f:List Tx)(c:Nat),c∈dm d f->c∈d\/∃s∈f,c∈s
 |[],c,h=>by simp[dm]at h
 |[x],c,h=>.inr ⟨x,Zx,h⟩
 |x :: y :: r,c,h=>by
  simp only[dm,Ze]at h;rcases h with (h | h) | h
  ·exact .inr ⟨x,Zx,h⟩
  ·exact .inl h
  ·exact(jX d (y :: r) c h).imp id λ⟨s,g,i⟩=>⟨s,Zy _ g,i⟩
theorem jP{H:Hp}:∀{g:List V}{l:W8}{h:Yd}{f:List Tx},RpL G H g l h->strs? l=some f->∀s∈f,∀c∈s,c<1114112
 |_,_,_,_,.nil,e,s,d=>by cases e;simp at d
 |_,_,_,_,.cons (t:=t) r q,e,s,d=>by
  cases t with
  |str x =>
   simp only[strs?]at e;obtain⟨i,e1,e2⟩:=Zw.mp e;subst e2;rcases Zo.mp d with rfl | d
   ·exact r.str_inv.2.2
   ·exact jP q e1 s d
  |_=>cases e
def Am:EN G (rJoin G.K) jt:=by
 intro Z J P O H x v F l o D m t Q q r f A e k;unfold jt at e;split at e
 ·rename_i M sep N w;obtain⟨d,n,g⟩:=Zz.mp e;split at g
  ·rename_i i;cases g;obtain⟨L,S,rfl,rfl,u⟩:=(show RpL G H o [.lst w] D from A.rp).one;obtain⟨z,E,R,rfl,rfl,j,h⟩:=u.lst_inv;rw[pE h n]at j;refine⟨sep,z,d,r.str_inv.1,rfl,GY.of j,i,bG k (.str _ ⟨ZI (jY sep d) i,λc y=>(jX sep d c y).elim (r.str_inv.2.2 c) λ⟨s,C,B⟩=>jP h n s C c B⟩)⟩
  ·cases g
 ·cases e
def q8{H:Hp}{v:V}{t:T}{F:Xi}(r:Rp G H v t F)(h:∃s,t=.str s):tyV G.K "str" v H:=by
 obtain⟨s,rfl⟩:=h;rw[r.str_inv.1];rfl
def Bq{d f:Pos}(i:PV G X a ca)(j:HP G X [e] cs)(g:X.K=G.K:=by rfl)(q:attributeBase a "join" X.env (eval a X.env)=eval a X.env:=by rfl)(m:((backTo f (starEach [e] X.env)).all (λx=>!x.1)&&(backToKw f (keywordEach [] X.env)).all (λx=>x.1.isSome)
   && decide ([e].length+([]:List Keyword).length+(if ([]:List Keyword).isEmpty then 0 else 1)<30))=true:=by rfl)(n:(d.endLine==f.line)=true:=by rfl)(h:K1 e [] X:=by rfl)(o:(backTo f (starEach [] X.env)).any (·.1)=false:=by rfl) :
  PV G X (.Call (.Attribute a "join" d) [e] [] f) (eM jt ca cs) :=
 EL PySem.F.plainAttrs_str PySem.F.slot_str_join PySem.F.type_str_join (g ▸ uR) Am (λH v x F l z r e=>q8 r (by
  unfold jt at e;split at e
  ·exact⟨_,rfl⟩
  ·cases e)) i j g q m n h o
end
end VS
end
section
namespace VS
@[simp] noncomputable def HR(x y:Val):W7:=match x.2 with
 |.dct 0 l=>if fL y.2 then (cR l y.2).map (sub x.1) else none
 |_=>aD x y
@[simp] noncomputable def flat:T->Bool
 |.non=>true
 |.bl _=>true
 |.int _=>true
 |.str _=>true
 |_=>false
@[simp] noncomputable def nJ(x y:Val):W7:=match y.2 with
 |.dct 0 l=>if fL x.2 then some (.fr,.bl (cR l x.2).isSome) else none
 |.lst l=>if flat x.2&&l.all flat then some (.fr,.bl (l.any λy=>eqT y x.2)) else none
 |.tup l=>if flat x.2&&l.all flat then some (.fr,.bl (l.any λy=>eqT y x.2)) else none
 |_=>none
@[simp] noncomputable def dc(x y:Val):W7:=match nJ x y with
 |some (_,.bl b)=>some (.fr,.bl (!b))
 |_=>none
noncomputable def pm{α:Type}(f:T->Option (T×α)):List Ky->T->Option (T×α)
 |[],t=>f t
 |.fld k :: r,.obj (c+1) (q :: fs)=>(fs.findIdx? λp=>p.1==k).bind λi=>(fs[i]?).bind λp=>(pm f r p.2).map λz=>(.obj (c+1) (q :: fs.set i (p.1,z.1)),z.2)
 |.un :: r,.obj 0 [(0,.bl true),(m,x)]=>(pm f r x).map λz=>(.obj 0 [(0,.bl true),(m,z.1)],z.2)
 |.at (.int i) :: r,.lst l=>(Hu l.length i).bind λj=>(l[j]?).bind λx=>(pm f r x).map λz=>(.lst (l.set j z.1),z.2)
 |.at k :: r,.dct 0 l=>if fL k then (l.findIdx? λp=>eqT p.1 k).bind λi=>(l[i]?).bind λp=>(pm f r p.2).map λz=>(.dct 0 (l.set i (p.1,z.1)),z.2) else none
 |_,_=>none
end VS
end
section
namespace VS
open PySem PySem.Spec PyProof.Rows L2
section
variable{G:Gx}{X:Cx}{a b c e:Expr}{es:List Expr}{ca cb cc:Ex}{cs:Hf}{pos p:Pos}
mutual
noncomputable def Iv:T->PyData
 |.non=>.none
 |.bl b=>.bool b
 |.int i=>.int i
 |.str s=>.str (sx s)
 |.tup l=>.tuple (ny l)
 |.lst l=>.list (ny l)
 |_=>.none
noncomputable def ny:W8->List PyData
 |[]=>[]
 |t :: r=>Iv t :: ny r
end
def ET{s:Tx}(h:nX s):PyData.strOk (sx s)=true:=by
 unfold PyData.strOk sx;simp only[Array.all_eq_true,decide_eq_true_eq];intro i a;have:s.toArray[i]∈s:=by simp
 have:=h.2 _ this;simpa using this
def yz{s t:Tx}:(sx s==sx t)=(s==t):=by
 rw[Xh,beq_iff_eq,beq_iff_eq];constructor
 ·intro h;have:(sx s).cps=(sx t).cps:=by rw[h]
  simpa[sx] using this
 ·intro h;rw[h]
mutual
theorem pF:∀(n k:Nat)(t u:T),HC n t=true->HC k u=true->PyData.eqv (Iv t) (Iv u)=eqT t u
 |n,k,t,u,b,a=>by
  cases t with
  |scr _=>cases n<;>simp at b
  |dct _ _=>cases n<;>simp at b
  |obj _ _=>cases n<;>simp at b
  |tup l =>
   cases n with
   |zero=>simp at b
   |succ n =>
    cases u with
    |tup r =>
     cases k with
     |zero=>simp at a
     |succ k =>
      simp only[Iv,PyData.eqv,eqT];exact m7 n k l r (by simpa using b) (by simpa using a)
    |scr _=>cases k<;>simp at a
    |dct _ _=>cases k<;>simp at a
    |obj _ _=>cases k<;>simp at a
    |_=>simp[Iv,PyData.eqv,eqT]
  |lst l =>
   cases n with
   |zero=>simp at b
   |succ n =>
    cases u with
    |lst r =>
     cases k with
     |zero=>simp at a
     |succ k =>
      simp only[Iv,PyData.eqv,eqT];exact m7 n k l r (by simpa using b) (by simpa using a)
    |scr _=>cases k<;>simp at a
    |dct _ _=>cases k<;>simp at a
    |obj _ _=>cases k<;>simp at a
    |_=>simp[Iv,PyData.eqv,eqT]
  |str s =>
   cases u with
   |str r=>simp only[Iv,PyData.eqv,eqT];exact yz
   |scr _=>cases k<;>simp at a
   |dct _ _=>cases k<;>simp at a
   |obj _ _=>cases k<;>simp at a
   |_=>simp[Iv,PyData.eqv,eqT]
  |_ =>
   cases u with
   |scr _=>cases k<;>simp at a
   |dct _ _=>cases k<;>simp at a
   |obj _ _=>cases k<;>simp at a
   |_=>simp[Iv,PyData.eqv,eqT]
theorem m7:∀(n k:Nat)(l r:W8),(∀t∈l,HC n t=true)->(∀t∈r,HC k t=true)->PyData.eqvAll (ny l) (ny r)=sZ l r
 |_,_,[],[],_,_=>rfl
 |_,_,[],_ :: _,_,_=>rfl
 |_,_,_ :: _,[],_,_=>rfl
 |n,k,t :: l,u :: r,d,b=>by
  simp only[ny,PyData.eqvAll,sZ];rw[pF n k t u (d t Zx) (b u Zx),m7 n k l r (λx a=>d x (Zy _ a)) λx a=>b x (Zy _ a)]
end
def Rp.KI{H:Hp}{v:V}{d:W8}{F:Xi}(r:Rp G H v (.tup d) F):∃b a e,v=.ref b/\H b=some (.tup a)/\RpL G H a d e:=by
 cases r with
 |tup h q=>exact⟨_,_,_,rfl,h,q⟩
def Rp.KW{H:Hp}{v:V}{d:W8}{F:Xi}(r:Rp G H v (.lst d) F):∃b a e,v=.ref b/\H b=some (.lst a)/\RpL G H a d e:=by
 cases r with
 |lst h q=>exact⟨_,_,_,rfl,h,q⟩
theorem lh{H:Hp}{s:Shared}{n:Nat}(f:∀{v:V}{t:T}{F:Xi}{u:Value},Rp G H v t F->RelV v u->HC n t=true->∃b,Reads s.heap u (Iv t) b/\(Iv t).canLay0=true/\(Iv t).depth<=n):∀{d:List V}{a:W8}{o:Yd}{e:Xg},RpL G H d a o->aT d e->(∀t∈a,HC n t=true) →
  ∃b,ReadsAll s.heap e (ny a) b/\PyData.canLayAll0 (ny a)=true/\PyData.depthAll (ny a)<=n
 |_,_,_,_,.nil,r,_=>by cases r;exact⟨_,.nil,rfl,Yv _⟩
 |_,_,_,_,.cons p q,r,h=>by
  cases r with
  |cons r1 r2 =>
   obtain⟨b,j,i,w⟩:=f p r1 (h _ Zx);obtain⟨bs,m,l,x⟩:=lh f q r2 λt g=>h t (Zy _ g);exact⟨_,.cons j m,by simp only[ny,PyData.canLayAll0,i,l,Bool.and_self],by simp only[ny,PyData.depthAll];lia⟩
def nq{h:Heap}{H:Hp}{v:V}{t:T}{F:Xi}{u:Value}{n:Nat}(r:Rp G H v t F)(a:RelV v u)(d:flat t=true):∃e,Reads h u (Iv t) e/\(Iv t).canLay0=true/\(Iv t).depth<=n:=by
 cases r with
 |non=>cases a;exact⟨_,.none,rfl,Yv _⟩
 |bl b=>cases a;exact⟨_,.bool b,rfl,Yv _⟩
 |int i=>obtain⟨t,rfl⟩:=a;exact⟨_,.int i t,rfl,Yv _⟩
 |str s h=>obtain⟨t,rfl⟩:=a;exact⟨_,.str _ t,ET h,Yv _⟩
 |_=>cases d
def j3{H:Hp}{d:Yy}{O:L2.St}{s:Shared}(I:Inv X d O H s)(n:Nat):∀{v:V}{t:T}{F:Xi}{u:Value},Rp G H v t F->RelV v u->HC n t=true->∃w,Reads s.heap u (Iv t) w/\(Iv t).canLay0=true/\(Iv t).depth<=n:=by
 induction n with
 |zero =>
  intro v t F u r a h;refine nq r a ?_;cases t<;>first | rfl | exact h
 |succ n x =>
  intro v t F u r a h;cases t with
  |tup l =>
   obtain⟨b,y,E,rfl,e,q⟩:=Rp.KI r;cases a;obtain⟨D,f,z,C⟩:=I.tuple (HD.of e);obtain⟨w,p,m,j⟩:=lh x q f (by simpa using h);obtain⟨o,g,i,B,hd⟩:=z;exact⟨_,.tuple g i hd (by simpa using p),m,by simp only[Iv,PyData.depth];exact Xp j⟩
  |lst l =>
   obtain⟨b,y,E,rfl,e,q⟩:=Rp.KW r;cases a;obtain⟨D,f,A,C⟩:=I.list (GY.of e);obtain⟨w,p,m,j⟩:=lh x q f (by simpa using h);obtain⟨o,g,i,B,hd⟩:=A.isList;exact⟨_,.list g i hd (by simpa using p),m,by simp only[Iv,PyData.depth];exact Xp j⟩
  |scr _=>simp at h
  |dct _ _=>simp at h
  |obj _ _=>simp at h
  |_=>exact nq r a rfl
noncomputable def AA(G:Gx)(a:Bool):R2:=λx y H Q=>∃t u F b,Rp G H x t F/\Rp G H y u b/\HC 60 t=true/\HC 60 u=true/\Q (.bl (if a then !eqT t u else eqT t u)) H
def jh{d:PyData}(h:d.canLay0=true)(a:d.depth<=60):SeqAt.shaped d=true:=by
 unfold SeqAt.shaped;rw[h,Bool.true_and];exact ZP (by lia)
def ub(f:X.A.units+64<cLine):OpR X (compareOp .Eq) (AA G false):=by
 intro pins s O H x y v u Q I e d h;obtain⟨t,w,F,p,r1,r2,b,a,q⟩:=h;obtain⟨o,n,m,l⟩:=j3 I 60 r1 e b;obtain⟨bs,j,i,g⟩:=j3 I 60 r2 d a;refine eq_dataH n j (jh m l) (jh i g) f ⟨.bl _,H,I,rfl,?_⟩;rw[pF 60 60 t w b a];exact q
def C5(f:X.A.units+64<cLine):OpR X (compareOp .NotEq) (AA G true):=by
 intro pins s O H x y v u Q I e d h;obtain⟨t,w,F,p,r1,r2,b,a,q⟩:=h;obtain⟨o,n,m,l⟩:=j3 I 60 r1 e b;obtain⟨bs,j,i,g⟩:=j3 I 60 r2 d a;refine ne_dataH n j (jh m l) (jh i g) f ⟨.bl _,H,I,rfl,?_⟩;rw[pF 60 60 t w b a];exact q
def yJ:fK G (AA G false) oEq:=by
 intro Z J b H x y u w f d m t Q a e k;unfold oEq at e;split at e
 ·rename_i h;cases e;exact⟨_,_,_,_,a.r1,a.r2,h.1,h.2,bG k (.bl _)⟩
 ·cases e
def Ep:fK G (AA G true) JZ:=by
 intro Z J b H x y u w f d m t Q a e k;unfold JZ at e;split at e
 ·rename_i h;cases e;exact⟨_,_,_,_,a.r1,a.r2,h.1,h.2,bG k (.bl _)⟩
 ·cases e
def tells_eq:Tells oEq:=by
 intro x y m t e;unfold oEq at e;split at e<;>first | (cases e;exact⟨_,rfl⟩) | cases e
def zG:Tells JZ:=by
 intro x y m t e;unfold JZ at e;split at e<;>first | (cases e;exact⟨_,rfl⟩) | cases e
end
structure GZ(Z:GP)(J:VS.Env)(H:Hp)(Z':GP)(J':VS.Env)(H':Hp):Prop where
 keep:∀a o,H a=some o->¬bw Z J a->H' a=some o/\¬bw Z' J' a
 GX:∀a,H a≠none->H' a≠none
 ow:∀a,bw Z' J' a->bw Z J a\/H a=none
 pu:∀a,cM Z' J' a->cM Z J a\/bw Z J a\/H a=none
 kept:Kept H H'
theorem GZ.refl(Z:GP)(J:VS.Env)(H:Hp):GZ Z J H Z J H:=⟨λa o h n=>⟨h,n⟩,λ_ h=>h,λ_ h=>.inl h,λ_ h=>.inl h,Kept.refl H⟩
theorem GZ.none{Z d:GP}{J g:VS.Env}{H b:Hp}(f:GZ Z J H d g b){a:Addr}(h:b a=none):H a=none:=by
 cases e:H a with
 |none=>rfl
 |some o=>exact absurd h (f.GX a (by rw[e];exact λz=>nomatch z))
theorem GZ.trans{Z d b:GP}{J J1 e:VS.Env}{H j i:Hp}(f:GZ Z J H d J1 j)(g:GZ d J1 j b e i):GZ Z J H b e i where
 keep:=λa o h n=>let ⟨m,l⟩:=f.keep a o h n;g.keep a o m l
 GX:=λa h=>g.GX a (f.GX a h)
 ow:=λa h=>by
  rcases g.ow a h with h | h
  ·exact f.ow a h
  ·exact .inr (f.none h)
 pu:=λa h=>by
  rcases g.pu a h with h | h | h
  ·exact f.pu a h
  ·rcases f.ow a h with h | h
   ·exact .inr (.inl h)
   ·exact .inr (.inr h)
  ·exact .inr (.inr (f.none h))
 kept:=f.kept.trans g.kept
def GZ.same{Z:GP}{J:VS.Env}{H b:Hp}(e:aH H b):GZ Z J H Z J b :=
 ⟨λa o h n=>⟨e a o h,n⟩,λa h z=>h (e.free z),λ_ h=>.inl h,λ_ h=>.inl h,Kept.of e⟩
noncomputable def qx(Z:GP)(J:VS.Env)(H:Hp):Md->Xi->Prop
 |.fr,F=>F.Nodup/\∀a∈F,H a=none\/bw Z J a
 |_,F=>∀a∈F,H a=none\/cM Z J a\/bw Z J a
theorem qx.back{Z d:GP}{J e:VS.Env}{H g:Hp}(f:GZ Z J H d e g){F:Xi}:∀{m:Md},qx d e g m F->qx Z J H m F
 |.fr,h=>⟨h.1,λa b=>(h.2 a b).elim (λz=>.inl (f.none z)) λz=>(f.ow a z).elim .inr .inl⟩
 |.pu,h=>λa b=>by
  rcases h a b with z | z | z
  ·exact .inl (f.none z)
  ·rcases f.pu a z with z | z | z
   ·exact .inr (.inl z)
   ·exact .inr (.inr z)
   ·exact .inl z
  ·exact(f.ow a z).elim (λz=>.inr (.inr z)) .inl
 |.bo,h=>λa b=>by
  rcases h a b with z | z | z
  ·exact .inl (f.none z)
  ·rcases f.pu a z with z | z | z
   ·exact .inr (.inl z)
   ·exact .inr (.inr z)
   ·exact .inl z
  ·exact(f.ow a z).elim (λz=>.inr (.inr z)) .inl
noncomputable def Nx(G:Gx)(Z:GP)(J:VS.Env)(H:Hp)(e:VS.Env)(k:L2.St->Hp->Prop):Prop:=∀b d a,SR G b e d a->GZ Z J H b e a->k d a
noncomputable def uw(G:Gx)(Z:GP)(J:VS.Env)(H:Hp)(D:Ends):Out->Prop
 |.nx a=>Nx G Z J H a D.nx
 |.bk a=>Nx G Z J H a D.bk
 |.ct a=>Nx G Z J H a D.ct
 |.rt v a=>∀u b F d e,SR G d a e b->GZ Z J H d a b->Rp G b u v.2 F->qx Z J H v.1 F->D.rt u b
noncomputable def tS(G:Gx)(c:Sx):TS:=λD O H=>∃Z J o,SR G Z J O H/\c J=some o/\uw G Z J H D o
noncomputable def PSV(G:Gx)(X:Cx)(a:Stmt)(c:Sx):Prop:=PS X a (tS G c)
noncomputable def ij(G:Gx)(X:Cx)(a:List Stmt)(c:Sx):Prop:=ID X a (tS G c)
def PS.weak{X:Cx}{e:Stmt}{t a:TS}(h:PS X e t)(w:∀D O H,a D O H->t D O H):PS X e a:=λpins s O H D I q=>h pins s O H D I (w D O H q)
def ID.weak{X:Cx}{e:List Stmt}{t a:TS}(h:ID X e t)(w:∀D O H,a D O H->t D O H):ID X e a:=λpins s O H D I q=>h pins s O H D I (w D O H q)
theorem uw.back{G:Gx}{Z i:GP}{J j:VS.Env}{H l:Hp}{D:Ends}(f:GZ Z J H i j l):∀{o:Out},uw G Z J H D o->uw G i j l D o
 |.nx e,h=>λa b d s g=>h a b d s (f.trans g)
 |.bk e,h=>λa b d s g=>h a b d s (f.trans g)
 |.ct e,h=>λa b d s g=>h a b d s (f.trans g)
 |.rt v e,h=>λu d F a b s g r q=>h u d F a b s (f.trans g) r (q.back f)
section
variable{G:Gx}{X:Cx}{st:Stmt}{NO:List Stmt}{c c1 c2:Sx}{pos:Pos}{e:Expr}{ce:Ex}
def bQ:ij G X [] eT:=ID.weak Ah λD O H a=>by
 obtain⟨Z,J,o,s,e,k⟩:=a;cases (show some (Out.nx J)=some o from e);exact k Z O H s (GZ.refl _ _ _)
def af(i:PSV G X st c1)(h:ij G X NO c2):ij G X (st :: NO) (av c1 c2):=ID.weak (yo i h) λD O H g=>by
 obtain⟨Z,J,o,s,e,k⟩:=g;unfold av at e;obtain⟨b,e1,e2⟩:=Zz.mp e;refine⟨Z,J,b,s,e1,?_⟩;cases b with
 |nx a=>exact λj l m d f=>⟨j,a,o,d,e2,k.back f⟩
 |rt v a=>cases e2;exact k
 |bk a=>cases e2;exact k
 |ct a=>cases e2;exact k
def dj{t:Expr}{f:Ex}{a b:List Stmt}(i:IC G X t f)(l:ij G X a c1)(j:ij G X b c2):PSV G X (.If t a b pos) (HL f c1 c2):=PS.weak (BW i l j) λD O H h=>by
 obtain⟨Z,J,o,s,e,k⟩:=h;unfold HL at e;obtain⟨⟨m,x⟩,n,e1⟩:=Zz.mp e;obtain⟨g,p,e2⟩:=Zz.mp e1;refine⟨Z,J,m,x,g,s,n,p,λq d=>?_⟩;cases g with
 |true =>
  rw[Zq rfl]at e2;exact vW ⟨Z,J,o,s.same d,e2,k.back (GZ.same d)⟩
 |false =>
  rw[Zp ZX]at e2;exact vS ⟨Z,J,o,s.same d,e2,k.back (GZ.same d)⟩
theorem Fp.ret{Z:GP}{J:VS.Env}{H:Hp}{F:Xi}:∀{m:Md},Fp Z J H m F->qx Z J H (match m with | .bo=>.pu | m=>m) F
 |.fr,f=>⟨f.1,λa b=>.inl (f.2 a b)⟩
 |.pu,f=>λa b=>(f a b).elim .inl λz=>.inr (.inl z)
 |.bo,f=>f
def bE(b:PV G X e ce):PSV G X (.Return (some e) pos) (fj ce):=PS.weak (pb b) λD O H a=>by
 obtain⟨Z,J,o,s,e,k⟩:=a;unfold fj at e;obtain⟨⟨m,x⟩,d,e1⟩:=Zz.mp e;cases e1;exact⟨Z,J,m,x,s,d,λv f F e1 r1 f1=>k v f F Z O (s.same e1) (GZ.same e1) r1 f1.ret⟩
def cI{J:VS.Env}{i j:Nat}{c:Cell}(h:(J.set i none)[j]?=some (some c)):j≠i/\J[j]?=some (some c):=by
 rw[We]at h;split at h
 ·split at h<;>cases h
 ·rename_i n;exact⟨λz=>n z.symm,h⟩
def SR.drop{Z:GP}{J:VS.Env}{O:L2.St}{H:Hp}(s:SR G Z J O H)(i:Nat):SR G Z (J.set i none) O H :=
 ⟨by rw[Jt];exact s.len,λj c h=>s.rp j c (cI h).2,λj t h=>s.nd j t (cI h).2,λj k t c b a n=>s.sep j k t c (cI b).2 (cI a).2 n⟩
def GZ.drop{Z:GP}{J:VS.Env}{H:Hp}(i:Nat):GZ Z J H Z (J.set i Option.none) H :=
 ⟨λa o h n=>⟨h,λ⟨j,t,d,b⟩=>n ⟨j,t,(cI d).2,b⟩⟩,λ_ h=>h,λa ⟨j,t,d,b⟩=>.inl ⟨j,t,(cI d).2,b⟩,λa ⟨j,t,d,b⟩=>.inl ⟨j,t,(cI d).2,b⟩,Kept.refl H⟩
def bY(i:Nat){x:Str}{p:Pos}(u:X.N[i]?=some x:=by rfl)(l:Ir X.env.scope x:=by first | exact Or.inl rfl | exact Or.inr (Or.inl rfl) | exact Or.inr (Or.inr rfl))(r:K3 x:=by decide)(d:K4 x:=by decide):PSV G X (.Return (some (.Name x p)) pos) (dH i):=PS.weak (pb (dM u l r d)) λD O H n=>by
 obtain⟨Z,J,o,s,e,k⟩:=n;unfold dH at e;split at e
 ·rename_i t h;obtain⟨v,j,b⟩:=s.rp _ _ h;cases e;exact⟨v,j,k v H (Z i) Z O (s.drop i) (GZ.drop i) b ⟨s.nd i t h,λa g=>.inr ⟨i,t,h,g⟩⟩⟩
 ·rename_i t h;obtain⟨v,j,b⟩:=s.rp _ _ h;cases e;refine⟨v,j,k v H (Z i) Z O s (GZ.refl _ _ _) b ?_⟩;have f:Fp Z J H .pu (Z i):=λa g=>.inr ⟨i,t,h,g⟩;have f2:=(f.up b).ret;have:(match (VS.up .pu (iU (.pu t))).1 with | .bo=>Md.pu | m=>m)=(VS.up .pu t).1:=by
   show (match (VS.up .pu t).1 with | .bo=>Md.pu | m=>m)=_;unfold VS.up;split<;>(rename_i q;revert q;split<;>simp)
  rw[this]at f2;exact f2
 ·cases e
noncomputable def jO(Z:GP)(i:Nat)(F:Xi):GP:=λj=>if j=i then F else Z j
def iu{Z:GP}{i:Nat}{F:Xi}:jO Z i F i=F:=Zq rfl
def eY{Z:GP}{i j:Nat}{F:Xi}(h:j≠i):jO Z i F j=Z j:=Zp h
def iA{J:VS.Env}{i j:Nat}{c a:Cell}(h:(J.set i (some c))[j]?=some (some a)):(j=i/\a=c)\/(j≠i/\J[j]?=some (some a)):=by
 rw[We]at h;split at h
 ·rename_i e;split at h
  ·exact .inl ⟨e.symm,(Zm (Zm h)).symm⟩
  ·cases h
 ·rename_i n;exact .inr ⟨λz=>n z.symm,h⟩
def SR.put{Z:GP}{J:VS.Env}{O:L2.St}{H H':Hp}{i:Nat}{v:V}{c:Cell}{F:Xi}(s:SR G Z J O H)(q:i<J.length)(r:Rp G H' v (iU c) F)(p:∀j b,j≠i->J[j]?=some (some b)->∀w,Rp G H w (iU b) (Z j)->Rp G H' w (iU b) (Z j))(x:∀t,c=.ow t->F.Nodup)(y:∀t,c=.ow t->∀j b,j≠i->J[j]?=some (some b)->∀a∈F,a∉Z j)(u:∀j t,j≠i->J[j]?=some (some (.ow t))->∀a∈Z j,a∉F) :
  SR G (jO Z i F) (J.set i (some c)) (O.set i (some v)) H' where
 len:=by rw[Jt,Jt];exact s.len
 rp:=λj b h=>by
  rcases iA h with⟨rfl,rfl⟩ | ⟨n,h⟩
  ·exact⟨v,by rw[YS (by rw[← s.len];exact q)],by rw[iu];exact r⟩
  ·obtain⟨w,l,f⟩:=s.rp j b h;exact⟨w,by rw[Yt (Yq n)];exact l,by rw[eY n];exact p j b n h w f⟩
 nd:=λj t h=>by
  rcases iA h with⟨rfl,e⟩ | ⟨n,h⟩
  ·rw[iu];exact x t e.symm
  ·rw[eY n];exact s.nd j t h
 sep:=λj k t b l f n=>by
  rcases iA l with⟨rfl,e⟩ | ⟨g,o⟩
  ·rcases iA f with⟨rfl,e2⟩ | ⟨d,m⟩
   ·exact absurd rfl n
   ·rw[iu,eY d];exact y t e.symm k b d m
  ·rcases iA f with⟨rfl,e2⟩ | ⟨d,m⟩
   ·rw[iu,eY g];exact u j t g o
   ·rw[eY g,eY d];exact s.sep j k t b o m n
def jW{Z:GP}{J:VS.Env}{i:Nat}{c:Cell}{F:Xi}{a:Addr}(h:bw (jO Z i F) (J.set i (some c)) a):(∃t,c=.ow t/\a∈F)\/bw Z J a:=by
 obtain⟨j,t,d,b⟩:=h;rcases iA d with⟨rfl,e⟩ | ⟨n,d⟩
 ·rw[iu]at b;exact .inl ⟨t,e.symm,b⟩
 ·rw[eY n]at b;exact .inr ⟨j,t,d,b⟩
def pO{Z:GP}{J:VS.Env}{i:Nat}{c:Cell}{F:Xi}{a:Addr}(h:cM (jO Z i F) (J.set i (some c)) a):(∃t,c=.pu t/\a∈F)\/cM Z J a:=by
 obtain⟨j,t,d,b⟩:=h;rcases iA d with⟨rfl,e⟩ | ⟨n,d⟩
 ·rw[iu]at b;exact .inl ⟨t,e.symm,b⟩
 ·rw[eY n]at b;exact .inr ⟨j,t,d,b⟩
def SR.KP{Z:GP}{J:VS.Env}{O:L2.St}{H:Hp}(s:SR G Z J O H){a:Addr}(h:bw Z J a)(g:cM Z J a):False:=by
 obtain⟨j,t,d,f⟩:=h;obtain⟨k,u,b,i⟩:=g;have n:j≠k:=λe=>by subst e;rw[d]at b;cases b
 exact s.sep j k t _ d b n a f i
def SR.val{Z:GP}{J:VS.Env}{O:L2.St}{H y:Hp}{i:Nat}{v:V}{t:T}{m:Md}{F:Xi}{c:Cell}(s:SR G Z J O H)(B:i<J.length)(e:aH H y)(r:Rp G y v t F)(f:Fp Z J H m F)(p:(c=.pu t/\m ≠ .bo)\/(c=.ow t/\m=.fr)):SR G (jO Z i F) (J.set i (some c)) (O.set i (some v)) y/\GZ Z J H (jO Z i F) (J.set i (some c)) y:=by
 have GX:∀{a},H a=none->∀j x,J[j]?=some (some x)->a∉Z j:=λ{a} h j x g b=>by
  obtain⟨w,_,q⟩:=s.rp j x g;exact GQ.p0 (q.GX a b) h
 have ct:iU c=t:=by rcases p with⟨rfl,_⟩ | ⟨rfl,_⟩<;>rfl
 have A:∀a∈F,H a=none\/cM Z J a:=λa b=>by
  rcases p with⟨_,n⟩ | ⟨_,n⟩
  ·exact f.pu n a b
  ·rw[n]at f;exact .inl (f.2 a b)
 constructor
 ·refine s.put B (by rw[ct];exact r) (λj x n g w q=>q.same e) (λu d=>?_) (λu d j x n g a b=>?_) λj u n g a b C=>?_
  ·rcases p with⟨h,_⟩ | ⟨_,h⟩
   ·rw[h]at d;cases d
   ·rw[h]at f;exact f.1
  ·rcases p with⟨h,_⟩ | ⟨_,h⟩
   ·rw[h]at d;cases d
   ·rw[h]at f;exact GX (f.2 a b) j x g
  ·rcases A a C with z | z
   ·exact GX z j _ g b
   ·exact s.KP ⟨j,u,g,b⟩ z
 ·refine⟨λa o h n=>⟨e a o h,λz=>?_⟩,λa h z=>h (e.free z),λa h=>?_,λa h=>?_,Kept.of e⟩
  ·rcases jW z with⟨u,d,b⟩ | z
   ·rcases p with⟨l,_⟩ | ⟨_,l⟩
    ·rw[l]at d;cases d
    ·rw[l]at f;rw[f.2 a b]at h;cases h
   ·exact n z
  ·rcases jW h with⟨u,d,b⟩ | z
   ·rcases p with⟨l,_⟩ | ⟨_,l⟩
    ·rw[l]at d;cases d
    ·rw[l]at f;exact .inr (f.2 a b)
   ·exact .inl z
  ·rcases pO h with⟨u,d,b⟩ | z
   ·exact(A a b).elim (λz=>.inr (.inr z)) .inl
   ·exact .inl z
def eZ{i:Nat}{x:Str}{a:Pos}(q:PV G X e ce)(r:X.N.Nodup)(n:X.N[i]?=some x:=by rfl)(g:Loc X.env.scope x:=by first | exact Or.inl rfl | exact Or.inr rfl)(h:swapsWith e (some (.Name x a)) pos.line X.env=pure false:=by rfl)(p:X.fn x=true\/X.env.scope.names.lookup x=some .local:=by first | exact .inl rfl | exact .inr rfl) :
  PSV G X (.Assign [.Name x a] e pos) (gR i ce):=PS.weak (o8 r n g q h p) λD O H j=>by
 obtain⟨Z,J,o,s,e,k⟩:=j;unfold gR at e;obtain⟨⟨m,t⟩,w,e1⟩:=Zz.mp e;obtain⟨c,eC,e2⟩:=Zz.mp e1;split at e2
 ·rename_i l;cases e2;refine⟨Z,J,m,t,s,w,λv z F y b u=>?_⟩;obtain⟨f,d⟩:=s.val (c:=c) l y b u (by
   unfold cellOf at eC;cases m with
   |fr =>
    simp only[Option.some.injEq]at eC;split at eC
    ·exact .inr ⟨eC.symm,rfl⟩
    ·exact .inl ⟨eC.symm,by decide⟩
   |pu=>cases eC;exact .inl ⟨rfl,by decide⟩
   |bo=>cases eC)
  exact k _ _ z f d
 ·cases e2
def aE{i:Nat}{x:Str}{a:Pos}(r:PV G X e ce)(u:X.N.Nodup)(p:X.N[i]?=some x:=by rfl)(g:Loc X.env.scope x:=by first | exact Or.inl rfl | exact Or.inr rfl)(h:swapsWith e (some (.Name x a)) pos.line X.env=pure false:=by rfl)(q:X.fn x=true\/X.env.scope.names.lookup x=some .local:=by first | exact .inl rfl | exact .inr rfl) :
  PSV G X (.Assign [.Name x a] e pos) (aQ i ce):=PS.weak (o8 u p g r h q) λD O H j=>by
 obtain⟨Z,J,o,s,e,k⟩:=j;unfold aQ at e;obtain⟨⟨m,t⟩,y,e1⟩:=Zz.mp e;split at e1
 ·cases e1
 ·rename_i l;split at e1
  ·rename_i n;cases e1;refine⟨Z,J,m,t,s,y,λv A F z b w=>?_⟩;obtain⟨f,d⟩:=s.val (c:=.pu t) n z b w (.inl ⟨rfl,l⟩);exact k _ _ A f d
  ·cases e1
def SR.frz{Z:GP}{J:VS.Env}{O:L2.St}{H:Hp}{i:Nat}{t:T}(s:SR G Z J O H)(h:J[i]?=some (some (.ow t))):SR G Z (J.set i (some (.pu t))) O H/\GZ Z J H Z (J.set i (some (.pu t))) H:=by
 have back:∀{j c},(J.set i (some (.pu t)))[j]?=some (some c)->∃l,J[j]?=some (some l)/\iU l=iU c/\∀u,c=.ow u->l=.ow u:=λ{j c} g=>by
  rcases iA g with⟨rfl,rfl⟩ | ⟨n,g⟩
  ·exact⟨.ow t,h,rfl,λu p=>nomatch p⟩
  ·exact⟨c,g,rfl,λu p=>p⟩
 refine⟨⟨by rw[Jt];exact s.len,λj c g=>?_,λj u g=>?_,λj k u c b d n=>?_⟩,⟨λa o r n=>⟨r,λ⟨j,u,b,d⟩=>?_⟩,λ_ h=>h,λa ⟨j,u,b,d⟩=>?_,λa ⟨j,u,b,d⟩=>?_,Kept.refl H⟩⟩
 ·obtain⟨l,b,d,_⟩:=back g;obtain⟨v,f,x⟩:=s.rp j l b;exact⟨v,f,by rw[← d];exact x⟩
 ·obtain⟨l,b,_,w⟩:=back g;rw[w u rfl]at b;exact s.nd j u b
 ·obtain⟨c1,f,_,m⟩:=back b;obtain⟨c2,q,_,_⟩:=back d;rw[m u rfl]at f;exact s.sep j k u c2 f q n
 ·obtain⟨c1,f,_,m⟩:=back b;rw[m u rfl]at f;exact n ⟨j,u,f,d⟩
 ·obtain⟨c1,f,_,m⟩:=back b;rw[m u rfl]at f;exact .inl ⟨j,u,f,d⟩
 ·rcases iA b with⟨rfl,_⟩ | ⟨n,b⟩
  ·exact .inr (.inl ⟨j,t,h,d⟩)
  ·exact .inl ⟨j,u,b,d⟩
def lZ(i:Nat)(h:ij G X NO c):ij G X NO (av (v9 i) c):=ID.weak h λD O H f=>by
 obtain⟨Z,J,o,s,e,k⟩:=f;unfold av at e;obtain⟨g,e1,e2⟩:=Zz.mp e;unfold v9 at e1;split at e1
 ·rename_i t d;cases e1;obtain⟨b,a⟩:=s.frz d;exact⟨Z,_,o,b,e2,k.back a⟩
 ·cases e1;exact⟨Z,J,o,s,e2,k⟩
 ·cases e1
end
section
variable{G:Gx}{X:Cx}{st:Stmt}{NO:List Stmt}{c c1 c2:Sx}{pos:Pos}{e:Expr}{es:List Expr}{ce:Ex}{cs:Hf}
structure Chg(G:Gx)(H:Hp)(v:V)(F:Xi)(t':T)(H2:Hp)(F':Xi):Prop where
 kept:Kept H H2
 keep:∀b o,b∉F->H b=some o->H2 b=some o
 GX:∀b,H b≠none->H2 b≠none
 rp:Rp G H2 v t' F'
 nd:F'.Nodup
 sub:∀a∈F',a∈F\/H a=none
def SR.mut{Z:GP}{J:VS.Env}{O:L2.St}{H x:Hp}{i:Nat}{v:V}{t r:T}{p:Xi}(s:SR G Z J O H)(m:J[i]?=some (some (.ow t)))(A:O[i]?=some (some v))(g:Chg G H v (Z i) r x p) :
  SR G (jO Z i p) (J.set i (some (.ow r))) O x/\GZ Z J H (jO Z i p) (J.set i (some (.ow r))) x:=by
 have C:i<J.length:=(Zg.mp m).1;have off:∀j d,j≠i->J[j]?=some (some d)->∀a∈Z j,a∉Z i:=λj d n f a b l=>s.sep i j t d m f (Yq n) a l b;have es:O.set i (some v)=O:=by
  obtain⟨h,e⟩:=Zg.mp A;rw[← e];exact Wx h
 have new:∀a∈p,∀j d,j≠i->J[j]?=some (some d)->a∉Z j:=λa b j d n f l=>by
  rcases g.sub a b with z | z
  ·exact off j d n f a l z
  ·obtain⟨w,_,q⟩:=s.rp j d f;exact GQ.p0 (q.GX a l) z
 constructor
 ·have:=s.put (c:=.ow r) (F:=p) (H':=x) (v:=v) C g.rp (λj d n f w q=>q.keep g.kept λa b o B=>g.keep a o (off j d n f a b) B) (λ_ _=>g.nd) (λu y j d n f a b=>new a b j d n f) λj u n f a b l=>new a l j _ n f b;rw[es]at this;exact this
 ·refine⟨λa o h n=>⟨g.keep a o (λz=>n ⟨i,t,m,z⟩) h,λz=>?_⟩,g.GX,λa h=>?_,λa h=>?_,g.kept⟩
  ·rcases jW z with⟨u,_,b⟩ | z
   ·rcases g.sub a b with z | z
    ·exact n ⟨i,t,m,z⟩
    ·rw[z]at h;cases h
   ·exact n z
  ·rcases jW h with⟨u,_,b⟩ | z
   ·rcases g.sub a b with z | z
    ·exact .inl ⟨i,t,m,z⟩
    ·exact .inr z
   ·exact .inl z
  ·rcases pO h with⟨u,y,b⟩ | z
   ·cases y
   ·exact .inl z
noncomputable def xN(G:Gx)(r:V->List V->Hp->VK->Prop)(f:T->W6->Option (T×Val)):Prop:=∀(Z:GP)(J:VS.Env)(H g:Hp)(v:V)(t b:T)(F:Xi)(l:W6)(a:List V)(h:Yd)(x:Val)(Q:VK),
 Rp G H v t F->F.Nodup->Args G Z J H g l a h->f t l=some (b,x)->(∀u d i,Chg G H v F b d i->Q u d)->r v a g Q
def zE{q m:String}{a x:Str}{r:V->List V->Hp->VK->Prop}{f:T->W6->Option (T×Val)}{b d j:Pos}(i:Nat)(S:PlainAttrs q)(h:Slot q a m)(MP:typeOf (.builtin m)=pure (.type "method_descriptor"))(hm:Nz X m r)(U:xN G r f)(hT:∀H v t F l z,Rp G H v t F->f t l=some z->tyV G.K q v H)(ha:HP G X (e :: es) cs)(hK:X.K=G.K:=by rfl)(hN:X.N[i]?=some x:=by rfl)(Y:Ir X.env.scope x:=by first | exact Or.inl rfl | exact Or.inr (Or.inl rfl) | exact Or.inr (Or.inr rfl))(hd:K3 x:=by decide)(p:K4 x:=by decide)(G2:attributeBase (.Name x j) a X.env (eval (.Name x j) X.env)=eval (.Name x j) X.env:=by rfl)(Hj:((backTo d (starEach (e :: es) X.env)).all (λx=>!x.1)&&(backToKw d (keywordEach [] X.env)).all (λx=>x.1.isSome)
   && decide ((e :: es).length+([]:List Keyword).length+(if ([]:List Keyword).isEmpty then 0 else 1)<30))=true:=by rfl)(GW:(b.endLine==d.line)=true:=by rfl)(hs:K1 e es X:=by rfl)(GT:K2 d es X:=by rfl)(HV:swapsWith (.Call (.Attribute (.Name x j) a b) (e :: es) [] d) none pos.line X.env=pure false:=by rfl) :
  PSV G X (.Expr (.Call (.Attribute (.Name x j) a b) (e :: es) [] d) pos) (sX (oi i [] f cs)) :=
 PS.weak (iE (lJ S h MP hm (dM hN Y hd p) ha G2 Hj GW hs GT) HV) λD O H hq=>by
  obtain⟨Z,J,o,s,e,k⟩:=hq;unfold sX oi at e;obtain⟨⟨w,J'⟩,e1,e2⟩:=Zw.mp e;split at e1
  ·rename_i t n;obtain⟨ks,ek,e3⟩:=Zz.mp e1;cases (show some ([]:List Ky)=some ks from ek);obtain⟨l,el,e4⟩:=Zz.mp e3;obtain⟨⟨y,x2⟩,e5,e6⟩:=Zw.mp e4;cases e6;cases e2;obtain⟨v,B,A⟩:=s.rp _ _ n;have C:f t l=some (y,w):=e5;refine⟨v,B,by rw[hK];exact hT H v t _ l _ A C,Z,J,l,s,el,λM H' Fs R Q P=>?_⟩;refine U Z J H H' v t y (Z i) l M Fs w _ A (s.nd i t n) ⟨R,Q,P⟩ C λu H2 F' g=>?_;obtain⟨L,E⟩:=s.mut n B g;exact k _ O H2 L E
  ·cases e1
theorem Chg.upd{H d:Hp}{v:V}{F:Xi}{a:Addr}{o:HO}{t':T}{f:Xi}(e:aH H d)(m:a∈F)(l:GQ (d a))(r:Rp G (upd d a o) v t' f)(j:f.Nodup)(g:∀a∈f,a∈F\/H a=none):Chg G H v F t' (upd d a o) f :=
 ⟨(Kept.of e).trans (Kept.upd (.inl l)),λb i hb h=>by rw[ay (λz=>hb (by rw[z];exact m))];exact e b i h,
  λb h z=>by
   by_cases q:b=a
   ·subst q;rw[aw]at z;cases z
   ·rw[ay q]at z;exact h (e.free z),r,j,g⟩
def RpL.off{H:Hp}{f:List V}{g:W8}{d:Yd}{a:Addr}{o:HO}(r:RpL G H f g d)(j:GQ (H a))(h:a∉d.flatten):RpL G (upd H a o) f g d :=
 r.keep (Kept.upd (.inl j)) λb hb l i=>by rw[ay (λz=>h (by rw[← z];exact hb))];exact i
def ma{v:Val}{t:T}(h:fit v=some t):v=(.fr,t):=by
 obtain⟨m,x⟩:=v;unfold fit at h;cases m<;>first | (cases h;rfl) | cases h
def jq:xN G pJ aN:=by
 intro Z J H j v t O F l s M x Q r nd A e k;unfold aN at e;split at e
 ·rename_i N y;obtain⟨z,D,e1⟩:=Zz.mp e;have E:=ma D;subst E;split at e1
  ·rename_i B;cases e1;obtain⟨a,p,n,rfl,rfl,i,g⟩:=r.lst_inv;obtain⟨w,f,rfl,rfl,L⟩:=(show RpL G j s [z] M from A.rp).one;have d:Fp Z J H .fr f:=A.fp.each 0 _ _ rfl rfl;have q:j a=some (.lst p):=A.same a _ i;have h:GQ (j a):=by rw[q];exact True.intro
   have na:a∉n.flatten:=(Zf.mp nd).1;have nw:a∉f:=λz=>by rw[d.2 a z]at i;cases i
   refine⟨a,p,w,rfl,rfl,q,by rw[g.len.1];exact B,k _ _ (a :: (n++[f]).flatten) ?_⟩;have off:∀b∈n.flatten,b∉f:=λb hb hw=>GQ.p0 (g.GX b hb) (d.2 b hw);refine Chg.upd A.same Zx h (.lst aw (((g.same A.same).off h na).append (.cons (L.keep (Kept.upd (.inl h)) λb hb o u=>by rw[ay (λz=>nw (by rw[← z];exact hb))];exact u) .nil))) ?_ ?_
   ·rw[Yp];refine Zf.mpr ⟨λm=>?_,ZO.mpr ⟨(Zf.mp nd).2,by simpa using d.1,λb hb c C z=>?_⟩⟩
    ·rcases Ze.mp m with m | m
     ·exact na m
     ·exact nw (by simpa using m)
    ·subst z;exact off b hb (by simpa using C)
   ·intro b hb;rcases Zo.mp hb with rfl | hb
    ·exact .inl Zx
    ·rw[Yp]at hb;rcases Ze.mp hb with hb | hb
     ·exact .inl (Zy _ hb)
     ·exact .inr (d.2 b (by simpa using hb))
  ·cases e1
 ·cases e
def xW{H:Hp}{v:V}{b:W8}{F:Xi}(r:Rp G H v (.lst b) F):tyV G.K "list" v H:=by
 obtain⟨a,f,h,rfl,rfl,d,g⟩:=r.lst_inv;exact .inl ⟨rfl,_,GY.of d⟩
def gH{H:Hp}{v:V}{t:T}{F:Xi}{l:W6}{z:T×Val}(r:Rp G H v t F)(h:aN t l=some z):tyV G.K "list" v H:=by
 unfold aN at h;split at h
 ·exact xW r
 ·cases h
end
structure Kl(G:Gx)(Jq:It)(l:W8)(C:Xi)(H:Hp):Prop where
 run:∀H2,Kept H H2->(∀a∈C,∀o,H a=some o->H2 a=some o) →
  (∀(i:Nat)(t:T),l[i]?=some t->Jq.go i H2/\∀x H3,Jq.Pb i H2 x H3->aH H2 H3/\∃F,Rp G H3 x t F/\∀a∈F,a∈C\/H2 a=none)/\∀(i:Nat),l.length<=i->Jq.stop i H2
 GX:∀a∈C,H a≠none
noncomputable def Uz(Z:GP)(J:VS.Env)(H:Hp)(m:Md)(C:Xi):Prop:=∀a∈C,H a=none\/cM Z J a\/(m=.bo/\bw Z J a)
theorem Fp.c{Z:GP}{J:VS.Env}{H:Hp}{F:Xi}:∀{m:Md},Fp Z J H m F->Uz Z J H m F
 |.fr,f=>λa b=>.inl (f.2 a b)
 |.pu,f=>λa b=>(f a b).imp id .inl
 |.bo,f=>λa b=>(f a b).imp id λz=>z.imp id λz=>⟨rfl,z⟩
noncomputable def tI(G:Gx)(c:Jb):TI:=λO H R=>∃Z J m l,SR G Z J O H/\c J=some (m,l)/\∀b a C,aH H a->Kl G b l C a->Uz Z J H m C->R b a
noncomputable def PVI(G:Gx)(X:Cx)(b a:Expr)(c:Jb):Prop:=PI X b a (tI G c)
def PI.weak{X:Cx}{a e:Expr}{t b:TI}(h:PI X a e t)(w:∀O H Q,b O H Q->t O H Q):PI X a e b:=λpins s O H Q I q=>h pins s O H Q I (w O H Q q)
section
variable{G:Gx}{X:Cx}{tg e a b:Expr}{es:List Expr}{ca cb:Ex}{cs:Hf}{pos p:Pos}
def qP(H:Hp)(d:Int)(n:Nat):Kl G (OZ d n) (rng d n) [] H:=by
 refine⟨λq _ _=>⟨λi t h=>?_,λi h=>(by simpa[rng] using h:n<=i)⟩,λa h=>by simp at h⟩;unfold rng at h;rw[ZY]at h;obtain⟨k,g,e⟩:=Zw.mp h;obtain⟨f,e2⟩:=Zg.mp g;rw[ZJ]at f;have j:i=k:=by simpa using e2
 subst j;refine⟨f,λx o ⟨m,l⟩=>?_⟩;subst m;subst l;rw[← e];exact⟨aH.refl _,[],.int _,λa h=>by simp at h⟩
def eJ(u:PV G X a ca)(t:Gl X "range")(r:X.mg "range" = none)(o:K1 a [] X:=by rfl)(z:starEach [a] X.env=[(false,eval a X.env)]:=by rfl):PVI G X tg (.Call (.Name "range" p) [a] [] pos) (bV ca) :=
 PI.weak (oV t r (cP u fD o) z) λO H R q=>by
  obtain⟨Z,J,m,l,s,e,k⟩:=q;unfold bV at e;obtain⟨⟨n,x⟩,w,e1⟩:=Zz.mp e;obtain⟨j,f,e2⟩:=Zz.mp e1;split at e2
  ·rename_i d;cases e2;refine⟨Z,J,n,x,s,w,λv g F y i B=>?_⟩;cases x with
   |int A =>
    cases f;refine⟨j,by rw[i.int_inv],?_,?_,k _ g [] y (qP g 0 j.toNat) λa h=>by simp at h⟩
    ·have:=d.1;unfold KC at this;lia
    ·have:=d.2;unfold KC at this;lia
   |_=>cases f
  ·cases e2
def tU(E:PV G X a ca)(D:PV G X b cb)(C:Gl X "range")(A:X.mg "range" = none)(u:starEach [a,b] X.env=(false,eval a X.env) :: starEach [b] X.env:=by rfl)(S:starEach [a,b] X.env=[(false,eval a X.env),(false,eval b X.env)]:=by rfl)(P:K1 b [] X:=by rfl)(Q:starEach [b] X.env=[(false,eval b X.env)]:=by rfl) :
  PVI G X tg (.Call (.Name "range" p) [a,b] [] pos) (kA ca cb) :=
 PI.weak (we C A (cP E (cP D fD P) u) S Q) λO H R z=>by
  obtain⟨Z,J,m,l,s,e,k⟩:=z;unfold kA at e;obtain⟨⟨t,x⟩,M,e1⟩:=Zz.mp e;obtain⟨⟨r,y⟩,L,e1⟩:=Zz.mp e1;obtain⟨i,f,e2⟩:=Zz.mp e1;obtain⟨j,d,e2⟩:=Zz.mp e2;split at e2
  ·rename_i B;cases e2;refine⟨Z,J,t,x,s,M,λv H' F g q f3=>⟨Z,J,r,y,s.same g,L,λw n F2 N o f4=>?_⟩⟩;cases x with
   |int Y =>
    cases f;cases y with
    |int U =>
     cases d;refine⟨i,j,by rw[q.int_inv,o.int_inv],?_,k _ n [] (g.trans N) (qP n i (j-i).toNat) λa h=>by simp at h⟩;unfold KC at B;omega
    |_=>cases d
   |_=>cases f
  ·cases e2
def cT{d:Yd}{i:Nat}{F:Xi}(h:d[i]?=some F){a:Addr}(f:a∈F):a∈d.flatten:=(bM h).subset f
def Ba{H:Hp}{a:Addr}{d:List V}{f:W8}{j:Yd}(K:Y2)(l:H a=some (.lst d))(r:RpL G H d f j):Kl G (SG K a) f (a :: j.flatten) H:=by
 refine⟨λn k c=>?_,λb hb=>?_⟩
 ·have g:n a=some (.lst d):=c a Zx _ l;have r2:RpL G n d f j:=r.keep k λb hb o q=>c b (Zy _ hb) o q;refine⟨λi t h=>?_,λi h=>⟨d,GY.of g,by rw[r.len.1];exact h⟩⟩;obtain⟨v,F,m,u,s⟩:=r2.get i h;refine⟨⟨d,v,GY.of g,m⟩,λx w ⟨e1,e2⟩=>?_⟩;subst e1;have ex:=e2 d (GY.of g);rw[m]at ex;cases ex;exact⟨aH.refl _,F,s,λb hb=>.inl (Zy _ (cT u hb))⟩
 ·rcases Zo.mp hb with rfl | hb
  ·rw[l];exact λz=>nomatch z
  ·exact GQ.p0 (r.GX b hb)
def CT{H:Hp}{a:Addr}{d:List V}{f:W8}{j:Yd}(K:Y2)(q:H a=some (.tup d))(r:RpL G H d f j):Kl G (SF K a) f j.flatten H:=by
 refine⟨λm k c=>?_,λb hb=>GQ.p0 (r.GX b hb)⟩;have g:m a=some (.tup d):=k.tup a _ q;have r2:RpL G m d f j:=r.keep k λb hb o n=>c b hb o n;refine⟨λi t h=>?_,λi h=>⟨d,HD.of g,by rw[r.len.1];exact h⟩⟩;obtain⟨v,F,l,u,s⟩:=r2.get i h;refine⟨⟨d,v,HD.of g,l⟩,λx w ⟨e1,e2⟩=>?_⟩;subst e1;have ex:=e2 d (HD.of g);rw[l]at ex;cases ex;exact⟨aH.refl _,F,s,λb hb=>.inl (cT u hb)⟩
noncomputable def tG(G:Gx)(g:Tg):TG:=λv O H Q=>∃Z J t F d,SR G Z J O H/\Rp G H v t F/\(∀a∈F,¬bw Z J a)/\g t J=some d ∧
 ∀f h,SR G f d h H->(∀a,bw f d a->bw Z J a)->(∀a,cM f d a->cM Z J a\/a∈F)->Q h H
noncomputable def UU(G:Gx)(l:List Tg):LU:=λj O H Q=>∃Z J h g d,SR G Z J O H/\RpL G H j h g/\(∀a∈g.flatten,¬bw Z J a)/\sH l h J=some d ∧
 ∀f i,SR G f d i H->(∀a,bw f d a->bw Z J a)->(∀a,cM f d a->cM Z J a\/a∈g.flatten)->Q i H
noncomputable def Mq(G:Gx)(X:Cx)(e:Expr)(g:Tg):Prop:=PG X e (tG G g)
noncomputable def AZ(G:Gx)(X:Cx)(e:List Expr)(g:List Tg):Prop:=Ln X e (UU G g)
def PG.weak{X:Cx}{e:Expr}{t d:TG}(h:PG X e t)(w:∀v O H Q,d v O H Q->t v O H Q):PG X e d:=λpins s O H v u Q I r q=>h pins s O H v u Q I r (w v O H Q q)
def Ln.weak{X:Cx}{e:List Expr}{t d:LU}(h:Ln X e t)(w:∀v O H Q,d v O H Q->t v O H Q):Ln X e d:=λpins s O H v u Q I r q=>h pins s O H v u Q I r (w v O H Q q)
def aO(i:Nat){x:Str}(B:X.N.Nodup)(y:X.N[i]?=some x:=by rfl)(l:Loc X.env.scope x:=by first | exact Or.inl rfl | exact Or.inr rfl)(A:X.fn x=true\/X.env.scope.names.lookup x=some .local:=by first | exact .inl rfl | exact .inr rfl):Mq G X (.Name x pos) (aU i):=PG.weak (vm B y l A) λv O H Q m=>by
 obtain⟨Z,J,t,F,E,s,r,no,e,k⟩:=m;unfold aU at e;split at e
 ·rename_i o;cases e;refine k (jO Z i F) (O.set i (some v)) (s.put (c:=.pu t) o r (λj D n g w q=>q) (λu d=>nomatch d) (λu d=>nomatch d) λj u n g a f C=>no a C ⟨j,u,g,f⟩) (λa h=>?_) λa h=>?_
  ·rcases jW h with⟨u,d,_⟩ | z
   ·cases d
   ·exact z
  ·rcases pO h with⟨u,d,f⟩ | z
   ·exact .inr f
   ·exact .inl z
 ·cases e
def jc:AZ G X [] []:=Ln.weak Ay λv O H Q f=>by
 obtain⟨Z,J,g,i,d,s,r,no,e,k⟩:=f;cases r with
 |nil =>
  cases (show some J=some d from e);exact⟨rfl,k Z O s (λ_ h=>h) λ_ h=>.inl h⟩
 |cons r q=>cases (show (none:Option VS.Env)=some d from e)
def cL{g:Tg}{i:List Tg}(y:Mq G X e g)(x:AZ G X es i)(u:(assignEach (e :: es) X.env).map (·.2)=assign e X.env :: (assignEach es X.env).map (·.2):=by rfl):AZ G X (e :: es) (g :: i) :=
 Ln.weak (wW y x u) λv O H Q w=>by
  obtain⟨Z,J,E,R,l,s,r,no,e,k⟩:=w;cases r with
  |nil=>cases (show (none:Option VS.Env)=some l from e)
  |cons r q =>
   rename_i D F S M P N;obtain⟨j,e1,e2⟩:=Zz.mp e;refine⟨_,_,rfl,Z,J,_,_,j,s,r,λa d=>no a (by rw[ZR];exact Kc _ d),e1,λB L s1 f o=>?_⟩;refine⟨B,j,_,_,l,s1,q,λa d z=>no a (by rw[ZR];exact ZU _ d) (f a z),e2,λA C m t n=>k A C m (λa h=>f a (t a h)) λa h=>?_⟩;rcases n a h with h | h
   ·rcases o a h with h | h
    ·exact .inl h
    ·exact .inr (by rw[ZR];exact Kc _ h)
   ·exact .inr (by rw[ZR];exact ZU _ h)
theorem qR:∀{i:List Tg}{f:W8}{J d:VS.Env},sH i f J=some d->f.length=i.length
 |[],[],_,_,_=>rfl
 |[],_ :: _,_,_,h=>by simp[sH]at h
 |_ :: _,[],_,_,h=>by simp[sH]at h
 |g :: i,t :: f,J,d,h=>by
  obtain⟨j,_,e2⟩:=Zz.mp (show (g t J).bind (λd=>sH i f d)=some d from h);simp[qR e2]
def j0{d:List Tg}{k:Nat}(m:X.calm=true)(h:AZ G X es d)(j:(assignEach es X.env).length=d.length:=by rfl)(w:(assignEach es X.env).findIdx? (·.1)=none:=by rfl)(z:X.K=G.K:=by rfl):Mq G X (.Tuple es k pos) (iY d) :=
 PG.weak (Dr (n:=d.length) m h j w) λv O H Q i=>by
  obtain⟨Z,J,t,F,u,s,r,no,e,q⟩:=i;unfold iY at e;split at e
  ·rename_i l;obtain⟨o,g,y,rfl,rfl,x,f⟩:=r.Hl;exact⟨o,g,rfl,HD.of x,by rw[f.len.1];exact qR e,Z,J,l,y,u,s,f,no,e,q⟩
  ·cases e
def oj{tgt:Tg}{body:Sx}{l:W8}{J:VS.Env}{i:Nat}{t:T}(h:l[i]?=some t):l.drop i=t :: l.drop (i+1):=by
 obtain⟨d,e⟩:=Zg.mp h;rw[← e];exact Yn d
def Df{ci:Jb}{g:Tg}{E:Sx}{D:Ends}{O:L2.St}{H:Hp}(hq:tS G (fH g ci E) D O H):FQ (tI G ci) (tG G g) (tS G E) D O H:=by
 obtain⟨Z,J,o,s,e,k⟩:=hq;unfold fH at e;obtain⟨⟨m,l⟩,el,e1⟩:=Zz.mp e;dsimp only at e1;split at e1
 ·rename_i hm;have HI:m ≠ .bo:=λz=>by rw[z]at hm;cases hm
  refine⟨Z,J,m,l,s,el,λJq Q C e2 ok fc=>?_⟩;have cno:∀a∈C,¬bw Z J a:=λa A z=>by
   rcases fc a A with q | q | q
   ·exact GQ.p0 (s.Hi z) q
   ·exact s.KP z q
   ·exact HI q.1
  refine⟨λi n O2 P=>n=l.length-i/\∃N d,SR G N d O2 P/\GZ Z J H N d P/\Kept Q P/\(∀a∈C,∀o,Q a=some o->P a=some o/\¬bw N d a)/\forL g E (l.drop i) d=some o,
   ⟨l.length-0,rfl,Z,J,s.same e2,GZ.same e2,Kept.refl _,λa A y B=>⟨B,cno a A⟩,by rw[List.drop_zero];exact e1⟩,?_⟩
  rintro i n O2 P ⟨rfl,N,d,s2,f2,kp,con,Y⟩;obtain⟨go,stop⟩:=ok.run P kp λa A y B=>(con a A y B).1;cases hit:l[i]? with
  |none =>
   have hl:l.length<=i:=YW.mp hit;left;rw[Y8 hl]at Y;cases (show some (Out.nx d)=some o from Y);exact⟨stop i hl,k N O2 P s2 f2⟩
  |some t =>
   have hl:i<l.length:=(Zg.mp hit).1;right;obtain⟨g1,y1⟩:=go i t hit;rw[oj (tgt:=g) (body:=E) (J:=d) hit]at Y;obtain⟨J3,e4,e5⟩:=Zz.mp (show (g t d).bind (λJ1=>(E J1).bind λo=>match o with
    |.nx d=>forL g E (l.drop (i+1)) d
    |.ct d=>forL g E (l.drop (i+1)) d
    |.bk d=>some (.nx d)
    |.rt v d=>some (.rt v d))=some o from Y)
   obtain⟨y,e6,U⟩:=Zz.mp e5;refine⟨g1,λL r=>∃j f,SR G j f L r/\GZ Z J H j f r/\Kept Q r/\(∀a∈C,∀o,Q a=some o->r a=some o/\¬bw j f a)/\forL g E (l.drop (i+1)) f=some o,λL r ⟨j,f,q⟩=>⟨l.length-(i+1),by omega,rfl,j,f,q⟩,λx H3 yl=>?_⟩;obtain⟨R,F,rF,hF⟩:=y1 x H3 yl;have s3:=s2.same R;have Vr:∀a∈F,¬bw N d a:=λa A z=>by
    rcases hF a A with q | q
    ·have HX:=ok.GX a q;cases B:Q a with
     |none=>exact HX B
     |some Vn=>exact(con a q Vn B).2 z
    ·exact GQ.p0 (s2.Hi z) q
   refine⟨N,d,t,F,J3,s3,rF,Vr,e4,λZ3 O3 s4 o3 p3=>?_⟩;have S:GZ Z J H Z3 J3 H3:=⟨λa y h n=>let ⟨h1,n1⟩:=f2.keep a y h n;⟨R a y h1,λz=>n1 (o3 a z)⟩,λa h z=>f2.GX a h (R.free z),λa h=>f2.ow a (o3 a h),λa h=>by
    rcases p3 a h with h | h
    ·exact f2.pu a h
    ·rcases hF a h with q | q
     ·rcases fc a q with q | q | q
      ·exact .inr (.inr q)
      ·exact .inl q
      ·exact .inr (.inl q.2)
     ·exact .inr (.inr (f2.none q)),f2.kept.trans (Kept.of R)⟩
   have next:∀{j f r},GZ Z3 J3 H3 j f r->Kept Q r/\∀a∈C,∀o,Q a=some o->r a=some o/\¬bw j f a:=λw =>
    ⟨(kp.trans (Kept.of R)).trans w.kept,λa A y B=>by
     obtain⟨h1,n1⟩:=con a A y B;exact w.keep a y (R a y h1) λz=>n1 (o3 a z)⟩
   refine⟨Z3,J3,y,s4,e6,?_⟩;cases y with
   |nx f=>exact λj L r M w=>⟨j,f,M,S.trans w,(next w).1,(next w).2,U⟩
   |ct f=>exact λj L r M w=>⟨j,f,M,S.trans w,(next w).1,(next w).2,U⟩
   |bk f =>
    cases (show some (Out.nx f)=some o from U);exact λj L r M w=>k j L r M (S.trans w)
   |rt v f =>
    cases (show some (Out.rt v f)=some o from U);exact λu r F4 j L M w r5 q5=>k u r F4 j L M (S.trans w) r5 (q5.back S)
 ·cases e1
def b9{d:Expr}{f:List Stmt}{h:Jb}{g:Tg}{i:Sx}(m:PassesOwn (model X.prog X.w) X.A X.env X.xe)(q:X.calm=true)(n:PVI G X tg d h)(o:Mq G X tg g)(r:ij G X f i)(j:∀x,foldedSetIterable d X.env x=pure x:=by intro _;rfl):PSV G X (.For tg d f [] pos) (fH g h i):=PS.weak (Dm m q n o r j) λD O H l=>Df l
end
noncomputable def Gc(H:Hp)(b:Yd):Md->Xi->Prop
 |.fr,F=>F.Nodup/\∀a∈F,H a=none
 |_,F=>∀a∈F,H a=none\/a∈b.flatten
noncomputable def Jy(G:Gx)(g:Fn):Sp:=λe H Q _=>∃b d m r,RpL G H e b d/\g b=some (m,r)/\∀v a F,aH H a->Rp G a v r F->Gc H d m F->Q v a
section
variable{G:Gx}{X:Cx}{k:Nat}{f:Addr}{fd:FuncData}{ps:List Str}{x:Str}{p pos:Pos}{e:Expr}{es:List Expr}{cs:Hf}{g:Fn}
def call_of{O:L2.St}{H:Hp}{Q:VK}{E:XK}(h:tE G (bu g cs) O H Q):BL (Jy G g) [] E (Ng G cs) O H Q:=by
 obtain⟨Z,J,m,t,s,e,u⟩:=h;unfold bu at e;obtain⟨l,P,e1⟩:=Zz.mp e;obtain⟨⟨n,r⟩,N,e2⟩:=Zz.mp e1;refine⟨Z,J,l,s,P,λD y C b M L=>?_⟩;have A:Args G Z J H y l D C:=⟨b,M,L⟩
 have i:=L.join A.len;show Jy G g (D++[]) y Q E;rw[ZV];refine⟨trees l,C,n,r,M,N,λv B F q o j=>?_⟩;have wide:(∀a∈F,y a=none\/a∈C.flatten)->Fp Z J H ((Md.pu).join (cy l)) F:=λh=>by
  cases w:cy l with
  |fr =>
   rw[w]at i;exact λa d=>.inl ((h a d).elim b.free (i.2 a))
  |pu =>
   rw[w]at i;exact λa d=>(h a d).elim (λz=>.inl (b.free z)) (i a)
  |bo =>
   rw[w]at i;exact λa d=>(h a d).elim (λz=>.inl (b.free z)) (i a)
 cases n with
 |fr =>
  cases e2;exact u v B F (b.trans q) o ⟨j.1,λa d=>b.free (j.2 a d)⟩
 |pu =>
  cases e2;exact u v B F (b.trans q) o (wide j)
 |bo =>
  cases e2;exact u v B F (b.trans q) o (wide j)
def AM(F:FnOk X.prog X.w X.K X.mg X.base Hx k f fd ps (Jy G g))(b:GJ k X.A)(j:Gl X x)(d:X.mg x=some (.ref f))(i:PySem.W.keepIn X.K (.ref f)=true)(m:Binds X.K fd ps [])(n:HP G X (e :: es) cs)(o:K3 x:=by decide)(l:K1 e es X:=by rfl)(a:K2 pos es X:=by rfl) :
  PV G X (.Call (.Name x p) (e :: es) [] pos) (bu g cs) :=
 PE.weak (vc F b j d i m .nil ou n o l a) λO H Q h=>call_of h
def zP{H:Hp}{d:List V}{a:W8}{m:Yd}(r:RpL G H d a m)(n o:Nat)(w:o=d.length):SR G (λi=>m.getD i []) (a.map (λt=>some (.pu t))++List.replicate (n-a.length) none) (d.map some++List.replicate (n-o) none) H:=by
 subst w;have A:=r.len;have back:∀{i:Nat}{c:Cell},(a.map (λt=>some (Cell.pu t))++List.replicate (n-a.length) none)[i]?=some (some c)->∃t,a[i]?=some t/\c=.pu t:=λ{i c} h=>by
  by_cases q:i<a.length
  ·rw[Yz (by rw[Zu];exact q),ZY]at h;obtain⟨t,l,b⟩:=Zw.mp h;exact⟨t,l,(Zm b).symm⟩
  ·rw[Yo (by rw[Zu];exact ZE q),Ye]at h;split at h<;>cases h
 refine⟨by simp;lia,λi c h=>?_,λi t h=>?_,λi j t c h=>?_⟩
 ·obtain⟨t,l,rfl⟩:=back h;obtain⟨v,F,s,z,y⟩:=r.get i l;refine⟨v,?_,?_⟩
  ·have:i<d.length:=(Zg.mp s).1;rw[Yz (by rw[Zu];exact this),ZY,s];rfl
  ·show Rp G H v t (m.getD i []);rw[Zv,z];exact y
 ·obtain⟨u,_,b⟩:=back h;cases b
 ·obtain⟨u,_,b⟩:=back h;cases b
def iX{b:W8}{n:Nat}{Z:GP}{a:Addr}:¬bw Z (b.map (λt=>some (Cell.pu t))++List.replicate n none) a:=by
 rintro⟨i,t,h,_⟩;by_cases d:i<b.length
 ·rw[Yz (by rw[Zu];exact d),ZY]at h;obtain⟨l,_,j⟩:=Zw.mp h;cases j
 ·rw[Yo (by rw[Zu];exact ZE d),Ye]at h;split at h<;>cases h
def rO{H:Hp}{vs:List V}{j:W8}{d:Yd}{n:Nat}{a:Addr}(h:cM (λi=>d.getD i []) (j.map (λt=>some (Cell.pu t))++List.replicate n none) a):a∈d.flatten:=by
 obtain⟨i,t,_,b⟩:=h;simp only[Zv]at b;cases e:d[i]? with
 |none=>rw[e]at b;simp at b
 |some F=>rw[e]at b;exact cT e b
end
section
variable{G:Gx}{P:Program}{w:World}{K:Y2}{mg:Xk}{base:Heap}
def R6{x b:Str}{e:Stmt}{f:Addr}{J:FuncData}{N n:List Str}{k D j:Nat}{c:Sx}(F:GV K x b e f J)(S:oe N n (aq e))(U:n.length=D)(X:N.length=j)(Y:∀(l:Value)(A:Around)(outer:List PySem.Env)(s:Shared)(H:Hp)(E:XK),GJ k (A.deeper (envOfC b (aq e) s.heap.objs.size f l))->ij G (jr Hx P w K mg base N b (aq e) f l A outer s H E).J6 (bh e) c) :
  FnOk P w K mg base Hx (k+1) f J n (Jy G (fn D j c)):=by
 refine F.ok S (λvs H Q E h=>?_) λl A outer s H vs Q E R h=>⟨_,Y l A outer s H E R,?_⟩
 ·obtain⟨L,Fs,m,r,t,d,_⟩:=h;unfold fn at d;split at d
  ·rename_i p;rw[t.len.1,p,U]
  ·cases d
 ·obtain⟨L,Fs,m,r,t,d,q⟩:=h;unfold fn at d;split at d
  ·rename_i p;obtain⟨o,e1,e2⟩:=Zz.mp d;have C:=zP t j vs.length rfl;rw[p]at C;have Z:L2.start N vs=vs.map some++List.replicate (j-vs.length) none:=by
    unfold L2.start;rw[X]
   rw[Z];refine⟨_,_,o,C,e1,?_⟩;cases o with
   |nx y =>
    cases e2;intro Z' O' B M fr;exact q .non B [] (λa o h=>(fr.keep a o h iX).1) .non ⟨Yx,λa h=>by simp at h⟩
   |rt v y =>
    cases e2;intro u B F' Z' O' M fr O i;refine q u B F' (λa o h=>(fr.keep a o h iX).1) O ?_;cases m with
    |fr=>exact⟨i.1,λa g=>(i.2 a g).elim id λz=>absurd z iX⟩
    |pu=>exact λa g=>(i a g).elim .inl λz=>z.elim (λz=>.inr (rO (H:=H) (vs:=vs) z)) λz=>absurd z iX
    |bo=>exact λa g=>(i a g).elim .inl λz=>z.elim (λz=>.inr (rO (H:=H) (vs:=vs) z)) λz=>absurd z iX
   |bk y=>cases e2
   |ct y=>cases e2
  ·cases d
end
end VS
end
section
namespace L2
open PySem PySem.Spec PyProof.Rows
theorem kT(b:Env):∀(l:List (Str×NameKind))(acc:List (Str×Addr)),(∀y∈l,y.2=.free->∃c,b.cells.lookup y.1=some c)->(∀x c,acc.lookup x=some c->b.cells.lookup x=some c) →
  ∃cl,(forIn l acc (λx r=>if (x.snd==NameKind.free)=true then (do let a ← cellOf b x.fst;pure (ForInStep.yield ((x.fst,a) :: r))) else pure (ForInStep.yield r)):Sem (List (Str×Addr)))=pure cl ∧
   (∀x c,cl.lookup x=some c->b.cells.lookup x=some c)/\(∀x c,acc.lookup x=some c->∃e,cl.lookup x=some e)/\∀y∈l,y.2=.free->∃c,cl.lookup y.1=some c
 |[],acc,_,i=>⟨acc,rfl,i,λx c h=>⟨c,h⟩,λy d=>nomatch d⟩
 | (n,k) :: l,acc,o,i=>by
  by_cases m:k=.free
  ·subst m;obtain⟨c,p⟩:=o (n,.free) Zx rfl;have u:cellOf b n=pure c:=by unfold cellOf;dsimp only at p;rw[p]
   have v:∀x e,((n,c) :: acc).lookup x=some e->b.cells.lookup x=some e:=λx e h=>by
    rw[YY]at h;split at h
    ·rename_i g;have:x=n:=by simpa using g
     rw[this,← h];exact p
    ·exact i x e h
   obtain⟨cl,t,s,f,q⟩:=kT b l ((n,c) :: acc) (λy d=>o y (Zy _ d)) v;refine⟨cl,?_,s,λx e h=>?_,λy d j=>?_⟩
   ·rw[List.forIn_cons];dsimp only;rw[Zq (show (NameKind.free==NameKind.free)=true from rfl),u,pure_bind,pure_bind];exact t
   ·by_cases g:x=n
    ·exact f x c (by rw[YY,g];simp)
    ·refine f x e ?_;rw[YY];have:(x==n)=false:=by simpa using g
     rw[this];exact h
   ·rcases Zo.mp d with rfl | d
    ·exact f n c (by rw[YY];simp)
    ·exact q y d j
  ·obtain⟨cl,t,s,f,q⟩:=kT b l acc (λy d=>o y (Zy _ d)) i;refine⟨cl,?_,s,f,λy d j=>?_⟩
   ·rw[List.forIn_cons];dsimp only;rw[Zp (by simpa using m),pure_bind];exact t
   ·rcases Zo.mp d with rfl | d
    ·exact absurd j m
    ·exact q y d j
def Ar{sc:Scope}{env:Env}(a:∀y∈sc.names,y.2=.free->∃c,env.cells.lookup y.1=some c) :
  ∃cl,closureFor sc env=pure cl/\(∀x c,cl.lookup x=some c->env.cells.lookup x=some c)/\∀y∈sc.names,y.2=.free->∃c,cl.lookup y.1=some c:=by
 obtain⟨cl,e,d,_,b⟩:=kT env sc.names [] a (λx c h=>nomatch h);refine⟨cl,?_,d,b⟩;simp only[closureFor];rw[e];rfl
def gB{l:List (Str×NameKind)}{x:Str}{k:NameKind}(h:l.lookup x=some k):(x,k)∈l:=by
 induction l with
 |nil=>cases h
 |cons p l a =>
  rw[YY]at h;split at h
  ·rename_i b;have e:x=p.1:=by simpa using b
   cases h;rw[e];exact Zx
  ·exact Zy _ (a h)
theorem de{a:Env}{x:Str}{k:NameKind}:∀{l:List (Str×NameKind)},(l.map λ(n,k)=>if (k==NameKind.free&&a.scope.kind == .function&&a.kindOf n==some .cell) then (n,NameKind.cell) else (n,k)).lookup x=some k →
  ∃e,l.lookup x=some e/\(k=e\/(e=.free/\k=.cell))
 |[],h=>nomatch h
 | (n,d) :: l,h=>by
  rw[Zl,YY]at h;by_cases f:(d==NameKind.free&&a.scope.kind == .function&&a.kindOf n==some .cell)=true
  ·simp only[f,if_true]at h;rw[YY];cases b:x==n with
   |true =>
    rw[b]at h;have:d=.free:=by
     have:=(Bool.and_eq_true_iff.mp (Bool.and_eq_true_iff.mp f).1).1;simpa using this
    exact⟨d,rfl,.inr ⟨this,(Zm h).symm⟩⟩
   |false=>rw[b]at h;exact de h
  ·simp only[f,if_false,YM]at h;rw[YY];cases b:x==n with
   |true=>rw[b]at h;exact⟨d,rfl,.inl (Zm h).symm⟩
   |false=>rw[b]at h;exact de h
noncomputable def bR(X:Cx)(N:List Str)(a:Scope)(d:List (Str×Addr))(C:Addr)(s:Shared)(H:Hp)(b:Xi):Cx :=
 { X with N:=N,s₀:=s,H₀:=H,env:=compEnvC a d C X.env,outer:=X.stack,ex:=b,fn:=λ_=>false,pn:=[],xe:=λ_ _=>False }
noncomputable def nH(a:Env)(b:Scope):Bool:=b.kind == .function&&b.names.all λy=>match y.2 with
 |.cell=>false
 |.local=>b.names.lookup y.1==some .local
 |.free=>a.kindOf y.1==some .cell||a.kindOf y.1==some .free
 |_=>true
noncomputable def kz(d:Scope):List Str->List Str->Bool
 |[],[]=>true
 |a :: e,b :: bs=>((a==b&&d.names.lookup a==some .free)||d.names.lookup a==none||d.names.lookup a==some .globalImplicit)&&kz d e bs
 |_,_=>false
theorem uN{d:Scope}:∀{f bs:List Str},kz d f bs=true->f.length=bs.length/\∀(i:Nat)(x:Str),f[i]?=some x->(bs[i]?=some x/\d.names.lookup x=some .free)\/d.names.lookup x=none\/d.names.lookup x=some .globalImplicit
 |[],[],_=>⟨rfl,λi x h=>by simp at h⟩
 |a :: f,b :: bs,h=>by
  simp only[kz,Zd]at h;obtain⟨g,n⟩:=h;obtain⟨l,r⟩:=uN n;refine⟨by simp[l],λi x e=>?_⟩;cases i with
  |zero =>
   have:a=x:=by simpa using e
   subst this;simp only[Bool.or_eq_true,Zd]at g;rcases g with (⟨m,j⟩ | z) | z
   ·exact .inl ⟨by simpa using(by simpa using m:a=b).symm,by simpa using j⟩
   ·exact .inr (.inl (by simpa using z))
   ·exact .inr (.inr (by simpa using z))
  |succ i=>simpa using r i x (by simpa using e)
 |[],_ :: _,h=>by simp[kz]at h
 |_ :: _,[],h=>by simp[kz]at h
section
variable{X:Cx}{pins:Yy}{O:St}{H:Hp}{s:Shared}
def Inv.block{N:List Str}{sc:Scope}{cl:List (Str×Addr)}{C D:Addr}{fp:Xi}{k:Nat}{B:Heap}{t:Nat}{m:Xk}(I:Inv X pins O H s)(M:nH X.env sc=true)(Jm:kz sc (N.drop k) X.N=true)(Jp:k<=N.length)(g:∀x c,cl.lookup x=some c->X.env.cells.lookup x=some c)(Y:∀y∈sc.names,y.2=.free->∃c,cl.lookup y.1=some c)(F:∀b∈fp,nY X pins H b)(A:s.heap.objs.size<=D)(R:s.heap.objs.size<=C)(P0:D≠C)(PQ:C∉fp)(d:∀b u,s.heap.get? b=some u->B.get? b=some u)(MU:B.Ns C m)(RX:B.get? D=some { cls:=.type "list",data:=.seq ([]:Xg).toArray 0 }) :
  Inv (bR X N sc cl C s H fp) [] (List.replicate k none++O) (upd H D (.lst [])) { s with heap:=B,toks:=t }:=by
 unfold nH at M;rw[Zd,Ja]at M;obtain⟨hk,HG⟩:=M;have IG:sc.kind=.function:=by simpa using hk
 obtain⟨hlen,PU⟩:=uN Jm;have IH:∀y∈sc.names,y.2 ≠ .cell:=λy hy e=>by have:=HG y hy;rw[e]at this;cases this
 have frees:∀x a,(relabel sc X.env).names.lookup x=some a->a=.cell\/a=.free->sc.names.lookup x=some .free:=λx a h Kt=>by
  obtain⟨n,f,RD⟩:=de h;rcases RD with e | ⟨e,_⟩
  ·subst e;rcases Kt with e | e
   ·subst e;exact absurd rfl (IH _ (gB f))
   ·subst e;exact f
  ·subst e;exact f
 have Kw:H D=none:=I.GL.fresh A;have Z6:H C=none:=I.GL.fresh R;refine⟨⟨I.mod,IG,I.ok.glob,I.ok.blt,R,λx y c e1 e2=>I.ok.inj x y c (g x c e1) (g y c e2),λx hx=>?_,λx c e=>(nomatch e),I.ok.hd,I.ok.frames,.inl rfl,λb hb=>⟨λ(e:b=C)=>PQ (e ▸ hb),λx c e=>(F b hb).2.2.2.2.1 x c (g x c e)⟩,
  I.bs,ZI I.ok.LS I.sz,λb o e hb=>?_,λb hb P=>?_,I.stack,I.JX⟩,rfl,I.bare,Un.laid d A Kw,⟨m,MU,λi x v e1 e2 G=>?_⟩,λx c e=>?_,?_,λx c e=>?_,λp hp=>(nomatch hp),I.GL.laid d A ?_,?_⟩
 ·have h:∃a,(relabel sc X.env).names.lookup x=some a/\(a=.cell\/a=.free):=by
   rcases hx with e | e
   ·exact⟨_,e,.inl rfl⟩
   ·exact⟨_,e,.inr rfl⟩
  obtain⟨a,E,L⟩:=h;exact Y _ (gB (frees x a E L)) rfl
 ·have P:b∈fp:=hb;rcases (F b P).2.2.2.1 with z | z
  ·exact I.ok.KS b o e z
  ·exact absurd (ZK (ZW e) (ZI I.ok.LS z)) (Ya _)
 ·have WO:b∈HS X.stack:=P;rcases Zo.mp (I.IM b WO) with z | z
  ·exact(F b hb).2.1 z
  ·exact(F b hb).2.2.1 z
 ·
  have U:k<=i:=by
   rcases Nat.lt_or_ge i k with z | z
   ·rw[Yz (by simpa using z),Ye]at e2;split at e2<;>cases e2
   ·exact z
  rw[Yo (by simpa using U),Yg]at e2;have J:(N.drop k)[i-k]?=some x:=by
   rw[List.getElem?_drop,show k+(i-k)=i by exact Nat.add_sub_of_le U];exact e1
  have UM:sc.names.lookup x=some .free->∃a,(relabel sc X.env).names.lookup x=some a/\(a=.cell\/a=.free):=λf=>by
   have w:Ir (relabel sc X.env) x:=G;rcases w with z | z | z
   ·obtain⟨n,E,L⟩:=de z;rw[f]at E;cases E;rcases L with q | ⟨_,q⟩<;>cases q
   ·exact⟨_,z,.inl rfl⟩
   ·exact⟨_,z,.inr rfl⟩
  have no:∀n,sc.names.lookup x=some n->∃a,(relabel sc X.env).names.lookup x=some a->True:=λ_ _=>⟨.local,λ_=>trivial⟩
  rcases PU _ x J with⟨hX,f⟩ | f | f
  ·obtain⟨a,Z,LM⟩:=UM f;have hf:=HG _ (gB f);have S:X.env.kindOf x=some .cell\/X.env.kindOf x=some .free:=by
    simpa using hf
   obtain⟨mX,hnX,VX⟩:=I.loc;have Qu:Ir X.env.scope x:=S.elim (λz=>.inr (.inl z)) λz=>.inr (.inr z);obtain⟨u,r,l⟩:=VX _ x v hX e2 Qu;refine⟨u,r,.inr ⟨?_,?_⟩⟩
   ·rcases LM with z | z
    ·subst z;exact .inl Z
    ·subst z;exact .inr Z
   ·obtain⟨c,Q⟩:=Y _ (gB f) rfl;refine⟨c,Q,?_⟩;rcases l with⟨z,_⟩ | ⟨_,c',Hw,MY⟩
    ·rcases S with q | q<;>(rw[z]at q;cases q)
    ·have:=g x c Q;rw[Hw]at this;cases this;exact MY.keeps d
  ·have w:Ir (relabel sc X.env) x:=G;rcases w with z | z | z<;>(obtain⟨n,j,_⟩:=de z;rw[f]at j;cases j)
  ·have w:Ir (relabel sc X.env) x:=G;rcases w with z | z | z<;>(obtain⟨n,j,z2⟩:=de z;rw[f]at j;cases j;rcases z2 with q | ⟨q,_⟩<;>cases q)
 ·obtain⟨v,z⟩:=I.cell x c (g x c e);exact⟨v,z.keeps d⟩
 ·show upd H D (.lst []) C=none;rw[ay (Yq P0)];exact Z6
 ·obtain⟨v,z⟩:=I.cell x c (g x c e);rw[ay (Zb (ZK z.lt A))];exact I.Hz x c (g x c e)
 ·exact⟨Yv _,[],0,.nil,RX⟩
 ·show (List.replicate k none++O).length=N.length;rw[Zs,Yg,I.len,← hlen,Yh];exact Nat.add_sub_of_le Jp
noncomputable def yy(X:Cx)(a:List Expr)(t:TT):Prop :=
 ∀(pins:Yy)(s:Shared)(O:St)(H:Hp)(Q:Bool->Hp->Prop),Inv X pins O H s->t O H Q →
  wpAny (model X.prog X.w) X.A (forIn a true λc r=>if r=true then (do let ok ← isTrue c X.env (eval c X.env);pure (ForInStep.yield ok)) else pure (ForInStep.yield r)) (TP X pins O Q) X.xe s
def kE:yy X [] (λO H Q=>Q true H):=λpins s O H Q I q=>ZZ ⟨H,I,q⟩
def xk{c:Expr}{t:TT}(h:PT X c t):yy X [c] t:=λpins s O H Q I q=>by
 rw[List.forIn_cons,Zq rfl];refine Zn (Zn (thn (h pins s O H Q I q) λb s1 a=>ZZ ?_));exact ZZ a
section
variable{prog:Program}{w:World}{A:Around}{R:Result->Shared->Prop}
def rH{i a f:Expr}{g:List Expr}{d:Scope}{o:Pos}{p j:Value}{b:Env}{s:Shared}(I:Nat->Shared->Prop)(l:∀n s,I n s->wpAny (model prog w) A (pyNext p) (λr t=>match r with
   |none=>R (.ok .next) t
   |some v=>wpAny (model prog w) A (letOwnedTupleGo a p v) (λ_ C=>wpAny (model prog w) A (assign a b v) (λ_ B =>
     wpAny (model prog w) A (forIn g true λc r=>if r=true then (do let ok ← isTrue c b (eval c b);pure (ForInStep.yield ok)) else pure (ForInStep.yield r)) (λok q =>
      if ok=true then wpAny (model prog w) A (eval i b) (λx z =>
       wpAny (model prog w) A (call (.builtin "list.append") [j,x]) (λ_ y=>∃m,m<n/\I m y) (λ_ _=>False) z) (λ_ _=>False) q
      else ∃m,m<n/\I m q) (λ_ _=>False) B) (λ_ _=>False) C) (λ_ _=>False) t) (λ_ _=>False) s)(n:Nat)(h:I n s) :
  codeAny (model prog w) A (.compLoop (.ListComp i [⟨a,f,g,0⟩] d o) 0 p j b) R s:=by
 refine codeAny_loop rfl I (λn s J=>?_) n h;show wpAny _ A ((compTurn (.ListComp i [⟨a,f,g,0⟩] d o) 0 p j b).onRaise (λx=>do noteFrame x b;theTreesLotGoes x)) _ _ s;refine wpAny_noted ?_;rw[compTurn_list];refine Zn (wpAny_standAt (Zn (YJ (l n s J) (λr t D=>?_) λ_ _ e=>e.elim)));cases r with
 |none=>exact ZZ D
 |some v =>
  refine Zn (YJ D (λ_ C h₀=>?_) λ_ _ e=>e.elim);refine Zn (YJ h₀ (λ_ B G=>Zn (YJ G (λok q u=>?_) λ_ _ e=>e.elim)) λ_ _ e=>e.elim);cases ok with
  |false=>exact ZZ ⟨rfl,u⟩
  |true =>
   rw[Zq rfl]at u;exact Zn (Zn (YJ u (λx z F=>Zn (YJ F (λ_ y E=>ZZ (ZZ ⟨rfl,E⟩)) λ_ _ e=>e.elim)) λ_ _ e=>e.elim))
end
noncomputable def qZ(k:Nat)(q:TI)(g:TG)(t:TT)(r:TE)(O:St)(H:Hp)(Q:VK):Prop:=q O H λh p=>∀D,p D=none->∃W:Nat->Nat->St->Hp->Prop,
 (∃m,W 0 m (List.replicate k none++O) (upd p D (.lst [])))/\∀i m j d,W i m j d->(h.stop i d/\Q (.ref D) d)\/(h.go i d/\∀x o,h.Pb i d x o->g x j o λe u=>t e u λb n =>
  if b=true then r e n λy l=>∃f,l D=some (.lst f)/\f.length<sizeLine/\∃a,a<m/\W (i+1) a e (upd l D (.lst (f++[y]))) else ∃a,a<m/\W (i+1) a e n)
def oG{E tg f:Expr}{l:List Expr}{sc:Scope}{pos Z:Pos}{N:List Str}{k:Nat}{wi:TI}{g:TG}{tc:TT}{te:TE}{use:Option (Value->Sem Unit)}{QQ:GS}{Q:VK}(G9:X.calm=true)(hi:PI X tg f wi)(IF:nH X.env sc=true)(Jm:kz sc (N.drop k) X.N=true)(Jp:k<=N.length)(Ij:∀cl C s H fp,PG (bR X N sc cl C s H fp) tg g/\yy (bR X N sc cl C s H fp) l tc/\PE (bR X N sc cl C s H fp) E te)(hs:∀x,foldedSetIterable f X.env x=pure x)(I:Inv X pins O H s)(h:qZ k wi g tc te O H Q)(hq:∀M j D C m,Inv X pins O j M->Q (.ref D) j->M.heap.Ns C m->nY X pins j C->compPost (model X.prog X.w) X.A X.xe use QQ (.ref D) C (.ok .next) M) :
  wpAny (model X.prog X.w) X.A (comprehension (.ListComp E [⟨tg,f,l,0⟩] sc pos) sc X.env Z (newList []) false (eval f X.env) use) QQ X.xe s:=by
 have MQ:=IF;unfold nH at MQ;rw[Zd,Ja]at MQ;obtain⟨hk,HG⟩:=MQ;have IG:sc.kind=.function:=by simpa using hk
 have IH:∀y∈sc.names,y.2 ≠ .cell:=λy B e=>by have:=HG y B;rw[e]at this;cases this
 have MV:∀y∈sc.names,y.2=.local->sc.names.lookup y.1=some .local:=λy B e=>by
  have:=HG y B;rw[e]at this;simpa using this
 obtain⟨cl,TR,Li,PR⟩:=Ar (sc:=sc) (env:=X.env) λy B e=>I.ok.has y.1 (by
  have:=HG y B;rw[e]at this;simpa using this)
 refine wpAny_comprehension_free (use:=use) rfl hs TR IG MV (thn (hi pins s O H _ I h) λv s1 h1=>thn h1 λQY a h2=>?_);obtain⟨it,fp,tn,Jq,H2,e,I2,T,Pm,f2,hW⟩:=h2;subst e;refine XI (wpAny_newFunctionEnv IH (by intro y B;simp at B) (λh₁ JN IS=>?_) IG);dsimp only at JN IS ⊢;generalize hP:a.heap.push { cls:=.type "list",dict:=none,data:=.seq ([]:Xg).toArray }=P at JN IS ⊢;have R0:P.objs.size=a.heap.objs.size+1:=by rw[← hP,X6]
 have old:∀b o,a.heap.get? b=some o->h₁.get? b=some o:=λb o e =>
  IS.extBut b o (by rw[R0];exact Zb (XA (ZW e))) (Zi _ (hP ▸ Zi _ e))
 have P0:a.heap.objs.size≠P.objs.size:=by rw[R0];exact Zb (YZ _)
 have RX:h₁.get? a.heap.objs.size=some { cls:=.type "list",data:=.seq ([]:Xg).toArray 0 }:=IS.extBut _ _ P0 (Zi _ (hP ▸ ZQ _ rfl));have M3:a.heap.objs.size<=P.objs.size:=by rw[R0];exact XH _
 have L7:∀b∈fp,b<a.heap.objs.size:=λb hb=>let ⟨o,ho,_⟩:=T.obj 0 _ Pm b hb;ZW ho
 have PQ:P.objs.size∉fp:=λhb=>absurd (ZK (L7 _ hb) M3) (Ya _);have IY:=I2.block (N:=N) (sc:=sc) (cl:=cl) (C:=P.objs.size) (D:=a.heap.objs.size) (fp:=fp) (k:=k) (t:=a.toks+([]:List (Str×Value)).length) IF Jm Jp Li PR f2 (Zh _) M3 P0 PQ old JN RX;obtain⟨hG,hT,hE⟩:=Ij cl P.objs.size a H2 fp;generalize hY:bR X N sc cl P.objs.size a H2 fp=Y at IY hG hT hE;have XN:Y.prog=X.prog/\Y.w=X.w/\Y.K=X.K/\Y.A=X.A/\Y.env=compEnvC sc cl P.objs.size X.env/\Y.calm=X.calm/\(Y.xe=λ_ _=>False):=by rw[← hY];exact⟨rfl,rfl,rfl,rfl,rfl,rfl,rfl⟩
 obtain⟨J,G,y3,F,y5,y6,y7⟩:=XN;have JD:∀{j:Hp},(∀b∈fp,j b=none)->∀b∈fp,nY Y [] j b:=λ{j} hn b hb=>by
  rw[← hY];refine⟨hn b hb,λ(e:b=P.objs.size)=>PQ (e ▸ hb),λHo=>?_,.inl hb,λx c e=>(f2 b hb).2.2.2.2.1 x c (Li x c e),λp hp=>(nomatch hp)⟩;rcases Zo.mp (I2.IM b Ho) with z | z
  ·exact(f2 b hb).2.1 z
  ·exact(f2 b hb).2.2.1 z
 obtain⟨W,⟨m0,w0⟩,turn⟩:=hW a.heap.objs.size (I2.GL.fresh (Zh _));have RI:∀b∈fp,upd H2 a.heap.objs.size (.lst []) b=none:=λb hb=>by rw[ay (Zb (L7 b hb))];exact(f2 b hb).1
 have L3:tn 0 h₁:=T.keep _ _ _ Pm λb _ o e=>old b o e;have loop:codeAny (model X.prog X.w) X.A (.compLoop (.ListComp E [⟨tg,f,l,0⟩] sc pos) 0 (.ref it) (.ref a.heap.objs.size) (compEnvC sc cl P.objs.size X.env)) (compPost (model X.prog X.w) X.A X.xe use QQ (.ref a.heap.objs.size) P.objs.size)
   { a with heap:=h₁,toks:=a.toks+([]:List (Str×Value)).length }:=by
  refine rH (λn M=>∃i O' j,Inv Y [] O' j M/\tn i M.heap/\(∀b∈fp,j b=none)/\W i n O' j) ?_ m0 ⟨0,_,_,IY,L3,RI,w0⟩;rintro n s3 ⟨i,O3,H3,I3,L3,OC,w3⟩;rcases turn i n O3 H3 w3 with⟨stop,qn⟩ | ⟨go,step⟩
  ·have q:=T.done Y J G y3 (y6.trans G9) i [] s3 O3 H3 (λ_ _=>False) I3 (JD OC) L3 stop;rw[F]at q;refine thn q λr s4 ⟨hr,S⟩=>?_;subst hr;have IX:Inv X pins O H3 s4:=by
    have b4:=S.base;have o4:=S.os;have k4:=S.GL;rw[← hY]at b4 o4 k4;refine I2.OO (ch:=fp) o4 b4 k4 S.bare λb hb=>?_;exact⟨(f2 b hb).2.2.2.1,(f2 b hb).2.1,(f2 b hb).2.2.2.2.1,(f2 b hb).2.2.2.2.2⟩
   obtain⟨mC,TC,_⟩:=S.loc;have f4:=S.free;rw[y5]at TC f4;exact hq s4 H3 _ P.objs.size mC IX qn TC (I2.La M3 f4)
  ·have q:=T.item Y J G y3 (y6.trans G9) i [] s3 O3 H3 (λ_ _=>False) I3 (JD OC) L3 go;rw[F]at q;refine thn q λr s4 ⟨u,hr,h4⟩=>?_;subst hr;refine thn h4 λ_ s5 ⟨x,H5,I5,r5,UE,Mz,R5⟩=>?_;have SI:=I5.pinned (JD R5) (T.obj _ _ Mz);have again:∀{O7:St}{U:Hp}{L:Shared}{m:Nat},Inv Y ([]++nN fp s5.heap) O7 U L->W (i+1) m O7 U->∃i O' j,Inv Y [] O' j L/\tn i L.heap/\(∀b∈fp,j b=none)/\W i m O' j:=λ{O7 U L m} R w7=>by
    refine⟨i+1,O7,U,R.HJ,T.keep _ _ _ Mz λb hb o e=>(R.pin (b,o) (ZU _ (ZU _ (iC hb e)))).1,λb hb=>?_,w7⟩;obtain⟨o,e,d⟩:=T.obj _ _ Mz b hb;exact(R.pin (b,o) (ZU _ (ZU _ (iC hb e)))).2.1
   have qa:=hG _ s5 O3 H5 x u _ SI r5 (step x H5 UE);rw[J,G,F,y5,y7]at qa;refine thn qa λ_ s6 ⟨O6,H6,I6,q6⟩=>?_;have qt:=hT _ s6 O6 H6 _ I6 q6;rw[J,G,F,y5,y7]at qt;refine thn qt λb L ⟨U,R,q7⟩=>?_;cases b with
   |false =>
    rw[Zp ZX]at q7 ⊢;obtain⟨m',hm,w7⟩:=q7;exact⟨m',hm,again R w7⟩
   |true =>
    rw[Zq rfl]at q7 ⊢;have qe:=hE _ L O6 U _ R q7;rw[J,G,F,y5,y7]at qe;refine thn qe λyv s8 ⟨y,H8,I8,r8,ys,Z8,VY,m',hm,w8⟩=>?_;have qp:=fQ (X:=Y) _ s8 O6 H8 (.ref a.heap.objs.size) [y] (.ref a.heap.objs.size) [yv] (λ_ H9=>W (i+1) m' O6 H9) I8 rfl (.cons r8 .nil) ⟨_,ys,y,rfl,rfl,Z8,VY,w8⟩;rw[J,G,F,y7]at qp;refine thn qp λ_ s9 ⟨_,H9,I9,_,w9⟩=>?_;exact⟨m',hm,again I9 w9⟩
 exact codeAny_compStart_list loop (T.self _ 0 _ _ _ L3 loop)
def pv{j l a:Expr}{i:List Expr}{d:Scope}{n:Pos}{N:List Str}{k:Nat}{p:TI}{g:TG}{t:TT}{r:TE}(L:X.calm=true)(y:PI X l a p)(E:nH X.env d=true)(A:kz d (N.drop k) X.N=true)(z:k<=N.length)(B:∀cl C s H fp,PG (bR X N d cl C s H fp) l g/\yy (bR X N d cl C s H fp) i t/\PE (bR X N d cl C s H fp) j r)(v:∀x,foldedSetIterable a X.env x=pure x:=by intro _;rfl):PE X (.ListComp j [⟨l,a,i,0⟩] d n) (qZ k p g t r):=by
 intro pins s O H Q I h;rw[eval_ListComp];refine oG (use:=none) L y E A z B v I h λu J D C m F q w f=>⟨m,w,λM G=>?_⟩
 exact⟨.ref D,J,F.turned (it:=C) (t':=u.toks) (λb o hb e=>G.extBut b o hb e) f.1 f.2.1 f.2.2.2.1 f.2.2.2.2.1 f.2.2.2.2.2,rfl,q⟩
def nS{p t d:Expr}{n:List Expr}{l:Scope}{r j y:Pos}{N:List Str}{k i:Nat}{x:Str}{w:TI}{g:TG}{tc:TT}{te:TE}(R:X.N.Nodup)(Y:X.N[i]?=some x)(F:Loc X.env.scope x)(G9:X.calm=true)(M:PI X t d w)(IF:nH X.env l=true)(Jm:kz l (N.drop k) X.N=true)(Z:k<=N.length)(Ij:∀cl C s H fp,PG (bR X N l cl C s H fp) t g/\yy (bR X N l cl C s H fp) n tc/\PE (bR X N l cl C s H fp) p te)(HV:swapsWith (.ListComp p [⟨t,d,n,0⟩] l r) (some (.Name x j)) y.line X.env=pure true)(P:X.fn x=true\/X.env.scope.names.lookup x=some .local)(G:∀x,foldedSetIterable d X.env x=pure x:=by intro _;rfl) :
  PS X (.Assign [.Name x j] (.ListComp p [⟨t,d,n,0⟩] l r) y) (λD O H=>qZ k w g tc te O H λv H1=>D.nx (O.set i (some v)) H1):=by
 intro pins s O H D I h;rw[exec_Assign_Name_used _ _ _ _ HV];refine Zn (wpAny_standAt (Zn ?_));show wpAny _ X.A (do let _ ← comprehension (.ListComp p [⟨t,d,n,0⟩] l r) l X.env _ (newList []) false (eval d X.env) (some (assign (.Name x j) X.env))) _ _ s;refine Zn (YJ (oG (use:=some (assign (.Name x j) X.env)) (QQ:=λ_ u=>SP X pins D .next u) G9 M IF Jm Z Ij G I h λu H' B C m I' q L f=>?_) (λ_ u J=>ZZ (ZZ J)) λ_ _ e=>e);show wpAny _ X.A (assign (.Name x j) X.env (.ref B)) _ _ _;refine wpAny_assign_Name (oE I' R Y F (v:=.ref B) rfl (λE I2 ⟨a,U,Q⟩=>?_) P);have S:C≠a:=λe=>by
  rcases Q with z | z
  ·exact f.2.1 (e.trans z)
  ·exact f.2.2.2.2.1 x a z e.symm
 refine⟨m,L.sameBut U S,λh' HW=>⟨_,H',?_,q⟩⟩;exact I2.turned (it:=C) (t':=E.toks) (λb o hb e=>HW.extBut b o hb e) f.1 f.2.1 f.2.2.2.1 f.2.2.2.2.1 f.2.2.2.2.2
end
end L2
end
section
namespace VS
open PySem PySem.Spec PyProof.Rows L2
noncomputable def vQ(k:Nat)(g:Tg):Prop:=∀t J a,g t J=some a->a.length=J.length/\∀i,k<=i->a[i]?=J[i]?
def iy{k i:Nat}(h:i<k:=by decide):vQ k (aU i):=λt J b e=>by
 unfold aU at e;split at e
 ·cases e;exact⟨by simp,λj a=>by rw[Yt (by lia)]⟩
 ·cases e
theorem u9:∀(l:W8){i:Nat}{t:T},cZ l=true->l[i]?=some t->GO t=true
 |[],_,_,_,h=>by simp at h
 |x :: l,0,t,h,e=>by
  simp only[cZ,Zd]at h;simp at e;rw[← e];exact h.1
 |x :: l,i+1,t,h,e=>by
  simp only[cZ,Zd]at h;exact u9 l h.2 (by simpa using e)
noncomputable def tC(G:Gx):Option Ex->TT
 |none=>λO H Q=>Q true H
 |some c=>tT G c
section
variable{G:Gx}{Z:GP}{J:VS.Env}{O:L2.St}{H:Hp}{k:Nat}
def kI{i:Nat}{c:Cell}:(List.replicate k none++J)[i]?=some (some c)↔k<=i/\J[i-k]?=some (some c):=by
 rcases Nat.lt_or_ge i k with h | h
 ·rw[Yz (by simpa using h),Ye];constructor
  ·intro e;split at e<;>cases e
  ·intro ⟨e,_⟩;lia
 ·rw[Yo (by simpa using h),Yg];exact⟨λe=>⟨h,e⟩,λe=>e.2⟩
def wX{a:Addr}:bw (λi=>Z (i-k)) (List.replicate k none++J) a↔bw Z J a:=by
 constructor
 ·rintro⟨j,t,d,b⟩;exact⟨j-k,t,(kI.mp d).2,b⟩
 ·rintro⟨j,t,d,b⟩;refine⟨j+k,t,kI.mpr ⟨Nat.le_add_left _ _,by rw[Xf];exact d⟩,?_⟩;show a∈Z (j+k-k);rw[Xf];exact b
def xE{a:Addr}:cM (λi=>Z (i-k)) (List.replicate k none++J) a↔cM Z J a:=by
 constructor
 ·rintro⟨j,t,d,b⟩;exact⟨j-k,t,(kI.mp d).2,b⟩
 ·rintro⟨j,t,d,b⟩;refine⟨j+k,t,kI.mpr ⟨Nat.le_add_left _ _,by rw[Xf];exact d⟩,?_⟩;show a∈Z (j+k-k);rw[Xf];exact b
def SR.sh(s:SR G Z J O H):SR G (λi=>Z (i-k)) (List.replicate k none++J) (List.replicate k none++O) H:=by
 refine⟨by simp[s.len],λi c h=>?_,λi t h=>?_,λi j t c b a n=>?_⟩
 ·obtain⟨b,a⟩:=kI.mp h;obtain⟨v,e,d⟩:=s.rp _ c a;refine⟨v,?_,d⟩;rw[Yo (by simpa using b),Yg];exact e
 ·exact s.nd _ t (kI.mp h).2
 ·obtain⟨m,g⟩:=kI.mp b;obtain⟨l,f⟩:=kI.mp a;exact s.sep _ _ t c g f (by lia)
def SR.less{a:VS.Env}(s:SR G Z a O H)(b:J.length=a.length)(h:∀(i:Nat) c,J[i]?=some (some c)->a[i]?=some (some c)):SR G Z J O H :=
 ⟨b.trans s.len,λi c e=>s.rp i c (h i c e),λi t e=>s.nd i t (h i _ e),λi j t c e1 e2 n=>s.sep i j t c (h i _ e1) (h j _ e2) n⟩
def SR.off{D:Addr}{o:HO}(s:SR G Z J O H)(m:GQ (H D)\/H D=none)(d:¬cM Z J D)(a:¬bw Z J D):SR G Z J O (upd H D o):=by
 refine⟨s.len,λi c e=>?_,s.nd,s.sep⟩;obtain⟨v,h,g⟩:=s.rp i c e;refine⟨v,h,g.keep (Kept.upd m) λb hb j f=>?_⟩;rw[ay λz=>?_]
 ·exact f
 ·subst z;cases c with
  |pu t=>exact d ⟨i,t,e,hb⟩
  |ow t=>exact a ⟨i,t,e,hb⟩
theorem mW:∀(l:W6)(v:Val),cy (l++[v])=(cy l).join v.1
 |[],(m,t)=>by cases m<;>rfl
 | (m,t) :: l,v=>by
  show m.join (cy (l++[v]))=(m.join (cy l)).join v.1;rw[mW l v];generalize cy l=q;generalize v.1=r;cases m<;>cases q<;>cases r<;>rfl
def Fp.N8{m n:Md}{F j:Xi}(f:Fp Z J H m F)(g:Fp Z J H n j)(d:n=.fr->∀a∈F,a∉j):Fp Z J H (m.join n) (F++j):=by
 have both:∀{P:Addr->Prop},(∀a∈F,P a)->(∀a∈j,P a)->∀a∈F++j,P a:=λp q a h=>(Ze.mp h).elim (p a) (q a);cases m<;>cases n
 ·exact⟨ZO.mpr ⟨f.1,g.1,λa i b hb e=>d rfl a i (e ▸ hb)⟩,both f.2 g.2⟩
 ·exact both (λa i=>.inl (f.2 a i)) g
 ·exact both (λa i=>.inl (f.2 a i)) g
 ·exact both f λa i=>.inl (g.2 a i)
 ·exact both f g
 ·exact both (λa i=>(f a i).imp id .inl) g
 ·exact both f λa i=>.inl (g.2 a i)
 ·exact both f λa i=>(g a i).imp id .inl
 ·exact both f g
def Fp.ON{m:Md}{F:Xi}{D:Addr}(f:Fp Z J H m F)(h:H D=none)(d:D∉F):Fp Z J H m (D :: F):=by
 have all:∀{P:Addr->Prop},P D->(∀a∈F,P a)->∀a∈D :: F,P a:=λp q a b=>(Zo.mp b).elim (λe=>e ▸ p) (q a);cases m
 ·exact⟨Zf.mpr ⟨d,f.1⟩,all h f.2⟩
 ·exact all (.inl h) f
 ·exact all (.inl h) f
end
section
variable{G:Gx}{k:Nat}{tg:Tg}{ci:Jb}{cond:Option Ex}{ce:Ex}
noncomputable def CI(G:Gx)(Z:GP)(J b:VS.Env)(H p:Hp)(D:Addr)(l:W8)(h:W6)(q:Tg)(d:Option Ex)(r:Ex)(i n:Nat)(s:L2.St)(f:Hp):Prop:=n=l.length-i/\∃e g j m rest,SR G e b s f/\(∀a,bw e b a->bw Z J a)/\(∀a,cM e b a->H a=none\/cM Z J a)/\¬cM e b D/\¬bw e b D/\Kept p f ∧
     (∀a o,a≠D->p a=some o->f a=some o)/\f D=some (.lst m)/\RpL G f m (trees g) j/\D∉j.flatten/\Fp Z J H (cy g) j.flatten/\ju q d r b (l.drop i)=some rest/\g++rest=h
def lY{O:L2.St}{H:Hp}{Q:VK}(Ij:vQ k tg)(h:tE G (cz k tg ci cond ce) O H Q):qZ k (tI G ci) (tG G tg) (tC G cond) (tE G ce) O H Q:=by
 refine L2.gI λP_ N=>?_;obtain⟨Z,J,m,r,s,e,kq⟩:=h;unfold cz at e;obtain⟨⟨mi,l⟩,el,e1⟩:=Zz.mp e;dsimp only at e1;split at e1
 ·rename_i GL;obtain⟨all,ea,e2⟩:=Zz.mp e1;unfold IZ at e2;split at e2
  ·rename_i hlen;cases e2;refine N ?_;refine⟨Z,J,mi,l,s,el,λJq H1 C e3 ok fc D hD=>?_⟩;have S:H D=none:=e3.free hD;let R:VS.Env:=List.replicate k none++J
   have good:∀{t:T}{i:Nat}{L U:Hp}{v:V}{F:Xi},l[i]?=some t->Rp G U v t F->(∀a,H1 a≠none->L a≠none)->(∀a∈F,a∈C\/L a=none)->∀a∈F,(H a=none\/cM Z J a)/\¬bw Z J a:=λ{t i L U v F} hi rF keep hF a d=>by
    have GX:∀{b},H b≠none->L b≠none:=λ{b} hb=>keep b λz=>hb (e3.free z);rcases hF a d with z | z
    ·rcases fc a z with q | q | ⟨q,w⟩
     ·exact⟨.inl q,λw=>GQ.p0 (s.Hi w) q⟩
     ·exact⟨.inr q,λw=>s.KP w q⟩
     ·subst q;have:GO t=true:=by
       exact u9 l GL hi
      rw[rF.GO this]at d;simp at d
    ·have hz:H a=none:=Classical.byContradiction λq=>GX q z;exact⟨.inl hz,λw=>GQ.p0 (s.Hi w) hz⟩
   refine⟨CI G Z J R H H1 D l all tg cond ce,?_,?_⟩
   ·refine⟨l.length-0,rfl,λi=>Z (i-k),[],[],[],all,?_,λa h=>wX.mp h,λa h=>.inr (xE.mp h),λh=>?_,λh=>?_,Kept.upd (.inr hD),λa o n h=>by rw[ay n];exact h,aw,.nil,by simp,Fp.nil,by rw[List.drop_zero];exact ea,rfl⟩
    ·exact((s.same e3).sh).off (.inr hD) (λh=>GQ.p0 (s.IP (xE.mp h)) S) λh=>GQ.p0 (s.Hi (wX.mp h)) S
    ·exact GQ.p0 (s.IP (xE.mp h)) S
    ·exact GQ.p0 (s.Hi (wX.mp h)) S
   ·intro i n O' L V9;refine L2.gI λP_ N=>?_;obtain⟨rfl,Z1,M,Fs,X,rest,s1,Nj,Va,Vq,Vs,kp,old,Nr,rp,nD,fp,er,ev⟩:=V9;refine N ?_;have J8:∀a,H1 a≠none->L a≠none:=λa d z=>by
     by_cases q:a=D
     ·subst q;rw[Nr]at z;cases z
     ·cases e:H1 a with
      |none=>exact d e
      |some o=>rw[old a o q e]at z;cases z
    refine L2.gI λP_ N=>?_;obtain⟨go,stop⟩:=ok.run L kp λa d o ho=>old a o (λz=>ok.GX a d (z ▸ hD)) ho;cases hit:l[i]? with
    |none =>
     have hl:l.length<=i:=YW.mp hit;refine N ?_;left;refine⟨stop i hl,?_⟩;rw[Y8 hl]at er;cases (show some ([]:W6)=some rest from er);rw[ZV]at ev;subst ev;refine kq (.ref D) L (D :: Fs.flatten) (λa o h=>old a o (λz=>by rw[z,S]at h;cases h) (e3 a o h)) (.lst Nr rp) ?_;by_cases hi:cZ (trees M)=true
     ·rw[Zq hi,rp.GO hi];exact⟨by simp,λa d=>by rw[Zj.mp d];exact S⟩
     ·rw[Zp hi];exact fp.ON S nD
    |some t =>
     have hl:i<l.length:=(Zg.mp hit).1;obtain⟨g1,y1⟩:=go i t hit;refine N ?_;right;refine⟨g1,λx U yl=>?_⟩;refine L2.gI λP_ N=>?_;obtain⟨B,F,rF,hF⟩:=y1 x U yl;rw[oj (tgt:=tg) (body:=eT) (J:=J) hit]at er;rw[ju]at er;obtain⟨p,e4,e5⟩:=Zz.mp er;obtain⟨b,eb,e6⟩:=Zz.mp e5;have gd:=good hit rF J8 hF;have s2:=s1.same B;have DF:D∉F:=λh=>by
      rcases hF D h with z | z
      ·exact ok.GX D z hD
      ·rw[Nr]at z;cases z
     refine N ?_;refine⟨Z1,R,t,F,p,s2,rF,λa d z=>(gd a d).2 (Nj a z),e4,λg O3 s3 o3 p3=>?_⟩;obtain⟨tl,NK⟩:=Ij t R p e4;have low:∀j c,R[j]?=some (some c)->p[j]?=some (some c):=λj c h=>by rw[NK j (kI.mp h).1];exact h
     have Pq:∀a,cM g p a->H a=none\/cM Z J a:=λa h=>(p3 a h).elim (Va a) λh=>(gd a h).1;have QA:∀a,bw g p a->bw Z J a:=λa h=>Nj a (o3 a h);have NZ:¬cM g p D:=λh=>(p3 D h).elim Vq DF;have Px:¬bw g p D:=λh=>Vs (o3 D h);have Pp:∀a,cM g R a->cM g p a:=λa ⟨j,u,h1,h2⟩=>⟨j,u,low j _ h1,h2⟩
     have Pr:∀a,bw g R a->bw g p a:=λa ⟨j,u,h1,h2⟩=>⟨j,u,low j _ h1,h2⟩
     have L5:∀A,aH U A->(if b=true then tE G ce O3 A λy E=>∃ys,E D=some (.lst ys)/\ys.length<sizeLine/\∃m',m'<l.length-i/\CI G Z J R H H1 D l all tg cond ce (i+1) m' O3 (upd E D (.lst (ys++[y]))) else ∃m',m'<l.length-i/\CI G Z J R H H1 D l all tg cond ce (i+1) m' O3 A):=λA f=>by
      have eo:∀{E},aH A E->∀a o,L a=some o->E a=some o:=λ{E} Y a o h=>Y a o (f a o (B a o h));cases b with
      |false =>
       rw[Zp ZX]at e6 ⊢;have same:=eo (aH.refl A);exact⟨_,by lia,rfl,g,M,Fs,X,rest,(s3.same f).less (by rw[tl]) low,λa h=>QA a (Pr a h),λa h=>Pq a (Pp a h),λh=>NZ (Pp D h),λh=>Px (Pr D h),kp.trans ((Kept.of B).trans (Kept.of f)),λa o n h=>same a o (old a o n h),same D _ Nr,rp.same (aH.trans B f),nD,fp,e6,ev⟩
      |true =>
       rw[Zq rfl]at e6 ⊢;obtain⟨⟨mv,tv⟩,ece,e7⟩:=Zz.mp e6;obtain⟨NS,er1,Ut⟩:=Zw.mp e7;refine⟨g,p,mv,tv,s3.same f,ece,λy E Fy Y ry P=>?_⟩;have same:=eo Y;have Oz:=same D _ Nr;have LG:GQ (E D):=by rw[Oz];exact True.intro
       have RY:A D=some (.lst X):=f D _ (B D _ Nr);have KR:∀a,A a=none->H a=none:=λa h=>Classical.byContradiction λq=>J8 a (λz=>q (e3.free z)) (B.free (f.free h));have fyo:Fp Z J H mv Fy:=by
        cases mv with
        |fr=>exact⟨P.1,λa d=>KR a (P.2 a d)⟩
        |pu=>exact λa d=>(P a d).elim (λz=>.inl (KR a z)) (Pq a)
        |bo=>exact λa d=>(P a d).elim (λz=>.inl (KR a z)) λz=>z.elim (λz=>(Pq a z).imp id .inl) λz=>.inr (.inr (QA a z))
       have UB:D∉Fy:=λh=>by
        cases mv with
        |fr=>have:=P.2 D h;rw[RY]at this;cases this
        |pu=>exact(P D h).elim (λz=>by rw[RY]at z;cases z) NZ
        |bo=>exact(P D h).elim (λz=>by rw[RY]at z;cases z) λz=>z.elim NZ Px
       have U4:RpL G E X (trees M) Fs:=rp.same ((B.trans f).trans Y);have Vx:X.length=M.length:=by rw[rp.len.1];simp
       have Vy:M.length<all.length:=by rw[← ev,← Ut];simp
       refine⟨X,Oz,?_,_,by lia,rfl,g,M++[(mv,tv)],Fs++[Fy],X++[y],NS,(((s3.same f).same Y).off (.inl LG) NZ Px).less (by rw[tl]) low,λa h=>QA a (Pr a h),λa h=>Pq a (Pp a h),λh=>NZ (Pp D h),λh=>Px (Pr D h),?_,λa o n h=>?_,aw,?_,?_,?_,er1,?_⟩
       ·have Ol:all.length<=dY:=by simpa using hlen
        have:sizeLine=dY:=rfl;lia
       ·exact(kp.trans ((Kept.of B).trans ((Kept.of f).trans (Kept.of Y)))).trans (Kept.upd (.inl LG))
       ·rw[ay n];exact same a o (old a o n h)
       ·have:trees (M++[(mv,tv)])=trees M++[tv]:=by simp
        rw[this];exact(U4.off LG nD).append (.cons (ry.keep (Kept.upd (.inl LG)) λb hb o ho=>by rw[ay (λz=>UB (by rw[← z];exact hb))];exact ho) .nil)
       ·rw[Yp];intro h;rcases Ze.mp h with z | z
        ·exact nD z
        ·exact UB (by simpa using z)
       ·rw[Yp,mW];have:([Fy]:Yd).flatten=Fy:=by simp
        rw[this];refine fp.N8 fyo λhm a d hb=>?_;subst hm;have h4:=P.2 a hb;have:GQ (A a):=(rp.same (B.trans f)).GX a d;rw[h4]at this;exact this
       ·rw[ZM,← ev,← Ut];rfl
     cases cond with
     |none =>
      cases (show some true=some b from eb);exact L5 U (aH.refl U)
     |some c =>
      obtain⟨⟨mc,xc⟩,ec1,OI⟩:=Zz.mp eb;exact⟨g,p,mc,xc,b,s3,ec1,OI,λA f=>L5 A f⟩
  ·cases e2
 ·cases e1
end
section
variable{G:Gx}{X:Cx}{elt tg iter c:Expr}{sc:Scope}{pos pos' Jh:Pos}{N:List Str}{k i:Nat}{x:Str}{ci:Jb}{g:Tg}{cc ce:Ex}
def mq(k:Nat)(N:List Str)(n:X.calm=true)(b:PVI G X tg iter ci)(l:vQ k g)(d:∀cl C s H fp,Mq G (bR X N sc cl C s H fp) tg g)(e:∀cl C s H fp,PV G (bR X N sc cl C s H fp) elt ce)(m:nH X.env sc=true:=by rfl)(j:kz sc (N.drop k) X.N=true:=by rfl)(f:k<=N.length:=by decide)(a:∀x,foldedSetIterable iter X.env x=pure x:=by intro _;rfl) :
  PV G X (.ListComp elt [⟨tg,iter,[],0⟩] sc pos) (cz k g ci none ce) :=
 PE.weak (pv n b m j f (λcl C s H fp=>⟨d cl C s H fp,kE,e cl C s H fp⟩) a) λO H Q h=>lY (cond:=none) l h
def Cc{D:Ends}{O:L2.St}{H:Hp}{a:Ex}(h:tS G (gR i a) D O H):tE G a O H λv r=>D.nx (O.set i (some v)) r:=by
 refine L2.gI λw j=>?_;obtain⟨Z,J,o,s,e,k⟩:=h;unfold gR at e;obtain⟨⟨m,t⟩,p,e1⟩:=Zz.mp e;obtain⟨c,eC,e2⟩:=Zz.mp e1;refine j ?_;split at e2
 ·rename_i l;cases e2;refine⟨Z,J,m,t,s,p,λv u F q b n=>?_⟩;obtain⟨f,d⟩:=s.val (c:=c) l q b n (by
   unfold cellOf at eC;cases m with
   |fr =>
    simp only[Option.some.injEq]at eC;split at eC
    ·exact .inr ⟨eC.symm,rfl⟩
    ·exact .inl ⟨eC.symm,by decide⟩
   |pu=>cases eC;exact .inl ⟨rfl,by decide⟩
   |bo=>cases eC)
  exact k _ _ u f d
 ·cases e2
def Ap{D:Ends}{O:L2.St}{H:Hp}{a:Ex}(h:tS G (aQ i a) D O H):tE G a O H λv u=>D.nx (O.set i (some v)) u:=by
 refine L2.gI λy j=>?_;obtain⟨Z,J,o,s,e,k⟩:=h;unfold aQ at e;obtain⟨⟨m,t⟩,q,e1⟩:=Zz.mp e;refine j ?_;split at e1
 ·cases e1
 ·rename_i l;split at e1
  ·rename_i n;cases e1;refine⟨Z,J,m,t,s,q,λv w F r b p=>?_⟩;obtain⟨f,d⟩:=s.val (c:=.pu t) n r b p (.inl ⟨rfl,l⟩);exact k _ _ w f d
  ·cases e1
def w6(k:Nat)(N:List Str){a:Sx}(m:∀D O H,tS G a D O H->tE G (cz k g ci none ce) O H λv w=>D.nx (O.set i (some v)) w)(y:X.calm=true)(e:PVI G X tg iter ci)(r:vQ k g)(f:∀cl C s H fp,Mq G (bR X N sc cl C s H fp) tg g)(l:∀cl C s H fp,PV G (bR X N sc cl C s H fp) elt ce)(n:X.N.Nodup)(o:X.N[i]?=some x:=by rfl)(b:Loc X.env.scope x:=by first | exact Or.inl rfl | exact Or.inr rfl)(t:nH X.env sc=true:=by rfl)(q:kz sc (N.drop k) X.N=true:=by rfl)(p:k<=N.length:=by decide)(u:swapsWith (.ListComp elt [⟨tg,iter,[],0⟩] sc pos) (some (.Name x pos')) Jh.line X.env=pure true:=by rfl)(j:X.fn x=true\/X.env.scope.names.lookup x=some .local:=by first | exact .inl rfl | exact .inr rfl)(d:∀x,foldedSetIterable iter X.env x=pure x:=by intro _;rfl) :
  PSV G X (.Assign [.Name x pos'] (.ListComp elt [⟨tg,iter,[],0⟩] sc pos) Jh) a :=
 PS.weak (nS n o b y e t q p (λcl C s H fp=>⟨f cl C s H fp,kE,l cl C s H fp⟩) u j d) λD O H h=>lY (cond:=none) r (m D O H h)
end
end VS
end
section
namespace L2
open PySem PySem.Spec PyProof.Rows
noncomputable def SH(K:Y2)(a:Addr):It :=
 ⟨λi H=>∃b x,GY K H a b/\b[i]?=some x,λi H v d=>∃p x,H p=none/\v=.ref p/\d=upd H p (.tup [.int i,x])/\∀b,GY K H a b->b[i]?=some x,λi H=>∃b,GY K H a b/\b.length<=i⟩
def wI{P:Program}{w:World}{K:Y2}{B:List Expr}{n:Nat}{G:Pos}(a e f:Addr)(HX:e≠f):Turn P w K (.Tuple B n G) (SH K a) [e,f] e (λi h=>(∃old,IsEnum h e f i old)/\h.IsListIter f a i) where
 mem:=by simp
 obj:=λi h st b hb=>by
  obtain⟨⟨old,g⟩,o,L,c,d⟩:=st;rcases Zo.mp hb with rfl | hb
  ·exact⟨_,g,λv z=>by cases (show Data.fields _=Data.cell v from z)⟩
  ·rw[Zj.mp hb];exact⟨o,L,λv z=>by rw[d]at z;cases z⟩
 keep:=λi h h' st k=>⟨let ⟨old,g⟩:=st.1;⟨old,k e (by simp) _ g⟩,st.2.at λo x=>k f (by simp) o x⟩
 item:=by
  intro X M hw N hc i pins s O H E I l st hg;subst M hw N;obtain⟨xs,x,D,J⟩:=hg;obtain⟨GI,F,p,hz⟩:=I.list D;obtain⟨u,hu,ru⟩:=F.get J;obtain⟨⟨old,g⟩,hit⟩:=st;refine wpAny_pyNext_enum_item g hit p.isList (x:=u) (by simpa using hu) HX λh1 L RE hT hsz hk=>⟨_,rfl,?_⟩
  refine wpAny_letOwnedTupleGo_enum L λA WG C=>?_;have C:Heap.SameBut e h1 A:=C;have Ti:e<s.heap.objs.size:=ZW g;have ltI:f<s.heap.objs.size:=let ⟨_,z,_⟩:=hit;ZW z
  have T2:H s.heap.objs.size=none:=I.GL.fresh (Zh _);have t:∀b o,b∉[e,f]->s.heap.get? b=some o->A.get? b=some o:=λb o hb q=>by
   have T5:b≠e:=λz=>hb (by simp[z]);have Q:b≠f:=λz=>hb (by simp[z]);exact(C.2 b T5).trans (hk b o T5 Q q)
  have TX:A.get? s.heap.objs.size=some { cls:=.type "tuple",data:=.seq #[.int i s.toks,u] }:=(C.2 _ (Wj Ti)).trans hT;have Td:∀b o,H b=some o->b∉[e,f]:=λb o q hb=>by rw[(l b hb).1]at q;cases q
  have lt:∀b o,s.heap.get? b=some o->b≠s.heap.objs.size:=λb o q=>Zb (ZW q);have up:∀b o,H b=some o->upd H s.heap.objs.size (.tup [.int i,x]) b=some o:=λb o q=>by rw[ay (bN q T2)];exact q
  have Ro:HE X.prog X.w (upd H s.heap.objs.size (.tup [.int i,x])) A:=λb Z q=>by
   by_cases hb:b=s.heap.objs.size
   ·subst hb;rw[aw]at q;cases q;exact⟨by show 2<=sizeLine;decide,[.int i s.toks,u],.cons ⟨_,rfl⟩ (.cons ru .nil),LV.of TX rfl,⟨_,TX,rfl,_,rfl⟩⟩
   ·rw[ay hb]at q;refine(I.GL b Z q).Jg (λc v j r=>t c v ?_ r) (λc r=>up c _ r) λc Y r=>up c _ r;rcases j with z | z
    ·rw[z];exact Td b Z q
    ·exact Td c _ z
  refine⟨.ref s.heap.objs.size,upd H s.heap.objs.size (.tup [.int i,x]),?_,rfl,⟨_,x,T2,rfl,rfl,λY hy=>by rw[I.Jj hy D];exact J⟩,⟨⟨u,by simpa using WG⟩,RE.at λo y=>(C.2 f HX.symm).trans y⟩,λb hb=>?_⟩
  ·show Inv X pins O _ { s with heap:=A,gens:=s.gens,drawn:=s.drawn,toks:=s.toks+1 };refine I.step (g':=s.gens) (d':=s.drawn) (t':=s.toks+1) (ch:=[e,f]) (λb hb=>?_) (λb o _ _ j q _=>t b o j q) (λb o _ _ j q _=>⟨o.slots,t b o j q⟩) (λb o _ q r=>by rw[ay (lt b o q)];exact r) (λb o j q=>⟨o,t b o j q⟩)
    (λb Y q=>up b _ q) (λb o v q=>up b _ q) (λb ps q=>⟨#[],by rw[up b _ q];simp⟩) (λm hm=>?_) Ro I.bare
   ·obtain⟨f0,f1,f2,U,S,R⟩:=l b hb;exact⟨U,f1,S,R⟩
   ·obtain⟨o,es,ep,JM,r⟩:=hm;refine⟨o,es,ep,t _ o (λz=>?_) JM,r⟩;exact(l _ z).2.1 rfl
  ·have:b≠s.heap.objs.size:=by
    rcases Zo.mp hb with rfl | hb
    ·exact Zb Ti
    ·rw[Zj.mp hb];exact Zb ltI
   rw[ay this];exact(l b hb).1
 done:=by
  intro X M hw N hc i pins s O H E I l st hg;subst M hw N;obtain⟨xs,D,J⟩:=hg;obtain⟨GI,F,p,hz⟩:=I.list D;obtain⟨⟨old,g⟩,hit⟩:=st;obtain⟨f0,f1,f2,U,S,R⟩:=l f (by simp);have hl:=F.length;exact wpAny_pyNext_enum_end (I.ok.hd hc) g hit p.isList (by simp;lia) λh' eb=>⟨rfl,I.turned (t':=s.toks) (λb o hb q=>eb b o hb q) f0 f1 U S R⟩
 self:=λ_ _ _ _ _ st h=>let ⟨_,g⟩:=st.1;wpAny_pyIter_enum g h
section
variable{X:Cx}{tg a:Expr}{ta:TA}{p pos:Pos}
noncomputable def FW(K:Y2)(ta:TA):TI:=λO H R=>ta O H λe b=>∃l,e=[.ref l]/\(∃d,GY K b l d)/\R (SH K l) b
def Ai{d:List Expr}{n:Nat}{A:Pos}(y:Gl X "enumerate")(w:X.mg "enumerate" = none)(z:PA X [a] ta)(u:starEach [a] X.env=[(false,eval a X.env)]:=by rfl):PI X (.Tuple d n A) (.Call (.Name "enumerate" p) [a] [] pos) (FW X.K ta):=by
 intro pins s O H R I h;refine Call_ (k8 I y w boot_enumerate (Xv (thn (z pos pins s O H _ I h) λE s1 ⟨D,B,f,r1,m⟩=>?_) u rfl));obtain⟨l,e,⟨C,v⟩,q⟩:=m;subst e;cases r1 with
 |cons r j =>
  cases j;cases r;obtain⟨L,F,o,G⟩:=f.list v;refine call_enumerate_list o.isList λJ g hit t x=>?_;refine wpAny_pyIter_enum g ?_;refine⟨_,_,_,_,B,rfl,f.kept (t':=s1.toks) x,wI l (s1.heap.objs.size+1) s1.heap.objs.size (Nat.succ_ne_self _),⟨⟨_,g⟩,hit⟩,λb hb=>?_,q⟩;have i:s1.heap.objs.size<=b:=by
   rcases Zo.mp hb with rfl | hb
   ·exact Xo _ _
   ·rw[Zj.mp hb];exact Zh _
  exact f.La i (f.GL.fresh i)
end
end L2
namespace VS
open PySem PySem.Spec PyProof.Rows L2
section
variable{G:Gx}{X:Cx}{a:Expr}{ca:Ex}{pos p Lv:Pos}{elts:List Expr}{n:Nat}
theorem sg:∀(l:W8)(k i:Nat){t:T},(dP k l)[i]?=some t->∃x,l[i]?=some x/\t=.tup [.int ((k+i:Nat):Int),x]
 |[],_,_,_,h=>by simp[dP]at h
 |x :: l,k,0,t,h=>by
  simp[dP]at h;exact⟨x,rfl,by rw[← h];rfl⟩
 |x :: l,k,i+1,t,h=>by
  obtain⟨y,d,b⟩:=sg l (k+1) i (by simpa[dP] using h);refine⟨y,by simpa using d,?_⟩;rw[b,show k+1+i=k+(i+1) by lia]
theorem oM:∀(l:W8)(k:Nat),(dP k l).length=l.length
 |[],_=>rfl
 |x :: l,k=>by simp[dP,oM l (k+1)]
def A2{H:Hp}{a:Addr}{d:List V}{e:W8}{j:Yd}(K:Y2)(m:H a=some (.lst d))(r:RpL G H d e j):Kl G (SH K a) (dP 0 e) (a :: j.flatten) H:=by
 refine⟨λf k c=>?_,λb hb=>?_⟩
 ·have g:f a=some (.lst d):=c a Zx _ m;have r2:RpL G f d e j:=r.keep k λb hb o B=>c b (Zy _ hb) o B;refine⟨λi t h=>?_,λi h=>⟨d,GY.of g,by rw[oM]at h;rw[r.len.1];exact h⟩⟩;obtain⟨y,w,u⟩:=sg e 0 i h;rw[Wk]at u;obtain⟨v,F,s,D,C⟩:=r2.get i w;refine⟨⟨d,v,GY.of g,s⟩,λx J ⟨p,z,A,e1,e2,E⟩=>?_⟩;subst e1 e2;have ex:=E d (GY.of g);rw[s]at ex;cases ex;have l:aH f (upd f p (.tup [.int i,v])):=λb o q=>by rw[ay (bN q A)];exact q
  refine⟨l,F,?_,λb hb=>.inl (Zy _ (cT D hb))⟩;rw[u];have:F=([[],F]:Yd).flatten:=by simp
  rw[this];exact .tup aw (.cons (.int _) (.cons (C.same l) .nil))
 ·rcases Zo.mp hb with rfl | hb
  ·rw[m];exact λz=>nomatch z
  ·exact GQ.p0 (r.GX b hb)
def i6(r:PV G X a ca)(q:Gl X "enumerate")(o:X.mg "enumerate" = none)(i:K1 a [] X:=by rfl)(z:starEach [a] X.env=[(false,eval a X.env)]:=by rfl) :
  PVI G X (.Tuple elts n Lv) (.Call (.Name "enumerate" p) [a] [] pos) (lI ca) :=
 PI.weak (Ai q o (cP r fD i) z) λO H R j=>by
  obtain⟨Z,J,m,l,s,e,k⟩:=j;unfold lI at e;obtain⟨⟨h,x⟩,u,e1⟩:=Zz.mp e;refine⟨Z,J,h,x,s,u,λv A F w g t=>?_⟩;cases x with
  |lst B =>
   cases e1;obtain⟨y,d,C,rfl,rfl,b,f⟩:=g.lst_inv;exact⟨y,rfl,⟨d,GY.of b⟩,k _ A _ w (A2 X.K b f) t.c⟩
  |_=>cases e1
end
noncomputable instance {s:Tx}:Decidable (nX s):=inferInstanceAs (Decidable (_/\_))
section
variable{G:Gx}{X:Cx}{a b c e:Expr}{es:List Expr}{ca cb cc:Ex}{cs:Hf}{pos p p1 p2 apos pe:Pos}{k k':Nat}
def w_add(f:PV G X a ca)(d:PV G X b cb):PV G X (.BinOp a .Add b pos) (e2 bg ca cb):=kJ kM nB f d
def w_mul(f:PV G X a ca)(d:PV G X b cb):PV G X (.BinOp a .Mult b pos) (e2 gz ca cb):=kJ DC CV f d
def w_mod(f:PV G X a ca)(d:PV G X b cb):PV G X (.BinOp a .Mod b pos) (e2 oMod ca cb):=kJ DB DW f d
def nU(d:GJ k X.A)(g:PV G X a ca)(f:PV G X b cb):IC G X (.Compare a [.Eq] [b] pos) (e2 oEq ca cb):=ik (ub d.units) yJ tells_eq g f (jD _)
def uL(d:GJ k X.A)(g:PV G X a ca)(f:PV G X b cb):IC G X (.Compare a [.NotEq] [b] pos) (e2 JZ ca cb):=ik (C5 d.units) Ep zG g f (jD _)
def aZ(g:PV G X a ca)(f:PV G X b cb)(d:fM b:=by intro _ _;rfl)(i:X.K=G.K:=by rfl):PV G X (.Subscript a b pos) (e2 aD ca cb) :=
 PE.weak (lF jU g f d) λO H Q h=>by rw[i];exact mP ue h
def eA(d:X.mg "len" = none)(g:HP G X [e] cs)(f:Gl X "len" := by rfl)(h:X.K=G.K:=by rfl)(he:K1 e [] X:=by rfl):PV G X (.Call (.Name "len" p) [e] [] pos) (eN bx cs) :=
 ke (h ▸ wQ) Dh f d PySem.boot_len g (he:=he) (hpl:=rfl)
def Dc:bootBuiltins ("min" : Str)=some (.builtin "min"):=by decide +kernel
def Ac:bootBuiltins ("list" : Str)=some (.type "list"):=by decide +kernel
noncomputable def Nf:Ty->Str
 |.int => "int" |.str => "str" |.bool => "bool" |.list => "list" |.tuple => "tuple" |.dict => "dict"
def FP(t:Ty):bootBuiltins (Nf t)=some (.type (Km t)):=by cases t<;>decide +kernel
def w_is(t:Ty)(f:X.mg "isinstance" = none)(j:X.mg (Nf t)=none)(h:PV G X a ca)(g:Gl X "isinstance" := by rfl)(l:Gl X (Nf t):=by rfl)(i:X.K=G.K:=by rfl)(d:starEach [a,.Name (Nf t) p2] X.env=(false,eval a X.env) :: starEach [.Name (Nf t) p2] X.env:=by rfl):PV G X (.Call (.Name "isinstance" p1) [a,.Name (Nf t) p2] [] pos) (M6 t ca) :=
 Ft t h g f l j (FP t) i (by cases t<;>decide) (by cases t<;>decide) d rfl rfl
def kb(i:Nat){x:Str}(m:HP G X [e] cs)(o:X.K=G.K:=by rfl)(n:X.N[i]?=some x:=by rfl)(f:Ir X.env.scope x:=by first | exact Or.inl rfl | exact Or.inr (Or.inl rfl) | exact Or.inr (Or.inr rfl))(j:K3 x:=by decide)(d:K4 x:=by decide)(q:((backTo pe (starEach [e] X.env)).all (λx=>!x.1)&&(backToKw pe (keywordEach [] X.env)).all (λx=>x.1.isSome)
   && decide ([e].length+([]:List Keyword).length+(if ([]:List Keyword).isEmpty then 0 else 1)<30))=true:=by rfl)(s:(apos.endLine==pe.line)=true:=by rfl)(g:K1 e [] X:=by rfl) :
  PSV G X (.Expr (.Call (.Attribute (.Name x p1) "append" apos) [e] [] pe) pos) (sX (oi i [] aN cs)) :=
 zE i Y3 YA YB fQ jq (λH v t F l z r h=>gH r h) m o n f j d rfl q s g rfl rfl
end
structure FnAt(P:Program)(w:World)(K:Y2)(mg:Xk)(base:Heap)(k:Nat)(x:Str)(ps:List Str)(G:Gx)(g:Fn):Prop where
 ex:∃f fd,FnOk P w K mg base Hx k f fd ps (Jy G g)/\mg x=some (.ref f)/\PySem.W.keepIn K (.ref f)=true/\Binds K fd ps []
section
variable{G:Gx}{X:Cx}{e:Expr}{es:List Expr}{cs:Hf}{pos p:Pos}{k k':Nat}{x:Str}{ps:List Str}{g:Fn}
def cW(F:FnAt X.prog X.w X.K X.mg X.base k x ps G g)(b:GJ k' X.A)(j:HP G X (e :: es) cs)(d:k<=k':=by decide)(h:Gl X x:=by rfl)(q:K3 x:=by decide)(i:K1 e es X:=by rfl)(a:K2 pos es X:=by rfl) :
  PV G X (.Call (.Name x p) (e :: es) [] pos) (bu g cs):=by
 obtain⟨f,fd,o,n,m,l⟩:=F.ex;exact AM o (b.mono d) h n m l j q i a
end
section
variable{G:Gx}{P:Program}{w:World}{K:Y2}{mg:Xk}{base:Heap}
def gD{x:Str}{a:Stmt}{f:Addr}{i:FuncData}{N b:List Str}{k g h:Nat}{c:Sx}(F:GV K x x a f i)(m:mg x=some (.ref f))(S:oe N b (aq a))(j:b.length=g)(l:N.length=h)(o:∀(kV doc pm:Value)(an:Option Addr)(d ct:Value)(e:Xg),e.length=b.length->bindArgs (PySem.W.fnOf x x (dZ a) (bh a) (aq a) .none kV doc pm an d ct) ⟨e,[]⟩=pure (b.zip e))(n:∀(d:Value)(A:Around)(outer:List PySem.Env)(s:Shared)(H:Hp)(E:XK),GJ k (A.deeper (envOfC x (aq a) s.heap.objs.size f d))->ij G (jr Hx P w K mg base N x (aq a) f d A outer s H E).J6 (bh a) c) :
  FnAt P w K mg base (k+1) x b G (fn g h c) :=
 ⟨f,i,R6 F S j l n,m,F.kp,F.binds o⟩
end
end VS
end
section
namespace L2
open PySem PySem.Spec PyProof.Rows
noncomputable def Jb(x:Str):It:=⟨λi _=>i<x.cps.size,λi H v a=>a=H/\∃c,x.cps[i]?=some c/\v=.str ⟨#[c]⟩,λi _=>x.cps.size<=i⟩
def oU{P:Program}{w:World}{K:Y2}{F:Expr}(x:Str)(t:Tok)(a:Addr)(g:String)(M:["enumerate", "zip", "dict_itemiterator", "dict_reverseitemiterator", "odict_iterator", "itertools.zip_longest", "itertools.pairwise"].contains g=false)(W:∀A:Around,A.handled=none->Walks P w A a [a] [a] x.cps.size (λi v=>∃c u,x.cps[i]?=some c/\v=.str ⟨#[c]⟩ u) (λi h=>h.IsStrIter a g x t i))(S:∀(A:Around),A.handled=none->∀(i:Nat)(s:Shared)(Q:Wm->Shared->Prop)(E:GS),s.heap.IsStrIter a g x t i->x.cps[i]?=none->(∀f,Heap.ExtBut a s.heap f->Q none { s with heap:=f })->wpAny (model P w) A (pyNext (.ref a)) Q E s)(U:∀(A:Around)(i:Nat)(s:Shared)(Q:GS)(E:GS),s.heap.IsStrIter a g x t i->Q (.ref a) s->wpAny (model P w) A (pyIter (.ref a)) Q E s) :
  Turn P w K F (Jb x) [a] a (λi h=>h.IsStrIter a g x t i) where
 mem:=by simp
 obj:=λi h st b hb=>by
  rw[Zj.mp hb];obtain⟨o,e,c,d⟩:=st;exact⟨o,e,λv z=>by rw[d]at z;cases z⟩
 keep:=λi h f st k=>let ⟨o,e,r⟩:=st;⟨o,k a (by simp) o e,r⟩
 item:=by
  intro X m hw n l i pins s O H E I j st hg;subst m hw n;obtain⟨B,f1,f2,y,q,p⟩:=j a (by simp);refine(W X.A (I.ok.hd l)).item i s _ _ hg st λv f C L D G=>?_;obtain⟨c,u,Z,rfl⟩:=L;have Y:Inv X pins O H { s with heap:=f,toks:=C }:=I.turned (λb o hb e=>G b o (by simpa using hb) e) B f1 y q p;obtain⟨o,e,R,d⟩:=id D;exact⟨_,rfl,q9 (s:={ s with heap:=f,toks:=C }) e R d M ⟨.str ⟨#[c]⟩,H,Y,⟨u,rfl⟩,⟨rfl,c,Z,rfl⟩,D,λb hb=>(j b hb).1⟩⟩
 done:=by
  intro X m hw n l i pins s O H E I j st hg;subst m hw n;obtain⟨B,f1,f2,y,q,p⟩:=j a (by simp);have J:x.cps.size<=i:=hg;exact S X.A (I.ok.hd l) i s _ _ st (by simp[J]) λf N=>⟨rfl,I.turned (t':=s.toks) (λb o hb e=>N b o hb e) B f1 y q p⟩
 self:=λA i s Q E st h=>U A i s Q E st h
def zd{P:Program}{w:World}{K:Y2}{g:Expr}(x:Str)(t:Tok)(a:Addr):Turn P w K g (Jb x) [a] a (λi h=>h.IsStrIter a (strIterType x) x t i):=by
 cases f:x.cps.all (· < 128)
 ·have e:strIterType x = "str_iterator" := by simp[strIterType,f]
  rw[e];exact oU x t a "str_iterator" rfl (λA b=>Walks.strWide b a x t) (λA b i s Q E st d q=>wpAny_pyNext_wide_end b st d q) λA i s Q E st q=>wpAny_pyIter_striter_wide st q
 ·have e:strIterType x = "str_ascii_iterator" := by simp[strIterType,f]
  rw[e];exact oU x t a "str_ascii_iterator" rfl (λA b=>Walks.strAscii b a x t) (λA b i s Q E st d q=>wpAny_pyNext_ascii_end b st d q) λA i s Q E st q=>wpAny_pyIter_striter_ascii st q
section
variable{X:Cx}{tg l a b c:Expr}{tl ta tb tc:TE}{pos:Pos}
noncomputable def FF(K:Y2)(f:TE):TI:=λO H R=>f O H λx d=>(∃a,x=.ref a/\(∃e,GY K d a e)/\R (SG K a) d)\/(∃a,x=.ref a/\(∃e,HD K d a e)/\R (SF K a) d)\/∃z,x=.str z/\R (Jb z) d
def Aa(w:PE X l tl):PI X tg l (FF X.K tl):=by
 intro pins s O H R I h;refine thn (w pins s O H _ I h) λv s1 ⟨x,f,d,r1,r⟩=>?_;have i:∀b∈[s1.heap.objs.size],nY X pins f b:=λb hb=>by
  rw[Zj.mp hb];exact d.La (Zh _) (d.GL.fresh (Zh _))
 rcases r with⟨a,e,⟨m,g⟩,q⟩ | ⟨a,e,⟨m,g⟩,q⟩ | ⟨z,e,q⟩
 ·subst e;cases r1;obtain⟨j,n,p,u⟩:=d.list g;exact wpAny_pyIter_list p.isList ⟨s1.heap.objs.size,[s1.heap.objs.size],_,_,f,rfl,d.kept (t':=s1.toks) λb o e=>Zi _ e,wA a _,⟨_,ZQ _ rfl,rfl,rfl⟩,i,q⟩
 ·subst e;cases r1;obtain⟨j,n,p,u⟩:=d.tuple g;exact wpAny_pyIter_tuple (show s1.heap.IsTuple a j.toArray from p) ⟨s1.heap.objs.size,[s1.heap.objs.size],_,_,f,rfl,d.kept (t':=s1.toks) λb o e=>Zi _ e,ug a _,⟨_,ZQ _ rfl,rfl,rfl⟩,i,q⟩
 ·subst e;obtain⟨t,rfl⟩:=r1;exact wpAny_pyIter_strU ⟨s1.heap.objs.size,[s1.heap.objs.size],_,_,f,rfl,d.kept (t':=s1.toks) λb o e=>Zi _ e,zd z t _,⟨_,ZQ _ rfl,rfl,rfl⟩,i,q⟩
def um{s:Shared}{d:Heap}{o:Obj}(g:∀b x,b∉[s.heap.objs.size]->(s.heap.push o).get? b=some x->d.get? b=some x)(b:Addr)(x:Obj)(e:s.heap.get? b=some x):d.get? b=some x :=
 g b x (λf=>Ya _ (by have:=ZW e;rw[Zj.mp f]at this;exact this)) (Zi _ e)
def xT(E:X.calm=true):dI X (.builtin "sum") (λr H Q=>∃p,∃ns:W3,r=[.ref p]/\GY X.K H p (ns.map V.int)/\Q (.int ns.sum) H):=by
 intro pins s O H r G Q I z h;obtain⟨p,ns,rfl,D,q⟩:=h;obtain⟨u,rfl,j⟩:=z.one;cases j;obtain⟨f,g,m,L⟩:=I.list D;have w:p<s.heap.objs.size:=by obtain⟨_,e,_⟩:=m.isList;exact ZW e
 refine call_sum_walkG (wpAny_pyIter_list m.isList ⟨s.heap.objs.size,[s.heap.objs.size,p],[s.heap.objs.size],f.toArray.size,_,_,λi=>(ns[i]?).getD 0,rfl,Walks.list (A:=X.A.in1) (I.ok.hd E) _ p (Zb w) f.toArray,
  ⟨⟨_,ZQ _ rfl,rfl,rfl⟩,m.isList.push _⟩,λb hb=>?_,λi v F=>?_,λM J y o=>⟨.int ns.sum,H,I.kept (um o),⟨y,?_⟩,q⟩⟩)
 ·rw[X6];rcases Zo.mp hb with rfl | hb
  ·exact YZ _
  ·rw[Zj.mp hb];exact XA w
 ·have d:f[i]?=some v:=by simpa using F
  cases e:ns[i]? with
  |none =>
   have:=g.none_of (i:=i) (by rw[ZY,e];rfl);rw[this]at d;cases d
  |some n =>
   obtain⟨u,C,j⟩:=g.get (i:=i) (x:=.int n) (by rw[ZY,e];rfl);rw[C]at d;cases d;obtain⟨t,rfl⟩:=j;exact⟨t,by simp[e]⟩
 ·have hlen:f.toArray.size=ns.length:=by have:=g.length;simp at this ⊢;exact Eq.symm this
  have:∀k,k<=ns.length->preSum (λi=>(ns[i]?).getD 0) k=(ns.take k).sum:=λk=>by
   induction k with
   |zero=>intro _;simp[preSum]
   |succ k B =>
    intro o;rw[List.take_succ,List.sum_append,preSum,B (by exact Nat.le_of_succ_le o)];cases e:ns[k]? <;> simp
  rw[hlen,this _ (Zh _),List.take_length]
def wV:OpR X (compareOp .Gt) (λx y H Q=>∃i j,x=.str i/\y=.str j/\Q (.bl (decide (j.cps.toList<i.cps.toList))) H):=by
 intro pins s O H x y v u Q I e d h;obtain⟨i,j,rfl,rfl,q⟩:=h;obtain⟨t,rfl⟩:=e;obtain⟨f,rfl⟩:=d;exact PySem.P.gt_str ⟨.bl _,H,I,rfl,q⟩
end
end L2
end
section
namespace VS
open PySem PySem.Spec PyProof.Rows L2
section
variable{G:Gx}{X:Cx}{a b c e tg:Expr}{es:List Expr}{ca cb cc:Ex}{cs:Hf}{pos p p1 p2 apos pe:Pos}{k k':Nat}
def Dn(H:Hp)(s:Tx)(l:nX s):Kl G (L2.Jb (sx s)) (s.map λc=>T.str [c]) [] H:=by
 have sz:(sx s).cps.size=s.length:=rfl;refine⟨λo _ _=>⟨λi t h=>?_,λi h=>(by rw[Zu]at h;show (sx s).cps.size<=i;lia)⟩,λa h=>by simp at h⟩;rw[ZY]at h;obtain⟨c,f,rfl⟩:=Zw.mp h;refine⟨(by show i<(sx s).cps.size;have:=(Zg.mp f).1;lia),λx n ⟨e1,g,j,e2⟩=>?_⟩;subst e1;have:g=c:=by
  have m:(sx s).cps[i]?=some c:=by simp[sx,f]
  rw[m]at j;exact(Zm j).symm
 subst this;rw[e2];exact⟨aH.refl _,[],.str [g] ⟨(by show 1<=dY;decide),λd hd=>by rw[Zj.mp hd];exact l.2 g (Yc f)⟩,λa h=>by simp at h⟩
def fO(w:PV G X a ca)(B:X.K=G.K:=by rfl):PVI G X tg a (gU ca) :=
 PI.weak (Aa w) λO H R u=>by
  obtain⟨Z,J,m,l,s,e,k⟩:=u;unfold gU at e;obtain⟨⟨t,x⟩,y,e1⟩:=Zz.mp e;refine⟨Z,J,t,x,s,y,λv f F n j q=>?_⟩;cases x with
  |lst r =>
   cases e1;obtain⟨o,g,A,rfl,rfl,d,i⟩:=j.lst_inv;exact .inl ⟨o,rfl,⟨g,GY.of d⟩,k _ f _ n (Ba X.K d i) q.c⟩
  |tup r =>
   cases e1;obtain⟨o,g,A,rfl,rfl,d,i⟩:=j.Hl;exact .inr (.inl ⟨o,rfl,⟨g,HD.of d⟩,k _ f _ n (CT X.K d i) q.c⟩)
  |str z =>
   cases e1;obtain⟨rfl,ok⟩:=j.str_inv;exact .inr (.inr ⟨_,rfl,k _ f [] n (Dn f z ok) λa h=>by simp at h⟩)
  |_=>cases e1
theorem vC{H:Hp}:∀{d:List V}{l:W8}{g:Yd}{f:W3},RpL G H d l g->mG l=some f->d=f.map V.int
 |_,_,_,_,.nil,e=>by cases e;rfl
 |_,_,_,_,.cons (t:=t) r q,e=>by
  cases t with
  |int s =>
   simp only[mG]at e;obtain⟨h,e1,e2⟩:=Zw.mp e;subst e2;rw[vC q e1,r.int_inv];rfl
  |_=>cases e
def DK:fC G (λd H Q=>∃p,∃ns:W3,d=[.ref p]/\GY G.K H p (ns.map V.int)/\Q (.int ns.sum) H) vZ:=by
 intro Z J r H l f n m t Q A e k;unfold vZ at e;split at e
 ·rename_i q x;obtain⟨i,e1,e2⟩:=Zz.mp e;cases e2;obtain⟨v,F,rfl,rfl,g⟩:=(show RpL G H f [.lst x] n from A.rp).one;obtain⟨a,o,s,rfl,rfl,j,h⟩:=g.lst_inv;exact⟨a,i,rfl,by rw[← vC h e1];exact GY.of j,bG k (.int _)⟩
 ·cases e
def CO:bootBuiltins ("sum" : Str)=some (.builtin "sum"):=by decide +kernel
def yV:bootBuiltins ("tuple" : Str)=some (.type "tuple"):=by decide +kernel
def w_sum(d:X.mg "sum" = none)(h:HP G X [e] cs)(f:Gl X "sum" := by rfl)(i:X.K=G.K:=by rfl)(g:X.calm=true:=by rfl)(he:K1 e [] X:=by rfl):PV G X (.Call (.Name "sum" p) [e] [] pos) (eN vZ cs) :=
 ke (xT g) (i ▸ DK) f d CO h (he:=he) (hpl:=rfl)
def zx:fC G (λh H Q=>∃p d,h=[.ref p]/\((GY G.K H p d/\∀l,H l=none->Q (.ref l) (upd H l (.tup d)))\/(HD G.K H p d/\Q (.ref p) H))) ka:=by
 intro Z J B H l i w m t Q A e k;unfold ka at e;split at e
 ·rename_i y x;split at e
  ·rename_i z;cases e;obtain⟨v,F,rfl,rfl,j⟩:=(show RpL G H i [.lst x] w from A.rp).one;obtain⟨a,d,u,rfl,rfl,s,n⟩:=j.lst_inv;have f:=(A.fp.each 0 _ _ rfl rfl).sub (Yl _ _);refine⟨a,d,rfl,.inl ⟨GY.of s,λq o=>?_⟩⟩;have g:aH H (upd H q (.tup d)):=cK o;have r:Rp G (upd H q (.tup d)) (.ref q) (.tup x) u.flatten:=.tup aw (n.same g);exact k _ _ _ g r (f.up r)
  ·cases e
 ·cases e
def Af(d:X.mg "tuple" = none)(g:HP G X [e] cs)(f:Gl X "tuple" := by rfl)(h:X.K=G.K:=by rfl)(he:K1 e [] X:=by rfl):PV G X (.Call (.Name "tuple" p) [e] [] pos) (eN ka cs) :=
 ji oh (h ▸ zx) f d yV g (he:=he) (hpl:=rfl)
noncomputable def SX:R2:=λx y H Q=>Kp (λi j=>.bl (decide (j<i))) x y H Q\/(∃i j,x=.str i/\y=.str j/\Q (.bl (decide (j.cps.toList<i.cps.toList))) H)
def D3(s t:Tx):decide ((sx s).cps.toList<(sx t).cps.toList)=JJ s t:=by rw[fX];exact decide_eq_decide.mpr (by simp[sx])
def Ew:fK G SX KQ:=by
 intro Z J i H x y u w l j m t Q d e k;obtain⟨h,x⟩:=x;obtain⟨g,y⟩:=y;obtain⟨same,r1,r2,f1,f2,nd⟩:=d;unfold KQ oLt at e;split at e
 ·rename_i e1 e2;cases e1;cases e2;cases e;exact .inl ⟨_,_,r1.int_inv,r2.int_inv,bG k (.bl _)⟩
 ·rename_i s _ f e1 e2;cases e1;cases e2;cases e;refine .inr ⟨_,_,r1.str_inv.1,r2.str_inv.1,?_⟩;rw[D3];exact bG k (.bl _)
 ·cases e
def xy:Tells KQ:=λx y m t e=>j6 y x m t e
def zt(f:PV G X a ca)(d:PV G X b cb):IC G X (.Compare a [.Gt] [b] pos) (e2 KQ ca cb):=ik (r:=SX) (Fc.or wV) Ew xy f d (jD _)
def qN{r o:R2}{f g:Val->Val->W7}(L:fK G r f)(Vm:fK G o g){O:L2.St}{H:Hp}{Q:VK}(h:tE G (dE f g ca cb cc) O H Q):zo r o (tE G ca) (tE G cb) (tE G cc) O H Q:=by
 obtain⟨Z,J,m,t,s,e,k⟩:=h;unfold dE at e;obtain⟨x,ea,e⟩:=Zz.mp e;obtain⟨y,eb,e⟩:=Zz.mp e;obtain⟨⟨M,z⟩,U,e⟩:=Zz.mp e;refine x9 s ea eb λu w H2 F1 A d=>L Z J H H2 x y u w F1 A M z _ d U λv H3 F e1 r1 f1=>?_;cases z with
 |bl q =>
  refine⟨q,r1.HA,?_⟩;cases q with
  |false =>
   cases e;rw[Zp ZX];exact k _ H3 [] (d.same.trans e1) (.bl false) Fp.nil
  |true =>
   rw[Zq rfl];obtain⟨l,Y,e⟩:=Zz.mp (show (cc J).bind (λz=>g y z)=some (m,t) from e);have i:=d.same.trans e1;refine⟨Z,J,l.1,l.2,s.same i,Y,λB H4 F4 n E j=>?_⟩;refine Vm Z J H H4 y l w B A F4 m t Q ⟨i.trans n,(d.r2.same e1).same n,E,d.f2,j.back i,λP N=>?_⟩ e λC H5 F5 e5 D S=>k C H5 F5 ((i.trans n).trans e5) D S;have f2:=d.f2;rw[P]at f2;rw[N]at j;refine ZO.mpr ⟨f2.1,j.1,λa R b hb z=>?_⟩;subst z;exact GQ.p0 ((d.r2.same e1).GX a R) (j.2 a hb)
 |_=>cases e
end
end VS
end
section
namespace L2
open PySem PySem.Spec PyProof.Rows
section
variable{X:Cx}
def wO{α:Type}(l:List α)(n:Nat):∀acc:List α,List.foldl (λa x2=>a++x2) acc.toArray (List.replicate n l.toArray)=(acc++(List.replicate n l).flatten).toArray:=by
 induction n with
 |zero=>intro acc;simp
 |succ n b =>
  intro acc;rw[Xl,YL];have e:acc.toArray++l.toArray=(acc++l).toArray:=by simp
  rw[e,b (acc++l),Xl,ZR,ZM]
def Bo:OpR X (binaryOp .Mult) (λx y H Q=>∃(l:W0)(k:Int),x=.str ⟨l.toArray⟩/\y=.int k/\-(2 ^ 62)<=k/\k<2 ^ 62/\l.length*k.toNat<=sizeLine/\Q (.str ⟨(List.replicate k.toNat l).flatten.toArray⟩) H):=by
 intro pins s O H x y v u Q I g f h;obtain⟨l,k,rfl,rfl,w,r,b,q⟩:=h;obtain⟨t,rfl⟩:=g;obtain⟨p,rfl⟩:=f;have hlen:(⟨l.toArray⟩:Str).length=l.length:=rfl;refine PySem.P.mul_str ?_ ?_ ?_ ?_
 ·rw[Bool.or_eq_false_iff];exact⟨Zc (by lia),Zc (by lia)⟩
 ·intro d _ n;rw[hlen]at n;have m:0<k:=by lia
  have:(l.length:Int)*k<=16777216:=by
   have i:l.length*k.toNat<=16777216:=b;have:((l.length*k.toNat:Nat):Int)<=16777216:=by lia
   rw[Int.natCast_mul]at this
   rwa [Int.toNat_of_nonneg (by lia)]at this
  have o:(l.length:Int)*k<=2 ^ 63-1:=by lia
  have:=(Int.le_ediv_iff_mul_le m).mpr o;lia
 ·intro _ _;rw[hlen];exact Zc (by show ¬_ > _;exact Nat.not_lt.mpr b)
 ·by_cases d:k<1
  ·rw[Zq d];have e:k.toNat=0:=by lia
   rw[e]at q;exact⟨by decide,⟨.str ⟨#[]⟩,H,I.tok _,⟨_,rfl⟩,q⟩⟩
  ·rw[Zp d];split
   ·rename_i a;have e:(List.replicate k.toNat l).flatten=l:=by
     rw[Bool.or_eq_true]at a;rcases a with a | a
     ·have:k=1:=by simpa using a
      subst this;show (List.replicate 1 l).flatten=l;simp
     ·have:l=[]:=by
       rw[hlen]at a;exact List.eq_nil_of_length_eq_zero (by simpa using a)
      subst this;simp
    rw[e]at q;exact⟨.str ⟨l.toArray⟩,H,I,⟨t,rfl⟩,q⟩
   ·have e:=wO l k.toNat [];rw[YD]at e;rw[show (⟨l.toArray⟩:Str).cps=l.toArray from rfl,e];refine⟨?_,⟨.str ⟨(List.replicate k.toNat l).flatten.toArray⟩,H,I.tok _,⟨s.toks,rfl⟩,q⟩⟩;have j:=len_rep l k.toNat;show (⟨(List.replicate k.toNat l).flatten.toArray⟩:Str).length<=sizeLine;show ((List.replicate k.toNat l).flatten.toArray).size<=sizeLine;rw[ZS,j,Nat.mul_comm];exact b
end
end L2
namespace VS
open PySem PySem.Spec PyProof.Rows L2
section
variable{G:Gx}{X:Cx}{a b c e tg:Expr}{es:List Expr}{ca cb cc:Ex}{cs:Hf}{pos p p1 p2 apos pe:Pos}{k k':Nat}
def AE:fK G (λx y H Q=>∃(l:W0)(k:Int),x=.str ⟨l.toArray⟩/\y=.int k/\-(2 ^ 62)<=k/\k<2 ^ 62/\l.length*k.toNat<=sizeLine/\Q (.str ⟨(List.replicate k.toNat l).flatten.toArray⟩) H) uC:=by
 intro Z J v H x y u w A z m t Q g e k;obtain⟨s,x⟩:=x;obtain⟨r,y⟩:=y;obtain⟨same,r1,r2,f1,f2,nd⟩:=g;unfold uC at e;split at e
 ·rename_i _ h _ j e1 e2;cases e1;cases e2;split at e
  ·rename_i d;cases e;have o:=d.2.1;have n:=d.2.2;unfold KC at o n;refine⟨h,j,r1.str_inv.1,r2.int_inv,by lia,by lia,d.1,bG k (.str _ ⟨?_,λc q=>?_⟩)⟩
   ·rw[len_rep,Nat.mul_comm];exact d.1
   ·obtain⟨x,i,f⟩:=WV.mp q;rw[(List.mem_replicate.mp i).2]at f;exact r1.str_inv.2.2 c f
  ·cases e
 ·cases e
def t5:PV G X (.Dict [] [] pos) (nk 0 []):=PE.weak xR λO H Q d=>by
 obtain⟨Z,J,m,t,s,e,k⟩:=d;cases (show some (Md.fr,T.dct 0 [])=some (m,t) from e);intro q d;have:Rp G (upd H q (.dK [])) (.ref q) (.dct 0 ((([]:List Key).map aB).zip [])) (q :: ([]:Yd).flatten):=.dct aw rfl .nil;exact k _ _ [q] (cK d) this ⟨by simp,λb hb=>by rw[Zj.mp hb];exact d⟩
end
section
variable{G:Gx}{X:Cx}{a b c e tg:Expr}{es:List Expr}{ca cb cc ce:Ex}{cs:Hf}{pos p p1 p2 apos pe pos':Pos}{k k':Nat}
def ib{h:List Stmt}{C:Sx}(hp:PassesOwn (model X.prog X.w) X.A X.env X.xe)(hc:IC G X c cc)(hb:ij G X h C):PSV G X (.While c h [] pos) (jQ cc C) :=
 PS.weak (yN hp hc hb) λD O H Y=>by
  obtain⟨Z,J,o,s,e,k⟩:=Y;refine⟨λn E F=>∃m r,SR G m r E F/\GZ Z J H m r F/\di cc C n r=some o,⟨tW,Z,J,s,GZ.refl Z J H,e⟩,?_⟩;rintro n E F ⟨m,r,N,f2,e2⟩;cases n with
  |zero=>cases (show (none:Option Out)=some o from e2)
  |succ n =>
   rw[di]at e2;obtain⟨⟨U,x⟩,ex,e3⟩:=Zz.mp e2;obtain⟨t,et,B⟩:=Zz.mp e3;refine⟨m,r,U,x,t,N,ex,et,λQ L=>?_⟩;have M:=N.same L;have y:GZ Z J H m r Q:=f2.trans (GZ.same L);cases t with
   |false =>
    rw[Zp ZX]at B;cases B;show if false=true then _ else _
    rw[Zp ZX];exact k m E Q M y
   |true =>
    rw[Zq rfl]at B;show if true=true then _ else _
    rw[Zq rfl];obtain⟨P,e5,z⟩:=Zz.mp B;refine⟨λi g=>∃f d,SR G f d i g/\GZ Z J H f d g/\di cc C n d=some o,λi g q=>⟨n,YZ n,q⟩,m,r,P,M,e5,?_⟩;cases P with
    |nx d=>exact λf i g j l=>⟨f,d,j,y.trans l,z⟩
    |ct d=>exact λf i g j l=>⟨f,d,j,y.trans l,z⟩
    |bk d =>
     cases (show some (Out.nx d)=some o from z);exact λf i g j l=>k f i g j (y.trans l)
    |rt v d =>
     cases (show some (Out.rt v d)=some o from z);exact λu g F4 f i j l R S=>k u g F4 f i j (y.trans l) R (S.back y)
noncomputable def SQ:Sx:=λ_=>none
def Dp{d:Stmt}:PSV G X d SQ:=λpins s O H D I ⟨_,_,_,_,e,_⟩=>nomatch (show (none:Option Out)=some _ from e)
def cO{H:Hp}{v:V}{l:List (T×T)}{F:Xi}(r:Rp G H v (.dct 0 l) F):∃(a:Addr)(ks:List Key)(d:List V)(f:W8)(g:Yd),v=.ref a/\F=a :: g.flatten/\H a=some (.dK (ks.zip d))/\ks.length=d.length/\l=(ks.map aB).zip f/\RpL G H d f g:=by
 cases r with
 |dct h i q=>exact⟨_,_,_,_,_,rfl,rfl,h,i,rfl,q⟩
def c8{H:Hp}{v:V}{t:T}{F:Xi}(r:Rp G H v t F)(h:fL t=true):∃k:Key,v=kV k/\t=aB k:=by
 cases t with
 |int i=>exact⟨.inl i,r.int_inv,rfl⟩
 |str s=>exact⟨.inr (sx s),r.str_inv.1,by simp[aB,sx]⟩
 |_=>cases h
theorem jl{H:Hp}{k:Key}:∀{ks:List Key}{d:List V}{ts:W8}{Fs:Yd},ks.length=d.length->RpL G H d ts Fs →
  (cR ((ks.map aB).zip ts) (aB k)=none/\cE (ks.zip d) k=none)\/∃(i:Nat)(v:V)(t:T)(F:Xi),cR ((ks.map aB).zip ts) (aB k)=some t/\cE (ks.zip d) k=some v/\d[i]?=some v/\Fs[i]?=some F/\Rp G H v t F
 |[],[],_,_,_,.nil=>.inl ⟨rfl,rfl⟩
 |k' :: ks,v :: d,_,_,n,.cons (t:=t) (F:=F) (ts:=ts) (Fs:=Fs) r q=>by
  have e:eqT (aB k') (aB k)=decide (k'=k):=by
   rw[Xh,decide_eq_true_eq];cases k with
   |inl i=>cases k'<;>simp[aB]
   |inr x =>
    obtain⟨⟨x⟩⟩:=x;cases k' with
    |inl j=>simp[aB]
    |inr y=>obtain⟨⟨y⟩⟩:=y;simp[aB]
  by_cases f:k'=k
  ·refine .inr ⟨0,v,t,F,?_,cp f,rfl,rfl,r⟩;have g:eqT (aB k') (aB k)=true:=by rw[e];exact ZP f
   simp only[cR,Zl,Za,IV,g];rfl
  ·have s:cR (((k' :: ks).map aB).zip (t :: ts)) (aB k)=cR ((ks.map aB).zip ts) (aB k):=by
    have g:eqT (aB k') (aB k)=false:=by rw[e];exact Zc f
    simp only[cR,Zl,Za,IV,g]
   have o:cE ((k' :: ks).zip (v :: d)) k=cE (ks.zip d) k:=by simp[cE,f]
   rw[s,o];rcases jl (k:=k) (by simpa using n) q with h | ⟨i,l,m,C,B,A,z,w,u⟩
   ·exact .inl h
   ·exact .inr ⟨i+1,l,m,C,B,A,by simpa using z,by simpa using w,u⟩
def pZ(l:X.A.units+1<cLine):Ih X (λx y H Q=>∃a v,x=.ref a/\hU H a y (some v)/\Q v H):=by
 intro value slice pins s O H x y v u Q I j i h m;obtain⟨a,w,rfl,g,q⟩:=h;cases j;have d:=qA I g;unfold subscriptTail;refine Zn ?_;rw[getitemInPython_of_ne d.not_modules];refine Zn (wpAny_specialOf d PySem.F.slot_dict_getitem.lookup ?_);have fin:wpAny (model X.prog X.w) X.A (subscripted slice false (.ref a) u) (λr f=>wpAny (model X.prog X.w) X.A (letTemporaryGo value (.ref a) r >>= λ_=>pure r) (EP X pins O Q) X.xe f) X.xe s:=by
  rw[m];exact wpAny_operating (wM l I g i λt z o n=>Zn (wpAny_letTemporaryGo (ZZ ⟨w,H,o,n,q⟩)))
 first
  |exact ZZ (Zn fin)
  |exact Zn (ZZ (Zn fin))
  |exact Zn fin
noncomputable def EH(K:Y2):R2:=λx y H Q=>Qy K x y H Q\/∃a v,x=.ref a/\hU H a y (some v)/\Q v H
def EA:fK G (EH G.K) HR:=by
 intro Z J E H x y u w M L m t Q d e k;obtain⟨g,x⟩:=x;by_cases hd:∃l,x=.dct 0 l
 ·obtain⟨l,rfl⟩:=hd;simp only[HR]at e;split at e
  ·rename_i o;obtain⟨R,e1,e2⟩:=Zw.mp e;obtain⟨a,ks,N,O,Y,rfl,rfl,r,n,rfl,q⟩:=cO d.r1;obtain⟨j,rfl,z⟩:=c8 d.r2 o;rw[z]at e1;rcases jl (k:=j) n q with⟨s,_⟩ | ⟨i,v,P,F,D,C,U,B,h⟩
   ·rw[s]at e1;cases e1
   ·rw[D]at e1;cases e1;cases e2;refine .inr ⟨a,v,rfl,by rw[← C];exact hU.k r,?_⟩;have f:=((d.f1.sub (Yl _ _)).sub (bM B)).up h;exact k v H F (aH.refl _) h f
  ·cases e
 ·have A:aD (g,x) y=some (m,t):=by
   simp only[HR]at e;split at e
   ·rename_i l S;exact absurd ⟨_,rfl⟩ hd
   ·exact e
  exact .inl (ue Z J E H (g,x) y u w M L m t Q d A k)
def pD(f:GJ k X.A)(i:PV G X a ca)(g:PV G X b cb)(d:fM b:=by intro _ _;rfl)(j:X.K=G.K:=by rfl):PV G X (.Subscript a b pos) (e2 HR ca cb) :=
 PE.weak (lF (Ih.or jU (pZ (jy f))) i g d) λO H Q h=>by rw[j];exact mP EA h
noncomputable def fV:T->V
 |.bl b=>.bl b
 |.int i=>.int i
 |.str s=>.str (sx s)
 |_=>.non
def B0{H:Hp}{v:V}{t:T}{F:Xi}(r:Rp G H v t F)(h:flat t=true):v=fV t/\fE v=true:=by
 cases r with
 |non=>exact⟨rfl,rfl⟩
 |bl b=>exact⟨rfl,rfl⟩
 |int i=>exact⟨rfl,rfl⟩
 |str s d=>exact⟨rfl,rfl⟩
 |_=>cases h
theorem Fg:∀{t u:T},flat t=true->flat u=true->Ll (fV t) (fV u)=eqT t u
 |.non,.non,_,_=>rfl
 |.non,.bl _,_,_=>rfl
 |.non,.int _,_,_=>rfl
 |.non,.str _,_,_=>rfl
 |.bl _,.non,_,_=>rfl
 |.bl _,.bl _,_,_=>rfl
 |.bl _,.int _,_,_=>rfl
 |.bl _,.str _,_,_=>rfl
 |.int _,.non,_,_=>rfl
 |.int _,.bl _,_,_=>rfl
 |.int _,.int _,_,_=>rfl
 |.int _,.str _,_,_=>rfl
 |.str _,.non,_,_=>rfl
 |.str _,.bl _,_,_=>rfl
 |.str _,.int _,_,_=>rfl
 |.str _,.str _,_,_=>yz
def yY{H:Hp}{v w:V}{t u:T}{F h:Xi}(r:Rp G H v t F)(g:Rp G H w u h)(f:flat t=true)(d:flat u=true):Ll v w=eqT t u/\fE v=true/\fE w=true:=by
 obtain⟨e1,f1⟩:=B0 r f;obtain⟨e2,f2⟩:=B0 g d;refine⟨?_,f1,f2⟩;rw[e1,e2];exact Fg f d
theorem pN{H:Hp}{x:V}{t:T}{F:Xi}(r:Rp G H x t F)(g:flat t=true):∀{d:List V}{f:W8}{m:Yd},RpL G H d f m->f.all flat=true->d.all fE=true/\Oc x d=f.any λy=>eqT y t
 |_,_,_,.nil,_=>⟨rfl,rfl⟩
 |_,_,_,.cons j q,h=>by
  rw[Y0,Zd]at h;obtain⟨l,i⟩:=pN r g q h.2;obtain⟨e1,e2,n⟩:=yY j r h.1 g;refine⟨by rw[Y0,e2,l];rfl,?_⟩;unfold Oc at i ⊢;rw[YU,YU,i,e1]
noncomputable def EK(K:Y2):R2:=λx y H Q=>Po K false x y H Q\/∃a o,y=.ref a/\hU H a x o/\Q (.bl o.isSome) H
noncomputable def uk(K:Y2):R2:=λx y H Q=>Po K true x y H Q\/∃a o,y=.ref a/\hU H a x o/\Q (.bl (!o.isSome)) H
def Bc(i:X.A.units+1<cLine):OpR X (compareOp .In) (λx y H Q=>∃a o,y=.ref a/\hU H a x o/\Q (.bl o.isSome) H):=by
 intro pins s O H x y v u Q I f d h;obtain⟨a,o,rfl,g,q⟩:=h;cases d;exact GB i I g f λl j=>⟨.bl o.isSome,H,j,rfl,q⟩
def xK(i:X.A.units+1<cLine):OpR X (compareOp .NotIn) (λx y H Q=>∃a o,y=.ref a/\hU H a x o/\Q (.bl (!o.isSome)) H):=by
 intro pins s O H x y v u Q I f d h;obtain⟨a,o,rfl,g,q⟩:=h;cases d;exact AG i I g f λl j=>⟨.bl (!o.isSome),H,j,rfl,q⟩
def rC{Z:GP}{J:VS.Env}{L H:Hp}{x y:Val}{u w:V}{N M:Xi}{m:Md}{t:T}(f:OV G Z J L H x y u w N M)(e:nJ x y=some (m,t)) :
  ∃b,m=.fr/\t=.bl b/\((∃p n,w=.ref p/\(GY G.K H p n\/HD G.K H p n)/\fE u=true/\n.all fE=true/\Oc u n=b)\/∃a o,w=.ref a/\hU H a u o/\o.isSome=b):=by
 obtain⟨Q,y⟩:=y;simp only[nJ]at e;split at e
 ·split at e
  ·rename_i d;cases e;obtain⟨a,ks,g,O,A,rfl,rfl,h,B,rfl,q⟩:=cO f.r2;obtain⟨z,rfl,C⟩:=c8 f.r1 d;refine⟨_,rfl,rfl,.inr ⟨a,cE (ks.zip g) z,rfl,hU.k h,?_⟩⟩;rw[C];rcases jl (k:=z) B q with⟨l,j⟩ | ⟨i,v,P,F,E,D,_⟩
   ·rw[l,j];rfl
   ·rw[E,D];rfl
  ·cases e
 ·split at e
  ·rename_i d;cases e;rw[Zd]at d;obtain⟨a,g,A,rfl,rfl,h,r⟩:=f.r2.lst_inv;obtain⟨l,j⟩:=pN f.r1 d.1 r d.2;have s:fE u=true:=(yY f.r1 f.r1 d.1 d.1).2.1;exact⟨_,rfl,rfl,.inl ⟨a,g,rfl,.inl (GY.of h),s,l,j⟩⟩
  ·cases e
 ·split at e
  ·rename_i d;cases e;rw[Zd]at d;obtain⟨a,g,A,rfl,rfl,h,r⟩:=f.r2.Hl;obtain⟨l,j⟩:=pN f.r1 d.1 r d.2;have s:fE u=true:=(yY f.r1 f.r1 d.1 d.1).2.1;exact⟨_,rfl,rfl,.inl ⟨a,g,rfl,.inr (HD.of h),s,l,j⟩⟩
  ·cases e
 ·cases e
def Ed:fK G (EK G.K) nJ:=by
 intro Z J j H x y u w n l m t Q f e k;obtain⟨b,rfl,rfl,h⟩:=rC f e;rcases h with⟨p,d,rfl,i,f1,f2,hb⟩ | ⟨a,o,rfl,g,hb⟩
 ·refine .inl ⟨p,d,rfl,i,f1,f2,?_⟩;rw[hb];exact bG k (.bl b)
 ·refine .inr ⟨a,o,rfl,g,?_⟩;rw[hb];exact bG k (.bl b)
def D4:fK G (uk G.K) dc:=by
 intro Z J r H x y u w v s m t Q i e k;unfold dc at e;split at e
 ·rename_i q d l;cases e;obtain⟨b,rfl,n,h⟩:=rC i l;cases n;rcases h with⟨p,f,rfl,j,f1,f2,hb⟩ | ⟨a,o,rfl,g,hb⟩
  ·refine .inl ⟨p,f,rfl,j,f1,f2,?_⟩;rw[hb];exact bG k (.bl (!d))
  ·refine .inr ⟨a,o,rfl,g,?_⟩;rw[hb];exact bG k (.bl (!d))
 ·cases e
def yC:Tells nJ:=by
 intro x y m t e;simp only[nJ]at e;split at e
 all_goals first | (split at e<;>first | (cases e;exact⟨_,rfl⟩) | cases e) | cases e
def wK:Tells dc:=by
 intro x y m t e;unfold dc at e;split at e
 ·cases e;exact⟨_,rfl⟩
 ·cases e
def EU(d:GJ k X.A)(h:PV G X a ca)(g:PV G X b cb)(f:behindInMarks .In b=false:=by with_unfolding_all rfl)(i:X.K=G.K:=by rfl):IC G X (.Compare a [.In] [b] pos) (e2 nJ ca cb):=ik (r:=EK X.K) (vG.or (Bc (jy d))) (i ▸ Ed) yC h g f
def tQ(d:GJ k X.A)(h:PV G X a ca)(g:PV G X b cb)(f:behindInMarks .NotIn b=false:=by with_unfolding_all rfl)(i:X.K=G.K:=by rfl):IC G X (.Compare a [.NotIn] [b] pos) (e2 dc ca cb):=ik (r:=uk X.K) (p5.or (xK (jy d))) (i ▸ D4) wK h g f
end
end VS
end
section
open PySem PyProof.Rows
namespace TS
variable{prog:Program}{w:World}{A:Around}{E:GS}{s:Shared}{G:Keyed->Prop}{r:Keyed->Keyed->Bool}
def oB{d:Xg}{a:Array Keyed}(e:a.Perm (pairsOf d)):(a.map (·.2)).toList.Perm d/\(a.map (·.2)).toList.map (λv=>(v,v))=a.toList:=by
 have b:=Array.perm_iff_toList_perm.mp e;rw[pairsOf_toList]at b;constructor
 ·rw[Array.toList_map];refine(b.map _).trans ?_;rw[show (λx:Keyed=>x.2)=Prod.snd from rfl,WU (Zh _)]
 ·rw[Array.toList_map,Ig]
  conv=>rhs;rw[← List.map_id a.toList]
  apply YR;intro p f;have:=mem_zip_self (b.mem_iff.mp f);exact Prod.ext this.1.symm rfl
end TS
end
section
namespace L2
open PySem PySem.Spec PyProof.Rows TS
section
variable{X:Cx}
theorem rh:∀{a:Xg},(∀v∈a,∃x t,v=Value.str x t)->aT ((a.map strOf).map V.str) a
 |[],_=>.nil
 |u :: a,h=>by
  obtain⟨x,t,rfl⟩:=h u (Zx ..);exact .cons ⟨t,rfl⟩ (rh λv b=>h v (Zy _ b))
end
end L2
end
section
namespace VS
mutual
theorem nM:∀(n:Nat)(t:T),HC n t=true->eqT t t=true
 |n,.non,_=>by simp
 |n,.bl _,_=>by simp
 |n,.int _,_=>by simp
 |n,.str _,_=>by simp
 |n+1,.tup l,h=>by
  simp only[HC,Ja]at h;simp only[eqT];exact kQ n l h
 |n+1,.lst l,h=>by
  simp only[HC,Ja]at h;simp only[eqT];exact kQ n l h
 |0,.tup _,h=>by simp at h
 |0,.lst _,h=>by simp at h
 |_,.scr _,h=>by simp at h
 |_,.dct _ _,h=>by simp at h
 |_,.obj _ _,h=>by simp at h
theorem kQ:∀(n:Nat)(l:W8),(∀t∈l,HC n t=true)->sZ l l=true
 |_,[],_=>rfl
 |n,t :: r,h=>by
  simp only[sZ,Zd];exact⟨nM n t (h t Zx),kQ n r λu a=>h u (Zy _ a)⟩
end
def Cj{α:Type}(l:List α)(a b:Option Int):(cut l a b).length<=l.length:=by
 unfold cut;simp only[YX,Yh];omega
def Bk{α:Type}(l:List α)(a b:Option Int){x:α}(h:x∈cut l a b):x∈l:=by
 unfold cut at h;exact List.mem_of_mem_drop (List.mem_of_mem_take h)
def y0{α:Type}(l:List α)(k:Nat):cut l none (some (k:Int))=l.take k:=by
 have h:¬((k:Int)<0):=by lia
 by_cases a:k<=l.length
 ·simp[cut,clip,h,Y9 a]
 ·rw[YT (by lia)];simp[cut,clip,h,X2 (XQ a)]
def zV{α β:Type}(f:α->β)(l:List α)(a b:Option Int):cut (l.map f) a b=(cut l a b).map f:=by
 unfold cut;simp only[Zu,List.map_take,List.map_drop]
def qY{a:Ex}{J:Env}{m:Md}{l:W8}(e:a J=some (m,.lst l)):gU a J=some (m,l):=by
 simp[gU,e]
def bU{tg:Tg}{it:Jb}{body:Sx}{J:Env}{m:Md}{l:W8}(e:it J=some (m,l))(h:S5 m=true):fH tg it body J=forL tg body l J:=by
 unfold fH;rw[e];exact Zq h
def bS{g:Fn}{as:Hf}{J:Env}{a:W6}{t:T}(h:as J=some a)(b:g (trees a)=some (.fr,t)):bu g as J=some (.fr,t):=by
 simp only[bu,h,Zr,b]
def aL{i:Nat}{e:Ex}{J:Env}{m:Md}{t:T}(h:e J=some (m,t))(a:m ≠ .bo)(b:i<J.length):aQ i e J=some (.nx (J.set i (some (.pu t)))):=by
 simp only[aQ,h,Zr];cases m with
 |bo=>exact absurd rfl a
 |_=>simp[b]
def uO{i:Nat}{e:Ex}{J:Env}{t:T}(h:e J=some (.fr,t))(a:mS t=true)(b:i<J.length):gR i e J=some (.nx (J.set i (some (.ow t)))):=by
 simp only[gR,h,Zr,cellOf,a,if_true,Zq b]
def yk{m n:Md}{s t:W8}:bg (m,.lst s) (n,.lst t)=IZ (m.join n) (s++t):=rfl
end VS
end
section
namespace VS
open PySem PySem.Spec PyProof.Rows L2
def rE{a b c:Tx}(h:a<b)(d:¬c<b):a<c:=by
 by_cases e:a<c
 ·exact e
 ·exact absurd (List.lt_of_le_of_lt (Wu.mp e) h) d
theorem jT(x:Tx):∀l:List Tx,(nK x l).Perm (x :: l)
 |[]=>List.Perm.refl _
 |y :: r=>by
  unfold nK;split
  ·exact((jT x r).cons y).trans (List.Perm.swap _ _ _)
  ·exact List.Perm.refl _
theorem iR:∀l:List Tx,(eR l).Perm l
 |[]=>List.Perm.refl _
 |x :: l=>(jT x _).trans ((iR l).cons x)
theorem qV(x:Tx):∀{l:List Tx},l.Pairwise (λa b=>¬b<a)->(nK x l).Pairwise (λa b=>¬b<a)
 |[],_=>by simp[nK]
 |y :: r,h=>by
  unfold nK;rw[fX];obtain⟨f,g⟩:=Xe.mp h;split
  ·rename_i c;have e:y<x:=by simpa using c
   refine Xe.mpr ⟨λz d=>?_,qV x g⟩;rcases Zo.mp ((jT x r).mem_iff.mp d) with rfl | d
   ·exact λz=>XZ _ (List.lt_trans e z)
   ·exact f z d
  ·rename_i c;have e:¬y<x:=by simpa using c
   refine Xe.mpr ⟨λz d=>?_,h⟩;rcases Zo.mp d with rfl | d
   ·exact e
   ·exact λw=>f z d (rE w e)
theorem oR:∀l:List Tx,(eR l).Pairwise (λa b=>¬b<a)
 |[]=>List.Pairwise.nil
 |x :: l=>qV x (oR l)
def oJ{l d:List Tx}(h:d.Perm l)(e:d.Pairwise (λa b=>¬b<a)):d=eR l :=
 List.Perm.eq_of_pairwise (le:=λa b=>¬b<a) (λa b _ _ g f=>List.le_antisymm (Wu.mp g) (Wu.mp f)) e (oR l) (h.trans (iR l).symm)
def yL(s:Tx):(sx s).cps.toList=s:=rfl
def xS{f:List Tx}{d:List Str}(h:d.Perm (f.map sx))(i:d.Pairwise (λa b=>¬b.cps.toList<a.cps.toList)):d=(eR f).map sx:=by
 have e:d=(d.map λx=>x.cps.toList).map sx:=by
  rw[Ig]
  conv=>lhs;rw[← List.map_id d]
  apply YR;intro x g;obtain⟨s,_,rfl⟩:=ZF.mp (h.mem_iff.mp g);show sx s=sx (sx s).cps.toList;rw[yL]
 have e2:(d.map λx=>x.cps.toList)=eR f:=by
  refine oJ ?_ ?_
  ·have:=h.map λx:Str=>x.cps.toList;rw[Ig]at this;have j:((λx:Str=>x.cps.toList) ∘ sx)=id:=by
    funext s;exact yL s
   rw[j,List.map_id]at this;exact this
  ·rw[Wh];exact i
 rw[e,e2]
noncomputable def My(s:Tx):Bool:=decide (s.length<=dY)&&s.all (λc=>decide (c<1114112))
def zf{s:Tx}(h:My s=true):nX s:=by
 unfold My at h;simp at h;exact h
section
variable{G:Gx}{X:Cx}{e:Expr}{cs:Hf}{p pos:Pos}
theorem sD{H:Hp}:∀{ss:List Tx},(∀s∈ss,nX s)->RpL G H (ss.map λs=>V.str (sx s)) (ss.map T.str) (ss.map λ_=>[])
 |[],_=>.nil
 |s :: ss,h=>.cons (.str s (h s (Zx ..))) (sD λx a=>h x (Zy _ a))
theorem rM{α β:Type}:∀(l:List α),(l.map λ_=>([]:List β)).flatten=[]
 |[]=>rfl
 |_ :: l=>by simp
def xp{Z:GP}{J:VS.Env}{i H:Hp}{d:List Tx}{Q:VK}(k:∀v g F,aH H g->Rp G g v (.lst ((eR d).map T.str)) F->Fp Z J i .fr F->Q v g)(n:aH i H)(j:∀s∈d,nX s) :
  ∀(l:Addr)(f:List Str),H l=none->f.Perm (d.map sx)->f.Pairwise (λa b=>¬b.cps.toList<a.cps.toList)->Q (.ref l) (upd H l (.lst (f.map V.str))):=λq f h u hw=>by
 rw[xS u hw];have m:aH H (upd H q (.lst (((eR d).map sx).map V.str))):=cK h;have o:=sD (G:=G) (H:=upd H q (.lst (((eR d).map sx).map V.str))) λs t=>j s ((iR d).mem_iff.mp t);have r:Rp G (upd H q (.lst (((eR d).map sx).map V.str))) (.ref q) (.lst ((eR d).map T.str)) (q :: ((eR d).map λ_=>[]).flatten):=.lst (by rw[aw,Ig];rfl) o;rw[rM]at r;exact k _ _ _ m r (Fp.new (n.free h) (by simp) Fp.nil)
theorem keys_str:∀{ks:List Key}{a:List Tx},strs? (ks.map aB)=some a->ks=(a.map sx).map Sum.inr
 |[],_,e=>by cases e;rfl
 |.inl i :: ks,_,e=>by cases e
 |.inr x :: ks,a,e=>by
  simp only[Zl,aB,strs?]at e;obtain⟨b,e1,e2⟩:=Zw.mp e;subst e2;rw[keys_str e1];simp[sx]
def wR:bootBuiltins ("sorted" : Str)=some (.builtin "sorted"):=by decide +kernel
end
end VS
end
section
namespace ST
open PySem PySem.Spec PyProof.Rows
variable{prog:Program}{w:World}{A:Around}{E:GS}{s:Shared}
def Fb{Q:PySem.Fin->Shared->Prop}{f:GS}(g:A.handled=none)(h:∀(d:Heap)(x:Addr),(∀b o,s.heap.get? b=some o->d.get? b=some o)->(∃o,d.get? x=some o/\o.cls=.type "StopIteration")->f (.ref x) { s with heap:=d }) :
  wpAny (model prog w) A (newExc (.type "StopIteration") [] >>= λe=>raiseNew e) Q f s:=by
 simp only[newExc,newTuple];refine Zn (Zn (XI (Zn (m:=firstArgMember _ _) (wpAny_of_eq (a:=Value.none) (by first | rfl | (simp only[firstArgMember];rfl)) (XI ?_ (by size_fits)))) (by size_fits)));simp only[raiseNew];refine Zn (wpAny_handled ?_);rw[g];exact Zn (ZZ (wpAny_throw (h _ _ (λb o e=>Zi _ (Zi _ e)) ⟨_,ZQ _ rfl,rfl⟩)))
end ST
end
section
namespace VS
open PySem PySem.Spec PyProof.Rows L2
section
variable{G:Gx}{X:Cx}{a b c e tg:Expr}{es:List Expr}{ca cb cc ce:Ex}{cs:Hf}{pos p p1 p2 apos pe pos':Pos}{k k':Nat}
def Eh{a b:Tx}(h:sx a=sx b):a=b:=by
 have:=congrArg (λs:Str=>s.cps.toList) h;simpa[sx] using this
end
inductive Ib(G:Gx)(H:Hp):List Ky->V->V->Prop
 |nil (v:V):Ib G H [] v v
 |fld {c k:Nat} {a dx:Addr} {fs:List (Str×V)} {u w:V} {ks:List Ky}:H a=some (.ins (G.ct (c+1)).1 dx fs)->fs.lookup ((G.ct (c+1)).2 k)=some u->Ib G H ks u w->Ib G H (.fld k :: ks) (.ref a) w
 |ix {a:Addr} {vs:List V} {i:Int} {j:Nat} {u w:V} {ks:List Ky}:H a=some (.lst vs)->Hu vs.length i=some j->vs[j]?=some u->Ib G H ks u w->Ib G H (.at (.int i) :: ks) (.ref a) w
 |key {a:Addr} {gV:List (Key×V)} {k:Key} {u w:V} {ks:List Ky}:H a=some (.dK gV)->cE gV k=some u->Ib G H ks u w->Ib G H (.at (aB k) :: ks) (.ref a) w
 |un {v w:V} {ks:List Ky}:Ib G H ks v w->Ib G H (.un :: ks) v w
section
variable{G:Gx}
def qi{f:Yd}{i j:Nat}{F h:Xi}(d:f.flatten.Nodup)(b:f[i]?=some F)(e:f[j]?=some h)(n:i≠j){a:Addr}(g:a∈F):a∉h:=by
 intro hb
 induction f generalizing i j with
 |nil=>simp at b
 |cons G m l =>
  rw[ZR,ZO]at d;cases i with
  |zero =>
   simp at b;subst b;cases j with
   |zero=>exact n rfl
   |succ j=>exact d.2.2 a g a (cT (by simpa using e) hb) rfl
  |succ i =>
   cases j with
   |zero =>
    simp at e;subst e;exact d.2.2 a hb a (cT (by simpa using b) g) rfl
   |succ j=>exact l d.2.1 (by simpa using b) (by simpa using e) (by lia)
def cG{d:Yd}{j:Nat}{g:Xi}{a:Addr}(h:a∈(d.set j g).flatten):a∈g\/∃i F,i≠j/\d[i]?=some F/\a∈F:=by
 obtain⟨i,F,b,f⟩:=gg h;by_cases e:i=j
 ·subst e;rw[List.getElem?_set_self' ]at b;cases q:d[i]? with
  |none=>rw[q]at b;cases b
  |some _=>rw[q]at b;cases b;exact .inl f
 ·rw[Yt (Yq e)]at b;exact .inr ⟨i,F,e,b,f⟩
theorem d8:∀{p:Yd}{j:Nat}{f:Xi},p.flatten.Nodup->f.Nodup->(∀i F,i≠j->p[i]?=some F->∀a∈F,a∉f)->(p.set j f).flatten.Nodup
 |[],_,_,h,_,_=>by simpa using h
 |G :: r,0,f,h,o,d=>by
  rw[ZR,ZO]at h;rw[List.set_cons_zero,ZR,ZO];refine⟨o,h.2.1,λa g b hb e=>?_⟩;subst e;obtain⟨i,F,m,l⟩:=gg hb;exact d (i+1) F (by lia) (by simpa using m) a l g
 |G :: r,j+1,f,h,o,d=>by
  rw[ZR,ZO]at h;rw[List.set_cons_succ,ZR,ZO];refine⟨h.1,d8 h.2.1 o λi F n q=>d (i+1) F (by lia) (by simpa using q),λa g b hb e=>?_⟩;subst e;rcases cG hb with z | ⟨i,F,n,m,l⟩
  ·exact d 0 G (by lia) rfl a g z
  ·exact h.2.2 a g a (cT m l) rfl
theorem RpL.each{H h:Hp}:∀{e:List V}{f:W8}{g:Yd},RpL G H e f g->(∀(i:Nat) v t F,e[i]?=some v->f[i]?=some t->g[i]?=some F->Rp G H v t F->Rp G h v t F)->RpL G h e f g
 |_,_,_,.nil,_=>.nil
 |_,_,_,.cons r q,k=>.cons (k 0 _ _ _ rfl rfl rfl r) (RpL.each q λi v t F a b c d=>k (i+1) v t F (by simpa using a) (by simpa using b) (by simpa using c) d)
theorem RpL.setAt{H l:Hp}:∀{e:List V}{f:W8}{m:Yd}{j:Nat}{u:V}{o:T}{p:Xi},RpL G H e f m->e[j]?=some u->Rp G l u o p->(∀(i:Nat) v t F,i≠j->e[i]?=some v->f[i]?=some t->m[i]?=some F->Rp G H v t F->Rp G l v t F)->RpL G l e (f.set j o) (m.set j p)
 |_,_,_,_,_,_,_,.nil,h,_,_=>by simp at h
 |_,_,_,0,_,_,_,.cons r q,h,g,k=>by
  simp at h;subst h;exact .cons g (RpL.each q λi v t F a b c d=>k (i+1) v t F (by lia) (by simpa using a) (by simpa using b) (by simpa using c) d)
 |_,_,_,j+1,_,_,_,.cons r q,h,g,k=>.cons (k 0 _ _ _ (by lia) rfl rfl rfl r) (RpL.setAt q (by simpa using h) g λi v t F n a b c d=>k (i+1) v t F (by lia) (by simpa using a) (by simpa using b) (by simpa using c) d)
def kK{H q:Hp}{a:Addr}{o:HO}{s:List V}{D:W8}{d:Yd}{j:Nat}{u:V}{C:T}{B f:Xi}(L:H a=some o)(E:RpL G H s D d)(e:(a :: d.flatten).Nodup)(M:s[j]?=some u)(y:d[j]?=some B)(g:Chg G H u B C q f):q a=some o/\RpL G q s (D.set j C) (d.set j f)/\(a :: (d.set j f).flatten).Nodup/\(∀b∈a :: (d.set j f).flatten,b∈a :: d.flatten\/H b=none)/\∀b o,b∉a :: d.flatten->H b=some o->q b=some o:=by
 rw[Zf]at e;have p:∀b∈B,b∈d.flatten:=λb hb=>cT y hb;have A:∀i F,i≠j->d[i]?=some F->∀b∈F,b∉f:=λi F n J b hb O=>by
  rcases g.sub b O with z | z
  ·exact qi e.2 J y n hb z
  ·exact GQ.p0 (E.GX b (cT J hb)) z
 refine⟨g.keep a o (λz=>e.1 (p a z)) L,E.setAt M g.rp (λi v t F n m l N r=>r.keep g.kept λb hb w x=>g.keep b w (qi e.2 N y n hb) x),?_,λb hb=>?_,λb w hb x=>g.keep b w (λz=>hb (Zy _ (p b z))) x⟩
 ·rw[Zf];refine⟨λh=>?_,d8 e.2 g.nd A⟩;rcases cG h with z | ⟨i,F,n,m,l⟩
  ·rcases g.sub a z with z | z
   ·exact e.1 (p a z)
   ·rw[L]at z;cases z
  ·exact e.1 (cT m l)
 ·rcases Zo.mp hb with rfl | hb
  ·exact .inl Zx
  ·rcases cG hb with z | ⟨i,F,n,m,l⟩
   ·rcases g.sub b z with z | z
    ·exact .inl (Zy _ (p b z))
    ·exact .inr z
   ·exact .inl (Zy _ (cT m l))
theorem mw{α β:Type}:∀(d:List α)(bs:List β)(i:Nat)(a:α)(y:β),d[i]?=some a->(d.zip bs).set i (a,y)=d.zip (bs.set i y)
 |[],_,_,_,_,h=>by simp at h
 |a :: d,[],i,_,_,_=>by cases i<;>simp
 |a :: d,b :: bs,0,_,y,h=>by simp at h;subst h;rfl
 |a :: d,b :: bs,i+1,_,y,h=>by
  have:=mw d bs i _ y (by simpa using h);simp[this]
theorem iP{α β:Type}(p:α->Bool):∀{e:List α}{bs:List β}{i:Nat},e.length=bs.length->(e.zip bs).findIdx? (λq=>p q.1)=some i->∃a b,e[i]?=some a/\bs[i]?=some b/\p a=true/\(e.zip bs).find? (λq=>p q.1)=some (a,b)
 |[],[],_,_,h=>by simp at h
 |a :: e,b :: bs,i,f,h=>by
  rw[Za,Xd]at h;by_cases d:p a=true
  ·rw[Zq d]at h;cases h;exact⟨a,b,rfl,rfl,d,by simp[d]⟩
  ·rw[Zp d]at h;obtain⟨j,g,rfl⟩:=Zw.mp h;obtain⟨s,r,o,n,m,l⟩:=iP p (by simpa using f) g;exact⟨s,r,by simpa using o,by simpa using n,m,by simp[d,l]⟩
def iF(k a:Key):eqT (aB a) (aB k)=true↔a=k:=by
 cases k with
 |inl i=>cases a<;>simp[aB]
 |inr x =>
  obtain⟨⟨x⟩⟩:=x;cases a with
  |inl j=>simp[aB]
  |inr y=>obtain⟨⟨y⟩⟩:=y;simp[aB]
theorem pQ{k:Key}{u:V}:∀{ns:List Key}{d:W8}{a:List V}{i:Nat},ns.length=d.length->ns.length=a.length->((ns.map aB).zip d).findIdx? (λq=>eqT q.1 (aB k))=some i->a[i]?=some u->cE (ns.zip a) k=some u
 |[],_,_,_,_,_,h,_=>by simp at h
 |n :: ns,t :: d,v :: a,i,m,l,h,e=>by
  rw[Zl,Za,Xd]at h;by_cases b:eqT (aB n) (aB k)=true
  ·rw[Zq b]at h;cases h;simp at e;subst e;exact cp ((iF k n).mp b)
  ·rw[Zp b]at h;obtain⟨j,g,rfl⟩:=Zw.mp h;have f:n≠k:=λz=>b ((iF k n).mpr z);have:cE ((n :: ns).zip (v :: a)) k=cE (ns.zip a) k:=by simp[cE,f]
   rw[this];exact pQ (by simpa using m) (by simpa using l) g (by simpa using e)
 |_ :: _,[],_,_,h,_,_,_=>by simp at h
 |_ :: _,_ :: _,[],_,_,h,_,_=>by simp at h
def gK{H:Hp}{v:V}{c:Nat}{e:Nat×T}{f:List (Nat×T)}{F:Xi}(r:Rp G H v (.obj (c+1) (e :: f)) F):∃(g:Nat)(a o:Addr)(b:Bool)(ks:W0)(d:List V)(i:W8)(n:Yd),c+1=g+1/\v=.ref a/\e=(0,.bl b)/\f=ks.zip i/\F=a :: n.flatten ∧
  H a=some (.ins (G.ct (g+1)).1 o ((ks.map (G.ct (g+1)).2).zip d))/\ks.length=d.length/\(b=true->G.me 0=some (.ref a))/\RpL G H d i n:=by
 generalize j:T.obj (c+1) (e :: f)=z at r;cases r with
 |ins h l m q =>
  cases j;exact⟨_,_,_,_,_,_,_,_,rfl,rfl,rfl,rfl,rfl,h,l,m,q⟩
 |_=>cases j
def mO{H:Hp}{v:V}{m:Nat}{t:T}{F:Xi}(r:Rp G H v (.obj 0 [(0,.bl true),(m,t)]) F):∃a,v=.ref a/\G.me m=some (.ref a)/\Rp G H (.ref a) t F:=by
 generalize b:T.obj 0 [(0,.bl true),(m,t)]=z at r;cases r with
 |mk h q =>
  cases b;exact⟨_,rfl,h,q⟩
 |_=>cases b
def qU{c a:Nat}(h:∀c k m:Nat,(G.ct c).2 k=(G.ct c).2 m->k=m){e:W0}{d:List V}{f:W8}{u:V}{i:Nat}(n:e.length=d.length)(b:(e.zip f).findIdx? (λq=>q.1==a)=some i)(o:e[i]?=some a)(g:d[i]?=some u):((e.map (G.ct c).2).zip d).lookup ((G.ct c).2 a)=some u:=by
 induction e generalizing d f i with
 |nil=>simp at o
 |cons l v p =>
  cases d with
  |nil=>simp at n
  |cons t bs =>
   cases f with
   |nil=>simp at b
   |cons s f =>
    rw[Zl,Za,YY];rw[Za,Xd]at b;by_cases q:(l==a)=true
    ·rw[Zq q]at b;cases b;have:l=a:=by simpa using q
     subst this;simp at g;simp[g]
    ·rw[Zp q]at b;obtain⟨j,r,rfl⟩:=Zw.mp b;have:((G.ct c).2 a==(G.ct c).2 l)=false:=by
      rw[beq_eq_false_iff_ne];intro z;exact q (by simpa using(h c _ _ z).symm)
     rw[this];exact p (by simpa using n) r (by simpa using o) (by simpa using g)
def FA{α:Type}{f:T->Option (T×α)}{d:List Ky}{t b:T}{y:α}(e:pm f (.un :: d) t=some (b,y)):∃m x z,t=.obj 0 [(0,.bl true),(m,x)]/\pm f d x=some (z,y)/\b=.obj 0 [(0,.bl true),(m,z)]:=by
 unfold pm at e;split at e
 case h_6=>cases e
 all_goals first | (rename_i a;cases a;done) | skip
 all_goals
  rename_i a;cases a;obtain⟨⟨z,g⟩,e1,e2⟩:=Zw.mp e;cases e2;exact⟨_,_,_,rfl,e1,rfl⟩
theorem iw{H:Hp}{α:Type}{f:T->Option (T×α)}:∀(ks:List Ky){v:V}{t J:T}{F:Xi}{y:α},(∀c k k':Nat,(G.ct c).2 k=(G.ct c).2 k'->k=k')->Rp G H v t F->F.Nodup->pm f ks t=some (J,y) →
  ∃w x A B,Ib G H ks v w/\Rp G H w x A/\A.Nodup/\f x=some (B,y)/\∀q o,Chg G H w A B q o->∃F',Chg G H v F J q F'
 |[],v,t,J,F,y,_,r,nd,e=>⟨v,t,F,J,.nil v,r,nd,e,λq o g=>⟨o,g⟩⟩
 |.fld k :: ks,v,t,J,F,y,inj,r,nd,e=>by
  cases t with
  |obj c fs0 =>
   cases c with
   |zero=>cases e
   |succ c =>
   cases fs0 with
   |nil=>cases e
   |cons q0 fs =>
   obtain⟨i,Y,e⟩:=Zz.mp e;obtain⟨p,X,e⟩:=Zz.mp e;obtain⟨⟨z,y'⟩,e1,e2⟩:=Zw.mp e;cases e2;obtain⟨c',a,dx,b,ns,vs,S,Fs,ec,rfl,rfl,rfl,rfl,M,U,hb,d⟩:=gK r;cases ec;have JK:ns.length=S.length:=U.trans d.len.1;obtain⟨L,C,Z,g2,g3,g4⟩:=iP (λn=>n==k) JK Y;have ek:L=k:=by simpa using g3
   subst ek;have ep:p=(L,C):=by
    have:(ns.zip S)[i]?=some (L,C):=by rw[Yw];exact⟨Z,g2⟩
    rw[this]at X;exact(Zm X).symm
   subst ep;obtain⟨u,Fi,E,D,u3⟩:=d.get i g2;obtain⟨w,x,A,B,R,Q,P,O,N⟩:=iw ks inj u3 (((Zf.mp nd).2).sublist (bM D)) e1;refine⟨w,x,A,B,.fld (c:=c) M (qU inj U Y Z E) R,Q,P,O,λq o g=>?_⟩;obtain⟨UA,h⟩:=N q o g;obtain⟨s1,s2,s3,s4,s5⟩:=kK M d nd E D h;refine⟨_,h.kept,s5,h.GX,?_,s3,s4⟩;rw[mw ns S i L z Z];exact .ins s1 U hb s2
  |_=>cases e
 |.un :: ks,v,t,J,F,y,inj,r,nd,e=>by
  obtain⟨m,x,z,rfl,e1,rfl⟩:=FA e;obtain⟨a,rfl,hm,rx⟩:=mO r;obtain⟨w,C,A,B,R,Q,P,O,N⟩:=iw ks inj rx nd e1;refine⟨w,C,A,B,.un R,Q,P,O,λq o g=>?_⟩;obtain⟨F',g'⟩:=N q o g;exact⟨F',g'.kept,g'.keep,g'.GX,.mk hm g'.rp,g'.nd,g'.sub⟩
 |.at k :: ks,v,t,J,F,y,inj,r,nd,e=>by
  cases t with
  |lst l =>
   cases k with
   |int i =>
    obtain⟨j,Y,e⟩:=Zz.mp e;obtain⟨C,X,e⟩:=Zz.mp e;obtain⟨⟨z,y'⟩,e1,e2⟩:=Zw.mp e;cases e2;obtain⟨a,vs,Fs,rfl,rfl,M,d⟩:=r.lst_inv;obtain⟨u,Fi,E,D,u3⟩:=d.get j X;obtain⟨w,x,A,B,R,Q,P,O,N⟩:=iw ks inj u3 (((Zf.mp nd).2).sublist (bM D)) e1;refine⟨w,x,A,B,.ix M (by rw[d.len.1];exact Y) E R,Q,P,O,λq o g=>?_⟩;obtain⟨UA,h⟩:=N q o g;obtain⟨s1,s2,s3,s4,s5⟩:=kK M d nd E D h;exact⟨_,h.kept,s5,h.GX,.lst s1 s2,s3,s4⟩
   |_=>cases e
  |dct kd l =>
   cases kd with
   |zero =>
    have hk:fL k=true/\((l.findIdx? λp=>eqT p.1 k).bind λi=>(l[i]?).bind λp=>(pm f ks p.2).map λz=>(T.dct 0 (l.set i (p.1,z.1)),z.2))=some (J,y):=by
     cases k with
     |int i=>exact⟨rfl,e⟩
     |str s=>exact⟨rfl,e⟩
     |_=>cases e
    obtain⟨hk,e⟩:=hk;obtain⟨i,Y,e⟩:=Zz.mp e;obtain⟨p,X,e⟩:=Zz.mp e;obtain⟨⟨z,y'⟩,e1,e2⟩:=Zw.mp e;cases e2;obtain⟨a,ns,vs,S,Fs,rfl,rfl,M,U,rfl,d⟩:=cO r;have JK:(ns.map aB).length=S.length:=by rw[Zu];exact U.trans d.len.1
    obtain⟨L,C,Z,g2,g3,g4⟩:=iP (λn=>eqT n k) JK Y;have ep:p=(L,C):=by
     have:((ns.map aB).zip S)[i]?=some (L,C):=by rw[Yw];exact⟨Z,g2⟩
     rw[this]at X;exact(Zm X).symm
    subst ep;obtain⟨kk,JA⟩:∃kk:Key,k=aB kk:=by
     cases k with
     |int i=>exact⟨.inl i,rfl⟩
     |str s=>exact⟨.inr (sx s),by simp[aB,sx]⟩
     |_=>cases hk
    subst JA;obtain⟨u,Fi,E,D,u3⟩:=d.get i g2;obtain⟨w,x,A,B,R,Q,P,O,N⟩:=iw ks inj u3 (((Zf.mp nd).2).sublist (bM D)) e1;refine⟨w,x,A,B,.key M ?_ R,Q,P,O,λq o g=>?_⟩
    ·exact pQ (by simpa using JK) U Y E
    ·obtain⟨UA,h⟩:=N q o g;obtain⟨s1,s2,s3,s4,s5⟩:=kK M d nd E D h;refine⟨_,h.kept,s5,h.GX,?_,s3,s4⟩;rw[mw (ns.map aB) S i L z Z];exact .dct s1 U s2
   |succ kd=>cases k<;>cases e
  |_=>cases k<;>cases e
end
section
variable{G:Gx}
def Ib.same{H d:Hp}(e:aH H d){b:List Ky}{v w:V}(p:Ib G H b v w):Ib G d b v w:=by
 induction p with
 |nil v=>exact .nil v
 |fld h l _ a=>exact .fld (e _ _ h) l a
 |ix h l m _ a=>exact .ix (e _ _ h) l m a
 |key h l _ a=>exact .key (e _ _ h) l a
 |un _ a=>exact .un a
theorem Ib.split{H:Hp}{k:Ky}{w:V}:∀{ks:List Ky}{v:V},Ib G H (ks++[k]) v w->∃u,Ib G H ks v u/\Ib G H [k] u w
 |[],v,p=>⟨v,.nil v,p⟩
 |_ :: ks,_,.fld h l p=>let ⟨u,a,b⟩:=Ib.split (ks:=ks) p;⟨u,.fld h l a,b⟩
 |_ :: ks,_,.ix h l m p=>let ⟨u,a,b⟩:=Ib.split (ks:=ks) p;⟨u,.ix h l m a,b⟩
 |_ :: ks,_,.key h l p=>let ⟨u,a,b⟩:=Ib.split (ks:=ks) p;⟨u,.key h l a,b⟩
 |_ :: ks,_,.un p=>let ⟨u,a,b⟩:=Ib.split (ks:=ks) p;⟨u,.un a,b⟩
theorem fP{J:VS.Env}{s:Jw}:∀{way:List Jw}{ks:List Ky},keys (way++[s]) J=some ks->∃f k,keys way J=some f/\keys [s] J=some [k]/\ks=f++[k]
 |[],ks,e=>by
  cases s with
  |fld k=>cases e;exact⟨[],.fld k,rfl,rfl,rfl⟩
  |un=>cases e;exact⟨[],.un,rfl,rfl,rfl⟩
  |ix c =>
   obtain⟨x,i,g⟩:=Zz.mp (show (c J).bind (λx=>(keys [] J).map (Ky.at x.2 :: ·))=some ks from e);cases g;exact⟨[],.at x.2,rfl,by simp[keys,i],rfl⟩
 |.fld k :: way,ks,e=>by
  obtain⟨l,i,g⟩:=Zw.mp (show (keys (way++[s]) J).map (Ky.fld k :: ·)=some ks from e);obtain⟨f,j,a,b,c⟩:=fP i;exact⟨.fld k :: f,j,by simp[keys,a],b,by rw[← g,c];rfl⟩
 |.un :: way,ks,e=>by
  obtain⟨l,i,g⟩:=Zw.mp (show (keys (way++[s]) J).map (Ky.un :: ·)=some ks from e);obtain⟨f,j,a,b,c⟩:=fP i;exact⟨.un :: f,j,by simp[keys,a],b,by rw[← g,c];rfl⟩
 |.ix c :: way,ks,e=>by
  obtain⟨x,m,h⟩:=Zz.mp (show (c J).bind (λx=>(keys (way++[s]) J).map (Ky.at x.2 :: ·))=some ks from e);obtain⟨l,i,g⟩:=Zw.mp h;obtain⟨f,j,a,b,d⟩:=fP i;exact⟨.at x.2 :: f,j,by simp[keys,m,a],b,by rw[← g,d];rfl⟩
noncomputable def Ph(G:Gx)(i:Nat)(a:List Jw):TE:=λO H Q=>∃Z J t ks v w,SR G Z J O H/\J[i]?=some (some (.ow t))/\O[i]?=some (some v)/\keys a J=some ks/\Ib G H ks v w/\∀b,aH H b->Q w b
noncomputable def JT(G:Gx)(X:Cx)(e:Expr)(i:Nat)(a:List Jw):Prop:=PE X e (Ph G i a)
def PE.JV{X:Cx}{e:Expr}{t:TE}{i:Nat}{a:List Jw}(h:PE X e t)(w:∀O H Q,Ph G i a O H Q->t O H Q):JT G X e i a:=λpins s O H Q I q=>h pins s O H Q I (w O H Q q)
variable{X:Cx}{e:Expr}{es:List Expr}{i:Nat}{way:List Jw}{pos pos' p1 apos pe:Pos}{c:Ex}{cs:Hf}{b:Expr}{k:Nat}
def cf(i:Nat){x:Str}(h:X.N[i]?=some x:=by exact rfl)(d:Ir X.env.scope x:=by exact .inl rfl)(g:K3 x:=by exact rfl)(a:K4 x:=by exact rfl):JT G X (.Name x pos) i [] :=
 PE.JV (dM h d g a) λO H Q f=>by
  obtain⟨Z,J,t,ks,v,w,s,o,n,m,l,j⟩:=f;cases (show some ([]:List Ky)=some ks from m);cases l;exact⟨v,n,j H (aH.refl _)⟩
def Eo(h:JT G X e i way):JT G X e i (way++[.un]) :=
 PE.JV h λO H Q g=>by
  obtain⟨Z,J,t,ks,v,w,s,o,n,m,l,j⟩:=g;obtain⟨p,f,a,b,rfl⟩:=fP m;cases (show some [Ky.un]=some [f] from b);obtain⟨u,p1,d⟩:=l.split;cases d with
  |un q =>
   cases q;exact⟨Z,J,t,p,v,w,s,o,n,a,p1,j⟩
structure Im(G:Gx)(K:Y2)(k:Nat)(f:Str):Prop where
 nm:∀c,(G.ct (c+1)).2 k=f
 cl:∀c,Io K (G.ct (c+1)).1
 no:∀c,cY K (G.ct (c+1)).1 f
def jN(k:Nat){f:Str}(F:Im G X.K k f)(h:JT G X e i way)(n:attributeBase e f X.env (eval e X.env)=eval e X.env:=by exact rfl):JT G X (.Attribute e f pos) i (way++[.fld k]) :=
 PE.JV (zk h n) λO H Q m=>by
  obtain⟨Z,J,t,ks,v,w,s,z,y,x,r,p⟩:=m;obtain⟨B,l,a,b,rfl⟩:=fP x;cases (show some [Ky.fld k]=some [l] from b);obtain⟨u,p1,j⟩:=r.split;refine⟨Z,J,t,B,v,u,s,z,y,a,p1,λC d=>?_⟩;cases j with
  |@fld c _ a A fs D _ _ o g q =>
   cases q;rw[F.nm c]at g;exact⟨a,_,A,fs,w,rfl,d a _ o,F.cl c,F.no c,g,p C d⟩
def BJ{E:Nat}(R:GJ E X.A)(h:JT G X e i way)(U:PV G X b c)(P:fM b)(hK:X.K=G.K):JT G X (.Subscript e b pos) i (way++[.ix c]) :=
 PE.JV (lF (Ih.or jU (pZ (jy R))) h U P) λO H Q S=>by
  obtain⟨Z,J,t,ks,v,w,s,h1,h2,h3,h4,Y⟩:=S;obtain⟨J7,F,a,b',rfl⟩:=fP h3;obtain⟨⟨D,x⟩,ec,e2⟩:=Zz.mp (show (c J).bind (λx=>(keys [] J).map (Ky.at x.2 :: ·))=some [F] from b');cases e2;obtain⟨u,p1,C⟩:=h4.split;refine⟨Z,J,t,J7,v,u,s,h1,h2,a,p1,λH1 d=>⟨Z,J,D,x,s.same d,ec,λy H2 F2 o r2 f2=>?_⟩⟩;have B:=(C.same d).same o;have q:=Y H2 (d.trans o);cases B with
  |@ix a p L j r _ _ l g N f =>
   cases f;refine .inl (.inl ⟨a,p,L,w,rfl,r2.int_inv,GY.of l,iO g N,q⟩)
  |@key a gV m r _ _ l g f =>
   cases f;refine .inr ⟨a,w,rfl,?_,q⟩;have M:y=kV m:=by
    cases m with
    |inl n=>exact r2.int_inv
    |inr z =>
     have:=r2.str_inv.1;rw[this];simp[kV,sx]
   rw[M,← g];exact hU.k l
@[simp] noncomputable def lN(i:Nat)(a:List Jw)(f:T->W6->Option (T×Val))(g:Hf)(J:VS.Env):Option (Val×VS.Env):=match J[i]? with
 |some (some (.ow t))=>(keys a J).bind λks=>(g J).bind λd=>(pm (λx=>f x d) ks t).map λz=>(z.2,J.set i (some (.ow z.1)))
 |_=>none
noncomputable def j7(G:Gx):Prop:=∀c k a:Nat,(G.ct c).2 k=(G.ct c).2 a->k=a
def yT{p m:String}{a:Str}{o:Expr}{r:V->List V->Hp->VK->Prop}{f:T->W6->Option (T×Val)}(Jq:j7 G)(pa:PlainAttrs p)(d:Slot p a m)(MP:typeOf (.builtin m)=pure (.type "method_descriptor"))(hm:Nz X m r)(ok:xN G r f)(hT:∀H v t F l z,Rp G H v t F->f t l=some z->tyV G.K p v H)(ho:JT G X o i way)(ha:HP G X (e :: es) cs)(hK:X.K=G.K)(G2:attributeBase o a X.env (eval o X.env)=eval o X.env)(Hj:((backTo pe (starEach (e :: es) X.env)).all (λx=>!x.1)&&(backToKw pe (keywordEach [] X.env)).all (λx=>x.1.isSome)
   && decide ((e :: es).length+([]:List Keyword).length+(if ([]:List Keyword).isEmpty then 0 else 1)<30))=true)(GW:(apos.endLine==pe.line)=true)(hs:K1 e es X)(GT:K2 pe es X)(HV:swapsWith (.Call (.Attribute o a apos) (e :: es) [] pe) none pos.line X.env=pure false) :
  PSV G X (.Expr (.Call (.Attribute o a apos) (e :: es) [] pe) pos) (sX (lN i way f cs)) :=
 PS.weak (iE (lJ pa d MP hm ho ha G2 Hj GW hs GT) HV) λD O H hq=>by
  obtain⟨Z,J,out,s,e,k⟩:=hq;refine L2.gI λP_ k_=>?_;unfold sX lN at e;obtain⟨⟨x',J'⟩,e1,e2⟩:=Zw.mp e;split at e1
  ·rename_i t h;obtain⟨ks,ek,e3⟩:=Zz.mp e1;obtain⟨l,el,e4⟩:=Zz.mp e3;obtain⟨⟨t',x2⟩,e5,e6⟩:=Zw.mp e4;cases e6;cases e2;obtain⟨v,C,h2⟩:=s.rp _ _ h;obtain⟨w,x,F1,N,R,A,Q,y,P⟩:=iw ks Jq h2 (s.nd i t h) e5;refine k_ ?_;refine⟨Z,J,t,ks,v,w,s,h,C,ek,R,λH0 j=>⟨by rw[hK];exact hT H0 w x _ l _ (A.same j) y,Z,J,l,s.same j,el,λS H' Fs q1 Y B=>?_⟩⟩;refine ok Z J H H' w x N F1 l S Fs x2 _ A Q ⟨j.trans q1,Y,⟨λn U q a1 a2=>(B.each n U q a1 a2).back j,B.nd⟩⟩ y λu E q g=>?_;obtain⟨F2,g2⟩:=P E q g;obtain⟨M,L⟩:=s.mut h C g2;exact k _ O E M L
  ·cases e1
end
section
variable{G:Gx}{X:Cx}{e o:Expr}{es:List Expr}{i:Nat}{way:List Jw}{pos pos' p1 apos pe:Pos}{c:Ex}{cs:Hf}{b:Expr}{k:Nat}{ce ck:Ex}
noncomputable def pA(k v:Val):T->Option (T×Unit)
 |.lst l=>match k.2 with
  |.int n=>(fit v).bind λt=>(Hu l.length n).map λj=>(.lst (l.set j t),())
  |_=>none
 |.dct 0 l=>if fL k.2/\GO v.2/\l.length<dY then some (.dct 0 (dput l k.2 v.2),()) else none
 |_=>none
noncomputable def gv(i:Nat)(a:List Jw)(k e:Ex)(J:VS.Env):Option Out:=(e J).bind λv=>match J[i]? with
 |some (some (.ow t))=>(keys a J).bind λks=>(k J).bind λd=>(pm (pA d v) ks t).map λz=>.nx (J.set i (some (.ow z.1)))
 |_=>none
theorem RpL.putAt{H:Hp}:∀{d:List V}{f:W8}{g:Yd}(j:Nat){u:V}{x:T}{F:Xi},RpL G H d f g->Rp G H u x F->RpL G H (d.set j u) (f.set j x) (g.set j F)
 |_,_,_,_,_,_,_,.nil,_=>.nil
 |_,_,_,0,_,_,_,.cons r q,a=>.cons a q
 |_,_,_,j+1,_,_,_,.cons r q,a=>.cons r (RpL.putAt j q a)
theorem uz{H:Hp}{kk:Key}{j:V}{t:T}(m:Rp G H j t []):∀{ks:List Key}{g:List V}{ts:W8}{Fs:Yd},ks.length=g.length->RpL G H g ts Fs →
  ∃a f d,(ks.zip g).map (λl=>if l.1=kk then (l.1,j) else l)=ks.zip a/\ks.length=a.length/\((ks.map aB).zip ts).map (λp=>if eqT p.1 (aB kk) then (p.1,t) else p)=(ks.map aB).zip f/\RpL G H a f d/\d.flatten.Sublist Fs.flatten
 |[],[],_,_,_,.nil=>⟨[],[],[],rfl,rfl,rfl,.nil,XU _⟩
 |k :: ks,v :: g,_,_,A,.cons (t:=y) (F:=F) (ts:=ts) (Fs:=Fs) r q=>by
  obtain⟨a,f,d,x,w,u,s,n⟩:=uz m (by simpa using A) q;by_cases h:k=kk
  ·have e:eqT (aB k) (aB kk)=true:=(iF kk k).mpr h;refine⟨j :: a,t :: f,[] :: d,?_,by simp[w],?_,.cons m s,?_⟩
   ·rw[Za,Zl,x,Za];simp[h]
   ·rw[Zl,Za,Zl,u,Za];simp[e]
   ·rw[ZR,ZR];exact n.trans (YF _ _)
  ·have e:¬eqT (aB k) (aB kk)=true:=λz=>h ((iF kk k).mp z);refine⟨v :: a,y :: f,F :: d,?_,by simp[w],?_,.cons r s,?_⟩
   ·rw[Za,Zl,x,Za];simp[h]
   ·rw[Zl,Za,Zl,u,Za];simp[e]
   ·rw[ZR,ZR];exact List.Sublist.append (XU _) n
theorem qE{kk:Key}:∀{ks:List Key}{a:List V}{d:W8},ks.length=a.length->ks.length=d.length->((ks.zip a).any λf=>decide (f.1=kk))=(((ks.map aB).zip d).any λp=>eqT p.1 (aB kk))
 |[],_,_,_,_=>by simp
 |k :: ks,v :: a,t :: d,j,g=>by
  rw[Zl,Za,Za,YU,YU,qE (by simpa using j) (by simpa using g)];have:decide (k=kk)=eqT (aB k) (aB kk):=by rw[Xh,decide_eq_true_eq];exact(iF kk k).symm
  rw[this]
 |_ :: _,[],_,h,_=>by simp at h
 |_ :: _,_ :: _,[],_,h=>by simp at h
def p8{H:Hp}{kk:Key}{q:V}{t:T}(u:Rp G H q t []){a:List Key}{g:List V}{j:W8}{s:Yd}(d:a.length=g.length)(l:RpL G H g j s) :
  ∃(r:List Key)(f:List V)(n:W8)(m:Yd),putK (a.zip g) kk q=r.zip f/\r.length=f.length/\dput ((a.map aB).zip j) (aB kk) t=(r.map aB).zip n/\RpL G H f n m/\m.flatten.Sublist s.flatten:=by
 have an:=qE (kk:=kk) d (d.trans l.len.1);unfold putK dput;rw[an];by_cases h:(((a.map aB).zip j).any λp=>eqT p.1 (aB kk))=true
 ·rw[Zq h,Zq h];obtain⟨f,n,m,z,y,x,w,v⟩:=uz (kk:=kk) u d l;exact⟨a,f,n,m,z,y,x,w,v⟩
 ·rw[Zp h,Zp h];refine⟨a++[kk],g++[q],j++[t],s++[[]],?_,by simp[d],?_,l.append (.cons u .nil),by simp⟩
  ·rw[XF d];rfl
  ·rw[Jv,XF (by rw[Zu];exact d.trans l.len.1)];rfl
noncomputable def B3:zZ:=λo i v H Q=>B7 o i v H Q\/∃a d,o=.ref a/\si H a i v d/\Q d
def uH(m:X.A.units+1<cLine):Du X B3:=by
 intro pins s O H o i v l iv u Q I f j d h;rcases h with h | ⟨a,p,rfl,g,q⟩
 ·exact set_list pins s O H o i v l iv u Q I f j d h
 ·cases f;exact wm m I g j d λr n=>⟨p,n,q⟩
def kB{kr:Nat}(Jq:j7 G)(hr:GJ kr X.A)(ho:JT G X o i way)(hk:PV G X b ck)(he:PV G X e ce)(ha:∀v,assign (.Subscript o b pos') X.env v=(do
   let U ← holding [v] (eval o X.env)
   let iv ← holding [v,U] (eval b X.env)
   standAt pos'
   holding [v,U,iv] (setItem U iv v)
   release [v,U,iv] []):=by exact λ_=>rfl)(hs:swapsWithSole [.Subscript o b pos'] e pos.line X.env=pure false:=by exact rfl)(hw:swappedStores [.Subscript o b pos'] e X.env=pure none:=by exact rfl)(M:(assignEach [.Subscript o b pos'] X.env).map (·.2)=[assign (.Subscript o b pos') X.env]:=by exact rfl):PSV G X (.Assign [.Subscript o b pos'] e pos) (gv i way ck ce) :=
 PS.weak (pB he (pI ho hk (uH (jy hr)) ha) hs hw M) λD O H hq=>by
  obtain⟨Z,J,out,s,e,k⟩:=hq;refine L2.gI λP_ Y=>?_;unfold gv at e;obtain⟨⟨mv,m⟩,ev,e⟩:=Zz.mp e;split at e
  ·rename_i t ht;obtain⟨ks,ek,e⟩:=Zz.mp e;obtain⟨⟨mk,q⟩,JA,e⟩:=Zz.mp e;obtain⟨⟨t',y'⟩,e5,e6⟩:=Zw.mp e;cases e6;obtain⟨v,g1,g2⟩:=s.rp _ _ ht;obtain⟨w,x,F1,R,w1,w2,w3,L,w5⟩:=iw ks Jq g2 (s.nd i t ht) e5;refine Y ?_;refine⟨Z,J,mv,m,s,ev,λxv H1 Fv Hr rv fv=>?_⟩;refine⟨Z,J,t,ks,v,w,s.same Hr,ht,g1,ek,w1.same Hr,λH2 HQ=>⟨Z,J,mk,q,(s.same Hr).same HQ,JA,λkv f Fk IE rk fk=>?_⟩⟩;have y:aH H f:=(Hr.trans HQ).trans IE;have Ko:Rp G f xv m Fv:=(rv.same HQ).same IE;have fin:∀P E,Chg G H w F1 R P E->D.nx O P:=λP E g=>by
    obtain⟨F2,Nt⟩:=w5 P E g;obtain⟨z1,z2⟩:=s.mut ht g1 Nt;exact k _ O P z1 z2
   refine L2.gI λP_ Y=>?_;cases x with
   |lst l =>
    cases q with
    |int n =>
     obtain⟨tt,et,e7⟩:=Zz.mp (show ((fit (mv,m)).bind λt=>(Hu l.length n).map λj=>(T.lst (l.set j t),()))=some (R,y') from L);obtain⟨j,ej,e8⟩:=Zw.mp e7;cases e8;have em:=ma et;cases em;obtain⟨a,p,Fs,rfl,rfl,Q,B⟩:=w2.lst_inv;have N:f a=some (.lst p):=y a _ Q;have nd:=Zf.mp w3;have na:a∉Fv:=λz=>by rw[fv.2 a z]at Q;cases Q
     have C:GQ (f a):=by rw[N];exact True.intro
     have off:∀d∈Fs.flatten,d∉Fv:=λd hb hv=>GQ.p0 (B.GX d hb) (fv.2 d hv);refine Y ?_;refine .inl ⟨a,p,n,j,rfl,rk.int_inv,N,by rw[← sP,B.len.1];exact ej,fin _ (a :: (Fs.set j Fv).flatten) ?_⟩;have keep:∀{u:V}{x:T}{F:Xi},Rp G f u x F->a∉F->Rp G (upd f a (.lst (p.set j xv))) u x F:=λr hn=>r.keep (Kept.upd (.inl C)) λd hb o' JM=>by rw[ay (λz=>hn (by rw[← z];exact hb))];exact JM
     refine Chg.upd y Zx C (.lst aw ((((B.same y).off C nd.1)).putAt j (keep Ko na))) ?_ ?_
     ·rw[Zf];refine⟨λh=>?_,d8 nd.2 fv.1 λi' E _ hi d hb=>off d (cT hi hb)⟩;rcases cG h with z | ⟨i',E,_,M,h2⟩
      ·exact na z
      ·exact nd.1 (cT M h2)
     ·intro d hb;rcases Zo.mp hb with rfl | hb
      ·exact .inl Zx
      ·rcases cG hb with z | ⟨i',E,_,M,h2⟩
       ·exact .inr (fv.2 d z)
       ·exact .inl (Zy _ (cT M h2))
    |_=>cases L
   |dct kd l =>
    cases kd with
    |zero =>
     have hc:(fL q=true/\GO m=true/\l.length<dY)/\R=.dct 0 (dput l q m):=by
      have Mw:(if fL q/\GO m/\l.length<dY then some (T.dct 0 (dput l q m),()) else none)=some (R,y'):=L;split at Mw
      ·rename_i hc;cases Mw;exact⟨hc,rfl⟩
      ·cases Mw
     obtain⟨⟨c1,c2,c3⟩,rfl⟩:=hc;have eF:=Ko.GO c2;subst eF;obtain⟨a,ns,p,ts,Fs,rfl,rfl,Q,hl,rfl,B⟩:=cO w2;obtain⟨kk,rfl,JR⟩:=c8 rk c1;subst JR;have N:f a=some (.dK (ns.zip p)):=y a _ Q;have C:GQ (f a):=by rw[N];exact True.intro
     have nd:=Zf.mp w3;obtain⟨MI,Ip,HF,Ic,q1,q2,q3,q4,S⟩:=p8 (kk:=kk) Ko hl (B.same y);have ln:(ns.zip p).length<sizeLine:=by
      have:((ns.map aB).zip ts).length<16777216:=c3;rw[Ju,Zu]at this;rw[Ju];have:=B.len.1;have:(sizeLine:Nat)=16777216:=rfl;lia
     refine Y ?_;refine .inr ⟨a,_,rfl,si.k N ln,fin _ (a :: Ic.flatten) ?_⟩;rw[q1,q3];refine Chg.upd y Zx C (.dct aw q2 (q4.off C λz=>nd.1 (S.subset z))) ?_ ?_
     ·exact Zf.mpr ⟨λz=>nd.1 (S.subset z),nd.2.sublist S⟩
     ·intro d hb;rcases Zo.mp hb with rfl | hb
      ·exact .inl Zx
      ·exact .inl (Zy _ (S.subset hb))
    |succ n=>cases L
   |_=>cases L
  ·cases e
end
def Cd{K:Y2}{H:Hp}{a:Addr}{b:W3}(e:zw H)(d:GY K H a (b.map V.int)):lD K H a b:=by
 rcases d with h | h
 ·rcases h with h | h
  ·rcases e a with z | ⟨o,f,z⟩
   ·rw[z]at h;cases h
   ·rw[z]at h;cases h
  ·exact .inl h
 ·exact .inr h
def Dg{G:Gx}{g:Fn}{H:Hp}{a:Addr}{b:W3}{E:XK}(d:g [.scr b]=some (.fr,.bl true))(f:zw H)(e:GY G.K H a (b.map V.int)):Jy G g [.ref a] H (λv _=>v=.bl true) E :=
 ⟨[.scr b],[[]],.fr,.bl true,.cons (.scr (Cd f e)) .nil,d,λv h F _ r _=>r.HA⟩
noncomputable def OB(K:Y2):Gx:=⟨K,λ_=>(0,λk=>⟨#[k]⟩),λ_=>none⟩
end VS
end
section
namespace L2
open PySem PySem.Spec PyProof.Rows
section
variable{X:Cx}
def tN(y:X.calm=true):dI X (.type "list") (λf H Q=>∃x:Str,f=[.str x]/\x.cps.size<=sizeLine/\∀l,H l=none->Q (.ref l) (upd H l (.lst (x.cps.toList.map λc=>V.str ⟨#[c]⟩)))):=by
 intro pins s O H f A Q I o h;obtain⟨x,rfl,j,q⟩:=h;obtain⟨u,rfl,t,rfl⟩:=vals1 o;refine call_list_str (I.ok.hd y) x t (λz B acc c kp g n=>?_) j;have r:aT (x.cps.toList.map λc=>V.str ⟨#[c]⟩) acc.toList:=by
  have key:∀(b:W0)(a:Xg),b.length=a.length->(∀(i:Nat)(v:Value),a[i]?=some v->∃c u,b[i]?=some c/\v=.str ⟨#[c]⟩ u)->aT (b.map λc=>V.str ⟨#[c]⟩) a:=by
   intro b
   induction b with
   |nil =>
    intro a e _;cases a with
    |nil=>exact .nil
    |cons v a=>simp at e
   |cons c b p =>
    intro a e hg;cases a with
    |nil=>simp at e
    |cons v a =>
     obtain⟨d,u,e1,e2⟩:=hg 0 v rfl;cases e1;exact .cons ⟨u,e2⟩ (p a (by simpa using e) λi w hw=>by simpa using hg (i+1) w (by simpa using hw))
  refine key _ _ (by rw[YQ,YQ,n.1]) λi v m=>?_;rw[YN]at m;obtain⟨d,u,e1,e2⟩:=n.2 i v m;exact⟨d,u,by rw[YN];exact e1,e2⟩
 refine⟨.ref s.heap.objs.size,_,I.laid kp (Zh _) (show br X.prog X.w _ z _ (.lst (x.cps.toList.map λc=>V.str ⟨#[c]⟩)) from⟨by rw[Zu,YQ];exact j,acc.toList,c,r,g⟩),rfl,q _ (I.GL.fresh (Zh _))⟩
end
end L2
namespace VS
open PySem PySem.Spec PyProof.Rows L2
section
variable{G:Gx}{X:Cx}{a b c e tg:Expr}{es:List Expr}{ca cb cc ce ck:Ex}{cs:Hf}{pos p p1 p2 apos pe pos':Pos}{k k' kr:Nat}
@[simp] noncomputable def pX:W6->W7
 |[(m,.lst l)]=>IZ m l
 |[(m,.tup l)]=>IZ m l
 |[(_,.str s)]=>IZ .fr (s.map λc=>.str [c])
 |_=>none
def yr:fC G (λg H Q=>BS G.K g H Q\/∃x:Str,g=[.str x]/\x.cps.size<=sizeLine/\∀l,H l=none->Q (.ref l) (upd H l (.lst (x.cps.toList.map λc=>V.str ⟨#[c]⟩)))) pX:=by
 intro Z J j H l d f m t Q A e k;unfold pX at e;split at e
 ·exact .inl (uZ Z J j H _ d f m t Q A e k)
 ·exact .inl (uZ Z J j H _ d f m t Q A e k)
 ·rename_i C x;obtain⟨v,F,rfl,rfl,i⟩:=(show RpL G H d [.str x] f from A.rp).one;have h:=i.str_inv.2;refine .inr ⟨sx x,by rw[i.str_inv.1],?_,λq u=>?_⟩
  ·have:=h.1;simp only[sx,ZS];exact this
  ·have B:(sx x).cps.toList.map (λc=>V.str ⟨#[c]⟩)=(x.map λc=>[c]).map λs=>V.str (sx s):=by
    simp[sx]
   have z:(x.map λc=>T.str [c])=(x.map λc=>[c]).map T.str:=by simp
   rw[B];rw[z]at e;have n:=sD (G:=G) (H:=H) (ss:=x.map λc=>[c]) λs r=>by
    obtain⟨c,w,rfl⟩:=ZF.mp r;exact⟨by show 1<=dY;decide,λy o=>by rw[Zj.mp o];exact h.2 c w⟩
   refine jg A.same e n ?_ k q u;rw[rM];exact Fp.nil
 ·cases e
def Bi(d:X.mg "list" = none)(h:HP G X [e] cs)(f:Gl X "list" := by rfl)(i:X.K=G.K:=by rfl)(g:X.calm=true:=by rfl)(he:K1 e [] X:=by rfl):PV G X (.Call (.Name "list" p) [e] [] pos) (eN pX cs) :=
 ji (p6.or (tN g)) (i ▸ yr) f d Ac h (he:=he) (hpl:=rfl)
end
end VS
end
section
open PySem PyProof.Rows
namespace TS
noncomputable abbrev Ky:=Sum Int Str
noncomputable def Pz:Ky->Ky->Bool
 |.inl i,.inl j=>decide (i<j)
 |.inr x,.inr y=>decide (x.cps.toList<y.cps.toList)
 |_,_=>false
noncomputable def n9:List Ky->List Ky->Bool
 |[],[]=>false
 |[],_ :: _=>true
 |_ :: _,[]=>false
 |a :: d,b :: bs=>if a=b then n9 d bs else Pz a b
noncomputable def kind(k:Ky):Bool:=k.isLeft
variable{prog:Program}{w:World}{A:Around}{E:GS}{s:Shared}
noncomputable def OY:Ky->Value->Prop
 |.inl i,v=>∃t,v=.int i t
 |.inr x,v=>∃t,v=.str x t
inductive Jx:List Ky->Xg->Prop where
 |nil:Jx [] []
 |cons {k:Ky} {v:Value} {ks:List Ky} {vs:Xg}:OY k v->Jx ks vs->Jx (k :: ks) (v :: vs)
noncomputable def tY(h:Heap)(v:Value)(a:List Ky):Prop:=∃b o items n,v=.ref b/\h.get? b=some o/\o.cls=.type "tuple" ∧ o.data=.seq items n/\Jx a items.toList
def EM{k a:Ky}{v b:Value}{Q:Bool->Shared->Prop}(d:kind k=kind a)(h:OY k v)(f:OY a b)(q:Q (decide (k=a)) s):wpAny (model prog w) A (eqBool v b) Q E s:=by
 cases k<;>cases a<;>simp only[kind,Sum.isLeft,Bool.true_eq_false,YM]at d<;>obtain⟨t,rfl⟩:=h<;>obtain⟨g,rfl⟩:=f
 ·exact wpAny_eqBool_int (by have e:∀i j:Int,(i==j)=decide (Sum.inl (β:=Str) i=.inl j):=λi j=>by by_cases z:i=j<;>simp[z]
                             rw[e];exact q)
 ·exact wpAny_eqBool_str (by simpa using q)
def jm(a b:Ky)(l m:List Ky):n9 (a :: l) (b :: m)=if a=b then n9 l m else Pz a b:=rfl
end TS
end
section
namespace ST
open PySem PySem.Spec PyProof.Rows
variable{prog:Program}{w:World}{A:Around}{E:GS}{s:Shared}
noncomputable abbrev dO(a:Array DictEntry)(b:Nat):Obj:={ cls:=.type "dict",data:=.dict a b }
noncomputable abbrev kO(d:Addr)(i n a:Nat):Obj:={ cls:=.type "dict_keyiterator",data:=.fields #[.ref d,.int i 0,.int n 0,.int a 0] }
def yA{d:Addr}{b:Array DictEntry}{e:Nat}{Q:GS}(f:(d==sysModules)=false)(a:s.heap.get? d=some (dO b e))(q:Q (.ref s.heap.objs.size) { s with heap:=s.heap.push (kO d 0 b.size e) }) :
  wpAny (model prog w) A (pyIter (.ref d)) Q E s:=by
 have ty:s.TypeIs (.ref d) "dict" := ⟨_,a,rfl⟩
 refine wpAny_pyIter_slot ty F.slot_dict_iter (XC F.slot_dict_iter ty F.entry_dict_iter (show wpAny _ _ (Builtin.«dict.__iter__» _) _ _ _ from ?_) (F.args_dict_iter_1 _));unfold Builtin.«dict.__iter__» Builtin.Dict.dictSlotNone Builtin.Dict.showsAll;refine Zn (Zn (wpAny_notOrdered_dict ty (show wpAny _ _ (pure (Value.ref d)) _ _ s from ZZ (Zn (m:=Builtin.Dict.addrOf (.ref d)) (ZZ ?_)))));rw[Zp (by rw[f];exact ZX)];exact Zn (ZZ (Zn (wpAny_dictEntries a rfl (Zn (wpAny_dictEpoch a rfl (Zn (XI (ZZ ⟨_,rfl, "dict_keyiterator",_,⟨_,ZQ _ rfl,rfl⟩,Xr.lookup,q⟩))))))))
def qG{I d:Addr}{i m:Nat}{h:Array DictEntry}{Q:Wm->Shared->Prop}(u:A.handled=none)(l:s.heap.get? I=some (kO d i h.size m))(n:s.heap.get? d=some (dO h m))(z:∀e,h[i]?=some e->∀a,Heap.SameBut I s.heap a->a.get? I=some (kO d (i+1) h.size m)->Q (some e.key) { s with heap:=a })(y:h[i]?=none->∀a,(∀b o,b≠I->s.heap.get? b=some o->a.get? b=some o)->Q none { s with heap:=a }):wpAny (model prog w) A (pyNext (.ref I)) Q E s:=by
 have ty:s.TypeIs (.ref I) "dict_keyiterator" := ⟨_,l,rfl⟩
 unfold pyNext;refine Zn (wpAny_attempt (wpAny_callSpecial?_slot (name:=Str.ofString "__next__") ty Xr (XC Xr ty F.entry_dict_keyiterator_next (YJ
  (Q:=λf j=>∃v,f=.done (.ret v)/\Q (some v) j) (E:=λe j=>∃x,e=.ref x/\(∃o,j.heap.get? x=some o/\o.cls=.type "StopIteration")/\Q none j) ?_ (λf j ⟨v,e,q⟩=>⟨v,e,ZZ q⟩) λe j ⟨x,e1,⟨o,g,c⟩,q⟩=>?_) (F.args_dict_keyiterator_next_1 _))))
 ·refine Zn (ZZ (Zn (Zn (Zn (XB ty (ZZ (Zn (wpAny_fieldsOf l rfl ?_))))))));have own:Builtin.Dict_items.ownsTuple "dict_keyiterator" = false:=rfl;simp only[own,YM,↓reduceIte];refine(show wpAny _ _ (if (Value.ref d==Value.none)=true then _ else _) _ _ s from ?_);rw[Zp (λe:(Value.ref d==Value.none)=true=>ZX e)];refine Zn (ZZ (Zn (wpAny_dictEntries n rfl ?_)));rw[Zp (by simp)];refine Zn (ZZ (Zn (wpAny_dictEpoch n rfl ?_)));rw[Zp (by simp)];refine ZZ ?_;simp only[show ¬((i:Int)<0) from by lia,↓reduceIte,Wa];cases p:h[i]? with
  |some e =>
   dsimp only;have r:(s.heap.update I (Obj.mapFields (·.setIfInBounds 1 (rawInt ((i:Int)+1))))).get? I=some (kO d (i+1) h.size m):=XD _ l rfl;refine Zn (Zn (XB ty (ZZ (Zn (wpAny_isOneOf_keyiter ty ?_)))));refine(show wpAny _ _ (setField (.ref I) 1 (rawInt ((i:Int)+1))>>=_) _ _ s from Zn (wpAny_setField l rfl (by show 1<4;decide) (Zn (Y7 ?_))));refine Zn (wpAny_isOneOf_keyiter (s:={ s with heap:=s.heap.update I (Obj.mapFields (·.setIfInBounds 1 (rawInt ((i:Int)+1)))) }) ⟨_,r,rfl⟩ ?_);refine(show wpAny _ _ (pure e.key) _ _ _ from ZZ (ZZ ⟨_,rfl,z e p _ (Heap.SameBut.update ..) r⟩))
  |none =>
   dsimp only;refine Zn (Zn (XB ty (ZZ ?_)));refine(show wpAny _ _ (setField (.ref I) 0 .none>>=_) _ _ s from Zn (wpAny_setField l rfl (by show 0<4;decide) (Fb u λa x kp t=>⟨x,rfl,t,y p a λb o hb e=>kp b o ?_⟩)));rw[YO _ _ (Yq hb)];exact e
 ·subst e1;exact Zn (wpAny_isInstance (T := "StopIteration") (b:=true) ⟨o,g,c⟩ isSubtype_stop (ZZ q))
end ST
end
section
namespace L2
open PySem PySem.Spec PyProof.Rows TS
section
variable{X:Cx}
theorem yZ:∀{ks:List Key}{a:Xg},aT (ks.map kV) a->Jx ks a
 |[],[],_=>.nil
 |k :: ks,v :: a,h=>by
  cases h with
  |cons r q =>
   refine .cons ?_ (yZ q);cases k with
   |inl i=>exact r
   |inr x=>exact r
def A0{P:Program}{w:World}{H:Hp}{h:Heap}{a:Addr}{ks:List Key}(b:HE P w H h)(e:H a=some (.tup (ks.map kV))):tY h (.ref a) ks:=by
 obtain⟨_,i,r,_,o,g,f,n,d⟩:=(show br P w H h a (.tup (ks.map kV)) from b a _ e)
 exact⟨a,o,i.toArray,n,rfl,g,f,d,yZ r⟩
end
end L2
end
section
namespace VS
open PySem PySem.Spec PyProof.Rows L2
def BQ{G:Gx}{X:Cx}{i:Int}{j:Nat}{a p:Pos}:PV G X (.UnaryOp .USub (.Constant (.int i) j p) a) (Q2 (-i)) :=
 PE.weak (E1 CL p9) λO H Q b=>by
  obtain⟨Z,J,m,t,s,e,k⟩:=b;cases (show some (Md.fr,T.int (-i))=some (m,t) from e);exact⟨i,rfl,k _ H [] (aH.refl _) (.int _) Fp.nil⟩
end VS
end
section
namespace L2
open PySem PySem.Spec PyProof.Rows
section
variable{X:Cx}
noncomputable def zW:V->List V->Hp->VK->Prop:=λx d H Q=>∃(a:Addr)(b:List (Key×V))(k:Key)(y:V),x=.ref a/\d=[kV k,y]/\H a=some (.dK b)/\b.length<sizeLine ∧
 (∀v,cE b k=some v->Q v H)/\(cE b k=none->Q y (upd H a (.dK (putK b k y))))
def vM:Nz X "dict.setdefault" zW:=by
 intro pins s O H x M v N Q I n o h;obtain⟨a,f,k,y,rfl,rfl,e,P,t,r⟩:=h;cases n;obtain⟨u,m,rfl,p,j⟩:=o.two;obtain⟨z,hd,g,rel,i⟩:=oq I.GL e;have A:g.length<=sizeLine:=by rw[← rel.length];exact z
 have b:=rel.val k;refine call_meetsIn PySem.F.slot_dict_setdefault i.typeIs PySem.F.entry_dict_setdefault (PySem.F.args_dict_setdefault_3 _ _ _) (kt_meets_setdefault (aS X.prog X.w) a (kG p) hd m) ⟨g,i,A,λv B=>?_,λE J l C=>?_⟩
 ·rw[B]at b;cases d:cE f k with
  |none=>rw[d]at b;cases b
  |some w =>
   rw[d]at b;exact⟨w,H,I.tok _,b,t w d⟩
 ·rw[E]at b;have d:cE f k=none:=by
   cases d:cE f k with
   |none=>rfl
   |some w=>rw[d]at b;cases b
  have L:(putK f k y).length<=sizeLine:=by have:=ft f k y;lia
  have G:∃q,J.get? a=some q:=let ⟨q,_,_,D,_⟩:=l;⟨q,D⟩
  exact⟨y,_,kc I (by rw[e];exact True.intro) C G (m8 L hd (rel.put k j) l),j,r d⟩
end
end L2
namespace VS
open PySem PySem.Spec PyProof.Rows L2
section
variable{G:Gx}{X:Cx}{a b c e o tg:Expr}{es:List Expr}{ca cb cc ce ck cv:Ex}{cs:Hf}{pos p p1 p2 apos pe pos' JB Lm lp:Pos}{k k' kr i:Nat}
noncomputable def cN(l:List (T×T))(k:T):List (T×T):=if (cR l k).isSome then l else l++[(k,.lst [])]
noncomputable def kj(i:Nat)(k:Ex)(v:Hf)(J:VS.Env):Option Out:=match J[i]? with
 |some (some (.ow (.dct 0 l)))=>(k J).bind λd=>if fL d.2/\l.length<dY then
   (v (J.set i (some (.ow (.dct 0 (cN l d.2)))))).bind λf=>(pm (λx=>aN x f) [.at d.2] (.dct 0 (cN l d.2))).map λz=>.nx (J.set i (some (.ow z.1))) else none
 |_=>none
def Chg.none{H f:Hp}{v:V}{F:Xi}{t:T}(d:aH H f)(r:Rp G H v t F)(g:F.Nodup):Chg G H v F t f F :=
 ⟨Kept.of d,λb o _ h=>d b o h,λb h z=>h (d.free z),r.same d,g,λa j=>.inl j⟩
def DX{H:Hp}{f:T->Option (T×Val)}{d:Key}{a:Addr}{L:List (T×T)}{l:T}{F:Xi}{y:Val}{O:List (Key×V)}{w:V}(r:Rp G H (.ref a) (.dct 0 L) F)(D:F.Nodup)(e:pm f [.at (aB d)] (.dct 0 L)=some (l,y))(J:H a=some (.dK O))(hw:cE O d=some w) :
  ∃x v A,Rp G H w x v/\v.Nodup/\f x=some (A,y)/\∀t S,Chg G H w v A t S->∃F',Chg G H (.ref a) F l t F':=by
 have e:((L.findIdx? λp=>eqT p.1 (aB d)).bind λi=>(L[i]?).bind λp=>(pm f [] p.2).map λz=>(T.dct 0 (L.set i (p.1,z.1)),z.2))=some (l,y):=by
  cases d<;>exact e
 obtain⟨i,N,e⟩:=Zz.mp e;obtain⟨p,M,e⟩:=Zz.mp e;obtain⟨⟨z,y'⟩,e1,e2⟩:=Zw.mp e;cases e2;obtain⟨a',ns,Y,j,Fs,ea,rfl,E,s,rfl,m⟩:=cO r;cases ea;rw[J]at E;cases E;have U:(ns.map aB).length=j.length:=by rw[Zu];exact s.trans m.len.1
 obtain⟨q,h,Q,P,g3,g4⟩:=iP (λn=>eqT n (aB d)) U N;have ep:p=(q,h):=by
  have:((ns.map aB).zip j)[i]?=some (q,h):=by rw[Yw];exact⟨Q,P⟩
  rw[this]at M;exact(Zm M).symm
 subst ep;obtain⟨u,Fi,C,B,Z⟩:=m.get i P;have R:cE (ns.zip Y) d=some u:=pQ (by simpa using U) s N C;rw[hw]at R;cases R;refine⟨h,Fi,z,Z,((Zf.mp D).2).sublist (bM B),e1,λt S g=>?_⟩;obtain⟨s1,s2,s3,s4,s5⟩:=kK J m D C B g;refine⟨_,g.kept,s5,g.GX,?_,s3,s4⟩;rw[mw (ns.map aB) j i q z Q];exact .dct s1 s s2
def xD(Jq:j7 G)(i:Nat){x:Str}(hk:PV G X b ck)(hv:HP G X [e] cs)(hK:X.K=G.K)(hN:X.N[i]?=some x)(Rf:Ir X.env.scope x)(hd:K3 x)(Y:K4 x)(Kv:attributeBase (.Name x p1) "setdefault" X.env (eval (.Name x p1) X.env)=eval (.Name x p1) X.env)(WE:((backTo Lm (starEach [b,.List [] lp] X.env)).all (λx=>!x.1)&&(backToKw Lm (keywordEach [] X.env)).all (λx=>x.1.isSome)
   && decide ([b,Expr.List [] lp].length+([]:List Keyword).length+(if ([]:List Keyword).isEmpty then 0 else 1)<30))=true)(V0:(JB.endLine==Lm.line)=true)(LK:starEach [b,.List [] lp] X.env=(false,eval b X.env) :: starEach [.List [] lp] X.env)(Rl:starEach [.List [] lp] X.env=(false,eval (.List [] lp) X.env) :: starEach [] X.env)(Oe:(backTo Lm (starEach [.List [] lp] X.env)).any (·.1)=false)(Ov:attributeBase (.Call (.Attribute (.Name x p1) "setdefault" JB) [b,.List [] lp] [] Lm) "append" X.env (eval (.Call (.Attribute (.Name x p1) "setdefault" JB) [b,.List [] lp] [] Lm) X.env)=eval (.Call (.Attribute (.Name x p1) "setdefault" JB) [b,.List [] lp] [] Lm) X.env)(WD:((backTo pe (starEach [e] X.env)).all (λx=>!x.1)&&(backToKw pe (keywordEach [] X.env)).all (λx=>x.1.isSome)
   && decide ([e].length+([]:List Keyword).length+(if ([]:List Keyword).isEmpty then 0 else 1)<30))=true)(JO:(apos.endLine==pe.line)=true)(IT:K1 e [] X)(Rm:(backTo pe (starEach [] X.env)).any (·.1)=false)(HV:swapsWith (.Call (.Attribute (.Call (.Attribute (.Name x p1) "setdefault" JB) [b,.List [] lp] [] Lm) "append" apos) [e] [] pe) none pos.line X.env=pure false) :
  PSV G X (.Expr (.Call (.Attribute (.Call (.Attribute (.Name x p1) "setdefault" JB) [b,.List [] lp] [] Lm) "append" apos) [e] [] pe) pos) (kj i ck cs) :=
 PS.weak (iE (lJ Y3 YA YB fQ
  (lJ PySem.F.plainAttrs_dict PySem.F.slot_dict_setdefault PySem.F.type_dict_setdefault vM (dM hN Rf hd Y) (cP hk (cP (t7 fD) fD Rl) LK) Kv WE V0 LK Oe) hv Ov WD JO IT Rm) HV) λD O H B=>by
  obtain⟨Z,J,out,s,e,k⟩:=B;refine L2.gI λP_ A=>?_;unfold kj at e;split at e
  ·rename_i l P;obtain⟨⟨mk,tk⟩,JA,e⟩:=Zz.mp e;split at e
   ·rename_i hc;obtain⟨c1,c2⟩:=hc;obtain⟨lv,ev,e⟩:=Zz.mp e;obtain⟨⟨t',y'⟩,e5,e6⟩:=Zw.mp e;cases e6;obtain⟨v,g1,g2⟩:=s.rp _ _ P;have ME:=s.nd i _ P;obtain⟨a,ns,f,m,Fs,rfl,R,ha,S,el,t⟩:=cO g2;subst el;rw[R]at ME;refine A ?_;refine⟨.ref a,g1,by rw[hK];exact .inr (.inr (.inl ⟨rfl,.inl ⟨_,ha⟩⟩)),?_⟩;refine⟨Z,J,mk,tk,s,JA,λkv n Fk Hr rk fk=>⟨Yv _,λq B=>?_⟩⟩;refine L2.gI λP_ A=>?_;obtain⟨d,rfl,Us⟩:=c8 rk c1;dsimp only at Us JA e5 ev c1;subst Us;refine A ?_;have fin:∀(r:Hp)(L:Xi)(MH:List (Key×V))(w:V),Chg G H (.ref a) (Z i) (.dct 0 (cN ((ns.map aB).zip m) (aB d))) r L->r a=some (.dK MH)->cE MH d=some w →
      tyV X.K "list" w r/\Ng G cs O r (λMx H4=>pJ w Mx H4 (λ_ E=>D.nx O E)):=λr L MH w g h3 hw=>by
     refine L2.gI λP_ A=>?_;obtain⟨z1,z2⟩:=s.mut P g1 g;have Rk:(J.set i (some (.ow (.dct 0 (cN ((ns.map aB).zip m) (aB d))))))[i]?=some (some (.ow (.dct 0 (cN ((ns.map aB).zip m) (aB d))))):=by
      have hi:i<J.length:=(Zg.mp P).1;rw[YS hi]
     obtain⟨x',F1,x3,w2,w3,w4,w5⟩:=DX g.rp g.nd e5 h3 hw;refine A ?_;refine⟨by rw[hK];exact gH w2 w4,jO Z i L,_,lv,z1,ev,λMx H4 O0 q1 q2 q3=>?_⟩;refine jq (jO Z i L) _ r H4 w x' x3 F1 lv Mx O0 y' _ w2 w3 ⟨q1,q2,q3⟩ w4 λu E F' g5=>?_;obtain⟨F2,g6⟩:=w5 E F' g5;have g6':Chg G r (.ref a) (jO Z i L i) t' E F2:=by rw[iu];exact g6
     obtain⟨y1,y2⟩:=z1.mut Rk g1 g6';rw[List.set_set]at y1 y2;exact k _ O E y1 (z2.trans y2)
    have HQ:aH n (upd n q (.lst [])):=cK B;have M:aH H (upd n q (.lst [])):=Hr.trans HQ;have Jo:upd n q (.lst []) a=some (.dK (ns.zip f)):=M a _ ha;have ln:(ns.zip f).length<sizeLine:=by
     have:((ns.map aB).zip m).length<16777216:=c2;rw[Ju,Zu]at this;rw[Ju];have:=t.len.1;have:(sizeLine:Nat)=16777216:=rfl;lia
    have dg:=jl (G:=G) (k:=d) S t;refine⟨a,ns.zip f,d,.ref q,rfl,rfl,Jo,ln,λw hw=>?_,λU=>?_⟩
    ·refine fin _ (a :: Fs.flatten) (ns.zip f) w ?_ Jo hw;have es:cN ((ns.map aB).zip m) (aB d)=(ns.map aB).zip m:=by
      unfold cN;rcases dg with⟨C,Q⟩ | ⟨_,_,t2,_,C,_⟩
      ·rw[Q]at hw;cases hw
      ·rw[C];rfl
     rw[es,R];exact Chg.none M (by rw[R]at g2;exact g2) ME
    ·have es:cN ((ns.map aB).zip m) (aB d)=((ns++[d]).map aB).zip (m++[.lst []]):=by
      unfold cN;rcases dg with⟨C,Q⟩ | ⟨_,_,t2,_,C,Q,_⟩
      ·rw[C,Zp (by simp),Jv,XF (by rw[Zu];exact S.trans t.len.1)];rfl
      ·rw[Q]at U;cases U
     have ep:putK (ns.zip f) d (.ref q)=(ns++[d]).zip (f++[.ref q]):=by
      unfold putK;rw[i9,U,Zp (by simp),XF S];rfl
     have qa:q≠a:=λz=>by
      have:n a=some (.dK (ns.zip f)):=Hr a _ ha;rw[← z,B]at this;cases this
     have qH:H q=none:=Hr.free B;have m2:GQ (upd n q (.lst []) a):=by rw[Jo];exact True.intro
     have nd:=Zf.mp ME;have qF:q∉Fs.flatten:=λz=>GQ.p0 (t.GX q z) qH;have h3q:upd (upd n q (.lst [])) a (.dK (putK (ns.zip f) d (.ref q))) q=some (.lst []):=by rw[ay qa,aw]
     have rq:Rp G (upd (upd n q (.lst [])) a (.dK (putK (ns.zip f) d (.ref q)))) (.ref q) (.lst []) (q :: ([]:Yd).flatten):=.lst h3q .nil;refine fin _ (a :: (Fs++[[q]]).flatten) (putK (ns.zip f) d (.ref q)) (.ref q) ?_ aw (by rw[ye,Zq rfl]);rw[es,R];refine Chg.upd M Zx m2 (.dct (by rw[aw,ep]) (by simp[S]) (((t.same M).off m2 nd.1).append (.cons rq .nil))) ?_ ?_
     ·rw[Yp];refine Zf.mpr ⟨λz=>?_,ZO.mpr ⟨nd.2,by simp,λx hx y j z=>?_⟩⟩
      ·rcases Ze.mp z with z | z
       ·exact nd.1 z
       ·have h:a=q:=by simpa using z
        exact qa h.symm
      ·subst z;exact qF (by simpa[show x=q by simpa using j] using hx)
     ·intro y j;rcases Zo.mp j with rfl | j
      ·exact .inl Zx
      ·rw[Yp]at j;rcases Ze.mp j with j | j
       ·exact .inl (Zy _ j)
       ·rw[show y=q by simpa using j];exact .inr qH
   ·cases e
  ·cases e
end
end VS
end
section
namespace VS
open PySem PySem.Spec PyProof.Rows L2
section
variable{G:Gx}{X:Cx}{a b c e o tg:Expr}{es:List Expr}{ca cb cc ce ck cv:Ex}{cs:Hf}{pos p p1 p2 apos pe pos' JB Lm lp:Pos}{k k' kr i:Nat}
def Rp.Je{H:Hp}{v:V}{ts:W8}{F:Xi}(r:Rp G H v (.tup ts) F):∃b vs Fs,v=.ref b/\H b=some (.tup vs)/\RpL G H vs ts Fs:=by
 cases r with
 |tup h q=>exact⟨_,_,_,rfl,h,q⟩
end
end VS
end
section
namespace L2
open PySem PySem.Spec PyProof.Rows
section
variable{X:Cx}{tg:Expr}{pos:Pos}
def yP{o:Obj}{g:Array DictEntry}{i:Nat}(h:o.ExactDict)(e:o.data=.dict g i):o=ST.dO g i:=by
 obtain⟨c,d,l,j⟩:=o;obtain⟨f,b,a⟩:=h;simp only at f b a e;subst f b a e;rfl
end
end L2
namespace VS
open PySem PySem.Spec PyProof.Rows L2
section
variable{G:Gx}{X:Cx}{pos:Pos}
def AY{x:Str}{t:Tx}{j:Nat}{q l:Pos}(h:x=sx t)(v:nX t):PV G X (.Dict [some (.Constant (.str x) j q)] [.List [] l] pos) (nk 0 [(eC (.str t),dW ah)]) :=
 PE.weak (uS (qT zR (t7 fD) ux) rfl rfl (by simp) (by show 1<=15;decide)) λO H Q n=>by
  obtain⟨Z,J,m,r,s,e,k⟩:=n;subst h;cases (show some (Md.fr,T.dct 0 [(.str t,.lst [])])=some (m,r) from e);intro p f;refine⟨Yv _,λb hb=>?_⟩;have d:b≠p:=λz=>by rw[z,aw]at hb;cases hb
  have g:H b=none:=by rw[ay d]at hb;exact hb
  refine⟨by rw[ay (Yq d),aw],[(Sum.inr (sx t),.ref b)],rfl,(by show 1<=15;decide),?_⟩;have u:aB (Sum.inr (sx t))=.str t:=rfl;have i:aH H (upd (upd (upd H p (.dK [])) b (.lst [])) p (.dK (kR [] [(Sum.inr (sx t),.ref b)]))):=λc o a=>by
   rw[ay (bN a f),ay (bN a g),ay (bN a f)];exact a
  have:Rp G (upd (upd (upd H p (.dK [])) b (.lst [])) p (.dK [(Sum.inr (sx t),.ref b)])) (.ref p) (.dct 0 ((([Sum.inr (sx t)]:List Key).map aB).zip [.lst []])) (p :: ([[b]]:Yd).flatten) :=
   .dct (ks:=[Sum.inr (sx t)]) (vs:=[V.ref b]) aw rfl (.cons (F:=b :: ([]:Yd).flatten) (.lst (by rw[ay d,aw]) .nil) .nil)
  simp only[Zl,Wf,u,Za,List.zip_nil_right]at this;exact k _ _ _ i this ⟨by simp[Yq d],λc a=>by
   rcases Zo.mp a with rfl | a
   ·exact f
   ·simp at a;rw[a];exact g⟩
end
end VS
end
section
namespace VS
open PySem PySem.Spec PyProof.Rows L2
section
variable{G:Gx}{X:Cx}{e b:Expr}{cs:Hf}{cb:Ex}{pos p p1 p2 kp apos pe:Pos}{k k' kr:Nat}{x:Str}{ps:List Str}{g:Fn}
def nQ{a b c:Expr}{i f d:Ex}(s:PV G X a i)(o:PV G X b f)(n:PV G X c d)(l:lastMarks [.LtE,.Lt] [b,c]=false):IC G X (.Compare a [.LtE,.Lt] [b,c] pos) (dE oLe oLt i f d) :=
 PT.weak (rL xF pR s o n l) λO H Q h=>mZ h (λJ m r e=>by
  unfold dE at e;obtain⟨x,A,e⟩:=Zz.mp e;obtain⟨y,w,e⟩:=Zz.mp e;obtain⟨⟨t,z⟩,u,e⟩:=Zz.mp e;cases z with
  |bl q =>
   cases q with
   |false=>cases e;exact⟨_,rfl⟩
   |true =>
    obtain⟨j,v,e⟩:=Zz.mp (show (d J).bind (λz=>oLt y z)=some (m,r) from e);exact j6 y j m r e
  |_=>cases e) λQ h=>qN BU vd h
def zr{a:Ex}(h:PV G X e a)(j:swapsWith e none pos.line X.env=pure false):PSV G X (.Expr e pos) (sX (xP a)) :=
 PS.weak (iE h j) λD O H d=>by
  obtain⟨Z,J,out,s,e,k⟩:=d;unfold sX xP at e;obtain⟨⟨v,n⟩,e1,e2⟩:=Zw.mp e;obtain⟨⟨m,t⟩,i,f⟩:=Zw.mp e1;cases f;cases e2;exact⟨Z,J,m,t,s,i,λv l F e1 r1 f1=>k Z O l (s.same e1) (GZ.same e1)⟩
@[simp] noncomputable def rV(i:Nat)(c:Ex)(f:Hf)(J:VS.Env):Option (Val×VS.Env):=match J[i]? with
 |some (some (.ow (.lst l)))=>(c J).bind λd=>(int? d.2).bind λn=>(Hu l.length n).bind λj=>(l[j]?).bind λx=>(f J).bind λa=>(aN x a).map λz=>(z.2,J.set i (some (.ow (.lst (l.set j z.1)))))
 |_=>none
def Ci(i:Nat)(hN:X.N[i]?=some x)(hv:Ir X.env.scope x)(hd:K3 x)(o:K4 x)(hb:PV G X b cb)(V6:fM b)(ha:HP G X [e] cs)(hK:X.K=G.K)(G2:attributeBase (.Subscript (.Name x p1) b p2) "append" X.env (eval (.Subscript (.Name x p1) b p2) X.env)=eval (.Subscript (.Name x p1) b p2) X.env)(Hj:((backTo pe (starEach [e] X.env)).all (λx=>!x.1)&&(backToKw pe (keywordEach [] X.env)).all (λx=>x.1.isSome)
   && decide ([e].length+([]:List Keyword).length+(if ([]:List Keyword).isEmpty then 0 else 1)<30))=true)(GW:(apos.endLine==pe.line)=true)(hs:K1 e [] X)(GT:(backTo pe (starEach [] X.env)).any (·.1)=false)(HV:swapsWith (.Call (.Attribute (.Subscript (.Name x p1) b p2) "append" apos) [e] [] pe) none pos.line X.env=pure false) :
  PSV G X (.Expr (.Call (.Attribute (.Subscript (.Name x p1) b p2) "append" apos) [e] [] pe) pos) (sX (rV i cb cs)) :=
 PS.weak (iE (lJ Y3 YA YB fQ (lF vi (dM hN hv hd o) hb V6) ha G2 Hj GW hs GT) HV) λD O H hq=>by
  obtain⟨Z,J,out,s,e,k⟩:=hq;unfold sX rV at e;obtain⟨⟨y',J'⟩,e1,e2⟩:=Zw.mp e;split at e1
  ·rename_i l0 m;obtain⟨⟨mk,tk⟩,JA,d⟩:=Zz.mp e1;obtain⟨n,E,d⟩:=Zz.mp d;obtain⟨j,h1,d⟩:=Zz.mp d;obtain⟨U,h2,d⟩:=Zz.mp d;obtain⟨l,el,d⟩:=Zz.mp d;obtain⟨⟨r,S⟩,t,e6⟩:=Zw.mp d;cases e6;cases e2;cases tk with
   |int n0 =>
    cases (show some n0=some n from E);obtain⟨v,C,g2⟩:=s.rp _ _ m;have nd:=s.nd i _ m;obtain⟨a,Y,Fs,rfl,F,L,h⟩:=g2.lst_inv;obtain⟨u,P,A,z,w⟩:=h.get j h2;rw[F]at nd;have QL:P.Nodup:=((Zf.mp nd).2).sublist (bM z);refine⟨.ref a,C,Z,J,mk,_,s,JA,λy H1 F1 f r1 f1=>?_⟩;refine⟨a,Y,_,u,rfl,r1.int_inv,GY.of (f a _ L),iO (by rw[h.len.1];exact h1) A,by rw[hK];exact gH (w.same f) t,Z,J,l,s.same f,el,λMx H4 O0 q1 q2 B=>?_⟩;refine jq Z J H H4 u U r P l Mx O0 S _ w QL ⟨f.trans q1,q2,⟨λn v' q a1 a2=>(B.each n v' q a1 a2).back f,B.nd⟩⟩ t λu' M q g=>?_;obtain⟨s1,s2,s3,s4,s5⟩:=kK L h nd A z g;have g6:Chg G H (.ref a) (Z i) (.lst (l0.set j r)) M (a :: (Fs.set j q).flatten):=by
     rw[F];exact⟨g.kept,s5,g.GX,.lst s1 s2,s3,s4⟩
    obtain⟨R,Q⟩:=s.mut m C g6;exact k _ O M R Q
   |_=>cases E
  ·cases e1
end
section
variable{G:Gx}{X:Cx}{a b e:Expr}{ca ck ce:Ex}{pos pos' p1:Pos}{kr:Nat}
def CM{j pos'}(g:PV G X a ca):IC G X (.Compare a [.Is] [.Constant .none j pos'] pos) (Be ca) :=
 PT.weak (zi (CW g)) λO H Q h=>BI h (λJ m r e=>by
  unfold Be at e;obtain⟨x,_,e⟩:=Zz.mp e;cases e;exact⟨_,rfl⟩) λQ f=>by
   obtain⟨Z,J,m,r,s,e,q⟩:=f;unfold Be at e;obtain⟨⟨n,x⟩,i,e⟩:=Zz.mp e;cases e;refine⟨Z,J,n,x,s,i,λv d F e1 r1 f1=>?_⟩;show Q (.bl (decide (v=.non))) d;rw[uP r1];exact q _ d _ e1 (.bl _) Fp.nil
def kh{j pos'}(g:PV G X a ca):IC G X (.Compare a [.IsNot] [.Constant .none j pos'] pos) (eE ca) :=
 PT.weak (zi (Bw g)) λO H Q h=>BI h (λJ m r e=>by
  unfold eE at e;obtain⟨x,_,e⟩:=Zz.mp e;cases e;exact⟨_,rfl⟩) λQ f=>by
   obtain⟨Z,J,m,r,s,e,q⟩:=f;unfold eE at e;obtain⟨⟨n,x⟩,i,e⟩:=Zz.mp e;cases e;refine⟨Z,J,n,x,s,i,λv d F e1 r1 f1=>?_⟩;show Q (.bl (!decide (v=.non))) d;rw[uP r1];exact q _ d _ e1 (.bl _) Fp.nil
noncomputable def lH(i:Nat)(k e:Ex)(J:VS.Env):Option Out:=(e J).bind λv=>match J[i]? with
 |some (some (.ow (.dct 0 l)))=>(k J).bind λd=>if fL d.2/\GO v.2/\l.length<dY then some (.nx (J.set i (some (.ow (.dct 0 (dput l d.2 v.2)))))) else none
 |_=>none
def wZ(i:Nat){x:Str}(hr:GJ kr X.A)(hk:PV G X b ck)(he:PV G X e ce)(hN:X.N[i]?=some x)(hv:Ir X.env.scope x)(hd:K3 x)(p:K4 x)(ha:∀v,assign (.Subscript (.Name x p1) b pos') X.env v=(do
   let h ← holding [v] (eval (.Name x p1) X.env)
   let iv ← holding [v,h] (eval b X.env)
   standAt pos'
   holding [v,h,iv] (setItem h iv v)
   release [v,h,iv] []))(hs:swapsWithSole [.Subscript (.Name x p1) b pos'] e pos.line X.env=pure false)(hw:swappedStores [.Subscript (.Name x p1) b pos'] e X.env=pure none)(h1:(assignEach [.Subscript (.Name x p1) b pos'] X.env).map (·.2)=[assign (.Subscript (.Name x p1) b pos') X.env]):PSV G X (.Assign [.Subscript (.Name x p1) b pos'] e pos) (lH i ck ce) :=
 PS.weak (pB he (pI (dM hN hv hd p) hk (uH (jy hr)) ha) hs hw h1) λD O H hq=>by
  obtain⟨Z,J,out,s,e,k⟩:=hq;unfold lH at e;obtain⟨⟨mv,m⟩,ev,e⟩:=Zz.mp e;split at e
  ·rename_i l o;obtain⟨⟨mk,R⟩,JA,e⟩:=Zz.mp e;split at e
   ·rename_i hc;obtain⟨c1,c2,c3⟩:=hc;cases e;obtain⟨w,y,Q⟩:=s.rp _ _ o;have q:=s.nd i _ o;refine⟨Z,J,mv,m,s,ev,λxv H1 Fv L S fv=>⟨w,y,Z,J,mk,R,s.same L,JA,λkv d Fk F U fk=>?_⟩⟩;have n:aH H d:=L.trans F;have C:Rp G d xv m Fv:=S.same F;have eF:=C.GO c2;subst eF;obtain⟨a,ns,j,r,Fs,rfl,B,GR,hl,rfl,t⟩:=cO Q;rw[B]at q;obtain⟨kk,rfl,JR⟩:=c8 U c1;subst JR;have E:d a=some (.dK (ns.zip j)):=n a _ GR;have u:GQ (d a):=by rw[E];exact True.intro
    have nd:=Zf.mp q;obtain⟨MI,Ip,HF,Ic,q1,q2,q3,Y,f⟩:=p8 (kk:=kk) C hl (t.same n);have ln:(ns.zip j).length<sizeLine:=by
     have:((ns.map aB).zip r).length<16777216:=c3;rw[Ju,Zu]at this;rw[Ju];have:=t.len.1;have:(sizeLine:Nat)=16777216:=rfl;lia
    refine .inr ⟨a,_,rfl,si.k E ln,?_⟩;have g:Chg G H (.ref a) (Z i) (.dct 0 (dput ((ns.map aB).zip r) (aB kk) m)) (upd d a (.dK (putK (ns.zip j) kk xv))) (a :: Ic.flatten):=by
     rw[B,q1,q3];refine Chg.upd n Zx u (.dct aw q2 (Y.off u λz=>nd.1 (f.subset z))) ?_ ?_
     ·exact Zf.mpr ⟨λz=>nd.1 (f.subset z),nd.2.sublist f⟩
     ·intro bb hb;rcases Zo.mp hb with rfl | hb
      ·exact .inl Zx
      ·exact .inl (Zy _ (f.subset hb))
    obtain⟨P,M⟩:=s.mut o y g;exact k _ O _ P M
   ·cases e
  ·cases e
end
end VS
end
section
namespace DP
open PySem PySem.Spec PyProof.Rows
variable{prog:Program}{w:World}{A:Around}{E:GS}
def AH:typeLookup (.type "tuple") "keys" = pure none:=by rw[typeLookup_type,builtinLookup_eq_fast];kernel_rfl
def Bn{h:Heap}{g:Array GenState}{d:Drawn}{o:Nat}{os}{a:Addr}{i:Array Value}{k:Nat}{j:Array (Wm)}{u:Tok}{Q:GS}(l:h.get? a=some { cls:=.type "tuple",dict:=none,data:=.seq i k,slots:=j })(q:A.handled=none)(p:∀f b e,Heap.NewExcOf h f e "AttributeError" → E (.ref e) ⟨f,g,d,b,os⟩):wpAny (model prog w) A (getAttrBy (.ref a) (.str "keys" u) false) Q E ⟨h,g,d,o,os⟩:=by
 have m:∀b,(⟨h,g,d,b,os⟩:Shared).TypeIs (.ref a) "tuple" := λ_=>⟨_,l,rfl⟩
 have f1:=sub_AttributeError;have y:=X9.lookup;have x:=X9.bind (.ref a);have v:=am_tuple_getattr_none;unfold getAttrBy
 repeat (any_goals (first | assumption | exact m _ | ((with_reducible show wpAny _ _ (call (Value.builtin "tuple.__getattribute__") _ _) _ _ _);refine call_meets X9 (m _) am_entry_tuple_getattribute (F.args_tuple_getattribute_2 _ _) (meets_getattribute_miss_tuple a i k j "keys" _ AH (by decide +kernel)) ⟨l,q,λf b e n=>?_⟩) | wp_step))
 obtain⟨s,r,t⟩:=n.there;show wpAny _ _ (getattributeRaised _ _ _ _ _ _ _) _ _ _;unfold getattributeRaised
 repeat (any_goals (first | assumption | wp_step))
 exact p _ _ _ n.of
end DP
end
section
namespace DP
open PySem PySem.Spec PyProof.Rows L2
variable{prog:Program}{w:World}{A:Around}{E:GS}
def vN{h:Heap}{g:Array GenState}{d:Drawn}{l:Nat}{os}{a:Addr}{j:Array Value}{k:Nat}{m:Array (Wm)}{Q:Wm->Shared->Prop}(n:h.get? a=some { cls:=.type "tuple",dict:=none,data:=.seq j k,slots:=m })(r:A.handled=none)(o:∀b f e,Heap.NewExcOf h b e "AttributeError" → Q none ⟨b,g,d,f,os⟩):wpAny (model prog w) A (getAttr? (.ref a) "keys") Q E ⟨h,g,d,l,os⟩:=by
 have f1:=sub_AttributeError;unfold getAttr? getAttrBy?
 repeat (any_goals (first | assumption | (with_reducible refine Bn n (by assumption) λb f e i=>?_) | wp_step))
 obtain⟨⟨oc,q,s,t⟩,p,ge,ce,_,_⟩:=i.there;dsimp only at ce;subst ce
 repeat (any_goals (first | assumption | wp_step))
 exact o _ _ _ i
def nL:entryFor table "dict.update.loop" = some Builtin.«dict.update.loop» := entryFor_of_tree (by kernel_rfl)
def iq:plainId "dict.update.loop" = true:=by decide +kernel
section
variable{R:Result->Shared->Prop}{I:Addr}{fp wr:Xi}{G:Array GenState->Array GenState->Prop}{n:Nat}{P:Nat->Value->Prop}{St:Nat->Shared->Prop}
theorem loop(W:WalksS prog w A.in1 I fp wr G n P St)(d:Addr)(M:d∉fp)(J:Heap)(a:Nat->Key×Value)(hP:∀i v,P i v->∃p m t l,v=.ref p/\J.get? p=some { cls:=.type "tuple",dict:=none,data:=.seq #[l,(a i).2] m,slots:=t }/\(aS prog w).is (a i).1 l=true/\p∉d :: wr)(g:n<=sizeLine) :
  ∀(k i:Nat)(s:Shared),n-i=k->i<=n->St i s->(∀b o,b∉d :: wr->J.get? b=some o->s.heap.get? b=some o)->s.heap.DictOf (aS prog w) d (merged [] ((List.range i).map a)) →
   (∀f,Moved (d :: wr) G s f->f.heap.DictOf (aS prog w) d (merged [] ((List.range n).map a))->R (.ok (.ret .none)) f) →
   codeAny (model prog w) A (.builtin "dict.update.loop" ⟨[.ref d,.ref I,rawInt i,.none],[]⟩) R s:=by
 have N:d∉wr:=λh=>M (W.sub _ h);have q:∀b∈wr,b∈d :: wr:=λb g=>Zy _ g;intro k
 induction k with
 |zero =>
  intro i s Y Z H B hS C;have Ij:i=n:=by lia
  subst Ij;refine XT nL ?_;rw[Y6 iq _];show wpAny _ A.in1 (pyNext (.ref I)>>=_) _ _ s;refine Zn (W.done s _ _ H λf j=>?_);show wpAny _ A.in1 (Builtin.Dict.addKeywords d [] >>= λ_=>ret Value.none) _ _ f;refine Zn (ZZ ?_);exact ZZ (C f (j.mono q) (by
   obtain⟨o,D,F,y,rest⟩:=hS;exact⟨o,D,F,j.heap d _ N y,rest⟩))
 |succ k S =>
  intro i s Y Z H B hS C;have O:i<n:=by omega
  refine XT nL ?_;rw[Y6 iq _];show wpAny _ A.in1 (pyNext (.ref I)>>=_) _ _ s;refine Zn (W.item i s _ _ O H λv f Z0 Ki j=>?_);obtain⟨p,m,t,l,rfl,X,V2,L⟩:=hP i v Z0;have MR:f.heap.get? p=some { cls:=.type "tuple",dict:=none,data:=.seq #[l,(a i).2] m,slots:=t }:=j.heap p _ (λz=>L (q p z)) (B p _ L X);have Lk:f.heap.DictOf (aS prog w) d (merged [] ((List.range i).map a)):=by
   obtain⟨o,D,F,y,rest⟩:=hS;exact⟨o,D,F,j.heap d _ N y,rest⟩
  show wpAny _ A.in1 (holding [Value.ref p] _>>=_) _ _ f;refine Zn (Y7 ?_);have ty:f.TypeIs (.ref p) "tuple" := ⟨_,MR,rfl⟩
  refine Zn (thn (Q:=λr x=>r=[l,(a i).2]/\x=f) ?pair λr x U=>?rest)
  case pair =>
   refine X0 ?_;unfold Builtin.Dict.pairItems
   repeat (any_goals (first | assumption | wp_step))
   exact⟨rfl,rfl⟩
  case rest =>
   obtain⟨rfl,rfl⟩:=U;dsimp only;refine Y7 ?_;refine wpAny_dictSet_pairs V2 Lk (λh' dd u=>?_) (by have:=merged_length_le (K:=Key) [] ((List.range i).map a);simp at this;lia);have e1:((i:Int)+1)=((i+1:Nat):Int):=by lia
   rw[e1];have Ka:h'.DictOf (aS prog w) d (merged [] ((List.range (i+1)).map a)):=by
    rw[List.range_succ,Jv,show merged ([]:List (Key×Value)) ((List.range i).map a++[i].map a)=stored (merged [] ((List.range i).map a)) (a i).1 (a i).2 by unfold merged;rw[List.foldl_append];rfl];exact dd
   refine ZZ ⟨Xb iq _,S (i+1) _ (by omega) O (W.frame _ x _ _ Ki (XH _) λb g o e=>?_) (λb o g e=>?_) Ka λNR Rx RU=>?_⟩
   ·rw[u.2 b (λh:b=d=>M (by rw[← h];exact g))];exact e
   ·rw[u.2 b (λh:b=d=>g (by rw[h];exact Zx))];exact j.heap b _ (λz=>g (q b z)) (B b o g e)
   ·refine C NR (Moved.trans W.gtrans ((j.mono q).then_heap (XH _) λb o g e=>?_) Rx) RU;rw[u.2 b (λh:b=d=>g (by rw[h];exact Zx))];exact e
end
end DP
end
section
namespace DP
open PySem PySem.Spec PyProof.Rows L2
variable{prog:Program}{w:World}{A:Around}{E:GS}{s:Shared}
def nz:mroOf (.type "dict")=pure [.type "dict",.type "object"]:=by rw[mroOf_type];kernel_rfl
def lX:typeLookup (.type "dict") "__new__" = pure (some (.builtin "dict.__new__")):=by rw[typeLookup_type,builtinLookup_eq_fast];kernel_rfl
def rB:TypeCalled "dict" "dict.__new__" "dict.__init__" :=
 ⟨by decide +kernel,by decide +kernel,⟨_,_,nz⟩,madeBy_type nz lX (by decide +kernel),by decide +kernel,by rw[isSubtype_type];kernel_rfl,F.slot_dict_init⟩
def lW(a:Value):checkTypeCall "dict" ⟨[a],[]⟩=pure ():=by kernel_rfl
def nh(a:Value):checkBuiltinCall "dict.__new__" ⟨[.type "dict",a],[]⟩=pure ():=by kernel_rfl
def mQ:entryFor table "dict.__new__" = some Builtin.«dict.__new__» := entryFor_of_tree (by kernel_rfl)
def i8:plainId "dict.__new__" = true:=by decide +kernel
def n8:isSubtype (.type "dict") (.type "dict")=pure true:=by rw[isSubtype_type];kernel_rfl
def nV(a:Value){b:GS}(h:b (.ref s.heap.objs.size) { s with heap:=s.heap.push { cls:=.type "dict",data:=.dict #[] } }) :
  codeAny (model prog w) A (.call (.builtin "dict.__new__") ⟨[.type "dict",a],[]⟩) (wants b E) s:=by
 refine codeAny_of_tree (Zn (m:=checkBuiltinCall "dict.__new__" ⟨[.type "dict",a],[]⟩) (wpAny_of_eq (nh a) (ZZ ⟨Xb i8 _,XT mQ ?_⟩)));rw[Y6 i8];have own:=n8;have mro:=nz;cases s;unfold Builtin.«dict.__new__»
 wp_walk
 exact h
def wb{a:Addr}{j:Array Value}{B:Nat}{UY:Array (Wm)}{kv:Nat->Key×Value}{Q:GS}(D:A.handled=none)(C:s.heap.get? a=some { cls:=.type "tuple",dict:=none,data:=.seq j B,slots:=UY })(O:j.size<=sizeLine)(S:∀(i:Nat)(v:Value),j[i]?=some v->∃p m u n,v=.ref p/\s.heap.get? p=some { cls:=.type "tuple",dict:=none,data:=.seq #[n,(kv i).2] m,slots:=u }/\(aS prog w).is (kv i).1 n=true)(h:∀(l:Heap)(y:Nat),l.DictOf (aS prog w) s.heap.objs.size (merged [] ((List.range j.size).map kv))->(∀b o,s.heap.get? b=some o->l.get? b=some o)->Q (.ref s.heap.objs.size) { s with heap:=l,toks:=y }) :
  wpAny (model prog w) A (call (.type "dict") [.ref a]) Q E s:=by
 refine callType_codes (Q₁:=λobj z=>obj=.ref s.heap.objs.size/\z={ s with heap:=s.heap.push { cls:=.type "dict",data:=.dict #[] } }) rB (lW _) F.entry_dict_init (nV _ ⟨rfl,rfl⟩) λobj z R=>?_;obtain⟨rfl,rfl⟩:=R;have ty:Shared.TypeIs { s with heap:=s.heap.push { cls:=.type "dict",data:=.dict #[] } } (.ref s.heap.objs.size) "dict" := ⟨_,ZQ _ rfl,rfl⟩
 refine⟨ty,F.args_dict_init_2 _ _,?_⟩;obtain⟨f,g,d,y,os⟩:=s;have J:=Zi { cls:=.type "dict",data:=.dict #[] } C;unfold Builtin.«dict.__init__» Builtin.Dict.updateCommon Builtin.Dict.updateFrom;generalize eP:pyIter=itr;generalize eG:getAttr?=ga
 repeat (any_goals (first | assumption | wp_step))
 subst eG;dsimp only at *;refine vN J (by simp[D]) λr M e ne=>?_;simp only[Option.isNone_none,if_true];refine Zn (wpAny_rule ?_);subst eP;have at2:=ne.keeps _ _ J;have dat:=ne.keeps f.objs.size { cls:=.type "dict",data:=.dict #[] } (ZQ _ rfl);have t:=ZW dat;have x:∀{b:Addr}{o:Obj},f.get? b=some o->b<f.objs.size:=λe=>ZW e;have H:∀b o,f.get? b=some o->r.get? b=some o:=λb o e=>ne.keeps _ _ (Zi _ e);have tup:r.IsTuple a j:=⟨_,at2,rfl,B,rfl⟩
 refine Zn (wpAny_pyIter_tuple tup (ZZ ⟨Xb iq _,?_⟩));have alt:=x C;have D0:(r.push { cls:=.type "tuple_iterator",data:=.fields #[.ref a,.int 0 0] }).DictOf (aS prog w) f.objs.size (merged [] ((List.range 0).map kv)):=by
  obtain⟨o,Z,ep,U,rest⟩:=(Heap.DictOf.new (knd:=aS prog w) f)
  exact⟨o,Z,ep,Zi _ (ne.keeps _ _ U),rest⟩
 refine loop (A:=A.in1) ((Walks.tuple (by simp[D]) r.objs.size a (Zb (Wi alt t)) j).toS) f.objs.size (by simp only[Zo,WW,or_false,not_or];exact⟨Zb t,Wj alt⟩) f kv (λi v P=>?_) O j.size 0 _ (by lia) (Yv _) ?_ (λb o hb e=>Zi _ (H b o e)) D0 λN mv dd=>?_
 ·obtain⟨p,m,u,n,rfl,G,X⟩:=S i v P;have:=x G;exact⟨p,m,u,n,rfl,G,X,by simp only[Zo,WW,or_false,not_or];exact⟨Zb this,Zb (Wi this t)⟩⟩
 ·exact⟨⟨_,ZQ _ rfl,rfl,rfl⟩,tup.push _⟩
 ·obtain⟨l,Y,d',Lw,NX⟩:=N;have e1:Y=g:=mv.gens;have e2:d'=d:=mv.drawn;have e3:NX=os:=mv.os;subst e1 e2 e3;refine⟨rfl,h l Lw dd λb o e=>mv.heap b o (λL=>?_) (Zi _ (H b o e))⟩;have:=x e;simp only[Zo,WW,or_false]at L;rcases L with q | q
  ·exact Zb this q
  ·exact Zb (Wi this t) q
end DP
end
section
namespace L2
open PySem PySem.Spec PyProof.Rows
section
variable{X:Cx}
noncomputable abbrev Kz:=Addr×Key×V
def Bt{a:Yy}{O:St}{H:Hp}{s:Shared}(I:Inv X a O H s){q:Kz}(h:H q.1=some (.tup [kV q.2.1,q.2.2])):∃b m i d,RelV q.2.2 b/\s.heap.get? q.1=some { cls:=.type "tuple",dict:=none,data:=.seq #[d,b] m,slots:=i }/\(aS X.prog X.w).is q.2.1 d=true:=by
 obtain⟨_,r,j,nd,⟨oc,o,p,l⟩,g,f,n,e⟩:=(show br X.prog X.w H s.heap q.1 (.tup [kV q.2.1,q.2.2]) from I.GL _ _ h)
 have hd:=nd _ g;dsimp only at f e hd;subst f e hd;obtain⟨d,b,rfl,r1,r2⟩:=vals2 j;exact⟨b,n,l,d,r2,g,kG r1⟩
theorem qX{a:Yy}{O:St}{H:Hp}{s:Shared}(I:Inv X a O H s):∀(ps:List Kz),(∀q∈ps,H q.1=some (.tup [kV q.2.1,q.2.2])) →
  ∃f:List (Key×Value),Paired (λ(q:Kz) (d:Key×Value)=>q.2.1=d.1/\RelV q.2.2 d.2/\∃m e b,s.heap.get? q.1=some { cls:=.type "tuple",dict:=none,data:=.seq #[b,d.2] m,slots:=e }/\(aS X.prog X.w).is d.1 b=true) ps f
 |[],_=>⟨[],.nil⟩
 |q :: ps,h=>by
  obtain⟨i,m,e,b,r,g,k⟩:=Bt I (h q Zx);obtain⟨f,p⟩:=qX I ps λx j=>h x (Zy _ j);exact⟨(q.2.1,i) :: f,.cons ⟨rfl,r,m,e,b,g,k⟩ p⟩
theorem oQ{R:Kz->Key×Value->Prop}(e:∀q d,R q d->q.2.1=d.1/\RelV q.2.2 d.2):∀{ps:List Kz}{f:List (Key×Value)},Paired R ps f->∀{a:List (Key×V)}{b:List (Key×Value)},KV a b->KV (ps.foldl (λacc q=>putK acc q.2.1 q.2.2) a) (merged b f)
 |_,_,.nil,_,_,r=>r
 |_,_,.cons (a:=q) (b:=d) h t,a,b,r=>by
  obtain⟨e1,e2⟩:=e _ _ h;have:=oQ e t (r.put d.1 e2);simp only[YL,merged];rw[e1];exact this
theorem rA:∀(ps:List Kz)(a:List (Key×V)),(ps.foldl (λacc q=>putK acc q.2.1 q.2.2) a).length<=a.length+ps.length
 |[],a=>Zh _
 |q :: ps,a=>by
  have d:=rA ps (putK a q.2.1 q.2.2);have b:=ft a q.2.1 q.2.2;simp only[YL,Zk];lia
theorem Paired.at_{α β:Type}{R:α->β->Prop}:∀{l:List α}{m:List β},Paired R l m->∀(i:Nat){a:α},l[i]?=some a->∃b,m[i]?=some b/\R a b
 |_,_,.nil,i,a,h=>by simp at h
 |_,_,.cons r t,0,a,h=>by simp at h;subst h;exact⟨_,rfl,r⟩
 |_,_,.cons r t,i+1,a,h=>by simpa using Paired.at_ t i (by simpa using h)
def t4(G:X.calm=true):dI X (.type "dict") (λf H Q=>∃(p:Addr)(ps:List Kz),f=[.ref p]/\H p=some (.tup (ps.map λq=>V.ref q.1))/\(∀q∈ps,H q.1=some (.tup [kV q.2.1,q.2.2])) ∧
  ∀l,H l=none->Q (.ref l) (upd H l (.dK (ps.foldl (λacc q=>putK acc q.2.1 q.2.2) [])))):=by
 intro pins s O H f P Q I B h;obtain⟨p,ps,rfl,F,E,q⟩:=h;obtain⟨u,rfl,C⟩:=B.one;cases C;obtain⟨o,y,j,nd,⟨oc,R,S6,Kq⟩,g,t,n,r⟩:=(show br X.prog X.w H s.heap p (.tup (ps.map λq=>V.ref q.1)) from I.GL _ _ F)
 have hd:=nd _ g;dsimp only at t r hd;subst t r hd;obtain⟨d,pr⟩:=qX I ps E;have U:y.length=ps.length:=by have:=j.length;simpa using this.symm
 have S:d.length=ps.length:=pr.length.symm;rw[Zu]at o;have N:(List.range y.toArray.size).map (λi=>(d[i]?).getD (.inl 0,.none))=d:=by
  apply List.ext_getElem?;intro i;rw[ZY];by_cases b:i<d.length
  ·rw[List.getElem?_range (by simp;lia),Zt b];simp[b]
  ·rw[Kk (by simp;lia),Kk (by exact ZE b)];rfl
 refine DP.wb (kv:=λi=>(d[i]?).getD (.inl 0,.none)) (I.ok.hd G) g (by simp;lia) (λi v e=>?_) λY z x kp=>?_
 ·rw[List.getElem?_toArray]at e;have b:i<ps.length:=by have:=(Zg.mp e).1;lia
  obtain⟨w,e1,e2⟩:=Paired.at_ j i (a:=V.ref ps[i].1) (by rw[ZY,Zt b];rfl);rw[e]at e1;cases e1;obtain⟨kv,M,Z,_,m,A,D,L,J⟩:=Paired.at_ pr i (Zt b);rw[M];exact⟨ps[i].1,m,A,D,e2,L,J⟩
 ·rw[N]at x;have rel:=oQ (λ_ _ h=>⟨h.1,h.2.1⟩) pr (.nil:KV [] []);have ln:=rA ps [];exact⟨.ref s.heap.objs.size,_,I.laid (t':=z) kp (Zh _) (m8 (by simp at ln;exact ZI ln o) (beq_eq_false_iff_ne.mpr (Yq (Zb I.big))) rel x),rfl,q _ (I.GL.fresh (Zh _))⟩
end
end L2
end
section
namespace VS
open PySem PySem.Spec PyProof.Rows L2
noncomputable def pf:W8->Option (List (T×T))
 |[]=>some []
 |.tup [k,v] :: r=>if fL k/\GO v then (pf r).map ((k,v) :: ·) else none
 |_=>none
noncomputable def kW:W6->W7
 |[(_,.tup l)]=>(pf l).map λps=>(.fr,.dct 0 (ps.foldl (λd q=>dput d q.1 q.2) []))
 |_=>none
section
variable{G:Gx}{X:Cx}{e:Expr}{cs:Hf}{p pos:Pos}
def Bs{t:T}{l:W8}{d:List (T×T)}(h:pf (t :: l)=some d):∃k v a,t=.tup [k,v]/\fL k=true/\GO v=true/\pf l=some a/\d=(k,v) :: a:=by
 unfold pf at h;split at h
 ·rename_i b;cases b
 ·rename_i k v r b;cases b;split at h
  ·rename_i c;obtain⟨a,e1,e2⟩:=Zw.mp h;exact⟨k,v,a,rfl,c.1,c.2,e1,e2.symm⟩
  ·cases h
 ·cases h
theorem qM{H:Hp}:∀{ts:W8}{f:List V}{z:Yd}{a:List (T×T)},RpL G H f ts z->pf ts=some a →
  ∃ps:List Kz,f=ps.map (λq=>V.ref q.1)/\(∀q∈ps,H q.1=some (.tup [kV q.2.1,q.2.2]))/\Paired (λ(q:Kz) (x:T×T)=>x.1=aB q.2.1/\Rp G H q.2.2 x.2 []) ps a
 |[],_,_,a,r,h=>by
  cases r;cases (show some ([]:List (T×T))=some a from h);exact⟨[],rfl,λq n=>by simp at n,.nil⟩
 |t :: ts,_,_,a,r,h=>by
  obtain⟨k,v,j,rfl,o,m,s,rfl⟩:=Bs h;cases r with
  |cons r1 r2 =>
   obtain⟨ps,e1,e2,y⟩:=qM r2 s;obtain⟨b,vs,Fs,rfl,hb,q⟩:=Rp.Je r1;cases q with
   |cons i q =>
    cases q with
    |cons g q =>
     cases q;obtain⟨l,rfl,u⟩:=c8 i o;have w:=g.GO m;subst w;refine⟨(b,l,_) :: ps,by rw[e1];rfl,λx d=>?_,.cons ⟨u,g⟩ y⟩;rcases Zo.mp d with rfl | d
     ·exact hb
     ·exact e2 x d
theorem qy{H:Hp}:∀{ps:List Kz}{n:List (T×T)},Paired (λ(q:Kz) (x:T×T)=>x.1=aB q.2.1/\Rp G H q.2.2 x.2 []) ps n->∀{ns:List Key}{vs:List V}{ts:W8}{Fs:Yd},ns.length=vs.length->RpL G H vs ts Fs->Fs.flatten=[] →
  ∃(l:List Key)(f:List V)(m:W8)(g:Yd),ps.foldl (λacc q=>putK acc q.2.1 q.2.2) (ns.zip vs)=l.zip f/\n.foldl (λd q=>dput d q.1 q.2) ((ns.map aB).zip ts)=(l.map aB).zip m/\l.length=f.length/\RpL G H f m g/\g.flatten=[]
 |_,_,.nil,ns,vs,ts,Fs,i,r,j=>⟨ns,vs,ts,Fs,rfl,rfl,i,r,j⟩
 |_,_,.cons (a:=q) (b:=x) h t,ns,vs,ts,Fs,i,r,j=>by
  obtain⟨M,f,m,g,z,y,w,v,o⟩:=p8 (kk:=q.2.1) h.2 i r;rw[j]at o;have J:g.flatten=[]:=List.sublist_nil.mp o;obtain⟨A,s,u,L,F,E,D,C,B⟩:=qy t y v J;refine⟨A,s,u,L,?_,?_,D,C,B⟩
  ·rw[YL,z];exact F
  ·rw[YL,h.1,w];exact E
def yw:fC G (λj H Q=>∃(p:Addr)(ps:List Kz),j=[.ref p]/\H p=some (.tup (ps.map λq=>V.ref q.1))/\(∀q∈ps,H q.1=some (.tup [kV q.2.1,q.2.2])) ∧
  ∀l,H l=none->Q (.ref l) (upd H l (.dK (ps.foldl (λacc q=>putK acc q.2.1 q.2.2) [])))) kW:=by
 intro Z J E H l vs Fs m t Q A e k;unfold kW at e;split at e
 ·rename_i D ts;obtain⟨n,e1,e2⟩:=Zw.mp e;cases e2;obtain⟨v,F,rfl,rfl,r⟩:=(show RpL G H vs [.tup ts] Fs from A.rp).one;obtain⟨b,C,L,rfl,hb,q⟩:=Rp.Je r;obtain⟨ps,rfl,y,pr⟩:=qM q e1;refine⟨b,ps,rfl,hb,y,λl i=>?_⟩;obtain⟨ns,g,B,z,x,w,u,s,o⟩:=qy pr (ns:=[]) (vs:=[]) (ts:=[]) (Fs:=[]) rfl .nil rfl;have f:ps.foldl (λacc q=>putK acc q.2.1 q.2.2) []=ns.zip g:=x;have a:n.foldl (λd q=>dput d q.1 q.2) []=(ns.map aB).zip B:=w;rw[f];have h:aH H (upd H l (.dK (ns.zip g))):=cK i;refine k _ _ (l :: z.flatten) h (by rw[a];exact .dct aw u (s.same h)) ?_;rw[o];exact Fp.new (A.same.free i) (by simp) Fp.nil
 ·cases e
def uK:bootBuiltins ("dict" : Str)=some (.type "dict"):=by decide +kernel
def Ab(a:X.mg "dict" = none)(f:HP G X [e] cs)(b:Gl X "dict" := by rfl)(d:X.calm=true:=by rfl)(he:K1 e [] X:=by rfl):PV G X (.Call (.Name "dict" p) [e] [] pos) (eN kW cs) :=
 ji (t4 d) yw b a uK f (he:=he) (hpl:=rfl)
end
end VS
end
section
namespace L2
open PySem PySem.Spec PyProof.Rows
section
variable{X:Cx}{pins:Yy}{O:St}{H:Hp}{s:Shared}
def Inv.NJ{d:Addr}{o:Obj}{u:HO}(I:Inv X pins O H s)(e:H d=some (.frz o u))(t:∀o u,X.H₀ d≠some (.frz o u)):Inv X pins O (upd H d u) s:=by
 have nn:∀b,H b=none->b≠d:=λb n z=>by rw[z,e]at n;cases n
 have up:∀{b:Addr},H b=none->upd H d u b=none:=λ{b} n=>by rw[ay (nn b n)];exact n
 have r:∀a b,H b=some (.own a)->upd H d u b=some (.own a):=λa b q=>by rw[ay λz=>by rw[z,e]at q;cases q];exact q
 have i:∀b f,H b=some (.tup f)->upd H d u b=some (.tup f):=λb f q=>by rw[ay λz=>by rw[z,e]at q;cases q];exact q
 refine⟨I.ok,I.os,I.bare,⟨I.base.keep,I.base.slot,λb o q n v=>up (I.base.free b o q n v),I.base.there,λb f q=>i b f (I.base.IK b f q),λb l j q=>?_,λb ps q=>?_⟩,I.loc,I.cell,up I.free,λx c q=>up (I.Hz x c q),λp y=>?_,λb D q=>?_,I.len⟩
 ·rw[ay (show b≠d from λz=>t l j (by rw[← z];exact q))];exact I.base.Il b l j q
 ·obtain⟨m,h⟩:=I.base.IL b ps q;refine⟨m,?_⟩;rw[ay λz=>by rw[z,e]at h;cases h];exact h
 ·obtain⟨C,B,A⟩:=I.pin p y;exact⟨C,up B,A⟩
 ·by_cases hb:b=d
  ·subst hb;rw[aw]at q;cases q;exact br.Jg (h':=s.heap) (show br X.prog X.w H s.heap b u from(I.GL b _ e).2) (λ_ _ _ g=>g) (λc=>r b c) i
  ·rw[ay hb]at q;exact br.Jg (h':=s.heap) (I.GL b _ q) (λ_ _ _ g=>g) (λc=>r b c) i
def qc{d:Addr}{a:List (Key×V)}{o:Obj}(I:Inv X pins O H s)(e:H d=some (.dK a))(g:s.heap.get? d=some o):Inv X pins O (upd H d (.frz o (.dK a))) s :=
 kc (t':=s.toks) I (by rw[e];exact True.intro) ⟨rfl,λ_ _=>rfl⟩ ⟨o,g⟩ ⟨g,I.GL d _ e⟩
end
noncomputable def P9(d:Addr)(o:Obj)(a:List (Key×V)):It :=
 ⟨λi H=>H d=some (.frz o (.dK a))/\i<a.length,λi H x b=>b=H/\∃p,a[i]?=some p/\x=kV p.1,λi H=>H d=some (.frz o (.dK a))/\a.length<=i⟩
def AK{k:Key}{v:Value}(h:lP k v=true):RelV (kV k) v:=by
 rcases bI h with⟨i,t,rfl,rfl⟩ | ⟨x,t,rfl,rfl⟩
 ·exact⟨t,rfl⟩
 ·exact⟨t,rfl⟩
def oC{P:Program}{w:World}{a:List DictEntry}{m:List (Key×Value)}(r:Pairs (aS P w) a m){i:Nat}{e:DictEntry}(h:a[i]?=some e):∃q,m[i]?=some q/\lP q.1 e.key=true:=by
 induction r generalizing i with
 |nil=>simp at h
 |@cons l b a j f g _ d =>
  cases i with
  |zero =>
   simp at h;subst h;exact⟨b,rfl,f⟩
  |succ i=>simpa using d (by simpa using h)
def CZ{l:List (Key×V)}{m:List (Key×Value)}(r:KV l m){i:Nat}{q:Key×Value}(h:m[i]?=some q):∃p,l[i]?=some p/\p.1=q.1:=by
 induction r generalizing i with
 |nil=>simp at h
 |@cons a f ps e d t b =>
  cases i with
  |zero=>simp at h;subst h;exact⟨a,rfl,d.1⟩
  |succ i=>simpa using b (by simpa using h)
section
variable{X:Cx}{tg:Expr}{pos:Pos}
def CY{P:Program}{w:World}{K:Y2}(d f:Addr){Q:List (Key×V)}{m:Array DictEntry}{r:Nat}{J:List (Key×Value)}(a:KV Q J)(u:Pairs (aS P w) m.toList J) :
  Turn P w K tg (P9 d (ST.dO m r) Q) [f] f (λi h=>h.get? f=some (ST.kO d i m.size r)) where
 mem:=by simp
 obj:=λi h st b hb=>by
  rw[Zj.mp hb];exact⟨_,st,λv z=>by cases z⟩
 keep:=λi h l st k=>k f (by simp) _ st
 item:=by
  intro X y hw A x i pins s O H E I n st hg;subst y hw A;obtain⟨G,f1,f2,D,C,B⟩:=n f (by simp);refine ST.qG (I.ok.hd x) st (show s.heap.get? d=some (ST.dO m r) from(I.GL d _ hg.1).1) (λe j l L g=>?_) λM=>?_
  ·have Y:Inv X pins O H { s with heap:=l }:=I.turned (t':=s.toks) (λb o hb e=>(L.2 b hb).trans e) G f1 D C B;rw[← YN]at j;obtain⟨q,t,N⟩:=oC u j;obtain⟨p,R,hb⟩:=CZ a t;exact⟨_,rfl,q9 (s:={ s with heap:=l }) g rfl rfl rfl ⟨kV p.1,H,Y,by rw[hb];exact AK N,⟨rfl,p,R,rfl⟩,g,λb hb=>(n b hb).1⟩⟩
  ·exfalso;rw[← YN,YW,u.length,← Xq a]at M;exact absurd hg.2 (by lia)
 done:=by
  intro X y hw A x i pins s O H E I n st hg;subst y hw A;obtain⟨G,f1,f2,D,C,B⟩:=n f (by simp);refine ST.qG (I.ok.hd x) st (show s.heap.get? d=some (ST.dO m r) from(I.GL d _ hg.1).1) (λe j l L g=>?_) λM l kp=>⟨rfl,I.turned (t':=s.toks) (λb o hb e=>kp b o hb e) G f1 D C B⟩
  exfalso;rw[← YN]at j;obtain⟨q,t,N⟩:=oC u j;have:=(Zg.mp t).1;have U:=hg.2;rw[Xq a]at U;lia
 self:=λ_ _ _ _ _ st S=>wpAny_pyIter_slot ⟨_,st,rfl⟩ F.slot_dict_keyiterator_iter (XC F.slot_dict_keyiterator_iter ⟨_,st,rfl⟩ F.entry_dict_keyiterator_iter (show wpAny _ _ (ret (.ref f)) _ _ _ from ZZ ⟨_,rfl, "dict_keyiterator",_,⟨_,st,rfl⟩,Xr.lookup,S⟩) (F.args_dict_keyiterator_iter_1 _))
noncomputable def VB(e:TE):TI:=λO H R=>e O H λx b=>∃d a,x=.ref d/\b d=some (.dK a)/\∀o,R (P9 d o a) (upd b d (.frz o (.dK a)))
def BF{l:Expr}{f:TE}(j:PE X l f):PI X tg l (VB f):=by
 intro pins s O H R I h;refine thn (j pins s O H _ I h) λv s1 ⟨x,B,a,r1,i⟩=>?_;obtain⟨d,u,ex,e,q⟩:=i;subst ex;cases r1;obtain⟨z,y,r,rel,o,w,A,g,ex,hd,_,m,t⟩:=oq a.GL e;have n:=yP ex hd;subst n;refine ST.yA y g ?_;refine⟨s1.heap.objs.size,[s1.heap.objs.size],_,_,_,rfl,(qc a e g).kept (t':=s1.toks) λb o e=>Zi _ e,CY d _ rel m,ZQ _ rfl,λb hb=>?_,q _⟩;have p:b=s1.heap.objs.size:=by simpa using hb
 subst p;exact(qc a e g).La (Zh _) ((qc a e g).GL.fresh (Zh _))
end
end L2
namespace VS
open PySem PySem.Spec PyProof.Rows L2
noncomputable def Nh:T->Bool
 |.non=>true
 |.bl _=>true
 |.int _=>true
 |.str _=>true
 |_=>false
def uV{G:Gx}{H H':Hp}{v:V}{t:T}{F:Xi}(h:Nh t=true)(r:Rp G H v t F):F=[]/\Rp G H' v t []:=by
 cases r with
 |non=>exact⟨rfl,.non⟩
 |bl b=>exact⟨rfl,.bl b⟩
 |int i=>exact⟨rfl,.int i⟩
 |str s ok=>exact⟨rfl,.str s ok⟩
 |_=>cases h
end VS
end
section
namespace L2
def DR{α:Type}{n:Nat}{b:List α}(d:b.length=n+1):∃a t,b=a :: t/\t.length=n:=by
 obtain⟨a,t,e⟩:=List.exists_cons_of_length_eq_add_one d;subst e;exact⟨a,t,rfl,Nat.succ.inj d⟩
def lU{α:Type}{b:List α}(d:b.length=1):∃a,b=[a]:=XY.mp d
def ed{α:Type}{d:List α}(f:d.length=2):∃a b,d=[a,b]:=by
 obtain⟨a,t,rfl,e⟩:=DR f;obtain⟨b,rfl⟩:=lU e;exact⟨a,b,rfl⟩
def wF{α:Type}{d:List α}(f:d.length=3):∃a b c,d=[a,b,c]:=by
 obtain⟨a,t,rfl,e⟩:=DR f;obtain⟨b,c,rfl⟩:=ed e;exact⟨a,b,c,rfl⟩
def Gu{α:Type}{e:List α}(g:e.length=4):∃a b c d,e=[a,b,c,d]:=by
 obtain⟨a,t,rfl,f⟩:=DR g;obtain⟨b,c,d,rfl⟩:=wF f;exact⟨a,b,c,d,rfl⟩
end L2
end
section
namespace VS
open PySem PySem.Spec PyProof.Rows L2
section
variable{G:Gx}{X:Cx}{e:Expr}{cs:Hf}{p pos p2 kp:Pos}{kr:Nat}{jj:Nat}
def wa{α β:Type}{F:α->β->Prop}{l:List α}{m:List β}(r:Paired F l m):∀(i:Nat)(a:α),l[i]?=some a->∃b,m[i]?=some b/\F a b:=by
 induction r with
 |nil=>intro i a h;simp at h
 |@cons x y g f h t d =>
  intro i a e;cases i with
  |zero=>simp at e;subst e;exact⟨y,rfl,h⟩
  |succ i=>simpa using d i a (by simpa using e)
end
end VS
end
section
namespace VS
open PySem PySem.Spec PyProof.Rows L2
inductive Res where | ok (v:Val) | ex (x:Str)
inductive SD where | ok (o:Out) | ex (x:Str) (J:VS.Env)
noncomputable abbrev ExX:=VS.Env->Option Res
noncomputable abbrev SxX:=VS.Env->Option SD
end VS
end
section
namespace TS
open PySem PySem.Spec PyProof.Rows
variable{prog:Program}{w:World}{A:Around}{E:GS}{s:Shared}
def vU{f:Xg}(o:∀v∈f,∃x t,v=Value.str x t){d:Array Keyed}(g:d.Perm (pairsOf f))(p:SortedToK strKind d (pairsOf f).size):((d.map (·.2)).toList.map strOf).Pairwise (λa b=>¬b.cps.toList<a.cps.toList):=by
 obtain⟨n,m⟩:=oB g;rw[Wh,List.pairwise_iff_getElem];intro i j r l u;have key:∀i (h:i<(d.map (·.2)).toList.length),KK strKind d i=(strOf (d.map (·.2)).toList[i]).cps.toList:=λi h=>by
  have e:d[i]?=some ((d.map (·.2)).toList[i],(d.map (·.2)).toList[i]):=by
   rw[← YN,← m,ZY,Zt h];rfl
  obtain⟨x,t,ex⟩:=o _ (n.mem_iff.mp (ZG h));unfold KK;rw[e];rw[ex];rfl
 have q:=p i j (X7 u) (by rw[← g.size_eq];simpa using l);rw[key i r,key j l]at q;exact of_decide_eq_false q
def pP{x:Value}{Q:GS}(z:∀(q:Around)(B:GS),q.handled=A.handled->wpAny (model prog w) q (collect x) (λf s1=>(∀v∈f,∃x t,v=Value.str x t)/\f.length<64/\∀(out:Xg)(i:Heap)(e:Nat),out.Perm f->(out.map strOf).Pairwise (λa b=>¬b.cps.toList<a.cps.toList)->(∀b o,s1.heap.get? b=some o->i.get? b=some o)->i.get? s1.heap.objs.size=some (seqObj "list" out.toArray e)->Q (.ref s1.heap.objs.size) { s1 with heap:=i }) B s) :
  wpAny (model prog w) A (call (.builtin "sorted") [x]) Q E s:=by
 refine Calls.call_function_entry kind_sorted plain_sorted entry_sorted (args_sorted1 _) (show wpAny _ _ (Builtin.«sorted» _) _ _ _ from ?_);unfold Builtin.«sorted»;refine Zn (m:=checkCount "sorted" 1 1 _) (ZZ (Zn (YJ (z A.in1 (λ_ _=>False) rfl) ?_ λ_ _ e=>e.elim)));rintro d s1 ⟨g,y,h⟩;refine Zn (wpAny_newList ?_ (by show d.length<=sizeLine;rw[XR];omega));have j:(s1.heap.push (seqObj "list" d.toArray 0)).get? s1.heap.objs.size=some (seqObj "list" d.toArray 0):=ZQ _ rfl;show wpAny _ _ _ _ _ { s1 with heap:=s1.heap.push (seqObj "list" d.toArray 0) };refine Zn (Y7 (XC slot_list_sort ⟨_,j,rfl⟩ entry_list_sort (list_sort_treeK strKind_oneLt j (strsAre_map _ g).keysOf (λD C rest e=>keyKind_strs (by rw[← e];exact strsAre_map _ g)) y λl p u=>⟨_,rfl,?_⟩) (args_list_sort _)));obtain⟨e,r⟩:=sortedHeap_at (out:=(arrOf l).map (·.2)) j;exact ZZ ⟨_,rfl,h ((arrOf l).map (·.2)).toList _ e (oB p).1 (vU g p u) (λb o n=>by
  have hb:=ZW n;show (sortedHeap (s1.heap.push (seqObj "list" d.toArray 0)) s1.heap.objs.size d ((arrOf l).map (·.2))).get? b=some o;rw[sortedHeap_old (Zb hb) (by rw[size_push'];exact XA hb),Heap.get?_push_ne _ _ _ (Zb hb)];exact n) r⟩
end TS
namespace L2
open PySem PySem.Spec PyProof.Rows TS
section
variable{X:Cx}
def jL(U:X.calm=true):dI X (.builtin "sorted") (λB H Q=>∃p,∃(d:List Str)(j:List V),B=[.ref p]/\d.length<64/\d.length=j.length/\H p=some (.dK ((d.map Sum.inr).zip j)) ∧
  ∀(l:Addr)(A:List Str),H l=none->A.Perm d->A.Pairwise (λa b=>¬b.cps.toList<a.cps.toList)->Q (.ref l) (upd H l (.lst (A.map V.str)))):=by
 intro pins s O H B us Q I J h;obtain⟨p,d,j,rfl,T4,R,P,q⟩:=h;obtain⟨u,rfl,L⟩:=J.one;cases L;obtain⟨N,hS,o,rel,z⟩:=oq I.GL P;obtain⟨ep,z⟩:=z.dictAt;have V4:o.length=d.length:=by
  have:=rel.length;rw[Ju,Zu]at this;lia
 have V1:∀i:Nat,(o[i]?).map (λx=>x.1)=(d[i]?).map (Sum.inr:Str->Key):=λi=>by
  have D:((o.map (·.1)))[i]?=(d.map (Sum.inr:Str->Key))[i]?:=by
   rw[← rel.keys];rw[X4 (by rw[Zu];exact X8 R)]
  rw[ZY,ZY]at D;exact D
 refine TS.pP λA' E' Y=>PySem.W.kdu_collect (PySem.W.kdl_dict hS) (Y.trans (I.ok.hd U)) z (by rw[Ju,Zu]at N;lia) λE C acc kp F=>?_;have G:Inv X pins O H { s with heap:=E,toks:=C }:=I.kept kp;have WQ:acc.toList.length=d.length:=by rw[YQ,F.1,V4]
 have each:∀i v,acc.toList[i]?=some v->∃x t,v=Value.str x t/\d[i]?=some x:=λi v f=>by
  rw[YN]at f;obtain⟨k,x,e1,e2⟩:=F.2 i v f;have g:=V1 i;rw[e1]at g;cases r:d[i]? with
  |none=>rw[r]at g;cases g
  |some y =>
   rw[r]at g;have e5:k=Sum.inr y:=Zm g;subst e5;obtain⟨t,rfl⟩:=Value.isStrOf_shape (show Value.isStrOf y v=true from e2);exact⟨y,t,rfl,r⟩
 have f:∀v∈acc.toList,∃x t,v=Value.str x t:=λv n=>by
  obtain⟨i,S,e⟩:=List.getElem_of_mem n;obtain⟨x,t,e1,_⟩:=each i v (by rw[Zt S,e]);exact⟨x,t,e1⟩
 have es:acc.toList.map strOf=d:=by
  apply List.ext_getElem?;intro i;rw[ZY];cases e:acc.toList[i]? with
  |none =>
   have:acc.toList.length<=i:=YW.mp e;rw[YW.mpr (by lia)];rfl
  |some v =>
   obtain⟨x,t,rfl,e1⟩:=each i v e;rw[e1];rfl
 refine⟨f,by omega,λout Z e m M MJ he=>?_⟩;have Rg:∀v∈out,∃x t,v=Value.str x t:=λv n=>f v (m.mem_iff.mp n);have VC:((out.map strOf).map V.str).length<=sizeLine:=by rw[Zu,Zu,m.length_eq,WQ,XR];omega
 exact⟨.ref E.objs.size,_,G.laid (t':=C) MJ (Zh _) (show br X.prog X.w _ Z _ (.lst ((out.map strOf).map V.str)) from⟨VC,out,e,rh Rg,he⟩),rfl,q _ _ (G.GL.fresh (Zh _)) (by rw[← es];exact m.map _) M⟩
end
end L2
namespace VS
open PySem PySem.Spec PyProof.Rows L2
section
variable{G:Gx}{X:Cx}{e:Expr}{cs:Hf}{p pos:Pos}
noncomputable def gQ:W6->W7
 |[(_,.dct 0 l)]=>(strs? (l.map (·.1))).bind λa=>if a.length<64/\a.all My=true then some (.fr,.lst ((eR a).map .str)) else none
 |_=>none
def xo:fC G (λo H Q=>∃p,∃(d:List Str)(f:List V),o=[.ref p]/\d.length<64/\d.length=f.length/\H p=some (.dK ((d.map Sum.inr).zip f)) ∧
  ∀(l:Addr)(g:List Str),H l=none->g.Perm d->g.Pairwise (λa b=>¬b.cps.toList<a.cps.toList)->Q (.ref l) (upd H l (.lst (g.map V.str)))) gQ:=by
 intro Z J D H l f B m t Q A e k;unfold gQ at e;split at e
 ·rename_i C x;obtain⟨d,e1,e2⟩:=Zz.mp e;split at e2
  ·rename_i hb;cases e2;obtain⟨v,F,rfl,rfl,q⟩:=(show RpL G H f [.dct 0 x] B from A.rp).one;obtain⟨a,ks,n,h,E,rfl,rfl,w,i,rfl,r⟩:=cO q;have z:ks.length=h.length:=by rw[i,r.len.1]
   have y:((ks.map aB).zip h).map (·.1)=ks.map aB:=X4 (by rw[Zu];exact X8 z);rw[y]at e1;have j:=keys_str e1;refine⟨a,d.map sx,n,rfl,by rw[Zu];exact hb.1,?_,by rw[← j];exact w,xp k A.same λs u=>zf (Ja.mp hb.2 s u)⟩;rw[← i,j,Zu,Zu,Zu]
  ·cases e2
 ·cases e
def uq(a:X.mg "sorted" = none)(f:HP G X [e] cs)(b:Gl X "sorted" := by rfl)(g:X.K=G.K:=by rfl)(d:X.calm=true:=by rfl)(he:K1 e [] X:=by rfl):PV G X (.Call (.Name "sorted" p) [e] [] pos) (eN gQ cs) :=
 ke (jL d) xo b a wR f (he:=he) (hpl:=rfl)
end
@[simp] noncomputable def Oa:T->Bool
 |.bl true=>true
 |_=>false
mutual
@[simp] noncomputable def fY:T->Bool
 |.tup l=>bj l
 |.lst l=>bj l
 |.dct _ l=>oF l
 |.obj _ l=>gA l
 |_=>true
@[simp] noncomputable def bj:W8->Bool
 |[]=>true
 |t :: r=>fY t&&bj r
@[simp] noncomputable def oF:List (T×T)->Bool
 |[]=>true
 | (_,v) :: r=>fY v&&oF r
@[simp] noncomputable def gA:List (Nat×T)->Bool
 |[]=>true
 | (n,v) :: r=>(fY v && !(n==0&&Oa v))&&gA r
end
theorem hV:∀{ks:W8}{a:W8},ks.length=a.length->oF (ks.zip a)=true->bj a=true
 |[],[],_,_=>rfl
 |_ :: _,[],h,_=>by simp at h
 |[],_ :: _,h,_=>by simp at h
 |k :: ks,t :: a,h,e=>by
  rw[Za,oF,Zd]at e;rw[bj,Zd];exact⟨e.1,hV (by simpa using h) e.2⟩
theorem ie:∀{ks:W0}{a:W8},ks.length=a.length->gA (ks.zip a)=true->bj a=true
 |[],[],_,_=>rfl
 |_ :: _,[],h,_=>by simp at h
 |[],_ :: _,h,_=>by simp at h
 |k :: ks,t :: a,h,e=>by
  rw[Za,gA,Zd,Zd]at e;rw[bj,Zd];exact⟨e.1.1,ie (by simpa using h) e.2⟩
section
variable{G:Gx}{H:Hp}
theorem Rp.at{v:V}{t:T}{F:Xi}(m:Me)(r:Rp G H v t F):fY t=true->Rp (G.at m) H v t F :=
 Rp.rec (G:=G) (H:=H) (motive_1:=λv t F _=>fY t=true->Rp (G.at m) H v t F) (motive_2:=λvs e Fs _=>bj e=true->RpL (G.at m) H vs e Fs)
  (λ_=>.non) (λb _=>.bl b) (λi _=>.int i) (λs h _=>.str s h) (λh _=>.scr h) (λh _ d f=>.tup h (d (by simpa using f))) (λh _ d f=>.lst h (d (by simpa using f)))
  (λh l q d f=>.dct h l (d (hV (by rw[Zu,l];exact q.len.1) (by simpa using f)))) (λh l q d f=>.dctT h l (d (hV (by rw[Zu,l];exact q.len.1) (by simpa using f))))
  (λh l n q d f=>.dctN h l n (d (hV (by rw[Zu,l];exact q.len.1) (by simpa using f)))) (λh l q d f=>.dctZ h l (d (hV (by rw[Zu,l];exact q.len.1) (by simpa using f)))) (λh o _=>.exc h o)
  (λ{c a u b ks vs e Fs} h l p q d f=>by
   rw[fY,gA,Zd]at f;have hb:b=false:=by
    cases b with
    |false=>rfl
    |true=>simp at f
   refine .ins h l (λz=>?_) (d (ie (by rw[l];exact q.len.1) f.2));rw[hb]at z;cases z)
  (λ_ _ _ f=>by simp[fY,gA,Oa]at f)
  (λ_=>.nil) (λ_ _ j g f=>by
   rw[bj,Zd]at f;exact .cons (j f.1) (g f.2)) r
theorem RpL.at(m:Me):∀{vs:List V}{a:W8}{Fs:Yd},RpL G H vs a Fs->bj a=true->RpL (G.at m) H vs a Fs
 |_,_,_,.nil,_=>.nil
 |_,_,_,.cons r q,f=>by
  rw[bj,Zd]at f;exact .cons (r.at m f.1) (RpL.at m q f.2)
mutual
theorem m9:∀t:T,GO t=true->fY t=true
 |.non,_=>rfl
 |.bl _,_=>rfl
 |.int _,_=>rfl
 |.str _,_=>rfl
 |.scr _,_=>rfl
 |.tup l,h=>by
  rw[fY];exact vz l (by simpa using h)
 |.lst _,h=>by simp at h
 |.dct _ _,h=>by simp at h
 |.obj _ _,h=>by simp at h
theorem vz:∀l:W8,cZ l=true->bj l=true
 |[],_=>rfl
 |t :: l,h=>by
  rw[cZ,Zd]at h;rw[bj,Zd];exact⟨m9 t h.1,vz l h.2⟩
end
end
noncomputable def vL(k:Nat):T->Option T
 |.obj (_+1) (_ :: fs)=>(fs.findIdx? λp=>p.1==k).bind λi=>(fs[i]?).map (·.2)
 |_=>none
noncomputable def bA(k:Nat)(a:Ex):Ex:=λJ=>(a J).bind λx=>(vL k x.2).map λt=>sub x.1 t
section
variable{G:Gx}{X:Cx}{a e o:Expr}{ca ce:Ex}{k i:Nat}{f x:Str}{pos pos' p1:Pos}
def w_fld(Jq:j7 G)(F:Im G X.K k f)(ha:PV G X a ca)(B:attributeBase a f X.env (eval a X.env)=eval a X.env:=by exact rfl):PV G X (.Attribute a f pos) (bA k ca) :=
 PE.weak (zk ha B) λO H Q Y=>by
  obtain⟨Z,J,m,t,s,e,U⟩:=Y;unfold bA at e;obtain⟨⟨S,y⟩,ea,e1⟩:=Zz.mp e;obtain⟨z,d,e2⟩:=Zw.mp e1;refine⟨Z,J,S,y,s,ea,λv H' F' R r1 f1=>?_⟩;unfold vL at d;split at d
  ·rename_i c q0 fs w;dsimp only at w;subst w;obtain⟨j,D,e3⟩:=Zz.mp d;obtain⟨p,C,e4⟩:=Zw.mp e3;subst e4;obtain⟨c',a,dx,b,ns,vs,q,Fs,ec,rfl,rfl,rfl,rfl,hA,A,B,r⟩:=gK r1;cases ec;have JK:ns.length=q.length:=A.trans r.len.1;obtain⟨l,g,L,E,g3,g4⟩:=iP (λn=>n==k) JK D;have ek:l=k:=by simpa using g3
   subst ek;have ep:p=(l,g):=by
    have:(ns.zip q)[j]?=some (l,g):=by rw[Yw];exact⟨L,E⟩
    rw[this]at C;exact(Zm C).symm
   subst ep;obtain⟨u,Fi,P,N,h⟩:=r.get j E;have M:=qU (G:=G) (c:=c+1) Jq A D L P;rw[F.nm c]at M;refine⟨a,_,dx,_,u,rfl,hA,F.cl c,F.no c,M,?_⟩;have fp:=((f1.sub (Yl _ _)).sub (bM N)).up h;unfold VS.sub at e2;rw[e2]at fp;have et:g=t:=congrArg Prod.snd e2;rw[et]at h;exact U u H' Fi R h fp
  ·cases d
noncomputable def qq(i k:Nat)(e:Ex)(J:VS.Env):Option Out:=(e J).bind λv=>match J[i]? with
 |some (some (.ow (.obj (c+1) (q :: fs))))=>(fit v).bind λt=>if fs.length<900/\(fs.all λp=>!(p.1==k))=true then some (.nx (J.set i (some (.ow (.obj (c+1) (q :: (fs++[(k,t)]))))))) else none
 |_=>none
theorem rg{g:Nat->Str}{k:Nat}{v:V}(m:∀k l:Nat,g k=g l->k=l):∀{ks:W0}{b:List V}{d:W8},ks.length=b.length->ks.length=d.length->((ks.zip d).all λp=>!(p.1==k))=true->iL (g k) v ((ks.map g).zip b)=((ks++[k]).map g).zip (b++[v])
 |[],[],_,_,_,_=>rfl
 |[],_ :: _,_,h,_,_=>by simp at h
 |_ :: _,[],_,h,_,_=>by simp at h
 |_ :: _,_ :: _,[],_,h,_=>by simp at h
 |n :: ks,s :: b,t :: d,r,q,j=>by
  rw[Za,Y0,Zd]at j;have ne:g n≠g k:=λz=>by
   have:=m _ _ z;subst this;simp at j
  rw[Zl,Za,iL,Zp ne,rg m (by simpa using r) (by simpa using q) j.2];rfl
def uc(i k:Nat)(Jq:j7 G)(F:Im G X.K k f)(he:PV G X e ce)(hN:X.N[i]?=some x)(hv:Ir X.env.scope x)(hd:K3 x)(B:K4 x)(hs:swapsWith e (some (.Attribute (.Name x p1) f pos')) pos.line X.env=pure false):PSV G X (.Assign [.Attribute (.Name x p1) f pos'] e pos) (qq i k ce) :=
 PS.weak (CJ (dM hN hv hd B) he hs) λD O H hq=>by
  obtain⟨Z,J,out,s,e,kq⟩:=hq;unfold qq at e;obtain⟨⟨mv,h⟩,ev,e⟩:=Zz.mp e;split at e
  ·rename_i c q0 fs w;obtain⟨t,et,e⟩:=Zz.mp e;have em:=ma et;cases em;split at e
   ·rename_i l;cases e;obtain⟨v,Q,g2⟩:=s.rp _ _ w;refine⟨Z,J,.fr,h,s,ev,λy M P q ry n=>⟨v,Q,?_⟩⟩;obtain⟨c',a,E,b,ns,p,j,Fs,ec,rfl,rfl,rfl,S,C,A,hb,r⟩:=gK g2;cases ec;have nd:=s.nd i _ w;rw[S]at nd;have L:=Zf.mp nd;have U:M a=some (.ins (G.ct (c+1)).1 E ((ns.map (G.ct (c+1)).2).zip p)):=q a _ C;have u:GQ (M a):=by rw[U];exact True.intro
    have Y:ns.length=j.length:=A.trans r.len.1;have na:a∉P:=λz=>by rw[n.2 a z]at C;cases C
    have ln:((ns.map (G.ct (c+1)).2).zip p).length<1000:=by
     have:=l.1;rw[Ju]at this ⊢;rw[Zu];lia
    refine⟨a,_,E,_,rfl,U,F.cl c,F.no c,ln,?_⟩;have R:=rg (g:=(G.ct (c+1)).2) (k:=k) (v:=y) (Jq (c+1)) A Y l.2;rw[F.nm c]at R;rw[R];have off:∀d∈Fs.flatten,d∉P:=λd hb hw=>GQ.p0 (r.GX d hb) (n.2 d hw);have g:Chg G H (.ref a) (Z i) (.obj (c+1) ((0,.bl b) :: (ns.zip j++[(k,h)]))) (upd M a (.ins (G.ct (c+1)).1 E (((ns++[k]).map (G.ct (c+1)).2).zip (p++[y])))) (a :: (Fs++[P]).flatten):=by
     rw[S,show ns.zip j++[(k,h)]=(ns++[k]).zip (j++[h]) from by rw[XF Y];rfl];refine Chg.upd q Zx u (.ins aw (by simp[A]) hb (((r.same q).off u L.1).append (.cons (ry.keep (Kept.upd (.inl u)) λd hb o ho=>by rw[ay (λz=>na (by rw[← z];exact hb))];exact ho) .nil))) ?_ ?_
     ·rw[Yp];refine Zf.mpr ⟨λm=>?_,ZO.mpr ⟨L.2,by simpa using n.1,λb hb c l z=>?_⟩⟩
      ·rcases Ze.mp m with m | m
       ·exact L.1 m
       ·exact na (by simpa using m)
      ·subst z;exact off b hb (by simpa using l)
     ·intro d hb;rcases Zo.mp hb with rfl | hb
      ·exact .inl Zx
      ·rw[Yp]at hb;rcases Ze.mp hb with hb | hb
       ·exact .inl (Zy _ hb)
       ·exact .inr (n.2 d (by simpa using hb))
    obtain⟨z1,z2⟩:=s.mut w Q g;exact kq _ O _ z1 z2
   ·cases e
  ·cases e
end
noncomputable abbrev sU:=List (Nat×T)
noncomputable def JI(a:Addr):Me:=λk=>if k=0 then some (.ref a) else none
noncomputable abbrev Mt:=sU->W8->Option (sU×T)
noncomputable def Hm:List Bool->Yd->Xi
 |b :: bs,F :: a=>(if b then F else [])++Hm bs a
 |_,_=>[]
noncomputable def Jz:List Bool->Yd->Xi
 |b :: bs,F :: a=>(if b then [] else F)++Jz bs a
 |_,_=>[]
theorem gC:∀{mv:List Bool}{e:Yd}{j:Nat}{F:Xi},mv[j]?=some true->e[j]?=some F->F.Sublist (Hm mv e)
 |[],_,_,_,h,_=>by simp at h
 |_ :: _,[],_,_,_,h=>by simp at h
 |b :: bs,f :: e,0,F,d,a=>by
  simp at d a;subst d a;rw[Hm,Zq rfl];exact List.sublist_append_left _ _
 |b :: bs,f :: e,j+1,F,d,a=>by
  rw[Hm];exact(gC (by simpa using d) (by simpa using a)).trans (YF _ _)
theorem pG:∀{mv:List Bool}{e:Yd}{j:Nat}{F:Xi},mv[j]?=some false->e[j]?=some F->F.Sublist (Jz mv e)
 |[],_,_,_,h,_=>by simp at h
 |_ :: _,[],_,_,_,h=>by simp at h
 |b :: bs,f :: e,0,F,d,a=>by
  simp at d a;subst d a;rw[Jz];exact List.sublist_append_left _ _
 |b :: bs,f :: e,j+1,F,d,a=>by
  rw[Jz];exact(pG (by simpa using d) (by simpa using a)).trans (YF _ _)
theorem uD:∀{mv:List Bool}{d:Yd}{i j:Nat}{F m:Xi},(Hm mv d).Nodup->mv[i]?=some true->mv[j]?=some true->d[i]?=some F->d[j]?=some m->i≠j->∀a∈F,a∉m
 |[],_,_,_,_,_,_,h,_,_,_,_=>by simp at h
 |_ :: _,[],_,_,_,_,_,_,_,h,_,_=>by simp at h
 |b :: bs,q :: d,0,0,F,m,_,_,_,_,_,n=>absurd rfl n
 |b :: bs,q :: d,0,j+1,F,m,nd,l,g,f,e,n=>λa o p=>by
  simp at l f;subst l f;rw[Hm,Zq rfl,ZO]at nd;exact nd.2.2 a o a ((gC (by simpa using g) (by simpa using e)).subset p) rfl
 |b :: bs,q :: d,i+1,0,F,m,nd,l,g,f,e,n=>λa o p=>by
  simp at g e;subst g e;rw[Hm,Zq rfl,ZO]at nd;exact nd.2.2 a p a ((gC (by simpa using l) (by simpa using f)).subset o) rfl
 |b :: bs,q :: d,i+1,j+1,F,m,nd,l,g,f,e,n=>by
  rw[Hm,ZO]at nd;exact uD nd.2.1 (by simpa using l) (by simpa using g) (by simpa using f) (by simpa using e) (by lia)
theorem uT:∀{mv:List Bool}{d:Yd}{a:Addr},a∈Hm mv d->∃(j:Nat)(F:Xi),mv[j]?=some true/\d[j]?=some F/\a∈F
 |[],_,_,h=>by simp[Hm]at h
 |_ :: _,[],_,h=>by simp[Hm]at h
 |b :: bs,i :: d,a,h=>by
  rw[Hm]at h;rcases Ze.mp h with h | h
  ·cases b with
   |true=>exact⟨0,i,rfl,rfl,h⟩
   |false=>simp at h
  ·obtain⟨j,F,g,f,e⟩:=uT h;exact⟨j+1,F,by simpa using g,by simpa using f,e⟩
noncomputable def ja(b:Bool)(t:T):W5:=some (if b then .ow t else .pu t)
noncomputable def y8(c:Nat)(J:VS.Env):Option sU:=match (J[(0:Nat)]?:Option (W5)) with
 |some (some (.ow (.obj a ((0,.bl true) :: fs))))=>if a=c+1 then some fs else none
 |_=>none
noncomputable def JH(c d f:Nat)(e:List Bool)(body:Sx):Mt:=λfs a=>if a.length+1=d/\e.length=a.length then
 (body ((some (.ow (.obj (c+1) ((0,.bl true) :: fs))) :: List.zipWith ja e a)++List.replicate (f-d) none)).bind λo=>match o with
  |.rt v J=>(y8 c J).bind λb=>if GO v.2 then some (b,v.2) else none
  |.nx J=>(y8 c J).map λb=>(b,.non)
  |_=>none else none
noncomputable def Lz(G:Gx)(c:Nat)(d:List Bool)(g:Mt):Sp:=λl H Q _=>∃(a:Addr)(i:List V)(fs:sU)(f:W8)(F:Xi)(e:Yd)(j:sU)(x:T),l=.ref a :: i/\Rp (G.at (JI a)) H (.ref a) (.obj (c+1) ((0,.bl true) :: fs)) F ∧
 RpL (G.at (JI a)) H i f e/\d.length=f.length/\(F++Hm d e).Nodup/\(∀b∈F++Hm d e,b∉Jz d e)/\g fs f=some (j,x) ∧
 ∀u h m,Chg (G.at (JI a)) H (.ref a) (F++Hm d e) (.obj (c+1) ((0,.bl true) :: j)) h m->Rp (G.at (JI a)) h u x []->Q u h
section
variable{G:Gx}{H:Hp}
def rW{v:V}{C:List V}{t:T}{d:W8}{F:Xi}{f:Yd}{mv:List Bool}(X:Rp G H v t F)(r:RpL G H C d f)(S:mv.length=d.length)(s:(F++Hm mv f).Nodup)(P:∀b∈F++Hm mv f,b∉Jz mv f)(n Q:Nat)(Y:Q=C.length+1) :
  SR G (λi=>(F :: f).getD i []) ((some (.ow t) :: List.zipWith ja mv d)++List.replicate (n-(d.length+1)) none) ((v :: C).map some++List.replicate (n-Q) none) H ∧
  ∀a,bw (λi=>(F :: f).getD i []) ((some (.ow t) :: List.zipWith ja mv d)++List.replicate (n-(d.length+1)) none) a->a∈F++Hm mv f:=by
 subst Y;have hl:=r.len;have E:(List.zipWith ja mv d).length=d.length:=by rw[List.length_zipWith,S,Nat.min_self]
 have back:∀{i:Nat}{c:Cell},((some (Cell.ow t) :: List.zipWith ja mv d)++List.replicate (n-(d.length+1)) none)[i]?=some (some c)->(i=0/\c=.ow t)\/∃(j:Nat)(b:Bool)(u:T),i=j+1/\mv[j]?=some b/\d[j]?=some u/\c=(if b then .ow u else .pu u):=λ{i c} h=>by
  cases i with
  |zero=>exact .inl ⟨rfl,(Zm (Zm h)).symm⟩
  |succ j =>
   rw[Y5,X5]at h;by_cases D:j<d.length
   ·rw[Yz (by rw[E];exact D),List.getElem?_zipWith]at h;have e1:mv[j]?=some mv[j]:=Zt (by rw[S];exact D);have e2:d[j]?=some d[j]:=Zt D;rw[e1,e2]at h;exact .inr ⟨j,_,_,rfl,e1,e2,(Zm (Zm h)).symm⟩
   ·rw[Yo (by rw[E];exact ZE D),Ye]at h;split at h<;>cases h
 have fp:∀{j:Nat}{u:T},d[j]?=some u->∃w q,C[j]?=some w/\f[j]?=some q/\Rp G H w u q:=λ{j u} h=>r.get j h;have ow:∀{i:Nat}{u:T},((some (Cell.ow t) :: List.zipWith ja mv d)++List.replicate (n-(d.length+1)) none)[i]?=some (some (.ow u))->i=0\/∃j:Nat,i=j+1/\mv[j]?=some true/\d[j]?=some u:=λ{i u} h=>by
  rcases back h with⟨o,g⟩ | ⟨j,b,O,o,g,m,x⟩
  ·exact .inl o
  ·cases b with
   |true=>cases x;exact .inr ⟨j,o,g,m⟩
   |false=>cases x
 rw[ZO]at s;refine⟨⟨?_,λi c h=>?_,λi u h=>?_,λi j u c o g n=>?_⟩,λa ⟨i,u,o,g⟩=>?_⟩
 ·simp[E];lia
 ·rcases back h with⟨rfl,rfl⟩ | ⟨j,b,u,rfl,g,m,x⟩
  ·exact⟨v,rfl,X⟩
  ·obtain⟨w,q,y,e,A⟩:=fp m;refine⟨w,?_,?_⟩
   ·rw[Zl,Y5,X5,Yz (by rw[Zu];exact(Zg.mp y).1),ZY,y];rfl
   ·show Rp G H w (iU c) ((F :: f).getD (j+1) []);rw[Y1,Zv,e,x];cases b<;>exact A
 ·rcases ow h with rfl | ⟨j,rfl,g,m⟩
  ·exact s.1
  ·obtain⟨w,q,y,e,A⟩:=fp m;show ((F :: f).getD (j+1) []).Nodup;rw[Y1,Zv,e];exact s.2.1.sublist (gC g e)
 ·rcases ow o with rfl | ⟨R,rfl,N,a3⟩
  ·rcases back g with⟨rfl,_⟩ | ⟨L,b,O,rfl,B,M,_⟩
   ·exact absurd rfl n
   ·obtain⟨w,q,y,e,A⟩:=fp M;intro a l;show a∉(F :: f).getD (L+1) [];rw[Y1,Zv,e];intro p;cases b with
    |true=>exact s.2.2 a l a ((gC B e).subset p) rfl
    |false=>exact P a (Kc _ l) ((pG B e).subset p)
  ·obtain⟨w,Fi,y,e,A⟩:=fp a3;have Z:(F :: f).getD (R+1) []=Fi:=by rw[Y1,Zv,e];rfl
   show ∀a∈(F :: f).getD (R+1) [],_;rw[Z];rcases back g with⟨rfl,_⟩ | ⟨L,b,O,rfl,B,M,_⟩
   ·exact λa l p=>s.2.2 a p a ((gC N e).subset l) rfl
   ·obtain⟨w',q,k1,J,k3⟩:=fp M;intro a l;show a∉(F :: f).getD (L+1) [];rw[Y1,Zv,J];intro p;cases b with
    |true=>exact uD s.2.1 N B e J (λz=>n (by rw[z])) a l p
    |false=>exact P a (ZU _ ((gC N e).subset l)) ((pG B J).subset p)
 ·rcases ow o with rfl | ⟨j,rfl,m,x⟩
  ·exact Kc _ g
  ·obtain⟨w,q,y,e,A⟩:=fp x;have U:a∈(F :: f).getD (j+1) []:=g;rw[Y1,Zv,e]at U;exact ZU _ ((gC m e).subset U)
def xm{c:Nat}{J:VS.Env}{a:sU}(h:y8 c J=some a):J[0]?=some (some (.ow (.obj (c+1) ((0,.bl true) :: a)))):=by
 unfold y8 at h;split at h
 ·rename_i d f e;split at h
  ·rename_i b;cases h;rw[e,b]
  ·cases h
 ·cases h
end
section
variable{G:Gx}{P:Program}{w:World}{K:Y2}{mg:Xk}{base:Heap}
def Ga{d:Str}{x:Stmt}{f:Addr}{fd:FuncData}{N O:List Str}{k X D c:Nat}{R:List Bool}{l:Sx}(ok:∀{sp:Sp},(∀j H Q E,sp j H Q E->j.length=O.length)->(∀(p:Value)(A:Around)(outer:List PySem.Env)(s:Shared)(H:Hp)(j:List V)(Q:VK)(E:XK),GJ k (A.deeper (envOfC d (aq x) s.heap.objs.size f p))->sp j H Q E →
   ∃t,ID (jr Hx P w K mg base N d (aq x) f p A outer s H E).J6 (bh x) t/\t { nx:=λ_ g=>Q .non g,rt:=Q } (L2.start N j) H)->FnOk P w K mg base Hx (k+1) f fd O sp)(hp:O.length=X)(hn:N.length=D)(hb:∀(a:Addr)(p:Value)(A:Around)(outer:List PySem.Env)(s:Shared)(H:Hp)(E:XK),GJ k (A.deeper (envOfC d (aq x) s.heap.objs.size f p))->ij (G.at (JI a)) (jr Hx P w K mg base N d (aq x) f p A outer s H E).J6 (bh x) l) :
  FnOk P w K mg base Hx (k+1) f fd O (Lz G c R (JH c X D R l)):=by
 refine ok (λj H Q E h=>?_) λp A outer s H j Q E hr h=>?_
 ·obtain⟨a,C,fs,ts,F,Fs,U,y,rfl,r0,r,hm,nd,sp,e,q⟩:=h;unfold JH at e;split at e
  ·rename_i Y;rw[Zk,r.len.1,Y.1,hp]
  ·cases e
 ·obtain⟨a,C,fs,ts,F,Fs,U,y,rfl,r0,r,hm,nd,sp,e,q⟩:=h;refine⟨_,hb a p A outer s H E hr,?_⟩;unfold JH at e;split at e
  ·rename_i Y;obtain⟨o,e1,e2⟩:=Zz.mp e;obtain⟨s0,Kh⟩:=rW r0 r hm nd sp D (C.length+1) rfl;rw[Y.1]at s0 Kh;have e3:L2.start N (V.ref a :: C)=(V.ref a :: C).map some++List.replicate (D-(C.length+1)) none:=by
    unfold L2.start;rw[hn];rfl
   rw[e3];have fin:∀{m:VS.Env}{n:GP}{S:L2.St}{g:Hp},y8 c m=some U->SR (G.at (JI a)) n m S g->GZ (λi=>(F :: Fs).getD i []) ((some (.ow (.obj (c+1) ((0,.bl true) :: fs))) :: List.zipWith ja R ts)++List.replicate (D-X) none) H n m g →
     Chg (G.at (JI a)) H (.ref a) (F++Hm R Fs) (.obj (c+1) ((0,.bl true) :: U)) g (n 0):=λ{m n S g} VU B fr=>by
    have Z:=xm VU;obtain⟨v',g1,g2⟩:=B.rp 0 _ Z;have Nt:Rp (G.at (JI a)) g v' (.obj (c+1) ((0,.bl true) :: U)) (n 0):=g2;obtain⟨c',a',dx,b,ns,j,HF,Ic,ec,rfl,eb,_,eF,hA,RB,M,ra⟩:=gK Nt;have Kv:b=true:=by cases eb;rfl
    have ea:some (V.ref a)=some (V.ref a'):=M Kv;cases ea;refine⟨fr.kept,λL o' M ho=>(fr.keep L o' ho λz=>M (Kh L z)).1,fr.GX,Nt,B.nd 0 _ Z,λL M=>?_⟩;rcases fr.ow L ⟨0,_,Z,M⟩ with z | z
    ·exact .inl (Kh L z)
    ·exact .inr z
   refine⟨_,_,o,s0,e1,?_⟩;cases o with
   |nx m =>
    obtain⟨fs2,e4,J⟩:=Zw.mp e2;cases J;intro n S g B fr;exact q .non g _ (fin e4 B fr) .non
   |rt v m =>
    obtain⟨fs2,e4,J⟩:=Zz.mp e2;split at J
    ·rename_i hi;cases J;intro u g F' n S B fr r' rf;have:=r'.GO hi;subst this;exact q u g _ (fin e4 B fr) r'
    ·cases J
   |bk m=>cases e2
   |ct m=>cases e2
  ·cases e
def T7{x d:Str}{g:Stmt}{f:Addr}{n:FuncData}{N h:List Str}{k i j c:Nat}{m:List Bool}{e:Sx}(F:GV K x d g f n)(S:oe N h (aq g))(p:h.length=i)(q:N.length=j)(r:∀(a:Addr)(o:Value)(A:Around)(outer:List PySem.Env)(s:Shared)(H:Hp)(E:XK),GJ k (A.deeper (envOfC d (aq g) s.heap.objs.size f o))->ij (G.at (JI a)) (jr Hx P w K mg base N d (aq g) f o A outer s H E).J6 (bh g) e) :
  FnOk P w K mg base Hx (k+1) f n h (Lz G c m (JH c i j m e)):=Ga (λl b=>F.ok S l b) p q r
end
noncomputable def argsOk:List Bool->W6->Bool
 |[],[]=>true
 |b :: bs,v :: a=>(if b then v.1 == .fr else GO v.2)&&argsOk bs a
 |_,_=>false
noncomputable def u6(c:Nat)(e:List Bool)(g:Mt)(a:W6):T->Option (T×Val)
 |.obj d ((0,.bl b) :: fs)=>if d=c+1/\gA fs=true/\argsOk e a=true/\bj (trees a)=true then (g fs (trees a)).bind λz=>if gA z.1=true/\GO z.2=true then some (.obj d ((0,.bl b) :: z.1),(.fr,z.2)) else none else none
 |_=>none
noncomputable def b6(i:Nat)(a:List Jw)(c:Nat)(d:List Bool)(g:Mt)(e:Hf)(J:VS.Env):Option (Val×VS.Env):=match (J[i]?:Option (W5)) with
 |some (some (.ow t))=>(keys a J).bind λks=>(e J).bind λb=>(pm (u6 c d g b) ks t).map λz=>(z.2,J.set i (some (.ow z.1)))
 |_=>none
noncomputable def tX(G:Gx)(x:Xx):TE:=λO H Q=>∃Z J v b,SR G Z J O H/\x J=some (v,b)/\GO v.2=true/\∀u a d,SR G d b O a->GZ Z J H d b a->Rp G a u v.2 []->Q u a
noncomputable def PX(G:Gx)(X:Cx)(e:Expr)(x:Xx):Prop:=PE X e (tX G x)
theorem mJ:∀{mv:List Bool}{a:W6},argsOk mv a=true->mv.length=a.length
 |[],[],_=>rfl
 |[],_ :: _,h=>by simp[argsOk]at h
 |_ :: _,[],h=>by simp[argsOk]at h
 |b :: bs,v :: d,h=>by
  rw[argsOk,Zd]at h;rw[Zk,Zk,mJ h.2]
theorem rJ:∀{mv:List Bool}{d:W6}{Fs:Yd},argsOk mv d=true->(Hm mv Fs).Sublist (HS d Fs)
 |[],[],_,_=>by simp[Hm]
 |[],_ :: _,_,h=>by simp[argsOk]at h
 |_ :: _,[],_,h=>by simp[argsOk]at h
 |b :: bs,v :: e,[],h=>by simp[Hm]
 |b :: bs,(m,t) :: e,F :: Fs,h=>by
  rw[argsOk,Zd]at h;have a:=rJ (Fs:=Fs) h.2;rw[Hm];cases b with
  |true =>
   have:m=.fr:=by simpa using h.1
   subst this;exact List.Sublist.append (XU _) a
  |false =>
   rw[Zp ZX,YD];cases m with
   |fr=>exact a.trans (YF _ _)
   |pu=>exact a
   |bo=>exact a
theorem u4{G:Gx}{H:Hp}:∀{mv:List Bool}{a:W6}{e:List V}{d:Yd},argsOk mv a=true->RpL G H e (trees a) d->Jz mv d=[]
 |[],[],_,_,_,_=>by simp[Jz]
 |[],_ :: _,_,_,h,_=>by simp[argsOk]at h
 |_ :: _,[],_,_,h,_=>by simp[argsOk]at h
 |b :: bs,(m,t) :: g,_,_,h,r=>by
  rw[argsOk,Zd]at h;cases r with
  |cons f q =>
   rw[Jz,u4 h.2 q,ZV];cases b with
   |true=>rfl
   |false=>exact f.GO (by simpa using h.1)
def BD{Z:GP}{J:VS.Env}{H:Hp}{e:List Bool}{d:W6}{m:Yd}(h:argsOk e d=true)(f:LX Z J H d m):∀a∈Hm e m,H a=none:=λa o=>by
 obtain⟨j,F,g,q,p⟩:=uT o;have key:∀{e:List Bool}{d:W6}{j:Nat},argsOk e d=true->e[j]?=some true->∃v,d[j]?=some v/\v.1=.fr:=by
  intro e
  induction e with
  |nil=>intro d j _ h;simp at h
  |cons b bs n =>
   intro d j h g;cases d with
   |nil=>simp[argsOk]at h
   |cons v r =>
    rw[argsOk,Zd]at h;cases j with
    |zero =>
     simp at g;subst g;exact⟨v,rfl,by simpa using h.1⟩
    |succ j =>
     obtain⟨w,l,i⟩:=n h.2 (by simpa using g);exact⟨w,by simpa using l,i⟩
 obtain⟨v,l,i⟩:=key h g;have:=f.each j v F l q;rw[i]at this;exact this.2 a p
section
variable{G:Gx}{X:Cx}{CX:KA}{i c k k':Nat}{way:List Jw}{o e:Expr}{es:List Expr}{cs:Hf}{m:Str}{f:Addr}{fd:FuncData}{ps:List Str}{mv:List Bool}{g:Mt}{apos pos:Pos}
def yW{O:L2.St}{H:Hp}{Q:VK}{E:XK}{t:TA}(Jq:j7 G)(hn:∀k,(G.ct (c+1)).2 k≠m)(ht:∀Z J p O H (R:List V->Hp->Prop),SR G Z J O H->cs J=some p->(∀d l M,aH H l->RpL G l d (trees p) M->LX Z J H p M->R d l)->t O H R)(h:tX G (b6 i way c mv g cs) O H Q):ur (G.ct (c+1)).1 m (Lz G c mv g) [] E (Ph G i way) t O H Q:=by
 obtain⟨Z,J,v,J',s,e,LN,kq⟩:=h;unfold b6 at e;split at e
 ·rename_i t0 F;obtain⟨ks,ek,e3⟩:=Zz.mp e;obtain⟨p,el,e4⟩:=Zz.mp e3;obtain⟨⟨t',x2⟩,e5,e6⟩:=Zw.mp e4;cases e6;obtain⟨v0,h1,h2⟩:=s.rp _ _ F;obtain⟨w,x,F1,x3,w1,w2,w3,q,w5⟩:=iw ks Jq h2 (s.nd i t0 F) e5;unfold u6 at q;split at q
  ·rename_i c1 b fs;split at q
   ·rename_i hc;obtain⟨rfl,K6,L,RR⟩:=hc;obtain⟨⟨Iy,y⟩,eg,U⟩:=Zz.mp q;split at U
    ·rename_i Og;cases U;obtain⟨c',a,dx,b',ns,d,N,M,ec,rfl,eb,rfl,eF,hA,hl,hb,ra⟩:=gK w2;cases ec;cases eb;have JK:ns.length=N.length:=hl.trans ra.len.1;refine⟨Z,J,t0,ks,v0,.ref a,s,F,h1,ek,w1,λH1 D=>⟨a,dx,_,rfl,D a _ hA,?_,?_⟩⟩
     ·have key:∀(ns:W0)(d:List V),((ns.map (G.ct (c+1)).2).zip d).lookup m=none:=by
       intro ns
       induction ns with
       |nil=>intro d;simp
       |cons n ns ih =>
        intro d;cases d with
        |nil=>simp
        |cons v d =>
         rw[Zl,Za,YY];have:(m==(G.ct (c+1)).2 n)=false:=by
          rw[beq_eq_false_iff_ne];exact λz=>hn n z.symm
         rw[this];exact ih d
      exact key ns d
     ·refine ht Z J p O H1 _ (s.same D) el λus H2 Gs HQ Pn P2=>?_;have A:aH H H2:=D.trans HQ;have S:LX Z J H p Gs:=⟨λn v' C a1 a2=>(P2.each n v' C a1 a2).back D,P2.nd⟩
      have Y:=BD L S;have U5:RpL (G.at (JI a)) H2 d N M:=(ra.same A).at (JI a) (ie JK K6);refine⟨a,us,ns.zip N,trees p,F1,Gs,Iy,y,by rw[ZV],?_,Pn.at (JI a) RR,?_,?_,?_,eg,λu l C r ru=>?_⟩
      ·rw[eF];exact .ins (A a _ hA) hl (λ_=>rfl) U5
      ·rw[mJ L];simp[trees]
      ·refine ZO.mpr ⟨w3,P2.nd.sublist (rJ L),λj B b2 Ov z=>?_⟩;subst z;exact GQ.p0 (w2.GX j B) (Y j Ov)
      ·rw[u4 L Pn];exact λj _ z=>nomatch z
      ·have back:Rp G l (.ref a) (.obj (c+1) ((0,.bl b) :: Iy)) C:=by
        obtain⟨c2,a2,dx2,b2,Vo,Mx,UO,O0,OI,Sw,eb2,Su,Sy,R3,JO,Ov,KO⟩:=gK r.rp;cases OI;cases Sw;subst Su;rw[Sy];exact .ins R3 JO hb (KO.at G.me (ie (JO.trans KO.len.1) Og.1))
       have gG:Chg G H (.ref a) F1 (.obj (c+1) ((0,.bl b) :: Iy)) l C:=⟨(Kept.of A).trans r.kept,λj o1 B P=>r.keep j o1 (λz=>(Ze.mp z).elim B λz=>by rw[Y j z]at P;cases P) (A j o1 P),λj h=>r.GX j λz=>h (A.free z),back,r.nd,λj B=>by
        rcases r.sub j B with z | z
        ·rcases Ze.mp z with z | z
         ·exact .inl z
         ·exact .inr (Y j z)
        ·exact .inr (A.free z)⟩
       obtain⟨F2,g2⟩:=w5 l C gG;obtain⟨z1,z2⟩:=s.mut F h1 g2;exact kq u l _ z1 z2 (ru.at G.me (m9 y Og.2))
    ·cases U
   ·cases q
  ·cases q
 ·cases e
def A7{j:Sem Bool}(z:j7 G)(q:∀k,(G.ct (c+1)).2 k≠m)(p:JT G X o i way)(v:Io X.K (G.ct (c+1)).1)(r:Meth X.K (G.ct (c+1)).1 m f)(F:FnOk X.prog X.w X.K X.mg X.base Hx k f fd ps (Lz G c mv g))(n:GJ k' X.A)(u:k<=k')(x:Binds X.K fd ps [])(y:HP G X (e :: es) cs)(B:K1 e es X)(a:K2 pos es X)(l:eval (.Call (.Attribute o m apos) (e :: es) [] pos) X.env=(do
   let b ← eval o X.env
   standAt apos.atName
   let (f,first) ← holding [b] (getMethod b m j)
   callWith pos f first (backTo pos (starEach (e :: es) X.env)) (backToKw pos (keywordEach [] X.env)))):PX G X (.Call (.Attribute o m apos) (e :: es) [] pos) (b6 i way c mv g cs) :=
 PE.weak (uY (E:=E0) p v r F (n.mono u) x .nil ou y B a l) λO H Q h=>yW (t:=Ng G cs) z q (λZ J d O H R s e k=>⟨Z,J,d,s,e,k⟩) h
noncomputable def NQ(x:Xx):Sx:=λJ=>(x J).bind λz=>if GO z.1.2 then some (.nx z.2) else none
noncomputable def dy(j:Nat)(x:Xx):Sx:=λJ=>(x J).bind λz=>if GO z.1.2=true/\j<z.2.length then some (.nx (z.2.set j (some (.pu z.1.2)))) else none
noncomputable def ky(x:Xx):Sx:=λJ=>(x J).bind λz=>if GO z.1.2 then some (.rt (.fr,z.1.2) z.2) else none
variable{x:Xx}
def rK(h:PX G X e x)(n:swapsWith e none pos.line X.env=pure false):PSV G X (.Expr e pos) (NQ x) :=
 PS.weak (iE h n) λD O H b=>by
  obtain⟨Z,J,out,s,e,k⟩:=b;unfold NQ at e;obtain⟨⟨v,l⟩,e1,e2⟩:=Zz.mp e;split at e2
  ·rename_i d;cases e2;exact⟨Z,J,v,l,s,e1,d,λu p j a f r=>k j O p a f⟩
  ·cases e2
def uu(h:PX G X e x):PSV G X (.Return (some e) pos) (ky x) :=
 PS.weak (pb h) λD O H d=>by
  obtain⟨Z,J,out,s,e,k⟩:=d;unfold ky at e;obtain⟨⟨v,n⟩,e1,e2⟩:=Zz.mp e;split at e2
  ·rename_i j;cases e2;exact⟨Z,J,v,n,s,e1,j,λu p l b f r=>k u p [] l O b f r ⟨Yx,λa h=>nomatch h⟩⟩
  ·cases e2
def eX{j:Nat}{d:Str}{b:Pos}(h:PX G X e x)(B:X.N.Nodup)(l:X.N[j]?=some d)(w:Loc X.env.scope d)(y:swapsWith e (some (.Name d b)) pos.line X.env=pure false:=by exact rfl)(A:X.fn d=true\/X.env.scope.names.lookup d=some .local:=by exact .inl rfl) :
  PSV G X (.Assign [.Name d b] e pos) (dy j x) :=
 PS.weak (o8 B l w h y A) λD O H z=>by
  obtain⟨Z,J,out,s,e,k⟩:=z;unfold dy at e;obtain⟨⟨v,C⟩,e1,e2⟩:=Zz.mp e;split at e2
  ·rename_i l;cases e2;refine⟨Z,J,v,C,s,e1,l.1,λu n E p f r=>?_⟩;obtain⟨t,q⟩:=p.val (c:=.pu v.2) (m:=.fr) l.2 (aH.refl n) r ⟨Yx,λa h=>nomatch h⟩ (.inl ⟨rfl,by decide⟩);exact k _ _ n t (f.trans q)
  ·cases e2
noncomputable def lQ(i:Nat)(a:List Jw)(k:Ex)(x:Xx):Sx:=λJ=>(x J).bind λz=>if GO z.1.2 then gv i a k (λ_=>some (.fr,z.1.2)) z.2 else none
def yM{Z:GP}{J:VS.Env}{O:L2.St}{H H1:Hp}{t t':T}{Y:List Ky}{mk mv:Md}{p d:T}{y':Unit}{R:V}{E:Xi}{ck:Ex}{D:L2.St->Hp->Prop}(Jq:j7 G)(s:SR G Z J O H)(ht:J[i]?=some (some (.ow t)))(ek:keys way J=some Y)(JA:ck J=some (mk,p))(e5:pm (pA (mk,p) (mv,d)) Y t=some (t',y'))(Hr:aH H H1)(rv:Rp G H1 R d E)(fv:Fp Z J H mv E)(k:∀Z' H',SR G Z' (J.set i (some (.ow t'))) O H'->GZ Z J H Z' (J.set i (some (.ow t'))) H'->D O H'):FB (Ph G i way) (tE G ck) B3 R O H1 D:=by
   obtain⟨v,g1,g2⟩:=s.rp _ _ ht;obtain⟨w,x,F1,S,w1,w2,w3,M,w5⟩:=iw Y Jq g2 (s.nd i t ht) e5;refine⟨Z,J,t,Y,v,w,s.same Hr,ht,g1,ek,w1.same Hr,λH2 HQ=>⟨Z,J,mk,p,(s.same Hr).same HQ,JA,λkv q Fk IE rk fk=>?_⟩⟩;have A:aH H q:=(Hr.trans HQ).trans IE;have Ko:Rp G q R d E:=(rv.same HQ).same IE;have fin:∀P L,Chg G H w F1 S P L->D O P:=λP L g=>by
    obtain⟨F2,Nt⟩:=w5 P L g;obtain⟨z1,z2⟩:=s.mut ht g1 Nt;exact k _ P z1 z2
   refine L2.gI λP_ k_=>?_;cases x with
   |lst l =>
    cases p with
    |int n =>
     obtain⟨tt,et,e7⟩:=Zz.mp (show ((fit (mv,d)).bind λt=>(Hu l.length n).map λj=>(T.lst (l.set j t),()))=some (S,y') from M);obtain⟨j,ej,e8⟩:=Zw.mp e7;cases e8;have em:=ma et;cases em;obtain⟨a,y,Fs,rfl,rfl,Q,B⟩:=w2.lst_inv;have N:q a=some (.lst y):=A a _ Q;have nd:=Zf.mp w3;have na:a∉E:=λz=>by rw[fv.2 a z]at Q;cases Q
     have C:GQ (q a):=by rw[N];exact True.intro
     have off:∀b∈Fs.flatten,b∉E:=λb hb hv=>GQ.p0 (B.GX b hb) (fv.2 b hv);refine k_ ?_;refine .inl ⟨a,y,n,j,rfl,rk.int_inv,N,by rw[← sP,B.len.1];exact ej,fin _ (a :: (Fs.set j E).flatten) ?_⟩;have keep:∀{u:V}{x:T}{F:Xi},Rp G q u x F->a∉F->Rp G (upd q a (.lst (y.set j R))) u x F:=λr hn=>r.keep (Kept.upd (.inl C)) λb hb o' JM=>by rw[ay (λz=>hn (by rw[← z];exact hb))];exact JM
     refine Chg.upd A Zx C (.lst aw ((((B.same A).off C nd.1)).putAt j (keep Ko na))) ?_ ?_
     ·rw[Zf];refine⟨λh=>?_,d8 nd.2 fv.1 λi' L _ hi b hb=>off b (cT hi hb)⟩;rcases cG h with z | ⟨i',L,_,h1,h2⟩
      ·exact na z
      ·exact nd.1 (cT h1 h2)
     ·intro b hb;rcases Zo.mp hb with rfl | hb
      ·exact .inl Zx
      ·rcases cG hb with z | ⟨i',L,_,h1,h2⟩
       ·exact .inr (fv.2 b z)
       ·exact .inl (Zy _ (cT h1 h2))
    |_=>cases M
   |dct kd l =>
    cases kd with
    |zero =>
     have hc:(fL p=true/\GO d=true/\l.length<dY)/\S=.dct 0 (dput l p d):=by
      have Mw:(if fL p/\GO d/\l.length<dY then some (T.dct 0 (dput l p d),()) else none)=some (S,y'):=M;split at Mw
      ·rename_i hc;cases Mw;exact⟨hc,rfl⟩
      ·cases Mw
     obtain⟨⟨c1,c2,c3⟩,rfl⟩:=hc;have eF:=Ko.GO c2;subst eF;obtain⟨a,ns,y,ts,Fs,rfl,rfl,Q,hl,rfl,B⟩:=cO w2;obtain⟨kk,rfl,JR⟩:=c8 rk c1;subst JR;have N:q a=some (.dK (ns.zip y)):=A a _ Q;have C:GQ (q a):=by rw[N];exact True.intro
     have nd:=Zf.mp w3;obtain⟨MI,Ip,HF,Ic,q1,q2,q3,q4,U⟩:=p8 (kk:=kk) Ko hl (B.same A);have ln:(ns.zip y).length<sizeLine:=by
      have:((ns.map aB).zip ts).length<16777216:=c3;rw[Ju,Zu]at this;rw[Ju];have:=B.len.1;have:(sizeLine:Nat)=16777216:=rfl;lia
     refine k_ ?_;refine .inr ⟨a,_,rfl,si.k N ln,fin _ (a :: Ic.flatten) ?_⟩;rw[q1,q3];refine Chg.upd A Zx C (.dct aw q2 (q4.off C λz=>nd.1 (U.subset z))) ?_ ?_
     ·exact Zf.mpr ⟨λz=>nd.1 (U.subset z),nd.2.sublist U⟩
     ·intro b hb;rcases Zo.mp hb with rfl | hb
      ·exact .inl Zx
      ·exact .inl (Zy _ (U.subset hb))
    |succ n=>cases M
   |_=>cases M
def vp{w:Nat}{b:Expr}{l:Ex}{d:Pos}(U:j7 G)(B:GJ w X.A)(E:JT G X o i way)(F:PV G X b l)(M:PX G X e x)(N:∀v,assign (.Subscript o b d) X.env v=(do
   let j ← holding [v] (eval o X.env)
   let iv ← holding [v,j] (eval b X.env)
   standAt d
   holding [v,j,iv] (setItem j iv v)
   release [v,j,iv] []))(z:swapsWithSole [.Subscript o b d] e pos.line X.env=pure false)(hw:swappedStores [.Subscript o b d] e X.env=pure none)(P:(assignEach [.Subscript o b d] X.env).map (·.2)=[assign (.Subscript o b d) X.env]):PSV G X (.Assign [.Subscript o b d] e pos) (lQ i way l x) :=
 PS.weak (pB M (pI E F (uH (jy B)) N) z hw P) λD O H C=>by
  obtain⟨Z,J,out,s,e,k⟩:=C;unfold lQ at e;obtain⟨⟨v,J'⟩,e1,e2⟩:=Zz.mp e;split at e2
  ·rename_i L;refine⟨Z,J,v,J',s,e1,L,λu H' Z' q f r=>?_⟩;unfold gv at e2;obtain⟨⟨mv,tv⟩,ev,e2⟩:=Zz.mp e2;cases ev;split at e2
   ·rename_i t y;obtain⟨ks,Q,e2⟩:=Zz.mp e2;obtain⟨⟨mk,tk⟩,Y,e2⟩:=Zz.mp e2;obtain⟨⟨t',y'⟩,S,R⟩:=Zw.mp e2;cases R;exact yM U q y Q Y S (aH.refl H') r (mv:=.fr) ⟨Yx,λa h=>nomatch h⟩ λZ2 H2 p n=>k _ O H2 p (f.trans n)
   ·cases e2
  ·cases e2
end
end VS
end
section
namespace L2
open PySem PySem.Spec PyProof.Rows
def uf{X:Cx}:dI X (.type "dict") (λf H Q=>∃(d:Addr)(a:List (Key×V)),f=[.ref d]/\H d=some (.dK a)/\∀l,H l=none->Q (.ref l) (upd H l (.dK a))):=by
 intro pins s O H f v Q I j h;obtain⟨d,a,rfl,hd,q⟩:=h;obtain⟨u,rfl,m⟩:=j.one;cases m;obtain⟨g,r,t,rel,n⟩:=oq I.GL hd;refine PySem.kt_call_dict r n (by rw[← Xq rel];exact g) λw p i=>?_;exact⟨.ref s.heap.objs.size,_,I.laid (t':=s.toks) (λb o e=>(i.2 b (Zb (ZW e))).trans (Zi _ e)) (Zh _) (m8 g (beq_eq_false_iff_ne.mpr (Yq (Zb I.big))) rel p),rfl,q _ (I.GL.fresh (Zh _))⟩
end L2
namespace VS
open PySem PySem.Spec PyProof.Rows L2
noncomputable def ll:W6->W7
 |[(_,.dct 0 l)]=>if cZ (l.map (·.2))=true then some (.fr,.dct 0 l) else none
 |_=>none
section
variable{G:Gx}{X:Cx}{a b e o:Expr}{ca cb ce:Ex}{cs:Hf}{p pos pe apos:Pos}{k kr:Nat}
def yb:fC G (λs H Q=>∃(d:Addr)(n:List (Key×V)),s=[.ref d]/\H d=some (.dK n)/\∀l,H l=none->Q (.ref l) (upd H l (.dK n))) ll:=by
 intro Z J L H l u C m t Q A e k;unfold ll at e;split at e
 ·rename_i E x;split at e
  ·rename_i j;cases e;obtain⟨v,F,rfl,rfl,r⟩:=(show RpL G H u [.dct 0 x] C from A.rp).one;obtain⟨a,ns,w,D,B,rfl,rfl,y,i,rfl,f⟩:=cO r;refine⟨a,_,rfl,y,λq h=>?_⟩;have g:aH H (upd H q (.dK (ns.zip w))):=cK h;rw[WU (by rw[Zu,i,f.len.1];exact Zh _)]at j;have z:=f.GO j;refine k _ _ (q :: B.flatten) g (.dct aw i (f.same g)) ?_;rw[z];exact Fp.new (A.same.free h) (by simp) Fp.nil
  ·cases e
 ·cases e
def Ad(d:X.mg "dict" = none)(g:HP G X [e] cs)(f:Gl X "dict")(he:K1 e [] X):PV G X (.Call (.Name "dict" p) [e] [] pos) (eN ll cs) :=
 ji uf yb f d uK g (he:=he) (hpl:=rfl)
def DU{i d:Int}{j h:Nat}{q g:Pos}:PV G X (.Dict [some (.Constant (.int i) j q)] [.Constant (.int d) h g] pos) (nk 0 [(Q2 i,Q2 d)]) :=
 PE.weak (uS (qT p9 p9 ux) rfl rfl (by simp) (by show 1<=15;decide)) λO H Q l=>by
  obtain⟨Z,J,m,r,s,e,k⟩:=l;cases (show some (Md.fr,T.dct 0 [(.int i,.int d)])=some (m,r) from e);intro p f;refine⟨aw,[(Sum.inl i,.int d)],rfl,(by show 1<=15;decide),?_⟩;rw[Ao];have:Rp G (upd H p (.dK [(Sum.inl i,V.int d)])) (.ref p) (.dct 0 ((([Sum.inl i]:List Key).map aB).zip [.int d])) (p :: ([[]]:Yd).flatten) :=
   .dct (ks:=[Sum.inl i]) (vs:=[V.int d]) aw rfl (.cons (.int d) .nil)
  exact k _ _ _ (cK f) this ⟨by simp,λb hb=>by simp at hb;rw[hb];exact f⟩
noncomputable def vO(x y:Val):W7:=match x.2 with
 |.dct 0 l=>if fL y.2 then some (match cR l y.2 with | some t=>sub x.1 t | none=>(.fr,.non)) else none
 |_=>none
def w_get(E:GJ kr X.A)(M:PV G X o ca)(R:PV G X e cb)(G2:attributeBase o "get" X.env (eval o X.env)=eval o X.env)(Hj:((backTo pe (starEach [e] X.env)).all (λx=>!x.1)&&(backToKw pe (keywordEach [] X.env)).all (λx=>x.1.isSome)
   && decide (([e]:List Expr).length+([]:List Keyword).length+(if ([]:List Keyword).isEmpty then 0 else 1)<30))=true)(GW:(apos.endLine==pe.line)=true)(VF:backTo pe (starEach [e] X.env)=[(false,eval e X.env)]):PV G X (.Call (.Attribute o "get" apos) [e] [] pe) (e2 vO ca cb) :=
 PE.weak (yK (jy E) M R ⟨G2,Hj,GW,VF⟩) λO H Q L=>by
  obtain⟨Z,J,m,r,s,e,t⟩:=L;unfold e2 at e;obtain⟨⟨C,x⟩,ea,e⟩:=Zz.mp e;obtain⟨⟨B,y⟩,eb,e⟩:=Zz.mp e;unfold vO at e;split at e
  ·rename_i l u;dsimp only at u;subst u;split at e
   ·rename_i P;have d:=Zm e;refine⟨Z,J,C,_,s,ea,λv H1 F1 n r1 f1=>?_⟩;obtain⟨a,ks,vs,ts,Fs,rfl,rfl,h,N,rfl,q⟩:=cO r1;refine⟨a,rfl,.inl ⟨_,.inl h⟩,Z,J,B,y,s.same n,eb,λv2 w F2 g r2 f2=>?_⟩;obtain⟨D,rfl,Y⟩:=c8 r2 P;dsimp only at d;rw[Y]at d;rcases jl (k:=D) N (q.same g) with⟨U,S⟩ | ⟨i,v,z,F,a1,a2,a3,a4,j⟩
    ·rw[U]at d;cases d;refine⟨_,hU.k (g a _ h),?_⟩;rw[S];exact t .non w [] (n.trans g) .non Fp.nil
    ·rw[a1]at d;refine⟨_,hU.k (g a _ h),?_⟩;rw[a2];have f:=((f1.sub (Yl _ _)).sub (bM a4)).up j;unfold VS.sub at d;dsimp only at d;rw[d]at f;have et:z=r:=congrArg Prod.snd d;rw[et]at j;exact t v w F (n.trans g) j f
   ·cases e
  ·cases e
noncomputable def lq(x y:Val):W7:=match x.2 with
 |.dct 3 l=>if fL y.2 then (cR l y.2).map (sub x.1) else none
 |_=>none
def mV{H:Hp}{v:V}{l:List (T×T)}{F:Xi}(r:Rp G H v (.dct 3 l) F):∃(a:Addr)(o:Obj)(ks:List Key)(d:List V)(f:W8)(i:Yd),v=.ref a/\F=i.flatten/\H a=some (.frz o (.dK (ks.zip d)))/\ks.length=d.length/\l=(ks.map aB).zip f/\RpL G H d f i:=by
 generalize g:T.dct 3 l=z at r;cases r with
 |dctZ h j q=>cases g;exact⟨_,_,_,_,_,_,rfl,rfl,h,j,rfl,q⟩
 |_=>cases g
def DD:fK G (EH G.K) lq:=by
 intro Z J R H x y u w Y U m t Q d e k;obtain⟨O,x⟩:=x;unfold lq at e;split at e
 ·rename_i l h;dsimp only at h;subst h;split at e
  ·rename_i r;obtain⟨N,e1,e2⟩:=Zw.mp e;obtain⟨a,o,ks,E,L,S,rfl,rfl,s,n,rfl,q⟩:=mV d.r1;obtain⟨g,rfl,A⟩:=c8 d.r2 r;rw[A]at e1;rcases jl (k:=g) n q with⟨z,_⟩ | ⟨i,v,M,F,D,C,P,B,j⟩
   ·rw[z]at e1;cases e1
   ·rw[D]at e1;cases e1;cases e2;refine .inr ⟨a,v,rfl,.inl ⟨_,g,.inr ⟨o,s⟩,rfl,C.symm⟩,?_⟩;have f:=(d.f1.sub (bM B)).up j;exact k v H F (aH.refl _) j f
  ·cases e
 ·cases e
def yh(f:GJ kr X.A)(i:PV G X a ca)(g:PV G X b cb)(d:fM b:=by exact λ_ _=>rfl)(j:X.K=G.K:=by exact rfl):PV G X (.Subscript a b pos) (e2 lq ca cb) :=
 PE.weak (lF (Ih.or jU (pZ (jy f))) i g d) λO H Q h=>by rw[j];exact mP DD h
end
noncomputable def eNew(c:Nat)(g:Mt)(b:Hf):Ex:=λJ=>(b J).bind λa=>if bj (trees a)=true then (g [] (trees a)).bind λz=>if gA z.1=true/\Nl z.2=true then some (.fr,.obj (c+1) ((0,.bl false) :: z.1)) else none else none
noncomputable def gE(c:Nat)(g:Fn)(d:Ex)(b:Hf):Ex:=λJ=>(d J).bind λx=>match x.2 with
 |.obj e (_ :: _)=>if e=c+1 then (b J).bind λa=>(g (x.2 :: trees a)).bind λr=>match r.1 with
  |.fr=>some r
  |_=>none else none
 |_=>none
theorem zL{α:Type}:∀(l:List α)(a:Yd),Hm (l.map λ_=>false) a=[]
 |[],_=>by simp[Hm]
 |_ :: _,[]=>by simp[Hm]
 |_ :: l,F :: a=>by
  rw[Zl,Hm,Zp ZX,YD];exact zL l a
theorem zJ:∀(mv:List Bool)(d:Yd),∀a∈Jz mv d,a∈d.flatten
 |[],_,a,h=>by simp[Jz]at h
 |_ :: _,[],a,h=>by simp[Jz]at h
 |b :: bs,F :: d,a,h=>by
  rw[Jz]at h;rw[ZR];rcases Ze.mp h with h | h
  ·cases b with
   |true=>simp at h
   |false=>exact Kc _ (by simpa using h)
  ·exact ZU _ (zJ bs d a h)
section
variable{G:Gx}{X:Cx}{i c k k':Nat}{o e:Expr}{es:List Expr}{cs:Hf}{ca:Ex}{m x:Str}{f:Addr}{fd:FuncData}{ps:List Str}{g:Mt}{h:Fn}{apos pos p:Pos}
def A1{G:Gx}{H:Hp}{u:V}{t:T}{F:Xi}(r:Rp G H u t F)(h:Nl t=true):u=.non:=by
 cases r with
 |non=>rfl
 |_=>cases h
def D8{O:L2.St}{H:Hp}{Q:VK}{E:XK}{t:TA}(F:∀n,FnOk X.prog X.w X.K X.mg X.base Hx k f fd ps (Lz G c (List.replicate n false) g)->True)(ht:∀Z J d O H (R:List V->Hp->Prop),SR G Z J O H->cs J=some d->(∀vs j Fs,aH H j->RpL G j vs (trees d) Fs->LX Z J H d Fs->R vs j)->t O H R)(n:Nat)(hn:∀J d,cs J=some d->d.length=n)(hq:tE G (eNew c g cs) O H Q):BP (G.ct (c+1)).1 (Lz G c (List.replicate n false) g) [] E t O H Q:=by
 obtain⟨Z,J,mo,r,s,e,kq⟩:=hq;unfold eNew at e;obtain⟨d,P,e1⟩:=Zz.mp e;split at e1
 ·rename_i RR;obtain⟨⟨Iy,y⟩,eg,e2⟩:=Zz.mp e1;split at e2
  ·rename_i N;cases e2;have lx:=hn J d P;refine ht Z J d O H _ s P λvs M Gs D U P4 a A B WH ne=>?_;have S:H a=none:=D.free B;have L:aH M (upd (upd M A (.own a)) a (.ins (G.ct (c+1)).1 A [])):=λb v q=>by
    rw[ay (λz=>by rw[z,B]at q;cases q),ay (λz=>by rw[z,WH]at q;cases q)];exact q
   have em:List.replicate n false=(List.range n).map λ_=>false:=by rw[List.map_const',ZJ]
   have C:Hm (List.replicate n false) Gs=[]:=by rw[em];exact zL _ _
   have fresh:∀b,(upd (upd M A (.own a)) a (.ins (G.ct (c+1)).1 A [])) b=none->H b=none:=λb z=>D.free (L.free z);refine⟨a,vs,[],trees d,[a],Gs,Iy,y,by rw[ZV],.ins (ks:=[]) (vs:=[]) (ts:=[]) (Fs:=[]) aw rfl (λ_=>rfl) .nil,(U.same L).at (JI a) RR,?_,?_,?_,eg,λu j F' l ru=>⟨A1 ru N.2,?_⟩⟩
   ·simp[trees,lx]
   ·rw[C];simp
   ·rw[C];intro b hb Ho;have:b=a:=by simpa using hb
    subst this;exact GQ.p0 (U.GX b (zJ _ _ b Ho)) B
   ·rw[C,ZV]at l;have back:Rp G j (.ref a) (.obj (c+1) ((0,.bl false) :: Iy)) F':=by
     obtain⟨c2,a2,dx2,b2,Vo,Mx,UO,O0,OI,Sw,eb2,Su,Sy,R3,JO,Ov,Y⟩:=gK l.rp;cases OI;cases Sw;subst Su;rw[Sy];exact .ins R3 JO (λz=>nomatch z) (Y.at G.me (ie (JO.trans Y.len.1) N.1))
    refine kq (.ref a) j F' (λb v q=>l.keep b v (λz=>?_) (L b v (D b v q))) back ⟨l.nd,λb hb=>?_⟩
    ·have:b=a:=by simpa using z
     rw[this,S]at q;cases q
    ·rcases l.sub b hb with z | z
     ·have:b=a:=by simpa using z
      rw[this];exact S
     ·exact fresh b z
  ·cases e2
 ·cases e1
def Ca(M:Mk X.K (G.ct (c+1)).1 f)(F:FnOk X.prog X.w X.K X.mg X.base Hx k f fd ps (Lz G c [] g))(b:GJ k' X.A)(j:k+1<=k')(l:Gl X x)(d:X.mg x=some (.ref (G.ct (c+1)).1))(n:Binds X.K fd ps [])(q:K3 x):PV G X (.Call (.Name x p) [] [] pos) (eNew c g ah) :=
 PE.weak (zC (E:=E0) M F (b.mono j) l d n .nil ou q) λO H Q h=>D8 (X:=X) (k:=k) (f:=f) (fd:=fd) (ps:=ps) (t:=wu) (λ_ _=>True.intro) (λZ J a O H R s e k=>by
  cases (show some ([]:W6)=some a from e);exact k [] H [] (aH.refl _) .nil ⟨λi v F h=>by simp at h,by simp[HS]⟩) 0 (λJ a e=>by
  cases (show some ([]:W6)=some a from e);rfl) h
theorem u7{g:Nat->Str}(b:∀k,g k≠m):∀(ns:W0)(a:List V),((ns.map g).zip a).lookup m=none
 |[],a=>by simp
 |_ :: _,[]=>by simp
 |n :: ns,v :: a=>by
  rw[Zl,Za,YY];have:(m==g n)=false:=by
   rw[beq_eq_false_iff_ne];exact λz=>b n z.symm
  rw[this];exact u7 b ns a
def uF{O:L2.St}{H:Hp}{Q:VK}{E:XK}{t:TA}(S:∀k,(G.ct (c+1)).2 k≠m)(N:∀Z J d O H (R:List V->Hp->Prop),SR G Z J O H->cs J=some d->(∀l j A,aH H j->RpL G j l (trees d) A->LX Z J H d A->R l j)->t O H R)(P:tE G (gE c h ca cs) O H Q):ur (G.ct (c+1)).1 m (Jy G h) [] E (tE G ca) t O H Q:=by
 obtain⟨Z,J,mo,r,s,e,M⟩:=P;unfold gE at e;obtain⟨⟨L,y⟩,ea,e1⟩:=Zz.mp e;split at e1
 ·rename_i c' q0 fs B;dsimp only at B;subst B;split at e1
  ·rename_i U;subst U;obtain⟨d,el,e2⟩:=Zz.mp e1;obtain⟨⟨n,F⟩,eg,q⟩:=Zz.mp e2;refine⟨Z,J,L,_,s,ea,λv H1 F1 w r1 f1=>?_⟩;obtain⟨c2,a,dx,b,ns,l,ts,A,ec,rfl,eb,ef,eF,Y,hl,hb,ra⟩:=gK r1;cases ec;refine⟨a,dx,_,rfl,Y,u7 S _ _,N Z J d O H1 _ (s.same w) el λus H2 Gs z Pn P2=>?_⟩;rw[ZV];refine⟨_ :: trees d,F1 :: Gs,n,F,.cons (r1.same z) Pn,eg,λu j F' IE D C=>?_⟩;cases n with
   |fr =>
    cases q;exact M u j F' ((w.trans z).trans IE) D ⟨C.1,λb hb=>w.free (z.free (C.2 b hb))⟩
   |pu=>cases q
   |bo=>cases q
  ·cases e1
 ·cases e1
def C4{j:Sem Bool}(u:∀k,(G.ct (c+1)).2 k≠m)(r:PV G X o ca)(z:Io X.K (G.ct (c+1)).1)(v:Meth X.K (G.ct (c+1)).1 m f)(F:FnOk X.prog X.w X.K X.mg X.base Hx k f fd ps (Jy G h))(n:GJ k' X.A)(y:k<=k')(B:Binds X.K fd ps [])(C:HP G X (e :: es) cs)(D:K1 e es X)(a:K2 pos es X)(l:eval (.Call (.Attribute o m apos) (e :: es) [] pos) X.env=(do
   let b ← eval o X.env
   standAt apos.atName
   let (f,first) ← holding [b] (getMethod b m j)
   callWith pos f first (backTo pos (starEach (e :: es) X.env)) (backToKw pos (keywordEach [] X.env)))):PV G X (.Call (.Attribute o m apos) (e :: es) [] pos) (gE c h ca cs) :=
 PE.weak (uY (E:=E0) r z v F (n.mono y) B .nil ou C D a l) λO H Q q=>uF (t:=Ng G cs) u (λZ J d O H R s e k=>⟨Z,J,d,s,e,k⟩) q
def AB{d:Sem Bool}(r:∀k,(G.ct (c+1)).2 k≠m)(n:PV G X o ca)(z:Io X.K (G.ct (c+1)).1)(u:Meth X.K (G.ct (c+1)).1 m f)(F:FnOk X.prog X.w X.K X.mg X.base Hx k f fd ps (Jy G h))(l:GJ k' X.A)(y:k<=k')(B:Binds X.K fd ps [])(j:eval (.Call (.Attribute o m apos) [] [] pos) X.env=(do
   let a ← eval o X.env
   standAt apos.atName
   let (f,first) ← holding [a] (getMethod a m d)
   callWith pos f first (backTo pos (starEach [] X.env)) (backToKw pos (keywordEach [] X.env)))):PV G X (.Call (.Attribute o m apos) [] [] pos) (gE c h ca ah) :=
 PE.weak (zh (E:=E0) n z u F (l.mono y) B .nil ou j) λO H Q q=>uF (t:=wu) r (λZ J b O H R s e k=>by
  cases (show some ([]:W6)=some b from e);exact k [] H [] (aH.refl _) .nil ⟨λi v F h=>by simp at h,by simp[HS]⟩) q
end
noncomputable def mU(i:Nat)(a:List Jw)(j:Nat)(J:VS.Env):Option Out:=match (J[i]?:Option (W5)),(J[j]?:Option (W5)) with
 |some (some (.ow t)),some (some (.ow u))=>if i≠j then (keys a J).bind λks=>(pm (λx=>aN x [(.fr,u)]) ks t).map λz=>.nx ((J.set j none).set i (some (.ow z.1))) else none
 |_,_=>none
open Classical in
noncomputable def less(H:Hp)(F:Xi):Hp:=λb=>if b∈F then none else H b
section
variable{G:Gx}{X:Cx}{i j:Nat}{way:List Jw}{o:Expr}{y:Str}{apos pe pos p1:Pos}
def pK{H:Hp}{F:Xi}{b:Addr}(h:b∈F):less H F b=none:=Zq h
def g7{H:Hp}{F:Xi}{b:Addr}(h:b∉F):less H F b=H b:=Zp h
def ic{H:Hp}{F:Xi}{b:Addr}{o:HO}(h:less H F b=some o):H b=some o/\b∉F:=by
 by_cases q:b∈F
 ·rw[pK q]at h;cases h
 ·rw[g7 q]at h;exact⟨h,q⟩
def wq{H:Hp}{F:Xi}(h:∀b∈F,GQ (H b)):Kept H (less H F) :=
 ⟨λb a e=>by
  rw[g7 (λz=>by have:=h b z;rw[e]at this;exact this)];exact e,λb o u e=>by
  rw[g7 (λz=>by have:=h b z;rw[e]at this;exact this)];exact e⟩
def Au(Jq:j7 G)(ho:JT G X o i way)(hK:X.K=G.K)(hN:X.N[j]?=some y)(hv:Ir X.env.scope y)(hd:K3 y)(hcd:K4 y)(G2:attributeBase o "append" X.env (eval o X.env)=eval o X.env)(Hj:((backTo pe (starEach [.Name y p1] X.env)).all (λx=>!x.1)&&(backToKw pe (keywordEach [] X.env)).all (λx=>x.1.isSome)
   && decide ([Expr.Name y p1].length+([]:List Keyword).length+(if ([]:List Keyword).isEmpty then 0 else 1)<30))=true)(GW:(apos.endLine==pe.line)=true)(hs:starEach [.Name y p1] X.env=(false,eval (.Name y p1) X.env) :: starEach [] X.env)(GT:(backTo pe (starEach [] X.env)).any (·.1)=false)(HV:swapsWith (.Call (.Attribute o "append" apos) [.Name y p1] [] pe) none pos.line X.env=pure false) :
  PSV G X (.Expr (.Call (.Attribute o "append" apos) [.Name y p1] [] pe) pos) (mU i way j) :=
 PS.weak (iE (lJ Y3 YA YB fQ ho (cP (dM hN hv hd hcd) fD hs) G2 Hj GW hs GT) HV) λD O H hq=>by
  obtain⟨Z,J,out,s,e,k⟩:=hq;unfold mU at e;split at e
  ·rename_i t u ht C;split at e
   ·rename_i RF;obtain⟨ks,ek,e3⟩:=Zz.mp e;obtain⟨⟨M,x2⟩,e5,e6⟩:=Zw.mp e3;cases e6;obtain⟨L,j1,j2⟩:=s.rp _ _ C;have To:Rp G H L u (Z j):=j2;have QL:=s.nd j u C;have mj:∀b∈Z j,GQ (H b):=To.GX;have kp:=wq mj;have Qx:∀f B,f≠j->J[f]?=some (some B)->∀b∈Z f,b∉Z j:=λf B n h b hb Ho=>s.sep j f u B C h (Yq n) b Ho hb;have Y:SR G Z (J.set j none) O (less H (Z j)):=⟨(s.drop j).len,λf B h=>by
     obtain⟨n,h'⟩:=cI h;obtain⟨v,Q,h2⟩:=s.rp f B h';exact⟨v,Q,h2.keep kp λb hb d PL=>by rw[g7 (Qx f B n h' b hb)];exact PL⟩,(s.drop j).nd,(s.drop j).sep⟩
    have Rh:(J.set j none)[i]?=some (some (.ow t)):=by
     rw[Yt (Yq RF)];exact ht
    obtain⟨v,Q,h2⟩:=Y.rp _ _ Rh;obtain⟨w,x,F1,x3,w1,w2,w3,F,w5⟩:=iw ks Jq h2 (Y.nd i t Rh) e5;unfold aN at F;split at F
    ·rename_i l yv heq;cases heq;obtain⟨z,ez,e7⟩:=Zz.mp F;cases (show some u=some z from ez);split at e7
     ·rename_i hl;cases e7;obtain⟨a,U,Gs,rfl,rfl,ha,ra⟩:=w2.lst_inv;obtain⟨RS,PY⟩:=ic ha;have UL:Ib G H ks v (.ref a):=by
       have:∀{ks:List Ky}{v w:V},Ib G (less H (Z j)) ks v w->Ib G H ks v w:=by
        intro ks v w p
        induction p with
        |nil v=>exact .nil v
        |fld h l _ r=>exact .fld (ic h).1 l r
        |ix h l m _ r=>exact .ix (ic h).1 l m r
        |key h l _ r=>exact .key (ic h).1 l r
        |un _ r=>exact .un r
       exact this w1
      refine⟨Z,J,t,ks,v,.ref a,s,ht,Q,ek,UL,λR A=>⟨.inl ⟨rfl,U,by rw[hK];exact GY.of (A a _ RS)⟩,L,j1,a,U,L,rfl,rfl,A a _ RS,by rw[ra.len.1];exact hl,?_⟩⟩;have P:GQ (R a):=by rw[A a _ RS];exact True.intro
      have N2:=Zf.mp w3;have QD:∀b∈Gs.flatten,b∉Z j:=λb hb Ho=>by
       have:=ra.GX b hb;rw[pK Ho]at this;exact this
      have E:∀b d,less H (Z j) b=some d->R b=some d:=λb d h=>A b d (ic h).1;have kl:Kept (less H (Z j)) R:=⟨λb xs h=>E b _ h,λb d u h=>E b _ h⟩
      have g:Chg G (less H (Z j)) (.ref a) (a :: Gs.flatten) (.lst (l++[u])) (upd R a (.lst (U++[L]))) (a :: (Gs++[Z j]).flatten):=by
       refine⟨kl.trans (Kept.upd (.inl P)),λb d hb h=>by rw[ay (λz=>hb (by rw[z];exact Zx))];exact E b d h,λb h z=>?_,.lst aw ((RpL.off (ra.keep kl λb hb d h=>E b d h) P N2.1).append (.cons (((To.same A)).keep (Kept.upd (.inl P)) λb hb d ho=>by rw[ay (λz=>PY (by rw[← z];exact hb))];exact ho) .nil)),?_,λb hb=>?_⟩
       ·by_cases q:b=a
        ·rw[q,aw]at z;cases z
        ·rw[ay q]at z;cases e:less H (Z j) b with
         |none=>exact h e
         |some d=>rw[E b d e]at z;cases z
       ·rw[Yp];refine Zf.mpr ⟨λm=>?_,ZO.mpr ⟨N2.2,by simpa using QL,λb hb c hc z=>?_⟩⟩
        ·rcases Ze.mp m with m | m
         ·exact N2.1 m
         ·exact PY (by simpa using m)
        ·subst z;exact QD b hb (by simpa using hc)
       ·rcases Zo.mp hb with rfl | hb
        ·exact .inl Zx
        ·rw[Yp]at hb;rcases Ze.mp hb with hb | hb
         ·exact .inl (Zy _ hb)
         ·exact .inr (pK (by simpa using hb))
      obtain⟨F2,g2⟩:=w5 _ _ g;obtain⟨z1,S⟩:=Y.mut Rh Q g2;have back:∀b,less H (Z j) b=none->bw Z J b\/H b=none:=λb h=>by
       by_cases q:b∈Z j
       ·exact .inl ⟨j,u,C,q⟩
       ·rw[g7 q]at h;exact .inr h
      have Kh:∀b,bw Z (J.set j none) b->bw Z J b:=λb ⟨j',M,q1,q2⟩=>⟨j',M,(cI q1).2,q2⟩
      have Vb:∀b,cM Z (J.set j none) b->cM Z J b:=λb ⟨j',M,q1,q2⟩=>⟨j',M,(cI q1).2,q2⟩
      refine k _ O _ z1 ⟨λb d h n=>?_,λb h z=>?_,λb h=>?_,λb h=>?_,(Kept.of A).trans (Kept.upd (.inl P))⟩
      ·have nj:b∉Z j:=λz=>n ⟨j,u,C,z⟩;exact S.keep b d (by rw[g7 nj];exact h) λz=>n (Kh b z)
      ·by_cases q:b=a
       ·rw[q,aw]at z;cases z
       ·rw[ay q]at z;exact h (A.free z)
      ·rcases S.ow b h with h | h
       ·exact .inl (Kh b h)
       ·exact back b h
      ·rcases S.pu b h with h | h | h
       ·exact .inl (Vb b h)
       ·exact .inr (.inl (Kh b h))
       ·exact(back b h).elim (λz=>.inr (.inl z)) λz=>.inr (.inr z)
     ·cases e7
    ·cases F
   ·cases e
  ·cases e
end
end VS
end
section
namespace VS
open PySem PySem.Spec PyProof.Rows L2
noncomputable def isInt:T->Bool
 |.int _=>true
 |_=>false
noncomputable def rN(i:Nat):Jb:=λJ=>match (J[i]?:Option (W5)) with
 |some (some (.pu (.dct 3 l)))=>if (l.all λp=>isInt p.1)=true then some (.fr,l.map (·.1)) else none
 |_=>none
noncomputable def yI(i:Nat)(a:Tg)(b:Ex):Sx:=λJ=>match (J[i]?:Option (W5)) with
 |some (some (.ow (.dct 0 l)))=>(cz 1 a (rN i) none b (J.set i (some (.pu (.dct 3 l))))).bind λv=>match v.1 with
  |.fr=>some (.rt v (J.set i none))
  |_=>none
 |_=>none
theorem zip_inj{α β:Type}:∀{a c:List α}{b d:List β},a.length=b.length->c.length=d.length->a.zip b=c.zip d->a=c
 |[],[],_,_,_,_,_=>rfl
 |[],_ :: _,_,[],_,h,_=>by simp at h
 |[],_ :: _,[],_ :: _,_,_,h=>by simp at h
 |[],_ :: _,_ :: _,_ :: _,h,_,_=>by simp at h
 |_ :: _,_,[],_,h,_,_=>by simp at h
 |_ :: _,[],_ :: _,[],_,_,h=>by simp at h
 |_ :: _,[],_ :: _,_ :: _,_,h,_=>by simp at h
 |_ :: _,_ :: _,_ :: _,[],_,h,_=>by simp at h
 |x :: a,y :: c,z :: b,w :: d,f,e,h=>by
  rw[Za,Za]at h;obtain⟨e1,e2⟩:=XJ h;rw[zip_inj (by simpa using f) (by simpa using e) e2,(Xs e1).1]
section
variable{G:Gx}{X:Cx}{i:Nat}{elt tg:Expr}{sc:Scope}{pos pos' p1:Pos}{N:List Str}{x:Str}{g:Tg}{ce:Ex}
def Cp(i:Nat)(N:List Str)(G9:X.calm=true)(hN:X.N[i]?=some x)(hv:Ir X.env.scope x)(hd:K3 x)(S:K4 x)(Ij:vQ 1 g)(hg:∀cl C s H fp,Mq G (bR X N sc cl C s H fp) tg g)(he:∀cl C s H fp,PV G (bR X N sc cl C s H fp) elt ce)(IF:nH X.env sc=true)(Jm:kz sc (N.drop 1) X.N=true)(Jp:1<=N.length)(hs:∀y,foldedSetIterable (.Name x p1) X.env y=pure y) :
  PSV G X (.Return (some (.ListComp elt [⟨tg,.Name x p1,[],0⟩] sc pos)) pos') (yI i g ce) :=
 PS.weak (pb (pv G9 (BF (dM hN hv hd S)) IF Jm Jp (λcl C s H fp=>⟨hg cl C s H fp,kE,he cl C s H fp⟩) hs)) λD O H hq=>by
  obtain⟨Z,J,out,s,e,k⟩:=hq;unfold yI at e;split at e
  ·rename_i l B;obtain⟨⟨mv,tv⟩,ev,e1⟩:=Zz.mp e;have Mh:mv=.fr/\out=.rt (.fr,tv) (J.set i none):=by
    cases mv with
    |fr=>cases e1;exact⟨rfl,rfl⟩
    |pu=>cases e1
    |bo=>cases e1
   obtain⟨rfl,rfl⟩:=Mh;obtain⟨v,U,g2⟩:=s.rp _ _ B;obtain⟨a,ns,d,Q,P,rfl,Y,ha,Kj,rfl,ra⟩:=cO g2;have Hv:i<J.length:=(Zg.mp B).1;have nd:=s.nd i _ B;rw[Y]at nd;have Hn:=Zf.mp nd;refine⟨.ref a,U,a,ns.zip d,rfl,ha,λo=>?_⟩;have mu:GQ (H a):=by rw[ha];exact True.intro
   have kp:Kept H (upd H a (.frz o (.dK (ns.zip d)))):=Kept.upd (.inl mu);have es:O.set i (some (.ref a))=O:=by
    obtain⟨h,e⟩:=Zg.mp U;rw[← e];exact Wx h
   have aΦ:a∈Z i:=by rw[Y];exact Zx
   have sub:∀b∈P.flatten,b∈Z i:=λb hb=>by rw[Y];exact Zy _ hb
   have s1:SR G (jO Z i P.flatten) (J.set i (some (.pu (.dct 3 ((ns.map aB).zip Q))))) O (upd H a (.frz o (.dK (ns.zip d)))):=by
    have:=s.put (c:=.pu (.dct 3 ((ns.map aB).zip Q))) (v:=.ref a) (F:=P.flatten) (H':=upd H a (.frz o (.dK (ns.zip d)))) Hv (.dctZ aw Kj (ra.off mu Hn.1)) (λj c' n R w q=>q.keep kp λb hb ob ho=>by
     rw[ay (λz=>s.sep i j _ c' B R (Yq n) a aΦ (by rw[← z];exact hb))];exact ho) (λ_ z=>nomatch z) (λ_ z=>nomatch z) λj u n R b hb Ho=>s.sep j i u _ R B n b hb (sub b Ho)
    rw[es]at this;exact this
   have hT:tE G (cz 1 g (rN i) none ce) O (upd H a (.frz o (.dK (ns.zip d)))) D.rt:=by
    refine⟨_,_,.fr,tv,s1,ev,λu H' F M r f=>?_⟩;have ee:(J.set i (some (.pu (.dct 3 ((ns.map aB).zip Q))))).set i none=J.set i none:=by rw[List.set_set]
    have sd:=(s1.drop i).same M;rw[ee]at sd;have Kh:∀b,bw (jO Z i P.flatten) (J.set i none) b->bw Z J b:=λb ⟨j,t,A,m⟩=>by
     obtain⟨n,NT⟩:=cI A;rw[eY n]at m;exact⟨j,t,NT,m⟩
    refine k u H' F _ O sd ⟨λb ob h n=>?_,λb h z=>?_,λb h=>.inl (Kh b h),λb ⟨j,t,A,m⟩=>?_,kp.trans (Kept.of M)⟩ r ⟨f.1,λb hb=>.inl ?_⟩
    ·have nb:b≠a:=λz=>n ⟨i,_,B,by rw[z];exact aΦ⟩;exact⟨M b ob (by rw[ay nb];exact h),λz=>n (Kh b z)⟩
    ·have L:=M.free z;by_cases q:b=a
     ·rw[q,aw]at L;cases L
     ·rw[ay q]at L;exact h L
    ·obtain⟨n,NT⟩:=cI A;rw[eY n]at m;exact .inl ⟨j,t,NT,m⟩
    ·have:=f.2 b hb;by_cases q:b=a
     ·rw[q,aw]at this;cases this
     ·rw[ay q]at this;exact this
   obtain⟨Z2,J2,m2,l2,s2,e2,k2⟩:=lY (cond:=none) Ij hT;refine k2 (P9 a o (ns.zip d)) _ [] (aH.refl _) ?_ (λb hb=>nomatch hb);unfold rN at e2;split at e2
   ·rename_i l3 h3;split at e2
    ·rename_i hint;cases e2;obtain⟨v3,A,m⟩:=s2.rp _ _ h3;rw[U]at A;cases A;obtain⟨a3,o3,QX,Qt,NL,Fs3,Sv,_,Ik,MW,rfl,KO⟩:=mV m;cases Sv;rw[aw]at Ik;have hz:ns.zip d=QX.zip Qt:=HO.dK.inj (HO.frz.inj (Zm Ik)).2;have ek:=zip_inj Kj MW hz;subst ek;have em:((ns.map aB).zip NL).map (·.1)=ns.map aB:=X4 (by rw[Zu,MW,KO.len.1];exact Zh _);have zl:(ns.zip d).length=ns.length:=by rw[Ju,Kj,Nat.min_self]
     refine⟨λH2 MJ _=>⟨λn t E=>?_,λn E=>?_⟩,λb hb=>nomatch hb⟩
     ·rw[em,ZY]at E;obtain⟨kk,Lg,LM⟩:=Zw.mp E;have Oh:=(Zg.mp Lg).1;refine⟨⟨MJ.frz _ _ _ aw,by rw[zl];exact Oh⟩,λy H3 hy=>?_⟩;obtain⟨rfl,p,hp,rfl⟩:=hy;refine⟨aH.refl _,[],?_,λb hb=>nomatch hb⟩;have Oe:p.1=kk:=by
       have JL:(ns.zip d)[n]?=some p:=hp;rw[Yw]at JL;rw[Lg]at JL;exact(Zm JL.1).symm
      have hi:isInt t=true:=by
       have:=Ja.mp hint (t,NL[n]'(by rw[← KO.len.1,← MW];exact Oh)) (by
        refine Yc (i:=n) ?_;rw[Yw];exact⟨by rw[ZY,Lg];exact congrArg some LM,Zt _⟩)
       exact this
      rw[Oe,← LM];rw[← LM]at hi;cases kk with
      |inl n=>exact .int n
      |inr z=>cases hi
     ·refine⟨MJ.frz _ _ _ aw,?_⟩;rw[em,Zu]at E;rw[zl];exact E
    ·cases e2
   ·cases e2
  ·cases e
end
noncomputable def Ml(a:List Str)(k:Nat):Str:=match a[k]? with
 |some x=>x
 |none=>⟨#[k]⟩
noncomputable def M4(a:List Str)(K:Y2)(C D:Addr):Gx:=⟨K,λc=>(if c=2 then D else C,Ml a),λ_=>none⟩
def Bj{a:List Str}(i:a.Nodup)(h:∀x∈a,x.cps.size≠1)(k b:Nat)(e:Ml a k=Ml a b):k=b:=by
 unfold Ml at e;by_cases f:k<a.length
 ·by_cases d:b<a.length
  ·rw[Zt f,Zt d]at e;exact(WT i).mp e
  ·rw[Zt f,Kk (ZE d)]at e;have g:a[k]=(⟨#[b]⟩:Str):=e;exact absurd (by rw[g];rfl) (h _ (ZG f))
 ·by_cases d:b<a.length
  ·rw[Kk (ZE f),Zt d]at e;have g:(⟨#[k]⟩:Str)=a[b]:=e;exact absurd (by rw[← g];rfl) (h _ (ZG d))
  ·rw[Kk (ZE f),Kk (ZE d)]at e;have g:(⟨#[k]⟩:Str)=⟨#[b]⟩:=e;cases g;rfl
def BB{a:List Str}{K:Y2}{C D:Addr}{m:Me}(b:a.Nodup)(h:∀x∈a,x.cps.size≠1):j7 ((M4 a K C D).at m):=λ_ k d e=>Bj b h k d e
def jA{a:List Str}{x:Str}(h:x∉a)(d:x.cps.size≠1)(k:Nat):Ml a k≠x:=λe=>by
 unfold Ml at e;split at e
 ·rename_i y b;exact h (e ▸ Yc b)
 ·exact d (by rw[← e];rfl)
def Cs{a:List Str}{K:Y2}{C D:Addr}{m:Me}{k:Nat}{f:Str}(b:a[k]?=some f)(h:Io K C)(g:Io K D)(e:cY K C f)(d:cY K D f):Im ((M4 a K C D).at m) K k f :=
 ⟨λc=>by show Ml a k=f;unfold Ml;rw[b],λc=>by show Io K (if c+1=2 then D else C);split<;>assumption,λc=>by show cY K (if c+1=2 then D else C) f;split<;>assumption⟩
structure MtAt(P:Program)(w:World)(K:Y2)(mg:Xk)(base:Heap)(k:Nat)(G:Gx)(c:Nat)(x:Str)(ps:List Str)(mv:List Bool)(g:Mt):Prop where
 ex:∃f fd,FnOk P w K mg base Hx k f fd ps (Lz G c mv g)/\Meth K (G.ct (c+1)).1 x f/\Binds K fd ps []
 cl:Io K (G.ct (c+1)).1
 no:∀k,(G.ct (c+1)).2 k≠x
structure MpAt(P:Program)(w:World)(K:Y2)(mg:Xk)(base:Heap)(k:Nat)(G:Gx)(c:Nat)(x:Str)(ps:List Str)(h:Fn):Prop where
 ex:∃f fd,FnOk P w K mg base Hx k f fd ps (Jy G h)/\Meth K (G.ct (c+1)).1 x f/\Binds K fd ps []
 cl:Io K (G.ct (c+1)).1
 no:∀k,(G.ct (c+1)).2 k≠x
structure InAt(P:Program)(w:World)(K:Y2)(mg:Xk)(base:Heap)(k:Nat)(G:Gx)(c n:Nat)(x:Str)(ps:List Str)(g:Mt):Prop where
 ex:∃f fd,FnOk P w K mg base Hx k f fd ps (Lz G c (List.replicate n false) g)/\Mk K (G.ct (c+1)).1 f/\Binds K fd ps []
 mg:mg x=some (.ref (G.ct (c+1)).1)
section
variable{P:Program}{w:World}{K:Y2}{mg:Xk}{base:Heap}{k c n:Nat}{G:Gx}{x:Str}{ps:List Str}{mv:List Bool}{g:Mt}
theorem MtAt.at{m:Me}(h:MtAt P w K mg base k G c x ps mv g):MtAt P w K mg base k (G.at m) c x ps mv g:=⟨h.ex,h.cl,h.no⟩
theorem InAt.at{m:Me}(h:InAt P w K mg base k G c n x ps g):InAt P w K mg base k (G.at m) c n x ps g:=⟨h.ex,h.mg⟩
def pz{b:Str}{d:Stmt}{f:Addr}{m:FuncData}{N:List Str}{j l:Nat}{e:Sx}(F:GV K x b d f m)(q:Meth K (G.ct (c+1)).1 x f)(r:Io K (G.ct (c+1)).1)(v:∀k,(G.ct (c+1)).2 k≠x)(S:oe N ps (aq d))(o:ps.length=j)(p:N.length=l)(u:∀(kV doc pm:Value)(an:Option Addr)(h ct:Value)(i:Xg),i.length=ps.length->bindArgs (PySem.W.fnOf x b (dZ d) (bh d) (aq d) .none kV doc pm an h ct) ⟨i,[]⟩=pure (ps.zip i))(t:∀(a:Addr)(h:Value)(A:Around)(outer:List PySem.Env)(s:Shared)(H:Hp)(E:XK),GJ k (A.deeper (envOfC b (aq d) s.heap.objs.size f h))->ij (G.at (JI a)) (jr Hx P w K mg base N b (aq d) f h A outer s H E).J6 (bh d) e) :
  MtAt P w K mg base (k+1) G c x ps mv (JH c j l mv e):=⟨⟨f,m,T7 F S o p t,q,F.binds u⟩,r,v⟩
def C6{y b:Str}{d:Stmt}{f:Addr}{m:FuncData}{N:List Str}{j l:Nat}{e:Sx}(F:GV K y b d f m)(q:Mk K (G.ct (c+1)).1 f)(r:mg x=some (.ref (G.ct (c+1)).1))(S:oe N ps (aq d))(o:ps.length=j)(p:N.length=l)(u:∀(kV doc pm:Value)(an:Option Addr)(h ct:Value)(i:Xg),i.length=ps.length->bindArgs (PySem.W.fnOf y b (dZ d) (bh d) (aq d) .none kV doc pm an h ct) ⟨i,[]⟩=pure (ps.zip i))(t:∀(a:Addr)(h:Value)(A:Around)(outer:List PySem.Env)(s:Shared)(H:Hp)(E:XK),GJ k (A.deeper (envOfC b (aq d) s.heap.objs.size f h))->ij (G.at (JI a)) (jr Hx P w K mg base N b (aq d) f h A outer s H E).J6 (bh d) e) :
  InAt P w K mg base (k+1) G c n x ps (JH c j l (List.replicate n false) e):=⟨⟨f,m,T7 F S o p t,q,F.binds u⟩,r⟩
def sM{a:Str}{b:Stmt}{f:Addr}{l:FuncData}{N:List Str}{i j:Nat}{d:Sx}(F:GV K x a b f l)(p:Meth K (G.ct (c+1)).1 x f)(q:Io K (G.ct (c+1)).1)(u:∀k,(G.ct (c+1)).2 k≠x)(S:oe N ps (aq b))(m:ps.length=i)(o:N.length=j)(t:∀(kV doc pm:Value)(an:Option Addr)(e ct:Value)(h:Xg),h.length=ps.length->bindArgs (PySem.W.fnOf x a (dZ b) (bh b) (aq b) .none kV doc pm an e ct) ⟨h,[]⟩=pure (ps.zip h))(r:∀(e:Value)(A:Around)(outer:List PySem.Env)(s:Shared)(H:Hp)(E:XK),GJ k (A.deeper (envOfC a (aq b) s.heap.objs.size f e))->ij G (jr Hx P w K mg base N a (aq b) f e A outer s H E).J6 (bh b) d) :
  MpAt P w K mg base (k+1) G c x ps (fn i j d):=⟨⟨f,l,R6 F S m o r,p,F.binds t⟩,q,u⟩
end
section
variable{G:Gx}{X:Cx}{i j c k k' kr n:Nat}{way:List Jw}{o e b:Expr}{es:List Expr}{cs:Hf}{ca ck ce:Ex}{m x:Str}{ps:List Str}{mv:List Bool}{g:Mt}{h:Fn}{xc:Xx}{f:Str}{apos pe pos pos' p p1:Pos}
def ir{l:Sem Bool}(B:j7 G)(F:MtAt X.prog X.w X.K X.mg X.base k G c m ps mv g)(r:GJ k' X.A)(t:k<=k')(s:JT G X o i way)(u:HP G X (e :: es) cs)(C:K1 e es X:=by exact rfl)(a:K2 pos es X:=by exact rfl)(q:eval (.Call (.Attribute o m apos) (e :: es) [] pos) X.env=(do
   let d ← eval o X.env
   standAt apos.atName
   let (f,first) ← holding [d] (getMethod d m l)
   callWith pos f first (backTo pos (starEach (e :: es) X.env)) (backToKw pos (keywordEach [] X.env))):=by exact rfl):PX G X (.Call (.Attribute o m apos) (e :: es) [] pos) (b6 i way c mv g cs):=by
 obtain⟨f,fd,z,y,v⟩:=F.ex;exact A7 B F.no s F.cl y z r t v u C a q
def zU{l:Sem Bool}(F:MpAt X.prog X.w X.K X.mg X.base k G c m ps h)(r:GJ k' X.A)(t:k<=k')(s:PV G X o ca)(u:HP G X (e :: es) cs)(B:K1 e es X)(a:K2 pos es X)(q:eval (.Call (.Attribute o m apos) (e :: es) [] pos) X.env=(do
   let d ← eval o X.env
   standAt apos.atName
   let (f,first) ← holding [d] (getMethod d m l)
   callWith pos f first (backTo pos (starEach (e :: es) X.env)) (backToKw pos (keywordEach [] X.env)))):PV G X (.Call (.Attribute o m apos) (e :: es) [] pos) (gE c h ca cs):=by
 obtain⟨f,fd,z,y,v⟩:=F.ex;exact C4 F.no s F.cl y z r t v u B a q
def rY{d:Sem Bool}(F:MpAt X.prog X.w X.K X.mg X.base k G c m ps h)(q:GJ k' X.A)(s:k<=k')(r:PV G X o ca)(l:eval (.Call (.Attribute o m apos) [] [] pos) X.env=(do
   let a ← eval o X.env
   standAt apos.atName
   let (f,first) ← holding [a] (getMethod a m d)
   callWith pos f first (backTo pos (starEach [] X.env)) (backToKw pos (keywordEach [] X.env)))):PV G X (.Call (.Attribute o m apos) [] [] pos) (gE c h ca ah):=by
 obtain⟨f,fd,v,u,t⟩:=F.ex;exact AB F.no r F.cl u v q s t l
def zY(F:InAt X.prog X.w X.K X.mg X.base k G c 0 x ps g)(a:GJ k' X.A)(d:k+1<=k')(l:Gl X x)(t:K3 x):PV G X (.Call (.Name x p) [] [] pos) (eNew c g ah):=by
 obtain⟨f,fd,s,r,q⟩:=F.ex;exact Ca r s a d l F.mg q t
def zy(u:j7 G)(d:JT G X o i way)(q:HP G X [e] cs)(s:X.K=G.K)(C:attributeBase o "append" X.env (eval o X.env)=eval o X.env)(w:((backTo pe (starEach [e] X.env)).all (λx=>!x.1)&&(backToKw pe (keywordEach [] X.env)).all (λx=>x.1.isSome)
   && decide ([e].length+([]:List Keyword).length+(if ([]:List Keyword).isEmpty then 0 else 1)<30))=true)(A:(apos.endLine==pe.line)=true)(a:K1 e [] X)(B:(backTo pe (starEach [] X.env)).any (·.1)=false)(y:swapsWith (.Call (.Attribute o "append" apos) [e] [] pe) none pos.line X.env=pure false) :
  PSV G X (.Expr (.Call (.Attribute o "append" apos) [e] [] pe) pos) (sX (lN i way aN cs)) :=
 yT u Y3 YA YB fQ jq (λH v t F l z r h=>gH r h) d q s C w A a B y
end
noncomputable def Le(m:Nat)(t:T):T:=.obj 0 [(0,.bl true),(m,t)]
noncomputable def KH:T->Option (Nat×T)
 |.obj 0 [(0,.bl true),(m,t)]=>some (m,t)
 |_=>none
def l8{t u:T}{m:Nat}(h:KH t=some (m,u)):t=Le m u:=by
 unfold KH at h;split at h
 ·cases h;rfl
 ·cases h
noncomputable def qK(a:List V):Me:=λk=>match k with
 |0=>none
 |k+1=>a[k]?
noncomputable def markL:Nat->List Bool->W8->W8
 |k,b :: bs,t :: a=>(if b then Le (k+1) t else t) :: markL (k+1) bs a
 |_,_,_=>[]
noncomputable def lL(J:VS.Env):Nat->List Bool->Option (W8)
 |_,[]=>some []
 |k,true :: bs=>match (J[k]?:Option (W5)) with
  |some (some (.ow t))=>(KH t).bind λz=>if z.1=k+1 then (lL J (k+1) bs).map (z.2 :: ·) else none
  |_=>none
 |k,false :: bs=>lL J (k+1) bs
noncomputable def dA{α:Type}:List Bool->List α->List α
 |true :: bs,x :: a=>x :: dA bs a
 |false :: bs,_ :: a=>dA bs a
 |_,_=>[]
noncomputable def L9(Z:GP):Nat->List Bool->Yd
 |_,[]=>[]
 |k,true :: bs=>Z k :: L9 Z (k+1) bs
 |k,false :: bs=>L9 Z (k+1) bs
noncomputable def za:T->Bool
 |.str _=>true
 |_=>false
noncomputable def wH(b:W8)(v:Val):Bool:=GO v.2||(match b,v with
 |[.lst [.int _]],(.fr,.lst a)=>a.all za
 |_,_=>false)
def Al{b:W8}{v:Val}(h:wH b v=true):GO v.2=true\/∃n a,b=[.lst [.int n]]/\v=(.fr,.lst a)/\a.all za=true:=by
 unfold wH at h;rcases Bool.or_eq_true_iff.mp h with h | h
 ·exact .inl h
 ·split at h
  ·exact .inr ⟨_,_,rfl,rfl,h⟩
  ·cases h
def sv{a:W8}(h:a.all za=true):cZ a=true/\bj a=true:=by
 induction a with
 |nil=>exact⟨rfl,rfl⟩
 |cons t a b =>
  rw[Y0,Zd]at h;cases t<;>first | exact b h.2 | cases h.1
noncomputable def KZ(e g:Nat)(a:List Bool)(b:Sx):W8->Option (W8×T)
 |f :: d=>if d.length+1=e/\a.length=d.length then
  (b ((some (.ow (Le 1 f)) :: List.zipWith ja a (markL 1 a d))++List.replicate (g-e) none)).bind λo=>match o with
   |.rt v J=>(lL J 0 (true :: a)).bind λos=>if wH os v=true/\bj os=true then some (os,v.2) else none
   |.nx J=>(lL J 0 (true :: a)).bind λos=>if bj os=true then some (os,.non) else none
   |_=>none else none
 |[]=>none
structure ChI(G:Gx)(H:Hp)(mv:List Bool)(vs:List V)(Fs:Yd)(os:W8)(H2:Hp)(Gs:Yd):Prop where
 kept:Kept H H2
 keep:∀b o,b∉Hm mv Fs->H b=some o->H2 b=some o
 GX:∀b,H b≠none->H2 b≠none
 rp:RpL G H2 (dA mv vs) os Gs
 nd:Gs.flatten.Nodup
 sub:∀a∈Gs.flatten,a∈Hm mv Fs\/H a=none
noncomputable def NP(G:Gx)(d:List Bool)(g:W8->Option (W8×T)):Sp:=λm H Q _=>∃(a:Addr)(i:List V)(j:T)(f:W8)(F:Xi)(e:Yd)(os:W8)(x:T),m=.ref a :: i/\Rp G H (.ref a) j F/\RpL G H i f e/\(∀v∈dA d i,∃b,v=.ref b)/\fY j=true/\bj f=true/\d.length=f.length ∧
 (F++Hm d e).Nodup/\(∀b∈F++Hm d e,b∉Jz d e)/\g (j :: f)=some (os,x)/\∀u l n h,ChI G H (true :: d) m (F :: e) os l n->Rp G l u x h->h.Nodup->(∀a∈h,a∉n.flatten)->(∀a∈h,H a=none\/a∈F++Hm d e)->Q u l
section
variable{G:Gx}{H:Hp}
def new_apart{x:Gx}{d:List V}{n:Int}{i:Yd}{u:V}{e:W8}{F:Xi}(r:RpL G H d [.lst [.int n]] i)(q:Rp x H u (.lst e) F)(f:e.all za=true):∀a∈F,a∉i.flatten:=by
 cases r with
 |cons j r1 =>
  cases r1;obtain⟨a,d,A,rfl,rfl,v,t⟩:=j.lst_inv;obtain⟨p,y,z,rfl,rfl,h,g⟩:=q.lst_inv;rw[g.GO (sv f).1];intro b hb w;rw[Zj]at hb;subst hb;cases t with
  |cons s o =>
   cases o;cases s;have:b=a:=by simpa using w
   subst this;rw[v]at h;cases h;cases g with
   |cons m l =>
    cases l;cases m;cases f
theorem uB{m:Me}:∀{bs:List Bool}{d:List V}{e:W8}{f:Yd}(k:Nat),RpL (G.at m) H d e f->(∀v∈dA bs d,∃b,v=.ref b)->(∀j,m (k+1+j)=d[j]?)->bs.length=e.length->RpL (G.at m) H d (markL k bs e) f
 |[],_,_,_,k,.nil,_,_,_=>.nil
 |[],_,_,_,k,.cons _ _,_,_,h=>by simp at h
 |_ :: _,_,_,_,k,.nil,_,_,h=>by simp at h
 |b :: bs,v :: d,t :: e,F :: f,k,.cons r q,i,l,n=>by
  have g:=uB (bs:=bs) (k+1) q (λw hw=>i w (by cases b<;>simp[dA,hw])) (λj=>by rw[show k+1+1+j=k+1+(j+1) by omega,l (j+1)];rfl) (by simpa using n);cases b with
  |false=>exact .cons r g
  |true =>
   obtain⟨a,rfl⟩:=i v (by simp[dA]);exact .cons (.mk (l 0) r) g
theorem tZ{d:List V}{Z:GP}{J:VS.Env}{O:L2.St}(s:SR (G.at (qK d)) Z J O H):∀(bs:List Bool)(k:Nat)(os:W8),lL J k bs=some os->bj os=true →
  RpL G H (dA bs (d.drop k)) os (L9 Z k bs)/\(L9 Z k bs).flatten.Nodup/\∀a∈(L9 Z k bs).flatten,∃j t,k<=j/\J[j]?=some (some (.ow t))/\a∈Z j
 |[],k,os,h,_=>by
  cases h;refine⟨?_,Yx,λa h=>nomatch h⟩;cases d.drop k<;>exact .nil
 |false :: bs,k,os,h,g=>by
  obtain⟨f,o,n⟩:=tZ s bs (k+1) os h g;refine⟨?_,o,λa B=>?_⟩
  ·rw[← List.drop_drop,List.drop_one]at f;cases q:d.drop k with
   |nil=>rw[q]at f;cases bs<;>(try rename_i b _;cases b)<;>exact f
   |cons v r=>rw[q]at f;exact f
  ·obtain⟨j,t,w,i⟩:=n a B;exact⟨j,t,by omega,i⟩
 |true :: bs,k,os,h,g=>by
  unfold lL at h;split at h
  ·rename_i t l;obtain⟨⟨m,u⟩,e1,e2⟩:=Zz.mp h;split at e2
   ·rename_i x;obtain⟨P,M,rfl⟩:=Zw.mp e2;rw[bj,Zd]at g;obtain⟨f,o,n⟩:=tZ s bs (k+1) P M g.2;have L:=l8 e1;subst L;have Q:m=k+1:=x;subst Q;obtain⟨v,R,F⟩:=s.rp k _ l;obtain⟨a,rfl,E,D⟩:=mO (show Rp (G.at (qK d)) H v (.obj 0 [(0,.bl true),(k+1,u)]) (Z k) from F);have C:d[k]?=some (.ref a):=E;have hd:d.drop k=.ref a :: d.drop (k+1):=by
     obtain⟨y,e⟩:=Zg.mp C;rw[Yn y,e]
    refine⟨?_,?_,λb hb=>?_⟩
    ·rw[hd];exact .cons (D.at G.me g.1) f
    ·show (Z k++(L9 Z (k+1) bs).flatten).Nodup;refine ZO.mpr ⟨s.nd k _ l,o,λb hb c A z=>?_⟩;subst z;obtain⟨j,p,w,i,N⟩:=n b A;exact s.sep k j _ _ l i (by omega) b hb N
    ·rcases Ze.mp (show b∈Z k++(L9 Z (k+1) bs).flatten from hb) with z | z
     ·exact⟨k,_,Zh _,l,z⟩
     ·obtain⟨j,p,w,i⟩:=n b z;exact⟨j,p,by omega,i⟩
   ·cases e2
  ·cases h
end
section
variable{G:Gx}{P:Program}{w:World}{K:Y2}{mg:Xk}{base:Heap}
def fnI{x l:Str}{R:Stmt}{f:Addr}{fd:FuncData}{N ps:List Str}{k np L:Nat}{mv:List Bool}{B:Sx}(F:GV K x l R f fd)(S:oe N ps (aq R))(hp:ps.length=np)(hn:N.length=L)(hb:∀(m:Me)(GU:Value)(A:Around)(outer:List PySem.Env)(s:Shared)(H:Hp)(E:XK),GJ k (A.deeper (envOfC l (aq R) s.heap.objs.size f GU))->ij (G.at m) (jr Hx P w K mg base N l (aq R) f GU A outer s H E).J6 (bh R) B) :
  FnOk P w K mg base Hx (k+1) f fd ps (NP G mv (KZ np L mv B)):=by
 refine F.ok S (λvs H Q E h=>?_) λGU A outer s H vs Q E hr h=>?_
 ·obtain⟨a,g,t0,d,F0,Z,os,y,rfl,r0,r,U,no,Ta,X,nd,sp,e,q⟩:=h;dsimp only[KZ]at e;split at e
  ·rename_i hl;rw[Zk,r.len.1,hl.1,hp]
  ·cases e
 ·obtain⟨a,g,t0,d,F0,Z,os,y,rfl,r0,r,U,no,Ta,X,nd,sp,e,q⟩:=h;refine⟨_,hb (qK (.ref a :: g)) GU A outer s H E hr,?_⟩;dsimp only[KZ]at e;split at e
  ·rename_i hl;obtain⟨o,e1,e2⟩:=Zz.mp e;have TB:∀(bs:List Bool)(d:W8)(k:Nat),bs.length=d.length->(markL k bs d).length=d.length:=by
    intro bs
    induction bs with
    |nil=>intro d k h;cases d<;>simp_all[markL]
    |cons b bs ih =>
     intro d k h;cases d with
     |nil=>simp at h
     |cons t d=>simp only[markL,Zk];rw[ih d (k+1) (by simpa using h)]
   have m1:=uB (m:=qK (.ref a :: g)) (bs:=mv) 1 (r.at (qK (.ref a :: g)) Ta) U (λj=>by rw[show 1+1+j=(1+j)+1 by omega];show (V.ref a :: g)[1+j]?=_;rw[Nat.add_comm 1 j];rfl) X;obtain⟨s0,Kh⟩:=rW (mv:=mv) (Rp.mk (m:=1) (show (G.at (qK (.ref a :: g))).me 1=some (.ref a) from rfl) (r0.at (qK (.ref a :: g)) no)) m1 (by rw[TB mv d 1 X];exact X) nd sp L (g.length+1) rfl;rw[TB mv d 1 X,hl.1]at s0 Kh;have e3:L2.start N (V.ref a :: g)=(V.ref a :: g).map some++List.replicate (L-(g.length+1)) none:=by
    unfold L2.start;rw[hn];rfl
   rw[e3];have Nj:∀b,bw (λi=>(F0 :: Z).getD i []) ((some (.ow (Le 1 t0)) :: List.zipWith ja mv (markL 1 mv d))++List.replicate (L-np) none) b->b∈Hm (true :: mv) (F0 :: Z):=Kh;have fin:∀{C:VS.Env}{O:GP}{O':L2.St}{p:Hp}{os:W8},lL C 0 (true :: mv)=some os->bj os=true->SR (G.at (qK (.ref a :: g))) O C O' p->GZ (λi=>(F0 :: Z).getD i []) ((some (.ow (Le 1 t0)) :: List.zipWith ja mv (markL 1 mv d))++List.replicate (L-np) none) H O C p →
     ChI G H (true :: mv) (.ref a :: g) (F0 :: Z) os p (L9 O 0 (true :: mv)):=λ{C O O' p os} ho K6 J fr=>by
    obtain⟨h1,h2,h3⟩:=tZ J (true :: mv) 0 os ho K6;refine⟨fr.kept,λM o' Ho ho=>(fr.keep M o' ho λz=>Ho (Nj M z)).1,fr.GX,h1,h2,λM Ho=>?_⟩;obtain⟨j,t,_,a2,a3⟩:=h3 M Ho;rcases fr.ow M ⟨j,t,a2,a3⟩ with z | z
    ·exact .inl (Nj M z)
    ·exact .inr z
   refine⟨_,_,o,s0,e1,?_⟩;cases o with
   |nx C =>
    obtain⟨Vj,e4,D⟩:=Zz.mp e2;split at D
    ·rename_i Y;cases D;intro O O' p J fr;exact q .non p _ [] (fin e4 Y J fr) .non Yx (λa h=>nomatch h) λa h=>nomatch h
    ·cases D
   |rt v C =>
    obtain⟨Vj,e4,D⟩:=Zz.mp e2;split at D
    ·rename_i Y;cases D;intro u p F' O O' J fr r' U;rcases Al Y.1 with z | ⟨n,HF,rfl,rfl,z⟩
     ·have:=r'.GO z;subst this;exact q u p _ [] (fin e4 Y.2 J fr) (r'.at G.me (m9 _ z)) Yx (λa h=>nomatch h) λa h=>nomatch h
     ·have ch:=fin e4 Y.2 J fr;exact q u p _ F' ch (r'.at G.me (sv z).2) U.1 (new_apart ch.rp r' z) λa ha=>(U.2 a ha).imp id (Nj a)
    ·cases D
   |bk C=>cases e2
   |ct C=>cases e2
  ·cases e
end
section
variable{G:Gx}
def SR.QP{Z Z':GP}{J J':VS.Env}{O:L2.St}{H H2:Hp}{S:Nat->Prop}(s:SR G Z J O H)(R:J'.length=J.length)(m:∀j,¬S j->J'[j]?=J[j]?/\Z' j=Z j)(B:∀j,S j->∃t D v,J[j]?=some (some (.ow t))/\J'[j]?=some (some (.ow D))/\O[j]?=some (some v)/\Rp G H2 v D (Z' j)/\(Z' j).Nodup)(X:∀i j,S i->S j->i≠j->∀a∈Z' i,a∉Z' j)(x:Kept H H2)(y:∀b o,(∀j,S j->b∉Z j)->H b=some o->H2 b=some o)(GX:∀b,H b≠none->H2 b≠none)(A:∀j,S j->∀a∈Z' j,(∃i,S i/\a∈Z i)\/H a=none) :
  SR G Z' J' O H2/\GZ Z J H Z' J' H2:=by
 have M:∀j c,¬S j->J[j]?=some (some c)->∀a∈Z j,∀i,S i->a∉Z i:=λj c d E a u i f C=>by
  obtain⟨t,_,_,l,_⟩:=B i f;exact s.sep i j t c l E (λe=>d (e ▸ f)) a C u
 have new:∀i,S i->∀a∈Z' i,∀j c,¬S j->J[j]?=some (some c)->a∉Z j:=λi f a u j c d E C=>by
  rcases A i f a u with⟨k,U,z⟩ | z
  ·exact M j c d E a C k U z
  ·obtain⟨w,_,q⟩:=s.rp j c E;exact GQ.p0 (q.GX a C) z
 refine⟨⟨R.trans s.len,λi c h=>?_,λi t h=>?_,λi j t c l r n=>?_⟩,⟨λa o h n=>⟨y a o (λj d z=>?_) h,λz=>?_⟩,GX,λa h=>?_,λa h=>?_,x⟩⟩
 ·by_cases f:S i
  ·obtain⟨t,D,v,g,p,L,F,_⟩:=B i f;rw[p]at h;cases h;exact⟨v,L,F⟩
  ·obtain⟨g,p⟩:=m i f;rw[g]at h;obtain⟨v,P,N⟩:=s.rp i c h;rw[p];exact⟨v,P,N.keep x λa u o Q=>y a o (λj d=>M i c f h a u j d) Q⟩
 ·by_cases f:S i
  ·exact(B i f).choose_spec.choose_spec.choose_spec.2.2.2.2
  ·obtain⟨g,p⟩:=m i f;rw[g]at h;rw[p];exact s.nd i t h
 ·by_cases f:S i
  ·by_cases d:S j
   ·exact X i j f d n
   ·obtain⟨g,p⟩:=m j d;rw[g]at r;rw[p];exact λa u=>new i f a u j c d r
  ·obtain⟨g,p⟩:=m i f;rw[g]at l;rw[p];by_cases d:S j
   ·exact λa u C=>new j d a C i _ f l u
   ·obtain⟨L,F⟩:=m j d;rw[L]at r;rw[F];exact s.sep i j t c l r n
 ·obtain⟨t,_,_,l,_⟩:=B j d;exact n ⟨j,t,l,z⟩
 ·obtain⟨j,t,l,r⟩:=z;by_cases d:S j
  ·rcases A j d a r with⟨i,f,z⟩ | z
   ·obtain⟨t,_,_,g,_⟩:=B i f;exact n ⟨i,t,g,z⟩
   ·rw[z]at h;cases h
  ·obtain⟨g,p⟩:=m j d;rw[g]at l;rw[p]at r;exact n ⟨j,t,l,r⟩
 ·obtain⟨j,t,l,r⟩:=h;by_cases d:S j
  ·rcases A j d a r with⟨i,f,z⟩ | z
   ·obtain⟨t,_,_,g,_⟩:=B i f;exact .inl ⟨i,t,g,z⟩
   ·exact .inr z
  ·obtain⟨g,p⟩:=m j d;rw[g]at l;rw[p]at r;exact .inl ⟨j,t,l,r⟩
 ·obtain⟨j,t,l,r⟩:=h;by_cases d:S j
  ·obtain⟨t,D,v,g,p,_⟩:=B j d;rw[p]at l;cases l
  ·obtain⟨g,p⟩:=m j d;rw[g]at l;rw[p]at r;exact .inl ⟨j,t,l,r⟩
end
inductive Ia where | io (i:Nat) (un:Bool) | ex (c:Ex)
noncomputable def MM(a:Bool):Option (W5)->Option T
 |some (some (.ow t))=>if a then (KH t).map (·.2) else if mS t then some t else none
 |_=>none
noncomputable def OF(v:Val):Option T:=match v.1 with
 |.bo=>if GO v.2 then some v.2 else none
 |_=>some v.2
noncomputable def jJ(J:VS.Env):List Ia->Option (W8)
 |[]=>some []
 |.io i un :: a=>(MM un J[i]?).bind λt=>(jJ J a).map (t :: ·)
 |.ex c :: a=>(c J).bind λv=>(OF v).bind λt=>(jJ J a).map (t :: ·)
noncomputable def HB:List Ia->List Bool
 |[]=>[]
 |.io _ _ :: a=>true :: HB a
 |.ex _ :: a=>false :: HB a
noncomputable def Hg:List Ia->W0
 |[]=>[]
 |.io i _ :: a=>i :: Hg a
 |.ex _ :: a=>Hg a
noncomputable def oS(a:Bool)(c:Option (W5))(o:T):T:=if a then (match c with
 |some (some (.ow t))=>(match KH t with
  |some z=>Le z.1 o
  |none=>o)
 |_=>o) else o
noncomputable def iI:List Ia->W8->VS.Env->VS.Env
 |.io i un :: a,o :: os,J=>iI a os (J.set i (some (.ow (oS un J[i]? o))))
 |.ex _ :: a,os,J=>iI a os J
 |_,_,J=>J
noncomputable def kX(a:List Ia)(g:W8->Option (W8×T)):Xx:=λJ=>(jJ J a).bind λb=>if bj b=true/\(Hg a).Nodup then (g b).map λz=>((.fr,z.2),iI a z.1 J) else none
inductive LW(Z:GP)(J:VS.Env)(O:L2.St)(H:Hp):List Ia->List V->Yd->Prop
 |nil:LW Z J O H [] [] []
 |io {i:Nat} {un:Bool} {a:Addr} {as:List Ia} {vs:List V} {Fs:Yd}:O[i]?=some (some (.ref a))->LW Z J O H as vs Fs->LW Z J O H (.io i un :: as) (.ref a :: vs) (Z i :: Fs)
 |ex {c:Ex} {v:V} {F:Xi} {as:List Ia} {vs:List V} {Fs:Yd}:(∀a∈F,H a=none\/cM Z J a)->LW Z J O H as vs Fs->LW Z J O H (.ex c :: as) (v :: vs) (F :: Fs)
section
variable{G:Gx}{X:Cx}{e:Expr}{es:List Expr}{as:List Ia}{c:Ex}{pos:Pos}
def DV{H:Hp}{v:V}{t:T}{F:Xi}(r:Rp G H v t F)(h:mS t=true):∃a,v=.ref a:=by
 cases r<;>first | exact⟨_,rfl⟩ | (simp at h)
end
section
variable{G:Gx}{Z:GP}{J:VS.Env}{O:L2.St}{H:Hp}
structure IaF(G:Gx)(Z:GP)(J:VS.Env)(O:L2.St)(H:Hp)(as:List Ia)(ts:W8)(vs:List V)(Fs:Yd):Prop where
 ref:∀v∈dA (HB as) vs,∃b,v=.ref b
 len:(HB as).length=ts.length
 mv:∀a,a∈Hm (HB as) Fs ↔ ∃j∈Hg as,a∈Z j
 pu:∀a∈Jz (HB as) Fs,H a=none\/cM Z J a
 ow:∀i un,Ia.io i un∈as->∃t a,J[i]?=some (some (.ow t))/\O[i]?=some (some (.ref a))/\(un=true->∃m u,KH t=some (m,u)/\G.me m=some (.ref a))
 nd:(Hg as).Nodup->(Hm (HB as) Fs).Nodup
theorem jd:∀{a:List Ia}{i:Nat},i∈Hg a ↔ ∃un,Ia.io i un∈a
 |[],i=>⟨(λh=>nomatch h),λ⟨_,h⟩=>nomatch h⟩
 |.io j un :: a,i=>by
  show i∈j :: Hg a↔_;rw[Zo,jd];constructor
  ·rintro (rfl | ⟨u,h⟩)
   ·exact⟨un,Zx⟩
   ·exact⟨u,Zy _ h⟩
  ·rintro⟨u,h⟩;rcases Zo.mp h with h | h
   ·cases h;exact .inl rfl
   ·exact .inr ⟨u,h⟩
 |.ex c :: a,i=>by
  show i∈Hg a↔_;rw[jd];exact⟨λ⟨u,h⟩=>⟨u,Zy _ h⟩,λ⟨u,h⟩=>by
   rcases Zo.mp h with h | h
   ·cases h
   ·exact⟨u,h⟩⟩
def yE(s:SR G Z J O H):∀{d:List Ia}{q:W8}{o:List V}{l:Yd},jJ J d=some q->LW Z J O H d o l->IaF G Z J O H d q o l:=by
 intro d
 induction d with
 |nil =>
  intro q o l e r;cases e;cases r;exact⟨(λv h=>nomatch h),rfl,λa=>⟨(λh=>nomatch h),λ⟨_,h,_⟩=>nomatch h⟩,(λa h=>nomatch h),(λi un h=>nomatch h),λ_=>Yx⟩
 |cons x d L =>
  intro q o l e r;cases r with
  |@io i un a _ o l h r =>
   obtain⟨t,e1,e2⟩:=Zz.mp (show (MM un J[i]?).bind (λt=>(jJ J d).map (t :: ·))=some q from e);obtain⟨E,e3,rfl⟩:=Zw.mp e2;have f:=L e3 r;have U:∃p,J[i]?=some (some (.ow p))/\(un=true->∃m u,KH p=some (m,u)/\G.me m=some (.ref a)):=by
    unfold MM at e1;split at e1
    ·rename_i p w;refine⟨p,w,λD=>?_⟩;rw[D,Zq rfl]at e1;obtain⟨⟨m,u⟩,A,g2⟩:=Zw.mp e1;obtain⟨v,M,Y⟩:=s.rp _ _ w;rw[h]at M;cases M;have N:Rp G H (.ref a) p (Z i):=Y;rw[l8 A]at N;obtain⟨a',S,R,_⟩:=mO N;cases S;exact⟨m,u,A,R⟩
    ·cases e1
   obtain⟨p,w,D⟩:=U;have Vv:∀b,b∈Z i++Hm (HB d) l ↔ ∃j∈i :: Hg d,b∈Z j:=λb=>by
    rw[Ze,f.mv];constructor
    ·rintro (z | ⟨j,n,z⟩)
     ·exact⟨i,Zx,z⟩
     ·exact⟨j,Zy _ n,z⟩
    ·rintro⟨j,n,z⟩;rcases Zo.mp n with rfl | n
     ·exact .inl z
     ·exact .inr ⟨j,n,z⟩
   refine⟨λv C=>?_,?_,Vv,?_,λB y g=>?_,λnd=>?_⟩
   ·rcases Zo.mp (show v∈V.ref a :: dA (HB d) o from C) with rfl | C
    ·exact⟨a,rfl⟩
    ·exact f.ref v C
   ·show (HB d).length+1=E.length+1;rw[f.len]
   ·exact λb hb=>f.pu b hb
   ·rcases Zo.mp g with g | g
    ·cases g;exact⟨p,a,w,h,D⟩
    ·exact f.ow B y g
   ·have P:=Zf.mp (show (i :: Hg d).Nodup from nd);show (Z i++Hm (HB d) l).Nodup;refine ZO.mpr ⟨s.nd i _ w,f.nd P.2,λb hb b' Ho z=>?_⟩;subst z;obtain⟨j,n,z⟩:=(f.mv b).mp Ho;obtain⟨y,JP⟩:=jd.mp n;obtain⟨Q,_,A,_⟩:=f.ow j y JP;exact s.sep i j _ _ w A (λe=>P.1 (e ▸ n)) b hb z
  |@ex c v F _ o l h r =>
   obtain⟨⟨m,t⟩,e1,e2⟩:=Zz.mp (show (c J).bind (λv=>(OF v).bind λt=>(jJ J d).map (t :: ·))=some q from e);obtain⟨Q,_,e4⟩:=Zz.mp e2;obtain⟨E,e5,rfl⟩:=Zw.mp e4;have f:=L e5 r;refine⟨f.ref,?_,f.mv,λa X=>?_,λB y g=>?_,f.nd⟩
   ·show (HB d).length+1=E.length+1;rw[f.len]
   ·rcases Ze.mp (show a∈F++Jz (HB d) l from X) with z | z
    ·exact h a z
    ·exact f.pu a z
   ·rcases Zo.mp g with g | g
    ·cases g
    ·exact f.ow B y g
def wC{R:Hp}:∀{d:List Ia}{vs:List V}{Fs:Yd}{os:W8}{Gs:Yd}{J:VS.Env},(∀i un,Ia.io i un∈d->∃t a,J[i]?=some (some (.ow t))/\O[i]?=some (some (.ref a))/\(un=true->∃m u,KH t=some (m,u)/\G.me m=some (.ref a)))->(Hg d).Nodup →
  (∀(n:Nat)(v:V),(dA (HB d) vs)[n]?=some v->∃i:Nat,(Hg d)[n]?=some i/\O[i]?=some (some v))->RpL G R (dA (HB d) vs) os Gs->(dA (HB d) vs).length=(Hg d).length →
  (iI d os J).length=J.length/\(∀j:Nat,j∉Hg d->(iI d os J)[j]?=J[j]?)/\∀(n j:Nat),(Hg d)[n]?=some j->∃(t l:T)(v:V)(F:Xi),J[j]?=some (some (Cell.ow t))/\(iI d os J)[j]?=some (some (Cell.ow l))/\O[j]?=some (some v)/\Gs[n]?=some F/\Rp G R v l F:=by
 intro d
 induction d with
 |nil=>intro vs Fs os Gs J _ _ _ r _;exact⟨rfl,λ_ _=>rfl,λn j h=>by simp[Hg]at h⟩
 |cons x d A =>
  intro vs Fs os Gs J ow nd al r q;cases x with
  |ex c =>
   cases vs with
   |nil =>
    have e:(dA (HB (.ex c :: d)) ([]:List V))=[]:=rfl;have e2:Hg d=[]:=Xc.mp (by rw[e]at q;exact q.symm);rw[e]at r;cases r;obtain⟨E,s,D⟩:=A (vs:=[]) (os:=[]) (Gs:=[]) (Fs:=Fs) (J:=J) (λi un h=>ow i un (Zy _ h)) nd (λn v h=>by cases HB d<;>(try rename_i b _;cases b)<;>simp[dA]at h) (by cases HB d<;>(try rename_i b _;cases b)<;>exact .nil) (by rw[e2];cases HB d<;>(try rename_i b _;cases b)<;>rfl);exact⟨E,s,D⟩
   |cons v vs=>exact A (Fs:=Fs) (λi un h=>ow i un (Zy _ h)) nd al r q
  |io i un =>
   have y:=Zf.mp (show (i :: Hg d).Nodup from nd);cases vs with
   |nil=>simp[HB,dA,Hg]at q
   |cons v vs =>
    cases r with
    |@cons _ o F _ os Gs L r =>
     obtain⟨t,a,C,N,Y⟩:=ow i un Zx;have Oo:i<J.length:=(Zg.mp C).1;have X:v=.ref a:=by
      obtain⟨p,g,f⟩:=al 0 v rfl;cases (show some i=some p from g);rw[N]at f;cases f;rfl
     subst X;obtain⟨E,s,D⟩:=A (vs:=vs) (os:=os) (Gs:=Gs) (Fs:=Fs) (J:=J.set i (some (.ow (oS un J[i]? o)))) (λp P h=>by
      obtain⟨l,a',g,f⟩:=ow p P (Zy _ h);have ne:i≠p:=λe=>y.1 (e ▸ jd.mpr ⟨P,h⟩);exact⟨l,a',by rw[Yt ne];exact g,f⟩) y.2 (λn w h=>by
      obtain⟨p,g,f⟩:=al (n+1) w h;exact⟨p,g,f⟩) r (by simpa[HB,dA,Hg] using q)
     refine⟨by rw[show iI (.io i un :: d) (o :: os) J=iI d os (J.set i (some (.ow (oS un J[i]? o)))) from rfl,E,Jt],λj M=>?_,λn j B=>?_⟩
     ·have Q:j≠i/\j∉Hg d:=⟨λe=>M (e ▸ Zx),λz=>M (Zy _ z)⟩
      exact(s j Q.2).trans (Yt (Yq Q.1))
     ·cases n with
      |zero =>
       cases (show some i=some j from B);refine⟨t,_,.ref a,F,C,(s i y.1).trans (YS Oo),N,rfl,?_⟩;cases un with
       |false=>exact L
       |true =>
        obtain⟨m,u,g,f⟩:=Y rfl;have:oS true J[i]? o=Le m o:=by
         unfold oS;rw[Zq rfl,C];show (match KH t with | some z=>Le z.1 o | none=>o)=_;rw[g]
        rw[this];exact .mk f L
      |succ n =>
       obtain⟨l,U,S,F',g,f,g3,g4,g5⟩:=D n j B;have ne:i≠j:=λe=>y.1 (e ▸ Yc (show (Hg d)[n]?=some j from B));rw[Yt ne]at g;exact⟨l,U,S,F',g,f,g3,g4,g5⟩
def Fe{j:Hp}:∀{b:List Ia}{d:List V}{f:Yd},LW Z J O j b d f->(∀(n:Nat)(v:V),(dA (HB b) d)[n]?=some v->∃i:Nat,(Hg b)[n]?=some i/\O[i]?=some (some v))/\(dA (HB b) d).length=(Hg b).length:=by
 intro b d f r
 induction r with
 |nil=>exact⟨λn v h=>by simp[HB,dA]at h,rfl⟩
 |@io i un a b d f h _ e =>
  refine⟨λn v g=>?_,by simpa[HB,dA,Hg] using e.2⟩;cases n with
  |zero=>cases (show some (V.ref a)=some v from g);exact⟨i,rfl,h⟩
  |succ n=>exact e.1 n v g
 |ex _ _ e=>exact e
end
section
variable{G:Gx}{X:Cx}{k:Nat}{f:Addr}{fd:FuncData}{ps:List Str}{x:Str}{p pos:Pos}{e:Expr}{es:List Expr}{as:List Ia}{i:Nat}{un:Bool}{g:W8->Option (W8×T)}
structure OX(Z:GP)(J:VS.Env)(H:Hp)(Z':GP)(J':VS.Env)(F:Xi):Prop where
 nd:F.Nodup
 ap:∀j c,J'[j]?=some (some c)->∀a∈F,a∉Z' j
 of:∀a∈F,H a=none\/bw Z J a
noncomputable def SK(G:Gx)(x:Xx):TE:=λO H Q=>∃Z J v a,SR G Z J O H/\x J=some (v,a)/\∀u b d F,SR G d a O b->GZ Z J H d a b->Rp G b u v.2 F->OX Z J H d a F->Q u b
noncomputable def PXN(G:Gx)(X:Cx)(e:Expr)(x:Xx):Prop:=PE X e (SK G x)
def PXN.px{x:Xx}(h:PXN G X e x):PX G X e x:=PE.weak h λO H Q b=>by
 obtain⟨Z,J,v,l,s,e,d,k⟩:=b;exact⟨Z,J,v,l,s,e,λu m j F a f r _=>k u m j a f (r.GO d ▸ r)⟩
def OX.back{Z b d:GP}{J h j:VS.Env}{H l:Hp}{F:Xi}(f:GZ Z J H b h l)(n:OX b h l d j F):OX Z J H d j F :=
 ⟨n.nd,n.ap,λa m=>(n.of a m).elim (λz=>.inl (f.none z)) λz=>(f.ow a z).elim .inr .inl⟩
def sT{Z:GP}{J J':VS.Env}{O:L2.St}{H H1:Hp}{v:Val}{ts:W8}{vs:List V}{Fs:Yd}{Q:VK}{E:XK}(s:SR G Z J O H)(e:kX (.io i un :: as) g J=some (v,J'))(e0:jJ J (.io i un :: as)=some ts)(R:aH H H1)(rp:RpL G H1 vs ts Fs)(Y:LW Z J O H (.io i un :: as) vs Fs)(kq:∀u M Z' F,SR G Z' J' O M->GZ Z J H Z' J' M->Rp G M u v.2 F->OX Z J H Z' J' F->Q u M):NP G (HB as) g vs H1 Q E:=by
 unfold kX at e;rw[e0,Zr]at e;have e2:=e;have e1:=e0;split at e2
 ·rename_i L;obtain⟨⟨os,y⟩,eg,e3⟩:=Zw.mp e2
  ·cases e3;have r:=yE s e1 Y;have al:=Fe Y;cases Y with
   |@io _ _ a _ us Fs hσ Y =>
    cases rp with
    |@cons _ t0 _ _ HF _ r0 rp =>
     have no:fY t0=true/\bj HF=true:=by
      have:=L.1;rw[bj,Zd]at this;exact this
     refine⟨a,us,t0,HF,Z i,Fs,os,y,rfl,r0,rp,λv hv=>r.ref v (Zy _ hv),no.1,no.2,by simpa[HB] using r.len,r.nd L.2,λb hb Ho=>?_,eg,λu M U Fu ch ru fnd fap fof=>?_⟩
     ·obtain⟨j,d,z⟩:=(r.mv b).mp hb;obtain⟨Kf,N⟩:=jd.mp d;obtain⟨t,_,A,_⟩:=r.ow j Kf N;rcases r.pu b Ho with q | ⟨j2,t2,D,C⟩
      ·exact GQ.p0 (s.Hi ⟨j,t,A,z⟩) q
      ·refine s.sep j j2 t _ A D (λe=>?_) b z C;rw[e,D]at A;cases A
     ·obtain⟨p1,p2,p3⟩:=wC (Fs:=[]) (J:=J) r.ow L.2 al.1 ch.rp al.2;have at_:∀j,j∈Hg (.io i un :: as)->∃n F,(Hg (.io i un :: as))[n]?=some j/\n=(Hg (.io i un :: as)).idxOf j/\U[n]?=some F:=λj d=>by
       have hn:=Yr.mpr d;have:(Hg (.io i un :: as))[(Hg (.io i un :: as)).idxOf j]?=some j:=by
        rw[Zt hn,YH]
       obtain⟨_,_,_,F,_,_,_,q,_⟩:=p3 _ j this;exact⟨_,F,this,rfl,q⟩
      have P:∀j,j∈Hg (.io i un :: as)->(if j∈Hg (.io i un :: as) then U.getD ((Hg (.io i un :: as)).idxOf j) [] else Z j)=U.getD ((Hg (.io i un :: as)).idxOf j) []:=λj d=>Zq d;obtain⟨z1,z2⟩:=s.QP (S:=λj=>j∈Hg (.io i un :: as)) (H2:=M) (J':=iI (.io i un :: as) os J) (Z':=λj=>if j∈Hg (.io i un :: as) then U.getD ((Hg (.io i un :: as)).idxOf j) [] else Z j) p1 (λj d=>⟨p2 j d,Zp d⟩) (λj d=>by
       obtain⟨n,F,D,C,m⟩:=at_ j d
       obtain⟨t,t',v,F',w1,w2,w3,w4,w5⟩:=p3 n j D;rw[m]at w4;cases w4;have eF:(if j∈Hg (.io i un :: as) then U.getD ((Hg (.io i un :: as)).idxOf j) [] else Z j)=F:=by rw[P j d,← C,Zv,m];rfl
       refine⟨t,t',v,w1,w2,w3,?_,?_⟩
       ·rw[eF];exact w5
       ·rw[eF];exact ch.nd.sublist (bM m)) (λj j' d N n a l B=>by
       rw[P j d]at l;rw[P j' N]at B;obtain⟨n1,F,D,C,m⟩:=at_ j d
       obtain⟨n2,F',NT,Qz,SY⟩:=at_ j' N
       rw[← C,Zv,m]at l;rw[← Qz,Zv,SY]at B;exact qi ch.nd m SY (λe=>n (by rw[e,NT]at D;exact(Zm D).symm)) l B) ((Kept.of R).trans ch.kept) (λb o hb ho=>ch.keep b o (λz=>by
       obtain⟨j,d,z'⟩:=(r.mv b).mp z;exact hb j d z') (R b o ho)) (λb h=>ch.GX b λz=>h (R.free z)) (λj d a l=>by
       rw[P j d]at l;obtain⟨n1,F,D,C,m⟩:=at_ j d
       rw[← C,Zv,m]at l;rcases ch.sub a ((bM m).subset l) with z | z
       ·exact .inl ((r.mv a).mp z)
       ·exact .inr (R.free z))
      have OD:∀a∈Fu,H a=none\/∃j t,j∈Hg (.io i un :: as)/\J[j]?=some (some (.ow t))/\a∈Z j:=λa l=>by
       rcases fof a l with z | z
       ·exact .inl (R.free z)
       ·obtain⟨j,d,z'⟩:=(r.mv a).mp z;obtain⟨Kf,N⟩:=jd.mp d;obtain⟨t,_,A,_⟩:=r.ow j Kf N;exact .inr ⟨j,t,d,A,z'⟩
      refine kq u M _ Fu z1 z2 ru ⟨fnd,λj c L a l B=>?_,λa l=>(OD a l).imp id λ⟨j,t,_,A,g2⟩=>⟨j,t,A,g2⟩⟩;by_cases d:j∈Hg (.io i un :: as)
      ·rw[P j d]at B;obtain⟨n1,F,D,C,m⟩:=at_ j d
       rw[← C,Zv,m]at B;exact fap a l ((bM m).subset B)
      ·rw[Zp d]at B;rw[p2 j d]at L;rcases OD a l with z | ⟨j2,t,g0,A,g2⟩
       ·obtain⟨w,_,q⟩:=s.rp j c L;exact GQ.p0 (q.GX a B) z
       ·exact s.sep j2 j t c A L (λe=>d (e ▸ g0)) a g2 B
 ·cases e2
end
noncomputable def Nu(c:Ex):Ex:=λJ=>(c J).bind λv=>(KH v.2).map λz=>(v.1,z.2)
noncomputable abbrev Xt:=VS.Env->Option (Bool×VS.Env)
noncomputable def SJ(G:Gx)(x:Xt):TT:=λO H Q=>∃Z J b a,SR G Z J O H/\x J=some (b,a)/\∀d e,SR G e a O d->GZ Z J H e a d->Q b d
noncomputable def Ny(G:Gx)(X:Cx)(e:Expr)(x:Xt):Prop:=PT X e (SJ G x)
noncomputable def OW(G:Gx)(X:Cx)(e:Expr)(x:Xt):Prop:=PW X e (SJ G x)
noncomputable def Ls(x:Xx):Xt:=λJ=>(x J).bind λz=>match z.1.2 with
 |.bl b=>some (b,z.2)
 |_=>none
noncomputable def tu(x:Xt)(a b:Sx):Sx:=λJ=>(x J).bind λz=>if z.1 then a z.2 else b z.2
section
variable{G:Gx}{X:Cx}{e a b:Expr}{rest:List Expr}{c cb:Ex}{x:Xx}{xt:Xt}{pos pos':Pos}{c1 c2:Sx}
def El(h:PV G X e c):PV G X e (Nu c):=PE.weak h λO H Q l=>by
 obtain⟨Z,J,m,t,s,e,k⟩:=l;obtain⟨⟨j,y⟩,e1,e2⟩:=Zz.mp e;obtain⟨⟨n,u⟩,p,o⟩:=Zw.mp e2;cases o;refine⟨Z,J,j,y,s,e1,λv g F i r f=>k v g F i ?_ f⟩;have d:Rp G g v y F:=r;rw[l8 (show KH y=some (n,u) from p)]at d;obtain⟨a,rfl,_,q⟩:=mO d;exact q
def OW.U9(h:OW G X e xt):Ny G X e xt:=PW.pt h
def yf{h f:List Stmt}(l:Ny G X e xt)(n:ij G X h c1)(m:ij G X f c2):PSV G X (.If e h f pos) (tu xt c1 c2):=PS.weak (BW l n m) λD O H j=>by
 obtain⟨Z,J,o,s,e,k⟩:=j;obtain⟨⟨g,d⟩,e1,e2⟩:=Zz.mp e;refine⟨Z,J,g,d,s,e1,λp i s1 f1=>?_⟩;cases g with
 |true=>exact vW ⟨i,d,o,s1,e2,k.back f1⟩
 |false=>exact vS ⟨i,d,o,s1,e2,k.back f1⟩
end
structure IoAt(P:Program)(w:World)(K:Y2)(mg:Xk)(base:Heap)(k:Nat)(x:Str)(ps:List Str)(G:Gx)(mv:List Bool)(g:W8->Option (W8×T)):Prop where
 ex:∃f fd,FnOk P w K mg base Hx k f fd ps (NP G mv g)/\mg x=some (.ref f)/\PySem.W.keepIn K (.ref f)=true/\Binds K fd ps []
section
variable{P:Program}{w:World}{K:Y2}{mg:Xk}{base:Heap}{k:Nat}{G:Gx}{x:Str}{ps:List Str}{mv:List Bool}
def qf{a:Stmt}{f:Addr}{i:FuncData}{N:List Str}{g h:Nat}{b:Sx}(F:GV K x x a f i)(n:mg x=some (.ref f))(S:oe N ps (aq a))(j:ps.length=g)(l:N.length=h)(p:∀(kV doc pm:Value)(an:Option Addr)(d ct:Value)(e:Xg),e.length=ps.length->bindArgs (PySem.W.fnOf x x (dZ a) (bh a) (aq a) .none kV doc pm an d ct) ⟨e,[]⟩=pure (ps.zip e))(o:∀(m:Me)(d:Value)(A:Around)(outer:List PySem.Env)(s:Shared)(H:Hp)(E:XK),GJ k (A.deeper (envOfC x (aq a) s.heap.objs.size f d))->ij (G.at m) (jr Hx P w K mg base N x (aq a) f d A outer s H E).J6 (bh a) b) :
  IoAt P w K mg base (k+1) x ps G mv (KZ g h mv b):=⟨f,i,fnI F S j l o,n,F.kp,F.binds p⟩
end
end VS
end
section
namespace VS
open PySem PySem.Spec PyProof.Rows L2
noncomputable def su(i:Nat)(k e:Ex)(J:VS.Env):Option Out:=(e J).bind λv=>match v.1,(J[i]?:Option (W5)) with
 |.fr,some (some (.ow (.dct 0 ((b,_) :: l))))=>(k J).bind λa=>if fL a.2=true/\eqT b a.2=true/\(l.all λp=>!eqT p.1 a.2)=true/\l.length+1<dY then some (.nx (J.set i (some (.ow (.dct 0 ((b,v.2) :: l)))))) else none
 |_,_=>none
section
variable{G:Gx}{X:Cx}{e b:Expr}{ck ce:Ex}{pos pos' p1:Pos}{kr:Nat}
def Co(i:Nat){x:Str}(hr:GJ kr X.A)(hk:PV G X b ck)(he:PV G X e ce)(hN:X.N[i]?=some x)(hv:Ir X.env.scope x)(hd:K3 x)(U:K4 x)(ha:∀v,assign (.Subscript (.Name x p1) b pos') X.env v=(do
   let E ← holding [v] (eval (.Name x p1) X.env)
   let iv ← holding [v,E] (eval b X.env)
   standAt pos'
   holding [v,E,iv] (setItem E iv v)
   release [v,E,iv] []))(hs:swapsWithSole [.Subscript (.Name x p1) b pos'] e pos.line X.env=pure false)(hw:swappedStores [.Subscript (.Name x p1) b pos'] e X.env=pure none)(h1:(assignEach [.Subscript (.Name x p1) b pos'] X.env).map (·.2)=[assign (.Subscript (.Name x p1) b pos') X.env]):PSV G X (.Assign [.Subscript (.Name x p1) b pos'] e pos) (su i ck ce) :=
 PS.weak (pB he (pI (dM hN hv hd U) hk (uH (jy hr)) ha) hs hw h1) λD O H n=>by
  obtain⟨Z,J,out,s,e,k⟩:=n;unfold su at e;obtain⟨⟨mv,B⟩,ev,e⟩:=Zz.mp e;split at e
  ·rename_i k0 t0 l VT R;have Ru:mv=.fr:=VT;subst Ru;obtain⟨⟨mk,tk⟩,JA,e⟩:=Zz.mp e;split at e
   ·rename_i Y;obtain⟨c1,c2,c3,c4⟩:=Y;cases e;obtain⟨w,g1,w2⟩:=s.rp _ _ R;have u:=s.nd i _ R;refine⟨Z,J,.fr,B,s,ev,λxv H1 r Hr rv fv=>⟨w,g1,Z,J,mk,tk,s.same Hr,JA,λL p Fk IE rk fk=>?_⟩⟩;have P:aH H p:=Hr.trans IE;have Ko:Rp G p xv B r:=rv.same IE;obtain⟨a,ns,f,ts,Fs,rfl,o,GR,h,m,C⟩:=cO w2;rw[o]at u;obtain⟨Q,rfl,JR⟩:=c8 rk c1;have Ss:tk=aB Q:=JR;subst Ss
    match ns,f,ts,Fs,C,h,m,GR,o,u with
    |[],_,_,_,_,_,m,_,_,_=>cases m
    |d :: ns,[],_,_,_,h,_,_,_,_=>cases h
    |d :: ns,y :: f,_,_,.cons (t:=t1) (F:=F0) (ts:=ts) (Fs:=Fs) r0 C,h,m,GR,o,u =>
     rw[Zl,Za]at m;cases m;have S:d=Q:=(iF Q d).mp c2;subst S;have RB:ns.length=f.length:=by simpa using h
     have JK:ns.length=ts.length:=RB.trans C.len.1;have off:∀{β:Type}(M:List β),ns.length=M.length->∀q∈ns.zip M,q.1≠d:=λ{β} M hu q n S=>by
      have hm:q.1∈ns:=(Wz n).1;obtain⟨j,hj,ej⟩:=List.getElem_of_mem hm;have:(aB ns[j],ts[j]'(by omega))∈(ns.map aB).zip ts:=by
       refine Yc (i:=j) ?_;rw[Yw];exact⟨by rw[ZY,Zt hj];rfl,Zt _⟩
      have h2:=Ja.mp c3 _ this;rw[ej,S,(iF d d).mpr rfl]at h2;cases h2
     have ep:putK ((d :: ns).zip (y :: f)) d xv=(d :: ns).zip (xv :: f):=by
      rw[Za,Za];unfold putK;rw[Zq (by rw[YU,ZP rfl];rfl),Zl,Zq rfl];congr 1;have:(ns.zip f).map (λL=>if L.1=d then (L.1,xv) else L)=(ns.zip f).map id:=YR λq n=>Zp (off f RB q n);rw[this,List.map_id]
     have Ik:p a=some (.dK ((d :: ns).zip (y :: f))):=P a _ GR;have m3:GQ (p a):=by rw[Ik];exact True.intro
     have nd:=Zf.mp u;have fl:(F0 :: Fs).flatten=F0++Fs.flatten:=rfl;rw[fl]at nd;have R4:∀b∈r,H b=none:=fv.2;have GX:∀b∈a :: (F0++Fs.flatten),H b≠none:=λb hb=>GQ.p0 (w2.GX b (by rw[o,fl];exact hb));have ln:((d :: ns).zip (y :: f)).length<sizeLine:=by
      have:((ns.map aB).zip ts).length+1<16777216:=c4;rw[Ju,Zu]at this;rw[Ju,Zk,Zk];have:(sizeLine:Nat)=16777216:=rfl;omega
     refine .inr ⟨a,_,rfl,si.k Ik ln,?_⟩;have aF:a∉r++Fs.flatten:=λz=>by
      rcases Ze.mp z with z | z
      ·exact GX a Zx (R4 a z)
      ·exact nd.1 (ZU _ z)
     have g:Chg G H (.ref a) (Z i) (.dct 0 ((aB d,B) :: (ns.map aB).zip ts)) (upd p a (.dK (putK ((d :: ns).zip (y :: f)) d xv))) (a :: (r :: Fs).flatten):=by
      rw[o,ep];refine Chg.upd P Zx m3 (.dct (ks:=d :: ns) (ts:=B :: ts) aw (by simpa using h) ((RpL.cons Ko (C.same P)).off m3 aF)) ?_ ?_
      ·refine Zf.mpr ⟨aF,ZO.mpr ⟨fv.1,(ZO.mp nd.2).2.1,λb hb c Y z=>?_⟩⟩;subst z;exact GX b (Zy _ (ZU _ Y)) (R4 b hb)
      ·intro bb hb;rcases Zo.mp hb with rfl | hb
       ·exact .inl Zx
       ·rcases Ze.mp (show bb∈r++Fs.flatten from hb) with z | z
        ·exact .inr (R4 bb z)
        ·exact .inl (Zy _ (ZU _ z))
     obtain⟨z1,z2⟩:=s.mut R g1 g;exact k _ O _ z1 z2
   ·cases e
  ·cases e
def i4{a b c:Expr}{g f d:Ex}(o:PV G X a g)(n:PV G X b f)(l:PV G X c d)(j:lastMarks [.Lt,.Lt] [b,c]=false):IC G X (.Compare a [.Lt,.Lt] [b,c] pos) (dE oLt oLt g f d) :=
 PT.weak (rL pR pR o n l j) λO H Q h=>mZ h (λJ m r e=>by
  unfold dE at e;obtain⟨x,v,e⟩:=Zz.mp e;obtain⟨y,u,e⟩:=Zz.mp e;obtain⟨⟨p,z⟩,s,e⟩:=Zz.mp e;cases z with
  |bl q =>
   cases q with
   |false=>cases e;exact⟨_,rfl⟩
   |true =>
    obtain⟨i,t,e⟩:=Zz.mp (show (d J).bind (λz=>oLt y z)=some (m,r) from e);exact j6 y i m r e
  |_=>cases e) λQ h=>qN vd vd h
end
noncomputable def xI(c:Ex):Xx:=λJ=>(c J).bind λv=>if GO v.2=true then some ((.fr,v.2),J) else none
noncomputable def x2(f:Val->Val->W7)(a b:Xx):Xx:=λJ=>(a J).bind λz=>(b z.2).bind λw=>(f (.fr,z.1.2) (.fr,w.1.2)).bind λv=>if GO z.1.2=true/\GO w.1.2=true/\GO v.2=true then some ((.fr,v.2),w.2) else none
noncomputable def iV(c:Ex)(x:Xt):Xt:=λJ=>(c J).bind λv=>(Ld v.2).bind λb=>if b then x J else some (false,J)
noncomputable def lE(c:Ex)(b:Xx):Xx:=λJ=>(c J).bind λx=>match x with
 | (.fr,.lst a)=>(b J).bind λz=>match z.1.2 with
  |.int i=>(Hu a.length i).bind λj=>(a[j]?).bind λt=>if cZ a=true/\GO t=true then some ((.fr,t),z.2) else none
  |_=>none
 |_=>none
noncomputable def sy(n:Nat)(b:Xx):Xx:=λJ=>match (J[n]?:Option (W5)) with
 |some (some _)=>(b J).bind λz=>match z.1.2,(z.2[n]?:Option (W5)) with
  |.int i,some (some c)=>(match iU c with
   |.lst a=>(Hu a.length i).bind λj=>(a[j]?).bind λt=>if GO t=true then some ((.fr,t),z.2) else none
   |_=>none)
  |_,_=>none
 |_=>none
section
variable{G:Gx}{X:Cx}{e a b:Expr}{rest:List Expr}{ca cb:Ex}{xa xb:Xx}{xt:Xt}{pos:Pos}{f:Val->Val->W7}{r:R2}
def bc(h:PV G X e ca):PX G X e (xI ca):=PE.weak h λO H Q g=>by
 obtain⟨Z,J,v,n,s,e,l,k⟩:=g;obtain⟨⟨m,t⟩,e1,e2⟩:=Zz.mp e;split at e2
 ·rename_i i;cases e2;refine⟨Z,J,m,t,s,e1,λu j F d r f=>k u j Z (s.same d) (GZ.same d) ?_⟩;have:=r.GO i;subst this;exact r
 ·cases e2
def yQ(x:fK G r f){O:L2.St}{H:Hp}{Q:VK}(h:tX G (x2 f xa xb) O H Q):NN r (tX G xa) (tX G xb) O H Q:=by
 obtain⟨Z,J,v,L,s,e,D,k⟩:=h;obtain⟨z,A,e1⟩:=Zz.mp e;obtain⟨w,y,e2⟩:=Zz.mp e1;obtain⟨⟨m,t⟩,ef,g⟩:=Zz.mp e2;split at g
 ·rename_i d;cases g;refine⟨Z,J,z.1,z.2,s,A,d.1,λq M B s1 f1 r1=>⟨B,z.2,w.1,w.2,s1,y,d.2.1,λp n l u f2 r2=>?_⟩⟩;refine x l w.2 n n (.fr,z.1.2) (.fr,w.1.2) q p [] [] m t Q ⟨aH.refl _,r1.keep f2.kept (λa h=>nomatch h),r2,Fp.nil,Fp.nil,λ_ _=>Yx⟩ ef λo C F i j E=>k o C l (u.same i) ((f1.trans f2).trans (GZ.same i)) ?_;have:=j.GO d.2.2;subst this;exact j
 ·cases g
def rQ{d:Operator}(i:OpR X (binaryOp d) r)(g:fK G r f)(l:PX G X a xa)(j:PX G X b xb):PX G X (.BinOp a d b pos) (x2 f xa xb):=PE.weak (BX i l j) λO H Q h=>yQ g h
def uW{d:CmpOp}(l:OpR X (compareOp d) r)(j:fK G r f)(p:PX G X a xa)(o:PX G X b xb)(n:behindInMarks d b=false):Ny G X (.Compare a [d] [b] pos) (Ls (x2 f xa xb)):=PT.weak (vq l p o n) λO H Q h=>by
 obtain⟨Z,J,b,w,s,e,k⟩:=h;obtain⟨⟨⟨m,t⟩,v⟩,e1,e2⟩:=Zz.mp e;dsimp only at e2;split at e2
 ·cases e2;exact yQ (Q:=λx g=>∃k,x=.bl k/\Q k g) j ⟨Z,J,_,_,s,e1,rfl,λu g q i f r=>⟨b,r.HA,k g q i f⟩⟩
 ·cases e2
def FK(i:PX G X a xa)(g:PX G X b xb)(d:fM b)(j:X.K=G.K):PX G X (.Subscript a b pos) (x2 aD xa xb):=PE.weak (lF jU i g d) λO H Q h=>by
 rw[j];exact yQ ue h
def xQ(h:Ny G X e xt):OW G X (.BoolOp .And [e] pos) xt:=iB h
def Br(n:IC G X a ca)(l:OW G X (.BoolOp .And (b :: rest) pos) xt):OW G X (.BoolOp .And (a :: b :: rest) pos) (iV ca xt):=PW.weak (ze n l) λO H Q j=>by
 obtain⟨Z,J,r,q,s,e,k⟩:=j;obtain⟨⟨m,t⟩,e1,e2⟩:=Zz.mp e;obtain⟨h,o,g⟩:=Zz.mp e2;refine⟨Z,J,m,t,h,s,e1,o,λu d=>?_⟩;cases h with
 |true=>exact vW ⟨Z,J,r,q,s.same d,g,λv p i f=>k v p i ((GZ.same d).trans f)⟩
 |false =>
  cases g;exact vS (k u Z (s.same d) (GZ.same d))
def pd(L:PV G X a ca)(F:PX G X b xb)(B:fM b:=by exact λ_ _=>rfl)(M:X.K=G.K:=by exact rfl):PX G X (.Subscript a b pos) (lE ca xb):=PE.weak (lF jU L F B) λO H Q C=>by
 obtain⟨Z,J,v,J',s,e,hi,k⟩:=C;obtain⟨x,S,e1⟩:=Zz.mp e;split at e1
 ·rename_i p;obtain⟨z,R,e2⟩:=Zz.mp e1;split at e2
  ·rename_i y m;obtain⟨j,P,U⟩:=Zz.mp e2;obtain⟨t,N,d⟩:=Zz.mp U;split at d
   ·rename_i E;cases d;refine⟨Z,J,.fr,.lst p,s,S,λu H1 F1 i r1 f1=>⟨Z,J,z.1,z.2,s.same i,R,by rw[m];rfl,λw H2 Y q f2 r2=>?_⟩⟩;obtain⟨a,n,Fs,rfl,rfl,Np,l⟩:=r1.lst_inv;have D:¬bw Z J a:=λz=>GQ.p0 (s.Hi z) (f1.2 a Zx);have Jo:=(f2.keep a _ Np D).1;obtain⟨x,Fx,o,u2,g⟩:=l.get j N;have A:=g.GO E.2;subst A;rw[m]at r2;refine .inl ⟨a,n,y,x,rfl,r2.int_inv,by rw[M];exact GY.of Jo,iO (by rw[l.len.1];exact P) o,?_⟩;exact k x H2 Y q ((GZ.same i).trans f2) (g.keep f2.kept (λa h=>nomatch h))
   ·cases d
  ·cases e2
 ·cases e1
end
section
variable{G:Gx}{Z Z5:GP}{J J5:VS.Env}{O:L2.St}{H H5:Hp}
noncomputable def NU(Z:GP):GP:=λi=>match i with
 |0=>[]
 |i+1=>Z i
def zD{t:T}{a:Addr}:bw (NU Z) (some (.pu t) :: J) a↔bw Z J a:=by
 constructor
 ·rintro⟨j,u,b,d⟩;cases j with
  |zero=>cases (show some (some (Cell.pu t))=some (some (Cell.ow u)) from b)
  |succ j=>exact⟨j,u,b,d⟩
 ·rintro⟨j,u,b,d⟩;exact⟨j+1,u,b,d⟩
def EE{t:T}{a:Addr}(h:cM (NU Z) (some (.pu t) :: J) a):cM Z J a:=by
 obtain⟨j,u,d,b⟩:=h;cases j with
 |zero=>exact nomatch b
 |succ j=>exact⟨j,u,d,b⟩
def SR.ps{v:V}{t:T}(s:SR G Z J O H)(r:Rp G H v t []):SR G (NU Z) (some (.pu t) :: J) (some v :: O) H:=by
 refine⟨by rw[Zk,Zk,s.len],λi c h=>?_,λi u h=>?_,λi j u c b d n=>?_⟩
 ·cases i with
  |zero=>cases (show some (some (Cell.pu t))=some (some c) from h);exact⟨v,rfl,r⟩
  |succ i=>exact s.rp i c h
 ·cases i with
  |zero=>cases (show some (some (Cell.pu t))=some (some (Cell.ow u)) from h)
  |succ i=>exact s.nd i u h
 ·cases i with
  |zero=>cases (show some (some (Cell.pu t))=some (some (Cell.ow u)) from b)
  |succ i =>
   cases j with
   |zero=>exact λa _ h=>nomatch h
   |succ j=>exact s.sep i j u c b d (λe=>n (by rw[e]))
def SR.pop{c:W5}{v:Option V}(s:SR G Z5 (c :: J5) (v :: O) H):SR G (λi=>Z5 (i+1)) J5 O H :=
 ⟨by have:=s.len;simpa using this,λi c h=>s.rp (i+1) c h,λi u h=>s.nd (i+1) u h,λi j u c b a n=>s.sep (i+1) (j+1) u c b a (λe=>n (by omega))⟩
def GZ.pop{t:T}{c:W5}(f:GZ (NU Z) (some (.pu t) :: J) H Z5 (c :: J5) H5):GZ Z J H (λi=>Z5 (i+1)) J5 H5:=by
 have ow:∀a,bw (λi=>Z5 (i+1)) J5 a->bw Z5 (c :: J5) a:=λa ⟨j,u,d,b⟩=>⟨j+1,u,d,b⟩
 refine⟨λa o h n=>?_,f.GX,λa h=>?_,λa h=>?_,f.kept⟩
 ·obtain⟨d,b⟩:=f.keep a o h λz=>n (zD.mp z);exact⟨d,λz=>b (ow a z)⟩
 ·exact(f.ow a (ow a h)).imp zD.mp id
 ·obtain⟨j,u,d,b⟩:=h;rcases f.pu a ⟨j+1,u,d,b⟩ with z | z | z
  ·exact .inl (EE z)
  ·exact .inr (.inl (zD.mp z))
  ·exact .inr (.inr z)
end
noncomputable def iH(x:Xx):W3->VS.Env->Option (W8×VS.Env)
 |[],J=>some ([],J)
 |i :: r,J=>(x (some (.pu (.int i)) :: J)).bind λz=>match z.2 with
  |_ :: a=>if GO z.1.2=true then (iH x r a).map λw=>(z.1.2 :: w.1,w.2) else none
  |[]=>none
noncomputable def ML(i n:Nat):W3:=(List.range' i n).map λ(k:Nat)=>(k:Int)
noncomputable def qu(a x:Xx)(J:VS.Env):Option (W8×VS.Env):=(a J).bind λz=>match z.1.2 with
 |.int j=>if 0<=j/\j<1000000 then iH x (ML 0 j.toNat) z.2 else none
 |_=>none
noncomputable def Qv(G:Gx)(y:VS.Env->Option (W8×VS.Env)):TE:=λO H Q=>∃Z J e a,SR G Z J O H/\y J=some (e,a)/\∀D f b d,SR G d a O b->GZ Z J H d a b->b D=some (.lst f)->RpL G b f e (List.replicate e.length [])->H D=none->¬bw d a D->¬cM d a D->Q (.ref D) b
theorem qj{α:Type}:∀n:Nat,(List.replicate n ([]:List α)).flatten=[]
 |0=>rfl
 |n+1=>by rw[Xl,ZR,qj n];rfl
section
variable{G:Gx}{X:Cx}{elt a:Expr}{sc:Scope}{pos p p2 p3:Pos}{N:List Str}{nm:Str}{xa x:Xx}{g:TG}
def zv{O:L2.St}{H:Hp}{Q:VK}(hg:∀v O H (R:L2.St->Hp->Prop),R (O.set 0 (some v)) H->g v O H R)(h:Qv G (qu xa x) O H Q):qZ 1 (B4 (B5 (tX G xa) wu)) g (λO H Q=>Q true H) (tX G x) O H Q:=by
 obtain⟨Z,J,ts,L,s,e,kq⟩:=h;obtain⟨z,ea,e1⟩:=Zz.mp e;split at e1
 ·rename_i j hj;split at e1
  ·rename_i hb;obtain⟨n,hn⟩:∃n:Nat,n=j.toNat:=⟨_,rfl⟩
   rw[← hn]at e1;refine⟨Z,J,z.1,z.2,s,ea,by rw[hj];rfl,λu H1 Z1 s1 f1 r1=>⟨j,by rw[hj]at r1;rw[r1.int_inv],by omega,by omega,λD B=>?_⟩⟩;have Kw:H D=none:=f1.none B;rw[← hn];refine⟨λi m O' M=>m=n-i/\i<=n/\∃E C f d rest c0,O'=c0 :: O/\SR G E C O M/\GZ Z1 z.2 H1 E C M/\M D=some (.lst d)/\¬bw E C D/\¬cM E C D/\RpL G M d f (List.replicate f.length [])/\iH x (ML i (n-i)) C=some (rest,L)/\f++rest=ts,⟨n,by omega,Yv _,Z1,z.2,[],[],ts,none,rfl,?_,GZ.same (cK B),aw,?_,?_,.nil,e1,rfl⟩,?_⟩
   ·exact s1.off (.inr B) (λq=>GQ.p0 (s1.IP q) B) λq=>GQ.p0 (s1.Hi q) B
   ·exact λq=>GQ.p0 (s1.Hi q) B
   ·exact λq=>GQ.p0 (s1.IP q) B
   ·rintro i m O' M ⟨rfl,Ij,E,C,f,d,rest,c0,rfl,s2,f2,RZ,QK,S9,rp,F,ev⟩;by_cases Hv:i<n
    ·right;refine⟨Hv,λy H2 yl=>hg _ _ _ _ ?_⟩;obtain⟨rfl,rfl⟩:=yl;rw[show n-i=(n-(i+1))+1 by omega]at F;unfold ML at F;rw[WX,Zl,iH]at F;obtain⟨w,ex,S⟩:=Zz.mp F;split at S
     ·rename_i c3 J3 hw;split at S
      ·rename_i LN;obtain⟨q,eq,e3⟩:=Zw.mp S;cases e3;show (if true=true then _ else _);rw[Zq rfl];have s3:=s2.ps (v:=.int ((0:Int)+(i:Int))) (t:=.int (i:Int)) (by rw[Int.zero_add];exact .int _);refine⟨NU E,some (.pu (.int (i:Int))) :: C,w.1,w.2,s3,ex,LN,λU H5 Z5 s5 f5 r5=>?_⟩;rw[hw]at s5 f5;have s6:=s5.pop;have Y:=f5.pop;obtain⟨Oz,Tb⟩:=Y.keep D _ RZ QK;have S8:¬cM (λi=>Z5 (i+1)) J3 D:=λq=>by
        rcases Y.pu D q with q | q | q
        ·exact S9 q
        ·exact QK q
        ·rw[RZ]at q;cases q
       have LG:GQ (H5 D):=by rw[Oz];exact True.intro
       have lx:d.length=f.length:=rp.len.1;refine⟨d,Oz,?_,n-(i+1),by omega,rfl,Hv,λi=>Z5 (i+1),J3,f++[w.1.2],d++[U],q.1,_,rfl,s6.off (.inl LG) S8 Tb,?_,aw,Tb,S8,?_,eq,?_⟩
       ·have:f.length<=n:=by
         have hc:∀(l:W3)(J:VS.Env)(r:W8)(L:VS.Env),iH x l J=some (r,L)->r.length=l.length:=by
          intro l
          induction l with
          |nil=>intro J r L h;cases h;rfl
          |cons a l ih =>
           intro J r L h;rw[iH]at h;obtain⟨w',_,b⟩:=Zz.mp h;split at b
           ·split at b
            ·obtain⟨q',h3,h4⟩:=Zw.mp b;cases h4;rw[Zk,Zk,ih _ _ _ h3]
            ·cases b
           ·cases b
         have A:=hc _ _ _ _ e1;have b:=hc _ _ _ _ eq;unfold ML at A;rw[Zu,YI]at A;rw[← ev,Zs]at A;omega
        have hs:(sizeLine:Nat)=16777216:=rfl;omega
       ·have P:=f2.trans Y;refine⟨λa o A b=>?_,λa A b=>?_,P.ow,P.pu,P.kept.trans (Kept.upd (.inl LG))⟩
        ·obtain⟨q1,q2⟩:=P.keep a o A b;exact⟨by rw[ay (λz=>by rw[z,B]at A;cases A)];exact q1,q2⟩
        ·by_cases q:a=D
         ·rw[q,aw]at b;cases b
         ·rw[ay q]at b;exact P.GX a A b
       ·have r1:RpL G (upd H5 D (.lst (d++[U]))) d f (List.replicate f.length []):=(rp.keep Y.kept (by rw[qj];exact λa h=>nomatch h)).keep (Kept.upd (.inl LG)) (by rw[qj];exact λa h=>nomatch h);have r2:Rp G (upd H5 D (.lst (d++[U]))) U w.1.2 []:=r5.keep (Kept.upd (.inl LG)) (λa h=>nomatch h);have:=r1.append (.cons r2 .nil);rw[Zs,ZL,List.replicate_succ'];exact this
       ·rw[ZM];exact ev
      ·cases S
     ·cases S
    ·left;have VR:n-i=0:=by omega
     rw[VR]at F;cases (show some (([]:W8),C)=some (rest,L) from F);rw[ZV]at ev;subst ev;refine⟨by show n<=i;omega,kq D d M E s2 (f1.trans f2) RZ rp Kw QK S9⟩
  ·cases e1
 ·cases e1
end
noncomputable def xA(a:Tx)(y:VS.Env->Option (W8×VS.Env)):Xx:=λJ=>(y J).bind λz=>(jt (.fr,.str a) [(.fr,.lst z.1)]).map λv=>((.fr,v.2),z.2)
section
variable{G:Gx}{X:Cx}{e a:Expr}{y:VS.Env->Option (W8×VS.Env)}{sep:Tx}{elt:Expr}{sc:Scope}{pos p p2 p3:Pos}{N:List Str}{nm:Str}{xa x:Xx}
def Bu{b d:Pos}(w:PV G X a (eC (.str sep)))(g:PE X e (Qv G y))(n:X.K=G.K)(U:attributeBase a "join" X.env (eval a X.env)=eval a X.env)(L:((backTo d (starEach [e] X.env)).all (λx=>!x.1)&&(backToKw d (keywordEach [] X.env)).all (λx=>x.1.isSome)
   && decide ([e].length+([]:List Keyword).length+(if ([]:List Keyword).isEmpty then 0 else 1)<30))=true)(R:(b.endLine==d.line)=true)(l:K1 e [] X)(S:(backTo d (starEach [] X.env)).any (·.1)=false) :
  PX G X (.Call (.Attribute a "join" b) [e] [] d) (xA sep y) :=
 PE.weak (lJ PySem.F.plainAttrs_str PySem.F.slot_str_join PySem.F.type_str_join uR w (cP g fD l) U L R l S) λO H Q h=>by
  obtain⟨Z,J,v,J',s,e,hi,k⟩:=h;obtain⟨z,A,e1⟩:=Zz.mp e;obtain⟨v0,e2,B⟩:=Zw.mp e1;cases B;unfold jt at e2;obtain⟨f,q,i⟩:=Zz.mp e2;split at i
  ·rename_i m;cases i;refine⟨Z,J,.fr,.str sep,s,rfl,λu H1 F1 j r1 f1=>⟨by rw[n];exact q8 r1 ⟨_,rfl⟩,Z,J,z.1,z.2,s.same j,A,λD Y P C r f2 o rp Kw no np=>?_⟩⟩;rw[pE rp q]at o;refine⟨sep,D,f,r1.str_inv.1,rfl,by rw[n];exact GY.of o,m,k _ P C r ((GZ.same j).trans f2) (.str _ ⟨ZI (jY sep f) m,λc g=>(jX sep f c g).elim (r1.str_inv.2.2 c) λ⟨t,M,E⟩=>jP rp q t M c E⟩)⟩
  ·cases i
end
inductive Ix where | io (i:Nat) (un:Bool) | px (x:Xx)
noncomputable def js:List Ix->VS.Env->Option (List Ia×VS.Env)
 |[],J=>some ([],J)
 |.io i un :: r,J=>match (J[i]?:Option (W5)) with
  |some (some _)=>(js r J).map λw=>(.io i un :: w.1,w.2)
  |_=>none
 |.px x :: r,J=>(x J).bind λz=>if GO z.1.2=true then (js r z.2).map λw=>(.ex (eC z.1.2) :: w.1,w.2) else none
noncomputable def KY:List Ix->List Bool
 |[]=>[]
 |.io _ _ :: r=>true :: KY r
 |.px _ :: r=>false :: KY r
noncomputable def aW(a:List Ix)(g:W8->Option (W8×T)):Xx:=λJ=>(js a J).bind λw=>kX w.1 g w.2
inductive Ih(G:Gx)(O:L2.St)(H:Hp):List Ia->List V->Prop
 |nil:Ih G O H [] []
 |io {i:Nat} {un:Bool} {v:V} {as:List Ia} {vs:List V}:O[i]?=some (some v)->Ih G O H as vs->Ih G O H (.io i un :: as) (v :: vs)
 |ex {t:T} {v:V} {as:List Ia} {vs:List V}:GO t=true->Rp G H v t []->Ih G O H as vs->Ih G O H (.ex (eC t) :: as) (v :: vs)
noncomputable def UT(G:Gx)(g:List Ix):TA:=λO H Q=>∃Z J a d,SR G Z J O H/\js g J=some (a,d)/\∀e b f,SR G f d O b->GZ Z J H f d b->Ih G O b a e->Q e b
noncomputable def Mr(G:Gx)(X:Cx)(a:List Expr)(b:List Ix):Prop:=PA X a (UT G b)
section
variable{G:Gx}{X:Cx}{e:Expr}{es:List Expr}{as:List Ix}{x:Xx}{pos p:Pos}{i:Nat}{un:Bool}{g:W8->Option (W8×T)}{mv:List Bool}
theorem tj:∀{as:List Ix}{J J':VS.Env}{ias:List Ia},js as J=some (ias,J')->HB ias=KY as
 |[],_,_,_,h=>by cases h;rfl
 |.io i un :: as,J,J',ias,h=>by
  unfold js at h;split at h
  ·obtain⟨w,b,a⟩:=Zw.mp h;cases a;show true :: HB w.1=true :: KY as;rw[tj (ias:=w.1) (J':=w.2) b]
  ·cases h
 |.px x :: as,J,J',ias,h=>by
  unfold js at h;obtain⟨z,_,d⟩:=Zz.mp h;split at d
  ·obtain⟨w,b,a⟩:=Zw.mp d;cases a;show false :: HB w.1=false :: KY as;rw[tj (ias:=w.1) (J':=w.2) b]
  ·cases d
theorem Ih.keep{O:L2.St}{H j:Hp}(k:Kept H j){f:List Ia}{d:List V}(h:Ih G O H f d):Ih G O j f d:=by
 induction h with
 |nil=>exact .nil
 |io h _ b=>exact .io h b
 |ex l r _ b=>exact .ex l (r.keep k (λa h=>nomatch h)) b
def E7{Z:GP}{J:VS.Env}{O:L2.St}{H:Hp}(s:SR G Z J O H){f:List Ia}{l:List V}(h:Ih G O H f l):∀{d:W8},jJ J f=some d->∃j,RpL G H l d j/\LW Z J O H f l j:=by
 induction h with
 |nil=>intro d e;cases e;exact⟨[],.nil,.nil⟩
 |@io i un v f l y _ o =>
  intro d e;obtain⟨t,e1,e2⟩:=Zz.mp (show (MM un J[i]?).bind (λt=>(jJ J f).map (t :: ·))=some d from e);obtain⟨Y,b,rfl⟩:=Zw.mp e2;obtain⟨j,r,q⟩:=o b;unfold MM at e1;split at e1
  ·rename_i A N;obtain⟨w,z,M⟩:=s.rp _ _ N;rw[y]at z;cases z;have n:Rp G H v A (Z i):=M;have key:∃a,v=.ref a/\Rp G H (.ref a) t (Z i):=by
    split at e1
    ·obtain⟨⟨m,u⟩,Q,P⟩:=Zw.mp e1;cases P;rw[l8 Q]at n;obtain⟨a,F,_,E⟩:=mO n;exact⟨a,F,E⟩
    ·split at e1
     ·rename_i L;cases e1;obtain⟨a,rfl⟩:=DV n L;exact⟨a,rfl,n⟩
     ·cases e1
   obtain⟨a,rfl,D⟩:=key;exact⟨Z i :: j,.cons D r,.io y q⟩
  ·cases e1
 |@ex t v f l hi C _ o =>
  intro d e;obtain⟨w,e1,e2⟩:=Zz.mp (show (eC t J).bind (λv=>(OF v).bind λt=>(jJ J f).map (t :: ·))=some d from e);have ev:w.2=t:=by
   unfold eC at e1;cases e1;rfl
  obtain⟨B,b,U⟩:=Zz.mp e2;obtain⟨Y,S,rfl⟩:=Zw.mp U;have R:B=t:=by
   unfold OF at b;split at b
   ·split at b
    ·cases b;exact ev
    ·cases b
   ·cases b;exact ev
  subst R;obtain⟨j,r,q⟩:=o S;exact⟨[] :: j,.cons C r,.ex (λa h=>nomatch h) q⟩
def b7:Mr G X [] []:=PA.weak fD λO H Q b=>by
 obtain⟨Z,J,a,d,s,e,k⟩:=b;cases e;exact k [] H Z s (GZ.refl _ _ _) .nil
def dq(i:Nat)(d:Bool){n:Str}(u:X.N[i]?=some n)(l:Ir X.env.scope n)(r:K3 n)(a:K4 n)(o:Mr G X es as)(m:starEach (.Name n pos :: es) X.env=(false,eval (.Name n pos) X.env) :: starEach es X.env:=by exact rfl):Mr G X (.Name n pos :: es) (.io i d :: as) :=
 PA.weak (cP (dM u l r a) o m) λO H Q q=>by
  obtain⟨Z,J,j,B,s,e,k⟩:=q;unfold js at e;split at e
  ·rename_i c t;obtain⟨w,e1,e2⟩:=Zw.mp e;cases e2;obtain⟨v,b,_⟩:=s.rp _ _ t;exact⟨v,b,Z,J,w.1,w.2,s,e1,λA z y h f ix=>k _ z y h f (.io b ix)⟩
  ·cases e
def c6(h:PX G X e x)(m:Mr G X es as)(l:K1 e es X:=by exact rfl):Mr G X (e :: es) (.px x :: as) :=
 PA.weak (cP h m l) λO H Q n=>by
  obtain⟨Z,J,j,A,s,e,k⟩:=n;unfold js at e;obtain⟨z,e1,e2⟩:=Zz.mp e;split at e2
  ·rename_i d;obtain⟨w,q,o⟩:=Zw.mp e2;cases o;exact⟨Z,J,z.1,z.2,s,e1,d,λu B r s1 f1 r1=>⟨r,z.2,w.1,w.2,s1,q,λy v t f b ix=>k _ v t f (f1.trans b) (.ex d (r1.keep b.kept (λa h=>nomatch h)) ix)⟩⟩
  ·cases e2
def oz{k:Nat}{f:Addr}{m:FuncData}{l:List Str}{n:Str}(F:FnOk X.prog X.w X.K X.mg X.base Hx k f m l (NP G (KY as) g))(D:GJ k X.A)(N:Gl X n)(L:X.mg n=some (.ref f))(M:PySem.W.keepIn X.K (.ref f)=true)(R:Binds X.K m l [])(S:Mr G X (e :: es) (.io i un :: as))(HM:K3 n)(P:K1 e es X)(b:K2 pos es X):PXN G X (.Call (.Name n p) (e :: es) [] pos) (aW (.io i un :: as) g) :=
 PE.weak (vc (E:=E0) F D N L M R .nil ou S HM P b) λO H Q h=>by
  obtain⟨Z,J,v,J',s,e,B⟩:=h;obtain⟨⟨a,J1⟩,e1,e2⟩:=Zz.mp e;have j:=tj e1;refine⟨Z,J,a,J1,s,e1,λy H1 Z1 s1 f1 ix=>?_⟩;show NP G (KY as) g (y++[]) H1 Q _;rw[ZV];cases ix with
  |nil=>cases j
  |ex _ _ _=>cases j
  |@io i' Kf v' q Ip U VA =>
   have d:HB q=KY as:=(XJ (show true :: HB q=true :: KY as from j)).2;have t:=e2;unfold kX at t;obtain⟨ts,o,_⟩:=Zz.mp t;obtain⟨Fs,rp,C⟩:=E7 s1 (.io U VA) o;rw[← d];exact sT s1 e2 o (aH.refl _) rp C λu H' Z' F z Y r n=>B u H' Z' F z (f1.trans Y) r (n.back f1)
end
noncomputable def oA(j:Nat)(x:Xx):Sx:=λJ=>(x J).bind λz=>if j<z.2.length then some (.nx (z.2.set j (some (.ow z.1.2)))) else none
section
variable{G:Gx}{X:Cx}{e:Expr}{x:Xx}{pos pos':Pos}{j:Nat}{nm:Str}
def BA{D:Ends}{O:L2.St}{H:Hp}(l:tS G (oA j x) D O H):SK G x O H λu i=>D.nx (O.set j (some u)) i:=by
 obtain⟨Z,J,o,s,e,k⟩:=l;obtain⟨z,e1,e2⟩:=Zz.mp e;split at e2
 ·rename_i m;cases e2;refine⟨Z,J,z.1,z.2,s,e1,λu i v F s1 f1 r1 d=>?_⟩;refine k _ _ _ (s1.put (c:=.ow z.1.2) (H':=i) m r1 (λ_ _ _ _ _ q=>q) (λ_ _=>d.nd) (λ_ _ f p _ g a b=>d.ap f p g a b) λf t _ g a b r=>d.ap f _ g a r b) ⟨λa o h n=>⟨(f1.keep a o h n).1,λz=>?_⟩,f1.GX,λa h=>?_,λa h=>?_,f1.kept⟩
  ·rcases jW z with⟨_,_,b⟩ | z
   ·rcases d.of a b with q | q
    ·rw[q]at h;cases h
    ·exact n q
   ·exact(f1.keep a o h n).2 z
  ·rcases jW h with⟨_,_,b⟩ | z
   ·exact(d.of a b).symm
   ·exact f1.ow a z
  ·rcases pO h with⟨_,q,_⟩ | z
   ·cases q
   ·exact f1.pu a z
 ·cases e2
def yd(h:PXN G X e x)(g:X.N.Nodup)(d:X.N[j]?=some nm)(a:Loc X.env.scope nm)(i:swapsWith e (some (.Name nm pos')) pos.line X.env=pure false)(f:X.fn nm=true\/X.env.scope.names.lookup nm=some .local) :
  PSV G X (.Assign [.Name nm pos'] e pos) (oA j x) :=
 PS.weak (o8 g d a h i f) λD O H b=>BA b
end
noncomputable def lC(o:Option Xx)(J:VS.Env):Option (Option Int×VS.Env):=match o with
 |none=>some (none,J)
 |some x=>(x J).bind λz=>match z.1.2 with
  |.int i=>some (some i,z.2)
  |_=>none
noncomputable def NG(a:Xx)(b d:Option Xx):Xx:=λJ=>(a J).bind λz=>match z.1.2 with
 |.str t=>(lC b z.2).bind λl=>(lC d l.2).map λh=>((.fr,.str (cut t l.1 h.1)),h.2)
 |_=>none
noncomputable def Pg(G:Gx)(o:Option Xx):TO:=λO H Q=>∃Z J i a,SR G Z J O H/\lC o J=some (i,a)/\∀b d,SR G d a O b->GZ Z J H d a b->Q i b
section
variable{G:Gx}{X:Cx}{e a b:Expr}{lo hi:Option Expr}{xl xh:Option Xx}{xa x xb:Xx}{pos p2:Pos}{i:Nat}{n:Str}
def rm:PO X none (Pg G none):=PO.weak uQ λO H Q d=>by
 obtain⟨Z,J,o,f,s,e,k⟩:=d;cases e;exact k H Z s (GZ.refl _ _ _)
def rZ(h:PX G X e x):PO X (some e) (Pg G (some x)):=PO.weak (uA h) λO H Q l=>by
 obtain⟨Z,J,o,q,s,e,k⟩:=l;obtain⟨z,e1,e2⟩:=Zz.mp e;split at e2
 ·rename_i j d;cases e2;refine⟨Z,J,z.1,z.2,s,e1,by rw[d];rfl,λu p m g f r=>⟨j,?_,k p m g f⟩⟩;rw[d]at r;exact r.int_inv
 ·cases e2
def BK(r:PX G X a xa)(o:PO X lo (Pg G xl))(p:PO X hi (Pg G xh)):PX G X (.Subscript a (.Slice lo hi none p2) pos) (NG xa xl xh) :=
 PE.weak (rP zm r o p) λO H Q m=>by
  obtain⟨Z,J,v,N,s,e,M,k⟩:=m;obtain⟨z,e1,e2⟩:=Zz.mp e;split at e2
  ·rename_i t f;obtain⟨l,C,B⟩:=Zz.mp e2;obtain⟨h,A,y⟩:=Zw.mp B;cases y;refine⟨Z,J,z.1,z.2,s,e1,by rw[f];rfl,λu R F s1 f1 r1=>⟨F,z.2,l.1,l.2,s1,C,λP E j f2=>⟨E,l.2,h.1,h.2,j,A,λL D g w=>?_⟩⟩⟩;rw[f]at r1;obtain⟨rfl,d⟩:=r1.str_inv;refine⟨_,rfl,by rw[dF,← fG];exact d.1,?_⟩;rw[jw];exact k _ L D g ((f1.trans f2).trans w) (.str _ ⟨ZI (vn _ _ _) d.1,λc q=>d.2 c ((pj _ _ _).subset q)⟩)
  ·cases e2
def Cb(i:Nat)(M:X.N[i]?=some n)(B:Ir X.env.scope n)(E:K3 n)(d:K4 n)(L:PX G X b xb)(C:fM b)(P:X.K=G.K):PX G X (.Subscript (.Name n p2) b pos) (sy i xb) :=
 PE.weak (lF jU (dM M B E d) L C) λO H Q D=>by
  obtain⟨Z,J,v,J',s,e,LN,k⟩:=D;unfold sy at e;split at e
  ·rename_i c0 WN;obtain⟨r,p,_⟩:=s.rp _ _ WN;obtain⟨z,e1,e2⟩:=Zz.mp e;split at e2
   ·rename_i y c m F;split at e2
    ·rename_i ts VE;obtain⟨j,S,U⟩:=Zz.mp e2;obtain⟨t,R,f⟩:=Zz.mp U;split at f
     ·rename_i hit;cases f;refine⟨r,p,Z,J,z.1,z.2,s,e1,by rw[m];rfl,λw H2 Y h f2 r2=>?_⟩;obtain⟨v1,o,r1⟩:=h.rp _ _ F;rw[p]at o;cases o;rw[VE]at r1;rw[m]at r2;obtain⟨a,q,Fs,rfl,eF,Np,l⟩:=r1.lst_inv;obtain⟨x,Fx,u,u2,g⟩:=l.get j R;have A:=g.GO hit;subst A;exact .inl ⟨a,q,y,x,rfl,r2.int_inv,by rw[P];exact GY.of Np,iO (by rw[l.len.1];exact S) u,k x H2 Y h f2 g⟩
     ·cases f
    ·cases e2
   ·cases e2
  ·cases e
end
section
variable{G:Gx}{X:Cx}{elt a:Expr}{sc:Scope}{pos p p2 p3:Pos}{N:List Str}{nm:Str}{xa x:Xx}
def zp(N:List Str)(t:X.calm=true)(e:Gl X "range")(d:X.mg "range" = none)(j:PX G X a xa)(l:∀cl C s H fp,PG (bR X N sc cl C s H fp) (.Name nm p2) (vw 0))(i:∀cl C s H fp,PX G (bR X N sc cl C s H fp) elt x)(b:K1 a [] X)(q:starEach [a] X.env=[(false,eval a X.env)])(o:nH X.env sc=true)(n:kz sc (N.drop 1) X.N=true)(m:1<=N.length)(f:∀x,foldedSetIterable (.Call (.Name "range" p) [a] [] p3) X.env x=pure x) :
  PE X (.ListComp elt [⟨.Name nm p2,.Call (.Name "range" p) [a] [] p3,[],0⟩] sc pos) (Qv G (qu xa x)) :=
 PE.weak (pv t (oV e d (cP j fD b) q) o n m (λcl C s H fp=>⟨l cl C s H fp,kE,i cl C s H fp⟩) f) λO H Q h=>zv (g:=vw 0) (λv O H R r=>r) h
end
section
variable{G:Gx}{X:Cx}{e a b elt:Expr}{es rest:List Expr}{ca cb:Ex}{xa xb xc:Xx}{xt:Xt}{as:List Ix}{lo hi:Option Expr}{xl xh:Option Xx}{y:VS.Env->Option (W8×VS.Env)}{sep:Tx}{sc:Scope}{N:List Str}{p pos pos' p1 p2 p3 apos pe:Pos}{i j k k':Nat}{un:Bool}{n nm x:Str}{ps:List Str}{g:W8->Option (W8×T)}
def vg(f:IC G X a ca)(d:Ny G X b xt):Ny G X (.BoolOp .And [a,b] pos) (iV ca xt):=(Br f (xQ d)).U9
def cF(F:IoAt X.prog X.w X.K X.mg X.base k x ps G (KY as) g)(h:GJ k' X.A)(q:Mr G X (e :: es) (.io i un :: as))(l:k<=k':=by decide)(m:Gl X x:=by exact rfl)(v:K3 x:=by exact rfl)(o:K1 e es X:=by exact rfl)(d:K2 pos es X:=by exact rfl) :
  PX G X (.Call (.Name x p) (e :: es) [] pos) (aW (.io i un :: as) g):=by
 obtain⟨f,fd,u,t,s,r⟩:=F.ex;exact(oz u (h.mono l) m t s r q v o d).px
def AC(F:IoAt X.prog X.w X.K X.mg X.base k x ps G (KY as) g)(h:GJ k' X.A)(q:Mr G X (e :: es) (.io i un :: as))(l:k<=k')(m:Gl X x)(v:K3 x)(o:K1 e es X)(d:K2 pos es X) :
  PXN G X (.Call (.Name x p) (e :: es) [] pos) (aW (.io i un :: as) g):=by
 obtain⟨f,fd,u,t,s,r⟩:=F.ex;exact oz u (h.mono l) m t s r q v o d
end
end VS
end
section
namespace ST
open PySem PySem.Spec PyProof.Rows TS
variable{prog:Program}{w:World}{A:Around}{E:GS}{s:Shared}
def Gv{k b:Ky}{v d:Value}{Q:GS}(e:kind k=kind b)(h:OY k v)(f:OY b d)(q:Q (.bool (Pz k b)) s):wpAny (model prog w) A (richCompare .Lt v d) Q E s:=by
 cases k<;>cases b<;>simp only[kind,Sum.isLeft,Bool.true_eq_false,YM]at e<;>obtain⟨t,rfl⟩:=h<;>obtain⟨a,rfl⟩:=f
 ·rename_i i j;refine richCompare_gives (op:=.Lt) (typeIs_int _ _ t) (typeIs_int _ _ a) F.slot_int_lt F.entry_int_lt (F.args_int_lt_2 _ _) (gives_int_lt _ _ t a) (λx=>nomatch x) ?_;exact q
 ·rename_i x y;refine richCompare_gives (op:=.Lt) (typeIs_str _ _ t) (typeIs_str _ _ a) F.slot_str_lt F.entry_str_lt (F.args_str_lt_2 _ _) (gives_str_lt _ _ t a) (λx=>nomatch x) ?_;exact q
def CG{x y:List Ky}{a b:Addr}{P:PySem.Fin->Shared->Prop}(S:tY s.heap (.ref a) x)(R:tY s.heap (.ref b) y)(G:x.map kind=y.map kind)(h:P (.done (.ret (.bool (n9 x y)))) s) :
  wpAny (model prog w) A (Builtin.«tuple.__lt__» ⟨[.ref a,.ref b],[]⟩) P E s:=by
 obtain⟨_,oa,p,na,Z,VO,X,WI,L⟩:=S;obtain⟨_,O,o,nb,Y,N,WK,HM,M⟩:=R;cases Z;cases Y;refine(show wpAny _ _ (isInstance (.ref b) (.type "tuple")>>=_) _ _ s from ?_);refine Zn (wpAny_isInstance ⟨O,N,WK⟩ isSubtype_tuple_tuple ?_);simp only[Bool.not_true,YM,if_false];refine Zn (wpAny_tupleItemsOf VO WI ?_);refine Zn (wpAny_tupleItemsOf N HM ?_);have hlen:p.size=o.size:=by
  have C:∀{ks:List Ky}{B:Xg},Jx ks B->ks.length=B.length:=λh=>by
   induction h with
   |nil=>rfl
   |cons _ _ Q=>rw[Zk,Zk,Q]
  have:=congrArg List.length G;rw[Zu,Zu,C L,C M,YQ,YQ]at this;exact this
 refine Zn ?_;refine wpAny_forIn_list _
  (λrest r i=>r.1=none/\i=s/\∃g f j l,rest=List.zip j l/\Jx g j/\Jx f l/\g.map kind=f.map kind/\(n9 g f)=(n9 x y))
  _ ?_ ?_ _ _ ⟨rfl,rfl,x,y,p.toList,o.toList,rfl,L,M,G,rfl⟩
 ·rintro⟨u,v⟩ rest r i ⟨q,rfl,g,f,j,l,e,z,m,d,n⟩;cases z with
  |nil=>simp at e
  |@cons F u' UI Qq J Rb =>
   cases m with
   |nil=>simp at e
   |@cons D v' UH Qp H QZ =>
    simp only[Za,List.cons.injEq,Prod.mk.injEq]at e;obtain⟨⟨rfl,rfl⟩,rfl⟩:=e;simp only[Zl,List.cons.injEq]at d;refine Zn (EM d.1 J H ?_);by_cases t:F=D
    ·subst t;rw[ZP rfl];simp only[Bool.not_true,YM,if_false];refine ZZ ⟨rfl,rfl,UI,UH,Qq,Qp,rfl,Rb,QZ,d.2,?_⟩;rw[← n,jm,Zq rfl]
    ·rw[Zc t];simp only[Bool.not_false,if_true];have U:(n9 x y)=Pz F D:=by rw[← n,jm,Zp t]
     rw[U]at h;refine Zn (wpAny_rule (Zn (Gv d.1 J H ?_)));exact Zn (ZZ (ZZ (ZZ h)))
 ·rintro⟨r1,r2⟩ i ⟨q,rfl,g,f,j,l,e,z,m,d,n⟩;simp only at q;subst q;refine ZZ ?_;have RK:(n9 x y)=false:=by
   rw[← n];cases z with
   |nil =>
    cases m with
    |nil=>rfl
    |cons _ _=>simp at d
   |cons _ _ =>
    cases m with
    |nil=>simp at d
    |cons _ _=>simp at e
  rw[RK]at h;refine(show P (.done (.ret (.bool (decide (p.size<o.size))))) i from ?_);rw[Zc (by omega)];exact h
def Gr{x y:List Ky}{a b:Addr}{Q:GS}(i:A.units<cLine)(d:tY s.heap (.ref a) x)(f:tY s.heap (.ref b) y)(j:x.map kind=y.map kind)(h:Q (.bool (n9 x y)) s) :
  wpAny (model prog w) A (richCompare .Lt (.ref a) (.ref b)) Q E s:=by
 have ty:∀{a:Addr}{x:List Ky},tY s.heap (.ref a) x->s.TypeIs (.ref a) "tuple" := λh=>by
  obtain⟨b,o,_,_,e,g,c,_⟩:=h;cases e;exact⟨o,g,c⟩
 exact wpAny_richCompare_same_room (op:=.Lt) (ty d) (ty f) F.slot_tuple_lt (XC F.slot_tuple_lt (ty d) F.entry_tuple_lt (CG d f j ⟨_,rfl,(λe=>nomatch e),h⟩) (F.args_tuple_lt_2 _ _)) i
noncomputable def Nw(a:Nat->Nat->Bool):Nat->Nat->Nat->Nat
 |0,_,c=>c
 |k+1,j,c=>Nw a k (j+1) (if a j c then j else c)
section
variable{R:Result->Shared->Prop}{I S:Addr}{fp wr:Xi}{n:Nat}{P:Nat->Value->Prop}{St:Nat->Heap->Prop}{K:Heap->Prop}{bt:Nat->Nat->Bool}
def As(W:Walks prog w A.in1 I fp wr n P St)(U:S∉fp)(N:∀h g,K h->(∀b o,b∉wr->b≠S->h.get? b=some o->g.get? b=some o)->K g)(MX:∀(i j:Nat)(u v:Value)(s:Shared)(Q:GS)(E:GS),P i u->P j v->K s.heap->Q (.bool (bt i j)) s->wpAny (model prog w) A.in1 (richCompare .Lt u v) Q E s) :
  ∀(k j:Nat)(s:Shared)(c:Nat)(d:Value)(m:Nat),n-j=k->j<=n->P c d->St j s.heap->K s.heap →
  s.heap.get? S=some { cls:=.type "list",dict:=none,data:=.seq #[d,d] m,slots:=#[] } →
  (∀v g r,P (Nw bt k j c) v->(∀b o,b∉wr->b≠S->s.heap.get? b=some o->g.get? b=some o)->R (.ok (.ret v)) { s with heap:=g,toks:=r }) →
  codeAny (model prog w) A (.builtin "min.loop" ⟨[.ref I,.none,.ref S],[]⟩) R s:=by
 have X:S∉wr:=λh=>U (W.sub _ h);have Z:(toString "min" ++ toString ".loop" : String) = "min.loop" := by decide
 intro k
 induction k with
 |zero =>
  intro j s c d m hk hj t H O hS f;have Ij:j=n:=by lia
  refine XT F.entry_min_loop ?_;rw[Y6 Xy _];refine(show wpAny _ A.in1 (seqItems? (.ref S)>>=_) _ _ s from Zn (wpAny_seqItems hS rfl ?_));refine(show wpAny _ A.in1 (tryCatch (pyNext (.ref I)) _>>=_) _ _ s from Zn (X0 (W.done s _ _ (Ij ▸ H) λg r p=>?_)));have q:=p S _ X hS;refine(show wpAny _ A.in1 (updateSeq S (λ_=>#[])>>=_) _ _ _ from Zn ?_);refine wpAny_updateSeq q rfl (Zn (wpAny_letGo (ZZ ?_)));exact f d _ r t λb o l a e=>(YO _ _ (Yq a)).trans (p b o l e)
 |succ k L =>
  intro j s c d m hk hj t H O hS f;have J:j<n:=by omega
  refine XT F.entry_min_loop ?_;rw[Y6 Xy _];refine(show wpAny _ A.in1 (seqItems? (.ref S)>>=_) _ _ s from Zn (wpAny_seqItems hS rfl ?_));refine(show wpAny _ A.in1 (tryCatch (pyNext (.ref I)) _>>=_) _ _ s from Zn (X0 (W.item j s _ _ J H λv g r M Y p=>?_)));have q:=p S _ X hS;have y:=N _ _ O λb o hb _ e=>p b o hb e;refine(show wpAny _ A.in1 (tryCatch (holding [v,v] (richCompare .Lt v d>>=_)) _>>=_) _ _ _ from ?_);refine Zn (X0 (Y7 (Zn (MX j c v d _ _ _ M t y ?_))));refine Zn (Y7 (YK ?_));refine Zn (wpAny_letGo (ZZ ?_));unfold Nw at f;cases hb:bt j c with
  |false =>
   rw[hb]at f;simp only[YM,if_false]at f ⊢;refine Zn (wpAny_letGo ?_);rw[Z];refine ZZ ⟨Xb Xy _,L (j+1) _ c d m (by omega) J t Y y q λx C D B G=>?_⟩;exact f x C D B λb o l a e=>G b o l a (p b o l e)
  |true =>
   rw[hb]at f;simp only[if_true]at f ⊢;refine Zn (wpAny_updateSeq q rfl (Zn (wpAny_letGo ?_)));rw[Z];have kp:∀b o,b≠S->g.get? b=some o->(g.update S (Obj.mapSeq λ_=>#[v,v])).get? b=some o:=λb o a e=>(YO _ _ (Yq a)).trans e;refine ZZ ⟨Xb Xy _,L (j+1) _ j v _ (by omega) J M (W.frame _ _ _ Y λb RP o e=>kp b o (λz=>U (z ▸ RP)) e) (N _ _ y λb o _ a e=>kp b o a e) (XD _ q rfl) λx C D B G=>?_⟩;exact f x C D B λb o l a e=>G b o l a (kp b o a (p b o l e))
end
def vV{x:Value}{Q:GS}(h:wpAny (model prog w) A.in1 (pyIter x) (λit a=>∃I fp wr n P St g,it=.ref I/\Walks prog w A.in1 I fp wr n P St/\St 0 a.heap/\(∀b∈fp,b<a.heap.objs.size)/\0<n ∧
   (∀(i j:Nat)(u v:Value)(s:Shared)(Q:GS)(E:GS),P i u->P j v->(∀b o,b∉wr->a.heap.get? b=some o->s.heap.get? b=some o)->Q (.bool (g i j)) s->wpAny (model prog w) A.in1 (richCompare .Lt u v) Q E s) ∧
   ∀v d m,P (Nw g (n-1) 1 0) v->(∀b o,b∉wr->a.heap.get? b=some o->d.get? b=some o)->Q v { a with heap:=d,toks:=m }) E s) :
  wpAny (model prog w) A (call (.builtin "min") [x]) Q E s:=by
 have t:(toString "min" ++ toString ".loop" : String) = "min.loop" := by decide
 refine call_function_tree F.kind_min F.plain_min F.entry_min (F.args_min1 _) ?_;show wpAny _ A.in1 (Builtin.Builtins.bindParams "min" ["key", "default"] 0 ⟨[],[]⟩>>=_) _ _ s;refine Zn (wpAny_of_eq (show Builtin.Builtins.bindParams "min" ["key", "default"] 0 ⟨[],[]⟩=pure [none,none] from rfl) ?_);refine Zn (ZZ ?_);refine Zn (YJ h (λit a C=>?_) λ_ _ e=>e);obtain⟨I,fp,wr,n,P,St,g,rfl,W,Z,O,p,R,G⟩:=C;refine Zn (XI ?_);have l:a.heap.objs.size∉fp:=λD=>Ya _ (O _ D);have S:a.heap.objs.size∉wr:=λh=>l (W.sub _ h);have hS:(a.heap.push { cls:=.type "list",data:=.seq #[] }).get? a.heap.objs.size=some { cls:=.type "list",dict:=none,data:=.seq #[] 0,slots:=#[] }:=ZQ _ rfl;have U:=W.frame 0 a.heap (a.heap.push { cls:=.type "list",data:=.seq #[] }) Z λb _ o e=>Zi _ e;rw[t];refine ZZ ⟨Xb Xy _,XT F.entry_min_loop ?_⟩;rw[Y6 Xy _];refine(show wpAny _ A.in1 (seqItems? (.ref a.heap.objs.size)>>=_) _ _ _ from Zn (wpAny_seqItems hS rfl ?_));refine(show wpAny _ A.in1 (tryCatch (pyNext (.ref I)) _>>=_) _ _ _ from Zn (X0 (W.item 0 { a with heap:=a.heap.push { cls:=.type "list",data:=.seq #[] } } _ _ p U λv d m H J r=>?_)));have q:=r _ _ S hS;refine(show wpAny _ A.in1 (updateSeq a.heap.objs.size (λ_=>#[v,v])>>=_) _ _ _ from Zn ?_);refine wpAny_updateSeq q rfl ?_;rw[t];have kp:∀b o,b∉wr->a.heap.get? b=some o->(d.update a.heap.objs.size (Obj.mapSeq λ_=>#[v,v])).get? b=some o:=λb o f e =>
  (YO _ _ (Yq (Zb (ZW e)))).trans (r b o f (Zi _ e))
 refine ZZ ⟨Xb Xy _,As (K:=λh=>∀b o,b∉wr->a.heap.get? b=some o->h.get? b=some o) W l (λh1 h2 B z b o hb e=>z b o hb (Zb (ZW e)) (B b o hb e)) R (n-1) 1 _ 0 v _ rfl p H (W.frame _ _ _ J λb L o e=>?_) kp (XD _ q rfl) λy N X M Y=>?_⟩
 ·exact(YO _ _ (λh:a.heap.objs.size=b=>l (by rw[h];exact L))).trans e
 ·exact G y N X M λb o f e=>Y b o f (Zb (ZW e)) (kp b o f e)
end ST
namespace VS
open PySem PySem.Spec PyProof.Rows L2 TS
noncomputable def CH:T->Option (Int×Tx)
 |.tup [.int a,.str b]=>some (a,b)
 |_=>none
noncomputable def jZ:W8->Option (List (Int×Tx))
 |[]=>some []
 |t :: r=>(CH t).bind λp=>(jZ r).map (p :: ·)
noncomputable def dw(p q:Int×Tx):Bool:=if p.1=q.1 then JJ p.2 q.2 else decide (p.1<q.1)
noncomputable def kU(p:Int×Tx)(r:List (Int×Tx)):Int×Tx:=r.foldl (λc q=>if dw q c then q else c) p
noncomputable def so:W6->W7
 |[(_,.lst l)]=>(jZ l).bind fun
  |[]=>none
  |p :: r=>some (.fr,.tup [.int (kU p r).1,.str (kU p r).2])
 |_=>none
section
variable{G:Gx}{X:Cx}{e:Expr}{cs:Hf}{p pos:Pos}{k:Nat}
def Ef(q p:Int×Tx):n9 [.inl q.1,.inr (sx q.2)] [.inl p.1,.inr (sx p.2)]=dw q p:=by
 unfold dw;rw[jm];by_cases h:q.1=p.1
 ·rw[Zq (by rw[h]),Zq h,jm,fX];by_cases g:q.2=p.2
  ·rw[Zq (by rw[g]),Zc (by rw[g];exact XZ _)];rfl
  ·rw[Zp (λz=>g (Eh (Sum.inr.inj z)))];show decide ((sx q.2).cps.toList<(sx p.2).cps.toList)=_;exact decide_eq_decide.mpr (by simp[sx])
 ·rw[Zp h,Zp (by simpa using h)];rfl
def BC{H:Hp}(b:W8):∀{ps:List (Int×Tx)}{f:List V}{j:Yd},jZ b=some ps->RpL G H f b j->∃i:Xi,f=i.map V.ref/\Paired (λ(a:Addr) (q:Int×Tx)=>H a=some (.tup [.int q.1,.str (sx q.2)])/\Rp G H (.ref a) (.tup [.int q.1,.str q.2]) []) i ps:=by
 induction b with
 |nil =>
  intro ps f j h r;cases h;cases r;exact⟨[],rfl,.nil⟩
 |cons t b n =>
  intro ps f j h r;obtain⟨p,g,o⟩:=Zz.mp (show (CH t).bind (λp=>(jZ b).map (p :: ·))=some ps from h);obtain⟨x,s,rfl⟩:=Zw.mp o;cases r with
  |cons r1 r2 =>
   obtain⟨i,rfl,q⟩:=n s r2;have v:t=.tup [.int p.1,.str p.2]:=by
    unfold CH at g;split at g
    ·cases g;rfl
    ·cases g
   rw[v]at r1;have u:=r1.GO rfl;rw[u]at r1;obtain⟨c,w,y,rfl,_,l,d⟩:=r1.Hl;cases d with
   |cons m d =>
    cases d with
    |cons x2 d =>
     cases d;rw[m.int_inv,x2.str_inv.1]at l;exact⟨c :: i,rfl,.cons ⟨l,r1⟩ q⟩
def xY(a:List (Int×Tx))(d:Int×Tx):∀(k j c:Nat),j+k=a.length->a.getD (ST.Nw (λi j=>dw (a.getD i d) (a.getD j d)) k j c) d=(a.drop j).foldl (λc q=>if dw q c then q else c) (a.getD c d)/\(c<a.length->ST.Nw (λi j=>dw (a.getD i d) (a.getD j d)) k j c<a.length):=by
 intro k
 induction k with
 |zero =>
  intro j c h;rw[XX (by omega)];exact⟨rfl,id⟩
 |succ k f =>
  intro j c h;have b:j<a.length:=by omega
  have m:a.getD j d=a[j]:=by rw[Zv,Zt b];rfl
  obtain⟨l,g⟩:=f (j+1) (if dw (a.getD j d) (a.getD c d) then j else c) (by omega);refine⟨l.trans ?_,λn=>g (by split<;>assumption)⟩;rw[Yn b,YL,← m];congr 1;split<;>rfl
def vX(L:GJ k X.A)(U:X.calm=true):dI X (.builtin "min") (λB H Q=>∃p,∃(d:Xi)(f:Int×Tx)(ps:List (Int×Tx)),B=[.ref p]/\GY X.K H p (d.map V.ref)/\d.length=ps.length+1/\(∀(i:Nat)(a:Addr),d[i]?=some a->H a=some (.tup [.int ((f :: ps).getD i (0,[])).1,.str (sx ((f :: ps).getD i (0,[])).2)])) ∧
  ∀(i:Nat)(a:Addr),d[i]?=some a->(f :: ps).getD i (0,[])=kU f ps->Q (.ref a) H):=by
 intro pins s O H B us Q I J h;obtain⟨p,d,f,ps,rfl,M,N,F,q⟩:=h;obtain⟨u,rfl,t⟩:=J.one;obtain rfl:=(show u=Value.ref p from t)
 obtain⟨m,C,w,hz⟩:=I.list M;have E:p<s.heap.objs.size:=by obtain⟨_,e,_⟩:=w.isList;exact ZW e
 have hlen:m.length=ps.length+1:=by have:=C.length;rw[Zu]at this;omega
 have at_:∀(i:Nat)(v:Value),m.toArray[i]?=some v->∃a,v=.ref a/\d[i]?=some a:=λi v l=>by
  rw[List.getElem?_toArray]at l;have S:=(Zg.mp l).1;have D:i<d.length:=by omega
  obtain⟨u,y,t⟩:=C.get (i:=i) (x:=V.ref d[i]) (by rw[ZY,Zt D];rfl);rw[y]at l;cases l;exact⟨d[i],t,Zt D⟩
 have key:∀{h:Heap}{a:Addr}{q:Int×Tx},H a=some (.tup [.int q.1,.str (sx q.2)])->(∀b o,b∉[s.heap.objs.size]->(s.heap.push { cls:=.type "list_iterator",data:=.fields #[.ref p,.int 0 0] }).get? b=some o->h.get? b=some o)->tY h (.ref a) [.inl q.1,.inr (sx q.2)]:=λ{h a q} ea kp=>by
  obtain⟨b,o,items,n,e,g,r⟩:=A0 (ks:=[.inl q.1,.inr (sx q.2)]) I.GL ea;cases e;refine⟨a,o,items,n,rfl,kp a o (λz=>?_) (Zi _ g),r⟩;rw[Zj.mp z]at g;exact absurd (ZW g) (Ya _)
 have y:X.A.in1.units<cLine:=by have:=L.un;show X.A.units+1<cLine;lia
 refine ST.vV (wpAny_pyIter_list w.isList ⟨s.heap.objs.size,[s.heap.objs.size,p],[s.heap.objs.size],m.toArray.size,_,_,λi j=>dw ((f :: ps).getD i (0,[])) ((f :: ps).getD j (0,[])),rfl,Walks.list (A:=X.A.in1) (I.ok.hd U) _ p (Zb E) m.toArray,
  ⟨⟨_,ZQ _ rfl,rfl,rfl⟩,w.isList.push _⟩,λb hb=>?_,by rw[ZS];omega,λi j u v s' Q' E' l R kp ZD=>?_,λv h' tk Z P=>?_⟩)
 ·rw[X6];rcases Zo.mp hb with rfl | hb
  ·exact YZ _
  ·rw[Zj.mp hb];exact XA E
 ·obtain⟨ai,rfl,WR⟩:=at_ i u l
  obtain⟨aj,rfl,PY⟩:=at_ j v R
  refine ST.Gr y (key (F i ai WR) kp) (key (F j aj PY) kp) rfl ?_;rw[Ef];exact ZD
 ·obtain⟨a,rfl,Y⟩:=at_ _ v Z
  refine⟨.ref a,H,I.kept (um P),rfl,q _ a Y ?_⟩;have:=(xY (f :: ps) (0,[]) (m.toArray.size-1) 1 0 (by rw[ZS,Zk];omega)).1;exact this
def Ae:fC G (λj H Q=>∃p,∃(f:Xi)(d:Int×Tx)(ps:List (Int×Tx)),j=[.ref p]/\GY G.K H p (f.map V.ref)/\f.length=ps.length+1/\(∀(i:Nat)(a:Addr),f[i]?=some a->H a=some (.tup [.int ((d :: ps).getD i (0,[])).1,.str (sx ((d :: ps).getD i (0,[])).2)])) ∧
  ∀(i:Nat)(a:Addr),f[i]?=some a->(d :: ps).getD i (0,[])=kU d ps->Q (.ref a) H) so:=by
 intro Z J D H l n z m t Q A e k;unfold so at e;split at e
 ·rename_i C x;obtain⟨s,e1,e2⟩:=Zz.mp e
  match s,e1,e2 with
  |d :: ps,e1,e2 =>
   cases e2;obtain⟨v,F,rfl,rfl,o⟩:=(show RpL G H n [.lst x] z from A.rp).one;obtain⟨a,B,E,rfl,rfl,u,q⟩:=o.lst_inv;obtain⟨f,rfl,pr⟩:=BC _ e1 q;have g:∀(i:Nat)(a:Addr),f[i]?=some a->H a=some (.tup [.int ((d :: ps).getD i (0,[])).1,.str (sx ((d :: ps).getD i (0,[])).2)])/\Rp G H (.ref a) (.tup [.int ((d :: ps).getD i (0,[])).1,.str ((d :: ps).getD i (0,[])).2]) []:=λi a h=>by
    obtain⟨b,y,w⟩:=wa pr i a h;rw[Zv,y];exact w
   refine⟨a,f,d,ps,rfl,GY.of u,by rw[Xq pr];rfl,λi a h=>(g i a h).1,λi a h he=>?_⟩;have r:=(g i a h).2;rw[he]at r;exact k _ _ _ (aH.refl _) r Fp.nil
 ·cases e
def DO(a:GJ k X.A)(b:X.mg "min" = none)(g:HP G X [e] cs)(f:X.calm=true:=by rfl)(d:Gl X "min" := by rfl)(h:X.K=G.K:=by rfl)(he:K1 e [] X:=by rfl):PV G X (.Call (.Name "min" p) [e] [] pos) (eN so cs) :=
 ke (vX a f) (h ▸ Ae) d b Dc g (he:=he) (hpl:=rfl)
end
end VS
end
section
namespace VS
open PySem PySem.Spec PyProof.Rows L2
noncomputable def Cw:T->Bool
 |.int _=>true
 |.str s=>My s
 |_=>false
noncomputable def mM(i:Nat):Jb:=λJ=>match (J[i]?:Option (W5)) with
 |some (some (.pu (.dct 3 l)))=>if (l.all λp=>Cw p.1)=true then some (.fr,l.map (·.1)) else none
 |_=>none
noncomputable def Pe:T->Bool
 |.tup l=>l.all Nh
 |t=>Nh t
noncomputable def N5:T->Bool
 |.lst l=>cZ l
 |t=>GO t
noncomputable def pT(i:Nat)(d:Tg)(a:Option Ex)(e:Ex):Ex:=λJ=>match (J[i]?:Option (W5)) with
 |some (some (.pu (.dct 0 l)))=>if (l.all λp=>N5 p.2)=true then (cz 1 d (mM i) a e ((List.replicate J.length none).set i (some (.pu (.dct 3 l))))).bind λv=>match v with
  | (.fr,.lst b)=>if b.all Pe=true then some v else none
  |_=>none
  else none
 |_=>none
section
variable{G:Gx}{X:Cx}{i j:Nat}{elt tg c:Expr}{sc:Scope}{pos pos' Jh p1 p2:Pos}{N:List Str}{x z:Str}{g:Tg}{cc ce:Ex}
theorem rn{H H':Hp}:∀{d:List V}{a:W8}{b:Yd},a.all Nh=true->RpL G H d a b->b.flatten=[]/\RpL G H' d a b
 |_,_,_,_,.nil=>⟨rfl,.nil⟩
 |_,_,_,h,.cons r q=>by
  rw[Y0,Zd]at h;obtain⟨rfl,e⟩:=uV (H':=H') h.1 r;obtain⟨f,l⟩:=rn (H':=H') h.2 q;exact⟨f,.cons e l⟩
def AJ{H H':Hp}(o:∀b d,H b=some (.tup d)->H' b=some (.tup d)){v:V}{t:T}{F:Xi}(h:Pe t=true)(r:Rp G H v t F):F=[]/\Rp G H' v t F:=by
 by_cases e:Nh t=true
 ·obtain⟨rfl,n⟩:=uV (H':=H') e r;exact⟨rfl,n⟩
 ·cases t with
  |tup l =>
   obtain⟨a,s,u,rfl,rfl,p,m⟩:=r.Hl;obtain⟨f,q⟩:=rn (H':=H') (show l.all Nh=true from h) m;exact⟨f,.tup (o _ _ p) q⟩
  |_=>exact absurd h e
theorem qo{H H':Hp}(m:∀b e,H b=some (.tup e)->H' b=some (.tup e)):∀{l:List V}{a:W8}{d:Yd},a.all Pe=true->RpL G H l a d->d.flatten=[]/\RpL G H' l a d
 |_,_,_,_,.nil=>⟨rfl,.nil⟩
 |_,_,_,h,.cons r q=>by
  rw[Y0,Zd]at h;obtain⟨rfl,n⟩:=AJ m h.1 r;obtain⟨f,o⟩:=qo m h.2 q;exact⟨f,.cons n o⟩
theorem u0{H:Hp}:∀{n:List V}{d:W8}{f:Yd},d.all N5=true->RpL G H n d f->∀b∈f.flatten,∃m,H b=some (.lst m)
 |_,_,_,_,.nil=>λb h=>nomatch h
 |_,t :: _,_,h,.cons r q=>by
  rw[Y0,Zd]at h;intro b hb;rw[ZR]at hb;rcases Ze.mp hb with hb | hb
  ·by_cases e:GO t=true
   ·rw[r.GO e]at hb;cases hb
   ·cases t with
    |lst l =>
     obtain⟨a,o,u,rfl,rfl,s,p⟩:=r.lst_inv;rw[p.GO (show cZ l=true from h.1)]at hb;rw[Zj.mp hb];exact⟨o,s⟩
    |_=>exact absurd h.1 e
  ·exact u0 h.2 q b hb
def DT{B:Tg}(i:Nat)(N:List Str)(G9:X.calm=true)(Os:X.N[i]?=some z)(hv:Ir X.env.scope z)(hd:K3 z)(S:K4 z)(Ij:vQ 1 B)(hg:∀cl C s H fp,Mq G (bR X N sc cl C s H fp) tg B)(hc:∀cl C s H fp,IC G (bR X N sc cl C s H fp) c cc)(he:∀cl C s H fp,PV G (bR X N sc cl C s H fp) elt ce)(hN:X.N.Nodup)(V5:X.N[j]?=some x)(hx:Loc X.env.scope x)(IF:nH X.env sc=true)(Jm:kz sc (N.drop 1) X.N=true)(Jp:1<=N.length)(HV:swapsWith (.ListComp elt [⟨tg,.Name z p2,[c],0⟩] sc pos) (some (.Name x pos')) Jh.line X.env=pure true)(hf:X.fn x=true\/X.env.scope.names.lookup x=some .local)(hs:∀v,foldedSetIterable (.Name z p2) X.env v=pure v) :
  PSV G X (.Assign [.Name x pos'] (.ListComp elt [⟨tg,.Name z p2,[c],0⟩] sc pos) Jh) (aQ j (pT i B (some cc) ce)):=by
 intro pins s O H D I h;obtain⟨Z,J,m,r,sr,e,k⟩:=Ap h;unfold pT at e;split at e
 ·rename_i l hl;split at e
  ·rename_i VW;obtain⟨v0,ev,e1⟩:=Zz.mp e;split at e1
   ·rename_i UP;split at e1
    ·rename_i HG;cases e1;obtain⟨v,U,g2⟩:=sr.rp _ _ hl;obtain⟨d,ns,a,w,Fs,rfl,eF,E,M,rfl,Q⟩:=cO g2;have Hv:i<J.length:=(Zg.mp hl).1;have mu:GQ (H d):=by rw[E];exact True.intro
     have nf:∀o u,X.H₀ d≠some (.frz o u):=λo u q=>by
      have:=I.base.Il d o u q;rw[E]at this;cases this
     have key:=nS (k:=1) (g:=tG G B) (tc:=tC G (some cc)) (te:=tE G ce) hN V5 hx G9 (BF (dM Os hv hd S)) IF Jm Jp (λcl C s H fp=>⟨hg cl C s H fp,xk (hc cl C s H fp),he cl C s H fp⟩) HV hf hs pins s O H
      { D with nx:=λY H'=>(∃o,H' d=some (.frz o (.dK (ns.zip a))))/\D.nx Y (upd H' d (.dK (ns.zip a))) } I ?_
     ·refine YJ key (λf s' L=>?_) λ_ _ e=>e;cases f with
      |next =>
       obtain⟨Y,H',I',⟨o,h1⟩,h2⟩:=L;exact⟨Y,_,I'.NJ h1 nf,h2⟩
      |brk=>exact L
      |cont=>exact L
      |ret u=>exact L
     ·refine⟨.ref d,U,d,ns.zip a,rfl,E,λo=>?_⟩;have mt:((ns.map aB).zip w).map (·.2)=w:=WU (by rw[Zu,M,Q.len.1];exact Zh _);have Ry:w.all N5=true:=by
       rw[← mt,XW];exact VW
      have Rt:d∉Fs.flatten:=λz=>by
       obtain⟨xs,q⟩:=u0 Ry Q d z;rw[E]at q;cases q
      have s1:SR G (λk=>if k=i then Fs.flatten else []) ((List.replicate J.length none).set i (some (.pu (.dct 3 ((ns.map aB).zip w))))) O (upd H d (.frz o (.dK (ns.zip a)))):=by
       have at_:∀k c,((List.replicate J.length none).set i (some (Cell.pu (.dct 3 ((ns.map aB).zip w)))))[k]?=some (some c)->k=i/\c=.pu (.dct 3 ((ns.map aB).zip w)):=λk c q=>by
        by_cases hk:k=i
        ·subst hk;rw[YS (by rw[Yg];exact Hv)]at q;cases q;exact⟨rfl,rfl⟩
        ·rw[Yt (Yq hk),Ye]at q;split at q<;>cases q
       refine⟨by rw[Jt,Yg];exact sr.len,λk c q=>?_,λk t q=>?_,λk k' t c q=>?_⟩
       ·obtain⟨rfl,rfl⟩:=at_ k c q
        rw[Zq rfl];exact⟨.ref d,U,.dctZ aw M (Q.off mu Rt)⟩
       ·cases (at_ k _ q).2
       ·cases (at_ k _ q).2
      have hT:tE G (cz 1 B (mM i) (some cc) ce) O (upd H d (.frz o (.dK (ns.zip a)))) (λu H'=>(∃o,H' d=some (.frz o (.dK (ns.zip a))))/\D.nx (O.set j (some u)) (upd H' d (.dK (ns.zip a)))):=by
       refine⟨_,_,.fr,.lst UP,s1,ev,λu H' F P r f=>⟨⟨o,P _ _ aw⟩,?_⟩⟩;obtain⟨p,ws,Ws,rfl,rfl,R,JG⟩:=r.lst_inv;have Vp:p≠d:=λz=>by
        have:=f.2 p Zx;rw[z,aw]at this;cases this
       obtain⟨fl,rq⟩:=qo (H':=upd H' d (.dK (ns.zip a))) (λb xs q=>by rw[ay (show b≠d from λz=>by rw[z,P _ _ aw]at q;cases q)];exact q) HG JG;refine k (.ref p) _ (p :: Ws.flatten) (λb ob q=>?_) (.lst (by rw[ay Vp];exact R) rq) ⟨f.1,λb hb=>?_⟩
       ·by_cases hb:b=d
        ·subst hb;rw[aw,← q,E]
        ·rw[ay hb];exact P b ob (by rw[ay hb];exact q)
       ·have:=f.2 b hb;by_cases q:b=d
        ·rw[q,aw]at this;cases this
        ·rw[ay q]at this;exact this
      obtain⟨Z2,J2,m2,l2,s2,e2,k2⟩:=lY (cond:=some cc) Ij hT;refine k2 (P9 d o (ns.zip a)) _ [] (aH.refl _) ?_ (λb hb=>nomatch hb);unfold mM at e2;split at e2
      ·rename_i l3 h3;split at e2
       ·rename_i hint;cases e2;obtain⟨v3,q1,q2⟩:=s2.rp _ _ h3;rw[U]at q1;cases q1;obtain⟨a3,o3,QX,Qt,NL,Fs3,Sv,_,Ik,MW,rfl,KO⟩:=mV q2;cases Sv;rw[aw]at Ik;have hz:ns.zip a=QX.zip Qt:=HO.dK.inj (HO.frz.inj (Zm Ik)).2;have ek:=zip_inj M MW hz;subst ek;have em:((ns.map aB).zip NL).map (·.1)=ns.map aB:=X4 (by rw[Zu,MW,KO.len.1];exact Zh _);have zl:(ns.zip a).length=ns.length:=by rw[Ju,M,Nat.min_self]
        refine⟨λH2 MJ _=>⟨λn t A=>?_,λn A=>?_⟩,λb hb=>nomatch hb⟩
        ·rw[em,ZY]at A;obtain⟨kk,Lg,LM⟩:=Zw.mp A;have Oh:=(Zg.mp Lg).1;refine⟨⟨MJ.frz _ _ _ aw,by rw[zl];exact Oh⟩,λy H3 hy=>?_⟩;obtain⟨rfl,p,R,rfl⟩:=hy;refine⟨aH.refl _,[],?_,λb hb=>nomatch hb⟩;have Oe:p.1=kk:=by
          have JL:(ns.zip a)[n]?=some p:=R;rw[Yw]at JL;rw[Lg]at JL;exact(Zm JL.1).symm
         have hi:Cw t=true:=by
          have:=Ja.mp hint (t,NL[n]'(by rw[← KO.len.1,← MW];exact Oh)) (by
           refine Yc (i:=n) ?_;rw[Yw];exact⟨by rw[ZY,Lg];exact congrArg some LM,Zt _⟩)
          exact this
         rw[Oe,← LM];rw[← LM]at hi;cases kk with
         |inl n=>exact .int n
         |inr z=>exact .str _ (zf hi)
        ·refine⟨MJ.frz _ _ _ aw,?_⟩;rw[em,Zu]at A;rw[zl];exact A
       ·cases e2
      ·cases e2
    ·cases e1
   ·cases e1
  ·cases e
 ·cases e
end
noncomputable def yX:Fn:=λa=>match a with
 |[.scr ns]=>if ns.length<=63 then some (.fr,.bl true) else none
 |_=>none
section
variable{P:Program}{w:World}{K:Y2}{mg:Xk}{base:Heap}{G:Gx}
def AV{k:Nat}{f:Addr}{b:FuncData}{y:Str}{g:Fn}(j:G.K=K)(F:FnOk P w K mg base Hx k f b [y] (Jy G g))(i:∀ns:W3,ns.length<=63->g [.scr ns]=some (.fr,.bl true)) :
  FnOk P w K mg base Hx k f b [y] (Jy (OB K) yX):=F.imp λo H Q E h=>by
 obtain⟨p,s,m,r,l,a,q⟩:=h;unfold yX at a;split at a
 ·rename_i ns;split at a
  ·rename_i e;cases a;cases l with
   |cons r1 r2 =>
    cases r2;cases r1 with
    |scr d=>exact⟨[.scr ns],[[]],.fr,.bl true,.cons (.scr (by rw[j];exact d)) .nil,i ns e,λv n F e1 r f1=>q v n F e1 (by cases r;exact .bl _) f1⟩
  ·cases a
 ·cases a
end
def zH{l:PySem.W.OpenLaw}{q:Program}{b:List Str}{p:(Xk)->Heap->Prop}{d:DefRec}{K:Params->Y2}{x:Str}{k:Nat}(j:l.most=some 63)(r:d.params.defaults=[])(i:GJ k callerA)(F:∀(w:World)(mg:Xk)(e:Addr)(h:Heap),(K w.params).In h->h.Ns mainGlobals mg->mg d.name=some (.ref e) →
   ∃fd:FuncData,(∀(s:Shared)(u:Value),BindsTo s fd ⟨[u],[]⟩ [(x,u)])/\∀base:Heap,(K w.params).In base->base.Ns mainGlobals mg->FnOk l.prog w (K w.params) mg base Hx k e fd [x] (Jy (OB (K w.params)) yX)) :
  PySem.W.WalkO q b p (λw h=>(K w.params).In h) l.row.toRowW d [] (λf g=>PySem.call f g) :=
 L2.AL (n:=63) (k:=k) (x:=x) (CX:=λ_=>Hx) (sp:=λw=>Jy (OB (K w.params)) yX) j (by decide) r i (λ_ _ h=>h) F (λw H a ns m o hS=>Dg (G:=OB (K w.params)) (Zq m) o hS) λ_ _ _ _ _ z=>z
end VS
end
section
namespace T35
open VS
noncomputable def aK:Mt:=JH 0 4 4 [false,false,true]
  (av (sX (lN 0 [.fld 1] aN (ab (aa 1) ah)))
  (av (sX (lN 0 [.fld 2] aN (ab (aa 2) ah)))
  (av (mU 0 [.fld 3] 3)
  (fj (e2 vJ (eN bx (ab (bA 1 (aa 0)) ah)) (Q2 1))))))
noncomputable def eU:Mt:=JH 0 1 1 (List.replicate 0 false)
  (av (qq 0 1 (dW ah))
  (av (qq 0 2 (dW ah))
  (av (qq 0 3 (dW ah))
  (NQ (b6 0 [] 0 [false,false,true] aK (ab (Q2 0) (ab (eC .non) (ab (nk 0 []) ah))))))))
noncomputable def bF:Sx :=
  (av (gv 0 [.fld 3,.ix (aa 1)] (aa 2) (aa 5))
  (aQ 1 (e2 aD (bA 2 (aa 0)) (aa 1))))
noncomputable def aA:Mt:=JH 0 3 6 [false,false]
  (av (aQ 3 (e2 HR (e2 aD (bA 3 (aa 0)) (aa 1)) (aa 2)))
  (av (aQ 4 (e2 bg (e2 aD (bA 1 (aa 0)) (aa 1)) (Q2 1)))
  (av (HL (e2 oEq (e2 aD (bA 1 (aa 0)) (aa 3)) (aa 4)) (dH 3) eT)
  (av (dy 5 (b6 0 [] 0 [false,false,true] aK (ab (aa 4) (ab (e2 aD (bA 2 (aa 0)) (aa 3)) (ab (eN ll (ab (e2 aD (bA 3 (aa 0)) (aa 3)) ah)) ah)))))
  (av (gv 0 [.fld 2] (aa 3) (aa 5))
  (av (jQ (fN (eE (aa 1)) (e2 oEq (e2 vO (e2 aD (bA 3 (aa 0)) (aa 1)) (aa 2)) (aa 3))) bF)
  (dH 5)))))))
noncomputable def bD:Sx :=
  (av (gv 0 [.fld 3,.ix (aa 4)] (aa 2) (aa 3))
  (aQ 4 (e2 aD (bA 2 (aa 0)) (aa 4))))
noncomputable def bB:Mt:=JH 0 3 5 [false,false]
  (av (HL (e2 nJ (aa 2) (e2 aD (bA 3 (aa 0)) (aa 1))) (ky (b6 0 [] 0 [false,false] aA (ab (aa 1) (ab (aa 2) ah)))) eT)
  (av (dy 3 (b6 0 [] 0 [false,false,true] aK (ab (e2 bg (e2 aD (bA 1 (aa 0)) (aa 1)) (Q2 1)) (ab (Q2 0) (ab (nk 0 []) ah)))))
  (av (aQ 4 (aa 1))
  (av (jQ (fN (eE (aa 4)) (e2 dc (aa 2) (e2 aD (bA 3 (aa 0)) (aa 4)))) bD)
  (av (HL (eE (aa 4)) (lQ 0 [.fld 2] (aa 3) (b6 0 [] 0 [false,false] aA (ab (aa 4) (ab (aa 2) ah)))) eT)
  (dH 3))))))
noncomputable def bP:Sx :=
  (dy 1 (b6 0 [] 0 [false,false] bB (ab (aa 1) (ab (aa 3) ah))))
noncomputable def bL:Mt:=JH 0 3 4 [false,false]
  (av (fH (aU 3) (gU (aa 2)) bP)
  (dH 1))
noncomputable def bf:Sx :=
  (HL (e2 dc (e2 HR (aa 4) (aa 5)) (aa 1)) (av (lH 1 (e2 HR (aa 4) (aa 5)) (eN bx (ab (aa 2) ah)))
  (sX (oi 2 [] aN (ab (e2 HR (aa 4) (aa 5)) ah)))) eT)
noncomputable def bK:Sx :=
  (av (aQ 4 (e2 aD (bA 3 (aa 0)) (e2 aD (aa 2) (aa 3))))
  (av (fH (aU 5) (gU (eN gQ (ab (aa 4) ah))) bf)
  (aQ 3 (e2 bg (aa 3) (Q2 1)))))
noncomputable def aJ:Fn:=fn 1 6
  (av (gR 1 (nk 0 [((Q2 0),(Q2 0))]))
  (av (gR 2 (dW (ab (Q2 0) ah)))
  (av (aQ 3 (Q2 0))
  (av (jQ (e2 oLt (aa 3) (eN bx (ab (aa 2) ah))) bK)
  (av (v9 2)
  (dH 1))))))
noncomputable def bJ:Fn:=fn 3 6
  (av (aQ 3 (e2 aD (bA 2 (aa 0)) (aa 1)))
  (av (aQ 4 (e2 aD (bA 3 (aa 0)) (aa 1)))
  (av (aQ 5 (eN ka (ab (cz 1 (aU 0) (gU (eN gQ (ab (aa 4) ah))) none (fB (ab (aa 0) (ab (e2 lq (aa 3) (e2 HR (aa 5) (aa 0))) ah)))) ah)))
  (av (HL (Be (aa 3)) (fj (fB (ab (Q2 0) (ab (Q2 0) (ab (eC .non) (ab (aa 5) ah)))))) eT)
  (fj (fB (ab (e2 bg (e2 aD (bA 1 (aa 0)) (aa 3)) (Q2 1)) (ab (e2 aD (bA 1 (aa 0)) (aa 1)) (ab (e2 lq (aa 2) (aa 3)) (ab (aa 5) ah))))))))))
noncomputable def dz:Fn:=fn 1 2
  (av (gR 1 (gE 0 aJ (aa 0) ah))
  (yI 1 (aU 0) (gE 0 bJ (aa 1) (ab (aa 0) (ab (aa 2) ah)))))
noncomputable def jS:Fn:=fn 1 1
  (fj (fN (M6 .int (aa 0)) (lT (M6 .bool (aa 0)))))
noncomputable def oX:Sx :=
  (av (aQ 4 (eN kW (ab (e2 aD (e2 aD (aa 0) (e2 aD (aa 2) (Q2 (-1)))) (Q2 3)) ah)))
  (av (HL (e2 dc (aa 3) (aa 4)) (dH 2) eT)
  (sX (oi 2 [] aN (ab (e2 HR (aa 4) (aa 3)) ah)))))
noncomputable def nr:Fn:=fn 2 5
  (av (gR 2 (dW (ab (Q2 0) ah)))
  (av (fH (aU 3) (gU (aa 1)) oX)
  (dH 2)))
noncomputable def aG:Fn:=fn 2 2
  (HL (Mn (lT (bu jS (ab (aa 1) ah))) (lT (dE oLe oLt (Q2 0) (aa 1) (eN bx (ab (aa 0) ah))))) SQ eT)
noncomputable def d7:Sx :=
  (HL (e2 oEq (e2 aD (e2 aD (aa 0) (e2 aD (aa 4) (Q2 1))) (Q2 1)) (e2 bg (e2 aD (aa 3) (Q2 1)) (Q2 1))) (lH 1 (e2 aD (aa 4) (Q2 1)) (fB (ab (aa 2) (ab (e2 aD (aa 4) (Q2 0)) ah)))) eT)
noncomputable def gF:Sx :=
  (fH (aU 4) (gU (e2 aD (aa 3) (Q2 3))) d7)
noncomputable def d6:Fn:=fn 1 5
  (av (gR 1 (nk 0 []))
  (av (fH (iY [(aU 2),(aU 3)]) (lI (aa 0)) gF)
  (dH 1)))
noncomputable def ki:Sx :=
  (av (aQ 4 (e2 HR (aa 2) (aa 1)))
  (av (aQ 3 (e2 bg (e2 aD (aa 4) (Q2 1)) (aa 3)))
  (aQ 1 (e2 aD (aa 4) (Q2 0)))))
noncomputable def jk:Fn:=fn 2 5
  (av (sX (xP (bu aG (ab (aa 0) (ab (aa 1) ah)))))
  (av (aQ 2 (bu d6 (ab (aa 0) ah)))
  (av (aQ 3 (eC (.str [])))
  (av (jQ (e2 JZ (aa 1) (Q2 0)) ki)
  (dH 3)))))
noncomputable def gk:Fn:=fn 2 3
  (av (aQ 2 (bu jk (ab (aa 0) (ab (aa 1) ah))))
  (fj (Kx (aa 2) (some (e2 vJ (eN bx (ab (aa 2) ah)) (e2 aD (e2 aD (aa 0) (aa 1)) (Q2 0)))) none)))
noncomputable def iD:Sx :=
  (av (sX (oi 2 [] aN (ab (aa 1) ah)))
  (aQ 1 (e2 aD (e2 aD (aa 0) (aa 1)) (Q2 2))))
noncomputable def mr:Fn:=fn 2 3
  (av (sX (xP (bu aG (ab (aa 0) (ab (aa 1) ah)))))
  (av (gR 2 (dW ah))
  (av (jQ (eE (aa 1)) iD)
  (dH 2))))
noncomputable def gm:Sx :=
  (sX (rV 2 (aa 7) (ab (fB (ab (aa 3) (ab (aa 5) ah))) ah)))
noncomputable def fZ:Sx :=
  (fH (aU 7) (gU (bu mr (ab (aa 1) (ab (aa 6) ah)))) gm)
noncomputable def gx:Sx :=
  (fH (iY [(aU 5),(aU 6)]) (lI (bu nr (ab (aa 1) (ab (aa 4) ah)))) fZ)
noncomputable def fq:Fn:=fn 2 8
  (av (gR 2 (cz 1 (aU 0) (gU (aa 1)) none (dW ah)))
  (av (fH (iY [(aU 3),(aU 4)]) (lI (aa 0)) gx)
  (dH 2)))
noncomputable def gL:Sx :=
  (NQ (b6 1 [] 0 [false,false] bL (ab (Q2 0) (ab (aa 2) ah))))
noncomputable def eI:Fn:=fn 1 3
  (av (gR 1 (eNew 0 eU ah))
  (av (fH (aU 2) (gU (aa 0)) gL)
  (av (v9 1)
  (fj (gE 0 dz (aa 1) ah)))))
noncomputable def h9:Sx :=
  (HL (fN (e2 KQ (aa 2) (Q2 0)) (e2 oEq (eN bx (ab (aa 3) ah)) (Q2 1))) (fj (fB (ab (bu gk (ab (aa 1) (ab (aa 2) ah))) (ab (e2 aD (aa 3) (Q2 0)) ah)))) eT)
noncomputable def nA:Fn:=fn 1 4
  (av (aQ 1 (bu eI (ab (aa 0) ah)))
  (av (fH (iY [(aU 2),(aU 3)]) (lI (bu fq (ab (aa 0) (ab (aa 1) ah)))) h9)
  (fj (eC .non))))
noncomputable def fA:Sx :=
  (av (aQ 3 (e2 oMod (e2 bg (e2 bg (e2 gz (aa 3) (Q2 69621)) (e2 gz (Q2 7) (aa 5))) (Q2 1)) (Q2 2147483647)))
  (av (aQ 6 (e2 oMod (e2 gz (aa 3) (aa 3)) (Q2 2147483629)))
  (aQ 4 (e2 bg (e2 gz (aa 4) (Q2 999983)) (e2 oMod (e2 gz (aa 6) (e2 bg (e2 oMod (aa 6) (Q2 65521)) (Q2 3))) (Q2 999983))))))
noncomputable def d5:Fn:=fn 2 7
  (av (aQ 2 (e2 bg (e2 gz (aa 1) (Q2 7919)) (Q2 104729)))
  (av (HL (e2 KQ (eN bx (ab (aa 0) ah)) (Q2 0)) (aQ 2 (e2 bg (e2 aD (aa 0) (e2 oMod (aa 1) (eN bx (ab (aa 0) ah)))) (e2 gz (e2 jv (aa 1) (eN bx (ab (aa 0) ah))) (Q2 48271)))) eT)
  (av (HL (e2 oEq (e2 oMod (aa 2) (Q2 2)) (Q2 0)) (fj (dW (ab (e2 jv (aa 2) (Q2 2)) ah))) eT)
  (av (aQ 3 (e2 oMod (e2 bg (e2 jv (aa 2) (Q2 2)) (e2 gz (Q2 40503) (aa 1))) (Q2 2147483629)))
  (av (aQ 4 (Q2 0))
  (av (fH (aU 5) (bV (Q2 24)) fA)
  (fj (dW (ab (aa 4) ah)))))))))
noncomputable def aC:W8->Option (W8×T):=KZ 2 3 [false]
  (av (aQ 2 (e2 oMod (e2 aD (Nu (aa 0)) (Q2 0)) (aa 1)))
  (av (gv 0 [.un] (Q2 0) (e2 jv (e2 aD (Nu (aa 0)) (Q2 0)) (aa 1)))
  (dH 2)))
noncomputable def eK:W8->Option (W8×T):=KZ 3 3 [false,false]
  (ky (xA [] (qu (aW [(.io 0 true),(.px (xI (e2 bg (aa 2) (Q2 1))))] aC) (x2 aD (xI (aa 2)) (aW [(.io 1 true),(.px (xI (eN bx (ab (aa 2) ah))))] aC)))))
noncomputable def dJ:W8->Option (W8×T):=KZ 1 5 []
  (av (aQ 1 (eC (.str [97,98,99,100,101,102,103,104,105,106,107,108,109,110,111,112,113,114,115,116,117,118,119,120,121,122])))
  (av (dy 2 (lE (dW (ab (Q2 2) (ab (Q2 1) (ab (Q2 3) (ab (Q2 2) (ab (Q2 4) (ab (Q2 2) (ab (Q2 3) (ab (Q2 26) ah))))))))) (aW [(.io 0 true),(.px (xI (Q2 8)))] aC)))
  (av (dy 3 (aW [(.io 0 true),(.px (xI (Q2 26)))] aC))
  (av (dy 4 (lE (dW (ab (Q2 1) (ab (Q2 3) (ab (Q2 25) (ab (Q2 7) ah))))) (aW [(.io 0 true),(.px (xI (Q2 4)))] aC)))
  (fj (eM jt (eC (.str [])) (ab (cz 1 (aU 0) (bV (aa 2)) none (e2 aD (aa 2) (e2 oMod (e2 bg (aa 4) (e2 gz (aa 5) (aa 0))) (Q2 26)))) ah)))))))
noncomputable def dr:Sx :=
  (av (dy 5 (aW [(.io 0 true),(.px (xI (aa 1))),(.px (lE (dW (ab (Q2 6) (ab (Q2 3) (ab (Q2 10) (ab (Q2 8) ah))))) (aW [(.io 0 true),(.px (xI (Q2 4)))] aC)))] eK))
  (av (tu (iV (e2 KQ (aa 4) (Q2 0)) (Ls (x2 oEq (aW [(.io 0 true),(.px (xI (Q2 4)))] aC) (xI (Q2 1))))) (av (dy 6 (sy 3 (aW [(.io 0 true),(.px (xI (aa 4)))] aC)))
  (dy 5 (NG (x2 bg (NG (xI (aa 6)) (some (aW [(.io 0 true),(.px (xI (e2 bg (eN bx (ab (aa 6) ah)) (Q2 1))))] aC)) none) (xI (aa 5))) none (some (xI (Q2 14)))))) eT)
  (sX (oi 3 [] aN (ab (aa 5) ah)))))
noncomputable def gr:W8->Option (W8×T):=KZ 2 7 [false]
  (av (dy 2 (lE (dW (ab (Q2 2) (ab (Q2 1) (ab (Q2 3) (ab (Q2 2) (ab (Q2 4) (ab (Q2 0) (ab (Q2 1) (ab (Q2 8) ah))))))))) (aW [(.io 0 true),(.px (xI (Q2 8)))] aC)))
  (av (gR 3 (dW ah))
  (av (fH (aU 4) (bV (aa 2)) dr)
  (av (tu (iV (dE oLt oLt (Q2 0) (aa 2) (Q2 3)) (Ls (x2 oEq (aW [(.io 0 true),(.px (xI (Q2 6)))] aC) (xI (Q2 1))))) (lQ 3 [] (Q2 0) (x2 uC (x2 bg (x2 bg (xI (e2 aD (aa 3) (Q2 0))) (aW [(.io 0 true),(.px (xI (aa 1))),(.px (xI (Q2 24)))] eK)) (xI (e2 aD (aa 3) (Q2 (-1))))) (x2 bg (xI (Q2 1)) (aW [(.io 0 true),(.px (xI (Q2 2)))] aC)))) eT)
  (dH 3)))))
noncomputable def dU:Sx :=
  (kj 1 (Kx (aa 3) (some (aa 4)) (some (aa 5))) (ab (fB (ab (aa 2) (ab (aa 5) ah))) ah))
noncomputable def fU:Sx :=
  (fH (aU 5) (kA (e2 bg (aa 4) (Q2 1)) (e2 bg (eN bx (ab (aa 3) ah)) (Q2 1))) dU)
noncomputable def gf:Sx :=
  (av (su 1 (eC (.str [])) (e2 bg (e2 HR (aa 1) (eC (.str []))) (cz 1 (aU 0) (bV (e2 bg (eN bx (ab (aa 3) ah)) (Q2 1))) none (fB (ab (aa 3) (ab (aa 0) ah))))))
  (fH (aU 4) (bV (eN bx (ab (aa 3) ah))) fU))
noncomputable def fg:Fn:=fn 1 6
  (av (gR 1 (nk 0 [((eC (.str [])),(dW ah))]))
  (av (fH (iY [(aU 2),(aU 3)]) (lI (aa 0)) gf)
  (dH 1)))
noncomputable def gY:Fn:=fn 1 3
  (av (aQ 1 (pT 0 (aU 0) (some (fN (e2 JZ (aa 0) (eC (.str []))) (e2 oEq (eN bx (ab (e2 lq (aa 1) (aa 0)) ah)) (Q2 1)))) (fB (ab (eN bx (ab (aa 0) ah)) (ab (aa 0) ah)))))
  (av (HL (e2 oEq (aa 1) (dW ah)) (fj (eC .non)) eT)
  (av (aQ 2 (e2 aD (eN so (ab (aa 1) ah)) (Q2 1)))
  (fj (fB (ab (aa 2) (ab (e2 aD (e2 HR (aa 0) (aa 2)) (Q2 0)) ah)))))))
noncomputable def da:Sx :=
  (av (aQ 4 (bu nA (ab (aa 2) ah)))
  (av (HL (Mn (e2 JZ (aa 4) (aa 1)) (e2 JZ (aa 2) (aa 0))) (fj (eC (.bl false))) eT)
  (HL (fN (eE (aa 4)) (Mn (lT (M6 .tuple (aa 4))) (lT (M6 .tuple (e2 aD (aa 4) (Q2 1)))))) (fj (eC (.bl false))) eT)))
noncomputable def bH:Fn:=fn 1 5
  (av (aQ 1 (bu gY (ab (bu fg (ab (aa 0) ah)) ah)))
  (av (aQ 2 (eN pX (ab (aa 0) ah)))
  (av (fH (aU 3) (bV (Q2 2)) da)
  (fj (eC (.bl true))))))
noncomputable def yG:Fn:=fn 1 3
  (av (gR 1 (bu d5 (ab (aa 0) (ab (Q2 0) ah))))
  (av (oA 2 (aW [(.io 1 false),(.px (aW [(.io 1 false)] dJ))] gr))
  (av (v9 2)
  (av (v9 1)
  (av (HL (lT (bu bH (ab (aa 2) ah))) (fj (eC (.bl false))) eT)
  (av (HL (fN (dE oLt oLt (Q2 0) (eN bx (ab (aa 2) ah)) (Q2 8)) (e2 oLe (eN vZ (ab (cz 1 (aU 0) (gU (e2 bg (aa 2) (Kx (aa 2) none (some (Q2 1))))) none (eN bx (ab (aa 0) ah))) ah)) (Q2 120))) (fj (fN (bu bH (ab (e2 bg (aa 2) (Kx (aa 2) none (some (Q2 1)))) ah)) (bu bH (ab (aa 2) ah)))) eT)
  (fj (eC (.bl true)))))))))
end T35
end
section
namespace AU
structure St where
 lg:W0
 lk:List (Option Nat)
 wy:List (List (Nat×Nat))
noncomputable def gW(w:List (Nat×Nat))(c:Nat):Option Nat:=(w.find? λp=>p.1==c).map (·.2)
noncomputable def pW(w:List (Nat×Nat))(c m:Nat):List (Nat×Nat):=if w.any (λp=>p.1==c) then w.map (λp=>if p.1==c then (p.1,m) else p) else w++[(c,m)]
structure WF(S:St):Prop where
 lk:S.lk.length=S.lg.length
 wy:S.wy.length=S.lg.length
 pos:0<S.lg.length
 up:∀i n,S.lk.getD i none=some n->n<S.lg.length
 on:∀i c n,gW (S.wy.getD i []) c=some n->n<S.lg.length
 nd:∀w∈S.wy,(w.map (·.1)).Nodup
 az:∀w∈S.wy,∀p∈w,97<=p.1/\p.1<=122
theorem sub_len{α:Type}[DecidableEq α]:∀(l r:List α),l.Nodup->(∀x∈l,x∈r)->l.length<=r.length
 |[],_,_,_=>Yv _
 |a :: l,r,nd,h=>by
  obtain⟨g,f⟩:=Zf.mp nd;have d:a∈r:=h a Zx;have:=sub_len l (r.erase a) f λx b=>(List.mem_erase_of_ne (show x≠a from λe=>g (by rw[← e];exact b))).mpr (h x (Zy _ b));rw[List.length_erase_of_mem d]at this;have:0<r.length:=List.length_pos_of_mem d;rw[Zk];omega
def WF.small{S:St}(W:WF S)(i:Nat):(S.wy.getD i []).length<16777216:=by
 by_cases h:i<S.wy.length
 ·have a:S.wy.getD i []∈S.wy:=by
   rw[Zv,Zt h];exact ZG h
  have:=sub_len ((S.wy.getD i []).map (·.1)) (List.range 123) (W.nd _ a) λx b=>by
   obtain⟨p,d,rfl⟩:=ZF.mp b;have:=(W.az _ a p d).2;exact Yu.mpr (by omega)
  rw[Zu,ZJ]at this;omega
 ·rw[Zv,Kk (ZE h)];decide
def DH(w:List (Nat×Nat))(c:Nat):(w.any λp=>p.1==c)=(gW w c).isSome:=by
 unfold gW;rw[YC,Xh,Xn,List.find?_isSome]
def BN(w:List (Nat×Nat))(c m d:Nat):gW (pW w c m) d=if d=c then some m else gW w d:=by
 unfold pW;split
 ·rename_i h
  induction w with
  |nil=>simp at h
  |cons p w b =>
   rw[Zl];unfold gW;rw[IV,IV];by_cases q:p.1=c
   ·rw[Zq (by simpa using q)];by_cases r:p.1=d
    ·have:(p.1==d)=true:=by simpa using r
     simp only[this];rw[Zq (by rw[← r,q])];rfl
    ·have a:(p.1==d)=false:=by simpa using r
     have:d≠c:=λe=>r (by rw[e,q]);simp only[a,Zp this];have key:∀w:List (Nat×Nat),(w.map λp=>if p.1==c then (p.1,m) else p).find? (λp=>p.1==d)=w.find? λp=>p.1==d:=by
      intro w
      induction w with
      |nil=>rfl
      |cons x w b =>
       rw[Zl,IV,IV,b];by_cases y:x.1=c
       ·rw[Zq (by simpa using y)];have:(x.1==d)=false:=by simpa using λe=>this (by rw[← e,y])
        simp only[this]
       ·rw[Zp (by simpa using y)]
     rw[key w]
   ·rw[Zp (by simpa using q)];have i:(w.any λp=>p.1==c)=true:=by
     rw[YU]at h;simpa[q] using h
    have f:=b i;unfold gW at f;by_cases r:p.1=d
    ·have a:(p.1==d)=true:=by simpa using r
     simp only[a];rw[Zp (λe=>q (by rw[r,e]))]
    ·have a:(p.1==d)=false:=by simpa using r
     simp only[a];exact f
 ·rename_i h;unfold gW;rw[List.find?_append];by_cases q:d=c
  ·subst q;have:w.find? (λp=>p.1==d)=none:=by
    rw[List.find?_eq_none];intro p g e;exact h (Xn.mpr ⟨p,g,e⟩)
   rw[this,Zq rfl];simp
  ·rw[Zp q];have:((c==d)=false):=by simpa using λe=>q e.symm
   simp[this]
def A9(w:List (Nat×Nat))(c m:Nat)(d:(w.map (·.1)).Nodup):((pW w c m).map (·.1)).Nodup:=by
 unfold pW;split
 ·rw[Ig];have:((λp:Nat×Nat=>p.1) ∘ λp=>if (p.1==c)=true then (p.1,m) else p)=λp=>p.1:=by
   funext p;simp only[Function.comp];split<;>rfl
  rw[this];exact d
 ·rename_i h;rw[Jv,ZO];refine⟨d,by simp,λa g b hb e=>?_⟩;have i:b=c:=by simpa using hb
  subst e i;obtain⟨p,f,e⟩:=ZF.mp g;exact h (Xn.mpr ⟨p,f,by simpa using e⟩)
def D9{w:List (Nat×Nat)}{c m:Nat}{p:Nat×Nat}(h:p∈pW w c m):p.1=c\/p∈w:=by
 unfold pW at h;split at h
 ·obtain⟨q,a,rfl⟩:=ZF.mp h;by_cases r:(q.1==c)=true
  ·rw[Zq r];exact .inl (by simpa using r)
  ·rw[Zp r];exact .inr a
 ·rcases Ze.mp h with h | h
  ·exact .inr h
  ·rw[Zj.mp h];exact .inl rfl
def g8{α:Type}(l:List α)(i j:Nat)(x d:α):(l.set i x).getD j d=if i=j/\i<l.length then x else l.getD j d:=by
 rw[Zv,Zv,We];by_cases h:i=j
 ·subst h;by_cases a:i<l.length
  ·rw[Zq rfl,Zq a,Zq ⟨rfl,a⟩];rfl
  ·rw[Zq rfl,Zp a,Zp (λz=>a z.2),Kk (ZE a)]
 ·rw[Zp h,Zp (λz=>h z.1)]
def bX{α:Type}(l:List α)(x d:α)(j:Nat):(l++[x]).getD j d=if j=l.length then x else l.getD j d:=by
 rw[Zv,Zv];by_cases h:j<l.length
 ·rw[Yz h,Zp (Zb h)]
 ·rw[Yo (ZE h)];by_cases a:j=l.length
  ·rw[Zq a,a,Nat.sub_self];rfl
  ·rw[Zp a,Kk (ZE h),Kk (by simp;omega)]
def WF.way{S:St}(W:WF S){n c v:Nat}(g:v<S.lg.length)(j:97<=c/\c<=122):WF ⟨S.lg,S.lk,S.wy.set n (pW (S.wy.getD n []) c v)⟩:=by
 refine⟨W.lk,by rw[Jt];exact W.wy,W.pos,W.up,λi d m h=>?_,λw hw=>?_,λw hw p f=>?_⟩
 ·show m<S.lg.length;have b:gW ((S.wy.set n (pW (S.wy.getD n []) c v)).getD i []) d=some m:=h;rw[g8]at b;split at b
  ·rw[BN]at b;split at b
   ·cases b;exact g
   ·exact W.on n d m b
  ·exact W.on i d m b
 ·by_cases a:n<S.wy.length
  ·rcases List.mem_or_eq_of_mem_set hw with h | h
   ·exact W.nd w h
   ·rw[h];refine A9 _ c v (W.nd _ ?_);rw[Zv,Zt a];exact ZG a
  ·rw[List.set_eq_of_length_le (ZE a)]at hw;exact W.nd w hw
 ·by_cases a:n<S.wy.length
  ·rcases List.mem_or_eq_of_mem_set hw with h | h
   ·exact W.az w h p f
   ·rw[h]at f;rcases D9 f with e | e
    ·rw[e];exact j
    ·refine W.az _ ?_ p e;rw[Zv,Zt a];exact ZG a
  ·rw[List.set_eq_of_length_le (ZE a)]at hw;exact W.az w hw p f
def WF.link{S:St}(W:WF S){n v:Nat}(b:v<S.lg.length):WF ⟨S.lg,S.lk.set n (some v),S.wy⟩:=by
 refine⟨by rw[Jt];exact W.lk,W.wy,W.pos,λi m h=>?_,W.on,W.nd,W.az⟩;have a:(S.lk.set n (some v)).getD i none=some m:=h;rw[g8]at a;split at a
 ·cases a;exact b
 ·exact W.up i m a
def WF.more{S:St}(W:WF S){l:Nat}{o:Option Nat}{w:List (Nat×Nat)}(f:∀n,o=some n->n<S.lg.length)(hw:∀c n,gW w c=some n->n<S.lg.length)(e:(w.map (·.1)).Nodup)(g:∀p∈w,97<=p.1/\p.1<=122):WF ⟨S.lg++[l],S.lk++[o],S.wy++[w]⟩:=by
 have b:∀{n},n<S.lg.length->n<(S.lg++[l]).length:=λh=>by rw[Zs,ZL];omega
 refine⟨by rw[Zs,Zs,W.lk];rfl,by rw[Zs,Zs,W.wy];rfl,by rw[Zs];exact ZK W.pos (Xo _ _),λi n h=>?_,λi c n h=>?_,λx d=>?_,λx d=>?_⟩
 ·have a:(S.lk++[o]).getD i none=some n:=h;rw[bX]at a;split at a
  ·exact b (f n a)
  ·exact b (W.up i n a)
 ·have a:gW ((S.wy++[w]).getD i []) c=some n:=h;rw[bX]at a;split at a
  ·exact b (hw c n a)
  ·exact b (W.on i c n a)
 ·rcases Ze.mp d with h | h
  ·exact W.nd x h
  ·rw[Zj.mp h];exact e
 ·rcases Ze.mp d with h | h
  ·exact W.az x h
  ·rw[Zj.mp h];exact g
noncomputable def up1(c v:Nat):Nat->St->Option Nat->Option (St×Option Nat)
 |_,S,none=>some (S,none)
 |0,_,some _=>none
 |k+1,S,some n=>if (gW (S.wy.getD n []) c).isSome then some (S,some n) else up1 c v k ⟨S.lg,S.lk,S.wy.set n (pW (S.wy.getD n []) c v)⟩ (S.lk.getD n none)
noncomputable def LZ(c a v:Nat):Nat->St->Option Nat->Option St
 |_,S,none=>some S
 |0,_,some _=>none
 |k+1,S,some n=>if gW (S.wy.getD n []) c=some a then LZ c a v k ⟨S.lg,S.lk,S.wy.set n (pW (S.wy.getD n []) c v)⟩ (S.lk.getD n none) else some S
noncomputable def LC(S:St)(n c:Nat):Option (St×Nat):=(gW (S.wy.getD n []) c).bind λold=>if S.lg.getD old 0=S.lg.getD n 0+1 then some (S,old) else
 (LZ c old S.lg.length 1000 ⟨S.lg++[S.lg.getD n 0+1],(S.lk++[S.lk.getD old none]).set old (some S.lg.length),S.wy++[S.wy.getD old []]⟩ (some n)).map λa=>(a,S.lg.length)
noncomputable def hb(S:St)(h c:Nat):Option (St×Nat):=if (gW (S.wy.getD h []) c).isSome then LC S h c else
 (up1 c S.lg.length 1000 ⟨S.lg++[S.lg.getD h 0+1],S.lk++[some 0],S.wy++[[]]⟩ (some h)).bind λz=>match z.2 with
  |none=>some (z.1,S.lg.length)
  |some n=>(LC z.1 n c).map λy=>(⟨y.1.lg,y.1.lk.set S.lg.length (some y.2),y.1.wy⟩,S.lg.length)
noncomputable def hg(S:St)(h:Nat):W0->Option (St×Nat)
 |[]=>some (S,h)
 |c :: r=>(hb S h c).bind λz=>hg z.1 z.2 r
noncomputable def Sm(S:St):Prop:=S.lg.length<=100001
def WF.NH{S:St}(W:WF S)(i:Nat):((S.wy.getD i []).map (·.1)).Nodup/\∀p∈S.wy.getD i [],97<=p.1/\p.1<=122:=by
 by_cases h:i<S.wy.length
 ·have a:S.wy.getD i []∈S.wy:=by
   rw[Zv,Zt h];exact ZG h
  exact⟨W.nd _ a,W.az _ a⟩
 ·rw[Zv,Kk (ZE h)];exact⟨Yx,λp b=>nomatch b⟩
noncomputable def S0:St:=⟨[0],[none],[[]]⟩
def BR:WF S0:=by
 refine⟨rfl,rfl,by decide,λi n h=>?_,λi c n h=>?_,λw hw=>?_,λw hw p a=>?_⟩
 ·cases i with
  |zero=>cases h
  |succ i=>cases h
 ·cases i with
  |zero=>cases h
  |succ i=>cases h
 ·rw[Zj.mp hw];exact Yx
 ·rw[Zj.mp hw]at a;cases a
end AU
end
section
namespace VS
def e2v{f:Val->Val->W7}{a b:Ex}{J:Env}{x y z:Val}(g:a J=some x)(e:b J=some y)(d:f x y=some z):e2 f a b J=some z:=by
 show (a J).bind _=_;rw[g,Zr,e];exact d
def xv{a:Ex}{r:Hf}{J:Env}{x:Val}{b:W6}(e:a J=some x)(d:r J=some b):ab a r J=some (x :: b):=by
 show (a J).bind _=_;rw[e,Zr,d];rfl
def r9{c:Ex}{a b:Sx}{J:Env}{m:Md}(h:c J=some (m,.bl true)):HL c a b J=a J:=by
 show (c J).bind _=_;rw[h];rfl
def pq{c:Ex}{a b:Sx}{J:Env}{m:Md}(h:c J=some (m,.bl false)):HL c a b J=b J:=by
 show (c J).bind _=_;rw[h];rfl
def kD{f:W6->W7}{a:Hf}{J:Env}{b:W6}{v:Val}(h:a J=some b)(d:f b=some v):eN f a J=some v:=by
 show (a J).bind f=_;rw[h,Zr,d]
def gq{e:Ex}{J:Env}{t:T}(h:e J=some (.fr,t)):fj e J=some (.rt (.fr,t) J):=by
 show (e J).bind _=_;rw[h];rfl
def iz{a b:Sx}{J d:Env}{v:Val}(h:a J=some (.rt v d)):av a b J=some (.rt v d):=by
 show (a J).bind _=_;rw[h];rfl
def au{a b:Sx}{J J1:Env}(h:a J=some (.nx J1)):av a b J=b J1:=by
 show (a J).bind _=_;rw[h];rfl
def sq{a b:Sx}{J J1:Env}{r:Option Out}(h:a J=some (.nx J1))(q:b J1=r):av a b J=r:=(au h).trans q
def PD{c:Ex}{a b:Sx}{J:Env}{m:Md}{r:Option Out}(h:c J=some (m,.bl true))(q:a J=r):HL c a b J=r:=(r9 h).trans q
def qz{c:Ex}{a b:Sx}{J:Env}{m:Md}{r:Option Out}(h:c J=some (m,.bl false))(q:b J=r):HL c a b J=r:=(pq h).trans q
def eD{d e:Nat}{b:Sx}{a:W8}{v:Val}{J:Env}(f:a.length=d)(h:b (a.map (λt=>some (.pu t))++List.replicate (e-d) none)=some (.rt v J)):fn d e b a=some v:=by
 unfold fn;rw[Zq f,h];rfl
def Ei{d e:Nat}{b:Sx}{a:W8}{J:Env}(f:a.length=d)(h:b (a.map (λt=>some (.pu t))++List.replicate (e-d) none)=some (.nx J)):fn d e b a=some (.fr,.non):=by
 unfold fn;rw[Zq f,h];rfl
def nR{a b:Ex}{J:Env}{m:Md}{x:Bool}{v:Val}(f:a J=some (m,.bl x))(e:x=true->b J=some v)(d:x=false->v=(.fr,.bl false)):fN a b J=some v:=by
 show (a J).bind _=_;rw[f,Zr];cases x with
 |true=>exact e rfl
 |false=>exact congrArg some (d rfl).symm
def BZ{a b:Ex}{J:Env}{m:Md}{x:Bool}{v:Val}(f:a J=some (m,.bl x))(e:x=false->b J=some v)(d:x=true->v=(.fr,.bl true)):Mn a b J=some v:=by
 show (a J).bind _=_;rw[f,Zr];cases x with
 |false=>exact e rfl
 |true=>exact congrArg some (d rfl).symm
def Ce{a b:Ex}{J:Env}{m n:Md}{x y:Bool}(f:a J=some (m,.bl x))(d:b J=some (.fr,.bl y)):fN a b J=some (.fr,.bl (x&&y)):=nR f (λe=>by rw[e];exact d) (λe=>by rw[e];rfl)
def Vk{a b:Ex}{J:Env}{m n:Md}{x y:Bool}(f:a J=some (m,.bl x))(d:b J=some (.fr,.bl y)):Mn a b J=some (.fr,.bl (x||y)):=BZ f (λe=>by rw[e];exact d) (λe=>by rw[e];rfl)
def tm{a:Ex}{J:Env}{m:Md}{b:Bool}(h:a J=some (m,.bl b)):lT a J=some (.fr,.bl (!b)):=by
 show (a J).bind _=_;rw[h];rfl
def l5{f g:Val->Val->W7}{a b c:Ex}{J:Env}{x y z v:Val}(j:a J=some x)(i:b J=some y)(h:f x y=some (.fr,.bl true))(e:c J=some z)(d:g y z=some v):dE f g a b c J=some v:=by
 show (a J).bind _=_;rw[j,Zr,i,Zr,h,Zr];show (c J).bind _=_;rw[e];exact d
def uE{f g:Val->Val->W7}{a b c:Ex}{J:Env}{x y:Val}(h:a J=some x)(e:b J=some y)(d:f x y=some (.fr,.bl false)):dE f g a b c J=some (.fr,.bl false):=by
 show (a J).bind _=_;rw[h,Zr,e,Zr,d];rfl
def vD{n:Nat}{i:Int}(b:0<=i)(a:i<n):Hu n i=some i.toNat:=by rw[Hu,Zq b,Zq a]
def xX{n:Nat}{i:Nat}(a:i<n):Hu n (i:Int)=some i:=by
 rw[Hu,Zq (Int.natCast_nonneg i),Zq (Int.ofNat_lt.mpr a)];rfl
def AN{m n:Md}(l:W3)(i:Int)(b:0<=i)(a:i<l.length):aD (m,.scr l) (n,.int i)=some (.fr,.int (l.getD i.toNat 0)):=by
 have d:i.toNat<l.length:=by lia
 show (Hu l.length i).bind _=_;rw[vD b a,Zr,Zv,Zt d];rfl
def yc{m n:Md}(t:Tx)(i:Int)(b:0<=i)(a:i<t.length):aD (m,.str t) (n,.int i)=some (.fr,.str [t.getD i.toNat 0]):=by
 have d:i.toNat<t.length:=by lia
 show (Hu t.length i).bind _=_;rw[vD b a,Zr,Zv,Zt d];rfl
def lM{m n:Md}{a b:T}{r:Bool}(e:HC 60 a=true)(d:HC 60 b=true)(h:eqT a b=r):oEq (m,a) (n,b)=some (.fr,.bl r):=by
 show (if HC 60 a/\HC 60 b then some (Md.fr,T.bl (eqT a b)) else none)=_;rw[Zq ⟨e,d⟩,h]
def uG{m n:Md}{a b:T}{r:Bool}(e:HC 60 a=true)(d:HC 60 b=true)(h:eqT a b=r):JZ (m,a) (n,b)=some (.fr,.bl (!r)):=by
 show (if HC 60 a/\HC 60 b then some (Md.fr,T.bl (!eqT a b)) else none)=_;rw[Zq ⟨e,d⟩,h]
def qb{i:Nat}{e:Ex}{J:Env}{l:W8}{v:T}(f:J[i]?=some (some (.ow (.lst l))))(d:e J=some (.fr,v))(b:l.length<16777216):sX (oi i [] aN (ab e ah)) J=some (.nx (J.set i (some (.ow (.lst (l++[v])))))):=by
 have a:ab e ah J=some [(.fr,v)]:=xv d rfl;unfold sX oi;rw[f];show ((some ([]:List Ky)).bind _ |>.map _)=_;rw[Zr,a,Zr];show ((aN (.lst l) [(.fr,v)]).map _ |>.map _)=_;rw[dG b];rfl
def D2{a b:Ex}{J:Env}{m n:Md}{x y:Tx}(e:a J=some (m,.str x))(d:b J=some (n,.str y))(h:x.length+y.length<=16777216):e2 bg a b J=some (.fr,.str (x++y)):=e2v e d (kL h)
def De{a b:Ex}{J:Env}{m n:Md}{x y:List Tx}(e:a J=some (m,.lst (x.map .str)))(d:b J=some (n,.lst (y.map .str)))(h:x.length+y.length<=16777216):e2 bg a b J=some (.fr,.lst ((x++y).map .str)):=by
 refine e2v e d ?_;rw[yk,← Jv,lb (by rw[Zu,Zs];exact h),show cZ ((x++y).map T.str)=true from hZ _ (λ_=>rfl) _];rfl
end VS
end
section
namespace T35
open VS AU
noncomputable abbrev pc(t:T):W5:=some (.pu t)
abbrev Q0(i:Int):Option Cell:=some (.pu (.int i))
abbrev Q1(t:Tx):Option Cell:=some (.pu (.str t))
noncomputable abbrev oc(t:T):W5:=some (.ow t)
noncomputable def G4(w:List (Nat×Nat)):T:=.dct 0 (w.map λp=>(T.str [p.1],T.int (p.2:Int)))
noncomputable def G8:Option Nat->T
 |none=>.non
 |some n=>.int (n:Int)
noncomputable def I0(S:St):sU:=[(1,.lst (S.lg.map λ(n:Nat)=>T.int (n:Int))),(2,.lst (S.lk.map G8)),(3,.lst (S.wy.map G4))]
noncomputable def GK(S:St)(b:Bool):T:=.obj 1 ((0,.bl b) :: I0 S)
def la(o:Option Nat):GO (G8 o)=true:=by cases o<;>rfl
theorem je{α:Type}(f:α->T)(h:∀a,fY (f a)=true):∀l:List α,bj (l.map f)=true
 |[]=>rfl
 |a :: l=>by rw[Zl,bj,h a,je f h l];rfl
def xU(w:List (Nat×Nat)):fY (G4 w)=true:=by
 show oF (w.map λp=>(T.str [p.1],T.int (p.2:Int)))=true
 induction w with
 |nil=>rfl
 |cons p w a=>rw[Zl,oF,a];rfl
def l7(S:St):gA (I0 S)=true:=by
 have d:fY (.lst (S.lg.map λ(n:Nat)=>T.int (n:Int)))=true:=je _ (λ_=>rfl) _;have b:fY (.lst (S.lk.map G8))=true:=je _ (λo=>m9 _ (la o)) _;have a:fY (.lst (S.wy.map G4))=true:=je _ xU _;show ((fY _ && !(1==0&&Oa _))&&((fY _ && !(2==0&&Oa _))&&((fY _ && !(3==0&&Oa _))&&true)))=true;rw[d,b,a];rfl
def Fm(S:St)(b:Bool):vL 1 (GK S b)=some (.lst (S.lg.map λ(n:Nat)=>T.int (n:Int))):=rfl
def Gh(S:St)(b:Bool):vL 2 (GK S b)=some (.lst (S.lk.map G8)):=rfl
def GH(S:St)(b:Bool):vL 3 (GK S b)=some (.lst (S.wy.map G4)):=rfl
def pV{k:Nat}{a:Ex}{J:Env}{m:Md}{t u:T}(h:a J=some (m,t))(b:vL k t=some u):bA k a J=some (sub m u):=by
 unfold bA;rw[h,Zr,b];rfl
def o5{α:Type}{m n:Md}(f:α->T)(l:List α)(i:Nat)(d:α)(h:i<l.length):aD (m,.lst (l.map f)) (n,.int (i:Int))=some (sub m (f (l.getD i d))):=by
 show (Hu (l.map f).length (i:Int)).bind _=_;rw[Zu,xX h,Zr,ZY,Zt h,Zv,Zt h];rfl
section
variable{J:Env}{m n:Md}{S:St}{b:Bool}{a e:Ex}{i:Nat}
def rX(h:a J=some (m,GK S b))(f:e J=some (n,.int (i:Int)))(d:i<S.lg.length):e2 aD (bA 1 a) e J=some (.fr,.int ((S.lg.getD i 0:Nat):Int)):=e2v (pV h (Fm S b)) f (o5 _ _ i 0 d)
def uM(h:a J=some (m,GK S b))(f:e J=some (n,.int (i:Int)))(d:i<S.lk.length):e2 aD (bA 2 a) e J=some (.fr,G8 (S.lk.getD i none)):=(e2v (pV h (Gh S b)) f (o5 _ _ i none d)).trans (by
 show some (up _ _)=_;unfold up;rw[la];rfl)
def mI(h:a J=some (m,GK S b))(f:e J=some (n,.int (i:Int)))(d:i<S.wy.length):e2 aD (bA 3 a) e J=some (m,G4 (S.wy.getD i [])):=e2v (pV h (GH S b)) f (o5 _ _ i [] d)
def C7(h:a J=some (m,GK S b)):eN bx (ab (bA 1 a) ah) J=some (.fr,.int (S.lg.length:Nat)):=kD (xv (pV h (Fm S b)) rfl) (by
 show some (Md.fr,T.int (((S.lg.map λ(n:Nat)=>T.int (n:Int)).length:Nat):Int))=_;rw[Zu])
end
def DQ(a c:Nat):eqT (.str [a]) (.str [c])=(a==c):=by
 simp only[eqT];by_cases h:a=c
 ·simp[h]
 ·simp[h]
def pM(w:List (Nat×Nat))(c:Nat):cR (w.map λp=>(T.str [p.1],T.int (p.2:Int))) (.str [c])=(gW w c).map λ(n:Nat)=>T.int (n:Int):=by
 unfold cR gW;rw[List.find?_map];have:((λp:T×T=>eqT p.1 (.str [c])) ∘ λp:Nat×Nat=>(T.str [p.1],T.int (p.2:Int)))=λp:Nat×Nat=>p.1==c:=by
  funext p;exact DQ p.1 c
 rw[this];cases w.find? λp=>p.1==c with
 |none=>rfl
 |some p=>rfl
def FC(w:List (Nat×Nat))(c m:Nat):dput (w.map λp=>(T.str [p.1],T.int (p.2:Int))) (.str [c]) (.int (m:Int))=(pW w c m).map λp=>(T.str [p.1],T.int (p.2:Int)):=by
 have a:(w.map λp=>(T.str [p.1],T.int (p.2:Int))).any (λp=>eqT p.1 (.str [c]))=w.any λp=>p.1==c:=by
  rw[List.any_map];congr 1;funext p;exact DQ p.1 c
 unfold dput pW;rw[a];split
 ·rw[Ig,Ig];apply YR;intro p _;simp only[Function.comp,DQ];split<;>rfl
 ·rw[Jv];rfl
section
variable{J:Env}{m n k:Md}{S:St}{b:Bool}{a e ec ev:Ex}{i c v:Nat}{w:List (Nat×Nat)}
def Gm(h:a J=some (m,G4 w))(d:e J=some (n,.str [c])):e2 nJ e a J=some (.fr,.bl (gW w c).isSome):=e2v d h (by
 show (if true=true then some (Md.fr,T.bl (cR _ _).isSome) else none)=_;rw[Zq rfl,pM,YC])
def BH(h:a J=some (m,G4 w))(d:e J=some (n,.str [c])):e2 dc e a J=some (.fr,.bl (!(gW w c).isSome)):=e2v d h (by
 show (match (if true=true then some (Md.fr,T.bl (cR (w.map λp=>(T.str [p.1],T.int (p.2:Int))) (.str [c])).isSome) else none) with | some (_,.bl b)=>some (Md.fr,T.bl (!b)) | _=>none)=_;rw[Zq rfl,pM,YC])
def wG(h:a J=some (m,G4 w))(f:e J=some (n,.str [c]))(d:gW w c=some v):e2 HR a e J=some (.fr,.int (v:Int)):=e2v h f (by
 show (if true=true then (cR _ _).map (sub m) else none)=_;rw[Zq rfl,pM,d];rfl)
def E8(h:a J=some (m,G4 w))(d:e J=some (n,.str [c])):e2 vO a e J=some (.fr,G8 (gW w c)):=e2v h d (by
 show (if true=true then some (match cR (w.map λp=>(T.str [p.1],T.int (p.2:Int))) (.str [c]) with | some t=>sub m t | none=>(.fr,.non)) else none)=_;rw[Zq rfl,pM];cases gW w c with
 |none=>rfl
 |some v=>rfl)
def zN{r:List (W5)}(d:i<S.wy.length)(l:e (oc (GK S b) :: r)=some (n,.int (i:Int)))(o:ec (oc (GK S b) :: r)=some (m,.str [c]))(g:ev (oc (GK S b) :: r)=some (k,.int (v:Int)))(f:(S.wy.getD i []).length<16777216) :
  gv 0 [.fld 3,.ix e] ec ev (oc (GK S b) :: r)=some (.nx (oc (GK ⟨S.lg,S.lk,S.wy.set i (pW (S.wy.getD i []) c v)⟩ b) :: r)):=by
 unfold gv;rw[g,Zr];show ((keys [.fld 3,.ix e] (oc (GK S b) :: r)).bind _)=_;have j:keys [.fld 3,.ix e] (oc (GK S b) :: r)=some [.fld 3,.at (.int (i:Int))]:=by
  show ((e _).bind _).map _=_;rw[l];rfl
 rw[j,Zr,o,Zr];have h:pm (pA (m,.str [c]) (k,.int (v:Int))) [.fld 3,.at (.int (i:Int))] (GK S b)=some (GK ⟨S.lg,S.lk,S.wy.set i (pW (S.wy.getD i []) c v)⟩ b,()):=by
  show ((pm (pA (m,.str [c]) (k,.int (v:Int))) [.at (.int (i:Int))] (.lst (S.wy.map G4))).map _)=_;have:pm (pA (m,.str [c]) (k,.int (v:Int))) [.at (.int (i:Int))] (.lst (S.wy.map G4))=some (.lst ((S.wy.set i (pW (S.wy.getD i []) c v)).map G4),()):=by
   show ((Hu (S.wy.map G4).length (i:Int)).bind _)=_;rw[Zu,xX d,Zr,ZY,Zt d];show ((pA (m,.str [c]) (k,.int (v:Int)) (G4 S.wy[i])).map _)=_;have e1:S.wy.getD i []=S.wy[i]:=by rw[Zv,Zt d];rfl
   rw[e1]at f ⊢;show ((if true=true/\true=true/\(S.wy[i].map _).length<dY then some (T.dct 0 (dput _ _ _),()) else none).map _)=_;rw[Zq ⟨rfl,rfl,by rw[Zu];exact f⟩,FC,Wg];rfl
  rw[this];rfl
 rw[h];rfl
def zI{r:List (W5)}(h:i<S.lk.length)(j:e (oc (GK S b) :: r)=some (n,.int (i:Int)))(d:ev (oc (GK S b) :: r)=some (.fr,.int (v:Int))) :
  gv 0 [.fld 2] e ev (oc (GK S b) :: r)=some (.nx (oc (GK ⟨S.lg,S.lk.set i (some v),S.wy⟩ b) :: r)):=by
 unfold gv;rw[d,Zr];show ((keys [.fld 2] (oc (GK S b) :: r)).bind _)=_;have g:keys [.fld 2] (oc (GK S b) :: r)=some [.fld 2]:=rfl;rw[g,Zr,j,Zr];have f:pm (pA (n,.int (i:Int)) (.fr,.int (v:Int))) [.fld 2] (GK S b)=some (GK ⟨S.lg,S.lk.set i (some v),S.wy⟩ b,()):=by
  show ((pA (n,.int (i:Int)) (.fr,.int (v:Int)) (.lst (S.lk.map G8))).map _)=_;have:pA (n,.int (i:Int)) (.fr,.int (v:Int)) (.lst (S.lk.map G8))=some (.lst ((S.lk.set i (some v)).map G8),()):=by
   show ((Hu (S.lk.map G8).length (i:Int)).map _)=_;rw[Zu,xX h,Wg];rfl
  rw[this];rfl
 rw[f];rfl
end
end T35
end
section
namespace VS
noncomputable def wr(a:Bool)(k:Nat)(t:T):T:=if a then Le k t else t
noncomputable def Mm(l:W8):List Ia:=l.map λt=>Ia.ex (eC t)
theorem yj(J:Env):∀l:W8,jJ J (Mm l)=some l
 |[]=>rfl
 |t :: l=>by
  show ((some (Md.fr,t):W7).bind λv=>(OF v).bind λt=>(jJ J (Mm l)).map (t :: ·))=_;rw[yj J l];rfl
theorem va(J:Env):∀l:W8,iI (Mm l) [] J=J
 |[]=>rfl
 |t :: l=>va J l
theorem BV:∀l:W8,Hg (Mm l)=[]
 |[]=>rfl
 |t :: l=>BV l
section
variable{i k j:Nat}{un:Bool}{r:List Ix}{l:W8}{J J1 J2 J3:Env}{c0:Cell}{s t t0 t1 u y:T}{g:W8->Option (W8×T)}{x a b:Xx}{c:Ex}{m:Md}{f:Val->Val->W7}
def ci{r:List Ia}(d:J[i]?=some (some (.ow (wr un k t0))))(e:jJ J r=some l)(w:Hg r=[])(n:∀J,iI r [] J=J)(p:mS t0=true)(o:fY t0=true)(q:bj l=true)(v:g (t0 :: l)=some ([t1],y)) :
  kX (.io i un :: r) g J=some ((.fr,y),J.set i (some (.ow (wr un k t1)))):=by
 have e2:jJ J (.io i un :: r)=some (t0 :: l):=by
  show (MM un J[i]?).bind _=_;rw[d];have:MM un (some (some (.ow (wr un k t0))))=some t0:=by
   cases un
   ·show (if mS t0 then some t0 else none)=_;rw[Zq p]
   ·rfl
  rw[this];show (jJ J r).map _=_;rw[e];rfl
 unfold kX;rw[e2,Zr,Zq ⟨by rw[bj,o,q];rfl,by show (i :: Hg r).Nodup;rw[w];exact Zf.mpr ⟨(λh=>nomatch h),Yx⟩⟩,v];show some ((Md.fr,y),iI r [] (J.set i (some (.ow (oS un J[i]? t1)))))=_;rw[n,d];cases un<;>rfl
def cx(q:J[i]?=some (some c0))(d:js r J=some (Mm l,J1))(p:J1[i]?=some (some (.ow (wr un k t0))))(h:mS t0=true)(e:fY t0=true)(n:bj l=true)(o:g (t0 :: l)=some ([t1],y)) :
  aW (.io i un :: r) g J=some ((.fr,y),J1.set i (some (.ow (wr un k t1)))):=by
 have e1:js (.io i un :: r) J=some (.io i un :: Mm l,J1):=by
  unfold js;rw[q];show (js r J).map _=_;rw[d];rfl
 unfold aW;rw[e1];exact ci p (yj J1 l) (BV l) (λJ=>va J l) h e n o
def vo(d:x J=some ((.fr,t),J1))(h:GO t=true)(e:js r J1=some (Mm l,J2)):js (.px x :: r) J=some (Mm (t :: l),J2):=by
 unfold js;rw[d,Zr,Zq h,e];rfl
def eu(h:c J=some (m,t))(hi:GO t=true):xI c J=some ((.fr,t),J):=by
 unfold xI;rw[h,Zr,Zq hi]
def nc(p:a J=some ((.fr,s),J1))(o:b J1=some ((.fr,t),J2))(n:f (.fr,s) (.fr,t)=some (m,u))(h:GO s=true)(e:GO t=true)(d:GO u=true):x2 f a b J=some ((.fr,u),J2):=by
 unfold x2;rw[p,Zr,o,Zr,n,Zr,Zq ⟨h,e,d⟩]
def il(h:x J=some ((.fr,t),J1))(hi:GO t=true)(d:j<J1.length):dy j x J=some (.nx (J1.set j (some (.pu t)))):=by
 unfold dy;rw[h,Zr,Zq ⟨hi,d⟩]
def AX(h:x J=some ((.fr,t),J1))(d:GO t=true):ky x J=some (.rt (.fr,t) J1):=by
 unfold ky;rw[h,Zr,Zq d]
def wc(l:W3):cZ (l.map .int)=true:=by
 induction l with
 |nil=>rfl
 |cons a l d=>exact d
def mE{i:Int}(l:W3)(h:c J=some (.fr,.lst (l.map .int)))(e:b J=some ((.fr,.int i),J1))(n:0<=i)(d:i<l.length):lE c b J=some ((.fr,.int (l.getD i.toNat 0)),J1):=by
 unfold lE;rw[h,Zr];show (b J).bind _=_;rw[e,Zr];show (Hu (l.map T.int).length i).bind _=_;rw[Zu,vD n d,Zr,ZY,Zt (by omega)];show (if cZ (l.map .int)=true/\GO (T.int (l[i.toNat]'(by omega)))=true then some ((Md.fr,T.int (l[i.toNat]'(by omega))),J1) else none)=_;rw[Zq ⟨wc l,rfl⟩,Zv,Zt (by omega)];rfl
def Ak{n:Nat}{c d:Cell}{i:Int}(l:List Tx)(h:J[n]?=some (some c))(q:b J=some ((.fr,.int i),J1))(p:J1[n]?=some (some d))(o:iU d=.lst (l.map .str))(v:0<=i)(e:i<l.length):sy n b J=some ((.fr,.str (l.getD i.toNat [])),J1):=by
 unfold sy;rw[h];show (b J).bind _=_;rw[q,Zr];dsimp only;rw[p];dsimp only;rw[o];show (Hu (l.map T.str).length i).bind _=_;rw[Zu,vD v e,Zr,ZY,Zt (by omega)];show some ((Md.fr,T.str (l[i.toNat]'(by omega))),J1)=_;rw[Zv,Zt (by omega)];rfl
def uU{i:Int}(h:x J=some ((.fr,.int i),J1)):lC (some x) J=some (some i,J1):=by
 show (x J).bind _=_;rw[h];rfl
def BG{lo hi:Option Xx}{w:Tx}{p q:Option Int}(h:a J=some ((.fr,.str w),J1))(e:lC lo J1=some (p,J2))(d:lC hi J2=some (q,J3)):NG a lo hi J=some ((.fr,.str (cut w p q)),J3):=by
 unfold NG;rw[h,Zr];show (lC lo J1).bind _=_;rw[e,Zr];show (lC hi J2).map _=_;rw[d];rfl
def o7{o p:Nat}{e:List Bool}{d:Sx}{h n:W8}{v:Val}(z:h.length+1=o/\e.length=h.length)(A:d ((some (.ow (Le 1 t0)) :: List.zipWith ja e (markL 1 e h))++List.replicate (p-o) none)=some (.rt v J))(q:lL J 0 (true :: e)=some n)(B:wH n v=true)(w:bj n=true):KZ o p e d (t0 :: h)=some (n,v.2):=by
 dsimp only[KZ];rw[Zq z,A,Zr];dsimp only;rw[q,Zr,Zq ⟨B,w⟩]
def B2{d:Xt}{p q:Sx}(h:d J=some (true,J1)):tu d p q J=p J1:=by
 unfold tu;rw[h];rfl
def vE{d:Xt}{p q:Sx}(h:d J=some (false,J1)):tu d p q J=q J1:=by
 unfold tu;rw[h];rfl
def zK{d:Xt}(h:c J=some (m,.bl false)):iV c d J=some (false,J):=by
 unfold iV;rw[h];rfl
def xJ{d:Xt}(h:c J=some (m,.bl true)):iV c d J=d J:=by
 unfold iV;rw[h];rfl
def FH{b:Bool}(h:x J=some ((.fr,.bl b),J1)):Ls x J=some (b,J1):=by
 unfold Ls;rw[h];rfl
def uv{i j:Int}(e:a J=some ((.fr,.int i),J1))(d:b J1=some ((.fr,.int j),J2)):Ls (x2 oEq a b) J=some (i==j,J2):=FH (nc e d (lM rfl rfl (by simp only[eqT])) rfl rfl rfl)
def DI{f:Val->W6->W7}{o:Ex}{e:Hf}{x v:Val}{d:W6}(p:o J=some x)(n:e J=some d)(h:f x d=some v):eM f o e J=some v:=by
 unfold eM;rw[p,Zr,n];exact h
def Bl(h:x J=some ((m,t),J1))(d:j<J1.length):oA j x J=some (.nx (J1.set j (some (.ow t)))):=by
 unfold oA;rw[h,Zr,Zq d]
end
end VS
end
section
namespace T35
open VS
noncomputable abbrev sp(un:Bool)(n:Int):W5:=oc (wr un 1 (.lst [.int n]))
def Ct(n m:Int)(h:0<m/\m<1073741824):aC [.lst [.int n],.int m]=some ([.lst [.int (n/m)]],.int (n%m)):=by
 have s1:aQ 2 (e2 oMod (e2 aD (Nu (aa 0)) (Q2 0)) (aa 1)) [sp true n,Q0 m,none]=some (.nx [sp true n,Q0 m,Q0 (n%m)]) :=
  aL (m:=.fr) (e2v (x:=(.fr,.int n)) (y:=(.fr,.int m)) rfl rfl (fI h.1)) (by decide) (by show 2<3;decide)
 have d:gv 0 [.un] (Q2 0) (e2 jv (e2 aD (Nu (aa 0)) (Q2 0)) (aa 1)) [sp true n,Q0 m,Q0 (n%m)]=some (.nx [sp true (n/m),Q0 m,Q0 (n%m)]):=by
  unfold gv;rw[e2v (f:=jv) (x:=(.fr,.int n)) (y:=(.fr,.int m)) (J:=[sp true n,Q0 m,Q0 (n%m)]) (a:=e2 aD (Nu (aa 0)) (Q2 0)) (b:=aa 1) rfl rfl (ko h)];rfl
 exact o7 (v:=(.fr,.int (n%m))) ⟨rfl,rfl⟩ ((au s1).trans ((au d).trans rfl)) rfl rfl rfl
section
variable{i:Nat}{un:Bool}{J J1:Env}{c0:Cell}{n m:Int}{x:Xx}
def nx(a:0<m/\m<1073741824)(g:J[i]?=some (some c0))(e:x J=some ((.fr,.int m),J1))(f:J1[i]?=some (sp un n)):∃d b,0<=d/\d<m/\aW [.io i un,.px x] aC J=some ((.fr,.int d),J1.set i (sp un b)) :=
 ⟨n%m,n/m,Xz _ (by omega),YG _ a.1,cx g (vo e rfl rfl) f rfl rfl rfl (Ct n m a)⟩
end
def tH{x:Xx}{i:Int}{r:W3}{J a d:Env}{c:W5}{t:T}{b:W8}(h:x (Q0 i :: J)=some ((.fr,t),c :: a))(f:GO t=true)(e:iH x r a=some (b,d)):iH x (i :: r) J=some (t :: b,d):=by
 unfold iH;rw[h,Zr];show (if GO t=true then (iH x r a).map _ else _)=_;rw[Zq f,e];rfl
def Di(L:Tx)(a n:Int)(y:0<L.length)(D:L.length<1000)(B:0<=a)(A:a<1000):∃(b:Int)(t:Tx),eK [.lst [.int n],.str L,.int a]=some ([.lst [.int b]],.str t)/\t.length<=a.toNat/\∀c∈t,c∈L:=by
 have loop:∀(r:W3)(n:Int),∃(b:Int)(s:Tx),iH (x2 aD (xI (aa 2)) (aW [(.io 1 true),(.px (xI (eN bx (ab (aa 2) ah))))] aC)) r [sp true n,Q1 L,Q0 a]=some (s.map λc=>T.str [c],[sp true b,Q1 L,Q0 a])/\s.length=r.length/\∀c∈s,c∈L:=by
  intro r
  induction r with
  |nil=>intro n;exact⟨n,[],rfl,rfl,λ_ h=>nomatch h⟩
  |cons i r q =>
   intro n;obtain⟨d,f,l,p,e⟩:=nx (i:=1) (un:=true) (m:=(L.length:Int)) (n:=n) (x:=xI (eN bx (ab (aa 2) ah))) (J:=[Q0 i,sp true n,Q1 L,Q0 a]) (J1:=[Q0 i,sp true n,Q1 L,Q0 a]) (by omega) rfl (eu (m:=.fr) rfl rfl) rfl;obtain⟨b,s,o,g,j⟩:=q f;have hd:d.toNat<L.length:=by omega
   refine⟨b,L.getD d.toNat 0 :: s,tH (nc (eu (m:=.fr) rfl rfl) e (yc L d l p) rfl rfl rfl) rfl o,by rw[Zk,Zk,g],λc w=>?_⟩;rcases Zo.mp w with rfl | h
   ·rw[Zv,Zt hd];exact ZG hd
   ·exact j c h
 obtain⟨d,f,l,p,e⟩:=nx (i:=0) (un:=true) (m:=a+1) (n:=n) (x:=xI (e2 bg (aa 2) (Q2 1))) (J:=[sp true n,Q1 L,Q0 a]) (by omega) rfl (eu (m:=.fr) rfl rfl) rfl;obtain⟨b,s,o,g,j⟩:=loop (ML 0 d.toNat) f;have C:s.length=d.toNat:=by rw[g];unfold ML;rw[Zu,YI]
 refine⟨b,s,?_,by omega,j⟩;have u:qu (aW [(.io 0 true),(.px (xI (e2 bg (aa 2) (Q2 1))))] aC) (x2 aD (xI (aa 2)) (aW [(.io 1 true),(.px (xI (eN bx (ab (aa 2) ah))))] aC)) [sp true n,Q1 L,Q0 a]=some (s.map λc=>T.str [c],[sp true b,Q1 L,Q0 a]):=by
  unfold qu;rw[e,Zr];show (if 0<=d/\d<1000000 then iH _ (ML 0 d.toNat) _ else none)=_;rw[Zq ⟨l,by omega⟩];exact o
 refine o7 (v:=(.fr,.str s)) (J:=[sp true b,Q1 L,Q0 a]) ⟨rfl,rfl⟩ (AX ?_ rfl) rfl rfl rfl;unfold xA;refine(congrArg (λz=>Option.bind z _) u).trans ?_;have:=oN (m:=.fr) (n:=.fr) (strs_map (λx=>[x]) s) (by rw[fJ];omega);rw[fJ]at this;show (jt (.fr,.str []) [(.fr,.lst (s.map λc=>T.str [c]))]).map _=_;rw[this];rfl
noncomputable def az:Tx:=[97,98,99,100,101,102,103,104,105,106,107,108,109,110,111,112,113,114,115,116,117,118,119,120,121,122]
def DA:∀c∈az,97<=c/\c<=122:=by decide
def getD_mem'{l:Tx}{i:Nat}(h:i<l.length):l.getD i 0∈l:=by
 rw[Zv,Zt h];exact ZG h
def AQ(n:Int):∃(r:Int)(s:Tx),dJ [.lst [.int n]]=some ([.lst [.int r]],.str s)/\0<s.length/\s.length<=26/\∀c∈s,97<=c/\c<=122:=by
 obtain⟨d,o,D,C,e⟩:=nx (i:=0) (un:=true) (m:=8) (n:=n) (x:=xI (Q2 8)) (J:=[sp true n,Q1 az,none,none,none]) (by decide) rfl (eu (m:=.fr) rfl rfl) rfl;have u:∀k,k<8->1<=([2,1,3,2,4,2,3,26]:W3).getD k 0/\([2,1,3,2,4,2,3,26]:W3).getD k 0<=26:=by decide
 have f1:=u d.toNat (by omega);have g:=il (j:=2) (mE (c:=(dW (ab (Q2 2) (ab (Q2 1) (ab (Q2 3) (ab (Q2 2) (ab (Q2 4) (ab (Q2 2) (ab (Q2 3) (ab (Q2 26) ah)))))))))) ([2,1,3,2,4,2,3,26]:W3) rfl e D C) rfl (by show 2<5;decide);generalize ([2,1,3,2,4,2,3,26]:W3).getD d.toNat 0=Jr at f1 g;obtain⟨a,l,M,L,B⟩:=nx (i:=0) (un:=true) (m:=26) (n:=o) (x:=xI (Q2 26)) (J:=[sp true o,Q1 az,Q0 Jr,none,none]) (by decide) rfl (eu (m:=.fr) rfl rfl) rfl;obtain⟨q,h,G,F,A⟩:=nx (i:=0) (un:=true) (m:=4) (n:=l) (x:=xI (Q2 4)) (J:=[sp true l,Q1 az,Q0 Jr,Q0 a,none]) (by decide) rfl (eu (m:=.fr) rfl rfl) rfl;have f:=il (j:=4) (mE (c:=(dW (ab (Q2 1) (ab (Q2 3) (ab (Q2 25) (ab (Q2 7) ah)))))) ([1,3,25,7]:W3) rfl A G F) rfl (by show 4<5;decide);have t:∀k,k<4->0<=([1,3,25,7]:W3).getD k 0/\([1,3,25,7]:W3).getD k 0<=26:=by decide
 have z:=t q.toNat (by omega);generalize ([1,3,25,7]:W3).getD q.toNat 0=st at z f;have E:=fR (k:=1) (tg:=aU 0) (it:=bV (aa 2)) (elt:=e2 aD (aa 2) (e2 oMod (e2 bg (aa 4) (e2 gz (aa 5) (aa 0))) (Q2 26))) (m:=.fr) (J:=[sp true h,Q1 az,Q0 Jr,Q0 a,Q0 st]) (λ(j:Nat)=>T.int (j:Int)) (λj=>T.str [az.getD ((a+st*(j:Int))%26).toNat 0]) (List.range Jr.toNat) (by
   rw[fT (m:=.fr) (j:=Jr) rfl (by omega),iS]) rfl (by rw[ZJ];omega) λj H=>⟨_,rfl,by
   refine e2v (x:=(.fr,.str az)) rfl (e2v (x:=(.fr,.int (a+st*(j:Int)))) (y:=(.fr,.int 26)) (e2v (x:=(.fr,.int a)) rfl (e2v (x:=(.fr,.int st)) (y:=(.fr,.int (j:Int))) rfl rfl (jR (by omega))) rfl) rfl (fI (by decide))) (yc az _ (Xz _ (by decide)) (YG _ (by decide)))⟩
 have p:=oN (m:=.fr) (n:=.fr) (strs_map (λ(j:Nat)=>[az.getD ((a+st*(j:Int))%26).toNat 0]) (List.range Jr.toNat)) (by rw[show (List.range Jr.toNat).map (λ(j:Nat)=>[az.getD ((a+st*(j:Int))%26).toNat 0])=((List.range Jr.toNat).map λ(j:Nat)=>az.getD ((a+st*(j:Int))%26).toNat 0).map (λx=>[x]) from by rw[Ig];rfl,fJ,Zu,ZJ];omega);rw[show (List.range Jr.toNat).map (λ(j:Nat)=>[az.getD ((a+st*(j:Int))%26).toNat 0])=((List.range Jr.toNat).map λ(j:Nat)=>az.getD ((a+st*(j:Int))%26).toNat 0).map (λx=>[x]) from by rw[Ig];rfl,fJ]at p;refine⟨h,(List.range Jr.toNat).map λ(j:Nat)=>az.getD ((a+st*(j:Int))%26).toNat 0,o7 (v:=(.fr,.str _)) ⟨rfl,rfl⟩ ((au (J1:=[sp true n,Q1 az,none,none,none]) rfl).trans ((au g).trans ((au (il B rfl (by show 3<5;decide))).trans ((au f).trans (gq ?_))))) rfl rfl rfl,by rw[Zu,ZJ];omega,by rw[Zu,ZJ];omega,λc w=>?_⟩
 ·exact DI rfl (xv E rfl) p
 ·obtain⟨j,_,rfl⟩:=ZF.mp w;have:=Xz (a+st*(j:Int)) (b:=26) (by decide);have:=YG (a+st*(j:Int)) (b:=26) (by decide);exact DA _ (getD_mem' (by show _<26;omega))
theorem j4{β:Type}{tg:Tg}{body:Sx}(g:β->T)(Inv:List β->Env->Prop)(h:∀t r J,Inv (t :: r) J->∃e a,tg (g t) J=some e/\body e=some (.nx a)/\Inv r a):∀(l:List β)(J:Env),Inv l J->∃b,forL tg body (l.map g) J=some (.nx b)/\Inv [] b
 |[],J,d=>⟨J,rfl,d⟩
 |t :: l,J,d=>by
  obtain⟨e,a,e1,e2,i⟩:=h t l J d;obtain⟨b,f,j⟩:=j4 g Inv h l a i;exact⟨b,(cA e1 e2).trans f,j⟩
noncomputable def Az(t:Tx):Prop:=∀c∈t,97<=c/\c<=122
noncomputable abbrev EB(n:Int)(L:Tx)(a:Int)(f:List Tx)(e d b:W5):Env:=[sp true n,Q1 L,Q0 a,oc (.lst (f.map .str)),e,d,b]
section
variable{L:Tx}{many:Int}{bk:List Tx}{z4 z5 z6:W5}
def Nk(n m:Int)(b:0<m/\m<1073741824){c:Ex}(e:c (EB n L many bk z4 z5 z6)=some (.fr,.int m)):∃d a,0<=d/\d<m/\aW [.io 0 true,.px (xI c)] aC (EB n L many bk z4 z5 z6)=some ((.fr,.int d),EB a L many bk z4 z5 z6) :=
 nx (i:=0) (un:=true) (n:=n) b rfl (eu e rfl) rfl
def My(g:0<L.length/\L.length<=26/\Az L)(n b a:Int)(f:0<=a/\a<1000){x:Xx}(j:x (EB n L many bk z4 z5 z6)=some ((.fr,.int a),EB b L many bk z4 z5 z6)):∃(d:Int)(t:Tx),t.length<=a.toNat/\Az t/\aW [.io 0 true,.px (xI (aa 1)),.px x] eK (EB n L many bk z4 z5 z6)=some ((.fr,.str t),EB d L many bk z4 z5 z6):=by
 obtain⟨d,t,e,p,o⟩:=Di L a b g.1 (by omega) f.1 f.2;exact⟨d,t,p,λc h=>g.2.2 c (o c h),cx (i:=0) (un:=true) (k:=1) (r:=[.px (xI (aa 1)),.px x]) (l:=[.str L,.int a]) (J1:=EB b L many bk z4 z5 z6) rfl (vo (t:=.str L) (eu (m:=.fr) rfl rfl) rfl (vo j rfl rfl)) rfl rfl rfl rfl e⟩
end
def yH{t:Tx}{p q:Option Int}(h:Az t):Az (cut t p q):=λc a=>h c (Bk t p q a)
def t6{s t:Tx}(h:Az s)(g:Az t):Az (s++t):=λc a=>(Ze.mp a).elim (h c) (g c)
def yn(t:Tx)(k:Nat):(cut t none (some (k:Int))).length<=k:=by
 rw[y0];exact List.length_take_le _ _
def z8:∀k,k<8->0<=([2,1,3,2,4,0,1,8]:W3).getD k 0/\([2,1,3,2,4,0,1,8]:W3).getD k 0<=8:=by decide
def Ag:∀k,k<4->0<=([6,3,10,8]:W3).getD k 0/\([6,3,10,8]:W3).getD k 0<=10:=by decide
def k9{l:List Tx}{i:Nat}(h:i<l.length):l.getD i []∈l:=by
 rw[Zv,Zt h];exact ZG h
def wL{L:Tx}(R:0<L.length/\L.length<=26/\Az L){many:Int}{bk:List Tx}(Q:∀t∈bk,t.length<=14/\Az t)(h8:bk.length<8)(n:Int)(z5 z6:W5) :
  ∃(h:Int)(t:Tx)(B o:W5),dr (EB n L many bk (Q0 (bk.length:Int)) z5 z6)=some (.nx (EB h L many (bk++[t]) (Q0 (bk.length:Int)) B o))/\t.length<=14/\Az t:=by
 obtain⟨d,P,d0,d1,e⟩:=Nk (L:=L) (many:=many) (bk:=bk) (z4:=Q0 (bk.length:Int)) (z5:=z5) (z6:=z6) n 4 (by decide) (c:=Q2 4) rfl;have g:=Ag d.toNat (by omega);obtain⟨w,t,ht,z,Hq⟩:=My R n P _ ⟨g.1,by omega⟩ (mE (c:=dW (ab (Q2 6) (ab (Q2 3) (ab (Q2 10) (ab (Q2 8) ah))))) ([6,3,10,8]:W3) rfl e d0 d1);have G:t.length<=14:=by omega
 have s1:=il (j:=5) Hq rfl (by show 5<7;decide);have fin:∀(h:Int)(t:Tx)(o:W5),t.length<=14->Az t->∃(Vu:Int)(s:Tx)(B Qo:W5),sX (oi 3 [] aN (ab (aa 5) ah)) (EB h L many bk (Q0 (bk.length:Int)) (Q1 t) o)=some (.nx (EB Vu L many (bk++[s]) (Q0 (bk.length:Int)) B Qo))/\s.length<=14/\Az s:=λh t o U S=>by
  refine⟨h,t,Q1 t,o,?_,U,S⟩;rw[qb (i:=3) (l:=bk.map T.str) (v:=.str t) rfl rfl (by rw[Zu];omega)];show some (Out.nx [sp true h,Q1 L,Q0 many,oc (.lst (bk.map T.str++[.str t])),Q0 (bk.length:Int),Q1 t,o])=_;rw[show bk.map T.str++[.str t]=(bk++[t]).map T.str from by rw[Jv];rfl]
 by_cases hk:bk.length=0
 ·obtain⟨q,p,a,b,f1,f2⟩:=fin w t z6 G z;refine⟨q,p,a,b,(au s1).trans ((au ((vE (zK (m:=.fr) ?_)).trans rfl)).trans f1),f2⟩;refine e2v (x:=(.fr,.int (bk.length:Int))) (y:=(.fr,.int 0)) rfl rfl ?_;show some (Md.fr,T.bl (decide ((0:Int)<(bk.length:Int))))=_;rw[Zc (by omega)]
 ·obtain⟨F,q,a0,a1,Z⟩:=Nk (L:=L) (many:=many) (bk:=bk) (z4:=Q0 (bk.length:Int)) (z5:=Q1 t) (z6:=z6) w 4 (by decide) (c:=Q2 4) rfl;have tt:iV (e2 KQ (aa 4) (Q2 0)) (Ls (x2 oEq (aW [(.io 0 true),(.px (xI (Q2 4)))] aC) (xI (Q2 1)))) (EB w L many bk (Q0 (bk.length:Int)) (Q1 t) z6)=some (F==1,EB q L many bk (Q0 (bk.length:Int)) (Q1 t) z6):=by
   refine(xJ (m:=.fr) ?_).trans (uv Z (eu (m:=.fr) rfl rfl));refine e2v (x:=(.fr,.int (bk.length:Int))) (y:=(.fr,.int 0)) rfl rfl ?_;show some (Md.fr,T.bl (decide ((0:Int)<(bk.length:Int))))=_;rw[ZP (by omega)]
  cases hd:(F==1) with
  |false =>
   rw[hd]at tt;obtain⟨r,p,a,b,f1,f2⟩:=fin q t z6 G z;exact⟨r,p,a,b,(au s1).trans ((au ((vE tt).trans rfl)).trans f1),f2⟩
  |true =>
   rw[hd]at tt;obtain⟨E,r,b0,b1,Y⟩:=Nk (L:=L) (many:=many) (bk:=bk) (z4:=Q0 (bk.length:Int)) (z5:=Q1 t) (z6:=z6) q (bk.length:Int) (by omega) (c:=aa 4) rfl;have C:=il (j:=6) (Ak (n:=3) bk rfl Y rfl rfl b0 b1) rfl (by show 6<7;decide);have D:=Q _ (k9 (l:=bk) (i:=E.toNat) (by omega));generalize bk.getD E.toNat []=old at C D;obtain⟨A,u,_,_,X⟩:=Nk (L:=L) (many:=many) (bk:=bk) (z4:=Q0 (bk.length:Int)) (z5:=Q1 t) (z6:=Q1 old) r ((old.length:Int)+1) (by omega) (c:=e2 bg (eN bx (ab (aa 6) ah)) (Q2 1)) rfl;have TR:(cut old (some A) none).length<=old.length:=Cj old (some A) none;have M:xI (aa 6) (EB r L many bk (Q0 (bk.length:Int)) (Q1 t) (Q1 old))=some ((.fr,.str old),_):=eu (m:=.fr) rfl rfl;have J:xI (aa 5) (EB u L many bk (Q0 (bk.length:Int)) (Q1 t) (Q1 old))=some ((.fr,.str t),_):=eu (m:=.fr) rfl rfl;have H:xI (Q2 14) (EB u L many bk (Q0 (bk.length:Int)) (Q1 t) (Q1 old))=some ((.fr,.int 14),_):=eu (m:=.fr) rfl rfl;have N:=il (j:=5) (BG (nc (f:=bg) (BG (hi:=none) M (uU X) rfl) J (kL (by omega)) rfl rfl rfl) (lo:=none) rfl (uU H)) rfl (by show 5<7;decide);obtain⟨O,p,a,b,f1,f2⟩:=fin u (cut (cut old (some A) none++t) none (some 14)) (Q1 old) (yn _ 14) (yH (t6 (yH D.2) z));exact⟨O,p,a,b,(au s1).trans ((au ((B2 tt).trans ((au C).trans N))).trans f1),f2⟩
def Ea{b:List Tx}(h:∀t∈b,t.length<=14):(b.map List.length).sum<=14*b.length:=by
 induction b with
 |nil=>exact Zh _
 |cons a l d =>
  have:=d λt e=>h t (Zy _ e);have:=h a Zx;rw[Zl,Xj,Zk];omega
def xG(n:Int)(a:List Tx):wH [.lst [.int n]] (.fr,.lst (a.map .str))=true:=by
 unfold wH;rw[Bool.or_eq_true];refine .inr ?_;show (a.map T.str).all za=true;rw[XW];exact Ja.mpr λ_ _=>rfl
def xn{m n:Md}(l:List Tx)(h:0<l.length):aD (m,.lst (l.map .str)) (n,.int (-1))=some (.fr,.str (l.getD (l.length-1) [])):=by
 show ((Hu (l.map T.str).length (-1)).bind _)=_;have:Hu (l.map T.str).length (-1)=some (l.length-1):=by
  unfold Hu;rw[Zu,Zp (by decide),Zq (by omega)];congr 1;omega
 rw[this,Zr,ZY,Zv,Zt (by omega)];rfl
theorem vt(w:Tx):∀k,(List.replicate k w).flatten.length=k*w.length
 |0=>by rw[Nat.zero_mul];rfl
 |k+1=>by rw[Xl,ZR,Zs,vt w k,Nat.succ_mul,Nat.add_comm]
def D1{L:Tx}(Z:0<L.length/\L.length<=26/\Az L)(n:Int):∃(E:Int)(bk:List Tx),gr [.lst [.int n],.str L]=some ([.lst [.int E]],.lst (bk.map .str))/\bk.length<=8/\(bk.map List.length).sum<=120/\∀t∈bk,Az t:=by
 obtain⟨d,s,d0,d1,e⟩:=nx (i:=0) (un:=true) (m:=8) (n:=n) (x:=xI (Q2 8)) (J:=[sp true n,Q1 L,none,none,none,none,none]) (by decide) rfl (eu (m:=.fr) rfl rfl) rfl;have hf:=z8 d.toNat (by omega);have s1:=il (j:=2) (mE (c:=(dW (ab (Q2 2) (ab (Q2 1) (ab (Q2 3) (ab (Q2 2) (ab (Q2 4) (ab (Q2 0) (ab (Q2 1) (ab (Q2 8) ah)))))))))) ([2,1,3,2,4,0,1,8]:W3) rfl e d0 d1) rfl (by show 2<7;decide);generalize ([2,1,3,2,4,0,1,8]:W3).getD d.toNat 0=many at hf s1;obtain⟨J',f1,q,bk,z4,z5,z6,rfl,_,hb,hlen⟩:=j4 (tg:=aU 4) (body:=dr) (λ(k:Nat)=>T.int (k:Int)) (λr J=>∃(n:Int)(bk:List Tx)(z4 z5 z6:W5),J=EB n L many bk z4 z5 z6/\r=List.range' bk.length r.length/\(∀t∈bk,t.length<=14/\Az t)/\bk.length+r.length=many.toNat) (by
  rintro k r _ ⟨n,bk,z4,z5,z6,rfl,X,hb,hl⟩;rw[Zk]at hl;rw[Zk,WX]at X;obtain⟨rfl,PH⟩:=XJ X;obtain⟨E,t,JC,LY,e,h1,h2⟩:=wL (many:=many) Z hb (by omega) n z5 z6;refine⟨EB n L many bk (Q0 (bk.length:Int)) z5 z6,_,rfl,e,E,bk++[t],_,JC,LY,rfl,by rw[Zs];exact PH,λu G=>?_,by rw[Zs,ZL];omega⟩;rcases Ze.mp G with h | h
  ·exact hb u h
  ·rw[Zj.mp h];exact⟨h1,h2⟩) (List.range many.toNat) (EB s L many [] none none none) ⟨s,[],none,none,none,rfl,by rw[ZJ];exact List.range_eq_range',(λ_ h=>nomatch h),by rw[ZJ];exact Wk _⟩
 have Ol:bk.length=many.toNat:=hlen;have s3:fH (aU 4) (bV (aa 2)) dr (EB s L many [] none none none)=some (.nx (EB q L many bk z4 z5 z6)):=by
  refine(bU (m:=.fr) ?_ rfl).trans f1;rw[fT (m:=.fr) (j:=many) rfl (by omega),iS]
 have fin:∀{p:Int}{Uu:List Tx}(b:Sx),b (EB q L many bk z4 z5 z6)=some (.nx (EB p L many Uu z4 z5 z6))->KZ 2 7 [false] (av (dy 2 (lE (dW (ab (Q2 2) (ab (Q2 1) (ab (Q2 3) (ab (Q2 2) (ab (Q2 4) (ab (Q2 0) (ab (Q2 1) (ab (Q2 8) ah))))))))) (aW [(.io 0 true),(.px (xI (Q2 8)))] aC))) (av (gR 3 (dW ah)) (av (fH (aU 4) (bV (aa 2)) dr) (av b (dH 3))))) [.lst [.int n],.str L]=some ([.lst [.int p]],.lst (Uu.map .str)):=λb hb =>
  o7 (v:=(.fr,.lst (_:W8))) ⟨rfl,rfl⟩ ((au s1).trans ((au (J1:=EB s L many [] none none none) rfl).trans ((au s3).trans ((au hb).trans rfl)))) rfl (xG _ _) rfl
 have OE:bk.length<=8/\(bk.map List.length).sum<=120/\∀t∈bk,Az t:=⟨by omega,by have:=Ea λt g=>(hb t g).1;omega,λt g=>(hb t g).2⟩
 obtain⟨d2,p,a0,a1,e3⟩:=Nk (L:=L) (many:=many) (bk:=bk) (z4:=z4) (z5:=z5) (z6:=z6) q 6 (by decide) (c:=Q2 6) rfl;by_cases Y:0<many/\many<3
 ·have tt:iV (dE oLt oLt (Q2 0) (aa 2) (Q2 3)) (Ls (x2 oEq (aW [(.io 0 true),(.px (xI (Q2 6)))] aC) (xI (Q2 1)))) (EB q L many bk z4 z5 z6)=some (d2==1,EB p L many bk z4 z5 z6):=by
   refine(xJ (m:=.fr) (l5 (x:=(.fr,.int 0)) (y:=(.fr,.int many)) (z:=(.fr,.int 3)) rfl rfl ?_ rfl ?_)).trans (uv e3 (eu (m:=.fr) rfl rfl))
   ·show some (Md.fr,T.bl (decide ((0:Int)<many)))=_;rw[ZP Y.1]
   ·show some (Md.fr,T.bl (decide (many<3)))=_;rw[ZP Y.2]
  cases hd:(d2==1) with
  |false =>
   rw[hd]at tt;exact⟨p,bk,fin _ ((vE tt).trans rfl),OE⟩
  |true =>
   rw[hd]at tt;have C:0<bk.length:=by omega
   obtain⟨R,t,g,hz,e4⟩:=My (bk:=bk) (z4:=z4) (z5:=z5) (z6:=z6) (many:=many) Z p p 24 (by decide) (x:=xI (Q2 24)) (eu (m:=.fr) rfl rfl);obtain⟨o,D,b0,b1,e5⟩:=Nk (L:=L) (many:=many) (bk:=bk) (z4:=z4) (z5:=z5) (z6:=z6) R 2 (by decide) (c:=Q2 2) rfl;have U:e2 aD (aa 3) (Q2 0) (EB p L many bk z4 z5 z6)=some (.fr,.str (bk.getD 0 [])):=e2v (x:=(.bo,.lst (bk.map .str))) (y:=(.fr,.int ((0:Nat):Int))) rfl rfl (o5 T.str bk 0 [] C);have S:e2 aD (aa 3) (Q2 (-1)) (EB R L many bk z4 z5 z6)=some (.fr,.str (bk.getD (bk.length-1) [])):=e2v (x:=(.bo,.lst (bk.map .str))) (y:=(.fr,.int (-1))) rfl rfl (xn bk C);have Q:=hb _ (k9 (l:=bk) C);have P:=hb _ (k9 (l:=bk) (i:=bk.length-1) (by omega));generalize hA:bk.getD 0 []=A at U Q;generalize bk.getD (bk.length-1) []=B at S P;have O:=nc (nc (eu U rfl) e4 (kL (by omega)) rfl rfl rfl) (eu S rfl) (kL (by rw[Zs];omega)) rfl rfl rfl;have xr:=nc (f:=bg) (eu (c:=Q2 1) (m:=.fr) rfl rfl) e5 (u:=.int (1+o)) rfl rfl rfl rfl;have M:(A++t++B).length<=52:=by rw[Zs,Zs];omega
   have Ow:Az (A++t++B):=t6 (t6 Q.2 hz) P.2;generalize A++t++B=w at O M Ow;have N:=nc O xr (f:=uC) (m:=.fr) (u:=.str (List.replicate (1+o).toNat w).flatten) (by
    show (if w.length*(1+o).toNat<=16777216/\-4611686018427387904<=1+o/\1+o<4611686018427387904 then _ else _)=_;rw[Zq ⟨by
     have:w.length*(1+o).toNat<=52*2:=Nat.mul_le_mul M (by omega);omega,by omega,by omega⟩]) rfl rfl rfl
   have F:(List.replicate (1+o).toNat w).flatten.length<=104:=by
    rw[vt];have:(1+o).toNat*w.length<=2*52:=Nat.mul_le_mul (by omega) M;omega
   have H:Az (List.replicate (1+o).toNat w).flatten:=λc hc=>by
    obtain⟨u,G,Hw⟩:=WV.mp hc;rw[(List.mem_replicate.mp G).2]at Hw;exact Ow c Hw
   generalize (List.replicate (1+o).toNat w).flatten=W at N F H;refine⟨D,bk.set 0 W,fin _ ((B2 tt).trans ?_),?_⟩
   ·refine(congrArg (λz=>Option.bind z _) N).trans ?_;show gv 3 [] (Q2 0) (λ_=>some (.fr,.str W)) (EB D L many bk z4 z5 z6)=_;show ((((Hu (bk.map T.str).length 0).map λj=>(T.lst ((bk.map T.str).set j (.str W)),())).map _):Option Out)=_;rw[Zu,show Hu bk.length 0=some 0 from xX (i:=0) C];show some (Out.nx [sp true D,Q1 L,Q0 many,oc (.lst ((bk.map T.str).set 0 (.str W))),z4,z5,z6])=_;rw[show (bk.map T.str).set 0 (.str W)=(bk.set 0 W).map T.str from by rw[Wg]]
   ·have:bk.length=1\/bk.length=2:=by omega
    rcases this with h | h
    ·obtain⟨a,rfl⟩:=XY.mp h;refine⟨by show 1<=8;decide,by show W.length+0<=120;omega,λt g=>?_⟩;rw[Zj.mp (show t∈[W] from g)];exact H
    ·match bk,h with
     |[a,b],_ =>
      have RQ:=hb b (by simp);refine⟨by show 2<=8;decide,by show W.length+(b.length+0)<=120;omega,λt g=>?_⟩;rcases Zo.mp (show t∈[W,b] from g) with rfl | g
      ·exact H
      ·rw[Zj.mp g];exact RQ.2
 ·have tt:iV (dE oLt oLt (Q2 0) (aa 2) (Q2 3)) (Ls (x2 oEq (aW [(.io 0 true),(.px (xI (Q2 6)))] aC) (xI (Q2 1)))) (EB q L many bk z4 z5 z6)=some (false,EB q L many bk z4 z5 z6):=by
   refine zK (m:=.fr) ?_;by_cases h0:0<many
   ·refine l5 (x:=(.fr,.int 0)) (y:=(.fr,.int many)) (z:=(.fr,.int 3)) rfl rfl ?_ rfl ?_
    ·show some (Md.fr,T.bl (decide ((0:Int)<many)))=_;rw[ZP h0]
    ·show some (Md.fr,T.bl (decide (many<3)))=_;rw[Zc (by omega)]
   ·refine uE (x:=(.fr,.int 0)) (y:=(.fr,.int many)) rfl rfl ?_;show some (Md.fr,T.bl (decide ((0:Int)<many)))=_;rw[Zc h0]
  exact⟨q,bk,fin _ ((vE tt).trans rfl),OE⟩
noncomputable abbrev s1(c:Nat):T:=.str [c]
def eq_int{a:Ex}{J:Env}{m:Md}{i:Int}(k:Int)(h:a J=some (m,.int i)):e2 oEq a (Q2 k) J=some (.fr,.bl (i==k)):=e2v h rfl (lM rfl rfl (by simp only[eqT]))
def mul_r{m n:Md}{i j:Int}(h:-18446744073709551616<j/\j<18446744073709551616):gz (m,.int i) (n,.int j)=some (.fr,.int (i*j)):=Zq (.inr h)
def xf(d:W3)(R:d.length<=63)(k:Nat)(O:k<1000):∃n,d5 [.scr d,.int k]=some (.fr,.lst [.int n]):=by
 have s1:aQ 2 (e2 bg (e2 gz (aa 1) (Q2 7919)) (Q2 104729)) [pc (.scr d),Q0 k,none,none,none,none,none]=some (.nx [pc (.scr d),Q0 k,Q0 ((k:Int)*7919+104729),none,none,none,none]) :=
  aL (m:=.fr) (e2v (e2v (x:=(.fr,.int k)) (y:=(.fr,.int 7919)) rfl rfl (jR (by omega))) (y:=(.fr,.int 104729)) rfl rfl) (by decide) (by show 2<7;decide)
 have p:∃c,HL (e2 KQ (eN bx (ab (aa 0) ah)) (Q2 0)) (aQ 2 (e2 bg (e2 aD (aa 0) (e2 oMod (aa 1) (eN bx (ab (aa 0) ah)))) (e2 gz (e2 jv (aa 1) (eN bx (ab (aa 0) ah))) (Q2 48271)))) eT [pc (.scr d),Q0 k,Q0 ((k:Int)*7919+104729),none,none,none,none]=some (.nx [pc (.scr d),Q0 k,Q0 c,none,none,none,none]):=by
  have A:e2 KQ (eN bx (ab (aa 0) ah)) (Q2 0) [pc (.scr d),Q0 k,Q0 ((k:Int)*7919+104729),none,none,none,none]=some (.fr,.bl (decide ((0:Int)<(d.length:Int)))):=e2v (x:=(.fr,.int (d.length:Int))) (y:=(.fr,.int 0)) rfl rfl rfl;by_cases h:0<d.length
  ·have F:=Xz (k:Int) (b:=(d.length:Int)) (by omega);have E:=YG (k:Int) (b:=(d.length:Int)) (by omega);exact⟨_,(r9 (A.trans (by rw[ZP (by omega)]))).trans (aL (m:=.fr) (e2v (e2v (x:=(.fr,.scr d)) rfl (e2v (x:=(.fr,.int k)) (y:=(.fr,.int (d.length:Int))) rfl rfl (fI (by omega))) (AN d _ F E)) (e2v (e2v (x:=(.fr,.int k)) (y:=(.fr,.int (d.length:Int))) rfl rfl (ko (by omega))) (y:=(.fr,.int 48271)) rfl (mul_r (by decide))) rfl) (by decide) (by show 2<7;decide))⟩
  ·exact⟨_,(pq (A.trans (by rw[Zc (by omega)]))).trans rfl⟩
 obtain⟨c,p⟩:=p;have s:e2 oEq (e2 oMod (aa 2) (Q2 2)) (Q2 0) [pc (.scr d),Q0 k,Q0 c,none,none,none,none]=some (.fr,.bl (c%2==0)):=eq_int 0 (m:=.fr) (e2v (x:=(.fr,.int c)) (y:=(.fr,.int 2)) rfl rfl (fI (by decide)));cases hb:(c%2==0) with
 |true =>
  rw[hb]at s;refine⟨c/2,eD rfl ((au s1).trans ((au p).trans (iz ((r9 s).trans (gq ?_)))))⟩;unfold dW;rw[xv (r:=ah) (e2v (x:=(.fr,.int c)) (y:=(.fr,.int 2)) rfl rfl (ko (by decide))) rfl];rfl
 |false =>
  rw[hb]at s;have t:=aL (J:=[pc (.scr d),Q0 k,Q0 c,none,none,none,none]) (i:=3) (m:=.fr) (e2v (e2v (f:=bg) (z:=(.fr,.int (c/2+40503*(k:Int)))) (e2v (x:=(.fr,.int c)) (y:=(.fr,.int 2)) (a:=aa 2) (b:=Q2 2) rfl rfl (ko (by decide))) (e2v (x:=(.fr,.int 40503)) (y:=(.fr,.int k)) (a:=Q2 40503) (b:=aa 1) rfl rfl (jR (by decide))) rfl) (y:=(.fr,.int 2147483629)) (b:=Q2 2147483629) rfl (fI (by decide))) (by decide) (by show 3<7;decide);have u:=Xz (c/2+40503*(k:Int)) (b:=2147483629) (by decide);have G:=YG (c/2+40503*(k:Int)) (b:=2147483629) (by decide);generalize (c/2+40503*(k:Int))%2147483629=left at t u G;obtain⟨U,f1,l,n,o,g,rfl,_⟩:=j4 (tg:=aU 5) (body:=fA) (λ(j:Nat)=>T.int (j:Int)) (λr J=>∃(l n:Int)(o g:W5),J=[pc (.scr d),Q0 k,Q0 c,Q0 l,Q0 n,o,g]/\0<=l/\l<2147483647/\∀j∈r,j<24) (by
   rintro j r _ ⟨l,n,o,g,rfl,Q,P,q⟩;have S:=q j Zx;have C:aQ 3 (e2 oMod (e2 bg (e2 bg (e2 gz (aa 3) (Q2 69621)) (e2 gz (Q2 7) (aa 5))) (Q2 1)) (Q2 2147483647)) [pc (.scr d),Q0 k,Q0 c,Q0 l,Q0 n,Q0 (j:Int),g]=some (.nx [pc (.scr d),Q0 k,Q0 c,Q0 ((l*69621+7*(j:Int)+1)%2147483647),Q0 n,Q0 (j:Int),g]) :=
    aL (m:=.fr) (e2v (e2v (e2v (e2v (x:=(.fr,.int l)) (y:=(.fr,.int 69621)) rfl rfl (jR (by omega))) (e2v (x:=(.fr,.int 7)) (y:=(.fr,.int (j:Int))) rfl rfl (jR (by decide))) rfl) (y:=(.fr,.int 1)) rfl rfl) (y:=(.fr,.int 2147483647)) rfl (fI (by decide))) (by decide) (by show 3<7;decide)
   have w:=Xz (l*69621+7*(j:Int)+1) (b:=2147483647) (by decide);have v:=YG (l*69621+7*(j:Int)+1) (b:=2147483647) (by decide);generalize (l*69621+7*(j:Int)+1)%2147483647=e at C w v;have B:aQ 6 (e2 oMod (e2 gz (aa 3) (aa 3)) (Q2 2147483629)) [pc (.scr d),Q0 k,Q0 c,Q0 e,Q0 n,Q0 (j:Int),g]=some (.nx [pc (.scr d),Q0 k,Q0 c,Q0 e,Q0 n,Q0 (j:Int),Q0 (e*e%2147483629)]) :=
    aL (m:=.fr) (e2v (e2v (x:=(.fr,.int e)) (y:=(.fr,.int e)) rfl rfl (jR (by omega))) (y:=(.fr,.int 2147483629)) rfl (fI (by decide))) (by decide) (by show 6<7;decide)
   have L:=Xz (e*e) (b:=2147483629) (by decide);have H:=YG (e*e) (b:=2147483629) (by decide);generalize e*e%2147483629=mo at B L H;have N:aQ 4 (e2 bg (e2 gz (aa 4) (Q2 999983)) (e2 oMod (e2 gz (aa 6) (e2 bg (e2 oMod (aa 6) (Q2 65521)) (Q2 3))) (Q2 999983))) [pc (.scr d),Q0 k,Q0 c,Q0 e,Q0 n,Q0 (j:Int),Q0 mo]=some (.nx [pc (.scr d),Q0 k,Q0 c,Q0 e,Q0 (n*999983+mo*(mo%65521+3)%999983),Q0 (j:Int),Q0 mo]) :=
    aL (m:=.fr) (e2v (e2v (x:=(.fr,.int n)) (y:=(.fr,.int 999983)) rfl rfl (mul_r (by decide))) (e2v (e2v (x:=(.fr,.int mo)) rfl (e2v (e2v (x:=(.fr,.int mo)) (y:=(.fr,.int 65521)) rfl rfl (fI (by decide))) (y:=(.fr,.int 3)) rfl rfl) (jR (by omega))) (y:=(.fr,.int 999983)) rfl (fI (by decide))) rfl) (by decide) (by show 4<7;decide)
   exact⟨_,_,rfl,(au C).trans ((au B).trans N),e,_,_,_,rfl,w,v,λi M=>q i (Zy _ M)⟩) (List.range 24) [pc (.scr d),Q0 k,Q0 c,Q0 left,Q0 0,none,none] ⟨left,0,none,none,rfl,u,by omega,λj q=>Yu.mp q⟩
  have D:fH (aU 5) (bV (Q2 24)) fA [pc (.scr d),Q0 k,Q0 c,Q0 left,Q0 0,none,none]=some (.nx [pc (.scr d),Q0 k,Q0 c,Q0 l,Q0 n,o,g]):=by
   refine(bU (m:=.fr) ?_ rfl).trans f1;rw[fT (m:=.fr) (j:=24) rfl (by decide),iS];rfl
  refine⟨n,eD rfl ((au s1).trans ((au p).trans ((au ((pq s).trans rfl)).trans ((au t).trans ((au (J1:=[pc (.scr d),Q0 k,Q0 c,Q0 left,Q0 0,none,none]) rfl).trans ((au D).trans (gq ?_)))))))⟩;rfl
end T35
end
section
namespace T35
open VS AU
def kg{c:Ex}{a:Sx}{n:Nat}{J b:Env}{m:Md}(e:c J=some (m,.bl true))(d:a J=some (.nx b)):di c a (n+1) J=di c a n b:=by
 show (c J).bind _=_;rw[e];show (if true=true then (a J).bind _ else some (.nx J))=_;rw[Zq rfl,d];rfl
def d9{c:Ex}{a:Sx}{n:Nat}{J:Env}{m:Md}(b:c J=some (m,.bl false)):di c a (n+1) J=some (.nx J):=by
 show (c J).bind _=_;rw[b];rfl
def jb{mv:List Bool}{g:Mt}{as:Hf}{xs:W6}{S a:St}{v:T}{b:Bool}{r:List (W5)}(f:as (oc (GK S b) :: r)=some xs)(h:argsOk mv xs=true)(i:bj (trees xs)=true)(e:g (I0 S) (trees xs)=some (I0 a,v))(d:GO v=true) :
  b6 0 [] 0 mv g as (oc (GK S b) :: r)=some ((.fr,v),oc (GK a b) :: r):=by
 show ((some ([]:List Ky)).bind λks=>(as (oc (GK S b) :: r)).bind λxs=>(pm (u6 0 mv g xs) ks (GK S b)).map λz=>(z.2,(oc (GK S b) :: r).set 0 (oc z.1)))=_;rw[Zr,f,Zr];show ((if 1=0+1/\gA (I0 S)=true/\argsOk mv xs=true/\bj (trees xs)=true then (g (I0 S) (trees xs)).bind λz=>if gA z.1=true/\GO z.2=true then some (T.obj 1 ((0,.bl b) :: z.1),(Md.fr,z.2)) else none else none).map _)=_;rw[Zq ⟨rfl,l7 S,h,i⟩,e,Zr,Zq ⟨l7 a,d⟩];rfl
def Cr{e:Ex}{S:St}{b:Bool}{r:List (W5)}{v:Nat}(h:e (oc (GK S b) :: r)=some (.fr,.int (v:Int)))(d:S.lg.length<16777216):sX (lN 0 [.fld 1] aN (ab e ah)) (oc (GK S b) :: r)=some (.nx (oc (GK ⟨S.lg++[v],S.lk,S.wy⟩ b) :: r)):=by
 show (((some [Ky.fld 1]).bind λks=>(ab e ah (oc (GK S b) :: r)).bind λa=>(pm (λx=>aN x a) ks (GK S b)).map _).map _)=_;rw[Zr,xv (r:=ah) h rfl,Zr];show (((aN (.lst (S.lg.map λ(n:Nat)=>T.int (n:Int))) [(.fr,.int (v:Int))]).map _).map _ |>.map _)=_;rw[dG (by rw[Zu];exact d),show (S.lg.map λ(n:Nat)=>T.int (n:Int))++[.int (v:Int)]=(S.lg++[v]).map λ(n:Nat)=>T.int (n:Int) from by rw[Jv];rfl];rfl
def Dx{e:Ex}{S:St}{b:Bool}{r:List (W5)}{v:Option Nat}(h:e (oc (GK S b) :: r)=some (.fr,G8 v))(d:S.lk.length<16777216):sX (lN 0 [.fld 2] aN (ab e ah)) (oc (GK S b) :: r)=some (.nx (oc (GK ⟨S.lg,S.lk++[v],S.wy⟩ b) :: r)):=by
 show (((some [Ky.fld 2]).bind λks=>(ab e ah (oc (GK S b) :: r)).bind λa=>(pm (λx=>aN x a) ks (GK S b)).map _).map _)=_;rw[Zr,xv (r:=ah) h rfl,Zr];show (((aN (.lst (S.lk.map G8)) [(.fr,G8 v)]).map _).map _ |>.map _)=_;rw[dG (by rw[Zu];exact d),show (S.lk.map G8)++[G8 v]=(S.lk++[v]).map G8 from by rw[Jv];rfl];rfl
def CB(o:Option Nat):up .pu (G8 o)=(.fr,G8 o):=by
 unfold up;rw[la];rfl
def ym(S:St)(l:Nat)(o:Option Nat)(w:List (Nat×Nat))(f:S.lg.length<16777216)(d:S.lk.length<16777216)(a:S.wy.length<16777216):aK (I0 S) [.int (l:Int),G8 o,G4 w]=some (I0 ⟨S.lg++[l],S.lk++[o],S.wy++[w]⟩,.int (S.lg.length:Int)):=by
 have j:=Cr (S:=S) (b:=true) (r:=[Q0 (l:Int),pc (G8 o),oc (G4 w)]) (e:=aa 1) (v:=l) rfl f;have i:=Dx (S:=⟨S.lg++[l],S.lk,S.wy⟩) (b:=true) (r:=[Q0 (l:Int),pc (G8 o),oc (G4 w)]) (e:=aa 2) (v:=o) (congrArg some (CB o)) d;have h:mU 0 [.fld 3] 3 [oc (GK ⟨S.lg++[l],S.lk++[o],S.wy⟩ true),Q0 (l:Int),pc (G8 o),oc (G4 w)]=some (.nx [oc (GK ⟨S.lg++[l],S.lk++[o],S.wy++[w]⟩ true),Q0 (l:Int),pc (G8 o),none]):=by
  show ((aN (.lst (S.wy.map G4)) [(.fr,G4 w)]).map _ |>.map _)=_;rw[dG (by rw[Zu];exact a),show (S.wy.map G4)++[G4 w]=(S.wy++[w]).map G4 from by rw[Jv];rfl];rfl
 have g:=gq (e:=e2 vJ (eN bx (ab (bA 1 (aa 0)) ah)) (Q2 1)) (J:=[oc (GK ⟨S.lg++[l],S.lk++[o],S.wy++[w]⟩ true),Q0 (l:Int),pc (G8 o),none]) (t:=.int (S.lg.length:Int)) (e2v (C7 (m:=.bo) rfl) rfl (by
  show some (Md.fr,T.int ((((S.lg++[l]).length:Nat):Int)-1))=_;rw[Zs,ZL,show (((S.lg.length+1:Nat)):Int)-1=(S.lg.length:Int) by omega]))
 unfold aK JH;rw[Zq ⟨rfl,rfl⟩];have body:=(au (b:=av (sX (lN 0 [.fld 2] aN (ab (aa 2) ah))) (av (mU 0 [.fld 3] 3) (fj (e2 vJ (eN bx (ab (bA 1 (aa 0)) ah)) (Q2 1))))) j).trans ((au i).trans ((au h).trans g));exact congrArg (λz:Option Out=>z.bind _) body
def DJ{c a v:Nat}(B:97<=c/\c<=122):∀(k:Nat)(S b:St)(o:Option Nat),WF S->v<S.lg.length->(∀n,o=some n->n<S.lg.length)->LZ c a v k S o=some b->WF b/\b.lg=S.lg/\∃d,∀N,k<N->∀z:W5,
  di (fN (eE (aa 1)) (e2 oEq (e2 vO (e2 aD (bA 3 (aa 0)) (aa 1)) (aa 2)) (aa 3))) bF N [oc (GK S true),pc (G8 o),Q1 ([c]),Q0 (a:Int),z,Q0 (v:Int)] =
   some (.nx [oc (GK b true),pc (G8 d),Q1 ([c]),Q0 (a:Int),z,Q0 (v:Int)]):=by
 intro k
 induction k with
 |zero =>
  intro S b o W f j e;cases o with
  |none =>
   cases (show some S=some b from e);refine⟨W,rfl,none,λN hN z=>?_⟩;obtain⟨N,rfl⟩:∃M,N=M+1:=⟨N-1,by omega⟩
   exact d9 (m:=.fr) rfl
  |some n=>cases e
 |succ k w =>
  intro S b o W f j e;cases o with
  |none =>
   cases (show some S=some b from e);refine⟨W,rfl,none,λN hN z=>?_⟩;obtain⟨N,rfl⟩:∃M,N=M+1:=⟨N-1,by omega⟩
   exact d9 (m:=.fr) rfl
  |some n =>
   have l:=j n rfl;have p:n<S.wy.length:=by rw[W.wy];exact l
   have cond:∀z:W5,fN (eE (aa 1)) (e2 oEq (e2 vO (e2 aD (bA 3 (aa 0)) (aa 1)) (aa 2)) (aa 3)) [oc (GK S true),Q0 (n:Int),Q1 ([c]),Q0 (a:Int),z,Q0 (v:Int)]=some (.fr,.bl (decide (gW (S.wy.getD n []) c=some a))):=λz=>by
    refine nR (m:=.fr) (x:=true) rfl (λ_=>?_) (λh=>by cases h);refine e2v (E8 (m:=.bo) (mI (m:=.bo) (n:=.fr) rfl rfl p) (n:=.fr) rfl) (y:=(.fr,.int (a:Int))) rfl ?_;cases hg:gW (S.wy.getD n []) c with
    |none=>rw[Zc (by simp)];exact lM rfl rfl rfl
    |some q =>
     refine(lM rfl rfl (show eqT (.int (q:Int)) (.int (a:Int))=decide (some q=some a) from ?_));simp only[eqT];by_cases h:q=a
     ·subst h;simp
     ·have D:¬(q:Int)=(a:Int):=by omega
      have C:¬some q=some a:=λz=>h (Zm z);rw[Zc C];exact beq_eq_false_iff_ne.mpr D
   unfold LZ at e;split at e
   ·rename_i g;have E:=W.way (n:=n) (c:=c) (v:=v) f B;obtain⟨u,s,d,r⟩:=w _ b (S.lk.getD n none) E f (λm A=>W.up n m A) e;refine⟨u,s,d,λN hN z=>?_⟩;obtain⟨N,rfl⟩:∃M,N=M+1:=⟨N-1,by omega⟩
    refine(kg (m:=.fr) ((cond z).trans (by rw[ZP g])) ?_).trans (r N (by omega) z);unfold bF;refine(au (zN (S:=S) (i:=n) (n:=.fr) (m:=.fr) (k:=.fr) (c:=c) (v:=v) p rfl rfl rfl (W.small n))).trans ?_;have F:n<S.lk.length:=by rw[W.lk];exact l
    exact aL (m:=.fr) (t:=G8 (S.lk.getD n none)) (uM (S:=⟨S.lg,S.lk,S.wy.set n (pW (S.wy.getD n []) c v)⟩) (m:=.bo) (n:=.fr) rfl rfl F) (by decide) (by decide:1<6)
   ·rename_i g;cases e;refine⟨W,rfl,some n,λN hN z=>?_⟩;obtain⟨N,rfl⟩:∃M,N=M+1:=⟨N-1,by omega⟩
    exact d9 (m:=.fr) ((cond z).trans (by rw[Zc g]))
def Cz{c v:Nat}(y:97<=c/\c<=122):∀(k:Nat)(S a:St)(o b:Option Nat),WF S->v<S.lg.length->(∀n,o=some n->n<S.lg.length)->up1 c v k S o=some (a,b)->WF a/\a.lg=S.lg/\(∀n,b=some n->n<S.lg.length)/\∀N,k<N->∀z:W5,
  di (fN (eE (aa 4)) (e2 dc (aa 2) (e2 aD (bA 3 (aa 0)) (aa 4)))) bD N [oc (GK S true),z,Q1 ([c]),Q0 (v:Int),pc (G8 o)] =
   some (.nx [oc (GK a true),z,Q1 ([c]),Q0 (v:Int),pc (G8 b)]):=by
 intro k
 induction k with
 |zero =>
  intro S a o b W d g e;cases o with
  |none =>
   cases (show some (S,none)=some (a,b) from e);refine⟨W,rfl,(λn h=>nomatch h),λN hN z=>?_⟩;obtain⟨N,rfl⟩:∃M,N=M+1:=⟨N-1,by omega⟩
   exact d9 (m:=.fr) rfl
  |some n=>cases e
 |succ k u =>
  intro S a o b W d g e;cases o with
  |none =>
   cases (show some (S,none)=some (a,b) from e);refine⟨W,rfl,(λn h=>nomatch h),λN hN z=>?_⟩;obtain⟨N,rfl⟩:∃M,N=M+1:=⟨N-1,by omega⟩
   exact d9 (m:=.fr) rfl
  |some n =>
   have j:=g n rfl;have l:n<S.wy.length:=by rw[W.wy];exact j
   have cond:∀z:W5,fN (eE (aa 4)) (e2 dc (aa 2) (e2 aD (bA 3 (aa 0)) (aa 4))) [oc (GK S true),z,Q1 ([c]),Q0 (v:Int),Q0 (n:Int)]=some (.fr,.bl (!(gW (S.wy.getD n []) c).isSome)):=λz =>
    nR (m:=.fr) (x:=true) rfl (λ_=>BH (m:=.bo) (n:=.fr) (mI (m:=.bo) (n:=.fr) rfl rfl l) rfl) (λh=>by cases h)
   unfold up1 at e;split at e
   ·rename_i f;cases e;refine⟨W,rfl,g,λN hN z=>?_⟩;obtain⟨N,rfl⟩:∃M,N=M+1:=⟨N-1,by omega⟩
    exact d9 (m:=.fr) ((cond z).trans (by rw[f];rfl))
   ·rename_i f;have A:=W.way (n:=n) (c:=c) (v:=v) d y;obtain⟨s,r,p,q⟩:=u _ a (S.lk.getD n none) b A d (λm w=>W.up n m w) e;refine⟨s,r,p,λN hN z=>?_⟩;obtain⟨N,rfl⟩:∃M,N=M+1:=⟨N-1,by omega⟩
    have C:(gW (S.wy.getD n []) c).isSome=false:=by simpa using f
    refine(kg (m:=.fr) ((cond z).trans (by rw[C];rfl)) ?_).trans (q N (by omega) z);unfold bD;refine(au (zN (S:=S) (i:=n) (n:=.fr) (m:=.fr) (k:=.fr) (c:=c) (v:=v) l rfl rfl rfl (W.small n))).trans ?_;have B:n<S.lk.length:=by rw[W.lk];exact j
    exact aL (m:=.fr) (t:=G8 (S.lk.getD n none)) (uM (S:=⟨S.lg,S.lk,S.wy.set n (pW (S.wy.getD n []) c v)⟩) (m:=.bo) (n:=.fr) rfl rfl B) (by decide) (by decide:4<5)
def Dt(a b:Nat){m n:Md}:oEq (m,.int (a:Int)) (n,.int (b:Int))=some (.fr,.bl (decide (a=b))):=lM rfl rfl (by
 simp only[eqT];by_cases h:a=b
 ·subst h;simp
 ·rw[Zc h];exact beq_eq_false_iff_ne.mpr (by omega))
def xg{S a:St}{n c r:Nat}(W:WF S)(E:Sm S)(q:n<S.lg.length)(F:97<=c/\c<=122)(e:LC S n c=some (a,r)):WF a/\r<a.lg.length/\S.lg.length<=a.lg.length/\a.lg.length<=S.lg.length+1/\aA (I0 S) [.int (n:Int),.str [c]]=some (I0 a,.int (r:Int)):=by
 unfold LC at e;obtain⟨old,j,e⟩:=Zz.mp e;have hold:=W.on n c old j;have O:n<S.wy.length:=by rw[W.wy];exact q
 have how:old<S.wy.length:=by rw[W.wy];exact hold
 have GL:old<S.lk.length:=by rw[W.lk];exact hold
 have U:S.lg.length<=100001:=E;unfold aA JH;rw[Zq ⟨rfl,rfl⟩];have s1:=aL (i:=3) (m:=.fr) (e:=e2 HR (e2 aD (bA 3 (aa 0)) (aa 1)) (aa 2)) (J:=[oc (GK S true),Q0 (n:Int),Q1 ([c]),none,none,none]) (wG (m:=.bo) (n:=.fr) (mI (m:=.bo) (n:=.fr) rfl rfl O) rfl j) (by decide) (by decide:3<6);have h:=aL (i:=4) (m:=.fr) (e:=e2 bg (e2 aD (bA 1 (aa 0)) (aa 1)) (Q2 1)) (J:=[oc (GK S true),Q0 (n:Int),Q1 ([c]),Q0 (old:Int),none,none]) (t:=.int ((S.lg.getD n 0+1:Nat):Int)) (e2v (rX (m:=.bo) (n:=.fr) rfl rfl q) rfl rfl) (by decide) (by decide:4<6);have cd:e2 oEq (e2 aD (bA 1 (aa 0)) (aa 3)) (aa 4) [oc (GK S true),Q0 (n:Int),Q1 ([c]),Q0 (old:Int),Q0 ((S.lg.getD n 0+1:Nat):Int),none]=some (.fr,.bl (decide (S.lg.getD old 0=S.lg.getD n 0+1))):=e2v (rX (m:=.bo) (n:=.fr) rfl rfl hold) (y:=(.fr,.int ((S.lg.getD n 0+1:Nat):Int))) rfl (Dt _ _);split at e
 ·rename_i g;obtain⟨rfl,rfl⟩:=Xs (Zm e);rw[ZP g]at cd;refine⟨W,hold,Zh _,XH _,?_⟩;have body:∀b:Sx,av (aQ 3 (e2 HR (e2 aD (bA 3 (aa 0)) (aa 1)) (aa 2))) (av (aQ 4 (e2 bg (e2 aD (bA 1 (aa 0)) (aa 1)) (Q2 1))) (av (HL (e2 oEq (e2 aD (bA 1 (aa 0)) (aa 3)) (aa 4)) (dH 3) eT) b)) [oc (GK S true),Q0 (n:Int),Q1 ([c]),none,none,none]=some (.rt (.fr,.int (old:Int)) [oc (GK S true),Q0 (n:Int),Q1 ([c]),Q0 (old:Int),Q0 ((S.lg.getD n 0+1:Nat):Int),none]):=λb =>
   (au s1).trans ((au h).trans (iz ((r9 cd).trans rfl)))
  exact congrArg (λz:Option Out=>z.bind _) (body _)
 ·rename_i g;rw[Zc g]at cd;obtain⟨s,P,G⟩:=Zw.mp e;obtain⟨rfl,rfl⟩:=Xs G;have wn:=W.NH old;have N:=W.more (l:=S.lg.getD n 0+1) (o:=S.lk.getD old none) (w:=S.wy.getD old []) (λm f=>W.up old m f) (λd m f=>W.on old d m f) wn.1 wn.2;have hlen:(S.lg++[S.lg.getD n 0+1]).length=S.lg.length+1:=by rw[Zs];rfl
  have M:=N.link (n:=old) (v:=S.lg.length) (by show S.lg.length<(S.lg++[S.lg.getD n 0+1]).length;omega);obtain⟨A,x,Q,u⟩:=DJ F 1000 _ s (some n) M (by show S.lg.length<(S.lg++[S.lg.getD n 0+1]).length;omega) (λm f=>by cases f;show n<(S.lg++[S.lg.getD n 0+1]).length;omega) P;have R:s.lg.length=S.lg.length+1:=by rw[x];exact hlen
  refine⟨A,by omega,by omega,by omega,?_⟩;have nw:=ym S (S.lg.getD n 0+1) (S.lk.getD old none) (S.wy.getD old []) (by omega) (by rw[W.lk];omega) (by rw[W.wy];omega);have args:ab (aa 4) (ab (e2 aD (bA 2 (aa 0)) (aa 3)) (ab (eN ll (ab (e2 aD (bA 3 (aa 0)) (aa 3)) ah)) ah)) [oc (GK S true),Q0 (n:Int),Q1 ([c]),Q0 (old:Int),Q0 ((S.lg.getD n 0+1:Nat):Int),none]=some [(.fr,.int ((S.lg.getD n 0+1:Nat):Int)),(.fr,G8 (S.lk.getD old none)),(.fr,G4 (S.wy.getD old []))] :=
   xv rfl (xv (uM (m:=.bo) (n:=.fr) rfl rfl GL) (xv (kD (xv (mI (m:=.bo) (n:=.fr) rfl rfl how) rfl) (by
    show (if cZ (((S.wy.getD old []).map λp=>(T.str [p.1],T.int (p.2:Int))).map (·.2))=true then some (Md.fr,G4 (S.wy.getD old [])) else none)=_;rw[Zq (by rw[Ig];exact hZ _ (λ_=>rfl) _)])) rfl))
  have L:argsOk [false,false,true] [(.fr,.int ((S.lg.getD n 0+1:Nat):Int)),(.fr,G8 (S.lk.getD old none)),(.fr,G4 (S.wy.getD old []))]=true:=by
   show (true&&(GO (G8 (S.lk.getD old none))&&true))=true;rw[la];rfl
  have an:bj (trees [(Md.fr,T.int ((S.lg.getD n 0+1:Nat):Int)),(.fr,G8 (S.lk.getD old none)),(.fr,G4 (S.wy.getD old []))])=true:=by
   show (true&&(fY (G8 (S.lk.getD old none))&&(fY (G4 (S.wy.getD old []))&&true)))=true;rw[m9 _ (la _),xU];rfl
  have H:=jb (b:=true) args L an nw rfl;have D:dy 5 (b6 0 [] 0 [false,false,true] aK (ab (aa 4) (ab (e2 aD (bA 2 (aa 0)) (aa 3)) (ab (eN ll (ab (e2 aD (bA 3 (aa 0)) (aa 3)) ah)) ah)))) [oc (GK S true),Q0 (n:Int),Q1 ([c]),Q0 (old:Int),Q0 ((S.lg.getD n 0+1:Nat):Int),none]=some (.nx [oc (GK ⟨S.lg++[S.lg.getD n 0+1],S.lk++[S.lk.getD old none],S.wy++[S.wy.getD old []]⟩ true),Q0 (n:Int),Q1 ([c]),Q0 (old:Int),Q0 ((S.lg.getD n 0+1:Nat):Int),Q0 (S.lg.length:Int)]):=by
   unfold dy;rw[H];rfl
  have C:=zI (S:=⟨S.lg++[S.lg.getD n 0+1],S.lk++[S.lk.getD old none],S.wy++[S.wy.getD old []]⟩) (b:=true) (r:=[Q0 (n:Int),Q1 ([c]),Q0 (old:Int),Q0 ((S.lg.getD n 0+1:Nat):Int),Q0 (S.lg.length:Int)]) (i:=old) (v:=S.lg.length) (n:=.fr) (e:=aa 3) (ev:=aa 5) (by show old<(S.lk++[S.lk.getD old none]).length;rw[Zs];omega) rfl rfl;have B:=u tW (by decide) (Q0 ((S.lg.getD n 0+1:Nat):Int));exact congrArg (λz:Option Out=>z.bind _) ((au s1).trans ((au h).trans ((au ((pq cd).trans rfl)).trans ((au D).trans ((au C).trans ((au B).trans rfl))))))
def EI{S S':St}{h c r:Nat}(W:WF S)(R:S.lg.length<=100000)(x:h<S.lg.length)(y:97<=c/\c<=122)(e:hb S h c=some (S',r)):WF S'/\r<S'.lg.length/\S.lg.length<=S'.lg.length/\S'.lg.length<=S.lg.length+2/\bB (I0 S) [.int (h:Int),.str [c]]=some (I0 S',.int (r:Int)):=by
 have hw:h<S.wy.length:=by rw[W.wy];exact x
 unfold hb at e;unfold bB JH;rw[Zq ⟨rfl,rfl⟩];have cd:e2 nJ (aa 2) (e2 aD (bA 3 (aa 0)) (aa 1)) [oc (GK S true),Q0 (h:Int),Q1 ([c]),none,none]=some (.fr,.bl (gW (S.wy.getD h []) c).isSome):=Gm (m:=.bo) (n:=.fr) (mI (m:=.bo) (n:=.fr) rfl rfl hw) rfl;split at e
 ·rename_i u;rw[u]at cd;obtain⟨s,q,t,A,D⟩:=xg W (Nat.le_succ_of_le R) x y e;refine⟨s,q,t,by omega,?_⟩;have j:=jb (mv:=[false,false]) (as:=ab (aa 1) (ab (aa 2) ah)) (xs:=[(.fr,.int (h:Int)),(.fr,.str [c])]) (b:=true) (r:=[Q0 (h:Int),Q1 ([c]),none,none]) rfl rfl rfl D rfl;have s1:ky (b6 0 [] 0 [false,false] aA (ab (aa 1) (ab (aa 2) ah))) [oc (GK S true),Q0 (h:Int),Q1 ([c]),none,none]=some (.rt (.fr,.int (r:Int)) [oc (GK S' true),Q0 (h:Int),Q1 ([c]),none,none]):=by
   unfold ky;rw[j];rfl
  exact congrArg (λz:Option Out=>z.bind _) (iz ((r9 cd).trans s1))
 ·rename_i u;have U:(gW (S.wy.getD h []) c).isSome=false:=by simpa using u
  rw[U]at cd;obtain⟨⟨a,o⟩,e1,C⟩:=Zz.mp e;have Q:=W.more (l:=S.lg.getD h 0+1) (o:=some 0) (w:=[]) (λm g=>by cases g;exact W.pos) (λd m g=>by cases g) Yx (λp M=>nomatch M);have hlen:(S.lg++[S.lg.getD h 0+1]).length=S.lg.length+1:=by rw[Zs];rfl
  obtain⟨s,q,t,A⟩:=Cz y 1000 _ a (some h) o Q (by show S.lg.length<(S.lg++[S.lg.getD h 0+1]).length;omega) (λm g=>by cases g;show h<(S.lg++[S.lg.getD h 0+1]).length;omega) e1;have Z:a.lg.length=S.lg.length+1:=by rw[q];exact hlen
  have nw:=ym S (S.lg.getD h 0+1) (some 0) [] (by omega) (by rw[W.lk];omega) (by rw[W.wy];omega);have args:ab (e2 bg (e2 aD (bA 1 (aa 0)) (aa 1)) (Q2 1)) (ab (Q2 0) (ab (nk 0 []) ah)) [oc (GK S true),Q0 (h:Int),Q1 ([c]),none,none]=some [(.fr,.int ((S.lg.getD h 0+1:Nat):Int)),(.fr,.int 0),(.fr,.dct 0 [])] :=
   xv (e2v (rX (m:=.bo) (n:=.fr) rfl rfl x) rfl rfl) (xv rfl (xv rfl rfl))
  have j:=jb (mv:=[false,false,true]) (b:=true) args rfl rfl nw rfl;have s1:dy 3 (b6 0 [] 0 [false,false,true] aK (ab (e2 bg (e2 aD (bA 1 (aa 0)) (aa 1)) (Q2 1)) (ab (Q2 0) (ab (nk 0 []) ah)))) [oc (GK S true),Q0 (h:Int),Q1 ([c]),none,none]=some (.nx [oc (GK ⟨S.lg++[S.lg.getD h 0+1],S.lk++[some 0],S.wy++[[]]⟩ true),Q0 (h:Int),Q1 ([c]),Q0 (S.lg.length:Int),none]):=by
   unfold dy;rw[j];rfl
  have J:=A tW (by decide) (Q0 (h:Int));have hd:∀b:Sx,av (HL (e2 nJ (aa 2) (e2 aD (bA 3 (aa 0)) (aa 1))) (ky (b6 0 [] 0 [false,false] aA (ab (aa 1) (ab (aa 2) ah)))) eT)
    (av (dy 3 (b6 0 [] 0 [false,false,true] aK (ab (e2 bg (e2 aD (bA 1 (aa 0)) (aa 1)) (Q2 1)) (ab (Q2 0) (ab (nk 0 []) ah)))))
    (av (aQ 4 (aa 1)) (av (jQ (fN (eE (aa 4)) (e2 dc (aa 2) (e2 aD (bA 3 (aa 0)) (aa 4)))) bD) b))) [oc (GK S true),Q0 (h:Int),Q1 ([c]),none,none] =
    b [oc (GK a true),Q0 (h:Int),Q1 ([c]),Q0 (S.lg.length:Int),pc (G8 o)]:=λb =>
   (au ((pq cd).trans rfl)).trans ((au s1).trans ((au rfl).trans (au J)))
  cases o with
  |none =>
   obtain⟨rfl,rfl⟩:=Xs (Zm C);have fin:av (HL (eE (aa 4)) (lQ 0 [.fld 2] (aa 3) (b6 0 [] 0 [false,false] aA (ab (aa 4) (ab (aa 2) ah)))) eT) (dH 3) [oc (GK a true),Q0 (h:Int),Q1 ([c]),Q0 (S.lg.length:Int),pc (G8 none)] =
     some (.rt (.fr,.int (S.lg.length:Int)) [oc (GK a true),Q0 (h:Int),Q1 ([c]),Q0 (S.lg.length:Int),pc (G8 none)]):=(au ((pq (m:=.fr) rfl).trans rfl)).trans rfl
   refine⟨s,by show S.lg.length<a.lg.length;omega,by show S.lg.length<=a.lg.length;omega,by show a.lg.length<=_;omega,?_⟩;exact congrArg (λz:Option Out=>z.bind _) ((hd _).trans fin)
  |some n =>
   obtain⟨⟨f,m⟩,P,O⟩:=Zw.mp C;obtain⟨rfl,rfl⟩:=Xs O;have N:n<a.lg.length:=by
    have:=t n rfl;rw[q];exact this
   obtain⟨B,G,Y,X,F⟩:=xg s (by show a.lg.length<=100001;omega) N y P;have E:=B.link (n:=S.lg.length) (v:=m) G;have j:=jb (mv:=[false,false]) (as:=ab (aa 4) (ab (aa 2) ah)) (xs:=[(.fr,.int (n:Int)),(.fr,.str [c])]) (b:=true) (r:=[Q0 (h:Int),Q1 ([c]),Q0 (S.lg.length:Int),Q0 (n:Int)]) rfl rfl rfl F rfl;have L:=zI (S:=f) (b:=true) (r:=[Q0 (h:Int),Q1 ([c]),Q0 (S.lg.length:Int),Q0 (n:Int)]) (i:=S.lg.length) (v:=m) (n:=.fr) (e:=aa 3) (ev:=λ_=>some (.fr,.int (m:Int))) (by rw[B.lk];omega) rfl rfl;have H:lQ 0 [.fld 2] (aa 3) (b6 0 [] 0 [false,false] aA (ab (aa 4) (ab (aa 2) ah))) [oc (GK a true),Q0 (h:Int),Q1 ([c]),Q0 (S.lg.length:Int),Q0 (n:Int)]=some (.nx [oc (GK ⟨f.lg,f.lk.set S.lg.length (some m),f.wy⟩ true),Q0 (h:Int),Q1 ([c]),Q0 (S.lg.length:Int),Q0 (n:Int)]):=by
    unfold lQ;rw[j];exact L
   have fin:av (HL (eE (aa 4)) (lQ 0 [.fld 2] (aa 3) (b6 0 [] 0 [false,false] aA (ab (aa 4) (ab (aa 2) ah)))) eT) (dH 3) [oc (GK a true),Q0 (h:Int),Q1 ([c]),Q0 (S.lg.length:Int),Q0 (n:Int)] =
     some (.rt (.fr,.int (S.lg.length:Int)) [oc (GK ⟨f.lg,f.lk.set S.lg.length (some m),f.wy⟩ true),Q0 (h:Int),Q1 ([c]),Q0 (S.lg.length:Int),Q0 (n:Int)]):=(au ((r9 (m:=.fr) rfl).trans H)).trans rfl
   refine⟨E,by show S.lg.length<f.lg.length;omega,by show S.lg.length<=f.lg.length;omega,by show f.lg.length<=_;omega,?_⟩;exact congrArg (λz:Option Out=>z.bind _) ((hd _).trans fin)
theorem zu{S S':St}:∀{word:W0}{h r:Nat},WF S->S.lg.length+2*word.length<=100000->h<S.lg.length->(∀c∈word,97<=c/\c<=122)->hg S h word=some (S',r) →
  WF S'/\r<S'.lg.length/\S'.lg.length<=S.lg.length+2*word.length/\∀f:W5,∀a:T,∃j,forL (aU 3) bP (word.map λc=>T.str [c]) [oc (GK S true),Q0 (h:Int),pc a,f]=some (.nx [oc (GK S' true),Q0 (r:Int),pc a,j])
 |[],h,r,W,l,g,i,e=>by
  obtain⟨rfl,rfl⟩:=Xs (Zm e);exact⟨W,g,by simp,λf a=>⟨f,rfl⟩⟩
 |c :: word,h,r,W,l,g,i,e=>by
  obtain⟨⟨v,A⟩,e1,w⟩:=Zz.mp e;rw[Zk]at l;obtain⟨o,n,y,x,m⟩:=EI W (by omega) g (i c Zx) e1;obtain⟨t,s,z,p⟩:=zu (S:=v) (S':=S') (word:=word) o (by omega) n (λd hd=>i d (Zy _ hd)) w;refine⟨t,s,by rw[Zk];omega,λf a=>?_⟩;obtain⟨j,q⟩:=p (Q1 ([c])) a;refine⟨j,?_⟩;rw[Zl];refine(cA (J1:=[oc (GK S true),Q0 (h:Int),pc a,Q1 ([c])]) rfl ?_).trans q;have u:=jb (mv:=[false,false]) (as:=ab (aa 1) (ab (aa 3) ah)) (xs:=[(.fr,.int (h:Int)),(.fr,.str [c])]) (b:=true) (r:=[Q0 (h:Int),pc a,Q1 ([c])]) rfl rfl rfl m rfl;unfold bP dy;rw[u];rfl
def EJ{S S':St}{a:Tx}{h r:Nat}(W:WF S)(i:S.lg.length+2*a.length<=100000)(j:h<S.lg.length)(n:∀c∈a,97<=c/\c<=122)(e:hg S h a=some (S',r)) :
  WF S'/\r<S'.lg.length/\S'.lg.length<=S.lg.length+2*a.length/\bL (I0 S) [.int (h:Int),.str a]=some (I0 S',.int (r:Int)):=by
 obtain⟨g,f,d,b⟩:=zu W i j n e;obtain⟨o,q⟩:=b none (.str a);refine⟨g,f,d,?_⟩;unfold bL JH;rw[Zq ⟨rfl,rfl⟩];have s1:=(bU (tg:=aU 3) (it:=gU (aa 2)) (body:=bP) (J:=[oc (GK S true),Q0 (h:Int),Q1 a,none]) (m:=.fr) (l:=a.map λc=>T.str [c]) rfl rfl).trans q;exact congrArg (λz:Option Out=>z.bind _) ((au s1).trans rfl)
end T35
end
section
namespace AU
noncomputable abbrev Wd:=W0
noncomputable abbrev W(a:List Wd)(n:Nat):Wd:=a.getD n []
structure I(fr:Option Nat)(S:St)(nd:Wd->Option Nat)(wd:List Wd):Prop where
 wf:WF S
 len:wd.length=S.lg.length
 lg:∀n,n<wd.length->S.lg.getD n 0=(W wd n).length
 z:nd []=some 0
 wz:W wd 0=[]
 lt:∀{x n},nd x=some n->n<wd.length
 sf:∀{x n},nd x=some n->x <:+ W wd n
 top:∀{n},n<wd.length->nd (W wd n)=some n
 iv:∀{x y n},nd x=some n->x <:+ y->y <:+ W wd n->nd y=some n
 pre:∀{x c n},nd (x++[c])=some n->∃m,nd x=some m
 Lx:∀{x y n},nd y=some n->x <:+ y->∃m,nd x=some m
 LH:S.lk.getD 0 none=none
 lk:∀{n},0<n->n<wd.length->some n≠fr->∃m,S.lk.getD n none=some m/\(m<wd.length/\some m≠fr)/\W wd m <:+ W wd n/\(W wd m).length<(W wd n).length/\∀y,y <:+ W wd n->(W wd m).length<y.length->nd y=some n
 wy:∀{x n},nd x=some n->∀c,gW (S.wy.getD n []) c=nd (x++[c])
def cn{α:Type}{x y w:List α}(d:x <:+ w)(b:y <:+ w)(a:x.length<=y.length):x <:+ y:=List.suffix_of_suffix_length_le d b a
section
variable{fr:Option Nat}{S:St}{nd:Wd->Option Nat}{wd:List Wd}
def I.up(H:I fr S nd wd):∀(k n:Nat)(x:Wd),(W wd n).length<=k->n<wd.length->some n≠fr->x <:+ W wd n->∃m,nd x=some m/\W wd m <:+ W wd n:=by
 intro k
 induction k with
 |zero =>
  intro n x d b f a;have e:W wd n=[]:=Xc.mp (Nat.le_zero.mp d);rw[e]at a;have:x=[]:=Yk.mp a;subst this;exact⟨0,H.z,by rw[H.wz];exact XE⟩
 |succ k l =>
  intro n x d b f a;by_cases h:n=0
  ·subst h;rw[H.wz]at a;have:x=[]:=Yk.mp a;subst this;exact⟨0,H.z,ZA _⟩
  ·obtain⟨m,u,⟨r,s⟩,g,t,p⟩:=H.lk (Ym h) b f;by_cases o:(W wd m).length<x.length
   ·exact⟨n,p x a o,ZA _⟩
   ·obtain⟨q,j,i⟩:=l m x (by omega) r s (cn a g (by omega));exact⟨q,j,i.trans g⟩
def I.Pd(H:I fr S nd wd){n:Nat}{x:Wd}(b:n<wd.length)(d:some n≠fr)(a:x <:+ W wd n):∃m,nd x=some m/\W wd m <:+ W wd n:=H.up _ n x (Zh _) b d a
def I.all(H:I fr S nd wd){n q:Nat}{x y:Wd}(e:q<wd.length)(f:some q≠fr)(d:nd x=some n)(b:nd y=some n)(h:x <:+ W wd q):y <:+ W wd q:=by
 obtain⟨m,a,g⟩:=H.Pd e f h;rw[d]at a;cases a;exact(H.sf b).trans g
def I.inj(H:I fr S nd wd){m n:Nat}(b:m<wd.length)(a:n<wd.length)(h:W wd m=W wd n):m=n:=by
 have:=H.top b;rw[h,H.top a]at this;exact(Zm this).symm
def I.way(H:I fr S nd wd){n c a:Nat}(b:n<wd.length)(h:gW (S.wy.getD n []) c=some a):nd (W wd n++[c])=some a:=by
 rw[← H.wy (H.top b) c];exact h
def I.zero(H:I fr S nd wd){x:Wd}(h:nd x=some 0):x=[]:=by
 have:=H.sf h;rw[H.wz]at this;exact Yk.mp this
def I.low(H:I fr S nd wd){n m:Nat}{y:Wd}(h:some n≠fr)(a:S.lk.getD n none=some m)(b:nd y=some n):(W wd m).length<y.length/\m<wd.length/\W wd m <:+ W wd n/\some m≠fr:=by
 have g:=H.lt b;by_cases f:n=0
 ·subst f;rw[H.LH]at a;cases a
 ·obtain⟨o,j,⟨e,l⟩,d,i,p⟩:=H.lk (Ym f) g h;rw[j]at a;cases a;refine⟨WZ λhle=>?_,e,d,l⟩;have:=H.iv b (cn (H.sf b) d hle) d;rw[H.top e]at this;cases this;exact Ya _ i
def I.below(H:I fr S nd wd){n q m:Nat}(e:n<wd.length)(g:some n≠fr)(a:S.lk.getD n none=some q)(f:m<wd.length)(b:W wd m <:+ W wd n)(o:m≠n):W wd m <:+ W wd q:=by
 by_cases d:n=0
 ·subst d;rw[H.LH]at a;cases a
 ·obtain⟨p,j,⟨s,_⟩,i,r,h⟩:=H.lk (Ym d) e g;rw[j]at a;cases a;refine cn b i (ZE λl=>o ?_);have:=h _ b l;rw[H.top f]at this;exact Zm this
def I.root(H:I fr S nd wd){n m:Nat}(b:n<wd.length)(g:some n≠fr)(d:S.lk.getD n none=none)(f:m<wd.length)(a:W wd m <:+ W wd n):m=n:=by
 have i:n=0:=Nat.eq_zero_of_not_pos λe=>by
  obtain⟨q,h,_⟩:=H.lk e b g;rw[h]at d;cases d
 subst i;rw[H.wz]at a;exact H.inj f b (by rw[H.wz,Yk.mp a])
def fW(a:List (List (Nat×Nat)))(n m c v d:Nat)(b:n<a.length):gW ((a.set n (pW (a.getD n []) c v)).getD m []) d=if m=n/\d=c then some v else gW (a.getD m []) d:=by
 rw[g8];by_cases h:n=m
 ·subst h;rw[Zq ⟨rfl,b⟩,BN];by_cases hd:d=c
  ·rw[Zq hd,Zq ⟨rfl,hd⟩]
  ·rw[Zp hd,Zp (λz=>hd z.2)]
 ·rw[Zp (λz=>h z.1),Zp (λz=>h z.1.symm)]
def I.M8(H:I fr S nd wd){c old v:Nat}:∀(k:Nat)(T:St)(n:Nat),n<wd.length->some n≠fr->(W wd n).length<k->(∀m,m<wd.length->W wd m <:+ W wd n->T.lk.getD m none=S.lk.getD m none)->wd.length<=T.wy.length →
  (∀m b,m<wd.length->b<wd.length->W wd m <:+ W wd b->W wd b <:+ W wd n->gW (T.wy.getD m []) c=some old->gW (T.wy.getD b []) c=some old) →
  ∃j,LZ c old v k T (some n)=some ⟨T.lg,T.lk,j⟩/\j.length=T.wy.length/\∀m d,gW (j.getD m []) d=if d=c/\m<wd.length/\W wd m <:+ W wd n/\gW (T.wy.getD m []) c=some old then some v else gW (T.wy.getD m []) d:=by
 intro k
 induction k with
 |zero=>intro T n _ _ h;omega
 |succ k B =>
  intro T n f s F x hw mono;have l:n<T.wy.length:=ZK f hw;unfold LZ;by_cases i:gW (T.wy.getD n []) c=some old
  ·rw[Zq i,x n f (ZA _)];cases r:S.lk.getD n none with
   |none =>
    refine⟨T.wy.set n (pW (T.wy.getD n []) c v),by cases k<;>rfl,Jt,λm d=>?_⟩;rw[fW _ _ _ _ _ _ l];by_cases a:m=n/\d=c
    ·rw[Zq a,Zq ⟨a.2,by rw[a.1];exact f,by rw[a.1];exact ZA _,by rw[a.1];exact i⟩]
    ·rw[Zp a,Zp λz=>a ⟨H.root f s r z.2.1 z.2.2.1,z.1⟩]
   |some q =>
    obtain⟨E,A,p,y⟩:=H.low s r (H.top f);have ne:∀m,W wd m <:+ W wd q->m≠n:=λm a e=>by
     rw[e]at a;have:=a.length_le;omega
    obtain⟨j,e1,e2,C⟩:=B ⟨T.lg,T.lk,T.wy.set n (pW (T.wy.getD n []) c v)⟩ q A y (by omega) (λm a o=>x m a (o.trans p)) (by show _<=(T.wy.set _ _).length;rw[Jt];exact hw) (λm b a D o t h=>by
     have u:gW ((T.wy.set n (pW (T.wy.getD n []) c v)).getD m []) c=some old:=h;show gW ((T.wy.set n (pW (T.wy.getD n []) c v)).getD b []) c=some old;rw[fW _ _ _ _ _ _ l,Zp (λz=>ne m (o.trans t) z.1)]at u;rw[fW _ _ _ _ _ _ l,Zp (λz=>ne b t z.1)];exact mono m b a D o (t.trans p) u)
    refine⟨j,e1,by rw[e2];exact Jt,λm d=>?_⟩;rw[C m d];show (if d=c/\m<wd.length/\W wd m <:+ W wd q/\gW ((T.wy.set n (pW (T.wy.getD n []) c v)).getD m []) c=some old then some v else gW ((T.wy.set n (pW (T.wy.getD n []) c v)).getD m []) d)=_;by_cases a:m=n
    ·subst a;rw[Zp (λz=>ne m z.2.2.1 rfl),fW _ _ _ _ _ _ l];by_cases hd:d=c
     ·rw[Zq ⟨rfl,hd⟩,Zq ⟨hd,f,ZA _,i⟩]
     ·rw[Zp (λz=>hd z.2),Zp (λz=>hd z.1)]
    ·have w:∀d,gW ((T.wy.set n (pW (T.wy.getD n []) c v)).getD m []) d=gW (T.wy.getD m []) d:=λd=>by rw[fW _ _ _ _ _ _ l,Zp (λz=>a z.1)]
     rw[w,w];by_cases g:d=c/\m<wd.length/\W wd m <:+ W wd n/\gW (T.wy.getD m []) c=some old
     ·rw[Zq g,Zq ⟨g.1,g.2.1,H.below f s r g.2.1 g.2.2.1 a,g.2.2.2⟩]
     ·rw[Zp g,Zp λz=>g ⟨z.1,z.2.1,z.2.2.1.trans p,z.2.2.2⟩]
  ·rw[Zp i];refine⟨T.wy,rfl,rfl,λm d=>?_⟩;rw[Zp λz=>i (mono m n z.2.1 f z.2.2.1 (ZA _) z.2.2.2)]
def I.M9(H:I fr S nd wd){c v:Nat}:∀(k:Nat)(T:St)(n:Nat),n<wd.length->some n≠fr->(W wd n).length<k->(∀m,m<wd.length->W wd m <:+ W wd n->T.lk.getD m none=S.lk.getD m none)->wd.length<=T.wy.length →
  (∀m g,m<wd.length->g<wd.length->W wd m <:+ W wd g->W wd g <:+ W wd n->(gW (T.wy.getD g []) c).isSome->(gW (T.wy.getD m []) c).isSome) →
  ∃y s,up1 c v k T (some n)=some (⟨T.lg,T.lk,y⟩,s)/\y.length=T.wy.length/\(∀m d,gW (y.getD m []) d=if d=c/\m<wd.length/\W wd m <:+ W wd n/\gW (T.wy.getD m []) c=none then some v else gW (T.wy.getD m []) d) ∧
   (s=none->∀m,m<wd.length->W wd m <:+ W wd n->gW (T.wy.getD m []) c=none) ∧
   ∀p,s=some p->p<wd.length/\W wd p <:+ W wd n/\(gW (T.wy.getD p []) c).isSome/\∀m,m<wd.length->W wd m <:+ W wd n->(W wd p).length<(W wd m).length->gW (T.wy.getD m []) c=none:=by
 intro k
 induction k with
 |zero=>intro T n _ _ h;omega
 |succ k P =>
  intro T n f o hk G hw mono;have r:n<T.wy.length:=ZK f hw;unfold up1;by_cases l:(gW (T.wy.getD n []) c).isSome=true
  ·rw[Zq l];refine⟨T.wy,some n,rfl,rfl,λm d=>?_,(λh=>nomatch h),λp t=>?_⟩
   ·rw[Zp λz=>?_];have:=mono m n z.2.1 f z.2.2.1 (ZA _) l;rw[z.2.2.2]at this;cases this
   ·cases t;refine⟨f,ZA _,l,λm a b j=>?_⟩;have:=b.length_le;omega
  ·have w:gW (T.wy.getD n []) c=none:=by
    cases h:gW (T.wy.getD n []) c with
    |none=>rfl
    |some x=>rw[h]at l;exact absurd rfl l
   rw[Zp l,G n f (ZA _)];cases j:S.lk.getD n none with
   |none =>
    refine⟨T.wy.set n (pW (T.wy.getD n []) c v),none,by cases k<;>rfl,Jt,λm d=>?_,λ_ m a b=>?_,(λp t=>nomatch t)⟩
    ·rw[fW _ _ _ _ _ _ r];by_cases a:m=n/\d=c
     ·rw[Zq a,Zq ⟨a.2,by rw[a.1];exact f,by rw[a.1];exact ZA _,by rw[a.1];exact w⟩]
     ·rw[Zp a,Zp λz=>a ⟨H.root f o j z.2.1 z.2.2.1,z.1⟩]
    ·rw[H.root f o j a b];exact w
   |some q =>
    obtain⟨l1,O,A,N⟩:=H.low o j (H.top f);have ne:∀m,W wd m <:+ W wd q->m≠n:=λm a e=>by
     rw[e]at a;have:=a.length_le;omega
    obtain⟨y,s,e1,e2,X,U,R⟩:=P ⟨T.lg,T.lk,T.wy.set n (pW (T.wy.getD n []) c v)⟩ q O N (by omega) (λm a b=>G m a (b.trans A)) (by show _<=(T.wy.set _ _).length;rw[Jt];exact hw) (λm g a Z b B h=>by
     have D:(gW ((T.wy.set n (pW (T.wy.getD n []) c v)).getD g []) c).isSome:=h;show (gW ((T.wy.set n (pW (T.wy.getD n []) c v)).getD m []) c).isSome;rw[fW _ _ _ _ _ _ r,Zp (λz=>ne g B z.1)]at D;rw[fW _ _ _ _ _ _ r,Zp (λz=>ne m (b.trans B) z.1)];exact mono m g a Z b (B.trans A) D)
    have old:∀m,W wd m <:+ W wd q->gW ((T.wy.set n (pW (T.wy.getD n []) c v)).getD m []) c=gW (T.wy.getD m []) c:=λm a=>by rw[fW _ _ _ _ _ _ r,Zp (λz=>ne m a z.1)]
    refine⟨y,s,e1,by rw[e2];exact Jt,λm d=>?_,λQ m a b=>?_,λp t=>?_⟩
    ·rw[X m d];show (if d=c/\m<wd.length/\W wd m <:+ W wd q/\gW ((T.wy.set n (pW (T.wy.getD n []) c v)).getD m []) c=none then some v else gW ((T.wy.set n (pW (T.wy.getD n []) c v)).getD m []) d)=_;by_cases a:m=n
     ·subst a;rw[Zp (λz=>ne m z.2.2.1 rfl),fW _ _ _ _ _ _ r];by_cases hd:d=c
      ·rw[Zq ⟨rfl,hd⟩,Zq ⟨hd,f,ZA _,w⟩]
      ·rw[Zp (λz=>hd z.2),Zp (λz=>hd z.1)]
     ·have E:∀d,gW ((T.wy.set n (pW (T.wy.getD n []) c v)).getD m []) d=gW (T.wy.getD m []) d:=λd=>by rw[fW _ _ _ _ _ _ r,Zp (λz=>a z.1)]
      rw[E,E];by_cases i:d=c/\m<wd.length/\W wd m <:+ W wd n/\gW (T.wy.getD m []) c=none
      ·rw[Zq i,Zq ⟨i.1,i.2.1,H.below f o j i.2.1 i.2.2.1 a,i.2.2.2⟩]
      ·rw[Zp i,Zp λz=>i ⟨z.1,z.2.1,z.2.2.1.trans A,z.2.2.2⟩]
    ·by_cases u:m=n
     ·rw[u];exact w
     ·have hb:=H.below f o j a b u;rw[← old m hb];exact U Q m a hb
    ·obtain⟨M,C,L,J⟩:=R p t;have F:(gW ((T.wy.set n (pW (T.wy.getD n []) c v)).getD p []) c).isSome:=L;rw[old p C]at F;refine⟨M,C.trans A,F,λm a b Y=>?_⟩;by_cases u:m=n
     ·rw[u];exact w
     ·have hb:=H.below f o j a b u;rw[← old m hb];exact J m a hb Y
end
def CQ{c b v:Nat}(g:97<=c/\c<=122):∀(k:Nat)(S a:St)(o:Option Nat),WF S->v<S.lg.length->LZ c b v k S o=some a->WF a:=by
 intro k
 induction k with
 |zero =>
  intro S a o H d e;cases o with
  |none=>cases (show some S=some a from e);exact H
  |some n=>cases e
 |succ k f =>
  intro S a o H d e;cases o with
  |none=>cases (show some S=some a from e);exact H
  |some n =>
   unfold LZ at e;split at e
   ·exact f ⟨S.lg,S.lk,S.wy.set n (pW (S.wy.getD n []) c v)⟩ a _ (H.way (n:=n) d g) d e
   ·cases e;exact H
def C9{c v:Nat}(g:97<=c/\c<=122):∀(k:Nat)(S a:St)(o b:Option Nat),WF S->v<S.lg.length->up1 c v k S o=some (a,b)->WF a:=by
 intro k
 induction k with
 |zero =>
  intro S a o b H d e;cases o with
  |none=>cases (show some (S,none)=some (a,b) from e);exact H
  |some n=>cases e
 |succ k f =>
  intro S a o b H d e;cases o with
  |none=>cases (show some (S,none)=some (a,b) from e);exact H
  |some n =>
   unfold up1 at e;split at e
   ·cases e;exact H
   ·exact f ⟨S.lg,S.lk,S.wy.set n (pW (S.wy.getD n []) c v)⟩ a _ b (H.way (n:=n) d g) d e
def iW{α:Type}{x y:List α}{a b:α}(h:x++[a] <:+ y++[b]):a=b/\x <:+ y:=by
 obtain⟨t,e⟩:=h;rw[← ZM]at e;obtain⟨e1,e2⟩:=List.append_inj' e rfl;exact⟨by simpa using e2,⟨t,e1⟩⟩
def hJ{α:Type}{x y:List α}(a:α)(h:x <:+ y):x++[a] <:+ y++[a]:=by
 obtain⟨t,e⟩:=h;exact⟨t,by rw[← e,ZM]⟩
noncomputable def iJ(b:Wd->Option Nat)(a l h:Nat)(x:Wd):Option Nat:=if b x=some a/\x.length<=l then some h else b x
theorem I.split{L:Option Nat}{S:St}{j:Wd->Option Nat}{a:List Wd}(H:I L S j a){n c old:Nat}(G:n<a.length)(hf:some n≠L)(hc:97<=c/\c<=122)(ho:gW (S.wy.getD n []) c=some old)(MS:some old≠L)(Mh:L≠some a.length)(HX:S.lg.getD old 0≠S.lg.getD n 0+1)(hk:(W a n).length<1000) :
  ∃S',LC S n c=some (S',S.lg.length)/\I L S' (iJ j old ((W a n).length+1) a.length) (a++[W a n++[c]]):=by
 have J:S.lg.length=a.length:=H.len.symm;have hw:=H.way G ho;have hold:=H.lt hw;have u:=H.sf hw;have lw:(W a n++[c]).length=(W a n).length+1:=by rw[Zs];rfl
 rw[H.lg old hold,H.lg n G]at HX;have Y:(W a n).length+1<(W a old).length:=by
  have:=u.length_le;rw[lw]at this;omega
 have P:old≠0:=λe=>by
  rw[e,H.wz]at Y;simp at Y
 have RV:0<a.length:=by rw[H.len];exact H.wf.pos
 have l1:S.lk.length=a.length:=by rw[H.wf.lk,J]
 have l2:S.wy.length=a.length:=by rw[H.wf.wy,J]
 have U:∀m,((S.lk++[S.lk.getD old none]).set old (some S.lg.length)).getD m none=if m=old then some a.length else if m=a.length then S.lk.getD old none else S.lk.getD m none:=λm=>by
  rw[g8,bX,l1,J];by_cases h:m=old
  ·rw[Zq ⟨h.symm,by rw[Zs,l1];omega⟩,Zq h]
  ·rw[Zp (λz=>h z.1.symm),Zp h]
 have Jd:∀m,(S.wy++[S.wy.getD old []]).getD m []=if m=a.length then S.wy.getD old [] else S.wy.getD m []:=λm=>by rw[bX,l2]
 have X:∀m,m<a.length->(S.wy++[S.wy.getD old []]).getD m []=S.wy.getD m []:=λm b=>by rw[Jd,Zp (Zb b)]
 obtain⟨Z,e1,e2,e3⟩:=H.M8 (c:=c) (old:=old) (v:=S.lg.length) 1000 ⟨S.lg++[S.lg.getD n 0+1],(S.lk++[S.lk.getD old none]).set old (some S.lg.length),S.wy++[S.wy.getD old []]⟩ n G hf hk (λm b Q=>by
   have:=Q.length_le;show ((S.lk++[S.lk.getD old none]).set old (some S.lg.length)).getD m none=_;rw[U,Zp (λe=>by rw[e]at this;omega),Zp (Zb b)])
  (by show _<=(S.wy++[S.wy.getD old []]).length;rw[Zs,l2];omega)
  (λm t b D Q HW h=>by
   have C:gW ((S.wy++[S.wy.getD old []]).getD m []) c=some old:=h;show gW ((S.wy++[S.wy.getD old []]).getD t []) c=some old;rw[X m b]at C;rw[X t D,H.wy (H.top D) c];rw[H.wy (H.top b) c]at C;exact H.iv C (hJ c Q) ((hJ c HW).trans u))
 have wn:=H.wf.NH old;have W1:=H.wf.more (l:=S.lg.getD n 0+1) (o:=S.lk.getD old none) (w:=S.wy.getD old []) (λm b=>H.wf.up old m b) (λd m b=>H.wf.on old d m b) wn.1 wn.2;have hlen:(S.lg++[S.lg.getD n 0+1]).length=S.lg.length+1:=by rw[Zs];rfl
 have W2:=W1.link (n:=old) (v:=S.lg.length) (by show S.lg.length<(S.lg++[S.lg.getD n 0+1]).length;omega);have Qr:=CQ hc 1000 _ _ _ W2 (by show S.lg.length<(S.lg++[S.lg.getD n 0+1]).length;omega) e1;refine⟨⟨S.lg++[S.lg.getD n 0+1],(S.lk++[S.lk.getD old none]).set old (some S.lg.length),Z⟩,?_,?_⟩
 ·unfold LC;rw[ho,Zr,Zp (by rw[H.lg old hold,H.lg n G];exact HX),e1];rfl
 have Wn:∀m,W (a++[W a n++[c]]) m=if m=a.length then W a n++[c] else W a m:=λm=>bX a _ _ m
 have s:W (a++[W a n++[c]]) a.length=W a n++[c]:=by rw[Wn,Zq rfl]
 have f:∀{m},m<a.length->W (a++[W a n++[c]]) m=W a m:=λ{m} b=>by rw[Wn,Zp (Zb b)]
 have ed:(a++[W a n++[c]]).length=a.length+1:=by rw[Zs];rfl
 have tell:∀{x m},iJ j old ((W a n).length+1) a.length x=some m->(m=a.length/\j x=some old/\x.length<=(W a n).length+1)\/(m<a.length/\j x=some m/\¬(m=old/\x.length<=(W a n).length+1)):=λ{x m} h=>by
  unfold iJ at h;split at h
  ·rename_i q;cases h;exact .inl ⟨rfl,q.1,q.2⟩
  ·rename_i q;exact .inr ⟨H.lt h,h,λz=>q ⟨by rw[h,z.1],z.2⟩⟩
 have N:∀{x},j x=some old->x.length<=(W a n).length+1->iJ j old ((W a n).length+1) a.length x=some a.length:=λ{x} B R=>Zq ⟨B,R⟩;have tO:∀{x m},j x=some m->¬(m=old/\x.length<=(W a n).length+1)->iJ j old ((W a n).length+1) a.length x=some m:=λ{x m} B R=>by
  unfold iJ;rw[Zp (λz=>R ⟨by rw[B]at z;exact Zm z.1,z.2⟩),B]
 have L4:∀{x m},j x=some m->∃t,iJ j old ((W a n).length+1) a.length x=some t:=λ{x m} h=>by
  unfold iJ;split
  ·exact⟨_,rfl⟩
  ·exact⟨m,h⟩
 have un:∀{x m},iJ j old ((W a n).length+1) a.length x=some m->∃t,j x=some t:=λ{x m} h=>(tell h).elim (λz=>⟨_,z.2.1⟩) λz=>⟨_,z.2.1⟩
 refine⟨Qr,by rw[ed,hlen,J],λm b=>?_,tO H.z (λz=>P z.1.symm),by rw[f RV];exact H.wz,λ{x m} h=>by rcases tell h with z | z<;>omega,λ{x m} h=>?_,λ{m} b=>?_,λ{x y m} h M g=>?_,λ{x d m} h=>?_,λ{x y m} h M=>?_,?_,λ{m} h0 b Rv=>?_,λ{x m} h d=>?_⟩
 ·rw[ed]at b;show (S.lg++[S.lg.getD n 0+1]).getD m 0=_;rw[bX,J];by_cases e:m=a.length
  ·rw[Zq e,e,s,H.lg n G,lw]
  ·rw[Zp e,f (by omega),H.lg m (by omega)]
 ·rcases tell h with⟨rfl,i,E⟩ | ⟨F,i,_⟩
  ·rw[s];exact cn (H.sf i) u (by rw[lw];exact E)
  ·rw[f F];exact H.sf i
 ·rw[ed]at b;by_cases e:m=a.length
  ·rw[e,s];exact N hw (by rw[lw];exact Zh _)
  ·rw[f (by omega)];exact tO (H.top (by omega)) (λz=>by have:=z.2;rw[z.1]at this;omega)
 ·rcases tell h with⟨rfl,i,E⟩ | ⟨F,i,E⟩
  ·rw[s]at g;have:=g.length_le;rw[lw]at this;exact N (H.iv i M (g.trans u)) this
  ·rw[f F]at g;exact tO (H.iv i M g) (λz=>E ⟨z.1,ZI M.length_le z.2⟩)
 ·obtain⟨t,C⟩:=un h;obtain⟨q,p⟩:=H.pre C;exact L4 p
 ·obtain⟨t,C⟩:=un h;obtain⟨q,p⟩:=H.Lx C M;exact L4 p
 ·show ((S.lk++[S.lk.getD old none]).set old (some S.lg.length)).getD 0 none=none;rw[U,Zp (Yq P),Zp (by omega)];exact H.LH
 ·rw[ed]at b;show ∃q,((S.lk++[S.lk.getD old none]).set old (some S.lg.length)).getD m none=some q/\_;rw[U,ed];obtain⟨q,q1,⟨O,Qz⟩,q3,q4,q5⟩:=H.lk (Ym P) hold MS;obtain⟨lo,_⟩:=H.low MS q1 hw;rw[lw]at lo;by_cases e:m=old
  ·subst e;rw[Zq rfl];refine⟨a.length,rfl,⟨by omega,λz=>Mh z.symm⟩,?_,?_,λy g A=>?_⟩
   ·rw[s,f hold];exact u
   ·rw[s,f hold,lw];exact Y
   ·rw[s,lw]at A;rw[f hold]at g;exact tO (H.iv hw (cn u g (by rw[lw];omega)) g) (λz=>by have:=z.2;omega)
  ·rw[Zp e];by_cases eL:m=a.length
   ·subst eL;rw[Zq rfl,q1];refine⟨q,rfl,⟨by omega,Qz⟩,?_,?_,λy g A=>?_⟩
    ·rw[s,f O];exact cn q3 u (by rw[lw];omega)
    ·rw[s,f O,lw];exact lo
    ·rw[s]at g;rw[f O]at A;have:=g.length_le;rw[lw]at this;exact N (q5 y (g.trans u) A) this
   ·rw[Zp eL];have D:m<a.length:=by omega
    obtain⟨r,r1,⟨r2,U8⟩,r3,r4,r5⟩:=H.lk h0 D Rv;rw[r1];refine⟨r,rfl,⟨by omega,U8⟩,by rw[f r2,f D];exact r3,by rw[f r2,f D];exact r4,λy g A=>?_⟩;rw[f D]at g;rw[f r2]at A;exact tO (r5 y g A) (λz=>e z.1)
 ·show gW (Z.getD m []) d=_;rw[e3 m d];show (if d=c/\m<a.length/\W a m <:+ W a n/\gW ((S.wy++[S.wy.getD old []]).getD m []) c=some old then some S.lg.length else gW ((S.wy++[S.wy.getD old []]).getD m []) d)=_;rcases tell h with⟨rfl,i,E⟩ | ⟨F,i,E⟩
  ·rw[Zp (λz=>Ya _ z.2.1),Jd,Zq rfl,H.wy i d];unfold iJ;rw[Zp];intro z;have B:=z.1;rw[← H.wy i d,H.wy (H.top hold) d]at B;have:=(H.sf B).length_le;rw[Zs,ZL]at this;omega
  ·rw[X m F,H.wy i c,H.wy i d];unfold iJ;by_cases p:j (x++[d])=some old/\(x++[d]).length<=(W a n).length+1
   ·have IT:=cn (H.sf p.1) u (by rw[lw];exact p.2);obtain⟨rfl,hx⟩:=iW IT;obtain⟨t,m1,m2⟩:=H.Pd G hf hx;rw[i]at m1;cases m1;rw[Zq ⟨rfl,F,m2,p.1⟩,Zq p,J]
   ·rw[Zp p,Zp];rintro⟨rfl,_,a3,a4⟩;refine p ⟨a4,?_⟩;have b1:=(H.sf i).length_le;have b2:=a3.length_le;rw[Zs,ZL];omega
end AU
end
section
namespace AU
open Classical in
noncomputable def iG(a:Wd->Option Nat)(w:Wd)(f:Nat)(x:Wd):Option Nat:=match a x with
 |some m=>some m
 |none=>if x <:+ w then some f else none
def dv{a:Wd->Option Nat}{w:Wd}{f m:Nat}{x:Wd}(h:a x=some m):iG a w f x=some m:=by
 unfold iG;rw[h]
def gy{a:Wd->Option Nat}{w:Wd}{f:Nat}{x:Wd}(h:a x=none)(b:x <:+ w):iG a w f x=some f:=by
 unfold iG;rw[h];exact Zq b
def cH{a:Wd->Option Nat}{w:Wd}{f m:Nat}{x:Wd}(h:iG a w f x=some m):a x=some m\/(m=f/\a x=none/\x <:+ w):=by
 unfold iG at h;split at h
 ·rename_i q e;cases h;exact .inl e
 ·rename_i e;split at h
  ·rename_i b;cases h;exact .inr ⟨rfl,e,b⟩
  ·cases h
def yB{α:Type}{y t:List α}{c:α}(h:y <:+ t++[c])(d:y≠[]):∃a,y=a++[c]/\a <:+ t:=by
 rcases List.eq_nil_or_concat y with e | ⟨a,b,e⟩
 ·exact absurd e d
 ·rw[List.concat_eq_append]at e;subst e;obtain⟨e1,e2⟩:=iW h;exact⟨a,by rw[e1],e2⟩
section
variable{S:St}{nd:Wd->Option Nat}{wd:List Wd}
def I.fresh(H:I none S nd wd){h c:Nat}(t:h<wd.length)(hc:97<=c/\c<=122)(hn:gW (S.wy.getD h []) c=none)(hk:(W wd h).length<1000) :
  ∃C u,up1 c S.lg.length 1000 ⟨S.lg++[S.lg.getD h 0+1],S.lk++[some 0],S.wy++[[]]⟩ (some h)=some (C,u)/\I (some wd.length) C (iG nd (W wd h++[c]) wd.length) (wd++[W wd h++[c]])/\C.lk.getD wd.length none=some 0/\C.lg.length=S.lg.length+1 ∧
   (∀m,m<wd.length->(gW (S.wy.getD m []) c).isSome->gW (C.wy.getD m []) c=gW (S.wy.getD m []) c) ∧
   (u=none->∀m,m<wd.length->W wd m <:+ W wd h->gW (S.wy.getD m []) c=none) ∧
   ∀p,u=some p->p<wd.length/\W wd p <:+ W wd h/\(gW (S.wy.getD p []) c).isSome/\∀m,m<wd.length->W wd m <:+ W wd h->(W wd p).length<(W wd m).length->gW (S.wy.getD m []) c=none:=by
 have B:S.lg.length=wd.length:=H.len.symm;have l1:S.lk.length=wd.length:=by rw[H.wf.lk,B]
 have X:S.wy.length=wd.length:=by rw[H.wf.wy,B]
 have RV:0<wd.length:=by rw[H.len];exact H.wf.pos
 have L:∀m,(S.lk++[some 0]).getD m none=if m=wd.length then some 0 else S.lk.getD m none:=λm=>by rw[bX,l1]
 have Jd:∀m,(S.wy++[[]]).getD m []=if m=wd.length then [] else S.wy.getD m []:=λm=>by rw[bX,X]
 have s:∀m,m<wd.length->(S.wy++[[]]).getD m []=S.wy.getD m []:=λm b=>by rw[Jd,Zp (Zb b)]
 have nt:nd (W wd h++[c])=none:=by rw[← H.wy (H.top t) c];exact hn
 obtain⟨M,u,e1,e2,Y,e4,e5⟩:=H.M9 (c:=c) (v:=S.lg.length) 1000 ⟨S.lg++[S.lg.getD h 0+1],S.lk++[some 0],S.wy++[[]]⟩ h t (λz=>nomatch z) hk (λm b _=>by
   show (S.lk++[some 0]).getD m none=_;rw[L,Zp (Zb b)])
  (by show _<=(S.wy++[[]]).length;rw[Zs,X];omega)
  (λm N b j g HW q=>by
   have Q:(gW ((S.wy++[[]]).getD N []) c).isSome:=q;show (gW ((S.wy++[[]]).getD m []) c).isSome;rw[s N j,H.wy (H.top j) c]at Q;rw[s m b,H.wy (H.top b) c];obtain⟨r,f⟩:=Yi.mp Q;obtain⟨P,Tu⟩:=H.Lx f (hJ c g);rw[Tu];rfl)
 have hlen:(S.lg++[S.lg.getD h 0+1]).length=S.lg.length+1:=by rw[Zs];rfl
 have W1:=H.wf.more (l:=S.lg.getD h 0+1) (o:=some 0) (w:=[]) (λm b=>by cases b;exact H.wf.pos) (λd m b=>by cases b) Yx (λp O=>nomatch O);have Qr:=C9 hc 1000 _ _ _ _ W1 (by show S.lg.length<(S.lg++[S.lg.getD h 0+1]).length;omega) e1;have lw:(W wd h++[c]).length=(W wd h).length+1:=by rw[Zs];rfl
 have Z:∀m,W (wd++[W wd h++[c]]) m=if m=wd.length then W wd h++[c] else W wd m:=λm=>bX wd _ _ m
 have J:W (wd++[W wd h++[c]]) wd.length=W wd h++[c]:=by rw[Z,Zq rfl]
 have i:∀{m},m<wd.length->W (wd++[W wd h++[c]]) m=W wd m:=λ{m} b=>by rw[Z,Zp (Zb b)]
 have ed:(wd++[W wd h++[c]]).length=wd.length+1:=by rw[Zs];rfl
 refine⟨⟨S.lg++[S.lg.getD h 0+1],S.lk++[some 0],M⟩,u,e1,?_,by show (S.lk++[some 0]).getD wd.length none=_;rw[L,Zq rfl],hlen,λm b g=>?_,λho m b g=>?_,λp O=>?_⟩
 rotate_left
 ·show gW (M.getD m []) c=_;rw[Y m c];show (if c=c/\m<wd.length/\W wd m <:+ W wd h/\gW ((S.wy++[[]]).getD m []) c=none then some S.lg.length else gW ((S.wy++[[]]).getD m []) c)=_;rw[s m b,Zp (λz=>by rw[z.2.2.2]at g;cases g)]
 ·have:=e4 ho m b g;have E:gW ((S.wy++[[]]).getD m []) c=none:=this;rw[s m b]at E;exact E
 ·obtain⟨R,p2,p3,p4⟩:=e5 p O;have NW:(gW ((S.wy++[[]]).getD p []) c).isSome:=p3;rw[s p R]at NW;refine⟨R,p2,NW,λm b g G=>?_⟩;have:=p4 m b g G;have E:gW ((S.wy++[[]]).getD m []) c=none:=this;rw[s m b]at E;exact E
 refine⟨Qr,by rw[ed];show _=(S.lg++[S.lg.getD h 0+1]).length;rw[hlen,B],λm b=>?_,dv H.z,by rw[i RV];exact H.wz,λ{x m} q=>?_,λ{x m} q=>?_,λ{m} b=>?_,λ{x y m} q D n=>?_,λ{x d m} q=>?_,λ{x y m} q D=>?_,?_,λ{m} h0 b Rv=>?_,λ{x m} q d=>?_⟩
 ·rw[ed]at b;show (S.lg++[S.lg.getD h 0+1]).getD m 0=_;rw[bX,B];by_cases e:m=wd.length
  ·rw[Zq e,e,J,H.lg h t,lw]
  ·rw[Zp e,i (by omega),H.lg m (by omega)]
 ·rw[ed];rcases cH q with z | z
  ·have:=H.lt z;omega
  ·omega
 ·rcases cH q with z | ⟨rfl,_,z⟩
  ·rw[i (H.lt z)];exact H.sf z
  ·rw[J];exact z
 ·rw[ed]at b;by_cases e:m=wd.length
  ·rw[e,J];exact gy nt (ZA _)
  ·rw[i (by omega)];exact dv (H.top (by omega))
 ·rcases cH q with z | ⟨rfl,F,z2⟩
  ·rw[i (H.lt z)]at n;exact dv (H.iv z D n)
  ·rw[J]at n;refine gy ?_ n;cases e:nd y with
   |none=>rfl
   |some r =>
    obtain⟨P,f⟩:=H.Lx e D;rw[F]at f;cases f
 ·rcases cH q with z | ⟨_,_,z⟩
  ·obtain⟨r,f⟩:=H.pre z;exact⟨r,dv f⟩
  ·obtain⟨_,A⟩:=iW z;obtain⟨r,f⟩:=H.Lx (H.top t) A;exact⟨r,dv f⟩
 ·rcases cH q with z | ⟨_,_,z⟩
  ·obtain⟨r,f⟩:=H.Lx z D;exact⟨r,dv f⟩
  ·cases e:nd x with
   |none=>exact⟨_,gy e (D.trans z)⟩
   |some r=>exact⟨r,dv e⟩
 ·show (S.lk++[some 0]).getD 0 none=none;rw[L,Zp (by omega)];exact H.LH
 ·rw[ed]at b;have j:m<wd.length:=by
   have:m≠wd.length:=λe=>Rv (by rw[e]);omega
  show ∃q,(S.lk++[some 0]).getD m none=some q/\_;rw[L,Zp (Zb j),ed];obtain⟨r,r1,⟨r2,_⟩,r3,r4,r5⟩:=H.lk h0 j (λz=>nomatch z);refine⟨r,r1,⟨by omega,λz=>?_⟩,by rw[i r2,i j];exact r3,by rw[i r2,i j];exact r4,λy n G=>?_⟩
  ·have:=Zm z;omega
  ·rw[i j]at n;rw[i r2]at G;exact dv (r5 y n G)
 ·show gW (M.getD m []) d=_;rw[Y m d];show (if d=c/\m<wd.length/\W wd m <:+ W wd h/\gW ((S.wy++[[]]).getD m []) c=none then some S.lg.length else gW ((S.wy++[[]]).getD m []) d)=_;rcases cH q with z | ⟨rfl,F,z2⟩
  ·have b:=H.lt z;rw[s m b,H.wy z c,H.wy z d];cases e:nd (x++[d]) with
   |some r =>
    rw[dv e,Zp];rintro⟨rfl,_,_,a⟩;rw[e]at a;cases a
   |none =>
    by_cases g:x++[d] <:+ W wd h++[c]
    ·obtain⟨rfl,A⟩:=iW g;obtain⟨N,U,m2⟩:=H.Pd t (λz=>nomatch z) A;rw[z]at U;cases U;rw[gy e g,Zq ⟨rfl,b,m2,e⟩,B]
    ·have:iG nd (W wd h++[c]) wd.length (x++[d])=none:=by
      unfold iG;rw[e];exact Zp g
     rw[this,Zp];rintro⟨rfl,_,a,_⟩;exact g (hJ d ((H.sf z).trans a))
  ·rw[Zp (λa=>Ya _ a.2.1),Jd,Zq rfl];have e:nd (x++[d])=none:=by
    cases e:nd (x++[d]) with
    |none=>rfl
    |some r =>
     obtain⟨P,f⟩:=H.pre e;rw[F]at f;cases f
   have:iG nd (W wd h++[c]) wd.length (x++[d])=none:=by
    unfold iG;rw[e];refine Zp λg=>?_;obtain⟨_,A⟩:=iW g;obtain⟨r,f⟩:=H.Lx (H.top t) A;rw[F]at f;cases f
   rw[this];rfl
def I.fix{f m:Nat}(H:I (some f) S nd wd)(j:f<wd.length)(b:m<wd.length)(h:W wd m <:+ W wd f)(a:(W wd m).length<(W wd f).length)(g:∀y,y <:+ W wd f->(W wd m).length<y.length->nd y=some f):I none ⟨S.lg,S.lk.set f (some m),S.wy⟩ nd wd:=by
 have o:f≠0:=λe=>by
  rw[e,H.wz]at a;simp at a
 have lf:f<S.lk.length:=by rw[H.wf.lk,← H.len];exact j
 refine⟨H.wf.link (by rw[← H.len];exact b),H.len,H.lg,H.z,H.wz,H.lt,H.sf,H.top,H.iv,H.pre,H.Lx,?_,λ{n} l i _=>?_,H.wy⟩
 ·show (S.lk.set f (some m)).getD 0 none=none;rw[g8,Zp (λz=>o z.1)];exact H.LH
 ·show ∃q,(S.lk.set f (some m)).getD n none=some q/\_;rw[g8];by_cases e:f=n
  ·subst e;rw[Zq ⟨rfl,lf⟩];exact⟨m,rfl,⟨b,λz=>nomatch z⟩,h,a,g⟩
  ·rw[Zp (λz=>e z.1)];obtain⟨r,r1,⟨r2,_⟩,d⟩:=H.lk l i (λz=>e (Zm z).symm);exact⟨r,r1,⟨r2,λz=>nomatch z⟩,d⟩
end
end AU
end
section
namespace AU
structure O8(nd Hn:Wd->Option Nat)(w:Wd):Prop where
 eq:∀{x y m n},Hn x=some m->Hn y=some n->(m=n↔nd x=nd y/\(x <:+ w↔y <:+ w))
section
variable{fr:Option Nat}{S:St}{nd:Wd->Option Nat}{wd:List Wd}
def I.N7(H:I fr S nd wd){n c old:Nat}(p:n<wd.length)(M:some n≠fr)(N:97<=c/\c<=122)(o:gW (S.wy.getD n []) c=some old)(i:some old≠fr)(g:fr≠some wd.length)(L:(W wd n).length<1000) :
  ∃e r j Ha,LC S n c=some (e,r)/\I fr e j Ha/\r<Ha.length/\some r≠fr/\W Ha r=W wd n++[c]/\(∀m,m<wd.length->W Ha m=W wd m)/\wd.length<=Ha.length/\Ha.length<=wd.length+1 ∧
   (∀x,(∃m,j x=some m) ↔ ∃m,nd x=some m)/\O8 nd j (W wd n++[c])/\∀x f,f≠old->nd x=some f->j x=some f:=by
 have hw:=H.way p o;have hold:=H.lt hw;have D:=H.sf hw;have lw:(W wd n++[c]).length=(W wd n).length+1:=by rw[Zs];rfl
 by_cases t:S.lg.getD old 0=S.lg.getD n 0+1
 ·have s:W wd old=W wd n++[c]:=by
   have:=t;rw[H.lg old hold,H.lg n p]at this;exact(D.eq_of_length (by rw[lw,this])).symm
  refine⟨S,old,nd,wd,?_,H,hold,i,s,λm _=>rfl,Zh _,XH _,λx=>Iff.rfl,⟨λ{x y m k} b a=>?_⟩,λx f _ h=>h⟩
  ·unfold LC;rw[o,Zr,Zq t]
  ·constructor
   ·rintro rfl;exact⟨by rw[b,a],λh=>by rw[← s]at h ⊢;exact H.all hold i b a h,λh=>by rw[← s]at h ⊢;exact H.all hold i a b h⟩
   ·rintro⟨h,_⟩;rw[b,a]at h;exact Zm h
 ·obtain⟨e,e1,u⟩:=H.split p M N o i g t L;have B:W (wd++[W wd n++[c]]) wd.length=W wd n++[c]:=(bX wd _ _ _).trans (Zq rfl);have O:∀m,m<wd.length->W (wd++[W wd n++[c]]) m=W wd m:=λm G=>(bX wd _ _ m).trans (Zp (Zb G));have ed:(wd++[W wd n++[c]]).length=wd.length+1:=by rw[Zs];rfl
  have inv:∀{x m},iJ nd old ((W wd n).length+1) wd.length x=some m->(m=wd.length/\nd x=some old/\x.length<=(W wd n).length+1)\/nd x=some m:=λ{x m} h=>by
   unfold iJ at h;split at h
   ·rename_i q;cases h;exact .inl ⟨rfl,q.1,q.2⟩
   ·exact .inr h
  have C:∀{x},nd x=some old->(x.length<=(W wd n).length+1↔x <:+ W wd n++[c]):=λ{x} h=>⟨λJ=>cn (H.sf h) D (by rw[lw];exact J),λd=>by have:=d.length_le;rw[lw]at this;exact this⟩
  refine⟨e,S.lg.length,_,_,e1,u,by rw[ed,← H.len];exact YZ _,by rw[← H.len];exact λz=>g z.symm,by rw[← H.len];exact B,O,by omega,by omega,λx=>⟨λ⟨m,h⟩=>(inv h).elim (λz=>⟨_,z.2.1⟩) λz=>⟨_,z⟩,λ⟨m,h⟩=>?_⟩,⟨λ{x y m k} b a=>?_⟩,λx f P h=>?_⟩
  ·unfold iJ;split
   ·exact⟨_,rfl⟩
   ·exact⟨m,h⟩
  ·constructor
   ·rintro rfl;have v:wd.length<(wd++[W wd n++[c]]).length:=by omega
    have A:=λh=>u.all v (λz=>g z.symm) b a h;have w:=λh=>u.all v (λz=>g z.symm) a b h;rw[B]at A w;refine⟨?_,A,w⟩;rcases inv b with⟨Q,E,_⟩ | z
    ·rcases inv a with⟨_,F,_⟩ | y
     ·rw[E,F]
     ·have:=H.lt y;omega
    ·rcases inv a with⟨R,_,_⟩ | y
     ·have:=H.lt z;omega
     ·rw[z,y]
   ·rintro⟨h,d⟩;have:iJ nd old ((W wd n).length+1) wd.length x=iJ nd old ((W wd n).length+1) wd.length y:=by
     unfold iJ;rw[h];by_cases q:nd y=some old
     ·have e1:=C (show nd x=some old by rw[h,q]);have e2:=C q;by_cases l:y.length<=(W wd n).length+1
      ·rw[Zq ⟨q,e1.mpr (d.mpr (e2.mp l))⟩,Zq ⟨q,l⟩]
      ·rw[Zp (λz=>l (e2.mpr (d.mp (e1.mp z.2)))),Zp (λz=>l z.2)]
     ·rw[Zp (λz=>q z.1),Zp (λz=>q z.1)]
    rw[b,a]at this;exact Zm this
  ·unfold iJ;rw[Zp (λz=>P (by rw[h]at z;exact Zm z.1))];exact h
end
section
variable{S:St}{nd:Wd->Option Nat}{wd:List Wd}
def I.step(H:I none S nd wd){h c:Nat}(A:h<wd.length)(hc:97<=c/\c<=122)(hk:(W wd h).length+1<1000) :
  ∃R r u Ha,hb S h c=some (R,r)/\I none R u Ha/\r<Ha.length/\W Ha r=W wd h++[c]/\(∀m,m<wd.length->W Ha m=W wd m)/\wd.length<=Ha.length/\Ha.length<=wd.length+2 ∧
   (∀x,(∃m,u x=some m)↔(∃m,nd x=some m)\/x <:+ W wd h++[c])/\O8 nd u (W wd h++[c]):=by
 cases hg:gW (S.wy.getD h []) c with
 |some old =>
  obtain⟨R,r,u,Ha,e,H',h1,_,h2,h3,h4,h5,h6,h7,_⟩:=H.N7 A (λz=>nomatch z) hc hg (λz=>nomatch z) (λz=>nomatch z) (by omega);refine⟨R,r,u,Ha,?_,H',h1,h2,h3,h4,by omega,λx=>(h6 x).trans ⟨.inl,λz=>z.elim id λz=>H.Lx (H.way A hg) z⟩,h7⟩;unfold hb;rw[hg];exact e
 |none =>
  have F:S.lg.length=wd.length:=H.len.symm;obtain⟨o,o',e1,v,k0,k1,k2,k3,k4⟩:=H.fresh A hc hg (by omega);have Q:W (wd++[W wd h++[c]]) wd.length=W wd h++[c]:=(bX wd _ _ _).trans (Zq rfl);have P:∀m,m<wd.length->W (wd++[W wd h++[c]]) m=W wd m:=λm hm=>(bX wd _ _ m).trans (Zp (Zb hm));have ed:(wd++[W wd h++[c]]).length=wd.length+1:=by rw[Zs];rfl
  have lw:(W wd h++[c]).length=(W wd h).length+1:=by rw[Zs];rfl
  have nt:nd (W wd h++[c])=none:=by rw[← H.wy (H.top A) c];exact hg
  have ex:∀x,(∃m,iG nd (W wd h++[c]) wd.length x=some m)↔(∃m,nd x=some m)\/x <:+ W wd h++[c]:=λx=>⟨λ⟨m,q⟩=>(cH q).elim (λz=>.inl ⟨_,z⟩) λz=>.inr z.2.2,λq=>by
   cases e:nd x with
   |some m=>exact⟨m,dv e⟩
   |none=>exact q.elim (λ⟨m,z⟩=>by rw[e]at z;cases z) λz=>⟨_,gy e z⟩⟩
  have same:∀{x y m n},iG nd (W wd h++[c]) wd.length x=some m->iG nd (W wd h++[c]) wd.length y=some n->(m=n↔nd x=nd y):=λ{x y m n} s j=>by
   rcases cH s with z | ⟨z1,z2,_⟩
   ·rcases cH j with i | ⟨y1,Y,_⟩
    ·rw[z,i];exact⟨λe=>by rw[e],λe=>Zm e⟩
    ·have:=H.lt z;refine⟨λe=>by omega,λe=>?_⟩;rw[z,Y]at e;cases e
   ·rcases cH j with i | ⟨y1,Y,_⟩
    ·have:=H.lt i;refine⟨λe=>by omega,λe=>?_⟩;rw[z2,i]at e;cases e
    ·exact⟨λ_=>by rw[z2,Y],λ_=>by rw[z1,y1]⟩
  have L0:∀{y},y <:+ W wd h++[c]->y≠[]->∀{q},nd y=some q->∃i m,y=i++[c]/\i <:+ W wd h/\nd i=some m/\m<wd.length/\W wd m <:+ W wd h/\(gW (S.wy.getD m []) c).isSome:=λ{y} d HX {q} M=>by
   obtain⟨i,rfl,MN⟩:=yB d HX;obtain⟨m,D,m2⟩:=H.Pd A (λz=>nomatch z) MN;exact⟨i,m,rfl,MN,D,H.lt D,m2,by rw[H.wy D c,M];rfl⟩
  unfold hb;rw[hg,Zp (by simp),e1];cases o' with
  |none =>
   have w:=k3 rfl;have none_:∀{y},y <:+ W wd h++[c]->y≠[]->nd y=none:=λ{y} d HX=>by
    cases e:nd y with
    |none=>rfl
    |some q =>
     obtain⟨i,m,_,_,_,m3,m4,C⟩:=L0 d HX e;rw[w m m3 m4]at C;cases C
   have X:=v.fix (f:=wd.length) (m:=0) (by omega) (by omega) (by rw[v.wz];exact XE) (by rw[v.wz,Q,lw];exact Nat.succ_pos _) (λy d g=>by
    rw[Q]at d;rw[v.wz]at g;exact gy (none_ d (λe=>by rw[e]at g;cases g)) d)
   have eS:(⟨o.lg,o.lk.set wd.length (some 0),o.wy⟩:St)=o:=by
    have g:wd.length<o.lk.length:=by rw[v.wf.lk,← v.len,ed];exact YZ _
    have:o.lk.set wd.length (some 0)=o.lk:=by
     rw[Zv,Zt g,Y4]at k0;rw[← k0];exact Wx g
    rw[this]
   rw[eS]at X;refine⟨o,S.lg.length,_,_,rfl,X,by rw[ed,F];exact YZ _,by rw[F];exact Q,P,by omega,by omega,ex,⟨λ{x y m n} s j=>?_⟩⟩;rw[same s j];refine⟨λe=>⟨e,?_⟩,λe=>e.1⟩;have key:∀{x y m n},iG nd (W wd h++[c]) wd.length x=some m->iG nd (W wd h++[c]) wd.length y=some n->nd x=nd y->x <:+ W wd h++[c]->y <:+ W wd h++[c]:=λ{x y m n} s j e hx=>by
    rcases cH j with z | z
    ·rw[z]at e;by_cases Tr:x=[]
     ·subst Tr;rw[H.z]at e;cases e;rw[H.zero z];exact XE
     ·rw[none_ hx Tr]at e;cases e
    ·exact z.2.2
   exact⟨key s j e,key j s e.symm⟩
  |some p =>
   obtain⟨B,L,p3,p4⟩:=k4 p rfl;obtain⟨old,N⟩:=Yi.mp p3;have VQ:gW (o.wy.getD p []) c=some old:=by rw[k2 p B p3];exact N
   have Tf:=H.way B N;have hold:=H.lt Tf;have ph:(W wd p).length<(W wd h).length:=by
    rcases Nat.lt_or_eq_of_le L.length_le with l | l
    ·exact l
    ·have:=H.inj B A (L.eq_of_length l);rw[this,hg]at N;cases N
   obtain⟨S3,r,u,Ha,f1,X,f2,f2',O,f4,f5,f6,f7,f8,f9⟩:=v.N7 (n:=p) (c:=c) (old:=old) (by omega) (λz=>by have:=Zm z;omega) hc VQ (λz=>by have:=Zm z;omega) (λz=>by have:=Zm z;omega) (by rw[P p B];omega);rw[P p B]at O f8;have QR:(W wd p++[c]).length=(W wd p).length+1:=by rw[Zs];rfl
   have U:W Ha wd.length=W wd h++[c]:=by rw[f4 _ (by omega),Q]
   have none_:∀{y},y <:+ W wd h++[c]->(W wd p).length+1<y.length->nd y=none:=λ{y} d g=>by
    cases e:nd y with
    |none=>rfl
    |some q =>
     obtain⟨i,m,rfl,D,m2,m3,m4,C⟩:=L0 d (λe=>by rw[e]at g;cases g) e;have l1:=(H.sf m2).length_le;rw[Zs,ZL]at g;rw[p4 m m3 m4 (by omega)]at C;cases C
   have H4:=X.fix (f:=wd.length) (m:=r) (by omega) f2 (by rw[O,U];exact hJ c L) (by rw[O,U,QR,lw];omega) (λy d g=>by
    rw[U]at d;rw[O,QR]at g;exact f9 y wd.length (by omega) (gy (none_ d g) d))
   refine⟨⟨S3.lg,S3.lk.set S.lg.length (some r),S3.wy⟩,S.lg.length,u,Ha,?_,by rw[F];exact H4,by rw[F];omega,by rw[F];exact U,λm hm=>by rw[f4 m (by omega),P m hm],by omega,by omega,λx=>(f7 x).trans (ex x),⟨λ{x y m n} s j=>?_⟩⟩
   ·show (LC o p c).map _=_;rw[f1];rfl
   ·rw[f8.eq s j];obtain⟨D,J⟩:=(f7 x).mp ⟨m,s⟩;obtain⟨n1,G⟩:=(f7 y).mp ⟨n,j⟩;have e1:iG nd (W wd h++[c]) wd.length x=iG nd (W wd h++[c]) wd.length y↔nd x=nd y:=by
     rw[J,G];exact⟨λe=>(same J G).mp (Zm e),λe=>by rw[(same J G).mpr e]⟩
    rw[e1];have sw:W wd p++[c] <:+ W wd h++[c]:=hJ c L;have w:∀{z q},nd z=some q->(z <:+ W wd h++[c]↔z <:+ W wd p++[c]):=λ{z q} E=>⟨λa=>cn a sw (by
     rw[QR];refine ZE λb=>?_;rw[none_ a b]at E;cases E),λa=>a.trans sw⟩
    have un:∀{z q},nd z=none->iG nd (W wd h++[c]) wd.length z=some q->z <:+ W wd h++[c]/\¬z <:+ W wd p++[c]:=λ{z q} E a=>by
     rcases cH a with b | b
     ·rw[E]at b;cases b
     ·refine⟨b.2.2,λa=>?_⟩;obtain⟨q',M⟩:=H.Lx Tf a;rw[E]at M;cases M
    refine⟨λ⟨a,b⟩=>⟨a,?_⟩,λ⟨a,b⟩=>⟨a,?_⟩⟩
    ·cases t:nd x with
     |some q=>rw[w t,w (show nd y=some q by rw[← a,t])];exact b
     |none =>
      have u1:=un t J;have Z:=un (show nd y=none by rw[← a,t]) G;exact⟨λ_=>Z.1,λ_=>u1.1⟩
    ·cases t:nd x with
     |some q=>rw[← w t,← w (show nd y=some q by rw[← a,t])];exact b
     |none =>
      have u1:=un t J;have Z:=un (show nd y=none by rw[← a,t]) G;exact⟨λz=>absurd z u1.2,λz=>absurd z Z.2⟩
end
structure K(P:Wd->Prop)(S:St)(nd:Wd->Option Nat)(wd:List Wd):Prop where
 i:I none S nd wd
 nil:P []
 some:∀x,(∃m,nd x=some m) ↔ ∃p,P p/\x <:+ p
 eq:∀{x y m n},nd x=.some m->nd y=.some n->(m=n ↔ ∀p,P p->(x <:+ p↔y <:+ p))
def K.congr{P Q:Wd->Prop}{S:St}{b:Wd->Option Nat}{a:List Wd}(H:K P S b a)(h:∀p,P p↔Q p):K Q S b a:=by
 have:P=Q:=funext λp=>propext (h p);rw[← this];exact H
noncomputable def ME(x:Wd):Option Nat:=if x=[] then some 0 else none
def fF{x:Wd}{n:Nat}(h:ME x=some n):x=[]/\n=0:=by
 unfold ME at h;split at h
 ·exact⟨by assumption,(Zm h).symm⟩
 ·cases h
def K0:K (λp=>p=[]) S0 ME [[]]:=by
 refine⟨⟨BR,rfl,λn d=>?_,rfl,rfl,λ{x n} h=>?_,λ{x n} h=>?_,λ{n} d=>?_,λ{x y n} h b a=>?_,λ{x c n} h=>?_,λ{x y n} h b=>?_,rfl,λ{n} b a=>?_,λ{x n} h c=>?_⟩,rfl,λx=>?_,λ{x y m n} b a=>?_⟩
 ·have:n=0:=Nat.lt_one_iff.mp d;subst this;rfl
 ·rw[(fF h).2];exact Nat.one_pos
 ·rw[(fF h).1];exact XE
 ·have:n=0:=Nat.lt_one_iff.mp d;subst this;rfl
 ·have e:=(fF h).2;subst e;have:y=[]:=Yk.mp a;subst this;rfl
 ·have:=(fF h).1;exact absurd this (by simp)
 ·have e:=(fF h).1;subst e;have:x=[]:=Yk.mp b;subst this;exact⟨0,rfl⟩
 ·have:n<1:=a;omega
 ·have e:=fF h;obtain⟨rfl,rfl⟩:=e;rfl
 ·constructor
  ·rintro⟨m,h⟩;exact⟨[],rfl,by rw[(fF h).1];exact XE⟩
  ·rintro⟨p,rfl,h⟩;have:x=[]:=Yk.mp h;subst this;exact⟨0,rfl⟩
 ·obtain⟨rfl,rfl⟩:=fF b;obtain⟨rfl,rfl⟩:=fF a;exact⟨λ_ _ _=>Iff.rfl,λ_=>rfl⟩
section
variable{P:Wd->Prop}{S:St}{nd:Wd->Option Nat}{wd:List Wd}
theorem K.step(H:K P S nd wd){h c:Nat}(w:h<wd.length)(A:97<=c/\c<=122)(v:(W wd h).length+1<1000) :
  ∃g r j Ha,hb S h c=.some (g,r)/\K (λp=>P p\/p=W wd h++[c]) g j Ha/\r<Ha.length/\W Ha r=W wd h++[c]/\(∀m,m<wd.length->W Ha m=W wd m)/\wd.length<=Ha.length/\Ha.length<=wd.length+2:=by
 obtain⟨g,r,j,Ha,e,J,G,F,E,D,C,t,B⟩:=H.i.step w A v;refine⟨g,r,j,Ha,e,⟨J,.inl H.nil,λx=>?_,λ{x y m n} s o=>?_⟩,G,F,E,D,C⟩
 ·rw[t,H.some];constructor
  ·rintro (⟨p,a,b⟩ | a)
   ·exact⟨p,.inl a,b⟩
   ·exact⟨_,.inr rfl,a⟩
  ·rintro⟨p,a | rfl,b⟩
   ·exact .inl ⟨p,a,b⟩
   ·exact .inr b
 ·rw[B.eq s o];have un:∀{z q},j z=.some q->nd z=none->z <:+ W wd h++[c]/\∀p,P p->¬z <:+ p:=λ{z q} a b=>⟨((t z).mp ⟨q,a⟩).elim (λ⟨m,x⟩=>by rw[b]at x;cases x) id,λp d u=>by
   obtain⟨m,x⟩:=(H.some z).mpr ⟨p,d,u⟩;rw[b]at x;cases x⟩
  have old:nd x=nd y ↔ ∀p,P p->(x <:+ p↔y <:+ p):=by
   cases ex:nd x with
   |some a =>
    cases f:nd y with
    |some b=>exact⟨λe=>(H.eq ex f).mp (Zm e),λe=>by rw[(H.eq ex f).mpr e]⟩
    |none =>
     refine⟨λe=>(nomatch e),λe=>?_⟩;obtain⟨p,d,l⟩:=(H.some x).mp ⟨a,ex⟩;exact absurd ((e p d).mp l) ((un o f).2 p d)
   |none =>
    cases f:nd y with
    |some b =>
     refine⟨λe=>(nomatch e),λe=>?_⟩;obtain⟨p,d,l⟩:=(H.some y).mp ⟨b,f⟩;exact absurd ((e p d).mpr l) ((un s ex).2 p d)
    |none=>exact⟨λ_ p d=>⟨λz=>absurd z ((un s ex).2 p d),λz=>absurd z ((un o f).2 p d)⟩,λ_=>rfl⟩
  rw[old];constructor
  ·rintro⟨a,b⟩ p (d | rfl)
   ·exact a p d
   ·exact b
  ·intro a;exact⟨λp d=>a p (.inl d),a _ (.inr rfl)⟩
end
def K.grow:∀(w:W0){P:Wd->Prop}{S:St}{nd:Wd->Option Nat}{b:List Wd}(H:K P S nd b){h:Nat},h<b.length->P (W b h)->(∀c∈w,97<=c/\c<=122)->(W b h).length+w.length<1000 →
  ∃j r B Ha,hg S h w=.some (j,r)/\K (λp=>P p\/∃v,v <+: w/\p=W b h++v) j B Ha/\r<Ha.length/\W Ha r=W b h++w/\(∀m,m<b.length->W Ha m=W b m)/\b.length<=Ha.length/\Ha.length<=b.length+2*w.length:=by
 intro w
 induction w with
 |nil =>
  intro P S nd b H h g f hw i;refine⟨S,h,nd,b,rfl,H.congr λp=>⟨.inl,?_⟩,g,(ZV _).symm,λ_ _=>rfl,Zh _,Zh _⟩;rintro (a | ⟨v,a,rfl⟩)
  ·exact a
  ·rw[List.prefix_nil.mp a,ZV];exact f
 |cons c w l =>
  intro P S nd b H h g f hw i;rw[Zk]at i;obtain⟨M,r1,N,L,e1,D,u,e,t,J,G⟩:=H.step g (hw c Zx) (by omega);obtain⟨y,r2,A,z,e2,C,s,q,o,F,E⟩:=l D u (.inr e) (λd hd=>hw d (Zy _ hd)) (by rw[e,Zs,ZL];omega);refine⟨y,r2,A,z,?_,C.congr λp=>?_,s,?_,λm n=>by rw[o m (by omega),t m n],by omega,by rw[Zk];omega⟩
  ·show (hb S h c).bind _=_;rw[e1];exact e2
  ·rw[e];constructor
   ·rintro ((a | rfl) | ⟨v,a,rfl⟩)
    ·exact .inl a
    ·exact .inr ⟨[c],Ww.mpr ⟨rfl,List.nil_prefix⟩,rfl⟩
    ·exact .inr ⟨c :: v,Ww.mpr ⟨rfl,a⟩,by rw[ZM];rfl⟩
   ·rintro (a | ⟨v,a,rfl⟩)
    ·exact .inl (.inl a)
    ·cases v with
     |nil=>rw[ZV];exact .inl (.inl f)
     |cons d v =>
      obtain⟨rfl,x⟩:=Ww.mp a;exact .inr ⟨v,x,by rw[ZM];rfl⟩
  ·rw[q,e,ZM];rfl
noncomputable def mB(S:St):List Wd->Option St
 |[]=>some S
 |t :: b=>(hg S 0 t).bind λz=>mB z.1 b
def K.book:∀(b:List Wd){P:Wd->Prop}{S:St}{nd:Wd->Option Nat}{d:List Wd}(H:K P S nd d),(∀t∈b,∀c∈t,97<=c/\c<=122)->(∀t∈b,t.length<1000) →
  ∃j r Ha,mB S b=.some j/\K (λp=>P p\/∃t∈b,p <+: t) j r Ha/\d.length<=Ha.length/\Ha.length<=d.length+2*(b.map List.length).sum:=by
 intro b
 induction b with
 |nil =>
  intro P S nd d H _ _;refine⟨S,nd,d,rfl,H.congr λp=>⟨.inl,?_⟩,Zh _,Xo _ _⟩;rintro (a | ⟨t,f,_⟩)
  ·exact a
  ·cases f
 |cons t b l =>
  intro P S nd d H h g;have m:0<d.length:=H.i.lt H.i.z;obtain⟨G,r1,J,F,e1,w,E,D,C,B,A⟩:=H.grow t m (by rw[H.i.wz];exact H.nil) (h t Zx) (by rw[H.i.wz];have:=g t Zx;simpa using this);obtain⟨n,q,o,e2,s,y,x⟩:=l w (λt f=>h t (Zy _ f)) (λt f=>g t (Zy _ f));refine⟨n,q,o,?_,s.congr λp=>?_,by omega,by rw[Zl,Xj];omega⟩
  ·show (hg S 0 t).bind _=_;rw[e1];exact e2
  ·rw[H.i.wz];constructor
   ·rintro ((a | ⟨v,a,rfl⟩) | ⟨u,e,a⟩)
    ·exact .inl a
    ·exact .inr ⟨t,Zx,a⟩
    ·exact .inr ⟨u,Zy _ e,a⟩
   ·rintro (a | ⟨u,e,a⟩)
    ·exact .inl (.inl a)
    ·rcases Zo.mp e with rfl | e
     ·exact .inl (.inr ⟨p,a,rfl⟩)
     ·exact .inr ⟨u,e,a⟩
noncomputable def Hd(b:List Wd)(p:Wd):Prop:=p=[]\/∃t∈b,p <+: t
def K.of(b:List Wd)(f:∀t∈b,∀c∈t,97<=c/\c<=122)(d:∀t∈b,t.length<1000):∃S nd a,mB S0 b=.some S/\K (Hd b) S nd a/\a.length<=1+2*(b.map List.length).sum:=by
 obtain⟨S,nd,a,e,H,_,l⟩:=K0.book b f d;exact⟨S,nd,a,e,H,l⟩
noncomputable def sk(w:List (Nat×Nat)):W0:=(List.range' 97 26).filter λc=>(gW w c).isSome
noncomputable def visit(w:List (Nat×Nat)):W0->W0->W0
 |[],met=>met
 |c :: r,met=>visit w r (if (gW w c).getD 0∈met then met else met++[(gW w c).getD 0])
noncomputable def IB(S:St):Nat->W0->Nat->Option (W0)
 |k,met,d=>if d<met.length then (match k with
  |0=>none
  |k+1=>IB S k (visit (S.wy.getD (met.getD d 0) []) (sk (S.wy.getD (met.getD d 0) [])) met) (d+1)) else some met
noncomputable def steps(S:St)(a:W0)(n:Nat):List (Nat×Nat):=(sk (S.wy.getD n [])).map λc=>(c,a.idxOf ((gW (S.wy.getD n []) c).getD 0))
noncomputable abbrev Row:=Nat×Nat×Option Nat×List (Nat×Nat)
noncomputable def row(S:St)(a:W0)(n:Nat):Row:=match S.lk.getD n none with
 |none=>(0,0,none,steps S a n)
 |some l=>(S.lg.getD l 0+1,S.lg.getD n 0,some (a.idxOf l),steps S a n)
noncomputable def tab(S:St)(a:W0):List Row:=a.map (row S a)
section
variable{S T:St}{f:Nat->Nat}
def jC{w:List (Nat×Nat)}{c:Nat}(h:c∈sk w):∃m,gW w c=some m:=Yi.mp (Yj.mp h).2
theorem mH{w:List (Nat×Nat)}{N:Nat}(hw:∀c m,gW w c=some m->m<N):∀(r met:W0),(∀c∈r,∃m,gW w c=some m)->(∀x∈met,x<N)->∀x∈visit w r met,x<N
 |[],met,_,a=>a
 |c :: r,met,b,a=>by
  refine mH hw r _ (λd hd=>b d (Zy _ hd)) ?_;obtain⟨m,e⟩:=b c Zx;rw[e,Y4];split
  ·exact a
  ·intro x g;rcases Ze.mp g with h | h
   ·exact a x h
   ·rw[Zj.mp h];exact hw c m e
def getD_mem{l:W0}{d:Nat}(h:d<l.length):l.getD d 0∈l:=by
 rw[Zv,Zt h];exact ZG h
end
theorem kP{w:List (Nat×Nat)}:∀(r met:W0),∃l,visit w r met=met++l
 |[],met=>⟨[],(ZV _).symm⟩
 |c :: r,met=>by
  obtain⟨l,e⟩:=kP (w:=w) r (if (gW w c).getD 0∈met then met else met++[(gW w c).getD 0]);show ∃l,visit w r _=_;rw[e];split
  ·exact⟨l,rfl⟩
  ·exact⟨_,ZM _ _ _⟩
theorem mR{w:List (Nat×Nat)}:∀(r met:W0),met.Nodup->(visit w r met).Nodup
 |[],met,h=>h
 |c :: r,met,h=>by
  refine mR (w:=w) r _ ?_;split
  ·exact h
  ·rename_i q;rw[ZO];refine⟨h,by simp,λa d b hb e=>q ?_⟩;rw[Zj.mp hb]at e;rw[← e];exact d
theorem lj{w:List (Nat×Nat)}:∀(r met:W0),∀c∈r,(gW w c).getD 0∈visit w r met
 |d :: r,met,c,a=>by
  rcases Zo.mp a with rfl | a
  ·obtain⟨l,e⟩:=kP (w:=w) r (if (gW w c).getD 0∈met then met else met++[(gW w c).getD 0]);show _∈visit w r _;rw[e];refine Kc _ ?_;split
   ·assumption
   ·exact ZU _ Zx
  ·exact lj r _ c a
def tV{w:List (Nat×Nat)}(d:∀p∈w,97<=p.1/\p.1<=122){c m:Nat}(h:gW w c=some m):c∈sk w:=by
 refine Yj.mpr ⟨?_,by rw[h];rfl⟩;unfold gW at h;obtain⟨p,a,_⟩:=Zw.mp h;have e:=List.find?_some a;have:=d p (List.mem_of_find?_eq_some a);have b:p.1=c:=by simpa using e
 rw[b]at this;rw[Xa];omega
def Dq{S:St}(o:WF S):∀(k:Nat)(met:W0)(d:Nat),met.Nodup->(∀x∈met,x<S.lg.length)->d<=met.length->S.lg.length<=k+d->(∀i,i<d->∀c m,gW (S.wy.getD (met.getD i 0) []) c=some m->m∈met) →
  ∃l,IB S k met d=some (met++l)/\(met++l).Nodup/\(∀x∈met++l,x<S.lg.length)/\∀n∈met++l,∀c m,gW (S.wy.getD n []) c=some m->m∈met++l:=by
 intro k;have fin:∀(met:W0)(d:Nat),¬d<met.length->d<=met.length->(∀i,i<d->∀c m,gW (S.wy.getD (met.getD i 0) []) c=some m->m∈met)->∀n∈met,∀c m,gW (S.wy.getD n []) c=some m->m∈met:=by
  intro met d f b h n t c m e;obtain⟨i,g,q⟩:=List.mem_iff_getElem.mp t;refine h i (by omega) c m ?_;have:met.getD i 0=n:=by rw[Zv,Zt g,q];rfl
  rw[this];exact e
 induction k with
 |zero =>
  intro met d nd lt hd u h;have z:met.length<=S.lg.length:=by
   have:=sub_len met (List.range S.lg.length) nd λx s=>Yu.mpr (lt x s)
   rwa [ZJ]at this
  have a:¬d<met.length:=by omega
  refine⟨[],?_,?_⟩
  ·unfold IB;rw[Zp a,ZV]
  ·rw[ZV];exact⟨nd,lt,fin met d a hd h⟩
 |succ k r =>
  intro met d nd lt hd u h;by_cases a:d<met.length
  ·obtain⟨p,e1⟩:=kP (w:=S.wy.getD (met.getD d 0) []) (sk (S.wy.getD (met.getD d 0) [])) met;obtain⟨l,e,f,b,j⟩:=r (visit (S.wy.getD (met.getD d 0) []) (sk (S.wy.getD (met.getD d 0) [])) met) (d+1) (mR _ _ nd) (mH (λc m e=>o.on _ c m e) _ _ (λc v=>jC v) lt) (by rw[e1,Zs];omega) (by omega) (λi g c m e=>by
    have y:(visit (S.wy.getD (met.getD d 0) []) (sk (S.wy.getD (met.getD d 0) [])) met).getD i 0=met.getD i 0:=by
     rw[e1,Zv,Zv,Yz (by omega)]
    rw[y]at e;by_cases q:i=d
    ·subst q;have:=lj (w:=S.wy.getD (met.getD i 0) []) (sk (S.wy.getD (met.getD i 0) [])) met c (tV (o.NH _).2 e);rw[e]at this;exact this
    ·rw[e1];exact Kc _ (h i (by omega) c m e))
   rw[e1,ZM]at f b j;refine⟨p++l,?_,f,b,j⟩;unfold IB;rw[Zq a];show IB S k _ (d+1)=_;rw[e,e1,ZM]
  ·refine⟨[],?_,?_⟩
   ·unfold IB;rw[Zp a,ZV]
   ·rw[ZV];exact⟨nd,lt,fin met d a hd h⟩
def zS{α:Type}{p:List α->Prop}(h0:p [])(h1:∀l a,p l->p (l++[a]))(l:List α):p l:=by
 have:∀l:List α,p l.reverse:=by
  intro l
  induction l with
  |nil=>exact h0
  |cons a l ih=>rw[List.reverse_cons];exact h1 _ a ih
 rw[← List.reverse_reverse l];exact this _
def K.met{P:Wd->Prop}{S:St}{nd:Wd->Option Nat}{wd:List Wd}(H:K P S nd wd){k:Nat}(hk:wd.length<=k):∃l,IB S k [0] 0=Option.some (0 :: l)/\(0 :: l).Nodup/\(∀x,x∈0 :: l↔x<wd.length)/\(0 :: l).length=wd.length:=by
 have L:S.lg.length=wd.length:=H.i.len.symm;obtain⟨l,e,h1,h2,h3⟩:=Dq H.i.wf k [0] 0 (by simp) (λx hx=>by rw[Zj.mp hx];exact H.i.wf.pos) (Yv _) (by omega) (λi hi=>absurd hi (Nat.not_lt_zero _));have h0:∀(x:Wd) n,nd x=Option.some n->n∈0 :: l:=by
  intro x
  induction x using zS with
  |h0=>intro n e;rw[H.i.z]at e;cases e;exact Zx
  |h1 x c ih =>
   intro n e;obtain⟨m,hm⟩:=H.i.pre e;exact h3 m (ih m hm) c n (by rw[H.i.wy hm];exact e)
 have hx:∀x,x∈0 :: l↔x<wd.length:=λx=>⟨λz=>by rw[← L];exact h2 x z,λz=>h0 _ x (H.i.top z)⟩
 refine⟨l,e,h1,hx,Nat.le_antisymm ?_ ?_⟩
 ·have:=sub_len (0 :: l) (List.range wd.length) h1 λx z=>Yu.mpr ((hx x).mp z)
  rwa [ZJ]at this
 ·have:=sub_len (List.range wd.length) (0 :: l) List.nodup_range λx z=>(hx x).mpr (Yu.mp z)
  rwa [ZJ]at this
end AU
end
section
namespace T35
open VS AU
def AD(w:List (Nat×Nat))(c:Nat):c∈w.map (·.1)↔(gW w c).isSome=true:=by
 rw[← DH,Xn,ZF];exact⟨λ⟨p,b,a⟩=>⟨p,b,by rw[a];exact beq_self_eq_true c⟩,λ⟨p,b,a⟩=>⟨p,b,by simpa using a⟩⟩
def ve{w:List (Nat×Nat)}(a:(w.map (·.1)).Nodup)(b:∀p∈w,97<=p.1/\p.1<=122):(sk w).Perm (w.map (·.1)):=by
 refine(List.perm_ext_iff_of_nodup ?_ a).mpr λc=>?_
 ·exact List.Nodup.sublist List.filter_sublist List.nodup_range'
 ·rw[AD];constructor
  ·intro h;exact(Yj.mp h).2
  ·intro h;obtain⟨m,e⟩:=Yi.mp h;exact tV b e
def yp{m:Md}{w:List (Nat×Nat)}(e:(w.map (·.1)).Nodup)(d:∀p∈w,97<=p.1/\p.1<=122):gQ [(m,G4 w)]=some (.fr,.lst ((sk w).map λc=>T.str [c])):=by
 show ((strs? ((w.map λp=>(T.str [p.1],T.int (p.2:Int))).map (·.1))).bind _)=_;have e1:(w.map λp=>(T.str [p.1],T.int (p.2:Int))).map (·.1)=(w.map (·.1)).map λc=>T.str [c]:=by
  rw[Ig,Ig];rfl
 rw[e1,strs_map (λc=>[c]),Zr,Zq]
 ·have:(sk w).map (λc=>[c])=eR ((w.map (·.1)).map λc=>[c]):=by
   refine oJ ((ve e d).map _) ?_;rw[Wh];refine Wb ?_ (XG _ (X3 (s:=97) (n:=26)));intro a b j h;rcases Yf.mp h with h | ⟨_,h⟩
   ·omega
   ·exact absurd h (List.not_lt_nil _)
  rw[← this,Ig];rfl
 ·refine⟨?_,Ja.mpr ?_⟩
  ·rw[Zu,← (ve e d).length_eq];have:(sk w).length<=(List.range' 97 26).length:=Xw _ _;rw[YI]at this;omega
  intro s f;obtain⟨c,i,rfl⟩:=ZF.mp f;obtain⟨p,g,rfl⟩:=ZF.mp i;have:=d p g;show (decide (1<=dY)&&(decide (p.1<1114112)&&true))=true;rw[ZP (show p.1<1114112 by omega)];rfl
noncomputable def nE:Nat->W0->List (T×T)
 |_,[]=>[]
 |k,n :: r=>(T.int (n:Int),T.int (k:Int)) :: nE (k+1) r
theorem yi:∀(met:W0)(k:Nat),(nE k met).length=met.length
 |[],_=>rfl
 |_ :: r,k=>by rw[nE,Zk,Zk,yi r]
theorem o9:∀(met:W0)(k:Nat),(nE k met).map (·.1)=met.map λ(n:Nat)=>T.int (n:Int)
 |[],_=>rfl
 |_ :: r,k=>by rw[nE,Zl,Zl,o9 r]
theorem zc:∀(met:W0)(k n:Nat),nE k (met++[n])=nE k met++[(T.int (n:Int),T.int ((k+met.length:Nat):Int))]
 |[],k,n=>rfl
 |m :: r,k,n=>by
  rw[Y5,nE,nE,zc r (k+1) n,Zk,Y5];rw[show k+1+r.length=k+(r.length+1) by omega]
def Gn(a b:Nat):eqT (.int (a:Int)) (.int (b:Int))=(a==b):=by
 simp only[eqT];by_cases h:a=b
 ·simp[h]
 ·have d:¬(a:Int)=(b:Int):=by omega
  rw[beq_eq_false_iff_ne.mpr h,beq_eq_false_iff_ne.mpr d]
theorem pY:∀(met:W0)(k n:Nat),cR (nE k met) (.int (n:Int))=if n∈met then some (T.int ((k+met.idxOf n:Nat):Int)) else none
 |[],_,_=>rfl
 |m :: r,k,n=>by
  show ((((T.int (m:Int),T.int (k:Int)) :: nE (k+1) r).find? λp=>eqT p.1 (.int (n:Int))).map (·.2))=_;rw[IV];simp only[Gn];by_cases h:m=n
  ·subst h;simp[List.idxOf_cons]
  ·have hb:(m==n)=false:=beq_eq_false_iff_ne.mpr h;have a:=pY r (k+1) n;unfold cR at a;simp only[hb];rw[a,List.idxOf_cons,hb];by_cases q:n∈r
   ·rw[Zq q,Zq (Zy _ q)];show some (T.int ((k+1+r.idxOf n:Nat):Int))=some (T.int ((k+(r.idxOf n+1):Nat):Int));rw[show k+1+r.idxOf n=k+(r.idxOf n+1) by omega]
   ·rw[Zp q,Zp (λz=>(Zo.mp z).elim (λe=>h e.symm) q)]
def Ds(a:W0)(n:Nat)(h:n∉a):dput (nE 0 a) (.int (n:Int)) (.int (a.length:Int))=nE 0 (a++[n]):=by
 unfold dput;rw[Zp,zc]
 ·rw[Wk]
 ·intro z;obtain⟨p,b,e⟩:=Xn.mp z;have:(cR (nE 0 a) (.int (n:Int))).isSome=true:=by
   unfold cR;rw[YC,List.find?_isSome];exact⟨p,b,e⟩
  rw[pY,Zp h]at this;cases this
noncomputable def nT(met:W0):T:=.dct 0 (nE 0 met)
noncomputable def mT(met:W0):T:=.lst (met.map λ(n:Nat)=>T.int (n:Int))
def BY{J:Env}{m k:Md}{met:W0}{n:Nat}{a e:Ex}(h:a J=some (m,nT met))(d:e J=some (k,.int (n:Int))):e2 dc e a J=some (.fr,.bl (decide (n∉met))):=e2v d h (by
 show (match (if true=true then some (Md.fr,T.bl (cR (nE 0 met) (.int (n:Int))).isSome) else none) with | some (_,.bl b)=>some (Md.fr,T.bl (!b)) | _=>none)=_;rw[Zq rfl,pY];by_cases q:n∈met
 ·rw[Zq q,Zc (λz=>z q)];rfl
 ·rw[Zp q,ZP q];rfl)
section
variable{S:St}{w:List (Nat×Nat)}
theorem yg{d:Nat}{ob:W5}:∀(r met:W0)(z:W5),(∀c∈r,∃m,gW w c=some m)->met.length+r.length<16777216->∃a,forL (aU 5) bf (r.map λc=>T.str [c]) [ob,oc (nT met),oc (mT met),Q0 (d:Int),pc (G4 w),z]=some (.nx [ob,oc (nT (visit w r met)),oc (mT (visit w r met)),Q0 (d:Int),pc (G4 w),a])
 |[],met,z,_,_=>⟨z,rfl⟩
 |c :: r,met,z,f,p=>by
  obtain⟨m,e⟩:=f c Zx;rw[Zk]at p;have hlen:(nE 0 met).length=met.length:=yi met 0;by_cases q:m∈met
  ·obtain⟨a,b⟩:=yg r met (Q1 ([c])) (λd hd=>f d (Zy _ hd)) (by omega);refine⟨a,?_⟩;have ev:visit w (c :: r) met=visit w r met:=by
    show visit w r (if (gW w c).getD 0∈met then met else met++[(gW w c).getD 0])=_;rw[e,Y4,Zq q]
   rw[ev,Zl];refine(cA (J1:=[ob,oc (nT met),oc (mT met),Q0 (d:Int),pc (G4 w),Q1 ([c])]) rfl ?_).trans b;unfold bf;refine(pq (m:=.fr) ?_).trans rfl;refine(BY (m:=.bo) (k:=.fr) (met:=met) (n:=m) rfl (wG (m:=.pu) (n:=.fr) (c:=c) (w:=w) rfl rfl e)).trans ?_;rw[Zc (λz=>z q)]
  ·obtain⟨a,b⟩:=yg r (met++[m]) (Q1 ([c])) (λd hd=>f d (Zy _ hd)) (by rw[Zs,ZL];omega);refine⟨a,?_⟩;have ev:visit w (c :: r) met=visit w r (met++[m]):=by
    show visit w r (if (gW w c).getD 0∈met then met else met++[(gW w c).getD 0])=_;rw[e,Y4,Zp q]
   rw[ev,Zl];refine(cA (J1:=[ob,oc (nT met),oc (mT met),Q0 (d:Int),pc (G4 w),Q1 ([c])]) rfl ?_).trans b;unfold bf;refine(r9 (m:=.fr) ?_).trans ?_
   ·refine(BY (m:=.bo) (k:=.fr) (met:=met) (n:=m) rfl (wG (m:=.pu) (n:=.fr) (c:=c) (w:=w) rfl rfl e)).trans ?_;rw[ZP q]
   ·have h:∀nn g:W5,e2 HR (aa 4) (aa 5) [ob,nn,g,Q0 (d:Int),pc (G4 w),Q1 ([c])]=some (.fr,.int (m:Int)):=λnn g=>wG (m:=.pu) (n:=.fr) (c:=c) (w:=w) rfl rfl e;have j:lH 1 (e2 HR (aa 4) (aa 5)) (eN bx (ab (aa 2) ah)) [ob,oc (nT met),oc (mT met),Q0 (d:Int),pc (G4 w),Q1 ([c])]=some (.nx [ob,oc (nT (met++[m])),oc (mT met),Q0 (d:Int),pc (G4 w),Q1 ([c])]):=by
     have o:eN bx (ab (aa 2) ah) [ob,oc (nT met),oc (mT met),Q0 (d:Int),pc (G4 w),Q1 ([c])]=some (.fr,.int (met.length:Int)):=kD (xv (x:=(.bo,mT met)) rfl rfl) (by
      show some (Md.fr,T.int (((met.map λ(n:Nat)=>T.int (n:Int)).length:Nat):Int))=_;rw[Zu])
     unfold lH;rw[o,Zr];show ((e2 HR (aa 4) (aa 5) [ob,oc (nT met),oc (mT met),Q0 (d:Int),pc (G4 w),Q1 ([c])]).bind _)=_;rw[h,Zr];show (if true=true/\true=true/\(nE 0 met).length<dY then some (Out.nx [ob,oc (.dct 0 (dput (nE 0 met) (.int (m:Int)) (.int (met.length:Int)))),oc (mT met),Q0 (d:Int),pc (G4 w),Q1 ([c])]) else none)=_;rw[Zq ⟨rfl,rfl,by rw[hlen];show met.length<16777216;omega⟩,Ds met m q];rfl
    refine(au j).trans ?_;refine(qb (i:=2) (l:=met.map λ(n:Nat)=>T.int (n:Int)) (v:=.int (m:Int)) rfl (h _ _) (by rw[Zu];omega)).trans ?_;rw[show (met.map λ(n:Nat)=>T.int (n:Int))++[.int (m:Int)]=(met++[m]).map λ(n:Nat)=>T.int (n:Int) from by rw[Jv];rfl];rfl
end
def sW(w:List (Nat×Nat)):(sk w).length<=26:=by
 refine ZI (Xw _ _) ?_;rw[YI];exact Zh _
def A4{S:St}{a:W0}(b:a.Nodup)(d:∀x∈a,x<S.lg.length):a.length<=S.lg.length:=by
 have:=sub_len a (List.range S.lg.length) b λx e=>Yu.mpr (d x e)
 rwa [ZJ]at this
def E2{S:St}(j:WF S)(F:S.lg.length<=100001):∀(k:Nat)(met:W0)(d:Nat)(M:W0),met.Nodup->(∀x∈met,x<S.lg.length)->IB S k met d=some M->∀N,k<N->∀f a:W5,∃i A B,
  di (e2 oLt (aa 3) (eN bx (ab (aa 2) ah))) bK N [pc (GK S false),oc (nT met),oc (mT met),Q0 ((d:Nat):Int),f,a] =
   some (.nx [pc (GK S false),oc (nT M),oc (mT M),pc i,A,B]):=by
 have cond:∀(met:W0)(d:Nat)(f a:W5),e2 oLt (aa 3) (eN bx (ab (aa 2) ah)) [pc (GK S false),oc (nT met),oc (mT met),Q0 ((d:Nat):Int),f,a]=some (.fr,.bl (decide (d<met.length))):=λmet d f a =>
  e2v (x:=(.fr,.int (d:Int))) rfl (kD (v:=(.fr,.int (met.length:Int))) (xv (x:=(.bo,mT met)) rfl rfl) (by
   show some (Md.fr,T.int (((met.map λ(n:Nat)=>T.int (n:Int)).length:Nat):Int))=_;rw[Zu])) (by
   show some (Md.fr,T.bl (decide ((d:Int)<(met.length:Int))))=_;rw[show decide ((d:Int)<(met.length:Int))=decide (d<met.length) from decide_eq_decide.mpr (by omega)])
 intro k
 induction k with
 |zero =>
  intro met d M nd lt e N hN f a;obtain⟨N,rfl⟩:∃M,N=M+1:=⟨N-1,by omega⟩
  unfold IB at e;split at e
  ·cases e
  ·rename_i h;cases e;exact⟨_,f,a,d9 (m:=.fr) ((cond _ _ _ _).trans (by rw[Zc h]))⟩
 |succ k u =>
  intro met d M nd lt e N hN f a;obtain⟨N,rfl⟩:∃M,N=M+1:=⟨N-1,by omega⟩
  unfold IB at e;split at e
  ·rename_i h;have z:=lt _ (getD_mem h);have C:met.getD d 0<S.wy.length:=by rw[j.wy];exact z
   have E:=A4 nd lt;have D:=sW (S.wy.getD (met.getD d 0) []);obtain⟨o,s⟩:=yg (w:=S.wy.getD (met.getD d 0) []) (d:=d) (ob:=pc (GK S false)) (sk (S.wy.getD (met.getD d 0) [])) met a (λc g=>jC g) (by omega);obtain⟨i,r,p,q⟩:=u _ (d+1) M (mR _ _ nd) (mH (λc m e=>j.on _ c m e) _ _ (λc g=>jC g) lt) e N (by omega) (pc (G4 (S.wy.getD (met.getD d 0) []))) o;refine⟨i,r,p,(kg (m:=.fr) ((cond _ _ _ _).trans (by rw[ZP h])) ?_).trans q⟩;unfold bK;have ix:e2 aD (aa 2) (aa 3) [pc (GK S false),oc (nT met),oc (mT met),Q0 ((d:Nat):Int),f,a]=some (.fr,.int ((met.getD d 0:Nat):Int)):=e2v (x:=(.bo,mT met)) (y:=(.fr,.int (d:Int))) rfl rfl (o5 _ met d 0 h);have s1:aQ 4 (e2 aD (bA 3 (aa 0)) (e2 aD (aa 2) (aa 3))) [pc (GK S false),oc (nT met),oc (mT met),Q0 ((d:Nat):Int),f,a]=some (.nx [pc (GK S false),oc (nT met),oc (mT met),Q0 ((d:Nat):Int),pc (G4 (S.wy.getD (met.getD d 0) [])),a]) :=
    aL (m:=.pu) (mI (S:=S) (b:=false) (m:=.pu) (n:=.fr) rfl ix C) (by decide) (by decide:4<6)
   refine(au s1).trans ?_;have nw:=j.NH (met.getD d 0);refine(au ((bU (m:=.fr) (l:=(sk (S.wy.getD (met.getD d 0) [])).map λc=>T.str [c]) ?_ rfl).trans s)).trans ?_
   ·show (eN gQ (ab (aa 4) ah) _).bind Dl=_;rw[kD (xv (x:=(.pu,G4 (S.wy.getD (met.getD d 0) []))) rfl rfl) (yp nw.1 nw.2)];rfl
   ·exact aL (m:=.fr) (t:=.int (((d+1:Nat)):Int)) rfl (by decide) (by decide:3<6)
  ·rename_i h;cases e;exact⟨_,f,a,d9 (m:=.fr) ((cond _ _ _ _).trans (by rw[Zc h]))⟩
def CU{S:St}(a:WF S)(g:S.lg.length<=100001){M:W0}{k:Nat}(h:k<1000000)(e:IB S k [0] 0=some M):aJ [GK S false]=some (.fr,nT M):=by
 obtain⟨i,d,b,q⟩:=E2 a g k [0] 0 M (by simp) (λx f=>by rw[Zj.mp f];exact a.pos) e tW (by show k<1000000;exact h) none none;refine eD (J:=[pc (GK S false),none,pc (mT M),pc i,d,b]) rfl ?_;exact(au rfl).trans ((au rfl).trans ((au rfl).trans ((au q).trans ((au rfl).trans rfl))))
noncomputable def JE(l:List (Nat×Nat)):T:=.tup (l.map λp=>T.tup [.str [p.1],.int (p.2:Int)])
noncomputable def fe(r:Row):T:=.tup [.int (r.1:Int),.int (r.2.1:Int),G8 r.2.2.1,JE r.2.2.2]
theorem uo:∀l:List (Nat×Nat),cZ (l.map λp=>T.tup [.str [p.1],.int (p.2:Int)])=true
 |[]=>rfl
 |p :: l=>by
  rw[Zl];show (true&&cZ _)=true;rw[uo l];rfl
def nP(l:List (Nat×Nat)):GO (JE l)=true:=uo l
def qg(r:Row):GO (fe r)=true:=by
 show (true&&(true&&(GO (G8 r.2.2.1)&&(GO (JE r.2.2.2)&&true))))=true;rw[la,nP];rfl
def Fo{a b c d:Ex}{J:Env}{x y z w:T}(h:a J=some (.fr,x))(g:b J=some (.fr,y))(f:c J=some (.fr,z))(e:d J=some (.fr,w)):fB (ab a (ab b (ab c (ab d ah)))) J=some (.fr,.tup [x,y,z,w]):=by
 show (ab a (ab b (ab c (ab d ah))) J).bind rR=_;rw[xv h (xv g (xv f (xv (r:=ah) e rfl))),Zr];show some (up .fr _)=_;unfold up;split<;>rfl
def Dv{S:St}(d:WF S){a:W0}(o:∀x,x<S.lg.length->x∈a){n:Nat}(g:n<S.lg.length):bJ [GK S false,.int (n:Int),.dct 3 (nE 0 a)]=some (.fr,fe (row S a n)):=by
 have hw:n<S.wy.length:=by rw[d.wy];exact g
 have z:n<S.lk.length:=by rw[d.lk];exact g
 have nw:=d.NH n;have get:∀v,v<S.lg.length->cR (nE 0 a) (.int (v:Int))=some (T.int ((a.idxOf v:Nat):Int)):=λv u=>by rw[pY,Zq (o v u),Wk]
 have s1:aQ 3 (e2 aD (bA 2 (aa 0)) (aa 1)) [pc (GK S false),Q0 (n:Int),pc (.dct 3 (nE 0 a)),none,none,none]=some (.nx [pc (GK S false),Q0 (n:Int),pc (.dct 3 (nE 0 a)),pc (G8 (S.lk.getD n none)),none,none]):=aL (m:=.fr) (uM (S:=S) (b:=false) (m:=.pu) (n:=.fr) rfl rfl z) (by decide) (by decide:3<6);have f:aQ 4 (e2 aD (bA 3 (aa 0)) (aa 1)) [pc (GK S false),Q0 (n:Int),pc (.dct 3 (nE 0 a)),pc (G8 (S.lk.getD n none)),none,none]=some (.nx [pc (GK S false),Q0 (n:Int),pc (.dct 3 (nE 0 a)),pc (G8 (S.lk.getD n none)),pc (G4 (S.wy.getD n [])),none]):=aL (m:=.pu) (mI (S:=S) (b:=false) (m:=.pu) (n:=.fr) rfl rfl hw) (by decide) (by decide:4<6);have B:eN ka (ab (cz 1 (aU 0) (gU (eN gQ (ab (aa 4) ah))) none (fB (ab (aa 0) (ab (e2 lq (aa 3) (e2 HR (aa 5) (aa 0))) ah)))) ah) [pc (GK S false),Q0 (n:Int),pc (.dct 3 (nE 0 a)),pc (G8 (S.lk.getD n none)),pc (G4 (S.wy.getD n [])),none]=some (.fr,JE (steps S a n)):=by
  have C:=fR (k:=1) (tg:=aU 0) (it:=gU (eN gQ (ab (aa 4) ah))) (elt:=fB (ab (aa 0) (ab (e2 lq (aa 3) (e2 HR (aa 5) (aa 0))) ah))) (m:=.fr) (J:=[pc (GK S false),Q0 (n:Int),pc (.dct 3 (nE 0 a)),pc (G8 (S.lk.getD n none)),pc (G4 (S.wy.getD n [])),none]) (λc=>T.str [c]) (λc=>T.tup [.str [c],.int ((a.idxOf ((gW (S.wy.getD n []) c).getD 0):Nat):Int)]) (sk (S.wy.getD n [])) (by
   show (eN gQ (ab (aa 4) ah) _).bind Dl=_;rw[kD (xv (x:=(.pu,G4 (S.wy.getD n []))) rfl rfl) (yp nw.1 nw.2)];rfl) rfl (ZI (sW _) (by decide)) (λc A=>by
   obtain⟨v,ev⟩:=jC A;refine⟨[Q1 ([c]),pc (GK S false),Q0 (n:Int),pc (.dct 3 (nE 0 a)),pc (G8 (S.lk.getD n none)),pc (G4 (S.wy.getD n [])),none],rfl,?_⟩;have s:e2 lq (aa 3) (e2 HR (aa 5) (aa 0)) [Q1 ([c]),pc (GK S false),Q0 (n:Int),pc (.dct 3 (nE 0 a)),pc (G8 (S.lk.getD n none)),pc (G4 (S.wy.getD n [])),none]=some (.fr,.int ((a.idxOf v:Nat):Int)) :=
    e2v (x:=(.pu,.dct 3 (nE 0 a))) rfl (wG (m:=.pu) (n:=.fr) (c:=c) (w:=S.wy.getD n []) rfl rfl ev) (by
     show (if true=true then (cR (nE 0 a) (.int (v:Int))).map (sub .pu) else none)=_;rw[Zq rfl,get v (d.on n c v ev)];rfl)
   rw[ev,Y4];show (ab (aa 0) (ab (e2 lq (aa 3) (e2 HR (aa 5) (aa 0))) ah) _).bind rR=_;rw[xv (x:=(.fr,.str [c])) rfl (xv (r:=ah) s rfl)];rfl)
  refine kD (xv (r:=ah) C rfl) ?_;show (if _<=dY then some (up .fr (.tup _)) else none)=_;rw[Zq (by rw[Zu];exact ZI (sW _) (by decide))];have:T.tup ((sk (S.wy.getD n [])).map λc=>T.tup [.str [c],.int ((a.idxOf ((gW (S.wy.getD n []) c).getD 0):Nat):Int)])=JE (steps S a n):=by
   unfold JE steps;rw[Ig];rfl
  rw[this];unfold up;rw[nP];rfl
 have e:=aL (i:=5) B (by decide) (by decide:5<6);have p:∀J:Env,J[5]?=some (pc (JE (steps S a n)))->aa 5 J=some (.fr,JE (steps S a n)):=λJ h=>by
  show (match J[5]? with | some (some (.pu t))=>some (up .pu t) | some (some (.ow t))=>some (.bo,t) | _=>none)=_;rw[h];show some (up .pu _)=_;unfold up;rw[nP];rfl
 unfold row;cases j:S.lk.getD n none with
 |none =>
  rw[j]at s1 f e;refine eD (v:=(.fr,fe (0,0,none,steps S a n))) (J:=[pc (GK S false),Q0 (n:Int),pc (.dct 3 (nE 0 a)),pc (G8 none),pc (G4 (S.wy.getD n [])),pc (JE (steps S a n))]) rfl ?_;refine(au s1).trans ((au f).trans ((au e).trans (iz ((r9 (m:=.fr) rfl).trans (gq (Fo rfl rfl rfl (p _ rfl)))))))
 |some l =>
  rw[j]at s1 f e;have q:=d.up n l j;refine eD (v:=(.fr,fe (S.lg.getD l 0+1,S.lg.getD n 0,some (a.idxOf l),steps S a n))) (J:=[pc (GK S false),Q0 (n:Int),pc (.dct 3 (nE 0 a)),pc (G8 (some l)),pc (G4 (S.wy.getD n [])),pc (JE (steps S a n))]) rfl ?_;refine(au s1).trans ((au f).trans ((au e).trans ((au ((pq (m:=.fr) rfl).trans rfl)).trans (gq (Fo ?_ ?_ ?_ (p _ rfl))))))
  ·exact e2v (rX (S:=S) (b:=false) (m:=.pu) (n:=.fr) (i:=l) rfl rfl q) rfl rfl
  ·exact rX (S:=S) (b:=false) (m:=.pu) (n:=.fr) (i:=n) rfl rfl g
  ·exact e2v (x:=(.pu,.dct 3 (nE 0 a))) (y:=(.fr,.int (l:Int))) rfl rfl (by
    show (if true=true then (cR (nE 0 a) (.int (l:Int))).map (sub .pu) else none)=_;rw[Zq rfl,get l q];rfl)
noncomputable def G0(t:List Row):T:=.lst (t.map fe)
def CD{S:St}(b:WF S)(g:S.lg.length<=100001){M:W0}{k:Nat}(l:k<1000000)(e:IB S k [0] 0=some M)(a:∀x,x∈M↔x<S.lg.length)(j:M.length<=16777216):dz [GK S false]=some (.fr,G0 (tab S M)):=by
 have d:=CU b g l e;refine eD (J:=[pc (GK S false),none]) rfl ?_;have s1:gR 1 (gE 0 aJ (aa 0) ah) [pc (GK S false),none]=some (.nx [pc (GK S false),oc (nT M)]):=by
  show (gE 0 aJ (aa 0) ah [pc (GK S false),none]).bind _=_;have:gE 0 aJ (aa 0) ah [pc (GK S false),none]=some (.fr,nT M):=by
   show ((aJ [GK S false]).bind _)=_;rw[d];rfl
  rw[this];rfl
 refine(au s1).trans ?_;have o:=fR (k:=1) (tg:=aU 0) (it:=rN 1) (elt:=gE 0 bJ (aa 1) (ab (aa 0) (ab (aa 2) ah))) (m:=.fr) (J:=[pc (GK S false),pc (.dct 3 (nE 0 M))]) (λ(n:Nat)=>T.int (n:Int)) (λn=>fe (row S M n)) M (by
  show (if ((nE 0 M).all λp=>isInt p.1)=true then some (Md.fr,(nE 0 M).map (·.1)) else none)=_;rw[Zq,o9];rw[Ja];intro p h;have:p.1∈(nE 0 M).map (·.1):=List.mem_map_of_mem h;rw[o9]at this;obtain⟨n,_,e⟩:=ZF.mp this;rw[← e];rfl) rfl j (λn i=>by
  refine⟨[Q0 (n:Int),pc (GK S false),pc (.dct 3 (nE 0 M))],rfl,?_⟩;show ((bJ [GK S false,.int (n:Int),.dct 3 (nE 0 M)]).bind _)=_;rw[Dv b (λx f=>(a x).mpr f) ((a n).mp i)];rfl)
 show ((cz 1 (aU 0) (rN 1) none (gE 0 bJ (aa 1) (ab (aa 0) (ab (aa 2) ah))) [pc (GK S false),pc (.dct 3 (nE 0 M))]).bind _)=_;rw[o];unfold G0 tab;rw[Ig];rfl
noncomputable def g9(a:List Tx):Nat:=(a.map List.length).sum
structure Lo(bk:List Tx):Prop where
 Jr:bk.length<=8
 sum:g9 bk<=120
 az:∀t∈bk,∀c∈t,97<=c/\c<=122
theorem uj{t:Tx}:∀{l:List Tx},t∈l->t.length<=g9 l
 |a :: l,h=>by
  have e:g9 (a :: l)=a.length+g9 l:=by unfold g9;rw[Zl,Xj]
  rw[e];rcases Zo.mp h with rfl | h
  ·omega
  ·have:=uj h;omega
def Lo.len{a:List Tx}(h:Lo a):∀t∈a,t.length<=120:=λt b=>ZI (uj b) h.sum
noncomputable def aI(a:List Tx):St:=(mB S0 a).getD S0
noncomputable def ar(a:List Tx):W0:=(IB (aI a) 1000 [0] 0).getD []
noncomputable def tabOf(a:List Tx):List Row:=tab (aI a) (ar a)
theorem Lo.k{a:List Tx}(h:Lo a):mB S0 a=some (aI a)/\∃nd b,K (Hd a) (aI a) nd b/\b.length<=241/\IB (aI a) 1000 [0] 0=some (ar a)/\(∀x,x∈ar a↔x<(aI a).lg.length)/\(ar a).length=b.length/\(ar a).idxOf 0=0:=by
 obtain⟨S,nd,b,e,H,l⟩:=K.of a h.az λt g=>by have:=h.len t g;omega
 have d:aI a=S:=by unfold aI;rw[e];rfl
 rw[d];have f:b.length<=241:=by
  have:=h.sum;unfold g9 at this;omega
 obtain⟨m,e2,_,n,j⟩:=H.met (k:=1000) (by omega);have eM:ar a=0 :: m:=by unfold ar;rw[d,e2];rfl
 rw[eM];exact⟨e,nd,b,H,f,e2,λx=>by rw[n,H.i.len],j,List.idxOf_cons_self⟩
def CA{a:List Bool}{g:Mt}{d:Hf}{xs:W6}{S S':St}{v:T}{b:Bool}{B z:W5}(i:d [B,oc (GK S b),z]=some xs)(j:argsOk a xs=true)(l:bj (trees xs)=true)(h:g (I0 S) (trees xs)=some (I0 S',v))(f:GO v=true) :
  b6 1 [] 0 a g d [B,oc (GK S b),z]=some ((.fr,v),[B,oc (GK S' b),z]):=by
 show ((some ([]:List Ky)).bind λks=>(d [B,oc (GK S b),z]).bind λxs=>(pm (u6 0 a g xs) ks (GK S b)).map λe=>(e.2,[B,oc e.1,z]))=_;rw[Zr,i,Zr];show ((if 1=0+1/\gA (I0 S)=true/\argsOk a xs=true/\bj (trees xs)=true then (g (I0 S) (trees xs)).bind λz=>if gA z.1=true/\GO z.2=true then some (T.obj 1 ((0,.bl b) :: z.1),(Md.fr,z.2)) else none else none).map _)=_;rw[Zq ⟨rfl,l7 S,j,l⟩,h,Zr,Zq ⟨l7 S',f⟩];rfl
def D7{B:W5}:∀(rest:List Tx){S S':St}{z:W5},WF S->S.lg.length+2*g9 rest<=100000->(∀t∈rest,∀c∈t,97<=c/\c<=122)->mB S rest=some S' →
  ∃a,forL (aU 2) gL (rest.map .str) [B,oc (GK S false),z]=some (.nx [B,oc (GK S' false),a]):=by
 intro rest
 induction rest with
 |nil =>
  intro S S' z _ _ _ e;cases (show some S=some S' from e);exact⟨z,rfl⟩
 |cons t rest h =>
  intro S S' z W j b e;obtain⟨⟨d,r⟩,e1,m⟩:=Zz.mp (show (hg S 0 t).bind _=some S' from e);have l:g9 (t :: rest)=t.length+g9 rest:=by unfold g9;rw[Zl,Xj]
  rw[l]at j;obtain⟨g,_,n,f⟩:=EJ W (by omega) W.pos (b t Zx) e1;obtain⟨a,q⟩:=h (S:=d) (S':=S') (z:=Q1 t) g (by omega) (λu i=>b u (Zy _ i)) m;refine⟨a,?_⟩;rw[Zl];refine(cA (J1:=[B,oc (GK S false),Q1 t]) rfl ?_).trans q;unfold gL NQ;rw[CA (xs:=[(.fr,.int ((0:Nat):Int)),(.fr,.str t)]) (S':=d) (v:=.int (r:Int)) rfl rfl rfl f rfl];rfl
def DS{a:List Tx}(h:Lo a):eI [.lst (a.map .str)]=some (.fr,G0 (tabOf a)):=by
 obtain⟨e,nd,g,H,l,e2,d,j,_⟩:=h.k;have hlen:(aI a).lg.length<=100001:=by rw[← H.i.len];omega
 have b:=CD H.i.wf hlen (k:=1000) (by decide) e2 d (by omega);obtain⟨z,f⟩:=D7 (B:=pc (.lst (a.map .str))) a (z:=none) BR (by have:=h.sum;show 1+2*g9 a<=100000;omega) h.az e;refine eD rfl ((au (J1:=[pc (.lst (a.map .str)),oc (GK S0 false),none]) rfl).trans ((au ((bU (m:=.pu) (l:=a.map .str) rfl rfl).trans f)).trans ((au (J1:=[pc (.lst (a.map .str)),pc (GK (aI a) false),z]) rfl).trans (gq ?_))));show ((dz [GK (aI a) false]).bind _)=_;rw[b];rfl
noncomputable abbrev Ha(a:List (Nat×Nat)):List (T×T):=a.map λp=>(T.str [p.1],T.int (p.2:Int))
noncomputable abbrev Lc(p:Nat×Nat):T:=.tup [.str [p.1],.int (p.2:Int)]
def Eu(a:List (Nat×Nat)):pf (a.map Lc)=some (Ha a):=by
 induction a with
 |nil=>rfl
 |cons w a b =>
  show (if fL (T.str [w.1])/\GO (T.int (w.2:Int)) then (pf (a.map Lc)).map _ else none)=_;rw[Zq ⟨rfl,rfl⟩,b];rfl
theorem rD:∀(a acc:List (Nat×Nat)),((acc++a).map (·.1)).Nodup->(Ha a).foldl (λd q=>dput d q.1 q.2) (Ha acc)=Ha (acc++a)
 |[],acc,_=>by rw[ZV];rfl
 |w :: a,acc,h=>by
  have g:w.1∉acc.map (·.1):=λz=>by
   rw[Jv,Zl]at h;exact(ZO.mp h).2.2 w.1 z w.1 Zx rfl
  have e:dput (Ha acc) (T.str [w.1]) (T.int (w.2:Int))=Ha (acc++[w]):=by
   unfold dput;rw[Zp (by
    simp only[Xn,not_exists,not_and];intro p f;obtain⟨q,b,rfl⟩:=ZF.mp f;simp only[eqT,beq_iff_eq,List.cons.injEq,and_true];intro z;exact g (ZF.mpr ⟨q,b,z⟩))]
   simp[Ha]
  show (Ha a).foldl _ (dput (Ha acc) (T.str [w.1]) (T.int (w.2:Int)))=_;rw[e,rD a (acc++[w]) (by rw[ZM];exact h),ZM];rfl
def zq(w:List (Nat×Nat)):(sk w).Nodup:=by
 unfold sk;exact List.Nodup.sublist List.filter_sublist (by decide)
def t8(S:St)(M:W0)(n:Nat):(steps S M n).map (·.1)=sk (S.wy.getD n []):=by
 unfold steps;rw[Ig];exact List.map_id' _
def FZ{m:Md}(S:St)(M:W0)(n:Nat):kW [(m,JE (steps S M n))]=some (.fr,.dct 0 (Ha (steps S M n))):=by
 show (pf ((steps S M n).map Lc)).map _=_;rw[Eu,YE];have:=rD (steps S M n) [] (by rw[YD,t8];exact zq _);rw[YD]at this;exact congrArg (λz=>some (Md.fr,T.dct 0 z)) this
def qm(S:St)(M:W0)(n c:Nat)(e:97<=c/\c<=122):gW (steps S M n) c=(gW (S.wy.getD n []) c).map λm=>M.idxOf m:=by
 have key:∀l:W0,gW (l.map λc=>(c,M.idxOf ((gW (S.wy.getD n []) c).getD 0))) c=if c∈l then some (M.idxOf ((gW (S.wy.getD n []) c).getD 0)) else none:=by
  intro l
  induction l with
  |nil=>rfl
  |cons a l b =>
   unfold gW at b ⊢;rw[Zl,IV];by_cases h:a=c
   ·subst h;simp
   ·have:(a==c)=false:=by simpa using h
    rw[this];show (List.map _ l |>.find? _).map _=_;rw[b];simp[Yq h]
 unfold steps;rw[key];cases hg:gW (S.wy.getD n []) c with
 |none =>
  rw[Zp λz=>by
   obtain⟨m,d⟩:=jC z;rw[hg]at d;cases d]
  rfl
 |some m =>
  rw[Zq (by
   unfold sk;refine Yj.mpr ⟨Xa.mpr (by omega),by rw[hg];rfl⟩)]
  rfl
def oK(S:St)(M:W0)(n:Nat):(row S M n).2.2.2=steps S M n:=by
 unfold row;split<;>rfl
def D6{l r:W0}(e:l.Pairwise (· < ·))(d:r.Pairwise (· < ·))(h:∀x,x∈l↔x∈r):l=r:=by
 have g:l.Nodup:=Wb (S:=λa b:Nat=>a≠b) (λq=>Zb q) e;have f:r.Nodup:=Wb (S:=λa b:Nat=>a≠b) (λq=>Zb q) d;exact List.Perm.eq_of_pairwise (le:=(· < ·)) (λa b _ _ j i=>absurd j (Nat.lt_asymm i)) e d ((List.perm_ext_iff_of_nodup g f).mpr h)
noncomputable abbrev Pl:=Nat×Nat
noncomputable def tP(p:Pl):T:=.tup [.int p.1,.int p.2]
noncomputable abbrev Fd:=List (Tx×List Pl)
noncomputable def dT(d:Fd):List (T×T):=d.map λp=>(T.str p.1,T.lst (p.2.map tP))
noncomputable def gP:Fd->Tx->Pl->Fd
 |[],w,p=>[(w,[p])]
 | (x,l) :: d,w,p=>if x=w then (x,l++[p]) :: d else (x,l) :: gP d w p
noncomputable def tM(f:T->Option (T×Val))(w:Tx)(L:List (T×T)):Option (List (T×T)):=(L.findIdx? λq=>eqT q.1 (.str w)).bind λi=>(L[i]?).bind λq=>(f q.2).map λz=>L.set i (q.1,z.1)
def vK{f:T->Option (T×Val)}{w:Tx}{a:T×T}{L:List (T×T)}(h:eqT a.1 (.str w)=false):tM f w (a :: L)=(tM f w L).map (a :: ·):=by
 unfold tM;rw[Xd,Zp (by rw[h];simp)];cases e:L.findIdx? λq=>eqT q.1 (.str w) with
 |none=>rfl
 |some i =>
  simp only[YE,Zr,X5];cases e2:L[i]? with
  |none=>rfl
  |some q =>
   simp only[Zr];cases f q.2 with
   |none=>rfl
   |some z=>rfl
def qL{f:T->Option (T×Val)}{w:Tx}{a:T×T}{L:List (T×T)}(h:eqT a.1 (.str w)=true):tM f w (a :: L)=(f a.2).map λz=>(a.1,z.1) :: L:=by
 unfold tM;rw[Xd,Zq h];rfl
def qC{k:T}{a:T×T}{L:List (T×T)}(h:eqT a.1 k=false):cN (a :: L) k=a :: cN L k:=by
 unfold cN cR;rw[IV,h];dsimp only;by_cases q:(Option.map (λx=>x.2) (L.find? λp=>eqT p.1 k)).isSome=true
 ·rw[Zq q,Zq q]
 ·rw[Zp q,Zp q];rfl
def sS{k:T}{a:T×T}{L:List (T×T)}(h:eqT a.1 k=true):cN (a :: L) k=a :: L:=by
 unfold cN cR;rw[IV,h];rfl
def A3(d:Fd)(w:Tx)(p:Pl)(b:∀q∈d,q.2.length<16777216):tM (λx=>aN x [(.fr,tP p)]) w (cN (dT d) (.str w))=some (dT (gP d w p)):=by
 induction d with
 |nil =>
  have:cN (dT []) (.str w)=[(.str w,.lst [])]:=rfl;rw[this,qL (by simp),dG (by decide)];rfl
 |cons a d f =>
  obtain⟨x,l⟩:=a;by_cases e:x=w
  ·subst e;have h:eqT (T.str x) (.str x)=true:=by simp
   rw[show dT ((x,l) :: d)=(T.str x,T.lst (l.map tP)) :: dT d from rfl,sS h,qL h,dG (by rw[Zu];exact b (x,l) Zx)];simp[gP,dT]
  ·have h:eqT (T.str x) (.str w)=false:=by simpa using e
   rw[show dT ((x,l) :: d)=(T.str x,T.lst (l.map tP)) :: dT d from rfl,qC h,vK h,f λq g=>b q (Zy _ g)];simp[gP,dT,e]
def wg{i:Nat}{ck:Ex}{cv:Ex}{J:Env}{d:Fd}{w:Tx}{p:Pl}{m:Md}(h:J[i]?=some (oc (.dct 0 (dT d))))(l:ck J=some (m,.str w))(b:∀c,cv (J.set i c)=some (.fr,tP p))(g:∀q∈d,q.2.length<16777216)(n:d.length<16777216) :
  kj i ck (ab cv ah) J=some (.nx (J.set i (oc (.dct 0 (dT (gP d w p)))))):=by
 unfold kj;simp only[h];rw[l,Zr,Zq ⟨rfl,by rw[dT,Zu];exact n⟩];have e:ab cv ah (J.set i (oc (.dct 0 (cN (dT d) (.str w)))))=some [(.fr,tP p)]:=by simp[b]
 rw[e,Zr];have a:=A3 d w p g;unfold tM at a;obtain⟨j,s,a⟩:=Zz.mp a;obtain⟨q,r,a⟩:=Zz.mp a;obtain⟨z,o,a⟩:=Zw.mp a;have f:pm (λx=>aN x [(.fr,tP p)]) [.at (.str w)] (.dct 0 (cN (dT d) (.str w)))=some (.dct 0 (dT (gP d w p)),z.2):=by
  show (if fL (.str w) then _ else none)=_;rw[Zq (show fL (.str w)=true from rfl),s,Zr,r,Zr];show (aN q.2 [(.fr,tP p)]).map _=_;rw[show aN q.2 [(.fr,tP p)]=some z from o,YE,a]
 rw[f];rfl
noncomputable def Sz(N:Nat)(d:Fd):Prop:=d.length<=N/\∀q∈d,q.2.length<=N
def ya(d:Fd)(w:Tx)(p:Pl):(gP d w p).length<=d.length+1:=by
 induction d with
 |nil=>simp[gP]
 |cons a d b =>
  obtain⟨x,l⟩:=a;unfold gP;split
  ·simp
  ·simp only[Zk];exact Xp b
def y9(d:Fd)(w:Tx)(p:Pl)(N:Nat)(h:∀q∈d,q.2.length<=N):∀q∈gP d w p,q.2.length<=N+1:=by
 induction d with
 |nil=>intro q b;simp[gP]at b;rw[b];simp
 |cons a d f =>
  obtain⟨x,l⟩:=a;have e:=h (x,l) Zx;have f:=f λq b=>h q (Zy _ b);unfold gP;split
  ·intro q b;rcases Zo.mp b with rfl | b
   ·simp only[Zs,ZL];simp only at e;exact Xp e
   ·have:=h q (Zy _ b);exact Nat.le_add_right_of_le this
  ·intro q b;rcases Zo.mp b with rfl | b
   ·simp only at e ⊢;exact Nat.le_add_right_of_le e
   ·exact f q b
def Sz.add{N:Nat}{d:Fd}(h:Sz N d)(w:Tx)(p:Pl):Sz (N+1) (gP d w p):=⟨by have:=ya d w p;have:=h.1;lia,y9 d w p N h.2⟩
def enum_zip(l:List Tx):∀n:Nat,dP n (l.map T.str)=(l.zipIdx n).map λp=>T.tup [.int p.2,.str p.1]:=by
 induction l with
 |nil=>intro n;rfl
 |cons t l a=>intro n;rw[XO,Zl,Zl,dP,a (n+1)]
noncomputable def look:Fd->Tx->List Pl
 |[],_=>[]
 | (x,l) :: d,w=>if x=w then l else look d w
noncomputable def Ni(w t:Tx):W0:=(List.range (t.length+1)).filter λe=>w.isSuffixOf (t.take e)
noncomputable def IW(a:List Tx)(w:Tx):List Pl:=(a.zipIdx 0).flatMap λp=>(Ni w p.1).map λe=>(p.2,e)
def cw(x:Tx)(l:List Pl)(d:Fd)(w:Tx):look ((x,l) :: d) w=if x=w then l else look d w:=rfl
def yx(d:Fd)(w:Tx)(p:Pl)(v:Tx):look (gP d w p) v=if v=w then look d w++[p] else look d v:=by
 induction d with
 |nil =>
  show look [(w,[p])] v=_;rw[cw];by_cases h:v=w
  ·rw[Zq h,Zq h.symm];rfl
  ·rw[Zp h,Zp (Yq h)]
 |cons a d e =>
  obtain⟨x,l⟩:=a;unfold gP;by_cases b:x=w
  ·rw[Zq b,cw,cw,cw];by_cases h:v=w
   ·rw[Zq h,Zq (b.trans h.symm),Zq b]
   ·rw[Zp h,Zp (λz=>h (z.symm.trans b)),Zp (λz=>h (z.symm.trans b))]
  ·rw[Zp b,cw,e,cw,cw,Zp b];by_cases h:v=w
   ·rw[Zq h,Zp (λz=>b (z.trans h)),Zq h]
   ·rw[Zp h,Zp h]
def oH(d:Fd)(w:Tx)(p:Pl)(v:Tx):(∃q∈gP d w p,q.1=v)↔(∃q∈d,q.1=v)\/v=w:=by
 induction d with
 |nil=>exact⟨λ⟨q,b,e⟩=>.inr (by rw[Zj.mp b]at e;exact e.symm),λh=>h.elim (λ⟨_,h,_⟩=>nomatch h) λh=>⟨(w,[p]),Zj.mpr rfl,h.symm⟩⟩
 |cons a d g =>
  obtain⟨x,l⟩:=a;unfold gP;split
  ·rename_i m;constructor
   ·rintro⟨q,b,e⟩;rcases Zo.mp b with rfl | b
    ·exact .inl ⟨(x,l),Zx,e⟩
    ·exact .inl ⟨q,Zy _ b,e⟩
   ·rintro (⟨q,b,e⟩ | e)
    ·rcases Zo.mp b with rfl | b
     ·exact⟨_,Zx,e⟩
     ·exact⟨q,Zy _ b,e⟩
    ·exact⟨_,Zx,m.trans e.symm⟩
  ·constructor
   ·rintro⟨q,b,e⟩;rcases Zo.mp b with rfl | b
    ·exact .inl ⟨_,Zx,e⟩
    ·exact(g.mp ⟨q,b,e⟩).imp (λ⟨q,b,e⟩=>⟨q,Zy _ b,e⟩) id
   ·rintro (⟨q,b,e⟩ | e)
    ·rcases Zo.mp b with rfl | b
     ·exact⟨_,Zx,e⟩
     ·obtain⟨f,j,i⟩:=g.mpr (.inl ⟨q,b,e⟩);exact⟨f,Zy _ j,i⟩
    ·obtain⟨f,j,i⟩:=g.mpr (.inr e);exact⟨f,Zy _ j,i⟩
structure PI(d:Fd)(N:Nat)(V:Tx->List Pl):Prop where
 hd:∃l d',d=([],l) :: d'/\∀q∈d',q.1≠[]
 sz:Sz N d
 lo:∀w,w≠[]->look d w=V w
 ks:∀w,w≠[]->((∃q∈d,q.1=w)↔V w≠[])
theorem PI.add{d:Fd}{N:Nat}{V:Tx->List Pl}(h:PI d N V){w:Tx}(hw:w≠[])(p:Pl):PI (gP d w p) (N+1) λv=>if v=w then V v++[p] else V v:=by
 obtain⟨l,b,rfl,hd⟩:=h.hd;refine⟨⟨l,gP b w p,by rw[gP,Zp (Yq hw)],λq g i=>?_⟩,h.sz.add w p,λv a=>?_,λv a=>?_⟩
 ·rcases (oH b w p []).mp ⟨q,g,i⟩ with⟨f,m,j⟩ | h
  ·exact hd f m j
  ·exact hw h.symm
 ·rw[yx];by_cases e:v=w
  ·subst e;rw[Zq rfl,Zq rfl,h.lo v a]
  ·rw[Zp e,Zp e,h.lo v a]
 ·rw[oH,h.ks v a];by_cases e:v=w
  ·rw[Zq e];exact⟨λ_ z=>by simp at z,λ_=>.inr e⟩
  ·rw[Zp e];exact⟨λz=>z.resolve_right e,.inl⟩
def PI.to{d:Fd}{N M:Nat}{V U:Tx->List Pl}(h:PI d N V)(a:N<=M)(e:∀w,w≠[]->V w=U w):PI d M U:=⟨h.hd,⟨ZI h.sz.1 a,λq b=>ZI (h.sz.2 q b) a⟩,λw hw=>(h.lo w hw).trans (e w hw),λw hw=>by rw[h.ks w hw,e w hw]⟩
noncomputable abbrev EP(g:T)(d:Fd)(f e b a:W5):Env:=[pc g,oc (.dct 0 (dT d)),f,e,b,a]
def Aj(t:Tx)(i L:Nat)(h:i<=t.length):cut t (some (i:Int)) (some ((i:Int)+(L:Int)))=(t.drop i).take L:=by
 have b:¬((i:Int)<0):=by omega
 have a:¬((i:Int)+(L:Int)<0):=by omega
 simp only[cut,clip,Zp b,Zp a,Wa,Y9 h];rw[show ((i:Int)+(L:Int)).toNat=i+L by omega];by_cases g:i+L<=t.length
 ·rw[Y9 g,show i+L-i=L by omega]
 ·rw[X2 (by omega),YT (by rw[Yh];omega),YT (by rw[Yh];omega)]
noncomputable def pt(t:Tx)(s e:Nat):Tx:=(t.drop s).take (e-s)
def tF{a b:Ex}{J:Env}{m n:Md}{i j:Int}(e:a J=some (m,.int i))(d:b J=some (n,.int j))(h:(-4611686018427387904<=i/\i<4611686018427387904)/\-4611686018427387904<=j/\j<4611686018427387904):kA a b J=some (.fr,rng i (j-i).toNat):=by
 simp only[kA,e,d,Zr,int?];exact Zq h
noncomputable def hE(t:Tx)(n s:Nat)(a:W0)(w:Tx):List Pl:=(a.filter λe=>decide (pt t s e=w)).map λe=>(n,e)
def Vi(b:T)(n:Nat)(t:Tx)(s:Nat)(a:W0):∀(d:Fd)(N:Nat)(V:Tx->List Pl)(z:W5),PI d N V->(∀e∈a,s<e/\e<=t.length)->N+a.length<16000000 →
  ∃f g,forL (aU 5) dU (a.map λ(e:Nat)=>T.int (e:Int)) (EP b d (Q0 n) (Q1 t) (Q0 s) z)=some (.nx (EP b f (Q0 n) (Q1 t) (Q0 s) g))/\PI f (N+a.length) λw=>V w++hE t n s a w:=by
 induction a with
 |nil=>exact λd N V z h _ _=>⟨d,z,rfl,h.to (Zh _) λw _=>(ZV _).symm⟩
 |cons e a l =>
  intro d N V z h j hN;rw[Zk]at hN;obtain⟨A,y⟩:=j e Zx;have x:cut t (some (s:Int)) (some (e:Int))=pt t s e:=by
   have:=Aj t s (e-s) (by omega)
   rwa [show ((s:Int)+((e-s:Nat):Int))=(e:Int) by omega]at this
  have ne:pt t s e≠[]:=λz=>by
   have:=congrArg List.length z;unfold pt at this;rw[YX,Yh]at this;have:List.length ([]:Tx)=0:=rfl;omega
  obtain⟨f,g,v,o⟩:=l _ (N+1) _ (Q0 e) (h.add ne (n,e)) (λi u=>j i (Zy _ u)) (by omega);refine⟨f,g,?_,o.to (by rw[Zk];omega) λw _=>?_⟩
  ·have bo:dU (EP b d (Q0 n) (Q1 t) (Q0 s) (Q0 e))=some (.nx (EP b (gP d (pt t s e) (n,e)) (Q0 n) (Q1 t) (Q0 s) (Q0 e))):=by
    unfold dU;have:=wg (i:=1) (d:=d) (w:=pt t s e) (p:=(n,e)) (m:=.fr) (ck:=Kx (aa 3) (some (aa 4)) (some (aa 5))) (cv:=fB (ab (aa 2) (ab (aa 5) ah))) (J:=EP b d (Q0 n) (Q1 t) (Q0 s) (Q0 e)) rfl (by rw[← x];rfl) (λc=>rfl) (λq r=>by have:=h.sz.2 q r;omega) (by have:=h.sz.1;omega);rw[this];rfl
   rw[Zl,cA rfl bo,v]
  ·unfold hE;rw[List.filter_cons];by_cases hw:w=pt t s e
   ·rw[Zq hw,Zq (ZP hw.symm),Zl,ZM];rfl
   ·rw[Zp hw,Zp (by rw[decide_eq_true_iff];exact Yq hw)]
noncomputable def hS(t:Tx)(n:Nat)(a:W0)(w:Tx):List Pl:=a.flatMap λs=>hE t n s (List.range' (s+1) (t.length-s)) w
def Vh(f:T)(n:Nat)(t:Tx)(F:t.length<=120)(a:W0):∀(d:Fd)(N:Nat)(V:Tx->List Pl)(g b:W5),PI d N V->(∀s∈a,s<t.length)->N+121*a.length<16000000 →
  ∃o D E,forL (aU 4) fU (a.map λ(s:Nat)=>T.int (s:Int)) (EP f d (Q0 n) (Q1 t) g b)=some (.nx (EP f o (Q0 n) (Q1 t) D E))/\PI o (N+121*a.length) λw=>V w++hS t n a w:=by
 induction a with
 |nil=>exact λd N V g b h _ _=>⟨d,g,b,rfl,h.to (Zh _) λw _=>(ZV _).symm⟩
 |cons s a y =>
  intro d N V g b h q hN;rw[Zk]at hN;have G:=q s Zx;obtain⟨u,p,e1,r⟩:=Vi f n t s (List.range' (s+1) (t.length-s)) d N V b h (λe B=>by have:=Xa.mp B;omega) (by rw[YI];omega);rw[YI]at r;obtain⟨o,x,v,C,z⟩:=y u (N+121) _ (Q0 s) p (r.to (by omega) λ_ _=>rfl) (λi A=>q i (Zy _ A)) (by omega);refine⟨o,x,v,?_,z.to (by rw[Zk];omega) λw _=>?_⟩
  ·have bo:fU (EP f d (Q0 n) (Q1 t) (Q0 s) b)=some (.nx (EP f u (Q0 n) (Q1 t) (Q0 s) p)):=by
    refine(bU (m:=.fr) ?_ rfl).trans e1;rw[tF (m:=.fr) (n:=.fr) (i:=(s:Int)+1) (j:=(t.length:Int)+1) rfl rfl (by omega),show ((t.length:Int)+1-((s:Int)+1)).toNat=t.length-s by omega];unfold rng;rw[List.range'_eq_map_range,Ig];refine congrArg (λl=>some (Md.fr,l)) (YR λk _=>?_);show T.int ((s:Int)+1+(k:Int))=T.int ((s+1+k:Nat):Int);congr 1
   rw[Zl,cA rfl bo,C]
  ·unfold hS;rw[Wc,ZM]
def uX(l:List Pl):cZ (l.map tP)=true:=hZ tP (λ_=>rfl) l
def Vg(f:T)(n:Nat)(t:Tx)(C:t.length<=120)(d:Fd)(N:Nat)(V:Tx->List Pl)(i g:W5)(h:PI d N V)(M:N+20000<16000000) :
  ∃o r u,gf (EP f d (Q0 n) (Q1 t) i g)=some (.nx (EP f o (Q0 n) (Q1 t) r u))/\PI o (N+20000) λw=>V w++hS t n (List.range t.length) w:=by
 obtain⟨l,b,rfl,y⟩:=h.hd;have F:l.length<=N:=h.sz.2 _ Zx;have A:e2 HR (aa 1) (eC (.str [])) (EP f (([],l) :: b) (Q0 n) (Q1 t) i g)=some (.bo,.lst (l.map tP)):=rfl;have z:=fR (k:=1) (tg:=aU 0) (it:=bV (e2 bg (eN bx (ab (aa 3) ah)) (Q2 1))) (elt:=fB (ab (aa 3) (ab (aa 0) ah))) (m:=.fr) (J:=EP f (([],l) :: b) (Q0 n) (Q1 t) i g) (λ(j:Nat)=>T.int (j:Int)) (λj=>tP (n,j)) (List.range (t.length+1)) (by
   rw[fT (m:=.fr) (j:=(t.length:Int)+1) rfl (by omega),iS];rfl) rfl (by rw[ZJ];omega) λj L=>⟨_,rfl,rfl⟩
 have v:e2 bg (e2 HR (aa 1) (eC (.str []))) (cz 1 (aU 0) (bV (e2 bg (eN bx (ab (aa 3) ah)) (Q2 1))) none (fB (ab (aa 3) (ab (aa 0) ah)))) (EP f (([],l) :: b) (Q0 n) (Q1 t) i g)=some (.fr,.lst ((l++(List.range (t.length+1)).map λj=>(n,j)).map tP)):=by
  refine e2v A z ?_;show IZ _ (l.map tP++(List.range (t.length+1)).map λj=>tP (n,j))=_;rw[show l.map tP++(List.range (t.length+1)).map (λj=>tP (n,j))=(l++(List.range (t.length+1)).map λj=>(n,j)).map tP from by rw[Jv,Ig];rfl,lb (by rw[Zu,Zs,Zu,ZJ];omega),Zq (uX _)]
 generalize G:(l++(List.range (t.length+1)).map λj=>(n,j))=l2 at v;have H:l2.length<=N+121:=by rw[← G,Zs,Zu,ZJ];omega
 have s1:su 1 (eC (.str [])) (e2 bg (e2 HR (aa 1) (eC (.str []))) (cz 1 (aU 0) (bV (e2 bg (eN bx (ab (aa 3) ah)) (Q2 1))) none (fB (ab (aa 3) (ab (aa 0) ah))))) (EP f (([],l) :: b) (Q0 n) (Q1 t) i g)=some (.nx (EP f (([],l2) :: b) (Q0 n) (Q1 t) i g)):=by
  unfold su;rw[v];show (if fL (.str [])=true/\eqT (.str []) (.str [])=true/\((dT b).all λp=>!eqT p.1 (.str []))=true/\(dT b).length+1<16777216 then _ else _)=_;refine Zq ⟨rfl,rfl,Ja.mpr λp E=>?_,?_⟩
  ·obtain⟨q,a,rfl⟩:=ZF.mp E;have:eqT (T.str q.1) (.str [])=false:=by simpa using y q a
   show (!eqT (T.str q.1) (.str []))=true;rw[this];rfl
  ·have:=h.sz.1;unfold dT;rw[Zu];rw[Zk]at this;omega
 have B:PI (([],l2) :: b) (N+121) V:=⟨⟨l2,b,rfl,y⟩,⟨by have:=h.sz.1;rw[Zk]at this ⊢;omega,λq a=>by
  rcases Zo.mp a with rfl | a
  ·exact H
  ·have:=h.sz.2 q (Zy _ a);omega⟩,λw hw=>by
  rw[← h.lo w hw,cw,cw,Zp (Yq hw),Zp (Yq hw)],λw hw=>by
  rw[← h.ks w hw];constructor
  ·rintro⟨q,a,e⟩;rcases Zo.mp a with rfl | a
   ·exact⟨_,Zx,e⟩
   ·exact⟨q,Zy _ a,e⟩
  ·rintro⟨q,a,e⟩;rcases Zo.mp a with rfl | a
   ·exact⟨_,Zx,e⟩
   ·exact⟨q,Zy _ a,e⟩⟩
 obtain⟨o,r,u,e1,x⟩:=Vh f n t C (List.range t.length) (([],l2) :: b) (N+121) V i g B (λs D=>Yu.mp D) (by rw[ZJ];omega);rw[ZJ]at x;refine⟨o,r,u,(au s1).trans ((bU (m:=.fr) ?_ rfl).trans e1),x.to (by omega) λ_ _=>rfl⟩;rw[fT (m:=.fr) (j:=(t.length:Int)) rfl (by omega),iS];rfl
def Vf(i:T)(l:List Tx):∀(n:Nat)(d:Fd)(N:Nat)(V:Tx->List Pl)(f e b a:W5),(∀t∈l,t.length<=120)->PI d N V->N+20000*l.length<16000000 →
  ∃g C D E F,forL (iY [aU 2,aU 3]) gf ((l.zipIdx n).map λp=>T.tup [.int p.2,.str p.1]) (EP i d f e b a)=some (.nx (EP i g C D E F))/\PI g (N+20000*l.length) λw=>V w++(l.zipIdx n).flatMap λp=>hS p.1 p.2 (List.range p.1.length) w:=by
 induction l with
 |nil=>exact λn d N V f e b a _ h _=>⟨d,f,e,b,a,rfl,h.to (Zh _) λw _=>(ZV _).symm⟩
 |cons t l v =>
  intro n d N V f e b a j h hN;rw[Zk]at hN;obtain⟨B,o,m,e1,z⟩:=Vg i n t (j t Zx) d N V b a h (by omega);obtain⟨g,x2,u,r,q,A,x⟩:=v (n+1) B (N+20000) _ (Q0 n) (Q1 t) o m (λs y=>j s (Zy _ y)) z (by omega);refine⟨g,x2,u,r,q,?_,x.to (by rw[Zk];omega) λw _=>?_⟩
  ·rw[XO,Zl,cA (J1:=EP i d (Q0 n) (Q1 t) b a) rfl e1,A]
  ·rw[XO,Wc,ZM]
def Ek(t:Tx)(n:Nat){w:Tx}(hw:w≠[]):hS t n (List.range t.length) w=(Ni w t).map λe=>(n,e):=by
 have A:=List.length_pos_iff.mpr hw;have e1:hS t n (List.range t.length) w=((List.range t.length).flatMap λs=>(List.range' (s+1) (t.length-s)).filter λe=>decide (pt t s e=w)).map λe=>(n,e):=by
  unfold hS hE;rw[List.map_flatMap]
 rw[e1];congr 1;have len:∀{s e:Nat},s<e->e<=t.length->pt t s e=w->e=s+w.length:=λ{s e} f d i=>by
  have:=congrArg List.length i;unfold pt at this;rw[YX,Yh]at this;omega
 have mem:∀{s e:Nat},(e∈(List.range' (s+1) (t.length-s)).filter λe=>decide (pt t s e=w))->s<e/\e<s+1+(t.length-s)/\pt t s e=w:=λh=>by
  obtain⟨f,d⟩:=Yj.mp h;have:=Xa.mp f;exact⟨this.1,this.2,of_decide_eq_true d⟩
 refine D6 (List.pairwise_flatMap.mpr ⟨λs g=>XG _ X3,List.pairwise_lt_range.imp_of_mem λ{a b} j hb B x r y q=>?_⟩) (XG _ List.pairwise_lt_range) λe=>?_
 ·have j:=Yu.mp j;have hb:=Yu.mp hb;obtain⟨p,x2,o⟩:=mem r;obtain⟨m,z,l⟩:=mem q;have:=len p (by omega) o;have:=len m (by omega) l;omega
 ·unfold Ni;rw[List.mem_flatMap,Yj,Yu,Yb];constructor
  ·rintro⟨s,g,v⟩;have g:=Yu.mp g;obtain⟨f,d,i⟩:=mem v;refine⟨by omega,?_⟩;have:pt t s e=(t.take e).drop s:=by unfold pt;rw[List.drop_take]
   rw[← i,this];exact List.drop_suffix _ _
  ·rintro⟨f,a,d⟩;have u:=congrArg List.length d;rw[Zs,YX]at u;refine⟨a.length,Yu.mpr (by omega),Yj.mpr ⟨Xa.mpr (by omega),ZP ?_⟩⟩;unfold pt;rw[← List.drop_take,← d,List.drop_left]
noncomputable def Pt(a:List Tx)(w:Tx):Prop:=w=[]\/∃t∈a,w <:+: t
def vb{d:List Tx}{w:Tx}{p:Pl}:p∈IW d w ↔ ∃t,d[p.1]?=some t/\p.2<=t.length/\w <:+ t.take p.2:=by
 unfold IW;rw[List.mem_flatMap];constructor
 ·rintro⟨⟨t,n⟩,f,h⟩;obtain⟨e,g,rfl⟩:=ZF.mp h;obtain⟨b,a⟩:=Yj.mp g;have:=Yu.mp b;exact⟨t,by simpa using List.mem_zipIdx_iff_getElem?.mp f,Nat.le_of_lt_succ this,Yb.mp a⟩
 ·rintro⟨t,b,a,i⟩;exact⟨(t,p.1),List.mem_zipIdx_iff_getElem?.mpr b,ZF.mpr ⟨p.2,Yj.mpr ⟨Yu.mpr (Nat.lt_succ_of_le a),Yb.mpr i⟩,rfl⟩⟩
def tD{d:List Tx}{w:Tx}(hw:w≠[]):IW d w≠[]↔Pt d w:=by
 rw[show IW d w≠[] ↔ ∃p,p∈IW d w from⟨λh=>List.exists_mem_of_ne_nil _ h,λ⟨p,h⟩ e=>by rw[e]at h;cases h⟩];constructor
 ·rintro⟨p,g⟩;obtain⟨t,m,_,l⟩:=vb.mp g;exact .inr ⟨t,Yc m,l.isInfix.trans (WY _ _).isInfix⟩
 ·rintro (h | ⟨t,f,a,b,e⟩)
  ·exact absurd h hw
  ·obtain⟨i,j⟩:=List.mem_iff_getElem?.mp f;refine⟨(i,(a++w).length),vb.mpr ⟨t,j,by rw[← e,Zs (as:=a++w)];omega,?_⟩⟩;show w <:+ t.take (a++w).length;rw[← e,List.take_left];exact List.suffix_append a w
def Bg(b:List Tx)(r:b.length<=8)(o:∀t∈b,t.length<=120):∃d:Fd,fg [.lst (b.map .str)]=some (.fr,.dct 0 (dT d))/\(∀w,w≠[]->look d w=IW b w)/\(∀w,w≠[]->((∃q∈d,q.1=w)↔Pt b w))/\Sz 1000000 d:=by
 obtain⟨d,n,j,i,g,e,p⟩:=Vf (.lst (b.map .str)) b 0 [([],[])] 1 (λ_=>[]) none none none none o ⟨⟨[],[],rfl,λ_ h=>nomatch h⟩,⟨Zh _,λq f=>by rw[Zj.mp f];exact Yv _⟩,λw hw=>by rw[cw,Zp (Yq hw)];rfl,λw hw=>⟨λ⟨q,f,e⟩=>absurd (by rw[Zj.mp f]at e;exact e.symm) hw,λa=>absurd rfl a⟩⟩ (by omega);have ev:∀w,w≠[]->(([]:List Pl)++(b.zipIdx 0).flatMap λp=>hS p.1 p.2 (List.range p.1.length) w)=IW b w:=λw hw=>by
  rw[YD];unfold IW;congr 1;exact funext λp=>Ek p.1 p.2 hw
 refine⟨d,?_,λw hw=>(p.lo w hw).trans (ev w hw),λw hw=>(p.ks w hw).trans (by rw[ev w hw];exact tD hw),(p.to (U:=_) (M:=1000000) (by omega) λ_ _=>rfl).sz⟩;refine eD (J:=[pc (.lst (b.map .str)),none,n,j,i,g]) rfl ((au (J1:=EP (.lst (b.map .str)) [([],[])] none none none none) rfl).trans ((au ((bU (m:=.pu) (l:=(b.zipIdx 0).map λp=>T.tup [.int p.2,.str p.1]) ?_ rfl).trans e)).trans rfl));rw[← enum_zip];rfl
end T35
end
section
namespace AU
section
variable{S:St}{nd:Wd->Option Nat}{wd:List Wd}{P:Wd->Prop}
def I.MC(H:I none S nd wd):∀(z u:Wd){n:Nat},nd (u++z)=some n->∃m,nd u=some m:=by
 intro z
 induction z with
 |nil=>intro u n h;rw[ZV]at h;exact⟨n,h⟩
 |cons c z a =>
  intro u n h;rw[XM]at h;obtain⟨m,b⟩:=a _ h;exact H.pre b
def I.ext(H:I none S nd wd):∀(z x y:Wd){n:Nat},nd x=some n->nd y=some n->nd (x++z)=nd (y++z):=by
 intro z
 induction z with
 |nil=>intro x y n d b;rw[ZV,ZV,d,b]
 |cons c z h =>
  intro x y n d b;rw[XM x,XM y];have e:nd (x++[c])=nd (y++[c]):=(H.wy d c).symm.trans (H.wy b c);cases a:nd (x++[c]) with
  |some m=>exact h _ _ a (e ▸ a)
  |none =>
   have f:∀u,nd u=none->nd (u++z)=none:=λu j=>by
    cases i:nd (u++z) with
    |none=>rfl
    |some k =>
     obtain⟨m,g⟩:=H.MC z u i;rw[j]at g;cases g
   rw[f _ a,f _ (e ▸ a)]
def I.head(H:I none S nd wd){n:Nat}(g:n<wd.length){x y:Wd}(e:W wd n=x++y):∃m,m<wd.length/\W wd m=x:=by
 have f:=H.top g;have a:=f;rw[e]at a;obtain⟨m,b⟩:=H.MC y x a;have d:=H.lt b;refine⟨m,d,?_⟩;have:=H.ext y _ _ b (H.top d);rw[a]at this;have s:=(H.sf this.symm).length_le;rw[e,Zs,Zs]at s;exact((H.sf b).eq_of_length_le (by omega)).symm
noncomputable def ends(b:List Wd):List Wd:=b.flatMap λt=>(List.range t.length).map λk=>t.drop k
def uJ{l:W0}(a:l.Nodup){k:Nat}(h:k<l.length):l.idxOf l[k]=k:=by
 have b:=Yr.mpr (ZG h);exact(WT a).mp (YH b)
end
noncomputable def MA(S:St)(t:Nat):Nat:=match S.lk.getD t none with
 |none=>0
 |some m=>S.lg.getD m 0+1
noncomputable def sw(S:St)(a:List Wd)(t:Nat):Wd:=(W a t).drop ((W a t).length-MA S t)
noncomputable def Lf(a b:Wd):Prop:=a.length<b.length\/a.length=b.length/\a<b
section
variable{P:Wd->Prop}{S:St}{nd:Wd->Option Nat}{wd:List Wd}(H:I none S nd wd)
include H
theorem I.sh{t:Nat}(a:t<wd.length):MA S t<=(W wd t).length/\∀y,nd y=some t↔y <:+ W wd t/\MA S t<=y.length:=by
 unfold MA;by_cases h:t=0
 ·subst h;rw[H.LH,H.wz];exact⟨Yv _,λy=>⟨λz=>⟨by rw[H.zero z];exact ZA _,Yv _⟩,λz=>by rw[Yk.mp z.1];exact H.z⟩⟩
 ·obtain⟨m,e,⟨f,_⟩,g,d,b⟩:=H.lk (Ym h) a (by simp);rw[e];show S.lg.getD m 0+1<=_/\∀y,_↔_/\S.lg.getD m 0+1<=_;rw[H.lg m f];exact⟨d,λy=>⟨λz=>⟨H.sf z,(H.low (by simp) e z).1⟩,λz=>b y z.1 z.2⟩⟩
theorem I.KL{t:Nat}(a:t<wd.length):(sw S wd t).length=MA S t:=by
 have:=(H.sh a).1;unfold sw;rw[Yh];omega
theorem I.HK{t:Nat}(a:t<wd.length):nd (sw S wd t)=some t:=((H.sh a).2 _).mpr ⟨List.drop_suffix _ _,by rw[H.KL a];exact Zh _⟩
theorem I.JW{t:Nat}{y:Wd}(h:nd y=some t):(sw S wd t).length<=y.length:=by
 have a:=H.lt h;rw[H.KL a];exact(((H.sh a).2 y).mp h).2
theorem I.sw_eq{t:Nat}{y:Wd}(h:nd y=some t)(a:y.length=(sw S wd t).length):y=sw S wd t :=
 (cn (H.sf h) (H.sf (H.HK (H.lt h))) (by omega)).eq_of_length a
theorem I.L1{t:Nat}(f:t<wd.length)(h:t≠0):∃q c,q<wd.length/\sw S wd t=sw S wd q++[c]:=by
 have b:=H.HK f;have i:sw S wd t≠[]:=λz=>by rw[z,H.z]at b;exact h (Zm b).symm
 obtain⟨x,c,d⟩:∃x c,sw S wd t=x++[c]:=⟨_,_,(List.dropLast_concat_getLast i).symm⟩
 rw[d]at b;obtain⟨q,a⟩:=H.pre b;refine⟨q,c,H.lt a,?_⟩;have g:nd (sw S wd q++[c])=some t:=by rw[← H.wy (H.HK (H.lt a)) c,H.wy a c];exact b
 have e:=H.JW g;have j:=H.JW a;rw[d,Zs,Zs]at e;rw[d,← H.sw_eq a (by simp at e;omega)]
end
def xO{a b:Wd}(h:Lf a b)(c d:Nat):Lf (a++[c]) (b++[d]):=by
 rcases h with h | ⟨h,g⟩
 ·exact .inl (by rw[Zs,Zs];exact Nat.add_lt_add_right h 1)
 ·refine .inr ⟨by rw[Zs,Zs,h];rfl,?_⟩;have:∀(a b:Wd),a.length=b.length->a<b->a++[c]<b++[d]:=by
   intro a
   induction a with
   |nil=>intro b hb e;cases b with
    |nil=>exact absurd e (XZ _)
    |cons=>cases hb
   |cons x a f =>
    intro b hb e;cases b with
    |nil=>cases hb
    |cons y b =>
     rw[Y5,Y5];rcases Yf.mp e with z | ⟨rfl,z⟩
     ·exact Yf.mpr (.inl z)
     ·exact Yf.mpr (.inr ⟨rfl,f b (Nat.succ.inj hb) z⟩)
  exact this a b h g
def yO{a:Wd}{c d:Nat}(h:c<d):Lf (a++[c]) (a++[d]):=by
 refine .inr ⟨by rw[Zs,Zs];rfl,?_⟩
 induction a with
 |nil=>exact Yf.mpr (.inl h)
 |cons x a b=>exact Yf.mpr (.inr ⟨rfl,b⟩)
def Lf.le{a b:Wd}(h:Lf a b):a.length<=b.length:=h.elim X7 λh=>X8 h.1
structure Ord(S:St)(wd:List Wd)(met:W0)(d:Nat):Prop where
 pw:met.Pairwise λs t=>Lf (sw S wd s) (sw S wd t)
 mem:∀x∈met,x<wd.length
 z:0∈met
 dn:∀q∈met.take d,∀c t,gW (S.wy.getD q []) c=some t->t∈met
 par:∀x∈met,x=0\/∃q c,q∈met.take d/\sw S wd x=sw S wd q++[c]
section
variable{S:St}{nd:Wd->Option Nat}{wd:List Wd}(H:I none S nd wd)
include H
theorem I.UX:sw S wd 0=[]:=by
 unfold sw;rw[H.wz];exact List.drop_nil
theorem Ord.out{a:W0}{d p:Nat}(g:Ord S wd a d)(o:d<a.length)(m:a[d]=p):∀(n z:Nat),(sw S wd z).length<=n->z<wd.length->z∉a->(sw S wd p).length<(sw S wd z).length:=by
 have cut:=List.take_append_drop d a;rw[Yn o,m]at cut;intro n
 induction n with
 |zero =>
  intro z i b f;obtain⟨q,c,_,e⟩:=H.L1 b λh=>f (h ▸ g.z);rw[e,Zs]at i;exact absurd i (Nat.not_succ_le_zero _)
 |succ n l =>
  intro z i b f;obtain⟨q,c,j,e⟩:=H.L1 b λh=>f (h ▸ g.z);have r:(sw S wd z).length=(sw S wd q).length+1:=by rw[e,Zs];rfl
  have hw:gW (S.wy.getD q []) c=some z:=by rw[H.wy (H.HK j) c,← e];exact H.HK b
  by_cases h:q∈a
  ·rw[← cut]at h;rcases Ze.mp h with h | h
   ·exact absurd (g.dn q h c z hw) f
   ·have pw:=g.pw;rw[← cut]at pw;rcases Zo.mp h with rfl | h
    ·omega
    ·have:=(Xe.mp (Wv.mp pw).2.1).1 q h;have:=this.le;omega
  ·have:=l q (by omega) j h;omega
theorem Ord.visit{a:W0}{d p:Nat}(m:Ord S wd a d)(w:d<a.length)(o:a[d]=p):∀(r new:W0),r.Pairwise (· < ·)->(∀c∈r,∃t,gW (S.wy.getD p []) c=some t)->(a++new).Pairwise (λs t=>Lf (sw S wd s) (sw S wd t))->(∀x∈new,x<wd.length/\∃c,sw S wd x=sw S wd p++[c]/\∀f∈r,c<f) →
  ∃n,AU.visit (S.wy.getD p []) r (a++new)=a++n/\(a++n).Pairwise (λs t=>Lf (sw S wd s) (sw S wd t))/\∀x∈n,x<wd.length/\∃c,sw S wd x=sw S wd p++[c]:=by
 have N:p∈a:=by rw[← o];exact ZG w
 have O:=m.mem p N;have cut:=List.take_append_drop d a;rw[Yn w,o]at cut;intro r
 induction r with
 |nil=>exact λnew _ _ l i=>⟨new,rfl,l,λx b=>⟨(i x b).1,(i x b).2.imp λc h=>h.1⟩⟩
 |cons c r A =>
  intro new J hg l i;obtain⟨t,B⟩:=hg c Zx;obtain⟨M,D⟩:=Xe.mp J;have E:∀x∈new,x<wd.length/\∃c,sw S wd x=sw S wd p++[c]/\∀f∈r,c<f:=λx b=>⟨(i x b).1,(i x b).2.imp λc h=>⟨h.1,λf g=>h.2 f (Zy _ g)⟩⟩
  show ∃n,AU.visit (S.wy.getD p []) r (if (gW (S.wy.getD p []) c).getD 0∈a++new then a++new else a++new++[(gW (S.wy.getD p []) c).getD 0])=_/\_;rw[B,Y4];by_cases v:t∈a++new
  ·rw[Zq v];exact A new D (λf g=>hg f (Zy _ g)) l E
  ·rw[Zp v];have u:nd (sw S wd p++[c])=some t:=by rw[← H.wy (H.HK O) c];exact B
   have C:=H.lt u;have P:=m.out H w o _ t (Zh _) C λz=>v (Kc _ z);have hle:=H.JW u;rw[Zs,ZL]at hle;have F:sw S wd t=sw S wd p++[c]:=(H.sw_eq u (by rw[Zs,ZL];omega)).symm;have:=A (new++[t]) D (λf g=>hg f (Zy _ g)) (by
    rw[← ZM];refine Wv.mpr ⟨l,List.pairwise_singleton _ _,λz j y G=>?_⟩;rw[Zj.mp G,F];rcases Ze.mp j with j | j
    ·rcases m.par z j with rfl | ⟨q,f,L,e⟩
     ·rw[H.UX];exact .inl (by rw[Zs];exact Nat.succ_pos _)
     ·rw[e];have pw:=m.pw;rw[← cut]at pw;exact xO ((Wv.mp pw).2.2 q L p Zx) _ _
    ·obtain⟨_,f,e,g⟩:=i z j;rw[e];exact yO (g c Zx)) (λx b=>by
    rcases Ze.mp b with b | b
    ·exact E x b
    ·rw[Zj.mp b];exact⟨C,c,F,M⟩)
   rw[← ZM]at this;exact this
theorem Ord.IB:∀(k:Nat)(met:W0)(d:Nat)(M:W0),Ord S wd met d->AU.IB S k met d=some M->M.Pairwise λs t=>Lf (sw S wd s) (sw S wd t):=by
 intro k
 induction k with
 |zero =>
  intro met d M b e;unfold AU.IB at e;split at e
  ·cases e
  ·cases e;exact b.pw
 |succ k o =>
  intro met d M b e;unfold AU.IB at e;split at e
  ·rename_i hd;have hg:met.getD d 0=met[d]:=by rw[Zv,Zt hd];rfl
   rw[hg]at e;obtain⟨new,e1,u,m⟩:=b.visit H hd rfl (sk (S.wy.getD met[d] [])) [] (XG _ X3) (λc j=>jC j) (by rw[ZV];exact b.pw) (λx h=>nomatch h);rw[ZV]at e1;have n:=lj (w:=S.wy.getD met[d] []) (sk (S.wy.getD met[d] [])) met;rw[e1]at e n;have v:met[d]∈met:=ZG hd;have l:(met++new).take (d+1)=met.take d++[met[d]]:=by
    rw[List.take_append_of_le_length (by omega),List.take_succ,Zt hd];rfl
   refine o (met++new) (d+1) M ⟨u,λx a=>?_,Kc _ b.z,λq f c t g=>?_,λx a=>?_⟩ e
   ·rcases Ze.mp a with a | a
    ·exact b.mem x a
    ·exact(m x a).1
   ·rw[l]at f;rcases Ze.mp f with f | f
    ·exact Kc _ (b.dn q f c t g)
    ·rw[Zj.mp f]at g;have j:c∈sk (S.wy.getD met[d] []):=by
      by_cases i:met[d]<S.wy.length
      ·refine tV (λp r=>H.wf.az (S.wy.getD met[d] []) ?_ p r) g;rw[Zv,Zt i];exact ZG i
      ·rw[Zv,Kk (ZE i)]at g;cases g
     have:=n c j;rw[g,Y4]at this;exact this
   ·rw[l];rcases Ze.mp a with a | a
    ·exact(b.par x a).imp id λ⟨q,c,f,e⟩=>⟨q,c,Kc _ f,e⟩
    ·obtain⟨_,c,e⟩:=m x a;exact .inr ⟨_,c,ZU _ (Zj.mpr rfl),e⟩
  ·cases e;exact b.pw
theorem I.order{k:Nat}{M:W0}(e:AU.IB S k [0] 0=some M):M.Pairwise λs t=>Lf (sw S wd s) (sw S wd t) :=
 Ord.IB H k [0] 0 M ⟨List.pairwise_singleton _ _,λx h=>by rw[Zj.mp h];exact H.lt H.z,Zj.mpr rfl,(λq h=>nomatch h),λx h=>.inl (Zj.mp h)⟩ e
end
end AU
end
section
namespace T35
open VS AU
def vR{α:Type}{m n:Md}(f:α->T)(l:List α)(d:α)(h:0<l.length):aD (m,.lst (l.map f)) (n,.int (-1))=some (sub m (f (l.getD (l.length-1) d))):=by
 show ((Hu (l.map f).length (-1)).bind _)=_;have:Hu (l.map f).length (-1)=some (l.length-1):=by
  unfold Hu;rw[Zu,Zp (by decide),Zq (by omega)];congr 1;omega
 rw[this,Zr,ZY,Zv,Zt (by omega)];rfl
noncomputable abbrev IQ(l:W0):T:=.lst (l.map λ(n:Nat)=>T.int (n:Int))
noncomputable abbrev ix(a:List Tx)(m:Nat):Nat:=(ar a).idxOf m
noncomputable def num(b:List Tx)(a:Wd->Option Nat)(w:Tx):Nat:=(ar b).idxOf ((a w).getD 0)
noncomputable def vB(v:Nat×Nat):T:=.tup [.int (v.1:Int),.str [v.2]]
noncomputable abbrev Bm:=List (Nat×(Nat×Nat))
noncomputable def bT(m:Bm):List (T×T):=m.map λp=>(T.int (p.1:Int),vB p.2)
noncomputable def nW(m:Bm)(j:Nat)(v:Nat×Nat):Bm:=if j∈m.map (·.1) then m.map (λp=>if p.1=j then (p.1,v) else p) else m++[(j,v)]
def oT(a b:Nat):eqT (T.int (a:Int)) (T.int (b:Int))=decide (a=b):=by
 simp only[eqT];by_cases h:a=b
 ·simp[h]
 ·have d:¬(a:Int)=(b:Int):=by omega
  rw[Zc h];exact beq_eq_false_iff_ne.mpr d
def Aq(m:Bm)(j:Nat)(v:Nat×Nat):dput (bT m) (.int (j:Int)) (vB v)=bT (nW m j v):=by
 have e:(bT m).any (λp=>eqT p.1 (.int (j:Int)))=decide (j∈m.map (·.1)):=by
  induction m with
  |nil=>rfl
  |cons a m d =>
   rw[show bT (a :: m)=(T.int (a.1:Int),vB a.2) :: bT m from rfl,YU,d,oT,Zl];by_cases q:a.1=j
   ·simp[q]
   ·have b:¬j=a.1:=λz=>q z.symm;simp[q,b]
 unfold dput nW;rw[e];by_cases q:j∈m.map (·.1)
 ·rw[Zq (by simpa using q),Zq q];unfold bT;rw[Ig,Ig];apply YR;intro p _;simp only[Function.comp,oT];by_cases r:p.1=j
  ·simp[r]
  ·simp[r]
 ·rw[Zp (by simpa using q),Zp q];simp[bT]
def xw(m:Bm)(j:Nat)(v:Nat×Nat):(nW m j v).length<=m.length+1:=by
 unfold nW;split<;>simp
def oZ(m:Bm)(j:Nat)(v:Nat×Nat)(k:Nat)(h:k∈m.map (·.1)\/k=j):k∈(nW m j v).map (·.1):=by
 unfold nW;split
 ·rename_i q;have b:k∈m.map (·.1):=h.elim id λz=>z ▸ q;obtain⟨p,a,rfl⟩:=ZF.mp b;refine ZF.mpr ⟨_,ZF.mpr ⟨p,a,rfl⟩,?_⟩;by_cases r:p.1=j
  ·rw[Zq r]
  ·rw[Zp r]
 ·rw[Jv,Ze];exact h.imp id λz=>by simp[z]
def zb(m:Bm)(j:Nat)(v:Nat×Nat)(q:Nat×(Nat×Nat))(h:q∈nW m j v):q∈m\/q=(j,v):=by
 unfold nW at h;split at h
 ·obtain⟨p,a,rfl⟩:=ZF.mp h;by_cases r:p.1=j
  ·rw[Zq r];right;rw[r]
  ·rw[Zp r];exact .inl a
 ·rcases Ze.mp h with h | h
  ·exact .inl h
  ·exact .inr (Zj.mp h)
def GA(m:Bm)(i:Nat)(h:i∈m.map (·.1)):∃v,cR (bT m) (.int (i:Int))=some (vB v)/\(i,v)∈m:=by
 induction m with
 |nil=>simp at h
 |cons a m d =>
  obtain⟨j,v⟩:=a;rw[show bT ((j,v) :: m)=(T.int (j:Int),vB v) :: bT m from rfl];unfold cR;by_cases q:j=i
  ·subst q;exact⟨v,by rw[IV,oT];simp,Zx⟩
  ·rw[IV,oT,Zc q];rw[Zl,Zo]at h;obtain⟨b,f,e⟩:=d (h.resolve_left λz=>q z.symm);exact⟨b,f,Zy _ e⟩
def A6{i:Nat}{k e:Ex}{J:Env}{l:List (T×T)}{kv v:T}{m n:Md}(h:J[i]?=some (some (.ow (.dct 0 l))))(b:e J=some (m,v))(a:k J=some (n,kv))(g:fL kv=true)(f:GO v=true)(d:l.length<16777216):lH i k e J=some (.nx (J.set i (some (.ow (.dct 0 (dput l kv v)))))):=by
 unfold lH;rw[b,Zr,h,a];exact Zq ⟨g,f,d⟩
noncomputable def IA(S:St):Nat->Nat->W0
 |0,m=>[m]
 |k+1,m=>m :: match S.lk.getD m none with
  |none=>[]
  |some r=>IA S k r
def BM{l:W8}{i:Nat}(a:i<l.length):aG [.lst l,.int (i:Int)]=some (.fr,.non):=by
 refine Ei (J:=[pc (.lst l),Q0 (i:Int)]) rfl ?_;refine(pq (m:=.fr) (BZ (m:=.fr) (x:=false) ?_ (λ_=>?_) (λh=>by cases h))).trans rfl
 ·exact tm (m:=.fr) (b:=true) rfl
 ·refine tm (m:=.fr) (b:=true) (l5 (x:=(.fr,.int 0)) (y:=(.fr,.int (i:Int))) (z:=(.fr,.int (l.length:Int))) rfl rfl ?_ (kD (xv (x:=(.pu,.lst l)) rfl rfl) rfl) ?_)
  ·show some (Md.fr,T.bl (decide ((0:Int)<=(i:Int))))=_;rw[ZP (by omega)]
  ·show some (Md.fr,T.bl (decide ((i:Int)<(l.length:Int))))=_;rw[ZP (by omega)]
section
variable{bk:List Tx}{nd:Wd->Option Nat}{wd:List Wd}(H:K (Hd bk) (aI bk) nd wd)(hM:∀x,x∈ar bk↔x<(aI bk).lg.length)(h0:(ar bk).idxOf 0=0)
include hM
theorem B1{m:Nat}(a:m<(aI bk).lg.length):ix bk m<(tabOf bk).length:=by
 unfold tabOf tab;rw[Zu];exact Yr.mpr ((hM m).mpr a)
theorem pC{m:Nat}(e:m<(aI bk).lg.length){a b:Ex}{J:Env}{n:Md}(g:a J=some (.pu,G0 (tabOf bk)))(f:b J=some (n,.int (ix bk m:Int))):e2 aD a b J=some (.fr,fe (row (aI bk) (ar bk) m)):=by
 refine e2v g f ?_;have d:ix bk m<(ar bk).length:=Yr.mpr ((hM m).mpr e);unfold G0 tabOf tab;rw[Ig,o5 (fe ∘ row (aI bk) (ar bk)) (ar bk) (ix bk m) 0 d,Zv,Zt d];show some (up .pu (fe (row (aI bk) (ar bk) (ar bk)[ix bk m])))=_;rw[show (ar bk)[ix bk m]=m from YH _];unfold up;rw[qg];rfl
include H
theorem Do{m:Nat}(a:m<wd.length):(row (aI bk) (ar bk) m).2.1=(W wd m).length:=by
 unfold row;rw[← H.i.lg m a];split
 ·rename_i h;by_cases h0:m=0
  ·rw[h0,H.i.lg 0 (by omega),H.i.wz];rfl
  ·obtain⟨r,e,_⟩:=H.i.lk (Ym h0) a (by simp);rw[h]at e;cases e
 ·rfl
include h0
noncomputable def wl(b:List Tx)(a:Wd->Option Nat)(p:Tx):W0:=(List.range (p.length+1)).map λi=>num b a (p.take i)
omit H hM h0 in
theorem AO(p:Tx)(c:Nat):wl bk nd (p++[c])=wl bk nd p++[num bk nd (p++[c])]:=by
 unfold wl;rw[Zs,ZL,List.range_succ,Jv];congr 1
 ·refine YR λi a=>?_;have:=Yu.mp a;rw[List.take_append_of_le_length (by omega)]
 ·show [num bk nd ((p++[c]).take (p.length+1))]=_;rw[YT (by rw[Zs];exact Zh _)]
omit H hM h0 in
theorem p7{w:Tx}{m:Nat}(h:nd w=some m):num bk nd w=ix bk m:=by
 unfold num;rw[h];rfl
theorem wk(b:Tx):∀(v p:Tx)(f d:W5),(nd (p++v)).isSome=true->Az v->p.length+v.length<1000000->∃h g,forL (aU 3) oX (v.map s1) [pc (G0 (tabOf bk)),Q1 b,oc (IQ (wl bk nd p)),f,d]=some (.nx [pc (G0 (tabOf bk)),Q1 b,oc (IQ (wl bk nd (p++v))),h,g]):=by
 intro v
 induction v with
 |nil=>exact λp f d _ _ _=>⟨f,d,by rw[ZV];rfl⟩
 |cons c v w =>
  intro p f d j t B;rw[Zk]at B;obtain⟨F,u⟩:=Yi.mp j;rw[XM]at u j;obtain⟨s,q⟩:=H.i.MC v (p++[c]) u;obtain⟨m,o⟩:=H.i.pre q;have E:m<(aI bk).lg.length:=by rw[← H.i.len];exact H.i.lt o
  have D:(wl bk nd p).length=p.length+1:=by unfold wl;rw[Zu,ZJ]
  have z:e2 aD (aa 2) (Q2 (-1)) [pc (G0 (tabOf bk)),Q1 b,oc (IQ (wl bk nd p)),pc (s1 c),d]=some (.fr,.int (ix bk m:Int)):=by
   refine e2v (x:=(.bo,IQ (wl bk nd p))) (y:=(.fr,.int (-1))) rfl rfl ?_;rw[vR (λ(n:Nat)=>T.int (n:Int)) (wl bk nd p) 0 (by omega),D,Xf,← p7 o];have:(wl bk nd p).getD p.length 0=num bk nd p:=by
    unfold wl;rw[Zv,ZY,List.getElem?_range (YZ _),YE,List.take_length];rfl
   rw[this];rfl
  have C:aQ 4 (eN kW (ab (e2 aD (e2 aD (aa 0) (e2 aD (aa 2) (Q2 (-1)))) (Q2 3)) ah)) [pc (G0 (tabOf bk)),Q1 b,oc (IQ (wl bk nd p)),pc (s1 c),d]=some (.nx [pc (G0 (tabOf bk)),Q1 b,oc (IQ (wl bk nd p)),pc (s1 c),pc (G4 (steps (aI bk) (ar bk) m))]):=by
   refine aL (m:=.fr) (kD (xv (r:=ah) (x:=(.fr,JE (steps (aI bk) (ar bk) m))) (e2v (pC hM E rfl z) (y:=(.fr,.int 3)) rfl ?_) rfl) (FZ _ _ _)) (by decide) (by show 4<5;decide);rw[← oK];show some (up .fr (JE _))=_;unfold up;rw[nP];rfl
  have hg:gW (steps (aI bk) (ar bk) m) c=some (ix bk s):=by rw[qm _ _ _ _ (t c Zx),H.i.wy o c,q];rfl
  have ap:=qb (i:=2) (J:=[pc (G0 (tabOf bk)),Q1 b,oc (IQ (wl bk nd p)),pc (s1 c),pc (G4 (steps (aI bk) (ar bk) m))]) (e:=e2 HR (aa 4) (aa 3)) (l:=(wl bk nd p).map λ(n:Nat)=>T.int (n:Int)) rfl (wG (m:=.pu) (n:=.fr) rfl rfl hg) (by rw[Zu];omega);rw[show (wl bk nd p).map (λ(n:Nat)=>T.int (n:Int))++[T.int (ix bk s:Int)]=(wl bk nd (p++[c])).map λ(n:Nat)=>T.int (n:Int) from by rw[AO,Jv,p7 q];rfl]at ap;obtain⟨h,g,e⟩:=w (p++[c]) (pc (s1 c)) (pc (G4 (steps (aI bk) (ar bk) m))) j (λx A=>t x (Zy _ A)) (by rw[Zs,ZL];omega);rw[XM p c v];refine⟨h,g,(cA rfl (sq C (sq (qz (m:=.fr) ?_ rfl) ap))).trans e⟩;have:=BH (J:=[pc (G0 (tabOf bk)),Q1 b,oc (IQ (wl bk nd p)),pc (s1 c),pc (G4 (steps (aI bk) (ar bk) m))]) (a:=aa 4) (e:=aa 3) (m:=.pu) (n:=.fr) rfl rfl;rw[hg]at this;exact this
theorem Ck{w:Tx}(hw:(nd w).isSome=true)(a:Az w)(g:w.length<=1000):nr [G0 (tabOf bk),.str w]=some (.fr,IQ (wl bk nd w)):=by
 obtain⟨f,d,e⟩:=wk H hM h0 w w [] none none (by rw[YD];exact hw) a (by show 0+_<_;omega);have b:wl bk nd []=[0]:=by
  show [num bk nd []]=_;rw[p7 H.i.z,show ix bk 0=0 from h0]
 rw[b]at e;exact eD rfl (sq (J1:=[pc (G0 (tabOf bk)),Q1 w,oc (IQ [0]),none,none]) rfl (sq ((bU (m:=.fr) rfl rfl).trans e) rfl))
omit h0
theorem FS:∀(k m:Nat)(acc:W0)(F:Nat),m<wd.length->(W wd m).length<=k->k+1<F->acc.length+k<1000000->di (eE (aa 1)) iD F [pc (G0 (tabOf bk)),Q0 (ix bk m:Int),oc (IQ acc)]=some (.nx [pc (G0 (tabOf bk)),pc .non,oc (IQ (acc++(IA (aI bk) k m).map (ix bk)))]):=by
 intro k
 induction k using Nat.strongRecOn with
 |ind k ih =>
  intro m acc F hm hk hF ha;obtain⟨F,rfl⟩:∃j,F=j+2:=⟨F-2,by omega⟩
  have HI:m<(aI bk).lg.length:=by rw[← H.i.len];exact hm
  have a1:=qb (i:=2) (J:=[pc (G0 (tabOf bk)),Q0 (ix bk m:Int),oc (IQ acc)]) (e:=aa 1) (l:=acc.map λ(n:Nat)=>T.int (n:Int)) rfl rfl (by rw[Zu];omega);rw[show acc.map (λ(n:Nat)=>T.int (n:Int))++[T.int (ix bk m:Int)]=(acc++[ix bk m]).map λ(n:Nat)=>T.int (n:Int) from by rw[Jv];rfl]at a1;have a2:aQ 1 (e2 aD (e2 aD (aa 0) (aa 1)) (Q2 2)) [pc (G0 (tabOf bk)),Q0 (ix bk m:Int),oc (IQ (acc++[ix bk m]))]=some (.nx [pc (G0 (tabOf bk)),pc (G8 (((aI bk).lk.getD m none).map (ix bk))),oc (IQ (acc++[ix bk m]))]):=by
   refine aL (m:=.fr) (e2v (pC hM HI (n:=.fr) rfl rfl) (y:=(.fr,.int 2)) rfl ?_) (by decide) (by show 1<3;decide);show some (up .fr (G8 (row (aI bk) (ar bk) m).2.2.1))=_;unfold row;split<;>(rename_i e;rw[e];rfl)
  have st:di (eE (aa 1)) iD (F+2) [pc (G0 (tabOf bk)),Q0 (ix bk m:Int),oc (IQ acc)]=di (eE (aa 1)) iD (F+1) [pc (G0 (tabOf bk)),pc (G8 (((aI bk).lk.getD m none).map (ix bk))),oc (IQ (acc++[ix bk m]))]:=kg (m:=.fr) rfl ((au a1).trans a2);rw[st];cases hl:(aI bk).lk.getD m none with
  |none =>
   rw[show IA (aI bk) k m=[m] from by cases k with | zero=>rfl | succ k=>rw[IA,hl]];exact d9 (m:=.fr) rfl
  |some r =>
   have h1:0<m:=Ym λz=>by rw[z,H.i.LH]at hl;cases hl
   obtain⟨r',e,⟨g1,_⟩,_,g2,_⟩:=H.i.lk h1 hm (by simp);rw[hl]at e;cases e;obtain⟨k,rfl⟩:∃j,k=j+1:=⟨k-1,by omega⟩
   have:=ih k (YZ _) r (acc++[ix bk m]) (F+1) g1 (by omega) (by omega) (by rw[Zs,ZL];omega);rw[show IA (aI bk) (k+1) m=m :: IA (aI bk) k r from by rw[IA,hl]];exact this.trans (by rw[ZM];rfl)
theorem A5{m:Nat}(a:m<wd.length)(b:(W wd m).length<=1000):mr [G0 (tabOf bk),.int (ix bk m:Int)]=some (.fr,IQ ((IA (aI bk) 1000 m).map (ix bk))):=by
 have d:m<(aI bk).lg.length:=by rw[← H.i.len];exact a
 have r1:sX (xP (bu aG (ab (aa 0) (ab (aa 1) ah)))) [pc (G0 (tabOf bk)),Q0 (ix bk m:Int),none]=some (.nx [pc (G0 (tabOf bk)),Q0 (ix bk m:Int),none]):=by
  show (((bu aG _ _).map _).map _)=_;rw[bS (xv (x:=(.pu,G0 (tabOf bk))) rfl (xv (r:=ah) (x:=(.fr,.int (ix bk m:Int))) rfl rfl)) (show aG [G0 (tabOf bk),.int (ix bk m:Int)]=some (.fr,.non) from BM (by rw[Zu];exact B1 hM d))];rfl
 exact eD rfl ((au r1).trans ((au (J1:=[pc (G0 (tabOf bk)),Q0 (ix bk m:Int),oc (IQ [])]) rfl).trans ((au (FS H hM 1000 m [] tW a b (by decide) (by decide))).trans rfl)))
end
def E4{f:List Tx}{w:Tx}:Pt f w ↔ ∃p,Hd f p/\w <:+ p:=by
 constructor
 ·rintro (rfl | ⟨t,d,a,b,rfl⟩)
  ·exact⟨[],.inl rfl,ZA _⟩
  ·exact⟨a++w,.inr ⟨_,d,⟨b,rfl⟩⟩,⟨a,rfl⟩⟩
 ·rintro⟨p,rfl | ⟨t,d,g⟩,e⟩
  ·exact .inl (Yk.mp e)
  ·exact .inr ⟨t,d,e.isInfix.trans g.isInfix⟩
def vf{b:List Tx}{q:Wd->Option Nat}{a:List Wd}(H:K (Hd b) (aI b) q a):∀(k m:Nat),m<a.length->(W a m).length<=k->(∀j,j∈IA (aI b) k m↔j<a.length/\W a j <:+ W a m)/\(IA (aI b) k m).Nodup:=by
 have top:∀{j:Nat},j<a.length->W a j=[]->j=0:=λv e=>by
  have:=H.i.top v;rw[e,H.i.z]at this;exact(Zm this).symm
 have h:∀j,j∈([0]:W0)↔j<a.length/\W a j <:+ W a 0:=λj=>by
  rw[Zj,H.i.wz,Yk];exact⟨λe=>by rw[e];exact⟨H.i.lt H.i.z,H.i.wz⟩,λe=>top e.1 e.2⟩
 intro k
 induction k with
 |zero =>
  intro m d n;have e:=top d (Xc.mp (Nat.le_zero.mp n));subst e;exact⟨h,Zf.mpr ⟨(λz=>nomatch z),Yx⟩⟩
 |succ k s =>
  intro m d n;by_cases o:m=0
  ·subst o;have:IA (aI b) (k+1) 0=[0]:=by unfold IA;rw[H.i.LH]
   rw[this];exact⟨h,Zf.mpr ⟨(λz=>nomatch z),Yx⟩⟩
  ·obtain⟨r,e,⟨x,_⟩,p,A,w⟩:=H.i.lk (Ym o) d (by simp);have y:IA (aI b) (k+1) m=m :: IA (aI b) k r:=by
    conv=>lhs;unfold IA
    rw[e]
   obtain⟨l,t⟩:=s r x (by omega);rw[y];refine⟨λj=>?_,Zf.mpr ⟨λz=>?_,t⟩⟩
   ·rw[Zo,l];constructor
    ·rintro (rfl | ⟨g,f⟩)
     ·exact⟨d,ZA _⟩
     ·exact⟨g,f.trans p⟩
    ·rintro⟨g,f⟩;by_cases u:(W a r).length<(W a j).length
     ·have:=w _ f u;rw[H.i.top g]at this;exact .inl (Zm this)
     ·exact .inr ⟨g,cn f p (by omega)⟩
   ·have:=((l m).mp z).2.length_le;omega
def Bp{b:List Tx}{d:Wd->Option Nat}{e:List Wd}(H:K (Hd b) (aI b) d e){p w:Tx}{m j:Nat}(g:(W e m).length<=1000)(a:d p=some m)(f:Hd b p)(hw:d w=some j):j∈IA (aI b) 1000 m↔w <:+ p:=by
 rw[(vf H 1000 m (H.i.lt a) g).1 j];have e1:=((H.eq (H.i.top (H.i.lt a)) a).mp rfl p f).mpr (ZA _);constructor
 ·exact λh=>(H.i.sf hw).trans (h.2.trans e1)
 ·exact λh=>⟨H.i.lt hw,(((H.eq hw (H.i.top (H.i.lt hw))).mp rfl p f).mp h).trans (H.i.sf a)⟩
noncomputable abbrev E5(f:List Tx)(b:Bm)(e d a:W5):Env:=[pc (G0 (tabOf f)),oc (.dct 0 (bT b)),e,d,a]
noncomputable def sE(b:List Tx)(a:List Wd)(q:Nat×(Nat×Nat)):Prop:=∃t p,q.1=ix b t/\q.2.1=ix b p/\t<a.length/\p<a.length/\W a t=W a p++[q.2.2]
section
variable{bk:List Tx}{nd:Wd->Option Nat}{wd:List Wd}(H:K (Hd bk) (aI bk) nd wd)(hM:∀x,x∈ar bk↔x<(aI bk).lg.length)(hN:(ar bk).Nodup)
include H hM
theorem wY{p c j:Nat}(d:p<wd.length)(h:(c,j)∈steps (aI bk) (ar bk) p):∃t,t<wd.length/\j=ix bk t/\nd (W wd p++[c])=some t:=by
 unfold steps at h;obtain⟨g,f,e⟩:=ZF.mp h;obtain⟨rfl,rfl⟩:=Xs e;obtain⟨t,b⟩:=jC f;have a:=H.i.wy (H.i.top d) g;rw[b]at a;exact⟨t,H.i.lt a.symm,by rw[b];rfl,a.symm⟩
theorem U2{p t c i:Nat}(d:p<wd.length)(a:t<wd.length)(b:Bm)(e:b.length<16777216):d7 (E5 bk b (Q0 (i:Int)) (pc (fe (row (aI bk) (ar bk) p))) (pc (Lc (c,ix bk t))))=some (.nx (E5 bk (if (W wd t).length=(W wd p).length+1 then nW b (ix bk t) (i,c) else b) (Q0 (i:Int)) (pc (fe (row (aI bk) (ar bk) p))) (pc (Lc (c,ix bk t))))):=by
 have lt:∀{x},x<wd.length->x<(aI bk).lg.length:=λh=>by rw[← H.i.len];exact h
 have f:aa 3 (E5 bk b (Q0 (i:Int)) (pc (fe (row (aI bk) (ar bk) p))) (pc (Lc (c,ix bk t))))=some (.fr,fe (row (aI bk) (ar bk) p)):=by
  show some (up .pu (fe _))=_;unfold up;rw[qg];rfl
 have lg:∀{x},x<wd.length->aD (.fr,fe (row (aI bk) (ar bk) x)) (.fr,.int 1)=some (.fr,.int ((W wd x).length:Int)):=λh=>by rw[← Do H hM h];rfl
 have cd:e2 oEq (e2 aD (e2 aD (aa 0) (e2 aD (aa 4) (Q2 1))) (Q2 1)) (e2 bg (e2 aD (aa 3) (Q2 1)) (Q2 1)) (E5 bk b (Q0 (i:Int)) (pc (fe (row (aI bk) (ar bk) p))) (pc (Lc (c,ix bk t))))=some (.fr,.bl (decide ((W wd t).length=(W wd p).length+1))):=by
  refine e2v (e2v (pC hM (lt a) (n:=.fr) rfl rfl) (y:=(.fr,.int 1)) rfl (lg a)) (y:=(.fr,.int (((W wd p).length+1:Nat):Int))) (e2v (e2v f (y:=(.fr,.int 1)) rfl (lg d)) (y:=(.fr,.int 1)) rfl rfl) ?_;exact lM rfl rfl (oT _ _)
 by_cases q:(W wd t).length=(W wd p).length+1
 ·rw[Zq q];refine PD (cd.trans (by rw[ZP q])) ((A6 (l:=bT b) (v:=vB (i,c)) (m:=.fr) (n:=.fr) (kv:=.int (ix bk t:Int)) rfl rfl rfl rfl rfl (by rw[bT,Zu];exact e)).trans ?_);rw[Aq];rfl
 ·rw[Zp q];exact qz (cd.trans (by rw[Zc q])) rfl
theorem U1{p i:Nat}(r:p<wd.length)(L:i=ix bk p):∀(a:List (Nat×Nat))(b:Bm)(m:W5),(∀w∈a,w∈steps (aI bk) (ar bk) p)->(∀q∈b,sE bk wd q)->b.length+a.length<1000000->∃f n,forL (aU 4) d7 (a.map Lc) (E5 bk b (Q0 (i:Int)) (pc (fe (row (aI bk) (ar bk) p))) m)=some (.nx (E5 bk f (Q0 (i:Int)) (pc (fe (row (aI bk) (ar bk) p))) n))/\(∀q∈f,sE bk wd q)/\(∀k∈b.map (·.1),k∈f.map (·.1))/\(∀c t,(c,ix bk t)∈a->t<wd.length->nd (W wd p++[c])=some t->W wd t=W wd p++[c]->ix bk t∈f.map (·.1))/\f.length<=b.length+a.length:=by
 intro a
 induction a with
 |nil=>exact λb m _ g _=>⟨b,m,rfl,g,λk h=>h,λc t h=>(λh=>nomatch h) h,Zh _⟩
 |cons w a F =>
  intro b m hw g J;rw[Zk]at J;obtain⟨c,j⟩:=w;obtain⟨t,v,rfl,x⟩:=wY H hM r (hw _ Zx);have bo:=U2 H hM (c:=c) (i:=i) r v b (by omega);obtain⟨d,A⟩:∃d,d=if (W wd t).length=(W wd p).length+1 then nW b (ix bk t) (i,c) else b:=⟨_,rfl⟩
  rw[← A]at bo;have e1:(∀q∈d,sE bk wd q)/\(∀k∈b.map (·.1),k∈d.map (·.1))/\(W wd t=W wd p++[c]->ix bk t∈d.map (·.1))/\d.length<=b.length+1:=by
   rw[A];split
   ·rename_i o;refine⟨λq R=>?_,λk l=>oZ b _ _ k (.inl l),λ_=>oZ b _ _ _ (.inr rfl),xw _ _ _⟩;rcases zb b _ _ q R with z | rfl
    ·exact g q z
    ·exact⟨t,p,rfl,L,v,r,((H.i.sf x).eq_of_length (by rw[o,Zs];rfl)).symm⟩
   ·rename_i o;exact⟨g,λk l=>l,λz=>absurd (by rw[z,Zs];rfl) o,XH _⟩
  obtain⟨O,N,M,X⟩:=e1;obtain⟨f,n,e,E,u,D,U⟩:=F d (pc (Lc (c,ix bk t))) (λw h=>hw w (Zy _ h)) O (by omega);refine⟨f,n,(cA rfl bo).trans e,E,λk l=>u k (N k l),λP C G Q s y=>?_,by rw[Zk];omega⟩;rcases Zo.mp G with z | z
  ·obtain⟨B,S⟩:=Xs z;subst B;rw[x]at s;cases s;exact u _ (M y)
  ·exact D P C z Q s y
include hN
theorem DY{i:Nat}(a:i<(ar bk).length):ix bk (ar bk)[i]=i:=uJ hN a
theorem U0:∀(r:W0)(i:Nat)(b:Bm)(j f a:W5),(ar bk).drop i=r->(∀q∈b,sE bk wd q)->b.length+30*r.length<1000000->(∀x,x∈ar bk->x<wd.length)->∃d s o n,forL (iY [aU 2,aU 3]) gF (dP i ((r.map (row (aI bk) (ar bk))).map fe)) (E5 bk b j f a)=some (.nx (E5 bk d s o n))/\(∀q∈d,sE bk wd q)/\(∀k∈b.map (·.1),k∈d.map (·.1))/\∀p∈r,∀c t,t<wd.length->nd (W wd p++[c])=some t->W wd t=W wd p++[c]->97<=c/\c<=122->ix bk t∈d.map (·.1):=by
 intro r
 induction r with
 |nil=>exact λi b j f a _ g _ _=>⟨b,j,f,a,rfl,g,λk h=>h,λp h=>nomatch h⟩
 |cons p r R =>
  intro i b j f a hd g U D;rw[Zk]at U;have A:i<(ar bk).length:=WZ λy=>by rw[XX y]at hd;cases hd
  rw[Yn A]at hd;obtain⟨L,hd2⟩:=XJ hd;have F:p<wd.length:=D p (by rw[← L];exact ZG A);have Y:i=ix bk p:=by rw[← L];exact(DY H hM hN A).symm
  have VG:(steps (aI bk) (ar bk) p).length<=26:=by
   unfold steps sk;rw[Zu];exact ZI (Xw _ _) (by decide)
  obtain⟨b1,n,e,g1,g2,Z,g4⟩:=U1 H hM F Y (steps (aI bk) (ar bk) p) b a (λw h=>h) g (by omega);obtain⟨d,s,o,UG,e',Q,C,P⟩:=R (i+1) b1 (Q0 (i:Int)) (pc (fe (row (aI bk) (ar bk) p))) n hd2 g1 (by omega) D;refine⟨d,s,o,UG,(cA (J1:=E5 bk b (Q0 (i:Int)) (pc (fe (row (aI bk) (ar bk) p))) a) rfl ((bU (m:=.fr) (l:=(steps (aI bk) (ar bk) p).map Lc) ?_ rfl).trans e)).trans e',Q,λk X=>C k (g2 k X),λB MR c t E u J G=>?_⟩
  ·have er:e2 aD (aa 3) (Q2 3) (E5 bk b (Q0 (i:Int)) (pc (fe (row (aI bk) (ar bk) p))) a)=some (.fr,JE (steps (aI bk) (ar bk) p)):=by
    refine e2v (x:=(.fr,fe (row (aI bk) (ar bk) p))) (y:=(.fr,.int 3)) ?_ rfl ?_
    ·show some (up .pu (fe _))=_;unfold up;rw[qg];rfl
    ·rw[← oK];show some (up .fr (JE _))=_;unfold up;rw[nP];rfl
   show (e2 aD (aa 3) (Q2 3) _).bind _=_;rw[er];rfl
  ·rcases Zo.mp MR with rfl | z
   ·refine C _ (Z c t ?_ E u J);have v:=qm (aI bk) (ar bk) B c G;rw[H.i.wy (H.i.top F) c,u]at v;unfold gW at v;obtain⟨q,M,VJ⟩:=Zw.mp v;have:=List.find?_some M;have S:=List.mem_of_find?_eq_some M;obtain⟨O,N⟩:=q;cases (show O=c by simpa using this);cases (show N=ix bk t from VJ);exact S
   ·exact P B z c t E u J G
theorem zj(B:wd.length<=241)(A:(ar bk).length=wd.length)(u:∀t,t<wd.length->Az (W wd t)):∃b:Bm,d6 [G0 (tabOf bk)]=some (.fr,.dct 0 (bT b))/\(∀q∈b,sE bk wd q)/\∀t,0<t->t<wd.length->ix bk t∈b.map (·.1):=by
 have j:∀x,x∈ar bk->x<wd.length:=λx h=>by rw[H.i.len];exact(hM x).mp h
 obtain⟨b,y,w,v,e,r,_,o⟩:=U0 H hM hN (ar bk) 0 [] none none none rfl (λq h=>nomatch h) (by show 0+_<_;omega) j;refine⟨b,eD rfl (sq (J1:=E5 bk [] none none none) rfl (sq ((bU (m:=.pu) rfl rfl).trans e) rfl)),r,λt n a=>?_⟩;have g:W wd t≠[]:=λz=>by
  have:=H.i.top a;rw[z,H.i.z]at this;cases this;exact absurd n (Ya _)
 obtain⟨x,c,d⟩:∃x c,W wd t=x++[c]:=⟨(W wd t).dropLast,(W wd t).getLast g,(List.dropLast_concat_getLast g).symm⟩
 obtain⟨p,l,s⟩:=H.i.head a d;have f:W wd t=W wd p++[c]:=by rw[s];exact d
 exact o p ((hM p).mpr (by rw[← H.i.len];exact l)) c t a (by rw[← f];exact H.i.top a) f (u t a c (by rw[d];exact ZU _ Zx))
end
def zM{α:Type}(l:List α)(k:Nat)(h:k<=l.length):cut l (some (k:Int)) none=l.drop k:=by
 have a:clip l.length (k:Int)=k:=by
  unfold clip;rw[Zp (by omega),Wa,Y9 h]
 show (l.drop (clip l.length (k:Int))).take (l.length-clip l.length (k:Int))=_;rw[a];exact YT (by rw[Yh];exact Zh _)
def zX{a b:Ex}{J:Env}{m n:Md}{t:Tx}{i:Int}{k:Nat}(f:a J=some (m,.str t))(e:b J=some (n,.int i))(d:i=(k:Int))(h:k<=t.length):Kx a (some b) none J=some (.fr,.str (t.drop k)):=by
 unfold Kx vh;dsimp only;rw[f,e,d];show some (Md.fr,T.str (cut t (some (k:Int)) none))=_;rw[zM t k h]
noncomputable def sh(a:List Tx)(t:Nat):Nat:=(row (aI a) (ar a) t).1
section
variable{bk:List Tx}{nd:Wd->Option Nat}{wd:List Wd}(H:K (Hd bk) (aI bk) nd wd)(hM:∀x,x∈ar bk↔x<(aI bk).lg.length)(hN:(ar bk).Nodup)(h0:(ar bk).idxOf 0=0)(hl:wd.length<=241)(hm:(ar bk).length=wd.length)(J9:∀t,t<wd.length->Az (W wd t)/\(W wd t).length<=120)
include H hM
theorem yt{s t:Nat}(d:s<wd.length)(b:t<wd.length)(h:ix bk s=ix bk t):s=t:=by
 have g:∀{x},x<wd.length->(ar bk)[ix bk x]?=some x:=λ{x} a=>by
  have hm:=(hM x).mpr (by rw[← H.i.len];exact a);rw[Zt (Yr.mpr hm),YH]
 have:=g d;rw[h,g b]at this;exact(Zm this).symm
theorem E9{t:Nat}(a:t<wd.length):sh bk t<=(W wd t).length/\∀y,nd y=some t↔y <:+ W wd t/\sh bk t<=y.length:=by
 unfold sh row;by_cases h:t=0
 ·subst h;rw[H.i.LH,H.i.wz];refine⟨Yv _,λy=>⟨λz=>⟨by rw[H.i.zero z];exact ZA _,Yv _⟩,λz=>by rw[Yk.mp z.1];exact H.i.z⟩⟩
 ·obtain⟨m,e,⟨f,_⟩,g,d,b⟩:=H.i.lk (Ym h) a (by simp);rw[e];show (aI bk).lg.getD m 0+1<=_/\∀y,_↔_/\(aI bk).lg.getD m 0+1<=_;rw[H.i.lg m f];exact⟨d,λy=>⟨λz=>⟨H.i.sf z,(H.i.low (by simp) e z).1⟩,λz=>b y z.1 z.2⟩⟩
include h0
theorem AI{b:Bm}(E:∀q∈b,sE bk wd q)(D:∀t,0<t->t<wd.length->ix bk t∈b.map (·.1)):∀(k t:Nat)(u:Tx)(F:Nat)(a:W5),(W wd t).length<=k->t<wd.length->k<F->u.length+k<=1000->∃l,di (e2 JZ (aa 1) (Q2 0)) ki F [pc (G0 (tabOf bk)),Q0 (ix bk t:Int),pc (.dct 0 (bT b)),Q1 u,a]=some (.nx [pc (G0 (tabOf bk)),Q0 0,pc (.dct 0 (bT b)),Q1 (W wd t++u),l]):=by
 have cd:∀(t:Nat)(u:Tx)(a:W5),e2 JZ (aa 1) (Q2 0) [pc (G0 (tabOf bk)),Q0 (ix bk t:Int),pc (.dct 0 (bT b)),Q1 u,a]=some (.fr,.bl (!decide (ix bk t=0))):=λt u a=>e2v (x:=(.fr,.int (ix bk t:Int))) (y:=(.fr,.int ((0:Nat):Int))) rfl rfl (uG rfl rfl (oT _ _));have s:0<wd.length:=H.i.lt H.i.z;intro k
 induction k with
 |zero =>
  intro t u F a h f v _;obtain⟨F,rfl⟩:∃j,F=j+1:=⟨F-1,by omega⟩
  have o:W wd t=[]:=Xc.mp (Nat.le_zero.mp h);have d:t=0:=by
   have:=H.i.top f;rw[o,H.i.z]at this;exact(Zm this).symm
  subst d;have c:=cd 0 u a;rw[show ix bk 0=0 from h0]at c ⊢;exact⟨a,by rw[o];exact d9 c⟩
 |succ k r =>
  intro t u F a h f v M;obtain⟨F,rfl⟩:∃j,F=j+1:=⟨F-1,by omega⟩
  by_cases d:t=0
  ·subst d;have c:=cd 0 u a;rw[show ix bk 0=0 from h0]at c ⊢;exact⟨a,by rw[H.i.wz];exact d9 c⟩
  ·obtain⟨⟨i,c⟩,e1,J⟩:=GA b (ix bk t) (D t (Ym d) f);obtain⟨L,p,C,B,A,w,g⟩:=E _ J;cases yt H hM f A C;cases (show i=ix bk p from B);have g:W wd t=W wd p++[c]:=g;have G:=congrArg List.length g;rw[Zs,ZL]at G;obtain⟨l,e⟩:=r p ([c]++u) F (pc (vB (ix bk p,c))) (by omega) w (by omega) (by rw[Zs,ZL];omega);refine⟨l,(kg ((cd t u a).trans (by rw[Zc λz=>d (yt H hM f s (z.trans h0.symm))];rfl)) (sq (aL (m:=.fr) (e2v (x:=(.pu,.dct 0 (bT b))) (y:=(.fr,.int (ix bk t:Int))) rfl rfl ?_) (by decide) (by show 4<5;decide)) (sq (aL (m:=.fr) (D2 (m:=.fr) (n:=.fr) (x:=[c]) (y:=u) rfl rfl (by show 1+_<=_;omega)) (by decide) (by show 3<5;decide)) (aL (m:=.fr) (t:=.int (ix bk p:Int)) rfl (by decide) (by show 1<5;decide))))).trans (e.trans (by rw[g,ZM]))⟩;show (if true=true then (cR (bT b) _).map (sub .pu) else none)=_;rw[Zq rfl,e1];rfl
include hN hl hm J9
theorem vT{t:Nat}(a:t<wd.length):jk [G0 (tabOf bk),.int (ix bk t:Int)]=some (.fr,.str (W wd t)):=by
 have j:t<(aI bk).lg.length:=by rw[← H.i.len];exact a
 obtain⟨b,e,g,f⟩:=zj H hM hN hl hm λt h=>(J9 t h).1;obtain⟨l,d⟩:=AI H hM h0 g f 120 t [] tW none (J9 t a).2 a (by decide) (by decide);rw[ZV]at d;have r1:sX (xP (bu aG (ab (aa 0) (ab (aa 1) ah)))) [pc (G0 (tabOf bk)),Q0 (ix bk t:Int),none,none,none]=some (.nx [pc (G0 (tabOf bk)),Q0 (ix bk t:Int),none,none,none]):=by
  show (((bu aG _ _).map _).map _)=_;rw[bS (xv (x:=(.pu,G0 (tabOf bk))) rfl (xv (r:=ah) (x:=(.fr,.int (ix bk t:Int))) rfl rfl)) (show aG [G0 (tabOf bk),.int (ix bk t:Int)]=some (.fr,.non) from BM (by rw[Zu];exact B1 hM j))];rfl
 exact eD rfl (sq r1 (sq (aL (m:=.fr) (bS (xv (r:=ah) (x:=(.pu,G0 (tabOf bk))) rfl rfl) e) (by decide) (by show 2<5;decide)) (sq (J1:=[pc (G0 (tabOf bk)),Q0 (ix bk t:Int),pc (.dct 0 (bT b)),Q1 ([]),none]) rfl (sq d rfl))))
theorem sR{t:Nat}(a:t<wd.length):gk [G0 (tabOf bk),.int (ix bk t:Int)]=some (.fr,.str ((W wd t).drop ((W wd t).length-sh bk t))):=by
 have b:t<(aI bk).lg.length:=by rw[← H.i.len];exact a
 obtain⟨s1,_⟩:=E9 H hM a;refine eD rfl (sq (aL (m:=.fr) (bS (xv (x:=(.pu,G0 (tabOf bk))) rfl (xv (r:=ah) (x:=(.fr,.int (ix bk t:Int))) rfl rfl)) (vT H hM hN h0 hl hm J9 a)) (by decide) (by show 2<3;decide)) (gq (zX (m:=.fr) (n:=.fr) (i:=((W wd t).length:Int)-(sh bk t:Int)) rfl (e2v (x:=(.fr,.int ((W wd t).length:Int))) (y:=(.fr,.int (sh bk t:Int))) rfl (e2v (pC hM b (n:=.fr) rfl rfl) (y:=(.fr,.int 0)) rfl rfl) rfl) (by omega) (by omega))))
end
noncomputable abbrev gT(G:List (List Pl)):T:=.lst (G.map λl=>T.lst (l.map tP))
noncomputable def JB(G:List (List Pl))(i:Nat)(p:Pl):List (List Pl):=G.set i (G.getD i []++[p])
noncomputable abbrev Ke(B:T)(g:T)(G:List (List Pl))(f e d b a:W5):Env:=[pc B,pc g,oc (gT G),f,e,d,b,a]
def Gj{B a:T}{G:List (List Pl)}{n e i:Nat}(f:i<G.length)(g:(G.getD i []).length<16777216)(d b:W5):gm (Ke B a G (Q0 (n:Int)) d (Q0 (e:Int)) b (Q0 (i:Int)))=some (.nx (Ke B a (JB G i (n,e)) (Q0 (n:Int)) d (Q0 (e:Int)) b (Q0 (i:Int)))):=by
 have h:rV 2 (aa 7) (ab (fB (ab (aa 3) (ab (aa 5) ah))) ah) (Ke B a G (Q0 (n:Int)) d (Q0 (e:Int)) b (Q0 (i:Int)))=some ((.fr,.non),Ke B a (JB G i (n,e)) (Q0 (n:Int)) d (Q0 (e:Int)) b (Q0 (i:Int))):=by
  show ((Hu (G.map λl=>T.lst (l.map tP)).length (i:Int)).bind _)=_;rw[Zu,xX f,Zr,ZY,Zt f];show ((aN (.lst (G[i].map tP)) [(.fr,tP (n,e))]).map _)=_;have hg:G.getD i []=G[i]:=by rw[Zv,Zt f];rfl
  rw[hg]at g;rw[dG (by rw[Zu];exact g)];show some ((Md.fr,T.non),[pc B,pc a,oc (.lst ((G.map λl=>T.lst (l.map tP)).set i (.lst (G[i].map tP++[tP (n,e)])))),_,_,_,_,_])=_;unfold JB;rw[hg,show T.lst (G[i].map tP++[tP (n,e)])=(λl:List Pl=>T.lst (l.map tP)) (G[i]++[(n,e)]) from by simp,← Wg]
 show (rV 2 (aa 7) (ab (fB (ab (aa 3) (ab (aa 5) ah))) ah) _).map _=_;rw[h];rfl
def r6{G:List (List Pl)}{i:Nat}(p:Pl)(a:i<G.length)(k:Nat):(JB G i p).getD k []=G.getD k []++if k=i then [p] else []:=by
 unfold JB;rw[Zv];by_cases h:k=i
 ·subst h;rw[YS a,Zq rfl];rfl
 ·rw[Yt (Yq h),Zp h,ZV,← Zv]
section
variable{B tb:T}{n e:Nat}
def Ve(h g:W5):∀(a:W0)(G:List (List Pl))(d:W5),a.Nodup->(∀i∈a,i<G.length/\(G.getD i []).length<100000)->∃b l,forL (aU 7) gm (a.map λ(i:Nat)=>T.int (i:Int)) (Ke B tb G (Q0 (n:Int)) h (Q0 (e:Int)) g d)=some (.nx (Ke B tb b (Q0 (n:Int)) h (Q0 (e:Int)) g l))/\b.length=G.length/\∀k,b.getD k []=G.getD k []++if k∈a then [(n,e)] else []:=by
 intro a
 induction a with
 |nil=>exact λG d _ _=>⟨G,d,rfl,rfl,λk=>by simp⟩
 |cons i a t =>
  intro G d nd p;obtain⟨r,s⟩:=Zf.mp nd;obtain⟨q,w⟩:=p i Zx;obtain⟨b,l,e1,v,u⟩:=t (JB G i (n,e)) (Q0 (i:Int)) s (λj o=>⟨by unfold JB;rw[Jt];exact(p j (Zy _ o)).1,by
   have ne:¬j=i:=λz=>r (by rw[← z];exact o);rw[r6 _ q,Zp ne,ZV];exact(p j (Zy _ o)).2⟩)
  refine⟨b,l,(cA rfl (Gj q (by omega) h g)).trans e1,v.trans (by unfold JB;rw[Jt]),λk=>?_⟩;rw[u,r6 _ q,ZM];congr 1;by_cases m:k=i
  ·subst m;rw[Zq rfl,Zp r,Zq Zx];rfl
  ·rw[Zp m,YD];by_cases f:k∈a
   ·rw[Zq f,Zq (Zy _ f)]
   ·rw[Zp f,Zp (λz=>(Zo.mp z).elim m f)]
def vk{l:W0}{a b:Nat}(h:a∈l)(f:b∈l)(e:l.idxOf a=l.idxOf b):a=b:=by
 have g:∀{x},x∈l->l[l.idxOf x]?=some x:=λ{x} d=>by rw[Zt (Yr.mpr d),YH]
 have:=g h;rw[e,g f]at this;exact(Zm this).symm
end
section
variable{bk:List Tx}{nd:Wd->Option Nat}{wd:List Wd}(H:K (Hd bk) (aI bk) nd wd)(hM:∀x,x∈ar bk↔x<(aI bk).lg.length)(hN:(ar bk).Nodup)(h0:(ar bk).idxOf 0=0)(hw:∀m,m<wd.length->(W wd m).length<=1000)
noncomputable def wN(a:List Tx)(b:List Wd)(k:Nat):Tx:=sw (aI a) b ((ar a).getD k 0)
include H hM hN hw
theorem EW{p:Tx}{m:Nat}(f:nd p=some m)(t:Hd bk p):((IA (aI bk) 1000 m).map (ix bk)).Nodup/\(∀i∈(IA (aI bk) 1000 m).map (ix bk),i<(ar bk).length)/\∀k,k<(ar bk).length->(k∈(IA (aI bk) 1000 m).map (ix bk)↔wN bk wd k <:+ p):=by
 obtain⟨n,v⟩:=vf H 1000 m (H.i.lt f) (hw m (H.i.lt f));have d:∀{j},j<wd.length->j∈ar bk:=λh=>(hM _).mpr (by rw[← H.i.len];exact h);refine⟨List.Pairwise.map (ix bk) (R:=λa b=>a∈ar bk/\b∈ar bk/\a≠b) (λa b h e=>h.2.2 (vk h.1 h.2.1 e)) (v.imp_of_mem λ{a b} u hb q=>⟨d ((n a).mp u).1,d ((n b).mp hb).1,q⟩),λi s=>?_,λk g=>?_⟩
 ·obtain⟨j,l,rfl⟩:=ZF.mp s;exact Yr.mpr (d ((n j).mp l).1)
 ·have o:ix bk ((ar bk).getD k 0)=k:=by
   rw[Zv,Zt g];exact uJ hN g
  have l:(ar bk).getD k 0<wd.length:=by
   rw[H.i.len];refine(hM _).mp ?_;rw[Zv,Zt g];exact ZG g
  rw[show wN bk wd k <:+ p↔(ar bk).getD k 0∈IA (aI bk) 1000 m from(Bp H (hw m (H.i.lt f)) f t (H.i.HK l)).symm];constructor
  ·intro h;obtain⟨j,r,e⟩:=ZF.mp h;have:=vk (d ((n j).mp r).1) (d l) (e.trans o.symm);rw[← this];exact r
  ·exact λh=>ZF.mpr ⟨_,h,o⟩
include h0
noncomputable def S4(r:List Tx)(n:Nat)(w:Tx):List Pl:=(r.zipIdx n).flatMap λp=>(Ni w p.1).map λe=>(p.2,e)
theorem Vd(t:Tx)(n:Nat)(F:t∈bk)(h:W5):∀(k e:Nat)(G:List (List Pl))(g f a:W5),e+k=t.length+1->G.length=(ar bk).length->(∀i,(G.getD i []).length+k<100000)->∃d p o l,forL (iY [aU 5,aU 6]) fZ (dP e (((wl bk nd t).drop e).map λ(n:Nat)=>T.int (n:Int))) (Ke (.lst (bk.map .str)) (G0 (tabOf bk)) G (Q0 (n:Int)) h g f a)=some (.nx (Ke (.lst (bk.map .str)) (G0 (tabOf bk)) d (Q0 (n:Int)) h p o l))/\d.length=G.length/\∀i,i<(ar bk).length->d.getD i []=G.getD i []++((List.range' e k).filter λe=>(wN bk wd i).isSuffixOf (t.take e)).map λe=>(n,e):=by
 have Q:(wl bk nd t).length=t.length+1:=by unfold wl;rw[Zu,ZJ]
 intro k
 induction k with
 |zero =>
  intro e G g f a J u s;rw[XX (by omega)];exact⟨G,g,f,a,rfl,rfl,λi _=>by simp⟩
 |succ k E =>
  intro e G g f a J u s;have w:Hd bk (t.take e):=.inr ⟨t,F,WY _ _⟩;obtain⟨m,j⟩:=(H.some (t.take e)).mpr ⟨_,w,ZA _⟩;obtain⟨N,M,A⟩:=EW H hM hN hw j w;have hd:(wl bk nd t).drop e=ix bk m :: (wl bk nd t).drop (e+1):=by
   rw[Yn (by omega)];congr 1;unfold wl;rw[List.getElem_map,List.getElem_range,p7 j]
  obtain⟨P,l,e1,v,y⟩:=Ve (B:=.lst (bk.map .str)) (tb:=G0 (tabOf bk)) (n:=n) (e:=e) h (Q0 (ix bk m:Int)) ((IA (aI bk) 1000 m).map (ix bk)) G a N λi b=>⟨by rw[u];exact M i b,by have:=s i;omega⟩
  have bo:fZ (Ke (.lst (bk.map .str)) (G0 (tabOf bk)) G (Q0 (n:Int)) h (Q0 (e:Int)) (Q0 (ix bk m:Int)) a)=_:=(bU (m:=.fr) (qY (bS (xv (x:=(.pu,G0 (tabOf bk))) rfl (xv (r:=ah) (x:=(.fr,.int (ix bk m:Int))) rfl rfl)) (A5 H hM (H.i.lt j) (hw m (H.i.lt j))))) rfl).trans e1;obtain⟨d,p,o,C,O,D,L⟩:=E (e+1) P (Q0 (e:Int)) (Q0 (ix bk m:Int)) l (by omega) (v.trans u) λi=>by
   have:=s i;rw[y,Zs];split
   ·show _+1+k<_;omega
   ·show _+0+k<_;omega
  refine⟨d,p,o,C,?_,D.trans v,λi b=>?_⟩
  ·rw[hd];exact(cA rfl bo).trans O
  ·rw[L i b,y,ZM,WX,List.filter_cons];congr 1;by_cases q:wN bk wd i <:+ t.take e
   ·rw[Zq ((A i b).mpr q),Zq (Yb.mpr q)];rfl
   ·rw[Zp (λz=>q ((A i b).mp z)),Zp (λz=>q (Yb.mp z))];rfl
theorem Vc(Y:∀t∈bk,t.length<=120/\Az t):∀(r:List Tx)(n:Nat)(G:List (List Pl))(j h d b a:W5),(∀t∈r,t∈bk)->G.length=(ar bk).length->(∀i,(G.getD i []).length+121*r.length<90000)->∃f F E w u s,forL (iY [aU 3,aU 4]) gx ((r.zipIdx n).map λp=>T.tup [.int p.2,.str p.1]) (Ke (.lst (bk.map .str)) (G0 (tabOf bk)) G j h d b a)=some (.nx (Ke (.lst (bk.map .str)) (G0 (tabOf bk)) f F E w u s))/\f.length=G.length/\∀i,i<(ar bk).length->f.getD i []=G.getD i []++S4 r n (wN bk wd i):=by
 intro r
 induction r with
 |nil=>exact λn G j h d b a _ _ _=>⟨G,j,h,d,b,a,rfl,rfl,λi _=>(ZV _).symm⟩
 |cons t r U =>
  intro n G j h d b a A B o;have y:=A t Zx;obtain⟨tl,tz⟩:=Y t y;simp only[Zk]at o;obtain⟨D,w,u,s,e1,z,C⟩:=Vd H hM hN h0 hw t n y (Q1 t) (t.length+1) 0 G d b a (by omega) B λi=>by have:=o i;omega
  have Q:(nd t).isSome=true:=Yi.mpr ((H.some t).mpr ⟨t,.inr ⟨t,y,List.prefix_refl _⟩,ZA _⟩);have bo:gx (Ke (.lst (bk.map .str)) (G0 (tabOf bk)) G (Q0 (n:Int)) (Q1 t) d b a)=_:=(bU (m:=.fr) (l:=dP 0 ((wl bk nd t).map λ(n:Nat)=>T.int (n:Int))) (by
   have:=bS (g:=nr) (as:=ab (aa 1) (ab (aa 4) ah)) (J:=Ke (.lst (bk.map .str)) (G0 (tabOf bk)) G (Q0 (n:Int)) (Q1 t) d b a) (xv (x:=(.pu,G0 (tabOf bk))) rfl (xv (r:=ah) (x:=(.fr,.str t)) rfl rfl)) (Ck H hM h0 Q tz (by omega));show (bu _ _ _).bind _=_;rw[this];rfl) rfl).trans e1
  have R:∀i,((((List.range' 0 (t.length+1)).filter λe=>(wN bk wd i).isSuffixOf (t.take e)).map λe=>((n,e):Pl))).length<=121:=λi=>by
   rw[Zu];exact ZI (Xw _ _) (by rw[YI];omega)
  have LK:∀i,(D.getD i []).length+121*r.length<90000:=λi=>by
   by_cases q:i<(ar bk).length
   ·rw[C i q,Zs];have:=o i;have:=R i;omega
   ·rw[Zv,Kk (by omega)];have:=o i;show 0+_<_;omega
  obtain⟨f,P,O,N,M,L,Hq,S,Z⟩:=U (n+1) D (Q0 (n:Int)) (Q1 t) w u s (λv X=>A v (Zy _ X)) (z.trans B) LK;refine⟨f,P,O,N,M,L,?_,S.trans z,λi q=>?_⟩
  ·rw[XO,Zl];exact(cA rfl bo).trans Hq
  ·rw[Z i q,C i q,ZM];unfold S4;rw[XO,Wc];unfold Ni;rw[List.range_eq_range']
theorem rT(e:∀t∈bk,t.length<=120/\Az t)(s:bk.length<=8)(r:(ar bk).length<=1000):∃G:List (List Pl),fq [.lst (bk.map .str),G0 (tabOf bk)]=some (.fr,gT G)/\G.length=(ar bk).length/\∀i,i<(ar bk).length->G.getD i []=IW bk (wN bk wd i):=by
 have a:∀i,((List.replicate (ar bk).length ([]:List Pl)).getD i [])=[]:=λi=>by
  rw[Zv,Ye];split<;>rfl
 obtain⟨G,q,o,n,j,g,e1,b,f⟩:=Vc H hM hN h0 hw e bk 0 (List.replicate (ar bk).length []) none none none none none (λ_ h=>h) Yg λi=>by
  rw[a i];show 0+_<_;omega
 refine⟨G,?_,b.trans Yg,λi d=>by rw[f i d,a i];rfl⟩;have st:gR 2 (cz 1 (aU 0) (gU (aa 1)) none (dW ah)) [pc (.lst (bk.map .str)),pc (G0 (tabOf bk)),none,none,none,none,none,none]=some (.nx (Ke (.lst (bk.map .str)) (G0 (tabOf bk)) (List.replicate (ar bk).length []) none none none none none)):=by
  have c:=fR (k:=1) (tg:=aU 0) (it:=gU (aa 1)) (elt:=dW ah) (J:=[pc (.lst (bk.map .str)),pc (G0 (tabOf bk)),none,none,none,none,none,none]) (m:=.pu) (λm=>fe (row (aI bk) (ar bk) m)) (λ_=>T.lst []) (ar bk) (by
    show some (Md.pu,(tabOf bk).map fe)=_;unfold tabOf tab;rw[Ig];rfl) rfl (by omega) λm _=>⟨_,rfl,rfl⟩
  refine(uO c rfl (by show 2<8;decide)).trans ?_;rw[show (ar bk).map (λ_=>T.lst [])=(List.replicate (ar bk).length ([]:List Pl)).map λl=>T.lst (l.map tP) from by rw[List.map_const',List.map_replicate];rfl];rfl
 exact eD rfl (sq st (sq ((bU (m:=.pu) (l:=(bk.zipIdx 0).map λp=>T.tup [.int p.2,.str p.1]) (by rw[← enum_zip];rfl) rfl).trans e1) rfl))
end
def xZ{d e:Nat}{b:Sx}{a:W8}{v:Val}(f:a.length=d)(h:∃J,b (a.map (λt=>some (.pu t))++List.replicate (e-d) none)=some (.rt v J)):fn d e b a=some v:=by
 obtain⟨J,h⟩:=h;exact eD f h
def lS{a b:Sx}{J d:Env}{v:Val}(h:a J=some (.nx d))(q:∃z,b d=some (.rt v z)):∃z,av a b J=some (.rt v z):=by
 obtain⟨z,q⟩:=q;exact⟨z,sq h q⟩
def Et{a b:Ex}{J:Env}{m n:Md}{s t:T}(g:a J=some (n,s))(f:b J=some (m,t))(e:GO s=true:=by rfl)(d:GO t=true:=by rfl):fB (ab a (ab b ah)) J=some (.fr,.tup [s,t]):=by
 show (ab a (ab b ah) J).bind rR=_;rw[xv g (xv (r:=ah) f rfl)];show some (up _ (.tup [s,t]))=_;unfold up;rw[show GO (T.tup [s,t])=true from by show cZ [s,t]=true;unfold cZ;rw[e];show cZ [t]=true;unfold cZ;rw[d];rfl];rfl
noncomputable def resT:Option (Tx×Pl)->T
 |none=>.non
 |some q=>.tup [.str q.1,tP q.2]
def zg{J:Env}{a:Ex}{m:Md}{l:List Pl}(h:a J=some (m,.lst (l.map tP))):eN bx (ab a ah) J=some (.fr,.int (l.length:Int)):=kD (xv (r:=ah) h rfl) (by
 show some (Md.fr,T.int (((l.map tP).length:Nat):Int))=_;rw[Zu])
def FT{a b:Ex}{J:Env}{m n:Md}{i j:Nat}(e:a J=some (m,.int (i:Int)))(d:b J=some (n,.int (j:Int))):e2 oEq a b J=some (.fr,.bl (decide (i=j))):=e2v e d (lM rfl rfl (by
 simp only[eqT];rw[Xh,beq_iff_eq,decide_eq_true_iff];omega))
section
variable{bk:List Tx}{nd:Wd->Option Nat}{wd:List Wd}(H:K (Hd bk) (aI bk) nd wd)(hM:∀x,x∈ar bk↔x<(aI bk).lg.length)(hN:(ar bk).Nodup)(h0:(ar bk).idxOf 0=0)(hl:wd.length<=241)(hm:(ar bk).length=wd.length)(J9:∀t,t<wd.length->Az (W wd t)/\(W wd t).length<=120)
include H hM hN h0 hl hm J9
theorem FX{k:Nat}(a:k<(ar bk).length):gk [G0 (tabOf bk),.int (k:Int)]=some (.fr,.str (wN bk wd k)):=by
 have d:ix bk ((ar bk).getD k 0)=k:=by
  rw[Zv,Zt a];exact uJ hN a
 have b:(ar bk).getD k 0<wd.length:=by
  rw[H.i.len];refine(hM _).mp ?_;rw[Zv,Zt a];exact ZG a
 have:=sR H hM hN h0 hl hm J9 b;rw[d]at this;rw[this];unfold wN sw;have:sh bk ((ar bk).getD k 0)=MA (aI bk) ((ar bk).getD k 0):=by
  unfold sh row MA;cases (aI bk).lk.getD ((ar bk).getD k 0) none<;>rfl
 rw[this]
noncomputable abbrev EO(a:List Tx)(d b:W5):Env:=[pc (.lst (a.map .str)),pc (G0 (tabOf a)),d,b]
theorem Vl(G:List (List Pl))(M:G.length=(ar bk).length):∀(r:List (List Pl))(i:Nat)(b a:W5),G.drop i=r →
  (∃f,forL (iY [aU 2,aU 3]) h9 (dP i (r.map λl=>T.lst (l.map tP))) (EO bk b a)=some (.nx f)/\∀k,i<=k->0<k->k<G.length->(G.getD k []).length≠1) ∨
  ∃f k p,forL (iY [aU 2,aU 3]) h9 (dP i (r.map λl=>T.lst (l.map tP))) (EO bk b a)=some (.rt (.fr,.tup [.str (wN bk wd k),tP p]) f)/\i<=k/\0<k/\k<G.length/\G.getD k []=[p]/\∀j,i<=j->0<j->j<k->(G.getD j []).length≠1:=by
 intro r
 induction r with
 |nil =>
  intro i b a e;have:G.length<=i:=List.drop_eq_nil_iff.mp e;exact .inl ⟨_,rfl,λk g _ d=>absurd d (by omega)⟩
 |cons l r C =>
  intro i b a e;have s:i<G.length:=by
   refine WZ λq=>?_;rw[XX q]at e;cases e
  have N:=e;rw[Yn s]at e;obtain⟨e1,L⟩:=XJ e;have w:G.getD i []=l:=by rw[Zv,Zt s];exact e1
  have o:fN (e2 KQ (aa 2) (Q2 0)) (e2 oEq (eN bx (ab (aa 3) ah)) (Q2 1)) (EO bk (Q0 (i:Int)) (pc (.lst (l.map tP))))=some (.fr,.bl (decide (0<i)&&decide (l.length=1))) :=
   Ce (m:=.fr) (n:=.fr) (e2v (x:=(.fr,.int (i:Int))) (y:=(.fr,.int 0)) rfl rfl (show some (Md.fr,T.bl (decide ((0:Int)<(i:Int))))=_ from by rw[decide_eq_decide.mpr (show (0:Int)<(i:Int)↔0<i by omega)])) (FT (j:=1) (zg (m:=.pu) rfl) (n:=.fr) rfl)
  by_cases q:0<i/\l.length=1
  ·rw[ZP q.1,ZP q.2]at o;obtain⟨p,rfl⟩:=XY.mp q.2;refine .inr ⟨_,i,p,Bv rfl (PD o (gq (Et (bS (xv (x:=(.pu,G0 (tabOf bk))) rfl (xv (r:=ah) (x:=(.fr,.int (i:Int))) rfl rfl)) (FX H hM hN h0 hl hm J9 (by omega))) (m:=.fr) rfl))),Zh _,q.1,s,w,λj g _ d=>absurd g (by omega)⟩
  ·have B:(decide (0<i)&&decide (l.length=1))=false:=by
    rw[← Bool.not_eq_true,Zd,decide_eq_true_iff,decide_eq_true_iff];exact q
   rw[B]at o;have st:∀b a,forL (iY [aU 2,aU 3]) h9 (dP i ((l :: r).map λl=>T.lst (l.map tP))) (EO bk b a)=forL (iY [aU 2,aU 3]) h9 (dP (i+1) (r.map λl=>T.lst (l.map tP))) (EO bk (Q0 (i:Int)) (pc (.lst (l.map tP)))):=λb a=>cA rfl (qz o rfl);have v:0<i->(G.getD i []).length≠1:=λh z=>q ⟨h,by rw[← w];exact z⟩;rcases C (i+1) (Q0 (i:Int)) (pc (.lst (l.map tP))) L with⟨f,u,A⟩ | ⟨f,k,p,u,A,J,F,E,D⟩
   ·refine .inl ⟨f,(st b a).trans u,λk g d t=>?_⟩;rcases Wp g with rfl | h
    ·exact v d
    ·exact A k h d t
   ·refine .inr ⟨f,k,p,(st b a).trans u,by omega,J,F,E,λj g d t=>?_⟩;rcases Wp g with rfl | h
    ·exact v d
    ·exact D j h d t
noncomputable def Uy(a:List Tx)(b:List Wd)(o:Option (Tx×Pl)):Prop:=(o=none->∀k,0<k->k<(ar a).length->(IW a (wN a b k)).length≠1) ∧
 ∀w p,o=some (w,p)->∃k,0<k/\k<(ar a).length/\w=wN a b k/\IW a w=[p]/\∀j,0<j->j<k->(IW a (wN a b j)).length≠1
theorem C8(n:eI [.lst (bk.map .str)]=some (.fr,G0 (tabOf bk)))(s:∀t∈bk,t.length<=120/\Az t)(u:bk.length<=8):∃o,nA [.lst (bk.map .str)]=some (.fr,resT o)/\Uy bk wd o:=by
 obtain⟨G,e1,f,d⟩:=rT H hM hN h0 (λm h=>by have:=(J9 m h).2;omega) s u (by omega);have s1:=aL (i:=1) (J:=[pc (.lst (bk.map .str)),none,none,none]) (m:=.fr) (bS (g:=eI) (as:=ab (aa 0) ah) (xv (r:=ah) (x:=(.pu,.lst (bk.map .str))) rfl rfl) n) (by decide) (by show 1<4;decide);have it:lI (bu fq (ab (aa 0) (ab (aa 1) ah))) (EO bk none none)=some (.fr,dP 0 (G.map λl=>T.lst (l.map tP))):=by
  show (bu _ _ _).bind _=_;rw[bS (xv (x:=(.pu,.lst (bk.map .str))) rfl (xv (r:=ah) (x:=(.pu,G0 (tabOf bk))) rfl rfl)) e1];rfl
 rcases Vl H hM hN h0 hl hm J9 G f G 0 none none rfl with⟨B,e,A⟩ | ⟨B,k,p,e,_,z,C,y,v⟩
 ·refine⟨none,xZ rfl (lS s1 (lS ((bU (m:=.fr) it rfl).trans e) ⟨_,rfl⟩)),λ_ k b a=>?_,λw p h=>by cases h⟩;rw[← d k a];exact A k (Yv _) b (by omega)
 ·refine⟨some (wN bk wd k,p),eD rfl (sq s1 (iz ((bU (m:=.fr) it rfl).trans e))),(λh=>by cases h),λw q h=>?_⟩;cases h;refine⟨k,z,by omega,rfl,by rw[← d k (by omega)];exact y,λj b a=>?_⟩;rw[← d j (by omega)];exact v j (Yv _) b a
end
def om{d:Fd}{w:Tx}(h:∃q∈d,q.1=w):cR (dT d) (.str w)=some (.lst ((look d w).map tP)):=by
 induction d with
 |nil=>obtain⟨q,b,_⟩:=h;cases b
 |cons a d f =>
  obtain⟨x,l⟩:=a;unfold cR at f ⊢;rw[cw,show dT ((x,l) :: d)=(T.str x,T.lst (l.map tP)) :: dT d from rfl,IV];by_cases e:x=w
  ·have:eqT (T.str x) (.str w)=true:=by simpa using e
   rw[this,Zq e];rfl
  ·have:eqT (T.str x) (.str w)=false:=by simpa using e
   rw[this,Zp e];refine f ?_;obtain⟨q,b,g⟩:=h;rcases Zo.mp b with rfl | b
   ·exact absurd g e
   ·exact⟨q,b,g⟩
noncomputable def one(d:Fd):List Tx:=(d.map (·.1)).filter λw=>!decide (w=[])&&decide ((look d w).length=1)
def By(l:List Tx):jZ (l.map λw=>T.tup [.int (w.length:Int),.str w])=some (l.map λw=>((w.length:Int),w)):=by
 induction l with
 |nil=>rfl
 |cons w l a =>
  show (jZ (l.map λw=>T.tup [.int (w.length:Int),.str w])).map _=_;rw[a];rfl
def Dw{d:Fd}(h:∀q∈d,q.1.length<=120/\Az q.1)(t:d.length<=1000000):pT 0 (aU 0) (some (fN (e2 JZ (aa 0) (eC (.str []))) (e2 oEq (eN bx (ab (e2 lq (aa 1) (aa 0)) ah)) (Q2 1)))) (fB (ab (eN bx (ab (aa 0) ah)) (ab (aa 0) ah))) [pc (.dct 0 (dT d)),none,none]=some (.fr,.lst ((one d).map λw=>T.tup [.int (w.length:Int),.str w])):=by
 show (if ((dT d).all λp=>N5 p.2)=true then (cz 1 (aU 0) (mM 0) _ _ [pc (.dct 3 (dT d)),none,none]).bind _ else none)=_;have r:((dT d).all λp=>N5 p.2)=true:=by
  unfold dT;rw[XW];exact Ja.mpr λq _=>uX q.2
 have o:((dT d).all λp=>Cw p.1)=true:=by
  unfold dT;rw[XW];refine Ja.mpr λq f=>?_;obtain⟨a,b⟩:=h q f;show (decide (q.1.length<=dY)&&q.1.all λc=>decide (c<1114112))=true;rw[ZP (by show q.1.length<=16777216;omega),Bool.true_and];exact Ja.mpr λc l=>ZP (by have:=b c l;omega)
 have s:cz 1 (aU 0) (mM 0) (some (fN (e2 JZ (aa 0) (eC (.str []))) (e2 oEq (eN bx (ab (e2 lq (aa 1) (aa 0)) ah)) (Q2 1)))) (fB (ab (eN bx (ab (aa 0) ah)) (ab (aa 0) ah))) [pc (.dct 3 (dT d)),none,none]=some (.fr,.lst ((one d).map λw=>T.tup [.int (w.length:Int),.str w])):=by
  refine pU (k:=1) (tg:=aU 0) (J:=[pc (.dct 3 (dT d)),none,none]) (elt:=fB (ab (eN bx (ab (aa 0) ah)) (ab (aa 0) ah))) (m:=.fr) T.str (λw=>!decide (w=[])&&decide ((look d w).length=1)) (λw=>T.tup [.int (w.length:Int),.str w]) (d.map (·.1)) ?_ rfl (by rw[Zu];omega) λw hw=>⟨Q1 w :: [pc (.dct 3 (dT d)),none,none],(.fr,.bl (!decide (w=[])&&decide ((look d w).length=1))),rfl,?_,rfl,λ_=>rfl⟩
  ·show (if _ then _ else _)=_;rw[Zq o];unfold dT;rw[Ig,Ig];rfl
  ·have i:∃q∈d,q.1=w:=by obtain⟨q,f,e⟩:=ZF.mp hw;exact⟨q,f,e⟩
   have g:e2 lq (aa 1) (aa 0) (Q1 w :: [pc (.dct 3 (dT d)),none,none])=some (.pu,.lst ((look d w).map tP)):=by
    refine e2v (x:=(.pu,.dct 3 (dT d))) (y:=(.fr,.str w)) rfl rfl ?_;show (cR (dT d) (.str w)).map _=_;rw[om i];rfl
   refine Ce (m:=.fr) (n:=.fr) (e2v (x:=(.fr,.str w)) (y:=(.fr,.str [])) rfl rfl (uG rfl rfl ?_)) (FT (j:=1) (zg g) (n:=.fr) rfl);cases w<;>rfl
 rw[Zq r,s];show (if (((one d).map λw=>T.tup [.int (w.length:Int),.str w]).all Pe)=true then _ else none)=_;rw[Zq];rw[XW];exact Ja.mpr λ_ _=>rfl
def Aw{a b:Tx}(e:JJ a b=false)(d:JJ b a=false):a=b:=by
 rw[fX,decide_eq_false_iff_not]at e d;exact List.le_antisymm (Wu.mp d) (Wu.mp e)
def sV{p q:Int×Tx}(b:dw p q=false)(a:dw q p=false):p=q:=by
 unfold dw at b a;by_cases e:p.1=q.1
 ·rw[Zq e]at b;rw[Zq e.symm]at a;exact Prod.ext e (Aw b a)
 ·rw[Zp e,decide_eq_false_iff_not]at b;rw[Zp (Yq e),decide_eq_false_iff_not]at a;omega
def rE{p q r:Int×Tx}(b:dw p q=true)(a:dw r q=false):dw r p=false:=by
 unfold dw at *;simp only[fX]at *;by_cases e1:p.1=q.1
 ·rw[Zq e1,decide_eq_true_iff]at b;by_cases e2:r.1=q.1
  ·rw[Zq e2,decide_eq_false_iff_not]at a;rw[Zq (by omega),decide_eq_false_iff_not];exact λz=>a (List.lt_trans z b)
  ·rw[Zp e2,decide_eq_false_iff_not]at a;rw[Zp (by omega),decide_eq_false_iff_not];omega
 ·rw[Zp e1,decide_eq_true_iff]at b;have:¬r.1<q.1/\q.1<=r.1:=by
   by_cases e2:r.1=q.1
   ·omega
   ·rw[Zp e2,decide_eq_false_iff_not]at a;omega
  rw[Zp (by omega),decide_eq_false_iff_not];omega
def CF(p:Int×Tx):dw p p=false:=by
 unfold dw;rw[Zq rfl,fX,decide_eq_false_iff_not];exact XZ _
theorem yS:∀(r:List (Int×Tx))(p:Int×Tx),kU p r∈p :: r/\∀q∈p :: r,dw q (kU p r)=false
 |[],p=>⟨Zx,λq b=>by rw[Zj.mp b];exact CF p⟩
 |a :: r,p=>by
  have e:kU p (a :: r)=kU (if dw a p then a else p) r:=rfl;obtain⟨f,d⟩:=yS r (if dw a p then a else p);rw[e];cases h:dw a p with
  |true =>
   rw[h]at f d;rw[Zq rfl]at f d ⊢;refine⟨Zy _ f,λq b=>?_⟩;rcases Zo.mp b with rfl | b
   ·
    cases g:dw q (kU a r) with
    |false=>rfl
    |true =>
     have:=rE g (d a Zx);rw[h]at this;cases this
   ·exact d q b
  |false =>
   rw[h]at f d;rw[Zp ZX]at f d ⊢;refine⟨?_,λq b=>?_⟩
   ·rcases Zo.mp f with z | z
    ·rw[z];exact Zx
    ·exact Zy _ (Zy _ z)
   ·rcases Zo.mp b with rfl | b
    ·exact d q Zx
    ·rcases Zo.mp b with rfl | b
     ·cases g:dw q (kU p r) with
      |false=>rfl
      |true =>
       have:=rE g (d p Zx);have e:=sV h this;rw[e,d p Zx]at g;cases g
     ·exact d q (Zy _ b)
def Ff{d:Fd}(C:∀q∈d,q.1.length<=120/\Az q.1)(E:d.length<=1000000):∃o,gY [.dct 0 (dT d)]=some (.fr,resT o)/\(o=none->one d=[])/\∀w p,o=some (w,p)->w∈one d/\look d w=[p]/\∀v∈one d,dw ((v.length:Int),v) ((w.length:Int),w)=false:=by
 have s1:=aL (i:=1) (m:=.fr) (Dw C E) (by decide) (by show 1<3;decide);cases a:one d with
 |nil =>
  rw[a]at s1;exact⟨none,eD rfl (sq s1 (iz (PD (m:=.fr) rfl rfl))),λ_=>rfl,λw p h=>by cases h⟩
 |cons v r =>
  rw[a]at s1;obtain⟨j,b⟩:=yS (r.map λw=>((w.length:Int),w)) ((v.length:Int),v);generalize G:kU ((v.length:Int),v) (r.map λw=>((w.length:Int),w))=mn at j b;have J:mn∈(v :: r).map λw:Tx=>((w.length:Int),w):=j;obtain⟨w,hw,rfl⟩:=ZF.mp J;have L:w∈one d:=by rw[a];exact hw
  obtain⟨B,z⟩:=Yj.mp L;rw[Zd,decide_eq_true_iff]at z;obtain⟨p,A⟩:=XY.mp z.2;have H:∃q∈d,q.1=w:=by obtain⟨q,F,e⟩:=ZF.mp B;exact⟨q,F,e⟩
  have bm:so [(.pu,.lst ((v :: r).map λw=>T.tup [.int (w.length:Int),.str w]))]=some (.fr,.tup [.int (w.length:Int),.str w]):=by
   show (jZ ((v :: r).map λw=>T.tup [.int (w.length:Int),.str w])).bind _=_;rw[By];show some (Md.fr,T.tup [.int (kU ((v.length:Int),v) (r.map λw=>((w.length:Int),w))).1,.str (kU ((v.length:Int),v) (r.map λw=>((w.length:Int),w))).2])=_;rw[G]
  have g:e2 HR (aa 0) (aa 2) [pc (.dct 0 (dT d)),pc (.lst ((v :: r).map λw=>T.tup [.int (w.length:Int),.str w])),Q1 w]=some (.pu,.lst [tP p]):=by
   refine e2v (x:=(.pu,.dct 0 (dT d))) (y:=(.fr,.str w)) rfl rfl ?_;show (cR (dT d) (.str w)).map _=_;rw[om H,A];rfl
  have nl:e2 oEq (aa 1) (dW ah) [pc (.dct 0 (dT d)),pc (.lst ((v :: r).map λw=>T.tup [.int (w.length:Int),.str w])),none]=some (.fr,.bl false):=e2v (x:=(.pu,.lst ((v :: r).map λw=>T.tup [.int (w.length:Int),.str w]))) (y:=(.fr,.lst [])) rfl rfl (lM (by
   show (((v :: r).map λw=>T.tup [.int (w.length:Int),.str w]).all (HC 59))=true;rw[XW];exact Ja.mpr λ_ _=>rfl) rfl rfl)
  refine⟨some (w,p),xZ rfl (lS s1 (lS (qz nl rfl) (lS (aL (m:=.fr) (t:=.str w) (e2v (x:=(.fr,.tup [.int (w.length:Int),.str w])) (kD (xv (r:=ah) (x:=(.pu,.lst ((v :: r).map λw=>T.tup [.int (w.length:Int),.str w]))) rfl rfl) bm) (y:=(.fr,.int 1)) rfl rfl) (by decide) (by show 2<3;decide)) ⟨_,gq (Et (n:=.fr) (s:=.str w) rfl (m:=.fr) (t:=tP p) (e2v g (y:=(.fr,.int 0)) rfl rfl))⟩))),(λh=>by cases h),λM N h=>?_⟩;cases h;exact⟨hw,A,λu D=>b _ ((ZF (f:=λw:Tx=>((w.length:Int),w)) (l:=v :: r)).mpr ⟨u,D,rfl⟩)⟩
section
variable{bk:List Tx}{nd:Wd->Option Nat}{wd:List Wd}(H:K (Hd bk) (aI bk) nd wd)(hM:∀x,x∈ar bk↔x<(aI bk).lg.length)(hN:(ar bk).Nodup)(h0:(ar bk).idxOf 0=0)(hB:IB (aI bk) 1000 [0] 0=some (ar bk))
include H hM hN h0
theorem CN{k:Nat}(a:k<(ar bk).length):(ar bk).getD k 0<wd.length/\nd (wN bk wd k)=some ((ar bk).getD k 0)/\(0<k->wN bk wd k≠[]):=by
 have d:(ar bk).getD k 0<wd.length:=by
  rw[H.i.len];refine(hM _).mp ?_;rw[Zv,Zt a];exact ZG a
 have b:=H.i.HK d;refine⟨d,b,λh e=>?_⟩;have f:nd (wN bk wd k)=some ((ar bk).getD k 0):=b;rw[e,H.i.z]at f;have e1:ix bk ((ar bk).getD k 0)=k:=by
  rw[Zv,Zt a];exact uJ hN a
 rw[← Zm f,show ix bk 0=0 from h0]at e1;omega
theorem Bb{w:Tx}(hw:w≠[])(p:Pt bk w):∃k,0<k/\k<(ar bk).length/\IW bk w=IW bk (wN bk wd k)/\dw ((w.length:Int),w) (((wN bk wd k).length:Int),wN bk wd k)=false:=by
 obtain⟨j,a⟩:=(H.some w).mpr (E4.mp p);have m:=H.i.lt a;have n:j∈ar bk:=(hM j).mpr (by rw[← H.i.len];exact m);have b:=Yr.mpr n;have f:(ar bk).getD (ix bk j) 0=j:=by
  rw[Zv,Zt b];exact YH b
 have l:wN bk wd (ix bk j)=sw (aI bk) wd j:=by unfold wN;rw[f]
 refine⟨ix bk j,?_,b,?_,?_⟩
 ·refine Ym λz=>hw ?_;have:j=0:=by
   rw[z]at f;rw[← f];have r:0<(ar bk).length:=List.length_pos_of_mem n;have d:(0:Nat)∈ar bk:=(hM 0).mpr (by rw[← H.i.len];exact H.i.lt H.i.z);have g:∀i (h:i<(ar bk).length),i=0->(ar bk)[i]=(ar bk)[0]:=λi h e=>by subst e;rfl
   rw[Zv,Zt r];show (ar bk)[0]=0;rw[← g _ (Yr.mpr d) h0];exact YH _
  rw[this]at a;have:=H.i.sf a;rw[H.i.wz]at this;exact Yk.mp this
 ·rw[l];unfold IW;rw[List.flatMap_def,List.flatMap_def];congr 1;refine YR λq o=>?_;congr 1;unfold Ni;refine List.filter_congr λe _=>?_;have:=(H.eq a (H.i.HK m)).mp rfl (q.1.take e) (.inr ⟨q.1,List.fst_mem_of_mem_zipIdx o,WY _ _⟩);rw[Xh,Yb,Yb];exact this
 ·rw[l];have s:=H.i.JW a;unfold dw;by_cases e:w.length=(sw (aI bk) wd j).length
  ·rw[H.i.sw_eq a e,Zq rfl,fX,Zc (XZ _)]
  ·rw[Zp (by show ¬((w.length:Int)=_);omega),Zc (by show ¬((w.length:Int)<_);omega)]
include hB
theorem xB{i k:Nat}(h:i<k)(d:k<(ar bk).length):dw (((wN bk wd k).length:Int),wN bk wd k) (((wN bk wd i).length:Int),wN bk wd i)=false:=by
 have:=List.pairwise_iff_getElem.mp (H.i.order hB) i k (by omega) d h;have e:∀{i}(a:i<(ar bk).length),sw (aI bk) wd (ar bk)[i]=wN bk wd i:=λ{i} a=>by unfold wN;rw[Zv,Zt a];rfl
 rw[e,e]at this;unfold dw;rcases this with q | ⟨q,b⟩
 ·rw[Zp (by show ¬(((wN bk wd k).length:Int)=_);omega),Zc (by show ¬(((wN bk wd k).length:Int)<_);omega)]
 ·rw[Zq (by show (((wN bk wd k).length:Int)=_);omega),fX,Zc (λz=>XZ _ (List.lt_trans z b))]
theorem same{d:Fd}(g:∀w,w≠[]->look d w=IW bk w)(P:∀w,w≠[]->((∃q∈d,q.1=w)↔Pt bk w)){o j:Option (Tx×Pl)}(x:Uy bk wd o)(F:j=none->one d=[])(t:∀w p,j=some (w,p)->w∈one d/\look d w=[p]/\∀v∈one d,dw ((v.length:Int),v) ((w.length:Int),w)=false):o=j:=by
 have mo:∀w,w∈one d↔w≠[]/\(IW bk w).length=1:=λw=>by
  unfold one;rw[Yj,Zd,Bool.not_eq_true',decide_eq_false_iff_not,decide_eq_true_iff];constructor
  ·rintro⟨_,a,b⟩;exact⟨a,by rw[← g w a];exact b⟩
  ·rintro⟨a,b⟩;obtain⟨q,G,e⟩:=(P w a).mpr ((tD a).mp λe=>by rw[e]at b;cases b);exact⟨ZF.mpr ⟨q,G,e⟩,a,by rw[g w a];exact b⟩
 have C:∀{w},w∈one d->∃k,0<k/\k<(ar bk).length/\(IW bk (wN bk wd k)).length=1/\dw ((w.length:Int),w) (((wN bk wd k).length:Int),wN bk wd k)=false:=λ{w} h=>by
  obtain⟨a,b⟩:=(mo w).mp h;obtain⟨k,m,i,l,r⟩:=Bb H hM hN h0 a ((tD a).mp λe=>by rw[e]at b;cases b);exact⟨k,m,i,by rw[← l];exact b,r⟩
 cases o with
 |none =>
  cases j with
  |none=>rfl
  |some q =>
   obtain⟨a,_⟩:=t q.1 q.2 rfl;obtain⟨k,m,i,l,_⟩:=C a;exact absurd l (x.1 rfl k m i)
 |some q =>
  obtain⟨k,O,N,B,A,M⟩:=x.2 q.1 q.2 rfl;have n:q.1∈one d:=(mo _).mpr ⟨by rw[B];exact(CN H hM hN h0 N).2.2 O,by rw[A];rfl⟩;cases j with
  |none=>rw[F rfl]at n;cases n
  |some f =>
   obtain⟨L,y,J⟩:=t f.1 f.2 rfl;obtain⟨u,m,i,l,r⟩:=C L;have Q:k<=u:=ZE λz=>M u m z l;have le:dw (((f.1).length:Int),f.1) (((q.1).length:Int),q.1)=false:=by
    rw[B];rcases Wp Q with rfl | z
    ·exact r
    ·cases s:dw (((f.1).length:Int),f.1) (((wN bk wd k).length:Int),wN bk wd k) with
     |false=>rfl
     |true =>
      have E:=rE s (xB H hM hN h0 hB z i);have D:=sV r E;rw[D,xB H hM hN h0 hB z i]at s;cases s
   have e:=sV (J _ n) le;have e1:q.1=f.1:=(Xs e).2;have R:q.2=f.2:=by
    have S:=((mo _).mp n).1;rw[g _ (by rw[← e1];exact S),← e1,A]at y;exact(XJ y).1
   exact congrArg some (Prod.ext e1 R)
end
def Gz(t:Tx)(l:List Tx):g9 (t :: l)=t.length+g9 l:=by unfold g9;rw[Zl,Xj]
def FM{J:Env}{a:Ex}{m:Md}{b:List Tx}(f:a J=some (m,.lst (b.map .str)))(e:Pu m (b.map T.str)=true)(g:b.length<=1000):eN vZ (ab (cz 1 (aU 0) (gU a) none (eN bx (ab (aa 0) ah))) ah) J=some (.fr,.int (g9 b:Int)):=by
 refine kD (xv (r:=ah) (fR (m:=m) T.str (λt=>T.int (t.length:Int)) b (qY f) e (by omega) λt _=>⟨_,rfl,rfl⟩) rfl) ?_;show (mG _).bind _=_;rw[ints_map (λt:Tx=>(t.length:Int))];show some (Md.fr,T.int (b.map λt=>(t.length:Int)).sum)=_;have:∀l:List Tx,(l.map λt=>(t.length:Int)).sum=(g9 l:Int):=λl=>by
  induction l with
  |nil=>rfl
  |cons t l d=>rw[Zl,Xj,d,Gz,Int.natCast_add]
 rw[this]
def both{f:List Tx}(h:Lo f):∃(d:Fd)(o:Option (Tx×Pl)),fg [.lst (f.map .str)]=some (.fr,.dct 0 (dT d))/\gY [.dct 0 (dT d)]=some (.fr,resT o)/\nA [.lst (f.map .str)]=some (.fr,resT o):=by
 obtain⟨_,nd,j,H,G,x,w,F,y⟩:=h.k;have hN:(ar f).Nodup:=by
  obtain⟨l,e,q,_⟩:=H.met (k:=1000) (by omega);rw[Zm (x.symm.trans e)];exact q
 have hb:∀t∈f,t.length<=120/\Az t:=λt a=>⟨h.len t a,h.az t a⟩
 have M:∀t,t<j.length->Az (W j t)/\(W j t).length<=120:=λt a=>by
  obtain⟨p,n,u⟩:=(H.some (W j t)).mp ⟨t,H.i.top a⟩;rcases n with rfl | ⟨v,s,n⟩
  ·rw[Yk.mp u];exact⟨(λc b=>nomatch b),by decide⟩
  ·have g:=u.isInfix.trans n.isInfix;exact⟨λc b=>h.az v s c (g.subset b),ZI g.length_le (h.len v s)⟩
 obtain⟨o,e1,J⟩:=C8 H w hN y G F M (DS h) hb h.Jr;obtain⟨d,N,r,A,m⟩:=Bg f h.Jr h.len;have D:∀q∈d,q.1.length<=120/\Az q.1:=λq E=>by
  by_cases e:q.1=[]
  ·rw[e];exact⟨by decide,λc b=>nomatch b⟩
  ·rcases (A q.1 e).mp ⟨q,E,rfl⟩ with z | ⟨t,a,g⟩
   ·exact absurd z e
   ·exact⟨ZI g.length_le (h.len t a),λc b=>h.az t a c (g.subset b)⟩
 obtain⟨O,L,C,B⟩:=Ff D m.1;have e:=same H w hN y x r A J C B;exact⟨d,o,N,by rw[e];exact L,e1⟩
def sI(o:Option (Tx×Pl)):HC 60 (resT o)=true/\eqT (resT o) (resT o)=true:=by
 have:HC 60 (resT o)=true:=by cases o<;>rfl
 exact⟨this,nM 60 _ this⟩
noncomputable abbrev ER(a:List Tx)(o:Option (Tx×Pl))(d b:W5):Env:=[pc (.lst (a.map .str)),pc (resT o),pc (.lst (a.map .str)),d,b]
def Ax{a:List Tx}(h:Lo a):bH [.lst (a.map .str)]=some (.fr,.bl true):=by
 obtain⟨d,o,e1,p,j⟩:=both h;have im:GO (resT o)=true:=by cases o<;>rfl
 have eqB:HC 60 (.lst (a.map .str))=true/\eqT (.lst (a.map .str)) (.lst (a.map .str))=true:=by
  have:HC 60 (.lst (a.map .str))=true:=by
   show ((a.map T.str).all (HC 59))=true;rw[XW];exact Ja.mpr λ_ _=>rfl
  exact⟨this,nM 60 _ this⟩
 have f:∀b,aa 4 (ER a o b (pc (resT o)))=some (.fr,resT o):=λb=>by
  show some (up .pu (resT o))=_;unfold up;rw[im];rfl
 have g:∀b,aa 1 (ER a o b (pc (resT o)))=some (.fr,resT o):=λb=>by
  show some (up .pu (resT o))=_;unfold up;rw[im];rfl
 have i:∀b,da (ER a o b (pc (resT o)))=some (.nx (ER a o b (pc (resT o))))/\∀e,da (ER a o b e)=some (.nx (ER a o b (pc (resT o)))):=λb=>by
  have go:∀e,da (ER a o b e)=some (.nx (ER a o b (pc (resT o)))):=λe=>by
   refine sq (aL (m:=.fr) (bS (xv (r:=ah) (x:=(.pu,.lst (a.map .str))) rfl rfl) j) (by decide) (by show 4<5;decide)) (sq (qz (m:=.fr) (Vk (m:=.fr) (n:=.fr) (x:=false) (y:=false) (e2v (f b) (g b) (uG (r:=true) (sI o).1 (sI o).1 (sI o).2)) (e2v (x:=(.pu,.lst (a.map .str))) (y:=(.pu,.lst (a.map .str))) rfl rfl (uG (r:=true) eqB.1 eqB.1 eqB.2))) rfl) (qz (m:=.fr) ?_ rfl));cases o with
   |none=>rfl
   |some q=>rfl
  exact⟨go _,go⟩
 obtain⟨s,f1,b,e,rfl⟩:=j4 (tg:=aU 3) (body:=da) (λ(k:Nat)=>T.int (k:Int)) (λ_ J=>∃b e,J=ER a o b e) (by
  rintro k r _ ⟨b,e,rfl⟩;exact⟨_,_,rfl,(i (Q0 (k:Int))).2 e,_,_,rfl⟩) (List.range 2) (ER a o none none) ⟨none,none,rfl⟩
 refine xZ rfl (lS (aL (m:=.fr) (bS (xv (r:=ah) (bS (xv (r:=ah) (x:=(.pu,.lst (a.map .str))) rfl rfl) e1) rfl) p) (by decide) (by show 1<5;decide)) (lS (aL (m:=.fr) (t:=.lst (a.map .str)) (kD (xv (r:=ah) (x:=(.pu,.lst (a.map .str))) rfl rfl) ?_) (by decide) (by show 2<5;decide)) (lS ((bU (m:=.fr) (l:=(List.range 2).map λ(k:Nat)=>T.int (k:Int)) rfl rfl).trans f1) ⟨_,rfl⟩)));show IZ .pu (a.map T.str)=_;rw[lb (by rw[Zu];have:=h.Jr;omega),Zq (hZ T.str (λ_=>rfl) a)]
def xC(d:W3)(H:d.length<=63):yG [.scr d]=some (.fr,.bl true):=by
 obtain⟨n,e1⟩:=xf d H 0 (by decide);obtain⟨p,L,M,B,G,A⟩:=AQ n;have D:0<L.length/\L.length<=26/\Az L:=⟨B,G,A⟩
 obtain⟨f,bk,E,F,bs,j⟩:=D1 D p;have s:Lo bk:=⟨F,bs,j⟩
 have s1:gR 1 (bu d5 (ab (aa 0) (ab (Q2 ((0:Nat):Int)) ah))) [pc (.scr d),none,none]=some (.nx [pc (.scr d),oc (.lst [.int n]),none]):=uO (bS (xv (x:=(.fr,.scr d)) rfl (xv (r:=ah) (x:=(.fr,.int ((0:Nat):Int))) rfl rfl)) e1) rfl (by show 1<3;decide);have rt:∀{J:Env}{a:Ex}{m:Md}{bk:List Tx},Lo bk->a J=some (m,.lst (bk.map .str))->bu bH (ab a ah) J=some (.fr,.bl true):=λh e=>bS (xv (r:=ah) e rfl) (Ax h);have w:oA 2 (aW [(.io 1 false),(.px (aW [(.io 1 false)] dJ))] gr) [pc (.scr d),oc (.lst [.int n]),none]=some (.nx [pc (.scr d),oc (.lst [.int f]),oc (.lst (bk.map .str))]):=Bl (cx (i:=1) (un:=false) (k:=0) (r:=[.px (aW [(.io 1 false)] dJ)]) (l:=[.str L]) (J1:=[pc (.scr d),oc (.lst [.int p]),none]) rfl (vo (t:=.str L) (cx (i:=1) (un:=false) (k:=0) (r:=[]) (l:=[]) rfl rfl rfl rfl rfl rfl M) rfl rfl) rfl rfl rfl rfl E) (by show 2<3;decide);have hd:∀{r:Option Out}{rest:Sx},rest [pc (.scr d),pc (.lst [.int f]),pc (.lst (bk.map .str))]=r->av (HL (lT (bu bH (ab (aa 2) ah))) (fj (eC (.bl false))) eT) rest [pc (.scr d),pc (.lst [.int f]),pc (.lst (bk.map .str))]=r:=λq=>sq (qz (m:=.fr) (tm (m:=.fr) (b:=true) (rt s (m:=.pu) rfl)) rfl) q;have v:Kx (aa 2) none (some (Q2 1)) [pc (.scr d),pc (.lst [.int f]),pc (.lst (bk.map .str))]=some (.fr,.lst ((bk.take 1).map .str)):=by
  show IZ .pu (cut (bk.map T.str) none (some ((1:Nat):Int)))=_;rw[zV,y0,lb (by rw[Zu,YX];omega),Zq (hZ T.str (λ_=>rfl) _)]
 have u:=De (a:=aa 2) (J:=[pc (.scr d),pc (.lst [.int f]),pc (.lst (bk.map .str))]) (m:=.pu) (x:=bk) rfl v (by rw[YX];omega);have fin:∃z,av (HL (fN (dE oLt oLt (Q2 0) (eN bx (ab (aa 2) ah)) (Q2 8)) (e2 oLe (eN vZ (ab (cz 1 (aU 0) (gU (e2 bg (aa 2) (Kx (aa 2) none (some (Q2 1))))) none (eN bx (ab (aa 0) ah))) ah)) (Q2 120))) (fj (fN (bu bH (ab (e2 bg (aa 2) (Kx (aa 2) none (some (Q2 1)))) ah)) (bu bH (ab (aa 2) ah)))) eT) (fj (eC (.bl true))) [pc (.scr d),pc (.lst [.int f]),pc (.lst (bk.map .str))]=some (.rt (.fr,.bl true) z):=by
  have len:eN bx (ab (aa 2) ah) [pc (.scr d),pc (.lst [.int f]),pc (.lst (bk.map .str))]=some (.fr,.int (bk.length:Int)):=kD (xv (r:=ah) (x:=(.pu,.lst (bk.map .str))) rfl rfl) (by
   show some (Md.fr,T.int (((bk.map T.str).length:Nat):Int))=_;rw[Zu])
  have o:=FM u rfl (by rw[Zs,YX];omega);have ch:dE oLt oLt (Q2 0) (eN bx (ab (aa 2) ah)) (Q2 8) [pc (.scr d),pc (.lst [.int f]),pc (.lst (bk.map .str))]=some (.fr,.bl (decide (0<bk.length)&&decide (bk.length<8))):=by
   by_cases q:0<bk.length
   ·rw[ZP q,Bool.true_and];exact l5 (x:=(.fr,.int 0)) rfl len (show some (Md.fr,T.bl (decide ((0:Int)<(bk.length:Int))))=_ from by rw[ZP (by omega)]) (z:=(.fr,.int 8)) rfl (show some (Md.fr,T.bl (decide ((bk.length:Int)<8)))=_ from by rw[decide_eq_decide.mpr (show (bk.length:Int)<8↔bk.length<8 by omega)])
   ·rw[Zc q,Bool.false_and];exact uE (x:=(.fr,.int 0)) rfl len (show some (Md.fr,T.bl (decide ((0:Int)<(bk.length:Int))))=_ from by rw[Zc (by omega)])
  by_cases q:(0<bk.length/\bk.length<8)/\g9 (bk++bk.take 1)<=120
  ·have g:Lo (bk++bk.take 1):=⟨by rw[Zs,YX];omega,q.2,λt C=>by
    rcases Ze.mp C with z | z
    ·exact j t z
    ·exact j t (List.mem_of_mem_take z)⟩
   refine⟨_,iz (PD (m:=.fr) (nR (m:=.fr) (x:=true) (ch.trans (by rw[ZP q.1.1,ZP q.1.2];rfl)) (λ_=>e2v o (y:=(.fr,.int 120)) rfl (show some (Md.fr,T.bl (decide ((g9 (bk++bk.take 1):Int)<=120)))=_ from by rw[ZP (by have:=q.2;omega)])) (λz=>nomatch z)) (gq (Ce (m:=.fr) (n:=.fr) (x:=true) (y:=true) (rt g u) (rt s (m:=.pu) rfl))))⟩
  ·refine⟨_,sq (qz (m:=.fr) (nR (m:=.fr) ch (λz=>e2v o (y:=(.fr,.int 120)) rfl (show some (Md.fr,T.bl (decide ((g9 (bk++bk.take 1):Int)<=120)))=_ from by
    rw[Zd,decide_eq_true_iff,decide_eq_true_iff]at z;rw[Zc (by have:¬g9 (bk++bk.take 1)<=120:=λy=>q ⟨z,y⟩;omega)])) (λ_=>rfl)) rfl) rfl⟩
 obtain⟨z,fin⟩:=fin;exact eD rfl (sq s1 (sq w (sq (J1:=[pc (.scr d),oc (.lst [.int f]),pc (.lst (bk.map .str))]) rfl (sq (J1:=[pc (.scr d),pc (.lst [.int f]),pc (.lst (bk.map .str))]) rfl (hd fin)))))
end T35
end
section
namespace T35
open PySem PySem.Spec PyProof.Rows L2 VS
def qv{G:Gx}{X:Cx}{x:Str}{p:Pos}(i:Nat)(a:X.N[i]?=some x:=by exact rfl)(b:Ir X.env.scope x:=by exact Or.inl rfl)(c:K3 x:=by rfl)(d:K4 x:=by rfl):PV G X (.Name x p) (aa i):=cX i a b c d
def Q3{α:Sort _}{x:α}{b:Prop}:x=x∨b:=.inl rfl
abbrev Q4:List Str:=["_law_book_here"]
abbrev Q5:List Str:=["_law_end", "_law_book_here", "_law_found", "_law_t", "_law_text_here", "_law_start", "-6"]
abbrev Q6:List Str:=["_law_k", "_law_spring_here", "_law_letters", "_law_few", "_law_start", "_law_step"]
abbrev Q7:List Str:=["_law_k", "_law_spring_here", "_law_signs_here", "_law_most"]
abbrev Q8:List Str:=["_law_script", "_law_k"]
abbrev Q9:List Str:=["_law_spring_here", "_law_most"]
abbrev Qa:List Str:=["_law_spring_here", "_law_signs_here", "_law_most"]
abbrev Qb:List Str:=["_law_spring_here", "_law_signs_here"]
abbrev Qc:List Str:=["_law_spring_here"]
abbrev Qd:List Str:=["_law_text_here", "_law_script", "_law_spring_here", "_law_book_here"]
abbrev Qe:List Str:=["_law_word", "_law_parts_here", "_law_some", "-3"]
abbrev Qf:List Str:=["row", "book", "table", "found", "number", "text", "end", "head", "stand"]
abbrev Qg:List Str:=["self", "head", "sign"]
abbrev Qh:List Str:=["self", "head", "word"]
abbrev Qi:List Str:=["self", "long", "link", "ways"]
abbrev Qj:List Str:=["self", "node", "numbers"]
abbrev Qk:List Str:=["self", "node", "sign"]
abbrev Ql:List Str:=["self"]
abbrev Qm:List Str:=["sign", "self", "node", "numbers", "link", "ways", "steps"]
abbrev Qn:List Str:=["table", "stand"]
noncomputable def top(i:Nat):Stmt:=PySem.Challenge.pw_allparts_k35_the_shortest_once.main.body.getD i (.Pass ⟨0,0,0,0⟩)
structure HU(mg:Xk):Prop where
 Nc:mg "bool" = none
 Lb:mg "dict" = none
 G7:mg "enumerate" = none
 OS:mg "int" = none
 He:mg "isinstance" = none
 G3:mg "len" = none
 Nb:mg "list" = none
 OR:mg "min" = none
 Hh:mg "range" = none
 Js:mg "sorted" = none
 OQ:mg "sum" = none
 IU:mg "tuple" = none
noncomputable abbrev NY:List Str:=["  ", "longs", "links", "ways"]
noncomputable abbrev gX(K:Y2)(C D:Addr):Gx:=M4 NY K C D
def gJ{K:Y2}{C D:Addr}{m:Me}:j7 ((M4 NY K C D).at m):=BB (by decide +kernel) (by decide +kernel)
structure HH(K:Y2)(mg:Xk)(C D:Addr):Prop where
 one:C=D
 GN:Io K C
 KU:mg "Nodes" = some (.ref C)
 G5:cY K C "longs"
 G6:cY K C "links"
 Hc:cY K C "ways"
def fo{K:Y2}{b:Xk}{C D:Addr}{m:Me}(a:HH K b C D):Im ((M4 NY K C D).at m) K 1 "longs" := Cs rfl a.GN (a.one ▸ a.GN) a.G5 (a.one ▸ a.G5)
def fz{K:Y2}{b:Xk}{C D:Addr}{m:Me}(a:HH K b C D):Im ((M4 NY K C D).at m) K 2 "links" := Cs rfl a.GN (a.one ▸ a.GN) a.G6 (a.one ▸ a.G6)
def dQ{K:Y2}{b:Xk}{C D:Addr}{m:Me}(a:HH K b C D):Im ((M4 NY K C D).at m) K 3 "ways" := Cs rfl a.GN (a.one ▸ a.GN) a.Hc (a.one ▸ a.Hc)
section
variable(P:Program)(w:World)(base:Heap){K:Y2}{mg:Xk}{C D:Addr}
noncomputable abbrev eO:Stmt:=inClass (top 15) 1
def j9:oe Qi Qi (aq eO):=by constructor<;>first | rfl | decide +kernel
def aR{f:Addr}{e:FuncData}(F:GV K "new_node" "Nodes.new_node" eO f e)(b:Meth K C "new_node" f)(B:HU mg)(a:HH K mg C D) :
  MtAt P w K mg base 1 (gX K C D) 0 "new_node" Qi [false,false,true] aK:=pz F b a.GN (jA (by decide +kernel) (by decide +kernel)) j9 rfl rfl (λ_ _ _ _ _ _ g d=>by obtain⟨_,_,_,_,rfl⟩:=L2.Gu d;rfl) λ_ _ _ _ _ _ _ h =>
  (af (zy gJ (jN 1 (fo a) (cf 0)) (ae (qv 1) ak) rfl rfl rfl rfl rfl rfl rfl)
  (af (zy gJ (jN 2 (fz a) (cf 0)) (ae (qv 2) ak) rfl rfl rfl rfl rfl rfl rfl)
  (af (Au gJ (jN 3 (dQ a) (cf 0)) rfl rfl Q3 rfl rfl rfl rfl rfl rfl rfl rfl)
  (ax (bE (kJ zO xV (eA B.G3 (ae (w_fld gJ (fo a) (qv 0)) ak)) ag))))))
noncomputable abbrev eW:Stmt:=inClass (top 15) 0
def kC:oe Ql Ql (aq eW):=by constructor<;>first | rfl | decide +kernel
def cq{f:Addr}{g:FuncData}(F:GV K "__init__" "Nodes.__init__" eW f g)(d:Mk K C f)(B:HU mg)(a:HH K mg C D)(h:MtAt P w K mg base 1 (gX K C D) 0 "new_node" Qi [false,false,true] aK) :
  InAt P w K mg base 2 (gX K C D) 0 0 "Nodes" Ql eU:=C6 F d a.KU kC rfl rfl (λ_ _ _ _ _ _ i e=>by obtain⟨_,rfl⟩:=L2.lU e;rfl) λ_ _ _ _ _ _ _ b =>
  (af (uc 0 1 gJ (fo a) (dD ak) rfl Q3 rfl rfl rfl)
  (af (uc 0 2 gJ (fz a) (dD ak) rfl Q3 rfl rfl rfl)
  (af (uc 0 3 gJ (dQ a) (dD ak) rfl Q3 rfl rfl rfl)
  (ax (rK (ir gJ h.at b (by decide) (cf 0) (ae ag (ae pL (ae t5 ak)))) rfl)))))
noncomputable abbrev bZ:Stmt:=inClass (top 15) 4
def aX:oe ["self", "node", "sign", "old", "long", "half"] Qk (aq bZ):=by constructor<;>first | rfl | decide +kernel
def aV{f:Addr}{g:FuncData}(F:GV K "node_just_behind" "Nodes.node_just_behind" bZ f g)(d:Meth K C "node_just_behind" f)(B:HU mg)(a:HH K mg C D)(h:MtAt P w K mg base 1 (gX K C D) 0 "new_node" Qi [false,false,true] aK) :
  MtAt P w K mg base 2 (gX K C D) 0 "node_just_behind" Qk [false,false] aA:=pz F d a.GN (jA (by decide +kernel) (by decide +kernel)) aX rfl rfl (λ_ _ _ _ _ _ i e=>by obtain⟨_,_,_,rfl⟩:=L2.wF e;rfl) λ_ _ _ _ _ _ _ b =>
  (af (aE (pD b (aZ (w_fld gJ (dQ a) (qv 0)) (qv 1) (λ_ _=>rfl)) (qv 2) (λ_ _=>rfl)) aX.nd rfl Q3)
  (af (aE (w_add (aZ (w_fld gJ (fo a) (qv 0)) (qv 1) (λ_ _=>rfl)) ag) aX.nd rfl Q3)
  (af (dj (nU b (aZ (w_fld gJ (fo a) (qv 0)) (qv 3) (λ_ _=>rfl)) (qv 4)) (ax (bY 3 rfl (Or.inl rfl) rfl rfl)) bQ)
  (af (eX (ir gJ h.at b (by decide) (cf 0) (ae (qv 4) (ae (aZ (w_fld gJ (fz a) (qv 0)) (qv 3) (λ_ _=>rfl)) (ae (Ad B.Lb (ae (aZ (w_fld gJ (dQ a) (qv 0)) (qv 3) (λ_ _=>rfl)) ak) rfl rfl) ak)))) aX.nd rfl Q3)
  (af (kB gJ b (jN 2 (fz a) (cf 0)) (qv 3) (qv 5))
  (af (ib ZC (JS.LB (jo (kh (qv 1)) (iB (nU b (w_get b (aZ (w_fld gJ (dQ a) (qv 0)) (qv 1) (λ_ _=>rfl)) (qv 2) rfl rfl rfl rfl) (qv 3)))))
  (af (kB gJ b (BJ b (jN 3 (dQ a) (cf 0)) (qv 1) (λ_ _=>rfl) rfl) (qv 2) (qv 5))
  (ax (aE (aZ (w_fld gJ (fz a) (qv 0)) (qv 1) (λ_ _=>rfl)) aX.nd rfl Q3))))
  (ax (bY 5 rfl (Or.inl rfl) rfl rfl))))))))
noncomputable abbrev dh:Stmt:=inClass (top 15) 3
def bW:oe ["self", "head", "sign", "fresh", "node"] Qg (aq dh):=by constructor<;>first | rfl | decide +kernel
def bC{f:Addr}{h:FuncData}(F:GV K "head_behind" "Nodes.head_behind" dh f h)(e:Meth K C "head_behind" f)(B:HU mg)(b:HH K mg C D)(i:MtAt P w K mg base 1 (gX K C D) 0 "new_node" Qi [false,false,true] aK)(d:MtAt P w K mg base 2 (gX K C D) 0 "node_just_behind" Qk [false,false] aA) :
  MtAt P w K mg base 3 (gX K C D) 0 "head_behind" Qg [false,false] bB:=pz F e b.GN (jA (by decide +kernel) (by decide +kernel)) bW rfl rfl (λ_ _ _ _ _ _ j g=>by obtain⟨_,_,_,rfl⟩:=L2.wF g;rfl) λ_ _ _ _ _ _ _ a =>
  (af (dj (EU a (qv 2) (aZ (w_fld gJ (dQ b) (qv 0)) (qv 1) (λ_ _=>rfl)) (by with_unfolding_all rfl) rfl) (ax (uu (ir gJ d.at a (by decide) (cf 0) (ae (qv 1) (ae (qv 2) ak))))) bQ)
  (af (eX (ir gJ i.at a (by decide) (cf 0) (ae (w_add (aZ (w_fld gJ (fo b) (qv 0)) (qv 1) (λ_ _=>rfl)) ag) (ae ag (ae t5 ak)))) bW.nd rfl Q3)
  (af (aE (qv 1) bW.nd rfl Q3)
  (af (ib ZC (JS.LB (jo (kh (qv 4)) (iB (tQ a (qv 2) (aZ (w_fld gJ (dQ b) (qv 0)) (qv 4) (λ_ _=>rfl)) (by with_unfolding_all rfl)))))
  (af (kB gJ a (BJ a (jN 3 (dQ b) (cf 0)) (qv 4) (λ_ _=>rfl) rfl) (qv 2) (qv 3))
  (ax (aE (aZ (w_fld gJ (fz b) (qv 0)) (qv 4) (λ_ _=>rfl)) bW.nd rfl Q3))))
  (af (dj (kh (qv 4)) (ax (vp gJ a (jN 2 (fz b) (cf 0)) (qv 3) (ir gJ d.at a (by decide) (cf 0) (ae (qv 4) (ae (qv 2) ak))) (λ_=>rfl) rfl rfl rfl)) bQ)
  (ax (bY 3 rfl (Or.inl rfl) rfl rfl)))))))
noncomputable abbrev dC:Stmt:=inClass (top 15) 2
def dk:oe ["self", "head", "word", "sign"] Qh (aq dC):=by constructor<;>first | rfl | decide +kernel
def bO{f:Addr}{e:FuncData}(F:GV K "head_grown" "Nodes.head_grown" dC f e)(b:Meth K C "head_grown" f)(B:HU mg)(h:HH K mg C D)(g:MtAt P w K mg base 3 (gX K C D) 0 "head_behind" Qg [false,false] bB) :
  MtAt P w K mg base 4 (gX K C D) 0 "head_grown" Qh [false,false] bL:=pz F b h.GN (jA (by decide +kernel) (by decide +kernel)) dk rfl rfl (λ_ _ _ _ _ _ i d=>by obtain⟨_,_,_,rfl⟩:=L2.wF d;rfl) λ_ _ _ _ _ _ _ a =>
  (af (b9 ZC rfl (fO (qv 2)) (aO 3 dk.nd rfl Q3 Q3)
  (ax (eX (ir gJ g.at a (by decide) (cf 0) (ae (qv 1) (ae (qv 3) ak))) dk.nd rfl Q3)))
  (ax (bY 1 rfl (Or.inl rfl) rfl rfl)))
noncomputable abbrev cj:Stmt:=inClass (top 15) 6
def aM:oe ["self", "numbers", "met", "done", "ways", "sign"] Ql (aq cj):=by constructor<;>first | rfl | decide +kernel
def ba{m:Me}{f:Addr}{g:FuncData}(F:GV K "numbers_by_node" "Nodes.numbers_by_node" cj f g)(d:Meth K C "numbers_by_node" f)(B:HU mg)(b:HH K mg C D) :
  MpAt P w K mg base 1 ((gX K C D).at m) 0 "numbers_by_node" Ql aJ:=sM F d b.GN (jA (by decide +kernel) (by decide +kernel)) aM rfl rfl (λ_ _ _ _ _ _ h e=>by obtain⟨_,rfl⟩:=L2.lU e;rfl) λ_ _ _ _ _ _ a =>
  (af (eZ DU aM.nd rfl Q3)
  (af (eZ (dD (ae ag ak)) aM.nd rfl Q3)
  (af (aE ag aM.nd rfl Q3)
  (af (ib ZC (ik pR vd j6 (qv 3) (eA B.G3 (ae (qv 2) ak)) (jD _))
  (af (aE (aZ (w_fld gJ (dQ b) (qv 0)) (aZ (qv 2) (qv 3) (λ_ _=>rfl)) (λ_ _=>rfl)) aM.nd rfl Q3)
  (af (b9 ZC rfl (fO (uq B.Js (ae (qv 4) ak))) (aO 5 aM.nd rfl Q3 Q3)
  (ax (dj (tQ a (pD a (qv 4) (qv 5) (λ_ _=>rfl)) (qv 1) (by with_unfolding_all rfl)) (af (wZ 1 a (pD a (qv 4) (qv 5) (λ_ _=>rfl)) (eA B.G3 (ae (qv 2) ak)) rfl Q3 rfl rfl (λ_=>rfl) rfl rfl rfl)
  (ax (kb 2 (ae (pD a (qv 4) (qv 5) (λ_ _=>rfl)) ak) rfl rfl Q3 rfl rfl))) bQ)))
  (ax (aE (w_add (qv 3) ag) aM.nd rfl Q3)))))
  (lZ 2 (ax (bY 1 rfl (Or.inl rfl) rfl rfl)))))))
noncomputable abbrev gw:Stmt:=inClass (top 15) 7
def dB:oe ["self", "node", "numbers", "link", "ways", "steps"] Qj (aq gw):=by constructor<;>first | rfl | decide +kernel
def cV{m:Me}{f:Addr}{g:FuncData}(F:GV K "row_of" "Nodes.row_of" gw f g)(d:Meth K C "row_of" f)(B:HU mg)(a:HH K mg C D) :
  MpAt P w K mg base 1 ((gX K C D).at m) 0 "row_of" Qj bJ:=sM F d a.GN (jA (by decide +kernel) (by decide +kernel)) dB rfl rfl (λ_ _ _ _ _ _ h e=>by obtain⟨_,_,_,rfl⟩:=L2.wF e;rfl) λ_ _ _ _ _ _ b =>
  (af (aE (aZ (w_fld gJ (fz a) (qv 0)) (qv 1) (λ_ _=>rfl)) dB.nd rfl Q3)
  (af (aE (aZ (w_fld gJ (dQ a) (qv 0)) (qv 1) (λ_ _=>rfl)) dB.nd rfl (Or.inr rfl))
  (af (aE (Af B.IU (ae (mq 1 Qm rfl (fO (uq B.Js (ae (cX 4 rfl (Or.inr Q3) rfl rfl) ak))) (iy) (λ_ _ _ _ _=>(aO 0 (show List.Nodup Qm from by decide +kernel) rfl Q3 (Or.inr rfl))) (λ_ _ _ _ _=>(gM (ae (qv 0) (ae (yh b (cX 3 rfl (Or.inr Q3) rfl rfl) (pD b (cX 5 rfl (Or.inr Q3) rfl rfl) (qv 0) (λ_ _=>rfl))) ak)))) rfl rfl (by decide)) ak)) dB.nd rfl Q3)
  (af (dj (CM (qv 3)) (ax (bE (gM (ae ag (ae ag (ae pL (ae (qv 5) ak))))))) bQ)
  (ax (bE (gM (ae (w_add (aZ (w_fld gJ (fo a) (qv 0)) (qv 3) (λ_ _=>rfl)) ag) (ae (aZ (w_fld gJ (fo a) (qv 0)) (qv 1) (λ_ _=>rfl)) (ae (yh b (cX 2 rfl (Or.inr Q3) rfl rfl) (qv 3)) (ae (qv 5) ak)))))))))))
noncomputable abbrev gO:Stmt:=inClass (top 15) 5
def i3:oe ["self", "numbers"] Ql (aq gO):=by constructor<;>first | rfl | decide +kernel
def du{m:Me}{f:Addr}{e:FuncData}(F:GV K "table" "Nodes.table" gO f e)(b:Meth K C "table" f)(B:HU mg)(i:HH K mg C D)(h:∀m,MpAt P w K mg base 1 ((gX K C D).at m) 0 "numbers_by_node" Ql aJ)(g:∀m,MpAt P w K mg base 1 ((gX K C D).at m) 0 "row_of" Qj bJ) :
  MpAt P w K mg base 2 ((gX K C D).at m) 0 "table" Ql dz:=sM F b i.GN (jA (by decide +kernel) (by decide +kernel)) i3 rfl rfl (λ_ _ _ _ _ _ j d=>by obtain⟨_,rfl⟩:=L2.lU d;rfl) λ_ _ _ _ _ _ a =>
  (af (eZ (rY (h _) a (by decide) (cX 0 rfl (Or.inr Q3) rfl rfl) rfl) i3.nd rfl (Or.inr rfl))
  (ax (Cp 1 ["node", "self", "numbers"] rfl rfl (Or.inr Q3) rfl rfl (iy) (λ_ _ _ _ _=>(aO 0 (show List.Nodup (["node", "self", "numbers"]:List Str) from by decide +kernel) rfl Q3 (Or.inr rfl))) (λ_ _ _ _ _=>(zU (g _) a (by decide) (cX 1 rfl (Or.inr Q3) rfl rfl) (ae (qv 0) (ae (cX 2 rfl (Or.inr Q3) rfl rfl) ak)) rfl rfl rfl)) rfl rfl (by decide) (λ_=>rfl))))
noncomputable abbrev jK:Stmt:=top 4
def sj:oe ["thing"] ["thing"] (aq jK):=by constructor<;>first | rfl | decide +kernel
def gu{m:Me}{f:Addr}{d:FuncData}(F:GV K "is_whole" "is_whole" jK f d)(a:mg "is_whole" = some (.ref f))(B:HU mg)(h:HH K mg C D) :
  FnAt P w K mg base 1 "is_whole" ["thing"] ((gX K C D).at m) jS:=gD F a sj rfl rfl (λ_ _ _ _ _ _ e b=>by obtain⟨_,rfl⟩:=L2.lU b;rfl) λ_ _ _ _ _ _ g =>
  (ax (bE (yu (w_is .int B.He B.OS (qv 0)) (zA (Cf (w_is .bool B.He B.Nc (qv 0)))))))
noncomputable abbrev ua:Stmt:=top 6
def mD:oe ["table", "word", "stands", "sign", "ways"] ["table", "word"] (aq ua):=by constructor<;>first | rfl | decide +kernel
def mK{m:Me}{f:Addr}{e:FuncData}(F:GV K "walk" "walk" ua f e)(b:mg "walk" = some (.ref f))(B:HU mg)(h:HH K mg C D) :
  FnAt P w K mg base 1 "walk" ["table", "word"] ((gX K C D).at m) nr:=gD F b mD rfl rfl (λ_ _ _ _ _ _ g d=>by obtain⟨_,_,rfl⟩:=L2.ed d;rfl) λ_ _ _ _ _ _ a =>
  (af (eZ (dD (ae ag ak)) mD.nd rfl Q3)
  (af (b9 ZC rfl (fO (qv 1)) (aO 3 mD.nd rfl Q3 Q3)
  (af (aE (Ab B.Lb (ae (aZ (aZ (qv 0) (aZ (qv 2) BQ (λ_ _=>rfl)) (λ_ _=>rfl)) ag (λ_ _=>rfl)) ak)) mD.nd rfl Q3)
  (af (dj (tQ a (qv 3) (qv 4) (by with_unfolding_all rfl)) (ax (bY 2 rfl (Or.inl rfl) rfl rfl)) bQ)
  (ax (kb 2 (ae (pD a (qv 4) (qv 3) (λ_ _=>rfl)) ak) rfl rfl Q3 rfl rfl)))))
  (ax (bY 2 rfl (Or.inl rfl) rfl rfl))))
noncomputable abbrev dN:Stmt:=top 9
def jG:oe Qn Qn (aq dN):=by constructor<;>first | rfl | decide +kernel
def aY{m:Me}{f:Addr}{g:FuncData}(F:GV K "refuse_no_stand" "refuse_no_stand" dN f g)(b:mg "refuse_no_stand" = some (.ref f))(B:HU mg)(i:HH K mg C D)(e:∀m,FnAt P w K mg base 1 "is_whole" ["thing"] ((gX K C D).at m) jS) :
  FnAt P w K mg base 2 "refuse_no_stand" Qn ((gX K C D).at m) aG:=gD F b jG rfl rfl (λ_ _ _ _ _ _ h d=>by obtain⟨_,_,rfl⟩:=L2.ed d;rfl) λ_ _ _ _ _ _ a =>
  (ax (dj (JS.LB (sC (j5 (mh (cW (e _) a (ae (qv 1) ak) (by decide) rfl rfl))) (ud (j5 (nQ ag (qv 1) (eA B.G3 (ae (qv 0) ak)) (by with_unfolding_all rfl)))))) (ax Dp) bQ))
noncomputable abbrev gp:Stmt:=top 10
def cJ:oe ["table", "before", "number", "row", "way"] ["table"] (aq gp):=by constructor<;>first | rfl | decide +kernel
def cU{m:Me}{f:Addr}{e:FuncData}(F:GV K "steps_before" "steps_before" gp f e)(b:mg "steps_before" = some (.ref f))(B:HU mg)(h:HH K mg C D) :
  FnAt P w K mg base 1 "steps_before" ["table"] ((gX K C D).at m) d6:=gD F b cJ rfl rfl (λ_ _ _ _ _ _ g d=>by obtain⟨_,rfl⟩:=L2.lU d;rfl) λ_ _ _ _ _ _ a =>
  (af (eZ t5 cJ.nd rfl Q3)
  (af (b9 ZC rfl (i6 (qv 0) rfl B.G7) (j0 rfl (cL (aO 2 cJ.nd rfl Q3 Q3) (cL (aO 3 cJ.nd rfl Q3 Q3) jc)))
  (ax (b9 ZC rfl (fO (aZ (qv 3) ag (λ_ _=>rfl))) (aO 4 cJ.nd rfl Q3 Q3)
  (ax (dj (nU a (aZ (aZ (qv 0) (aZ (qv 4) ag (λ_ _=>rfl)) (λ_ _=>rfl)) ag (λ_ _=>rfl)) (w_add (aZ (qv 3) ag (λ_ _=>rfl)) ag)) (ax (wZ 1 a (aZ (qv 4) ag (λ_ _=>rfl)) (gM (ae (qv 2) (ae (aZ (qv 4) ag (λ_ _=>rfl)) ak))) rfl Q3 rfl rfl (λ_=>rfl) rfl rfl rfl)) bQ)))))
  (ax (bY 1 rfl (Or.inl rfl) rfl rfl))))
noncomputable abbrev kZ:Stmt:=top 7
def eQ:oe ["table", "stand", "before", "word", "step"] Qn (aq kZ):=by constructor<;>first | rfl | decide +kernel
def gS{m:Me}{f:Addr}{e:FuncData}(F:GV K "longest" "longest" kZ f e)(b:mg "longest" = some (.ref f))(B:HU mg)(j:HH K mg C D)(h:∀m,FnAt P w K mg base 2 "refuse_no_stand" Qn ((gX K C D).at m) aG)(g:∀m,FnAt P w K mg base 1 "steps_before" ["table"] ((gX K C D).at m) d6) :
  FnAt P w K mg base 3 "longest" Qn ((gX K C D).at m) jk:=gD F b eQ rfl rfl (λ_ _ _ _ _ _ i d=>by obtain⟨_,_,rfl⟩:=L2.ed d;rfl) λ_ _ _ _ _ _ a =>
  (af (zr (cW (h _) a (ae (qv 0) (ae (qv 1) ak)) (by decide) rfl rfl) rfl)
  (af (aE (cW (g _) a (ae (qv 0) ak) (by decide) rfl rfl) eQ.nd rfl Q3)
  (af (aE (jF (by decide +kernel) (by decide)) eQ.nd rfl Q3)
  (af (ib ZC (uL a (qv 1) ag)
  (af (aE (pD a (qv 2) (qv 1) (λ_ _=>rfl)) eQ.nd rfl Q3)
  (af (aE (w_add (aZ (qv 4) ag (λ_ _=>rfl)) (qv 3)) eQ.nd rfl Q3)
  (ax (aE (aZ (qv 4) ag (λ_ _=>rfl)) eQ.nd rfl Q3)))))
  (ax (bY 3 rfl (Or.inl rfl) rfl rfl))))))
noncomputable abbrev jH:Stmt:=top 8
def lR:oe ["table", "stand", "word"] Qn (aq jH):=by constructor<;>first | rfl | decide +kernel
def gh{m:Me}{f:Addr}{g:FuncData}(F:GV K "shortest" "shortest" jH f g)(b:mg "shortest" = some (.ref f))(B:HU mg)(i:HH K mg C D)(e:∀m,FnAt P w K mg base 3 "longest" Qn ((gX K C D).at m) jk) :
  FnAt P w K mg base 4 "shortest" Qn ((gX K C D).at m) gk:=gD F b lR rfl rfl (λ_ _ _ _ _ _ h d=>by obtain⟨_,_,rfl⟩:=L2.ed d;rfl) λ_ _ _ _ _ _ a =>
  (af (aE (cW (e _) a (ae (qv 0) (ae (qv 1) ak)) (by decide) rfl rfl) lR.nd rfl Q3)
  (ax (bE (ku (qv 2) (i7 (kJ zO xV (eA B.G3 (ae (qv 2) ak)) (aZ (aZ (qv 0) (qv 1) (λ_ _=>rfl)) ag (λ_ _=>rfl)))) nO))))
noncomputable abbrev o6:Stmt:=top 12
def m6:oe ["table", "stand", "met"] Qn (aq o6):=by constructor<;>first | rfl | decide +kernel
def kN{m:Me}{f:Addr}{e:FuncData}(F:GV K "chain" "chain" o6 f e)(b:mg "chain" = some (.ref f))(B:HU mg)(i:HH K mg C D)(g:∀m,FnAt P w K mg base 2 "refuse_no_stand" Qn ((gX K C D).at m) aG) :
  FnAt P w K mg base 3 "chain" Qn ((gX K C D).at m) mr:=gD F b m6 rfl rfl (λ_ _ _ _ _ _ h d=>by obtain⟨_,_,rfl⟩:=L2.ed d;rfl) λ_ _ _ _ _ _ a =>
  (af (zr (cW (g _) a (ae (qv 0) (ae (qv 1) ak)) (by decide) rfl rfl) rfl)
  (af (eZ (dD ak) m6.nd rfl Q3)
  (af (ib ZC (kh (qv 1))
  (af (kb 2 (ae (qv 1) ak) rfl rfl Q3 rfl rfl)
  (ax (aE (aZ (aZ (qv 0) (qv 1) (λ_ _=>rfl)) ag (λ_ _=>rfl)) m6.nd rfl Q3))))
  (ax (bY 2 rfl (Or.inl rfl) rfl rfl)))))
noncomputable abbrev i5:Stmt:=top 13
def cB:oe ["book", "table", "found", "number", "text", "end", "head", "stand"] ["book", "table"] (aq i5):=by constructor<;>first | rfl | decide +kernel
def fm{m:Me}{f:Addr}{i:FuncData}(F:GV K "places_by" "places_by" i5 f i)(e:mg "places_by" = some (.ref f))(B:HU mg)(l:HH K mg C D)(d:∀m,FnAt P w K mg base 3 "chain" Qn ((gX K C D).at m) mr)(b:∀m,FnAt P w K mg base 1 "walk" ["table", "word"] ((gX K C D).at m) nr) :
  FnAt P w K mg base 4 "places_by" ["book", "table"] ((gX K C D).at m) fq:=gD F e cB rfl rfl (λ_ _ _ _ _ _ j g=>by obtain⟨_,_,rfl⟩:=L2.ed g;rfl) λ_ _ _ _ _ _ a =>
  (af (w6 1 Qf (λ_ _ _ h=>Cc h) rfl (fO (qv 1)) (iy) (λ_ _ _ _ _=>(aO 0 (show List.Nodup Qf from by decide +kernel) rfl Q3 (Or.inr rfl))) (λ_ _ _ _ _=>(dD ak)) cB.nd rfl Q3 rfl rfl (by decide))
  (af (b9 ZC rfl (i6 (qv 0) rfl B.G7) (j0 rfl (cL (aO 3 cB.nd rfl Q3 Q3) (cL (aO 4 cB.nd rfl Q3 Q3) jc)))
  (ax (b9 ZC rfl (i6 (cW (b _) a (ae (qv 1) (ae (qv 4) ak)) (by decide) rfl rfl) rfl B.G7) (j0 rfl (cL (aO 5 cB.nd rfl Q3 Q3) (cL (aO 6 cB.nd rfl Q3 Q3) jc)))
  (ax (b9 ZC rfl (fO (cW (d _) a (ae (qv 1) (ae (qv 6) ak)) (by decide) rfl rfl)) (aO 7 cB.nd rfl Q3 Q3)
  (ax (Ci 2 rfl (Or.inl rfl) rfl rfl (qv 7) (λ_ _=>rfl) (ae (gM (ae (qv 3) (ae (qv 5) ak))) ak) rfl rfl rfl rfl rfl rfl rfl)))))))
  (ax (bY 2 rfl (Or.inl rfl) rfl rfl))))
noncomputable abbrev jB:Stmt:=top 16
def iT:oe ["book", "nodes", "text"] ["book"] (aq jB):=by constructor<;>first | rfl | decide +kernel
def fS{m:Me}{f:Addr}{e:FuncData}(F:GV K "table_of" "table_of" jB f e)(b:mg "table_of" = some (.ref f))(B:HU mg)(l:HH K mg C D)(h:InAt P w K mg base 2 (gX K C D) 0 0 "Nodes" Ql eU)(i:MtAt P w K mg base 4 (gX K C D) 0 "head_grown" Qh [false,false] bL)(g:∀m,MpAt P w K mg base 2 ((gX K C D).at m) 0 "table" Ql dz) :
  FnAt P w K mg base 5 "table_of" ["book"] ((gX K C D).at m) eI:=gD F b iT rfl rfl (λ_ _ _ _ _ _ j d=>by obtain⟨_,rfl⟩:=L2.lU d;rfl) λ_ _ _ _ _ _ a =>
  (af (eZ (zY h.at a (by decide) rfl rfl) iT.nd rfl Q3)
  (af (b9 ZC rfl (fO (qv 0)) (aO 2 iT.nd rfl Q3 Q3)
  (ax (rK (ir gJ i.at a (by decide) (cf 1) (ae ag (ae (qv 2) ak))) rfl)))
  (lZ 1 (ax (bE (rY (g _) a (by decide) (qv 1) rfl))))))
noncomputable abbrev sQ:Stmt:=top 18
def md:oe ["book", "table", "stand", "found"] ["book"] (aq sQ):=by constructor<;>first | rfl | decide +kernel
def ng{m:Me}{f:Addr}{h:FuncData}(F:GV K "once" "once" sQ f h)(b:mg "once" = some (.ref f))(B:HU mg)(l:HH K mg C D)(g:∀m,FnAt P w K mg base 4 "places_by" ["book", "table"] ((gX K C D).at m) fq)(e:∀m,FnAt P w K mg base 4 "shortest" Qn ((gX K C D).at m) gk)(i:∀m,FnAt P w K mg base 5 "table_of" ["book"] ((gX K C D).at m) eI) :
  FnAt P w K mg base 6 "once" ["book"] ((gX K C D).at m) nA:=gD F b md rfl rfl (λ_ _ _ _ _ _ j d=>by obtain⟨_,rfl⟩:=L2.lU d;rfl) λ_ _ _ _ _ _ a =>
  (af (aE (cW (i _) a (ae (qv 0) ak) (by decide) rfl rfl) md.nd rfl Q3)
  (af (b9 ZC rfl (i6 (cW (g _) a (ae (qv 0) (ae (qv 1) ak)) (by decide) rfl rfl) rfl B.G7) (j0 rfl (cL (aO 2 md.nd rfl Q3 Q3) (cL (aO 3 md.nd rfl Q3 Q3) jc)))
  (ax (dj (JS.LB (jo (zt (qv 2) ag) (iB (nU a (eA B.G3 (ae (qv 3) ak)) ag)))) (ax (bE (gM (ae (cW (e _) a (ae (qv 1) (ae (qv 2) ak)) (by decide) rfl rfl) (ae (aZ (qv 3) ag (λ_ _=>rfl)) ak))))) bQ)))
  (ax (bE pL))))
noncomputable abbrev ip:Stmt:=top 20
def bq:oe ["_law_script", "_law_k", "_law_cell", "_law_left", "_law_number", "_law_turn", "_law_more"] Q8 (aq ip):=by constructor<;>first | rfl | decide +kernel
def dS{m:Me}{f:Addr}{e:FuncData}(F:GV K "_law_spring" "_law_spring" ip f e)(b:mg "_law_spring" = some (.ref f))(B:HU mg)(h:HH K mg C D) :
  FnAt P w K mg base 1 "_law_spring" Q8 ((gX K C D).at m) d5:=gD F b bq rfl rfl (λ_ _ _ _ _ _ g d=>by obtain⟨_,_,rfl⟩:=L2.ed d;rfl) λ_ _ _ _ _ _ a =>
  (af (aE (w_add (w_mul (qv 1) ag) ag) bq.nd rfl Q3)
  (af (dj (zt (eA B.G3 (ae (qv 0) ak)) ag) (ax (aE (w_add (aZ (qv 0) (w_mod (qv 1) (eA B.G3 (ae (qv 0) ak))) (λ_ _=>rfl)) (w_mul (kJ mf l9 (qv 1) (eA B.G3 (ae (qv 0) ak))) ag)) bq.nd rfl Q3)) bQ)
  (af (dj (nU a (w_mod (qv 2) ag) ag) (ax (bE (dD (ae (kJ mf l9 (qv 2) ag) ak)))) bQ)
  (af (aE (w_mod (w_add (kJ mf l9 (qv 2) ag) (w_mul ag (qv 1))) ag) bq.nd rfl Q3)
  (af (aE ag bq.nd rfl Q3)
  (af (b9 ZC rfl (eJ ag rfl B.Hh) (aO 5 bq.nd rfl Q3 Q3)
  (af (aE (w_mod (w_add (w_add (w_mul (qv 3) ag) (w_mul ag (qv 5))) ag) ag) bq.nd rfl Q3)
  (af (aE (w_mod (w_mul (qv 3) (qv 3)) ag) bq.nd rfl Q3)
  (ax (aE (w_add (w_mul (qv 4) ag) (w_mod (w_mul (qv 6) (w_add (w_mod (qv 6) ag) ag)) ag)) bq.nd rfl Q3)))))
  (ax (bE (dD (ae (qv 4) ak))))))))))
noncomputable abbrev jz:Stmt:=top 21
def lK:oe ["_law_spring_here", "_law_most", "_law_digit"] Q9 (aq jz):=by constructor<;>first | rfl | decide +kernel
def aP{m:Me}{f:Addr}{e:FuncData}(F:GV K "_law_next" "_law_next" jz f e)(b:mg "_law_next" = some (.ref f))(B:HU mg)(h:HH K mg C D) :
  IoAt P w K mg base 1 "_law_next" Q9 ((gX K C D).at m) [false] aC:=qf F b lK rfl rfl (λ_ _ _ _ _ _ g d=>by obtain⟨_,_,rfl⟩:=L2.ed d;rfl) λ_ _ _ _ _ _ _ a =>
  (af (aE (w_mod (aZ (El (qv 0)) ag (λ_ _=>rfl)) (qv 1)) lK.nd rfl Q3)
  (af (kB gJ a (Eo (cf 0)) ag (kJ mf l9 (aZ (El (qv 0)) ag (λ_ _=>rfl)) (qv 1)))
  (ax (bY 2 rfl (Or.inl rfl) rfl rfl))))
noncomputable abbrev jI:Stmt:=top 22
def qO:oe Qa Qa (aq jI):=by constructor<;>first | rfl | decide +kernel
def eV{m:Me}{f:Addr}{g:FuncData}(F:GV K "_law_text" "_law_text" jI f g)(d:mg "_law_text" = some (.ref f))(B:HU mg)(i:HH K mg C D)(b:∀m,IoAt P w K mg base 1 "_law_next" Q9 ((gX K C D).at m) [false] aC) :
  IoAt P w K mg base 2 "_law_text" Qa ((gX K C D).at m) [false,false] eK:=qf F d qO rfl rfl (λ_ _ _ _ _ _ h e=>by obtain⟨_,_,_,rfl⟩:=L2.wF e;rfl) λ_ _ _ _ _ _ _ a =>
  (ax (uu (Bu (jF (by decide +kernel) (by decide)) (zp Q7 rfl rfl B.Hh (cF (b _) a (dq 0 true rfl (Or.inr Q3) rfl rfl (c6 (bc (w_add (qv 2) ag)) b7))) (λ_ _ _ _ _=>L2.vm (show List.Nodup Q7 from by decide +kernel) rfl Q3 (Or.inr rfl)) (λ_ _ _ _ _=>(FK (bc (cX 2 rfl (Or.inr Q3) rfl rfl)) (cF (b _) a (dq 1 true rfl (Or.inr Q3) rfl rfl (c6 (bc (eA B.G3 (ae (cX 2 rfl (Or.inr Q3) rfl rfl) ak))) b7))) (λ_ _=>rfl) rfl)) rfl rfl rfl rfl (by decide) (λ_=>rfl)) rfl rfl rfl rfl rfl rfl)))
noncomputable abbrev iQ:Stmt:=top 23
def dR:oe ["_law_spring_here", "_law_letters", "_law_few", "_law_start", "_law_step"] Qc (aq iQ):=by constructor<;>first | rfl | decide +kernel
def fh{m:Me}{f:Addr}{g:FuncData}(F:GV K "_law_signs" "_law_signs" iQ f g)(d:mg "_law_signs" = some (.ref f))(B:HU mg)(i:HH K mg C D)(b:∀m,IoAt P w K mg base 1 "_law_next" Q9 ((gX K C D).at m) [false] aC) :
  IoAt P w K mg base 2 "_law_signs" Qc ((gX K C D).at m) [] dJ:=qf F d dR rfl rfl (λ_ _ _ _ _ _ h e=>by obtain⟨_,rfl⟩:=L2.lU e;rfl) λ_ _ _ _ _ _ _ a =>
  (af (aE (jF (by decide +kernel) (by decide)) dR.nd rfl (Or.inr rfl))
  (af (eX (pd (dD (ae ag (ae ag (ae ag (ae ag (ae ag (ae ag (ae ag (ae ag ak))))))))) (cF (b _) a (dq 0 true rfl (Or.inl rfl) rfl rfl (c6 (bc ag) b7)))) dR.nd rfl Q3)
  (af (eX (cF (b _) a (dq 0 true rfl (Or.inl rfl) rfl rfl (c6 (bc ag) b7))) dR.nd rfl (Or.inr rfl))
  (af (eX (pd (dD (ae ag (ae ag (ae ag (ae ag ak))))) (cF (b _) a (dq 0 true rfl (Or.inl rfl) rfl rfl (c6 (bc ag) b7)))) dR.nd rfl (Or.inr rfl))
  (ax (bE (Bq (jF (by decide +kernel) (by decide)) (ae (mq 1 Q6 rfl (eJ (qv 2) rfl B.Hh) (iy) (λ_ _ _ _ _=>(aO 0 (show List.Nodup Q6 from by decide +kernel) rfl Q3 (Or.inr rfl))) (λ_ _ _ _ _=>(aZ (cX 2 rfl (Or.inr Q3) rfl rfl) (w_mod (w_add (cX 4 rfl (Or.inr Q3) rfl rfl) (w_mul (cX 5 rfl (Or.inr Q3) rfl rfl) (qv 0))) ag) (λ_ _=>rfl))) rfl rfl (by decide)) ak))))))))
noncomputable abbrev jE:Stmt:=top 24
def cQ:oe ["_law_spring_here", "_law_signs_here", "_law_many", "_law_book_here", "_law_k", "_law_text_here", "_law_old"] Qb (aq jE):=by constructor<;>first | rfl | decide +kernel
def gn{m:Me}{f:Addr}{h:FuncData}(F:GV K "_law_book" "_law_book" jE f h)(e:mg "_law_book" = some (.ref f))(B:HU mg)(j:HH K mg C D)(b:∀m,IoAt P w K mg base 1 "_law_next" Q9 ((gX K C D).at m) [false] aC)(d:∀m,IoAt P w K mg base 2 "_law_text" Qa ((gX K C D).at m) [false,false] eK) :
  IoAt P w K mg base 3 "_law_book" Qb ((gX K C D).at m) [false] gr:=qf F e cQ rfl rfl (λ_ _ _ _ _ _ i g=>by obtain⟨_,_,rfl⟩:=L2.ed g;rfl) λ_ _ _ _ _ _ _ a =>
  (af (eX (pd (dD (ae ag (ae ag (ae ag (ae ag (ae ag (ae ag (ae ag (ae ag ak))))))))) (cF (b _) a (dq 0 true rfl (Or.inl rfl) rfl rfl (c6 (bc ag) b7)))) cQ.nd rfl Q3)
  (af (eZ (dD ak) cQ.nd rfl Q3)
  (af (b9 ZC rfl (eJ (qv 2) rfl B.Hh) (aO 4 cQ.nd rfl Q3 Q3)
  (af (eX (cF (d _) a (dq 0 true rfl (Or.inl rfl) rfl rfl (c6 (bc (qv 1)) (c6 (pd (dD (ae ag (ae ag (ae ag (ae ag ak))))) (cF (b _) a (dq 0 true rfl (Or.inl rfl) rfl rfl (c6 (bc ag) b7)))) b7)))) cQ.nd rfl Q3)
  (af (yf (vg (zt (qv 4) ag) (uW (ub a.units) yJ (cF (b _) a (dq 0 true rfl (Or.inl rfl) rfl rfl (c6 (bc ag) b7))) (bc ag) (jD _))) (af (eX (Cb 3 rfl (Or.inl rfl) rfl rfl (cF (b _) a (dq 0 true rfl (Or.inl rfl) rfl rfl (c6 (bc (qv 4)) b7))) (λ_ _=>rfl) rfl) cQ.nd rfl Q3)
  (ax (eX (BK (rQ kM nB (BK (bc (qv 6)) (rZ (cF (b _) a (dq 0 true rfl (Or.inl rfl) rfl rfl (c6 (bc (w_add (eA B.G3 (ae (qv 6) ak)) ag)) b7)))) rm) (bc (qv 5))) rm (rZ (bc ag))) cQ.nd rfl Q3))) bQ)
  (ax (kb 3 (ae (qv 5) ak) rfl rfl Q3 rfl rfl)))))
  (af (yf (vg (i4 ag (qv 2) ag (by with_unfolding_all rfl)) (uW (ub a.units) yJ (cF (b _) a (dq 0 true rfl (Or.inl rfl) rfl rfl (c6 (bc ag) b7))) (bc ag) (jD _))) (ax (vp gJ a (cf 3) ag (rQ Bo AE (rQ kM nB (rQ kM nB (bc (aZ (qv 3) ag (λ_ _=>rfl))) (cF (d _) a (dq 0 true rfl (Or.inl rfl) rfl rfl (c6 (bc (qv 1)) (c6 (bc ag) b7))))) (bc (aZ (qv 3) BQ (λ_ _=>rfl)))) (rQ kM nB (bc ag) (cF (b _) a (dq 0 true rfl (Or.inl rfl) rfl rfl (c6 (bc ag) b7))))) (λ_=>rfl) rfl rfl rfl)) bQ)
  (ax (bY 3 rfl (Or.inl rfl) rfl rfl))))))
noncomputable abbrev iM:Stmt:=top 25
def df:oe ["_law_book_here", "_law_found", "_law_t", "_law_text_here", "_law_start", "_law_end"] Q4 (aq iM):=by constructor<;>first | rfl | decide +kernel
def fu{m:Me}{f:Addr}{e:FuncData}(F:GV K "_law_parts" "_law_parts" iM f e)(b:mg "_law_parts" = some (.ref f))(B:HU mg)(h:HH K mg C D) :
  FnAt P w K mg base 1 "_law_parts" Q4 ((gX K C D).at m) fg:=gD F b df rfl rfl (λ_ _ _ _ _ _ g d=>by obtain⟨_,rfl⟩:=L2.lU d;rfl) λ_ _ _ _ _ _ a =>
  (af (eZ (AY (by decide +kernel) (by decide)) df.nd rfl Q3)
  (af (b9 ZC rfl (i6 (qv 0) rfl B.G7) (j0 rfl (cL (aO 2 df.nd rfl (Or.inr rfl) Q3) (cL (aO 3 df.nd rfl Q3 Q3) jc)))
  (af (Co 1 a (jF (by decide +kernel) (by decide)) (w_add (pD a (qv 1) (jF (by decide +kernel) (by decide)) (λ_ _=>rfl)) (mq 1 Q5 rfl (eJ (w_add (eA B.G3 (ae (qv 3) ak)) ag) rfl B.Hh) (iy) (λ_ _ _ _ _=>(aO 0 (show List.Nodup Q5 from by decide +kernel) rfl Q3 (Or.inr rfl))) (λ_ _ _ _ _=>(gM (ae (cX 3 rfl (Or.inr Q3) rfl rfl) (ae (qv 0) ak)))) rfl rfl (by decide))) rfl Q3 rfl rfl (λ_=>rfl) rfl rfl rfl)
  (ax (b9 ZC rfl (eJ (eA B.G3 (ae (qv 3) ak)) rfl B.Hh) (aO 4 df.nd rfl Q3 Q3)
  (ax (b9 ZC rfl (tU (w_add (qv 4) ag) (w_add (eA B.G3 (ae (qv 3) ak)) ag) rfl B.Hh) (aO 5 df.nd rfl Q3 Q3)
  (ax (xD gJ 1 (ku (qv 3) (i7 (qv 4)) (i7 (qv 5))) (ae (gM (ae (cX 2 rfl (Or.inr Q3) rfl rfl) (ae (qv 5) ak))) ak)  rfl rfl Q3 rfl rfl rfl rfl rfl rfl rfl rfl rfl rfl rfl rfl rfl rfl))))))))
  (ax (bY 1 rfl (Or.inl rfl) rfl rfl))))
noncomputable abbrev kS:Stmt:=top 26
def jM:oe ["_law_parts_here", "_law_some", "_law_word"] ["_law_parts_here"] (aq kS):=by constructor<;>first | rfl | decide +kernel
def ig{m:Me}{f:Addr}{e:FuncData}(F:GV K "_law_due" "_law_due" kS f e)(b:mg "_law_due" = some (.ref f))(B:HU mg)(h:HH K mg C D) :
  FnAt P w K mg base 1 "_law_due" ["_law_parts_here"] ((gX K C D).at m) gY:=gD F b jM rfl rfl (λ_ _ _ _ _ _ g d=>by obtain⟨_,rfl⟩:=L2.lU d;rfl) λ_ _ _ _ _ _ a =>
  (af (DT 0 Qe rfl rfl (Or.inr Q3) rfl rfl (iy) (λ_ _ _ _ _=>(aO 0 (show List.Nodup Qe from by decide +kernel) rfl Q3 (Or.inr rfl))) (λ_ _ _ _ _=>(JS.LB (jo (uL a (qv 0) (jF (by decide +kernel) (by decide))) (iB (nU a (eA B.G3 (ae (yh a (cX 1 rfl (Or.inr Q3) rfl rfl) (qv 0)) ak)) ag))))) (λ_ _ _ _ _=>(gM (ae (eA B.G3 (ae (qv 0) ak)) (ae (qv 0) ak)))) jM.nd rfl Q3 rfl rfl (by decide) rfl Q3 (λ_=>rfl))
  (af (dj (nU a (qv 1) (dD ak)) (ax (bE pL)) bQ)
  (af (aE (aZ (DO a B.OR (ae (qv 1) ak)) ag (λ_ _=>rfl)) jM.nd rfl Q3)
  (ax (bE (gM (ae (qv 2) (ae (aZ (pD a (cX 0 rfl (Or.inr Q3) rfl rfl) (qv 2) (λ_ _=>rfl)) ag (λ_ _=>rfl)) ak))))))))
noncomputable abbrev iN:Stmt:=top 27
def dX:oe ["_law_book_here", "_law_due_here", "_law_handed", "_law_turn", "_law_got"] Q4 (aq iN):=by constructor<;>first | rfl | decide +kernel
def c9{m:Me}{f:Addr}{i:FuncData}(F:GV K "_law_right" "_law_right" iN f i)(e:mg "_law_right" = some (.ref f))(B:HU mg)(l:HH K mg C D)(d:∀m,FnAt P w K mg base 1 "_law_due" ["_law_parts_here"] ((gX K C D).at m) gY)(h:∀m,FnAt P w K mg base 1 "_law_parts" Q4 ((gX K C D).at m) fg)(b:∀m,FnAt P w K mg base 6 "once" ["book"] ((gX K C D).at m) nA) :
  FnAt P w K mg base 7 "_law_right" Q4 ((gX K C D).at m) bH:=gD F e dX rfl rfl (λ_ _ _ _ _ _ j g=>by obtain⟨_,rfl⟩:=L2.lU g;rfl) λ_ _ _ _ _ _ a =>
  (af (aE (cW (d _) a (ae (cW (h _) a (ae (qv 0) ak) (by decide) rfl rfl) ak) (by decide) rfl rfl) dX.nd rfl Q3)
  (af (aE (Bi B.Nb (ae (qv 0) ak)) dX.nd rfl Q3)
  (af (b9 ZC rfl (eJ ag rfl B.Hh) (aO 3 dX.nd rfl Q3 Q3)
  (af (aE (cW (b _) a (ae (qv 2) ak) (by decide) rfl rfl) dX.nd rfl Q3)
  (af (dj (JS.LB (sC (uL a (qv 4) (qv 1)) (ud (uL a (qv 2) (qv 0))))) (ax (bE qD)) bQ)
  (ax (dj (JS.LB (jo (kh (qv 4)) (iB (JS.LB (sC (j5 (mh (w_is .tuple B.He B.IU (qv 4)))) (ud (j5 (mh (w_is .tuple B.He B.IU (aZ (qv 4) ag (λ_ _=>rfl))))))))))) (ax (bE qD)) bQ)))))
  (ax (bE qD)))))
noncomputable abbrev kH:Stmt:=top 28
def tJ:oe ["_law_script", "_law_spring_here", "_law_book_here"] ["_law_script"] (aq kH):=by constructor<;>first | rfl | decide +kernel
def CK{m:Me}{f:Addr}{d:FuncData}(F:GV K "law" "law" kH f d)(B:HU mg)(i:HH K mg C D)(e:∀m,IoAt P w K mg base 3 "_law_book" Qb ((gX K C D).at m) [false] gr)(b:∀m,FnAt P w K mg base 7 "_law_right" Q4 ((gX K C D).at m) bH)(g:∀m,IoAt P w K mg base 2 "_law_signs" Qc ((gX K C D).at m) [] dJ)(h:∀m,FnAt P w K mg base 1 "_law_spring" Q8 ((gX K C D).at m) d5) :
  FnOk P w K mg base Hx 8 f d ["_law_script"] (Jy ((gX K C D).at m) yG):=R6 F tJ rfl rfl λ_ _ _ _ _ _ a =>
  (af (eZ (cW (h _) a (ae (qv 0) (ae ag ak)) (by decide) rfl rfl) tJ.nd rfl Q3)
  (af (yd (AC (e _) a (dq 1 false rfl (Or.inl rfl) rfl rfl (c6 (cF (g _) a (dq 1 false rfl (Or.inl rfl) rfl rfl b7)) b7)) (by decide) rfl rfl rfl rfl) tJ.nd rfl Q3 rfl Q3)
  (lZ 2 (lZ 1 (af (dj (j5 (mh (cW (b _) a (ae (qv 2) ak) (by decide) rfl rfl))) (ax (bE qD)) bQ)
  (af (dj (JS.LB (jo (i4 ag (eA B.G3 (ae (qv 2) ak)) ag (by with_unfolding_all rfl)) (iB (ik xF BU yq (w_sum B.OQ (ae (mq 1 Qd rfl (fO (w_add (qv 2) (ku (qv 2) nO (i7 ag)))) (iy) (λ_ _ _ _ _=>(aO 0 (show List.Nodup Qd from by decide +kernel) rfl Q3 (Or.inr rfl))) (λ_ _ _ _ _=>(eA B.G3 (ae (qv 0) ak))) rfl rfl (by decide)) ak)) ag (jD _))))) (ax (bE (yu (cW (b _) a (ae (w_add (qv 2) (ku (qv 2) nO (i7 ag))) ak) (by decide) rfl rfl) (zA (cW (b _) a (ae (qv 2) ak) (by decide) rfl rfl))))) bQ)
  (ax (bE qD))))))))
end
noncomputable abbrev gN(K:Y2)(x:Str)(f:Addr):Prop:=PySem.W.nsIn K mainGlobals x=some (some (.ref f))
noncomputable abbrev gZ(K:Y2)(x:Str):Prop:=PySem.W.nsIn K mainGlobals x=some none
def all_mk{l:PySem.W.OpenLaw}{w:World}{K:Y2}{h:Heap}{b:Xk}{fa C f0 f1 f2 f3 f4 f5 f6 f7 f8 f9 Uq Up Uo Um Ul Uk Uj Ui Uh Ug Ue Ud Uc Ub Ua T9 Y:Addr}(X:K.In h)(G:h.Ns mainGlobals b)(WC:b "law" = some (.ref fa)){QE OU:Option Addr}{Qw:Array (Wm)}{QF N6 OL NV Z OM:Value}(RA:∀ns:W3,ns.length<=63->yG [.scr ns]=some (.fr,.bl true))(a0:Meth K C "new_node" f0){t:FuncData}(F0:GV K "new_node" "Nodes.new_node" eO f0 t)(a1:Mk K C f1){r:FuncData}(F1:GV K "__init__" "Nodes.__init__" eW f1 r)(a2:Meth K C "node_just_behind" f2){q:FuncData}(F2:GV K "node_just_behind" "Nodes.node_just_behind" bZ f2 q)(a3:Meth K C "head_behind" f3){p:FuncData}(F3:GV K "head_behind" "Nodes.head_behind" dh f3 p)(a4:Meth K C "head_grown" f4){o:FuncData}(F4:GV K "head_grown" "Nodes.head_grown" dC f4 o)(a5:Meth K C "numbers_by_node" f5){n:FuncData}(F5:GV K "numbers_by_node" "Nodes.numbers_by_node" cj f5 n)(a6:Meth K C "row_of" f6){j:FuncData}(F6:GV K "row_of" "Nodes.row_of" gw f6 j)(a7:Meth K C "table" f7){i:FuncData}(F7:GV K "table" "Nodes.table" gO f7 i)(a8:gN K "is_whole" f8){g:FuncData}(F8:GV K "is_whole" "is_whole" jK f8 g)(a9:gN K "walk" f9){f:FuncData}(F9:GV K "walk" "walk" ua f9 f)(U:gN K "refuse_no_stand" Uq){So:FuncData}(F10:GV K "refuse_no_stand" "refuse_no_stand" dN Uq So)(S:gN K "steps_before" Up){Sn:FuncData}(F11:GV K "steps_before" "steps_before" gp Up Sn)(R:gN K "longest" Uo){Sl:FuncData}(F12:GV K "longest" "longest" kZ Uo Sl)(Q:gN K "shortest" Um){Sk:FuncData}(F13:GV K "shortest" "shortest" jH Um Sk)(P:gN K "chain" Ul){Sj:FuncData}(F14:GV K "chain" "chain" o6 Ul Sj)(O:gN K "places_by" Uk){Si:FuncData}(F15:GV K "places_by" "places_by" i5 Uk Si)(N:gN K "table_of" Uj){Sh:FuncData}(F16:GV K "table_of" "table_of" jB Uj Sh)(M:gN K "once" Ui){Sg:FuncData}(F17:GV K "once" "once" sQ Ui Sg)(L:gN K "_law_spring" Uh){Sf:FuncData}(F18:GV K "_law_spring" "_law_spring" ip Uh Sf)(J:gN K "_law_next" Ug){Se:FuncData}(F19:GV K "_law_next" "_law_next" jz Ug Se)(H:gN K "_law_text" Ue){Sd:FuncData}(F20:GV K "_law_text" "_law_text" jI Ue Sd)(E:gN K "_law_signs" Ud){Sb:FuncData}(F21:GV K "_law_signs" "_law_signs" iQ Ud Sb)(D:gN K "_law_book" Uc){Sa:FuncData}(F22:GV K "_law_book" "_law_book" jE Uc Sa)(A:gN K "_law_parts" Ub){R9:FuncData}(F23:GV K "_law_parts" "_law_parts" iM Ub R9)(z:gN K "_law_due" Ua){R8:FuncData}(F24:GV K "_law_due" "_law_due" kS Ua R8)(y:gN K "_law_right" T9){R7:FuncData}(F25:GV K "_law_right" "_law_right" iN T9 R7)(x:gN K "law" Y)(QW:K.lookup Y=some ⟨QF,QE,.func (PySem.W.fnOf "law" "law" (dZ kH) (bh kH) (aq kH) .none N6 OL NV OU Z OM),Qw⟩)(u:PySem.W.codeIn K Z "law" = true)(Vz:PySem.W.keepIn K (.ref Y)=true)(Mv:gZ K "bool")(Mu:gZ K "dict")(Jc:gZ K "enumerate")(ND:gZ K "int")(IJ:gZ K "isinstance")(NC:gZ K "len")(Ms:gZ K "list")(NB:gZ K "min")(Lq:gZ K "range")(KD:gZ K "sorted")(NA:gZ K "sum")(Lp:gZ K "tuple")(w_Nodes:gN K "Nodes" C)(GN:Io K C)(G5:cY K C "longs")(G6:cY K C "links")(Hc:cY K C "ways")
  : ∃fd:FuncData,(∀(s:Shared)(v:Value),BindsTo s fd ⟨[v],[]⟩ [("_law_script",v)])/\∀base:Heap,K.In base->base.Ns mainGlobals b->FnOk l.prog w K b base Hx 8 fa fd ["_law_script"] (Jy (OB K) yX):=by
 have e:=WC.symm.trans (II X G x);cases e;have B:HU b:=⟨Ys X G Mv,Ys X G Mu,Ys X G Jc,Ys X G ND,Ys X G IJ,Ys X G NC,Ys X G Ms,Ys X G NB,Ys X G Lq,Ys X G KD,Ys X G NA,Ys X G Lp⟩
 have a:HH K b C C:=⟨rfl,GN,II X G w_Nodes,G5,G6,Hc⟩
 refine⟨PySem.W.fnOf "law" "law" (dZ kH) (bh kH) (aq kH) .none N6 OL NV OU Z OM,λs v=>.of_eq rfl,λbase _ _=>?_⟩;have aR:=aR l.prog w base F0 a0 B a;have cq:=cq l.prog w base F1 a1 B a aR;have aV:=aV l.prog w base F2 a2 B a aR;have bC:=bC l.prog w base F3 a3 B a aR aV;have bO:=bO l.prog w base F4 a4 B a bC;have ba:=λm=>ba (m:=m) l.prog w base F5 a5 B a;have cV:=λm=>cV (m:=m) l.prog w base F6 a6 B a;have du:=λm=>du (m:=m) l.prog w base F7 a7 B a ba cV;have gu:=λm=>gu (m:=m) l.prog w base F8 (II X G a8) B a;have mK:=λm=>mK (m:=m) l.prog w base F9 (II X G a9) B a;have aY:=λm=>aY (m:=m) l.prog w base F10 (II X G U) B a gu;have cU:=λm=>cU (m:=m) l.prog w base F11 (II X G S) B a;have gS:=λm=>gS (m:=m) l.prog w base F12 (II X G R) B a aY cU;have gh:=λm=>gh (m:=m) l.prog w base F13 (II X G Q) B a gS;have kN:=λm=>kN (m:=m) l.prog w base F14 (II X G P) B a aY;have fm:=λm=>fm (m:=m) l.prog w base F15 (II X G O) B a kN mK;have fS:=λm=>fS (m:=m) l.prog w base F16 (II X G N) B a cq bO du;have ng:=λm=>ng (m:=m) l.prog w base F17 (II X G M) B a fm gh fS;have dS:=λm=>dS (m:=m) l.prog w base F18 (II X G L) B a;have aP:=λm=>aP (m:=m) l.prog w base F19 (II X G J) B a;have eV:=λm=>eV (m:=m) l.prog w base F20 (II X G H) B a aP;have fh:=λm=>fh (m:=m) l.prog w base F21 (II X G E) B a aP;have gn:=λm=>gn (m:=m) l.prog w base F22 (II X G D) B a aP eV;have fu:=λm=>fu (m:=m) l.prog w base F23 (II X G A) B a;have ig:=λm=>ig (m:=m) l.prog w base F24 (II X G z) B a;have c9:=λm=>c9 (m:=m) l.prog w base F25 (II X G y) B a ig fu ng;exact AV rfl (CK l.prog w base (m:=λ_=>none) (xi (st:=kH) QW u Vz) B a gn c9 fh dS) RA
end T35
open PySem PySem.W PyProof.Rows PySem.W.X PySem.W.ZRun
set_option maxRecDepth 100000 in
set_option maxHeartbeats 0 in
theorem PySem.Challenge.cw_allparts_k35_the_shortest_once_holds : PySem.Challenge.rw_allparts_k35_the_shortest_once.Holds := by
 w_on;o_law;z_head;(case hw=>w_witness2)
 k_fill
 intro w s₀ s₁ mg mb G y fa o pm cd doc dV kV ho hd hcd hD hmg hg args vals as L hpre hlay hrd hwl hlo
 z_open y L KX ZH ZN ZT
 clear ZH ZN ZT;refine VS.zH (l:=PySem.Challenge.rw_allparts_k35_the_shortest_once) (k:=8) (x := "_law_script") rfl rfl ⟨rfl,by decide,by decide⟩ ?F w s₀ s₁ mg mb G KX fa o pm cd doc dV kV ho hd hcd hD hmg hg args vals as hpre hlay hrd hwl hlo
 case F =>
  intro w mg fa h KX G hmg;apply T35.all_mk KX G hmg T35.xC
  (case w_Nodes=>unfold T35.gN;k_is)
  all_goals first | (refine' L2.xi ?l ?c ?k;(case l=>k_is);(case c=>k_is);(case k=>k_is)) | (refine' ⟨?l,?c,?k⟩;(case l=>k_is);(case c=>k_is);(case k=>k_is)) | (refine' ⟨?l,?c,?k,?d⟩;(case l=>k_is);(case c=>k_is);(case k=>k_is);(case d=>k_is)) | (unfold T35.gN;k_is) | (unfold T35.gZ;k_is) | (unfold L2.cY;k_is) | k_is | exact rfl
end
