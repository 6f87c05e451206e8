import PyProof.Rows.All
import Wide.All
import OpenK.AllK
import Wide.FinOn
import Lean
import PyProof.EqAt
import PyProof.EqKinds
import PyProof.TupleCall
import PyProof.Rows.SortShellK
import PyProof.Rows.SortStr
import PyProof.Rows.SortWalk
import PyProof.StrBlockH
import PyProof.StrLawsIn
import PyProof.Rows.SetFrom
import PyProof.CollectWalk
import KE.KDictSum
import PyProof.ListStr
import PyProof.SeqI3
import PyProof.Rows.CallKwBuiltin
import PyProof.ListRange
import PyProof.AttrMissSeq
import PyProof.DictUpdate
import PyProof.DictList
import PyProof.ListNew
import PyProof.FactsAll.dict_1
import PyProof.SliceList
import PyProof.WalkInts
import PyProof.StationsW
import OpenK.KOwn
import KE.KTryMore
import PyProof.NsDelKeeps
import PyProof.ExcArgsOwn
import PyProof.ExcAttrAll.Exception
import OpenK.KDescr
import KE.KIsAll
import PyProof.ExcBaseAll.ValueError
import PyProof.StrBlock
import PyProof.StrCalls
import PyProof.StrLawsOccR
import KE.KDictOf
import PyProof.Rows.Range3
import PySem.Challenge.RW_allparts_k58_whole_fewest_stands
namespace PySem.W.Fast
def tw11567877420822173092:True:=⟨⟩
def tw16079280764599052798:True:=⟨⟩
def tw13348335418828003550:True:=⟨⟩
def tw17372434497381557872:True:=⟨⟩
def tw11590863657532705283:True:=⟨⟩
def tw15570724267718125286:True:=⟨⟩
def tw3662678277950249162:True:=⟨⟩
def tw7778080157848803323:True:=⟨⟩
def tw11978360072229881147:True:=⟨⟩
def tw7260600377554832980:True:=⟨⟩
def tw1573315903412234350:True:=⟨⟩
def tw3183895395096602882:True:=⟨⟩
def tw2886042343881759890:True:=⟨⟩
def tw8903134071785837905:True:=⟨⟩
def tw13615367307227087059:True:=⟨⟩
def tw429929110024194868:True:=⟨⟩
def tw7953773014211950979:True:=⟨⟩
def tw10823121776682509720:True:=⟨⟩
def tw10957778004973439076:True:=⟨⟩
def tw14047369838705419730:True:=⟨⟩
def tw16074365944232830299:True:=⟨⟩
def tw414231731213647491:True:=⟨⟩
def tw17439835400397127915:True:=⟨⟩
def tw18374886433239913493:True:=⟨⟩
def tw2405595429313418012:True:=⟨⟩
def tw4509356050049933811:True:=⟨⟩
def tw773556599831049979:True:=⟨⟩
def tw6306925000731007758:True:=⟨⟩
def tw14202029489066630259:True:=⟨⟩
def tw8247602867183450497:True:=⟨⟩
def tw4044982815834698465:True:=⟨⟩
def tw10651233642709890111:True:=⟨⟩
end PySem.W.Fast
set_option linter.all false
set_option maxRecDepth 100000
set_option Elab.async false
set_option maxHeartbeats 4000000
abbrev Y7:=PySem.Value->PySem.Shared->Prop
abbrev Xq:=List (PySem.Addr×PySem.Obj)
abbrev Xg:=List (List PySem.Addr)
abbrev Xd:=PySem.W.Frag
abbrev Wx:=PySem.Str->Option PySem.Value
abbrev Wm:=List PySem.Addr
abbrev Wk:=List PySem.Value
abbrev Wj:=Option PySem.Value
abbrev Wi:=List Nat
abbrev Wh:=List Int
abbrev Wg:=List (List (List Nat))
abbrev Zr:=@if_pos
abbrev Zo:=@if_neg
abbrev Ze:=@decide_eq_false
abbrev ZL:=@decide_eq_true
abbrev ZK:=@beq_eq_false_iff_ne
open Option renaming bind_eq_some_iff->Zz,map_eq_some_iff->Zu,bind_some->Zt,isSome_iff_exists->Yo,isSome_map->Yc,getD_some->Y0
open List renaming length_append->Zy,mem_cons_self->Zx,mem_cons_of_mem->Zw,length_map->Zv,map_cons->Zs,getD_eq_getElem?_getD->Zq,getElem?_eq_getElem->Zm,length_cons->Zk,length_singleton->Zj,mem_cons->Zh,zip_cons_cons->Zg,mem_singleton->Zf,nodup_cons->Zd,mem_append->Zc,getElem?_eq_some_iff->ZZ,mem_append_right->ZX,size_toArray->ZV,flatten_cons->ZU,append_nil->ZP,nodup_append->ZO,mem_map->ZG,length_range->ZF,getElem?_map->ZE,map_append->ZA,find?_cons->Z0,append_assoc->Z1,getElem?_append_left->Z3,mem_range->Z4,map_map->Z6,mem_append_left->Z7,getElem_mem->Z8,flatten_append->Yz,length_zip->Yy,suffix_refl->Yx,getElem?_append_right->Yw,sublist_cons_self->Yv,length_set->Yu,lookup_cons->Yt,getElem?_eq_none->Ys,suffix_nil->Yq,getElem?_eq_none_iff->Yp,length_nil->Yi,length_take->Yf,any_cons->Ye,nodup_nil->Yd,getElem?_replicate->Yb,take_of_length_le->YZ,length_drop->YX,length_replicate->YV,sublist_append_right->YU,getElem?_zip_eq_some->YT,mem_filter->YS,getElem?_set_ne->YQ,map_congr_left->YO,getD_cons_succ->YN,all_eq_true->YJ,drop_of_length_le->YH,sum_cons->YG,mem_of_getElem?->YC,idxOf_lt_length_iff->Y3,findIdx?_cons->Y6,map_nil->Xz,length_filter_le->Xs,cons_lt_cons_iff->Xr,any_eq_true->Xp,zip_append->Xm,nil_suffix->Xl,nil_append->Xk,replicate_succ->Xj,pairwise_map->Xb,all_cons->XY,length_eq_zero_iff->XS,cons_append->XR,append_cons->XQ,getElem?_set_self->XM,of_mem_zip->XI,set_getElem_self->XF,cons_prefix_cons->XE,mem_of_mem_take->XB,filterMap_cons->X0,pairwise_cons->X7,length_range'->X8,getElem_idxOf->X9,append_ne_nil_of_right_ne_nil->Wz,mem_range'_1->Wv,map_set->Wu,getElem?_set->Wt,prefix_of_prefix_length_le->Wr,map_fst_zip->Wp,getElem_inj->Wo
open PySem renaming wpAny_bind->Zp,wpAny_pure->Zb,wpAny_truthy_bool->YY,wpAny_mono->YE,wpAny_passesOwn->YD,mem_of_lookup->Y2,wpAny_call_entry->Y5,wpAny_Call_Name_kw->Xw,tupleKind_room_in1->Xv,sizeLine_eq->Xu,wpAny_holding->Xi,wpAny_typeNameOfWhole_keyiter->Xh,wpAny_specialOf->Xe,wpAny_newObj_type->XJ,wpAny_isInstance->XD,wpAny_forIn_list->XC,wpAny_execs_nil->X2,isSubtype_tuple_tuple->X5
open Option.some renaming inj->Zn
open Nat renaming le_refl->Zl,le_trans->ZW,ne_of_lt->ZS,lt_of_lt_of_le->ZM,le_of_not_lt->ZD,zero_le->Yr,lt_irrefl->Yn,min_eq_left->Yl,pos_of_ne_zero->Yk,lt_succ_self->Yg,le_add_right->YK,add_sub_cancel->YI,le_of_not_le->Y1,zero_add->Y8,le_of_lt->Y9,lt_of_le_of_lt->Xf,le_succ->Xc,succ_le_succ->XW,min_eq_right->XU,add_sub_cancel_left->XT,le_of_eq->XO,add_assoc->X3,lt_succ_of_lt->Ww,lt_of_not_le->Wq
open PySem.Heap renaming get?_push_of_some->Zi,lt_size->ZQ,get?_push_size->ZJ,get?_update_other->X1,size_push->Ws
open Bool renaming false_ne_true->Za,and_eq_true->ZY,false_eq_true->Yj,eq_iff_iff->Y4,not_true->Xo,and_eq_true_iff->Xn
open Int renaming emod_lt_of_pos->ZR,emod_nonneg->ZI,toNat_natCast->Ya
open PySem.W renaming mg_of->Z2,mg_none_of->Z9,kia_one->Ym,plainGet_of->XA,callWith_K->X6
open PySem.PassesOwn renaming never->Z5
open Array renaming getElem?_toList->Yh,length_toList->YM,forIn_toList->Wy
open Ne renaming symm->YW
open Prod.mk renaming inj->YR
open PyProof.Rows renaming callWith_type1->YF
open PySem.F renaming slot_dict_keyiterator_next->YB,type_list_append->Xa,slot_list_append->XZ,plainAttrs_list->XX,slot_tuple_hash->XH,slot_dict_get->XG,slot_tuple_eq->X4
open PySem.Paired renaming length->YA
open List.Sublist renaming refl->Xy
section
namespace L2
theorem ji {G:Prop} (h:∀ P:Prop,(G->P)->P):G:=h G id
end L2
namespace VS
noncomputable abbrev Tx:=Wi
inductive T where
 | non | bl (b:Bool) | int (i:Int) | str (s:Tx) | scr (ns:Wh)
 | tup (l:List T) | lst (l:List T) | dct (kd:Nat) (l:List (T×T)) | obj (c:Nat) (fs:List (Nat×T))
 deriving Inhabited
abbrev Wb:=List T
noncomputable def eA:Nat:=16777216
mutual
@[simp] noncomputable def imm:T->Bool
 | .lst _=>false
 | .dct _ _=>false
 | .obj _ _=>false
 | .tup l=>fm l
 | _=>true
@[simp] noncomputable def fm:Wb->Bool
 | []=>true
 | t :: r=>imm t && fm r
end
mutual
@[simp] noncomputable def eqT:T->T->Bool
 | .non,.non=>true
 | .bl a,.bl b=>a == b
 | .bl a,.int i=>(if a then 1 else 0) == i
 | .int i,.bl a=>i == (if a then 1 else 0)
 | .int i,.int j=>i == j
 | .str s,.str t=>s == t
 | .tup a,.tup b=>om a b
 | .lst a,.lst b=>om a b
 | _,_=>false
@[simp] noncomputable def om:Wb->Wb->Bool
 | [],[]=>true
 | a :: as,b :: bs=>eqT a b && om as bs
 | _,_=>false
end
@[simp] noncomputable def eqD:Nat->T->Bool
 | _,.non=>true
 | _,.bl _=>true
 | _,.int _=>true
 | _,.str _=>true
 | n+1,.tup l=>l.all (eqD n)
 | n+1,.lst l=>l.all (eqD n)
 | _,_=>false
inductive Md where | fr | pu | bo
 deriving DecidableEq,Inhabited
@[simp] noncomputable def Md.join:Md->Md->Md
 | .bo,_=>.bo
 | _,.bo=>.bo
 | .pu,_=>.pu
 | _,.pu=>.pu
 | .fr,.fr=>.fr
inductive Cell where | pu (t:T) | ow (t:T)
 deriving Inhabited
abbrev Wf:=Option Cell
noncomputable abbrev Env:=List (Wf)
noncomputable abbrev Val:=Md×T
abbrev Wc:=Option Val
abbrev We:=List Val
noncomputable abbrev Ex:=Env->Wc
noncomputable abbrev Exs:=Env->Option (We)
@[simp] noncomputable def up (m:Md) (t:T):Val:=(if imm t then .fr else m,t)
@[simp] noncomputable def BJ:T->Bool
 | .lst _=>true
 | .dct _ _=>true
 | .obj _ _=>true
 | _=>false
@[simp] noncomputable def cellOf:Val->Wf
 | (.fr,t)=>some (if BJ t then .ow t else .pu t)
 | (.pu,t)=>some (.pu t)
 | (.bo,_)=>none
inductive Out where | nx (η:Env) | rt (v:Val) (η:Env) | bk (η:Env) | ct (η:Env)
noncomputable abbrev Sx:=Env->Option Out
@[simp] noncomputable def eC (t:T) (_:Env):Wc:=some (.fr,t)
noncomputable abbrev Q2 (i:Int):Ex:=eC (.int i)
@[simp] noncomputable def aa (i:Nat) (η:Env):Wc:=match η[i]? with
 | some (some (.pu t))=>some (up .pu t)
 | some (some (.ow t))=>some (.bo,t)
 | _=>none
@[simp] noncomputable def e1 (f:Val->Wc) (a:Ex) (η:Env):Wc:=(a η).bind f
@[simp] noncomputable def e2 (f:Val->Val->Wc) (a b:Ex) (η:Env):Wc:=(a η).bind fun x=>(b η).bind fun y=>f x y
@[simp] noncomputable def ai (_:Env):Option (We):=some []
@[simp] noncomputable def ae (a:Ex) (r:Exs) (η:Env):Option (We):=(a η).bind fun x=>(r η).bind fun xs=>some (x :: xs)
@[simp] noncomputable def eN (f:We->Wc) (as:Exs) (η:Env):Wc:=(as η).bind f
@[simp] noncomputable def cp:We->Md
 | []=>.fr
 | v :: r=>v.1.join (cp r)
@[simp] noncomputable def trees (l:We):Wb:=l.map (·.2)
noncomputable def mkL (m:Md) (l:Wb):Wc:=if l.length<=eA then some (if fm l then .fr else m,.lst l) else none
@[simp] noncomputable def g6 (as:Exs) (η:Env):Wc:=(as η).bind fun l=>mkL (cp l) (trees l)
noncomputable def oB (l:We):Wc:=if l.length<=eA then some (up (cp l) (.tup (trees l))) else none
@[simp] noncomputable def lH (as:Exs) (η:Env):Wc:=(as η).bind oB
noncomputable def dput (l:List (T×T)) (k v:T):List (T×T):=if l.any (fun p=>eqT p.1 k) then l.map (fun p=>if eqT p.1 k then (p.1,v) else p) else l++[(k,v)]
noncomputable def iQ:T->Bool
 | .int _=>true
 | .str _=>true
 | _=>false
noncomputable def keyOk:Nat->T->Bool
 | 0,t=>iQ t
 | 1,.tup l=>l.all iQ
 | _,_=>false
noncomputable def pairs:List (Ex×Ex)->Env->Option (List (Val×Val))
 | [],_=>some []
 | (a,b) :: r,η=>(a η).bind fun x=>(b η).bind fun y=>(pairs r η).map ((x,y) :: ·)
noncomputable def kJ (kd:Nat) (ps:List (Ex×Ex)) (η:Env):Wc:=(pairs ps η).bind fun l=>if l.all (fun p=>keyOk kd p.1.2)/\l.length<=15 then
 some (cp (l.map (·.2)),.dct kd (l.foldl (fun d p=>dput d p.1.2 p.2.2) [])) else none
@[simp] noncomputable def tru:T->Option Bool
 | .bl b=>some b
 | .int i=>some (i != 0)
 | .str s=>some (!s.isEmpty)
 | .lst l=>some (!l.isEmpty)
 | .tup l=>some (!l.isEmpty)
 | .dct 0 l=>some (!l.isEmpty)
 | .non=>some false
 | _=>none
@[simp] noncomputable def gx (a b:Ex) (η:Env):Wc:=(a η).bind fun x=>match x.2 with
 | .bl true=>b η
 | .bl false=>some (.fr,.bl false)
 | _=>none
@[simp] noncomputable def eOr (a b:Ex) (η:Env):Wc:=(a η).bind fun x=>match x.2 with
 | .bl true=>some (.fr,.bl true)
 | .bl false=>b η
 | _=>none
@[simp] noncomputable def lU (a:Ex) (η:Env):Wc:=(a η).bind fun x=>match x.2 with
 | .bl b=>some (.fr,.bl (!b))
 | _=>none
@[simp] noncomputable def isN:T->Bool
 | .non=>true
 | _=>false
@[simp] noncomputable def yy (a:Ex) (η:Env):Wc:=(a η).bind fun x=>some (.fr,.bl (isN x.2))
@[simp] noncomputable def fX (a:Ex) (η:Env):Wc:=(a η).bind fun x=>some (.fr,.bl (!isN x.2))
@[simp] noncomputable def i5 (f g:Val->Val->Wc) (a b c:Ex) (η:Env):Wc:=(a η).bind fun x=>(b η).bind fun y=>(f x y).bind fun r=>match r.2 with
 | .bl true=>(c η).bind fun z=>g y z
 | .bl false=>some (.fr,.bl false)
 | _=>none
@[simp] noncomputable def int?:T->Option Int
 | .int i=>some i
 | _=>none
noncomputable def bD:Val->Val->Wc
 | (_,.int i),(_,.int j)=>some (.fr,.int (i+j))
 | (_,.str s),(_,.str t)=>if s.length+t.length<=eA then some (.fr,.str (s++t)) else none
 | (m,.lst s),(n,.lst t)=>mkL (m.join n) (s++t)
 | _,_=>none
@[simp] noncomputable def i7:Val->Val->Wc
 | (_,.int i),(_,.int j)=>some (.fr,.int (i - j))
 | _,_=>none
noncomputable def B62:Int:=4611686018427387904
noncomputable def B64:Int:=18446744073709551616
noncomputable def d5:Val->Val->Wc
 | (_,.int i),(_,.int j)=>if (-B64 < i/\i < B64)\/(-B64 < j/\j < B64) then some (.fr,.int (i * j)) else none
 | _,_=>none
noncomputable def oR:Val->Val->Wc
 | (_,.str s),(_,.int j)=>if s.length * j.toNat<=eA/\-B62<=j/\j < B62 then some (.fr,.str (List.replicate j.toNat s).flatten) else none
 | _,_=>none
noncomputable def gm:Val->Val->Wc
 | (_,.int i),(_,.int j)=>if 0 < j/\j < 1073741824 then some (.fr,.int (i / j)) else none
 | _,_=>none
noncomputable def oMod:Val->Val->Wc
 | (_,.int i),(_,.int j)=>if 0 < j then some (.fr,.int (i % j)) else none
 | _,_=>none
noncomputable def ltx:Tx->Tx->Bool
 | [],[]=>false
 | [],_ :: _=>true
 | _ :: _,[]=>false
 | a :: as,b :: bs=>if a < b then true else if b < a then false else ltx as bs
@[simp] noncomputable def oLt:Val->Val->Wc
 | (_,.int i),(_,.int j)=>some (.fr,.bl (decide (i < j)))
 | (_,.str s),(_,.str t)=>some (.fr,.bl (ltx s t))
 | _,_=>none
@[simp] noncomputable def oLe:Val->Val->Wc
 | (_,.int i),(_,.int j)=>some (.fr,.bl (decide (i<=j)))
 | (_,.str s),(_,.str t)=>some (.fr,.bl (!ltx t s))
 | _,_=>none
@[simp] noncomputable def oGt (a b:Val):Wc:=oLt b a
@[simp] noncomputable def oGe (a b:Val):Wc:=oLe b a
@[simp] noncomputable def oEq (a b:Val):Wc:=if eqD 60 a.2/\eqD 60 b.2 then some (.fr,.bl (eqT a.2 b.2)) else none
@[simp] noncomputable def oNe (a b:Val):Wc:=if eqD 60 a.2/\eqD 60 b.2 then some (.fr,.bl (!eqT a.2 b.2)) else none
noncomputable def dX (l:List (T×T)) (k:T):Option T:=(l.find? fun p=>eqT p.1 k).map (·.2)
noncomputable def ixP (n:Nat) (i:Int):Option Nat:=if 0<=i then (if i < n then some i.toNat else none) else (if 0<=i+n then some (i+n).toNat else none)
@[simp] noncomputable def sub (m:Md) (t:T):Val:=up m t
@[simp] noncomputable def aB:Val->Val->Wc
 | (m,.lst l),(_,.int i)=>(ixP l.length i).bind fun k=>(l[k]?).map (sub m)
 | (m,.tup l),(_,.int i)=>(ixP l.length i).bind fun k=>(l[k]?).map (sub m)
 | (_,.scr l),(_,.int i)=>(ixP l.length i).bind fun k=>(l[k]?).map fun n=>(.fr,.int n)
 | (_,.str l),(_,.int i)=>(ixP l.length i).bind fun k=>(l[k]?).map fun n=>(.fr,.str [n])
 | _,_=>none
noncomputable def clip (n:Nat) (i:Int):Nat:=if i < 0 then (i+n).toNat else min i.toNat n
noncomputable def cut {α:Type} (l:List α) (a b:Option Int):List α :=
 let lo:=match a with | none=>0 | some i=>clip l.length i
 let hi:=match b with | none=>l.length | some i=>clip l.length i
 (l.drop lo).take (hi - lo)
@[simp] noncomputable def oSl (v:Val) (a b:Option Int):Wc:=match v with
 | (_,.str s)=>some (.fr,.str (cut s a b))
 | (m,.lst l)=>mkL m (cut l a b)
 | _=>none
@[simp] noncomputable def q9 (c:Option Ex) (η:Env):Option (Option Int):=match c with
 | none=>some none
 | some e=>(e η).bind fun y=>(int? y.2).map some
@[simp] noncomputable def eSl (a:Ex) (lo hi:Option Ex) (η:Env):Wc:=(a η).bind fun x=>(q9 lo η).bind fun l=>(q9 hi η).bind fun h=>oSl x l h
@[simp] noncomputable def vC:T->Option Nat
 | .lst l=>some l.length
 | .tup l=>some l.length
 | .str l=>some l.length
 | .scr l=>some l.length
 | .dct 0 l=>some l.length
 | _=>none
@[simp] noncomputable def bX:We->Wc
 | [x]=>(vC x.2).map fun n=>(.fr,.int n)
 | _=>none
@[simp] noncomputable def oF:We->Wc
 | [(_,.int i),(_,.int j)]=>some (.fr,.int (if j < i then j else i))
 | _=>none
noncomputable def jA:Wb->Option (Wh)
 | []=>some []
 | .int i :: r=>(jA r).map (i :: ·)
 | _=>none
noncomputable def strs?:Wb->Option (List Tx)
 | []=>some []
 | .str i :: r=>(strs? r).map (i :: ·)
 | _=>none
noncomputable def oQ:We->Wc
 | [(_,.lst l)]=>(jA l).bind fun is=>some (.fr,.int is.sum)
 | _=>none
@[simp] noncomputable def yQ:We->Wc
 | [(m,.lst l)]=>mkL m l
 | [(m,.tup l)]=>mkL m l
 | _=>none
noncomputable def iH:We->Wc
 | [(m,.lst l)]=>if l.length<=eA then some (up m (.tup l)) else none
 | _=>none
noncomputable def lO (x:Tx):List Tx->List Tx
 | []=>[x]
 | y :: r=>if ltx y x then y :: lO x r else x :: y :: r
noncomputable def eB (l:List Tx):List Tx:=l.foldr lO []
inductive Ty where | int | str | bool | list | tuple | dict
@[simp] noncomputable def oS:Ty->T->Bool
 | .int,.int _=>true
 | .int,.bl _=>true
 | .bool,.bl _=>true
 | .str,.str _=>true
 | .list,.lst _=>true
 | .tuple,.tup _=>true
 | .dict,.dct _ _=>true
 | _,_=>false
@[simp] noncomputable def rC:T->Bool
 | .obj _ _=>false
 | .scr _=>false
 | .dct 0 _=>true
 | .dct 1 _=>true
 | .dct _ _=>false
 | _=>true
@[simp] noncomputable def eIs (t:Ty) (a:Ex) (η:Env):Wc:=(a η).bind fun x=>if rC x.2 then some (.fr,.bl (oS t x.2)) else none
@[simp] noncomputable def eM (f:Val->We->Wc) (o:Ex) (as:Exs) (η:Env):Wc:=(o η).bind fun x=>(as η).bind fun xs=>f x xs
noncomputable abbrev Fn:=Wb->Wc
@[simp] noncomputable def aL (g:Fn) (as:Exs) (η:Env):Wc:=(as η).bind fun xs=>(g (trees xs)).bind fun r=>match r with
 | (.fr,t)=>some (.fr,t)
 | (_,t)=>some ((Md.pu).join (cp xs),t)
noncomputable abbrev Its:=Env->Option (Md×Wb)
@[simp] noncomputable def A5:Val->Option (Md×Wb)
 | (m,.lst l)=>some (m,l)
 | (m,.tup l)=>some (m,l)
 | (_,.str l)=>some (.fr,l.map fun c=>.str [c])
 | _=>none
@[simp] noncomputable def g8 (a:Ex) (η:Env):Option (Md×Wb):=(a η).bind A5
noncomputable def rng (lo:Int) (n:Nat):Wb:=(List.range n).map fun (k:Nat)=>T.int (lo+k)
noncomputable def c6 (a:Ex) (η:Env):Option (Md×Wb):=(a η).bind fun x=>(int? x.2).bind fun j=>if -B62<=j/\j < B62 then some (.fr,rng 0 j.toNat) else none
noncomputable def iN (a b:Ex) (η:Env):Option (Md×Wb):=(a η).bind fun x=>(b η).bind fun y=>(int? x.2).bind fun i=>(int? y.2).bind fun j =>
 if (-B62<=i/\i < B62)/\-B62<=j/\j < B62 then some (.fr,rng i (j - i).toNat) else none
noncomputable def iz (k:Nat):Wb->Wb
 | []=>[]
 | t :: r=>.tup [.int k,t] :: iz (k+1) r
@[simp] noncomputable def BC:Val->Option (Md×Wb)
 | (m,.lst l)=>some (m,iz 0 l)
 | _=>none
@[simp] noncomputable def qB (a:Ex) (η:Env):Option (Md×Wb):=(a η).bind BC
noncomputable abbrev Tg:=T->Env->Option Env
@[simp] noncomputable def bF (i:Nat) (t:T) (η:Env):Option Env:=if i < η.length then some (η.set i (some (.pu t))) else none
@[simp] noncomputable def ql:List Tg->Wb->Env->Option Env
 | [],[],η=>some η
 | g :: gs,t :: ts,η=>(g t η).bind fun η'=>ql gs ts η'
 | _,_,_=>none
@[simp] noncomputable def nX (gs:List Tg) (t:T) (η:Env):Option Env:=match t with
 | .tup l=>ql gs l η
 | _=>none
@[simp] noncomputable def okI (m:Md) (l:Wb):Bool:=match m with
 | .bo=>fm l
 | _=>true
noncomputable def lr (tg:Tg) (cond:Option Ex) (elt:Ex) (η:Env):Wb->Option (We)
 | []=>some []
 | t :: r=>(tg t η).bind fun η'=>(match cond with | none=>some true | some c=>(c η').bind fun x=>tru x.2).bind fun b =>
  if b then (elt η').bind fun v=>(lr tg cond elt η r).map (v :: ·) else lr tg cond elt η r
noncomputable def eT (k:Nat) (tg:Tg) (it:Its) (cond:Option Ex) (elt:Ex) (η:Env):Wc:=(it η).bind fun (m,l)=>if okI m l then
 (lr tg cond elt (List.replicate k none++η) l).bind fun vs=>mkL (cp vs) (trees vs) else none
@[simp] noncomputable def dF (η:Env):Option Out:=some (.nx η)
@[simp] noncomputable def ak (a b:Sx) (η:Env):Option Out:=(a η).bind fun o=>match o with
 | .nx η'=>b η'
 | o=>some o
@[simp] noncomputable def kX (i:Nat) (e:Ex) (η:Env):Option Out:=(e η).bind fun v=>(cellOf v).bind fun c=>if i < η.length then some (.nx (η.set i (some c))) else none
@[simp] noncomputable def aC (i:Nat) (e:Ex) (η:Env):Option Out:=(e η).bind fun v=>match v.1 with
 | .bo=>none
 | _=>if i < η.length then some (.nx (η.set i (some (.pu v.2)))) else none
@[simp] noncomputable def dN (e:Ex) (η:Env):Option Out:=(e η).bind fun v=>some (.rt (match v.1 with | .bo=>.pu | m=>m,v.2) η)
@[simp] noncomputable def gE (i:Nat) (η:Env):Option Out:=match η[i]? with
 | some (some (.ow t))=>some (.rt (.fr,t) (η.set i none))
 | some (some (.pu t))=>some (.rt (up .pu t) η)
 | _=>none
@[simp] noncomputable def sIf (c:Ex) (a b:Sx) (η:Env):Option Out:=(c η).bind fun x=>(tru x.2).bind fun t=>if t then a η else b η
noncomputable def forL (tg:Tg) (body:Sx):Wb->Env->Option Out
 | [],η=>some (.nx η)
 | t :: r,η=>(tg t η).bind fun η1=>(body η1).bind fun o=>match o with
  | .nx η2=>forL tg body r η2
  | .ct η2=>forL tg body r η2
  | .bk η2=>some (.nx η2)
  | .rt v η2=>some (.rt v η2)
@[simp] noncomputable def okF:Md->Bool
 | .bo=>false
 | _=>true
@[simp] noncomputable def fJ (tg:Tg) (it:Its) (body:Sx) (η:Env):Option Out:=(it η).bind fun (m,l)=>if okF m then forL tg body l η else none
noncomputable def eE (c:Ex) (body:Sx):Nat->Env->Option Out
 | 0,_=>none
 | n+1,η=>(c η).bind fun x=>(tru x.2).bind fun t=>if t then (body η).bind fun o=>match o with
  | .nx η2=>eE c body n η2
  | .ct η2=>eE c body n η2
  | .bk η2=>some (.nx η2)
  | .rt v η2=>some (.rt v η2)
  else some (.nx η)
noncomputable def sA:Nat:=1000000
noncomputable def j5 (c:Ex) (body:Sx) (η:Env):Option Out:=eE c body sA η
@[simp] noncomputable def tf (i:Nat) (η:Env):Option Out:=match η[i]? with
 | some (some (.ow t))=>some (.nx (η.set i (some (.pu t))))
 | some (some (.pu _))=>some (.nx η)
 | _=>none
inductive Stp where | fld (k:Nat) | ix (e:Ex) | un
inductive Ky where | fld (k:Nat) | at (t:T) | un
@[simp] noncomputable def keys:List Stp->Env->Option (List Ky)
 | [],_=>some []
 | .fld k :: r,η=>(keys r η).map (.fld k :: ·)
 | .ix e :: r,η=>(e η).bind fun x=>(keys r η).map (.at x.2 :: ·)
 | .un :: r,η=>(keys r η).map (.un :: ·)
noncomputable def Dh (fs:List (Nat×T)) (k:Nat):Option T:=fs.lookup k
noncomputable def C6 (fs:List (Nat×T)) (k:Nat) (v:T):List (Nat×T):=if fs.any (fun p=>p.1 == k) then fs.map (fun p=>if p.1 == k then (p.1,v) else p) else fs++[(k,v)]
@[simp] noncomputable def yw {α:Type} (f:T->Option (T×α)):List Ky->T->Option (T×α)
 | [],t=>f t
 | .fld k :: r,.obj c fs=>(Dh fs k).bind fun x=>(yw f r x).map fun (y,a)=>(.obj c (C6 fs k y),a)
 | .at (.int i) :: r,.lst l=>(ixP l.length i).bind fun j=>(l[j]?).bind fun x=>(yw f r x).map fun (y,a)=>(.lst (l.set j y),a)
 | .at k :: r,.dct d l=>(dX l k).bind fun x=>(yw f r x).map fun (y,a)=>(.dct d (dput l k y),a)
 | _,_=>none
noncomputable abbrev Xx:=Env->Option (Val×Env)
@[simp] noncomputable def xP (e:Ex) (η:Env):Option (Val×Env):=(e η).map fun v=>(v,η)
@[simp] noncomputable def lW (i:Nat) (way:List Stp) (f:T->We->Option (T×Val)) (as:Exs) (η:Env):Option (Val×Env):=match η[i]? with
 | some (some (.ow t))=>(keys way η).bind fun ks=>(as η).bind fun xs=>(yw (fun x=>f x xs) ks t).map fun (t',v)=>(v,η.set i (some (.ow t')))
 | _=>none
@[simp] noncomputable def fit (v:Val):Option T:=match v.1 with
 | .fr=>some v.2
 | _=>none
noncomputable def aJ:T->We->Option (T×Val)
 | .lst l,[v]=>(fit v).bind fun t=>if l.length < eA then some (.lst (l++[t]),(.fr,.non)) else none
 | _,_=>none
@[simp] noncomputable def sX (x:Xx) (η:Env):Option Out:=(x η).map fun r=>.nx r.2
@[simp] noncomputable def fn (np nn:Nat) (body:Sx):Fn:=fun ts=>if ts.length=np then
 (body (ts.map (fun t=>some (.pu t))++List.replicate (nn - np) none)).bind fun o=>match o with
  | .rt v _=>some v
  | .nx _=>some (.fr,.non)
  | _=>none else none
theorem gH {m n:Md} {s t:Tx} (h:s.length+t.length<=16777216):bD (m,.str s) (n,.str t)=some (.fr,.str (s++t)):=Zr h
theorem hU {m n:Md} {i j:Int} (h:-18446744073709551616 < i/\i < 18446744073709551616):d5 (m,.int i) (n,.int j)=some (.fr,.int (i * j)):=Zr (.inl h)
theorem fP {m n:Md} {i j:Int} (h:0 < j/\j < 1073741824):gm (m,.int i) (n,.int j)=some (.fr,.int (i / j)):=Zr h
theorem bg {m n:Md} {i j:Int} (h:0 < j):oMod (m,.int i) (n,.int j)=some (.fr,.int (i % j)):=Zr h
theorem d6 {l:Wb} {t:T} (h:l.length < 16777216):aJ (.lst l) [(.fr,t)]=some (.lst (l++[t]),(.fr,.non)):=by
 simp only [aJ,fit,Zt]
 exact Zr h
theorem iZ {a:Ex} {η:Env} {m:Md} {j:Int} (e:a η=some (m,.int j)) (h:-4611686018427387904<=j/\j < 4611686018427387904):c6 a η=some (.fr,rng 0 j.toNat):=by
 simp only [c6,e,Zt,int?]
 exact Zr h
theorem uh {m:Md} {l:Wb} (h:l.length<=16777216):mkL m l=some (if fm l then .fr else m,.lst l):=Zr h
theorem dr {tg:Tg} {body:Sx} {t:T} {r:Wb} {η η1 η2:Env} (h1:tg t η=some η1) (h2:body η1=some (.nx η2)):forL tg body (t :: r) η=forL tg body r η2:=by
 simp [forL,h1,h2]
theorem strs_map {α:Type} (f:α->Tx):∀ l:List α,strs? (l.map fun x=>T.str (f x))=some (l.map f)
 | []=>rfl
 | a :: r=>by simp [strs?,strs_map f r]
theorem ints_map {α:Type} (f:α->Int):∀ l:List α,jA (l.map fun x=>T.int (f x))=some (l.map f)
 | []=>rfl
 | a :: r=>by simp [jA,ints_map f r]
theorem lE (n:Nat):rng 0 n=(List.range n).map fun (k:Nat)=>T.int (k:Int):=by
 unfold rng
 simp
theorem jf {α:Type} (f:α->T) (h:∀ x,imm (f x)=true):∀ l:List α,fm (l.map f)=true
 | []=>rfl
 | a :: r=>by simp [h,jf f h r]
theorem mE {α:Type} {tg:Tg} {elt:Ex} {η:Env} (g:α->T) (f:α->Val):∀ l:List α,(∀ a∈l,∃ η',tg (g a) η=some η'/\elt η'=some (f a))->lr tg none elt η (l.map g)=some (l.map f)
 | [],_=>rfl
 | a :: r,h=>by
  obtain ⟨η',h1,h2⟩:=h a Zx
  simp [lr,h1,h2,mE g f r fun b hb=>h b (Zw _ hb)]
theorem oM {α:Type} (f:α->T):∀ l:List α,cp (l.map fun a=>(Md.fr,f a))=.fr
 | []=>rfl
 | a :: r=>by simp [oM f r]
theorem tj {α:Type} (f:α->Val) (l:List α):trees (l.map f)=l.map fun a=>(f a).2:=by simp
theorem eD {α:Type} {k:Nat} {tg:Tg} {it:Its} {elt:Ex} {η:Env} {m:Md} (g:α->T) (f:α->T) (l:List α) (hi:it η=some (m,l.map g)) (hk:okI m (l.map g)=true) (hl:l.length<=16777216)
  (h:∀ a∈l,∃ η',tg (g a) (List.replicate k none++η)=some η'/\elt η'=some (.fr,f a)):eT k tg it none elt η=some (.fr,.lst (l.map f)):=by
 simp only [eT,hi,Zt]
 rw [Zr hk,mE g (fun a=>(Md.fr,f a)) l h]
 simp only [Zt,oM,tj]
 rw [uh (by rw [Zv];exact hl)]
 simp
theorem lM {α:Type} {m n:Md} (f:α->T) (l:List α) (i:Int) (d:α) (h0:0<=i) (h1:i < l.length) (hi:imm (f (l.getD i.toNat d))=true):aB (m,.lst (l.map f)) (n,.int i)=some (.fr,f (l.getD i.toNat d)):=by
 have b2:i.toNat < l.length:=by lia
 simp only [Zq,Zm b2,Y0] at hi ⊢
 simp [ixP,h0,h1,b2,hi]
end VS
end
section
namespace L2
open PySem PySem.Spec PyProof.Rows
noncomputable abbrev Key:=Sum Int Str
noncomputable def kh:Key->Value->Bool
 | .inl k,v=>Value.isInt k v
 | .inr x,v=>Value.isStrOf x v
noncomputable def BG (w:World):Key->Int
 | .inl k=>hashInt k
 | .inr x=>hashStr w x
theorem bN:∀ {k:Key} {v:Value},kh k v=true->(∃ i t,k=Sum.inl i/\v=Value.int i t)\/(∃ x t,k=Sum.inr x/\v=Value.str x t)
 | .inl i,v,h=>by
  obtain ⟨t,e⟩:=Value.isInt_shape (k:=i) (v:=v) h
  exact .inl ⟨i,t,rfl,e⟩
 | .inr x,v,h=>by
  obtain ⟨t,e⟩:=Value.isStrOf_shape (x:=x) (v:=v) h
  exact .inr ⟨x,t,rfl,e⟩
theorem sN (i:Int) (t:Tok):kh (.inl i) (.int i t)=true:=by simp [kh,Value.isInt]
theorem sQ (x:Str) (t:Tok):kh (.inr x) (.str x t)=true:=by simp [kh,Value.isStrOf]
theorem zI (a b:Int):decide ((Sum.inl a:Key)=Sum.inl b)=(a == b):=by
 by_cases e:a=b
 ·subst e;simp
 ·have h:¬ (Sum.inl a:Key)=Sum.inl b:=fun q=>e (Sum.inl.inj q)
  rw [Ze h]
  exact (ZK.mpr e).symm
theorem zS (a b:Str):decide ((Sum.inr a:Key)=Sum.inr b)=decide (a=b):=by
 by_cases e:a=b
 ·subst e;simp
 ·have h:¬ (Sum.inr a:Key)=Sum.inr b:=fun q=>e (Sum.inr.inj q)
  rw [Ze h,Ze e]
theorem Bh (a:Int) (b:Str):decide ((Sum.inl a:Key)=Sum.inr b)=false:=Ze (fun q=>nomatch q)
theorem AV (a:Str) (b:Int):decide ((Sum.inr a:Key)=Sum.inl b)=false:=Ze (fun q=>nomatch q)
noncomputable def ba (prog:Program) (w:World):PySem.KeyKind prog w Key where
 is:=kh
 hash:=BG w
 inj:=fun v a b ha hb=>by
  rcases bN ha with ⟨i,t,rfl,rfl⟩ | ⟨x,t,rfl,rfl⟩
  ·rcases bN hb with ⟨j,u,rfl,e⟩ | ⟨y,u,rfl,e⟩
   ·injection e with e1 _;rw [e1]
   ·exact nomatch e
  ·rcases bN hb with ⟨j,u,rfl,e⟩ | ⟨y,u,rfl,e⟩
   ·exact nomatch e
   ·injection e with e1 _;rw [e1]
 byValue:=fun k v h=>by
  rcases bN h with ⟨i,t,rfl,rfl⟩ | ⟨x,t,rfl,rfl⟩ <;> rfl
 pyHash:=fun hv h=>by
  rcases bN hv with ⟨i,t,rfl,rfl⟩ | ⟨x,t,rfl,rfl⟩
  ·exact wpAny_pyHash_int h
  ·exact wpAny_pyHash_str h
 eqBool:=fun hu hv h=>by
  rcases bN hu with ⟨i,t,rfl,rfl⟩ | ⟨x,t,rfl,rfl⟩
  ·rcases bN hv with ⟨j,u,rfl,rfl⟩ | ⟨y,u,rfl,rfl⟩
   ·rw [zI] at h;exact wpAny_eqBool_int h
   ·rw [Bh] at h;exact SeqAt.EqAt.int_str i t y u _ _ _ _ h
  ·rcases bN hv with ⟨j,u,rfl,rfl⟩ | ⟨y,u,rfl,rfl⟩
   ·rw [AV] at h;exact SeqAt.EqAt.str_int x t j u _ _ _ _ h
   ·rw [zS] at h;exact wpAny_eqBool_str h
 «strs» := fun k x t v h=>by
  rcases bN h with ⟨i,u,rfl,e⟩ | ⟨y,u,rfl,e⟩
  ·exact nomatch e
  ·injection e with e1 _
   subst e1
   cases v <;> rfl
theorem nY (prog:Program) (w:World) (i:Int) (t:Tok):(ba prog w).is (.inl i) (.int i t)=true:=sN i t
theorem oy (prog:Program) (w:World) (x:Str) (t:Tok):(ba prog w).is (.inr x) (.str x t)=true:=sQ x t
inductive V where
 | non | bl (b:Bool) | int (i:Int) | str (x:Str) | byt (b:Array UInt8) | flt (b:UInt64) | ref (a:Addr) | ty (n:String)
 deriving DecidableEq
noncomputable def RelV:V->Value->Prop
 | .non,u=>u=Value.none
 | .bl b,u=>u=Value.bool b
 | .int i,u=>∃ t,u=Value.int i t
 | .str x,u=>∃ t,u=Value.str x t
 | .byt b,u=>∃ t,u=Value.bytes b t
 | .flt b,u=>∃ t,u=Value.float b t
 | .ref a,u=>u=Value.ref a
 | .ty n,u=>u=Value.type n
noncomputable abbrev aQ:List V->Wk->Prop:=Paired RelV
theorem aQ.length {xs:List V} {us:Wk} (r:aQ xs us):xs.length=us.length:=YA r
theorem aQ.get:∀ {xs:List V} {us:Wk} {i:Nat} {x:V},aQ xs us->xs[i]?=some x->∃ u,us[i]?=some u/\RelV x u
 | _,_,_,_,.nil,e=>by simp at e
 | _,_,0,_,.cons r _,e=>by simp at e;subst e;exact ⟨_,rfl,r⟩
 | _,_,i+1,x,.cons _ t,e=>by
  obtain ⟨u,h1,h2⟩:=aQ.get (i:=i) (x:=x) t (by simpa using e)
  exact ⟨u,by simpa using h1,h2⟩
theorem aQ.set {x:V} {u:Value} (r:RelV x u):∀ {xs:List V} {us:Wk} (i:Nat),aQ xs us->aQ (xs.set i x) (us.set i u)
 | _,_,_,.nil=>.nil
 | _,_,0,.cons _ t=>.cons r t
 | _,_,i+1,.cons q t=>.cons q (aQ.set r i t)
theorem aQ.append:∀ {xs ys:List V} {us ws:Wk},aQ xs us->aQ ys ws->aQ (xs++ys) (us++ws)
 | _,_,_,_,.nil,s=>s
 | _,_,_,_,.cons r t,s=>.cons r (aQ.append t s)
theorem aQ.take:∀ {xs:List V} {us:Wk} (n:Nat),aQ xs us->aQ (xs.take n) (us.take n)
 | _,_,0,_=>.nil
 | _,_,_+1,.nil=>.nil
 | _,_,n+1,.cons r t=>.cons r (aQ.take n t)
theorem aQ.drop:∀ {xs:List V} {us:Wk} (n:Nat),aQ xs us->aQ (xs.drop n) (us.drop n)
 | _,_,0,r=>r
 | _,_,_+1,.nil=>.nil
 | _,_,n+1,.cons _ t=>aQ.drop n t
theorem aQ.none_of:∀ {xs:List V} {us:Wk} {i:Nat},aQ xs us->xs[i]?=none->us[i]?=none:=fun {xs us i} r e=>by
 have h1:=r.length
 have h2:xs.length<=i:=Yp.mp e
 exact Yp.mpr (by lia)
noncomputable def gD:Option V->Wj->Prop
 | some v,some u=>RelV v u
 | none,none=>True
 | _,_=>False
noncomputable def KV {κ:Type}:List (κ×V)->List (κ×Value)->Prop:=Paired fun (p:κ×V) (q:κ×Value)=>p.1=q.1/\RelV p.2 q.2
noncomputable def kV:Key->V
 | .inl i=>.int i
 | .inr x=>.str x
inductive HO where
 | lst (xs:List V)
 | tup (xs:List V)
 | dK (kvs:List (Key×V)) | dT (kvs:List (List Key×V))
 | set (S:Int->Bool) (n:Nat)
 | ins (C dx:Addr) (fs:List (Str×V))
 | own (x:Addr)
 | xd (fs:List (Str×V))
 | met (f x:Addr)
 | rng (lo hi:Int)
 | frz (o:Obj) (u:HO)
 | tbl (ps:Array Value)
 | ext (φ:World->Heap->Prop)
noncomputable abbrev Hp:=Addr->Option HO
noncomputable def upd (H:Hp) (a:Addr) (o:HO):Hp:=fun b=>if b=a then some o else H b
theorem aA {H:Hp} {a:Addr} {o:HO}:upd H a o a=some o:=by unfold upd;rw [Zr rfl]
theorem aD {H:Hp} {a b:Addr} {o:HO} (h:b ≠ a):upd H a o b=H b:=by unfold upd;rw [Zo h]
theorem yM {H:Hp} {a:Addr} {o u:HO}:upd (upd H a o) a u=upd H a u:=by
 funext b;unfold upd;split <;> rfl
theorem Bz {H:Hp} {a b:Addr} {o u:HO} (h:H a=some o) (h':H b=some u) (d:o ≠ u):a ≠ b:=by
 intro e;subst e;rw [h] at h';exact d (Zn h')
theorem cU {H:Hp} {a b:Addr} {o:HO} (h:H a=some o) (h':H b=none):a ≠ b:=by
 intro e;subst e;rw [h] at h';cases h'
noncomputable def NoD (h:Heap) (a:Addr):Prop:=∀ o,h.get? a=some o->o.dict=none
theorem NoD.new (h:Heap) (its:Array Value):NoD (h.push { cls:=.type "tuple",data:=.seq its }) h.objs.size:=fun o e=>by
 rw [ZJ _ rfl] at e
 cases e
 rfl
theorem NoD.of {h:Heap} {a:Addr} {o:Obj} (e:h.get? a=some o) (d:o.dict=none):NoD h a:=fun o' e'=>by
 rw [e] at e'
 cases e'
 exact d
section
variable (P:Program) (w:World)
noncomputable def bI (H:Hp) (h:Heap) (a:Addr):HO->Prop
 | .lst xs=>xs.length<=sizeLine/\∃ (its:Wk) (n:Nat),aQ xs its/\h.get? a=some { cls:=.type "list",data:=.seq its.toArray n }
 | .tup xs=>xs.length<=sizeLine/\∃ its:Wk,aQ xs its/\NoD h a/\IsTup h a its.toArray
 | .dK kvs=>kvs.length<=sizeLine/\(a == sysModules)=false/\∃ vs,KV kvs vs/\h.DictOf (ba P w) a vs
 | .dT kvs=>kvs.length<=sizeLine/\(a == sysModules)=false/\∃ xs:List (List Key×Addr×Value),
   Paired (fun (p:List Key×V) (q:List Key×Addr×Value)=>p.1=q.1/\H q.2.1=some (.tup (p.1.map kV))/\RelV p.2 q.2.2) kvs xs ∧
   ∃ o es ep,h.get? a=some o/\o.ExactDict/\o.data=.dict es ep/\es.toList=xs.map (entryOfKey (tupleKind (ba P w)))/\(xs.map (·.1)).Nodup
 | .set S n=>h.SetOf (intKind P w) a S n
 | .ins C dx fs=>H dx=some (.own a)/\fs.length<=1000/\dx ≠ a/\h.get? a=some (PySem.W.instObj C dx) ∧
   ∃ mA,h.Ns1 dx mA/\(∀ f,gD (fs.lookup f) (mA f))/\PySem.Within mA (fs.map (·.1))
 | .own _=>∃ o,h.get? a=some o
 | .xd fs=>∃ mA,h.Ns1 a mA/\∀ f,gD (fs.lookup f) (mA f)
 | .rng lo hi=>∃ t u v,h.get? a=some { cls:=.type "range",data:=.fields #[.int lo t,.int hi u,.int 1 v] }
 | .frz o u=>h.get? a=some o/\bI H h a u
 | .tbl ps=>h.get? a=some { cls:=.none,data:=.fields ps }
 | .met f x=>h.get? a=some (PySem.W.methodObj (.ref f) (.ref x))
 | .ext φ=>φ w h/\(∃ o,h.get? a=some o)/\∀ h1 h2:Heap,φ w h1->(∀ o,h1.get? a=some o->h2.get? a=some o)->φ w h2
noncomputable def HOk (H:Hp) (h:Heap):Prop:=∀ a o,H a=some o->bI P w H h a o
end
section
variable {P:Program} {w:World} {H H':Hp} {h h':Heap} {a:Addr} {o:HO}
theorem bI.lt (x:bI P w H h a o):a < h.objs.size:=by
 cases o with
 | lst xs=>obtain ⟨_,_,_,_,e⟩:=x;exact ZQ e
 | tup xs=>obtain ⟨_,_,_,_,p⟩:=x;exact p.lt
 | dK kvs=>obtain ⟨_,_,_,_,o,_,_,e,_⟩:=x;exact ZQ e
 | dT kvs=>obtain ⟨_,_,_,_,o,_,_,e,_⟩:=x;exact ZQ e
 | set S n=>obtain ⟨o,_,_,_,e,_⟩:=x;exact ZQ e
 | ins C dx fs=>obtain ⟨_,_,_,e,_⟩:=x;exact ZQ e
 | own y=>obtain ⟨_,e⟩:=x;exact ZQ e
 | xd fs=>obtain ⟨_,⟨_,_,_,e,_⟩,_⟩:=x;exact ZQ e
 | rng lo hi=>obtain ⟨_,_,_,e⟩:=x;exact ZQ e
 | frz ob u=>obtain ⟨e,_⟩:=x;exact ZQ e
 | tbl ps=>exact ZQ (show h.get? a=some _ from x)
 | met f y=>exact ZQ (show h.get? a=some _ from x)
 | ext φ=>obtain ⟨_,⟨_,e⟩,_⟩:=x;exact ZQ e
theorem Paired.mapP {α β:Type} {F G:α->β->Prop}:∀ {l₁:List α} {l₂:List β},Paired F l₁ l₂->(∀ a b,F a b->G a b)->Paired G l₁ l₂
 | _,_,.nil,_=>.nil
 | _,_,.cons r t,f=>.cons (f _ _ r) (Paired.mapP t f)
theorem bI.stay (x:bI P w H h a o) (k:∀ b u,(b=a\/H b=some (.own a))->h.get? b=some u->h'.get? b=some u)
  (ho:∀ b,H b=some (.own a)->H' b=some (.own a)) (ht:∀ b xs,H b=some (.tup xs)->H' b=some (.tup xs)):bI P w H' h' a o:=by
 induction o with
 | lst xs=>obtain ⟨z,its,n,r,e⟩:=x;exact ⟨z,its,n,r,k _ _ (.inl rfl) e⟩
 | tup xs=>obtain ⟨z,its,r,nd,ob,e,c⟩:=x;exact ⟨z,its,r,NoD.of (k _ _ (.inl rfl) e) (nd _ e),ob,k _ _ (.inl rfl) e,c⟩
 | dK kvs=>obtain ⟨z,y,vs,r,ob,es,ep,e,c⟩:=x;exact ⟨z,y,vs,r,ob,es,ep,k _ _ (.inl rfl) e,c⟩
 | dT kvs =>
  obtain ⟨z,y,xs,r,ob,es,ep,e,c⟩:=x
  exact ⟨z,y,xs,Paired.mapP r fun p q z=>⟨z.1,ht _ _ z.2.1,z.2.2⟩,ob,es,ep,k _ _ (.inl rfl) e,c⟩
 | set S n=>obtain ⟨ob,es,ep,t,e,c⟩:=x;exact ⟨ob,es,ep,t,k _ _ (.inl rfl) e,c⟩
 | ins C dx fs =>
  obtain ⟨d,z,ne,e,mA,⟨od,es,ep,e2,c⟩,r⟩:=x
  exact ⟨ho _ d,z,ne,k _ _ (.inl rfl) e,mA,⟨od,es,ep,k _ _ (.inr d) e2,c⟩,r⟩
 | own y=>obtain ⟨ob,e⟩:=x;exact ⟨ob,k _ _ (.inl rfl) e⟩
 | xd fs=>obtain ⟨mA,⟨od,es,ep,e,c⟩,r⟩:=x;exact ⟨mA,⟨od,es,ep,k _ _ (.inl rfl) e,c⟩,r⟩
 | rng lo hi=>obtain ⟨t,u,v,e⟩:=x;exact ⟨t,u,v,k _ _ (.inl rfl) e⟩
 | frz ob u ih=>obtain ⟨e,q⟩:=x;exact ⟨k _ _ (.inl rfl) e,ih q⟩
 | tbl ps =>
  have e:h.get? a=some { cls:=.none,data:=.fields ps }:=x
  show h'.get? a=some { cls:=.none,data:=.fields ps }
  exact k a _ (.inl rfl) e
 | met f y =>
  have e:h.get? a=some (PySem.W.methodObj (.ref f) (.ref y)):=x
  show h'.get? a=some (PySem.W.methodObj (.ref f) (.ref y))
  exact k a _ (.inl rfl) e
 | ext φ=>obtain ⟨p,⟨o,e⟩,st⟩:=x;exact ⟨st _ _ p fun o q=>k _ _ (.inl rfl) q,⟨o,k _ _ (.inl rfl) e⟩,st⟩
theorem HOk.lt (x:HOk P w H h) (e:H a=some o):a < h.objs.size:=(x a o e).lt
theorem HOk.fresh (x:HOk P w H h) (e:h.objs.size<=a):H a=none:=by
 cases q:H a with
 | none=>rfl
 | some u=>exact absurd (ZM (x.lt q) e) (Yn _)
theorem HOk.kept (x:HOk P w H h) (k:∀ b u,h.get? b=some u->h'.get? b=some u):HOk P w H h':=fun a o e =>
 (x a o e).stay (fun b u _ q=>k b u q) (fun _ q=>q) fun _ _ q=>q
theorem HOk.laid (x:HOk P w H h) (k:∀ b u,h.get? b=some u->h'.get? b=some u) (hp:h.objs.size<=a) (new:bI P w (upd H a o) h' a o):HOk P w (upd H a o) h':=fun b u e=>by
 have hn:=x.fresh hp
 by_cases hb:b=a
 ·subst hb;rw [aA] at e;cases e;exact new
 ·rw [aD hb] at e
  exact (x b u e).stay (fun c v _ q=>k c v q) (fun c q=>by rw [aD (cU q hn)];exact q) fun c xs q=>by rw [aD (cU q hn)];exact q
end
noncomputable def Rd (H:Hp) (a:Addr) (u:HO):Prop:=H a=some u\/∃ o,H a=some (.frz o u)
theorem Rd.ok {P:Program} {w:World} {H:Hp} {h:Heap} {a:Addr} {u:HO} (r:Rd H a u) (x:HOk P w H h):bI P w H h a u:=by
 rcases r with r | ⟨o,r⟩
 ·exact x a u r
 ·obtain ⟨_,q⟩:=x a _ r
  exact q
noncomputable def Mut:Option HO->Prop
 | some (.lst _)=>True
 | some (.dK _)=>True
 | some (.dT _)=>True
 | some (.set _ _)=>True
 | some (.ins _ _ _)=>True
 | some (.ext _)=>True
 | _=>False
section
variable {P:Program} {w:World} {H:Hp} {h h':Heap} {x e:Addr} {o':HO}
theorem HOk.write (ok:HOk P w H h) (mu:Mut (H x)) (he:e=x\/H e=some (.own x)) (k:∀ b u,b ≠ e->h.get? b=some u->h'.get? b=some u) (heo:∃ u,h'.get? e=some u)
  (new:bI P w (upd H x o') h' x o'):HOk P w (upd H x o') h':=fun b u q=>by
 have nown:∀ c y,H c=some (.own y)->c ≠ x:=fun c y r z=>by subst z;rw [r] at mu;exact mu
 have ntup:∀ c xs,H c=some (.tup xs)->c ≠ x:=fun c xs r z=>by subst z;rw [r] at mu;exact mu
 by_cases hb:b=x
 ·subst hb;rw [aA] at q;cases q;exact new
 ·rw [aD hb] at q
  by_cases hbe:b=e
  ·have q':H b=some (.own x):=by
    rcases he with z | z
    ·exact absurd (hbe.trans z) hb
    ·rw [hbe];exact z
   rw [q] at q';cases q'
   obtain ⟨v,hv⟩:=heo
   exact ⟨v,by rw [hbe];exact hv⟩
  ·refine (ok b u q).stay (fun c v hc r=>k c v ?_ r) (fun c r=>by rw [aD (nown c b r)];exact r) fun c xs r=>by rw [aD (ntup c xs r)];exact r
   rcases hc with rfl | hc
   ·exact hbe
   ·rintro rfl
    rcases he with z | z
    ·exact nown c b hc z
    ·rw [hc] at z;cases z;exact hb rfl
end
structure Un (fs ex:Wm) (H H':Hp) (h h':Heap):Prop where
 keep:∀ b o,h.get? b=some o->H b=none->b ∉ fs->b ∉ ex->h'.get? b=some o
 slot:∀ b o,h.get? b=some o->H b=none->b∈fs->b ∉ ex->∃ sl,h'.get? b=some { o with slots:=sl }
 free:∀ b o,h.get? b=some o->H b=none->b ∉ ex->H' b=none
 there:∀ b o,h.get? b=some o->b ∉ ex->∃ o',h'.get? b=some o'
 tups:∀ b xs,H b=some (.tup xs)->H' b=some (.tup xs)
 frzs:∀ b o u,H b=some (.frz o u)->H' b=some (.frz o u)
 tbls:∀ b ps,H b=some (.tbl ps)->∃ more,H' b=some (.tbl (ps++more))
section
variable {fs fs' ex ex':Wm} {H H1 H2:Hp} {h h1 h2 h':Heap} {a x e:Addr} {o:HO}
theorem Un.any (u:Un fs ex H H1 h h1) {b:Addr} {ob:Obj} (q:h.get? b=some ob) (n:H b=none) (hx:b ∉ ex):∃ sl,h1.get? b=some { ob with slots:=sl }:=by
 by_cases hb:b∈fs
 ·exact u.slot b ob q n hb hx
 ·exact ⟨ob.slots,u.keep b ob q n hb hx⟩
theorem Un.kept (k:∀ b u,h.get? b=some u->h'.get? b=some u):Un fs ex H H h h' :=
 ⟨fun b ob q _ _ _=>k b ob q,fun b ob q _ _ _=>⟨ob.slots,k b ob q⟩,fun _ _ _ n _=>n,fun b ob q _=>⟨ob,k b ob q⟩,fun _ _ q=>q,fun _ _ _ q=>q,fun _ ps q=>⟨#[],by rw [q];simp⟩⟩
theorem Un.refl:Un fs ex H H h h:=Un.kept fun _ _ q=>q
theorem Un.laid (k:∀ b u,h.get? b=some u->h'.get? b=some u) (hp:h.objs.size<=a) (hn:H a=none):Un fs ex H (upd H a o) h h' where
 keep:=fun b u q _ _ _=>k b u q
 slot:=fun b u q _ _ _=>⟨u.slots,k b u q⟩
 free:=fun b u q n _=>by rw [aD (ZS (ZM (ZQ q) hp))];exact n
 there:=fun b u q _=>⟨u,k b u q⟩
 tups:=fun b xs q=>by rw [aD (cU q hn)];exact q
 frzs:=fun b u xs q=>by rw [aD (cU q hn)];exact q
 tbls:=fun b ps q=>⟨#[],by rw [aD (cU q hn),q];simp⟩
theorem Un.write (mu:Mut (H x)) (he:e=x\/H e=some (.own x)) (k:∀ b u,b ≠ e->h.get? b=some u->h'.get? b=some u) (heo:∃ u,h'.get? e=some u):Un fs ex H (upd H x o) h h':=by
 have hx:∀ b,H b=none->b ≠ x:=fun b n z=>by subst z;rw [n] at mu;exact mu
 have hb:∀ b,H b=none->b ≠ e:=fun b n z=>by
  subst z
  rcases he with r | r
  ·exact hx b n r
  ·rw [n] at r;cases r
 have hm:∀ b u,H b=some u->¬ Mut (some u)->b ≠ x:=fun b u q nm z=>by subst z;rw [q] at mu;exact nm mu
 refine ⟨fun b u q n _ _=>k b u (hb b n) q,fun b u q n _ _=>⟨u.slots,k b u (hb b n) q⟩,fun b u q n _=>by rw [aD (hx b n)];exact n,fun b u q _=>?_,
  fun b xs q=>by rw [aD (hm b _ q fun z=>z)];exact q,fun b u xs q=>by rw [aD (hm b _ q fun z=>z)];exact q,fun b ps q=>⟨#[],by rw [aD (hm b _ q fun z=>z),q];simp⟩⟩
 by_cases hbe:b=e
 ·subst hbe;exact heo
 ·exact ⟨u,k b u hbe q⟩
end
noncomputable def trk (h:Heap) (H:Hp):Wm:=(List.range h.objs.size).filter fun a=>(H a).isSome
noncomputable def nN (h:Heap) (H:Hp):Heap:=PySem.W.hideAll h (trk h H)
theorem tD (h:Heap) (H:Hp):(nN h H).objs.size=h.objs.size:=PySem.W.hideAll_size _ _
theorem u6 {h:Heap} {H:Hp} {b:Addr} {o:Obj} (e:h.get? b=some o) (n:H b=none):(nN h H).get? b=some o :=
 PySem.W.hideAll_get _ e fun hm=>by
  have q:(H b).isSome=true:=(YS.mp hm).2
  rw [n] at q;simp at q
theorem xO {h:Heap} {H:Hp} {b:Addr} {o:Obj} (e:(nN h H).get? b=some o):h.get? b=some o/\H b=none:=by
 have e':h.get? b=some o:=PySem.W.of_hideAll (trk h H) e
 refine ⟨e',?_⟩
 cases q:H b with
 | none=>rfl
 | some x =>
  have hm:b∈trk h H:=YS.mpr ⟨Z4.mpr (ZQ e'),by simp [q]⟩
  have z:(nN h H).get? b=none:=PySem.W.hideAll_none (trk h H) hm
  rw [z] at e;cases e
noncomputable def xV (g h:Heap) (L:Addr):Xq:=(List.range h.objs.size).filterMap fun a=>if a=L\/(g.get? a).isSome=true then none else (h.get? a).map fun o=>(a,o)
noncomputable def rest (g h:Heap) (L d:Addr):Xq:=(xV g h L).filter fun p=>decide (p.1 ≠ d)
structure Mod (K:Xd) (mg:Wx) (base:Heap):Prop where
 kin:K.In base
 glob:base.Ns mainGlobals mg
 blt:∃ mb,base.Ns builtinsNs mb/\∀ x:Str,x ≠ "__name__" → mb x=bootBuiltins x
 nolimit:base.NoLimit
structure Cx where
 prog:Program
 w:World
 K:Xd
 mg:Wx
 base:Heap
 A:Around
 N:List Str
 s₀:Shared
 H₀:Hp
 env:Env
 outer:List Env
 stack:List Env
 ex:Wm
 fn:Str->Bool
 calm:Bool
 pn:Xq
 xe:Y7
noncomputable def frs (l:List Env):Wm:=l.filterMap (·.frame)
noncomputable abbrev Cx.fs (X:Cx):Wm:=frs X.outer
noncomputable def Vis (sc:Scope) (x:Str):Prop:=sc.names.lookup x=some .local\/sc.names.lookup x=some .cell\/sc.names.lookup x=some .free
noncomputable def Loc (sc:Scope) (x:Str):Prop:=sc.names.lookup x=some .local\/sc.names.lookup x=some .cell
noncomputable def Look (env:Env) (h:Heap) (m:Wx) (x:Str) (u:Value):Prop :=
 (env.kindOf x=some .local/\m x=some u)\/((env.kindOf x=some .cell\/env.kindOf x=some .free)/\∃ c,env.cells.lookup x=some c/\h.IsCell c (some u))
structure Cx.Ok (X:Cx):Prop where
 mod:Mod X.K X.mg X.base
 kind:X.env.scope.kind=.function
 glob:X.env.globals=mainGlobals
 blt:X.env.builtins=builtinsNs
 above:X.s₀.heap.objs.size<=X.env.locals
 inj:∀ x y c,X.env.cells.lookup x=some c->X.env.cells.lookup y=some c->x=y
 has:∀ x,(X.env.kindOf x=some .cell\/X.env.kindOf x=some .free)->∃ c,X.env.cells.lookup x=some c
 cab:∀ x c,X.fn x=true->X.env.cells.lookup x=some c->X.s₀.heap.objs.size<=c
 hd:X.calm=true->X.A.handled=none
 frames:X.A.frames=some X.stack
 stk:X.stack=X.outer\/(X.stack=X.env :: X.outer/\X.env.frame=some X.env.locals)
 exf:∀ b∈X.ex,b ≠ X.env.locals/\∀ x c,X.env.cells.lookup x=some c->c ≠ b
 bs:∀ b o,X.base.get? b=some o->X.s₀.heap.get? b=some o/\X.H₀ b=none
 bsz:X.base.objs.size<=X.s₀.heap.objs.size
 noex:∀ b o,X.base.get? b=some o->b ∉ X.ex
 exfs:∀ b∈X.ex,b ∉ X.fs
 funs:X.s₀.heap.FunFrames X.base X.outer
 frf:∀ b∈X.fs,X.H₀ b=none
structure Inv (X:Cx) (pins:Xq) (σ:List (Option V)) (H:Hp) (s:Shared):Prop where
 ok:X.Ok
 os:s.os=X.s₀.os
 bare:AllBare s.gens
 base:Un X.fs X.ex X.H₀ H X.s₀.heap s.heap
 loc:∃ m,s.heap.Ns X.env.locals m/\∀ (i:Nat) (x:Str) (v:V),X.N[i]?=some x->σ[i]?=some (some v)->Vis X.env.scope x->∃ u,RelV v u/\Look X.env s.heap m x u
 cell:∀ x c,X.env.cells.lookup x=some c->∃ v,s.heap.IsCell c v
 free:H X.env.locals=none
 freeC:∀ x c,X.env.cells.lookup x=some c->H c=none
 pin:∀ p∈X.pn++pins,s.heap.get? p.1=some p.2/\H p.1=none/\p.1 ≠ X.env.locals/\p.1 ∉ X.fs/\∀ v,p.2.data ≠ .cell v
 hok:HOk X.prog X.w H s.heap
 len:σ.length=X.N.length
section
variable {X:Cx} {pins:Xq} {σ:List (Option V)} {H H':Hp} {s:Shared} {h':Heap}
theorem Cx.Ok.nofr (ok:X.Ok) {b:Addr} {o:Obj} (e:X.base.get? b=some o):b ∉ X.fs:=fun hb=>by
 have:=(ok.funs.mem hb).1
 rw [e] at this;cases this
theorem Inv.bs (I:Inv X pins σ H s):∀ b o,X.base.get? b=some o->s.heap.get? b=some o/\H b=none:=fun b o e =>
 ⟨I.base.keep b o (I.ok.bs b o e).1 (I.ok.bs b o e).2 (I.ok.nofr e) (I.ok.noex b o e),I.base.free b o (I.ok.bs b o e).1 (I.ok.bs b o e).2 (I.ok.noex b o e)⟩
theorem Inv.bk (I:Inv X pins σ H s):∀ b o,X.base.get? b=some o->s.heap.get? b=some o:=fun b o e=>(I.bs b o e).1
theorem Inv.mod (I:Inv X pins σ H s):Mod X.K X.mg X.base:=I.ok.mod
theorem Inv.kIn (I:Inv X pins σ H s):X.K.In s.heap:=I.ok.mod.kin.keeps I.bk
theorem Inv.lt (I:Inv X pins σ H s):X.env.locals < s.heap.objs.size:=let ⟨_,hn,_⟩:=I.loc;hn.lt
theorem Inv.sz (I:Inv X pins σ H s):X.s₀.heap.objs.size<=s.heap.objs.size:=ZW I.ok.above (Y9 I.lt)
theorem Inv.nofs (I:Inv X pins σ H s) {a:Addr} (h:s.heap.objs.size<=a):a ∉ X.fs:=fun hb=>by
 obtain ⟨_,o,ho,_⟩:=I.ok.funs.mem hb
 exact absurd (ZM (ZQ ho) (ZW I.sz h)) (Yn _)
theorem Inv.cne (I:Inv X pins σ H s):∀ x c,X.env.cells.lookup x=some c->c ≠ X.env.locals:=fun x c e z=>by
 obtain ⟨v,o,ho,hd⟩:=I.cell x c e
 obtain ⟨m,⟨o',es,ep,ho',hd',_⟩,_⟩:=I.loc
 rw [z,ho'] at ho;cases ho;rw [hd'] at hd;cases hd
theorem Inv.funs (I:Inv X pins σ H s):s.heap.FunFrames X.base X.outer:=by
 have all:∀ (l:List Env),(∀ b∈frs l,b∈X.fs)->X.s₀.heap.FunFrames X.base l->s.heap.FunFrames X.base l:=by
  intro l
  induction l with
  | nil=>intro _ _;trivial
  | cons env r ih =>
   intro hs hl
   obtain ⟨hk,⟨L,o,hf,hn,ho,hd⟩,hr⟩:=hl
   have hL:L∈X.fs:=hs L (by unfold frs;rw [X0,hf];exact Zx)
   obtain ⟨sl,e⟩:=I.base.slot L o ho (I.ok.frf L hL) hL fun z=>I.ok.exfs L z hL
   exact ⟨hk,⟨L,_,hf,hn,e,hd⟩,ih (fun b hb=>hs b (by unfold frs;rw [X0,hf];exact Zw _ hb)) hr⟩
 exact all X.outer (fun _ hb=>hb) I.ok.funs
theorem Inv.stack (I:Inv X pins σ H s):s.heap.FunFrames X.base X.stack:=by
 rcases I.ok.stk with e | ⟨e,hf⟩
 ·rw [e];exact I.funs
 ·rw [e]
  obtain ⟨m,hn,_⟩:=I.loc
  refine .cons (by rw [I.ok.kind];decide) hf hn ?_ I.funs
  exact Heap.get?_none_of_le (ZW I.ok.bsz I.ok.above)
theorem Inv.stkSub (I:Inv X pins σ H s):∀ b∈frs X.stack,b∈X.env.locals :: X.fs:=fun b hb=>by
 rcases I.ok.stk with e | ⟨e,hf⟩
 ·rw [e] at hb;exact Zw _ hb
 ·rw [e] at hb
  unfold frs at hb
  rw [X0,hf] at hb
  exact hb
theorem Inv.stkFree (I:Inv X pins σ H s):∀ b∈frs X.stack,H b=none:=fun b hb=>by
 rcases Zh.mp (I.stkSub b hb) with e | hb
 ·rw [e];exact I.free
 ·obtain ⟨_,o,ho,_⟩:=I.ok.funs.mem hb
  exact I.base.free b o ho (I.ok.frf b hb) fun z=>I.ok.exfs b z hb
theorem Inv.step {g':Array GenState} {t':Nat} {d':Drawn} {ch:Wm} (I:Inv X pins σ H s)
  (hch:∀ b∈ch,(b∈X.ex\/X.s₀.heap.objs.size<=b)/\b ≠ X.env.locals/\(∀ x c,X.env.cells.lookup x=some c->c ≠ b)/\∀ p∈X.pn++pins,p.1 ≠ b)
  (keep:∀ b o,b ≠ X.env.locals->b ∉ X.fs->b ∉ ch->s.heap.get? b=some o->H b=none->h'.get? b=some o)
  (slot:∀ b o,b ≠ X.env.locals->b∈X.fs->b ∉ ch->s.heap.get? b=some o->H b=none->∃ sl,h'.get? b=some { o with slots:=sl }) (free:∀ b o,b ∉ ch->s.heap.get? b=some o->H b=none->H' b=none)
  (there:∀ b o,b ∉ ch->s.heap.get? b=some o->∃ o',h'.get? b=some o')
  (tups:∀ b xs,H b=some (.tup xs)->H' b=some (.tup xs)) (frzs:∀ b o u,H b=some (.frz o u)->H' b=some (.frz o u)) (tbls:∀ b ps,H b=some (.tbl ps)->∃ more,H' b=some (.tbl (ps++more)))
  (ns:∀ m,s.heap.Ns X.env.locals m->h'.Ns X.env.locals m) (hok:HOk X.prog X.w H' h') (hg:AllBare g') :
  Inv X pins σ H' { s with heap:=h',gens:=g',drawn:=d',toks:=t' }:=by
 have neL:∀ b o,X.s₀.heap.get? b=some o->b ≠ X.env.locals:=fun b o e=>ZS (ZM (ZQ e) I.ok.above)
 have neC:∀ b o,X.s₀.heap.get? b=some o->b ∉ X.ex->b ∉ ch:=fun b o e hx hb=>by
  rcases (hch b hb).1 with z | z
  ·exact hx z
  ·exact absurd (ZM (ZQ e) z) (Yn _)
 have cellK:∀ x c,X.env.cells.lookup x=some c->∀ v,s.heap.IsCell c v->h'.IsCell c v:=fun x c e v ⟨o,ho,hd⟩=>by
  have nch:c ∉ ch:=fun z=>(hch c z).2.2.1 x c e rfl
  by_cases hc:c∈X.fs
  ·obtain ⟨sl,q⟩:=slot c o (I.cne x c e) hc nch ho (I.freeC x c e)
   exact ⟨_,q,hd⟩
  ·exact ⟨o,keep c o (I.cne x c e) hc nch ho (I.freeC x c e),hd⟩
 refine ⟨I.ok,I.os,hg,⟨fun b o e n hb hx=>?_,fun b o e n hb hx=>?_,fun b o e n hx=>?_,fun b o e hx=>?_,fun b xs e=>tups b xs (I.base.tups b xs e),fun b o xs e=>frzs b o xs (I.base.frzs b o xs e),fun b ps e=>?_⟩,?_,fun x c e=>?_,?_,fun x c e=>?_,fun p hp=>?_,hok,I.len⟩
 ·exact keep b o (neL b o e) hb (neC b o e hx) (I.base.keep b o e n hb hx) (I.base.free b o e n hx)
 ·obtain ⟨sl,e1⟩:=I.base.slot b o e n hb hx
  obtain ⟨sl',e2⟩:=slot b _ (neL b o e) hb (neC b o e hx) e1 (I.base.free b o e n hx)
  exact ⟨sl',e2⟩
 ·obtain ⟨o',e1⟩:=I.base.there b o e hx
  exact free b o' (neC b o e hx) e1 (I.base.free b o e n hx)
 ·obtain ⟨o',e1⟩:=I.base.there b o e hx
  exact there b o' (neC b o e hx) e1
 ·obtain ⟨m1,e1⟩:=I.base.tbls b ps e
  obtain ⟨m2,e2⟩:=tbls b _ e1
  exact ⟨m1++m2,by rw [e2,Array.append_assoc]⟩
 ·obtain ⟨m,hn,hl⟩:=I.loc
  refine ⟨m,ns m hn,fun i x v e1 e2 e3=>?_⟩
  obtain ⟨u,r,l⟩:=hl i x v e1 e2 e3
  refine ⟨u,r,?_⟩
  rcases l with l | ⟨k,c,e,z⟩
  ·exact .inl l
  ·exact .inr ⟨k,c,e,cellK x c e _ z⟩
 ·obtain ⟨v,z⟩:=I.cell x c e
  exact ⟨v,cellK x c e v z⟩
 ·obtain ⟨m,⟨o,_,_,ho,_⟩,_⟩:=I.loc
  exact free _ o (fun z=>(hch _ z).2.1 rfl) ho I.free
 ·obtain ⟨v,o,ho,hd⟩:=I.cell x c e
  exact free c o (fun z=>(hch c z).2.2.1 x c e rfl) ho (I.freeC x c e)
 ·obtain ⟨e,n,ne,nf,d⟩:=I.pin p hp
  have nch:p.1 ∉ ch:=fun z=>(hch p.1 z).2.2.2 p hp rfl
  exact ⟨keep p.1 p.2 ne nf nch e n,free p.1 p.2 nch e n,ne,nf,d⟩
theorem Inv.un {t':Nat} (I:Inv X pins σ H s) (u:Un X.fs [] H H' s.heap h') (hok:HOk X.prog X.w H' h'):Inv X pins σ H' { s with heap:=h',toks:=t' }:=by
 obtain ⟨m,⟨o,es,ep,ho,r⟩,_⟩:=id I.loc
 obtain ⟨sl,hL⟩:=u.any ho I.free (by simp)
 exact I.step (g':=s.gens) (d':=s.drawn) (ch:=[]) (fun _ z=>nomatch z) (fun b o _ hb _ e n=>u.keep b o e n hb (by simp)) (fun b o _ hb _ e n=>u.slot b o e n hb (by simp)) (fun b o _ e n=>u.free b o e n (by simp)) (fun b o _ e=>u.there b o e (by simp)) u.tups u.frzs u.tbls (fun m' hm=>by
  obtain ⟨o',es',ep',ho',r'⟩:=hm
  rw [ho] at ho';cases ho'
  exact ⟨_,es',ep',hL,r'⟩) hok I.bare
theorem Inv.call {g':Array GenState} {t':Nat} {d':Drawn} {ch:Wm} (I:Inv X pins σ H s) (u:Un (frs X.stack) ch H H' s.heap h') (hok:HOk X.prog X.w H' h') (hg:AllBare g')
  (hch:∀ b∈ch,(b∈X.ex\/X.s₀.heap.objs.size<=b)/\b ≠ X.env.locals/\(∀ x c,X.env.cells.lookup x=some c->c ≠ b)/\∀ p∈X.pn++pins,p.1 ≠ b) :
  Inv X pins σ H' { s with heap:=h',gens:=g',drawn:=d',toks:=t' }:=by
 obtain ⟨m,⟨o,es,ep,ho,r⟩,_⟩:=id I.loc
 obtain ⟨sl,hL⟩:=u.any ho I.free fun z=>(hch _ z).2.1 rfl
 exact I.step (ch:=ch) hch (fun b o hL hb hc e n=>u.keep b o e n (fun z=>(Zh.mp (I.stkSub b z)).elim hL hb) hc) (fun b o _ _ hc e n=>u.any e n hc) (fun b o hc e n=>u.free b o e n hc) (fun b o hc e=>u.there b o e hc) u.tups u.frzs u.tbls (fun m' hm=>by
  obtain ⟨o',es',ep',ho',r'⟩:=hm
  rw [ho] at ho';cases ho'
  exact ⟨_,es',ep',hL,r'⟩) hok hg
theorem Inv.turned {t':Nat} {it:Addr} (I:Inv X pins σ H s) (k:∀ b o,b ≠ it->s.heap.get? b=some o->h'.get? b=some o) (hn:H it=none) (hL:it ≠ X.env.locals)
  (h1:it∈X.ex\/X.s₀.heap.objs.size<=it) (h2:∀ x c,X.env.cells.lookup x=some c->c ≠ it) (h3:∀ p∈X.pn++pins,p.1 ≠ it):Inv X pins σ H { s with heap:=h',toks:=t' }:=by
 have nit:∀ b u,H b=some u->b ≠ it:=fun b u e z=>by rw [z,hn] at e;cases e
 refine I.step (g':=s.gens) (d':=s.drawn) (ch:=[it]) (fun b hb=>?_) (fun b o _ _ hc e _=>k b o (fun z=>hc (by simp [z])) e) (fun b o _ _ hc e _=>⟨o.slots,k b o (fun z=>hc (by simp [z])) e⟩) (fun _ _ _ _ n=>n)
  (fun b o hc e=>⟨o,k b o (fun z=>hc (by simp [z])) e⟩) (fun _ _ e=>e) (fun _ _ _ e=>e) (fun b ps e=>⟨#[],by rw [e];simp⟩) (fun m hm=>?_) (fun b u e=>?_) I.bare
 ·have e:b=it:=by simpa using hb
  subst e
  exact ⟨h1,hL,h2,h3⟩
 ·obtain ⟨o,es,ep,ho,r⟩:=hm
  exact ⟨o,es,ep,k _ o (YW hL) ho,r⟩
 ·refine (I.hok b u e).stay (fun c v hc q=>k c v ?_ q) (fun _ q=>q) fun _ _ q=>q
  rcases hc with z | z
  ·rw [z];exact nit b u e
  ·exact nit c _ z
theorem Inv.tok (I:Inv X pins σ H s) (t:Nat):Inv X pins σ H { s with toks:=t }:=I.un (h':=s.heap) (t':=t) Un.refl I.hok
theorem Inv.kept {t':Nat} (I:Inv X pins σ H s) (k:∀ b u,s.heap.get? b=some u->h'.get? b=some u):Inv X pins σ H { s with heap:=h',toks:=t' }:=I.un (Un.kept k) (I.hok.kept k)
theorem Inv.laid {a:Addr} {o:HO} {t':Nat} (I:Inv X pins σ H s) (k:∀ b u,s.heap.get? b=some u->h'.get? b=some u) (hp:s.heap.objs.size<=a) (new:bI X.prog X.w (upd H a o) h' a o) :
  Inv X pins σ (upd H a o) { s with heap:=h',toks:=t' }:=I.un (Un.laid k hp (I.hok.fresh hp)) (I.hok.laid k hp new)
theorem Inv.write {x e:Addr} {o:HO} {t':Nat} (I:Inv X pins σ H s) (mu:Mut (H x)) (he:e=x\/H e=some (.own x)) (k:∀ b u,b ≠ e->s.heap.get? b=some u->h'.get? b=some u) (heo:∃ u,h'.get? e=some u)
  (new:bI X.prog X.w (upd H x o) h' x o):Inv X pins σ (upd H x o) { s with heap:=h',toks:=t' }:=I.un (Un.write mu he k heo) (I.hok.write mu he k heo new)
theorem Inv.pins_of {pins':Xq} (I:Inv X pins σ H s) (h:∀ p∈pins',s.heap.get? p.1=some p.2/\H p.1=none/\p.1 ≠ X.env.locals/\p.1 ∉ X.fs/\∀ v,p.2.data ≠ .cell v):Inv X pins' σ H s :=
 ⟨I.ok,I.os,I.bare,I.base,I.loc,I.cell,I.free,I.freeC,fun p hp=>(Zc.mp hp).elim (fun z=>I.pin p (Z7 _ z)) (h p),I.hok,I.len⟩
theorem pG {N:List Str} (hN:N.Nodup) {i j:Nat} {x:Str} (a:N[i]?=some x) (b:N[j]?=some x):i=j:=by
 obtain ⟨h1,e1⟩:=ZZ.mp a
 obtain ⟨h2,e2⟩:=ZZ.mp b
 exact (Wo hN).mp (e1.trans e2.symm)
theorem sH {M:Model} {A:Around} {E:Y7} {i:Nat} {x:Str} {v:V} {u:Value} {Q:Unit->Shared->Prop} (I:Inv X pins σ H s) (hN:X.N.Nodup) (hi:X.N[i]?=some x) (hx:Loc X.env.scope x) (r:RelV v u)
  (h:∀ s',Inv X pins (σ.set i (some v)) H s'->(∃ a,Heap.SameBut a s.heap s'.heap/\(a=X.env.locals\/X.env.cells.lookup x=some a))->Q () s') (hf:X.fn x=true\/X.env.scope.names.lookup x=some .local:=by first | exact .inl rfl | exact .inr rfl | assumption):wpAny M A (storeName X.env x u) Q E s:=by
 obtain ⟨m,hn,hl⟩:=id I.loc
 have hcls:(X.env.scope.kind == .class || (X.env.scope.kind == .module && X.env.locals != X.env.globals))=false:=by rw [I.ok.kind];rfl
 have hiσ:i < σ.length:=by rw [I.len];exact (ZZ.mp hi).1
 have cne:=I.cne
 have tracked:∀ {a:Addr} {h':Heap},(∃ o,s.heap.get? a=some o/\H a=none)->Heap.SameBut a s.heap h'->HOk X.prog X.w H h':=fun {a h'} ha hs b ob e=>by
  obtain ⟨_,_,hfree⟩:=ha
  refine (I.hok b ob e).stay (fun c w' hc q=>(hs.2 c ?_).trans q) (fun _ q=>q) fun _ _ q=>q
  rintro rfl
  rcases hc with rfl | hc
  ·rw [hfree] at e;cases e
  ·rw [hfree] at hc;cases hc
 rcases hx with hk | hk
 ·refine wpAny_storeName_local hk hn (fun h' hn' hs=>?_) hcls
  obtain ⟨oL,_,_,hoL,_⟩:=id hn
  refine h _ ⟨I.ok,I.os,I.bare,⟨fun b o e n hb hx=>?_,fun b o e n hb hx=>?_,I.base.free,fun b o e hx=>?_,I.base.tups,I.base.frzs,I.base.tbls⟩,⟨_,hn',fun j y v' e1 e2 e3=>?_⟩,fun y c e=>?_,I.free,I.freeC,fun p hp=>?_,tracked ⟨oL,hoL,I.free⟩ hs,by simpa using I.len⟩ ⟨_,hs,.inl rfl⟩
  ·exact (hs.2 b (ZS (ZM (ZQ e) I.ok.above))).trans (I.base.keep b o e n hb hx)
  ·obtain ⟨sl,e1⟩:=I.base.slot b o e n hb hx
   exact ⟨sl,(hs.2 b (ZS (ZM (ZQ e) I.ok.above))).trans e1⟩
  ·obtain ⟨o',e1⟩:=I.base.there b o e hx
   exact ⟨o',(hs.2 b (ZS (ZM (ZQ e) I.ok.above))).trans e1⟩
  ·by_cases hj:j=i
   ·subst hj
    rw [hi] at e1;cases e1
    rw [XM hiσ] at e2
    cases e2
    exact ⟨u,r,.inl ⟨hk,by simp⟩⟩
   ·rw [YQ (YW hj)] at e2
    obtain ⟨u',r',q⟩:=hl j y v' e1 e2 e3
    refine ⟨u',r',?_⟩
    rcases q with ⟨k,e⟩ | ⟨k,c,e,z⟩
    ·refine .inl ⟨k,?_⟩
     have:y ≠ x:=fun e=>hj (pG hN e1 (e ▸ hi))
     simp [this,e]
    ·exact .inr ⟨k,c,e,z.sameBut hs (cne y c e)⟩
  ·obtain ⟨w',z⟩:=I.cell y c e
   exact ⟨w',z.sameBut hs (cne y c e)⟩
  ·obtain ⟨e,n,ne,nf,d⟩:=I.pin p hp
   exact ⟨(hs.2 p.1 ne).trans e,n,ne,nf,d⟩
 ·have hfn:X.fn x=true:=by
   rcases hf with z | z
   ·exact z
   ·rw [z] at hk;cases hk
  obtain ⟨c,hc⟩:=I.ok.has x (.inl hk)
  obtain ⟨w',z⟩:=I.cell x c hc
  refine wpAny_storeName_cell I.ok.kind hk hc z (fun h' hc' hs=>?_)
  obtain ⟨oc,hoc,hocd⟩:=id z
  refine h { s with heap:=h' } ⟨I.ok,I.os,I.bare,⟨fun b o e n hb hx=>?_,fun b o e n hb hx=>?_,I.base.free,fun b o e hx=>?_,I.base.tups,I.base.frzs,I.base.tbls⟩,⟨m,hn.sameBut hs (YW (cne x c hc)),fun j y v' e1 e2 e3=>?_⟩,fun y c' e=>?_,I.free,I.freeC,fun p hp=>?_,tracked ⟨oc,hoc,I.freeC x c hc⟩ hs,by simpa using I.len⟩ ⟨c,hs,.inr hc⟩
  ·exact (hs.2 b (ZS (ZM (ZQ e) (I.ok.cab x c hfn hc)))).trans (I.base.keep b o e n hb hx)
  ·obtain ⟨sl,e1⟩:=I.base.slot b o e n hb hx
   exact ⟨sl,(hs.2 b (ZS (ZM (ZQ e) (I.ok.cab x c hfn hc)))).trans e1⟩
  ·obtain ⟨o',e1⟩:=I.base.there b o e hx
   exact ⟨o',(hs.2 b (ZS (ZM (ZQ e) (I.ok.cab x c hfn hc)))).trans e1⟩
  ·by_cases hj:j=i
   ·subst hj
    rw [hi] at e1;cases e1
    rw [XM hiσ] at e2
    cases e2
    exact ⟨u,r,.inr ⟨.inl hk,c,hc,hc'⟩⟩
   ·rw [YQ (YW hj)] at e2
    obtain ⟨u',r',q⟩:=hl j y v' e1 e2 e3
    refine ⟨u',r',?_⟩
    rcases q with q | ⟨k,c',e,z'⟩
    ·exact .inl q
    ·refine .inr ⟨k,c',e,z'.sameBut hs ?_⟩
     rintro rfl
     exact hj (pG hN e1 (I.ok.inj _ _ _ e hc ▸ hi))
  ·by_cases hcc:c'=c
   ·subst hcc;exact ⟨_,hc'⟩
   ·obtain ⟨w2,z2⟩:=I.cell y c' e
    exact ⟨w2,z2.sameBut hs hcc⟩
  ·obtain ⟨e,n,ne,nf,d⟩:=I.pin p hp
   refine ⟨(hs.2 p.1 ?_).trans e,n,ne,nf,d⟩
   intro q
   rw [q,hoc] at e
   have q':oc=p.2:=Zn e
   exact d w' (by rw [← q'];exact hocd)
theorem o5 {M:Model} {A:Around} {E:Y7} {i:Nat} {x:Str} {v:V} {u:Value} {Q:Unit->Shared->Prop} (I:Inv X pins σ H s) (hN:X.N.Nodup) (hi:X.N[i]?=some x) (hx:Loc X.env.scope x) (r:RelV v u)
  (h:∀ s',Inv X pins (σ.set i (some v)) H s'->Q () s') (hf:X.fn x=true\/X.env.scope.names.lookup x=some .local:=by first | exact .inl rfl | exact .inr rfl | assumption):wpAny M A (storeName X.env x u) Q E s :=
 sH I hN hi hx r (fun s' I' _=>h s' I') hf
theorem Inv.call' {s':Shared} {ch:Wm} (I:Inv X pins σ H s) (ho:s'.os=s.os) (u:Un (frs X.stack) ch H H' s.heap s'.heap) (hok:HOk X.prog X.w H' s'.heap) (hg:AllBare s'.gens)
  (hch:∀ b∈ch,(b∈X.ex\/X.s₀.heap.objs.size<=b)/\b ≠ X.env.locals/\(∀ x c,X.env.cells.lookup x=some c->c ≠ b)/\∀ p∈X.pn++pins,p.1 ≠ b):Inv X pins σ H' s':=by
 obtain ⟨h',g',d',t',o'⟩:=s'
 have e:o'=s.os:=ho
 subst e
 exact I.call (g':=g') (t':=t') (d':=d') u hok hg hch
end
noncomputable abbrev XK:=Value->Option Addr->Hp->Prop
noncomputable abbrev St:=List (Option V)
noncomputable abbrev VK:=V->Hp->Prop
noncomputable abbrev TE:=St->Hp->VK->Prop
noncomputable abbrev TT:=St->Hp->(Bool->Hp->Prop)->Prop
noncomputable abbrev TA:=St->Hp->(List V->Hp->Prop)->Prop
structure Ends where
 nx:St->Hp->Prop
 rt:VK
 bk:St->Hp->Prop:=fun _ _=>False
 ct:St->Hp->Prop:=fun _ _=>False
noncomputable abbrev TS:=Ends->St->Hp->Prop
noncomputable def EP (X:Cx) (pins:Xq) (σ:St) (Q:VK) (u:Value) (s':Shared):Prop:=∃ v H',Inv X pins σ H' s'/\RelV v u/\Q v H'
noncomputable def TP (X:Cx) (pins:Xq) (σ:St) (Q:Bool->Hp->Prop) (b:Bool) (s':Shared):Prop:=∃ H',Inv X pins σ H' s'/\Q b H'
noncomputable def AP (X:Cx) (pins:Xq) (σ:St) (Q:List V->Hp->Prop) (us:Wk) (s':Shared):Prop:=∃ vs H',Inv X pins σ H' s'/\aQ vs us/\Q vs H'
noncomputable def SP (X:Cx) (pins:Xq) (D:Ends) (f:Flow) (s':Shared):Prop :=
 match f with
 | .next=>∃ σ' H',Inv X pins σ' H' s'/\D.nx σ' H'
 | .brk=>∃ σ' H',Inv X pins σ' H' s'/\D.bk σ' H'
 | .cont=>∃ σ' H',Inv X pins σ' H' s'/\D.ct σ' H'
 | .ret u=>∃ v σ' H',Inv X pins σ' H' s'/\RelV v u/\D.rt v H'
noncomputable def PE (X:Cx) (e:Expr) (t:TE):Prop :=
 ∀ (pins:Xq) (s:Shared) (σ:St) (H:Hp) (Q:VK),Inv X pins σ H s->t σ H Q->wpAny (model X.prog X.w) X.A (eval e X.env) (EP X pins σ Q) X.xe s
noncomputable def PT (X:Cx) (e:Expr) (t:TT):Prop :=
 ∀ (pins:Xq) (s:Shared) (σ:St) (H:Hp) (Q:Bool->Hp->Prop),Inv X pins σ H s->t σ H Q->wpAny (model X.prog X.w) X.A (isTrue e X.env (eval e X.env)) (TP X pins σ Q) X.xe s
noncomputable def PW (X:Cx) (e:Expr) (t:TT):Prop :=
 ∀ (whole:Sem Value) (pins:Xq) (s:Shared) (σ:St) (H:Hp) (Q:Bool->Hp->Prop),Inv X pins σ H s->t σ H Q->wpAny (model X.prog X.w) X.A (isTrue e X.env whole) (TP X pins σ Q) X.xe s
theorem PW.pt {X:Cx} {e:Expr} {t:TT} (h:PW X e t):PT X e t:=h _
noncomputable def PA (X:Cx) (es:List Expr) (t:TA):Prop :=
 ∀ (pos:Pos) (pins:Xq) (s:Shared) (σ:St) (H:Hp) (Q:List V->Hp->Prop),Inv X pins σ H s->t σ H Q->wpAny (model X.prog X.w) X.A (spliced (backTo pos (starEach es X.env))) (AP X pins σ Q) X.xe s
noncomputable def PS (X:Cx) (st:Stmt) (t:TS):Prop :=
 ∀ (pins:Xq) (s:Shared) (σ:St) (H:Hp) (D:Ends),Inv X pins σ H s->t D σ H->wpAny (model X.prog X.w) X.A (exec st X.env) (SP X pins D) X.xe s
noncomputable def PSs (X:Cx) (st:List Stmt) (t:TS):Prop :=
 ∀ (pins:Xq) (s:Shared) (σ:St) (H:Hp) (D:Ends),Inv X pins σ H s->t D σ H->wpAny (model X.prog X.w) X.A (execs st X.env) (SP X pins D) X.xe s
theorem thn {α:Type} {t:Sem α} {Q Q':α->Shared->Prop} {M:Model} {A:Around} {E:Y7} {s:Shared} (h:wpAny M A t Q E s) (hQ:∀ a s,Q a s->Q' a s):wpAny M A t Q' E s:=YE h hQ fun _ _ x=>x
section
variable {X:Cx}
noncomputable def CV (i:Nat):TE:=fun σ H Q=>∃ v,σ[i]?=some (some v)/\Q v H
noncomputable def tC (v:V):TE:=fun _ H Q=>Q v H
theorem gr {i:Nat} {x:Str} {pos:Pos} (hN:X.N[i]?=some x) (hv:Vis X.env.scope x) (hd:(x == ("__debug__" : Str))=false:=by decide) (hcd:(x == ("__classdict__" : Str))=false:=by decide):PE X (.Name x pos) (CV i):=by
 intro pins s σ H Q I h
 obtain ⟨v,e,h⟩:=h
 obtain ⟨m,hn,hl⟩:=I.loc
 obtain ⟨u,r,l⟩:=hl i x v hN e hv
 have fin:EP X pins σ Q u s:=⟨v,H,I,r,h⟩
 rcases l with ⟨hk,hm⟩ | ⟨hk,c,hc,hcell⟩
 ·exact wpAny_Name (wpAny_loadName_local I.ok.kind hk hn hm fin) hd
 ·rcases hk with hk | hk
  ·exact wpAny_Name (wpAny_loadName_cell I.ok.kind hk hc hcell fin) hd
  ·exact wpAny_Name (wpAny_loadName_free I.ok.kind hk hc hcell fin hcd) hd
theorem qi {i j pos}:PE X (.Constant (.int i) j pos) (tC (.int i)):=fun _ _ _ H _ I h=>wpAny_Constant_int ⟨.int i,H,I.tok _,⟨_,rfl⟩,h⟩
theorem Co {b j pos}:PE X (.Constant (.bool b) j pos) (tC (.bl b)):=fun _ _ _ H _ I h=>Constant_bool ⟨.bl b,H,I,rfl,h⟩
theorem AW {j pos}:PE X (.Constant .none j pos) (tC .non):=fun _ _ _ H _ I h=>Constant_none ⟨.non,H,I,rfl,h⟩
theorem As {x j pos}:PE X (.Constant (.str x) j pos) (tC (.str x)):=fun _ _ _ H _ I h=>Calls.Constant_str ⟨.str x,H,I.tok _,⟨_,rfl⟩,h⟩
noncomputable def Gl (X:Cx) (x:Str):Prop:=X.env.kindOf x=some .globalImplicit
theorem ky {E:Y7} {pins:Xq} {s:Shared} {σ:St} {H:Hp} {x:Str} {u:Value} {pos:Pos} {Q:Y7} (I:Inv X pins σ H s) (hg:Gl X x) (hm:X.mg x=some u) (h:Q u s)
  (hd:(x == ("__debug__" : Str))=false:=by decide):wpAny (model X.prog X.w) X.A (eval (.Name x pos) X.env) Q E s :=
 Calls.Name_function_global I.ok.kind hg (Calls.loadGlobal_global (by rw [I.ok.glob];exact I.mod.glob.keeps I.bk) hm h) hd
theorem jU {E:Y7} {pins:Xq} {s:Shared} {σ:St} {H:Hp} {x:Str} {u:Value} {pos:Pos} {Q:Y7} (I:Inv X pins σ H s) (hg:Gl X x) (hm:X.mg x=none) (hv:bootBuiltins x=some u) (h:Q u s)
  (hn:x ≠ "__name__" := by decide) (hd:(x == ("__debug__" : Str))=false:=by decide):wpAny (model X.prog X.w) X.A (eval (.Name x pos) X.env) Q E s:=by
 obtain ⟨mb,h1,h2⟩:=I.mod.blt
 exact Calls.Name_function_global I.ok.kind hg (Calls.loadGlobal_builtin (by rw [I.ok.glob];exact I.mod.glob.keeps I.bk) hm (by rw [I.ok.blt];exact h1.keeps I.bk) ((h2 x hn).trans hv) h) hd
theorem xS {x:Str} {v:V} {u:Value} {pos:Pos} (hg:Gl X x) (hm:X.mg x=some u) (r:RelV v u) (hd:(x == ("__debug__" : Str))=false:=by decide):PE X (.Name x pos) (tC v) :=
 fun _ _ _ H _ I h=>ky I hg hm ⟨v,H,I,r,h⟩ hd
theorem yJ {x:Str} {v:V} {u:Value} {pos:Pos} (hg:Gl X x) (hm:X.mg x=none) (hv:bootBuiltins x=some u) (r:RelV v u) (hn:x ≠ "__name__" := by decide) (hd:(x == ("__debug__" : Str))=false:=by decide):PE X (.Name x pos) (tC v) :=
 fun _ _ _ H _ I h=>jU I hg hm hv ⟨v,H,I,r,h⟩ hn hd
variable {a b:Expr} {ta tb:TE} {pos:Pos}
noncomputable def PC (X:Cx) (op:CmpOp) (a b:Expr) (t:TE):Prop :=
 ∀ (pins:Xq) (s:Shared) (σ:St) (H:Hp) (Q:VK),Inv X pins σ H s->t σ H Q →
  wpAny (model X.prog X.w) X.A (eval a X.env) (fun v s₁=>wpAny (model X.prog X.w) X.A (eval b X.env) (fun u s₂=>wpAny (model X.prog X.w) X.A (compareOp op v u) (EP X pins σ Q) X.xe s₂) X.xe s₁) X.xe s
theorem vU (b:Expr) {op:CmpOp} (h:op ≠ .In) (h2:op ≠ .NotIn):behindInMarks op b=false:=by
 have e1:(op == CmpOp.In)=false:=by cases op <;> first | rfl | exact absurd rfl h
 have e2:(op == CmpOp.NotIn)=false:=by cases op <;> first | rfl | exact absurd rfl h2
 cases b <;> simp [behindInMarks,e1,e2]
noncomputable def Dj (ta:TE):TE:=fun σ H Q=>ta σ H fun x H1=>Q (.bl (decide (x=.non))) H1
noncomputable def B4 (ta:TE):TE:=fun σ H Q=>ta σ H fun x H1=>Q (.bl (!decide (x=.non))) H1
theorem RelV.none_iff {x:V} {v:Value} (r:RelV x v):(v == Value.none)=decide (x=.non):=by
 cases x with
 | non=>cases r;rfl
 | bl _=>cases r;rfl
 | int _=>obtain ⟨t,rfl⟩:=r;rfl
 | str _=>obtain ⟨t,rfl⟩:=r;rfl
 | byt _=>obtain ⟨t,rfl⟩:=r;rfl
 | flt _=>obtain ⟨t,rfl⟩:=r;rfl
 | ref _=>cases r;rfl
 | ty _=>cases r;rfl
theorem A9 {j pos'} (ha:PE X a ta):PC X .Is a (.Constant .none j pos') (Dj ta):=by
 intro pins s σ H Q I h
 refine thn (ha pins s σ H _ I h) fun v s1 ⟨x,H1,I1,r1,q1⟩=>?_
 exact Constant_none (is_none_gen ⟨.bl _,H1,I1,by rw [r1.none_iff];rfl,q1⟩)
theorem xy {j pos'} (ha:PE X a ta):PC X .IsNot a (.Constant .none j pos') (B4 ta):=by
 intro pins s σ H Q I h
 refine thn (ha pins s σ H _ I h) fun v s1 ⟨x,H1,I1,r1,q1⟩=>?_
 exact Constant_none (isnot_none_gen ⟨.bl _,H1,I1,by rw [r1.none_iff];rfl,q1⟩)
noncomputable def tB (t:TE):TT:=fun σ H Q=>t σ H fun x H1=>∃ c,x=.bl c/\Q c H1
theorem ve {op:CmpOp} {t:TE} (h:PC X op a b t) (h1:behindInMarks op b=false:=by first | exact vU _ (by decide) (by decide) | rfl):PT X (.Compare a [op] [b] pos) (tB t):=by
 intro pins s σ H Q I hw
 refine wpAny_isTrue_Compare1 (thn (h pins s σ H _ I hw) fun v s1 h1=>thn h1 fun u s2 h2=>thn h2 fun c s3 ⟨x,H1,I1,r1,q1⟩=>?_) h1
 obtain ⟨d,rfl,q⟩:=q1
 cases r1
 exact YY ⟨H1,I1,q⟩
variable {tA tB':TT} {rest:List Expr}
noncomputable def Df (t u:TT):TT:=fun σ H Q=>t σ H fun c H1=>if c=true then u σ H1 Q else Q false H1
noncomputable def tOr (t u:TT):TT:=fun σ H Q=>t σ H fun c H1=>if c=true then Q true H1 else u σ H1 Q
noncomputable def CT (t:TT):TT:=fun σ H Q=>t σ H fun c H1=>Q (!c) H1
theorem jl (ha:PT X a tA):PW X (.BoolOp .And [a] pos) tA:=by
 intro wh pins s σ H Q I h
 refine isTrue_and (thn (ha pins s σ H Q I h) fun c s1 e=>?_)
 cases c with
 | true=>exact isTrue_and_nil e
 | false=>exact e
theorem vy (ha:PT X a tA):PW X (.BoolOp .Or [a] pos) tA:=by
 intro wh pins s σ H Q I h
 refine isTrue_or (thn (ha pins s σ H Q I h) fun c s1 e=>?_)
 cases c with
 | false=>exact isTrue_or_nil e
 | true=>exact e
theorem zU (ha:PT X a tA) (hb:PW X (.BoolOp .And (b :: rest) pos) tB'):PW X (.BoolOp .And (a :: b :: rest) pos) (Df tA tB'):=by
 intro wh pins s σ H Q I h
 refine isTrue_and (thn (ha pins s σ H _ I h) fun c s1 ⟨H1,I1,q1⟩=>?_)
 cases c with
 | true=>exact hb wh pins s1 σ H1 Q I1 q1
 | false=>exact ⟨H1,I1,q1⟩
theorem BE (ha:PT X a tA) (hb:PW X (.BoolOp .Or (b :: rest) pos) tB'):PW X (.BoolOp .Or (a :: b :: rest) pos) (tOr tA tB'):=by
 intro wh pins s σ H Q I h
 refine isTrue_or (thn (ha pins s σ H _ I h) fun c s1 ⟨H1,I1,q1⟩=>?_)
 cases c with
 | true=>exact ⟨H1,I1,q1⟩
 | false=>exact hb wh pins s1 σ H1 Q I1 q1
theorem Bi (ha:PT X a tA):PT X (.UnaryOp .Not a pos) (CT tA):=by
 intro pins s σ H Q I h
 exact isTrue_not (ha pins s σ H (fun c H1=>Q (!c) H1) I h)
noncomputable def CA (ta tb:TE):TE:=fun σ H Q=>ta σ H fun x H1=>∃ c,x=.bl c/\if c=true then tb σ H1 Q else Q (.bl false) H1
noncomputable def BQ (ta:TE):TE:=fun σ H Q=>ta σ H fun x H1=>∃ c,x=.bl c/\Q (.bl (!c)) H1
theorem Ac {op} {t:TE} (h:PE X a t):PE X (.BoolOp op [a] pos) t:=fun pins s σ H Q I hw=>BoolOp_one (h pins s σ H Q I hw)
theorem Ap (ha:PE X a ta) (hb:PE X (.BoolOp .And (b :: rest) pos) tb):PE X (.BoolOp .And (a :: b :: rest) pos) (CA ta tb):=by
 intro pins s σ H Q I h
 refine BoolOp_and (thn (ha pins s σ H _ I h) fun v s1 ⟨x,H1,I1,r1,q1⟩=>?_)
 obtain ⟨c,rfl,q1⟩:=q1
 cases r1
 refine YY ?_
 cases c with
 | true=>exact hb pins s1 σ H1 Q I1 q1
 | false=>exact ⟨.bl false,H1,I1,rfl,q1⟩
theorem zQ (ha:PE X a ta):PE X (.UnaryOp .Not a pos) (BQ ta):=by
 intro pins s σ H Q I h
 refine UnaryOp_ (thn (ha pins s σ H _ I h) fun v s1 ⟨x,H1,I1,r1,q1⟩=>?_)
 obtain ⟨c,rfl,q1⟩:=q1
 cases r1
 exact not_of (YY ⟨.bl (!c),H1,I1,rfl,q1⟩)
end
noncomputable def SqL (K:Xd) (H:Hp) (a:Addr) (xs:List V):Prop :=
 Rd H a (.lst xs) ∨
  ∃ (o:Obj) (its:Array Value) (n:Nat),K.lookup a=some o/\o.cls=.type "list" ∧ o.dict=none/\o.data=.seq its n/\its.size<=sizeLine/\aQ xs its.toList
noncomputable def SqT (K:Xd) (H:Hp) (a:Addr) (xs:List V):Prop :=
 Rd H a (.tup xs) ∨
  ∃ (o:Obj) (its:Array Value) (n:Nat),K.lookup a=some o/\o.cls=.type "tuple" ∧ o.data=.seq its n/\its.size<=sizeLine/\aQ xs its.toList
noncomputable def C5:Value->Option V
 | .none=>some .non
 | .bool b=>some (.bl b)
 | .int i _=>some (.int i)
 | .str x _=>some (.str x)
 | .bytes b _=>some (.byt b)
 | .float b _=>some (.flt b)
 | .ref a=>some (.ref a)
 | .type n=>some (.ty n)
 | _=>none
theorem RelV.abs {x:V} {u:Value} (r:RelV x u):C5 u=some x:=by
 cases x with
 | non=>cases r;rfl
 | bl _=>cases r;rfl
 | int _=>obtain ⟨t,rfl⟩:=r;rfl
 | str _=>obtain ⟨t,rfl⟩:=r;rfl
 | byt _=>obtain ⟨t,rfl⟩:=r;rfl
 | flt _=>obtain ⟨t,rfl⟩:=r;rfl
 | ref _=>cases r;rfl
 | ty _=>cases r;rfl
theorem RelV.inj {x y:V} {u:Value} (r:RelV x u) (q:RelV y u):x=y:=Zn (r.abs.symm.trans q.abs)
theorem aQ.inj:∀ {xs ys:List V} {us:Wk},aQ xs us->aQ ys us->xs=ys
 | _,_,_,.nil,.nil=>rfl
 | _,_,_,.cons r t,.cons r' t'=>by rw [r.inj r',aQ.inj t t']
section
variable {X:Cx} {pins:Xq} {σ:St} {H:Hp} {s:Shared} {a:Addr} {xs ys:List V}
theorem SqL.of {K:Xd} (h:H a=some (.lst xs)):SqL K H a xs:=.inl (.inl h)
theorem SqT.of {K:Xd} (h:H a=some (.tup xs)):SqT K H a xs:=.inl (.inl h)
theorem Inv.list (I:Inv X pins σ H s) (h:SqL X.K H a xs):∃ its:Wk,aQ xs its/\PlainL s.heap a its.toArray/\xs.length<=sizeLine:=by
 rcases h with h | ⟨o,its,n,hk,hc,hd,hs,hz,r⟩
 ·obtain ⟨z,its,n,r,e⟩:=h.ok I.hok
  exact ⟨its,r,⟨_,n,e,rfl,rfl,rfl⟩,z⟩
 ·refine ⟨its.toList,r,⟨o,n,I.kIn a o hk,hc,hd,by simpa using hs⟩,?_⟩
  have e:=r.length
  simp only [YM] at e
  lia
theorem Inv.tuple (I:Inv X pins σ H s) (h:SqT X.K H a xs):∃ its:Wk,aQ xs its/\IsTup s.heap a its.toArray/\xs.length<=sizeLine:=by
 rcases h with h | ⟨o,its,n,hk,hc,hs,hz,r⟩
 ·obtain ⟨z,its,r,_,p⟩:=h.ok I.hok
  exact ⟨its,r,p,z⟩
 ·refine ⟨its.toList,r,⟨o,I.kIn a o hk,hc,n,by simpa using hs⟩,?_⟩
  have e:=r.length
  simp only [YM] at e
  lia
theorem Inv.list_inj (I:Inv X pins σ H s) (h:SqL X.K H a xs) (h':SqL X.K H a ys):xs=ys:=by
 obtain ⟨its,r,⟨o,n,e,_,_,d⟩,_⟩:=I.list h
 obtain ⟨its',r',⟨o',n',e',_,_,d'⟩,_⟩:=I.list h'
 rw [e] at e';cases e'
 rw [d] at d'
 injection d' with d1 _
 have:its=its':=by simpa using congrArg Array.toList d1
 subst this
 exact r.inj r'
theorem Inv.tuple_inj (I:Inv X pins σ H s) (h:SqT X.K H a xs) (h':SqT X.K H a ys):xs=ys:=by
 obtain ⟨its,r,⟨o,e,_,n,d⟩,_⟩:=I.tuple h
 obtain ⟨its',r',⟨o',e',_,n',d'⟩,_⟩:=I.tuple h'
 rw [e] at e';cases e'
 rw [d] at d'
 injection d' with d1 _
 have:its=its':=by simpa using congrArg Array.toList d1
 subst this
 exact r.inj r'
end
noncomputable abbrev Cx.wish (X:Cx) (E:Y7):Cx:={ X with xe:=E }
noncomputable abbrev Cx.nox (X:Cx):Cx:=X.wish fun _ _=>False
theorem Cx.Ok.wish {X:Cx} (ok:X.Ok) (E:Y7):(X.wish E).Ok :=
 ⟨ok.mod,ok.kind,ok.glob,ok.blt,ok.above,ok.inj,ok.has,ok.cab,ok.hd,ok.frames,ok.stk,ok.exf,ok.bs,ok.bsz,ok.noex,ok.exfs,ok.funs,ok.frf⟩
theorem Cx.Ok.unwish {X:Cx} {E:Y7} (ok:(X.wish E).Ok):X.Ok :=
 ⟨ok.mod,ok.kind,ok.glob,ok.blt,ok.above,ok.inj,ok.has,ok.cab,ok.hd,ok.frames,ok.stk,ok.exf,ok.bs,ok.bsz,ok.noex,ok.exfs,ok.funs,ok.frf⟩
section
variable {X:Cx} {pins:Xq} {σ:St} {H:Hp} {s:Shared} {E:Y7}
theorem Inv.wish (I:Inv X pins σ H s) (E:Y7):Inv (X.wish E) pins σ H s:=⟨I.ok.wish E,I.os,I.bare,I.base,I.loc,I.cell,I.free,I.freeC,I.pin,I.hok,I.len⟩
theorem Inv.unwish (I:Inv (X.wish E) pins σ H s):Inv X pins σ H s:=⟨I.ok.unwish,I.os,I.bare,I.base,I.loc,I.cell,I.free,I.freeC,I.pin,I.hok,I.len⟩
theorem SP.unwish {D:Ends} {f:Flow} {s':Shared} (h:SP (X.wish E) pins D f s'):SP X pins D f s':=by
 cases f with
 | next=>obtain ⟨σ',H',I,q⟩:=h;exact ⟨σ',H',I.unwish,q⟩
 | brk=>obtain ⟨σ',H',I,q⟩:=h;exact ⟨σ',H',I.unwish,q⟩
 | cont=>obtain ⟨σ',H',I,q⟩:=h;exact ⟨σ',H',I.unwish,q⟩
 | ret u=>obtain ⟨v,σ',H',I,r,q⟩:=h;exact ⟨v,σ',H',I.unwish,r,q⟩
theorem PSs.nox {st:List Stmt} {t:TS} (h:PSs X.nox st t):PSs X st t:=fun pins s σ H D I hw =>
 YE (h pins s σ H D (I.wish _) hw) (fun _ _ q=>q.unwish) fun _ _ z=>False.elim z
end
section
variable {X:Cx} {st:Stmt} {rest:List Stmt} {t u:TS} {e:Expr} {te:TE} {pos:Pos}
noncomputable def BV:TS:=fun D σ H=>D.nx σ H
noncomputable def De (t u:TS):TS:=fun D σ H=>t { D with nx:=u D } σ H
theorem xj:PSs X [] BV:=fun _ _ σ H _ I h=>X2 ⟨σ,H,I,h⟩
theorem um (h1:PS X st t) (h2:PSs X rest u):PSs X (st :: rest) (De t u):=by
 intro pins s σ H D I h
 refine wpAny_execs_cons (thn (h1 pins s σ H { D with nx:=u D } I h) fun f s1 q=>?_)
 cases f with
 | next =>
  obtain ⟨σ',H',I',q⟩:=q
  exact h2 pins s1 σ' H' D I' q
 | ret v=>exact q
 | brk=>exact q
 | cont=>exact q
theorem aq (h1:PS X st t):PSs X [st] t:=by
 intro pins s σ H D I h
 refine wpAny_execs_cons (thn (h1 pins s σ H D I h) fun f s1 q=>?_)
 cases f with
 | next=>exact X2 q
 | ret v=>exact q
 | brk=>exact q
 | cont=>exact q
theorem Inv.quiet {pins:Xq} {σ:St} {H:Hp} {s:Shared} (I:Inv X pins σ H s):interactive X.env=false:=by simp [interactive,I.ok.kind]
noncomputable def B0 (te:TE):TS:=fun D σ H=>te σ H fun _ H1=>D.nx σ H1
theorem jb (he:PE X e te) (hs:swapsWith e none pos.line X.env=pure false:=by rfl):PS X (.Expr e pos) (B0 te):=by
 intro pins s σ H D I h
 exact wpAny_Expr_any (thn (he pins s σ H _ I h) fun v s1 ⟨x,H1,I1,r1,q1⟩=>⟨σ,H1,I1,q1⟩) I.quiet hs
noncomputable def CZ (te:TE):TS:=fun D σ H=>te σ H D.rt
theorem nL (he:PE X e te):PS X (.Return (some e) pos) (CZ te):=by
 intro pins s σ H D I h
 exact wpAny_Return_some (thn (he pins s σ H _ I h) fun v s1 ⟨x,H1,I1,r1,q1⟩=>⟨x,σ,H1,I1,r1,q1⟩)
noncomputable def C4 (c:TT) (t u:TS):TS:=fun D σ H=>c σ H fun b H1=>if b=true then t D σ H1 else u D σ H1
theorem Bt {c:Expr} {a b:List Stmt} {tc:TT} (hc:PT X c tc) (ha:PSs X a t) (hb:PSs X b u):PS X (.If c a b pos) (C4 tc t u):=by
 intro pins s σ H D I h
 refine wpAny_If (thn (hc pins s σ H _ I h) fun d s1 ⟨H1,I1,q1⟩=>?_)
 cases d with
 | true=>exact ha pins s1 σ H1 D I1 q1
 | false=>exact hb pins s1 σ H1 D I1 q1
end
noncomputable abbrev TG:=V->St->Hp->(St->Hp->Prop)->Prop
noncomputable abbrev TGs:=List V->St->Hp->(St->Hp->Prop)->Prop
noncomputable def PG (X:Cx) (target:Expr) (t:TG):Prop :=
 ∀ (pins:Xq) (s:Shared) (σ:St) (H:Hp) (v:V) (u:Value) (Q:St->Hp->Prop),Inv X pins σ H s->RelV v u->t v σ H Q →
  wpAny (model X.prog X.w) X.A (assign target X.env u) (fun _ s'=>∃ σ' H',Inv X pins σ' H' s'/\Q σ' H') X.xe s
noncomputable def PGs (X:Cx) (ts:List Expr) (t:TGs):Prop :=
 ∀ (pins:Xq) (s:Shared) (σ:St) (H:Hp) (vs:List V) (us:Wk) (Q:St->Hp->Prop),Inv X pins σ H s->aQ vs us->t vs σ H Q →
  wpAny (model X.prog X.w) X.A (assignInOrder ((assignEach ts X.env).map (·.2)) us) (fun _ s'=>∃ σ' H',Inv X pins σ' H' s'/\Q σ' H') X.xe s
noncomputable abbrev u5:=V->V->V->Hp->(Hp->Prop)->Prop
noncomputable def yh (X:Cx) (t:u5):Prop :=
 ∀ (pins:Xq) (s:Shared) (σ:St) (H:Hp) (o i v:V) (ov iv u:Value) (Q:Hp->Prop),Inv X pins σ H s->RelV o ov->RelV i iv->RelV v u->t o i v H Q →
  wpAny (model X.prog X.w) X.A (setItem ov iv u) (fun _ s'=>∃ H',Inv X pins σ H' s'/\Q H') X.xe s
section
variable {X:Cx} {pos:Pos}
noncomputable def yP (i:Nat):TG:=fun v σ H Q=>Q (σ.set i (some v)) H
theorem xA {i:Nat} {x:Str} (hN:X.N.Nodup) (hi:X.N[i]?=some x) (hx:Loc X.env.scope x) (hf:X.fn x=true\/X.env.scope.names.lookup x=some .local:=by first | exact .inl rfl | exact .inr rfl | assumption):PG X (.Name x pos) (yP i):=by
 intro pins s σ H v u Q I r h
 exact wpAny_assign_Name (o5 I hN hi hx r (fun s' I'=>⟨_,H,I',h⟩) hf)
noncomputable def CU:TGs:=fun vs σ H Q=>vs=[]/\Q σ H
noncomputable def BX (t:TG) (u:TGs):TGs:=fun vs σ H Q=>∃ v r,vs=v :: r/\t v σ H fun σ' H'=>u r σ' H' Q
theorem yn:PGs X [] CU:=by
 intro pins s σ H vs us Q I r h
 obtain ⟨e,h⟩:=h
 subst e
 cases r
 exact assignInOrder_nil ⟨σ,H,I,h⟩
theorem uj {e:Expr} {es:List Expr} {t:TG} {u:TGs} (h1:PG X e t) (h2:PGs X es u)
  (hs:(assignEach (e :: es) X.env).map (·.2)=assign e X.env :: (assignEach es X.env).map (·.2):=by rfl):PGs X (e :: es) (BX t u):=by
 intro pins s σ H vs us Q I r h
 obtain ⟨v,vr,e1,h⟩:=h
 subst e1
 cases r with
 | cons r rr =>
  rw [hs]
  refine assignInOrder_cons (thn (h1 pins s σ H _ _ _ I r h) fun _ s1 ⟨σ1,H1,I1,q1⟩=>?_)
  exact h2 pins s1 σ1 H1 _ _ Q I1 rr q1
noncomputable def nX (K:Xd) (n:Nat) (t:TGs):TG:=fun v σ H Q=>∃ a xs,v=.ref a/\SqT K H a xs/\xs.length=n/\t xs σ H Q
theorem AD {es:List Expr} {k:Nat} {t:TGs} {n:Nat} (hc:X.calm=true) (h:PGs X es t)
  (hn:(assignEach es X.env).length=n:=by rfl) (hst:(assignEach es X.env).findIdx? (·.1)=none:=by rfl):PG X (.Tuple es k pos) (nX X.K n t):=by
 intro pins s σ H v u Q I r hw
 obtain ⟨a,xs,e1,hq,hl,hw⟩:=hw
 subst e1
 cases r
 obtain ⟨its,rv,ht,hz⟩:=I.tuple hq
 refine assign_Tuple_tuple (I.ok.hd hc) ht (by simp [hn,← hl,rv.length]) hst fun h' hx=>?_
 have I1:Inv X pins σ H { s with heap:=h' }:=I.kept (t':=s.toks) fun b o e=>hx b o (ZS (ZQ e)) e
 exact h pins _ σ H xs _ Q I1 (by simpa using rv) hw
noncomputable def BK (to ti:TE) (t:u5):TG:=fun v σ H Q=>to σ H fun o H1=>ti σ H1 fun i H2=>t o i v H2 fun H3=>Q σ H3
theorem nM {o i:Expr} {to ti:TE} {t:u5} (ho:PE X o to) (hi:PE X i ti) (hs:yh X t)
  (ha:∀ v,assign (.Subscript o i pos) X.env v=(do
   let ov ← holding [v] (eval o X.env)
   let iv ← holding [v,ov] (eval i X.env)
   standAt pos
   holding [v,ov,iv] (setItem ov iv v)
   release [v,ov,iv] []):=by intro _;rfl):PG X (.Subscript o i pos) (BK to ti t):=by
 intro pins s σ H v u Q I r h
 rw [ha]
 refine Zp (Xi (thn (ho pins s σ H _ I h) fun ov s1 ⟨x,H1,I1,r1,q1⟩=>?_))
 refine Zp (Xi (thn (hi pins s1 σ H1 _ I1 q1) fun iv s2 ⟨y,H2,I2,r2,q2⟩=>?_))
 refine Zp (wpAny_standAt (Zp (Xi (thn (hs pins s2 σ H2 x y v ov iv u _ I2 r1 r2 r q2) fun _ s3 ⟨H3,I3,q3⟩=>?_))))
 exact wpAny_release ⟨σ,H3,I3,q3⟩
noncomputable def Ci (te:TE) (g:TG):TS:=fun D σ H=>te σ H fun x H1=>g x σ H1 D.nx
theorem nB {tg e:Expr} {te:TE} {g:TG} (he:PE X e te) (hg:PG X tg g) (hs:swapsWithSole [tg] e pos.line X.env=pure false:=by rfl) (hw:swappedStores [tg] e X.env=pure none:=by rfl)
  (h1:(assignEach [tg] X.env).map (·.2)=[assign tg X.env]:=by rfl):PS X (.Assign [tg] e pos) (Ci te g):=by
 intro pins s σ H D I h
 refine wpAny_Assign_stores (thn (he pins s σ H _ I h) fun v s1 ⟨x,H1,I1,r1,q1⟩=>?_) hs hw
 rw [h1]
 exact thn (hg pins s1 σ H1 x v _ I1 r1 q1) fun _ s2 q=>q
theorem qj {i:Nat} {x:Str} {e:Expr} {te:TE} {pos':Pos} (hN:X.N.Nodup) (hi:X.N[i]?=some x) (hx:Loc X.env.scope x) (he:PE X e te) (hs:swapsWith e (some (.Name x pos')) pos.line X.env=pure false:=by rfl) (hf:X.fn x=true\/X.env.scope.names.lookup x=some .local:=by first | exact .inl rfl | exact .inr rfl | assumption) :
  PS X (.Assign [.Name x pos'] e pos) (Ci te (yP i)):=by
 intro pins s σ H D I h
 refine wpAny_Assign_Name (thn (he pins s σ H _ I h) fun v s1 ⟨y,H1,I1,r1,q1⟩=>?_) hs
 exact o5 I1 hN hi hx r1 (fun s2 I2=>⟨_,H1,I2,q1⟩) hf
end
section
variable {X:Cx} {pos:Pos}
noncomputable def A6 (c:TT) (tb:TS):TS:=fun D σ H=>∃ W:Nat->St->Hp->Prop,(∃ m,W m σ H)/\∀ m σ H,W m σ H →
 c σ H fun b H1=>if b=true then ∃ N:St->Hp->Prop,(∀ σ' H',N σ' H'->∃ m',m' < m/\W m' σ' H')/\tb { D with nx:=N,ct:=N,bk:=D.nx } σ H1 else D.nx σ H1
theorem ug {c:Expr} {body:List Stmt} {tc:TT} {tb:TS} (hp:PassesOwn (model X.prog X.w) X.A X.env X.xe) (hc:PT X c tc) (hb:PSs X body tb):PS X (.While c body [] pos) (A6 tc tb):=by
 intro pins s σ H D I h
 obtain ⟨W,⟨m0,w0⟩,turn⟩:=h
 refine wpAny_While (codeAny_whileLoop (fun n s'=>∃ σ' H',Inv X pins σ' H' s'/\W n σ' H') ?_ m0 ⟨σ,H,I,w0⟩)
 rintro n s1 ⟨σ1,H1,I1,w1⟩
 refine YD hp (thn (hc pins s1 σ1 H1 _ I1 (turn n σ1 H1 w1)) fun b s2 ⟨H2,I2,q2⟩=>?_)
 cases b with
 | true =>
  obtain ⟨N,hN,q2⟩:=q2
  rw [Zr rfl]
  refine YD hp (thn (hb pins s2 σ1 H2 _ I2 q2) fun f s3 q3=>?_)
  cases f with
  | next =>
   obtain ⟨σ3,H3,I3,n3⟩:=q3
   obtain ⟨m',hm,w3⟩:=hN σ3 H3 n3
   exact ⟨m',hm,σ3,H3,I3,w3⟩
  | cont =>
   obtain ⟨σ3,H3,I3,n3⟩:=q3
   obtain ⟨m',hm,w3⟩:=hN σ3 H3 n3
   exact ⟨m',hm,σ3,H3,I3,w3⟩
  | brk=>exact q3
  | ret v=>exact q3
 | false =>
  rw [Zo Za]
  exact X2 ⟨σ1,H2,I2,q2⟩
end
structure It where
 go:Nat->Hp->Prop
 yld:Nat->Hp->V->Hp->Prop
 stop:Nat->Hp->Prop
noncomputable def lZ (X:Cx) (pins:Xq) (H:Hp) (b:Addr):Prop :=
 H b=none/\b ≠ X.env.locals/\b ∉ X.fs/\(b∈X.ex\/X.s₀.heap.objs.size<=b)/\(∀ x c,X.env.cells.lookup x=some c->c ≠ b)/\∀ p∈X.pn++pins,p.1 ≠ b
theorem Inv.fpOk {X:Cx} {pins:Xq} {σ:St} {H H':Hp} {s:Shared} {b:Addr} (I:Inv X pins σ H s) (hb:s.heap.objs.size<=b) (hn:H' b=none):lZ X pins H' b:=by
 refine ⟨hn,Nat.ne_of_gt (ZM I.lt hb),I.nofs hb,.inr (ZW I.sz hb),fun x c e z=>?_,fun p hp z=>?_⟩
 ·obtain ⟨v,q⟩:=I.cell x c e
  exact absurd (ZM q.lt (by rw [z];exact hb)) (Yn _)
 ·exact absurd (ZM (ZQ (I.pin p hp).1) (by rw [z];exact hb)) (Yn _)
structure Turn (P:Program) (w:World) (K:Xd) (tg:Expr) (J:It) (fp:Wm) (it:Addr) (tn:Nat->Heap->Prop):Prop where
 mem:it∈fp
 obj:∀ i h,tn i h->∀ b∈fp,∃ o,h.get? b=some o/\∀ v,o.data ≠ .cell v
 keep:∀ i h h',tn i h->(∀ b∈fp,∀ o,h.get? b=some o->h'.get? b=some o)->tn i h'
 item:∀ (X:Cx),X.prog=P->X.w=w->X.K=K->X.calm=true->∀ (i:Nat) (pins:Xq) (s:Shared) (σ:St) (H:Hp) (E:Y7),Inv X pins σ H s->(∀ b∈fp,lZ X pins H b)->tn i s.heap->J.go i H →
  wpAny (model P w) X.A (pyNext (.ref it)) (fun r s1=>∃ u,r=some u ∧
   wpAny (model P w) X.A (letOwnedTupleGo tg (.ref it) u) (fun _ s2=>∃ x H',Inv X pins σ H' s2/\RelV x u/\J.yld i H x H'/\tn (i+1) s2.heap/\∀ b∈fp,H' b=none) E s1) E s
 done:∀ (X:Cx),X.prog=P->X.w=w->X.K=K->X.calm=true->∀ (i:Nat) (pins:Xq) (s:Shared) (σ:St) (H:Hp) (E:Y7),Inv X pins σ H s->(∀ b∈fp,lZ X pins H b)->tn i s.heap->J.stop i H →
  wpAny (model P w) X.A (pyNext (.ref it)) (fun r s1=>r=none/\Inv X pins σ H s1) E s
 self:∀ (A:Around) (i:Nat) (s:Shared) (Q:Y7) (E:Y7),tn i s.heap->Q (.ref it) s->wpAny (model P w) A (pyIter (.ref it)) Q E s
noncomputable abbrev TI:=St->Hp->(It->Hp->Prop)->Prop
noncomputable def PIE (X:Cx) (pins:Xq) (σ:St) (tg:Expr) (R:It->Hp->Prop) (itv:Value) (s2:Shared):Prop :=
 ∃ (it:Addr) (fp:Wm) (tn:Nat->Heap->Prop) (J:It) (H':Hp),itv=.ref it/\Inv X pins σ H' s2/\Turn X.prog X.w X.K tg J fp it tn/\tn 0 s2.heap/\(∀ b∈fp,lZ X pins H' b)/\R J H'
noncomputable def PI (X:Cx) (tg iter:Expr) (wi:TI):Prop :=
 ∀ (pins:Xq) (s:Shared) (σ:St) (H:Hp) (R:It->Hp->Prop),Inv X pins σ H s->wi σ H R →
  wpAny (model X.prog X.w) X.A (eval iter X.env) (fun v s1=>wpAny (model X.prog X.w) X.A (pyIter v) (PIE X pins σ tg R) X.xe s1) X.xe s
theorem o6 {M:Model} {A:Around} {E:Y7} {s:Shared} {tg:Expr} {it:Addr} {u:Value} {o:Obj} {n:String} {vs:Array Value} {Q:Unit->Shared->Prop} (ho:s.heap.get? it=some o) (hc:o.cls=.type n) (hd:o.data=.fields vs)
  (hn:["enumerate", "zip", "dict_itemiterator", "dict_reverseitemiterator", "odict_iterator", "itertools.zip_longest", "itertools.pairwise"].contains n=false) (hQ:Q () s):wpAny M A (letOwnedTupleGo tg (.ref it) u) Q E s:=by
 unfold letOwnedTupleGo
 cases tg <;> first
  | exact Zb hQ
  | (cases u <;> first
    | exact Zb hQ
    | (refine Zp (wpAny_load ho ?_)
       rw [hc,hd]
       show wpAny M A (if (["enumerate", "zip", "dict_itemiterator", "dict_reverseitemiterator", "odict_iterator", "itertools.zip_longest", "itertools.pairwise"].contains n && vs[0]? == some (rawInt _))=true then _ else _) Q E s
       rw [Zo (by intro h;rw [hn,Bool.false_and] at h;cases h)]
       exact Zb hQ))
noncomputable def Itl (K:Xd) (a:Addr):It :=
 ⟨fun i H=>∃ xs x,SqL K H a xs/\xs[i]?=some x,fun i H x H'=>H'=H/\∀ xs,SqL K H a xs->xs[i]?=some x,fun i H=>∃ xs,SqL K H a xs/\xs.length<=i⟩
noncomputable def Itt (K:Xd) (a:Addr):It :=
 ⟨fun i H=>∃ xs x,SqT K H a xs/\xs[i]?=some x,fun i H x H'=>H'=H/\∀ xs,SqT K H a xs->xs[i]?=some x,fun i H=>∃ xs,SqT K H a xs/\xs.length<=i⟩
noncomputable def Itr (lo:Int) (n:Nat):It:=⟨fun i _=>i < n,fun i H x H'=>H'=H/\x=.int (lo+i),fun i _=>n<=i⟩
theorem rS {P:Program} {w:World} {K:Xd} {tg:Expr} (a it:Addr):Turn P w K tg (Itl K a) [it] it (fun i h=>h.IsListIter it a i) where
 mem:=by simp
 obj:=fun i h st b hb=>by
  have e:b=it:=by simpa using hb
  subst e
  obtain ⟨o,e,c,d⟩:=st
  exact ⟨o,e,fun v z=>by rw [d] at z;cases z⟩
 keep:=fun i h h' st k=>st.at fun o e=>k it (by simp) o e
 item:=by
  intro X hP hw hK hc i pins s σ H E I hf st hg
  subst hP hw hK
  obtain ⟨xs,x,hq,hx⟩:=hg
  obtain ⟨its,rv,p,hz⟩:=I.list hq
  obtain ⟨u,hu,ru⟩:=rv.get hx
  obtain ⟨f0,f1,f2,f3,f4,f5⟩:=hf it (by simp)
  refine wpAny_pyNext_list_item st p.isList (x:=u) (by simpa using hu) fun h' st' sb=>?_
  have I1:Inv X pins σ H { s with heap:=h' }:=I.turned (t':=s.toks) (fun b o hb e=>(sb.2 b hb).trans e) f0 f1 f3 f4 f5
  obtain ⟨o,e,c,d⟩:=id st'
  exact ⟨u,rfl,o6 (s:={ s with heap:=h' }) e c d (by decide) ⟨x,H,I1,ru,⟨rfl,fun ys hy=>by rw [I.list_inj hy hq];exact hx⟩,st',fun b hb=>(hf b hb).1⟩⟩
 done:=by
  intro X hP hw hK hc i pins s σ H E I hf st hg
  subst hP hw hK
  obtain ⟨xs,hq,hx⟩:=hg
  obtain ⟨its,rv,p,hz⟩:=I.list hq
  obtain ⟨f0,f1,f2,f3,f4,f5⟩:=hf it (by simp)
  have hl:=rv.length
  exact wpAny_pyNext_list_end (I.ok.hd hc) st p.isList (by simp;lia) fun h' eb=>⟨rfl,I.turned (t':=s.toks) (fun b o hb e=>eb b o hb e) f0 f1 f3 f4 f5⟩
 self:=fun _ _ _ _ _ st h=>wpAny_pyIter_listiter st h
theorem qg {P:Program} {w:World} {K:Xd} {tg:Expr} (a it:Addr):Turn P w K tg (Itt K a) [it] it (fun i h=>h.IsTupleIter it a i) where
 mem:=by simp
 obj:=fun i h st b hb=>by
  have e:b=it:=by simpa using hb
  subst e
  obtain ⟨o,e,c,d⟩:=st
  exact ⟨o,e,fun v z=>by rw [d] at z;cases z⟩
 keep:=fun i h h' st k=>st.at fun o e=>k it (by simp) o e
 item:=by
  intro X hP hw hK hc i pins s σ H E I hf st hg
  subst hP hw hK
  obtain ⟨xs,x,hq,hx⟩:=hg
  obtain ⟨its,rv,p,hz⟩:=I.tuple hq
  obtain ⟨u,hu,ru⟩:=rv.get hx
  obtain ⟨f0,f1,f2,f3,f4,f5⟩:=hf it (by simp)
  refine wpAny_pyNext_tuple_item st (show s.heap.IsTuple a its.toArray from p) (x:=u) (by simpa using hu) fun h' st' sb=>?_
  have I1:Inv X pins σ H { s with heap:=h' }:=I.turned (t':=s.toks) (fun b o hb e=>(sb.2 b hb).trans e) f0 f1 f3 f4 f5
  obtain ⟨o,e,c,d⟩:=id st'
  exact ⟨u,rfl,o6 (s:={ s with heap:=h' }) e c d (by decide) ⟨x,H,I1,ru,⟨rfl,fun ys hy=>by rw [I.tuple_inj hy hq];exact hx⟩,st',fun b hb=>(hf b hb).1⟩⟩
 done:=by
  intro X hP hw hK hc i pins s σ H E I hf st hg
  subst hP hw hK
  obtain ⟨xs,hq,hx⟩:=hg
  obtain ⟨its,rv,p,hz⟩:=I.tuple hq
  obtain ⟨f0,f1,f2,f3,f4,f5⟩:=hf it (by simp)
  have hl:=rv.length
  exact wpAny_pyNext_tuple_end (I.ok.hd hc) st (show s.heap.IsTuple a its.toArray from p) (by simp;lia) fun h' eb=>⟨rfl,I.turned (t':=s.toks) (fun b o hb e=>eb b o hb e) f0 f1 f3 f4 f5⟩
 self:=fun _ _ _ _ _ st h=>wpAny_pyIter_tupleiter st h
theorem pJ {P:Program} {w:World} {K:Xd} {tg:Expr} (it:Addr) (lo:Int) (n:Nat):Turn P w K tg (Itr lo n) [it] it (fun i h=>IsRangeIter h it (lo+(i:Nat) * 1) ((n:Int) - (i:Nat)) 1) where
 mem:=by simp
 obj:=fun i h st b hb=>by
  have e:b=it:=by simpa using hb
  subst e
  exact ⟨_,st,fun v z=>by
   have z':Data.fields _=Data.cell v:=z
   cases z'⟩
 keep:=fun i h h' st k=>k it (by simp) _ st
 item:=by
  intro X hP hw hK hc i pins s σ H E I hf st hg
  subst hP hw hK
  obtain ⟨f0,f1,f2,f3,f4,f5⟩:=hf it (by simp)
  have W:=Walks.range (prog:=X.prog) (w:=X.w) (I.ok.hd hc) it lo 1 n
  refine W.item i s _ _ hg st fun v h' tk hv st' kk=>?_
  obtain ⟨t,rfl⟩:=hv
  have I1:Inv X pins σ H { s with heap:=h',toks:=tk }:=I.turned (fun b o hb e=>kk b o (by simpa using hb) e) f0 f1 f3 f4 f5
  refine ⟨_,rfl,o6 (s:={ s with heap:=h',toks:=tk }) (n := "range_iterator") st' rfl rfl (by decide) ⟨.int (lo+i),H,I1,⟨t,?_⟩,⟨rfl,rfl⟩,st',fun b hb=>(hf b hb).1⟩⟩
  rw [Int.mul_one]
 done:=by
  intro X hP hw hK hc i pins s σ H E I hf st hg
  subst hP hw hK
  obtain ⟨f0,f1,f2,f3,f4,f5⟩:=hf it (by simp)
  exact wpAny_pyNext_range_end (I.ok.hd hc) st (by have:n<=i:=hg;lia) fun h' eb=>⟨rfl,I.turned (t':=s.toks) (fun b o hb e=>eb b o hb e) f0 f1 f3 f4 f5⟩
 self:=fun _ _ _ _ _ st h=>wpAny_pyIter_rangeiter st h
section
variable {X:Cx} {tg:Expr}
theorem nV {pins:Xq} {σ:St} {H:Hp} {s:Shared} {R:It->Hp->Prop} {E:Y7} {lo hi:Int} {t u v:Tok} {tk:Nat} (I:Inv X pins σ H s) (h1:-(2 ^ 62)<=lo) (h2:lo < 2 ^ 62) (h3:-(2 ^ 62)<=hi) (h4:hi < 2 ^ 62)
  (q:R (Itr lo (hi - lo).toNat) H):wpAny (model X.prog X.w) X.A (pyIter (.ref s.heap.objs.size)) (PIE X pins σ tg R) E { s with heap:=s.heap.push { cls:=.type "range",data:=.fields #[.int lo t,.int hi u,.int 1 v] },toks:=tk }:=by
 refine wpAny_pyIter_range (IsRange.new ..) (small_one h1 h2 h3 h4) ?_
 have I1:Inv X pins σ H { s with heap:=s.heap.push { cls:=.type "range",data:=.fields #[.int lo t,.int hi u,.int 1 v] },toks:=tk }:=I.kept fun b o e=>Zi _ e
 refine ⟨(s.heap.push { cls:=.type "range",data:=.fields #[.int lo t,.int hi u,.int 1 v] }).objs.size,[(s.heap.push { cls:=.type "range",data:=.fields #[.int lo t,.int hi u,.int 1 v] }).objs.size],_,_,H,rfl,
  I1.kept (t':=tk) fun b o e=>Zi _ e,pJ _ lo (hi - lo).toNat,?_,fun b hb=>?_,q⟩
 ·have e1:lo+((0:Nat):Int) * 1=lo:=by simp
  have e2:(((hi - lo).toNat:Nat):Int) - ((0:Nat):Int)=Builtin.Range.rangeSize lo hi 1:=by rw [rangeSize_one];split <;> lia
  show IsRangeIter _ _ (lo+((0:Nat):Int) * 1) ((((hi - lo).toNat:Nat):Int) - ((0:Nat):Int)) 1
  rw [e1,e2]
  exact ZJ _ rfl
 ·have e:b=(s.heap.push { cls:=.type "range",data:=.fields #[.int lo t,.int hi u,.int 1 v] }).objs.size:=by simpa using hb
  subst e
  exact I1.fpOk (Zl _) (I1.hok.fresh (Zl _))
noncomputable def CM (ta:TA):TI:=fun σ H R=>ta σ H fun vs H1=>∃ j:Int,vs=[.int j]/\-(2 ^ 62)<=j/\j < 2 ^ 62/\R (Itr 0 j.toNat) H1
noncomputable def Br (ta:TA):TI:=fun σ H R=>ta σ H fun vs H1=>∃ i j:Int,vs=[.int i,.int j]/\(-(2 ^ 62)<=i/\i < 2 ^ 62/\-(2 ^ 62)<=j/\j < 2 ^ 62)/\R (Itr i (j - i).toNat) H1
theorem rW {a:Expr} {ta:TA} {p pos:Pos} (hg:Gl X "range") (hm:X.mg "range" = none) (ha:PA X [a] ta) (hs:starEach [a] X.env=[(false,eval a X.env)]:=by rfl):PI X tg (.Call (.Name "range" p) [a] [] pos) (CM ta):=by
 intro pins s σ H R I h
 refine Call_ (jU I hg hm boot_range (YF (thn (ha pos pins s σ H _ I h) fun us s1 ⟨vs,H1,I1,r1,q1⟩=>?_) hs rfl))
 obtain ⟨j,e,q1,q2,q⟩:=q1
 subst e
 cases r1 with
 | cons r rr =>
  cases rr
  obtain ⟨t,rfl⟩:=r
  exact call_range_1 (nV I1 (by lia) (by lia) q1 q2 (by simpa using q))
theorem sZ {a b:Expr} {ta:TA} {p pos:Pos} (hg:Gl X "range") (hm:X.mg "range" = none) (ha:PA X [a,b] ta) (hs:starEach [a,b] X.env=[(false,eval a X.env),(false,eval b X.env)]:=by rfl) (hs2:starEach [b] X.env=[(false,eval b X.env)]:=by rfl) :
  PI X tg (.Call (.Name "range" p) [a,b] [] pos) (Br ta):=by
 intro pins s σ H R I h
 refine Call_ (jU I hg hm boot_range (YF (thn (ha pos pins s σ H _ I h) fun us s1 ⟨vs,H1,I1,r1,q1⟩=>?_) (by rw [hs,hs2]) (by rw [hs2];rfl)))
 obtain ⟨i,j,e,⟨q1,q2,q3,q4⟩,q⟩:=q1
 subst e
 cases r1 with
 | cons r rr =>
  cases rr with
  | cons r' rr =>
   cases rr
   obtain ⟨t,rfl⟩:=r
   obtain ⟨t',rfl⟩:=r'
   exact call_range_2 (nV I1 q1 q2 q3 q4 q)
noncomputable def BS (wi:TI) (g:TG) (tb:TS):TS:=fun D σ H=>wi σ H fun J H1=>∃ W:Nat->Nat->St->Hp->Prop,(∃ m,W 0 m σ H1)/\∀ i m σ H,W i m σ H →
 (J.stop i H/\D.nx σ H)\/(J.go i H/\∃ N:St->Hp->Prop,(∀ σ' H',N σ' H'->∃ m',m' < m/\W (i+1) m' σ' H')/\∀ x H',J.yld i H x H'->g x σ H' fun σ2 H2=>tb { D with nx:=N,ct:=N,bk:=D.nx } σ2 H2)
noncomputable def kY (fp:Wm) (h:Heap):Xq:=fp.filterMap fun b=>(h.get? b).map fun o=>(b,o)
theorem gM {fp:Wm} {h:Heap} {b:Addr} {o:Obj} (hb:b∈fp) (e:h.get? b=some o):(b,o)∈kY fp h:=List.mem_filterMap.mpr ⟨b,hb,by rw [e];rfl⟩
theorem rV {fp:Wm} {h:Heap} {p:Addr×Obj} (hp:p∈kY fp h):p.1∈fp/\h.get? p.1=some p.2:=by
 obtain ⟨b,hb,e⟩:=List.mem_filterMap.mp hp
 cases q:h.get? b with
 | none=>rw [q] at e;cases e
 | some o =>
  rw [q] at e
  have e':(b,o)=p:=Zn e
  subst e'
  exact ⟨hb,q⟩
theorem Inv.pinned {pins:Xq} {σ:St} {H:Hp} {s:Shared} {fp:Wm} (I:Inv X pins σ H s) (hf:∀ b∈fp,lZ X pins H b) (ho:∀ b∈fp,∃ o,s.heap.get? b=some o/\∀ v,o.data ≠ .cell v):Inv X (pins++kY fp s.heap) σ H s :=
 I.pins_of fun p hp=>(Zc.mp hp).elim (fun z=>I.pin p (ZX _ z)) fun z=>by
  obtain ⟨hb,e⟩:=rV z
  obtain ⟨f0,f1,f2,_⟩:=hf p.1 hb
  obtain ⟨o,e',d⟩:=ho p.1 hb
  rw [e] at e';cases e'
  exact ⟨e,f0,f1,f2,d⟩
theorem Inv.unpinned {pins pl:Xq} {σ:St} {H:Hp} {s:Shared} (I:Inv X (pins++pl) σ H s):Inv X pins σ H s:=I.pins_of fun p hp=>I.pin p (ZX _ (Z7 _ hp))
theorem A7 {iter:Expr} {body:List Stmt} {wi:TI} {g:TG} {tb:TS} {pos:Pos} (hp:PassesOwn (model X.prog X.w) X.A X.env X.xe) (hc:X.calm=true) (hi:PI X tg iter wi) (hg:PG X tg g) (hb:PSs X body tb)
  (hs:∀ x,foldedSetIterable iter X.env x=pure x:=by intro _;rfl):PS X (.For tg iter body [] pos) (BS wi g tb):=by
 intro pins s σ H D I h
 refine wpAny_For (thn (hi pins s σ H _ I h) fun v s1 h1=>thn h1 fun itv s2 h2=>?_) hs
 obtain ⟨it,fp,tn,J,H2,e,I2,T,st2,f2,W,⟨m0,w0⟩,turn⟩:=h2
 subst e
 have stat:∀ {H':Hp},(∀ b∈fp,H' b=none)->∀ b∈fp,lZ X pins H' b:=fun hn b hb=>⟨hn b hb,(f2 b hb).2⟩
 refine codeAny_forLoop_any (fun n s'=>∃ i σ' H',Inv X pins σ' H' s'/\tn i s'.heap/\(∀ b∈fp,H' b=none)/\W i n σ' H') ?_ m0 ⟨0,σ,H2,I2,st2,fun b hb=>(f2 b hb).1,w0⟩
 rintro n s3 ⟨i,σ3,H3,I3,st3,fr3,w3⟩
 rcases turn i n σ3 H3 w3 with ⟨stop,qn⟩ | ⟨go,N,hN,step⟩
 ·refine YD hp (thn (T.done X rfl rfl rfl hc i pins s3 σ3 H3 X.xe I3 (stat fr3) st3 stop) fun r s4 ⟨hr,I4⟩=>?_)
  subst hr
  exact X2 ⟨σ3,H3,I4,qn⟩
 ·refine YD hp (thn (T.item X rfl rfl rfl hc i pins s3 σ3 H3 X.xe I3 (stat fr3) st3 go) fun r s4 ⟨u,hr,h4⟩=>?_)
  subst hr
  refine YD hp (thn h4 fun _ s5 ⟨x,H5,I5,r5,y5,st5,fr5⟩=>?_)
  have I5':=I5.pinned (stat fr5) (T.obj _ _ st5)
  refine YD hp (thn (hg _ s5 σ3 H5 x u _ I5' r5 (step x H5 y5)) fun _ s6 ⟨σ6,H6,I6,q6⟩=>?_)
  refine YD hp (thn (hb _ s6 σ6 H6 _ I6 q6) fun f s7 q7=>?_)
  have again:∀ {σ7:St} {H7:Hp},Inv X (pins++kY fp s5.heap) σ7 H7 s7->N σ7 H7->∃ m,m < n/\∃ i σ' H',Inv X pins σ' H' s7/\tn i s7.heap/\(∀ b∈fp,H' b=none)/\W i m σ' H':=fun {σ7 H7} I7 n7=>by
   obtain ⟨m',hm,w7⟩:=hN σ7 H7 n7
   refine ⟨m',hm,i+1,σ7,H7,I7.unpinned,T.keep _ _ _ st5 fun b hb o e=>(I7.pin (b,o) (ZX _ (ZX _ (gM hb e)))).1,fun b hb=>?_,w7⟩
   obtain ⟨o,e,d⟩:=T.obj _ _ st5 b hb
   exact (I7.pin (b,o) (ZX _ (ZX _ (gM hb e)))).2.1
  cases f with
  | next=>obtain ⟨σ7,H7,I7,n7⟩:=q7;exact again I7 n7
  | cont=>obtain ⟨σ7,H7,I7,n7⟩:=q7;exact again I7 n7
  | brk=>obtain ⟨σ7,H7,I7,q7⟩:=q7;exact ⟨σ7,H7,I7.unpinned,q7⟩
  | ret v=>obtain ⟨x7,σ7,H7,I7,r7,q7⟩:=q7;exact ⟨x7,σ7,H7,I7.unpinned,r7,q7⟩
end
noncomputable abbrev R2:=V->V->Hp->VK->Prop
noncomputable def OpR (X:Cx) (f:Value->Value->Sem Value) (r:R2):Prop :=
 ∀ (pins:Xq) (s:Shared) (σ:St) (H:Hp) (x y:V) (v u:Value) (Q:VK),Inv X pins σ H s->RelV x v->RelV y u->r x y H Q →
  wpAny (model X.prog X.w) X.A (f v u) (EP X pins σ Q) X.xe s
noncomputable def dP (X:Cx) (f:Value) (r:List V->Hp->VK->Prop):Prop :=
 ∀ (pins:Xq) (s:Shared) (σ:St) (H:Hp) (xs:List V) (us:Wk) (Q:VK),Inv X pins σ H s->aQ xs us->r xs H Q →
  wpAny (model X.prog X.w) X.A (call f us) (EP X pins σ Q) X.xe s
noncomputable def Dn (X:Cx) (r:V->Hp->(Bool->Hp->Prop)->Prop):Prop :=
 ∀ (pins:Xq) (s:Shared) (σ:St) (H:Hp) (x:V) (v:Value) (Q:Bool->Hp->Prop),Inv X pins σ H s->RelV x v->r x H Q →
  wpAny (model X.prog X.w) X.A (truthy v) (TP X pins σ Q) X.xe s
noncomputable def tOp (r:R2) (ta tb:TE):TE:=fun σ H Q=>ta σ H fun x H1=>tb σ H1 fun y H2=>r x y H2 Q
noncomputable def rI (C:Int->Int->Prop) (g:Int->Int->V):R2:=fun x y H Q=>∃ i j,x=.int i/\y=.int j/\C i j/\Q (g i j) H
noncomputable def rI0 (g:Int->Int->V):R2:=fun x y H Q=>∃ i j,x=.int i/\y=.int j/\Q (g i j) H
section
variable {X:Cx} {a b c:Expr} {ta tb tc:TE} {pos:Pos}
theorem AJ (ha:PE X a ta) (hb:PE X b tb) {pins:Xq} {s:Shared} {σ:St} {H:Hp} {R:V->V->Hp->Prop} (I:Inv X pins σ H s)
  (h:ta σ H fun x H1=>tb σ H1 fun y H2=>R x y H2) {Q:Y7} {f:Value->Value->Sem Value}
  (hf:∀ v u s2 x y H2,Inv X pins σ H2 s2->RelV x v->RelV y u->R x y H2->wpAny (model X.prog X.w) X.A (f v u) Q X.xe s2) :
  wpAny (model X.prog X.w) X.A (eval a X.env) (fun v s₁=>wpAny (model X.prog X.w) X.A (eval b X.env) (fun u s₂=>wpAny (model X.prog X.w) X.A (f v u) Q X.xe s₂) X.xe s₁) X.xe s:=by
 refine thn (ha pins s σ H _ I h) fun v s1 ⟨x,H1,I1,r1,q1⟩=>?_
 refine thn (hb pins s1 σ H1 _ I1 q1) fun u s2 ⟨y,H2,I2,r2,q2⟩=>?_
 exact hf v u s2 x y H2 I2 r1 r2 q2
theorem Bv {op:Operator} {r:R2} (ho:OpR X (binaryOp op) r) (ha:PE X a ta) (hb:PE X b tb):PE X (.BinOp a op b pos) (tOp r ta tb):=by
 intro pins s σ H Q I h
 exact wpAny_BinOp (AJ ha hb I h fun v u s2 x y H2 I2 rx ry q=>ho pins s2 σ H2 x y v u Q I2 rx ry q)
theorem opI {f:Value->Value->Sem Value} {C:Int->Int->Prop} {g:Int->Int->Int}
  (rule:∀ (i j:Int) (t u:Tok) (s:Shared) (Q:Y7) (E:Y7),C i j->Q (.int (g i j) s.toks) { s with toks:=s.toks+1 }->wpAny (model X.prog X.w) X.A (f (.int i t) (.int j u)) Q E s) :
  OpR X f (rI C fun i j=>.int (g i j)):=by
 intro pins s σ H x y v u Q I rx ry h
 obtain ⟨i,j,rfl,rfl,hc,q⟩:=h
 obtain ⟨t,rfl⟩:=rx
 obtain ⟨t',rfl⟩:=ry
 exact rule i j t t' s _ _ hc ⟨.int (g i j),H,I.tok _,⟨_,rfl⟩,q⟩
theorem CC {f:Value->Value->Sem Value} {g:Int->Int->Int}
  (rule:∀ (i j:Int) (t u:Tok) (s:Shared) (Q:Y7) (E:Y7),Q (.int (g i j) s.toks) { s with toks:=s.toks+1 }->wpAny (model X.prog X.w) X.A (f (.int i t) (.int j u)) Q E s) :
  OpR X f (rI0 fun i j=>.int (g i j)):=by
 intro pins s σ H x y v u Q I rx ry h
 obtain ⟨i,j,rfl,rfl,q⟩:=h
 obtain ⟨t,rfl⟩:=rx
 obtain ⟨t',rfl⟩:=ry
 exact rule i j t t' s _ _ ⟨.int (g i j),H,I.tok _,⟨_,rfl⟩,q⟩
theorem yi {f:Value->Value->Sem Value} {g:Int->Int->Bool}
  (rule:∀ (i j:Int) (t u:Tok) (s:Shared) (Q:Y7) (E:Y7),Q (.bool (g i j)) s->wpAny (model X.prog X.w) X.A (f (.int i t) (.int j u)) Q E s) :
  OpR X f (rI0 fun i j=>.bl (g i j)):=by
 intro pins s σ H x y v u Q I rx ry h
 obtain ⟨i,j,rfl,rfl,q⟩:=h
 obtain ⟨t,rfl⟩:=rx
 obtain ⟨t',rfl⟩:=ry
 exact rule i j t t' s _ _ ⟨.bl (g i j),H,I,rfl,q⟩
noncomputable def CO (i j:Int):Prop:=0 < j/\j < 1073741824
noncomputable def xZ (i j:Int):Prop:=(-(2 ^ 64) < i/\i < 2 ^ 64)\/(-(2 ^ 64) < j/\j < 2 ^ 64)
theorem xZ.ok {i j:Int} (h:xZ i j):IntMulOk i j:=by
 rcases h with ⟨h1,h2⟩ | ⟨h1,h2⟩
 ·exact .of_left (intBits_le_64 h1 h2)
 ·exact .of_right (intBits_le_64 h1 h2)
theorem Ao:OpR X (binaryOp .Add) (rI0 fun i j=>.int (i+j)):=CC fun _ _ _ _ _ _ _ q=>add_int q
theorem Aj:OpR X (binaryOp .Sub) (rI0 fun i j=>.int (i - j)):=CC fun _ _ _ _ _ _ _ q=>sub_int q
theorem Be:OpR X (binaryOp .Mult) (rI xZ fun i j=>.int (i * j)):=opI fun _ _ _ _ _ _ _ hc q=>mul_int q hc.ok
theorem yH:OpR X (binaryOp .FloorDiv) (rI CO fun i j=>.int (i / j)):=opI fun i j _ _ _ _ _ hc q=>by
 have h1:(0:Int) < j:=hc.1
 have h2:j < 1073741824:=hc.2
 exact floordiv_int (by lia) (by rw [Int.fdiv_eq_ediv_of_nonneg i (by lia)];exact q) (.inl (PyProof.noPylong_small (by omega)))
theorem AS:OpR X (binaryOp .Mod) (rI (fun _ j=>0 < j) fun i j=>.int (i % j)):=opI fun i j _ _ _ _ _ hc q=>by
 have h1:(0:Int) < j:=hc
 exact mod_int' (by lia) (by rw [Int.fmod_eq_emod_of_nonneg i (by lia)];exact q)
end
section
variable {X:Cx} {a b c:Expr} {ta tb tc:TE} {pos:Pos}
theorem AY {pins:Xq} {σ:St} {H:Hp} {s:Shared} {Q:VK} {k k':Bool} (I:Inv X pins σ H s) (q:Q (.bl k) H) (e:k=k'):EP X pins σ Q (.bool k') s:=by
 subst e
 exact ⟨.bl k,H,I,rfl,q⟩
theorem Cf:OpR X (compareOp .Lt) (rI0 fun i j=>.bl (decide (i < j))):=yi fun _ _ _ _ _ _ _ q=>lt_int q
theorem BD:OpR X (compareOp .LtE) (rI0 fun i j=>.bl (decide (i<=j))):=yi fun _ _ _ _ _ _ _ q=>le_int q
theorem BI:OpR X (compareOp .Gt) (rI0 fun i j=>.bl (decide (j < i))):=yi fun _ _ _ _ _ _ _ q=>gt_int q
theorem Bw:OpR X (compareOp .GtE) (rI0 fun i j=>.bl (decide (j<=i))):=yi fun _ _ _ _ _ _ _ q=>ge_int q
theorem tq:OpR X (compareOp .Lt) (fun x y H Q=>∃ i j,x=.str i/\y=.str j/\Q (.bl (decide (i.cps.toList < j.cps.toList))) H):=by
 intro pins s σ H x y v u Q I rx ry h
 obtain ⟨i,j,rfl,rfl,q⟩:=h
 obtain ⟨t,rfl⟩:=rx
 obtain ⟨t',rfl⟩:=ry
 exact lt_str (AY I q rfl)
theorem OpR.or {f:Value->Value->Sem Value} {r r':R2} (h:OpR X f r) (h':OpR X f r'):OpR X f (fun x y H Q=>r x y H Q\/r' x y H Q):=by
 intro pins s σ H x y v u Q I rx ry q
 rcases q with q | q
 ·exact h pins s σ H x y v u Q I rx ry q
 ·exact h' pins s σ H x y v u Q I rx ry q
theorem fN (b:Expr) {op:CmpOp} (h:op ≠ .In:=by decide) (h2:op ≠ .NotIn:=by decide):behindInMarks op b=false:=by
 have e1:(op == CmpOp.In)=false:=by cases op <;> first | rfl | exact absurd rfl h
 have e2:(op == CmpOp.NotIn)=false:=by cases op <;> first | rfl | exact absurd rfl h2
 cases b <;> simp [behindInMarks,e1,e2]
theorem wG {op:CmpOp} {r:R2} (ho:OpR X (compareOp op) r) (ha:PE X a ta) (hb:PE X b tb) (hm:behindInMarks op b=false):PE X (.Compare a [op] [b] pos) (tOp r ta tb):=by
 intro pins s σ H Q I h
 exact wpAny_Compare1 (AJ ha hb I h fun v u s2 x y H2 I2 rx ry q=>ho pins s2 σ H2 x y v u Q I2 rx ry q) hm
noncomputable def vY (t:TE):TT:=fun σ H Q=>t σ H fun x H'=>∃ k,x=.bl k/\Q k H'
theorem xC {op:CmpOp} {r:R2} (ho:OpR X (compareOp op) r) (ha:PE X a ta) (hb:PE X b tb) (hm:behindInMarks op b=false):PT X (.Compare a [op] [b] pos) (vY (tOp r ta tb)):=by
 intro pins s σ H Q I h
 refine wpAny_isTrue_Compare1 (thn (ha pins s σ H _ I h) fun v s1 ⟨x,H1,I1,r1,q1⟩=>thn (hb pins s1 σ H1 _ I1 q1) fun u s2 ⟨y,H2,I2,r2,q2⟩ =>
  thn (ho pins s2 σ H2 x y v u _ I2 r1 r2 q2) fun c s3 ⟨z,H3,I3,r3,k,e,q3⟩=>?_) hm
 subst e
 cases r3
 exact YY ⟨H3,I3,q3⟩
noncomputable def vw (r r':R2) (ta tb tc:TE):TE:=fun σ H Q=>ta σ H fun x H1=>tb σ H1 fun y H2=>r x y H2 fun z H3=>∃ k,z=.bl k ∧
 (if k=true then tc σ H3 fun w' H4=>r' y w' H4 Q else Q (.bl false) H3)
theorem wb {op op':CmpOp} {r r':R2} (ho:OpR X (compareOp op) r) (ho':OpR X (compareOp op') r') (ha:PE X a ta) (hb:PE X b tb) (hc:PE X c tc)
  (hm:lastMarks [op,op'] [b,c]=false:=by with_unfolding_all rfl):PT X (.Compare a [op,op'] [b,c] pos) (vY (vw r r' ta tb tc)):=by
 intro pins s σ H Q I h
 refine isTrue_chain (thn (ha pins s σ H _ I h) fun v s1 ⟨x,H1,I1,r1,q1⟩=>test_link (thn (hb pins s1 σ H1 _ I1 q1) fun u s2 ⟨y,H2,I2,r2,q2⟩ =>
  thn (ho pins s2 σ H2 x y v u _ I2 r1 r2 q2) fun d s3 ⟨z,H3,I3,r3,k,e,q3⟩=>?_)) hm
 subst e
 cases r3
 refine YY ?_
 cases k with
 | false =>
  obtain ⟨k',e',q'⟩:=q3
  cases e'
  exact ite_ff ⟨H3,I3,q'⟩
 | true =>
  refine ite_tt (test_last (thn (hc pins s3 σ H3 _ I3 q3) fun w' s4 ⟨z',H4,I4,r4,q4⟩=>thn (ho' pins s4 σ H4 y z' u w' _ I4 r2 r4 q4) fun d' s5 ⟨z2,H5,I5,r5,k2,e2,q5⟩=>?_))
  subst e2
  cases r5
  exact YY ⟨H5,I5,q5⟩
noncomputable def zR (K:Xd) (x:V) (H:Hp) (k:Bool):Prop :=
 match x with
 | .non=>k=false
 | .bl b=>k=b
 | .int i=>k=(i != 0)
 | .str y=>y.length<=sizeLine/\k=((y.length:Int) != 0)
 | .byt y=>y.size<=sizeLine/\k=((y.size:Int) != 0)
 | .ref p=>(∃ xs,SqL K H p xs/\k=!xs.isEmpty)\/(∃ xs,SqT K H p xs/\k=!xs.isEmpty)\/∃ kvs,H p=some (.dK kvs)/\k=!kvs.isEmpty
 | _=>False
theorem qk {κ:Type} {kvs:List (κ×V)} {vs:List (κ×Value)} (r:KV kvs vs):(!vs.isEmpty)=!kvs.isEmpty:=by
 cases r <;> rfl
theorem kH {xs:List V} {its:Wk} (r:aQ xs its):(!its.toArray.isEmpty)=!xs.isEmpty:=by
 cases r <;> simp
theorem jQ:(sizeLine:Nat) < 2 ^ 63:=by rw [Xu];decide
theorem zN:Dn X (fun x H Q=>∃ k,zR X.K x H k/\Q k H):=by
 intro pins s σ H x v Q I rx h
 obtain ⟨k,e,q⟩:=h
 have hl:=jQ
 have hs:sizeLine=16777216:=Xu
 cases x with
 | non =>
  cases rx
  have e':k=false:=e
  subst e'
  exact truthy_none ⟨H,I,q⟩
 | bl b =>
  cases rx
  have e':k=b:=e
  subst e'
  exact YY ⟨H,I,q⟩
 | int i =>
  obtain ⟨t,rfl⟩:=rx
  have e':k=(i != 0):=e
  subst e'
  exact PySem.P.truthy_int ⟨H,I,q⟩
 | str y =>
  obtain ⟨t,rfl⟩:=rx
  obtain ⟨hy,e'⟩:y.length<=sizeLine/\k=((y.length:Int) != 0):=e
  subst e'
  exact PySem.P.truthy_str (by lia) ⟨H,I.tok _,q⟩
 | byt y =>
  obtain ⟨t,rfl⟩:=rx
  obtain ⟨hy,e'⟩:y.size<=sizeLine/\k=((y.size:Int) != 0):=e
  subst e'
  exact PySem.W.truthy_bytes (by lia) ⟨H,I.tok _,q⟩
 | ref p =>
  cases rx
  have e':(∃ xs,SqL X.K H p xs/\k=!xs.isEmpty)\/(∃ xs,SqT X.K H p xs/\k=!xs.isEmpty)\/∃ kvs,H p=some (.dK kvs)/\k=!kvs.isEmpty:=e
  rcases e' with ⟨xs,hx,e'⟩ | ⟨xs,hx,e'⟩ | ⟨kvs,hx,e'⟩
  ·subst e'
   obtain ⟨its,r,pl,hz⟩:=I.list hx
   have hlen:=r.length
   exact wpAny_truthy_list pl.isList (by simp only [ZV];lia) ⟨H,I.tok _,by rw [kH r];exact q⟩
  ·subst e'
   obtain ⟨its,r,pl,hz⟩:=I.tuple hx
   have hlen:=r.length
   exact truthy_tuple pl (by simp only [ZV];lia) ⟨H,I.tok _,by rw [kH r];exact q⟩
  ·subst e'
   obtain ⟨hz,hS,vs,r,m⟩:kvs.length<=sizeLine/\(p == sysModules)=false/\∃ vs,KV kvs vs/\s.heap.DictOf (ba X.prog X.w) p vs:=I.hok p _ hx
   have hlen:kvs.length=vs.length:=YA r
   exact wpAny_truthy_dict hS m (by lia) ⟨H,I.tok _,by rw [qk r];exact q⟩
 | _=>exact (show False from e).elim
theorem vg (ha:PE X a ta) (he:∀ whole,isTrue a X.env whole=(do let v ← whole;standAt a.pos;holding [v] (truthy v))) :
  PT X a (fun σ H Q=>ta σ H fun x H'=>∃ k,zR X.K x H' k/\Q k H'):=by
 intro pins s σ H Q I h
 exact isTrue_plain (thn (ha pins s σ H _ I h) fun v s1 ⟨x,H1,I1,r1,q1⟩=>zN pins s1 σ H1 x v Q I1 r1 q1) (he _)
theorem qd:OpR X (binaryOp .Add) (fun x y H Q=>∃ i j,x=.str i/\y=.str j/\i.length+j.length<=sizeLine/\Q (.str (i++j)) H):=by
 intro pins s σ H x y v u Q I rx ry h
 obtain ⟨i,j,rfl,rfl,hz,q⟩:=h
 obtain ⟨t,rfl⟩:=rx
 obtain ⟨t',rfl⟩:=ry
 exact add_str (fun t' tk=>⟨.str (i++j),H,I.tok _,⟨_,rfl⟩,q⟩) hz
theorem vals1 {x:V} {us:Wk} (r:aQ [x] us):∃ u,us=[u]/\RelV x u:=by
 cases r with
 | cons r1 r2=>cases r2;exact ⟨_,rfl,r1⟩
theorem vals2 {x y:V} {us:Wk} (r:aQ [x,y] us):∃ u w',us=[u,w']/\RelV x u/\RelV y w':=by
 cases r with
 | cons r1 r2 =>
  cases r2 with
  | cons r3 r4=>cases r4;exact ⟨_,_,rfl,r1,r3⟩
theorem rQ (hc:X.calm=true):dP X (.builtin "min") (fun xs H Q=>∃ i j,xs=[.int i,.int j]/\Q (.int (if j < i then j else i)) H):=by
 intro pins s σ H xs us Q I r h
 obtain ⟨i,j,rfl,q⟩:=h
 obtain ⟨u,w',rfl,⟨t,rfl⟩,⟨t',rfl⟩⟩:=vals2 r
 refine min_two_ints (I.ok.hd hc) fun h' tk k=>⟨_,H,I.kept k,?_,q⟩
 by_cases hj:j < i
 ·rw [Zr hj,Zr hj];exact ⟨_,rfl⟩
 ·rw [Zo hj,Zo hj];exact ⟨_,rfl⟩
noncomputable def Ca (K:Xd) (x:V) (H:Hp) (n:Nat):Prop :=
 match x with
 | .str y=>y.length<=sizeLine/\n=y.length
 | .byt y=>y.size<=sizeLine/\n=y.size
 | .ref p=>(∃ xs,SqL K H p xs/\n=xs.length)\/∃ xs,SqT K H p xs/\n=xs.length
 | _=>False
theorem vT:dP X (.builtin "len") (fun xs H Q=>∃ x n,xs=[x]/\Ca X.K x H n/\Q (.int n) H):=by
 intro pins s σ H xs us Q I r h
 obtain ⟨x,n,rfl,e,q⟩:=h
 obtain ⟨u,rfl,rx⟩:=vals1 r
 have hl:=jQ
 have hs:sizeLine=16777216:=Xu
 cases x with
 | str y =>
  obtain ⟨t,rfl⟩:=rx
  obtain ⟨hy,e'⟩:y.length<=sizeLine/\n=y.length:=e
  subst e'
  exact len_str (by lia) ⟨.int _,H,I.tok _,⟨_,rfl⟩,q⟩
 | byt y =>
  obtain ⟨t,rfl⟩:=rx
  obtain ⟨hy,e'⟩:y.size<=sizeLine/\n=y.size:=e
  subst e'
  exact PySem.W.len_bytes (by lia) ⟨.int _,H,I.tok _,⟨_,rfl⟩,q⟩
 | ref p =>
  cases rx
  have e':(∃ xs,SqL X.K H p xs/\n=xs.length)\/∃ xs,SqT X.K H p xs/\n=xs.length:=e
  rcases e' with ⟨xs,hx,e'⟩ | ⟨xs,hx,e'⟩
  ·subst e'
   obtain ⟨its,r',pl,hz⟩:=I.list hx
   have hlen:=r'.length
   exact Calls.call_len_list pl.isList (by simp only [ZV];lia) ⟨.int xs.length,H,I.tok _,⟨_,by simp only [ZV];rw [hlen]⟩,q⟩
  ·subst e'
   obtain ⟨its,r',pl,hz⟩:=I.tuple hx
   have hlen:=r'.length
   exact len_tuple pl (by simp only [ZV];lia) ⟨.int xs.length,H,I.tok _,⟨_,by simp only [ZV];rw [hlen]⟩,q⟩
 | _=>exact (show False from e).elim
end
structure ObjM (h:Heap) (x dx C:Addr) (mA:Wx):Prop where
 obj:h.get? x=some (PySem.W.instObj C dx)
 ns:h.Ns1 dx mA
 ne:dx ≠ x
theorem rM {h:Heap} {dx:Addr} {mA:Wx} (n:h.Ns1 dx mA):∃ od,h.get? dx=some od/\∀ name,PySem.W.lookIn name od=some (mA name):=by
 obtain ⟨o,es,ep,ho,hd,hk,_,hm⟩:=n
 refine ⟨o,ho,fun name=>?_⟩
 have e:=hm name
 unfold nsFind findBy at e
 rw [← Array.find?_toList] at e
 unfold PySem.W.lookIn
 rw [hd]
 dsimp only
 split
 ·rename_i y q
  rw [q] at e
  exact congrArg some e
 ·rename_i q
  rw [q] at e
  have a:es.toList.any (·.refKey)=false:=by
   rw [List.any_eq_false]
   intro y hy
   obtain ⟨z,t,hkey⟩:=hk y (Array.mem_toList_iff.mp hy)
   simp [DictEntry.refKey,hkey]
  have a':¬ es.toList.any (·.refKey)=true:=by rw [a];exact Za
  rw [Zo a']
  exact congrArg some e
theorem ObjM.look {h:Heap} {x dx C:Addr} {mA:Wx} (I:ObjM h x dx C mA):∃ od,PySem.W.InstAt h x (PySem.W.instObj C dx) C (some od)/\∀ name,PySem.W.lookIn name od=some (mA name) :=
 let ⟨od,ho,hl⟩:=rM I.ns
 ⟨od,⟨I.obj,rfl,rfl,ho⟩,hl⟩
section
variable {prog:Program} {w:World} {A:Around} {E:Y7} {s:Shared} {K:Xd} {x dx C f:Addr} {mA:Wx} {name:Str} {v:Value}
theorem get_map {expr:Bool} {Q:Y7} (X:K.In s.heap) (I:ObjM s.heap x dx C mA) (hg:PySem.W.plainGet K C name=true) (hh:PySem.W.hasDictIn K C=true)
  (ha:PySem.W.findIn K (.ref C) name=some none) (hv:mA name=some v) (hv':PySem.W.handedIn v=true) (h:Q v { s with toks:=s.toks+1 }) :
  wpAny (model prog w) A (getAttr (.ref x) name expr) Q E s:=by
 obtain ⟨od,J,hl⟩:=I.look
 exact PySem.W.get_value X J (XA hg).1 (PySem.W.findObj_own hh ha rfl (by rw [hl,hv])) hv' h
theorem uL {pl:Sem Bool} {Q:Value×Wk->Shared->Prop} (X:K.In s.heap) (I:ObjM s.heap x dx C mA) (hg:PySem.W.plainGet K C name=true)
  (hf:PySem.W.findIn K (.ref C) name=some (some (.ref f))) (ht:PySem.W.isFn K (.ref f)=true) (hv:mA name=none) (h:Q (.ref f,[.ref x]) s) :
  wpAny (model prog w) A (getMethod (.ref x) name pl) Q E s:=by
 obtain ⟨od,J,hl⟩:=I.look
 exact PySem.W.method_fn X J (XA hg).1 (XA hg).2 hf (beq_iff_eq.mp ht) (by show (PySem.W.lookIn name od).map (·.isSome)=some false;rw [hl,hv];rfl) h
theorem yz {ns:List Str} {Q:Unit->Shared->Prop} (X:K.In s.heap) (I:ObjM s.heap x dx C mA)
  (hs:PySem.W.findIn K (.ref C) "__setattr__" = some (some (.builtin "object.__setattr__"))) (hp:PySem.W.plainOver K C=true) (ht:PySem.W.takerIn K C name=some none) (hh:PySem.W.hasDictIn K C=true)
  (hw:PySem.Within mA ns) (hsz:ns.length<=sizeLine)
  (h:∀ h',ObjM h' x dx C (fun y=>if y=name then some v else mA y)->Heap.SameBut dx s.heap h'->Q () { s with heap:=h',toks:=s.toks+2 }) :
  wpAny (model prog w) A (setAttr (.ref x) name v) Q E s:=by
 obtain ⟨od,J,hl⟩:=I.look
 refine PySem.W.set_plain X J hs (PySem.W.osa_open (s:={ s with toks:=s.toks+1 }) (r:=none) X J hp ht fun b=>?_)
 obtain ⟨cd,hc,hd'⟩:=PySem.W.any_some hh
 have hx:s.heap.get? x=some ⟨.ref C,some dx,.plain,#[]⟩:=I.obj
 refine Zp (Zb (Zp (Zp (wpAny_loadPart hx (Zp (PySem.W.Looks.here (s:={ s with toks:=s.toks+1 }) (PySem.W.looks_clsIn X hc) ?_))))))
 rw [hd']
 refine Zb (a:=some dx) (Zp (Zb (Zp ?_)))
 refine wpAny_nsSet1 (s:={ s with toks:=s.toks+1 }) I.ns fun h' hn2 hs2=>?_
 obtain ⟨oD,esD,epD,hoD,hdD,hcD⟩:=hn2.count (PySem.Within.cons name v hw)
 refine Zp (wpAny_lookBehind hoD (by rw [hdD];exact pastItsLine_dict (ZW hcD (by rw [Zk];exact XW hsz))) ?_)
 exact Zb (h _ ⟨(hs2.2 _ (YW I.ne)).trans I.obj,hn2,I.ne⟩ hs2)
theorem vb {R:Result->Shared->Prop} {vs:Wk} {kw:List (Str×Value)} (X:K.In s.heap) (hm:PySem.W.makesIn K C=true)
  (hi:PySem.W.findIn K (.ref C) "__init__" = some (some (.ref f))) (hf:PySem.W.typeIn K (.ref f)=some (.type "function"))
  (h:codeAny (model prog w) (A.under (.builtin "type.__call__" ⟨.ref C :: vs,kw⟩)) (.call (.ref f) ⟨.ref (s.heap.objs.size+1) :: vs,kw⟩) (PySem.W.InitBack (s.heap.objs.size+1) R)
   { s with heap:=(s.heap.push PySem.W.emptyDict).push (PySem.W.instObj C s.heap.objs.size) }) :
  codeAny (model prog w) A (.call (.ref C) ⟨vs,kw⟩) R s:=by
 obtain ⟨hh,g,d,t,os⟩:=s
 exact PySem.W.make_core (PySem.W.makes_of X hm) (PySem.W.looks_findIn X hi) (fun self=>PySem.W.bind_fn X self hf) (.inl rfl) h
end
noncomputable def g7 (f:Str) (v:V):List (Str×V)->List (Str×V)
 | []=>[(f,v)]
 | (g,x) :: r=>if g=f then (g,v) :: r else (g,x) :: g7 f v r
theorem kc (f g:Str) (v:V):∀ fs:List (Str×V),(g7 f v fs).lookup g=if g=f then some v else fs.lookup g
 | []=>by
  show List.lookup g [(f,v)]=_
  by_cases h:g=f
  ·have hb:(g == f)=true:=beq_iff_eq.mpr h
   simp only [List.lookup,hb,Zr h]
  ·have hb:(g == f)=false:=ZK.mpr h
   simp only [List.lookup,hb,Zo h]
 | (k,x) :: r=>by
  have ih:=kc f g v r
  rw [show g7 f v ((k,x) :: r)=(if k=f then (k,v) :: r else (k,x) :: g7 f v r) from rfl]
  by_cases hk:k=f
  ·rw [Zr hk]
   by_cases h:g=k
   ·have hb:(g == k)=true:=beq_iff_eq.mpr h
    simp only [List.lookup,hb,Zr (h.trans hk)]
   ·have hb:(g == k)=false:=ZK.mpr h
    simp only [List.lookup,hb,Zo (fun e:g=f=>h (e.trans hk.symm))]
  ·rw [Zo hk]
   by_cases h:g=k
   ·have hb:(g == k)=true:=beq_iff_eq.mpr h
    simp only [List.lookup,hb,Zo (fun e:g=f=>hk (h.symm.trans e))]
   ·have hb:(g == k)=false:=ZK.mpr h
    simp only [List.lookup,hb]
    exact ih
theorem j4 (f:Str) (v:V):∀ fs:List (Str×V),f∈(g7 f v fs).map (·.1)/\∀ g,g∈fs.map (·.1)->g∈(g7 f v fs).map (·.1)
 | []=>⟨by simp [g7],fun g h=>by simp at h⟩
 | (k,x) :: r=>by
  obtain ⟨i1,i2⟩:=j4 f v r
  rw [show g7 f v ((k,x) :: r)=(if k=f then (k,v) :: r else (k,x) :: g7 f v r) from rfl]
  by_cases hk:k=f
  ·rw [Zr hk]
   subst hk
   exact ⟨by simp,fun g h=>by simpa using h⟩
  ·rw [Zo hk]
   refine ⟨?_,fun g h=>?_⟩
   ·rw [Zs]
    exact Zw _ i1
   ·rw [Zs] at h ⊢
    rcases Zh.mp h with e | e
    ·exact Zh.mpr (.inl e)
    ·exact Zw _ (i2 g e)
theorem j8 (f:Str) (v:V):∀ fs:List (Str×V),(g7 f v fs).length<=fs.length+1
 | []=>by simp [g7]
 | (k,x) :: r=>by
  have ih:=j8 f v r
  rw [show g7 f v ((k,x) :: r)=(if k=f then (k,v) :: r else (k,x) :: g7 f v r) from rfl]
  by_cases hk:k=f
  ·rw [Zr hk,Zk,Zk];exact YK _ _
  ·rw [Zo hk,Zk,Zk];exact XW ih
theorem gD.some_of {v:V} {o:Wj} (r:gD (some v) o):∃ u,o=some u/\RelV v u:=by
 cases o with
 | none=>exact (show False from r).elim
 | some u=>exact ⟨u,rfl,r⟩
theorem gD.none_of {o:Wj} (r:gD none o):o=none:=by
 cases o with
 | none=>rfl
 | some u=>exact (show False from r).elim
theorem rZ {v:V} {u:Value} (r:RelV v u):PySem.W.handedIn u=true:=by
 cases v with
 | non=>cases (show u=Value.none from r);rfl
 | bl b=>cases (show u=Value.bool b from r);rfl
 | int i=>obtain ⟨t,e⟩:=(show ∃ t,u=Value.int i t from r);cases e;rfl
 | str x=>obtain ⟨t,e⟩:=(show ∃ t,u=Value.str x t from r);cases e;rfl
 | byt b=>obtain ⟨t,e⟩:=(show ∃ t,u=Value.bytes b t from r);cases e;rfl
 | flt b=>obtain ⟨t,e⟩:=(show ∃ t,u=Value.float b t from r);cases e;rfl
 | ref a=>cases (show u=Value.ref a from r);rfl
 | ty n=>cases (show u=Value.type n from r);rfl
section
variable {P:Program} {w:World} {H H':Hp} {h h':Heap} {a C dx:Addr} {fs fs':List (Str×V)}
theorem kD (hok:HOk P w H h) (e:H a=some (.ins C dx fs)):∃ mA,ObjM h a dx C mA/\(∀ f,gD (fs.lookup f) (mA f))/\PySem.Within mA (fs.map (·.1))/\fs.length<=1000/\H dx=some (.own a):=by
 obtain ⟨d,z,ne,ob,mA,n,r,q⟩:=(show bI P w H h a (.ins C dx fs) from hok a _ e)
 exact ⟨mA,⟨ob,n,ne⟩,r,q,z,d⟩
end
structure Cls (K:Xd) (C:Addr):Prop where
 pg:PySem.W.plainGet K C Str.empty=true
 hd:PySem.W.hasDictIn K C=true
 po:PySem.W.plainOver K C=true
 sa:PySem.W.findIn K (.ref C) "__setattr__" = some (some (.builtin "object.__setattr__"))
theorem Cls.get {K:Xd} {C:Addr} (c:Cls K C) (f:Str):PySem.W.plainGet K C f=true:=c.pg
noncomputable def aU (K:Xd) (C:Addr) (f:Str):Prop:=PySem.W.findIn K (.ref C) f=some none
theorem aU.taker {K:Xd} {C:Addr} {f:Str} (n:aU K C f):PySem.W.takerIn K C f=some none:=by
 unfold PySem.W.takerIn
 rw [show PySem.W.findIn K (.ref C) f=some none from n]
 rfl
structure Meth (K:Xd) (C:Addr) (m:Str) (f:Addr):Prop where
 at_:PySem.W.findIn K (.ref C) m=some (some (.ref f))
 fn:PySem.W.isFn K (.ref f)=true
 kp:PySem.W.keepIn K (.ref f)=true
section
variable {X:Cx} {pins:Xq} {σ:St} {H:Hp} {s:Shared} {a C dx:Addr} {fs:List (Str×V)} {f:Str} {v:V} {A:Around} {E:Y7}
theorem qb {b:Bool} {Q:Y7} (I:Inv X pins σ H s) (e:H a=some (.ins C dx fs)) (c:Cls X.K C) (n:aU X.K C f) (l:fs.lookup f=some v)
  (h:∀ u s',Inv X pins σ H s'->RelV v u->Q u s'):wpAny (model X.prog X.w) A (getAttr (.ref a) f b) Q E s:=by
 obtain ⟨mA,O,r,_,_,_⟩:=kD I.hok e
 obtain ⟨u,hu,ru⟩:=gD.some_of (v:=v) (o:=mA f) (by rw [← l];exact r f)
 exact get_map I.kIn O (c.get f) c.hd n hu (rZ ru) (h u _ (I.tok _) ru)
theorem lA {m:Str} {g:Addr} {pl:Sem Bool} {Q:Value×Wk->Shared->Prop} (I:Inv X pins σ H s) (e:H a=some (.ins C dx fs)) (c:Cls X.K C) (k:Meth X.K C m g) (l:fs.lookup m=none)
  (h:Q (.ref g,[.ref a]) s):wpAny (model X.prog X.w) A (getMethod (.ref a) m pl) Q E s:=by
 obtain ⟨mA,O,r,_,_,_⟩:=kD I.hok e
 have hn:mA m=none:=gD.none_of (by rw [← l];exact r m)
 exact uL I.kIn O (c.get m) k.at_ k.fn hn h
theorem pI {y:V} {u:Value} {Q:Unit->Shared->Prop} (I:Inv X pins σ H s) (e:H a=some (.ins C dx fs)) (c:Cls X.K C) (n:aU X.K C f) (hl:fs.length < 1000) (ry:RelV y u)
  (h:∀ s',Inv X pins σ (upd H a (.ins C dx (g7 f y fs))) s'->Q () s'):wpAny (model X.prog X.w) A (setAttr (.ref a) f u) Q E s:=by
 obtain ⟨mA,O,r,wi,_,ho⟩:=kD I.hok e
 have hz:(fs.map (·.1)).length<=sizeLine:=by rw [Zv,Xu];lia
 refine yz I.kIn O c.sa c.po n.taker c.hd wi hz fun h' O' sb=>h _ ?_
 have hd:∃ o,h'.get? dx=some o:=let ⟨o,_,_,e',_⟩:=O'.ns;⟨o,e'⟩
 refine I.write (x:=a) (e:=dx) (by rw [e];exact True.intro) (.inr ho) (fun b q hb z=>(sb.2 b hb).trans z) hd ?_
 refine ⟨by rw [aD O.ne];exact ho,?_,O.ne,O'.obj,_,O'.ns,fun g=>?_,fun g hg=>?_⟩
 ·have:=j8 f y fs;lia
 ·show gD ((g7 f y fs).lookup g) (if g=f then some u else mA g)
  rw [kc]
  by_cases q:g=f
  ·rw [Zr q,Zr q];exact ry
  ·rw [Zo q,Zo q];exact r g
 ·by_cases q:g=f
  ·rw [q];exact (j4 f y fs).1
  ·refine (j4 f y fs).2 g (wi g fun z=>hg ?_)
   show (if g=f then some u else mA g)=none
   rw [Zo q];exact z
theorem Inv.made (I:Inv X pins σ H s):Inv X pins σ (upd (upd H s.heap.objs.size (.own (s.heap.objs.size+1))) (s.heap.objs.size+1) (.ins C s.heap.objs.size []))
  { s with heap:=(s.heap.push PySem.W.emptyDict).push (PySem.W.instObj C s.heap.objs.size) }:=by
 have e1:(s.heap.push PySem.W.emptyDict).get? s.heap.objs.size=some PySem.W.emptyDict:=ZJ s.heap rfl
 have e2:((s.heap.push PySem.W.emptyDict).push (PySem.W.instObj C s.heap.objs.size)).get? (s.heap.objs.size+1)=some (PySem.W.instObj C s.heap.objs.size):=by
  have:=ZJ (s.heap.push PySem.W.emptyDict) (o:=PySem.W.instObj C s.heap.objs.size) rfl
  rwa [Ws] at this
 have e3:(s.heap.push PySem.W.emptyDict).Ns s.heap.objs.size (fun _=>none):=⟨PySem.W.emptyDict,#[],_,e1,rfl,(fun e he=>absurd he (by simp)),fun _=>rfl⟩
 have I1:=I.laid (a:=s.heap.objs.size) (o:=.own (s.heap.objs.size+1)) (h':=s.heap.push PySem.W.emptyDict) (t':=s.toks) (fun b u q=>Zi _ q) (Zl _) ⟨_,e1⟩
 refine I1.laid (a:=s.heap.objs.size+1) (o:=.ins C s.heap.objs.size []) (t':=s.toks) (fun b u q=>Zi _ q) (XO (Ws _ _)) ?_
 have ne:s.heap.objs.size ≠ s.heap.objs.size+1:=ZS (Yg _)
 refine ⟨by rw [aD ne,aA],Yr _,ne,e2,fun _=>none,(Heap.Ns1.of_empty e3).at fun o q=>Zi _ q,fun _=>True.intro,fun y hy=>absurd rfl hy⟩
theorem xx {prog:Program} {w:World} {env:Env} {e:Expr} {f:Str} {pos:Pos} {s:Shared} {Q:Y7} (hb:attributeBase e f env (eval e env)=eval e env)
  (h:wpAny (model prog w) A (eval e env) (fun o s₁=>wpAny (model prog w) A (getAttr o f true) Q E s₁) E s):wpAny (model prog w) A (eval (.Attribute e f pos) env) Q E s :=
 Attribute_any_ h (by rw [arm_eval_Attribute,hb])
end
noncomputable def Dd (K:Xd) (ta:TE) (f:Str):TE:=fun σ H Q=>ta σ H fun x H1=>∃ a C dx fs v,x=.ref a/\H1 a=some (.ins C dx fs)/\Cls K C/\aU K C f/\fs.lookup f=some v/\Q v H1
noncomputable def C3 (K:Xd) (ta tv:TE) (f:Str):TS:=fun D σ H=>tv σ H fun y H1=>ta σ H1 fun x H2=>∃ a C dx fs,x=.ref a/\H2 a=some (.ins C dx fs)/\Cls K C/\aU K C f/\fs.length < 1000 ∧
 D.nx σ (upd H2 a (.ins C dx (g7 f y fs)))
section
variable {X:Cx} {o e value:Expr} {f:Str} {pos pos' tpos:Pos} {ta tv:TE}
theorem ua (he:PE X e ta) (hb:attributeBase e f X.env (eval e X.env)=eval e X.env):PE X (.Attribute e f pos) (Dd X.K ta f):=by
 intro pins s σ H Q I h
 refine xx hb (thn (he pins s σ H _ I h) fun u s1 ⟨x,H1,I1,rx,a,C,dx,fs,v,ex,ea,c,n,l,q⟩=>?_)
 subst ex
 obtain rfl:u=Value.ref a:=rx
 exact qb I1 ea c n l fun u' s2 I2 ru=>⟨v,H1,I2,ru,q⟩
theorem zx (ha:PE X o ta) (hv:PE X value tv) (hs:swapsWith value (some (.Attribute o f pos')) pos.line X.env=pure false):PS X (.Assign [.Attribute o f pos'] value pos) (C3 X.K ta tv f):=by
 intro pins s σ H D I h
 refine plainObj_wpAny_Assign_Attribute (thn (hv pins s σ H _ I h) fun u s1 ⟨y,H1,I1,ry,q⟩=>thn (ha pins s1 σ H1 _ I1 q) fun ov s2 ⟨x,H2,I2,rx,a,C,dx,fs,ex,ea,c,n,l,q2⟩=>?_) hs
 subst ex
 obtain rfl:ov=Value.ref a:=rx
 exact pI I2 ea c n l ry fun s3 I3=>⟨σ,_,I3,q2⟩
end
section
variable {X:Cx} {pins:Xq} {σ:St} {H:Hp} {s:Shared} {A:Around} {E:Y7} {Q:Y7} {c:Value} {b:Bool}
inductive TyOf (K:Xd) (H:Hp):V->Value->Prop where
 | non:TyOf K H .non (.type "NoneType")
 | bl (x:Bool):TyOf K H (.bl x) (.type "bool")
 | int (i:Int):TyOf K H (.int i) (.type "int")
 | str (x:Str):TyOf K H (.str x) (.type "str")
 | flt (x:UInt64):TyOf K H (.flt x) (.type "float")
 | lst {a:Addr} {xs:List V} (e:H a=some (.lst xs)):TyOf K H (.ref a) (.type "list")
 | frz {a:Addr} {o:Obj} {xs:List V} (e:H a=some (.frz o (.lst xs))):TyOf K H (.ref a) (.type "list")
 | tup {a:Addr} {xs:List V} (e:H a=some (.tup xs)):TyOf K H (.ref a) (.type "tuple")
 | dK {a:Addr} {kvs:List (Key×V)} (e:H a=some (.dK kvs)):TyOf K H (.ref a) (.type "dict")
 | dT {a:Addr} {kvs:List (List Key×V)} (e:H a=some (.dT kvs)):TyOf K H (.ref a) (.type "dict")
 | ins {a C dx:Addr} {fs:List (Str×V)} (e:H a=some (.ins C dx fs)) (cl:Cls K C) (ha:PySem.W.findIn K (.ref C) "__class__" = some (some (.builtin "object.__class__")))
   (hn:PySem.W.specialIn K (.builtin "object.__class__") "__get__" = some (some (.builtin "getset_descriptor.__get__"))) (htk:PySem.W.takesIn K (.builtin "object.__class__")=some true)
   (hm:PySem.W.mroIn K C (.type "object")=some true):TyOf K H (.ref a) (.ref C)
theorem tm {x:V} {u t:Value} (I:Inv X pins σ H s) (rx:RelV x u) (ty:TyOf X.K H x t) (e:PySem.W.kitOne X.K t c=some b) (h:∀ tk,Q (.bool b) { s with toks:=tk }) :
  wpAny (model X.prog X.w) A (call (.builtin "isinstance") [u,c]) Q E s:=by
 cases ty with
 | non=>cases (show u=Value.none from rx);exact Ym PySem.W.kitx_none I.kIn True.intro e (fun z=>nomatch z) h
 | bl y=>cases (show u=Value.bool y from rx);exact Ym PySem.W.kitx_bool I.kIn True.intro e (fun z=>nomatch z) h
 | int i=>obtain ⟨t,q⟩:=(show ∃ t,u=Value.int i t from rx);cases q;exact Ym PySem.W.kitx_int I.kIn True.intro e (fun z=>nomatch z) h
 | str y=>obtain ⟨t,q⟩:=(show ∃ t,u=Value.str y t from rx);cases q;exact Ym PySem.W.kitx_str I.kIn True.intro e (fun z=>nomatch z) h
 | flt y=>obtain ⟨t,q⟩:=(show ∃ t,u=Value.float y t from rx);cases q;exact Ym PySem.W.kitx_float I.kIn True.intro e (fun z=>nomatch z) h
 | @lst a xs ea =>
  cases (show u=Value.ref a from rx)
  obtain ⟨_,_,n,_,h1⟩:=(show bI X.prog X.w H s.heap a (.lst xs) from I.hok a _ ea)
  exact Ym PySem.W.kitx_list I.kIn ⟨_,h1,rfl⟩ e (fun z=>nomatch z) h
 | @frz a ob xs ea =>
  cases (show u=Value.ref a from rx)
  obtain ⟨_,_,_,n,_,h1⟩:=(show bI X.prog X.w H s.heap a (.frz ob (.lst xs)) from I.hok a _ ea)
  exact Ym PySem.W.kitx_list I.kIn ⟨_,h1,rfl⟩ e (fun z=>nomatch z) h
 | @tup a xs ea =>
  cases (show u=Value.ref a from rx)
  obtain ⟨_,_,_,_,p⟩:=(show bI X.prog X.w H s.heap a (.tup xs) from I.hok a _ ea)
  obtain ⟨o,h1,h2,_⟩:=p
  exact Ym PySem.W.kitx_tuple I.kIn ⟨o,h1,h2⟩ e (fun z=>nomatch z) h
 | @dK a kvs ea =>
  cases (show u=Value.ref a from rx)
  obtain ⟨_,_,vs,_,p⟩:=(show bI X.prog X.w H s.heap a (.dK kvs) from I.hok a _ ea)
  obtain ⟨o,es,ep,h1,h2,_⟩:=p
  exact Ym PySem.W.kitx_dict I.kIn ⟨o,h1,h2.1⟩ e (fun z=>nomatch z) h
 | @dT a kvs ea =>
  cases (show u=Value.ref a from rx)
  obtain ⟨_,_,xs,_,o,es,ep,h1,h2,_⟩:=(show bI X.prog X.w H s.heap a (.dT kvs) from I.hok a _ ea)
  exact Ym PySem.W.kitx_dict I.kIn ⟨o,h1,h2.1⟩ e (fun z=>nomatch z) h
 | @ins a C dx fs ea cl ha hn htk hm =>
  cases (show u=Value.ref a from rx)
  obtain ⟨mA,O,_⟩:=kD I.hok ea
  obtain ⟨od,J,_⟩:=O.look
  exact Ym (PySem.W.kitx_own (cl.get _) cl.hd ha hn htk hm) I.kIn J e (fun z=>nomatch z) h
end
structure Room (k:Nat) (A:Around):Prop where
 hd:A.handled=none
 dp:A.depth+3 * k+5 < recursionLimit
 un:A.units+16 * k+200 < cLine
theorem Room.mono {j k:Nat} {A:Around} (r:Room k A) (h:j<=k):Room j A:=⟨r.hd,by have:=r.dp;lia,by have:=r.un;lia⟩
theorem Room.deeper {k:Nat} {A:Around} (r:Room (k+1) A) (env:Env):Room k (A.deeper env) :=
 ⟨r.hd,by have:=r.dp;show A.depth+1+3 * k+5 < _;lia,by have:=r.un;show A.units+3+16 * k+200 < _;lia⟩
theorem qm {A:Around} {C:Addr} {us:Wk} {kw:List (Str×Value)}:(A.under (.builtin "type.__call__" ⟨.ref C :: us,kw⟩)).depth=A.depth+1:=by
 first | rfl | simp [Around.under,Code.weight,Code.isCreation,Code.isGuard,Code.isCaller,Code.frames,Code.isFrame,guardIds]
theorem p9 {A:Around} {C:Addr} {us:Wk} {kw:List (Str×Value)}:(A.under (.builtin "type.__call__" ⟨.ref C :: us,kw⟩)).units=A.units+1:=by
 first | rfl | simp [Around.under,Code.cUnits,Code.frames,Code.isFrame]
theorem Room.make {k:Nat} {A:Around} (r:Room (k+1) A) (C:Addr) (us:Wk) (kw:List (Str×Value)):Room k (A.under (.builtin "type.__call__" ⟨.ref C :: us,kw⟩)) :=
 ⟨r.hd,by have:=r.dp;rw [qm];lia,by have:=r.un;rw [p9];lia⟩
theorem Room.depth {k:Nat} {A:Around} (r:Room k A):A.depth < recursionLimit:=by have:=r.dp;lia
theorem Room.units {k:Nat} {A:Around} (r:Room k A):A.units+64 < cLine:=by have:=r.un;lia
noncomputable def rO:TA:=fun _ H Q=>Q [] H
noncomputable def CJ (ta:TE) (tr:TA):TA:=fun σ H Q=>ta σ H fun x H1=>tr σ H1 fun xs H2=>Q (x :: xs) H2
section
variable {X:Cx} {e:Expr} {es:List Expr} {te:TE} {t:TA} {pos:Pos}
theorem jW:PA X [] rO:=fun _ _ _ _ H Q I h=>Calls.spliced_nil ⟨[],H,I,.nil,h⟩
theorem fz (ha:PE X e te) (hr:PA X es t) (hs:starEach (e :: es) X.env=(false,eval e X.env) :: starEach es X.env:=by rfl):PA X (e :: es) (CJ te t):=by
 intro pos pins s σ H Q I h
 rw [hs]
 show wpAny _ _ (spliced ((false,eval e X.env) :: backTo pos (starEach es X.env))) _ _ s
 refine Calls.spliced_cons (thn (ha pins s σ H _ I h) fun u s1 ⟨x,H1,I1,r1,q1⟩=>?_)
 exact thn (hr pos pins s1 σ H1 _ I1 q1) fun us s2 ⟨xs,H2,I2,r2,q2⟩=>⟨x :: xs,H2,I2,.cons r1 r2,q2⟩
noncomputable def CQ (t:TA):TE:=fun σ H Q=>t σ H fun xs H1=>xs.length<=sizeLine/\∀ p,H1 p=none->Q (.ref p) (upd H1 p (.tup xs))
noncomputable def CY (t:TA):TE:=fun σ H Q=>t σ H fun xs H1=>xs.length<=sizeLine/\∀ p,H1 p=none->Q (.ref p) (upd H1 p (.lst xs))
theorem Ar {x1} (h:PA X es t):PE X (.Tuple es x1 pos) (CQ t):=by
 intro pins s σ H Q I hq
 refine wpAny_Tuple_spliced (thn (h pos pins s σ H _ I hq) fun us s1 ⟨xs,H1,I1,r,z,q⟩=>⟨by rw [← r.length];exact z,?_⟩)
 have hf:H1 s1.heap.objs.size=none:=I1.hok.fresh (Zl _)
 refine ⟨.ref s1.heap.objs.size,upd H1 s1.heap.objs.size (.tup xs),I1.laid (t':=s1.toks) (fun b u e=>Zi _ e) (Zl _) ?_,rfl,q _ hf⟩
 exact ⟨z,us,r,NoD.of (ZJ _ rfl) rfl,⟨_,ZJ _ rfl,rfl,_,rfl⟩⟩
theorem Av (h:PA X es t):PE X (.List es pos) (CY t):=by
 intro pins s σ H Q I hq
 refine wpAny_List_spliced (thn (h pos pins s σ H _ I hq) fun us s1 ⟨xs,H1,I1,r,z,q⟩=>⟨by rw [← r.length];exact z,?_⟩)
 have hf:H1 s1.heap.objs.size=none:=I1.hok.fresh (Zl _)
 refine ⟨.ref s1.heap.objs.size,upd H1 s1.heap.objs.size (.lst xs),I1.laid (t':=s1.toks) (fun b u e=>Zi _ e) (Zl _) ?_,rfl,q _ hf⟩
 exact ⟨z,us,0,r,ZJ _ rfl⟩
end
noncomputable abbrev Sp:=List V->Hp->VK->XK->Prop
noncomputable abbrev CXT:=List Env->Hp->Shared->XK->Y7
structure Env0 (P:Program) (w:World) (K:Xd) (mg:Wx) (base:Heap) (A:Around) (outer:List Env) (s:Shared) (H:Hp):Prop where
 frames:A.frames=some outer
 mod:Mod K mg base
 bs:∀ b o,base.get? b=some o->s.heap.get? b=some o/\H b=none
 bsz:base.objs.size<=s.heap.objs.size
 funs:s.heap.FunFrames base outer
 frf:∀ b∈frs outer,H b=none
 hok:HOk P w H s.heap
 bare:AllBare s.gens
noncomputable def CE (outer:List Env) (P:Program) (w:World) (H:Hp) (s:Shared) (Q:VK) (u:Value) (s':Shared):Prop :=
 ∃ v H',s'.os=s.os/\AllBare s'.gens/\Un (frs outer) [] H H' s.heap s'.heap/\HOk P w H' s'.heap/\RelV v u/\Q v H'
noncomputable def CR (CX:CXT) (outer:List Env) (P:Program) (w:World) (H:Hp) (s:Shared) (Q:VK) (E:XK) (r:Result) (s':Shared):Prop :=
 match r with
 | .ok (.ret u)=>CE outer P w H s Q u s'
 | .ok _=>False
 | .error e=>CX outer H s E e s'
structure FnOk (P:Program) (w:World) (K:Xd) (mg:Wx) (base:Heap) (CX:CXT) (k:Nat) (f:Addr) (fd:FuncData) (ps:List Str) (sp:Sp):Prop where
 len:∀ vs H Q E,sp vs H Q E->vs.length=ps.length
 run:∀ (A:Around) (outer:List Env) (s:Shared) (H:Hp) (args:Args) (us:Wk) (vs:List V) (Q:VK) (E:XK),Room k A->Env0 P w K mg base A outer s H->BindsTo s fd args (ps.zip us)->aQ vs us->sp vs H Q E →
  codeAny (model P w) A (.call (.ref f) args) (CR CX outer P w H s Q E) s
theorem FnOk.imp {P:Program} {w:World} {K:Xd} {mg:Wx} {base:Heap} {CX:CXT} {k:Nat} {f:Addr} {fd:FuncData} {ps:List Str} {sp sp':Sp} (F:FnOk P w K mg base CX k f fd ps sp)
  (h:∀ vs H Q E,sp' vs H Q E->sp vs H Q E):FnOk P w K mg base CX k f fd ps sp' :=
 ⟨fun vs H Q E q=>F.len vs H Q E (h _ _ _ _ q),fun A outer s H args us vs Q E hr he hb hv hs=>F.run A outer s H args us vs Q E hr he hb hv (h _ _ _ _ hs)⟩
theorem Env0.make {P:Program} {w:World} {K:Xd} {mg:Wx} {base:Heap} {A:Around} {outer:List Env} {s:Shared} {H:Hp} (e:Env0 P w K mg base A outer s H) (C:Addr) (us:Wk) (kw:List (Str×Value)) :
  Env0 P w K mg base (A.under (.builtin "type.__call__" ⟨.ref C :: us,kw⟩)) outer s H:=⟨by first | exact e.frames | (simpa [Around.under,Code.envs,Code.isFrame,pushEnvs] using e.frames),e.mod,e.bs,e.bsz,e.funs,e.frf,e.hok,e.bare⟩
section
variable {X:Cx} {pins:Xq} {σ:St} {H:Hp} {s s':Shared}
theorem Inv.env0 (I:Inv X pins σ H s):Env0 X.prog X.w X.K X.mg X.base X.A X.stack s H :=
 ⟨I.ok.frames,I.ok.mod,I.bs,ZW I.ok.bsz I.sz,I.stack,I.stkFree,I.hok,I.bare⟩
theorem Inv.after {Q:VK} {u:Value} (I:Inv X pins σ H s) (h:CE X.stack X.prog X.w H s Q u s'):EP X pins σ Q u s':=by
 obtain ⟨v,H',os,bare,un,hok,r,q⟩:=h
 obtain ⟨hh,g,d,t,os'⟩:=s'
 obtain rfl:os'=s.os:=os
 exact ⟨v,H',I.call (h':=hh) (g':=g) (d':=d) (t':=t) (ch:=[]) un hok bare (fun b z=>absurd z (by simp)),r,q⟩
end
noncomputable def yR (sp:Sp) (dvs:List V) (E:XK) (t:TA):TE:=fun σ H Q=>t σ H fun vs H1=>sp (vs++dvs) H1 Q E
noncomputable def rE (C:Addr) (m:Str) (sp:Sp) (dvs:List V) (E:XK) (ta:TE) (t:TA):TE:=fun σ H Q=>ta σ H fun x H1=>∃ a dx fs,x=.ref a/\H1 a=some (.ins C dx fs)/\fs.lookup m=none ∧
 t σ H1 fun vs H2=>sp (x :: (vs++dvs)) H2 Q E
noncomputable def uC (C:Addr) (sp:Sp) (dvs:List V) (E:XK) (t:TA):TE:=fun σ H Q=>t σ H fun vs H1=>∀ x dx,H1 x=none->H1 dx=none->dx ≠ x →
 sp (.ref x :: (vs++dvs)) (upd (upd H1 dx (.own x)) x (.ins C dx [])) (fun v H2=>v=.non/\Q (.ref x) H2) E
noncomputable def Binds (K:Xd) (fd:FuncData) (ps:List Str) (ds:Wk):Prop :=
 ∀ (s:Shared) (us:Wk),K.In s.heap->(us++ds).length=ps.length->BindsTo s fd ⟨us,[]⟩ (ps.zip (us++ds))
theorem Binds.all {K:Xd} {fd:FuncData} {ps:List Str} (h:∀ us:Wk,us.length=ps.length->bindArgs fd ⟨us,[]⟩=pure (ps.zip us)):Binds K fd ps []:=fun s us _ hl=>by
 rw [ZP] at hl ⊢
 exact .of_eq (h us hl)
noncomputable def ie (CX:CXT) (X:Cx) (E:XK):Prop:=∀ (pins:Xq) (σ:St) (H:Hp) (s:Shared) (e:Value) (s':Shared),Inv X pins σ H s->CX X.stack H s E e s'->X.xe e s'
section
variable {X:Cx} {CX:CXT} {k:Nat} {f C:Addr} {fd:FuncData} {ps:List Str} {sp:Sp} {dvs:List V} {ds:Wk} {E:XK} {x m:Str} {p pos apos:Pos} {e o:Expr} {es:List Expr} {ta:TE} {t:TA}
theorem qq {pins:Xq} {σ:St} {H:Hp} {s:Shared} {Q:VK} {us:Wk} {vs:List V} (F:FnOk X.prog X.w X.K X.mg X.base CX k f fd ps sp) (hr:Room k X.A) (hb:Binds X.K fd ps ds) (hd:aQ dvs ds) (hx:ie CX X E)
  (I:Inv X pins σ H s) (r:aQ vs us) (h:sp (vs++dvs) H Q E):wpAny (model X.prog X.w) X.A (call (.ref f) us) (EP X pins σ Q) X.xe s:=by
 have r2:aQ (vs++dvs) (us++ds):=r.append hd
 have hl:(us++ds).length=ps.length:=by rw [← r2.length];exact F.len _ _ _ _ h
 refine wpAny_call (codeAny_mono (F.run X.A X.stack s H ⟨us,[]⟩ (us++ds) (vs++dvs) Q E hr I.env0 (hb s us I.kIn hl) r2 h) fun r s' hq=>?_)
 cases r with
 | error e=>exact hx pins σ H s e s' I hq
 | ok fl =>
  cases fl with
  | ret u=>exact I.after hq
  | next=>exact False.elim hq
  | brk=>exact False.elim hq
  | cont=>exact False.elim hq
theorem xw (F:FnOk X.prog X.w X.K X.mg X.base CX k f fd ps sp) (hr:Room k X.A) (hg:Gl X x) (hm:X.mg x=some (.ref f)) (hk:PySem.W.keepIn X.K (.ref f)=true) (hb:Binds X.K fd ps ds) (hd:aQ dvs ds) (hx:ie CX X E)
  (ha:PA X (e :: es) t) (hdb:(x == ("__debug__" : Str))=false:=by decide) (he:starEach (e :: es) X.env=(false,eval e X.env) :: starEach es X.env:=by rfl) (hpl:(backTo pos (starEach es X.env)).any (·.1)=false:=by rfl) :
  PE X (.Call (.Name x p) (e :: es) [] pos) (yR sp dvs E t):=by
 intro pins s σ H Q I h
 refine Xw (ky I hg hm ?_ hdb)
 refine X6 (h₀:=X.base) I.ok.mod.kin hk (thn (ha pos pins s σ H _ I h) fun us s1 ⟨vs,H1,I1,r,q⟩=>⟨I1.kIn,?_⟩) he hpl
 exact qq F hr hb hd hx I1 r q
theorem nR {pl:Sem Bool} (he:PE X o ta) (c:Cls X.K C) (hm:Meth X.K C m f) (F:FnOk X.prog X.w X.K X.mg X.base CX k f fd ps sp) (hr:Room k X.A) (hb:Binds X.K fd ps ds) (hd:aQ dvs ds) (hx:ie CX X E) (ha:PA X (e :: es) t)
  (hst:starEach (e :: es) X.env=(false,eval e X.env) :: starEach es X.env:=by rfl) (hpl:(backTo pos (starEach es X.env)).any (·.1)=false:=by rfl)
  (ht:eval (.Call (.Attribute o m apos) (e :: es) [] pos) X.env=(do
   let ov ← eval o X.env
   standAt apos.atName
   let (f,first) ← holding [ov] (getMethod ov m pl)
   callWith pos f first (backTo pos (starEach (e :: es) X.env)) (backToKw pos (keywordEach [] X.env))):=by rfl) :
  PE X (.Call (.Attribute o m apos) (e :: es) [] pos) (rE C m sp dvs E ta t):=by
 intro pins s σ H Q I h
 refine PySem.W.methodCall_KW (pl:=pl) (thn (he pins s σ H _ I h) fun u s1 ⟨x,H1,I1,rx,a,dx,fs,ex,ea,l,q⟩=>?_) ht
 subst ex
 obtain rfl:u=Value.ref a:=rx
 refine lA I1 ea c hm l ?_
 refine X6 (first:=[.ref a]) (h₀:=X.base) I.ok.mod.kin hm.kp (thn (ha pos pins s1 σ H1 _ I1 q) fun us s2 ⟨vs,H2,I2,r,q2⟩=>⟨I2.kIn,?_⟩) hst hpl
 exact qq (us:=.ref a :: us) (vs:=.ref a :: vs) F hr hb hd hx I2 (.cons rfl r) q2
theorem oq {pl:Sem Bool} (he:PE X o ta) (c:Cls X.K C) (hm:Meth X.K C m f) (F:FnOk X.prog X.w X.K X.mg X.base CX k f fd ps sp) (hr:Room k X.A) (hb:Binds X.K fd ps ds) (hd:aQ dvs ds) (hx:ie CX X E)
  (ht:eval (.Call (.Attribute o m apos) [] [] pos) X.env=(do
   let ov ← eval o X.env
   standAt apos.atName
   let (f,first) ← holding [ov] (getMethod ov m pl)
   callWith pos f first (backTo pos (starEach [] X.env)) (backToKw pos (keywordEach [] X.env))):=by rfl) :
  PE X (.Call (.Attribute o m apos) [] [] pos) (rE C m sp dvs E ta rO):=by
 intro pins s σ H Q I h
 refine PySem.W.methodCall_KW (pl:=pl) (thn (he pins s σ H _ I h) fun u s1 ⟨x,H1,I1,rx,a,dx,fs,ex,ea,l,q⟩=>?_) ht
 subst ex
 obtain rfl:u=Value.ref a:=rx
 refine lA I1 ea c hm l ?_
 exact PySem.W.callWith_K0 (first:=[.ref a]) I1.kIn hm.kp (qq (us:=[.ref a]) (vs:=[.ref a]) F hr hb hd hx I1 (.cons rfl .nil) q)
structure Mk (K:Xd) (C f:Addr):Prop where
 makes:PySem.W.makesIn K C=true
 init:PySem.W.findIn K (.ref C) "__init__" = some (some (.ref f))
 fn:PySem.W.isFn K (.ref f)=true
 kp:PySem.W.keepIn K (.ref C)=true
theorem oU {pins:Xq} {σ:St} {H:Hp} {s:Shared} {Q:VK} {us:Wk} {vs:List V} (M:Mk X.K C f) (F:FnOk X.prog X.w X.K X.mg X.base CX k f fd ps sp) (hr:Room (k+1) X.A) (hb:Binds X.K fd ps ds) (hd:aQ dvs ds)
  (hx:ie CX X E) (I:Inv X pins σ H s) (r:aQ vs us)
  (h:∀ x dx,H x=none->H dx=none->dx ≠ x->sp (.ref x :: (vs++dvs)) (upd (upd H dx (.own x)) x (.ins C dx [])) (fun v H2=>v=.non/\Q (.ref x) H2) E) :
  wpAny (model X.prog X.w) X.A (call (.ref C) us) (EP X pins σ Q) X.xe s:=by
 have hq:=h (s.heap.objs.size+1) s.heap.objs.size (I.hok.fresh (Xc _)) (I.hok.fresh (Zl _)) (ZS (Yg _))
 have I2:=Inv.made (C:=C) I
 have r2:aQ (V.ref (s.heap.objs.size+1) :: (vs++dvs)) (Value.ref (s.heap.objs.size+1) :: (us++ds)):=.cons rfl (r.append hd)
 have hl:(Value.ref (s.heap.objs.size+1) :: us++ds).length=ps.length:=by
  have e:=r2.length
  rw [F.len _ _ _ _ hq] at e
  exact e.symm
 refine wpAny_call (vb (f:=f) I.kIn M.makes M.init (beq_iff_eq.mp M.fn) (codeAny_mono (F.run _ X.stack _ _ ⟨Value.ref (s.heap.objs.size+1) :: us,[]⟩ (Value.ref (s.heap.objs.size+1) :: (us++ds)) _ _ E (hr.make C us [])
  (I2.env0.make C us []) (hb _ (Value.ref (s.heap.objs.size+1) :: us) I2.kIn hl) r2 hq) fun r s' hq'=>?_))
 cases r with
 | error e=>exact hx pins σ _ _ e s' I2 hq'
 | ok fl =>
  cases fl with
  | ret u =>
   obtain ⟨v,H',I3,rv,ev,q3⟩:=I2.after hq'
   subst ev
   exact ⟨rv,⟨V.ref (s.heap.objs.size+1),H',I3,rfl,q3⟩⟩
  | next=>exact False.elim hq'
  | brk=>exact False.elim hq'
  | cont=>exact False.elim hq'
theorem xG (M:Mk X.K C f) (F:FnOk X.prog X.w X.K X.mg X.base CX k f fd ps sp) (hr:Room (k+1) X.A) (hg:Gl X x) (hm:X.mg x=some (.ref C)) (hb:Binds X.K fd ps ds) (hd:aQ dvs ds) (hx:ie CX X E)
  (ha:PA X (e :: es) t) (hdb:(x == ("__debug__" : Str))=false:=by decide) (he:starEach (e :: es) X.env=(false,eval e X.env) :: starEach es X.env:=by rfl) (hpl:(backTo pos (starEach es X.env)).any (·.1)=false:=by rfl) :
  PE X (.Call (.Name x p) (e :: es) [] pos) (uC C sp dvs E t):=by
 intro pins s σ H Q I h
 refine Xw (ky I hg hm ?_ hdb)
 refine X6 (h₀:=X.base) I.ok.mod.kin M.kp (thn (ha pos pins s σ H _ I h) fun us s1 ⟨vs,H1,I1,r,q⟩=>⟨I1.kIn,?_⟩) he hpl
 exact oU M F hr hb hd hx I1 r q
theorem vK (M:Mk X.K C f) (F:FnOk X.prog X.w X.K X.mg X.base CX k f fd ps sp) (hr:Room (k+1) X.A) (hg:Gl X x) (hm:X.mg x=some (.ref C)) (hb:Binds X.K fd ps ds) (hd:aQ dvs ds) (hx:ie CX X E)
  (hdb:(x == ("__debug__" : Str))=false:=by decide):PE X (.Call (.Name x p) [] [] pos) (uC C sp dvs E rO):=by
 intro pins s σ H Q I h
 refine Xw (ky I hg hm ?_ hdb)
 exact PySem.W.callWith_K0 I.kIn M.kp (oU (us:=[]) M F hr hb hd hx I .nil h)
end
structure FnScope (N P:List Str) (sc:Scope):Prop where
 kind:sc.kind=.function
 co:sc.isCoroutine=false
 gen:sc.isGenerator=false
 nd:N.Nodup
 pre:N.take P.length=P
 par:∀ x∈P,sc.names.lookup x=some .local\/sc.names.lookup x=some .cell
 nofree:∀ y∈sc.names,y.2 ≠ .free
theorem l7 {kindOf:Str->Option NameKind} {x:Str}:∀ {binds:List (Str×Value)} {m:Wx},(∀ v,(x,v) ∉ binds)->bindL kindOf binds m x=m x
 | [],_,_=>rfl
 | (n,v) :: r,m,h=>by
  unfold bindL
  rw [l7 fun w hw=>h w (Zw _ hw)]
  split
  ·have:x ≠ n:=by rintro rfl;exact h v Zx
   simp [this]
  ·rfl
theorem l9 {kindOf:Str->Option NameKind} {x:Str}:∀ {binds:List (Str×Value)} {m:Wx},(∀ v,(x,v) ∉ binds)->bindC kindOf binds m x=m x
 | [],_,_=>rfl
 | (n,v) :: r,m,h=>by
  unfold bindC
  rw [l9 fun w hw=>h w (Zw _ hw)]
  split
  ·rfl
  ·have:x ≠ n:=by rintro rfl;exact h v Zx
   simp [this]
theorem mK {kindOf:Str->Option NameKind} {x:Str} {v:Value}:∀ {P:List Str} {vs:Wk} {i:Nat} {m:Wx},P.Nodup->P[i]?=some x->vs[i]?=some v->kindOf x=some .local →
  bindL kindOf (P.zip vs) m x=some v
 | [],_,_,_,_,h,_,_=>by simp at h
 | _ :: _,[],_,_,_,_,h,_=>by simp at h
 | p :: P,w :: vs,0,m,nd,h1,h2,hk=>by
  simp at h1 h2;subst h1;subst h2
  show bindL kindOf ((p,w) :: P.zip vs) m p=_
  unfold bindL
  rw [l7 fun v hv=>(Zd.mp nd).1 (XI hv).1,Zr hk]
  simp
 | p :: P,w :: vs,i+1,m,nd,h1,h2,hk=>by
  show bindL kindOf ((p,w) :: P.zip vs) m x=_
  unfold bindL
  exact mK (i:=i) (Zd.mp nd).2 (by simpa using h1) (by simpa using h2) hk
theorem mO {kindOf:Str->Option NameKind} {x:Str} {v:Value}:∀ {P:List Str} {vs:Wk} {i:Nat} {m:Wx},P.Nodup->P[i]?=some x->vs[i]?=some v->kindOf x ≠ some .local →
  bindC kindOf (P.zip vs) m x=some v
 | [],_,_,_,_,h,_,_=>by simp at h
 | _ :: _,[],_,_,_,_,h,_=>by simp at h
 | p :: P,w :: vs,0,m,nd,h1,h2,hk=>by
  simp at h1 h2;subst h1;subst h2
  show bindC kindOf ((p,w) :: P.zip vs) m p=_
  unfold bindC
  rw [l9 fun v hv=>(Zd.mp nd).1 (XI hv).1,Zo hk]
  simp
 | p :: P,w :: vs,i+1,m,nd,h1,h2,hk=>by
  show bindC kindOf ((p,w) :: P.zip vs) m x=_
  unfold bindC
  exact mO (i:=i) (Zd.mp nd).2 (by simpa using h1) (by simpa using h2) hk
noncomputable def start (N:List Str) (vs:List V):St:=vs.map some++List.replicate (N.length - vs.length) none
noncomputable def iP (CX:CXT) (P:Program) (w:World) (K:Xd) (mg:Wx) (base:Heap) (N:List Str) (qual:Str) (scope:Scope) (f:Addr) (cd:Value) (A:Around) (outer:List Env) (s:Shared) (H:Hp) (E:XK):Cx where
 prog:=P
 w:=w
 K:=K
 mg:=mg
 base:=base
 A:=A.deeper (envOfC qual scope s.heap.objs.size f cd)
 N:=N
 s₀:=s
 H₀:=H
 env:=envOfC qual scope s.heap.objs.size f cd
 outer:=outer
 stack:=envOfC qual scope s.heap.objs.size f cd :: outer
 ex:=[]
 calm:=true
 fn:=fun _=>true
 pn:=[]
 xe:=fun e s'=>wpAny (model P w) (A.deeper (envOfC qual scope s.heap.objs.size f cd)) (leaving (envOfC qual scope s.heap.objs.size f cd) e) (fun _ s''=>CX outer H s E e s'') (fun e' s''=>CX outer H s E e' s'') s'
theorem o9 {sc:Scope} {n:Nat} {x:Str} (h:sc.names.lookup x=some .cell):∃ c,(cellsFrom n sc.names []).lookup x=some c:=by
 have q:=PySem.W.cellsFrom_some sc.names n [] (.inl h)
 exact Yo.mp q
theorem sW {CX:CXT} {P:Program} {w:World} {K:Xd} {mg:Wx} {base:Heap} {N ps:List Str} {qual:Str} {scope:Scope} {f:Addr} {cd:Value} {A:Around} {outer:List Env} {s s1:Shared} {H:Hp} {E:XK} {us:Wk} {vs:List V}
  (S:FnScope N ps scope) (hd:A.handled=none) (e0:Env0 P w K mg base A outer s H) (hl:vs.length=ps.length) (r:aQ vs us)
  (x:InCallC s s.heap.objs.size (bindL (envOfC qual scope s.heap.objs.size f cd).kindOf (ps.zip us) fun _=>none) (cellsFrom (s.heap.objs.size+1) scope.names []) (bindC (envOfC qual scope s.heap.objs.size f cd).kindOf (ps.zip us) fun _=>none) s1) :
  Inv (iP CX P w K mg base N qual scope f cd A outer s H E) [] (start N vs) H s1:=by
 have hpl:ps.length<=N.length:=by have:=congrArg List.length S.pre;rw [Yf] at this;lia
 obtain ⟨h1,tk,rfl,hk⟩:=x.done
 have noA:∀ b:Addr,b ∉ (iP CX P w K mg base N qual scope f cd A outer s H E).ex:=fun b z=>absurd (show b∈([]:Wm) from z) (by simp)
 refine ⟨⟨e0.mod,S.kind,rfl,rfl,Zl _,fun y z c h1 h2=>?_,fun y hy=>?_,fun y c _ h=>?_,fun _=>hd,Around.frames_deeper e0.frames,.inr ⟨rfl,rfl⟩,fun b z=>absurd z (noA b),e0.bs,e0.bsz,fun b _ _=>noA b,fun b z=>absurd z (noA b),e0.funs,e0.frf⟩,
  rfl,e0.bare,Un.kept hk,⟨_,x.toInCall.ns,fun i y v h1 h2 h3=>?_⟩,fun y c h=>⟨_,x.cell y c h⟩,e0.hok.fresh (Zl _),fun y c h=>?_,fun p hp=>absurd (show p∈([]:Xq) from hp) (by simp),e0.hok.kept hk,?_⟩
 ·exact name_of_addr x.apart (Y2 h1) (Y2 h2)
 ·have hy:scope.names.lookup y=some .cell\/scope.names.lookup y=some .free:=hy
  rcases hy with hy | hy
  ·exact o9 hy
  ·exact absurd rfl (S.nofree _ (Y2 hy))
 ·exact Y9 (x.above y c (Y2 h))
 ·have hi:i < vs.length:=by
   unfold start at h2
   by_cases hi:i < vs.length
   ·exact hi
   ·rw [Yw (by simpa using hi)] at h2
    rw [Yb] at h2
    split at h2 <;> cases h2
  have ha:vs[i]?=some v:=by
   unfold start at h2
   rw [Z3 (by simpa using hi),ZE] at h2
   cases e:vs[i]? with
   | none=>rw [e] at h2;cases h2
   | some a=>rw [e] at h2;cases h2;rfl
  obtain ⟨u,hu,rv⟩:=r.get ha
  have hp:ps[i]?=some y:=by
   rw [← S.pre,List.getElem?_take_of_lt (by lia)];exact h1
  have ndP:ps.Nodup:=by rw [← S.pre];exact S.nd.sublist (List.take_sublist _ _)
  refine ⟨u,rv,?_⟩
  rcases S.par y (YC hp) with k | k
  ·exact .inl ⟨k,mK ndP hp hu k⟩
  ·obtain ⟨c,e⟩:=o9 (n:=s.heap.objs.size+1) k
   refine .inr ⟨.inl k,c,e,?_⟩
   have q:=x.cell y c e
   rw [mO ndP hp hu (by show scope.names.lookup y ≠ _;rw [k];decide)] at q
   exact q
 ·exact e0.hok.fresh (Y9 (x.above y c (Y2 h)))
 ·unfold start
  show _=N.length
  rw [Zy,Zv,YV]
  lia
theorem yV {CX:CXT} {P:Program} {w:World} {K:Xd} {mg:Wx} {base:Heap} {k:Nat} {f:Addr} {name qual:Str} {params:Arguments} {body:List Stmt} {scope:Scope} {dV kV doc pm cdv ct oc:Value} {an od:Option Addr}
  {osl:Array (Wj)} {N ps:List Str} {sp:Sp} (lk:K.lookup f=some ⟨oc,od,.func (PySem.W.fnOf name qual params body scope dV kV doc pm an cdv ct),osl⟩) (hcd:PySem.W.codeIn K cdv qual=true) (S:FnScope N ps scope)
  (len:∀ vs H Q E,sp vs H Q E->vs.length=ps.length)
  (hbody:∀ (A:Around) (outer:List Env) (s:Shared) (H:Hp) (vs:List V) (Q:VK) (E:XK),Room k (A.deeper (envOfC qual scope s.heap.objs.size f cdv))->sp vs H Q E →
   ∃ t,PSs (iP CX P w K mg base N qual scope f cdv A outer s H E) body t/\t { nx:=fun _ H'=>Q .non H',rt:=Q } (start N vs) H) :
  FnOk P w K mg base CX (k+1) f (PySem.W.fnOf name qual params body scope dV kV doc pm an cdv ct) ps sp:=by
 refine ⟨len,fun A outer s H args us vs Q E hr e0 hb r hsp=>?_⟩
 have hl:=len _ _ _ _ hsp
 have KX:K.In s.heap:=e0.mod.kin.keeps fun b o e=>(e0.bs b o e).1
 have lim:s.heap.NoLimit:=e0.mod.nolimit.keeps fun b o e=>(e0.bs b o e).1
 have hkind:∀ y∈ps.zip us,scope.names.lookup y.1=some .local\/(scope.names.lookup y.1=some .cell/\((cellsFrom (s.heap.objs.size+1) scope.names []).lookup y.1).isSome=true):=fun ⟨n,v⟩ hy=>by
  rcases S.par n (XI hy).1 with q | q
  ·exact .inl q
  ·exact .inr ⟨q,PySem.W.cellsFrom_some _ _ _ (.inl q)⟩
 refine codeAny_call_function hr.depth (KX _ _ lk) rfl S.co S.gen rfl (PySem.W.codeRec_of KX hcd) (hb _ _ _ _ ?_)
 refine wpAny_newFunctionEnv_cells S.kind hkind fun env he s1 x=>?_
 subst he
 refine ⟨lim.keeps x.toInCall.keep,codeAny_func ?_⟩
 obtain ⟨t,ht,hq⟩:=hbody A outer s H vs Q E (hr.deeper _) hsp
 have I:Inv (iP CX P w K mg base N qual scope f cdv A outer s H E) [] (start N vs) H s1:=sW S hr.hd e0 hl r x
 refine YE (ht [] s1 (start N vs) H _ I hq) (fun fl s' hs=>?_) fun e s' hs=>hs
 have fin:∀ {σ':St} {H':Hp} {v:V} {u:Value},Inv (iP CX P w K mg base N qual scope f cdv A outer s H E) [] σ' H' s'->RelV v u->Q v H'->CE outer P w H s Q u s' :=
  fun {σ' H' v u} J rv q=>⟨v,H',J.os,J.bare,J.base,J.hok,rv,q⟩
 cases fl with
 | ret u =>
  obtain ⟨v,σ',H',J,rv,q⟩:=hs
  exact fin J rv q
 | next =>
  obtain ⟨σ',H',J,q⟩:=hs
  exact fin (v:=V.non) (u:=Value.none) J rfl q
 | brk =>
  obtain ⟨_,_,_,q⟩:=hs
  exact False.elim q
 | cont =>
  obtain ⟨_,_,_,q⟩:=hs
  exact False.elim q
section
variable {X:Cx} {x:Str} {p pos:Pos} {e:Expr} {es:List Expr} {t:TA} {id T:String} {r:List V->Hp->VK->Prop}
noncomputable def tCB (r:List V->Hp->VK->Prop) (t:TA):TE:=fun σ H Q=>t σ H fun vs H1=>r vs H1 Q
theorem nS (hc:dP X (.builtin id) r) (hg:Gl X x) (hm:X.mg x=none) (hv:bootBuiltins x=some (.builtin id)) (ha:PA X (e :: es) t) (hn:x ≠ "__name__" := by decide) (hdb:(x == ("__debug__" : Str))=false:=by decide)
  (he:starEach (e :: es) X.env=(false,eval e X.env) :: starEach es X.env:=by rfl) (hpl:(backTo pos (starEach es X.env)).any (·.1)=false:=by rfl):PE X (.Call (.Name x p) (e :: es) [] pos) (tCB r t):=by
 intro pins s σ H Q I h
 refine Xw (jU I hg hm hv ?_ hn hdb)
 exact PyProof.Rows.callWith_builtin1 (thn (ha pos pins s σ H _ I h) fun us s1 ⟨vs,H1,I1,r1,q1⟩=>hc pins s1 σ H1 vs us Q I1 r1 q1) he hpl
theorem sv (hc:dP X (.type T) r) (hg:Gl X x) (hm:X.mg x=none) (hv:bootBuiltins x=some (.type T)) (ha:PA X (e :: es) t) (hn:x ≠ "__name__" := by decide) (hdb:(x == ("__debug__" : Str))=false:=by decide)
  (he:starEach (e :: es) X.env=(false,eval e X.env) :: starEach es X.env:=by rfl) (hpl:(backTo pos (starEach es X.env)).any (·.1)=false:=by rfl):PE X (.Call (.Name x p) (e :: es) [] pos) (tCB r t):=by
 intro pins s σ H Q I h
 refine Xw (jU I hg hm hv ?_ hn hdb)
 exact YF (thn (ha pos pins s σ H _ I h) fun us s1 ⟨vs,H1,I1,r1,q1⟩=>hc pins s1 σ H1 vs us Q I1 r1 q1) he hpl
end
end L2
namespace HT
open PySem PyProof.Rows
section
variable {prog:Program} {w:World} {A:Around} {E:Y7} {s:Shared}
noncomputable def sIx (n d:Nat):Option Int->Nat
 | none=>d
 | some v=>if v < 0 then (v+(n:Int)).toNat else min v.toNat n
end
end HT
namespace L2
open PySem PySem.Spec PyProof.Rows
noncomputable abbrev TO:=St->Hp->(Option Int->Hp->Prop)->Prop
noncomputable def PO (X:Cx) (e:Option Expr) (t:TO):Prop :=
 ∀ (pins:Xq) (s:Shared) (σ:St) (H:Hp) (Q:Option Int->Hp->Prop),Inv X pins σ H s->t σ H Q →
  wpAny (model X.prog X.w) X.A (evalPart e X.env) (fun u s'=>∃ o H',Inv X pins σ H' s'/\IsPart u o/\Q o H') X.xe s
noncomputable def xI:TO:=fun _ H Q=>Q none H
noncomputable def BN (t:TE):TO:=fun σ H Q=>t σ H fun x H1=>∃ i,x=.int i/\Q (some i) H1
section
variable {X:Cx} {e:Expr} {te:TE} {lo hi:Option Expr} {tl th:TO} {pos p2:Pos}
theorem wX:PO X none xI:=by
 intro pins s σ H Q I h
 rw [evalPart_none]
 exact Zb ⟨none,H,I,.none,h⟩
theorem yb (h:PE X e te):PO X (some e) (BN te):=by
 intro pins s σ H Q I hw
 rw [evalPart_some]
 refine thn (h pins s σ H _ I hw) fun u s1 ⟨x,H1,I1,r1,q1⟩=>?_
 obtain ⟨i,rfl,q⟩:=q1
 obtain ⟨t,rfl⟩:=r1
 exact ⟨some i,H1,I1,.int i t,q⟩
noncomputable def SlR (X:Cx) (r:V->Option Int->Option Int->Hp->VK->Prop):Prop :=
 ∀ (pins:Xq) (s:Shared) (σ:St) (H:Hp) (x:V) (v vl vu:Value) (lo hi:Option Int) (sl:Addr) (Q:VK),Inv X pins σ H s->RelV x v->s.heap.IsSliceOf sl vl vu .none->IsPart vl lo->IsPart vu hi->r x lo hi H Q →
  ∃ T id,typeLookup (.type T) "__getitem__" = pure (some (.builtin id))/\s.TypeIs v T/\wpAny (model X.prog X.w) X.A (getItem v (.ref sl)) (EP X pins σ Q) X.xe s
theorem SlR.or {r r':V->Option Int->Option Int->Hp->VK->Prop} (h:SlR X r) (h':SlR X r'):SlR X (fun x lo hi H Q=>r x lo hi H Q\/r' x lo hi H Q):=by
 intro pins s σ H x v vl vu lo hi sl Q I rx hs pl pu q
 rcases q with q | q
 ·exact h pins s σ H x v vl vu lo hi sl Q I rx hs pl pu q
 ·exact h' pins s σ H x v vl vu lo hi sl Q I rx hs pl pu q
noncomputable def tSl (r:V->Option Int->Option Int->Hp->VK->Prop) (te:TE) (tl th:TO):TE:=fun σ H Q=>te σ H fun x H1=>tl σ H1 fun l H2=>th σ H2 fun u H3=>r x l u H3 Q
theorem tW {r:V->Option Int->Option Int->Hp->VK->Prop} (hr:SlR X r) (he:PE X e te) (hl:PO X lo tl) (hu:PO X hi th):PE X (.Subscript e (.Slice lo hi none p2) pos) (tSl r te tl th):=by
 intro pins s σ H Q I h
 refine Subscript_ (thn (he pins s σ H _ I h) fun v s1 ⟨x,H1,I1,r1,q1⟩=>?_)
 refine wpAny_Slice (thn (hl pins s1 σ H1 _ I1 q1) fun vl s2 ⟨l,H2,I2,pl,q2⟩=>thn (hu pins s2 σ H2 _ I2 q2) fun vu s3 ⟨u,H3,I3,pu,q3⟩=>?_)
 rw [evalPart_none]
 refine Zb ?_
 have I4:Inv X pins σ H3 { s3 with heap:=s3.heap.push { cls:=.type "slice",data:=.fields #[vl,vu,.none] } }:=I3.kept (t':=s3.toks) fun b ob q=>Zi _ q
 obtain ⟨T,id,hT,ht,hg⟩:=hr pins { s3 with heap:=s3.heap.push { cls:=.type "slice",data:=.fields #[vl,vu,.none] } } σ H3 x v vl vu l u s3.heap.objs.size Q I4 r1 (Heap.IsSliceOf.new ..) pl pu q3
 show wpAny (model X.prog X.w) X.A (subscriptTail e (.Slice lo hi none p2) v (.ref s3.heap.objs.size)) (EP X pins σ Q) X.xe { s3 with heap:=s3.heap.push { cls:=.type "slice",data:=.fields #[vl,vu,.none] } }
 exact tail_any (ops:=[.ref s3.heap.objs.size,v]) ht hT hg (by with_unfolding_all rfl)
noncomputable def sY (xs:List V) (lo hi:Option Int):List V:=(xs.drop (HT.sIx xs.length 0 lo)).take (HT.sIx xs.length xs.length hi - HT.sIx xs.length 0 lo)
theorem ox (xs:List V) (lo hi:Option Int):(sY xs lo hi).length<=xs.length:=by
 unfold sY
 rw [Yf,YX]
 lia
end
noncomputable def ixN (n:Nat) (i:Int):Option Nat:=if 0<=i then (if i < n then some i.toNat else none) else if -(n:Int)<=i then some (i+n).toNat else none
noncomputable def atI {α:Type} (xs:List α) (i:Int):Option α:=(ixN xs.length i).bind fun j=>xs[j]?
theorem qG {n:Nat} {i:Int} {j:Nat} (h:ixN n i=some j):seqIndex? i n=some j/\j < n/\-(n:Int)<=i/\i < n:=by
 unfold ixN at h
 by_cases h0:0<=i
 ·rw [Zr h0] at h
  by_cases h1:i < n
  ·rw [Zr h1] at h
   have e:i.toNat=j:=Zn h
   exact ⟨by rw [seqIndex_of h0 h1,e],by lia,by lia,h1⟩
  ·rw [Zo h1] at h;cases h
 ·rw [Zo h0] at h
  by_cases h1:-(n:Int)<=i
  ·rw [Zr h1] at h
   have e:(i+n).toNat=j:=Zn h
   exact ⟨by rw [seqIndex_neg (by lia) h1,e],by lia,h1,by lia⟩
  ·rw [Zo h1] at h;cases h
theorem nc {α:Type} {xs:List α} {i:Int} {v:α} (h:atI xs i=some v):∃ j,seqIndex? i xs.length=some j/\xs[j]?=some v/\j < xs.length/\-(xs.length:Int)<=i/\i < xs.length:=by
 unfold atI at h
 cases e:ixN xs.length i with
 | none=>rw [e] at h;cases h
 | some j =>
  rw [e] at h
  obtain ⟨h1,h2,h3,h4⟩:=qG e
  exact ⟨j,h1,h,h2,h3,h4⟩
noncomputable def jF (b:Expr):Prop:=∀ o i,subscripted b false o i=operate [o,i] (getItem o i)
noncomputable def IxR (X:Cx) (r:R2):Prop :=
 ∀ (value slice:Expr) (pins:Xq) (s:Shared) (σ:St) (H:Hp) (x y:V) (v u:Value) (Q:VK),Inv X pins σ H s->RelV x v->RelV y u->r x y H Q →
  subscripted slice false v u=operate [v,u] (getItem v u)->wpAny (model X.prog X.w) X.A (subscriptTail value slice v u) (EP X pins σ Q) X.xe s
noncomputable def MtR (X:Cx) (id:String) (r:V->List V->Hp->VK->Prop):Prop :=
 ∀ (pins:Xq) (s:Shared) (σ:St) (H:Hp) (x:V) (xs:List V) (v:Value) (us:Wk) (Q:VK),Inv X pins σ H s->RelV x v->aQ xs us->r x xs H Q →
  wpAny (model X.prog X.w) X.A (call (.builtin id) (v :: us)) (EP X pins σ Q) X.xe s
section
variable {X:Cx} {a b:Expr} {ta tb:TE} {pos:Pos}
theorem IxR.or {r r':R2} (h:IxR X r) (h':IxR X r'):IxR X (fun x y H Q=>r x y H Q\/r' x y H Q):=by
 intro value slice pins s σ H x y v u Q I rx ry q hs
 rcases q with q | q
 ·exact h value slice pins s σ H x y v u Q I rx ry q hs
 ·exact h' value slice pins s σ H x y v u Q I rx ry q hs
theorem qw {r:R2} (hr:IxR X r) (ha:PE X a ta) (hb:PE X b tb) (hs:jF b):PE X (.Subscript a b pos) (tOp r ta tb):=by
 intro pins s σ H Q I h
 exact Subscript_ (AJ ha hb I h fun v u s2 x y H2 I2 rx ry q=>hr a b pins s2 σ H2 x y v u Q I2 rx ry q (hs _ _))
noncomputable def B8 (K:Xd):R2:=fun x y H Q=>∃ p xs i v,x=.ref p/\y=.int i/\SqL K H p xs/\atI xs i=some v/\Q v H
noncomputable def Ct (K:Xd):R2:=fun x y H Q=>∃ p xs i v,x=.ref p/\y=.int i/\SqT K H p xs/\atI xs i=some v/\Q v H
noncomputable def Cq:R2:=fun x y H Q=>∃ z i c,x=.str z/\y=.int i/\z.length<=sizeLine/\atI z.cps.toList i=some c/\Q (.str ⟨#[c]⟩) H
theorem xn:IxR X (B8 X.K):=by
 intro value slice pins s σ H x y v u Q I rx ry h hs
 obtain ⟨p,xs,i,z,rfl,rfl,hq,he,q⟩:=h
 cases rx
 obtain ⟨t,rfl⟩:=ry
 obtain ⟨its,r,pl,hz⟩:=I.list hq
 obtain ⟨j,h1,h2,h3,h4,h5⟩:=nc he
 obtain ⟨w,ew,rw'⟩:=r.get h2
 have hl:=r.length
 have hn:=jQ
 have fin:EP X pins σ Q w s:=⟨z,H,I,rw',q⟩
 by_cases h0:0<=i
 ·have hj:i.toNat=j:=by
   rw [seqIndex_of h0 h5] at h1
   exact Zn h1
  exact item_listR pl.isList h0 (by lia) (by rw [hj];simpa using ew) fin hs
 ·have hj:(i+(its.toArray.size:Int)).toNat=j:=by
   rw [seqIndex_neg (by lia) h4] at h1
   rw [ZV,← hl]
   exact Zn h1
  exact subscriptTail_builtinR (x:=w) pl.isList.typeIs slot_list_getitem.lookup
   (wpAny_getItem_list_neg (Q:=fun r s'=>r=w/\EP X pins σ Q r s') pl.isList (by lia) (by rw [ZV] <;> lia) (by lia) (by rw [hj];simpa using ew) ⟨rfl,fin⟩) hs
theorem Bj:IxR X (Ct X.K):=by
 intro value slice pins s σ H x y v u Q I rx ry h hs
 obtain ⟨p,xs,i,z,rfl,rfl,hq,he,q⟩:=h
 cases rx
 obtain ⟨t,rfl⟩:=ry
 obtain ⟨its,r,pl,hz⟩:=I.tuple hq
 obtain ⟨j,h1,h2,h3,h4,h5⟩:=nc he
 obtain ⟨w,ew,rw'⟩:=r.get h2
 have hl:=r.length
 have hn:=jQ
 have fin:EP X pins σ Q w s:=⟨z,H,I,rw',q⟩
 exact subscriptTail_builtinR (x:=w) pl.typeIs slot_tuple_getitem.lookup
  (getItem_tuple (j:=j) (Q:=fun r s'=>r=w/\EP X pins σ Q r s') pl (by lia) (by lia) (by rw [ZV,← hl];exact h1) (by simpa using ew) ⟨rfl,fin⟩) hs
theorem zt:IxR X Cq:=by
 intro value slice pins s σ H x y v u Q I rx ry h hs
 obtain ⟨z,i,c,rfl,rfl,hz,he,q⟩:=h
 obtain ⟨t,rfl⟩:=rx
 obtain ⟨t',rfl⟩:=ry
 obtain ⟨j,h1,h2,h3,h4,h5⟩:=nc he
 have hl:z.cps.toList.length=z.length:=by simp [Str.length]
 rw [hl] at h1 h4 h5
 have hn:=jQ
 exact tail_any (typeIs_str s z t) slot_str_getitem.lookup (getItem_str (c:=c) (by
  have e1:decide (i < -(2 ^ 63:Int))=false:=Ze (by lia)
  have e2:decide (i ≥ 2 ^ 63)=false:=Ze (by lia)
  rw [e1,e2,Bool.or_false]) (by rw [h1];simpa using h2) ⟨.str ⟨#[c]⟩,H,I.tok _,⟨_,rfl⟩,q⟩) hs
noncomputable def rIx (K:Xd):R2:=fun x y H Q=>B8 K x y H Q\/Ct K x y H Q\/Cq x y H Q
theorem nP:IxR X (rIx X.K):=xn.or (Bj.or zt)
theorem p6 (its:Wk) (n j:Nat) (u:Value):Obj.mapSeq (·.setIfInBounds j u) { cls:=.type "list",data:=.seq its.toArray n }={ cls:=.type "list",data:=.seq (its.set j u).toArray n }:=by
 simp [Obj.mapSeq]
theorem Inv.lst {pins:Xq} {σ:St} {H:Hp} {s:Shared} {p:Addr} {xs:List V} (I:Inv X pins σ H s) (h:H p=some (.lst xs)) :
  ∃ (its:Wk) (n:Nat),aQ xs its/\s.heap.get? p=some { cls:=.type "list",data:=.seq its.toArray n }/\xs.length<=sizeLine:=by
 obtain ⟨z,its,n,r,e⟩:=I.hok p _ h
 exact ⟨its,n,r,e,z⟩
theorem Inv.lstUpd {pins:Xq} {σ:St} {H:Hp} {s:Shared} {p:Addr} {xs ys:List V} {its its':Wk} {n n':Nat} {f:Obj->Obj} (I:Inv X pins σ H s) (h:H p=some (.lst xs))
  (ho:s.heap.get? p=some { cls:=.type "list",data:=.seq its.toArray n }) (hf:f { cls:=.type "list",data:=.seq its.toArray n }={ cls:=.type "list",data:=.seq its'.toArray n' }) (r:aQ ys its') (hz:ys.length<=sizeLine) (t:Nat) :
  Inv X pins σ (upd H p (.lst ys)) { s with heap:=s.heap.update p f,toks:=t }:=by
 have e:(s.heap.update p f).get? p=some { cls:=.type "list",data:=.seq its'.toArray n' }:=by
  rw [Heap.get?_update_self f ho (by rw [hf] <;> rfl),hf]
 refine I.write (x:=p) (e:=p) (by rw [h];trivial) (.inl rfl) (fun b u hb q=>(X1 _ _ (YW hb)).trans q) ⟨_,e⟩ ?_
 exact ⟨hz,its',n',r,e⟩
noncomputable def zd:V->V->V->Hp->(Hp->Prop)->Prop:=fun o i v H Q=>∃ p xs k j,o=.ref p/\i=.int k/\H p=some (.lst xs)/\ixN xs.length k=some j/\Q (upd H p (.lst (xs.set j v)))
theorem set_list:yh X zd:=by
 intro pins s σ H o i v ov iv u Q I ro ri rv h
 obtain ⟨p,xs,k,j,rfl,rfl,hp,hj,q⟩:=h
 cases ro
 obtain ⟨t,rfl⟩:=ri
 obtain ⟨its,n,r,ho,hz⟩:=I.lst hp
 obtain ⟨h1,h2,h3,h4⟩:=qG hj
 have hl:=r.length
 have hn:=jQ
 have I':Inv X pins σ (upd H p (.lst (xs.set j v))) { s with heap:=s.heap.update p (Obj.mapSeq (·.setIfInBounds j u)) } :=
  I.lstUpd hp ho (p6 its n j u) (r.set rv j) (by rw [Yu];exact hz) s.toks
 by_cases h0:0<=k
 ·have hk:k.toNat=j:=by
   rw [seqIndex_of h0 h4] at h1
   exact Zn h1
  exact PySem.W.ki_setAt ho h0 (by lia) (by rw [ZV,← hl];exact h4) (by rw [hk];exact ⟨_,I',q⟩)
 ·have hk:(k+(its.toArray.size:Int)).toNat=j:=by
   rw [seqIndex_neg (by lia) h3] at h1
   rw [ZV,← hl]
   exact Zn h1
  exact PySem.W.ki_setBack ho (by lia) (by rw [ZV,← hl];exact h3) (by lia) (by rw [hk];exact ⟨_,I',q⟩)
theorem mU (lo hi:Option Int) (n:Nat):(sliceBounds lo hi none n).1=((HT.sIx n 0 lo:Nat):Int)/\(sliceBounds lo hi none n).2.1=((HT.sIx n n hi:Nat):Int)/\(sliceBounds lo hi none n).2.2=1:=by
 refine ⟨?_,?_,rfl⟩
 ·cases lo with
  | none=>simp [sliceBounds,HT.sIx]
  | some i =>
   simp only [sliceBounds,HT.sIx,Option.getD_none,show (1:Int) > 0 by decide,if_true]
   by_cases h:i < 0
   ·simp only [h,if_true] <;> lia
   ·simp only [h,if_false] <;> lia
 ·cases hi with
  | none=>simp [sliceBounds,HT.sIx]
  | some i =>
   simp only [sliceBounds,HT.sIx,Option.getD_none,show (1:Int) > 0 by decide,if_true]
   by_cases h:i < 0
   ·simp only [h,if_true] <;> lia
   ·simp only [h,if_false] <;> lia
theorem lT (its:Wk) (lo hi:Option Int):slicePick its.toArray lo hi none=((its.drop (HT.sIx its.length 0 lo)).take (HT.sIx its.length its.length hi - HT.sIx its.length 0 lo)).toArray:=by
 obtain ⟨h1,h2,h3⟩:=mU lo hi its.toArray.size
 unfold slicePick
 rw [h1,h2,h3]
 simp only [sliceRange_one,pick_run,ZV] <;> rfl
noncomputable def CB (K:Xd):V->Option Int->Option Int->Hp->VK->Prop:=fun x lo hi H Q=>∃ a xs,x=.ref a/\SqL K H a xs/\∀ p,H p=none->Q (.ref p) (upd H p (.lst (sY xs lo hi)))
theorem yC:SlR X (CB X.K):=by
 intro pins s σ H x v vl vu lo hi sl Q I rx hs pl pu h
 obtain ⟨a,xs,rfl,hx,q⟩:=h
 cases rx
 obtain ⟨its,r,ht,hz⟩:=I.list hx
 have hlen:=r.length
 refine ⟨"list",_,slot_list_getitem.lookup,ht.isList.typeIs,?_⟩
 refine wpAny_getItem_list_slice ht.isList hs pl pu .none (by simp) ?_ (by rw [ZV] <;> lia)
 rw [lT,← hlen]
 refine ⟨.ref s.heap.objs.size,_,I.laid (t':=s.toks) (o:=.lst (sY xs lo hi)) (fun b ob q=>Zi _ q) (Zl _) ?_,rfl,q _ (I.hok.fresh (Zl _))⟩
 exact ⟨ZW (ox xs lo hi) hz,_,0,(r.drop (HT.sIx xs.length 0 lo)).take (HT.sIx xs.length xs.length hi - HT.sIx xs.length 0 lo),ZJ _ rfl⟩
noncomputable def ft:V->Bool
 | .non=>true
 | .bl _=>true
 | .int _=>true
 | .str _=>true
 | _=>false
noncomputable def eqV:V->V->Bool
 | .non,.non=>true
 | .bl a,.bl b=>a == b
 | .bl a,.int b=>(if a then 1 else 0) == b
 | .int a,.bl b=>a == (if b then 1 else 0)
 | .int a,.int b=>a == b
 | .str a,.str b=>a == b
 | _,_=>false
theorem AQ {A:Around} {s:Shared} {y x:V} {u v:Value} (ry:RelV y u) (rx:RelV x v) (fy:ft y=true) (fx:ft x=true):SeqAt.EqAt A s u v (eqV y x):=by
 cases y with
 | non =>
  cases ry
  cases x with
  | non=>cases rx;exact SeqAt.EqAt.same _
  | bl b=>cases rx;exact SeqAt.EqAt.none_bool b
  | int b=>obtain ⟨t,rfl⟩:=rx;exact SeqAt.EqAt.none_int b t
  | str b=>obtain ⟨t,rfl⟩:=rx;exact SeqAt.EqAt.none_str b t
  | _=>exact absurd (show false=true from fx) Za
 | bl a =>
  cases ry
  cases x with
  | non=>cases rx;exact SeqAt.EqAt.bool_none a
  | bl b=>cases rx;exact SeqAt.EqAt.bool_bool a b
  | int b=>obtain ⟨t,rfl⟩:=rx;exact SeqAt.EqAt.bool_int a b t
  | str b=>obtain ⟨t,rfl⟩:=rx;exact SeqAt.EqAt.bool_str a b t
  | _=>exact absurd (show false=true from fx) Za
 | int a =>
  obtain ⟨t',rfl⟩:=ry
  cases x with
  | non=>cases rx;exact SeqAt.EqAt.int_none a t'
  | bl b=>cases rx;exact SeqAt.EqAt.int_bool a t' b
  | int b=>obtain ⟨t,rfl⟩:=rx;exact SeqAt.EqAt.int_int a t' b t
  | str b=>obtain ⟨t,rfl⟩:=rx;exact SeqAt.EqAt.int_str a t' b t
  | _=>exact absurd (show false=true from fx) Za
 | str a =>
  obtain ⟨t',rfl⟩:=ry
  cases x with
  | non=>cases rx;exact SeqAt.EqAt.str_none a t'
  | bl b=>cases rx;exact SeqAt.EqAt.str_bool a t' b
  | int b=>obtain ⟨t,rfl⟩:=rx;exact SeqAt.EqAt.str_int a t' b t
  | str b=>obtain ⟨t,rfl⟩:=rx;exact SeqAt.EqAt.str_str a t' b t
  | _=>exact absurd (show false=true from fx) Za
 | _=>exact absurd (show false=true from fy) Za
noncomputable def eqU (x:V) (u:Value):Bool:=match u with
 | .none=>eqV .non x
 | .bool b=>eqV (.bl b) x
 | .int i _=>eqV (.int i) x
 | .str z _=>eqV (.str z) x
 | _=>false
theorem uI {x y:V} {u:Value} (r:RelV y u) (f:ft y=true):eqU x u=eqV y x:=by
 cases y with
 | non=>cases r;rfl
 | bl b=>cases r;rfl
 | int i=>obtain ⟨t,rfl⟩:=r;rfl
 | str z=>obtain ⟨t,rfl⟩:=r;rfl
 | _=>exact absurd (show false=true from f) Za
theorem jm {x:V}:∀ {xs:List V} {us:Wk},aQ xs us->xs.all ft=true->us.any (eqU x)=xs.any fun y=>eqV y x
 | _,_,.nil,_=>rfl
 | y :: xs,u :: us,.cons r t,f=>by
  rw [XY,ZY] at f
  rw [Ye,Ye,uI r f.1,jm t f.2]
theorem hR {A:Around} {s:Shared} {x:V} {v:Value} (rx:RelV x v) (fx:ft x=true):∀ {xs:List V} {us:Wk},aQ xs us->xs.all ft=true->∀ u∈us,SeqAt.EqAt A s u v (eqU x u)
 | _,_,.nil,_=>fun u hu=>by cases hu
 | y :: xs,u :: us,.cons r t,f=>fun u' hu=>by
  rw [XY,ZY] at f
  rcases Zh.mp hu with rfl | hu
  ·rw [uI r f.1];exact AQ r rx f.1 fx
  ·exact hR rx fx t f.2 u' hu
noncomputable def inV (x:V) (xs:List V):Bool:=xs.any fun y=>eqV y x
noncomputable def rIn (K:Xd) (neg:Bool):R2:=fun x y H Q=>∃ p xs,y=.ref p/\(SqL K H p xs\/SqT K H p xs)/\ft x=true/\xs.all ft=true/\Q (.bl (if neg then !inV x xs else inV x xs)) H
theorem sF:OpR X (compareOp .In) (rIn X.K false):=by
 intro pins s σ H x y v u Q I rx ry h
 obtain ⟨p,xs,rfl,hq,fx,fs,q⟩:=h
 cases ry
 rcases hq with hq | hq
 ·obtain ⟨its,r,pl,hz⟩:=I.list hq
  refine SeqAt.in_listAt (eqU x) pl.isList (fun w hw=>hR rx fx r fs w (by simpa using hw)) ⟨.bl _,H,I,rfl,?_⟩
  rw [show its.toArray.any (eqU x)=its.any (eqU x) by simp,jm r fs]
  exact q
 ·obtain ⟨its,r,pl,hz⟩:=I.tuple hq
  refine SeqAt.in_tupleAt (eqU x) pl (fun w hw=>hR rx fx r fs w (by simpa using hw)) ⟨.bl _,H,I,rfl,?_⟩
  rw [show its.toArray.any (eqU x)=its.any (eqU x) by simp,jm r fs]
  exact q
theorem ny:OpR X (compareOp .NotIn) (rIn X.K true):=by
 intro pins s σ H x y v u Q I rx ry h
 obtain ⟨p,xs,rfl,hq,fx,fs,q⟩:=h
 cases ry
 rcases hq with hq | hq
 ·obtain ⟨its,r,pl,hz⟩:=I.list hq
  refine SeqAt.notIn_listAt (eqU x) pl.isList (fun w hw=>hR rx fx r fs w (by simpa using hw)) ⟨.bl _,H,I,rfl,?_⟩
  rw [show its.toArray.any (eqU x)=its.any (eqU x) by simp,jm r fs]
  exact q
 ·obtain ⟨its,r,pl,hz⟩:=I.tuple hq
  refine SeqAt.notIn_tupleAt (eqU x) pl (fun w hw=>hR rx fx r fs w (by simpa using hw)) ⟨.bl _,H,I,rfl,?_⟩
  rw [show its.toArray.any (eqU x)=its.any (eqU x) by simp,jm r fs]
  exact q
theorem dP.or {f:Value} {r r':List V->Hp->VK->Prop} (h:dP X f r) (h':dP X f r'):dP X f (fun xs H Q=>r xs H Q\/r' xs H Q):=by
 intro pins s σ H xs us Q I rs q
 rcases q with q | q
 ·exact h pins s σ H xs us Q I rs q
 ·exact h' pins s σ H xs us Q I rs q
theorem nA:dP X (.type "list") (fun xs H Q=>∃ p ys,xs=[.ref p]/\(SqL X.K H p ys\/SqT X.K H p ys)/\∀ l,H l=none->Q (.ref l) (upd H l (.lst ys))):=by
 intro pins s σ H xs us Q I r h
 obtain ⟨p,ys,rfl,hq,q⟩:=h
 obtain ⟨u,rfl,rx⟩:=vals1 r
 cases rx
 have fin:∀ (its:Wk),aQ ys its->ys.length<=sizeLine->∀ (h':Heap) (c':Nat),(∀ b o',s.heap.get? b=some o'->h'.get? b=some o') →
   h'.get? s.heap.objs.size=some { cls:=.type "list",dict:=none,data:=.seq its.toArray c',slots:=#[] }->EP X pins σ Q (.ref s.heap.objs.size) { s with heap:=h' }:=fun its r' hz h' c' kp e =>
  ⟨.ref s.heap.objs.size,_,I.laid (t':=s.toks) kp (Zl _) (show bI X.prog X.w _ h' _ (.lst ys) from ⟨hz,its,c',r',e⟩),rfl,q _ (I.hok.fresh (Zl _))⟩
 rcases hq with hq | hq
 ·obtain ⟨its,r',pl,hz⟩:=I.list hq
  have hlen:=r'.length
  obtain ⟨o,ho,hc,n,hd⟩:=pl.isList
  exact call_list_seq p (.inl rfl) ho hc hd (fun h' c' kp e=>fin its r' hz h' c' kp e) (by simp only [ZV] <;> lia)
 ·obtain ⟨its,r',pl,hz⟩:=I.tuple hq
  have hlen:=r'.length
  obtain ⟨o,ho,hc,n,hd⟩:=pl
  exact call_list_seq p (.inr rfl) ho hc hd (fun h' c' kp e=>fin its r' hz h' c' kp e) (by simp only [ZV] <;> lia)
theorem l5:dP X (.type "tuple") (fun xs H Q=>∃ p ys,xs=[.ref p]/\((SqL X.K H p ys/\∀ l,H l=none->Q (.ref l) (upd H l (.tup ys)))\/(SqT X.K H p ys/\Q (.ref p) H))):=by
 intro pins s σ H xs us Q I r h
 obtain ⟨p,ys,rfl,h⟩:=h
 obtain ⟨u,rfl,rx⟩:=vals1 r
 cases rx
 rcases h with ⟨hq,q⟩ | ⟨hq,q⟩
 ·obtain ⟨its,r',pl,hz⟩:=I.list hq
  have hlen:=r'.length
  refine call_tuple_list pl.isList (fun h' kp=>?_) (by simp only [ZV] <;> lia)
  have I1:Inv X pins σ H { s with heap:=h' }:=I.kept (t':=s.toks) kp
  have I2:Inv X pins σ (upd H h'.objs.size (.tup ys)) { s with heap:=h'.push { cls:=.type "tuple",data:=.seq its.toArray } } :=
   I1.laid (t':=s.toks) (fun b o e=>Zi _ e) (Zl _) (show bI X.prog X.w _ _ _ (.tup ys) from ⟨hz,its,r',NoD.new _ _,IsTup.new _ _⟩)
  exact ⟨.ref h'.objs.size,_,I2,rfl,q _ (I1.hok.fresh (Zl _))⟩
 ·obtain ⟨its,r',pl,hz⟩:=I.tuple hq
  exact call_tuple_same pl ⟨.ref p,H,I,rfl,q⟩
noncomputable def tyV (K:Xd) (T:String) (x:V) (H:Hp):Prop:=match x with
 | .str _=>T = "str"
 | .int _=>T = "int"
 | .ref p=>(T = "list" ∧ ∃ xs,SqL K H p xs)\/(T = "tuple" ∧ ∃ o,K.lookup p=some o/\o.cls=.type "tuple" ∧ o.dict=none) ∨
   (T = "dict" ∧ ((∃ kvs,H p=some (.dK kvs))\/∃ kvs,H p=some (.dT kvs)))\/(T = "set" ∧ ∃ S n,H p=some (.set S n))
 | _=>False
theorem zq {pins:Xq} {σ:St} {H:Hp} {s:Shared} {T:String} {x:V} {v:Value} (I:Inv X pins σ H s) (r:RelV x v) (ty:tyV X.K T x H) :
  s.TypeIs v T/\∀ a,v=.ref a->∃ ob,s.heap.get? a=some ob/\ob.dict=none:=by
 cases x with
 | str z =>
  obtain ⟨t,rfl⟩:=r
  cases (show T = "str" from ty)
  exact ⟨typeIs_str s z t,fun _ e=>nomatch e⟩
 | int i =>
  obtain ⟨t,rfl⟩:=r
  cases (show T = "int" from ty)
  exact ⟨typeIs_int s i t,fun _ e=>nomatch e⟩
 | ref p =>
  cases r
  rcases ty with ⟨rfl,xs,hq⟩ | ⟨rfl,o,hk,hc,hd⟩ | ⟨rfl,hk⟩ | ⟨rfl,S,n,hk⟩
  ·obtain ⟨its,_,pl,_⟩:=I.list hq
   refine ⟨pl.isList.typeIs,fun a e=>?_⟩
   cases e
   obtain ⟨o,n,e,c,hd,_⟩:=pl
   exact ⟨o,e,hd⟩
  ·refine ⟨⟨o,I.kIn p o hk,hc⟩,fun a e=>?_⟩
   cases e
   exact ⟨o,I.kIn _ o hk,hd⟩
  ·have z:∃ o,s.heap.get? p=some o/\o.ExactDict:=by
    rcases hk with ⟨kvs,hk⟩ | ⟨kvs,hk⟩
    ·obtain ⟨_,_,_,_,o,_,_,e,ex,_⟩:=I.hok p _ hk
     exact ⟨o,e,ex⟩
    ·obtain ⟨_,_,_,_,o,_,_,e,ex,_⟩:=I.hok p _ hk
     exact ⟨o,e,ex⟩
   obtain ⟨o,e,ex⟩:=z
   refine ⟨⟨o,e,ex.1⟩,fun a e2=>?_⟩
   cases e2
   exact ⟨o,e,ex.2.1⟩
  ·obtain ⟨o,_,_,_,e,ex,_⟩:=I.hok p _ hk
   refine ⟨⟨o,e,ex.1⟩,fun a e2=>?_⟩
   cases e2
   exact ⟨o,e,ex.2.1⟩
 | _=>exact False.elim ty
noncomputable def tBM (K:Xd) (T:String) (r:V->List V->Hp->VK->Prop) (to:TE) (t:TA):TE:=fun σ H Q=>to σ H fun x H1=>tyV K T x H1/\t σ H1 fun xs H2=>r x xs H2 Q
variable {o e:Expr} {es:List Expr} {to:TE} {t:TA} {name:Str} {apos cpos:Pos} {T id:String} {r:V->List V->Hp->VK->Prop}
theorem wa (pa:PlainAttrs T) (slot:Slot T name id) (hty:typeOf (.builtin id)=pure (.type "method_descriptor")) (hm:MtR X id r) (ho:PE X o to) (ha:PA X (e :: es) t)
  (hbase:attributeBase o name X.env (eval o X.env)=eval o X.env:=by rfl)
  (hfew:((backTo cpos (starEach (e :: es) X.env)).all (fun x=>!x.1) && (backToKw cpos (keywordEach [] X.env)).all (fun x=>x.1.isSome)
   && decide ((e :: es).length+([]:List Keyword).length+(if ([]:List Keyword).isEmpty then 0 else 1) < 30))=true:=by rfl)
  (hline:(apos.endLine == cpos.line)=true:=by rfl) (hs:starEach (e :: es) X.env=(false,eval e X.env) :: starEach es X.env:=by rfl) (hplain:(backTo cpos (starEach es X.env)).any (·.1)=false:=by rfl) :
  PE X (.Call (.Attribute o name apos) (e :: es) [] cpos) (tBM X.K T r to t):=by
 intro pins s σ H Q I h
 refine wpAny_Call_method_late hbase hfew hline rfl (thn (ho pins s σ H _ I h) fun v s1 ⟨x,H1,I1,r1,ty,q1⟩=>?_)
 obtain ⟨h1,h2⟩:=zq I1 r1 ty
 refine ⟨T,id,pa,slot,hty,h1,h2,?_⟩
 have hA:=ha cpos pins s1 σ H1 _ I1 q1
 rw [hs] at hA ⊢
 refine Calls.callWith_builtin (by show (false || (backTo cpos (starEach es X.env)).any (·.1))=false;rw [hplain] <;> rfl) (Calls.evalArgs_plain ?_)
 exact thn hA fun us s2 ⟨vs,H2,I2,r2,q2⟩=>hm pins s2 σ H2 x vs v us Q I2 r1 r2 q2
end
noncomputable def MtM (X:Cx) (id:String) (r:V->List V->Hp->VK->Prop):Prop :=
 ∀ (pins:Xq) (s:Shared) (σ:St) (H:Hp) (x:V) (xs:List V) (v:Value) (us:Wk) (Q:VK),Inv X pins σ H s->RelV x v->aQ xs us->r x xs H Q →
  wpAny (model X.prog X.w) X.A (call (.builtin id) (v :: us)) (EP X pins σ Q) X.xe s
theorem aQ.nil_inv {us:Wk} (h:aQ [] us):us=[]:=by
 cases h
 rfl
theorem aQ.cons_inv {x:V} {xs:List V} {us:Wk} (h:aQ (x :: xs) us):∃ u vs,us=u :: vs/\RelV x u/\aQ xs vs:=by
 cases h with
 | cons r t=>exact ⟨_,_,rfl,r,t⟩
theorem aQ.one {x:V} {us:Wk} (h:aQ [x] us):∃ u,us=[u]/\RelV x u:=by
 obtain ⟨u,vs,rfl,r,t⟩:=h.cons_inv
 rw [t.nil_inv]
 exact ⟨_,rfl,r⟩
section
variable {X:Cx} {pins:Xq} {σ:St} {H:Hp} {s:Shared} {l b:Addr} {xs ys zs:List V}
theorem Inv.lset {its its':Wk} {n:Nat} {f:Array Value->Array Value} {t':Nat} (I:Inv X pins σ H s) (hH:H l=some (.lst xs))
  (e:s.heap.get? l=some { cls:=.type "list",data:=.seq its.toArray n }) (hf:f its.toArray=its'.toArray) (hv:aQ ys its') (hz:ys.length<=sizeLine) :
  Inv X pins σ (upd H l (.lst ys)) { s with heap:=s.heap.update l (Obj.mapSeq f),toks:=t' }:=by
 have q:=PySem.IsL.update e f
 rw [hf] at q
 refine I.write (x:=l) (e:=l) (by rw [hH];exact trivial) (.inl rfl) (fun b' u hb hu=>(X1 s.heap (Obj.mapSeq f) (YW hb)).trans hu) ⟨_,q⟩ ?_
 exact ⟨hz,its',_,hv,q⟩
theorem Inv.lnew {its:Wk} {t':Nat} (I:Inv X pins σ H s) (hv:aQ ys its) (hz:ys.length<=sizeLine) :
  Inv X pins σ (upd H s.heap.objs.size (.lst ys)) { s with heap:=s.heap.push { cls:=.type "list",data:=.seq its.toArray },toks:=t' } :=
 I.laid (fun _ _ q=>Zi _ q) (Zl _) ⟨hz,its,0,hv,ZJ _ rfl⟩
theorem Inv.fresh (I:Inv X pins σ H s):H s.heap.objs.size=none:=I.hok.fresh (Zl _)
theorem Inv.lstM (I:Inv X pins σ H s) (hH:H l=some (.lst xs)):xs.length<=sizeLine/\∃ (its:Wk) (n:Nat),aQ xs its/\xs.length=its.length/\s.heap.get? l=some { cls:=.type "list",data:=.seq its.toArray n }:=by
 obtain ⟨z,its,n,r,e⟩:=I.hok l _ hH
 exact ⟨z,its,n,r,r.length,e⟩
end
section
variable {X:Cx}
noncomputable def qM:V->List V->Hp->VK->Prop:=fun x vs H Q=>∃ l xs y,x=.ref l/\vs=[y]/\H l=some (.lst xs)/\xs.length < sizeLine/\Q .non (upd H l (.lst (xs++[y])))
theorem iG:MtM X "list.append" qM:=by
 intro pins s σ H x vs v us Q I rx rv h
 obtain ⟨l,xs,y,rfl,rfl,hH,hz,q⟩:=h
 cases rx
 obtain ⟨u,rfl,ru⟩:=rv.one
 obtain ⟨z,its,n,r,hl,e⟩:=I.lstM hH
 refine call_meets F.slot_list_append ⟨_,e,rfl⟩ F.entry_list_append (F.args_list_append_2 _ _) (PySem.list_append l its.toArray n u (by rw [ZV];lia)) ⟨e,?_⟩
 refine ⟨.non,_,I.lset (its':=its++[u]) hH e (by simp) (r.append (.cons ru .nil)) ?_,rfl,q⟩
 rw [Zy,Zj]
 exact Nat.succ_le_of_lt hz
noncomputable def BU:R2:=fun x y H Q=>∃ l b xs zs,x=.ref l/\y=.ref b/\H l=some (.lst xs)/\H b=some (.lst zs)/\xs.length+zs.length<=sizeLine/\∀ p,H p=none->Q (.ref p) (upd H p (.lst (xs++zs)))
theorem AF:OpR X (binaryOp .Add) BU:=by
 intro pins s σ H x y v u Q I rx ry h
 obtain ⟨l,b,xs,zs,rfl,rfl,hH,hB,hz,q⟩:=h
 cases rx
 cases ry
 obtain ⟨z,its,n,r,hl,e⟩:=I.lstM hH
 obtain ⟨z2,its2,n2,r2,hl2,e2⟩:=I.lstM hB
 refine PySem.P.add_list e e2 ?_ (by rw [ZV,ZV];lia)
 have ea:its.toArray++its2.toArray=(its++its2).toArray:=by simp
 rw [ea]
 exact ⟨.ref _,_,I.lnew (t':=s.toks) (r.append r2) (by rw [Zy];omega),rfl,q _ I.fresh⟩
theorem len_rep {α:Type} (xs:List α) (k:Nat):(List.replicate k xs).flatten.length=k * xs.length:=by
 induction k with
 | zero=>simp
 | succ k ih=>rw [Xj,ZU,Zy,ih,Nat.succ_mul,Nat.add_comm]
end
section
variable {prog:Program} {w:World} {A:Around} {E:Y7} {s:Shared}
set_option maxRecDepth 100000 in
end
section
variable {κ:Type} [DecidableEq κ]
noncomputable def gg (kvs:List (κ×V)) (k:κ):Option V:=(kvs.find? fun kv=>decide (kv.1=k)).map (·.2)
noncomputable def putK (kvs:List (κ×V)) (k:κ) (v:V):List (κ×V) :=
 if (kvs.any fun kv=>decide (kv.1=k))=true then kvs.map (fun kv=>if kv.1=k then (kv.1,v) else kv) else kvs++[(k,v)]
theorem iy {p:κ×V} {r:List (κ×V)} {k:κ} (e:p.1=k):gg (p :: r) k=some p.2:=by simp [gg,Z0,e]
theorem lD {p:κ×V} {r:List (κ×V)} {k:κ} (e:¬ p.1=k):gg (p :: r) k=gg r k:=by simp [gg,Z0,e]
theorem ot (k:κ):∀ kvs:List (κ×V),(kvs.any fun kv=>decide (kv.1=k))=(gg kvs k).isSome
 | []=>rfl
 | p :: r=>by
  rw [Ye]
  by_cases e:p.1=k
  ·simp only [iy e,ZL e,Bool.true_or,Option.isSome_some]
  ·rw [lD e,Ze e,Bool.false_or];exact ot k r
theorem il (kvs:List (κ×V)) (k:κ) (v:V):(putK kvs k v).length<=kvs.length+1:=by
 unfold putK
 split
 ·rw [Zv];exact YK _ _
 ·rw [Zy,Zk,Yi];exact Zl _
theorem gD.isSome_eq {o:Option V} {u:Wj} (r:gD o u):o.isSome=u.isSome:=by
 cases o with
 | none=>cases u with
  | none=>rfl
  | some _=>exact (show False from r).elim
 | some _=>cases u with
  | none=>exact (show False from r).elim
  | some _=>rfl
theorem gD.getD {o:Option V} {u:Wj} {d:V} {d':Value} (r:gD o u) (rd:RelV d d'):RelV (o.getD d) (u.getD d'):=by
 cases o with
 | none=>cases u with
  | none=>exact rd
  | some _=>exact (show False from r).elim
 | some _=>cases u with
  | none=>exact (show False from r).elim
  | some _=>exact r
theorem KV.val {kvs:List (κ×V)} {vs:List (κ×Value)} (r:KV kvs vs) (k:κ):gD (gg kvs k) (valueAt vs k):=by
 unfold KV at r
 induction r with
 | nil=>exact True.intro
 | @cons p q ps qs h t ih =>
  obtain ⟨h1,h2⟩:=h
  by_cases e:p.1=k
  ·have e':q.1=k:=h1.symm.trans e
   have b:valueAt (q :: qs) k=some q.2:=by simp [valueAt,Z0,e']
   rw [iy e,b];exact h2
  ·have e':¬ q.1=k:=fun z=>e (h1.trans z)
   have b:valueAt (q :: qs) k=valueAt qs k:=by simp [valueAt,Z0,e']
   rw [lD e,b];exact ih
theorem KV.any {kvs:List (κ×V)} {vs:List (κ×Value)} (r:KV kvs vs) (k:κ):(kvs.any fun kv=>decide (kv.1=k))=vs.any fun kv=>decide (kv.1=k):=by
 unfold KV at r
 induction r with
 | nil=>rfl
 | cons h t ih=>rw [Ye,Ye,ih,h.1]
theorem KV.repl {kvs:List (κ×V)} {vs:List (κ×Value)} (r:KV kvs vs) (k:κ) {y:V} {u:Value} (ry:RelV y u) :
  KV (kvs.map fun kv=>if kv.1=k then (kv.1,y) else kv) (vs.map fun kv=>if kv.1=k then (kv.1,u) else kv):=by
 unfold KV at r ⊢
 induction r with
 | nil=>exact .nil
 | @cons p q ps qs h t ih =>
  rw [Zs,Zs]
  refine .cons ?_ ih
  obtain ⟨h1,h2⟩:=h
  by_cases e:p.1=k
  ·rw [Zr e,Zr (h1.symm.trans e)];exact ⟨h1,ry⟩
  ·rw [Zo e,Zo (fun z=>e (h1.trans z))];exact ⟨h1,h2⟩
theorem KV.put {kvs:List (κ×V)} {vs:List (κ×Value)} (r:KV kvs vs) (k:κ) {y:V} {u:Value} (ry:RelV y u):KV (putK kvs k y) (stored vs k u):=by
 unfold putK stored
 rw [r.any k]
 by_cases e:(vs.any fun kv=>decide (kv.1=k))=true
 ·rw [Zr e,Zr e];exact r.repl k ry
 ·rw [Zo e,Zo e];exact Paired.snoc r ⟨rfl,ry⟩
theorem KV.keys {kvs:List (κ×V)} {vs:List (κ×Value)} (r:KV kvs vs):kvs.map (·.1)=vs.map (·.1):=by
 unfold KV at r
 induction r with
 | nil=>rfl
 | cons h t ih=>rw [Zs,Zs,ih,h.1]
theorem KV.length {kvs:List (κ×V)} {vs:List (κ×Value)} (r:KV kvs vs):kvs.length=vs.length:=YA r
end
theorem lu {P:Program} {w:World} {k:Key} {u:Value} (r:RelV (kV k) u):(ba P w).is k u=true:=by
 cases k with
 | inl i=>obtain ⟨t,e⟩:=(show ∃ t,u=Value.int i t from r);subst e;exact nY P w i t
 | inr x=>obtain ⟨t,e⟩:=(show ∃ t,u=Value.str x t from r);subst e;exact oy P w x t
theorem j6 {P:Program} {w:World}:∀ {ks:List Key} {us:Wk},aQ (ks.map kV) us->ItemsAre (ba P w) ks us
 | [],_,r=>by rw [Xz] at r;cases r;exact .nil
 | k :: ks,_,r=>by
  rw [Zs] at r
  cases r with
  | cons h t=>exact .cons (lu h) (j6 t)
noncomputable abbrev KT (H:Hp):List (List Key×V)->List (List Key×Addr×Value)->Prop:=Paired fun p q=>p.1=q.1/\H q.2.1=some (.tup (p.1.map kV))/\RelV p.2 q.2.2
theorem KT.val {H:Hp} {kvs:List (List Key×V)} {xs:List (List Key×Addr×Value)} (r:KT H kvs xs) (k:List Key):gD (gg kvs k) ((atKey xs k).map (·.2)):=by
 induction r with
 | nil=>exact True.intro
 | @cons p q ps qs h t ih =>
  obtain ⟨h1,_,h2⟩:=h
  by_cases e:p.1=k
  ·have e':q.1=k:=h1.symm.trans e
   have b:atKey (q :: qs) k=some q.2:=by simp [atKey,Z0,e']
   rw [iy e,b];exact h2
  ·have e':¬ q.1=k:=fun z=>e (h1.trans z)
   have b:atKey (q :: qs) k=atKey qs k:=by simp [atKey,Z0,e']
   rw [lD e,b];exact ih
theorem KT.repl {H:Hp} {kvs:List (List Key×V)} {xs:List (List Key×Addr×Value)} (r:KT H kvs xs) (k:List Key) {y:V} {u:Value} (ry:RelV y u) :
  KT H (kvs.map fun kv=>if kv.1=k then (kv.1,y) else kv) (xs.map (putAt k u)):=by
 induction r with
 | nil=>exact .nil
 | @cons p q ps qs h t ih =>
  rw [Zs,Zs]
  refine .cons ?_ ih
  obtain ⟨h1,h2,h3⟩:=h
  unfold putAt
  by_cases e:p.1=k
  ·rw [Zr e,Zr (h1.symm.trans e)];exact ⟨h1,h2,ry⟩
  ·rw [Zo e,Zo (fun z=>e (h1.trans z))];exact ⟨h1,h2,h3⟩
theorem KT.put {H:Hp} {kvs:List (List Key×V)} {xs:List (List Key×Addr×Value)} (r:KT H kvs xs) (k:List Key) {b:Addr} {y:V} {u:Value} (hb:H b=some (.tup (k.map kV))) (ry:RelV y u) :
  KT H (putK kvs k y) (storedH xs k b u):=by
 have e:(kvs.any fun kv=>decide (kv.1=k))=(atKey xs k).isSome:=by
  rw [ot,(r.val k).isSome_eq,Yc]
 unfold putK storedH
 rw [e]
 by_cases q:(atKey xs k).isSome=true
 ·rw [Zr q,Zr q];exact r.repl k ry
 ·rw [Zo q,Zo q];exact Paired.snoc r ⟨rfl,hb,ry⟩
theorem KT.keeps {H H':Hp} {kvs:List (List Key×V)} {xs:List (List Key×Addr×Value)} (r:KT H kvs xs) (ht:∀ b ys,H b=some (.tup ys)->H' b=some (.tup ys)):KT H' kvs xs :=
 Paired.mapP r fun _ _ z=>⟨z.1,ht _ _ z.2.1,z.2.2⟩
section
variable {P:Program} {w:World} {H:Hp} {h:Heap} {a:Addr}
theorem zf {u:HO} (ok:HOk P w H h) (e:Rd H a u):bI P w H h a u:=e.ok ok
theorem j7 {kvs:List (Key×V)} (ok:HOk P w H h) (e:Rd H a (.dK kvs)):kvs.length<=sizeLine/\(a == sysModules)=false/\∃ vs,KV kvs vs/\h.DictOf (ba P w) a vs :=
 show bI P w H h a (.dK kvs) from zf ok e
theorem pv {kvs:List (Key×V)} (ok:HOk P w H h) (e:H a=some (.dK kvs)):kvs.length<=sizeLine/\(a == sysModules)=false/\∃ vs,KV kvs vs/\h.DictOf (ba P w) a vs:=j7 ok (.inl e)
theorem dv {ks:List Key} (ok:HOk P w H h) (e:H a=some (.tup (ks.map kV))):(tupleKind (ba P w)).is h ks a:=by
 obtain ⟨_,its,r,_,o,h1,h2,n,h3⟩:=(show bI P w H h a (.tup (ks.map kV)) from ok a _ e)
 exact ⟨o,its.toArray,n,h1,h2,h3,by simpa using j6 r⟩
theorem lQ {kvs:List (List Key×V)} (ok:HOk P w H h) (e:Rd H a (.dT kvs)):kvs.length<=sizeLine/\(a == sysModules)=false ∧
  ∃ xs,KT H kvs xs/\h.DictOfH (tupleKind (ba P w)) a xs:=by
 obtain ⟨z,y,xs,r,o,es,ep,h1,h2,h3,h4,h5⟩:=(show bI P w H h a (.dT kvs) from zf ok e)
 refine ⟨z,y,xs,r,o,es,ep,h1,h2,h3,h4,fun x hx=>?_,h5⟩
 have all:∀ {l:List (List Key×V)} {m:List (List Key×Addr×Value)},KT H l m->∀ x∈m,(tupleKind (ba P w)).is h x.1 x.2.1:=by
  intro l m q
  induction q with
  | nil=>intro x hx;exact nomatch hx
  | @cons p q ps qs hq t ih =>
   intro x hx
   rcases Zh.mp hx with e | hx
   ·subst e
    exact dv ok (by rw [← hq.1];exact hq.2.1)
   ·exact ih x hx
 exact all r x hx
theorem BW {kvs:List (List Key×V)} (ok:HOk P w H h) (e:H a=some (.dT kvs)):kvs.length<=sizeLine/\(a == sysModules)=false ∧
  ∃ xs,KT H kvs xs/\h.DictOfH (tupleKind (ba P w)) a xs:=lQ ok (.inl e)
end
noncomputable def gB (H:Hp) (a:Addr) (y:V) (r:Option V):Prop :=
 (∃ kvs k,Rd H a (.dK kvs)/\y=kV k/\r=gg kvs k)\/∃ kvs k b,Rd H a (.dT kvs)/\y=.ref b/\H b=some (.tup (k.map kV))/\r=gg kvs k
noncomputable def pS (H:Hp) (a:Addr) (y v:V) (H':Hp):Prop :=
 (∃ kvs k,H a=some (.dK kvs)/\y=kV k/\kvs.length < sizeLine/\H'=upd H a (.dK (putK kvs k v))) ∨
 ∃ kvs k b,H a=some (.dT kvs)/\y=.ref b/\H b=some (.tup (k.map kV))/\kvs.length < sizeLine/\H'=upd H a (.dT (putK kvs k v))
theorem gB.k {H:Hp} {a:Addr} {kvs:List (Key×V)} {k:Key} (e:H a=some (.dK kvs)):gB H a (kV k) (gg kvs k):=.inl ⟨kvs,k,.inl e,rfl,rfl⟩
theorem pS.k {H:Hp} {a:Addr} {kvs:List (Key×V)} {k:Key} {v:V} (e:H a=some (.dK kvs)) (hl:kvs.length < sizeLine):pS H a (kV k) v (upd H a (.dK (putK kvs k v))):=.inl ⟨kvs,k,e,rfl,hl,rfl⟩
section
variable {X:Cx} {pins:Xq} {σ:St} {H:Hp} {s:Shared} {a:Addr} {y v:V} {u r:Value} {o:Option V} {A:Around} {E:Y7}
theorem Inv.big (I:Inv X pins σ H s):sysModules < s.heap.objs.size:=by
 have h:mainGlobals < s.heap.objs.size:=(I.mod.glob.keeps I.bk).lt
 exact Nat.lt_trans (by decide) h
theorem si {Q:Y7} (hu:A.units+1 < cLine) (I:Inv X pins σ H s) (g:gB H a y (some v)) (ry:RelV y u) (h:∀ w' s',Inv X pins σ H s'->RelV v w'->Q w' s') :
  wpAny (model X.prog X.w) A (getItem (.ref a) u) Q E s:=by
 rcases g with ⟨kvs,k,e,ey,l⟩ | ⟨kvs,k,b,e,ey,eb,l⟩
 ·subst ey
  obtain ⟨z,hd,vs,rel,dd⟩:=j7 I.hok e
  obtain ⟨w',hw,rw'⟩:=gD.some_of (v:=v) (o:=valueAt vs k) (by rw [l];exact rel.val k)
  exact wpAny_getItem_of (lu ry) dd.mapOf hw (h w' _ (I.tok _) rw')
 ·subst ey
  cases (show u=Value.ref b from ry)
  obtain ⟨z,hd,xs,rel,dd⟩:=lQ I.hok e
  obtain ⟨w',hw,rw'⟩:=gD.some_of (v:=v) (o:=(atKey xs k).map (·.2)) (by rw [l];exact rel.val k)
  obtain ⟨p,hp,hp2⟩:=Zu.mp hw
  refine wpAny_getItem_heap (Xv hu) (dv I.hok eb) dd hp ?_
  rw [hp2]
  exact h w' _ (I.tok _) rw'
theorem Dp {Q:Y7} (hu:A.units+1 < cLine) (I:Inv X pins σ H s) (g:gB H a y o) (ry:RelV y u) (h:∀ s',Inv X pins σ H s'->Q (.bool o.isSome) s') :
  wpAny (model X.prog X.w) A (compareOp .In u (.ref a)) Q E s:=by
 rcases g with ⟨kvs,k,e,ey,l⟩ | ⟨kvs,k,b,e,ey,eb,l⟩
 ·subst ey
  obtain ⟨z,hd,vs,rel,dd⟩:=j7 I.hok e
  refine wpAny_in_of (lu ry) hd dd.mapOf ?_
  rw [← (rel.val k).isSome_eq,← l]
  exact h _ (I.tok _)
 ·subst ey
  cases (show u=Value.ref b from ry)
  obtain ⟨z,hd,xs,rel,dd⟩:=lQ I.hok e
  refine wpAny_in_heap (Xv hu) (dv I.hok eb) hd dd ?_
  have q:=(rel.val k).isSome_eq
  rw [Yc] at q
  rw [← q,← l]
  exact h _ (I.tok _)
theorem yA {Q:Y7} (hu:A.units+1 < cLine) (I:Inv X pins σ H s) (g:gB H a y o) (ry:RelV y u) (h:∀ s',Inv X pins σ H s'->Q (.bool (!o.isSome)) s') :
  wpAny (model X.prog X.w) A (compareOp .NotIn u (.ref a)) Q E s:=by
 rcases g with ⟨kvs,k,e,ey,l⟩ | ⟨kvs,k,b,e,ey,eb,l⟩
 ·subst ey
  obtain ⟨z,hd,vs,rel,dd⟩:=j7 I.hok e
  refine wpAny_notIn_of (lu ry) hd dd.mapOf ?_
  rw [← (rel.val k).isSome_eq,← l]
  exact h _ (I.tok _)
 ·subst ey
  cases (show u=Value.ref b from ry)
  obtain ⟨z,hd,xs,rel,dd⟩:=lQ I.hok e
  refine wpAny_notIn_heap (Xv hu) (dv I.hok eb) hd dd ?_
  have q:=(rel.val k).isSome_eq
  rw [Yc] at q
  rw [← q,← l]
  exact h _ (I.tok _)
theorem jy {h':Heap} {t':Nat} {ob:HO} (I:Inv X pins σ H s) (mu:Mut (H a)) (hs:Heap.SameBut a s.heap h') (he:∃ q,h'.get? a=some q) (new:bI X.prog X.w (upd H a ob) h' a ob) :
  Inv X pins σ (upd H a ob) { s with heap:=h',toks:=t' } :=
 I.write (x:=a) (e:=a) mu (.inl rfl) (fun b q hb z=>(hs.2 b hb).trans z) he new
theorem pV {P:Program} {w:World} {H':Hp} {h':Heap} {kvs:List (Key×V)} {vs:List (Key×Value)} (z:kvs.length<=sizeLine) (hd:(a == sysModules)=false) (rel:KV kvs vs) (dd:h'.DictOf (ba P w) a vs) :
  bI P w H' h' a (.dK kvs):=⟨z,hd,vs,rel,dd⟩
theorem r6 {H':Hp} {Q:Unit->Shared->Prop} (hu:A.units+1 < cLine) (I:Inv X pins σ H s) (g:pS H a y v H') (ry:RelV y u) (rv:RelV v r) (h:∀ s',Inv X pins σ H' s'->Q () s') :
  wpAny (model X.prog X.w) A (setItem (.ref a) u r) Q E s:=by
 rcases g with ⟨kvs,k,e,ey,l,eH⟩ | ⟨kvs,k,b,e,ey,eb,l,eH⟩
 ·subst ey eH
  obtain ⟨z,hd,vs,rel,dd⟩:=pv I.hok e
  have hz:vs.length<=sizeLine:=by rw [← rel.length];exact z
  have hl:(putK kvs k v).length<=sizeLine:=by have:=il kvs k v;lia
  refine wpAny_setItem_pairs (hsz:=hz) (lu ry) dd fun h' dd' hs=>h _ ?_
  have he:∃ q,h'.get? a=some q:=let ⟨q,_,_,hq,_⟩:=dd';⟨q,hq⟩
  exact jy I (by rw [e];exact True.intro) hs he (pV hl hd (rel.put k rv) dd')
 ·subst ey eH
  cases (show u=Value.ref b from ry)
  obtain ⟨z,hd,xs,rel,dd⟩:=BW I.hok e
  have hz:xs.length<=sizeLine:=by rw [← YA rel];exact z
  have hl:(putK kvs k v).length<=sizeLine:=by have:=il kvs k v;lia
  refine wpAny_setItem_heap (hsz:=hz) (Xv hu) (dv I.hok eb) dd fun h' dd' hs=>h _ ?_
  obtain ⟨q,es,ep,hq,h2,h3,h4,_,h5⟩:=dd'
  refine jy I (by rw [e];exact True.intro) hs ⟨q,hq⟩ ⟨hl,hd,_,(rel.put k eb rv).keeps fun c ys ec=>?_,q,es,ep,hq,h2,h3,h4,h5⟩
  rw [aD (Bz ec e (fun z=>nomatch z))]
  exact ec
end
section
variable {X:Cx} {pins:Xq} {σ:St} {H:Hp} {s:Shared} {a:Addr} {kvs:List (Key×V)} {k:Key} {u:Value} {A:Around} {E:Y7}
theorem B7 {Q:Y7} (I:Inv X pins σ H s) (e:Rd H a (.dK kvs)) (h:∀ t s',Inv X pins σ H s'->Q (.int kvs.length t) s'):wpAny (model X.prog X.w) A (call (.builtin "len") [.ref a]) Q E s:=by
 obtain ⟨z,hd,vs,rel,dd⟩:=j7 I.hok e
 refine call_len_dict hd dd (by rw [← rel.length];rw [Xu] at z;lia) ?_
 rw [← rel.length]
 exact h _ _ (I.tok _)
end
theorem oo {X:Cx} {pins:Xq} {σ:St} {H:Hp} {s:Shared} {a:Addr} {y:V} {o:Option V} (I:Inv X pins σ H s) (g:gB H a y o):s.TypeIs (.ref a) "dict" := by
 rcases g with ⟨kvs,k,e,_,_⟩ | ⟨kvs,k,b,e,_,_,_⟩
 ·obtain ⟨_,_,vs,_,dd⟩:=j7 I.hok e
  exact dd.typeIs
 ·obtain ⟨_,_,xs,_,dd⟩:=lQ I.hok e
  exact dd.typeIs
theorem og {P:Program} {w:World} {H:Hp} (h:Heap) (hb:sysModules < h.objs.size):bI P w H (h.push { cls:=.type "dict",data:=.dict #[] }) h.objs.size (.dK []) :=
 ⟨Yr _,ZK.mpr (YW (ZS hb)),[],.nil,Heap.DictOf.new h⟩
noncomputable def zL:TE:=fun _ H Q=>∀ p,H p=none->Q (.ref p) (upd H p (.dK []))
section
variable {X:Cx} {pos:Pos}
theorem v7:PE X (.Dict [] [] pos) zL:=fun pins s σ H Q I h =>
 wpAny_Dict_empty ⟨.ref s.heap.objs.size,_,I.laid (a:=s.heap.objs.size) (o:=.dK []) (t':=s.toks) (fun _ _ q=>Zi _ q) (Zl _) (og s.heap I.big),rfl,h _ (I.hok.fresh (Zl _))⟩
end
noncomputable def p7:List (TE×TE)->St->Hp->(List (V×V)->Hp->Prop)->Prop
 | [],_,H,Q=>Q [] H
 | (tk,tv) :: r,σ,H,Q=>tk σ H fun x H1=>tv σ H1 fun y H2=>p7 r σ H2 fun ps H3=>Q ((x,y) :: ps) H3
noncomputable abbrev VV:List (V×V)->List (Value×Value)->Prop:=Paired fun p q=>RelV p.1 q.1/\RelV p.2 q.2
noncomputable def PPs (X:Cx) (pos:Pos) (keys:List (Option Expr)) (values:List Expr) (trs:List (TE×TE)):Prop :=
 ∀ (pins:Xq) (s:Shared) (σ:St) (H:Hp) (Q:List (V×V)->Hp->Prop),Inv X pins σ H s->p7 trs σ H Q →
  wpAny (model X.prog X.w) X.A (evalPairs (pairTrees keys values X.env pos)) (fun vs s'=>∃ ps H',Inv X pins σ H' s'/\VV ps vs/\Q ps H') X.xe s
theorem yp {X:Cx} {pos:Pos}:PPs X pos [] [] []:=fun pins s σ H Q I h=>pairTrees_nil_walk ⟨[],H,I,.nil,h⟩
theorem wx {X:Cx} {pos:Pos} {k v:Expr} {ks:List (Option Expr)} {vs:List Expr} {tk tv:TE} {trs:List (TE×TE)} (hk:PE X k tk) (hv:PE X v tv) (hr:PPs X pos ks vs trs) :
  PPs X pos (some k :: ks) (v :: vs) ((tk,tv) :: trs):=fun pins s σ H Q I h =>
 pairTrees_cons_walk (thn (hk pins s σ H _ I h) fun u s1 ⟨x,H1,I1,rx,q1⟩=>thn (hv pins s1 σ H1 _ I1 q1) fun w2 s2 ⟨y,H2,I2,ry,q2⟩ =>
  thn (hr pins s2 σ H2 _ I2 q2) fun ws s3 ⟨ps,H3,I3,rel,q3⟩=>⟨(x,y) :: ps,H3,I3,.cons ⟨rx,ry⟩ rel,q3⟩)
noncomputable def kL (kvs more:List (Key×V)):List (Key×V):=more.foldl (fun acc kv=>putK acc kv.1 kv.2) kvs
theorem KV.merge:∀ {more:List (Key×V)} {rs:List (Key×Value)} {kvs:List (Key×V)} {vs:List (Key×Value)},KV more rs->KV kvs vs->KV (kL kvs more) (merged vs rs):=by
 intro more rs kvs vs r
 unfold KV at r
 induction r generalizing kvs vs with
 | nil=>intro q;exact q
 | @cons p q ps qs h t ih =>
  intro r0
  have e:KV (putK kvs p.1 p.2) (stored vs q.1 q.2):=by
   have:=r0.put p.1 h.2
   rw [← h.1];exact this
  exact ih e
theorem iR:∀ (more kvs:List (Key×V)),(kL kvs more).length<=kvs.length+more.length
 | [],kvs=>by show kvs.length<=kvs.length+0;exact YK _ _
 | p :: r,kvs=>by
  have h1:=iR r (putK kvs p.1 p.2)
  have h2:=il kvs p.1 p.2
  show (kL (putK kvs p.1 p.2) r).length<=_
  rw [Zk];lia
theorem kU {P:Program} {w:World}:∀ {kvs:List (Key×V)} {ws:List (Value×Value)},VV (kvs.map fun kv=>(kV kv.1,kv.2)) ws->∃ rs,Carries (ba P w) ws rs/\KV kvs rs
 | [],_,r=>by rw [Xz] at r;cases r;exact ⟨[],True.intro,.nil⟩
 | p :: kvs,_,r=>by
  rw [Zs] at r
  cases r with
  | @cons a b as bs h t =>
   obtain ⟨rs,c,q⟩:=kU (P:=P) (w:=w) t
   obtain ⟨b1,b2⟩:=b
   exact ⟨(p.1,b2) :: rs,⟨lu h.1,rfl,c⟩,.cons ⟨rfl,h.2⟩ q⟩
noncomputable def BO (trs:List (TE×TE)):TE:=fun σ H Q=>∀ p,H p=none->p7 trs σ (upd H p (.dK [])) fun ps H2=>H2 p=some (.dK [])/\∃ kvs:List (Key×V),ps=kvs.map (fun kv=>(kV kv.1,kv.2))/\kvs.length<=15/\Q (.ref p) (upd H2 p (.dK (kL [] kvs)))
theorem yN {X:Cx} {pos:Pos} {keys:List (Option Expr)} {values:List Expr} {trs:List (TE×TE)} (h:PPs X pos keys values trs) (hall:keys.all (·.isSome)=true) (hl:keys.length=values.length) (h0:keys ≠ [])
  (h15:keys.length<=15):PE X (.Dict keys values pos) (BO trs):=by
 intro pins s σ H Q I q
 have hn:=I.hok.fresh (Zl s.heap.objs.size)
 have I1:=I.laid (a:=s.heap.objs.size) (o:=.dK []) (h':=s.heap.push { cls:=.type "dict",data:=.dict #[] }) (t':=s.toks) (fun _ _ q=>Zi _ q) (Zl _) (og s.heap I.big)
 refine wpAny_Dict_walk (knd:=ba X.prog X.w) hall hl h0 h15 (thn (h pins _ σ _ _ I1 (q _ hn)) fun ws s2 ⟨ps,H2,I2,rel,e,kvs,ep,lk,q2⟩=>?_)
 subst ep
 obtain ⟨rs,c,rk⟩:=kU (P:=X.prog) (w:=X.w) rel
 obtain ⟨z,hd,vs0,r0,dd⟩:=pv I2.hok e
 cases r0
 refine ⟨rs,c,dd,fun h' dd' hs=>⟨.ref s.heap.objs.size,_,?_,rfl,q2⟩⟩
 have hz:(kL [] kvs).length<=sizeLine:=by
  have h1:=iR kvs []
  rw [Yi] at h1
  rw [Xu];lia
 have he:∃ q,h'.get? s.heap.objs.size=some q:=let ⟨q,_,_,hq,_⟩:=dd';⟨q,hq⟩
 exact jy I2 (by rw [e];exact True.intro) hs he (pV hz hd (rk.merge .nil) dd')
structure M1 (X:Cx) (o:Expr) (m:Str) (apos:Pos) (e:Expr) (cpos:Pos):Prop where
 base:attributeBase o m X.env (eval o X.env)=eval o X.env
 few:((backTo cpos (starEach [e] X.env)).all (fun x=>!x.1) && (backToKw cpos (keywordEach [] X.env)).all (fun x=>x.1.isSome)
  && decide (([e]:List Expr).length+([]:List Keyword).length+(if ([]:List Keyword).isEmpty then 0 else 1) < 30))=true
 line:(apos.endLine == cpos.line)=true
 trees:backTo cpos (starEach [e] X.env)=[(false,eval e X.env)]
noncomputable def IsD (H:Hp) (a:Addr):Prop:=(∃ kvs,Rd H a (.dK kvs))\/∃ kvs,Rd H a (.dT kvs)
theorem zJ {X:Cx} {pins:Xq} {σ:St} {H:Hp} {s:Shared} {a:Addr} (I:Inv X pins σ H s) (d:IsD H a) :
  s.TypeIs (.ref a) "dict" ∧ (∀ b,Value.ref a=.ref b->∃ ob,s.heap.get? b=some ob/\ob.dict=none)/\(a == sysModules)=false:=by
 rcases d with ⟨kvs,e⟩ | ⟨kvs,e⟩
 ·obtain ⟨_,hd,vs,_,dd⟩:=j7 I.hok e
  refine ⟨dd.typeIs,fun b q=>?_,hd⟩
  cases q
  obtain ⟨ob,_,_,h1,h2,_⟩:=dd
  exact ⟨ob,h1,h2.2.1⟩
 ·obtain ⟨_,hd,xs,_,dd⟩:=lQ I.hok e
  refine ⟨dd.typeIs,fun b q=>?_,hd⟩
  cases q
  obtain ⟨ob,_,_,h1,h2,_⟩:=dd
  exact ⟨ob,h1,h2.2.1⟩
section
variable {X:Cx} {pins:Xq} {σ:St} {H:Hp} {s:Shared} {a:Addr} {y d:V} {u r:Value} {o:Option V} {A:Around} {E:Y7}
theorem Bf {Q:Y7} (hu:A.units+1 < cLine) (I:Inv X pins σ H s) (g:gB H a y o) (ry:RelV y u) (h:∀ w' s',Inv X pins σ H s'->RelV (o.getD .non) w'->Q w' s') :
  wpAny (model X.prog X.w) A (call (.builtin "dict.get") [.ref a,u]) Q E s:=by
 rcases g with ⟨kvs,k,e,ey,l⟩ | ⟨kvs,k,b,e,ey,eb,l⟩
 ·subst ey
  obtain ⟨z,hd,vs,rel,dd⟩:=j7 I.hok e
  refine call_meetsIn XG dd.typeIs PySem.F.entry_dict_get (PySem.F.args_dict_get_2 _ _) (meets_dict_get (ba X.prog X.w) a (lu ry) hd) ⟨_,dd.mapOf,h _ _ (I.tok _) ?_⟩
  rw [l]
  exact (rel.val k).getD rfl
 ·subst ey
  cases (show u=Value.ref b from ry)
  obtain ⟨z,hd,xs,rel,dd⟩:=lQ I.hok e
  refine call_meetsIn XG dd.typeIs PySem.F.entry_dict_get (PySem.F.args_dict_get_2 _ _) (meetsH_dict_get (tupleKind (ba X.prog X.w)) a b hd) ⟨Xv hu,k,xs,dv I.hok eb,dd,h _ _ (I.tok _) ?_⟩
  rw [l]
  exact (rel.val k).getD rfl
end
noncomputable def zD (td ty:TE):TE:=fun σ H Q=>td σ H fun x H1=>∃ a,x=.ref a/\IsD H1 a/\ty σ H1 fun y H2=>∃ o,gB H2 a y o/\Q (o.getD .non) H2
section
variable {X:Cx} {o e f:Expr} {apos cpos:Pos} {td ty tx:TE}
theorem tK (hu:X.A.units+1 < cLine) (ho:PE X o td) (he:PE X e ty) (m:M1 X o "get" apos e cpos):PE X (.Call (.Attribute o "get" apos) [e] [] cpos) (zD td ty):=by
 intro pins s σ H Q I h
 refine wpAny_Call_method m.base m.few m.line PySem.F.plainAttrs_dict XG PySem.F.type_dict_get (thn (ho pins s σ H _ I h) fun u s1 ⟨x,H1,I1,rx,a,ex,d,q1⟩=>?_)
 subst ex
 obtain rfl:u=Value.ref a:=rx
 obtain ⟨t1,t2,_⟩:=zJ I1 d
 refine ⟨t1,t2,?_⟩
 rw [m.trees]
 refine Calls.callWith_builtin rfl (Calls.evalArgs_plain (Calls.spliced_cons (thn (he pins s1 σ H1 _ I1 q1) fun iv s2 ⟨y,H2,I2,ry,ov,g,q2⟩=>Calls.spliced_nil ?_)))
 exact Bf hu I2 g ry fun w' s3 I3 rw'=>⟨_,H2,I3,rw',q2⟩
end
end L2
namespace Att
open PySem PySem.W PySem.Calls PyProof.Rows
theorem km {P:Params} {h:Heap}:∀ (ns:Wh) (vs:Wk),WellAll P h vs (ns.map WData.int)->IntsAre vs ns:=by
 intro ns
 induction ns with
 | nil =>
  intro vs w
  rw [Xz] at w
  cases w
  exact .nil
 | cons n ns ih =>
  intro vs w
  rw [Zs] at w
  cases w with
  | cons a b =>
   cases a
   exact .cons _ _ (ih _ b)
theorem sL {l:OpenLaw} {n:Nat} (hn:l.most=some n) {P:Params} {h:Heap} {args:List WData} {vals:Wk}
  (hpre:l.row.toRowW.claim.pre args=true) (hwl:WellAll P h vals args) :
  ∃ a vs ns,vals=[Value.ref a]/\args=[WData.list (ns.map WData.int)]/\h.get? a=some { cls:=.type "list",data:=.seq vs.toArray }/\IntsAre vs ns/\ns.length<=n:=by
 have hsh:WShape.hasAll [] args [.list .int]=true:=(pre_splitW hpre).1
 have hc:l.pre.holds [] { args:=args }=true:=(pre_splitW hpre).2
 obtain ⟨d,r,rfl,h1,h2⟩:=hasAllW_cons hsh
 obtain rfl:=hasAllW_nil h2
 obtain ⟨xs,rfl,h3⟩:=hasW_list h1
 obtain ⟨ns,rfl⟩:=items_int h3
 have hlen:ns.length<=n:=by
  unfold OpenLaw.pre at hc
  have h4:(WTm.not (.lt (.lit (.int (n:Int))) (.len (.arg 0)))).holds [] { args:=[.list (ns.map .int)] }=true:=by
   have h4:=(holds_andW hc).1
   rw [hn] at h4
   exact h4
  have h5:=condW_of h4 (w_not (w_lt w_lit (w_len_list (w_arg rfl))))
  rw [Zv] at h5
  refine ZD fun q=>?_
  have q':(n:Int) < ((ns.length:Nat):Int):=by omega
  first
   | (rw [ZL q'] at h5;exact absurd h5 (by decide))
   | (simp at h5;omega)
 cases hwl with
 | cons w1 w2 =>
  cases w2
  cases w1 with
  | list ho hall=>exact ⟨_,_,ns,rfl,rfl,ho,km ns _ hall,hlen⟩
theorem rR (l:OpenLaw) (args:List WData):l.row.toRowW.claim.post args (.bool true) args=true :=
 postW_of (r:=l.row.toRowW) (X:=(true == true))
  (show WShape.has [] (.bool true) .bool=true by first | rfl | decide | simp [WShape.has,WShape.arms,WShape.armsAll])
  (show (WTm.eq .res (.lit (.bool true))).value [] { args:=args,res:=some (.bool true),after:=args }=some (.bool (true == true)) from w_eq_bool (w_res rfl) w_lit) rfl
theorem pH {l:OpenLaw} {n:Nat} {q:Program} {loose:List Str} {XP:(Wx)->Heap->Prop} {YP:World->Heap->Prop} {d:DefRec}
  (hn:l.most=some n) (hdf:d.params.defaults=[])
  (call:∀ (w:World) (s₀ s₁:Shared) (mg mb:Wx) (fa:Addr) (o:Obj) (pm cd doc:Value) (a:Addr) (vs:Wk) (ns:Wh),
   Ground q loose [] XP w s₀ mg mb s₁.heap->YP w s₁.heap →
   s₁.heap.get? fa=some o->o.data=.func (docDef d.name d.params d.body d.scope pm cd doc)->s₁.heap.CodeRec cd d.name->mg d.name=some (.ref fa) →
   s₁.heap.get? a=some { cls:=.type "list",data:=.seq vs.toArray }->IntsAre vs ns->ns.length<=n->s₁.gens=#[] →
   codeAny (model l.prog w) callerA (.call (.ref fa) ⟨[.ref a],[]⟩) (fun r s'=>r=.ok (.ret (.bool true))/\OldK s₁.heap s'.heap/\s'.os=s₁.os/\AllBare s'.gens) s₁) :
  WalkO q loose XP YP l.row.toRowW d [] (fun f vs=>PySem.call f vs):=by
 intro w s₀ s₁ mg mb G Y fa o pm cd doc dV kV ho hd hcd hD hmg hg args vals as hpre hlay hrd hwl hlo
 obtain rfl:dV=.none:=Dflts.none hD hdf
 obtain rfl:kV=.none:=Dflts.noKw hD
 obtain ⟨a,vs,ns,rfl,rfl,hobj,hints,hlen⟩:=sL hn hpre hwl
 refine enter_call (codeAny_mono (call w s₀ s₁ mg mb fa o pm cd doc a vs ns G Y ho (fd_plain hd) hcd hmg hobj hints hlen hg) fun r s' hq=>?_)
 obtain ⟨rfl,h2,h3,h4⟩:=hq
 exact ⟨.inl ⟨.bool true,.bool true,[],rfl,fun _=>rfl,.bool true,rR l _,fun _=>⟨List.Pairwise.nil,fun _ hm=>(nomatch hm)⟩⟩,h2,h3,h4⟩
end Att
namespace L2
open PySem PySem.Spec PyProof.Rows
theorem mr:∀ {vs:Wk} {ns:Wh},IntsAre vs ns->aQ (ns.map V.int) vs
 | _,_,.nil=>.nil
 | _,_,.cons n t h=>.cons ⟨t,rfl⟩ (mr h)
noncomputable def vi (H:Hp):Prop:=∀ b,H b=none\/∃ o xs,H b=some (.frz o (.lst xs))
theorem ui {P:Program} {w:World} {K:Xd} {mg mb:Wx} {CX:CXT} {k:Nat} {fa a:Addr} {fd:FuncData} {x:Str} {sp:Sp} {s₁:Shared} {vs:Wk} {ns:Wh}
  (KX:K.In s₁.heap) (hns:s₁.heap.Ns mainGlobals mg) (hb:s₁.heap.Ns builtinsNs mb) (hbb:∀ x:Str,x ≠ "__name__" → mb x=bootBuiltins x) (hlim:s₁.heap.NoLimit) (hg:s₁.gens=#[])
  (ha:s₁.heap.get? a=some { cls:=.type "list",data:=.seq vs.toArray }) (hi:IntsAre vs ns) (hl:ns.length<=sizeLine) (hr:Room k callerA)
  (F:∀ base:Heap,K.In base->base.Ns mainGlobals mg->FnOk P w K mg base CX k fa fd [x] sp) (hbind:∀ (s:Shared) (u:Value),BindsTo s fd ⟨[u],[]⟩ [(x,u)])
  (hsp:∀ H:Hp,vi H->SqL K H a (ns.map V.int)->sp [.ref a] H (fun v _=>v=.bl true) fun _ _ _=>False)
  (hCX:∀ H e s',CX [] H s₁ (fun _ _ _=>False) e s'->False) :
  codeAny (model P w) callerA (.call (.ref fa) ⟨[.ref a],[]⟩) (fun r s'=>r=.ok (.ret (.bool true))/\OldK s₁.heap s'.heap/\s'.os=s₁.os/\AllBare s'.gens) s₁:=by
 have rv:=mr hi
 have lenV:=hi.length
 have core:∀ H:Hp,vi H->SqL K H a (ns.map V.int)->HOk P w H s₁.heap->(∀ b,H b ≠ none->b=a)->(H a ≠ none->K.lookup a=none) →
   codeAny (model P w) callerA (.call (.ref fa) ⟨[.ref a],[]⟩) (fun r s'=>r=.ok (.ret (.bool true))/\OldK s₁.heap s'.heap/\s'.os=s₁.os/\AllBare s'.gens) s₁:=by
  intro H hO hS hok hA hK
  have base_of:∀ {b:Addr} {o:Obj},s₁.heap.get? b=some o->H b=none->(nN s₁.heap H).get? b=some o:=fun e n=>u6 e n
  have noA:∀ {b:Addr} {o:Obj} {es:Array DictEntry} {ep:Nat},s₁.heap.get? b=some o->o.data=.dict es ep->H b=none:=fun {b o es ep} e d=>by
   cases q:H b with
   | none=>rfl
   | some u =>
    have e':b=a:=hA b (by rw [q];simp)
    subst e'
    rw [ha] at e;cases e
    have d':Data.seq vs.toArray _=Data.dict es ep:=d
    cases d'
  have nsK:∀ {b:Addr} {m:Wx},s₁.heap.Ns b m->(nN s₁.heap H).Ns b m:=fun {b m} ⟨o,es,ep,e,d,r⟩=>⟨o,es,ep,base_of e (noA e d),d,r⟩
  have hKb:K.In (nN s₁.heap H):=fun b o e=>base_of (KX b o e) (by
   cases q:H b with
   | none=>rfl
   | some u =>
    have e':b=a:=hA b (by rw [q];simp)
    subst e'
    rw [hK (by rw [q];simp)] at e;cases e)
  have hM:Mod K mg (nN s₁.heap H):=⟨hKb,nsK hns,⟨mb,nsK hb,hbb⟩,let ⟨mc,h1,h2⟩:=hlim;⟨mc,nsK h1,h2⟩⟩
  have e0:Env0 P w K mg (nN s₁.heap H) callerA [] s₁ H:=⟨rfl,hM,fun b o e=>xO e,XO (tD _ _),trivial,fun b hb=>absurd (show b∈([]:Wm) from hb) (by simp),hok,.of_eq hg⟩
  refine codeAny_mono ((F _ hKb (nsK hns)).run callerA [] s₁ H ⟨[.ref a],[]⟩ [.ref a] [.ref a] _ _ hr e0 (hbind s₁ (.ref a)) (.cons rfl .nil) (hsp H hO hS)) fun r s' h=>?_
  cases r with
  | error e=>exact (hCX H e s' h).elim
  | ok fl =>
   cases fl with
   | next=>exact False.elim h
   | brk=>exact False.elim h
   | cont=>exact False.elim h
   | ret u =>
    obtain ⟨v,H',os,bare,un,hok',r',q⟩:=h
    have q':v=.bl true:=q
    subst q'
    obtain rfl:u=Value.bool true:=r'
    refine ⟨rfl,OldK.of_keep fun b o e=>?_,os,bare⟩
    cases q:H b with
    | none=>exact un.keep b o e q (by intro z;exact absurd (show b∈([]:Wm) from z) (by simp)) (by simp)
    | some u =>
     rcases hO b with z | ⟨ob,xs,z⟩
     ·rw [q] at z;cases z
     ·have z2:=un.frzs b ob _ z
      obtain ⟨e1,_⟩:=hok b _ z
      obtain ⟨e2,_⟩:=hok' b _ z2
      rw [e] at e1;cases e1
      exact e2
 cases hk:K.lookup a with
 | some o =>
  have e:=KX a o hk
  rw [ha] at e
  cases e
  refine core (fun _=>none) (fun _=>.inl rfl) (.inr ⟨_,vs.toArray,_,hk,rfl,rfl,rfl,by rw [ZV,lenV];exact hl,by simpa using rv⟩) (fun b u z=>by have z':(none:Option HO)=some u:=z;cases z') (fun b z=>absurd rfl z) fun z=>absurd rfl z
 | none =>
  refine core (fun b=>if b=a then some (.frz { cls:=.type "list",data:=.seq vs.toArray } (.lst (ns.map V.int))) else none) (fun b=>?_) (.inl (.inr ⟨{ cls:=.type "list",data:=.seq vs.toArray },Zr rfl⟩)) (fun b u z=>?_) (fun b z=>?_) fun _=>hk
  ·by_cases hb:b=a
   ·exact .inr ⟨_,_,Zr hb⟩
   ·exact .inl (Zo hb)
  ·by_cases hb:b=a
   ·have z':=(Zr hb).symm.trans z
    cases z'
    subst hb
    exact ⟨ha,by rw [Zv];exact hl,vs,_,rv,ha⟩
   ·have z':=(Zo hb).symm.trans z
    cases z'
  ·by_cases hb:b=a
   ·exact hb
   ·exact absurd (Zo hb) z
theorem xM {l:PySem.W.OpenLaw} {n k:Nat} {q:Program} {loose:List Str} {XP:(Wx)->Heap->Prop} {YP:World->Heap->Prop} {d:DefRec} {K:Params->Xd} {CX:World->CXT} {sp:World->Sp} {x:Str}
  (hn:l.most=some n) (hn2:n<=sizeLine) (hdf:d.params.defaults=[]) (hr:Room k callerA)
  (hY:∀ (w:World) (h:Heap),YP w h->(K w.params).In h)
  (F:∀ (w:World) (mg:Wx) (fa:Addr) (h:Heap),(K w.params).In h->h.Ns mainGlobals mg->mg d.name=some (.ref fa) →
   ∃ fd:FuncData,(∀ (s:Shared) (u:Value),BindsTo s fd ⟨[u],[]⟩ [(x,u)]) ∧
    ∀ base:Heap,(K w.params).In base->base.Ns mainGlobals mg->FnOk l.prog w (K w.params) mg base (CX w) k fa fd [x] (sp w))
  (hsp:∀ (w:World) (H:Hp) (a:Addr) (ns:Wh),ns.length<=n->vi H->SqL (K w.params) H a (ns.map V.int)->sp w [.ref a] H (fun v _=>v=.bl true) fun _ _ _=>False)
  (hCX:∀ (w:World) (H:Hp) (s:Shared) (e:Value) (s':Shared),CX w [] H s (fun _ _ _=>False) e s'->False) :
  PySem.W.WalkO q loose XP YP l.row.toRowW d [] (fun f vs=>PySem.call f vs):=by
 refine Att.pH hn hdf fun w s₀ s₁ mg mb fa o pm cd doc a vs ns G Y ho hd hcd hmg hobj hints hlen hg=>?_
 have KX:=hY w _ Y
 obtain ⟨fd,hb,hF⟩:=F w mg fa _ KX G.T.g hmg
 exact ui KX G.T.g G.T.b G.T.builtins G.T.nolimit hg hobj hints (ZW hlen hn2) hr hF hb (fun H hO hS=>hsp w H a ns hlen hO hS) fun H e s'=>hCX w H s₁ e s'
noncomputable def inClass (s:Stmt) (j:Nat):Stmt:=match s with
 | .ClassDef _ _ _ body _ _ _ _ _ _ _=>body.getD j (.Pass ⟨0,0,0,0⟩)
 | _=>.Pass ⟨0,0,0,0⟩
noncomputable def cP (s:Stmt):Arguments:=match s with
 | .FunctionDef _ a _ _ _ _ _ _ _ _=>a
 | _=>{ posonlyargs:=[],args:=[],vararg:=none,kwonlyargs:=[],kw_defaults:=[],kwarg:=none,defaults:=[] }
noncomputable def bf (s:Stmt):List Stmt:=match s with
 | .FunctionDef _ _ b _ _ _ _ _ _ _=>b
 | _=>[]
noncomputable def aj (s:Stmt):Scope:=match s with
 | .FunctionDef _ _ _ _ _ _ sc _ _ _=>sc
 | _=>{ kind:=.function,names:=[],isGenerator:=false,isCoroutine:=false }
noncomputable abbrev CX0:CXT:=fun _ _ _ _ _ _=>False
noncomputable abbrev E0:XK:=fun _ _ _=>False
theorem kf {X:Cx}:ie CX0 X E0:=fun _ _ _ _ _ _ _ h=>h.elim
structure Fun (K:Xd) (x qual:Str) (st:Stmt) (f:Addr) (fd:FuncData):Prop where
 ex:∃ (oc:Value) (od:Option Addr) (kV doc pm:Value) (an:Option Addr) (cdv ct:Value) (osl:Array (Wj)),
  fd=PySem.W.fnOf x qual (cP st) (bf st) (aj st) .none kV doc pm an cdv ct/\K.lookup f=some ⟨oc,od,.func fd,osl⟩/\PySem.W.codeIn K cdv qual=true
 kp:PySem.W.keepIn K (.ref f)=true
section
variable {P:Program} {w:World} {K:Xd} {mg:Wx} {base:Heap}
theorem Fun.ok {x qual:Str} {st:Stmt} {f:Addr} {fd:FuncData} {N ps:List Str} {k:Nat} {sp:Sp} (F:Fun K x qual st f fd) (S:FnScope N ps (aj st)) (len:∀ vs H Q E,sp vs H Q E->vs.length=ps.length)
  (hbody:∀ (cdv:Value) (A:Around) (outer:List Env) (s:Shared) (H:Hp) (vs:List V) (Q:VK) (E:XK),Room k (A.deeper (envOfC qual (aj st) s.heap.objs.size f cdv))->sp vs H Q E →
   ∃ t,PSs (iP CX0 P w K mg base N qual (aj st) f cdv A outer s H E).nox (bf st) t/\t { nx:=fun _ H'=>Q .non H',rt:=Q } (start N vs) H):FnOk P w K mg base CX0 (k+1) f fd ps sp:=by
 obtain ⟨oc,od,kV,doc,pm,an,cdv,ct,osl,rfl,lk,hcd⟩:=F.ex
 refine yV lk hcd S len fun A outer s H vs Q E hr hsp=>?_
 obtain ⟨t,h,q⟩:=hbody cdv A outer s H vs Q E hr hsp
 exact ⟨t,h.nox,q⟩
theorem Fun.binds {x qual:Str} {st:Stmt} {f:Addr} {fd:FuncData} {ps:List Str} (F:Fun K x qual st f fd)
  (h:∀ (kV doc pm:Value) (an:Option Addr) (cdv ct:Value) (us:Wk),us.length=ps.length->bindArgs (PySem.W.fnOf x qual (cP st) (bf st) (aj st) .none kV doc pm an cdv ct) ⟨us,[]⟩=pure (ps.zip us)):Binds K fd ps []:=by
 obtain ⟨oc,od,kV,doc,pm,an,cdv,ct,osl,rfl,lk,hcd⟩:=F.ex
 exact .all (h kV doc pm an cdv ct)
theorem vJ {x qual:Str} {st:Stmt} {f:Addr} {oc:Value} {od an:Option Addr} {osl:Array (Wj)} {kV doc pm cdv ct:Value} (l:K.lookup f=some ⟨oc,od,.func (PySem.W.fnOf x qual (cP st) (bf st) (aj st) .none kV doc pm an cdv ct),osl⟩)
  (c:PySem.W.codeIn K cdv qual=true) (k:PySem.W.keepIn K (.ref f)=true):Fun K x qual st f (PySem.W.fnOf x qual (cP st) (bf st) (aj st) .none kV doc pm an cdv ct):=⟨⟨oc,od,kV,doc,pm,an,cdv,ct,osl,rfl,l,c⟩,k⟩
end
theorem jw {A:Around} {k:Nat} (hr:Room k A):A.units+1 < cLine:=Xf (Nat.add_le_add_left (by decide:1<=64) _) hr.units
theorem yu {A B:Prop} (h:B):if false=true then A else B:=by
 rw [Zo Za]
 exact h
theorem yB {A B:Prop} (h:A):if true=true then A else B:=by
 rw [Zr rfl]
 exact h
noncomputable def aN (H H':Hp):Prop:=∀ b o,H b=some o->H' b=some o
theorem aN.refl (H:Hp):aN H H:=fun _ _ h=>h
theorem aN.trans {H H1 H2:Hp} (a:aN H H1) (b:aN H1 H2):aN H H2:=fun c o h=>b c o (a c o h)
theorem aN.free {H H':Hp} (e:aN H H') {l:Addr} (h:H' l=Option.none):H l=Option.none:=by
 cases q:H l with
 | none=>rfl
 | some o =>
  rw [e l o q] at h
  cases h
end L2
end
section
namespace NK
open PySem PySem.Spec PyProof.Rows
variable {prog:Program} {w:World} {K:Type} [DecidableEq K] {knd:KeyKind prog w K} {A:Around} {E:Y7} {s:Shared}
inductive Its (knd:KeyKind prog w K) (h:Heap):List (List K)->Wk->Prop
 | nil:Its knd h [] []
 | cons {k:List K} {b:Addr} {ks:List (List K)} {vs:Wk}:IsTupleKey knd h k b->Its knd h ks vs->Its knd h (k :: ks) (.ref b :: vs)
noncomputable def IsN (knd:KeyKind prog w K) (h:Heap) (ks:List (List K)) (a:Addr):Prop:=∃ o items n,h.get? a=some o/\o.cls=.type "tuple" ∧ o.data=.seq items n/\Its knd h ks items.toList
theorem Its.fn {h:Heap} {x y:List (List K)} {vs:Wk} (hx:Its knd h x vs):Its knd h y vs->x=y:=by
 induction hx generalizing y with
 | nil=>intro hy;cases hy;rfl
 | cons h1 _ ih =>
  intro hy
  cases hy with
  | cons h2 t=>rw [h1.inj h2,ih t]
theorem IsN.ty {ks:List (List K)} {a:Addr} (x:IsN knd s.heap ks a):s.TypeIs (.ref a) "tuple" := let ⟨o,_,_,g,c,_⟩:=x;⟨o,g,c⟩
theorem IsN.fn {h:Heap} {a:Addr} {x y:List (List K)} (hx:IsN knd h x a) (hy:IsN knd h y a):x=y:=by
 obtain ⟨o,its,n,g,_,d,i⟩:=hx
 obtain ⟨o',its',n',g',_,d',i'⟩:=hy
 rw [g] at g'
 cases g'
 rw [d] at d'
 cases d'
 exact i.fn i'
theorem Its.keeps {h h':Heap} {ks:List (List K)} {vs:Wk} {d:Addr} {o:Obj} {es ep} (x:Its knd h ks vs) (ho:h.get? d=some o) (hd:o.data=.dict es ep) (hs:Heap.SameBut d h h'):Its knd h' ks vs:=by
 induction x with
 | nil=>exact .nil
 | cons h1 _ ih=>exact .cons (h1.keeps ho hd hs) ih
theorem IsN.keeps {h h':Heap} {ks:List (List K)} {a d:Addr} {o:Obj} {es ep} (x:IsN knd h ks a) (ho:h.get? d=some o) (hd:o.data=.dict es ep) (hs:Heap.SameBut d h h'):IsN knd h' ks a:=by
 obtain ⟨o',its,n,g,c,d',i⟩:=x
 refine ⟨o',its,n,(hs.2 a fun z=>?_).trans g,c,d',i.keeps ho hd hs⟩
 subst z
 rw [ho] at g
 cases g
 rw [hd] at d'
 cases d'
noncomputable def vh (knd:KeyKind prog w K) (ks:List (List K)):Int:=reduceHash (Builtin.Tuple.tupleHashOf (ks.map (tupleKeyHash knd)))
noncomputable def pM (ks:List (List K)):Nat:=(ks.map fun k=>k.length+1).sum+1
theorem wY {ks:List (List K)} {a:Addr} {Q:Int->Shared->Prop} (hu:A.units+1 < cLine) (hk:IsN knd s.heap ks a) (q:Q (vh knd ks) { s with toks:=s.toks+pM ks }):wpAny (model prog w) A (pyHash (.ref a)) Q E s:=by
 have ty:=hk.ty
 obtain ⟨o,its,n,g,_,d,i⟩:=hk
 unfold pyHash
 first | unfold pyHashByItsType | skip
 first | refine Zp (wpAny_cRoomFor_or (.inr (Nat.lt_of_succ_lt hu)) ?_) | skip
 refine Zp (Xe ty XH.lookup ?_)
 refine (show wpAny _ _ (if (some (Value.builtin "tuple.__hash__") == some Value.none)=true then _ else _) Q E s from ?_)
 rw [Zo (fun z=>by rw [beq_builtin_none] at z;cases z)]
 refine Zp (Xe ty XH.lookup (Zp (wpAny_callSpecialIfBoundUnlessNone?_slot ty XH (Y5 XH ty F.entry_tuple_hash (Zp (m:=Builtin.Tuple.tupleItemsOf (.ref a)) (wpAny_tupleItemsOf g d (Zp ?_))) (F.args_tuple_hash_1 _)))))
 rw [← Wy]
 refine XC _ (fun rest (b:Array Int) s'=>∃ x y,ks=x++y/\Its knd s.heap y rest/\b.toList=x.map (tupleKeyHash knd)/\s'={ s with toks:=s.toks+(x.map fun k=>k.length+1).sum }) _ ?turn ?fin _ _ ⟨[],ks,rfl,i,rfl,rfl⟩
 case turn =>
  rintro v rest b s' ⟨x,y,rfl,hi,hb,rfl⟩
  cases hi with
  | @cons k c ks' _ h1 h2 =>
   refine Zp (wpAny_pyHash_tuple (s:={ s with toks:=s.toks+(x.map fun k=>k.length+1).sum }) (by show A.in1.units < cLine;exact hu) h1 ?_)
   first
    | exact Zb ⟨x++[k],ks',by simp,h2,by simp [hb],by simp [X3]⟩
    | exact Zp (Zb (Zb ⟨x++[k],ks',by simp,h2,by simp [hb],by simp [X3]⟩))
 case fin =>
  rintro b s' ⟨x,y,rfl,hi,hb,rfl⟩
  cases hi
  rw [ZP] at q
  refine (show wpAny _ _ (retInt (Builtin.Tuple.tupleHashOf b.toList)) _ _ _ from ?_)
  rw [hb]
  refine wpAny_ret_mkInt ?_
  unfold vh reduceHash pM at q
  refine (show wpAny _ _ (if (decide (-(2:Int) ^ 63<=Builtin.Tuple.tupleHashOf (x.map (tupleKeyHash knd))) && decide (Builtin.Tuple.tupleHashOf (x.map (tupleKeyHash knd)) < 2 ^ 63))=true then _ else _) Q E _ from ?_)
  by_cases hr:(decide (-(2:Int) ^ 63<=Builtin.Tuple.tupleHashOf (x.map (tupleKeyHash knd))) && decide (Builtin.Tuple.tupleHashOf (x.map (tupleKeyHash knd)) < 2 ^ 63))=true
  ·rw [Zr hr] at q ⊢
   exact Zb (by simpa [X3] using q)
  ·rw [Zo hr] at q ⊢
   exact Zp (wpAny_rule (Zb (by simpa [X3] using q)))
theorem yD {x y:List (List K)} {a b:Addr} {P:PySem.Fin->Shared->Prop} (hu:A.units < cLine) (hx:IsN knd s.heap x a) (hy:IsN knd s.heap y b) (q:P (.done (.ret (.bool (decide (x=y))))) s):wpAny (model prog w) A (Builtin.«tuple.__eq__» ⟨[.ref a,.ref b],[]⟩) P E s:=by
 have ty:=hy.ty
 obtain ⟨oa,xs,na,ga,_,da,ia⟩:=hx
 obtain ⟨ob,ys,nb,gb,_,db,ib⟩:=hy
 refine (show wpAny _ _ (isInstance (.ref b) (.type "tuple") >>= _) _ _ s from Zp (XD ty X5 ?_))
 simp only [Xo,Yj,↓reduceIte]
 refine Zp (wpAny_tupleItemsOf ga da (Zp (wpAny_tupleItemsOf gb db (Zp ?_))))
 refine XC _ (fun rest r s'=>r.1=none/\s'=s/\∃ x' y' xs' ys',rest=List.zip xs' ys'/\Its knd s.heap x' xs'/\Its knd s.heap y' ys'/\decide (x'=y')=decide (x=y)/\(xs'.length == ys'.length)=(xs.size == ys.size)) _ ?turn ?fin _ _ ⟨rfl,rfl,x,y,xs.toList,ys.toList,rfl,ia,ib,rfl,by simp⟩
 case turn =>
  rintro ⟨u,v⟩ rest r s' ⟨hr,rfl,x',y',xs',ys',hz,hx',hy',hdec,hlen⟩
  cases hx' with
  | nil=>simp at hz
  | @cons k1 c1 x2 xs2 h1 t1 =>
   cases hy' with
   | nil=>simp at hz
   | @cons k2 c2 y2 ys2 h2 t2 =>
    simp only [Zg,List.cons.injEq,Prod.mk.injEq] at hz
    obtain ⟨⟨rfl,rfl⟩,rfl⟩:=hz
    refine Zp (wpAny_eqBool_tuple hu h1 h2 ?_)
    by_cases hk:k1=k2
    ·subst hk
     rw [ZL rfl]
     simp only [Xo,Yj,↓reduceIte]
     refine Zb ⟨rfl,rfl,x2,y2,xs2,ys2,rfl,t1,t2,?_,by simpa using hlen⟩
     rw [← hdec]
     by_cases hxy:x2=y2 <;> simp [hxy]
    ·rw [Ze hk]
     simp only [Bool.not_false,↓reduceIte]
     have hf:decide (x=y)=false:=by rw [← hdec];simp [hk]
     rw [hf] at q
     exact Zp (Zb (Zb (Zb q)))
 case fin =>
  rintro ⟨r1,r2⟩ s' ⟨hr,rfl,x',y',xs',ys',hz,hx',hy',hdec,hlen⟩
  simp only at hr
  subst hr
  have hfin:(xs.size == ys.size)=decide (x=y):=by
   rw [← hdec,← hlen]
   cases hx' with
   | nil=>cases hy' <;> simp
   | cons _ _ =>
    cases hy' with
    | nil=>simp
    | cons _ _=>simp at hz
  refine Zb (show P (.done (.ret (.bool (xs.size == ys.size)))) s' from ?_)
  rw [hfin]
  exact q
theorem B6 {x y:List (List K)} {a b:Addr} {Q:Bool->Shared->Prop} (hu:A.units+1 < cLine) (hx:IsN knd s.heap x a) (hy:IsN knd s.heap y b) (q:Q (decide (x=y)) s):wpAny (model prog w) A (eqBool (.ref a) (.ref b)) Q E s:=by
 unfold eqBool
 try with_reducible refine Xi ?_
 refine (show wpAny _ _ (if (Value.ref a == Value.ref b)=true then _ else _) Q E s from ?_)
 by_cases hab:(Value.ref a == Value.ref b)=true
 ·rw [Zr hab]
  have e:a=b:=by have:=eq_of_beq hab;injection this
  subst e
  obtain rfl:=hx.fn hy
  exact Zp (wpAny_rule (Zb (by simpa using q)))
 ·rw [Zo hab]
  exact Zp (wpAny_richCompare_same_room (op:=.Eq) hx.ty hy.ty X4 (Y5 X4 hx.ty F.entry_tuple_eq (yD (by show A.in1.units < cLine;exact hu) hx hy ⟨_,rfl,(fun e=>nomatch e),YY q⟩) (F.args_tuple_eq_2 _ _)) (Nat.lt_of_succ_lt hu))
theorem su {ks:List K} {n:Nat} {a:Addr} {Q:Bool->Shared->Prop} (hk:IsTupleKey knd s.heap ks a) (q:Q true s):wpAny (model prog w) A (eqIsQuiet (n+1) (.ref a)) Q E s:=by
 have ty:=hk.typeIs
 obtain ⟨o,its,m,g,_,d,i⟩:=hk
 unfold eqIsQuiet
 refine Zp (Xe ty X4.lookup (show wpAny _ _ (isInstance (.ref a) (.type "tuple") >>= _) _ _ s from Zp (XD ty X5 ?_)))
 simp only [Xo,Yj,↓reduceIte]
 refine Zp (wpAny_seqItems g d (Zp (show wpAny _ _ (forIn its _ _) _ _ s from ?_)))
 rw [← Wy]
 refine XC _ (fun rest r s'=>r.1=none/\s'=s/\∀ v∈rest,carriedByValue v=true) _ ?turn ?fin _ _ ⟨rfl,rfl,i.byValue⟩
 case turn =>
  rintro v rest r s' ⟨hr,rfl,hall⟩
  rw [eqIsQuiet_byValue _ (hall v Zx)]
  refine Zp (Zb ?_)
  simp only [Xo,Yj,↓reduceIte]
  exact Zb ⟨rfl,rfl,fun u hu=>hall u (Zw _ hu)⟩
 case fin =>
  rintro ⟨r1,r2⟩ s' ⟨hr,rfl,_⟩
  simp only at hr
  subst hr
  exact Zb q
theorem vL {ks:List (List K)} {a:Addr} {Q:Bool->Shared->Prop} (hk:IsN knd s.heap ks a) (q:Q true s):wpAny (model prog w) A (eqIsQuiet 8 (.ref a)) Q E s:=by
 have ty:=hk.ty
 obtain ⟨o,its,m,g,_,d,i⟩:=hk
 unfold eqIsQuiet
 refine Zp (Xe ty X4.lookup (show wpAny _ _ (isInstance (.ref a) (.type "tuple") >>= _) _ _ s from Zp (XD ty X5 ?_)))
 simp only [Xo,Yj,↓reduceIte]
 refine Zp (wpAny_seqItems g d (Zp (show wpAny _ _ (forIn its _ _) _ _ s from ?_)))
 rw [← Wy]
 refine XC _ (fun rest r s'=>r.1=none/\s'=s/\∃ ks',Its knd s.heap ks' rest) _ ?turn ?fin _ _ ⟨rfl,rfl,ks,i⟩
 case turn =>
  rintro v rest r s' ⟨hr,rfl,ks',hi⟩
  cases hi with
  | cons h1 h2 =>
   refine Zp (su h1 ?_)
   simp only [Xo,Yj,↓reduceIte]
   exact Zb ⟨rfl,rfl,_,h2⟩
 case fin =>
  rintro ⟨r1,r2⟩ s' ⟨hr,rfl,_⟩
  simp only at hr
  subst hr
  exact Zb q
noncomputable def nest (knd:KeyKind prog w K):HeapKind prog w (List (List K)) where
 is:=IsN knd
 hash:=vh knd
 draws:=pM
 room:=fun A=>A.units+1 < cLine
 inj:=fun hx hy=>hx.fn hy
 keeps:=fun x ho hd hs=>x.keeps ho hd hs
 pyHash:=fun hu hk q=>wY hu hk q
 eqBool:=fun hu hx hy q=>B6 hu hx hy q
 quiet:=fun hk q=>vL hk q
end NK
end
section
namespace L2
open PySem PySem.Spec PyProof.Rows
noncomputable abbrev cx:=List (List Key)
noncomputable def hN (w:World) (k:cx):Int:=reduceHash (Builtin.Tuple.tupleHashOf (k.map fun x=>reduceHash (Builtin.Tuple.tupleHashOf (x.map (BG w)))))
noncomputable def Dl (w:World) (x:cx×Addr×Value):DictEntry:=⟨hN w x.1,.ref x.2.1,x.2.2⟩
noncomputable abbrev KN:List (cx×Addr×V)->List (cx×Addr×Value)->Prop:=Paired fun p q=>p.1=q.1/\p.2.1=q.2.1/\RelV p.2.2 q.2.2
noncomputable def DN (a:Addr) (kvs:List (cx×Addr×V)):HO:=.ext fun w h=>kvs.length<=sizeLine/\(a == sysModules)=false/\∃ xs:List (cx×Addr×Value),KN kvs xs ∧
 ∃ o es ep,h.get? a=some o/\o.ExactDict/\o.data=.dict es ep/\es.toList=xs.map (Dl w)/\(xs.map (·.1)).Nodup
noncomputable def NAt (H:Hp) (k:cx) (b:Addr):Prop:=∃ cs:Wm,H b=some (.tup (cs.map V.ref))/\Paired (fun (x:List Key) (c:Addr)=>H c=some (.tup (x.map kV))) k cs
theorem NAt.mono {H H':Hp} {k:cx} {b:Addr} (x:NAt H k b) (t:∀ a xs,H a=some (.tup xs)->H' a=some (.tup xs)):NAt H' k b:=by
 obtain ⟨cs,h,r⟩:=x
 exact ⟨cs,t _ _ h,Paired.mapP r fun _ _ z=>t _ _ z⟩
section
variable {P:Program} {w:World} {H:Hp} {h:Heap} {a b:Addr}
theorem NAt.is {k:cx} (ok:HOk P w H h) (x:NAt H k b):NK.IsN (ba P w) h k b:=by
 obtain ⟨cs,e,r⟩:=x
 obtain ⟨z0,its,v,_,o,h1,h2,n,h3⟩:=(show bI P w H h b (.tup (cs.map V.ref)) from ok b _ e)
 refine ⟨o,its.toArray,n,h1,h2,h3,?_⟩
 rw [List.toList_toArray]
 clear e h1 h2 h3 z0
 induction r generalizing its with
 | nil =>
  rw [Xz] at v
  cases v
  exact .nil
 | @cons x c xs cs' hx _ ih =>
  rw [Zs] at v
  cases v with
  | @cons _ u _ _ hu t =>
   obtain rfl:=(show u=Value.ref c from hu)
   obtain ⟨_,its2,v2,_,o2,g1,g2,n2,g3⟩:=(show bI P w H h c (.tup (x.map kV)) from ok c _ hx)
   exact .cons ⟨o2,its2.toArray,n2,g1,g2,g3,by simpa using j6 v2⟩ (ih _ t)
theorem ze {kvs:List (cx×Addr×V)} (ok:HOk P w H h) (e:H a=some (DN a kvs)) (ks:∀ p∈kvs,NAt H p.1 p.2.1):kvs.length<=sizeLine/\(a == sysModules)=false ∧
  ∃ xs,KN kvs xs/\h.DictOfH (NK.nest (ba P w)) a xs:=by
 obtain ⟨⟨z,y,xs,r,o,es,ep,h1,h2,h3,h4,h5⟩,_⟩:=(show bI P w H h a (DN a kvs) from ok a _ e)
 refine ⟨z,y,xs,r,o,es,ep,h1,h2,h3,h4,fun x hx=>?_,h5⟩
 have all:∀ {l:List (cx×Addr×V)} {m:List (cx×Addr×Value)},KN l m->(∀ p∈l,NAt H p.1 p.2.1)->∀ x∈m,NK.IsN (ba P w) h x.1 x.2.1:=by
  intro l m q
  induction q with
  | nil=>intro _ x hx;exact nomatch hx
  | @cons p q ps qs hq t ih =>
   intro hl x hx
   rcases Zh.mp hx with e | hx
   ·subst e
    rw [← hq.1,← hq.2.1]
    exact (hl p Zx).is ok
   ·exact ih (fun p hp=>hl p (Zw _ hp)) x hx
 exact all r ks x hx
theorem uD {H':Hp} {h':Heap} {kvs:List (cx×Addr×V)} {xs:List (cx×Addr×Value)} (z:kvs.length<=sizeLine) (hd:(a == sysModules)=false) (rel:KN kvs xs) (dd:h'.DictOfH (NK.nest (ba P w)) a xs) :
  bI P w H' h' a (DN a kvs):=by
 obtain ⟨o,es,ep,h1,h2,h3,h4,_,h5⟩:=dd
 refine ⟨⟨z,hd,xs,rel,o,es,ep,h1,h2,h3,h4,h5⟩,⟨o,h1⟩,?_⟩
 rintro g1 g2 ⟨z,hd,xs,rel,o,es,ep,h1,h2,h3,h4,h5⟩ k
 exact ⟨z,hd,xs,rel,o,es,ep,k _ h1,h2,h3,h4,h5⟩
theorem KN.length {l:List (cx×Addr×V)} {m:List (cx×Addr×Value)} (r:KN l m):l.length=m.length:=YA r
noncomputable def atN (kvs:List (cx×Addr×V)) (k:cx):Option V:=(kvs.find? fun x=>decide (x.1=k)).map (·.2.2)
theorem KN.at {l:List (cx×Addr×V)} {m:List (cx×Addr×Value)} (r:KN l m) (k:cx):gD (atN l k) ((atKey m k).map (·.2)):=by
 unfold atN atKey
 induction r with
 | nil=>exact (show gD none none from trivial)
 | @cons p q ps qs hq t ih =>
  rw [Z0,Z0,← hq.1]
  by_cases e:p.1=k
  ·simp only [e,decide_true,Option.map_some]
   exact hq.2.2
  ·simp only [e,decide_false]
   exact ih
theorem KN.add {l:List (cx×Addr×V)} {m:List (cx×Addr×Value)} (r:KN l m) {p:cx×Addr×V} {q:cx×Addr×Value} (x:p.1=q.1/\p.2.1=q.2.1/\RelV p.2.2 q.2.2):KN (l++[p]) (m++[q]):=by
 induction r with
 | nil=>exact .cons x .nil
 | cons h _ ih=>exact .cons h ih
end
end L2
end
section
namespace VS
open PySem PySem.Spec PyProof.Rows L2
noncomputable def sx (s:Tx):Str:=⟨s.toArray⟩
noncomputable def nH (s:Tx):Prop:=s.length<=eA/\∀ c∈s,c < 1114112
noncomputable abbrev Me:=Nat->Option V
structure Gx where
 K:Xd
 ct:Nat->Addr×(Nat->Str)
 me:Me:=fun _=>none
noncomputable def Gx.at (G:Gx) (m:Me):Gx:=⟨G.K,G.ct,m⟩
noncomputable def aO:Key->T
 | .inl i=>.int i
 | .inr x=>.str x.cps.toList
noncomputable def nkT (k:cx):T:=.tup (k.map fun x=>T.tup (x.map aO))
noncomputable def ke (K:Xd) (H:Hp) (a:Addr) (ns:Wh):Prop :=
 (∃ o,H a=some (.frz o (.lst (ns.map V.int)))) ∨
  ∃ (o:Obj) (its:Array Value) (n:Nat),K.lookup a=some o/\o.cls=.type "list" ∧ o.dict=none/\o.data=.seq its n/\its.size<=sizeLine/\aQ (ns.map V.int) its.toList
mutual
inductive Rp (G:Gx) (H:Hp):V->T->Wm->Prop
 | non:Rp G H .non .non []
 | bl (b:Bool):Rp G H (.bl b) (.bl b) []
 | int (i:Int):Rp G H (.int i) (.int i) []
 | str (s:Tx):nH s->Rp G H (.str (sx s)) (.str s) []
 | scr {a:Addr} {ns:Wh}:ke G.K H a ns->Rp G H (.ref a) (.scr ns) []
 | tup {a:Addr} {vs:List V} {ts:Wb} {Fs:Xg}:H a=some (.tup vs)->RpL G H vs ts Fs->Rp G H (.ref a) (.tup ts) Fs.flatten
 | lst {a:Addr} {vs:List V} {ts:Wb} {Fs:Xg}:H a=some (.lst vs)->RpL G H vs ts Fs->Rp G H (.ref a) (.lst ts) (a :: Fs.flatten)
 | dct {a:Addr} {ks:List Key} {vs:List V} {ts:Wb} {Fs:Xg}:H a=some (.dK (ks.zip vs))->ks.length=vs.length->RpL G H vs ts Fs->Rp G H (.ref a) (.dct 0 ((ks.map aO).zip ts)) (a :: Fs.flatten)
 | dctT {a:Addr} {ks:List (List Key)} {vs:List V} {ts:Wb} {Fs:Xg}:H a=some (.dT (ks.zip vs))->ks.length=vs.length->RpL G H vs ts Fs->Rp G H (.ref a) (.dct 1 ((ks.map fun k=>T.tup (k.map aO)).zip ts)) (a :: Fs.flatten)
 | dctN {a:Addr} {ks:List (cx×Addr)} {vs:List V} {ts:Wb} {Fs:Xg}:H a=some (DN a ((ks.zip vs).map fun p=>(p.1.1,p.1.2,p.2)))->ks.length=vs.length->(∀ p∈ks,NAt H p.1 p.2)->RpL G H vs ts Fs->Rp G H (.ref a) (.dct 2 ((ks.map fun p=>nkT p.1).zip ts)) (a :: Fs.flatten)
 | dctZ {a:Addr} {o:Obj} {ks:List Key} {vs:List V} {ts:Wb} {Fs:Xg}:H a=some (.frz o (.dK (ks.zip vs)))->ks.length=vs.length->RpL G H vs ts Fs->Rp G H (.ref a) (.dct 3 ((ks.map aO).zip ts)) Fs.flatten
 | exc {c:Nat} {a:Addr} {o:Obj}:H a=some (.frz o (.own a))->(o.cls=.ref (G.ct c).1/\o.dict=none/\∃ vs,o.data=.fields vs)->Rp G H (.ref a) (.obj c []) []
 | ins {c:Nat} {a dx:Addr} {b:Bool} {ks:Wi} {vs:List V} {ts:Wb} {Fs:Xg}:H a=some (.ins (G.ct (c+1)).1 dx ((ks.map (G.ct (c+1)).2).zip vs))->ks.length=vs.length->(b=true->G.me 0=some (.ref a))->RpL G H vs ts Fs->Rp G H (.ref a) (.obj (c+1) ((0,.bl b) :: ks.zip ts)) (a :: Fs.flatten)
 | mk {m:Nat} {a:Addr} {t:T} {F:Wm}:G.me m=some (.ref a)->Rp G H (.ref a) t F->Rp G H (.ref a) (.obj 0 [(0,.bl true),(m,t)]) F
inductive RpL (G:Gx) (H:Hp):List V->Wb->Xg->Prop
 | nil:RpL G H [] [] []
 | cons {v:V} {t:T} {F:Wm} {vs:List V} {ts:Wb} {Fs:Xg}:Rp G H v t F->RpL G H vs ts Fs->RpL G H (v :: vs) (t :: ts) (F :: Fs)
end
structure Kept (H H':Hp):Prop where
 tup:∀ a xs,H a=some (.tup xs)->H' a=some (.tup xs)
 frz:∀ a o u,H a=some (.frz o u)->H' a=some (.frz o u)
theorem Kept.refl (H:Hp):Kept H H:=⟨fun _ _ h=>h,fun _ _ _ h=>h⟩
theorem Kept.trans {H H1 H2:Hp} (a:Kept H H1) (b:Kept H1 H2):Kept H H2:=⟨fun c x h=>b.tup c x (a.tup c x h),fun c o u h=>b.frz c o u (a.frz c o u h)⟩
theorem Kept.of {H H':Hp} (e:aN H H'):Kept H H':=⟨fun a _ h=>e a _ h,fun a _ _ h=>e a _ h⟩
theorem Kept.upd {H:Hp} {a:Addr} {o:HO} (mu:Mut (H a)\/H a=none):Kept H (upd H a o):=by
 have ne:∀ b u,H b=some u->¬ Mut (some u)->b ≠ a:=fun b u h nm e=>by
  subst e
  rcases mu with m | m
  ·rw [h] at m;exact nm m
  ·rw [h] at m;cases m
 exact ⟨fun b xs h=>by rw [aD (ne b _ h fun z=>z)];exact h,fun b o u h=>by rw [aD (ne b _ h fun z=>z)];exact h⟩
theorem ke.kept {K:Xd} {H H':Hp} {a:Addr} {ns:Wh} (h:ke K H a ns) (k:Kept H H'):ke K H' a ns:=by
 rcases h with ⟨o,e⟩ | h
 ·exact .inl ⟨o,k.frz _ _ _ e⟩
 ·exact .inr h
theorem ke.seq {K:Xd} {H:Hp} {a:Addr} {ns:Wh} (h:ke K H a ns):SqL K H a (ns.map V.int):=by
 rcases h with ⟨o,e⟩ | h
 ·exact .inl (.inr ⟨o,e⟩)
 ·exact .inr h
theorem oC {H H':Hp} {a:Addr} {F:Wm} (f:∀ b∈a :: F,∀ o,H b=some o->H' b=some o):∀ b∈F,∀ o,H b=some o->H' b=some o:=fun b m=>f b (Zw _ m)
theorem qY {H H':Hp} {F:Wm} {Fs:Xg} (f:∀ b∈(F :: Fs).flatten,∀ o,H b=some o->H' b=some o):(∀ b∈F,∀ o,H b=some o->H' b=some o)/\∀ b∈Fs.flatten,∀ o,H b=some o->H' b=some o:=by
 rw [ZU] at f
 exact ⟨fun b m=>f b (Z7 _ m),fun b m=>f b (ZX _ m)⟩
theorem Rp.keep {G:Gx} {H H':Hp} (k:Kept H H') {v:V} {t:T} {F:Wm} (r:Rp G H v t F):(∀ a∈F,∀ o,H a=some o->H' a=some o)->Rp G H' v t F :=
 Rp.rec (motive_1:=fun v t F _=>(∀ a∈F,∀ o,H a=some o->H' a=some o)->Rp G H' v t F) (motive_2:=fun vs ts Fs _=>(∀ a∈Fs.flatten,∀ o,H a=some o->H' a=some o)->RpL G H' vs ts Fs)
  (fun _=>.non) (fun b _=>.bl b) (fun i _=>.int i) (fun s h _=>.str s h) (fun h _=>.scr (h.kept k)) (fun h _ ih f=>.tup (k.tup _ _ h) (ih f)) (fun h _ ih f=>.lst (f _ Zx _ h) (ih (oC f))) (fun h l _ ih f=>.dct (f _ Zx _ h) l (ih (oC f))) (fun h l _ ih f=>.dctT (f _ Zx _ h) l (ih (oC f)))
  (fun h l n _ ih f=>.dctN (f _ Zx _ h) l (fun p m=>(n p m).mono k.tup) (ih (oC f))) (fun h l _ ih f=>.dctZ (k.frz _ _ _ h) l (ih f)) (fun h hc _=>.exc (k.frz _ _ _ h) hc) (fun h l m _ ih f=>.ins (f _ Zx _ h) l m (ih (oC f))) (fun h _ ih f=>.mk h (ih f)) (fun _=>.nil) (fun _ _ i1 i2 f=>.cons (i1 (qY f).1) (i2 (qY f).2)) r
theorem RpL.keep {G:Gx} {H H':Hp} (k:Kept H H'):∀ {vs:List V} {ts:Wb} {Fs:Xg},RpL G H vs ts Fs->(∀ a∈Fs.flatten,∀ o,H a=some o->H' a=some o)->RpL G H' vs ts Fs
 | _,_,_,.nil,_=>.nil
 | _,_,_,.cons r q,f=>.cons (r.keep k (qY f).1) (RpL.keep k q (qY f).2)
theorem Rp.same {G:Gx} {H H':Hp} (e:aN H H') {v:V} {t:T} {F:Wm} (r:Rp G H v t F):Rp G H' v t F:=r.keep (Kept.of e) fun a _ o h=>e a o h
theorem RpL.same {G:Gx} {H H':Hp} (e:aN H H') {v:List V} {t:Wb} {F:Xg} (r:RpL G H v t F):RpL G H' v t F:=r.keep (Kept.of e) fun a _ o h=>e a o h
theorem vn {H:Hp} {a:Addr} {F:Wm} (h:Mut (H a)) (ih:∀ b∈F,Mut (H b)):∀ b∈a :: F,Mut (H b):=fun b m=>(Zh.mp m).elim (fun e=>e ▸ h) (ih b)
theorem uZ {H:Hp} {a:Addr} {o:HO} (h:H a=some o) (m:Mut (some o)):Mut (H a):=by rw [h];exact m
theorem Cn {H:Hp} {F:Wm} {Fs:Xg} (h1:∀ b∈F,Mut (H b)) (h2:∀ b∈Fs.flatten,Mut (H b)):∀ b∈(F :: Fs).flatten,Mut (H b):=fun b m=>by
 rw [ZU] at m
 exact (Zc.mp m).elim (h1 b) (h2 b)
theorem Rp.dom {G:Gx} {H:Hp} {v:V} {t:T} {F:Wm} (r:Rp G H v t F):∀ a∈F,Mut (H a) :=
 Rp.rec (motive_1:=fun v t F _=>∀ a∈F,Mut (H a)) (motive_2:=fun vs ts Fs _=>∀ a∈Fs.flatten,Mut (H a))
  (fun _ m=>nomatch m) (fun _ _ m=>nomatch m) (fun _ _ m=>nomatch m) (fun _ _ _ m=>nomatch m) (fun _ _ m=>nomatch m) (fun _ _ ih=>ih) (fun h _ ih=>vn (uZ h True.intro) ih) (fun h _ _ ih=>vn (uZ h True.intro) ih) (fun h _ _ ih=>vn (uZ h True.intro) ih)
  (fun h _ _ _ ih=>vn (uZ h True.intro) ih) (fun _ _ _ ih=>ih) (fun _ _ _ m=>nomatch m) (fun h _ _ _ ih=>vn (uZ h True.intro) ih) (fun _ _ ih=>ih) (fun _ m=>nomatch m) (fun _ _ i1 i2=>Cn i1 i2) r
theorem RpL.dom {G:Gx} {H:Hp}:∀ {vs:List V} {ts:Wb} {Fs:Xg},RpL G H vs ts Fs->∀ a∈Fs.flatten,Mut (H a)
 | _,_,_,.nil=>fun _ m=>nomatch m
 | _,_,_,.cons r q=>Cn r.dom (RpL.dom q)
theorem Mut.ne_none {o:Option HO} (m:Mut o):o ≠ none:=fun e=>by subst e;exact m
theorem Cj {F:Wm} {Fs:Xg} {t:T} {ts:Wb} (h1:VS.imm t=true->F=[]) (h2:VS.fm ts=true->Fs.flatten=[]) (i:VS.fm (t :: ts)=true):(F :: Fs).flatten=[]:=by
 simp only [VS.fm,ZY] at i
 rw [ZU,h1 i.1,h2 i.2]
 rfl
theorem Rp.imm {G:Gx} {H:Hp} {v:V} {t:T} {F:Wm} (r:Rp G H v t F):VS.imm t=true->F=[] :=
 Rp.rec (motive_1:=fun v t F _=>VS.imm t=true->F=[]) (motive_2:=fun vs ts Fs _=>VS.fm ts=true->Fs.flatten=[])
  (fun _=>rfl) (fun _ _=>rfl) (fun _ _=>rfl) (fun _ _ _=>rfl) (fun _ _=>rfl) (fun _ _ ih i=>ih (by simpa [VS.imm] using i)) (fun _ _ _ i=>absurd (show false=true from i) Za) (fun _ _ _ _ i=>absurd (show false=true from i) Za) (fun _ _ _ _ i=>absurd (show false=true from i) Za)
  (fun _ _ _ _ _ i=>absurd (show false=true from i) Za) (fun _ _ _ _ i=>absurd (show false=true from i) Za) (fun _ _ _=>rfl) (fun _ _ _ _ _ i=>absurd (show false=true from i) Za) (fun _ _ _ i=>absurd (show false=true from i) Za) (fun _=>rfl) (fun _ _ i1 i2 i=>Cj i1 i2 i) r
theorem RpL.imm {G:Gx} {H:Hp}:∀ {vs:List V} {ts:Wb} {Fs:Xg},RpL G H vs ts Fs->VS.fm ts=true->Fs.flatten=[]
 | _,_,_,.nil,_=>rfl
 | _,_,_,.cons r q,i=>Cj r.imm (RpL.imm q) i
theorem RpL.len {G:Gx} {H:Hp}:∀ {vs:List V} {ts:Wb} {Fs:Xg},RpL G H vs ts Fs->vs.length=ts.length/\Fs.length=ts.length
 | _,_,_,.nil=>⟨rfl,rfl⟩
 | _,_,_,.cons _ q=>by
  have:=RpL.len q
  simp only [Zk]
  lia
theorem RpL.get {G:Gx} {H:Hp}:∀ {vs:List V} {ts:Wb} {Fs:Xg} (i:Nat) {t:T},RpL G H vs ts Fs->ts[i]?=some t->∃ v F,vs[i]?=some v/\Fs[i]?=some F/\Rp G H v t F
 | _,_,_,_,_,.nil,e=>by simp at e
 | _,_,_,0,_,.cons r _,e=>by
  simp at e
  subst e
  exact ⟨_,_,rfl,rfl,r⟩
 | _,_,_,i+1,_,.cons _ q,e=>by
  obtain ⟨v,F,h1,h2,h3⟩:=RpL.get i q (by simpa using e)
  exact ⟨v,F,by simpa using h1,by simpa using h2,h3⟩
theorem RpL.append {G:Gx} {H:Hp}:∀ {vs:List V} {ts:Wb} {Fs:Xg} {us:List V} {rs:Wb} {Gs:Xg},RpL G H vs ts Fs->RpL G H us rs Gs->RpL G H (vs++us) (ts++rs) (Fs++Gs)
 | _,_,_,_,_,_,.nil,s=>s
 | _,_,_,_,_,_,.cons r q,s=>.cons r (RpL.append q s)
theorem RpL.take {G:Gx} {H:Hp}:∀ {vs:List V} {ts:Wb} {Fs:Xg} (n:Nat),RpL G H vs ts Fs->RpL G H (vs.take n) (ts.take n) (Fs.take n)
 | _,_,_,0,_=>by simpa using RpL.nil
 | _,_,_,n+1,.nil=>.nil
 | _,_,_,n+1,.cons r q=>.cons r (RpL.take n q)
theorem RpL.drop {G:Gx} {H:Hp}:∀ {vs:List V} {ts:Wb} {Fs:Xg} (n:Nat),RpL G H vs ts Fs->RpL G H (vs.drop n) (ts.drop n) (Fs.drop n)
 | _,_,_,0,q=>q
 | _,_,_,n+1,.nil=>.nil
 | _,_,_,n+1,.cons r q=>RpL.drop n q
noncomputable def jI:Cell->T
 | .pu t=>t
 | .ow t=>t
noncomputable abbrev Fps:=Nat->Wm
structure SR (G:Gx) (Φ:Fps) (η:VS.Env) (σ:L2.St) (H:Hp):Prop where
 len:η.length=σ.length
 rp:∀ i c,η[i]?=some (some c)->∃ v,σ[i]?=some (some v)/\Rp G H v (jI c) (Φ i)
 nd:∀ i t,η[i]?=some (some (.ow t))->(Φ i).Nodup
 sep:∀ i j t c,η[i]?=some (some (.ow t))->η[j]?=some (some c)->i ≠ j->∀ a∈Φ i,a ∉ Φ j
noncomputable def dC (Φ:Fps) (η:VS.Env) (a:Addr):Prop:=∃ j t,η[j]?=some (some (.pu t))/\a∈Φ j
noncomputable def b9 (Φ:Fps) (η:VS.Env) (a:Addr):Prop:=∃ j t,η[j]?=some (some (.ow t))/\a∈Φ j
noncomputable def Fp (Φ:Fps) (η:VS.Env) (H:Hp):Md->Wm->Prop
 | .fr,F=>F.Nodup/\∀ a∈F,H a=none
 | .pu,F=>∀ a∈F,H a=none\/dC Φ η a
 | .bo,F=>∀ a∈F,H a=none\/dC Φ η a\/b9 Φ η a
theorem SR.same {G:Gx} {Φ:Fps} {η:VS.Env} {σ:L2.St} {H H':Hp} (s:SR G Φ η σ H) (e:aN H H'):SR G Φ η σ H' :=
 ⟨s.len,fun i c h=>let ⟨v,h1,h2⟩:=s.rp i c h;⟨v,h1,h2.same e⟩,s.nd,s.sep⟩
theorem SR.pu_dom {G:Gx} {Φ:Fps} {η:VS.Env} {σ:L2.St} {H:Hp} {a:Addr} (s:SR G Φ η σ H) (h:dC Φ η a):Mut (H a):=by
 obtain ⟨j,t,h1,h2⟩:=h
 obtain ⟨v,_,r⟩:=s.rp j _ h1
 exact r.dom a h2
theorem SR.ow_dom {G:Gx} {Φ:Fps} {η:VS.Env} {σ:L2.St} {H:Hp} {a:Addr} (s:SR G Φ η σ H) (h:b9 Φ η a):Mut (H a):=by
 obtain ⟨j,t,h1,h2⟩:=h
 obtain ⟨v,_,r⟩:=s.rp j _ h1
 exact r.dom a h2
theorem Fp.nil {Φ:Fps} {η:VS.Env} {H:Hp} {m:Md}:Fp Φ η H m []:=by
 cases m
 ·exact ⟨Yd,fun a h=>by simp at h⟩
 ·exact fun a h=>by simp at h
 ·exact fun a h=>by simp at h
theorem Fp.bo {Φ:Fps} {η:VS.Env} {H:Hp} {F:Wm}:∀ {m:Md},Fp Φ η H m F->Fp Φ η H .bo F
 | .fr,h=>fun a m=>.inl (h.2 a m)
 | .pu,h=>fun a m=>(h a m).elim .inl fun z=>.inr (.inl z)
 | .bo,h=>h
theorem Fp.pu {Φ:Fps} {η:VS.Env} {H:Hp} {F:Wm}:∀ {m:Md},m ≠ .bo->Fp Φ η H m F->Fp Φ η H .pu F
 | .fr,_,h=>fun a m=>.inl (h.2 a m)
 | .pu,_,h=>h
 | .bo,n,_=>absurd rfl n
theorem Fp.back {Φ:Fps} {η:VS.Env} {H H':Hp} (e:aN H H') {F:Wm}:∀ {m:Md},Fp Φ η H' m F->Fp Φ η H m F
 | .fr,h=>⟨h.1,fun a m=>e.free (h.2 a m)⟩
 | .pu,h=>fun a m=>(h a m).imp e.free id
 | .bo,h=>fun a m=>(h a m).imp e.free id
theorem Fp.up {G:Gx} {Φ:Fps} {η:VS.Env} {H H':Hp} {m:Md} {v:V} {t:T} {F:Wm} (f:Fp Φ η H m F) (r:Rp G H' v t F):Fp Φ η H (VS.up m t).1 F:=by
 unfold VS.up
 by_cases h:VS.imm t=true
 ·rw [r.imm h]
  exact Fp.nil
 ·simp only [h,if_false,Yj]
  exact f
noncomputable def tE (G:Gx) (c:Ex):TE:=fun σ H Q=>∃ Φ η m r,SR G Φ η σ H/\c η=some (m,r)/\∀ v H' F,aN H H'->Rp G H' v r F->Fp Φ η H m F->Q v H'
noncomputable def PV (G:Gx) (X:Cx) (e:Expr) (c:Ex):Prop:=PE X e (tE G c)
theorem PE.weak {X:Cx} {e:Expr} {t t':TE} (h:PE X e t) (w:∀ σ H Q,t' σ H Q->t σ H Q):PE X e t':=fun pins s σ H Q I q=>h pins s σ H Q I (w σ H Q q)
theorem PT.weak {X:Cx} {e:Expr} {t t':TT} (h:PT X e t) (w:∀ σ H Q,t' σ H Q->t σ H Q):PT X e t':=fun pins s σ H Q I q=>h pins s σ H Q I (w σ H Q q)
theorem PA.weak {X:Cx} {e:List Expr} {t t':TA} (h:PA X e t) (w:∀ σ H Q,t' σ H Q->t σ H Q):PA X e t':=fun pos pins s σ H Q I q=>h pos pins s σ H Q I (w σ H Q q)
noncomputable def tT (G:Gx) (c:Ex):TT:=fun σ H Q=>∃ Φ η m r b,SR G Φ η σ H/\c η=some (m,r)/\tru r=some b/\∀ H',aN H H'->Q b H'
noncomputable def PVT (G:Gx) (X:Cx) (e:Expr) (c:Ex):Prop:=PT X e (tT G c)
noncomputable def frs (l:We) (Fs:Xg):Wm:=match l,Fs with
 | v :: l,F :: Fs=>match v.1 with
  | .fr=>F++frs l Fs
  | _=>frs l Fs
 | _,_=>[]
structure FpL (Φ:Fps) (η:VS.Env) (H:Hp) (l:We) (Fs:Xg):Prop where
 each:∀ (i:Nat) v F,l[i]?=some v->Fs[i]?=some F->Fp Φ η H v.1 F
 nd:(frs l Fs).Nodup
noncomputable def tEs (G:Gx) (c:Exs):TA:=fun σ H Q=>∃ Φ η l,SR G Φ η σ H/\c η=some l/\∀ vs H' Fs,aN H H'->RpL G H' vs (trees l) Fs->FpL Φ η H l Fs->Q vs H'
noncomputable def PVs (G:Gx) (X:Cx) (es:List Expr) (c:Exs):Prop:=PA X es (tEs G c)
section
variable {G:Gx} {X:Cx} {a b c:Expr} {ca cb cc:Ex} {pos:Pos}
theorem ag {i j pos}:PV G X (.Constant (.int i) j pos) (Q2 i):=PE.weak qi fun σ H Q hq=>by
 obtain ⟨Φ,η,m,r,s,e,k⟩:=hq
 cases (show some (Md.fr,T.int i)=some (m,r) from e)
 exact k _ _ _ (aN.refl _) (.int i) Fp.nil
theorem zm {i j pos}:PV G X (.Constant (.bool i) j pos) (eC (.bl i)):=PE.weak Co fun σ H Q hq=>by
 obtain ⟨Φ,η,m,r,s,e,k⟩:=hq
 cases (show some (Md.fr,T.bl i)=some (m,r) from e)
 exact k _ _ _ (aN.refl _) (.bl i) Fp.nil
theorem uH {j pos}:PV G X (.Constant .none j pos) (eC .non):=PE.weak AW fun σ H Q hq=>by
 obtain ⟨Φ,η,m,r,s,e,k⟩:=hq
 cases (show some (Md.fr,T.non)=some (m,r) from e)
 exact k _ _ _ (aN.refl _) .non Fp.nil
theorem kP {x:Str} {t:Tx} {j pos} (h:x=sx t:=by decide +kernel) (hl:nH t:=by decide):PV G X (.Constant (.str x) j pos) (eC (.str t)):=PE.weak As fun σ H Q hq=>by
 obtain ⟨Φ,η,m,r,s,e,k⟩:=hq
 cases (show some (Md.fr,T.str t)=some (m,r) from e)
 subst h
 exact k _ _ _ (aN.refl _) (.str t hl) Fp.nil
theorem ff (i:Nat) {x:Str} {pos:Pos} (hN:X.N[i]?=some x:=by rfl) (hv:Vis X.env.scope x:=by first | exact Or.inl rfl | exact Or.inr (Or.inl rfl) | exact Or.inr (Or.inr rfl)) (hd:(x == ("__debug__" : Str))=false:=by decide)
  (hcd:(x == ("__classdict__" : Str))=false:=by decide):PV G X (.Name x pos) (aa i):=PE.weak (gr hN hv hd hcd) fun σ H Q hq=>by
 obtain ⟨Φ,η,m,r,s,e,k⟩:=hq
 unfold aa at e
 split at e
 ·rename_i t h
  obtain ⟨v,h1,h2⟩:=s.rp _ _ h
  have e':VS.up .pu t=(m,r):=Zn e
  have er:t=r:=congrArg Prod.snd e'
  have em:(VS.up .pu t).1=m:=congrArg Prod.fst e'
  rw [← er,← em] at k
  refine ⟨v,h1,k v H (Φ i) (aN.refl _) h2 ?_⟩
  have f:Fp Φ η H .pu (Φ i):=fun a ha=>.inr ⟨i,_,h,ha⟩
  exact f.up h2
 ·rename_i t h
  obtain ⟨v,h1,h2⟩:=s.rp _ _ h
  cases e
  exact ⟨v,h1,k v H (Φ i) (aN.refl _) h2 fun a ha=>.inr (.inr ⟨i,_,h,ha⟩)⟩
 ·cases e
theorem yf {x:Str} {u:Value} {v:V} {t:T} {pos:Pos} (hg:Gl X x) (hm:X.mg x=some u) (r:RelV v u) (hr:∀ H,Rp G H v t []) (hd:(x == ("__debug__" : Str))=false:=by decide):PV G X (.Name x pos) (eC t) :=
 PE.weak (xS hg hm r hd) fun σ H Q hq=>by
  obtain ⟨Φ,η,m,t',s,e,k⟩:=hq
  cases (show some (Md.fr,t)=some (m,t') from e)
  exact k _ _ _ (aN.refl _) (hr H) Fp.nil
structure Two (G:Gx) (Φ:Fps) (η:VS.Env) (H0 H:Hp) (x y:Val) (u w:V) (F1 F2:Wm):Prop where
 same:aN H0 H
 r1:Rp G H u x.2 F1
 r2:Rp G H w y.2 F2
 f1:Fp Φ η H0 x.1 F1
 f2:Fp Φ η H0 y.1 F2
 nd:x.1=.fr->y.1=.fr->(F1++F2).Nodup
noncomputable def fu (G:Gx) (r:R2) (f:Val->Val->Wc):Prop:=∀ (Φ:Fps) (η:VS.Env) (H0 H:Hp) (x y:Val) (u w:V) (F1 F2:Wm) (m:Md) (t:T) (Q:VK),Two G Φ η H0 H x y u w F1 F2->f x y=some (m,t) →
 (∀ v H' F,aN H H'->Rp G H' v t F->Fp Φ η H0 m F->Q v H')->r u w H Q
theorem vR {σ:L2.St} {H:Hp} {Q:V->V->Hp->Prop} {Φ:Fps} {η:VS.Env} {x y:Val} (s:SR G Φ η σ H) (ea:ca η=some x) (eb:cb η=some y)
  (k:∀ u w H2 F1 F2,Two G Φ η H H2 x y u w F1 F2->Q u w H2):tE G ca σ H fun u H1=>tE G cb σ H1 fun w H2=>Q u w H2:=by
 refine ⟨Φ,η,x.1,x.2,s,ea,fun u H1 F1 e1 r1 f1=>⟨Φ,η,y.1,y.2,s.same e1,eb,fun w H2 F2 e2 r2 f2=>k u w H2 F1 F2 ⟨e1.trans e2,r1.same e2,r2,f1,f2.back e1,fun hx hy=>?_⟩⟩⟩
 rw [hx] at f1
 rw [hy] at f2
 refine ZO.mpr ⟨f1.1,f2.1,fun a ha b hb z=>?_⟩
 subst z
 exact Mut.ne_none (r1.dom a ha) (f2.2 a hb)
theorem jY {r:R2} {f:Val->Val->Wc} (ok:fu G r f) {σ:L2.St} {H:Hp} {Q:VK} (h:tE G (e2 f ca cb) σ H Q):tOp r (tE G ca) (tE G cb) σ H Q:=by
 obtain ⟨Φ,η,m,t,s,e,k⟩:=h
 unfold e2 at e
 obtain ⟨x,ea,e⟩:=Zz.mp e
 obtain ⟨y,eb,e⟩:=Zz.mp e
 exact vR s ea eb fun u w H2 F1 F2 tw=>ok Φ η H H2 x y u w F1 F2 m t Q tw e fun v H' F e1 r1 f1=>k v H' F (tw.same.trans e1) r1 f1
theorem l6 {op:Operator} {r:R2} {f:Val->Val->Wc} (ho:OpR X (binaryOp op) r) (ok:fu G r f) (ha:PV G X a ca) (hb:PV G X b cb):PV G X (.BinOp a op b pos) (e2 f ca cb) :=
 PE.weak (Bv ho ha hb) fun σ H Q h=>jY ok h
theorem mZ {op:CmpOp} {r:R2} {f:Val->Val->Wc} (ho:OpR X (compareOp op) r) (ok:fu G r f) (ha:PV G X a ca) (hb:PV G X b cb) (hm:behindInMarks op b=false):PV G X (.Compare a [op] [b] pos) (e2 f ca cb) :=
 PE.weak (wG ho ha hb hm) fun σ H Q h=>jY ok h
noncomputable def Tells (f:Val->Val->Wc):Prop:=∀ x y m t,f x y=some (m,t)->∃ b,t=.bl b
theorem Rp.bl_inv {H:Hp} {v:V} {b:Bool} {F:Wm} (r:Rp G H v (.bl b) F):v=.bl b:=by cases r;rfl
theorem Rp.int_inv {H:Hp} {v:V} {b:Int} {F:Wm} (r:Rp G H v (.int b) F):v=.int b:=by cases r;rfl
theorem Rp.str_inv {H:Hp} {v:V} {b:Tx} {F:Wm} (r:Rp G H v (.str b) F):v=.str (sx b)/\nH b:=by cases r with | str _ h=>exact ⟨rfl,h⟩
theorem pj {c:Ex} {t:TE} {σ:L2.St} {H:Hp} {Q:Bool->Hp->Prop} (h:tT G c σ H Q) (ht:∀ η m r,c η=some (m,r)->∃ b,r=.bl b) (w:∀ Q,tE G c σ H Q->t σ H Q):vY t σ H Q:=by
 obtain ⟨Φ,η,m,r,b,s,e,eb,k⟩:=h
 refine w _ ⟨Φ,η,m,r,s,e,fun v H' F e1 r1 f1=>?_⟩
 obtain ⟨b',er⟩:=ht η m r e
 rw [er] at eb r1
 cases (show some b'=some b from eb)
 exact ⟨_,r1.bl_inv,k H' e1⟩
theorem eK {op:CmpOp} {r:R2} {f:Val->Val->Wc} (ho:OpR X (compareOp op) r) (ok:fu G r f) (ht:Tells f) (ha:PV G X a ca) (hb:PV G X b cb) (hm:behindInMarks op b=false):PVT G X (.Compare a [op] [b] pos) (e2 f ca cb) :=
 PT.weak (xC ho ha hb hm) fun σ H Q h=>pj h (fun η m r e=>by
  unfold e2 at e
  obtain ⟨x,_,e⟩:=Zz.mp e
  obtain ⟨y,_,e⟩:=Zz.mp e
  exact ht x y m r e) fun Q h=>jY ok h
theorem bB {Φ:Fps} {η:VS.Env} {H0 H:Hp} {m:Md} {t:T} {v:V} {Q:VK} (k:∀ v H' F,aN H H'->Rp G H' v t F->Fp Φ η H0 m F->Q v H') (r:Rp G H v t []):Q v H:=k v H [] (aN.refl _) r Fp.nil
theorem dj {H:Hp} {p:Addr} {o:HO} (h:H p=none):aN H (upd H p o):=fun b o' e=>by rw [aD (cU e h)];exact e
theorem Fp.new {Φ:Fps} {η:VS.Env} {H0:Hp} {p:Addr} {F:Wm} (h0:H0 p=none) (hp:p ∉ F):∀ {m:Md},Fp Φ η H0 m F->Fp Φ η H0 m (p :: F)
 | .fr,f=>⟨Zd.mpr ⟨hp,f.1⟩,fun a m=>(Zh.mp m).elim (fun e=>by rw [e];exact h0) (f.2 a)⟩
 | .pu,f=>fun a m=>(Zh.mp m).elim (fun e=>by rw [e];exact .inl h0) (f a)
 | .bo,f=>fun a m=>(Zh.mp m).elim (fun e=>by rw [e];exact .inl h0) (f a)
theorem nJ {mj m:Md} {l:Wb} {t:T} (e:mkL mj l=some (m,t)):t=.lst l/\l.length<=eA/\m=(if fm l then .fr else mj):=by
 unfold mkL at e
 split at e
 ·rename_i h
  cases e
  exact ⟨rfl,h,rfl⟩
 ·cases e
theorem iI {Φ:Fps} {η:VS.Env} {H0 H:Hp} {mj m:Md} {l:Wb} {t:T} {vs:List V} {Fs:Xg} {Q:VK} (same:aN H0 H) (e:mkL mj l=some (m,t)) (r:RpL G H vs l Fs) (f:Fp Φ η H0 mj Fs.flatten)
  (k:∀ v H' F,aN H H'->Rp G H' v t F->Fp Φ η H0 m F->Q v H'):∀ p,H p=none->Q (.ref p) (upd H p (.lst vs)):=by
 intro p hp
 obtain ⟨rfl,hl,rfl⟩:=nJ e
 refine k _ _ _ (dj hp) (.lst aA (r.same (dj hp))) ?_
 have np:p ∉ Fs.flatten:=fun m=>Mut.ne_none (r.dom p m) hp
 by_cases hi:fm l=true
 ·rw [hi,Zr rfl]
  rw [r.imm hi] at np ⊢
  exact Fp.nil.new (same.free hp) np
 ·rw [Zo hi]
  exact f.new (same.free hp) np
theorem Two.join {Φ:Fps} {η:VS.Env} {H0 H:Hp} {x y:Val} {u w:V} {F1 F2:Wm} (tw:Two G Φ η H0 H x y u w F1 F2) {F:Wm} (hF:F.Sublist (F1++F2)):Fp Φ η H0 (x.1.join y.1) F:=by
 obtain ⟨same,r1,r2,f1,f2,nd⟩:=tw
 have split:∀ a∈F,a∈F1\/a∈F2:=fun a ha=>Zc.mp (hF.subset ha)
 obtain ⟨m1,x⟩:=x
 obtain ⟨m2,y⟩:=y
 have both:∀ {P:Addr->Prop},(∀ a∈F1,P a)->(∀ a∈F2,P a)->∀ a∈F,P a:=fun h1 h2 a ha=>(split a ha).elim (h1 a) (h2 a)
 cases m1 <;> cases m2
 ·exact ⟨(nd rfl rfl).sublist hF,both f1.2 f2.2⟩
 ·exact both (fun a ha=>.inl (f1.2 a ha)) f2
 ·exact both (fun a ha=>.inl (f1.2 a ha)) f2
 ·exact both f1 (fun a ha=>.inl (f2.2 a ha))
 ·exact both f1 f2
 ·exact both (f1.bo) f2
 ·exact both f1 (fun a ha=>.inl (f2.2 a ha))
 ·exact both f1 (f2.bo)
 ·exact both f1 f2
theorem gk:eA=sizeLine:=rfl
theorem fe (s:Tx):(sx s).length=s.length:=rfl
theorem A2 (s t:Tx):sx s++sx t=sx (s++t):=by
 show Str.append (sx s) (sx t)=_
 simp [sx,Str.append]
theorem Rp.lst_inv {H:Hp} {v:V} {l:Wb} {F:Wm} (r:Rp G H v (.lst l) F):∃ a vs Fs,v=.ref a/\F=a :: Fs.flatten/\H a=some (.lst vs)/\RpL G H vs l Fs:=by
 cases r with
 | lst h q=>exact ⟨_,_,_,rfl,rfl,h,q⟩
theorem Rp.tup_inv {H:Hp} {v:V} {l:Wb} {F:Wm} (r:Rp G H v (.tup l) F):∃ a vs Fs,v=.ref a/\F=Fs.flatten/\H a=some (.tup vs)/\RpL G H vs l Fs:=by
 cases r with
 | tup h q=>exact ⟨_,_,_,rfl,rfl,h,q⟩
theorem Rp.scr_inv {H:Hp} {v:V} {l:Wh} {F:Wm} (r:Rp G H v (.scr l) F):∃ a,v=.ref a/\F=[]/\ke G.K H a l:=by
 cases r with
 | scr h=>exact ⟨_,rfl,rfl,h⟩
end
section
variable {G:Gx} {X:Cx}
noncomputable def BZ:R2:=fun x y H Q=>rI0 (fun i j=>.int (i+j)) x y H Q\/(∃ i j,x=.str i/\y=.str j/\i.length+j.length<=sizeLine/\Q (.str (i++j)) H)\/BU x y H Q
theorem yr:OpR X (binaryOp .Add) BZ:=Ao.or (qd.or AF)
theorem zw:fu G BZ bD:=by
 intro Φ η H0 H x y u w F1 F2 m t Q tw e k
 have jn:=fun {F:Wm} (h:List.Sublist F (F1++F2))=>tw.join h
 obtain ⟨m1,x⟩:=x
 obtain ⟨m2,y⟩:=y
 obtain ⟨same,r1,r2,f1,f2,nd⟩:=tw
 unfold bD at e
 split at e
 ·rename_i i _ j e1 e2
  cases e1
  cases e2
  cases e
  exact .inl ⟨_,_,r1.int_inv,r2.int_inv,bB k (.int _)⟩
 ·rename_i s _ s' e1 e2
  cases e1
  cases e2
  split at e
  ·rename_i hl
   cases e
   refine .inr (.inl ⟨_,_,r1.str_inv.1,r2.str_inv.1,by rw [fe,fe,← gk];exact hl,?_⟩)
   rw [A2]
   exact bB k (.str _ ⟨by rw [Zy];exact hl,fun c hc=>(Zc.mp hc).elim (r1.str_inv.2.2 c) (r2.str_inv.2.2 c)⟩)
  ·cases e
 ·rename_i s _ s' e1 e2
  cases e1
  cases e2
  obtain ⟨a,vs,Fs,rfl,rfl,ha,ra⟩:=r1.lst_inv
  obtain ⟨b,us,Gs,rfl,rfl,hb,rb⟩:=r2.lst_inv
  obtain ⟨_,hl,_⟩:=nJ e
  refine .inr (.inr ⟨a,b,vs,us,rfl,rfl,ha,hb,?_,iI same e (ra.append rb) (jn ?_) k⟩)
  ·rw [Zy] at hl
   rw [ra.len.1,rb.len.1,← gk]
   exact hl
  ·rw [Yz]
   exact (Yv _ _).append (Yv _ _)
 ·cases e
theorem AO:fu G (rI0 fun i j=>.int (i - j)) i7:=by
 intro Φ η H0 H x y u w F1 F2 m t Q tw e k
 obtain ⟨m1,x⟩:=x
 obtain ⟨m2,y⟩:=y
 obtain ⟨same,r1,r2,f1,f2,nd⟩:=tw
 unfold i7 at e
 split at e
 ·rename_i e1 e2
  cases e1
  cases e2
  cases e
  exact ⟨_,_,r1.int_inv,r2.int_inv,bB k (.int _)⟩
 ·cases e
theorem wO:fu G (rI CO fun i j=>.int (i / j)) gm:=by
 intro Φ η H0 H x y u w F1 F2 m t Q tw e k
 obtain ⟨m1,x⟩:=x
 obtain ⟨m2,y⟩:=y
 obtain ⟨same,r1,r2,f1,f2,nd⟩:=tw
 unfold gm at e
 split at e
 ·rename_i e1 e2
  cases e1
  cases e2
  split at e
  ·rename_i h
   cases e
   exact ⟨_,_,r1.int_inv,r2.int_inv,h,bB k (.int _)⟩
  ·cases e
 ·cases e
theorem AM:fu G (rI (fun _ j=>0 < j) fun i j=>.int (i % j)) oMod:=by
 intro Φ η H0 H x y u w F1 F2 m t Q tw e k
 obtain ⟨m1,x⟩:=x
 obtain ⟨m2,y⟩:=y
 obtain ⟨same,r1,r2,f1,f2,nd⟩:=tw
 unfold oMod at e
 split at e
 ·rename_i e1 e2
  cases e1
  cases e2
  split at e
  ·rename_i h
   cases e
   exact ⟨_,_,r1.int_inv,r2.int_inv,h,bB k (.int _)⟩
  ·cases e
 ·cases e
theorem lb:∀ (s t:Tx),ltx s t=decide (s < t)
 | [],[]=>by simp [ltx]
 | [],_ :: _=>by simp [ltx]
 | _ :: _,[]=>by simp [ltx]
 | a :: s,b :: t=>by
  unfold ltx
  rw [lb s t]
  by_cases h1:a < b
  ·simp [h1,Xr]
  ·by_cases h2:b < a
   ·have:¬ a=b:=by exact Nat.ne_of_gt h2
    simp [h1,h2,Xr,this]
   ·have:a=b:=by lia
    subst this
    simp [Xr]
noncomputable def rLt:R2:=fun x y H Q=>rI0 (fun i j=>.bl (decide (i < j))) x y H Q\/(∃ i j,x=.str i/\y=.str j/\Q (.bl (decide (i.cps.toList < j.cps.toList))) H)
theorem nG:OpR X (compareOp .Lt) rLt:=Cf.or tq
theorem qN:fu G rLt oLt:=by
 intro Φ η H0 H x y u w F1 F2 m t Q tw e k
 obtain ⟨m1,x⟩:=x
 obtain ⟨m2,y⟩:=y
 obtain ⟨same,r1,r2,f1,f2,nd⟩:=tw
 unfold oLt at e
 split at e
 ·rename_i e1 e2
  cases e1
  cases e2
  cases e
  exact .inl ⟨_,_,r1.int_inv,r2.int_inv,bB k (.bl _)⟩
 ·rename_i s _ s' e1 e2
  cases e1
  cases e2
  cases e
  refine .inr ⟨_,_,r1.str_inv.1,r2.str_inv.1,?_⟩
  have:decide ((sx s).cps.toList < (sx s').cps.toList)=ltx s s':=by rw [lb];exact decide_eq_decide.mpr (by simp [sx])
  rw [this]
  exact bB k (.bl _)
 ·cases e
theorem jg:Tells oLt:=by
 intro x y m t e
 unfold oLt at e
 split at e <;> first | (cases e;exact ⟨_,rfl⟩) | cases e
theorem AZ:B64=2 ^ 64:=rfl
theorem zv:fu G (rI xZ fun i j=>.int (i * j)) d5:=by
 intro Φ η H0 H x y u w F1 F2 m t Q tw e k
 obtain ⟨m1,x⟩:=x
 obtain ⟨m2,y⟩:=y
 obtain ⟨same,r1,r2,f1,f2,nd⟩:=tw
 unfold d5 at e
 split at e
 ·rename_i e1 e2
  cases e1
  cases e2
  split at e
  ·rename_i h
   cases e
   refine ⟨_,_,r1.int_inv,r2.int_inv,?_,bB k (.int _)⟩
   rw [AZ] at h
   exact h
  ·cases e
 ·cases e
theorem sS:OpR X (compareOp .LtE) (fun x y H Q=>∃ i j,x=.str i/\y=.str j/\Q (.bl (!decide (j.cps.toList < i.cps.toList))) H):=by
 intro pins s σ H x y v u Q I rx ry h
 obtain ⟨i,j,rfl,rfl,q⟩:=h
 obtain ⟨t,rfl⟩:=rx
 obtain ⟨t',rfl⟩:=ry
 exact PySem.P.le_str ⟨.bl _,H,I,rfl,q⟩
noncomputable def rLe:R2:=fun x y H Q=>rI0 (fun i j=>.bl (decide (i<=j))) x y H Q\/(∃ i j,x=.str i/\y=.str j/\Q (.bl (!decide (j.cps.toList < i.cps.toList))) H)
theorem tP:OpR X (compareOp .LtE) rLe:=BD.or sS
theorem y0:fu G rLe oLe:=by
 intro Φ η H0 H x y u w F1 F2 m t Q tw e k
 obtain ⟨m1,x⟩:=x
 obtain ⟨m2,y⟩:=y
 obtain ⟨same,r1,r2,f1,f2,nd⟩:=tw
 unfold oLe at e
 split at e
 ·rename_i e1 e2
  cases e1
  cases e2
  cases e
  exact .inl ⟨_,_,r1.int_inv,r2.int_inv,bB k (.bl _)⟩
 ·rename_i s _ s' e1 e2
  cases e1
  cases e2
  cases e
  refine .inr ⟨_,_,r1.str_inv.1,r2.str_inv.1,?_⟩
  have:decide ((sx s').cps.toList < (sx s).cps.toList)=ltx s' s:=by rw [lb];exact decide_eq_decide.mpr (by simp [sx])
  rw [this]
  exact bB k (.bl _)
 ·cases e
theorem uM:Tells oLe:=by
 intro x y m t e
 unfold oLe at e
 split at e <;> first | (cases e;exact ⟨_,rfl⟩) | cases e
theorem pY {n:Nat} {i:Int}:ixP n i=ixN n i:=by
 unfold ixP ixN
 by_cases h:0<=i
 ·rw [Zr h,Zr h]
 ·rw [Zo h,Zo h]
  by_cases h2:0<=i+n
  ·rw [Zr h2,Zr (by lia)]
  ·rw [Zo h2,Zo (by lia)]
theorem lG {α:Type} {l:List α} {i:Int} {k:Nat} {x:α} (h1:ixP l.length i=some k) (h2:l[k]?=some x):atI l i=some x:=by
 unfold atI
 rw [← pY,h1]
 exact h2
theorem dg {Fs:Xg} {F:Wm} {i:Nat} (h:Fs[i]?=some F):F.Sublist Fs.flatten:=by
 obtain ⟨hi,rfl⟩:=ZZ.mp h
 exact List.sublist_flatten_of_mem (Z8 hi)
theorem Fp.sub {Φ:Fps} {η:VS.Env} {H:Hp} {F F':Wm} (h:F.Sublist F'):∀ {m:Md},Fp Φ η H m F'->Fp Φ η H m F
 | .fr,f=>⟨f.1.sublist h,fun a ha=>f.2 a (h.subset ha)⟩
 | .pu,f=>fun a ha=>f a (h.subset ha)
 | .bo,f=>fun a ha=>f a (h.subset ha)
theorem tM:fu G (rIx G.K) aB:=by
 intro Φ η H0 H x y u w F1 F2 m t Q tw e k
 obtain ⟨m1,x⟩:=x
 obtain ⟨m2,y⟩:=y
 obtain ⟨same,r1,r2,f1,f2,nd⟩:=tw
 unfold aB at e
 split at e
 ·rename_i m3 l m4 i e1 e2
  cases e1
  cases e2
  obtain ⟨j,h1,e⟩:=Zz.mp e
  obtain ⟨x,h2,e⟩:=Zu.mp e
  obtain ⟨a,vs,Fs,rfl,rfl,ha,ra⟩:=r1.lst_inv
  obtain ⟨v,F,g1,g2,g3⟩:=ra.get j h2
  refine .inl ⟨a,vs,i,v,rfl,r2.int_inv,SqL.of ha,lG (by rw [ra.len.1];exact h1) g1,?_⟩
  have f:=((f1.sub (Yv _ _)).sub (dg g2)).up g3
  unfold VS.sub at e
  rw [e] at f
  have et:x=t:=congrArg Prod.snd e
  rw [et] at g3
  exact k v H F (aN.refl _) g3 f
 ·rename_i m3 l m4 i e1 e2
  cases e1
  cases e2
  obtain ⟨j,h1,e⟩:=Zz.mp e
  obtain ⟨x,h2,e⟩:=Zu.mp e
  obtain ⟨a,vs,Fs,rfl,rfl,ha,ra⟩:=r1.tup_inv
  obtain ⟨v,F,g1,g2,g3⟩:=ra.get j h2
  refine .inr (.inl ⟨a,vs,i,v,rfl,r2.int_inv,SqT.of ha,lG (by rw [ra.len.1];exact h1) g1,?_⟩)
  have f:=(f1.sub (dg g2)).up g3
  unfold VS.sub at e
  rw [e] at f
  have et:x=t:=congrArg Prod.snd e
  rw [et] at g3
  exact k v H F (aN.refl _) g3 f
 ·rename_i m3 l m4 i e1 e2
  cases e1
  cases e2
  obtain ⟨j,h1,e⟩:=Zz.mp e
  obtain ⟨x,h2,e⟩:=Zu.mp e
  cases e
  obtain ⟨a,rfl,rfl,sa⟩:=r1.scr_inv
  refine .inl ⟨a,l.map V.int,i,.int x,rfl,r2.int_inv,sa.seq,lG (by rw [Zv];exact h1) (by rw [ZE,h2];rfl),bB k (.int _)⟩
 ·rename_i m3 l m4 i e1 e2
  cases e1
  cases e2
  obtain ⟨j,h1,e⟩:=Zz.mp e
  obtain ⟨x,h2,e⟩:=Zu.mp e
  cases e
  obtain ⟨rfl,hl⟩:=r1.str_inv
  refine .inr (.inr ⟨sx l,i,x,rfl,r2.int_inv,by rw [fe,← gk];exact hl.1,lG (k:=j) (by simpa [sx] using h1) (by simpa [sx] using h2),?_⟩)
  exact bB k (.str [x] ⟨by show 1<=eA;decide,fun c hc=>by rw [Zf.mp hc];exact hl.2 x (YC h2)⟩)
 ·cases e
end
section
variable {G:Gx} {X:Cx} {a b c e:Expr} {es:List Expr} {ca cb cc:Ex} {cs:Exs} {pos p:Pos}
theorem qL {x:Addr}:∀ {l:We} {Fs:Xg},x∈frs l Fs->∃ (i:Nat) (v:Val) (F:Wm),l[i]?=some v/\v.1=.fr/\Fs[i]?=some F/\x∈F
 | [],_,h=>by simp [frs] at h
 | _ :: _,[],h=>by simp [frs] at h
 | v :: l,F :: Fs,h=>by
  have go:x∈frs l Fs->∃ (i:Nat) (u:Val) (F':Wm),(v :: l)[i]?=some u/\u.1=.fr/\(F :: Fs)[i]?=some F'/\x∈F':=fun m=>by
   obtain ⟨i,u,F',h1,h2,h3,h4⟩:=qL m
   exact ⟨i+1,u,F',by simpa using h1,h2,by simpa using h3,h4⟩
  unfold frs at h
  split at h
  ·rename_i hv
   rcases Zc.mp h with h | h
   ·exact ⟨0,v,F,rfl,hv,rfl,h⟩
   ·exact go h
  ·exact go h
theorem ah:PVs G X [] ai:=PA.weak jW fun σ H Q hq=>by
 obtain ⟨Φ,η,l,s,e,k⟩:=hq
 cases (show some ([]:We)=some l from e)
 exact k [] H [] (aN.refl _) .nil ⟨fun i v F h=>by simp at h,by simp [frs]⟩
theorem ab (ha:PV G X e ca) (hr:PVs G X es cs) (hs:starEach (e :: es) X.env=(false,eval e X.env) :: starEach es X.env:=by rfl):PVs G X (e :: es) (ae ca cs):=PA.weak (fz ha hr hs) fun σ H Q hq=>by
 obtain ⟨Φ,η,l,s,e,k⟩:=hq
 unfold ae at e
 obtain ⟨x,ea,e⟩:=Zz.mp e
 obtain ⟨xs,er,e⟩:=Zz.mp e
 cases e
 refine ⟨Φ,η,x.1,x.2,s,ea,fun v H1 F e1 r1 f1=>⟨Φ,η,xs,s.same e1,er,fun vs H2 Fs e2 r2 f2=>k (v :: vs) H2 (F :: Fs) (e1.trans e2) (.cons (r1.same e2) r2) ⟨fun i u F' h1 h2=>?_,?_⟩⟩⟩
 ·cases i with
  | zero =>
   cases (show some x=some u from h1)
   cases (show some F=some F' from h2)
   exact f1
  | succ i=>exact (f2.each i u F' (by simpa using h1) (by simpa using h2)).back e1
 ·unfold frs
  split
  ·rename_i hx
   rw [hx] at f1
   refine ZO.mpr ⟨f1.1,f2.nd,fun y hy z hz q=>?_⟩
   subst q
   obtain ⟨i,u,F',h1,h2,h3,h4⟩:=qL hz
   have f:=f2.each i u F' h1 h3
   rw [h2] at f
   exact Mut.ne_none (r1.dom y hy) (f.2 y h4)
  ·exact f2.nd
theorem jB:∀ {l:We},cp l=.fr->∀ v∈l,v.1=.fr
 | [],_,v,h=>by simp at h
 | (m,t) :: r,e,v,h=>by
  have e':m.join (cp r)=.fr:=e
  have h1:m=.fr:=by
   revert e'
   cases m <;> cases cp r <;> simp [Md.join]
  have h2:cp r=.fr:=by
   revert e'
   cases m <;> cases cp r <;> simp [Md.join]
  rcases Zh.mp h with rfl | h
  ·exact h1
  ·exact jB h2 v h
theorem jH:∀ {l:We},cp l ≠ .bo->∀ v∈l,v.1 ≠ .bo
 | [],_,v,h=>by simp at h
 | (m,t) :: r,e,v,h=>by
  have e':m.join (cp r) ≠ .bo:=e
  have h1:m ≠ .bo:=by
   revert e'
   cases m <;> cases cp r <;> simp [Md.join]
  have h2:cp r ≠ .bo:=by
   revert e'
   cases m <;> cases cp r <;> simp [Md.join]
  rcases Zh.mp h with rfl | h
  ·exact h1
  ·exact jH h2 v h
theorem rn:∀ {l:We} {Fs:Xg},l.length=Fs.length->(∀ v∈l,v.1=.fr)->frs l Fs=Fs.flatten
 | [],[],_,_=>rfl
 | [],_ :: _,h,_=>by simp at h
 | _ :: _,[],h,_=>by simp at h
 | v :: l,F :: Fs,h,q=>by
  unfold frs
  rw [q v Zx,rn (by simpa using h) fun u hu=>q u (Zw _ hu)]
  rfl
theorem fT {x:Addr} {Fs:Xg} (h:x∈Fs.flatten):∃ (i:Nat) (F:Wm),Fs[i]?=some F/\x∈F:=by
 obtain ⟨F,hF,hx⟩:=List.mem_flatten.mp h
 obtain ⟨i,hi⟩:=List.mem_iff_getElem?.mp hF
 exact ⟨i,F,hi,hx⟩
theorem FpL.join {Φ:Fps} {η:VS.Env} {H:Hp} {l:We} {Fs:Xg} (f:FpL Φ η H l Fs) (hl:l.length=Fs.length):Fp Φ η H (cp l) Fs.flatten:=by
 have at':∀ x∈Fs.flatten,∃ v F,v∈l/\x∈F/\Fp Φ η H v.1 F:=fun x hx=>by
  obtain ⟨i,F,hi,hxF⟩:=fT hx
  have:i < l.length:=by
   have:=(ZZ.mp hi).1
   lia
  exact ⟨l[i],F,Z8 this,hxF,f.each i _ F (Zm this) hi⟩
 cases e:cp l with
 | fr =>
  have al:=jB e
  refine ⟨by rw [← rn hl al];exact f.nd,fun x hx=>?_⟩
  obtain ⟨v,F,hv,hxF,q⟩:=at' x hx
  rw [al v hv] at q
  exact q.2 x hxF
 | pu =>
  have al:=jH (l:=l) (by rw [e];decide)
  intro x hx
  obtain ⟨v,F,hv,hxF,q⟩:=at' x hx
  exact Fp.pu (al v hv) q x hxF
 | bo =>
  intro x hx
  obtain ⟨v,F,hv,hxF,q⟩:=at' x hx
  exact q.bo x hxF
structure Args (G:Gx) (Φ:Fps) (η:VS.Env) (H0 H:Hp) (l:We) (vs:List V) (Fs:Xg):Prop where
 same:aN H0 H
 rp:RpL G H vs (trees l) Fs
 fp:FpL Φ η H0 l Fs
theorem Args.len {Φ:Fps} {η:VS.Env} {H0 H:Hp} {l:We} {vs:List V} {Fs:Xg} (A:Args G Φ η H0 H l vs Fs):l.length=Fs.length:=by
 have:=A.rp.len.2
 simp [trees] at this
 exact Eq.symm this
noncomputable def fR (G:Gx) (r:List V->Hp->VK->Prop) (f:We->Wc):Prop:=∀ (Φ:Fps) (η:VS.Env) (H0 H:Hp) (l:We) (vs:List V) (Fs:Xg) (m:Md) (t:T) (Q:VK),Args G Φ η H0 H l vs Fs->f l=some (m,t) →
 (∀ v H' F,aN H H'->Rp G H' v t F->Fp Φ η H0 m F->Q v H')->r vs H Q
theorem zj {r:List V->Hp->VK->Prop} {f:We->Wc} (ok:fR G r f) {σ:L2.St} {H:Hp} {Q:VK} {η:VS.Env} {Φ:Fps} {l:We} {m:Md} {t:T} (s:SR G Φ η σ H) (el:cs η=some l) (e:f l=some (m,t))
  (k:∀ v H' F,aN H H'->Rp G H' v t F->Fp Φ η H m F->Q v H'):tEs G cs σ H fun vs H1=>r vs H1 Q :=
 ⟨Φ,η,l,s,el,fun vs H' Fs e1 r1 f1=>ok Φ η H H' l vs Fs m t Q ⟨e1,r1,f1⟩ e fun v H2 F e2 r2 f2=>k v H2 F (e1.trans e2) r2 f2⟩
theorem jz {r:List V->Hp->VK->Prop} {f:We->Wc} {id:String} {x:Str} (hc:dP X (.builtin id) r) (ok:fR G r f) (hg:Gl X x) (hm:X.mg x=none) (hv:bootBuiltins x=some (.builtin id)) (ha:PVs G X (e :: es) cs)
  (hn:x ≠ "__name__" := by decide) (hdb:(x == ("__debug__" : Str))=false:=by decide)
  (he:starEach (e :: es) X.env=(false,eval e X.env) :: starEach es X.env:=by rfl) (hpl:(backTo pos (starEach es X.env)).any (·.1)=false:=by rfl):PV G X (.Call (.Name x p) (e :: es) [] pos) (eN f cs) :=
 PE.weak (nS hc hg hm hv ha hn hdb he hpl) fun σ H Q hq=>by
  obtain ⟨Φ,η,m,t,s,e,k⟩:=hq
  unfold eN at e
  obtain ⟨l,el,e⟩:=Zz.mp e
  exact zj ok s el e k
theorem jR {r:List V->Hp->VK->Prop} {f:We->Wc} {Ty:String} {x:Str} (hc:dP X (.type Ty) r) (ok:fR G r f) (hg:Gl X x) (hm:X.mg x=none) (hv:bootBuiltins x=some (.type Ty)) (ha:PVs G X (e :: es) cs)
  (hn:x ≠ "__name__" := by decide) (hdb:(x == ("__debug__" : Str))=false:=by decide)
  (he:starEach (e :: es) X.env=(false,eval e X.env) :: starEach es X.env:=by rfl) (hpl:(backTo pos (starEach es X.env)).any (·.1)=false:=by rfl):PV G X (.Call (.Name x p) (e :: es) [] pos) (eN f cs) :=
 PE.weak (sv hc hg hm hv ha hn hdb he hpl) fun σ H Q hq=>by
  obtain ⟨Φ,η,m,t,s,e,k⟩:=hq
  unfold eN at e
  obtain ⟨l,el,e⟩:=Zz.mp e
  exact zj ok s el e k
theorem dH (h:PVs G X es cs):PV G X (.List es pos) (g6 cs):=PE.weak (Av h) fun σ H Q hq=>by
 obtain ⟨Φ,η,m,t,s,e,k⟩:=hq
 unfold g6 at e
 obtain ⟨l,el,e⟩:=Zz.mp e
 refine ⟨Φ,η,l,s,el,fun vs H' Fs e1 r1 f1=>?_⟩
 have A:Args G Φ η H H' l vs Fs:=⟨e1,r1,f1⟩
 obtain ⟨_,hl,_⟩:=nJ e
 refine ⟨by rw [r1.len.1,← gk];exact hl,iI e1 e r1 (f1.join A.len) fun v H2 F e2 r2 f2=>k v H2 F (e1.trans e2) r2 f2⟩
theorem kG {x1} (h:PVs G X es cs):PV G X (.Tuple es x1 pos) (lH cs):=PE.weak (Ar h) fun σ H Q hq=>by
 obtain ⟨Φ,η,m,t,s,e,k⟩:=hq
 unfold lH at e
 obtain ⟨l,el,e⟩:=Zz.mp e
 refine ⟨Φ,η,l,s,el,fun vs H' Fs e1 r1 f1=>?_⟩
 have A:Args G Φ η H H' l vs Fs:=⟨e1,r1,f1⟩
 unfold oB at e
 split at e
 ·rename_i hl
  cases e
  refine ⟨by rw [r1.len.1,← gk,trees,Zv];exact hl,fun q hq=>?_⟩
  have r2:Rp G (upd H' q (.tup vs)) (.ref q) (.tup (trees l)) Fs.flatten:=.tup aA (r1.same (dj hq))
  exact k _ _ _ (e1.trans (dj hq)) r2 (Fp.up (f1.join A.len) r2)
 ·cases e
theorem wQ {H:Hp} {v:V} {t:T} {F:Wm} {k:Bool} (r:Rp G H v t F) (h:tru t=some k):zR G.K v H k:=by
 cases r with
 | non=>cases h;rfl
 | bl b=>cases h;rfl
 | int i=>cases h;rfl
 | str s hl =>
  cases h
  refine ⟨by rw [fe,← gk];exact hl.1,?_⟩
  rw [fe]
  cases s with
  | nil=>rfl
  | cons a r =>
   have:((List.length (a :: r):Int) != 0)=true:=by simp;lia
   rw [this]
   rfl
 | scr h'=>cases h
 | tup h' q =>
  cases h
  refine .inr (.inl ⟨_,SqT.of h',?_⟩)
  have:=q.len.1
  rename_i vs ts _
  cases vs <;> cases ts <;> simp_all
 | lst h' q =>
  cases h
  refine .inl ⟨_,SqL.of h',?_⟩
  have:=q.len.1
  rename_i vs ts _
  cases vs <;> cases ts <;> simp_all
 | dct h' hl q =>
  cases h
  refine .inr (.inr ⟨_,h',?_⟩)
  have:=q.len.1
  rename_i ks vs ts _
  cases ks <;> cases vs <;> cases ts <;> simp_all
 | dctT h' hl q=>cases h
 | dctN h' hl n q=>cases h
 | dctZ _ _ _=>cases h
 | exc _ _=>cases h
 | ins _ _ _ _=>cases h
 | mk _ _=>cases h
theorem rA (h:PV G X a ca) (hK:X.K=G.K:=by rfl) (he:∀ whole,isTrue a X.env whole=(do let v ← whole;standAt a.pos;holding [v] (truthy v)):=by intro _;rfl):PVT G X a ca :=
 PT.weak (vg h he) fun σ H Q ⟨Φ,η,m,r,b,s,e,eb,k⟩=>⟨Φ,η,m,r,s,e,fun v H' F e1 r1 f1=>⟨b,by rw [hK];exact wQ r1 eb,k H' e1⟩⟩
noncomputable def PVW (G:Gx) (X:Cx) (e:Expr) (c:Ex):Prop:=PW X e (tT G c)
theorem PW.weak {X:Cx} {e:Expr} {t t':TT} (h:PW X e t) (w:∀ σ H Q,t' σ H Q->t σ H Q):PW X e t':=fun wh pins s σ H Q I q=>h wh pins s σ H Q I (w σ H Q q)
theorem PVW.pvt (h:PVW G X e ca):PVT G X e ca:=PW.pt h
variable {rest:List Expr}
theorem nU {η:VS.Env} {m:Md} {r:T} (e:gx ca cb η=some (m,r)):(∃ n,ca η=some (n,.bl true)/\cb η=some (m,r))\/(∃ n,ca η=some (n,.bl false)/\m=.fr/\r=.bl false):=by
 unfold gx at e
 obtain ⟨⟨n,x⟩,ea,e⟩:=Zz.mp e
 split at e
 ·rename_i h
  cases (show x=.bl true from h)
  exact .inl ⟨n,ea,e⟩
 ·rename_i h
  cases (show x=.bl false from h)
  cases e
  exact .inr ⟨n,ea,rfl,rfl⟩
 ·cases e
theorem ya {η:VS.Env} {m:Md} {r:T} (e:eOr ca cb η=some (m,r)):(∃ n,ca η=some (n,.bl false)/\cb η=some (m,r))\/(∃ n,ca η=some (n,.bl true)/\m=.fr/\r=.bl true):=by
 unfold eOr at e
 obtain ⟨⟨n,x⟩,ea,e⟩:=Zz.mp e
 split at e
 ·rename_i h
  cases (show x=.bl true from h)
  cases e
  exact .inr ⟨n,ea,rfl,rfl⟩
 ·rename_i h
  cases (show x=.bl false from h)
  exact .inl ⟨n,ea,e⟩
 ·cases e
theorem iE (ha:PVT G X a ca) (hb:PVW G X (.BoolOp .And (b :: rest) pos) cb):PVW G X (.BoolOp .And (a :: b :: rest) pos) (gx ca cb) :=
 PW.weak (zU ha hb) fun σ H Q hq=>by
  obtain ⟨Φ,η,m,r,k,s,e,eb,q⟩:=hq
  rcases nU e with ⟨n,ea,e2⟩ | ⟨n,ea,rfl,rfl⟩
  ·refine ⟨Φ,η,n,_,true,s,ea,rfl,fun H' e1=>?_⟩
   refine yB ?_
   exact ⟨Φ,η,m,r,k,s.same e1,e2,eb,fun H2 e2=>q H2 (e1.trans e2)⟩
  ·refine ⟨Φ,η,n,_,false,s,ea,rfl,fun H' e1=>?_⟩
   refine yu ?_
   cases eb
   exact q H' e1
theorem tZ (ha:PVT G X a ca) (hb:PVW G X (.BoolOp .Or (b :: rest) pos) cb):PVW G X (.BoolOp .Or (a :: b :: rest) pos) (eOr ca cb) :=
 PW.weak (BE ha hb) fun σ H Q hq=>by
  obtain ⟨Φ,η,m,r,k,s,e,eb,q⟩:=hq
  rcases ya e with ⟨n,ea,e2⟩ | ⟨n,ea,rfl,rfl⟩
  ·refine ⟨Φ,η,n,_,false,s,ea,rfl,fun H' e1=>?_⟩
   refine yu ?_
   exact ⟨Φ,η,m,r,k,s.same e1,e2,eb,fun H2 e2=>q H2 (e1.trans e2)⟩
  ·refine ⟨Φ,η,n,_,true,s,ea,rfl,fun H' e1=>?_⟩
   refine yB ?_
   cases eb
   exact q H' e1
theorem o7 {η:VS.Env} {m:Md} {r:T} (e:lU ca η=some (m,r)):∃ n b,ca η=some (n,.bl b)/\m=.fr/\r=.bl (!b):=by
 unfold lU at e
 obtain ⟨⟨n,x⟩,ea,e⟩:=Zz.mp e
 split at e
 ·rename_i b h
  cases (show x=.bl b from h)
  cases e
  exact ⟨n,b,ea,rfl,rfl⟩
 ·cases e
theorem kE (ha:PVT G X a ca):PVT G X (.UnaryOp .Not a pos) (lU ca):=PT.weak (Bi ha) fun σ H Q hq=>by
 obtain ⟨Φ,η,m,r,k,s,e,eb,q⟩:=hq
 obtain ⟨n,b,ea,rfl,rfl⟩:=o7 e
 cases eb
 exact ⟨Φ,η,n,_,b,s,ea,rfl,fun H' e1=>q H' e1⟩
theorem Am (ha:PV G X a ca):PV G X (.UnaryOp .Not a pos) (lU ca):=PE.weak (zQ ha) fun σ H Q hq=>by
 obtain ⟨Φ,η,m,r,s,e,q⟩:=hq
 obtain ⟨n,b,ea,rfl,rfl⟩:=o7 e
 exact ⟨Φ,η,n,_,s,ea,fun v H' F e1 r1 f1=>⟨b,r1.bl_inv,q _ H' _ e1 (.bl _) Fp.nil⟩⟩
theorem pN {op} (h:PV G X a ca):PV G X (.BoolOp op [a] pos) ca:=Ac h
theorem pT (ha:PV G X a ca) (hb:PV G X (.BoolOp .And (b :: rest) pos) cb):PV G X (.BoolOp .And (a :: b :: rest) pos) (gx ca cb) :=
 PE.weak (Ap ha hb) fun σ H Q hq=>by
  obtain ⟨Φ,η,m,r,s,e,q⟩:=hq
  rcases nU e with ⟨n,ea,e2⟩ | ⟨n,ea,rfl,rfl⟩
  ·refine ⟨Φ,η,n,_,s,ea,fun v H' F e1 r1 f1=>⟨true,r1.bl_inv,?_⟩⟩
   refine yB ?_
   exact ⟨Φ,η,m,r,s.same e1,e2,fun v H2 F e2 r2 f2=>q v H2 F (e1.trans e2) r2 (f2.back e1)⟩
  ·refine ⟨Φ,η,n,_,s,ea,fun v H' F e1 r1 f1=>⟨false,r1.bl_inv,?_⟩⟩
   refine yu ?_
   exact q _ H' _ e1 (.bl _) Fp.nil
theorem qu {H:Hp} {v:V} {t:T} {F:Wm} (r:Rp G H v t F):decide (v=.non)=isN t:=by
 cases r <;> simp [isN]
theorem zk {t:TE} {c:Ex} {σ:L2.St} {H:Hp} {Q:Bool->Hp->Prop} (h:tT G c σ H Q) (ht:∀ η m r,c η=some (m,r)->∃ b,r=.bl b) (w:∀ Q,tE G c σ H Q->t σ H Q):tB t σ H Q:=by
 obtain ⟨Φ,η,m,r,b,s,e,eb,k⟩:=h
 refine w _ ⟨Φ,η,m,r,s,e,fun v H' F e1 r1 f1=>?_⟩
 obtain ⟨b',er⟩:=ht η m r e
 rw [er] at eb r1
 cases (show some b'=some b from eb)
 exact ⟨_,r1.bl_inv,k H' e1⟩
end
section
variable {G:Gx} {X:Cx} {a b c e:Expr} {es:List Expr} {ca cb cc:Ex} {cs:Exs} {pos p:Pos}
theorem RpL.one {H:Hp} {vs:List V} {t:T} {Fs:Xg} (r:RpL G H vs [t] Fs):∃ v F,vs=[v]/\Fs=[F]/\Rp G H v t F:=by
 cases r with
 | cons r q=>cases q;exact ⟨_,_,rfl,rfl,r⟩
theorem RpL.two {H:Hp} {vs:List V} {t t':T} {Fs:Xg} (r:RpL G H vs [t,t'] Fs):∃ v v' F F',vs=[v,v']/\Fs=[F,F']/\Rp G H v t F/\Rp G H v' t' F':=by
 cases r with
 | cons r q =>
  obtain ⟨v',F',rfl,rfl,r'⟩:=q.one
  exact ⟨_,_,_,_,rfl,rfl,r,r'⟩
noncomputable def Cd (K:Xd):List V->Hp->VK->Prop:=fun xs H Q=>(∃ x n,xs=[x]/\Ca K x H n/\Q (.int n) H)\/(∃ a kvs,xs=[V.ref a]/\H a=some (.dK kvs)/\Q (.int kvs.length) H)
theorem pU:dP X (.builtin "len") (fun xs H Q=>∃ a kvs,xs=[V.ref a]/\H a=some (.dK kvs)/\Q (.int kvs.length) H):=by
 intro pins s σ H xs us Q I r h
 obtain ⟨a,kvs,rfl,ha,q⟩:=h
 obtain ⟨u,rfl,ru⟩:=vals1 r
 cases ru
 exact B7 I (.inl ha) fun t s' I'=>⟨.int kvs.length,H,I',⟨t,rfl⟩,q⟩
theorem sV:dP X (.builtin "len") (Cd X.K):=vT.or pU
theorem zV:fR G (Cd G.K) bX:=by
 intro Φ η H0 H l vs Fs m t Q A e k
 refine L2.ji fun P_ k_=>?_
 unfold bX at e
 split at e
 ·rename_i x
  obtain ⟨mx,x⟩:=x
  obtain ⟨n,en,e⟩:=Zu.mp e
  cases e
  obtain ⟨v,F,rfl,rfl,r⟩:=(show RpL G H vs [x] Fs from A.rp).one
  have fin:Q (.int (n:Int)) H:=bB k (.int _)
  cases r with
  | non=>cases en
  | bl b=>cases en
  | int i=>cases en
  | str s hl =>
   cases en
   refine k_ ?_
   exact .inl ⟨_,_,rfl,⟨by rw [fe,← gk];exact hl.1,rfl⟩,by rw [fe];exact fin⟩
  | scr h =>
   cases en
   refine k_ ?_
   refine .inl ⟨_,_,rfl,.inl ⟨_,h.seq,rfl⟩,?_⟩
   rw [Zv]
   exact fin
  | tup h q =>
   cases en
   refine k_ ?_
   refine .inl ⟨_,_,rfl,.inr ⟨_,SqT.of h,rfl⟩,?_⟩
   rw [q.len.1]
   exact fin
  | lst h q =>
   cases en
   refine k_ ?_
   refine .inl ⟨_,_,rfl,.inl ⟨_,SqL.of h,rfl⟩,?_⟩
   rw [q.len.1]
   exact fin
  | dct h hl q =>
   cases en
   refine k_ ?_
   refine .inr ⟨_,_,rfl,h,?_⟩
   rename_i ks ws ts _
   have e1:=q.len.1
   rw [Yy,Zv] at fin
   rw [Yy,e1]
   exact fin
  | dctT h hl q=>cases en
  | dctN h hl n q=>cases en
  | dctZ _ _ _=>cases en
  | exc _ _=>cases en
  | ins _ _ _ _=>cases en
  | mk _ _=>cases en
 ·cases e
theorem wU:fR G (fun xs H Q=>∃ i j,xs=[.int i,.int j]/\Q (.int (if j < i then j else i)) H) oF:=by
 intro Φ η H0 H l vs Fs m t Q A e k
 unfold oF at e
 split at e
 ·rename_i _ i _ j
  cases e
  obtain ⟨v,v',F,F',rfl,rfl,r,r'⟩:=(show RpL G H vs [.int i,.int j] Fs from A.rp).two
  exact ⟨i,j,by rw [r.int_inv,r'.int_inv],bB k (.int _)⟩
 ·cases e
noncomputable def yT (K:Xd):List V->Hp->VK->Prop:=fun xs H Q=>∃ p ys,xs=[.ref p]/\(SqL K H p ys\/SqT K H p ys)/\∀ l,H l=none->Q (.ref l) (upd H l (.lst ys))
theorem qT:fR G (yT G.K) yQ:=by
 intro Φ η H0 H l vs Fs m t Q A e k
 unfold yQ at e
 split at e
 ·rename_i mx x
  obtain ⟨v,F,rfl,rfl,rx⟩:=(show RpL G H vs [.lst x] Fs from A.rp).one
  obtain ⟨a,ys,Gs,rfl,rfl,ha,ra⟩:=rx.lst_inv
  have f:=A.fp.each 0 _ _ rfl rfl
  exact ⟨a,ys,rfl,.inl (SqL.of ha),iI A.same e ra (f.sub (Yv _ _)) k⟩
 ·rename_i mx x
  obtain ⟨v,F,rfl,rfl,rx⟩:=(show RpL G H vs [.tup x] Fs from A.rp).one
  obtain ⟨a,ys,Gs,rfl,rfl,ha,ra⟩:=rx.tup_inv
  have f:=A.fp.each 0 _ _ rfl rfl
  exact ⟨a,ys,rfl,.inr (SqT.of ha),iI A.same e ra f k⟩
 ·cases e
noncomputable def tO (G:Gx) (c:Option Ex):TO:=fun σ H Q=>∃ Φ η o,SR G Φ η σ H/\q9 c η=some o/\∀ H',aN H H'->Q o H'
noncomputable def PVO (G:Gx) (X:Cx) (e:Option Expr) (c:Option Ex):Prop:=PO X e (tO G c)
theorem PO.weak {X:Cx} {e:Option Expr} {t t':TO} (h:PO X e t) (w:∀ σ H Q,t' σ H Q->t σ H Q):PO X e t':=fun pins s σ H Q I q=>h pins s σ H Q I (w σ H Q q)
theorem iw:PVO G X none none:=PO.weak wX fun σ H Q hq=>by
 obtain ⟨Φ,η,o,s,e,k⟩:=hq
 cases (show some (none:Option Int)=some o from e)
 exact k H (aN.refl _)
theorem dM (h:PV G X a ca):PVO G X (some a) (some ca):=PO.weak (yb h) fun σ H Q hq=>by
 obtain ⟨Φ,η,o,s,e,k⟩:=hq
 obtain ⟨⟨m,y⟩,ea,e⟩:=Zz.mp (show (ca η).bind (fun y=>(int? y.2).map some)=some o from e)
 obtain ⟨i,ei,e⟩:=Zu.mp e
 cases e
 refine ⟨Φ,η,m,y,s,ea,fun v H' F e1 r1 f1=>?_⟩
 cases y with
 | int j =>
  cases ei
  exact ⟨_,r1.int_inv,k H' e1⟩
 | _=>cases ei
theorem jL {α:Type} (l:List α) (lo hi:Option Int):cut l lo hi=(l.drop (HT.sIx l.length 0 lo)).take (HT.sIx l.length l.length hi - HT.sIx l.length 0 lo):=by
 unfold cut
 cases lo <;> cases hi <;> rfl
theorem uu (lo hi:Option Int) (n:Nat):Builtin.Str.strSliceIndices lo hi 1 n=Builtin.Str.strSliceIndices (some ((min (HT.sIx n 0 lo) n:Nat):Int)) (some ((min (HT.sIx n n hi) n:Nat):Int)) 1 n:=by
 have e1:∀ k:Nat,¬ ((k:Int) < 0):=fun k=>by lia
 unfold Builtin.Str.strSliceIndices
 simp only [show (1:Int) > 0 by decide,if_true,e1,if_false]
 congr 1
 ·cases lo with
  | none=>simp only [HT.sIx];lia
  | some i =>
   simp only [HT.sIx]
   by_cases h:i < 0
   ·simp only [h,if_true];lia
   ·simp only [h,if_false];lia
 ·cases hi with
  | none=>simp only [HT.sIx];lia
  | some i =>
   simp only [HT.sIx]
   by_cases h:i < 0
   ·simp only [h,if_true];lia
   ·simp only [h,if_false];lia
theorem lX (s:Tx) (lo hi:Option Int):PySem.StrLaws.sliceText (sx s) lo hi=sx (cut s lo hi):=by
 have key:PySem.StrLaws.sliceText (sx s) lo hi=PySem.StrLaws.sliceText (sx s) (some ((min (HT.sIx s.length 0 lo) s.length:Nat):Int)) (some ((min (HT.sIx s.length s.length hi) s.length:Nat):Int)):=by
  unfold PySem.StrLaws.sliceText
  rw [fe,uu]
 rw [key]
 have hd:∀ a:Nat,s.drop (min a s.length)=s.drop a:=fun a=>by
  by_cases h:a<=s.length
  ·rw [Yl h]
  ·rw [XU (by exact Y1 h),YH (Zl _),YH (by exact Y1 h)]
 by_cases h:min (HT.sIx s.length 0 lo) s.length<=min (HT.sIx s.length s.length hi) s.length
 ·rw [PySem.StrLaws.sliceText_nat (sx s) h (by rw [fe];exact Nat.min_le_right _ _),jL]
  show (⟨_⟩:Str)=⟨_⟩
  congr 2
  show ((sx s).cps.toList.drop _).take _=_
  have:(sx s).cps.toList=s:=rfl
  rw [this,hd]
  by_cases h2:HT.sIx s.length 0 lo<=s.length
  ·rw [Yl h2]
   by_cases h3:HT.sIx s.length s.length hi<=s.length
   ·rw [Yl h3]
   ·rw [XU (by exact Y1 h3),YZ (by rw [YX];exact Zl _),YZ (by rw [YX];lia)]
  ·rw [YH (by exact Y1 h2)]
   simp
 ·have e0:cut s lo hi=[]:=by
   rw [jL]
   have:HT.sIx s.length s.length hi - HT.sIx s.length 0 lo=0:=by omega
   rw [this,List.take_zero]
  rw [e0]
  unfold PySem.StrLaws.sliceText
  have e2:Builtin.Str.strSliceIndices (some ((min (HT.sIx s.length 0 lo) s.length:Nat):Int)) (some ((min (HT.sIx s.length s.length hi) s.length:Nat):Int)) 1 (sx s).length=[]:=by
   have e1:∀ k:Nat,¬ ((k:Int) < 0):=fun k=>by lia
   unfold Builtin.Str.strSliceIndices sliceRange
   simp only [show (1:Int) > 0 by decide,if_true,e1,if_false,fe]
   rw [Zo (by omega)]
   rfl
  rw [e2]
  have:¬ ((1:Int) == 1 && ([]:Wi).length == (sx s).length)=true:=by
   rw [fe]
   simp
   lia
  rw [Zo this]
  rfl
noncomputable def Cb:V->Option Int->Option Int->Hp->VK->Prop:=fun x lo hi H Q=>∃ z,x=.str z/\z.length<=sizeLine/\Q (.str (PySem.StrLaws.sliceText z lo hi)) H
theorem part_of {v:Value} {o:Option Int} (h:IsPart v o):∃ q:Option (Int×Tok),v=partValue q/\o=q.map (·.1):=by
 cases h with
 | none=>exact ⟨none,rfl,rfl⟩
 | int i t=>exact ⟨some (i,t),rfl,rfl⟩
theorem nu {α β:Type} (f:α->Option β) (l:List α):(l.filterMap f).length<=l.length:=List.length_filterMap_le f l
theorem yx (lo hi:Option Int) (n:Nat):(Builtin.Str.strSliceIndices lo hi 1 n).length<=n:=by
 rw [uu]
 by_cases h:min (HT.sIx n 0 lo) n<=min (HT.sIx n n hi) n
 ·rw [PySem.StrLaws.strSliceIndices_plain h (by exact Nat.min_le_right _ _),Zv,ZF]
  lia
 ·have e1:∀ k:Nat,¬ ((k:Int) < 0):=fun k=>by lia
  unfold Builtin.Str.strSliceIndices sliceRange
  simp only [show (1:Int) > 0 by decide,if_true,e1,if_false]
  rw [Zo (by omega)]
  simp
theorem Aq:SlR X Cb:=by
 intro pins s σ H x v vl vu lo hi sl Q I rx hs pl pu h
 obtain ⟨z,rfl,hz,q⟩:=h
 obtain ⟨t,rfl⟩:=rx
 obtain ⟨l,rfl,rfl⟩:=part_of pl
 obtain ⟨u,rfl,rfl⟩:=part_of pu
 refine ⟨"str",_,F.slot_str_getitem.lookup,typeIs_str s z t,wpAny_getItem_str_slice (l:=l) (u:=u) (st:=none) hs rfl ?_⟩
 unfold sliceMade
 split
 ·rename_i hc
  refine ⟨.str z,H,I,⟨t,rfl⟩,?_⟩
  have e:PySem.StrLaws.sliceText z (l.map (·.1)) (u.map (·.1))=z:=by
   unfold PySem.StrLaws.sliceText
   exact Zr hc
  rw [e] at q
  exact q
 ·rename_i hc
  refine ⟨ZW ?_ hz,.str _,H,I.tok _,⟨_,rfl⟩,?_⟩
  ·show (List.filterMap _ _).toArray.size<=_
   rw [ZV]
   exact ZW (nu _ _) (yx _ _ _)
  ·have e:PySem.StrLaws.sliceText z (l.map (·.1)) (u.map (·.1))=⟨((slicePicked z l u none).filterMap (z.cps[·]?)).toArray⟩:=by
    unfold PySem.StrLaws.sliceText
    exact Zo hc
   rw [e] at q
   exact q
noncomputable def rSl (K:Xd):V->Option Int->Option Int->Hp->VK->Prop:=fun x lo hi H Q=>Cb x lo hi H Q\/CB K x lo hi H Q
theorem C1:SlR X (rSl X.K):=Aq.or yC
theorem xr {α:Type} (l:List α) (lo hi:Option Int):(cut l lo hi).length<=l.length:=by
 rw [jL,Yf,YX]
 lia
theorem RpL.cut {H:Hp} {vs:List V} {ts:Wb} {Fs:Xg} (r:RpL G H vs ts Fs) (lo hi:Option Int):RpL G H (sY vs lo hi) (VS.cut ts lo hi) (VS.cut Fs lo hi):=by
 have h:=r.len
 rw [jL,jL,h.2]
 unfold sY
 rw [h.1]
 exact (r.drop _).take _
theorem qK {α:Type} (l:List α) (lo hi:Option Int):(VS.cut l lo hi).Sublist l:=by
 rw [jL]
 exact (List.take_sublist _ _).trans (List.drop_sublist _ _)
theorem vx {F G:Xg} (h:F.Sublist G):F.flatten.Sublist G.flatten:=by
 induction h with
 | slnil=>exact Xy _
 | cons a _ ih=>rw [ZU];exact ih.trans (YU _ _)
 | cons_cons a _ ih=>rw [ZU,ZU];exact (Xy _).append ih
theorem fU {lo hi:Option Expr} {cl ch:Option Ex} {p2:Pos} (ha:PV G X a ca) (hl:PVO G X lo cl) (hh:PVO G X hi ch) (hK:X.K=G.K:=by rfl):PV G X (.Subscript a (.Slice lo hi none p2) pos) (eSl ca cl ch) :=
 PE.weak (tW C1 ha hl hh) fun σ H Q hq=>by
  obtain ⟨Φ,η,m,t,s,e,k⟩:=hq
  unfold eSl at e
  obtain ⟨⟨mx,x⟩,ea,e'⟩:=Zz.mp e
  obtain ⟨l,el,e''⟩:=Zz.mp e'
  obtain ⟨h,eh,e4⟩:=Zz.mp e''
  clear e e' e''
  refine ⟨Φ,η,mx,x,s,ea,fun v H1 F e1 r1 f1=>⟨Φ,η,l,s.same e1,el,fun H2 e2=>⟨Φ,η,h,(s.same e1).same e2,eh,fun H3 e3=>?_⟩⟩⟩
  have e03:aN H H3:=(e1.trans e2).trans e3
  have r3:=(r1.same e2).same e3
  unfold oSl at e4
  split at e4
  ·rename_i m' z q
   cases q
   cases e4
   obtain ⟨rfl,hl⟩:=r3.str_inv
   refine .inl ⟨_,rfl,by rw [fe,← gk];exact hl.1,?_⟩
   rw [lX]
   exact k _ H3 _ e03 (.str _ ⟨ZW (xr _ _ _) hl.1,fun c hc=>hl.2 c ((qK _ _ _).subset hc)⟩) Fp.nil
  ·rename_i m' z q
   cases q
   obtain ⟨a',vs,Fs,rfl,rfl,ha',ra⟩:=r3.lst_inv
   refine .inr ⟨a',vs,rfl,by rw [hK];exact SqL.of ha',iI e03 e4 (ra.cut l h) ((f1.sub (Yv _ _)).sub (vx (qK _ _ _))) fun v H4 F e5 r4 f4=>k v H4 F (e03.trans e5) r4 f4⟩
  ·cases e4
noncomputable def tyS:Ty->String
 | .int => "int"
 | .str => "str"
 | .bool => "bool"
 | .list => "list"
 | .tuple => "tuple"
 | .dict => "dict"
noncomputable def rIs (K:Xd):List V->Hp->VK->Prop:=fun vs H Q=>∃ x c t b,vs=[x,.ty c]/\TyOf K H x t/\PySem.W.kitOne K t (.type c)=some b/\Q (.bl b) H
theorem w6:dP X (.builtin "isinstance") (rIs X.K):=by
 intro pins s σ H xs us Q I r h
 obtain ⟨x,c,t,b,rfl,ty,e,q⟩:=h
 obtain ⟨u,w',rfl,r1,r2⟩:=vals2 r
 cases r2
 exact tm I r1 ty e fun tk=>⟨.bl b,H,I.tok _,rfl,q⟩
theorem yL (K:Xd) (ty:Ty):(PySem.W.kitOne K (.type "NoneType") (.type (tyS ty))=some false)/\(PySem.W.kitOne K (.type "bool") (.type (tyS ty))=some (oS ty (.bl true)))/\(PySem.W.kitOne K (.type "int") (.type (tyS ty))=some (oS ty (.int 0))) ∧
  (PySem.W.kitOne K (.type "str") (.type (tyS ty))=some (oS ty (.str [])))/\(PySem.W.kitOne K (.type "list") (.type (tyS ty))=some (oS ty (.lst [])))/\(PySem.W.kitOne K (.type "tuple") (.type (tyS ty))=some (oS ty (.tup [])))/\(PySem.W.kitOne K (.type "dict") (.type (tyS ty))=some (oS ty (.dct 0 []))):=by
 cases ty <;> refine ⟨?_,?_,?_,?_,?_,?_,?_⟩ <;> kernel_rfl
theorem BA {H:Hp} {v:V} {t:T} {F:Wm} (ty:Ty) (r:Rp G H v t F) (h:rC t=true):∃ t',TyOf G.K H v t'/\PySem.W.kitOne G.K t' (.type (tyS ty))=some (oS ty t):=by
 obtain ⟨k1,k2,k3,k4,k5,k6,k7⟩:=yL G.K ty
 cases r with
 | non=>exact ⟨_,.non,by rw [k1];cases ty <;> rfl⟩
 | bl b=>exact ⟨_,.bl b,by rw [k2];cases ty <;> rfl⟩
 | int i=>exact ⟨_,.int i,by rw [k3];cases ty <;> rfl⟩
 | str s _=>exact ⟨_,.str _,by rw [k4];cases ty <;> rfl⟩
 | scr _=>cases h
 | tup h' q=>exact ⟨_,.tup h',by rw [k6];cases ty <;> rfl⟩
 | lst h' q=>exact ⟨_,.lst h',by rw [k5];cases ty <;> rfl⟩
 | dct h' l q=>exact ⟨_,.dK h',by rw [k7];cases ty <;> rfl⟩
 | dctT h' l q=>exact ⟨_,.dT h',by rw [k7];cases ty <;> rfl⟩
 | dctN h' l n q=>simp at h
 | dctZ _ _ _=>cases h
 | exc _ _=>cases h
 | ins _ _ _ _=>cases h
 | mk _ _=>cases h
theorem Cg (ty:Ty) {x:Str} {p1 p2:Pos} (ha:PV G X a ca) (hg:Gl X "isinstance") (hm:X.mg "isinstance" = none) (hg2:Gl X x) (hm2:X.mg x=none) (hv:bootBuiltins x=some (.type (tyS ty))) (hK:X.K=G.K:=by rfl)
  (hn:x ≠ "__name__" := by decide) (hdb:(x == ("__debug__" : Str))=false:=by decide) (hs:starEach [a,.Name x p2] X.env=(false,eval a X.env) :: starEach [.Name x p2] X.env:=by rfl)
  (hs2:starEach [.Name x p2] X.env=(false,eval (.Name x p2) X.env) :: starEach [] X.env:=by rfl) (hpl:(backTo pos (starEach [Expr.Name x p2] X.env)).any (·.1)=false:=by rfl) :
  PV G X (.Call (.Name "isinstance" p1) [a,.Name x p2] [] pos) (eIs ty ca) :=
 PE.weak (nS w6 hg hm boot_isinstance (fz ha (fz (yJ (v:=.ty (tyS ty)) hg2 hm2 hv rfl hn hdb) jW hs2) hs) (by decide) rfl hs hpl) fun σ H Q hq=>by
  obtain ⟨Φ,η,m,t,s,e,k⟩:=hq
  unfold eIs at e
  obtain ⟨⟨mx,y⟩,ea,e'⟩:=Zz.mp e
  split at e'
  ·rename_i hk
   cases e'
   refine ⟨Φ,η,mx,y,s,ea,fun v H' F e1 r1 f1=>?_⟩
   obtain ⟨t',h1,h2⟩:=BA ty r1 hk
   exact ⟨v,tyS ty,t',_,rfl,by rw [hK];exact h1,by rw [hK];exact h2,k _ H' _ e1 (.bl _) Fp.nil⟩
  ·cases e'
end
end VS
end
section
namespace VS
@[simp] noncomputable def oIx (x y:Val):Wc:=match x.2 with
 | .dct 0 l=>if iQ y.2 then (dX l y.2).map (sub x.1) else none
 | _=>aB x y
@[simp] noncomputable def flat:T->Bool
 | .non=>true
 | .bl _=>true
 | .int _=>true
 | .str _=>true
 | _=>false
@[simp] noncomputable def kS (x y:Val):Wc:=match y.2 with
 | .dct 0 l=>if iQ x.2 then some (.fr,.bl (dX l x.2).isSome) else none
 | .lst l=>if flat x.2 && l.all flat then some (.fr,.bl (l.any fun y=>eqT y x.2)) else none
 | .tup l=>if flat x.2 && l.all flat then some (.fr,.bl (l.any fun y=>eqT y x.2)) else none
 | _=>none
@[simp] noncomputable def dm (x y:Val):Wc:=match kS x y with
 | some (_,.bl b)=>some (.fr,.bl (!b))
 | _=>none
noncomputable def pm {α:Type} (f:T->Option (T×α)):List Ky->T->Option (T×α)
 | [],t=>f t
 | .fld k :: r,.obj (c+1) (q :: fs)=>(fs.findIdx? fun p=>p.1 == k).bind fun i=>(fs[i]?).bind fun p=>(pm f r p.2).map fun z=>(.obj (c+1) (q :: fs.set i (p.1,z.1)),z.2)
 | .un :: r,.obj 0 [(0,.bl true),(m,x)]=>(pm f r x).map fun z=>(.obj 0 [(0,.bl true),(m,z.1)],z.2)
 | .at (.int i) :: r,.lst l=>(ixP l.length i).bind fun j=>(l[j]?).bind fun x=>(pm f r x).map fun z=>(.lst (l.set j z.1),z.2)
 | .at k :: r,.dct 0 l=>if iQ k then (l.findIdx? fun p=>eqT p.1 k).bind fun i=>(l[i]?).bind fun p=>(pm f r p.2).map fun z=>(.dct 0 (l.set i (p.1,z.1)),z.2) else none
 | _,_=>none
end VS
end
section
namespace VS
open PySem PySem.Spec PyProof.Rows L2
section
variable {G:Gx} {X:Cx} {a b c e:Expr} {es:List Expr} {ca cb cc:Ex} {cs:Exs} {pos p:Pos}
mutual
noncomputable def toP:T->PyData
 | .non=>.none
 | .bl b=>.bool b
 | .int i=>.int i
 | .str s=>.str (sx s)
 | .tup l=>.tuple (kW l)
 | .lst l=>.list (kW l)
 | _=>.none
noncomputable def kW:Wb->List PyData
 | []=>[]
 | t :: r=>toP t :: kW r
end
theorem BB {s:Tx} (h:nH s):PyData.strOk (sx s)=true:=by
 unfold PyData.strOk sx
 simp only [Array.all_eq_true,decide_eq_true_eq]
 intro i hi
 have:s.toArray[i]∈s:=by simp
 have:=h.2 _ this
 simpa using this
theorem vk {s t:Tx}:(sx s == sx t)=(s == t):=by
 rw [Y4,beq_iff_eq,beq_iff_eq]
 constructor
 ·intro h
  have:(sx s).cps=(sx t).cps:=by rw [h]
  simpa [sx] using this
 ·intro h
  rw [h]
mutual
theorem nk:∀ (n k:Nat) (t u:T),eqD n t=true->eqD k u=true->PyData.eqv (toP t) (toP u)=eqT t u
 | n,k,t,u,h1,h2=>by
  cases t with
  | scr _=>cases n <;> simp at h1
  | dct _ _=>cases n <;> simp at h1
  | obj _ _=>cases n <;> simp at h1
  | tup l =>
   cases n with
   | zero=>simp at h1
   | succ n =>
    cases u with
    | tup r =>
     cases k with
     | zero=>simp at h2
     | succ k =>
      simp only [toP,PyData.eqv,eqT]
      exact lL n k l r (by simpa using h1) (by simpa using h2)
    | scr _=>cases k <;> simp at h2
    | dct _ _=>cases k <;> simp at h2
    | obj _ _=>cases k <;> simp at h2
    | _=>simp [toP,PyData.eqv,eqT]
  | lst l =>
   cases n with
   | zero=>simp at h1
   | succ n =>
    cases u with
    | lst r =>
     cases k with
     | zero=>simp at h2
     | succ k =>
      simp only [toP,PyData.eqv,eqT]
      exact lL n k l r (by simpa using h1) (by simpa using h2)
    | scr _=>cases k <;> simp at h2
    | dct _ _=>cases k <;> simp at h2
    | obj _ _=>cases k <;> simp at h2
    | _=>simp [toP,PyData.eqv,eqT]
  | str s =>
   cases u with
   | str r=>simp only [toP,PyData.eqv,eqT];exact vk
   | scr _=>cases k <;> simp at h2
   | dct _ _=>cases k <;> simp at h2
   | obj _ _=>cases k <;> simp at h2
   | _=>simp [toP,PyData.eqv,eqT]
  | _ =>
   cases u with
   | scr _=>cases k <;> simp at h2
   | dct _ _=>cases k <;> simp at h2
   | obj _ _=>cases k <;> simp at h2
   | _=>simp [toP,PyData.eqv,eqT]
theorem lL:∀ (n k:Nat) (l r:Wb),(∀ t∈l,eqD n t=true)->(∀ t∈r,eqD k t=true)->PyData.eqvAll (kW l) (kW r)=om l r
 | _,_,[],[],_,_=>rfl
 | _,_,[],_ :: _,_,_=>rfl
 | _,_,_ :: _,[],_,_=>rfl
 | n,k,t :: l,u :: r,h1,h2=>by
  simp only [kW,PyData.eqvAll,om]
  rw [nk n k t u (h1 t Zx) (h2 u Zx),lL n k l r (fun x hx=>h1 x (Zw _ hx)) fun x hx=>h2 x (Zw _ hx)]
end
theorem Rp.tup_inv5 {H:Hp} {v:V} {ts:Wb} {F:Wm} (r:Rp G H v (.tup ts) F):∃ b vs Fs,v=.ref b/\H b=some (.tup vs)/\RpL G H vs ts Fs:=by
 cases r with
 | tup h q=>exact ⟨_,_,_,rfl,h,q⟩
theorem Rp.lst_inv5 {H:Hp} {v:V} {ts:Wb} {F:Wm} (r:Rp G H v (.lst ts) F):∃ b vs Fs,v=.ref b/\H b=some (.lst vs)/\RpL G H vs ts Fs:=by
 cases r with
 | lst h q=>exact ⟨_,_,_,rfl,h,q⟩
theorem jT {H:Hp} {s:Shared} {n:Nat} (rd:∀ {v:V} {t:T} {F:Wm} {u:Value},Rp G H v t F->RelV v u->eqD n t=true->∃ as,Reads s.heap u (toP t) as/\(toP t).canLay0=true/\(toP t).depth<=n):∀ {vs:List V} {ts:Wb} {Fs:Xg} {us:Wk},RpL G H vs ts Fs->aQ vs us->(∀ t∈ts,eqD n t=true) →
  ∃ as,ReadsAll s.heap us (kW ts) as/\PyData.canLayAll0 (kW ts)=true/\PyData.depthAll (kW ts)<=n
 | _,_,_,_,.nil,r,_=>by cases r;exact ⟨_,.nil,rfl,Yr _⟩
 | _,_,_,_,.cons p q,r,h=>by
  cases r with
  | cons r1 r2 =>
   obtain ⟨as,h1,h2,h3⟩:=rd p r1 (h _ Zx)
   obtain ⟨bs,g1,g2,g3⟩:=jT rd q r2 fun t ht=>h t (Zw _ ht)
   exact ⟨_,.cons h1 g1,by simp only [kW,PyData.canLayAll0,h2,g2,Bool.and_self],by simp only [kW,PyData.depthAll];lia⟩
theorem kM {h:Heap} {H:Hp} {v:V} {t:T} {F:Wm} {u:Value} {n:Nat} (r:Rp G H v t F) (ru:RelV v u) (hf:flat t=true):∃ as,Reads h u (toP t) as/\(toP t).canLay0=true/\(toP t).depth<=n:=by
 cases r with
 | non=>cases ru;exact ⟨_,.none,rfl,Yr _⟩
 | bl b=>cases ru;exact ⟨_,.bool b,rfl,Yr _⟩
 | int i=>obtain ⟨t,rfl⟩:=ru;exact ⟨_,.int i t,rfl,Yr _⟩
 | str s h=>obtain ⟨t,rfl⟩:=ru;exact ⟨_,.str _ t,BB h,Yr _⟩
 | _=>cases hf
theorem ja {H:Hp} {pins:Xq} {σ:L2.St} {s:Shared} (I:Inv X pins σ H s) (n:Nat):∀ {v:V} {t:T} {F:Wm} {u:Value},Rp G H v t F->RelV v u->eqD n t=true->∃ as,Reads s.heap u (toP t) as/\(toP t).canLay0=true/\(toP t).depth<=n:=by
 induction n with
 | zero =>
  intro v t F u r ru h
  refine kM r ru ?_
  cases t <;> first | rfl | exact h
 | succ n ih =>
  intro v t F u r ru h
  cases t with
  | tup l =>
   obtain ⟨b,vs,Fs,rfl,e,q⟩:=Rp.tup_inv5 r
   cases ru
   obtain ⟨its,rv,tp,hz⟩:=I.tuple (SqT.of e)
   obtain ⟨as,h1,h2,h3⟩:=jT ih q rv (by simpa using h)
   obtain ⟨o,ho,hc,n',hd⟩:=tp
   exact ⟨_,.tuple ho hc hd (by simpa using h1),h2,by simp only [toP,PyData.depth];exact XW h3⟩
  | lst l =>
   obtain ⟨b,vs,Fs,rfl,e,q⟩:=Rp.lst_inv5 r
   cases ru
   obtain ⟨its,rv,pl,hz⟩:=I.list (SqL.of e)
   obtain ⟨as,h1,h2,h3⟩:=jT ih q rv (by simpa using h)
   obtain ⟨o,ho,hc,n',hd⟩:=pl.isList
   exact ⟨_,.list ho hc hd (by simpa using h1),h2,by simp only [toP,PyData.depth];exact XW h3⟩
  | scr _=>simp at h
  | dct _ _=>simp at h
  | obj _ _=>simp at h
  | _=>exact kM r ru rfl
noncomputable def yK (G:Gx) (neg:Bool):R2:=fun x y H Q=>∃ t u F F',Rp G H x t F/\Rp G H y u F'/\eqD 60 t=true/\eqD 60 u=true/\Q (.bl (if neg then !eqT t u else eqT t u)) H
theorem iL {d:PyData} (h:d.canLay0=true) (h2:d.depth<=60):SeqAt.shaped d=true:=by
 unfold SeqAt.shaped
 rw [h,Bool.true_and]
 exact ZL (by lia)
theorem pQ (hu:X.A.units+64 < cLine):OpR X (compareOp .Eq) (yK G false):=by
 intro pins s σ H x y v u Q I rx ry h
 obtain ⟨t,w,F,F',r1,r2,h1,h2,q⟩:=h
 obtain ⟨as,a1,a2,a3⟩:=ja I 60 r1 rx h1
 obtain ⟨bs,b1,b2,b3⟩:=ja I 60 r2 ry h2
 refine eq_dataH a1 b1 (iL a2 a3) (iL b2 b3) hu ⟨.bl _,H,I,rfl,?_⟩
 rw [nk 60 60 t w h1 h2]
 exact q
theorem wc (hu:X.A.units+64 < cLine):OpR X (compareOp .NotEq) (yK G true):=by
 intro pins s σ H x y v u Q I rx ry h
 obtain ⟨t,w,F,F',r1,r2,h1,h2,q⟩:=h
 obtain ⟨as,a1,a2,a3⟩:=ja I 60 r1 rx h1
 obtain ⟨bs,b1,b2,b3⟩:=ja I 60 r2 ry h2
 refine ne_dataH a1 b1 (iL a2 a3) (iL b2 b3) hu ⟨.bl _,H,I,rfl,?_⟩
 rw [nk 60 60 t w h1 h2]
 exact q
theorem v9:fu G (yK G false) oEq:=by
 intro Φ η H0 H x y u w F1 F2 m t Q tw e k
 unfold oEq at e
 split at e
 ·rename_i h
  cases e
  exact ⟨_,_,_,_,tw.r1,tw.r2,h.1,h.2,bB k (.bl _)⟩
 ·cases e
theorem zg:fu G (yK G true) oNe:=by
 intro Φ η H0 H x y u w F1 F2 m t Q tw e k
 unfold oNe at e
 split at e
 ·rename_i h
  cases e
  exact ⟨_,_,_,_,tw.r1,tw.r2,h.1,h.2,bB k (.bl _)⟩
 ·cases e
theorem tells_eq:Tells oEq:=by
 intro x y m t e
 unfold oEq at e
 split at e <;> first | (cases e;exact ⟨_,rfl⟩) | cases e
theorem n9:Tells oNe:=by
 intro x y m t e
 unfold oNe at e
 split at e <;> first | (cases e;exact ⟨_,rfl⟩) | cases e
end
structure Frm (Φ:Fps) (η:VS.Env) (H:Hp) (Φ':Fps) (η':VS.Env) (H':Hp):Prop where
 keep:∀ a o,H a=some o->¬ b9 Φ η a->H' a=some o/\¬ b9 Φ' η' a
 dom:∀ a,H a ≠ none->H' a ≠ none
 ow:∀ a,b9 Φ' η' a->b9 Φ η a\/H a=none
 pu:∀ a,dC Φ' η' a->dC Φ η a\/b9 Φ η a\/H a=none
 kept:Kept H H'
theorem Frm.refl (Φ:Fps) (η:VS.Env) (H:Hp):Frm Φ η H Φ η H:=⟨fun a o h n=>⟨h,n⟩,fun _ h=>h,fun _ h=>.inl h,fun _ h=>.inl h,Kept.refl H⟩
theorem Frm.none {Φ Φ':Fps} {η η':VS.Env} {H H':Hp} (f:Frm Φ η H Φ' η' H') {a:Addr} (h:H' a=none):H a=none:=by
 cases e:H a with
 | none=>rfl
 | some o=>exact absurd h (f.dom a (by rw [e];exact fun z=>nomatch z))
theorem Frm.trans {Φ Φ1 Φ2:Fps} {η η1 η2:VS.Env} {H H1 H2:Hp} (f:Frm Φ η H Φ1 η1 H1) (g:Frm Φ1 η1 H1 Φ2 η2 H2):Frm Φ η H Φ2 η2 H2 where
 keep:=fun a o h n=>let ⟨h1,n1⟩:=f.keep a o h n;g.keep a o h1 n1
 dom:=fun a h=>g.dom a (f.dom a h)
 ow:=fun a h=>by
  rcases g.ow a h with h | h
  ·exact f.ow a h
  ·exact .inr (f.none h)
 pu:=fun a h=>by
  rcases g.pu a h with h | h | h
  ·exact f.pu a h
  ·rcases f.ow a h with h | h
   ·exact .inr (.inl h)
   ·exact .inr (.inr h)
  ·exact .inr (.inr (f.none h))
 kept:=f.kept.trans g.kept
theorem Frm.same {Φ:Fps} {η:VS.Env} {H H':Hp} (e:aN H H'):Frm Φ η H Φ η H' :=
 ⟨fun a o h n=>⟨e a o h,n⟩,fun a h z=>h (e.free z),fun _ h=>.inl h,fun _ h=>.inl h,Kept.of e⟩
noncomputable def pf (Φ:Fps) (η:VS.Env) (H:Hp):Md->Wm->Prop
 | .fr,F=>F.Nodup/\∀ a∈F,H a=none\/b9 Φ η a
 | _,F=>∀ a∈F,H a=none\/dC Φ η a\/b9 Φ η a
theorem pf.back {Φ Φ1:Fps} {η η1:VS.Env} {H H1:Hp} (f:Frm Φ η H Φ1 η1 H1) {F:Wm}:∀ {m:Md},pf Φ1 η1 H1 m F->pf Φ η H m F
 | .fr,h=>⟨h.1,fun a ha=>(h.2 a ha).elim (fun z=>.inl (f.none z)) fun z=>(f.ow a z).elim .inr .inl⟩
 | .pu,h=>fun a ha=>by
  rcases h a ha with z | z | z
  ·exact .inl (f.none z)
  ·rcases f.pu a z with z | z | z
   ·exact .inr (.inl z)
   ·exact .inr (.inr z)
   ·exact .inl z
  ·exact (f.ow a z).elim (fun z=>.inr (.inr z)) .inl
 | .bo,h=>fun a ha=>by
  rcases h a ha with z | z | z
  ·exact .inl (f.none z)
  ·rcases f.pu a z with z | z | z
   ·exact .inr (.inl z)
   ·exact .inr (.inr z)
   ·exact .inl z
  ·exact (f.ow a z).elim (fun z=>.inr (.inr z)) .inl
noncomputable def Nx (G:Gx) (Φ:Fps) (η:VS.Env) (H:Hp) (η':VS.Env) (k:L2.St->Hp->Prop):Prop:=∀ Φ' σ' H',SR G Φ' η' σ' H'->Frm Φ η H Φ' η' H'->k σ' H'
noncomputable def qX (G:Gx) (Φ:Fps) (η:VS.Env) (H:Hp) (D:Ends):Out->Prop
 | .nx η'=>Nx G Φ η H η' D.nx
 | .bk η'=>Nx G Φ η H η' D.bk
 | .ct η'=>Nx G Φ η H η' D.ct
 | .rt v η'=>∀ u H' F Φ' σ',SR G Φ' η' σ' H'->Frm Φ η H Φ' η' H'->Rp G H' u v.2 F->pf Φ η H v.1 F->D.rt u H'
noncomputable def tS (G:Gx) (c:Sx):TS:=fun D σ H=>∃ Φ η o,SR G Φ η σ H/\c η=some o/\qX G Φ η H D o
noncomputable def PSV (G:Gx) (X:Cx) (st:Stmt) (c:Sx):Prop:=PS X st (tS G c)
noncomputable def ip (G:Gx) (X:Cx) (st:List Stmt) (c:Sx):Prop:=PSs X st (tS G c)
theorem PS.weak {X:Cx} {e:Stmt} {t t':TS} (h:PS X e t) (w:∀ D σ H,t' D σ H->t D σ H):PS X e t':=fun pins s σ H D I q=>h pins s σ H D I (w D σ H q)
theorem PSs.weak {X:Cx} {e:List Stmt} {t t':TS} (h:PSs X e t) (w:∀ D σ H,t' D σ H->t D σ H):PSs X e t':=fun pins s σ H D I q=>h pins s σ H D I (w D σ H q)
theorem qX.back {G:Gx} {Φ Φ1:Fps} {η η1:VS.Env} {H H1:Hp} {D:Ends} (f:Frm Φ η H Φ1 η1 H1):∀ {o:Out},qX G Φ η H D o->qX G Φ1 η1 H1 D o
 | .nx η',h=>fun Φ' σ' H' s g=>h Φ' σ' H' s (f.trans g)
 | .bk η',h=>fun Φ' σ' H' s g=>h Φ' σ' H' s (f.trans g)
 | .ct η',h=>fun Φ' σ' H' s g=>h Φ' σ' H' s (f.trans g)
 | .rt v η',h=>fun u H' F Φ' σ' s g r q=>h u H' F Φ' σ' s (f.trans g) r (q.back f)
section
variable {G:Gx} {X:Cx} {st:Stmt} {sts:List Stmt} {c c1 c2:Sx} {pos:Pos} {e:Expr} {ce:Ex}
theorem bC:ip G X [] dF:=PSs.weak xj fun D σ H hq=>by
 obtain ⟨Φ,η,o,s,e,k⟩:=hq
 cases (show some (Out.nx η)=some o from e)
 exact k Φ σ H s (Frm.refl _ _ _)
theorem af (h1:PSV G X st c1) (h2:ip G X sts c2):ip G X (st :: sts) (ak c1 c2):=PSs.weak (um h1 h2) fun D σ H hq=>by
 obtain ⟨Φ,η,o,s,e,k⟩:=hq
 unfold ak at e
 obtain ⟨o1,e1,e2⟩:=Zz.mp e
 refine ⟨Φ,η,o1,s,e1,?_⟩
 cases o1 with
 | nx η1=>exact fun Φ' σ' H' s' f=>⟨Φ',η1,o,s',e2,k.back f⟩
 | rt v η1=>cases e2;exact k
 | bk η1=>cases e2;exact k
 | ct η1=>cases e2;exact k
theorem bY {t:Expr} {ct:Ex} {a b:List Stmt} (hc:PVT G X t ct) (ha:ip G X a c1) (hb:ip G X b c2):PSV G X (.If t a b pos) (sIf ct c1 c2):=PS.weak (Bt hc ha hb) fun D σ H hq=>by
 obtain ⟨Φ,η,o,s,e,k⟩:=hq
 unfold sIf at e
 obtain ⟨⟨m,x⟩,ec,e1⟩:=Zz.mp e
 obtain ⟨b',eb,e2⟩:=Zz.mp e1
 refine ⟨Φ,η,m,x,b',s,ec,eb,fun H' e3=>?_⟩
 cases b' with
 | true =>
  rw [Zr rfl] at e2
  exact yB ⟨Φ,η,o,s.same e3,e2,k.back (Frm.same e3)⟩
 | false =>
  rw [Zo Za] at e2
  exact yu ⟨Φ,η,o,s.same e3,e2,k.back (Frm.same e3)⟩
theorem Fp.ret {Φ:Fps} {η:VS.Env} {H:Hp} {F:Wm}:∀ {m:Md},Fp Φ η H m F->pf Φ η H (match m with | .bo=>.pu | m=>m) F
 | .fr,f=>⟨f.1,fun a ha=>.inl (f.2 a ha)⟩
 | .pu,f=>fun a ha=>(f a ha).elim .inl fun z=>.inr (.inl z)
 | .bo,f=>f
theorem bq (he:PV G X e ce):PSV G X (.Return (some e) pos) (dN ce):=PS.weak (nL he) fun D σ H hq=>by
 obtain ⟨Φ,η,o,s,e,k⟩:=hq
 unfold dN at e
 obtain ⟨⟨m,x⟩,ec,e1⟩:=Zz.mp e
 cases e1
 exact ⟨Φ,η,m,x,s,ec,fun v H' F e1 r1 f1=>k v H' F Φ σ (s.same e1) (Frm.same e1) r1 f1.ret⟩
theorem cO {η:VS.Env} {i j:Nat} {c:Cell} (h:(η.set i none)[j]?=some (some c)):j ≠ i/\η[j]?=some (some c):=by
 rw [Wt] at h
 split at h
 ·split at h <;> cases h
 ·rename_i n
  exact ⟨fun z=>n z.symm,h⟩
theorem SR.drop {Φ:Fps} {η:VS.Env} {σ:L2.St} {H:Hp} (s:SR G Φ η σ H) (i:Nat):SR G Φ (η.set i none) σ H :=
 ⟨by rw [Yu];exact s.len,fun j c h=>s.rp j c (cO h).2,fun j t h=>s.nd j t (cO h).2,fun j k t c h1 h2 n=>s.sep j k t c (cO h1).2 (cO h2).2 n⟩
theorem Frm.drop {Φ:Fps} {η:VS.Env} {H:Hp} (i:Nat):Frm Φ η H Φ (η.set i Option.none) H :=
 ⟨fun a o h n=>⟨h,fun ⟨j,t,h1,h2⟩=>n ⟨j,t,(cO h1).2,h2⟩⟩,fun _ h=>h,fun a ⟨j,t,h1,h2⟩=>.inl ⟨j,t,(cO h1).2,h2⟩,fun a ⟨j,t,h1,h2⟩=>.inl ⟨j,t,(cO h1).2,h2⟩,Kept.refl H⟩
theorem eP (i:Nat) {x:Str} {p:Pos} (hN:X.N[i]?=some x:=by rfl) (hv:Vis X.env.scope x:=by first | exact Or.inl rfl | exact Or.inr (Or.inl rfl) | exact Or.inr (Or.inr rfl)) (hd:(x == ("__debug__" : Str))=false:=by decide)
  (hcd:(x == ("__classdict__" : Str))=false:=by decide):PSV G X (.Return (some (.Name x p)) pos) (gE i):=PS.weak (nL (gr hN hv hd hcd)) fun D σ H hq=>by
 obtain ⟨Φ,η,o,s,e,k⟩:=hq
 unfold gE at e
 split at e
 ·rename_i t h
  obtain ⟨v,h1,h2⟩:=s.rp _ _ h
  cases e
  exact ⟨v,h1,k v H (Φ i) Φ σ (s.drop i) (Frm.drop i) h2 ⟨s.nd i t h,fun a ha=>.inr ⟨i,t,h,ha⟩⟩⟩
 ·rename_i t h
  obtain ⟨v,h1,h2⟩:=s.rp _ _ h
  cases e
  refine ⟨v,h1,k v H (Φ i) Φ σ s (Frm.refl _ _ _) h2 ?_⟩
  have f:Fp Φ η H .pu (Φ i):=fun a ha=>.inr ⟨i,t,h,ha⟩
  have f2:=(f.up h2).ret
  have:(match (VS.up .pu (jI (.pu t))).1 with | .bo=>Md.pu | m=>m)=(VS.up .pu t).1:=by
   show (match (VS.up .pu t).1 with | .bo=>Md.pu | m=>m)=_
   unfold VS.up
   split <;> (rename_i q;revert q;split <;> simp)
  rw [this] at f2
  exact f2
 ·cases e
noncomputable def kj (Φ:Fps) (i:Nat) (F:Wm):Fps:=fun j=>if j=i then F else Φ j
theorem iK {Φ:Fps} {i:Nat} {F:Wm}:kj Φ i F i=F:=Zr rfl
theorem eI {Φ:Fps} {i j:Nat} {F:Wm} (h:j ≠ i):kj Φ i F j=Φ j:=Zo h
theorem gK {η:VS.Env} {i j:Nat} {c c':Cell} (h:(η.set i (some c))[j]?=some (some c')):(j=i/\c'=c)\/(j ≠ i/\η[j]?=some (some c')):=by
 rw [Wt] at h
 split at h
 ·rename_i e
  split at h
  ·exact .inl ⟨e.symm,(Zn (Zn h)).symm⟩
  ·cases h
 ·rename_i n
  exact .inr ⟨fun z=>n z.symm,h⟩
theorem SR.put {Φ:Fps} {η:VS.Env} {σ:L2.St} {H H':Hp} {i:Nat} {v:V} {c:Cell} {F:Wm} (s:SR G Φ η σ H) (hi:i < η.length) (r:Rp G H' v (jI c) F)
  (hk:∀ j c',j ≠ i->η[j]?=some (some c')->∀ w,Rp G H w (jI c') (Φ j)->Rp G H' w (jI c') (Φ j))
  (hnd:∀ t,c=.ow t->F.Nodup) (hown:∀ t,c=.ow t->∀ j c',j ≠ i->η[j]?=some (some c')->∀ a∈F,a ∉ Φ j) (hpu:∀ j t,j ≠ i->η[j]?=some (some (.ow t))->∀ a∈Φ j,a ∉ F) :
  SR G (kj Φ i F) (η.set i (some c)) (σ.set i (some v)) H' where
 len:=by rw [Yu,Yu];exact s.len
 rp:=fun j c' h=>by
  rcases gK h with ⟨rfl,rfl⟩ | ⟨n,h⟩
  ·exact ⟨v,by rw [XM (by rw [← s.len];exact hi)],by rw [iK];exact r⟩
  ·obtain ⟨w,h1,h2⟩:=s.rp j c' h
   exact ⟨w,by rw [YQ (YW n)];exact h1,by rw [eI n];exact hk j c' n h w h2⟩
 nd:=fun j t h=>by
  rcases gK h with ⟨rfl,e⟩ | ⟨n,h⟩
  ·rw [iK];exact hnd t e.symm
  ·rw [eI n];exact s.nd j t h
 sep:=fun j k t c' h1 h2 n=>by
  rcases gK h1 with ⟨rfl,e⟩ | ⟨n1,g1⟩
  ·rcases gK h2 with ⟨rfl,e2⟩ | ⟨n2,g2⟩
   ·exact absurd rfl n
   ·rw [iK,eI n2]
    exact hown t e.symm k c' n2 g2
  ·rcases gK h2 with ⟨rfl,e2⟩ | ⟨n2,g2⟩
   ·rw [iK,eI n1]
    exact hpu j t n1 g1
   ·rw [eI n1,eI n2]
    exact s.sep j k t c' g1 g2 n
theorem lF {Φ:Fps} {η:VS.Env} {i:Nat} {c:Cell} {F:Wm} {a:Addr} (h:b9 (kj Φ i F) (η.set i (some c)) a):(∃ t,c=.ow t/\a∈F)\/b9 Φ η a:=by
 obtain ⟨j,t,h1,h2⟩:=h
 rcases gK h1 with ⟨rfl,e⟩ | ⟨n,h1⟩
 ·rw [iK] at h2;exact .inl ⟨t,e.symm,h2⟩
 ·rw [eI n] at h2;exact .inr ⟨j,t,h1,h2⟩
theorem pO {Φ:Fps} {η:VS.Env} {i:Nat} {c:Cell} {F:Wm} {a:Addr} (h:dC (kj Φ i F) (η.set i (some c)) a):(∃ t,c=.pu t/\a∈F)\/dC Φ η a:=by
 obtain ⟨j,t,h1,h2⟩:=h
 rcases gK h1 with ⟨rfl,e⟩ | ⟨n,h1⟩
 ·rw [iK] at h2;exact .inl ⟨t,e.symm,h2⟩
 ·rw [eI n] at h2;exact .inr ⟨j,t,h1,h2⟩
theorem SR.ow_pu {Φ:Fps} {η:VS.Env} {σ:L2.St} {H:Hp} (s:SR G Φ η σ H) {a:Addr} (h:b9 Φ η a) (h':dC Φ η a):False:=by
 obtain ⟨j,t,h1,h2⟩:=h
 obtain ⟨k,u,g1,g2⟩:=h'
 have n:j ≠ k:=fun e=>by subst e;rw [h1] at g1;cases g1
 exact s.sep j k t _ h1 g1 n a h2 g2
theorem SR.val {Φ:Fps} {η:VS.Env} {σ:L2.St} {H H':Hp} {i:Nat} {v:V} {t:T} {m:Md} {F:Wm} {c:Cell} (s:SR G Φ η σ H) (hi:i < η.length) (e:aN H H') (r:Rp G H' v t F) (f:Fp Φ η H m F)
  (hc:(c=.pu t/\m ≠ .bo)\/(c=.ow t/\m=.fr)):SR G (kj Φ i F) (η.set i (some c)) (σ.set i (some v)) H'/\Frm Φ η H (kj Φ i F) (η.set i (some c)) H':=by
 have dom:∀ {a},H a=none->∀ j c',η[j]?=some (some c')->a ∉ Φ j:=fun {a} h j c' hj ha=>by
  obtain ⟨w,_,q⟩:=s.rp j c' hj
  exact Mut.ne_none (q.dom a ha) h
 have ct:jI c=t:=by rcases hc with ⟨rfl,_⟩ | ⟨rfl,_⟩ <;> rfl
 have fpu:∀ a∈F,H a=none\/dC Φ η a:=fun a ha=>by
  rcases hc with ⟨_,n⟩ | ⟨_,n⟩
  ·exact f.pu n a ha
  ·rw [n] at f;exact .inl (f.2 a ha)
 constructor
 ·refine s.put hi (by rw [ct];exact r) (fun j c' n hj w q=>q.same e) (fun u hu=>?_) (fun u hu j c' n hj a ha=>?_) fun j u n hj a ha hF=>?_
  ·rcases hc with ⟨h,_⟩ | ⟨_,h⟩
   ·rw [h] at hu;cases hu
   ·rw [h] at f;exact f.1
  ·rcases hc with ⟨h,_⟩ | ⟨_,h⟩
   ·rw [h] at hu;cases hu
   ·rw [h] at f;exact dom (f.2 a ha) j c' hj
  ·rcases fpu a hF with z | z
   ·exact dom z j _ hj ha
   ·exact s.ow_pu ⟨j,u,hj,ha⟩ z
 ·refine ⟨fun a o h n=>⟨e a o h,fun z=>?_⟩,fun a h z=>h (e.free z),fun a h=>?_,fun a h=>?_,Kept.of e⟩
  ·rcases lF z with ⟨u,hu,ha⟩ | z
   ·rcases hc with ⟨h',_⟩ | ⟨_,h'⟩
    ·rw [h'] at hu;cases hu
    ·rw [h'] at f
     rw [f.2 a ha] at h;cases h
   ·exact n z
  ·rcases lF h with ⟨u,hu,ha⟩ | z
   ·rcases hc with ⟨h',_⟩ | ⟨_,h'⟩
    ·rw [h'] at hu;cases hu
    ·rw [h'] at f
     exact .inr (f.2 a ha)
   ·exact .inl z
  ·rcases pO h with ⟨u,hu,ha⟩ | z
   ·exact (fpu a ha).elim (fun z=>.inr (.inr z)) .inl
   ·exact .inl z
theorem gp {i:Nat} {x:Str} {pos':Pos} (he:PV G X e ce) (hN:X.N.Nodup) (hi:X.N[i]?=some x:=by rfl) (hx:Loc X.env.scope x:=by first | exact Or.inl rfl | exact Or.inr rfl)
  (hs:swapsWith e (some (.Name x pos')) pos.line X.env=pure false:=by rfl) (hf:X.fn x=true\/X.env.scope.names.lookup x=some .local:=by first | exact .inl rfl | exact .inr rfl) :
  PSV G X (.Assign [.Name x pos'] e pos) (kX i ce):=PS.weak (qj hN hi hx he hs hf) fun D σ H hq=>by
 obtain ⟨Φ,η,o,s,e,k⟩:=hq
 unfold kX at e
 obtain ⟨⟨m,t⟩,ec,e1⟩:=Zz.mp e
 obtain ⟨c,eC,e2⟩:=Zz.mp e1
 split at e2
 ·rename_i hl
  cases e2
  refine ⟨Φ,η,m,t,s,ec,fun v H' F e3 r3 f3=>?_⟩
  obtain ⟨q1,q2⟩:=s.val (c:=c) hl e3 r3 f3 (by
   unfold cellOf at eC
   cases m with
   | fr =>
    simp only [Option.some.injEq] at eC
    split at eC
    ·exact .inr ⟨eC.symm,rfl⟩
    ·exact .inl ⟨eC.symm,by decide⟩
   | pu=>cases eC;exact .inl ⟨rfl,by decide⟩
   | bo=>cases eC)
  exact k _ _ H' q1 q2
 ·cases e2
theorem ar {i:Nat} {x:Str} {pos':Pos} (he:PV G X e ce) (hN:X.N.Nodup) (hi:X.N[i]?=some x:=by rfl) (hx:Loc X.env.scope x:=by first | exact Or.inl rfl | exact Or.inr rfl)
  (hs:swapsWith e (some (.Name x pos')) pos.line X.env=pure false:=by rfl) (hf:X.fn x=true\/X.env.scope.names.lookup x=some .local:=by first | exact .inl rfl | exact .inr rfl) :
  PSV G X (.Assign [.Name x pos'] e pos) (aC i ce):=PS.weak (qj hN hi hx he hs hf) fun D σ H hq=>by
 obtain ⟨Φ,η,o,s,e,k⟩:=hq
 unfold aC at e
 obtain ⟨⟨m,t⟩,ec,e1⟩:=Zz.mp e
 split at e1
 ·cases e1
 ·rename_i hm
  split at e1
  ·rename_i hl
   cases e1
   refine ⟨Φ,η,m,t,s,ec,fun v H' F e3 r3 f3=>?_⟩
   obtain ⟨q1,q2⟩:=s.val (c:=.pu t) hl e3 r3 f3 (.inl ⟨rfl,hm⟩)
   exact k _ _ H' q1 q2
  ·cases e1
theorem SR.frz {Φ:Fps} {η:VS.Env} {σ:L2.St} {H:Hp} {i:Nat} {t:T} (s:SR G Φ η σ H) (h:η[i]?=some (some (.ow t))):SR G Φ (η.set i (some (.pu t))) σ H/\Frm Φ η H Φ (η.set i (some (.pu t))) H:=by
 have back:∀ {j c},(η.set i (some (.pu t)))[j]?=some (some c)->∃ c',η[j]?=some (some c')/\jI c'=jI c/\∀ u,c=.ow u->c'=.ow u:=fun {j c} hj=>by
  rcases gK hj with ⟨rfl,rfl⟩ | ⟨n,hj⟩
  ·exact ⟨.ow t,h,rfl,fun u hu=>nomatch hu⟩
  ·exact ⟨c,hj,rfl,fun u hu=>hu⟩
 refine ⟨⟨by rw [Yu];exact s.len,fun j c hj=>?_,fun j u hj=>?_,fun j k u c h1 h2 n=>?_⟩,⟨fun a o ha n=>⟨ha,fun ⟨j,u,h1,h2⟩=>?_⟩,fun _ h=>h,fun a ⟨j,u,h1,h2⟩=>?_,fun a ⟨j,u,h1,h2⟩=>?_,Kept.refl H⟩⟩
 ·obtain ⟨c',h1,h2,_⟩:=back hj
  obtain ⟨v,g1,g2⟩:=s.rp j c' h1
  exact ⟨v,g1,by rw [← h2];exact g2⟩
 ·obtain ⟨c',h1,_,h3⟩:=back hj
  rw [h3 u rfl] at h1
  exact s.nd j u h1
 ·obtain ⟨c1,g1,_,g3⟩:=back h1
  obtain ⟨c2,k1,_,_⟩:=back h2
  rw [g3 u rfl] at g1
  exact s.sep j k u c2 g1 k1 n
 ·obtain ⟨c1,g1,_,g3⟩:=back h1
  rw [g3 u rfl] at g1
  exact n ⟨j,u,g1,h2⟩
 ·obtain ⟨c1,g1,_,g3⟩:=back h1
  rw [g3 u rfl] at g1
  exact .inl ⟨j,u,g1,h2⟩
 ·rcases gK h1 with ⟨rfl,_⟩ | ⟨n,h1⟩
  ·exact .inr (.inl ⟨j,t,h,h2⟩)
  ·exact .inl ⟨j,u,h1,h2⟩
theorem kB (i:Nat) (h:ip G X sts c):ip G X sts (ak (tf i) c):=PSs.weak h fun D σ H hq=>by
 obtain ⟨Φ,η,o,s,e,k⟩:=hq
 unfold ak at e
 obtain ⟨o1,e1,e2⟩:=Zz.mp e
 unfold tf at e1
 split at e1
 ·rename_i t ht
  cases e1
  obtain ⟨q1,q2⟩:=s.frz ht
  exact ⟨Φ,_,o,q1,e2,k.back q2⟩
 ·cases e1
  exact ⟨Φ,η,o,s,e2,k⟩
 ·cases e1
end
section
variable {G:Gx} {X:Cx} {st:Stmt} {sts:List Stmt} {c c1 c2:Sx} {pos:Pos} {e:Expr} {es:List Expr} {ce:Ex} {cs:Exs}
structure Chg (G:Gx) (H:Hp) (v:V) (F:Wm) (t':T) (H2:Hp) (F':Wm):Prop where
 kept:Kept H H2
 keep:∀ b o,b ∉ F->H b=some o->H2 b=some o
 dom:∀ b,H b ≠ none->H2 b ≠ none
 rp:Rp G H2 v t' F'
 nd:F'.Nodup
 sub:∀ a∈F',a∈F\/H a=none
theorem SR.mut {Φ:Fps} {η:VS.Env} {σ:L2.St} {H H2:Hp} {i:Nat} {v:V} {t t':T} {F':Wm} (s:SR G Φ η σ H) (hi:η[i]?=some (some (.ow t))) (hv:σ[i]?=some (some v)) (g:Chg G H v (Φ i) t' H2 F') :
  SR G (kj Φ i F') (η.set i (some (.ow t'))) σ H2/\Frm Φ η H (kj Φ i F') (η.set i (some (.ow t'))) H2:=by
 have hl:i < η.length:=(ZZ.mp hi).1
 have off:∀ j c',j ≠ i->η[j]?=some (some c')->∀ a∈Φ j,a ∉ Φ i:=fun j c' n hj a ha ha'=>s.sep i j t c' hi hj (YW n) a ha' ha
 have es:σ.set i (some v)=σ:=by
  obtain ⟨h,e⟩:=ZZ.mp hv
  rw [← e]
  exact XF h
 have new:∀ a∈F',∀ j c',j ≠ i->η[j]?=some (some c')->a ∉ Φ j:=fun a ha j c' n hj ha'=>by
  rcases g.sub a ha with z | z
  ·exact off j c' n hj a ha' z
  ·obtain ⟨w,_,q⟩:=s.rp j c' hj
   exact Mut.ne_none (q.dom a ha') z
 constructor
 ·have:=s.put (c:=.ow t') (F:=F') (H':=H2) (v:=v) hl g.rp (fun j c' n hj w q=>q.keep g.kept fun a ha o ho=>g.keep a o (off j c' n hj a ha) ho) (fun _ _=>g.nd) (fun u hu j c' n hj a ha=>new a ha j c' n hj) fun j u n hj a ha ha'=>new a ha' j _ n hj ha
  rw [es] at this
  exact this
 ·refine ⟨fun a o h n=>⟨g.keep a o (fun z=>n ⟨i,t,hi,z⟩) h,fun z=>?_⟩,g.dom,fun a h=>?_,fun a h=>?_,g.kept⟩
  ·rcases lF z with ⟨u,_,ha⟩ | z
   ·rcases g.sub a ha with z | z
    ·exact n ⟨i,t,hi,z⟩
    ·rw [z] at h;cases h
   ·exact n z
  ·rcases lF h with ⟨u,_,ha⟩ | z
   ·rcases g.sub a ha with z | z
    ·exact .inl ⟨i,t,hi,z⟩
    ·exact .inr z
   ·exact .inl z
  ·rcases pO h with ⟨u,hu,ha⟩ | z
   ·cases hu
   ·exact .inl z
noncomputable def vD (G:Gx) (r:V->List V->Hp->VK->Prop) (f:T->We->Option (T×Val)):Prop:=∀ (Φ:Fps) (η:VS.Env) (H H1:Hp) (v:V) (t t':T) (F:Wm) (l:We) (vs:List V) (Fs:Xg) (x:Val) (Q:VK),
 Rp G H v t F->F.Nodup->Args G Φ η H H1 l vs Fs->f t l=some (t',x)->(∀ u H2 F',Chg G H v F t' H2 F'->Q u H2)->r v vs H1 Q
theorem vf {T' id:String} {name x:Str} {r:V->List V->Hp->VK->Prop} {f:T->We->Option (T×Val)} {apos cpos p1:Pos} (i:Nat) (pa:PlainAttrs T') (slot:Slot T' name id) (hty:typeOf (.builtin id)=pure (.type "method_descriptor")) (hm:MtR X id r) (ok:vD G r f)
  (hT:∀ H v t F l z,Rp G H v t F->f t l=some z->tyV G.K T' v H) (ha:PVs G X (e :: es) cs) (hK:X.K=G.K:=by rfl)
  (hN:X.N[i]?=some x:=by rfl) (hv:Vis X.env.scope x:=by first | exact Or.inl rfl | exact Or.inr (Or.inl rfl) | exact Or.inr (Or.inr rfl)) (hd:(x == ("__debug__" : Str))=false:=by decide)
  (hcd:(x == ("__classdict__" : Str))=false:=by decide)
  (hbase:attributeBase (.Name x p1) name X.env (eval (.Name x p1) X.env)=eval (.Name x p1) X.env:=by rfl)
  (hfew:((backTo cpos (starEach (e :: es) X.env)).all (fun x=>!x.1) && (backToKw cpos (keywordEach [] X.env)).all (fun x=>x.1.isSome)
   && decide ((e :: es).length+([]:List Keyword).length+(if ([]:List Keyword).isEmpty then 0 else 1) < 30))=true:=by rfl)
  (hline:(apos.endLine == cpos.line)=true:=by rfl) (hs:starEach (e :: es) X.env=(false,eval e X.env) :: starEach es X.env:=by rfl) (hplain:(backTo cpos (starEach es X.env)).any (·.1)=false:=by rfl)
  (hsw:swapsWith (.Call (.Attribute (.Name x p1) name apos) (e :: es) [] cpos) none pos.line X.env=pure false:=by rfl) :
  PSV G X (.Expr (.Call (.Attribute (.Name x p1) name apos) (e :: es) [] cpos) pos) (sX (lW i [] f cs)) :=
 PS.weak (jb (wa pa slot hty hm (gr hN hv hd hcd) ha hbase hfew hline hs hplain) hsw) fun D σ H hq=>by
  obtain ⟨Φ,η,o,s,e,k⟩:=hq
  unfold sX lW at e
  obtain ⟨⟨x',η'⟩,e1,e2⟩:=Zu.mp e
  split at e1
  ·rename_i t ht
   obtain ⟨ks,ek,e3⟩:=Zz.mp e1
   cases (show some ([]:List Ky)=some ks from ek)
   obtain ⟨l,el,e4⟩:=Zz.mp e3
   obtain ⟨⟨t',x2⟩,e5,e6⟩:=Zu.mp e4
   cases e6
   cases e2
   obtain ⟨v,h1,h2⟩:=s.rp _ _ ht
   have e7:f t l=some (t',x'):=e5
   refine ⟨v,h1,by rw [hK];exact hT H v t _ l _ h2 e7,Φ,η,l,s,el,fun vs H' Fs q1 q2 q3=>?_⟩
   refine ok Φ η H H' v t t' (Φ i) l vs Fs x' _ h2 (s.nd i t ht) ⟨q1,q2,q3⟩ e7 fun u H2 F' g=>?_
   obtain ⟨w1,w2⟩:=s.mut ht h1 g
   exact k _ σ H2 w1 w2
  ·cases e1
theorem Chg.upd {H H1:Hp} {v:V} {F:Wm} {a:Addr} {o:HO} {t':T} {F':Wm} (e:aN H H1) (ha:a∈F) (hm:Mut (H1 a)) (r:Rp G (upd H1 a o) v t' F') (nd:F'.Nodup) (sub:∀ a∈F',a∈F\/H a=none):Chg G H v F t' (upd H1 a o) F' :=
 ⟨(Kept.of e).trans (Kept.upd (.inl hm)),fun b o' hb h=>by rw [aD (fun z=>hb (by rw [z];exact ha))];exact e b o' h,
  fun b h z=>by
   by_cases q:b=a
   ·subst q;rw [aA] at z;cases z
   ·rw [aD q] at z;exact h (e.free z),r,nd,sub⟩
theorem RpL.off {H:Hp} {vs:List V} {ts:Wb} {Fs:Xg} {a:Addr} {o:HO} (r:RpL G H vs ts Fs) (hm:Mut (H a)) (h:a ∉ Fs.flatten):RpL G (upd H a o) vs ts Fs :=
 r.keep (Kept.upd (.inl hm)) fun b hb o' ho=>by rw [aD (fun z=>h (by rw [← z];exact hb))];exact ho
theorem kx {v:Val} {t:T} (h:fit v=some t):v=(.fr,t):=by
 obtain ⟨m,x⟩:=v
 unfold fit at h
 cases m <;> first | (cases h;rfl) | cases h
theorem ma:vD G qM aJ:=by
 intro Φ η H H1 v t t' F l vs Fs x Q r nd A e k
 unfold aJ at e
 split at e
 ·rename_i ts y
  obtain ⟨z,ez,e1⟩:=Zz.mp e
  have ey:=kx ez
  subst ey
  split at e1
  ·rename_i hl
   cases e1
   obtain ⟨a,us,Gs,rfl,rfl,ha,ra⟩:=r.lst_inv
   obtain ⟨w,Fw,rfl,rfl,rw'⟩:=(show RpL G H1 vs [z] Fs from A.rp).one
   have fw:Fp Φ η H .fr Fw:=A.fp.each 0 _ _ rfl rfl
   have ha1:H1 a=some (.lst us):=A.same a _ ha
   have m1:Mut (H1 a):=by rw [ha1];exact True.intro
   have na:a ∉ Gs.flatten:=(Zd.mp nd).1
   have nw:a ∉ Fw:=fun z=>by rw [fw.2 a z] at ha;cases ha
   refine ⟨a,us,w,rfl,rfl,ha1,by rw [ra.len.1];exact hl,k _ _ (a :: (Gs++[Fw]).flatten) ?_⟩
   have off:∀ b∈Gs.flatten,b ∉ Fw:=fun b hb hw=>Mut.ne_none (ra.dom b hb) (fw.2 b hw)
   refine Chg.upd A.same Zx m1 (.lst aA (((ra.same A.same).off m1 na).append (.cons (rw'.keep (Kept.upd (.inl m1)) fun b hb o ho=>by rw [aD (fun z=>nw (by rw [← z];exact hb))];exact ho) .nil))) ?_ ?_
   ·rw [Yz]
    refine Zd.mpr ⟨fun m=>?_,ZO.mpr ⟨(Zd.mp nd).2,by simpa using fw.1,fun b hb c hc z=>?_⟩⟩
    ·rcases Zc.mp m with m | m
     ·exact na m
     ·exact nw (by simpa using m)
    ·subst z;exact off b hb (by simpa using hc)
   ·intro b hb
    rcases Zh.mp hb with rfl | hb
    ·exact .inl Zx
    ·rw [Yz] at hb
     rcases Zc.mp hb with hb | hb
     ·exact .inl (Zw _ hb)
     ·exact .inr (fw.2 b (by simpa using hb))
  ·cases e1
 ·cases e
theorem uG {H:Hp} {v:V} {ts:Wb} {F:Wm} (r:Rp G H v (.lst ts) F):tyV G.K "list" v H:=by
 obtain ⟨a,us,Gs,rfl,rfl,ha,ra⟩:=r.lst_inv
 exact .inl ⟨rfl,_,SqL.of ha⟩
theorem j9 {H:Hp} {v:V} {t:T} {F:Wm} {l:We} {z:T×Val} (r:Rp G H v t F) (h:aJ t l=some z):tyV G.K "list" v H:=by
 unfold aJ at h
 split at h
 ·exact uG r
 ·cases h
end
structure ItOk (G:Gx) (J:It) (l:Wb) (C:Wm) (H:Hp):Prop where
 run:∀ H2,Kept H H2->(∀ a∈C,∀ o,H a=some o->H2 a=some o) →
  (∀ (i:Nat) (t:T),l[i]?=some t->J.go i H2/\∀ x H3,J.yld i H2 x H3->aN H2 H3/\∃ F,Rp G H3 x t F/\∀ a∈F,a∈C\/H2 a=none)/\∀ (i:Nat),l.length<=i->J.stop i H2
 dom:∀ a∈C,H a ≠ none
noncomputable def FpC (Φ:Fps) (η:VS.Env) (H:Hp) (m:Md) (C:Wm):Prop:=∀ a∈C,H a=none\/dC Φ η a\/(m=.bo/\b9 Φ η a)
theorem Fp.c {Φ:Fps} {η:VS.Env} {H:Hp} {F:Wm}:∀ {m:Md},Fp Φ η H m F->FpC Φ η H m F
 | .fr,f=>fun a ha=>.inl (f.2 a ha)
 | .pu,f=>fun a ha=>(f a ha).imp id .inl
 | .bo,f=>fun a ha=>(f a ha).imp id fun z=>z.imp id fun z=>⟨rfl,z⟩
noncomputable def tI (G:Gx) (c:Its):TI:=fun σ H R=>∃ Φ η m l,SR G Φ η σ H/\c η=some (m,l)/\∀ J H' C,aN H H'->ItOk G J l C H'->FpC Φ η H m C->R J H'
noncomputable def PVI (G:Gx) (X:Cx) (tg iter:Expr) (c:Its):Prop:=PI X tg iter (tI G c)
theorem PI.weak {X:Cx} {tg e:Expr} {t t':TI} (h:PI X tg e t) (w:∀ σ H Q,t' σ H Q->t σ H Q):PI X tg e t':=fun pins s σ H Q I q=>h pins s σ H Q I (w σ H Q q)
section
variable {G:Gx} {X:Cx} {tg e a b:Expr} {es:List Expr} {ca cb:Ex} {cs:Exs} {pos p:Pos}
theorem oi (H:Hp) (lo:Int) (n:Nat):ItOk G (Itr lo n) (rng lo n) [] H:=by
 refine ⟨fun H2 _ _=>⟨fun i t h=>?_,fun i h=>(by simpa [rng] using h:n<=i)⟩,fun a h=>by simp at h⟩
 unfold rng at h
 rw [ZE] at h
 obtain ⟨k,hk,e⟩:=Zu.mp h
 obtain ⟨hlt,e2⟩:=ZZ.mp hk
 rw [ZF] at hlt
 have ek:i=k:=by simpa using e2
 subst ek
 refine ⟨hlt,fun x H3 ⟨e3,e4⟩=>?_⟩
 subst e3
 subst e4
 rw [← e]
 exact ⟨aN.refl _,[],.int _,fun a h=>by simp at h⟩
theorem d3 (ha:PV G X a ca) (hg:Gl X "range") (hm:X.mg "range" = none) (hs:starEach [a] X.env=(false,eval a X.env) :: starEach [] X.env:=by rfl) (hs':starEach [a] X.env=[(false,eval a X.env)]:=by rfl):PVI G X tg (.Call (.Name "range" p) [a] [] pos) (c6 ca) :=
 PI.weak (rW hg hm (fz ha jW hs) hs') fun σ H R hq=>by
  obtain ⟨Φ,η,m,l,s,e,k⟩:=hq
  unfold c6 at e
  obtain ⟨⟨mx,x⟩,ea,e1⟩:=Zz.mp e
  obtain ⟨j,ej,e2⟩:=Zz.mp e1
  split at e2
  ·rename_i hj
   cases e2
   refine ⟨Φ,η,mx,x,s,ea,fun v H' F e3 r3 f3=>?_⟩
   cases x with
   | int j' =>
    cases ej
    refine ⟨j,by rw [r3.int_inv],?_,?_,k _ H' [] e3 (oi H' 0 j.toNat) fun a h=>by simp at h⟩
    ·have:=hj.1;unfold B62 at this;lia
    ·have:=hj.2;unfold B62 at this;lia
   | _=>cases ej
  ·cases e2
theorem lP (ha:PV G X a ca) (hb:PV G X b cb) (hg:Gl X "range") (hm:X.mg "range" = none) (hs:starEach [a,b] X.env=(false,eval a X.env) :: starEach [b] X.env:=by rfl) (hs':starEach [a,b] X.env=[(false,eval a X.env),(false,eval b X.env)]:=by rfl) (hs1:starEach [b] X.env=(false,eval b X.env) :: starEach [] X.env:=by rfl) (hs2:starEach [b] X.env=[(false,eval b X.env)]:=by rfl) :
  PVI G X tg (.Call (.Name "range" p) [a,b] [] pos) (iN ca cb) :=
 PI.weak (sZ hg hm (fz ha (fz hb jW hs1) hs) hs' hs2) fun σ H R hq=>by
  obtain ⟨Φ,η,m,l,s,e,k⟩:=hq
  unfold iN at e
  obtain ⟨⟨mx,x⟩,ea,e1⟩:=Zz.mp e
  obtain ⟨⟨my,y⟩,eb,e1⟩:=Zz.mp e1
  obtain ⟨i,ei,e2⟩:=Zz.mp e1
  obtain ⟨j,ej,e2⟩:=Zz.mp e2
  split at e2
  ·rename_i hj
   cases e2
   refine ⟨Φ,η,mx,x,s,ea,fun v H' F e3 r3 f3=>⟨Φ,η,my,y,s.same e3,eb,fun w H2 F2 e4 r4 f4=>?_⟩⟩
   cases x with
   | int i' =>
    cases ei
    cases y with
    | int j' =>
     cases ej
     refine ⟨i,j,by rw [r3.int_inv,r4.int_inv],?_,k _ H2 [] (e3.trans e4) (oi H2 i (j - i).toNat) fun a h=>by simp at h⟩
     unfold B62 at hj
     omega
    | _=>cases ej
   | _=>cases ei
  ·cases e2
theorem cV {Fs:Xg} {i:Nat} {F:Wm} (h:Fs[i]?=some F) {a:Addr} (ha:a∈F):a∈Fs.flatten:=(dg h).subset ha
theorem yc {H:Hp} {a:Addr} {vs:List V} {ts:Wb} {Fs:Xg} (K:Xd) (ha:H a=some (.lst vs)) (r:RpL G H vs ts Fs):ItOk G (Itl K a) ts (a :: Fs.flatten) H:=by
 refine ⟨fun H2 k c=>?_,fun b hb=>?_⟩
 ·have ha2:H2 a=some (.lst vs):=c a Zx _ ha
  have r2:RpL G H2 vs ts Fs:=r.keep k fun b hb o ho=>c b (Zw _ hb) o ho
  refine ⟨fun i t h=>?_,fun i h=>⟨vs,SqL.of ha2,by rw [r.len.1];exact h⟩⟩
  obtain ⟨v,F,h1,h2,h3⟩:=r2.get i h
  refine ⟨⟨vs,v,SqL.of ha2,h1⟩,fun x H3 ⟨e1,e2⟩=>?_⟩
  subst e1
  have ex:=e2 vs (SqL.of ha2)
  rw [h1] at ex
  cases ex
  exact ⟨aN.refl _,F,h3,fun b hb=>.inl (Zw _ (cV h2 hb))⟩
 ·rcases Zh.mp hb with rfl | hb
  ·rw [ha];exact fun z=>nomatch z
  ·exact Mut.ne_none (r.dom b hb)
theorem Bn {H:Hp} {a:Addr} {vs:List V} {ts:Wb} {Fs:Xg} (K:Xd) (ha:H a=some (.tup vs)) (r:RpL G H vs ts Fs):ItOk G (Itt K a) ts Fs.flatten H:=by
 refine ⟨fun H2 k c=>?_,fun b hb=>Mut.ne_none (r.dom b hb)⟩
 have ha2:H2 a=some (.tup vs):=k.tup a _ ha
 have r2:RpL G H2 vs ts Fs:=r.keep k fun b hb o ho=>c b hb o ho
 refine ⟨fun i t h=>?_,fun i h=>⟨vs,SqT.of ha2,by rw [r.len.1];exact h⟩⟩
 obtain ⟨v,F,h1,h2,h3⟩:=r2.get i h
 refine ⟨⟨vs,v,SqT.of ha2,h1⟩,fun x H3 ⟨e1,e2⟩=>?_⟩
 subst e1
 have ex:=e2 vs (SqT.of ha2)
 rw [h1] at ex
 cases ex
 exact ⟨aN.refl _,F,h3,fun b hb=>.inl (cV h2 hb)⟩
noncomputable def tG (G:Gx) (g:Tg):TG:=fun v σ H Q=>∃ Φ η t F η',SR G Φ η σ H/\Rp G H v t F/\(∀ a∈F,¬ b9 Φ η a)/\g t η=some η' ∧
 ∀ Φ' σ',SR G Φ' η' σ' H->(∀ a,b9 Φ' η' a->b9 Φ η a)->(∀ a,dC Φ' η' a->dC Φ η a\/a∈F)->Q σ' H
noncomputable def tGs (G:Gx) (gs:List Tg):TGs:=fun vs σ H Q=>∃ Φ η ts Fs η',SR G Φ η σ H/\RpL G H vs ts Fs/\(∀ a∈Fs.flatten,¬ b9 Φ η a)/\ql gs ts η=some η' ∧
 ∀ Φ' σ',SR G Φ' η' σ' H->(∀ a,b9 Φ' η' a->b9 Φ η a)->(∀ a,dC Φ' η' a->dC Φ η a\/a∈Fs.flatten)->Q σ' H
noncomputable def PVG (G:Gx) (X:Cx) (e:Expr) (g:Tg):Prop:=PG X e (tG G g)
noncomputable def xi (G:Gx) (X:Cx) (e:List Expr) (g:List Tg):Prop:=PGs X e (tGs G g)
theorem PG.weak {X:Cx} {e:Expr} {t t':TG} (h:PG X e t) (w:∀ v σ H Q,t' v σ H Q->t v σ H Q):PG X e t':=fun pins s σ H v u Q I r q=>h pins s σ H v u Q I r (w v σ H Q q)
theorem PGs.weak {X:Cx} {e:List Expr} {t t':TGs} (h:PGs X e t) (w:∀ v σ H Q,t' v σ H Q->t v σ H Q):PGs X e t':=fun pins s σ H v u Q I r q=>h pins s σ H v u Q I r (w v σ H Q q)
theorem aX (i:Nat) {x:Str} (hN:X.N.Nodup) (hi:X.N[i]?=some x:=by rfl) (hx:Loc X.env.scope x:=by first | exact Or.inl rfl | exact Or.inr rfl)
  (hf:X.fn x=true\/X.env.scope.names.lookup x=some .local:=by first | exact .inl rfl | exact .inr rfl):PVG G X (.Name x pos) (bF i):=PG.weak (xA hN hi hx hf) fun v σ H Q hq=>by
 obtain ⟨Φ,η,t,F,η',s,r,no,e,k⟩:=hq
 unfold bF at e
 split at e
 ·rename_i hl
  cases e
  refine k (kj Φ i F) (σ.set i (some v)) (s.put (c:=.pu t) hl r (fun j c' n hj w q=>q) (fun u hu=>nomatch hu) (fun u hu=>nomatch hu) fun j u n hj a ha ha'=>no a ha' ⟨j,u,hj,ha⟩) (fun a h=>?_) fun a h=>?_
  ·rcases lF h with ⟨u,hu,_⟩ | z
   ·cases hu
   ·exact z
  ·rcases pO h with ⟨u,hu,ha⟩ | z
   ·exact .inr ha
   ·exact .inl z
 ·cases e
theorem oH:xi G X [] []:=PGs.weak yn fun v σ H Q hq=>by
 obtain ⟨Φ,η,ts,Fs,η',s,r,no,e,k⟩:=hq
 cases r with
 | nil =>
  cases (show some η=some η' from e)
  exact ⟨rfl,k Φ σ s (fun _ h=>h) fun _ h=>.inl h⟩
 | cons r q=>cases (show (none:Option VS.Env)=some η' from e)
theorem iO {g:Tg} {gs:List Tg} (h1:PVG G X e g) (h2:xi G X es gs) (hs:(assignEach (e :: es) X.env).map (·.2)=assign e X.env :: (assignEach es X.env).map (·.2):=by rfl):xi G X (e :: es) (g :: gs) :=
 PGs.weak (uj h1 h2 hs) fun v σ H Q hq=>by
  obtain ⟨Φ,η,ts,Fs,η',s,r,no,e,k⟩:=hq
  cases r with
  | nil=>cases (show (none:Option VS.Env)=some η' from e)
  | cons r q =>
   rename_i v' t' F' vs' ts' Fs'
   obtain ⟨η1,e1,e2⟩:=Zz.mp e
   refine ⟨_,_,rfl,Φ,η,_,_,η1,s,r,fun a ha=>no a (by rw [ZU];exact Z7 _ ha),e1,fun Φ1 σ1 s1 o1 p1=>?_⟩
   refine ⟨Φ1,η1,_,_,η',s1,q,fun a ha z=>no a (by rw [ZU];exact ZX _ ha) (o1 a z),e2,fun Φ2 σ2 s2 o2 p2=>k Φ2 σ2 s2 (fun a h=>o1 a (o2 a h)) fun a h=>?_⟩
   rcases p2 a h with h | h
   ·rcases p1 a h with h | h
    ·exact .inl h
    ·exact .inr (by rw [ZU];exact Z7 _ h)
   ·exact .inr (by rw [ZU];exact ZX _ h)
theorem oN:∀ {gs:List Tg} {ts:Wb} {η η':VS.Env},ql gs ts η=some η'->ts.length=gs.length
 | [],[],_,_,_=>rfl
 | [],_ :: _,_,_,h=>by simp [ql] at h
 | _ :: _,[],_,_,h=>by simp [ql] at h
 | g :: gs,t :: ts,η,η',h=>by
  obtain ⟨η1,_,e2⟩:=Zz.mp (show (g t η).bind (fun η'=>ql gs ts η')=some η' from h)
  simp [oN e2]
theorem rL {gs:List Tg} {k:Nat} (hc:X.calm=true) (h:xi G X es gs) (hn:(assignEach es X.env).length=gs.length:=by rfl) (hst:(assignEach es X.env).findIdx? (·.1)=none:=by rfl) (hK:X.K=G.K:=by rfl):PVG G X (.Tuple es k pos) (nX gs) :=
 PG.weak (AD (n:=gs.length) hc h hn hst) fun v σ H Q hq=>by
  obtain ⟨Φ,η,t,F,η',s,r,no,e,q⟩:=hq
  unfold nX at e
  split at e
  ·rename_i l
   obtain ⟨a',vs,Fs,rfl,rfl,ha',ra⟩:=r.tup_inv
   exact ⟨a',vs,rfl,SqT.of ha',by rw [ra.len.1];exact oN e,Φ,η,l,Fs,η',s,ra,no,e,q⟩
  ·cases e
theorem mH {tgt:Tg} {body:Sx} {l:Wb} {η:VS.Env} {i:Nat} {t:T} (h:l[i]?=some t):l.drop i=t :: l.drop (i+1):=by
 obtain ⟨hi,e⟩:=ZZ.mp h
 rw [← e]
 exact List.drop_eq_getElem_cons hi
theorem zY {ci:Its} {g:Tg} {cb:Sx} {D:Ends} {σ:L2.St} {H:Hp} (hq:tS G (fJ g ci cb) D σ H):BS (tI G ci) (tG G g) (tS G cb) D σ H:=by
 obtain ⟨Φ,η,o,s,e,k⟩:=hq
 unfold fJ at e
 obtain ⟨⟨m,l⟩,el,e1⟩:=Zz.mp e
 dsimp only at e1
 split at e1
 ·rename_i hm
  have hm':m ≠ .bo:=fun z=>by rw [z] at hm;cases hm
  refine ⟨Φ,η,m,l,s,el,fun J H' C e2 ok fc=>?_⟩
  have cno:∀ a∈C,¬ b9 Φ η a:=fun a ha z=>by
   rcases fc a ha with q | q | q
   ·exact Mut.ne_none (s.ow_dom z) q
   ·exact s.ow_pu z q
   ·exact hm' q.1
  refine ⟨fun i n σ2 H2=>n=l.length - i/\∃ Φ2 η2,SR G Φ2 η2 σ2 H2/\Frm Φ η H Φ2 η2 H2/\Kept H' H2/\(∀ a∈C,∀ o,H' a=some o->H2 a=some o/\¬ b9 Φ2 η2 a)/\forL g cb (l.drop i) η2=some o,
   ⟨l.length - 0,rfl,Φ,η,s.same e2,Frm.same e2,Kept.refl _,fun a ha o' ho=>⟨ho,cno a ha⟩,by rw [List.drop_zero];exact e1⟩,?_⟩
  rintro i n σ2 H2 ⟨rfl,Φ2,η2,s2,f2,kp,con,e3⟩
  obtain ⟨go,stop⟩:=ok.run H2 kp fun a ha o' ho=>(con a ha o' ho).1
  cases hit:l[i]? with
  | none =>
   have hl:l.length<=i:=Yp.mp hit
   left
   rw [YH hl] at e3
   cases (show some (Out.nx η2)=some o from e3)
   exact ⟨stop i hl,k Φ2 σ2 H2 s2 f2⟩
  | some t =>
   have hl:i < l.length:=(ZZ.mp hit).1
   right
   obtain ⟨g1,y1⟩:=go i t hit
   rw [mH (tgt:=g) (body:=cb) (η:=η2) hit] at e3
   obtain ⟨η3,e4,e5⟩:=Zz.mp (show (g t η2).bind (fun η1=>(cb η1).bind fun o=>match o with
    | .nx η2=>forL g cb (l.drop (i+1)) η2
    | .ct η2=>forL g cb (l.drop (i+1)) η2
    | .bk η2=>some (.nx η2)
    | .rt v η2=>some (.rt v η2))=some o from e3)
   obtain ⟨o',e6,e7⟩:=Zz.mp e5
   refine ⟨g1,fun σ4 H4=>∃ Φ4 η4,SR G Φ4 η4 σ4 H4/\Frm Φ η H Φ4 η4 H4/\Kept H' H4/\(∀ a∈C,∀ o,H' a=some o->H4 a=some o/\¬ b9 Φ4 η4 a)/\forL g cb (l.drop (i+1)) η4=some o,fun σ4 H4 ⟨Φ4,η4,q⟩=>⟨l.length - (i+1),by omega,rfl,Φ4,η4,q⟩,fun x H3 yl=>?_⟩
   obtain ⟨e8,F,rF,hF⟩:=y1 x H3 yl
   have s3:=s2.same e8
   have noF:∀ a∈F,¬ b9 Φ2 η2 a:=fun a ha z=>by
    rcases hF a ha with q | q
    ·have hne:=ok.dom a q
     cases ho:H' a with
     | none=>exact hne ho
     | some o''=>exact (con a q o'' ho).2 z
    ·exact Mut.ne_none (s2.ow_dom z) q
   refine ⟨Φ2,η2,t,F,η3,s3,rF,noF,e4,fun Φ3 σ3 s4 o3 p3=>?_⟩
   have f3:Frm Φ η H Φ3 η3 H3:=⟨fun a o' h n=>let ⟨h1,n1⟩:=f2.keep a o' h n;⟨e8 a o' h1,fun z=>n1 (o3 a z)⟩,fun a h z=>f2.dom a h (e8.free z),fun a h=>f2.ow a (o3 a h),fun a h=>by
    rcases p3 a h with h | h
    ·exact f2.pu a h
    ·rcases hF a h with q | q
     ·rcases fc a q with q | q | q
      ·exact .inr (.inr q)
      ·exact .inl q
      ·exact .inr (.inl q.2)
     ·exact .inr (.inr (f2.none q)),f2.kept.trans (Kept.of e8)⟩
   have next:∀ {Φ4 η4 H4},Frm Φ3 η3 H3 Φ4 η4 H4->Kept H' H4/\∀ a∈C,∀ o,H' a=some o->H4 a=some o/\¬ b9 Φ4 η4 a:=fun fb =>
    ⟨(kp.trans (Kept.of e8)).trans fb.kept,fun a ha o' ho=>by
     obtain ⟨h1,n1⟩:=con a ha o' ho
     exact fb.keep a o' (e8 a o' h1) fun z=>n1 (o3 a z)⟩
   refine ⟨Φ3,η3,o',s4,e6,?_⟩
   cases o' with
   | nx η4=>exact fun Φ4 σ4 H4 s5 fb=>⟨Φ4,η4,s5,f3.trans fb,(next fb).1,(next fb).2,e7⟩
   | ct η4=>exact fun Φ4 σ4 H4 s5 fb=>⟨Φ4,η4,s5,f3.trans fb,(next fb).1,(next fb).2,e7⟩
   | bk η4 =>
    cases (show some (Out.nx η4)=some o from e7)
    exact fun Φ4 σ4 H4 s5 fb=>k Φ4 σ4 H4 s5 (f3.trans fb)
   | rt v η4 =>
    cases (show some (Out.rt v η4)=some o from e7)
    exact fun u H4 F4 Φ4 σ4 s5 fb r5 q5=>k u H4 F4 Φ4 σ4 s5 (f3.trans fb) r5 (q5.back f3)
 ·cases e1
theorem c7 {iter:Expr} {body:List Stmt} {ci:Its} {g:Tg} {cb:Sx} (hp:PassesOwn (model X.prog X.w) X.A X.env X.xe) (hc:X.calm=true) (hi:PVI G X tg iter ci) (hg:PVG G X tg g) (hb:ip G X body cb)
  (hs:∀ x,foldedSetIterable iter X.env x=pure x:=by intro _;rfl):PSV G X (.For tg iter body [] pos) (fJ g ci cb):=PS.weak (A7 hp hc hi hg hb hs) fun D σ H hq=>zY hq
end
noncomputable def Di (H:Hp) (Fs:Xg):Md->Wm->Prop
 | .fr,F=>F.Nodup/\∀ a∈F,H a=none
 | _,F=>∀ a∈F,H a=none\/a∈Fs.flatten
noncomputable def spF (G:Gx) (g:Fn):Sp:=fun vs H Q _=>∃ ts Fs m r,RpL G H vs ts Fs/\g ts=some (m,r)/\∀ v H' F,aN H H'->Rp G H' v r F->Di H Fs m F->Q v H'
section
variable {G:Gx} {X:Cx} {k:Nat} {f:Addr} {fd:FuncData} {ps:List Str} {x:Str} {p pos:Pos} {e:Expr} {es:List Expr} {cs:Exs} {g:Fn}
theorem call_of {σ:L2.St} {H:Hp} {Q:VK} {E:XK} (h:tE G (aL g cs) σ H Q):yR (spF G g) [] E (tEs G cs) σ H Q:=by
 obtain ⟨Φ,η,m,t,s,e,kk⟩:=h
 unfold aL at e
 obtain ⟨l,el,e1⟩:=Zz.mp e
 obtain ⟨⟨n,r⟩,er,e2⟩:=Zz.mp e1
 refine ⟨Φ,η,l,s,el,fun vs H1 Fs q1 q2 q3=>?_⟩
 have A:Args G Φ η H H1 l vs Fs:=⟨q1,q2,q3⟩
 have jn:=q3.join A.len
 show spF G g (vs++[]) H1 Q E
 rw [ZP]
 refine ⟨trees l,Fs,n,r,q2,er,fun v H' F q4 q5 q6=>?_⟩
 have wide:(∀ a∈F,H1 a=none\/a∈Fs.flatten)->Fp Φ η H ((Md.pu).join (cp l)) F:=fun h=>by
  cases ej:cp l with
  | fr =>
   rw [ej] at jn
   exact fun a ha=>.inl ((h a ha).elim q1.free (jn.2 a))
  | pu =>
   rw [ej] at jn
   exact fun a ha=>(h a ha).elim (fun z=>.inl (q1.free z)) (jn a)
  | bo =>
   rw [ej] at jn
   exact fun a ha=>(h a ha).elim (fun z=>.inl (q1.free z)) (jn a)
 cases n with
 | fr =>
  cases e2
  exact kk v H' F (q1.trans q4) q5 ⟨q6.1,fun a ha=>q1.free (q6.2 a ha)⟩
 | pu =>
  cases e2
  exact kk v H' F (q1.trans q4) q5 (wide q6)
 | bo =>
  cases e2
  exact kk v H' F (q1.trans q4) q5 (wide q6)
theorem xq (F:FnOk X.prog X.w X.K X.mg X.base CX0 k f fd ps (spF G g)) (hr:Room k X.A) (hg:Gl X x) (hm:X.mg x=some (.ref f)) (hk:PySem.W.keepIn X.K (.ref f)=true) (hb:Binds X.K fd ps [])
  (ha:PVs G X (e :: es) cs) (hdb:(x == ("__debug__" : Str))=false:=by decide) (he:starEach (e :: es) X.env=(false,eval e X.env) :: starEach es X.env:=by rfl) (hpl:(backTo pos (starEach es X.env)).any (·.1)=false:=by rfl) :
  PV G X (.Call (.Name x p) (e :: es) [] pos) (aL g cs) :=
 PE.weak (xw F hr hg hm hk hb .nil kf ha hdb he hpl) fun σ H Q h=>call_of h
theorem vS {H:Hp} {vs:List V} {ts:Wb} {Fs:Xg} (r:RpL G H vs ts Fs) (n nv:Nat) (hv:nv=vs.length):SR G (fun i=>Fs.getD i []) (ts.map (fun t=>some (.pu t))++List.replicate (n - ts.length) none) (vs.map some++List.replicate (n - nv) none) H:=by
 subst hv
 have hl:=r.len
 have back:∀ {i:Nat} {c:Cell},(ts.map (fun t=>some (Cell.pu t))++List.replicate (n - ts.length) none)[i]?=some (some c)->∃ t,ts[i]?=some t/\c=.pu t:=fun {i c} h=>by
  by_cases hi:i < ts.length
  ·rw [Z3 (by rw [Zv];exact hi),ZE] at h
   obtain ⟨t,h1,h2⟩:=Zu.mp h
   exact ⟨t,h1,(Zn h2).symm⟩
  ·rw [Yw (by rw [Zv];exact ZD hi),Yb] at h
   split at h <;> cases h
 refine ⟨by simp;lia,fun i c h=>?_,fun i t h=>?_,fun i j t c h=>?_⟩
 ·obtain ⟨t,h1,rfl⟩:=back h
  obtain ⟨v,F,g1,g2,g3⟩:=r.get i h1
  refine ⟨v,?_,?_⟩
  ·have:i < vs.length:=(ZZ.mp g1).1
   rw [Z3 (by rw [Zv];exact this),ZE,g1]
   rfl
  ·show Rp G H v t (Fs.getD i [])
   rw [Zq,g2]
   exact g3
 ·obtain ⟨t',_,h2⟩:=back h
  cases h2
 ·obtain ⟨t',_,h2⟩:=back h
  cases h2
theorem hV {ts:Wb} {n:Nat} {Φ:Fps} {a:Addr}:¬ b9 Φ (ts.map (fun t=>some (Cell.pu t))++List.replicate n none) a:=by
 rintro ⟨i,t,h,_⟩
 by_cases hi:i < ts.length
 ·rw [Z3 (by rw [Zv];exact hi),ZE] at h
  obtain ⟨t',_,h2⟩:=Zu.mp h
  cases h2
 ·rw [Yw (by rw [Zv];exact ZD hi),Yb] at h
  split at h <;> cases h
theorem pq {H:Hp} {vs:List V} {ts:Wb} {Fs:Xg} {n:Nat} {a:Addr} (h:dC (fun i=>Fs.getD i []) (ts.map (fun t=>some (Cell.pu t))++List.replicate n none) a):a∈Fs.flatten:=by
 obtain ⟨i,t,_,h2⟩:=h
 simp only [Zq] at h2
 cases e:Fs[i]? with
 | none=>rw [e] at h2;simp at h2
 | some F=>rw [e] at h2;exact cV e h2
end
section
variable {G:Gx} {P:Program} {w:World} {K:Xd} {mg:Wx} {base:Heap}
theorem fnV {x qual:Str} {st:Stmt} {f:Addr} {fd:FuncData} {N ps:List Str} {k np nn:Nat} {c:Sx} (F:Fun K x qual st f fd) (S:FnScope N ps (aj st)) (hp:ps.length=np) (hn:N.length=nn)
  (hb:∀ (cdv:Value) (A:Around) (outer:List PySem.Env) (s:Shared) (H:Hp) (E:XK),Room k (A.deeper (envOfC qual (aj st) s.heap.objs.size f cdv))->ip G (iP CX0 P w K mg base N qual (aj st) f cdv A outer s H E).nox (bf st) c) :
  FnOk P w K mg base CX0 (k+1) f fd ps (spF G (fn np nn c)):=by
 refine F.ok S (fun vs H Q E h=>?_) fun cdv A outer s H vs Q E hr h=>⟨_,hb cdv A outer s H E hr,?_⟩
 ·obtain ⟨ts,Fs,m,r,h1,h2,_⟩:=h
  unfold fn at h2
  split at h2
  ·rename_i hl
   rw [h1.len.1,hl,hp]
  ·cases h2
 ·obtain ⟨ts,Fs,m,r,h1,h2,q⟩:=h
  unfold fn at h2
  split at h2
  ·rename_i hl
   obtain ⟨o,e1,e2⟩:=Zz.mp h2
   have s0:=vS h1 nn vs.length rfl
   rw [hl] at s0
   have e3:L2.start N vs=vs.map some++List.replicate (nn - vs.length) none:=by
    unfold L2.start
    rw [hn]
   rw [e3]
   refine ⟨_,_,o,s0,e1,?_⟩
   cases o with
   | nx η' =>
    cases e2
    intro Φ' σ' H' s' fr
    exact q .non H' [] (fun a o h=>(fr.keep a o h hV).1) .non ⟨Yd,fun a h=>by simp at h⟩
   | rt v η' =>
    cases e2
    intro u H' F' Φ' σ' s' fr r' rf
    refine q u H' F' (fun a o h=>(fr.keep a o h hV).1) r' ?_
    cases m with
    | fr=>exact ⟨rf.1,fun a ha=>(rf.2 a ha).elim id fun z=>absurd z hV⟩
    | pu=>exact fun a ha=>(rf a ha).elim .inl fun z=>z.elim (fun z=>.inr (pq (H:=H) (vs:=vs) z)) fun z=>absurd z hV
    | bo=>exact fun a ha=>(rf a ha).elim .inl fun z=>z.elim (fun z=>.inr (pq (H:=H) (vs:=vs) z)) fun z=>absurd z hV
   | bk η'=>cases e2
   | ct η'=>cases e2
  ·cases h2
end
end VS
end
section
namespace L2
open PySem PySem.Spec PyProof.Rows
theorem jV (env:Env):∀ (l:List (Str×NameKind)) (acc:List (Str×Addr)),(∀ y∈l,y.2=.free->∃ c,env.cells.lookup y.1=some c)->(∀ x c,acc.lookup x=some c->env.cells.lookup x=some c) →
  ∃ cl,(forIn l acc (fun x r=>if (x.snd == NameKind.free)=true then (do let a ← cellOf env x.fst;pure (ForInStep.yield ((x.fst,a) :: r))) else pure (ForInStep.yield r)):Sem (List (Str×Addr)))=pure cl ∧
   (∀ x c,cl.lookup x=some c->env.cells.lookup x=some c)/\(∀ x c,acc.lookup x=some c->∃ c',cl.lookup x=some c')/\∀ y∈l,y.2=.free->∃ c,cl.lookup y.1=some c
 | [],acc,_,ha=>⟨acc,rfl,ha,fun x c h=>⟨c,h⟩,fun y hy=>nomatch hy⟩
 | (n,k) :: l,acc,hf,ha=>by
  by_cases hk:k=.free
  ·subst hk
   obtain ⟨c,hc⟩:=hf (n,.free) Zx rfl
   have ec:cellOf env n=pure c:=by unfold cellOf;dsimp only at hc;rw [hc]
   have ha':∀ x c',((n,c) :: acc).lookup x=some c'->env.cells.lookup x=some c':=fun x c' h=>by
    rw [Yt] at h
    split at h
    ·rename_i hx
     have:x=n:=by simpa using hx
     rw [this,← h];exact hc
    ·exact ha x c' h
   obtain ⟨cl,h1,h2,h3,h4⟩:=jV env l ((n,c) :: acc) (fun y hy=>hf y (Zw _ hy)) ha'
   refine ⟨cl,?_,h2,fun x c' h=>?_,fun y hy hyf=>?_⟩
   ·rw [List.forIn_cons]
    dsimp only
    rw [Zr (show (NameKind.free == NameKind.free)=true from rfl),ec,pure_bind,pure_bind]
    exact h1
   ·by_cases hx:x=n
    ·exact h3 x c (by rw [Yt,hx];simp)
    ·refine h3 x c' ?_
     rw [Yt]
     have:(x == n)=false:=by simpa using hx
     rw [this];exact h
   ·rcases Zh.mp hy with rfl | hy
    ·exact h3 n c (by rw [Yt];simp)
    ·exact h4 y hy hyf
  ·obtain ⟨cl,h1,h2,h3,h4⟩:=jV env l acc (fun y hy=>hf y (Zw _ hy)) ha
   refine ⟨cl,?_,h2,h3,fun y hy hyf=>?_⟩
   ·rw [List.forIn_cons]
    dsimp only
    rw [Zo (by simpa using hk),pure_bind]
    exact h1
   ·rcases Zh.mp hy with rfl | hy
    ·exact absurd hyf hk
    ·exact h4 y hy hyf
theorem yE {sc:Scope} {env:Env} (hf:∀ y∈sc.names,y.2=.free->∃ c,env.cells.lookup y.1=some c) :
  ∃ cl,closureFor sc env=pure cl/\(∀ x c,cl.lookup x=some c->env.cells.lookup x=some c)/\∀ y∈sc.names,y.2=.free->∃ c,cl.lookup y.1=some c:=by
 obtain ⟨cl,h1,h2,_,h4⟩:=jV env sc.names [] hf (fun x c h=>nomatch h)
 refine ⟨cl,?_,h2,h4⟩
 simp only [closureFor]
 rw [h1]
 rfl
theorem gj {l:List (Str×NameKind)} {x:Str} {k:NameKind} (h:l.lookup x=some k):(x,k)∈l:=by
 induction l with
 | nil=>cases h
 | cons p l ih =>
  rw [Yt] at h
  split at h
  ·rename_i hx
   have e:x=p.1:=by simpa using hx
   cases h
   rw [e];exact Zx
  ·exact Zw _ (ih h)
theorem cZ {env:Env} {x:Str} {k:NameKind}:∀ {l:List (Str×NameKind)},(l.map fun (n,k)=>if (k == NameKind.free && env.scope.kind == .function && env.kindOf n == some .cell) then (n,NameKind.cell) else (n,k)).lookup x=some k →
  ∃ k0,l.lookup x=some k0/\(k=k0\/(k0=.free/\k=.cell))
 | [],h=>nomatch h
 | (n,k1) :: l,h=>by
  rw [Zs,Yt] at h
  by_cases hc:(k1 == NameKind.free && env.scope.kind == .function && env.kindOf n == some .cell)=true
  ·simp only [hc,if_true] at h
   rw [Yt]
   cases hx:x == n with
   | true =>
    rw [hx] at h
    have:k1=.free:=by
     have:=(Xn.mp (Xn.mp hc).1).1
     simpa using this
    exact ⟨k1,rfl,.inr ⟨this,(Zn h).symm⟩⟩
   | false=>rw [hx] at h;exact cZ h
  ·simp only [hc,if_false,Yj] at h
   rw [Yt]
   cases hx:x == n with
   | true=>rw [hx] at h;exact ⟨k1,rfl,.inl (Zn h).symm⟩
   | false=>rw [hx] at h;exact cZ h
noncomputable def fh (X:Cx) (N:List Str) (sc:Scope) (cl:List (Str×Addr)) (C:Addr) (s:Shared) (H:Hp) (fp:Wm):Cx :=
 { X with N:=N,s₀:=s,H₀:=H,env:=compEnvC sc cl C X.env,outer:=X.stack,ex:=fp,fn:=fun _=>false,pn:=[],xe:=fun _ _=>False }
noncomputable def qr (env:Env) (sc:Scope):Bool:=sc.kind == .function && sc.names.all fun y=>match y.2 with
 | .cell=>false
 | .local=>sc.names.lookup y.1 == some .local
 | .free=>env.kindOf y.1 == some .cell || env.kindOf y.1 == some .free
 | _=>true
noncomputable def lV (sc:Scope):List Str->List Str->Bool
 | [],[]=>true
 | a :: as,b :: bs=>((a == b && sc.names.lookup a == some .free) || sc.names.lookup a == none || sc.names.lookup a == some .globalImplicit) && lV sc as bs
 | _,_=>false
theorem rl {sc:Scope}:∀ {as bs:List Str},lV sc as bs=true->as.length=bs.length/\∀ (i:Nat) (x:Str),as[i]?=some x->(bs[i]?=some x/\sc.names.lookup x=some .free)\/sc.names.lookup x=none\/sc.names.lookup x=some .globalImplicit
 | [],[],_=>⟨rfl,fun i x h=>by simp at h⟩
 | a :: as,b :: bs,h=>by
  simp only [lV,ZY] at h
  obtain ⟨h1,h2⟩:=h
  obtain ⟨l,r⟩:=rl h2
  refine ⟨by simp [l],fun i x e=>?_⟩
  cases i with
  | zero =>
   have:a=x:=by simpa using e
   subst this
   simp only [Bool.or_eq_true,ZY] at h1
   rcases h1 with (⟨z1,z2⟩ | z) | z
   ·exact .inl ⟨by simpa using (by simpa using z1:a=b).symm,by simpa using z2⟩
   ·exact .inr (.inl (by simpa using z))
   ·exact .inr (.inr (by simpa using z))
  | succ i=>simpa using r i x (by simpa using e)
 | [],_ :: _,h=>by simp [lV] at h
 | _ :: _,[],h=>by simp [lV] at h
section
variable {X:Cx} {pins:Xq} {σ:St} {H:Hp} {s:Shared}
theorem Inv.block {N:List Str} {sc:Scope} {cl:List (Str×Addr)} {C D:Addr} {fp:Wm} {k:Nat} {h1:Heap} {t:Nat} {m:Wx} (I:Inv X pins σ H s) (hsc:qr X.env sc=true) (hnm:lV sc (N.drop k) X.N=true) (hNl:k<=N.length)
  (hc1:∀ x c,cl.lookup x=some c->X.env.cells.lookup x=some c) (hc2:∀ y∈sc.names,y.2=.free->∃ c,cl.lookup y.1=some c) (hfp:∀ b∈fp,lZ X pins H b) (hD:s.heap.objs.size<=D) (hC:s.heap.objs.size<=C) (hDC:D ≠ C) (hfC:C ∉ fp)
  (keep:∀ b u,s.heap.get? b=some u->h1.get? b=some u) (hns:h1.Ns C m) (hDo:h1.get? D=some { cls:=.type "list",data:=.seq ([]:Wk).toArray 0 }) :
  Inv (fh X N sc cl C s H fp) [] (List.replicate k none++σ) (upd H D (.lst [])) { s with heap:=h1,toks:=t }:=by
 unfold qr at hsc
 rw [ZY,YJ] at hsc
 obtain ⟨hk,hall⟩:=hsc
 have hkind:sc.kind=.function:=by simpa using hk
 obtain ⟨hlen,hat⟩:=rl hnm
 have hcell:∀ y∈sc.names,y.2 ≠ .cell:=fun y hy e=>by have:=hall y hy;rw [e] at this;cases this
 have frees:∀ x k',(relabel sc X.env).names.lookup x=some k'->k'=.cell\/k'=.free->sc.names.lookup x=some .free:=fun x k' h hk'=>by
  obtain ⟨k0,h0,hk0⟩:=cZ h
  rcases hk0 with e | ⟨e,_⟩
  ·subst e
   rcases hk' with e | e
   ·subst e;exact absurd rfl (hcell _ (gj h0))
   ·subst e;exact h0
  ·subst e;exact h0
 have hHD:H D=none:=I.hok.fresh hD
 have hHC:H C=none:=I.hok.fresh hC
 refine ⟨⟨I.mod,hkind,I.ok.glob,I.ok.blt,hC,fun x y c e1 e2=>I.ok.inj x y c (hc1 x c e1) (hc1 y c e2),fun x hx=>?_,fun x c e=>(nomatch e),I.ok.hd,I.ok.frames,.inl rfl,fun b hb=>⟨fun (e:b=C)=>hfC (e ▸ hb),fun x c e=>(hfp b hb).2.2.2.2.1 x c (hc1 x c e)⟩,
  I.bs,ZW I.ok.bsz I.sz,fun b o e hb=>?_,fun b hb hb'=>?_,I.stack,I.stkFree⟩,rfl,I.bare,Un.laid keep hD hHD,⟨m,hns,fun i x v e1 e2 e3=>?_⟩,fun x c e=>?_,?_,fun x c e=>?_,fun p hp=>(nomatch hp),I.hok.laid keep hD ?_,?_⟩
 ·have h:∃ k',(relabel sc X.env).names.lookup x=some k'/\(k'=.cell\/k'=.free):=by
   rcases hx with e | e
   ·exact ⟨_,e,.inl rfl⟩
   ·exact ⟨_,e,.inr rfl⟩
  obtain ⟨k',h1',h2'⟩:=h
  exact hc2 _ (gj (frees x k' h1' h2')) rfl
 ·have hb':b∈fp:=hb
  rcases (hfp b hb').2.2.2.1 with z | z
  ·exact I.ok.noex b o e z
  ·exact absurd (ZM (ZQ e) (ZW I.ok.bsz z)) (Yn _)
 ·have hb0:b∈frs X.stack:=hb'
  rcases Zh.mp (I.stkSub b hb0) with z | z
  ·exact (hfp b hb).2.1 z
  ·exact (hfp b hb).2.2.1 z
 ·
  have hik:k<=i:=by
   rcases Nat.lt_or_ge i k with z | z
   ·rw [Z3 (by simpa using z),Yb] at e2
    split at e2 <;> cases e2
   ·exact z
  rw [Yw (by simpa using hik),YV] at e2
  have e1':(N.drop k)[i - k]?=some x:=by
   rw [List.getElem?_drop,show k+(i - k)=i by exact Nat.add_sub_of_le hik];exact e1
  have vis:sc.names.lookup x=some .free->∃ k',(relabel sc X.env).names.lookup x=some k'/\(k'=.cell\/k'=.free):=fun h0=>by
   have e3':Vis (relabel sc X.env) x:=e3
   rcases e3' with z | z | z
   ·obtain ⟨k0,h1',h2'⟩:=cZ z
    rw [h0] at h1';cases h1'
    rcases h2' with q | ⟨_,q⟩ <;> cases q
   ·exact ⟨_,z,.inl rfl⟩
   ·exact ⟨_,z,.inr rfl⟩
  have no:∀ k0,sc.names.lookup x=some k0->∃ k',(relabel sc X.env).names.lookup x=some k'->True:=fun _ _=>⟨.local,fun _=>trivial⟩
  rcases hat _ x e1' with ⟨hX,h0⟩ | h0 | h0
  ·obtain ⟨k',hk1,hk2⟩:=vis h0
   have hf:=hall _ (gj h0)
   have hf':X.env.kindOf x=some .cell\/X.env.kindOf x=some .free:=by
    simpa using hf
   obtain ⟨mX,hnX,hlX⟩:=I.loc
   have visX:Vis X.env.scope x:=hf'.elim (fun z=>.inr (.inl z)) fun z=>.inr (.inr z)
   obtain ⟨u,r,l⟩:=hlX _ x v hX e2 visX
   refine ⟨u,r,.inr ⟨?_,?_⟩⟩
   ·rcases hk2 with z | z
    ·subst z;exact .inl hk1
    ·subst z;exact .inr hk1
   ·obtain ⟨c,hc⟩:=hc2 _ (gj h0) rfl
    refine ⟨c,hc,?_⟩
    rcases l with ⟨z,_⟩ | ⟨_,c',hc',hcell'⟩
    ·rcases hf' with q | q <;> (rw [z] at q;cases q)
    ·have:=hc1 x c hc
     rw [hc'] at this;cases this
     exact hcell'.keeps keep
  ·have e3':Vis (relabel sc X.env) x:=e3
   rcases e3' with z | z | z <;> (obtain ⟨k0,z1,_⟩:=cZ z;rw [h0] at z1;cases z1)
  ·have e3':Vis (relabel sc X.env) x:=e3
   rcases e3' with z | z | z <;> (obtain ⟨k0,z1,z2⟩:=cZ z;rw [h0] at z1;cases z1;rcases z2 with q | ⟨q,_⟩ <;> cases q)
 ·obtain ⟨v,z⟩:=I.cell x c (hc1 x c e)
  exact ⟨v,z.keeps keep⟩
 ·show upd H D (.lst []) C=none
  rw [aD (YW hDC)];exact hHC
 ·obtain ⟨v,z⟩:=I.cell x c (hc1 x c e)
  rw [aD (ZS (ZM z.lt hD))]
  exact I.freeC x c (hc1 x c e)
 ·exact ⟨Yr _,[],0,.nil,hDo⟩
 ·show (List.replicate k none++σ).length=N.length
  rw [Zy,YV,I.len,← hlen,YX]
  exact Nat.add_sub_of_le hNl
noncomputable def An (X:Cx) (ifs:List Expr) (t:TT):Prop :=
 ∀ (pins:Xq) (s:Shared) (σ:St) (H:Hp) (Q:Bool->Hp->Prop),Inv X pins σ H s->t σ H Q →
  wpAny (model X.prog X.w) X.A (forIn ifs true fun c r=>if r=true then (do let ok ← isTrue c X.env (eval c X.env);pure (ForInStep.yield ok)) else pure (ForInStep.yield r)) (TP X pins σ Q) X.xe s
theorem oI:An X [] (fun σ H Q=>Q true H):=fun pins s σ H Q I q=>Zb ⟨H,I,q⟩
section
variable {prog:Program} {w:World} {A:Around} {R:Result->Shared->Prop}
theorem oY {elt target iter:Expr} {ifs:List Expr} {scope:Scope} {pos:Pos} {it acc:Value} {env:Env} {s:Shared} (I:Nat->Shared->Prop)
  (turn:∀ n s,I n s->wpAny (model prog w) A (pyNext it) (fun r s₁=>match r with
   | none=>R (.ok .next) s₁
   | some v=>wpAny (model prog w) A (letOwnedTupleGo target it v) (fun _ s₀=>wpAny (model prog w) A (assign target env v) (fun _ s₂ =>
     wpAny (model prog w) A (forIn ifs true fun c r=>if r=true then (do let ok ← isTrue c env (eval c env);pure (ForInStep.yield ok)) else pure (ForInStep.yield r)) (fun ok s₃ =>
      if ok=true then wpAny (model prog w) A (eval elt env) (fun x s₄ =>
       wpAny (model prog w) A (call (.builtin "list.append") [acc,x]) (fun _ s₅=>∃ m,m < n/\I m s₅) (fun _ _=>False) s₄) (fun _ _=>False) s₃
      else ∃ m,m < n/\I m s₃) (fun _ _=>False) s₂) (fun _ _=>False) s₀) (fun _ _=>False) s₁) (fun _ _=>False) s)
  (n:Nat) (h:I n s) :
  codeAny (model prog w) A (.compLoop (.ListComp elt [⟨target,iter,ifs,0⟩] scope pos) 0 it acc env) R s:=by
 refine codeAny_loop rfl I (fun n s hI=>?_) n h
 show wpAny _ A ((compTurn (.ListComp elt [⟨target,iter,ifs,0⟩] scope pos) 0 it acc env).onRaise (fun x=>do noteFrame x env;theTreesLotGoes x)) _ _ s
 refine wpAny_noted ?_
 rw [compTurn_list]
 refine Zp (wpAny_standAt (Zp (YE (turn n s hI) (fun r s₁ h₁=>?_) fun _ _ h'=>h'.elim)))
 cases r with
 | none=>exact Zb h₁
 | some v =>
  refine Zp (YE h₁ (fun _ s₀ h₀=>?_) fun _ _ h'=>h'.elim)
  refine Zp (YE h₀ (fun _ s₂ h₂=>Zp (YE h₂ (fun ok s₃ h₃=>?_) fun _ _ h'=>h'.elim)) fun _ _ h'=>h'.elim)
  cases ok with
  | false=>exact Zb ⟨rfl,h₃⟩
  | true =>
   rw [Zr rfl] at h₃
   exact Zp (Zp (YE h₃ (fun x s₄ h₄=>Zp (YE h₄ (fun _ s₅ h₅=>Zb (Zb ⟨rfl,h₅⟩)) fun _ _ h'=>h'.elim)) fun _ _ h'=>h'.elim))
end
noncomputable def uO (k:Nat) (wi:TI) (g:TG) (tc:TT) (te:TE) (σ:St) (H:Hp) (Q:VK):Prop:=wi σ H fun J H1=>∀ D,H1 D=none->∃ W:Nat->Nat->St->Hp->Prop,
 (∃ m,W 0 m (List.replicate k none++σ) (upd H1 D (.lst [])))/\∀ i m σ' H',W i m σ' H'->(J.stop i H'/\Q (.ref D) H')\/(J.go i H'/\∀ x H2,J.yld i H' x H2->g x σ' H2 fun σ3 H3=>tc σ3 H3 fun b H4 =>
  if b=true then te σ3 H4 fun y H5=>∃ ys,H5 D=some (.lst ys)/\ys.length < sizeLine/\∃ m',m' < m/\W (i+1) m' σ3 (upd H5 D (.lst (ys++[y]))) else ∃ m',m' < m/\W (i+1) m' σ3 H4)
theorem se {elt tg iter:Expr} {ifs:List Expr} {sc:Scope} {pos pos':Pos} {N:List Str} {k:Nat} {wi:TI} {g:TG} {tc:TT} {te:TE} {use:Option (Value->Sem Unit)} {QQ:Y7} {Q:VK} (hcalm:X.calm=true) (hi:PI X tg iter wi) (hsc:qr X.env sc=true)
  (hnm:lV sc (N.drop k) X.N=true) (hNl:k<=N.length) (hin:∀ cl C s H fp,PG (fh X N sc cl C s H fp) tg g/\An (fh X N sc cl C s H fp) ifs tc/\PE (fh X N sc cl C s H fp) elt te)
  (hs:∀ x,foldedSetIterable iter X.env x=pure x) (I:Inv X pins σ H s) (h:uO k wi g tc te σ H Q)
  (hq:∀ s' H' D C m,Inv X pins σ H' s'->Q (.ref D) H'->s'.heap.Ns C m->lZ X pins H' C->compPost (model X.prog X.w) X.A X.xe use QQ (.ref D) C (.ok .next) s') :
  wpAny (model X.prog X.w) X.A (comprehension (.ListComp elt [⟨tg,iter,ifs,0⟩] sc pos) sc X.env pos' (newList []) false (eval iter X.env) use) QQ X.xe s:=by
 have hsc':=hsc
 unfold qr at hsc'
 rw [ZY,YJ] at hsc'
 obtain ⟨hk,hall⟩:=hsc'
 have hkind:sc.kind=.function:=by simpa using hk
 have hcell:∀ y∈sc.names,y.2 ≠ .cell:=fun y hy e=>by have:=hall y hy;rw [e] at this;cases this
 have hnames:∀ y∈sc.names,y.2=.local->sc.names.lookup y.1=some .local:=fun y hy e=>by
  have:=hall y hy
  rw [e] at this
  simpa using this
 obtain ⟨cl,hcl,hc1,hc2⟩:=yE (sc:=sc) (env:=X.env) fun y hy e=>I.ok.has y.1 (by
  have:=hall y hy
  rw [e] at this
  simpa using this)
 refine wpAny_comprehension_free (use:=use) rfl hs hcl hkind hnames (thn (hi pins s σ H _ I h) fun v s1 h1=>thn h1 fun itv s2 h2=>?_)
 obtain ⟨it,fp,tn,J,H2,e,I2,T,st2,f2,hW⟩:=h2
 subst e
 refine XJ (wpAny_newFunctionEnv hcell (by intro y hy;simp at hy) (fun h₁ hns₁ hsb₁=>?_) hkind)
 dsimp only at hns₁ hsb₁ ⊢
 generalize hP:s2.heap.push { cls:=.type "list",dict:=none,data:=.seq ([]:Wk).toArray }=P at hns₁ hsb₁ ⊢
 have hCs:P.objs.size=s2.heap.objs.size+1:=by rw [← hP,Ws]
 have old:∀ b o,s2.heap.get? b=some o->h₁.get? b=some o:=fun b o e =>
  hsb₁.extBut b o (by rw [hCs];exact ZS (Ww (ZQ e))) (Zi _ (hP ▸ Zi _ e))
 have hDC:s2.heap.objs.size ≠ P.objs.size:=by rw [hCs];exact ZS (Yg _)
 have hDo:h₁.get? s2.heap.objs.size=some { cls:=.type "list",data:=.seq ([]:Wk).toArray 0 }:=hsb₁.extBut _ _ hDC (Zi _ (hP ▸ ZJ _ rfl))
 have hCle:s2.heap.objs.size<=P.objs.size:=by rw [hCs];exact Xc _
 have lt_fp:∀ b∈fp,b < s2.heap.objs.size:=fun b hb=>let ⟨o,ho,_⟩:=T.obj 0 _ st2 b hb;ZQ ho
 have hfC:P.objs.size ∉ fp:=fun hb=>absurd (ZM (lt_fp _ hb) hCle) (Yn _)
 have IY:=I2.block (N:=N) (sc:=sc) (cl:=cl) (C:=P.objs.size) (D:=s2.heap.objs.size) (fp:=fp) (k:=k) (t:=s2.toks+([]:List (Str×Value)).length) hsc hnm hNl hc1 hc2 f2 (Zl _) hCle hDC hfC old hns₁ hDo
 obtain ⟨hG,hT,hE⟩:=hin cl P.objs.size s2 H2 fp
 generalize hY:fh X N sc cl P.objs.size s2 H2 fp=Y at IY hG hT hE
 have hYm:Y.prog=X.prog/\Y.w=X.w/\Y.K=X.K/\Y.A=X.A/\Y.env=compEnvC sc cl P.objs.size X.env/\Y.calm=X.calm/\(Y.xe=fun _ _=>False):=by rw [← hY];exact ⟨rfl,rfl,rfl,rfl,rfl,rfl,rfl⟩
 obtain ⟨y1,y2,y3,y4,y5,y6,y7⟩:=hYm
 have stat:∀ {H':Hp},(∀ b∈fp,H' b=none)->∀ b∈fp,lZ Y [] H' b:=fun {H'} hn b hb=>by
  rw [← hY]
  refine ⟨hn b hb,fun (e:b=P.objs.size)=>hfC (e ▸ hb),fun hb'=>?_,.inl hb,fun x c e=>(f2 b hb).2.2.2.2.1 x c (hc1 x c e),fun p hp=>(nomatch hp)⟩
  rcases Zh.mp (I2.stkSub b hb') with z | z
  ·exact (f2 b hb).2.1 z
  ·exact (f2 b hb).2.2.1 z
 obtain ⟨W,⟨m0,w0⟩,turn⟩:=hW s2.heap.objs.size (I2.hok.fresh (Zl _))
 have hfp0:∀ b∈fp,upd H2 s2.heap.objs.size (.lst []) b=none:=fun b hb=>by rw [aD (ZS (lt_fp b hb))];exact (f2 b hb).1
 have st3:tn 0 h₁:=T.keep _ _ _ st2 fun b _ o e=>old b o e
 have loop:codeAny (model X.prog X.w) X.A (.compLoop (.ListComp elt [⟨tg,iter,ifs,0⟩] sc pos) 0 (.ref it) (.ref s2.heap.objs.size) (compEnvC sc cl P.objs.size X.env)) (compPost (model X.prog X.w) X.A X.xe use QQ (.ref s2.heap.objs.size) P.objs.size)
   { s2 with heap:=h₁,toks:=s2.toks+([]:List (Str×Value)).length }:=by
  refine oY (fun n s'=>∃ i σ' H',Inv Y [] σ' H' s'/\tn i s'.heap/\(∀ b∈fp,H' b=none)/\W i n σ' H') ?_ m0 ⟨0,_,_,IY,st3,hfp0,w0⟩
  rintro n s3 ⟨i,σ3,H3,I3,st3,fr3,w3⟩
  rcases turn i n σ3 H3 w3 with ⟨stop,qn⟩ | ⟨go,step⟩
  ·have q:=T.done Y y1 y2 y3 (y6.trans hcalm) i [] s3 σ3 H3 (fun _ _=>False) I3 (stat fr3) st3 stop
   rw [y4] at q
   refine thn q fun r s4 ⟨hr,I4⟩=>?_
   subst hr
   have IX:Inv X pins σ H3 s4:=by
    have b4:=I4.base
    have o4:=I4.os
    have k4:=I4.hok
    rw [← hY] at b4 o4 k4
    refine I2.call' (ch:=fp) o4 b4 k4 I4.bare fun b hb=>?_
    exact ⟨(f2 b hb).2.2.2.1,(f2 b hb).2.1,(f2 b hb).2.2.2.2.1,(f2 b hb).2.2.2.2.2⟩
   obtain ⟨mC,hmC,_⟩:=I4.loc
   have f4:=I4.free
   rw [y5] at hmC f4
   exact hq s4 H3 _ P.objs.size mC IX qn hmC (I2.fpOk hCle f4)
  ·have q:=T.item Y y1 y2 y3 (y6.trans hcalm) i [] s3 σ3 H3 (fun _ _=>False) I3 (stat fr3) st3 go
   rw [y4] at q
   refine thn q fun r s4 ⟨u,hr,h4⟩=>?_
   subst hr
   refine thn h4 fun _ s5 ⟨x,H5,I5,r5,yl5,st5,fr5⟩=>?_
   have I5':=I5.pinned (stat fr5) (T.obj _ _ st5)
   have again:∀ {σ7:St} {H7:Hp} {s7:Shared} {m:Nat},Inv Y ([]++kY fp s5.heap) σ7 H7 s7->W (i+1) m σ7 H7->∃ i σ' H',Inv Y [] σ' H' s7/\tn i s7.heap/\(∀ b∈fp,H' b=none)/\W i m σ' H':=fun {σ7 H7 s7 m} I7 w7=>by
    refine ⟨i+1,σ7,H7,I7.unpinned,T.keep _ _ _ st5 fun b hb o e=>(I7.pin (b,o) (ZX _ (ZX _ (gM hb e)))).1,fun b hb=>?_,w7⟩
    obtain ⟨o,e,d⟩:=T.obj _ _ st5 b hb
    exact (I7.pin (b,o) (ZX _ (ZX _ (gM hb e)))).2.1
   have qa:=hG _ s5 σ3 H5 x u _ I5' r5 (step x H5 yl5)
   rw [y1,y2,y4,y5,y7] at qa
   refine thn qa fun _ s6 ⟨σ6,H6,I6,q6⟩=>?_
   have qt:=hT _ s6 σ6 H6 _ I6 q6
   rw [y1,y2,y4,y5,y7] at qt
   refine thn qt fun b s7 ⟨H7,I7,q7⟩=>?_
   cases b with
   | false =>
    rw [Zo Za] at q7 ⊢
    obtain ⟨m',hm,w7⟩:=q7
    exact ⟨m',hm,again I7 w7⟩
   | true =>
    rw [Zr rfl] at q7 ⊢
    have qe:=hE _ s7 σ6 H7 _ I7 q7
    rw [y1,y2,y4,y5,y7] at qe
    refine thn qe fun yv s8 ⟨y,H8,I8,r8,ys,hD8,hl8,m',hm,w8⟩=>?_
    have qp:=iG (X:=Y) _ s8 σ6 H8 (.ref s2.heap.objs.size) [y] (.ref s2.heap.objs.size) [yv] (fun _ H9=>W (i+1) m' σ6 H9) I8 rfl (.cons r8 .nil) ⟨_,ys,y,rfl,rfl,hD8,hl8,w8⟩
    rw [y1,y2,y4,y7] at qp
    refine thn qp fun _ s9 ⟨_,H9,I9,_,w9⟩=>?_
    exact ⟨m',hm,again I9 w9⟩
 exact codeAny_compStart_list loop (T.self _ 0 _ _ _ st3 loop)
theorem rH {elt tg iter:Expr} {ifs:List Expr} {sc:Scope} {pos:Pos} {N:List Str} {k:Nat} {wi:TI} {g:TG} {tc:TT} {te:TE} (hcalm:X.calm=true) (hi:PI X tg iter wi) (hsc:qr X.env sc=true)
  (hnm:lV sc (N.drop k) X.N=true) (hNl:k<=N.length) (hin:∀ cl C s H fp,PG (fh X N sc cl C s H fp) tg g/\An (fh X N sc cl C s H fp) ifs tc/\PE (fh X N sc cl C s H fp) elt te)
  (hs:∀ x,foldedSetIterable iter X.env x=pure x:=by intro _;rfl):PE X (.ListComp elt [⟨tg,iter,ifs,0⟩] sc pos) (uO k wi g tc te):=by
 intro pins s σ H Q I h
 rw [eval_ListComp]
 refine se (use:=none) hcalm hi hsc hnm hNl hin hs I h fun s' H' D C m I' q hn f=>⟨m,hn,fun h' hs'=>?_⟩
 exact ⟨.ref D,H',I'.turned (it:=C) (t':=s'.toks) (fun b o hb e=>hs'.extBut b o hb e) f.1 f.2.1 f.2.2.2.1 f.2.2.2.2.1 f.2.2.2.2.2,rfl,q⟩
end
end L2
end
section
namespace VS
open PySem PySem.Spec PyProof.Rows L2
noncomputable def yd (k:Nat) (g:Tg):Prop:=∀ t η η',g t η=some η'->η'.length=η.length/\∀ i,k<=i->η'[i]?=η[i]?
theorem gR {k i:Nat} (h:i < k):yd k (bF i):=fun t η η' e=>by
 unfold bF at e
 split at e
 ·cases e
  exact ⟨by simp,fun j hj=>by rw [YQ (by lia)]⟩
 ·cases e
theorem qE:∀ (l:Wb) {i:Nat} {t:T},fm l=true->l[i]?=some t->imm t=true
 | [],_,_,_,h=>by simp at h
 | x :: l,0,t,h,e=>by
  simp only [fm,ZY] at h
  simp at e;rw [← e];exact h.1
 | x :: l,i+1,t,h,e=>by
  simp only [fm,ZY] at h
  exact qE l h.2 (by simpa using e)
noncomputable def tC (G:Gx):Option Ex->TT
 | none=>fun σ H Q=>Q true H
 | some c=>tT G c
section
variable {G:Gx} {Φ:Fps} {η:VS.Env} {σ:L2.St} {H:Hp} {k:Nat}
theorem jx {i:Nat} {c:Cell}:(List.replicate k none++η)[i]?=some (some c) ↔ k<=i/\η[i - k]?=some (some c):=by
 rcases Nat.lt_or_ge i k with h | h
 ·rw [Z3 (by simpa using h),Yb]
  constructor
  ·intro e;split at e <;> cases e
  ·intro ⟨e,_⟩;lia
 ·rw [Yw (by simpa using h),YV]
  exact ⟨fun e=>⟨h,e⟩,fun e=>e.2⟩
theorem uP {a:Addr}:b9 (fun i=>Φ (i - k)) (List.replicate k none++η) a ↔ b9 Φ η a:=by
 constructor
 ·rintro ⟨j,t,h1,h2⟩
  exact ⟨j - k,t,(jx.mp h1).2,h2⟩
 ·rintro ⟨j,t,h1,h2⟩
  refine ⟨j+k,t,jx.mpr ⟨Nat.le_add_left _ _,by rw [YI];exact h1⟩,?_⟩
  show a∈Φ (j+k - k)
  rw [YI];exact h2
theorem vp {a:Addr}:dC (fun i=>Φ (i - k)) (List.replicate k none++η) a ↔ dC Φ η a:=by
 constructor
 ·rintro ⟨j,t,h1,h2⟩
  exact ⟨j - k,t,(jx.mp h1).2,h2⟩
 ·rintro ⟨j,t,h1,h2⟩
  refine ⟨j+k,t,jx.mpr ⟨Nat.le_add_left _ _,by rw [YI];exact h1⟩,?_⟩
  show a∈Φ (j+k - k)
  rw [YI];exact h2
theorem SR.sh (s:SR G Φ η σ H):SR G (fun i=>Φ (i - k)) (List.replicate k none++η) (List.replicate k none++σ) H:=by
 refine ⟨by simp [s.len],fun i c h=>?_,fun i t h=>?_,fun i j t c h1 h2 n=>?_⟩
 ·obtain ⟨h1,h2⟩:=jx.mp h
  obtain ⟨v,g1,g2⟩:=s.rp _ c h2
  refine ⟨v,?_,g2⟩
  rw [Yw (by simpa using h1),YV]
  exact g1
 ·exact s.nd _ t (jx.mp h).2
 ·obtain ⟨a1,a2⟩:=jx.mp h1
  obtain ⟨b1,b2⟩:=jx.mp h2
  exact s.sep _ _ t c a2 b2 (by lia)
theorem SR.less {η':VS.Env} (s:SR G Φ η' σ H) (hl:η.length=η'.length) (h:∀ (i:Nat) c,η[i]?=some (some c)->η'[i]?=some (some c)):SR G Φ η σ H :=
 ⟨hl.trans s.len,fun i c e=>s.rp i c (h i c e),fun i t e=>s.nd i t (h i _ e),fun i j t c e1 e2 n=>s.sep i j t c (h i _ e1) (h j _ e2) n⟩
theorem SR.off {D:Addr} {o:HO} (s:SR G Φ η σ H) (m:Mut (H D)\/H D=none) (n1:¬ dC Φ η D) (n2:¬ b9 Φ η D):SR G Φ η σ (upd H D o):=by
 refine ⟨s.len,fun i c e=>?_,s.nd,s.sep⟩
 obtain ⟨v,g1,g2⟩:=s.rp i c e
 refine ⟨v,g1,g2.keep (Kept.upd m) fun b hb o' ho=>?_⟩
 rw [aD fun z=>?_]
 ·exact ho
 ·subst z
  cases c with
  | pu t=>exact n1 ⟨i,t,e,hb⟩
  | ow t=>exact n2 ⟨i,t,e,hb⟩
theorem k8:∀ (l:We) (v:Val),cp (l++[v])=(cp l).join v.1
 | [],(m,t)=>by cases m <;> rfl
 | (m,t) :: l,v=>by
  show m.join (cp (l++[v]))=(m.join (cp l)).join v.1
  rw [k8 l v]
  generalize cp l=q
  generalize v.1=r
  cases m <;> cases q <;> cases r <;> rfl
theorem Fp.join2 {m n:Md} {F F':Wm} (f:Fp Φ η H m F) (g:Fp Φ η H n F') (d:n=.fr->∀ a∈F,a ∉ F'):Fp Φ η H (m.join n) (F++F'):=by
 have both:∀ {P:Addr->Prop},(∀ a∈F,P a)->(∀ a∈F',P a)->∀ a∈F++F',P a:=fun p q a h=>(Zc.mp h).elim (p a) (q a)
 cases m <;> cases n
 ·exact ⟨ZO.mpr ⟨f.1,g.1,fun a ha b hb e=>d rfl a ha (e ▸ hb)⟩,both f.2 g.2⟩
 ·exact both (fun a ha=>.inl (f.2 a ha)) g
 ·exact both (fun a ha=>.inl (f.2 a ha)) g
 ·exact both f fun a ha=>.inl (g.2 a ha)
 ·exact both f g
 ·exact both (fun a ha=>(f a ha).imp id .inl) g
 ·exact both f fun a ha=>.inl (g.2 a ha)
 ·exact both f fun a ha=>(g a ha).imp id .inl
 ·exact both f g
theorem Fp.cons1 {m:Md} {F:Wm} {D:Addr} (f:Fp Φ η H m F) (h:H D=none) (d:D ∉ F):Fp Φ η H m (D :: F):=by
 have all:∀ {P:Addr->Prop},P D->(∀ a∈F,P a)->∀ a∈D :: F,P a:=fun p q a ha=>(Zh.mp ha).elim (fun e=>e ▸ p) (q a)
 cases m
 ·exact ⟨Zd.mpr ⟨d,f.1⟩,all h f.2⟩
 ·exact all (.inl h) f
 ·exact all (.inl h) f
end
section
variable {G:Gx} {k:Nat} {tg:Tg} {ci:Its} {cond:Option Ex} {ce:Ex}
noncomputable def CI (G:Gx) (Φ:Fps) (η η0:VS.Env) (H H1:Hp) (D:Addr) (l:Wb) (all:We) (tg:Tg) (cond:Option Ex) (ce:Ex) (i n:Nat) (σ':L2.St) (H':Hp):Prop:=n=l.length - i/\∃ Φ1 vs Fs xs rest,SR G Φ1 η0 σ' H'/\(∀ a,b9 Φ1 η0 a->b9 Φ η a)/\(∀ a,dC Φ1 η0 a->H a=none\/dC Φ η a)/\¬ dC Φ1 η0 D/\¬ b9 Φ1 η0 D/\Kept H1 H' ∧
     (∀ a o,a ≠ D->H1 a=some o->H' a=some o)/\H' D=some (.lst xs)/\RpL G H' xs (trees vs) Fs/\D ∉ Fs.flatten/\Fp Φ η H (cp vs) Fs.flatten/\lr tg cond ce η0 (l.drop i)=some rest/\vs++rest=all
theorem qA {σ:L2.St} {H:Hp} {Q:VK} (hin:yd k tg) (h:tE G (eT k tg ci cond ce) σ H Q):uO k (tI G ci) (tG G tg) (tC G cond) (tE G ce) σ H Q:=by
 refine L2.ji fun P_ k_=>?_
 obtain ⟨Φ,η,m,r,s,e,kq⟩:=h
 unfold eT at e
 obtain ⟨⟨mi,l⟩,el,e1⟩:=Zz.mp e
 dsimp only at e1
 split at e1
 ·rename_i hok
  obtain ⟨all,ea,e2⟩:=Zz.mp e1
  unfold mkL at e2
  split at e2
  ·rename_i hlen
   cases e2
   refine k_ ?_
   refine ⟨Φ,η,mi,l,s,el,fun J H1 C e3 ok fc D hD=>?_⟩
   have hHD:H D=none:=e3.free hD
   let η0:VS.Env:=List.replicate k none++η
   have good:∀ {t:T} {i:Nat} {H' H2:Hp} {v:V} {F:Wm},l[i]?=some t->Rp G H2 v t F->(∀ a,H1 a ≠ none->H' a ≠ none)->(∀ a∈F,a∈C\/H' a=none)->∀ a∈F,(H a=none\/dC Φ η a)/\¬ b9 Φ η a:=fun {t i H' H2 v F} hi rF keep hF a ha=>by
    have dom:∀ {b},H b ≠ none->H' b ≠ none:=fun {b} hb=>keep b fun z=>hb (e3.free z)
    rcases hF a ha with z | z
    ·rcases fc a z with q | q | ⟨q,w⟩
     ·exact ⟨.inl q,fun w=>Mut.ne_none (s.ow_dom w) q⟩
     ·exact ⟨.inr q,fun w=>s.ow_pu w q⟩
     ·subst q
      have:imm t=true:=by
       exact qE l hok hi
      rw [rF.imm this] at ha
      simp at ha
    ·have hz:H a=none:=Classical.byContradiction fun q=>dom q z
     exact ⟨.inl hz,fun w=>Mut.ne_none (s.ow_dom w) hz⟩
   refine ⟨CI G Φ η η0 H H1 D l all tg cond ce,?_,?_⟩
   ·refine ⟨l.length - 0,rfl,fun i=>Φ (i - k),[],[],[],all,?_,fun a h=>uP.mp h,fun a h=>.inr (vp.mp h),fun h=>?_,fun h=>?_,Kept.upd (.inr hD),fun a o n h=>by rw [aD n];exact h,aA,.nil,by simp,Fp.nil,by rw [List.drop_zero];exact ea,rfl⟩
    ·exact ((s.same e3).sh).off (.inr hD) (fun h=>Mut.ne_none (s.pu_dom (vp.mp h)) hHD) fun h=>Mut.ne_none (s.ow_dom (uP.mp h)) hHD
    ·exact Mut.ne_none (s.pu_dom (vp.mp h)) hHD
    ·exact Mut.ne_none (s.ow_dom (uP.mp h)) hHD
   ·intro i n σ' H' hh_
    refine L2.ji fun P_ k_=>?_
    obtain ⟨rfl,Φ1,vs,Fs,xs,rest,s1,ow1,pu1,np1,no1,kp,old,hD',rp,nD,fp,er,ev⟩:=hh_
    refine k_ ?_
    have keepdom:∀ a,H1 a ≠ none->H' a ≠ none:=fun a ha z=>by
     by_cases q:a=D
     ·subst q;rw [hD'] at z;cases z
     ·cases e:H1 a with
      | none=>exact ha e
      | some o=>rw [old a o q e] at z;cases z
    refine L2.ji fun P_ k_=>?_
    obtain ⟨go,stop⟩:=ok.run H' kp fun a ha o ho=>old a o (fun z=>ok.dom a ha (z ▸ hD)) ho
    cases hit:l[i]? with
    | none =>
     have hl:l.length<=i:=Yp.mp hit
     refine k_ ?_
     left
     refine ⟨stop i hl,?_⟩
     rw [YH hl] at er
     cases (show some ([]:We)=some rest from er)
     rw [ZP] at ev
     subst ev
     refine kq (.ref D) H' (D :: Fs.flatten) (fun a o h=>old a o (fun z=>by rw [z,hHD] at h;cases h) (e3 a o h)) (.lst hD' rp) ?_
     by_cases hi:fm (trees vs)=true
     ·rw [Zr hi,rp.imm hi]
      exact ⟨by simp,fun a ha=>by rw [Zf.mp ha];exact hHD⟩
     ·rw [Zo hi]
      exact fp.cons1 hHD nD
    | some t =>
     have hl:i < l.length:=(ZZ.mp hit).1
     obtain ⟨g1,y1⟩:=go i t hit
     refine k_ ?_
     right
     refine ⟨g1,fun x H2 yl=>?_⟩
     refine L2.ji fun P_ k_=>?_
     obtain ⟨e8,F,rF,hF⟩:=y1 x H2 yl
     rw [mH (tgt:=tg) (body:=dF) (η:=η) hit] at er
     rw [lr] at er
     obtain ⟨η3,e4,e5⟩:=Zz.mp er
     obtain ⟨b,eb,e6⟩:=Zz.mp e5
     have gd:=good hit rF keepdom hF
     have s2:=s1.same e8
     have DF:D ∉ F:=fun h=>by
      rcases hF D h with z | z
      ·exact ok.dom D z hD
      ·rw [hD'] at z;cases z
     refine k_ ?_
     refine ⟨Φ1,η0,t,F,η3,s2,rF,fun a ha z=>(gd a ha).2 (ow1 a z),e4,fun Φ3 σ3 s3 o3 p3=>?_⟩
     obtain ⟨tl,tsame⟩:=hin t η0 η3 e4
     have low:∀ j c,η0[j]?=some (some c)->η3[j]?=some (some c):=fun j c h=>by rw [tsame j (jx.mp h).1];exact h
     have pu3:∀ a,dC Φ3 η3 a->H a=none\/dC Φ η a:=fun a h=>(p3 a h).elim (pu1 a) fun h=>(gd a h).1
     have ow3:∀ a,b9 Φ3 η3 a->b9 Φ η a:=fun a h=>ow1 a (o3 a h)
     have np3:¬ dC Φ3 η3 D:=fun h=>(p3 D h).elim np1 DF
     have no3:¬ b9 Φ3 η3 D:=fun h=>no1 (o3 D h)
     have pul:∀ a,dC Φ3 η0 a->dC Φ3 η3 a:=fun a ⟨j,u,h1,h2⟩=>⟨j,u,low j _ h1,h2⟩
     have owl:∀ a,b9 Φ3 η0 a->b9 Φ3 η3 a:=fun a ⟨j,u,h1,h2⟩=>⟨j,u,low j _ h1,h2⟩
     have rest':∀ H4,aN H2 H4->(if b=true then tE G ce σ3 H4 fun y H5=>∃ ys,H5 D=some (.lst ys)/\ys.length < sizeLine/\∃ m',m' < l.length - i/\CI G Φ η η0 H H1 D l all tg cond ce (i+1) m' σ3 (upd H5 D (.lst (ys++[y]))) else ∃ m',m' < l.length - i/\CI G Φ η η0 H H1 D l all tg cond ce (i+1) m' σ3 H4):=fun H4 e9=>by
      have eo:∀ {H5},aN H4 H5->∀ a o,H' a=some o->H5 a=some o:=fun {H5} e10 a o h=>e10 a o (e9 a o (e8 a o h))
      cases b with
      | false =>
       rw [Zo Za] at e6 ⊢
       have same:=eo (aN.refl H4)
       exact ⟨_,by lia,rfl,Φ3,vs,Fs,xs,rest,(s3.same e9).less (by rw [tl]) low,fun a h=>ow3 a (owl a h),fun a h=>pu3 a (pul a h),fun h=>np3 (pul D h),fun h=>no3 (owl D h),kp.trans ((Kept.of e8).trans (Kept.of e9)),fun a o n h=>same a o (old a o n h),same D _ hD',rp.same (aN.trans e8 e9),nD,fp,e6,ev⟩
      | true =>
       rw [Zr rfl] at e6 ⊢
       obtain ⟨⟨mv,tv⟩,ece,e7⟩:=Zz.mp e6
       obtain ⟨rest1,er1,e7'⟩:=Zu.mp e7
       refine ⟨Φ3,η3,mv,tv,s3.same e9,ece,fun y H5 Fy e10 ry fy=>?_⟩
       have same:=eo e10
       have hD5:=same D _ hD'
       have mD5:Mut (H5 D):=by rw [hD5];exact True.intro
       have hD4:H4 D=some (.lst xs):=e9 D _ (e8 D _ hD')
       have none4:∀ a,H4 a=none->H a=none:=fun a h=>Classical.byContradiction fun q=>keepdom a (fun z=>q (e3.free z)) (e8.free (e9.free h))
       have fyo:Fp Φ η H mv Fy:=by
        cases mv with
        | fr=>exact ⟨fy.1,fun a ha=>none4 a (fy.2 a ha)⟩
        | pu=>exact fun a ha=>(fy a ha).elim (fun z=>.inl (none4 a z)) (pu3 a)
        | bo=>exact fun a ha=>(fy a ha).elim (fun z=>.inl (none4 a z)) fun z=>z.elim (fun z=>(pu3 a z).imp id .inl) fun z=>.inr (.inr (ow3 a z))
       have DFy:D ∉ Fy:=fun h=>by
        cases mv with
        | fr=>have:=fy.2 D h;rw [hD4] at this;cases this
        | pu=>exact (fy D h).elim (fun z=>by rw [hD4] at z;cases z) np3
        | bo=>exact (fy D h).elim (fun z=>by rw [hD4] at z;cases z) fun z=>z.elim np3 no3
       have rp5:RpL G H5 xs (trees vs) Fs:=rp.same ((e8.trans e9).trans e10)
       have lenx:xs.length=vs.length:=by rw [rp.len.1];simp
       have lenv:vs.length < all.length:=by rw [← ev,← e7'];simp
       refine ⟨xs,hD5,?_,_,by lia,rfl,Φ3,vs++[(mv,tv)],Fs++[Fy],xs++[y],rest1,(((s3.same e9).same e10).off (.inl mD5) np3 no3).less (by rw [tl]) low,fun a h=>ow3 a (owl a h),fun a h=>pu3 a (pul a h),fun h=>np3 (pul D h),fun h=>no3 (owl D h),?_,fun a o n h=>?_,aA,?_,?_,?_,er1,?_⟩
       ·have hlen':all.length<=eA:=by simpa using hlen
        have:sizeLine=eA:=rfl
        lia
       ·exact (kp.trans ((Kept.of e8).trans ((Kept.of e9).trans (Kept.of e10)))).trans (Kept.upd (.inl mD5))
       ·rw [aD n];exact same a o (old a o n h)
       ·have:trees (vs++[(mv,tv)])=trees vs++[tv]:=by simp
        rw [this]
        exact (rp5.off mD5 nD).append (.cons (ry.keep (Kept.upd (.inl mD5)) fun b hb o ho=>by rw [aD (fun z=>DFy (by rw [← z];exact hb))];exact ho) .nil)
       ·rw [Yz]
        intro h
        rcases Zc.mp h with z | z
        ·exact nD z
        ·exact DFy (by simpa using z)
       ·rw [Yz,k8]
        have:([Fy]:Xg).flatten=Fy:=by simp
        rw [this]
        refine fp.join2 fyo fun hm a ha hb=>?_
        subst hm
        have h4:=fy.2 a hb
        have:Mut (H4 a):=(rp.same (e8.trans e9)).dom a ha
        rw [h4] at this;exact this
       ·rw [Z1,← ev,← e7'];rfl
     cases cond with
     | none =>
      cases (show some true=some b from eb)
      exact rest' H2 (aN.refl H2)
     | some c =>
      obtain ⟨⟨mc,xc⟩,ec1,ec2⟩:=Zz.mp eb
      exact ⟨Φ3,η3,mc,xc,b,s3,ec1,ec2,fun H4 e9=>rest' H4 e9⟩
  ·cases e2
 ·cases e1
end
section
variable {G:Gx} {X:Cx} {elt tg iter c:Expr} {sc:Scope} {pos pos' spos:Pos} {N:List Str} {k i:Nat} {x:Str} {ci:Its} {g:Tg} {cc ce:Ex}
theorem iM (k:Nat) (N:List Str) (hcalm:X.calm=true) (hi:PVI G X tg iter ci) (hin:yd k g) (hg:∀ cl C s H fp,PVG G (fh X N sc cl C s H fp) tg g) (he:∀ cl C s H fp,PV G (fh X N sc cl C s H fp) elt ce)
  (hsc:qr X.env sc=true:=by rfl) (hnm:lV sc (N.drop k) X.N=true:=by rfl) (hNl:k<=N.length:=by decide) (hs:∀ x,foldedSetIterable iter X.env x=pure x:=by intro _;rfl) :
  PV G X (.ListComp elt [⟨tg,iter,[],0⟩] sc pos) (eT k g ci none ce) :=
 PE.weak (rH hcalm hi hsc hnm hNl (fun cl C s H fp=>⟨hg cl C s H fp,oI,he cl C s H fp⟩) hs) fun σ H Q h=>qA (cond:=none) hin h
end
end VS
end
section
namespace L2
open PySem PySem.Spec PyProof.Rows
noncomputable def Ite (K:Xd) (a:Addr):It :=
 ⟨fun i H=>∃ xs x,SqL K H a xs/\xs[i]?=some x,fun i H v H'=>∃ p x,H p=none/\v=.ref p/\H'=upd H p (.tup [.int i,x])/\∀ xs,SqL K H a xs->xs[i]?=some x,fun i H=>∃ xs,SqL K H a xs/\xs.length<=i⟩
theorem sU {P:Program} {w:World} {K:Xd} {elts:List Expr} {n:Nat} {pos:Pos} (a e it:Addr) (hne:e ≠ it):Turn P w K (.Tuple elts n pos) (Ite K a) [e,it] e (fun i h=>(∃ old,IsEnum h e it i old)/\h.IsListIter it a i) where
 mem:=by simp
 obj:=fun i h st b hb=>by
  obtain ⟨⟨old,he⟩,o,ho,c,d⟩:=st
  rcases Zh.mp hb with rfl | hb
  ·exact ⟨_,he,fun v z=>by cases (show Data.fields _=Data.cell v from z)⟩
  ·rw [Zf.mp hb]
   exact ⟨o,ho,fun v z=>by rw [d] at z;cases z⟩
 keep:=fun i h h' st k=>⟨let ⟨old,he⟩:=st.1;⟨old,k e (by simp) _ he⟩,st.2.at fun o x=>k it (by simp) o x⟩
 item:=by
  intro X hP hw hK hc i pins s σ H E I hf st hg
  subst hP hw hK
  obtain ⟨xs,x,hq,hx⟩:=hg
  obtain ⟨its,rv,p,hz⟩:=I.list hq
  obtain ⟨u,hu,ru⟩:=rv.get hx
  obtain ⟨⟨old,he⟩,hit⟩:=st
  refine wpAny_pyNext_enum_item he hit p.isList (x:=u) (by simpa using hu) hne fun h1 ho hit1 hT hsz hk=>⟨_,rfl,?_⟩
  refine wpAny_letOwnedTupleGo_enum ho fun h2 he2 hs2=>?_
  have hs2:Heap.SameBut e h1 h2:=hs2
  have ltE:e < s.heap.objs.size:=ZQ he
  have ltI:it < s.heap.objs.size:=let ⟨_,z,_⟩:=hit;ZQ z
  have hHT:H s.heap.objs.size=none:=I.hok.fresh (Zl _)
  have kk:∀ b o,b ∉ [e,it]->s.heap.get? b=some o->h2.get? b=some o:=fun b o hb q=>by
   have h1b:b ≠ e:=fun z=>hb (by simp [z])
   have h2b:b ≠ it:=fun z=>hb (by simp [z])
   exact (hs2.2 b h1b).trans (hk b o h1b h2b q)
  have hT2:h2.get? s.heap.objs.size=some { cls:=.type "tuple",data:=.seq #[.int i s.toks,u] }:=(hs2.2 _ (Nat.ne_of_gt ltE)).trans hT
  have nfp:∀ b o,H b=some o->b ∉ [e,it]:=fun b o q hb=>by rw [(hf b hb).1] at q;cases q
  have lt:∀ b o,s.heap.get? b=some o->b ≠ s.heap.objs.size:=fun b o q=>ZS (ZQ q)
  have up:∀ b o,H b=some o->upd H s.heap.objs.size (.tup [.int i,x]) b=some o:=fun b o q=>by rw [aD (cU q hHT)];exact q
  have hok2:HOk X.prog X.w (upd H s.heap.objs.size (.tup [.int i,x])) h2:=fun b ob q=>by
   by_cases hb:b=s.heap.objs.size
   ·subst hb
    rw [aA] at q
    cases q
    exact ⟨by show 2<=sizeLine;decide,[.int i s.toks,u],.cons ⟨_,rfl⟩ (.cons ru .nil),NoD.of hT2 rfl,⟨_,hT2,rfl,_,rfl⟩⟩
   ·rw [aD hb] at q
    refine (I.hok b ob q).stay (fun c v hc' r=>kk c v ?_ r) (fun c r=>up c _ r) fun c ys r=>up c _ r
    rcases hc' with z | z
    ·rw [z];exact nfp b ob q
    ·exact nfp c _ z
  refine ⟨.ref s.heap.objs.size,upd H s.heap.objs.size (.tup [.int i,x]),?_,rfl,⟨_,x,hHT,rfl,rfl,fun ys hy=>by rw [I.list_inj hy hq];exact hx⟩,⟨⟨u,by simpa using he2⟩,hit1.at fun o y=>(hs2.2 it hne.symm).trans y⟩,fun b hb=>?_⟩
  ·show Inv X pins σ _ { s with heap:=h2,gens:=s.gens,drawn:=s.drawn,toks:=s.toks+1 }
   refine I.step (g':=s.gens) (d':=s.drawn) (t':=s.toks+1) (ch:=[e,it]) (fun b hb=>?_) (fun b o _ _ hc' q _=>kk b o hc' q) (fun b o _ _ hc' q _=>⟨o.slots,kk b o hc' q⟩) (fun b o _ q r=>by rw [aD (lt b o q)];exact r) (fun b o hc' q=>⟨o,kk b o hc' q⟩)
    (fun b ys q=>up b _ q) (fun b o v q=>up b _ q) (fun b ps q=>⟨#[],by rw [up b _ q];simp⟩) (fun m hm=>?_) hok2 I.bare
   ·obtain ⟨f0,f1,f2,f3,f4,f5⟩:=hf b hb
    exact ⟨f3,f1,f4,f5⟩
   ·obtain ⟨o,es,ep,ho',r⟩:=hm
    refine ⟨o,es,ep,kk _ o (fun z=>?_) ho',r⟩
    exact (hf _ z).2.1 rfl
  ·have:b ≠ s.heap.objs.size:=by
    rcases Zh.mp hb with rfl | hb
    ·exact ZS ltE
    ·rw [Zf.mp hb];exact ZS ltI
   rw [aD this]
   exact (hf b hb).1
 done:=by
  intro X hP hw hK hc i pins s σ H E I hf st hg
  subst hP hw hK
  obtain ⟨xs,hq,hx⟩:=hg
  obtain ⟨its,rv,p,hz⟩:=I.list hq
  obtain ⟨⟨old,he⟩,hit⟩:=st
  obtain ⟨f0,f1,f2,f3,f4,f5⟩:=hf it (by simp)
  have hl:=rv.length
  exact wpAny_pyNext_enum_end (I.ok.hd hc) he hit p.isList (by simp;lia) fun h' eb=>⟨rfl,I.turned (t':=s.toks) (fun b o hb q=>eb b o hb q) f0 f1 f3 f4 f5⟩
 self:=fun _ _ _ _ _ st h=>let ⟨_,he⟩:=st.1;wpAny_pyIter_enum he h
section
variable {X:Cx} {tg a:Expr} {ta:TA} {p pos:Pos}
noncomputable def C2 (K:Xd) (ta:TA):TI:=fun σ H R=>ta σ H fun vs H1=>∃ l,vs=[.ref l]/\(∃ xs,SqL K H1 l xs)/\R (Ite K l) H1
theorem wZ {elts:List Expr} {n:Nat} {tpos:Pos} (hg:Gl X "enumerate") (hm:X.mg "enumerate" = none) (ha:PA X [a] ta) (hs:starEach [a] X.env=[(false,eval a X.env)]:=by rfl):PI X (.Tuple elts n tpos) (.Call (.Name "enumerate" p) [a] [] pos) (C2 X.K ta):=by
 intro pins s σ H R I h
 refine Call_ (jU I hg hm boot_enumerate (YF (thn (ha pos pins s σ H _ I h) fun us s1 ⟨vs,H1,I1,r1,q1⟩=>?_) hs rfl))
 obtain ⟨l,e,⟨xs,hq⟩,q⟩:=q1
 subst e
 cases r1 with
 | cons r rr =>
  cases rr
  cases r
  obtain ⟨its,rv,pl,hz⟩:=I1.list hq
  refine call_enumerate_list pl.isList fun h' he hit hsz hk=>?_
  refine wpAny_pyIter_enum he ?_
  refine ⟨_,_,_,_,H1,rfl,I1.kept (t':=s1.toks) hk,sU l (s1.heap.objs.size+1) s1.heap.objs.size (Nat.succ_ne_self _),⟨⟨_,he⟩,hit⟩,fun b hb=>?_,q⟩
  have hb':s1.heap.objs.size<=b:=by
   rcases Zh.mp hb with rfl | hb
   ·exact YK _ _
   ·rw [Zf.mp hb];exact Zl _
  exact I1.fpOk hb' (I1.hok.fresh hb')
end
end L2
namespace VS
open PySem PySem.Spec PyProof.Rows L2
section
variable {G:Gx} {X:Cx} {a:Expr} {ca:Ex} {pos p tpos:Pos} {elts:List Expr} {n:Nat}
theorem pA:∀ (l:Wb) (k i:Nat) {t:T},(iz k l)[i]?=some t->∃ x,l[i]?=some x/\t=.tup [.int ((k+i:Nat):Int),x]
 | [],_,_,_,h=>by simp [iz] at h
 | x :: l,k,0,t,h=>by
  simp [iz] at h
  exact ⟨x,rfl,by rw [← h];rfl⟩
 | x :: l,k,i+1,t,h=>by
  obtain ⟨y,h1,h2⟩:=pA l (k+1) i (by simpa [iz] using h)
  refine ⟨y,by simpa using h1,?_⟩
  rw [h2,show k+1+i=k+(i+1) by lia]
theorem mI:∀ (l:Wb) (k:Nat),(iz k l).length=l.length
 | [],_=>rfl
 | x :: l,k=>by simp [iz,mI l (k+1)]
theorem xo {H:Hp} {a:Addr} {vs:List V} {ts:Wb} {Fs:Xg} (K:Xd) (ha:H a=some (.lst vs)) (r:RpL G H vs ts Fs):ItOk G (Ite K a) (iz 0 ts) (a :: Fs.flatten) H:=by
 refine ⟨fun H2 k c=>?_,fun b hb=>?_⟩
 ·have ha2:H2 a=some (.lst vs):=c a Zx _ ha
  have r2:RpL G H2 vs ts Fs:=r.keep k fun b hb o ho=>c b (Zw _ hb) o ho
  refine ⟨fun i t h=>?_,fun i h=>⟨vs,SqL.of ha2,by rw [mI] at h;rw [r.len.1];exact h⟩⟩
  obtain ⟨y,hy,et⟩:=pA ts 0 i h
  rw [Y8] at et
  obtain ⟨v,F,h1,h2,h3⟩:=r2.get i hy
  refine ⟨⟨vs,v,SqL.of ha2,h1⟩,fun x H3 ⟨p,z,hp,e1,e2,e3⟩=>?_⟩
  subst e1 e2
  have ex:=e3 vs (SqL.of ha2)
  rw [h1] at ex
  cases ex
  have sm:aN H2 (upd H2 p (.tup [.int i,v])):=fun b o q=>by rw [aD (cU q hp)];exact q
  refine ⟨sm,F,?_,fun b hb=>.inl (Zw _ (cV h2 hb))⟩
  rw [et]
  have:F=([[],F]:Xg).flatten:=by simp
  rw [this]
  exact .tup aA (.cons (.int _) (.cons (h3.same sm) .nil))
 ·rcases Zh.mp hb with rfl | hb
  ·rw [ha];exact fun z=>nomatch z
  ·exact Mut.ne_none (r.dom b hb)
theorem oV (ha:PV G X a ca) (hg:Gl X "enumerate") (hm:X.mg "enumerate" = none) (hs:starEach [a] X.env=(false,eval a X.env) :: starEach [] X.env:=by rfl) (hs':starEach [a] X.env=[(false,eval a X.env)]:=by rfl) :
  PVI G X (.Tuple elts n tpos) (.Call (.Name "enumerate" p) [a] [] pos) (qB ca) :=
 PI.weak (wZ hg hm (fz ha jW hs) hs') fun σ H R hq=>by
  obtain ⟨Φ,η,m,l,s,e,k⟩:=hq
  unfold qB at e
  obtain ⟨⟨mx,x⟩,ea,e1⟩:=Zz.mp e
  refine ⟨Φ,η,mx,x,s,ea,fun v H' F e3 r3 f3=>?_⟩
  cases x with
  | lst ts =>
   cases e1
   obtain ⟨a',vs,Fs,rfl,rfl,ha',ra⟩:=r3.lst_inv
   exact ⟨a',rfl,⟨vs,SqL.of ha'⟩,k _ H' _ e3 (xo X.K ha' ra) f3.c⟩
  | _=>cases e1
end
noncomputable instance {s:Tx}:Decidable (nH s):=inferInstanceAs (Decidable (_/\_))
section
variable {G:Gx} {X:Cx} {a b c e:Expr} {es:List Expr} {ca cb cc:Ex} {cs:Exs} {pos p p1 p2 apos cpos:Pos} {k k':Nat}
theorem w_add (ha:PV G X a ca) (hb:PV G X b cb):PV G X (.BinOp a .Add b pos) (e2 bD ca cb):=l6 yr zw ha hb
theorem w_sub (ha:PV G X a ca) (hb:PV G X b cb):PV G X (.BinOp a .Sub b pos) (e2 i7 ca cb):=l6 Aj AO ha hb
theorem w_mul (ha:PV G X a ca) (hb:PV G X b cb):PV G X (.BinOp a .Mult b pos) (e2 d5 ca cb):=l6 Be zv ha hb
theorem gO (ha:PV G X a ca) (hb:PV G X b cb):PV G X (.BinOp a .FloorDiv b pos) (e2 gm ca cb):=l6 yH wO ha hb
theorem w_mod (ha:PV G X a ca) (hb:PV G X b cb):PV G X (.BinOp a .Mod b pos) (e2 oMod ca cb):=l6 AS AM ha hb
theorem jd (hr:Room k X.A) (ha:PV G X a ca) (hb:PV G X b cb):PVT G X (.Compare a [.Eq] [b] pos) (e2 oEq ca cb):=eK (pQ hr.units) v9 tells_eq ha hb (fN _)
theorem aY (ha:PV G X a ca) (hb:PV G X b cb) (hs:jF b:=by intro _ _;rfl) (hK:X.K=G.K:=by rfl):PV G X (.Subscript a b pos) (e2 aB ca cb) :=
 PE.weak (qw nP ha hb hs) fun σ H Q h=>by rw [hK];exact jY tM h
theorem cQ (hm:X.mg "len" = none) (ha:PVs G X [e] cs) (hg:Gl X "len" := by rfl) (hK:X.K=G.K:=by rfl) (he:starEach [e] X.env=(false,eval e X.env) :: starEach [] X.env:=by rfl):PV G X (.Call (.Name "len" p) [e] [] pos) (eN bX cs) :=
 jz (hK ▸ sV) zV hg hm PySem.boot_len ha (he:=he) (hpl:=rfl)
theorem zG:bootBuiltins ("min" : Str)=some (.builtin "min"):=by decide +kernel
theorem xW:bootBuiltins ("list" : Str)=some (.type "list"):=by decide +kernel
theorem t5 (hm:X.mg "min" = none) (ha:PVs G X [a,b] cs) (hc:X.calm=true:=by rfl) (hg:Gl X "min" := by rfl) (he:starEach [a,b] X.env=(false,eval a X.env) :: starEach [b] X.env:=by rfl) (hpl:(backTo pos (starEach [b] X.env)).any (·.1)=false:=by rfl):PV G X (.Call (.Name "min" p) [a,b] [] pos) (eN oF cs) :=
 jz (rQ hc) wU hg hm zG ha (he:=he) (hpl:=hpl)
noncomputable def tyN:Ty->Str
 | .int => "int" | .str => "str" | .bool => "bool" | .list => "list" | .tuple => "tuple" | .dict => "dict"
theorem CN (t:Ty):bootBuiltins (tyN t)=some (.type (tyS t)):=by cases t <;> decide +kernel
theorem w_is (t:Ty) (hm:X.mg "isinstance" = none) (hm2:X.mg (tyN t)=none) (ha:PV G X a ca) (hg:Gl X "isinstance" := by rfl) (hg2:Gl X (tyN t):=by rfl) (hK:X.K=G.K:=by rfl)
  (hs:starEach [a,.Name (tyN t) p2] X.env=(false,eval a X.env) :: starEach [.Name (tyN t) p2] X.env:=by rfl):PV G X (.Call (.Name "isinstance" p1) [a,.Name (tyN t) p2] [] pos) (eIs t ca) :=
 Cg t ha hg hm hg2 hm2 (CN t) hK (by cases t <;> decide) (by cases t <;> decide) hs rfl rfl
theorem iu (i:Nat) {x:Str} (ha:PVs G X [e] cs) (hK:X.K=G.K:=by rfl)
  (hN:X.N[i]?=some x:=by rfl) (hv:Vis X.env.scope x:=by first | exact Or.inl rfl | exact Or.inr (Or.inl rfl) | exact Or.inr (Or.inr rfl)) (hd:(x == ("__debug__" : Str))=false:=by decide)
  (hcd:(x == ("__classdict__" : Str))=false:=by decide) (hfew:((backTo cpos (starEach [e] X.env)).all (fun x=>!x.1) && (backToKw cpos (keywordEach [] X.env)).all (fun x=>x.1.isSome)
   && decide ([e].length+([]:List Keyword).length+(if ([]:List Keyword).isEmpty then 0 else 1) < 30))=true:=by rfl)
  (hline:(apos.endLine == cpos.line)=true:=by rfl) (hs:starEach [e] X.env=(false,eval e X.env) :: starEach [] X.env:=by rfl) :
  PSV G X (.Expr (.Call (.Attribute (.Name x p1) "append" apos) [e] [] cpos) pos) (sX (lW i [] aJ cs)) :=
 vf i XX XZ Xa iG ma (fun H v t F l z r h=>j9 r h) ha hK hN hv hd hcd rfl hfew hline hs rfl rfl
end
structure FnAt (P:Program) (w:World) (K:Xd) (mg:Wx) (base:Heap) (k:Nat) (x:Str) (ps:List Str) (G:Gx) (g:Fn):Prop where
 ex:∃ f fd,FnOk P w K mg base CX0 k f fd ps (spF G g)/\mg x=some (.ref f)/\PySem.W.keepIn K (.ref f)=true/\Binds K fd ps []
section
variable {G:Gx} {X:Cx} {e:Expr} {es:List Expr} {cs:Exs} {pos p:Pos} {k k':Nat} {x:Str} {ps:List Str} {g:Fn}
theorem aZ (F:FnAt X.prog X.w X.K X.mg X.base k x ps G g) (hr:Room k' X.A) (ha:PVs G X (e :: es) cs) (hk:k<=k':=by decide) (hg:Gl X x:=by rfl) (hdb:(x == ("__debug__" : Str))=false:=by decide)
  (he:starEach (e :: es) X.env=(false,eval e X.env) :: starEach es X.env:=by rfl) (hpl:(backTo pos (starEach es X.env)).any (·.1)=false:=by rfl) :
  PV G X (.Call (.Name x p) (e :: es) [] pos) (aL g cs):=by
 obtain ⟨f,fd,h1,h2,h3,h4⟩:=F.ex
 exact xq h1 (hr.mono hk) hg h2 h3 h4 ha hdb he hpl
end
section
variable {G:Gx} {P:Program} {w:World} {K:Xd} {mg:Wx} {base:Heap}
theorem fM {x:Str} {st:Stmt} {f:Addr} {fd:FuncData} {N ps:List Str} {k np nn:Nat} {c:Sx} (F:Fun K x x st f fd) (hm:mg x=some (.ref f)) (S:FnScope N ps (aj st)) (hp:ps.length=np) (hn:N.length=nn)
  (hbd:∀ (kV doc pm:Value) (an:Option Addr) (cdv ct:Value) (us:Wk),us.length=ps.length->bindArgs (PySem.W.fnOf x x (cP st) (bf st) (aj st) .none kV doc pm an cdv ct) ⟨us,[]⟩=pure (ps.zip us))
  (hb:∀ (cdv:Value) (A:Around) (outer:List PySem.Env) (s:Shared) (H:Hp) (E:XK),Room k (A.deeper (envOfC x (aj st) s.heap.objs.size f cdv))->ip G (iP CX0 P w K mg base N x (aj st) f cdv A outer s H E).nox (bf st) c) :
  FnAt P w K mg base (k+1) x ps G (fn np nn c) :=
 ⟨f,fd,fnV F S hp hn hb,hm,F.kp,F.binds hbd⟩
end
end VS
end
section
namespace L2
open PySem PySem.Spec PyProof.Rows
noncomputable def Its (x:Str):It:=⟨fun i _=>i < x.cps.size,fun i H v H'=>H'=H/\∃ c,x.cps[i]?=some c/\v=.str ⟨#[c]⟩,fun i _=>x.cps.size<=i⟩
theorem mw {P:Program} {w:World} {K:Xd} {tg:Expr} (x:Str) (t:Tok) (it:Addr) (ty:String) (hn:["enumerate", "zip", "dict_itemiterator", "dict_reverseitemiterator", "odict_iterator", "itertools.zip_longest", "itertools.pairwise"].contains ty=false)
  (W:∀ A:Around,A.handled=none->Walks P w A it [it] [it] x.cps.size (fun i v=>∃ c u,x.cps[i]?=some c/\v=.str ⟨#[c]⟩ u) (fun i h=>h.IsStrIter it ty x t i)) (hend:∀ (A:Around),A.handled=none->∀ (i:Nat) (s:Shared) (Q:Wj->Shared->Prop) (E:Y7),s.heap.IsStrIter it ty x t i->x.cps[i]?=none->(∀ h',Heap.ExtBut it s.heap h'->Q none { s with heap:=h' })->wpAny (model P w) A (pyNext (.ref it)) Q E s)
  (hself:∀ (A:Around) (i:Nat) (s:Shared) (Q:Y7) (E:Y7),s.heap.IsStrIter it ty x t i->Q (.ref it) s->wpAny (model P w) A (pyIter (.ref it)) Q E s) :
  Turn P w K tg (Its x) [it] it (fun i h=>h.IsStrIter it ty x t i) where
 mem:=by simp
 obj:=fun i h st b hb=>by
  rw [Zf.mp hb]
  obtain ⟨o,e,c,d⟩:=st
  exact ⟨o,e,fun v z=>by rw [d] at z;cases z⟩
 keep:=fun i h h' st k=>let ⟨o,e,r⟩:=st;⟨o,k it (by simp) o e,r⟩
 item:=by
  intro X hP hw hK hc i pins s σ H E I hf st hg
  subst hP hw hK
  obtain ⟨f0,f1,f2,f3,f4,f5⟩:=hf it (by simp)
  refine (W X.A (I.ok.hd hc)).item i s _ _ hg st fun v h' tk hv st' kk=>?_
  obtain ⟨c,u,hc',rfl⟩:=hv
  have I1:Inv X pins σ H { s with heap:=h',toks:=tk }:=I.turned (fun b o hb e=>kk b o (by simpa using hb) e) f0 f1 f3 f4 f5
  obtain ⟨o,e,c1,d⟩:=id st'
  exact ⟨_,rfl,o6 (s:={ s with heap:=h',toks:=tk }) e c1 d hn ⟨.str ⟨#[c]⟩,H,I1,⟨u,rfl⟩,⟨rfl,c,hc',rfl⟩,st',fun b hb=>(hf b hb).1⟩⟩
 done:=by
  intro X hP hw hK hc i pins s σ H E I hf st hg
  subst hP hw hK
  obtain ⟨f0,f1,f2,f3,f4,f5⟩:=hf it (by simp)
  have hx:x.cps.size<=i:=hg
  exact hend X.A (I.ok.hd hc) i s _ _ st (by simp [hx]) fun h' eb=>⟨rfl,I.turned (t':=s.toks) (fun b o hb e=>eb b o hb e) f0 f1 f3 f4 f5⟩
 self:=fun A i s Q E st h=>hself A i s Q E st h
theorem uw {P:Program} {w:World} {K:Xd} {tg:Expr} (x:Str) (t:Tok) (it:Addr):Turn P w K tg (Its x) [it] it (fun i h=>h.IsStrIter it (strIterType x) x t i):=by
 cases ha:x.cps.all (· < 128)
 ·have e:strIterType x = "str_iterator" := by simp [strIterType,ha]
  rw [e]
  exact mw x t it "str_iterator" rfl (fun A hA=>Walks.strWide hA it x t) (fun A hA i s Q E st hx q=>wpAny_pyNext_wide_end hA st hx q) fun A i s Q E st q=>wpAny_pyIter_striter_wide st q
 ·have e:strIterType x = "str_ascii_iterator" := by simp [strIterType,ha]
  rw [e]
  exact mw x t it "str_ascii_iterator" rfl (fun A hA=>Walks.strAscii hA it x t) (fun A hA i s Q E st hx q=>wpAny_pyNext_ascii_end hA st hx q) fun A i s Q E st q=>wpAny_pyIter_striter_ascii st q
section
variable {X:Cx} {tg l a b c:Expr} {tl ta tb tc:TE} {pos:Pos}
noncomputable def Bu (K:Xd) (tl:TE):TI:=fun σ H R=>tl σ H fun x H1=>(∃ a,x=.ref a/\(∃ xs,SqL K H1 a xs)/\R (Itl K a) H1)\/(∃ a,x=.ref a/\(∃ xs,SqT K H1 a xs)/\R (Itt K a) H1)\/∃ z,x=.str z/\R (Its z) H1
theorem wF (hl:PE X l tl):PI X tg l (Bu X.K tl):=by
 intro pins s σ H R I h
 refine thn (hl pins s σ H _ I h) fun v s1 ⟨x,H1,I1,r1,q1⟩=>?_
 have fp1:∀ b∈[s1.heap.objs.size],lZ X pins H1 b:=fun b hb=>by
  rw [Zf.mp hb]
  exact I1.fpOk (Zl _) (I1.hok.fresh (Zl _))
 rcases q1 with ⟨a,e,⟨xs,hq⟩,q⟩ | ⟨a,e,⟨xs,hq⟩,q⟩ | ⟨z,e,q⟩
 ·subst e
  cases r1
  obtain ⟨its,rv,p,hz⟩:=I1.list hq
  exact wpAny_pyIter_list p.isList ⟨s1.heap.objs.size,[s1.heap.objs.size],_,_,H1,rfl,I1.kept (t':=s1.toks) fun b o e=>Zi _ e,rS a _,⟨_,ZJ _ rfl,rfl,rfl⟩,fp1,q⟩
 ·subst e
  cases r1
  obtain ⟨its,rv,p,hz⟩:=I1.tuple hq
  exact wpAny_pyIter_tuple (show s1.heap.IsTuple a its.toArray from p) ⟨s1.heap.objs.size,[s1.heap.objs.size],_,_,H1,rfl,I1.kept (t':=s1.toks) fun b o e=>Zi _ e,qg a _,⟨_,ZJ _ rfl,rfl,rfl⟩,fp1,q⟩
 ·subst e
  obtain ⟨t,rfl⟩:=r1
  exact wpAny_pyIter_strU ⟨s1.heap.objs.size,[s1.heap.objs.size],_,_,H1,rfl,I1.kept (t':=s1.toks) fun b o e=>Zi _ e,uw z t _,⟨_,ZJ _ rfl,rfl,rfl⟩,fp1,q⟩
theorem wL {s:Shared} {h':Heap} {o:Obj} (hk:∀ b x,b ∉ [s.heap.objs.size]->(s.heap.push o).get? b=some x->h'.get? b=some x) (b:Addr) (x:Obj) (e:s.heap.get? b=some x):h'.get? b=some x :=
 hk b x (fun hm=>Yn _ (by have:=ZQ e;rw [Zf.mp hm] at this;exact this)) (Zi _ e)
theorem wq (hc:X.calm=true):dP X (.builtin "sum") (fun xs H Q=>∃ p,∃ ns:Wh,xs=[.ref p]/\SqL X.K H p (ns.map V.int)/\Q (.int ns.sum) H):=by
 intro pins s σ H xs us Q I rx h
 obtain ⟨p,ns,rfl,hq,q⟩:=h
 obtain ⟨u,rfl,ru⟩:=rx.one
 cases ru
 obtain ⟨its,rv,pl,hz⟩:=I.list hq
 have hl:p < s.heap.objs.size:=by obtain ⟨_,e,_⟩:=pl.isList;exact ZQ e
 refine call_sum_walkG (wpAny_pyIter_list pl.isList ⟨s.heap.objs.size,[s.heap.objs.size,p],[s.heap.objs.size],its.toArray.size,_,_,fun i=>(ns[i]?).getD 0,rfl,Walks.list (A:=X.A.in1) (I.ok.hd hc) _ p (ZS hl) its.toArray,
  ⟨⟨_,ZJ _ rfl,rfl,rfl⟩,pl.isList.push _⟩,fun b hb=>?_,fun i v hP=>?_,fun h' tk t' hk=>⟨.int ns.sum,H,I.kept (wL hk),⟨t',?_⟩,q⟩⟩)
 ·rw [Ws]
  rcases Zh.mp hb with rfl | hb
  ·exact Yg _
  ·rw [Zf.mp hb];exact Ww hl
 ·have hv:its[i]?=some v:=by simpa using hP
  cases e:ns[i]? with
  | none =>
   have:=rv.none_of (i:=i) (by rw [ZE,e];rfl)
   rw [this] at hv;cases hv
  | some n =>
   obtain ⟨u,hu,ru⟩:=rv.get (i:=i) (x:=.int n) (by rw [ZE,e];rfl)
   rw [hu] at hv;cases hv
   obtain ⟨t,rfl⟩:=ru
   exact ⟨t,by simp [e]⟩
 ·have hlen:its.toArray.size=ns.length:=by have:=rv.length;simp at this ⊢;exact Eq.symm this
  have:∀ k,k<=ns.length->preSum (fun i=>(ns[i]?).getD 0) k=(ns.take k).sum:=fun k=>by
   induction k with
   | zero=>intro _;simp [preSum]
   | succ k ih =>
    intro hk
    rw [List.take_succ,List.sum_append,preSum,ih (by exact Nat.le_of_succ_le hk)]
    cases e:ns[k]? <;> simp
  rw [hlen,this _ (Zl _),List.take_length]
theorem rX:OpR X (compareOp .Gt) (fun x y H Q=>∃ i j,x=.str i/\y=.str j/\Q (.bl (decide (j.cps.toList < i.cps.toList))) H):=by
 intro pins s σ H x y v u Q I rx ry h
 obtain ⟨i,j,rfl,rfl,q⟩:=h
 obtain ⟨t,rfl⟩:=rx
 obtain ⟨t',rfl⟩:=ry
 exact PySem.P.gt_str ⟨.bl _,H,I,rfl,q⟩
theorem sE:OpR X (compareOp .GtE) (fun x y H Q=>∃ i j,x=.str i/\y=.str j/\Q (.bl (!decide (i.cps.toList < j.cps.toList))) H):=by
 intro pins s σ H x y v u Q I rx ry h
 obtain ⟨i,j,rfl,rfl,q⟩:=h
 obtain ⟨t,rfl⟩:=rx
 obtain ⟨t',rfl⟩:=ry
 exact PySem.P.ge_str ⟨.bl _,H,I,rfl,q⟩
end
end L2
end
section
namespace VS
open PySem PySem.Spec PyProof.Rows L2
section
variable {G:Gx} {X:Cx} {a b c e tg:Expr} {es:List Expr} {ca cb cc:Ex} {cs:Exs} {pos p p1 p2 apos cpos:Pos} {k k':Nat}
theorem Ba (H:Hp) (s:Tx) (ok:nH s):ItOk G (L2.Its (sx s)) (s.map fun c=>T.str [c]) [] H:=by
 have sz:(sx s).cps.size=s.length:=rfl
 refine ⟨fun H2 _ _=>⟨fun i t h=>?_,fun i h=>(by rw [Zv] at h;show (sx s).cps.size<=i;lia)⟩,fun a h=>by simp at h⟩
 rw [ZE] at h
 obtain ⟨c,hc,rfl⟩:=Zu.mp h
 refine ⟨(by show i < (sx s).cps.size;have:=(ZZ.mp hc).1;lia),fun x H3 ⟨e1,c',hc',e2⟩=>?_⟩
 subst e1
 have:c'=c:=by
  have h1:(sx s).cps[i]?=some c:=by simp [sx,hc]
  rw [h1] at hc';exact (Zn hc').symm
 subst this
 rw [e2]
 exact ⟨aN.refl _,[],.str [c'] ⟨(by show 1<=eA;decide),fun d hd=>by rw [Zf.mp hd];exact ok.2 c' (YC hc)⟩,fun a h=>by simp at h⟩
theorem fA (ha:PV G X a ca) (hK:X.K=G.K:=by rfl):PVI G X tg a (g8 ca) :=
 PI.weak (wF ha) fun σ H R hq=>by
  obtain ⟨Φ,η,m,l,s,e,k⟩:=hq
  unfold g8 at e
  obtain ⟨⟨mx,x⟩,ea,e1⟩:=Zz.mp e
  refine ⟨Φ,η,mx,x,s,ea,fun v H' F e3 r3 f3=>?_⟩
  cases x with
  | lst ts =>
   cases e1
   obtain ⟨a',vs,Fs,rfl,rfl,ha',ra⟩:=r3.lst_inv
   exact .inl ⟨a',rfl,⟨vs,SqL.of ha'⟩,k _ H' _ e3 (yc X.K ha' ra) f3.c⟩
  | tup ts =>
   cases e1
   obtain ⟨a',vs,Fs,rfl,rfl,ha',ra⟩:=r3.tup_inv
   exact .inr (.inl ⟨a',rfl,⟨vs,SqT.of ha'⟩,k _ H' _ e3 (Bn X.K ha' ra) f3.c⟩)
  | str z =>
   cases e1
   obtain ⟨rfl,ok⟩:=r3.str_inv
   exact .inr (.inr ⟨_,rfl,k _ H' [] e3 (Ba H' z ok) fun a h=>by simp at h⟩)
  | _=>cases e1
theorem q8 {H:Hp}:∀ {vs:List V} {l:Wb} {Fs:Xg} {ss:Wh},RpL G H vs l Fs->jA l=some ss->vs=ss.map V.int
 | _,_,_,_,.nil,e=>by cases e;rfl
 | _,_,_,_,.cons (t:=t) r q,e=>by
  cases t with
  | int s =>
   simp only [jA] at e
   obtain ⟨ss',e1,e2⟩:=Zu.mp e
   subst e2
   rw [q8 q e1,r.int_inv]
   rfl
  | _=>cases e
theorem zp:fR G (fun xs H Q=>∃ p,∃ ns:Wh,xs=[.ref p]/\SqL G.K H p (ns.map V.int)/\Q (.int ns.sum) H) oQ:=by
 intro Φ η H0 H l vs Fs m t Q A e k
 unfold oQ at e
 split at e
 ·rename_i mx x
  obtain ⟨is,e1,e2⟩:=Zz.mp e
  cases e2
  obtain ⟨v,F,rfl,rfl,rx⟩:=(show RpL G H vs [.lst x] Fs from A.rp).one
  obtain ⟨a,ys,Gs,rfl,rfl,ha,ra⟩:=rx.lst_inv
  exact ⟨a,is,rfl,by rw [← q8 ra e1];exact SqL.of ha,bB k (.int _)⟩
 ·cases e
theorem A1:bootBuiltins ("sum" : Str)=some (.builtin "sum"):=by decide +kernel
theorem ur:bootBuiltins ("tuple" : Str)=some (.type "tuple"):=by decide +kernel
theorem w_sum (hm:X.mg "sum" = none) (ha:PVs G X [e] cs) (hg:Gl X "sum" := by rfl) (hK:X.K=G.K:=by rfl) (hc:X.calm=true:=by rfl) (he:starEach [e] X.env=(false,eval e X.env) :: starEach [] X.env:=by rfl):PV G X (.Call (.Name "sum" p) [e] [] pos) (eN oQ cs) :=
 jz (wq hc) (hK ▸ zp) hg hm A1 ha (he:=he) (hpl:=rfl)
theorem tU:fR G (fun xs H Q=>∃ p ys,xs=[.ref p]/\((SqL G.K H p ys/\∀ l,H l=none->Q (.ref l) (upd H l (.tup ys)))\/(SqT G.K H p ys/\Q (.ref p) H))) iH:=by
 intro Φ η H0 H l vs Fs m t Q A e k
 unfold iH at e
 split at e
 ·rename_i mx x
  split at e
  ·rename_i hl
   cases e
   obtain ⟨v,F,rfl,rfl,rx⟩:=(show RpL G H vs [.lst x] Fs from A.rp).one
   obtain ⟨a,ys,Gs,rfl,rfl,ha,ra⟩:=rx.lst_inv
   have f:=(A.fp.each 0 _ _ rfl rfl).sub (Yv _ _)
   refine ⟨a,ys,rfl,.inl ⟨SqL.of ha,fun q hq=>?_⟩⟩
   have sm:aN H (upd H q (.tup ys)):=dj hq
   have r:Rp G (upd H q (.tup ys)) (.ref q) (.tup x) Gs.flatten:=.tup aA (ra.same sm)
   exact k _ _ _ sm r (f.up r)
  ·cases e
 ·cases e
theorem qy (hm:X.mg "tuple" = none) (ha:PVs G X [e] cs) (hg:Gl X "tuple" := by rfl) (hK:X.K=G.K:=by rfl) (he:starEach [e] X.env=(false,eval e X.env) :: starEach [] X.env:=by rfl):PV G X (.Call (.Name "tuple" p) [e] [] pos) (eN iH cs) :=
 jR l5 (hK ▸ tU) hg hm ur ha (he:=he) (hpl:=rfl)
noncomputable def rGt:R2:=fun x y H Q=>rI0 (fun i j=>.bl (decide (j < i))) x y H Q\/(∃ i j,x=.str i/\y=.str j/\Q (.bl (decide (j.cps.toList < i.cps.toList))) H)
noncomputable def rGe:R2:=fun x y H Q=>rI0 (fun i j=>.bl (decide (j<=i))) x y H Q\/(∃ i j,x=.str i/\y=.str j/\Q (.bl (!decide (i.cps.toList < j.cps.toList))) H)
theorem tH (s t:Tx):decide ((sx s).cps.toList < (sx t).cps.toList)=ltx s t:=by rw [lb];exact decide_eq_decide.mpr (by simp [sx])
theorem Cp:fu G rGt oGt:=by
 intro Φ η H0 H x y u w F1 F2 m t Q tw e k
 obtain ⟨m1,x⟩:=x
 obtain ⟨m2,y⟩:=y
 obtain ⟨same,r1,r2,f1,f2,nd⟩:=tw
 unfold oGt oLt at e
 split at e
 ·rename_i e1 e2
  cases e1
  cases e2
  cases e
  exact .inl ⟨_,_,r1.int_inv,r2.int_inv,bB k (.bl _)⟩
 ·rename_i s _ s' e1 e2
  cases e1
  cases e2
  cases e
  refine .inr ⟨_,_,r1.str_inv.1,r2.str_inv.1,?_⟩
  rw [tH]
  exact bB k (.bl _)
 ·cases e
theorem Cu:fu G rGe oGe:=by
 intro Φ η H0 H x y u w F1 F2 m t Q tw e k
 obtain ⟨m1,x⟩:=x
 obtain ⟨m2,y⟩:=y
 obtain ⟨same,r1,r2,f1,f2,nd⟩:=tw
 unfold oGe oLe at e
 split at e
 ·rename_i e1 e2
  cases e1
  cases e2
  cases e
  exact .inl ⟨_,_,r1.int_inv,r2.int_inv,bB k (.bl _)⟩
 ·rename_i s _ s' e1 e2
  cases e1
  cases e2
  cases e
  refine .inr ⟨_,_,r1.str_inv.1,r2.str_inv.1,?_⟩
  rw [tH]
  exact bB k (.bl _)
 ·cases e
theorem uA:Tells oGt:=fun x y m t e=>jg y x m t e
theorem vO:Tells oGe:=fun x y m t e=>uM y x m t e
theorem pF (ha:PV G X a ca) (hb:PV G X b cb):PVT G X (.Compare a [.Gt] [b] pos) (e2 oGt ca cb):=eK (r:=rGt) (BI.or rX) Cp uA ha hb (fN _)
theorem tJ (ha:PV G X a ca) (hb:PV G X b cb):PVT G X (.Compare a [.GtE] [b] pos) (e2 oGe ca cb):=eK (r:=rGe) (Bw.or sE) Cu vO ha hb (fN _)
theorem uU {r r':R2} {f g:Val->Val->Wc} (ok:fu G r f) (ok':fu G r' g) {σ:L2.St} {H:Hp} {Q:VK} (h:tE G (i5 f g ca cb cc) σ H Q):vw r r' (tE G ca) (tE G cb) (tE G cc) σ H Q:=by
 obtain ⟨Φ,η,m,t,s,e,k⟩:=h
 unfold i5 at e
 obtain ⟨x,ea,e⟩:=Zz.mp e
 obtain ⟨y,eb,e⟩:=Zz.mp e
 obtain ⟨⟨mz,z⟩,ez,e⟩:=Zz.mp e
 refine vR s ea eb fun u w H2 F1 F2 tw=>ok Φ η H H2 x y u w F1 F2 mz z _ tw ez fun v H3 F e1 r1 f1=>?_
 cases z with
 | bl q =>
  refine ⟨q,r1.bl_inv,?_⟩
  cases q with
  | false =>
   cases e
   rw [Zo Za]
   exact k _ H3 [] (tw.same.trans e1) (.bl false) Fp.nil
  | true =>
   rw [Zr rfl]
   obtain ⟨z2,ec,e⟩:=Zz.mp (show (cc η).bind (fun z=>g y z)=some (m,t) from e)
   have sm:=tw.same.trans e1
   refine ⟨Φ,η,z2.1,z2.2,s.same sm,ec,fun w2 H4 F4 e4 r4 f4=>?_⟩
   refine ok' Φ η H H4 y z2 w w2 F2 F4 m t Q ⟨sm.trans e4,(tw.r2.same e1).same e4,r4,tw.f2,f4.back sm,fun hx hy=>?_⟩ e fun v' H5 F5 e5 r5 f5=>k v' H5 F5 ((sm.trans e4).trans e5) r5 f5
   have f2:=tw.f2
   rw [hx] at f2
   rw [hy] at f4
   refine ZO.mpr ⟨f2.1,f4.1,fun a ha b hb z=>?_⟩
   subst z
   exact Mut.ne_none ((tw.r2.same e1).dom a ha) (f4.2 a hb)
 | _=>cases e
theorem qR {x:Str} {i:Int} (h:∃ t,X.mg x=some (.int i t)) (hg:Gl X x:=by rfl) (hd:(x == ("__debug__" : Str))=false:=by decide):PV G X (.Name x pos) (Q2 i):=by
 obtain ⟨t,ht⟩:=h
 exact yf (v:=.int i) hg ht ⟨t,rfl⟩ (fun H=>.int i) hd
end
end VS
end
section
namespace L2
open PySem PySem.Spec PyProof.Rows
section
variable {X:Cx}
theorem sy {α:Type} (l:List α) (n:Nat):∀ acc:List α,List.foldl (fun x1 x2=>x1++x2) acc.toArray (List.replicate n l.toArray)=(acc++(List.replicate n l).flatten).toArray:=by
 induction n with
 | zero=>intro acc;simp
 | succ n ih =>
  intro acc
  rw [Xj,List.foldl_cons]
  have e:acc.toArray++l.toArray=(acc++l).toArray:=by simp
  rw [e,ih (acc++l),Xj,ZU,Z1]
theorem wM:OpR X (binaryOp .Mult) (fun x y H Q=>∃ (l:Wi) (k:Int),x=.str ⟨l.toArray⟩/\y=.int k/\-(2 ^ 62)<=k/\k < 2 ^ 62/\l.length * k.toNat<=sizeLine/\Q (.str ⟨(List.replicate k.toNat l).flatten.toArray⟩) H):=by
 intro pins s σ H x y v u Q I rx ry h
 obtain ⟨l,k,rfl,rfl,h1,h2,hz,q⟩:=h
 obtain ⟨t,rfl⟩:=rx
 obtain ⟨t',rfl⟩:=ry
 have hlen:(⟨l.toArray⟩:Str).length=l.length:=rfl
 refine PySem.P.mul_str ?_ ?_ ?_ ?_
 ·rw [Bool.or_eq_false_iff]
  exact ⟨Ze (by lia),Ze (by lia)⟩
 ·intro h3 _ hh
  rw [hlen] at hh
  have hk:0 < k:=by lia
  have:(l.length:Int) * k<=16777216:=by
   have hz':l.length * k.toNat<=16777216:=hz
   have:((l.length * k.toNat:Nat):Int)<=16777216:=by lia
   rw [Int.natCast_mul] at this
   rwa [Int.toNat_of_nonneg (by lia)] at this
  have h5:(l.length:Int) * k<=2 ^ 63 - 1:=by lia
  have:=(Int.le_ediv_iff_mul_le hk).mpr h5
  lia
 ·intro _ _
  rw [hlen]
  exact Ze (by show ¬ _ > _;exact Nat.not_lt.mpr hz)
 ·by_cases h3:k < 1
  ·rw [Zr h3]
   have e:k.toNat=0:=by lia
   rw [e] at q
   exact ⟨by decide,⟨.str ⟨#[]⟩,H,I.tok _,⟨_,rfl⟩,q⟩⟩
  ·rw [Zo h3]
   split
   ·rename_i hc
    have e:(List.replicate k.toNat l).flatten=l:=by
     rw [Bool.or_eq_true] at hc
     rcases hc with hc | hc
     ·have:k=1:=by simpa using hc
      subst this
      show (List.replicate 1 l).flatten=l
      simp
     ·have:l=[]:=by
       rw [hlen] at hc
       exact List.eq_nil_of_length_eq_zero (by simpa using hc)
      subst this
      simp
    rw [e] at q
    exact ⟨.str ⟨l.toArray⟩,H,I,⟨t,rfl⟩,q⟩
   ·have e:=sy l k.toNat []
    rw [Xk] at e
    rw [show (⟨l.toArray⟩:Str).cps=l.toArray from rfl,e]
    refine ⟨?_,⟨.str ⟨(List.replicate k.toNat l).flatten.toArray⟩,H,I.tok _,⟨s.toks,rfl⟩,q⟩⟩
    have hl:=len_rep l k.toNat
    show (⟨(List.replicate k.toNat l).flatten.toArray⟩:Str).length<=sizeLine
    show ((List.replicate k.toNat l).flatten.toArray).size<=sizeLine
    rw [ZV,hl,Nat.mul_comm]
    exact hz
end
end L2
namespace VS
open PySem PySem.Spec PyProof.Rows L2
section
variable {G:Gx} {X:Cx} {a b c e tg:Expr} {es:List Expr} {ca cb cc:Ex} {cs:Exs} {pos p p1 p2 apos cpos:Pos} {k k':Nat}
theorem xN:fu G (fun x y H Q=>∃ (l:Wi) (k:Int),x=.str ⟨l.toArray⟩/\y=.int k/\-(2 ^ 62)<=k/\k < 2 ^ 62/\l.length * k.toNat<=sizeLine/\Q (.str ⟨(List.replicate k.toNat l).flatten.toArray⟩) H) oR:=by
 intro Φ η H0 H x y u w F1 F2 m t Q tw e k
 obtain ⟨m1,x⟩:=x
 obtain ⟨m2,y⟩:=y
 obtain ⟨same,r1,r2,f1,f2,nd⟩:=tw
 unfold oR at e
 split at e
 ·rename_i _ ts _ j e1 e2
  cases e1
  cases e2
  split at e
  ·rename_i hc
   cases e
   have b1:=hc.2.1
   have b2:=hc.2.2
   unfold B62 at b1 b2
   refine ⟨ts,j,r1.str_inv.1,r2.int_inv,by lia,by lia,hc.1,bB k (.str _ ⟨?_,fun c hc'=>?_⟩)⟩
   ·rw [len_rep,Nat.mul_comm];exact hc.1
   ·obtain ⟨x,hx,hcx⟩:=List.mem_flatten.mp hc'
    rw [(List.mem_replicate.mp hx).2] at hcx
    exact r1.str_inv.2.2 c hcx
  ·cases e
 ·cases e
theorem pX:PV G X (.Dict [] [] pos) (kJ 0 []):=PE.weak v7 fun σ H Q hq=>by
 obtain ⟨Φ,η,m,t,s,e,k⟩:=hq
 cases (show some (Md.fr,T.dct 0 [])=some (m,t) from e)
 intro q hq
 have:Rp G (upd H q (.dK [])) (.ref q) (.dct 0 ((([]:List Key).map aO).zip [])) (q :: ([]:Xg).flatten):=.dct aA rfl .nil
 exact k _ _ [q] (dj hq) this ⟨by simp,fun b hb=>by rw [Zf.mp hb];exact hq⟩
end
section
variable {G:Gx} {X:Cx} {a b c e tg:Expr} {es:List Expr} {ca cb cc ce:Ex} {cs:Exs} {pos p p1 p2 apos cpos pos':Pos} {k k':Nat}
theorem iF {body:List Stmt} {cb:Sx} (hp:PassesOwn (model X.prog X.w) X.A X.env X.xe) (hc:PVT G X c cc) (hb:ip G X body cb):PSV G X (.While c body [] pos) (j5 cc cb) :=
 PS.weak (ug hp hc hb) fun D σ H hq=>by
  obtain ⟨Φ,η,o,s,e,k⟩:=hq
  refine ⟨fun n σ2 H2=>∃ Φ2 η2,SR G Φ2 η2 σ2 H2/\Frm Φ η H Φ2 η2 H2/\eE cc cb n η2=some o,⟨sA,Φ,η,s,Frm.refl Φ η H,e⟩,?_⟩
  rintro n σ2 H2 ⟨Φ2,η2,s2,f2,e2⟩
  cases n with
  | zero=>cases (show (none:Option Out)=some o from e2)
  | succ n =>
   rw [eE] at e2
   obtain ⟨⟨mx,x⟩,ex,e3⟩:=Zz.mp e2
   obtain ⟨t,et,e4⟩:=Zz.mp e3
   refine ⟨Φ2,η2,mx,x,t,s2,ex,et,fun H3 sm=>?_⟩
   have s3:=s2.same sm
   have f3:Frm Φ η H Φ2 η2 H3:=f2.trans (Frm.same sm)
   cases t with
   | false =>
    rw [Zo Za] at e4
    cases e4
    show if false=true then _ else _
    rw [Zo Za]
    exact k Φ2 σ2 H3 s3 f3
   | true =>
    rw [Zr rfl] at e4
    show if true=true then _ else _
    rw [Zr rfl]
    obtain ⟨o',e5,e6⟩:=Zz.mp e4
    refine ⟨fun σ4 H4=>∃ Φ4 η4,SR G Φ4 η4 σ4 H4/\Frm Φ η H Φ4 η4 H4/\eE cc cb n η4=some o,fun σ4 H4 q=>⟨n,Yg n,q⟩,Φ2,η2,o',s3,e5,?_⟩
    cases o' with
    | nx η4=>exact fun Φ4 σ4 H4 s5 fb=>⟨Φ4,η4,s5,f3.trans fb,e6⟩
    | ct η4=>exact fun Φ4 σ4 H4 s5 fb=>⟨Φ4,η4,s5,f3.trans fb,e6⟩
    | bk η4 =>
     cases (show some (Out.nx η4)=some o from e6)
     exact fun Φ4 σ4 H4 s5 fb=>k Φ4 σ4 H4 s5 (f3.trans fb)
    | rt v η4 =>
     cases (show some (Out.rt v η4)=some o from e6)
     exact fun u H4 F4 Φ4 σ4 s5 fb r5 q5=>k u H4 F4 Φ4 σ4 s5 (f3.trans fb) r5 (q5.back f3)
noncomputable def sNo:Sx:=fun _=>none
theorem ni {st:Stmt}:PSV G X st sNo:=fun pins s σ H D I ⟨_,_,_,_,e,_⟩=>nomatch (show (none:Option Out)=some _ from e)
theorem eO {H:Hp} {v:V} {l:List (T×T)} {F:Wm} (r:Rp G H v (.dct 0 l) F):∃ (a:Addr) (ks:List Key) (vs:List V) (ts:Wb) (Fs:Xg),v=.ref a/\F=a :: Fs.flatten/\H a=some (.dK (ks.zip vs))/\ks.length=vs.length/\l=(ks.map aO).zip ts/\RpL G H vs ts Fs:=by
 cases r with
 | dct h hl q=>exact ⟨_,_,_,_,_,rfl,rfl,h,hl,rfl,q⟩
theorem dv {H:Hp} {v:V} {t:T} {F:Wm} (r:Rp G H v t F) (h:iQ t=true):∃ k:Key,v=kV k/\t=aO k:=by
 cases t with
 | int i=>exact ⟨.inl i,r.int_inv,rfl⟩
 | str s=>exact ⟨.inr (sx s),r.str_inv.1,by simp [aO,sx]⟩
 | _=>cases h
theorem jc {H:Hp} {k:Key}:∀ {ks:List Key} {vs:List V} {ts:Wb} {Fs:Xg},ks.length=vs.length->RpL G H vs ts Fs →
  (dX ((ks.map aO).zip ts) (aO k)=none/\gg (ks.zip vs) k=none)\/∃ (i:Nat) (v:V) (t:T) (F:Wm),dX ((ks.map aO).zip ts) (aO k)=some t/\gg (ks.zip vs) k=some v/\vs[i]?=some v/\Fs[i]?=some F/\Rp G H v t F
 | [],[],_,_,_,.nil=>.inl ⟨rfl,rfl⟩
 | k' :: ks,v :: vs,_,_,hl,.cons (t:=t) (F:=F) (ts:=ts) (Fs:=Fs) r q=>by
  have e:eqT (aO k') (aO k)=decide (k'=k):=by
   rw [Y4,decide_eq_true_eq]
   cases k with
   | inl i=>cases k' <;> simp [aO]
   | inr x =>
    obtain ⟨⟨x⟩⟩:=x
    cases k' with
    | inl j=>simp [aO]
    | inr y=>obtain ⟨⟨y⟩⟩:=y;simp [aO]
  by_cases hk:k'=k
  ·refine .inr ⟨0,v,t,F,?_,iy hk,rfl,rfl,r⟩
   have e':eqT (aO k') (aO k)=true:=by rw [e];exact ZL hk
   simp only [dX,Zs,Zg,Z0,e']
   rfl
  ·have h1:dX (((k' :: ks).map aO).zip (t :: ts)) (aO k)=dX ((ks.map aO).zip ts) (aO k):=by
    have e':eqT (aO k') (aO k)=false:=by rw [e];exact Ze hk
    simp only [dX,Zs,Zg,Z0,e']
   have h2:gg ((k' :: ks).zip (v :: vs)) k=gg (ks.zip vs) k:=by simp [gg,hk]
   rw [h1,h2]
   rcases jc (k:=k) (by simpa using hl) q with h | ⟨i,v',t',F',a1,a2,a3,a4,a5⟩
   ·exact .inl h
   ·exact .inr ⟨i+1,v',t',F',a1,a2,by simpa using a3,by simpa using a4,a5⟩
theorem nF (hu:X.A.units+1 < cLine):IxR X (fun x y H Q=>∃ a v,x=.ref a/\gB H a y (some v)/\Q v H):=by
 intro value slice pins s σ H x y v u Q I rx ry h hs
 obtain ⟨a,w,rfl,g,q⟩:=h
 cases rx
 have hT:=oo I g
 unfold subscriptTail
 refine Zp ?_
 rw [getitemInPython_of_ne hT.not_modules]
 refine Zp (Xe hT PySem.F.slot_dict_getitem.lookup ?_)
 have fin:wpAny (model X.prog X.w) X.A (subscripted slice false (.ref a) u) (fun r s₃=>wpAny (model X.prog X.w) X.A (letTemporaryGo value (.ref a) r >>= fun _=>pure r) (EP X pins σ Q) X.xe s₃) X.xe s:=by
  rw [hs]
  exact wpAny_operating (si hu I g ry fun w' s3 I3 rw'=>Zp (wpAny_letTemporaryGo (Zb ⟨w,H,I3,rw',q⟩)))
 first
  | exact Zb (Zp fin)
  | exact Zp (Zb (Zp fin))
  | exact Zp fin
noncomputable def B3 (K:Xd):R2:=fun x y H Q=>rIx K x y H Q\/∃ a v,x=.ref a/\gB H a y (some v)/\Q v H
theorem CF:fu G (B3 G.K) oIx:=by
 intro Φ η H0 H x y u w F1 F2 m t Q tw e k
 obtain ⟨m1,x⟩:=x
 by_cases hd:∃ l,x=.dct 0 l
 ·obtain ⟨l,rfl⟩:=hd
  simp only [oIx] at e
  split at e
  ·rename_i hk
   obtain ⟨t',e1,e2⟩:=Zu.mp e
   obtain ⟨a,ks,vs,ts,Fs,rfl,rfl,ha,hl,rfl,q⟩:=eO tw.r1
   obtain ⟨kk,rfl,ek⟩:=dv tw.r2 hk
   rw [ek] at e1
   rcases jc (k:=kk) hl q with ⟨h1,_⟩ | ⟨i,v,t2,F,a1,a2,a3,a4,a5⟩
   ·rw [h1] at e1;cases e1
   ·rw [a1] at e1
    cases e1
    cases e2
    refine .inr ⟨a,v,rfl,by rw [← a2];exact gB.k ha,?_⟩
    have f:=((tw.f1.sub (Yv _ _)).sub (dg a4)).up a5
    exact k v H F (aN.refl _) a5 f
  ·cases e
 ·have e':aB (m1,x) y=some (m,t):=by
   simp only [oIx] at e
   split at e
   ·rename_i l hx
    exact absurd ⟨_,rfl⟩ hd
   ·exact e
  exact .inl (tM Φ η H0 H (m1,x) y u w F1 F2 m t Q tw e' k)
theorem sO (hr:Room k X.A) (ha:PV G X a ca) (hb:PV G X b cb) (hs:jF b:=by intro _ _;rfl) (hK:X.K=G.K:=by rfl):PV G X (.Subscript a b pos) (e2 oIx ca cb) :=
 PE.weak (qw (IxR.or nP (nF (jw hr))) ha hb hs) fun σ H Q h=>by rw [hK];exact jY CF h
noncomputable def fV:T->V
 | .bl b=>.bl b
 | .int i=>.int i
 | .str s=>.str (sx s)
 | _=>.non
theorem zb {H:Hp} {v:V} {t:T} {F:Wm} (r:Rp G H v t F) (h:flat t=true):v=fV t/\ft v=true:=by
 cases r with
 | non=>exact ⟨rfl,rfl⟩
 | bl b=>exact ⟨rfl,rfl⟩
 | int i=>exact ⟨rfl,rfl⟩
 | str s hl=>exact ⟨rfl,rfl⟩
 | _=>cases h
theorem Bs:∀ {t u:T},flat t=true->flat u=true->eqV (fV t) (fV u)=eqT t u
 | .non,.non,_,_=>rfl
 | .non,.bl _,_,_=>rfl
 | .non,.int _,_,_=>rfl
 | .non,.str _,_,_=>rfl
 | .bl _,.non,_,_=>rfl
 | .bl _,.bl _,_,_=>rfl
 | .bl _,.int _,_,_=>rfl
 | .bl _,.str _,_,_=>rfl
 | .int _,.non,_,_=>rfl
 | .int _,.bl _,_,_=>rfl
 | .int _,.int _,_,_=>rfl
 | .int _,.str _,_,_=>rfl
 | .str _,.non,_,_=>rfl
 | .str _,.bl _,_,_=>rfl
 | .str _,.int _,_,_=>rfl
 | .str _,.str _,_,_=>vk
theorem wg {H:Hp} {v w:V} {t u:T} {F F':Wm} (r:Rp G H v t F) (r':Rp G H w u F') (h1:flat t=true) (h2:flat u=true):eqV v w=eqT t u/\ft v=true/\ft w=true:=by
 obtain ⟨e1,f1⟩:=zb r h1
 obtain ⟨e2,f2⟩:=zb r' h2
 refine ⟨?_,f1,f2⟩
 rw [e1,e2]
 exact Bs h1 h2
theorem nr {H:Hp} {x:V} {t:T} {F:Wm} (r:Rp G H x t F) (hx:flat t=true):∀ {vs:List V} {ts:Wb} {Fs:Xg},RpL G H vs ts Fs->ts.all flat=true->vs.all ft=true/\inV x vs=ts.any fun y=>eqT y t
 | _,_,_,.nil,_=>⟨rfl,rfl⟩
 | _,_,_,.cons r' q,h=>by
  rw [XY,ZY] at h
  obtain ⟨h1,h2⟩:=nr r hx q h.2
  obtain ⟨e1,e2,e3⟩:=wg r' r h.1 hx
  refine ⟨by rw [XY,e2,h1];rfl,?_⟩
  unfold inV at h2 ⊢
  rw [Ye,Ye,h2,e1]
noncomputable def CH (K:Xd):R2:=fun x y H Q=>rIn K false x y H Q\/∃ a o,y=.ref a/\gB H a x o/\Q (.bl o.isSome) H
noncomputable def rB (K:Xd):R2:=fun x y H Q=>rIn K true x y H Q\/∃ a o,y=.ref a/\gB H a x o/\Q (.bl (!o.isSome)) H
theorem wJ (hu:X.A.units+1 < cLine):OpR X (compareOp .In) (fun x y H Q=>∃ a o,y=.ref a/\gB H a x o/\Q (.bl o.isSome) H):=by
 intro pins s σ H x y v u Q I rx ry h
 obtain ⟨a,o,rfl,g,q⟩:=h
 cases ry
 exact Dp hu I g rx fun s3 I3=>⟨.bl o.isSome,H,I3,rfl,q⟩
theorem vG (hu:X.A.units+1 < cLine):OpR X (compareOp .NotIn) (fun x y H Q=>∃ a o,y=.ref a/\gB H a x o/\Q (.bl (!o.isSome)) H):=by
 intro pins s σ H x y v u Q I rx ry h
 obtain ⟨a,o,rfl,g,q⟩:=h
 cases ry
 exact yA hu I g rx fun s3 I3=>⟨.bl (!o.isSome),H,I3,rfl,q⟩
theorem n6 {Φ:Fps} {η:VS.Env} {H0 H:Hp} {x y:Val} {u w:V} {F1 F2:Wm} {m:Md} {t:T} (tw:Two G Φ η H0 H x y u w F1 F2) (e:kS x y=some (m,t)) :
  ∃ b,m=.fr/\t=.bl b/\((∃ p xs,w=.ref p/\(SqL G.K H p xs\/SqT G.K H p xs)/\ft u=true/\xs.all ft=true/\inV u xs=b)\/∃ a o,w=.ref a/\gB H a u o/\o.isSome=b):=by
 obtain ⟨m2,y⟩:=y
 simp only [kS] at e
 split at e
 ·split at e
  ·rename_i hk
   cases e
   obtain ⟨a,ks,vs,ts,Fs,rfl,rfl,ha,hl,rfl,q⟩:=eO tw.r2
   obtain ⟨kk,rfl,ek⟩:=dv tw.r1 hk
   refine ⟨_,rfl,rfl,.inr ⟨a,gg (ks.zip vs) kk,rfl,gB.k ha,?_⟩⟩
   rw [ek]
   rcases jc (k:=kk) hl q with ⟨h1,h2⟩ | ⟨i,v,t2,F,a1,a2,_⟩
   ·rw [h1,h2];rfl
   ·rw [a1,a2];rfl
  ·cases e
 ·split at e
  ·rename_i hk
   cases e
   rw [ZY] at hk
   obtain ⟨a,vs,Fs,rfl,rfl,ha,ra⟩:=tw.r2.lst_inv
   obtain ⟨h1,h2⟩:=nr tw.r1 hk.1 ra hk.2
   have hf:ft u=true:=(wg tw.r1 tw.r1 hk.1 hk.1).2.1
   exact ⟨_,rfl,rfl,.inl ⟨a,vs,rfl,.inl (SqL.of ha),hf,h1,h2⟩⟩
  ·cases e
 ·split at e
  ·rename_i hk
   cases e
   rw [ZY] at hk
   obtain ⟨a,vs,Fs,rfl,rfl,ha,ra⟩:=tw.r2.tup_inv
   obtain ⟨h1,h2⟩:=nr tw.r1 hk.1 ra hk.2
   have hf:ft u=true:=(wg tw.r1 tw.r1 hk.1 hk.1).2.1
   exact ⟨_,rfl,rfl,.inl ⟨a,vs,rfl,.inr (SqT.of ha),hf,h1,h2⟩⟩
  ·cases e
 ·cases e
theorem CG:fu G (CH G.K) kS:=by
 intro Φ η H0 H x y u w F1 F2 m t Q tw e k
 obtain ⟨b,rfl,rfl,h⟩:=n6 tw e
 rcases h with ⟨p,xs,rfl,hq,f1,f2,hb⟩ | ⟨a,o,rfl,g,hb⟩
 ·refine .inl ⟨p,xs,rfl,hq,f1,f2,?_⟩
  rw [hb]
  exact bB k (.bl b)
 ·refine .inr ⟨a,o,rfl,g,?_⟩
  rw [hb]
  exact bB k (.bl b)
theorem Bc:fu G (rB G.K) dm:=by
 intro Φ η H0 H x y u w F1 F2 m t Q tw e k
 unfold dm at e
 split at e
 ·rename_i m' b' e'
  cases e
  obtain ⟨b,rfl,hb',h⟩:=n6 tw e'
  cases hb'
  rcases h with ⟨p,xs,rfl,hq,f1,f2,hb⟩ | ⟨a,o,rfl,g,hb⟩
  ·refine .inl ⟨p,xs,rfl,hq,f1,f2,?_⟩
   rw [hb]
   exact bB k (.bl (!b'))
  ·refine .inr ⟨a,o,rfl,g,?_⟩
   rw [hb]
   exact bB k (.bl (!b'))
 ·cases e
theorem vz:Tells kS:=by
 intro x y m t e
 simp only [kS] at e
 split at e
 all_goals first | (split at e <;> first | (cases e;exact ⟨_,rfl⟩) | cases e) | cases e
theorem sJ:Tells dm:=by
 intro x y m t e
 unfold dm at e
 split at e
 ·cases e;exact ⟨_,rfl⟩
 ·cases e
theorem BL (hr:Room k X.A) (ha:PV G X a ca) (hb:PV G X b cb) (hm:behindInMarks .In b=false:=by with_unfolding_all rfl) (hK:X.K=G.K:=by rfl):PVT G X (.Compare a [.In] [b] pos) (e2 kS ca cb):=eK (r:=CH X.K) (sF.or (wJ (jw hr))) (hK ▸ CG) vz ha hb hm
theorem vd (hr:Room k X.A) (ha:PV G X a ca) (hb:PV G X b cb) (hm:behindInMarks .NotIn b=false:=by with_unfolding_all rfl) (hK:X.K=G.K:=by rfl):PVT G X (.Compare a [.NotIn] [b] pos) (e2 dm ca cb):=eK (r:=rB X.K) (ny.or (vG (jw hr))) (hK ▸ Bc) sJ ha hb hm
end
end VS
end
section
open PySem PyProof.Rows
namespace TS
variable {prog:Program} {w:World} {A:Around} {E:Y7} {s:Shared} {G:Keyed->Prop} {r:Keyed->Keyed->Bool}
theorem l8 {vs:Wk} {xs:Array Keyed} (hp:xs.Perm (pairsOf vs)):(xs.map (·.2)).toList.Perm vs/\(xs.map (·.2)).toList.map (fun v=>(v,v))=xs.toList:=by
 have hp':=Array.perm_iff_toList_perm.mp hp
 rw [pairsOf_toList] at hp'
 constructor
 ·rw [Array.toList_map]
  refine (hp'.map _).trans ?_
  rw [show (fun x:Keyed=>x.2)=Prod.snd from rfl,List.map_snd_zip (Zl _)]
 ·rw [Array.toList_map,Z6]
  conv=>rhs;rw [← List.map_id xs.toList]
  apply YO
  intro p hpm
  have:=mem_zip_self (hp'.mem_iff.mp hpm)
  exact Prod.ext this.1.symm rfl
end TS
end
section
namespace L2
open PySem PySem.Spec PyProof.Rows TS
section
variable {X:Cx}
theorem oK:∀ {us:Wk},(∀ v∈us,∃ x t,v=Value.str x t)->aQ ((us.map strOf).map V.str) us
 | [],_=>.nil
 | u :: us,h=>by
  obtain ⟨x,t,rfl⟩:=h u (Zx ..)
  exact .cons ⟨t,rfl⟩ (oK fun v hv=>h v (Zw _ hv))
end
end L2
end
section
namespace VS
theorem fC {tg:Tg} {it:Its} {body:Sx} {η:Env} {m:Md} {l:Wb} (e:it η=some (m,l)) (h:okF m=true):fJ tg it body η=forL tg body l η:=by
 unfold fJ
 rw [e]
 exact Zr h
theorem aS {g:Fn} {as:Exs} {η:Env} {xs:We} {t:T} (h:as η=some xs) (h2:g (trees xs)=some (.fr,t)):aL g as η=some (.fr,t):=by
 simp only [aL,h,Zt,h2]
theorem aw {i:Nat} {e:Ex} {η:Env} {m:Md} {t:T} (h:e η=some (m,t)) (hm:m ≠ .bo) (hi:i < η.length):aC i e η=some (.nx (η.set i (some (.pu t)))):=by
 simp only [aC,h,Zt]
 cases m with
 | bo=>exact absurd rfl hm
 | _=>simp [hi]
theorem fZ {a b:Sx} {η η':Env} (h:a η=some (.nx η')):ak a b η=b η':=by simp only [ak,h,Zt]
theorem ux {np nn:Nat} {body:Sx} {ts:Wb} {v:Val} (η:Env) {η':Env} (hl:ts.length=np) (he:ts.map (fun t=>some (Cell.pu t))++List.replicate (nn - np) none=η) (h:body η=some (.rt v η')):fn np nn body ts=some v:=by
 unfold fn
 rw [Zr hl,he,h]
 rfl
end VS
end
section
namespace VS
open PySem PySem.Spec PyProof.Rows L2
theorem BR {a b c:Tx} (h:a < b) (h':¬ c < b):a < c:=by
 by_cases e:a < c
 ·exact e
 ·exact absurd (List.lt_of_le_of_lt (List.not_lt.mp e) h) h'
theorem iV (x:Tx):∀ l:List Tx,(lO x l).Perm (x :: l)
 | []=>List.Perm.refl _
 | y :: r=>by
  unfold lO
  split
  ·exact ((iV x r).cons y).trans (List.Perm.swap _ _ _)
  ·exact List.Perm.refl _
theorem ig:∀ l:List Tx,(eB l).Perm l
 | []=>List.Perm.refl _
 | x :: l=>(iV x _).trans ((ig l).cons x)
theorem pE (x:Tx):∀ {l:List Tx},l.Pairwise (fun a b=>¬ b < a)->(lO x l).Pairwise (fun a b=>¬ b < a)
 | [],_=>by simp [lO]
 | y :: r,h=>by
  unfold lO
  rw [lb]
  obtain ⟨h1,h2⟩:=X7.mp h
  split
  ·rename_i c
   have c':y < x:=by simpa using c
   refine X7.mpr ⟨fun z hz=>?_,pE x h2⟩
   rcases Zh.mp ((iV x r).mem_iff.mp hz) with rfl | hz
   ·exact fun z=>List.lt_irrefl _ (List.lt_trans c' z)
   ·exact h1 z hz
  ·rename_i c
   have c':¬ y < x:=by simpa using c
   refine X7.mpr ⟨fun z hz=>?_,h⟩
   rcases Zh.mp hz with rfl | hz
   ·exact c'
   ·exact fun w=>h1 z hz (BR w c')
theorem mL:∀ l:List Tx,(eB l).Pairwise (fun a b=>¬ b < a)
 | []=>List.Pairwise.nil
 | x :: l=>pE x (mL l)
theorem mF {l l':List Tx} (h:l'.Perm l) (hp:l'.Pairwise (fun a b=>¬ b < a)):l'=eB l :=
 List.Perm.eq_of_pairwise (le:=fun a b=>¬ b < a) (fun a b _ _ h1 h2=>List.le_antisymm (List.not_lt.mp h1) (List.not_lt.mp h2)) hp (mL l) (h.trans (ig l).symm)
theorem uF (s:Tx):(sx s).cps.toList=s:=rfl
theorem uV {ss:List Tx} {ss':List Str} (h:ss'.Perm (ss.map sx)) (hp:ss'.Pairwise (fun a b=>¬ b.cps.toList < a.cps.toList)):ss'=(eB ss).map sx:=by
 have e:ss'=(ss'.map fun x=>x.cps.toList).map sx:=by
  rw [Z6]
  conv=>lhs;rw [← List.map_id ss']
  apply YO
  intro x hx
  obtain ⟨s,_,rfl⟩:=ZG.mp (h.mem_iff.mp hx)
  show sx s=sx (sx s).cps.toList
  rw [uF]
 have e2:(ss'.map fun x=>x.cps.toList)=eB ss:=by
  refine mF ?_ ?_
  ·have:=h.map fun x:Str=>x.cps.toList
   rw [Z6] at this
   have e3:((fun x:Str=>x.cps.toList) ∘ sx)=id:=by
    funext s
    exact uF s
   rw [e3,List.map_id] at this
   exact this
  ·rw [Xb];exact hp
 rw [e,e2]
noncomputable def txB (s:Tx):Bool:=decide (s.length<=eA) && s.all (fun c=>decide (c < 1114112))
theorem zP {s:Tx} (h:txB s=true):nH s:=by
 unfold txB at h
 simp at h
 exact h
section
variable {G:Gx} {X:Cx} {e:Expr} {cs:Exs} {p pos:Pos}
theorem p5 {H:Hp}:∀ {ss:List Tx},(∀ s∈ss,nH s)->RpL G H (ss.map fun s=>V.str (sx s)) (ss.map T.str) (ss.map fun _=>[])
 | [],_=>.nil
 | s :: ss,h=>.cons (.str s (h s (Zx ..))) (p5 fun x hx=>h x (Zw _ hx))
theorem pd {α β:Type}:∀ (l:List α),(l.map fun _=>([]:List β)).flatten=[]
 | []=>rfl
 | _ :: l=>by simp
theorem wB {Φ:Fps} {η:VS.Env} {H0 H:Hp} {ss:List Tx} {Q:VK} (k:∀ v H' F,aN H H'->Rp G H' v (.lst ((eB ss).map T.str)) F->Fp Φ η H0 .fr F->Q v H') (s0:aN H0 H) (tk:∀ s∈ss,nH s) :
  ∀ (l:Addr) (ss':List Str),H l=none->ss'.Perm (ss.map sx)->ss'.Pairwise (fun a b=>¬ b.cps.toList < a.cps.toList)->Q (.ref l) (upd H l (.lst (ss'.map V.str))):=fun q ss' hq hp hw=>by
 rw [uV hp hw]
 have sm:aN H (upd H q (.lst (((eB ss).map sx).map V.str))):=dj hq
 have r0:=p5 (G:=G) (H:=upd H q (.lst (((eB ss).map sx).map V.str))) fun s hs=>tk s ((ig ss).mem_iff.mp hs)
 have r:Rp G (upd H q (.lst (((eB ss).map sx).map V.str))) (.ref q) (.lst ((eB ss).map T.str)) (q :: ((eB ss).map fun _=>[]).flatten):=.lst (by rw [aA,Z6];rfl) r0
 rw [pd] at r
 exact k _ _ _ sm r (Fp.new (s0.free hq) (by simp) Fp.nil)
theorem keys_str:∀ {ks:List Key} {ss:List Tx},strs? (ks.map aO)=some ss->ks=(ss.map sx).map Sum.inr
 | [],_,e=>by cases e;rfl
 | .inl i :: ks,_,e=>by cases e
 | .inr x :: ks,ss,e=>by
  simp only [Zs,aO,strs?] at e
  obtain ⟨ss',e1,e2⟩:=Zu.mp e
  subst e2
  rw [keys_str e1]
  simp [sx]
theorem rN:bootBuiltins ("sorted" : Str)=some (.builtin "sorted"):=by decide +kernel
end
end VS
end
section
namespace ST
open PySem PySem.Spec PyProof.Rows
variable {prog:Program} {w:World} {A:Around} {E:Y7} {s:Shared}
theorem By {Q:PySem.Fin->Shared->Prop} {E':Y7} (hh:A.handled=none) (h:∀ (h':Heap) (x:Addr),(∀ b o,s.heap.get? b=some o->h'.get? b=some o)->(∃ o,h'.get? x=some o/\o.cls=.type "StopIteration")->E' (.ref x) { s with heap:=h' }) :
  wpAny (model prog w) A (newExc (.type "StopIteration") [] >>= fun e=>raiseNew e) Q E' s:=by
 simp only [newExc,newTuple]
 refine Zp (Zp (XJ (Zp (m:=firstArgMember _ _) (wpAny_of_eq (a:=Value.none) (by first | rfl | (simp only [firstArgMember];rfl)) (XJ ?_ (by size_fits)))) (by size_fits)))
 simp only [raiseNew]
 refine Zp (wpAny_handled ?_)
 rw [hh]
 exact Zp (Zb (wpAny_throw (h _ _ (fun b o e=>Zi _ (Zi _ e)) ⟨_,ZJ _ rfl,rfl⟩)))
end ST
end
section
namespace VS
open PySem PySem.Spec PyProof.Rows L2
inductive Pth (G:Gx) (H:Hp):List Ky->V->V->Prop
 | nil (v:V):Pth G H [] v v
 | fld {c k:Nat} {a dx:Addr} {fs:List (Str×V)} {u w:V} {ks:List Ky}:H a=some (.ins (G.ct (c+1)).1 dx fs)->fs.lookup ((G.ct (c+1)).2 k)=some u->Pth G H ks u w->Pth G H (.fld k :: ks) (.ref a) w
 | ix {a:Addr} {vs:List V} {i:Int} {j:Nat} {u w:V} {ks:List Ky}:H a=some (.lst vs)->ixP vs.length i=some j->vs[j]?=some u->Pth G H ks u w->Pth G H (.at (.int i) :: ks) (.ref a) w
 | key {a:Addr} {kvs:List (Key×V)} {k:Key} {u w:V} {ks:List Ky}:H a=some (.dK kvs)->gg kvs k=some u->Pth G H ks u w->Pth G H (.at (aO k) :: ks) (.ref a) w
 | un {v w:V} {ks:List Ky}:Pth G H ks v w->Pth G H (.un :: ks) v w
section
variable {G:Gx}
theorem qW {Fs:Xg} {i j:Nat} {F F':Wm} (nd:Fs.flatten.Nodup) (hi:Fs[i]?=some F) (hj:Fs[j]?=some F') (n:i ≠ j) {a:Addr} (ha:a∈F):a ∉ F':=by
 intro hb
 induction Fs generalizing i j with
 | nil=>simp at hi
 | cons G Gs ih =>
  rw [ZU,ZO] at nd
  cases i with
  | zero =>
   simp at hi;subst hi
   cases j with
   | zero=>exact n rfl
   | succ j=>exact nd.2.2 a ha a (cV (by simpa using hj) hb) rfl
  | succ i =>
   cases j with
   | zero =>
    simp at hj;subst hj
    exact nd.2.2 a hb a (cV (by simpa using hi) ha) rfl
   | succ j=>exact ih nd.2.1 (by simpa using hi) (by simpa using hj) (by lia)
theorem cz {Fs:Xg} {j:Nat} {F':Wm} {a:Addr} (h:a∈(Fs.set j F').flatten):a∈F'\/∃ i F,i ≠ j/\Fs[i]?=some F/\a∈F:=by
 obtain ⟨i,F,h1,h2⟩:=fT h
 by_cases e:i=j
 ·subst e
  rw [List.getElem?_set_self' ] at h1
  cases q:Fs[i]? with
  | none=>rw [q] at h1;cases h1
  | some _=>rw [q] at h1;cases h1;exact .inl h2
 ·rw [YQ (YW e)] at h1
  exact .inr ⟨i,F,e,h1,h2⟩
theorem dU:∀ {Fs:Xg} {j:Nat} {F':Wm},Fs.flatten.Nodup->F'.Nodup->(∀ i F,i ≠ j->Fs[i]?=some F->∀ a∈F,a ∉ F')->(Fs.set j F').flatten.Nodup
 | [],_,_,h,_,_=>by simpa using h
 | G :: Gs,0,F',h,h',d=>by
  rw [ZU,ZO] at h
  rw [List.set_cons_zero,ZU,ZO]
  refine ⟨h',h.2.1,fun a ha b hb e=>?_⟩
  subst e
  obtain ⟨i,F,h1,h2⟩:=fT hb
  exact d (i+1) F (by lia) (by simpa using h1) a h2 ha
 | G :: Gs,j+1,F',h,h',d=>by
  rw [ZU,ZO] at h
  rw [List.set_cons_succ,ZU,ZO]
  refine ⟨h.1,dU h.2.1 h' fun i F n hi=>d (i+1) F (by lia) (by simpa using hi),fun a ha b hb e=>?_⟩
  subst e
  rcases cz hb with z | ⟨i,F,n,h1,h2⟩
  ·exact d 0 G (by lia) rfl a ha z
  ·exact h.2.2 a ha a (cV h1 h2) rfl
theorem RpL.each {H H2:Hp}:∀ {vs:List V} {ts:Wb} {Fs:Xg},RpL G H vs ts Fs->(∀ (i:Nat) v t F,vs[i]?=some v->ts[i]?=some t->Fs[i]?=some F->Rp G H v t F->Rp G H2 v t F)->RpL G H2 vs ts Fs
 | _,_,_,.nil,_=>.nil
 | _,_,_,.cons r q,k=>.cons (k 0 _ _ _ rfl rfl rfl r) (RpL.each q fun i v t F a b c d=>k (i+1) v t F (by simpa using a) (by simpa using b) (by simpa using c) d)
theorem RpL.setAt {H H2:Hp}:∀ {vs:List V} {ts:Wb} {Fs:Xg} {j:Nat} {u:V} {x':T} {F':Wm},RpL G H vs ts Fs->vs[j]?=some u->Rp G H2 u x' F'->(∀ (i:Nat) v t F,i ≠ j->vs[i]?=some v->ts[i]?=some t->Fs[i]?=some F->Rp G H v t F->Rp G H2 v t F)->RpL G H2 vs (ts.set j x') (Fs.set j F')
 | _,_,_,_,_,_,_,.nil,h,_,_=>by simp at h
 | _,_,_,0,_,_,_,.cons r q,h,r',k=>by
  simp at h;subst h
  exact .cons r' (RpL.each q fun i v t F a b c d=>k (i+1) v t F (by lia) (by simpa using a) (by simpa using b) (by simpa using c) d)
 | _,_,_,j+1,_,_,_,.cons r q,h,r',k=>.cons (k 0 _ _ _ (by lia) rfl rfl rfl r) (RpL.setAt q (by simpa using h) r' fun i v t F n a b c d=>k (i+1) v t F (by lia) (by simpa using a) (by simpa using b) (by simpa using c) d)
theorem mY {H H2:Hp} {a:Addr} {o:HO} {vs:List V} {ts:Wb} {Fs:Xg} {j:Nat} {u:V} {x':T} {Fj Fj':Wm} (ha:H a=some o) (ra:RpL G H vs ts Fs) (nd:(a :: Fs.flatten).Nodup) (hu:vs[j]?=some u) (hF:Fs[j]?=some Fj)
  (g:Chg G H u Fj x' H2 Fj'):H2 a=some o/\RpL G H2 vs (ts.set j x') (Fs.set j Fj')/\(a :: (Fs.set j Fj').flatten).Nodup/\(∀ b∈a :: (Fs.set j Fj').flatten,b∈a :: Fs.flatten\/H b=none)/\∀ b o,b ∉ a :: Fs.flatten->H b=some o->H2 b=some o:=by
 rw [Zd] at nd
 have subF:∀ b∈Fj,b∈Fs.flatten:=fun b hb=>cV hF hb
 have dis:∀ i F,i ≠ j->Fs[i]?=some F->∀ b∈F,b ∉ Fj':=fun i F n hi b hb hb'=>by
  rcases g.sub b hb' with z | z
  ·exact qW nd.2 hi hF n hb z
  ·exact Mut.ne_none (ra.dom b (cV hi hb)) z
 refine ⟨g.keep a o (fun z=>nd.1 (subF a z)) ha,ra.setAt hu g.rp (fun i v t F n h1 h2 h3 r=>r.keep g.kept fun b hb o' ho=>g.keep b o' (qW nd.2 h3 hF n hb) ho),?_,fun b hb=>?_,fun b o' hb ho=>g.keep b o' (fun z=>hb (Zw _ (subF b z))) ho⟩
 ·rw [Zd]
  refine ⟨fun h=>?_,dU nd.2 g.nd dis⟩
  rcases cz h with z | ⟨i,F,n,h1,h2⟩
  ·rcases g.sub a z with z | z
   ·exact nd.1 (subF a z)
   ·rw [ha] at z;cases z
  ·exact nd.1 (cV h1 h2)
 ·rcases Zh.mp hb with rfl | hb
  ·exact .inl Zx
  ·rcases cz hb with z | ⟨i,F,n,h1,h2⟩
   ·rcases g.sub b z with z | z
    ·exact .inl (Zw _ (subF b z))
    ·exact .inr z
   ·exact .inl (Zw _ (cV h1 h2))
theorem ng {α β:Type}:∀ (as:List α) (bs:List β) (i:Nat) (a:α) (y:β),as[i]?=some a->(as.zip bs).set i (a,y)=as.zip (bs.set i y)
 | [],_,_,_,_,h=>by simp at h
 | a :: as,[],i,_,_,_=>by cases i <;> simp
 | a :: as,b :: bs,0,_,y,h=>by simp at h;subst h;rfl
 | a :: as,b :: bs,i+1,_,y,h=>by
  have:=ng as bs i _ y (by simpa using h)
  simp [this]
theorem jt {α β:Type} (p:α->Bool):∀ {as:List α} {bs:List β} {i:Nat},as.length=bs.length->(as.zip bs).findIdx? (fun q=>p q.1)=some i->∃ a b,as[i]?=some a/\bs[i]?=some b/\p a=true/\(as.zip bs).find? (fun q=>p q.1)=some (a,b)
 | [],[],_,_,h=>by simp at h
 | a :: as,b :: bs,i,hl,h=>by
  rw [Zg,Y6] at h
  by_cases hp:p a=true
  ·rw [Zr hp] at h
   cases h
   exact ⟨a,b,rfl,rfl,hp,by simp [hp]⟩
  ·rw [Zo hp] at h
   obtain ⟨j,hj,rfl⟩:=Zu.mp h
   obtain ⟨a',b',h1,h2,h3,h4⟩:=jt p (by simpa using hl) hj
   exact ⟨a',b',by simpa using h1,by simpa using h2,h3,by simp [hp,h4]⟩
theorem gq (k k':Key):eqT (aO k') (aO k)=true ↔ k'=k:=by
 cases k with
 | inl i=>cases k' <;> simp [aO]
 | inr x =>
  obtain ⟨⟨x⟩⟩:=x
  cases k' with
  | inl j=>simp [aO]
  | inr y=>obtain ⟨⟨y⟩⟩:=y;simp [aO]
theorem qQ {k:Key} {u:V}:∀ {ns:List Key} {ts:Wb} {vs:List V} {i:Nat},ns.length=ts.length->ns.length=vs.length->((ns.map aO).zip ts).findIdx? (fun q=>eqT q.1 (aO k))=some i->vs[i]?=some u->gg (ns.zip vs) k=some u
 | [],_,_,_,_,_,h,_=>by simp at h
 | n :: ns,t :: ts,v :: vs,i,h1,h2,h,hu=>by
  rw [Zs,Zg,Y6] at h
  by_cases hp:eqT (aO n) (aO k)=true
  ·rw [Zr hp] at h
   cases h
   simp at hu;subst hu
   exact iy ((gq k n).mp hp)
  ·rw [Zo hp] at h
   obtain ⟨j,hj,rfl⟩:=Zu.mp h
   have hn:n ≠ k:=fun z=>hp ((gq k n).mpr z)
   have:gg ((n :: ns).zip (v :: vs)) k=gg (ns.zip vs) k:=by simp [gg,hn]
   rw [this]
   exact qQ (by simpa using h1) (by simpa using h2) hj (by simpa using hu)
 | _ :: _,[],_,_,h,_,_,_=>by simp at h
 | _ :: _,_ :: _,[],_,_,h,_,_=>by simp at h
theorem dI {H:Hp} {v:V} {c:Nat} {q0:Nat×T} {fs:List (Nat×T)} {F:Wm} (r:Rp G H v (.obj (c+1) (q0 :: fs)) F):∃ (c':Nat) (a dx:Addr) (b:Bool) (ks:Wi) (vs:List V) (ts:Wb) (Fs:Xg),c+1=c'+1/\v=.ref a/\q0=(0,.bl b)/\fs=ks.zip ts/\F=a :: Fs.flatten ∧
  H a=some (.ins (G.ct (c'+1)).1 dx ((ks.map (G.ct (c'+1)).2).zip vs))/\ks.length=vs.length/\(b=true->G.me 0=some (.ref a))/\RpL G H vs ts Fs:=by
 generalize hz:T.obj (c+1) (q0 :: fs)=z at r
 cases r with
 | ins h l m q =>
  cases hz
  exact ⟨_,_,_,_,_,_,_,_,rfl,rfl,rfl,rfl,rfl,h,l,m,q⟩
 | _=>cases hz
theorem AL {H:Hp} {v:V} {m:Nat} {t:T} {F:Wm} (r:Rp G H v (.obj 0 [(0,.bl true),(m,t)]) F):∃ a,v=.ref a/\G.me m=some (.ref a)/\Rp G H (.ref a) t F:=by
 generalize hz:T.obj 0 [(0,.bl true),(m,t)]=z at r
 cases r with
 | mk h q =>
  cases hz
  exact ⟨_,rfl,h,q⟩
 | _=>cases hz
theorem n8 {c k0:Nat} (inj:∀ c k k':Nat,(G.ct c).2 k=(G.ct c).2 k'->k=k') {ns:Wi} {vs:List V} {ts:Wb} {u:V} {i:Nat} (hl:ns.length=vs.length) (h1:(ns.zip ts).findIdx? (fun q=>q.1 == k0)=some i) (g1:ns[i]?=some k0) (u1:vs[i]?=some u):((ns.map (G.ct c).2).zip vs).lookup ((G.ct c).2 k0)=some u:=by
 induction ns generalizing vs ts i with
 | nil=>simp at g1
 | cons a0 as ih =>
  cases vs with
  | nil=>simp at hl
  | cons b0 bs =>
   cases ts with
   | nil=>simp at h1
   | cons t0 ts =>
    rw [Zs,Zg,Yt]
    rw [Zg,Y6] at h1
    by_cases q:(a0 == k0)=true
    ·rw [Zr q] at h1
     cases h1
     have:a0=k0:=by simpa using q
     subst this
     simp at u1
     simp [u1]
    ·rw [Zo q] at h1
     obtain ⟨j,hj,rfl⟩:=Zu.mp h1
     have:((G.ct c).2 k0 == (G.ct c).2 a0)=false:=by
      rw [ZK]
      intro z
      exact q (by simpa using (inj c _ _ z).symm)
     rw [this]
     exact ih (by simpa using hl) hj (by simpa using g1) (by simpa using u1)
theorem BF {α:Type} {f:T->Option (T×α)} {ks:List Ky} {t t':T} {y:α} (e:pm f (.un :: ks) t=some (t',y)):∃ m x z,t=.obj 0 [(0,.bl true),(m,x)]/\pm f ks x=some (z,y)/\t'=.obj 0 [(0,.bl true),(m,z)]:=by
 unfold pm at e
 split at e
 case h_6=>cases e
 all_goals first | (rename_i h0;cases h0;done) | skip
 all_goals
  rename_i h0
  cases h0
  obtain ⟨⟨z,y'⟩,e1,e2⟩:=Zu.mp e
  cases e2
  exact ⟨_,_,_,rfl,e1,rfl⟩
theorem gU {H:Hp} {α:Type} {f:T->Option (T×α)}:∀ (ks:List Ky) {v:V} {t t':T} {F:Wm} {y:α},(∀ c k k':Nat,(G.ct c).2 k=(G.ct c).2 k'->k=k')->Rp G H v t F->F.Nodup->pm f ks t=some (t',y) →
  ∃ w x F1 x',Pth G H ks v w/\Rp G H w x F1/\F1.Nodup/\f x=some (x',y)/\∀ H2 F1',Chg G H w F1 x' H2 F1'->∃ F',Chg G H v F t' H2 F'
 | [],v,t,t',F,y,_,r,nd,e=>⟨v,t,F,t',.nil v,r,nd,e,fun H2 F1' g=>⟨F1',g⟩⟩
 | .fld k :: ks,v,t,t',F,y,inj,r,nd,e=>by
  cases t with
  | obj c fs0 =>
   cases c with
   | zero=>cases e
   | succ c =>
   cases fs0 with
   | nil=>cases e
   | cons q0 fs =>
   obtain ⟨i,h1,e⟩:=Zz.mp e
   obtain ⟨p,h2,e⟩:=Zz.mp e
   obtain ⟨⟨z,y'⟩,e1,e2⟩:=Zu.mp e
   cases e2
   obtain ⟨c',a,dx,b,ns,vs,ts,Fs,ec,rfl,rfl,rfl,rfl,ha,hl,hb,ra⟩:=dI r
   cases ec
   have lts:ns.length=ts.length:=hl.trans ra.len.1
   obtain ⟨k0,x0,g1,g2,g3,g4⟩:=jt (fun n=>n == k) lts h1
   have ek:k0=k:=by simpa using g3
   subst ek
   have ep:p=(k0,x0):=by
    have:(ns.zip ts)[i]?=some (k0,x0):=by rw [YT];exact ⟨g1,g2⟩
    rw [this] at h2;exact (Zn h2).symm
   subst ep
   obtain ⟨u,Fi,u1,u2,u3⟩:=ra.get i g2
   obtain ⟨w,x,F1,x',w1,w2,w3,w4,w5⟩:=gU ks inj u3 (((Zd.mp nd).2).sublist (dg u2)) e1
   refine ⟨w,x,F1,x',.fld (c:=c) ha (n8 inj hl h1 g1 u1) w1,w2,w3,w4,fun H2 F1' g=>?_⟩
   obtain ⟨Fi',gi⟩:=w5 H2 F1' g
   obtain ⟨s1,s2,s3,s4,s5⟩:=mY ha ra nd u1 u2 gi
   refine ⟨_,gi.kept,s5,gi.dom,?_,s3,s4⟩
   rw [ng ns ts i k0 z g1]
   exact .ins s1 hl hb s2
  | _=>cases e
 | .un :: ks,v,t,t',F,y,inj,r,nd,e=>by
  obtain ⟨m,x,z,rfl,e1,rfl⟩:=BF e
  obtain ⟨a,rfl,hm,rx⟩:=AL r
  obtain ⟨w,x0,F1,x',w1,w2,w3,w4,w5⟩:=gU ks inj rx nd e1
  refine ⟨w,x0,F1,x',.un w1,w2,w3,w4,fun H2 F1' g=>?_⟩
  obtain ⟨F',g'⟩:=w5 H2 F1' g
  exact ⟨F',g'.kept,g'.keep,g'.dom,.mk hm g'.rp,g'.nd,g'.sub⟩
 | .at k :: ks,v,t,t',F,y,inj,r,nd,e=>by
  cases t with
  | lst l =>
   cases k with
   | int i =>
    obtain ⟨j,h1,e⟩:=Zz.mp e
    obtain ⟨x0,h2,e⟩:=Zz.mp e
    obtain ⟨⟨z,y'⟩,e1,e2⟩:=Zu.mp e
    cases e2
    obtain ⟨a,vs,Fs,rfl,rfl,ha,ra⟩:=r.lst_inv
    obtain ⟨u,Fi,u1,u2,u3⟩:=ra.get j h2
    obtain ⟨w,x,F1,x',w1,w2,w3,w4,w5⟩:=gU ks inj u3 (((Zd.mp nd).2).sublist (dg u2)) e1
    refine ⟨w,x,F1,x',.ix ha (by rw [ra.len.1];exact h1) u1 w1,w2,w3,w4,fun H2 F1' g=>?_⟩
    obtain ⟨Fi',gi⟩:=w5 H2 F1' g
    obtain ⟨s1,s2,s3,s4,s5⟩:=mY ha ra nd u1 u2 gi
    exact ⟨_,gi.kept,s5,gi.dom,.lst s1 s2,s3,s4⟩
   | _=>cases e
  | dct kd l =>
   cases kd with
   | zero =>
    have hk:iQ k=true/\((l.findIdx? fun p=>eqT p.1 k).bind fun i=>(l[i]?).bind fun p=>(pm f ks p.2).map fun z=>(T.dct 0 (l.set i (p.1,z.1)),z.2))=some (t',y):=by
     cases k with
     | int i=>exact ⟨rfl,e⟩
     | str s=>exact ⟨rfl,e⟩
     | _=>cases e
    obtain ⟨hk,e⟩:=hk
    obtain ⟨i,h1,e⟩:=Zz.mp e
    obtain ⟨p,h2,e⟩:=Zz.mp e
    obtain ⟨⟨z,y'⟩,e1,e2⟩:=Zu.mp e
    cases e2
    obtain ⟨a,ns,vs,ts,Fs,rfl,rfl,ha,hl,rfl,ra⟩:=eO r
    have lts:(ns.map aO).length=ts.length:=by rw [Zv];exact hl.trans ra.len.1
    obtain ⟨k0,x0,g1,g2,g3,g4⟩:=jt (fun n=>eqT n k) lts h1
    have ep:p=(k0,x0):=by
     have:((ns.map aO).zip ts)[i]?=some (k0,x0):=by rw [YT];exact ⟨g1,g2⟩
     rw [this] at h2;exact (Zn h2).symm
    subst ep
    obtain ⟨kk,ekk⟩:∃ kk:Key,k=aO kk:=by
     cases k with
     | int i=>exact ⟨.inl i,rfl⟩
     | str s=>exact ⟨.inr (sx s),by simp [aO,sx]⟩
     | _=>cases hk
    subst ekk
    obtain ⟨u,Fi,u1,u2,u3⟩:=ra.get i g2
    obtain ⟨w,x,F1,x',w1,w2,w3,w4,w5⟩:=gU ks inj u3 (((Zd.mp nd).2).sublist (dg u2)) e1
    refine ⟨w,x,F1,x',.key ha ?_ w1,w2,w3,w4,fun H2 F1' g=>?_⟩
    ·exact qQ (by simpa using lts) hl h1 u1
    ·obtain ⟨Fi',gi⟩:=w5 H2 F1' g
     obtain ⟨s1,s2,s3,s4,s5⟩:=mY ha ra nd u1 u2 gi
     refine ⟨_,gi.kept,s5,gi.dom,?_,s3,s4⟩
     rw [ng (ns.map aO) ts i k0 z g1]
     exact .dct s1 hl s2
   | succ kd=>cases k <;> cases e
  | _=>cases k <;> cases e
end
section
variable {G:Gx}
theorem Pth.same {H H':Hp} (e:aN H H') {ks:List Ky} {v w:V} (p:Pth G H ks v w):Pth G H' ks v w:=by
 induction p with
 | nil v=>exact .nil v
 | fld h l _ ih=>exact .fld (e _ _ h) l ih
 | ix h l m _ ih=>exact .ix (e _ _ h) l m ih
 | key h l _ ih=>exact .key (e _ _ h) l ih
 | un _ ih=>exact .un ih
theorem Pth.split {H:Hp} {k:Ky} {w:V}:∀ {ks:List Ky} {v:V},Pth G H (ks++[k]) v w->∃ u,Pth G H ks v u/\Pth G H [k] u w
 | [],v,p=>⟨v,.nil v,p⟩
 | _ :: ks,_,.fld h l p=>let ⟨u,a,b⟩:=Pth.split (ks:=ks) p;⟨u,.fld h l a,b⟩
 | _ :: ks,_,.ix h l m p=>let ⟨u,a,b⟩:=Pth.split (ks:=ks) p;⟨u,.ix h l m a,b⟩
 | _ :: ks,_,.key h l p=>let ⟨u,a,b⟩:=Pth.split (ks:=ks) p;⟨u,.key h l a,b⟩
 | _ :: ks,_,.un p=>let ⟨u,a,b⟩:=Pth.split (ks:=ks) p;⟨u,.un a,b⟩
theorem gF {η:VS.Env} {s:Stp}:∀ {way:List Stp} {ks:List Ky},keys (way++[s]) η=some ks->∃ ks0 k,keys way η=some ks0/\keys [s] η=some [k]/\ks=ks0++[k]
 | [],ks,e=>by
  cases s with
  | fld k=>cases e;exact ⟨[],.fld k,rfl,rfl,rfl⟩
  | un=>cases e;exact ⟨[],.un,rfl,rfl,rfl⟩
  | ix c =>
   obtain ⟨x,h1,h2⟩:=Zz.mp (show (c η).bind (fun x=>(keys [] η).map (Ky.at x.2 :: ·))=some ks from e)
   cases h2
   exact ⟨[],.at x.2,rfl,by simp [keys,h1],rfl⟩
 | .fld k :: way,ks,e=>by
  obtain ⟨ks1,h1,h2⟩:=Zu.mp (show (keys (way++[s]) η).map (Ky.fld k :: ·)=some ks from e)
  obtain ⟨ks0,k',a,b,c⟩:=gF h1
  exact ⟨.fld k :: ks0,k',by simp [keys,a],b,by rw [← h2,c];rfl⟩
 | .un :: way,ks,e=>by
  obtain ⟨ks1,h1,h2⟩:=Zu.mp (show (keys (way++[s]) η).map (Ky.un :: ·)=some ks from e)
  obtain ⟨ks0,k',a,b,c⟩:=gF h1
  exact ⟨.un :: ks0,k',by simp [keys,a],b,by rw [← h2,c];rfl⟩
 | .ix c :: way,ks,e=>by
  obtain ⟨x,h0,h⟩:=Zz.mp (show (c η).bind (fun x=>(keys (way++[s]) η).map (Ky.at x.2 :: ·))=some ks from e)
  obtain ⟨ks1,h1,h2⟩:=Zu.mp h
  obtain ⟨ks0,k',a,b,d⟩:=gF h1
  exact ⟨.at x.2 :: ks0,k',by simp [keys,h0,a],b,by rw [← h2,d];rfl⟩
noncomputable def tPl (G:Gx) (i:Nat) (way:List Stp):TE:=fun σ H Q=>∃ Φ η t ks v w,SR G Φ η σ H/\η[i]?=some (some (.ow t))/\σ[i]?=some (some v)/\keys way η=some ks/\Pth G H ks v w/\∀ H',aN H H'->Q w H'
noncomputable def PPl (G:Gx) (X:Cx) (e:Expr) (i:Nat) (way:List Stp):Prop:=PE X e (tPl G i way)
theorem PE.weakP {X:Cx} {e:Expr} {t:TE} {i:Nat} {way:List Stp} (h:PE X e t) (w:∀ σ H Q,tPl G i way σ H Q->t σ H Q):PPl G X e i way:=fun pins s σ H Q I q=>h pins s σ H Q I (w σ H Q q)
variable {X:Cx} {e:Expr} {es:List Expr} {i:Nat} {way:List Stp} {pos pos' p1 apos cpos:Pos} {c:Ex} {cs:Exs} {b:Expr} {k:Nat}
theorem bM (i:Nat) {x:Str} (hN:X.N[i]?=some x) (hv:Vis X.env.scope x) (hd:(x == ("__debug__" : Str))=false) (hcd:(x == ("__classdict__" : Str))=false):PPl G X (.Name x pos) i [] :=
 PE.weakP (gr hN hv hd hcd) fun σ H Q hq=>by
  obtain ⟨Φ,η,t,ks,v,w,s,h1,h2,h3,h4,h5⟩:=hq
  cases (show some ([]:List Ky)=some ks from h3)
  cases h4
  exact ⟨v,h2,h5 H (aN.refl _)⟩
structure FldOk (G:Gx) (K:Xd) (k:Nat) (f:Str):Prop where
 nm:∀ c,(G.ct (c+1)).2 k=f
 cl:∀ c,Cls K (G.ct (c+1)).1
 no:∀ c,aU K (G.ct (c+1)).1 f
theorem fg (k:Nat) {f:Str} (F:FldOk G X.K k f) (h:PPl G X e i way) (hb:attributeBase e f X.env (eval e X.env)=eval e X.env):PPl G X (.Attribute e f pos) i (way++[.fld k]) :=
 PE.weakP (ua h hb) fun σ H Q hq=>by
  obtain ⟨Φ,η,t,ks,v,w,s,h1,h2,h3,h4,h5⟩:=hq
  obtain ⟨ks0,k',a,b,rfl⟩:=gF h3
  cases (show some [Ky.fld k]=some [k'] from b)
  obtain ⟨u,p1,p2⟩:=h4.split
  refine ⟨Φ,η,t,ks0,v,u,s,h1,h2,a,p1,fun H' sm=>?_⟩
  cases p2 with
  | @fld c _ a dx fs u' _ _ ha hl q =>
   cases q
   rw [F.nm c] at hl
   exact ⟨a,_,dx,fs,w,rfl,sm a _ ha,F.cl c,F.no c,hl,h5 H' sm⟩
theorem yZ {kr:Nat} (hr:Room kr X.A) (h:PPl G X e i way) (hb:PV G X b c) (hs:jF b) (hK:X.K=G.K):PPl G X (.Subscript e b pos) i (way++[.ix c]) :=
 PE.weakP (qw (IxR.or nP (nF (jw hr))) h hb hs) fun σ H Q hq=>by
  obtain ⟨Φ,η,t,ks,v,w,s,h1,h2,h3,h4,h5⟩:=hq
  obtain ⟨ks0,k',a,b',rfl⟩:=gF h3
  obtain ⟨⟨mx,x⟩,ec,e2⟩:=Zz.mp (show (c η).bind (fun x=>(keys [] η).map (Ky.at x.2 :: ·))=some [k'] from b')
  cases e2
  obtain ⟨u,p1,p2⟩:=h4.split
  refine ⟨Φ,η,t,ks0,v,u,s,h1,h2,a,p1,fun H1 sm=>⟨Φ,η,mx,x,s.same sm,ec,fun y H2 F2 sm2 r2 f2=>?_⟩⟩
  have p3:=(p2.same sm).same sm2
  have q:=h5 H2 (sm.trans sm2)
  cases p3 with
  | @ix a vs i0 j u' _ _ ha hl hu q' =>
   cases q'
   refine .inl (.inl ⟨a,vs,i0,w,rfl,r2.int_inv,SqL.of ha,lG hl hu,q⟩)
  | @key a kvs kk u' _ _ ha hl q' =>
   cases q'
   refine .inr ⟨a,w,rfl,?_,q⟩
   have hy:y=kV kk:=by
    cases kk with
    | inl n=>exact r2.int_inv
    | inr z =>
     have:=r2.str_inv.1
     rw [this]
     simp [kV,sx]
   rw [hy,← hl]
   exact gB.k ha
@[simp] noncomputable def g5 (i:Nat) (way:List Stp) (f:T->We->Option (T×Val)) (as:Exs) (η:VS.Env):Option (Val×VS.Env):=match η[i]? with
 | some (some (.ow t))=>(keys way η).bind fun ks=>(as η).bind fun xs=>(pm (fun x=>f x xs) ks t).map fun z=>(z.2,η.set i (some (.ow z.1)))
 | _=>none
noncomputable def i6 (G:Gx):Prop:=∀ c k k':Nat,(G.ct c).2 k=(G.ct c).2 k'->k=k'
theorem t6 {T' id:String} {name:Str} {o:Expr} {r:V->List V->Hp->VK->Prop} {f:T->We->Option (T×Val)} (J:i6 G) (pa:PlainAttrs T') (slot:Slot T' name id) (hty:typeOf (.builtin id)=pure (.type "method_descriptor")) (hm:MtR X id r) (ok:vD G r f)
  (hT:∀ H v t F l z,Rp G H v t F->f t l=some z->tyV G.K T' v H) (ho:PPl G X o i way) (ha:PVs G X (e :: es) cs) (hK:X.K=G.K)
  (hbase:attributeBase o name X.env (eval o X.env)=eval o X.env)
  (hfew:((backTo cpos (starEach (e :: es) X.env)).all (fun x=>!x.1) && (backToKw cpos (keywordEach [] X.env)).all (fun x=>x.1.isSome)
   && decide ((e :: es).length+([]:List Keyword).length+(if ([]:List Keyword).isEmpty then 0 else 1) < 30))=true)
  (hline:(apos.endLine == cpos.line)=true) (hs:starEach (e :: es) X.env=(false,eval e X.env) :: starEach es X.env) (hplain:(backTo cpos (starEach es X.env)).any (·.1)=false)
  (hsw:swapsWith (.Call (.Attribute o name apos) (e :: es) [] cpos) none pos.line X.env=pure false) :
  PSV G X (.Expr (.Call (.Attribute o name apos) (e :: es) [] cpos) pos) (sX (g5 i way f cs)) :=
 PS.weak (jb (wa pa slot hty hm ho ha hbase hfew hline hs hplain) hsw) fun D σ H hq=>by
  obtain ⟨Φ,η,out,s,e,k⟩:=hq
  refine L2.ji fun P_ k_=>?_
  unfold sX g5 at e
  obtain ⟨⟨x',η'⟩,e1,e2⟩:=Zu.mp e
  split at e1
  ·rename_i t ht
   obtain ⟨ks,ek,e3⟩:=Zz.mp e1
   obtain ⟨l,el,e4⟩:=Zz.mp e3
   obtain ⟨⟨t',x2⟩,e5,e6⟩:=Zu.mp e4
   cases e6
   cases e2
   obtain ⟨v,h1,h2⟩:=s.rp _ _ ht
   obtain ⟨w,x,F1,x3,w1,w2,w3,w4,w5⟩:=gU ks J h2 (s.nd i t ht) e5
   refine k_ ?_
   refine ⟨Φ,η,t,ks,v,w,s,ht,h1,ek,w1,fun H0 sm0=>⟨by rw [hK];exact hT H0 w x _ l _ (w2.same sm0) w4,Φ,η,l,s.same sm0,el,fun vs H' Fs q1 q2 q3=>?_⟩⟩
   refine ok Φ η H H' w x x3 F1 l vs Fs x2 _ w2 w3 ⟨sm0.trans q1,q2,⟨fun n v' F' a1 a2=>(q3.each n v' F' a1 a2).back sm0,q3.nd⟩⟩ w4 fun u H2 F' g=>?_
   obtain ⟨F2,g2⟩:=w5 H2 F' g
   obtain ⟨z1,z2⟩:=s.mut ht h1 g2
   exact k _ σ H2 z1 z2
  ·cases e1
end
section
variable {G:Gx} {X:Cx} {e o:Expr} {es:List Expr} {i:Nat} {way:List Stp} {pos pos' p1 apos cpos:Pos} {c:Ex} {cs:Exs} {b:Expr} {k:Nat} {ce ck:Ex}
noncomputable def iU (k v:Val):T->Option (T×Unit)
 | .lst l=>match k.2 with
  | .int n=>(fit v).bind fun t=>(ixP l.length n).map fun j=>(.lst (l.set j t),())
  | _=>none
 | .dct 0 l=>if iQ k.2/\imm v.2/\l.length < eA then some (.dct 0 (dput l k.2 v.2),()) else none
 | _=>none
noncomputable def eU (i:Nat) (way:List Stp) (k e:Ex) (η:VS.Env):Option Out:=(e η).bind fun v=>match η[i]? with
 | some (some (.ow t))=>(keys way η).bind fun ks=>(k η).bind fun kv=>(pm (iU kv v) ks t).map fun z=>.nx (η.set i (some (.ow z.1)))
 | _=>none
theorem RpL.putAt {H:Hp}:∀ {vs:List V} {ts:Wb} {Fs:Xg} (j:Nat) {u:V} {x:T} {F:Wm},RpL G H vs ts Fs->Rp G H u x F->RpL G H (vs.set j u) (ts.set j x) (Fs.set j F)
 | _,_,_,_,_,_,_,.nil,_=>.nil
 | _,_,_,0,_,_,_,.cons r q,r'=>.cons r' q
 | _,_,_,j+1,_,_,_,.cons r q,r'=>.cons r (RpL.putAt j q r')
theorem qS {H:Hp} {kk:Key} {xv:V} {t:T} (rv:Rp G H xv t []):∀ {ks:List Key} {vs:List V} {ts:Wb} {Fs:Xg},ks.length=vs.length->RpL G H vs ts Fs →
  ∃ vs' ts' Fs',(ks.zip vs).map (fun kv=>if kv.1=kk then (kv.1,xv) else kv)=ks.zip vs'/\ks.length=vs'.length/\((ks.map aO).zip ts).map (fun p=>if eqT p.1 (aO kk) then (p.1,t) else p)=(ks.map aO).zip ts'/\RpL G H vs' ts' Fs'/\Fs'.flatten.Sublist Fs.flatten
 | [],[],_,_,_,.nil=>⟨[],[],[],rfl,rfl,rfl,.nil,Xy _⟩
 | k :: ks,v :: vs,_,_,hl,.cons (t:=t0) (F:=F) (ts:=ts) (Fs:=Fs) r q=>by
  obtain ⟨vs',ts',Fs',h1,h2,h3,h4,h5⟩:=qS rv (by simpa using hl) q
  by_cases hk:k=kk
  ·have e:eqT (aO k) (aO kk)=true:=(gq kk k).mpr hk
   refine ⟨xv :: vs',t :: ts',[] :: Fs',?_,by simp [h2],?_,.cons rv h4,?_⟩
   ·rw [Zg,Zs,h1,Zg];simp [hk]
   ·rw [Zs,Zg,Zs,h3,Zg];simp [e]
   ·rw [ZU,ZU]
    exact h5.trans (YU _ _)
  ·have e:¬ eqT (aO k) (aO kk)=true:=fun z=>hk ((gq kk k).mp z)
   refine ⟨v :: vs',t0 :: ts',F :: Fs',?_,by simp [h2],?_,.cons r h4,?_⟩
   ·rw [Zg,Zs,h1,Zg];simp [hk]
   ·rw [Zs,Zg,Zs,h3,Zg];simp [e]
   ·rw [ZU,ZU]
    exact List.Sublist.append (Xy _) h5
theorem oO {kk:Key}:∀ {ks:List Key} {vs:List V} {ts:Wb},ks.length=vs.length->ks.length=ts.length->((ks.zip vs).any fun kv=>decide (kv.1=kk))=(((ks.map aO).zip ts).any fun p=>eqT p.1 (aO kk))
 | [],_,_,_,_=>by simp
 | k :: ks,v :: vs,t :: ts,h1,h2=>by
  rw [Zs,Zg,Zg,Ye,Ye,oO (by simpa using h1) (by simpa using h2)]
  have:decide (k=kk)=eqT (aO k) (aO kk):=by rw [Y4,decide_eq_true_eq];exact (gq kk k).symm
  rw [this]
 | _ :: _,[],_,h,_=>by simp at h
 | _ :: _,_ :: _,[],_,h=>by simp at h
theorem pP {H:Hp} {kk:Key} {xv:V} {t:T} (rv:Rp G H xv t []) {ks:List Key} {vs:List V} {ts:Wb} {Fs:Xg} (hl:ks.length=vs.length) (ra:RpL G H vs ts Fs) :
  ∃ (ks':List Key) (vs':List V) (ts':Wb) (Fs':Xg),putK (ks.zip vs) kk xv=ks'.zip vs'/\ks'.length=vs'.length/\dput ((ks.map aO).zip ts) (aO kk) t=(ks'.map aO).zip ts'/\RpL G H vs' ts' Fs'/\Fs'.flatten.Sublist Fs.flatten:=by
 have an:=oO (kk:=kk) hl (hl.trans ra.len.1)
 unfold putK dput
 rw [an]
 by_cases h:(((ks.map aO).zip ts).any fun p=>eqT p.1 (aO kk))=true
 ·rw [Zr h,Zr h]
  obtain ⟨vs',ts',Fs',h1,h2,h3,h4,h5⟩:=qS (kk:=kk) rv hl ra
  exact ⟨ks,vs',ts',Fs',h1,h2,h3,h4,h5⟩
 ·rw [Zo h,Zo h]
  refine ⟨ks++[kk],vs++[xv],ts++[t],Fs++[[]],?_,by simp [hl],?_,ra.append (.cons rv .nil),by simp⟩
  ·rw [Xm hl];rfl
  ·rw [ZA,Xm (by rw [Zv];exact hl.trans ra.len.1)];rfl
noncomputable def yY:u5:=fun o i v H Q=>zd o i v H Q\/∃ a H4,o=.ref a/\pS H a i v H4/\Q H4
theorem tF (hu:X.A.units+1 < cLine):yh X yY:=by
 intro pins s σ H o i v ov iv u Q I ro ri rv h
 rcases h with h | ⟨a,H4,rfl,g,q⟩
 ·exact set_list pins s σ H o i v ov iv u Q I ro ri rv h
 ·cases ro
  exact r6 hu I g ri rv fun s4 I4=>⟨H4,I4,q⟩
theorem jr {kr:Nat} (J:i6 G) (hr:Room kr X.A) (ho:PPl G X o i way) (hk:PV G X b ck) (he:PV G X e ce)
  (ha:∀ v,assign (.Subscript o b pos') X.env v=(do
   let ov ← holding [v] (eval o X.env)
   let iv ← holding [v,ov] (eval b X.env)
   standAt pos'
   holding [v,ov,iv] (setItem ov iv v)
   release [v,ov,iv] [])) (hs:swapsWithSole [.Subscript o b pos'] e pos.line X.env=pure false) (hw:swappedStores [.Subscript o b pos'] e X.env=pure none)
  (h1:(assignEach [.Subscript o b pos'] X.env).map (·.2)=[assign (.Subscript o b pos') X.env]):PSV G X (.Assign [.Subscript o b pos'] e pos) (eU i way ck ce) :=
 PS.weak (nB he (nM ho hk (tF (jw hr)) ha) hs hw h1) fun D σ H hq=>by
  obtain ⟨Φ,η,out,s,e,k⟩:=hq
  refine L2.ji fun P_ k_=>?_
  unfold eU at e
  obtain ⟨⟨mv,tv⟩,ev,e⟩:=Zz.mp e
  split at e
  ·rename_i t ht
   obtain ⟨ks,ek,e⟩:=Zz.mp e
   obtain ⟨⟨mk,tk⟩,ekk,e⟩:=Zz.mp e
   obtain ⟨⟨t',y'⟩,e5,e6⟩:=Zu.mp e
   cases e6
   obtain ⟨v,g1,g2⟩:=s.rp _ _ ht
   obtain ⟨w,x,F1,x3,w1,w2,w3,w4,w5⟩:=gU ks J g2 (s.nd i t ht) e5
   refine k_ ?_
   refine ⟨Φ,η,mv,tv,s,ev,fun xv H1 Fv sm1 rv fv=>?_⟩
   refine ⟨Φ,η,t,ks,v,w,s.same sm1,ht,g1,ek,w1.same sm1,fun H2 sm2=>⟨Φ,η,mk,tk,(s.same sm1).same sm2,ekk,fun kv H3 Fk sm3 rk fk=>?_⟩⟩
   have sm:aN H H3:=(sm1.trans sm2).trans sm3
   have rv3:Rp G H3 xv tv Fv:=(rv.same sm2).same sm3
   have fin:∀ H4 F',Chg G H w F1 x3 H4 F'->D.nx σ H4:=fun H4 F' g=>by
    obtain ⟨F2,g2'⟩:=w5 H4 F' g
    obtain ⟨z1,z2⟩:=s.mut ht g1 g2'
    exact k _ σ H4 z1 z2
   refine L2.ji fun P_ k_=>?_
   cases x with
   | lst l =>
    cases tk with
    | int n =>
     obtain ⟨tt,et,e7⟩:=Zz.mp (show ((fit (mv,tv)).bind fun t=>(ixP l.length n).map fun j=>(T.lst (l.set j t),()))=some (x3,y') from w4)
     obtain ⟨j,ej,e8⟩:=Zu.mp e7
     cases e8
     have em:=kx et
     cases em
     obtain ⟨a,vs,Fs,rfl,rfl,ha',ra⟩:=w2.lst_inv
     have ha3:H3 a=some (.lst vs):=sm a _ ha'
     have nd:=Zd.mp w3
     have na:a ∉ Fv:=fun z=>by rw [fv.2 a z] at ha';cases ha'
     have m3:Mut (H3 a):=by rw [ha3];exact True.intro
     have off:∀ bb∈Fs.flatten,bb ∉ Fv:=fun bb hb hv=>Mut.ne_none (ra.dom bb hb) (fv.2 bb hv)
     refine k_ ?_
     refine .inl ⟨a,vs,n,j,rfl,rk.int_inv,ha3,by rw [← pY,ra.len.1];exact ej,fin _ (a :: (Fs.set j Fv).flatten) ?_⟩
     have keep:∀ {u:V} {x:T} {F:Wm},Rp G H3 u x F->a ∉ F->Rp G (upd H3 a (.lst (vs.set j xv))) u x F:=fun r hn=>r.keep (Kept.upd (.inl m3)) fun bb hb o' ho'=>by rw [aD (fun z=>hn (by rw [← z];exact hb))];exact ho'
     refine Chg.upd sm Zx m3 (.lst aA ((((ra.same sm).off m3 nd.1)).putAt j (keep rv3 na))) ?_ ?_
     ·rw [Zd]
      refine ⟨fun h=>?_,dU nd.2 fv.1 fun i' F' _ hi bb hb=>off bb (cV hi hb)⟩
      rcases cz h with z | ⟨i',F',_,h1,h2⟩
      ·exact na z
      ·exact nd.1 (cV h1 h2)
     ·intro bb hb
      rcases Zh.mp hb with rfl | hb
      ·exact .inl Zx
      ·rcases cz hb with z | ⟨i',F',_,h1,h2⟩
       ·exact .inr (fv.2 bb z)
       ·exact .inl (Zw _ (cV h1 h2))
    | _=>cases w4
   | dct kd l =>
    cases kd with
    | zero =>
     have hc:(iQ tk=true/\imm tv=true/\l.length < eA)/\x3=.dct 0 (dput l tk tv):=by
      have w4':(if iQ tk/\imm tv/\l.length < eA then some (T.dct 0 (dput l tk tv),()) else none)=some (x3,y'):=w4
      split at w4'
      ·rename_i hc
       cases w4'
       exact ⟨hc,rfl⟩
      ·cases w4'
     obtain ⟨⟨c1,c2,c3⟩,rfl⟩:=hc
     have eF:=rv3.imm c2
     subst eF
     obtain ⟨a,ns,vs,ts,Fs,rfl,rfl,ha',hl,rfl,ra⟩:=eO w2
     obtain ⟨kk,rfl,ekk'⟩:=dv rk c1
     subst ekk'
     have ha3:H3 a=some (.dK (ns.zip vs)):=sm a _ ha'
     have m3:Mut (H3 a):=by rw [ha3];exact True.intro
     have nd:=Zd.mp w3
     obtain ⟨ks',vs',ts',Fs',q1,q2,q3,q4,q5⟩:=pP (kk:=kk) rv3 hl (ra.same sm)
     have ln:(ns.zip vs).length < sizeLine:=by
      have:((ns.map aO).zip ts).length < 16777216:=c3
      rw [Yy,Zv] at this
      rw [Yy]
      have:=ra.len.1
      have:(sizeLine:Nat)=16777216:=rfl
      lia
     refine k_ ?_
     refine .inr ⟨a,_,rfl,pS.k ha3 ln,fin _ (a :: Fs'.flatten) ?_⟩
     rw [q1,q3]
     refine Chg.upd sm Zx m3 (.dct aA q2 (q4.off m3 fun z=>nd.1 (q5.subset z))) ?_ ?_
     ·exact Zd.mpr ⟨fun z=>nd.1 (q5.subset z),nd.2.sublist q5⟩
     ·intro bb hb
      rcases Zh.mp hb with rfl | hb
      ·exact .inl Zx
      ·exact .inl (Zw _ (q5.subset hb))
    | succ n=>cases w4
   | _=>cases w4
  ·cases e
end
theorem Aa {K:Xd} {H:Hp} {a:Addr} {ns:Wh} (hO:vi H) (hS:SqL K H a (ns.map V.int)):ke K H a ns:=by
 rcases hS with h | h
 ·rcases h with h | h
  ·rcases hO a with z | ⟨o,xs,z⟩
   ·rw [z] at h;cases h
   ·rw [z] at h;cases h
  ·exact .inl h
 ·exact .inr h
theorem zK {G:Gx} {g:Fn} {H:Hp} {a:Addr} {ns:Wh} {E:XK} (hg:g [.scr ns]=some (.fr,.bl true)) (hO:vi H) (hS:SqL G.K H a (ns.map V.int)):spF G g [.ref a] H (fun v _=>v=.bl true) E :=
 ⟨[.scr ns],[[]],.fr,.bl true,.cons (.scr (Aa hO hS)) .nil,hg,fun v H' F _ r _=>r.bl_inv⟩
noncomputable def gx0 (K:Xd):Gx:=⟨K,fun _=>(0,fun k=>⟨#[k]⟩),fun _=>none⟩
theorem uf {l:PySem.W.OpenLaw} {q:Program} {loose:List Str} {XP:(Wx)->Heap->Prop} {d:DefRec} {K:Params->Xd} {g:Fn} {x:Str} {k:Nat} (hn:l.most=some 63) (hdf:d.params.defaults=[]) (hr:Room k callerA)
  (hg:∀ ns:Wh,g [.scr ns]=some (.fr,.bl true))
  (F:∀ (w:World) (mg:Wx) (fa:Addr) (h:Heap),(K w.params).In h->h.Ns mainGlobals mg->mg d.name=some (.ref fa) →
   ∃ fd:FuncData,(∀ (s:Shared) (u:Value),BindsTo s fd ⟨[u],[]⟩ [(x,u)])/\∀ base:Heap,(K w.params).In base->base.Ns mainGlobals mg->FnOk l.prog w (K w.params) mg base CX0 k fa fd [x] (spF (gx0 (K w.params)) g)) :
  PySem.W.WalkO q loose XP (fun w h=>(K w.params).In h) l.row.toRowW d [] (fun f vs=>PySem.call f vs) :=
 L2.xM (n:=63) (k:=k) (x:=x) (CX:=fun _=>CX0) (sp:=fun w=>spF (gx0 (K w.params)) g) hn (by decide) hdf hr (fun _ _ h=>h) F (fun w H a ns _ hO hS=>zK (G:=gx0 (K w.params)) (hg ns) hO hS) fun _ _ _ _ _ z=>z
end VS
end
section
namespace L2
open PySem PySem.Spec PyProof.Rows
section
variable {X:Cx}
theorem qf (hc:X.calm=true):dP X (.type "list") (fun xs H Q=>∃ x:Str,xs=[.str x]/\x.cps.size<=sizeLine/\∀ l,H l=none->Q (.ref l) (upd H l (.lst (x.cps.toList.map fun c=>V.str ⟨#[c]⟩)))):=by
 intro pins s σ H xs us Q I rx h
 obtain ⟨x,rfl,hz,q⟩:=h
 obtain ⟨u,rfl,t,rfl⟩:=vals1 rx
 refine call_list_str (I.ok.hd hc) x t (fun h' tk acc c kp g ha=>?_) hz
 have hv:aQ (x.cps.toList.map fun c=>V.str ⟨#[c]⟩) acc.toList:=by
  have key:∀ (cs:Wi) (vs:Wk),cs.length=vs.length->(∀ (i:Nat) (v:Value),vs[i]?=some v->∃ c u,cs[i]?=some c/\v=.str ⟨#[c]⟩ u)->aQ (cs.map fun c=>V.str ⟨#[c]⟩) vs:=by
   intro cs
   induction cs with
   | nil =>
    intro vs hl _
    cases vs with
    | nil=>exact .nil
    | cons v vs=>simp at hl
   | cons c cs ih =>
    intro vs hl hg
    cases vs with
    | nil=>simp at hl
    | cons v vs =>
     obtain ⟨d,u,e1,e2⟩:=hg 0 v rfl
     cases e1
     exact .cons ⟨u,e2⟩ (ih vs (by simpa using hl) fun i w hw=>by simpa using hg (i+1) w (by simpa using hw))
  refine key _ _ (by rw [YM,YM,ha.1]) fun i v hi=>?_
  rw [Yh] at hi
  obtain ⟨d,u,e1,e2⟩:=ha.2 i v hi
  exact ⟨d,u,by rw [Yh];exact e1,e2⟩
 refine ⟨.ref s.heap.objs.size,_,I.laid kp (Zl _) (show bI X.prog X.w _ h' _ (.lst (x.cps.toList.map fun c=>V.str ⟨#[c]⟩)) from ⟨by rw [Zv,YM];exact hz,acc.toList,c,hv,g⟩),rfl,q _ (I.hok.fresh (Zl _))⟩
end
end L2
namespace VS
open PySem PySem.Spec PyProof.Rows L2
section
variable {G:Gx} {X:Cx} {a b c e tg:Expr} {es:List Expr} {ca cb cc ce ck:Ex} {cs:Exs} {pos p p1 p2 apos cpos pos':Pos} {k k' kr:Nat}
@[simp] noncomputable def lC:We->Wc
 | [(m,.lst l)]=>mkL m l
 | [(m,.tup l)]=>mkL m l
 | [(_,.str s)]=>mkL .fr (s.map fun c=>.str [c])
 | _=>none
theorem vZ:fR G (fun xs H Q=>yT G.K xs H Q\/∃ x:Str,xs=[.str x]/\x.cps.size<=sizeLine/\∀ l,H l=none->Q (.ref l) (upd H l (.lst (x.cps.toList.map fun c=>V.str ⟨#[c]⟩)))) lC:=by
 intro Φ η H0 H l vs Fs m t Q A e k
 unfold lC at e
 split at e
 ·exact .inl (qT Φ η H0 H _ vs Fs m t Q A e k)
 ·exact .inl (qT Φ η H0 H _ vs Fs m t Q A e k)
 ·rename_i mx x
  obtain ⟨v,F,rfl,rfl,rx⟩:=(show RpL G H vs [.str x] Fs from A.rp).one
  have ts:=rx.str_inv.2
  refine .inr ⟨sx x,by rw [rx.str_inv.1],?_,fun q hq=>?_⟩
  ·have:=ts.1
   simp only [sx,ZV]
   exact this
  ·have ec:(sx x).cps.toList.map (fun c=>V.str ⟨#[c]⟩)=(x.map fun c=>[c]).map fun s=>V.str (sx s):=by
    simp [sx]
   have et:(x.map fun c=>T.str [c])=(x.map fun c=>[c]).map T.str:=by simp
   rw [ec]
   rw [et] at e
   have r0:=p5 (G:=G) (H:=H) (ss:=x.map fun c=>[c]) fun s hs=>by
    obtain ⟨c,hc,rfl⟩:=ZG.mp hs
    exact ⟨by show 1<=eA;decide,fun y hy=>by rw [Zf.mp hy];exact ts.2 c hc⟩
   refine iI A.same e r0 ?_ k q hq
   rw [pd]
   exact Fp.nil
 ·cases e
theorem rG (hm:X.mg "list" = none) (ha:PVs G X [e] cs) (hg:Gl X "list" := by rfl) (hK:X.K=G.K:=by rfl) (hc:X.calm=true:=by rfl) (he:starEach [e] X.env=(false,eval e X.env) :: starEach [] X.env:=by rfl):PV G X (.Call (.Name "list" p) [e] [] pos) (eN lC cs) :=
 jR (nA.or (qf hc)) (hK ▸ vZ) hg hm xW ha (he:=he) (hpl:=rfl)
end
end VS
end
section
namespace ST
open PySem PySem.Spec PyProof.Rows
variable {prog:Program} {w:World} {A:Around} {E:Y7} {s:Shared}
noncomputable abbrev dO (es:Array DictEntry) (ep:Nat):Obj:={ cls:=.type "dict",data:=.dict es ep }
noncomputable abbrev kO (d:Addr) (i n ep:Nat):Obj:={ cls:=.type "dict_keyiterator",data:=.fields #[.ref d,.int i 0,.int n 0,.int ep 0] }
theorem vH {d:Addr} {es:Array DictEntry} {ep:Nat} {Q:Y7} (hd:(d == sysModules)=false) (hm:s.heap.get? d=some (dO es ep)) (q:Q (.ref s.heap.objs.size) { s with heap:=s.heap.push (kO d 0 es.size ep) }) :
  wpAny (model prog w) A (pyIter (.ref d)) Q E s:=by
 have ty:s.TypeIs (.ref d) "dict" := ⟨_,hm,rfl⟩
 refine wpAny_pyIter_slot ty F.slot_dict_iter (Y5 F.slot_dict_iter ty F.entry_dict_iter (show wpAny _ _ (Builtin.«dict.__iter__» _) _ _ _ from ?_) (F.args_dict_iter_1 _))
 unfold Builtin.«dict.__iter__» Builtin.Dict.dictSlotNone Builtin.Dict.showsAll
 refine Zp (Zp (wpAny_notOrdered_dict ty (show wpAny _ _ (pure (Value.ref d)) _ _ s from Zb (Zp (m:=Builtin.Dict.addrOf (.ref d)) (Zb ?_)))))
 rw [Zo (by rw [hd];exact Za)]
 exact Zp (Zb (Zp (wpAny_dictEntries hm rfl (Zp (wpAny_dictEpoch hm rfl (Zp (XJ (Zb ⟨_,rfl, "dict_keyiterator",_,⟨_,ZJ _ rfl,rfl⟩,YB.lookup,q⟩))))))))
theorem oz {I d:Addr} {i ep:Nat} {es:Array DictEntry} {Q:Wj->Shared->Prop} (hh:A.handled=none) (hI:s.heap.get? I=some (kO d i es.size ep)) (hm:s.heap.get? d=some (dO es ep))
  (h1:∀ e,es[i]?=some e->∀ h',Heap.SameBut I s.heap h'->h'.get? I=some (kO d (i+1) es.size ep)->Q (some e.key) { s with heap:=h' })
  (h2:es[i]?=none->∀ h',(∀ b o,b ≠ I->s.heap.get? b=some o->h'.get? b=some o)->Q none { s with heap:=h' }):wpAny (model prog w) A (pyNext (.ref I)) Q E s:=by
 have ty:s.TypeIs (.ref I) "dict_keyiterator" := ⟨_,hI,rfl⟩
 unfold pyNext
 refine Zp (wpAny_attempt (wpAny_callSpecial?_slot (name:=Str.ofString "__next__") ty YB (Y5 YB ty F.entry_dict_keyiterator_next (YE
  (Q:=fun f s'=>∃ v,f=.done (.ret v)/\Q (some v) s') (E:=fun e s'=>∃ x,e=.ref x/\(∃ o,s'.heap.get? x=some o/\o.cls=.type "StopIteration")/\Q none s') ?_ (fun f s' ⟨v,e,q⟩=>⟨v,e,Zb q⟩) fun e s' ⟨x,e1,⟨o,g,c⟩,q⟩=>?_) (F.args_dict_keyiterator_next_1 _))))
 ·refine Zp (Zb (Zp (Zp (Zp (Xh ty (Zb (Zp (wpAny_fieldsOf hI rfl ?_))))))))
  have own:Builtin.Dict_items.ownsTuple "dict_keyiterator" = false:=rfl
  simp only [own,Yj,↓reduceIte]
  refine (show wpAny _ _ (if (Value.ref d == Value.none)=true then _ else _) _ _ s from ?_)
  rw [Zo (fun e:(Value.ref d == Value.none)=true=>Za e)]
  refine Zp (Zb (Zp (wpAny_dictEntries hm rfl ?_)))
  rw [Zo (by simp)]
  refine Zp (Zb (Zp (wpAny_dictEpoch hm rfl ?_)))
  rw [Zo (by simp)]
  refine Zb ?_
  simp only [show ¬ ((i:Int) < 0) from by lia,↓reduceIte,Ya]
  cases he:es[i]? with
  | some e =>
   dsimp only
   have g1:(s.heap.update I (Obj.mapFields (·.setIfInBounds 1 (rawInt ((i:Int)+1))))).get? I=some (kO d (i+1) es.size ep):=Heap.get?_update_self _ hI rfl
   refine Zp (Zp (Xh ty (Zb (Zp (wpAny_isOneOf_keyiter ty ?_)))))
   refine (show wpAny _ _ (setField (.ref I) 1 (rawInt ((i:Int)+1)) >>= _) _ _ s from Zp (wpAny_setField hI rfl (by show 1 < 4;decide) (Zp (Xi ?_))))
   refine Zp (wpAny_isOneOf_keyiter (s:={ s with heap:=s.heap.update I (Obj.mapFields (·.setIfInBounds 1 (rawInt ((i:Int)+1)))) }) ⟨_,g1,rfl⟩ ?_)
   refine (show wpAny _ _ (pure e.key) _ _ _ from Zb (Zb ⟨_,rfl,h1 e he _ (Heap.SameBut.update ..) g1⟩))
  | none =>
   dsimp only
   refine Zp (Zp (Xh ty (Zb ?_)))
   refine (show wpAny _ _ (setField (.ref I) 0 .none >>= _) _ _ s from Zp (wpAny_setField hI rfl (by show 0 < 4;decide) (By hh fun h' x kp hx=>⟨x,rfl,hx,h2 he h' fun b o hb e=>kp b o ?_⟩)))
   rw [X1 _ _ (YW hb)]
   exact e
 ·subst e1
  exact Zp (XD (T := "StopIteration") (b:=true) ⟨o,g,c⟩ isSubtype_stop (Zb q))
end ST
end
section
namespace VS
open PySem PySem.Spec PyProof.Rows L2 TS
section
variable {G:Gx} {X:Cx} {a b c e tg:Expr} {es:List Expr} {ca cb cc ce ck:Ex} {cs:Exs} {pos p p1 p2 apos cpos pos':Pos} {k k' kr:Nat}
noncomputable def kT (k:List Key):T:=.tup (k.map aO)
theorem oW:∀ (k k':List Key),om (k'.map aO) (k.map aO)=true ↔ k'=k
 | [],[]=>by simp
 | [],_ :: _=>by simp
 | _ :: _,[]=>by simp
 | a :: k,b :: k'=>by
  simp only [Zs,om,ZY,oW k k',gq,List.cons.injEq]
theorem Bq (k k':List Key):eqT (kT k') (kT k)=true ↔ k'=k:=by
 unfold kT
 simp only [eqT]
 exact oW k k'
theorem xK (k k':List Key):eqT (kT k') (kT k)=decide (k'=k):=by rw [Y4,decide_eq_true_eq];exact Bq k k'
end
end VS
end
section
namespace VS
open PySem PySem.Spec PyProof.Rows L2
noncomputable def nkI:T->Option Key
 | .int i=>some (.inl i)
 | .str x=>some (.inr (sx x))
 | _=>none
noncomputable def nk1:T->Option (List Key)
 | .tup l=>l.mapM nkI
 | _=>none
noncomputable def sM:T->Option cx
 | .tup l=>l.mapM nk1
 | _=>none
theorem wH {t:T} {i:Key} (h:nkI t=some i):t=aO i:=by cases t <;> simp [nkI] at h <;> subst h <;> rfl
theorem lR {α β:Type} {f:α->Option β} {g:β->α} (h:∀ a b,f a=some b->a=g b):∀ {l:List α} {m:List β},l.mapM f=some m->l=m.map g
 | [],m,e=>by simp at e;subst e;rfl
 | a :: l,m,e=>by
  simp only [List.mapM_cons,Option.pure_def,Option.bind_eq_bind] at e
  obtain ⟨b,hb,e⟩:=Zz.mp e
  obtain ⟨bs,hbs,e⟩:=Zz.mp e
  cases e
  rw [Zs,← h a b hb,← lR h hbs]
theorem xR {t:T} {k:List Key} (h:nk1 t=some k):t=.tup (k.map aO):=by
 cases t with
 | tup l=>exact congrArg T.tup (lR (fun a b=>wH) h)
 | _=>simp [nk1] at h
theorem ou {t:T} {k:cx} (h:sM t=some k):t=nkT k:=by
 cases t with
 | tup l=>exact congrArg T.tup (lR (fun a b=>xR) h)
 | _=>simp [sM] at h
section
variable {G:Gx} {X:Cx} {a b c e o tg:Expr} {es:List Expr} {ca cb cc ce ck cv:Ex} {cs:Exs} {pos p p1 p2 apos cpos pos' ap1 cp1 lp:Pos} {k k' kr i:Nat}
theorem Rp.keyv {H:Hp} {v:V} {k:Key} {F:Wm} (r:Rp G H v (aO k) F):v=kV k:=by
 obtain ⟨q,rfl,e⟩:=dv r (by cases k <;> rfl)
 rw [(gq q k).mp (e ▸ (gq q q).mpr rfl)]
theorem RpL.ints {H:Hp}:∀ {k:List Key} {vs:List V} {Fs:Xg},RpL G H vs (k.map aO) Fs->vs=k.map kV
 | [],_,_,r=>by rw [Xz] at r;cases r;rfl
 | i :: k,_,_,r=>by
  rw [Zs] at r
  cases r with
  | cons h t=>rw [Zs,← RpL.ints t,Rp.keyv h]
theorem Rp.tup_inv' {H:Hp} {v:V} {ts:Wb} {F:Wm} (r:Rp G H v (.tup ts) F):∃ b vs Fs,v=.ref b/\H b=some (.tup vs)/\RpL G H vs ts Fs:=by
 cases r with
 | tup h q=>exact ⟨_,_,_,rfl,h,q⟩
theorem tV {H:Hp} {v:V} {k:cx} {F:Wm} (r:Rp G H v (nkT k) F):∃ b,v=.ref b/\NAt H k b:=by
 obtain ⟨b,vs,Fs,rfl,h,q⟩:=Rp.tup_inv' r
 have all:∀ {k:cx} {vs:List V} {Fs:Xg},RpL G H vs (k.map fun x=>T.tup (x.map aO)) Fs->∃ cs:Wm,vs=cs.map V.ref/\Paired (fun (x:List Key) (c:Addr)=>H c=some (.tup (x.map kV))) k cs:=by
  intro k
  induction k with
  | nil=>intro vs Fs q;rw [Xz] at q;cases q;exact ⟨[],rfl,.nil⟩
  | cons x k ih =>
   intro vs Fs q
   rw [Zs] at q
   cases q with
   | cons h t =>
    obtain ⟨c,us,Gs,rfl,hc,qc⟩:=Rp.tup_inv' h
    obtain ⟨cs,e,pr⟩:=ih t
    rw [RpL.ints qc] at hc
    exact ⟨c :: cs,by rw [e];rfl,.cons hc pr⟩
 obtain ⟨cs,e,pr⟩:=all q
 exact ⟨b,rfl,cs,by rw [h,e],pr⟩
theorem qo:∀ (x y:cx),eqT (nkT x) (nkT y)=decide (x=y):=by
 intro x y
 unfold nkT
 rw [eqT]
 induction x generalizing y with
 | nil=>cases y <;> simp
 | cons i x ih =>
  cases y with
  | nil=>simp
  | cons j y =>
   rw [Zs,Zs,om,ih y,show eqT (T.tup (i.map aO)) (T.tup (j.map aO))=decide (i=j) from xK j i]
   simp only [List.cons.injEq,Bool.decide_and]
noncomputable abbrev kvN (ks:List (cx×Addr)) (vs:List V):List (cx×Addr×V):=(ks.zip vs).map fun p=>(p.1.1,p.1.2,p.2)
theorem lh {H:Hp} {k:cx}:∀ {ks:List (cx×Addr)} {vs:List V} {ts:Wb} {Fs:Xg},ks.length=vs.length->RpL G H vs ts Fs →
  (((ks.map fun p=>nkT p.1).zip ts).findIdx? (fun q=>eqT q.1 (nkT k))=none/\atN (kvN ks vs) k=none) ∨
  ∃ (j:Nat) (v:V) (t:T) (F:Wm),((ks.map fun p=>nkT p.1).zip ts).findIdx? (fun q=>eqT q.1 (nkT k))=some j/\(ks.map fun p=>nkT p.1)[j]?=some (nkT k)/\ts[j]?=some t/\atN (kvN ks vs) k=some v/\vs[j]?=some v/\Fs[j]?=some F/\Rp G H v t F
 | [],[],_,_,_,.nil=>.inl ⟨rfl,rfl⟩
 | k' :: ks,v :: vs,_,_,hl,.cons (t:=t) (F:=F) (ts:=ts) (Fs:=Fs) r q=>by
  by_cases hk:k'.1=k
  ·refine .inr ⟨0,v,t,F,?_,by simp [hk],rfl,by simp [atN,kvN,hk],rfl,rfl,r⟩
   rw [Zs,Zg,Y6,Zr (by rw [qo];exact ZL hk)]
  ·have e1:((((k' :: ks).map fun p=>nkT p.1).zip (t :: ts)).findIdx? fun q=>eqT q.1 (nkT k))=((((ks.map fun p=>nkT p.1).zip ts)).findIdx? fun q=>eqT q.1 (nkT k)).map (·+1):=by
    rw [Zs,Zg,Y6,Zo (by rw [qo];simp [hk])]
   have e2:atN (kvN (k' :: ks) (v :: vs)) k=atN (kvN ks vs) k:=by simp [atN,kvN,hk]
   rcases lh (k:=k) (by simpa using hl) q with ⟨h1,h2⟩ | ⟨j,v',t',F',h1,h2,h3,h4,h5,h6,h7⟩
   ·exact .inl ⟨by rw [e1,h1];rfl,by rw [e2];exact h2⟩
   ·exact .inr ⟨j+1,v',t',F',by rw [e1,h1];rfl,by simpa using h2,by simpa using h3,by rw [e2];exact h4,by simpa using h5,by simpa using h6,h7⟩
theorem oT {H:Hp} {v:V} {l:List (T×T)} {F:Wm} (r:Rp G H v (.dct 2 l) F):∃ (a:Addr) (ks:List (cx×Addr)) (vs:List V) (ts:Wb) (Fs:Xg),v=.ref a/\F=a :: Fs.flatten/\H a=some (DN a (kvN ks vs))/\ks.length=vs.length/\(∀ p∈ks,NAt H p.1 p.2)/\l=(ks.map fun p=>nkT p.1).zip ts/\RpL G H vs ts Fs:=by
 cases r with
 | dctN h hl n q=>exact ⟨_,_,_,_,_,rfl,rfl,h,hl,n,rfl,q⟩
theorem pC {H:Hp} {ks:List (cx×Addr)} {vs:List V} (h:∀ p∈ks,NAt H p.1 p.2):∀ p∈kvN ks vs,NAt H p.1 p.2.1:=fun p hp=>by
 obtain ⟨q,hq,rfl⟩:=ZG.mp hp
 exact h q.1 (XI (a:=q.1) (b:=q.2) hq).1
end
end VS
end
section
namespace L2
open PySem PySem.Spec PyProof.Rows
section
variable {X:Cx} {tg:Expr} {pos:Pos}
noncomputable def Ag:TE:=fun _ H Q=>∀ p,H p=none->Q (.ref p) (upd H p (DN p []))
theorem wk:PE X (.Dict [] [] pos) Ag:=fun pins s σ H Q I h =>
 wpAny_Dict_empty ⟨.ref s.heap.objs.size,_,I.laid (a:=s.heap.objs.size) (o:=DN s.heap.objs.size []) (t':=s.toks) (fun _ _ q=>Zi _ q) (Zl _)
  (uD (xs:=[]) (Yr _) (ZK.mpr (YW (ZS I.big))) .nil (Heap.DictOfH.new s.heap)),rfl,h _ (I.hok.fresh (Zl _))⟩
theorem t8 {o:Obj} {es:Array DictEntry} {ep:Nat} (h:o.ExactDict) (e:o.data=.dict es ep):o=ST.dO es ep:=by
 obtain ⟨c,d,dt,sl⟩:=o
 obtain ⟨h1,h2,h3⟩:=h
 simp only at h1 h2 h3 e
 subst h1 h2 h3 e
 rfl
end
end L2
namespace VS
open PySem PySem.Spec PyProof.Rows L2
section
variable {G:Gx} {X:Cx} {pos p p1 p2 p3 p4 spos:Pos} {kr i:Nat} {sc:Scope}
theorem xk:PV G X (.Dict [] [] pos) (kJ 2 []):=PE.weak wk fun σ H Q hq=>by
 obtain ⟨Φ,η,m,t,s,e,k⟩:=hq
 cases (show some (Md.fr,T.dct 2 [])=some (m,t) from e)
 intro q hq
 have:Rp G (upd H q (DN q [])) (.ref q) (.dct 2 ((([]:List (cx×Addr)).map fun p=>nkT p.1).zip [])) (q :: ([]:Xg).flatten):=.dctN (vs:=[]) aA rfl (fun p hp=>by simp at hp) .nil
 exact k _ _ [q] (dj hq) this ⟨by simp,fun b hb=>by rw [Zf.mp hb];exact hq⟩
end
end VS
end
section
namespace L2
open PySem PySem.Spec PyProof.Rows
section
variable {X:Cx}
noncomputable def NSt (H:Hp) (a b:Addr) (kvs:List (cx×Addr×V)) (k:cx):Prop:=H a=some (DN a kvs)/\(∀ p∈kvs,NAt H p.1 p.2.1)/\NAt H k b
noncomputable def zr:R2:=fun x y H Q=>∃ a b kvs k,x=.ref b/\y=.ref a/\NSt H a b kvs k/\Q (.bl (atN kvs k).isSome) H
theorem Ak (hu:X.A.units+2 < cLine):OpR X (compareOp .In) zr:=by
 intro pins s σ H x y v u Q I rx ry h
 obtain ⟨a,b,kvs,k,rfl,rfl,⟨e,hks,hk⟩,q⟩:=h
 cases rx
 cases ry
 obtain ⟨z,hd,xs,rel,dd⟩:=ze I.hok e hks
 refine wpAny_in_heap (knd:=NK.nest (ba X.prog X.w)) (by show X.A.units+1+1 < cLine;exact hu) (hk.is I.hok) hd dd ?_
 have h:=(rel.at k).isSome_eq
 rw [Yc] at h
 rw [← h]
 exact ⟨.bl _,H,I.tok _,rfl,q⟩
noncomputable def BP:u5:=fun o i v H Q=>∃ a b kvs k,o=.ref a/\i=.ref b/\NSt H a b kvs k/\kvs.length < sizeLine/\atN kvs k=none/\Q (upd H a (DN a (kvs++[(k,b,v)])))
theorem Ce (hu:X.A.units+2 < cLine):yh X BP:=by
 intro pins s σ H o i v ov iv u Q I ro ri rv h
 obtain ⟨a,b,kvs,k,rfl,rfl,⟨e,hks,hk⟩,hl,hn,q⟩:=h
 cases ro
 cases ri
 obtain ⟨z,hd,xs,rel,dd⟩:=ze I.hok e hks
 have hz:xs.length<=sizeLine:=by rw [← rel.length];exact z
 have hat:=rel.at k
 rw [hn] at hat
 have no:atKey xs k=none:=by
  cases hx:atKey xs k with
  | none=>rfl
  | some w=>rw [hx] at hat;cases hat
 refine wpAny_setItem_heap (knd:=NK.nest (ba X.prog X.w)) (hsz:=hz) (by show X.A.units+1+1 < cLine;exact hu) (hk.is I.hok) dd fun h' dd' hs=>?_
 rw [storedH_new no] at dd'
 have he:∃ q,h'.get? a=some q:=let ⟨q,_,_,hq,_⟩:=dd';⟨q,hq⟩
 exact ⟨_,jy I (by rw [e];exact True.intro) hs he (uD (by rw [Zy];exact hl) hd (rel.add ⟨rfl,rfl,rv⟩) dd'),q⟩
end
end L2
namespace VS
open PySem PySem.Spec PyProof.Rows L2
section
variable {G:Gx} {X:Cx} {a b e:Expr} {ca cb ce ck:Ex} {pos pos' p1:Pos} {k kr:Nat}
@[simp] noncomputable def rU (x y:Val):Wc:=match y.2 with
 | .dct 2 l=>if (sM x.2).isSome then some (.fr,.bl (l.findIdx? fun p=>eqT p.1 x.2).isSome) else none
 | _=>none
theorem AE:fu G zr rU:=by
 intro Φ η H0 H x y u w F1 F2 m t Q tw e k
 obtain ⟨m2,y⟩:=y
 obtain ⟨m1,x⟩:=x
 simp only [rU] at e
 split at e
 ·split at e
  ·rename_i hk
   cases e
   obtain ⟨kk,ek⟩:=Yo.mp hk
   obtain rfl:=ou ek
   obtain ⟨a,ns,vs,ts,Fs,rfl,_,ha,hln,hat,rfl,ra⟩:=oT tw.r2
   obtain ⟨b,rfl,hb⟩:=tV tw.r1
   refine ⟨a,b,kvN ns vs,kk,rfl,rfl,⟨ha,pC hat,hb⟩,?_⟩
   have:(atN (kvN ns vs) kk).isSome=(((ns.map fun p=>nkT p.1).zip ts).findIdx? fun q=>eqT q.1 (nkT kk)).isSome:=by
    rcases lh (G:=G) (k:=kk) hln ra with ⟨h1,h2⟩ | ⟨j,v,t,F,h1,_,_,h2,_⟩
    ·rw [h1,h2];rfl
    ·rw [h1,h2];rfl
   rw [this]
   exact bB k (.bl _)
  ·cases e
 ·cases e
theorem sT:Tells rU:=by
 intro x y m t e
 simp only [rU] at e
 split at e
 all_goals first | (split at e <;> first | (cases e;exact ⟨_,rfl⟩) | cases e) | cases e
theorem Bo (hr:Room k X.A) (ha:PV G X a ca) (hb:PV G X b cb) (hm:behindInMarks .In b=false:=by with_unfolding_all rfl):PVT G X (.Compare a [.In] [b] pos) (e2 rU ca cb):=eK (r:=zr) (Ak (by have:=hr.un;lia)) AE sT ha hb hm
noncomputable def rD (i:Nat) (k e:Ex) (η:VS.Env):Option Out:=(e η).bind fun v=>match η[i]? with
 | some (some (.ow (.dct 2 l)))=>(k η).bind fun kv=>if (sM kv.2).isSome/\imm v.2/\l.length < eA/\(l.findIdx? fun p=>eqT p.1 kv.2)=none then some (.nx (η.set i (some (.ow (.dct 2 (l++[(kv.2,v.2)])))))) else none
 | _=>none
theorem Ad (i:Nat) {x:Str} (hr:Room kr X.A) (hk:PV G X b ck) (he:PV G X e ce) (hN:X.N[i]?=some x) (hv:Vis X.env.scope x) (hd:(x == ("__debug__" : Str))=false) (hcd:(x == ("__classdict__" : Str))=false)
  (ha:∀ v,assign (.Subscript (.Name x p1) b pos') X.env v=(do
   let ov ← holding [v] (eval (.Name x p1) X.env)
   let iv ← holding [v,ov] (eval b X.env)
   standAt pos'
   holding [v,ov,iv] (setItem ov iv v)
   release [v,ov,iv] [])) (hs:swapsWithSole [.Subscript (.Name x p1) b pos'] e pos.line X.env=pure false) (hw:swappedStores [.Subscript (.Name x p1) b pos'] e X.env=pure none)
  (h1:(assignEach [.Subscript (.Name x p1) b pos'] X.env).map (·.2)=[assign (.Subscript (.Name x p1) b pos') X.env]):PSV G X (.Assign [.Subscript (.Name x p1) b pos'] e pos) (rD i ck ce) :=
 PS.weak (nB he (nM (gr hN hv hd hcd) hk (Ce (by have:=hr.un;lia)) ha) hs hw h1) fun D σ H hq=>by
  obtain ⟨Φ,η,out,s,e,k⟩:=hq
  unfold rD at e
  obtain ⟨⟨mv,tv⟩,ev,e⟩:=Zz.mp e
  split at e
  ·rename_i l hl
   obtain ⟨⟨mk,tk⟩,ekk,e⟩:=Zz.mp e
   split at e
   ·rename_i hc
    cases e
    obtain ⟨c1,c2,c3,c4⟩:=hc
    obtain ⟨v,g1,g2⟩:=s.rp _ _ hl
    refine ⟨Φ,η,mv,tv,s,ev,fun xv H1 Fv sm1 rv fv=>?_⟩
    refine ⟨v,g1,Φ,η,mk,tk,s.same sm1,ekk,fun kv H3 Fk sm3 rk fk=>?_⟩
    have sm:aN H H3:=sm1.trans sm3
    have rv3:Rp G H3 xv tv Fv:=rv.same sm3
    have eF:=rv3.imm c2
    subst eF
    have w3:=s.nd i _ hl
    obtain ⟨a,ns,vs,ts,Fs,rfl,eΦ,ha',hln,hat,rfl,ra⟩:=oT g2
    rw [eΦ] at w3
    obtain ⟨kk,ek1⟩:=Yo.mp c1
    have etk:=ou ek1
    dsimp only at etk c4 c2
    subst etk
    obtain ⟨kb,rfl,hkb⟩:=tV rk
    have ha3:H3 a=some (DN a (kvN ns vs)):=sm a _ ha'
    have m3:Mut (H3 a):=by rw [ha3];exact True.intro
    have nd:=Zd.mp w3
    have hat3:∀ p∈ns,NAt H3 p.1 p.2:=fun p hp=>(hat p hp).mono fun b xs z=>sm b _ z
    have ln:(kvN ns vs).length < sizeLine:=by
     have:((ns.map fun p=>nkT p.1).zip ts).length < 16777216:=c3
     rw [Yy,Zv] at this
     rw [Zv,Yy]
     have:=ra.len.1
     have:(sizeLine:Nat)=16777216:=rfl
     lia
    have no:atN (kvN ns vs) kk=none:=by
     rcases lh (G:=G) (k:=kk) hln ra with ⟨_,h2⟩ | ⟨j,_,_,_,h1,_⟩
     ·exact h2
     ·rw [h1] at c4;cases c4
    refine ⟨a,kb,kvN ns vs,kk,rfl,rfl,⟨ha3,pC hat3,hkb⟩,ln,no,?_⟩
    have ep:kvN ns vs++[(kk,kb,xv)]=kvN (ns++[(kk,kb)]) (vs++[xv]):=by
     unfold kvN
     rw [Xm hln,ZA]
     rfl
    rw [ep]
    have kp:Kept H3 (upd H3 a (DN a (kvN (ns++[(kk,kb)]) (vs++[xv])))):=Kept.upd (.inl m3)
    have r1:=((ra.same sm).append (.cons rv3 .nil)).off (o:=DN a (kvN (ns++[(kk,kb)]) (vs++[xv]))) m3 (by simpa using nd.1)
    have g:Chg G H (.ref a) (Φ i) (.dct 2 ((ns.map fun p=>nkT p.1).zip ts++[(nkT kk,tv)])) (upd H3 a (DN a (kvN (ns++[(kk,kb)]) (vs++[xv])))) (a :: (Fs++[[]]).flatten):=by
     rw [eΦ,show (ns.map fun p=>nkT p.1).zip ts++[(nkT kk,tv)]=((ns++[(kk,kb)]).map fun p=>nkT p.1).zip (ts++[tv]) by
      rw [ZA,Xm (by rw [Zv];exact hln.trans ra.len.1)];rfl]
     have ef:(Fs++[[]]).flatten=Fs.flatten:=by simp
     refine Chg.upd sm Zx m3 (.dctN aA (by simp [hln]) (fun p hp=>?_) r1) (by rw [ef];exact w3) (by rw [ef];exact fun b hb=>.inl hb)
     rcases Zc.mp hp with hp | hp
     ·exact (hat3 p hp).mono kp.tup
     ·rw [Zf.mp hp];exact hkb.mono kp.tup
    obtain ⟨z1,z2⟩:=s.mut hl g1 g
    exact k _ σ _ z1 z2
   ·cases e
  ·cases e
end
end VS
end
section
namespace VS
open PySem PySem.Spec PyProof.Rows L2
section
variable {G:Gx} {X:Cx} {e b:Expr} {cs:Exs} {cb:Ex} {pos p p1 p2 kp apos cpos:Pos} {k k' kr:Nat} {x:Str} {ps:List Str} {g:Fn}
theorem hJ {a b c:Expr} {ca cb cc:Ex} (ha:PV G X a ca) (hb:PV G X b cb) (hc:PV G X c cc) (hm:lastMarks [.LtE,.Lt] [b,c]=false):PVT G X (.Compare a [.LtE,.Lt] [b,c] pos) (i5 oLe oLt ca cb cc) :=
 PT.weak (wb tP nG ha hb hc hm) fun σ H Q h=>pj h (fun η m r e=>by
  unfold i5 at e
  obtain ⟨x,ea,e⟩:=Zz.mp e
  obtain ⟨y,eb,e⟩:=Zz.mp e
  obtain ⟨⟨mz,z⟩,ez,e⟩:=Zz.mp e
  cases z with
  | bl q =>
   cases q with
   | false=>cases e;exact ⟨_,rfl⟩
   | true =>
    obtain ⟨z2,ec,e⟩:=Zz.mp (show (cc η).bind (fun z=>oLt y z)=some (m,r) from e)
    exact jg y z2 m r e
  | _=>cases e) fun Q h=>uU y0 qN h
theorem vW {ce:Ex} (h:PV G X e ce) (hsw:swapsWith e none pos.line X.env=pure false):PSV G X (.Expr e pos) (sX (xP ce)) :=
 PS.weak (jb h hsw) fun D σ H hq=>by
  obtain ⟨Φ,η,out,s,e,k⟩:=hq
  unfold sX xP at e
  obtain ⟨⟨v,η'⟩,e1,e2⟩:=Zu.mp e
  obtain ⟨⟨m,t⟩,e3,e4⟩:=Zu.mp e1
  cases e4
  cases e2
  exact ⟨Φ,η,m,t,s,e3,fun v H' F e1 r1 f1=>k Φ σ H' (s.same e1) (Frm.same e1)⟩
end
section
variable {G:Gx} {X:Cx} {a b e:Expr} {ca ck ce:Ex} {pos pos' p1:Pos} {kr:Nat}
theorem zy {j pos'} (ha:PV G X a ca):PVT G X (.Compare a [.Is] [.Constant .none j pos'] pos) (yy ca) :=
 PT.weak (ve (A9 ha)) fun σ H Q h=>zk h (fun η m r e=>by
  unfold yy at e
  obtain ⟨x,_,e⟩:=Zz.mp e
  cases e
  exact ⟨_,rfl⟩) fun Q hq=>by
   obtain ⟨Φ,η,m,r,s,e,q⟩:=hq
   unfold yy at e
   obtain ⟨⟨n,x⟩,ea,e⟩:=Zz.mp e
   cases e
   refine ⟨Φ,η,n,x,s,ea,fun v H' F e1 r1 f1=>?_⟩
   show Q (.bl (decide (v=.non))) H'
   rw [qu r1]
   exact q _ H' _ e1 (.bl _) Fp.nil
theorem kA {j pos'} (ha:PV G X a ca):PVT G X (.Compare a [.IsNot] [.Constant .none j pos'] pos) (fX ca) :=
 PT.weak (ve (xy ha)) fun σ H Q h=>zk h (fun η m r e=>by
  unfold fX at e
  obtain ⟨x,_,e⟩:=Zz.mp e
  cases e
  exact ⟨_,rfl⟩) fun Q hq=>by
   obtain ⟨Φ,η,m,r,s,e,q⟩:=hq
   unfold fX at e
   obtain ⟨⟨n,x⟩,ea,e⟩:=Zz.mp e
   cases e
   refine ⟨Φ,η,n,x,s,ea,fun v H' F e1 r1 f1=>?_⟩
   show Q (.bl (!decide (v=.non))) H'
   rw [qu r1]
   exact q _ H' _ e1 (.bl _) Fp.nil
noncomputable def kg (i:Nat) (k e:Ex) (η:VS.Env):Option Out:=(e η).bind fun v=>match η[i]? with
 | some (some (.ow (.dct 0 l)))=>(k η).bind fun kv=>if iQ kv.2/\imm v.2/\l.length < eA then some (.nx (η.set i (some (.ow (.dct 0 (dput l kv.2 v.2)))))) else none
 | _=>none
theorem uy (i:Nat) {x:Str} (hr:Room kr X.A) (hk:PV G X b ck) (he:PV G X e ce) (hN:X.N[i]?=some x) (hv:Vis X.env.scope x) (hd:(x == ("__debug__" : Str))=false) (hcd:(x == ("__classdict__" : Str))=false)
  (ha:∀ v,assign (.Subscript (.Name x p1) b pos') X.env v=(do
   let ov ← holding [v] (eval (.Name x p1) X.env)
   let iv ← holding [v,ov] (eval b X.env)
   standAt pos'
   holding [v,ov,iv] (setItem ov iv v)
   release [v,ov,iv] [])) (hs:swapsWithSole [.Subscript (.Name x p1) b pos'] e pos.line X.env=pure false) (hw:swappedStores [.Subscript (.Name x p1) b pos'] e X.env=pure none)
  (h1:(assignEach [.Subscript (.Name x p1) b pos'] X.env).map (·.2)=[assign (.Subscript (.Name x p1) b pos') X.env]):PSV G X (.Assign [.Subscript (.Name x p1) b pos'] e pos) (kg i ck ce) :=
 PS.weak (nB he (nM (gr hN hv hd hcd) hk (tF (jw hr)) ha) hs hw h1) fun D σ H hq=>by
  obtain ⟨Φ,η,out,s,e,k⟩:=hq
  unfold kg at e
  obtain ⟨⟨mv,tv⟩,ev,e⟩:=Zz.mp e
  split at e
  ·rename_i l ht
   obtain ⟨⟨mk,tk⟩,ekk,e⟩:=Zz.mp e
   split at e
   ·rename_i hc
    obtain ⟨c1,c2,c3⟩:=hc
    cases e
    obtain ⟨w,g1,w2⟩:=s.rp _ _ ht
    have w3:=s.nd i _ ht
    refine ⟨Φ,η,mv,tv,s,ev,fun xv H1 Fv sm1 rv fv=>⟨w,g1,Φ,η,mk,tk,s.same sm1,ekk,fun kv H3 Fk sm3 rk fk=>?_⟩⟩
    have sm:aN H H3:=sm1.trans sm3
    have rv3:Rp G H3 xv tv Fv:=rv.same sm3
    have eF:=rv3.imm c2
    subst eF
    obtain ⟨a,ns,vs,ts,Fs,rfl,eF1,ha',hl,rfl,ra⟩:=eO w2
    rw [eF1] at w3
    obtain ⟨kk,rfl,ekk'⟩:=dv rk c1
    subst ekk'
    have ha3:H3 a=some (.dK (ns.zip vs)):=sm a _ ha'
    have m3:Mut (H3 a):=by rw [ha3];exact True.intro
    have nd:=Zd.mp w3
    obtain ⟨ks',vs',ts',Fs',q1,q2,q3,q4,q5⟩:=pP (kk:=kk) rv3 hl (ra.same sm)
    have ln:(ns.zip vs).length < sizeLine:=by
     have:((ns.map aO).zip ts).length < 16777216:=c3
     rw [Yy,Zv] at this
     rw [Yy]
     have:=ra.len.1
     have:(sizeLine:Nat)=16777216:=rfl
     lia
    refine .inr ⟨a,_,rfl,pS.k ha3 ln,?_⟩
    have g:Chg G H (.ref a) (Φ i) (.dct 0 (dput ((ns.map aO).zip ts) (aO kk) tv)) (upd H3 a (.dK (putK (ns.zip vs) kk xv))) (a :: Fs'.flatten):=by
     rw [eF1,q1,q3]
     refine Chg.upd sm Zx m3 (.dct aA q2 (q4.off m3 fun z=>nd.1 (q5.subset z))) ?_ ?_
     ·exact Zd.mpr ⟨fun z=>nd.1 (q5.subset z),nd.2.sublist q5⟩
     ·intro bb hb
      rcases Zh.mp hb with rfl | hb
      ·exact .inl Zx
      ·exact .inl (Zw _ (q5.subset hb))
    obtain ⟨z1,z2⟩:=s.mut ht g1 g
    exact k _ σ _ z1 z2
   ·cases e
  ·cases e
end
end VS
end
section
namespace VS
open PySem PySem.Spec PyProof.Rows L2
section
variable {G:Gx} {X:Cx} {e:Expr} {cs:Exs} {p pos:Pos}
theorem yq:bootBuiltins ("dict" : Str)=some (.type "dict"):=by decide +kernel
end
end VS
end
section
namespace L2
open PySem PySem.Spec PyProof.Rows
section
variable {X:Cx} {pins:Xq} {σ:St} {H:Hp} {s:Shared}
theorem m7 {d:Addr} {kvs:List (Key×V)} {o:Obj} (I:Inv X pins σ H s) (e:H d=some (.dK kvs)) (g:s.heap.get? d=some o):Inv X pins σ (upd H d (.frz o (.dK kvs))) s :=
 jy (t':=s.toks) I (by rw [e];exact True.intro) ⟨rfl,fun _ _=>rfl⟩ ⟨o,g⟩ ⟨g,I.hok d _ e⟩
end
noncomputable def Itk (d:Addr) (o:Obj) (kvs:List (Key×V)):It :=
 ⟨fun i H=>H d=some (.frz o (.dK kvs))/\i < kvs.length,fun i H x H'=>H'=H/\∃ p,kvs[i]?=some p/\x=kV p.1,fun i H=>H d=some (.frz o (.dK kvs))/\kvs.length<=i⟩
theorem xf {k:Key} {v:Value} (h:kh k v=true):RelV (kV k) v:=by
 rcases bN h with ⟨i,t,rfl,rfl⟩ | ⟨x,t,rfl,rfl⟩
 ·exact ⟨t,rfl⟩
 ·exact ⟨t,rfl⟩
theorem mJ {P:Program} {w:World} {es:List DictEntry} {m:List (Key×Value)} (r:Pairs (ba P w) es m) {i:Nat} {e:DictEntry} (h:es[i]?=some e):∃ q,m[i]?=some q/\kh q.1 e.key=true:=by
 induction r generalizing i with
 | nil=>simp at h
 | @cons e' kv es kvs h1 h2 _ ih =>
  cases i with
  | zero =>
   simp at h
   subst h
   exact ⟨kv,rfl,h1⟩
  | succ i=>simpa using ih (by simpa using h)
theorem AC {l:List (Key×V)} {m:List (Key×Value)} (r:KV l m) {i:Nat} {q:Key×Value} (h:m[i]?=some q):∃ p,l[i]?=some p/\p.1=q.1:=by
 induction r generalizing i with
 | nil=>simp at h
 | @cons p' q' ps qs hq t ih =>
  cases i with
  | zero=>simp at h;subst h;exact ⟨p',rfl,hq.1⟩
  | succ i=>simpa using ih (by simpa using h)
section
variable {X:Cx} {tg:Expr} {pos:Pos}
theorem Bl {P:Program} {w:World} {K:Xd} (d it:Addr) {kvs:List (Key×V)} {es:Array DictEntry} {ep:Nat} {xs:List (Key×Value)} (rel:KV kvs xs) (he:Pairs (ba P w) es.toList xs) :
  Turn P w K tg (Itk d (ST.dO es ep) kvs) [it] it (fun i h=>h.get? it=some (ST.kO d i es.size ep)) where
 mem:=by simp
 obj:=fun i h st b hb=>by
  rw [Zf.mp hb]
  exact ⟨_,st,fun v z=>by cases z⟩
 keep:=fun i h h' st k=>k it (by simp) _ st
 item:=by
  intro X hP hw hK hc i pins s σ H E I hf st hg
  subst hP hw hK
  obtain ⟨f0,f1,f2,f3,f4,f5⟩:=hf it (by simp)
  refine ST.oz (I.ok.hd hc) st (show s.heap.get? d=some (ST.dO es ep) from (I.hok d _ hg.1).1) (fun e hi h' sb g=>?_) fun hn=>?_
  ·have I1:Inv X pins σ H { s with heap:=h' }:=I.turned (t':=s.toks) (fun b o hb e=>(sb.2 b hb).trans e) f0 f1 f3 f4 f5
   rw [← Yh] at hi
   obtain ⟨q,hq,hk⟩:=mJ he hi
   obtain ⟨p,hp,hb⟩:=AC rel hq
   exact ⟨_,rfl,o6 (s:={ s with heap:=h' }) g rfl rfl rfl ⟨kV p.1,H,I1,by rw [hb];exact xf hk,⟨rfl,p,hp,rfl⟩,g,fun b hb=>(hf b hb).1⟩⟩
  ·exfalso
   rw [← Yh,Yp,he.length,← YA rel] at hn
   exact absurd hg.2 (by lia)
 done:=by
  intro X hP hw hK hc i pins s σ H E I hf st hg
  subst hP hw hK
  obtain ⟨f0,f1,f2,f3,f4,f5⟩:=hf it (by simp)
  refine ST.oz (I.ok.hd hc) st (show s.heap.get? d=some (ST.dO es ep) from (I.hok d _ hg.1).1) (fun e hi h' sb g=>?_) fun hn h' kp=>⟨rfl,I.turned (t':=s.toks) (fun b o hb e=>kp b o hb e) f0 f1 f3 f4 f5⟩
  exfalso
  rw [← Yh] at hi
  obtain ⟨q,hq,hk⟩:=mJ he hi
  have:=(ZZ.mp hq).1
  have h2:=hg.2
  rw [YA rel] at h2
  lia
 self:=fun _ _ _ _ _ st hQ=>wpAny_pyIter_slot ⟨_,st,rfl⟩ F.slot_dict_keyiterator_iter (Y5 F.slot_dict_keyiterator_iter ⟨_,st,rfl⟩ F.entry_dict_keyiterator_iter (show wpAny _ _ (ret (.ref it)) _ _ _ from Zb ⟨_,rfl, "dict_keyiterator",_,⟨_,st,rfl⟩,YB.lookup,hQ⟩) (F.args_dict_keyiterator_iter_1 _))
noncomputable def iDk (tl:TE):TI:=fun σ H R=>tl σ H fun x H1=>∃ d kvs,x=.ref d/\H1 d=some (.dK kvs)/\∀ o,R (Itk d o kvs) (upd H1 d (.frz o (.dK kvs)))
theorem CK {l:Expr} {tl:TE} (hl:PE X l tl):PI X tg l (iDk tl):=by
 intro pins s σ H R I h
 refine thn (hl pins s σ H _ I h) fun v s1 ⟨x,H1,I1,r1,q1⟩=>?_
 obtain ⟨d,kvs,ex,e,q⟩:=q1
 subst ex
 cases r1
 obtain ⟨z,y,xs,rel,o,es,ep,g,ex,hd,_,he,hn⟩:=pv I1.hok e
 have eo:=t8 ex hd
 subst eo
 refine ST.vH y g ?_
 refine ⟨s1.heap.objs.size,[s1.heap.objs.size],_,_,_,rfl,(m7 I1 e g).kept (t':=s1.toks) fun b o e=>Zi _ e,Bl d _ rel he,ZJ _ rfl,fun b hb=>?_,q _⟩
 have eb:b=s1.heap.objs.size:=by simpa using hb
 subst eb
 exact (m7 I1 e g).fpOk (Zl _) ((m7 I1 e g).hok.fresh (Zl _))
end
end L2
end
section
namespace L2
theorem zO {α:Type} {n:Nat} {us:List α} (hl:us.length=n+1):∃ a t,us=a :: t/\t.length=n:=by
 obtain ⟨a,t,e⟩:=List.exists_cons_of_length_eq_add_one hl
 subst e
 exact ⟨a,t,rfl,Nat.succ.inj hl⟩
theorem j0 {α:Type} {us:List α} (hl:us.length=1):∃ a,us=[a]:=List.length_eq_one_iff.mp hl
theorem dD {α:Type} {us:List α} (hl:us.length=2):∃ a b,us=[a,b]:=by
 obtain ⟨a,t,rfl,ht⟩:=zO hl
 obtain ⟨b,rfl⟩:=j0 ht
 exact ⟨a,b,rfl⟩
theorem sI {α:Type} {us:List α} (hl:us.length=3):∃ a b c,us=[a,b,c]:=by
 obtain ⟨a,t,rfl,ht⟩:=zO hl
 obtain ⟨b,c,rfl⟩:=dD ht
 exact ⟨a,b,c,rfl⟩
theorem Dc {α:Type} {us:List α} (hl:us.length=4):∃ a b c d,us=[a,b,c,d]:=by
 obtain ⟨a,t,rfl,ht⟩:=zO hl
 obtain ⟨b,c,d,rfl⟩:=sI ht
 exact ⟨a,b,c,d,rfl⟩
end L2
end
section
namespace VS
open PySem PySem.Spec PyProof.Rows L2
inductive Res where | ok (v:Val) | ex (x:Str)
inductive OutX where | ok (o:Out) | ex (x:Str) (η:VS.Env)
noncomputable abbrev ExX:=VS.Env->Option Res
noncomputable abbrev SxX:=VS.Env->Option OutX
end VS
end
section
namespace VS
open PySem PySem.Spec PyProof.Rows L2 PySem.F
section
variable {P:Program} {w:World} {K:Xd} {mg:Wx} {base:Heap}
noncomputable def yG:Fn:=fun ts=>match ts with
 | [.scr _]=>some (.fr,.bl true)
 | _=>none
end
end VS
end
section
namespace TS
open PySem PySem.Spec PyProof.Rows
variable {prog:Program} {w:World} {A:Around} {E:Y7} {s:Shared}
theorem rP {us:Wk} (hv:∀ v∈us,∃ x t,v=Value.str x t) {xs:Array Keyed} (hp:xs.Perm (pairsOf us)) (hs:SortedToK strKind xs (pairsOf us).size):((xs.map (·.2)).toList.map strOf).Pairwise (fun a b=>¬ b.cps.toList < a.cps.toList):=by
 obtain ⟨p1,p2⟩:=l8 hp
 rw [Xb,List.pairwise_iff_getElem]
 intro i j hi hj hij
 have key:∀ i (h:i < (xs.map (·.2)).toList.length),KK strKind xs i=(strOf (xs.map (·.2)).toList[i]).cps.toList:=fun i h=>by
  have e:xs[i]?=some ((xs.map (·.2)).toList[i],(xs.map (·.2)).toList[i]):=by
   rw [← Yh,← p2,ZE,Zm h]
   rfl
  obtain ⟨x,t,ex⟩:=hv _ (p1.mem_iff.mp (Z8 h))
  unfold KK
  rw [e]
  rw [ex]
  rfl
 have q:=hs i j (Y9 hij) (by rw [← hp.size_eq];simpa using hj)
 rw [key i hi,key j hj] at q
 exact of_decide_eq_false q
theorem nO {x:Value} {Q:Y7}
  (hcol:∀ (A':Around) (E':Y7),A'.handled=A.handled->wpAny (model prog w) A' (collect x) (fun us s1=>(∀ v∈us,∃ x t,v=Value.str x t)/\us.length < 64/\∀ (out:Wk) (h':Heap) (e:Nat),out.Perm us->(out.map strOf).Pairwise (fun a b=>¬ b.cps.toList < a.cps.toList)->(∀ b o,s1.heap.get? b=some o->h'.get? b=some o)->h'.get? s1.heap.objs.size=some (seqObj "list" out.toArray e)->Q (.ref s1.heap.objs.size) { s1 with heap:=h' }) E' s) :
  wpAny (model prog w) A (call (.builtin "sorted") [x]) Q E s:=by
 refine Calls.call_function_entry kind_sorted plain_sorted entry_sorted (args_sorted1 _) (show wpAny _ _ (Builtin.«sorted» _) _ _ _ from ?_)
 unfold Builtin.«sorted»
 refine Zp (m:=checkCount "sorted" 1 1 _) (Zb (Zp (YE (hcol A.in1 (fun _ _=>False) rfl) ?_ fun _ _ e=>e.elim)))
 rintro vs s1 ⟨hv,h64,h⟩
 refine Zp (wpAny_newList ?_ (by show vs.length<=sizeLine;rw [Xu];omega))
 have hoL:(s1.heap.push (seqObj "list" vs.toArray 0)).get? s1.heap.objs.size=some (seqObj "list" vs.toArray 0):=ZJ _ rfl
 show wpAny _ _ _ _ _ { s1 with heap:=s1.heap.push (seqObj "list" vs.toArray 0) }
 refine Zp (Xi (Y5 slot_list_sort ⟨_,hoL,rfl⟩ entry_list_sort (list_sort_treeK strKind_oneLt hoL (strsAre_map _ hv).keysOf (fun v₁ v₂ rest e=>keyKind_strs (by rw [← e];exact strsAre_map _ hv)) h64 fun st' a1 a2=>⟨_,rfl,?_⟩) (args_list_sort _)))
 obtain ⟨e,he⟩:=sortedHeap_at (out:=(arrOf st').map (·.2)) hoL
 exact Zb ⟨_,rfl,h ((arrOf st').map (·.2)).toList _ e (l8 a1).1 (rP hv a1 a2) (fun b o eb=>by
  have hb:=ZQ eb
  show (sortedHeap (s1.heap.push (seqObj "list" vs.toArray 0)) s1.heap.objs.size vs ((arrOf st').map (·.2))).get? b=some o
  rw [sortedHeap_old (ZS hb) (by rw [size_push'];exact Ww hb),Heap.get?_push_ne _ _ _ (ZS hb)]
  exact eb) he⟩
end TS
namespace L2
open PySem PySem.Spec PyProof.Rows TS
section
variable {X:Cx}
theorem i4 (hc:X.calm=true):dP X (.builtin "sorted") (fun xs H Q=>∃ p,∃ (ss:List Str) (vs:List V),xs=[.ref p]/\ss.length < 64/\ss.length=vs.length/\H p=some (.dK ((ss.map Sum.inr).zip vs)) ∧
  ∀ (l:Addr) (ss':List Str),H l=none->ss'.Perm ss->ss'.Pairwise (fun a b=>¬ b.cps.toList < a.cps.toList)->Q (.ref l) (upd H l (.lst (ss'.map V.str)))):=by
 intro pins s σ H xs us Q I rx h
 obtain ⟨p,ss,vs,rfl,h64,hl,hq,q⟩:=h
 obtain ⟨u,rfl,ru⟩:=rx.one
 cases ru
 obtain ⟨hz,hS,kvs,rel,dd⟩:=pv I.hok hq
 obtain ⟨ep,dd⟩:=dd.dictAt
 have hkl:kvs.length=ss.length:=by
  have:=rel.length
  rw [Yy,Zv] at this
  lia
 have hky:∀ i:Nat,(kvs[i]?).map (fun x=>x.1)=(ss[i]?).map (Sum.inr:Str->Key):=fun i=>by
  have h1:((kvs.map (·.1)))[i]?=(ss.map (Sum.inr:Str->Key))[i]?:=by
   rw [← rel.keys]
   rw [Wp (by rw [Zv];exact XO hl)]
  rw [ZE,ZE] at h1
  exact h1
 refine TS.nO fun A' E' hA=>PySem.W.kdu_collect (PySem.W.kdl_dict hS) (hA.trans (I.ok.hd hc)) dd (by rw [Yy,Zv] at hz;lia) fun h' tk acc kp hacc=>?_
 have I1:Inv X pins σ H { s with heap:=h',toks:=tk }:=I.kept kp
 have hal:acc.toList.length=ss.length:=by rw [YM,hacc.1,hkl]
 have each:∀ i v,acc.toList[i]?=some v->∃ x t,v=Value.str x t/\ss[i]?=some x:=fun i v hv=>by
  rw [Yh] at hv
  obtain ⟨k,x,e1,e2⟩:=hacc.2 i v hv
  have e3:=hky i
  rw [e1] at e3
  cases e4:ss[i]? with
  | none=>rw [e4] at e3;cases e3
  | some y =>
   rw [e4] at e3
   have e5:k=Sum.inr y:=Zn e3
   subst e5
   obtain ⟨t,rfl⟩:=Value.isStrOf_shape (show Value.isStrOf y v=true from e2)
   exact ⟨y,t,rfl,e4⟩
 have hv:∀ v∈acc.toList,∃ x t,v=Value.str x t:=fun v hm=>by
  obtain ⟨i,hi,e⟩:=List.getElem_of_mem hm
  obtain ⟨x,t,e1,_⟩:=each i v (by rw [Zm hi,e])
  exact ⟨x,t,e1⟩
 have es:acc.toList.map strOf=ss:=by
  apply List.ext_getElem?
  intro i
  rw [ZE]
  cases e:acc.toList[i]? with
  | none =>
   have:acc.toList.length<=i:=Yp.mp e
   rw [Yp.mpr (by lia)]
   rfl
  | some v =>
   obtain ⟨x,t,rfl,e1⟩:=each i v e
   rw [e1]
   rfl
 refine ⟨hv,by omega,fun out h2 e o1 o2 kp2 he=>?_⟩
 have hv':∀ v∈out,∃ x t,v=Value.str x t:=fun v hm=>hv v (o1.mem_iff.mp hm)
 have hz2:((out.map strOf).map V.str).length<=sizeLine:=by rw [Zv,Zv,o1.length_eq,hal,Xu];omega
 exact ⟨.ref h'.objs.size,_,I1.laid (t':=tk) kp2 (Zl _) (show bI X.prog X.w _ h2 _ (.lst ((out.map strOf).map V.str)) from ⟨hz2,out,e,oK hv',he⟩),rfl,q _ _ (I1.hok.fresh (Zl _)) (by rw [← es];exact o1.map _) o2⟩
end
end L2
namespace VS
open PySem PySem.Spec PyProof.Rows L2
section
variable {G:Gx} {X:Cx} {e:Expr} {cs:Exs} {p pos:Pos}
noncomputable def gu:We->Wc
 | [(_,.dct 0 l)]=>(strs? (l.map (·.1))).bind fun ss=>if ss.length < 64/\ss.all txB=true then some (.fr,.lst ((eB ss).map .str)) else none
 | _=>none
theorem t9:fR G (fun xs H Q=>∃ p,∃ (ss:List Str) (vs:List V),xs=[.ref p]/\ss.length < 64/\ss.length=vs.length/\H p=some (.dK ((ss.map Sum.inr).zip vs)) ∧
  ∀ (l:Addr) (ss':List Str),H l=none->ss'.Perm ss->ss'.Pairwise (fun a b=>¬ b.cps.toList < a.cps.toList)->Q (.ref l) (upd H l (.lst (ss'.map V.str)))) gu:=by
 intro Φ η H0 H l vs Fs m t Q A e k
 unfold gu at e
 split at e
 ·rename_i mx x
  obtain ⟨ss,e1,e2⟩:=Zz.mp e
  split at e2
  ·rename_i hb
   cases e2
   obtain ⟨v,F,rfl,rfl,rx⟩:=(show RpL G H vs [.dct 0 x] Fs from A.rp).one
   obtain ⟨a,ks,ys,ts,Gs,rfl,rfl,ha,hl,rfl,ra⟩:=eO rx
   have hl2:ks.length=ts.length:=by rw [hl,ra.len.1]
   have e3:((ks.map aO).zip ts).map (·.1)=ks.map aO:=Wp (by rw [Zv];exact XO hl2)
   rw [e3] at e1
   have e4:=keys_str e1
   refine ⟨a,ss.map sx,ys,rfl,by rw [Zv];exact hb.1,?_,by rw [← e4];exact ha,wB k A.same fun s hs=>zP (YJ.mp hb.2 s hs)⟩
   rw [← hl,e4,Zv,Zv,Zv]
  ·cases e2
 ·cases e
theorem rj (hm:X.mg "sorted" = none) (ha:PVs G X [e] cs) (hg:Gl X "sorted" := by rfl) (hK:X.K=G.K:=by rfl) (hc:X.calm=true:=by rfl) (he:starEach [e] X.env=(false,eval e X.env) :: starEach [] X.env:=by rfl):PV G X (.Call (.Name "sorted" p) [e] [] pos) (eN gu cs) :=
 jz (i4 hc) t9 hg hm rN ha (he:=he) (hpl:=rfl)
end
@[simp] noncomputable def isT:T->Bool
 | .bl true=>true
 | _=>false
mutual
@[simp] noncomputable def eZ:T->Bool
 | .tup l=>cE l
 | .lst l=>cE l
 | .dct _ l=>mq l
 | .obj _ l=>dz l
 | _=>true
@[simp] noncomputable def cE:Wb->Bool
 | []=>true
 | t :: r=>eZ t && cE r
@[simp] noncomputable def mq:List (T×T)->Bool
 | []=>true
 | (_,v) :: r=>eZ v && mq r
@[simp] noncomputable def dz:List (Nat×T)->Bool
 | []=>true
 | (n,v) :: r=>(eZ v && !(n == 0 && isT v)) && dz r
end
theorem gC:∀ {ks:Wb} {ts:Wb},ks.length=ts.length->mq (ks.zip ts)=true->cE ts=true
 | [],[],_,_=>rfl
 | _ :: _,[],h,_=>by simp at h
 | [],_ :: _,h,_=>by simp at h
 | k :: ks,t :: ts,h,e=>by
  rw [Zg,mq,ZY] at e
  rw [cE,ZY]
  exact ⟨e.1,gC (by simpa using h) e.2⟩
theorem eu:∀ {ks:Wi} {ts:Wb},ks.length=ts.length->dz (ks.zip ts)=true->cE ts=true
 | [],[],_,_=>rfl
 | _ :: _,[],h,_=>by simp at h
 | [],_ :: _,h,_=>by simp at h
 | k :: ks,t :: ts,h,e=>by
  rw [Zg,dz,ZY,ZY] at e
  rw [cE,ZY]
  exact ⟨e.1.1,eu (by simpa using h) e.2⟩
section
variable {G:Gx} {H:Hp}
theorem Rp.at {v:V} {t:T} {F:Wm} (m:Me) (r:Rp G H v t F):eZ t=true->Rp (G.at m) H v t F :=
 Rp.rec (G:=G) (H:=H) (motive_1:=fun v t F _=>eZ t=true->Rp (G.at m) H v t F) (motive_2:=fun vs ts Fs _=>cE ts=true->RpL (G.at m) H vs ts Fs)
  (fun _=>.non) (fun b _=>.bl b) (fun i _=>.int i) (fun s h _=>.str s h) (fun h _=>.scr h) (fun h _ ih f=>.tup h (ih (by simpa using f))) (fun h _ ih f=>.lst h (ih (by simpa using f)))
  (fun h l q ih f=>.dct h l (ih (gC (by rw [Zv,l];exact q.len.1) (by simpa using f)))) (fun h l q ih f=>.dctT h l (ih (gC (by rw [Zv,l];exact q.len.1) (by simpa using f))))
  (fun h l n q ih f=>.dctN h l n (ih (gC (by rw [Zv,l];exact q.len.1) (by simpa using f)))) (fun h l q ih f=>.dctZ h l (ih (gC (by rw [Zv,l];exact q.len.1) (by simpa using f)))) (fun h hc _=>.exc h hc)
  (fun {c a dx b ks vs ts Fs} h l mm q ih f=>by
   rw [eZ,dz,ZY] at f
   have hb:b=false:=by
    cases b with
    | false=>rfl
    | true=>simp at f
   refine .ins h l (fun z=>?_) (ih (eu (by rw [l];exact q.len.1) f.2))
   rw [hb] at z
   cases z)
  (fun _ _ _ f=>by simp [eZ,dz,isT] at f)
  (fun _=>.nil) (fun _ _ i1 i2 f=>by
   rw [cE,ZY] at f
   exact .cons (i1 f.1) (i2 f.2)) r
theorem RpL.at (m:Me):∀ {vs:List V} {ts:Wb} {Fs:Xg},RpL G H vs ts Fs->cE ts=true->RpL (G.at m) H vs ts Fs
 | _,_,_,.nil,_=>.nil
 | _,_,_,.cons r q,f=>by
  rw [cE,ZY] at f
  exact .cons (r.at m f.1) (RpL.at m q f.2)
mutual
theorem kI:∀ t:T,imm t=true->eZ t=true
 | .non,_=>rfl
 | .bl _,_=>rfl
 | .int _,_=>rfl
 | .str _,_=>rfl
 | .scr _,_=>rfl
 | .tup l,h=>by
  rw [eZ]
  exact qx l (by simpa using h)
 | .lst _,h=>by simp at h
 | .dct _ _,h=>by simp at h
 | .obj _ _,h=>by simp at h
theorem qx:∀ l:Wb,fm l=true->cE l=true
 | [],_=>rfl
 | t :: l,h=>by
  rw [fm,ZY] at h
  rw [cE,ZY]
  exact ⟨kI t h.1,qx l h.2⟩
end
end
noncomputable def mW (k:Nat):T->Option T
 | .obj (_+1) (_ :: fs)=>(fs.findIdx? fun p=>p.1 == k).bind fun i=>(fs[i]?).map (·.2)
 | _=>none
noncomputable def aV (k:Nat) (a:Ex):Ex:=fun η=>(a η).bind fun x=>(mW k x.2).map fun t=>sub x.1 t
section
variable {G:Gx} {X:Cx} {a e o:Expr} {ca ce:Ex} {k i:Nat} {f x:Str} {pos pos' p1:Pos}
theorem w_fld (J:i6 G) (F:FldOk G X.K k f) (ha:PV G X a ca) (hb:attributeBase a f X.env (eval a X.env)=eval a X.env):PV G X (.Attribute a f pos) (aV k ca) :=
 PE.weak (ua ha hb) fun σ H Q hq=>by
  obtain ⟨Φ,η,m,t,s,e,kq⟩:=hq
  unfold aV at e
  obtain ⟨⟨mx,y⟩,ea,e1⟩:=Zz.mp e
  obtain ⟨z,ez,e2⟩:=Zu.mp e1
  refine ⟨Φ,η,mx,y,s,ea,fun v H' F' sm r1 f1=>?_⟩
  unfold mW at ez
  split at ez
  ·rename_i c q0 fs hy
   dsimp only at hy
   subst hy
   obtain ⟨j,h1,e3⟩:=Zz.mp ez
   obtain ⟨p,h2,e4⟩:=Zu.mp e3
   subst e4
   obtain ⟨c',a,dx,b,ns,vs,ts,Fs,ec,rfl,rfl,rfl,rfl,hA,hl,hb,ra⟩:=dI r1
   cases ec
   have lts:ns.length=ts.length:=hl.trans ra.len.1
   obtain ⟨k0,x0,g1,g2,g3,g4⟩:=jt (fun n=>n == k) lts h1
   have ek:k0=k:=by simpa using g3
   subst ek
   have ep:p=(k0,x0):=by
    have:(ns.zip ts)[j]?=some (k0,x0):=by rw [YT];exact ⟨g1,g2⟩
    rw [this] at h2;exact (Zn h2).symm
   subst ep
   obtain ⟨u,Fi,u1,u2,u3⟩:=ra.get j g2
   have hlk:=n8 (G:=G) (c:=c+1) J hl h1 g1 u1
   rw [F.nm c] at hlk
   refine ⟨a,_,dx,_,u,rfl,hA,F.cl c,F.no c,hlk,?_⟩
   have fp:=((f1.sub (Yv _ _)).sub (dg u2)).up u3
   unfold VS.sub at e2
   rw [e2] at fp
   have et:x0=t:=congrArg Prod.snd e2
   rw [et] at u3
   exact kq u H' Fi sm u3 fp
  ·cases ez
noncomputable def iC (i k:Nat) (e:Ex) (η:VS.Env):Option Out:=(e η).bind fun v=>match η[i]? with
 | some (some (.ow (.obj (c+1) (q :: fs))))=>(fit v).bind fun t=>if fs.length < 900/\(fs.all fun p=>!(p.1 == k))=true then some (.nx (η.set i (some (.ow (.obj (c+1) (q :: (fs++[(k,t)]))))))) else none
 | _=>none
theorem pD {g:Nat->Str} {k:Nat} {v:V} (J:∀ k k':Nat,g k=g k'->k=k'):∀ {ks:Wi} {vs:List V} {ts:Wb},ks.length=vs.length->ks.length=ts.length->((ks.zip ts).all fun p=>!(p.1 == k))=true->g7 (g k) v ((ks.map g).zip vs)=((ks++[k]).map g).zip (vs++[v])
 | [],[],_,_,_,_=>rfl
 | [],_ :: _,_,h,_,_=>by simp at h
 | _ :: _,[],_,h,_,_=>by simp at h
 | _ :: _,_ :: _,[],_,h,_=>by simp at h
 | k0 :: ks,v0 :: vs,t0 :: ts,h1,h2,h3=>by
  rw [Zg,XY,ZY] at h3
  have ne:g k0 ≠ g k:=fun z=>by
   have:=J _ _ z
   subst this
   simp at h3
  rw [Zs,Zg,g7,Zo ne,pD J (by simpa using h1) (by simpa using h2) h3.2]
  rfl
theorem jX (i k:Nat) (J:i6 G) (F:FldOk G X.K k f) (he:PV G X e ce) (hN:X.N[i]?=some x) (hv:Vis X.env.scope x) (hd:(x == ("__debug__" : Str))=false) (hcd:(x == ("__classdict__" : Str))=false)
  (hs:swapsWith e (some (.Attribute (.Name x p1) f pos')) pos.line X.env=pure false):PSV G X (.Assign [.Attribute (.Name x p1) f pos'] e pos) (iC i k ce) :=
 PS.weak (zx (gr hN hv hd hcd) he hs) fun D σ H hq=>by
  obtain ⟨Φ,η,out,s,e,kq⟩:=hq
  unfold iC at e
  obtain ⟨⟨mv,tv⟩,ev,e⟩:=Zz.mp e
  split at e
  ·rename_i c q0 fs ht
   obtain ⟨t,et,e⟩:=Zz.mp e
   have em:=kx et
   cases em
   split at e
   ·rename_i hc
    cases e
    obtain ⟨v,g1,g2⟩:=s.rp _ _ ht
    refine ⟨Φ,η,.fr,tv,s,ev,fun y H1 Fy sm ry fy=>⟨v,g1,?_⟩⟩
    obtain ⟨c',a,dx,b,ns,vs,ts,Fs,ec,rfl,rfl,rfl,eF,hA,hl,hb,ra⟩:=dI g2
    cases ec
    have nd:=s.nd i _ ht
    rw [eF] at nd
    have nd':=Zd.mp nd
    have hA1:H1 a=some (.ins (G.ct (c+1)).1 dx ((ns.map (G.ct (c+1)).2).zip vs)):=sm a _ hA
    have m1:Mut (H1 a):=by rw [hA1];exact True.intro
    have lts:ns.length=ts.length:=hl.trans ra.len.1
    have na:a ∉ Fy:=fun z=>by rw [fy.2 a z] at hA;cases hA
    have ln:((ns.map (G.ct (c+1)).2).zip vs).length < 1000:=by
     have:=hc.1
     rw [Yy] at this ⊢
     rw [Zv]
     lia
    refine ⟨a,_,dx,_,rfl,hA1,F.cl c,F.no c,ln,?_⟩
    have ep:=pD (g:=(G.ct (c+1)).2) (k:=k) (v:=y) (J (c+1)) hl lts hc.2
    rw [F.nm c] at ep
    rw [ep]
    have off:∀ bb∈Fs.flatten,bb ∉ Fy:=fun bb hb hw=>Mut.ne_none (ra.dom bb hb) (fy.2 bb hw)
    have g:Chg G H (.ref a) (Φ i) (.obj (c+1) ((0,.bl b) :: (ns.zip ts++[(k,tv)]))) (upd H1 a (.ins (G.ct (c+1)).1 dx (((ns++[k]).map (G.ct (c+1)).2).zip (vs++[y])))) (a :: (Fs++[Fy]).flatten):=by
     rw [eF,show ns.zip ts++[(k,tv)]=(ns++[k]).zip (ts++[tv]) from by rw [Xm lts];rfl]
     refine Chg.upd sm Zx m1 (.ins aA (by simp [hl]) hb (((ra.same sm).off m1 nd'.1).append (.cons (ry.keep (Kept.upd (.inl m1)) fun bb hb o ho=>by rw [aD (fun z=>na (by rw [← z];exact hb))];exact ho) .nil))) ?_ ?_
     ·rw [Yz]
      refine Zd.mpr ⟨fun m=>?_,ZO.mpr ⟨nd'.2,by simpa using fy.1,fun b hb c hc z=>?_⟩⟩
      ·rcases Zc.mp m with m | m
       ·exact nd'.1 m
       ·exact na (by simpa using m)
      ·subst z;exact off b hb (by simpa using hc)
     ·intro bb hb
      rcases Zh.mp hb with rfl | hb
      ·exact .inl Zx
      ·rw [Yz] at hb
       rcases Zc.mp hb with hb | hb
       ·exact .inl (Zw _ hb)
       ·exact .inr (fy.2 bb (by simpa using hb))
    obtain ⟨z1,z2⟩:=s.mut ht g1 g
    exact kq _ σ _ z1 z2
   ·cases e
  ·cases e
end
noncomputable abbrev oj:=List (Nat×T)
noncomputable def meA (a:Addr):Me:=fun k=>if k=0 then some (.ref a) else none
noncomputable abbrev Mt:=oj->Wb->Option (oj×T)
noncomputable def mvF:List Bool->Xg->Wm
 | b :: bs,F :: Fs=>(if b then F else [])++mvF bs Fs
 | _,_=>[]
noncomputable def puF:List Bool->Xg->Wm
 | b :: bs,F :: Fs=>(if b then [] else F)++puF bs Fs
 | _,_=>[]
theorem gh:∀ {mv:List Bool} {Fs:Xg} {j:Nat} {F:Wm},mv[j]?=some true->Fs[j]?=some F->F.Sublist (mvF mv Fs)
 | [],_,_,_,h,_=>by simp at h
 | _ :: _,[],_,_,_,h=>by simp at h
 | b :: bs,F0 :: Fs,0,F,h1,h2=>by
  simp at h1 h2
  subst h1 h2
  rw [mvF,Zr rfl]
  exact List.sublist_append_left _ _
 | b :: bs,F0 :: Fs,j+1,F,h1,h2=>by
  rw [mvF]
  exact (gh (by simpa using h1) (by simpa using h2)).trans (YU _ _)
theorem m6:∀ {mv:List Bool} {Fs:Xg} {j:Nat} {F:Wm},mv[j]?=some false->Fs[j]?=some F->F.Sublist (puF mv Fs)
 | [],_,_,_,h,_=>by simp at h
 | _ :: _,[],_,_,_,h=>by simp at h
 | b :: bs,F0 :: Fs,0,F,h1,h2=>by
  simp at h1 h2
  subst h1 h2
  rw [puF]
  exact List.sublist_append_left _ _
 | b :: bs,F0 :: Fs,j+1,F,h1,h2=>by
  rw [puF]
  exact (m6 (by simpa using h1) (by simpa using h2)).trans (YU _ _)
theorem rg:∀ {mv:List Bool} {Fs:Xg} {i j:Nat} {F F':Wm},(mvF mv Fs).Nodup->mv[i]?=some true->mv[j]?=some true->Fs[i]?=some F->Fs[j]?=some F'->i ≠ j->∀ a∈F,a ∉ F'
 | [],_,_,_,_,_,_,h,_,_,_,_=>by simp at h
 | _ :: _,[],_,_,_,_,_,_,_,h,_,_=>by simp at h
 | b :: bs,F0 :: Fs,0,0,F,F',_,_,_,_,_,n=>absurd rfl n
 | b :: bs,F0 :: Fs,0,j+1,F,F',nd,h1,h2,h3,h4,n=>fun a ha ha'=>by
  simp at h1 h3
  subst h1 h3
  rw [mvF,Zr rfl,ZO] at nd
  exact nd.2.2 a ha a ((gh (by simpa using h2) (by simpa using h4)).subset ha') rfl
 | b :: bs,F0 :: Fs,i+1,0,F,F',nd,h1,h2,h3,h4,n=>fun a ha ha'=>by
  simp at h2 h4
  subst h2 h4
  rw [mvF,Zr rfl,ZO] at nd
  exact nd.2.2 a ha' a ((gh (by simpa using h1) (by simpa using h3)).subset ha) rfl
 | b :: bs,F0 :: Fs,i+1,j+1,F,F',nd,h1,h2,h3,h4,n=>by
  rw [mvF,ZO] at nd
  exact rg nd.2.1 (by simpa using h1) (by simpa using h2) (by simpa using h3) (by simpa using h4) (by lia)
theorem qI:∀ {mv:List Bool} {Fs:Xg} {a:Addr},a∈mvF mv Fs->∃ (j:Nat) (F:Wm),mv[j]?=some true/\Fs[j]?=some F/\a∈F
 | [],_,_,h=>by simp [mvF] at h
 | _ :: _,[],_,h=>by simp [mvF] at h
 | b :: bs,F0 :: Fs,a,h=>by
  rw [mvF] at h
  rcases Zc.mp h with h | h
  ·cases b with
   | true=>exact ⟨0,F0,rfl,rfl,h⟩
   | false=>simp at h
  ·obtain ⟨j,F,h1,h2,h3⟩:=qI h
   exact ⟨j+1,F,by simpa using h1,by simpa using h2,h3⟩
noncomputable def kQ (b:Bool) (t:T):Wf:=some (if b then .ow t else .pu t)
noncomputable def we (c:Nat) (η:VS.Env):Option oj:=match (η[(0:Nat)]?:Option (Wf)) with
 | some (some (.ow (.obj c' ((0,.bl true) :: fs))))=>if c'=c+1 then some fs else none
 | _=>none
noncomputable def mfn (c np nn:Nat) (mv:List Bool) (body:Sx):Mt:=fun fs ts=>if ts.length+1=np/\mv.length=ts.length then
 (body ((some (.ow (.obj (c+1) ((0,.bl true) :: fs))) :: List.zipWith kQ mv ts)++List.replicate (nn - np) none)).bind fun o=>match o with
  | .rt v η=>(we c η).bind fun fs'=>if imm v.2 then some (fs',v.2) else none
  | .nx η=>(we c η).map fun fs'=>(fs',.non)
  | _=>none else none
noncomputable def spM (G:Gx) (c:Nat) (mv:List Bool) (g:Mt):Sp:=fun vs H Q _=>∃ (a:Addr) (us:List V) (fs:oj) (ts:Wb) (F:Wm) (Fs:Xg) (fs':oj) (x:T),vs=.ref a :: us/\Rp (G.at (meA a)) H (.ref a) (.obj (c+1) ((0,.bl true) :: fs)) F ∧
 RpL (G.at (meA a)) H us ts Fs/\mv.length=ts.length/\(F++mvF mv Fs).Nodup/\(∀ b∈F++mvF mv Fs,b ∉ puF mv Fs)/\g fs ts=some (fs',x) ∧
 ∀ u H' F',Chg (G.at (meA a)) H (.ref a) (F++mvF mv Fs) (.obj (c+1) ((0,.bl true) :: fs')) H' F'->Rp (G.at (meA a)) H' u x []->Q u H'
section
variable {G:Gx} {H:Hp}
theorem wj {v:V} {us:List V} {t:T} {ts:Wb} {F:Wm} {Fs:Xg} {mv:List Bool} (r0:Rp G H v t F) (r:RpL G H us ts Fs) (hm:mv.length=ts.length) (nd:(F++mvF mv Fs).Nodup) (sp:∀ b∈F++mvF mv Fs,b ∉ puF mv Fs) (n nv:Nat) (hn:nv=us.length+1) :
  SR G (fun i=>(F :: Fs).getD i []) ((some (.ow t) :: List.zipWith kQ mv ts)++List.replicate (n - (ts.length+1)) none) ((v :: us).map some++List.replicate (n - nv) none) H ∧
  ∀ a,b9 (fun i=>(F :: Fs).getD i []) ((some (.ow t) :: List.zipWith kQ mv ts)++List.replicate (n - (ts.length+1)) none) a->a∈F++mvF mv Fs:=by
 subst hn
 have hl:=r.len
 have zl:(List.zipWith kQ mv ts).length=ts.length:=by rw [List.length_zipWith,hm,Nat.min_self]
 have back:∀ {i:Nat} {c:Cell},((some (Cell.ow t) :: List.zipWith kQ mv ts)++List.replicate (n - (ts.length+1)) none)[i]?=some (some c)->(i=0/\c=.ow t)\/∃ (j:Nat) (b:Bool) (u:T),i=j+1/\mv[j]?=some b/\ts[j]?=some u/\c=(if b then .ow u else .pu u):=fun {i c} h=>by
  cases i with
  | zero=>exact .inl ⟨rfl,(Zn (Zn h)).symm⟩
  | succ j =>
   rw [XR,List.getElem?_cons_succ] at h
   by_cases hj:j < ts.length
   ·rw [Z3 (by rw [zl];exact hj),List.getElem?_zipWith] at h
    have e1:mv[j]?=some mv[j]:=Zm (by rw [hm];exact hj)
    have e2:ts[j]?=some ts[j]:=Zm hj
    rw [e1,e2] at h
    exact .inr ⟨j,_,_,rfl,e1,e2,(Zn (Zn h)).symm⟩
   ·rw [Yw (by rw [zl];exact ZD hj),Yb] at h
    split at h <;> cases h
 have fp:∀ {j:Nat} {u:T},ts[j]?=some u->∃ w Fj,us[j]?=some w/\Fs[j]?=some Fj/\Rp G H w u Fj:=fun {j u} h=>r.get j h
 have ow:∀ {i:Nat} {u:T},((some (Cell.ow t) :: List.zipWith kQ mv ts)++List.replicate (n - (ts.length+1)) none)[i]?=some (some (.ow u))->i=0\/∃ j:Nat,i=j+1/\mv[j]?=some true/\ts[j]?=some u:=fun {i u} h=>by
  rcases back h with ⟨h1,h2⟩ | ⟨j,b,u',h1,h2,h3,h4⟩
  ·exact .inl h1
  ·cases b with
   | true=>cases h4;exact .inr ⟨j,h1,h2,h3⟩
   | false=>cases h4
 rw [ZO] at nd
 refine ⟨⟨?_,fun i c h=>?_,fun i u h=>?_,fun i j u c h1 h2 n=>?_⟩,fun a ⟨i,u,h1,h2⟩=>?_⟩
 ·simp [zl];lia
 ·rcases back h with ⟨rfl,rfl⟩ | ⟨j,b,u,rfl,h2,h3,h4⟩
  ·exact ⟨v,rfl,r0⟩
  ·obtain ⟨w,Fj,g1,g2,g3⟩:=fp h3
   refine ⟨w,?_,?_⟩
   ·rw [Zs,XR,List.getElem?_cons_succ,Z3 (by rw [Zv];exact (ZZ.mp g1).1),ZE,g1]
    rfl
   ·show Rp G H w (jI c) ((F :: Fs).getD (j+1) [])
    rw [YN,Zq,g2,h4]
    cases b <;> exact g3
 ·rcases ow h with rfl | ⟨j,rfl,h2,h3⟩
  ·exact nd.1
  ·obtain ⟨w,Fj,g1,g2,g3⟩:=fp h3
   show ((F :: Fs).getD (j+1) []).Nodup
   rw [YN,Zq,g2]
   exact nd.2.1.sublist (gh h2 g2)
 ·rcases ow h1 with rfl | ⟨i',rfl,a2,a3⟩
  ·rcases back h2 with ⟨rfl,_⟩ | ⟨j',b,u',rfl,b2,b3,_⟩
   ·exact absurd rfl n
   ·obtain ⟨w,Fj,g1,g2,g3⟩:=fp b3
    intro a ha
    show a ∉ (F :: Fs).getD (j'+1) []
    rw [YN,Zq,g2]
    intro ha'
    cases b with
    | true=>exact nd.2.2 a ha a ((gh b2 g2).subset ha') rfl
    | false=>exact sp a (Z7 _ ha) ((m6 b2 g2).subset ha')
  ·obtain ⟨w,Fi,g1,g2,g3⟩:=fp a3
   have ei:(F :: Fs).getD (i'+1) []=Fi:=by rw [YN,Zq,g2];rfl
   show ∀ a∈(F :: Fs).getD (i'+1) [],_
   rw [ei]
   rcases back h2 with ⟨rfl,_⟩ | ⟨j',b,u',rfl,b2,b3,_⟩
   ·exact fun a ha ha'=>nd.2.2 a ha' a ((gh a2 g2).subset ha) rfl
   ·obtain ⟨w',Fj,k1,k2,k3⟩:=fp b3
    intro a ha
    show a ∉ (F :: Fs).getD (j'+1) []
    rw [YN,Zq,k2]
    intro ha'
    cases b with
    | true=>exact rg nd.2.1 a2 b2 g2 k2 (fun z=>n (by rw [z])) a ha ha'
    | false=>exact sp a (ZX _ ((gh a2 g2).subset ha)) ((m6 b2 k2).subset ha')
 ·rcases ow h1 with rfl | ⟨j,rfl,h3,h4⟩
  ·exact Z7 _ h2
  ·obtain ⟨w,Fj,g1,g2,g3⟩:=fp h4
   have h2':a∈(F :: Fs).getD (j+1) []:=h2
   rw [YN,Zq,g2] at h2'
   exact ZX _ ((gh h3 g2).subset h2')
theorem u7 {c:Nat} {η:VS.Env} {fs:oj} (h:we c η=some fs):η[0]?=some (some (.ow (.obj (c+1) ((0,.bl true) :: fs)))):=by
 unfold we at h
 split at h
 ·rename_i c' fs' e
  split at h
  ·rename_i hc
   cases h
   rw [e,hc]
  ·cases h
 ·cases h
end
section
variable {G:Gx} {P:Program} {w:World} {K:Xd} {mg:Wx} {base:Heap}
theorem BH {qual:Str} {st:Stmt} {f:Addr} {fd:FuncData} {N ps:List Str} {k np nn c:Nat} {mv:List Bool} {body:Sx} (ok:∀ {sp:Sp},(∀ vs H Q E,sp vs H Q E->vs.length=ps.length)->(∀ (cdv:Value) (A:Around) (outer:List PySem.Env) (s:Shared) (H:Hp) (vs:List V) (Q:VK) (E:XK),Room k (A.deeper (envOfC qual (aj st) s.heap.objs.size f cdv))->sp vs H Q E →
   ∃ t,PSs (iP CX0 P w K mg base N qual (aj st) f cdv A outer s H E).nox (bf st) t/\t { nx:=fun _ H'=>Q .non H',rt:=Q } (L2.start N vs) H)->FnOk P w K mg base CX0 (k+1) f fd ps sp) (hp:ps.length=np) (hn:N.length=nn)
  (hb:∀ (a:Addr) (cdv:Value) (A:Around) (outer:List PySem.Env) (s:Shared) (H:Hp) (E:XK),Room k (A.deeper (envOfC qual (aj st) s.heap.objs.size f cdv))->ip (G.at (meA a)) (iP CX0 P w K mg base N qual (aj st) f cdv A outer s H E).nox (bf st) body) :
  FnOk P w K mg base CX0 (k+1) f fd ps (spM G c mv (mfn c np nn mv body)):=by
 refine ok (fun vs H Q E h=>?_) fun cdv A outer s H vs Q E hr h=>?_
 ·obtain ⟨a,us,fs,ts,F,Fs,fs',y,rfl,r0,r,hm,nd,sp,e,q⟩:=h
  unfold mfn at e
  split at e
  ·rename_i hl
   rw [Zk,r.len.1,hl.1,hp]
  ·cases e
 ·obtain ⟨a,us,fs,ts,F,Fs,fs',y,rfl,r0,r,hm,nd,sp,e,q⟩:=h
  refine ⟨_,hb a cdv A outer s H E hr,?_⟩
  unfold mfn at e
  split at e
  ·rename_i hl
   obtain ⟨o,e1,e2⟩:=Zz.mp e
   obtain ⟨s0,ow0⟩:=wj r0 r hm nd sp nn (us.length+1) rfl
   rw [hl.1] at s0 ow0
   have e3:L2.start N (V.ref a :: us)=(V.ref a :: us).map some++List.replicate (nn - (us.length+1)) none:=by
    unfold L2.start
    rw [hn]
    rfl
   rw [e3]
   have fin:∀ {η':VS.Env} {Φ':Fps} {σ':L2.St} {H':Hp},we c η'=some fs'->SR (G.at (meA a)) Φ' η' σ' H'->Frm (fun i=>(F :: Fs).getD i []) ((some (.ow (.obj (c+1) ((0,.bl true) :: fs))) :: List.zipWith kQ mv ts)++List.replicate (nn - np) none) H Φ' η' H' →
     Chg (G.at (meA a)) H (.ref a) (F++mvF mv Fs) (.obj (c+1) ((0,.bl true) :: fs')) H' (Φ' 0):=fun {η' Φ' σ' H'} hme s' fr=>by
    have h0:=u7 hme
    obtain ⟨v',g1,g2⟩:=s'.rp 0 _ h0
    have g2':Rp (G.at (meA a)) H' v' (.obj (c+1) ((0,.bl true) :: fs')) (Φ' 0):=g2
    obtain ⟨c',a',dx,b,ns,vs,ts',Fs',ec,rfl,eb,_,eF,hA,hl',hb',ra⟩:=dI g2'
    have hb1:b=true:=by cases eb;rfl
    have ea:some (V.ref a)=some (V.ref a'):=hb' hb1
    cases ea
    refine ⟨fr.kept,fun b' o' hb' ho=>(fr.keep b' o' ho fun z=>hb' (ow0 b' z)).1,fr.dom,g2',s'.nd 0 _ h0,fun b' hb'=>?_⟩
    rcases fr.ow b' ⟨0,_,h0,hb'⟩ with z | z
    ·exact .inl (ow0 b' z)
    ·exact .inr z
   refine ⟨_,_,o,s0,e1,?_⟩
   cases o with
   | nx η' =>
    obtain ⟨fs2,e4,e5⟩:=Zu.mp e2
    cases e5
    intro Φ' σ' H' s' fr
    exact q .non H' _ (fin e4 s' fr) .non
   | rt v η' =>
    obtain ⟨fs2,e4,e5⟩:=Zz.mp e2
    split at e5
    ·rename_i hi
     cases e5
     intro u H' F' Φ' σ' s' fr r' rf
     have:=r'.imm hi
     subst this
     exact q u H' _ (fin e4 s' fr) r'
    ·cases e5
   | bk η'=>cases e2
   | ct η'=>cases e2
  ·cases e
theorem fnM {x qual:Str} {st:Stmt} {f:Addr} {fd:FuncData} {N ps:List Str} {k np nn c:Nat} {mv:List Bool} {body:Sx} (F:Fun K x qual st f fd) (S:FnScope N ps (aj st)) (hp:ps.length=np) (hn:N.length=nn)
  (hb:∀ (a:Addr) (cdv:Value) (A:Around) (outer:List PySem.Env) (s:Shared) (H:Hp) (E:XK),Room k (A.deeper (envOfC qual (aj st) s.heap.objs.size f cdv))->ip (G.at (meA a)) (iP CX0 P w K mg base N qual (aj st) f cdv A outer s H E).nox (bf st) body) :
  FnOk P w K mg base CX0 (k+1) f fd ps (spM G c mv (mfn c np nn mv body)):=BH (fun l b=>F.ok S l b) hp hn hb
structure FunD (K:Xd) (x qual:Str) (st:Stmt) (f:Addr) (fd:FuncData):Prop where
 ex:∃ (T:Addr) (oc:Value) (od:Option Addr) (kV doc pm:Value) (an:Option Addr) (cdv ct:Value) (osl:Array (Wj)) (o:Obj) (n:Nat),
  fd=PySem.W.fnOf x qual (cP st) (bf st) (aj st) (.ref T) kV doc pm an cdv ct/\K.lookup f=some ⟨oc,od,.func fd,osl⟩/\PySem.W.codeIn K cdv qual=true/\K.lookup T=some o/\o.data=.seq #[.none] n
 kp:PySem.W.keepIn K (.ref f)=true
theorem FunD.ok {x qual:Str} {st:Stmt} {f:Addr} {fd:FuncData} {N ps:List Str} {k:Nat} {sp:Sp} (F:FunD K x qual st f fd) (S:FnScope N ps (aj st)) (len:∀ vs H Q E,sp vs H Q E->vs.length=ps.length)
  (hbody:∀ (cdv:Value) (A:Around) (outer:List PySem.Env) (s:Shared) (H:Hp) (vs:List V) (Q:VK) (E:XK),Room k (A.deeper (envOfC qual (aj st) s.heap.objs.size f cdv))->sp vs H Q E →
   ∃ t,PSs (iP CX0 P w K mg base N qual (aj st) f cdv A outer s H E).nox (bf st) t/\t { nx:=fun _ H'=>Q .non H',rt:=Q } (L2.start N vs) H):FnOk P w K mg base CX0 (k+1) f fd ps sp:=by
 obtain ⟨T,oc,od,kV,doc,pm,an,cdv,ct,osl,o,n,rfl,lk,hcd,_⟩:=F.ex
 refine yV lk hcd S len fun A outer s H vs Q E hr hsp=>?_
 obtain ⟨t,h,q⟩:=hbody cdv A outer s H vs Q E hr hsp
 exact ⟨t,h.nox,q⟩
theorem FunD.binds {x qual:Str} {st:Stmt} {f:Addr} {fd:FuncData} {ps:List Str} (F:FunD K x qual st f fd)
  (h:∀ (s:Shared) (T:Addr) (kV doc pm:Value) (an:Option Addr) (cdv ct:Value) (o:Obj) (n:Nat) (us:Wk),K.In s.heap->K.lookup T=some o->o.data=.seq #[.none] n->us.length=ps.length->BindsTo s (PySem.W.fnOf x qual (cP st) (bf st) (aj st) (.ref T) kV doc pm an cdv ct) ⟨us,[]⟩ (ps.zip us)):Binds K fd ps []:=by
 obtain ⟨T,oc,od,kV,doc,pm,an,cdv,ct,osl,o,n,rfl,lk,hcd,l2,l3⟩:=F.ex
 intro s us X hl
 rw [ZP] at hl ⊢
 exact h s T kV doc pm an cdv ct o n us X l2 l3 hl
end
noncomputable def argsOk:List Bool->We->Bool
 | [],[]=>true
 | b :: bs,v :: vs=>(if b then v.1 == .fr else imm v.2) && argsOk bs vs
 | _,_=>false
noncomputable def ka (c:Nat) (mv:List Bool) (g:Mt) (xs:We):T->Option (T×Val)
 | .obj c' ((0,.bl b) :: fs)=>if c'=c+1/\dz fs=true/\argsOk mv xs=true/\cE (trees xs)=true then (g fs (trees xs)).bind fun z=>if dz z.1=true/\imm z.2=true then some (.obj c' ((0,.bl b) :: z.1),(.fr,z.2)) else none else none
 | _=>none
noncomputable def bA (i:Nat) (way:List Stp) (c:Nat) (mv:List Bool) (g:Mt) (as:Exs) (η:VS.Env):Option (Val×VS.Env):=match (η[i]?:Option (Wf)) with
 | some (some (.ow t))=>(keys way η).bind fun ks=>(as η).bind fun xs=>(pm (ka c mv g xs) ks t).map fun z=>(z.2,η.set i (some (.ow z.1)))
 | _=>none
noncomputable def tX (G:Gx) (x:Xx):TE:=fun σ H Q=>∃ Φ η v η',SR G Φ η σ H/\x η=some (v,η')/\imm v.2=true/\∀ u H' Φ',SR G Φ' η' σ H'->Frm Φ η H Φ' η' H'->Rp G H' u v.2 []->Q u H'
noncomputable def PX (G:Gx) (X:Cx) (e:Expr) (x:Xx):Prop:=PE X e (tX G x)
theorem i9:∀ {mv:List Bool} {xs:We},argsOk mv xs=true->mv.length=xs.length
 | [],[],_=>rfl
 | [],_ :: _,h=>by simp [argsOk] at h
 | _ :: _,[],h=>by simp [argsOk] at h
 | b :: bs,v :: vs,h=>by
  rw [argsOk,ZY] at h
  rw [Zk,Zk,i9 h.2]
theorem lB:∀ {mv:List Bool} {xs:We} {Fs:Xg},argsOk mv xs=true->(mvF mv Fs).Sublist (frs xs Fs)
 | [],[],_,_=>by simp [mvF]
 | [],_ :: _,_,h=>by simp [argsOk] at h
 | _ :: _,[],_,h=>by simp [argsOk] at h
 | b :: bs,v :: vs,[],h=>by simp [mvF]
 | b :: bs,(m,t) :: vs,F :: Fs,h=>by
  rw [argsOk,ZY] at h
  have ih:=lB (Fs:=Fs) h.2
  rw [mvF]
  cases b with
  | true =>
   have:m=.fr:=by simpa using h.1
   subst this
   exact List.Sublist.append (Xy _) ih
  | false =>
   rw [Zo Za,Xk]
   cases m with
   | fr=>exact ih.trans (YU _ _)
   | pu=>exact ih
   | bo=>exact ih
theorem nz {G:Gx} {H:Hp}:∀ {mv:List Bool} {xs:We} {us:List V} {Fs:Xg},argsOk mv xs=true->RpL G H us (trees xs) Fs->puF mv Fs=[]
 | [],[],_,_,_,_=>by simp [puF]
 | [],_ :: _,_,_,h,_=>by simp [argsOk] at h
 | _ :: _,[],_,_,h,_=>by simp [argsOk] at h
 | b :: bs,(m,t) :: vs,_,_,h,r=>by
  rw [argsOk,ZY] at h
  cases r with
  | cons r0 q =>
   rw [puF,nz h.2 q,ZP]
   cases b with
   | true=>rfl
   | false=>exact r0.imm (by simpa using h.1)
theorem qF {Φ:Fps} {η:VS.Env} {H:Hp} {mv:List Bool} {xs:We} {Fs:Xg} (h:argsOk mv xs=true) (f:FpL Φ η H xs Fs):∀ a∈mvF mv Fs,H a=none:=fun a ha=>by
 obtain ⟨j,F,h1,h2,h3⟩:=qI ha
 have key:∀ {mv:List Bool} {xs:We} {j:Nat},argsOk mv xs=true->mv[j]?=some true->∃ v,xs[j]?=some v/\v.1=.fr:=by
  intro mv
  induction mv with
  | nil=>intro xs j _ h;simp at h
  | cons b bs ih =>
   intro xs j h h1
   cases xs with
   | nil=>simp [argsOk] at h
   | cons v vs =>
    rw [argsOk,ZY] at h
    cases j with
    | zero =>
     simp at h1
     subst h1
     exact ⟨v,rfl,by simpa using h.1⟩
    | succ j =>
     obtain ⟨w,q1,q2⟩:=ih h.2 (by simpa using h1)
     exact ⟨w,by simpa using q1,q2⟩
 obtain ⟨v,q1,q2⟩:=key h h1
 have:=f.each j v F q1 h2
 rw [q2] at this
 exact this.2 a h3
section
variable {G:Gx} {X:Cx} {CX:CXT} {i c k k':Nat} {way:List Stp} {o e:Expr} {es:List Expr} {cs:Exs} {m:Str} {f:Addr} {fd:FuncData} {ps:List Str} {mv:List Bool} {g:Mt} {apos pos:Pos}
theorem o8 {σ:L2.St} {H:Hp} {Q:VK} {E:XK} {t:TA} (J:i6 G) (hn:∀ k,(G.ct (c+1)).2 k ≠ m) (ht:∀ Φ η xs σ H (R:List V->Hp->Prop),SR G Φ η σ H->cs η=some xs->(∀ vs H' Fs,aN H H'->RpL G H' vs (trees xs) Fs->FpL Φ η H xs Fs->R vs H')->t σ H R)
  (h:tX G (bA i way c mv g cs) σ H Q):rE (G.ct (c+1)).1 m (spM G c mv g) [] E (tPl G i way) t σ H Q:=by
 obtain ⟨Φ,η,v,η',s,e,him,kq⟩:=h
 unfold bA at e
 split at e
 ·rename_i t0 h0
  obtain ⟨ks,ek,e3⟩:=Zz.mp e
  obtain ⟨xs,el,e4⟩:=Zz.mp e3
  obtain ⟨⟨t',x2⟩,e5,e6⟩:=Zu.mp e4
  cases e6
  obtain ⟨v0,h1,h2⟩:=s.rp _ _ h0
  obtain ⟨w,x,F1,x3,w1,w2,w3,w4,w5⟩:=gU ks J h2 (s.nd i t0 h0) e5
  unfold ka at w4
  split at w4
  ·rename_i c1 b fs
   split at w4
   ·rename_i hc
    obtain ⟨rfl,hno,hao,han⟩:=hc
    obtain ⟨⟨fs',y⟩,eg,e7⟩:=Zz.mp w4
    split at e7
    ·rename_i hno'
     cases e7
     obtain ⟨c',a,dx,b',ns,vs,ts,Fs,ec,rfl,eb,rfl,eF,hA,hl,hb,ra⟩:=dI w2
     cases ec
     cases eb
     have lts:ns.length=ts.length:=hl.trans ra.len.1
     refine ⟨Φ,η,t0,ks,v0,.ref a,s,h0,h1,ek,w1,fun H1 sm=>⟨a,dx,_,rfl,sm a _ hA,?_,?_⟩⟩
     ·have key:∀ (ns:Wi) (vs:List V),((ns.map (G.ct (c+1)).2).zip vs).lookup m=none:=by
       intro ns
       induction ns with
       | nil=>intro vs;simp
       | cons n ns ih =>
        intro vs
        cases vs with
        | nil=>simp
        | cons v vs =>
         rw [Zs,Zg,Yt]
         have:(m == (G.ct (c+1)).2 n)=false:=by
          rw [ZK]
          exact fun z=>hn n z.symm
         rw [this]
         exact ih vs
      exact key ns vs
     ·refine ht Φ η xs σ H1 _ (s.same sm) el fun us H2 Gs sm2 rp2 fp2=>?_
      have sm3:aN H H2:=sm.trans sm2
      have fp0:FpL Φ η H xs Gs:=⟨fun n v' F' a1 a2=>(fp2.each n v' F' a1 a2).back sm,fp2.nd⟩
      have mvn:=qF hao fp0
      have ra2:RpL (G.at (meA a)) H2 vs ts Fs:=(ra.same sm3).at (meA a) (eu lts hno)
      refine ⟨a,us,ns.zip ts,trees xs,F1,Gs,fs',y,by rw [ZP],?_,rp2.at (meA a) han,?_,?_,?_,eg,fun u H' F' gc ru=>?_⟩
      ·rw [eF]
       exact .ins (sm3 a _ hA) hl (fun _=>rfl) ra2
      ·rw [i9 hao]
       simp [trees]
      ·refine ZO.mpr ⟨w3,fp2.nd.sublist (lB hao),fun b1 hb1 b2 hb2 z=>?_⟩
       subst z
       exact Mut.ne_none (w2.dom b1 hb1) (mvn b1 hb2)
      ·rw [nz hao rp2]
       exact fun b1 _ z=>nomatch z
      ·have back:Rp G H' (.ref a) (.obj (c+1) ((0,.bl b) :: fs')) F':=by
        obtain ⟨c2,a2,dx2,b2,ns2,vs2,ts2,Fs2,ec2,ea2,eb2,ef2,eF2,hA2,hl2,hb2,ra3⟩:=dI gc.rp
        cases ec2
        cases ea2
        subst ef2
        rw [eF2]
        exact .ins hA2 hl2 hb (ra3.at G.me (eu (hl2.trans ra3.len.1) hno'.1))
       have gG:Chg G H (.ref a) F1 (.obj (c+1) ((0,.bl b) :: fs')) H' F':=⟨(Kept.of sm3).trans gc.kept,fun b1 o1 hb1 ho=>gc.keep b1 o1 (fun z=>(Zc.mp z).elim hb1 fun z=>by rw [mvn b1 z] at ho;cases ho) (sm3 b1 o1 ho),fun b1 h=>gc.dom b1 fun z=>h (sm3.free z),back,gc.nd,fun b1 hb1=>by
        rcases gc.sub b1 hb1 with z | z
        ·rcases Zc.mp z with z | z
         ·exact .inl z
         ·exact .inr (mvn b1 z)
        ·exact .inr (sm3.free z)⟩
       obtain ⟨F2,g2⟩:=w5 H' F' gG
       obtain ⟨z1,z2⟩:=s.mut h0 h1 g2
       exact kq u H' _ z1 z2 (ru.at G.me (kI y hno'.2))
    ·cases e7
   ·cases w4
  ·cases w4
 ·cases e
theorem xX {pl:Sem Bool} (J:i6 G) (hn:∀ k,(G.ct (c+1)).2 k ≠ m) (ho:PPl G X o i way) (hc:Cls X.K (G.ct (c+1)).1) (hm:Meth X.K (G.ct (c+1)).1 m f) (F:FnOk X.prog X.w X.K X.mg X.base CX0 k f fd ps (spM G c mv g)) (hr:Room k' X.A) (hk:k<=k') (hb:Binds X.K fd ps []) (ha:PVs G X (e :: es) cs)
  (hst:starEach (e :: es) X.env=(false,eval e X.env) :: starEach es X.env) (hpl:(backTo pos (starEach es X.env)).any (·.1)=false)
  (ht:eval (.Call (.Attribute o m apos) (e :: es) [] pos) X.env=(do
   let ov ← eval o X.env
   standAt apos.atName
   let (f,first) ← holding [ov] (getMethod ov m pl)
   callWith pos f first (backTo pos (starEach (e :: es) X.env)) (backToKw pos (keywordEach [] X.env)))):PX G X (.Call (.Attribute o m apos) (e :: es) [] pos) (bA i way c mv g cs) :=
 PE.weak (nR (E:=E0) ho hc hm F (hr.mono hk) hb .nil kf ha hst hpl ht) fun σ H Q h=>o8 (t:=tEs G cs) J hn (fun Φ η xs σ H R s e k=>⟨Φ,η,xs,s,e,k⟩) h
theorem t4 {pl:Sem Bool} (J:i6 G) (hn:∀ k,(G.ct (c+1)).2 k ≠ m) (ho:PPl G X o i way) (hc:Cls X.K (G.ct (c+1)).1) (hm:Meth X.K (G.ct (c+1)).1 m f) (F:FnOk X.prog X.w X.K X.mg X.base CX0 k f fd ps (spM G c mv g)) (hr:Room k' X.A) (hk:k<=k') (hb:Binds X.K fd ps [])
  (ht:eval (.Call (.Attribute o m apos) [] [] pos) X.env=(do
   let ov ← eval o X.env
   standAt apos.atName
   let (f,first) ← holding [ov] (getMethod ov m pl)
   callWith pos f first (backTo pos (starEach [] X.env)) (backToKw pos (keywordEach [] X.env)))):PX G X (.Call (.Attribute o m apos) [] [] pos) (bA i way c mv g ai) :=
 PE.weak (oq (E:=E0) ho hc hm F (hr.mono hk) hb .nil kf ht) fun σ H Q h=>o8 (t:=rO) J hn (fun Φ η xs σ H R s e k=>by
  cases (show some ([]:We)=some xs from e)
  exact k [] H [] (aN.refl _) .nil ⟨fun i v F h=>by simp at h,by simp [frs]⟩) h
noncomputable def sXM (x:Xx):Sx:=fun η=>(x η).bind fun z=>if imm z.1.2 then some (.nx z.2) else none
noncomputable def ic (j:Nat) (x:Xx):Sx:=fun η=>(x η).bind fun z=>if imm z.1.2=true/\j < z.2.length then some (.nx (z.2.set j (some (.pu z.1.2)))) else none
noncomputable def mP (x:Xx):Sx:=fun η=>(x η).bind fun z=>if imm z.1.2 then some (.rt (.fr,z.1.2) z.2) else none
variable {x:Xx}
theorem pb (h:PX G X e x) (hsw:swapsWith e none pos.line X.env=pure false):PSV G X (.Expr e pos) (sXM x) :=
 PS.weak (jb h hsw) fun D σ H hq=>by
  obtain ⟨Φ,η,out,s,e,k⟩:=hq
  unfold sXM at e
  obtain ⟨⟨v,η'⟩,e1,e2⟩:=Zz.mp e
  split at e2
  ·rename_i hi
   cases e2
   exact ⟨Φ,η,v,η',s,e1,hi,fun u H' Φ' s' f r=>k Φ' σ H' s' f⟩
  ·cases e2
theorem ye (h:PX G X e x):PSV G X (.Return (some e) pos) (mP x) :=
 PS.weak (nL h) fun D σ H hq=>by
  obtain ⟨Φ,η,out,s,e,k⟩:=hq
  unfold mP at e
  obtain ⟨⟨v,η'⟩,e1,e2⟩:=Zz.mp e
  split at e2
  ·rename_i hi
   cases e2
   exact ⟨Φ,η,v,η',s,e1,hi,fun u H' Φ' s' f r=>k u H' [] Φ' σ s' f r ⟨Yd,fun a h=>nomatch h⟩⟩
  ·cases e2
theorem nQ {j:Nat} {nm:Str} {pos':Pos} (h:PX G X e x) (hN:X.N.Nodup) (hi:X.N[j]?=some nm) (hx:Loc X.env.scope nm) (hs:swapsWith e (some (.Name nm pos')) pos.line X.env=pure false) (hf:X.fn nm=true\/X.env.scope.names.lookup nm=some .local) :
  PSV G X (.Assign [.Name nm pos'] e pos) (ic j x) :=
 PS.weak (qj hN hi hx h hs hf) fun D σ H hq=>by
  obtain ⟨Φ,η,out,s,e,k⟩:=hq
  unfold ic at e
  obtain ⟨⟨v,η'⟩,e1,e2⟩:=Zz.mp e
  split at e2
  ·rename_i hi
   cases e2
   refine ⟨Φ,η,v,η',s,e1,hi.1,fun u H' Φ' s' f r=>?_⟩
   obtain ⟨q1,q2⟩:=s'.val (c:=.pu v.2) (m:=.fr) hi.2 (aN.refl H') r ⟨Yd,fun a h=>nomatch h⟩ (.inl ⟨rfl,by decide⟩)
   exact k _ _ H' q1 (f.trans q2)
  ·cases e2
noncomputable def iS (i:Nat) (way:List Stp) (k:Ex) (x:Xx):Sx:=fun η=>(x η).bind fun z=>if imm z.1.2 then eU i way k (fun _=>some (.fr,z.1.2)) z.2 else none
theorem uc {Φ:Fps} {η:VS.Env} {σ:L2.St} {H H1:Hp} {t t':T} {ks:List Ky} {mk mv:Md} {tk tv:T} {y':Unit} {xv:V} {Fv:Wm} {ck:Ex} {D:L2.St->Hp->Prop} (J:i6 G) (s:SR G Φ η σ H) (ht:η[i]?=some (some (.ow t))) (ek:keys way η=some ks) (ekk:ck η=some (mk,tk)) (e5:pm (iU (mk,tk) (mv,tv)) ks t=some (t',y'))
  (sm1:aN H H1) (rv:Rp G H1 xv tv Fv) (fv:Fp Φ η H mv Fv) (k:∀ Φ' H',SR G Φ' (η.set i (some (.ow t'))) σ H'->Frm Φ η H Φ' (η.set i (some (.ow t'))) H'->D σ H'):BK (tPl G i way) (tE G ck) yY xv σ H1 D:=by
   obtain ⟨v,g1,g2⟩:=s.rp _ _ ht
   obtain ⟨w,x,F1,x3,w1,w2,w3,w4,w5⟩:=gU ks J g2 (s.nd i t ht) e5
   refine ⟨Φ,η,t,ks,v,w,s.same sm1,ht,g1,ek,w1.same sm1,fun H2 sm2=>⟨Φ,η,mk,tk,(s.same sm1).same sm2,ekk,fun kv H3 Fk sm3 rk fk=>?_⟩⟩
   have sm:aN H H3:=(sm1.trans sm2).trans sm3
   have rv3:Rp G H3 xv tv Fv:=(rv.same sm2).same sm3
   have fin:∀ H4 F',Chg G H w F1 x3 H4 F'->D σ H4:=fun H4 F' g=>by
    obtain ⟨F2,g2'⟩:=w5 H4 F' g
    obtain ⟨z1,z2⟩:=s.mut ht g1 g2'
    exact k _ H4 z1 z2
   refine L2.ji fun P_ k_=>?_
   cases x with
   | lst l =>
    cases tk with
    | int n =>
     obtain ⟨tt,et,e7⟩:=Zz.mp (show ((fit (mv,tv)).bind fun t=>(ixP l.length n).map fun j=>(T.lst (l.set j t),()))=some (x3,y') from w4)
     obtain ⟨j,ej,e8⟩:=Zu.mp e7
     cases e8
     have em:=kx et
     cases em
     obtain ⟨a,vs,Fs,rfl,rfl,ha',ra⟩:=w2.lst_inv
     have ha3:H3 a=some (.lst vs):=sm a _ ha'
     have nd:=Zd.mp w3
     have na:a ∉ Fv:=fun z=>by rw [fv.2 a z] at ha';cases ha'
     have m3:Mut (H3 a):=by rw [ha3];exact True.intro
     have off:∀ bb∈Fs.flatten,bb ∉ Fv:=fun bb hb hv=>Mut.ne_none (ra.dom bb hb) (fv.2 bb hv)
     refine k_ ?_
     refine .inl ⟨a,vs,n,j,rfl,rk.int_inv,ha3,by rw [← pY,ra.len.1];exact ej,fin _ (a :: (Fs.set j Fv).flatten) ?_⟩
     have keep:∀ {u:V} {x:T} {F:Wm},Rp G H3 u x F->a ∉ F->Rp G (upd H3 a (.lst (vs.set j xv))) u x F:=fun r hn=>r.keep (Kept.upd (.inl m3)) fun bb hb o' ho'=>by rw [aD (fun z=>hn (by rw [← z];exact hb))];exact ho'
     refine Chg.upd sm Zx m3 (.lst aA ((((ra.same sm).off m3 nd.1)).putAt j (keep rv3 na))) ?_ ?_
     ·rw [Zd]
      refine ⟨fun h=>?_,dU nd.2 fv.1 fun i' F' _ hi bb hb=>off bb (cV hi hb)⟩
      rcases cz h with z | ⟨i',F',_,h1,h2⟩
      ·exact na z
      ·exact nd.1 (cV h1 h2)
     ·intro bb hb
      rcases Zh.mp hb with rfl | hb
      ·exact .inl Zx
      ·rcases cz hb with z | ⟨i',F',_,h1,h2⟩
       ·exact .inr (fv.2 bb z)
       ·exact .inl (Zw _ (cV h1 h2))
    | _=>cases w4
   | dct kd l =>
    cases kd with
    | zero =>
     have hc:(iQ tk=true/\imm tv=true/\l.length < eA)/\x3=.dct 0 (dput l tk tv):=by
      have w4':(if iQ tk/\imm tv/\l.length < eA then some (T.dct 0 (dput l tk tv),()) else none)=some (x3,y'):=w4
      split at w4'
      ·rename_i hc
       cases w4'
       exact ⟨hc,rfl⟩
      ·cases w4'
     obtain ⟨⟨c1,c2,c3⟩,rfl⟩:=hc
     have eF:=rv3.imm c2
     subst eF
     obtain ⟨a,ns,vs,ts,Fs,rfl,rfl,ha',hl,rfl,ra⟩:=eO w2
     obtain ⟨kk,rfl,ekk'⟩:=dv rk c1
     subst ekk'
     have ha3:H3 a=some (.dK (ns.zip vs)):=sm a _ ha'
     have m3:Mut (H3 a):=by rw [ha3];exact True.intro
     have nd:=Zd.mp w3
     obtain ⟨ks',vs',ts',Fs',q1,q2,q3,q4,q5⟩:=pP (kk:=kk) rv3 hl (ra.same sm)
     have ln:(ns.zip vs).length < sizeLine:=by
      have:((ns.map aO).zip ts).length < 16777216:=c3
      rw [Yy,Zv] at this
      rw [Yy]
      have:=ra.len.1
      have:(sizeLine:Nat)=16777216:=rfl
      lia
     refine k_ ?_
     refine .inr ⟨a,_,rfl,pS.k ha3 ln,fin _ (a :: Fs'.flatten) ?_⟩
     rw [q1,q3]
     refine Chg.upd sm Zx m3 (.dct aA q2 (q4.off m3 fun z=>nd.1 (q5.subset z))) ?_ ?_
     ·exact Zd.mpr ⟨fun z=>nd.1 (q5.subset z),nd.2.sublist q5⟩
     ·intro bb hb
      rcases Zh.mp hb with rfl | hb
      ·exact .inl Zx
      ·exact .inl (Zw _ (q5.subset hb))
    | succ n=>cases w4
   | _=>cases w4
theorem qV {kr:Nat} {b:Expr} {ck:Ex} {pos':Pos} (J:i6 G) (hr:Room kr X.A) (ho:PPl G X o i way) (hk:PV G X b ck) (he:PX G X e x)
  (ha:∀ v,assign (.Subscript o b pos') X.env v=(do
   let ov ← holding [v] (eval o X.env)
   let iv ← holding [v,ov] (eval b X.env)
   standAt pos'
   holding [v,ov,iv] (setItem ov iv v)
   release [v,ov,iv] [])) (hs:swapsWithSole [.Subscript o b pos'] e pos.line X.env=pure false) (hw:swappedStores [.Subscript o b pos'] e X.env=pure none)
  (h1:(assignEach [.Subscript o b pos'] X.env).map (·.2)=[assign (.Subscript o b pos') X.env]):PSV G X (.Assign [.Subscript o b pos'] e pos) (iS i way ck x) :=
 PS.weak (nB he (nM ho hk (tF (jw hr)) ha) hs hw h1) fun D σ H hq=>by
  obtain ⟨Φ,η,out,s,e,k⟩:=hq
  unfold iS at e
  obtain ⟨⟨v,η'⟩,e1,e2⟩:=Zz.mp e
  split at e2
  ·rename_i hi
   refine ⟨Φ,η,v,η',s,e1,hi,fun u H' Φ' s' f r=>?_⟩
   unfold eU at e2
   obtain ⟨⟨mv,tv⟩,ev,e2⟩:=Zz.mp e2
   cases ev
   split at e2
   ·rename_i t ht
    obtain ⟨ks,ek,e2⟩:=Zz.mp e2
    obtain ⟨⟨mk,tk⟩,ekk,e2⟩:=Zz.mp e2
    obtain ⟨⟨t',y'⟩,e5,e6⟩:=Zu.mp e2
    cases e6
    exact uc J s' ht ek ekk e5 (aN.refl H') r (mv:=.fr) ⟨Yd,fun a h=>nomatch h⟩ fun Φ2 H2 z1 z2=>k _ σ H2 z1 (f.trans z2)
   ·cases e2
  ·cases e2
end
end VS
end
section
namespace L2
open PySem PySem.Spec PyProof.Rows
theorem qh {X:Cx}:dP X (.type "dict") (fun xs H Q=>∃ (d:Addr) (kvs:List (Key×V)),xs=[.ref d]/\H d=some (.dK kvs)/\∀ l,H l=none->Q (.ref l) (upd H l (.dK kvs))):=by
 intro pins s σ H xs us Q I rx h
 obtain ⟨d,kvs,rfl,hd,q⟩:=h
 obtain ⟨u,rfl,ru⟩:=rx.one
 cases ru
 obtain ⟨hz,hne,vs,rel,dd⟩:=pv I.hok hd
 refine PySem.kt_call_dict hne dd (by rw [← YA rel];exact hz) fun h' dd' sb=>?_
 exact ⟨.ref s.heap.objs.size,_,I.laid (t':=s.toks) (fun b o e=>(sb.2 b (ZS (ZQ e))).trans (Zi _ e)) (Zl _) (pV hz (ZK.mpr (YW (ZS I.big))) rel dd'),rfl,q _ (I.hok.fresh (Zl _))⟩
end L2
namespace VS
open PySem PySem.Spec PyProof.Rows L2
noncomputable def jS:We->Wc
 | [(_,.dct 0 l)]=>if fm (l.map (·.2))=true then some (.fr,.dct 0 l) else none
 | _=>none
section
variable {G:Gx} {X:Cx} {a b e o:Expr} {ca cb ce:Ex} {cs:Exs} {p pos cpos apos:Pos} {k kr:Nat}
theorem u0:fR G (fun xs H Q=>∃ (d:Addr) (kvs:List (Key×V)),xs=[.ref d]/\H d=some (.dK kvs)/\∀ l,H l=none->Q (.ref l) (upd H l (.dK kvs))) jS:=by
 intro Φ η H0 H l vs Fs m t Q A e k
 unfold jS at e
 split at e
 ·rename_i mx l0
  split at e
  ·rename_i hi
   cases e
   obtain ⟨v,F,rfl,rfl,r⟩:=(show RpL G H vs [.dct 0 l0] Fs from A.rp).one
   obtain ⟨a,ns,us,ts,Gs,rfl,rfl,ha,hl,rfl,ra⟩:=eO r
   refine ⟨a,_,rfl,ha,fun q hq=>?_⟩
   have sm:aN H (upd H q (.dK (ns.zip us))):=dj hq
   rw [List.map_snd_zip (by rw [Zv,hl,ra.len.1];exact Zl _)] at hi
   have eF:=ra.imm hi
   refine k _ _ (q :: Gs.flatten) sm (.dct aA hl (ra.same sm)) ?_
   rw [eF]
   exact Fp.new (A.same.free hq) (by simp) Fp.nil
  ·cases e
 ·cases e
theorem wV (hm:X.mg "dict" = none) (ha:PVs G X [e] cs) (hg:Gl X "dict") (he:starEach [e] X.env=(false,eval e X.env) :: starEach [] X.env):PV G X (.Call (.Name "dict" p) [e] [] pos) (eN jS cs) :=
 jR qh u0 hg hm yq ha (he:=he) (hpl:=rfl)
theorem Bp {i i':Int} {j j':Nat} {q q':Pos}:PV G X (.Dict [some (.Constant (.int i) j q)] [.Constant (.int i') j' q'] pos) (kJ 0 [(Q2 i,Q2 i')]) :=
 PE.weak (yN (wx qi qi yp) rfl rfl (by simp) (by show 1<=15;decide)) fun σ H Q hq=>by
  obtain ⟨Φ,η,m,r,s,e,k⟩:=hq
  cases (show some (Md.fr,T.dct 0 [(.int i,.int i')])=some (m,r) from e)
  intro p hp
  refine ⟨aA,[(Sum.inl i,.int i')],rfl,(by show 1<=15;decide),?_⟩
  rw [yM]
  have:Rp G (upd H p (.dK [(Sum.inl i,V.int i')])) (.ref p) (.dct 0 ((([Sum.inl i]:List Key).map aO).zip [.int i'])) (p :: ([[]]:Xg).flatten) :=
   .dct (ks:=[Sum.inl i]) (vs:=[V.int i']) aA rfl (.cons (.int i') .nil)
  exact k _ _ _ (dj hp) this ⟨by simp,fun b hb=>by simp at hb;rw [hb];exact hp⟩
noncomputable def rY (x y:Val):Wc:=match x.2 with
 | .dct 0 l=>if iQ y.2 then some (match dX l y.2 with | some t=>sub x.1 t | none=>(.fr,.non)) else none
 | _=>none
theorem w_get (hr:Room kr X.A) (ho:PV G X o ca) (he:PV G X e cb) (hbase:attributeBase o "get" X.env (eval o X.env)=eval o X.env)
  (hfew:((backTo cpos (starEach [e] X.env)).all (fun x=>!x.1) && (backToKw cpos (keywordEach [] X.env)).all (fun x=>x.1.isSome)
   && decide (([e]:List Expr).length+([]:List Keyword).length+(if ([]:List Keyword).isEmpty then 0 else 1) < 30))=true)
  (hline:(apos.endLine == cpos.line)=true) (htr:backTo cpos (starEach [e] X.env)=[(false,eval e X.env)]):PV G X (.Call (.Attribute o "get" apos) [e] [] cpos) (e2 rY ca cb) :=
 PE.weak (tK (jw hr) ho he ⟨hbase,hfew,hline,htr⟩) fun σ H Q hq=>by
  obtain ⟨Φ,η,m,r,s,e,kq⟩:=hq
  unfold e2 at e
  obtain ⟨⟨m1,x⟩,ea,e⟩:=Zz.mp e
  obtain ⟨⟨m2,y⟩,eb,e⟩:=Zz.mp e
  unfold rY at e
  split at e
  ·rename_i l hx
   dsimp only at hx
   subst hx
   split at e
   ·rename_i hk
    have e':=Zn e
    refine ⟨Φ,η,m1,_,s,ea,fun v H1 F1 sm1 r1 f1=>?_⟩
    obtain ⟨a,ks,vs,ts,Fs,rfl,rfl,ha,hl,rfl,q⟩:=eO r1
    refine ⟨a,rfl,.inl ⟨_,.inl ha⟩,Φ,η,m2,y,s.same sm1,eb,fun v2 H2 F2 sm2 r2 f2=>?_⟩
    obtain ⟨kk,rfl,ek⟩:=dv r2 hk
    dsimp only at e'
    rw [ek] at e'
    rcases jc (k:=kk) hl (q.same sm2) with ⟨h1,h2⟩ | ⟨i,v,t2,F,a1,a2,a3,a4,a5⟩
    ·rw [h1] at e'
     cases e'
     refine ⟨_,gB.k (sm2 a _ ha),?_⟩
     rw [h2]
     exact kq .non H2 [] (sm1.trans sm2) .non Fp.nil
    ·rw [a1] at e'
     refine ⟨_,gB.k (sm2 a _ ha),?_⟩
     rw [a2]
     have f:=((f1.sub (Yv _ _)).sub (dg a4)).up a5
     unfold VS.sub at e'
     dsimp only at e'
     rw [e'] at f
     have et:t2=r:=congrArg Prod.snd e'
     rw [et] at a5
     exact kq v H2 F (sm1.trans sm2) a5 f
   ·cases e
  ·cases e
noncomputable def m8 (x y:Val):Wc:=match x.2 with
 | .dct 3 l=>if iQ y.2 then (dX l y.2).map (sub x.1) else none
 | _=>none
theorem oZ {H:Hp} {v:V} {l:List (T×T)} {F:Wm} (r:Rp G H v (.dct 3 l) F):∃ (a:Addr) (o:Obj) (ks:List Key) (vs:List V) (ts:Wb) (Fs:Xg),v=.ref a/\F=Fs.flatten/\H a=some (.frz o (.dK (ks.zip vs)))/\ks.length=vs.length/\l=(ks.map aO).zip ts/\RpL G H vs ts Fs:=by
 generalize hz:T.dct 3 l=z at r
 cases r with
 | dctZ h hl q=>cases hz;exact ⟨_,_,_,_,_,_,rfl,rfl,h,hl,rfl,q⟩
 | _=>cases hz
theorem AH:fu G (B3 G.K) m8:=by
 intro Φ η H0 H x y u w F1 F2 m t Q tw e k
 obtain ⟨m1,x⟩:=x
 unfold m8 at e
 split at e
 ·rename_i l hx
  dsimp only at hx
  subst hx
  split at e
  ·rename_i hk
   obtain ⟨t',e1,e2⟩:=Zu.mp e
   obtain ⟨a,o,ks,vs,ts,Fs,rfl,rfl,ha,hl,rfl,q⟩:=oZ tw.r1
   obtain ⟨kk,rfl,ek⟩:=dv tw.r2 hk
   rw [ek] at e1
   rcases jc (k:=kk) hl q with ⟨h1,_⟩ | ⟨i,v,t2,F,a1,a2,a3,a4,a5⟩
   ·rw [h1] at e1;cases e1
   ·rw [a1] at e1
    cases e1
    cases e2
    refine .inr ⟨a,v,rfl,.inl ⟨_,kk,.inr ⟨o,ha⟩,rfl,a2.symm⟩,?_⟩
    have f:=(tw.f1.sub (dg a4)).up a5
    exact k v H F (aN.refl _) a5 f
  ·cases e
 ·cases e
theorem zc (hr:Room kr X.A) (ha:PV G X a ca) (hb:PV G X b cb) (hs:jF b) (hK:X.K=G.K):PV G X (.Subscript a b pos) (e2 m8 ca cb) :=
 PE.weak (qw (IxR.or nP (nF (jw hr))) ha hb hs) fun σ H Q h=>by rw [hK];exact jY AH h
end
noncomputable def eNew (c:Nat) (g:Mt) (cs:Exs):Ex:=fun η=>(cs η).bind fun xs=>if cE (trees xs)=true then (g [] (trees xs)).bind fun z=>if dz z.1=true/\isN z.2=true then some (.fr,.obj (c+1) ((0,.bl false) :: z.1)) else none else none
noncomputable def eV (c:Nat) (g:Fn) (ca:Ex) (cs:Exs):Ex:=fun η=>(ca η).bind fun x=>match x.2 with
 | .obj c' (_ :: _)=>if c'=c+1 then (cs η).bind fun xs=>(g (x.2 :: trees xs)).bind fun r=>match r.1 with
  | .fr=>some r
  | _=>none else none
 | _=>none
theorem ue {α:Type}:∀ (l:List α) (Fs:Xg),mvF (l.map fun _=>false) Fs=[]
 | [],_=>by simp [mvF]
 | _ :: _,[]=>by simp [mvF]
 | _ :: l,F :: Fs=>by
  rw [Zs,mvF,Zo Za,Xk]
  exact ue l Fs
theorem vQ:∀ (mv:List Bool) (Fs:Xg),∀ a∈puF mv Fs,a∈Fs.flatten
 | [],_,a,h=>by simp [puF] at h
 | _ :: _,[],a,h=>by simp [puF] at h
 | b :: bs,F :: Fs,a,h=>by
  rw [puF] at h
  rw [ZU]
  rcases Zc.mp h with h | h
  ·cases b with
   | true=>simp at h
   | false=>exact Z7 _ (by simpa using h)
  ·exact ZX _ (vQ bs Fs a h)
section
variable {G:Gx} {X:Cx} {i c k k':Nat} {o e:Expr} {es:List Expr} {cs:Exs} {ca:Ex} {m x:Str} {f:Addr} {fd:FuncData} {ps:List Str} {g:Mt} {h:Fn} {apos pos p:Pos}
theorem xY {G:Gx} {H:Hp} {u:V} {t:T} {F:Wm} (r:Rp G H u t F) (h:isN t=true):u=.non:=by
 cases r with
 | non=>rfl
 | _=>cases h
theorem ud {σ:L2.St} {H:Hp} {Q:VK} {E:XK} {t:TA} (F:∀ n,FnOk X.prog X.w X.K X.mg X.base CX0 k f fd ps (spM G c (List.replicate n false) g)->True) (ht:∀ Φ η xs σ H (R:List V->Hp->Prop),SR G Φ η σ H->cs η=some xs->(∀ vs H' Fs,aN H H'->RpL G H' vs (trees xs) Fs->FpL Φ η H xs Fs->R vs H')->t σ H R)
  (n:Nat) (hn:∀ η xs,cs η=some xs->xs.length=n) (hq:tE G (eNew c g cs) σ H Q):uC (G.ct (c+1)).1 (spM G c (List.replicate n false) g) [] E t σ H Q:=by
 obtain ⟨Φ,η,mo,r,s,e,kq⟩:=hq
 unfold eNew at e
 obtain ⟨xs,el,e1⟩:=Zz.mp e
 split at e1
 ·rename_i han
  obtain ⟨⟨fs',y⟩,eg,e2⟩:=Zz.mp e1
  split at e2
  ·rename_i hc
   cases e2
   have lx:=hn η xs el
   refine ht Φ η xs σ H _ s el fun vs H1 Gs sm1 rp1 fp1 a dx ha hdx ne=>?_
   have hHa:H a=none:=sm1.free ha
   have sm2:aN H1 (upd (upd H1 dx (.own a)) a (.ins (G.ct (c+1)).1 dx [])):=fun b ob q=>by
    rw [aD (fun z=>by rw [z,ha] at q;cases q),aD (fun z=>by rw [z,hdx] at q;cases q)]
    exact q
   have em:List.replicate n false=(List.range n).map fun _=>false:=by rw [List.map_const',ZF]
   have mv0:mvF (List.replicate n false) Gs=[]:=by rw [em];exact ue _ _
   have fresh:∀ b,(upd (upd H1 dx (.own a)) a (.ins (G.ct (c+1)).1 dx [])) b=none->H b=none:=fun b z=>sm1.free (sm2.free z)
   refine ⟨a,vs,[],trees xs,[a],Gs,fs',y,by rw [ZP],.ins (ks:=[]) (vs:=[]) (ts:=[]) (Fs:=[]) aA rfl (fun _=>rfl) .nil,(rp1.same sm2).at (meA a) han,?_,?_,?_,eg,fun u H' F' gc ru=>⟨xY ru hc.2,?_⟩⟩
   ·simp [trees,lx]
   ·rw [mv0];simp
   ·rw [mv0]
    intro b hb hb'
    have:b=a:=by simpa using hb
    subst this
    exact Mut.ne_none (rp1.dom b (vQ _ _ b hb')) ha
   ·rw [mv0,ZP] at gc
    have back:Rp G H' (.ref a) (.obj (c+1) ((0,.bl false) :: fs')) F':=by
     obtain ⟨c2,a2,dx2,b2,ns2,vs2,ts2,Fs2,ec2,ea2,eb2,ef2,eF2,hA2,hl2,hb2,ra3⟩:=dI gc.rp
     cases ec2
     cases ea2
     subst ef2
     rw [eF2]
     exact .ins hA2 hl2 (fun z=>nomatch z) (ra3.at G.me (eu (hl2.trans ra3.len.1) hc.1))
    refine kq (.ref a) H' F' (fun b ob q=>gc.keep b ob (fun z=>?_) (sm2 b ob (sm1 b ob q))) back ⟨gc.nd,fun b hb=>?_⟩
    ·have:b=a:=by simpa using z
     rw [this,hHa] at q
     cases q
    ·rcases gc.sub b hb with z | z
     ·have:b=a:=by simpa using z
      rw [this]
      exact hHa
     ·exact fresh b z
  ·cases e2
 ·cases e1
theorem Cs (n:Nat) (M:Mk X.K (G.ct (c+1)).1 f) (F:FnOk X.prog X.w X.K X.mg X.base CX0 k f fd ps (spM G c (List.replicate n false) g)) (hr:Room k' X.A) (hk:k+1<=k') (hg:Gl X x) (hm:X.mg x=some (.ref (G.ct (c+1)).1)) (hb:Binds X.K fd ps []) (ha:PVs G X (e :: es) cs) (hn:∀ η xs,cs η=some xs->xs.length=n)
  (hdb:(x == ("__debug__" : Str))=false) (he:starEach (e :: es) X.env=(false,eval e X.env) :: starEach es X.env) (hpl:(backTo pos (starEach es X.env)).any (·.1)=false):PV G X (.Call (.Name x p) (e :: es) [] pos) (eNew c g cs) :=
 PE.weak (xG (E:=E0) M F (hr.mono hk) hg hm hb .nil kf ha hdb he hpl) fun σ H Q h=>ud (X:=X) (k:=k) (f:=f) (fd:=fd) (ps:=ps) (t:=tEs G cs) (fun _ _=>True.intro) (fun Φ η xs σ H R s e k=>⟨Φ,η,xs,s,e,k⟩) n hn h
theorem Ax (M:Mk X.K (G.ct (c+1)).1 f) (F:FnOk X.prog X.w X.K X.mg X.base CX0 k f fd ps (spM G c [] g)) (hr:Room k' X.A) (hk:k+1<=k') (hg:Gl X x) (hm:X.mg x=some (.ref (G.ct (c+1)).1)) (hb:Binds X.K fd ps [])
  (hdb:(x == ("__debug__" : Str))=false):PV G X (.Call (.Name x p) [] [] pos) (eNew c g ai) :=
 PE.weak (vK (E:=E0) M F (hr.mono hk) hg hm hb .nil kf hdb) fun σ H Q h=>ud (X:=X) (k:=k) (f:=f) (fd:=fd) (ps:=ps) (t:=rO) (fun _ _=>True.intro) (fun Φ η xs σ H R s e k=>by
  cases (show some ([]:We)=some xs from e)
  exact k [] H [] (aN.refl _) .nil ⟨fun i v F h=>by simp at h,by simp [frs]⟩) 0 (fun η xs e=>by
  cases (show some ([]:We)=some xs from e)
  rfl) h
theorem qJ {g:Nat->Str} (hn:∀ k,g k ≠ m):∀ (ns:Wi) (vs:List V),((ns.map g).zip vs).lookup m=none
 | [],vs=>by simp
 | _ :: _,[]=>by simp
 | n :: ns,v :: vs=>by
  rw [Zs,Zg,Yt]
  have:(m == g n)=false:=by
   rw [ZK]
   exact fun z=>hn n z.symm
  rw [this]
  exact qJ hn ns vs
theorem qD {σ:L2.St} {H:Hp} {Q:VK} {E:XK} {t:TA} (hn:∀ k,(G.ct (c+1)).2 k ≠ m) (ht:∀ Φ η xs σ H (R:List V->Hp->Prop),SR G Φ η σ H->cs η=some xs->(∀ vs H' Fs,aN H H'->RpL G H' vs (trees xs) Fs->FpL Φ η H xs Fs->R vs H')->t σ H R)
  (hq:tE G (eV c h ca cs) σ H Q):rE (G.ct (c+1)).1 m (spF G h) [] E (tE G ca) t σ H Q:=by
 obtain ⟨Φ,η,mo,r,s,e,kq⟩:=hq
 unfold eV at e
 obtain ⟨⟨mx,y⟩,ea,e1⟩:=Zz.mp e
 split at e1
 ·rename_i c' q0 fs hy
  dsimp only at hy
  subst hy
  split at e1
  ·rename_i hc
   subst hc
   obtain ⟨xs,el,e2⟩:=Zz.mp e1
   obtain ⟨⟨n,r'⟩,eg,e3⟩:=Zz.mp e2
   refine ⟨Φ,η,mx,_,s,ea,fun v H1 F1 sm1 r1 f1=>?_⟩
   obtain ⟨c2,a,dx,b,ns,vs,ts,Fs,ec,rfl,eb,ef,eF,hA,hl,hb,ra⟩:=dI r1
   cases ec
   refine ⟨a,dx,_,rfl,hA,qJ hn _ _,ht Φ η xs σ H1 _ (s.same sm1) el fun us H2 Gs sm2 rp2 fp2=>?_⟩
   rw [ZP]
   refine ⟨_ :: trees xs,F1 :: Gs,n,r',.cons (r1.same sm2) rp2,eg,fun u H' F' sm3 r3 f3=>?_⟩
   cases n with
   | fr =>
    cases e3
    exact kq u H' F' ((sm1.trans sm2).trans sm3) r3 ⟨f3.1,fun b hb=>sm1.free (sm2.free (f3.2 b hb))⟩
   | pu=>cases e3
   | bo=>cases e3
  ·cases e1
 ·cases e1
theorem AX {pl:Sem Bool} (hn:∀ k,(G.ct (c+1)).2 k ≠ m) (ho:PV G X o ca) (hc:Cls X.K (G.ct (c+1)).1) (hm:Meth X.K (G.ct (c+1)).1 m f) (F:FnOk X.prog X.w X.K X.mg X.base CX0 k f fd ps (spF G h)) (hr:Room k' X.A) (hk:k<=k') (hb:Binds X.K fd ps []) (ha:PVs G X (e :: es) cs)
  (hst:starEach (e :: es) X.env=(false,eval e X.env) :: starEach es X.env) (hpl:(backTo pos (starEach es X.env)).any (·.1)=false)
  (ht:eval (.Call (.Attribute o m apos) (e :: es) [] pos) X.env=(do
   let ov ← eval o X.env
   standAt apos.atName
   let (f,first) ← holding [ov] (getMethod ov m pl)
   callWith pos f first (backTo pos (starEach (e :: es) X.env)) (backToKw pos (keywordEach [] X.env)))):PV G X (.Call (.Attribute o m apos) (e :: es) [] pos) (eV c h ca cs) :=
 PE.weak (nR (E:=E0) ho hc hm F (hr.mono hk) hb .nil kf ha hst hpl ht) fun σ H Q q=>qD (t:=tEs G cs) hn (fun Φ η xs σ H R s e k=>⟨Φ,η,xs,s,e,k⟩) q
theorem xm {pl:Sem Bool} (hn:∀ k,(G.ct (c+1)).2 k ≠ m) (ho:PV G X o ca) (hc:Cls X.K (G.ct (c+1)).1) (hm:Meth X.K (G.ct (c+1)).1 m f) (F:FnOk X.prog X.w X.K X.mg X.base CX0 k f fd ps (spF G h)) (hr:Room k' X.A) (hk:k<=k') (hb:Binds X.K fd ps [])
  (ht:eval (.Call (.Attribute o m apos) [] [] pos) X.env=(do
   let ov ← eval o X.env
   standAt apos.atName
   let (f,first) ← holding [ov] (getMethod ov m pl)
   callWith pos f first (backTo pos (starEach [] X.env)) (backToKw pos (keywordEach [] X.env)))):PV G X (.Call (.Attribute o m apos) [] [] pos) (eV c h ca ai) :=
 PE.weak (oq (E:=E0) ho hc hm F (hr.mono hk) hb .nil kf ht) fun σ H Q q=>qD (t:=rO) hn (fun Φ η xs σ H R s e k=>by
  cases (show some ([]:We)=some xs from e)
  exact k [] H [] (aN.refl _) .nil ⟨fun i v F h=>by simp at h,by simp [frs]⟩) q
end
noncomputable def kZ (i:Nat) (way:List Stp) (j:Nat) (η:VS.Env):Option Out:=match (η[i]?:Option (Wf)),(η[j]?:Option (Wf)) with
 | some (some (.ow t)),some (some (.ow u))=>if i ≠ j then (keys way η).bind fun ks=>(pm (fun x=>aJ x [(.fr,u)]) ks t).map fun z=>.nx ((η.set j none).set i (some (.ow z.1))) else none
 | _,_=>none
open Classical in
noncomputable def less (H:Hp) (F:Wm):Hp:=fun b=>if b∈F then none else H b
section
variable {G:Gx} {X:Cx} {i j:Nat} {way:List Stp} {o:Expr} {y:Str} {apos cpos pos p1:Pos}
theorem nq {H:Hp} {F:Wm} {b:Addr} (h:b∈F):less H F b=none:=Zr h
theorem gz {H:Hp} {F:Wm} {b:Addr} (h:b ∉ F):less H F b=H b:=Zo h
theorem gI {H:Hp} {F:Wm} {b:Addr} {o:HO} (h:less H F b=some o):H b=some o/\b ∉ F:=by
 by_cases q:b∈F
 ·rw [nq q] at h;cases h
 ·rw [gz q] at h;exact ⟨h,q⟩
theorem sj {H:Hp} {F:Wm} (h:∀ b∈F,Mut (H b)):Kept H (less H F) :=
 ⟨fun b xs e=>by
  rw [gz (fun z=>by have:=h b z;rw [e] at this;exact this)]
  exact e,fun b o u e=>by
  rw [gz (fun z=>by have:=h b z;rw [e] at this;exact this)]
  exact e⟩
theorem yg (J:i6 G) (ho:PPl G X o i way) (hK:X.K=G.K) (hN:X.N[j]?=some y) (hv:Vis X.env.scope y) (hd:(y == ("__debug__" : Str))=false) (hcd:(y == ("__classdict__" : Str))=false)
  (hbase:attributeBase o "append" X.env (eval o X.env)=eval o X.env)
  (hfew:((backTo cpos (starEach [.Name y p1] X.env)).all (fun x=>!x.1) && (backToKw cpos (keywordEach [] X.env)).all (fun x=>x.1.isSome)
   && decide ([Expr.Name y p1].length+([]:List Keyword).length+(if ([]:List Keyword).isEmpty then 0 else 1) < 30))=true)
  (hline:(apos.endLine == cpos.line)=true) (hs:starEach [.Name y p1] X.env=(false,eval (.Name y p1) X.env) :: starEach [] X.env) (hplain:(backTo cpos (starEach [] X.env)).any (·.1)=false)
  (hsw:swapsWith (.Call (.Attribute o "append" apos) [.Name y p1] [] cpos) none pos.line X.env=pure false) :
  PSV G X (.Expr (.Call (.Attribute o "append" apos) [.Name y p1] [] cpos) pos) (kZ i way j) :=
 PS.weak (jb (wa XX XZ Xa iG ho (fz (gr hN hv hd hcd) jW hs) hbase hfew hline hs hplain) hsw) fun D σ H hq=>by
  obtain ⟨Φ,η,out,s,e,k⟩:=hq
  unfold kZ at e
  split at e
  ·rename_i t u ht hu
   split at e
   ·rename_i hij
    obtain ⟨ks,ek,e3⟩:=Zz.mp e
    obtain ⟨⟨t',x2⟩,e5,e6⟩:=Zu.mp e3
    cases e6
    obtain ⟨vj,j1,j2⟩:=s.rp _ _ hu
    have j2':Rp G H vj u (Φ j):=j2
    have ndj:=s.nd j u hu
    have mj:∀ b∈Φ j,Mut (H b):=j2'.dom
    have kp:=sj mj
    have sepj:∀ i' c',i' ≠ j->η[i']?=some (some c')->∀ b∈Φ i',b ∉ Φ j:=fun i' c' n h b hb hb'=>s.sep j i' u c' hu h (YW n) b hb' hb
    have s0:SR G Φ (η.set j none) σ (less H (Φ j)):=⟨(s.drop j).len,fun i' c' h=>by
     obtain ⟨n,h'⟩:=cO h
     obtain ⟨v,h1,h2⟩:=s.rp i' c' h'
     exact ⟨v,h1,h2.keep kp fun b hb ob hob=>by rw [gz (sepj i' c' n h' b hb)];exact hob⟩,(s.drop j).nd,(s.drop j).sep⟩
    have ht0:(η.set j none)[i]?=some (some (.ow t)):=by
     rw [YQ (YW hij)]
     exact ht
    obtain ⟨v,h1,h2⟩:=s0.rp _ _ ht0
    obtain ⟨w,x,F1,x3,w1,w2,w3,w4,w5⟩:=gU ks J h2 (s0.nd i t ht0) e5
    unfold aJ at w4
    split at w4
    ·rename_i l yv heq
     cases heq
     obtain ⟨z,ez,e7⟩:=Zz.mp w4
     cases (show some u=some z from ez)
     split at e7
     ·rename_i hl
      cases e7
      obtain ⟨a,us,Gs,rfl,rfl,ha,ra⟩:=w2.lst_inv
      obtain ⟨haH,haj⟩:=gI ha
      have w1':Pth G H ks v (.ref a):=by
       have:∀ {ks:List Ky} {v w:V},Pth G (less H (Φ j)) ks v w->Pth G H ks v w:=by
        intro ks v w p
        induction p with
        | nil v=>exact .nil v
        | fld h l _ ih=>exact .fld (gI h).1 l ih
        | ix h l m _ ih=>exact .ix (gI h).1 l m ih
        | key h l _ ih=>exact .key (gI h).1 l ih
        | un _ ih=>exact .un ih
       exact this w1
      refine ⟨Φ,η,t,ks,v,.ref a,s,ht,h1,ek,w1',fun H0 sm0=>⟨.inl ⟨rfl,us,by rw [hK];exact SqL.of (sm0 a _ haH)⟩,vj,j1,a,us,vj,rfl,rfl,sm0 a _ haH,by rw [ra.len.1];exact hl,?_⟩⟩
      have m0:Mut (H0 a):=by rw [sm0 a _ haH];exact True.intro
      have nd1:=Zd.mp w3
      have offj:∀ b∈Gs.flatten,b ∉ Φ j:=fun b hb hb'=>by
       have:=ra.dom b hb
       rw [nq hb'] at this
       exact this
      have lsm:∀ b ob,less H (Φ j) b=some ob->H0 b=some ob:=fun b ob h=>sm0 b ob (gI h).1
      have kl:Kept (less H (Φ j)) H0:=⟨fun b xs h=>lsm b _ h,fun b ob u h=>lsm b _ h⟩
      have g:Chg G (less H (Φ j)) (.ref a) (a :: Gs.flatten) (.lst (l++[u])) (upd H0 a (.lst (us++[vj]))) (a :: (Gs++[Φ j]).flatten):=by
       refine ⟨kl.trans (Kept.upd (.inl m0)),fun b ob hb h=>by rw [aD (fun z=>hb (by rw [z];exact Zx))];exact lsm b ob h,fun b h z=>?_,.lst aA ((RpL.off (ra.keep kl fun b hb ob h=>lsm b ob h) m0 nd1.1).append (.cons (((j2'.same sm0)).keep (Kept.upd (.inl m0)) fun b hb ob ho=>by rw [aD (fun z=>haj (by rw [← z];exact hb))];exact ho) .nil)),?_,fun b hb=>?_⟩
       ·by_cases q:b=a
        ·rw [q,aA] at z;cases z
        ·rw [aD q] at z
         cases e:less H (Φ j) b with
         | none=>exact h e
         | some ob=>rw [lsm b ob e] at z;cases z
       ·rw [Yz]
        refine Zd.mpr ⟨fun m=>?_,ZO.mpr ⟨nd1.2,by simpa using ndj,fun b hb c hc z=>?_⟩⟩
        ·rcases Zc.mp m with m | m
         ·exact nd1.1 m
         ·exact haj (by simpa using m)
        ·subst z;exact offj b hb (by simpa using hc)
       ·rcases Zh.mp hb with rfl | hb
        ·exact .inl Zx
        ·rw [Yz] at hb
         rcases Zc.mp hb with hb | hb
         ·exact .inl (Zw _ hb)
         ·exact .inr (nq (by simpa using hb))
      obtain ⟨F2,g2⟩:=w5 _ _ g
      obtain ⟨z1,z2⟩:=s0.mut ht0 h1 g2
      have back:∀ b,less H (Φ j) b=none->b9 Φ η b\/H b=none:=fun b h=>by
       by_cases q:b∈Φ j
       ·exact .inl ⟨j,u,hu,q⟩
       ·rw [gz q] at h;exact .inr h
      have ow0:∀ b,b9 Φ (η.set j none) b->b9 Φ η b:=fun b ⟨j',t',q1,q2⟩=>⟨j',t',(cO q1).2,q2⟩
      have pu0:∀ b,dC Φ (η.set j none) b->dC Φ η b:=fun b ⟨j',t',q1,q2⟩=>⟨j',t',(cO q1).2,q2⟩
      refine k _ σ _ z1 ⟨fun b ob h n=>?_,fun b h z=>?_,fun b h=>?_,fun b h=>?_,(Kept.of sm0).trans (Kept.upd (.inl m0))⟩
      ·have nj:b ∉ Φ j:=fun z=>n ⟨j,u,hu,z⟩
       exact z2.keep b ob (by rw [gz nj];exact h) fun z=>n (ow0 b z)
      ·by_cases q:b=a
       ·rw [q,aA] at z;cases z
       ·rw [aD q] at z;exact h (sm0.free z)
      ·rcases z2.ow b h with h | h
       ·exact .inl (ow0 b h)
       ·exact back b h
      ·rcases z2.pu b h with h | h | h
       ·exact .inl (pu0 b h)
       ·exact .inr (.inl (ow0 b h))
       ·exact (back b h).elim (fun z=>.inr (.inl z)) fun z=>.inr (.inr z)
     ·cases e7
    ·cases w4
   ·cases e
  ·cases e
end
end VS
end
section
namespace VS
open PySem PySem.Spec PyProof.Rows L2
noncomputable def isInt:T->Bool
 | .int _=>true
 | _=>false
noncomputable def oA (i:Nat):Its:=fun η=>match (η[i]?:Option (Wf)) with
 | some (some (.pu (.dct 3 l)))=>if (l.all fun p=>isInt p.1)=true then some (.fr,l.map (·.1)) else none
 | _=>none
noncomputable def t7 (i:Nat) (tg:Tg) (ce:Ex):Sx:=fun η=>match (η[i]?:Option (Wf)) with
 | some (some (.ow (.dct 0 l)))=>(eT 1 tg (oA i) none ce (η.set i (some (.pu (.dct 3 l))))).bind fun v=>match v.1 with
  | .fr=>some (.rt v (η.set i none))
  | _=>none
 | _=>none
theorem zip_inj {α β:Type}:∀ {a c:List α} {b d:List β},a.length=b.length->c.length=d.length->a.zip b=c.zip d->a=c
 | [],[],_,_,_,_,_=>rfl
 | [],_ :: _,_,[],_,h,_=>by simp at h
 | [],_ :: _,[],_ :: _,_,_,h=>by simp at h
 | [],_ :: _,_ :: _,_ :: _,h,_,_=>by simp at h
 | _ :: _,_,[],_,h,_,_=>by simp at h
 | _ :: _,[],_ :: _,[],_,_,h=>by simp at h
 | _ :: _,[],_ :: _,_ :: _,_,h,_=>by simp at h
 | _ :: _,_ :: _,_ :: _,[],_,h,_=>by simp at h
 | x :: a,y :: c,z :: b,w :: d,h1,h2,h=>by
  rw [Zg,Zg] at h
  obtain ⟨e1,e2⟩:=List.cons.inj h
  rw [zip_inj (by simpa using h1) (by simpa using h2) e2,(YR e1).1]
section
variable {G:Gx} {X:Cx} {i:Nat} {elt tg:Expr} {sc:Scope} {pos pos' p1:Pos} {N:List Str} {x:Str} {g:Tg} {ce:Ex}
theorem AR (i:Nat) (N:List Str) (hcalm:X.calm=true) (hN:X.N[i]?=some x) (hv:Vis X.env.scope x) (hd:(x == ("__debug__" : Str))=false) (hcd:(x == ("__classdict__" : Str))=false) (hin:yd 1 g)
  (hg:∀ cl C s H fp,PVG G (fh X N sc cl C s H fp) tg g) (he:∀ cl C s H fp,PV G (fh X N sc cl C s H fp) elt ce)
  (hsc:qr X.env sc=true) (hnm:lV sc (N.drop 1) X.N=true) (hNl:1<=N.length) (hs:∀ y,foldedSetIterable (.Name x p1) X.env y=pure y) :
  PSV G X (.Return (some (.ListComp elt [⟨tg,.Name x p1,[],0⟩] sc pos)) pos') (t7 i g ce) :=
 PS.weak (nL (rH hcalm (CK (gr hN hv hd hcd)) hsc hnm hNl (fun cl C s H fp=>⟨hg cl C s H fp,oI,he cl C s H fp⟩) hs)) fun D σ H hq=>by
  obtain ⟨Φ,η,out,s,e,k⟩:=hq
  unfold t7 at e
  split at e
  ·rename_i l hl
   obtain ⟨⟨mv,tv⟩,ev,e1⟩:=Zz.mp e
   have hfr:mv=.fr/\out=.rt (.fr,tv) (η.set i none):=by
    cases mv with
    | fr=>cases e1;exact ⟨rfl,rfl⟩
    | pu=>cases e1
    | bo=>cases e1
   obtain ⟨rfl,rfl⟩:=hfr
   obtain ⟨v,g1,g2⟩:=s.rp _ _ hl
   obtain ⟨a,ns,vs,ts,Fs,rfl,eF,ha,hln,rfl,ra⟩:=eO g2
   have hlt:i < η.length:=(ZZ.mp hl).1
   have nd:=s.nd i _ hl
   rw [eF] at nd
   have nd':=Zd.mp nd
   refine ⟨.ref a,g1,a,ns.zip vs,rfl,ha,fun o=>?_⟩
   have mu:Mut (H a):=by rw [ha];exact True.intro
   have kp:Kept H (upd H a (.frz o (.dK (ns.zip vs)))):=Kept.upd (.inl mu)
   have es:σ.set i (some (.ref a))=σ:=by
    obtain ⟨h,e⟩:=ZZ.mp g1
    rw [← e]
    exact XF h
   have aΦ:a∈Φ i:=by rw [eF];exact Zx
   have sub:∀ b∈Fs.flatten,b∈Φ i:=fun b hb=>by rw [eF];exact Zw _ hb
   have s1:SR G (kj Φ i Fs.flatten) (η.set i (some (.pu (.dct 3 ((ns.map aO).zip ts))))) σ (upd H a (.frz o (.dK (ns.zip vs)))):=by
    have:=s.put (c:=.pu (.dct 3 ((ns.map aO).zip ts))) (v:=.ref a) (F:=Fs.flatten) (H':=upd H a (.frz o (.dK (ns.zip vs)))) hlt (.dctZ aA hln (ra.off mu nd'.1)) (fun j c' n hj w q=>q.keep kp fun b hb ob ho=>by
     rw [aD (fun z=>s.sep i j _ c' hl hj (YW n) a aΦ (by rw [← z];exact hb))];exact ho) (fun _ z=>nomatch z) (fun _ z=>nomatch z) fun j u n hj b hb hb'=>s.sep j i u _ hj hl n b hb (sub b hb')
    rw [es] at this
    exact this
   have hT:tE G (eT 1 g (oA i) none ce) σ (upd H a (.frz o (.dK (ns.zip vs)))) D.rt:=by
    refine ⟨_,_,.fr,tv,s1,ev,fun u H' F sm r f=>?_⟩
    have ee:(η.set i (some (.pu (.dct 3 ((ns.map aO).zip ts))))).set i none=η.set i none:=by rw [List.set_set]
    have sd:=(s1.drop i).same sm
    rw [ee] at sd
    have ow0:∀ b,b9 (kj Φ i Fs.flatten) (η.set i none) b->b9 Φ η b:=fun b ⟨j,t,q1,q2⟩=>by
     obtain ⟨n,q1'⟩:=cO q1
     rw [eI n] at q2
     exact ⟨j,t,q1',q2⟩
    refine k u H' F _ σ sd ⟨fun b ob h n=>?_,fun b h z=>?_,fun b h=>.inl (ow0 b h),fun b ⟨j,t,q1,q2⟩=>?_,kp.trans (Kept.of sm)⟩ r ⟨f.1,fun b hb=>.inl ?_⟩
    ·have nb:b ≠ a:=fun z=>n ⟨i,_,hl,by rw [z];exact aΦ⟩
     exact ⟨sm b ob (by rw [aD nb];exact h),fun z=>n (ow0 b z)⟩
    ·have z1:=sm.free z
     by_cases q:b=a
     ·rw [q,aA] at z1;cases z1
     ·rw [aD q] at z1;exact h z1
    ·obtain ⟨n,q1'⟩:=cO q1
     rw [eI n] at q2
     exact .inl ⟨j,t,q1',q2⟩
    ·have:=f.2 b hb
     by_cases q:b=a
     ·rw [q,aA] at this;cases this
     ·rw [aD q] at this;exact this
   obtain ⟨Φ2,η2,m2,l2,s2,e2,k2⟩:=qA (cond:=none) hin hT
   refine k2 (Itk a o (ns.zip vs)) _ [] (aN.refl _) ?_ (fun b hb=>nomatch hb)
   unfold oA at e2
   split at e2
   ·rename_i l3 h3
    split at e2
    ·rename_i hint
     cases e2
     obtain ⟨v3,q1,q2⟩:=s2.rp _ _ h3
     rw [g1] at q1
     cases q1
     obtain ⟨a3,o3,ks3,vs3,ts3,Fs3,ea3,_,ha3,hl3,rfl,ra3⟩:=oZ q2
     cases ea3
     rw [aA] at ha3
     have hz:ns.zip vs=ks3.zip vs3:=HO.dK.inj (HO.frz.inj (Zn ha3)).2
     have ek:=zip_inj hln hl3 hz
     subst ek
     have em:((ns.map aO).zip ts3).map (·.1)=ns.map aO:=Wp (by rw [Zv,hl3,ra3.len.1];exact Zl _)
     have zl:(ns.zip vs).length=ns.length:=by rw [Yy,hln,Nat.min_self]
     refine ⟨fun H2 kp2 _=>⟨fun n t hn=>?_,fun n hn=>?_⟩,fun b hb=>nomatch hb⟩
     ·rw [em,ZE] at hn
      obtain ⟨kk,hk1,hk2⟩:=Zu.mp hn
      have hnl:=(ZZ.mp hk1).1
      refine ⟨⟨kp2.frz _ _ _ aA,by rw [zl];exact hnl⟩,fun y H3 hy=>?_⟩
      obtain ⟨rfl,p,hp,rfl⟩:=hy
      refine ⟨aN.refl _,[],?_,fun b hb=>nomatch hb⟩
      have hp1:p.1=kk:=by
       have hzip:(ns.zip vs)[n]?=some p:=hp
       rw [YT] at hzip
       rw [hk1] at hzip
       exact (Zn hzip.1).symm
      have hi:isInt t=true:=by
       have:=YJ.mp hint (t,ts3[n]'(by rw [← ra3.len.1,← hl3];exact hnl)) (by
        refine YC (i:=n) ?_
        rw [YT]
        exact ⟨by rw [ZE,hk1];exact congrArg some hk2,Zm _⟩)
       exact this
      rw [hp1,← hk2]
      rw [← hk2] at hi
      cases kk with
      | inl n=>exact .int n
      | inr z=>cases hi
     ·refine ⟨kp2.frz _ _ _ aA,?_⟩
      rw [em,Zv] at hn
      rw [zl]
      exact hn
    ·cases e2
   ·cases e2
  ·cases e
end
noncomputable def zF (c:Nat):Option (Wf)->Bool
 | some (some (.ow (.obj c' (_ :: _))))=>c' == c+1
 | _=>false
noncomputable def mM (i c:Nat) (mv:List Bool) (g:Mt) (x:Xx) (cs:Exs) (η:VS.Env):Option (Val×VS.Env):=if zF c (η[i]?:Option (Wf))=true then (x η).bind fun z=>if imm z.1.2=true then (match (z.2[i]?:Option (Wf)) with
 | some (some (.ow t))=>(cs z.2).bind fun xs=>(ka c mv g ((.fr,z.1.2) :: xs) t).map fun r=>(r.2,z.2.set i (some (.ow r.1)))
 | _=>none) else none else none
section
variable {G:Gx} {X:Cx} {i c k k':Nat} {e:Expr} {es:List Expr} {cs:Exs} {m y:Str} {f:Addr} {fd:FuncData} {ps:List Str} {mv:List Bool} {g:Mt} {x:Xx} {apos pos p1:Pos}
theorem xU {pl:Sem Bool} (hn:∀ k,(G.ct (c+1)).2 k ≠ m) (hN:X.N[i]?=some y) (hv:Vis X.env.scope y) (hd:(y == ("__debug__" : Str))=false) (hcd:(y == ("__classdict__" : Str))=false) (hc:Cls X.K (G.ct (c+1)).1) (hm:Meth X.K (G.ct (c+1)).1 m f) (F:FnOk X.prog X.w X.K X.mg X.base CX0 k f fd ps (spM G c mv g)) (hr:Room k' X.A) (hk:k<=k') (hb:Binds X.K fd ps []) (h1:PX G X e x) (ha:PVs G X es cs)
  (hst:starEach (e :: es) X.env=(false,eval e X.env) :: starEach es X.env) (hpl:(backTo pos (starEach es X.env)).any (·.1)=false)
  (ht:eval (.Call (.Attribute (.Name y p1) m apos) (e :: es) [] pos) X.env=(do
   let ov ← eval (.Name y p1) X.env
   standAt apos.atName
   let (f,first) ← holding [ov] (getMethod ov m pl)
   callWith pos f first (backTo pos (starEach (e :: es) X.env)) (backToKw pos (keywordEach [] X.env)))):PX G X (.Call (.Attribute (.Name y p1) m apos) (e :: es) [] pos) (mM i c mv g x cs) :=
 PE.weak (nR (E:=E0) (gr hN hv hd hcd) hc hm F (hr.mono hk) hb .nil kf (fz h1 ha hst) hst hpl ht) fun σ H Q h=>by
  obtain ⟨Φ,η,v,η',s,e,him,kq⟩:=h
  unfold mM at e
  split at e
  ·rename_i hob
   obtain ⟨⟨v1,η1⟩,e1,e2⟩:=Zz.mp e
   split at e2
   ·rename_i him1
    unfold zF at hob
    split at hob
    ·rename_i c0 q0 fs0 h0
     have ec0:c0=c+1:=by simpa using hob
     subst ec0
     obtain ⟨v0,g1,g2⟩:=s.rp _ _ h0
     have g2':Rp G H v0 (.obj (c+1) (q0 :: fs0)) (Φ i):=g2
     obtain ⟨c',a,dx,b,ns,vs,ts,Fs,ec,rfl,eb,ef,eF,hA,hl,hbb,ra⟩:=dI g2'
     cases ec
     have key:∀ (ns:Wi) (vs:List V),((ns.map (G.ct (c+1)).2).zip vs).lookup m=none:=by
      intro ns
      induction ns with
      | nil=>intro vs;simp
      | cons n ns ih =>
       intro vs
       cases vs with
       | nil=>simp
       | cons v vs =>
        rw [Zs,Zg,Yt]
        have:(m == (G.ct (c+1)).2 n)=false:=by
         rw [ZK]
         exact fun z=>hn n z.symm
        rw [this]
        exact ih vs
     refine ⟨.ref a,g1,a,dx,_,rfl,hA,key _ _,Φ,η,v1,η1,s,e1,him1,fun u1 H1 Φ1 s1 f1 r1=>?_⟩
     dsimp only at e2
     split at e2
     ·rename_i t1 ht1
      obtain ⟨xs,el,e3⟩:=Zz.mp e2
      obtain ⟨⟨x3,y3⟩,w4,e4⟩:=Zu.mp e3
      cases e4
      obtain ⟨va,q1,w2⟩:=s1.rp _ _ ht1
      rw [g1] at q1
      cases q1
      have w3:=s1.nd i t1 ht1
      refine ⟨Φ1,η1,xs,s1,el,fun us H2 Gs sm2 rp2 fp2=>?_⟩
      show spM G c mv g (V.ref a :: ((u1 :: us)++[])) H2 Q E0
      rw [ZP]
      unfold ka at w4
      split at w4
      ·rename_i c1 b1 fs
       split at w4
       ·rename_i hcc
        obtain ⟨rfl,hno,hao,han⟩:=hcc
        obtain ⟨⟨fs',z⟩,eg,e7⟩:=Zz.mp w4
        split at e7
        ·rename_i hno'
         cases e7
         have w2':Rp G H1 (.ref a) (.obj (c+1) ((0,.bl b1) :: fs)) (Φ1 i):=w2
         obtain ⟨c2,a2,dx2,b2,ns2,vs2,ts2,Fs2,ec2,ea2,eb2,rfl,eF2,hA2,hl2,hb2,ra2⟩:=dI w2'
         cases ec2
         cases ea2
         cases eb2
         have lts:ns2.length=ts2.length:=hl2.trans ra2.len.1
         have fpl:FpL Φ1 η1 H1 ((.fr,v1.2) :: xs) ([] :: Gs):=⟨fun n v' F' a1 a2=>by
          cases n with
          | zero=>cases a1;cases a2;exact Fp.nil
          | succ n=>exact fp2.each n v' F' (by simpa using a1) (by simpa using a2),by
          show ([]++frs xs Gs).Nodup
          exact fp2.nd⟩
         have mvn:=qF hao fpl
         have rpA:RpL G H2 (u1 :: us) (trees ((.fr,v1.2) :: xs)) ([] :: Gs):=.cons (r1.same sm2) rp2
         refine ⟨a,u1 :: us,ns2.zip ts2,trees ((.fr,v1.2) :: xs),Φ1 i,[] :: Gs,fs',z,rfl,?_,rpA.at (meA a) han,?_,?_,?_,eg,fun u H' F' gc ru=>?_⟩
         ·rw [eF2]
          exact .ins (sm2 a _ hA2) hl2 (fun _=>rfl) ((ra2.same sm2).at (meA a) (eu lts hno))
         ·rw [i9 hao]
          simp [trees]
         ·refine ZO.mpr ⟨w3,fpl.nd.sublist (lB hao),fun b1 hb1 b2 hb2 z=>?_⟩
          subst z
          exact Mut.ne_none (w2.dom b1 hb1) (mvn b1 hb2)
         ·rw [nz hao rpA]
          exact fun b1 _ z=>nomatch z
         ·have back:Rp G H' (.ref a) (.obj (c+1) ((0,.bl b1) :: fs')) F':=by
           obtain ⟨c3,a3,dx3,b3,ns3,vs3,ts3,Fs3,ec3,ea3,eb3,ef3,eF3,hA3,hl3,hb3,ra3⟩:=dI gc.rp
           cases ec3
           cases ea3
           subst ef3
           rw [eF3]
           exact .ins hA3 hl3 hb2 (ra3.at G.me (eu (hl3.trans ra3.len.1) hno'.1))
          have gG:Chg G H1 (.ref a) (Φ1 i) (.obj (c+1) ((0,.bl b1) :: fs')) H' F':=⟨(Kept.of sm2).trans gc.kept,fun b1 o1 hb1 ho=>gc.keep b1 o1 (fun z=>(Zc.mp z).elim hb1 fun z=>by rw [mvn b1 z] at ho;cases ho) (sm2 b1 o1 ho),fun b1 h=>gc.dom b1 fun z=>h (sm2.free z),back,gc.nd,fun b1 hb1=>by
           rcases gc.sub b1 hb1 with z | z
           ·rcases Zc.mp z with z | z
            ·exact .inl z
            ·exact .inr (mvn b1 z)
           ·exact .inr (sm2.free z)⟩
          obtain ⟨z1,z2⟩:=s1.mut ht1 g1 gG
          exact kq u H' _ z1 (f1.trans z2) (ru.at G.me (kI z hno'.2))
        ·cases e7
       ·cases w4
      ·cases w4
     ·cases e2
    ·cases hob
   ·cases e2
  ·cases e
end
noncomputable def fnm (ns:List Str) (k:Nat):Str:=match ns[k]? with
 | some x=>x
 | none=>⟨#[k]⟩
noncomputable def gxO (ns:List Str) (K:Xd) (C D:Addr):Gx:=⟨K,fun c=>(if c=2 then D else C,fnm ns),fun _=>none⟩
theorem xT {ns:List Str} (nd:ns.Nodup) (h:∀ x∈ns,x.cps.size ≠ 1) (k k':Nat) (e:fnm ns k=fnm ns k'):k=k':=by
 unfold fnm at e
 by_cases h1:k < ns.length
 ·by_cases h2:k' < ns.length
  ·rw [Zm h1,Zm h2] at e
   exact (Wo nd).mp e
  ·rw [Zm h1,Ys (ZD h2)] at e
   have e':ns[k]=(⟨#[k']⟩:Str):=e
   exact absurd (by rw [e'];rfl) (h _ (Z8 h1))
 ·by_cases h2:k' < ns.length
  ·rw [Ys (ZD h1),Zm h2] at e
   have e':(⟨#[k]⟩:Str)=ns[k']:=e
   exact absurd (by rw [← e'];rfl) (h _ (Z8 h2))
  ·rw [Ys (ZD h1),Ys (ZD h2)] at e
   have e':(⟨#[k]⟩:Str)=⟨#[k']⟩:=e
   cases e'
   rfl
theorem xJ {ns:List Str} {K:Xd} {C D:Addr} {m:Me} (nd:ns.Nodup) (h:∀ x∈ns,x.cps.size ≠ 1):i6 ((gxO ns K C D).at m):=fun _ k k' e=>xT nd h k k' e
theorem fS {ns:List Str} {x:Str} (h:x ∉ ns) (h1:x.cps.size ≠ 1) (k:Nat):fnm ns k ≠ x:=fun e=>by
 unfold fnm at e
 split at e
 ·rename_i y hy
  exact h (e ▸ YC hy)
 ·exact h1 (by rw [← e];rfl)
theorem sD {ns:List Str} {K:Xd} {C D:Addr} {m:Me} {k:Nat} {f:Str} (hk:ns[k]?=some f) (cC:Cls K C) (cD:Cls K D) (nC:aU K C f) (nD:aU K D f):FldOk ((gxO ns K C D).at m) K k f :=
 ⟨fun c=>by show fnm ns k=f;unfold fnm;rw [hk],fun c=>by show Cls K (if c+1=2 then D else C);split <;> assumption,fun c=>by show aU K (if c+1=2 then D else C) f;split <;> assumption⟩
structure MtAt (P:Program) (w:World) (K:Xd) (mg:Wx) (base:Heap) (k:Nat) (G:Gx) (c:Nat) (x:Str) (ps:List Str) (mv:List Bool) (g:Mt):Prop where
 ex:∃ f fd,FnOk P w K mg base CX0 k f fd ps (spM G c mv g)/\Meth K (G.ct (c+1)).1 x f/\Binds K fd ps []
 cl:Cls K (G.ct (c+1)).1
 no:∀ k,(G.ct (c+1)).2 k ≠ x
structure MpAt (P:Program) (w:World) (K:Xd) (mg:Wx) (base:Heap) (k:Nat) (G:Gx) (c:Nat) (x:Str) (ps:List Str) (h:Fn):Prop where
 ex:∃ f fd,FnOk P w K mg base CX0 k f fd ps (spF G h)/\Meth K (G.ct (c+1)).1 x f/\Binds K fd ps []
 cl:Cls K (G.ct (c+1)).1
 no:∀ k,(G.ct (c+1)).2 k ≠ x
structure InAt (P:Program) (w:World) (K:Xd) (mg:Wx) (base:Heap) (k:Nat) (G:Gx) (c n:Nat) (x:Str) (ps:List Str) (g:Mt):Prop where
 ex:∃ f fd,FnOk P w K mg base CX0 k f fd ps (spM G c (List.replicate n false) g)/\Mk K (G.ct (c+1)).1 f/\Binds K fd ps []
 mg:mg x=some (.ref (G.ct (c+1)).1)
section
variable {P:Program} {w:World} {K:Xd} {mg:Wx} {base:Heap} {k c n:Nat} {G:Gx} {x:Str} {ps:List Str} {mv:List Bool} {g:Mt}
theorem MtAt.at {m:Me} (h:MtAt P w K mg base k G c x ps mv g):MtAt P w K mg base k (G.at m) c x ps mv g:=⟨h.ex,h.cl,h.no⟩
theorem InAt.at {m:Me} (h:InAt P w K mg base k G c n x ps g):InAt P w K mg base k (G.at m) c n x ps g:=⟨h.ex,h.mg⟩
theorem jP {qual:Str} {st:Stmt} {f:Addr} {fd:FuncData} {N:List Str} {np nn:Nat} {body:Sx} (F:Fun K x qual st f fd) (hm:Meth K (G.ct (c+1)).1 x f) (hc:Cls K (G.ct (c+1)).1) (hno:∀ k,(G.ct (c+1)).2 k ≠ x) (S:FnScope N ps (aj st)) (hp:ps.length=np) (hn:N.length=nn)
  (hbd:∀ (kV doc pm:Value) (an:Option Addr) (cdv ct:Value) (us:Wk),us.length=ps.length->bindArgs (PySem.W.fnOf x qual (cP st) (bf st) (aj st) .none kV doc pm an cdv ct) ⟨us,[]⟩=pure (ps.zip us))
  (hb:∀ (a:Addr) (cdv:Value) (A:Around) (outer:List PySem.Env) (s:Shared) (H:Hp) (E:XK),Room k (A.deeper (envOfC qual (aj st) s.heap.objs.size f cdv))->ip (G.at (meA a)) (iP CX0 P w K mg base N qual (aj st) f cdv A outer s H E).nox (bf st) body) :
  MtAt P w K mg base (k+1) G c x ps mv (mfn c np nn mv body):=⟨⟨f,fd,fnM F S hp hn hb,hm,F.binds hbd⟩,hc,hno⟩
theorem A8 {y qual:Str} {st:Stmt} {f:Addr} {fd:FuncData} {N:List Str} {np nn:Nat} {body:Sx} (F:Fun K y qual st f fd) (hm:Mk K (G.ct (c+1)).1 f) (hg:mg x=some (.ref (G.ct (c+1)).1)) (S:FnScope N ps (aj st)) (hp:ps.length=np) (hn:N.length=nn)
  (hbd:∀ (kV doc pm:Value) (an:Option Addr) (cdv ct:Value) (us:Wk),us.length=ps.length->bindArgs (PySem.W.fnOf y qual (cP st) (bf st) (aj st) .none kV doc pm an cdv ct) ⟨us,[]⟩=pure (ps.zip us))
  (hb:∀ (a:Addr) (cdv:Value) (A:Around) (outer:List PySem.Env) (s:Shared) (H:Hp) (E:XK),Room k (A.deeper (envOfC qual (aj st) s.heap.objs.size f cdv))->ip (G.at (meA a)) (iP CX0 P w K mg base N qual (aj st) f cdv A outer s H E).nox (bf st) body) :
  InAt P w K mg base (k+1) G c n x ps (mfn c np nn (List.replicate n false) body):=⟨⟨f,fd,fnM F S hp hn hb,hm,F.binds hbd⟩,hg⟩
theorem xH {y qual:Str} {st:Stmt} {f:Addr} {fd:FuncData} {N:List Str} {np nn:Nat} {body:Sx} (F:FunD K y qual st f fd) (hm:Mk K (G.ct (c+1)).1 f) (hg:mg x=some (.ref (G.ct (c+1)).1)) (S:FnScope N ps (aj st)) (hp:ps.length=np) (hn:N.length=nn)
  (hbd:∀ (s:Shared) (T:Addr) (kV doc pm:Value) (an:Option Addr) (cdv ct:Value) (o:Obj) (n:Nat) (us:Wk),K.In s.heap->K.lookup T=some o->o.data=.seq #[.none] n->us.length=ps.length->BindsTo s (PySem.W.fnOf y qual (cP st) (bf st) (aj st) (.ref T) kV doc pm an cdv ct) ⟨us,[]⟩ (ps.zip us))
  (hb:∀ (a:Addr) (cdv:Value) (A:Around) (outer:List PySem.Env) (s:Shared) (H:Hp) (E:XK),Room k (A.deeper (envOfC qual (aj st) s.heap.objs.size f cdv))->ip (G.at (meA a)) (iP CX0 P w K mg base N qual (aj st) f cdv A outer s H E).nox (bf st) body) :
  InAt P w K mg base (k+1) G c n x ps (mfn c np nn (List.replicate n false) body):=⟨⟨f,fd,BH (fun l b=>F.ok S l b) hp hn hb,hm,F.binds hbd⟩,hg⟩
theorem ly {qual:Str} {st:Stmt} {f:Addr} {fd:FuncData} {N:List Str} {np nn:Nat} {body:Sx} (F:Fun K x qual st f fd) (hm:Meth K (G.ct (c+1)).1 x f) (hc:Cls K (G.ct (c+1)).1) (hno:∀ k,(G.ct (c+1)).2 k ≠ x) (S:FnScope N ps (aj st)) (hp:ps.length=np) (hn:N.length=nn)
  (hbd:∀ (kV doc pm:Value) (an:Option Addr) (cdv ct:Value) (us:Wk),us.length=ps.length->bindArgs (PySem.W.fnOf x qual (cP st) (bf st) (aj st) .none kV doc pm an cdv ct) ⟨us,[]⟩=pure (ps.zip us))
  (hb:∀ (cdv:Value) (A:Around) (outer:List PySem.Env) (s:Shared) (H:Hp) (E:XK),Room k (A.deeper (envOfC qual (aj st) s.heap.objs.size f cdv))->ip G (iP CX0 P w K mg base N qual (aj st) f cdv A outer s H E).nox (bf st) body) :
  MpAt P w K mg base (k+1) G c x ps (fn np nn body):=⟨⟨f,fd,fnV F S hp hn hb,hm,F.binds hbd⟩,hc,hno⟩
theorem yt {k:Nat} {f:Addr} {fd:FuncData} {y:Str} {g:Fn} (hK:G.K=K) (F:FnOk P w K mg base CX0 k f fd [y] (spF G g)) (hg:∀ ns:Wh,g [.scr ns]=some (.fr,.bl true)) :
  FnOk P w K mg base CX0 k f fd [y] (spF (gx0 K) yG):=F.imp fun vs H Q E h=>by
 obtain ⟨ts,Fs,m,r,h1,h2,q⟩:=h
 unfold yG at h2
 split at h2
 ·rename_i ns
  cases h2
  cases h1 with
  | cons r1 r2 =>
   cases r2
   cases r1 with
   | scr hs=>exact ⟨[.scr ns],[[]],.fr,.bl true,.cons (.scr (by rw [hK];exact hs)) .nil,hg ns,fun v H' F e1 r f1=>q v H' F e1 (by cases r;exact .bl _) f1⟩
 ·cases h2
end
section
variable {G:Gx} {X:Cx} {i j c k k' kr n:Nat} {way:List Stp} {o e b:Expr} {es:List Expr} {cs:Exs} {ca ck ce:Ex} {m x:Str} {ps:List Str} {mv:List Bool} {g:Mt} {h:Fn} {xc:Xx} {f:Str} {apos cpos pos pos' p p1:Pos}
theorem gP {pl:Sem Bool} (J:i6 G) (F:MtAt X.prog X.w X.K X.mg X.base k G c m ps mv g) (hr:Room k' X.A) (hk:k<=k') (ho:PPl G X o i way) (ha:PVs G X (e :: es) cs)
  (hst:starEach (e :: es) X.env=(false,eval e X.env) :: starEach es X.env) (hpl:(backTo pos (starEach es X.env)).any (·.1)=false)
  (ht:eval (.Call (.Attribute o m apos) (e :: es) [] pos) X.env=(do
   let ov ← eval o X.env
   standAt apos.atName
   let (f,first) ← holding [ov] (getMethod ov m pl)
   callWith pos f first (backTo pos (starEach (e :: es) X.env)) (backToKw pos (keywordEach [] X.env)))):PX G X (.Call (.Attribute o m apos) (e :: es) [] pos) (bA i way c mv g cs):=by
 obtain ⟨f,fd,h1,h2,h3⟩:=F.ex
 exact xX J F.no ho F.cl h2 h1 hr hk h3 ha hst hpl ht
theorem wA {pl:Sem Bool} (J:i6 G) (F:MtAt X.prog X.w X.K X.mg X.base k G c m ps mv g) (hr:Room k' X.A) (hk:k<=k') (ho:PPl G X o i way)
  (ht:eval (.Call (.Attribute o m apos) [] [] pos) X.env=(do
   let ov ← eval o X.env
   standAt apos.atName
   let (f,first) ← holding [ov] (getMethod ov m pl)
   callWith pos f first (backTo pos (starEach [] X.env)) (backToKw pos (keywordEach [] X.env)))):PX G X (.Call (.Attribute o m apos) [] [] pos) (bA i way c mv g ai):=by
 obtain ⟨f,fd,h1,h2,h3⟩:=F.ex
 exact t4 J F.no ho F.cl h2 h1 hr hk h3 ht
theorem Ae {pl:Sem Bool} (F:MtAt X.prog X.w X.K X.mg X.base k G c m ps mv g) (hr:Room k' X.A) (hk:k<=k') (hN:X.N[i]?=some x) (hv:Vis X.env.scope x) (hd:(x == ("__debug__" : Str))=false) (hcd:(x == ("__classdict__" : Str))=false) (h1:PX G X e xc) (ha:PVs G X es cs)
  (hst:starEach (e :: es) X.env=(false,eval e X.env) :: starEach es X.env) (hpl:(backTo pos (starEach es X.env)).any (·.1)=false)
  (ht:eval (.Call (.Attribute (.Name x p1) m apos) (e :: es) [] pos) X.env=(do
   let ov ← eval (.Name x p1) X.env
   standAt apos.atName
   let (f,first) ← holding [ov] (getMethod ov m pl)
   callWith pos f first (backTo pos (starEach (e :: es) X.env)) (backToKw pos (keywordEach [] X.env)))):PX G X (.Call (.Attribute (.Name x p1) m apos) (e :: es) [] pos) (mM i c mv g xc cs):=by
 obtain ⟨f,fd,h2,h3,h4⟩:=F.ex
 exact xU F.no hN hv hd hcd F.cl h3 h2 hr hk h4 h1 ha hst hpl ht
theorem wW {pl:Sem Bool} (F:MpAt X.prog X.w X.K X.mg X.base k G c m ps h) (hr:Room k' X.A) (hk:k<=k') (ho:PV G X o ca) (ha:PVs G X (e :: es) cs)
  (hst:starEach (e :: es) X.env=(false,eval e X.env) :: starEach es X.env) (hpl:(backTo pos (starEach es X.env)).any (·.1)=false)
  (ht:eval (.Call (.Attribute o m apos) (e :: es) [] pos) X.env=(do
   let ov ← eval o X.env
   standAt apos.atName
   let (f,first) ← holding [ov] (getMethod ov m pl)
   callWith pos f first (backTo pos (starEach (e :: es) X.env)) (backToKw pos (keywordEach [] X.env)))):PV G X (.Call (.Attribute o m apos) (e :: es) [] pos) (eV c h ca cs):=by
 obtain ⟨f,fd,h1,h2,h3⟩:=F.ex
 exact AX F.no ho F.cl h2 h1 hr hk h3 ha hst hpl ht
theorem k9 {pl:Sem Bool} (F:MpAt X.prog X.w X.K X.mg X.base k G c m ps h) (hr:Room k' X.A) (hk:k<=k') (ho:PV G X o ca)
  (ht:eval (.Call (.Attribute o m apos) [] [] pos) X.env=(do
   let ov ← eval o X.env
   standAt apos.atName
   let (f,first) ← holding [ov] (getMethod ov m pl)
   callWith pos f first (backTo pos (starEach [] X.env)) (backToKw pos (keywordEach [] X.env)))):PV G X (.Call (.Attribute o m apos) [] [] pos) (eV c h ca ai):=by
 obtain ⟨f,fd,h1,h2,h3⟩:=F.ex
 exact xm F.no ho F.cl h2 h1 hr hk h3 ht
theorem Cy {e:Ex}:∀ (η:VS.Env) (xs:We),ae e ai η=some xs->xs.length=1:=fun η xs h=>by
 obtain ⟨a,_,h⟩:=Zz.mp h
 cases h
 rfl
theorem A4 (F:InAt X.prog X.w X.K X.mg X.base k G c n x ps g) (hr:Room k' X.A) (hk:k+1<=k') (ha:PVs G X (e :: es) cs) (hn:∀ η xs,cs η=some xs->xs.length=n) (hg:Gl X x)
  (hdb:(x == ("__debug__" : Str))=false) (he:starEach (e :: es) X.env=(false,eval e X.env) :: starEach es X.env) (hpl:(backTo pos (starEach es X.env)).any (·.1)=false):PV G X (.Call (.Name x p) (e :: es) [] pos) (eNew c g cs):=by
 obtain ⟨f,fd,h1,h2,h3⟩:=F.ex
 exact Cs n h2 h1 hr hk hg F.mg h3 ha hn hdb he hpl
theorem wD (F:InAt X.prog X.w X.K X.mg X.base k G c 0 x ps g) (hr:Room k' X.A) (hk:k+1<=k') (hg:Gl X x) (hdb:(x == ("__debug__" : Str))=false):PV G X (.Call (.Name x p) [] [] pos) (eNew c g ai):=by
 obtain ⟨f,fd,h1,h2,h3⟩:=F.ex
 exact Ax h2 h1 hr hk hg F.mg h3 hdb
theorem nI (J:i6 G) (ho:PPl G X o i way) (ha:PVs G X [e] cs) (hK:X.K=G.K)
  (hbase:attributeBase o "append" X.env (eval o X.env)=eval o X.env)
  (hfew:((backTo cpos (starEach [e] X.env)).all (fun x=>!x.1) && (backToKw cpos (keywordEach [] X.env)).all (fun x=>x.1.isSome)
   && decide ([e].length+([]:List Keyword).length+(if ([]:List Keyword).isEmpty then 0 else 1) < 30))=true)
  (hline:(apos.endLine == cpos.line)=true) (hs:starEach [e] X.env=(false,eval e X.env) :: starEach [] X.env) (hplain:(backTo cpos (starEach [] X.env)).any (·.1)=false)
  (hsw:swapsWith (.Call (.Attribute o "append" apos) [e] [] cpos) none pos.line X.env=pure false) :
  PSV G X (.Expr (.Call (.Attribute o "append" apos) [e] [] cpos) pos) (sX (g5 i way aJ cs)) :=
 t6 J XX XZ Xa iG ma (fun H v t F l z r h=>j9 r h) ho ha hK hbase hfew hline hs hplain hsw
end
inductive Ia where | io (i:Nat) (un:Bool) | ex (c:Ex)
noncomputable abbrev Xt:=VS.Env->Option (Bool×VS.Env)
end VS
end
section
namespace VS
open PySem PySem.Spec PyProof.Rows L2
noncomputable def x2 (f:Val->Val->Wc) (a b:Xx):Xx:=fun η=>(a η).bind fun z=>(b z.2).bind fun w=>(f (.fr,z.1.2) (.fr,w.1.2)).bind fun v=>if imm z.1.2=true/\imm w.1.2=true/\imm v.2=true then some ((.fr,v.2),w.2) else none
inductive Ix where | io (i:Nat) (un:Bool) | px (x:Xx)
end VS
end
section
namespace T58
open VS
noncomputable def aI:Mt:=mfn 0 4 4 [false,false,true]
  (ak (sX (g5 0 [.fld 1] aJ (ae (aa 1) ai)))
  (ak (sX (g5 0 [.fld 2] aJ (ae (aa 2) ai)))
  (ak (kZ 0 [.fld 3] 3)
  (dN (e2 i7 (eN bX (ae (aV 1 (aa 0)) ai)) (Q2 1))))))
noncomputable def c9:Mt:=mfn 0 1 1 (List.replicate 0 false)
  (ak (iC 0 1 (g6 ai))
  (ak (iC 0 2 (g6 ai))
  (ak (iC 0 3 (g6 ai))
  (sXM (bA 0 [] 0 [false,false,true] aI (ae (Q2 0) (ae (eC .non) (ae (kJ 0 []) ai))))))))
noncomputable def bL:Sx :=
  (ak (eU 0 [.fld 3,.ix (aa 1)] (aa 2) (aa 5))
  (aC 1 (e2 aB (aV 2 (aa 0)) (aa 1))))
noncomputable def av:Mt:=mfn 0 3 6 [false,false]
  (ak (aC 3 (e2 oIx (e2 aB (aV 3 (aa 0)) (aa 1)) (aa 2)))
  (ak (aC 4 (e2 bD (e2 aB (aV 1 (aa 0)) (aa 1)) (Q2 1)))
  (ak (sIf (e2 oEq (e2 aB (aV 1 (aa 0)) (aa 3)) (aa 4)) (gE 3) dF)
  (ak (ic 5 (bA 0 [] 0 [false,false,true] aI (ae (aa 4) (ae (e2 aB (aV 2 (aa 0)) (aa 3)) (ae (eN jS (ae (e2 aB (aV 3 (aa 0)) (aa 3)) ai)) ai)))))
  (ak (eU 0 [.fld 2] (aa 3) (aa 5))
  (ak (j5 (gx (fX (aa 1)) (e2 oEq (e2 rY (e2 aB (aV 3 (aa 0)) (aa 1)) (aa 2)) (aa 3))) bL)
  (gE 5)))))))
noncomputable def bK:Sx :=
  (ak (eU 0 [.fld 3,.ix (aa 4)] (aa 2) (aa 3))
  (aC 4 (e2 aB (aV 2 (aa 0)) (aa 4))))
noncomputable def bH:Mt:=mfn 0 3 5 [false,false]
  (ak (sIf (e2 kS (aa 2) (e2 aB (aV 3 (aa 0)) (aa 1))) (mP (bA 0 [] 0 [false,false] av (ae (aa 1) (ae (aa 2) ai)))) dF)
  (ak (ic 3 (bA 0 [] 0 [false,false,true] aI (ae (e2 bD (e2 aB (aV 1 (aa 0)) (aa 1)) (Q2 1)) (ae (Q2 0) (ae (kJ 0 []) ai)))))
  (ak (aC 4 (aa 1))
  (ak (j5 (gx (fX (aa 4)) (e2 dm (aa 2) (e2 aB (aV 3 (aa 0)) (aa 4)))) bK)
  (ak (sIf (fX (aa 4)) (iS 0 [.fld 2] (aa 3) (bA 0 [] 0 [false,false] av (ae (aa 4) (ae (aa 2) ai)))) dF)
  (gE 3))))))
noncomputable def bW:Sx :=
  (ic 1 (bA 0 [] 0 [false,false] bH (ae (aa 1) (ae (aa 3) ai))))
noncomputable def aP:Mt:=mfn 0 3 4 [false,false]
  (ak (fJ (bF 3) (g8 (aa 2)) bW)
  (gE 1))
noncomputable def br:Sx :=
  (sIf (e2 dm (e2 oIx (aa 4) (aa 5)) (aa 1)) (ak (kg 1 (e2 oIx (aa 4) (aa 5)) (eN bX (ae (aa 2) ai)))
  (sX (lW 2 [] aJ (ae (e2 oIx (aa 4) (aa 5)) ai)))) dF)
noncomputable def bQ:Sx :=
  (ak (aC 4 (e2 aB (aV 3 (aa 0)) (e2 aB (aa 2) (aa 3))))
  (ak (fJ (bF 5) (g8 (eN gu (ae (aa 4) ai))) br)
  (aC 3 (e2 bD (aa 3) (Q2 1)))))
noncomputable def aH:Fn:=fn 1 6
  (ak (kX 1 (kJ 0 [((Q2 0),(Q2 0))]))
  (ak (kX 2 (g6 (ae (Q2 0) ai)))
  (ak (aC 3 (Q2 0))
  (ak (j5 (e2 oLt (aa 3) (eN bX (ae (aa 2) ai))) bQ)
  (ak (tf 2)
  (gE 1))))))
noncomputable def bU:Fn:=fn 3 6
  (ak (aC 3 (e2 aB (aV 2 (aa 0)) (aa 1)))
  (ak (aC 4 (e2 aB (aV 3 (aa 0)) (aa 1)))
  (ak (aC 5 (eN iH (ae (eT 1 (bF 0) (g8 (eN gu (ae (aa 4) ai))) none (lH (ae (aa 0) (ae (e2 m8 (aa 3) (e2 oIx (aa 5) (aa 0))) ai)))) ai)))
  (ak (sIf (yy (aa 3)) (dN (lH (ae (Q2 0) (ae (Q2 0) (ae (eC .non) (ae (aa 5) ai)))))) dF)
  (dN (lH (ae (e2 bD (e2 aB (aV 1 (aa 0)) (aa 3)) (Q2 1)) (ae (e2 aB (aV 1 (aa 0)) (aa 1)) (ae (e2 m8 (aa 2) (aa 3)) (ae (aa 5) ai))))))))))
noncomputable def dh:Fn:=fn 1 2
  (ak (kX 1 (eV 0 aH (aa 0) ai))
  (t7 1 (bF 0) (eV 0 bU (aa 1) (ae (aa 0) (ae (aa 2) ai)))))
noncomputable def bx:Mt:=mfn 1 1 1 []
  (ak (sIf (e2 oGe (eN bX (ae (aV 4 (aa 0)) ai)) (Q2 8)) sNo dF)
  (ak (sX (g5 0 [.fld 4] aJ (ae (eC (.str [])) ai)))
  (ak (sX (g5 0 [.fld 5] aJ (ae (Q2 0) ai)))
  (dN (e2 i7 (eN bX (ae (aV 4 (aa 0)) ai)) (Q2 1))))))
noncomputable def fG:Fn:=fn 1 1
  (dN (gx (eIs .int (aa 0)) (lU (eIs .bool (aa 0)))))
noncomputable def bh:Fn:=fn 2 2
  (sIf (eOr (lU (aL fG (ae (aa 1) ai))) (lU (i5 oLe oLt (Q2 0) (aa 1) (eN bX (ae (aa 0) ai))))) sNo dF)
noncomputable def fL:Fn:=fn 1 1
  (dN (eN oQ (ae (eT 1 (bF 0) (g8 (aa 0)) none (eN bX (ae (aa 0) ai))) ai)))
noncomputable def bu:Mt:=mfn 1 3 3 [false,false]
  (ak (sX (xP (aL bh (ae (aV 4 (aa 0)) (ae (aa 1) ai)))))
  (ak (sIf (e2 oGt (e2 bD (aL fL (ae (aV 4 (aa 0)) ai)) (eN bX (ae (aa 2) ai))) (Q2 120)) sNo dF)
  (ak (iS 0 [.fld 5] (aa 1) (bA 0 [.fld 6] 0 [false,false] aP (ae (e2 aB (aV 5 (aa 0)) (aa 1)) (ae (aa 2) ai))))
  (eU 0 [.fld 4] (aa 1) (e2 bD (e2 aB (aV 4 (aa 0)) (aa 1)) (aa 2))))))
noncomputable def bz:Sx :=
  (sXM (mM 0 1 [false,false] bu (bA 0 [] 1 [] bx ai) (ae (aa 2) ai)))
noncomputable def aT:Mt:=mfn 1 2 3 (List.replicate 1 false)
  (ak (iC 0 4 (g6 ai))
  (ak (iC 0 5 (g6 ai))
  (ak (iC 0 6 (eNew 0 c9 ai))
  (sIf (fX (aa 1)) (fJ (bF 2) (g8 (aa 1)) bz) dF))))
noncomputable def lI:Fn:=fn 1 1
  (dN (eN lC (ae (aV 4 (aa 0)) ai)))
noncomputable def bZ:Fn:=fn 1 1
  (dN (eV 0 dh (aV 6 (aa 0)) ai))
noncomputable def bG:Fn:=fn 2 2
  (sIf (eOr (lU (aL fG (ae (aa 1) ai))) (lU (i5 oLe oLt (Q2 0) (aa 1) (eN bX (ae (aa 0) ai))))) sNo dF)
noncomputable def dQ:Sx :=
  (sIf (e2 oEq (e2 aB (e2 aB (aa 0) (e2 aB (aa 4) (Q2 1))) (Q2 1)) (e2 bD (e2 aB (aa 3) (Q2 1)) (Q2 1))) (kg 1 (e2 aB (aa 4) (Q2 1)) (lH (ae (aa 2) (ae (e2 aB (aa 4) (Q2 0)) ai)))) dF)
noncomputable def gn:Sx :=
  (fJ (bF 4) (g8 (e2 aB (aa 3) (Q2 3))) dQ)
noncomputable def dJ:Fn:=fn 1 5
  (ak (kX 1 (kJ 0 []))
  (ak (fJ (nX [(bF 2),(bF 3)]) (qB (aa 0)) gn)
  (gE 1)))
noncomputable def jh:Sx :=
  (ak (aC 4 (e2 oIx (aa 2) (aa 1)))
  (ak (aC 3 (e2 bD (e2 aB (aa 4) (Q2 1)) (aa 3)))
  (aC 1 (e2 aB (aa 4) (Q2 0)))))
noncomputable def fD:Fn:=fn 2 5
  (ak (sX (xP (aL bG (ae (aa 0) (ae (aa 1) ai)))))
  (ak (aC 2 (aL dJ (ae (aa 0) ai)))
  (ak (aC 3 (eC (.str [])))
  (ak (j5 (e2 oNe (aa 1) (Q2 0)) jh)
  (gE 3)))))
noncomputable def jD:Fn:=fn 2 3
  (ak (aC 2 (aL fD (ae (aa 0) (ae (aa 1) ai))))
  (dN (eT 1 (bF 0) (iN (e2 aB (e2 aB (aa 0) (aa 1)) (Q2 0)) (e2 bD (e2 aB (e2 aB (aa 0) (aa 1)) (Q2 1)) (Q2 1))) none (eSl (aa 3) (some (e2 i7 (eN bX (ae (aa 3) ai)) (aa 0))) none))))
noncomputable def d2:Fn:=fn 2 2
  (ak (sIf (e2 oLt (aa 1) (eN bX (ae (aa 0) ai))) (dN (e2 aB (aa 0) (aa 1))) dF)
  (dN (Q2 0)))
noncomputable def au:Fn:=fn 2 4
  (ak (aC 2 (Q2 7))
  (ak (sIf (e2 oGt (eN bX (ae (aa 0) ai)) (Q2 0)) (aC 2 (e2 aB (aa 0) (e2 oMod (aa 1) (eN bX (ae (aa 0) ai))))) dF)
  (ak (aC 3 (e2 oMod (e2 d5 (e2 bD (e2 bD (e2 oMod (aa 2) (Q2 2147483629)) (e2 d5 (Q2 40503) (aa 1))) (Q2 1)) (Q2 48271)) (Q2 2147483647)))
  (ak (aC 3 (e2 oMod (e2 d5 (aa 3) (aa 3)) (Q2 2147483629)))
  (ak (aC 3 (e2 oMod (e2 d5 (e2 bD (aa 3) (aa 1)) (Q2 69621)) (Q2 2147483587)))
  (dN (e2 gm (e2 oMod (e2 d5 (aa 3) (aa 3)) (Q2 2147483563)) (Q2 3))))))))
noncomputable def bO:Fn:=fn 1 3
  (ak (aC 1 (e2 oMod (aa 0) (Q2 26)))
  (ak (aC 2 (e2 aB (g6 (ae (Q2 1) (ae (Q2 3) (ae (Q2 5) (ae (Q2 7) (ae (Q2 9) ai)))))) (e2 oMod (e2 gm (aa 0) (Q2 26)) (Q2 5))))
  (dN (eT 1 (bF 0) (c6 (Q2 26)) none (e2 aB (eC (.str [97,98,99,100,101,102,103,104,105,106,107,108,109,110,111,112,113,114,115,116,117,118,119,120,121,122])) (e2 oMod (e2 bD (aa 2) (e2 d5 (aa 3) (aa 0))) (Q2 26)))))))
noncomputable def dw:Sx :=
  (ak (aC 8 (e2 bD (aa 8) (e2 aB (aa 1) (e2 oMod (aa 0) (aa 2)))))
  (aC 0 (e2 gm (aa 0) (aa 2))))
noncomputable def cA:Sx :=
  (ak (aC 7 (eN oF (ae (aa 4) (ae (e2 oMod (aa 0) (Q2 25)) ai))))
  (ak (aC 0 (e2 gm (aa 0) (Q2 25)))
  (ak (aC 4 (e2 i7 (aa 4) (aa 7)))
  (ak (aC 8 (eC (.str [])))
  (ak (fJ (bF 9) (c6 (aa 7)) dw)
  (sX (lW 5 [] aJ (ae (aa 8) ai))))))))
noncomputable def cF:Fn:=fn 1 10
  (ak (aC 1 (aL bO (ae (aa 0) ai)))
  (ak (aC 2 (e2 aB (g6 (ae (Q2 1) (ae (Q2 2) (ae (Q2 3) (ae (Q2 4) (ae (Q2 2) (ae (Q2 3) (ae (Q2 4) (ae (Q2 26) ai))))))))) (e2 oMod (e2 gm (aa 0) (Q2 130)) (Q2 8))))
  (ak (aC 3 (e2 oMod (e2 gm (aa 0) (Q2 1040)) (Q2 5)))
  (ak (aC 0 (e2 gm (aa 0) (Q2 5200)))
  (ak (aC 4 (Q2 24))
  (ak (kX 5 (g6 ai))
  (ak (fJ (bF 6) (c6 (aa 3)) cA)
  (gE 5))))))))
noncomputable def cy:Sx :=
  (ak (aC 11 (aL au (ae (aa 0) (ae (e2 bD (e2 bD (e2 d5 (Q2 20) (aa 6)) (Q2 6)) (aa 10)) ai))))
  (sIf (gx (e2 oGe (eN bX (ae (aa 9) ai)) (aa 8)) (e2 oGt (e2 oMod (aa 11) (Q2 4)) (Q2 0))) (aC 9 (e2 bD (aa 9) (e2 aB (aa 9) (e2 i7 (eN bX (ae (aa 9) ai)) (aa 8))))) (aC 9 (e2 bD (aa 9) (e2 aB (aa 2) (e2 oMod (e2 gm (aa 11) (Q2 4)) (aa 3)))))))
noncomputable def cB:Sx :=
  (ak (aC 7 (eN oF (ae (aa 4) (ae (e2 oMod (aL au (ae (aa 0) (ae (e2 bD (e2 d5 (Q2 20) (aa 6)) (Q2 4)) ai))) (e2 bD (aa 1) (Q2 1))) ai))))
  (ak (aC 4 (e2 i7 (aa 4) (aa 7)))
  (ak (aC 8 (e2 bD (Q2 1) (e2 oMod (aL au (ae (aa 0) (ae (e2 bD (e2 d5 (Q2 20) (aa 6)) (Q2 5)) ai))) (Q2 5))))
  (ak (aC 9 (eC (.str [])))
  (ak (fJ (bF 10) (c6 (aa 7)) cy)
  (ak (sX (lW 5 [] aJ (ae (aa 9) ai)))
  (sIf (gx (e2 oGt (aa 7) (Q2 2)) (gx (e2 oEq (e2 oMod (aL au (ae (aa 0) (ae (e2 bD (e2 d5 (Q2 20) (aa 6)) (Q2 5)) ai))) (Q2 3)) (Q2 0)) (e2 oGe (aa 4) (Q2 2)))) (ak (sX (lW 5 [] aJ (ae (eSl (aa 9) (some (Q2 1)) (some (Q2 3))) ai)))
  (aC 4 (e2 i7 (aa 4) (Q2 2)))) dF)))))))
noncomputable def cG:Fn:=fn 2 12
  (ak (aC 2 (aL bO (ae (aL au (ae (aa 0) (ae (Q2 1) ai))) ai)))
  (ak (aC 3 (e2 aB (g6 (ae (Q2 1) (ae (Q2 2) (ae (Q2 3) (ae (Q2 4) (ae (Q2 2) (ae (Q2 3) (ae (Q2 9) (ae (Q2 26) ai))))))))) (e2 oMod (aL au (ae (aa 0) (ae (Q2 2) ai))) (Q2 8))))
  (ak (aC 4 (aa 1))
  (ak (kX 5 (g6 ai))
  (ak (fJ (bF 6) (c6 (e2 oMod (aL au (ae (aa 0) (ae (Q2 3) ai))) (Q2 6))) cB)
  (ak (tf 5)
  (dN (eSl (aa 5) none (some (Q2 8))))))))))
noncomputable def dy:Fn:=fn 1 4
  (ak (aC 1 (aL bO (ae (aL au (ae (aa 0) (ae (Q2 1) ai))) ai)))
  (ak (aC 2 (e2 oR (e2 aB (aa 1) (Q2 0)) (e2 bD (Q2 100) (e2 oMod (aL au (ae (aa 0) (ae (Q2 2) ai))) (Q2 21)))))
  (ak (sIf (e2 oEq (e2 oMod (aL au (ae (aa 0) (ae (Q2 3) ai))) (Q2 2)) (Q2 0)) (ak (aC 3 (e2 oMod (aL au (ae (aa 0) (ae (Q2 4) ai))) (eN bX (ae (aa 2) ai))))
  (aC 2 (e2 bD (e2 bD (eSl (aa 2) none (some (aa 3))) (e2 aB (aa 1) (Q2 1))) (eSl (aa 2) (some (e2 bD (aa 3) (Q2 1))) none)))) dF)
  (dN (g6 (ae (aa 2) ai))))))
noncomputable def fY:Fn:=fn 2 2
  (ak (sIf (e2 oEq (e2 oMod (aL d2 (ae (aa 0) (ae (Q2 0) ai))) (Q2 2)) (Q2 0)) (dN (aL cF (ae (e2 gm (aL d2 (ae (aa 0) (ae (Q2 0) ai))) (Q2 2)) ai))) dF)
  (ak (sIf (gx (e2 oGt (aa 1) (Q2 30)) (e2 oEq (e2 oMod (aL au (ae (aa 0) (ae (Q2 5) ai))) (Q2 16)) (Q2 0))) (dN (aL dy (ae (aa 0) ai))) dF)
  (dN (aL cG (ae (aa 0) (ae (e2 aB (g6 (ae (Q2 24) (ae (Q2 24) (ae (Q2 24) (ae (aa 1) ai))))) (e2 oMod (aL au (ae (aa 0) (ae (Q2 0) ai))) (Q2 4))) ai))))))
noncomputable def fW:Sx :=
  (sIf (e2 oEq (eSl (aa 4) (some (e2 i7 (aa 5) (eN bX (ae (aa 1) ai)))) (some (aa 5))) (aa 1)) (sX (lW 2 [] aJ (ae (lH (ae (aa 3) (ae (eSl (aa 4) (some (aa 5)) none) ai))) ai))) dF)
noncomputable def iq:Sx :=
  (fJ (bF 5) (iN (eN bX (ae (aa 1) ai)) (e2 bD (eN bX (ae (aa 4) ai)) (Q2 1))) fW)
noncomputable def eR:Fn:=fn 2 6
  (ak (kX 2 (g6 ai))
  (ak (fJ (nX [(bF 3),(bF 4)]) (qB (aa 0)) iq)
  (ak (tf 2)
  (dN (eN iH (ae (aa 2) ai))))))
noncomputable def oh:Sx :=
  (sIf (e2 oNe (aL eR (ae (aa 1) (ae (aa 7) ai))) (aa 6)) (dN (eC (.bl false))) dF)
noncomputable def oG:Sx :=
  (ak (aC 6 (aL eR (ae (aa 1) (ae (aL fD (ae (aa 2) (ae (aa 5) ai))) ai))))
  (ak (sIf (e2 rU (aa 6) (aa 4)) (dN (eC (.bl false))) dF)
  (ak (rD 4 (aa 6) (aa 5))
  (fJ (bF 7) (g8 (aL jD (ae (aa 2) (ae (aa 5) ai)))) oh))))
noncomputable def vA:Fn:=fn 1 9
  (ak (aC 1 (aL fY (ae (aa 0) (ae (Q2 40) ai))))
  (ak (aC 2 (eV 1 bZ (eNew 1 aT (ae (eN lC (ae (aa 1) ai)) ai)) ai))
  (ak (aC 3 (eN oQ (ae (eT 1 (bF 0) (g8 (aa 1)) none (eN bX (ae (aa 0) ai))) ai)))
  (ak (kX 4 (kJ 2 []))
  (ak (fJ (bF 5) (c6 (eN bX (ae (aa 2) ai))) oG)
  (ak (tf 4)
  (ak (aC 8 (eN oQ (ae (eT 1 (bF 0) (g8 (aa 2)) none (eN bX (ae (e2 aB (aa 0) (Q2 3)) ai))) ai)))
  (ak (sIf (e2 oEq (aa 3) (Q2 0)) (dN (gx (e2 oEq (eN bX (ae (aa 2) ai)) (Q2 1)) (e2 oEq (aa 8) (Q2 0)))) dF)
  (dN (gx (e2 oLe (eN bX (ae (aa 2) ai)) (e2 d5 (Q2 2) (aa 3))) (e2 oLt (aa 8) (e2 d5 (Q2 3) (aa 3)))))))))))))
end T58
end
section
namespace VS
theorem e2v {f:Val->Val->Wc} {a b:Ex} {η:Env} {x y z:Val} (h1:a η=some x) (h2:b η=some y) (h3:f x y=some z):e2 f a b η=some z:=by
 show (a η).bind _=_
 rw [h1,Zt,h2]
 exact h3
theorem xv {a:Ex} {r:Exs} {η:Env} {x:Val} {xs:We} (h1:a η=some x) (h2:r η=some xs):ae a r η=some (x :: xs):=by
 show (a η).bind _=_
 rw [h1,Zt,h2]
 rfl
theorem sG {c:Ex} {a b:Sx} {η:Env} {m:Md} (h:c η=some (m,.bl true)):sIf c a b η=a η:=by
 show (c η).bind _=_
 rw [h]
 rfl
theorem pw {c:Ex} {a b:Sx} {η:Env} {m:Md} (h:c η=some (m,.bl false)):sIf c a b η=b η:=by
 show (c η).bind _=_
 rw [h]
 rfl
theorem gL {f:We->Wc} {as:Exs} {η:Env} {xs:We} {v:Val} (h:as η=some xs) (h2:f xs=some v):eN f as η=some v:=by
 show (as η).bind f=_
 rw [h,Zt,h2]
theorem df {e:Ex} {η:Env} {t:T} (h:e η=some (.fr,t)):dN e η=some (.rt (.fr,t) η):=by
 show (e η).bind _=_
 rw [h]
 rfl
theorem gQ {a b:Sx} {η η1:Env} {v:Val} (h:a η=some (.rt v η1)):ak a b η=some (.rt v η1):=by
 show (a η).bind _=_
 rw [h]
 rfl
theorem aG {a b:Sx} {η η1:Env} (h:a η=some (.nx η1)):ak a b η=b η1:=by
 show (a η).bind _=_
 rw [h]
 rfl
theorem sq {a b:Sx} {η η1:Env} {r:Option Out} (h:a η=some (.nx η1)) (q:b η1=r):ak a b η=r:=(aG h).trans q
theorem ift {c:Ex} {a b:Sx} {η:Env} {m:Md} {r:Option Out} (h:c η=some (m,.bl true)) (q:a η=r):sIf c a b η=r:=(sG h).trans q
theorem ko {c:Ex} {a b:Sx} {η:Env} {m:Md} {r:Option Out} (h:c η=some (m,.bl false)) (q:b η=r):sIf c a b η=r:=(pw h).trans q
theorem dZ {np nn:Nat} {b:Sx} {ts:Wb} {v:Val} {η:Env} (hl:ts.length=np) (h:b (ts.map (fun t=>some (.pu t))++List.replicate (nn - np) none)=some (.rt v η)):fn np nn b ts=some v:=by
 unfold fn
 rw [Zr hl,h]
 rfl
theorem BY {np nn:Nat} {b:Sx} {ts:Wb} {η:Env} (hl:ts.length=np) (h:b (ts.map (fun t=>some (.pu t))++List.replicate (nn - np) none)=some (.nx η)):fn np nn b ts=some (.fr,.non):=by
 unfold fn
 rw [Zr hl,h]
 rfl
theorem vV {a b:Ex} {η:Env} {m:Md} {x:Bool} {v:Val} (h1:a η=some (m,.bl x)) (h2:x=true->b η=some v) (h3:x=false->v=(.fr,.bl false)):gx a b η=some v:=by
 show (a η).bind _=_
 rw [h1,Zt]
 cases x with
 | true=>exact h2 rfl
 | false=>exact congrArg some (h3 rfl).symm
theorem Cw {a b:Ex} {η:Env} {m:Md} {x:Bool} {v:Val} (h1:a η=some (m,.bl x)) (h2:x=false->b η=some v) (h3:x=true->v=(.fr,.bl true)):eOr a b η=some v:=by
 show (a η).bind _=_
 rw [h1,Zt]
 cases x with
 | false=>exact h2 rfl
 | true=>exact congrArg some (h3 rfl).symm
theorem uE {a:Ex} {η:Env} {m:Md} {b:Bool} (h:a η=some (m,.bl b)):lU a η=some (.fr,.bl (!b)):=by
 show (a η).bind _=_
 rw [h]
 rfl
theorem xg {f g:Val->Val->Wc} {a b c:Ex} {η:Env} {x y z v:Val} (h1:a η=some x) (h2:b η=some y) (h3:f x y=some (.fr,.bl true)) (h4:c η=some z) (h5:g y z=some v):i5 f g a b c η=some v:=by
 show (a η).bind _=_
 rw [h1,Zt,h2,Zt,h3,Zt]
 show (c η).bind _=_
 rw [h4]
 exact h5
theorem zi {n:Nat} {i:Int} (h0:0<=i) (h1:i < n):ixP n i=some i.toNat:=by rw [ixP,Zr h0,Zr h1]
theorem u9 {n:Nat} {i:Nat} (h1:i < n):ixP n (i:Int)=some i:=by
 rw [ixP,Zr (Int.natCast_nonneg i),Zr (Int.ofNat_lt.mpr h1)]
 rfl
theorem qZ {m n:Md} (l:Wh) (i:Int) (h0:0<=i) (h1:i < l.length):aB (m,.scr l) (n,.int i)=some (.fr,.int (l.getD i.toNat 0)):=by
 have b2:i.toNat < l.length:=by lia
 show (ixP l.length i).bind _=_
 rw [zi h0 h1,Zt,Zq,Zm b2]
 rfl
theorem uv {m n:Md} (t:Tx) (i:Int) (h0:0<=i) (h1:i < t.length):aB (m,.str t) (n,.int i)=some (.fr,.str [t.getD i.toNat 0]):=by
 have b2:i.toNat < t.length:=by lia
 show (ixP t.length i).bind _=_
 rw [zi h0 h1,Zt,Zq,Zm b2]
 rfl
theorem mh {m n:Md} {a b:T} {r:Bool} (ha:eqD 60 a=true) (hb:eqD 60 b=true) (h:eqT a b=r):oEq (m,a) (n,b)=some (.fr,.bl r):=by
 show (if eqD 60 a/\eqD 60 b then some (Md.fr,T.bl (eqT a b)) else none)=_
 rw [Zr ⟨ha,hb⟩,h]
theorem zh {m n:Md} {a b:T} {r:Bool} (ha:eqD 60 a=true) (hb:eqD 60 b=true) (h:eqT a b=r):oNe (m,a) (n,b)=some (.fr,.bl (!r)):=by
 show (if eqD 60 a/\eqD 60 b then some (Md.fr,T.bl (!eqT a b)) else none)=_
 rw [Zr ⟨ha,hb⟩,h]
theorem lK {i:Nat} {e:Ex} {η:Env} {l:Wb} {v:T} (h0:η[i]?=some (some (.ow (.lst l)))) (h1:e η=some (.fr,v)) (h2:l.length < 16777216):sX (lW i [] aJ (ae e ai)) η=some (.nx (η.set i (some (.ow (.lst (l++[v])))))):=by
 have h3:ae e ai η=some [(.fr,v)]:=xv h1 rfl
 unfold sX lW
 rw [h0]
 show ((some ([]:List Ky)).bind _ |>.map _)=_
 rw [Zt,h3,Zt]
 show ((aJ (.lst l) [(.fr,v)]).map _ |>.map _)=_
 rw [d6 h2]
 rfl
theorem Bd {a b:Ex} {η:Env} {m n:Md} {x y:Tx} (h1:a η=some (m,.str x)) (h2:b η=some (n,.str y)) (h:x.length+y.length<=16777216):e2 bD a b η=some (.fr,.str (x++y)):=e2v h1 h2 (gH h)
end VS
end
section
namespace AU
structure St where
 lg:Wi
 lk:List (Option Nat)
 wy:List (List (Nat×Nat))
noncomputable def gW (w:List (Nat×Nat)) (c:Nat):Option Nat:=(w.find? fun p=>p.1 == c).map (·.2)
noncomputable def pW (w:List (Nat×Nat)) (c m:Nat):List (Nat×Nat):=if w.any (fun p=>p.1 == c) then w.map (fun p=>if p.1 == c then (p.1,m) else p) else w++[(c,m)]
structure WF (S:St):Prop where
 lk:S.lk.length=S.lg.length
 wy:S.wy.length=S.lg.length
 pos:0 < S.lg.length
 up:∀ i n,S.lk.getD i none=some n->n < S.lg.length
 on:∀ i c n,gW (S.wy.getD i []) c=some n->n < S.lg.length
 nd:∀ w∈S.wy,(w.map (·.1)).Nodup
 az:∀ w∈S.wy,∀ p∈w,97<=p.1/\p.1<=122
theorem sub_len {α:Type} [DecidableEq α]:∀ (l r:List α),l.Nodup->(∀ x∈l,x∈r)->l.length<=r.length
 | [],_,_,_=>Yr _
 | a :: l,r,nd,h=>by
  obtain ⟨h1,h2⟩:=Zd.mp nd
  have hr:a∈r:=h a Zx
  have:=sub_len l (r.erase a) h2 fun x hx=>(List.mem_erase_of_ne (show x ≠ a from fun e=>h1 (by rw [← e];exact hx))).mpr (h x (Zw _ hx))
  rw [List.length_erase_of_mem hr] at this
  have:0 < r.length:=List.length_pos_of_mem hr
  rw [Zk]
  omega
theorem WF.small {S:St} (W:WF S) (i:Nat):(S.wy.getD i []).length < 16777216:=by
 by_cases h:i < S.wy.length
 ·have hm:S.wy.getD i []∈S.wy:=by
   rw [Zq,Zm h]
   exact Z8 h
  have:=sub_len ((S.wy.getD i []).map (·.1)) (List.range 123) (W.nd _ hm) fun x hx=>by
   obtain ⟨p,hp,rfl⟩:=ZG.mp hx
   have:=(W.az _ hm p hp).2
   exact Z4.mpr (by omega)
  rw [Zv,ZF] at this
  omega
 ·rw [Zq,Ys (ZD h)]
  decide
theorem zW (w:List (Nat×Nat)) (c:Nat):(w.any fun p=>p.1 == c)=(gW w c).isSome:=by
 unfold gW
 rw [Yc,Y4,Xp,List.find?_isSome]
theorem yU (w:List (Nat×Nat)) (c m d:Nat):gW (pW w c m) d=if d=c then some m else gW w d:=by
 unfold pW
 split
 ·rename_i h
  induction w with
  | nil=>simp at h
  | cons p w ih =>
   rw [Zs]
   unfold gW
   rw [Z0,Z0]
   by_cases q:p.1=c
   ·rw [Zr (by simpa using q)]
    by_cases r:p.1=d
    ·have:(p.1 == d)=true:=by simpa using r
     simp only [this]
     rw [Zr (by rw [← r,q])]
     rfl
    ·have r':(p.1 == d)=false:=by simpa using r
     have:d ≠ c:=fun e=>r (by rw [e,q])
     simp only [r',Zo this]
     have key:∀ w:List (Nat×Nat),(w.map fun p=>if p.1 == c then (p.1,m) else p).find? (fun p=>p.1 == d)=w.find? fun p=>p.1 == d:=by
      intro w
      induction w with
      | nil=>rfl
      | cons x w ih =>
       rw [Zs,Z0,Z0,ih]
       by_cases y:x.1=c
       ·rw [Zr (by simpa using y)]
        have:(x.1 == d)=false:=by simpa using fun e=>this (by rw [← e,y])
        simp only [this]
       ·rw [Zo (by simpa using y)]
     rw [key w]
   ·rw [Zo (by simpa using q)]
    have h':(w.any fun p=>p.1 == c)=true:=by
     rw [Ye] at h
     simpa [q] using h
    have ih':=ih h'
    unfold gW at ih'
    by_cases r:p.1=d
    ·have r':(p.1 == d)=true:=by simpa using r
     simp only [r']
     rw [Zo (fun e=>q (by rw [r,e]))]
    ·have r':(p.1 == d)=false:=by simpa using r
     simp only [r']
     exact ih'
 ·rename_i h
  unfold gW
  rw [List.find?_append]
  by_cases q:d=c
  ·subst q
   have:w.find? (fun p=>p.1 == d)=none:=by
    rw [List.find?_eq_none]
    intro p hp e
    exact h (Xp.mpr ⟨p,hp,e⟩)
   rw [this,Zr rfl]
   simp
  ·rw [Zo q]
   have:((c == d)=false):=by simpa using fun e=>q e.symm
   simp [this]
theorem yk (w:List (Nat×Nat)) (c m:Nat) (nd:(w.map (·.1)).Nodup):((pW w c m).map (·.1)).Nodup:=by
 unfold pW
 split
 ·rw [Z6]
  have:((fun p:Nat×Nat=>p.1) ∘ fun p=>if (p.1 == c)=true then (p.1,m) else p)=fun p=>p.1:=by
   funext p
   simp only [Function.comp]
   split <;> rfl
  rw [this]
  exact nd
 ·rename_i h
  rw [ZA,ZO]
  refine ⟨nd,by simp,fun a ha b hb e=>?_⟩
  have hb':b=c:=by simpa using hb
  subst e hb'
  obtain ⟨p,hp,e⟩:=ZG.mp ha
  exact h (Xp.mpr ⟨p,hp,by simpa using e⟩)
theorem zH {w:List (Nat×Nat)} {c m:Nat} {p:Nat×Nat} (h:p∈pW w c m):p.1=c\/p∈w:=by
 unfold pW at h
 split at h
 ·obtain ⟨q,hq,rfl⟩:=ZG.mp h
  by_cases r:(q.1 == c)=true
  ·rw [Zr r];exact .inl (by simpa using r)
  ·rw [Zo r];exact .inr hq
 ·rcases Zc.mp h with h | h
  ·exact .inr h
  ·rw [Zf.mp h];exact .inl rfl
theorem gA {α:Type} (l:List α) (i j:Nat) (x d:α):(l.set i x).getD j d=if i=j/\i < l.length then x else l.getD j d:=by
 rw [Zq,Zq,Wt]
 by_cases h:i=j
 ·subst h
  by_cases h2:i < l.length
  ·rw [Zr rfl,Zr h2,Zr ⟨rfl,h2⟩];rfl
  ·rw [Zr rfl,Zo h2,Zo (fun z=>h2 z.2),Ys (ZD h2)]
 ·rw [Zo h,Zo (fun z=>h z.1)]
theorem bR {α:Type} (l:List α) (x d:α) (j:Nat):(l++[x]).getD j d=if j=l.length then x else l.getD j d:=by
 rw [Zq,Zq]
 by_cases h:j < l.length
 ·rw [Z3 h,Zo (ZS h)]
 ·rw [Yw (ZD h)]
  by_cases h2:j=l.length
  ·rw [Zr h2,h2,Nat.sub_self];rfl
  ·rw [Zo h2,Ys (ZD h),Ys (by simp;omega)]
theorem WF.way {S:St} (W:WF S) {n c v:Nat} (hv:v < S.lg.length) (hc:97<=c/\c<=122):WF ⟨S.lg,S.lk,S.wy.set n (pW (S.wy.getD n []) c v)⟩:=by
 refine ⟨W.lk,by rw [Yu];exact W.wy,W.pos,W.up,fun i d m h=>?_,fun w hw=>?_,fun w hw p hp=>?_⟩
 ·show m < S.lg.length
  have h':gW ((S.wy.set n (pW (S.wy.getD n []) c v)).getD i []) d=some m:=h
  rw [gA] at h'
  split at h'
  ·rw [yU] at h'
   split at h'
   ·cases h';exact hv
   ·exact W.on n d m h'
  ·exact W.on i d m h'
 ·by_cases hn:n < S.wy.length
  ·rcases List.mem_or_eq_of_mem_set hw with h | h
   ·exact W.nd w h
   ·rw [h]
    refine yk _ c v (W.nd _ ?_)
    rw [Zq,Zm hn]
    exact Z8 hn
  ·rw [List.set_eq_of_length_le (ZD hn)] at hw
   exact W.nd w hw
 ·by_cases hn:n < S.wy.length
  ·rcases List.mem_or_eq_of_mem_set hw with h | h
   ·exact W.az w h p hp
   ·rw [h] at hp
    rcases zH hp with e | e
    ·rw [e];exact hc
    ·refine W.az _ ?_ p e
     rw [Zq,Zm hn]
     exact Z8 hn
  ·rw [List.set_eq_of_length_le (ZD hn)] at hw
   exact W.az w hw p hp
theorem WF.link {S:St} (W:WF S) {n v:Nat} (hv:v < S.lg.length):WF ⟨S.lg,S.lk.set n (some v),S.wy⟩:=by
 refine ⟨by rw [Yu];exact W.lk,W.wy,W.pos,fun i m h=>?_,W.on,W.nd,W.az⟩
 have h':(S.lk.set n (some v)).getD i none=some m:=h
 rw [gA] at h'
 split at h'
 ·cases h';exact hv
 ·exact W.up i m h'
theorem WF.more {S:St} (W:WF S) {l:Nat} {o:Option Nat} {w:List (Nat×Nat)} (ho:∀ n,o=some n->n < S.lg.length) (hw:∀ c n,gW w c=some n->n < S.lg.length) (nd:(w.map (·.1)).Nodup) (az:∀ p∈w,97<=p.1/\p.1<=122):WF ⟨S.lg++[l],S.lk++[o],S.wy++[w]⟩:=by
 have hs:∀ {n},n < S.lg.length->n < (S.lg++[l]).length:=fun h=>by rw [Zy,Zj];omega
 refine ⟨by rw [Zy,Zy,W.lk];rfl,by rw [Zy,Zy,W.wy];rfl,by rw [Zy];exact ZM W.pos (YK _ _),fun i n h=>?_,fun i c n h=>?_,fun x hx=>?_,fun x hx=>?_⟩
 ·have h':(S.lk++[o]).getD i none=some n:=h
  rw [bR] at h'
  split at h'
  ·exact hs (ho n h')
  ·exact hs (W.up i n h')
 ·have h':gW ((S.wy++[w]).getD i []) c=some n:=h
  rw [bR] at h'
  split at h'
  ·exact hs (hw c n h')
  ·exact hs (W.on i c n h')
 ·rcases Zc.mp hx with h | h
  ·exact W.nd x h
  ·rw [Zf.mp h];exact nd
 ·rcases Zc.mp hx with h | h
  ·exact W.az x h
  ·rw [Zf.mp h];exact az
noncomputable def up1 (c v:Nat):Nat->St->Option Nat->Option (St×Option Nat)
 | _,S,none=>some (S,none)
 | 0,_,some _=>none
 | k+1,S,some n=>if (gW (S.wy.getD n []) c).isSome then some (S,some n) else up1 c v k ⟨S.lg,S.lk,S.wy.set n (pW (S.wy.getD n []) c v)⟩ (S.lk.getD n none)
noncomputable def up2 (c old v:Nat):Nat->St->Option Nat->Option St
 | _,S,none=>some S
 | 0,_,some _=>none
 | k+1,S,some n=>if gW (S.wy.getD n []) c=some old then up2 c old v k ⟨S.lg,S.lk,S.wy.set n (pW (S.wy.getD n []) c v)⟩ (S.lk.getD n none) else some S
noncomputable def njb (S:St) (n c:Nat):Option (St×Nat):=(gW (S.wy.getD n []) c).bind fun old=>if S.lg.getD old 0=S.lg.getD n 0+1 then some (S,old) else
 (up2 c old S.lg.length 1000 ⟨S.lg++[S.lg.getD n 0+1],(S.lk++[S.lk.getD old none]).set old (some S.lg.length),S.wy++[S.wy.getD old []]⟩ (some n)).map fun S'=>(S',S.lg.length)
noncomputable def hb (S:St) (h c:Nat):Option (St×Nat):=if (gW (S.wy.getD h []) c).isSome then njb S h c else
 (up1 c S.lg.length 1000 ⟨S.lg++[S.lg.getD h 0+1],S.lk++[some 0],S.wy++[[]]⟩ (some h)).bind fun z=>match z.2 with
  | none=>some (z.1,S.lg.length)
  | some n=>(njb z.1 n c).map fun y=>(⟨y.1.lg,y.1.lk.set S.lg.length (some y.2),y.1.wy⟩,S.lg.length)
noncomputable def hg (S:St) (h:Nat):Wi->Option (St×Nat)
 | []=>some (S,h)
 | c :: r=>(hb S h c).bind fun z=>hg z.1 z.2 r
noncomputable def Sm (S:St):Prop:=S.lg.length<=100001
theorem WF.wnd {S:St} (W:WF S) (i:Nat):((S.wy.getD i []).map (·.1)).Nodup/\∀ p∈S.wy.getD i [],97<=p.1/\p.1<=122:=by
 by_cases h:i < S.wy.length
 ·have hm:S.wy.getD i []∈S.wy:=by
   rw [Zq,Zm h]
   exact Z8 h
  exact ⟨W.nd _ hm,W.az _ hm⟩
 ·rw [Zq,Ys (ZD h)]
  exact ⟨Yd,fun p hp=>nomatch hp⟩
noncomputable def S0:St:=⟨[0],[none],[[]]⟩
theorem yS:WF S0:=by
 refine ⟨rfl,rfl,by decide,fun i n h=>?_,fun i c n h=>?_,fun w hw=>?_,fun w hw p hp=>?_⟩
 ·cases i with
  | zero=>cases h
  | succ i=>cases h
 ·cases i with
  | zero=>cases h
  | succ i=>cases h
 ·rw [Zf.mp hw];exact Yd
 ·rw [Zf.mp hw] at hp;cases hp
end AU
end
section
namespace T58
open VS AU
noncomputable abbrev pc (t:T):Wf:=some (.pu t)
abbrev Q0 (i:Int):Option Cell:=some (.pu (.int i))
abbrev Q1 (t:Tx):Option Cell:=some (.pu (.str t))
noncomputable abbrev oc (t:T):Wf:=some (.ow t)
noncomputable def wT' (w:List (Nat×Nat)):T:=.dct 0 (w.map fun p=>(T.str [p.1],T.int (p.2:Int)))
noncomputable def lkT:Option Nat->T
 | none=>.non
 | some n=>.int (n:Int)
noncomputable def fsT (S:St):oj:=[(1,.lst (S.lg.map fun (n:Nat)=>T.int (n:Int))),(2,.lst (S.lk.map lkT)),(3,.lst (S.wy.map wT'))]
noncomputable def obT (S:St) (b:Bool):T:=.obj 1 ((0,.bl b) :: fsT S)
theorem jZ (o:Option Nat):imm (lkT o)=true:=by cases o <;> rfl
theorem d8 {α:Type} (f:α->T) (h:∀ a,eZ (f a)=true):∀ l:List α,cE (l.map f)=true
 | []=>rfl
 | a :: l=>by rw [Zs,cE,h a,d8 f h l];rfl
theorem uJ (w:List (Nat×Nat)):eZ (wT' w)=true:=by
 show mq (w.map fun p=>(T.str [p.1],T.int (p.2:Int)))=true
 induction w with
 | nil=>rfl
 | cons p w ih=>rw [Zs,mq,ih];rfl
theorem jC (S:St):dz (fsT S)=true:=by
 have h1:eZ (.lst (S.lg.map fun (n:Nat)=>T.int (n:Int)))=true:=d8 _ (fun _=>rfl) _
 have h2:eZ (.lst (S.lk.map lkT))=true:=d8 _ (fun o=>kI _ (jZ o)) _
 have h3:eZ (.lst (S.wy.map wT'))=true:=d8 _ uJ _
 show ((eZ _ && !(1 == 0 && isT _)) && ((eZ _ && !(2 == 0 && isT _)) && ((eZ _ && !(3 == 0 && isT _)) && true)))=true
 rw [h1,h2,h3]
 rfl
theorem BM (S:St) (b:Bool):mW 1 (obT S b)=some (.lst (S.lg.map fun (n:Nat)=>T.int (n:Int))):=rfl
theorem Dm (S:St) (b:Bool):mW 2 (obT S b)=some (.lst (S.lk.map lkT)):=rfl
theorem Da (S:St) (b:Bool):mW 3 (obT S b)=some (.lst (S.wy.map wT')):=rfl
theorem gw {k:Nat} {a:Ex} {η:Env} {m:Md} {t u:T} (h:a η=some (m,t)) (h2:mW k t=some u):aV k a η=some (sub m u):=by
 unfold aV
 rw [h,Zt,h2]
 rfl
theorem lS {α:Type} {m n:Md} (f:α->T) (l:List α) (i:Nat) (d:α) (h:i < l.length):aB (m,.lst (l.map f)) (n,.int (i:Int))=some (sub m (f (l.getD i d))):=by
 show (ixP (l.map f).length (i:Int)).bind _=_
 rw [Zv,u9 h,Zt,ZE,Zm h,Zq,Zm h]
 rfl
section
variable {η:Env} {m n:Md} {S:St} {b:Bool} {a e:Ex} {i:Nat}
theorem nW (h:a η=some (m,obT S b)) (he:e η=some (n,.int (i:Int))) (hi:i < S.lg.length):e2 aB (aV 1 a) e η=some (.fr,.int ((S.lg.getD i 0:Nat):Int)):=e2v (gw h (BM S b)) he (lS _ _ i 0 hi)
theorem qO (h:a η=some (m,obT S b)) (he:e η=some (n,.int (i:Int))) (hi:i < S.lk.length):e2 aB (aV 2 a) e η=some (.fr,lkT (S.lk.getD i none)):=(e2v (gw h (Dm S b)) he (lS _ _ i none hi)).trans (by
 show some (up _ _)=_
 unfold up
 rw [jZ]
 rfl)
theorem kF (h:a η=some (m,obT S b)) (he:e η=some (n,.int (i:Int))) (hi:i < S.wy.length):e2 aB (aV 3 a) e η=some (m,wT' (S.wy.getD i [])):=e2v (gw h (Da S b)) he (lS _ _ i [] hi)
theorem Au (h:a η=some (m,obT S b)):eN bX (ae (aV 1 a) ai) η=some (.fr,.int (S.lg.length:Nat)):=gL (xv (gw h (BM S b)) rfl) (by
 show some (Md.fr,T.int (((S.lg.map fun (n:Nat)=>T.int (n:Int)).length:Nat):Int))=_
 rw [Zv])
end
theorem zB (a c:Nat):eqT (.str [a]) (.str [c])=(a == c):=by
 simp only [eqT]
 by_cases h:a=c
 ·simp [h]
 ·simp [h]
theorem mR (w:List (Nat×Nat)) (c:Nat):dX (w.map fun p=>(T.str [p.1],T.int (p.2:Int))) (.str [c])=(gW w c).map fun (n:Nat)=>T.int (n:Int):=by
 unfold dX gW
 rw [List.find?_map]
 have:((fun p:T×T=>eqT p.1 (.str [c])) ∘ fun p:Nat×Nat=>(T.str [p.1],T.int (p.2:Int)))=fun p:Nat×Nat=>p.1 == c:=by
  funext p
  exact zB p.1 c
 rw [this]
 cases w.find? fun p=>p.1 == c with
 | none=>rfl
 | some p=>rfl
theorem Cc (w:List (Nat×Nat)) (c m:Nat):dput (w.map fun p=>(T.str [p.1],T.int (p.2:Int))) (.str [c]) (.int (m:Int))=(pW w c m).map fun p=>(T.str [p.1],T.int (p.2:Int)):=by
 have h1:(w.map fun p=>(T.str [p.1],T.int (p.2:Int))).any (fun p=>eqT p.1 (.str [c]))=w.any fun p=>p.1 == c:=by
  rw [List.any_map]
  congr 1
  funext p
  exact zB p.1 c
 unfold dput pW
 rw [h1]
 split
 ·rw [Z6,Z6]
  apply YO
  intro p _
  simp only [Function.comp,zB]
  split <;> rfl
 ·rw [ZA]
  rfl
section
variable {η:Env} {m n k:Md} {S:St} {b:Bool} {a e ec ev:Ex} {i c v:Nat} {w:List (Nat×Nat)}
theorem CP (h:a η=some (m,wT' w)) (he:e η=some (n,.str [c])):e2 kS e a η=some (.fr,.bl (gW w c).isSome):=e2v he h (by
 show (if true=true then some (Md.fr,T.bl (dX _ _).isSome) else none)=_
 rw [Zr rfl,mR,Yc])
theorem Cz (h:a η=some (m,wT' w)) (he:e η=some (n,.str [c])):e2 dm e a η=some (.fr,.bl (!(gW w c).isSome)):=e2v he h (by
 show (match (if true=true then some (Md.fr,T.bl (dX (w.map fun p=>(T.str [p.1],T.int (p.2:Int))) (.str [c])).isSome) else none) with | some (_,.bl b)=>some (Md.fr,T.bl (!b)) | _=>none)=_
 rw [Zr rfl,mR,Yc])
theorem u4 (h:a η=some (m,wT' w)) (he:e η=some (n,.str [c])) (hv:gW w c=some v):e2 oIx a e η=some (.fr,.int (v:Int)):=e2v h he (by
 show (if true=true then (dX _ _).map (sub m) else none)=_
 rw [Zr rfl,mR,hv]
 rfl)
theorem B9 (h:a η=some (m,wT' w)) (he:e η=some (n,.str [c])):e2 rY a e η=some (.fr,lkT (gW w c)):=e2v h he (by
 show (if true=true then some (match dX (w.map fun p=>(T.str [p.1],T.int (p.2:Int))) (.str [c]) with | some t=>sub m t | none=>(.fr,.non)) else none)=_
 rw [Zr rfl,mR]
 cases gW w c with
 | none=>rfl
 | some v=>rfl)
theorem uR {r:List (Wf)} (hi:i < S.wy.length) (he:e (oc (obT S b) :: r)=some (n,.int (i:Int))) (hc:ec (oc (obT S b) :: r)=some (m,.str [c])) (hv:ev (oc (obT S b) :: r)=some (k,.int (v:Int))) (hl:(S.wy.getD i []).length < 16777216) :
  eU 0 [.fld 3,.ix e] ec ev (oc (obT S b) :: r)=some (.nx (oc (obT ⟨S.lg,S.lk,S.wy.set i (pW (S.wy.getD i []) c v)⟩ b) :: r)):=by
 unfold eU
 rw [hv,Zt]
 show ((keys [.fld 3,.ix e] (oc (obT S b) :: r)).bind _)=_
 have hk:keys [.fld 3,.ix e] (oc (obT S b) :: r)=some [.fld 3,.at (.int (i:Int))]:=by
  show ((e _).bind _).map _=_
  rw [he]
  rfl
 rw [hk,Zt,hc,Zt]
 have hp:pm (iU (m,.str [c]) (k,.int (v:Int))) [.fld 3,.at (.int (i:Int))] (obT S b)=some (obT ⟨S.lg,S.lk,S.wy.set i (pW (S.wy.getD i []) c v)⟩ b,()):=by
  show ((pm (iU (m,.str [c]) (k,.int (v:Int))) [.at (.int (i:Int))] (.lst (S.wy.map wT'))).map _)=_
  have:pm (iU (m,.str [c]) (k,.int (v:Int))) [.at (.int (i:Int))] (.lst (S.wy.map wT'))=some (.lst ((S.wy.set i (pW (S.wy.getD i []) c v)).map wT'),()):=by
   show ((ixP (S.wy.map wT').length (i:Int)).bind _)=_
   rw [Zv,u9 hi,Zt,ZE,Zm hi]
   show ((iU (m,.str [c]) (k,.int (v:Int)) (wT' S.wy[i])).map _)=_
   have e1:S.wy.getD i []=S.wy[i]:=by rw [Zq,Zm hi];rfl
   rw [e1] at hl ⊢
   show ((if true=true/\true=true/\(S.wy[i].map _).length < eA then some (T.dct 0 (dput _ _ _),()) else none).map _)=_
   rw [Zr ⟨rfl,rfl,by rw [Zv];exact hl⟩,Cc,Wu]
   rfl
  rw [this]
  rfl
 rw [hp]
 rfl
theorem vE {r:List (Wf)} (hi:i < S.lk.length) (he:e (oc (obT S b) :: r)=some (n,.int (i:Int))) (hv:ev (oc (obT S b) :: r)=some (.fr,.int (v:Int))) :
  eU 0 [.fld 2] e ev (oc (obT S b) :: r)=some (.nx (oc (obT ⟨S.lg,S.lk.set i (some v),S.wy⟩ b) :: r)):=by
 unfold eU
 rw [hv,Zt]
 show ((keys [.fld 2] (oc (obT S b) :: r)).bind _)=_
 have hk:keys [.fld 2] (oc (obT S b) :: r)=some [.fld 2]:=rfl
 rw [hk,Zt,he,Zt]
 have hp:pm (iU (n,.int (i:Int)) (.fr,.int (v:Int))) [.fld 2] (obT S b)=some (obT ⟨S.lg,S.lk.set i (some v),S.wy⟩ b,()):=by
  show ((iU (n,.int (i:Int)) (.fr,.int (v:Int)) (.lst (S.lk.map lkT))).map _)=_
  have:iU (n,.int (i:Int)) (.fr,.int (v:Int)) (.lst (S.lk.map lkT))=some (.lst ((S.lk.set i (some v)).map lkT),()):=by
   show ((ixP (S.lk.map lkT).length (i:Int)).map _)=_
   rw [Zv,u9 hi,Wu]
   rfl
  rw [this]
  rfl
 rw [hp]
 rfl
end
theorem kC {c:Ex} {body:Sx} {n:Nat} {η η':Env} {m:Md} (h1:c η=some (m,.bl true)) (h2:body η=some (.nx η')):eE c body (n+1) η=eE c body n η':=by
 show (c η).bind _=_
 rw [h1]
 show (if true=true then (body η).bind _ else some (.nx η))=_
 rw [Zr rfl,h2]
 rfl
theorem eJ {c:Ex} {body:Sx} {n:Nat} {η:Env} {m:Md} (h1:c η=some (m,.bl false)):eE c body (n+1) η=some (.nx η):=by
 show (c η).bind _=_
 rw [h1]
 rfl
theorem hZ {mv:List Bool} {g:Mt} {as:Exs} {xs:We} {S S':St} {v:T} {b:Bool} {r:List (Wf)} (ha:as (oc (obT S b) :: r)=some xs) (hao:argsOk mv xs=true) (hno:cE (trees xs)=true) (hg:g (fsT S) (trees xs)=some (fsT S',v)) (hv:imm v=true) :
  bA 0 [] 0 mv g as (oc (obT S b) :: r)=some ((.fr,v),oc (obT S' b) :: r):=by
 show ((some ([]:List Ky)).bind fun ks=>(as (oc (obT S b) :: r)).bind fun xs=>(pm (ka 0 mv g xs) ks (obT S b)).map fun z=>(z.2,(oc (obT S b) :: r).set 0 (oc z.1)))=_
 rw [Zt,ha,Zt]
 show ((if 1=0+1/\dz (fsT S)=true/\argsOk mv xs=true/\cE (trees xs)=true then (g (fsT S) (trees xs)).bind fun z=>if dz z.1=true/\imm z.2=true then some (T.obj 1 ((0,.bl b) :: z.1),(Md.fr,z.2)) else none else none).map _)=_
 rw [Zr ⟨rfl,jC S,hao,hno⟩,hg,Zt,Zr ⟨jC S',hv⟩]
 rfl
theorem Ay {e:Ex} {S:St} {b:Bool} {r:List (Wf)} {v:Nat} (h:e (oc (obT S b) :: r)=some (.fr,.int (v:Int))) (hl:S.lg.length < 16777216):sX (g5 0 [.fld 1] aJ (ae e ai)) (oc (obT S b) :: r)=some (.nx (oc (obT ⟨S.lg++[v],S.lk,S.wy⟩ b) :: r)):=by
 show (((some [Ky.fld 1]).bind fun ks=>(ae e ai (oc (obT S b) :: r)).bind fun xs=>(pm (fun x=>aJ x xs) ks (obT S b)).map _).map _)=_
 rw [Zt,xv (r:=ai) h rfl,Zt]
 show (((aJ (.lst (S.lg.map fun (n:Nat)=>T.int (n:Int))) [(.fr,.int (v:Int))]).map _).map _ |>.map _)=_
 rw [d6 (by rw [Zv];exact hl),show (S.lg.map fun (n:Nat)=>T.int (n:Int))++[.int (v:Int)]=(S.lg++[v]).map fun (n:Nat)=>T.int (n:Int) from by rw [ZA];rfl]
 rfl
theorem zC {e:Ex} {S:St} {b:Bool} {r:List (Wf)} {v:Option Nat} (h:e (oc (obT S b) :: r)=some (.fr,lkT v)) (hl:S.lk.length < 16777216):sX (g5 0 [.fld 2] aJ (ae e ai)) (oc (obT S b) :: r)=some (.nx (oc (obT ⟨S.lg,S.lk++[v],S.wy⟩ b) :: r)):=by
 show (((some [Ky.fld 2]).bind fun ks=>(ae e ai (oc (obT S b) :: r)).bind fun xs=>(pm (fun x=>aJ x xs) ks (obT S b)).map _).map _)=_
 rw [Zt,xv (r:=ai) h rfl,Zt]
 show (((aJ (.lst (S.lk.map lkT)) [(.fr,lkT v)]).map _).map _ |>.map _)=_
 rw [d6 (by rw [Zv];exact hl),show (S.lk.map lkT)++[lkT v]=(S.lk++[v]).map lkT from by rw [ZA];rfl]
 rfl
theorem Ah (o:Option Nat):up .pu (lkT o)=(.fr,lkT o):=by
 unfold up
 rw [jZ]
 rfl
theorem tN (S:St) (l:Nat) (o:Option Nat) (w:List (Nat×Nat)) (h1:S.lg.length < 16777216) (h2:S.lk.length < 16777216) (h3:S.wy.length < 16777216):aI (fsT S) [.int (l:Int),lkT o,wT' w]=some (fsT ⟨S.lg++[l],S.lk++[o],S.wy++[w]⟩,.int (S.lg.length:Int)):=by
 have a1:=Ay (S:=S) (b:=true) (r:=[Q0 (l:Int),pc (lkT o),oc (wT' w)]) (e:=aa 1) (v:=l) rfl h1
 have a2:=zC (S:=⟨S.lg++[l],S.lk,S.wy⟩) (b:=true) (r:=[Q0 (l:Int),pc (lkT o),oc (wT' w)]) (e:=aa 2) (v:=o) (congrArg some (Ah o)) h2
 have a3:kZ 0 [.fld 3] 3 [oc (obT ⟨S.lg++[l],S.lk++[o],S.wy⟩ true),Q0 (l:Int),pc (lkT o),oc (wT' w)]=some (.nx [oc (obT ⟨S.lg++[l],S.lk++[o],S.wy++[w]⟩ true),Q0 (l:Int),pc (lkT o),none]):=by
  show ((aJ (.lst (S.wy.map wT')) [(.fr,wT' w)]).map _ |>.map _)=_
  rw [d6 (by rw [Zv];exact h3),show (S.wy.map wT')++[wT' w]=(S.wy++[w]).map wT' from by rw [ZA];rfl]
  rfl
 have a4:=df (e:=e2 i7 (eN bX (ae (aV 1 (aa 0)) ai)) (Q2 1)) (η:=[oc (obT ⟨S.lg++[l],S.lk++[o],S.wy++[w]⟩ true),Q0 (l:Int),pc (lkT o),none]) (t:=.int (S.lg.length:Int)) (e2v (Au (m:=.bo) rfl) rfl (by
  show some (Md.fr,T.int ((((S.lg++[l]).length:Nat):Int) - 1))=_
  rw [Zy,Zj,show (((S.lg.length+1:Nat)):Int) - 1=(S.lg.length:Int) by omega]))
 unfold aI mfn
 rw [Zr ⟨rfl,rfl⟩]
 have body:=sq (b:=ak (sX (g5 0 [.fld 2] aJ (ae (aa 2) ai))) (ak (kZ 0 [.fld 3] 3) (dN (e2 i7 (eN bX (ae (aV 1 (aa 0)) ai)) (Q2 1))))) a1 (sq a2 (sq a3 a4))
 exact congrArg (fun z:Option Out=>z.bind _) body
theorem zA {c old v:Nat} (hc:97<=c/\c<=122):∀ (k:Nat) (S S':St) (o:Option Nat),WF S->v < S.lg.length->(∀ n,o=some n->n < S.lg.length)->up2 c old v k S o=some S'->WF S'/\S'.lg=S.lg/\∃ o',∀ N,k < N->∀ z:Wf,
  eE (gx (fX (aa 1)) (e2 oEq (e2 rY (e2 aB (aV 3 (aa 0)) (aa 1)) (aa 2)) (aa 3))) bL N [oc (obT S true),pc (lkT o),Q1 ([c]),Q0 (old:Int),z,Q0 (v:Int)] =
   some (.nx [oc (obT S' true),pc (lkT o'),Q1 ([c]),Q0 (old:Int),z,Q0 (v:Int)]):=by
 intro k
 induction k with
 | zero =>
  intro S S' o W hv ho e
  cases o with
  | none =>
   cases (show some S=some S' from e)
   refine ⟨W,rfl,none,fun N hN z=>?_⟩
   obtain ⟨N,rfl⟩:∃ M,N=M+1:=⟨N - 1,by omega⟩
   exact eJ (m:=.fr) rfl
  | some n=>cases e
 | succ k ih =>
  intro S S' o W hv ho e
  cases o with
  | none =>
   cases (show some S=some S' from e)
   refine ⟨W,rfl,none,fun N hN z=>?_⟩
   obtain ⟨N,rfl⟩:∃ M,N=M+1:=⟨N - 1,by omega⟩
   exact eJ (m:=.fr) rfl
  | some n =>
   have hn:=ho n rfl
   have hnw:n < S.wy.length:=by rw [W.wy];exact hn
   have cond:∀ z:Wf,gx (fX (aa 1)) (e2 oEq (e2 rY (e2 aB (aV 3 (aa 0)) (aa 1)) (aa 2)) (aa 3)) [oc (obT S true),Q0 (n:Int),Q1 ([c]),Q0 (old:Int),z,Q0 (v:Int)]=some (.fr,.bl (decide (gW (S.wy.getD n []) c=some old))):=fun z=>by
    refine vV (m:=.fr) (x:=true) rfl (fun _=>?_) (fun h=>by cases h)
    refine e2v (B9 (m:=.bo) (kF (m:=.bo) (n:=.fr) rfl rfl hnw) (n:=.fr) rfl) (y:=(.fr,.int (old:Int))) rfl ?_
    cases hg:gW (S.wy.getD n []) c with
    | none=>rw [Ze (by simp)];exact mh rfl rfl rfl
    | some q =>
     refine (mh rfl rfl (show eqT (.int (q:Int)) (.int (old:Int))=decide (some q=some old) from ?_))
     simp only [eqT]
     by_cases h:q=old
     ·subst h;simp
     ·have h1:¬ (q:Int)=(old:Int):=by omega
      have h2:¬ some q=some old:=fun z=>h (Zn z)
      rw [Ze h2]
      exact ZK.mpr h1
   unfold up2 at e
   split at e
   ·rename_i hq
    have W':=W.way (n:=n) (c:=c) (v:=v) hv hc
    obtain ⟨w1,w2,o',w3⟩:=ih _ S' (S.lk.getD n none) W' hv (fun m hm=>W.up n m hm) e
    refine ⟨w1,w2,o',fun N hN z=>?_⟩
    obtain ⟨N,rfl⟩:∃ M,N=M+1:=⟨N - 1,by omega⟩
    refine (kC (m:=.fr) ((cond z).trans (by rw [ZL hq])) ?_).trans (w3 N (by omega) z)
    unfold bL
    refine sq (uR (S:=S) (i:=n) (n:=.fr) (m:=.fr) (k:=.fr) (c:=c) (v:=v) hnw rfl rfl rfl (W.small n)) ?_
    have hlk:n < S.lk.length:=by rw [W.lk];exact hn
    exact aw (m:=.fr) (t:=lkT (S.lk.getD n none)) (qO (S:=⟨S.lg,S.lk,S.wy.set n (pW (S.wy.getD n []) c v)⟩) (m:=.bo) (n:=.fr) rfl rfl hlk) (by decide) (by decide:1 < 6)
   ·rename_i hq
    cases e
    refine ⟨W,rfl,some n,fun N hN z=>?_⟩
    obtain ⟨N,rfl⟩:∃ M,N=M+1:=⟨N - 1,by omega⟩
    exact eJ (m:=.fr) ((cond z).trans (by rw [Ze hq]))
theorem zT {c v:Nat} (hc:97<=c/\c<=122):∀ (k:Nat) (S S':St) (o o':Option Nat),WF S->v < S.lg.length->(∀ n,o=some n->n < S.lg.length)->up1 c v k S o=some (S',o')->WF S'/\S'.lg=S.lg/\(∀ n,o'=some n->n < S.lg.length)/\∀ N,k < N->∀ z:Wf,
  eE (gx (fX (aa 4)) (e2 dm (aa 2) (e2 aB (aV 3 (aa 0)) (aa 4)))) bK N [oc (obT S true),z,Q1 ([c]),Q0 (v:Int),pc (lkT o)] =
   some (.nx [oc (obT S' true),z,Q1 ([c]),Q0 (v:Int),pc (lkT o')]):=by
 intro k
 induction k with
 | zero =>
  intro S S' o o' W hv ho e
  cases o with
  | none =>
   cases (show some (S,none)=some (S',o') from e)
   refine ⟨W,rfl,(fun n h=>nomatch h),fun N hN z=>?_⟩
   obtain ⟨N,rfl⟩:∃ M,N=M+1:=⟨N - 1,by omega⟩
   exact eJ (m:=.fr) rfl
  | some n=>cases e
 | succ k ih =>
  intro S S' o o' W hv ho e
  cases o with
  | none =>
   cases (show some (S,none)=some (S',o') from e)
   refine ⟨W,rfl,(fun n h=>nomatch h),fun N hN z=>?_⟩
   obtain ⟨N,rfl⟩:∃ M,N=M+1:=⟨N - 1,by omega⟩
   exact eJ (m:=.fr) rfl
  | some n =>
   have hn:=ho n rfl
   have hnw:n < S.wy.length:=by rw [W.wy];exact hn
   have cond:∀ z:Wf,gx (fX (aa 4)) (e2 dm (aa 2) (e2 aB (aV 3 (aa 0)) (aa 4))) [oc (obT S true),z,Q1 ([c]),Q0 (v:Int),Q0 (n:Int)]=some (.fr,.bl (!(gW (S.wy.getD n []) c).isSome)):=fun z =>
    vV (m:=.fr) (x:=true) rfl (fun _=>Cz (m:=.bo) (n:=.fr) (kF (m:=.bo) (n:=.fr) rfl rfl hnw) rfl) (fun h=>by cases h)
   unfold up1 at e
   split at e
   ·rename_i hq
    cases e
    refine ⟨W,rfl,ho,fun N hN z=>?_⟩
    obtain ⟨N,rfl⟩:∃ M,N=M+1:=⟨N - 1,by omega⟩
    exact eJ (m:=.fr) ((cond z).trans (by rw [hq];rfl))
   ·rename_i hq
    have W':=W.way (n:=n) (c:=c) (v:=v) hv hc
    obtain ⟨w1,w2,w4,w3⟩:=ih _ S' (S.lk.getD n none) o' W' hv (fun m hm=>W.up n m hm) e
    refine ⟨w1,w2,w4,fun N hN z=>?_⟩
    obtain ⟨N,rfl⟩:∃ M,N=M+1:=⟨N - 1,by omega⟩
    have hq':(gW (S.wy.getD n []) c).isSome=false:=by simpa using hq
    refine (kC (m:=.fr) ((cond z).trans (by rw [hq'];rfl)) ?_).trans (w3 N (by omega) z)
    unfold bK
    refine sq (uR (S:=S) (i:=n) (n:=.fr) (m:=.fr) (k:=.fr) (c:=c) (v:=v) hnw rfl rfl rfl (W.small n)) ?_
    have hlk:n < S.lk.length:=by rw [W.lk];exact hn
    exact aw (m:=.fr) (t:=lkT (S.lk.getD n none)) (qO (S:=⟨S.lg,S.lk,S.wy.set n (pW (S.wy.getD n []) c v)⟩) (m:=.bo) (n:=.fr) rfl rfl hlk) (by decide) (by decide:4 < 5)
theorem Al (a b:Nat) {m n:Md}:oEq (m,.int (a:Int)) (n,.int (b:Int))=some (.fr,.bl (decide (a=b))):=mh rfl rfl (by
 simp only [eqT]
 by_cases h:a=b
 ·subst h;simp
 ·rw [Ze h]
  exact ZK.mpr (by omega))
theorem vN {S S':St} {n c r:Nat} (W:WF S) (hs:Sm S) (hn:n < S.lg.length) (hc:97<=c/\c<=122) (e:njb S n c=some (S',r)):WF S'/\r < S'.lg.length/\S.lg.length<=S'.lg.length/\S'.lg.length<=S.lg.length+1/\av (fsT S) [.int (n:Int),.str [c]]=some (fsT S',.int (r:Int)):=by
 unfold njb at e
 obtain ⟨old,ho,e⟩:=Zz.mp e
 have hold:=W.on n c old ho
 have hnw:n < S.wy.length:=by rw [W.wy];exact hn
 have how:old < S.wy.length:=by rw [W.wy];exact hold
 have hok:old < S.lk.length:=by rw [W.lk];exact hold
 have hs1:S.lg.length<=100001:=hs
 unfold av mfn
 rw [Zr ⟨rfl,rfl⟩]
 have s1:=aw (i:=3) (m:=.fr) (e:=e2 oIx (e2 aB (aV 3 (aa 0)) (aa 1)) (aa 2)) (η:=[oc (obT S true),Q0 (n:Int),Q1 ([c]),none,none,none]) (u4 (m:=.bo) (n:=.fr) (kF (m:=.bo) (n:=.fr) rfl rfl hnw) rfl ho) (by decide) (by decide:3 < 6)
 have s2:=aw (i:=4) (m:=.fr) (e:=e2 bD (e2 aB (aV 1 (aa 0)) (aa 1)) (Q2 1)) (η:=[oc (obT S true),Q0 (n:Int),Q1 ([c]),Q0 (old:Int),none,none]) (t:=.int ((S.lg.getD n 0+1:Nat):Int)) (e2v (nW (m:=.bo) (n:=.fr) rfl rfl hn) rfl rfl) (by decide) (by decide:4 < 6)
 have cd:e2 oEq (e2 aB (aV 1 (aa 0)) (aa 3)) (aa 4) [oc (obT S true),Q0 (n:Int),Q1 ([c]),Q0 (old:Int),Q0 ((S.lg.getD n 0+1:Nat):Int),none]=some (.fr,.bl (decide (S.lg.getD old 0=S.lg.getD n 0+1))):=e2v (nW (m:=.bo) (n:=.fr) rfl rfl hold) (y:=(.fr,.int ((S.lg.getD n 0+1:Nat):Int))) rfl (Al _ _)
 split at e
 ·rename_i hq
  obtain ⟨rfl,rfl⟩:=YR (Zn e)
  rw [ZL hq] at cd
  refine ⟨W,hold,Zl _,Xc _,?_⟩
  have body:∀ b:Sx,ak (aC 3 (e2 oIx (e2 aB (aV 3 (aa 0)) (aa 1)) (aa 2))) (ak (aC 4 (e2 bD (e2 aB (aV 1 (aa 0)) (aa 1)) (Q2 1))) (ak (sIf (e2 oEq (e2 aB (aV 1 (aa 0)) (aa 3)) (aa 4)) (gE 3) dF) b)) [oc (obT S true),Q0 (n:Int),Q1 ([c]),none,none,none]=some (.rt (.fr,.int (old:Int)) [oc (obT S true),Q0 (n:Int),Q1 ([c]),Q0 (old:Int),Q0 ((S.lg.getD n 0+1:Nat):Int),none]):=fun b =>
   sq s1 (sq s2 (gQ (ift cd rfl)))
  exact congrArg (fun z:Option Out=>z.bind _) (body _)
 ·rename_i hq
  rw [Ze hq] at cd
  obtain ⟨S2,e2',e3⟩:=Zu.mp e
  obtain ⟨rfl,rfl⟩:=YR e3
  have wn:=W.wnd old
  have W1:=W.more (l:=S.lg.getD n 0+1) (o:=S.lk.getD old none) (w:=S.wy.getD old []) (fun m hm=>W.up old m hm) (fun d m hm=>W.on old d m hm) wn.1 wn.2
  have hlen:(S.lg++[S.lg.getD n 0+1]).length=S.lg.length+1:=by rw [Zy];rfl
  have W2:=W1.link (n:=old) (v:=S.lg.length) (by show S.lg.length < (S.lg++[S.lg.getD n 0+1]).length;omega)
  obtain ⟨w1,w2,o',w3⟩:=zA hc 1000 _ S2 (some n) W2 (by show S.lg.length < (S.lg++[S.lg.getD n 0+1]).length;omega) (fun m hm=>by cases hm;show n < (S.lg++[S.lg.getD n 0+1]).length;omega) e2'
  have w2':S2.lg.length=S.lg.length+1:=by rw [w2];exact hlen
  refine ⟨w1,by omega,by omega,by omega,?_⟩
  have nw:=tN S (S.lg.getD n 0+1) (S.lk.getD old none) (S.wy.getD old []) (by omega) (by rw [W.lk];omega) (by rw [W.wy];omega)
  have args:ae (aa 4) (ae (e2 aB (aV 2 (aa 0)) (aa 3)) (ae (eN jS (ae (e2 aB (aV 3 (aa 0)) (aa 3)) ai)) ai)) [oc (obT S true),Q0 (n:Int),Q1 ([c]),Q0 (old:Int),Q0 ((S.lg.getD n 0+1:Nat):Int),none]=some [(.fr,.int ((S.lg.getD n 0+1:Nat):Int)),(.fr,lkT (S.lk.getD old none)),(.fr,wT' (S.wy.getD old []))] :=
   xv rfl (xv (qO (m:=.bo) (n:=.fr) rfl rfl hok) (xv (gL (xv (kF (m:=.bo) (n:=.fr) rfl rfl how) rfl) (by
    show (if fm (((S.wy.getD old []).map fun p=>(T.str [p.1],T.int (p.2:Int))).map (·.2))=true then some (Md.fr,wT' (S.wy.getD old [])) else none)=_
    rw [Zr (by rw [Z6];exact jf _ (fun _=>rfl) _)])) rfl))
  have ao:argsOk [false,false,true] [(.fr,.int ((S.lg.getD n 0+1:Nat):Int)),(.fr,lkT (S.lk.getD old none)),(.fr,wT' (S.wy.getD old []))]=true:=by
   show (true && (imm (lkT (S.lk.getD old none)) && true))=true
   rw [jZ]
   rfl
  have an:cE (trees [(Md.fr,T.int ((S.lg.getD n 0+1:Nat):Int)),(.fr,lkT (S.lk.getD old none)),(.fr,wT' (S.wy.getD old []))])=true:=by
   show (true && (eZ (lkT (S.lk.getD old none)) && (eZ (wT' (S.wy.getD old [])) && true)))=true
   rw [kI _ (jZ _),uJ]
   rfl
  have cm:=hZ (b:=true) args ao an nw rfl
  have s3:ic 5 (bA 0 [] 0 [false,false,true] aI (ae (aa 4) (ae (e2 aB (aV 2 (aa 0)) (aa 3)) (ae (eN jS (ae (e2 aB (aV 3 (aa 0)) (aa 3)) ai)) ai)))) [oc (obT S true),Q0 (n:Int),Q1 ([c]),Q0 (old:Int),Q0 ((S.lg.getD n 0+1:Nat):Int),none]=some (.nx [oc (obT ⟨S.lg++[S.lg.getD n 0+1],S.lk++[S.lk.getD old none],S.wy++[S.wy.getD old []]⟩ true),Q0 (n:Int),Q1 ([c]),Q0 (old:Int),Q0 ((S.lg.getD n 0+1:Nat):Int),Q0 (S.lg.length:Int)]):=by
   unfold ic
   rw [cm]
   rfl
  have s4:=vE (S:=⟨S.lg++[S.lg.getD n 0+1],S.lk++[S.lk.getD old none],S.wy++[S.wy.getD old []]⟩) (b:=true) (r:=[Q0 (n:Int),Q1 ([c]),Q0 (old:Int),Q0 ((S.lg.getD n 0+1:Nat):Int),Q0 (S.lg.length:Int)]) (i:=old) (v:=S.lg.length) (n:=.fr) (e:=aa 3) (ev:=aa 5) (by show old < (S.lk++[S.lk.getD old none]).length;rw [Zy];omega) rfl rfl
  have s5:=w3 sA (by decide) (Q0 ((S.lg.getD n 0+1:Nat):Int))
  exact congrArg (fun z:Option Out=>z.bind _) (sq s1 (sq s2 (sq (ko cd rfl) (sq s3 (sq s4 (sq s5 rfl))))))
theorem CD {S S':St} {h c r:Nat} (W:WF S) (hs1:S.lg.length<=100000) (hh:h < S.lg.length) (hc:97<=c/\c<=122) (e:hb S h c=some (S',r)):WF S'/\r < S'.lg.length/\S.lg.length<=S'.lg.length/\S'.lg.length<=S.lg.length+2/\bH (fsT S) [.int (h:Int),.str [c]]=some (fsT S',.int (r:Int)):=by
 have hw:h < S.wy.length:=by rw [W.wy];exact hh
 unfold hb at e
 unfold bH mfn
 rw [Zr ⟨rfl,rfl⟩]
 have cd:e2 kS (aa 2) (e2 aB (aV 3 (aa 0)) (aa 1)) [oc (obT S true),Q0 (h:Int),Q1 ([c]),none,none]=some (.fr,.bl (gW (S.wy.getD h []) c).isSome):=CP (m:=.bo) (n:=.fr) (kF (m:=.bo) (n:=.fr) rfl rfl hw) rfl
 split at e
 ·rename_i hq
  rw [hq] at cd
  obtain ⟨w1,w2,w3,w4,w5⟩:=vN W (Nat.le_succ_of_le hs1) hh hc e
  refine ⟨w1,w2,w3,by omega,?_⟩
  have cm:=hZ (mv:=[false,false]) (as:=ae (aa 1) (ae (aa 2) ai)) (xs:=[(.fr,.int (h:Int)),(.fr,.str [c])]) (b:=true) (r:=[Q0 (h:Int),Q1 ([c]),none,none]) rfl rfl rfl w5 rfl
  have s1:mP (bA 0 [] 0 [false,false] av (ae (aa 1) (ae (aa 2) ai))) [oc (obT S true),Q0 (h:Int),Q1 ([c]),none,none]=some (.rt (.fr,.int (r:Int)) [oc (obT S' true),Q0 (h:Int),Q1 ([c]),none,none]):=by
   unfold mP
   rw [cm]
   rfl
  exact congrArg (fun z:Option Out=>z.bind _) (gQ (ift cd s1))
 ·rename_i hq
  have hq':(gW (S.wy.getD h []) c).isSome=false:=by simpa using hq
  rw [hq'] at cd
  obtain ⟨⟨S2,o⟩,e1,e2'⟩:=Zz.mp e
  have W1:=W.more (l:=S.lg.getD h 0+1) (o:=some 0) (w:=[]) (fun m hm=>by cases hm;exact W.pos) (fun d m hm=>by cases hm) Yd (fun p hp=>nomatch hp)
  have hlen:(S.lg++[S.lg.getD h 0+1]).length=S.lg.length+1:=by rw [Zy];rfl
  obtain ⟨w1,w2,w3,w4⟩:=zT hc 1000 _ S2 (some h) o W1 (by show S.lg.length < (S.lg++[S.lg.getD h 0+1]).length;omega) (fun m hm=>by cases hm;show h < (S.lg++[S.lg.getD h 0+1]).length;omega) e1
  have w2':S2.lg.length=S.lg.length+1:=by rw [w2];exact hlen
  have nw:=tN S (S.lg.getD h 0+1) (some 0) [] (by omega) (by rw [W.lk];omega) (by rw [W.wy];omega)
  have args:ae (e2 bD (e2 aB (aV 1 (aa 0)) (aa 1)) (Q2 1)) (ae (Q2 0) (ae (kJ 0 []) ai)) [oc (obT S true),Q0 (h:Int),Q1 ([c]),none,none]=some [(.fr,.int ((S.lg.getD h 0+1:Nat):Int)),(.fr,.int 0),(.fr,.dct 0 [])] :=
   xv (e2v (nW (m:=.bo) (n:=.fr) rfl rfl hh) rfl rfl) (xv rfl (xv rfl rfl))
  have cm:=hZ (mv:=[false,false,true]) (b:=true) args rfl rfl nw rfl
  have s1:ic 3 (bA 0 [] 0 [false,false,true] aI (ae (e2 bD (e2 aB (aV 1 (aa 0)) (aa 1)) (Q2 1)) (ae (Q2 0) (ae (kJ 0 []) ai)))) [oc (obT S true),Q0 (h:Int),Q1 ([c]),none,none]=some (.nx [oc (obT ⟨S.lg++[S.lg.getD h 0+1],S.lk++[some 0],S.wy++[[]]⟩ true),Q0 (h:Int),Q1 ([c]),Q0 (S.lg.length:Int),none]):=by
   unfold ic
   rw [cm]
   rfl
  have s2:=w4 sA (by decide) (Q0 (h:Int))
  have hd:∀ b:Sx,ak (sIf (e2 kS (aa 2) (e2 aB (aV 3 (aa 0)) (aa 1))) (mP (bA 0 [] 0 [false,false] av (ae (aa 1) (ae (aa 2) ai)))) dF)
    (ak (ic 3 (bA 0 [] 0 [false,false,true] aI (ae (e2 bD (e2 aB (aV 1 (aa 0)) (aa 1)) (Q2 1)) (ae (Q2 0) (ae (kJ 0 []) ai)))))
    (ak (aC 4 (aa 1)) (ak (j5 (gx (fX (aa 4)) (e2 dm (aa 2) (e2 aB (aV 3 (aa 0)) (aa 4)))) bK) b))) [oc (obT S true),Q0 (h:Int),Q1 ([c]),none,none] =
    b [oc (obT S2 true),Q0 (h:Int),Q1 ([c]),Q0 (S.lg.length:Int),pc (lkT o)]:=fun b =>
   sq (ko cd rfl) (sq s1 (sq rfl (aG s2)))
  cases o with
  | none =>
   obtain ⟨rfl,rfl⟩:=YR (Zn e2')
   have fin:ak (sIf (fX (aa 4)) (iS 0 [.fld 2] (aa 3) (bA 0 [] 0 [false,false] av (ae (aa 4) (ae (aa 2) ai)))) dF) (gE 3) [oc (obT S2 true),Q0 (h:Int),Q1 ([c]),Q0 (S.lg.length:Int),pc (lkT none)] =
     some (.rt (.fr,.int (S.lg.length:Int)) [oc (obT S2 true),Q0 (h:Int),Q1 ([c]),Q0 (S.lg.length:Int),pc (lkT none)]):=sq (ko (m:=.fr) rfl rfl) rfl
   refine ⟨w1,by show S.lg.length < S2.lg.length;omega,by show S.lg.length<=S2.lg.length;omega,by show S2.lg.length<=_;omega,?_⟩
   exact congrArg (fun z:Option Out=>z.bind _) ((hd _).trans fin)
  | some n =>
   obtain ⟨⟨S3,m⟩,e3,e4⟩:=Zu.mp e2'
   obtain ⟨rfl,rfl⟩:=YR e4
   have hn:n < S2.lg.length:=by
    have:=w3 n rfl
    rw [w2]
    exact this
   obtain ⟨v1,v2,v3,v4,v5⟩:=vN w1 (by show S2.lg.length<=100001;omega) hn hc e3
   have v6:=v1.link (n:=S.lg.length) (v:=m) v2
   have cm:=hZ (mv:=[false,false]) (as:=ae (aa 4) (ae (aa 2) ai)) (xs:=[(.fr,.int (n:Int)),(.fr,.str [c])]) (b:=true) (r:=[Q0 (h:Int),Q1 ([c]),Q0 (S.lg.length:Int),Q0 (n:Int)]) rfl rfl rfl v5 rfl
   have pl:=vE (S:=S3) (b:=true) (r:=[Q0 (h:Int),Q1 ([c]),Q0 (S.lg.length:Int),Q0 (n:Int)]) (i:=S.lg.length) (v:=m) (n:=.fr) (e:=aa 3) (ev:=fun _=>some (.fr,.int (m:Int))) (by rw [v1.lk];omega) rfl rfl
   have s3:iS 0 [.fld 2] (aa 3) (bA 0 [] 0 [false,false] av (ae (aa 4) (ae (aa 2) ai))) [oc (obT S2 true),Q0 (h:Int),Q1 ([c]),Q0 (S.lg.length:Int),Q0 (n:Int)]=some (.nx [oc (obT ⟨S3.lg,S3.lk.set S.lg.length (some m),S3.wy⟩ true),Q0 (h:Int),Q1 ([c]),Q0 (S.lg.length:Int),Q0 (n:Int)]):=by
    unfold iS
    rw [cm]
    exact pl
   have fin:ak (sIf (fX (aa 4)) (iS 0 [.fld 2] (aa 3) (bA 0 [] 0 [false,false] av (ae (aa 4) (ae (aa 2) ai)))) dF) (gE 3) [oc (obT S2 true),Q0 (h:Int),Q1 ([c]),Q0 (S.lg.length:Int),Q0 (n:Int)] =
     some (.rt (.fr,.int (S.lg.length:Int)) [oc (obT ⟨S3.lg,S3.lk.set S.lg.length (some m),S3.wy⟩ true),Q0 (h:Int),Q1 ([c]),Q0 (S.lg.length:Int),Q0 (n:Int)]):=sq (ift (m:=.fr) rfl s3) rfl
   refine ⟨v6,by show S.lg.length < S3.lg.length;omega,by show S.lg.length<=S3.lg.length;omega,by show S3.lg.length<=_;omega,?_⟩
   exact congrArg (fun z:Option Out=>z.bind _) ((hd _).trans fin)
theorem uY {S S':St}:∀ {word:Wi} {h r:Nat},WF S->S.lg.length+2 * word.length<=100000->h < S.lg.length->(∀ c∈word,97<=c/\c<=122)->hg S h word=some (S',r) →
  WF S'/\r < S'.lg.length/\S'.lg.length<=S.lg.length+2 * word.length/\∀ z3:Wf,∀ z2:T,∃ z3',forL (bF 3) bW (word.map fun c=>T.str [c]) [oc (obT S true),Q0 (h:Int),pc z2,z3]=some (.nx [oc (obT S' true),Q0 (r:Int),pc z2,z3'])
 | [],h,r,W,hl,hh,hc,e=>by
  obtain ⟨rfl,rfl⟩:=YR (Zn e)
  exact ⟨W,hh,by simp,fun z3 z2=>⟨z3,rfl⟩⟩
 | c :: word,h,r,W,hl,hh,hc,e=>by
  obtain ⟨⟨S1,h1⟩,e1,e2'⟩:=Zz.mp e
  rw [Zk] at hl
  obtain ⟨w1,w2,w3,w4,w5⟩:=CD W (by omega) hh (hc c Zx) e1
  obtain ⟨v1,v2,v3,v4⟩:=uY (S:=S1) (S':=S') (word:=word) w1 (by omega) w2 (fun d hd=>hc d (Zw _ hd)) e2'
  refine ⟨v1,v2,by rw [Zk];omega,fun z3 z2=>?_⟩
  obtain ⟨z3',q⟩:=v4 (Q1 ([c])) z2
  refine ⟨z3',?_⟩
  rw [Zs]
  refine (dr (η1:=[oc (obT S true),Q0 (h:Int),pc z2,Q1 ([c])]) rfl ?_).trans q
  have cm:=hZ (mv:=[false,false]) (as:=ae (aa 1) (ae (aa 3) ai)) (xs:=[(.fr,.int (h:Int)),(.fr,.str [c])]) (b:=true) (r:=[Q0 (h:Int),pc z2,Q1 ([c])]) rfl rfl rfl w5 rfl
  unfold bW ic
  rw [cm]
  rfl
theorem yW {S S':St} {word:Tx} {h r:Nat} (W:WF S) (hl:S.lg.length+2 * word.length<=100000) (hh:h < S.lg.length) (hc:∀ c∈word,97<=c/\c<=122) (e:hg S h word=some (S',r)) :
  WF S'/\r < S'.lg.length/\S'.lg.length<=S.lg.length+2 * word.length/\aP (fsT S) [.int (h:Int),.str word]=some (fsT S',.int (r:Int)):=by
 obtain ⟨w1,w2,w3,w4⟩:=uY W hl hh hc e
 obtain ⟨z3,q⟩:=w4 none (.str word)
 refine ⟨w1,w2,w3,?_⟩
 unfold aP mfn
 rw [Zr ⟨rfl,rfl⟩]
 have s1:=(fC (tg:=bF 3) (it:=g8 (aa 2)) (body:=bW) (η:=[oc (obT S true),Q0 (h:Int),Q1 word,none]) (m:=.fr) (l:=word.map fun c=>T.str [c]) rfl rfl).trans q
 exact congrArg (fun z:Option Out=>z.bind _) (sq s1 rfl)
end T58
end
section
namespace AU
noncomputable abbrev Wd:=Wi
noncomputable abbrev W (wd:List Wd) (n:Nat):Wd:=wd.getD n []
structure I (fr:Option Nat) (S:St) (nd:Wd->Option Nat) (wd:List Wd):Prop where
 wf:WF S
 len:wd.length=S.lg.length
 lg:∀ n,n < wd.length->S.lg.getD n 0=(W wd n).length
 z:nd []=some 0
 wz:W wd 0=[]
 lt:∀ {x n},nd x=some n->n < wd.length
 sf:∀ {x n},nd x=some n->x <:+ W wd n
 top:∀ {n},n < wd.length->nd (W wd n)=some n
 iv:∀ {x y n},nd x=some n->x <:+ y->y <:+ W wd n->nd y=some n
 pre:∀ {x c n},nd (x++[c])=some n->∃ m,nd x=some m
 suf:∀ {x y n},nd y=some n->x <:+ y->∃ m,nd x=some m
 lk0:S.lk.getD 0 none=none
 lk:∀ {n},0 < n->n < wd.length->some n ≠ fr->∃ m,S.lk.getD n none=some m/\(m < wd.length/\some m ≠ fr)/\W wd m <:+ W wd n/\(W wd m).length < (W wd n).length/\∀ y,y <:+ W wd n->(W wd m).length < y.length->nd y=some n
 wy:∀ {x n},nd x=some n->∀ c,gW (S.wy.getD n []) c=nd (x++[c])
theorem c8 {α:Type} {x y w:List α} (h1:x <:+ w) (h2:y <:+ w) (hl:x.length<=y.length):x <:+ y:=List.suffix_of_suffix_length_le h1 h2 hl
section
variable {fr:Option Nat} {S:St} {nd:Wd->Option Nat} {wd:List Wd}
theorem I.up (H:I fr S nd wd):∀ (k n:Nat) (x:Wd),(W wd n).length<=k->n < wd.length->some n ≠ fr->x <:+ W wd n->∃ m,nd x=some m/\W wd m <:+ W wd n:=by
 intro k
 induction k with
 | zero =>
  intro n x hk hn hf hx
  have e:W wd n=[]:=XS.mp (Nat.le_zero.mp hk)
  rw [e] at hx
  have:x=[]:=Yq.mp hx
  subst this
  exact ⟨0,H.z,by rw [H.wz];exact Xl⟩
 | succ k ih =>
  intro n x hk hn hf hx
  by_cases h0:n=0
  ·subst h0
   rw [H.wz] at hx
   have:x=[]:=Yq.mp hx
   subst this
   exact ⟨0,H.z,Yx _⟩
  ·obtain ⟨m,h1,⟨h2,h2'⟩,h3,h4,h5⟩:=H.lk (Yk h0) hn hf
   by_cases hl:(W wd m).length < x.length
   ·exact ⟨n,h5 x hx hl,Yx _⟩
   ·obtain ⟨q,q1,q2⟩:=ih m x (by omega) h2 h2' (c8 hx h3 (by omega))
    exact ⟨q,q1,q2.trans h3⟩
theorem I.up' (H:I fr S nd wd) {n:Nat} {x:Wd} (hn:n < wd.length) (hf:some n ≠ fr) (hx:x <:+ W wd n):∃ m,nd x=some m/\W wd m <:+ W wd n:=H.up _ n x (Zl _) hn hf hx
theorem I.all (H:I fr S nd wd) {n q:Nat} {x y:Wd} (hq:q < wd.length) (hf:some q ≠ fr) (hx:nd x=some n) (hy:nd y=some n) (h:x <:+ W wd q):y <:+ W wd q:=by
 obtain ⟨m,h1,h2⟩:=H.up' hq hf h
 rw [hx] at h1
 cases h1
 exact (H.sf hy).trans h2
theorem I.inj (H:I fr S nd wd) {m n:Nat} (hm:m < wd.length) (hn:n < wd.length) (h:W wd m=W wd n):m=n:=by
 have:=H.top hm
 rw [h,H.top hn] at this
 exact (Zn this).symm
theorem I.way (H:I fr S nd wd) {n c old:Nat} (hn:n < wd.length) (h:gW (S.wy.getD n []) c=some old):nd (W wd n++[c])=some old:=by
 rw [← H.wy (H.top hn) c]
 exact h
theorem I.zero (H:I fr S nd wd) {x:Wd} (h:nd x=some 0):x=[]:=by
 have:=H.sf h
 rw [H.wz] at this
 exact Yq.mp this
theorem I.low (H:I fr S nd wd) {n m:Nat} {y:Wd} (hf:some n ≠ fr) (hl:S.lk.getD n none=some m) (hy:nd y=some n):(W wd m).length < y.length/\m < wd.length/\W wd m <:+ W wd n/\some m ≠ fr:=by
 have hn:=H.lt hy
 by_cases h0:n=0
 ·subst h0;rw [H.lk0] at hl;cases hl
 ·obtain ⟨m',h1,⟨h2,h2'⟩,h3,h4,h5⟩:=H.lk (Yk h0) hn hf
  rw [h1] at hl
  cases hl
  refine ⟨Wq fun hle=>?_,h2,h3,h2'⟩
  have:=H.iv hy (c8 (H.sf hy) h3 hle) h3
  rw [H.top h2] at this
  cases this
  exact Yn _ h4
theorem I.below (H:I fr S nd wd) {n q m:Nat} (hn:n < wd.length) (hf:some n ≠ fr) (hl:S.lk.getD n none=some q) (hm:m < wd.length) (hs:W wd m <:+ W wd n) (hne:m ≠ n):W wd m <:+ W wd q:=by
 by_cases h0:n=0
 ·subst h0;rw [H.lk0] at hl;cases hl
 ·obtain ⟨q',h1,⟨h2,_⟩,h3,h4,h5⟩:=H.lk (Yk h0) hn hf
  rw [h1] at hl
  cases hl
  refine c8 hs h3 (ZD fun hlt=>hne ?_)
  have:=h5 _ hs hlt
  rw [H.top hm] at this
  exact Zn this
theorem I.root (H:I fr S nd wd) {n m:Nat} (hn:n < wd.length) (hf:some n ≠ fr) (hl:S.lk.getD n none=none) (hm:m < wd.length) (hs:W wd m <:+ W wd n):m=n:=by
 have h0:n=0:=Nat.eq_zero_of_not_pos fun hp=>by
  obtain ⟨q,h1,_⟩:=H.lk hp hn hf
  rw [h1] at hl
  cases hl
 subst h0
 rw [H.wz] at hs
 exact H.inj hm hn (by rw [H.wz,Yq.mp hs])
theorem gf (wy:List (List (Nat×Nat))) (n m c v d:Nat) (hn:n < wy.length):gW ((wy.set n (pW (wy.getD n []) c v)).getD m []) d=if m=n/\d=c then some v else gW (wy.getD m []) d:=by
 rw [gA]
 by_cases h:n=m
 ·subst h
  rw [Zr ⟨rfl,hn⟩,yU]
  by_cases hd:d=c
  ·rw [Zr hd,Zr ⟨rfl,hd⟩]
  ·rw [Zo hd,Zo (fun z=>hd z.2)]
 ·rw [Zo (fun z=>h z.1),Zo (fun z=>h z.1.symm)]
theorem I.climb2 (H:I fr S nd wd) {c old v:Nat}:∀ (k:Nat) (T:St) (n:Nat),n < wd.length->some n ≠ fr->(W wd n).length < k->(∀ m,m < wd.length->W wd m <:+ W wd n->T.lk.getD m none=S.lk.getD m none)->wd.length<=T.wy.length →
  (∀ m m',m < wd.length->m' < wd.length->W wd m <:+ W wd m'->W wd m' <:+ W wd n->gW (T.wy.getD m []) c=some old->gW (T.wy.getD m' []) c=some old) →
  ∃ wy',up2 c old v k T (some n)=some ⟨T.lg,T.lk,wy'⟩/\wy'.length=T.wy.length/\∀ m d,gW (wy'.getD m []) d=if d=c/\m < wd.length/\W wd m <:+ W wd n/\gW (T.wy.getD m []) c=some old then some v else gW (T.wy.getD m []) d:=by
 intro k
 induction k with
 | zero=>intro T n _ _ h;omega
 | succ k ih =>
  intro T n hn hf hk hlk hw mono
  have hnw:n < T.wy.length:=ZM hn hw
  unfold up2
  by_cases hq:gW (T.wy.getD n []) c=some old
  ·rw [Zr hq,hlk n hn (Yx _)]
   cases hl:S.lk.getD n none with
   | none =>
    refine ⟨T.wy.set n (pW (T.wy.getD n []) c v),by cases k <;> rfl,Yu,fun m d=>?_⟩
    rw [gf _ _ _ _ _ _ hnw]
    by_cases hm:m=n/\d=c
    ·rw [Zr hm,Zr ⟨hm.2,by rw [hm.1];exact hn,by rw [hm.1];exact Yx _,by rw [hm.1];exact hq⟩]
    ·rw [Zo hm,Zo fun z=>hm ⟨H.root hn hf hl z.2.1 z.2.2.1,z.1⟩]
   | some q =>
    obtain ⟨l1,l2,l3,l4⟩:=H.low hf hl (H.top hn)
    have ne:∀ m,W wd m <:+ W wd q->m ≠ n:=fun m hm e=>by
     rw [e] at hm
     have:=hm.length_le
     omega
    obtain ⟨wy',e1,e2,e3⟩:=ih ⟨T.lg,T.lk,T.wy.set n (pW (T.wy.getD n []) c v)⟩ q l2 l4 (by omega) (fun m hm hs=>hlk m hm (hs.trans l3)) (by show _<=(T.wy.set _ _).length;rw [Yu];exact hw) (fun m m' hm hm' hs hs' h=>by
     have h':gW ((T.wy.set n (pW (T.wy.getD n []) c v)).getD m []) c=some old:=h
     show gW ((T.wy.set n (pW (T.wy.getD n []) c v)).getD m' []) c=some old
     rw [gf _ _ _ _ _ _ hnw,Zo (fun z=>ne m (hs.trans hs') z.1)] at h'
     rw [gf _ _ _ _ _ _ hnw,Zo (fun z=>ne m' hs' z.1)]
     exact mono m m' hm hm' hs (hs'.trans l3) h')
    refine ⟨wy',e1,by rw [e2];exact Yu,fun m d=>?_⟩
    rw [e3 m d]
    show (if d=c/\m < wd.length/\W wd m <:+ W wd q/\gW ((T.wy.set n (pW (T.wy.getD n []) c v)).getD m []) c=some old then some v else gW ((T.wy.set n (pW (T.wy.getD n []) c v)).getD m []) d)=_
    by_cases hm:m=n
    ·subst hm
     rw [Zo (fun z=>ne m z.2.2.1 rfl),gf _ _ _ _ _ _ hnw]
     by_cases hd:d=c
     ·rw [Zr ⟨rfl,hd⟩,Zr ⟨hd,hn,Yx _,hq⟩]
     ·rw [Zo (fun z=>hd z.2),Zo (fun z=>hd z.1)]
    ·have g1:∀ d,gW ((T.wy.set n (pW (T.wy.getD n []) c v)).getD m []) d=gW (T.wy.getD m []) d:=fun d=>by rw [gf _ _ _ _ _ _ hnw,Zo (fun z=>hm z.1)]
     rw [g1,g1]
     by_cases hc:d=c/\m < wd.length/\W wd m <:+ W wd n/\gW (T.wy.getD m []) c=some old
     ·rw [Zr hc,Zr ⟨hc.1,hc.2.1,H.below hn hf hl hc.2.1 hc.2.2.1 hm,hc.2.2.2⟩]
     ·rw [Zo hc,Zo fun z=>hc ⟨z.1,z.2.1,z.2.2.1.trans l3,z.2.2.2⟩]
  ·rw [Zo hq]
   refine ⟨T.wy,rfl,rfl,fun m d=>?_⟩
   rw [Zo fun z=>hq (mono m n z.2.1 hn z.2.2.1 (Yx _) z.2.2.2)]
theorem I.climb1 (H:I fr S nd wd) {c v:Nat}:∀ (k:Nat) (T:St) (n:Nat),n < wd.length->some n ≠ fr->(W wd n).length < k->(∀ m,m < wd.length->W wd m <:+ W wd n->T.lk.getD m none=S.lk.getD m none)->wd.length<=T.wy.length →
  (∀ m m',m < wd.length->m' < wd.length->W wd m <:+ W wd m'->W wd m' <:+ W wd n->(gW (T.wy.getD m' []) c).isSome->(gW (T.wy.getD m []) c).isSome) →
  ∃ wy' o',up1 c v k T (some n)=some (⟨T.lg,T.lk,wy'⟩,o')/\wy'.length=T.wy.length/\(∀ m d,gW (wy'.getD m []) d=if d=c/\m < wd.length/\W wd m <:+ W wd n/\gW (T.wy.getD m []) c=none then some v else gW (T.wy.getD m []) d) ∧
   (o'=none->∀ m,m < wd.length->W wd m <:+ W wd n->gW (T.wy.getD m []) c=none) ∧
   ∀ p,o'=some p->p < wd.length/\W wd p <:+ W wd n/\(gW (T.wy.getD p []) c).isSome/\∀ m,m < wd.length->W wd m <:+ W wd n->(W wd p).length < (W wd m).length->gW (T.wy.getD m []) c=none:=by
 intro k
 induction k with
 | zero=>intro T n _ _ h;omega
 | succ k ih =>
  intro T n hn hf hk hlk hw mono
  have hnw:n < T.wy.length:=ZM hn hw
  unfold up1
  by_cases hq:(gW (T.wy.getD n []) c).isSome=true
  ·rw [Zr hq]
   refine ⟨T.wy,some n,rfl,rfl,fun m d=>?_,(fun h=>nomatch h),fun p hp=>?_⟩
   ·rw [Zo fun z=>?_]
    have:=mono m n z.2.1 hn z.2.2.1 (Yx _) hq
    rw [z.2.2.2] at this
    cases this
   ·cases hp
    refine ⟨hn,Yx _,hq,fun m hm hs hl=>?_⟩
    have:=hs.length_le
    omega
  ·have hq':gW (T.wy.getD n []) c=none:=by
    cases h:gW (T.wy.getD n []) c with
    | none=>rfl
    | some x=>rw [h] at hq;exact absurd rfl hq
   rw [Zo hq,hlk n hn (Yx _)]
   cases hl:S.lk.getD n none with
   | none =>
    refine ⟨T.wy.set n (pW (T.wy.getD n []) c v),none,by cases k <;> rfl,Yu,fun m d=>?_,fun _ m hm hs=>?_,(fun p hp=>nomatch hp)⟩
    ·rw [gf _ _ _ _ _ _ hnw]
     by_cases hm:m=n/\d=c
     ·rw [Zr hm,Zr ⟨hm.2,by rw [hm.1];exact hn,by rw [hm.1];exact Yx _,by rw [hm.1];exact hq'⟩]
     ·rw [Zo hm,Zo fun z=>hm ⟨H.root hn hf hl z.2.1 z.2.2.1,z.1⟩]
    ·rw [H.root hn hf hl hm hs];exact hq'
   | some q =>
    obtain ⟨l1,l2,l3,l4⟩:=H.low hf hl (H.top hn)
    have ne:∀ m,W wd m <:+ W wd q->m ≠ n:=fun m hm e=>by
     rw [e] at hm
     have:=hm.length_le
     omega
    obtain ⟨wy',o',e1,e2,e3,e4,e5⟩:=ih ⟨T.lg,T.lk,T.wy.set n (pW (T.wy.getD n []) c v)⟩ q l2 l4 (by omega) (fun m hm hs=>hlk m hm (hs.trans l3)) (by show _<=(T.wy.set _ _).length;rw [Yu];exact hw) (fun m m' hm hm' hs hs' h=>by
     have h':(gW ((T.wy.set n (pW (T.wy.getD n []) c v)).getD m' []) c).isSome:=h
     show (gW ((T.wy.set n (pW (T.wy.getD n []) c v)).getD m []) c).isSome
     rw [gf _ _ _ _ _ _ hnw,Zo (fun z=>ne m' hs' z.1)] at h'
     rw [gf _ _ _ _ _ _ hnw,Zo (fun z=>ne m (hs.trans hs') z.1)]
     exact mono m m' hm hm' hs (hs'.trans l3) h')
    have old:∀ m,W wd m <:+ W wd q->gW ((T.wy.set n (pW (T.wy.getD n []) c v)).getD m []) c=gW (T.wy.getD m []) c:=fun m hm=>by rw [gf _ _ _ _ _ _ hnw,Zo (fun z=>ne m hm z.1)]
    refine ⟨wy',o',e1,by rw [e2];exact Yu,fun m d=>?_,fun ho m hm hs=>?_,fun p hp=>?_⟩
    ·rw [e3 m d]
     show (if d=c/\m < wd.length/\W wd m <:+ W wd q/\gW ((T.wy.set n (pW (T.wy.getD n []) c v)).getD m []) c=none then some v else gW ((T.wy.set n (pW (T.wy.getD n []) c v)).getD m []) d)=_
     by_cases hm:m=n
     ·subst hm
      rw [Zo (fun z=>ne m z.2.2.1 rfl),gf _ _ _ _ _ _ hnw]
      by_cases hd:d=c
      ·rw [Zr ⟨rfl,hd⟩,Zr ⟨hd,hn,Yx _,hq'⟩]
      ·rw [Zo (fun z=>hd z.2),Zo (fun z=>hd z.1)]
     ·have g1:∀ d,gW ((T.wy.set n (pW (T.wy.getD n []) c v)).getD m []) d=gW (T.wy.getD m []) d:=fun d=>by rw [gf _ _ _ _ _ _ hnw,Zo (fun z=>hm z.1)]
      rw [g1,g1]
      by_cases hc:d=c/\m < wd.length/\W wd m <:+ W wd n/\gW (T.wy.getD m []) c=none
      ·rw [Zr hc,Zr ⟨hc.1,hc.2.1,H.below hn hf hl hc.2.1 hc.2.2.1 hm,hc.2.2.2⟩]
      ·rw [Zo hc,Zo fun z=>hc ⟨z.1,z.2.1,z.2.2.1.trans l3,z.2.2.2⟩]
    ·by_cases hmn:m=n
     ·rw [hmn];exact hq'
     ·have hb:=H.below hn hf hl hm hs hmn
      rw [← old m hb]
      exact e4 ho m hm hb
    ·obtain ⟨p1,p2,p3,p4⟩:=e5 p hp
     have p3':(gW ((T.wy.set n (pW (T.wy.getD n []) c v)).getD p []) c).isSome:=p3
     rw [old p p2] at p3'
     refine ⟨p1,p2.trans l3,p3',fun m hm hs hlt=>?_⟩
     by_cases hmn:m=n
     ·rw [hmn];exact hq'
     ·have hb:=H.below hn hf hl hm hs hmn
      rw [← old m hb]
      exact p4 m hm hb hlt
end
theorem AG {c old v:Nat} (hc:97<=c/\c<=122):∀ (k:Nat) (S S':St) (o:Option Nat),WF S->v < S.lg.length->up2 c old v k S o=some S'->WF S':=by
 intro k
 induction k with
 | zero =>
  intro S S' o H hv e
  cases o with
  | none=>cases (show some S=some S' from e);exact H
  | some n=>cases e
 | succ k ih =>
  intro S S' o H hv e
  cases o with
  | none=>cases (show some S=some S' from e);exact H
  | some n =>
   unfold up2 at e
   split at e
   ·exact ih ⟨S.lg,S.lk,S.wy.set n (pW (S.wy.getD n []) c v)⟩ S' _ (H.way (n:=n) hv hc) hv e
   ·cases e;exact H
theorem Ab {c v:Nat} (hc:97<=c/\c<=122):∀ (k:Nat) (S S':St) (o o':Option Nat),WF S->v < S.lg.length->up1 c v k S o=some (S',o')->WF S':=by
 intro k
 induction k with
 | zero =>
  intro S S' o o' H hv e
  cases o with
  | none=>cases (show some (S,none)=some (S',o') from e);exact H
  | some n=>cases e
 | succ k ih =>
  intro S S' o o' H hv e
  cases o with
  | none=>cases (show some (S,none)=some (S',o') from e);exact H
  | some n =>
   unfold up1 at e
   split at e
   ·cases e;exact H
   ·exact ih ⟨S.lg,S.lk,S.wy.set n (pW (S.wy.getD n []) c v)⟩ S' _ o' (H.way (n:=n) hv hc) hv e
theorem ir {α:Type} {x y:List α} {a b:α} (h:x++[a] <:+ y++[b]):a=b/\x <:+ y:=by
 obtain ⟨t,e⟩:=h
 rw [← Z1] at e
 obtain ⟨e1,e2⟩:=List.append_inj' e rfl
 exact ⟨by simpa using e2,⟨t,e1⟩⟩
theorem gy {α:Type} {x y:List α} (a:α) (h:x <:+ y):x++[a] <:+ y++[a]:=by
 obtain ⟨t,e⟩:=h
 exact ⟨t,by rw [← e,Z1]⟩
noncomputable def g9 (nd:Wd->Option Nat) (old l h:Nat) (x:Wd):Option Nat:=if nd x=some old/\x.length<=l then some h else nd x
theorem I.split {fr:Option Nat} {S:St} {nd:Wd->Option Nat} {wd:List Wd} (H:I fr S nd wd) {n c old:Nat} (hn:n < wd.length) (hf:some n ≠ fr) (hc:97<=c/\c<=122) (ho:gW (S.wy.getD n []) c=some old) (hof:some old ≠ fr) (hfr:fr ≠ some wd.length) (hne:S.lg.getD old 0 ≠ S.lg.getD n 0+1) (hk:(W wd n).length < 1000) :
  ∃ S',njb S n c=some (S',S.lg.length)/\I fr S' (g9 nd old ((W wd n).length+1) wd.length) (wd++[W wd n++[c]]):=by
 have hL:S.lg.length=wd.length:=H.len.symm
 have hw:=H.way hn ho
 have hold:=H.lt hw
 have hsf:=H.sf hw
 have lw:(W wd n++[c]).length=(W wd n).length+1:=by rw [Zy];rfl
 rw [H.lg old hold,H.lg n hn] at hne
 have hlt:(W wd n).length+1 < (W wd old).length:=by
  have:=hsf.length_le
  rw [lw] at this
  omega
 have o0:old ≠ 0:=fun e=>by
  rw [e,H.wz] at hlt
  simp at hlt
 have hLp:0 < wd.length:=by rw [H.len];exact H.wf.pos
 have l1:S.lk.length=wd.length:=by rw [H.wf.lk,hL]
 have l2:S.wy.length=wd.length:=by rw [H.wf.wy,hL]
 have lk':∀ m,((S.lk++[S.lk.getD old none]).set old (some S.lg.length)).getD m none=if m=old then some wd.length else if m=wd.length then S.lk.getD old none else S.lk.getD m none:=fun m=>by
  rw [gA,bR,l1,hL]
  by_cases h:m=old
  ·rw [Zr ⟨h.symm,by rw [Zy,l1];omega⟩,Zr h]
  ·rw [Zo (fun z=>h z.1.symm),Zo h]
 have wy':∀ m,(S.wy++[S.wy.getD old []]).getD m []=if m=wd.length then S.wy.getD old [] else S.wy.getD m []:=fun m=>by rw [bR,l2]
 have wyl:∀ m,m < wd.length->(S.wy++[S.wy.getD old []]).getD m []=S.wy.getD m []:=fun m hm=>by rw [wy',Zo (ZS hm)]
 obtain ⟨w2,e1,e2,e3⟩:=H.climb2 (c:=c) (old:=old) (v:=S.lg.length) 1000 ⟨S.lg++[S.lg.getD n 0+1],(S.lk++[S.lk.getD old none]).set old (some S.lg.length),S.wy++[S.wy.getD old []]⟩ n hn hf hk (fun m hm hs=>by
   have:=hs.length_le
   show ((S.lk++[S.lk.getD old none]).set old (some S.lg.length)).getD m none=_
   rw [lk',Zo (fun e=>by rw [e] at this;omega),Zo (ZS hm)])
  (by show _<=(S.wy++[S.wy.getD old []]).length;rw [Zy,l2];omega)
  (fun m m' hm hm' hs hs' h=>by
   have h':gW ((S.wy++[S.wy.getD old []]).getD m []) c=some old:=h
   show gW ((S.wy++[S.wy.getD old []]).getD m' []) c=some old
   rw [wyl m hm] at h'
   rw [wyl m' hm',H.wy (H.top hm') c]
   rw [H.wy (H.top hm) c] at h'
   exact H.iv h' (gy c hs) ((gy c hs').trans hsf))
 have wn:=H.wf.wnd old
 have W1:=H.wf.more (l:=S.lg.getD n 0+1) (o:=S.lk.getD old none) (w:=S.wy.getD old []) (fun m hm=>H.wf.up old m hm) (fun d m hm=>H.wf.on old d m hm) wn.1 wn.2
 have hlen:(S.lg++[S.lg.getD n 0+1]).length=S.lg.length+1:=by rw [Zy];rfl
 have W2:=W1.link (n:=old) (v:=S.lg.length) (by show S.lg.length < (S.lg++[S.lg.getD n 0+1]).length;omega)
 have wfS:=AG hc 1000 _ _ _ W2 (by show S.lg.length < (S.lg++[S.lg.getD n 0+1]).length;omega) e1
 refine ⟨⟨S.lg++[S.lg.getD n 0+1],(S.lk++[S.lk.getD old none]).set old (some S.lg.length),w2⟩,?_,?_⟩
 ·unfold njb
  rw [ho,Zt,Zo (by rw [H.lg old hold,H.lg n hn];exact hne),e1]
  rfl
 have Wn:∀ m,W (wd++[W wd n++[c]]) m=if m=wd.length then W wd n++[c] else W wd m:=fun m=>bR wd _ _ m
 have WL:W (wd++[W wd n++[c]]) wd.length=W wd n++[c]:=by rw [Wn,Zr rfl]
 have Wl:∀ {m},m < wd.length->W (wd++[W wd n++[c]]) m=W wd m:=fun {m} hm=>by rw [Wn,Zo (ZS hm)]
 have dD:(wd++[W wd n++[c]]).length=wd.length+1:=by rw [Zy];rfl
 have tell:∀ {x m},g9 nd old ((W wd n).length+1) wd.length x=some m->(m=wd.length/\nd x=some old/\x.length<=(W wd n).length+1)\/(m < wd.length/\nd x=some m/\¬ (m=old/\x.length<=(W wd n).length+1)):=fun {x m} h=>by
  unfold g9 at h
  split at h
  ·rename_i q
   cases h
   exact .inl ⟨rfl,q.1,q.2⟩
  ·rename_i q
   exact .inr ⟨H.lt h,h,fun z=>q ⟨by rw [h,z.1],z.2⟩⟩
 have tL:∀ {x},nd x=some old->x.length<=(W wd n).length+1->g9 nd old ((W wd n).length+1) wd.length x=some wd.length:=fun {x} h1 h2=>Zr ⟨h1,h2⟩
 have tO:∀ {x m},nd x=some m->¬ (m=old/\x.length<=(W wd n).length+1)->g9 nd old ((W wd n).length+1) wd.length x=some m:=fun {x m} h1 h2=>by
  unfold g9
  rw [Zo (fun z=>h2 ⟨by rw [h1] at z;exact Zn z.1,z.2⟩),h1]
 have some_:∀ {x m},nd x=some m->∃ m',g9 nd old ((W wd n).length+1) wd.length x=some m':=fun {x m} h=>by
  unfold g9
  split
  ·exact ⟨_,rfl⟩
  ·exact ⟨m,h⟩
 have un:∀ {x m},g9 nd old ((W wd n).length+1) wd.length x=some m->∃ m',nd x=some m':=fun {x m} h=>(tell h).elim (fun z=>⟨_,z.2.1⟩) fun z=>⟨_,z.2.1⟩
 refine ⟨wfS,by rw [dD,hlen,hL],fun m hm=>?_,tO H.z (fun z=>o0 z.1.symm),by rw [Wl hLp];exact H.wz,fun {x m} h=>by rcases tell h with z | z <;> omega,fun {x m} h=>?_,fun {m} hm=>?_,fun {x y m} h hxy hy=>?_,fun {x d m} h=>?_,fun {x y m} h hxy=>?_,?_,fun {m} h0 hm hmf=>?_,fun {x m} h d=>?_⟩
 ·rw [dD] at hm
  show (S.lg++[S.lg.getD n 0+1]).getD m 0=_
  rw [bR,hL]
  by_cases e:m=wd.length
  ·rw [Zr e,e,WL,H.lg n hn,lw]
  ·rw [Zo e,Wl (by omega),H.lg m (by omega)]
 ·rcases tell h with ⟨rfl,z1,z2⟩ | ⟨z0,z1,_⟩
  ·rw [WL]
   exact c8 (H.sf z1) hsf (by rw [lw];exact z2)
  ·rw [Wl z0]
   exact H.sf z1
 ·rw [dD] at hm
  by_cases e:m=wd.length
  ·rw [e,WL]
   exact tL hw (by rw [lw];exact Zl _)
  ·rw [Wl (by omega)]
   exact tO (H.top (by omega)) (fun z=>by have:=z.2;rw [z.1] at this;omega)
 ·rcases tell h with ⟨rfl,z1,z2⟩ | ⟨z0,z1,z2⟩
  ·rw [WL] at hy
   have:=hy.length_le
   rw [lw] at this
   exact tL (H.iv z1 hxy (hy.trans hsf)) this
  ·rw [Wl z0] at hy
   exact tO (H.iv z1 hxy hy) (fun z=>z2 ⟨z.1,ZW hxy.length_le z.2⟩)
 ·obtain ⟨m',h'⟩:=un h
  obtain ⟨q,hq⟩:=H.pre h'
  exact some_ hq
 ·obtain ⟨m',h'⟩:=un h
  obtain ⟨q,hq⟩:=H.suf h' hxy
  exact some_ hq
 ·show ((S.lk++[S.lk.getD old none]).set old (some S.lg.length)).getD 0 none=none
  rw [lk',Zo (YW o0),Zo (by omega)]
  exact H.lk0
 ·rw [dD] at hm
  show ∃ q,((S.lk++[S.lk.getD old none]).set old (some S.lg.length)).getD m none=some q/\_
  rw [lk',dD]
  obtain ⟨q,q1,⟨q2,q2'⟩,q3,q4,q5⟩:=H.lk (Yk o0) hold hof
  obtain ⟨lo,_⟩:=H.low hof q1 hw
  rw [lw] at lo
  by_cases e:m=old
  ·subst e
   rw [Zr rfl]
   refine ⟨wd.length,rfl,⟨by omega,fun z=>hfr z.symm⟩,?_,?_,fun y hy hl=>?_⟩
   ·rw [WL,Wl hold];exact hsf
   ·rw [WL,Wl hold,lw];exact hlt
   ·rw [WL,lw] at hl
    rw [Wl hold] at hy
    exact tO (H.iv hw (c8 hsf hy (by rw [lw];omega)) hy) (fun z=>by have:=z.2;omega)
  ·rw [Zo e]
   by_cases eL:m=wd.length
   ·subst eL
    rw [Zr rfl,q1]
    refine ⟨q,rfl,⟨by omega,q2'⟩,?_,?_,fun y hy hl=>?_⟩
    ·rw [WL,Wl q2];exact c8 q3 hsf (by rw [lw];omega)
    ·rw [WL,Wl q2,lw];exact lo
    ·rw [WL] at hy
     rw [Wl q2] at hl
     have:=hy.length_le
     rw [lw] at this
     exact tL (q5 y (hy.trans hsf) hl) this
   ·rw [Zo eL]
    have hm':m < wd.length:=by omega
    obtain ⟨r,r1,⟨r2,r2'⟩,r3,r4,r5⟩:=H.lk h0 hm' hmf
    rw [r1]
    refine ⟨r,rfl,⟨by omega,r2'⟩,by rw [Wl r2,Wl hm'];exact r3,by rw [Wl r2,Wl hm'];exact r4,fun y hy hl=>?_⟩
    rw [Wl hm'] at hy
    rw [Wl r2] at hl
    exact tO (r5 y hy hl) (fun z=>e z.1)
 ·show gW (w2.getD m []) d=_
  rw [e3 m d]
  show (if d=c/\m < wd.length/\W wd m <:+ W wd n/\gW ((S.wy++[S.wy.getD old []]).getD m []) c=some old then some S.lg.length else gW ((S.wy++[S.wy.getD old []]).getD m []) d)=_
  rcases tell h with ⟨rfl,z1,z2⟩ | ⟨z0,z1,z2⟩
  ·rw [Zo (fun z=>Yn _ z.2.1),wy',Zr rfl,H.wy z1 d]
   unfold g9
   rw [Zo]
   intro z
   have h1:=z.1
   rw [← H.wy z1 d,H.wy (H.top hold) d] at h1
   have:=(H.sf h1).length_le
   rw [Zy,Zj] at this
   omega
  ·rw [wyl m z0,H.wy z1 c,H.wy z1 d]
   unfold g9
   by_cases hq:nd (x++[d])=some old/\(x++[d]).length<=(W wd n).length+1
   ·have hs2:=c8 (H.sf hq.1) hsf (by rw [lw];exact hq.2)
    obtain ⟨rfl,hx⟩:=ir hs2
    obtain ⟨m',m1,m2⟩:=H.up' hn hf hx
    rw [z1] at m1
    cases m1
    rw [Zr ⟨rfl,z0,m2,hq.1⟩,Zr hq,hL]
   ·rw [Zo hq,Zo]
    rintro ⟨rfl,_,a3,a4⟩
    refine hq ⟨a4,?_⟩
    have b1:=(H.sf z1).length_le
    have b2:=a3.length_le
    rw [Zy,Zj]
    omega
end AU
end
section
namespace AU
open Classical in
noncomputable def gS (nd:Wd->Option Nat) (w:Wd) (f:Nat) (x:Wd):Option Nat:=match nd x with
 | some m=>some m
 | none=>if x <:+ w then some f else none
theorem dk {nd:Wd->Option Nat} {w:Wd} {f m:Nat} {x:Wd} (h:nd x=some m):gS nd w f x=some m:=by
 unfold gS
 rw [h]
theorem fE {nd:Wd->Option Nat} {w:Wd} {f:Nat} {x:Wd} (h:nd x=none) (hx:x <:+ w):gS nd w f x=some f:=by
 unfold gS
 rw [h]
 exact Zr hx
theorem cJ {nd:Wd->Option Nat} {w:Wd} {f m:Nat} {x:Wd} (h:gS nd w f x=some m):nd x=some m\/(m=f/\nd x=none/\x <:+ w):=by
 unfold gS at h
 split at h
 ·rename_i q e
  cases h
  exact .inl e
 ·rename_i e
  split at h
  ·rename_i hx
   cases h
   exact .inr ⟨rfl,e,hx⟩
  ·cases h
theorem uo {α:Type} {y t:List α} {c:α} (h:y <:+ t++[c]) (hy:y ≠ []):∃ y',y=y'++[c]/\y' <:+ t:=by
 rcases List.eq_nil_or_concat y with e | ⟨y',b,e⟩
 ·exact absurd e hy
 ·rw [List.concat_eq_append] at e
  subst e
  obtain ⟨e1,e2⟩:=ir h
  exact ⟨y',by rw [e1],e2⟩
section
variable {S:St} {nd:Wd->Option Nat} {wd:List Wd}
theorem I.fresh (H:I none S nd wd) {h c:Nat} (hh:h < wd.length) (hc:97<=c/\c<=122) (hn:gW (S.wy.getD h []) c=none) (hk:(W wd h).length < 1000) :
  ∃ S2 o',up1 c S.lg.length 1000 ⟨S.lg++[S.lg.getD h 0+1],S.lk++[some 0],S.wy++[[]]⟩ (some h)=some (S2,o')/\I (some wd.length) S2 (gS nd (W wd h++[c]) wd.length) (wd++[W wd h++[c]])/\S2.lk.getD wd.length none=some 0/\S2.lg.length=S.lg.length+1 ∧
   (∀ m,m < wd.length->(gW (S.wy.getD m []) c).isSome->gW (S2.wy.getD m []) c=gW (S.wy.getD m []) c) ∧
   (o'=none->∀ m,m < wd.length->W wd m <:+ W wd h->gW (S.wy.getD m []) c=none) ∧
   ∀ p,o'=some p->p < wd.length/\W wd p <:+ W wd h/\(gW (S.wy.getD p []) c).isSome/\∀ m,m < wd.length->W wd m <:+ W wd h->(W wd p).length < (W wd m).length->gW (S.wy.getD m []) c=none:=by
 have hL:S.lg.length=wd.length:=H.len.symm
 have l1:S.lk.length=wd.length:=by rw [H.wf.lk,hL]
 have l2:S.wy.length=wd.length:=by rw [H.wf.wy,hL]
 have hLp:0 < wd.length:=by rw [H.len];exact H.wf.pos
 have lk':∀ m,(S.lk++[some 0]).getD m none=if m=wd.length then some 0 else S.lk.getD m none:=fun m=>by rw [bR,l1]
 have wy':∀ m,(S.wy++[[]]).getD m []=if m=wd.length then [] else S.wy.getD m []:=fun m=>by rw [bR,l2]
 have wyl:∀ m,m < wd.length->(S.wy++[[]]).getD m []=S.wy.getD m []:=fun m hm=>by rw [wy',Zo (ZS hm)]
 have nt:nd (W wd h++[c])=none:=by rw [← H.wy (H.top hh) c];exact hn
 obtain ⟨w2,o',e1,e2,e3,e4,e5⟩:=H.climb1 (c:=c) (v:=S.lg.length) 1000 ⟨S.lg++[S.lg.getD h 0+1],S.lk++[some 0],S.wy++[[]]⟩ h hh (fun z=>nomatch z) hk (fun m hm _=>by
   show (S.lk++[some 0]).getD m none=_
   rw [lk',Zo (ZS hm)])
  (by show _<=(S.wy++[[]]).length;rw [Zy,l2];omega)
  (fun m m' hm hm' hs hs' q=>by
   have q':(gW ((S.wy++[[]]).getD m' []) c).isSome:=q
   show (gW ((S.wy++[[]]).getD m []) c).isSome
   rw [wyl m' hm',H.wy (H.top hm') c] at q'
   rw [wyl m hm,H.wy (H.top hm) c]
   obtain ⟨r,hr⟩:=Yo.mp q'
   obtain ⟨r',hr'⟩:=H.suf hr (gy c hs)
   rw [hr']
   rfl)
 have hlen:(S.lg++[S.lg.getD h 0+1]).length=S.lg.length+1:=by rw [Zy];rfl
 have W1:=H.wf.more (l:=S.lg.getD h 0+1) (o:=some 0) (w:=[]) (fun m hm=>by cases hm;exact H.wf.pos) (fun d m hm=>by cases hm) Yd (fun p hp=>nomatch hp)
 have wfS:=Ab hc 1000 _ _ _ _ W1 (by show S.lg.length < (S.lg++[S.lg.getD h 0+1]).length;omega) e1
 have lw:(W wd h++[c]).length=(W wd h).length+1:=by rw [Zy];rfl
 have Wn:∀ m,W (wd++[W wd h++[c]]) m=if m=wd.length then W wd h++[c] else W wd m:=fun m=>bR wd _ _ m
 have WL:W (wd++[W wd h++[c]]) wd.length=W wd h++[c]:=by rw [Wn,Zr rfl]
 have Wl:∀ {m},m < wd.length->W (wd++[W wd h++[c]]) m=W wd m:=fun {m} hm=>by rw [Wn,Zo (ZS hm)]
 have dD:(wd++[W wd h++[c]]).length=wd.length+1:=by rw [Zy];rfl
 refine ⟨⟨S.lg++[S.lg.getD h 0+1],S.lk++[some 0],w2⟩,o',e1,?_,by show (S.lk++[some 0]).getD wd.length none=_;rw [lk',Zr rfl],hlen,fun m hm hs=>?_,fun ho m hm hs=>?_,fun p hp=>?_⟩
 rotate_left
 ·show gW (w2.getD m []) c=_
  rw [e3 m c]
  show (if c=c/\m < wd.length/\W wd m <:+ W wd h/\gW ((S.wy++[[]]).getD m []) c=none then some S.lg.length else gW ((S.wy++[[]]).getD m []) c)=_
  rw [wyl m hm,Zo (fun z=>by rw [z.2.2.2] at hs;cases hs)]
 ·have:=e4 ho m hm hs
  have this':gW ((S.wy++[[]]).getD m []) c=none:=this
  rw [wyl m hm] at this'
  exact this'
 ·obtain ⟨p1,p2,p3,p4⟩:=e5 p hp
  have p3':(gW ((S.wy++[[]]).getD p []) c).isSome:=p3
  rw [wyl p p1] at p3'
  refine ⟨p1,p2,p3',fun m hm hs hl=>?_⟩
  have:=p4 m hm hs hl
  have this':gW ((S.wy++[[]]).getD m []) c=none:=this
  rw [wyl m hm] at this'
  exact this'
 refine ⟨wfS,by rw [dD];show _=(S.lg++[S.lg.getD h 0+1]).length;rw [hlen,hL],fun m hm=>?_,dk H.z,by rw [Wl hLp];exact H.wz,fun {x m} q=>?_,fun {x m} q=>?_,fun {m} hm=>?_,fun {x y m} q hxy hy=>?_,fun {x d m} q=>?_,fun {x y m} q hxy=>?_,?_,fun {m} h0 hm hmf=>?_,fun {x m} q d=>?_⟩
 ·rw [dD] at hm
  show (S.lg++[S.lg.getD h 0+1]).getD m 0=_
  rw [bR,hL]
  by_cases e:m=wd.length
  ·rw [Zr e,e,WL,H.lg h hh,lw]
  ·rw [Zo e,Wl (by omega),H.lg m (by omega)]
 ·rw [dD]
  rcases cJ q with z | z
  ·have:=H.lt z;omega
  ·omega
 ·rcases cJ q with z | ⟨rfl,_,z⟩
  ·rw [Wl (H.lt z)];exact H.sf z
  ·rw [WL];exact z
 ·rw [dD] at hm
  by_cases e:m=wd.length
  ·rw [e,WL];exact fE nt (Yx _)
  ·rw [Wl (by omega)];exact dk (H.top (by omega))
 ·rcases cJ q with z | ⟨rfl,z1,z2⟩
  ·rw [Wl (H.lt z)] at hy
   exact dk (H.iv z hxy hy)
  ·rw [WL] at hy
   refine fE ?_ hy
   cases e:nd y with
   | none=>rfl
   | some r =>
    obtain ⟨r',hr⟩:=H.suf e hxy
    rw [z1] at hr
    cases hr
 ·rcases cJ q with z | ⟨_,_,z⟩
  ·obtain ⟨r,hr⟩:=H.pre z
   exact ⟨r,dk hr⟩
  ·obtain ⟨_,hx⟩:=ir z
   obtain ⟨r,hr⟩:=H.suf (H.top hh) hx
   exact ⟨r,dk hr⟩
 ·rcases cJ q with z | ⟨_,_,z⟩
  ·obtain ⟨r,hr⟩:=H.suf z hxy
   exact ⟨r,dk hr⟩
  ·cases e:nd x with
   | none=>exact ⟨_,fE e (hxy.trans z)⟩
   | some r=>exact ⟨r,dk e⟩
 ·show (S.lk++[some 0]).getD 0 none=none
  rw [lk',Zo (by omega)]
  exact H.lk0
 ·rw [dD] at hm
  have hm':m < wd.length:=by
   have:m ≠ wd.length:=fun e=>hmf (by rw [e])
   omega
  show ∃ q,(S.lk++[some 0]).getD m none=some q/\_
  rw [lk',Zo (ZS hm'),dD]
  obtain ⟨r,r1,⟨r2,_⟩,r3,r4,r5⟩:=H.lk h0 hm' (fun z=>nomatch z)
  refine ⟨r,r1,⟨by omega,fun z=>?_⟩,by rw [Wl r2,Wl hm'];exact r3,by rw [Wl r2,Wl hm'];exact r4,fun y hy hl=>?_⟩
  ·have:=Zn z
   omega
  ·rw [Wl hm'] at hy
   rw [Wl r2] at hl
   exact dk (r5 y hy hl)
 ·show gW (w2.getD m []) d=_
  rw [e3 m d]
  show (if d=c/\m < wd.length/\W wd m <:+ W wd h/\gW ((S.wy++[[]]).getD m []) c=none then some S.lg.length else gW ((S.wy++[[]]).getD m []) d)=_
  rcases cJ q with z | ⟨rfl,z1,z2⟩
  ·have hm:=H.lt z
   rw [wyl m hm,H.wy z c,H.wy z d]
   cases e:nd (x++[d]) with
   | some r =>
    rw [dk e,Zo]
    rintro ⟨rfl,_,_,a⟩
    rw [e] at a
    cases a
   | none =>
    by_cases hs:x++[d] <:+ W wd h++[c]
    ·obtain ⟨rfl,hx⟩:=ir hs
     obtain ⟨m',m1,m2⟩:=H.up' hh (fun z=>nomatch z) hx
     rw [z] at m1
     cases m1
     rw [fE e hs,Zr ⟨rfl,hm,m2,e⟩,hL]
    ·have:gS nd (W wd h++[c]) wd.length (x++[d])=none:=by
      unfold gS
      rw [e]
      exact Zo hs
     rw [this,Zo]
     rintro ⟨rfl,_,a,_⟩
     exact hs (gy d ((H.sf z).trans a))
  ·rw [Zo (fun a=>Yn _ a.2.1),wy',Zr rfl]
   have e:nd (x++[d])=none:=by
    cases e:nd (x++[d]) with
    | none=>rfl
    | some r =>
     obtain ⟨r',hr⟩:=H.pre e
     rw [z1] at hr
     cases hr
   have:gS nd (W wd h++[c]) wd.length (x++[d])=none:=by
    unfold gS
    rw [e]
    refine Zo fun hs=>?_
    obtain ⟨_,hx⟩:=ir hs
    obtain ⟨r,hr⟩:=H.suf (H.top hh) hx
    rw [z1] at hr
    cases hr
   rw [this]
   rfl
theorem I.fix {f m:Nat} (H:I (some f) S nd wd) (hf:f < wd.length) (hm:m < wd.length) (hs:W wd m <:+ W wd f) (hl:(W wd m).length < (W wd f).length) (hy:∀ y,y <:+ W wd f->(W wd m).length < y.length->nd y=some f):I none ⟨S.lg,S.lk.set f (some m),S.wy⟩ nd wd:=by
 have f0:f ≠ 0:=fun e=>by
  rw [e,H.wz] at hl
  simp at hl
 have lf:f < S.lk.length:=by rw [H.wf.lk,← H.len];exact hf
 refine ⟨H.wf.link (by rw [← H.len];exact hm),H.len,H.lg,H.z,H.wz,H.lt,H.sf,H.top,H.iv,H.pre,H.suf,?_,fun {n} h0 hn _=>?_,H.wy⟩
 ·show (S.lk.set f (some m)).getD 0 none=none
  rw [gA,Zo (fun z=>f0 z.1)]
  exact H.lk0
 ·show ∃ q,(S.lk.set f (some m)).getD n none=some q/\_
  rw [gA]
  by_cases e:f=n
  ·subst e
   rw [Zr ⟨rfl,lf⟩]
   exact ⟨m,rfl,⟨hm,fun z=>nomatch z⟩,hs,hl,hy⟩
  ·rw [Zo (fun z=>e z.1)]
   obtain ⟨r,r1,⟨r2,_⟩,r3⟩:=H.lk h0 hn (fun z=>e (Zn z).symm)
   exact ⟨r,r1,⟨r2,fun z=>nomatch z⟩,r3⟩
end
end AU
end
section
namespace AU
structure Fine (nd nd':Wd->Option Nat) (w:Wd):Prop where
 eq:∀ {x y m n},nd' x=some m->nd' y=some n->(m=n ↔ nd x=nd y/\(x <:+ w ↔ y <:+ w))
section
variable {fr:Option Nat} {S:St} {nd:Wd->Option Nat} {wd:List Wd}
theorem I.just (H:I fr S nd wd) {n c old:Nat} (hn:n < wd.length) (hf:some n ≠ fr) (hc:97<=c/\c<=122) (ho:gW (S.wy.getD n []) c=some old) (hof:some old ≠ fr) (hfr:fr ≠ some wd.length) (hk:(W wd n).length < 1000) :
  ∃ S' r nd' wd',njb S n c=some (S',r)/\I fr S' nd' wd'/\r < wd'.length/\some r ≠ fr/\W wd' r=W wd n++[c]/\(∀ m,m < wd.length->W wd' m=W wd m)/\wd.length<=wd'.length/\wd'.length<=wd.length+1 ∧
   (∀ x,(∃ m,nd' x=some m) ↔ ∃ m,nd x=some m)/\Fine nd nd' (W wd n++[c])/\∀ x f,f ≠ old->nd x=some f->nd' x=some f:=by
 have hw:=H.way hn ho
 have hold:=H.lt hw
 have hsf:=H.sf hw
 have lw:(W wd n++[c]).length=(W wd n).length+1:=by rw [Zy];rfl
 by_cases hne:S.lg.getD old 0=S.lg.getD n 0+1
 ·have hWo:W wd old=W wd n++[c]:=by
   have:=hne
   rw [H.lg old hold,H.lg n hn] at this
   exact (hsf.eq_of_length (by rw [lw,this])).symm
  refine ⟨S,old,nd,wd,?_,H,hold,hof,hWo,fun m _=>rfl,Zl _,Xc _,fun x=>Iff.rfl,⟨fun {x y m k} h1 h2=>?_⟩,fun x f _ h=>h⟩
  ·unfold njb
   rw [ho,Zt,Zr hne]
  ·constructor
   ·rintro rfl
    exact ⟨by rw [h1,h2],fun h=>by rw [← hWo] at h ⊢;exact H.all hold hof h1 h2 h,fun h=>by rw [← hWo] at h ⊢;exact H.all hold hof h2 h1 h⟩
   ·rintro ⟨h,_⟩
    rw [h1,h2] at h
    exact Zn h
 ·obtain ⟨S',e1,H'⟩:=H.split hn hf hc ho hof hfr hne hk
  have WL:W (wd++[W wd n++[c]]) wd.length=W wd n++[c]:=(bR wd _ _ _).trans (Zr rfl)
  have Wl:∀ m,m < wd.length->W (wd++[W wd n++[c]]) m=W wd m:=fun m hm=>(bR wd _ _ m).trans (Zo (ZS hm))
  have dD:(wd++[W wd n++[c]]).length=wd.length+1:=by rw [Zy];rfl
  have inv:∀ {x m},g9 nd old ((W wd n).length+1) wd.length x=some m->(m=wd.length/\nd x=some old/\x.length<=(W wd n).length+1)\/nd x=some m:=fun {x m} h=>by
   unfold g9 at h
   split at h
   ·rename_i q;cases h;exact .inl ⟨rfl,q.1,q.2⟩
   ·exact .inr h
  have sfx:∀ {x},nd x=some old->(x.length<=(W wd n).length+1 ↔ x <:+ W wd n++[c]):=fun {x} h=>⟨fun hl=>c8 (H.sf h) hsf (by rw [lw];exact hl),fun hs=>by have:=hs.length_le;rw [lw] at this;exact this⟩
  refine ⟨S',S.lg.length,_,_,e1,H',by rw [dD,← H.len];exact Yg _,by rw [← H.len];exact fun z=>hfr z.symm,by rw [← H.len];exact WL,Wl,by omega,by omega,fun x=>⟨fun ⟨m,h⟩=>(inv h).elim (fun z=>⟨_,z.2.1⟩) fun z=>⟨_,z⟩,fun ⟨m,h⟩=>?_⟩,⟨fun {x y m k} h1 h2=>?_⟩,fun x f hfo h=>?_⟩
  ·unfold g9
   split
   ·exact ⟨_,rfl⟩
   ·exact ⟨m,h⟩
  ·constructor
   ·rintro rfl
    have hq:wd.length < (wd++[W wd n++[c]]).length:=by omega
    have a1:=fun h=>H'.all hq (fun z=>hfr z.symm) h1 h2 h
    have a2:=fun h=>H'.all hq (fun z=>hfr z.symm) h2 h1 h
    rw [WL] at a1 a2
    refine ⟨?_,a1,a2⟩
    rcases inv h1 with ⟨z1,z2,_⟩ | z
    ·rcases inv h2 with ⟨_,y2,_⟩ | y
     ·rw [z2,y2]
     ·have:=H.lt y;omega
    ·rcases inv h2 with ⟨y1,_,_⟩ | y
     ·have:=H.lt z;omega
     ·rw [z,y]
   ·rintro ⟨h,hs⟩
    have:g9 nd old ((W wd n).length+1) wd.length x=g9 nd old ((W wd n).length+1) wd.length y:=by
     unfold g9
     rw [h]
     by_cases q:nd y=some old
     ·have e1:=sfx (show nd x=some old by rw [h,q])
      have e2:=sfx q
      by_cases l:y.length<=(W wd n).length+1
      ·rw [Zr ⟨q,e1.mpr (hs.mpr (e2.mp l))⟩,Zr ⟨q,l⟩]
      ·rw [Zo (fun z=>l (e2.mpr (hs.mp (e1.mp z.2)))),Zo (fun z=>l z.2)]
     ·rw [Zo (fun z=>q z.1),Zo (fun z=>q z.1)]
    rw [h1,h2] at this
    exact Zn this
  ·unfold g9
   rw [Zo (fun z=>hfo (by rw [h] at z;exact Zn z.1))]
   exact h
end
section
variable {S:St} {nd:Wd->Option Nat} {wd:List Wd}
theorem I.step (H:I none S nd wd) {h c:Nat} (hh:h < wd.length) (hc:97<=c/\c<=122) (hk:(W wd h).length+1 < 1000) :
  ∃ S' r nd' wd',hb S h c=some (S',r)/\I none S' nd' wd'/\r < wd'.length/\W wd' r=W wd h++[c]/\(∀ m,m < wd.length->W wd' m=W wd m)/\wd.length<=wd'.length/\wd'.length<=wd.length+2 ∧
   (∀ x,(∃ m,nd' x=some m) ↔ (∃ m,nd x=some m)\/x <:+ W wd h++[c])/\Fine nd nd' (W wd h++[c]):=by
 cases hg:gW (S.wy.getD h []) c with
 | some old =>
  obtain ⟨S',r,nd',wd',e,H',h1,_,h2,h3,h4,h5,h6,h7,_⟩:=H.just hh (fun z=>nomatch z) hc hg (fun z=>nomatch z) (fun z=>nomatch z) (by omega)
  refine ⟨S',r,nd',wd',?_,H',h1,h2,h3,h4,by omega,fun x=>(h6 x).trans ⟨.inl,fun z=>z.elim id fun z=>H.suf (H.way hh hg) z⟩,h7⟩
  unfold hb
  rw [hg]
  exact e
 | none =>
  have hL:S.lg.length=wd.length:=H.len.symm
  obtain ⟨S2,o',e1,H2,k0,k1,k2,k3,k4⟩:=H.fresh hh hc hg (by omega)
  have WL:W (wd++[W wd h++[c]]) wd.length=W wd h++[c]:=(bR wd _ _ _).trans (Zr rfl)
  have Wl:∀ m,m < wd.length->W (wd++[W wd h++[c]]) m=W wd m:=fun m hm=>(bR wd _ _ m).trans (Zo (ZS hm))
  have dD:(wd++[W wd h++[c]]).length=wd.length+1:=by rw [Zy];rfl
  have lw:(W wd h++[c]).length=(W wd h).length+1:=by rw [Zy];rfl
  have nt:nd (W wd h++[c])=none:=by rw [← H.wy (H.top hh) c];exact hg
  have ex:∀ x,(∃ m,gS nd (W wd h++[c]) wd.length x=some m) ↔ (∃ m,nd x=some m)\/x <:+ W wd h++[c]:=fun x=>⟨fun ⟨m,q⟩=>(cJ q).elim (fun z=>.inl ⟨_,z⟩) fun z=>.inr z.2.2,fun q=>by
   cases e:nd x with
   | some m=>exact ⟨m,dk e⟩
   | none=>exact q.elim (fun ⟨m,z⟩=>by rw [e] at z;cases z) fun z=>⟨_,fE e z⟩⟩
  have same:∀ {x y m n},gS nd (W wd h++[c]) wd.length x=some m->gS nd (W wd h++[c]) wd.length y=some n->(m=n ↔ nd x=nd y):=fun {x y m n} q1 q2=>by
   rcases cJ q1 with z | ⟨z1,z2,_⟩
   ·rcases cJ q2 with y' | ⟨y1,y2,_⟩
    ·rw [z,y'];exact ⟨fun e=>by rw [e],fun e=>Zn e⟩
    ·have:=H.lt z
     refine ⟨fun e=>by omega,fun e=>?_⟩
     rw [z,y2] at e;cases e
   ·rcases cJ q2 with y' | ⟨y1,y2,_⟩
    ·have:=H.lt y'
     refine ⟨fun e=>by omega,fun e=>?_⟩
     rw [z2,y'] at e;cases e
    ·exact ⟨fun _=>by rw [z2,y2],fun _=>by rw [z1,y1]⟩
  have tails:∀ {y},y <:+ W wd h++[c]->y ≠ []->∀ {q},nd y=some q->∃ y' m,y=y'++[c]/\y' <:+ W wd h/\nd y'=some m/\m < wd.length/\W wd m <:+ W wd h/\(gW (S.wy.getD m []) c).isSome:=fun {y} hy hne {q} hq=>by
   obtain ⟨y',rfl,hy'⟩:=uo hy hne
   obtain ⟨m,m1,m2⟩:=H.up' hh (fun z=>nomatch z) hy'
   exact ⟨y',m,rfl,hy',m1,H.lt m1,m2,by rw [H.wy m1 c,hq];rfl⟩
  unfold hb
  rw [hg,Zo (by simp),e1]
  cases o' with
  | none =>
   have kn:=k3 rfl
   have none_:∀ {y},y <:+ W wd h++[c]->y ≠ []->nd y=none:=fun {y} hy hne=>by
    cases e:nd y with
    | none=>rfl
    | some q =>
     obtain ⟨y',m,_,_,_,m3,m4,m5⟩:=tails hy hne e
     rw [kn m m3 m4] at m5
     cases m5
   have H3:=H2.fix (f:=wd.length) (m:=0) (by omega) (by omega) (by rw [H2.wz];exact Xl) (by rw [H2.wz,WL,lw];exact Nat.succ_pos _) (fun y hy hl=>by
    rw [WL] at hy
    rw [H2.wz] at hl
    exact fE (none_ hy (fun e=>by rw [e] at hl;cases hl)) hy)
   have eS:(⟨S2.lg,S2.lk.set wd.length (some 0),S2.wy⟩:St)=S2:=by
    have hl:wd.length < S2.lk.length:=by rw [H2.wf.lk,← H2.len,dD];exact Yg _
    have:S2.lk.set wd.length (some 0)=S2.lk:=by
     rw [Zq,Zm hl,Y0] at k0
     rw [← k0]
     exact XF hl
    rw [this]
   rw [eS] at H3
   refine ⟨S2,S.lg.length,_,_,rfl,H3,by rw [dD,hL];exact Yg _,by rw [hL];exact WL,Wl,by omega,by omega,ex,⟨fun {x y m n} q1 q2=>?_⟩⟩
   rw [same q1 q2]
   refine ⟨fun e=>⟨e,?_⟩,fun e=>e.1⟩
   have key:∀ {x y m n},gS nd (W wd h++[c]) wd.length x=some m->gS nd (W wd h++[c]) wd.length y=some n->nd x=nd y->x <:+ W wd h++[c]->y <:+ W wd h++[c]:=fun {x y m n} q1 q2 e hx=>by
    rcases cJ q2 with z | z
    ·rw [z] at e
     by_cases hx0:x=[]
     ·subst hx0
      rw [H.z] at e
      cases e
      rw [H.zero z]
      exact Xl
     ·rw [none_ hx hx0] at e
      cases e
    ·exact z.2.2
   exact ⟨key q1 q2 e,key q2 q1 e.symm⟩
  | some p =>
   obtain ⟨p1,p2,p3,p4⟩:=k4 p rfl
   obtain ⟨old,ho⟩:=Yo.mp p3
   have ho2:gW (S2.wy.getD p []) c=some old:=by rw [k2 p p1 p3];exact ho
   have ndw:=H.way p1 ho
   have hold:=H.lt ndw
   have ph:(W wd p).length < (W wd h).length:=by
    rcases Nat.lt_or_eq_of_le p2.length_le with l | l
    ·exact l
    ·have:=H.inj p1 hh (p2.eq_of_length l)
     rw [this,hg] at ho
     cases ho
   obtain ⟨S3,r,nd',wd',f1,H3,f2,f2',f3,f4,f5,f6,f7,f8,f9⟩:=H2.just (n:=p) (c:=c) (old:=old) (by omega) (fun z=>by have:=Zn z;omega) hc ho2 (fun z=>by have:=Zn z;omega) (fun z=>by have:=Zn z;omega) (by rw [Wl p p1];omega)
   rw [Wl p p1] at f3 f8
   have lwp:(W wd p++[c]).length=(W wd p).length+1:=by rw [Zy];rfl
   have WL':W wd' wd.length=W wd h++[c]:=by rw [f4 _ (by omega),WL]
   have none_:∀ {y},y <:+ W wd h++[c]->(W wd p).length+1 < y.length->nd y=none:=fun {y} hy hl=>by
    cases e:nd y with
    | none=>rfl
    | some q =>
     obtain ⟨y',m,rfl,m1,m2,m3,m4,m5⟩:=tails hy (fun e=>by rw [e] at hl;cases hl) e
     have l1:=(H.sf m2).length_le
     rw [Zy,Zj] at hl
     rw [p4 m m3 m4 (by omega)] at m5
     cases m5
   have H4:=H3.fix (f:=wd.length) (m:=r) (by omega) f2 (by rw [f3,WL'];exact gy c p2) (by rw [f3,WL',lwp,lw];omega) (fun y hy hl=>by
    rw [WL'] at hy
    rw [f3,lwp] at hl
    exact f9 y wd.length (by omega) (fE (none_ hy hl) hy))
   refine ⟨⟨S3.lg,S3.lk.set S.lg.length (some r),S3.wy⟩,S.lg.length,nd',wd',?_,by rw [hL];exact H4,by rw [hL];omega,by rw [hL];exact WL',fun m hm=>by rw [f4 m (by omega),Wl m hm],by omega,by omega,fun x=>(f7 x).trans (ex x),⟨fun {x y m n} q1 q2=>?_⟩⟩
   ·show (njb S2 p c).map _=_
    rw [f1]
    rfl
   ·rw [f8.eq q1 q2]
    obtain ⟨m1,g1⟩:=(f7 x).mp ⟨m,q1⟩
    obtain ⟨n1,g2⟩:=(f7 y).mp ⟨n,q2⟩
    have e1:gS nd (W wd h++[c]) wd.length x=gS nd (W wd h++[c]) wd.length y ↔ nd x=nd y:=by
     rw [g1,g2]
     exact ⟨fun e=>(same g1 g2).mp (Zn e),fun e=>by rw [(same g1 g2).mpr e]⟩
    rw [e1]
    have sw:W wd p++[c] <:+ W wd h++[c]:=gy c p2
    have kn:∀ {z q},nd z=some q->(z <:+ W wd h++[c] ↔ z <:+ W wd p++[c]):=fun {z q} hz=>⟨fun a=>c8 a sw (by
     rw [lwp]
     refine ZD fun b=>?_
     rw [none_ a b] at hz
     cases hz),fun a=>a.trans sw⟩
    have un:∀ {z q},nd z=none->gS nd (W wd h++[c]) wd.length z=some q->z <:+ W wd h++[c]/\¬ z <:+ W wd p++[c]:=fun {z q} hz a=>by
     rcases cJ a with b | b
     ·rw [hz] at b;cases b
     ·refine ⟨b.2.2,fun a=>?_⟩
      obtain ⟨q',hq⟩:=H.suf ndw a
      rw [hz] at hq
      cases hq
    refine ⟨fun ⟨a,b⟩=>⟨a,?_⟩,fun ⟨a,b⟩=>⟨a,?_⟩⟩
    ·cases ez:nd x with
     | some q=>rw [kn ez,kn (show nd y=some q by rw [← a,ez])];exact b
     | none =>
      have u1:=un ez g1
      have u2:=un (show nd y=none by rw [← a,ez]) g2
      exact ⟨fun _=>u2.1,fun _=>u1.1⟩
    ·cases ez:nd x with
     | some q=>rw [← kn ez,← kn (show nd y=some q by rw [← a,ez])];exact b
     | none =>
      have u1:=un ez g1
      have u2:=un (show nd y=none by rw [← a,ez]) g2
      exact ⟨fun z=>absurd z u1.2,fun z=>absurd z u2.2⟩
end
structure K (P:Wd->Prop) (S:St) (nd:Wd->Option Nat) (wd:List Wd):Prop where
 i:I none S nd wd
 nil:P []
 some:∀ x,(∃ m,nd x=some m) ↔ ∃ p,P p/\x <:+ p
 eq:∀ {x y m n},nd x=.some m->nd y=.some n->(m=n ↔ ∀ p,P p->(x <:+ p ↔ y <:+ p))
theorem K.congr {P Q:Wd->Prop} {S:St} {nd:Wd->Option Nat} {wd:List Wd} (H:K P S nd wd) (h:∀ p,P p ↔ Q p):K Q S nd wd:=by
 have:P=Q:=funext fun p=>propext (h p)
 rw [← this]
 exact H
noncomputable def nd0 (x:Wd):Option Nat:=if x=[] then some 0 else none
theorem fB {x:Wd} {n:Nat} (h:nd0 x=some n):x=[]/\n=0:=by
 unfold nd0 at h
 split at h
 ·exact ⟨by assumption,(Zn h).symm⟩
 ·cases h
theorem K0:K (fun p=>p=[]) S0 nd0 [[]]:=by
 refine ⟨⟨yS,rfl,fun n hn=>?_,rfl,rfl,fun {x n} h=>?_,fun {x n} h=>?_,fun {n} hn=>?_,fun {x y n} h h1 h2=>?_,fun {x c n} h=>?_,fun {x y n} h h1=>?_,rfl,fun {n} h1 h2=>?_,fun {x n} h c=>?_⟩,rfl,fun x=>?_,fun {x y m n} h1 h2=>?_⟩
 ·have:n=0:=Nat.lt_one_iff.mp hn
  subst this;rfl
 ·rw [(fB h).2];exact Nat.one_pos
 ·rw [(fB h).1];exact Xl
 ·have:n=0:=Nat.lt_one_iff.mp hn
  subst this;rfl
 ·have e:=(fB h).2
  subst e
  have:y=[]:=Yq.mp h2
  subst this;rfl
 ·have:=(fB h).1
  exact absurd this (by simp)
 ·have e:=(fB h).1
  subst e
  have:x=[]:=Yq.mp h1
  subst this
  exact ⟨0,rfl⟩
 ·have:n < 1:=h2
  omega
 ·have e:=fB h
  obtain ⟨rfl,rfl⟩:=e
  rfl
 ·constructor
  ·rintro ⟨m,h⟩
   exact ⟨[],rfl,by rw [(fB h).1];exact Xl⟩
  ·rintro ⟨p,rfl,h⟩
   have:x=[]:=Yq.mp h
   subst this
   exact ⟨0,rfl⟩
 ·obtain ⟨rfl,rfl⟩:=fB h1
  obtain ⟨rfl,rfl⟩:=fB h2
  exact ⟨fun _ _ _=>Iff.rfl,fun _=>rfl⟩
section
variable {P:Wd->Prop} {S:St} {nd:Wd->Option Nat} {wd:List Wd}
theorem K.step (H:K P S nd wd) {h c:Nat} (hh:h < wd.length) (hc:97<=c/\c<=122) (hk:(W wd h).length+1 < 1000) :
  ∃ S' r nd' wd',hb S h c=.some (S',r)/\K (fun p=>P p\/p=W wd h++[c]) S' nd' wd'/\r < wd'.length/\W wd' r=W wd h++[c]/\(∀ m,m < wd.length->W wd' m=W wd m)/\wd.length<=wd'.length/\wd'.length<=wd.length+2:=by
 obtain ⟨S',r,nd',wd',e,H',h1,h2,h3,h4,h5,h6,h7⟩:=H.i.step hh hc hk
 refine ⟨S',r,nd',wd',e,⟨H',.inl H.nil,fun x=>?_,fun {x y m n} g1 g2=>?_⟩,h1,h2,h3,h4,h5⟩
 ·rw [h6,H.some]
  constructor
  ·rintro (⟨p,a,b⟩ | a)
   ·exact ⟨p,.inl a,b⟩
   ·exact ⟨_,.inr rfl,a⟩
  ·rintro ⟨p,a | rfl,b⟩
   ·exact .inl ⟨p,a,b⟩
   ·exact .inr b
 ·rw [h7.eq g1 g2]
  have un:∀ {z q},nd' z=.some q->nd z=none->z <:+ W wd h++[c]/\∀ p,P p->¬ z <:+ p:=fun {z q} a b=>⟨((h6 z).mp ⟨q,a⟩).elim (fun ⟨m,x⟩=>by rw [b] at x;cases x) id,fun p hp hz=>by
   obtain ⟨m,x⟩:=(H.some z).mpr ⟨p,hp,hz⟩
   rw [b] at x
   cases x⟩
  have old:nd x=nd y ↔ ∀ p,P p->(x <:+ p ↔ y <:+ p):=by
   cases ex:nd x with
   | some a =>
    cases ey:nd y with
    | some b=>exact ⟨fun e=>(H.eq ex ey).mp (Zn e),fun e=>by rw [(H.eq ex ey).mpr e]⟩
    | none =>
     refine ⟨fun e=>(nomatch e),fun e=>?_⟩
     obtain ⟨p,hp,hx⟩:=(H.some x).mp ⟨a,ex⟩
     exact absurd ((e p hp).mp hx) ((un g2 ey).2 p hp)
   | none =>
    cases ey:nd y with
    | some b =>
     refine ⟨fun e=>(nomatch e),fun e=>?_⟩
     obtain ⟨p,hp,hx⟩:=(H.some y).mp ⟨b,ey⟩
     exact absurd ((e p hp).mpr hx) ((un g1 ex).2 p hp)
    | none=>exact ⟨fun _ p hp=>⟨fun z=>absurd z ((un g1 ex).2 p hp),fun z=>absurd z ((un g2 ey).2 p hp)⟩,fun _=>rfl⟩
  rw [old]
  constructor
  ·rintro ⟨a,b⟩ p (hp | rfl)
   ·exact a p hp
   ·exact b
  ·intro a
   exact ⟨fun p hp=>a p (.inl hp),a _ (.inr rfl)⟩
end
theorem K.grow:∀ (w:Wi) {P:Wd->Prop} {S:St} {nd:Wd->Option Nat} {wd:List Wd} (H:K P S nd wd) {h:Nat},h < wd.length->P (W wd h)->(∀ c∈w,97<=c/\c<=122)->(W wd h).length+w.length < 1000 →
  ∃ S' r nd' wd',hg S h w=.some (S',r)/\K (fun p=>P p\/∃ v,v <+: w/\p=W wd h++v) S' nd' wd'/\r < wd'.length/\W wd' r=W wd h++w/\(∀ m,m < wd.length->W wd' m=W wd m)/\wd.length<=wd'.length/\wd'.length<=wd.length+2 * w.length:=by
 intro w
 induction w with
 | nil =>
  intro P S nd wd H h hh hp hw hk
  refine ⟨S,h,nd,wd,rfl,H.congr fun p=>⟨.inl,?_⟩,hh,(ZP _).symm,fun _ _=>rfl,Zl _,Zl _⟩
  rintro (a | ⟨v,a,rfl⟩)
  ·exact a
  ·rw [List.prefix_nil.mp a,ZP]
   exact hp
 | cons c w ih =>
  intro P S nd wd H h hh hp hw hk
  rw [Zk] at hk
  obtain ⟨S1,r1,nd1,wd1,e1,H1,a1,a2,a3,a4,a5⟩:=H.step hh (hw c Zx) (by omega)
  obtain ⟨S2,r2,nd2,wd2,e2,H2,b1,b2,b3,b4,b5⟩:=ih H1 a1 (.inr a2) (fun d hd=>hw d (Zw _ hd)) (by rw [a2,Zy,Zj];omega)
  refine ⟨S2,r2,nd2,wd2,?_,H2.congr fun p=>?_,b1,?_,fun m hm=>by rw [b3 m (by omega),a3 m hm],by omega,by rw [Zk];omega⟩
  ·show (hb S h c).bind _=_
   rw [e1]
   exact e2
  ·rw [a2]
   constructor
   ·rintro ((a | rfl) | ⟨v,a,rfl⟩)
    ·exact .inl a
    ·exact .inr ⟨[c],XE.mpr ⟨rfl,List.nil_prefix⟩,rfl⟩
    ·exact .inr ⟨c :: v,XE.mpr ⟨rfl,a⟩,by rw [Z1];rfl⟩
   ·rintro (a | ⟨v,a,rfl⟩)
    ·exact .inl (.inl a)
    ·cases v with
     | nil=>rw [ZP];exact .inl (.inl hp)
     | cons d v =>
      obtain ⟨rfl,a'⟩:=XE.mp a
      exact .inr ⟨v,a',by rw [Z1];rfl⟩
  ·rw [b2,a2,Z1];rfl
noncomputable def mB (S:St):List Wd->Option St
 | []=>some S
 | t :: b=>(hg S 0 t).bind fun z=>mB z.1 b
theorem K.book:∀ (b:List Wd) {P:Wd->Prop} {S:St} {nd:Wd->Option Nat} {wd:List Wd} (H:K P S nd wd),(∀ t∈b,∀ c∈t,97<=c/\c<=122)->(∀ t∈b,t.length < 1000) →
  ∃ S' nd' wd',mB S b=.some S'/\K (fun p=>P p\/∃ t∈b,p <+: t) S' nd' wd'/\wd.length<=wd'.length/\wd'.length<=wd.length+2 * (b.map List.length).sum:=by
 intro b
 induction b with
 | nil =>
  intro P S nd wd H _ _
  refine ⟨S,nd,wd,rfl,H.congr fun p=>⟨.inl,?_⟩,Zl _,YK _ _⟩
  rintro (a | ⟨t,ht,_⟩)
  ·exact a
  ·cases ht
 | cons t b ih =>
  intro P S nd wd H ha hl
  have hz:0 < wd.length:=H.i.lt H.i.z
  obtain ⟨S1,r1,nd1,wd1,e1,H1,a1,a2,a3,a4,a5⟩:=H.grow t hz (by rw [H.i.wz];exact H.nil) (ha t Zx) (by rw [H.i.wz];have:=hl t Zx;simpa using this)
  obtain ⟨S2,nd2,wd2,e2,H2,b1,b2⟩:=ih H1 (fun t ht=>ha t (Zw _ ht)) (fun t ht=>hl t (Zw _ ht))
  refine ⟨S2,nd2,wd2,?_,H2.congr fun p=>?_,by omega,by rw [Zs,YG];omega⟩
  ·show (hg S 0 t).bind _=_
   rw [e1]
   exact e2
  ·rw [H.i.wz]
   constructor
   ·rintro ((a | ⟨v,a,rfl⟩) | ⟨u,hu,a⟩)
    ·exact .inl a
    ·exact .inr ⟨t,Zx,a⟩
    ·exact .inr ⟨u,Zw _ hu,a⟩
   ·rintro (a | ⟨u,hu,a⟩)
    ·exact .inl (.inl a)
    ·rcases Zh.mp hu with rfl | hu
     ·exact .inl (.inr ⟨p,a,rfl⟩)
     ·exact .inr ⟨u,hu,a⟩
noncomputable def Hd (b:List Wd) (p:Wd):Prop:=p=[]\/∃ t∈b,p <+: t
theorem K.of (b:List Wd) (ha:∀ t∈b,∀ c∈t,97<=c/\c<=122) (hl:∀ t∈b,t.length < 1000):∃ S nd wd,mB S0 b=.some S/\K (Hd b) S nd wd/\wd.length<=1+2 * (b.map List.length).sum:=by
 obtain ⟨S,nd,wd,e,H,_,l⟩:=K0.book b ha hl
 exact ⟨S,nd,wd,e,H,l⟩
noncomputable def sk (w:List (Nat×Nat)):Wi:=(List.range' 97 26).filter fun c=>(gW w c).isSome
noncomputable def visit (w:List (Nat×Nat)):Wi->Wi->Wi
 | [],met=>met
 | c :: r,met=>visit w r (if (gW w c).getD 0∈met then met else met++[(gW w c).getD 0])
noncomputable def bfs (S:St):Nat->Wi->Nat->Option (Wi)
 | k,met,d=>if d < met.length then (match k with
  | 0=>none
  | k+1=>bfs S k (visit (S.wy.getD (met.getD d 0) []) (sk (S.wy.getD (met.getD d 0) [])) met) (d+1)) else some met
noncomputable def steps (S:St) (met:Wi) (n:Nat):List (Nat×Nat):=(sk (S.wy.getD n [])).map fun c=>(c,met.idxOf ((gW (S.wy.getD n []) c).getD 0))
noncomputable abbrev Row:=Nat×Nat×Option Nat×List (Nat×Nat)
noncomputable def row (S:St) (met:Wi) (n:Nat):Row:=match S.lk.getD n none with
 | none=>(0,0,none,steps S met n)
 | some l=>(S.lg.getD l 0+1,S.lg.getD n 0,some (met.idxOf l),steps S met n)
noncomputable def tab (S:St) (met:Wi):List Row:=met.map (row S met)
section
variable {S T:St} {f:Nat->Nat}
theorem i8 {w:List (Nat×Nat)} {c:Nat} (h:c∈sk w):∃ m,gW w c=some m:=Yo.mp (YS.mp h).2
theorem lN {w:List (Nat×Nat)} {N:Nat} (hw:∀ c m,gW w c=some m->m < N):∀ (r met:Wi),(∀ c∈r,∃ m,gW w c=some m)->(∀ x∈met,x < N)->∀ x∈visit w r met,x < N
 | [],met,_,hm=>hm
 | c :: r,met,hr,hm=>by
  refine lN hw r _ (fun d hd=>hr d (Zw _ hd)) ?_
  obtain ⟨m,e⟩:=hr c Zx
  rw [e,Y0]
  split
  ·exact hm
  ·intro x hx
   rcases Zc.mp hx with h | h
   ·exact hm x h
   ·rw [Zf.mp h];exact hw c m e
theorem getD_mem {l:Wi} {d:Nat} (h:d < l.length):l.getD d 0∈l:=by
 rw [Zq,Zm h]
 exact Z8 h
end
theorem jM {w:List (Nat×Nat)}:∀ (r met:Wi),∃ l,visit w r met=met++l
 | [],met=>⟨[],(ZP _).symm⟩
 | c :: r,met=>by
  obtain ⟨l,e⟩:=jM (w:=w) r (if (gW w c).getD 0∈met then met else met++[(gW w c).getD 0])
  show ∃ l,visit w r _=_
  rw [e]
  split
  ·exact ⟨l,rfl⟩
  ·exact ⟨_,Z1 _ _ _⟩
theorem lz {w:List (Nat×Nat)}:∀ (r met:Wi),met.Nodup->(visit w r met).Nodup
 | [],met,h=>h
 | c :: r,met,h=>by
  refine lz (w:=w) r _ ?_
  split
  ·exact h
  ·rename_i q
   rw [ZO]
   refine ⟨h,by simp,fun a ha b hb e=>q ?_⟩
   rw [Zf.mp hb] at e
   rw [← e]
   exact ha
theorem mN {w:List (Nat×Nat)}:∀ (r met:Wi),∀ c∈r,(gW w c).getD 0∈visit w r met
 | d :: r,met,c,hc=>by
  rcases Zh.mp hc with rfl | hc
  ·obtain ⟨l,e⟩:=jM (w:=w) r (if (gW w c).getD 0∈met then met else met++[(gW w c).getD 0])
   show _∈visit w r _
   rw [e]
   refine Z7 _ ?_
   split
   ·assumption
   ·exact ZX _ Zx
  ·exact mN r _ c hc
theorem uz {w:List (Nat×Nat)} (az:∀ p∈w,97<=p.1/\p.1<=122) {c m:Nat} (h:gW w c=some m):c∈sk w:=by
 refine YS.mpr ⟨?_,by rw [h];rfl⟩
 unfold gW at h
 obtain ⟨p,hp,_⟩:=Zu.mp h
 have e:=List.find?_some hp
 have:=az p (List.mem_of_find?_eq_some hp)
 have e':p.1=c:=by simpa using e
 rw [e'] at this
 rw [Wv]
 omega
theorem zM {S:St} (WS:WF S):∀ (k:Nat) (met:Wi) (d:Nat),met.Nodup->(∀ x∈met,x < S.lg.length)->d<=met.length->S.lg.length<=k+d->(∀ i,i < d->∀ c m,gW (S.wy.getD (met.getD i 0) []) c=some m->m∈met) →
  ∃ l,bfs S k met d=some (met++l)/\(met++l).Nodup/\(∀ x∈met++l,x < S.lg.length)/\∀ n∈met++l,∀ c m,gW (S.wy.getD n []) c=some m->m∈met++l:=by
 intro k
 have fin:∀ (met:Wi) (d:Nat),¬ d < met.length->d<=met.length->(∀ i,i < d->∀ c m,gW (S.wy.getD (met.getD i 0) []) c=some m->m∈met)->∀ n∈met,∀ c m,gW (S.wy.getD n []) c=some m->m∈met:=by
  intro met d h1 h2 h n hn c m e
  obtain ⟨i,hi,q⟩:=List.mem_iff_getElem.mp hn
  refine h i (by omega) c m ?_
  have:met.getD i 0=n:=by rw [Zq,Zm hi,q];rfl
  rw [this]
  exact e
 induction k with
 | zero =>
  intro met d nd lt hd hk h
  have hl:met.length<=S.lg.length:=by
   have:=sub_len met (List.range S.lg.length) nd fun x hx=>Z4.mpr (lt x hx)
   rwa [ZF] at this
  have hlt:¬ d < met.length:=by omega
  refine ⟨[],?_,?_⟩
  ·unfold bfs
   rw [Zo hlt,ZP]
  ·rw [ZP]
   exact ⟨nd,lt,fin met d hlt hd h⟩
 | succ k ih =>
  intro met d nd lt hd hk h
  by_cases hlt:d < met.length
  ·obtain ⟨l1,e1⟩:=jM (w:=S.wy.getD (met.getD d 0) []) (sk (S.wy.getD (met.getD d 0) [])) met
   obtain ⟨l,e,h1,h2,h3⟩:=ih (visit (S.wy.getD (met.getD d 0) []) (sk (S.wy.getD (met.getD d 0) [])) met) (d+1) (lz _ _ nd) (lN (fun c m e=>WS.on _ c m e) _ _ (fun c hc=>i8 hc) lt) (by rw [e1,Zy];omega) (by omega) (fun i hi c m e=>by
    have gi:(visit (S.wy.getD (met.getD d 0) []) (sk (S.wy.getD (met.getD d 0) [])) met).getD i 0=met.getD i 0:=by
     rw [e1,Zq,Zq,Z3 (by omega)]
    rw [gi] at e
    by_cases q:i=d
    ·subst q
     have:=mN (w:=S.wy.getD (met.getD i 0) []) (sk (S.wy.getD (met.getD i 0) [])) met c (uz (WS.wnd _).2 e)
     rw [e] at this
     exact this
    ·rw [e1]
     exact Z7 _ (h i (by omega) c m e))
   rw [e1,Z1] at h1 h2 h3
   refine ⟨l1++l,?_,h1,h2,h3⟩
   unfold bfs
   rw [Zr hlt]
   show bfs S k _ (d+1)=_
   rw [e,e1,Z1]
  ·refine ⟨[],?_,?_⟩
   ·unfold bfs
    rw [Zo hlt,ZP]
   ·rw [ZP]
    exact ⟨nd,lt,fin met d hlt hd h⟩
theorem xF {α:Type} {p:List α->Prop} (h0:p []) (h1:∀ l a,p l->p (l++[a])) (l:List α):p l:=by
 have:∀ l:List α,p l.reverse:=by
  intro l
  induction l with
  | nil=>exact h0
  | cons a l ih=>rw [List.reverse_cons];exact h1 _ a ih
 rw [← List.reverse_reverse l]
 exact this _
theorem K.met {P:Wd->Prop} {S:St} {nd:Wd->Option Nat} {wd:List Wd} (H:K P S nd wd) {k:Nat} (hk:wd.length<=k):∃ l,bfs S k [0] 0=Option.some (0 :: l)/\(0 :: l).Nodup/\(∀ x,x∈0 :: l ↔ x < wd.length)/\(0 :: l).length=wd.length:=by
 have L:S.lg.length=wd.length:=H.i.len.symm
 obtain ⟨l,e,h1,h2,h3⟩:=zM H.i.wf k [0] 0 (by simp) (fun x hx=>by rw [Zf.mp hx];exact H.i.wf.pos) (Yr _) (by omega) (fun i hi=>absurd hi (Nat.not_lt_zero _))
 have h0:∀ (x:Wd) n,nd x=Option.some n->n∈0 :: l:=by
  intro x
  induction x using xF with
  | h0=>intro n e;rw [H.i.z] at e;cases e;exact Zx
  | h1 x c ih =>
   intro n e
   obtain ⟨m,hm⟩:=H.i.pre e
   exact h3 m (ih m hm) c n (by rw [H.i.wy hm];exact e)
 have hx:∀ x,x∈0 :: l ↔ x < wd.length:=fun x=>⟨fun z=>by rw [← L];exact h2 x z,fun z=>h0 _ x (H.i.top z)⟩
 refine ⟨l,e,h1,hx,Nat.le_antisymm ?_ ?_⟩
 ·have:=sub_len (0 :: l) (List.range wd.length) h1 fun x z=>Z4.mpr ((hx x).mp z)
  rwa [ZF] at this
 ·have:=sub_len (List.range wd.length) (0 :: l) List.nodup_range fun x z=>(hx x).mpr (Z4.mp z)
  rwa [ZF] at this
end AU
end
section
namespace T58
open VS AU
theorem wI (w:List (Nat×Nat)) (c:Nat):c∈w.map (·.1) ↔ (gW w c).isSome=true:=by
 rw [← zW,Xp,ZG]
 exact ⟨fun ⟨p,h1,h2⟩=>⟨p,h1,by rw [h2];exact beq_self_eq_true c⟩,fun ⟨p,h1,h2⟩=>⟨p,h1,by simpa using h2⟩⟩
theorem rh {w:List (Nat×Nat)} (nd:(w.map (·.1)).Nodup) (az:∀ p∈w,97<=p.1/\p.1<=122):(sk w).Perm (w.map (·.1)):=by
 refine (List.perm_ext_iff_of_nodup ?_ nd).mpr fun c=>?_
 ·exact List.Nodup.sublist List.filter_sublist List.nodup_range'
 ·rw [wI]
  constructor
  ·intro h
   exact (YS.mp h).2
  ·intro h
   obtain ⟨m,e⟩:=Yo.mp h
   exact uz az e
theorem vM {m:Md} {w:List (Nat×Nat)} (nd:(w.map (·.1)).Nodup) (az:∀ p∈w,97<=p.1/\p.1<=122):gu [(m,wT' w)]=some (.fr,.lst ((sk w).map fun c=>T.str [c])):=by
 show ((strs? ((w.map fun p=>(T.str [p.1],T.int (p.2:Int))).map (·.1))).bind _)=_
 have e1:(w.map fun p=>(T.str [p.1],T.int (p.2:Int))).map (·.1)=(w.map (·.1)).map fun c=>T.str [c]:=by
  rw [Z6,Z6]
  rfl
 rw [e1,strs_map (fun c=>[c]),Zt,Zr]
 ·have:(sk w).map (fun c=>[c])=eB ((w.map (·.1)).map fun c=>[c]):=by
   refine mF ((rh nd az).map _) ?_
   rw [Xb]
   refine List.Pairwise.imp ?_ (List.Pairwise.filter _ (List.pairwise_lt_range' (s:=97) (n:=26)))
   intro a b hab h
   rcases Xr.mp h with h | ⟨_,h⟩
   ·omega
   ·exact absurd h (List.not_lt_nil _)
  rw [← this,Z6]
  rfl
 ·refine ⟨?_,YJ.mpr ?_⟩
  ·rw [Zv,← (rh nd az).length_eq]
   have:(sk w).length<=(List.range' 97 26).length:=Xs _ _
   rw [X8] at this
   omega
  intro s hs
  obtain ⟨c,hc,rfl⟩:=ZG.mp hs
  obtain ⟨p,hp,rfl⟩:=ZG.mp hc
  have:=az p hp
  show (decide (1<=eA) && (decide (p.1 < 1114112) && true))=true
  rw [ZL (show p.1 < 1114112 by omega)]
  rfl
noncomputable def nE:Nat->Wi->List (T×T)
 | _,[]=>[]
 | k,n :: r=>(T.int (n:Int),T.int (k:Int)) :: nE (k+1) r
theorem uN:∀ (met:Wi) (k:Nat),(nE k met).length=met.length
 | [],_=>rfl
 | _ :: r,k=>by rw [nE,Zk,Zk,uN r]
theorem mQ:∀ (met:Wi) (k:Nat),(nE k met).map (·.1)=met.map fun (n:Nat)=>T.int (n:Int)
 | [],_=>rfl
 | _ :: r,k=>by rw [nE,Zs,Zs,mQ r]
theorem vc:∀ (met:Wi) (k n:Nat),nE k (met++[n])=nE k met++[(T.int (n:Int),T.int ((k+met.length:Nat):Int))]
 | [],k,n=>rfl
 | m :: r,k,n=>by
  rw [XR,nE,nE,vc r (k+1) n,Zk,XR]
  rw [show k+1+r.length=k+(r.length+1) by omega]
theorem C8 (a b:Nat):eqT (.int (a:Int)) (.int (b:Int))=(a == b):=by
 simp only [eqT]
 by_cases h:a=b
 ·simp [h]
 ·have h1:¬ (a:Int)=(b:Int):=by omega
  rw [ZK.mpr h,ZK.mpr h1]
theorem nh:∀ (met:Wi) (k n:Nat),dX (nE k met) (.int (n:Int))=if n∈met then some (T.int ((k+met.idxOf n:Nat):Int)) else none
 | [],_,_=>rfl
 | m :: r,k,n=>by
  show ((((T.int (m:Int),T.int (k:Int)) :: nE (k+1) r).find? fun p=>eqT p.1 (.int (n:Int))).map (·.2))=_
  rw [Z0]
  simp only [C8]
  by_cases h:m=n
  ·subst h
   simp [List.idxOf_cons]
  ·have hb:(m == n)=false:=ZK.mpr h
   have ih:=nh r (k+1) n
   unfold dX at ih
   simp only [hb]
   rw [ih,List.idxOf_cons,hb]
   by_cases q:n∈r
   ·rw [Zr q,Zr (Zw _ q)]
    show some (T.int ((k+1+r.idxOf n:Nat):Int))=some (T.int ((k+(r.idxOf n+1):Nat):Int))
    rw [show k+1+r.idxOf n=k+(r.idxOf n+1) by omega]
   ·rw [Zo q,Zo (fun z=>(Zh.mp z).elim (fun e=>h e.symm) q)]
theorem zE (met:Wi) (n:Nat) (h:n ∉ met):dput (nE 0 met) (.int (n:Int)) (.int (met.length:Int))=nE 0 (met++[n]):=by
 unfold dput
 rw [Zo,vc]
 ·rw [Y8]
 ·intro z
  obtain ⟨p,hp,e⟩:=Xp.mp z
  have:(dX (nE 0 met) (.int (n:Int))).isSome=true:=by
   unfold dX
   rw [Yc,List.find?_isSome]
   exact ⟨p,hp,e⟩
  rw [nh,Zo h] at this
  cases this
noncomputable def nT (met:Wi):T:=.dct 0 (nE 0 met)
noncomputable def mT (met:Wi):T:=.lst (met.map fun (n:Nat)=>T.int (n:Int))
theorem yO {η:Env} {m k:Md} {met:Wi} {n:Nat} {a e:Ex} (h:a η=some (m,nT met)) (he:e η=some (k,.int (n:Int))):e2 dm e a η=some (.fr,.bl (decide (n ∉ met))):=e2v he h (by
 show (match (if true=true then some (Md.fr,T.bl (dX (nE 0 met) (.int (n:Int))).isSome) else none) with | some (_,.bl b)=>some (Md.fr,T.bl (!b)) | _=>none)=_
 rw [Zr rfl,nh]
 by_cases q:n∈met
 ·rw [Zr q,Ze (fun z=>z q)];rfl
 ·rw [Zo q,ZL q];rfl)
section
variable {S:St} {w:List (Nat×Nat)}
theorem tY {d:Nat} {ob:Wf}:∀ (r met:Wi) (z:Wf),(∀ c∈r,∃ m,gW w c=some m)->met.length+r.length < 16777216->∃ z',forL (bF 5) br (r.map fun c=>T.str [c]) [ob,oc (nT met),oc (mT met),Q0 (d:Int),pc (wT' w),z]=some (.nx [ob,oc (nT (visit w r met)),oc (mT (visit w r met)),Q0 (d:Int),pc (wT' w),z'])
 | [],met,z,_,_=>⟨z,rfl⟩
 | c :: r,met,z,hr,hl=>by
  obtain ⟨m,e⟩:=hr c Zx
  rw [Zk] at hl
  have hlen:(nE 0 met).length=met.length:=uN met 0
  by_cases q:m∈met
  ·obtain ⟨z',ih⟩:=tY r met (Q1 ([c])) (fun d hd=>hr d (Zw _ hd)) (by omega)
   refine ⟨z',?_⟩
   have ev:visit w (c :: r) met=visit w r met:=by
    show visit w r (if (gW w c).getD 0∈met then met else met++[(gW w c).getD 0])=_
    rw [e,Y0,Zr q]
   rw [ev,Zs]
   refine (dr (η1:=[ob,oc (nT met),oc (mT met),Q0 (d:Int),pc (wT' w),Q1 ([c])]) rfl ?_).trans ih
   unfold br
   refine ko (m:=.fr) ?_ rfl
   refine (yO (m:=.bo) (k:=.fr) (met:=met) (n:=m) rfl (u4 (m:=.pu) (n:=.fr) (c:=c) (w:=w) rfl rfl e)).trans ?_
   rw [Ze (fun z=>z q)]
  ·obtain ⟨z',ih⟩:=tY r (met++[m]) (Q1 ([c])) (fun d hd=>hr d (Zw _ hd)) (by rw [Zy,Zj];omega)
   refine ⟨z',?_⟩
   have ev:visit w (c :: r) met=visit w r (met++[m]):=by
    show visit w r (if (gW w c).getD 0∈met then met else met++[(gW w c).getD 0])=_
    rw [e,Y0,Zo q]
   rw [ev,Zs]
   refine (dr (η1:=[ob,oc (nT met),oc (mT met),Q0 (d:Int),pc (wT' w),Q1 ([c])]) rfl ?_).trans ih
   unfold br
   refine ift (m:=.fr) ?_ ?_
   ·refine (yO (m:=.bo) (k:=.fr) (met:=met) (n:=m) rfl (u4 (m:=.pu) (n:=.fr) (c:=c) (w:=w) rfl rfl e)).trans ?_
    rw [ZL q]
   ·have ix1:∀ nn mm:Wf,e2 oIx (aa 4) (aa 5) [ob,nn,mm,Q0 (d:Int),pc (wT' w),Q1 ([c])]=some (.fr,.int (m:Int)):=fun nn mm=>u4 (m:=.pu) (n:=.fr) (c:=c) (w:=w) rfl rfl e
    have p1:kg 1 (e2 oIx (aa 4) (aa 5)) (eN bX (ae (aa 2) ai)) [ob,oc (nT met),oc (mT met),Q0 (d:Int),pc (wT' w),Q1 ([c])]=some (.nx [ob,oc (nT (met++[m])),oc (mT met),Q0 (d:Int),pc (wT' w),Q1 ([c])]):=by
     have l1:eN bX (ae (aa 2) ai) [ob,oc (nT met),oc (mT met),Q0 (d:Int),pc (wT' w),Q1 ([c])]=some (.fr,.int (met.length:Int)):=gL (xv (x:=(.bo,mT met)) rfl rfl) (by
      show some (Md.fr,T.int (((met.map fun (n:Nat)=>T.int (n:Int)).length:Nat):Int))=_
      rw [Zv])
     unfold kg
     rw [l1,Zt]
     show ((e2 oIx (aa 4) (aa 5) [ob,oc (nT met),oc (mT met),Q0 (d:Int),pc (wT' w),Q1 ([c])]).bind _)=_
     rw [ix1,Zt]
     show (if true=true/\true=true/\(nE 0 met).length < eA then some (Out.nx [ob,oc (.dct 0 (dput (nE 0 met) (.int (m:Int)) (.int (met.length:Int)))),oc (mT met),Q0 (d:Int),pc (wT' w),Q1 ([c])]) else none)=_
     rw [Zr ⟨rfl,rfl,by rw [hlen];show met.length < 16777216;omega⟩,zE met m q]
     rfl
    refine sq p1 ?_
    refine (lK (i:=2) (l:=met.map fun (n:Nat)=>T.int (n:Int)) (v:=.int (m:Int)) rfl (ix1 _ _) (by rw [Zv];omega)).trans ?_
    rw [show (met.map fun (n:Nat)=>T.int (n:Int))++[.int (m:Int)]=(met++[m]).map fun (n:Nat)=>T.int (n:Int) from by rw [ZA];rfl]
    rfl
end
theorem pK (w:List (Nat×Nat)):(sk w).length<=26:=by
 refine ZW (Xs _ _) ?_
 rw [X8]
 exact Zl _
theorem xE {S:St} {met:Wi} (nd:met.Nodup) (lt:∀ x∈met,x < S.lg.length):met.length<=S.lg.length:=by
 have:=sub_len met (List.range S.lg.length) nd fun x hx=>Z4.mpr (lt x hx)
 rwa [ZF] at this
theorem Ck {S:St} (WS:WF S) (hs:S.lg.length<=100001):∀ (k:Nat) (met:Wi) (d:Nat) (M:Wi),met.Nodup->(∀ x∈met,x < S.lg.length)->bfs S k met d=some M->∀ N,k < N->∀ z4 z5:Wf,∃ d' z4' z5',
  eE (e2 oLt (aa 3) (eN bX (ae (aa 2) ai))) bQ N [pc (obT S false),oc (nT met),oc (mT met),Q0 ((d:Nat):Int),z4,z5] =
   some (.nx [pc (obT S false),oc (nT M),oc (mT M),pc d',z4',z5']):=by
 have cond:∀ (met:Wi) (d:Nat) (z4 z5:Wf),e2 oLt (aa 3) (eN bX (ae (aa 2) ai)) [pc (obT S false),oc (nT met),oc (mT met),Q0 ((d:Nat):Int),z4,z5]=some (.fr,.bl (decide (d < met.length))):=fun met d z4 z5 =>
  e2v (x:=(.fr,.int (d:Int))) rfl (gL (v:=(.fr,.int (met.length:Int))) (xv (x:=(.bo,mT met)) rfl rfl) (by
   show some (Md.fr,T.int (((met.map fun (n:Nat)=>T.int (n:Int)).length:Nat):Int))=_
   rw [Zv])) (by
   show some (Md.fr,T.bl (decide ((d:Int) < (met.length:Int))))=_
   rw [show decide ((d:Int) < (met.length:Int))=decide (d < met.length) from decide_eq_decide.mpr (by omega)])
 intro k
 induction k with
 | zero =>
  intro met d M nd lt e N hN z4 z5
  obtain ⟨N,rfl⟩:∃ M,N=M+1:=⟨N - 1,by omega⟩
  unfold bfs at e
  split at e
  ·cases e
  ·rename_i h
   cases e
   exact ⟨_,z4,z5,eJ (m:=.fr) ((cond _ _ _ _).trans (by rw [Ze h]))⟩
 | succ k ih =>
  intro met d M nd lt e N hN z4 z5
  obtain ⟨N,rfl⟩:∃ M,N=M+1:=⟨N - 1,by omega⟩
  unfold bfs at e
  split at e
  ·rename_i h
   have hn:=lt _ (getD_mem h)
   have hnw:met.getD d 0 < S.wy.length:=by rw [WS.wy];exact hn
   have ml:=xE nd lt
   have sl:=pK (S.wy.getD (met.getD d 0) [])
   obtain ⟨z',l1⟩:=tY (w:=S.wy.getD (met.getD d 0) []) (d:=d) (ob:=pc (obT S false)) (sk (S.wy.getD (met.getD d 0) [])) met z5 (fun c hc=>i8 hc) (by omega)
   obtain ⟨d',y4,y5,q⟩:=ih _ (d+1) M (lz _ _ nd) (lN (fun c m e=>WS.on _ c m e) _ _ (fun c hc=>i8 hc) lt) e N (by omega) (pc (wT' (S.wy.getD (met.getD d 0) []))) z'
   refine ⟨d',y4,y5,(kC (m:=.fr) ((cond _ _ _ _).trans (by rw [ZL h])) ?_).trans q⟩
   unfold bQ
   have ix:e2 aB (aa 2) (aa 3) [pc (obT S false),oc (nT met),oc (mT met),Q0 ((d:Nat):Int),z4,z5]=some (.fr,.int ((met.getD d 0:Nat):Int)):=e2v (x:=(.bo,mT met)) (y:=(.fr,.int (d:Int))) rfl rfl (lS _ met d 0 h)
   have s1:aC 4 (e2 aB (aV 3 (aa 0)) (e2 aB (aa 2) (aa 3))) [pc (obT S false),oc (nT met),oc (mT met),Q0 ((d:Nat):Int),z4,z5]=some (.nx [pc (obT S false),oc (nT met),oc (mT met),Q0 ((d:Nat):Int),pc (wT' (S.wy.getD (met.getD d 0) [])),z5]) :=
    aw (m:=.pu) (kF (S:=S) (b:=false) (m:=.pu) (n:=.fr) rfl ix hnw) (by decide) (by decide:4 < 6)
   refine sq s1 ?_
   have nw:=WS.wnd (met.getD d 0)
   refine sq ((fC (m:=.fr) (l:=(sk (S.wy.getD (met.getD d 0) [])).map fun c=>T.str [c]) ?_ rfl).trans l1) ?_
   ·show (eN gu (ae (aa 4) ai) _).bind A5=_
    rw [gL (xv (x:=(.pu,wT' (S.wy.getD (met.getD d 0) []))) rfl rfl) (vM nw.1 nw.2)]
    rfl
   ·exact aw (m:=.fr) (t:=.int (((d+1:Nat)):Int)) rfl (by decide) (by decide:3 < 6)
  ·rename_i h
   cases e
   exact ⟨_,z4,z5,eJ (m:=.fr) ((cond _ _ _ _).trans (by rw [Ze h]))⟩
theorem zZ {S:St} (WS:WF S) (hs:S.lg.length<=100001) {M:Wi} {k:Nat} (hk:k < 1000000) (e:bfs S k [0] 0=some M):aH [obT S false]=some (.fr,nT M):=by
 obtain ⟨d',z4,z5,q⟩:=Ck WS hs k [0] 0 M (by simp) (fun x hx=>by rw [Zf.mp hx];exact WS.pos) e sA (by show k < 1000000;exact hk) none none
 refine dZ (η:=[pc (obT S false),none,pc (mT M),pc d',z4,z5]) rfl ?_
 exact sq rfl (sq rfl (sq rfl (sq q (sq rfl rfl))))
noncomputable def stT (l:List (Nat×Nat)):T:=.tup (l.map fun p=>T.tup [.str [p.1],.int (p.2:Int)])
noncomputable def dY (r:Row):T:=.tup [.int (r.1:Int),.int (r.2.1:Int),lkT r.2.2.1,stT r.2.2.2]
theorem rK:∀ l:List (Nat×Nat),fm (l.map fun p=>T.tup [.str [p.1],.int (p.2:Int)])=true
 | []=>rfl
 | p :: l=>by
  rw [Zs]
  show (true && fm _)=true
  rw [rK l]
  rfl
theorem lJ (l:List (Nat×Nat)):imm (stT l)=true:=rK l
theorem kz (r:Row):imm (dY r)=true:=by
 show (true && (true && (imm (lkT r.2.2.1) && (imm (stT r.2.2.2) && true))))=true
 rw [jZ,lJ]
 rfl
theorem CL {a b c d:Ex} {η:Env} {x y z w:T} (h1:a η=some (.fr,x)) (h2:b η=some (.fr,y)) (h3:c η=some (.fr,z)) (h4:d η=some (.fr,w)):lH (ae a (ae b (ae c (ae d ai)))) η=some (.fr,.tup [x,y,z,w]):=by
 show (ae a (ae b (ae c (ae d ai))) η).bind oB=_
 rw [xv h1 (xv h2 (xv h3 (xv (r:=ai) h4 rfl))),Zt]
 show some (up .fr _)=_
 unfold up
 split <;> rfl
theorem Ai {S:St} (WS:WF S) {met:Wi} (all:∀ x,x < S.lg.length->x∈met) {n:Nat} (hn:n < S.lg.length):bU [obT S false,.int (n:Int),.dct 3 (nE 0 met)]=some (.fr,dY (row S met n)):=by
 have hw:n < S.wy.length:=by rw [WS.wy];exact hn
 have hk:n < S.lk.length:=by rw [WS.lk];exact hn
 have nw:=WS.wnd n
 have get:∀ v,v < S.lg.length->dX (nE 0 met) (.int (v:Int))=some (T.int ((met.idxOf v:Nat):Int)):=fun v hv=>by rw [nh,Zr (all v hv),Y8]
 have s1:aC 3 (e2 aB (aV 2 (aa 0)) (aa 1)) [pc (obT S false),Q0 (n:Int),pc (.dct 3 (nE 0 met)),none,none,none]=some (.nx [pc (obT S false),Q0 (n:Int),pc (.dct 3 (nE 0 met)),pc (lkT (S.lk.getD n none)),none,none]):=aw (m:=.fr) (qO (S:=S) (b:=false) (m:=.pu) (n:=.fr) rfl rfl hk) (by decide) (by decide:3 < 6)
 have s2:aC 4 (e2 aB (aV 3 (aa 0)) (aa 1)) [pc (obT S false),Q0 (n:Int),pc (.dct 3 (nE 0 met)),pc (lkT (S.lk.getD n none)),none,none]=some (.nx [pc (obT S false),Q0 (n:Int),pc (.dct 3 (nE 0 met)),pc (lkT (S.lk.getD n none)),pc (wT' (S.wy.getD n [])),none]):=aw (m:=.pu) (kF (S:=S) (b:=false) (m:=.pu) (n:=.fr) rfl rfl hw) (by decide) (by decide:4 < 6)
 have c5:eN iH (ae (eT 1 (bF 0) (g8 (eN gu (ae (aa 4) ai))) none (lH (ae (aa 0) (ae (e2 m8 (aa 3) (e2 oIx (aa 5) (aa 0))) ai)))) ai) [pc (obT S false),Q0 (n:Int),pc (.dct 3 (nE 0 met)),pc (lkT (S.lk.getD n none)),pc (wT' (S.wy.getD n [])),none]=some (.fr,stT (steps S met n)):=by
  have c1:=eD (k:=1) (tg:=bF 0) (it:=g8 (eN gu (ae (aa 4) ai))) (elt:=lH (ae (aa 0) (ae (e2 m8 (aa 3) (e2 oIx (aa 5) (aa 0))) ai))) (m:=.fr) (η:=[pc (obT S false),Q0 (n:Int),pc (.dct 3 (nE 0 met)),pc (lkT (S.lk.getD n none)),pc (wT' (S.wy.getD n [])),none]) (fun c=>T.str [c]) (fun c=>T.tup [.str [c],.int ((met.idxOf ((gW (S.wy.getD n []) c).getD 0):Nat):Int)]) (sk (S.wy.getD n [])) (by
   show (eN gu (ae (aa 4) ai) _).bind A5=_
   rw [gL (xv (x:=(.pu,wT' (S.wy.getD n []))) rfl rfl) (vM nw.1 nw.2)]
   rfl) rfl (ZW (pK _) (by decide)) (fun c hc=>by
   obtain ⟨v,ev⟩:=i8 hc
   refine ⟨[Q1 ([c]),pc (obT S false),Q0 (n:Int),pc (.dct 3 (nE 0 met)),pc (lkT (S.lk.getD n none)),pc (wT' (S.wy.getD n [])),none],rfl,?_⟩
   have i1:e2 m8 (aa 3) (e2 oIx (aa 5) (aa 0)) [Q1 ([c]),pc (obT S false),Q0 (n:Int),pc (.dct 3 (nE 0 met)),pc (lkT (S.lk.getD n none)),pc (wT' (S.wy.getD n [])),none]=some (.fr,.int ((met.idxOf v:Nat):Int)) :=
    e2v (x:=(.pu,.dct 3 (nE 0 met))) rfl (u4 (m:=.pu) (n:=.fr) (c:=c) (w:=S.wy.getD n []) rfl rfl ev) (by
     show (if true=true then (dX (nE 0 met) (.int (v:Int))).map (sub .pu) else none)=_
     rw [Zr rfl,get v (WS.on n c v ev)]
     rfl)
   rw [ev,Y0]
   show (ae (aa 0) (ae (e2 m8 (aa 3) (e2 oIx (aa 5) (aa 0))) ai) _).bind oB=_
   rw [xv (x:=(.fr,.str [c])) rfl (xv (r:=ai) i1 rfl)]
   rfl)
  refine gL (xv (r:=ai) c1 rfl) ?_
  show (if _<=eA then some (up .fr (.tup _)) else none)=_
  rw [Zr (by rw [Zv];exact ZW (pK _) (by decide))]
  have:T.tup ((sk (S.wy.getD n [])).map fun c=>T.tup [.str [c],.int ((met.idxOf ((gW (S.wy.getD n []) c).getD 0):Nat):Int)])=stT (steps S met n):=by
   unfold stT steps
   rw [Z6]
   rfl
  rw [this]
  unfold up
  rw [lJ]
  rfl
 have s3:=aw (i:=5) c5 (by decide) (by decide:5 < 6)
 have v5:∀ η:Env,η[5]?=some (pc (stT (steps S met n)))->aa 5 η=some (.fr,stT (steps S met n)):=fun η h=>by
  show (match η[5]? with | some (some (.pu t))=>some (up .pu t) | some (some (.ow t))=>some (.bo,t) | _=>none)=_
  rw [h]
  show some (up .pu _)=_
  unfold up
  rw [lJ]
  rfl
 unfold row
 cases el:S.lk.getD n none with
 | none =>
  rw [el] at s1 s2 s3
  refine dZ (v:=(.fr,dY (0,0,none,steps S met n))) (η:=[pc (obT S false),Q0 (n:Int),pc (.dct 3 (nE 0 met)),pc (lkT none),pc (wT' (S.wy.getD n [])),pc (stT (steps S met n))]) rfl ?_
  refine sq s1 (sq s2 (sq s3 (gQ (ift (m:=.fr) rfl (df (CL rfl rfl rfl (v5 _ rfl)))))))
 | some l =>
  rw [el] at s1 s2 s3
  have hl:=WS.up n l el
  refine dZ (v:=(.fr,dY (S.lg.getD l 0+1,S.lg.getD n 0,some (met.idxOf l),steps S met n))) (η:=[pc (obT S false),Q0 (n:Int),pc (.dct 3 (nE 0 met)),pc (lkT (some l)),pc (wT' (S.wy.getD n [])),pc (stT (steps S met n))]) rfl ?_
  refine sq s1 (sq s2 (sq s3 (sq (ko (m:=.fr) rfl rfl) (df (CL ?_ ?_ ?_ (v5 _ rfl))))))
  ·exact e2v (nW (S:=S) (b:=false) (m:=.pu) (n:=.fr) (i:=l) rfl rfl hl) rfl rfl
  ·exact nW (S:=S) (b:=false) (m:=.pu) (n:=.fr) (i:=n) rfl rfl hn
  ·exact e2v (x:=(.pu,.dct 3 (nE 0 met))) (y:=(.fr,.int (l:Int))) rfl rfl (by
    show (if true=true then (dX (nE 0 met) (.int (l:Int))).map (sub .pu) else none)=_
    rw [Zr rfl,get l hl]
    rfl)
noncomputable def tbT (t:List Row):T:=.lst (t.map dY)
theorem Aw {S:St} (WS:WF S) (hs:S.lg.length<=100001) {M:Wi} {k:Nat} (hk:k < 1000000) (e:bfs S k [0] 0=some M) (all:∀ x,x∈M ↔ x < S.lg.length) (hl:M.length<=16777216):dh [obT S false]=some (.fr,tbT (tab S M)):=by
 have n1:=zZ WS hs hk e
 refine dZ (η:=[pc (obT S false),none]) rfl ?_
 have s1:kX 1 (eV 0 aH (aa 0) ai) [pc (obT S false),none]=some (.nx [pc (obT S false),oc (nT M)]):=by
  show (eV 0 aH (aa 0) ai [pc (obT S false),none]).bind _=_
  have:eV 0 aH (aa 0) ai [pc (obT S false),none]=some (.fr,nT M):=by
   show ((aH [obT S false]).bind _)=_
   rw [n1]
   rfl
  rw [this]
  rfl
 refine sq s1 ?_
 have c1:=eD (k:=1) (tg:=bF 0) (it:=oA 1) (elt:=eV 0 bU (aa 1) (ae (aa 0) (ae (aa 2) ai))) (m:=.fr) (η:=[pc (obT S false),pc (.dct 3 (nE 0 M))]) (fun (n:Nat)=>T.int (n:Int)) (fun n=>dY (row S M n)) M (by
  show (if ((nE 0 M).all fun p=>isInt p.1)=true then some (Md.fr,(nE 0 M).map (·.1)) else none)=_
  rw [Zr,mQ]
  rw [YJ]
  intro p hp
  have:p.1∈(nE 0 M).map (·.1):=List.mem_map_of_mem hp
  rw [mQ] at this
  obtain ⟨n,_,e⟩:=ZG.mp this
  rw [← e]
  rfl) rfl hl (fun n hn=>by
  refine ⟨[Q0 (n:Int),pc (obT S false),pc (.dct 3 (nE 0 M))],rfl,?_⟩
  show ((bU [obT S false,.int (n:Int),.dct 3 (nE 0 M)]).bind _)=_
  rw [Ai WS (fun x hx=>(all x).mpr hx) ((all n).mp hn)]
  rfl)
 show ((eT 1 (bF 0) (oA 1) none (eV 0 bU (aa 1) (ae (aa 0) (ae (aa 2) ai))) [pc (obT S false),pc (.dct 3 (nE 0 M))]).bind _)=_
 rw [c1]
 unfold tbT tab
 rw [Z6]
 rfl
noncomputable def fsM (tx:List Tx) (hd:Wi) (S:St):oj:=[(4,.lst (tx.map .str)),(5,.lst (hd.map fun (n:Nat)=>T.int (n:Int))),(6,obT S false)]
noncomputable def maT (tx:List Tx) (hd:Wi) (S:St) (b:Bool):T:=.obj 2 ((0,.bl b) :: fsM tx hd S)
theorem wR (S:St):eZ (obT S false)=true:=by
 show ((true && !(0 == 0 && false)) && dz (fsT S))=true
 rw [jC]
 rfl
theorem jq (tx:List Tx) (hd:Wi) (S:St):dz (fsM tx hd S)=true:=by
 have h1:eZ (.lst (tx.map T.str))=true:=d8 _ (fun _=>rfl) _
 have h2:eZ (.lst (hd.map fun (n:Nat)=>T.int (n:Int)))=true:=d8 _ (fun _=>rfl) _
 show ((eZ _ && !(4 == 0 && isT _)) && ((eZ _ && !(5 == 0 && isT _)) && ((eZ _ && !(6 == 0 && isT _)) && true)))=true
 rw [h1,h2,wR]
 rfl
theorem yj (tx:List Tx) (hd:Wi) (S:St) (b:Bool):mW 4 (maT tx hd S b)=some (.lst (tx.map .str)):=rfl
theorem CW (tx:List Tx) (hd:Wi) (S:St) (b:Bool):mW 5 (maT tx hd S b)=some (.lst (hd.map fun (n:Nat)=>T.int (n:Int))):=rfl
theorem C9 (tx:List Tx) (hd:Wi) (S:St) (b:Bool):mW 6 (maT tx hd S b)=some (obT S false):=rfl
section
variable {tx:List Tx} {hd:Wi} {S S':St} {b:Bool} {r:List (Wf)}
theorem tQ {a:Ex} {η:Env} {m:Md} (h:a η=some (m,maT tx hd S b)):eN bX (ae (aV 4 a) ai) η=some (.fr,.int (tx.length:Nat)):=gL (xv (gw h (yj tx hd S b)) rfl) (by
 show some (Md.fr,T.int (((tx.map T.str).length:Nat):Int))=_
 rw [Zv])
theorem A0 {e:Ex} {v:Tx} (h:e (oc (maT tx hd S b) :: r)=some (.fr,.str v)) (hl:tx.length < 16777216):sX (g5 0 [.fld 4] aJ (ae e ai)) (oc (maT tx hd S b) :: r)=some (.nx (oc (maT (tx++[v]) hd S b) :: r)):=by
 show (((some [Ky.fld 4]).bind fun ks=>(ae e ai (oc (maT tx hd S b) :: r)).bind fun xs=>(pm (fun x=>aJ x xs) ks (maT tx hd S b)).map _).map _)=_
 rw [Zt,xv (r:=ai) h rfl,Zt]
 show (((aJ (.lst (tx.map T.str)) [(.fr,.str v)]).map _).map _ |>.map _)=_
 rw [d6 (by rw [Zv];exact hl),show (tx.map T.str)++[.str v]=(tx++[v]).map T.str from by rw [ZA];rfl]
 rfl
theorem AA {e:Ex} {v:Nat} (h:e (oc (maT tx hd S b) :: r)=some (.fr,.int (v:Int))) (hl:hd.length < 16777216):sX (g5 0 [.fld 5] aJ (ae e ai)) (oc (maT tx hd S b) :: r)=some (.nx (oc (maT tx (hd++[v]) S b) :: r)):=by
 show (((some [Ky.fld 5]).bind fun ks=>(ae e ai (oc (maT tx hd S b) :: r)).bind fun xs=>(pm (fun x=>aJ x xs) ks (maT tx hd S b)).map _).map _)=_
 rw [Zt,xv (r:=ai) h rfl,Zt]
 show (((aJ (.lst (hd.map fun (n:Nat)=>T.int (n:Int))) [(.fr,.int (v:Int))]).map _).map _ |>.map _)=_
 rw [d6 (by rw [Zv];exact hl),show (hd.map fun (n:Nat)=>T.int (n:Int))++[.int (v:Int)]=(hd++[v]).map fun (n:Nat)=>T.int (n:Int) from by rw [ZA];rfl]
 rfl
theorem vX (hl:tx.length < 8) (hh:hd.length=tx.length):bx (fsM tx hd S) []=some (fsM (tx++[[]]) (hd++[0]) S,.int (tx.length:Int)):=by
 unfold bx mfn
 rw [Zr ⟨rfl,rfl⟩]
 have c1:e2 oGe (eN bX (ae (aV 4 (aa 0)) ai)) (Q2 8) [oc (maT tx hd S true)]=some (.fr,.bl false):=e2v (tQ (m:=.bo) rfl) rfl (by
  show some (Md.fr,T.bl (decide ((8:Int)<=(tx.length:Int))))=_
  rw [Ze (by omega)])
 have a1:=A0 (tx:=tx) (hd:=hd) (S:=S) (b:=true) (r:=[]) (e:=eC (.str [])) (v:=[]) rfl (by omega)
 have a2:=AA (tx:=tx++[[]]) (hd:=hd) (S:=S) (b:=true) (r:=[]) (e:=Q2 0) (v:=0) rfl (by omega)
 have a4:=df (e:=e2 i7 (eN bX (ae (aV 4 (aa 0)) ai)) (Q2 1)) (η:=[oc (maT (tx++[[]]) (hd++[0]) S true)]) (t:=.int (tx.length:Int)) (e2v (tQ (m:=.bo) rfl) rfl (by
  show some (Md.fr,T.int ((((tx++[[]]).length:Nat):Int) - 1))=_
  rw [Zy,Zj,show (((tx.length+1:Nat)):Int) - 1=(tx.length:Int) by omega]))
 exact congrArg (fun z:Option Out=>z.bind _) (sq (ko c1 rfl) (sq a1 (sq a2 a4)))
theorem zo {l:Wb} {i:Nat} (hi:i < l.length):bh [.lst l,.int (i:Int)]=some (.fr,.non):=by
 refine BY (η:=[pc (.lst l),Q0 (i:Int)]) rfl ?_
 refine (pw (m:=.fr) (Cw (m:=.fr) (x:=false) ?_ (fun _=>?_) (fun h=>by cases h))).trans rfl
 ·exact uE (m:=.fr) (b:=true) rfl
 ·refine uE (m:=.fr) (b:=true) (xg (x:=(.fr,.int 0)) (y:=(.fr,.int (i:Int))) (z:=(.fr,.int (l.length:Int))) rfl rfl ?_ (gL (xv (x:=(.pu,.lst l)) rfl rfl) rfl) ?_)
  ·show some (Md.fr,T.bl (decide ((0:Int)<=(i:Int))))=_
   rw [ZL (by omega)]
  ·show some (Md.fr,T.bl (decide ((i:Int) < (l.length:Int))))=_
   rw [ZL (by omega)]
theorem sR {i:Nat} (hi:i < tx.length):bh [.lst (tx.map .str),.int (i:Int)]=some (.fr,.non):=zo (by rw [Zv];exact hi)
end
noncomputable def cj (tx:List Tx):Nat:=(tx.map List.length).sum
theorem qC:∀ tx:List Tx,(tx.map fun t=>(t.length:Int)).sum=(cj tx:Int)
 | []=>rfl
 | t :: tx=>by
  rw [Zs,YG,qC tx]
  unfold cj
  rw [Zs,YG]
  omega
theorem uT (tx:List Tx) (hl:tx.length<=16777216):fL [.lst (tx.map .str)]=some (.fr,.int (cj tx:Int)):=by
 refine dZ (η:=[pc (.lst (tx.map .str))]) rfl ?_
 refine df (gL (xv (r:=ai) (eD (m:=.pu) T.str (fun (t:Tx)=>T.int (t.length:Int)) tx rfl rfl hl (fun t ht=>⟨[Q1 t,pc (.lst (tx.map .str))],rfl,rfl⟩)) rfl) ?_)
 show (jA (tx.map fun (t:Tx)=>T.int (t.length:Int))).bind _=_
 rw [ints_map (fun (t:Tx)=>(t.length:Int)),Zt,qC]
section
variable {tx:List Tx} {hd:Wi} {S S':St} {b:Bool}
theorem zu {i v:Nat} {e ev:Ex} {n:Md} {r:List (Wf)} (hi:i < hd.length) (he:e (oc (maT tx hd S b) :: r)=some (n,.int (i:Int))) (hv:ev (oc (maT tx hd S b) :: r)=some (.fr,.int (v:Int))) :
  eU 0 [.fld 5] e ev (oc (maT tx hd S b) :: r)=some (.nx (oc (maT tx (hd.set i v) S b) :: r)):=by
 unfold eU
 rw [hv,Zt]
 show ((keys [.fld 5] (oc (maT tx hd S b) :: r)).bind _)=_
 have hk:keys [.fld 5] (oc (maT tx hd S b) :: r)=some [.fld 5]:=rfl
 rw [hk,Zt,he,Zt]
 have hp:pm (iU (n,.int (i:Int)) (.fr,.int (v:Int))) [.fld 5] (maT tx hd S b)=some (maT tx (hd.set i v) S b,()):=by
  show ((iU (n,.int (i:Int)) (.fr,.int (v:Int)) (.lst (hd.map fun (n:Nat)=>T.int (n:Int)))).map _)=_
  have:iU (n,.int (i:Int)) (.fr,.int (v:Int)) (.lst (hd.map fun (n:Nat)=>T.int (n:Int)))=some (.lst ((hd.set i v).map fun (n:Nat)=>T.int (n:Int)),()):=by
   show ((ixP (hd.map fun (n:Nat)=>T.int (n:Int)).length (i:Int)).map _)=_
   rw [Zv,u9 hi,Wu]
   rfl
  rw [this]
  rfl
 rw [hp]
 rfl
theorem Bg {i:Nat} {v:Tx} {e ev:Ex} {n:Md} {r:List (Wf)} (hi:i < tx.length) (he:e (oc (maT tx hd S b) :: r)=some (n,.int (i:Int))) (hv:ev (oc (maT tx hd S b) :: r)=some (.fr,.str v)) :
  eU 0 [.fld 4] e ev (oc (maT tx hd S b) :: r)=some (.nx (oc (maT (tx.set i v) hd S b) :: r)):=by
 unfold eU
 rw [hv,Zt]
 show ((keys [.fld 4] (oc (maT tx hd S b) :: r)).bind _)=_
 have hk:keys [.fld 4] (oc (maT tx hd S b) :: r)=some [.fld 4]:=rfl
 rw [hk,Zt,he,Zt]
 have hp:pm (iU (n,.int (i:Int)) (.fr,.str v)) [.fld 4] (maT tx hd S b)=some (maT (tx.set i v) hd S b,()):=by
  show ((iU (n,.int (i:Int)) (.fr,.str v) (.lst (tx.map T.str))).map _)=_
  have:iU (n,.int (i:Int)) (.fr,.str v) (.lst (tx.map T.str))=some (.lst ((tx.set i v).map T.str),()):=by
   show ((ixP (tx.map T.str).length (i:Int)).map _)=_
   rw [Zv,u9 hi,Wu]
   rfl
  rw [this]
  rfl
 rw [hp]
 rfl
theorem xB {i r:Nat} {w:Tx} (W:WF S) (hh:hd.length=tx.length) (hi:i < tx.length) (h8:tx.length<=8) (hs:cj tx+w.length<=120) (hl:S.lg.length+2 * w.length<=100000) (hn:hd.getD i 0 < S.lg.length) (hc:∀ c∈w,97<=c/\c<=122) (ht:(tx.getD i []).length<=120) (e:hg S (hd.getD i 0) w=some (S',r)) :
  bu (fsM tx hd S) [.int (i:Int),.str w]=some (fsM (tx.set i (tx.getD i []++w)) (hd.set i r) S',.non):=by
 obtain ⟨w1,w2,w3,w4⟩:=yW W hl hn hc e
 unfold bu mfn
 rw [Zr ⟨rfl,rfl⟩]
 have s1:sX (xP (aL bh (ae (aV 4 (aa 0)) (ae (aa 1) ai)))) [oc (maT tx hd S true),Q0 (i:Int),Q1 w]=some (.nx [oc (maT tx hd S true),Q0 (i:Int),Q1 w]):=by
  have:aL bh (ae (aV 4 (aa 0)) (ae (aa 1) ai)) [oc (maT tx hd S true),Q0 (i:Int),Q1 w]=some (.fr,.non):=aS (xv (gw (m:=.bo) (t:=maT tx hd S true) rfl (yj tx hd S true)) (xv (x:=(.fr,.int (i:Int))) rfl rfl)) (sR hi)
  show (((aL bh _ _).map _).map _)=_
  rw [this]
  rfl
 have c2:e2 oGt (e2 bD (aL fL (ae (aV 4 (aa 0)) ai)) (eN bX (ae (aa 2) ai))) (Q2 120) [oc (maT tx hd S true),Q0 (i:Int),Q1 w]=some (.fr,.bl false) :=
  e2v (x:=(.fr,.int ((cj tx:Int)+(w.length:Int)))) (e2v (aS (xv (r:=ai) (gw (m:=.bo) (t:=maT tx hd S true) rfl (yj tx hd S true)) rfl) (uT tx (by omega))) (y:=(.fr,.int (w.length:Int))) rfl rfl) rfl (by
   show some (Md.fr,T.bl (decide ((120:Int) < (cj tx:Int)+(w.length:Int))))=_
   rw [Ze (by omega)])
 have x3:bA 0 [.fld 6] 0 [false,false] aP (ae (e2 aB (aV 5 (aa 0)) (aa 1)) (ae (aa 2) ai)) [oc (maT tx hd S true),Q0 (i:Int),Q1 w]=some ((.fr,.int (r:Int)),[oc (maT tx hd S' true),Q0 (i:Int),Q1 w]):=by
  show ((some [Ky.fld 6]).bind fun ks=>(ae (e2 aB (aV 5 (aa 0)) (aa 1)) (ae (aa 2) ai) [oc (maT tx hd S true),Q0 (i:Int),Q1 w]).bind fun xs=>(pm (ka 0 [false,false] aP xs) ks (maT tx hd S true)).map fun z=>(z.2,[oc z.1,Q0 (i:Int),Q1 w]))=_
  rw [Zt,xv (x:=(.fr,.int ((hd.getD i 0:Nat):Int))) (e2v (gw (m:=.bo) (t:=maT tx hd S true) rfl (CW tx hd S true)) (y:=(.fr,.int (i:Int))) rfl (lS _ hd i 0 (by omega))) (xv (r:=ai) (x:=(.fr,.str w)) rfl rfl),Zt]
  show (((if 1=0+1/\dz (fsT S)=true/\argsOk [false,false] [(Md.fr,T.int ((hd.getD i 0:Nat):Int)),(Md.fr,T.str w)]=true/\cE (trees [(Md.fr,T.int ((hd.getD i 0:Nat):Int)),(Md.fr,T.str w)])=true then (aP (fsT S) [.int ((hd.getD i 0:Nat):Int),.str w]).bind fun z=>if dz z.1=true/\imm z.2=true then some (T.obj 1 ((0,.bl false) :: z.1),(Md.fr,z.2)) else none else none).map _).map _)=_
  rw [Zr ⟨rfl,jC S,rfl,rfl⟩,w4,Zt,Zr ⟨jC S',rfl⟩]
  rfl
 have s3:iS 0 [.fld 5] (aa 1) (bA 0 [.fld 6] 0 [false,false] aP (ae (e2 aB (aV 5 (aa 0)) (aa 1)) (ae (aa 2) ai))) [oc (maT tx hd S true),Q0 (i:Int),Q1 w]=some (.nx [oc (maT tx (hd.set i r) S' true),Q0 (i:Int),Q1 w]):=by
  unfold iS
  rw [x3]
  exact zu (tx:=tx) (hd:=hd) (S:=S') (b:=true) (r:=[Q0 (i:Int),Q1 w]) (e:=aa 1) (ev:=fun _=>some (.fr,.int (r:Int))) (i:=i) (v:=r) (n:=.fr) (by omega) rfl rfl
 have s4:eU 0 [.fld 4] (aa 1) (e2 bD (e2 aB (aV 4 (aa 0)) (aa 1)) (aa 2)) [oc (maT tx (hd.set i r) S' true),Q0 (i:Int),Q1 w]=some (.nx [oc (maT (tx.set i (tx.getD i []++w)) (hd.set i r) S' true),Q0 (i:Int),Q1 w]) :=
  Bg (n:=.fr) hi rfl (e2v (gw (m:=.bo) (t:=maT tx (hd.set i r) S' true) rfl (yj tx (hd.set i r) S' true) |> fun h=>e2v h (y:=(.fr,.int (i:Int))) rfl (lS T.str tx i [] hi)) (y:=(.fr,.str w)) rfl (gH (by omega)))
 exact congrArg (fun z:Option Out=>z.bind _) (sq s1 (sq (ko c2 rfl) (sq s3 s4)))
end
theorem jo {α:Type} (l:List α) (x d:α):(l++[x]).getD l.length d=x:=(bR l x d l.length).trans (Zr rfl)
theorem rJ {α:Type} (l:List α) (x y:α):(l++[x]).set l.length y=l++[y]:=by
 rw [List.set_append_right _ _ (Zl _),Nat.sub_self]
 rfl
theorem pz (a b:List Tx):cj (a++b)=cj a+cj b:=by
 unfold cj
 rw [ZA,List.sum_append]
theorem Bb:∀ (rest:List Tx) {tx:List Tx} {hd:Wi} {S S':St} {B:T} {z:Wf},WF S->hd.length=tx.length->tx.length+rest.length<=8->cj tx+cj rest<=120->S.lg.length+2 * cj rest<=100000->(∀ t∈rest,∀ c∈t,97<=c/\c<=122)->mB S rest=some S' →
  ∃ hd' z',forL (bF 2) bz (rest.map .str) [oc (maT tx hd S true),pc B,z]=some (.nx [oc (maT (tx++rest) hd' S' true),pc B,z']):=by
 intro rest
 induction rest with
 | nil =>
  intro tx hd S S' B z W hh h8 hs hl hc e
  cases (show some S=some S' from e)
  exact ⟨hd,z,by rw [ZP];rfl⟩
 | cons t rest ih =>
  intro tx hd S S' B z W hh h8 hs hl hc e
  obtain ⟨⟨S1,r⟩,e1,e2'⟩:=Zz.mp (show (hg S 0 t).bind _=some S' from e)
  rw [Zk] at h8
  have hsum:cj (t :: rest)=t.length+cj rest:=by unfold cj;rw [Zs,YG]
  rw [hsum] at hs hl
  have e1':hg S ((hd++[0]).getD tx.length 0) t=some (S1,r):=by rw [← hh,jo];exact e1
  have hgo:=yW W (by omega) W.pos (hc t Zx) e1
  have g:=xB (tx:=tx++[[]]) (hd:=hd++[0]) (S:=S) (S':=S1) (i:=tx.length) (r:=r) (w:=t) W (by rw [Zy,Zy,hh];rfl) (by rw [Zy];exact Yg _) (by rw [Zy];show tx.length+1<=8;omega) (by rw [pz];show cj tx+0+t.length<=120;omega) (by omega) (by rw [← hh,jo];exact W.pos) (hc t Zx) (by rw [jo];exact Yr _) e1'
  rw [jo,rJ,Xk] at g
  have g2:(hd++[0]).set tx.length r=hd++[r]:=by rw [← hh];exact rJ hd 0 r
  rw [g2] at g
  have b:=vX (tx:=tx) (hd:=hd) (S:=S) (by omega) hh
  obtain ⟨hd',z',q⟩:=ih (tx:=tx++[t]) (hd:=hd++[r]) (S:=S1) (S':=S') (B:=B) (z:=Q1 t) hgo.1 (by rw [Zy,Zy,hh];rfl) (by rw [Zy,Zj];omega) (by rw [pz];show cj tx+(t.length+0)+cj rest<=120;omega) (by have:=hgo.2.2.1;omega) (fun u hu=>hc u (Zw _ hu)) e2'
  refine ⟨hd',z',?_⟩
  rw [Zs]
  refine (dr (η1:=[oc (maT tx hd S true),pc B,Q1 t]) rfl ?_).trans (q.trans (by rw [Z1];rfl))
  have x1:bA 0 [] 1 [] bx ai [oc (maT tx hd S true),pc B,Q1 t]=some ((.fr,.int (tx.length:Int)),[oc (maT (tx++[[]]) (hd++[0]) S true),pc B,Q1 t]):=by
   show (((if 2=1+1/\dz (fsM tx hd S)=true/\argsOk [] []=true/\cE (trees [])=true then (bx (fsM tx hd S) (trees [])).bind fun z=>if dz z.1=true/\imm z.2=true then some (T.obj 2 ((0,.bl true) :: z.1),(Md.fr,z.2)) else none else none).map _))=_
   rw [Zr ⟨rfl,jq tx hd S,rfl,rfl⟩,show trees []=[] from rfl,b,Zt,Zr ⟨jq _ _ _,rfl⟩]
   rfl
  have x2:mM 0 1 [false,false] bu (bA 0 [] 1 [] bx ai) (ae (aa 2) ai) [oc (maT tx hd S true),pc B,Q1 t]=some ((.fr,.non),[oc (maT (tx++[t]) (hd++[r]) S1 true),pc B,Q1 t]):=by
   unfold mM
   rw [Zr (show zF 1 [oc (maT tx hd S true),pc B,pc (T.str t)][0]?=true from rfl),x1,Zt,Zr (show imm (T.int (tx.length:Int))=true from rfl)]
   have ct:ka 1 [false,false] bu [(Md.fr,T.int (tx.length:Int)),(Md.fr,T.str t)] (maT (tx++[[]]) (hd++[0]) S true)=some (maT (tx++[t]) (hd++[r]) S1 true,(Md.fr,T.non)):=by
    show (if 2=1+1/\dz (fsM (tx++[[]]) (hd++[0]) S)=true/\argsOk [false,false] [(Md.fr,T.int (tx.length:Int)),(Md.fr,T.str t)]=true/\cE (trees [(Md.fr,T.int (tx.length:Int)),(Md.fr,T.str t)])=true then (bu (fsM (tx++[[]]) (hd++[0]) S) (trees [(Md.fr,T.int (tx.length:Int)),(Md.fr,T.str t)])).bind fun z=>if dz z.1=true/\imm z.2=true then some (T.obj 2 ((0,.bl true) :: z.1),(Md.fr,z.2)) else none else none)=_
    rw [Zr ⟨rfl,jq _ _ _,rfl,rfl⟩,show trees [(Md.fr,T.int (tx.length:Int)),(Md.fr,T.str t)]=[T.int (tx.length:Int),T.str t] from rfl,g,Zt,Zr ⟨jq _ _ _,rfl⟩]
    rfl
   show ((ka 1 [false,false] bu [(Md.fr,T.int (tx.length:Int)),(Md.fr,T.str t)] (maT (tx++[[]]) (hd++[0]) S true)).map _)=_
   rw [ct]
   rfl
  unfold bz sXM
  rw [x2]
  rfl
structure Bok (bk:List Tx):Prop where
 few:bk.length<=8
 sum:cj bk<=120
 az:∀ t∈bk,∀ c∈t,97<=c/\c<=122
theorem Bok.sum1 {t:Tx}:∀ {l:List Tx},t∈l->t.length<=cj l
 | a :: l,h=>by
  have e:cj (a :: l)=a.length+cj l:=by unfold cj;rw [Zs,YG]
  rw [e]
  rcases Zh.mp h with rfl | h
  ·omega
  ·have:=Bok.sum1 h;omega
theorem Bok.len {bk:List Tx} (h:Bok bk):∀ t∈bk,t.length < 1000:=fun t ht=>Xf (Bok.sum1 ht) (Xf h.sum (by decide))
noncomputable def bp (bk:List Tx):St:=(mB S0 bk).getD S0
noncomputable def aF (bk:List Tx):Wi:=(bfs (bp bk) 1000 [0] 0).getD []
noncomputable def tabOf (bk:List Tx):List Row:=tab (bp bk) (aF bk)
theorem Bok.k {bk:List Tx} (h:Bok bk):mB S0 bk=some (bp bk)/\∃ nd wd,K (Hd bk) (bp bk) nd wd/\wd.length<=241/\bfs (bp bk) 1000 [0] 0=some (aF bk)/\(∀ x,x∈aF bk ↔ x < (bp bk).lg.length)/\(aF bk).length=wd.length/\(aF bk).idxOf 0=0/\(aF bk).Nodup:=by
 obtain ⟨S,nd,wd,e,H,l⟩:=K.of bk h.az h.len
 have eS:bp bk=S:=by unfold bp;rw [e];rfl
 rw [eS]
 have l':wd.length<=241:=by
  have:=h.sum
  unfold cj at this
  omega
 obtain ⟨m,e2,enn,e3,e4⟩:=H.met (k:=1000) (by omega)
 have eM:aF bk=0 :: m:=by unfold aF;rw [eS,e2];rfl
 rw [eM]
 exact ⟨e,nd,wd,H,l',e2,fun x=>by rw [e3,H.i.len],e4,List.idxOf_cons_self,enn⟩
theorem Af {bk:List Tx} (h:Bok bk):∃ hd,aT [] [.lst (bk.map .str)]=some (fsM bk hd (bp bk),.non):=by
 obtain ⟨e,_⟩:=h.k
 have hsm:=h.sum
 obtain ⟨hd,z,q⟩:=Bb bk (tx:=[]) (hd:=[]) (S:=S0) (S':=bp bk) (B:=.lst (bk.map .str)) (z:=none) yS rfl (by have:=h.few;simpa using this) (by show 0+cj bk<=120;omega) (by show 1+2 * cj bk<=100000;omega) h.az e
 rw [Xk] at q
 refine ⟨hd,?_⟩
 unfold aT mfn
 rw [Zr ⟨rfl,rfl⟩]
 have f:=(fC (tg:=bF 2) (it:=g8 (aa 1)) (body:=bz) (η:=[oc (maT [] [] S0 true),pc (.lst (bk.map .str)),none]) (m:=.pu) (l:=bk.map .str) rfl rfl).trans q
 have body:=(aG (a:=iC 0 4 (g6 ai)) (b:=ak (iC 0 5 (g6 ai)) (ak (iC 0 6 (eNew 0 c9 ai)) (sIf (fX (aa 1)) (fJ (bF 2) (g8 (aa 1)) bz) dF))) (η:=[oc (.obj 2 [(0,.bl true)]),pc (.lst (bk.map .str)),none]) (η1:=[oc (.obj 2 [(0,.bl true),(4,.lst [])]),pc (.lst (bk.map .str)),none]) rfl).trans
  (sq (η1:=[oc (.obj 2 [(0,.bl true),(4,.lst []),(5,.lst [])]),pc (.lst (bk.map .str)),none]) rfl (sq (η1:=[oc (maT [] [] S0 true),pc (.lst (bk.map .str)),none]) rfl (ift (m:=.fr) rfl f)))
 exact congrArg (fun z:Option Out=>z.bind _) body
theorem yI {bk:List Tx} (h:Bok bk) {arg:Ex} {η:Env} {m:Md} (ha:arg η=some (m,.lst (bk.map .str))):eV 1 bZ (eNew 1 aT (ae arg ai)) ai η=some (.fr,tbT (tabOf bk)):=by
 obtain ⟨hd,e⟩:=Af h
 obtain ⟨_,nd,wd,H,l,e2,e3,e4,_⟩:=h.k
 have hlen:(bp bk).lg.length<=100001:=by rw [← H.i.len];omega
 have t1:=Aw H.i.wf hlen (k:=1000) (by decide) e2 e3 (by omega)
 have n1:eNew 1 aT (ae arg ai) η=some (.fr,maT bk hd (bp bk) false):=by
  unfold eNew
  rw [xv (r:=ai) ha rfl,Zt]
  have hno:cE (trees [(m,T.lst (bk.map .str))])=true:=by
   show (cE (bk.map T.str) && true)=true
   rw [d8 _ (fun _=>rfl)]
   rfl
  rw [Zr hno,show trees [(m,T.lst (bk.map .str))]=[T.lst (bk.map .str)] from rfl,e,Zt,Zr ⟨jq _ _ _,rfl⟩]
  rfl
 have t2:bZ [maT bk hd (bp bk) false]=some (.fr,tbT (tabOf bk)):=by
  refine dZ (η:=[pc (maT bk hd (bp bk) false)]) rfl (df ?_)
  have f6:aV 6 (aa 0) [pc (maT bk hd (bp bk) false)]=some (.pu,obT (bp bk) false):=gw (m:=.pu) (t:=maT bk hd (bp bk) false) rfl (C9 bk hd (bp bk) false)
  unfold eV
  show ((aV 6 (aa 0) [pc (maT bk hd (bp bk) false)]).bind _)=_
  rw [f6]
  show ((dh [obT (bp bk) false]).bind _)=_
  rw [t1]
  rfl
 show ((eNew 1 aT (ae arg ai) η).bind _)=_
 rw [n1]
 show ((bZ [maT bk hd (bp bk) false]).bind _)=_
 rw [t2]
 rfl
end T58
end
section
namespace T58
open VS
theorem AK (ns:Wh):∃ c,d2 [.scr ns,.int 0]=some (.fr,.int c):=by
 cases ns with
 | cons a r =>
  have h2:(0:Int) < ((a :: r).length:Int):=by rw [Zk];lia
  exact ⟨_,ux [some (.pu (.scr (a :: r))),some (.pu (.int 0))] rfl rfl (gQ ((sG (m:=.fr) (e2v (x:=(.fr,.int 0)) rfl (gL (xv rfl rfl) rfl) (congrArg (fun b=>some (Md.fr,T.bl b)) (ZL h2)))).trans (df (e2v (x:=(.fr,.scr (a :: r))) rfl rfl (qZ _ 0 (by decide) h2)))))⟩
 | nil=>exact ⟨0,rfl⟩
theorem dq (ns:Wh) (k:Int) (h0:0<=k) (h1:k < 1000):∃ n,au [.scr ns,.int k]=some (.fr,.int n)/\0<=n/\n < 2147483648:=by
 obtain ⟨c,hc⟩:∃ c,(sIf (e2 oGt (eN bX (ae (aa 0) ai)) (Q2 0)) (aC 2 (e2 aB (aa 0) (e2 oMod (aa 1) (eN bX (ae (aa 0) ai))))) dF) [some (.pu (.scr ns)),some (.pu (.int k)),some (.pu (.int 7)),none]=some (.nx [some (.pu (.scr ns)),some (.pu (.int k)),some (.pu (.int c)),none]):=by
  cases ns with
  | nil=>exact ⟨7,rfl⟩
  | cons a r =>
   have hp:(0:Int) < ((a :: r).length:Int):=by rw [Zk];lia
   exact ⟨_,(sG (m:=.fr) (e2v (gL (xv rfl rfl) rfl) rfl (congrArg (fun b=>some (Md.fr,T.bl b)) (ZL hp)))).trans (aw (m:=.fr) (e2v (x:=(.fr,.scr (a :: r))) rfl (e2v (x:=(.fr,.int k)) rfl (gL (xv rfl rfl) rfl) (bg hp)) (qZ _ _ (ZI k (Int.ne_of_gt hp)) (ZR k hp))) (by decide) (by decide:2 < 4))⟩
 have a0:=ZI c (b:=2147483629) (by decide)
 have a1:=ZR c (b:=2147483629) (by decide)
 generalize hx1:c % 2147483629=x1 at a0 a1
 have b0:=ZI ((x1+40503 * k+1) * 48271) (b:=2147483647) (by decide)
 have b1:=ZR ((x1+40503 * k+1) * 48271) (b:=2147483647) (by decide)
 generalize hx2:(x1+40503 * k+1) * 48271 % 2147483647=x2 at b0 b1
 have c0:=ZI (x2 * x2) (b:=2147483629) (by decide)
 have c1:=ZR (x2 * x2) (b:=2147483629) (by decide)
 generalize hx3:x2 * x2 % 2147483629=x3 at c0 c1
 have d0:=ZI ((x3+k) * 69621) (b:=2147483587) (by decide)
 have d1:=ZR ((x3+k) * 69621) (b:=2147483587) (by decide)
 generalize hx4:(x3+k) * 69621 % 2147483587=x4 at d0 d1
 have e0:=ZI (x4 * x4) (b:=2147483563) (by decide)
 have e1:=ZR (x4 * x4) (b:=2147483563) (by decide)
 refine ⟨x4 * x4 % 2147483563 / 3,?_,by lia,by lia⟩
 have m1:∀ m n,d5 (m,.int (x1+40503 * k+1)) (n,.int 48271)=some (.fr,.int ((x1+40503 * k+1) * 48271)):=fun m n=>hU (by lia)
 have m2:∀ m n,d5 (m,.int x2) (n,.int x2)=some (.fr,.int (x2 * x2)):=fun m n=>hU (by lia)
 have m3:∀ m n,d5 (m,.int (x3+k)) (n,.int 69621)=some (.fr,.int ((x3+k) * 69621)):=fun m n=>hU (by lia)
 have m4:∀ m n,d5 (m,.int x4) (n,.int x4)=some (.fr,.int (x4 * x4)):=fun m n=>hU (by lia)
 have m0:∀ m n,d5 (m,.int 40503) (n,.int k)=some (.fr,.int (40503 * k)):=fun m n=>hU (by decide)
 unfold au
 refine ux [some (.pu (.scr ns)),some (.pu (.int k)),none,none] (η':=[some (.pu (.scr ns)),some (.pu (.int k)),some (.pu (.int c)),some (.pu (.int x4))]) rfl rfl ?_
 rw [fZ (η':=[some (.pu (.scr ns)),some (.pu (.int k)),some (.pu (.int 7)),none]) rfl,fZ hc]
 rw [fZ (aw (m:=.fr) (t:=.int x2) (e2v (e2v (e2v (e2v (e2v rfl rfl ((bg (by decide)).trans (by rw [hx1]))) (e2v rfl rfl (m0 _ _)) rfl) rfl rfl) rfl (m1 _ _)) rfl ((bg (by decide)).trans (by rw [hx2]))) (by decide) (by decide:3 < 4))]
 refine (show ak _ _ [some (.pu (.scr ns)),some (.pu (.int k)),some (.pu (.int c)),some (.pu (.int x2))]=_ from ?_)
 rw [fZ (aw (m:=.fr) (t:=.int x3) (e2v (e2v rfl rfl (m2 _ _)) rfl ((bg (by decide)).trans (by rw [hx3]))) (by decide) (by decide:3 < 4))]
 refine (show ak _ _ [some (.pu (.scr ns)),some (.pu (.int k)),some (.pu (.int c)),some (.pu (.int x3))]=_ from ?_)
 rw [fZ (aw (m:=.fr) (t:=.int x4) (e2v (e2v (e2v rfl rfl rfl) rfl (m3 _ _)) rfl ((bg (by decide)).trans (by rw [hx4]))) (by decide) (by decide:3 < 4))]
 refine (show dN _ [some (.pu (.scr ns)),some (.pu (.int k)),some (.pu (.int c)),some (.pu (.int x4))]=_ from ?_)
 refine df ?_
 have r:=e2v (f:=gm) (η:=[some (.pu (.scr ns)),some (.pu (.int k)),some (.pu (.int c)),some (.pu (.int x4))]) (e2v (f:=oMod) (a:=e2 d5 (aa 3) (aa 3)) (b:=Q2 2147483563) (e2v rfl rfl (m4 _ _)) rfl (bg (by decide))) (show Q2 3 _=some (.fr,.int 3) from rfl) (fP (by decide))
 exact r
noncomputable abbrev abc:Tx:=[97,98,99,100,101,102,103,104,105,106,107,108,109,110,111,112,113,114,115,116,117,118,119,120,121,122]
theorem AB (i:Nat) (h:i < 26):97<=abc.getD i 0/\abc.getD i 0<=122:=by
 have:∀ i,i < 26->97<=abc.getD i 0/\abc.getD i 0<=122:=by decide
 exact this i h
theorem mS (c:Int):∃ sg:Wi,bO [.int c]=some (.fr,.lst (sg.map fun x=>T.str [x]))/\sg.length=26/\∀ x∈sg,97<=x/\x<=122:=by
 have a0:=ZI (c / 26) (b:=5) (by decide)
 have a1:=ZR (c / 26) (b:=5) (by decide)
 have li:=lM (m:=.fr) (n:=.fr) T.int [1,3,5,7,9] (c / 26 % 5) 0 a0 (by simpa using a1) rfl
 simp only [Zs,Xz] at li
 obtain ⟨st,hst,s0,s1⟩:∃ st:Int,List.getD [1,3,5,7,9] (c / 26 % 5).toNat 0=st/\0<=st/\st < 10:=by
  have pk:∀ i,i < 5->0<=(List.getD [1,3,5,7,9] i 0:Int)/\(List.getD [1,3,5,7,9] i 0:Int) < 10:=by decide
  have h:=pk (c / 26 % 5).toNat (by lia)
  exact ⟨_,rfl,h.1,h.2⟩
 rw [hst] at li
 have k0:=ZI c (b:=26) (by decide)
 have k1:=ZR c (b:=26) (by decide)
 generalize hs:c % 26=s at k0 k1
 have comp:=eD (k:=1) (tg:=bF 0) (it:=c6 (Q2 26)) (elt:=e2 aB (eC (.str abc)) (e2 oMod (e2 bD (aa 2) (e2 d5 (aa 3) (aa 0))) (Q2 26)))
  (η:=[some (.pu (.int c)),some (.pu (.int s)),some (.pu (.int st))]) (m:=.fr) (fun (j:Nat)=>T.int (j:Int)) (fun j:Nat=>T.str [abc.getD ((s+st * (j:Int)) % 26).toNat 0]) (List.range 26)
  (by rw [iZ (m:=.fr) (j:=26) rfl (by lia),lE];rfl) rfl (by decide) (fun j hj=>⟨[some (.pu (.int j)),some (.pu (.int c)),some (.pu (.int s)),some (.pu (.int st))],rfl,by
   have e0:=ZI (s+st * (j:Int)) (b:=26) (by decide)
   have e1:=ZR (s+st * (j:Int)) (b:=26) (by decide)
   have ix:=uv (m:=.fr) (n:=.fr) abc ((s+st * (j:Int)) % 26) e0 (by exact e1)
   have mu:∀ m n,d5 (m,.int st) (n,.int (j:Int))=some (.fr,.int (st * (j:Int))):=fun m n=>hU (by lia)
   exact e2v (x:=(.fr,.str abc)) rfl (e2v (x:=(.fr,.int (s+st * (j:Int)))) (e2v (x:=(.fr,.int s)) rfl (e2v (x:=(.fr,.int st)) rfl rfl (mu _ _)) rfl) rfl (bg (by decide))) ix⟩)
 refine ⟨(List.range 26).map fun j:Nat=>abc.getD ((s+st * (j:Int)) % 26).toNat 0,?_,by simp,fun x hx=>?_⟩
 ·unfold bO
  refine ux [some (.pu (.int c)),none,none] (η':=[some (.pu (.int c)),some (.pu (.int s)),some (.pu (.int st))]) rfl rfl ?_
  rw [fZ (η':=[some (.pu (.int c)),some (.pu (.int s)),none]) (aw (m:=.fr) (e2v (x:=(.fr,.int c)) rfl rfl ((bg (by decide)).trans (by rw [hs]))) (by decide) (by decide:1 < 3)),
   fZ (η':=[some (.pu (.int c)),some (.pu (.int s)),some (.pu (.int st))]) (aw (m:=.fr) (e2v rfl (e2v (e2v (x:=(.fr,.int c)) rfl rfl (fP (by decide))) rfl (bg (by decide))) li) (by decide) (by decide:2 < 3))]
  refine (df comp).trans ?_
  rw [Z6]
  rfl
 ·obtain ⟨j,_,rfl⟩:=ZG.mp hx
  have e0:=ZI (s+st * (j:Int)) (b:=26) (by decide)
  have e1:=ZR (s+st * (j:Int)) (b:=26) (by decide)
  exact AB _ (by lia)
noncomputable def Az (t:Wi):Prop:=∀ x∈t,97<=x/\x<=122
theorem Az.app {s t:Wi} (a:Az s) (b:Az t):Az (s++t):=fun x hx=>(Zc.mp hx).elim (a x) (b x)
noncomputable abbrev sgT (sg:Wi):T:=.lst (sg.map fun x=>T.str [x])
theorem nK {m n:Md} (sg:Wi) (i:Int) (h0:0<=i) (h1:i < sg.length):aB (m,sgT sg) (n,.int i)=some (.fr,.str [sg.getD i.toNat 0]):=lM (fun x=>T.str [x]) sg i 0 h0 h1 rfl
theorem jJ {sg:Wi} (h:Az sg) {i:Nat} (hi:i < sg.length):Az [sg.getD i 0]:=fun x hx=>by
 rw [Zf.mp hx,Zq,Zm hi]
 exact h _ (Z8 hi)
noncomputable abbrev EDg (c:Int) (sg:Wi) (so many room:Int) (bk:Wb) (z6 z7 z8 z9:Wf):Env:=[some (.pu (.int c)),some (.pu (sgT sg)),some (.pu (.int so)),some (.pu (.int many)),some (.pu (.int room)),some (.ow (.lst bk)),z6,z7,z8,z9]
theorem C7 (sg:Wi) (hsg:Az sg) (so many room size:Int) (h0:0 < so) (h1:so<=sg.length) (h2:so < 1000) (bk:Wb) (k6:Wf) (ks:Wi):∀ (c:Int) (t:Tx) (z:Wf),t.length+ks.length<=1000->Az t →
  ∃ c' t' z',forL (bF 9) dw (ks.map fun (k:Nat)=>T.int (k:Int)) (EDg c sg so many room bk k6 (some (.pu (.int size))) (some (.pu (.str t))) z)=some (.nx (EDg c' sg so many room bk k6 (some (.pu (.int size))) (some (.pu (.str t'))) z'))/\t'.length=t.length+ks.length/\Az t':=by
 induction ks with
 | nil=>exact fun c t z _ ht=>⟨c,t,z,rfl,rfl,ht⟩
 | cons k ks ih =>
  intro c t z hl ht
  have e0:=ZI c (b:=so) (by lia)
  have e1:=ZR c (b:=so) h0
  rw [Zk] at hl
  have ad:bD (.fr,.str t) (.fr,.str [sg.getD (c % so).toNat 0])=some (.fr,.str (t++[sg.getD (c % so).toNat 0])):=gH (show t.length+1<=16777216 by lia)
  obtain ⟨c',t',z',e,hl',ht'⟩:=ih (c / so) (t++[sg.getD (c % so).toNat 0]) (some (.pu (.int k))) (by rw [Zy,Zj];lia) (ht.app (jJ hsg (by lia)))
  refine ⟨c',t',z',?_,by rw [hl',Zy,Zj,Zk];lia,ht'⟩
  rw [Zs,dr (η1:=EDg c sg so many room bk k6 (some (.pu (.int size))) (some (.pu (.str t))) (some (.pu (.int k)))) (η2:=EDg (c / so) sg so many room bk k6 (some (.pu (.int size))) (some (.pu (.str (t++[sg.getD (c % so).toNat 0])))) (some (.pu (.int k)))) rfl (by
   unfold dw
   rw [aG (η1:=EDg c sg so many room bk k6 (some (.pu (.int size))) (some (.pu (.str (t++[sg.getD (c % so).toNat 0])))) (some (.pu (.int k)))) (aw (m:=.fr) (e2v (x:=(.fr,.str t)) rfl (e2v (x:=(.pu,sgT sg)) rfl (e2v rfl rfl (bg h0)) (nK sg _ e0 (by lia))) ad) (by decide) (by decide:8 < 10))]
   exact aw (m:=.fr) (e2v rfl rfl (fP (show 0 < so/\so < 1073741824 by lia))) (by decide) (by decide:0 < 10)),e]
structure Bk (most:Nat) (bk:List Tx):Prop where
 n:bk.flatten.length<=most
 az:∀ t∈bk,Az t
theorem Bk.snoc {m m':Nat} {bk:List Tx} {t:Tx} (B:Bk m bk) (h:m+t.length<=m') (ht:Az t):Bk m' (bk++[t]):=by
 refine ⟨?_,fun s hs=>?_⟩
 ·have:=B.n
  rw [Yz,Zy,show [t].flatten=t by simp]
  lia
 ·rcases Zc.mp hs with hs | hs
  ·exact B.az s hs
  ·rw [Zf.mp hs];exact ht
theorem qH {a:Ex} {η:Env} {m:Md} {n:Nat} (e:a η=some (m,.int (n:Int))) (h:n < 100000):c6 a η=some (.fr,(List.range n).map fun (k:Nat)=>T.int (k:Int)):=by
 rw [iZ e (by lia),lE]
 rfl
theorem qP {tg:Tg} {it:Its} {body:Sx} {η:Env} {l:Wb} (h:it η=some (.fr,l)):fJ tg it body η=forL tg body l η:=by
 simp [fJ,h]
theorem sP (sg:Wi) (hsg:Az sg) (so many:Int) (h0:0 < so) (h1:so<=sg.length) (h2:so < 1000) (k:Nat) (c:Int) (room:Nat) (bk:List Tx) (z7 z8 z9:Wf) (hr:room<=24) (B:Bk (24 - room) bk) (hl:bk.length < 1000) :
  ∃ (c1:Int) (sz:Nat) (t1:Tx) (z1:Wf),sz<=room/\Bk (24 - (room - sz)) (bk++[t1])/\cA (EDg c sg so many room (bk.map T.str) (some (.pu (.int k))) z7 z8 z9)=some (.nx (EDg c1 sg so many ((room - sz:Nat):Int) ((bk++[t1]).map T.str) (some (.pu (.int k))) (some (.pu (.int sz))) (some (.pu (.str t1))) z1)):=by
 have e0:=ZI c (b:=25) (by decide)
 have e1:=ZR c (b:=25) (by decide)
 obtain ⟨sz,hsz,hsr,hs2⟩:∃ sz:Nat,(if c % 25 < (room:Int) then c % 25 else (room:Int))=(sz:Int)/\sz<=room/\sz<=24:=by
  by_cases h:c % 25 < (room:Int)
  ·exact ⟨(c % 25).toNat,by rw [Zr h];lia,by lia,by lia⟩
  ·exact ⟨room,by rw [Zo h],Zl _,hr⟩
 have er:((room:Int) - (sz:Int))=((room - sz:Nat):Int):=by lia
 generalize ht:(room - sz:Nat)=r1 at er
 obtain ⟨c1,t1,z1,ee,hl1,ht1⟩:=C7 sg hsg so many (r1:Int) (sz:Int) h0 h1 h2 (bk.map T.str) (some (.pu (.int k))) (List.range sz) (c / 25) [] z9 (by rw [ZF,Yi];lia) (fun x hx=>nomatch hx)
 rw [ZF,Yi,Y8] at hl1
 refine ⟨c1,sz,t1,z1,hsr,B.snoc (by lia) ht1,?_⟩
 rw [ht]
 unfold cA
 rw [aG (η1:=EDg c sg so many room (bk.map T.str) (some (.pu (.int k))) (some (.pu (.int sz))) z8 z9) (aw (m:=.fr) (t:=.int sz) (by rw [← hsz];rfl) (by decide) (by decide:7 < 10))]
 rw [aG (η1:=EDg (c / 25) sg so many room (bk.map T.str) (some (.pu (.int k))) (some (.pu (.int sz))) z8 z9) rfl]
 rw [aG (η1:=EDg (c / 25) sg so many r1 (bk.map T.str) (some (.pu (.int k))) (some (.pu (.int sz))) z8 z9) (aw (m:=.fr) (t:=.int r1) (by rw [← er];rfl) (by decide) (by decide:4 < 10))]
 rw [aG (η1:=EDg (c / 25) sg so many r1 (bk.map T.str) (some (.pu (.int k))) (some (.pu (.int sz))) (some (.pu (.str []))) z9) rfl]
 rw [aG (η1:=EDg c1 sg so many r1 (bk.map T.str) (some (.pu (.int k))) (some (.pu (.int sz))) (some (.pu (.str t1))) z1) (by rw [qP (qH (m:=.fr) (n:=sz) rfl (by lia))];exact ee)]
 rw [lK (l:=bk.map T.str) (v:=.str t1) rfl rfl (by rw [Zv];lia),ZA]
 rfl
theorem Dg (sg:Wi) (hsg:Az sg) (so many:Int) (h0:0 < so) (h1:so<=sg.length) (h2:so < 1000) (ks:Wi):∀ (c:Int) (room:Nat) (bk:List Tx) (z6 z7 z8 z9:Wf),room<=24->Bk (24 - room) bk->bk.length+ks.length<=1000 →
  ∃ c' r' bk' z6' z7' z8' z9',forL (bF 6) cA (ks.map fun (k:Nat)=>T.int (k:Int)) (EDg c sg so many room (bk.map T.str) z6 z7 z8 z9)=some (.nx (EDg c' sg so many r' (bk'.map T.str) z6' z7' z8' z9'))/\Bk 24 bk'/\bk'.length=bk.length+ks.length:=by
 induction ks with
 | nil=>exact fun c room bk z6 z7 z8 z9 hr B _=>⟨c,room,bk,z6,z7,z8,z9,rfl,⟨ZW B.n (Nat.sub_le _ _),B.az⟩,rfl⟩
 | cons k ks ih =>
  intro c room bk z6 z7 z8 z9 hr B hl
  rw [Zk] at hl
  obtain ⟨c1,sz,t1,z1,hsr,B1,eb⟩:=sP sg hsg so many h0 h1 h2 k c room bk z7 z8 z9 hr B (by lia)
  obtain ⟨c',r',bk',z6',z7',z8',z9',e,B',hl'⟩:=ih c1 (room - sz) (bk++[t1]) (some (.pu (.int k))) (some (.pu (.int sz))) (some (.pu (.str t1))) z1 (ZW (Nat.sub_le _ _) hr) B1 (by rw [Zy,Zj];lia)
  refine ⟨c',r',bk',z6',z7',z8',z9',?_,B',by rw [hl',Zy,Zj,Zk];lia⟩
  rw [Zs,dr rfl eb,e]
theorem uq (c:Int):∃ bk:List Tx,cF [.int c]=some (.fr,.lst (bk.map T.str))/\Bk 24 bk/\bk.length<=4:=by
 obtain ⟨sg,hs,hl,haz⟩:=mS c
 have a0:=ZI (c / 130) (b:=8) (by decide)
 have a1:=ZR (c / 130) (b:=8) (by decide)
 have li:aB (.fr,.lst [.int 1,.int 2,.int 3,.int 4,.int 2,.int 3,.int 4,.int 26]) (.fr,.int (c / 130 % 8))=_:=lM T.int [1,2,3,4,2,3,4,26] (c / 130 % 8) 0 a0 a1 rfl
 obtain ⟨so,hso,s0,s1⟩:∃ so:Int,List.getD [1,2,3,4,2,3,4,26] (c / 130 % 8).toNat 0=so/\0 < so/\so<=26:=by
  have pk:∀ i,i < 8->0 < (List.getD [1,2,3,4,2,3,4,26] i 0:Int)/\(List.getD [1,2,3,4,2,3,4,26] i 0:Int)<=26:=by decide
  have h:=pk (c / 130 % 8).toNat (by lia)
  exact ⟨_,rfl,h.1,h.2⟩
 rw [hso] at li
 have b0:=ZI (c / 1040) (b:=5) (by decide)
 have b1:=ZR (c / 1040) (b:=5) (by decide)
 obtain ⟨mn,hmn,m1⟩:∃ mn:Nat,c / 1040 % 5=(mn:Int)/\mn<=4:=⟨(c / 1040 % 5).toNat,by lia,by lia⟩
 obtain ⟨c',r',bk',z6',z7',z8',z9',e,B',hl'⟩:=Dg sg haz so mn s0 (by lia) (by lia) (List.range mn) (c / 5200) 24 [] none none none none (Zl _) ⟨Yr _,fun t ht=>nomatch ht⟩ (by rw [ZF,Yi];lia)
 rw [ZF,Yi,Y8] at hl'
 refine ⟨bk',?_,B',by lia⟩
 unfold cF
 refine dZ rfl (η:=[some (.pu (.int c')),some (.pu (sgT sg)),some (.pu (.int so)),some (.pu (.int mn)),some (.pu (.int r')),none,z6',z7',z8',z9']) ?_
 refine (show ak _ _ [some (.pu (.int c)),none,none,none,none,none,none,none,none,none]=_ from ?_)
 rw [aG (η1:=[some (.pu (.int c)),some (.pu (sgT sg)),none,none,none,none,none,none,none,none]) (aw (aS (xs:=[(.fr,.int c)]) rfl hs) (by decide) (by decide:1 < 10))]
 rw [aG (η1:=[some (.pu (.int c)),some (.pu (sgT sg)),some (.pu (.int so)),none,none,none,none,none,none,none]) (aw (m:=.fr) (e2v rfl (e2v (e2v rfl rfl (fP (j:=130) (by decide))) rfl (bg (j:=8) (by decide))) li) (by decide) (by decide:2 < 10))]
 rw [aG (η1:=[some (.pu (.int c)),some (.pu (sgT sg)),some (.pu (.int so)),some (.pu (.int mn)),none,none,none,none,none,none]) (aw (m:=.fr) (e2v (e2v rfl rfl (fP (j:=1040) (by decide))) rfl (by rw [← hmn];exact bg (j:=5) (by decide))) (by decide) (by decide:3 < 10))]
 rw [aG (η1:=[some (.pu (.int (c / 5200))),some (.pu (sgT sg)),some (.pu (.int so)),some (.pu (.int mn)),none,none,none,none,none,none]) rfl]
 rw [aG (η1:=[some (.pu (.int (c / 5200))),some (.pu (sgT sg)),some (.pu (.int so)),some (.pu (.int mn)),some (.pu (.int ((24:Nat):Int))),none,none,none,none,none]) rfl]
 rw [aG (η1:=EDg (c / 5200) sg so mn ((24:Nat):Int) (([]:List Tx).map T.str) none none none none) rfl]
 rw [aG (show fJ _ _ _ _=_ from by
  rw [qP (qH (m:=.fr) (n:=mn) rfl (by lia))]
  exact e)]
 rfl
noncomputable abbrev EMx (ns:Wh) (sg:Wi) (most so room:Int) (bk:Wb) (k:Nat) (z7 z8 z9 z10 z11:Wf):Env:=[some (.pu (.scr ns)),some (.pu (.int most)),some (.pu (sgT sg)),some (.pu (.int so)),some (.pu (.int room)),some (.ow (.lst bk)),some (.pu (.int k)),z7,z8,z9,z10,z11]
noncomputable abbrev cI (i:Int):Wf:=some (.pu (.int i))
noncomputable abbrev cS (t:Tx):Wf:=some (.pu (.str t))
theorem gY {a b:Ex} {η:Env} {x y:Bool} (h1:a η=some (.fr,.bl x)) (h2:b η=some (.fr,.bl y)):gx a b η=some (.fr,.bl (x && y)):=by
 unfold gx
 rw [h1,Zt]
 cases x with
 | true=>exact h2
 | false=>rfl
theorem sC (ns:Wh) (sg:Wi) (hsg:Az sg) (most so room size:Int) (h0:0 < so) (h1:so<=sg.length) (bk:Wb) (k back:Nat) (hk:k < 6) (hb:1<=back) (hb2:back<=5) (j:Nat) (hj:j < 200) (t:Tx) (ht:Az t) (hl:t.length<=1000) (z11:Wf) :
  ∃ x n,Az [x]/\cy (EMx ns sg most so room bk k (cI size) (cI back) (cS t) (cI j) z11)=some (.nx (EMx ns sg most so room bk k (cI size) (cI back) (cS (t++[x])) (cI j) (cI n))):=by
 obtain ⟨n,hn,n0,n1⟩:=dq ns (20 * (k:Int)+6+(j:Int)) (by lia) (by lia)
 have ad:∀ x:Nat,bD (.fr,.str t) (.fr,.str [x])=some (.fr,.str (t++[x])):=fun x=>gH (ZW (Nat.add_le_add_right hl 1) (by decide))
 have c1:e2 oGe (eN bX (ae (aa 9) ai)) (aa 8) (EMx ns sg most so room bk k (cI size) (cI back) (cS t) (cI j) (cI n))=some (.fr,.bl (decide ((back:Int)<=(t.length:Int)))):=rfl
 have c2:e2 oGt (e2 oMod (aa 11) (Q2 4)) (Q2 0) (EMx ns sg most so room bk k (cI size) (cI back) (cS t) (cI j) (cI n))=some (.fr,.bl (decide (0 < n % 4))):=e2v (e2v rfl rfl (bg (by decide))) rfl rfl
 have st:∀ {e:Ex} {x:Nat},e (EMx ns sg most so room bk k (cI size) (cI back) (cS t) (cI j) (cI n))=some (.fr,.str [x])->aC 9 (e2 bD (aa 9) e) (EMx ns sg most so room bk k (cI size) (cI back) (cS t) (cI j) (cI n))=some (.nx (EMx ns sg most so room bk k (cI size) (cI back) (cS (t++[x])) (cI j) (cI n))):=fun {e x} h =>
  aw (m:=.fr) (e2v (x:=(.fr,.str t)) rfl h (ad x)) (by decide) (by decide:9 < 12)
 unfold cy
 rw [aG (η1:=EMx ns sg most so room bk k (cI size) (cI back) (cS t) (cI j) (cI n)) (aw (aS (xs:=[(.fr,.scr ns),(.fr,.int (20 * (k:Int)+6+(j:Int)))]) rfl hn) (by decide) (by decide:11 < 12))]
 by_cases p:(back:Int)<=(t.length:Int)/\0 < n % 4
 ·refine ⟨t.getD ((t.length:Int) - (back:Int)).toNat 0,n,jJ ht (by lia),?_⟩
  rw [sG (m:=.fr) (by rw [gY c1 c2,ZL p.1,ZL p.2];rfl)]
  exact st (e2v (x:=(.fr,.str t)) (y:=(.fr,.int ((t.length:Int) - (back:Int)))) rfl rfl (uv t _ (by lia) (by lia)))
 ·have e0:=ZI (n / 4) (b:=so) (by lia)
  have e1:=ZR (n / 4) (b:=so) h0
  refine ⟨sg.getD (n / 4 % so).toNat 0,n,jJ hsg (by lia),?_⟩
  rw [pw (m:=.fr) (by
   rw [gY c1 c2,← Bool.decide_and,Ze p])]
  exact st (e2v (x:=(.pu,sgT sg)) rfl (e2v (e2v rfl rfl (fP (by decide))) rfl (bg h0)) (nK sg _ e0 (by lia)))
theorem CS (ns:Wh) (sg:Wi) (hsg:Az sg) (most so room size:Int) (h0:0 < so) (h1:so<=sg.length) (bk:Wb) (k back:Nat) (hk:k < 6) (hb:1<=back) (hb2:back<=5) (js:Wi):∀ (t:Tx) (z10 z11:Wf),(∀ j∈js,j < 200)->t.length+js.length<=1000->Az t →
  ∃ t' z10' z11',forL (bF 10) cy (js.map fun (j:Nat)=>T.int (j:Int)) (EMx ns sg most so room bk k (cI size) (cI back) (cS t) z10 z11)=some (.nx (EMx ns sg most so room bk k (cI size) (cI back) (cS t') z10' z11'))/\t'.length=t.length+js.length/\Az t':=by
 induction js with
 | nil=>exact fun t z10 z11 _ _ ht=>⟨t,z10,z11,rfl,rfl,ht⟩
 | cons j js ih =>
  intro t z10 z11 hj hl ht
  rw [Zk] at hl
  obtain ⟨x,n,hx,eb⟩:=sC ns sg hsg most so room size h0 h1 bk k back hk hb hb2 j (hj j Zx) t ht (by lia) z11
  obtain ⟨t',a,b,e,hl',ht'⟩:=ih (t++[x]) (cI j) (cI n) (fun i hi=>hj i (Zw _ hi)) (by rw [Zy,Zj];lia) (ht.app hx)
  refine ⟨t',a,b,?_,by rw [hl',Zy,Zj,Zk];lia,ht'⟩
  rw [Zs,dr rfl eb,e]
theorem wK (t:Tx) (i L:Nat) (h:i<=t.length):cut t (some (i:Int)) (some ((i:Int)+(L:Int)))=(t.drop i).take L:=by
 have h1:¬ ((i:Int) < 0):=by lia
 have h2:¬ ((i:Int)+(L:Int) < 0):=by lia
 simp only [cut,clip,Zo h1,Zo h2,Ya]
 rw [show ((i:Int)+(L:Int)).toNat=i+L by lia,Yl h]
 by_cases q:i+L<=t.length
 ·rw [Yl q,show i+L - i=L by exact XT _ _]
 ·rw [XU (by exact Y1 q),YZ (l:=t.drop i) (by simp),YZ (l:=t.drop i) (by simp;lia)]
theorem r9 (ns:Wh) (sg:Wi) (hsg:Az sg) (most so:Int) (hm0:0<=most) (hm1:most<=120) (h0:0 < so) (h1:so<=sg.length) (k:Nat) (hk:k < 6) (room:Nat) (hr:(room:Int)<=most) (bk:List Tx) (B:Bk (most.toNat - room) bk) (hl:bk.length<=100) (z7 z8 z9 z10 z11:Wf) :
  ∃ (room':Nat) (bk':List Tx) (y7 y8 y9 y10 y11:Wf),room'<=room/\Bk (most.toNat - room') bk'/\bk'.length<=bk.length+2/\cB (EMx ns sg most so room (bk.map T.str) k z7 z8 z9 z10 z11)=some (.nx (EMx ns sg most so room' (bk'.map T.str) k y7 y8 y9 y10 y11)):=by
 obtain ⟨n4,hn4,n40,n41⟩:=dq ns (20 * (k:Int)+4) (by lia) (by lia)
 obtain ⟨n5,hn5,n50,n51⟩:=dq ns (20 * (k:Int)+5) (by lia) (by lia)
 have e0:=ZI n4 (b:=most+1) (by lia)
 have e1:=ZR n4 (b:=most+1) (by lia)
 have f0:=ZI n5 (b:=5) (by decide)
 have f1:=ZR n5 (b:=5) (by decide)
 obtain ⟨sz,hsz,hsr⟩:∃ sz:Nat,(if n4 % (most+1) < (room:Int) then n4 % (most+1) else (room:Int))=(sz:Int)/\sz<=room:=by
  by_cases h:n4 % (most+1) < (room:Int)
  ·exact ⟨(n4 % (most+1)).toNat,by rw [Zr h];lia,by lia⟩
  ·exact ⟨room,by rw [Zo h],Zl _⟩
 have er:((room:Int) - (sz:Int))=((room - sz:Nat):Int):=by lia
 generalize ht:(room - sz:Nat)=r1 at er
 obtain ⟨bc,hbc,c0,c1⟩:∃ bc:Nat,1+n5 % 5=(bc:Int)/\1<=bc/\bc<=5:=⟨(1+n5 % 5).toNat,by lia,by lia,by lia⟩
 obtain ⟨t1,y10,y11,ee,hl1,ht1⟩:=CS ns sg hsg most so (r1:Int) (sz:Int) h0 h1 (bk.map T.str) k bc hk c0 c1 (List.range sz) [] z10 z11 (fun j hj=>by have:=Z4.mp hj;lia) (by rw [ZF,Yi];lia) (fun x hx=>nomatch hx)
 rw [ZF,Yi,Y8] at hl1
 have B1:Bk (most.toNat - r1) (bk++[t1]):=B.snoc (by lia) ht1
 have m5:∀ (r:Int) (b:Wb) (z7 z8 z9 z10 z11:Wf),aL au (ae (aa 0) (ae (e2 bD (e2 d5 (Q2 20) (aa 6)) (Q2 5)) ai)) (EMx ns sg most so r b k z7 z8 z9 z10 z11)=some (.fr,.int n5):=fun r b _ _ _ _ _=>aS (xs:=[(.fr,.scr ns),(.fr,.int (20 * (k:Int)+5))]) rfl hn5
 have m4:aL au (ae (aa 0) (ae (e2 bD (e2 d5 (Q2 20) (aa 6)) (Q2 4)) ai)) (EMx ns sg most so room (bk.map T.str) k z7 z8 z9 z10 z11)=some (.fr,.int n4):=aS (xs:=[(.fr,.scr ns),(.fr,.int (20 * (k:Int)+4))]) rfl hn4
 have mp:∀ (b:List Tx) (t:Tx),(b++[t]).map T.str=b.map T.str++[T.str t]:=fun b t=>by rw [ZA];rfl
 unfold cB
 rw [aG (η1:=EMx ns sg most so room (bk.map T.str) k (cI sz) z8 z9 z10 z11) (aw (m:=.fr) (t:=.int sz) (by
  have a:=xv (a:=aa 4) (x:=(.fr,.int room)) (η:=EMx ns sg most so room (bk.map T.str) k z7 z8 z9 z10 z11) rfl (xv (e2v (z:=(.fr,.int (n4 % (most+1)))) m4 (b:=e2 bD (aa 1) (Q2 1)) (y:=(.fr,.int (most+1))) rfl (bg (by lia))) (xs:=[]) (r:=ai) rfl)
  show (ae _ _ _).bind _=_
  rw [a,← hsz]
  rfl) (by decide) (by decide:7 < 12))]
 rw [aG (η1:=EMx ns sg most so r1 (bk.map T.str) k (cI sz) z8 z9 z10 z11) (aw (m:=.fr) (t:=.int r1) (by rw [← er];rfl) (by decide) (by decide:4 < 12))]
 rw [aG (η1:=EMx ns sg most so r1 (bk.map T.str) k (cI sz) (cI bc) z9 z10 z11) (aw (m:=.fr) (t:=.int bc) (e2v (x:=(.fr,.int 1)) rfl (e2v (m5 r1 _ _ _ _ _ _) rfl (bg (j:=5) (by decide))) (by rw [← hbc];rfl)) (by decide) (by decide:8 < 12))]
 rw [aG (η1:=EMx ns sg most so r1 (bk.map T.str) k (cI sz) (cI bc) (cS []) z10 z11) rfl]
 rw [aG (η1:=EMx ns sg most so r1 (bk.map T.str) k (cI sz) (cI bc) (cS t1) y10 y11) (by rw [qP (qH (m:=.fr) (n:=sz) rfl (by lia))];exact ee)]
 rw [aG (η1:=EMx ns sg most so r1 ((bk++[t1]).map T.str) k (cI sz) (cI bc) (cS t1) y10 y11) (by rw [mp,lK (l:=bk.map T.str) (v:=.str t1) rfl rfl (by rw [Zv];lia)];rfl)]
 have g1:e2 oGt (aa 7) (Q2 2) (EMx ns sg most so r1 ((bk++[t1]).map T.str) k (cI sz) (cI bc) (cS t1) y10 y11)=some (.fr,.bl (decide ((2:Int) < (sz:Int)))):=rfl
 have g2:e2 oEq (e2 oMod (aL au (ae (aa 0) (ae (e2 bD (e2 d5 (Q2 20) (aa 6)) (Q2 5)) ai))) (Q2 3)) (Q2 0) (EMx ns sg most so r1 ((bk++[t1]).map T.str) k (cI sz) (cI bc) (cS t1) y10 y11)=some (.fr,.bl (n5 % 3 == 0)):=e2v (e2v (m5 _ _ _ _ _ _ _) rfl (bg (by decide))) rfl rfl
 have g3:e2 oGe (aa 4) (Q2 2) (EMx ns sg most so r1 ((bk++[t1]).map T.str) k (cI sz) (cI bc) (cS t1) y10 y11)=some (.fr,.bl (decide ((2:Int)<=(r1:Int)))):=rfl
 have g:=gY g1 (gY g2 g3)
 cases hg:(decide ((2:Int) < (sz:Int)) && ((n5 % 3 == 0) && decide ((2:Int)<=(r1:Int)))) with
 | true =>
  rw [hg] at g
  have q:=Xn.mp hg
  have q3:=of_decide_eq_true (Xn.mp q.2).2
  have q1:=of_decide_eq_true q.1
  have cu:cut t1 (some 1) (some 3)=(t1.drop 1).take 2:=wK t1 1 2 (by lia)
  have az2:Az ((t1.drop 1).take 2):=fun x hx=>ht1 x (List.mem_of_mem_drop (XB hx))
  have l2:((t1.drop 1).take 2).length<=2:=by rw [Yf];exact Nat.min_le_left _ _
  have e2':((r1:Int) - 2)=((r1 - 2:Nat):Int):=by lia
  refine ⟨r1 - 2,bk++[t1]++[(t1.drop 1).take 2],cI sz,cI bc,cS t1,y10,y11,by lia,B1.snoc (by lia) az2,by rw [Zy,Zy,Zj,Zj];exact Zl _,?_⟩
  rw [sG (m:=.fr) g]
  rw [aG (η1:=EMx ns sg most so r1 ((bk++[t1]++[(t1.drop 1).take 2]).map T.str) k (cI sz) (cI bc) (cS t1) y10 y11) (by
   rw [mp (bk++[t1]),lK (l:=(bk++[t1]).map T.str) (v:=.str ((t1.drop 1).take 2)) rfl (by rw [← cu];rfl) (by rw [Zv,Zy,Zj];lia)];rfl)]
  rw [← e2']
  rfl
 | false =>
  rw [hg] at g
  refine ⟨r1,bk++[t1],cI sz,cI bc,cS t1,y10,y11,by lia,B1,by rw [Zy,Zj];exact Xc _,?_⟩
  rw [pw (m:=.fr) g]
  rfl
theorem C0 (ns:Wh) (sg:Wi) (hsg:Az sg) (most so:Int) (hm0:0<=most) (hm1:most<=120) (h0:0 < so) (h1:so<=sg.length) (ks:Wi):∀ (room:Nat) (bk:List Tx) (z6 z7 z8 z9 z10 z11:Wf),(∀ k∈ks,k < 6)->(room:Int)<=most->Bk (most.toNat - room) bk->bk.length+2 * ks.length<=100 →
  ∃ (room':Int) (bk':List Tx) (y6 y7 y8 y9 y10 y11:Wf),Bk most.toNat bk'/\bk'.length<=bk.length+2 * ks.length/\forL (bF 6) cB (ks.map fun (k:Nat)=>T.int (k:Int)) [some (.pu (.scr ns)),some (.pu (.int most)),some (.pu (sgT sg)),some (.pu (.int so)),some (.pu (.int (room:Int))),some (.ow (.lst (bk.map T.str))),z6,z7,z8,z9,z10,z11] =
   some (.nx [some (.pu (.scr ns)),some (.pu (.int most)),some (.pu (sgT sg)),some (.pu (.int so)),some (.pu (.int room')),some (.ow (.lst (bk'.map T.str))),y6,y7,y8,y9,y10,y11]):=by
 induction ks with
 | nil=>exact fun room bk z6 z7 z8 z9 z10 z11 _ hr B _=>⟨room,bk,z6,z7,z8,z9,z10,z11,⟨ZW B.n (Nat.sub_le _ _),B.az⟩,Zl _,rfl⟩
 | cons k ks ih =>
  intro room bk z6 z7 z8 z9 z10 z11 hk hr B hl
  rw [Zk] at hl
  obtain ⟨r1,b1,y7,y8,y9,y10,y11,hr1,B1,hl1,eb⟩:=r9 ns sg hsg most so hm0 hm1 h0 h1 k (hk k Zx) room hr bk B (by lia) z7 z8 z9 z10 z11
  obtain ⟨r2,b2,x6,x7,x8,x9,x10,x11,B2,hl2,e⟩:=ih r1 b1 (cI k) y7 y8 y9 y10 y11 (fun i hi=>hk i (Zw _ hi)) (by lia) B1 (by lia)
  refine ⟨r2,b2,x6,x7,x8,x9,x10,x11,B2,by rw [Zk];lia,?_⟩
  rw [Zs,dr rfl eb,e]
theorem Dk {α:Type} (l:List α):cut l none (some 8)=l.take 8:=by
 simp only [cut,clip]
 by_cases h:8<=l.length
 ·simp [Yl h]
 ·simp [XU (Y9 (Wq h))]
  rw [YZ (by exact Y1 h)]
theorem Bk.take {m:Nat} {bk:List Tx} (B:Bk m bk) (n:Nat):Bk m (bk.take n):=by
 refine ⟨?_,fun t ht=>B.az t (XB ht)⟩
 have h:bk.flatten=(bk.take n).flatten++(bk.drop n).flatten:=by rw [← Yz,List.take_append_drop]
 have:=B.n
 rw [h,Zy] at this
 lia
theorem wt (l:List Tx):fm (l.map T.str)=true:=by
 induction l with
 | nil=>rfl
 | cons a l ih=>simpa [fm,imm] using ih
theorem uK (ns:Wh) (most:Int) (hm0:0<=most) (hm1:most<=120):∃ bk:List Tx,cG [.scr ns,.int most]=some (.fr,.lst (bk.map T.str))/\Bk most.toNat bk/\bk.length<=8:=by
 obtain ⟨n1,hn1,_,_⟩:=dq ns 1 (by decide) (by decide)
 obtain ⟨n2,hn2,_,_⟩:=dq ns 2 (by decide) (by decide)
 obtain ⟨n3,hn3,_,_⟩:=dq ns 3 (by decide) (by decide)
 obtain ⟨sg,hs,hl,haz⟩:=mS n1
 have a0:=ZI n2 (b:=8) (by decide)
 have a1:=ZR n2 (b:=8) (by decide)
 have li:aB (.fr,.lst [.int 1,.int 2,.int 3,.int 4,.int 2,.int 3,.int 9,.int 26]) (.fr,.int (n2 % 8))=_:=lM T.int [1,2,3,4,2,3,9,26] (n2 % 8) 0 a0 a1 rfl
 obtain ⟨so,hso,s0,s1⟩:∃ so:Int,List.getD [1,2,3,4,2,3,9,26] (n2 % 8).toNat 0=so/\0 < so/\so<=26:=by
  have pk:∀ i,i < 8->0 < (List.getD [1,2,3,4,2,3,9,26] i 0:Int)/\(List.getD [1,2,3,4,2,3,9,26] i 0:Int)<=26:=by decide
  have h:=pk (n2 % 8).toNat (by lia)
  exact ⟨_,rfl,h.1,h.2⟩
 rw [hso] at li
 have b0:=ZI n3 (b:=6) (by decide)
 have b1:=ZR n3 (b:=6) (by decide)
 obtain ⟨mn,hmn,m1⟩:∃ mn:Nat,n3 % 6=(mn:Int)/\mn < 6:=⟨(n3 % 6).toNat,by lia,by lia⟩
 obtain ⟨rm,rfl⟩:∃ rm:Nat,most=(rm:Int):=⟨most.toNat,by lia⟩
 obtain ⟨r2,b2,x6,x7,x8,x9,x10,x11,B2,hl2,e⟩:=C0 ns sg haz rm so hm0 hm1 s0 (by lia) (List.range mn) rm [] none none none none none none (fun k hk=>Nat.lt_trans (Z4.mp hk) m1) (Int.le_refl _) ⟨Yr _,fun t ht=>nomatch ht⟩ (by rw [ZF,Yi];lia)
 have mx:∀ (i n:Int) (r:Env),au [.scr ns,.int i]=some (.fr,.int n)->aL au (ae (aa 0) (ae (Q2 i) ai)) (some (.pu (.scr ns)) :: r)=some (.fr,.int n):=fun i n r h=>aS (xs:=[(.fr,.scr ns),(.fr,.int i)]) rfl h
 have mk:mkL .pu ((b2.take 8).map T.str)=some (.fr,.lst ((b2.take 8).map T.str)):=by
  unfold mkL
  rw [Zr (show ((b2.take 8).map T.str).length<=eA by rw [Zv,Yf];exact ZW (Nat.min_le_left _ _) (by decide)),Zr (wt _)]
 refine ⟨b2.take 8,?_,B2.take 8,by rw [Yf];exact Nat.min_le_left _ _⟩
 unfold cG
 refine dZ rfl (η:=[some (.pu (.scr ns)),some (.pu (.int rm)),some (.pu (sgT sg)),some (.pu (.int so)),some (.pu (.int r2)),some (.pu (.lst (b2.map T.str))),x6,x7,x8,x9,x10,x11]) ?_
 refine (show ak _ _ [some (.pu (.scr ns)),some (.pu (.int rm)),none,none,none,none,none,none,none,none,none,none]=_ from ?_)
 rw [aG (η1:=[some (.pu (.scr ns)),some (.pu (.int rm)),some (.pu (sgT sg)),none,none,none,none,none,none,none,none,none]) (aw (aS (xs:=[(.fr,.int n1)]) (xv (mx 1 n1 _ hn1) rfl) hs) (by decide) (by decide:2 < 12))]
 rw [aG (η1:=[some (.pu (.scr ns)),some (.pu (.int rm)),some (.pu (sgT sg)),some (.pu (.int so)),none,none,none,none,none,none,none,none]) (aw (m:=.fr) (e2v rfl (e2v (mx 2 n2 _ hn2) rfl (bg (j:=8) (by decide))) li) (by decide) (by decide:3 < 12))]
 rw [aG (η1:=[some (.pu (.scr ns)),some (.pu (.int rm)),some (.pu (sgT sg)),some (.pu (.int so)),some (.pu (.int (rm:Int))),none,none,none,none,none,none,none]) rfl]
 rw [aG (η1:=[some (.pu (.scr ns)),some (.pu (.int rm)),some (.pu (sgT sg)),some (.pu (.int so)),some (.pu (.int (rm:Int))),some (.ow (.lst (([]:List Tx).map T.str))),none,none,none,none,none,none]) rfl]
 rw [aG (show fJ _ _ _ _=_ from by
  rw [qP (qH (m:=.fr) (n:=mn) (e2v (mx 3 n3 _ hn3) rfl (by rw [← hmn];exact bg (by decide))) (by lia))]
  exact e)]
 rw [aG (η1:=[some (.pu (.scr ns)),some (.pu (.int rm)),some (.pu (sgT sg)),some (.pu (.int so)),some (.pu (.int r2)),some (.pu (.lst (b2.map T.str))),x6,x7,x8,x9,x10,x11]) rfl]
 have sl:eSl (aa 5) none (some (Q2 8)) [some (.pu (.scr ns)),some (.pu (.int rm)),some (.pu (sgT sg)),some (.pu (.int so)),some (.pu (.int r2)),some (.pu (.lst (b2.map T.str))),x6,x7,x8,x9,x10,x11]=some (.fr,.lst ((b2.take 8).map T.str)):=by
  show mkL .pu (cut (b2.map T.str) none (some 8))=_
  rw [Dk,← List.map_take,mk]
 simp only [dN,sl,Zt]
theorem zX {α:Type} (l:List α) (n:Nat) (h:n<=l.length):cut l none (some (n:Int))=l.take n:=by
 have h1:¬ ((n:Int) < 0):=by lia
 simp only [cut,clip,Zo h1,Ya,Yl h]
 simp
theorem nZ {α:Type} (l:List α) (n:Nat) (h:n<=l.length):cut l (some (n:Int)) none=l.drop n:=by
 have h1:¬ ((n:Int) < 0):=by lia
 simp only [cut,clip,Zo h1,Ya,Yl h]
 rw [YZ (by simp)]
theorem wm (n x:Nat):(List.replicate n [x]).flatten=List.replicate n x:=by
 induction n with
 | zero=>rfl
 | succ n ih=>rw [Xj,ZU,ih];rfl
noncomputable abbrev EG (ns:Wh) (sg:Wi) (z2 z3:Wf):Env:=[some (.pu (.scr ns)),some (.pu (sgT sg)),z2,z3]
theorem wN (ns:Wh):∃ bk:List Tx,dy [.scr ns]=some (.fr,.lst (bk.map T.str))/\Bk 120 bk/\bk.length<=8:=by
 obtain ⟨n1,hn1,_,_⟩:=dq ns 1 (by decide) (by decide)
 obtain ⟨n2,hn2,_,_⟩:=dq ns 2 (by decide) (by decide)
 obtain ⟨n3,hn3,_,_⟩:=dq ns 3 (by decide) (by decide)
 obtain ⟨n4,hn4,_,_⟩:=dq ns 4 (by decide) (by decide)
 obtain ⟨sg,hs,hl,haz⟩:=mS n1
 have a0:=ZI n2 (b:=21) (by decide)
 have a1:=ZR n2 (b:=21) (by decide)
 obtain ⟨L,hL,l0,l1⟩:∃ L:Nat,100+n2 % 21=(L:Int)/\100<=L/\L<=120:=⟨(100+n2 % 21).toNat,by lia,by lia,by lia⟩
 have ix0:=nK (m:=.pu) (n:=.fr) sg 0 (by decide) (by rw [hl];decide)
 have ix1:=nK (m:=.pu) (n:=.fr) sg 1 (by decide) (by rw [hl];decide)
 have z0:Az [sg.getD (0:Int).toNat 0]:=jJ haz (by rw [hl];decide)
 have z1:Az [sg.getD (1:Int).toNat 0]:=jJ haz (by rw [hl];decide)
 generalize sg.getD (0:Int).toNat 0=x at ix0 z0
 generalize sg.getD (1:Int).toNat 0=y at ix1 z1
 have rp:oR (.fr,.str [x]) (.fr,.int (L:Int))=some (.fr,.str (List.replicate L x)):=by
  refine (Zr ⟨?_,?_,?_⟩).trans (by rw [Ya,wm])
  ·show 1 * (L:Int).toNat<=16777216
   rw [Ya,Nat.one_mul]
   exact ZW l1 (by decide)
  ·show -4611686018427387904<=(L:Int)
   lia
  ·show (L:Int) < 4611686018427387904
   lia
 have tl:(List.replicate L x).length=L:=YV
 have ta:Az (List.replicate L x):=fun c hc=>by
  rw [(List.mem_replicate.mp hc).2]
  exact z0 x Zx
 generalize List.replicate L x=t at rp tl ta
 have bk1:∀ t':Tx,t'.length<=120->Az t'->Bk 120 [t']:=fun t' h1 h2=>⟨by rw [ZU,List.flatten_nil,ZP];exact h1,fun s hs=>by rw [Zf.mp hs];exact h2⟩
 have mx:∀ (i n:Int) (r:Env),au [.scr ns,.int i]=some (.fr,.int n)->aL au (ae (aa 0) (ae (Q2 i) ai)) (some (.pu (.scr ns)) :: r)=some (.fr,.int n):=fun i n r h=>aS (xs:=[(.fr,.scr ns),(.fr,.int i)]) rfl h
 have st1:(aC 1 (aL bO (ae (aL au (ae (aa 0) (ae (Q2 1) ai))) ai))) [some (.pu (.scr ns)),none,none,none]=some (.nx (EG ns sg none none)) :=
  aw (aS (xs:=[(.fr,.int n1)]) (xv (mx 1 n1 _ hn1) rfl) hs) (by decide) (by decide:1 < 4)
 have st2:(aC 2 (e2 oR (e2 aB (aa 1) (Q2 0)) (e2 bD (Q2 100) (e2 oMod (aL au (ae (aa 0) (ae (Q2 2) ai))) (Q2 21))))) (EG ns sg none none)=some (.nx (EG ns sg (some (.pu (.str t))) none)) :=
  aw (m:=.fr) (e2v (e2v (x:=(.pu,sgT sg)) rfl rfl ix0) (e2v (x:=(.fr,.int 100)) rfl (e2v (mx 2 n2 _ hn2) rfl (bg (j:=21) (by decide))) (z:=(.fr,.int L)) (by rw [← hL];rfl)) rp) (by decide) (by decide:2 < 4)
 have cd:e2 oEq (e2 oMod (aL au (ae (aa 0) (ae (Q2 3) ai))) (Q2 2)) (Q2 0) (EG ns sg (some (.pu (.str t))) none)=some (.fr,.bl (n3 % 2 == 0)):=e2v (e2v (mx 3 n3 _ hn3) rfl (bg (by decide))) rfl rfl
 cases hp:(n3 % 2 == 0) with
 | true =>
  rw [hp] at cd
  have tp:(0:Int) < (t.length:Int):=by lia
  have b0:=ZI n4 (b:=(t.length:Int)) (by lia)
  have b1:=ZR n4 (b:=(t.length:Int)) tp
  obtain ⟨q,hq,hq2⟩:∃ q:Nat,n4 % (t.length:Int)=(q:Int)/\q < t.length:=⟨(n4 % (t.length:Int)).toNat,by lia,by lia⟩
  have c1:=zX t q (Y9 hq2)
  have c2:=nZ t (q+1) (Nat.succ_le_of_lt hq2)
  have l3:(t.take q++[y]++t.drop (q+1)).length=t.length:=by
   rw [Zy,Zy,Yf,YX,Zj,Yl (Y9 hq2)]
   lia
  have len:(t.take q++[y]++t.drop (q+1)).length<=120:=by rw [l3,tl];exact l1
  have az:Az (t.take q++[y]++t.drop (q+1)):=(Az.app (Az.app (fun c hc=>ta c (XB hc)) z1) (fun c hc=>ta c (List.mem_of_mem_drop hc)))
  refine ⟨[t.take q++[y]++t.drop (q+1)],?_,bk1 _ len az,(by decide:1<=8)⟩
  have big:e2 bD (e2 bD (eSl (aa 2) none (some (aa 3))) (e2 aB (aa 1) (Q2 1))) (eSl (aa 2) (some (e2 bD (aa 3) (Q2 1))) none) (EG ns sg (some (.pu (.str t))) (some (.pu (.int q))))=some (.fr,.str (t.take q++[y]++t.drop (q+1))) :=
   e2v (e2v (x:=(.fr,.str (t.take q))) (by rw [← c1];rfl) (e2v (x:=(.pu,sgT sg)) rfl rfl ix1) (gH (ZW (ZW (YK _ (t.drop (q+1)).length) (by rw [← Zy,← Zy];exact len)) (by decide)))) (y:=(.fr,.str (t.drop (q+1)))) (by rw [← c2];rfl) (gH (ZW (by rw [← Zy];exact len) (by decide)))
  unfold dy
  refine dZ rfl (η:=EG ns sg (some (.pu (.str (t.take q++[y]++t.drop (q+1))))) (some (.pu (.int q)))) ?_
  refine (show ak _ _ [some (.pu (.scr ns)),none,none,none]=_ from ?_)
  rw [aG st1,aG st2]
  rw [aG (η1:=EG ns sg (some (.pu (.str (t.take q++[y]++t.drop (q+1))))) (some (.pu (.int q)))) (by
   rw [sG (m:=.fr) cd]
   rw [aG (η1:=EG ns sg (some (.pu (.str t))) (some (.pu (.int q)))) (aw (m:=.fr) (t:=.int q) (e2v (mx 4 n4 _ hn4) (y:=(.fr,.int t.length)) rfl (by rw [← hq];exact bg tp)) (by decide) (by decide:3 < 4))]
   exact aw big (by decide) (by decide:2 < 4))]
  rfl
 | false =>
  rw [hp] at cd
  refine ⟨[t],?_,bk1 t (by rw [tl];exact l1) ta,(by decide:1<=8)⟩
  unfold dy
  refine dZ rfl (η:=EG ns sg (some (.pu (.str t))) none) ?_
  refine (show ak _ _ [some (.pu (.scr ns)),none,none,none]=_ from ?_)
  rw [aG st1,aG st2]
  rw [aG (η1:=EG ns sg (some (.pu (.str t))) none) (by
   rw [pw (m:=.fr) cd]
   rfl)]
  rfl
theorem Bk.up {m n:Nat} {bk:List Tx} (B:Bk m bk) (h:m<=n):Bk n bk:=⟨ZW B.n h,B.az⟩
theorem eq0 {m n:Md} (i:Int):oEq (m,.int i) (n,.int 0)=some (.fr,.bl (decide (i=0))):=by
 show (if _ then some (Md.fr,T.bl (eqT (.int i) (.int 0))) else none)=_
 rw [Zr ⟨rfl,rfl⟩]
 rfl
theorem AN (ns:Wh):∃ bk:List Tx,fY [.scr ns,.int 40]=some (.fr,.lst (bk.map T.str))/\Bk 120 bk/\bk.length<=8:=by
 obtain ⟨c,hc⟩:=AK ns
 obtain ⟨n5,hn5,_,_⟩:=dq ns 5 (by decide) (by decide)
 obtain ⟨n0,hn0,_,_⟩:=dq ns 0 (by decide) (by decide)
 have ca:aL d2 (ae (aa 0) (ae (Q2 0) ai)) [some (.pu (.scr ns)),some (.pu (.int 40))]=some (.fr,.int c):=aS (xs:=[(.fr,.scr ns),(.fr,.int 0)]) rfl hc
 have c1:=e2v (f:=oEq) (b:=Q2 0) (e2v (f:=oMod) (b:=Q2 2) ca rfl (bg (by decide))) rfl (eq0 (c % 2))
 unfold fY
 by_cases p:c % 2=0
 ·rw [ZL p] at c1
  obtain ⟨bk,hb,B,hl⟩:=uq (c / 2)
  exact ⟨bk,dZ rfl (gQ (ift c1 (df (aS (xs:=[(.fr,.int (c / 2))]) (xv (e2v ca rfl (fP (by decide))) rfl) hb)))),B.up (by decide),ZW hl (by decide)⟩
 rw [Ze p] at c1
 have c2:=gY (a:=e2 oGt (aa 1) (Q2 30)) (x:=true) rfl (e2v (f:=oEq) (b:=Q2 0) (e2v (f:=oMod) (b:=Q2 16) (aS (as:=ae (aa 0) (ae (Q2 5) ai)) (η:=[some (.pu (.scr ns)),some (.pu (.int 40))]) (xs:=[(.fr,.scr ns),(.fr,.int 5)]) rfl hn5) rfl (bg (by decide))) rfl (eq0 (n5 % 16)))
 rw [Bool.true_and] at c2
 by_cases r:n5 % 16=0
 ·rw [ZL r] at c2
  obtain ⟨bk,hb,B,hl⟩:=wN ns
  exact ⟨bk,dZ rfl (sq (pw c1) (gQ (ift c2 (df (aS (xs:=[(.fr,.scr ns)]) rfl hb))))),B,hl⟩
 rw [Ze r] at c2
 have a0:=ZI n0 (b:=4) (by decide)
 have a1:=ZR n0 (b:=4) (by decide)
 have li:=fun m n=>lM (m:=m) (n:=n) T.int [24,24,24,40] (n0 % 4) 0 a0 a1 rfl
 obtain ⟨mo,hmo,m0,m1⟩:∃ mo:Int,List.getD [24,24,24,40] (n0 % 4).toNat 0=mo/\0<=mo/\mo<=120:=by
  have pk:∀ i,i < 4->0<=(List.getD [24,24,24,40] i 0:Int)/\(List.getD [24,24,24,40] i 0:Int)<=120:=by decide
  have h:=pk (n0 % 4).toNat (by lia)
  exact ⟨_,rfl,h.1,h.2⟩
 rw [hmo] at li
 obtain ⟨bk,hb,B,hl⟩:=uK ns mo m0 m1
 exact ⟨bk,dZ rfl (sq (pw c1) (sq (pw c2) (df (aS (xs:=[(.fr,.scr ns),(.fr,.int mo)]) (xv rfl (xv (e2v rfl (e2v (aS (xs:=[(.fr,.scr ns),(.fr,.int 0)]) rfl hn0) rfl (bg (by decide))) (li _ _)) rfl)) hb)))),B.up (by lia),hl⟩
end T58
end
section
namespace AU
theorem xu {α β:Type} [DecidableEq β] {Rel:α->β->Prop}:∀ (l:List α) (r:List β),l.Nodup->(∀ x∈l,∀ x'∈l,∀ y,Rel x y->Rel x' y->x=x')->(∀ x∈l,∃ y∈r,Rel x y)->l.length<=r.length:=by
 intro l
 induction l with
 | nil=>intro r _ _ _;exact Yr _
 | cons a l ih =>
  intro r nd u h
  obtain ⟨na,nl⟩:=Zd.mp nd
  obtain ⟨y,hy,ry⟩:=h a Zx
  have:=ih (r.erase y) nl (fun x hx x' hx'=>u x (Zw _ hx) x' (Zw _ hx')) fun x hx=>by
   obtain ⟨z,hz,rz⟩:=h x (Zw _ hx)
   refine ⟨z,(List.mem_erase_of_ne fun e=>?_).mpr hz,rz⟩
   subst e
   exact na (u x (Zw _ hx) a Zx _ rz ry ▸ hx)
  rw [List.length_erase_of_mem hy] at this
  have:=List.length_pos_of_mem hy
  rw [Zk]
  omega
section
variable {S:St} {nd:Wd->Option Nat} {wd:List Wd} {P:Wd->Prop}
theorem I.pre' (H:I none S nd wd):∀ (z u:Wd) {n:Nat},nd (u++z)=some n->∃ m,nd u=some m:=by
 intro z
 induction z with
 | nil=>intro u n h;rw [ZP] at h;exact ⟨n,h⟩
 | cons c z ih =>
  intro u n h
  rw [XQ] at h
  obtain ⟨m,hm⟩:=ih _ h
  exact H.pre hm
theorem I.ext (H:I none S nd wd):∀ (z x y:Wd) {n:Nat},nd x=some n->nd y=some n->nd (x++z)=nd (y++z):=by
 intro z
 induction z with
 | nil=>intro x y n hx hy;rw [ZP,ZP,hx,hy]
 | cons c z ih =>
  intro x y n hx hy
  rw [XQ x,XQ y]
  have e:nd (x++[c])=nd (y++[c]):=(H.wy hx c).symm.trans (H.wy hy c)
  cases hc:nd (x++[c]) with
  | some m=>exact ih _ _ hc (e ▸ hc)
  | none =>
   have n1:∀ u,nd u=none->nd (u++z)=none:=fun u hu=>by
    cases hz:nd (u++z) with
    | none=>rfl
    | some k =>
     obtain ⟨m,hm⟩:=H.pre' z u hz
     rw [hu] at hm
     cases hm
   rw [n1 _ hc,n1 _ (e ▸ hc)]
theorem I.head (H:I none S nd wd) {n:Nat} (hn:n < wd.length) {x y:Wd} (e:W wd n=x++y):∃ m,m < wd.length/\W wd m=x:=by
 have ht:=H.top hn
 have hy:=ht
 rw [e] at hy
 obtain ⟨m,hm⟩:=H.pre' y x hy
 have hl:=H.lt hm
 refine ⟨m,hl,?_⟩
 have:=H.ext y _ _ hm (H.top hl)
 rw [hy] at this
 have s:=(H.sf this.symm).length_le
 rw [e,Zy,Zy] at s
 exact ((H.sf hm).eq_of_length_le (by omega)).symm
noncomputable def kN (S:St) (met:Wi):List (Nat×Nat):=met.flatMap fun n=>(sk (S.wy.getD n [])).map fun c=>(n,c)
theorem Bx (w:List (Nat×Nat)):(sk w).Nodup:=List.Pairwise.filter _ List.nodup_range'
theorem iJ {met:Wi} {p:Nat×Nat}:p∈kN S met ↔ p.1∈met/\p.2∈sk (S.wy.getD p.1 []):=by
 unfold kN
 rw [List.mem_flatMap]
 constructor
 ·rintro ⟨n,hn,h⟩
  obtain ⟨c,hc,rfl⟩:=ZG.mp h
  exact ⟨hn,hc⟩
 ·rintro ⟨h1,h2⟩
  exact ⟨p.1,h1,ZG.mpr ⟨p.2,h2,rfl⟩⟩
theorem vF:∀ {met:Wi},met.Nodup->(kN S met).Nodup:=by
 intro met
 induction met with
 | nil=>intro _;exact Yd
 | cons a met ih =>
  intro nd
  obtain ⟨na,nm⟩:=Zd.mp nd
  show ((sk (S.wy.getD a [])).map (fun c=>(a,c))++kN S met).Nodup
  refine ZO.mpr ⟨?_,ih nm,?_⟩
  ·refine Xb.mpr ((Bx _).imp fun h e=>h (YR e).2)
  ·intro p hp q hq e
   obtain ⟨c,_,rfl⟩:=ZG.mp hp
   subst e
   exact na (iJ.mp hq).1
theorem sr {met:Wi}:(kN S met).length=(met.map fun n=>(sk (S.wy.getD n [])).length).sum:=by
 unfold kN
 rw [List.length_flatMap]
 exact congrArg (fun l=>l.sum) (YO fun n _=>Zv ..)
noncomputable def ends (b:List Wd):List Wd:=b.flatMap fun t=>(List.range t.length).map fun k=>t.drop k
theorem wC (b:List Wd):(ends b).length=(b.map List.length).sum:=by
 unfold ends
 rw [List.length_flatMap]
 have:(fun t:Wd=>((List.range t.length).map fun k=>t.drop k).length)=List.length:=funext fun t=>by rw [Zv,ZF]
 rw [this]
theorem I.inj2 (H:I none S nd wd) {n n' c c':Nat} (hn:n < wd.length) (hn':n' < wd.length) (e:W wd n++[c]=W wd n'++[c']):(n,c)=(n',c'):=by
 obtain ⟨e1,e2⟩:=List.append_inj' e rfl
 rw [H.inj hn hn' e1,List.singleton_inj.mp e2]
theorem K.ways {b:List Wd} (H:K (Hd b) S nd wd) {met:Wi} (hm:met.Nodup) (hl:∀ x∈met,x < wd.length):(met.map fun n=>(sk (S.wy.getD n [])).length).sum<=wd.length - 1+(b.map List.length).sum:=by
 rw [← sr,← wC]
 have key:=xu (Rel:=fun (p:Nat×Nat) (y:Nat ⊕ Wd)=>match y with
   | .inl q=>W wd q=W wd p.1++[p.2]
   | .inr s=>(¬ ∃ q,q < wd.length/\W wd q=W wd p.1++[p.2])/\W wd p.1++[p.2] <+: s) (kN S met) ((List.range' 1 (wd.length - 1)).map .inl++(ends b).map .inr) (vF hm) ?_ ?_
 ·rw [Zy,Zv,Zv,X8] at key
  exact key
 ·rintro ⟨n,c⟩ hp ⟨n',c'⟩ hp' y r r'
  have ln:=hl _ (iJ.mp hp).1
  have ln':=hl _ (iJ.mp hp').1
  cases y with
  | inl q=>exact H.i.inj2 ln ln' (r.symm.trans r')
  | inr s =>
   have go:∀ {m d m' d':Nat},m' < wd.length->(¬ ∃ q,q < wd.length/\W wd q=W wd m++[d])->W wd m++[d] <+: s->W wd m'++[d'] <+: s->¬ (W wd m).length < (W wd m').length:=by
    intro m d m' d' lm' h1 h2 h3 hlt
    have p1:W wd m' <+: s:=(List.prefix_append _ _).trans h3
    obtain ⟨y,hy⟩:=Wr h2 p1 (by rw [Zy,Zj];omega)
    exact h1 (H.i.head lm' hy.symm)
   have g1:¬ (W wd n).length < (W wd n').length:=go ln' r.1 r.2 r'.2
   have g2:¬ (W wd n').length < (W wd n).length:=go ln r'.1 r'.2 r.2
   refine H.i.inj2 ln ln' ?_
   have le:(W wd n++[c]).length=(W wd n'++[c']).length:=by
    rw [Zy,Zy,Zj,Zj]
    show (W wd n).length+1=(W wd n').length+1
    omega
   exact (Wr r.2 r'.2 (XO le)).eq_of_length le
 ·rintro ⟨n,c⟩ hp
  obtain ⟨h1,h2⟩:=iJ.mp hp
  have ln:=hl _ h1
  obtain ⟨m,hgm⟩:=i8 h2
  have hw:=H.i.way ln hgm
  by_cases hq:∃ q,q < wd.length/\W wd q=W wd n++[c]
  ·obtain ⟨q,lq,eq⟩:=hq
   refine ⟨.inl q,Z7 _ (ZG.mpr ⟨q,Wv.mpr ⟨?_,by omega⟩,rfl⟩),eq⟩
   refine Yk fun z=>?_
   rw [z,H.i.wz] at eq
   exact absurd eq.symm (Wz _ (List.cons_ne_nil _ _))
  ·obtain ⟨p,hp,hs⟩:=(H.some _).mp ⟨m,hw⟩
   rcases hp with rfl | ⟨t,ht,z,rfl⟩
   ·exact absurd (Yq.mp hs) (Wz _ (List.cons_ne_nil _ _))
   ·obtain ⟨u,rfl⟩:=hs
    refine ⟨.inr (W wd n++[c]++z),ZX _ (ZG.mpr ⟨_,List.mem_flatMap.mpr ⟨_,ht,ZG.mpr ⟨u.length,Z4.mpr ?_,?_⟩⟩,rfl⟩),hq,List.prefix_append _ _⟩
    ·rw [Zy,Zy,Zy,Zj]
     omega
    ·rw [Z1 u,List.drop_left]
theorem Cr {l:Wi} (hm:l.Nodup) {k:Nat} (h:k < l.length):l.idxOf l[k]=k:=by
 have h2:=Y3.mpr (Z8 h)
 exact (Wo hm).mp (X9 h2)
end
end AU
end
section
namespace T58
open VS AU
noncomputable abbrev s1 (c:Nat):T:=.str [c]
theorem eq_int {a:Ex} {η:Env} {m:Md} {i:Int} (k:Int) (h:a η=some (m,.int i)):e2 oEq a (Q2 k) η=some (.fr,.bl (i == k)):=e2v h rfl (mh rfl rfl (by simp only [eqT]))
noncomputable abbrev wTT (p:Nat×Nat):T:=.tup [.str [p.1],.int (p.2:Int)]
theorem uB (S:St) (M:Wi) (n c:Nat) (hc:97<=c/\c<=122):gW (steps S M n) c=(gW (S.wy.getD n []) c).map fun m=>M.idxOf m:=by
 have key:∀ l:Wi,gW (l.map fun c=>(c,M.idxOf ((gW (S.wy.getD n []) c).getD 0))) c=if c∈l then some (M.idxOf ((gW (S.wy.getD n []) c).getD 0)) else none:=by
  intro l
  induction l with
  | nil=>rfl
  | cons a l ih =>
   unfold gW at ih ⊢
   rw [Zs,Z0]
   by_cases h:a=c
   ·subst h
    simp
   ·have:(a == c)=false:=by simpa using h
    rw [this]
    show (List.map _ l |>.find? _).map _=_
    rw [ih]
    simp [YW h]
 unfold steps
 rw [key]
 cases hg:gW (S.wy.getD n []) c with
 | none =>
  rw [Zo fun z=>by
   obtain ⟨m,hm⟩:=i8 z
   rw [hg] at hm
   cases hm]
  rfl
 | some m =>
  rw [Zr (by
   unfold sk
   refine YS.mpr ⟨Wv.mpr (by omega),by rw [hg];rfl⟩)]
  rfl
theorem mf (S:St) (M:Wi) (n:Nat):(row S M n).2.2.2=steps S M n:=by
 unfold row
 split <;> rfl
noncomputable abbrev ix (bk:List Tx) (m:Nat):Nat:=(aF bk).idxOf m
noncomputable def vB (v:Nat×Nat):T:=.tup [.int (v.1:Int),.str [v.2]]
noncomputable abbrev Bm:=List (Nat×(Nat×Nat))
noncomputable def bT (m:Bm):List (T×T):=m.map fun p=>(T.int (p.1:Int),vB p.2)
noncomputable def lY (m:Bm) (j:Nat) (v:Nat×Nat):Bm:=if j∈m.map (·.1) then m.map (fun p=>if p.1=j then (p.1,v) else p) else m++[(j,v)]
theorem mD (a b:Nat):eqT (T.int (a:Int)) (T.int (b:Int))=decide (a=b):=by
 simp only [eqT]
 by_cases h:a=b
 ·simp [h]
 ·have h':¬ (a:Int)=(b:Int):=by omega
  rw [Ze h]
  exact ZK.mpr h'
theorem yo (m:Bm) (j:Nat) (v:Nat×Nat):dput (bT m) (.int (j:Int)) (vB v)=bT (lY m j v):=by
 have h1:(bT m).any (fun p=>eqT p.1 (.int (j:Int)))=decide (j∈m.map (·.1)):=by
  induction m with
  | nil=>rfl
  | cons a m ih =>
   rw [show bT (a :: m)=(T.int (a.1:Int),vB a.2) :: bT m from rfl,Ye,ih,mD,Zs]
   by_cases q:a.1=j
   ·simp [q]
   ·have q':¬ j=a.1:=fun z=>q z.symm
    simp [q,q']
 unfold dput lY
 rw [h1]
 by_cases q:j∈m.map (·.1)
 ·rw [Zr (by simpa using q),Zr q]
  unfold bT
  rw [Z6,Z6]
  apply YO
  intro p _
  simp only [Function.comp,mD]
  by_cases r:p.1=j
  ·simp [r]
  ·simp [r]
 ·rw [Zo (by simpa using q),Zo q]
  simp [bT]
theorem uW (m:Bm) (j:Nat) (v:Nat×Nat):(lY m j v).length<=m.length+1:=by
 unfold lY
 split <;> simp
theorem mG (m:Bm) (j:Nat) (v:Nat×Nat) (k:Nat) (h:k∈m.map (·.1)\/k=j):k∈(lY m j v).map (·.1):=by
 unfold lY
 split
 ·rename_i q
  have hk:k∈m.map (·.1):=h.elim id fun z=>z ▸ q
  obtain ⟨p,hp,rfl⟩:=ZG.mp hk
  refine ZG.mpr ⟨_,ZG.mpr ⟨p,hp,rfl⟩,?_⟩
  by_cases r:p.1=j
  ·rw [Zr r]
  ·rw [Zo r]
 ·rw [ZA,Zc]
  exact h.imp id fun z=>by simp [z]
theorem uX (m:Bm) (j:Nat) (v:Nat×Nat) (q:Nat×(Nat×Nat)) (h:q∈lY m j v):q∈m\/q=(j,v):=by
 unfold lY at h
 split at h
 ·obtain ⟨p,hp,rfl⟩:=ZG.mp h
  by_cases r:p.1=j
  ·rw [Zr r];right;rw [r]
  ·rw [Zo r];exact .inl hp
 ·rcases Zc.mp h with h | h
  ·exact .inl h
  ·exact .inr (Zf.mp h)
theorem Do (m:Bm) (i:Nat) (h:i∈m.map (·.1)):∃ v,dX (bT m) (.int (i:Int))=some (vB v)/\(i,v)∈m:=by
 induction m with
 | nil=>simp at h
 | cons a m ih =>
  obtain ⟨j,v⟩:=a
  rw [show bT ((j,v) :: m)=(T.int (j:Int),vB v) :: bT m from rfl]
  unfold dX
  by_cases q:j=i
  ·subst q
   exact ⟨v,by rw [Z0,mD];simp,Zx⟩
  ·rw [Z0,mD,Ze q]
   rw [Zs,Zh] at h
   obtain ⟨v',h1,h2⟩:=ih (h.resolve_left fun z=>q z.symm)
   exact ⟨v',h1,Zw _ h2⟩
theorem ym {i:Nat} {k e:Ex} {η:Env} {l:List (T×T)} {kv v:T} {m n:Md} (h:η[i]?=some (some (.ow (.dct 0 l)))) (he:e η=some (m,v)) (hk:k η=some (n,kv)) (h1:iQ kv=true) (h2:imm v=true) (h3:l.length < 16777216):kg i k e η=some (.nx (η.set i (some (.ow (.dct 0 (dput l kv v)))))):=by
 unfold kg
 rw [he,Zt,h,hk]
 exact Zr ⟨h1,h2,h3⟩
section
variable {bk:List Tx} {nd:Wd->Option Nat} {wd:List Wd} (H:K (Hd bk) (bp bk) nd wd) (hM:∀ x,x∈aF bk ↔ x < (bp bk).lg.length) (h0:(aF bk).idxOf 0=0)
include hM
theorem Cv {m:Nat} (hm:m < (bp bk).lg.length):ix bk m < (tabOf bk).length:=by
 unfold tabOf tab
 rw [Zv]
 exact Y3.mpr ((hM m).mpr hm)
theorem pL {m:Nat} (hm:m < (bp bk).lg.length) {a b:Ex} {η:Env} {n:Md} (ha:a η=some (.pu,tbT (tabOf bk))) (hb:b η=some (n,.int (ix bk m:Int))):e2 aB a b η=some (.fr,dY (row (bp bk) (aF bk) m)):=by
 refine e2v ha hb ?_
 have hl:ix bk m < (aF bk).length:=Y3.mpr ((hM m).mpr hm)
 unfold tbT tabOf tab
 rw [Z6,lS (dY ∘ row (bp bk) (aF bk)) (aF bk) (ix bk m) 0 hl,Zq,Zm hl]
 show some (up .pu (dY (row (bp bk) (aF bk) (aF bk)[ix bk m])))=_
 rw [show (aF bk)[ix bk m]=m from X9 _]
 unfold up
 rw [kz]
 rfl
include H
theorem vq {m:Nat} (hm:m < wd.length):(row (bp bk) (aF bk) m).2.1=(W wd m).length:=by
 unfold row
 rw [← H.i.lg m hm]
 split
 ·rename_i h
  by_cases h0:m=0
  ·rw [h0,H.i.lg 0 (by omega),H.i.wz]
   rfl
  ·obtain ⟨r,e,_⟩:=H.i.lk (Yk h0) hm (by simp)
   rw [h] at e
   cases e
 ·rfl
end
noncomputable abbrev E5 (bk:List Tx) (b:Bm) (z2 z3 z4:Wf):Env:=[pc (tbT (tabOf bk)),oc (.dct 0 (bT b)),z2,z3,z4]
noncomputable def p8 (bk:List Tx) (wd:List Wd) (q:Nat×(Nat×Nat)):Prop:=∃ t p,q.1=ix bk t/\q.2.1=ix bk p/\t < wd.length/\p < wd.length/\W wd t=W wd p++[q.2.2]
section
variable {bk:List Tx} {nd:Wd->Option Nat} {wd:List Wd} (H:K (Hd bk) (bp bk) nd wd) (hM:∀ x,x∈aF bk ↔ x < (bp bk).lg.length) (hN:(aF bk).Nodup)
include H hM
theorem vP {p c j:Nat} (hp:p < wd.length) (h:(c,j)∈steps (bp bk) (aF bk) p):∃ t,t < wd.length/\j=ix bk t/\nd (W wd p++[c])=some t:=by
 unfold steps at h
 obtain ⟨c',hc,e⟩:=ZG.mp h
 obtain ⟨rfl,rfl⟩:=YR e
 obtain ⟨t,ht⟩:=i8 hc
 have h2:=H.i.wy (H.i.top hp) c'
 rw [ht] at h2
 exact ⟨t,H.i.lt h2.symm,by rw [ht];rfl,h2.symm⟩
theorem sb1 {p t c i:Nat} (hp:p < wd.length) (ht:t < wd.length) (b:Bm) (hb:b.length < 16777216):dQ (E5 bk b (Q0 (i:Int)) (pc (dY (row (bp bk) (aF bk) p))) (pc (wTT (c,ix bk t))))=some (.nx (E5 bk (if (W wd t).length=(W wd p).length+1 then lY b (ix bk t) (i,c) else b) (Q0 (i:Int)) (pc (dY (row (bp bk) (aF bk) p))) (pc (wTT (c,ix bk t))))):=by
 have lt:∀ {x},x < wd.length->x < (bp bk).lg.length:=fun h=>by rw [← H.i.len];exact h
 have er:aa 3 (E5 bk b (Q0 (i:Int)) (pc (dY (row (bp bk) (aF bk) p))) (pc (wTT (c,ix bk t))))=some (.fr,dY (row (bp bk) (aF bk) p)):=by
  show some (up .pu (dY _))=_
  unfold up
  rw [kz]
  rfl
 have lg:∀ {x},x < wd.length->aB (.fr,dY (row (bp bk) (aF bk) x)) (.fr,.int 1)=some (.fr,.int ((W wd x).length:Int)):=fun h=>by rw [← vq H hM h];rfl
 have cd:e2 oEq (e2 aB (e2 aB (aa 0) (e2 aB (aa 4) (Q2 1))) (Q2 1)) (e2 bD (e2 aB (aa 3) (Q2 1)) (Q2 1)) (E5 bk b (Q0 (i:Int)) (pc (dY (row (bp bk) (aF bk) p))) (pc (wTT (c,ix bk t))))=some (.fr,.bl (decide ((W wd t).length=(W wd p).length+1))):=by
  refine e2v (e2v (pL hM (lt ht) (n:=.fr) rfl rfl) (y:=(.fr,.int 1)) rfl (lg ht)) (y:=(.fr,.int (((W wd p).length+1:Nat):Int))) (e2v (e2v er (y:=(.fr,.int 1)) rfl (lg hp)) (y:=(.fr,.int 1)) rfl rfl) ?_
  exact mh rfl rfl (mD _ _)
 by_cases q:(W wd t).length=(W wd p).length+1
 ·rw [Zr q]
  refine ift (cd.trans (by rw [ZL q])) ((ym (l:=bT b) (v:=vB (i,c)) (m:=.fr) (n:=.fr) (kv:=.int (ix bk t:Int)) rfl rfl rfl rfl rfl (by rw [bT,Zv];exact hb)).trans ?_)
  rw [yo]
  rfl
 ·rw [Zo q]
  exact ko (cd.trans (by rw [Ze q])) rfl
theorem sb2 {p i:Nat} (hp:p < wd.length) (hi:i=ix bk p):∀ (ws:List (Nat×Nat)) (b:Bm) (z4:Wf),(∀ w∈ws,w∈steps (bp bk) (aF bk) p)->(∀ q∈b,p8 bk wd q)->b.length+ws.length < 1000000->∃ b' y4,forL (bF 4) dQ (ws.map wTT) (E5 bk b (Q0 (i:Int)) (pc (dY (row (bp bk) (aF bk) p))) z4)=some (.nx (E5 bk b' (Q0 (i:Int)) (pc (dY (row (bp bk) (aF bk) p))) y4))/\(∀ q∈b',p8 bk wd q)/\(∀ k∈b.map (·.1),k∈b'.map (·.1))/\(∀ c t,(c,ix bk t)∈ws->t < wd.length->nd (W wd p++[c])=some t->W wd t=W wd p++[c]->ix bk t∈b'.map (·.1))/\b'.length<=b.length+ws.length:=by
 intro ws
 induction ws with
 | nil=>exact fun b z4 _ g _=>⟨b,z4,rfl,g,fun k h=>h,fun c t h=>(fun h=>nomatch h) h,Zl _⟩
 | cons w ws ih =>
  intro b z4 hw g hl
  rw [Zk] at hl
  obtain ⟨c,j⟩:=w
  obtain ⟨t,ht,rfl,hn⟩:=vP H hM hp (hw _ Zx)
  have bo:=sb1 H hM (c:=c) (i:=i) hp ht b (by omega)
  obtain ⟨b1,hb1⟩:∃ b1,b1=if (W wd t).length=(W wd p).length+1 then lY b (ix bk t) (i,c) else b:=⟨_,rfl⟩
  rw [← hb1] at bo
  have e1:(∀ q∈b1,p8 bk wd q)/\(∀ k∈b.map (·.1),k∈b1.map (·.1))/\(W wd t=W wd p++[c]->ix bk t∈b1.map (·.1))/\b1.length<=b.length+1:=by
   rw [hb1]
   split
   ·rename_i hq
    refine ⟨fun q hq'=>?_,fun k hk=>mG b _ _ k (.inl hk),fun _=>mG b _ _ _ (.inr rfl),uW _ _ _⟩
    rcases uX b _ _ q hq' with z | rfl
    ·exact g q z
    ·exact ⟨t,p,rfl,hi,ht,hp,((H.i.sf hn).eq_of_length (by rw [hq,Zy];rfl)).symm⟩
   ·rename_i hq
    exact ⟨g,fun k hk=>hk,fun z=>absurd (by rw [z,Zy];rfl) hq,Xc _⟩
  obtain ⟨g1,g2,g3,g4⟩:=e1
  obtain ⟨b',y4,e,k1,k2,k3,k4⟩:=ih b1 (pc (wTT (c,ix bk t))) (fun w h=>hw w (Zw _ h)) g1 (by omega)
  refine ⟨b',y4,(dr rfl bo).trans e,k1,fun k hk=>k2 k (g2 k hk),fun c' t' hm ht' hn' hW=>?_,by rw [Zk];omega⟩
  rcases Zh.mp hm with z | z
  ·obtain ⟨z1,z2⟩:=YR z
   subst z1
   rw [hn] at hn'
   cases hn'
   exact k2 _ (g3 hW)
  ·exact k3 c' t' z ht' hn' hW
include hN
theorem uQ {i:Nat} (hi:i < (aF bk).length):ix bk (aF bk)[i]=i:=Cr hN hi
theorem sb3:∀ (r:Wi) (i:Nat) (b:Bm) (z2 z3 z4:Wf),(aF bk).drop i=r->(∀ q∈b,p8 bk wd q)->b.length+30 * r.length < 1000000->(∀ x,x∈aF bk->x < wd.length)->∃ b' y2 y3 y4,forL (nX [bF 2,bF 3]) gn (iz i ((r.map (row (bp bk) (aF bk))).map dY)) (E5 bk b z2 z3 z4)=some (.nx (E5 bk b' y2 y3 y4))/\(∀ q∈b',p8 bk wd q)/\(∀ k∈b.map (·.1),k∈b'.map (·.1))/\∀ p∈r,∀ c t,t < wd.length->nd (W wd p++[c])=some t->W wd t=W wd p++[c]->97<=c/\c<=122->ix bk t∈b'.map (·.1):=by
 intro r
 induction r with
 | nil=>exact fun i b z2 z3 z4 _ g _ _=>⟨b,z2,z3,z4,rfl,g,fun k h=>h,fun p h=>nomatch h⟩
 | cons p r ih =>
  intro i b z2 z3 z4 hd g hl hx
  rw [Zk] at hl
  have hil:i < (aF bk).length:=Wq fun y=>by rw [List.drop_eq_nil_of_le y] at hd;cases hd
  rw [List.drop_eq_getElem_cons hil] at hd
  obtain ⟨hpe,hd2⟩:=List.cons.inj hd
  have hp:p < wd.length:=hx p (by rw [← hpe];exact Z8 hil)
  have hi:i=ix bk p:=by rw [← hpe];exact (uQ H hM hN hil).symm
  have hsl:(steps (bp bk) (aF bk) p).length<=26:=by
   unfold steps sk
   rw [Zv]
   exact ZW (Xs _ _) (by decide)
  obtain ⟨b1,y4,e,g1,g2,g3,g4⟩:=sb2 H hM hp hi (steps (bp bk) (aF bk) p) b z4 (fun w h=>h) g (by omega)
  obtain ⟨b',y2,y3,y4',e',k1,k2,k3⟩:=ih (i+1) b1 (Q0 (i:Int)) (pc (dY (row (bp bk) (aF bk) p))) y4 hd2 g1 (by omega) hx
  refine ⟨b',y2,y3,y4',(dr (η1:=E5 bk b (Q0 (i:Int)) (pc (dY (row (bp bk) (aF bk) p))) z4) rfl ((fC (m:=.fr) (l:=(steps (bp bk) (aF bk) p).map wTT) ?_ rfl).trans e)).trans e',k1,fun k hk=>k2 k (g2 k hk),fun p' hp' c t ht hn hW hc=>?_⟩
  ·have er:e2 aB (aa 3) (Q2 3) (E5 bk b (Q0 (i:Int)) (pc (dY (row (bp bk) (aF bk) p))) z4)=some (.fr,stT (steps (bp bk) (aF bk) p)):=by
    refine e2v (x:=(.fr,dY (row (bp bk) (aF bk) p))) (y:=(.fr,.int 3)) ?_ rfl ?_
    ·show some (up .pu (dY _))=_
     unfold up
     rw [kz]
     rfl
    ·rw [← mf]
     show some (up .fr (stT _))=_
     unfold up
     rw [lJ]
     rfl
   show (e2 aB (aa 3) (Q2 3) _).bind _=_
   rw [er]
   rfl
  ·rcases Zh.mp hp' with rfl | z
   ·refine k2 _ (g3 c t ?_ ht hn hW)
    have hgw:=uB (bp bk) (aF bk) p' c hc
    rw [H.i.wy (H.i.top hp) c,hn] at hgw
    unfold gW at hgw
    obtain ⟨q,hq1,hq2⟩:=Zu.mp hgw
    have:=List.find?_some hq1
    have hm:=List.mem_of_find?_eq_some hq1
    obtain ⟨q1,q2⟩:=q
    cases (show q1=c by simpa using this)
    cases (show q2=ix bk t from hq2)
    exact hm
   ·exact k3 p' z c t ht hn hW hc
theorem ub (hl:wd.length<=241) (hm:(aF bk).length=wd.length) (haz:∀ t,t < wd.length->Az (W wd t)):∃ b:Bm,dJ [tbT (tabOf bk)]=some (.fr,.dct 0 (bT b))/\(∀ q∈b,p8 bk wd q)/\∀ t,0 < t->t < wd.length->ix bk t∈b.map (·.1):=by
 have hx:∀ x,x∈aF bk->x < wd.length:=fun x h=>by rw [H.i.len];exact (hM x).mp h
 obtain ⟨b,y2,y3,y4,e,g1,_,g3⟩:=sb3 H hM hN (aF bk) 0 [] none none none rfl (fun q h=>nomatch h) (by show 0+_ < _;omega) hx
 refine ⟨b,dZ rfl (sq (η1:=E5 bk [] none none none) rfl (sq ((fC (m:=.pu) rfl rfl).trans e) rfl)),g1,fun t h0 ht=>?_⟩
 have hne:W wd t ≠ []:=fun z=>by
  have:=H.i.top ht
  rw [z,H.i.z] at this
  cases this
  exact absurd h0 (Yn _)
 obtain ⟨x,c,hxc⟩:∃ x c,W wd t=x++[c]:=⟨(W wd t).dropLast,(W wd t).getLast hne,(List.dropLast_concat_getLast hne).symm⟩
 obtain ⟨p,hp,hpx⟩:=H.i.head ht hxc
 have hW:W wd t=W wd p++[c]:=by rw [hpx];exact hxc
 exact g3 p ((hM p).mpr (by rw [← H.i.len];exact hp)) c t ht (by rw [← hW];exact H.i.top ht) hW (haz t ht c (by rw [hxc];exact ZX _ Zx))
end
theorem ll {a b:Ex} {η:Env} {m n:Md} {i j:Int} (ea:a η=some (m,.int i)) (eb:b η=some (n,.int j)) (h:(-4611686018427387904<=i/\i < 4611686018427387904)/\-4611686018427387904<=j/\j < 4611686018427387904):iN a b η=some (.fr,rng i (j - i).toNat):=by
 simp only [iN,ea,eb,Zt,int?]
 exact Zr h
theorem rq {a b:Ex} {η:Env} {m n:Md} {t:Tx} {i:Int} {k:Nat} (ha:a η=some (m,.str t)) (hb:b η=some (n,.int i)) (hi:i=(k:Int)) (h:k<=t.length):eSl a (some b) none η=some (.fr,.str (t.drop k)):=by
 unfold eSl q9
 dsimp only
 rw [ha,hb,hi]
 show some (Md.fr,T.str (cut t (some (k:Int)) none))=_
 rw [nZ t k h]
noncomputable def sh (bk:List Tx) (t:Nat):Nat:=(row (bp bk) (aF bk) t).1
noncomputable def ws (bk:List Tx) (wd:List Wd) (t:Nat):List Tx:=(List.range ((W wd t).length+1 - sh bk t)).map fun i=>(W wd t).drop ((W wd t).length - (sh bk t+i))
section
variable {bk:List Tx} {nd:Wd->Option Nat} {wd:List Wd} (H:K (Hd bk) (bp bk) nd wd) (hM:∀ x,x∈aF bk ↔ x < (bp bk).lg.length) (hN:(aF bk).Nodup) (h0:(aF bk).idxOf 0=0) (hl:wd.length<=241) (hm:(aF bk).length=wd.length) (haz:∀ t,t < wd.length->Az (W wd t)/\(W wd t).length<=120)
include H hM
theorem tR {s t:Nat} (hs:s < wd.length) (ht:t < wd.length) (h:ix bk s=ix bk t):s=t:=by
 have g:∀ {x},x < wd.length->(aF bk)[ix bk x]?=some x:=fun {x} hx=>by
  have hm:=(hM x).mpr (by rw [← H.i.len];exact hx)
  rw [Zm (Y3.mpr hm),X9]
 have:=g hs
 rw [h,g ht] at this
 exact (Zn this).symm
theorem yX {t:Nat} (ht:t < wd.length):sh bk t<=(W wd t).length/\∀ y,nd y=some t ↔ y <:+ W wd t/\sh bk t<=y.length:=by
 unfold sh row
 by_cases h:t=0
 ·subst h
  rw [H.i.lk0,H.i.wz]
  refine ⟨Yr _,fun y=>⟨fun z=>⟨by rw [H.i.zero z];exact Yx _,Yr _⟩,fun z=>by rw [Yq.mp z.1];exact H.i.z⟩⟩
 ·obtain ⟨m,e,⟨g1,_⟩,g2,g3,g4⟩:=H.i.lk (Yk h) ht (by simp)
  rw [e]
  show (bp bk).lg.getD m 0+1<=_/\∀ y,_ ↔ _/\(bp bk).lg.getD m 0+1<=_
  rw [H.i.lg m g1]
  exact ⟨g3,fun y=>⟨fun z=>⟨H.i.sf z,(H.i.low (by simp) e z).1⟩,fun z=>g4 y z.1 z.2⟩⟩
theorem zz {t:Nat} (ht:t < wd.length) {y:Tx}:y∈ws bk wd t ↔ nd y=some t:=by
 obtain ⟨s1,s2⟩:=yX H hM ht
 rw [s2]
 unfold ws
 rw [ZG]
 constructor
 ·rintro ⟨i,hi,rfl⟩
  have:=Z4.mp hi
  exact ⟨List.drop_suffix _ _,by rw [YX];omega⟩
 ·rintro ⟨h1,h2⟩
  have:=h1.length_le
  refine ⟨y.length - sh bk t,Z4.mpr (by omega),?_⟩
  rw [show sh bk t+(y.length - sh bk t)=y.length by omega]
  exact (List.suffix_iff_eq_drop.mp h1).symm
include h0
theorem xD {b:Bm} (g1:∀ q∈b,p8 bk wd q) (g2:∀ t,0 < t->t < wd.length->ix bk t∈b.map (·.1)):∀ (k t:Nat) (u:Tx) (F:Nat) (z4:Wf),(W wd t).length<=k->t < wd.length->k < F->u.length+k<=1000->∃ y4,eE (e2 oNe (aa 1) (Q2 0)) jh F [pc (tbT (tabOf bk)),Q0 (ix bk t:Int),pc (.dct 0 (bT b)),Q1 u,z4]=some (.nx [pc (tbT (tabOf bk)),Q0 0,pc (.dct 0 (bT b)),Q1 (W wd t++u),y4]):=by
 have cd:∀ (t:Nat) (u:Tx) (z4:Wf),e2 oNe (aa 1) (Q2 0) [pc (tbT (tabOf bk)),Q0 (ix bk t:Int),pc (.dct 0 (bT b)),Q1 u,z4]=some (.fr,.bl (!decide (ix bk t=0))):=fun t u z4=>e2v (x:=(.fr,.int (ix bk t:Int))) (y:=(.fr,.int ((0:Nat):Int))) rfl rfl (zh rfl rfl (mD _ _))
 have hz:0 < wd.length:=H.i.lt H.i.z
 intro k
 induction k with
 | zero =>
  intro t u F z4 h ht hF _
  obtain ⟨F,rfl⟩:∃ j,F=j+1:=⟨F - 1,by omega⟩
  have hW:W wd t=[]:=XS.mp (Nat.le_zero.mp h)
  have t0:t=0:=by
   have:=H.i.top ht
   rw [hW,H.i.z] at this
   exact (Zn this).symm
  subst t0
  have c:=cd 0 u z4
  rw [show ix bk 0=0 from h0] at c ⊢
  exact ⟨z4,by rw [hW];exact eJ c⟩
 | succ k ih =>
  intro t u F z4 h ht hF hu
  obtain ⟨F,rfl⟩:∃ j,F=j+1:=⟨F - 1,by omega⟩
  by_cases t0:t=0
  ·subst t0
   have c:=cd 0 u z4
   rw [show ix bk 0=0 from h0] at c ⊢
   exact ⟨z4,by rw [H.i.wz];exact eJ c⟩
  ·obtain ⟨⟨i,c⟩,e1,e2'⟩:=Do b (ix bk t) (g2 t (Yk t0) ht)
   obtain ⟨t',p,h1,h2,h3,h4,h5⟩:=g1 _ e2'
   cases tR H hM ht h3 h1
   cases (show i=ix bk p from h2)
   have h5:W wd t=W wd p++[c]:=h5
   have hl5:=congrArg List.length h5
   rw [Zy,Zj] at hl5
   obtain ⟨y4,e⟩:=ih p ([c]++u) F (pc (vB (ix bk p,c))) (by omega) h4 (by omega) (by rw [Zy,Zj];omega)
   refine ⟨y4,(kC ((cd t u z4).trans (by rw [Ze fun z=>t0 (tR H hM ht hz (z.trans h0.symm))];rfl)) (sq (aw (m:=.fr) (e2v (x:=(.pu,.dct 0 (bT b))) (y:=(.fr,.int (ix bk t:Int))) rfl rfl ?_) (by decide) (by show 4 < 5;decide)) (sq (aw (m:=.fr) (Bd (m:=.fr) (n:=.fr) (x:=[c]) (y:=u) rfl rfl (by show 1+_<=_;omega)) (by decide) (by show 3 < 5;decide)) (aw (m:=.fr) (t:=.int (ix bk p:Int)) rfl (by decide) (by show 1 < 5;decide))))).trans (e.trans (by rw [h5,Z1]))⟩
   show (if true=true then (dX (bT b) _).map (sub .pu) else none)=_
   rw [Zr rfl,e1]
   rfl
include hN hl hm haz
theorem md {t:Nat} (ht:t < wd.length):fD [tbT (tabOf bk),.int (ix bk t:Int)]=some (.fr,.str (W wd t)):=by
 have ht':t < (bp bk).lg.length:=by rw [← H.i.len];exact ht
 obtain ⟨b,e,g1,g2⟩:=ub H hM hN hl hm fun t h=>(haz t h).1
 obtain ⟨y4,e2'⟩:=xD H hM h0 g1 g2 120 t [] sA none (haz t ht).2 ht (by decide) (by decide)
 rw [ZP] at e2'
 have r1:sX (xP (aL bG (ae (aa 0) (ae (aa 1) ai)))) [pc (tbT (tabOf bk)),Q0 (ix bk t:Int),none,none,none]=some (.nx [pc (tbT (tabOf bk)),Q0 (ix bk t:Int),none,none,none]):=by
  show (((aL bG _ _).map _).map _)=_
  rw [aS (xv (x:=(.pu,tbT (tabOf bk))) rfl (xv (r:=ai) (x:=(.fr,.int (ix bk t:Int))) rfl rfl)) (show bG [tbT (tabOf bk),.int (ix bk t:Int)]=some (.fr,.non) from zo (by rw [Zv];exact Cv hM ht'))]
  rfl
 exact dZ rfl (sq r1 (sq (aw (m:=.fr) (aS (xv (r:=ai) (x:=(.pu,tbT (tabOf bk))) rfl rfl) e) (by decide) (by show 2 < 5;decide)) (sq (η1:=[pc (tbT (tabOf bk)),Q0 (ix bk t:Int),pc (.dct 0 (bT b)),Q1 ([]),none]) rfl (sq e2' rfl))))
theorem yF {t:Nat} (ht:t < wd.length):jD [tbT (tabOf bk),.int (ix bk t:Int)]=some (.fr,.lst ((ws bk wd t).map .str)):=by
 have ht':t < (bp bk).lg.length:=by rw [← H.i.len];exact ht
 obtain ⟨s1,_⟩:=yX H hM ht
 have hL:=(haz t ht).2
 have r0:e2 aB (e2 aB (aa 0) (aa 1)) (Q2 0) [pc (tbT (tabOf bk)),Q0 (ix bk t:Int),Q1 (W wd t)]=some (.fr,.int (sh bk t:Int)):=e2v (pL hM ht' (n:=.fr) rfl rfl) (y:=(.fr,.int 0)) rfl rfl
 have r1:e2 bD (e2 aB (e2 aB (aa 0) (aa 1)) (Q2 1)) (Q2 1) [pc (tbT (tabOf bk)),Q0 (ix bk t:Int),Q1 (W wd t)]=some (.fr,.int (((W wd t).length:Int)+1)):=e2v (e2v (pL hM ht' (n:=.fr) rfl rfl) (y:=(.fr,.int 1)) (z:=(.fr,.int ((W wd t).length:Int))) rfl (by rw [← vq H hM ht];rfl)) (y:=(.fr,.int 1)) rfl rfl
 refine dZ rfl (sq (aw (m:=.fr) (aS (xv (x:=(.pu,tbT (tabOf bk))) rfl (xv (r:=ai) (x:=(.fr,.int (ix bk t:Int))) rfl rfl)) (md H hM hN h0 hl hm haz ht)) (by decide) (by show 2 < 3;decide)) (df ?_))
 unfold ws
 rw [Z6]
 refine eD (m:=.fr) (fun (i:Nat)=>T.int ((sh bk t:Int)+(i:Int))) _ (List.range ((W wd t).length+1 - sh bk t)) ?_ rfl (by rw [ZF];omega) fun i hi=>⟨_,rfl,?_⟩
 ·refine (ll r0 r1 (by omega)).trans ?_
  rw [show (((W wd t).length:Int)+1 - (sh bk t:Int)).toNat=(W wd t).length+1 - sh bk t by omega]
  rfl
 ·have:=Z4.mp hi
  exact rq (m:=.fr) (n:=.fr) (k:=(W wd t).length - (sh bk t+i)) rfl rfl (by omega) (by omega)
end
end T58
end
section
namespace T58
open VS AU L2
theorem jK {β:Type} {tg:Tg} {body:Sx} (g:β->T) (Inv:List β->Env->Prop) (h:∀ t r η,Inv (t :: r) η->∃ η1 η2,tg (g t) η=some η1/\body η1=some (.nx η2)/\Inv r η2):∀ (l:List β) (η:Env),Inv l η->∃ η',forL tg body (l.map g) η=some (.nx η')/\Inv [] η'
 | [],η,hi=>⟨η,rfl,hi⟩
 | t :: l,η,hi=>by
  obtain ⟨η1,η2,e1,e2,hi2⟩:=h t l η hi
  obtain ⟨η',e3,hi3⟩:=jK g Inv h l η2 hi2
  exact ⟨η',(dr e1 e2).trans e3,hi3⟩
noncomputable abbrev Rs:=Nat×Tx
noncomputable def rsT (n:Nat) (t w:Tx):List Rs:=((List.range (t.length+1)).filter fun e=>decide (w <:+ t.take e)).map fun e=>(n,t.drop e)
noncomputable def rs:Nat->List Tx->Tx->List Rs
 | _,[],_=>[]
 | n,t :: l,w=>rsT n t w++rs (n+1) l w
noncomputable def kR (p:Rs):List Key:=[.inl (p.1:Int),.inr (sx p.2)]
noncomputable abbrev pR (p:Rs):T:=.tup [.int (p.1:Int),.str p.2]
noncomputable abbrev rT (l:List Rs):T:=nkT (l.map kR)
theorem wu (l:List Rs):rT l=.tup (l.map pR):=by
 unfold rT nkT
 rw [Z6]
 rfl
theorem qU (x y:List Rs):eqT (rT x) (rT y)=decide (x=y):=by
 unfold rT
 rw [qo]
 refine decide_eq_decide.mpr ⟨fun h=>?_,fun h=>congrArg _ h⟩
 refine List.map_inj_right (fun p q h=>?_) |>.mp h
 unfold kR at h
 injection h with h1 h2
 injection h1 with h1
 injection h2 with h2
 injection h2 with h2
 exact Prod.ext (Int.ofNat.inj h1) (congrArg (fun s=>s.cps.toList) h2)
theorem uk (l:List Rs):(sM (rT l)).isSome=true:=by
 rw [wu]
 have:∀ l:List Rs,(l.map pR).mapM nk1=some (l.map kR):=fun l=>by
  induction l with
  | nil=>rfl
  | cons a l ih =>
   rw [Zs,List.mapM_cons,ih]
   rfl
 show ((l.map pR).mapM nk1).isSome=true
 rw [this]
 rfl
theorem mV (n:Nat) (t w:Tx):(rsT n t w).length<=t.length+1:=by
 unfold rsT
 rw [Zv]
 exact ZW (Xs _ _) (by rw [ZF];exact Zl _)
theorem vt (n:Nat) (t w:Tx):rsT n t w=((List.range (t.length+1 - w.length)).filter fun i=>decide (w <:+ t.take (w.length+i))).map fun i=>(n,t.drop (w.length+i)):=by
 unfold rsT
 have no:∀ e,e < w.length->¬ w <:+ t.take e:=fun e he h=>by
  have:=h.length_le
  rw [Yf] at this
  omega
 by_cases h:w.length<=t.length+1
 ·obtain ⟨m,hm⟩:∃ m,t.length+1=w.length+m:=⟨t.length+1 - w.length,by omega⟩
  rw [hm,XT,List.range_add,List.filter_append,List.filter_map,ZA,Z6]
  rw [List.filter_eq_nil_iff.mpr fun e he=>by simpa using no e (Z4.mp he)]
  rfl
 ·rw [List.filter_eq_nil_iff.mpr fun e he=>by simpa using no e (by have:=Z4.mp he;omega),show t.length+1 - w.length=0 by omega]
  rfl
theorem vo (t w:Tx) (i:Nat) (h:w.length+i<=t.length):w <:+ t.take (w.length+i) ↔ (t.drop i).take w.length=w:=by
 have e:(t.drop i).take w.length=(t.take (w.length+i)).drop i:=by rw [List.drop_take,YI]
 rw [e]
 constructor
 ·intro q
  have:=List.suffix_iff_eq_drop.mp q
  rw [Yf,Yl h,XT] at this
  exact this.symm
 ·intro q
  have:=List.drop_suffix i (t.take (w.length+i))
  rw [q] at this
  exact this
theorem A3 {α:Type} (l:List α) (i j:Nat) (h:j<=l.length) (hi:i<=j):cut l (some (i:Int)) (some (j:Int))=(l.drop i).take (j - i):=by
 have c:∀ k:Nat,k<=l.length->clip l.length (k:Int)=k:=fun k hk=>by
  unfold clip
  rw [Zo (by omega),Ya,Yl hk]
 unfold cut
 dsimp only
 rw [c j h,c i (ZW hi h)]
noncomputable abbrev ER (bk:List Tx) (w:Tx) (acc:List Rs) (z3 z4 z5:Wf):Env:=[pc (.lst (bk.map .str)),Q1 w,oc (.lst (acc.map pR)),z3,z4,z5]
theorem B5 {bk:List Tx} {w:Tx} (n:Nat) (t:Tx) (acc:List Rs) (z5:Wf) (hl:acc.length+t.length < 100000):∃ y5,forL (bF 5) fW ((List.range (t.length+1 - w.length)).map fun (i:Nat)=>T.int ((w.length:Int)+(i:Int))) (ER bk w acc (Q0 (n:Int)) (Q1 t) z5)=some (.nx (ER bk w (acc++rsT n t w) (Q0 (n:Int)) (Q1 t) y5)):=by
 obtain ⟨η',e,a',y5,rfl,h1,_⟩:=jK (tg:=bF 5) (body:=fW) (fun (i:Nat)=>T.int ((w.length:Int)+(i:Int))) (fun r η=>∃ a' z5,η=ER bk w a' (Q0 (n:Int)) (Q1 t) z5/\a'++(r.filter fun i=>decide (w <:+ t.take (w.length+i))).map (fun i=>(n,t.drop (w.length+i)))=acc++rsT n t w/\∀ i∈r,w.length+i<=t.length) (by
  rintro i r _ ⟨a',z5,rfl,h1,h2⟩
  have hi:=h2 i Zx
  have la:a'.length < 16777216:=by
   have:=congrArg List.length h1
   rw [Zy,Zy] at this
   have:=mV n t w
   omega
  have cd:e2 oEq (eSl (aa 4) (some (e2 i7 (aa 5) (eN bX (ae (aa 1) ai)))) (some (aa 5))) (aa 1) (ER bk w a' (Q0 (n:Int)) (Q1 t) (Q0 ((w.length:Int)+(i:Int))))=some (.fr,.bl (decide (w <:+ t.take (w.length+i)))):=by
   refine e2v (x:=(.fr,.str ((t.drop i).take w.length))) (y:=(.fr,.str w)) ?_ rfl (mh rfl rfl ?_)
   ·show some (Md.fr,T.str (cut t (some ((w.length:Int)+(i:Int) - (w.length:Int))) (some ((w.length:Int)+(i:Int)))))=_
    rw [show (w.length:Int)+(i:Int) - (w.length:Int)=(i:Int) by omega,show (w.length:Int)+(i:Int)=((w.length+i:Nat):Int) by omega,A3 t i (w.length+i) hi (by omega),YI]
   ·simp only [eqT]
    rw [show ((t.drop i).take w.length == w)=decide ((t.drop i).take w.length=w) by rw [Y4,beq_iff_eq,decide_eq_true_eq]]
    exact decide_eq_decide.mpr (vo t w i hi).symm
  by_cases q:w <:+ t.take (w.length+i)
  ·rw [ZL q] at cd
   rw [List.filter_cons_of_pos (by simpa using q),Zs,XQ] at h1
   have ap:=lK (i:=2) (η:=ER bk w a' (Q0 (n:Int)) (Q1 t) (Q0 ((w.length:Int)+(i:Int)))) (e:=lH (ae (aa 3) (ae (eSl (aa 4) (some (aa 5)) none) ai))) (l:=a'.map pR) (v:=pR (n,t.drop (w.length+i))) rfl (by
    have:=rq (a:=aa 4) (b:=aa 5) (η:=ER bk w a' (Q0 (n:Int)) (Q1 t) (Q0 ((w.length:Int)+(i:Int)))) (m:=.fr) (n:=.fr) (i:=(w.length:Int)+(i:Int)) (k:=w.length+i) rfl rfl (by omega) hi
    show (ae _ _ _).bind oB=_
    rw [xv (x:=(.fr,.int (n:Int))) rfl (xv (r:=ai) this rfl)]
    rfl) (by rw [Zv];exact la)
   rw [show a'.map pR++[pR (n,t.drop (w.length+i))]=(a'++[(n,t.drop (w.length+i))]).map pR by rw [ZA];rfl] at ap
   refine ⟨_,_,rfl,ift cd ap,a'++[(n,t.drop (w.length+i))],_,rfl,h1,fun u hu=>h2 u (Zw _ hu)⟩
  ·rw [Ze q] at cd
   rw [List.filter_cons_of_neg (by simpa using q)] at h1
   exact ⟨_,_,rfl,ko cd rfl,a',_,rfl,h1,fun u hu=>h2 u (Zw _ hu)⟩) (List.range (t.length+1 - w.length)) (ER bk w acc (Q0 (n:Int)) (Q1 t) z5) ⟨acc,z5,rfl,by rw [vt],fun i hi=>by have:=Z4.mp hi;omega⟩
 rw [show a'=acc++rsT n t w by simpa using h1] at e
 exact ⟨y5,e⟩
theorem vm {bk:List Tx} {w:Tx} (hw:w.length<=1000):∀ (l:List Tx) (n:Nat) (acc:List Rs) (z3 z4 z5:Wf),(∀ t∈l,t.length<=120)->acc.length+121 * l.length<=10000->∃ y3 y4 y5,forL (nX [bF 3,bF 4]) iq (iz n (l.map .str)) (ER bk w acc z3 z4 z5)=some (.nx (ER bk w (acc++rs n l w) y3 y4 y5))
 | [],n,acc,z3,z4,z5,_,_=>⟨z3,z4,z5,by rw [rs,ZP];rfl⟩
 | t :: l,n,acc,z3,z4,z5,ht,hl=>by
  rw [Zk] at hl
  have h1:=ht t Zx
  have h2:=mV n t w
  obtain ⟨y5,e⟩:=B5 (bk:=bk) (w:=w) n t acc z5 (by omega)
  obtain ⟨x3,x4,x5,e2'⟩:=vm hw l (n+1) (acc++rsT n t w) (Q0 (n:Int)) (Q1 t) y5 (fun u hu=>ht u (Zw _ hu)) (by rw [Zy];omega)
  rw [Z1] at e2'
  refine ⟨x3,x4,x5,(dr (η1:=ER bk w acc (Q0 (n:Int)) (Q1 t) z5) rfl ((fC (m:=.fr) ?_ rfl).trans e)).trans e2'⟩
  refine (ll (m:=.fr) (n:=.fr) (i:=(w.length:Int)) (j:=(t.length:Int)+1) rfl rfl (by omega)).trans ?_
  rw [show ((t.length:Int)+1 - (w.length:Int)).toNat=t.length+1 - w.length by omega]
  rfl
theorem vv (w:Tx):∀ (l:List Tx) (n:Nat),(∀ t∈l,t.length<=120)->(rs n l w).length<=121 * l.length
 | [],_,_=>Zl _
 | t :: l,n,ht=>by
  rw [rs,Zy,Zk]
  have h1:=ht t Zx
  have h2:=mV n t w
  have:=vv w l (n+1) fun u hu=>ht u (Zw _ hu)
  omega
theorem xQ {bk:List Tx} (h8:bk.length<=8) (ht:∀ t∈bk,t.length<=120) {w:Tx} (hw:w.length<=1000):eR [.lst (bk.map .str),.str w]=some (.fr,rT (rs 0 bk w)):=by
 obtain ⟨y3,y4,y5,e⟩:=vm (bk:=bk) hw bk 0 [] none none none ht (by show 0+_<=_;omega)
 have:=vv w bk 0 ht
 refine dZ rfl (sq (η1:=ER bk w [] none none none) rfl (sq ((fC (m:=.pu) rfl rfl).trans e) (sq (η1:=[pc (.lst (bk.map .str)),Q1 w,pc (.lst ((rs 0 bk w).map pR)),y3,y4,y5]) rfl (df (gL (xv (r:=ai) (x:=(.pu,.lst ((rs 0 bk w).map pR))) rfl rfl) ?_)))))
 rw [wu]
 show (if ((rs 0 bk w).map pR).length<=16777216 then some (up .pu (.tup ((rs 0 bk w).map pR))) else none)=_
 rw [Zr (by rw [Zv];omega)]
 unfold up
 rw [show imm (.tup ((rs 0 bk w).map pR))=true from jf pR (fun _=>rfl) _]
 rfl
theorem za (w:Tx):∀ (l:List Tx) (n:Nat) (p:Rs),p∈rs n l w->n<=p.1
 | [],_,_,h=>nomatch h
 | t :: l,n,p,h=>by
  rcases Zc.mp h with h | h
  ·obtain ⟨e,_,rfl⟩:=ZG.mp h
   exact Zl _
  ·exact Nat.le_of_succ_le (za w l (n+1) p h)
theorem pZ {w p r:Tx}:∀ (l:List Tx) (n i:Nat),l[i]?=some (p++r)->((n+i,r)∈rs n l w ↔ w <:+ p)
 | [],_,_,h=>by simp at h
 | t :: l,n,0,h=>by
  cases h
  rw [rs,Zc]
  constructor
  ·rintro (h | h)
   ·obtain ⟨e,he,h1⟩:=ZG.mp h
    obtain ⟨h2,h3⟩:=YS.mp he
    have h2:=Z4.mp h2
    have h4:=congrArg List.length (YR h1).2
    rw [YX,Zy] at h4
    rw [Zy] at h2
    rw [show e=p.length by omega,List.take_left] at h3
    exact of_decide_eq_true h3
   ·have:=za w l (n+1) _ h
    exact absurd this (by show ¬ n+1<=n+0;omega)
  ·intro h
   refine .inl (ZG.mpr ⟨p.length,YS.mpr ⟨Z4.mpr (by rw [Zy];omega),ZL (by rw [List.take_left];exact h)⟩,by rw [List.drop_left];rfl⟩)
 | t :: l,n,i+1,h=>by
  rw [rs,Zc,show n+(i+1)=n+1+i by omega,pZ l (n+1) i (by simpa using h)]
  refine ⟨fun z=>z.elim (fun z=>?_) id,.inr⟩
  obtain ⟨e,_,h1⟩:=ZG.mp z
  have:=(YR h1).1
  omega
theorem qz {x y:Tx}:∀ (l:List Tx) (n:Nat),(∀ t∈l,∀ e,x <:+ t.take e ↔ y <:+ t.take e)->rs n l x=rs n l y
 | [],_,_=>rfl
 | t :: l,n,h=>by
  rw [rs,rs,qz l (n+1) fun u hu=>h u (Zw _ hu)]
  unfold rsT
  rw [List.filter_congr fun e _=>decide_eq_decide.mpr (h t Zx e)]
theorem vI {bk:List Tx} {nd:Wd->Option Nat} {wd:List Wd} (H:K (Hd bk) (bp bk) nd wd) {x y:Tx} {s t:Nat} (hx:nd x=some s) (hy:nd y=some t):rs 0 bk x=rs 0 bk y ↔ s=t:=by
 rw [H.eq hx hy]
 constructor
 ·intro e p hp
  have key:∀ t∈bk,p <+: t->(x <:+ p ↔ y <:+ p):=fun t ht ⟨r,hr⟩=>by
   subst hr
   obtain ⟨i,hi,h⟩:=List.getElem_of_mem ht
   have g:bk[i]?=some (p++r):=by rw [Zm hi,h]
   rw [← pZ bk 0 i g,← pZ bk 0 i g,e]
  rcases hp with rfl | ⟨t,ht,hp⟩
  ·cases bk with
   | nil =>
    have em:∀ {z:Tx} {n:Nat},nd z=some n->z=[]:=fun {z n} h=>by
     obtain ⟨p,hp,hs⟩:=(H.some z).mp ⟨n,h⟩
     rcases hp with rfl | ⟨_,h,_⟩
     ·exact Yq.mp hs
     ·cases h
    rw [em hx,em hy]
   | cons a l=>exact key a Zx (List.nil_prefix)
  ·exact key t ht hp
 ·exact fun h=>qz bk 0 fun t ht e=>h _ (.inr ⟨t,ht,List.take_prefix _ _⟩)
end T58
end
section
namespace AU
theorem uS (c:Nat):∃ r,hb S0 0 c=some (⟨[0,1],[none,some 0],[[(c,1)],[]]⟩,r):=⟨_,rfl⟩
theorem tu:∀ (b:List Wd) {S:St},(∀ t∈b,∀ c∈t,97<=c/\c<=122)->(∀ t∈b,t.length < 1000)->mB S0 b=some S->0 < (b.map List.length).sum->S.lg.length<=2 * (b.map List.length).sum:=by
 intro b
 induction b with
 | nil=>intro S _ _ _ h;exact absurd h (Yn 0)
 | cons t b ih =>
  intro S ha hl e hp
  have hb':=fun t ht=>ha t (Zw _ ht)
  have hl':=fun t ht=>hl t (Zw _ ht)
  rw [Zs,YG] at hp ⊢
  cases t with
  | nil =>
   rw [Yi,Y8] at hp ⊢
   exact ih hb' hl' e hp
  | cons c w =>
   have hw:=ha _ Zx
   have hk:(c :: w).length < 1000:=hl _ Zx
   rw [Zk] at hk
   obtain ⟨S1,r1,nd1,wd1,e1,H1,a1,a2,a3,a4,a5⟩:=K0.step (h:=0) (c:=c) (by decide) (hw c Zx) (by decide)
   obtain ⟨r,er⟩:=uS c
   have l1:wd1.length=2:=by
    rw [H1.i.len]
    rw [er] at e1
    cases e1
    rfl
   have a2':W wd1 r1=[c]:=a2
   obtain ⟨S2,r2,nd2,wd2,e2,H2,b1,b2,b3,b4,b5⟩:=H1.grow w a1 (.inr a2) (fun d hd=>hw d (Zw _ hd)) (by rw [a2',Zj];omega)
   obtain ⟨S3,nd3,wd3,e3,H3,c1,c2⟩:=H2.book b hb' hl'
   have:mB S0 ((c :: w) :: b)=some S3:=by
    show ((hb S0 0 c).bind _).bind _=_
    rw [e1]
    show (hg S1 r1 w).bind _=_
    rw [e2]
    exact e3
   rw [this] at e
   cases e
   rw [← H3.i.len,Zk]
   omega
end AU
end
section
namespace T58
open VS AU
theorem sum_nat {α:Type} (f:α->Nat):∀ l:List α,(l.map fun x=>(f x:Int)).sum=(((l.map f).sum:Nat):Int)
 | []=>rfl
 | a :: l=>by
  rw [Zs,YG,Zs,YG,sum_nat f l]
  omega
theorem Cm {np nn:Nat} {b:Sx} {ts:Wb} {v:Val} (hl:ts.length=np) (h:∃ η,b (ts.map (fun t=>some (.pu t))++List.replicate (nn - np) none)=some (.rt v η)):fn np nn b ts=some v:=by
 obtain ⟨η,h⟩:=h
 exact dZ hl h
theorem lj {a b:Sx} {η η1:Env} {v:Val} (h:a η=some (.nx η1)) (q:∃ z,b η1=some (.rt v z)):∃ z,ak a b η=some (.rt v z):=by
 obtain ⟨z,q⟩:=q
 exact ⟨z,(aG h).trans q⟩
noncomputable def cnt (t:List Row):Nat:=(t.map fun r=>r.2.2.2.length).sum
theorem xp (S:St) (met:Wi):cnt (tab S met)=(met.map fun n=>(sk (S.wy.getD n [])).length).sum:=by
 unfold cnt tab
 rw [Z6]
 refine congrArg List.sum (YO fun n _=>?_)
 show (row S met n).2.2.2.length=_
 rw [mf]
 exact Zv ..
noncomputable abbrev EU (ns:Wh) (bk:List Tx) (z4 z5 z6 z7:Wf):Env:=[pc (.scr ns),pc (.lst (bk.map .str)),pc (tbT (tabOf bk)),Q0 (cj bk:Int),z4,z5,z6,z7,none]
theorem v8 (ns:Wh):vA [.scr ns]=some (.fr,.bl true):=by
 obtain ⟨bk,e1,B,b8⟩:=AN ns
 have hB:Bok bk:=⟨b8,by unfold cj;rw [← List.length_flatten];exact B.n,B.az⟩
 obtain ⟨mb,nd,wd,H,hl,_,hM,hm,h0,hN⟩:=hB.k
 have hx:∀ x∈aF bk,x < wd.length:=fun x h=>by rw [H.i.len];exact (hM x).mp h
 have t120:∀ t∈bk,t.length<=120:=fun t ht=>ZW (Bok.sum1 ht) hB.sum
 have haz:∀ t,t < wd.length->Az (W wd t)/\(W wd t).length<=120:=fun t ht=>by
  obtain ⟨p,hp,hs⟩:=(H.some _).mp ⟨t,H.i.top ht⟩
  rcases hp with rfl | ⟨u,hu,hp⟩
  ·rw [Yq.mp hs]
   exact ⟨fun c h=>(nomatch h),by decide⟩
  ·exact ⟨fun c h=>hB.az u hu c (hp.subset (hs.subset h)),ZW (ZW hs.length_le hp.length_le) (t120 u hu)⟩
 have hmt:(tabOf bk).length=(aF bk).length:=by unfold tabOf tab;rw [Zv]
 have vC:∀ {z4 z5 z6 z7 z8},eN bX (ae (aa 2) ai) [pc (.scr ns),pc (.lst (bk.map .str)),pc (tbT (tabOf bk)),Q0 (cj bk:Int),z4,z5,z6,z7,z8]=some (.fr,.int ((aF bk).length:Int)):=fun {z4 z5 z6 z7 z8}=>gL (xv (r:=ai) (x:=(.pu,tbT (tabOf bk))) rfl rfl) (by
  show some (Md.fr,T.int ((((tabOf bk).map dY).length:Nat):Int))=_
  rw [Zv,hmt])
 have rgT:∀ {z4 z5 z6 z7},c6 (eN bX (ae (aa 2) ai)) (EU ns bk z4 z5 z6 z7)=some (.fr,(List.range (aF bk).length).map fun (k:Nat)=>T.int (k:Int)):=fun {z4 z5 z6 z7}=>by rw [iZ vC (by omega),Ya,lE]
 obtain ⟨at_,hat⟩:∃ f:Nat->Nat,∀ k,k < (aF bk).length->f k < wd.length/\ix bk (f k)=k:=⟨fun k=>(aF bk).getD k 0,fun k hk=>by
  dsimp only
  rw [Zq,Zm hk]
  exact ⟨hx _ (Z8 hk),uQ H hM hN hk⟩⟩
 obtain ⟨η',f1,d,z5,z6,z7,rfl,_⟩:=jK (tg:=bF 5) (body:=oG) (fun (k:Nat)=>T.int (k:Int)) (fun r η=>∃ (d:Wi) (z5 z6 z7:Wf),η=EU ns bk (oc (.dct 2 (d.map fun j=>(rT (rs 0 bk (W wd (at_ j))),T.int (j:Int))))) z5 z6 z7/\d++r=List.range (aF bk).length) (by
  rintro k r _ ⟨d,z5,z6,z7,rfl,hd⟩
  have hn:(d++k :: r).Nodup:=by rw [hd];exact List.nodup_range
  have lt:∀ j∈d++k :: r,j < (aF bk).length:=fun j hj=>by rw [hd] at hj;exact Z4.mp hj
  have kd:k ∉ d:=fun z=>(ZO.mp hn).2.2 k z k Zx rfl
  have hk:=lt k (ZX _ Zx)
  obtain ⟨g1,g2⟩:=hat k hk
  have lo:=md H hM hN h0 hl hm haz g1
  have wo:=yF H hM hN h0 hl hm haz g1
  rw [g2] at lo wo
  have re:=fun {w:Tx} (hw:w.length<=1000)=>xQ b8 t120 hw
  have no:((d.map fun j=>(rT (rs 0 bk (W wd (at_ j))),T.int (j:Int))).findIdx? fun p=>eqT p.1 (rT (rs 0 bk (W wd (at_ k)))))=none:=by
   rw [List.findIdx?_eq_none_iff]
   intro p hp
   obtain ⟨j,hj,rfl⟩:=ZG.mp hp
   obtain ⟨g3,g4⟩:=hat j (lt j (Z7 _ hj))
   rw [qU]
   refine Ze fun z=>kd ?_
   rw [← g2,← (vI H (H.i.top g3) (H.i.top g1)).mp z,g4]
   exact hj
  have dl:d.length<=241:=by
   have:=congrArg List.length hd
   rw [Zy,ZF] at this
   omega
  obtain ⟨η2,f2,y7,rfl,_⟩:=jK (tg:=bF 7) (body:=oh) T.str (fun r η=>∃ y7,η=EU ns bk (oc (.dct 2 ((d++[k]).map fun j=>(rT (rs 0 bk (W wd (at_ j))),T.int (j:Int))))) (Q0 (k:Int)) (pc (rT (rs 0 bk (W wd (at_ k))))) y7/\∀ w∈r,w∈ws bk wd (at_ k)) (by
   rintro w r _ ⟨y7,rfl,hr⟩
   have hw:=(zz H hM g1).mp (hr w Zx)
   have wl:w.length<=1000:=ZW (H.i.sf hw).length_le (ZW (haz _ g1).2 (by decide))
   have:=re wl
   rw [(vI H hw (H.i.top g1)).mpr rfl] at this
   refine ⟨_,_,rfl,ko (m:=.fr) (e2v (aS (xv (x:=(.pu,.lst (bk.map .str))) rfl (xv (r:=ai) (x:=(.fr,.str w)) rfl rfl)) this) (y:=up .pu (rT (rs 0 bk (W wd (at_ k))))) rfl (zh (r:=true) ?_ ?_ (by rw [qU];exact ZL rfl))) rfl,_,rfl,fun u hu=>hr u (Zw _ hu)⟩
   all_goals
    rw [wu]
    show (List.map pR _).all (eqD 59)=true
    rw [List.all_map]
    exact YJ.mpr fun _ _=>rfl) (ws bk wd (at_ k)) (EU ns bk (oc (.dct 2 ((d++[k]).map fun j=>(rT (rs 0 bk (W wd (at_ j))),T.int (j:Int))))) (Q0 (k:Int)) (pc (rT (rs 0 bk (W wd (at_ k))))) z7) ⟨z7,rfl,fun _ h=>h⟩
  have pu:∀ {z7},rD 4 (aa 6) (aa 5) (EU ns bk (oc (.dct 2 (d.map fun j=>(rT (rs 0 bk (W wd (at_ j))),T.int (j:Int))))) (Q0 (k:Int)) (pc (rT (rs 0 bk (W wd (at_ k))))) z7)=some (.nx (EU ns bk (oc (.dct 2 ((d++[k]).map fun j=>(rT (rs 0 bk (W wd (at_ j))),T.int (j:Int))))) (Q0 (k:Int)) (pc (rT (rs 0 bk (W wd (at_ k))))) z7)):=fun {z7}=>by
   refine (Zr ⟨uk _,rfl,by rw [Zv];show d.length < 16777216;omega,no⟩).trans ?_
   rw [ZA]
   rfl
  refine ⟨_,_,rfl,sq (aw (m:=.fr) (aS (xv (x:=(.pu,.lst (bk.map .str))) rfl (xv (r:=ai) (aS (xv (x:=(.pu,tbT (tabOf bk))) rfl (xv (r:=ai) (x:=(.fr,.int (k:Int))) rfl rfl)) lo) rfl)) (re (ZW (haz _ g1).2 (by decide)))) (by decide) (by show 6 < 9;decide)) (sq (ko (m:=.fr) (e2v (x:=up .pu (rT (rs 0 bk (W wd (at_ k))))) (y:=(.bo,.dct 2 (d.map fun j=>(rT (rs 0 bk (W wd (at_ j))),T.int (j:Int))))) rfl rfl ?_) rfl) (sq pu ((fC (m:=.fr) ?_ rfl).trans f2))),d++[k],_,_,_,rfl,by rw [Z1];exact hd⟩
  ·show (if (sM (rT (rs 0 bk (W wd (at_ k))))).isSome=true then _ else _)=_
   rw [Zr (uk _)]
   show some (Md.fr,T.bl (List.findIdx? (fun p:T×T=>eqT p.1 (rT (rs 0 bk (W wd (at_ k))))) _).isSome)=_
   rw [no]
   rfl
  ·show (aL jD _ _).bind _=_
   rw [aS (xv (x:=(.pu,tbT (tabOf bk))) rfl (xv (r:=ai) (x:=(.fr,.int (k:Int))) rfl rfl)) wo]
   rfl) (List.range (aF bk).length) (EU ns bk (oc (.dct 2 [])) none none none) ⟨[],none,none,none,rfl,rfl⟩
 have bw:cnt (tabOf bk)<=wd.length - 1+cj bk:=by
  unfold tabOf
  rw [xp]
  exact H.ways hN fun x h=>hx x h
 have bt:0 < cj bk->wd.length<=2 * cj bk:=fun h=>by
  rw [H.i.len]
  exact tu bk hB.az (fun t ht=>Xf (t120 t ht) (by decide)) mb h
 have hz:0 < wd.length:=H.i.lt H.i.z
 have sg:eN oQ (ae (eT 1 (bF 0) (g8 (aa 1)) none (eN bX (ae (aa 0) ai))) ai) [pc (.scr ns),pc (.lst (bk.map .str)),pc (tbT (tabOf bk)),none,none,none,none,none,none]=some (.fr,.int (cj bk:Int)):=by
  refine gL (xv (r:=ai) (eD (m:=.pu) T.str (fun t=>T.int (t.length:Int)) bk rfl rfl (by omega) (fun r _=>⟨_,rfl,rfl⟩)) rfl) ?_
  show (jA (bk.map fun r=>T.int (r.length:Int))).bind _=_
  rw [ints_map (fun r:Tx=>(r.length:Int)),Zt,sum_nat (fun r:Tx=>r.length)]
  rfl
 have wy:∀ {z4 z5 z6 z7},eN oQ (ae (eT 1 (bF 0) (g8 (aa 2)) none (eN bX (ae (e2 aB (aa 0) (Q2 3)) ai))) ai) (EU ns bk z4 z5 z6 z7)=some (.fr,.int (cnt (tabOf bk):Int)):=fun {z4 z5 z6 z7}=>by
  refine gL (xv (r:=ai) (eD (m:=.pu) dY (fun r=>T.int (r.2.2.2.length:Int)) (tabOf bk) rfl rfl (by omega) (fun r _=>⟨_,rfl,gL (xv (x:=(.fr,stT r.2.2.2)) (r:=ai) (e2v (x:=(.fr,dY r)) (y:=(.fr,.int 3)) ?_ rfl ?_) rfl) ?_⟩)) rfl) ?_
  ·show some (up .pu (dY _))=_
   unfold up
   rw [kz]
   rfl
  ·show some (up .fr (stT _))=_
   unfold up
   rw [lJ]
   rfl
  ·show some (Md.fr,T.int (((r.2.2.2.map _).length:Nat):Int))=_
   rw [Zv]
  ·show (jA ((tabOf bk).map fun r=>T.int (r.2.2.2.length:Int))).bind _=_
   rw [ints_map (fun r:Row=>(r.2.2.2.length:Int)),Zt,sum_nat (fun r:Row=>r.2.2.2.length)]
   rfl
 refine Cm rfl (lj (aw (m:=.fr) (aS (xv (x:=(.fr,.scr ns)) rfl (xv (r:=ai) (x:=(.fr,.int 40)) rfl rfl)) e1) (by decide) (by show 1 < 9;decide)) (lj (aw (m:=.fr) (yI hB (m:=.fr) (gL (xv (r:=ai) (x:=(.pu,.lst (bk.map .str))) rfl rfl) ?_)) (by decide) (by show 2 < 9;decide)) (lj (aw (m:=.fr) sg (by decide) (by show 3 < 9;decide)) (lj (η1:=EU ns bk (oc (.dct 2 [])) none none none) rfl (lj ((fC (m:=.fr) rgT rfl).trans f1) (lj rfl (lj (aw (m:=.fr) wy (by decide) (by show 8 < 9;decide)) ?_)))))))
 ·show mkL .pu (bk.map T.str)=_
  rw [uh (by rw [Zv];omega),Zr (jf T.str (fun _=>rfl) bk)]
 have c0:e2 oEq (aa 3) (Q2 0) [pc (.scr ns),pc (.lst (bk.map .str)),pc (tbT (tabOf bk)),Q0 (cj bk:Int),pc (.dct 2 (d.map fun j=>(rT (rs 0 bk (W wd (at_ j))),T.int (j:Int)))),z5,z6,z7,Q0 (cnt (tabOf bk):Int)]=some (.fr,.bl ((cj bk:Int) == 0)):=eq_int (m:=.fr) 0 rfl
 by_cases s0:cj bk=0
 ·have w1:wd.length=1:=by
   refine Nat.le_antisymm (ZD fun z=>?_) hz
   have h1:=H.i.top z
   obtain ⟨p,hp,hs⟩:=(H.some _).mp ⟨1,h1⟩
   have:W wd 1=[]:=by
    rcases hp with rfl | ⟨u,hu,hp⟩
    ·exact Yq.mp hs
    ·have:=Bok.sum1 hu
     have:=hp.length_le
     have:=hs.length_le
     exact XS.mp (by omega)
   rw [this,H.i.z] at h1
   cases h1
  rw [show ((cj bk:Int) == 0)=true by rw [s0];rfl] at c0
  refine ⟨_,gQ (ift c0 (df (gY (x:=true) (y:=true) ((eq_int 1 vC).trans ?_) ((eq_int (m:=.fr) 0 rfl).trans ?_))))⟩
  ·rw [hm,w1]
   rfl
  ·rw [show cnt (tabOf bk)=0 by omega]
   rfl
 ·have sp:0 < cj bk:=Yk s0
  have:=bt sp
  have s120:=hB.sum
  rw [show ((cj bk:Int) == 0)=false by rw [ZK];omega] at c0
  refine ⟨_,sq (ko c0 rfl) (df (gY (x:=true) (y:=true) (e2v vC (e2v (x:=(.fr,.int 2)) (y:=(.fr,.int (cj bk:Int))) rfl rfl (hU (by decide))) ?_) (e2v (x:=(.fr,.int (cnt (tabOf bk):Int))) rfl (e2v (x:=(.fr,.int 3)) (y:=(.fr,.int (cj bk:Int))) rfl rfl (hU (by decide))) ?_)))⟩
  ·exact congrArg (fun b=>some (Md.fr,T.bl b)) (ZL (by omega))
  ·exact congrArg (fun b=>some (Md.fr,T.bl b)) (ZL (by omega))
end T58
end
section
namespace T58
open PySem PySem.Spec PyProof.Rows L2 VS
theorem qv {G:Gx} {X:Cx} {x:Str} {p:Pos} (i:Nat) (a:X.N[i]?=some x) (b:Vis X.env.scope x:=by exact Or.inl rfl) (c:(x == ("__debug__" : Str))=false:=by rfl) (d:(x == ("__classdict__" : Str))=false:=by rfl):PV G X (.Name x p) (aa i):=ff i a b c d
theorem Q3 {α:Sort _} {x:α} {b:Prop}:x=x∨b:=.inl rfl
abbrev Q4:List Str:=["_law_book_here", "_law_word"]
abbrev Q5:List Str:=["_law_cell_here"]
abbrev Q6:List Str:=["_law_k", "_law_cell_here", "_law_start", "_law_step"]
abbrev Q7:List Str:=["_law_row", "_law_script", "_law_book_here", "_law_table", "_law_signs_here", "_law_met", "_law_k", "_law_some", "_law_word", "_law_ways"]
abbrev Q8:List Str:=["_law_script", "_law_k"]
abbrev Q9:List Str:=["_law_script", "_law_most"]
abbrev Qa:List Str:=["_law_script"]
abbrev Qb:List Str:=["_law_text", "_law_script", "_law_book_here", "_law_table", "_law_signs_here", "_law_met", "_law_k", "_law_some", "_law_word", "_law_ways"]
abbrev Qc:List Str:=["book", "number"]
abbrev Qd:List Str:=["self", "head", "sign"]
abbrev Qe:List Str:=["self", "head", "word"]
abbrev Qf:List Str:=["self", "long", "link", "ways"]
abbrev Qg:List Str:=["self", "node", "numbers"]
abbrev Qh:List Str:=["self", "node", "sign"]
abbrev Qi:List Str:=["self", "text", "word"]
abbrev Qj:List Str:=["self"]
abbrev Qk:List Str:=["sign", "self", "node", "numbers", "link", "ways", "steps"]
abbrev Ql:List Str:=["table", "stand"]
noncomputable def top (i:Nat):Stmt:=PySem.Challenge.pw_allparts_k58_whole_fewest_stands.main.body.getD i (.Pass ⟨0,0,0,0⟩)
structure Blt (mg:Wx):Prop where
 b_bool:mg "bool" = none
 b_dict:mg "dict" = none
 b_enumerate:mg "enumerate" = none
 b_int:mg "int" = none
 b_isinstance:mg "isinstance" = none
 b_len:mg "len" = none
 b_list:mg "list" = none
 b_min:mg "min" = none
 b_range:mg "range" = none
 b_sorted:mg "sorted" = none
 b_sum:mg "sum" = none
 b_tuple:mg "tuple" = none
 c_MOST_SIGNS:∃ t,mg "MOST_SIGNS" = some (.int 120 t)
 c_MOST_TEXTS:∃ t,mg "MOST_TEXTS" = some (.int 8 t)
noncomputable abbrev nsL:List Str:=["  ", "longs", "links", "ways", "texts", "heads", "nodes"]
noncomputable abbrev gX (K:Xd) (C D:Addr):Gx:=gxO nsL K C D
theorem gJ {K:Xd} {C D:Addr} {m:Me}:i6 ((gxO nsL K C D).at m):=xJ (by decide +kernel) (by decide +kernel)
structure ObF (K:Xd) (mg:Wx) (C D:Addr):Prop where
 cl_Nodes:Cls K C
 mg_Nodes:mg "Nodes" = some (.ref C)
 n_longs_Nodes:aU K C "longs"
 n_links_Nodes:aU K C "links"
 n_ways_Nodes:aU K C "ways"
 n_texts_Nodes:aU K C "texts"
 n_heads_Nodes:aU K C "heads"
 n_nodes_Nodes:aU K C "nodes"
 cl_Machine:Cls K D
 mg_Machine:mg "Machine" = some (.ref D)
 n_longs_Machine:aU K D "longs"
 n_links_Machine:aU K D "links"
 n_ways_Machine:aU K D "ways"
 n_texts_Machine:aU K D "texts"
 n_heads_Machine:aU K D "heads"
 n_nodes_Machine:aU K D "nodes"
theorem eX {K:Xd} {mg:Wx} {C D:Addr} {m:Me} (O:ObF K mg C D):FldOk ((gxO nsL K C D).at m) K 1 "longs" := sD rfl O.cl_Nodes O.cl_Machine O.n_longs_Nodes O.n_longs_Machine
theorem eW {K:Xd} {mg:Wx} {C D:Addr} {m:Me} (O:ObF K mg C D):FldOk ((gxO nsL K C D).at m) K 2 "links" := sD rfl O.cl_Nodes O.cl_Machine O.n_links_Nodes O.n_links_Machine
theorem dE {K:Xd} {mg:Wx} {C D:Addr} {m:Me} (O:ObF K mg C D):FldOk ((gxO nsL K C D).at m) K 3 "ways" := sD rfl O.cl_Nodes O.cl_Machine O.n_ways_Nodes O.n_ways_Machine
theorem dG {K:Xd} {mg:Wx} {C D:Addr} {m:Me} (O:ObF K mg C D):FldOk ((gxO nsL K C D).at m) K 4 "texts" := sD rfl O.cl_Nodes O.cl_Machine O.n_texts_Nodes O.n_texts_Machine
theorem ju {K:Xd} {mg:Wx} {C D:Addr} {m:Me} (O:ObF K mg C D):FldOk ((gxO nsL K C D).at m) K 5 "heads" := sD rfl O.cl_Nodes O.cl_Machine O.n_heads_Nodes O.n_heads_Machine
theorem kK {K:Xd} {mg:Wx} {C D:Addr} {m:Me} (O:ObF K mg C D):FldOk ((gxO nsL K C D).at m) K 6 "nodes" := sD rfl O.cl_Nodes O.cl_Machine O.n_nodes_Nodes O.n_nodes_Machine
section
variable (P:Program) (w:World) (base:Heap) {K:Xd} {mg:Wx} {C D:Addr}
noncomputable abbrev eG:Stmt:=inClass (top 17) 1
theorem je:FnScope Qf Qf (aj eG):=by constructor <;> first | rfl | decide +kernel
theorem aM {f:Addr} {fd:FuncData} (F:Fun K "new_node" "Nodes.new_node" eG f fd) (hm:Meth K C "new_node" f) (B:Blt mg) (O:ObF K mg C D) :
  MtAt P w K mg base 1 (gX K C D) 0 "new_node" Qf [false,false,true] aI:=jP F hm O.cl_Nodes (fS (by decide +kernel) (by decide +kernel)) je rfl rfl (fun _ _ _ _ _ _ us hl=>by obtain ⟨_,_,_,_,rfl⟩:=L2.Dc hl;rfl) fun _ _ _ _ _ _ _ hr =>
  (af (nI gJ (fg 1 (eX O) (bM 0 rfl (Or.inl rfl) rfl rfl) rfl) (ab (qv 1 rfl) ah rfl) rfl rfl rfl rfl rfl rfl rfl)
  (af (nI gJ (fg 2 (eW O) (bM 0 rfl (Or.inl rfl) rfl rfl) rfl) (ab (qv 2 rfl) ah rfl) rfl rfl rfl rfl rfl rfl rfl)
  (af (yg gJ (fg 3 (dE O) (bM 0 rfl (Or.inl rfl) rfl rfl) rfl) rfl rfl Q3 rfl rfl rfl rfl rfl rfl rfl rfl)
  (aq (bq (w_sub (cQ B.b_len (ab (w_fld gJ (eX O) (qv 0 rfl) rfl) ah rfl) rfl rfl rfl) ag))))))
noncomputable abbrev d4:Stmt:=inClass (top 17) 0
theorem jG:FnScope Qj Qj (aj d4):=by constructor <;> first | rfl | decide +kernel
theorem cq {f:Addr} {fd:FuncData} (F:Fun K "__init__" "Nodes.__init__" d4 f fd) (hm:Mk K C f) (B:Blt mg) (O:ObF K mg C D) (aM:MtAt P w K mg base 1 (gX K C D) 0 "new_node" Qf [false,false,true] aI) :
  InAt P w K mg base 2 (gX K C D) 0 0 "Nodes" Qj c9:=A8 F hm O.mg_Nodes jG rfl rfl (fun _ _ _ _ _ _ us hl=>by obtain ⟨_,rfl⟩:=L2.j0 hl;rfl) fun _ _ _ _ _ _ _ hr =>
  (af (jX 0 1 gJ (eX O) (dH ah) rfl Q3 rfl rfl rfl)
  (af (jX 0 2 gJ (eW O) (dH ah) rfl Q3 rfl rfl rfl)
  (af (jX 0 3 gJ (dE O) (dH ah) rfl Q3 rfl rfl rfl)
  (aq (pb (gP gJ aM.at hr (by decide) (bM 0 rfl (Or.inl rfl) rfl rfl) (ab ag (ab uH (ab pX ah rfl) rfl) rfl) rfl rfl rfl) rfl)))))
noncomputable abbrev cf:Stmt:=inClass (top 17) 4
theorem aW:FnScope ["self", "node", "sign", "old", "long", "half"] Qh (aj cf):=by constructor <;> first | rfl | decide +kernel
theorem aR {f:Addr} {fd:FuncData} (F:Fun K "node_just_behind" "Nodes.node_just_behind" cf f fd) (hm:Meth K C "node_just_behind" f) (B:Blt mg) (O:ObF K mg C D) (aM:MtAt P w K mg base 1 (gX K C D) 0 "new_node" Qf [false,false,true] aI) :
  MtAt P w K mg base 2 (gX K C D) 0 "node_just_behind" Qh [false,false] av:=jP F hm O.cl_Nodes (fS (by decide +kernel) (by decide +kernel)) aW rfl rfl (fun _ _ _ _ _ _ us hl=>by obtain ⟨_,_,_,rfl⟩:=L2.sI hl;rfl) fun _ _ _ _ _ _ _ hr =>
  (af (ar (sO hr (aY (w_fld gJ (dE O) (qv 0 rfl) rfl) (qv 1 rfl) (fun _ _=>rfl) rfl) (qv 2 rfl) (fun _ _=>rfl) rfl) aW.nd rfl Q3 rfl Q3)
  (af (ar (w_add (aY (w_fld gJ (eX O) (qv 0 rfl) rfl) (qv 1 rfl) (fun _ _=>rfl) rfl) ag) aW.nd rfl Q3 rfl Q3)
  (af (bY (jd hr (aY (w_fld gJ (eX O) (qv 0 rfl) rfl) (qv 3 rfl) (fun _ _=>rfl) rfl) (qv 4 rfl)) (aq (eP 3 rfl (Or.inl rfl) rfl rfl)) bC)
  (af (nQ (gP gJ aM.at hr (by decide) (bM 0 rfl (Or.inl rfl) rfl rfl) (ab (qv 4 rfl) (ab (aY (w_fld gJ (eW O) (qv 0 rfl) rfl) (qv 3 rfl) (fun _ _=>rfl) rfl) (ab (wV B.b_dict (ab (aY (w_fld gJ (dE O) (qv 0 rfl) rfl) (qv 3 rfl) (fun _ _=>rfl) rfl) ah rfl) rfl rfl) ah rfl) rfl) rfl) rfl rfl rfl) aW.nd rfl Q3 rfl Q3)
  (af (jr gJ hr (fg 2 (eW O) (bM 0 rfl (Or.inl rfl) rfl rfl) rfl) (qv 3 rfl) (qv 5 rfl) (fun _=>rfl) rfl rfl rfl)
  (af (iF Z5 (PVW.pvt (iE (kA (qv 1 rfl)) (jl (jd hr (w_get hr (aY (w_fld gJ (dE O) (qv 0 rfl) rfl) (qv 1 rfl) (fun _ _=>rfl) rfl) (qv 2 rfl) rfl rfl rfl rfl) (qv 3 rfl)))))
  (af (jr gJ hr (yZ hr (fg 3 (dE O) (bM 0 rfl (Or.inl rfl) rfl rfl) rfl) (qv 1 rfl) (fun _ _=>rfl) rfl) (qv 2 rfl) (qv 5 rfl) (fun _=>rfl) rfl rfl rfl)
  (aq (ar (aY (w_fld gJ (eW O) (qv 0 rfl) rfl) (qv 1 rfl) (fun _ _=>rfl) rfl) aW.nd rfl Q3 rfl Q3))))
  (aq (eP 5 rfl (Or.inl rfl) rfl rfl))))))))
noncomputable abbrev dc:Stmt:=inClass (top 17) 3
theorem b7:FnScope ["self", "head", "sign", "fresh", "node"] Qd (aj dc):=by constructor <;> first | rfl | decide +kernel
theorem bJ {f:Addr} {fd:FuncData} (F:Fun K "head_behind" "Nodes.head_behind" dc f fd) (hm:Meth K C "head_behind" f) (B:Blt mg) (O:ObF K mg C D) (aM:MtAt P w K mg base 1 (gX K C D) 0 "new_node" Qf [false,false,true] aI) (aR:MtAt P w K mg base 2 (gX K C D) 0 "node_just_behind" Qh [false,false] av) :
  MtAt P w K mg base 3 (gX K C D) 0 "head_behind" Qd [false,false] bH:=jP F hm O.cl_Nodes (fS (by decide +kernel) (by decide +kernel)) b7 rfl rfl (fun _ _ _ _ _ _ us hl=>by obtain ⟨_,_,_,rfl⟩:=L2.sI hl;rfl) fun _ _ _ _ _ _ _ hr =>
  (af (bY (BL hr (qv 2 rfl) (aY (w_fld gJ (dE O) (qv 0 rfl) rfl) (qv 1 rfl) (fun _ _=>rfl) rfl) (by with_unfolding_all rfl) rfl) (aq (ye (gP gJ aR.at hr (by decide) (bM 0 rfl (Or.inl rfl) rfl rfl) (ab (qv 1 rfl) (ab (qv 2 rfl) ah rfl) rfl) rfl rfl rfl))) bC)
  (af (nQ (gP gJ aM.at hr (by decide) (bM 0 rfl (Or.inl rfl) rfl rfl) (ab (w_add (aY (w_fld gJ (eX O) (qv 0 rfl) rfl) (qv 1 rfl) (fun _ _=>rfl) rfl) ag) (ab ag (ab pX ah rfl) rfl) rfl) rfl rfl rfl) b7.nd rfl Q3 rfl Q3)
  (af (ar (qv 1 rfl) b7.nd rfl Q3 rfl Q3)
  (af (iF Z5 (PVW.pvt (iE (kA (qv 4 rfl)) (jl (vd hr (qv 2 rfl) (aY (w_fld gJ (dE O) (qv 0 rfl) rfl) (qv 4 rfl) (fun _ _=>rfl) rfl) (by with_unfolding_all rfl) rfl))))
  (af (jr gJ hr (yZ hr (fg 3 (dE O) (bM 0 rfl (Or.inl rfl) rfl rfl) rfl) (qv 4 rfl) (fun _ _=>rfl) rfl) (qv 2 rfl) (qv 3 rfl) (fun _=>rfl) rfl rfl rfl)
  (aq (ar (aY (w_fld gJ (eW O) (qv 0 rfl) rfl) (qv 4 rfl) (fun _ _=>rfl) rfl) b7.nd rfl Q3 rfl Q3))))
  (af (bY (kA (qv 4 rfl)) (aq (qV gJ hr (fg 2 (eW O) (bM 0 rfl (Or.inl rfl) rfl rfl) rfl) (qv 3 rfl) (gP gJ aR.at hr (by decide) (bM 0 rfl (Or.inl rfl) rfl rfl) (ab (qv 4 rfl) (ab (qv 2 rfl) ah rfl) rfl) rfl rfl rfl) (fun _=>rfl) rfl rfl rfl)) bC)
  (aq (eP 3 rfl (Or.inl rfl) rfl rfl)))))))
noncomputable abbrev du:Stmt:=inClass (top 17) 2
theorem de:FnScope ["self", "head", "word", "sign"] Qe (aj du):=by constructor <;> first | rfl | decide +kernel
theorem bS {f:Addr} {fd:FuncData} (F:Fun K "head_grown" "Nodes.head_grown" du f fd) (hm:Meth K C "head_grown" f) (B:Blt mg) (O:ObF K mg C D) (bJ:MtAt P w K mg base 3 (gX K C D) 0 "head_behind" Qd [false,false] bH) :
  MtAt P w K mg base 4 (gX K C D) 0 "head_grown" Qe [false,false] aP:=jP F hm O.cl_Nodes (fS (by decide +kernel) (by decide +kernel)) de rfl rfl (fun _ _ _ _ _ _ us hl=>by obtain ⟨_,_,_,rfl⟩:=L2.sI hl;rfl) fun _ _ _ _ _ _ _ hr =>
  (af (c7 Z5 rfl (fA (qv 2 rfl) rfl) (aX 3 de.nd rfl Q3 Q3)
  (aq (nQ (gP gJ bJ.at hr (by decide) (bM 0 rfl (Or.inl rfl) rfl rfl) (ab (qv 1 rfl) (ab (qv 3 rfl) ah rfl) rfl) rfl rfl rfl) de.nd rfl Q3 rfl Q3)) (fun _=>rfl))
  (aq (eP 1 rfl (Or.inl rfl) rfl rfl)))
noncomputable abbrev cw:Stmt:=inClass (top 17) 6
theorem aK:FnScope ["self", "numbers", "met", "done", "ways", "sign"] Qj (aj cw):=by constructor <;> first | rfl | decide +kernel
theorem bj {m:Me} {f:Addr} {fd:FuncData} (F:Fun K "numbers_by_node" "Nodes.numbers_by_node" cw f fd) (hm:Meth K C "numbers_by_node" f) (B:Blt mg) (O:ObF K mg C D) :
  MpAt P w K mg base 1 ((gX K C D).at m) 0 "numbers_by_node" Qj aH:=ly F hm O.cl_Nodes (fS (by decide +kernel) (by decide +kernel)) aK rfl rfl (fun _ _ _ _ _ _ us hl=>by obtain ⟨_,rfl⟩:=L2.j0 hl;rfl) fun _ _ _ _ _ _ hr =>
  (af (gp Bp aK.nd rfl Q3 rfl Q3)
  (af (gp (dH (ab ag ah rfl)) aK.nd rfl Q3 rfl Q3)
  (af (ar ag aK.nd rfl Q3 rfl Q3)
  (af (iF Z5 (eK nG qN jg (qv 3 rfl) (cQ B.b_len (ab (qv 2 rfl) ah rfl) rfl rfl rfl) (fN _))
  (af (ar (aY (w_fld gJ (dE O) (qv 0 rfl) rfl) (aY (qv 2 rfl) (qv 3 rfl) (fun _ _=>rfl) rfl) (fun _ _=>rfl) rfl) aK.nd rfl Q3 rfl Q3)
  (af (c7 Z5 rfl (fA (rj B.b_sorted (ab (qv 4 rfl) ah rfl) rfl rfl rfl rfl) rfl) (aX 5 aK.nd rfl Q3 Q3)
  (aq (bY (vd hr (sO hr (qv 4 rfl) (qv 5 rfl) (fun _ _=>rfl) rfl) (qv 1 rfl) (by with_unfolding_all rfl) rfl) (af (uy 1 hr (sO hr (qv 4 rfl) (qv 5 rfl) (fun _ _=>rfl) rfl) (cQ B.b_len (ab (qv 2 rfl) ah rfl) rfl rfl rfl) rfl Q3 rfl rfl (fun _=>rfl) rfl rfl rfl)
  (aq (iu 2 (ab (sO hr (qv 4 rfl) (qv 5 rfl) (fun _ _=>rfl) rfl) ah rfl) rfl rfl Q3 rfl rfl rfl rfl rfl))) bC)) (fun _=>rfl))
  (aq (ar (w_add (qv 3 rfl) ag) aK.nd rfl Q3 rfl Q3)))))
  (kB 2 (aq (eP 1 rfl (Or.inl rfl) rfl rfl)))))))
noncomputable abbrev fF:Stmt:=inClass (top 17) 7
theorem dn:FnScope ["self", "node", "numbers", "link", "ways", "steps"] Qg (aj fF):=by constructor <;> first | rfl | decide +kernel
theorem cW {m:Me} {f:Addr} {fd:FuncData} (F:Fun K "row_of" "Nodes.row_of" fF f fd) (hm:Meth K C "row_of" f) (B:Blt mg) (O:ObF K mg C D) :
  MpAt P w K mg base 1 ((gX K C D).at m) 0 "row_of" Qg bU:=ly F hm O.cl_Nodes (fS (by decide +kernel) (by decide +kernel)) dn rfl rfl (fun _ _ _ _ _ _ us hl=>by obtain ⟨_,_,_,rfl⟩:=L2.sI hl;rfl) fun _ _ _ _ _ _ hr =>
  (af (ar (aY (w_fld gJ (eW O) (qv 0 rfl) rfl) (qv 1 rfl) (fun _ _=>rfl) rfl) dn.nd rfl Q3 rfl Q3)
  (af (ar (aY (w_fld gJ (dE O) (qv 0 rfl) rfl) (qv 1 rfl) (fun _ _=>rfl) rfl) dn.nd rfl (Or.inr rfl) rfl Q3)
  (af (ar (qy B.b_tuple (ab (iM 1 Qk rfl (fA (rj B.b_sorted (ab (ff 4 rfl (Or.inr Q3) rfl rfl) ah rfl) rfl rfl rfl rfl) rfl) (gR (by decide)) (fun _ _ _ _ _=>(aX 0 (show List.Nodup Qk from by decide +kernel) rfl Q3 (Or.inr rfl))) (fun _ _ _ _ _=>(kG (ab (qv 0 rfl) (ab (zc hr (ff 3 rfl (Or.inr Q3) rfl rfl) (sO hr (ff 5 rfl (Or.inr Q3) rfl rfl) (qv 0 rfl) (fun _ _=>rfl) rfl) (fun _ _=>rfl) rfl) ah rfl) rfl))) rfl rfl (by decide) (fun _=>rfl)) ah rfl) rfl rfl rfl) dn.nd rfl Q3 rfl Q3)
  (af (bY (zy (qv 3 rfl)) (aq (bq (kG (ab ag (ab ag (ab uH (ab (qv 5 rfl) ah rfl) rfl) rfl) rfl)))) bC)
  (aq (bq (kG (ab (w_add (aY (w_fld gJ (eX O) (qv 0 rfl) rfl) (qv 3 rfl) (fun _ _=>rfl) rfl) ag) (ab (aY (w_fld gJ (eX O) (qv 0 rfl) rfl) (qv 1 rfl) (fun _ _=>rfl) rfl) (ab (zc hr (ff 2 rfl (Or.inr Q3) rfl rfl) (qv 3 rfl) (fun _ _=>rfl) rfl) (ab (qv 5 rfl) ah rfl) rfl) rfl) rfl))))))))
noncomputable abbrev gv:Stmt:=inClass (top 17) 5
theorem iB:FnScope ["self", "numbers"] Qj (aj gv):=by constructor <;> first | rfl | decide +kernel
theorem di {m:Me} {f:Addr} {fd:FuncData} (F:Fun K "table" "Nodes.table" gv f fd) (hm:Meth K C "table" f) (B:Blt mg) (O:ObF K mg C D) (bj:∀ m,MpAt P w K mg base 1 ((gX K C D).at m) 0 "numbers_by_node" Qj aH) (cW:∀ m,MpAt P w K mg base 1 ((gX K C D).at m) 0 "row_of" Qg bU) :
  MpAt P w K mg base 2 ((gX K C D).at m) 0 "table" Qj dh:=ly F hm O.cl_Nodes (fS (by decide +kernel) (by decide +kernel)) iB rfl rfl (fun _ _ _ _ _ _ us hl=>by obtain ⟨_,rfl⟩:=L2.j0 hl;rfl) fun _ _ _ _ _ _ hr =>
  (af (gp (k9 (bj _) hr (by decide) (ff 0 rfl (Or.inr Q3) rfl rfl) rfl) iB.nd rfl (Or.inr rfl) rfl Q3)
  (aq (AR 1 ["node", "self", "numbers"] rfl rfl (Or.inr Q3) rfl rfl (gR (by decide)) (fun _ _ _ _ _=>(aX 0 (show List.Nodup (["node", "self", "numbers"]:List Str) from by decide +kernel) rfl Q3 (Or.inr rfl))) (fun _ _ _ _ _=>(wW (cW _) hr (by decide) (ff 1 rfl (Or.inr Q3) rfl rfl) (ab (qv 0 rfl) (ab (ff 2 rfl (Or.inr Q3) rfl rfl) ah rfl) rfl) rfl rfl rfl)) rfl rfl (by decide) (fun _=>rfl))))
noncomputable abbrev fj:Stmt:=inClass (top 19) 1
theorem jO:FnScope Qj Qj (aj fj):=by constructor <;> first | rfl | decide +kernel
theorem cL {f:Addr} {fd:FuncData} (F:Fun K "begin" "Machine.begin" fj f fd) (hm:Meth K D "begin" f) (B:Blt mg) (O:ObF K mg C D) :
  MtAt P w K mg base 1 (gX K C D) 1 "begin" Qj [] bx:=jP F hm O.cl_Machine (fS (by decide +kernel) (by decide +kernel)) jO rfl rfl (fun _ _ _ _ _ _ us hl=>by obtain ⟨_,rfl⟩:=L2.j0 hl;rfl) fun _ _ _ _ _ _ _ hr =>
  (af (bY (tJ (cQ B.b_len (ab (w_fld gJ (dG O) (qv 0 rfl) rfl) ah rfl) rfl rfl rfl) (qR B.c_MOST_TEXTS rfl rfl)) (aq ni) bC)
  (af (nI gJ (fg 4 (dG O) (bM 0 rfl (Or.inl rfl) rfl rfl) rfl) (ab (kP (by decide +kernel) (by decide)) ah rfl) rfl rfl rfl rfl rfl rfl rfl)
  (af (nI gJ (fg 5 (ju O) (bM 0 rfl (Or.inl rfl) rfl rfl) rfl) (ab ag ah rfl) rfl rfl rfl rfl rfl rfl rfl)
  (aq (bq (w_sub (cQ B.b_len (ab (w_fld gJ (dG O) (qv 0 rfl) rfl) ah rfl) rfl rfl rfl) ag))))))
noncomputable abbrev iY:Stmt:=top 8
theorem oJ:FnScope ["thing"] ["thing"] (aj iY):=by constructor <;> first | rfl | decide +kernel
theorem cX {m:Me} {f:Addr} {fd:FuncData} (F:Fun K "is_whole" "is_whole" iY f fd) (hm:mg "is_whole" = some (.ref f)) (B:Blt mg) (O:ObF K mg C D) :
  FnAt P w K mg base 1 "is_whole" ["thing"] ((gX K C D).at m) fG:=fM F hm oJ rfl rfl (fun _ _ _ _ _ _ us hl=>by obtain ⟨_,rfl⟩:=L2.j0 hl;rfl) fun _ _ _ _ _ _ hr =>
  (aq (bq (pT (w_is .int B.b_isinstance B.b_int (qv 0 rfl) rfl rfl rfl rfl) (pN (Am (w_is .bool B.b_isinstance B.b_bool (qv 0 rfl) rfl rfl rfl rfl))))))
noncomputable abbrev d9:Stmt:=top 9
theorem jk:FnScope Qc Qc (aj d9):=by constructor <;> first | rfl | decide +kernel
theorem cn {m:Me} {f:Addr} {fd:FuncData} (F:Fun K "refuse_no_text" "refuse_no_text" d9 f fd) (hm:mg "refuse_no_text" = some (.ref f)) (B:Blt mg) (O:ObF K mg C D) (cX:∀ m,FnAt P w K mg base 1 "is_whole" ["thing"] ((gX K C D).at m) fG) :
  FnAt P w K mg base 2 "refuse_no_text" Qc ((gX K C D).at m) bh:=fM F hm jk rfl rfl (fun _ _ _ _ _ _ us hl=>by obtain ⟨_,_,rfl⟩:=L2.dD hl;rfl) fun _ _ _ _ _ _ hr =>
  (aq (bY (PVW.pvt (tZ (kE (rA (aZ (cX _) hr (ab (qv 1 rfl) ah rfl) (by decide) rfl rfl rfl rfl) rfl (fun _=>rfl))) (vy (kE (hJ ag (qv 1 rfl) (cQ B.b_len (ab (qv 0 rfl) ah rfl) rfl rfl rfl) (by with_unfolding_all rfl)))))) (aq ni) bC))
noncomputable abbrev i3:Stmt:=top 10
theorem pB:FnScope ["book"] ["book"] (aj i3):=by constructor <;> first | rfl | decide +kernel
theorem fQ {m:Me} {f:Addr} {fd:FuncData} (F:Fun K "signs_in" "signs_in" i3 f fd) (hm:mg "signs_in" = some (.ref f)) (B:Blt mg) (O:ObF K mg C D) :
  FnAt P w K mg base 1 "signs_in" ["book"] ((gX K C D).at m) fL:=fM F hm pB rfl rfl (fun _ _ _ _ _ _ us hl=>by obtain ⟨_,rfl⟩:=L2.j0 hl;rfl) fun _ _ _ _ _ _ hr =>
  (aq (bq (w_sum B.b_sum (ab (iM 1 ["text", "book"] rfl (fA (qv 0 rfl) rfl) (gR (by decide)) (fun _ _ _ _ _=>(aX 0 (show List.Nodup (["text", "book"]:List Str) from by decide +kernel) rfl Q3 (Or.inr rfl))) (fun _ _ _ _ _=>(cQ B.b_len (ab (qv 0 rfl) ah rfl) rfl rfl rfl)) rfl rfl (by decide) (fun _=>rfl)) ah rfl) rfl rfl rfl rfl)))
noncomputable abbrev fK:Stmt:=inClass (top 19) 2
theorem ki:FnScope Qi Qi (aj fK):=by constructor <;> first | rfl | decide +kernel
theorem cT {f:Addr} {fd:FuncData} (F:Fun K "grow" "Machine.grow" fK f fd) (hm:Meth K D "grow" f) (B:Blt mg) (O:ObF K mg C D) (bS:MtAt P w K mg base 4 (gX K C D) 0 "head_grown" Qe [false,false] aP) (cn:∀ m,FnAt P w K mg base 2 "refuse_no_text" Qc ((gX K C D).at m) bh) (fQ:∀ m,FnAt P w K mg base 1 "signs_in" ["book"] ((gX K C D).at m) fL) :
  MtAt P w K mg base 5 (gX K C D) 1 "grow" Qi [false,false] bu:=jP F hm O.cl_Machine (fS (by decide +kernel) (by decide +kernel)) ki rfl rfl (fun _ _ _ _ _ _ us hl=>by obtain ⟨_,_,_,rfl⟩:=L2.sI hl;rfl) fun _ _ _ _ _ _ _ hr =>
  (af (vW (aZ (cn _) hr (ab (w_fld gJ (dG O) (qv 0 rfl) rfl) (ab (qv 1 rfl) ah rfl) rfl) (by decide) rfl rfl rfl rfl) rfl)
  (af (bY (pF (w_add (aZ (fQ _) hr (ab (w_fld gJ (dG O) (qv 0 rfl) rfl) ah rfl) (by decide) rfl rfl rfl rfl) (cQ B.b_len (ab (qv 2 rfl) ah rfl) rfl rfl rfl)) (qR B.c_MOST_SIGNS rfl rfl)) (aq ni) bC)
  (af (qV gJ hr (fg 5 (ju O) (bM 0 rfl (Or.inl rfl) rfl rfl) rfl) (qv 1 rfl) (gP gJ bS.at hr (by decide) (fg 6 (kK O) (bM 0 rfl (Or.inl rfl) rfl rfl) rfl) (ab (aY (w_fld gJ (ju O) (qv 0 rfl) rfl) (qv 1 rfl) (fun _ _=>rfl) rfl) (ab (qv 2 rfl) ah rfl) rfl) rfl rfl rfl) (fun _=>rfl) rfl rfl rfl)
  (aq (jr gJ hr (fg 4 (dG O) (bM 0 rfl (Or.inl rfl) rfl rfl) rfl) (qv 1 rfl) (w_add (aY (w_fld gJ (dG O) (qv 0 rfl) rfl) (qv 1 rfl) (fun _ _=>rfl) rfl) (qv 2 rfl)) (fun _=>rfl) rfl rfl rfl)))))
noncomputable abbrev bV:Stmt:=inClass (top 19) 0
theorem fq:FnScope ["self", "book", "text"] ["self", "book"] (aj bV):=by constructor <;> first | rfl | decide +kernel
theorem bP {f:Addr} {fd:FuncData} (F:FunD K "__init__" "Machine.__init__" bV f fd) (hm:Mk K D f) (B:Blt mg) (O:ObF K mg C D) (cL:MtAt P w K mg base 1 (gX K C D) 1 "begin" Qj [] bx) (cT:MtAt P w K mg base 5 (gX K C D) 1 "grow" Qi [false,false] bu) (cq:InAt P w K mg base 2 (gX K C D) 0 0 "Nodes" Qj c9) :
  InAt P w K mg base 6 (gX K C D) 1 1 "Machine" ["self", "book"] aT:=xH F hm O.mg_Machine fq rfl rfl (fun _ _ _ _ _ _ _ _ _ _ us X ho hs hl=>by obtain ⟨_,_,rfl⟩:=L2.dD hl;exact PySem.W.binds_K X rfl ho hs rfl rfl) fun _ _ _ _ _ _ _ hr =>
  (af (jX 0 4 gJ (dG O) (dH ah) rfl Q3 rfl rfl rfl)
  (af (jX 0 5 gJ (ju O) (dH ah) rfl Q3 rfl rfl rfl)
  (af (jX 0 6 gJ (kK O) (wD cq.at hr (by decide) rfl rfl) rfl Q3 rfl rfl rfl)
  (aq (bY (kA (qv 1 rfl)) (aq (c7 Z5 rfl (fA (qv 1 rfl) rfl) (aX 2 fq.nd rfl Q3 Q3)
  (aq (pb (Ae cT.at hr (by decide) rfl Q3 rfl rfl (wA gJ cL.at hr (by decide) (bM 0 rfl (Or.inl rfl) rfl rfl) rfl) (ab (qv 2 rfl) ah rfl) rfl rfl rfl) rfl)) (fun _=>rfl))) bC)))))
noncomputable abbrev fH:Stmt:=inClass (top 19) 3
theorem ku:FnScope Qj Qj (aj fH):=by constructor <;> first | rfl | decide +kernel
theorem h9 {m:Me} {f:Addr} {fd:FuncData} (F:Fun K "book" "Machine.book" fH f fd) (hm:Meth K D "book" f) (B:Blt mg) (O:ObF K mg C D) :
  MpAt P w K mg base 1 ((gX K C D).at m) 1 "book" Qj lI:=ly F hm O.cl_Machine (fS (by decide +kernel) (by decide +kernel)) ku rfl rfl (fun _ _ _ _ _ _ us hl=>by obtain ⟨_,rfl⟩:=L2.j0 hl;rfl) fun _ _ _ _ _ _ hr =>
  (aq (bq (rG B.b_list (ab (w_fld gJ (dG O) (qv 0 rfl) rfl) ah rfl) rfl rfl rfl rfl)))
noncomputable abbrev fo:Stmt:=inClass (top 19) 4
theorem jN:FnScope Qj Qj (aj fo):=by constructor <;> first | rfl | decide +kernel
theorem cM {m:Me} {f:Addr} {fd:FuncData} (F:Fun K "table" "Machine.table" fo f fd) (hm:Meth K D "table" f) (B:Blt mg) (O:ObF K mg C D) (di:∀ m,MpAt P w K mg base 2 ((gX K C D).at m) 0 "table" Qj dh) :
  MpAt P w K mg base 3 ((gX K C D).at m) 1 "table" Qj bZ:=ly F hm O.cl_Machine (fS (by decide +kernel) (by decide +kernel)) jN rfl rfl (fun _ _ _ _ _ _ us hl=>by obtain ⟨_,rfl⟩:=L2.j0 hl;rfl) fun _ _ _ _ _ _ hr =>
  (aq (bq (k9 (di _) hr (by decide) (w_fld gJ (kK O) (qv 0 rfl) rfl) rfl)))
noncomputable abbrev dR:Stmt:=top 14
theorem iX:FnScope Ql Ql (aj dR):=by constructor <;> first | rfl | decide +kernel
theorem b6 {m:Me} {f:Addr} {fd:FuncData} (F:Fun K "refuse_no_stand" "refuse_no_stand" dR f fd) (hm:mg "refuse_no_stand" = some (.ref f)) (B:Blt mg) (O:ObF K mg C D) (cX:∀ m,FnAt P w K mg base 1 "is_whole" ["thing"] ((gX K C D).at m) fG) :
  FnAt P w K mg base 2 "refuse_no_stand" Ql ((gX K C D).at m) bG:=fM F hm iX rfl rfl (fun _ _ _ _ _ _ us hl=>by obtain ⟨_,_,rfl⟩:=L2.dD hl;rfl) fun _ _ _ _ _ _ hr =>
  (aq (bY (PVW.pvt (tZ (kE (rA (aZ (cX _) hr (ab (qv 1 rfl) ah rfl) (by decide) rfl rfl rfl rfl) rfl (fun _=>rfl))) (vy (kE (hJ ag (qv 1 rfl) (cQ B.b_len (ab (qv 0 rfl) ah rfl) rfl rfl rfl) (by with_unfolding_all rfl)))))) (aq ni) bC))
noncomputable abbrev fO:Stmt:=top 15
theorem cK:FnScope ["table", "before", "number", "row", "way"] ["table"] (aj fO):=by constructor <;> first | rfl | decide +kernel
theorem cR {m:Me} {f:Addr} {fd:FuncData} (F:Fun K "steps_before" "steps_before" fO f fd) (hm:mg "steps_before" = some (.ref f)) (B:Blt mg) (O:ObF K mg C D) :
  FnAt P w K mg base 1 "steps_before" ["table"] ((gX K C D).at m) dJ:=fM F hm cK rfl rfl (fun _ _ _ _ _ _ us hl=>by obtain ⟨_,rfl⟩:=L2.j0 hl;rfl) fun _ _ _ _ _ _ hr =>
  (af (gp pX cK.nd rfl Q3 rfl Q3)
  (af (c7 Z5 rfl (oV (qv 0 rfl) rfl B.b_enumerate rfl rfl) (rL rfl (iO (aX 2 cK.nd rfl Q3 Q3) (iO (aX 3 cK.nd rfl Q3 Q3) oH rfl) rfl) rfl rfl rfl)
  (aq (c7 Z5 rfl (fA (aY (qv 3 rfl) ag (fun _ _=>rfl) rfl) rfl) (aX 4 cK.nd rfl Q3 Q3)
  (aq (bY (jd hr (aY (aY (qv 0 rfl) (aY (qv 4 rfl) ag (fun _ _=>rfl) rfl) (fun _ _=>rfl) rfl) ag (fun _ _=>rfl) rfl) (w_add (aY (qv 3 rfl) ag (fun _ _=>rfl) rfl) ag)) (aq (uy 1 hr (aY (qv 4 rfl) ag (fun _ _=>rfl) rfl) (kG (ab (qv 2 rfl) (ab (aY (qv 4 rfl) ag (fun _ _=>rfl) rfl) ah rfl) rfl)) rfl Q3 rfl rfl (fun _=>rfl) rfl rfl rfl)) bC)) (fun _=>rfl))) (fun _=>rfl))
  (aq (eP 1 rfl (Or.inl rfl) rfl rfl))))
noncomputable abbrev j3:Stmt:=top 12
theorem ed:FnScope ["table", "stand", "before", "word", "step"] Ql (aj j3):=by constructor <;> first | rfl | decide +kernel
theorem dB {m:Me} {f:Addr} {fd:FuncData} (F:Fun K "longest" "longest" j3 f fd) (hm:mg "longest" = some (.ref f)) (B:Blt mg) (O:ObF K mg C D) (b6:∀ m,FnAt P w K mg base 2 "refuse_no_stand" Ql ((gX K C D).at m) bG) (cR:∀ m,FnAt P w K mg base 1 "steps_before" ["table"] ((gX K C D).at m) dJ) :
  FnAt P w K mg base 3 "longest" Ql ((gX K C D).at m) fD:=fM F hm ed rfl rfl (fun _ _ _ _ _ _ us hl=>by obtain ⟨_,_,rfl⟩:=L2.dD hl;rfl) fun _ _ _ _ _ _ hr =>
  (af (vW (aZ (b6 _) hr (ab (qv 0 rfl) (ab (qv 1 rfl) ah rfl) rfl) (by decide) rfl rfl rfl rfl) rfl)
  (af (ar (aZ (cR _) hr (ab (qv 0 rfl) ah rfl) (by decide) rfl rfl rfl rfl) ed.nd rfl Q3 rfl Q3)
  (af (ar (kP (by decide +kernel) (by decide)) ed.nd rfl Q3 rfl Q3)
  (af (iF Z5 (eK (wc hr.units) zg n9 (qv 1 rfl) ag (fN _))
  (af (ar (sO hr (qv 2 rfl) (qv 1 rfl) (fun _ _=>rfl) rfl) ed.nd rfl Q3 rfl Q3)
  (af (ar (w_add (aY (qv 4 rfl) ag (fun _ _=>rfl) rfl) (qv 3 rfl)) ed.nd rfl Q3 rfl Q3)
  (aq (ar (aY (qv 4 rfl) ag (fun _ _=>rfl) rfl) ed.nd rfl Q3 rfl Q3)))))
  (aq (eP 3 rfl (Or.inl rfl) rfl rfl))))))
noncomputable abbrev m9:Stmt:=top 13
theorem oP:FnScope ["table", "stand", "word"] Ql (aj m9):=by constructor <;> first | rfl | decide +kernel
theorem jv {m:Me} {f:Addr} {fd:FuncData} (F:Fun K "words" "words" m9 f fd) (hm:mg "words" = some (.ref f)) (B:Blt mg) (O:ObF K mg C D) (dB:∀ m,FnAt P w K mg base 3 "longest" Ql ((gX K C D).at m) fD) :
  FnAt P w K mg base 4 "words" Ql ((gX K C D).at m) jD:=fM F hm oP rfl rfl (fun _ _ _ _ _ _ us hl=>by obtain ⟨_,_,rfl⟩:=L2.dD hl;rfl) fun _ _ _ _ _ _ hr =>
  (af (ar (aZ (dB _) hr (ab (qv 0 rfl) (ab (qv 1 rfl) ah rfl) rfl) (by decide) rfl rfl rfl rfl) oP.nd rfl (Or.inr rfl) rfl Q3)
  (aq (bq (iM 1 ["long", "table", "stand", "word"] rfl (lP (aY (aY (qv 0 rfl) (qv 1 rfl) (fun _ _=>rfl) rfl) ag (fun _ _=>rfl) rfl) (w_add (aY (aY (qv 0 rfl) (qv 1 rfl) (fun _ _=>rfl) rfl) ag (fun _ _=>rfl) rfl) ag) rfl B.b_range rfl rfl rfl rfl) (gR (by decide)) (fun _ _ _ _ _=>(aX 0 (show List.Nodup (["long", "table", "stand", "word"]:List Str) from by decide +kernel) rfl Q3 (Or.inr rfl))) (fun _ _ _ _ _=>(fU (ff 3 rfl (Or.inr Q3) rfl rfl) (dM (w_sub (cQ B.b_len (ab (ff 3 rfl (Or.inr Q3) rfl rfl) ah rfl) rfl rfl rfl) (qv 0 rfl))) iw rfl)) rfl rfl (by decide) (fun _=>rfl)))))
noncomputable abbrev iT:Stmt:=top 21
theorem oE:FnScope Q8 Q8 (aj iT):=by constructor <;> first | rfl | decide +kernel
theorem d7 {m:Me} {f:Addr} {fd:FuncData} (F:Fun K "_law_cell" "_law_cell" iT f fd) (hm:mg "_law_cell" = some (.ref f)) (B:Blt mg) (O:ObF K mg C D) :
  FnAt P w K mg base 1 "_law_cell" Q8 ((gX K C D).at m) d2:=fM F hm oE rfl rfl (fun _ _ _ _ _ _ us hl=>by obtain ⟨_,_,rfl⟩:=L2.dD hl;rfl) fun _ _ _ _ _ _ hr =>
  (af (bY (eK nG qN jg (qv 1 rfl) (cQ B.b_len (ab (qv 0 rfl) ah rfl) rfl rfl rfl) (fN _)) (aq (bq (aY (qv 0 rfl) (qv 1 rfl) (fun _ _=>rfl) rfl))) bC)
  (aq (bq ag)))
noncomputable abbrev iA:Stmt:=top 22
theorem cY:FnScope ["_law_script", "_law_k", "_law_cell_here", "_law_number"] Q8 (aj iA):=by constructor <;> first | rfl | decide +kernel
theorem aE {m:Me} {f:Addr} {fd:FuncData} (F:Fun K "_law_mixed" "_law_mixed" iA f fd) (hm:mg "_law_mixed" = some (.ref f)) (B:Blt mg) (O:ObF K mg C D) :
  FnAt P w K mg base 1 "_law_mixed" Q8 ((gX K C D).at m) au:=fM F hm cY rfl rfl (fun _ _ _ _ _ _ us hl=>by obtain ⟨_,_,rfl⟩:=L2.dD hl;rfl) fun _ _ _ _ _ _ hr =>
  (af (ar ag cY.nd rfl Q3 rfl Q3)
  (af (bY (pF (cQ B.b_len (ab (qv 0 rfl) ah rfl) rfl rfl rfl) ag) (aq (ar (aY (qv 0 rfl) (w_mod (qv 1 rfl) (cQ B.b_len (ab (qv 0 rfl) ah rfl) rfl rfl rfl)) (fun _ _=>rfl) rfl) cY.nd rfl Q3 rfl Q3)) bC)
  (af (ar (w_mod (w_mul (w_add (w_add (w_mod (qv 2 rfl) ag) (w_mul ag (qv 1 rfl))) ag) ag) ag) cY.nd rfl Q3 rfl Q3)
  (af (ar (w_mod (w_mul (qv 3 rfl) (qv 3 rfl)) ag) cY.nd rfl Q3 rfl Q3)
  (af (ar (w_mod (w_mul (w_add (qv 3 rfl) (qv 1 rfl)) ag) ag) cY.nd rfl Q3 rfl Q3)
  (aq (bq (gO (w_mod (w_mul (qv 3 rfl) (qv 3 rfl)) ag) ag))))))))
noncomputable abbrev ij:Stmt:=top 23
theorem gT:FnScope ["_law_cell_here", "_law_start", "_law_step"] Q5 (aj ij):=by constructor <;> first | rfl | decide +kernel
theorem bE {m:Me} {f:Addr} {fd:FuncData} (F:Fun K "_law_signs" "_law_signs" ij f fd) (hm:mg "_law_signs" = some (.ref f)) (B:Blt mg) (O:ObF K mg C D) :
  FnAt P w K mg base 1 "_law_signs" Q5 ((gX K C D).at m) bO:=fM F hm gT rfl rfl (fun _ _ _ _ _ _ us hl=>by obtain ⟨_,rfl⟩:=L2.j0 hl;rfl) fun _ _ _ _ _ _ hr =>
  (af (ar (w_mod (qv 0 rfl) ag) gT.nd rfl (Or.inr rfl) rfl Q3)
  (af (ar (aY (dH (ab ag (ab ag (ab ag (ab ag (ab ag ah rfl) rfl) rfl) rfl) rfl)) (w_mod (gO (qv 0 rfl) ag) ag) (fun _ _=>rfl) rfl) gT.nd rfl (Or.inr rfl) rfl Q3)
  (aq (bq (iM 1 Q6 rfl (d3 ag rfl B.b_range rfl rfl) (gR (by decide)) (fun _ _ _ _ _=>(aX 0 (show List.Nodup Q6 from by decide +kernel) rfl Q3 (Or.inr rfl))) (fun _ _ _ _ _=>(aY (kP (by decide +kernel) (by decide)) (w_mod (w_add (ff 2 rfl (Or.inr Q3) rfl rfl) (w_mul (ff 3 rfl (Or.inr Q3) rfl rfl) (qv 0 rfl))) ag) (fun _ _=>rfl) rfl)) rfl rfl (by decide) (fun _=>rfl))))))
noncomputable abbrev fi:Stmt:=top 24
theorem ax:FnScope ["_law_cell_here", "_law_signs_here", "_law_some", "_law_many", "_law_room", "_law_book_here", "_law_k", "_law_size", "_law_text", "_law_j"] Q5 (aj fi):=by constructor <;> first | rfl | decide +kernel
theorem cN {m:Me} {f:Addr} {fd:FuncData} (F:Fun K "_law_by_digits" "_law_by_digits" fi f fd) (hm:mg "_law_by_digits" = some (.ref f)) (B:Blt mg) (O:ObF K mg C D) (bE:∀ m,FnAt P w K mg base 1 "_law_signs" Q5 ((gX K C D).at m) bO) :
  FnAt P w K mg base 2 "_law_by_digits" Q5 ((gX K C D).at m) cF:=fM F hm ax rfl rfl (fun _ _ _ _ _ _ us hl=>by obtain ⟨_,rfl⟩:=L2.j0 hl;rfl) fun _ _ _ _ _ _ hr =>
  (af (ar (aZ (bE _) hr (ab (qv 0 rfl) ah rfl) (by decide) rfl rfl rfl rfl) ax.nd rfl Q3 rfl Q3)
  (af (ar (aY (dH (ab ag (ab ag (ab ag (ab ag (ab ag (ab ag (ab ag (ab ag ah rfl) rfl) rfl) rfl) rfl) rfl) rfl) rfl)) (w_mod (gO (qv 0 rfl) ag) ag) (fun _ _=>rfl) rfl) ax.nd rfl Q3 rfl Q3)
  (af (ar (w_mod (gO (qv 0 rfl) ag) ag) ax.nd rfl Q3 rfl Q3)
  (af (ar (gO (qv 0 rfl) ag) ax.nd rfl Q3 rfl Q3)
  (af (ar ag ax.nd rfl Q3 rfl Q3)
  (af (gp (dH ah) ax.nd rfl Q3 rfl Q3)
  (af (c7 Z5 rfl (d3 (qv 3 rfl) rfl B.b_range rfl rfl) (aX 6 ax.nd rfl Q3 Q3)
  (af (ar (t5 B.b_min (ab (qv 4 rfl) (ab (w_mod (qv 0 rfl) ag) ah rfl) rfl) rfl rfl rfl rfl) ax.nd rfl Q3 rfl Q3)
  (af (ar (gO (qv 0 rfl) ag) ax.nd rfl Q3 rfl Q3)
  (af (ar (w_sub (qv 4 rfl) (qv 7 rfl)) ax.nd rfl Q3 rfl Q3)
  (af (ar (kP (by decide +kernel) (by decide)) ax.nd rfl Q3 rfl Q3)
  (af (c7 Z5 rfl (d3 (qv 7 rfl) rfl B.b_range rfl rfl) (aX 9 ax.nd rfl Q3 Q3)
  (af (ar (w_add (qv 8 rfl) (aY (qv 1 rfl) (w_mod (qv 0 rfl) (qv 2 rfl)) (fun _ _=>rfl) rfl)) ax.nd rfl Q3 rfl Q3)
  (aq (ar (gO (qv 0 rfl) (qv 2 rfl)) ax.nd rfl Q3 rfl Q3))) (fun _=>rfl))
  (aq (iu 5 (ab (qv 8 rfl) ah rfl) rfl rfl Q3 rfl rfl rfl rfl rfl))))))) (fun _=>rfl))
  (aq (eP 5 rfl (Or.inl rfl) rfl rfl)))))))))
noncomputable abbrev eY:Stmt:=top 25
theorem ay:FnScope ["_law_script", "_law_most", "_law_signs_here", "_law_some", "_law_room", "_law_book_here", "_law_k", "_law_size", "_law_back", "_law_text", "_law_j", "_law_number"] Q9 (aj eY):=by constructor <;> first | rfl | decide +kernel
theorem cH {m:Me} {f:Addr} {fd:FuncData} (F:Fun K "_law_by_mixing" "_law_by_mixing" eY f fd) (hm:mg "_law_by_mixing" = some (.ref f)) (B:Blt mg) (O:ObF K mg C D) (aE:∀ m,FnAt P w K mg base 1 "_law_mixed" Q8 ((gX K C D).at m) au) (bE:∀ m,FnAt P w K mg base 1 "_law_signs" Q5 ((gX K C D).at m) bO) :
  FnAt P w K mg base 2 "_law_by_mixing" Q9 ((gX K C D).at m) cG:=fM F hm ay rfl rfl (fun _ _ _ _ _ _ us hl=>by obtain ⟨_,_,rfl⟩:=L2.dD hl;rfl) fun _ _ _ _ _ _ hr =>
  (af (ar (aZ (bE _) hr (ab (aZ (aE _) hr (ab (qv 0 rfl) (ab ag ah rfl) rfl) (by decide) rfl rfl rfl rfl) ah rfl) (by decide) rfl rfl rfl rfl) ay.nd rfl Q3 rfl Q3)
  (af (ar (aY (dH (ab ag (ab ag (ab ag (ab ag (ab ag (ab ag (ab ag (ab ag ah rfl) rfl) rfl) rfl) rfl) rfl) rfl) rfl)) (w_mod (aZ (aE _) hr (ab (qv 0 rfl) (ab ag ah rfl) rfl) (by decide) rfl rfl rfl rfl) ag) (fun _ _=>rfl) rfl) ay.nd rfl Q3 rfl Q3)
  (af (ar (qv 1 rfl) ay.nd rfl Q3 rfl Q3)
  (af (gp (dH ah) ay.nd rfl Q3 rfl Q3)
  (af (c7 Z5 rfl (d3 (w_mod (aZ (aE _) hr (ab (qv 0 rfl) (ab ag ah rfl) rfl) (by decide) rfl rfl rfl rfl) ag) rfl B.b_range rfl rfl) (aX 6 ay.nd rfl Q3 Q3)
  (af (ar (t5 B.b_min (ab (qv 4 rfl) (ab (w_mod (aZ (aE _) hr (ab (qv 0 rfl) (ab (w_add (w_mul ag (qv 6 rfl)) ag) ah rfl) rfl) (by decide) rfl rfl rfl rfl) (w_add (qv 1 rfl) ag)) ah rfl) rfl) rfl rfl rfl rfl) ay.nd rfl Q3 rfl Q3)
  (af (ar (w_sub (qv 4 rfl) (qv 7 rfl)) ay.nd rfl Q3 rfl Q3)
  (af (ar (w_add ag (w_mod (aZ (aE _) hr (ab (qv 0 rfl) (ab (w_add (w_mul ag (qv 6 rfl)) ag) ah rfl) rfl) (by decide) rfl rfl rfl rfl) ag)) ay.nd rfl Q3 rfl Q3)
  (af (ar (kP (by decide +kernel) (by decide)) ay.nd rfl Q3 rfl Q3)
  (af (c7 Z5 rfl (d3 (qv 7 rfl) rfl B.b_range rfl rfl) (aX 10 ay.nd rfl Q3 Q3)
  (af (ar (aZ (aE _) hr (ab (qv 0 rfl) (ab (w_add (w_add (w_mul ag (qv 6 rfl)) ag) (qv 10 rfl)) ah rfl) rfl) (by decide) rfl rfl rfl rfl) ay.nd rfl Q3 rfl Q3)
  (aq (bY (PVW.pvt (iE (tJ (cQ B.b_len (ab (qv 9 rfl) ah rfl) rfl rfl rfl) (qv 8 rfl)) (jl (pF (w_mod (qv 11 rfl) ag) ag)))) (aq (ar (w_add (qv 9 rfl) (aY (qv 9 rfl) (w_sub (cQ B.b_len (ab (qv 9 rfl) ah rfl) rfl rfl rfl) (qv 8 rfl)) (fun _ _=>rfl) rfl)) ay.nd rfl Q3 rfl Q3)) (aq (ar (w_add (qv 9 rfl) (aY (qv 2 rfl) (w_mod (gO (qv 11 rfl) ag) (qv 3 rfl)) (fun _ _=>rfl) rfl)) ay.nd rfl Q3 rfl Q3))))) (fun _=>rfl))
  (af (iu 5 (ab (qv 9 rfl) ah rfl) rfl rfl Q3 rfl rfl rfl rfl rfl)
  (aq (bY (PVW.pvt (iE (pF (qv 7 rfl) ag) (iE (jd hr (w_mod (aZ (aE _) hr (ab (qv 0 rfl) (ab (w_add (w_mul ag (qv 6 rfl)) ag) ah rfl) rfl) (by decide) rfl rfl rfl rfl) ag) ag) (jl (tJ (qv 4 rfl) ag))))) (af (iu 5 (ab (fU (qv 9 rfl) (dM ag) (dM ag) rfl) ah rfl) rfl rfl Q3 rfl rfl rfl rfl rfl)
  (aq (ar (w_sub (qv 4 rfl) ag) ay.nd rfl Q3 rfl Q3))) bC)))))))) (fun _=>rfl))
  (kB 5 (aq (bq (fU (qv 5 rfl) iw (dM ag) rfl)))))))))
noncomputable abbrev ik:Stmt:=top 26
theorem dS:FnScope ["_law_script", "_law_signs_here", "_law_text", "_law_at"] Qa (aj ik):=by constructor <;> first | rfl | decide +kernel
theorem eQ {m:Me} {f:Addr} {fd:FuncData} (F:Fun K "_law_great" "_law_great" ik f fd) (hm:mg "_law_great" = some (.ref f)) (B:Blt mg) (O:ObF K mg C D) (aE:∀ m,FnAt P w K mg base 1 "_law_mixed" Q8 ((gX K C D).at m) au) (bE:∀ m,FnAt P w K mg base 1 "_law_signs" Q5 ((gX K C D).at m) bO) :
  FnAt P w K mg base 2 "_law_great" Qa ((gX K C D).at m) dy:=fM F hm dS rfl rfl (fun _ _ _ _ _ _ us hl=>by obtain ⟨_,rfl⟩:=L2.j0 hl;rfl) fun _ _ _ _ _ _ hr =>
  (af (ar (aZ (bE _) hr (ab (aZ (aE _) hr (ab (qv 0 rfl) (ab ag ah rfl) rfl) (by decide) rfl rfl rfl rfl) ah rfl) (by decide) rfl rfl rfl rfl) dS.nd rfl Q3 rfl Q3)
  (af (ar (l6 wM xN (aY (qv 1 rfl) ag (fun _ _=>rfl) rfl) (w_add ag (w_mod (aZ (aE _) hr (ab (qv 0 rfl) (ab ag ah rfl) rfl) (by decide) rfl rfl rfl rfl) ag))) dS.nd rfl Q3 rfl Q3)
  (af (bY (jd hr (w_mod (aZ (aE _) hr (ab (qv 0 rfl) (ab ag ah rfl) rfl) (by decide) rfl rfl rfl rfl) ag) ag) (af (ar (w_mod (aZ (aE _) hr (ab (qv 0 rfl) (ab ag ah rfl) rfl) (by decide) rfl rfl rfl rfl) (cQ B.b_len (ab (qv 2 rfl) ah rfl) rfl rfl rfl)) dS.nd rfl Q3 rfl Q3)
  (aq (ar (w_add (w_add (fU (qv 2 rfl) iw (dM (qv 3 rfl)) rfl) (aY (qv 1 rfl) ag (fun _ _=>rfl) rfl)) (fU (qv 2 rfl) (dM (w_add (qv 3 rfl) ag)) iw rfl)) dS.nd rfl Q3 rfl Q3))) bC)
  (aq (bq (dH (ab (qv 2 rfl) ah rfl)))))))
noncomputable abbrev iW:Stmt:=top 27
theorem oX:FnScope Q9 Q9 (aj iW):=by constructor <;> first | rfl | decide +kernel
theorem fI {m:Me} {f:Addr} {fd:FuncData} (F:Fun K "_law_book" "_law_book" iW f fd) (hm:mg "_law_book" = some (.ref f)) (B:Blt mg) (O:ObF K mg C D) (cN:∀ m,FnAt P w K mg base 2 "_law_by_digits" Q5 ((gX K C D).at m) cF) (cH:∀ m,FnAt P w K mg base 2 "_law_by_mixing" Q9 ((gX K C D).at m) cG) (d7:∀ m,FnAt P w K mg base 1 "_law_cell" Q8 ((gX K C D).at m) d2) (eQ:∀ m,FnAt P w K mg base 2 "_law_great" Qa ((gX K C D).at m) dy) (aE:∀ m,FnAt P w K mg base 1 "_law_mixed" Q8 ((gX K C D).at m) au) :
  FnAt P w K mg base 3 "_law_book" Q9 ((gX K C D).at m) fY:=fM F hm oX rfl rfl (fun _ _ _ _ _ _ us hl=>by obtain ⟨_,_,rfl⟩:=L2.dD hl;rfl) fun _ _ _ _ _ _ hr =>
  (af (bY (jd hr (w_mod (aZ (d7 _) hr (ab (qv 0 rfl) (ab ag ah rfl) rfl) (by decide) rfl rfl rfl rfl) ag) ag) (aq (bq (aZ (cN _) hr (ab (gO (aZ (d7 _) hr (ab (qv 0 rfl) (ab ag ah rfl) rfl) (by decide) rfl rfl rfl rfl) ag) ah rfl) (by decide) rfl rfl rfl rfl))) bC)
  (af (bY (PVW.pvt (iE (pF (qv 1 rfl) ag) (jl (jd hr (w_mod (aZ (aE _) hr (ab (qv 0 rfl) (ab ag ah rfl) rfl) (by decide) rfl rfl rfl rfl) ag) ag)))) (aq (bq (aZ (eQ _) hr (ab (qv 0 rfl) ah rfl) (by decide) rfl rfl rfl rfl))) bC)
  (aq (bq (aZ (cH _) hr (ab (qv 0 rfl) (ab (aY (dH (ab ag (ab ag (ab ag (ab (qv 1 rfl) ah rfl) rfl) rfl) rfl)) (w_mod (aZ (aE _) hr (ab (qv 0 rfl) (ab ag ah rfl) rfl) (by decide) rfl rfl rfl rfl) ag) (fun _ _=>rfl) rfl) ah rfl) rfl) (by decide) rfl rfl rfl rfl)))))
noncomputable abbrev iD:Stmt:=top 28
theorem dW:FnScope ["_law_book_here", "_law_word", "_law_found", "_law_number", "_law_text", "_law_end"] Q4 (aj iD):=by constructor <;> first | rfl | decide +kernel
theorem dA {m:Me} {f:Addr} {fd:FuncData} (F:Fun K "_law_rests" "_law_rests" iD f fd) (hm:mg "_law_rests" = some (.ref f)) (B:Blt mg) (O:ObF K mg C D) :
  FnAt P w K mg base 1 "_law_rests" Q4 ((gX K C D).at m) eR:=fM F hm dW rfl rfl (fun _ _ _ _ _ _ us hl=>by obtain ⟨_,_,rfl⟩:=L2.dD hl;rfl) fun _ _ _ _ _ _ hr =>
  (af (gp (dH ah) dW.nd rfl Q3 rfl Q3)
  (af (c7 Z5 rfl (oV (qv 0 rfl) rfl B.b_enumerate rfl rfl) (rL rfl (iO (aX 3 dW.nd rfl Q3 Q3) (iO (aX 4 dW.nd rfl Q3 Q3) oH rfl) rfl) rfl rfl rfl)
  (aq (c7 Z5 rfl (lP (cQ B.b_len (ab (qv 1 rfl) ah rfl) rfl rfl rfl) (w_add (cQ B.b_len (ab (qv 4 rfl) ah rfl) rfl rfl rfl) ag) rfl B.b_range rfl rfl rfl rfl) (aX 5 dW.nd rfl Q3 Q3)
  (aq (bY (jd hr (fU (qv 4 rfl) (dM (w_sub (qv 5 rfl) (cQ B.b_len (ab (qv 1 rfl) ah rfl) rfl rfl rfl))) (dM (qv 5 rfl)) rfl) (qv 1 rfl)) (aq (iu 2 (ab (kG (ab (qv 3 rfl) (ab (fU (qv 4 rfl) (dM (qv 5 rfl)) iw rfl) ah rfl) rfl)) ah rfl) rfl rfl Q3 rfl rfl rfl rfl rfl)) bC)) (fun _=>rfl))) (fun _=>rfl))
  (kB 2 (aq (bq (qy B.b_tuple (ab (qv 2 rfl) ah rfl) rfl rfl rfl))))))
noncomputable abbrev jE:Stmt:=top 29
theorem g0:FnScope ["_law_script", "_law_book_here", "_law_table", "_law_signs_here", "_law_met", "_law_k", "_law_some", "_law_word", "_law_ways"] Qa (aj jE):=by constructor <;> first | rfl | decide +kernel
theorem AI {m:Me} {f:Addr} {fd:FuncData} (F:Fun K "law" "law" jE f fd) (B:Blt mg) (O:ObF K mg C D) (bP:InAt P w K mg base 6 (gX K C D) 1 1 "Machine" ["self", "book"] aT) (cM:∀ m,MpAt P w K mg base 3 ((gX K C D).at m) 1 "table" Qj bZ) (fI:∀ m,FnAt P w K mg base 3 "_law_book" Q9 ((gX K C D).at m) fY) (dA:∀ m,FnAt P w K mg base 1 "_law_rests" Q4 ((gX K C D).at m) eR) (dB:∀ m,FnAt P w K mg base 3 "longest" Ql ((gX K C D).at m) fD) (jv:∀ m,FnAt P w K mg base 4 "words" Ql ((gX K C D).at m) jD) :
  FnOk P w K mg base CX0 8 f fd Qa (spF ((gX K C D).at m) vA):=fnV F g0 rfl rfl fun _ _ _ _ _ _ hr =>
  (af (ar (aZ (fI _) hr (ab (qv 0 rfl) (ab ag ah rfl) rfl) (by decide) rfl rfl rfl rfl) g0.nd rfl Q3 rfl Q3)
  (af (ar (k9 (cM _) hr (by decide) (A4 bP.at hr (by decide) (ab (rG B.b_list (ab (qv 1 rfl) ah rfl) rfl rfl rfl rfl) ah rfl) Cy rfl rfl rfl rfl) rfl) g0.nd rfl Q3 rfl Q3)
  (af (ar (w_sum B.b_sum (ab (iM 1 Qb rfl (fA (qv 1 rfl) rfl) (gR (by decide)) (fun _ _ _ _ _=>(aX 0 (show List.Nodup Qb from by decide +kernel) rfl Q3 (Or.inr rfl))) (fun _ _ _ _ _=>(cQ B.b_len (ab (qv 0 rfl) ah rfl) rfl rfl rfl)) rfl rfl (by decide) (fun _=>rfl)) ah rfl) rfl rfl rfl rfl) g0.nd rfl Q3 rfl Q3)
  (af (gp xk g0.nd rfl Q3 rfl Q3)
  (af (c7 Z5 rfl (d3 (cQ B.b_len (ab (qv 2 rfl) ah rfl) rfl rfl rfl) rfl B.b_range rfl rfl) (aX 5 g0.nd rfl Q3 Q3)
  (af (ar (aZ (dA _) hr (ab (qv 1 rfl) (ab (aZ (dB _) hr (ab (qv 2 rfl) (ab (qv 5 rfl) ah rfl) rfl) (by decide) rfl rfl rfl rfl) ah rfl) rfl) (by decide) rfl rfl rfl rfl) g0.nd rfl Q3 rfl Q3)
  (af (bY (Bo hr (qv 6 rfl) (qv 4 rfl) (by with_unfolding_all rfl)) (aq (bq zm)) bC)
  (af (Ad 4 hr (qv 6 rfl) (qv 5 rfl) rfl Q3 rfl rfl (fun _=>rfl) rfl rfl rfl)
  (aq (c7 Z5 rfl (fA (aZ (jv _) hr (ab (qv 2 rfl) (ab (qv 5 rfl) ah rfl) rfl) (by decide) rfl rfl rfl rfl) rfl) (aX 7 g0.nd rfl Q3 Q3)
  (aq (bY (eK (wc hr.units) zg n9 (aZ (dA _) hr (ab (qv 1 rfl) (ab (qv 7 rfl) ah rfl) rfl) (by decide) rfl rfl rfl rfl) (qv 6 rfl) (fN _)) (aq (bq zm)) bC)) (fun _=>rfl)))))) (fun _=>rfl))
  (kB 4 (af (ar (w_sum B.b_sum (ab (iM 1 Q7 rfl (fA (qv 2 rfl) rfl) (gR (by decide)) (fun _ _ _ _ _=>(aX 0 (show List.Nodup Q7 from by decide +kernel) rfl Q3 (Or.inr rfl))) (fun _ _ _ _ _=>(cQ B.b_len (ab (aY (qv 0 rfl) ag (fun _ _=>rfl) rfl) ah rfl) rfl rfl rfl)) rfl rfl (by decide) (fun _=>rfl)) ah rfl) rfl rfl rfl rfl) g0.nd rfl Q3 rfl Q3)
  (af (bY (jd hr (qv 3 rfl) ag) (aq (bq (pT (mZ (pQ hr.units) v9 (cQ B.b_len (ab (qv 2 rfl) ah rfl) rfl rfl rfl) ag (fN _)) (pN (mZ (pQ hr.units) v9 (qv 8 rfl) ag (fN _)))))) bC)
  (aq (bq (pT (mZ tP y0 (cQ B.b_len (ab (qv 2 rfl) ah rfl) rfl rfl rfl) (w_mul ag (qv 3 rfl)) (fN _)) (pN (mZ nG qN (qv 8 rfl) (w_mul ag (qv 3 rfl)) (fN _))))))))))))))
end
noncomputable abbrev gN (K:Xd) (x:Str) (f:Addr):Prop:=PySem.W.nsIn K mainGlobals x=some (some (.ref f))
noncomputable abbrev gZ (K:Xd) (x:Str):Prop:=PySem.W.nsIn K mainGlobals x=some none
theorem all_mk {l:PySem.W.OpenLaw} {w:World} {K:Xd} {h:Heap} {mg:Wx} {fa C D f0 f1 f2 f3 f4 f5 f6 f7 f8 f9 f10 f11 f12 f13 f14 f15 f16 f17 f18 f19 f20 f21 f22 f23 f24 f25 f26 f27 f28:Addr} (X:K.In h) (G:h.Ns mainGlobals mg) (hfa:mg "law" = some (.ref fa))
  {od13 an13 od28 an28:Option Addr} {sl13 sl28:Array (Wj)} {oc13 kV13 dc13 pm13 cd13 ct13 oc28 kV28 dc28 pm28 cd28 ct28:Value}
  (hlaw:∀ ns:Wh,vA [.scr ns]=some (.fr,.bl true))
  (a0:Meth K C "new_node" f0) {fd0:FuncData} (F0:Fun K "new_node" "Nodes.new_node" eG f0 fd0)
  (a1:Mk K C f1) {fd1:FuncData} (F1:Fun K "__init__" "Nodes.__init__" d4 f1 fd1)
  (a2:Meth K C "node_just_behind" f2) {fd2:FuncData} (F2:Fun K "node_just_behind" "Nodes.node_just_behind" cf f2 fd2)
  (a3:Meth K C "head_behind" f3) {fd3:FuncData} (F3:Fun K "head_behind" "Nodes.head_behind" dc f3 fd3)
  (a4:Meth K C "head_grown" f4) {fd4:FuncData} (F4:Fun K "head_grown" "Nodes.head_grown" du f4 fd4)
  (a5:Meth K C "numbers_by_node" f5) {fd5:FuncData} (F5:Fun K "numbers_by_node" "Nodes.numbers_by_node" cw f5 fd5)
  (a6:Meth K C "row_of" f6) {fd6:FuncData} (F6:Fun K "row_of" "Nodes.row_of" fF f6 fd6)
  (a7:Meth K C "table" f7) {fd7:FuncData} (F7:Fun K "table" "Nodes.table" gv f7 fd7)
  (a8:Meth K D "begin" f8) {fd8:FuncData} (F8:Fun K "begin" "Machine.begin" fj f8 fd8)
  (a9:gN K "is_whole" f9) {fd9:FuncData} (F9:Fun K "is_whole" "is_whole" iY f9 fd9)
  (a10:gN K "refuse_no_text" f10) {fd10:FuncData} (F10:Fun K "refuse_no_text" "refuse_no_text" d9 f10 fd10)
  (a11:gN K "signs_in" f11) {fd11:FuncData} (F11:Fun K "signs_in" "signs_in" i3 f11 fd11)
  (a12:Meth K D "grow" f12) {fd12:FuncData} (F12:Fun K "grow" "Machine.grow" fK f12 fd12)
  {T13:Addr} {ob13:Obj} {nn13:Nat}
  (a13:Mk K D f13) (l13:K.lookup f13=some ⟨oc13,od13,.func (PySem.W.fnOf "__init__" "Machine.__init__" (cP bV) (bf bV) (aj bV) (.ref T13) kV13 dc13 pm13 an13 cd13 ct13),sl13⟩) (c13:PySem.W.codeIn K cd13 "Machine.__init__" = true) (k13:PySem.W.keepIn K (.ref f13)=true) (t13:K.lookup T13=some ob13) (u13:ob13.data=.seq #[.none] nn13)
  (a14:Meth K D "book" f14) {fd14:FuncData} (F14:Fun K "book" "Machine.book" fH f14 fd14)
  (a15:Meth K D "table" f15) {fd15:FuncData} (F15:Fun K "table" "Machine.table" fo f15 fd15)
  (a16:gN K "refuse_no_stand" f16) {fd16:FuncData} (F16:Fun K "refuse_no_stand" "refuse_no_stand" dR f16 fd16)
  (a17:gN K "steps_before" f17) {fd17:FuncData} (F17:Fun K "steps_before" "steps_before" fO f17 fd17)
  (a18:gN K "longest" f18) {fd18:FuncData} (F18:Fun K "longest" "longest" j3 f18 fd18)
  (a19:gN K "words" f19) {fd19:FuncData} (F19:Fun K "words" "words" m9 f19 fd19)
  (a20:gN K "_law_cell" f20) {fd20:FuncData} (F20:Fun K "_law_cell" "_law_cell" iT f20 fd20)
  (a21:gN K "_law_mixed" f21) {fd21:FuncData} (F21:Fun K "_law_mixed" "_law_mixed" iA f21 fd21)
  (a22:gN K "_law_signs" f22) {fd22:FuncData} (F22:Fun K "_law_signs" "_law_signs" ij f22 fd22)
  (a23:gN K "_law_by_digits" f23) {fd23:FuncData} (F23:Fun K "_law_by_digits" "_law_by_digits" fi f23 fd23)
  (a24:gN K "_law_by_mixing" f24) {fd24:FuncData} (F24:Fun K "_law_by_mixing" "_law_by_mixing" eY f24 fd24)
  (a25:gN K "_law_great" f25) {fd25:FuncData} (F25:Fun K "_law_great" "_law_great" ik f25 fd25)
  (a26:gN K "_law_book" f26) {fd26:FuncData} (F26:Fun K "_law_book" "_law_book" iW f26 fd26)
  (a27:gN K "_law_rests" f27) {fd27:FuncData} (F27:Fun K "_law_rests" "_law_rests" iD f27 fd27)
  (a28:gN K "law" f28) (l28:K.lookup f28=some ⟨oc28,od28,.func (PySem.W.fnOf "law" "law" (cP jE) (bf jE) (aj jE) .none kV28 dc28 pm28 an28 cd28 ct28),sl28⟩) (c28:PySem.W.codeIn K cd28 "law" = true) (k28:PySem.W.keepIn K (.ref f28)=true)
  (z_bool:gZ K "bool")
  (z_dict:gZ K "dict")
  (z_enumerate:gZ K "enumerate")
  (z_int:gZ K "int")
  (z_isinstance:gZ K "isinstance")
  (z_len:gZ K "len")
  (z_list:gZ K "list")
  (z_min:gZ K "min")
  (z_range:gZ K "range")
  (z_sorted:gZ K "sorted")
  (z_sum:gZ K "sum")
  (z_tuple:gZ K "tuple")
  {t_MOST_SIGNS:Tok} (y_MOST_SIGNS:PySem.W.nsIn K mainGlobals "MOST_SIGNS" = some (some (.int 120 t_MOST_SIGNS)))
  {t_MOST_TEXTS:Tok} (y_MOST_TEXTS:PySem.W.nsIn K mainGlobals "MOST_TEXTS" = some (some (.int 8 t_MOST_TEXTS)))
  (w_Nodes:gN K "Nodes" C) (cl_Nodes:Cls K C) (n_longs_Nodes:aU K C "longs") (n_links_Nodes:aU K C "links") (n_ways_Nodes:aU K C "ways") (n_texts_Nodes:aU K C "texts") (n_heads_Nodes:aU K C "heads") (n_nodes_Nodes:aU K C "nodes")
  (w_Machine:gN K "Machine" D) (cl_Machine:Cls K D) (n_longs_Machine:aU K D "longs") (n_links_Machine:aU K D "links") (n_ways_Machine:aU K D "ways") (n_texts_Machine:aU K D "texts") (n_heads_Machine:aU K D "heads") (n_nodes_Machine:aU K D "nodes")
  : ∃ fd:FuncData,(∀ (s:Shared) (v:Value),BindsTo s fd ⟨[v],[]⟩ [("_law_script",v)])/\∀ base:Heap,K.In base->base.Ns mainGlobals mg->FnOk l.prog w K mg base CX0 8 fa fd Qa (spF (gx0 K) yG):=by
 have e:=hfa.symm.trans (Z2 X G a28)
 cases e
 have B:Blt mg:=⟨Z9 X G z_bool,Z9 X G z_dict,Z9 X G z_enumerate,Z9 X G z_int,Z9 X G z_isinstance,Z9 X G z_len,Z9 X G z_list,Z9 X G z_min,Z9 X G z_range,Z9 X G z_sorted,Z9 X G z_sum,Z9 X G z_tuple,⟨_,Z2 X G y_MOST_SIGNS⟩,⟨_,Z2 X G y_MOST_TEXTS⟩⟩
 have O:ObF K mg C D:=⟨cl_Nodes,Z2 X G w_Nodes,n_longs_Nodes,n_links_Nodes,n_ways_Nodes,n_texts_Nodes,n_heads_Nodes,n_nodes_Nodes,cl_Machine,Z2 X G w_Machine,n_longs_Machine,n_links_Machine,n_ways_Machine,n_texts_Machine,n_heads_Machine,n_nodes_Machine⟩
 refine ⟨PySem.W.fnOf "law" "law" (cP jE) (bf jE) (aj jE) .none kV28 dc28 pm28 an28 cd28 ct28,fun s v=>.of_eq rfl,fun base _ _=>?_⟩
 have aM:=aM l.prog w base F0 a0 B O
 have cq:=cq l.prog w base F1 a1 B O aM
 have aR:=aR l.prog w base F2 a2 B O aM
 have bJ:=bJ l.prog w base F3 a3 B O aM aR
 have bS:=bS l.prog w base F4 a4 B O bJ
 have bj:=fun m=>bj (m:=m) l.prog w base F5 a5 B O
 have cW:=fun m=>cW (m:=m) l.prog w base F6 a6 B O
 have di:=fun m=>di (m:=m) l.prog w base F7 a7 B O bj cW
 have cL:=cL l.prog w base F8 a8 B O
 have cX:=fun m=>cX (m:=m) l.prog w base F9 (Z2 X G a9) B O
 have cn:=fun m=>cn (m:=m) l.prog w base F10 (Z2 X G a10) B O cX
 have fQ:=fun m=>fQ (m:=m) l.prog w base F11 (Z2 X G a11) B O
 have cT:=cT l.prog w base F12 a12 B O bS cn fQ
 have bP:=bP l.prog w base ⟨⟨_,_,_,_,_,_,_,_,_,_,_,_,rfl,l13,c13,t13,u13⟩,k13⟩ a13 B O cL cT cq
 have h9:=fun m=>h9 (m:=m) l.prog w base F14 a14 B O
 have cM:=fun m=>cM (m:=m) l.prog w base F15 a15 B O di
 have b6:=fun m=>b6 (m:=m) l.prog w base F16 (Z2 X G a16) B O cX
 have cR:=fun m=>cR (m:=m) l.prog w base F17 (Z2 X G a17) B O
 have dB:=fun m=>dB (m:=m) l.prog w base F18 (Z2 X G a18) B O b6 cR
 have jv:=fun m=>jv (m:=m) l.prog w base F19 (Z2 X G a19) B O dB
 have d7:=fun m=>d7 (m:=m) l.prog w base F20 (Z2 X G a20) B O
 have aE:=fun m=>aE (m:=m) l.prog w base F21 (Z2 X G a21) B O
 have bE:=fun m=>bE (m:=m) l.prog w base F22 (Z2 X G a22) B O
 have cN:=fun m=>cN (m:=m) l.prog w base F23 (Z2 X G a23) B O bE
 have cH:=fun m=>cH (m:=m) l.prog w base F24 (Z2 X G a24) B O aE bE
 have eQ:=fun m=>eQ (m:=m) l.prog w base F25 (Z2 X G a25) B O aE bE
 have fI:=fun m=>fI (m:=m) l.prog w base F26 (Z2 X G a26) B O cN cH d7 eQ aE
 have dA:=fun m=>dA (m:=m) l.prog w base F27 (Z2 X G a27) B O
 exact yt rfl (AI l.prog w base (m:=fun _=>none) (vJ (st:=jE) l28 c28 k28) B O bP cM fI dA dB jv) hlaw
end T58
open PySem PySem.W PyProof.Rows PySem.W.X PySem.W.ZRun
set_option maxRecDepth 100000 in
set_option maxHeartbeats 0 in
theorem PySem.Challenge.cw_allparts_k58_whole_fewest_stands_holds : PySem.Challenge.rw_allparts_k58_whole_fewest_stands.Holds := by
 w_on;o_law;z_head;(case hw=>w_witness2)
 k_fill
 intro w s₀ s₁ mg mb G y fa o pm cd doc dV kV ho hd hcd hD hmg hg args vals as L hpre hlay hrd hwl hlo
 z_open y L KX ZH ZN ZT
 clear ZH ZN ZT
 refine VS.uf (l:=PySem.Challenge.rw_allparts_k58_whole_fewest_stands) (k:=8) (x := "_law_script") (g:=VS.yG) rfl rfl ⟨rfl,by decide,by decide⟩ (fun _=>rfl) ?F w s₀ s₁ mg mb G KX fa o pm cd doc dV kV ho hd hcd hD hmg hg args vals as hpre hlay hrd hwl hlo
 case F =>
  intro w mg fa h KX G hmg
  apply T58.all_mk KX G hmg T58.v8
  (case w_Nodes=>unfold T58.gN;k_is)
  (case w_Machine=>unfold T58.gN;k_is)
  all_goals first | (refine' L2.vJ ?l ?c ?k;(case l=>k_is);(case c=>k_is);(case k=>k_is)) | (refine' ⟨?l,?c,?k⟩;(case l=>k_is);(case c=>k_is);(case k=>k_is)) | (refine' ⟨?l,?c,?k,?d⟩;(case l=>k_is);(case c=>k_is);(case k=>k_is);(case d=>k_is)) | (unfold T58.gN;k_is) | (unfold T58.gZ;k_is) | (unfold L2.aU;k_is) | k_is | exact rfl
end
