import PyProof.Rows.All
import Wide.All
import OpenK.AllK
import Wide.FinOn
import Lean
import PyProof.EqAt
import PyProof.EqKinds
import PyProof.TupleCall
import PyProof.Rows.SortShellK
import PyProof.Rows.SortStr
import PyProof.Rows.SortWalk
import PyProof.StrBlockH
import PyProof.StrLawsIn
import PyProof.Rows.SetFrom
import PyProof.CollectWalk
import KE.KDictSum
import PyProof.ListStr
import PyProof.SeqI3
import PyProof.Rows.CallKwBuiltin
import PyProof.ListRange
import PyProof.AttrMissSeq
import PyProof.DictUpdate
import PyProof.DictList
import PyProof.ListNew
import PyProof.FactsAll.dict_1
import PyProof.SliceList
import PyProof.WalkInts
import PyProof.StationsW
import OpenK.KOwn
import KE.KTryMore
import PyProof.NsDelKeeps
import PyProof.ExcArgsOwn
import PyProof.ExcAttrAll.Exception
import OpenK.KDescr
import KE.KIsAll
import PyProof.ExcBaseAll.ValueError
import PyProof.StrBlock
import PyProof.StrCalls
import PyProof.StrLawsOccR
import KE.KDictOf
import PyProof.Rows.Range3
import PySem.Challenge.RW_allparts_k37_nowhere
theorem PySem.W.Fast.tw7159163242758163804:True:=trivial
theorem PySem.W.Fast.tw15265368191508090659:True:=trivial
theorem PySem.W.Fast.tw5741738558057417922:True:=trivial
theorem PySem.W.Fast.tw5734105634342560708:True:=trivial
theorem PySem.W.Fast.tw7298952836781229077:True:=trivial
theorem PySem.W.Fast.tw5775519125302467395:True:=trivial
theorem PySem.W.Fast.tw592003829401318675:True:=trivial
theorem PySem.W.Fast.tw7708845588248746375:True:=trivial
set_option linter.all false
set_option maxRecDepth 100000
set_option Elab.async false
set_option maxHeartbeats 4000000
abbrev Z0:=PySem.Value->PySem.Shared->Prop
abbrev Z7:=List (PySem.Addr×PySem.Obj)
abbrev Y1:=List (List PySem.Addr)
abbrev Y2:=PySem.W.Frag
abbrev Xu:=PySem.Str->Option PySem.Value
abbrev X0:=List PySem.Addr
abbrev Wx:=List PySem.Value
abbrev Ww:=Option PySem.Value
abbrev Wq:=List Nat
abbrev Wp:=List Int
abbrev Wo:=List (List (List Nat))
abbrev Zq:=@if_pos
abbrev Zm:=@if_neg
abbrev ZU:=@decide_eq_false
abbrev ZO:=@beq_eq_false_iff_ne
open Option renaming bind_eq_some_iff->Zz,map_eq_some_iff->Zw,bind_some->Zu,isSome_iff_exists->Z6,isSome_map->Yl,map_some->YK,getD_some->Xs,getD_none->Wv
open List renaming mem_cons_of_mem->Zy,mem_cons_self->Zx,length_map->Zv,length_append->Zt,getD_eq_getElem?_getD->Zs,getElem?_eq_getElem->Zr,mem_cons->Zo,length_cons->Zn,map_cons->Zl,mem_singleton->Zj,nodup_cons->Zh,getElem?_eq_some_iff->Zf,mem_append->Ze,zip_cons_cons->Zc,size_toArray->ZY,nodup_append->ZX,mem_append_right->ZW,flatten_cons->ZV,length_range->ZR,getElem?_map->ZQ,find?_cons->ZL,append_nil->ZK,append_assoc->ZJ,length_singleton->ZI,mem_map->ZF,getElem?_append_left->ZD,length_zip->ZA,nodup_nil->Z1,getElem?_eq_none->Z2,map_append->Z3,getElem_mem->Z4,map_map->Z5,flatten_append->Z8,length_set->Z9,suffix_refl->Yz,getElem?_append_right->Yy,all_eq_true->Yx,mem_append_left->Yw,sublist_cons_self->Yv,mem_range->Yu,getElem?_set_ne->Ys,lookup_cons->Yr,getElem?_zip_eq_some->Yq,mem_of_getElem?->Yn,length_drop->Yi,any_cons->Yh,getElem?_replicate->Yg,sublist_append_right->Yd,getElem?_eq_none_iff->Yc,suffix_nil->Yb,mem_filter->Ya,foldl_cons->YZ,getD_cons_succ->YW,length_take->YR,cons_append->YQ,any_eq_true->YO,take_of_length_le->YN,getElem?_set_self->YM,drop_of_length_le->YL,length_replicate->YI,map_nil->YB,replicate_succ->Y0,findIdx?_cons->Y5,find?_eq_none->Y6,length_filter_le->Xw,cons_lt_cons_iff->Xv,sum_cons->Xq,all_cons->Xp,zip_append->Xn,nil_suffix->Xm,nil_append->Xl,map_congr_left->Xk,length_range'->Xf,drop_eq_getElem_cons->Xe,sublist_append_left->Xa,getElem?_cons_succ->XW,of_mem_zip->XS,set_getElem_self->XQ,getElem?_toArray->XO,cons_prefix_cons->XM,filter_sublist->XG,filterMap_cons->XF,pairwise_cons->XB,mem_filterMap->XA,pairwise_map->X8,getElem?_set->X9,find?_isSome->Wz,not_mem_nil->Wu,mem_flatten->Wt,mem_flatMap->Ws,map_fst_zip->Wr
open PySem renaming wpAny_bind->Zp,wpAny_pure->Za,wpAny_mono->YG,wpAny_passesOwn->YF,wpAny_holding->YD,mem_of_lookup->YA,tupleKind_room_in1->Xz,sizeLine_eq->Xy,wpAny_truthy_bool->Xo,wpAny_call_entry->Xj,wpAny_typeNameOfWhole_keyiter->Xi,wpAny_Call_Name_kw->XZ,wpAny_newObj_type->XT,wpAny_execs_nil->XD
open Option.some renaming inj->Zk
open PySem.Heap renaming get?_push_of_some->Zi,lt_size->ZS,get?_push_size->ZP,get?_update_other->XE
open Nat renaming le_refl->Zg,ne_of_lt->ZZ,lt_of_lt_of_le->ZM,le_trans->ZG,le_of_not_lt->ZE,zero_le->Yt,lt_irrefl->Yf,lt_succ_self->YT,le_add_right->YS,succ_le_succ->YC,min_eq_left->Y3,le_of_not_le->Xr,pos_of_ne_zero->Xh,add_sub_cancel->Xg,le_succ->Xc,min_eq_right->XX,mul_le_mul_right->XJ,zero_add->X1,succ_mul->X2,ne_of_gt->X3,lt_trans->X4,le_of_lt->X5,le_of_eq->X6,add_comm->X7
open Bool renaming false_ne_true->Zd,and_eq_true->Zb,eq_iff_iff->Y4,false_eq_true->Y7,and_eq_true_iff->XI
open PySem.PassesOwn renaming never->ZC
open PySem.W renaming kia_one->Yp,mg_none_of->Yo,mg_of->Ym,plainGet_of->XH
open Ne renaming symm->Yk
open Array renaming getElem?_toList->Yj,length_toList->YV
open Int renaming emod_lt_of_pos->Ye,emod_nonneg->YJ,toNat_natCast->Xb
open PySem.F renaming type_list_append->YY,slot_list_append->YX,plainAttrs_list->YU,slot_dict_keyiterator_next->YE,slot_tuple_getattribute->XU,slot_dict_get->XR
open PyProof.Rows renaming callWith_type1->YH
open PySem.Paired renaming length->Y8
open List.Sublist renaming refl->Y9
open Prod.mk renaming inj->Xd
open PySem.W.KFB renaming if_not->XC
open PySem.Around renaming under_plainId->Wy
section
namespace L2
theorem gN {G:Prop} (h:∀ P:Prop,(G->P)->P):G:=h G id
end L2
namespace VS
noncomputable abbrev Tx:=Wq
inductive T where
 | non | bl (b:Bool) | int (i:Int) | str (s:Tx) | scr (ns:Wp)
 | tup (l:List T) | lst (l:List T) | dct (kd:Nat) (l:List (T×T)) | obj (c:Nat) (fs:List (Nat×T))
 deriving Inhabited
abbrev Wi:=List T
noncomputable def dD:Nat:=16777216
mutual
@[simp] noncomputable def imm:T->Bool
 | .lst _=>false
 | .dct _ _=>false
 | .obj _ _=>false
 | .tup l=>dv l
 | _=>true
@[simp] noncomputable def dv:Wi->Bool
 | []=>true
 | t :: r=>imm t && dv r
end
mutual
@[simp] noncomputable def eqT:T->T->Bool
 | .non,.non=>true
 | .bl a,.bl b=>a == b
 | .bl a,.int i=>(if a then 1 else 0) == i
 | .int i,.bl a=>i == (if a then 1 else 0)
 | .int i,.int j=>i == j
 | .str s,.str t=>s == t
 | .tup a,.tup b=>rg a b
 | .lst a,.lst b=>rg a b
 | _,_=>false
@[simp] noncomputable def rg:Wi->Wi->Bool
 | [],[]=>true
 | a :: as,b :: bs=>eqT a b && rg as bs
 | _,_=>false
end
@[simp] noncomputable def eqD:Nat->T->Bool
 | _,.non=>true
 | _,.bl _=>true
 | _,.int _=>true
 | _,.str _=>true
 | n+1,.tup l=>l.all (eqD n)
 | n+1,.lst l=>l.all (eqD n)
 | _,_=>false
inductive Md where | fr | pu | bo
 deriving DecidableEq,Inhabited
@[simp] noncomputable def Md.join:Md->Md->Md
 | .bo,_=>.bo
 | _,.bo=>.bo
 | .pu,_=>.pu
 | _,.pu=>.pu
 | .fr,.fr=>.fr
inductive Cell where | pu (t:T) | ow (t:T)
 deriving Inhabited
abbrev Wm:=Option Cell
noncomputable abbrev Env:=List (Wm)
noncomputable abbrev Val:=Md×T
abbrev Wj:=Option Val
abbrev Wk:=List Val
noncomputable abbrev Ex:=Env->Wj
noncomputable abbrev Exs:=Env->Option (Wk)
@[simp] noncomputable def up (m:Md) (t:T):Val:=(if imm t then .fr else m,t)
@[simp] noncomputable def mw:T->Bool
 | .lst _=>true
 | .dct _ _=>true
 | .obj _ _=>true
 | _=>false
@[simp] noncomputable def cellOf:Val->Wm
 | (.fr,t)=>some (if mw t then .ow t else .pu t)
 | (.pu,t)=>some (.pu t)
 | (.bo,_)=>none
inductive Out where | nx (η:Env) | rt (v:Val) (η:Env) | bk (η:Env) | ct (η:Env)
noncomputable abbrev Sx:=Env->Option Out
@[simp] noncomputable def eC (t:T) (_:Env):Wj:=some (.fr,t)
noncomputable abbrev Q2 (i:Int):Ex:=eC (.int i)
@[simp] noncomputable def aa (i:Nat) (η:Env):Wj:=match η[i]? with
 | some (some (.pu t))=>some (up .pu t)
 | some (some (.ow t))=>some (.bo,t)
 | _=>none
@[simp] noncomputable def e1 (f:Val->Wj) (a:Ex) (η:Env):Wj:=(a η).bind f
@[simp] noncomputable def e2 (f:Val->Val->Wj) (a b:Ex) (η:Env):Wj:=(a η).bind fun x=>(b η).bind fun y=>f x y
@[simp] noncomputable def aj (_:Env):Option (Wk):=some []
@[simp] noncomputable def ab (a:Ex) (r:Exs) (η:Env):Option (Wk):=(a η).bind fun x=>(r η).bind fun xs=>some (x :: xs)
@[simp] noncomputable def eN (f:Wk->Wj) (as:Exs) (η:Env):Wj:=(as η).bind f
@[simp] noncomputable def b7:Wk->Md
 | []=>.fr
 | v :: r=>v.1.join (b7 r)
@[simp] noncomputable def trees (l:Wk):Wi:=l.map (·.2)
noncomputable def mkL (m:Md) (l:Wi):Wj:=if l.length<=dD then some (if dv l then .fr else m,.lst l) else none
@[simp] noncomputable def dF (as:Exs) (η:Env):Wj:=(as η).bind fun l=>mkL (b7 l) (trees l)
noncomputable def pD (l:Wk):Wj:=if l.length<=dD then some (up (b7 l) (.tup (trees l))) else none
@[simp] noncomputable def g9 (as:Exs) (η:Env):Wj:=(as η).bind pD
noncomputable def dput (l:List (T×T)) (k v:T):List (T×T):=if l.any (fun p=>eqT p.1 k) then l.map (fun p=>if eqT p.1 k then (p.1,v) else p) else l++[(k,v)]
noncomputable def eY:T->Bool
 | .int _=>true
 | .str _=>true
 | _=>false
noncomputable def keyOk:Nat->T->Bool
 | 0,t=>eY t
 | 1,.tup l=>l.all eY
 | _,_=>false
noncomputable def pairs:List (Ex×Ex)->Env->Option (List (Val×Val))
 | [],_=>some []
 | (a,b) :: r,η=>(a η).bind fun x=>(b η).bind fun y=>(pairs r η).map ((x,y) :: ·)
noncomputable def mn (kd:Nat) (ps:List (Ex×Ex)) (η:Env):Wj:=(pairs ps η).bind fun l=>if l.all (fun p=>keyOk kd p.1.2)/\l.length<=15 then
 some (b7 (l.map (·.2)),.dct kd (l.foldl (fun d p=>dput d p.1.2 p.2.2) [])) else none
@[simp] noncomputable def tru:T->Option Bool
 | .bl b=>some b
 | .int i=>some (i != 0)
 | .str s=>some (!s.isEmpty)
 | .lst l=>some (!l.isEmpty)
 | .tup l=>some (!l.isEmpty)
 | .dct 0 l=>some (!l.isEmpty)
 | .non=>some false
 | _=>none
@[simp] noncomputable def lS (a b:Ex) (η:Env):Wj:=(a η).bind fun x=>match x.2 with
 | .bl true=>b η
 | .bl false=>some (.fr,.bl false)
 | _=>none
@[simp] noncomputable def eOr (a b:Ex) (η:Env):Wj:=(a η).bind fun x=>match x.2 with
 | .bl true=>some (.fr,.bl true)
 | .bl false=>b η
 | _=>none
@[simp] noncomputable def vG (a:Ex) (η:Env):Wj:=(a η).bind fun x=>match x.2 with
 | .bl b=>some (.fr,.bl (!b))
 | _=>none
@[simp] noncomputable def eIf (c a b:Ex) (η:Env):Wj:=(c η).bind fun x=>(tru x.2).bind fun t=>if t then a η else b η
@[simp] noncomputable def isN:T->Bool
 | .non=>true
 | _=>false
@[simp] noncomputable def ym (a:Ex) (η:Env):Wj:=(a η).bind fun x=>some (.fr,.bl (isN x.2))
@[simp] noncomputable def gr (a:Ex) (η:Env):Wj:=(a η).bind fun x=>some (.fr,.bl (!isN x.2))
@[simp] noncomputable def gI (f g:Val->Val->Wj) (a b c:Ex) (η:Env):Wj:=(a η).bind fun x=>(b η).bind fun y=>(f x y).bind fun r=>match r.2 with
 | .bl true=>(c η).bind fun z=>g y z
 | .bl false=>some (.fr,.bl false)
 | _=>none
@[simp] noncomputable def int?:T->Option Int
 | .int i=>some i
 | _=>none
noncomputable def aS:Val->Val->Wj
 | (_,.int i),(_,.int j)=>some (.fr,.int (i+j))
 | (_,.str s),(_,.str t)=>if s.length+t.length<=dD then some (.fr,.str (s++t)) else none
 | (m,.lst s),(n,.lst t)=>mkL (m.join n) (s++t)
 | _,_=>none
@[simp] noncomputable def vR:Val->Val->Wj
 | (_,.int i),(_,.int j)=>some (.fr,.int (i - j))
 | _,_=>none
noncomputable def B62:Int:=4611686018427387904
noncomputable def B64:Int:=18446744073709551616
noncomputable def fH:Val->Val->Wj
 | (_,.int i),(_,.int j)=>if (-B64 < i/\i < B64)\/(-B64 < j/\j < B64) then some (.fr,.int (i * j)) else none
 | _,_=>none
noncomputable def rV:Val->Val->Wj
 | (_,.str s),(_,.int j)=>if s.length * j.toNat<=dD/\-B62<=j/\j < B62 then some (.fr,.str (List.replicate j.toNat s).flatten) else none
 | _,_=>none
noncomputable def iO:Val->Val->Wj
 | (_,.int i),(_,.int j)=>if 0 < j/\j < 1073741824 then some (.fr,.int (i / j)) else none
 | _,_=>none
noncomputable def oMod:Val->Val->Wj
 | (_,.int i),(_,.int j)=>if 0 < j then some (.fr,.int (i % j)) else none
 | _,_=>none
noncomputable def ltx:Tx->Tx->Bool
 | [],[]=>false
 | [],_ :: _=>true
 | _ :: _,[]=>false
 | a :: as,b :: bs=>if a < b then true else if b < a then false else ltx as bs
@[simp] noncomputable def oLt:Val->Val->Wj
 | (_,.int i),(_,.int j)=>some (.fr,.bl (decide (i < j)))
 | (_,.str s),(_,.str t)=>some (.fr,.bl (ltx s t))
 | _,_=>none
@[simp] noncomputable def oLe:Val->Val->Wj
 | (_,.int i),(_,.int j)=>some (.fr,.bl (decide (i<=j)))
 | (_,.str s),(_,.str t)=>some (.fr,.bl (!ltx t s))
 | _,_=>none
@[simp] noncomputable def oGt (a b:Val):Wj:=oLt b a
@[simp] noncomputable def oGe (a b:Val):Wj:=oLe b a
@[simp] noncomputable def oEq (a b:Val):Wj:=if eqD 60 a.2/\eqD 60 b.2 then some (.fr,.bl (eqT a.2 b.2)) else none
@[simp] noncomputable def oNe (a b:Val):Wj:=if eqD 60 a.2/\eqD 60 b.2 then some (.fr,.bl (!eqT a.2 b.2)) else none
noncomputable def cL (l:List (T×T)) (k:T):Option T:=(l.find? fun p=>eqT p.1 k).map (·.2)
noncomputable def ixP (n:Nat) (i:Int):Option Nat:=if 0<=i then (if i < n then some i.toNat else none) else (if 0<=i+n then some (i+n).toNat else none)
@[simp] noncomputable def sub (m:Md) (t:T):Val:=up m t
@[simp] noncomputable def aE:Val->Val->Wj
 | (m,.lst l),(_,.int i)=>(ixP l.length i).bind fun k=>(l[k]?).map (sub m)
 | (m,.tup l),(_,.int i)=>(ixP l.length i).bind fun k=>(l[k]?).map (sub m)
 | (_,.scr l),(_,.int i)=>(ixP l.length i).bind fun k=>(l[k]?).map fun n=>(.fr,.int n)
 | (_,.str l),(_,.int i)=>(ixP l.length i).bind fun k=>(l[k]?).map fun n=>(.fr,.str [n])
 | _,_=>none
noncomputable def clip (n:Nat) (i:Int):Nat:=if i < 0 then (i+n).toNat else min i.toNat n
noncomputable def cut {α:Type} (l:List α) (a b:Option Int):List α :=
 let lo:=match a with | none=>0 | some i=>clip l.length i
 let hi:=match b with | none=>l.length | some i=>clip l.length i
 (l.drop lo).take (hi - lo)
@[simp] noncomputable def oSl (v:Val) (a b:Option Int):Wj:=match v with
 | (_,.str s)=>some (.fr,.str (cut s a b))
 | (m,.lst l)=>mkL m (cut l a b)
 | _=>none
@[simp] noncomputable def ve (c:Option Ex) (η:Env):Option (Option Int):=match c with
 | none=>some none
 | some e=>(e η).bind fun y=>(int? y.2).map some
@[simp] noncomputable def eSl (a:Ex) (lo hi:Option Ex) (η:Env):Wj:=(a η).bind fun x=>(ve lo η).bind fun l=>(ve hi η).bind fun h=>oSl x l h
@[simp] noncomputable def DK:T->Option Nat
 | .lst l=>some l.length
 | .tup l=>some l.length
 | .str l=>some l.length
 | .scr l=>some l.length
 | .dct 0 l=>some l.length
 | _=>none
@[simp] noncomputable def cK:Wk->Wj
 | [x]=>(DK x.2).map fun n=>(.fr,.int n)
 | _=>none
@[simp] noncomputable def DW:Wk->Wj
 | [(_,.int i),(_,.int j)]=>some (.fr,.int (if j < i then j else i))
 | _=>none
@[simp] noncomputable def DR:Wk->Wj
 | [(_,.int i),(_,.int j)]=>some (.fr,.int (if j > i then j else i))
 | _=>none
noncomputable def strs?:Wi->Option (List Tx)
 | []=>some []
 | .str i :: r=>(strs? r).map (i :: ·)
 | _=>none
@[simp] noncomputable def DQ:T->Option (Wi)
 | .lst l=>some l
 | .tup l=>some l
 | .scr l=>some (l.map T.int)
 | .str l=>some (l.map fun c=>T.str [c])
 | .dct _ l=>some (l.map (·.1))
 | _=>none
@[simp] noncomputable def Am:Wk->Wj
 | [(m,.lst l)]=>mkL m l
 | [(m,.tup l)]=>mkL m l
 | _=>none
noncomputable def jJ:Wk->Wj
 | [(m,.lst l)]=>if l.length<=dD then some (up m (.tup l)) else none
 | _=>none
noncomputable def lQ (x:Tx):List Tx->List Tx
 | []=>[x]
 | y :: r=>if ltx y x then y :: lQ x r else x :: y :: r
noncomputable def dZ (l:List Tx):List Tx:=l.foldr lQ []
inductive Ty where | int | str | bool | list | tuple | dict
@[simp] noncomputable def oW:Ty->T->Bool
 | .int,.int _=>true
 | .int,.bl _=>true
 | .bool,.bl _=>true
 | .str,.str _=>true
 | .list,.lst _=>true
 | .tuple,.tup _=>true
 | .dict,.dct _ _=>true
 | _,_=>false
@[simp] noncomputable def tD:T->Bool
 | .obj _ _=>false
 | .scr _=>false
 | .dct 0 _=>true
 | .dct 1 _=>true
 | .dct _ _=>false
 | _=>true
@[simp] noncomputable def eIs (t:Ty) (a:Ex) (η:Env):Wj:=(a η).bind fun x=>if tD x.2 then some (.fr,.bl (oW t x.2)) else none
noncomputable def total:List Tx->Nat
 | []=>0
 | x :: r=>x.length+total r
noncomputable def c6 (sep:Tx):List Tx->Tx
 | []=>[]
 | [x]=>x
 | x :: r=>x++sep++c6 sep r
noncomputable def gS:Val->Wk->Wj
 | (_,.str sep),[(_,.lst l)]=>(strs? l).bind fun ss=>if total ss+ss.length * sep.length<=dD then some (.fr,.str (c6 sep ss)) else none
 | _,_=>none
@[simp] noncomputable def eM (f:Val->Wk->Wj) (o:Ex) (as:Exs) (η:Env):Wj:=(o η).bind fun x=>(as η).bind fun xs=>f x xs
noncomputable abbrev Fn:=Wi->Wj
@[simp] noncomputable def cy (g:Fn) (as:Exs) (η:Env):Wj:=(as η).bind fun xs=>(g (trees xs)).bind fun r=>match r with
 | (.fr,t)=>some (.fr,t)
 | (_,t)=>some ((Md.pu).join (b7 xs),t)
noncomputable abbrev Its:=Env->Option (Md×Wi)
@[simp] noncomputable def Aw:Val->Option (Md×Wi)
 | (m,.lst l)=>some (m,l)
 | (m,.tup l)=>some (m,l)
 | (_,.str l)=>some (.fr,l.map fun c=>.str [c])
 | _=>none
@[simp] noncomputable def il (a:Ex) (η:Env):Option (Md×Wi):=(a η).bind Aw
noncomputable def rng (lo:Int) (n:Nat):Wi:=(List.range n).map fun (k:Nat)=>T.int (lo+k)
noncomputable def bH (a:Ex) (η:Env):Option (Md×Wi):=(a η).bind fun x=>(int? x.2).bind fun j=>if -B62<=j/\j < B62 then some (.fr,rng 0 j.toNat) else none
noncomputable def jI (a b:Ex) (η:Env):Option (Md×Wi):=(a η).bind fun x=>(b η).bind fun y=>(int? x.2).bind fun i=>(int? y.2).bind fun j =>
 if (-B62<=i/\i < B62)/\-B62<=j/\j < B62 then some (.fr,rng i (j - i).toNat) else none
noncomputable def ir (k:Nat):Wi->Wi
 | []=>[]
 | t :: r=>.tup [.int k,t] :: ir (k+1) r
@[simp] noncomputable def B0:Val->Option (Md×Wi)
 | (m,.lst l)=>some (m,ir 0 l)
 | _=>none
@[simp] noncomputable def uS (a:Ex) (η:Env):Option (Md×Wi):=(a η).bind B0
noncomputable abbrev Tg:=T->Env->Option Env
@[simp] noncomputable def aT (i:Nat) (t:T) (η:Env):Option Env:=if i < η.length then some (η.set i (some (.pu t))) else none
@[simp] noncomputable def qA:List Tg->Wi->Env->Option Env
 | [],[],η=>some η
 | g :: gs,t :: ts,η=>(g t η).bind fun η'=>qA gs ts η'
 | _,_,_=>none
@[simp] noncomputable def t4 (gs:List Tg) (t:T) (η:Env):Option Env:=match t with
 | .tup l=>qA gs l η
 | _=>none
@[simp] noncomputable def okI (m:Md) (l:Wi):Bool:=match m with
 | .bo=>dv l
 | _=>true
noncomputable def iN (tg:Tg) (cond:Option Ex) (elt:Ex) (η:Env):Wi->Option (Wk)
 | []=>some []
 | t :: r=>(tg t η).bind fun η'=>(match cond with | none=>some true | some c=>(c η').bind fun x=>tru x.2).bind fun b =>
  if b then (elt η').bind fun v=>(iN tg cond elt η r).map (v :: ·) else iN tg cond elt η r
noncomputable def dE (k:Nat) (tg:Tg) (it:Its) (cond:Option Ex) (elt:Ex) (η:Env):Wj:=(it η).bind fun (m,l)=>if okI m l then
 (iN tg cond elt (List.replicate k none++η) l).bind fun vs=>mkL (b7 vs) (trees vs) else none
@[simp] noncomputable def dy (η:Env):Option Out:=some (.nx η)
@[simp] noncomputable def ak (a b:Sx) (η:Env):Option Out:=(a η).bind fun o=>match o with
 | .nx η'=>b η'
 | o=>some o
@[simp] noncomputable def gD (i:Nat) (e:Ex) (η:Env):Option Out:=(e η).bind fun v=>(cellOf v).bind fun c=>if i < η.length then some (.nx (η.set i (some c))) else none
@[simp] noncomputable def aK (i:Nat) (e:Ex) (η:Env):Option Out:=(e η).bind fun v=>match v.1 with
 | .bo=>none
 | _=>if i < η.length then some (.nx (η.set i (some (.pu v.2)))) else none
@[simp] noncomputable def gp (e:Ex) (η:Env):Option Out:=(e η).bind fun v=>some (.rt (match v.1 with | .bo=>.pu | m=>m,v.2) η)
@[simp] noncomputable def eR (i:Nat) (η:Env):Option Out:=match η[i]? with
 | some (some (.ow t))=>some (.rt (.fr,t) (η.set i none))
 | some (some (.pu t))=>some (.rt (up .pu t) η)
 | _=>none
@[simp] noncomputable def DT (η:Env):Option Out:=some (.rt (.fr,.non) η)
@[simp] noncomputable def DZ (η:Env):Option Out:=some (.bk η)
@[simp] noncomputable def DY (η:Env):Option Out:=some (.ct η)
@[simp] noncomputable def sIf (c:Ex) (a b:Sx) (η:Env):Option Out:=(c η).bind fun x=>(tru x.2).bind fun t=>if t then a η else b η
noncomputable def forL (tg:Tg) (body:Sx):Wi->Env->Option Out
 | [],η=>some (.nx η)
 | t :: r,η=>(tg t η).bind fun η1=>(body η1).bind fun o=>match o with
  | .nx η2=>forL tg body r η2
  | .ct η2=>forL tg body r η2
  | .bk η2=>some (.nx η2)
  | .rt v η2=>some (.rt v η2)
@[simp] noncomputable def okF:Md->Bool
 | .bo=>false
 | _=>true
@[simp] noncomputable def fA (tg:Tg) (it:Its) (body:Sx) (η:Env):Option Out:=(it η).bind fun (m,l)=>if okF m then forL tg body l η else none
noncomputable def cX (c:Ex) (body:Sx):Nat->Env->Option Out
 | 0,_=>none
 | n+1,η=>(c η).bind fun x=>(tru x.2).bind fun t=>if t then (body η).bind fun o=>match o with
  | .nx η2=>cX c body n η2
  | .ct η2=>cX c body n η2
  | .bk η2=>some (.nx η2)
  | .rt v η2=>some (.rt v η2)
  else some (.nx η)
noncomputable def qw:Nat:=1000000
noncomputable def iY (c:Ex) (body:Sx) (η:Env):Option Out:=cX c body qw η
@[simp] noncomputable def ox (i:Nat) (η:Env):Option Out:=match η[i]? with
 | some (some (.ow t))=>some (.nx (η.set i (some (.pu t))))
 | some (some (.pu _))=>some (.nx η)
 | _=>none
inductive Stp where | fld (k:Nat) | ix (e:Ex) | un
inductive Ky where | fld (k:Nat) | at (t:T) | un
@[simp] noncomputable def keys:List Stp->Env->Option (List Ky)
 | [],_=>some []
 | .fld k :: r,η=>(keys r η).map (.fld k :: ·)
 | .ix e :: r,η=>(e η).bind fun x=>(keys r η).map (.at x.2 :: ·)
 | .un :: r,η=>(keys r η).map (.un :: ·)
noncomputable def Dk (fs:List (Nat×T)) (k:Nat):Option T:=fs.lookup k
noncomputable def Dx (fs:List (Nat×T)) (k:Nat) (v:T):List (Nat×T):=if fs.any (fun p=>p.1 == k) then fs.map (fun p=>if p.1 == k then (p.1,v) else p) else fs++[(k,v)]
@[simp] noncomputable def zj {α:Type} (f:T->Option (T×α)):List Ky->T->Option (T×α)
 | [],t=>f t
 | .fld k :: r,.obj c fs=>(Dk fs k).bind fun x=>(zj f r x).map fun (y,a)=>(.obj c (Dx fs k y),a)
 | .at (.int i) :: r,.lst l=>(ixP l.length i).bind fun j=>(l[j]?).bind fun x=>(zj f r x).map fun (y,a)=>(.lst (l.set j y),a)
 | .at k :: r,.dct d l=>(cL l k).bind fun x=>(zj f r x).map fun (y,a)=>(.dct d (dput l k y),a)
 | _,_=>none
noncomputable abbrev Xx:=Env->Option (Val×Env)
@[simp] noncomputable def xP (e:Ex) (η:Env):Option (Val×Env):=(e η).map fun v=>(v,η)
@[simp] noncomputable def l9 (i:Nat) (way:List Stp) (f:T->Wk->Option (T×Val)) (as:Exs) (η:Env):Option (Val×Env):=match η[i]? with
 | some (some (.ow t))=>(keys way η).bind fun ks=>(as η).bind fun xs=>(zj (fun x=>f x xs) ks t).map fun (t',v)=>(v,η.set i (some (.ow t')))
 | _=>none
@[simp] noncomputable def fit (v:Val):Option T:=match v.1 with
 | .fr=>some v.2
 | _=>none
noncomputable def aH:T->Wk->Option (T×Val)
 | .lst l,[v]=>(fit v).bind fun t=>if l.length < dD then some (.lst (l++[t]),(.fr,.non)) else none
 | _,_=>none
@[simp] noncomputable def sX (x:Xx) (η:Env):Option Out:=(x η).map fun r=>.nx r.2
@[simp] noncomputable def DU (i:Nat) (x:Xx) (η:Env):Option Out:=(x η).bind fun (v,η')=>(cellOf v).bind fun c=>if i < η'.length then some (.nx (η'.set i (some c))) else none
@[simp] noncomputable def DX (x:Xx) (η:Env):Option Out:=(x η).bind fun (v,η')=>some (.rt (match v.1 with | .bo=>.pu | m=>m,v.2) η')
@[simp] noncomputable def fn (np nn:Nat) (body:Sx):Fn:=fun ts=>if ts.length=np then
 (body (ts.map (fun t=>some (.pu t))++List.replicate (nn - np) none)).bind fun o=>match o with
  | .rt v _=>some v
  | .nx _=>some (.fr,.non)
  | _=>none else none
@[simp] theorem Dd {m n:Md} {i j:Int}:aS (m,.int i) (n,.int j)=some (.fr,.int (i+j)):=rfl
theorem jH {m n:Md} {s t:Tx} (h:s.length+t.length<=16777216):aS (m,.str s) (n,.str t)=some (.fr,.str (s++t)):=Zq h
theorem iS {m n:Md} {i j:Int} (h:-18446744073709551616 < i/\i < 18446744073709551616):fH (m,.int i) (n,.int j)=some (.fr,.int (i * j)):=Zq (.inl h)
theorem jQ {m n:Md} {i j:Int} (h:0 < j/\j < 1073741824):iO (m,.int i) (n,.int j)=some (.fr,.int (i / j)):=Zq h
theorem eW {m n:Md} {i j:Int} (h:0 < j):oMod (m,.int i) (n,.int j)=some (.fr,.int (i % j)):=Zq h
theorem dr {l:Wi} {t:T} (h:l.length < 16777216):aH (.lst l) [(.fr,t)]=some (.lst (l++[t]),(.fr,.non)):=by
 simp only [aH,fit,Zu]
 exact Zq h
theorem dU {a:Ex} {η:Env} {m:Md} {j:Int} (e:a η=some (m,.int j)) (h:-4611686018427387904<=j/\j < 4611686018427387904):bH a η=some (.fr,rng 0 j.toNat):=by
 simp only [bH,e,Zu,int?]
 exact Zq h
theorem kY {m:Md} {l:Wi} (h:l.length<=16777216):mkL m l=some (if dv l then .fr else m,.lst l):=Zq h
theorem dH {tg:Tg} {body:Sx} {t:T} {r:Wi} {η η1 η2:Env} (h1:tg t η=some η1) (h2:body η1=some (.nx η2)):forL tg body (t :: r) η=forL tg body r η2:=by
 simp [forL,h1,h2]
theorem oF {tg:Tg} {body:Sx} {t:T} {r:Wi} {η η1 η2:Env} {v:Val} (h1:tg t η=some η1) (h2:body η1=some (.rt v η2)):forL tg body (t :: r) η=some (.rt v η2):=by
 simp [forL,h1,h2]
theorem strs_map {α:Type} (f:α->Tx):∀ l:List α,strs? (l.map fun x=>T.str (f x))=some (l.map f)
 | []=>rfl
 | a :: r=>by simp [strs?,strs_map f r]
theorem lR:∀ ss:List Tx,c6 [] ss=ss.flatten
 | []=>rfl
 | [x]=>by simp [c6]
 | x :: y :: r=>by
  have:=lR (y :: r)
  simp [c6] at this ⊢
  exact this
theorem lZ:∀ ss:List Tx,total ss=ss.flatten.length
 | []=>rfl
 | x :: r=>by simp [total,lZ r]
theorem jY {m n:Md} {l:Wi} {ss:List Tx} (e:strs? l=some ss) (h1:ss.flatten.length<=16777216):gS (m,.str []) [(n,.lst l)]=some (.fr,.str ss.flatten):=by
 simp only [gS,Zu,e,lR]
 refine Zq ?_
 rw [lZ]
 show _<=16777216
 simpa using h1
theorem cP {α:Type} (l:List α):(l.map fun x=>[x]).flatten=l:=by
 induction l with
 | nil=>rfl
 | cons a r ih=>rw [Zl,ZV,ih];rfl
theorem gk (n:Nat):rng 0 n=(List.range n).map fun (k:Nat)=>T.int (k:Int):=by
 unfold rng
 simp
theorem jC {α:Type} (f:α->T) (h:∀ x,imm (f x)=true):∀ l:List α,dv (l.map f)=true
 | []=>rfl
 | a :: r=>by simp [h,jC f h r]
theorem nh {α:Type} {tg:Tg} {elt:Ex} {η:Env} (g:α->T) (f:α->Val):∀ l:List α,(∀ a∈l,∃ η',tg (g a) η=some η'/\elt η'=some (f a))->iN tg none elt η (l.map g)=some (l.map f)
 | [],_=>rfl
 | a :: r,h=>by
  obtain ⟨η',h1,h2⟩:=h a Zx
  simp [iN,h1,h2,nh g f r fun b hb=>h b (Zy _ hb)]
theorem jv {α:Type} {tg:Tg} {c elt:Ex} {η:Env} (g:α->T) (p:α->Bool) (f:α->Val):∀ l:List α,(∀ a∈l,∃ η' x,tg (g a) η=some η'/\c η'=some x/\tru x.2=some (p a)/\(p a=true->elt η'=some (f a))) →
  iN tg (some c) elt η (l.map g)=some ((l.filter p).map f)
 | [],_=>rfl
 | a :: r,h=>by
  obtain ⟨η',x,h1,h2,h3,h4⟩:=h a Zx
  have ih:=jv (c:=c) g p f r fun b hb=>h b (Zy _ hb)
  cases e:p a with
  | true=>simp [-tru,iN,h1,h2,h3,e,h4 e,ih]
  | false=>simp [-tru,iN,h1,h2,h3,e,ih]
theorem lj {α:Type} (f:α->T):∀ l:List α,b7 (l.map fun a=>(Md.fr,f a))=.fr
 | []=>rfl
 | a :: r=>by simp [lj f r]
theorem mG {α:Type} (f:α->Val) (l:List α):trees (l.map f)=l.map fun a=>(f a).2:=by simp
theorem iG {α:Type} {k:Nat} {tg:Tg} {it:Its} {elt:Ex} {η:Env} {m:Md} (g:α->T) (f:α->T) (l:List α) (hi:it η=some (m,l.map g)) (hk:okI m (l.map g)=true) (hl:l.length<=16777216)
  (h:∀ a∈l,∃ η',tg (g a) (List.replicate k none++η)=some η'/\elt η'=some (.fr,f a)):dE k tg it none elt η=some (.fr,.lst (l.map f)):=by
 simp only [dE,hi,Zu]
 rw [Zq hk,nh g (fun a=>(Md.fr,f a)) l h]
 simp only [Zu,lj,mG]
 rw [kY (by rw [Zv];exact hl)]
 simp
theorem nB {α:Type} {k:Nat} {tg:Tg} {it:Its} {c elt:Ex} {η:Env} {m:Md} (g:α->T) (p:α->Bool) (f:α->T) (l:List α) (hi:it η=some (m,l.map g)) (hk:okI m (l.map g)=true) (hl:l.length<=16777216)
  (h:∀ a∈l,∃ η' x,tg (g a) (List.replicate k none++η)=some η'/\c η'=some x/\tru x.2=some (p a)/\(p a=true->elt η'=some (.fr,f a))):dE k tg it (some c) elt η=some (.fr,.lst ((l.filter p).map f)):=by
 simp only [dE,hi,Zu]
 rw [Zq hk,jv g p (fun a=>(Md.fr,f a)) l h]
 simp only [Zu,lj,mG]
 rw [kY (by rw [Zv];exact ZG (Xw _ _) hl)]
 simp
end VS
end
section
namespace L2
open PySem PySem.Spec PyProof.Rows
noncomputable abbrev Key:=Sum Int Str
noncomputable def ku:Key->Value->Bool
 | .inl k,v=>Value.isInt k v
 | .inr x,v=>Value.isStrOf x v
noncomputable def Do (w:World):Key->Int
 | .inl k=>hashInt k
 | .inr x=>hashStr w x
theorem bx:∀ {k:Key} {v:Value},ku k v=true->(∃ i t,k=Sum.inl i/\v=Value.int i t)\/(∃ x t,k=Sum.inr x/\v=Value.str x t)
 | .inl i,v,h=>by
  obtain ⟨t,e⟩:=Value.isInt_shape (k:=i) (v:=v) h
  exact .inl ⟨i,t,rfl,e⟩
 | .inr x,v,h=>by
  obtain ⟨t,e⟩:=Value.isStrOf_shape (x:=x) (v:=v) h
  exact .inr ⟨x,t,rfl,e⟩
theorem ue (i:Int) (t:Tok):ku (.inl i) (.int i t)=true:=by simp [ku,Value.isInt]
theorem uA (x:Str) (t:Tok):ku (.inr x) (.str x t)=true:=by simp [ku,Value.isStrOf]
theorem Bn (a b:Int):decide ((Sum.inl a:Key)=Sum.inl b)=(a == b):=by
 by_cases e:a=b
 ·subst e;simp
 ·have h:¬ (Sum.inl a:Key)=Sum.inl b:=fun q=>e (Sum.inl.inj q)
  rw [ZU h]
  exact (ZO.mpr e).symm
theorem AI (a b:Str):decide ((Sum.inr a:Key)=Sum.inr b)=decide (a=b):=by
 by_cases e:a=b
 ·subst e;simp
 ·have h:¬ (Sum.inr a:Key)=Sum.inr b:=fun q=>e (Sum.inr.inj q)
  rw [ZU h,ZU e]
theorem Bz (a:Int) (b:Str):decide ((Sum.inl a:Key)=Sum.inr b)=false:=ZU (fun q=>nomatch q)
theorem Bi (a:Str) (b:Int):decide ((Sum.inr a:Key)=Sum.inl b)=false:=ZU (fun q=>nomatch q)
noncomputable def aM (prog:Program) (w:World):PySem.KeyKind prog w Key where
 is:=ku
 hash:=Do w
 inj:=fun v a b ha hb=>by
  rcases bx ha with ⟨i,t,rfl,rfl⟩ | ⟨x,t,rfl,rfl⟩
  ·rcases bx hb with ⟨j,u,rfl,e⟩ | ⟨y,u,rfl,e⟩
   ·injection e with e1 _;rw [e1]
   ·exact nomatch e
  ·rcases bx hb with ⟨j,u,rfl,e⟩ | ⟨y,u,rfl,e⟩
   ·exact nomatch e
   ·injection e with e1 _;rw [e1]
 byValue:=fun k v h=>by
  rcases bx h with ⟨i,t,rfl,rfl⟩ | ⟨x,t,rfl,rfl⟩ <;> rfl
 pyHash:=fun hv h=>by
  rcases bx hv with ⟨i,t,rfl,rfl⟩ | ⟨x,t,rfl,rfl⟩
  ·exact wpAny_pyHash_int h
  ·exact wpAny_pyHash_str h
 eqBool:=fun hu hv h=>by
  rcases bx hu with ⟨i,t,rfl,rfl⟩ | ⟨x,t,rfl,rfl⟩
  ·rcases bx hv with ⟨j,u,rfl,rfl⟩ | ⟨y,u,rfl,rfl⟩
   ·rw [Bn] at h;exact wpAny_eqBool_int h
   ·rw [Bz] at h;exact SeqAt.EqAt.int_str i t y u _ _ _ _ h
  ·rcases bx hv with ⟨j,u,rfl,rfl⟩ | ⟨y,u,rfl,rfl⟩
   ·rw [Bi] at h;exact SeqAt.EqAt.str_int x t j u _ _ _ _ h
   ·rw [AI] at h;exact wpAny_eqBool_str h
 «strs» := fun k x t v h=>by
  rcases bx h with ⟨i,u,rfl,e⟩ | ⟨y,u,rfl,e⟩
  ·exact nomatch e
  ·injection e with e1 _
   subst e1
   cases v <;> rfl
theorem pA (prog:Program) (w:World) (i:Int) (t:Tok):(aM prog w).is (.inl i) (.int i t)=true:=ue i t
theorem p7 (prog:Program) (w:World) (x:Str) (t:Tok):(aM prog w).is (.inr x) (.str x t)=true:=uA x t
inductive V where
 | non | bl (b:Bool) | int (i:Int) | str (x:Str) | byt (b:Array UInt8) | flt (b:UInt64) | ref (a:Addr) | ty (n:String)
 deriving DecidableEq
noncomputable def RelV:V->Value->Prop
 | .non,u=>u=Value.none
 | .bl b,u=>u=Value.bool b
 | .int i,u=>∃ t,u=Value.int i t
 | .str x,u=>∃ t,u=Value.str x t
 | .byt b,u=>∃ t,u=Value.bytes b t
 | .flt b,u=>∃ t,u=Value.float b t
 | .ref a,u=>u=Value.ref a
 | .ty n,u=>u=Value.type n
noncomputable abbrev aO:List V->Wx->Prop:=Paired RelV
theorem aO.length {xs:List V} {us:Wx} (r:aO xs us):xs.length=us.length:=Y8 r
theorem aO.get:∀ {xs:List V} {us:Wx} {i:Nat} {x:V},aO xs us->xs[i]?=some x->∃ u,us[i]?=some u/\RelV x u
 | _,_,_,_,.nil,e=>by simp at e
 | _,_,0,_,.cons r _,e=>by simp at e;subst e;exact ⟨_,rfl,r⟩
 | _,_,i+1,x,.cons _ t,e=>by
  obtain ⟨u,h1,h2⟩:=aO.get (i:=i) (x:=x) t (by simpa using e)
  exact ⟨u,by simpa using h1,h2⟩
theorem aO.set {x:V} {u:Value} (r:RelV x u):∀ {xs:List V} {us:Wx} (i:Nat),aO xs us->aO (xs.set i x) (us.set i u)
 | _,_,_,.nil=>.nil
 | _,_,0,.cons _ t=>.cons r t
 | _,_,i+1,.cons q t=>.cons q (aO.set r i t)
theorem aO.append:∀ {xs ys:List V} {us ws:Wx},aO xs us->aO ys ws->aO (xs++ys) (us++ws)
 | _,_,_,_,.nil,s=>s
 | _,_,_,_,.cons r t,s=>.cons r (aO.append t s)
theorem aO.take:∀ {xs:List V} {us:Wx} (n:Nat),aO xs us->aO (xs.take n) (us.take n)
 | _,_,0,_=>.nil
 | _,_,_+1,.nil=>.nil
 | _,_,n+1,.cons r t=>.cons r (aO.take n t)
theorem aO.drop:∀ {xs:List V} {us:Wx} (n:Nat),aO xs us->aO (xs.drop n) (us.drop n)
 | _,_,0,r=>r
 | _,_,_+1,.nil=>.nil
 | _,_,n+1,.cons _ t=>aO.drop n t
noncomputable def gU:Option V->Ww->Prop
 | some v,some u=>RelV v u
 | none,none=>True
 | _,_=>False
noncomputable def KV {κ:Type}:List (κ×V)->List (κ×Value)->Prop:=Paired fun (p:κ×V) (q:κ×Value)=>p.1=q.1/\RelV p.2 q.2
noncomputable def kV:Key->V
 | .inl i=>.int i
 | .inr x=>.str x
inductive HO where
 | lst (xs:List V)
 | tup (xs:List V)
 | dK (kvs:List (Key×V)) | dT (kvs:List (List Key×V))
 | set (S:Int->Bool) (n:Nat)
 | ins (C dx:Addr) (fs:List (Str×V))
 | own (x:Addr)
 | xd (fs:List (Str×V))
 | met (f x:Addr)
 | rng (lo hi:Int)
 | frz (o:Obj) (u:HO)
 | tbl (ps:Array Value)
 | ext (φ:Heap->Prop)
noncomputable abbrev Hp:=Addr->Option HO
noncomputable def upd (H:Hp) (a:Addr) (o:HO):Hp:=fun b=>if b=a then some o else H b
theorem ar {H:Hp} {a:Addr} {o:HO}:upd H a o a=some o:=by unfold upd;rw [Zq rfl]
theorem ax {H:Hp} {a b:Addr} {o:HO} (h:b ≠ a):upd H a o b=H b:=by unfold upd;rw [Zm h]
theorem zo {H:Hp} {a:Addr} {o u:HO}:upd (upd H a o) a u=upd H a u:=by
 funext b;unfold upd;split <;> rfl
theorem Co {H:Hp} {a b:Addr} {o u:HO} (h:H a=some o) (h':H b=some u) (d:o ≠ u):a ≠ b:=by
 intro e;subst e;rw [h] at h';exact d (Zk h')
theorem bE {H:Hp} {a b:Addr} {o:HO} (h:H a=some o) (h':H b=none):a ≠ b:=by
 intro e;subst e;rw [h] at h';cases h'
noncomputable def NoD (h:Heap) (a:Addr):Prop:=∀ o,h.get? a=some o->o.dict=none
theorem NoD.new (h:Heap) (its:Array Value):NoD (h.push { cls:=.type "tuple",data:=.seq its }) h.objs.size:=fun o e=>by
 rw [ZP _ rfl] at e
 cases e
 rfl
theorem NoD.of {h:Heap} {a:Addr} {o:Obj} (e:h.get? a=some o) (d:o.dict=none):NoD h a:=fun o' e'=>by
 rw [e] at e'
 cases e'
 exact d
section
variable (P:Program) (w:World)
noncomputable def bF (H:Hp) (h:Heap) (a:Addr):HO->Prop
 | .lst xs=>xs.length<=sizeLine/\∃ (its:Wx) (n:Nat),aO xs its/\h.get? a=some { cls:=.type "list",data:=.seq its.toArray n }
 | .tup xs=>xs.length<=sizeLine/\∃ its:Wx,aO xs its/\NoD h a/\IsTup h a its.toArray
 | .dK kvs=>kvs.length<=sizeLine/\(a == sysModules)=false/\∃ vs,KV kvs vs/\h.DictOf (aM P w) a vs
 | .dT kvs=>kvs.length<=sizeLine/\(a == sysModules)=false/\∃ xs:List (List Key×Addr×Value),
   Paired (fun (p:List Key×V) (q:List Key×Addr×Value)=>p.1=q.1/\H q.2.1=some (.tup (p.1.map kV))/\RelV p.2 q.2.2) kvs xs ∧
   ∃ o es ep,h.get? a=some o/\o.ExactDict/\o.data=.dict es ep/\es.toList=xs.map (entryOfKey (tupleKind (aM P w)))/\(xs.map (·.1)).Nodup
 | .set S n=>h.SetOf (intKind P w) a S n
 | .ins C dx fs=>H dx=some (.own a)/\fs.length<=1000/\dx ≠ a/\h.get? a=some (PySem.W.instObj C dx) ∧
   ∃ mA,h.Ns1 dx mA/\(∀ f,gU (fs.lookup f) (mA f))/\PySem.Within mA (fs.map (·.1))
 | .own _=>∃ o,h.get? a=some o
 | .xd fs=>∃ mA,h.Ns1 a mA/\∀ f,gU (fs.lookup f) (mA f)
 | .rng lo hi=>∃ t u v,h.get? a=some { cls:=.type "range",data:=.fields #[.int lo t,.int hi u,.int 1 v] }
 | .frz o u=>h.get? a=some o/\bF H h a u
 | .tbl ps=>h.get? a=some { cls:=.none,data:=.fields ps }
 | .met f x=>h.get? a=some (PySem.W.methodObj (.ref f) (.ref x))
 | .ext φ=>φ h/\(∃ o,h.get? a=some o)/\∀ h1 h2:Heap,φ h1->(∀ o,h1.get? a=some o->h2.get? a=some o)->φ h2
noncomputable def HOk (H:Hp) (h:Heap):Prop:=∀ a o,H a=some o->bF P w H h a o
end
section
variable {P:Program} {w:World} {H H':Hp} {h h':Heap} {a:Addr} {o:HO}
theorem bF.lt (x:bF P w H h a o):a < h.objs.size:=by
 cases o with
 | lst xs=>obtain ⟨_,_,_,_,e⟩:=x;exact ZS e
 | tup xs=>obtain ⟨_,_,_,_,p⟩:=x;exact p.lt
 | dK kvs=>obtain ⟨_,_,_,_,o,_,_,e,_⟩:=x;exact ZS e
 | dT kvs=>obtain ⟨_,_,_,_,o,_,_,e,_⟩:=x;exact ZS e
 | set S n=>obtain ⟨o,_,_,_,e,_⟩:=x;exact ZS e
 | ins C dx fs=>obtain ⟨_,_,_,e,_⟩:=x;exact ZS e
 | own y=>obtain ⟨_,e⟩:=x;exact ZS e
 | xd fs=>obtain ⟨_,⟨_,_,_,e,_⟩,_⟩:=x;exact ZS e
 | rng lo hi=>obtain ⟨_,_,_,e⟩:=x;exact ZS e
 | frz ob u=>obtain ⟨e,_⟩:=x;exact ZS e
 | tbl ps=>exact ZS (show h.get? a=some _ from x)
 | met f y=>exact ZS (show h.get? a=some _ from x)
 | ext φ=>obtain ⟨_,⟨_,e⟩,_⟩:=x;exact ZS e
theorem Paired.mapP {α β:Type} {F G:α->β->Prop}:∀ {l₁:List α} {l₂:List β},Paired F l₁ l₂->(∀ a b,F a b->G a b)->Paired G l₁ l₂
 | _,_,.nil,_=>.nil
 | _,_,.cons r t,f=>.cons (f _ _ r) (Paired.mapP t f)
theorem bF.stay (x:bF P w H h a o) (k:∀ b u,(b=a\/H b=some (.own a))->h.get? b=some u->h'.get? b=some u)
  (ho:∀ b,H b=some (.own a)->H' b=some (.own a)) (ht:∀ b xs,H b=some (.tup xs)->H' b=some (.tup xs)):bF P w H' h' a o:=by
 induction o with
 | lst xs=>obtain ⟨z,its,n,r,e⟩:=x;exact ⟨z,its,n,r,k _ _ (.inl rfl) e⟩
 | tup xs=>obtain ⟨z,its,r,nd,ob,e,c⟩:=x;exact ⟨z,its,r,NoD.of (k _ _ (.inl rfl) e) (nd _ e),ob,k _ _ (.inl rfl) e,c⟩
 | dK kvs=>obtain ⟨z,y,vs,r,ob,es,ep,e,c⟩:=x;exact ⟨z,y,vs,r,ob,es,ep,k _ _ (.inl rfl) e,c⟩
 | dT kvs =>
  obtain ⟨z,y,xs,r,ob,es,ep,e,c⟩:=x
  exact ⟨z,y,xs,Paired.mapP r fun p q z=>⟨z.1,ht _ _ z.2.1,z.2.2⟩,ob,es,ep,k _ _ (.inl rfl) e,c⟩
 | set S n=>obtain ⟨ob,es,ep,t,e,c⟩:=x;exact ⟨ob,es,ep,t,k _ _ (.inl rfl) e,c⟩
 | ins C dx fs =>
  obtain ⟨d,z,ne,e,mA,⟨od,es,ep,e2,c⟩,r⟩:=x
  exact ⟨ho _ d,z,ne,k _ _ (.inl rfl) e,mA,⟨od,es,ep,k _ _ (.inr d) e2,c⟩,r⟩
 | own y=>obtain ⟨ob,e⟩:=x;exact ⟨ob,k _ _ (.inl rfl) e⟩
 | xd fs=>obtain ⟨mA,⟨od,es,ep,e,c⟩,r⟩:=x;exact ⟨mA,⟨od,es,ep,k _ _ (.inl rfl) e,c⟩,r⟩
 | rng lo hi=>obtain ⟨t,u,v,e⟩:=x;exact ⟨t,u,v,k _ _ (.inl rfl) e⟩
 | frz ob u ih=>obtain ⟨e,q⟩:=x;exact ⟨k _ _ (.inl rfl) e,ih q⟩
 | tbl ps =>
  have e:h.get? a=some { cls:=.none,data:=.fields ps }:=x
  show h'.get? a=some { cls:=.none,data:=.fields ps }
  exact k a _ (.inl rfl) e
 | met f y =>
  have e:h.get? a=some (PySem.W.methodObj (.ref f) (.ref y)):=x
  show h'.get? a=some (PySem.W.methodObj (.ref f) (.ref y))
  exact k a _ (.inl rfl) e
 | ext φ=>obtain ⟨p,⟨o,e⟩,st⟩:=x;exact ⟨st _ _ p fun o q=>k _ _ (.inl rfl) q,⟨o,k _ _ (.inl rfl) e⟩,st⟩
theorem HOk.lt (x:HOk P w H h) (e:H a=some o):a < h.objs.size:=(x a o e).lt
theorem HOk.fresh (x:HOk P w H h) (e:h.objs.size<=a):H a=none:=by
 cases q:H a with
 | none=>rfl
 | some u=>exact absurd (ZM (x.lt q) e) (Yf _)
theorem HOk.kept (x:HOk P w H h) (k:∀ b u,h.get? b=some u->h'.get? b=some u):HOk P w H h':=fun a o e =>
 (x a o e).stay (fun b u _ q=>k b u q) (fun _ q=>q) fun _ _ q=>q
theorem HOk.laid (x:HOk P w H h) (k:∀ b u,h.get? b=some u->h'.get? b=some u) (hp:h.objs.size<=a) (new:bF P w (upd H a o) h' a o):HOk P w (upd H a o) h':=fun b u e=>by
 have hn:=x.fresh hp
 by_cases hb:b=a
 ·subst hb;rw [ar] at e;cases e;exact new
 ·rw [ax hb] at e
  exact (x b u e).stay (fun c v _ q=>k c v q) (fun c q=>by rw [ax (bE q hn)];exact q) fun c xs q=>by rw [ax (bE q hn)];exact q
end
noncomputable def Rd (H:Hp) (a:Addr) (u:HO):Prop:=H a=some u\/∃ o,H a=some (.frz o u)
theorem Rd.ok {P:Program} {w:World} {H:Hp} {h:Heap} {a:Addr} {u:HO} (r:Rd H a u) (x:HOk P w H h):bF P w H h a u:=by
 rcases r with r | ⟨o,r⟩
 ·exact x a u r
 ·obtain ⟨_,q⟩:=x a _ r
  exact q
noncomputable def Mut:Option HO->Prop
 | some (.lst _)=>True
 | some (.dK _)=>True
 | some (.dT _)=>True
 | some (.set _ _)=>True
 | some (.ins _ _ _)=>True
 | some (.ext _)=>True
 | _=>False
section
variable {P:Program} {w:World} {H:Hp} {h h':Heap} {x e:Addr} {o':HO}
theorem HOk.write (ok:HOk P w H h) (mu:Mut (H x)) (he:e=x\/H e=some (.own x)) (k:∀ b u,b ≠ e->h.get? b=some u->h'.get? b=some u) (heo:∃ u,h'.get? e=some u)
  (new:bF P w (upd H x o') h' x o'):HOk P w (upd H x o') h':=fun b u q=>by
 have nown:∀ c y,H c=some (.own y)->c ≠ x:=fun c y r z=>by subst z;rw [r] at mu;exact mu
 have ntup:∀ c xs,H c=some (.tup xs)->c ≠ x:=fun c xs r z=>by subst z;rw [r] at mu;exact mu
 by_cases hb:b=x
 ·subst hb;rw [ar] at q;cases q;exact new
 ·rw [ax hb] at q
  by_cases hbe:b=e
  ·have q':H b=some (.own x):=by
    rcases he with z | z
    ·exact absurd (hbe.trans z) hb
    ·rw [hbe];exact z
   rw [q] at q';cases q'
   obtain ⟨v,hv⟩:=heo
   exact ⟨v,by rw [hbe];exact hv⟩
  ·refine (ok b u q).stay (fun c v hc r=>k c v ?_ r) (fun c r=>by rw [ax (nown c b r)];exact r) fun c xs r=>by rw [ax (ntup c xs r)];exact r
   rcases hc with rfl | hc
   ·exact hbe
   ·rintro rfl
    rcases he with z | z
    ·exact nown c b hc z
    ·rw [hc] at z;cases z;exact hb rfl
end
structure Un (fs ex:X0) (H H':Hp) (h h':Heap):Prop where
 keep:∀ b o,h.get? b=some o->H b=none->b ∉ fs->b ∉ ex->h'.get? b=some o
 slot:∀ b o,h.get? b=some o->H b=none->b∈fs->b ∉ ex->∃ sl,h'.get? b=some { o with slots:=sl }
 free:∀ b o,h.get? b=some o->H b=none->b ∉ ex->H' b=none
 there:∀ b o,h.get? b=some o->b ∉ ex->∃ o',h'.get? b=some o'
 tups:∀ b xs,H b=some (.tup xs)->H' b=some (.tup xs)
 frzs:∀ b o u,H b=some (.frz o u)->H' b=some (.frz o u)
 tbls:∀ b ps,H b=some (.tbl ps)->∃ more,H' b=some (.tbl (ps++more))
section
variable {fs fs' ex ex':X0} {H H1 H2:Hp} {h h1 h2 h':Heap} {a x e:Addr} {o:HO}
theorem Un.any (u:Un fs ex H H1 h h1) {b:Addr} {ob:Obj} (q:h.get? b=some ob) (n:H b=none) (hx:b ∉ ex):∃ sl,h1.get? b=some { ob with slots:=sl }:=by
 by_cases hb:b∈fs
 ·exact u.slot b ob q n hb hx
 ·exact ⟨ob.slots,u.keep b ob q n hb hx⟩
theorem Un.kept (k:∀ b u,h.get? b=some u->h'.get? b=some u):Un fs ex H H h h' :=
 ⟨fun b ob q _ _ _=>k b ob q,fun b ob q _ _ _=>⟨ob.slots,k b ob q⟩,fun _ _ _ n _=>n,fun b ob q _=>⟨ob,k b ob q⟩,fun _ _ q=>q,fun _ _ _ q=>q,fun _ ps q=>⟨#[],by rw [q];simp⟩⟩
theorem Un.refl:Un fs ex H H h h:=Un.kept fun _ _ q=>q
theorem Un.laid (k:∀ b u,h.get? b=some u->h'.get? b=some u) (hp:h.objs.size<=a) (hn:H a=none):Un fs ex H (upd H a o) h h' where
 keep:=fun b u q _ _ _=>k b u q
 slot:=fun b u q _ _ _=>⟨u.slots,k b u q⟩
 free:=fun b u q n _=>by rw [ax (ZZ (ZM (ZS q) hp))];exact n
 there:=fun b u q _=>⟨u,k b u q⟩
 tups:=fun b xs q=>by rw [ax (bE q hn)];exact q
 frzs:=fun b u xs q=>by rw [ax (bE q hn)];exact q
 tbls:=fun b ps q=>⟨#[],by rw [ax (bE q hn),q];simp⟩
theorem Un.write (mu:Mut (H x)) (he:e=x\/H e=some (.own x)) (k:∀ b u,b ≠ e->h.get? b=some u->h'.get? b=some u) (heo:∃ u,h'.get? e=some u):Un fs ex H (upd H x o) h h':=by
 have hx:∀ b,H b=none->b ≠ x:=fun b n z=>by subst z;rw [n] at mu;exact mu
 have hb:∀ b,H b=none->b ≠ e:=fun b n z=>by
  subst z
  rcases he with r | r
  ·exact hx b n r
  ·rw [n] at r;cases r
 have hm:∀ b u,H b=some u->¬ Mut (some u)->b ≠ x:=fun b u q nm z=>by subst z;rw [q] at mu;exact nm mu
 refine ⟨fun b u q n _ _=>k b u (hb b n) q,fun b u q n _ _=>⟨u.slots,k b u (hb b n) q⟩,fun b u q n _=>by rw [ax (hx b n)];exact n,fun b u q _=>?_,
  fun b xs q=>by rw [ax (hm b _ q fun z=>z)];exact q,fun b u xs q=>by rw [ax (hm b _ q fun z=>z)];exact q,fun b ps q=>⟨#[],by rw [ax (hm b _ q fun z=>z),q];simp⟩⟩
 by_cases hbe:b=e
 ·subst hbe;exact heo
 ·exact ⟨u,k b u hbe q⟩
end
noncomputable def trk (h:Heap) (H:Hp):X0:=(List.range h.objs.size).filter fun a=>(H a).isSome
noncomputable def nQ (h:Heap) (H:Hp):Heap:=PySem.W.hideAll h (trk h H)
theorem uj (h:Heap) (H:Hp):(nQ h H).objs.size=h.objs.size:=PySem.W.hideAll_size _ _
theorem wI {h:Heap} {H:Hp} {b:Addr} {o:Obj} (e:h.get? b=some o) (n:H b=none):(nQ h H).get? b=some o :=
 PySem.W.hideAll_get _ e fun hm=>by
  have q:(H b).isSome=true:=(Ya.mp hm).2
  rw [n] at q;simp at q
theorem yB {h:Heap} {H:Hp} {b:Addr} {o:Obj} (e:(nQ h H).get? b=some o):h.get? b=some o/\H b=none:=by
 have e':h.get? b=some o:=PySem.W.of_hideAll (trk h H) e
 refine ⟨e',?_⟩
 cases q:H b with
 | none=>rfl
 | some x =>
  have hm:b∈trk h H:=Ya.mpr ⟨Yu.mpr (ZS e'),by simp [q]⟩
  have z:(nQ h H).get? b=none:=PySem.W.hideAll_none (trk h H) hm
  rw [z] at e;cases e
noncomputable def yk (g h:Heap) (L:Addr):Z7:=(List.range h.objs.size).filterMap fun a=>if a=L\/(g.get? a).isSome=true then none else (h.get? a).map fun o=>(a,o)
noncomputable def rest (g h:Heap) (L d:Addr):Z7:=(yk g h L).filter fun p=>decide (p.1 ≠ d)
structure Mod (K:Y2) (mg:Xu) (base:Heap):Prop where
 kin:K.In base
 glob:base.Ns mainGlobals mg
 blt:∃ mb,base.Ns builtinsNs mb/\∀ x:Str,x ≠ "__name__" → mb x=bootBuiltins x
 nolimit:base.NoLimit
structure Cx where
 prog:Program
 w:World
 K:Y2
 mg:Xu
 base:Heap
 A:Around
 N:List Str
 s₀:Shared
 H₀:Hp
 env:Env
 outer:List Env
 stack:List Env
 ex:X0
 fn:Str->Bool
 calm:Bool
 pn:Z7
 xe:Z0
noncomputable def frs (l:List Env):X0:=l.filterMap (·.frame)
noncomputable abbrev Cx.fs (X:Cx):X0:=frs X.outer
noncomputable def Vis (sc:Scope) (x:Str):Prop:=sc.names.lookup x=some .local\/sc.names.lookup x=some .cell\/sc.names.lookup x=some .free
noncomputable def Loc (sc:Scope) (x:Str):Prop:=sc.names.lookup x=some .local\/sc.names.lookup x=some .cell
noncomputable def Look (env:Env) (h:Heap) (m:Xu) (x:Str) (u:Value):Prop :=
 (env.kindOf x=some .local/\m x=some u)\/((env.kindOf x=some .cell\/env.kindOf x=some .free)/\∃ c,env.cells.lookup x=some c/\h.IsCell c (some u))
structure Cx.Ok (X:Cx):Prop where
 mod:Mod X.K X.mg X.base
 kind:X.env.scope.kind=.function
 glob:X.env.globals=mainGlobals
 blt:X.env.builtins=builtinsNs
 above:X.s₀.heap.objs.size<=X.env.locals
 inj:∀ x y c,X.env.cells.lookup x=some c->X.env.cells.lookup y=some c->x=y
 has:∀ x,(X.env.kindOf x=some .cell\/X.env.kindOf x=some .free)->∃ c,X.env.cells.lookup x=some c
 cab:∀ x c,X.fn x=true->X.env.cells.lookup x=some c->X.s₀.heap.objs.size<=c
 hd:X.calm=true->X.A.handled=none
 frames:X.A.frames=some X.stack
 stk:X.stack=X.outer\/(X.stack=X.env :: X.outer/\X.env.frame=some X.env.locals)
 exf:∀ b∈X.ex,b ≠ X.env.locals/\∀ x c,X.env.cells.lookup x=some c->c ≠ b
 bs:∀ b o,X.base.get? b=some o->X.s₀.heap.get? b=some o/\X.H₀ b=none
 bsz:X.base.objs.size<=X.s₀.heap.objs.size
 noex:∀ b o,X.base.get? b=some o->b ∉ X.ex
 exfs:∀ b∈X.ex,b ∉ X.fs
 funs:X.s₀.heap.FunFrames X.base X.outer
 frf:∀ b∈X.fs,X.H₀ b=none
structure Inv (X:Cx) (pins:Z7) (σ:List (Option V)) (H:Hp) (s:Shared):Prop where
 ok:X.Ok
 os:s.os=X.s₀.os
 bare:AllBare s.gens
 base:Un X.fs X.ex X.H₀ H X.s₀.heap s.heap
 loc:∃ m,s.heap.Ns X.env.locals m/\∀ (i:Nat) (x:Str) (v:V),X.N[i]?=some x->σ[i]?=some (some v)->Vis X.env.scope x->∃ u,RelV v u/\Look X.env s.heap m x u
 cell:∀ x c,X.env.cells.lookup x=some c->∃ v,s.heap.IsCell c v
 free:H X.env.locals=none
 freeC:∀ x c,X.env.cells.lookup x=some c->H c=none
 pin:∀ p∈X.pn++pins,s.heap.get? p.1=some p.2/\H p.1=none/\p.1 ≠ X.env.locals/\p.1 ∉ X.fs/\∀ v,p.2.data ≠ .cell v
 hok:HOk X.prog X.w H s.heap
 len:σ.length=X.N.length
section
variable {X:Cx} {pins:Z7} {σ:List (Option V)} {H H':Hp} {s:Shared} {h':Heap}
theorem Cx.Ok.nofr (ok:X.Ok) {b:Addr} {o:Obj} (e:X.base.get? b=some o):b ∉ X.fs:=fun hb=>by
 have:=(ok.funs.mem hb).1
 rw [e] at this;cases this
theorem Inv.bs (I:Inv X pins σ H s):∀ b o,X.base.get? b=some o->s.heap.get? b=some o/\H b=none:=fun b o e =>
 ⟨I.base.keep b o (I.ok.bs b o e).1 (I.ok.bs b o e).2 (I.ok.nofr e) (I.ok.noex b o e),I.base.free b o (I.ok.bs b o e).1 (I.ok.bs b o e).2 (I.ok.noex b o e)⟩
theorem Inv.bk (I:Inv X pins σ H s):∀ b o,X.base.get? b=some o->s.heap.get? b=some o:=fun b o e=>(I.bs b o e).1
theorem Inv.mod (I:Inv X pins σ H s):Mod X.K X.mg X.base:=I.ok.mod
theorem Inv.kIn (I:Inv X pins σ H s):X.K.In s.heap:=I.ok.mod.kin.keeps I.bk
theorem Inv.lt (I:Inv X pins σ H s):X.env.locals < s.heap.objs.size:=let ⟨_,hn,_⟩:=I.loc;hn.lt
theorem Inv.sz (I:Inv X pins σ H s):X.s₀.heap.objs.size<=s.heap.objs.size:=ZG I.ok.above (X5 I.lt)
theorem Inv.nofs (I:Inv X pins σ H s) {a:Addr} (h:s.heap.objs.size<=a):a ∉ X.fs:=fun hb=>by
 obtain ⟨_,o,ho,_⟩:=I.ok.funs.mem hb
 exact absurd (ZM (ZS ho) (ZG I.sz h)) (Yf _)
theorem Inv.cne (I:Inv X pins σ H s):∀ x c,X.env.cells.lookup x=some c->c ≠ X.env.locals:=fun x c e z=>by
 obtain ⟨v,o,ho,hd⟩:=I.cell x c e
 obtain ⟨m,⟨o',es,ep,ho',hd',_⟩,_⟩:=I.loc
 rw [z,ho'] at ho;cases ho;rw [hd'] at hd;cases hd
theorem Inv.funs (I:Inv X pins σ H s):s.heap.FunFrames X.base X.outer:=by
 have all:∀ (l:List Env),(∀ b∈frs l,b∈X.fs)->X.s₀.heap.FunFrames X.base l->s.heap.FunFrames X.base l:=by
  intro l
  induction l with
  | nil=>intro _ _;trivial
  | cons env r ih =>
   intro hs hl
   obtain ⟨hk,⟨L,o,hf,hn,ho,hd⟩,hr⟩:=hl
   have hL:L∈X.fs:=hs L (by unfold frs;rw [XF,hf];exact Zx)
   obtain ⟨sl,e⟩:=I.base.slot L o ho (I.ok.frf L hL) hL fun z=>I.ok.exfs L z hL
   exact ⟨hk,⟨L,_,hf,hn,e,hd⟩,ih (fun b hb=>hs b (by unfold frs;rw [XF,hf];exact Zy _ hb)) hr⟩
 exact all X.outer (fun _ hb=>hb) I.ok.funs
theorem Inv.stack (I:Inv X pins σ H s):s.heap.FunFrames X.base X.stack:=by
 rcases I.ok.stk with e | ⟨e,hf⟩
 ·rw [e];exact I.funs
 ·rw [e]
  obtain ⟨m,hn,_⟩:=I.loc
  refine .cons (by rw [I.ok.kind];decide) hf hn ?_ I.funs
  exact Heap.get?_none_of_le (ZG I.ok.bsz I.ok.above)
theorem Inv.stkSub (I:Inv X pins σ H s):∀ b∈frs X.stack,b∈X.env.locals :: X.fs:=fun b hb=>by
 rcases I.ok.stk with e | ⟨e,hf⟩
 ·rw [e] at hb;exact Zy _ hb
 ·rw [e] at hb
  unfold frs at hb
  rw [XF,hf] at hb
  exact hb
theorem Inv.stkFree (I:Inv X pins σ H s):∀ b∈frs X.stack,H b=none:=fun b hb=>by
 rcases Zo.mp (I.stkSub b hb) with e | hb
 ·rw [e];exact I.free
 ·obtain ⟨_,o,ho,_⟩:=I.ok.funs.mem hb
  exact I.base.free b o ho (I.ok.frf b hb) fun z=>I.ok.exfs b z hb
theorem Inv.step {g':Array GenState} {t':Nat} {d':Drawn} {ch:X0} (I:Inv X pins σ H s)
  (hch:∀ b∈ch,(b∈X.ex\/X.s₀.heap.objs.size<=b)/\b ≠ X.env.locals/\(∀ x c,X.env.cells.lookup x=some c->c ≠ b)/\∀ p∈X.pn++pins,p.1 ≠ b)
  (keep:∀ b o,b ≠ X.env.locals->b ∉ X.fs->b ∉ ch->s.heap.get? b=some o->H b=none->h'.get? b=some o)
  (slot:∀ b o,b ≠ X.env.locals->b∈X.fs->b ∉ ch->s.heap.get? b=some o->H b=none->∃ sl,h'.get? b=some { o with slots:=sl }) (free:∀ b o,b ∉ ch->s.heap.get? b=some o->H b=none->H' b=none)
  (there:∀ b o,b ∉ ch->s.heap.get? b=some o->∃ o',h'.get? b=some o')
  (tups:∀ b xs,H b=some (.tup xs)->H' b=some (.tup xs)) (frzs:∀ b o u,H b=some (.frz o u)->H' b=some (.frz o u)) (tbls:∀ b ps,H b=some (.tbl ps)->∃ more,H' b=some (.tbl (ps++more)))
  (ns:∀ m,s.heap.Ns X.env.locals m->h'.Ns X.env.locals m) (hok:HOk X.prog X.w H' h') (hg:AllBare g') :
  Inv X pins σ H' { s with heap:=h',gens:=g',drawn:=d',toks:=t' }:=by
 have neL:∀ b o,X.s₀.heap.get? b=some o->b ≠ X.env.locals:=fun b o e=>ZZ (ZM (ZS e) I.ok.above)
 have neC:∀ b o,X.s₀.heap.get? b=some o->b ∉ X.ex->b ∉ ch:=fun b o e hx hb=>by
  rcases (hch b hb).1 with z | z
  ·exact hx z
  ·exact absurd (ZM (ZS e) z) (Yf _)
 have cellK:∀ x c,X.env.cells.lookup x=some c->∀ v,s.heap.IsCell c v->h'.IsCell c v:=fun x c e v ⟨o,ho,hd⟩=>by
  have nch:c ∉ ch:=fun z=>(hch c z).2.2.1 x c e rfl
  by_cases hc:c∈X.fs
  ·obtain ⟨sl,q⟩:=slot c o (I.cne x c e) hc nch ho (I.freeC x c e)
   exact ⟨_,q,hd⟩
  ·exact ⟨o,keep c o (I.cne x c e) hc nch ho (I.freeC x c e),hd⟩
 refine ⟨I.ok,I.os,hg,⟨fun b o e n hb hx=>?_,fun b o e n hb hx=>?_,fun b o e n hx=>?_,fun b o e hx=>?_,fun b xs e=>tups b xs (I.base.tups b xs e),fun b o xs e=>frzs b o xs (I.base.frzs b o xs e),fun b ps e=>?_⟩,?_,fun x c e=>?_,?_,fun x c e=>?_,fun p hp=>?_,hok,I.len⟩
 ·exact keep b o (neL b o e) hb (neC b o e hx) (I.base.keep b o e n hb hx) (I.base.free b o e n hx)
 ·obtain ⟨sl,e1⟩:=I.base.slot b o e n hb hx
  obtain ⟨sl',e2⟩:=slot b _ (neL b o e) hb (neC b o e hx) e1 (I.base.free b o e n hx)
  exact ⟨sl',e2⟩
 ·obtain ⟨o',e1⟩:=I.base.there b o e hx
  exact free b o' (neC b o e hx) e1 (I.base.free b o e n hx)
 ·obtain ⟨o',e1⟩:=I.base.there b o e hx
  exact there b o' (neC b o e hx) e1
 ·obtain ⟨m1,e1⟩:=I.base.tbls b ps e
  obtain ⟨m2,e2⟩:=tbls b _ e1
  exact ⟨m1++m2,by rw [e2,Array.append_assoc]⟩
 ·obtain ⟨m,hn,hl⟩:=I.loc
  refine ⟨m,ns m hn,fun i x v e1 e2 e3=>?_⟩
  obtain ⟨u,r,l⟩:=hl i x v e1 e2 e3
  refine ⟨u,r,?_⟩
  rcases l with l | ⟨k,c,e,z⟩
  ·exact .inl l
  ·exact .inr ⟨k,c,e,cellK x c e _ z⟩
 ·obtain ⟨v,z⟩:=I.cell x c e
  exact ⟨v,cellK x c e v z⟩
 ·obtain ⟨m,⟨o,_,_,ho,_⟩,_⟩:=I.loc
  exact free _ o (fun z=>(hch _ z).2.1 rfl) ho I.free
 ·obtain ⟨v,o,ho,hd⟩:=I.cell x c e
  exact free c o (fun z=>(hch c z).2.2.1 x c e rfl) ho (I.freeC x c e)
 ·obtain ⟨e,n,ne,nf,d⟩:=I.pin p hp
  have nch:p.1 ∉ ch:=fun z=>(hch p.1 z).2.2.2 p hp rfl
  exact ⟨keep p.1 p.2 ne nf nch e n,free p.1 p.2 nch e n,ne,nf,d⟩
theorem Inv.un {t':Nat} (I:Inv X pins σ H s) (u:Un X.fs [] H H' s.heap h') (hok:HOk X.prog X.w H' h'):Inv X pins σ H' { s with heap:=h',toks:=t' }:=by
 obtain ⟨m,⟨o,es,ep,ho,r⟩,_⟩:=id I.loc
 obtain ⟨sl,hL⟩:=u.any ho I.free (by simp)
 exact I.step (g':=s.gens) (d':=s.drawn) (ch:=[]) (fun _ z=>nomatch z) (fun b o _ hb _ e n=>u.keep b o e n hb (by simp)) (fun b o _ hb _ e n=>u.slot b o e n hb (by simp)) (fun b o _ e n=>u.free b o e n (by simp)) (fun b o _ e=>u.there b o e (by simp)) u.tups u.frzs u.tbls (fun m' hm=>by
  obtain ⟨o',es',ep',ho',r'⟩:=hm
  rw [ho] at ho';cases ho'
  exact ⟨_,es',ep',hL,r'⟩) hok I.bare
theorem Inv.call {g':Array GenState} {t':Nat} {d':Drawn} {ch:X0} (I:Inv X pins σ H s) (u:Un (frs X.stack) ch H H' s.heap h') (hok:HOk X.prog X.w H' h') (hg:AllBare g')
  (hch:∀ b∈ch,(b∈X.ex\/X.s₀.heap.objs.size<=b)/\b ≠ X.env.locals/\(∀ x c,X.env.cells.lookup x=some c->c ≠ b)/\∀ p∈X.pn++pins,p.1 ≠ b) :
  Inv X pins σ H' { s with heap:=h',gens:=g',drawn:=d',toks:=t' }:=by
 obtain ⟨m,⟨o,es,ep,ho,r⟩,_⟩:=id I.loc
 obtain ⟨sl,hL⟩:=u.any ho I.free fun z=>(hch _ z).2.1 rfl
 exact I.step (ch:=ch) hch (fun b o hL hb hc e n=>u.keep b o e n (fun z=>(Zo.mp (I.stkSub b z)).elim hL hb) hc) (fun b o _ _ hc e n=>u.any e n hc) (fun b o hc e n=>u.free b o e n hc) (fun b o hc e=>u.there b o e hc) u.tups u.frzs u.tbls (fun m' hm=>by
  obtain ⟨o',es',ep',ho',r'⟩:=hm
  rw [ho] at ho';cases ho'
  exact ⟨_,es',ep',hL,r'⟩) hok hg
theorem Inv.turned {t':Nat} {it:Addr} (I:Inv X pins σ H s) (k:∀ b o,b ≠ it->s.heap.get? b=some o->h'.get? b=some o) (hn:H it=none) (hL:it ≠ X.env.locals)
  (h1:it∈X.ex\/X.s₀.heap.objs.size<=it) (h2:∀ x c,X.env.cells.lookup x=some c->c ≠ it) (h3:∀ p∈X.pn++pins,p.1 ≠ it):Inv X pins σ H { s with heap:=h',toks:=t' }:=by
 have nit:∀ b u,H b=some u->b ≠ it:=fun b u e z=>by rw [z,hn] at e;cases e
 refine I.step (g':=s.gens) (d':=s.drawn) (ch:=[it]) (fun b hb=>?_) (fun b o _ _ hc e _=>k b o (fun z=>hc (by simp [z])) e) (fun b o _ _ hc e _=>⟨o.slots,k b o (fun z=>hc (by simp [z])) e⟩) (fun _ _ _ _ n=>n)
  (fun b o hc e=>⟨o,k b o (fun z=>hc (by simp [z])) e⟩) (fun _ _ e=>e) (fun _ _ _ e=>e) (fun b ps e=>⟨#[],by rw [e];simp⟩) (fun m hm=>?_) (fun b u e=>?_) I.bare
 ·have e:b=it:=by simpa using hb
  subst e
  exact ⟨h1,hL,h2,h3⟩
 ·obtain ⟨o,es,ep,ho,r⟩:=hm
  exact ⟨o,es,ep,k _ o (Yk hL) ho,r⟩
 ·refine (I.hok b u e).stay (fun c v hc q=>k c v ?_ q) (fun _ q=>q) fun _ _ q=>q
  rcases hc with z | z
  ·rw [z];exact nit b u e
  ·exact nit c _ z
theorem Inv.tok (I:Inv X pins σ H s) (t:Nat):Inv X pins σ H { s with toks:=t }:=I.un (h':=s.heap) (t':=t) Un.refl I.hok
theorem Inv.kept {t':Nat} (I:Inv X pins σ H s) (k:∀ b u,s.heap.get? b=some u->h'.get? b=some u):Inv X pins σ H { s with heap:=h',toks:=t' }:=I.un (Un.kept k) (I.hok.kept k)
theorem Inv.laid {a:Addr} {o:HO} {t':Nat} (I:Inv X pins σ H s) (k:∀ b u,s.heap.get? b=some u->h'.get? b=some u) (hp:s.heap.objs.size<=a) (new:bF X.prog X.w (upd H a o) h' a o) :
  Inv X pins σ (upd H a o) { s with heap:=h',toks:=t' }:=I.un (Un.laid k hp (I.hok.fresh hp)) (I.hok.laid k hp new)
theorem Inv.write {x e:Addr} {o:HO} {t':Nat} (I:Inv X pins σ H s) (mu:Mut (H x)) (he:e=x\/H e=some (.own x)) (k:∀ b u,b ≠ e->s.heap.get? b=some u->h'.get? b=some u) (heo:∃ u,h'.get? e=some u)
  (new:bF X.prog X.w (upd H x o) h' x o):Inv X pins σ (upd H x o) { s with heap:=h',toks:=t' }:=I.un (Un.write mu he k heo) (I.hok.write mu he k heo new)
theorem Inv.pins_of {pins':Z7} (I:Inv X pins σ H s) (h:∀ p∈pins',s.heap.get? p.1=some p.2/\H p.1=none/\p.1 ≠ X.env.locals/\p.1 ∉ X.fs/\∀ v,p.2.data ≠ .cell v):Inv X pins' σ H s :=
 ⟨I.ok,I.os,I.bare,I.base,I.loc,I.cell,I.free,I.freeC,fun p hp=>(Ze.mp hp).elim (fun z=>I.pin p (Yw _ z)) (h p),I.hok,I.len⟩
theorem qr {N:List Str} (hN:N.Nodup) {i j:Nat} {x:Str} (a:N[i]?=some x) (b:N[j]?=some x):i=j:=by
 obtain ⟨h1,e1⟩:=Zf.mp a
 obtain ⟨h2,e2⟩:=Zf.mp b
 exact (List.getElem_inj hN).mp (e1.trans e2.symm)
theorem ux {M:Model} {A:Around} {E:Z0} {i:Nat} {x:Str} {v:V} {u:Value} {Q:Unit->Shared->Prop} (I:Inv X pins σ H s) (hN:X.N.Nodup) (hi:X.N[i]?=some x) (hx:Loc X.env.scope x) (r:RelV v u)
  (h:∀ s',Inv X pins (σ.set i (some v)) H s'->(∃ a,Heap.SameBut a s.heap s'.heap/\(a=X.env.locals\/X.env.cells.lookup x=some a))->Q () s') (hf:X.fn x=true\/X.env.scope.names.lookup x=some .local:=by first | exact .inl rfl | exact .inr rfl | assumption):wpAny M A (storeName X.env x u) Q E s:=by
 obtain ⟨m,hn,hl⟩:=id I.loc
 have hcls:(X.env.scope.kind == .class || (X.env.scope.kind == .module && X.env.locals != X.env.globals))=false:=by rw [I.ok.kind];rfl
 have hiσ:i < σ.length:=by rw [I.len];exact (Zf.mp hi).1
 have cne:=I.cne
 have tracked:∀ {a:Addr} {h':Heap},(∃ o,s.heap.get? a=some o/\H a=none)->Heap.SameBut a s.heap h'->HOk X.prog X.w H h':=fun {a h'} ha hs b ob e=>by
  obtain ⟨_,_,hfree⟩:=ha
  refine (I.hok b ob e).stay (fun c w' hc q=>(hs.2 c ?_).trans q) (fun _ q=>q) fun _ _ q=>q
  rintro rfl
  rcases hc with rfl | hc
  ·rw [hfree] at e;cases e
  ·rw [hfree] at hc;cases hc
 rcases hx with hk | hk
 ·refine wpAny_storeName_local hk hn (fun h' hn' hs=>?_) hcls
  obtain ⟨oL,_,_,hoL,_⟩:=id hn
  refine h _ ⟨I.ok,I.os,I.bare,⟨fun b o e n hb hx=>?_,fun b o e n hb hx=>?_,I.base.free,fun b o e hx=>?_,I.base.tups,I.base.frzs,I.base.tbls⟩,⟨_,hn',fun j y v' e1 e2 e3=>?_⟩,fun y c e=>?_,I.free,I.freeC,fun p hp=>?_,tracked ⟨oL,hoL,I.free⟩ hs,by simpa using I.len⟩ ⟨_,hs,.inl rfl⟩
  ·exact (hs.2 b (ZZ (ZM (ZS e) I.ok.above))).trans (I.base.keep b o e n hb hx)
  ·obtain ⟨sl,e1⟩:=I.base.slot b o e n hb hx
   exact ⟨sl,(hs.2 b (ZZ (ZM (ZS e) I.ok.above))).trans e1⟩
  ·obtain ⟨o',e1⟩:=I.base.there b o e hx
   exact ⟨o',(hs.2 b (ZZ (ZM (ZS e) I.ok.above))).trans e1⟩
  ·by_cases hj:j=i
   ·subst hj
    rw [hi] at e1;cases e1
    rw [YM hiσ] at e2
    cases e2
    exact ⟨u,r,.inl ⟨hk,by simp⟩⟩
   ·rw [Ys (Yk hj)] at e2
    obtain ⟨u',r',q⟩:=hl j y v' e1 e2 e3
    refine ⟨u',r',?_⟩
    rcases q with ⟨k,e⟩ | ⟨k,c,e,z⟩
    ·refine .inl ⟨k,?_⟩
     have:y ≠ x:=fun e=>hj (qr hN e1 (e ▸ hi))
     simp [this,e]
    ·exact .inr ⟨k,c,e,z.sameBut hs (cne y c e)⟩
  ·obtain ⟨w',z⟩:=I.cell y c e
   exact ⟨w',z.sameBut hs (cne y c e)⟩
  ·obtain ⟨e,n,ne,nf,d⟩:=I.pin p hp
   exact ⟨(hs.2 p.1 ne).trans e,n,ne,nf,d⟩
 ·have hfn:X.fn x=true:=by
   rcases hf with z | z
   ·exact z
   ·rw [z] at hk;cases hk
  obtain ⟨c,hc⟩:=I.ok.has x (.inl hk)
  obtain ⟨w',z⟩:=I.cell x c hc
  refine wpAny_storeName_cell I.ok.kind hk hc z (fun h' hc' hs=>?_)
  obtain ⟨oc,hoc,hocd⟩:=id z
  refine h { s with heap:=h' } ⟨I.ok,I.os,I.bare,⟨fun b o e n hb hx=>?_,fun b o e n hb hx=>?_,I.base.free,fun b o e hx=>?_,I.base.tups,I.base.frzs,I.base.tbls⟩,⟨m,hn.sameBut hs (Yk (cne x c hc)),fun j y v' e1 e2 e3=>?_⟩,fun y c' e=>?_,I.free,I.freeC,fun p hp=>?_,tracked ⟨oc,hoc,I.freeC x c hc⟩ hs,by simpa using I.len⟩ ⟨c,hs,.inr hc⟩
  ·exact (hs.2 b (ZZ (ZM (ZS e) (I.ok.cab x c hfn hc)))).trans (I.base.keep b o e n hb hx)
  ·obtain ⟨sl,e1⟩:=I.base.slot b o e n hb hx
   exact ⟨sl,(hs.2 b (ZZ (ZM (ZS e) (I.ok.cab x c hfn hc)))).trans e1⟩
  ·obtain ⟨o',e1⟩:=I.base.there b o e hx
   exact ⟨o',(hs.2 b (ZZ (ZM (ZS e) (I.ok.cab x c hfn hc)))).trans e1⟩
  ·by_cases hj:j=i
   ·subst hj
    rw [hi] at e1;cases e1
    rw [YM hiσ] at e2
    cases e2
    exact ⟨u,r,.inr ⟨.inl hk,c,hc,hc'⟩⟩
   ·rw [Ys (Yk hj)] at e2
    obtain ⟨u',r',q⟩:=hl j y v' e1 e2 e3
    refine ⟨u',r',?_⟩
    rcases q with q | ⟨k,c',e,z'⟩
    ·exact .inl q
    ·refine .inr ⟨k,c',e,z'.sameBut hs ?_⟩
     rintro rfl
     exact hj (qr hN e1 (I.ok.inj _ _ _ e hc ▸ hi))
  ·by_cases hcc:c'=c
   ·subst hcc;exact ⟨_,hc'⟩
   ·obtain ⟨w2,z2⟩:=I.cell y c' e
    exact ⟨w2,z2.sameBut hs hcc⟩
  ·obtain ⟨e,n,ne,nf,d⟩:=I.pin p hp
   refine ⟨(hs.2 p.1 ?_).trans e,n,ne,nf,d⟩
   intro q
   rw [q,hoc] at e
   have q':oc=p.2:=Zk e
   exact d w' (by rw [← q'];exact hocd)
theorem oS {M:Model} {A:Around} {E:Z0} {i:Nat} {x:Str} {v:V} {u:Value} {Q:Unit->Shared->Prop} (I:Inv X pins σ H s) (hN:X.N.Nodup) (hi:X.N[i]?=some x) (hx:Loc X.env.scope x) (r:RelV v u)
  (h:∀ s',Inv X pins (σ.set i (some v)) H s'->Q () s') (hf:X.fn x=true\/X.env.scope.names.lookup x=some .local:=by first | exact .inl rfl | exact .inr rfl | assumption):wpAny M A (storeName X.env x u) Q E s :=
 ux I hN hi hx r (fun s' I' _=>h s' I') hf
theorem Inv.call' {s':Shared} {ch:X0} (I:Inv X pins σ H s) (ho:s'.os=s.os) (u:Un (frs X.stack) ch H H' s.heap s'.heap) (hok:HOk X.prog X.w H' s'.heap) (hg:AllBare s'.gens)
  (hch:∀ b∈ch,(b∈X.ex\/X.s₀.heap.objs.size<=b)/\b ≠ X.env.locals/\(∀ x c,X.env.cells.lookup x=some c->c ≠ b)/\∀ p∈X.pn++pins,p.1 ≠ b):Inv X pins σ H' s':=by
 obtain ⟨h',g',d',t',o'⟩:=s'
 have e:o'=s.os:=ho
 subst e
 exact I.call (g':=g') (t':=t') (d':=d') u hok hg hch
end
noncomputable abbrev XK:=Value->Option Addr->Hp->Prop
noncomputable abbrev St:=List (Option V)
noncomputable abbrev VK:=V->Hp->Prop
noncomputable abbrev TE:=St->Hp->VK->Prop
noncomputable abbrev TT:=St->Hp->(Bool->Hp->Prop)->Prop
noncomputable abbrev TA:=St->Hp->(List V->Hp->Prop)->Prop
structure Ends where
 nx:St->Hp->Prop
 rt:VK
 bk:St->Hp->Prop:=fun _ _=>False
 ct:St->Hp->Prop:=fun _ _=>False
noncomputable abbrev TS:=Ends->St->Hp->Prop
noncomputable def EP (X:Cx) (pins:Z7) (σ:St) (Q:VK) (u:Value) (s':Shared):Prop:=∃ v H',Inv X pins σ H' s'/\RelV v u/\Q v H'
noncomputable def TP (X:Cx) (pins:Z7) (σ:St) (Q:Bool->Hp->Prop) (b:Bool) (s':Shared):Prop:=∃ H',Inv X pins σ H' s'/\Q b H'
noncomputable def AP (X:Cx) (pins:Z7) (σ:St) (Q:List V->Hp->Prop) (us:Wx) (s':Shared):Prop:=∃ vs H',Inv X pins σ H' s'/\aO vs us/\Q vs H'
noncomputable def SP (X:Cx) (pins:Z7) (D:Ends) (f:Flow) (s':Shared):Prop :=
 match f with
 | .next=>∃ σ' H',Inv X pins σ' H' s'/\D.nx σ' H'
 | .brk=>∃ σ' H',Inv X pins σ' H' s'/\D.bk σ' H'
 | .cont=>∃ σ' H',Inv X pins σ' H' s'/\D.ct σ' H'
 | .ret u=>∃ v σ' H',Inv X pins σ' H' s'/\RelV v u/\D.rt v H'
noncomputable def PE (X:Cx) (e:Expr) (t:TE):Prop :=
 ∀ (pins:Z7) (s:Shared) (σ:St) (H:Hp) (Q:VK),Inv X pins σ H s->t σ H Q->wpAny (model X.prog X.w) X.A (eval e X.env) (EP X pins σ Q) X.xe s
noncomputable def PT (X:Cx) (e:Expr) (t:TT):Prop :=
 ∀ (pins:Z7) (s:Shared) (σ:St) (H:Hp) (Q:Bool->Hp->Prop),Inv X pins σ H s->t σ H Q->wpAny (model X.prog X.w) X.A (isTrue e X.env (eval e X.env)) (TP X pins σ Q) X.xe s
noncomputable def PW (X:Cx) (e:Expr) (t:TT):Prop :=
 ∀ (whole:Sem Value) (pins:Z7) (s:Shared) (σ:St) (H:Hp) (Q:Bool->Hp->Prop),Inv X pins σ H s->t σ H Q->wpAny (model X.prog X.w) X.A (isTrue e X.env whole) (TP X pins σ Q) X.xe s
theorem PW.pt {X:Cx} {e:Expr} {t:TT} (h:PW X e t):PT X e t:=h _
noncomputable def PA (X:Cx) (es:List Expr) (t:TA):Prop :=
 ∀ (pos:Pos) (pins:Z7) (s:Shared) (σ:St) (H:Hp) (Q:List V->Hp->Prop),Inv X pins σ H s->t σ H Q->wpAny (model X.prog X.w) X.A (spliced (backTo pos (starEach es X.env))) (AP X pins σ Q) X.xe s
noncomputable def PS (X:Cx) (st:Stmt) (t:TS):Prop :=
 ∀ (pins:Z7) (s:Shared) (σ:St) (H:Hp) (D:Ends),Inv X pins σ H s->t D σ H->wpAny (model X.prog X.w) X.A (exec st X.env) (SP X pins D) X.xe s
noncomputable def PSs (X:Cx) (st:List Stmt) (t:TS):Prop :=
 ∀ (pins:Z7) (s:Shared) (σ:St) (H:Hp) (D:Ends),Inv X pins σ H s->t D σ H->wpAny (model X.prog X.w) X.A (execs st X.env) (SP X pins D) X.xe s
theorem thn {α:Type} {t:Sem α} {Q Q':α->Shared->Prop} {M:Model} {A:Around} {E:Z0} {s:Shared} (h:wpAny M A t Q E s) (hQ:∀ a s,Q a s->Q' a s):wpAny M A t Q' E s:=YG h hQ fun _ _ x=>x
section
variable {X:Cx}
noncomputable def Ds (i:Nat):TE:=fun σ H Q=>∃ v,σ[i]?=some (some v)/\Q v H
noncomputable def tC (v:V):TE:=fun _ H Q=>Q v H
theorem dB {i:Nat} {x:Str} {pos:Pos} (hN:X.N[i]?=some x) (hv:Vis X.env.scope x) (hd:(x == ("__debug__" : Str))=false:=by decide) (hcd:(x == ("__classdict__" : Str))=false:=by decide):PE X (.Name x pos) (Ds i):=by
 intro pins s σ H Q I h
 obtain ⟨v,e,h⟩:=h
 obtain ⟨m,hn,hl⟩:=I.loc
 obtain ⟨u,r,l⟩:=hl i x v hN e hv
 have fin:EP X pins σ Q u s:=⟨v,H,I,r,h⟩
 rcases l with ⟨hk,hm⟩ | ⟨hk,c,hc,hcell⟩
 ·exact wpAny_Name (wpAny_loadName_local I.ok.kind hk hn hm fin) hd
 ·rcases hk with hk | hk
  ·exact wpAny_Name (wpAny_loadName_cell I.ok.kind hk hc hcell fin) hd
  ·exact wpAny_Name (wpAny_loadName_free I.ok.kind hk hc hcell fin hcd) hd
theorem nX {i j pos}:PE X (.Constant (.int i) j pos) (tC (.int i)):=fun _ _ _ H _ I h=>wpAny_Constant_int ⟨.int i,H,I.tok _,⟨_,rfl⟩,h⟩
theorem Ca {b j pos}:PE X (.Constant (.bool b) j pos) (tC (.bl b)):=fun _ _ _ H _ I h=>Constant_bool ⟨.bl b,H,I,rfl,h⟩
theorem AM {j pos}:PE X (.Constant .none j pos) (tC .non):=fun _ _ _ H _ I h=>Constant_none ⟨.non,H,I,rfl,h⟩
theorem vO {x j pos}:PE X (.Constant (.str x) j pos) (tC (.str x)):=fun _ _ _ H _ I h=>Calls.Constant_str ⟨.str x,H,I.tok _,⟨_,rfl⟩,h⟩
noncomputable def Gl (X:Cx) (x:Str):Prop:=X.env.kindOf x=some .globalImplicit
theorem so {E:Z0} {pins:Z7} {s:Shared} {σ:St} {H:Hp} {x:Str} {u:Value} {pos:Pos} {Q:Z0} (I:Inv X pins σ H s) (hg:Gl X x) (hm:X.mg x=some u) (h:Q u s)
  (hd:(x == ("__debug__" : Str))=false:=by decide):wpAny (model X.prog X.w) X.A (eval (.Name x pos) X.env) Q E s :=
 Calls.Name_function_global I.ok.kind hg (Calls.loadGlobal_global (by rw [I.ok.glob];exact I.mod.glob.keeps I.bk) hm h) hd
theorem j7 {E:Z0} {pins:Z7} {s:Shared} {σ:St} {H:Hp} {x:Str} {u:Value} {pos:Pos} {Q:Z0} (I:Inv X pins σ H s) (hg:Gl X x) (hm:X.mg x=none) (hv:bootBuiltins x=some u) (h:Q u s)
  (hn:x ≠ "__name__" := by decide) (hd:(x == ("__debug__" : Str))=false:=by decide):wpAny (model X.prog X.w) X.A (eval (.Name x pos) X.env) Q E s:=by
 obtain ⟨mb,h1,h2⟩:=I.mod.blt
 exact Calls.Name_function_global I.ok.kind hg (Calls.loadGlobal_builtin (by rw [I.ok.glob];exact I.mod.glob.keeps I.bk) hm (by rw [I.ok.blt];exact h1.keeps I.bk) ((h2 x hn).trans hv) h) hd
theorem za {x:Str} {v:V} {u:Value} {pos:Pos} (hg:Gl X x) (hm:X.mg x=none) (hv:bootBuiltins x=some u) (r:RelV v u) (hn:x ≠ "__name__" := by decide) (hd:(x == ("__debug__" : Str))=false:=by decide):PE X (.Name x pos) (tC v) :=
 fun _ _ _ H _ I h=>j7 I hg hm hv ⟨v,H,I,r,h⟩ hn hd
variable {a b:Expr} {ta tb:TE} {pos:Pos}
noncomputable def PC (X:Cx) (op:CmpOp) (a b:Expr) (t:TE):Prop :=
 ∀ (pins:Z7) (s:Shared) (σ:St) (H:Hp) (Q:VK),Inv X pins σ H s->t σ H Q →
  wpAny (model X.prog X.w) X.A (eval a X.env) (fun v s₁=>wpAny (model X.prog X.w) X.A (eval b X.env) (fun u s₂=>wpAny (model X.prog X.w) X.A (compareOp op v u) (EP X pins σ Q) X.xe s₂) X.xe s₁) X.xe s
theorem wq (b:Expr) {op:CmpOp} (h:op ≠ .In) (h2:op ≠ .NotIn):behindInMarks op b=false:=by
 have e1:(op == CmpOp.In)=false:=by cases op <;> first | rfl | exact absurd rfl h
 have e2:(op == CmpOp.NotIn)=false:=by cases op <;> first | rfl | exact absurd rfl h2
 cases b <;> simp [behindInMarks,e1,e2]
noncomputable def DB (ta:TE):TE:=fun σ H Q=>ta σ H fun x H1=>Q (.bl (decide (x=.non))) H1
noncomputable def Cg (ta:TE):TE:=fun σ H Q=>ta σ H fun x H1=>Q (.bl (!decide (x=.non))) H1
theorem RelV.none_iff {x:V} {v:Value} (r:RelV x v):(v == Value.none)=decide (x=.non):=by
 cases x with
 | non=>cases r;rfl
 | bl _=>cases r;rfl
 | int _=>obtain ⟨t,rfl⟩:=r;rfl
 | str _=>obtain ⟨t,rfl⟩:=r;rfl
 | byt _=>obtain ⟨t,rfl⟩:=r;rfl
 | flt _=>obtain ⟨t,rfl⟩:=r;rfl
 | ref _=>cases r;rfl
 | ty _=>cases r;rfl
theorem BA {j pos'} (ha:PE X a ta):PC X .Is a (.Constant .none j pos') (DB ta):=by
 intro pins s σ H Q I h
 refine thn (ha pins s σ H _ I h) fun v s1 ⟨x,H1,I1,r1,q1⟩=>?_
 exact Constant_none (is_none_gen ⟨.bl _,H1,I1,by rw [r1.none_iff];rfl,q1⟩)
theorem zC {j pos'} (ha:PE X a ta):PC X .IsNot a (.Constant .none j pos') (Cg ta):=by
 intro pins s σ H Q I h
 refine thn (ha pins s σ H _ I h) fun v s1 ⟨x,H1,I1,r1,q1⟩=>?_
 exact Constant_none (isnot_none_gen ⟨.bl _,H1,I1,by rw [r1.none_iff];rfl,q1⟩)
noncomputable def tB (t:TE):TT:=fun σ H Q=>t σ H fun x H1=>∃ c,x=.bl c/\Q c H1
theorem xJ {op:CmpOp} {t:TE} (h:PC X op a b t) (h1:behindInMarks op b=false:=by first | exact wq _ (by decide) (by decide) | rfl):PT X (.Compare a [op] [b] pos) (tB t):=by
 intro pins s σ H Q I hw
 refine wpAny_isTrue_Compare1 (thn (h pins s σ H _ I hw) fun v s1 h1=>thn h1 fun u s2 h2=>thn h2 fun c s3 ⟨x,H1,I1,r1,q1⟩=>?_) h1
 obtain ⟨d,rfl,q⟩:=q1
 cases r1
 exact Xo ⟨H1,I1,q⟩
variable {tA tB':TT} {rest:List Expr}
noncomputable def DD (t u:TT):TT:=fun σ H Q=>t σ H fun c H1=>if c=true then u σ H1 Q else Q false H1
noncomputable def tOr (t u:TT):TT:=fun σ H Q=>t σ H fun c H1=>if c=true then Q true H1 else u σ H1 Q
noncomputable def DE (t:TT):TT:=fun σ H Q=>t σ H fun c H1=>Q (!c) H1
theorem nq (ha:PT X a tA):PW X (.BoolOp .And [a] pos) tA:=by
 intro wh pins s σ H Q I h
 refine isTrue_and (thn (ha pins s σ H Q I h) fun c s1 e=>?_)
 cases c with
 | true=>exact isTrue_and_nil e
 | false=>exact e
theorem wU (ha:PT X a tA):PW X (.BoolOp .Or [a] pos) tA:=by
 intro wh pins s σ H Q I h
 refine isTrue_or (thn (ha pins s σ H Q I h) fun c s1 e=>?_)
 cases c with
 | false=>exact isTrue_or_nil e
 | true=>exact e
theorem u6 (ha:PT X a tA) (hb:PW X (.BoolOp .And (b :: rest) pos) tB'):PW X (.BoolOp .And (a :: b :: rest) pos) (DD tA tB'):=by
 intro wh pins s σ H Q I h
 refine isTrue_and (thn (ha pins s σ H _ I h) fun c s1 ⟨H1,I1,q1⟩=>?_)
 cases c with
 | true=>exact hb wh pins s1 σ H1 Q I1 q1
 | false=>exact ⟨H1,I1,q1⟩
theorem CW (ha:PT X a tA) (hb:PW X (.BoolOp .Or (b :: rest) pos) tB'):PW X (.BoolOp .Or (a :: b :: rest) pos) (tOr tA tB'):=by
 intro wh pins s σ H Q I h
 refine isTrue_or (thn (ha pins s σ H _ I h) fun c s1 ⟨H1,I1,q1⟩=>?_)
 cases c with
 | true=>exact ⟨H1,I1,q1⟩
 | false=>exact hb wh pins s1 σ H1 Q I1 q1
theorem AF (ha:PT X a tA):PT X (.UnaryOp .Not a pos) (DE tA):=by
 intro pins s σ H Q I h
 exact isTrue_not (ha pins s σ H (fun c H1=>Q (!c) H1) I h)
end
noncomputable def SqL (K:Y2) (H:Hp) (a:Addr) (xs:List V):Prop :=
 Rd H a (.lst xs) ∨
  ∃ (o:Obj) (its:Array Value) (n:Nat),K.lookup a=some o/\o.cls=.type "list" ∧ o.dict=none/\o.data=.seq its n/\its.size<=sizeLine/\aO xs its.toList
noncomputable def SqT (K:Y2) (H:Hp) (a:Addr) (xs:List V):Prop :=
 Rd H a (.tup xs) ∨
  ∃ (o:Obj) (its:Array Value) (n:Nat),K.lookup a=some o/\o.cls=.type "tuple" ∧ o.data=.seq its n/\its.size<=sizeLine/\aO xs its.toList
noncomputable def DJ:Value->Option V
 | .none=>some .non
 | .bool b=>some (.bl b)
 | .int i _=>some (.int i)
 | .str x _=>some (.str x)
 | .bytes b _=>some (.byt b)
 | .float b _=>some (.flt b)
 | .ref a=>some (.ref a)
 | .type n=>some (.ty n)
 | _=>none
theorem RelV.abs {x:V} {u:Value} (r:RelV x u):DJ u=some x:=by
 cases x with
 | non=>cases r;rfl
 | bl _=>cases r;rfl
 | int _=>obtain ⟨t,rfl⟩:=r;rfl
 | str _=>obtain ⟨t,rfl⟩:=r;rfl
 | byt _=>obtain ⟨t,rfl⟩:=r;rfl
 | flt _=>obtain ⟨t,rfl⟩:=r;rfl
 | ref _=>cases r;rfl
 | ty _=>cases r;rfl
theorem RelV.inj {x y:V} {u:Value} (r:RelV x u) (q:RelV y u):x=y:=Zk (r.abs.symm.trans q.abs)
theorem aO.inj:∀ {xs ys:List V} {us:Wx},aO xs us->aO ys us->xs=ys
 | _,_,_,.nil,.nil=>rfl
 | _,_,_,.cons r t,.cons r' t'=>by rw [r.inj r',aO.inj t t']
section
variable {X:Cx} {pins:Z7} {σ:St} {H:Hp} {s:Shared} {a:Addr} {xs ys:List V}
theorem SqL.of {K:Y2} (h:H a=some (.lst xs)):SqL K H a xs:=.inl (.inl h)
theorem SqT.of {K:Y2} (h:H a=some (.tup xs)):SqT K H a xs:=.inl (.inl h)
theorem Inv.list (I:Inv X pins σ H s) (h:SqL X.K H a xs):∃ its:Wx,aO xs its/\PlainL s.heap a its.toArray/\xs.length<=sizeLine:=by
 rcases h with h | ⟨o,its,n,hk,hc,hd,hs,hz,r⟩
 ·obtain ⟨z,its,n,r,e⟩:=h.ok I.hok
  exact ⟨its,r,⟨_,n,e,rfl,rfl,rfl⟩,z⟩
 ·refine ⟨its.toList,r,⟨o,n,I.kIn a o hk,hc,hd,by simpa using hs⟩,?_⟩
  have e:=r.length
  simp only [YV] at e
  lia
theorem Inv.tuple (I:Inv X pins σ H s) (h:SqT X.K H a xs):∃ its:Wx,aO xs its/\IsTup s.heap a its.toArray/\xs.length<=sizeLine:=by
 rcases h with h | ⟨o,its,n,hk,hc,hs,hz,r⟩
 ·obtain ⟨z,its,r,_,p⟩:=h.ok I.hok
  exact ⟨its,r,p,z⟩
 ·refine ⟨its.toList,r,⟨o,I.kIn a o hk,hc,n,by simpa using hs⟩,?_⟩
  have e:=r.length
  simp only [YV] at e
  lia
theorem Inv.list_inj (I:Inv X pins σ H s) (h:SqL X.K H a xs) (h':SqL X.K H a ys):xs=ys:=by
 obtain ⟨its,r,⟨o,n,e,_,_,d⟩,_⟩:=I.list h
 obtain ⟨its',r',⟨o',n',e',_,_,d'⟩,_⟩:=I.list h'
 rw [e] at e';cases e'
 rw [d] at d'
 injection d' with d1 _
 have:its=its':=by simpa using congrArg Array.toList d1
 subst this
 exact r.inj r'
theorem Inv.tuple_inj (I:Inv X pins σ H s) (h:SqT X.K H a xs) (h':SqT X.K H a ys):xs=ys:=by
 obtain ⟨its,r,⟨o,e,_,n,d⟩,_⟩:=I.tuple h
 obtain ⟨its',r',⟨o',e',_,n',d'⟩,_⟩:=I.tuple h'
 rw [e] at e';cases e'
 rw [d] at d'
 injection d' with d1 _
 have:its=its':=by simpa using congrArg Array.toList d1
 subst this
 exact r.inj r'
end
noncomputable abbrev Cx.wish (X:Cx) (E:Z0):Cx:={ X with xe:=E }
noncomputable abbrev Cx.nox (X:Cx):Cx:=X.wish fun _ _=>False
theorem Cx.Ok.wish {X:Cx} (ok:X.Ok) (E:Z0):(X.wish E).Ok :=
 ⟨ok.mod,ok.kind,ok.glob,ok.blt,ok.above,ok.inj,ok.has,ok.cab,ok.hd,ok.frames,ok.stk,ok.exf,ok.bs,ok.bsz,ok.noex,ok.exfs,ok.funs,ok.frf⟩
theorem Cx.Ok.unwish {X:Cx} {E:Z0} (ok:(X.wish E).Ok):X.Ok :=
 ⟨ok.mod,ok.kind,ok.glob,ok.blt,ok.above,ok.inj,ok.has,ok.cab,ok.hd,ok.frames,ok.stk,ok.exf,ok.bs,ok.bsz,ok.noex,ok.exfs,ok.funs,ok.frf⟩
section
variable {X:Cx} {pins:Z7} {σ:St} {H:Hp} {s:Shared} {E:Z0}
theorem Inv.wish (I:Inv X pins σ H s) (E:Z0):Inv (X.wish E) pins σ H s:=⟨I.ok.wish E,I.os,I.bare,I.base,I.loc,I.cell,I.free,I.freeC,I.pin,I.hok,I.len⟩
theorem Inv.unwish (I:Inv (X.wish E) pins σ H s):Inv X pins σ H s:=⟨I.ok.unwish,I.os,I.bare,I.base,I.loc,I.cell,I.free,I.freeC,I.pin,I.hok,I.len⟩
theorem SP.unwish {D:Ends} {f:Flow} {s':Shared} (h:SP (X.wish E) pins D f s'):SP X pins D f s':=by
 cases f with
 | next=>obtain ⟨σ',H',I,q⟩:=h;exact ⟨σ',H',I.unwish,q⟩
 | brk=>obtain ⟨σ',H',I,q⟩:=h;exact ⟨σ',H',I.unwish,q⟩
 | cont=>obtain ⟨σ',H',I,q⟩:=h;exact ⟨σ',H',I.unwish,q⟩
 | ret u=>obtain ⟨v,σ',H',I,r,q⟩:=h;exact ⟨v,σ',H',I.unwish,r,q⟩
theorem PSs.nox {st:List Stmt} {t:TS} (h:PSs X.nox st t):PSs X st t:=fun pins s σ H D I hw =>
 YG (h pins s σ H D (I.wish _) hw) (fun _ _ q=>q.unwish) fun _ _ z=>False.elim z
end
section
variable {X:Cx} {st:Stmt} {rest:List Stmt} {t u:TS} {e:Expr} {te:TE} {pos:Pos}
noncomputable def Ct:TS:=fun D σ H=>D.nx σ H
noncomputable def Dm (t u:TS):TS:=fun D σ H=>t { D with nx:=u D } σ H
theorem zy:PSs X [] Ct:=fun _ _ σ H _ I h=>XD ⟨σ,H,I,h⟩
theorem xK (h1:PS X st t) (h2:PSs X rest u):PSs X (st :: rest) (Dm t u):=by
 intro pins s σ H D I h
 refine wpAny_execs_cons (thn (h1 pins s σ H { D with nx:=u D } I h) fun f s1 q=>?_)
 cases f with
 | next =>
  obtain ⟨σ',H',I',q⟩:=q
  exact h2 pins s1 σ' H' D I' q
 | ret v=>exact q
 | brk=>exact q
 | cont=>exact q
theorem av (h1:PS X st t):PSs X [st] t:=by
 intro pins s σ H D I h
 refine wpAny_execs_cons (thn (h1 pins s σ H D I h) fun f s1 q=>?_)
 cases f with
 | next=>exact XD q
 | ret v=>exact q
 | brk=>exact q
 | cont=>exact q
theorem Inv.quiet {pins:Z7} {σ:St} {H:Hp} {s:Shared} (I:Inv X pins σ H s):interactive X.env=false:=by simp [interactive,I.ok.kind]
noncomputable def Cr (te:TE):TS:=fun D σ H=>te σ H fun _ H1=>D.nx σ H1
theorem iy (he:PE X e te) (hs:swapsWith e none pos.line X.env=pure false:=by rfl):PS X (.Expr e pos) (Cr te):=by
 intro pins s σ H D I h
 exact wpAny_Expr_any (thn (he pins s σ H _ I h) fun v s1 ⟨x,H1,I1,r1,q1⟩=>⟨σ,H1,I1,q1⟩) I.quiet hs
noncomputable def Dt (te:TE):TS:=fun D σ H=>te σ H D.rt
theorem nM (he:PE X e te):PS X (.Return (some e) pos) (Dt te):=by
 intro pins s σ H D I h
 exact wpAny_Return_some (thn (he pins s σ H _ I h) fun v s1 ⟨x,H1,I1,r1,q1⟩=>⟨x,σ,H1,I1,r1,q1⟩)
noncomputable def Dy (c:TT) (t u:TS):TS:=fun D σ H=>c σ H fun b H1=>if b=true then t D σ H1 else u D σ H1
theorem Ae {c:Expr} {a b:List Stmt} {tc:TT} (hc:PT X c tc) (ha:PSs X a t) (hb:PSs X b u):PS X (.If c a b pos) (Dy tc t u):=by
 intro pins s σ H D I h
 refine wpAny_If (thn (hc pins s σ H _ I h) fun d s1 ⟨H1,I1,q1⟩=>?_)
 cases d with
 | true=>exact ha pins s1 σ H1 D I1 q1
 | false=>exact hb pins s1 σ H1 D I1 q1
end
noncomputable abbrev TG:=V->St->Hp->(St->Hp->Prop)->Prop
noncomputable abbrev TGs:=List V->St->Hp->(St->Hp->Prop)->Prop
noncomputable def PG (X:Cx) (target:Expr) (t:TG):Prop :=
 ∀ (pins:Z7) (s:Shared) (σ:St) (H:Hp) (v:V) (u:Value) (Q:St->Hp->Prop),Inv X pins σ H s->RelV v u->t v σ H Q →
  wpAny (model X.prog X.w) X.A (assign target X.env u) (fun _ s'=>∃ σ' H',Inv X pins σ' H' s'/\Q σ' H') X.xe s
noncomputable def PGs (X:Cx) (ts:List Expr) (t:TGs):Prop :=
 ∀ (pins:Z7) (s:Shared) (σ:St) (H:Hp) (vs:List V) (us:Wx) (Q:St->Hp->Prop),Inv X pins σ H s->aO vs us->t vs σ H Q →
  wpAny (model X.prog X.w) X.A (assignInOrder ((assignEach ts X.env).map (·.2)) us) (fun _ s'=>∃ σ' H',Inv X pins σ' H' s'/\Q σ' H') X.xe s
noncomputable abbrev yC:=V->V->V->Hp->(Hp->Prop)->Prop
noncomputable def BH (X:Cx) (t:yC):Prop :=
 ∀ (pins:Z7) (s:Shared) (σ:St) (H:Hp) (o i v:V) (ov iv u:Value) (Q:Hp->Prop),Inv X pins σ H s->RelV o ov->RelV i iv->RelV v u->t o i v H Q →
  wpAny (model X.prog X.w) X.A (setItem ov iv u) (fun _ s'=>∃ H',Inv X pins σ H' s'/\Q H') X.xe s
section
variable {X:Cx} {pos:Pos}
noncomputable def rN (i:Nat):TG:=fun v σ H Q=>Q (σ.set i (some v)) H
theorem sN {i:Nat} {x:Str} (hN:X.N.Nodup) (hi:X.N[i]?=some x) (hx:Loc X.env.scope x) (hf:X.fn x=true\/X.env.scope.names.lookup x=some .local:=by first | exact .inl rfl | exact .inr rfl | assumption):PG X (.Name x pos) (rN i):=by
 intro pins s σ H v u Q I r h
 exact wpAny_assign_Name (oS I hN hi hx r (fun s' I'=>⟨_,H,I',h⟩) hf)
noncomputable def DO:TGs:=fun vs σ H Q=>vs=[]/\Q σ H
noncomputable def Cb (t:TG) (u:TGs):TGs:=fun vs σ H Q=>∃ v r,vs=v :: r/\t v σ H fun σ' H'=>u r σ' H' Q
theorem yO:PGs X [] DO:=by
 intro pins s σ H vs us Q I r h
 obtain ⟨e,h⟩:=h
 subst e
 cases r
 exact assignInOrder_nil ⟨σ,H,I,h⟩
theorem wa {e:Expr} {es:List Expr} {t:TG} {u:TGs} (h1:PG X e t) (h2:PGs X es u)
  (hs:(assignEach (e :: es) X.env).map (·.2)=assign e X.env :: (assignEach es X.env).map (·.2):=by rfl):PGs X (e :: es) (Cb t u):=by
 intro pins s σ H vs us Q I r h
 obtain ⟨v,vr,e1,h⟩:=h
 subst e1
 cases r with
 | cons r rr =>
  rw [hs]
  refine assignInOrder_cons (thn (h1 pins s σ H _ _ _ I r h) fun _ s1 ⟨σ1,H1,I1,q1⟩=>?_)
  exact h2 pins s1 σ1 H1 _ _ Q I1 rr q1
noncomputable def t4 (K:Y2) (n:Nat) (t:TGs):TG:=fun v σ H Q=>∃ a xs,v=.ref a/\SqT K H a xs/\xs.length=n/\t xs σ H Q
theorem BN {es:List Expr} {k:Nat} {t:TGs} {n:Nat} (hc:X.calm=true) (h:PGs X es t)
  (hn:(assignEach es X.env).length=n:=by rfl) (hst:(assignEach es X.env).findIdx? (·.1)=none:=by rfl):PG X (.Tuple es k pos) (t4 X.K n t):=by
 intro pins s σ H v u Q I r hw
 obtain ⟨a,xs,e1,hq,hl,hw⟩:=hw
 subst e1
 cases r
 obtain ⟨its,rv,ht,hz⟩:=I.tuple hq
 refine assign_Tuple_tuple (I.ok.hd hc) ht (by simp [hn,← hl,rv.length]) hst fun h' hx=>?_
 have I1:Inv X pins σ H { s with heap:=h' }:=I.kept (t':=s.toks) fun b o e=>hx b o (ZZ (ZS e)) e
 exact h pins _ σ H xs _ Q I1 (by simpa using rv) hw
noncomputable def CK (to ti:TE) (t:yC):TG:=fun v σ H Q=>to σ H fun o H1=>ti σ H1 fun i H2=>t o i v H2 fun H3=>Q σ H3
theorem nK {o i:Expr} {to ti:TE} {t:yC} (ho:PE X o to) (hi:PE X i ti) (hs:BH X t)
  (ha:∀ v,assign (.Subscript o i pos) X.env v=(do
   let ov ← holding [v] (eval o X.env)
   let iv ← holding [v,ov] (eval i X.env)
   standAt pos
   holding [v,ov,iv] (setItem ov iv v)
   release [v,ov,iv] []):=by intro _;rfl):PG X (.Subscript o i pos) (CK to ti t):=by
 intro pins s σ H v u Q I r h
 rw [ha]
 refine Zp (YD (thn (ho pins s σ H _ I h) fun ov s1 ⟨x,H1,I1,r1,q1⟩=>?_))
 refine Zp (YD (thn (hi pins s1 σ H1 _ I1 q1) fun iv s2 ⟨y,H2,I2,r2,q2⟩=>?_))
 refine Zp (wpAny_standAt (Zp (YD (thn (hs pins s2 σ H2 x y v ov iv u _ I2 r1 r2 r q2) fun _ s3 ⟨H3,I3,q3⟩=>?_))))
 exact wpAny_release ⟨σ,H3,I3,q3⟩
noncomputable def Cf (te:TE) (g:TG):TS:=fun D σ H=>te σ H fun x H1=>g x σ H1 D.nx
theorem nN {tg e:Expr} {te:TE} {g:TG} (he:PE X e te) (hg:PG X tg g) (hs:swapsWithSole [tg] e pos.line X.env=pure false:=by rfl) (hw:swappedStores [tg] e X.env=pure none:=by rfl)
  (h1:(assignEach [tg] X.env).map (·.2)=[assign tg X.env]:=by rfl):PS X (.Assign [tg] e pos) (Cf te g):=by
 intro pins s σ H D I h
 refine wpAny_Assign_stores (thn (he pins s σ H _ I h) fun v s1 ⟨x,H1,I1,r1,q1⟩=>?_) hs hw
 rw [h1]
 exact thn (hg pins s1 σ H1 x v _ I1 r1 q1) fun _ s2 q=>q
theorem jZ {i:Nat} {x:Str} {e:Expr} {te:TE} {pos':Pos} (hN:X.N.Nodup) (hi:X.N[i]?=some x) (hx:Loc X.env.scope x) (he:PE X e te) (hs:swapsWith e (some (.Name x pos')) pos.line X.env=pure false:=by rfl) (hf:X.fn x=true\/X.env.scope.names.lookup x=some .local:=by first | exact .inl rfl | exact .inr rfl | assumption) :
  PS X (.Assign [.Name x pos'] e pos) (Cf te (rN i)):=by
 intro pins s σ H D I h
 refine wpAny_Assign_Name (thn (he pins s σ H _ I h) fun v s1 ⟨y,H1,I1,r1,q1⟩=>?_) hs
 exact oS I1 hN hi hx r1 (fun s2 I2=>⟨_,H1,I2,q1⟩) hf
end
section
variable {X:Cx} {pos:Pos}
noncomputable def Bg (c:TT) (tb:TS):TS:=fun D σ H=>∃ W:Nat->St->Hp->Prop,(∃ m,W m σ H)/\∀ m σ H,W m σ H →
 c σ H fun b H1=>if b=true then ∃ N:St->Hp->Prop,(∀ σ' H',N σ' H'->∃ m',m' < m/\W m' σ' H')/\tb { D with nx:=N,ct:=N,bk:=D.nx } σ H1 else D.nx σ H1
theorem va {c:Expr} {body:List Stmt} {tc:TT} {tb:TS} (hp:PassesOwn (model X.prog X.w) X.A X.env X.xe) (hc:PT X c tc) (hb:PSs X body tb):PS X (.While c body [] pos) (Bg tc tb):=by
 intro pins s σ H D I h
 obtain ⟨W,⟨m0,w0⟩,turn⟩:=h
 refine wpAny_While (codeAny_whileLoop (fun n s'=>∃ σ' H',Inv X pins σ' H' s'/\W n σ' H') ?_ m0 ⟨σ,H,I,w0⟩)
 rintro n s1 ⟨σ1,H1,I1,w1⟩
 refine YF hp (thn (hc pins s1 σ1 H1 _ I1 (turn n σ1 H1 w1)) fun b s2 ⟨H2,I2,q2⟩=>?_)
 cases b with
 | true =>
  obtain ⟨N,hN,q2⟩:=q2
  rw [Zq rfl]
  refine YF hp (thn (hb pins s2 σ1 H2 _ I2 q2) fun f s3 q3=>?_)
  cases f with
  | next =>
   obtain ⟨σ3,H3,I3,n3⟩:=q3
   obtain ⟨m',hm,w3⟩:=hN σ3 H3 n3
   exact ⟨m',hm,σ3,H3,I3,w3⟩
  | cont =>
   obtain ⟨σ3,H3,I3,n3⟩:=q3
   obtain ⟨m',hm,w3⟩:=hN σ3 H3 n3
   exact ⟨m',hm,σ3,H3,I3,w3⟩
  | brk=>exact q3
  | ret v=>exact q3
 | false =>
  rw [Zm Zd]
  exact XD ⟨σ1,H2,I2,q2⟩
end
structure It where
 go:Nat->Hp->Prop
 yld:Nat->Hp->V->Hp->Prop
 stop:Nat->Hp->Prop
noncomputable def l7 (X:Cx) (pins:Z7) (H:Hp) (b:Addr):Prop :=
 H b=none/\b ≠ X.env.locals/\b ∉ X.fs/\(b∈X.ex\/X.s₀.heap.objs.size<=b)/\(∀ x c,X.env.cells.lookup x=some c->c ≠ b)/\∀ p∈X.pn++pins,p.1 ≠ b
theorem Inv.fpOk {X:Cx} {pins:Z7} {σ:St} {H H':Hp} {s:Shared} {b:Addr} (I:Inv X pins σ H s) (hb:s.heap.objs.size<=b) (hn:H' b=none):l7 X pins H' b:=by
 refine ⟨hn,X3 (ZM I.lt hb),I.nofs hb,.inr (ZG I.sz hb),fun x c e z=>?_,fun p hp z=>?_⟩
 ·obtain ⟨v,q⟩:=I.cell x c e
  exact absurd (ZM q.lt (by rw [z];exact hb)) (Yf _)
 ·exact absurd (ZM (ZS (I.pin p hp).1) (by rw [z];exact hb)) (Yf _)
structure Turn (P:Program) (w:World) (K:Y2) (tg:Expr) (J:It) (fp:X0) (it:Addr) (tn:Nat->Heap->Prop):Prop where
 mem:it∈fp
 obj:∀ i h,tn i h->∀ b∈fp,∃ o,h.get? b=some o/\∀ v,o.data ≠ .cell v
 keep:∀ i h h',tn i h->(∀ b∈fp,∀ o,h.get? b=some o->h'.get? b=some o)->tn i h'
 item:∀ (X:Cx),X.prog=P->X.w=w->X.K=K->X.calm=true->∀ (i:Nat) (pins:Z7) (s:Shared) (σ:St) (H:Hp) (E:Z0),Inv X pins σ H s->(∀ b∈fp,l7 X pins H b)->tn i s.heap->J.go i H →
  wpAny (model P w) X.A (pyNext (.ref it)) (fun r s1=>∃ u,r=some u ∧
   wpAny (model P w) X.A (letOwnedTupleGo tg (.ref it) u) (fun _ s2=>∃ x H',Inv X pins σ H' s2/\RelV x u/\J.yld i H x H'/\tn (i+1) s2.heap/\∀ b∈fp,H' b=none) E s1) E s
 done:∀ (X:Cx),X.prog=P->X.w=w->X.K=K->X.calm=true->∀ (i:Nat) (pins:Z7) (s:Shared) (σ:St) (H:Hp) (E:Z0),Inv X pins σ H s->(∀ b∈fp,l7 X pins H b)->tn i s.heap->J.stop i H →
  wpAny (model P w) X.A (pyNext (.ref it)) (fun r s1=>r=none/\Inv X pins σ H s1) E s
 self:∀ (A:Around) (i:Nat) (s:Shared) (Q:Z0) (E:Z0),tn i s.heap->Q (.ref it) s->wpAny (model P w) A (pyIter (.ref it)) Q E s
noncomputable abbrev TI:=St->Hp->(It->Hp->Prop)->Prop
noncomputable def PIE (X:Cx) (pins:Z7) (σ:St) (tg:Expr) (R:It->Hp->Prop) (itv:Value) (s2:Shared):Prop :=
 ∃ (it:Addr) (fp:X0) (tn:Nat->Heap->Prop) (J:It) (H':Hp),itv=.ref it/\Inv X pins σ H' s2/\Turn X.prog X.w X.K tg J fp it tn/\tn 0 s2.heap/\(∀ b∈fp,l7 X pins H' b)/\R J H'
noncomputable def PI (X:Cx) (tg iter:Expr) (wi:TI):Prop :=
 ∀ (pins:Z7) (s:Shared) (σ:St) (H:Hp) (R:It->Hp->Prop),Inv X pins σ H s->wi σ H R →
  wpAny (model X.prog X.w) X.A (eval iter X.env) (fun v s1=>wpAny (model X.prog X.w) X.A (pyIter v) (PIE X pins σ tg R) X.xe s1) X.xe s
theorem pZ {M:Model} {A:Around} {E:Z0} {s:Shared} {tg:Expr} {it:Addr} {u:Value} {o:Obj} {n:String} {vs:Array Value} {Q:Unit->Shared->Prop} (ho:s.heap.get? it=some o) (hc:o.cls=.type n) (hd:o.data=.fields vs)
  (hn:["enumerate", "zip", "dict_itemiterator", "dict_reverseitemiterator", "odict_iterator", "itertools.zip_longest", "itertools.pairwise"].contains n=false) (hQ:Q () s):wpAny M A (letOwnedTupleGo tg (.ref it) u) Q E s:=by
 unfold letOwnedTupleGo
 cases tg <;> first
  | exact Za hQ
  | (cases u <;> first
    | exact Za hQ
    | (refine Zp (wpAny_load ho ?_)
       rw [hc,hd]
       show wpAny M A (if (["enumerate", "zip", "dict_itemiterator", "dict_reverseitemiterator", "odict_iterator", "itertools.zip_longest", "itertools.pairwise"].contains n && vs[0]? == some (rawInt _))=true then _ else _) Q E s
       rw [Zm (by intro h;rw [hn,Bool.false_and] at h;cases h)]
       exact Za hQ))
noncomputable def Itl (K:Y2) (a:Addr):It :=
 ⟨fun i H=>∃ xs x,SqL K H a xs/\xs[i]?=some x,fun i H x H'=>H'=H/\∀ xs,SqL K H a xs->xs[i]?=some x,fun i H=>∃ xs,SqL K H a xs/\xs.length<=i⟩
noncomputable def Itt (K:Y2) (a:Addr):It :=
 ⟨fun i H=>∃ xs x,SqT K H a xs/\xs[i]?=some x,fun i H x H'=>H'=H/\∀ xs,SqT K H a xs->xs[i]?=some x,fun i H=>∃ xs,SqT K H a xs/\xs.length<=i⟩
noncomputable def Itr (lo:Int) (n:Nat):It:=⟨fun i _=>i < n,fun i H x H'=>H'=H/\x=.int (lo+i),fun i _=>n<=i⟩
theorem tV {P:Program} {w:World} {K:Y2} {tg:Expr} (a it:Addr):Turn P w K tg (Itl K a) [it] it (fun i h=>h.IsListIter it a i) where
 mem:=by simp
 obj:=fun i h st b hb=>by
  have e:b=it:=by simpa using hb
  subst e
  obtain ⟨o,e,c,d⟩:=st
  exact ⟨o,e,fun v z=>by rw [d] at z;cases z⟩
 keep:=fun i h h' st k=>st.at fun o e=>k it (by simp) o e
 item:=by
  intro X hP hw hK hc i pins s σ H E I hf st hg
  subst hP hw hK
  obtain ⟨xs,x,hq,hx⟩:=hg
  obtain ⟨its,rv,p,hz⟩:=I.list hq
  obtain ⟨u,hu,ru⟩:=rv.get hx
  obtain ⟨f0,f1,f2,f3,f4,f5⟩:=hf it (by simp)
  refine wpAny_pyNext_list_item st p.isList (x:=u) (by simpa using hu) fun h' st' sb=>?_
  have I1:Inv X pins σ H { s with heap:=h' }:=I.turned (t':=s.toks) (fun b o hb e=>(sb.2 b hb).trans e) f0 f1 f3 f4 f5
  obtain ⟨o,e,c,d⟩:=id st'
  exact ⟨u,rfl,pZ (s:={ s with heap:=h' }) e c d (by decide) ⟨x,H,I1,ru,⟨rfl,fun ys hy=>by rw [I.list_inj hy hq];exact hx⟩,st',fun b hb=>(hf b hb).1⟩⟩
 done:=by
  intro X hP hw hK hc i pins s σ H E I hf st hg
  subst hP hw hK
  obtain ⟨xs,hq,hx⟩:=hg
  obtain ⟨its,rv,p,hz⟩:=I.list hq
  obtain ⟨f0,f1,f2,f3,f4,f5⟩:=hf it (by simp)
  have hl:=rv.length
  exact wpAny_pyNext_list_end (I.ok.hd hc) st p.isList (by simp;lia) fun h' eb=>⟨rfl,I.turned (t':=s.toks) (fun b o hb e=>eb b o hb e) f0 f1 f3 f4 f5⟩
 self:=fun _ _ _ _ _ st h=>wpAny_pyIter_listiter st h
theorem rD {P:Program} {w:World} {K:Y2} {tg:Expr} (a it:Addr):Turn P w K tg (Itt K a) [it] it (fun i h=>h.IsTupleIter it a i) where
 mem:=by simp
 obj:=fun i h st b hb=>by
  have e:b=it:=by simpa using hb
  subst e
  obtain ⟨o,e,c,d⟩:=st
  exact ⟨o,e,fun v z=>by rw [d] at z;cases z⟩
 keep:=fun i h h' st k=>st.at fun o e=>k it (by simp) o e
 item:=by
  intro X hP hw hK hc i pins s σ H E I hf st hg
  subst hP hw hK
  obtain ⟨xs,x,hq,hx⟩:=hg
  obtain ⟨its,rv,p,hz⟩:=I.tuple hq
  obtain ⟨u,hu,ru⟩:=rv.get hx
  obtain ⟨f0,f1,f2,f3,f4,f5⟩:=hf it (by simp)
  refine wpAny_pyNext_tuple_item st (show s.heap.IsTuple a its.toArray from p) (x:=u) (by simpa using hu) fun h' st' sb=>?_
  have I1:Inv X pins σ H { s with heap:=h' }:=I.turned (t':=s.toks) (fun b o hb e=>(sb.2 b hb).trans e) f0 f1 f3 f4 f5
  obtain ⟨o,e,c,d⟩:=id st'
  exact ⟨u,rfl,pZ (s:={ s with heap:=h' }) e c d (by decide) ⟨x,H,I1,ru,⟨rfl,fun ys hy=>by rw [I.tuple_inj hy hq];exact hx⟩,st',fun b hb=>(hf b hb).1⟩⟩
 done:=by
  intro X hP hw hK hc i pins s σ H E I hf st hg
  subst hP hw hK
  obtain ⟨xs,hq,hx⟩:=hg
  obtain ⟨its,rv,p,hz⟩:=I.tuple hq
  obtain ⟨f0,f1,f2,f3,f4,f5⟩:=hf it (by simp)
  have hl:=rv.length
  exact wpAny_pyNext_tuple_end (I.ok.hd hc) st (show s.heap.IsTuple a its.toArray from p) (by simp;lia) fun h' eb=>⟨rfl,I.turned (t':=s.toks) (fun b o hb e=>eb b o hb e) f0 f1 f3 f4 f5⟩
 self:=fun _ _ _ _ _ st h=>wpAny_pyIter_tupleiter st h
theorem qS {P:Program} {w:World} {K:Y2} {tg:Expr} (it:Addr) (lo:Int) (n:Nat):Turn P w K tg (Itr lo n) [it] it (fun i h=>IsRangeIter h it (lo+(i:Nat) * 1) ((n:Int) - (i:Nat)) 1) where
 mem:=by simp
 obj:=fun i h st b hb=>by
  have e:b=it:=by simpa using hb
  subst e
  exact ⟨_,st,fun v z=>by
   have z':Data.fields _=Data.cell v:=z
   cases z'⟩
 keep:=fun i h h' st k=>k it (by simp) _ st
 item:=by
  intro X hP hw hK hc i pins s σ H E I hf st hg
  subst hP hw hK
  obtain ⟨f0,f1,f2,f3,f4,f5⟩:=hf it (by simp)
  have W:=Walks.range (prog:=X.prog) (w:=X.w) (I.ok.hd hc) it lo 1 n
  refine W.item i s _ _ hg st fun v h' tk hv st' kk=>?_
  obtain ⟨t,rfl⟩:=hv
  have I1:Inv X pins σ H { s with heap:=h',toks:=tk }:=I.turned (fun b o hb e=>kk b o (by simpa using hb) e) f0 f1 f3 f4 f5
  refine ⟨_,rfl,pZ (s:={ s with heap:=h',toks:=tk }) (n := "range_iterator") st' rfl rfl (by decide) ⟨.int (lo+i),H,I1,⟨t,?_⟩,⟨rfl,rfl⟩,st',fun b hb=>(hf b hb).1⟩⟩
  rw [Int.mul_one]
 done:=by
  intro X hP hw hK hc i pins s σ H E I hf st hg
  subst hP hw hK
  obtain ⟨f0,f1,f2,f3,f4,f5⟩:=hf it (by simp)
  exact wpAny_pyNext_range_end (I.ok.hd hc) st (by have:n<=i:=hg;lia) fun h' eb=>⟨rfl,I.turned (t':=s.toks) (fun b o hb e=>eb b o hb e) f0 f1 f3 f4 f5⟩
 self:=fun _ _ _ _ _ st h=>wpAny_pyIter_rangeiter st h
section
variable {X:Cx} {tg:Expr}
theorem pj {pins:Z7} {σ:St} {H:Hp} {s:Shared} {R:It->Hp->Prop} {E:Z0} {lo hi:Int} {t u v:Tok} {tk:Nat} (I:Inv X pins σ H s) (h1:-(2 ^ 62)<=lo) (h2:lo < 2 ^ 62) (h3:-(2 ^ 62)<=hi) (h4:hi < 2 ^ 62)
  (q:R (Itr lo (hi - lo).toNat) H):wpAny (model X.prog X.w) X.A (pyIter (.ref s.heap.objs.size)) (PIE X pins σ tg R) E { s with heap:=s.heap.push { cls:=.type "range",data:=.fields #[.int lo t,.int hi u,.int 1 v] },toks:=tk }:=by
 refine wpAny_pyIter_range (IsRange.new ..) (small_one h1 h2 h3 h4) ?_
 have I1:Inv X pins σ H { s with heap:=s.heap.push { cls:=.type "range",data:=.fields #[.int lo t,.int hi u,.int 1 v] },toks:=tk }:=I.kept fun b o e=>Zi _ e
 refine ⟨(s.heap.push { cls:=.type "range",data:=.fields #[.int lo t,.int hi u,.int 1 v] }).objs.size,[(s.heap.push { cls:=.type "range",data:=.fields #[.int lo t,.int hi u,.int 1 v] }).objs.size],_,_,H,rfl,
  I1.kept (t':=tk) fun b o e=>Zi _ e,qS _ lo (hi - lo).toNat,?_,fun b hb=>?_,q⟩
 ·have e1:lo+((0:Nat):Int) * 1=lo:=by simp
  have e2:(((hi - lo).toNat:Nat):Int) - ((0:Nat):Int)=Builtin.Range.rangeSize lo hi 1:=by rw [rangeSize_one];split <;> lia
  show IsRangeIter _ _ (lo+((0:Nat):Int) * 1) ((((hi - lo).toNat:Nat):Int) - ((0:Nat):Int)) 1
  rw [e1,e2]
  exact ZP _ rfl
 ·have e:b=(s.heap.push { cls:=.type "range",data:=.fields #[.int lo t,.int hi u,.int 1 v] }).objs.size:=by simpa using hb
  subst e
  exact I1.fpOk (Zg _) (I1.hok.fresh (Zg _))
noncomputable def Ah (ta:TA):TI:=fun σ H R=>ta σ H fun vs H1=>∃ j:Int,vs=[.int j]/\-(2 ^ 62)<=j/\j < 2 ^ 62/\R (Itr 0 j.toNat) H1
noncomputable def Ce (ta:TA):TI:=fun σ H R=>ta σ H fun vs H1=>∃ i j:Int,vs=[.int i,.int j]/\(-(2 ^ 62)<=i/\i < 2 ^ 62/\-(2 ^ 62)<=j/\j < 2 ^ 62)/\R (Itr i (j - i).toNat) H1
theorem mR {a:Expr} {ta:TA} {p pos:Pos} (hg:Gl X "range") (hm:X.mg "range" = none) (ha:PA X [a] ta) (hs:starEach [a] X.env=[(false,eval a X.env)]:=by rfl):PI X tg (.Call (.Name "range" p) [a] [] pos) (Ah ta):=by
 intro pins s σ H R I h
 refine Call_ (j7 I hg hm boot_range (YH (thn (ha pos pins s σ H _ I h) fun us s1 ⟨vs,H1,I1,r1,q1⟩=>?_) hs rfl))
 obtain ⟨j,e,q1,q2,q⟩:=q1
 subst e
 cases r1 with
 | cons r rr =>
  cases rr
  obtain ⟨t,rfl⟩:=r
  exact call_range_1 (pj I1 (by lia) (by lia) q1 q2 (by simpa using q))
theorem uF {a b:Expr} {ta:TA} {p pos:Pos} (hg:Gl X "range") (hm:X.mg "range" = none) (ha:PA X [a,b] ta) (hs:starEach [a,b] X.env=[(false,eval a X.env),(false,eval b X.env)]:=by rfl) (hs2:starEach [b] X.env=[(false,eval b X.env)]:=by rfl) :
  PI X tg (.Call (.Name "range" p) [a,b] [] pos) (Ce ta):=by
 intro pins s σ H R I h
 refine Call_ (j7 I hg hm boot_range (YH (thn (ha pos pins s σ H _ I h) fun us s1 ⟨vs,H1,I1,r1,q1⟩=>?_) (by rw [hs,hs2]) (by rw [hs2];rfl)))
 obtain ⟨i,j,e,⟨q1,q2,q3,q4⟩,q⟩:=q1
 subst e
 cases r1 with
 | cons r rr =>
  cases rr with
  | cons r' rr =>
   cases rr
   obtain ⟨t,rfl⟩:=r
   obtain ⟨t',rfl⟩:=r'
   exact call_range_2 (pj I1 q1 q2 q3 q4 q)
noncomputable def BX (wi:TI) (g:TG) (tb:TS):TS:=fun D σ H=>wi σ H fun J H1=>∃ W:Nat->Nat->St->Hp->Prop,(∃ m,W 0 m σ H1)/\∀ i m σ H,W i m σ H →
 (J.stop i H/\D.nx σ H)\/(J.go i H/\∃ N:St->Hp->Prop,(∀ σ' H',N σ' H'->∃ m',m' < m/\W (i+1) m' σ' H')/\∀ x H',J.yld i H x H'->g x σ H' fun σ2 H2=>tb { D with nx:=N,ct:=N,bk:=D.nx } σ2 H2)
noncomputable def kZ (fp:X0) (h:Heap):Z7:=fp.filterMap fun b=>(h.get? b).map fun o=>(b,o)
theorem gM {fp:X0} {h:Heap} {b:Addr} {o:Obj} (hb:b∈fp) (e:h.get? b=some o):(b,o)∈kZ fp h:=XA.mpr ⟨b,hb,by rw [e];rfl⟩
theorem uJ {fp:X0} {h:Heap} {p:Addr×Obj} (hp:p∈kZ fp h):p.1∈fp/\h.get? p.1=some p.2:=by
 obtain ⟨b,hb,e⟩:=XA.mp hp
 cases q:h.get? b with
 | none=>rw [q] at e;cases e
 | some o =>
  rw [q] at e
  have e':(b,o)=p:=Zk e
  subst e'
  exact ⟨hb,q⟩
theorem Inv.pinned {pins:Z7} {σ:St} {H:Hp} {s:Shared} {fp:X0} (I:Inv X pins σ H s) (hf:∀ b∈fp,l7 X pins H b) (ho:∀ b∈fp,∃ o,s.heap.get? b=some o/\∀ v,o.data ≠ .cell v):Inv X (pins++kZ fp s.heap) σ H s :=
 I.pins_of fun p hp=>(Ze.mp hp).elim (fun z=>I.pin p (ZW _ z)) fun z=>by
  obtain ⟨hb,e⟩:=uJ z
  obtain ⟨f0,f1,f2,_⟩:=hf p.1 hb
  obtain ⟨o,e',d⟩:=ho p.1 hb
  rw [e] at e';cases e'
  exact ⟨e,f0,f1,f2,d⟩
theorem Inv.unpinned {pins pl:Z7} {σ:St} {H:Hp} {s:Shared} (I:Inv X (pins++pl) σ H s):Inv X pins σ H s:=I.pins_of fun p hp=>I.pin p (ZW _ (Yw _ hp))
theorem Bx {iter:Expr} {body:List Stmt} {wi:TI} {g:TG} {tb:TS} {pos:Pos} (hp:PassesOwn (model X.prog X.w) X.A X.env X.xe) (hc:X.calm=true) (hi:PI X tg iter wi) (hg:PG X tg g) (hb:PSs X body tb)
  (hs:∀ x,foldedSetIterable iter X.env x=pure x:=by intro _;rfl):PS X (.For tg iter body [] pos) (BX wi g tb):=by
 intro pins s σ H D I h
 refine wpAny_For (thn (hi pins s σ H _ I h) fun v s1 h1=>thn h1 fun itv s2 h2=>?_) hs
 obtain ⟨it,fp,tn,J,H2,e,I2,T,st2,f2,W,⟨m0,w0⟩,turn⟩:=h2
 subst e
 have stat:∀ {H':Hp},(∀ b∈fp,H' b=none)->∀ b∈fp,l7 X pins H' b:=fun hn b hb=>⟨hn b hb,(f2 b hb).2⟩
 refine codeAny_forLoop_any (fun n s'=>∃ i σ' H',Inv X pins σ' H' s'/\tn i s'.heap/\(∀ b∈fp,H' b=none)/\W i n σ' H') ?_ m0 ⟨0,σ,H2,I2,st2,fun b hb=>(f2 b hb).1,w0⟩
 rintro n s3 ⟨i,σ3,H3,I3,st3,fr3,w3⟩
 rcases turn i n σ3 H3 w3 with ⟨stop,qn⟩ | ⟨go,N,hN,step⟩
 ·refine YF hp (thn (T.done X rfl rfl rfl hc i pins s3 σ3 H3 X.xe I3 (stat fr3) st3 stop) fun r s4 ⟨hr,I4⟩=>?_)
  subst hr
  exact XD ⟨σ3,H3,I4,qn⟩
 ·refine YF hp (thn (T.item X rfl rfl rfl hc i pins s3 σ3 H3 X.xe I3 (stat fr3) st3 go) fun r s4 ⟨u,hr,h4⟩=>?_)
  subst hr
  refine YF hp (thn h4 fun _ s5 ⟨x,H5,I5,r5,y5,st5,fr5⟩=>?_)
  have I5':=I5.pinned (stat fr5) (T.obj _ _ st5)
  refine YF hp (thn (hg _ s5 σ3 H5 x u _ I5' r5 (step x H5 y5)) fun _ s6 ⟨σ6,H6,I6,q6⟩=>?_)
  refine YF hp (thn (hb _ s6 σ6 H6 _ I6 q6) fun f s7 q7=>?_)
  have again:∀ {σ7:St} {H7:Hp},Inv X (pins++kZ fp s5.heap) σ7 H7 s7->N σ7 H7->∃ m,m < n/\∃ i σ' H',Inv X pins σ' H' s7/\tn i s7.heap/\(∀ b∈fp,H' b=none)/\W i m σ' H':=fun {σ7 H7} I7 n7=>by
   obtain ⟨m',hm,w7⟩:=hN σ7 H7 n7
   refine ⟨m',hm,i+1,σ7,H7,I7.unpinned,T.keep _ _ _ st5 fun b hb o e=>(I7.pin (b,o) (ZW _ (ZW _ (gM hb e)))).1,fun b hb=>?_,w7⟩
   obtain ⟨o,e,d⟩:=T.obj _ _ st5 b hb
   exact (I7.pin (b,o) (ZW _ (ZW _ (gM hb e)))).2.1
  cases f with
  | next=>obtain ⟨σ7,H7,I7,n7⟩:=q7;exact again I7 n7
  | cont=>obtain ⟨σ7,H7,I7,n7⟩:=q7;exact again I7 n7
  | brk=>obtain ⟨σ7,H7,I7,q7⟩:=q7;exact ⟨σ7,H7,I7.unpinned,q7⟩
  | ret v=>obtain ⟨x7,σ7,H7,I7,r7,q7⟩:=q7;exact ⟨x7,σ7,H7,I7.unpinned,r7,q7⟩
end
noncomputable abbrev R2:=V->V->Hp->VK->Prop
noncomputable def OpR (X:Cx) (f:Value->Value->Sem Value) (r:R2):Prop :=
 ∀ (pins:Z7) (s:Shared) (σ:St) (H:Hp) (x y:V) (v u:Value) (Q:VK),Inv X pins σ H s->RelV x v->RelV y u->r x y H Q →
  wpAny (model X.prog X.w) X.A (f v u) (EP X pins σ Q) X.xe s
noncomputable def UnR (X:Cx) (f:Value->Sem Value) (r:V->Hp->VK->Prop):Prop :=
 ∀ (pins:Z7) (s:Shared) (σ:St) (H:Hp) (x:V) (v:Value) (Q:VK),Inv X pins σ H s->RelV x v->r x H Q →
  wpAny (model X.prog X.w) X.A (f v) (EP X pins σ Q) X.xe s
noncomputable def dP (X:Cx) (f:Value) (r:List V->Hp->VK->Prop):Prop :=
 ∀ (pins:Z7) (s:Shared) (σ:St) (H:Hp) (xs:List V) (us:Wx) (Q:VK),Inv X pins σ H s->aO xs us->r xs H Q →
  wpAny (model X.prog X.w) X.A (call f us) (EP X pins σ Q) X.xe s
noncomputable def Di (X:Cx) (r:V->Hp->(Bool->Hp->Prop)->Prop):Prop :=
 ∀ (pins:Z7) (s:Shared) (σ:St) (H:Hp) (x:V) (v:Value) (Q:Bool->Hp->Prop),Inv X pins σ H s->RelV x v->r x H Q →
  wpAny (model X.prog X.w) X.A (truthy v) (TP X pins σ Q) X.xe s
noncomputable def tOp (r:R2) (ta tb:TE):TE:=fun σ H Q=>ta σ H fun x H1=>tb σ H1 fun y H2=>r x y H2 Q
noncomputable def tUn (r:V->Hp->VK->Prop) (ta:TE):TE:=fun σ H Q=>ta σ H fun x H1=>r x H1 Q
noncomputable def rI (C:Int->Int->Prop) (g:Int->Int->V):R2:=fun x y H Q=>∃ i j,x=.int i/\y=.int j/\C i j/\Q (g i j) H
noncomputable def rI0 (g:Int->Int->V):R2:=fun x y H Q=>∃ i j,x=.int i/\y=.int j/\Q (g i j) H
noncomputable def rU (g:Int->V):V->Hp->VK->Prop:=fun x H Q=>∃ i,x=.int i/\Q (g i) H
section
variable {X:Cx} {a b c:Expr} {ta tb tc:TE} {pos:Pos}
theorem B6 (ha:PE X a ta) (hb:PE X b tb) {pins:Z7} {s:Shared} {σ:St} {H:Hp} {R:V->V->Hp->Prop} (I:Inv X pins σ H s)
  (h:ta σ H fun x H1=>tb σ H1 fun y H2=>R x y H2) {Q:Z0} {f:Value->Value->Sem Value}
  (hf:∀ v u s2 x y H2,Inv X pins σ H2 s2->RelV x v->RelV y u->R x y H2->wpAny (model X.prog X.w) X.A (f v u) Q X.xe s2) :
  wpAny (model X.prog X.w) X.A (eval a X.env) (fun v s₁=>wpAny (model X.prog X.w) X.A (eval b X.env) (fun u s₂=>wpAny (model X.prog X.w) X.A (f v u) Q X.xe s₂) X.xe s₁) X.xe s:=by
 refine thn (ha pins s σ H _ I h) fun v s1 ⟨x,H1,I1,r1,q1⟩=>?_
 refine thn (hb pins s1 σ H1 _ I1 q1) fun u s2 ⟨y,H2,I2,r2,q2⟩=>?_
 exact hf v u s2 x y H2 I2 r1 r2 q2
theorem zO {op:Operator} {r:R2} (ho:OpR X (binaryOp op) r) (ha:PE X a ta) (hb:PE X b tb):PE X (.BinOp a op b pos) (tOp r ta tb):=by
 intro pins s σ H Q I h
 exact wpAny_BinOp (B6 ha hb I h fun v u s2 x y H2 I2 rx ry q=>ho pins s2 σ H2 x y v u Q I2 rx ry q)
theorem CF {op:UnaryOp} {r:V->Hp->VK->Prop} (ho:UnR X (unaryOp op) r) (ha:PE X a ta):PE X (.UnaryOp op a pos) (tUn r ta):=by
 intro pins s σ H Q I h
 exact UnaryOp_ (thn (ha pins s σ H _ I h) fun v s1 ⟨x,H1,I1,r1,q1⟩=>ho pins s1 σ H1 x v Q I1 r1 q1)
theorem opI {f:Value->Value->Sem Value} {C:Int->Int->Prop} {g:Int->Int->Int}
  (rule:∀ (i j:Int) (t u:Tok) (s:Shared) (Q:Z0) (E:Z0),C i j->Q (.int (g i j) s.toks) { s with toks:=s.toks+1 }->wpAny (model X.prog X.w) X.A (f (.int i t) (.int j u)) Q E s) :
  OpR X f (rI C fun i j=>.int (g i j)):=by
 intro pins s σ H x y v u Q I rx ry h
 obtain ⟨i,j,rfl,rfl,hc,q⟩:=h
 obtain ⟨t,rfl⟩:=rx
 obtain ⟨t',rfl⟩:=ry
 exact rule i j t t' s _ _ hc ⟨.int (g i j),H,I.tok _,⟨_,rfl⟩,q⟩
theorem CN {f:Value->Value->Sem Value} {g:Int->Int->Int}
  (rule:∀ (i j:Int) (t u:Tok) (s:Shared) (Q:Z0) (E:Z0),Q (.int (g i j) s.toks) { s with toks:=s.toks+1 }->wpAny (model X.prog X.w) X.A (f (.int i t) (.int j u)) Q E s) :
  OpR X f (rI0 fun i j=>.int (g i j)):=by
 intro pins s σ H x y v u Q I rx ry h
 obtain ⟨i,j,rfl,rfl,q⟩:=h
 obtain ⟨t,rfl⟩:=rx
 obtain ⟨t',rfl⟩:=ry
 exact rule i j t t' s _ _ ⟨.int (g i j),H,I.tok _,⟨_,rfl⟩,q⟩
theorem CJ {f:Value->Value->Sem Value} {g:Int->Int->Bool}
  (rule:∀ (i j:Int) (t u:Tok) (s:Shared) (Q:Z0) (E:Z0),Q (.bool (g i j)) s->wpAny (model X.prog X.w) X.A (f (.int i t) (.int j u)) Q E s) :
  OpR X f (rI0 fun i j=>.bl (g i j)):=by
 intro pins s σ H x y v u Q I rx ry h
 obtain ⟨i,j,rfl,rfl,q⟩:=h
 obtain ⟨t,rfl⟩:=rx
 obtain ⟨t',rfl⟩:=ry
 exact rule i j t t' s _ _ ⟨.bl (g i j),H,I,rfl,q⟩
noncomputable def C6 (i j:Int):Prop:=0 < j/\j < 1073741824
noncomputable def yz (i j:Int):Prop:=(-(2 ^ 64) < i/\i < 2 ^ 64)\/(-(2 ^ 64) < j/\j < 2 ^ 64)
theorem yz.ok {i j:Int} (h:yz i j):IntMulOk i j:=by
 rcases h with ⟨h1,h2⟩ | ⟨h1,h2⟩
 ·exact .of_left (intBits_le_64 h1 h2)
 ·exact .of_right (intBits_le_64 h1 h2)
theorem A1:OpR X (binaryOp .Add) (rI0 fun i j=>.int (i+j)):=CN fun _ _ _ _ _ _ _ q=>add_int q
theorem BK:OpR X (binaryOp .Sub) (rI0 fun i j=>.int (i - j)):=CN fun _ _ _ _ _ _ _ q=>sub_int q
theorem AD:OpR X (binaryOp .Mult) (rI yz fun i j=>.int (i * j)):=opI fun _ _ _ _ _ _ _ hc q=>mul_int q hc.ok
theorem kH:OpR X (binaryOp .FloorDiv) (rI C6 fun i j=>.int (i / j)):=opI fun i j _ _ _ _ _ hc q=>by
 have h1:(0:Int) < j:=hc.1
 have h2:j < 1073741824:=hc.2
 exact floordiv_int (by lia) (by rw [Int.fdiv_eq_ediv_of_nonneg i (by lia)];exact q) (.inl (PyProof.noPylong_small (by omega)))
theorem Bb:OpR X (binaryOp .Mod) (rI (fun _ j=>0 < j) fun i j=>.int (i % j)):=opI fun i j _ _ _ _ _ hc q=>by
 have h1:(0:Int) < j:=hc
 exact mod_int' (by lia) (by rw [Int.fmod_eq_emod_of_nonneg i (by lia)];exact q)
theorem unI {f:Value->Sem Value} {g:Int->Int}
  (rule:∀ (i:Int) (t:Tok) (s:Shared) (Q:Z0) (E:Z0),Q (.int (g i) s.toks) { s with toks:=s.toks+1 }->wpAny (model X.prog X.w) X.A (f (.int i t)) Q E s) :
  UnR X f (rU fun i=>.int (g i)):=by
 intro pins s σ H x v Q I rx h
 obtain ⟨i,rfl,q⟩:=h
 obtain ⟨t,rfl⟩:=rx
 exact rule i t s _ _ ⟨.int (g i),H,I.tok _,⟨_,rfl⟩,q⟩
theorem Ax:UnR X (unaryOp .USub) (rU fun i=>.int (-i)):=unI fun _ _ _ _ _ q=>neg_int q
end
section
variable {X:Cx} {a b c:Expr} {ta tb tc:TE} {pos:Pos}
theorem Bf {pins:Z7} {σ:St} {H:Hp} {s:Shared} {Q:VK} {k k':Bool} (I:Inv X pins σ H s) (q:Q (.bl k) H) (e:k=k'):EP X pins σ Q (.bool k') s:=by
 subst e
 exact ⟨.bl k,H,I,rfl,q⟩
theorem B1:OpR X (compareOp .Lt) (rI0 fun i j=>.bl (decide (i < j))):=CJ fun _ _ _ _ _ _ _ q=>lt_int q
theorem C0:OpR X (compareOp .Gt) (rI0 fun i j=>.bl (decide (j < i))):=CJ fun _ _ _ _ _ _ _ q=>gt_int q
theorem t5:OpR X (compareOp .Lt) (fun x y H Q=>∃ i j,x=.str i/\y=.str j/\Q (.bl (decide (i.cps.toList < j.cps.toList))) H):=by
 intro pins s σ H x y v u Q I rx ry h
 obtain ⟨i,j,rfl,rfl,q⟩:=h
 obtain ⟨t,rfl⟩:=rx
 obtain ⟨t',rfl⟩:=ry
 exact lt_str (Bf I q rfl)
theorem OpR.or {f:Value->Value->Sem Value} {r r':R2} (h:OpR X f r) (h':OpR X f r'):OpR X f (fun x y H Q=>r x y H Q\/r' x y H Q):=by
 intro pins s σ H x y v u Q I rx ry q
 rcases q with q | q
 ·exact h pins s σ H x y v u Q I rx ry q
 ·exact h' pins s σ H x y v u Q I rx ry q
theorem gF (b:Expr) {op:CmpOp} (h:op ≠ .In:=by decide) (h2:op ≠ .NotIn:=by decide):behindInMarks op b=false:=by
 have e1:(op == CmpOp.In)=false:=by cases op <;> first | rfl | exact absurd rfl h
 have e2:(op == CmpOp.NotIn)=false:=by cases op <;> first | rfl | exact absurd rfl h2
 cases b <;> simp [behindInMarks,e1,e2]
noncomputable def wW (t:TE):TT:=fun σ H Q=>t σ H fun x H'=>∃ k,x=.bl k/\Q k H'
theorem tj {op:CmpOp} {r:R2} (ho:OpR X (compareOp op) r) (ha:PE X a ta) (hb:PE X b tb) (hm:behindInMarks op b=false):PT X (.Compare a [op] [b] pos) (wW (tOp r ta tb)):=by
 intro pins s σ H Q I h
 refine wpAny_isTrue_Compare1 (thn (ha pins s σ H _ I h) fun v s1 ⟨x,H1,I1,r1,q1⟩=>thn (hb pins s1 σ H1 _ I1 q1) fun u s2 ⟨y,H2,I2,r2,q2⟩ =>
  thn (ho pins s2 σ H2 x y v u _ I2 r1 r2 q2) fun c s3 ⟨z,H3,I3,r3,k,e,q3⟩=>?_) hm
 subst e
 cases r3
 exact Xo ⟨H3,I3,q3⟩
noncomputable def vZ (r r':R2) (ta tb tc:TE):TE:=fun σ H Q=>ta σ H fun x H1=>tb σ H1 fun y H2=>r x y H2 fun z H3=>∃ k,z=.bl k ∧
 (if k=true then tc σ H3 fun w' H4=>r' y w' H4 Q else Q (.bl false) H3)
theorem wM {op op':CmpOp} {r r':R2} (ho:OpR X (compareOp op) r) (ho':OpR X (compareOp op') r') (ha:PE X a ta) (hb:PE X b tb) (hc:PE X c tc)
  (hm:lastMarks [op,op'] [b,c]=false:=by with_unfolding_all rfl):PT X (.Compare a [op,op'] [b,c] pos) (wW (vZ r r' ta tb tc)):=by
 intro pins s σ H Q I h
 refine isTrue_chain (thn (ha pins s σ H _ I h) fun v s1 ⟨x,H1,I1,r1,q1⟩=>test_link (thn (hb pins s1 σ H1 _ I1 q1) fun u s2 ⟨y,H2,I2,r2,q2⟩ =>
  thn (ho pins s2 σ H2 x y v u _ I2 r1 r2 q2) fun d s3 ⟨z,H3,I3,r3,k,e,q3⟩=>?_)) hm
 subst e
 cases r3
 refine Xo ?_
 cases k with
 | false =>
  obtain ⟨k',e',q'⟩:=q3
  cases e'
  exact ite_ff ⟨H3,I3,q'⟩
 | true =>
  refine ite_tt (test_last (thn (hc pins s3 σ H3 _ I3 q3) fun w' s4 ⟨z',H4,I4,r4,q4⟩=>thn (ho' pins s4 σ H4 y z' u w' _ I4 r2 r4 q4) fun d' s5 ⟨z2,H5,I5,r5,k2,e2,q5⟩=>?_))
  subst e2
  cases r5
  exact Xo ⟨H5,I5,q5⟩
noncomputable def A2 (K:Y2) (x:V) (H:Hp) (k:Bool):Prop :=
 match x with
 | .non=>k=false
 | .bl b=>k=b
 | .int i=>k=(i != 0)
 | .str y=>y.length<=sizeLine/\k=((y.length:Int) != 0)
 | .byt y=>y.size<=sizeLine/\k=((y.size:Int) != 0)
 | .ref p=>(∃ xs,SqL K H p xs/\k=!xs.isEmpty)\/(∃ xs,SqT K H p xs/\k=!xs.isEmpty)\/∃ kvs,H p=some (.dK kvs)/\k=!kvs.isEmpty
 | _=>False
theorem rn {κ:Type} {kvs:List (κ×V)} {vs:List (κ×Value)} (r:KV kvs vs):(!vs.isEmpty)=!kvs.isEmpty:=by
 cases r <;> rfl
theorem la {xs:List V} {its:Wx} (r:aO xs its):(!its.toArray.isEmpty)=!xs.isEmpty:=by
 cases r <;> simp
theorem kc:(sizeLine:Nat) < 2 ^ 63:=by rw [Xy];decide
theorem BB:Di X (fun x H Q=>∃ k,A2 X.K x H k/\Q k H):=by
 intro pins s σ H x v Q I rx h
 obtain ⟨k,e,q⟩:=h
 have hl:=kc
 have hs:sizeLine=16777216:=Xy
 cases x with
 | non =>
  cases rx
  have e':k=false:=e
  subst e'
  exact truthy_none ⟨H,I,q⟩
 | bl b =>
  cases rx
  have e':k=b:=e
  subst e'
  exact Xo ⟨H,I,q⟩
 | int i =>
  obtain ⟨t,rfl⟩:=rx
  have e':k=(i != 0):=e
  subst e'
  exact PySem.P.truthy_int ⟨H,I,q⟩
 | str y =>
  obtain ⟨t,rfl⟩:=rx
  obtain ⟨hy,e'⟩:y.length<=sizeLine/\k=((y.length:Int) != 0):=e
  subst e'
  exact PySem.P.truthy_str (by lia) ⟨H,I.tok _,q⟩
 | byt y =>
  obtain ⟨t,rfl⟩:=rx
  obtain ⟨hy,e'⟩:y.size<=sizeLine/\k=((y.size:Int) != 0):=e
  subst e'
  exact PySem.W.truthy_bytes (by lia) ⟨H,I.tok _,q⟩
 | ref p =>
  cases rx
  have e':(∃ xs,SqL X.K H p xs/\k=!xs.isEmpty)\/(∃ xs,SqT X.K H p xs/\k=!xs.isEmpty)\/∃ kvs,H p=some (.dK kvs)/\k=!kvs.isEmpty:=e
  rcases e' with ⟨xs,hx,e'⟩ | ⟨xs,hx,e'⟩ | ⟨kvs,hx,e'⟩
  ·subst e'
   obtain ⟨its,r,pl,hz⟩:=I.list hx
   have hlen:=r.length
   exact wpAny_truthy_list pl.isList (by simp only [ZY];lia) ⟨H,I.tok _,by rw [la r];exact q⟩
  ·subst e'
   obtain ⟨its,r,pl,hz⟩:=I.tuple hx
   have hlen:=r.length
   exact truthy_tuple pl (by simp only [ZY];lia) ⟨H,I.tok _,by rw [la r];exact q⟩
  ·subst e'
   obtain ⟨hz,hS,vs,r,m⟩:kvs.length<=sizeLine/\(p == sysModules)=false/\∃ vs,KV kvs vs/\s.heap.DictOf (aM X.prog X.w) p vs:=I.hok p _ hx
   have hlen:kvs.length=vs.length:=Y8 r
   exact wpAny_truthy_dict hS m (by lia) ⟨H,I.tok _,by rw [rn r];exact q⟩
 | _=>exact (show False from e).elim
theorem wH (ha:PE X a ta) (he:∀ whole,isTrue a X.env whole=(do let v ← whole;standAt a.pos;holding [v] (truthy v))) :
  PT X a (fun σ H Q=>ta σ H fun x H'=>∃ k,A2 X.K x H' k/\Q k H'):=by
 intro pins s σ H Q I h
 exact isTrue_plain (thn (ha pins s σ H _ I h) fun v s1 ⟨x,H1,I1,r1,q1⟩=>BB pins s1 σ H1 x v Q I1 r1 q1) (he _)
theorem qZ:OpR X (binaryOp .Add) (fun x y H Q=>∃ i j,x=.str i/\y=.str j/\i.length+j.length<=sizeLine/\Q (.str (i++j)) H):=by
 intro pins s σ H x y v u Q I rx ry h
 obtain ⟨i,j,rfl,rfl,hz,q⟩:=h
 obtain ⟨t,rfl⟩:=rx
 obtain ⟨t',rfl⟩:=ry
 exact add_str (fun t' tk=>⟨.str (i++j),H,I.tok _,⟨_,rfl⟩,q⟩) hz
theorem vals1 {x:V} {us:Wx} (r:aO [x] us):∃ u,us=[u]/\RelV x u:=by
 cases r with
 | cons r1 r2=>cases r2;exact ⟨_,rfl,r1⟩
theorem vals2 {x y:V} {us:Wx} (r:aO [x,y] us):∃ u w',us=[u,w']/\RelV x u/\RelV y w':=by
 cases r with
 | cons r1 r2 =>
  cases r2 with
  | cons r3 r4=>cases r4;exact ⟨_,_,rfl,r1,r3⟩
noncomputable def CG (K:Y2) (x:V) (H:Hp) (n:Nat):Prop :=
 match x with
 | .str y=>y.length<=sizeLine/\n=y.length
 | .byt y=>y.size<=sizeLine/\n=y.size
 | .ref p=>(∃ xs,SqL K H p xs/\n=xs.length)\/∃ xs,SqT K H p xs/\n=xs.length
 | _=>False
theorem vW:dP X (.builtin "len") (fun xs H Q=>∃ x n,xs=[x]/\CG X.K x H n/\Q (.int n) H):=by
 intro pins s σ H xs us Q I r h
 obtain ⟨x,n,rfl,e,q⟩:=h
 obtain ⟨u,rfl,rx⟩:=vals1 r
 have hl:=kc
 have hs:sizeLine=16777216:=Xy
 cases x with
 | str y =>
  obtain ⟨t,rfl⟩:=rx
  obtain ⟨hy,e'⟩:y.length<=sizeLine/\n=y.length:=e
  subst e'
  exact len_str (by lia) ⟨.int _,H,I.tok _,⟨_,rfl⟩,q⟩
 | byt y =>
  obtain ⟨t,rfl⟩:=rx
  obtain ⟨hy,e'⟩:y.size<=sizeLine/\n=y.size:=e
  subst e'
  exact PySem.W.len_bytes (by lia) ⟨.int _,H,I.tok _,⟨_,rfl⟩,q⟩
 | ref p =>
  cases rx
  have e':(∃ xs,SqL X.K H p xs/\n=xs.length)\/∃ xs,SqT X.K H p xs/\n=xs.length:=e
  rcases e' with ⟨xs,hx,e'⟩ | ⟨xs,hx,e'⟩
  ·subst e'
   obtain ⟨its,r',pl,hz⟩:=I.list hx
   have hlen:=r'.length
   exact Calls.call_len_list pl.isList (by simp only [ZY];lia) ⟨.int xs.length,H,I.tok _,⟨_,by simp only [ZY];rw [hlen]⟩,q⟩
  ·subst e'
   obtain ⟨its,r',pl,hz⟩:=I.tuple hx
   have hlen:=r'.length
   exact len_tuple pl (by simp only [ZY];lia) ⟨.int xs.length,H,I.tok _,⟨_,by simp only [ZY];rw [hlen]⟩,q⟩
 | _=>exact (show False from e).elim
end
structure ObjM (h:Heap) (x dx C:Addr) (mA:Xu):Prop where
 obj:h.get? x=some (PySem.W.instObj C dx)
 ns:h.Ns1 dx mA
 ne:dx ≠ x
theorem uc {h:Heap} {dx:Addr} {mA:Xu} (n:h.Ns1 dx mA):∃ od,h.get? dx=some od/\∀ name,PySem.W.lookIn name od=some (mA name):=by
 obtain ⟨o,es,ep,ho,hd,hk,_,hm⟩:=n
 refine ⟨o,ho,fun name=>?_⟩
 have e:=hm name
 unfold nsFind findBy at e
 rw [← Array.find?_toList] at e
 unfold PySem.W.lookIn
 rw [hd]
 dsimp only
 split
 ·rename_i y q
  rw [q] at e
  exact congrArg some e
 ·rename_i q
  rw [q] at e
  have a:es.toList.any (·.refKey)=false:=by
   rw [List.any_eq_false]
   intro y hy
   obtain ⟨z,t,hkey⟩:=hk y (Array.mem_toList_iff.mp hy)
   simp [DictEntry.refKey,hkey]
  have a':¬ es.toList.any (·.refKey)=true:=by rw [a];exact Zd
  rw [Zm a']
  exact congrArg some e
theorem ObjM.look {h:Heap} {x dx C:Addr} {mA:Xu} (I:ObjM h x dx C mA):∃ od,PySem.W.InstAt h x (PySem.W.instObj C dx) C (some od)/\∀ name,PySem.W.lookIn name od=some (mA name) :=
 let ⟨od,ho,hl⟩:=uc I.ns
 ⟨od,⟨I.obj,rfl,rfl,ho⟩,hl⟩
section
variable {prog:Program} {w:World} {A:Around} {E:Z0} {s:Shared} {K:Y2} {x dx C f:Addr} {mA:Xu} {name:Str} {v:Value}
theorem get_map {expr:Bool} {Q:Z0} (X:K.In s.heap) (I:ObjM s.heap x dx C mA) (hg:PySem.W.plainGet K C name=true) (hh:PySem.W.hasDictIn K C=true)
  (ha:PySem.W.findIn K (.ref C) name=some none) (hv:mA name=some v) (hv':PySem.W.handedIn v=true) (h:Q v { s with toks:=s.toks+1 }) :
  wpAny (model prog w) A (getAttr (.ref x) name expr) Q E s:=by
 obtain ⟨od,J,hl⟩:=I.look
 exact PySem.W.get_value X J (XH hg).1 (PySem.W.findObj_own hh ha rfl (by rw [hl,hv])) hv' h
theorem vA {pl:Sem Bool} {Q:Value×Wx->Shared->Prop} (X:K.In s.heap) (I:ObjM s.heap x dx C mA) (hg:PySem.W.plainGet K C name=true)
  (hf:PySem.W.findIn K (.ref C) name=some (some (.ref f))) (ht:PySem.W.isFn K (.ref f)=true) (hv:mA name=none) (h:Q (.ref f,[.ref x]) s) :
  wpAny (model prog w) A (getMethod (.ref x) name pl) Q E s:=by
 obtain ⟨od,J,hl⟩:=I.look
 exact PySem.W.method_fn X J (XH hg).1 (XH hg).2 hf (beq_iff_eq.mp ht) (by show (PySem.W.lookIn name od).map (·.isSome)=some false;rw [hl,hv];rfl) h
theorem xZ {ns:List Str} {Q:Unit->Shared->Prop} (X:K.In s.heap) (I:ObjM s.heap x dx C mA)
  (hs:PySem.W.findIn K (.ref C) "__setattr__" = some (some (.builtin "object.__setattr__"))) (hp:PySem.W.plainOver K C=true) (ht:PySem.W.takerIn K C name=some none) (hh:PySem.W.hasDictIn K C=true)
  (hw:PySem.Within mA ns) (hsz:ns.length<=sizeLine)
  (h:∀ h',ObjM h' x dx C (fun y=>if y=name then some v else mA y)->Heap.SameBut dx s.heap h'->Q () { s with heap:=h',toks:=s.toks+2 }) :
  wpAny (model prog w) A (setAttr (.ref x) name v) Q E s:=by
 obtain ⟨od,J,hl⟩:=I.look
 refine PySem.W.set_plain X J hs (PySem.W.osa_open (s:={ s with toks:=s.toks+1 }) (r:=none) X J hp ht fun b=>?_)
 obtain ⟨cd,hc,hd'⟩:=PySem.W.any_some hh
 have hx:s.heap.get? x=some ⟨.ref C,some dx,.plain,#[]⟩:=I.obj
 refine Zp (Za (Zp (Zp (wpAny_loadPart hx (Zp (PySem.W.Looks.here (s:={ s with toks:=s.toks+1 }) (PySem.W.looks_clsIn X hc) ?_))))))
 rw [hd']
 refine Za (a:=some dx) (Zp (Za (Zp ?_)))
 refine wpAny_nsSet1 (s:={ s with toks:=s.toks+1 }) I.ns fun h' hn2 hs2=>?_
 obtain ⟨oD,esD,epD,hoD,hdD,hcD⟩:=hn2.count (PySem.Within.cons name v hw)
 refine Zp (wpAny_lookBehind hoD (by rw [hdD];exact pastItsLine_dict (ZG hcD (by rw [Zn];exact YC hsz))) ?_)
 exact Za (h _ ⟨(hs2.2 _ (Yk I.ne)).trans I.obj,hn2,I.ne⟩ hs2)
theorem vH {R:Result->Shared->Prop} {vs:Wx} {kw:List (Str×Value)} (X:K.In s.heap) (hm:PySem.W.makesIn K C=true)
  (hi:PySem.W.findIn K (.ref C) "__init__" = some (some (.ref f))) (hf:PySem.W.typeIn K (.ref f)=some (.type "function"))
  (h:codeAny (model prog w) (A.under (.builtin "type.__call__" ⟨.ref C :: vs,kw⟩)) (.call (.ref f) ⟨.ref (s.heap.objs.size+1) :: vs,kw⟩) (PySem.W.InitBack (s.heap.objs.size+1) R)
   { s with heap:=(s.heap.push PySem.W.emptyDict).push (PySem.W.instObj C s.heap.objs.size) }) :
  codeAny (model prog w) A (.call (.ref C) ⟨vs,kw⟩) R s:=by
 obtain ⟨hh,g,d,t,os⟩:=s
 exact PySem.W.make_core (PySem.W.makes_of X hm) (PySem.W.looks_findIn X hi) (fun self=>PySem.W.bind_fn X self hf) (.inl rfl) h
end
noncomputable def gY (f:Str) (v:V):List (Str×V)->List (Str×V)
 | []=>[(f,v)]
 | (g,x) :: r=>if g=f then (g,v) :: r else (g,x) :: gY f v r
theorem kf (f g:Str) (v:V):∀ fs:List (Str×V),(gY f v fs).lookup g=if g=f then some v else fs.lookup g
 | []=>by
  show List.lookup g [(f,v)]=_
  by_cases h:g=f
  ·have hb:(g == f)=true:=beq_iff_eq.mpr h
   simp only [List.lookup,hb,Zq h]
  ·have hb:(g == f)=false:=ZO.mpr h
   simp only [List.lookup,hb,Zm h]
 | (k,x) :: r=>by
  have ih:=kf f g v r
  rw [show gY f v ((k,x) :: r)=(if k=f then (k,v) :: r else (k,x) :: gY f v r) from rfl]
  by_cases hk:k=f
  ·rw [Zq hk]
   by_cases h:g=k
   ·have hb:(g == k)=true:=beq_iff_eq.mpr h
    simp only [List.lookup,hb,Zq (h.trans hk)]
   ·have hb:(g == k)=false:=ZO.mpr h
    simp only [List.lookup,hb,Zm (fun e:g=f=>h (e.trans hk.symm))]
  ·rw [Zm hk]
   by_cases h:g=k
   ·have hb:(g == k)=true:=beq_iff_eq.mpr h
    simp only [List.lookup,hb,Zm (fun e:g=f=>hk (h.symm.trans e))]
   ·have hb:(g == k)=false:=ZO.mpr h
    simp only [List.lookup,hb]
    exact ih
theorem jX (f:Str) (v:V):∀ fs:List (Str×V),f∈(gY f v fs).map (·.1)/\∀ g,g∈fs.map (·.1)->g∈(gY f v fs).map (·.1)
 | []=>⟨by simp [gY],fun g h=>by simp at h⟩
 | (k,x) :: r=>by
  obtain ⟨i1,i2⟩:=jX f v r
  rw [show gY f v ((k,x) :: r)=(if k=f then (k,v) :: r else (k,x) :: gY f v r) from rfl]
  by_cases hk:k=f
  ·rw [Zq hk]
   subst hk
   exact ⟨by simp,fun g h=>by simpa using h⟩
  ·rw [Zm hk]
   refine ⟨?_,fun g h=>?_⟩
   ·rw [Zl]
    exact Zy _ i1
   ·rw [Zl] at h ⊢
    rcases Zo.mp h with e | e
    ·exact Zo.mpr (.inl e)
    ·exact Zy _ (i2 g e)
theorem ko (f:Str) (v:V):∀ fs:List (Str×V),(gY f v fs).length<=fs.length+1
 | []=>by simp [gY]
 | (k,x) :: r=>by
  have ih:=ko f v r
  rw [show gY f v ((k,x) :: r)=(if k=f then (k,v) :: r else (k,x) :: gY f v r) from rfl]
  by_cases hk:k=f
  ·rw [Zq hk,Zn,Zn];exact YS _ _
  ·rw [Zm hk,Zn,Zn];exact YC ih
theorem gU.some_of {v:V} {o:Ww} (r:gU (some v) o):∃ u,o=some u/\RelV v u:=by
 cases o with
 | none=>exact (show False from r).elim
 | some u=>exact ⟨u,rfl,r⟩
theorem gU.none_of {o:Ww} (r:gU none o):o=none:=by
 cases o with
 | none=>rfl
 | some u=>exact (show False from r).elim
theorem ub {v:V} {u:Value} (r:RelV v u):PySem.W.handedIn u=true:=by
 cases v with
 | non=>cases (show u=Value.none from r);rfl
 | bl b=>cases (show u=Value.bool b from r);rfl
 | int i=>obtain ⟨t,e⟩:=(show ∃ t,u=Value.int i t from r);cases e;rfl
 | str x=>obtain ⟨t,e⟩:=(show ∃ t,u=Value.str x t from r);cases e;rfl
 | byt b=>obtain ⟨t,e⟩:=(show ∃ t,u=Value.bytes b t from r);cases e;rfl
 | flt b=>obtain ⟨t,e⟩:=(show ∃ t,u=Value.float b t from r);cases e;rfl
 | ref a=>cases (show u=Value.ref a from r);rfl
 | ty n=>cases (show u=Value.type n from r);rfl
section
variable {P:Program} {w:World} {H H':Hp} {h h':Heap} {a C dx:Addr} {fs fs':List (Str×V)}
theorem kQ (hok:HOk P w H h) (e:H a=some (.ins C dx fs)):∃ mA,ObjM h a dx C mA/\(∀ f,gU (fs.lookup f) (mA f))/\PySem.Within mA (fs.map (·.1))/\fs.length<=1000/\H dx=some (.own a):=by
 obtain ⟨d,z,ne,ob,mA,n,r,q⟩:=(show bF P w H h a (.ins C dx fs) from hok a _ e)
 exact ⟨mA,⟨ob,n,ne⟩,r,q,z,d⟩
end
structure Cls (K:Y2) (C:Addr):Prop where
 pg:PySem.W.plainGet K C Str.empty=true
 hd:PySem.W.hasDictIn K C=true
 po:PySem.W.plainOver K C=true
 sa:PySem.W.findIn K (.ref C) "__setattr__" = some (some (.builtin "object.__setattr__"))
theorem Cls.get {K:Y2} {C:Addr} (c:Cls K C) (f:Str):PySem.W.plainGet K C f=true:=c.pg
noncomputable def dW (K:Y2) (C:Addr) (f:Str):Prop:=PySem.W.findIn K (.ref C) f=some none
theorem dW.taker {K:Y2} {C:Addr} {f:Str} (n:dW K C f):PySem.W.takerIn K C f=some none:=by
 unfold PySem.W.takerIn
 rw [show PySem.W.findIn K (.ref C) f=some none from n]
 rfl
structure Meth (K:Y2) (C:Addr) (m:Str) (f:Addr):Prop where
 at_:PySem.W.findIn K (.ref C) m=some (some (.ref f))
 fn:PySem.W.isFn K (.ref f)=true
 kp:PySem.W.keepIn K (.ref f)=true
section
variable {X:Cx} {pins:Z7} {σ:St} {H:Hp} {s:Shared} {a C dx:Addr} {fs:List (Str×V)} {f:Str} {v:V} {A:Around} {E:Z0}
theorem qU {b:Bool} {Q:Z0} (I:Inv X pins σ H s) (e:H a=some (.ins C dx fs)) (c:Cls X.K C) (n:dW X.K C f) (l:fs.lookup f=some v)
  (h:∀ u s',Inv X pins σ H s'->RelV v u->Q u s'):wpAny (model X.prog X.w) A (getAttr (.ref a) f b) Q E s:=by
 obtain ⟨mA,O,r,_,_,_⟩:=kQ I.hok e
 obtain ⟨u,hu,ru⟩:=gU.some_of (v:=v) (o:=mA f) (by rw [← l];exact r f)
 exact get_map I.kIn O (c.get f) c.hd n hu (ub ru) (h u _ (I.tok _) ru)
theorem k9 {m:Str} {g:Addr} {pl:Sem Bool} {Q:Value×Wx->Shared->Prop} (I:Inv X pins σ H s) (e:H a=some (.ins C dx fs)) (c:Cls X.K C) (k:Meth X.K C m g) (l:fs.lookup m=none)
  (h:Q (.ref g,[.ref a]) s):wpAny (model X.prog X.w) A (getMethod (.ref a) m pl) Q E s:=by
 obtain ⟨mA,O,r,_,_,_⟩:=kQ I.hok e
 have hn:mA m=none:=gU.none_of (by rw [← l];exact r m)
 exact vA I.kIn O (c.get m) k.at_ k.fn hn h
theorem qL {y:V} {u:Value} {Q:Unit->Shared->Prop} (I:Inv X pins σ H s) (e:H a=some (.ins C dx fs)) (c:Cls X.K C) (n:dW X.K C f) (hl:fs.length < 1000) (ry:RelV y u)
  (h:∀ s',Inv X pins σ (upd H a (.ins C dx (gY f y fs))) s'->Q () s'):wpAny (model X.prog X.w) A (setAttr (.ref a) f u) Q E s:=by
 obtain ⟨mA,O,r,wi,_,ho⟩:=kQ I.hok e
 have hz:(fs.map (·.1)).length<=sizeLine:=by rw [Zv,Xy];lia
 refine xZ I.kIn O c.sa c.po n.taker c.hd wi hz fun h' O' sb=>h _ ?_
 have hd:∃ o,h'.get? dx=some o:=let ⟨o,_,_,e',_⟩:=O'.ns;⟨o,e'⟩
 refine I.write (x:=a) (e:=dx) (by rw [e];exact True.intro) (.inr ho) (fun b q hb z=>(sb.2 b hb).trans z) hd ?_
 refine ⟨by rw [ax O.ne];exact ho,?_,O.ne,O'.obj,_,O'.ns,fun g=>?_,fun g hg=>?_⟩
 ·have:=ko f y fs;lia
 ·show gU ((gY f y fs).lookup g) (if g=f then some u else mA g)
  rw [kf]
  by_cases q:g=f
  ·rw [Zq q,Zq q];exact ry
  ·rw [Zm q,Zm q];exact r g
 ·by_cases q:g=f
  ·rw [q];exact (jX f y fs).1
  ·refine (jX f y fs).2 g (wi g fun z=>hg ?_)
   show (if g=f then some u else mA g)=none
   rw [Zm q];exact z
theorem Inv.made (I:Inv X pins σ H s):Inv X pins σ (upd (upd H s.heap.objs.size (.own (s.heap.objs.size+1))) (s.heap.objs.size+1) (.ins C s.heap.objs.size []))
  { s with heap:=(s.heap.push PySem.W.emptyDict).push (PySem.W.instObj C s.heap.objs.size) }:=by
 have e1:(s.heap.push PySem.W.emptyDict).get? s.heap.objs.size=some PySem.W.emptyDict:=ZP s.heap rfl
 have e2:((s.heap.push PySem.W.emptyDict).push (PySem.W.instObj C s.heap.objs.size)).get? (s.heap.objs.size+1)=some (PySem.W.instObj C s.heap.objs.size):=by
  have:=ZP (s.heap.push PySem.W.emptyDict) (o:=PySem.W.instObj C s.heap.objs.size) rfl
  rwa [Heap.size_push] at this
 have e3:(s.heap.push PySem.W.emptyDict).Ns s.heap.objs.size (fun _=>none):=⟨PySem.W.emptyDict,#[],_,e1,rfl,(fun e he=>absurd he (by simp)),fun _=>rfl⟩
 have I1:=I.laid (a:=s.heap.objs.size) (o:=.own (s.heap.objs.size+1)) (h':=s.heap.push PySem.W.emptyDict) (t':=s.toks) (fun b u q=>Zi _ q) (Zg _) ⟨_,e1⟩
 refine I1.laid (a:=s.heap.objs.size+1) (o:=.ins C s.heap.objs.size []) (t':=s.toks) (fun b u q=>Zi _ q) (X6 (Heap.size_push _ _)) ?_
 have ne:s.heap.objs.size ≠ s.heap.objs.size+1:=ZZ (YT _)
 refine ⟨by rw [ax ne,ar],Yt _,ne,e2,fun _=>none,(Heap.Ns1.of_empty e3).at fun o q=>Zi _ q,fun _=>True.intro,fun y hy=>absurd rfl hy⟩
theorem yh {prog:Program} {w:World} {env:Env} {e:Expr} {f:Str} {pos:Pos} {s:Shared} {Q:Z0} (hb:attributeBase e f env (eval e env)=eval e env)
  (h:wpAny (model prog w) A (eval e env) (fun o s₁=>wpAny (model prog w) A (getAttr o f true) Q E s₁) E s):wpAny (model prog w) A (eval (.Attribute e f pos) env) Q E s :=
 Attribute_any_ h (by rw [arm_eval_Attribute,hb])
end
noncomputable def DC (K:Y2) (ta:TE) (f:Str):TE:=fun σ H Q=>ta σ H fun x H1=>∃ a C dx fs v,x=.ref a/\H1 a=some (.ins C dx fs)/\Cls K C/\dW K C f/\fs.lookup f=some v/\Q v H1
noncomputable def DA (K:Y2) (ta tv:TE) (f:Str):TS:=fun D σ H=>tv σ H fun y H1=>ta σ H1 fun x H2=>∃ a C dx fs,x=.ref a/\H2 a=some (.ins C dx fs)/\Cls K C/\dW K C f/\fs.length < 1000 ∧
 D.nx σ (upd H2 a (.ins C dx (gY f y fs)))
section
variable {X:Cx} {o e value:Expr} {f:Str} {pos pos' tpos:Pos} {ta tv:TE}
theorem u9 (he:PE X e ta) (hb:attributeBase e f X.env (eval e X.env)=eval e X.env):PE X (.Attribute e f pos) (DC X.K ta f):=by
 intro pins s σ H Q I h
 refine yh hb (thn (he pins s σ H _ I h) fun u s1 ⟨x,H1,I1,rx,a,C,dx,fs,v,ex,ea,c,n,l,q⟩=>?_)
 subst ex
 obtain rfl:u=Value.ref a:=rx
 exact qU I1 ea c n l fun u' s2 I2 ru=>⟨v,H1,I2,ru,q⟩
theorem AX (ha:PE X o ta) (hv:PE X value tv) (hs:swapsWith value (some (.Attribute o f pos')) pos.line X.env=pure false):PS X (.Assign [.Attribute o f pos'] value pos) (DA X.K ta tv f):=by
 intro pins s σ H D I h
 refine plainObj_wpAny_Assign_Attribute (thn (hv pins s σ H _ I h) fun u s1 ⟨y,H1,I1,ry,q⟩=>thn (ha pins s1 σ H1 _ I1 q) fun ov s2 ⟨x,H2,I2,rx,a,C,dx,fs,ex,ea,c,n,l,q2⟩=>?_) hs
 subst ex
 obtain rfl:ov=Value.ref a:=rx
 exact qL I2 ea c n l ry fun s3 I3=>⟨σ,_,I3,q2⟩
end
section
variable {X:Cx} {pins:Z7} {σ:St} {H:Hp} {s:Shared} {A:Around} {E:Z0} {Q:Z0} {c:Value} {b:Bool}
inductive TyOf (K:Y2) (H:Hp):V->Value->Prop where
 | non:TyOf K H .non (.type "NoneType")
 | bl (x:Bool):TyOf K H (.bl x) (.type "bool")
 | int (i:Int):TyOf K H (.int i) (.type "int")
 | str (x:Str):TyOf K H (.str x) (.type "str")
 | flt (x:UInt64):TyOf K H (.flt x) (.type "float")
 | lst {a:Addr} {xs:List V} (e:H a=some (.lst xs)):TyOf K H (.ref a) (.type "list")
 | frz {a:Addr} {o:Obj} {xs:List V} (e:H a=some (.frz o (.lst xs))):TyOf K H (.ref a) (.type "list")
 | tup {a:Addr} {xs:List V} (e:H a=some (.tup xs)):TyOf K H (.ref a) (.type "tuple")
 | dK {a:Addr} {kvs:List (Key×V)} (e:H a=some (.dK kvs)):TyOf K H (.ref a) (.type "dict")
 | dT {a:Addr} {kvs:List (List Key×V)} (e:H a=some (.dT kvs)):TyOf K H (.ref a) (.type "dict")
 | ins {a C dx:Addr} {fs:List (Str×V)} (e:H a=some (.ins C dx fs)) (cl:Cls K C) (ha:PySem.W.findIn K (.ref C) "__class__" = some (some (.builtin "object.__class__")))
   (hn:PySem.W.specialIn K (.builtin "object.__class__") "__get__" = some (some (.builtin "getset_descriptor.__get__"))) (htk:PySem.W.takesIn K (.builtin "object.__class__")=some true)
   (hm:PySem.W.mroIn K C (.type "object")=some true):TyOf K H (.ref a) (.ref C)
theorem uw {x:V} {u t:Value} (I:Inv X pins σ H s) (rx:RelV x u) (ty:TyOf X.K H x t) (e:PySem.W.kitOne X.K t c=some b) (h:∀ tk,Q (.bool b) { s with toks:=tk }) :
  wpAny (model X.prog X.w) A (call (.builtin "isinstance") [u,c]) Q E s:=by
 cases ty with
 | non=>cases (show u=Value.none from rx);exact Yp PySem.W.kitx_none I.kIn True.intro e (fun z=>nomatch z) h
 | bl y=>cases (show u=Value.bool y from rx);exact Yp PySem.W.kitx_bool I.kIn True.intro e (fun z=>nomatch z) h
 | int i=>obtain ⟨t,q⟩:=(show ∃ t,u=Value.int i t from rx);cases q;exact Yp PySem.W.kitx_int I.kIn True.intro e (fun z=>nomatch z) h
 | str y=>obtain ⟨t,q⟩:=(show ∃ t,u=Value.str y t from rx);cases q;exact Yp PySem.W.kitx_str I.kIn True.intro e (fun z=>nomatch z) h
 | flt y=>obtain ⟨t,q⟩:=(show ∃ t,u=Value.float y t from rx);cases q;exact Yp PySem.W.kitx_float I.kIn True.intro e (fun z=>nomatch z) h
 | @lst a xs ea =>
  cases (show u=Value.ref a from rx)
  obtain ⟨_,_,n,_,h1⟩:=(show bF X.prog X.w H s.heap a (.lst xs) from I.hok a _ ea)
  exact Yp PySem.W.kitx_list I.kIn ⟨_,h1,rfl⟩ e (fun z=>nomatch z) h
 | @frz a ob xs ea =>
  cases (show u=Value.ref a from rx)
  obtain ⟨_,_,_,n,_,h1⟩:=(show bF X.prog X.w H s.heap a (.frz ob (.lst xs)) from I.hok a _ ea)
  exact Yp PySem.W.kitx_list I.kIn ⟨_,h1,rfl⟩ e (fun z=>nomatch z) h
 | @tup a xs ea =>
  cases (show u=Value.ref a from rx)
  obtain ⟨_,_,_,_,p⟩:=(show bF X.prog X.w H s.heap a (.tup xs) from I.hok a _ ea)
  obtain ⟨o,h1,h2,_⟩:=p
  exact Yp PySem.W.kitx_tuple I.kIn ⟨o,h1,h2⟩ e (fun z=>nomatch z) h
 | @dK a kvs ea =>
  cases (show u=Value.ref a from rx)
  obtain ⟨_,_,vs,_,p⟩:=(show bF X.prog X.w H s.heap a (.dK kvs) from I.hok a _ ea)
  obtain ⟨o,es,ep,h1,h2,_⟩:=p
  exact Yp PySem.W.kitx_dict I.kIn ⟨o,h1,h2.1⟩ e (fun z=>nomatch z) h
 | @dT a kvs ea =>
  cases (show u=Value.ref a from rx)
  obtain ⟨_,_,xs,_,o,es,ep,h1,h2,_⟩:=(show bF X.prog X.w H s.heap a (.dT kvs) from I.hok a _ ea)
  exact Yp PySem.W.kitx_dict I.kIn ⟨o,h1,h2.1⟩ e (fun z=>nomatch z) h
 | @ins a C dx fs ea cl ha hn htk hm =>
  cases (show u=Value.ref a from rx)
  obtain ⟨mA,O,_⟩:=kQ I.hok ea
  obtain ⟨od,J,_⟩:=O.look
  exact Yp (PySem.W.kitx_own (cl.get _) cl.hd ha hn htk hm) I.kIn J e (fun z=>nomatch z) h
end
structure Room (k:Nat) (A:Around):Prop where
 hd:A.handled=none
 dp:A.depth+3 * k+5 < recursionLimit
 un:A.units+16 * k+200 < cLine
theorem Room.mono {j k:Nat} {A:Around} (r:Room k A) (h:j<=k):Room j A:=⟨r.hd,by have:=r.dp;lia,by have:=r.un;lia⟩
theorem Room.deeper {k:Nat} {A:Around} (r:Room (k+1) A) (env:Env):Room k (A.deeper env) :=
 ⟨r.hd,by have:=r.dp;show A.depth+1+3 * k+5 < _;lia,by have:=r.un;show A.units+3+16 * k+200 < _;lia⟩
theorem qC {A:Around} {C:Addr} {us:Wx} {kw:List (Str×Value)}:(A.under (.builtin "type.__call__" ⟨.ref C :: us,kw⟩)).depth=A.depth+1:=by
 first | rfl | simp [Around.under,Code.weight,Code.isCreation,Code.isGuard,Code.isCaller,Code.frames,Code.isFrame,guardIds]
theorem qG {A:Around} {C:Addr} {us:Wx} {kw:List (Str×Value)}:(A.under (.builtin "type.__call__" ⟨.ref C :: us,kw⟩)).units=A.units+1:=by
 first | rfl | simp [Around.under,Code.cUnits,Code.frames,Code.isFrame]
theorem Room.make {k:Nat} {A:Around} (r:Room (k+1) A) (C:Addr) (us:Wx) (kw:List (Str×Value)):Room k (A.under (.builtin "type.__call__" ⟨.ref C :: us,kw⟩)) :=
 ⟨r.hd,by have:=r.dp;rw [qC];lia,by have:=r.un;rw [qG];lia⟩
theorem Room.depth {k:Nat} {A:Around} (r:Room k A):A.depth < recursionLimit:=by have:=r.dp;lia
theorem Room.units {k:Nat} {A:Around} (r:Room k A):A.units+64 < cLine:=by have:=r.un;lia
noncomputable def uG:TA:=fun _ H Q=>Q [] H
noncomputable def zX (ta:TE) (tr:TA):TA:=fun σ H Q=>ta σ H fun x H1=>tr σ H1 fun xs H2=>Q (x :: xs) H2
section
variable {X:Cx} {e:Expr} {es:List Expr} {te:TE} {t:TA} {pos:Pos}
theorem dC:PA X [] uG:=fun _ _ _ _ H Q I h=>Calls.spliced_nil ⟨[],H,I,.nil,h⟩
theorem bU (ha:PE X e te) (hr:PA X es t) (hs:starEach (e :: es) X.env=(false,eval e X.env) :: starEach es X.env:=by rfl):PA X (e :: es) (zX te t):=by
 intro pos pins s σ H Q I h
 rw [hs]
 show wpAny _ _ (spliced ((false,eval e X.env) :: backTo pos (starEach es X.env))) _ _ s
 refine Calls.spliced_cons (thn (ha pins s σ H _ I h) fun u s1 ⟨x,H1,I1,r1,q1⟩=>?_)
 exact thn (hr pos pins s1 σ H1 _ I1 q1) fun us s2 ⟨xs,H2,I2,r2,q2⟩=>⟨x :: xs,H2,I2,.cons r1 r2,q2⟩
noncomputable def Dg (t:TA):TE:=fun σ H Q=>t σ H fun xs H1=>xs.length<=sizeLine/\∀ p,H1 p=none->Q (.ref p) (upd H1 p (.tup xs))
noncomputable def Dl (t:TA):TE:=fun σ H Q=>t σ H fun xs H1=>xs.length<=sizeLine/\∀ p,H1 p=none->Q (.ref p) (upd H1 p (.lst xs))
theorem AH {x1} (h:PA X es t):PE X (.Tuple es x1 pos) (Dg t):=by
 intro pins s σ H Q I hq
 refine wpAny_Tuple_spliced (thn (h pos pins s σ H _ I hq) fun us s1 ⟨xs,H1,I1,r,z,q⟩=>⟨by rw [← r.length];exact z,?_⟩)
 have hf:H1 s1.heap.objs.size=none:=I1.hok.fresh (Zg _)
 refine ⟨.ref s1.heap.objs.size,upd H1 s1.heap.objs.size (.tup xs),I1.laid (t':=s1.toks) (fun b u e=>Zi _ e) (Zg _) ?_,rfl,q _ hf⟩
 exact ⟨z,us,r,NoD.of (ZP _ rfl) rfl,⟨_,ZP _ rfl,rfl,_,rfl⟩⟩
theorem nV (h:PA X es t):PE X (.List es pos) (Dl t):=by
 intro pins s σ H Q I hq
 refine wpAny_List_spliced (thn (h pos pins s σ H _ I hq) fun us s1 ⟨xs,H1,I1,r,z,q⟩=>⟨by rw [← r.length];exact z,?_⟩)
 have hf:H1 s1.heap.objs.size=none:=I1.hok.fresh (Zg _)
 refine ⟨.ref s1.heap.objs.size,upd H1 s1.heap.objs.size (.lst xs),I1.laid (t':=s1.toks) (fun b u e=>Zi _ e) (Zg _) ?_,rfl,q _ hf⟩
 exact ⟨z,us,0,r,ZP _ rfl⟩
end
noncomputable abbrev Sp:=List V->Hp->VK->XK->Prop
noncomputable abbrev CXT:=List Env->Hp->Shared->XK->Z0
structure Env0 (P:Program) (w:World) (K:Y2) (mg:Xu) (base:Heap) (A:Around) (outer:List Env) (s:Shared) (H:Hp):Prop where
 frames:A.frames=some outer
 mod:Mod K mg base
 bs:∀ b o,base.get? b=some o->s.heap.get? b=some o/\H b=none
 bsz:base.objs.size<=s.heap.objs.size
 funs:s.heap.FunFrames base outer
 frf:∀ b∈frs outer,H b=none
 hok:HOk P w H s.heap
 bare:AllBare s.gens
noncomputable def CE (outer:List Env) (P:Program) (w:World) (H:Hp) (s:Shared) (Q:VK) (u:Value) (s':Shared):Prop :=
 ∃ v H',s'.os=s.os/\AllBare s'.gens/\Un (frs outer) [] H H' s.heap s'.heap/\HOk P w H' s'.heap/\RelV v u/\Q v H'
noncomputable def CR (CX:CXT) (outer:List Env) (P:Program) (w:World) (H:Hp) (s:Shared) (Q:VK) (E:XK) (r:Result) (s':Shared):Prop :=
 match r with
 | .ok (.ret u)=>CE outer P w H s Q u s'
 | .ok _=>False
 | .error e=>CX outer H s E e s'
structure FnOk (P:Program) (w:World) (K:Y2) (mg:Xu) (base:Heap) (CX:CXT) (k:Nat) (f:Addr) (fd:FuncData) (ps:List Str) (sp:Sp):Prop where
 len:∀ vs H Q E,sp vs H Q E->vs.length=ps.length
 run:∀ (A:Around) (outer:List Env) (s:Shared) (H:Hp) (args:Args) (us:Wx) (vs:List V) (Q:VK) (E:XK),Room k A->Env0 P w K mg base A outer s H->BindsTo s fd args (ps.zip us)->aO vs us->sp vs H Q E →
  codeAny (model P w) A (.call (.ref f) args) (CR CX outer P w H s Q E) s
theorem FnOk.imp {P:Program} {w:World} {K:Y2} {mg:Xu} {base:Heap} {CX:CXT} {k:Nat} {f:Addr} {fd:FuncData} {ps:List Str} {sp sp':Sp} (F:FnOk P w K mg base CX k f fd ps sp)
  (h:∀ vs H Q E,sp' vs H Q E->sp vs H Q E):FnOk P w K mg base CX k f fd ps sp' :=
 ⟨fun vs H Q E q=>F.len vs H Q E (h _ _ _ _ q),fun A outer s H args us vs Q E hr he hb hv hs=>F.run A outer s H args us vs Q E hr he hb hv (h _ _ _ _ hs)⟩
theorem Env0.make {P:Program} {w:World} {K:Y2} {mg:Xu} {base:Heap} {A:Around} {outer:List Env} {s:Shared} {H:Hp} (e:Env0 P w K mg base A outer s H) (C:Addr) (us:Wx) (kw:List (Str×Value)) :
  Env0 P w K mg base (A.under (.builtin "type.__call__" ⟨.ref C :: us,kw⟩)) outer s H:=⟨by first | exact e.frames | (simpa [Around.under,Code.envs,Code.isFrame,pushEnvs] using e.frames),e.mod,e.bs,e.bsz,e.funs,e.frf,e.hok,e.bare⟩
section
variable {X:Cx} {pins:Z7} {σ:St} {H:Hp} {s s':Shared}
theorem Inv.env0 (I:Inv X pins σ H s):Env0 X.prog X.w X.K X.mg X.base X.A X.stack s H :=
 ⟨I.ok.frames,I.ok.mod,I.bs,ZG I.ok.bsz I.sz,I.stack,I.stkFree,I.hok,I.bare⟩
theorem Inv.after {Q:VK} {u:Value} (I:Inv X pins σ H s) (h:CE X.stack X.prog X.w H s Q u s'):EP X pins σ Q u s':=by
 obtain ⟨v,H',os,bare,un,hok,r,q⟩:=h
 obtain ⟨hh,g,d,t,os'⟩:=s'
 obtain rfl:os'=s.os:=os
 exact ⟨v,H',I.call (h':=hh) (g':=g) (d':=d) (t':=t) (ch:=[]) un hok bare (fun b z=>absurd z (by simp)),r,q⟩
end
noncomputable def Ak (sp:Sp) (dvs:List V) (E:XK) (t:TA):TE:=fun σ H Q=>t σ H fun vs H1=>sp (vs++dvs) H1 Q E
noncomputable def sE (C:Addr) (m:Str) (sp:Sp) (dvs:List V) (E:XK) (ta:TE) (t:TA):TE:=fun σ H Q=>ta σ H fun x H1=>∃ a dx fs,x=.ref a/\H1 a=some (.ins C dx fs)/\fs.lookup m=none ∧
 t σ H1 fun vs H2=>sp (x :: (vs++dvs)) H2 Q E
noncomputable def zM (C:Addr) (sp:Sp) (dvs:List V) (E:XK) (t:TA):TE:=fun σ H Q=>t σ H fun vs H1=>∀ x dx,H1 x=none->H1 dx=none->dx ≠ x →
 sp (.ref x :: (vs++dvs)) (upd (upd H1 dx (.own x)) x (.ins C dx [])) (fun v H2=>v=.non/\Q (.ref x) H2) E
noncomputable def Binds (K:Y2) (fd:FuncData) (ps:List Str) (ds:Wx):Prop :=
 ∀ (s:Shared) (us:Wx),K.In s.heap->(us++ds).length=ps.length->BindsTo s fd ⟨us,[]⟩ (ps.zip (us++ds))
theorem Binds.all {K:Y2} {fd:FuncData} {ps:List Str} (h:∀ us:Wx,us.length=ps.length->bindArgs fd ⟨us,[]⟩=pure (ps.zip us)):Binds K fd ps []:=fun s us _ hl=>by
 rw [ZK] at hl ⊢
 exact .of_eq (h us hl)
noncomputable def jh (CX:CXT) (X:Cx) (E:XK):Prop:=∀ (pins:Z7) (σ:St) (H:Hp) (s:Shared) (e:Value) (s':Shared),Inv X pins σ H s->CX X.stack H s E e s'->X.xe e s'
section
variable {X:Cx} {CX:CXT} {k:Nat} {f C:Addr} {fd:FuncData} {ps:List Str} {sp:Sp} {dvs:List V} {ds:Wx} {E:XK} {x m:Str} {p pos apos:Pos} {e o:Expr} {es:List Expr} {ta:TE} {t:TA}
theorem rG {pins:Z7} {σ:St} {H:Hp} {s:Shared} {Q:VK} {us:Wx} {vs:List V} (F:FnOk X.prog X.w X.K X.mg X.base CX k f fd ps sp) (hr:Room k X.A) (hb:Binds X.K fd ps ds) (hd:aO dvs ds) (hx:jh CX X E)
  (I:Inv X pins σ H s) (r:aO vs us) (h:sp (vs++dvs) H Q E):wpAny (model X.prog X.w) X.A (call (.ref f) us) (EP X pins σ Q) X.xe s:=by
 have r2:aO (vs++dvs) (us++ds):=r.append hd
 have hl:(us++ds).length=ps.length:=by rw [← r2.length];exact F.len _ _ _ _ h
 refine wpAny_call (codeAny_mono (F.run X.A X.stack s H ⟨us,[]⟩ (us++ds) (vs++dvs) Q E hr I.env0 (hb s us I.kIn hl) r2 h) fun r s' hq=>?_)
 cases r with
 | error e=>exact hx pins σ H s e s' I hq
 | ok fl =>
  cases fl with
  | ret u=>exact I.after hq
  | next=>exact False.elim hq
  | brk=>exact False.elim hq
  | cont=>exact False.elim hq
theorem tF (F:FnOk X.prog X.w X.K X.mg X.base CX k f fd ps sp) (hr:Room k X.A) (hg:Gl X x) (hm:X.mg x=some (.ref f)) (hk:PySem.W.keepIn X.K (.ref f)=true) (hb:Binds X.K fd ps ds) (hd:aO dvs ds) (hx:jh CX X E)
  (ha:PA X (e :: es) t) (hdb:(x == ("__debug__" : Str))=false:=by decide) (he:starEach (e :: es) X.env=(false,eval e X.env) :: starEach es X.env:=by rfl) (hpl:(backTo pos (starEach es X.env)).any (·.1)=false:=by rfl) :
  PE X (.Call (.Name x p) (e :: es) [] pos) (Ak sp dvs E t):=by
 intro pins s σ H Q I h
 refine XZ (so I hg hm ?_ hdb)
 refine PySem.W.callWith_K (h₀:=X.base) I.ok.mod.kin hk (thn (ha pos pins s σ H _ I h) fun us s1 ⟨vs,H1,I1,r,q⟩=>⟨I1.kIn,?_⟩) he hpl
 exact rG F hr hb hd hx I1 r q
theorem rL {pl:Sem Bool} (he:PE X o ta) (c:Cls X.K C) (hm:Meth X.K C m f) (F:FnOk X.prog X.w X.K X.mg X.base CX k f fd ps sp) (hr:Room k X.A) (hb:Binds X.K fd ps ds) (hd:aO dvs ds) (hx:jh CX X E) (ha:PA X (e :: es) t)
  (hst:starEach (e :: es) X.env=(false,eval e X.env) :: starEach es X.env:=by rfl) (hpl:(backTo pos (starEach es X.env)).any (·.1)=false:=by rfl)
  (ht:eval (.Call (.Attribute o m apos) (e :: es) [] pos) X.env=(do
   let ov ← eval o X.env
   standAt apos.atName
   let (f,first) ← holding [ov] (getMethod ov m pl)
   callWith pos f first (backTo pos (starEach (e :: es) X.env)) (backToKw pos (keywordEach [] X.env))):=by rfl) :
  PE X (.Call (.Attribute o m apos) (e :: es) [] pos) (sE C m sp dvs E ta t):=by
 intro pins s σ H Q I h
 refine PySem.W.methodCall_KW (pl:=pl) (thn (he pins s σ H _ I h) fun u s1 ⟨x,H1,I1,rx,a,dx,fs,ex,ea,l,q⟩=>?_) ht
 subst ex
 obtain rfl:u=Value.ref a:=rx
 refine k9 I1 ea c hm l ?_
 refine PySem.W.callWith_K (first:=[.ref a]) (h₀:=X.base) I.ok.mod.kin hm.kp (thn (ha pos pins s1 σ H1 _ I1 q) fun us s2 ⟨vs,H2,I2,r,q2⟩=>⟨I2.kIn,?_⟩) hst hpl
 exact rG (us:=.ref a :: us) (vs:=.ref a :: vs) F hr hb hd hx I2 (.cons rfl r) q2
theorem wC {pl:Sem Bool} (he:PE X o ta) (c:Cls X.K C) (hm:Meth X.K C m f) (F:FnOk X.prog X.w X.K X.mg X.base CX k f fd ps sp) (hr:Room k X.A) (hb:Binds X.K fd ps ds) (hd:aO dvs ds) (hx:jh CX X E)
  (ht:eval (.Call (.Attribute o m apos) [] [] pos) X.env=(do
   let ov ← eval o X.env
   standAt apos.atName
   let (f,first) ← holding [ov] (getMethod ov m pl)
   callWith pos f first (backTo pos (starEach [] X.env)) (backToKw pos (keywordEach [] X.env))):=by rfl) :
  PE X (.Call (.Attribute o m apos) [] [] pos) (sE C m sp dvs E ta uG):=by
 intro pins s σ H Q I h
 refine PySem.W.methodCall_KW (pl:=pl) (thn (he pins s σ H _ I h) fun u s1 ⟨x,H1,I1,rx,a,dx,fs,ex,ea,l,q⟩=>?_) ht
 subst ex
 obtain rfl:u=Value.ref a:=rx
 refine k9 I1 ea c hm l ?_
 exact PySem.W.callWith_K0 (first:=[.ref a]) I1.kIn hm.kp (rG (us:=[.ref a]) (vs:=[.ref a]) F hr hb hd hx I1 (.cons rfl .nil) q)
structure Mk (K:Y2) (C f:Addr):Prop where
 makes:PySem.W.makesIn K C=true
 init:PySem.W.findIn K (.ref C) "__init__" = some (some (.ref f))
 fn:PySem.W.isFn K (.ref f)=true
 kp:PySem.W.keepIn K (.ref C)=true
theorem wx {pins:Z7} {σ:St} {H:Hp} {s:Shared} {Q:VK} {us:Wx} {vs:List V} (M:Mk X.K C f) (F:FnOk X.prog X.w X.K X.mg X.base CX k f fd ps sp) (hr:Room (k+1) X.A) (hb:Binds X.K fd ps ds) (hd:aO dvs ds)
  (hx:jh CX X E) (I:Inv X pins σ H s) (r:aO vs us)
  (h:∀ x dx,H x=none->H dx=none->dx ≠ x->sp (.ref x :: (vs++dvs)) (upd (upd H dx (.own x)) x (.ins C dx [])) (fun v H2=>v=.non/\Q (.ref x) H2) E) :
  wpAny (model X.prog X.w) X.A (call (.ref C) us) (EP X pins σ Q) X.xe s:=by
 have hq:=h (s.heap.objs.size+1) s.heap.objs.size (I.hok.fresh (Xc _)) (I.hok.fresh (Zg _)) (ZZ (YT _))
 have I2:=Inv.made (C:=C) I
 have r2:aO (V.ref (s.heap.objs.size+1) :: (vs++dvs)) (Value.ref (s.heap.objs.size+1) :: (us++ds)):=.cons rfl (r.append hd)
 have hl:(Value.ref (s.heap.objs.size+1) :: us++ds).length=ps.length:=by
  have e:=r2.length
  rw [F.len _ _ _ _ hq] at e
  exact e.symm
 refine wpAny_call (vH (f:=f) I.kIn M.makes M.init (beq_iff_eq.mp M.fn) (codeAny_mono (F.run _ X.stack _ _ ⟨Value.ref (s.heap.objs.size+1) :: us,[]⟩ (Value.ref (s.heap.objs.size+1) :: (us++ds)) _ _ E (hr.make C us [])
  (I2.env0.make C us []) (hb _ (Value.ref (s.heap.objs.size+1) :: us) I2.kIn hl) r2 hq) fun r s' hq'=>?_))
 cases r with
 | error e=>exact hx pins σ _ _ e s' I2 hq'
 | ok fl =>
  cases fl with
  | ret u =>
   obtain ⟨v,H',I3,rv,ev,q3⟩:=I2.after hq'
   subst ev
   exact ⟨rv,⟨V.ref (s.heap.objs.size+1),H',I3,rfl,q3⟩⟩
  | next=>exact False.elim hq'
  | brk=>exact False.elim hq'
  | cont=>exact False.elim hq'
theorem uX (M:Mk X.K C f) (F:FnOk X.prog X.w X.K X.mg X.base CX k f fd ps sp) (hr:Room (k+1) X.A) (hg:Gl X x) (hm:X.mg x=some (.ref C)) (hb:Binds X.K fd ps ds) (hd:aO dvs ds) (hx:jh CX X E)
  (hdb:(x == ("__debug__" : Str))=false:=by decide):PE X (.Call (.Name x p) [] [] pos) (zM C sp dvs E uG):=by
 intro pins s σ H Q I h
 refine XZ (so I hg hm ?_ hdb)
 exact PySem.W.callWith_K0 I.kIn M.kp (wx (us:=[]) M F hr hb hd hx I .nil h)
end
structure FnScope (N P:List Str) (sc:Scope):Prop where
 kind:sc.kind=.function
 co:sc.isCoroutine=false
 gen:sc.isGenerator=false
 nd:N.Nodup
 pre:N.take P.length=P
 par:∀ x∈P,sc.names.lookup x=some .local\/sc.names.lookup x=some .cell
 nofree:∀ y∈sc.names,y.2 ≠ .free
theorem mE {kindOf:Str->Option NameKind} {x:Str}:∀ {binds:List (Str×Value)} {m:Xu},(∀ v,(x,v) ∉ binds)->bindL kindOf binds m x=m x
 | [],_,_=>rfl
 | (n,v) :: r,m,h=>by
  unfold bindL
  rw [mE fun w hw=>h w (Zy _ hw)]
  split
  ·have:x ≠ n:=by rintro rfl;exact h v Zx
   simp [this]
  ·rfl
theorem mQ {kindOf:Str->Option NameKind} {x:Str}:∀ {binds:List (Str×Value)} {m:Xu},(∀ v,(x,v) ∉ binds)->bindC kindOf binds m x=m x
 | [],_,_=>rfl
 | (n,v) :: r,m,h=>by
  unfold bindC
  rw [mQ fun w hw=>h w (Zy _ hw)]
  split
  ·rfl
  ·have:x ≠ n:=by rintro rfl;exact h v Zx
   simp [this]
theorem m7 {kindOf:Str->Option NameKind} {x:Str} {v:Value}:∀ {P:List Str} {vs:Wx} {i:Nat} {m:Xu},P.Nodup->P[i]?=some x->vs[i]?=some v->kindOf x=some .local →
  bindL kindOf (P.zip vs) m x=some v
 | [],_,_,_,_,h,_,_=>by simp at h
 | _ :: _,[],_,_,_,_,h,_=>by simp at h
 | p :: P,w :: vs,0,m,nd,h1,h2,hk=>by
  simp at h1 h2;subst h1;subst h2
  show bindL kindOf ((p,w) :: P.zip vs) m p=_
  unfold bindL
  rw [mE fun v hv=>(Zh.mp nd).1 (XS hv).1,Zq hk]
  simp
 | p :: P,w :: vs,i+1,m,nd,h1,h2,hk=>by
  show bindL kindOf ((p,w) :: P.zip vs) m x=_
  unfold bindL
  exact m7 (i:=i) (Zh.mp nd).2 (by simpa using h1) (by simpa using h2) hk
theorem mI {kindOf:Str->Option NameKind} {x:Str} {v:Value}:∀ {P:List Str} {vs:Wx} {i:Nat} {m:Xu},P.Nodup->P[i]?=some x->vs[i]?=some v->kindOf x ≠ some .local →
  bindC kindOf (P.zip vs) m x=some v
 | [],_,_,_,_,h,_,_=>by simp at h
 | _ :: _,[],_,_,_,_,h,_=>by simp at h
 | p :: P,w :: vs,0,m,nd,h1,h2,hk=>by
  simp at h1 h2;subst h1;subst h2
  show bindC kindOf ((p,w) :: P.zip vs) m p=_
  unfold bindC
  rw [mQ fun v hv=>(Zh.mp nd).1 (XS hv).1,Zm hk]
  simp
 | p :: P,w :: vs,i+1,m,nd,h1,h2,hk=>by
  show bindC kindOf ((p,w) :: P.zip vs) m x=_
  unfold bindC
  exact mI (i:=i) (Zh.mp nd).2 (by simpa using h1) (by simpa using h2) hk
noncomputable def start (N:List Str) (vs:List V):St:=vs.map some++List.replicate (N.length - vs.length) none
noncomputable def iI (CX:CXT) (P:Program) (w:World) (K:Y2) (mg:Xu) (base:Heap) (N:List Str) (qual:Str) (scope:Scope) (f:Addr) (cd:Value) (A:Around) (outer:List Env) (s:Shared) (H:Hp) (E:XK):Cx where
 prog:=P
 w:=w
 K:=K
 mg:=mg
 base:=base
 A:=A.deeper (envOfC qual scope s.heap.objs.size f cd)
 N:=N
 s₀:=s
 H₀:=H
 env:=envOfC qual scope s.heap.objs.size f cd
 outer:=outer
 stack:=envOfC qual scope s.heap.objs.size f cd :: outer
 ex:=[]
 calm:=true
 fn:=fun _=>true
 pn:=[]
 xe:=fun e s'=>wpAny (model P w) (A.deeper (envOfC qual scope s.heap.objs.size f cd)) (leaving (envOfC qual scope s.heap.objs.size f cd) e) (fun _ s''=>CX outer H s E e s'') (fun e' s''=>CX outer H s E e' s'') s'
theorem oU {sc:Scope} {n:Nat} {x:Str} (h:sc.names.lookup x=some .cell):∃ c,(cellsFrom n sc.names []).lookup x=some c:=by
 have q:=PySem.W.cellsFrom_some sc.names n [] (.inl h)
 exact Z6.mp q
theorem tY {CX:CXT} {P:Program} {w:World} {K:Y2} {mg:Xu} {base:Heap} {N ps:List Str} {qual:Str} {scope:Scope} {f:Addr} {cd:Value} {A:Around} {outer:List Env} {s s1:Shared} {H:Hp} {E:XK} {us:Wx} {vs:List V}
  (S:FnScope N ps scope) (hd:A.handled=none) (e0:Env0 P w K mg base A outer s H) (hl:vs.length=ps.length) (r:aO vs us)
  (x:InCallC s s.heap.objs.size (bindL (envOfC qual scope s.heap.objs.size f cd).kindOf (ps.zip us) fun _=>none) (cellsFrom (s.heap.objs.size+1) scope.names []) (bindC (envOfC qual scope s.heap.objs.size f cd).kindOf (ps.zip us) fun _=>none) s1) :
  Inv (iI CX P w K mg base N qual scope f cd A outer s H E) [] (start N vs) H s1:=by
 have hpl:ps.length<=N.length:=by have:=congrArg List.length S.pre;rw [YR] at this;lia
 obtain ⟨h1,tk,rfl,hk⟩:=x.done
 have noA:∀ b:Addr,b ∉ (iI CX P w K mg base N qual scope f cd A outer s H E).ex:=fun b z=>absurd (show b∈([]:X0) from z) (by simp)
 refine ⟨⟨e0.mod,S.kind,rfl,rfl,Zg _,fun y z c h1 h2=>?_,fun y hy=>?_,fun y c _ h=>?_,fun _=>hd,Around.frames_deeper e0.frames,.inr ⟨rfl,rfl⟩,fun b z=>absurd z (noA b),e0.bs,e0.bsz,fun b _ _=>noA b,fun b z=>absurd z (noA b),e0.funs,e0.frf⟩,
  rfl,e0.bare,Un.kept hk,⟨_,x.toInCall.ns,fun i y v h1 h2 h3=>?_⟩,fun y c h=>⟨_,x.cell y c h⟩,e0.hok.fresh (Zg _),fun y c h=>?_,fun p hp=>absurd (show p∈([]:Z7) from hp) (by simp),e0.hok.kept hk,?_⟩
 ·exact name_of_addr x.apart (YA h1) (YA h2)
 ·have hy:scope.names.lookup y=some .cell\/scope.names.lookup y=some .free:=hy
  rcases hy with hy | hy
  ·exact oU hy
  ·exact absurd rfl (S.nofree _ (YA hy))
 ·exact X5 (x.above y c (YA h))
 ·have hi:i < vs.length:=by
   unfold start at h2
   by_cases hi:i < vs.length
   ·exact hi
   ·rw [Yy (by simpa using hi)] at h2
    rw [Yg] at h2
    split at h2 <;> cases h2
  have ha:vs[i]?=some v:=by
   unfold start at h2
   rw [ZD (by simpa using hi),ZQ] at h2
   cases e:vs[i]? with
   | none=>rw [e] at h2;cases h2
   | some a=>rw [e] at h2;cases h2;rfl
  obtain ⟨u,hu,rv⟩:=r.get ha
  have hp:ps[i]?=some y:=by
   rw [← S.pre,List.getElem?_take_of_lt (by lia)];exact h1
  have ndP:ps.Nodup:=by rw [← S.pre];exact S.nd.sublist (List.take_sublist _ _)
  refine ⟨u,rv,?_⟩
  rcases S.par y (Yn hp) with k | k
  ·exact .inl ⟨k,m7 ndP hp hu k⟩
  ·obtain ⟨c,e⟩:=oU (n:=s.heap.objs.size+1) k
   refine .inr ⟨.inl k,c,e,?_⟩
   have q:=x.cell y c e
   rw [mI ndP hp hu (by show scope.names.lookup y ≠ _;rw [k];decide)] at q
   exact q
 ·exact e0.hok.fresh (X5 (x.above y c (YA h)))
 ·unfold start
  show _=N.length
  rw [Zt,Zv,YI]
  lia
theorem C1 {CX:CXT} {P:Program} {w:World} {K:Y2} {mg:Xu} {base:Heap} {k:Nat} {f:Addr} {name qual:Str} {params:Arguments} {body:List Stmt} {scope:Scope} {dV kV doc pm cdv ct oc:Value} {an od:Option Addr}
  {osl:Array (Ww)} {N ps:List Str} {sp:Sp} (lk:K.lookup f=some ⟨oc,od,.func (PySem.W.fnOf name qual params body scope dV kV doc pm an cdv ct),osl⟩) (hcd:PySem.W.codeIn K cdv qual=true) (S:FnScope N ps scope)
  (len:∀ vs H Q E,sp vs H Q E->vs.length=ps.length)
  (hbody:∀ (A:Around) (outer:List Env) (s:Shared) (H:Hp) (vs:List V) (Q:VK) (E:XK),Room k (A.deeper (envOfC qual scope s.heap.objs.size f cdv))->sp vs H Q E →
   ∃ t,PSs (iI CX P w K mg base N qual scope f cdv A outer s H E) body t/\t { nx:=fun _ H'=>Q .non H',rt:=Q } (start N vs) H) :
  FnOk P w K mg base CX (k+1) f (PySem.W.fnOf name qual params body scope dV kV doc pm an cdv ct) ps sp:=by
 refine ⟨len,fun A outer s H args us vs Q E hr e0 hb r hsp=>?_⟩
 have hl:=len _ _ _ _ hsp
 have KX:K.In s.heap:=e0.mod.kin.keeps fun b o e=>(e0.bs b o e).1
 have lim:s.heap.NoLimit:=e0.mod.nolimit.keeps fun b o e=>(e0.bs b o e).1
 have hkind:∀ y∈ps.zip us,scope.names.lookup y.1=some .local\/(scope.names.lookup y.1=some .cell/\((cellsFrom (s.heap.objs.size+1) scope.names []).lookup y.1).isSome=true):=fun ⟨n,v⟩ hy=>by
  rcases S.par n (XS hy).1 with q | q
  ·exact .inl q
  ·exact .inr ⟨q,PySem.W.cellsFrom_some _ _ _ (.inl q)⟩
 refine codeAny_call_function hr.depth (KX _ _ lk) rfl S.co S.gen rfl (PySem.W.codeRec_of KX hcd) (hb _ _ _ _ ?_)
 refine wpAny_newFunctionEnv_cells S.kind hkind fun env he s1 x=>?_
 subst he
 refine ⟨lim.keeps x.toInCall.keep,codeAny_func ?_⟩
 obtain ⟨t,ht,hq⟩:=hbody A outer s H vs Q E (hr.deeper _) hsp
 have I:Inv (iI CX P w K mg base N qual scope f cdv A outer s H E) [] (start N vs) H s1:=tY S hr.hd e0 hl r x
 refine YG (ht [] s1 (start N vs) H _ I hq) (fun fl s' hs=>?_) fun e s' hs=>hs
 have fin:∀ {σ':St} {H':Hp} {v:V} {u:Value},Inv (iI CX P w K mg base N qual scope f cdv A outer s H E) [] σ' H' s'->RelV v u->Q v H'->CE outer P w H s Q u s' :=
  fun {σ' H' v u} J rv q=>⟨v,H',J.os,J.bare,J.base,J.hok,rv,q⟩
 cases fl with
 | ret u =>
  obtain ⟨v,σ',H',J,rv,q⟩:=hs
  exact fin J rv q
 | next =>
  obtain ⟨σ',H',J,q⟩:=hs
  exact fin (v:=V.non) (u:=Value.none) J rfl q
 | brk =>
  obtain ⟨_,_,_,q⟩:=hs
  exact False.elim q
 | cont =>
  obtain ⟨_,_,_,q⟩:=hs
  exact False.elim q
section
variable {X:Cx} {x:Str} {p pos:Pos} {e:Expr} {es:List Expr} {t:TA} {id T:String} {r:List V->Hp->VK->Prop}
noncomputable def tCB (r:List V->Hp->VK->Prop) (t:TA):TE:=fun σ H Q=>t σ H fun vs H1=>r vs H1 Q
theorem qg (hc:dP X (.builtin id) r) (hg:Gl X x) (hm:X.mg x=none) (hv:bootBuiltins x=some (.builtin id)) (ha:PA X (e :: es) t) (hn:x ≠ "__name__" := by decide) (hdb:(x == ("__debug__" : Str))=false:=by decide)
  (he:starEach (e :: es) X.env=(false,eval e X.env) :: starEach es X.env:=by rfl) (hpl:(backTo pos (starEach es X.env)).any (·.1)=false:=by rfl):PE X (.Call (.Name x p) (e :: es) [] pos) (tCB r t):=by
 intro pins s σ H Q I h
 refine XZ (j7 I hg hm hv ?_ hn hdb)
 exact PyProof.Rows.callWith_builtin1 (thn (ha pos pins s σ H _ I h) fun us s1 ⟨vs,H1,I1,r1,q1⟩=>hc pins s1 σ H1 vs us Q I1 r1 q1) he hpl
theorem uH (hc:dP X (.type T) r) (hg:Gl X x) (hm:X.mg x=none) (hv:bootBuiltins x=some (.type T)) (ha:PA X (e :: es) t) (hn:x ≠ "__name__" := by decide) (hdb:(x == ("__debug__" : Str))=false:=by decide)
  (he:starEach (e :: es) X.env=(false,eval e X.env) :: starEach es X.env:=by rfl) (hpl:(backTo pos (starEach es X.env)).any (·.1)=false:=by rfl):PE X (.Call (.Name x p) (e :: es) [] pos) (tCB r t):=by
 intro pins s σ H Q I h
 refine XZ (j7 I hg hm hv ?_ hn hdb)
 exact YH (thn (ha pos pins s σ H _ I h) fun us s1 ⟨vs,H1,I1,r1,q1⟩=>hc pins s1 σ H1 vs us Q I1 r1 q1) he hpl
end
end L2
namespace HT
open PySem PyProof.Rows
section
variable {prog:Program} {w:World} {A:Around} {E:Z0} {s:Shared}
noncomputable def sIx (n d:Nat):Option Int->Nat
 | none=>d
 | some v=>if v < 0 then (v+(n:Int)).toNat else min v.toNat n
end
end HT
namespace L2
open PySem PySem.Spec PyProof.Rows
noncomputable abbrev TO:=St->Hp->(Option Int->Hp->Prop)->Prop
noncomputable def PO (X:Cx) (e:Option Expr) (t:TO):Prop :=
 ∀ (pins:Z7) (s:Shared) (σ:St) (H:Hp) (Q:Option Int->Hp->Prop),Inv X pins σ H s->t σ H Q →
  wpAny (model X.prog X.w) X.A (evalPart e X.env) (fun u s'=>∃ o H',Inv X pins σ H' s'/\IsPart u o/\Q o H') X.xe s
noncomputable def yF:TO:=fun _ H Q=>Q none H
noncomputable def CD (t:TE):TO:=fun σ H Q=>t σ H fun x H1=>∃ i,x=.int i/\Q (some i) H1
section
variable {X:Cx} {e:Expr} {te:TE} {lo hi:Option Expr} {tl th:TO} {pos p2:Pos}
theorem sJ:PO X none yF:=by
 intro pins s σ H Q I h
 rw [evalPart_none]
 exact Za ⟨none,H,I,.none,h⟩
theorem r6 (h:PE X e te):PO X (some e) (CD te):=by
 intro pins s σ H Q I hw
 rw [evalPart_some]
 refine thn (h pins s σ H _ I hw) fun u s1 ⟨x,H1,I1,r1,q1⟩=>?_
 obtain ⟨i,rfl,q⟩:=q1
 obtain ⟨t,rfl⟩:=r1
 exact ⟨some i,H1,I1,.int i t,q⟩
noncomputable def SlR (X:Cx) (r:V->Option Int->Option Int->Hp->VK->Prop):Prop :=
 ∀ (pins:Z7) (s:Shared) (σ:St) (H:Hp) (x:V) (v vl vu:Value) (lo hi:Option Int) (sl:Addr) (Q:VK),Inv X pins σ H s->RelV x v->s.heap.IsSliceOf sl vl vu .none->IsPart vl lo->IsPart vu hi->r x lo hi H Q →
  ∃ T id,typeLookup (.type T) "__getitem__" = pure (some (.builtin id))/\s.TypeIs v T/\wpAny (model X.prog X.w) X.A (getItem v (.ref sl)) (EP X pins σ Q) X.xe s
theorem SlR.or {r r':V->Option Int->Option Int->Hp->VK->Prop} (h:SlR X r) (h':SlR X r'):SlR X (fun x lo hi H Q=>r x lo hi H Q\/r' x lo hi H Q):=by
 intro pins s σ H x v vl vu lo hi sl Q I rx hs pl pu q
 rcases q with q | q
 ·exact h pins s σ H x v vl vu lo hi sl Q I rx hs pl pu q
 ·exact h' pins s σ H x v vl vu lo hi sl Q I rx hs pl pu q
noncomputable def tSl (r:V->Option Int->Option Int->Hp->VK->Prop) (te:TE) (tl th:TO):TE:=fun σ H Q=>te σ H fun x H1=>tl σ H1 fun l H2=>th σ H2 fun u H3=>r x l u H3 Q
theorem ll {r:V->Option Int->Option Int->Hp->VK->Prop} (hr:SlR X r) (he:PE X e te) (hl:PO X lo tl) (hu:PO X hi th):PE X (.Subscript e (.Slice lo hi none p2) pos) (tSl r te tl th):=by
 intro pins s σ H Q I h
 refine Subscript_ (thn (he pins s σ H _ I h) fun v s1 ⟨x,H1,I1,r1,q1⟩=>?_)
 refine wpAny_Slice (thn (hl pins s1 σ H1 _ I1 q1) fun vl s2 ⟨l,H2,I2,pl,q2⟩=>thn (hu pins s2 σ H2 _ I2 q2) fun vu s3 ⟨u,H3,I3,pu,q3⟩=>?_)
 rw [evalPart_none]
 refine Za ?_
 have I4:Inv X pins σ H3 { s3 with heap:=s3.heap.push { cls:=.type "slice",data:=.fields #[vl,vu,.none] } }:=I3.kept (t':=s3.toks) fun b ob q=>Zi _ q
 obtain ⟨T,id,hT,ht,hg⟩:=hr pins { s3 with heap:=s3.heap.push { cls:=.type "slice",data:=.fields #[vl,vu,.none] } } σ H3 x v vl vu l u s3.heap.objs.size Q I4 r1 (Heap.IsSliceOf.new ..) pl pu q3
 show wpAny (model X.prog X.w) X.A (subscriptTail e (.Slice lo hi none p2) v (.ref s3.heap.objs.size)) (EP X pins σ Q) X.xe { s3 with heap:=s3.heap.push { cls:=.type "slice",data:=.fields #[vl,vu,.none] } }
 exact tail_any (ops:=[.ref s3.heap.objs.size,v]) ht hT hg (by with_unfolding_all rfl)
noncomputable def qN (xs:List V) (lo hi:Option Int):List V:=(xs.drop (HT.sIx xs.length 0 lo)).take (HT.sIx xs.length xs.length hi - HT.sIx xs.length 0 lo)
theorem qh (xs:List V) (lo hi:Option Int):(qN xs lo hi).length<=xs.length:=by
 unfold qN
 rw [YR,Yi]
 lia
end
noncomputable def ixN (n:Nat) (i:Int):Option Nat:=if 0<=i then (if i < n then some i.toNat else none) else if -(n:Int)<=i then some (i+n).toNat else none
noncomputable def atI {α:Type} (xs:List α) (i:Int):Option α:=(ixN xs.length i).bind fun j=>xs[j]?
theorem si {n:Nat} {i:Int} {j:Nat} (h:ixN n i=some j):seqIndex? i n=some j/\j < n/\-(n:Int)<=i/\i < n:=by
 unfold ixN at h
 by_cases h0:0<=i
 ·rw [Zq h0] at h
  by_cases h1:i < n
  ·rw [Zq h1] at h
   have e:i.toNat=j:=Zk h
   exact ⟨by rw [seqIndex_of h0 h1,e],by lia,by lia,h1⟩
  ·rw [Zm h1] at h;cases h
 ·rw [Zm h0] at h
  by_cases h1:-(n:Int)<=i
  ·rw [Zq h1] at h
   have e:(i+n).toNat=j:=Zk h
   exact ⟨by rw [seqIndex_neg (by lia) h1,e],by lia,h1,by lia⟩
  ·rw [Zm h1] at h;cases h
theorem nP {α:Type} {xs:List α} {i:Int} {v:α} (h:atI xs i=some v):∃ j,seqIndex? i xs.length=some j/\xs[j]?=some v/\j < xs.length/\-(xs.length:Int)<=i/\i < xs.length:=by
 unfold atI at h
 cases e:ixN xs.length i with
 | none=>rw [e] at h;cases h
 | some j =>
  rw [e] at h
  obtain ⟨h1,h2,h3,h4⟩:=si e
  exact ⟨j,h1,h,h2,h3,h4⟩
noncomputable def fO (b:Expr):Prop:=∀ o i,subscripted b false o i=operate [o,i] (getItem o i)
noncomputable def IxR (X:Cx) (r:R2):Prop :=
 ∀ (value slice:Expr) (pins:Z7) (s:Shared) (σ:St) (H:Hp) (x y:V) (v u:Value) (Q:VK),Inv X pins σ H s->RelV x v->RelV y u->r x y H Q →
  subscripted slice false v u=operate [v,u] (getItem v u)->wpAny (model X.prog X.w) X.A (subscriptTail value slice v u) (EP X pins σ Q) X.xe s
noncomputable def MtR (X:Cx) (id:String) (r:V->List V->Hp->VK->Prop):Prop :=
 ∀ (pins:Z7) (s:Shared) (σ:St) (H:Hp) (x:V) (xs:List V) (v:Value) (us:Wx) (Q:VK),Inv X pins σ H s->RelV x v->aO xs us->r x xs H Q →
  wpAny (model X.prog X.w) X.A (call (.builtin id) (v :: us)) (EP X pins σ Q) X.xe s
section
variable {X:Cx} {a b:Expr} {ta tb:TE} {pos:Pos}
theorem IxR.or {r r':R2} (h:IxR X r) (h':IxR X r'):IxR X (fun x y H Q=>r x y H Q\/r' x y H Q):=by
 intro value slice pins s σ H x y v u Q I rx ry q hs
 rcases q with q | q
 ·exact h value slice pins s σ H x y v u Q I rx ry q hs
 ·exact h' value slice pins s σ H x y v u Q I rx ry q hs
theorem lE {r:R2} (hr:IxR X r) (ha:PE X a ta) (hb:PE X b tb) (hs:fO b):PE X (.Subscript a b pos) (tOp r ta tb):=by
 intro pins s σ H Q I h
 exact Subscript_ (B6 ha hb I h fun v u s2 x y H2 I2 rx ry q=>hr a b pins s2 σ H2 x y v u Q I2 rx ry q (hs _ _))
noncomputable def Cz (K:Y2):R2:=fun x y H Q=>∃ p xs i v,x=.ref p/\y=.int i/\SqL K H p xs/\atI xs i=some v/\Q v H
noncomputable def CH (K:Y2):R2:=fun x y H Q=>∃ p xs i v,x=.ref p/\y=.int i/\SqT K H p xs/\atI xs i=some v/\Q v H
noncomputable def B5:R2:=fun x y H Q=>∃ z i c,x=.str z/\y=.int i/\z.length<=sizeLine/\atI z.cps.toList i=some c/\Q (.str ⟨#[c]⟩) H
theorem zI:IxR X (Cz X.K):=by
 intro value slice pins s σ H x y v u Q I rx ry h hs
 obtain ⟨p,xs,i,z,rfl,rfl,hq,he,q⟩:=h
 cases rx
 obtain ⟨t,rfl⟩:=ry
 obtain ⟨its,r,pl,hz⟩:=I.list hq
 obtain ⟨j,h1,h2,h3,h4,h5⟩:=nP he
 obtain ⟨w,ew,rw'⟩:=r.get h2
 have hl:=r.length
 have hn:=kc
 have fin:EP X pins σ Q w s:=⟨z,H,I,rw',q⟩
 by_cases h0:0<=i
 ·have hj:i.toNat=j:=by
   rw [seqIndex_of h0 h5] at h1
   exact Zk h1
  exact item_listR pl.isList h0 (by lia) (by rw [hj];simpa using ew) fin hs
 ·have hj:(i+(its.toArray.size:Int)).toNat=j:=by
   rw [seqIndex_neg (by lia) h4] at h1
   rw [ZY,← hl]
   exact Zk h1
  exact subscriptTail_builtinR (x:=w) pl.isList.typeIs slot_list_getitem.lookup
   (wpAny_getItem_list_neg (Q:=fun r s'=>r=w/\EP X pins σ Q r s') pl.isList (by lia) (by rw [ZY] <;> lia) (by lia) (by rw [hj];simpa using ew) ⟨rfl,fin⟩) hs
theorem AW:IxR X (CH X.K):=by
 intro value slice pins s σ H x y v u Q I rx ry h hs
 obtain ⟨p,xs,i,z,rfl,rfl,hq,he,q⟩:=h
 cases rx
 obtain ⟨t,rfl⟩:=ry
 obtain ⟨its,r,pl,hz⟩:=I.tuple hq
 obtain ⟨j,h1,h2,h3,h4,h5⟩:=nP he
 obtain ⟨w,ew,rw'⟩:=r.get h2
 have hl:=r.length
 have hn:=kc
 have fin:EP X pins σ Q w s:=⟨z,H,I,rw',q⟩
 exact subscriptTail_builtinR (x:=w) pl.typeIs slot_tuple_getitem.lookup
  (getItem_tuple (j:=j) (Q:=fun r s'=>r=w/\EP X pins σ Q r s') pl (by lia) (by lia) (by rw [ZY,← hl];exact h1) (by simpa using ew) ⟨rfl,fin⟩) hs
theorem Bw:IxR X B5:=by
 intro value slice pins s σ H x y v u Q I rx ry h hs
 obtain ⟨z,i,c,rfl,rfl,hz,he,q⟩:=h
 obtain ⟨t,rfl⟩:=rx
 obtain ⟨t',rfl⟩:=ry
 obtain ⟨j,h1,h2,h3,h4,h5⟩:=nP he
 have hl:z.cps.toList.length=z.length:=by simp [Str.length]
 rw [hl] at h1 h4 h5
 have hn:=kc
 exact tail_any (typeIs_str s z t) slot_str_getitem.lookup (getItem_str (c:=c) (by
  have e1:decide (i < -(2 ^ 63:Int))=false:=ZU (by lia)
  have e2:decide (i ≥ 2 ^ 63)=false:=ZU (by lia)
  rw [e1,e2,Bool.or_false]) (by rw [h1];simpa using h2) ⟨.str ⟨#[c]⟩,H,I.tok _,⟨_,rfl⟩,q⟩) hs
noncomputable def rIx (K:Y2):R2:=fun x y H Q=>Cz K x y H Q\/CH K x y H Q\/B5 x y H Q
theorem jd:IxR X (rIx X.K):=zI.or (AW.or Bw)
theorem qK (its:Wx) (n j:Nat) (u:Value):Obj.mapSeq (·.setIfInBounds j u) { cls:=.type "list",data:=.seq its.toArray n }={ cls:=.type "list",data:=.seq (its.set j u).toArray n }:=by
 simp [Obj.mapSeq]
theorem Inv.lst {pins:Z7} {σ:St} {H:Hp} {s:Shared} {p:Addr} {xs:List V} (I:Inv X pins σ H s) (h:H p=some (.lst xs)) :
  ∃ (its:Wx) (n:Nat),aO xs its/\s.heap.get? p=some { cls:=.type "list",data:=.seq its.toArray n }/\xs.length<=sizeLine:=by
 obtain ⟨z,its,n,r,e⟩:=I.hok p _ h
 exact ⟨its,n,r,e,z⟩
theorem Inv.lstUpd {pins:Z7} {σ:St} {H:Hp} {s:Shared} {p:Addr} {xs ys:List V} {its its':Wx} {n n':Nat} {f:Obj->Obj} (I:Inv X pins σ H s) (h:H p=some (.lst xs))
  (ho:s.heap.get? p=some { cls:=.type "list",data:=.seq its.toArray n }) (hf:f { cls:=.type "list",data:=.seq its.toArray n }={ cls:=.type "list",data:=.seq its'.toArray n' }) (r:aO ys its') (hz:ys.length<=sizeLine) (t:Nat) :
  Inv X pins σ (upd H p (.lst ys)) { s with heap:=s.heap.update p f,toks:=t }:=by
 have e:(s.heap.update p f).get? p=some { cls:=.type "list",data:=.seq its'.toArray n' }:=by
  rw [Heap.get?_update_self f ho (by rw [hf] <;> rfl),hf]
 refine I.write (x:=p) (e:=p) (by rw [h];trivial) (.inl rfl) (fun b u hb q=>(XE _ _ (Yk hb)).trans q) ⟨_,e⟩ ?_
 exact ⟨hz,its',n',r,e⟩
noncomputable def zN:V->V->V->Hp->(Hp->Prop)->Prop:=fun o i v H Q=>∃ p xs k j,o=.ref p/\i=.int k/\H p=some (.lst xs)/\ixN xs.length k=some j/\Q (upd H p (.lst (xs.set j v)))
theorem set_list:BH X zN:=by
 intro pins s σ H o i v ov iv u Q I ro ri rv h
 obtain ⟨p,xs,k,j,rfl,rfl,hp,hj,q⟩:=h
 cases ro
 obtain ⟨t,rfl⟩:=ri
 obtain ⟨its,n,r,ho,hz⟩:=I.lst hp
 obtain ⟨h1,h2,h3,h4⟩:=si hj
 have hl:=r.length
 have hn:=kc
 have I':Inv X pins σ (upd H p (.lst (xs.set j v))) { s with heap:=s.heap.update p (Obj.mapSeq (·.setIfInBounds j u)) } :=
  I.lstUpd hp ho (qK its n j u) (r.set rv j) (by rw [Z9];exact hz) s.toks
 by_cases h0:0<=k
 ·have hk:k.toNat=j:=by
   rw [seqIndex_of h0 h4] at h1
   exact Zk h1
  exact PySem.W.ki_setAt ho h0 (by lia) (by rw [ZY,← hl];exact h4) (by rw [hk];exact ⟨_,I',q⟩)
 ·have hk:(k+(its.toArray.size:Int)).toNat=j:=by
   rw [seqIndex_neg (by lia) h3] at h1
   rw [ZY,← hl]
   exact Zk h1
  exact PySem.W.ki_setBack ho (by lia) (by rw [ZY,← hl];exact h3) (by lia) (by rw [hk];exact ⟨_,I',q⟩)
theorem oM (lo hi:Option Int) (n:Nat):(sliceBounds lo hi none n).1=((HT.sIx n 0 lo:Nat):Int)/\(sliceBounds lo hi none n).2.1=((HT.sIx n n hi:Nat):Int)/\(sliceBounds lo hi none n).2.2=1:=by
 refine ⟨?_,?_,rfl⟩
 ·cases lo with
  | none=>simp [sliceBounds,HT.sIx]
  | some i =>
   simp only [sliceBounds,HT.sIx,Wv,show (1:Int) > 0 by decide,if_true]
   by_cases h:i < 0
   ·simp only [h,if_true] <;> lia
   ·simp only [h,if_false] <;> lia
 ·cases hi with
  | none=>simp [sliceBounds,HT.sIx]
  | some i =>
   simp only [sliceBounds,HT.sIx,Wv,show (1:Int) > 0 by decide,if_true]
   by_cases h:i < 0
   ·simp only [h,if_true] <;> lia
   ·simp only [h,if_false] <;> lia
theorem md (its:Wx) (lo hi:Option Int):slicePick its.toArray lo hi none=((its.drop (HT.sIx its.length 0 lo)).take (HT.sIx its.length its.length hi - HT.sIx its.length 0 lo)).toArray:=by
 obtain ⟨h1,h2,h3⟩:=oM lo hi its.toArray.size
 unfold slicePick
 rw [h1,h2,h3]
 simp only [sliceRange_one,pick_run,ZY] <;> rfl
noncomputable def CS (K:Y2):V->Option Int->Option Int->Hp->VK->Prop:=fun x lo hi H Q=>∃ a xs,x=.ref a/\SqL K H a xs/\∀ p,H p=none->Q (.ref p) (upd H p (.lst (qN xs lo hi)))
theorem sC:SlR X (CS X.K):=by
 intro pins s σ H x v vl vu lo hi sl Q I rx hs pl pu h
 obtain ⟨a,xs,rfl,hx,q⟩:=h
 cases rx
 obtain ⟨its,r,ht,hz⟩:=I.list hx
 have hlen:=r.length
 refine ⟨"list",_,slot_list_getitem.lookup,ht.isList.typeIs,?_⟩
 refine wpAny_getItem_list_slice ht.isList hs pl pu .none (by simp) ?_ (by rw [ZY] <;> lia)
 rw [md,← hlen]
 refine ⟨.ref s.heap.objs.size,_,I.laid (t':=s.toks) (o:=.lst (qN xs lo hi)) (fun b ob q=>Zi _ q) (Zg _) ?_,rfl,q _ (I.hok.fresh (Zg _))⟩
 exact ⟨ZG (qh xs lo hi) hz,_,0,(r.drop (HT.sIx xs.length 0 lo)).take (HT.sIx xs.length xs.length hi - HT.sIx xs.length 0 lo),ZP _ rfl⟩
noncomputable def eT:V->Bool
 | .non=>true
 | .bl _=>true
 | .int _=>true
 | .str _=>true
 | _=>false
noncomputable def eqV:V->V->Bool
 | .non,.non=>true
 | .bl a,.bl b=>a == b
 | .bl a,.int b=>(if a then 1 else 0) == b
 | .int a,.bl b=>a == (if b then 1 else 0)
 | .int a,.int b=>a == b
 | .str a,.str b=>a == b
 | _,_=>false
theorem Bq {A:Around} {s:Shared} {y x:V} {u v:Value} (ry:RelV y u) (rx:RelV x v) (fy:eT y=true) (fx:eT x=true):SeqAt.EqAt A s u v (eqV y x):=by
 cases y with
 | non =>
  cases ry
  cases x with
  | non=>cases rx;exact SeqAt.EqAt.same _
  | bl b=>cases rx;exact SeqAt.EqAt.none_bool b
  | int b=>obtain ⟨t,rfl⟩:=rx;exact SeqAt.EqAt.none_int b t
  | str b=>obtain ⟨t,rfl⟩:=rx;exact SeqAt.EqAt.none_str b t
  | _=>exact absurd (show false=true from fx) Zd
 | bl a =>
  cases ry
  cases x with
  | non=>cases rx;exact SeqAt.EqAt.bool_none a
  | bl b=>cases rx;exact SeqAt.EqAt.bool_bool a b
  | int b=>obtain ⟨t,rfl⟩:=rx;exact SeqAt.EqAt.bool_int a b t
  | str b=>obtain ⟨t,rfl⟩:=rx;exact SeqAt.EqAt.bool_str a b t
  | _=>exact absurd (show false=true from fx) Zd
 | int a =>
  obtain ⟨t',rfl⟩:=ry
  cases x with
  | non=>cases rx;exact SeqAt.EqAt.int_none a t'
  | bl b=>cases rx;exact SeqAt.EqAt.int_bool a t' b
  | int b=>obtain ⟨t,rfl⟩:=rx;exact SeqAt.EqAt.int_int a t' b t
  | str b=>obtain ⟨t,rfl⟩:=rx;exact SeqAt.EqAt.int_str a t' b t
  | _=>exact absurd (show false=true from fx) Zd
 | str a =>
  obtain ⟨t',rfl⟩:=ry
  cases x with
  | non=>cases rx;exact SeqAt.EqAt.str_none a t'
  | bl b=>cases rx;exact SeqAt.EqAt.str_bool a t' b
  | int b=>obtain ⟨t,rfl⟩:=rx;exact SeqAt.EqAt.str_int a t' b t
  | str b=>obtain ⟨t,rfl⟩:=rx;exact SeqAt.EqAt.str_str a t' b t
  | _=>exact absurd (show false=true from fx) Zd
 | _=>exact absurd (show false=true from fy) Zd
noncomputable def eqU (x:V) (u:Value):Bool:=match u with
 | .none=>eqV .non x
 | .bool b=>eqV (.bl b) x
 | .int i _=>eqV (.int i) x
 | .str z _=>eqV (.str z) x
 | _=>false
theorem xQ {x y:V} {u:Value} (r:RelV y u) (f:eT y=true):eqU x u=eqV y x:=by
 cases y with
 | non=>cases r;rfl
 | bl b=>cases r;rfl
 | int i=>obtain ⟨t,rfl⟩:=r;rfl
 | str z=>obtain ⟨t,rfl⟩:=r;rfl
 | _=>exact absurd (show false=true from f) Zd
theorem jz {x:V}:∀ {xs:List V} {us:Wx},aO xs us->xs.all eT=true->us.any (eqU x)=xs.any fun y=>eqV y x
 | _,_,.nil,_=>rfl
 | y :: xs,u :: us,.cons r t,f=>by
  rw [Xp,Zb] at f
  rw [Yh,Yh,xQ r f.1,jz t f.2]
theorem ig {A:Around} {s:Shared} {x:V} {v:Value} (rx:RelV x v) (fx:eT x=true):∀ {xs:List V} {us:Wx},aO xs us->xs.all eT=true->∀ u∈us,SeqAt.EqAt A s u v (eqU x u)
 | _,_,.nil,_=>fun u hu=>by cases hu
 | y :: xs,u :: us,.cons r t,f=>fun u' hu=>by
  rw [Xp,Zb] at f
  rcases Zo.mp hu with rfl | hu
  ·rw [xQ r f.1];exact Bq r rx f.1 fx
  ·exact ig rx fx t f.2 u' hu
noncomputable def inV (x:V) (xs:List V):Bool:=xs.any fun y=>eqV y x
noncomputable def rIn (K:Y2) (neg:Bool):R2:=fun x y H Q=>∃ p xs,y=.ref p/\(SqL K H p xs\/SqT K H p xs)/\eT x=true/\xs.all eT=true/\Q (.bl (if neg then !inV x xs else inV x xs)) H
theorem t8:OpR X (compareOp .In) (rIn X.K false):=by
 intro pins s σ H x y v u Q I rx ry h
 obtain ⟨p,xs,rfl,hq,fx,fs,q⟩:=h
 cases ry
 rcases hq with hq | hq
 ·obtain ⟨its,r,pl,hz⟩:=I.list hq
  refine SeqAt.in_listAt (eqU x) pl.isList (fun w hw=>ig rx fx r fs w (by simpa using hw)) ⟨.bl _,H,I,rfl,?_⟩
  rw [show its.toArray.any (eqU x)=its.any (eqU x) by simp,jz r fs]
  exact q
 ·obtain ⟨its,r,pl,hz⟩:=I.tuple hq
  refine SeqAt.in_tupleAt (eqU x) pl (fun w hw=>ig rx fx r fs w (by simpa using hw)) ⟨.bl _,H,I,rfl,?_⟩
  rw [show its.toArray.any (eqU x)=its.any (eqU x) by simp,jz r fs]
  exact q
theorem oi:OpR X (compareOp .NotIn) (rIn X.K true):=by
 intro pins s σ H x y v u Q I rx ry h
 obtain ⟨p,xs,rfl,hq,fx,fs,q⟩:=h
 cases ry
 rcases hq with hq | hq
 ·obtain ⟨its,r,pl,hz⟩:=I.list hq
  refine SeqAt.notIn_listAt (eqU x) pl.isList (fun w hw=>ig rx fx r fs w (by simpa using hw)) ⟨.bl _,H,I,rfl,?_⟩
  rw [show its.toArray.any (eqU x)=its.any (eqU x) by simp,jz r fs]
  exact q
 ·obtain ⟨its,r,pl,hz⟩:=I.tuple hq
  refine SeqAt.notIn_tupleAt (eqU x) pl (fun w hw=>ig rx fx r fs w (by simpa using hw)) ⟨.bl _,H,I,rfl,?_⟩
  rw [show its.toArray.any (eqU x)=its.any (eqU x) by simp,jz r fs]
  exact q
theorem dP.or {f:Value} {r r':List V->Hp->VK->Prop} (h:dP X f r) (h':dP X f r'):dP X f (fun xs H Q=>r xs H Q\/r' xs H Q):=by
 intro pins s σ H xs us Q I rs q
 rcases q with q | q
 ·exact h pins s σ H xs us Q I rs q
 ·exact h' pins s σ H xs us Q I rs q
theorem oJ:dP X (.type "list") (fun xs H Q=>∃ p ys,xs=[.ref p]/\(SqL X.K H p ys\/SqT X.K H p ys)/\∀ l,H l=none->Q (.ref l) (upd H l (.lst ys))):=by
 intro pins s σ H xs us Q I r h
 obtain ⟨p,ys,rfl,hq,q⟩:=h
 obtain ⟨u,rfl,rx⟩:=vals1 r
 cases rx
 have fin:∀ (its:Wx),aO ys its->ys.length<=sizeLine->∀ (h':Heap) (c':Nat),(∀ b o',s.heap.get? b=some o'->h'.get? b=some o') →
   h'.get? s.heap.objs.size=some { cls:=.type "list",dict:=none,data:=.seq its.toArray c',slots:=#[] }->EP X pins σ Q (.ref s.heap.objs.size) { s with heap:=h' }:=fun its r' hz h' c' kp e =>
  ⟨.ref s.heap.objs.size,_,I.laid (t':=s.toks) kp (Zg _) (show bF X.prog X.w _ h' _ (.lst ys) from ⟨hz,its,c',r',e⟩),rfl,q _ (I.hok.fresh (Zg _))⟩
 rcases hq with hq | hq
 ·obtain ⟨its,r',pl,hz⟩:=I.list hq
  have hlen:=r'.length
  obtain ⟨o,ho,hc,n,hd⟩:=pl.isList
  exact call_list_seq p (.inl rfl) ho hc hd (fun h' c' kp e=>fin its r' hz h' c' kp e) (by simp only [ZY] <;> lia)
 ·obtain ⟨its,r',pl,hz⟩:=I.tuple hq
  have hlen:=r'.length
  obtain ⟨o,ho,hc,n,hd⟩:=pl
  exact call_list_seq p (.inr rfl) ho hc hd (fun h' c' kp e=>fin its r' hz h' c' kp e) (by simp only [ZY] <;> lia)
theorem mf:dP X (.type "tuple") (fun xs H Q=>∃ p ys,xs=[.ref p]/\((SqL X.K H p ys/\∀ l,H l=none->Q (.ref l) (upd H l (.tup ys)))\/(SqT X.K H p ys/\Q (.ref p) H))):=by
 intro pins s σ H xs us Q I r h
 obtain ⟨p,ys,rfl,h⟩:=h
 obtain ⟨u,rfl,rx⟩:=vals1 r
 cases rx
 rcases h with ⟨hq,q⟩ | ⟨hq,q⟩
 ·obtain ⟨its,r',pl,hz⟩:=I.list hq
  have hlen:=r'.length
  refine call_tuple_list pl.isList (fun h' kp=>?_) (by simp only [ZY] <;> lia)
  have I1:Inv X pins σ H { s with heap:=h' }:=I.kept (t':=s.toks) kp
  have I2:Inv X pins σ (upd H h'.objs.size (.tup ys)) { s with heap:=h'.push { cls:=.type "tuple",data:=.seq its.toArray } } :=
   I1.laid (t':=s.toks) (fun b o e=>Zi _ e) (Zg _) (show bF X.prog X.w _ _ _ (.tup ys) from ⟨hz,its,r',NoD.new _ _,IsTup.new _ _⟩)
  exact ⟨.ref h'.objs.size,_,I2,rfl,q _ (I1.hok.fresh (Zg _))⟩
 ·obtain ⟨its,r',pl,hz⟩:=I.tuple hq
  exact call_tuple_same pl ⟨.ref p,H,I,rfl,q⟩
noncomputable def tyV (K:Y2) (T:String) (x:V) (H:Hp):Prop:=match x with
 | .str _=>T = "str"
 | .int _=>T = "int"
 | .ref p=>(T = "list" ∧ ∃ xs,SqL K H p xs)\/(T = "tuple" ∧ ∃ o,K.lookup p=some o/\o.cls=.type "tuple" ∧ o.dict=none) ∨
   (T = "dict" ∧ ((∃ kvs,H p=some (.dK kvs))\/∃ kvs,H p=some (.dT kvs)))\/(T = "set" ∧ ∃ S n,H p=some (.set S n))
 | _=>False
theorem Bk {pins:Z7} {σ:St} {H:Hp} {s:Shared} {T:String} {x:V} {v:Value} (I:Inv X pins σ H s) (r:RelV x v) (ty:tyV X.K T x H) :
  s.TypeIs v T/\∀ a,v=.ref a->∃ ob,s.heap.get? a=some ob/\ob.dict=none:=by
 cases x with
 | str z =>
  obtain ⟨t,rfl⟩:=r
  cases (show T = "str" from ty)
  exact ⟨typeIs_str s z t,fun _ e=>nomatch e⟩
 | int i =>
  obtain ⟨t,rfl⟩:=r
  cases (show T = "int" from ty)
  exact ⟨typeIs_int s i t,fun _ e=>nomatch e⟩
 | ref p =>
  cases r
  rcases ty with ⟨rfl,xs,hq⟩ | ⟨rfl,o,hk,hc,hd⟩ | ⟨rfl,hk⟩ | ⟨rfl,S,n,hk⟩
  ·obtain ⟨its,_,pl,_⟩:=I.list hq
   refine ⟨pl.isList.typeIs,fun a e=>?_⟩
   cases e
   obtain ⟨o,n,e,c,hd,_⟩:=pl
   exact ⟨o,e,hd⟩
  ·refine ⟨⟨o,I.kIn p o hk,hc⟩,fun a e=>?_⟩
   cases e
   exact ⟨o,I.kIn _ o hk,hd⟩
  ·have z:∃ o,s.heap.get? p=some o/\o.ExactDict:=by
    rcases hk with ⟨kvs,hk⟩ | ⟨kvs,hk⟩
    ·obtain ⟨_,_,_,_,o,_,_,e,ex,_⟩:=I.hok p _ hk
     exact ⟨o,e,ex⟩
    ·obtain ⟨_,_,_,_,o,_,_,e,ex,_⟩:=I.hok p _ hk
     exact ⟨o,e,ex⟩
   obtain ⟨o,e,ex⟩:=z
   refine ⟨⟨o,e,ex.1⟩,fun a e2=>?_⟩
   cases e2
   exact ⟨o,e,ex.2.1⟩
  ·obtain ⟨o,_,_,_,e,ex,_⟩:=I.hok p _ hk
   refine ⟨⟨o,e,ex.1⟩,fun a e2=>?_⟩
   cases e2
   exact ⟨o,e,ex.2.1⟩
 | _=>exact False.elim ty
noncomputable def tBM (K:Y2) (T:String) (r:V->List V->Hp->VK->Prop) (to:TE) (t:TA):TE:=fun σ H Q=>to σ H fun x H1=>tyV K T x H1/\t σ H1 fun xs H2=>r x xs H2 Q
variable {o e:Expr} {es:List Expr} {to:TE} {t:TA} {name:Str} {apos cpos:Pos} {T id:String} {r:V->List V->Hp->VK->Prop}
theorem ki (pa:PlainAttrs T) (slot:Slot T name id) (hty:typeOf (.builtin id)=pure (.type "method_descriptor")) (hm:MtR X id r) (ho:PE X o to) (ha:PA X (e :: es) t)
  (hbase:attributeBase o name X.env (eval o X.env)=eval o X.env:=by rfl)
  (hfew:((backTo cpos (starEach (e :: es) X.env)).all (fun x=>!x.1) && (backToKw cpos (keywordEach [] X.env)).all (fun x=>x.1.isSome)
   && decide ((e :: es).length+([]:List Keyword).length+(if ([]:List Keyword).isEmpty then 0 else 1) < 30))=true:=by rfl)
  (hline:(apos.endLine == cpos.line)=true:=by rfl) (hs:starEach (e :: es) X.env=(false,eval e X.env) :: starEach es X.env:=by rfl) (hplain:(backTo cpos (starEach es X.env)).any (·.1)=false:=by rfl) :
  PE X (.Call (.Attribute o name apos) (e :: es) [] cpos) (tBM X.K T r to t):=by
 intro pins s σ H Q I h
 refine wpAny_Call_method_late hbase hfew hline rfl (thn (ho pins s σ H _ I h) fun v s1 ⟨x,H1,I1,r1,ty,q1⟩=>?_)
 obtain ⟨h1,h2⟩:=Bk I1 r1 ty
 refine ⟨T,id,pa,slot,hty,h1,h2,?_⟩
 have hA:=ha cpos pins s1 σ H1 _ I1 q1
 rw [hs] at hA ⊢
 refine Calls.callWith_builtin (by show (false || (backTo cpos (starEach es X.env)).any (·.1))=false;rw [hplain] <;> rfl) (Calls.evalArgs_plain ?_)
 exact thn hA fun us s2 ⟨vs,H2,I2,r2,q2⟩=>hm pins s2 σ H2 x vs v us Q I2 r1 r2 q2
end
noncomputable def MtM (X:Cx) (id:String) (r:V->List V->Hp->VK->Prop):Prop :=
 ∀ (pins:Z7) (s:Shared) (σ:St) (H:Hp) (x:V) (xs:List V) (v:Value) (us:Wx) (Q:VK),Inv X pins σ H s->RelV x v->aO xs us->r x xs H Q →
  wpAny (model X.prog X.w) X.A (call (.builtin id) (v :: us)) (EP X pins σ Q) X.xe s
theorem aO.nil_inv {us:Wx} (h:aO [] us):us=[]:=by
 cases h
 rfl
theorem aO.cons_inv {x:V} {xs:List V} {us:Wx} (h:aO (x :: xs) us):∃ u vs,us=u :: vs/\RelV x u/\aO xs vs:=by
 cases h with
 | cons r t=>exact ⟨_,_,rfl,r,t⟩
theorem aO.one {x:V} {us:Wx} (h:aO [x] us):∃ u,us=[u]/\RelV x u:=by
 obtain ⟨u,vs,rfl,r,t⟩:=h.cons_inv
 rw [t.nil_inv]
 exact ⟨_,rfl,r⟩
theorem aO.two {x y:V} {us:Wx} (h:aO [x,y] us):∃ u v,us=[u,v]/\RelV x u/\RelV y v:=by
 obtain ⟨u,vs,rfl,r,t⟩:=h.cons_inv
 obtain ⟨v,rfl,q⟩:=t.one
 exact ⟨_,_,rfl,r,q⟩
section
variable {X:Cx} {pins:Z7} {σ:St} {H:Hp} {s:Shared} {l b:Addr} {xs ys zs:List V}
theorem Inv.lset {its its':Wx} {n:Nat} {f:Array Value->Array Value} {t':Nat} (I:Inv X pins σ H s) (hH:H l=some (.lst xs))
  (e:s.heap.get? l=some { cls:=.type "list",data:=.seq its.toArray n }) (hf:f its.toArray=its'.toArray) (hv:aO ys its') (hz:ys.length<=sizeLine) :
  Inv X pins σ (upd H l (.lst ys)) { s with heap:=s.heap.update l (Obj.mapSeq f),toks:=t' }:=by
 have q:=PySem.IsL.update e f
 rw [hf] at q
 refine I.write (x:=l) (e:=l) (by rw [hH];exact trivial) (.inl rfl) (fun b' u hb hu=>(XE s.heap (Obj.mapSeq f) (Yk hb)).trans hu) ⟨_,q⟩ ?_
 exact ⟨hz,its',_,hv,q⟩
theorem Inv.lnew {its:Wx} {t':Nat} (I:Inv X pins σ H s) (hv:aO ys its) (hz:ys.length<=sizeLine) :
  Inv X pins σ (upd H s.heap.objs.size (.lst ys)) { s with heap:=s.heap.push { cls:=.type "list",data:=.seq its.toArray },toks:=t' } :=
 I.laid (fun _ _ q=>Zi _ q) (Zg _) ⟨hz,its,0,hv,ZP _ rfl⟩
theorem Inv.fresh (I:Inv X pins σ H s):H s.heap.objs.size=none:=I.hok.fresh (Zg _)
theorem Inv.lstM (I:Inv X pins σ H s) (hH:H l=some (.lst xs)):xs.length<=sizeLine/\∃ (its:Wx) (n:Nat),aO xs its/\xs.length=its.length/\s.heap.get? l=some { cls:=.type "list",data:=.seq its.toArray n }:=by
 obtain ⟨z,its,n,r,e⟩:=I.hok l _ hH
 exact ⟨z,its,n,r,r.length,e⟩
theorem pv {n:Nat} (h:n<=sizeLine):Builtin.List.listTooLong n=false:=by
 unfold Builtin.List.listTooLong
 exact ZU (by exact Nat.not_lt_of_le h)
end
section
variable {X:Cx}
noncomputable def kP:V->List V->Hp->VK->Prop:=fun x vs H Q=>∃ l xs y,x=.ref l/\vs=[y]/\H l=some (.lst xs)/\xs.length < sizeLine/\Q .non (upd H l (.lst (xs++[y])))
theorem fe:MtM X "list.append" kP:=by
 intro pins s σ H x vs v us Q I rx rv h
 obtain ⟨l,xs,y,rfl,rfl,hH,hz,q⟩:=h
 cases rx
 obtain ⟨u,rfl,ru⟩:=rv.one
 obtain ⟨z,its,n,r,hl,e⟩:=I.lstM hH
 refine call_meets F.slot_list_append ⟨_,e,rfl⟩ F.entry_list_append (F.args_list_append_2 _ _) (PySem.list_append l its.toArray n u (by rw [ZY];lia)) ⟨e,?_⟩
 refine ⟨.non,_,I.lset (its':=its++[u]) hH e (by simp) (r.append (.cons ru .nil)) ?_,rfl,q⟩
 rw [Zt,ZI]
 exact Nat.succ_le_of_lt hz
noncomputable def CA:R2:=fun x y H Q=>∃ l b xs zs,x=.ref l/\y=.ref b/\H l=some (.lst xs)/\H b=some (.lst zs)/\xs.length+zs.length<=sizeLine/\∀ p,H p=none->Q (.ref p) (upd H p (.lst (xs++zs)))
theorem AC:OpR X (binaryOp .Add) CA:=by
 intro pins s σ H x y v u Q I rx ry h
 obtain ⟨l,b,xs,zs,rfl,rfl,hH,hB,hz,q⟩:=h
 cases rx
 cases ry
 obtain ⟨z,its,n,r,hl,e⟩:=I.lstM hH
 obtain ⟨z2,its2,n2,r2,hl2,e2⟩:=I.lstM hB
 refine PySem.P.add_list e e2 ?_ (by rw [ZY,ZY];lia)
 have ea:its.toArray++its2.toArray=(its++its2).toArray:=by simp
 rw [ea]
 exact ⟨.ref _,_,I.lnew (t':=s.toks) (r.append r2) (by rw [Zt];omega),rfl,q _ I.fresh⟩
theorem len_rep {α:Type} (xs:List α) (k:Nat):(List.replicate k xs).flatten.length=k * xs.length:=by
 induction k with
 | zero=>simp
 | succ k ih=>rw [Y0,ZV,Zt,ih,X2,X7]
end
section
variable {prog:Program} {w:World} {A:Around} {E:Z0} {s:Shared}
theorem rA {a c n:Nat} (hac:a<=c) (hc:c<=n):sliceBounds (some (a:Int)) (some (c:Int)) none n=((a:Int),(c:Int),1):=by
 simp only [sliceBounds,Wv]
 have h1:¬ ((a:Int) < 0):=by lia
 have h2:¬ ((c:Int) < 0):=by lia
 simp only [h1,h2,if_false,show (1:Int) > 0 by decide,if_true]
 congr 1
 ·lia
 ·congr 1;lia
set_option maxRecDepth 100000 in
theorem xW {l b sl:Addr} {items new:Array Value} {n n2:Nat} {vl vu:Value} {a c:Nat} {Q:Unit->Shared->Prop}
  (e:s.heap.get? l=some { cls:=.type "list",data:=.seq items n }) (e2:s.heap.get? b=some { cls:=.type "list",data:=.seq new n2 }) (hne:l ≠ b)
  (hs:s.heap.IsSliceOf sl vl vu .none) (pl:IsPart vl (some (a:Int))) (pu:IsPart vu (some (c:Int))) (hac:a<=c) (hc:c<=items.size)
  (hsz:items.size+new.size<=sizeLine) (h:Q () { s with heap:=s.heap.update l (Obj.mapSeq fun xs=>xs.extract 0 a++new++xs.extract c xs.size) }) :
  wpAny (model prog w) A (setItem (.ref l) (.ref sl) (.ref b)) Q E s:=by
 have hl:s.heap.IsList l items:=PySem.IsL.isList e
 have hb:s.heap.IsList b new:=PySem.IsL.isList e2
 obtain ⟨os,hos,hcs,hds⟩:=id hs
 have hTs:s.TypeIs (.ref sl) "slice" := ⟨os,hos,hcs⟩
 have hstep:¬ ((rawPart none == rawInt 0)=true):=Zd
 have hsame:Builtin.List.listSameRef (.ref l) (.ref b)=false:=by
  unfold Builtin.List.listSameRef
  exact ZO.mpr hne
 have hmax:(max (a:Int) (c:Int)).toNat=c:=by lia
 have hz':((fun xs:Array Value=>xs.extract 0 a++new++xs.extract c xs.size) items).size<=sizeLine+1:=by
  simp only [Array.size_append,Array.size_extract]
  lia
 unfold setItem
 try with_reducible refine YD ?_
 first | refine Zp (Za ?_) | skip
 refine Zp (wpAny_sequenceKey hl.typeIs (by decide) ?_)
 refine Zp (wpAny_callSpecial?_slot (name:=Str.ofString "__setitem__") hl.typeIs slot_list_setitem
  (Xj slot_list_setitem hl.typeIs entry_list_setitem ?_ (args_list_setitem _ _ _)))
 show wpAny _ _ (Builtin.List.listSubscript? (.ref sl) >>= _) _ _ s
 refine Zp ?_
 unfold Builtin.List.listSubscript?
 refine Zp (wpAny_specialOf hTs slice_no_index ?_)
 simp only [Option.isNone_none,if_true]
 refine Za ?_
 show wpAny _ _ (typeOf (.ref sl) >>= _) _ _ s
 refine Zp (wpAny_typeOf hTs ?_)
 first
  | rw [Zm (by decide)]
  | refine XC (by decide) ?_
 rw [listSliceParts_eq]
 refine Zp (Zp (wpAny_field hos hds (x:=.none) rfl (Zp (wpAny_listPart .none ?_))))
 rw [Zm hstep]
 refine Zp (wpAny_field hos hds (x:=vl) rfl (Zp (wpAny_listPart pl ?_)))
 refine Zp (wpAny_field hos hds (x:=vu) rfl (Zp (wpAny_listPart pu (Za ?_))))
 first
  | simp only [hsame,Y7,if_false]
  | refine XC hsame ?_
  | (dsimp only
     rw [Zm (by rw [hsame];exact Zd)])
 refine Zp (m:=Builtin.List.listAllItems (.ref b) "must assign iterable to extended slice") ?_
 unfold Builtin.List.listAllItems
 refine Zp (wpAny_typeOf hb.typeIs ?_)
 first
  | refine PySem.W.KFB.if_so (by decide) ?_
  | rw [Zq (by decide)]
  | simp only [beq_self_eq_true,Bool.true_or,if_true]
 unfold Builtin.List.listItems
 refine Zp (wpAny_seqItems e2 rfl (Za ?_))
 refine Zp (Zp (wpAny_seqItems e rfl (Za ?_)))
 refine Zp (wpAny_of_eq ((sliceIndices_raw (some (a:Int)) (some (c:Int)) none items.size (by simp)).trans (congrArg (pure:Int×Int×Int->Sem (Int×Int×Int)) (rA hac hc))) ?_)
 show wpAny _ _ (if ((1:Int) == 1)=true then _ else _) _ _ s
 rw [Zq (by decide)]
 refine Zp (wpAny_rule ?_)
 first
  | simp only [pv hsz,Y7,if_false]
  | refine XC (pv hsz) ?_
 first | refine Zp (Za ?_) | skip
 show wpAny _ _ (updateSeq l (fun xs=>xs.extract 0 ((a:Int)).toNat++new++xs.extract (max (a:Int) (c:Int)).toNat xs.size) >>= _) _ _ s
 rw [hmax,Xb]
 refine Zp (wpAny_updateSeq (hz:=ZG (YS _ _) hsz) (_hz':=hz') e rfl ?_)
 refine Zp (wpAny_letGo ?_)
 first
  | exact Zp (Za (Za ⟨.none,rfl,Za h⟩))
  | exact Za ⟨.none,rfl,Za h⟩
end
section
variable {κ:Type} [DecidableEq κ]
noncomputable def cn (kvs:List (κ×V)) (k:κ):Option V:=(kvs.find? fun kv=>decide (kv.1=k)).map (·.2)
noncomputable def putK (kvs:List (κ×V)) (k:κ) (v:V):List (κ×V) :=
 if (kvs.any fun kv=>decide (kv.1=k))=true then kvs.map (fun kv=>if kv.1=k then (kv.1,v) else kv) else kvs++[(k,v)]
theorem b6 {p:κ×V} {r:List (κ×V)} {k:κ} (e:p.1=k):cn (p :: r) k=some p.2:=by simp [cn,ZL,e]
theorem cI {p:κ×V} {r:List (κ×V)} {k:κ} (e:¬ p.1=k):cn (p :: r) k=cn r k:=by simp [cn,ZL,e]
theorem ij (k:κ):∀ kvs:List (κ×V),(kvs.any fun kv=>decide (kv.1=k))=(cn kvs k).isSome
 | []=>rfl
 | p :: r=>by
  rw [Yh]
  by_cases e:p.1=k
  ·simp only [b6 e,decide_eq_true e,Bool.true_or,Option.isSome_some]
  ·rw [cI e,ZU e,Bool.false_or];exact ij k r
theorem pF (k j:κ) (y:V):∀ kvs:List (κ×V),cn (kvs.map fun kv=>if kv.1=k then (kv.1,y) else kv) j=(cn kvs j).map fun x=>if j=k then y else x
 | []=>rfl
 | p :: r=>by
  have ih:=pF k j y r
  rw [Zl]
  by_cases h:p.1=k
  ·rw [Zq h]
   by_cases e:p.1=j
   ·rw [b6 (p:=(p.1,y)) e,b6 e,YK,Zq (e.symm.trans h)]
   ·rw [cI (p:=(p.1,y)) e,cI e,ih]
  ·rw [Zm h]
   by_cases e:p.1=j
   ·rw [b6 (p:=p) e,b6 e,YK,Zm (fun z=>h (e.trans z))]
   ·rw [cI (p:=p) e,cI e,ih]
theorem mH (k j:κ) (y:V):∀ kvs:List (κ×V),cn kvs k=none->cn (kvs++[(k,y)]) j=if j=k then some y else cn kvs j
 | [],_=>by
  by_cases e:k=j
  ·rw [Zq e.symm];exact b6 (p:=(k,y)) e
  ·rw [Zm (fun z=>e z.symm)];exact cI (p:=(k,y)) e
 | p :: r,hn=>by
  rw [YQ]
  have hk:¬ p.1=k:=fun z=>by rw [b6 z] at hn;cases hn
  rw [cI hk] at hn
  have ih:=mH k j y r hn
  by_cases e:p.1=j
  ·rw [b6 e,b6 e,Zm (fun z=>hk (e.trans z))]
  ·rw [cI e,cI e,ih]
theorem vC (kvs:List (κ×V)) (k j:κ) (y:V):cn (putK kvs k y) j=if j=k then some y else cn kvs j:=by
 unfold putK
 by_cases a:(kvs.any fun kv=>decide (kv.1=k))=true
 ·rw [Zq a,pF]
  rw [ij] at a
  by_cases e:j=k
  ·obtain ⟨x,hx⟩:=Z6.mp a
   rw [Zq e,e,hx,YK,Zq rfl]
  ·rw [Zm e]
   cases cn kvs j with
   | none=>rfl
   | some x=>rw [YK,Zm e]
 ·rw [Zm a]
  refine mH k j y kvs ?_
  rw [ij] at a
  cases q:cn kvs k with
  | none=>rfl
  | some x=>rw [q] at a;exact (a rfl).elim
theorem eI (kvs:List (κ×V)) (k:κ) (v:V):(putK kvs k v).length<=kvs.length+1:=by
 unfold putK
 split
 ·rw [Zv];exact YS _ _
 ·rw [Zt,Zn,List.length_nil];exact Zg _
theorem gU.isSome_eq {o:Option V} {u:Ww} (r:gU o u):o.isSome=u.isSome:=by
 cases o with
 | none=>cases u with
  | none=>rfl
  | some _=>exact (show False from r).elim
 | some _=>cases u with
  | none=>exact (show False from r).elim
  | some _=>rfl
theorem gU.getD {o:Option V} {u:Ww} {d:V} {d':Value} (r:gU o u) (rd:RelV d d'):RelV (o.getD d) (u.getD d'):=by
 cases o with
 | none=>cases u with
  | none=>exact rd
  | some _=>exact (show False from r).elim
 | some _=>cases u with
  | none=>exact (show False from r).elim
  | some _=>exact r
theorem KV.val {kvs:List (κ×V)} {vs:List (κ×Value)} (r:KV kvs vs) (k:κ):gU (cn kvs k) (valueAt vs k):=by
 unfold KV at r
 induction r with
 | nil=>exact True.intro
 | @cons p q ps qs h t ih =>
  obtain ⟨h1,h2⟩:=h
  by_cases e:p.1=k
  ·have e':q.1=k:=h1.symm.trans e
   have b:valueAt (q :: qs) k=some q.2:=by simp [valueAt,ZL,e']
   rw [b6 e,b];exact h2
  ·have e':¬ q.1=k:=fun z=>e (h1.trans z)
   have b:valueAt (q :: qs) k=valueAt qs k:=by simp [valueAt,ZL,e']
   rw [cI e,b];exact ih
theorem KV.any {kvs:List (κ×V)} {vs:List (κ×Value)} (r:KV kvs vs) (k:κ):(kvs.any fun kv=>decide (kv.1=k))=vs.any fun kv=>decide (kv.1=k):=by
 unfold KV at r
 induction r with
 | nil=>rfl
 | cons h t ih=>rw [Yh,Yh,ih,h.1]
theorem KV.repl {kvs:List (κ×V)} {vs:List (κ×Value)} (r:KV kvs vs) (k:κ) {y:V} {u:Value} (ry:RelV y u) :
  KV (kvs.map fun kv=>if kv.1=k then (kv.1,y) else kv) (vs.map fun kv=>if kv.1=k then (kv.1,u) else kv):=by
 unfold KV at r ⊢
 induction r with
 | nil=>exact .nil
 | @cons p q ps qs h t ih =>
  rw [Zl,Zl]
  refine .cons ?_ ih
  obtain ⟨h1,h2⟩:=h
  by_cases e:p.1=k
  ·rw [Zq e,Zq (h1.symm.trans e)];exact ⟨h1,ry⟩
  ·rw [Zm e,Zm (fun z=>e (h1.trans z))];exact ⟨h1,h2⟩
theorem KV.put {kvs:List (κ×V)} {vs:List (κ×Value)} (r:KV kvs vs) (k:κ) {y:V} {u:Value} (ry:RelV y u):KV (putK kvs k y) (stored vs k u):=by
 unfold putK stored
 rw [r.any k]
 by_cases e:(vs.any fun kv=>decide (kv.1=k))=true
 ·rw [Zq e,Zq e];exact r.repl k ry
 ·rw [Zm e,Zm e];exact Paired.snoc r ⟨rfl,ry⟩
theorem KV.keys {kvs:List (κ×V)} {vs:List (κ×Value)} (r:KV kvs vs):kvs.map (·.1)=vs.map (·.1):=by
 unfold KV at r
 induction r with
 | nil=>rfl
 | cons h t ih=>rw [Zl,Zl,ih,h.1]
theorem KV.length {kvs:List (κ×V)} {vs:List (κ×Value)} (r:KV kvs vs):kvs.length=vs.length:=Y8 r
end
theorem jE {P:Program} {w:World} {k:Key} {u:Value} (r:RelV (kV k) u):(aM P w).is k u=true:=by
 cases k with
 | inl i=>obtain ⟨t,e⟩:=(show ∃ t,u=Value.int i t from r);subst e;exact pA P w i t
 | inr x=>obtain ⟨t,e⟩:=(show ∃ t,u=Value.str x t from r);subst e;exact p7 P w x t
theorem m9 {P:Program} {w:World}:∀ {ks:List Key} {us:Wx},aO (ks.map kV) us->ItemsAre (aM P w) ks us
 | [],_,r=>by rw [YB] at r;cases r;exact .nil
 | k :: ks,_,r=>by
  rw [Zl] at r
  cases r with
  | cons h t=>exact .cons (jE h) (m9 t)
noncomputable abbrev KT (H:Hp):List (List Key×V)->List (List Key×Addr×Value)->Prop:=Paired fun p q=>p.1=q.1/\H q.2.1=some (.tup (p.1.map kV))/\RelV p.2 q.2.2
theorem KT.val {H:Hp} {kvs:List (List Key×V)} {xs:List (List Key×Addr×Value)} (r:KT H kvs xs) (k:List Key):gU (cn kvs k) ((atKey xs k).map (·.2)):=by
 induction r with
 | nil=>exact True.intro
 | @cons p q ps qs h t ih =>
  obtain ⟨h1,_,h2⟩:=h
  by_cases e:p.1=k
  ·have e':q.1=k:=h1.symm.trans e
   have b:atKey (q :: qs) k=some q.2:=by simp [atKey,ZL,e']
   rw [b6 e,b];exact h2
  ·have e':¬ q.1=k:=fun z=>e (h1.trans z)
   have b:atKey (q :: qs) k=atKey qs k:=by simp [atKey,ZL,e']
   rw [cI e,b];exact ih
theorem KT.repl {H:Hp} {kvs:List (List Key×V)} {xs:List (List Key×Addr×Value)} (r:KT H kvs xs) (k:List Key) {y:V} {u:Value} (ry:RelV y u) :
  KT H (kvs.map fun kv=>if kv.1=k then (kv.1,y) else kv) (xs.map (putAt k u)):=by
 induction r with
 | nil=>exact .nil
 | @cons p q ps qs h t ih =>
  rw [Zl,Zl]
  refine .cons ?_ ih
  obtain ⟨h1,h2,h3⟩:=h
  unfold putAt
  by_cases e:p.1=k
  ·rw [Zq e,Zq (h1.symm.trans e)];exact ⟨h1,h2,ry⟩
  ·rw [Zm e,Zm (fun z=>e (h1.trans z))];exact ⟨h1,h2,h3⟩
theorem KT.put {H:Hp} {kvs:List (List Key×V)} {xs:List (List Key×Addr×Value)} (r:KT H kvs xs) (k:List Key) {b:Addr} {y:V} {u:Value} (hb:H b=some (.tup (k.map kV))) (ry:RelV y u) :
  KT H (putK kvs k y) (storedH xs k b u):=by
 have e:(kvs.any fun kv=>decide (kv.1=k))=(atKey xs k).isSome:=by
  rw [ij,(r.val k).isSome_eq,Yl]
 unfold putK storedH
 rw [e]
 by_cases q:(atKey xs k).isSome=true
 ·rw [Zq q,Zq q];exact r.repl k ry
 ·rw [Zm q,Zm q];exact Paired.snoc r ⟨rfl,hb,ry⟩
theorem KT.keeps {H H':Hp} {kvs:List (List Key×V)} {xs:List (List Key×Addr×Value)} (r:KT H kvs xs) (ht:∀ b ys,H b=some (.tup ys)->H' b=some (.tup ys)):KT H' kvs xs :=
 Paired.mapP r fun _ _ z=>⟨z.1,ht _ _ z.2.1,z.2.2⟩
section
variable {P:Program} {w:World} {H:Hp} {h:Heap} {a:Addr}
theorem zP {u:HO} (ok:HOk P w H h) (e:Rd H a u):bF P w H h a u:=e.ok ok
theorem kA {kvs:List (Key×V)} (ok:HOk P w H h) (e:Rd H a (.dK kvs)):kvs.length<=sizeLine/\(a == sysModules)=false/\∃ vs,KV kvs vs/\h.DictOf (aM P w) a vs :=
 show bF P w H h a (.dK kvs) from zP ok e
theorem mO {kvs:List (Key×V)} (ok:HOk P w H h) (e:H a=some (.dK kvs)):kvs.length<=sizeLine/\(a == sysModules)=false/\∃ vs,KV kvs vs/\h.DictOf (aM P w) a vs:=kA ok (.inl e)
theorem cO {ks:List Key} (ok:HOk P w H h) (e:H a=some (.tup (ks.map kV))):(tupleKind (aM P w)).is h ks a:=by
 obtain ⟨_,its,r,_,o,h1,h2,n,h3⟩:=(show bF P w H h a (.tup (ks.map kV)) from ok a _ e)
 exact ⟨o,its.toArray,n,h1,h2,h3,by simpa using m9 r⟩
theorem lL {kvs:List (List Key×V)} (ok:HOk P w H h) (e:Rd H a (.dT kvs)):kvs.length<=sizeLine/\(a == sysModules)=false ∧
  ∃ xs,KT H kvs xs/\h.DictOfH (tupleKind (aM P w)) a xs:=by
 obtain ⟨z,y,xs,r,o,es,ep,h1,h2,h3,h4,h5⟩:=(show bF P w H h a (.dT kvs) from zP ok e)
 refine ⟨z,y,xs,r,o,es,ep,h1,h2,h3,h4,fun x hx=>?_,h5⟩
 have all:∀ {l:List (List Key×V)} {m:List (List Key×Addr×Value)},KT H l m->∀ x∈m,(tupleKind (aM P w)).is h x.1 x.2.1:=by
  intro l m q
  induction q with
  | nil=>intro x hx;exact nomatch hx
  | @cons p q ps qs hq t ih =>
   intro x hx
   rcases Zo.mp hx with e | hx
   ·subst e
    exact cO ok (by rw [← hq.1];exact hq.2.1)
   ·exact ih x hx
 exact all r x hx
theorem Cq {kvs:List (List Key×V)} (ok:HOk P w H h) (e:H a=some (.dT kvs)):kvs.length<=sizeLine/\(a == sysModules)=false ∧
  ∃ xs,KT H kvs xs/\h.DictOfH (tupleKind (aM P w)) a xs:=lL ok (.inl e)
end
noncomputable def gj (H:Hp) (a:Addr) (y:V) (r:Option V):Prop :=
 (∃ kvs k,Rd H a (.dK kvs)/\y=kV k/\r=cn kvs k)\/∃ kvs k b,Rd H a (.dT kvs)/\y=.ref b/\H b=some (.tup (k.map kV))/\r=cn kvs k
noncomputable def pI (H:Hp) (a:Addr) (y v:V) (H':Hp):Prop :=
 (∃ kvs k,H a=some (.dK kvs)/\y=kV k/\kvs.length < sizeLine/\H'=upd H a (.dK (putK kvs k v))) ∨
 ∃ kvs k b,H a=some (.dT kvs)/\y=.ref b/\H b=some (.tup (k.map kV))/\kvs.length < sizeLine/\H'=upd H a (.dT (putK kvs k v))
theorem gj.k {H:Hp} {a:Addr} {kvs:List (Key×V)} {k:Key} (e:H a=some (.dK kvs)):gj H a (kV k) (cn kvs k):=.inl ⟨kvs,k,.inl e,rfl,rfl⟩
theorem pI.k {H:Hp} {a:Addr} {kvs:List (Key×V)} {k:Key} {v:V} (e:H a=some (.dK kvs)) (hl:kvs.length < sizeLine):pI H a (kV k) v (upd H a (.dK (putK kvs k v))):=.inl ⟨kvs,k,e,rfl,hl,rfl⟩
section
variable {X:Cx} {pins:Z7} {σ:St} {H:Hp} {s:Shared} {a:Addr} {y v:V} {u r:Value} {o:Option V} {A:Around} {E:Z0}
theorem Inv.big (I:Inv X pins σ H s):sysModules < s.heap.objs.size:=by
 have h:mainGlobals < s.heap.objs.size:=(I.mod.glob.keeps I.bk).lt
 exact X4 (by decide) h
theorem ug {Q:Z0} (hu:A.units+1 < cLine) (I:Inv X pins σ H s) (g:gj H a y (some v)) (ry:RelV y u) (h:∀ w' s',Inv X pins σ H s'->RelV v w'->Q w' s') :
  wpAny (model X.prog X.w) A (getItem (.ref a) u) Q E s:=by
 rcases g with ⟨kvs,k,e,ey,l⟩ | ⟨kvs,k,b,e,ey,eb,l⟩
 ·subst ey
  obtain ⟨z,hd,vs,rel,dd⟩:=kA I.hok e
  obtain ⟨w',hw,rw'⟩:=gU.some_of (v:=v) (o:=valueAt vs k) (by rw [l];exact rel.val k)
  exact wpAny_getItem_of (jE ry) dd.mapOf hw (h w' _ (I.tok _) rw')
 ·subst ey
  cases (show u=Value.ref b from ry)
  obtain ⟨z,hd,xs,rel,dd⟩:=lL I.hok e
  obtain ⟨w',hw,rw'⟩:=gU.some_of (v:=v) (o:=(atKey xs k).map (·.2)) (by rw [l];exact rel.val k)
  obtain ⟨p,hp,hp2⟩:=Zw.mp hw
  refine wpAny_getItem_heap (Xz hu) (cO I.hok eb) dd hp ?_
  rw [hp2]
  exact h w' _ (I.tok _) rw'
theorem Dp {Q:Z0} (hu:A.units+1 < cLine) (I:Inv X pins σ H s) (g:gj H a y o) (ry:RelV y u) (h:∀ s',Inv X pins σ H s'->Q (.bool o.isSome) s') :
  wpAny (model X.prog X.w) A (compareOp .In u (.ref a)) Q E s:=by
 rcases g with ⟨kvs,k,e,ey,l⟩ | ⟨kvs,k,b,e,ey,eb,l⟩
 ·subst ey
  obtain ⟨z,hd,vs,rel,dd⟩:=kA I.hok e
  refine wpAny_in_of (jE ry) hd dd.mapOf ?_
  rw [← (rel.val k).isSome_eq,← l]
  exact h _ (I.tok _)
 ·subst ey
  cases (show u=Value.ref b from ry)
  obtain ⟨z,hd,xs,rel,dd⟩:=lL I.hok e
  refine wpAny_in_heap (Xz hu) (cO I.hok eb) hd dd ?_
  have q:=(rel.val k).isSome_eq
  rw [Yl] at q
  rw [← q,← l]
  exact h _ (I.tok _)
theorem zD {Q:Z0} (hu:A.units+1 < cLine) (I:Inv X pins σ H s) (g:gj H a y o) (ry:RelV y u) (h:∀ s',Inv X pins σ H s'->Q (.bool (!o.isSome)) s') :
  wpAny (model X.prog X.w) A (compareOp .NotIn u (.ref a)) Q E s:=by
 rcases g with ⟨kvs,k,e,ey,l⟩ | ⟨kvs,k,b,e,ey,eb,l⟩
 ·subst ey
  obtain ⟨z,hd,vs,rel,dd⟩:=kA I.hok e
  refine wpAny_notIn_of (jE ry) hd dd.mapOf ?_
  rw [← (rel.val k).isSome_eq,← l]
  exact h _ (I.tok _)
 ·subst ey
  cases (show u=Value.ref b from ry)
  obtain ⟨z,hd,xs,rel,dd⟩:=lL I.hok e
  refine wpAny_notIn_heap (Xz hu) (cO I.hok eb) hd dd ?_
  have q:=(rel.val k).isSome_eq
  rw [Yl] at q
  rw [← q,← l]
  exact h _ (I.tok _)
theorem jO {h':Heap} {t':Nat} {ob:HO} (I:Inv X pins σ H s) (mu:Mut (H a)) (hs:Heap.SameBut a s.heap h') (he:∃ q,h'.get? a=some q) (new:bF X.prog X.w (upd H a ob) h' a ob) :
  Inv X pins σ (upd H a ob) { s with heap:=h',toks:=t' } :=
 I.write (x:=a) (e:=a) mu (.inl rfl) (fun b q hb z=>(hs.2 b hb).trans z) he new
theorem lD {P:Program} {w:World} {H':Hp} {h':Heap} {kvs:List (Key×V)} {vs:List (Key×Value)} (z:kvs.length<=sizeLine) (hd:(a == sysModules)=false) (rel:KV kvs vs) (dd:h'.DictOf (aM P w) a vs) :
  bF P w H' h' a (.dK kvs):=⟨z,hd,vs,rel,dd⟩
theorem uf {H':Hp} {Q:Unit->Shared->Prop} (hu:A.units+1 < cLine) (I:Inv X pins σ H s) (g:pI H a y v H') (ry:RelV y u) (rv:RelV v r) (h:∀ s',Inv X pins σ H' s'->Q () s') :
  wpAny (model X.prog X.w) A (setItem (.ref a) u r) Q E s:=by
 rcases g with ⟨kvs,k,e,ey,l,eH⟩ | ⟨kvs,k,b,e,ey,eb,l,eH⟩
 ·subst ey eH
  obtain ⟨z,hd,vs,rel,dd⟩:=mO I.hok e
  have hz:vs.length<=sizeLine:=by rw [← rel.length];exact z
  have hl:(putK kvs k v).length<=sizeLine:=by have:=eI kvs k v;lia
  refine wpAny_setItem_pairs (hsz:=hz) (jE ry) dd fun h' dd' hs=>h _ ?_
  have he:∃ q,h'.get? a=some q:=let ⟨q,_,_,hq,_⟩:=dd';⟨q,hq⟩
  exact jO I (by rw [e];exact True.intro) hs he (lD hl hd (rel.put k rv) dd')
 ·subst ey eH
  cases (show u=Value.ref b from ry)
  obtain ⟨z,hd,xs,rel,dd⟩:=Cq I.hok e
  have hz:xs.length<=sizeLine:=by rw [← Y8 rel];exact z
  have hl:(putK kvs k v).length<=sizeLine:=by have:=eI kvs k v;lia
  refine wpAny_setItem_heap (hsz:=hz) (Xz hu) (cO I.hok eb) dd fun h' dd' hs=>h _ ?_
  obtain ⟨q,es,ep,hq,h2,h3,h4,_,h5⟩:=dd'
  refine jO I (by rw [e];exact True.intro) hs ⟨q,hq⟩ ⟨hl,hd,_,(rel.put k eb rv).keeps fun c ys ec=>?_,q,es,ep,hq,h2,h3,h4,h5⟩
  rw [ax (Co ec e (fun z=>nomatch z))]
  exact ec
end
section
variable {X:Cx} {pins:Z7} {σ:St} {H:Hp} {s:Shared} {a:Addr} {kvs:List (Key×V)} {k:Key} {u:Value} {A:Around} {E:Z0}
theorem B3 {Q:Z0} (I:Inv X pins σ H s) (e:Rd H a (.dK kvs)) (h:∀ t s',Inv X pins σ H s'->Q (.int kvs.length t) s'):wpAny (model X.prog X.w) A (call (.builtin "len") [.ref a]) Q E s:=by
 obtain ⟨z,hd,vs,rel,dd⟩:=kA I.hok e
 refine call_len_dict hd dd (by rw [← rel.length];rw [Xy] at z;lia) ?_
 rw [← rel.length]
 exact h _ _ (I.tok _)
end
theorem pd {X:Cx} {pins:Z7} {σ:St} {H:Hp} {s:Shared} {a:Addr} {y:V} {o:Option V} (I:Inv X pins σ H s) (g:gj H a y o):s.TypeIs (.ref a) "dict" := by
 rcases g with ⟨kvs,k,e,_,_⟩ | ⟨kvs,k,b,e,_,_,_⟩
 ·obtain ⟨_,_,vs,_,dd⟩:=kA I.hok e
  exact dd.typeIs
 ·obtain ⟨_,_,xs,_,dd⟩:=lL I.hok e
  exact dd.typeIs
theorem pG {P:Program} {w:World} {H:Hp} (h:Heap) (hb:sysModules < h.objs.size):bF P w H (h.push { cls:=.type "dict",data:=.dict #[] }) h.objs.size (.dK []) :=
 ⟨Yt _,ZO.mpr (Yk (ZZ hb)),[],.nil,Heap.DictOf.new h⟩
noncomputable def A3:TE:=fun _ H Q=>∀ p,H p=none->Q (.ref p) (upd H p (.dK []))
section
variable {X:Cx} {pos:Pos}
theorem xV:PE X (.Dict [] [] pos) A3:=fun pins s σ H Q I h =>
 wpAny_Dict_empty ⟨.ref s.heap.objs.size,_,I.laid (a:=s.heap.objs.size) (o:=.dK []) (t':=s.toks) (fun _ _ q=>Zi _ q) (Zg _) (pG s.heap I.big),rfl,h _ (I.hok.fresh (Zg _))⟩
end
noncomputable def qx:List (TE×TE)->St->Hp->(List (V×V)->Hp->Prop)->Prop
 | [],_,H,Q=>Q [] H
 | (tk,tv) :: r,σ,H,Q=>tk σ H fun x H1=>tv σ H1 fun y H2=>qx r σ H2 fun ps H3=>Q ((x,y) :: ps) H3
noncomputable abbrev VV:List (V×V)->List (Value×Value)->Prop:=Paired fun p q=>RelV p.1 q.1/\RelV p.2 q.2
noncomputable def PPs (X:Cx) (pos:Pos) (keys:List (Option Expr)) (values:List Expr) (trs:List (TE×TE)):Prop :=
 ∀ (pins:Z7) (s:Shared) (σ:St) (H:Hp) (Q:List (V×V)->Hp->Prop),Inv X pins σ H s->qx trs σ H Q →
  wpAny (model X.prog X.w) X.A (evalPairs (pairTrees keys values X.env pos)) (fun vs s'=>∃ ps H',Inv X pins σ H' s'/\VV ps vs/\Q ps H') X.xe s
theorem tH {X:Cx} {pos:Pos}:PPs X pos [] [] []:=fun pins s σ H Q I h=>pairTrees_nil_walk ⟨[],H,I,.nil,h⟩
theorem pK {X:Cx} {pos:Pos} {k v:Expr} {ks:List (Option Expr)} {vs:List Expr} {tk tv:TE} {trs:List (TE×TE)} (hk:PE X k tk) (hv:PE X v tv) (hr:PPs X pos ks vs trs) :
  PPs X pos (some k :: ks) (v :: vs) ((tk,tv) :: trs):=fun pins s σ H Q I h =>
 pairTrees_cons_walk (thn (hk pins s σ H _ I h) fun u s1 ⟨x,H1,I1,rx,q1⟩=>thn (hv pins s1 σ H1 _ I1 q1) fun w2 s2 ⟨y,H2,I2,ry,q2⟩ =>
  thn (hr pins s2 σ H2 _ I2 q2) fun ws s3 ⟨ps,H3,I3,rel,q3⟩=>⟨(x,y) :: ps,H3,I3,.cons ⟨rx,ry⟩ rel,q3⟩)
noncomputable def jS (kvs more:List (Key×V)):List (Key×V):=more.foldl (fun acc kv=>putK acc kv.1 kv.2) kvs
theorem KV.merge:∀ {more:List (Key×V)} {rs:List (Key×Value)} {kvs:List (Key×V)} {vs:List (Key×Value)},KV more rs->KV kvs vs->KV (jS kvs more) (merged vs rs):=by
 intro more rs kvs vs r
 unfold KV at r
 induction r generalizing kvs vs with
 | nil=>intro q;exact q
 | @cons p q ps qs h t ih =>
  intro r0
  have e:KV (putK kvs p.1 p.2) (stored vs q.1 q.2):=by
   have:=r0.put p.1 h.2
   rw [← h.1];exact this
  exact ih e
theorem iM:∀ (more kvs:List (Key×V)),(jS kvs more).length<=kvs.length+more.length
 | [],kvs=>by show kvs.length<=kvs.length+0;exact YS _ _
 | p :: r,kvs=>by
  have h1:=iM r (putK kvs p.1 p.2)
  have h2:=eI kvs p.1 p.2
  show (jS (putK kvs p.1 p.2) r).length<=_
  rw [Zn];lia
theorem lF {P:Program} {w:World}:∀ {kvs:List (Key×V)} {ws:List (Value×Value)},VV (kvs.map fun kv=>(kV kv.1,kv.2)) ws->∃ rs,Carries (aM P w) ws rs/\KV kvs rs
 | [],_,r=>by rw [YB] at r;cases r;exact ⟨[],True.intro,.nil⟩
 | p :: kvs,_,r=>by
  rw [Zl] at r
  cases r with
  | @cons a b as bs h t =>
   obtain ⟨rs,c,q⟩:=lF (P:=P) (w:=w) t
   obtain ⟨b1,b2⟩:=b
   exact ⟨(p.1,b2) :: rs,⟨jE h.1,rfl,c⟩,.cons ⟨rfl,h.2⟩ q⟩
noncomputable def C3 (trs:List (TE×TE)):TE:=fun σ H Q=>∀ p,H p=none->qx trs σ (upd H p (.dK [])) fun ps H2=>H2 p=some (.dK [])/\∃ kvs:List (Key×V),ps=kvs.map (fun kv=>(kV kv.1,kv.2))/\kvs.length<=15/\Q (.ref p) (upd H2 p (.dK (jS [] kvs)))
theorem tq {X:Cx} {pos:Pos} {keys:List (Option Expr)} {values:List Expr} {trs:List (TE×TE)} (h:PPs X pos keys values trs) (hall:keys.all (·.isSome)=true) (hl:keys.length=values.length) (h0:keys ≠ [])
  (h15:keys.length<=15):PE X (.Dict keys values pos) (C3 trs):=by
 intro pins s σ H Q I q
 have hn:=I.hok.fresh (Zg s.heap.objs.size)
 have I1:=I.laid (a:=s.heap.objs.size) (o:=.dK []) (h':=s.heap.push { cls:=.type "dict",data:=.dict #[] }) (t':=s.toks) (fun _ _ q=>Zi _ q) (Zg _) (pG s.heap I.big)
 refine wpAny_Dict_walk (knd:=aM X.prog X.w) hall hl h0 h15 (thn (h pins _ σ _ _ I1 (q _ hn)) fun ws s2 ⟨ps,H2,I2,rel,e,kvs,ep,lk,q2⟩=>?_)
 subst ep
 obtain ⟨rs,c,rk⟩:=lF (P:=X.prog) (w:=X.w) rel
 obtain ⟨z,hd,vs0,r0,dd⟩:=mO I2.hok e
 cases r0
 refine ⟨rs,c,dd,fun h' dd' hs=>⟨.ref s.heap.objs.size,_,?_,rfl,q2⟩⟩
 have hz:(jS [] kvs).length<=sizeLine:=by
  have h1:=iM kvs []
  rw [List.length_nil] at h1
  rw [Xy];lia
 have he:∃ q,h'.get? s.heap.objs.size=some q:=let ⟨q,_,_,hq,_⟩:=dd';⟨q,hq⟩
 exact jO I2 (by rw [e];exact True.intro) hs he (lD hz hd (rk.merge .nil) dd')
structure M1 (X:Cx) (o:Expr) (m:Str) (apos:Pos) (e:Expr) (cpos:Pos):Prop where
 base:attributeBase o m X.env (eval o X.env)=eval o X.env
 few:((backTo cpos (starEach [e] X.env)).all (fun x=>!x.1) && (backToKw cpos (keywordEach [] X.env)).all (fun x=>x.1.isSome)
  && decide (([e]:List Expr).length+([]:List Keyword).length+(if ([]:List Keyword).isEmpty then 0 else 1) < 30))=true
 line:(apos.endLine == cpos.line)=true
 trees:backTo cpos (starEach [e] X.env)=[(false,eval e X.env)]
noncomputable def IsD (H:Hp) (a:Addr):Prop:=(∃ kvs,Rd H a (.dK kvs))\/∃ kvs,Rd H a (.dT kvs)
theorem Bo {X:Cx} {pins:Z7} {σ:St} {H:Hp} {s:Shared} {a:Addr} (I:Inv X pins σ H s) (d:IsD H a) :
  s.TypeIs (.ref a) "dict" ∧ (∀ b,Value.ref a=.ref b->∃ ob,s.heap.get? b=some ob/\ob.dict=none)/\(a == sysModules)=false:=by
 rcases d with ⟨kvs,e⟩ | ⟨kvs,e⟩
 ·obtain ⟨_,hd,vs,_,dd⟩:=kA I.hok e
  refine ⟨dd.typeIs,fun b q=>?_,hd⟩
  cases q
  obtain ⟨ob,_,_,h1,h2,_⟩:=dd
  exact ⟨ob,h1,h2.2.1⟩
 ·obtain ⟨_,hd,xs,_,dd⟩:=lL I.hok e
  refine ⟨dd.typeIs,fun b q=>?_,hd⟩
  cases q
  obtain ⟨ob,_,_,h1,h2,_⟩:=dd
  exact ⟨ob,h1,h2.2.1⟩
section
variable {X:Cx} {pins:Z7} {σ:St} {H:Hp} {s:Shared} {a:Addr} {y d:V} {u r:Value} {o:Option V} {A:Around} {E:Z0}
theorem Aq {Q:Z0} (hu:A.units+1 < cLine) (I:Inv X pins σ H s) (g:gj H a y o) (ry:RelV y u) (h:∀ w' s',Inv X pins σ H s'->RelV (o.getD .non) w'->Q w' s') :
  wpAny (model X.prog X.w) A (call (.builtin "dict.get") [.ref a,u]) Q E s:=by
 rcases g with ⟨kvs,k,e,ey,l⟩ | ⟨kvs,k,b,e,ey,eb,l⟩
 ·subst ey
  obtain ⟨z,hd,vs,rel,dd⟩:=kA I.hok e
  refine call_meetsIn XR dd.typeIs PySem.F.entry_dict_get (PySem.F.args_dict_get_2 _ _) (meets_dict_get (aM X.prog X.w) a (jE ry) hd) ⟨_,dd.mapOf,h _ _ (I.tok _) ?_⟩
  rw [l]
  exact (rel.val k).getD rfl
 ·subst ey
  cases (show u=Value.ref b from ry)
  obtain ⟨z,hd,xs,rel,dd⟩:=lL I.hok e
  refine call_meetsIn XR dd.typeIs PySem.F.entry_dict_get (PySem.F.args_dict_get_2 _ _) (meetsH_dict_get (tupleKind (aM X.prog X.w)) a b hd) ⟨Xz hu,k,xs,cO I.hok eb,dd,h _ _ (I.tok _) ?_⟩
  rw [l]
  exact (rel.val k).getD rfl
end
noncomputable def BJ (td ty:TE):TE:=fun σ H Q=>td σ H fun x H1=>∃ a,x=.ref a/\IsD H1 a/\ty σ H1 fun y H2=>∃ o,gj H2 a y o/\Q (o.getD .non) H2
section
variable {X:Cx} {o e f:Expr} {apos cpos:Pos} {td ty tx:TE}
theorem xO (hu:X.A.units+1 < cLine) (ho:PE X o td) (he:PE X e ty) (m:M1 X o "get" apos e cpos):PE X (.Call (.Attribute o "get" apos) [e] [] cpos) (BJ td ty):=by
 intro pins s σ H Q I h
 refine wpAny_Call_method m.base m.few m.line PySem.F.plainAttrs_dict XR PySem.F.type_dict_get (thn (ho pins s σ H _ I h) fun u s1 ⟨x,H1,I1,rx,a,ex,d,q1⟩=>?_)
 subst ex
 obtain rfl:u=Value.ref a:=rx
 obtain ⟨t1,t2,_⟩:=Bo I1 d
 refine ⟨t1,t2,?_⟩
 rw [m.trees]
 refine Calls.callWith_builtin rfl (Calls.evalArgs_plain (Calls.spliced_cons (thn (he pins s1 σ H1 _ I1 q1) fun iv s2 ⟨y,H2,I2,ry,ov,g,q2⟩=>Calls.spliced_nil ?_)))
 exact Aq hu I2 g ry fun w' s3 I3 rw'=>⟨_,H2,I3,rw',q2⟩
end
end L2
namespace Att
open PySem PySem.W PySem.Calls PyProof.Rows
theorem kD {P:Params} {h:Heap}:∀ (ns:Wp) (vs:Wx),WellAll P h vs (ns.map WData.int)->IntsAre vs ns:=by
 intro ns
 induction ns with
 | nil =>
  intro vs w
  rw [YB] at w
  cases w
  exact .nil
 | cons n ns ih =>
  intro vs w
  rw [Zl] at w
  cases w with
  | cons a b =>
   cases a
   exact .cons _ _ (ih _ b)
theorem uy {l:OpenLaw} {n:Nat} (hn:l.most=some n) {P:Params} {h:Heap} {args:List WData} {vals:Wx}
  (hpre:l.row.toRowW.claim.pre args=true) (hwl:WellAll P h vals args) :
  ∃ a vs ns,vals=[Value.ref a]/\args=[WData.list (ns.map WData.int)]/\h.get? a=some { cls:=.type "list",data:=.seq vs.toArray }/\IntsAre vs ns/\ns.length<=n:=by
 have hsh:WShape.hasAll [] args [.list .int]=true:=(pre_splitW hpre).1
 have hc:l.pre.holds [] { args:=args }=true:=(pre_splitW hpre).2
 obtain ⟨d,r,rfl,h1,h2⟩:=hasAllW_cons hsh
 obtain rfl:=hasAllW_nil h2
 obtain ⟨xs,rfl,h3⟩:=hasW_list h1
 obtain ⟨ns,rfl⟩:=items_int h3
 have hlen:ns.length<=n:=by
  unfold OpenLaw.pre at hc
  have h4:(WTm.not (.lt (.lit (.int (n:Int))) (.len (.arg 0)))).holds [] { args:=[.list (ns.map .int)] }=true:=by
   have h4:=(holds_andW hc).1
   rw [hn] at h4
   exact h4
  have h5:=condW_of h4 (w_not (w_lt w_lit (w_len_list (w_arg rfl))))
  rw [Zv] at h5
  refine ZE fun q=>?_
  have q':(n:Int) < ((ns.length:Nat):Int):=by omega
  first
   | (rw [decide_eq_true q'] at h5;exact absurd h5 (by decide))
   | (simp at h5;omega)
 cases hwl with
 | cons w1 w2 =>
  cases w2
  cases w1 with
  | list ho hall=>exact ⟨_,_,ns,rfl,rfl,ho,kD ns _ hall,hlen⟩
theorem uK (l:OpenLaw) (args:List WData):l.row.toRowW.claim.post args (.bool true) args=true :=
 postW_of (r:=l.row.toRowW) (X:=(true == true))
  (show WShape.has [] (.bool true) .bool=true by first | rfl | decide | simp [WShape.has,WShape.arms,WShape.armsAll])
  (show (WTm.eq .res (.lit (.bool true))).value [] { args:=args,res:=some (.bool true),after:=args }=some (.bool (true == true)) from w_eq_bool (w_res rfl) w_lit) rfl
theorem oT {l:OpenLaw} {n:Nat} {q:Program} {loose:List Str} {XP:(Xu)->Heap->Prop} {YP:World->Heap->Prop} {d:DefRec}
  (hn:l.most=some n) (hdf:d.params.defaults=[])
  (call:∀ (w:World) (s₀ s₁:Shared) (mg mb:Xu) (fa:Addr) (o:Obj) (pm cd doc:Value) (a:Addr) (vs:Wx) (ns:Wp),
   Ground q loose [] XP w s₀ mg mb s₁.heap->YP w s₁.heap →
   s₁.heap.get? fa=some o->o.data=.func (docDef d.name d.params d.body d.scope pm cd doc)->s₁.heap.CodeRec cd d.name->mg d.name=some (.ref fa) →
   s₁.heap.get? a=some { cls:=.type "list",data:=.seq vs.toArray }->IntsAre vs ns->ns.length<=n->s₁.gens=#[] →
   codeAny (model l.prog w) callerA (.call (.ref fa) ⟨[.ref a],[]⟩) (fun r s'=>r=.ok (.ret (.bool true))/\OldK s₁.heap s'.heap/\s'.os=s₁.os/\AllBare s'.gens) s₁) :
  WalkO q loose XP YP l.row.toRowW d [] (fun f vs=>PySem.call f vs):=by
 intro w s₀ s₁ mg mb G Y fa o pm cd doc dV kV ho hd hcd hD hmg hg args vals as hpre hlay hrd hwl hlo
 obtain rfl:dV=.none:=Dflts.none hD hdf
 obtain rfl:kV=.none:=Dflts.noKw hD
 obtain ⟨a,vs,ns,rfl,rfl,hobj,hints,hlen⟩:=uy hn hpre hwl
 refine enter_call (codeAny_mono (call w s₀ s₁ mg mb fa o pm cd doc a vs ns G Y ho (fd_plain hd) hcd hmg hobj hints hlen hg) fun r s' hq=>?_)
 obtain ⟨rfl,h2,h3,h4⟩:=hq
 exact ⟨.inl ⟨.bool true,.bool true,[],rfl,fun _=>rfl,.bool true,uK l _,fun _=>⟨List.Pairwise.nil,fun _ hm=>(nomatch hm)⟩⟩,h2,h3,h4⟩
end Att
namespace L2
open PySem PySem.Spec PyProof.Rows
theorem mY:∀ {vs:Wx} {ns:Wp},IntsAre vs ns->aO (ns.map V.int) vs
 | _,_,.nil=>.nil
 | _,_,.cons n t h=>.cons ⟨t,rfl⟩ (mY h)
noncomputable def xG (H:Hp):Prop:=∀ b,H b=none\/∃ o xs,H b=some (.frz o (.lst xs))
theorem xi {P:Program} {w:World} {K:Y2} {mg mb:Xu} {CX:CXT} {k:Nat} {fa a:Addr} {fd:FuncData} {x:Str} {sp:Sp} {s₁:Shared} {vs:Wx} {ns:Wp}
  (KX:K.In s₁.heap) (hns:s₁.heap.Ns mainGlobals mg) (hb:s₁.heap.Ns builtinsNs mb) (hbb:∀ x:Str,x ≠ "__name__" → mb x=bootBuiltins x) (hlim:s₁.heap.NoLimit) (hg:s₁.gens=#[])
  (ha:s₁.heap.get? a=some { cls:=.type "list",data:=.seq vs.toArray }) (hi:IntsAre vs ns) (hl:ns.length<=sizeLine) (hr:Room k callerA)
  (F:∀ base:Heap,K.In base->base.Ns mainGlobals mg->FnOk P w K mg base CX k fa fd [x] sp) (hbind:∀ (s:Shared) (u:Value),BindsTo s fd ⟨[u],[]⟩ [(x,u)])
  (hsp:∀ H:Hp,xG H->SqL K H a (ns.map V.int)->sp [.ref a] H (fun v _=>v=.bl true) fun _ _ _=>False)
  (hCX:∀ H e s',CX [] H s₁ (fun _ _ _=>False) e s'->False) :
  codeAny (model P w) callerA (.call (.ref fa) ⟨[.ref a],[]⟩) (fun r s'=>r=.ok (.ret (.bool true))/\OldK s₁.heap s'.heap/\s'.os=s₁.os/\AllBare s'.gens) s₁:=by
 have rv:=mY hi
 have lenV:=hi.length
 have core:∀ H:Hp,xG H->SqL K H a (ns.map V.int)->HOk P w H s₁.heap->(∀ b,H b ≠ none->b=a)->(H a ≠ none->K.lookup a=none) →
   codeAny (model P w) callerA (.call (.ref fa) ⟨[.ref a],[]⟩) (fun r s'=>r=.ok (.ret (.bool true))/\OldK s₁.heap s'.heap/\s'.os=s₁.os/\AllBare s'.gens) s₁:=by
  intro H hO hS hok hA hK
  have base_of:∀ {b:Addr} {o:Obj},s₁.heap.get? b=some o->H b=none->(nQ s₁.heap H).get? b=some o:=fun e n=>wI e n
  have noA:∀ {b:Addr} {o:Obj} {es:Array DictEntry} {ep:Nat},s₁.heap.get? b=some o->o.data=.dict es ep->H b=none:=fun {b o es ep} e d=>by
   cases q:H b with
   | none=>rfl
   | some u =>
    have e':b=a:=hA b (by rw [q];simp)
    subst e'
    rw [ha] at e;cases e
    have d':Data.seq vs.toArray _=Data.dict es ep:=d
    cases d'
  have nsK:∀ {b:Addr} {m:Xu},s₁.heap.Ns b m->(nQ s₁.heap H).Ns b m:=fun {b m} ⟨o,es,ep,e,d,r⟩=>⟨o,es,ep,base_of e (noA e d),d,r⟩
  have hKb:K.In (nQ s₁.heap H):=fun b o e=>base_of (KX b o e) (by
   cases q:H b with
   | none=>rfl
   | some u =>
    have e':b=a:=hA b (by rw [q];simp)
    subst e'
    rw [hK (by rw [q];simp)] at e;cases e)
  have hM:Mod K mg (nQ s₁.heap H):=⟨hKb,nsK hns,⟨mb,nsK hb,hbb⟩,let ⟨mc,h1,h2⟩:=hlim;⟨mc,nsK h1,h2⟩⟩
  have e0:Env0 P w K mg (nQ s₁.heap H) callerA [] s₁ H:=⟨rfl,hM,fun b o e=>yB e,X6 (uj _ _),trivial,fun b hb=>absurd (show b∈([]:X0) from hb) (by simp),hok,.of_eq hg⟩
  refine codeAny_mono ((F _ hKb (nsK hns)).run callerA [] s₁ H ⟨[.ref a],[]⟩ [.ref a] [.ref a] _ _ hr e0 (hbind s₁ (.ref a)) (.cons rfl .nil) (hsp H hO hS)) fun r s' h=>?_
  cases r with
  | error e=>exact (hCX H e s' h).elim
  | ok fl =>
   cases fl with
   | next=>exact False.elim h
   | brk=>exact False.elim h
   | cont=>exact False.elim h
   | ret u =>
    obtain ⟨v,H',os,bare,un,hok',r',q⟩:=h
    have q':v=.bl true:=q
    subst q'
    obtain rfl:u=Value.bool true:=r'
    refine ⟨rfl,OldK.of_keep fun b o e=>?_,os,bare⟩
    cases q:H b with
    | none=>exact un.keep b o e q (by intro z;exact absurd (show b∈([]:X0) from z) (by simp)) (by simp)
    | some u =>
     rcases hO b with z | ⟨ob,xs,z⟩
     ·rw [q] at z;cases z
     ·have z2:=un.frzs b ob _ z
      obtain ⟨e1,_⟩:=hok b _ z
      obtain ⟨e2,_⟩:=hok' b _ z2
      rw [e] at e1;cases e1
      exact e2
 cases hk:K.lookup a with
 | some o =>
  have e:=KX a o hk
  rw [ha] at e
  cases e
  refine core (fun _=>none) (fun _=>.inl rfl) (.inr ⟨_,vs.toArray,_,hk,rfl,rfl,rfl,by rw [ZY,lenV];exact hl,by simpa using rv⟩) (fun b u z=>by have z':(none:Option HO)=some u:=z;cases z') (fun b z=>absurd rfl z) fun z=>absurd rfl z
 | none =>
  refine core (fun b=>if b=a then some (.frz { cls:=.type "list",data:=.seq vs.toArray } (.lst (ns.map V.int))) else none) (fun b=>?_) (.inl (.inr ⟨{ cls:=.type "list",data:=.seq vs.toArray },Zq rfl⟩)) (fun b u z=>?_) (fun b z=>?_) fun _=>hk
  ·by_cases hb:b=a
   ·exact .inr ⟨_,_,Zq hb⟩
   ·exact .inl (Zm hb)
  ·by_cases hb:b=a
   ·have z':=(Zq hb).symm.trans z
    cases z'
    subst hb
    exact ⟨ha,by rw [Zv];exact hl,vs,_,rv,ha⟩
   ·have z':=(Zm hb).symm.trans z
    cases z'
  ·by_cases hb:b=a
   ·exact hb
   ·exact absurd (Zm hb) z
theorem yJ {l:PySem.W.OpenLaw} {n k:Nat} {q:Program} {loose:List Str} {XP:(Xu)->Heap->Prop} {YP:World->Heap->Prop} {d:DefRec} {K:Params->Y2} {CX:World->CXT} {sp:World->Sp} {x:Str}
  (hn:l.most=some n) (hn2:n<=sizeLine) (hdf:d.params.defaults=[]) (hr:Room k callerA)
  (hY:∀ (w:World) (h:Heap),YP w h->(K w.params).In h)
  (F:∀ (w:World) (mg:Xu) (fa:Addr) (h:Heap),(K w.params).In h->h.Ns mainGlobals mg->mg d.name=some (.ref fa) →
   ∃ fd:FuncData,(∀ (s:Shared) (u:Value),BindsTo s fd ⟨[u],[]⟩ [(x,u)]) ∧
    ∀ base:Heap,(K w.params).In base->base.Ns mainGlobals mg->FnOk l.prog w (K w.params) mg base (CX w) k fa fd [x] (sp w))
  (hsp:∀ (w:World) (H:Hp) (a:Addr) (ns:Wp),ns.length<=n->xG H->SqL (K w.params) H a (ns.map V.int)->sp w [.ref a] H (fun v _=>v=.bl true) fun _ _ _=>False)
  (hCX:∀ (w:World) (H:Hp) (s:Shared) (e:Value) (s':Shared),CX w [] H s (fun _ _ _=>False) e s'->False) :
  PySem.W.WalkO q loose XP YP l.row.toRowW d [] (fun f vs=>PySem.call f vs):=by
 refine Att.oT hn hdf fun w s₀ s₁ mg mb fa o pm cd doc a vs ns G Y ho hd hcd hmg hobj hints hlen hg=>?_
 have KX:=hY w _ Y
 obtain ⟨fd,hb,hF⟩:=F w mg fa _ KX G.T.g hmg
 exact xi KX G.T.g G.T.b G.T.builtins G.T.nolimit hg hobj hints (ZG hlen hn2) hr hF hb (fun H hO hS=>hsp w H a ns hlen hO hS) fun H e s'=>hCX w H s₁ e s'
noncomputable def inClass (s:Stmt) (j:Nat):Stmt:=match s with
 | .ClassDef _ _ _ body _ _ _ _ _ _ _=>body.getD j (.Pass ⟨0,0,0,0⟩)
 | _=>.Pass ⟨0,0,0,0⟩
noncomputable def dM (s:Stmt):Arguments:=match s with
 | .FunctionDef _ a _ _ _ _ _ _ _ _=>a
 | _=>{ posonlyargs:=[],args:=[],vararg:=none,kwonlyargs:=[],kw_defaults:=[],kwarg:=none,defaults:=[] }
noncomputable def aW (s:Stmt):List Stmt:=match s with
 | .FunctionDef _ _ b _ _ _ _ _ _ _=>b
 | _=>[]
noncomputable def ai (s:Stmt):Scope:=match s with
 | .FunctionDef _ _ _ _ _ _ sc _ _ _=>sc
 | _=>{ kind:=.function,names:=[],isGenerator:=false,isCoroutine:=false }
noncomputable abbrev CX0:CXT:=fun _ _ _ _ _ _=>False
noncomputable abbrev E0:XK:=fun _ _ _=>False
theorem m8 {X:Cx}:jh CX0 X E0:=fun _ _ _ _ _ _ _ h=>h.elim
structure Fun (K:Y2) (x qual:Str) (st:Stmt) (f:Addr) (fd:FuncData):Prop where
 ex:∃ (oc:Value) (od:Option Addr) (kV doc pm:Value) (an:Option Addr) (cdv ct:Value) (osl:Array (Ww)),
  fd=PySem.W.fnOf x qual (dM st) (aW st) (ai st) .none kV doc pm an cdv ct/\K.lookup f=some ⟨oc,od,.func fd,osl⟩/\PySem.W.codeIn K cdv qual=true
 kp:PySem.W.keepIn K (.ref f)=true
section
variable {P:Program} {w:World} {K:Y2} {mg:Xu} {base:Heap}
theorem Fun.ok {x qual:Str} {st:Stmt} {f:Addr} {fd:FuncData} {N ps:List Str} {k:Nat} {sp:Sp} (F:Fun K x qual st f fd) (S:FnScope N ps (ai st)) (len:∀ vs H Q E,sp vs H Q E->vs.length=ps.length)
  (hbody:∀ (cdv:Value) (A:Around) (outer:List Env) (s:Shared) (H:Hp) (vs:List V) (Q:VK) (E:XK),Room k (A.deeper (envOfC qual (ai st) s.heap.objs.size f cdv))->sp vs H Q E →
   ∃ t,PSs (iI CX0 P w K mg base N qual (ai st) f cdv A outer s H E).nox (aW st) t/\t { nx:=fun _ H'=>Q .non H',rt:=Q } (start N vs) H):FnOk P w K mg base CX0 (k+1) f fd ps sp:=by
 obtain ⟨oc,od,kV,doc,pm,an,cdv,ct,osl,rfl,lk,hcd⟩:=F.ex
 refine C1 lk hcd S len fun A outer s H vs Q E hr hsp=>?_
 obtain ⟨t,h,q⟩:=hbody cdv A outer s H vs Q E hr hsp
 exact ⟨t,h.nox,q⟩
theorem Fun.binds {x qual:Str} {st:Stmt} {f:Addr} {fd:FuncData} {ps:List Str} (F:Fun K x qual st f fd)
  (h:∀ (kV doc pm:Value) (an:Option Addr) (cdv ct:Value) (us:Wx),us.length=ps.length->bindArgs (PySem.W.fnOf x qual (dM st) (aW st) (ai st) .none kV doc pm an cdv ct) ⟨us,[]⟩=pure (ps.zip us)):Binds K fd ps []:=by
 obtain ⟨oc,od,kV,doc,pm,an,cdv,ct,osl,rfl,lk,hcd⟩:=F.ex
 exact .all (h kV doc pm an cdv ct)
theorem cf {x qual:Str} {st:Stmt} {f:Addr} {oc:Value} {od an:Option Addr} {osl:Array (Ww)} {kV doc pm cdv ct:Value} (l:K.lookup f=some ⟨oc,od,.func (PySem.W.fnOf x qual (dM st) (aW st) (ai st) .none kV doc pm an cdv ct),osl⟩)
  (c:PySem.W.codeIn K cdv qual=true) (k:PySem.W.keepIn K (.ref f)=true):Fun K x qual st f (PySem.W.fnOf x qual (dM st) (aW st) (ai st) .none kV doc pm an cdv ct):=⟨⟨oc,od,kV,doc,pm,an,cdv,ct,osl,rfl,l,c⟩,k⟩
end
theorem iK {A:Around} {k:Nat} (hr:Room k A):A.units+1 < cLine:=Nat.lt_of_le_of_lt (Nat.add_le_add_left (by decide:1<=64) _) hr.units
theorem vS {A B:Prop} (h:B):if false=true then A else B:=by
 rw [Zm Zd]
 exact h
theorem vm {A B:Prop} (h:A):if true=true then A else B:=by
 rw [Zq rfl]
 exact h
noncomputable def aD (H H':Hp):Prop:=∀ b o,H b=some o->H' b=some o
theorem aD.refl (H:Hp):aD H H:=fun _ _ h=>h
theorem aD.trans {H H1 H2:Hp} (a:aD H H1) (b:aD H1 H2):aD H H2:=fun c o h=>b c o (a c o h)
theorem aD.free {H H':Hp} (e:aD H H') {l:Addr} (h:H' l=Option.none):H l=Option.none:=by
 cases q:H l with
 | none=>rfl
 | some o =>
  rw [e l o q] at h
  cases h
end L2
end
section
namespace L2
open PySem PySem.Spec PyProof.Rows
noncomputable abbrev l8:=List (Wp)
noncomputable def hN (k:l8):Int:=reduceHash (Builtin.Tuple.tupleHashOf (k.map fun x=>reduceHash (Builtin.Tuple.tupleHashOf (x.map hashInt))))
noncomputable def Du (x:l8×Addr×Value):DictEntry:=⟨hN x.1,.ref x.2.1,x.2.2⟩
noncomputable abbrev KN:List (l8×Addr×V)->List (l8×Addr×Value)->Prop:=Paired fun p q=>p.1=q.1/\p.2.1=q.2.1/\RelV p.2.2 q.2.2
noncomputable def DN (a:Addr) (kvs:List (l8×Addr×V)):HO:=.ext fun h=>kvs.length<=sizeLine/\(a == sysModules)=false/\∃ xs:List (l8×Addr×Value),KN kvs xs ∧
 ∃ o es ep,h.get? a=some o/\o.ExactDict/\o.data=.dict es ep/\es.toList=xs.map Du/\(xs.map (·.1)).Nodup
noncomputable def NAt (H:Hp) (k:l8) (b:Addr):Prop:=∃ cs:X0,H b=some (.tup (cs.map V.ref))/\Paired (fun (x:Wp) (c:Addr)=>H c=some (.tup (x.map V.int))) k cs
theorem NAt.mono {H H':Hp} {k:l8} {b:Addr} (x:NAt H k b) (t:∀ a xs,H a=some (.tup xs)->H' a=some (.tup xs)):NAt H' k b:=by
 obtain ⟨cs,h,r⟩:=x
 exact ⟨cs,t _ _ h,Paired.mapP r fun _ _ z=>t _ _ z⟩
end L2
end
section
namespace VS
open PySem PySem.Spec PyProof.Rows L2
noncomputable def sx (s:Tx):Str:=⟨s.toArray⟩
noncomputable def l5 (s:Tx):Prop:=s.length<=dD/\∀ c∈s,c < 1114112
noncomputable abbrev Me:=Nat->Option V
structure Gx where
 K:Y2
 ct:Nat->Addr×(Nat->Str)
 me:Me:=fun _=>none
noncomputable def Gx.at (G:Gx) (m:Me):Gx:=⟨G.K,G.ct,m⟩
noncomputable def aA:Key->T
 | .inl i=>.int i
 | .inr x=>.str x.cps.toList
noncomputable def nkT (k:l8):T:=.tup (k.map fun x=>T.tup (x.map T.int))
noncomputable def kg (K:Y2) (H:Hp) (a:Addr) (ns:Wp):Prop :=
 (∃ o,H a=some (.frz o (.lst (ns.map V.int)))) ∨
  ∃ (o:Obj) (its:Array Value) (n:Nat),K.lookup a=some o/\o.cls=.type "list" ∧ o.dict=none/\o.data=.seq its n/\its.size<=sizeLine/\aO (ns.map V.int) its.toList
mutual
inductive Rp (G:Gx) (H:Hp):V->T->X0->Prop
 | non:Rp G H .non .non []
 | bl (b:Bool):Rp G H (.bl b) (.bl b) []
 | int (i:Int):Rp G H (.int i) (.int i) []
 | str (s:Tx):l5 s->Rp G H (.str (sx s)) (.str s) []
 | scr {a:Addr} {ns:Wp}:kg G.K H a ns->Rp G H (.ref a) (.scr ns) []
 | tup {a:Addr} {vs:List V} {ts:Wi} {Fs:Y1}:H a=some (.tup vs)->RpL G H vs ts Fs->Rp G H (.ref a) (.tup ts) Fs.flatten
 | lst {a:Addr} {vs:List V} {ts:Wi} {Fs:Y1}:H a=some (.lst vs)->RpL G H vs ts Fs->Rp G H (.ref a) (.lst ts) (a :: Fs.flatten)
 | dct {a:Addr} {ks:List Key} {vs:List V} {ts:Wi} {Fs:Y1}:H a=some (.dK (ks.zip vs))->ks.length=vs.length->RpL G H vs ts Fs->Rp G H (.ref a) (.dct 0 ((ks.map aA).zip ts)) (a :: Fs.flatten)
 | dctT {a:Addr} {ks:List (List Key)} {vs:List V} {ts:Wi} {Fs:Y1}:H a=some (.dT (ks.zip vs))->ks.length=vs.length->RpL G H vs ts Fs->Rp G H (.ref a) (.dct 1 ((ks.map fun k=>T.tup (k.map aA)).zip ts)) (a :: Fs.flatten)
 | dctN {a:Addr} {ks:List (l8×Addr)} {vs:List V} {ts:Wi} {Fs:Y1}:H a=some (DN a ((ks.zip vs).map fun p=>(p.1.1,p.1.2,p.2)))->ks.length=vs.length->(∀ p∈ks,NAt H p.1 p.2)->RpL G H vs ts Fs->Rp G H (.ref a) (.dct 2 ((ks.map fun p=>nkT p.1).zip ts)) (a :: Fs.flatten)
 | dctZ {a:Addr} {o:Obj} {ks:List Key} {vs:List V} {ts:Wi} {Fs:Y1}:H a=some (.frz o (.dK (ks.zip vs)))->ks.length=vs.length->RpL G H vs ts Fs->Rp G H (.ref a) (.dct 3 ((ks.map aA).zip ts)) Fs.flatten
 | exc {c:Nat} {a:Addr} {o:Obj}:H a=some (.frz o (.own a))->(o.cls=.ref (G.ct c).1/\o.dict=none/\∃ vs,o.data=.fields vs)->Rp G H (.ref a) (.obj c []) []
 | ins {c:Nat} {a dx:Addr} {b:Bool} {ks:Wq} {vs:List V} {ts:Wi} {Fs:Y1}:H a=some (.ins (G.ct (c+1)).1 dx ((ks.map (G.ct (c+1)).2).zip vs))->ks.length=vs.length->(b=true->G.me 0=some (.ref a))->RpL G H vs ts Fs->Rp G H (.ref a) (.obj (c+1) ((0,.bl b) :: ks.zip ts)) (a :: Fs.flatten)
 | mk {m:Nat} {a:Addr} {t:T} {F:X0}:G.me m=some (.ref a)->Rp G H (.ref a) t F->Rp G H (.ref a) (.obj 0 [(0,.bl true),(m,t)]) F
inductive RpL (G:Gx) (H:Hp):List V->Wi->Y1->Prop
 | nil:RpL G H [] [] []
 | cons {v:V} {t:T} {F:X0} {vs:List V} {ts:Wi} {Fs:Y1}:Rp G H v t F->RpL G H vs ts Fs->RpL G H (v :: vs) (t :: ts) (F :: Fs)
end
structure Kept (H H':Hp):Prop where
 tup:∀ a xs,H a=some (.tup xs)->H' a=some (.tup xs)
 frz:∀ a o u,H a=some (.frz o u)->H' a=some (.frz o u)
theorem Kept.refl (H:Hp):Kept H H:=⟨fun _ _ h=>h,fun _ _ _ h=>h⟩
theorem Kept.trans {H H1 H2:Hp} (a:Kept H H1) (b:Kept H1 H2):Kept H H2:=⟨fun c x h=>b.tup c x (a.tup c x h),fun c o u h=>b.frz c o u (a.frz c o u h)⟩
theorem Kept.of {H H':Hp} (e:aD H H'):Kept H H':=⟨fun a _ h=>e a _ h,fun a _ _ h=>e a _ h⟩
theorem Kept.upd {H:Hp} {a:Addr} {o:HO} (mu:Mut (H a)\/H a=none):Kept H (upd H a o):=by
 have ne:∀ b u,H b=some u->¬ Mut (some u)->b ≠ a:=fun b u h nm e=>by
  subst e
  rcases mu with m | m
  ·rw [h] at m;exact nm m
  ·rw [h] at m;cases m
 exact ⟨fun b xs h=>by rw [ax (ne b _ h fun z=>z)];exact h,fun b o u h=>by rw [ax (ne b _ h fun z=>z)];exact h⟩
theorem kg.kept {K:Y2} {H H':Hp} {a:Addr} {ns:Wp} (h:kg K H a ns) (k:Kept H H'):kg K H' a ns:=by
 rcases h with ⟨o,e⟩ | h
 ·exact .inl ⟨o,k.frz _ _ _ e⟩
 ·exact .inr h
theorem kg.seq {K:Y2} {H:Hp} {a:Addr} {ns:Wp} (h:kg K H a ns):SqL K H a (ns.map V.int):=by
 rcases h with ⟨o,e⟩ | h
 ·exact .inl (.inr ⟨o,e⟩)
 ·exact .inr h
theorem oX {H H':Hp} {a:Addr} {F:X0} (f:∀ b∈a :: F,∀ o,H b=some o->H' b=some o):∀ b∈F,∀ o,H b=some o->H' b=some o:=fun b m=>f b (Zy _ m)
theorem sZ {H H':Hp} {F:X0} {Fs:Y1} (f:∀ b∈(F :: Fs).flatten,∀ o,H b=some o->H' b=some o):(∀ b∈F,∀ o,H b=some o->H' b=some o)/\∀ b∈Fs.flatten,∀ o,H b=some o->H' b=some o:=by
 rw [ZV] at f
 exact ⟨fun b m=>f b (Yw _ m),fun b m=>f b (ZW _ m)⟩
theorem Rp.keep {G:Gx} {H H':Hp} (k:Kept H H') {v:V} {t:T} {F:X0} (r:Rp G H v t F):(∀ a∈F,∀ o,H a=some o->H' a=some o)->Rp G H' v t F :=
 Rp.rec (motive_1:=fun v t F _=>(∀ a∈F,∀ o,H a=some o->H' a=some o)->Rp G H' v t F) (motive_2:=fun vs ts Fs _=>(∀ a∈Fs.flatten,∀ o,H a=some o->H' a=some o)->RpL G H' vs ts Fs)
  (fun _=>.non) (fun b _=>.bl b) (fun i _=>.int i) (fun s h _=>.str s h) (fun h _=>.scr (h.kept k)) (fun h _ ih f=>.tup (k.tup _ _ h) (ih f)) (fun h _ ih f=>.lst (f _ Zx _ h) (ih (oX f))) (fun h l _ ih f=>.dct (f _ Zx _ h) l (ih (oX f))) (fun h l _ ih f=>.dctT (f _ Zx _ h) l (ih (oX f)))
  (fun h l n _ ih f=>.dctN (f _ Zx _ h) l (fun p m=>(n p m).mono k.tup) (ih (oX f))) (fun h l _ ih f=>.dctZ (k.frz _ _ _ h) l (ih f)) (fun h hc _=>.exc (k.frz _ _ _ h) hc) (fun h l m _ ih f=>.ins (f _ Zx _ h) l m (ih (oX f))) (fun h _ ih f=>.mk h (ih f)) (fun _=>.nil) (fun _ _ i1 i2 f=>.cons (i1 (sZ f).1) (i2 (sZ f).2)) r
theorem RpL.keep {G:Gx} {H H':Hp} (k:Kept H H'):∀ {vs:List V} {ts:Wi} {Fs:Y1},RpL G H vs ts Fs->(∀ a∈Fs.flatten,∀ o,H a=some o->H' a=some o)->RpL G H' vs ts Fs
 | _,_,_,.nil,_=>.nil
 | _,_,_,.cons r q,f=>.cons (r.keep k (sZ f).1) (RpL.keep k q (sZ f).2)
theorem Rp.same {G:Gx} {H H':Hp} (e:aD H H') {v:V} {t:T} {F:X0} (r:Rp G H v t F):Rp G H' v t F:=r.keep (Kept.of e) fun a _ o h=>e a o h
theorem RpL.same {G:Gx} {H H':Hp} (e:aD H H') {v:List V} {t:Wi} {F:Y1} (r:RpL G H v t F):RpL G H' v t F:=r.keep (Kept.of e) fun a _ o h=>e a o h
theorem xN {H:Hp} {a:Addr} {F:X0} (h:Mut (H a)) (ih:∀ b∈F,Mut (H b)):∀ b∈a :: F,Mut (H b):=fun b m=>(Zo.mp m).elim (fun e=>e ▸ h) (ih b)
theorem xD {H:Hp} {a:Addr} {o:HO} (h:H a=some o) (m:Mut (some o)):Mut (H a):=by rw [h];exact m
theorem C7 {H:Hp} {F:X0} {Fs:Y1} (h1:∀ b∈F,Mut (H b)) (h2:∀ b∈Fs.flatten,Mut (H b)):∀ b∈(F :: Fs).flatten,Mut (H b):=fun b m=>by
 rw [ZV] at m
 exact (Ze.mp m).elim (h1 b) (h2 b)
theorem Rp.dom {G:Gx} {H:Hp} {v:V} {t:T} {F:X0} (r:Rp G H v t F):∀ a∈F,Mut (H a) :=
 Rp.rec (motive_1:=fun v t F _=>∀ a∈F,Mut (H a)) (motive_2:=fun vs ts Fs _=>∀ a∈Fs.flatten,Mut (H a))
  (fun _ m=>nomatch m) (fun _ _ m=>nomatch m) (fun _ _ m=>nomatch m) (fun _ _ _ m=>nomatch m) (fun _ _ m=>nomatch m) (fun _ _ ih=>ih) (fun h _ ih=>xN (xD h True.intro) ih) (fun h _ _ ih=>xN (xD h True.intro) ih) (fun h _ _ ih=>xN (xD h True.intro) ih)
  (fun h _ _ _ ih=>xN (xD h True.intro) ih) (fun _ _ _ ih=>ih) (fun _ _ _ m=>nomatch m) (fun h _ _ _ ih=>xN (xD h True.intro) ih) (fun _ _ ih=>ih) (fun _ m=>nomatch m) (fun _ _ i1 i2=>C7 i1 i2) r
theorem RpL.dom {G:Gx} {H:Hp}:∀ {vs:List V} {ts:Wi} {Fs:Y1},RpL G H vs ts Fs->∀ a∈Fs.flatten,Mut (H a)
 | _,_,_,.nil=>fun _ m=>nomatch m
 | _,_,_,.cons r q=>C7 r.dom (RpL.dom q)
theorem Mut.ne_none {o:Option HO} (m:Mut o):o ≠ none:=fun e=>by subst e;exact m
theorem CV {F:X0} {Fs:Y1} {t:T} {ts:Wi} (h1:VS.imm t=true->F=[]) (h2:VS.dv ts=true->Fs.flatten=[]) (i:VS.dv (t :: ts)=true):(F :: Fs).flatten=[]:=by
 simp only [VS.dv,Zb] at i
 rw [ZV,h1 i.1,h2 i.2]
 rfl
theorem Rp.imm {G:Gx} {H:Hp} {v:V} {t:T} {F:X0} (r:Rp G H v t F):VS.imm t=true->F=[] :=
 Rp.rec (motive_1:=fun v t F _=>VS.imm t=true->F=[]) (motive_2:=fun vs ts Fs _=>VS.dv ts=true->Fs.flatten=[])
  (fun _=>rfl) (fun _ _=>rfl) (fun _ _=>rfl) (fun _ _ _=>rfl) (fun _ _=>rfl) (fun _ _ ih i=>ih (by simpa [VS.imm] using i)) (fun _ _ _ i=>absurd (show false=true from i) Zd) (fun _ _ _ _ i=>absurd (show false=true from i) Zd) (fun _ _ _ _ i=>absurd (show false=true from i) Zd)
  (fun _ _ _ _ _ i=>absurd (show false=true from i) Zd) (fun _ _ _ _ i=>absurd (show false=true from i) Zd) (fun _ _ _=>rfl) (fun _ _ _ _ _ i=>absurd (show false=true from i) Zd) (fun _ _ _ i=>absurd (show false=true from i) Zd) (fun _=>rfl) (fun _ _ i1 i2 i=>CV i1 i2 i) r
theorem RpL.imm {G:Gx} {H:Hp}:∀ {vs:List V} {ts:Wi} {Fs:Y1},RpL G H vs ts Fs->VS.dv ts=true->Fs.flatten=[]
 | _,_,_,.nil,_=>rfl
 | _,_,_,.cons r q,i=>CV r.imm (RpL.imm q) i
theorem RpL.len {G:Gx} {H:Hp}:∀ {vs:List V} {ts:Wi} {Fs:Y1},RpL G H vs ts Fs->vs.length=ts.length/\Fs.length=ts.length
 | _,_,_,.nil=>⟨rfl,rfl⟩
 | _,_,_,.cons _ q=>by
  have:=RpL.len q
  simp only [Zn]
  lia
theorem RpL.get {G:Gx} {H:Hp}:∀ {vs:List V} {ts:Wi} {Fs:Y1} (i:Nat) {t:T},RpL G H vs ts Fs->ts[i]?=some t->∃ v F,vs[i]?=some v/\Fs[i]?=some F/\Rp G H v t F
 | _,_,_,_,_,.nil,e=>by simp at e
 | _,_,_,0,_,.cons r _,e=>by
  simp at e
  subst e
  exact ⟨_,_,rfl,rfl,r⟩
 | _,_,_,i+1,_,.cons _ q,e=>by
  obtain ⟨v,F,h1,h2,h3⟩:=RpL.get i q (by simpa using e)
  exact ⟨v,F,by simpa using h1,by simpa using h2,h3⟩
theorem RpL.append {G:Gx} {H:Hp}:∀ {vs:List V} {ts:Wi} {Fs:Y1} {us:List V} {rs:Wi} {Gs:Y1},RpL G H vs ts Fs->RpL G H us rs Gs->RpL G H (vs++us) (ts++rs) (Fs++Gs)
 | _,_,_,_,_,_,.nil,s=>s
 | _,_,_,_,_,_,.cons r q,s=>.cons r (RpL.append q s)
theorem RpL.take {G:Gx} {H:Hp}:∀ {vs:List V} {ts:Wi} {Fs:Y1} (n:Nat),RpL G H vs ts Fs->RpL G H (vs.take n) (ts.take n) (Fs.take n)
 | _,_,_,0,_=>by simpa using RpL.nil
 | _,_,_,n+1,.nil=>.nil
 | _,_,_,n+1,.cons r q=>.cons r (RpL.take n q)
theorem RpL.drop {G:Gx} {H:Hp}:∀ {vs:List V} {ts:Wi} {Fs:Y1} (n:Nat),RpL G H vs ts Fs->RpL G H (vs.drop n) (ts.drop n) (Fs.drop n)
 | _,_,_,0,q=>q
 | _,_,_,n+1,.nil=>.nil
 | _,_,_,n+1,.cons r q=>RpL.drop n q
noncomputable def gR:Cell->T
 | .pu t=>t
 | .ow t=>t
noncomputable abbrev Fps:=Nat->X0
structure SR (G:Gx) (Φ:Fps) (η:VS.Env) (σ:L2.St) (H:Hp):Prop where
 len:η.length=σ.length
 rp:∀ i c,η[i]?=some (some c)->∃ v,σ[i]?=some (some v)/\Rp G H v (gR c) (Φ i)
 nd:∀ i t,η[i]?=some (some (.ow t))->(Φ i).Nodup
 sep:∀ i j t c,η[i]?=some (some (.ow t))->η[j]?=some (some c)->i ≠ j->∀ a∈Φ i,a ∉ Φ j
noncomputable def cB (Φ:Fps) (η:VS.Env) (a:Addr):Prop:=∃ j t,η[j]?=some (some (.pu t))/\a∈Φ j
noncomputable def bc (Φ:Fps) (η:VS.Env) (a:Addr):Prop:=∃ j t,η[j]?=some (some (.ow t))/\a∈Φ j
noncomputable def Fp (Φ:Fps) (η:VS.Env) (H:Hp):Md->X0->Prop
 | .fr,F=>F.Nodup/\∀ a∈F,H a=none
 | .pu,F=>∀ a∈F,H a=none\/cB Φ η a
 | .bo,F=>∀ a∈F,H a=none\/cB Φ η a\/bc Φ η a
theorem SR.same {G:Gx} {Φ:Fps} {η:VS.Env} {σ:L2.St} {H H':Hp} (s:SR G Φ η σ H) (e:aD H H'):SR G Φ η σ H' :=
 ⟨s.len,fun i c h=>let ⟨v,h1,h2⟩:=s.rp i c h;⟨v,h1,h2.same e⟩,s.nd,s.sep⟩
theorem SR.pu_dom {G:Gx} {Φ:Fps} {η:VS.Env} {σ:L2.St} {H:Hp} {a:Addr} (s:SR G Φ η σ H) (h:cB Φ η a):Mut (H a):=by
 obtain ⟨j,t,h1,h2⟩:=h
 obtain ⟨v,_,r⟩:=s.rp j _ h1
 exact r.dom a h2
theorem SR.ow_dom {G:Gx} {Φ:Fps} {η:VS.Env} {σ:L2.St} {H:Hp} {a:Addr} (s:SR G Φ η σ H) (h:bc Φ η a):Mut (H a):=by
 obtain ⟨j,t,h1,h2⟩:=h
 obtain ⟨v,_,r⟩:=s.rp j _ h1
 exact r.dom a h2
theorem Fp.nil {Φ:Fps} {η:VS.Env} {H:Hp} {m:Md}:Fp Φ η H m []:=by
 cases m
 ·exact ⟨Z1,fun a h=>by simp at h⟩
 ·exact fun a h=>by simp at h
 ·exact fun a h=>by simp at h
theorem Fp.bo {Φ:Fps} {η:VS.Env} {H:Hp} {F:X0}:∀ {m:Md},Fp Φ η H m F->Fp Φ η H .bo F
 | .fr,h=>fun a m=>.inl (h.2 a m)
 | .pu,h=>fun a m=>(h a m).elim .inl fun z=>.inr (.inl z)
 | .bo,h=>h
theorem Fp.pu {Φ:Fps} {η:VS.Env} {H:Hp} {F:X0}:∀ {m:Md},m ≠ .bo->Fp Φ η H m F->Fp Φ η H .pu F
 | .fr,_,h=>fun a m=>.inl (h.2 a m)
 | .pu,_,h=>h
 | .bo,n,_=>absurd rfl n
theorem Fp.back {Φ:Fps} {η:VS.Env} {H H':Hp} (e:aD H H') {F:X0}:∀ {m:Md},Fp Φ η H' m F->Fp Φ η H m F
 | .fr,h=>⟨h.1,fun a m=>e.free (h.2 a m)⟩
 | .pu,h=>fun a m=>(h a m).imp e.free id
 | .bo,h=>fun a m=>(h a m).imp e.free id
theorem Fp.up {G:Gx} {Φ:Fps} {η:VS.Env} {H H':Hp} {m:Md} {v:V} {t:T} {F:X0} (f:Fp Φ η H m F) (r:Rp G H' v t F):Fp Φ η H (VS.up m t).1 F:=by
 unfold VS.up
 by_cases h:VS.imm t=true
 ·rw [r.imm h]
  exact Fp.nil
 ·simp only [h,if_false,Y7]
  exact f
noncomputable def tE (G:Gx) (c:Ex):TE:=fun σ H Q=>∃ Φ η m r,SR G Φ η σ H/\c η=some (m,r)/\∀ v H' F,aD H H'->Rp G H' v r F->Fp Φ η H m F->Q v H'
noncomputable def PV (G:Gx) (X:Cx) (e:Expr) (c:Ex):Prop:=PE X e (tE G c)
theorem PE.weak {X:Cx} {e:Expr} {t t':TE} (h:PE X e t) (w:∀ σ H Q,t' σ H Q->t σ H Q):PE X e t':=fun pins s σ H Q I q=>h pins s σ H Q I (w σ H Q q)
theorem PT.weak {X:Cx} {e:Expr} {t t':TT} (h:PT X e t) (w:∀ σ H Q,t' σ H Q->t σ H Q):PT X e t':=fun pins s σ H Q I q=>h pins s σ H Q I (w σ H Q q)
theorem PA.weak {X:Cx} {e:List Expr} {t t':TA} (h:PA X e t) (w:∀ σ H Q,t' σ H Q->t σ H Q):PA X e t':=fun pos pins s σ H Q I q=>h pos pins s σ H Q I (w σ H Q q)
noncomputable def tT (G:Gx) (c:Ex):TT:=fun σ H Q=>∃ Φ η m r b,SR G Φ η σ H/\c η=some (m,r)/\tru r=some b/\∀ H',aD H H'->Q b H'
noncomputable def PVT (G:Gx) (X:Cx) (e:Expr) (c:Ex):Prop:=PT X e (tT G c)
noncomputable def frs (l:Wk) (Fs:Y1):X0:=match l,Fs with
 | v :: l,F :: Fs=>match v.1 with
  | .fr=>F++frs l Fs
  | _=>frs l Fs
 | _,_=>[]
structure FpL (Φ:Fps) (η:VS.Env) (H:Hp) (l:Wk) (Fs:Y1):Prop where
 each:∀ (i:Nat) v F,l[i]?=some v->Fs[i]?=some F->Fp Φ η H v.1 F
 nd:(frs l Fs).Nodup
noncomputable def tEs (G:Gx) (c:Exs):TA:=fun σ H Q=>∃ Φ η l,SR G Φ η σ H/\c η=some l/\∀ vs H' Fs,aD H H'->RpL G H' vs (trees l) Fs->FpL Φ η H l Fs->Q vs H'
noncomputable def PVs (G:Gx) (X:Cx) (es:List Expr) (c:Exs):Prop:=PA X es (tEs G c)
section
variable {G:Gx} {X:Cx} {a b c:Expr} {ca cb cc:Ex} {pos:Pos}
theorem ah {i j pos}:PV G X (.Constant (.int i) j pos) (Q2 i):=PE.weak nX fun σ H Q hq=>by
 obtain ⟨Φ,η,m,r,s,e,k⟩:=hq
 cases (show some (Md.fr,T.int i)=some (m,r) from e)
 exact k _ _ _ (aD.refl _) (.int i) Fp.nil
theorem qo {i j pos}:PV G X (.Constant (.bool i) j pos) (eC (.bl i)):=PE.weak Ca fun σ H Q hq=>by
 obtain ⟨Φ,η,m,r,s,e,k⟩:=hq
 cases (show some (Md.fr,T.bl i)=some (m,r) from e)
 exact k _ _ _ (aD.refl _) (.bl i) Fp.nil
theorem wY {j pos}:PV G X (.Constant .none j pos) (eC .non):=PE.weak AM fun σ H Q hq=>by
 obtain ⟨Φ,η,m,r,s,e,k⟩:=hq
 cases (show some (Md.fr,T.non)=some (m,r) from e)
 exact k _ _ _ (aD.refl _) .non Fp.nil
theorem gw {x:Str} {t:Tx} {j pos} (h:x=sx t:=by decide +kernel) (hl:l5 t:=by decide):PV G X (.Constant (.str x) j pos) (eC (.str t)):=PE.weak vO fun σ H Q hq=>by
 obtain ⟨Φ,η,m,r,s,e,k⟩:=hq
 cases (show some (Md.fr,T.str t)=some (m,r) from e)
 subst h
 exact k _ _ _ (aD.refl _) (.str t hl) Fp.nil
theorem cY (i:Nat) {x:Str} {pos:Pos} (hN:X.N[i]?=some x:=by rfl) (hv:Vis X.env.scope x:=by first | exact Or.inl rfl | exact Or.inr (Or.inl rfl) | exact Or.inr (Or.inr rfl)) (hd:(x == ("__debug__" : Str))=false:=by decide)
  (hcd:(x == ("__classdict__" : Str))=false:=by decide):PV G X (.Name x pos) (aa i):=PE.weak (dB hN hv hd hcd) fun σ H Q hq=>by
 obtain ⟨Φ,η,m,r,s,e,k⟩:=hq
 unfold aa at e
 split at e
 ·rename_i t h
  obtain ⟨v,h1,h2⟩:=s.rp _ _ h
  have e':VS.up .pu t=(m,r):=Zk e
  have er:t=r:=congrArg Prod.snd e'
  have em:(VS.up .pu t).1=m:=congrArg Prod.fst e'
  rw [← er,← em] at k
  refine ⟨v,h1,k v H (Φ i) (aD.refl _) h2 ?_⟩
  have f:Fp Φ η H .pu (Φ i):=fun a ha=>.inr ⟨i,_,h,ha⟩
  exact f.up h2
 ·rename_i t h
  obtain ⟨v,h1,h2⟩:=s.rp _ _ h
  cases e
  exact ⟨v,h1,k v H (Φ i) (aD.refl _) h2 fun a ha=>.inr (.inr ⟨i,_,h,ha⟩)⟩
 ·cases e
structure Two (G:Gx) (Φ:Fps) (η:VS.Env) (H0 H:Hp) (x y:Val) (u w:V) (F1 F2:X0):Prop where
 same:aD H0 H
 r1:Rp G H u x.2 F1
 r2:Rp G H w y.2 F2
 f1:Fp Φ η H0 x.1 F1
 f2:Fp Φ η H0 y.1 F2
 nd:x.1=.fr->y.1=.fr->(F1++F2).Nodup
noncomputable def fD (G:Gx) (r:R2) (f:Val->Val->Wj):Prop:=∀ (Φ:Fps) (η:VS.Env) (H0 H:Hp) (x y:Val) (u w:V) (F1 F2:X0) (m:Md) (t:T) (Q:VK),Two G Φ η H0 H x y u w F1 F2->f x y=some (m,t) →
 (∀ v H' F,aD H H'->Rp G H' v t F->Fp Φ η H0 m F->Q v H')->r u w H Q
theorem vB {σ:L2.St} {H:Hp} {Q:V->V->Hp->Prop} {Φ:Fps} {η:VS.Env} {x y:Val} (s:SR G Φ η σ H) (ea:ca η=some x) (eb:cb η=some y)
  (k:∀ u w H2 F1 F2,Two G Φ η H H2 x y u w F1 F2->Q u w H2):tE G ca σ H fun u H1=>tE G cb σ H1 fun w H2=>Q u w H2:=by
 refine ⟨Φ,η,x.1,x.2,s,ea,fun u H1 F1 e1 r1 f1=>⟨Φ,η,y.1,y.2,s.same e1,eb,fun w H2 F2 e2 r2 f2=>k u w H2 F1 F2 ⟨e1.trans e2,r1.same e2,r2,f1,f2.back e1,fun hx hy=>?_⟩⟩⟩
 rw [hx] at f1
 rw [hy] at f2
 refine ZX.mpr ⟨f1.1,f2.1,fun a ha b hb z=>?_⟩
 subst z
 exact Mut.ne_none (r1.dom a ha) (f2.2 a hb)
theorem lH {r:R2} {f:Val->Val->Wj} (ok:fD G r f) {σ:L2.St} {H:Hp} {Q:VK} (h:tE G (e2 f ca cb) σ H Q):tOp r (tE G ca) (tE G cb) σ H Q:=by
 obtain ⟨Φ,η,m,t,s,e,k⟩:=h
 unfold e2 at e
 obtain ⟨x,ea,e⟩:=Zz.mp e
 obtain ⟨y,eb,e⟩:=Zz.mp e
 exact vB s ea eb fun u w H2 F1 F2 tw=>ok Φ η H H2 x y u w F1 F2 m t Q tw e fun v H' F e1 r1 f1=>k v H' F (tw.same.trans e1) r1 f1
theorem kj {op:Operator} {r:R2} {f:Val->Val->Wj} (ho:OpR X (binaryOp op) r) (ok:fD G r f) (ha:PV G X a ca) (hb:PV G X b cb):PV G X (.BinOp a op b pos) (e2 f ca cb) :=
 PE.weak (zO ho ha hb) fun σ H Q h=>lH ok h
noncomputable def Tells (f:Val->Val->Wj):Prop:=∀ x y m t,f x y=some (m,t)->∃ b,t=.bl b
theorem Rp.bl_inv {H:Hp} {v:V} {b:Bool} {F:X0} (r:Rp G H v (.bl b) F):v=.bl b:=by cases r;rfl
theorem Rp.int_inv {H:Hp} {v:V} {b:Int} {F:X0} (r:Rp G H v (.int b) F):v=.int b:=by cases r;rfl
theorem Rp.str_inv {H:Hp} {v:V} {b:Tx} {F:X0} (r:Rp G H v (.str b) F):v=.str (sx b)/\l5 b:=by cases r with | str _ h=>exact ⟨rfl,h⟩
theorem qk {c:Ex} {t:TE} {σ:L2.St} {H:Hp} {Q:Bool->Hp->Prop} (h:tT G c σ H Q) (ht:∀ η m r,c η=some (m,r)->∃ b,r=.bl b) (w:∀ Q,tE G c σ H Q->t σ H Q):wW t σ H Q:=by
 obtain ⟨Φ,η,m,r,b,s,e,eb,k⟩:=h
 refine w _ ⟨Φ,η,m,r,s,e,fun v H' F e1 r1 f1=>?_⟩
 obtain ⟨b',er⟩:=ht η m r e
 rw [er] at eb r1
 cases (show some b'=some b from eb)
 exact ⟨_,r1.bl_inv,k H' e1⟩
theorem eX {op:CmpOp} {r:R2} {f:Val->Val->Wj} (ho:OpR X (compareOp op) r) (ok:fD G r f) (ht:Tells f) (ha:PV G X a ca) (hb:PV G X b cb) (hm:behindInMarks op b=false):PVT G X (.Compare a [op] [b] pos) (e2 f ca cb) :=
 PT.weak (tj ho ha hb hm) fun σ H Q h=>qk h (fun η m r e=>by
  unfold e2 at e
  obtain ⟨x,_,e⟩:=Zz.mp e
  obtain ⟨y,_,e⟩:=Zz.mp e
  exact ht x y m r e) fun Q h=>lH ok h
theorem bP {Φ:Fps} {η:VS.Env} {H0 H:Hp} {m:Md} {t:T} {v:V} {Q:VK} (k:∀ v H' F,aD H H'->Rp G H' v t F->Fp Φ η H0 m F->Q v H') (r:Rp G H v t []):Q v H:=k v H [] (aD.refl _) r Fp.nil
theorem bj {H:Hp} {p:Addr} {o:HO} (h:H p=none):aD H (upd H p o):=fun b o' e=>by rw [ax (bE e h)];exact e
theorem Fp.new {Φ:Fps} {η:VS.Env} {H0:Hp} {p:Addr} {F:X0} (h0:H0 p=none) (hp:p ∉ F):∀ {m:Md},Fp Φ η H0 m F->Fp Φ η H0 m (p :: F)
 | .fr,f=>⟨Zh.mpr ⟨hp,f.1⟩,fun a m=>(Zo.mp m).elim (fun e=>by rw [e];exact h0) (f.2 a)⟩
 | .pu,f=>fun a m=>(Zo.mp m).elim (fun e=>by rw [e];exact .inl h0) (f a)
 | .bo,f=>fun a m=>(Zo.mp m).elim (fun e=>by rw [e];exact .inl h0) (f a)
theorem nO {mj m:Md} {l:Wi} {t:T} (e:mkL mj l=some (m,t)):t=.lst l/\l.length<=dD/\m=(if dv l then .fr else mj):=by
 unfold mkL at e
 split at e
 ·rename_i h
  cases e
  exact ⟨rfl,h,rfl⟩
 ·cases e
theorem iA {Φ:Fps} {η:VS.Env} {H0 H:Hp} {mj m:Md} {l:Wi} {t:T} {vs:List V} {Fs:Y1} {Q:VK} (same:aD H0 H) (e:mkL mj l=some (m,t)) (r:RpL G H vs l Fs) (f:Fp Φ η H0 mj Fs.flatten)
  (k:∀ v H' F,aD H H'->Rp G H' v t F->Fp Φ η H0 m F->Q v H'):∀ p,H p=none->Q (.ref p) (upd H p (.lst vs)):=by
 intro p hp
 obtain ⟨rfl,hl,rfl⟩:=nO e
 refine k _ _ _ (bj hp) (.lst ar (r.same (bj hp))) ?_
 have np:p ∉ Fs.flatten:=fun m=>Mut.ne_none (r.dom p m) hp
 by_cases hi:dv l=true
 ·rw [hi,Zq rfl]
  rw [r.imm hi] at np ⊢
  exact Fp.nil.new (same.free hp) np
 ·rw [Zm hi]
  exact f.new (same.free hp) np
theorem Two.join {Φ:Fps} {η:VS.Env} {H0 H:Hp} {x y:Val} {u w:V} {F1 F2:X0} (tw:Two G Φ η H0 H x y u w F1 F2) {F:X0} (hF:F.Sublist (F1++F2)):Fp Φ η H0 (x.1.join y.1) F:=by
 obtain ⟨same,r1,r2,f1,f2,nd⟩:=tw
 have split:∀ a∈F,a∈F1\/a∈F2:=fun a ha=>Ze.mp (hF.subset ha)
 obtain ⟨m1,x⟩:=x
 obtain ⟨m2,y⟩:=y
 have both:∀ {P:Addr->Prop},(∀ a∈F1,P a)->(∀ a∈F2,P a)->∀ a∈F,P a:=fun h1 h2 a ha=>(split a ha).elim (h1 a) (h2 a)
 cases m1 <;> cases m2
 ·exact ⟨(nd rfl rfl).sublist hF,both f1.2 f2.2⟩
 ·exact both (fun a ha=>.inl (f1.2 a ha)) f2
 ·exact both (fun a ha=>.inl (f1.2 a ha)) f2
 ·exact both f1 (fun a ha=>.inl (f2.2 a ha))
 ·exact both f1 f2
 ·exact both (f1.bo) f2
 ·exact both f1 (fun a ha=>.inl (f2.2 a ha))
 ·exact both f1 (f2.bo)
 ·exact both f1 f2
theorem eU:dD=sizeLine:=rfl
theorem c8 (s:Tx):(sx s).length=s.length:=rfl
theorem By (s t:Tx):sx s++sx t=sx (s++t):=by
 show Str.append (sx s) (sx t)=_
 simp [sx,Str.append]
theorem Rp.lst_inv {H:Hp} {v:V} {l:Wi} {F:X0} (r:Rp G H v (.lst l) F):∃ a vs Fs,v=.ref a/\F=a :: Fs.flatten/\H a=some (.lst vs)/\RpL G H vs l Fs:=by
 cases r with
 | lst h q=>exact ⟨_,_,_,rfl,rfl,h,q⟩
theorem Rp.tup_inv {H:Hp} {v:V} {l:Wi} {F:X0} (r:Rp G H v (.tup l) F):∃ a vs Fs,v=.ref a/\F=Fs.flatten/\H a=some (.tup vs)/\RpL G H vs l Fs:=by
 cases r with
 | tup h q=>exact ⟨_,_,_,rfl,rfl,h,q⟩
theorem Rp.scr_inv {H:Hp} {v:V} {l:Wp} {F:X0} (r:Rp G H v (.scr l) F):∃ a,v=.ref a/\F=[]/\kg G.K H a l:=by
 cases r with
 | scr h=>exact ⟨_,rfl,rfl,h⟩
end
section
variable {G:Gx} {X:Cx}
noncomputable def BV:R2:=fun x y H Q=>rI0 (fun i j=>.int (i+j)) x y H Q\/(∃ i j,x=.str i/\y=.str j/\i.length+j.length<=sizeLine/\Q (.str (i++j)) H)\/CA x y H Q
theorem iE:OpR X (binaryOp .Add) BV:=A1.or (qZ.or AC)
theorem jV:fD G BV aS:=by
 intro Φ η H0 H x y u w F1 F2 m t Q tw e k
 have jn:=fun {F:X0} (h:List.Sublist F (F1++F2))=>tw.join h
 obtain ⟨m1,x⟩:=x
 obtain ⟨m2,y⟩:=y
 obtain ⟨same,r1,r2,f1,f2,nd⟩:=tw
 unfold aS at e
 split at e
 ·rename_i i _ j e1 e2
  cases e1
  cases e2
  cases e
  exact .inl ⟨_,_,r1.int_inv,r2.int_inv,bP k (.int _)⟩
 ·rename_i s _ s' e1 e2
  cases e1
  cases e2
  split at e
  ·rename_i hl
   cases e
   refine .inr (.inl ⟨_,_,r1.str_inv.1,r2.str_inv.1,by rw [c8,c8,← eU];exact hl,?_⟩)
   rw [By]
   exact bP k (.str _ ⟨by rw [Zt];exact hl,fun c hc=>(Ze.mp hc).elim (r1.str_inv.2.2 c) (r2.str_inv.2.2 c)⟩)
  ·cases e
 ·rename_i s _ s' e1 e2
  cases e1
  cases e2
  obtain ⟨a,vs,Fs,rfl,rfl,ha,ra⟩:=r1.lst_inv
  obtain ⟨b,us,Gs,rfl,rfl,hb,rb⟩:=r2.lst_inv
  obtain ⟨_,hl,_⟩:=nO e
  refine .inr (.inr ⟨a,b,vs,us,rfl,rfl,ha,hb,?_,iA same e (ra.append rb) (jn ?_) k⟩)
  ·rw [Zt] at hl
   rw [ra.len.1,rb.len.1,← eU]
   exact hl
  ·rw [Z8]
   exact (Yv _ _).append (Yv _ _)
 ·cases e
theorem AL:fD G (rI0 fun i j=>.int (i - j)) vR:=by
 intro Φ η H0 H x y u w F1 F2 m t Q tw e k
 obtain ⟨m1,x⟩:=x
 obtain ⟨m2,y⟩:=y
 obtain ⟨same,r1,r2,f1,f2,nd⟩:=tw
 unfold vR at e
 split at e
 ·rename_i e1 e2
  cases e1
  cases e2
  cases e
  exact ⟨_,_,r1.int_inv,r2.int_inv,bP k (.int _)⟩
 ·cases e
theorem kG:fD G (rI C6 fun i j=>.int (i / j)) iO:=by
 intro Φ η H0 H x y u w F1 F2 m t Q tw e k
 obtain ⟨m1,x⟩:=x
 obtain ⟨m2,y⟩:=y
 obtain ⟨same,r1,r2,f1,f2,nd⟩:=tw
 unfold iO at e
 split at e
 ·rename_i e1 e2
  cases e1
  cases e2
  split at e
  ·rename_i h
   cases e
   exact ⟨_,_,r1.int_inv,r2.int_inv,h,bP k (.int _)⟩
  ·cases e
 ·cases e
theorem Bh:fD G (rI (fun _ j=>0 < j) fun i j=>.int (i % j)) oMod:=by
 intro Φ η H0 H x y u w F1 F2 m t Q tw e k
 obtain ⟨m1,x⟩:=x
 obtain ⟨m2,y⟩:=y
 obtain ⟨same,r1,r2,f1,f2,nd⟩:=tw
 unfold oMod at e
 split at e
 ·rename_i e1 e2
  cases e1
  cases e2
  split at e
  ·rename_i h
   cases e
   exact ⟨_,_,r1.int_inv,r2.int_inv,h,bP k (.int _)⟩
  ·cases e
 ·cases e
theorem n8:∀ (s t:Tx),ltx s t=decide (s < t)
 | [],[]=>by simp [ltx]
 | [],_ :: _=>by simp [ltx]
 | _ :: _,[]=>by simp [ltx]
 | a :: s,b :: t=>by
  unfold ltx
  rw [n8 s t]
  by_cases h1:a < b
  ·simp [h1,Xv]
  ·by_cases h2:b < a
   ·have:¬ a=b:=by exact X3 h2
    simp [h1,h2,Xv,this]
   ·have:a=b:=by lia
    subst this
    simp [Xv]
noncomputable def rLt:R2:=fun x y H Q=>rI0 (fun i j=>.bl (decide (i < j))) x y H Q\/(∃ i j,x=.str i/\y=.str j/\Q (.bl (decide (i.cps.toList < j.cps.toList))) H)
theorem nR:OpR X (compareOp .Lt) rLt:=B1.or t5
theorem sI:fD G rLt oLt:=by
 intro Φ η H0 H x y u w F1 F2 m t Q tw e k
 obtain ⟨m1,x⟩:=x
 obtain ⟨m2,y⟩:=y
 obtain ⟨same,r1,r2,f1,f2,nd⟩:=tw
 unfold oLt at e
 split at e
 ·rename_i e1 e2
  cases e1
  cases e2
  cases e
  exact .inl ⟨_,_,r1.int_inv,r2.int_inv,bP k (.bl _)⟩
 ·rename_i s _ s' e1 e2
  cases e1
  cases e2
  cases e
  refine .inr ⟨_,_,r1.str_inv.1,r2.str_inv.1,?_⟩
  have:decide ((sx s).cps.toList < (sx s').cps.toList)=ltx s s':=by rw [n8];exact decide_eq_decide.mpr (by simp [sx])
  rw [this]
  exact bP k (.bl _)
 ·cases e
theorem jL:Tells oLt:=by
 intro x y m t e
 unfold oLt at e
 split at e <;> first | (cases e;exact ⟨_,rfl⟩) | cases e
theorem Bp:B64=2 ^ 64:=rfl
theorem Ay:fD G (rI yz fun i j=>.int (i * j)) fH:=by
 intro Φ η H0 H x y u w F1 F2 m t Q tw e k
 obtain ⟨m1,x⟩:=x
 obtain ⟨m2,y⟩:=y
 obtain ⟨same,r1,r2,f1,f2,nd⟩:=tw
 unfold fH at e
 split at e
 ·rename_i e1 e2
  cases e1
  cases e2
  split at e
  ·rename_i h
   cases e
   refine ⟨_,_,r1.int_inv,r2.int_inv,?_,bP k (.int _)⟩
   rw [Bp] at h
   exact h
  ·cases e
 ·cases e
theorem qI {n:Nat} {i:Int}:ixP n i=ixN n i:=by
 unfold ixP ixN
 by_cases h:0<=i
 ·rw [Zq h,Zq h]
 ·rw [Zm h,Zm h]
  by_cases h2:0<=i+n
  ·rw [Zq h2,Zq (by lia)]
  ·rw [Zm h2,Zm (by lia)]
theorem iV {α:Type} {l:List α} {i:Int} {k:Nat} {x:α} (h1:ixP l.length i=some k) (h2:l[k]?=some x):atI l i=some x:=by
 unfold atI
 rw [← qI,h1]
 exact h2
theorem bK {Fs:Y1} {F:X0} {i:Nat} (h:Fs[i]?=some F):F.Sublist Fs.flatten:=by
 obtain ⟨hi,rfl⟩:=Zf.mp h
 exact List.sublist_flatten_of_mem (Z4 hi)
theorem Fp.sub {Φ:Fps} {η:VS.Env} {H:Hp} {F F':X0} (h:F.Sublist F'):∀ {m:Md},Fp Φ η H m F'->Fp Φ η H m F
 | .fr,f=>⟨f.1.sublist h,fun a ha=>f.2 a (h.subset ha)⟩
 | .pu,f=>fun a ha=>f a (h.subset ha)
 | .bo,f=>fun a ha=>f a (h.subset ha)
theorem qX:fD G (rIx G.K) aE:=by
 intro Φ η H0 H x y u w F1 F2 m t Q tw e k
 obtain ⟨m1,x⟩:=x
 obtain ⟨m2,y⟩:=y
 obtain ⟨same,r1,r2,f1,f2,nd⟩:=tw
 unfold aE at e
 split at e
 ·rename_i m3 l m4 i e1 e2
  cases e1
  cases e2
  obtain ⟨j,h1,e⟩:=Zz.mp e
  obtain ⟨x,h2,e⟩:=Zw.mp e
  obtain ⟨a,vs,Fs,rfl,rfl,ha,ra⟩:=r1.lst_inv
  obtain ⟨v,F,g1,g2,g3⟩:=ra.get j h2
  refine .inl ⟨a,vs,i,v,rfl,r2.int_inv,SqL.of ha,iV (by rw [ra.len.1];exact h1) g1,?_⟩
  have f:=((f1.sub (Yv _ _)).sub (bK g2)).up g3
  unfold VS.sub at e
  rw [e] at f
  have et:x=t:=congrArg Prod.snd e
  rw [et] at g3
  exact k v H F (aD.refl _) g3 f
 ·rename_i m3 l m4 i e1 e2
  cases e1
  cases e2
  obtain ⟨j,h1,e⟩:=Zz.mp e
  obtain ⟨x,h2,e⟩:=Zw.mp e
  obtain ⟨a,vs,Fs,rfl,rfl,ha,ra⟩:=r1.tup_inv
  obtain ⟨v,F,g1,g2,g3⟩:=ra.get j h2
  refine .inr (.inl ⟨a,vs,i,v,rfl,r2.int_inv,SqT.of ha,iV (by rw [ra.len.1];exact h1) g1,?_⟩)
  have f:=(f1.sub (bK g2)).up g3
  unfold VS.sub at e
  rw [e] at f
  have et:x=t:=congrArg Prod.snd e
  rw [et] at g3
  exact k v H F (aD.refl _) g3 f
 ·rename_i m3 l m4 i e1 e2
  cases e1
  cases e2
  obtain ⟨j,h1,e⟩:=Zz.mp e
  obtain ⟨x,h2,e⟩:=Zw.mp e
  cases e
  obtain ⟨a,rfl,rfl,sa⟩:=r1.scr_inv
  refine .inl ⟨a,l.map V.int,i,.int x,rfl,r2.int_inv,sa.seq,iV (by rw [Zv];exact h1) (by rw [ZQ,h2];rfl),bP k (.int _)⟩
 ·rename_i m3 l m4 i e1 e2
  cases e1
  cases e2
  obtain ⟨j,h1,e⟩:=Zz.mp e
  obtain ⟨x,h2,e⟩:=Zw.mp e
  cases e
  obtain ⟨rfl,hl⟩:=r1.str_inv
  refine .inr (.inr ⟨sx l,i,x,rfl,r2.int_inv,by rw [c8,← eU];exact hl.1,iV (k:=j) (by simpa [sx] using h1) (by simpa [sx] using h2),?_⟩)
  exact bP k (.str [x] ⟨by show 1<=dD;decide,fun c hc=>by rw [Zj.mp hc];exact hl.2 x (Yn h2)⟩)
 ·cases e
end
section
variable {G:Gx} {X:Cx} {a b c e:Expr} {es:List Expr} {ca cb cc:Ex} {cs:Exs} {pos p:Pos}
theorem rR {x:Addr}:∀ {l:Wk} {Fs:Y1},x∈frs l Fs->∃ (i:Nat) (v:Val) (F:X0),l[i]?=some v/\v.1=.fr/\Fs[i]?=some F/\x∈F
 | [],_,h=>by simp [frs] at h
 | _ :: _,[],h=>by simp [frs] at h
 | v :: l,F :: Fs,h=>by
  have go:x∈frs l Fs->∃ (i:Nat) (u:Val) (F':X0),(v :: l)[i]?=some u/\u.1=.fr/\(F :: Fs)[i]?=some F'/\x∈F':=fun m=>by
   obtain ⟨i,u,F',h1,h2,h3,h4⟩:=rR m
   exact ⟨i+1,u,F',by simpa using h1,h2,by simpa using h3,h4⟩
  unfold frs at h
  split at h
  ·rename_i hv
   rcases Ze.mp h with h | h
   ·exact ⟨0,v,F,rfl,hv,rfl,h⟩
   ·exact go h
  ·exact go h
theorem aq:PVs G X [] aj:=PA.weak dC fun σ H Q hq=>by
 obtain ⟨Φ,η,l,s,e,k⟩:=hq
 cases (show some ([]:Wk)=some l from e)
 exact k [] H [] (aD.refl _) .nil ⟨fun i v F h=>by simp at h,by simp [frs]⟩
theorem ae (ha:PV G X e ca) (hr:PVs G X es cs) (hs:starEach (e :: es) X.env=(false,eval e X.env) :: starEach es X.env:=by rfl):PVs G X (e :: es) (ab ca cs):=PA.weak (bU ha hr hs) fun σ H Q hq=>by
 obtain ⟨Φ,η,l,s,e,k⟩:=hq
 unfold ab at e
 obtain ⟨x,ea,e⟩:=Zz.mp e
 obtain ⟨xs,er,e⟩:=Zz.mp e
 cases e
 refine ⟨Φ,η,x.1,x.2,s,ea,fun v H1 F e1 r1 f1=>⟨Φ,η,xs,s.same e1,er,fun vs H2 Fs e2 r2 f2=>k (v :: vs) H2 (F :: Fs) (e1.trans e2) (.cons (r1.same e2) r2) ⟨fun i u F' h1 h2=>?_,?_⟩⟩⟩
 ·cases i with
  | zero =>
   cases (show some x=some u from h1)
   cases (show some F=some F' from h2)
   exact f1
  | succ i=>exact (f2.each i u F' (by simpa using h1) (by simpa using h2)).back e1
 ·unfold frs
  split
  ·rename_i hx
   rw [hx] at f1
   refine ZX.mpr ⟨f1.1,f2.nd,fun y hy z hz q=>?_⟩
   subst q
   obtain ⟨i,u,F',h1,h2,h3,h4⟩:=rR hz
   have f:=f2.each i u F' h1 h3
   rw [h2] at f
   exact Mut.ne_none (r1.dom y hy) (f.2 y h4)
  ·exact f2.nd
theorem jN:∀ {l:Wk},b7 l=.fr->∀ v∈l,v.1=.fr
 | [],_,v,h=>by simp at h
 | (m,t) :: r,e,v,h=>by
  have e':m.join (b7 r)=.fr:=e
  have h1:m=.fr:=by
   revert e'
   cases m <;> cases b7 r <;> simp [Md.join]
  have h2:b7 r=.fr:=by
   revert e'
   cases m <;> cases b7 r <;> simp [Md.join]
  rcases Zo.mp h with rfl | h
  ·exact h1
  ·exact jN h2 v h
theorem jG:∀ {l:Wk},b7 l ≠ .bo->∀ v∈l,v.1 ≠ .bo
 | [],_,v,h=>by simp at h
 | (m,t) :: r,e,v,h=>by
  have e':m.join (b7 r) ≠ .bo:=e
  have h1:m ≠ .bo:=by
   revert e'
   cases m <;> cases b7 r <;> simp [Md.join]
  have h2:b7 r ≠ .bo:=by
   revert e'
   cases m <;> cases b7 r <;> simp [Md.join]
  rcases Zo.mp h with rfl | h
  ·exact h1
  ·exact jG h2 v h
theorem rS:∀ {l:Wk} {Fs:Y1},l.length=Fs.length->(∀ v∈l,v.1=.fr)->frs l Fs=Fs.flatten
 | [],[],_,_=>rfl
 | [],_ :: _,h,_=>by simp at h
 | _ :: _,[],h,_=>by simp at h
 | v :: l,F :: Fs,h,q=>by
  unfold frs
  rw [q v Zx,rS (by simpa using h) fun u hu=>q u (Zy _ hu)]
  rfl
theorem fC {x:Addr} {Fs:Y1} (h:x∈Fs.flatten):∃ (i:Nat) (F:X0),Fs[i]?=some F/\x∈F:=by
 obtain ⟨F,hF,hx⟩:=Wt.mp h
 obtain ⟨i,hi⟩:=List.mem_iff_getElem?.mp hF
 exact ⟨i,F,hi,hx⟩
theorem FpL.join {Φ:Fps} {η:VS.Env} {H:Hp} {l:Wk} {Fs:Y1} (f:FpL Φ η H l Fs) (hl:l.length=Fs.length):Fp Φ η H (b7 l) Fs.flatten:=by
 have at':∀ x∈Fs.flatten,∃ v F,v∈l/\x∈F/\Fp Φ η H v.1 F:=fun x hx=>by
  obtain ⟨i,F,hi,hxF⟩:=fC hx
  have:i < l.length:=by
   have:=(Zf.mp hi).1
   lia
  exact ⟨l[i],F,Z4 this,hxF,f.each i _ F (Zr this) hi⟩
 cases e:b7 l with
 | fr =>
  have al:=jN e
  refine ⟨by rw [← rS hl al];exact f.nd,fun x hx=>?_⟩
  obtain ⟨v,F,hv,hxF,q⟩:=at' x hx
  rw [al v hv] at q
  exact q.2 x hxF
 | pu =>
  have al:=jG (l:=l) (by rw [e];decide)
  intro x hx
  obtain ⟨v,F,hv,hxF,q⟩:=at' x hx
  exact Fp.pu (al v hv) q x hxF
 | bo =>
  intro x hx
  obtain ⟨v,F,hv,hxF,q⟩:=at' x hx
  exact q.bo x hxF
structure Args (G:Gx) (Φ:Fps) (η:VS.Env) (H0 H:Hp) (l:Wk) (vs:List V) (Fs:Y1):Prop where
 same:aD H0 H
 rp:RpL G H vs (trees l) Fs
 fp:FpL Φ η H0 l Fs
theorem Args.len {Φ:Fps} {η:VS.Env} {H0 H:Hp} {l:Wk} {vs:List V} {Fs:Y1} (A:Args G Φ η H0 H l vs Fs):l.length=Fs.length:=by
 have:=A.rp.len.2
 simp [trees] at this
 exact Eq.symm this
noncomputable def fT (G:Gx) (r:List V->Hp->VK->Prop) (f:Wk->Wj):Prop:=∀ (Φ:Fps) (η:VS.Env) (H0 H:Hp) (l:Wk) (vs:List V) (Fs:Y1) (m:Md) (t:T) (Q:VK),Args G Φ η H0 H l vs Fs->f l=some (m,t) →
 (∀ v H' F,aD H H'->Rp G H' v t F->Fp Φ η H0 m F->Q v H')->r vs H Q
theorem Aa {r:List V->Hp->VK->Prop} {f:Wk->Wj} (ok:fT G r f) {σ:L2.St} {H:Hp} {Q:VK} {η:VS.Env} {Φ:Fps} {l:Wk} {m:Md} {t:T} (s:SR G Φ η σ H) (el:cs η=some l) (e:f l=some (m,t))
  (k:∀ v H' F,aD H H'->Rp G H' v t F->Fp Φ η H m F->Q v H'):tEs G cs σ H fun vs H1=>r vs H1 Q :=
 ⟨Φ,η,l,s,el,fun vs H' Fs e1 r1 f1=>ok Φ η H H' l vs Fs m t Q ⟨e1,r1,f1⟩ e fun v H2 F e2 r2 f2=>k v H2 F (e1.trans e2) r2 f2⟩
theorem p6 {r:List V->Hp->VK->Prop} {f:Wk->Wj} {id:String} {x:Str} (hc:dP X (.builtin id) r) (ok:fT G r f) (hg:Gl X x) (hm:X.mg x=none) (hv:bootBuiltins x=some (.builtin id)) (ha:PVs G X (e :: es) cs)
  (hn:x ≠ "__name__" := by decide) (hdb:(x == ("__debug__" : Str))=false:=by decide)
  (he:starEach (e :: es) X.env=(false,eval e X.env) :: starEach es X.env:=by rfl) (hpl:(backTo pos (starEach es X.env)).any (·.1)=false:=by rfl):PV G X (.Call (.Name x p) (e :: es) [] pos) (eN f cs) :=
 PE.weak (qg hc hg hm hv ha hn hdb he hpl) fun σ H Q hq=>by
  obtain ⟨Φ,η,m,t,s,e,k⟩:=hq
  unfold eN at e
  obtain ⟨l,el,e⟩:=Zz.mp e
  exact Aa ok s el e k
theorem iF {r:List V->Hp->VK->Prop} {f:Wk->Wj} {Ty:String} {x:Str} (hc:dP X (.type Ty) r) (ok:fT G r f) (hg:Gl X x) (hm:X.mg x=none) (hv:bootBuiltins x=some (.type Ty)) (ha:PVs G X (e :: es) cs)
  (hn:x ≠ "__name__" := by decide) (hdb:(x == ("__debug__" : Str))=false:=by decide)
  (he:starEach (e :: es) X.env=(false,eval e X.env) :: starEach es X.env:=by rfl) (hpl:(backTo pos (starEach es X.env)).any (·.1)=false:=by rfl):PV G X (.Call (.Name x p) (e :: es) [] pos) (eN f cs) :=
 PE.weak (uH hc hg hm hv ha hn hdb he hpl) fun σ H Q hq=>by
  obtain ⟨Φ,η,m,t,s,e,k⟩:=hq
  unfold eN at e
  obtain ⟨l,el,e⟩:=Zz.mp e
  exact Aa ok s el e k
theorem dn (h:PVs G X es cs):PV G X (.List es pos) (dF cs):=PE.weak (nV h) fun σ H Q hq=>by
 obtain ⟨Φ,η,m,t,s,e,k⟩:=hq
 unfold dF at e
 obtain ⟨l,el,e⟩:=Zz.mp e
 refine ⟨Φ,η,l,s,el,fun vs H' Fs e1 r1 f1=>?_⟩
 have A:Args G Φ η H H' l vs Fs:=⟨e1,r1,f1⟩
 obtain ⟨_,hl,_⟩:=nO e
 refine ⟨by rw [r1.len.1,← eU];exact hl,iA e1 e r1 (f1.join A.len) fun v H2 F e2 r2 f2=>k v H2 F (e1.trans e2) r2 f2⟩
theorem iQ {x1} (h:PVs G X es cs):PV G X (.Tuple es x1 pos) (g9 cs):=PE.weak (AH h) fun σ H Q hq=>by
 obtain ⟨Φ,η,m,t,s,e,k⟩:=hq
 unfold g9 at e
 obtain ⟨l,el,e⟩:=Zz.mp e
 refine ⟨Φ,η,l,s,el,fun vs H' Fs e1 r1 f1=>?_⟩
 have A:Args G Φ η H H' l vs Fs:=⟨e1,r1,f1⟩
 unfold pD at e
 split at e
 ·rename_i hl
  cases e
  refine ⟨by rw [r1.len.1,← eU,trees,Zv];exact hl,fun q hq=>?_⟩
  have r2:Rp G (upd H' q (.tup vs)) (.ref q) (.tup (trees l)) Fs.flatten:=.tup ar (r1.same (bj hq))
  exact k _ _ _ (e1.trans (bj hq)) r2 (Fp.up (f1.join A.len) r2)
 ·cases e
theorem yj {H:Hp} {v:V} {t:T} {F:X0} {k:Bool} (r:Rp G H v t F) (h:tru t=some k):A2 G.K v H k:=by
 cases r with
 | non=>cases h;rfl
 | bl b=>cases h;rfl
 | int i=>cases h;rfl
 | str s hl =>
  cases h
  refine ⟨by rw [c8,← eU];exact hl.1,?_⟩
  rw [c8]
  cases s with
  | nil=>rfl
  | cons a r =>
   have:((List.length (a :: r):Int) != 0)=true:=by simp;lia
   rw [this]
   rfl
 | scr h'=>cases h
 | tup h' q =>
  cases h
  refine .inr (.inl ⟨_,SqT.of h',?_⟩)
  have:=q.len.1
  rename_i vs ts _
  cases vs <;> cases ts <;> simp_all
 | lst h' q =>
  cases h
  refine .inl ⟨_,SqL.of h',?_⟩
  have:=q.len.1
  rename_i vs ts _
  cases vs <;> cases ts <;> simp_all
 | dct h' hl q =>
  cases h
  refine .inr (.inr ⟨_,h',?_⟩)
  have:=q.len.1
  rename_i ks vs ts _
  cases ks <;> cases vs <;> cases ts <;> simp_all
 | dctT h' hl q=>cases h
 | dctN h' hl n q=>cases h
 | dctZ _ _ _=>cases h
 | exc _ _=>cases h
 | ins _ _ _ _=>cases h
 | mk _ _=>cases h
theorem oC (h:PV G X a ca) (hK:X.K=G.K:=by rfl) (he:∀ whole,isTrue a X.env whole=(do let v ← whole;standAt a.pos;holding [v] (truthy v)):=by intro _;rfl):PVT G X a ca :=
 PT.weak (wH h he) fun σ H Q ⟨Φ,η,m,r,b,s,e,eb,k⟩=>⟨Φ,η,m,r,s,e,fun v H' F e1 r1 f1=>⟨b,by rw [hK];exact yj r1 eb,k H' e1⟩⟩
noncomputable def PVW (G:Gx) (X:Cx) (e:Expr) (c:Ex):Prop:=PW X e (tT G c)
theorem PW.weak {X:Cx} {e:Expr} {t t':TT} (h:PW X e t) (w:∀ σ H Q,t' σ H Q->t σ H Q):PW X e t':=fun wh pins s σ H Q I q=>h wh pins s σ H Q I (w σ H Q q)
theorem PVW.pvt (h:PVW G X e ca):PVT G X e ca:=PW.pt h
variable {rest:List Expr}
theorem wF {η:VS.Env} {m:Md} {r:T} (e:lS ca cb η=some (m,r)):(∃ n,ca η=some (n,.bl true)/\cb η=some (m,r))\/(∃ n,ca η=some (n,.bl false)/\m=.fr/\r=.bl false):=by
 unfold lS at e
 obtain ⟨⟨n,x⟩,ea,e⟩:=Zz.mp e
 split at e
 ·rename_i h
  cases (show x=.bl true from h)
  exact .inl ⟨n,ea,e⟩
 ·rename_i h
  cases (show x=.bl false from h)
  cases e
  exact .inr ⟨n,ea,rfl,rfl⟩
 ·cases e
theorem zv {η:VS.Env} {m:Md} {r:T} (e:eOr ca cb η=some (m,r)):(∃ n,ca η=some (n,.bl false)/\cb η=some (m,r))\/(∃ n,ca η=some (n,.bl true)/\m=.fr/\r=.bl true):=by
 unfold eOr at e
 obtain ⟨⟨n,x⟩,ea,e⟩:=Zz.mp e
 split at e
 ·rename_i h
  cases (show x=.bl true from h)
  cases e
  exact .inr ⟨n,ea,rfl,rfl⟩
 ·rename_i h
  cases (show x=.bl false from h)
  exact .inl ⟨n,ea,e⟩
 ·cases e
theorem rW (ha:PVT G X a ca) (hb:PVW G X (.BoolOp .And (b :: rest) pos) cb):PVW G X (.BoolOp .And (a :: b :: rest) pos) (lS ca cb) :=
 PW.weak (u6 ha hb) fun σ H Q hq=>by
  obtain ⟨Φ,η,m,r,k,s,e,eb,q⟩:=hq
  rcases wF e with ⟨n,ea,e2⟩ | ⟨n,ea,rfl,rfl⟩
  ·refine ⟨Φ,η,n,_,true,s,ea,rfl,fun H' e1=>?_⟩
   refine vm ?_
   exact ⟨Φ,η,m,r,k,s.same e1,e2,eb,fun H2 e2=>q H2 (e1.trans e2)⟩
  ·refine ⟨Φ,η,n,_,false,s,ea,rfl,fun H' e1=>?_⟩
   refine vS ?_
   cases eb
   exact q H' e1
theorem rm (ha:PVT G X a ca) (hb:PVW G X (.BoolOp .Or (b :: rest) pos) cb):PVW G X (.BoolOp .Or (a :: b :: rest) pos) (eOr ca cb) :=
 PW.weak (CW ha hb) fun σ H Q hq=>by
  obtain ⟨Φ,η,m,r,k,s,e,eb,q⟩:=hq
  rcases zv e with ⟨n,ea,e2⟩ | ⟨n,ea,rfl,rfl⟩
  ·refine ⟨Φ,η,n,_,false,s,ea,rfl,fun H' e1=>?_⟩
   refine vS ?_
   exact ⟨Φ,η,m,r,k,s.same e1,e2,eb,fun H2 e2=>q H2 (e1.trans e2)⟩
  ·refine ⟨Φ,η,n,_,true,s,ea,rfl,fun H' e1=>?_⟩
   refine vm ?_
   cases eb
   exact q H' e1
theorem vL {η:VS.Env} {m:Md} {r:T} (e:vG ca η=some (m,r)):∃ n b,ca η=some (n,.bl b)/\m=.fr/\r=.bl (!b):=by
 unfold vG at e
 obtain ⟨⟨n,x⟩,ea,e⟩:=Zz.mp e
 split at e
 ·rename_i b h
  cases (show x=.bl b from h)
  cases e
  exact ⟨n,b,ea,rfl,rfl⟩
 ·cases e
theorem yM (ha:PVT G X a ca):PVT G X (.UnaryOp .Not a pos) (vG ca):=PT.weak (AF ha) fun σ H Q hq=>by
 obtain ⟨Φ,η,m,r,k,s,e,eb,q⟩:=hq
 obtain ⟨n,b,ea,rfl,rfl⟩:=vL e
 cases eb
 exact ⟨Φ,η,n,_,b,s,ea,rfl,fun H' e1=>q H' e1⟩
theorem su {H:Hp} {v:V} {t:T} {F:X0} (r:Rp G H v t F):decide (v=.non)=isN t:=by
 cases r <;> simp [isN]
theorem Ab {t:TE} {c:Ex} {σ:L2.St} {H:Hp} {Q:Bool->Hp->Prop} (h:tT G c σ H Q) (ht:∀ η m r,c η=some (m,r)->∃ b,r=.bl b) (w:∀ Q,tE G c σ H Q->t σ H Q):tB t σ H Q:=by
 obtain ⟨Φ,η,m,r,b,s,e,eb,k⟩:=h
 refine w _ ⟨Φ,η,m,r,s,e,fun v H' F e1 r1 f1=>?_⟩
 obtain ⟨b',er⟩:=ht η m r e
 rw [er] at eb r1
 cases (show some b'=some b from eb)
 exact ⟨_,r1.bl_inv,k H' e1⟩
end
section
variable {G:Gx} {X:Cx} {a b c e:Expr} {es:List Expr} {ca cb cc:Ex} {cs:Exs} {pos p:Pos}
theorem RpL.one {H:Hp} {vs:List V} {t:T} {Fs:Y1} (r:RpL G H vs [t] Fs):∃ v F,vs=[v]/\Fs=[F]/\Rp G H v t F:=by
 cases r with
 | cons r q=>cases q;exact ⟨_,_,rfl,rfl,r⟩
noncomputable def CP (K:Y2):List V->Hp->VK->Prop:=fun xs H Q=>(∃ x n,xs=[x]/\CG K x H n/\Q (.int n) H)\/(∃ a kvs,xs=[V.ref a]/\H a=some (.dK kvs)/\Q (.int kvs.length) H)
theorem qz:dP X (.builtin "len") (fun xs H Q=>∃ a kvs,xs=[V.ref a]/\H a=some (.dK kvs)/\Q (.int kvs.length) H):=by
 intro pins s σ H xs us Q I r h
 obtain ⟨a,kvs,rfl,ha,q⟩:=h
 obtain ⟨u,rfl,ru⟩:=vals1 r
 cases ru
 exact B3 I (.inl ha) fun t s' I'=>⟨.int kvs.length,H,I',⟨t,rfl⟩,q⟩
theorem ui:dP X (.builtin "len") (CP X.K):=vW.or qz
theorem AR:fT G (CP G.K) cK:=by
 intro Φ η H0 H l vs Fs m t Q A e k
 refine L2.gN fun P_ k_=>?_
 unfold cK at e
 split at e
 ·rename_i x
  obtain ⟨mx,x⟩:=x
  obtain ⟨n,en,e⟩:=Zw.mp e
  cases e
  obtain ⟨v,F,rfl,rfl,r⟩:=(show RpL G H vs [x] Fs from A.rp).one
  have fin:Q (.int (n:Int)) H:=bP k (.int _)
  cases r with
  | non=>cases en
  | bl b=>cases en
  | int i=>cases en
  | str s hl =>
   cases en
   refine k_ ?_
   exact .inl ⟨_,_,rfl,⟨by rw [c8,← eU];exact hl.1,rfl⟩,by rw [c8];exact fin⟩
  | scr h =>
   cases en
   refine k_ ?_
   refine .inl ⟨_,_,rfl,.inl ⟨_,h.seq,rfl⟩,?_⟩
   rw [Zv]
   exact fin
  | tup h q =>
   cases en
   refine k_ ?_
   refine .inl ⟨_,_,rfl,.inr ⟨_,SqT.of h,rfl⟩,?_⟩
   rw [q.len.1]
   exact fin
  | lst h q =>
   cases en
   refine k_ ?_
   refine .inl ⟨_,_,rfl,.inl ⟨_,SqL.of h,rfl⟩,?_⟩
   rw [q.len.1]
   exact fin
  | dct h hl q =>
   cases en
   refine k_ ?_
   refine .inr ⟨_,_,rfl,h,?_⟩
   rename_i ks ws ts _
   have e1:=q.len.1
   rw [ZA,Zv] at fin
   rw [ZA,e1]
   exact fin
  | dctT h hl q=>cases en
  | dctN h hl n q=>cases en
  | dctZ _ _ _=>cases en
  | exc _ _=>cases en
  | ins _ _ _ _=>cases en
  | mk _ _=>cases en
 ·cases e
noncomputable def zU (K:Y2):List V->Hp->VK->Prop:=fun xs H Q=>∃ p ys,xs=[.ref p]/\(SqL K H p ys\/SqT K H p ys)/\∀ l,H l=none->Q (.ref l) (upd H l (.lst ys))
theorem sO:fT G (zU G.K) Am:=by
 intro Φ η H0 H l vs Fs m t Q A e k
 unfold Am at e
 split at e
 ·rename_i mx x
  obtain ⟨v,F,rfl,rfl,rx⟩:=(show RpL G H vs [.lst x] Fs from A.rp).one
  obtain ⟨a,ys,Gs,rfl,rfl,ha,ra⟩:=rx.lst_inv
  have f:=A.fp.each 0 _ _ rfl rfl
  exact ⟨a,ys,rfl,.inl (SqL.of ha),iA A.same e ra (f.sub (Yv _ _)) k⟩
 ·rename_i mx x
  obtain ⟨v,F,rfl,rfl,rx⟩:=(show RpL G H vs [.tup x] Fs from A.rp).one
  obtain ⟨a,ys,Gs,rfl,rfl,ha,ra⟩:=rx.tup_inv
  have f:=A.fp.each 0 _ _ rfl rfl
  exact ⟨a,ys,rfl,.inr (SqT.of ha),iA A.same e ra f k⟩
 ·cases e
noncomputable def tO (G:Gx) (c:Option Ex):TO:=fun σ H Q=>∃ Φ η o,SR G Φ η σ H/\ve c η=some o/\∀ H',aD H H'->Q o H'
noncomputable def PVO (G:Gx) (X:Cx) (e:Option Expr) (c:Option Ex):Prop:=PO X e (tO G c)
theorem PO.weak {X:Cx} {e:Option Expr} {t t':TO} (h:PO X e t) (w:∀ σ H Q,t' σ H Q->t σ H Q):PO X e t':=fun pins s σ H Q I q=>h pins s σ H Q I (w σ H Q q)
theorem wK:PVO G X none none:=PO.weak sJ fun σ H Q hq=>by
 obtain ⟨Φ,η,o,s,e,k⟩:=hq
 cases (show some (none:Option Int)=some o from e)
 exact k H (aD.refl _)
theorem lb (h:PV G X a ca):PVO G X (some a) (some ca):=PO.weak (r6 h) fun σ H Q hq=>by
 obtain ⟨Φ,η,o,s,e,k⟩:=hq
 obtain ⟨⟨m,y⟩,ea,e⟩:=Zz.mp (show (ca η).bind (fun y=>(int? y.2).map some)=some o from e)
 obtain ⟨i,ei,e⟩:=Zw.mp e
 cases e
 refine ⟨Φ,η,m,y,s,ea,fun v H' F e1 r1 f1=>?_⟩
 cases y with
 | int j =>
  cases ei
  exact ⟨_,r1.int_inv,k H' e1⟩
 | _=>cases ei
theorem ka {α:Type} (l:List α) (lo hi:Option Int):cut l lo hi=(l.drop (HT.sIx l.length 0 lo)).take (HT.sIx l.length l.length hi - HT.sIx l.length 0 lo):=by
 unfold cut
 cases lo <;> cases hi <;> rfl
theorem wJ (lo hi:Option Int) (n:Nat):Builtin.Str.strSliceIndices lo hi 1 n=Builtin.Str.strSliceIndices (some ((min (HT.sIx n 0 lo) n:Nat):Int)) (some ((min (HT.sIx n n hi) n:Nat):Int)) 1 n:=by
 have e1:∀ k:Nat,¬ ((k:Int) < 0):=fun k=>by lia
 unfold Builtin.Str.strSliceIndices
 simp only [show (1:Int) > 0 by decide,if_true,e1,if_false]
 congr 1
 ·cases lo with
  | none=>simp only [HT.sIx];lia
  | some i =>
   simp only [HT.sIx]
   by_cases h:i < 0
   ·simp only [h,if_true];lia
   ·simp only [h,if_false];lia
 ·cases hi with
  | none=>simp only [HT.sIx];lia
  | some i =>
   simp only [HT.sIx]
   by_cases h:i < 0
   ·simp only [h,if_true];lia
   ·simp only [h,if_false];lia
theorem iL (s:Tx) (lo hi:Option Int):PySem.StrLaws.sliceText (sx s) lo hi=sx (cut s lo hi):=by
 have key:PySem.StrLaws.sliceText (sx s) lo hi=PySem.StrLaws.sliceText (sx s) (some ((min (HT.sIx s.length 0 lo) s.length:Nat):Int)) (some ((min (HT.sIx s.length s.length hi) s.length:Nat):Int)):=by
  unfold PySem.StrLaws.sliceText
  rw [c8,wJ]
 rw [key]
 have hd:∀ a:Nat,s.drop (min a s.length)=s.drop a:=fun a=>by
  by_cases h:a<=s.length
  ·rw [Y3 h]
  ·rw [XX (by exact Xr h),YL (Zg _),YL (by exact Xr h)]
 by_cases h:min (HT.sIx s.length 0 lo) s.length<=min (HT.sIx s.length s.length hi) s.length
 ·rw [PySem.StrLaws.sliceText_nat (sx s) h (by rw [c8];exact Nat.min_le_right _ _),ka]
  show (⟨_⟩:Str)=⟨_⟩
  congr 2
  show ((sx s).cps.toList.drop _).take _=_
  have:(sx s).cps.toList=s:=rfl
  rw [this,hd]
  by_cases h2:HT.sIx s.length 0 lo<=s.length
  ·rw [Y3 h2]
   by_cases h3:HT.sIx s.length s.length hi<=s.length
   ·rw [Y3 h3]
   ·rw [XX (by exact Xr h3),YN (by rw [Yi];exact Zg _),YN (by rw [Yi];lia)]
  ·rw [YL (by exact Xr h2)]
   simp
 ·have e0:cut s lo hi=[]:=by
   rw [ka]
   have:HT.sIx s.length s.length hi - HT.sIx s.length 0 lo=0:=by omega
   rw [this,List.take_zero]
  rw [e0]
  unfold PySem.StrLaws.sliceText
  have e2:Builtin.Str.strSliceIndices (some ((min (HT.sIx s.length 0 lo) s.length:Nat):Int)) (some ((min (HT.sIx s.length s.length hi) s.length:Nat):Int)) 1 (sx s).length=[]:=by
   have e1:∀ k:Nat,¬ ((k:Int) < 0):=fun k=>by lia
   unfold Builtin.Str.strSliceIndices sliceRange
   simp only [show (1:Int) > 0 by decide,if_true,e1,if_false,c8]
   rw [Zm (by omega)]
   rfl
  rw [e2]
  have:¬ ((1:Int) == 1 && ([]:Wq).length == (sx s).length)=true:=by
   rw [c8]
   simp
   lia
  rw [Zm this]
  rfl
noncomputable def CU:V->Option Int->Option Int->Hp->VK->Prop:=fun x lo hi H Q=>∃ z,x=.str z/\z.length<=sizeLine/\Q (.str (PySem.StrLaws.sliceText z lo hi)) H
theorem part_of {v:Value} {o:Option Int} (h:IsPart v o):∃ q:Option (Int×Tok),v=partValue q/\o=q.map (·.1):=by
 cases h with
 | none=>exact ⟨none,rfl,rfl⟩
 | int i t=>exact ⟨some (i,t),rfl,rfl⟩
theorem oA {α β:Type} (f:α->Option β) (l:List α):(l.filterMap f).length<=l.length:=List.length_filterMap_le f l
theorem zq (lo hi:Option Int) (n:Nat):(Builtin.Str.strSliceIndices lo hi 1 n).length<=n:=by
 rw [wJ]
 by_cases h:min (HT.sIx n 0 lo) n<=min (HT.sIx n n hi) n
 ·rw [PySem.StrLaws.strSliceIndices_plain h (by exact Nat.min_le_right _ _),Zv,ZR]
  lia
 ·have e1:∀ k:Nat,¬ ((k:Int) < 0):=fun k=>by lia
  unfold Builtin.Str.strSliceIndices sliceRange
  simp only [show (1:Int) > 0 by decide,if_true,e1,if_false]
  rw [Zm (by omega)]
  simp
theorem xR:SlR X CU:=by
 intro pins s σ H x v vl vu lo hi sl Q I rx hs pl pu h
 obtain ⟨z,rfl,hz,q⟩:=h
 obtain ⟨t,rfl⟩:=rx
 obtain ⟨l,rfl,rfl⟩:=part_of pl
 obtain ⟨u,rfl,rfl⟩:=part_of pu
 refine ⟨"str",_,F.slot_str_getitem.lookup,typeIs_str s z t,wpAny_getItem_str_slice (l:=l) (u:=u) (st:=none) hs rfl ?_⟩
 unfold sliceMade
 split
 ·rename_i hc
  refine ⟨.str z,H,I,⟨t,rfl⟩,?_⟩
  have e:PySem.StrLaws.sliceText z (l.map (·.1)) (u.map (·.1))=z:=by
   unfold PySem.StrLaws.sliceText
   exact Zq hc
  rw [e] at q
  exact q
 ·rename_i hc
  refine ⟨ZG ?_ hz,.str _,H,I.tok _,⟨_,rfl⟩,?_⟩
  ·show (List.filterMap _ _).toArray.size<=_
   rw [ZY]
   exact ZG (oA _ _) (zq _ _ _)
  ·have e:PySem.StrLaws.sliceText z (l.map (·.1)) (u.map (·.1))=⟨((slicePicked z l u none).filterMap (z.cps[·]?)).toArray⟩:=by
    unfold PySem.StrLaws.sliceText
    exact Zm hc
   rw [e] at q
   exact q
noncomputable def rSl (K:Y2):V->Option Int->Option Int->Hp->VK->Prop:=fun x lo hi H Q=>CU x lo hi H Q\/CS K x lo hi H Q
theorem Dv:SlR X (rSl X.K):=xR.or sC
theorem sU {α:Type} (l:List α) (lo hi:Option Int):(cut l lo hi).length<=l.length:=by
 rw [ka,YR,Yi]
 lia
theorem RpL.cut {H:Hp} {vs:List V} {ts:Wi} {Fs:Y1} (r:RpL G H vs ts Fs) (lo hi:Option Int):RpL G H (qN vs lo hi) (VS.cut ts lo hi) (VS.cut Fs lo hi):=by
 have h:=r.len
 rw [ka,ka,h.2]
 unfold qN
 rw [h.1]
 exact (r.drop _).take _
theorem kK {α:Type} (l:List α) (lo hi:Option Int):(VS.cut l lo hi).Sublist l:=by
 rw [ka]
 exact (List.take_sublist _ _).trans (List.drop_sublist _ _)
theorem pw {F G:Y1} (h:F.Sublist G):F.flatten.Sublist G.flatten:=by
 induction h with
 | slnil=>exact Y9 _
 | cons a _ ih=>rw [ZV];exact ih.trans (Yd _ _)
 | cons_cons a _ ih=>rw [ZV,ZV];exact (Y9 _).append ih
theorem uQ {lo hi:Option Expr} {cl ch:Option Ex} {p2:Pos} (ha:PV G X a ca) (hl:PVO G X lo cl) (hh:PVO G X hi ch) (hK:X.K=G.K:=by rfl):PV G X (.Subscript a (.Slice lo hi none p2) pos) (eSl ca cl ch) :=
 PE.weak (ll Dv ha hl hh) fun σ H Q hq=>by
  obtain ⟨Φ,η,m,t,s,e,k⟩:=hq
  unfold eSl at e
  obtain ⟨⟨mx,x⟩,ea,e'⟩:=Zz.mp e
  obtain ⟨l,el,e''⟩:=Zz.mp e'
  obtain ⟨h,eh,e4⟩:=Zz.mp e''
  clear e e' e''
  refine ⟨Φ,η,mx,x,s,ea,fun v H1 F e1 r1 f1=>⟨Φ,η,l,s.same e1,el,fun H2 e2=>⟨Φ,η,h,(s.same e1).same e2,eh,fun H3 e3=>?_⟩⟩⟩
  have e03:aD H H3:=(e1.trans e2).trans e3
  have r3:=(r1.same e2).same e3
  unfold oSl at e4
  split at e4
  ·rename_i m' z q
   cases q
   cases e4
   obtain ⟨rfl,hl⟩:=r3.str_inv
   refine .inl ⟨_,rfl,by rw [c8,← eU];exact hl.1,?_⟩
   rw [iL]
   exact k _ H3 _ e03 (.str _ ⟨ZG (sU _ _ _) hl.1,fun c hc=>hl.2 c ((kK _ _ _).subset hc)⟩) Fp.nil
  ·rename_i m' z q
   cases q
   obtain ⟨a',vs,Fs,rfl,rfl,ha',ra⟩:=r3.lst_inv
   refine .inr ⟨a',vs,rfl,by rw [hK];exact SqL.of ha',iA e03 e4 (ra.cut l h) ((f1.sub (Yv _ _)).sub (pw (kK _ _ _))) fun v H4 F e5 r4 f4=>k v H4 F (e03.trans e5) r4 f4⟩
  ·cases e4
noncomputable def tyS:Ty->String
 | .int => "int"
 | .str => "str"
 | .bool => "bool"
 | .list => "list"
 | .tuple => "tuple"
 | .dict => "dict"
noncomputable def rIs (K:Y2):List V->Hp->VK->Prop:=fun vs H Q=>∃ x c t b,vs=[x,.ty c]/\TyOf K H x t/\PySem.W.kitOne K t (.type c)=some b/\Q (.bl b) H
theorem yi:dP X (.builtin "isinstance") (rIs X.K):=by
 intro pins s σ H xs us Q I r h
 obtain ⟨x,c,t,b,rfl,ty,e,q⟩:=h
 obtain ⟨u,w',rfl,r1,r2⟩:=vals2 r
 cases r2
 exact uw I r1 ty e fun tk=>⟨.bl b,H,I.tok _,rfl,q⟩
theorem yG (K:Y2) (ty:Ty):(PySem.W.kitOne K (.type "NoneType") (.type (tyS ty))=some false)/\(PySem.W.kitOne K (.type "bool") (.type (tyS ty))=some (oW ty (.bl true)))/\(PySem.W.kitOne K (.type "int") (.type (tyS ty))=some (oW ty (.int 0))) ∧
  (PySem.W.kitOne K (.type "str") (.type (tyS ty))=some (oW ty (.str [])))/\(PySem.W.kitOne K (.type "list") (.type (tyS ty))=some (oW ty (.lst [])))/\(PySem.W.kitOne K (.type "tuple") (.type (tyS ty))=some (oW ty (.tup [])))/\(PySem.W.kitOne K (.type "dict") (.type (tyS ty))=some (oW ty (.dct 0 []))):=by
 cases ty <;> refine ⟨?_,?_,?_,?_,?_,?_,?_⟩ <;> kernel_rfl
theorem Cv {H:Hp} {v:V} {t:T} {F:X0} (ty:Ty) (r:Rp G H v t F) (h:tD t=true):∃ t',TyOf G.K H v t'/\PySem.W.kitOne G.K t' (.type (tyS ty))=some (oW ty t):=by
 obtain ⟨k1,k2,k3,k4,k5,k6,k7⟩:=yG G.K ty
 cases r with
 | non=>exact ⟨_,.non,by rw [k1];cases ty <;> rfl⟩
 | bl b=>exact ⟨_,.bl b,by rw [k2];cases ty <;> rfl⟩
 | int i=>exact ⟨_,.int i,by rw [k3];cases ty <;> rfl⟩
 | str s _=>exact ⟨_,.str _,by rw [k4];cases ty <;> rfl⟩
 | scr _=>cases h
 | tup h' q=>exact ⟨_,.tup h',by rw [k6];cases ty <;> rfl⟩
 | lst h' q=>exact ⟨_,.lst h',by rw [k5];cases ty <;> rfl⟩
 | dct h' l q=>exact ⟨_,.dK h',by rw [k7];cases ty <;> rfl⟩
 | dctT h' l q=>exact ⟨_,.dT h',by rw [k7];cases ty <;> rfl⟩
 | dctN h' l n q=>simp at h
 | dctZ _ _ _=>cases h
 | exc _ _=>cases h
 | ins _ _ _ _=>cases h
 | mk _ _=>cases h
theorem C2 (ty:Ty) {x:Str} {p1 p2:Pos} (ha:PV G X a ca) (hg:Gl X "isinstance") (hm:X.mg "isinstance" = none) (hg2:Gl X x) (hm2:X.mg x=none) (hv:bootBuiltins x=some (.type (tyS ty))) (hK:X.K=G.K:=by rfl)
  (hn:x ≠ "__name__" := by decide) (hdb:(x == ("__debug__" : Str))=false:=by decide) (hs:starEach [a,.Name x p2] X.env=(false,eval a X.env) :: starEach [.Name x p2] X.env:=by rfl)
  (hs2:starEach [.Name x p2] X.env=(false,eval (.Name x p2) X.env) :: starEach [] X.env:=by rfl) (hpl:(backTo pos (starEach [Expr.Name x p2] X.env)).any (·.1)=false:=by rfl) :
  PV G X (.Call (.Name "isinstance" p1) [a,.Name x p2] [] pos) (eIs ty ca) :=
 PE.weak (qg yi hg hm boot_isinstance (bU ha (bU (za (v:=.ty (tyS ty)) hg2 hm2 hv rfl hn hdb) dC hs2) hs) (by decide) rfl hs hpl) fun σ H Q hq=>by
  obtain ⟨Φ,η,m,t,s,e,k⟩:=hq
  unfold eIs at e
  obtain ⟨⟨mx,y⟩,ea,e'⟩:=Zz.mp e
  split at e'
  ·rename_i hk
   cases e'
   refine ⟨Φ,η,mx,y,s,ea,fun v H' F e1 r1 f1=>?_⟩
   obtain ⟨t',h1,h2⟩:=Cv ty r1 hk
   exact ⟨v,tyS ty,t',_,rfl,by rw [hK];exact h1,by rw [hK];exact h2,k _ H' _ e1 (.bl _) Fp.nil⟩
  ·cases e'
end
section
variable {G:Gx} {X:Cx} {a b c e:Expr} {es:List Expr} {ca cb cc:Ex} {cs:Exs} {pos p:Pos}
noncomputable def Cu (G:Gx) (r:V->List V->Hp->VK->Prop) (f:Val->Wk->Wj):Prop:=∀ (Φ:Fps) (η:VS.Env) (H0 H1 H:Hp) (x:Val) (v:V) (F:X0) (l:Wk) (vs:List V) (Fs:Y1) (m:Md) (t:T) (Q:VK),
 aD H0 H1->Rp G H v x.2 F->Fp Φ η H0 x.1 F->Args G Φ η H1 H l vs Fs->f x l=some (m,t)->(∀ v H' F,aD H H'->Rp G H' v t F->Fp Φ η H0 m F->Q v H')->r v vs H Q
theorem Cs {T' id:String} {name:Str} {r:V->List V->Hp->VK->Prop} {f:Val->Wk->Wj} {apos cpos:Pos} (pa:PlainAttrs T') (slot:Slot T' name id) (hty:typeOf (.builtin id)=pure (.type "method_descriptor")) (hm:MtR X id r) (ok:Cu G r f)
  (hT:∀ H v (x:Val) F l z,Rp G H v x.2 F->f x l=some z->tyV G.K T' v H) (ho:PV G X a ca) (ha:PVs G X (e :: es) cs) (hK:X.K=G.K:=by rfl)
  (hbase:attributeBase a name X.env (eval a X.env)=eval a X.env:=by rfl)
  (hfew:((backTo cpos (starEach (e :: es) X.env)).all (fun x=>!x.1) && (backToKw cpos (keywordEach [] X.env)).all (fun x=>x.1.isSome)
   && decide ((e :: es).length+([]:List Keyword).length+(if ([]:List Keyword).isEmpty then 0 else 1) < 30))=true:=by rfl)
  (hline:(apos.endLine == cpos.line)=true:=by rfl) (hs:starEach (e :: es) X.env=(false,eval e X.env) :: starEach es X.env:=by rfl) (hplain:(backTo cpos (starEach es X.env)).any (·.1)=false:=by rfl) :
  PV G X (.Call (.Attribute a name apos) (e :: es) [] cpos) (eM f ca cs) :=
 PE.weak (ki pa slot hty hm ho ha hbase hfew hline hs hplain) fun σ H Q hq=>by
  obtain ⟨Φ,η,m,t,s,e,k⟩:=hq
  unfold eM at e
  obtain ⟨x,ea,e'⟩:=Zz.mp e
  obtain ⟨l,el,e''⟩:=Zz.mp e'
  refine ⟨Φ,η,x.1,x.2,s,ea,fun v H1 F e1 r1 f1=>⟨by rw [hK];exact hT H1 v x F l _ r1 e'',Φ,η,l,s.same e1,el,fun vs H2 Fs e2 r2 f2=>?_⟩⟩
  exact ok Φ η H H1 H2 x v F l vs Fs m t Q e1 (r1.same e2) f1 ⟨e2,r2,f2⟩ e'' fun v' H3 F' e3 r3 f3=>k v' H3 F' ((e1.trans e2).trans e3) r3 f3
theorem zh:∀ (sep:Tx) (ss:List Tx),Txt.join (sx sep) (ss.map sx)=sx (c6 sep ss):=by
 intro sep ss
 have fold:∀ (l:List Tx) (acc:Tx),(l.map sx).foldl (fun acc p=>acc++(sx sep).cps++p.cps) acc.toArray=(l.foldl (fun acc p=>acc++sep++p) acc).toArray:=by
  intro l
  induction l with
  | nil=>intro acc;rfl
  | cons x r ih =>
   intro acc
   rw [Zl,YZ,YZ,← ih]
   congr 1
   simp [sx]
 have jf:∀ (r:List Tx) (acc:Tx),r.foldl (fun acc p=>acc++sep++p) acc=c6 sep (acc :: r):=by
  intro r
  induction r with
  | nil=>intro acc;rfl
  | cons x r ih =>
   intro acc
   rw [YZ,ih]
   cases r with
   | nil=>rfl
   | cons y r=>simp [c6]
 cases ss with
 | nil=>rfl
 | cons x r =>
  show (⟨_⟩:Str)=⟨_⟩
  congr 1
  show ((r.map sx).foldl _ x.toArray)=_
  rw [fold,jf]
theorem n9 {H:Hp}:∀ {vs:List V} {l:Wi} {Fs:Y1} {ss:List Tx},RpL G H vs l Fs->strs? l=some ss->vs=ss.map fun s=>V.str (sx s)
 | _,_,_,_,.nil,e=>by cases e;rfl
 | _,_,_,_,.cons (t:=t) r q,e=>by
  cases t with
  | str s =>
   simp only [strs?] at e
   obtain ⟨ss',e1,e2⟩:=Zw.mp e
   subst e2
   rw [n9 q e1,r.str_inv.1]
   rfl
  | _=>cases e
theorem lV:∀ {ss:List Tx} {us:Wx},aO (ss.map fun s=>V.str (sx s)) us->StrsAre us (ss.map sx)
 | [],_,h=>by cases h;exact .nil
 | s :: ss,_,h=>by
  cases h with
  | cons r q =>
   obtain ⟨t,rfl⟩:=r
   exact .cons _ _ (lV q)
noncomputable def rJoin (K:Y2):V->List V->Hp->VK->Prop:=fun x vs H Q=>∃ sep p ss,x=.str (sx sep)/\vs=[.ref p]/\SqL K H p (ss.map fun s=>V.str (sx s))/\total ss+ss.length * sep.length<=16777216/\Q (.str (sx (c6 sep ss))) H
theorem rY:∀ ss:List Tx,((ss.map sx).map (·.length)).sum=total ss
 | []=>rfl
 | s :: r=>by
  rw [Zl,Zl,Xq,rY r,c8]
  rfl
theorem sW:MtR X "str.join" (rJoin X.K):=by
 intro pins s σ H x xs v us Q I rx rxs h
 obtain ⟨sep,p,ss,rfl,rfl,hq,hl,q⟩:=h
 obtain ⟨t,rfl⟩:=rx
 obtain ⟨u,rfl,ru⟩:=vals1 rxs
 cases ru
 obtain ⟨its,r,pl,hz⟩:=I.list hq
 refine join_list pl.isList (ys:=ss.map sx) (by simpa using lV r) ?_ fun t' k=>⟨.str _,H,I.tok _,⟨_,by rw [zh]⟩,q⟩
 rw [rY,Zv,c8]
 exact hl
theorem ji (sep:Tx):∀ ss:List Tx,(c6 sep ss).length<=total ss+ss.length * sep.length
 | []=>by simp [c6,total]
 | [x]=>by simp [c6,total]
 | x :: y :: r=>by
  have:=ji sep (y :: r)
  simp only [c6,total,Zt,Zn] at this ⊢
  have e:(r.length+1+1) * sep.length=(r.length+1) * sep.length+sep.length:=X2 _ _
  lia
theorem iR (sep:Tx):∀ (ss:List Tx) (c:Nat),c∈c6 sep ss->c∈sep\/∃ s∈ss,c∈s
 | [],c,h=>by simp [c6] at h
 | [x],c,h=>.inr ⟨x,Zx,h⟩
 | x :: y :: r,c,h=>by
  simp only [c6,Ze] at h
  rcases h with (h | h) | h
  ·exact .inr ⟨x,Zx,h⟩
  ·exact .inl h
  ·exact (iR sep (y :: r) c h).imp id fun ⟨s,hs,hc⟩=>⟨s,Zy _ hs,hc⟩
theorem iW {H:Hp}:∀ {vs:List V} {l:Wi} {Fs:Y1} {ss:List Tx},RpL G H vs l Fs->strs? l=some ss->∀ s∈ss,∀ c∈s,c < 1114112
 | _,_,_,_,.nil,e,s,hs=>by cases e;simp at hs
 | _,_,_,_,.cons (t:=t) r q,e,s,hs=>by
  cases t with
  | str x =>
   simp only [strs?] at e
   obtain ⟨ss',e1,e2⟩:=Zw.mp e
   subst e2
   rcases Zo.mp hs with rfl | hs
   ·exact r.str_inv.2.2
   ·exact iW q e1 s hs
  | _=>cases e
theorem zx:Cu G (rJoin G.K) gS:=by
 intro Φ η H0 H1 H x v F l vs Fs m t Q s01 r f A e k
 unfold gS at e
 split at e
 ·rename_i mx sep ml l'
  obtain ⟨ss,es',e'⟩:=Zz.mp e
  split at e'
  ·rename_i hl
   cases e'
   obtain ⟨w',F',rfl,rfl,rl⟩:=(show RpL G H vs [.lst l'] Fs from A.rp).one
   obtain ⟨a',ws,Gs,rfl,rfl,ha,ra⟩:=rl.lst_inv
   rw [n9 ra es'] at ha
   refine ⟨sep,a',ss,r.str_inv.1,rfl,SqL.of ha,hl,bP k (.str _ ⟨ZG (ji sep ss) hl,fun c hc=>(iR sep ss c hc).elim (r.str_inv.2.2 c) fun ⟨s',hs',hc'⟩=>iW ra es' s' hs' c hc'⟩)⟩
  ·cases e'
 ·cases e
theorem qq {H:Hp} {v:V} {t:T} {F:X0} (r:Rp G H v t F) (h:∃ s,t=.str s):tyV G.K "str" v H:=by
 obtain ⟨s,rfl⟩:=h
 rw [r.str_inv.1]
 rfl
theorem sA {apos cpos:Pos} (ho:PV G X a ca) (ha:PVs G X [e] cs) (hK:X.K=G.K:=by rfl)
  (hbase:attributeBase a "join" X.env (eval a X.env)=eval a X.env:=by rfl)
  (hfew:((backTo cpos (starEach [e] X.env)).all (fun x=>!x.1) && (backToKw cpos (keywordEach [] X.env)).all (fun x=>x.1.isSome)
   && decide ([e].length+([]:List Keyword).length+(if ([]:List Keyword).isEmpty then 0 else 1) < 30))=true:=by rfl)
  (hline:(apos.endLine == cpos.line)=true:=by rfl) (hs:starEach [e] X.env=(false,eval e X.env) :: starEach [] X.env:=by rfl) (hplain:(backTo cpos (starEach [] X.env)).any (·.1)=false:=by rfl) :
  PV G X (.Call (.Attribute a "join" apos) [e] [] cpos) (eM gS ca cs) :=
 Cs PySem.F.plainAttrs_str PySem.F.slot_str_join PySem.F.type_str_join (hK ▸ sW) zx (fun H v x F l z r e=>qq r (by
  unfold gS at e
  split at e
  ·exact ⟨_,rfl⟩
  ·cases e)) ho ha hK hbase hfew hline hs hplain
end
end VS
end
section
namespace VS
@[simp] noncomputable def oIx (x y:Val):Wj:=match x.2 with
 | .dct 0 l=>if eY y.2 then (cL l y.2).map (sub x.1) else none
 | _=>aE x y
@[simp] noncomputable def flat:T->Bool
 | .non=>true
 | .bl _=>true
 | .int _=>true
 | .str _=>true
 | _=>false
@[simp] noncomputable def jP (x y:Val):Wj:=match y.2 with
 | .dct 0 l=>if eY x.2 then some (.fr,.bl (cL l x.2).isSome) else none
 | .lst l=>if flat x.2 && l.all flat then some (.fr,.bl (l.any fun y=>eqT y x.2)) else none
 | .tup l=>if flat x.2 && l.all flat then some (.fr,.bl (l.any fun y=>eqT y x.2)) else none
 | _=>none
@[simp] noncomputable def bT (x y:Val):Wj:=match jP x y with
 | some (_,.bl b)=>some (.fr,.bl (!b))
 | _=>none
noncomputable def pm {α:Type} (f:T->Option (T×α)):List Ky->T->Option (T×α)
 | [],t=>f t
 | .fld k :: r,.obj (c+1) (q :: fs)=>(fs.findIdx? fun p=>p.1 == k).bind fun i=>(fs[i]?).bind fun p=>(pm f r p.2).map fun z=>(.obj (c+1) (q :: fs.set i (p.1,z.1)),z.2)
 | .un :: r,.obj 0 [(0,.bl true),(m,x)]=>(pm f r x).map fun z=>(.obj 0 [(0,.bl true),(m,z.1)],z.2)
 | .at (.int i) :: r,.lst l=>(ixP l.length i).bind fun j=>(l[j]?).bind fun x=>(pm f r x).map fun z=>(.lst (l.set j z.1),z.2)
 | .at k :: r,.dct 0 l=>if eY k then (l.findIdx? fun p=>eqT p.1 k).bind fun i=>(l[i]?).bind fun p=>(pm f r p.2).map fun z=>(.dct 0 (l.set i (p.1,z.1)),z.2) else none
 | _,_=>none
end VS
end
section
namespace VS
open PySem PySem.Spec PyProof.Rows L2
section
variable {G:Gx} {X:Cx} {a b c e:Expr} {es:List Expr} {ca cb cc:Ex} {cs:Exs} {pos p:Pos}
mutual
noncomputable def toP:T->PyData
 | .non=>.none
 | .bl b=>.bool b
 | .int i=>.int i
 | .str s=>.str (sx s)
 | .tup l=>.tuple (kW l)
 | .lst l=>.list (kW l)
 | _=>.none
noncomputable def kW:Wi->List PyData
 | []=>[]
 | t :: r=>toP t :: kW r
end
theorem Cd {s:Tx} (h:l5 s):PyData.strOk (sx s)=true:=by
 unfold PyData.strOk sx
 simp only [Array.all_eq_true,decide_eq_true_eq]
 intro i hi
 have:s.toArray[i]∈s:=by simp
 have:=h.2 _ this
 simpa using this
theorem vJ {s t:Tx}:(sx s == sx t)=(s == t):=by
 rw [Y4,beq_iff_eq,beq_iff_eq]
 constructor
 ·intro h
  have:(sx s).cps=(sx t).cps:=by rw [h]
  simpa [sx] using this
 ·intro h
  rw [h]
mutual
theorem oq:∀ (n k:Nat) (t u:T),eqD n t=true->eqD k u=true->PyData.eqv (toP t) (toP u)=eqT t u
 | n,k,t,u,h1,h2=>by
  cases t with
  | scr _=>cases n <;> simp at h1
  | dct _ _=>cases n <;> simp at h1
  | obj _ _=>cases n <;> simp at h1
  | tup l =>
   cases n with
   | zero=>simp at h1
   | succ n =>
    cases u with
    | tup r =>
     cases k with
     | zero=>simp at h2
     | succ k =>
      simp only [toP,PyData.eqv,eqT]
      exact lI n k l r (by simpa using h1) (by simpa using h2)
    | scr _=>cases k <;> simp at h2
    | dct _ _=>cases k <;> simp at h2
    | obj _ _=>cases k <;> simp at h2
    | _=>simp [toP,PyData.eqv,eqT]
  | lst l =>
   cases n with
   | zero=>simp at h1
   | succ n =>
    cases u with
    | lst r =>
     cases k with
     | zero=>simp at h2
     | succ k =>
      simp only [toP,PyData.eqv,eqT]
      exact lI n k l r (by simpa using h1) (by simpa using h2)
    | scr _=>cases k <;> simp at h2
    | dct _ _=>cases k <;> simp at h2
    | obj _ _=>cases k <;> simp at h2
    | _=>simp [toP,PyData.eqv,eqT]
  | str s =>
   cases u with
   | str r=>simp only [toP,PyData.eqv,eqT];exact vJ
   | scr _=>cases k <;> simp at h2
   | dct _ _=>cases k <;> simp at h2
   | obj _ _=>cases k <;> simp at h2
   | _=>simp [toP,PyData.eqv,eqT]
  | _ =>
   cases u with
   | scr _=>cases k <;> simp at h2
   | dct _ _=>cases k <;> simp at h2
   | obj _ _=>cases k <;> simp at h2
   | _=>simp [toP,PyData.eqv,eqT]
theorem lI:∀ (n k:Nat) (l r:Wi),(∀ t∈l,eqD n t=true)->(∀ t∈r,eqD k t=true)->PyData.eqvAll (kW l) (kW r)=rg l r
 | _,_,[],[],_,_=>rfl
 | _,_,[],_ :: _,_,_=>rfl
 | _,_,_ :: _,[],_,_=>rfl
 | n,k,t :: l,u :: r,h1,h2=>by
  simp only [kW,PyData.eqvAll,rg]
  rw [oq n k t u (h1 t Zx) (h2 u Zx),lI n k l r (fun x hx=>h1 x (Zy _ hx)) fun x hx=>h2 x (Zy _ hx)]
end
theorem Rp.tup_inv5 {H:Hp} {v:V} {ts:Wi} {F:X0} (r:Rp G H v (.tup ts) F):∃ b vs Fs,v=.ref b/\H b=some (.tup vs)/\RpL G H vs ts Fs:=by
 cases r with
 | tup h q=>exact ⟨_,_,_,rfl,h,q⟩
theorem Rp.lst_inv5 {H:Hp} {v:V} {ts:Wi} {F:X0} (r:Rp G H v (.lst ts) F):∃ b vs Fs,v=.ref b/\H b=some (.lst vs)/\RpL G H vs ts Fs:=by
 cases r with
 | lst h q=>exact ⟨_,_,_,rfl,h,q⟩
theorem j0 {H:Hp} {s:Shared} {n:Nat} (rd:∀ {v:V} {t:T} {F:X0} {u:Value},Rp G H v t F->RelV v u->eqD n t=true->∃ as,Reads s.heap u (toP t) as/\(toP t).canLay0=true/\(toP t).depth<=n):∀ {vs:List V} {ts:Wi} {Fs:Y1} {us:Wx},RpL G H vs ts Fs->aO vs us->(∀ t∈ts,eqD n t=true) →
  ∃ as,ReadsAll s.heap us (kW ts) as/\PyData.canLayAll0 (kW ts)=true/\PyData.depthAll (kW ts)<=n
 | _,_,_,_,.nil,r,_=>by cases r;exact ⟨_,.nil,rfl,Yt _⟩
 | _,_,_,_,.cons p q,r,h=>by
  cases r with
  | cons r1 r2 =>
   obtain ⟨as,h1,h2,h3⟩:=rd p r1 (h _ Zx)
   obtain ⟨bs,g1,g2,g3⟩:=j0 rd q r2 fun t ht=>h t (Zy _ ht)
   exact ⟨_,.cons h1 g1,by simp only [kW,PyData.canLayAll0,h2,g2,Bool.and_self],by simp only [kW,PyData.depthAll];lia⟩
theorem lP {h:Heap} {H:Hp} {v:V} {t:T} {F:X0} {u:Value} {n:Nat} (r:Rp G H v t F) (ru:RelV v u) (hf:flat t=true):∃ as,Reads h u (toP t) as/\(toP t).canLay0=true/\(toP t).depth<=n:=by
 cases r with
 | non=>cases ru;exact ⟨_,.none,rfl,Yt _⟩
 | bl b=>cases ru;exact ⟨_,.bool b,rfl,Yt _⟩
 | int i=>obtain ⟨t,rfl⟩:=ru;exact ⟨_,.int i t,rfl,Yt _⟩
 | str s h=>obtain ⟨t,rfl⟩:=ru;exact ⟨_,.str _ t,Cd h,Yt _⟩
 | _=>cases hf
theorem jM {H:Hp} {pins:Z7} {σ:L2.St} {s:Shared} (I:Inv X pins σ H s) (n:Nat):∀ {v:V} {t:T} {F:X0} {u:Value},Rp G H v t F->RelV v u->eqD n t=true->∃ as,Reads s.heap u (toP t) as/\(toP t).canLay0=true/\(toP t).depth<=n:=by
 induction n with
 | zero =>
  intro v t F u r ru h
  refine lP r ru ?_
  cases t <;> first | rfl | exact h
 | succ n ih =>
  intro v t F u r ru h
  cases t with
  | tup l =>
   obtain ⟨b,vs,Fs,rfl,e,q⟩:=Rp.tup_inv5 r
   cases ru
   obtain ⟨its,rv,tp,hz⟩:=I.tuple (SqT.of e)
   obtain ⟨as,h1,h2,h3⟩:=j0 ih q rv (by simpa using h)
   obtain ⟨o,ho,hc,n',hd⟩:=tp
   exact ⟨_,.tuple ho hc hd (by simpa using h1),h2,by simp only [toP,PyData.depth];exact YC h3⟩
  | lst l =>
   obtain ⟨b,vs,Fs,rfl,e,q⟩:=Rp.lst_inv5 r
   cases ru
   obtain ⟨its,rv,pl,hz⟩:=I.list (SqL.of e)
   obtain ⟨as,h1,h2,h3⟩:=j0 ih q rv (by simpa using h)
   obtain ⟨o,ho,hc,n',hd⟩:=pl.isList
   exact ⟨_,.list ho hc hd (by simpa using h1),h2,by simp only [toP,PyData.depth];exact YC h3⟩
  | scr _=>simp at h
  | dct _ _=>simp at h
  | obj _ _=>simp at h
  | _=>exact lP r ru rfl
noncomputable def yQ (G:Gx) (neg:Bool):R2:=fun x y H Q=>∃ t u F F',Rp G H x t F/\Rp G H y u F'/\eqD 60 t=true/\eqD 60 u=true/\Q (.bl (if neg then !eqT t u else eqT t u)) H
theorem iC {d:PyData} (h:d.canLay0=true) (h2:d.depth<=60):SeqAt.shaped d=true:=by
 unfold SeqAt.shaped
 rw [h,Bool.true_and]
 exact decide_eq_true (by lia)
theorem qY (hu:X.A.units+64 < cLine):OpR X (compareOp .Eq) (yQ G false):=by
 intro pins s σ H x y v u Q I rx ry h
 obtain ⟨t,w,F,F',r1,r2,h1,h2,q⟩:=h
 obtain ⟨as,a1,a2,a3⟩:=jM I 60 r1 rx h1
 obtain ⟨bs,b1,b2,b3⟩:=jM I 60 r2 ry h2
 refine eq_dataH a1 b1 (iC a2 a3) (iC b2 b3) hu ⟨.bl _,H,I,rfl,?_⟩
 rw [oq 60 60 t w h1 h2]
 exact q
theorem qu (hu:X.A.units+64 < cLine):OpR X (compareOp .NotEq) (yQ G true):=by
 intro pins s σ H x y v u Q I rx ry h
 obtain ⟨t,w,F,F',r1,r2,h1,h2,q⟩:=h
 obtain ⟨as,a1,a2,a3⟩:=jM I 60 r1 rx h1
 obtain ⟨bs,b1,b2,b3⟩:=jM I 60 r2 ry h2
 refine ne_dataH a1 b1 (iC a2 a3) (iC b2 b3) hu ⟨.bl _,H,I,rfl,?_⟩
 rw [oq 60 60 t w h1 h2]
 exact q
theorem xS:fD G (yQ G false) oEq:=by
 intro Φ η H0 H x y u w F1 F2 m t Q tw e k
 unfold oEq at e
 split at e
 ·rename_i h
  cases e
  exact ⟨_,_,_,_,tw.r1,tw.r2,h.1,h.2,bP k (.bl _)⟩
 ·cases e
theorem vi:fD G (yQ G true) oNe:=by
 intro Φ η H0 H x y u w F1 F2 m t Q tw e k
 unfold oNe at e
 split at e
 ·rename_i h
  cases e
  exact ⟨_,_,_,_,tw.r1,tw.r2,h.1,h.2,bP k (.bl _)⟩
 ·cases e
theorem tells_eq:Tells oEq:=by
 intro x y m t e
 unfold oEq at e
 split at e <;> first | (cases e;exact ⟨_,rfl⟩) | cases e
theorem kX:Tells oNe:=by
 intro x y m t e
 unfold oNe at e
 split at e <;> first | (cases e;exact ⟨_,rfl⟩) | cases e
end
structure Frm (Φ:Fps) (η:VS.Env) (H:Hp) (Φ':Fps) (η':VS.Env) (H':Hp):Prop where
 keep:∀ a o,H a=some o->¬ bc Φ η a->H' a=some o/\¬ bc Φ' η' a
 dom:∀ a,H a ≠ none->H' a ≠ none
 ow:∀ a,bc Φ' η' a->bc Φ η a\/H a=none
 pu:∀ a,cB Φ' η' a->cB Φ η a\/bc Φ η a\/H a=none
 kept:Kept H H'
theorem Frm.refl (Φ:Fps) (η:VS.Env) (H:Hp):Frm Φ η H Φ η H:=⟨fun a o h n=>⟨h,n⟩,fun _ h=>h,fun _ h=>.inl h,fun _ h=>.inl h,Kept.refl H⟩
theorem Frm.none {Φ Φ':Fps} {η η':VS.Env} {H H':Hp} (f:Frm Φ η H Φ' η' H') {a:Addr} (h:H' a=none):H a=none:=by
 cases e:H a with
 | none=>rfl
 | some o=>exact absurd h (f.dom a (by rw [e];exact fun z=>nomatch z))
theorem Frm.trans {Φ Φ1 Φ2:Fps} {η η1 η2:VS.Env} {H H1 H2:Hp} (f:Frm Φ η H Φ1 η1 H1) (g:Frm Φ1 η1 H1 Φ2 η2 H2):Frm Φ η H Φ2 η2 H2 where
 keep:=fun a o h n=>let ⟨h1,n1⟩:=f.keep a o h n;g.keep a o h1 n1
 dom:=fun a h=>g.dom a (f.dom a h)
 ow:=fun a h=>by
  rcases g.ow a h with h | h
  ·exact f.ow a h
  ·exact .inr (f.none h)
 pu:=fun a h=>by
  rcases g.pu a h with h | h | h
  ·exact f.pu a h
  ·rcases f.ow a h with h | h
   ·exact .inr (.inl h)
   ·exact .inr (.inr h)
  ·exact .inr (.inr (f.none h))
 kept:=f.kept.trans g.kept
theorem Frm.same {Φ:Fps} {η:VS.Env} {H H':Hp} (e:aD H H'):Frm Φ η H Φ η H' :=
 ⟨fun a o h n=>⟨e a o h,n⟩,fun a h z=>h (e.free z),fun _ h=>.inl h,fun _ h=>.inl h,Kept.of e⟩
noncomputable def oQ (Φ:Fps) (η:VS.Env) (H:Hp):Md->X0->Prop
 | .fr,F=>F.Nodup/\∀ a∈F,H a=none\/bc Φ η a
 | _,F=>∀ a∈F,H a=none\/cB Φ η a\/bc Φ η a
theorem oQ.back {Φ Φ1:Fps} {η η1:VS.Env} {H H1:Hp} (f:Frm Φ η H Φ1 η1 H1) {F:X0}:∀ {m:Md},oQ Φ1 η1 H1 m F->oQ Φ η H m F
 | .fr,h=>⟨h.1,fun a ha=>(h.2 a ha).elim (fun z=>.inl (f.none z)) fun z=>(f.ow a z).elim .inr .inl⟩
 | .pu,h=>fun a ha=>by
  rcases h a ha with z | z | z
  ·exact .inl (f.none z)
  ·rcases f.pu a z with z | z | z
   ·exact .inr (.inl z)
   ·exact .inr (.inr z)
   ·exact .inl z
  ·exact (f.ow a z).elim (fun z=>.inr (.inr z)) .inl
 | .bo,h=>fun a ha=>by
  rcases h a ha with z | z | z
  ·exact .inl (f.none z)
  ·rcases f.pu a z with z | z | z
   ·exact .inr (.inl z)
   ·exact .inr (.inr z)
   ·exact .inl z
  ·exact (f.ow a z).elim (fun z=>.inr (.inr z)) .inl
noncomputable def Nx (G:Gx) (Φ:Fps) (η:VS.Env) (H:Hp) (η':VS.Env) (k:L2.St->Hp->Prop):Prop:=∀ Φ' σ' H',SR G Φ' η' σ' H'->Frm Φ η H Φ' η' H'->k σ' H'
noncomputable def rK (G:Gx) (Φ:Fps) (η:VS.Env) (H:Hp) (D:Ends):Out->Prop
 | .nx η'=>Nx G Φ η H η' D.nx
 | .bk η'=>Nx G Φ η H η' D.bk
 | .ct η'=>Nx G Φ η H η' D.ct
 | .rt v η'=>∀ u H' F Φ' σ',SR G Φ' η' σ' H'->Frm Φ η H Φ' η' H'->Rp G H' u v.2 F->oQ Φ η H v.1 F->D.rt u H'
noncomputable def tS (G:Gx) (c:Sx):TS:=fun D σ H=>∃ Φ η o,SR G Φ η σ H/\c η=some o/\rK G Φ η H D o
noncomputable def PSV (G:Gx) (X:Cx) (st:Stmt) (c:Sx):Prop:=PS X st (tS G c)
noncomputable def fY (G:Gx) (X:Cx) (st:List Stmt) (c:Sx):Prop:=PSs X st (tS G c)
theorem PS.weak {X:Cx} {e:Stmt} {t t':TS} (h:PS X e t) (w:∀ D σ H,t' D σ H->t D σ H):PS X e t':=fun pins s σ H D I q=>h pins s σ H D I (w D σ H q)
theorem PSs.weak {X:Cx} {e:List Stmt} {t t':TS} (h:PSs X e t) (w:∀ D σ H,t' D σ H->t D σ H):PSs X e t':=fun pins s σ H D I q=>h pins s σ H D I (w D σ H q)
theorem rK.back {G:Gx} {Φ Φ1:Fps} {η η1:VS.Env} {H H1:Hp} {D:Ends} (f:Frm Φ η H Φ1 η1 H1):∀ {o:Out},rK G Φ η H D o->rK G Φ1 η1 H1 D o
 | .nx η',h=>fun Φ' σ' H' s g=>h Φ' σ' H' s (f.trans g)
 | .bk η',h=>fun Φ' σ' H' s g=>h Φ' σ' H' s (f.trans g)
 | .ct η',h=>fun Φ' σ' H' s g=>h Φ' σ' H' s (f.trans g)
 | .rt v η',h=>fun u H' F Φ' σ' s g r q=>h u H' F Φ' σ' s (f.trans g) r (q.back f)
section
variable {G:Gx} {X:Cx} {st:Stmt} {sts:List Stmt} {c c1 c2:Sx} {pos:Pos} {e:Expr} {ce:Ex}
theorem bO:fY G X [] dy:=PSs.weak zy fun D σ H hq=>by
 obtain ⟨Φ,η,o,s,e,k⟩:=hq
 cases (show some (Out.nx η)=some o from e)
 exact k Φ σ H s (Frm.refl _ _ _)
theorem ag (h1:PSV G X st c1) (h2:fY G X sts c2):fY G X (st :: sts) (ak c1 c2):=PSs.weak (xK h1 h2) fun D σ H hq=>by
 obtain ⟨Φ,η,o,s,e,k⟩:=hq
 unfold ak at e
 obtain ⟨o1,e1,e2⟩:=Zz.mp e
 refine ⟨Φ,η,o1,s,e1,?_⟩
 cases o1 with
 | nx η1=>exact fun Φ' σ' H' s' f=>⟨Φ',η1,o,s',e2,k.back f⟩
 | rt v η1=>cases e2;exact k
 | bk η1=>cases e2;exact k
 | ct η1=>cases e2;exact k
theorem dw {t:Expr} {ct:Ex} {a b:List Stmt} (hc:PVT G X t ct) (ha:fY G X a c1) (hb:fY G X b c2):PSV G X (.If t a b pos) (sIf ct c1 c2):=PS.weak (Ae hc ha hb) fun D σ H hq=>by
 obtain ⟨Φ,η,o,s,e,k⟩:=hq
 unfold sIf at e
 obtain ⟨⟨m,x⟩,ec,e1⟩:=Zz.mp e
 obtain ⟨b',eb,e2⟩:=Zz.mp e1
 refine ⟨Φ,η,m,x,b',s,ec,eb,fun H' e3=>?_⟩
 cases b' with
 | true =>
  rw [Zq rfl] at e2
  exact vm ⟨Φ,η,o,s.same e3,e2,k.back (Frm.same e3)⟩
 | false =>
  rw [Zm Zd] at e2
  exact vS ⟨Φ,η,o,s.same e3,e2,k.back (Frm.same e3)⟩
theorem Fp.ret {Φ:Fps} {η:VS.Env} {H:Hp} {F:X0}:∀ {m:Md},Fp Φ η H m F->oQ Φ η H (match m with | .bo=>.pu | m=>m) F
 | .fr,f=>⟨f.1,fun a ha=>.inl (f.2 a ha)⟩
 | .pu,f=>fun a ha=>(f a ha).elim .inl fun z=>.inr (.inl z)
 | .bo,f=>f
theorem cT (he:PV G X e ce):PSV G X (.Return (some e) pos) (gp ce):=PS.weak (nM he) fun D σ H hq=>by
 obtain ⟨Φ,η,o,s,e,k⟩:=hq
 unfold gp at e
 obtain ⟨⟨m,x⟩,ec,e1⟩:=Zz.mp e
 cases e1
 exact ⟨Φ,η,m,x,s,ec,fun v H' F e1 r1 f1=>k v H' F Φ σ (s.same e1) (Frm.same e1) r1 f1.ret⟩
theorem cw {η:VS.Env} {i j:Nat} {c:Cell} (h:(η.set i none)[j]?=some (some c)):j ≠ i/\η[j]?=some (some c):=by
 rw [X9] at h
 split at h
 ·split at h <;> cases h
 ·rename_i n
  exact ⟨fun z=>n z.symm,h⟩
theorem SR.drop {Φ:Fps} {η:VS.Env} {σ:L2.St} {H:Hp} (s:SR G Φ η σ H) (i:Nat):SR G Φ (η.set i none) σ H :=
 ⟨by rw [Z9];exact s.len,fun j c h=>s.rp j c (cw h).2,fun j t h=>s.nd j t (cw h).2,fun j k t c h1 h2 n=>s.sep j k t c (cw h1).2 (cw h2).2 n⟩
theorem Frm.drop {Φ:Fps} {η:VS.Env} {H:Hp} (i:Nat):Frm Φ η H Φ (η.set i Option.none) H :=
 ⟨fun a o h n=>⟨h,fun ⟨j,t,h1,h2⟩=>n ⟨j,t,(cw h1).2,h2⟩⟩,fun _ h=>h,fun a ⟨j,t,h1,h2⟩=>.inl ⟨j,t,(cw h1).2,h2⟩,fun a ⟨j,t,h1,h2⟩=>.inl ⟨j,t,(cw h1).2,h2⟩,Kept.refl H⟩
theorem dz (i:Nat) {x:Str} {p:Pos} (hN:X.N[i]?=some x:=by rfl) (hv:Vis X.env.scope x:=by first | exact Or.inl rfl | exact Or.inr (Or.inl rfl) | exact Or.inr (Or.inr rfl)) (hd:(x == ("__debug__" : Str))=false:=by decide)
  (hcd:(x == ("__classdict__" : Str))=false:=by decide):PSV G X (.Return (some (.Name x p)) pos) (eR i):=PS.weak (nM (dB hN hv hd hcd)) fun D σ H hq=>by
 obtain ⟨Φ,η,o,s,e,k⟩:=hq
 unfold eR at e
 split at e
 ·rename_i t h
  obtain ⟨v,h1,h2⟩:=s.rp _ _ h
  cases e
  exact ⟨v,h1,k v H (Φ i) Φ σ (s.drop i) (Frm.drop i) h2 ⟨s.nd i t h,fun a ha=>.inr ⟨i,t,h,ha⟩⟩⟩
 ·rename_i t h
  obtain ⟨v,h1,h2⟩:=s.rp _ _ h
  cases e
  refine ⟨v,h1,k v H (Φ i) Φ σ s (Frm.refl _ _ _) h2 ?_⟩
  have f:Fp Φ η H .pu (Φ i):=fun a ha=>.inr ⟨i,t,h,ha⟩
  have f2:=(f.up h2).ret
  have:(match (VS.up .pu (gR (.pu t))).1 with | .bo=>Md.pu | m=>m)=(VS.up .pu t).1:=by
   show (match (VS.up .pu t).1 with | .bo=>Md.pu | m=>m)=_
   unfold VS.up
   split <;> (rename_i q;revert q;split <;> simp)
  rw [this] at f2
  exact f2
 ·cases e
noncomputable def jb (Φ:Fps) (i:Nat) (F:X0):Fps:=fun j=>if j=i then F else Φ j
theorem gA {Φ:Fps} {i:Nat} {F:X0}:jb Φ i F i=F:=Zq rfl
theorem d9 {Φ:Fps} {i j:Nat} {F:X0} (h:j ≠ i):jb Φ i F j=Φ j:=Zm h
theorem gu {η:VS.Env} {i j:Nat} {c c':Cell} (h:(η.set i (some c))[j]?=some (some c')):(j=i/\c'=c)\/(j ≠ i/\η[j]?=some (some c')):=by
 rw [X9] at h
 split at h
 ·rename_i e
  split at h
  ·exact .inl ⟨e.symm,(Zk (Zk h)).symm⟩
  ·cases h
 ·rename_i n
  exact .inr ⟨fun z=>n z.symm,h⟩
theorem SR.put {Φ:Fps} {η:VS.Env} {σ:L2.St} {H H':Hp} {i:Nat} {v:V} {c:Cell} {F:X0} (s:SR G Φ η σ H) (hi:i < η.length) (r:Rp G H' v (gR c) F)
  (hk:∀ j c',j ≠ i->η[j]?=some (some c')->∀ w,Rp G H w (gR c') (Φ j)->Rp G H' w (gR c') (Φ j))
  (hnd:∀ t,c=.ow t->F.Nodup) (hown:∀ t,c=.ow t->∀ j c',j ≠ i->η[j]?=some (some c')->∀ a∈F,a ∉ Φ j) (hpu:∀ j t,j ≠ i->η[j]?=some (some (.ow t))->∀ a∈Φ j,a ∉ F) :
  SR G (jb Φ i F) (η.set i (some c)) (σ.set i (some v)) H' where
 len:=by rw [Z9,Z9];exact s.len
 rp:=fun j c' h=>by
  rcases gu h with ⟨rfl,rfl⟩ | ⟨n,h⟩
  ·exact ⟨v,by rw [YM (by rw [← s.len];exact hi)],by rw [gA];exact r⟩
  ·obtain ⟨w,h1,h2⟩:=s.rp j c' h
   exact ⟨w,by rw [Ys (Yk n)];exact h1,by rw [d9 n];exact hk j c' n h w h2⟩
 nd:=fun j t h=>by
  rcases gu h with ⟨rfl,e⟩ | ⟨n,h⟩
  ·rw [gA];exact hnd t e.symm
  ·rw [d9 n];exact s.nd j t h
 sep:=fun j k t c' h1 h2 n=>by
  rcases gu h1 with ⟨rfl,e⟩ | ⟨n1,g1⟩
  ·rcases gu h2 with ⟨rfl,e2⟩ | ⟨n2,g2⟩
   ·exact absurd rfl n
   ·rw [gA,d9 n2]
    exact hown t e.symm k c' n2 g2
  ·rcases gu h2 with ⟨rfl,e2⟩ | ⟨n2,g2⟩
   ·rw [gA,d9 n1]
    exact hpu j t n1 g1
   ·rw [d9 n1,d9 n2]
    exact s.sep j k t c' g1 g2 n
theorem jc {Φ:Fps} {η:VS.Env} {i:Nat} {c:Cell} {F:X0} {a:Addr} (h:bc (jb Φ i F) (η.set i (some c)) a):(∃ t,c=.ow t/\a∈F)\/bc Φ η a:=by
 obtain ⟨j,t,h1,h2⟩:=h
 rcases gu h1 with ⟨rfl,e⟩ | ⟨n,h1⟩
 ·rw [gA] at h2;exact .inl ⟨t,e.symm,h2⟩
 ·rw [d9 n] at h2;exact .inr ⟨j,t,h1,h2⟩
theorem oG {Φ:Fps} {η:VS.Env} {i:Nat} {c:Cell} {F:X0} {a:Addr} (h:cB (jb Φ i F) (η.set i (some c)) a):(∃ t,c=.pu t/\a∈F)\/cB Φ η a:=by
 obtain ⟨j,t,h1,h2⟩:=h
 rcases gu h1 with ⟨rfl,e⟩ | ⟨n,h1⟩
 ·rw [gA] at h2;exact .inl ⟨t,e.symm,h2⟩
 ·rw [d9 n] at h2;exact .inr ⟨j,t,h1,h2⟩
theorem SR.ow_pu {Φ:Fps} {η:VS.Env} {σ:L2.St} {H:Hp} (s:SR G Φ η σ H) {a:Addr} (h:bc Φ η a) (h':cB Φ η a):False:=by
 obtain ⟨j,t,h1,h2⟩:=h
 obtain ⟨k,u,g1,g2⟩:=h'
 have n:j ≠ k:=fun e=>by subst e;rw [h1] at g1;cases g1
 exact s.sep j k t _ h1 g1 n a h2 g2
theorem SR.val {Φ:Fps} {η:VS.Env} {σ:L2.St} {H H':Hp} {i:Nat} {v:V} {t:T} {m:Md} {F:X0} {c:Cell} (s:SR G Φ η σ H) (hi:i < η.length) (e:aD H H') (r:Rp G H' v t F) (f:Fp Φ η H m F)
  (hc:(c=.pu t/\m ≠ .bo)\/(c=.ow t/\m=.fr)):SR G (jb Φ i F) (η.set i (some c)) (σ.set i (some v)) H'/\Frm Φ η H (jb Φ i F) (η.set i (some c)) H':=by
 have dom:∀ {a},H a=none->∀ j c',η[j]?=some (some c')->a ∉ Φ j:=fun {a} h j c' hj ha=>by
  obtain ⟨w,_,q⟩:=s.rp j c' hj
  exact Mut.ne_none (q.dom a ha) h
 have ct:gR c=t:=by rcases hc with ⟨rfl,_⟩ | ⟨rfl,_⟩ <;> rfl
 have fpu:∀ a∈F,H a=none\/cB Φ η a:=fun a ha=>by
  rcases hc with ⟨_,n⟩ | ⟨_,n⟩
  ·exact f.pu n a ha
  ·rw [n] at f;exact .inl (f.2 a ha)
 constructor
 ·refine s.put hi (by rw [ct];exact r) (fun j c' n hj w q=>q.same e) (fun u hu=>?_) (fun u hu j c' n hj a ha=>?_) fun j u n hj a ha hF=>?_
  ·rcases hc with ⟨h,_⟩ | ⟨_,h⟩
   ·rw [h] at hu;cases hu
   ·rw [h] at f;exact f.1
  ·rcases hc with ⟨h,_⟩ | ⟨_,h⟩
   ·rw [h] at hu;cases hu
   ·rw [h] at f;exact dom (f.2 a ha) j c' hj
  ·rcases fpu a hF with z | z
   ·exact dom z j _ hj ha
   ·exact s.ow_pu ⟨j,u,hj,ha⟩ z
 ·refine ⟨fun a o h n=>⟨e a o h,fun z=>?_⟩,fun a h z=>h (e.free z),fun a h=>?_,fun a h=>?_,Kept.of e⟩
  ·rcases jc z with ⟨u,hu,ha⟩ | z
   ·rcases hc with ⟨h',_⟩ | ⟨_,h'⟩
    ·rw [h'] at hu;cases hu
    ·rw [h'] at f
     rw [f.2 a ha] at h;cases h
   ·exact n z
  ·rcases jc h with ⟨u,hu,ha⟩ | z
   ·rcases hc with ⟨h',_⟩ | ⟨_,h'⟩
    ·rw [h'] at hu;cases hu
    ·rw [h'] at f
     exact .inr (f.2 a ha)
   ·exact .inl z
  ·rcases oG h with ⟨u,hu,ha⟩ | z
   ·exact (fpu a ha).elim (fun z=>.inr (.inr z)) .inl
   ·exact .inl z
theorem dA {i:Nat} {x:Str} {pos':Pos} (he:PV G X e ce) (hN:X.N.Nodup) (hi:X.N[i]?=some x:=by rfl) (hx:Loc X.env.scope x:=by first | exact Or.inl rfl | exact Or.inr rfl)
  (hs:swapsWith e (some (.Name x pos')) pos.line X.env=pure false:=by rfl) (hf:X.fn x=true\/X.env.scope.names.lookup x=some .local:=by first | exact .inl rfl | exact .inr rfl) :
  PSV G X (.Assign [.Name x pos'] e pos) (gD i ce):=PS.weak (jZ hN hi hx he hs hf) fun D σ H hq=>by
 obtain ⟨Φ,η,o,s,e,k⟩:=hq
 unfold gD at e
 obtain ⟨⟨m,t⟩,ec,e1⟩:=Zz.mp e
 obtain ⟨c,eC,e2⟩:=Zz.mp e1
 split at e2
 ·rename_i hl
  cases e2
  refine ⟨Φ,η,m,t,s,ec,fun v H' F e3 r3 f3=>?_⟩
  obtain ⟨q1,q2⟩:=s.val (c:=c) hl e3 r3 f3 (by
   unfold cellOf at eC
   cases m with
   | fr =>
    simp only [Option.some.injEq] at eC
    split at eC
    ·exact .inr ⟨eC.symm,rfl⟩
    ·exact .inl ⟨eC.symm,by decide⟩
   | pu=>cases eC;exact .inl ⟨rfl,by decide⟩
   | bo=>cases eC)
  exact k _ _ H' q1 q2
 ·cases e2
theorem aB {i:Nat} {x:Str} {pos':Pos} (he:PV G X e ce) (hN:X.N.Nodup) (hi:X.N[i]?=some x:=by rfl) (hx:Loc X.env.scope x:=by first | exact Or.inl rfl | exact Or.inr rfl)
  (hs:swapsWith e (some (.Name x pos')) pos.line X.env=pure false:=by rfl) (hf:X.fn x=true\/X.env.scope.names.lookup x=some .local:=by first | exact .inl rfl | exact .inr rfl) :
  PSV G X (.Assign [.Name x pos'] e pos) (aK i ce):=PS.weak (jZ hN hi hx he hs hf) fun D σ H hq=>by
 obtain ⟨Φ,η,o,s,e,k⟩:=hq
 unfold aK at e
 obtain ⟨⟨m,t⟩,ec,e1⟩:=Zz.mp e
 split at e1
 ·cases e1
 ·rename_i hm
  split at e1
  ·rename_i hl
   cases e1
   refine ⟨Φ,η,m,t,s,ec,fun v H' F e3 r3 f3=>?_⟩
   obtain ⟨q1,q2⟩:=s.val (c:=.pu t) hl e3 r3 f3 (.inl ⟨rfl,hm⟩)
   exact k _ _ H' q1 q2
  ·cases e1
theorem SR.frz {Φ:Fps} {η:VS.Env} {σ:L2.St} {H:Hp} {i:Nat} {t:T} (s:SR G Φ η σ H) (h:η[i]?=some (some (.ow t))):SR G Φ (η.set i (some (.pu t))) σ H/\Frm Φ η H Φ (η.set i (some (.pu t))) H:=by
 have back:∀ {j c},(η.set i (some (.pu t)))[j]?=some (some c)->∃ c',η[j]?=some (some c')/\gR c'=gR c/\∀ u,c=.ow u->c'=.ow u:=fun {j c} hj=>by
  rcases gu hj with ⟨rfl,rfl⟩ | ⟨n,hj⟩
  ·exact ⟨.ow t,h,rfl,fun u hu=>nomatch hu⟩
  ·exact ⟨c,hj,rfl,fun u hu=>hu⟩
 refine ⟨⟨by rw [Z9];exact s.len,fun j c hj=>?_,fun j u hj=>?_,fun j k u c h1 h2 n=>?_⟩,⟨fun a o ha n=>⟨ha,fun ⟨j,u,h1,h2⟩=>?_⟩,fun _ h=>h,fun a ⟨j,u,h1,h2⟩=>?_,fun a ⟨j,u,h1,h2⟩=>?_,Kept.refl H⟩⟩
 ·obtain ⟨c',h1,h2,_⟩:=back hj
  obtain ⟨v,g1,g2⟩:=s.rp j c' h1
  exact ⟨v,g1,by rw [← h2];exact g2⟩
 ·obtain ⟨c',h1,_,h3⟩:=back hj
  rw [h3 u rfl] at h1
  exact s.nd j u h1
 ·obtain ⟨c1,g1,_,g3⟩:=back h1
  obtain ⟨c2,k1,_,_⟩:=back h2
  rw [g3 u rfl] at g1
  exact s.sep j k u c2 g1 k1 n
 ·obtain ⟨c1,g1,_,g3⟩:=back h1
  rw [g3 u rfl] at g1
  exact n ⟨j,u,g1,h2⟩
 ·obtain ⟨c1,g1,_,g3⟩:=back h1
  rw [g3 u rfl] at g1
  exact .inl ⟨j,u,g1,h2⟩
 ·rcases gu h1 with ⟨rfl,_⟩ | ⟨n,h1⟩
  ·exact .inr (.inl ⟨j,t,h,h2⟩)
  ·exact .inl ⟨j,u,h1,h2⟩
theorem gH (i:Nat) (h:fY G X sts c):fY G X sts (ak (ox i) c):=PSs.weak h fun D σ H hq=>by
 obtain ⟨Φ,η,o,s,e,k⟩:=hq
 unfold ak at e
 obtain ⟨o1,e1,e2⟩:=Zz.mp e
 unfold ox at e1
 split at e1
 ·rename_i t ht
  cases e1
  obtain ⟨q1,q2⟩:=s.frz ht
  exact ⟨Φ,_,o,q1,e2,k.back q2⟩
 ·cases e1
  exact ⟨Φ,η,o,s,e2,k⟩
 ·cases e1
end
section
variable {G:Gx} {X:Cx} {st:Stmt} {sts:List Stmt} {c c1 c2:Sx} {pos:Pos} {e:Expr} {es:List Expr} {ce:Ex} {cs:Exs}
structure Chg (G:Gx) (H:Hp) (v:V) (F:X0) (t':T) (H2:Hp) (F':X0):Prop where
 kept:Kept H H2
 keep:∀ b o,b ∉ F->H b=some o->H2 b=some o
 dom:∀ b,H b ≠ none->H2 b ≠ none
 rp:Rp G H2 v t' F'
 nd:F'.Nodup
 sub:∀ a∈F',a∈F\/H a=none
theorem SR.mut {Φ:Fps} {η:VS.Env} {σ:L2.St} {H H2:Hp} {i:Nat} {v:V} {t t':T} {F':X0} (s:SR G Φ η σ H) (hi:η[i]?=some (some (.ow t))) (hv:σ[i]?=some (some v)) (g:Chg G H v (Φ i) t' H2 F') :
  SR G (jb Φ i F') (η.set i (some (.ow t'))) σ H2/\Frm Φ η H (jb Φ i F') (η.set i (some (.ow t'))) H2:=by
 have hl:i < η.length:=(Zf.mp hi).1
 have off:∀ j c',j ≠ i->η[j]?=some (some c')->∀ a∈Φ j,a ∉ Φ i:=fun j c' n hj a ha ha'=>s.sep i j t c' hi hj (Yk n) a ha' ha
 have es:σ.set i (some v)=σ:=by
  obtain ⟨h,e⟩:=Zf.mp hv
  rw [← e]
  exact XQ h
 have new:∀ a∈F',∀ j c',j ≠ i->η[j]?=some (some c')->a ∉ Φ j:=fun a ha j c' n hj ha'=>by
  rcases g.sub a ha with z | z
  ·exact off j c' n hj a ha' z
  ·obtain ⟨w,_,q⟩:=s.rp j c' hj
   exact Mut.ne_none (q.dom a ha') z
 constructor
 ·have:=s.put (c:=.ow t') (F:=F') (H':=H2) (v:=v) hl g.rp (fun j c' n hj w q=>q.keep g.kept fun a ha o ho=>g.keep a o (off j c' n hj a ha) ho) (fun _ _=>g.nd) (fun u hu j c' n hj a ha=>new a ha j c' n hj) fun j u n hj a ha ha'=>new a ha' j _ n hj ha
  rw [es] at this
  exact this
 ·refine ⟨fun a o h n=>⟨g.keep a o (fun z=>n ⟨i,t,hi,z⟩) h,fun z=>?_⟩,g.dom,fun a h=>?_,fun a h=>?_,g.kept⟩
  ·rcases jc z with ⟨u,_,ha⟩ | z
   ·rcases g.sub a ha with z | z
    ·exact n ⟨i,t,hi,z⟩
    ·rw [z] at h;cases h
   ·exact n z
  ·rcases jc h with ⟨u,_,ha⟩ | z
   ·rcases g.sub a ha with z | z
    ·exact .inl ⟨i,t,hi,z⟩
    ·exact .inr z
   ·exact .inl z
  ·rcases oG h with ⟨u,hu,ha⟩ | z
   ·cases hu
   ·exact .inl z
noncomputable def vU (G:Gx) (r:V->List V->Hp->VK->Prop) (f:T->Wk->Option (T×Val)):Prop:=∀ (Φ:Fps) (η:VS.Env) (H H1:Hp) (v:V) (t t':T) (F:X0) (l:Wk) (vs:List V) (Fs:Y1) (x:Val) (Q:VK),
 Rp G H v t F->F.Nodup->Args G Φ η H H1 l vs Fs->f t l=some (t',x)->(∀ u H2 F',Chg G H v F t' H2 F'->Q u H2)->r v vs H1 Q
theorem vy {T' id:String} {name x:Str} {r:V->List V->Hp->VK->Prop} {f:T->Wk->Option (T×Val)} {apos cpos p1:Pos} (i:Nat) (pa:PlainAttrs T') (slot:Slot T' name id) (hty:typeOf (.builtin id)=pure (.type "method_descriptor")) (hm:MtR X id r) (ok:vU G r f)
  (hT:∀ H v t F l z,Rp G H v t F->f t l=some z->tyV G.K T' v H) (ha:PVs G X (e :: es) cs) (hK:X.K=G.K:=by rfl)
  (hN:X.N[i]?=some x:=by rfl) (hv:Vis X.env.scope x:=by first | exact Or.inl rfl | exact Or.inr (Or.inl rfl) | exact Or.inr (Or.inr rfl)) (hd:(x == ("__debug__" : Str))=false:=by decide)
  (hcd:(x == ("__classdict__" : Str))=false:=by decide)
  (hbase:attributeBase (.Name x p1) name X.env (eval (.Name x p1) X.env)=eval (.Name x p1) X.env:=by rfl)
  (hfew:((backTo cpos (starEach (e :: es) X.env)).all (fun x=>!x.1) && (backToKw cpos (keywordEach [] X.env)).all (fun x=>x.1.isSome)
   && decide ((e :: es).length+([]:List Keyword).length+(if ([]:List Keyword).isEmpty then 0 else 1) < 30))=true:=by rfl)
  (hline:(apos.endLine == cpos.line)=true:=by rfl) (hs:starEach (e :: es) X.env=(false,eval e X.env) :: starEach es X.env:=by rfl) (hplain:(backTo cpos (starEach es X.env)).any (·.1)=false:=by rfl)
  (hsw:swapsWith (.Call (.Attribute (.Name x p1) name apos) (e :: es) [] cpos) none pos.line X.env=pure false:=by rfl) :
  PSV G X (.Expr (.Call (.Attribute (.Name x p1) name apos) (e :: es) [] cpos) pos) (sX (l9 i [] f cs)) :=
 PS.weak (iy (ki pa slot hty hm (dB hN hv hd hcd) ha hbase hfew hline hs hplain) hsw) fun D σ H hq=>by
  obtain ⟨Φ,η,o,s,e,k⟩:=hq
  unfold sX l9 at e
  obtain ⟨⟨x',η'⟩,e1,e2⟩:=Zw.mp e
  split at e1
  ·rename_i t ht
   obtain ⟨ks,ek,e3⟩:=Zz.mp e1
   cases (show some ([]:List Ky)=some ks from ek)
   obtain ⟨l,el,e4⟩:=Zz.mp e3
   obtain ⟨⟨t',x2⟩,e5,e6⟩:=Zw.mp e4
   cases e6
   cases e2
   obtain ⟨v,h1,h2⟩:=s.rp _ _ ht
   have e7:f t l=some (t',x'):=e5
   refine ⟨v,h1,by rw [hK];exact hT H v t _ l _ h2 e7,Φ,η,l,s,el,fun vs H' Fs q1 q2 q3=>?_⟩
   refine ok Φ η H H' v t t' (Φ i) l vs Fs x' _ h2 (s.nd i t ht) ⟨q1,q2,q3⟩ e7 fun u H2 F' g=>?_
   obtain ⟨w1,w2⟩:=s.mut ht h1 g
   exact k _ σ H2 w1 w2
  ·cases e1
theorem Chg.upd {H H1:Hp} {v:V} {F:X0} {a:Addr} {o:HO} {t':T} {F':X0} (e:aD H H1) (ha:a∈F) (hm:Mut (H1 a)) (r:Rp G (upd H1 a o) v t' F') (nd:F'.Nodup) (sub:∀ a∈F',a∈F\/H a=none):Chg G H v F t' (upd H1 a o) F' :=
 ⟨(Kept.of e).trans (Kept.upd (.inl hm)),fun b o' hb h=>by rw [ax (fun z=>hb (by rw [z];exact ha))];exact e b o' h,
  fun b h z=>by
   by_cases q:b=a
   ·subst q;rw [ar] at z;cases z
   ·rw [ax q] at z;exact h (e.free z),r,nd,sub⟩
theorem RpL.off {H:Hp} {vs:List V} {ts:Wi} {Fs:Y1} {a:Addr} {o:HO} (r:RpL G H vs ts Fs) (hm:Mut (H a)) (h:a ∉ Fs.flatten):RpL G (upd H a o) vs ts Fs :=
 r.keep (Kept.upd (.inl hm)) fun b hb o' ho=>by rw [ax (fun z=>h (by rw [← z];exact hb))];exact ho
theorem kI {v:Val} {t:T} (h:fit v=some t):v=(.fr,t):=by
 obtain ⟨m,x⟩:=v
 unfold fit at h
 cases m <;> first | (cases h;rfl) | cases h
theorem iD:vU G kP aH:=by
 intro Φ η H H1 v t t' F l vs Fs x Q r nd A e k
 unfold aH at e
 split at e
 ·rename_i ts y
  obtain ⟨z,ez,e1⟩:=Zz.mp e
  have ey:=kI ez
  subst ey
  split at e1
  ·rename_i hl
   cases e1
   obtain ⟨a,us,Gs,rfl,rfl,ha,ra⟩:=r.lst_inv
   obtain ⟨w,Fw,rfl,rfl,rw'⟩:=(show RpL G H1 vs [z] Fs from A.rp).one
   have fw:Fp Φ η H .fr Fw:=A.fp.each 0 _ _ rfl rfl
   have ha1:H1 a=some (.lst us):=A.same a _ ha
   have m1:Mut (H1 a):=by rw [ha1];exact True.intro
   have na:a ∉ Gs.flatten:=(Zh.mp nd).1
   have nw:a ∉ Fw:=fun z=>by rw [fw.2 a z] at ha;cases ha
   refine ⟨a,us,w,rfl,rfl,ha1,by rw [ra.len.1];exact hl,k _ _ (a :: (Gs++[Fw]).flatten) ?_⟩
   have off:∀ b∈Gs.flatten,b ∉ Fw:=fun b hb hw=>Mut.ne_none (ra.dom b hb) (fw.2 b hw)
   refine Chg.upd A.same Zx m1 (.lst ar (((ra.same A.same).off m1 na).append (.cons (rw'.keep (Kept.upd (.inl m1)) fun b hb o ho=>by rw [ax (fun z=>nw (by rw [← z];exact hb))];exact ho) .nil))) ?_ ?_
   ·rw [Z8]
    refine Zh.mpr ⟨fun m=>?_,ZX.mpr ⟨(Zh.mp nd).2,by simpa using fw.1,fun b hb c hc z=>?_⟩⟩
    ·rcases Ze.mp m with m | m
     ·exact na m
     ·exact nw (by simpa using m)
    ·subst z;exact off b hb (by simpa using hc)
   ·intro b hb
    rcases Zo.mp hb with rfl | hb
    ·exact .inl Zx
    ·rw [Z8] at hb
     rcases Ze.mp hb with hb | hb
     ·exact .inl (Zy _ hb)
     ·exact .inr (fw.2 b (by simpa using hb))
  ·cases e1
 ·cases e
theorem oV {H:Hp} {v:V} {ts:Wi} {F:X0} (r:Rp G H v (.lst ts) F):tyV G.K "list" v H:=by
 obtain ⟨a,us,Gs,rfl,rfl,ha,ra⟩:=r.lst_inv
 exact .inl ⟨rfl,_,SqL.of ha⟩
theorem h9 {H:Hp} {v:V} {t:T} {F:X0} {l:Wk} {z:T×Val} (r:Rp G H v t F) (h:aH t l=some z):tyV G.K "list" v H:=by
 unfold aH at h
 split at h
 ·exact oV r
 ·cases h
end
structure ItOk (G:Gx) (J:It) (l:Wi) (C:X0) (H:Hp):Prop where
 run:∀ H2,Kept H H2->(∀ a∈C,∀ o,H a=some o->H2 a=some o) →
  (∀ (i:Nat) (t:T),l[i]?=some t->J.go i H2/\∀ x H3,J.yld i H2 x H3->aD H2 H3/\∃ F,Rp G H3 x t F/\∀ a∈F,a∈C\/H2 a=none)/\∀ (i:Nat),l.length<=i->J.stop i H2
 dom:∀ a∈C,H a ≠ none
noncomputable def FpC (Φ:Fps) (η:VS.Env) (H:Hp) (m:Md) (C:X0):Prop:=∀ a∈C,H a=none\/cB Φ η a\/(m=.bo/\bc Φ η a)
theorem Fp.c {Φ:Fps} {η:VS.Env} {H:Hp} {F:X0}:∀ {m:Md},Fp Φ η H m F->FpC Φ η H m F
 | .fr,f=>fun a ha=>.inl (f.2 a ha)
 | .pu,f=>fun a ha=>(f a ha).imp id .inl
 | .bo,f=>fun a ha=>(f a ha).imp id fun z=>z.imp id fun z=>⟨rfl,z⟩
noncomputable def tI (G:Gx) (c:Its):TI:=fun σ H R=>∃ Φ η m l,SR G Φ η σ H/\c η=some (m,l)/\∀ J H' C,aD H H'->ItOk G J l C H'->FpC Φ η H m C->R J H'
noncomputable def PVI (G:Gx) (X:Cx) (tg iter:Expr) (c:Its):Prop:=PI X tg iter (tI G c)
theorem PI.weak {X:Cx} {tg e:Expr} {t t':TI} (h:PI X tg e t) (w:∀ σ H Q,t' σ H Q->t σ H Q):PI X tg e t':=fun pins s σ H Q I q=>h pins s σ H Q I (w σ H Q q)
section
variable {G:Gx} {X:Cx} {tg e a b:Expr} {es:List Expr} {ca cb:Ex} {cs:Exs} {pos p:Pos}
theorem pf (H:Hp) (lo:Int) (n:Nat):ItOk G (Itr lo n) (rng lo n) [] H:=by
 refine ⟨fun H2 _ _=>⟨fun i t h=>?_,fun i h=>(by simpa [rng] using h:n<=i)⟩,fun a h=>by simp at h⟩
 unfold rng at h
 rw [ZQ] at h
 obtain ⟨k,hk,e⟩:=Zw.mp h
 obtain ⟨hlt,e2⟩:=Zf.mp hk
 rw [ZR] at hlt
 have ek:i=k:=by simpa using e2
 subst ek
 refine ⟨hlt,fun x H3 ⟨e3,e4⟩=>?_⟩
 subst e3
 subst e4
 rw [← e]
 exact ⟨aD.refl _,[],.int _,fun a h=>by simp at h⟩
theorem d5 (ha:PV G X a ca) (hg:Gl X "range") (hm:X.mg "range" = none) (hs:starEach [a] X.env=(false,eval a X.env) :: starEach [] X.env:=by rfl) (hs':starEach [a] X.env=[(false,eval a X.env)]:=by rfl):PVI G X tg (.Call (.Name "range" p) [a] [] pos) (bH ca) :=
 PI.weak (mR hg hm (bU ha dC hs) hs') fun σ H R hq=>by
  obtain ⟨Φ,η,m,l,s,e,k⟩:=hq
  unfold bH at e
  obtain ⟨⟨mx,x⟩,ea,e1⟩:=Zz.mp e
  obtain ⟨j,ej,e2⟩:=Zz.mp e1
  split at e2
  ·rename_i hj
   cases e2
   refine ⟨Φ,η,mx,x,s,ea,fun v H' F e3 r3 f3=>?_⟩
   cases x with
   | int j' =>
    cases ej
    refine ⟨j,by rw [r3.int_inv],?_,?_,k _ H' [] e3 (pf H' 0 j.toNat) fun a h=>by simp at h⟩
    ·have:=hj.1;unfold B62 at this;lia
    ·have:=hj.2;unfold B62 at this;lia
   | _=>cases ej
  ·cases e2
theorem qy (ha:PV G X a ca) (hb:PV G X b cb) (hg:Gl X "range") (hm:X.mg "range" = none) (hs:starEach [a,b] X.env=(false,eval a X.env) :: starEach [b] X.env:=by rfl) (hs':starEach [a,b] X.env=[(false,eval a X.env),(false,eval b X.env)]:=by rfl) (hs1:starEach [b] X.env=(false,eval b X.env) :: starEach [] X.env:=by rfl) (hs2:starEach [b] X.env=[(false,eval b X.env)]:=by rfl) :
  PVI G X tg (.Call (.Name "range" p) [a,b] [] pos) (jI ca cb) :=
 PI.weak (uF hg hm (bU ha (bU hb dC hs1) hs) hs' hs2) fun σ H R hq=>by
  obtain ⟨Φ,η,m,l,s,e,k⟩:=hq
  unfold jI at e
  obtain ⟨⟨mx,x⟩,ea,e1⟩:=Zz.mp e
  obtain ⟨⟨my,y⟩,eb,e1⟩:=Zz.mp e1
  obtain ⟨i,ei,e2⟩:=Zz.mp e1
  obtain ⟨j,ej,e2⟩:=Zz.mp e2
  split at e2
  ·rename_i hj
   cases e2
   refine ⟨Φ,η,mx,x,s,ea,fun v H' F e3 r3 f3=>⟨Φ,η,my,y,s.same e3,eb,fun w H2 F2 e4 r4 f4=>?_⟩⟩
   cases x with
   | int i' =>
    cases ei
    cases y with
    | int j' =>
     cases ej
     refine ⟨i,j,by rw [r3.int_inv,r4.int_inv],?_,k _ H2 [] (e3.trans e4) (pf H2 i (j - i).toNat) fun a h=>by simp at h⟩
     unfold B62 at hj
     omega
    | _=>cases ej
   | _=>cases ei
  ·cases e2
theorem cM {Fs:Y1} {i:Nat} {F:X0} (h:Fs[i]?=some F) {a:Addr} (ha:a∈F):a∈Fs.flatten:=(bK h).subset ha
theorem ye {H:Hp} {a:Addr} {vs:List V} {ts:Wi} {Fs:Y1} (K:Y2) (ha:H a=some (.lst vs)) (r:RpL G H vs ts Fs):ItOk G (Itl K a) ts (a :: Fs.flatten) H:=by
 refine ⟨fun H2 k c=>?_,fun b hb=>?_⟩
 ·have ha2:H2 a=some (.lst vs):=c a Zx _ ha
  have r2:RpL G H2 vs ts Fs:=r.keep k fun b hb o ho=>c b (Zy _ hb) o ho
  refine ⟨fun i t h=>?_,fun i h=>⟨vs,SqL.of ha2,by rw [r.len.1];exact h⟩⟩
  obtain ⟨v,F,h1,h2,h3⟩:=r2.get i h
  refine ⟨⟨vs,v,SqL.of ha2,h1⟩,fun x H3 ⟨e1,e2⟩=>?_⟩
  subst e1
  have ex:=e2 vs (SqL.of ha2)
  rw [h1] at ex
  cases ex
  exact ⟨aD.refl _,F,h3,fun b hb=>.inl (Zy _ (cM h2 hb))⟩
 ·rcases Zo.mp hb with rfl | hb
  ·rw [ha];exact fun z=>nomatch z
  ·exact Mut.ne_none (r.dom b hb)
theorem AA {H:Hp} {a:Addr} {vs:List V} {ts:Wi} {Fs:Y1} (K:Y2) (ha:H a=some (.tup vs)) (r:RpL G H vs ts Fs):ItOk G (Itt K a) ts Fs.flatten H:=by
 refine ⟨fun H2 k c=>?_,fun b hb=>Mut.ne_none (r.dom b hb)⟩
 have ha2:H2 a=some (.tup vs):=k.tup a _ ha
 have r2:RpL G H2 vs ts Fs:=r.keep k fun b hb o ho=>c b hb o ho
 refine ⟨fun i t h=>?_,fun i h=>⟨vs,SqT.of ha2,by rw [r.len.1];exact h⟩⟩
 obtain ⟨v,F,h1,h2,h3⟩:=r2.get i h
 refine ⟨⟨vs,v,SqT.of ha2,h1⟩,fun x H3 ⟨e1,e2⟩=>?_⟩
 subst e1
 have ex:=e2 vs (SqT.of ha2)
 rw [h1] at ex
 cases ex
 exact ⟨aD.refl _,F,h3,fun b hb=>.inl (cM h2 hb)⟩
noncomputable def tG (G:Gx) (g:Tg):TG:=fun v σ H Q=>∃ Φ η t F η',SR G Φ η σ H/\Rp G H v t F/\(∀ a∈F,¬ bc Φ η a)/\g t η=some η' ∧
 ∀ Φ' σ',SR G Φ' η' σ' H->(∀ a,bc Φ' η' a->bc Φ η a)->(∀ a,cB Φ' η' a->cB Φ η a\/a∈F)->Q σ' H
noncomputable def tGs (G:Gx) (gs:List Tg):TGs:=fun vs σ H Q=>∃ Φ η ts Fs η',SR G Φ η σ H/\RpL G H vs ts Fs/\(∀ a∈Fs.flatten,¬ bc Φ η a)/\qA gs ts η=some η' ∧
 ∀ Φ' σ',SR G Φ' η' σ' H->(∀ a,bc Φ' η' a->bc Φ η a)->(∀ a,cB Φ' η' a->cB Φ η a\/a∈Fs.flatten)->Q σ' H
noncomputable def PVG (G:Gx) (X:Cx) (e:Expr) (g:Tg):Prop:=PG X e (tG G g)
noncomputable def x6 (G:Gx) (X:Cx) (e:List Expr) (g:List Tg):Prop:=PGs X e (tGs G g)
theorem PG.weak {X:Cx} {e:Expr} {t t':TG} (h:PG X e t) (w:∀ v σ H Q,t' v σ H Q->t v σ H Q):PG X e t':=fun pins s σ H v u Q I r q=>h pins s σ H v u Q I r (w v σ H Q q)
theorem PGs.weak {X:Cx} {e:List Expr} {t t':TGs} (h:PGs X e t) (w:∀ v σ H Q,t' v σ H Q->t v σ H Q):PGs X e t':=fun pins s σ H v u Q I r q=>h pins s σ H v u Q I r (w v σ H Q q)
theorem aX (i:Nat) {x:Str} (hN:X.N.Nodup) (hi:X.N[i]?=some x:=by rfl) (hx:Loc X.env.scope x:=by first | exact Or.inl rfl | exact Or.inr rfl)
  (hf:X.fn x=true\/X.env.scope.names.lookup x=some .local:=by first | exact .inl rfl | exact .inr rfl):PVG G X (.Name x pos) (aT i):=PG.weak (sN hN hi hx hf) fun v σ H Q hq=>by
 obtain ⟨Φ,η,t,F,η',s,r,no,e,k⟩:=hq
 unfold aT at e
 split at e
 ·rename_i hl
  cases e
  refine k (jb Φ i F) (σ.set i (some v)) (s.put (c:=.pu t) hl r (fun j c' n hj w q=>q) (fun u hu=>nomatch hu) (fun u hu=>nomatch hu) fun j u n hj a ha ha'=>no a ha' ⟨j,u,hj,ha⟩) (fun a h=>?_) fun a h=>?_
  ·rcases jc h with ⟨u,hu,_⟩ | z
   ·cases hu
   ·exact z
  ·rcases oG h with ⟨u,hu,ha⟩ | z
   ·exact .inr ha
   ·exact .inl z
 ·cases e
theorem xg:x6 G X [] []:=PGs.weak yO fun v σ H Q hq=>by
 obtain ⟨Φ,η,ts,Fs,η',s,r,no,e,k⟩:=hq
 cases r with
 | nil =>
  cases (show some η=some η' from e)
  exact ⟨rfl,k Φ σ s (fun _ h=>h) fun _ h=>.inl h⟩
 | cons r q=>cases (show (none:Option VS.Env)=some η' from e)
theorem mW {g:Tg} {gs:List Tg} (h1:PVG G X e g) (h2:x6 G X es gs) (hs:(assignEach (e :: es) X.env).map (·.2)=assign e X.env :: (assignEach es X.env).map (·.2):=by rfl):x6 G X (e :: es) (g :: gs) :=
 PGs.weak (wa h1 h2 hs) fun v σ H Q hq=>by
  obtain ⟨Φ,η,ts,Fs,η',s,r,no,e,k⟩:=hq
  cases r with
  | nil=>cases (show (none:Option VS.Env)=some η' from e)
  | cons r q =>
   rename_i v' t' F' vs' ts' Fs'
   obtain ⟨η1,e1,e2⟩:=Zz.mp e
   refine ⟨_,_,rfl,Φ,η,_,_,η1,s,r,fun a ha=>no a (by rw [ZV];exact Yw _ ha),e1,fun Φ1 σ1 s1 o1 p1=>?_⟩
   refine ⟨Φ1,η1,_,_,η',s1,q,fun a ha z=>no a (by rw [ZV];exact ZW _ ha) (o1 a z),e2,fun Φ2 σ2 s2 o2 p2=>k Φ2 σ2 s2 (fun a h=>o1 a (o2 a h)) fun a h=>?_⟩
   rcases p2 a h with h | h
   ·rcases p1 a h with h | h
    ·exact .inl h
    ·exact .inr (by rw [ZV];exact Yw _ h)
   ·exact .inr (by rw [ZV];exact ZW _ h)
theorem pS:∀ {gs:List Tg} {ts:Wi} {η η':VS.Env},qA gs ts η=some η'->ts.length=gs.length
 | [],[],_,_,_=>rfl
 | [],_ :: _,_,_,h=>by simp [qA] at h
 | _ :: _,[],_,_,h=>by simp [qA] at h
 | g :: gs,t :: ts,η,η',h=>by
  obtain ⟨η1,_,e2⟩:=Zz.mp (show (g t η).bind (fun η'=>qA gs ts η')=some η' from h)
  simp [pS e2]
theorem zk {gs:List Tg} {k:Nat} (hc:X.calm=true) (h:x6 G X es gs) (hn:(assignEach es X.env).length=gs.length:=by rfl) (hst:(assignEach es X.env).findIdx? (·.1)=none:=by rfl) (hK:X.K=G.K:=by rfl):PVG G X (.Tuple es k pos) (t4 gs) :=
 PG.weak (BN (n:=gs.length) hc h hn hst) fun v σ H Q hq=>by
  obtain ⟨Φ,η,t,F,η',s,r,no,e,q⟩:=hq
  unfold t4 at e
  split at e
  ·rename_i l
   obtain ⟨a',vs,Fs,rfl,rfl,ha',ra⟩:=r.tup_inv
   exact ⟨a',vs,rfl,SqT.of ha',by rw [ra.len.1];exact pS e,Φ,η,l,Fs,η',s,ra,no,e,q⟩
  ·cases e
theorem m6 {tgt:Tg} {body:Sx} {l:Wi} {η:VS.Env} {i:Nat} {t:T} (h:l[i]?=some t):l.drop i=t :: l.drop (i+1):=by
 obtain ⟨hi,e⟩:=Zf.mp h
 rw [← e]
 exact Xe hi
theorem Ar {ci:Its} {g:Tg} {cb:Sx} {D:Ends} {σ:L2.St} {H:Hp} (hq:tS G (fA g ci cb) D σ H):BX (tI G ci) (tG G g) (tS G cb) D σ H:=by
 obtain ⟨Φ,η,o,s,e,k⟩:=hq
 unfold fA at e
 obtain ⟨⟨m,l⟩,el,e1⟩:=Zz.mp e
 dsimp only at e1
 split at e1
 ·rename_i hm
  have hm':m ≠ .bo:=fun z=>by rw [z] at hm;cases hm
  refine ⟨Φ,η,m,l,s,el,fun J H' C e2 ok fc=>?_⟩
  have cno:∀ a∈C,¬ bc Φ η a:=fun a ha z=>by
   rcases fc a ha with q | q | q
   ·exact Mut.ne_none (s.ow_dom z) q
   ·exact s.ow_pu z q
   ·exact hm' q.1
  refine ⟨fun i n σ2 H2=>n=l.length - i/\∃ Φ2 η2,SR G Φ2 η2 σ2 H2/\Frm Φ η H Φ2 η2 H2/\Kept H' H2/\(∀ a∈C,∀ o,H' a=some o->H2 a=some o/\¬ bc Φ2 η2 a)/\forL g cb (l.drop i) η2=some o,
   ⟨l.length - 0,rfl,Φ,η,s.same e2,Frm.same e2,Kept.refl _,fun a ha o' ho=>⟨ho,cno a ha⟩,by rw [List.drop_zero];exact e1⟩,?_⟩
  rintro i n σ2 H2 ⟨rfl,Φ2,η2,s2,f2,kp,con,e3⟩
  obtain ⟨go,stop⟩:=ok.run H2 kp fun a ha o' ho=>(con a ha o' ho).1
  cases hit:l[i]? with
  | none =>
   have hl:l.length<=i:=Yc.mp hit
   left
   rw [YL hl] at e3
   cases (show some (Out.nx η2)=some o from e3)
   exact ⟨stop i hl,k Φ2 σ2 H2 s2 f2⟩
  | some t =>
   have hl:i < l.length:=(Zf.mp hit).1
   right
   obtain ⟨g1,y1⟩:=go i t hit
   rw [m6 (tgt:=g) (body:=cb) (η:=η2) hit] at e3
   obtain ⟨η3,e4,e5⟩:=Zz.mp (show (g t η2).bind (fun η1=>(cb η1).bind fun o=>match o with
    | .nx η2=>forL g cb (l.drop (i+1)) η2
    | .ct η2=>forL g cb (l.drop (i+1)) η2
    | .bk η2=>some (.nx η2)
    | .rt v η2=>some (.rt v η2))=some o from e3)
   obtain ⟨o',e6,e7⟩:=Zz.mp e5
   refine ⟨g1,fun σ4 H4=>∃ Φ4 η4,SR G Φ4 η4 σ4 H4/\Frm Φ η H Φ4 η4 H4/\Kept H' H4/\(∀ a∈C,∀ o,H' a=some o->H4 a=some o/\¬ bc Φ4 η4 a)/\forL g cb (l.drop (i+1)) η4=some o,fun σ4 H4 ⟨Φ4,η4,q⟩=>⟨l.length - (i+1),by omega,rfl,Φ4,η4,q⟩,fun x H3 yl=>?_⟩
   obtain ⟨e8,F,rF,hF⟩:=y1 x H3 yl
   have s3:=s2.same e8
   have noF:∀ a∈F,¬ bc Φ2 η2 a:=fun a ha z=>by
    rcases hF a ha with q | q
    ·have hne:=ok.dom a q
     cases ho:H' a with
     | none=>exact hne ho
     | some o''=>exact (con a q o'' ho).2 z
    ·exact Mut.ne_none (s2.ow_dom z) q
   refine ⟨Φ2,η2,t,F,η3,s3,rF,noF,e4,fun Φ3 σ3 s4 o3 p3=>?_⟩
   have f3:Frm Φ η H Φ3 η3 H3:=⟨fun a o' h n=>let ⟨h1,n1⟩:=f2.keep a o' h n;⟨e8 a o' h1,fun z=>n1 (o3 a z)⟩,fun a h z=>f2.dom a h (e8.free z),fun a h=>f2.ow a (o3 a h),fun a h=>by
    rcases p3 a h with h | h
    ·exact f2.pu a h
    ·rcases hF a h with q | q
     ·rcases fc a q with q | q | q
      ·exact .inr (.inr q)
      ·exact .inl q
      ·exact .inr (.inl q.2)
     ·exact .inr (.inr (f2.none q)),f2.kept.trans (Kept.of e8)⟩
   have next:∀ {Φ4 η4 H4},Frm Φ3 η3 H3 Φ4 η4 H4->Kept H' H4/\∀ a∈C,∀ o,H' a=some o->H4 a=some o/\¬ bc Φ4 η4 a:=fun fb =>
    ⟨(kp.trans (Kept.of e8)).trans fb.kept,fun a ha o' ho=>by
     obtain ⟨h1,n1⟩:=con a ha o' ho
     exact fb.keep a o' (e8 a o' h1) fun z=>n1 (o3 a z)⟩
   refine ⟨Φ3,η3,o',s4,e6,?_⟩
   cases o' with
   | nx η4=>exact fun Φ4 σ4 H4 s5 fb=>⟨Φ4,η4,s5,f3.trans fb,(next fb).1,(next fb).2,e7⟩
   | ct η4=>exact fun Φ4 σ4 H4 s5 fb=>⟨Φ4,η4,s5,f3.trans fb,(next fb).1,(next fb).2,e7⟩
   | bk η4 =>
    cases (show some (Out.nx η4)=some o from e7)
    exact fun Φ4 σ4 H4 s5 fb=>k Φ4 σ4 H4 s5 (f3.trans fb)
   | rt v η4 =>
    cases (show some (Out.rt v η4)=some o from e7)
    exact fun u H4 F4 Φ4 σ4 s5 fb r5 q5=>k u H4 F4 Φ4 σ4 s5 (f3.trans fb) r5 (q5.back f3)
 ·cases e1
theorem dm {iter:Expr} {body:List Stmt} {ci:Its} {g:Tg} {cb:Sx} (hp:PassesOwn (model X.prog X.w) X.A X.env X.xe) (hc:X.calm=true) (hi:PVI G X tg iter ci) (hg:PVG G X tg g) (hb:fY G X body cb)
  (hs:∀ x,foldedSetIterable iter X.env x=pure x:=by intro _;rfl):PSV G X (.For tg iter body [] pos) (fA g ci cb):=PS.weak (Bx hp hc hi hg hb hs) fun D σ H hq=>Ar hq
end
noncomputable def Dw (H:Hp) (Fs:Y1):Md->X0->Prop
 | .fr,F=>F.Nodup/\∀ a∈F,H a=none
 | _,F=>∀ a∈F,H a=none\/a∈Fs.flatten
noncomputable def spF (G:Gx) (g:Fn):Sp:=fun vs H Q _=>∃ ts Fs m r,RpL G H vs ts Fs/\g ts=some (m,r)/\∀ v H' F,aD H H'->Rp G H' v r F->Dw H Fs m F->Q v H'
section
variable {G:Gx} {X:Cx} {k:Nat} {f:Addr} {fd:FuncData} {ps:List Str} {x:Str} {p pos:Pos} {e:Expr} {es:List Expr} {cs:Exs} {g:Fn}
theorem call_of {σ:L2.St} {H:Hp} {Q:VK} {E:XK} (h:tE G (cy g cs) σ H Q):Ak (spF G g) [] E (tEs G cs) σ H Q:=by
 obtain ⟨Φ,η,m,t,s,e,kk⟩:=h
 unfold cy at e
 obtain ⟨l,el,e1⟩:=Zz.mp e
 obtain ⟨⟨n,r⟩,er,e2⟩:=Zz.mp e1
 refine ⟨Φ,η,l,s,el,fun vs H1 Fs q1 q2 q3=>?_⟩
 have A:Args G Φ η H H1 l vs Fs:=⟨q1,q2,q3⟩
 have jn:=q3.join A.len
 show spF G g (vs++[]) H1 Q E
 rw [ZK]
 refine ⟨trees l,Fs,n,r,q2,er,fun v H' F q4 q5 q6=>?_⟩
 have wide:(∀ a∈F,H1 a=none\/a∈Fs.flatten)->Fp Φ η H ((Md.pu).join (b7 l)) F:=fun h=>by
  cases ej:b7 l with
  | fr =>
   rw [ej] at jn
   exact fun a ha=>.inl ((h a ha).elim q1.free (jn.2 a))
  | pu =>
   rw [ej] at jn
   exact fun a ha=>(h a ha).elim (fun z=>.inl (q1.free z)) (jn a)
  | bo =>
   rw [ej] at jn
   exact fun a ha=>(h a ha).elim (fun z=>.inl (q1.free z)) (jn a)
 cases n with
 | fr =>
  cases e2
  exact kk v H' F (q1.trans q4) q5 ⟨q6.1,fun a ha=>q1.free (q6.2 a ha)⟩
 | pu =>
  cases e2
  exact kk v H' F (q1.trans q4) q5 (wide q6)
 | bo =>
  cases e2
  exact kk v H' F (q1.trans q4) q5 (wide q6)
theorem zG (F:FnOk X.prog X.w X.K X.mg X.base CX0 k f fd ps (spF G g)) (hr:Room k X.A) (hg:Gl X x) (hm:X.mg x=some (.ref f)) (hk:PySem.W.keepIn X.K (.ref f)=true) (hb:Binds X.K fd ps [])
  (ha:PVs G X (e :: es) cs) (hdb:(x == ("__debug__" : Str))=false:=by decide) (he:starEach (e :: es) X.env=(false,eval e X.env) :: starEach es X.env:=by rfl) (hpl:(backTo pos (starEach es X.env)).any (·.1)=false:=by rfl) :
  PV G X (.Call (.Name x p) (e :: es) [] pos) (cy g cs) :=
 PE.weak (tF F hr hg hm hk hb .nil m8 ha hdb he hpl) fun σ H Q h=>call_of h
theorem xA {H:Hp} {vs:List V} {ts:Wi} {Fs:Y1} (r:RpL G H vs ts Fs) (n nv:Nat) (hv:nv=vs.length):SR G (fun i=>Fs.getD i []) (ts.map (fun t=>some (.pu t))++List.replicate (n - ts.length) none) (vs.map some++List.replicate (n - nv) none) H:=by
 subst hv
 have hl:=r.len
 have back:∀ {i:Nat} {c:Cell},(ts.map (fun t=>some (Cell.pu t))++List.replicate (n - ts.length) none)[i]?=some (some c)->∃ t,ts[i]?=some t/\c=.pu t:=fun {i c} h=>by
  by_cases hi:i < ts.length
  ·rw [ZD (by rw [Zv];exact hi),ZQ] at h
   obtain ⟨t,h1,h2⟩:=Zw.mp h
   exact ⟨t,h1,(Zk h2).symm⟩
  ·rw [Yy (by rw [Zv];exact ZE hi),Yg] at h
   split at h <;> cases h
 refine ⟨by simp;lia,fun i c h=>?_,fun i t h=>?_,fun i j t c h=>?_⟩
 ·obtain ⟨t,h1,rfl⟩:=back h
  obtain ⟨v,F,g1,g2,g3⟩:=r.get i h1
  refine ⟨v,?_,?_⟩
  ·have:i < vs.length:=(Zf.mp g1).1
   rw [ZD (by rw [Zv];exact this),ZQ,g1]
   rfl
  ·show Rp G H v t (Fs.getD i [])
   rw [Zs,g2]
   exact g3
 ·obtain ⟨t',_,h2⟩:=back h
  cases h2
 ·obtain ⟨t',_,h2⟩:=back h
  cases h2
theorem ik {ts:Wi} {n:Nat} {Φ:Fps} {a:Addr}:¬ bc Φ (ts.map (fun t=>some (Cell.pu t))++List.replicate n none) a:=by
 rintro ⟨i,t,h,_⟩
 by_cases hi:i < ts.length
 ·rw [ZD (by rw [Zv];exact hi),ZQ] at h
  obtain ⟨t',_,h2⟩:=Zw.mp h
  cases h2
 ·rw [Yy (by rw [Zv];exact ZE hi),Yg] at h
  split at h <;> cases h
theorem pN {H:Hp} {vs:List V} {ts:Wi} {Fs:Y1} {n:Nat} {a:Addr} (h:cB (fun i=>Fs.getD i []) (ts.map (fun t=>some (Cell.pu t))++List.replicate n none) a):a∈Fs.flatten:=by
 obtain ⟨i,t,_,h2⟩:=h
 simp only [Zs] at h2
 cases e:Fs[i]? with
 | none=>rw [e] at h2;simp at h2
 | some F=>rw [e] at h2;exact cM e h2
end
section
variable {G:Gx} {P:Program} {w:World} {K:Y2} {mg:Xu} {base:Heap}
theorem fnV {x qual:Str} {st:Stmt} {f:Addr} {fd:FuncData} {N ps:List Str} {k np nn:Nat} {c:Sx} (F:Fun K x qual st f fd) (S:FnScope N ps (ai st)) (hp:ps.length=np) (hn:N.length=nn)
  (hb:∀ (cdv:Value) (A:Around) (outer:List PySem.Env) (s:Shared) (H:Hp) (E:XK),Room k (A.deeper (envOfC qual (ai st) s.heap.objs.size f cdv))->fY G (iI CX0 P w K mg base N qual (ai st) f cdv A outer s H E).nox (aW st) c) :
  FnOk P w K mg base CX0 (k+1) f fd ps (spF G (fn np nn c)):=by
 refine F.ok S (fun vs H Q E h=>?_) fun cdv A outer s H vs Q E hr h=>⟨_,hb cdv A outer s H E hr,?_⟩
 ·obtain ⟨ts,Fs,m,r,h1,h2,_⟩:=h
  unfold fn at h2
  split at h2
  ·rename_i hl
   rw [h1.len.1,hl,hp]
  ·cases h2
 ·obtain ⟨ts,Fs,m,r,h1,h2,q⟩:=h
  unfold fn at h2
  split at h2
  ·rename_i hl
   obtain ⟨o,e1,e2⟩:=Zz.mp h2
   have s0:=xA h1 nn vs.length rfl
   rw [hl] at s0
   have e3:L2.start N vs=vs.map some++List.replicate (nn - vs.length) none:=by
    unfold L2.start
    rw [hn]
   rw [e3]
   refine ⟨_,_,o,s0,e1,?_⟩
   cases o with
   | nx η' =>
    cases e2
    intro Φ' σ' H' s' fr
    exact q .non H' [] (fun a o h=>(fr.keep a o h ik).1) .non ⟨Z1,fun a h=>by simp at h⟩
   | rt v η' =>
    cases e2
    intro u H' F' Φ' σ' s' fr r' rf
    refine q u H' F' (fun a o h=>(fr.keep a o h ik).1) r' ?_
    cases m with
    | fr=>exact ⟨rf.1,fun a ha=>(rf.2 a ha).elim id fun z=>absurd z ik⟩
    | pu=>exact fun a ha=>(rf a ha).elim .inl fun z=>z.elim (fun z=>.inr (pN (H:=H) (vs:=vs) z)) fun z=>absurd z ik
    | bo=>exact fun a ha=>(rf a ha).elim .inl fun z=>z.elim (fun z=>.inr (pN (H:=H) (vs:=vs) z)) fun z=>absurd z ik
   | bk η'=>cases e2
   | ct η'=>cases e2
  ·cases h2
end
end VS
end
section
namespace L2
open PySem PySem.Spec PyProof.Rows
theorem jR (env:Env):∀ (l:List (Str×NameKind)) (acc:List (Str×Addr)),(∀ y∈l,y.2=.free->∃ c,env.cells.lookup y.1=some c)->(∀ x c,acc.lookup x=some c->env.cells.lookup x=some c) →
  ∃ cl,(forIn l acc (fun x r=>if (x.snd == NameKind.free)=true then (do let a ← cellOf env x.fst;pure (ForInStep.yield ((x.fst,a) :: r))) else pure (ForInStep.yield r)):Sem (List (Str×Addr)))=pure cl ∧
   (∀ x c,cl.lookup x=some c->env.cells.lookup x=some c)/\(∀ x c,acc.lookup x=some c->∃ c',cl.lookup x=some c')/\∀ y∈l,y.2=.free->∃ c,cl.lookup y.1=some c
 | [],acc,_,ha=>⟨acc,rfl,ha,fun x c h=>⟨c,h⟩,fun y hy=>nomatch hy⟩
 | (n,k) :: l,acc,hf,ha=>by
  by_cases hk:k=.free
  ·subst hk
   obtain ⟨c,hc⟩:=hf (n,.free) Zx rfl
   have ec:cellOf env n=pure c:=by unfold cellOf;dsimp only at hc;rw [hc]
   have ha':∀ x c',((n,c) :: acc).lookup x=some c'->env.cells.lookup x=some c':=fun x c' h=>by
    rw [Yr] at h
    split at h
    ·rename_i hx
     have:x=n:=by simpa using hx
     rw [this,← h];exact hc
    ·exact ha x c' h
   obtain ⟨cl,h1,h2,h3,h4⟩:=jR env l ((n,c) :: acc) (fun y hy=>hf y (Zy _ hy)) ha'
   refine ⟨cl,?_,h2,fun x c' h=>?_,fun y hy hyf=>?_⟩
   ·rw [List.forIn_cons]
    dsimp only
    rw [Zq (show (NameKind.free == NameKind.free)=true from rfl),ec,pure_bind,pure_bind]
    exact h1
   ·by_cases hx:x=n
    ·exact h3 x c (by rw [Yr,hx];simp)
    ·refine h3 x c' ?_
     rw [Yr]
     have:(x == n)=false:=by simpa using hx
     rw [this];exact h
   ·rcases Zo.mp hy with rfl | hy
    ·exact h3 n c (by rw [Yr];simp)
    ·exact h4 y hy hyf
  ·obtain ⟨cl,h1,h2,h3,h4⟩:=jR env l acc (fun y hy=>hf y (Zy _ hy)) ha
   refine ⟨cl,?_,h2,h3,fun y hy hyf=>?_⟩
   ·rw [List.forIn_cons]
    dsimp only
    rw [Zm (by simpa using hk),pure_bind]
    exact h1
   ·rcases Zo.mp hy with rfl | hy
    ·exact absurd hyf hk
    ·exact h4 y hy hyf
theorem yN {sc:Scope} {env:Env} (hf:∀ y∈sc.names,y.2=.free->∃ c,env.cells.lookup y.1=some c) :
  ∃ cl,closureFor sc env=pure cl/\(∀ x c,cl.lookup x=some c->env.cells.lookup x=some c)/\∀ y∈sc.names,y.2=.free->∃ c,cl.lookup y.1=some c:=by
 obtain ⟨cl,h1,h2,_,h4⟩:=jR env sc.names [] hf (fun x c h=>nomatch h)
 refine ⟨cl,?_,h2,h4⟩
 simp only [closureFor]
 rw [h1]
 rfl
theorem fN {l:List (Str×NameKind)} {x:Str} {k:NameKind} (h:l.lookup x=some k):(x,k)∈l:=by
 induction l with
 | nil=>cases h
 | cons p l ih =>
  rw [Yr] at h
  split at h
  ·rename_i hx
   have e:x=p.1:=by simpa using hx
   cases h
   rw [e];exact Zx
  ·exact Zy _ (ih h)
theorem cW {env:Env} {x:Str} {k:NameKind}:∀ {l:List (Str×NameKind)},(l.map fun (n,k)=>if (k == NameKind.free && env.scope.kind == .function && env.kindOf n == some .cell) then (n,NameKind.cell) else (n,k)).lookup x=some k →
  ∃ k0,l.lookup x=some k0/\(k=k0\/(k0=.free/\k=.cell))
 | [],h=>nomatch h
 | (n,k1) :: l,h=>by
  rw [Zl,Yr] at h
  by_cases hc:(k1 == NameKind.free && env.scope.kind == .function && env.kindOf n == some .cell)=true
  ·simp only [hc,if_true] at h
   rw [Yr]
   cases hx:x == n with
   | true =>
    rw [hx] at h
    have:k1=.free:=by
     have:=(XI.mp (XI.mp hc).1).1
     simpa using this
    exact ⟨k1,rfl,.inr ⟨this,(Zk h).symm⟩⟩
   | false=>rw [hx] at h;exact cW h
  ·simp only [hc,if_false,Y7] at h
   rw [Yr]
   cases hx:x == n with
   | true=>rw [hx] at h;exact ⟨k1,rfl,.inl (Zk h).symm⟩
   | false=>rw [hx] at h;exact cW h
noncomputable def cN (X:Cx) (N:List Str) (sc:Scope) (cl:List (Str×Addr)) (C:Addr) (s:Shared) (H:Hp) (fp:X0):Cx :=
 { X with N:=N,s₀:=s,H₀:=H,env:=compEnvC sc cl C X.env,outer:=X.stack,ex:=fp,fn:=fun _=>false,pn:=[],xe:=fun _ _=>False }
noncomputable def nI (env:Env) (sc:Scope):Bool:=sc.kind == .function && sc.names.all fun y=>match y.2 with
 | .cell=>false
 | .local=>sc.names.lookup y.1 == some .local
 | .free=>env.kindOf y.1 == some .cell || env.kindOf y.1 == some .free
 | _=>true
noncomputable def kB (sc:Scope):List Str->List Str->Bool
 | [],[]=>true
 | a :: as,b :: bs=>((a == b && sc.names.lookup a == some .free) || sc.names.lookup a == none || sc.names.lookup a == some .globalImplicit) && kB sc as bs
 | _,_=>false
theorem sy {sc:Scope}:∀ {as bs:List Str},kB sc as bs=true->as.length=bs.length/\∀ (i:Nat) (x:Str),as[i]?=some x->(bs[i]?=some x/\sc.names.lookup x=some .free)\/sc.names.lookup x=none\/sc.names.lookup x=some .globalImplicit
 | [],[],_=>⟨rfl,fun i x h=>by simp at h⟩
 | a :: as,b :: bs,h=>by
  simp only [kB,Zb] at h
  obtain ⟨h1,h2⟩:=h
  obtain ⟨l,r⟩:=sy h2
  refine ⟨by simp [l],fun i x e=>?_⟩
  cases i with
  | zero =>
   have:a=x:=by simpa using e
   subst this
   simp only [Bool.or_eq_true,Zb] at h1
   rcases h1 with (⟨z1,z2⟩ | z) | z
   ·exact .inl ⟨by simpa using (by simpa using z1:a=b).symm,by simpa using z2⟩
   ·exact .inr (.inl (by simpa using z))
   ·exact .inr (.inr (by simpa using z))
  | succ i=>simpa using r i x (by simpa using e)
 | [],_ :: _,h=>by simp [kB] at h
 | _ :: _,[],h=>by simp [kB] at h
section
variable {X:Cx} {pins:Z7} {σ:St} {H:Hp} {s:Shared}
theorem Inv.block {N:List Str} {sc:Scope} {cl:List (Str×Addr)} {C D:Addr} {fp:X0} {k:Nat} {h1:Heap} {t:Nat} {m:Xu} (I:Inv X pins σ H s) (hsc:nI X.env sc=true) (hnm:kB sc (N.drop k) X.N=true) (hNl:k<=N.length)
  (hc1:∀ x c,cl.lookup x=some c->X.env.cells.lookup x=some c) (hc2:∀ y∈sc.names,y.2=.free->∃ c,cl.lookup y.1=some c) (hfp:∀ b∈fp,l7 X pins H b) (hD:s.heap.objs.size<=D) (hC:s.heap.objs.size<=C) (hDC:D ≠ C) (hfC:C ∉ fp)
  (keep:∀ b u,s.heap.get? b=some u->h1.get? b=some u) (hns:h1.Ns C m) (hDo:h1.get? D=some { cls:=.type "list",data:=.seq ([]:Wx).toArray 0 }) :
  Inv (cN X N sc cl C s H fp) [] (List.replicate k none++σ) (upd H D (.lst [])) { s with heap:=h1,toks:=t }:=by
 unfold nI at hsc
 rw [Zb,Yx] at hsc
 obtain ⟨hk,hall⟩:=hsc
 have hkind:sc.kind=.function:=by simpa using hk
 obtain ⟨hlen,hat⟩:=sy hnm
 have hcell:∀ y∈sc.names,y.2 ≠ .cell:=fun y hy e=>by have:=hall y hy;rw [e] at this;cases this
 have frees:∀ x k',(relabel sc X.env).names.lookup x=some k'->k'=.cell\/k'=.free->sc.names.lookup x=some .free:=fun x k' h hk'=>by
  obtain ⟨k0,h0,hk0⟩:=cW h
  rcases hk0 with e | ⟨e,_⟩
  ·subst e
   rcases hk' with e | e
   ·subst e;exact absurd rfl (hcell _ (fN h0))
   ·subst e;exact h0
  ·subst e;exact h0
 have hHD:H D=none:=I.hok.fresh hD
 have hHC:H C=none:=I.hok.fresh hC
 refine ⟨⟨I.mod,hkind,I.ok.glob,I.ok.blt,hC,fun x y c e1 e2=>I.ok.inj x y c (hc1 x c e1) (hc1 y c e2),fun x hx=>?_,fun x c e=>(nomatch e),I.ok.hd,I.ok.frames,.inl rfl,fun b hb=>⟨fun (e:b=C)=>hfC (e ▸ hb),fun x c e=>(hfp b hb).2.2.2.2.1 x c (hc1 x c e)⟩,
  I.bs,ZG I.ok.bsz I.sz,fun b o e hb=>?_,fun b hb hb'=>?_,I.stack,I.stkFree⟩,rfl,I.bare,Un.laid keep hD hHD,⟨m,hns,fun i x v e1 e2 e3=>?_⟩,fun x c e=>?_,?_,fun x c e=>?_,fun p hp=>(nomatch hp),I.hok.laid keep hD ?_,?_⟩
 ·have h:∃ k',(relabel sc X.env).names.lookup x=some k'/\(k'=.cell\/k'=.free):=by
   rcases hx with e | e
   ·exact ⟨_,e,.inl rfl⟩
   ·exact ⟨_,e,.inr rfl⟩
  obtain ⟨k',h1',h2'⟩:=h
  exact hc2 _ (fN (frees x k' h1' h2')) rfl
 ·have hb':b∈fp:=hb
  rcases (hfp b hb').2.2.2.1 with z | z
  ·exact I.ok.noex b o e z
  ·exact absurd (ZM (ZS e) (ZG I.ok.bsz z)) (Yf _)
 ·have hb0:b∈frs X.stack:=hb'
  rcases Zo.mp (I.stkSub b hb0) with z | z
  ·exact (hfp b hb).2.1 z
  ·exact (hfp b hb).2.2.1 z
 ·
  have hik:k<=i:=by
   rcases Nat.lt_or_ge i k with z | z
   ·rw [ZD (by simpa using z),Yg] at e2
    split at e2 <;> cases e2
   ·exact z
  rw [Yy (by simpa using hik),YI] at e2
  have e1':(N.drop k)[i - k]?=some x:=by
   rw [List.getElem?_drop,show k+(i - k)=i by exact Nat.add_sub_of_le hik];exact e1
  have vis:sc.names.lookup x=some .free->∃ k',(relabel sc X.env).names.lookup x=some k'/\(k'=.cell\/k'=.free):=fun h0=>by
   have e3':Vis (relabel sc X.env) x:=e3
   rcases e3' with z | z | z
   ·obtain ⟨k0,h1',h2'⟩:=cW z
    rw [h0] at h1';cases h1'
    rcases h2' with q | ⟨_,q⟩ <;> cases q
   ·exact ⟨_,z,.inl rfl⟩
   ·exact ⟨_,z,.inr rfl⟩
  have no:∀ k0,sc.names.lookup x=some k0->∃ k',(relabel sc X.env).names.lookup x=some k'->True:=fun _ _=>⟨.local,fun _=>trivial⟩
  rcases hat _ x e1' with ⟨hX,h0⟩ | h0 | h0
  ·obtain ⟨k',hk1,hk2⟩:=vis h0
   have hf:=hall _ (fN h0)
   have hf':X.env.kindOf x=some .cell\/X.env.kindOf x=some .free:=by
    simpa using hf
   obtain ⟨mX,hnX,hlX⟩:=I.loc
   have visX:Vis X.env.scope x:=hf'.elim (fun z=>.inr (.inl z)) fun z=>.inr (.inr z)
   obtain ⟨u,r,l⟩:=hlX _ x v hX e2 visX
   refine ⟨u,r,.inr ⟨?_,?_⟩⟩
   ·rcases hk2 with z | z
    ·subst z;exact .inl hk1
    ·subst z;exact .inr hk1
   ·obtain ⟨c,hc⟩:=hc2 _ (fN h0) rfl
    refine ⟨c,hc,?_⟩
    rcases l with ⟨z,_⟩ | ⟨_,c',hc',hcell'⟩
    ·rcases hf' with q | q <;> (rw [z] at q;cases q)
    ·have:=hc1 x c hc
     rw [hc'] at this;cases this
     exact hcell'.keeps keep
  ·have e3':Vis (relabel sc X.env) x:=e3
   rcases e3' with z | z | z <;> (obtain ⟨k0,z1,_⟩:=cW z;rw [h0] at z1;cases z1)
  ·have e3':Vis (relabel sc X.env) x:=e3
   rcases e3' with z | z | z <;> (obtain ⟨k0,z1,z2⟩:=cW z;rw [h0] at z1;cases z1;rcases z2 with q | ⟨q,_⟩ <;> cases q)
 ·obtain ⟨v,z⟩:=I.cell x c (hc1 x c e)
  exact ⟨v,z.keeps keep⟩
 ·show upd H D (.lst []) C=none
  rw [ax (Yk hDC)];exact hHC
 ·obtain ⟨v,z⟩:=I.cell x c (hc1 x c e)
  rw [ax (ZZ (ZM z.lt hD))]
  exact I.freeC x c (hc1 x c e)
 ·exact ⟨Yt _,[],0,.nil,hDo⟩
 ·show (List.replicate k none++σ).length=N.length
  rw [Zt,YI,I.len,← hlen,Yi]
  exact Nat.add_sub_of_le hNl
noncomputable def yq (X:Cx) (ifs:List Expr) (t:TT):Prop :=
 ∀ (pins:Z7) (s:Shared) (σ:St) (H:Hp) (Q:Bool->Hp->Prop),Inv X pins σ H s->t σ H Q →
  wpAny (model X.prog X.w) X.A (forIn ifs true fun c r=>if r=true then (do let ok ← isTrue c X.env (eval c X.env);pure (ForInStep.yield ok)) else pure (ForInStep.yield r)) (TP X pins σ Q) X.xe s
theorem lO:yq X [] (fun σ H Q=>Q true H):=fun pins s σ H Q I q=>Za ⟨H,I,q⟩
theorem wR {c:Expr} {t:TT} (h:PT X c t):yq X [c] t:=fun pins s σ H Q I q=>by
 rw [List.forIn_cons,Zq rfl]
 refine Zp (Zp (thn (h pins s σ H Q I q) fun b s1 q1=>Za ?_))
 exact Za q1
section
variable {prog:Program} {w:World} {A:Around} {R:Result->Shared->Prop}
theorem pz {elt target iter:Expr} {ifs:List Expr} {scope:Scope} {pos:Pos} {it acc:Value} {env:Env} {s:Shared} (I:Nat->Shared->Prop)
  (turn:∀ n s,I n s->wpAny (model prog w) A (pyNext it) (fun r s₁=>match r with
   | none=>R (.ok .next) s₁
   | some v=>wpAny (model prog w) A (letOwnedTupleGo target it v) (fun _ s₀=>wpAny (model prog w) A (assign target env v) (fun _ s₂ =>
     wpAny (model prog w) A (forIn ifs true fun c r=>if r=true then (do let ok ← isTrue c env (eval c env);pure (ForInStep.yield ok)) else pure (ForInStep.yield r)) (fun ok s₃ =>
      if ok=true then wpAny (model prog w) A (eval elt env) (fun x s₄ =>
       wpAny (model prog w) A (call (.builtin "list.append") [acc,x]) (fun _ s₅=>∃ m,m < n/\I m s₅) (fun _ _=>False) s₄) (fun _ _=>False) s₃
      else ∃ m,m < n/\I m s₃) (fun _ _=>False) s₂) (fun _ _=>False) s₀) (fun _ _=>False) s₁) (fun _ _=>False) s)
  (n:Nat) (h:I n s) :
  codeAny (model prog w) A (.compLoop (.ListComp elt [⟨target,iter,ifs,0⟩] scope pos) 0 it acc env) R s:=by
 refine codeAny_loop rfl I (fun n s hI=>?_) n h
 show wpAny _ A ((compTurn (.ListComp elt [⟨target,iter,ifs,0⟩] scope pos) 0 it acc env).onRaise (fun x=>do noteFrame x env;theTreesLotGoes x)) _ _ s
 refine wpAny_noted ?_
 rw [compTurn_list]
 refine Zp (wpAny_standAt (Zp (YG (turn n s hI) (fun r s₁ h₁=>?_) fun _ _ h'=>h'.elim)))
 cases r with
 | none=>exact Za h₁
 | some v =>
  refine Zp (YG h₁ (fun _ s₀ h₀=>?_) fun _ _ h'=>h'.elim)
  refine Zp (YG h₀ (fun _ s₂ h₂=>Zp (YG h₂ (fun ok s₃ h₃=>?_) fun _ _ h'=>h'.elim)) fun _ _ h'=>h'.elim)
  cases ok with
  | false=>exact Za ⟨rfl,h₃⟩
  | true =>
   rw [Zq rfl] at h₃
   exact Zp (Zp (YG h₃ (fun x s₄ h₄=>Zp (YG h₄ (fun _ s₅ h₅=>Za (Za ⟨rfl,h₅⟩)) fun _ _ h'=>h'.elim)) fun _ _ h'=>h'.elim))
end
noncomputable def sH (k:Nat) (wi:TI) (g:TG) (tc:TT) (te:TE) (σ:St) (H:Hp) (Q:VK):Prop:=wi σ H fun J H1=>∀ D,H1 D=none->∃ W:Nat->Nat->St->Hp->Prop,
 (∃ m,W 0 m (List.replicate k none++σ) (upd H1 D (.lst [])))/\∀ i m σ' H',W i m σ' H'->(J.stop i H'/\Q (.ref D) H')\/(J.go i H'/\∀ x H2,J.yld i H' x H2->g x σ' H2 fun σ3 H3=>tc σ3 H3 fun b H4 =>
  if b=true then te σ3 H4 fun y H5=>∃ ys,H5 D=some (.lst ys)/\ys.length < sizeLine/\∃ m',m' < m/\W (i+1) m' σ3 (upd H5 D (.lst (ys++[y]))) else ∃ m',m' < m/\W (i+1) m' σ3 H4)
theorem um {elt tg iter:Expr} {ifs:List Expr} {sc:Scope} {pos pos':Pos} {N:List Str} {k:Nat} {wi:TI} {g:TG} {tc:TT} {te:TE} {use:Option (Value->Sem Unit)} {QQ:Z0} {Q:VK} (hcalm:X.calm=true) (hi:PI X tg iter wi) (hsc:nI X.env sc=true)
  (hnm:kB sc (N.drop k) X.N=true) (hNl:k<=N.length) (hin:∀ cl C s H fp,PG (cN X N sc cl C s H fp) tg g/\yq (cN X N sc cl C s H fp) ifs tc/\PE (cN X N sc cl C s H fp) elt te)
  (hs:∀ x,foldedSetIterable iter X.env x=pure x) (I:Inv X pins σ H s) (h:sH k wi g tc te σ H Q)
  (hq:∀ s' H' D C m,Inv X pins σ H' s'->Q (.ref D) H'->s'.heap.Ns C m->l7 X pins H' C->compPost (model X.prog X.w) X.A X.xe use QQ (.ref D) C (.ok .next) s') :
  wpAny (model X.prog X.w) X.A (comprehension (.ListComp elt [⟨tg,iter,ifs,0⟩] sc pos) sc X.env pos' (newList []) false (eval iter X.env) use) QQ X.xe s:=by
 have hsc':=hsc
 unfold nI at hsc'
 rw [Zb,Yx] at hsc'
 obtain ⟨hk,hall⟩:=hsc'
 have hkind:sc.kind=.function:=by simpa using hk
 have hcell:∀ y∈sc.names,y.2 ≠ .cell:=fun y hy e=>by have:=hall y hy;rw [e] at this;cases this
 have hnames:∀ y∈sc.names,y.2=.local->sc.names.lookup y.1=some .local:=fun y hy e=>by
  have:=hall y hy
  rw [e] at this
  simpa using this
 obtain ⟨cl,hcl,hc1,hc2⟩:=yN (sc:=sc) (env:=X.env) fun y hy e=>I.ok.has y.1 (by
  have:=hall y hy
  rw [e] at this
  simpa using this)
 refine wpAny_comprehension_free (use:=use) rfl hs hcl hkind hnames (thn (hi pins s σ H _ I h) fun v s1 h1=>thn h1 fun itv s2 h2=>?_)
 obtain ⟨it,fp,tn,J,H2,e,I2,T,st2,f2,hW⟩:=h2
 subst e
 refine XT (wpAny_newFunctionEnv hcell (by intro y hy;simp at hy) (fun h₁ hns₁ hsb₁=>?_) hkind)
 dsimp only at hns₁ hsb₁ ⊢
 generalize hP:s2.heap.push { cls:=.type "list",dict:=none,data:=.seq ([]:Wx).toArray }=P at hns₁ hsb₁ ⊢
 have hCs:P.objs.size=s2.heap.objs.size+1:=by rw [← hP,Heap.size_push]
 have old:∀ b o,s2.heap.get? b=some o->h₁.get? b=some o:=fun b o e =>
  hsb₁.extBut b o (by rw [hCs];exact ZZ (Nat.lt_succ_of_lt (ZS e))) (Zi _ (hP ▸ Zi _ e))
 have hDC:s2.heap.objs.size ≠ P.objs.size:=by rw [hCs];exact ZZ (YT _)
 have hDo:h₁.get? s2.heap.objs.size=some { cls:=.type "list",data:=.seq ([]:Wx).toArray 0 }:=hsb₁.extBut _ _ hDC (Zi _ (hP ▸ ZP _ rfl))
 have hCle:s2.heap.objs.size<=P.objs.size:=by rw [hCs];exact Xc _
 have lt_fp:∀ b∈fp,b < s2.heap.objs.size:=fun b hb=>let ⟨o,ho,_⟩:=T.obj 0 _ st2 b hb;ZS ho
 have hfC:P.objs.size ∉ fp:=fun hb=>absurd (ZM (lt_fp _ hb) hCle) (Yf _)
 have IY:=I2.block (N:=N) (sc:=sc) (cl:=cl) (C:=P.objs.size) (D:=s2.heap.objs.size) (fp:=fp) (k:=k) (t:=s2.toks+([]:List (Str×Value)).length) hsc hnm hNl hc1 hc2 f2 (Zg _) hCle hDC hfC old hns₁ hDo
 obtain ⟨hG,hT,hE⟩:=hin cl P.objs.size s2 H2 fp
 generalize hY:cN X N sc cl P.objs.size s2 H2 fp=Y at IY hG hT hE
 have hYm:Y.prog=X.prog/\Y.w=X.w/\Y.K=X.K/\Y.A=X.A/\Y.env=compEnvC sc cl P.objs.size X.env/\Y.calm=X.calm/\(Y.xe=fun _ _=>False):=by rw [← hY];exact ⟨rfl,rfl,rfl,rfl,rfl,rfl,rfl⟩
 obtain ⟨y1,y2,y3,y4,y5,y6,y7⟩:=hYm
 have stat:∀ {H':Hp},(∀ b∈fp,H' b=none)->∀ b∈fp,l7 Y [] H' b:=fun {H'} hn b hb=>by
  rw [← hY]
  refine ⟨hn b hb,fun (e:b=P.objs.size)=>hfC (e ▸ hb),fun hb'=>?_,.inl hb,fun x c e=>(f2 b hb).2.2.2.2.1 x c (hc1 x c e),fun p hp=>(nomatch hp)⟩
  rcases Zo.mp (I2.stkSub b hb') with z | z
  ·exact (f2 b hb).2.1 z
  ·exact (f2 b hb).2.2.1 z
 obtain ⟨W,⟨m0,w0⟩,turn⟩:=hW s2.heap.objs.size (I2.hok.fresh (Zg _))
 have hfp0:∀ b∈fp,upd H2 s2.heap.objs.size (.lst []) b=none:=fun b hb=>by rw [ax (ZZ (lt_fp b hb))];exact (f2 b hb).1
 have st3:tn 0 h₁:=T.keep _ _ _ st2 fun b _ o e=>old b o e
 have loop:codeAny (model X.prog X.w) X.A (.compLoop (.ListComp elt [⟨tg,iter,ifs,0⟩] sc pos) 0 (.ref it) (.ref s2.heap.objs.size) (compEnvC sc cl P.objs.size X.env)) (compPost (model X.prog X.w) X.A X.xe use QQ (.ref s2.heap.objs.size) P.objs.size)
   { s2 with heap:=h₁,toks:=s2.toks+([]:List (Str×Value)).length }:=by
  refine pz (fun n s'=>∃ i σ' H',Inv Y [] σ' H' s'/\tn i s'.heap/\(∀ b∈fp,H' b=none)/\W i n σ' H') ?_ m0 ⟨0,_,_,IY,st3,hfp0,w0⟩
  rintro n s3 ⟨i,σ3,H3,I3,st3,fr3,w3⟩
  rcases turn i n σ3 H3 w3 with ⟨stop,qn⟩ | ⟨go,step⟩
  ·have q:=T.done Y y1 y2 y3 (y6.trans hcalm) i [] s3 σ3 H3 (fun _ _=>False) I3 (stat fr3) st3 stop
   rw [y4] at q
   refine thn q fun r s4 ⟨hr,I4⟩=>?_
   subst hr
   have IX:Inv X pins σ H3 s4:=by
    have b4:=I4.base
    have o4:=I4.os
    have k4:=I4.hok
    rw [← hY] at b4 o4 k4
    refine I2.call' (ch:=fp) o4 b4 k4 I4.bare fun b hb=>?_
    exact ⟨(f2 b hb).2.2.2.1,(f2 b hb).2.1,(f2 b hb).2.2.2.2.1,(f2 b hb).2.2.2.2.2⟩
   obtain ⟨mC,hmC,_⟩:=I4.loc
   have f4:=I4.free
   rw [y5] at hmC f4
   exact hq s4 H3 _ P.objs.size mC IX qn hmC (I2.fpOk hCle f4)
  ·have q:=T.item Y y1 y2 y3 (y6.trans hcalm) i [] s3 σ3 H3 (fun _ _=>False) I3 (stat fr3) st3 go
   rw [y4] at q
   refine thn q fun r s4 ⟨u,hr,h4⟩=>?_
   subst hr
   refine thn h4 fun _ s5 ⟨x,H5,I5,r5,yl5,st5,fr5⟩=>?_
   have I5':=I5.pinned (stat fr5) (T.obj _ _ st5)
   have again:∀ {σ7:St} {H7:Hp} {s7:Shared} {m:Nat},Inv Y ([]++kZ fp s5.heap) σ7 H7 s7->W (i+1) m σ7 H7->∃ i σ' H',Inv Y [] σ' H' s7/\tn i s7.heap/\(∀ b∈fp,H' b=none)/\W i m σ' H':=fun {σ7 H7 s7 m} I7 w7=>by
    refine ⟨i+1,σ7,H7,I7.unpinned,T.keep _ _ _ st5 fun b hb o e=>(I7.pin (b,o) (ZW _ (ZW _ (gM hb e)))).1,fun b hb=>?_,w7⟩
    obtain ⟨o,e,d⟩:=T.obj _ _ st5 b hb
    exact (I7.pin (b,o) (ZW _ (ZW _ (gM hb e)))).2.1
   have qa:=hG _ s5 σ3 H5 x u _ I5' r5 (step x H5 yl5)
   rw [y1,y2,y4,y5,y7] at qa
   refine thn qa fun _ s6 ⟨σ6,H6,I6,q6⟩=>?_
   have qt:=hT _ s6 σ6 H6 _ I6 q6
   rw [y1,y2,y4,y5,y7] at qt
   refine thn qt fun b s7 ⟨H7,I7,q7⟩=>?_
   cases b with
   | false =>
    rw [Zm Zd] at q7 ⊢
    obtain ⟨m',hm,w7⟩:=q7
    exact ⟨m',hm,again I7 w7⟩
   | true =>
    rw [Zq rfl] at q7 ⊢
    have qe:=hE _ s7 σ6 H7 _ I7 q7
    rw [y1,y2,y4,y5,y7] at qe
    refine thn qe fun yv s8 ⟨y,H8,I8,r8,ys,hD8,hl8,m',hm,w8⟩=>?_
    have qp:=fe (X:=Y) _ s8 σ6 H8 (.ref s2.heap.objs.size) [y] (.ref s2.heap.objs.size) [yv] (fun _ H9=>W (i+1) m' σ6 H9) I8 rfl (.cons r8 .nil) ⟨_,ys,y,rfl,rfl,hD8,hl8,w8⟩
    rw [y1,y2,y4,y7] at qp
    refine thn qp fun _ s9 ⟨_,H9,I9,_,w9⟩=>?_
    exact ⟨m',hm,again I9 w9⟩
 exact codeAny_compStart_list loop (T.self _ 0 _ _ _ st3 loop)
theorem kM {elt tg iter:Expr} {ifs:List Expr} {sc:Scope} {pos:Pos} {N:List Str} {k:Nat} {wi:TI} {g:TG} {tc:TT} {te:TE} (hcalm:X.calm=true) (hi:PI X tg iter wi) (hsc:nI X.env sc=true)
  (hnm:kB sc (N.drop k) X.N=true) (hNl:k<=N.length) (hin:∀ cl C s H fp,PG (cN X N sc cl C s H fp) tg g/\yq (cN X N sc cl C s H fp) ifs tc/\PE (cN X N sc cl C s H fp) elt te)
  (hs:∀ x,foldedSetIterable iter X.env x=pure x:=by intro _;rfl):PE X (.ListComp elt [⟨tg,iter,ifs,0⟩] sc pos) (sH k wi g tc te):=by
 intro pins s σ H Q I h
 rw [eval_ListComp]
 refine um (use:=none) hcalm hi hsc hnm hNl hin hs I h fun s' H' D C m I' q hn f=>⟨m,hn,fun h' hs'=>?_⟩
 exact ⟨.ref D,H',I'.turned (it:=C) (t':=s'.toks) (fun b o hb e=>hs'.extBut b o hb e) f.1 f.2.1 f.2.2.2.1 f.2.2.2.2.1 f.2.2.2.2.2,rfl,q⟩
end
end L2
end
section
namespace VS
open PySem PySem.Spec PyProof.Rows L2
noncomputable def vt (k:Nat) (g:Tg):Prop:=∀ t η η',g t η=some η'->η'.length=η.length/\∀ i,k<=i->η'[i]?=η[i]?
theorem jq {k i:Nat} (h:i < k):vt k (aT i):=fun t η η' e=>by
 unfold aT at e
 split at e
 ·cases e
  exact ⟨by simp,fun j hj=>by rw [Ys (by lia)]⟩
 ·cases e
theorem sj:∀ (l:Wi) {i:Nat} {t:T},dv l=true->l[i]?=some t->imm t=true
 | [],_,_,_,h=>by simp at h
 | x :: l,0,t,h,e=>by
  simp only [dv,Zb] at h
  simp at e;rw [← e];exact h.1
 | x :: l,i+1,t,h,e=>by
  simp only [dv,Zb] at h
  exact sj l h.2 (by simpa using e)
noncomputable def tC (G:Gx):Option Ex->TT
 | none=>fun σ H Q=>Q true H
 | some c=>tT G c
section
variable {G:Gx} {Φ:Fps} {η:VS.Env} {σ:L2.St} {H:Hp} {k:Nat}
theorem jr {i:Nat} {c:Cell}:(List.replicate k none++η)[i]?=some (some c) ↔ k<=i/\η[i - k]?=some (some c):=by
 rcases Nat.lt_or_ge i k with h | h
 ·rw [ZD (by simpa using h),Yg]
  constructor
  ·intro e;split at e <;> cases e
  ·intro ⟨e,_⟩;lia
 ·rw [Yy (by simpa using h),YI]
  exact ⟨fun e=>⟨h,e⟩,fun e=>e.2⟩
theorem xo {a:Addr}:bc (fun i=>Φ (i - k)) (List.replicate k none++η) a ↔ bc Φ η a:=by
 constructor
 ·rintro ⟨j,t,h1,h2⟩
  exact ⟨j - k,t,(jr.mp h1).2,h2⟩
 ·rintro ⟨j,t,h1,h2⟩
  refine ⟨j+k,t,jr.mpr ⟨Nat.le_add_left _ _,by rw [Xg];exact h1⟩,?_⟩
  show a∈Φ (j+k - k)
  rw [Xg];exact h2
theorem vQ {a:Addr}:cB (fun i=>Φ (i - k)) (List.replicate k none++η) a ↔ cB Φ η a:=by
 constructor
 ·rintro ⟨j,t,h1,h2⟩
  exact ⟨j - k,t,(jr.mp h1).2,h2⟩
 ·rintro ⟨j,t,h1,h2⟩
  refine ⟨j+k,t,jr.mpr ⟨Nat.le_add_left _ _,by rw [Xg];exact h1⟩,?_⟩
  show a∈Φ (j+k - k)
  rw [Xg];exact h2
theorem SR.sh (s:SR G Φ η σ H):SR G (fun i=>Φ (i - k)) (List.replicate k none++η) (List.replicate k none++σ) H:=by
 refine ⟨by simp [s.len],fun i c h=>?_,fun i t h=>?_,fun i j t c h1 h2 n=>?_⟩
 ·obtain ⟨h1,h2⟩:=jr.mp h
  obtain ⟨v,g1,g2⟩:=s.rp _ c h2
  refine ⟨v,?_,g2⟩
  rw [Yy (by simpa using h1),YI]
  exact g1
 ·exact s.nd _ t (jr.mp h).2
 ·obtain ⟨a1,a2⟩:=jr.mp h1
  obtain ⟨b1,b2⟩:=jr.mp h2
  exact s.sep _ _ t c a2 b2 (by lia)
theorem SR.less {η':VS.Env} (s:SR G Φ η' σ H) (hl:η.length=η'.length) (h:∀ (i:Nat) c,η[i]?=some (some c)->η'[i]?=some (some c)):SR G Φ η σ H :=
 ⟨hl.trans s.len,fun i c e=>s.rp i c (h i c e),fun i t e=>s.nd i t (h i _ e),fun i j t c e1 e2 n=>s.sep i j t c (h i _ e1) (h j _ e2) n⟩
theorem SR.off {D:Addr} {o:HO} (s:SR G Φ η σ H) (m:Mut (H D)\/H D=none) (n1:¬ cB Φ η D) (n2:¬ bc Φ η D):SR G Φ η σ (upd H D o):=by
 refine ⟨s.len,fun i c e=>?_,s.nd,s.sep⟩
 obtain ⟨v,g1,g2⟩:=s.rp i c e
 refine ⟨v,g1,g2.keep (Kept.upd m) fun b hb o' ho=>?_⟩
 rw [ax fun z=>?_]
 ·exact ho
 ·subst z
  cases c with
  | pu t=>exact n1 ⟨i,t,e,hb⟩
  | ow t=>exact n2 ⟨i,t,e,hb⟩
theorem lK:∀ (l:Wk) (v:Val),b7 (l++[v])=(b7 l).join v.1
 | [],(m,t)=>by cases m <;> rfl
 | (m,t) :: l,v=>by
  show m.join (b7 (l++[v]))=(m.join (b7 l)).join v.1
  rw [lK l v]
  generalize b7 l=q
  generalize v.1=r
  cases m <;> cases q <;> cases r <;> rfl
theorem Fp.join2 {m n:Md} {F F':X0} (f:Fp Φ η H m F) (g:Fp Φ η H n F') (d:n=.fr->∀ a∈F,a ∉ F'):Fp Φ η H (m.join n) (F++F'):=by
 have both:∀ {P:Addr->Prop},(∀ a∈F,P a)->(∀ a∈F',P a)->∀ a∈F++F',P a:=fun p q a h=>(Ze.mp h).elim (p a) (q a)
 cases m <;> cases n
 ·exact ⟨ZX.mpr ⟨f.1,g.1,fun a ha b hb e=>d rfl a ha (e ▸ hb)⟩,both f.2 g.2⟩
 ·exact both (fun a ha=>.inl (f.2 a ha)) g
 ·exact both (fun a ha=>.inl (f.2 a ha)) g
 ·exact both f fun a ha=>.inl (g.2 a ha)
 ·exact both f g
 ·exact both (fun a ha=>(f a ha).imp id .inl) g
 ·exact both f fun a ha=>.inl (g.2 a ha)
 ·exact both f fun a ha=>(g a ha).imp id .inl
 ·exact both f g
theorem Fp.cons1 {m:Md} {F:X0} {D:Addr} (f:Fp Φ η H m F) (h:H D=none) (d:D ∉ F):Fp Φ η H m (D :: F):=by
 have all:∀ {P:Addr->Prop},P D->(∀ a∈F,P a)->∀ a∈D :: F,P a:=fun p q a ha=>(Zo.mp ha).elim (fun e=>e ▸ p) (q a)
 cases m
 ·exact ⟨Zh.mpr ⟨d,f.1⟩,all h f.2⟩
 ·exact all (.inl h) f
 ·exact all (.inl h) f
end
section
variable {G:Gx} {k:Nat} {tg:Tg} {ci:Its} {cond:Option Ex} {ce:Ex}
noncomputable def CI (G:Gx) (Φ:Fps) (η η0:VS.Env) (H H1:Hp) (D:Addr) (l:Wi) (all:Wk) (tg:Tg) (cond:Option Ex) (ce:Ex) (i n:Nat) (σ':L2.St) (H':Hp):Prop:=n=l.length - i/\∃ Φ1 vs Fs xs rest,SR G Φ1 η0 σ' H'/\(∀ a,bc Φ1 η0 a->bc Φ η a)/\(∀ a,cB Φ1 η0 a->H a=none\/cB Φ η a)/\¬ cB Φ1 η0 D/\¬ bc Φ1 η0 D/\Kept H1 H' ∧
     (∀ a o,a ≠ D->H1 a=some o->H' a=some o)/\H' D=some (.lst xs)/\RpL G H' xs (trees vs) Fs/\D ∉ Fs.flatten/\Fp Φ η H (b7 vs) Fs.flatten/\iN tg cond ce η0 (l.drop i)=some rest/\vs++rest=all
theorem ny {σ:L2.St} {H:Hp} {Q:VK} (hin:vt k tg) (h:tE G (dE k tg ci cond ce) σ H Q):sH k (tI G ci) (tG G tg) (tC G cond) (tE G ce) σ H Q:=by
 refine L2.gN fun P_ k_=>?_
 obtain ⟨Φ,η,m,r,s,e,kq⟩:=h
 unfold dE at e
 obtain ⟨⟨mi,l⟩,el,e1⟩:=Zz.mp e
 dsimp only at e1
 split at e1
 ·rename_i hok
  obtain ⟨all,ea,e2⟩:=Zz.mp e1
  unfold mkL at e2
  split at e2
  ·rename_i hlen
   cases e2
   refine k_ ?_
   refine ⟨Φ,η,mi,l,s,el,fun J H1 C e3 ok fc D hD=>?_⟩
   have hHD:H D=none:=e3.free hD
   let η0:VS.Env:=List.replicate k none++η
   have good:∀ {t:T} {i:Nat} {H' H2:Hp} {v:V} {F:X0},l[i]?=some t->Rp G H2 v t F->(∀ a,H1 a ≠ none->H' a ≠ none)->(∀ a∈F,a∈C\/H' a=none)->∀ a∈F,(H a=none\/cB Φ η a)/\¬ bc Φ η a:=fun {t i H' H2 v F} hi rF keep hF a ha=>by
    have dom:∀ {b},H b ≠ none->H' b ≠ none:=fun {b} hb=>keep b fun z=>hb (e3.free z)
    rcases hF a ha with z | z
    ·rcases fc a z with q | q | ⟨q,w⟩
     ·exact ⟨.inl q,fun w=>Mut.ne_none (s.ow_dom w) q⟩
     ·exact ⟨.inr q,fun w=>s.ow_pu w q⟩
     ·subst q
      have:imm t=true:=by
       exact sj l hok hi
      rw [rF.imm this] at ha
      simp at ha
    ·have hz:H a=none:=Classical.byContradiction fun q=>dom q z
     exact ⟨.inl hz,fun w=>Mut.ne_none (s.ow_dom w) hz⟩
   refine ⟨CI G Φ η η0 H H1 D l all tg cond ce,?_,?_⟩
   ·refine ⟨l.length - 0,rfl,fun i=>Φ (i - k),[],[],[],all,?_,fun a h=>xo.mp h,fun a h=>.inr (vQ.mp h),fun h=>?_,fun h=>?_,Kept.upd (.inr hD),fun a o n h=>by rw [ax n];exact h,ar,.nil,by simp,Fp.nil,by rw [List.drop_zero];exact ea,rfl⟩
    ·exact ((s.same e3).sh).off (.inr hD) (fun h=>Mut.ne_none (s.pu_dom (vQ.mp h)) hHD) fun h=>Mut.ne_none (s.ow_dom (xo.mp h)) hHD
    ·exact Mut.ne_none (s.pu_dom (vQ.mp h)) hHD
    ·exact Mut.ne_none (s.ow_dom (xo.mp h)) hHD
   ·intro i n σ' H' hh_
    refine L2.gN fun P_ k_=>?_
    obtain ⟨rfl,Φ1,vs,Fs,xs,rest,s1,ow1,pu1,np1,no1,kp,old,hD',rp,nD,fp,er,ev⟩:=hh_
    refine k_ ?_
    have keepdom:∀ a,H1 a ≠ none->H' a ≠ none:=fun a ha z=>by
     by_cases q:a=D
     ·subst q;rw [hD'] at z;cases z
     ·cases e:H1 a with
      | none=>exact ha e
      | some o=>rw [old a o q e] at z;cases z
    refine L2.gN fun P_ k_=>?_
    obtain ⟨go,stop⟩:=ok.run H' kp fun a ha o ho=>old a o (fun z=>ok.dom a ha (z ▸ hD)) ho
    cases hit:l[i]? with
    | none =>
     have hl:l.length<=i:=Yc.mp hit
     refine k_ ?_
     left
     refine ⟨stop i hl,?_⟩
     rw [YL hl] at er
     cases (show some ([]:Wk)=some rest from er)
     rw [ZK] at ev
     subst ev
     refine kq (.ref D) H' (D :: Fs.flatten) (fun a o h=>old a o (fun z=>by rw [z,hHD] at h;cases h) (e3 a o h)) (.lst hD' rp) ?_
     by_cases hi:dv (trees vs)=true
     ·rw [Zq hi,rp.imm hi]
      exact ⟨by simp,fun a ha=>by rw [Zj.mp ha];exact hHD⟩
     ·rw [Zm hi]
      exact fp.cons1 hHD nD
    | some t =>
     have hl:i < l.length:=(Zf.mp hit).1
     obtain ⟨g1,y1⟩:=go i t hit
     refine k_ ?_
     right
     refine ⟨g1,fun x H2 yl=>?_⟩
     refine L2.gN fun P_ k_=>?_
     obtain ⟨e8,F,rF,hF⟩:=y1 x H2 yl
     rw [m6 (tgt:=tg) (body:=dy) (η:=η) hit] at er
     rw [iN] at er
     obtain ⟨η3,e4,e5⟩:=Zz.mp er
     obtain ⟨b,eb,e6⟩:=Zz.mp e5
     have gd:=good hit rF keepdom hF
     have s2:=s1.same e8
     have DF:D ∉ F:=fun h=>by
      rcases hF D h with z | z
      ·exact ok.dom D z hD
      ·rw [hD'] at z;cases z
     refine k_ ?_
     refine ⟨Φ1,η0,t,F,η3,s2,rF,fun a ha z=>(gd a ha).2 (ow1 a z),e4,fun Φ3 σ3 s3 o3 p3=>?_⟩
     obtain ⟨tl,tsame⟩:=hin t η0 η3 e4
     have low:∀ j c,η0[j]?=some (some c)->η3[j]?=some (some c):=fun j c h=>by rw [tsame j (jr.mp h).1];exact h
     have pu3:∀ a,cB Φ3 η3 a->H a=none\/cB Φ η a:=fun a h=>(p3 a h).elim (pu1 a) fun h=>(gd a h).1
     have ow3:∀ a,bc Φ3 η3 a->bc Φ η a:=fun a h=>ow1 a (o3 a h)
     have np3:¬ cB Φ3 η3 D:=fun h=>(p3 D h).elim np1 DF
     have no3:¬ bc Φ3 η3 D:=fun h=>no1 (o3 D h)
     have pul:∀ a,cB Φ3 η0 a->cB Φ3 η3 a:=fun a ⟨j,u,h1,h2⟩=>⟨j,u,low j _ h1,h2⟩
     have owl:∀ a,bc Φ3 η0 a->bc Φ3 η3 a:=fun a ⟨j,u,h1,h2⟩=>⟨j,u,low j _ h1,h2⟩
     have rest':∀ H4,aD H2 H4->(if b=true then tE G ce σ3 H4 fun y H5=>∃ ys,H5 D=some (.lst ys)/\ys.length < sizeLine/\∃ m',m' < l.length - i/\CI G Φ η η0 H H1 D l all tg cond ce (i+1) m' σ3 (upd H5 D (.lst (ys++[y]))) else ∃ m',m' < l.length - i/\CI G Φ η η0 H H1 D l all tg cond ce (i+1) m' σ3 H4):=fun H4 e9=>by
      have eo:∀ {H5},aD H4 H5->∀ a o,H' a=some o->H5 a=some o:=fun {H5} e10 a o h=>e10 a o (e9 a o (e8 a o h))
      cases b with
      | false =>
       rw [Zm Zd] at e6 ⊢
       have same:=eo (aD.refl H4)
       exact ⟨_,by lia,rfl,Φ3,vs,Fs,xs,rest,(s3.same e9).less (by rw [tl]) low,fun a h=>ow3 a (owl a h),fun a h=>pu3 a (pul a h),fun h=>np3 (pul D h),fun h=>no3 (owl D h),kp.trans ((Kept.of e8).trans (Kept.of e9)),fun a o n h=>same a o (old a o n h),same D _ hD',rp.same (aD.trans e8 e9),nD,fp,e6,ev⟩
      | true =>
       rw [Zq rfl] at e6 ⊢
       obtain ⟨⟨mv,tv⟩,ece,e7⟩:=Zz.mp e6
       obtain ⟨rest1,er1,e7'⟩:=Zw.mp e7
       refine ⟨Φ3,η3,mv,tv,s3.same e9,ece,fun y H5 Fy e10 ry fy=>?_⟩
       have same:=eo e10
       have hD5:=same D _ hD'
       have mD5:Mut (H5 D):=by rw [hD5];exact True.intro
       have hD4:H4 D=some (.lst xs):=e9 D _ (e8 D _ hD')
       have none4:∀ a,H4 a=none->H a=none:=fun a h=>Classical.byContradiction fun q=>keepdom a (fun z=>q (e3.free z)) (e8.free (e9.free h))
       have fyo:Fp Φ η H mv Fy:=by
        cases mv with
        | fr=>exact ⟨fy.1,fun a ha=>none4 a (fy.2 a ha)⟩
        | pu=>exact fun a ha=>(fy a ha).elim (fun z=>.inl (none4 a z)) (pu3 a)
        | bo=>exact fun a ha=>(fy a ha).elim (fun z=>.inl (none4 a z)) fun z=>z.elim (fun z=>(pu3 a z).imp id .inl) fun z=>.inr (.inr (ow3 a z))
       have DFy:D ∉ Fy:=fun h=>by
        cases mv with
        | fr=>have:=fy.2 D h;rw [hD4] at this;cases this
        | pu=>exact (fy D h).elim (fun z=>by rw [hD4] at z;cases z) np3
        | bo=>exact (fy D h).elim (fun z=>by rw [hD4] at z;cases z) fun z=>z.elim np3 no3
       have rp5:RpL G H5 xs (trees vs) Fs:=rp.same ((e8.trans e9).trans e10)
       have lenx:xs.length=vs.length:=by rw [rp.len.1];simp
       have lenv:vs.length < all.length:=by rw [← ev,← e7'];simp
       refine ⟨xs,hD5,?_,_,by lia,rfl,Φ3,vs++[(mv,tv)],Fs++[Fy],xs++[y],rest1,(((s3.same e9).same e10).off (.inl mD5) np3 no3).less (by rw [tl]) low,fun a h=>ow3 a (owl a h),fun a h=>pu3 a (pul a h),fun h=>np3 (pul D h),fun h=>no3 (owl D h),?_,fun a o n h=>?_,ar,?_,?_,?_,er1,?_⟩
       ·have hlen':all.length<=dD:=by simpa using hlen
        have:sizeLine=dD:=rfl
        lia
       ·exact (kp.trans ((Kept.of e8).trans ((Kept.of e9).trans (Kept.of e10)))).trans (Kept.upd (.inl mD5))
       ·rw [ax n];exact same a o (old a o n h)
       ·have:trees (vs++[(mv,tv)])=trees vs++[tv]:=by simp
        rw [this]
        exact (rp5.off mD5 nD).append (.cons (ry.keep (Kept.upd (.inl mD5)) fun b hb o ho=>by rw [ax (fun z=>DFy (by rw [← z];exact hb))];exact ho) .nil)
       ·rw [Z8]
        intro h
        rcases Ze.mp h with z | z
        ·exact nD z
        ·exact DFy (by simpa using z)
       ·rw [Z8,lK]
        have:([Fy]:Y1).flatten=Fy:=by simp
        rw [this]
        refine fp.join2 fyo fun hm a ha hb=>?_
        subst hm
        have h4:=fy.2 a hb
        have:Mut (H4 a):=(rp.same (e8.trans e9)).dom a ha
        rw [h4] at this;exact this
       ·rw [ZJ,← ev,← e7'];rfl
     cases cond with
     | none =>
      cases (show some true=some b from eb)
      exact rest' H2 (aD.refl H2)
     | some c =>
      obtain ⟨⟨mc,xc⟩,ec1,ec2⟩:=Zz.mp eb
      exact ⟨Φ3,η3,mc,xc,b,s3,ec1,ec2,fun H4 e9=>rest' H4 e9⟩
  ·cases e2
 ·cases e1
end
section
variable {G:Gx} {X:Cx} {elt tg iter c:Expr} {sc:Scope} {pos pos' spos:Pos} {N:List Str} {k i:Nat} {x:Str} {ci:Its} {g:Tg} {cc ce:Ex}
theorem oh (k:Nat) (N:List Str) (hcalm:X.calm=true) (hi:PVI G X tg iter ci) (hin:vt k g) (hg:∀ cl C s H fp,PVG G (cN X N sc cl C s H fp) tg g) (he:∀ cl C s H fp,PV G (cN X N sc cl C s H fp) elt ce)
  (hsc:nI X.env sc=true:=by rfl) (hnm:kB sc (N.drop k) X.N=true:=by rfl) (hNl:k<=N.length:=by decide) (hs:∀ x,foldedSetIterable iter X.env x=pure x:=by intro _;rfl) :
  PV G X (.ListComp elt [⟨tg,iter,[],0⟩] sc pos) (dE k g ci none ce) :=
 PE.weak (kM hcalm hi hsc hnm hNl (fun cl C s H fp=>⟨hg cl C s H fp,lO,he cl C s H fp⟩) hs) fun σ H Q h=>ny (cond:=none) hin h
theorem uO (k:Nat) (N:List Str) (hcalm:X.calm=true) (hi:PVI G X tg iter ci) (hin:vt k g) (hg:∀ cl C s H fp,PVG G (cN X N sc cl C s H fp) tg g) (hc:∀ cl C s H fp,PVT G (cN X N sc cl C s H fp) c cc) (he:∀ cl C s H fp,PV G (cN X N sc cl C s H fp) elt ce)
  (hsc:nI X.env sc=true:=by rfl) (hnm:kB sc (N.drop k) X.N=true:=by rfl) (hNl:k<=N.length:=by decide) (hs:∀ x,foldedSetIterable iter X.env x=pure x:=by intro _;rfl) :
  PV G X (.ListComp elt [⟨tg,iter,[c],0⟩] sc pos) (dE k g ci (some cc) ce) :=
 PE.weak (kM hcalm hi hsc hnm hNl (fun cl C s H fp=>⟨hg cl C s H fp,wR (hc cl C s H fp),he cl C s H fp⟩) hs) fun σ H Q h=>ny (cond:=some cc) hin h
end
end VS
end
section
namespace L2
open PySem PySem.Spec PyProof.Rows
noncomputable def Ite (K:Y2) (a:Addr):It :=
 ⟨fun i H=>∃ xs x,SqL K H a xs/\xs[i]?=some x,fun i H v H'=>∃ p x,H p=none/\v=.ref p/\H'=upd H p (.tup [.int i,x])/\∀ xs,SqL K H a xs->xs[i]?=some x,fun i H=>∃ xs,SqL K H a xs/\xs.length<=i⟩
theorem tZ {P:Program} {w:World} {K:Y2} {elts:List Expr} {n:Nat} {pos:Pos} (a e it:Addr) (hne:e ≠ it):Turn P w K (.Tuple elts n pos) (Ite K a) [e,it] e (fun i h=>(∃ old,IsEnum h e it i old)/\h.IsListIter it a i) where
 mem:=by simp
 obj:=fun i h st b hb=>by
  obtain ⟨⟨old,he⟩,o,ho,c,d⟩:=st
  rcases Zo.mp hb with rfl | hb
  ·exact ⟨_,he,fun v z=>by cases (show Data.fields _=Data.cell v from z)⟩
  ·rw [Zj.mp hb]
   exact ⟨o,ho,fun v z=>by rw [d] at z;cases z⟩
 keep:=fun i h h' st k=>⟨let ⟨old,he⟩:=st.1;⟨old,k e (by simp) _ he⟩,st.2.at fun o x=>k it (by simp) o x⟩
 item:=by
  intro X hP hw hK hc i pins s σ H E I hf st hg
  subst hP hw hK
  obtain ⟨xs,x,hq,hx⟩:=hg
  obtain ⟨its,rv,p,hz⟩:=I.list hq
  obtain ⟨u,hu,ru⟩:=rv.get hx
  obtain ⟨⟨old,he⟩,hit⟩:=st
  refine wpAny_pyNext_enum_item he hit p.isList (x:=u) (by simpa using hu) hne fun h1 ho hit1 hT hsz hk=>⟨_,rfl,?_⟩
  refine wpAny_letOwnedTupleGo_enum ho fun h2 he2 hs2=>?_
  have hs2:Heap.SameBut e h1 h2:=hs2
  have ltE:e < s.heap.objs.size:=ZS he
  have ltI:it < s.heap.objs.size:=let ⟨_,z,_⟩:=hit;ZS z
  have hHT:H s.heap.objs.size=none:=I.hok.fresh (Zg _)
  have kk:∀ b o,b ∉ [e,it]->s.heap.get? b=some o->h2.get? b=some o:=fun b o hb q=>by
   have h1b:b ≠ e:=fun z=>hb (by simp [z])
   have h2b:b ≠ it:=fun z=>hb (by simp [z])
   exact (hs2.2 b h1b).trans (hk b o h1b h2b q)
  have hT2:h2.get? s.heap.objs.size=some { cls:=.type "tuple",data:=.seq #[.int i s.toks,u] }:=(hs2.2 _ (X3 ltE)).trans hT
  have nfp:∀ b o,H b=some o->b ∉ [e,it]:=fun b o q hb=>by rw [(hf b hb).1] at q;cases q
  have lt:∀ b o,s.heap.get? b=some o->b ≠ s.heap.objs.size:=fun b o q=>ZZ (ZS q)
  have up:∀ b o,H b=some o->upd H s.heap.objs.size (.tup [.int i,x]) b=some o:=fun b o q=>by rw [ax (bE q hHT)];exact q
  have hok2:HOk X.prog X.w (upd H s.heap.objs.size (.tup [.int i,x])) h2:=fun b ob q=>by
   by_cases hb:b=s.heap.objs.size
   ·subst hb
    rw [ar] at q
    cases q
    exact ⟨by show 2<=sizeLine;decide,[.int i s.toks,u],.cons ⟨_,rfl⟩ (.cons ru .nil),NoD.of hT2 rfl,⟨_,hT2,rfl,_,rfl⟩⟩
   ·rw [ax hb] at q
    refine (I.hok b ob q).stay (fun c v hc' r=>kk c v ?_ r) (fun c r=>up c _ r) fun c ys r=>up c _ r
    rcases hc' with z | z
    ·rw [z];exact nfp b ob q
    ·exact nfp c _ z
  refine ⟨.ref s.heap.objs.size,upd H s.heap.objs.size (.tup [.int i,x]),?_,rfl,⟨_,x,hHT,rfl,rfl,fun ys hy=>by rw [I.list_inj hy hq];exact hx⟩,⟨⟨u,by simpa using he2⟩,hit1.at fun o y=>(hs2.2 it hne.symm).trans y⟩,fun b hb=>?_⟩
  ·show Inv X pins σ _ { s with heap:=h2,gens:=s.gens,drawn:=s.drawn,toks:=s.toks+1 }
   refine I.step (g':=s.gens) (d':=s.drawn) (t':=s.toks+1) (ch:=[e,it]) (fun b hb=>?_) (fun b o _ _ hc' q _=>kk b o hc' q) (fun b o _ _ hc' q _=>⟨o.slots,kk b o hc' q⟩) (fun b o _ q r=>by rw [ax (lt b o q)];exact r) (fun b o hc' q=>⟨o,kk b o hc' q⟩)
    (fun b ys q=>up b _ q) (fun b o v q=>up b _ q) (fun b ps q=>⟨#[],by rw [up b _ q];simp⟩) (fun m hm=>?_) hok2 I.bare
   ·obtain ⟨f0,f1,f2,f3,f4,f5⟩:=hf b hb
    exact ⟨f3,f1,f4,f5⟩
   ·obtain ⟨o,es,ep,ho',r⟩:=hm
    refine ⟨o,es,ep,kk _ o (fun z=>?_) ho',r⟩
    exact (hf _ z).2.1 rfl
  ·have:b ≠ s.heap.objs.size:=by
    rcases Zo.mp hb with rfl | hb
    ·exact ZZ ltE
    ·rw [Zj.mp hb];exact ZZ ltI
   rw [ax this]
   exact (hf b hb).1
 done:=by
  intro X hP hw hK hc i pins s σ H E I hf st hg
  subst hP hw hK
  obtain ⟨xs,hq,hx⟩:=hg
  obtain ⟨its,rv,p,hz⟩:=I.list hq
  obtain ⟨⟨old,he⟩,hit⟩:=st
  obtain ⟨f0,f1,f2,f3,f4,f5⟩:=hf it (by simp)
  have hl:=rv.length
  exact wpAny_pyNext_enum_end (I.ok.hd hc) he hit p.isList (by simp;lia) fun h' eb=>⟨rfl,I.turned (t':=s.toks) (fun b o hb q=>eb b o hb q) f0 f1 f3 f4 f5⟩
 self:=fun _ _ _ _ _ st h=>let ⟨_,he⟩:=st.1;wpAny_pyIter_enum he h
section
variable {X:Cx} {tg a:Expr} {ta:TA} {p pos:Pos}
noncomputable def Dn (K:Y2) (ta:TA):TI:=fun σ H R=>ta σ H fun vs H1=>∃ l,vs=[.ref l]/\(∃ xs,SqL K H1 l xs)/\R (Ite K l) H1
theorem yn {elts:List Expr} {n:Nat} {tpos:Pos} (hg:Gl X "enumerate") (hm:X.mg "enumerate" = none) (ha:PA X [a] ta) (hs:starEach [a] X.env=[(false,eval a X.env)]:=by rfl):PI X (.Tuple elts n tpos) (.Call (.Name "enumerate" p) [a] [] pos) (Dn X.K ta):=by
 intro pins s σ H R I h
 refine Call_ (j7 I hg hm boot_enumerate (YH (thn (ha pos pins s σ H _ I h) fun us s1 ⟨vs,H1,I1,r1,q1⟩=>?_) hs rfl))
 obtain ⟨l,e,⟨xs,hq⟩,q⟩:=q1
 subst e
 cases r1 with
 | cons r rr =>
  cases rr
  cases r
  obtain ⟨its,rv,pl,hz⟩:=I1.list hq
  refine call_enumerate_list pl.isList fun h' he hit hsz hk=>?_
  refine wpAny_pyIter_enum he ?_
  refine ⟨_,_,_,_,H1,rfl,I1.kept (t':=s1.toks) hk,tZ l (s1.heap.objs.size+1) s1.heap.objs.size (Nat.succ_ne_self _),⟨⟨_,he⟩,hit⟩,fun b hb=>?_,q⟩
  have hb':s1.heap.objs.size<=b:=by
   rcases Zo.mp hb with rfl | hb
   ·exact YS _ _
   ·rw [Zj.mp hb];exact Zg _
  exact I1.fpOk hb' (I1.hok.fresh hb')
end
end L2
namespace VS
open PySem PySem.Spec PyProof.Rows L2
section
variable {G:Gx} {X:Cx} {a:Expr} {ca:Ex} {pos p tpos:Pos} {elts:List Expr} {n:Nat}
theorem pq:∀ (l:Wi) (k i:Nat) {t:T},(ir k l)[i]?=some t->∃ x,l[i]?=some x/\t=.tup [.int ((k+i:Nat):Int),x]
 | [],_,_,_,h=>by simp [ir] at h
 | x :: l,k,0,t,h=>by
  simp [ir] at h
  exact ⟨x,rfl,by rw [← h];rfl⟩
 | x :: l,k,i+1,t,h=>by
  obtain ⟨y,h1,h2⟩:=pq l (k+1) i (by simpa [ir] using h)
  refine ⟨y,by simpa using h1,?_⟩
  rw [h2,show k+1+i=k+(i+1) by lia]
theorem mK:∀ (l:Wi) (k:Nat),(ir k l).length=l.length
 | [],_=>rfl
 | x :: l,k=>by simp [ir,mK l (k+1)]
theorem yg {H:Hp} {a:Addr} {vs:List V} {ts:Wi} {Fs:Y1} (K:Y2) (ha:H a=some (.lst vs)) (r:RpL G H vs ts Fs):ItOk G (Ite K a) (ir 0 ts) (a :: Fs.flatten) H:=by
 refine ⟨fun H2 k c=>?_,fun b hb=>?_⟩
 ·have ha2:H2 a=some (.lst vs):=c a Zx _ ha
  have r2:RpL G H2 vs ts Fs:=r.keep k fun b hb o ho=>c b (Zy _ hb) o ho
  refine ⟨fun i t h=>?_,fun i h=>⟨vs,SqL.of ha2,by rw [mK] at h;rw [r.len.1];exact h⟩⟩
  obtain ⟨y,hy,et⟩:=pq ts 0 i h
  rw [X1] at et
  obtain ⟨v,F,h1,h2,h3⟩:=r2.get i hy
  refine ⟨⟨vs,v,SqL.of ha2,h1⟩,fun x H3 ⟨p,z,hp,e1,e2,e3⟩=>?_⟩
  subst e1 e2
  have ex:=e3 vs (SqL.of ha2)
  rw [h1] at ex
  cases ex
  have sm:aD H2 (upd H2 p (.tup [.int i,v])):=fun b o q=>by rw [ax (bE q hp)];exact q
  refine ⟨sm,F,?_,fun b hb=>.inl (Zy _ (cM h2 hb))⟩
  rw [et]
  have:F=([[],F]:Y1).flatten:=by simp
  rw [this]
  exact .tup ar (.cons (.int _) (.cons (h3.same sm) .nil))
 ·rcases Zo.mp hb with rfl | hb
  ·rw [ha];exact fun z=>nomatch z
  ·exact Mut.ne_none (r.dom b hb)
theorem uY (ha:PV G X a ca) (hg:Gl X "enumerate") (hm:X.mg "enumerate" = none) (hs:starEach [a] X.env=(false,eval a X.env) :: starEach [] X.env:=by rfl) (hs':starEach [a] X.env=[(false,eval a X.env)]:=by rfl) :
  PVI G X (.Tuple elts n tpos) (.Call (.Name "enumerate" p) [a] [] pos) (uS ca) :=
 PI.weak (yn hg hm (bU ha dC hs) hs') fun σ H R hq=>by
  obtain ⟨Φ,η,m,l,s,e,k⟩:=hq
  unfold uS at e
  obtain ⟨⟨mx,x⟩,ea,e1⟩:=Zz.mp e
  refine ⟨Φ,η,mx,x,s,ea,fun v H' F e3 r3 f3=>?_⟩
  cases x with
  | lst ts =>
   cases e1
   obtain ⟨a',vs,Fs,rfl,rfl,ha',ra⟩:=r3.lst_inv
   exact ⟨a',rfl,⟨vs,SqL.of ha'⟩,k _ H' _ e3 (yg X.K ha' ra) f3.c⟩
  | _=>cases e1
end
noncomputable instance {s:Tx}:Decidable (l5 s):=inferInstanceAs (Decidable (_/\_))
section
variable {G:Gx} {X:Cx} {a b c e:Expr} {es:List Expr} {ca cb cc:Ex} {cs:Exs} {pos p p1 p2 apos cpos:Pos} {k k':Nat}
theorem w_add (ha:PV G X a ca) (hb:PV G X b cb):PV G X (.BinOp a .Add b pos) (e2 aS ca cb):=kj iE jV ha hb
theorem w_mul (ha:PV G X a ca) (hb:PV G X b cb):PV G X (.BinOp a .Mult b pos) (e2 fH ca cb):=kj AD Ay ha hb
theorem w_mod (ha:PV G X a ca) (hb:PV G X b cb):PV G X (.BinOp a .Mod b pos) (e2 oMod ca cb):=kj Bb Bh ha hb
theorem lU (hr:Room k X.A) (ha:PV G X a ca) (hb:PV G X b cb):PVT G X (.Compare a [.Eq] [b] pos) (e2 oEq ca cb):=eX (qY hr.units) xS tells_eq ha hb (gF _)
theorem bJ (ha:PV G X a ca) (hb:PV G X b cb) (hs:fO b:=by intro _ _;rfl) (hK:X.K=G.K:=by rfl):PV G X (.Subscript a b pos) (e2 aE ca cb) :=
 PE.weak (lE jd ha hb hs) fun σ H Q h=>by rw [hK];exact lH qX h
theorem gQ (hm:X.mg "len" = none) (ha:PVs G X [e] cs) (hg:Gl X "len" := by rfl) (hK:X.K=G.K:=by rfl) (he:starEach [e] X.env=(false,eval e X.env) :: starEach [] X.env:=by rfl):PV G X (.Call (.Name "len" p) [e] [] pos) (eN cK cs) :=
 p6 (hK ▸ ui) AR hg hm PySem.boot_len ha (he:=he) (hpl:=rfl)
theorem zA:bootBuiltins ("list" : Str)=some (.type "list"):=by decide +kernel
noncomputable def tyN:Ty->Str
 | .int => "int" | .str => "str" | .bool => "bool" | .list => "list" | .tuple => "tuple" | .dict => "dict"
theorem Cm (t:Ty):bootBuiltins (tyN t)=some (.type (tyS t)):=by cases t <;> decide +kernel
theorem w_is (t:Ty) (hm:X.mg "isinstance" = none) (hm2:X.mg (tyN t)=none) (ha:PV G X a ca) (hg:Gl X "isinstance" := by rfl) (hg2:Gl X (tyN t):=by rfl) (hK:X.K=G.K:=by rfl)
  (hs:starEach [a,.Name (tyN t) p2] X.env=(false,eval a X.env) :: starEach [.Name (tyN t) p2] X.env:=by rfl):PV G X (.Call (.Name "isinstance" p1) [a,.Name (tyN t) p2] [] pos) (eIs t ca) :=
 C2 t ha hg hm hg2 hm2 (Cm t) hK (by cases t <;> decide) (by cases t <;> decide) hs rfl rfl
theorem jl (i:Nat) {x:Str} (ha:PVs G X [e] cs) (hK:X.K=G.K:=by rfl)
  (hN:X.N[i]?=some x:=by rfl) (hv:Vis X.env.scope x:=by first | exact Or.inl rfl | exact Or.inr (Or.inl rfl) | exact Or.inr (Or.inr rfl)) (hd:(x == ("__debug__" : Str))=false:=by decide)
  (hcd:(x == ("__classdict__" : Str))=false:=by decide) (hfew:((backTo cpos (starEach [e] X.env)).all (fun x=>!x.1) && (backToKw cpos (keywordEach [] X.env)).all (fun x=>x.1.isSome)
   && decide ([e].length+([]:List Keyword).length+(if ([]:List Keyword).isEmpty then 0 else 1) < 30))=true:=by rfl)
  (hline:(apos.endLine == cpos.line)=true:=by rfl) (hs:starEach [e] X.env=(false,eval e X.env) :: starEach [] X.env:=by rfl) :
  PSV G X (.Expr (.Call (.Attribute (.Name x p1) "append" apos) [e] [] cpos) pos) (sX (l9 i [] aH cs)) :=
 vy i YU YX YY fe iD (fun H v t F l z r h=>h9 r h) ha hK hN hv hd hcd rfl hfew hline hs rfl rfl
end
structure FnAt (P:Program) (w:World) (K:Y2) (mg:Xu) (base:Heap) (k:Nat) (x:Str) (ps:List Str) (G:Gx) (g:Fn):Prop where
 ex:∃ f fd,FnOk P w K mg base CX0 k f fd ps (spF G g)/\mg x=some (.ref f)/\PySem.W.keepIn K (.ref f)=true/\Binds K fd ps []
section
variable {G:Gx} {X:Cx} {e:Expr} {es:List Expr} {cs:Exs} {pos p:Pos} {k k':Nat} {x:Str} {ps:List Str} {g:Fn}
theorem hZ (F:FnAt X.prog X.w X.K X.mg X.base k x ps G g) (hr:Room k' X.A) (ha:PVs G X (e :: es) cs) (hk:k<=k':=by decide) (hg:Gl X x:=by rfl) (hdb:(x == ("__debug__" : Str))=false:=by decide)
  (he:starEach (e :: es) X.env=(false,eval e X.env) :: starEach es X.env:=by rfl) (hpl:(backTo pos (starEach es X.env)).any (·.1)=false:=by rfl) :
  PV G X (.Call (.Name x p) (e :: es) [] pos) (cy g cs):=by
 obtain ⟨f,fd,h1,h2,h3,h4⟩:=F.ex
 exact zG h1 (hr.mono hk) hg h2 h3 h4 ha hdb he hpl
end
section
variable {G:Gx} {P:Program} {w:World} {K:Y2} {mg:Xu} {base:Heap}
theorem qj {x:Str} {st:Stmt} {f:Addr} {fd:FuncData} {N ps:List Str} {k np nn:Nat} {c:Sx} (F:Fun K x x st f fd) (hm:mg x=some (.ref f)) (S:FnScope N ps (ai st)) (hp:ps.length=np) (hn:N.length=nn)
  (hbd:∀ (kV doc pm:Value) (an:Option Addr) (cdv ct:Value) (us:Wx),us.length=ps.length->bindArgs (PySem.W.fnOf x x (dM st) (aW st) (ai st) .none kV doc pm an cdv ct) ⟨us,[]⟩=pure (ps.zip us))
  (hb:∀ (cdv:Value) (A:Around) (outer:List PySem.Env) (s:Shared) (H:Hp) (E:XK),Room k (A.deeper (envOfC x (ai st) s.heap.objs.size f cdv))->fY G (iI CX0 P w K mg base N x (ai st) f cdv A outer s H E).nox (aW st) c) :
  FnAt P w K mg base (k+1) x ps G (fn np nn c) :=
 ⟨f,fd,fnV F S hp hn hb,hm,F.kp,F.binds hbd⟩
end
end VS
end
section
namespace L2
open PySem PySem.Spec PyProof.Rows
noncomputable def Its (x:Str):It:=⟨fun i _=>i < x.cps.size,fun i H v H'=>H'=H/\∃ c,x.cps[i]?=some c/\v=.str ⟨#[c]⟩,fun i _=>x.cps.size<=i⟩
theorem mF {P:Program} {w:World} {K:Y2} {tg:Expr} (x:Str) (t:Tok) (it:Addr) (ty:String) (hn:["enumerate", "zip", "dict_itemiterator", "dict_reverseitemiterator", "odict_iterator", "itertools.zip_longest", "itertools.pairwise"].contains ty=false)
  (W:∀ A:Around,A.handled=none->Walks P w A it [it] [it] x.cps.size (fun i v=>∃ c u,x.cps[i]?=some c/\v=.str ⟨#[c]⟩ u) (fun i h=>h.IsStrIter it ty x t i)) (hend:∀ (A:Around),A.handled=none->∀ (i:Nat) (s:Shared) (Q:Ww->Shared->Prop) (E:Z0),s.heap.IsStrIter it ty x t i->x.cps[i]?=none->(∀ h',Heap.ExtBut it s.heap h'->Q none { s with heap:=h' })->wpAny (model P w) A (pyNext (.ref it)) Q E s)
  (hself:∀ (A:Around) (i:Nat) (s:Shared) (Q:Z0) (E:Z0),s.heap.IsStrIter it ty x t i->Q (.ref it) s->wpAny (model P w) A (pyIter (.ref it)) Q E s) :
  Turn P w K tg (Its x) [it] it (fun i h=>h.IsStrIter it ty x t i) where
 mem:=by simp
 obj:=fun i h st b hb=>by
  rw [Zj.mp hb]
  obtain ⟨o,e,c,d⟩:=st
  exact ⟨o,e,fun v z=>by rw [d] at z;cases z⟩
 keep:=fun i h h' st k=>let ⟨o,e,r⟩:=st;⟨o,k it (by simp) o e,r⟩
 item:=by
  intro X hP hw hK hc i pins s σ H E I hf st hg
  subst hP hw hK
  obtain ⟨f0,f1,f2,f3,f4,f5⟩:=hf it (by simp)
  refine (W X.A (I.ok.hd hc)).item i s _ _ hg st fun v h' tk hv st' kk=>?_
  obtain ⟨c,u,hc',rfl⟩:=hv
  have I1:Inv X pins σ H { s with heap:=h',toks:=tk }:=I.turned (fun b o hb e=>kk b o (by simpa using hb) e) f0 f1 f3 f4 f5
  obtain ⟨o,e,c1,d⟩:=id st'
  exact ⟨_,rfl,pZ (s:={ s with heap:=h',toks:=tk }) e c1 d hn ⟨.str ⟨#[c]⟩,H,I1,⟨u,rfl⟩,⟨rfl,c,hc',rfl⟩,st',fun b hb=>(hf b hb).1⟩⟩
 done:=by
  intro X hP hw hK hc i pins s σ H E I hf st hg
  subst hP hw hK
  obtain ⟨f0,f1,f2,f3,f4,f5⟩:=hf it (by simp)
  have hx:x.cps.size<=i:=hg
  exact hend X.A (I.ok.hd hc) i s _ _ st (by simp [hx]) fun h' eb=>⟨rfl,I.turned (t':=s.toks) (fun b o hb e=>eb b o hb e) f0 f1 f3 f4 f5⟩
 self:=fun A i s Q E st h=>hself A i s Q E st h
theorem vc {P:Program} {w:World} {K:Y2} {tg:Expr} (x:Str) (t:Tok) (it:Addr):Turn P w K tg (Its x) [it] it (fun i h=>h.IsStrIter it (strIterType x) x t i):=by
 cases ha:x.cps.all (· < 128)
 ·have e:strIterType x = "str_iterator" := by simp [strIterType,ha]
  rw [e]
  exact mF x t it "str_iterator" rfl (fun A hA=>Walks.strWide hA it x t) (fun A hA i s Q E st hx q=>wpAny_pyNext_wide_end hA st hx q) fun A i s Q E st q=>wpAny_pyIter_striter_wide st q
 ·have e:strIterType x = "str_ascii_iterator" := by simp [strIterType,ha]
  rw [e]
  exact mF x t it "str_ascii_iterator" rfl (fun A hA=>Walks.strAscii hA it x t) (fun A hA i s Q E st hx q=>wpAny_pyNext_ascii_end hA st hx q) fun A i s Q E st q=>wpAny_pyIter_striter_ascii st q
section
variable {X:Cx} {tg l a b c:Expr} {tl ta tb tc:TE} {pos:Pos}
noncomputable def B9 (K:Y2) (tl:TE):TI:=fun σ H R=>tl σ H fun x H1=>(∃ a,x=.ref a/\(∃ xs,SqL K H1 a xs)/\R (Itl K a) H1)\/(∃ a,x=.ref a/\(∃ xs,SqT K H1 a xs)/\R (Itt K a) H1)\/∃ z,x=.str z/\R (Its z) H1
theorem yP (hl:PE X l tl):PI X tg l (B9 X.K tl):=by
 intro pins s σ H R I h
 refine thn (hl pins s σ H _ I h) fun v s1 ⟨x,H1,I1,r1,q1⟩=>?_
 have fp1:∀ b∈[s1.heap.objs.size],l7 X pins H1 b:=fun b hb=>by
  rw [Zj.mp hb]
  exact I1.fpOk (Zg _) (I1.hok.fresh (Zg _))
 rcases q1 with ⟨a,e,⟨xs,hq⟩,q⟩ | ⟨a,e,⟨xs,hq⟩,q⟩ | ⟨z,e,q⟩
 ·subst e
  cases r1
  obtain ⟨its,rv,p,hz⟩:=I1.list hq
  exact wpAny_pyIter_list p.isList ⟨s1.heap.objs.size,[s1.heap.objs.size],_,_,H1,rfl,I1.kept (t':=s1.toks) fun b o e=>Zi _ e,tV a _,⟨_,ZP _ rfl,rfl,rfl⟩,fp1,q⟩
 ·subst e
  cases r1
  obtain ⟨its,rv,p,hz⟩:=I1.tuple hq
  exact wpAny_pyIter_tuple (show s1.heap.IsTuple a its.toArray from p) ⟨s1.heap.objs.size,[s1.heap.objs.size],_,_,H1,rfl,I1.kept (t':=s1.toks) fun b o e=>Zi _ e,rD a _,⟨_,ZP _ rfl,rfl,rfl⟩,fp1,q⟩
 ·subst e
  obtain ⟨t,rfl⟩:=r1
  exact wpAny_pyIter_strU ⟨s1.heap.objs.size,[s1.heap.objs.size],_,_,H1,rfl,I1.kept (t':=s1.toks) fun b o e=>Zi _ e,vc z t _,⟨_,ZP _ rfl,rfl,rfl⟩,fp1,q⟩
theorem ua:OpR X (compareOp .Gt) (fun x y H Q=>∃ i j,x=.str i/\y=.str j/\Q (.bl (decide (j.cps.toList < i.cps.toList))) H):=by
 intro pins s σ H x y v u Q I rx ry h
 obtain ⟨i,j,rfl,rfl,q⟩:=h
 obtain ⟨t,rfl⟩:=rx
 obtain ⟨t',rfl⟩:=ry
 exact PySem.P.gt_str ⟨.bl _,H,I,rfl,q⟩
end
end L2
end
section
namespace VS
open PySem PySem.Spec PyProof.Rows L2
section
variable {G:Gx} {X:Cx} {a b c e tg:Expr} {es:List Expr} {ca cb cc:Ex} {cs:Exs} {pos p p1 p2 apos cpos:Pos} {k k':Nat}
theorem AB (H:Hp) (s:Tx) (ok:l5 s):ItOk G (L2.Its (sx s)) (s.map fun c=>T.str [c]) [] H:=by
 have sz:(sx s).cps.size=s.length:=rfl
 refine ⟨fun H2 _ _=>⟨fun i t h=>?_,fun i h=>(by rw [Zv] at h;show (sx s).cps.size<=i;lia)⟩,fun a h=>by simp at h⟩
 rw [ZQ] at h
 obtain ⟨c,hc,rfl⟩:=Zw.mp h
 refine ⟨(by show i < (sx s).cps.size;have:=(Zf.mp hc).1;lia),fun x H3 ⟨e1,c',hc',e2⟩=>?_⟩
 subst e1
 have:c'=c:=by
  have h1:(sx s).cps[i]?=some c:=by simp [sx,hc]
  rw [h1] at hc';exact (Zk hc').symm
 subst this
 rw [e2]
 exact ⟨aD.refl _,[],.str [c'] ⟨(by show 1<=dD;decide),fun d hd=>by rw [Zj.mp hd];exact ok.2 c' (Yn hc)⟩,fun a h=>by simp at h⟩
theorem fJ (ha:PV G X a ca) (hK:X.K=G.K:=by rfl):PVI G X tg a (il ca) :=
 PI.weak (yP ha) fun σ H R hq=>by
  obtain ⟨Φ,η,m,l,s,e,k⟩:=hq
  unfold il at e
  obtain ⟨⟨mx,x⟩,ea,e1⟩:=Zz.mp e
  refine ⟨Φ,η,mx,x,s,ea,fun v H' F e3 r3 f3=>?_⟩
  cases x with
  | lst ts =>
   cases e1
   obtain ⟨a',vs,Fs,rfl,rfl,ha',ra⟩:=r3.lst_inv
   exact .inl ⟨a',rfl,⟨vs,SqL.of ha'⟩,k _ H' _ e3 (ye X.K ha' ra) f3.c⟩
  | tup ts =>
   cases e1
   obtain ⟨a',vs,Fs,rfl,rfl,ha',ra⟩:=r3.tup_inv
   exact .inr (.inl ⟨a',rfl,⟨vs,SqT.of ha'⟩,k _ H' _ e3 (AA X.K ha' ra) f3.c⟩)
  | str z =>
   cases e1
   obtain ⟨rfl,ok⟩:=r3.str_inv
   exact .inr (.inr ⟨_,rfl,k _ H' [] e3 (AB H' z ok) fun a h=>by simp at h⟩)
  | _=>cases e1
theorem xM:bootBuiltins ("tuple" : Str)=some (.type "tuple"):=by decide +kernel
theorem wj:fT G (fun xs H Q=>∃ p ys,xs=[.ref p]/\((SqL G.K H p ys/\∀ l,H l=none->Q (.ref l) (upd H l (.tup ys)))\/(SqT G.K H p ys/\Q (.ref p) H))) jJ:=by
 intro Φ η H0 H l vs Fs m t Q A e k
 unfold jJ at e
 split at e
 ·rename_i mx x
  split at e
  ·rename_i hl
   cases e
   obtain ⟨v,F,rfl,rfl,rx⟩:=(show RpL G H vs [.lst x] Fs from A.rp).one
   obtain ⟨a,ys,Gs,rfl,rfl,ha,ra⟩:=rx.lst_inv
   have f:=(A.fp.each 0 _ _ rfl rfl).sub (Yv _ _)
   refine ⟨a,ys,rfl,.inl ⟨SqL.of ha,fun q hq=>?_⟩⟩
   have sm:aD H (upd H q (.tup ys)):=bj hq
   have r:Rp G (upd H q (.tup ys)) (.ref q) (.tup x) Gs.flatten:=.tup ar (ra.same sm)
   exact k _ _ _ sm r (f.up r)
  ·cases e
 ·cases e
theorem yy (hm:X.mg "tuple" = none) (ha:PVs G X [e] cs) (hg:Gl X "tuple" := by rfl) (hK:X.K=G.K:=by rfl) (he:starEach [e] X.env=(false,eval e X.env) :: starEach [] X.env:=by rfl):PV G X (.Call (.Name "tuple" p) [e] [] pos) (eN jJ cs) :=
 iF mf (hK ▸ wj) hg hm xM ha (he:=he) (hpl:=rfl)
noncomputable def rGt:R2:=fun x y H Q=>rI0 (fun i j=>.bl (decide (j < i))) x y H Q\/(∃ i j,x=.str i/\y=.str j/\Q (.bl (decide (j.cps.toList < i.cps.toList))) H)
theorem Bt (s t:Tx):decide ((sx s).cps.toList < (sx t).cps.toList)=ltx s t:=by rw [n8];exact decide_eq_decide.mpr (by simp [sx])
theorem CM:fD G rGt oGt:=by
 intro Φ η H0 H x y u w F1 F2 m t Q tw e k
 obtain ⟨m1,x⟩:=x
 obtain ⟨m2,y⟩:=y
 obtain ⟨same,r1,r2,f1,f2,nd⟩:=tw
 unfold oGt oLt at e
 split at e
 ·rename_i e1 e2
  cases e1
  cases e2
  cases e
  exact .inl ⟨_,_,r1.int_inv,r2.int_inv,bP k (.bl _)⟩
 ·rename_i s _ s' e1 e2
  cases e1
  cases e2
  cases e
  refine .inr ⟨_,_,r1.str_inv.1,r2.str_inv.1,?_⟩
  rw [Bt]
  exact bP k (.bl _)
 ·cases e
theorem wO:Tells oGt:=fun x y m t e=>jL y x m t e
theorem Af (ha:PV G X a ca) (hb:PV G X b cb):PVT G X (.Compare a [.Gt] [b] pos) (e2 oGt ca cb):=eX (r:=rGt) (C0.or ua) CM wO ha hb (gF _)
theorem uW {r r':R2} {f g:Val->Val->Wj} (ok:fD G r f) (ok':fD G r' g) {σ:L2.St} {H:Hp} {Q:VK} (h:tE G (gI f g ca cb cc) σ H Q):vZ r r' (tE G ca) (tE G cb) (tE G cc) σ H Q:=by
 obtain ⟨Φ,η,m,t,s,e,k⟩:=h
 unfold gI at e
 obtain ⟨x,ea,e⟩:=Zz.mp e
 obtain ⟨y,eb,e⟩:=Zz.mp e
 obtain ⟨⟨mz,z⟩,ez,e⟩:=Zz.mp e
 refine vB s ea eb fun u w H2 F1 F2 tw=>ok Φ η H H2 x y u w F1 F2 mz z _ tw ez fun v H3 F e1 r1 f1=>?_
 cases z with
 | bl q =>
  refine ⟨q,r1.bl_inv,?_⟩
  cases q with
  | false =>
   cases e
   rw [Zm Zd]
   exact k _ H3 [] (tw.same.trans e1) (.bl false) Fp.nil
  | true =>
   rw [Zq rfl]
   obtain ⟨z2,ec,e⟩:=Zz.mp (show (cc η).bind (fun z=>g y z)=some (m,t) from e)
   have sm:=tw.same.trans e1
   refine ⟨Φ,η,z2.1,z2.2,s.same sm,ec,fun w2 H4 F4 e4 r4 f4=>?_⟩
   refine ok' Φ η H H4 y z2 w w2 F2 F4 m t Q ⟨sm.trans e4,(tw.r2.same e1).same e4,r4,tw.f2,f4.back sm,fun hx hy=>?_⟩ e fun v' H5 F5 e5 r5 f5=>k v' H5 F5 ((sm.trans e4).trans e5) r5 f5
   have f2:=tw.f2
   rw [hx] at f2
   rw [hy] at f4
   refine ZX.mpr ⟨f2.1,f4.1,fun a ha b hb z=>?_⟩
   subst z
   exact Mut.ne_none ((tw.r2.same e1).dom a ha) (f4.2 a hb)
 | _=>cases e
end
end VS
end
section
namespace L2
open PySem PySem.Spec PyProof.Rows
section
variable {X:Cx}
theorem uE {α:Type} (l:List α) (n:Nat):∀ acc:List α,List.foldl (fun x1 x2=>x1++x2) acc.toArray (List.replicate n l.toArray)=(acc++(List.replicate n l).flatten).toArray:=by
 induction n with
 | zero=>intro acc;simp
 | succ n ih =>
  intro acc
  rw [Y0,YZ]
  have e:acc.toArray++l.toArray=(acc++l).toArray:=by simp
  rw [e,ih (acc++l),Y0,ZV,ZJ]
theorem zg:OpR X (binaryOp .Mult) (fun x y H Q=>∃ (l:Wq) (k:Int),x=.str ⟨l.toArray⟩/\y=.int k/\-(2 ^ 62)<=k/\k < 2 ^ 62/\l.length * k.toNat<=sizeLine/\Q (.str ⟨(List.replicate k.toNat l).flatten.toArray⟩) H):=by
 intro pins s σ H x y v u Q I rx ry h
 obtain ⟨l,k,rfl,rfl,h1,h2,hz,q⟩:=h
 obtain ⟨t,rfl⟩:=rx
 obtain ⟨t',rfl⟩:=ry
 have hlen:(⟨l.toArray⟩:Str).length=l.length:=rfl
 refine PySem.P.mul_str ?_ ?_ ?_ ?_
 ·rw [Bool.or_eq_false_iff]
  exact ⟨ZU (by lia),ZU (by lia)⟩
 ·intro h3 _ hh
  rw [hlen] at hh
  have hk:0 < k:=by lia
  have:(l.length:Int) * k<=16777216:=by
   have hz':l.length * k.toNat<=16777216:=hz
   have:((l.length * k.toNat:Nat):Int)<=16777216:=by lia
   rw [Int.natCast_mul] at this
   rwa [Int.toNat_of_nonneg (by lia)] at this
  have h5:(l.length:Int) * k<=2 ^ 63 - 1:=by lia
  have:=(Int.le_ediv_iff_mul_le hk).mpr h5
  lia
 ·intro _ _
  rw [hlen]
  exact ZU (by show ¬ _ > _;exact Nat.not_lt.mpr hz)
 ·by_cases h3:k < 1
  ·rw [Zq h3]
   have e:k.toNat=0:=by lia
   rw [e] at q
   exact ⟨by decide,⟨.str ⟨#[]⟩,H,I.tok _,⟨_,rfl⟩,q⟩⟩
  ·rw [Zm h3]
   split
   ·rename_i hc
    have e:(List.replicate k.toNat l).flatten=l:=by
     rw [Bool.or_eq_true] at hc
     rcases hc with hc | hc
     ·have:k=1:=by simpa using hc
      subst this
      show (List.replicate 1 l).flatten=l
      simp
     ·have:l=[]:=by
       rw [hlen] at hc
       exact List.eq_nil_of_length_eq_zero (by simpa using hc)
      subst this
      simp
    rw [e] at q
    exact ⟨.str ⟨l.toArray⟩,H,I,⟨t,rfl⟩,q⟩
   ·have e:=uE l k.toNat []
    rw [Xl] at e
    rw [show (⟨l.toArray⟩:Str).cps=l.toArray from rfl,e]
    refine ⟨?_,⟨.str ⟨(List.replicate k.toNat l).flatten.toArray⟩,H,I.tok _,⟨s.toks,rfl⟩,q⟩⟩
    have hl:=len_rep l k.toNat
    show (⟨(List.replicate k.toNat l).flatten.toArray⟩:Str).length<=sizeLine
    show ((List.replicate k.toNat l).flatten.toArray).size<=sizeLine
    rw [ZY,hl,Nat.mul_comm]
    exact hz
end
end L2
namespace VS
open PySem PySem.Spec PyProof.Rows L2
section
variable {G:Gx} {X:Cx} {a b c e tg:Expr} {es:List Expr} {ca cb cc:Ex} {cs:Exs} {pos p p1 p2 apos cpos:Pos} {k k':Nat}
theorem zw:fD G (fun x y H Q=>∃ (l:Wq) (k:Int),x=.str ⟨l.toArray⟩/\y=.int k/\-(2 ^ 62)<=k/\k < 2 ^ 62/\l.length * k.toNat<=sizeLine/\Q (.str ⟨(List.replicate k.toNat l).flatten.toArray⟩) H) rV:=by
 intro Φ η H0 H x y u w F1 F2 m t Q tw e k
 obtain ⟨m1,x⟩:=x
 obtain ⟨m2,y⟩:=y
 obtain ⟨same,r1,r2,f1,f2,nd⟩:=tw
 unfold rV at e
 split at e
 ·rename_i _ ts _ j e1 e2
  cases e1
  cases e2
  split at e
  ·rename_i hc
   cases e
   have b1:=hc.2.1
   have b2:=hc.2.2
   unfold B62 at b1 b2
   refine ⟨ts,j,r1.str_inv.1,r2.int_inv,by lia,by lia,hc.1,bP k (.str _ ⟨?_,fun c hc'=>?_⟩)⟩
   ·rw [len_rep,Nat.mul_comm];exact hc.1
   ·obtain ⟨x,hx,hcx⟩:=Wt.mp hc'
    rw [(List.mem_replicate.mp hx).2] at hcx
    exact r1.str_inv.2.2 c hcx
  ·cases e
 ·cases e
theorem vz:PV G X (.Dict [] [] pos) (mn 0 []):=PE.weak xV fun σ H Q hq=>by
 obtain ⟨Φ,η,m,t,s,e,k⟩:=hq
 cases (show some (Md.fr,T.dct 0 [])=some (m,t) from e)
 intro q hq
 have:Rp G (upd H q (.dK [])) (.ref q) (.dct 0 ((([]:List Key).map aA).zip [])) (q :: ([]:Y1).flatten):=.dct ar rfl .nil
 exact k _ _ [q] (bj hq) this ⟨by simp,fun b hb=>by rw [Zj.mp hb];exact hq⟩
end
section
variable {G:Gx} {X:Cx} {a b c e tg:Expr} {es:List Expr} {ca cb cc ce:Ex} {cs:Exs} {pos p p1 p2 apos cpos pos':Pos} {k k':Nat}
theorem gq {body:List Stmt} {cb:Sx} (hp:PassesOwn (model X.prog X.w) X.A X.env X.xe) (hc:PVT G X c cc) (hb:fY G X body cb):PSV G X (.While c body [] pos) (iY cc cb) :=
 PS.weak (va hp hc hb) fun D σ H hq=>by
  obtain ⟨Φ,η,o,s,e,k⟩:=hq
  refine ⟨fun n σ2 H2=>∃ Φ2 η2,SR G Φ2 η2 σ2 H2/\Frm Φ η H Φ2 η2 H2/\cX cc cb n η2=some o,⟨qw,Φ,η,s,Frm.refl Φ η H,e⟩,?_⟩
  rintro n σ2 H2 ⟨Φ2,η2,s2,f2,e2⟩
  cases n with
  | zero=>cases (show (none:Option Out)=some o from e2)
  | succ n =>
   rw [cX] at e2
   obtain ⟨⟨mx,x⟩,ex,e3⟩:=Zz.mp e2
   obtain ⟨t,et,e4⟩:=Zz.mp e3
   refine ⟨Φ2,η2,mx,x,t,s2,ex,et,fun H3 sm=>?_⟩
   have s3:=s2.same sm
   have f3:Frm Φ η H Φ2 η2 H3:=f2.trans (Frm.same sm)
   cases t with
   | false =>
    rw [Zm Zd] at e4
    cases e4
    show if false=true then _ else _
    rw [Zm Zd]
    exact k Φ2 σ2 H3 s3 f3
   | true =>
    rw [Zq rfl] at e4
    show if true=true then _ else _
    rw [Zq rfl]
    obtain ⟨o',e5,e6⟩:=Zz.mp e4
    refine ⟨fun σ4 H4=>∃ Φ4 η4,SR G Φ4 η4 σ4 H4/\Frm Φ η H Φ4 η4 H4/\cX cc cb n η4=some o,fun σ4 H4 q=>⟨n,YT n,q⟩,Φ2,η2,o',s3,e5,?_⟩
    cases o' with
    | nx η4=>exact fun Φ4 σ4 H4 s5 fb=>⟨Φ4,η4,s5,f3.trans fb,e6⟩
    | ct η4=>exact fun Φ4 σ4 H4 s5 fb=>⟨Φ4,η4,s5,f3.trans fb,e6⟩
    | bk η4 =>
     cases (show some (Out.nx η4)=some o from e6)
     exact fun Φ4 σ4 H4 s5 fb=>k Φ4 σ4 H4 s5 (f3.trans fb)
    | rt v η4 =>
     cases (show some (Out.rt v η4)=some o from e6)
     exact fun u H4 F4 Φ4 σ4 s5 fb r5 q5=>k u H4 F4 Φ4 σ4 s5 (f3.trans fb) r5 (q5.back f3)
theorem cV {H:Hp} {v:V} {l:List (T×T)} {F:X0} (r:Rp G H v (.dct 0 l) F):∃ (a:Addr) (ks:List Key) (vs:List V) (ts:Wi) (Fs:Y1),v=.ref a/\F=a :: Fs.flatten/\H a=some (.dK (ks.zip vs))/\ks.length=vs.length/\l=(ks.map aA).zip ts/\RpL G H vs ts Fs:=by
 cases r with
 | dct h hl q=>exact ⟨_,_,_,_,_,rfl,rfl,h,hl,rfl,q⟩
theorem cO {H:Hp} {v:V} {t:T} {F:X0} (r:Rp G H v t F) (h:eY t=true):∃ k:Key,v=kV k/\t=aA k:=by
 cases t with
 | int i=>exact ⟨.inl i,r.int_inv,rfl⟩
 | str s=>exact ⟨.inr (sx s),r.str_inv.1,by simp [aA,sx]⟩
 | _=>cases h
theorem iB {H:Hp} {k:Key}:∀ {ks:List Key} {vs:List V} {ts:Wi} {Fs:Y1},ks.length=vs.length->RpL G H vs ts Fs →
  (cL ((ks.map aA).zip ts) (aA k)=none/\cn (ks.zip vs) k=none)\/∃ (i:Nat) (v:V) (t:T) (F:X0),cL ((ks.map aA).zip ts) (aA k)=some t/\cn (ks.zip vs) k=some v/\vs[i]?=some v/\Fs[i]?=some F/\Rp G H v t F
 | [],[],_,_,_,.nil=>.inl ⟨rfl,rfl⟩
 | k' :: ks,v :: vs,_,_,hl,.cons (t:=t) (F:=F) (ts:=ts) (Fs:=Fs) r q=>by
  have e:eqT (aA k') (aA k)=decide (k'=k):=by
   rw [Y4,decide_eq_true_eq]
   cases k with
   | inl i=>cases k' <;> simp [aA]
   | inr x =>
    obtain ⟨⟨x⟩⟩:=x
    cases k' with
    | inl j=>simp [aA]
    | inr y=>obtain ⟨⟨y⟩⟩:=y;simp [aA]
  by_cases hk:k'=k
  ·refine .inr ⟨0,v,t,F,?_,b6 hk,rfl,rfl,r⟩
   have e':eqT (aA k') (aA k)=true:=by rw [e];exact decide_eq_true hk
   simp only [cL,Zl,Zc,ZL,e']
   rfl
  ·have h1:cL (((k' :: ks).map aA).zip (t :: ts)) (aA k)=cL ((ks.map aA).zip ts) (aA k):=by
    have e':eqT (aA k') (aA k)=false:=by rw [e];exact ZU hk
    simp only [cL,Zl,Zc,ZL,e']
   have h2:cn ((k' :: ks).zip (v :: vs)) k=cn (ks.zip vs) k:=by simp [cn,hk]
   rw [h1,h2]
   rcases iB (k:=k) (by simpa using hl) q with h | ⟨i,v',t',F',a1,a2,a3,a4,a5⟩
   ·exact .inl h
   ·exact .inr ⟨i+1,v',t',F',a1,a2,by simpa using a3,by simpa using a4,a5⟩
theorem nu (hu:X.A.units+1 < cLine):IxR X (fun x y H Q=>∃ a v,x=.ref a/\gj H a y (some v)/\Q v H):=by
 intro value slice pins s σ H x y v u Q I rx ry h hs
 obtain ⟨a,w,rfl,g,q⟩:=h
 cases rx
 have hT:=pd I g
 unfold subscriptTail
 refine Zp ?_
 rw [getitemInPython_of_ne hT.not_modules]
 refine Zp (wpAny_specialOf hT PySem.F.slot_dict_getitem.lookup ?_)
 have fin:wpAny (model X.prog X.w) X.A (subscripted slice false (.ref a) u) (fun r s₃=>wpAny (model X.prog X.w) X.A (letTemporaryGo value (.ref a) r >>= fun _=>pure r) (EP X pins σ Q) X.xe s₃) X.xe s:=by
  rw [hs]
  exact wpAny_operating (ug hu I g ry fun w' s3 I3 rw'=>Zp (wpAny_letTemporaryGo (Za ⟨w,H,I3,rw',q⟩)))
 first
  | exact Za (Zp fin)
  | exact Zp (Za (Zp fin))
  | exact Zp fin
noncomputable def C9 (K:Y2):R2:=fun x y H Q=>rIx K x y H Q\/∃ a v,x=.ref a/\gj H a y (some v)/\Q v H
theorem Cn:fD G (C9 G.K) oIx:=by
 intro Φ η H0 H x y u w F1 F2 m t Q tw e k
 obtain ⟨m1,x⟩:=x
 by_cases hd:∃ l,x=.dct 0 l
 ·obtain ⟨l,rfl⟩:=hd
  simp only [oIx] at e
  split at e
  ·rename_i hk
   obtain ⟨t',e1,e2⟩:=Zw.mp e
   obtain ⟨a,ks,vs,ts,Fs,rfl,rfl,ha,hl,rfl,q⟩:=cV tw.r1
   obtain ⟨kk,rfl,ek⟩:=cO tw.r2 hk
   rw [ek] at e1
   rcases iB (k:=kk) hl q with ⟨h1,_⟩ | ⟨i,v,t2,F,a1,a2,a3,a4,a5⟩
   ·rw [h1] at e1;cases e1
   ·rw [a1] at e1
    cases e1
    cases e2
    refine .inr ⟨a,v,rfl,by rw [← a2];exact gj.k ha,?_⟩
    have f:=((tw.f1.sub (Yv _ _)).sub (bK a4)).up a5
    exact k v H F (aD.refl _) a5 f
  ·cases e
 ·have e':aE (m1,x) y=some (m,t):=by
   simp only [oIx] at e
   split at e
   ·rename_i l hx
    exact absurd ⟨_,rfl⟩ hd
   ·exact e
  exact .inl (qX Φ η H0 H (m1,x) y u w F1 F2 m t Q tw e' k)
theorem qW (hr:Room k X.A) (ha:PV G X a ca) (hb:PV G X b cb) (hs:fO b:=by intro _ _;rfl) (hK:X.K=G.K:=by rfl):PV G X (.Subscript a b pos) (e2 oIx ca cb) :=
 PE.weak (lE (IxR.or jd (nu (iK hr))) ha hb hs) fun σ H Q h=>by rw [hK];exact lH Cn h
noncomputable def fV:T->V
 | .bl b=>.bl b
 | .int i=>.int i
 | .str s=>.str (sx s)
 | _=>.non
theorem Ai {H:Hp} {v:V} {t:T} {F:X0} (r:Rp G H v t F) (h:flat t=true):v=fV t/\eT v=true:=by
 cases r with
 | non=>exact ⟨rfl,rfl⟩
 | bl b=>exact ⟨rfl,rfl⟩
 | int i=>exact ⟨rfl,rfl⟩
 | str s hl=>exact ⟨rfl,rfl⟩
 | _=>cases h
theorem Cc:∀ {t u:T},flat t=true->flat u=true->eqV (fV t) (fV u)=eqT t u
 | .non,.non,_,_=>rfl
 | .non,.bl _,_,_=>rfl
 | .non,.int _,_,_=>rfl
 | .non,.str _,_,_=>rfl
 | .bl _,.non,_,_=>rfl
 | .bl _,.bl _,_,_=>rfl
 | .bl _,.int _,_,_=>rfl
 | .bl _,.str _,_,_=>rfl
 | .int _,.non,_,_=>rfl
 | .int _,.bl _,_,_=>rfl
 | .int _,.int _,_,_=>rfl
 | .int _,.str _,_,_=>rfl
 | .str _,.non,_,_=>rfl
 | .str _,.bl _,_,_=>rfl
 | .str _,.int _,_,_=>rfl
 | .str _,.str _,_,_=>vJ
theorem vN {H:Hp} {v w:V} {t u:T} {F F':X0} (r:Rp G H v t F) (r':Rp G H w u F') (h1:flat t=true) (h2:flat u=true):eqV v w=eqT t u/\eT v=true/\eT w=true:=by
 obtain ⟨e1,f1⟩:=Ai r h1
 obtain ⟨e2,f2⟩:=Ai r' h2
 refine ⟨?_,f1,f2⟩
 rw [e1,e2]
 exact Cc h1 h2
theorem oE {H:Hp} {x:V} {t:T} {F:X0} (r:Rp G H x t F) (hx:flat t=true):∀ {vs:List V} {ts:Wi} {Fs:Y1},RpL G H vs ts Fs->ts.all flat=true->vs.all eT=true/\inV x vs=ts.any fun y=>eqT y t
 | _,_,_,.nil,_=>⟨rfl,rfl⟩
 | _,_,_,.cons r' q,h=>by
  rw [Xp,Zb] at h
  obtain ⟨h1,h2⟩:=oE r hx q h.2
  obtain ⟨e1,e2,e3⟩:=vN r' r h.1 hx
  refine ⟨by rw [Xp,e2,h1];rfl,?_⟩
  unfold inV at h2 ⊢
  rw [Yh,Yh,h2,e1]
noncomputable def CZ (K:Y2):R2:=fun x y H Q=>rIn K false x y H Q\/∃ a o,y=.ref a/\gj H a x o/\Q (.bl o.isSome) H
noncomputable def sS (K:Y2):R2:=fun x y H Q=>rIn K true x y H Q\/∃ a o,y=.ref a/\gj H a x o/\Q (.bl (!o.isSome)) H
theorem yT (hu:X.A.units+1 < cLine):OpR X (compareOp .In) (fun x y H Q=>∃ a o,y=.ref a/\gj H a x o/\Q (.bl o.isSome) H):=by
 intro pins s σ H x y v u Q I rx ry h
 obtain ⟨a,o,rfl,g,q⟩:=h
 cases ry
 exact Dp hu I g rx fun s3 I3=>⟨.bl o.isSome,H,I3,rfl,q⟩
theorem vf (hu:X.A.units+1 < cLine):OpR X (compareOp .NotIn) (fun x y H Q=>∃ a o,y=.ref a/\gj H a x o/\Q (.bl (!o.isSome)) H):=by
 intro pins s σ H x y v u Q I rx ry h
 obtain ⟨a,o,rfl,g,q⟩:=h
 cases ry
 exact zD hu I g rx fun s3 I3=>⟨.bl (!o.isSome),H,I3,rfl,q⟩
theorem pP {Φ:Fps} {η:VS.Env} {H0 H:Hp} {x y:Val} {u w:V} {F1 F2:X0} {m:Md} {t:T} (tw:Two G Φ η H0 H x y u w F1 F2) (e:jP x y=some (m,t)) :
  ∃ b,m=.fr/\t=.bl b/\((∃ p xs,w=.ref p/\(SqL G.K H p xs\/SqT G.K H p xs)/\eT u=true/\xs.all eT=true/\inV u xs=b)\/∃ a o,w=.ref a/\gj H a u o/\o.isSome=b):=by
 obtain ⟨m2,y⟩:=y
 simp only [jP] at e
 split at e
 ·split at e
  ·rename_i hk
   cases e
   obtain ⟨a,ks,vs,ts,Fs,rfl,rfl,ha,hl,rfl,q⟩:=cV tw.r2
   obtain ⟨kk,rfl,ek⟩:=cO tw.r1 hk
   refine ⟨_,rfl,rfl,.inr ⟨a,cn (ks.zip vs) kk,rfl,gj.k ha,?_⟩⟩
   rw [ek]
   rcases iB (k:=kk) hl q with ⟨h1,h2⟩ | ⟨i,v,t2,F,a1,a2,_⟩
   ·rw [h1,h2];rfl
   ·rw [a1,a2];rfl
  ·cases e
 ·split at e
  ·rename_i hk
   cases e
   rw [Zb] at hk
   obtain ⟨a,vs,Fs,rfl,rfl,ha,ra⟩:=tw.r2.lst_inv
   obtain ⟨h1,h2⟩:=oE tw.r1 hk.1 ra hk.2
   have hf:eT u=true:=(vN tw.r1 tw.r1 hk.1 hk.1).2.1
   exact ⟨_,rfl,rfl,.inl ⟨a,vs,rfl,.inl (SqL.of ha),hf,h1,h2⟩⟩
  ·cases e
 ·split at e
  ·rename_i hk
   cases e
   rw [Zb] at hk
   obtain ⟨a,vs,Fs,rfl,rfl,ha,ra⟩:=tw.r2.tup_inv
   obtain ⟨h1,h2⟩:=oE tw.r1 hk.1 ra hk.2
   have hf:eT u=true:=(vN tw.r1 tw.r1 hk.1 hk.1).2.1
   exact ⟨_,rfl,rfl,.inl ⟨a,vs,rfl,.inr (SqT.of ha),hf,h1,h2⟩⟩
  ·cases e
 ·cases e
theorem CO:fD G (CZ G.K) jP:=by
 intro Φ η H0 H x y u w F1 F2 m t Q tw e k
 obtain ⟨b,rfl,rfl,h⟩:=pP tw e
 rcases h with ⟨p,xs,rfl,hq,f1,f2,hb⟩ | ⟨a,o,rfl,g,hb⟩
 ·refine .inl ⟨p,xs,rfl,hq,f1,f2,?_⟩
  rw [hb]
  exact bP k (.bl b)
 ·refine .inr ⟨a,o,rfl,g,?_⟩
  rw [hb]
  exact bP k (.bl b)
theorem Bu:fD G (sS G.K) bT:=by
 intro Φ η H0 H x y u w F1 F2 m t Q tw e k
 unfold bT at e
 split at e
 ·rename_i m' b' e'
  cases e
  obtain ⟨b,rfl,hb',h⟩:=pP tw e'
  cases hb'
  rcases h with ⟨p,xs,rfl,hq,f1,f2,hb⟩ | ⟨a,o,rfl,g,hb⟩
  ·refine .inl ⟨p,xs,rfl,hq,f1,f2,?_⟩
   rw [hb]
   exact bP k (.bl (!b'))
  ·refine .inr ⟨a,o,rfl,g,?_⟩
   rw [hb]
   exact bP k (.bl (!b'))
 ·cases e
theorem xH:Tells jP:=by
 intro x y m t e
 simp only [jP] at e
 split at e
 all_goals first | (split at e <;> first | (cases e;exact ⟨_,rfl⟩) | cases e) | cases e
theorem uz:Tells bT:=by
 intro x y m t e
 unfold bT at e
 split at e
 ·cases e;exact ⟨_,rfl⟩
 ·cases e
theorem zZ (hr:Room k X.A) (ha:PV G X a ca) (hb:PV G X b cb) (hm:behindInMarks .In b=false:=by with_unfolding_all rfl) (hK:X.K=G.K:=by rfl):PVT G X (.Compare a [.In] [b] pos) (e2 jP ca cb):=eX (r:=CZ X.K) (t8.or (yT (iK hr))) (hK ▸ CO) xH ha hb hm
theorem nS (hr:Room k X.A) (ha:PV G X a ca) (hb:PV G X b cb) (hm:behindInMarks .NotIn b=false:=by with_unfolding_all rfl) (hK:X.K=G.K:=by rfl):PVT G X (.Compare a [.NotIn] [b] pos) (e2 bT ca cb):=eX (r:=sS X.K) (oi.or (vf (iK hr))) (hK ▸ Bu) uz ha hb hm
end
end VS
end
section
open PySem PyProof.Rows
namespace TS
variable {prog:Program} {w:World} {A:Around} {E:Z0} {s:Shared} {G:Keyed->Prop} {r:Keyed->Keyed->Bool}
theorem ng {vs:Wx} {xs:Array Keyed} (hp:xs.Perm (pairsOf vs)):(xs.map (·.2)).toList.Perm vs/\(xs.map (·.2)).toList.map (fun v=>(v,v))=xs.toList:=by
 have hp':=Array.perm_iff_toList_perm.mp hp
 rw [pairsOf_toList] at hp'
 constructor
 ·rw [Array.toList_map]
  refine (hp'.map _).trans ?_
  rw [show (fun x:Keyed=>x.2)=Prod.snd from rfl,List.map_snd_zip (Zg _)]
 ·rw [Array.toList_map,Z5]
  conv=>rhs;rw [← List.map_id xs.toList]
  apply Xk
  intro p hpm
  have:=mem_zip_self (hp'.mem_iff.mp hpm)
  exact Prod.ext this.1.symm rfl
end TS
end
section
namespace L2
open PySem PySem.Spec PyProof.Rows TS
section
variable {X:Cx}
theorem qm:∀ {us:Wx},(∀ v∈us,∃ x t,v=Value.str x t)->aO ((us.map strOf).map V.str) us
 | [],_=>.nil
 | u :: us,h=>by
  obtain ⟨x,t,rfl⟩:=h u (Zx ..)
  exact .cons ⟨t,rfl⟩ (qm fun v hv=>h v (Zy _ hv))
end
end L2
end
section
namespace VS
mutual
theorem pJ:∀ (n:Nat) (t:T),eqD n t=true->eqT t t=true
 | n,.non,_=>by simp
 | n,.bl _,_=>by simp
 | n,.int _,_=>by simp
 | n,.str _,_=>by simp
 | n+1,.tup l,h=>by
  simp only [eqD,Yx] at h
  simp only [eqT]
  exact jT n l h
 | n+1,.lst l,h=>by
  simp only [eqD,Yx] at h
  simp only [eqT]
  exact jT n l h
 | 0,.tup _,h=>by simp at h
 | 0,.lst _,h=>by simp at h
 | _,.scr _,h=>by simp at h
 | _,.dct _ _,h=>by simp at h
 | _,.obj _ _,h=>by simp at h
theorem jT:∀ (n:Nat) (l:Wi),(∀ t∈l,eqD n t=true)->rg l l=true
 | _,[],_=>rfl
 | n,t :: r,h=>by
  simp only [rg,Zb]
  exact ⟨pJ n t (h t Zx),jT n r fun u hu=>h u (Zy _ hu)⟩
end
theorem AN {α:Type} (l:List α) (a b:Option Int):(cut l a b).length<=l.length:=by
 unfold cut
 simp only [YR,Yi]
 omega
theorem zb {α:Type} (l:List α) (a b:Option Int) {x:α} (h:x∈cut l a b):x∈l:=by
 unfold cut at h
 exact List.mem_of_mem_drop (List.mem_of_mem_take h)
theorem vq {α:Type} (l:List α) (k:Nat):cut l none (some (k:Int))=l.take k:=by
 have h:¬ ((k:Int) < 0):=by lia
 by_cases h2:k<=l.length
 ·simp [cut,clip,h,Y3 h2]
 ·rw [YN (by lia)]
  simp [cut,clip,h,XX (Xr h2)]
theorem zz {α β:Type} (f:α->β) (l:List α) (a b:Option Int):cut (l.map f) a b=(cut l a b).map f:=by
 unfold cut
 simp only [Zv,List.map_take,List.map_drop]
theorem dk {tg:Tg} {it:Its} {body:Sx} {η:Env} {m:Md} {l:Wi} (e:it η=some (m,l)) (h:okF m=true):fA tg it body η=forL tg body l η:=by
 unfold fA
 rw [e]
 exact Zq h
theorem eK {g:Fn} {as:Exs} {η:Env} {xs:Wk} {t:T} (h:as η=some xs) (h2:g (trees xs)=some (.fr,t)):cy g as η=some (.fr,t):=by
 simp only [cy,h,Zu,h2]
theorem aQ {i:Nat} {e:Ex} {η:Env} {m:Md} {t:T} (h:e η=some (m,t)) (hm:m ≠ .bo) (hi:i < η.length):aK i e η=some (.nx (η.set i (some (.pu t)))):=by
 simp only [aK,h,Zu]
 cases m with
 | bo=>exact absurd rfl hm
 | _=>simp [hi]
end VS
end
section
namespace VS
open PySem PySem.Spec PyProof.Rows L2
theorem B8 {a b c:Tx} (h:a < b) (h':¬ c < b):a < c:=by
 by_cases e:a < c
 ·exact e
 ·exact absurd (List.lt_of_le_of_lt (List.not_lt.mp e) h) h'
theorem iP (x:Tx):∀ l:List Tx,(lQ x l).Perm (x :: l)
 | []=>List.Perm.refl _
 | y :: r=>by
  unfold lQ
  split
  ·exact ((iP x r).cons y).trans (List.Perm.swap _ _ _)
  ·exact List.Perm.refl _
theorem ie:∀ l:List Tx,(dZ l).Perm l
 | []=>List.Perm.refl _
 | x :: l=>(iP x _).trans ((ie l).cons x)
theorem pO (x:Tx):∀ {l:List Tx},l.Pairwise (fun a b=>¬ b < a)->(lQ x l).Pairwise (fun a b=>¬ b < a)
 | [],_=>by simp [lQ]
 | y :: r,h=>by
  unfold lQ
  rw [n8]
  obtain ⟨h1,h2⟩:=XB.mp h
  split
  ·rename_i c
   have c':y < x:=by simpa using c
   refine XB.mpr ⟨fun z hz=>?_,pO x h2⟩
   rcases Zo.mp ((iP x r).mem_iff.mp hz) with rfl | hz
   ·exact fun z=>List.lt_irrefl _ (List.lt_trans c' z)
   ·exact h1 z hz
  ·rename_i c
   have c':¬ y < x:=by simpa using c
   refine XB.mpr ⟨fun z hz=>?_,h⟩
   rcases Zo.mp hz with rfl | hz
   ·exact c'
   ·exact fun w=>h1 z hz (B8 w c')
theorem mM:∀ l:List Tx,(dZ l).Pairwise (fun a b=>¬ b < a)
 | []=>List.Pairwise.nil
 | x :: l=>pO x (mM l)
theorem mq {l l':List Tx} (h:l'.Perm l) (hp:l'.Pairwise (fun a b=>¬ b < a)):l'=dZ l :=
 List.Perm.eq_of_pairwise (le:=fun a b=>¬ b < a) (fun a b _ _ h1 h2=>List.le_antisymm (List.not_lt.mp h1) (List.not_lt.mp h2)) hp (mM l) (h.trans (ie l).symm)
theorem v8 (s:Tx):(sx s).cps.toList=s:=rfl
theorem wA {ss:List Tx} {ss':List Str} (h:ss'.Perm (ss.map sx)) (hp:ss'.Pairwise (fun a b=>¬ b.cps.toList < a.cps.toList)):ss'=(dZ ss).map sx:=by
 have e:ss'=(ss'.map fun x=>x.cps.toList).map sx:=by
  rw [Z5]
  conv=>lhs;rw [← List.map_id ss']
  apply Xk
  intro x hx
  obtain ⟨s,_,rfl⟩:=ZF.mp (h.mem_iff.mp hx)
  show sx s=sx (sx s).cps.toList
  rw [v8]
 have e2:(ss'.map fun x=>x.cps.toList)=dZ ss:=by
  refine mq ?_ ?_
  ·have:=h.map fun x:Str=>x.cps.toList
   rw [Z5] at this
   have e3:((fun x:Str=>x.cps.toList) ∘ sx)=id:=by
    funext s
    exact v8 s
   rw [e3,List.map_id] at this
   exact this
  ·rw [X8];exact hp
 rw [e,e2]
noncomputable def txB (s:Tx):Bool:=decide (s.length<=dD) && s.all (fun c=>decide (c < 1114112))
theorem BF {s:Tx} (h:txB s=true):l5 s:=by
 unfold txB at h
 simp at h
 exact h
section
variable {G:Gx} {X:Cx} {e:Expr} {cs:Exs} {p pos:Pos}
theorem qV {H:Hp}:∀ {ss:List Tx},(∀ s∈ss,l5 s)->RpL G H (ss.map fun s=>V.str (sx s)) (ss.map T.str) (ss.map fun _=>[])
 | [],_=>.nil
 | s :: ss,h=>.cons (.str s (h s (Zx ..))) (qV fun x hx=>h x (Zy _ hx))
theorem o5 {α β:Type}:∀ (l:List α),(l.map fun _=>([]:List β)).flatten=[]
 | []=>rfl
 | _ :: l=>by simp
theorem xB {Φ:Fps} {η:VS.Env} {H0 H:Hp} {ss:List Tx} {Q:VK} (k:∀ v H' F,aD H H'->Rp G H' v (.lst ((dZ ss).map T.str)) F->Fp Φ η H0 .fr F->Q v H') (s0:aD H0 H) (tk:∀ s∈ss,l5 s) :
  ∀ (l:Addr) (ss':List Str),H l=none->ss'.Perm (ss.map sx)->ss'.Pairwise (fun a b=>¬ b.cps.toList < a.cps.toList)->Q (.ref l) (upd H l (.lst (ss'.map V.str))):=fun q ss' hq hp hw=>by
 rw [wA hp hw]
 have sm:aD H (upd H q (.lst (((dZ ss).map sx).map V.str))):=bj hq
 have r0:=qV (G:=G) (H:=upd H q (.lst (((dZ ss).map sx).map V.str))) fun s hs=>tk s ((ie ss).mem_iff.mp hs)
 have r:Rp G (upd H q (.lst (((dZ ss).map sx).map V.str))) (.ref q) (.lst ((dZ ss).map T.str)) (q :: ((dZ ss).map fun _=>[]).flatten):=.lst (by rw [ar,Z5];rfl) r0
 rw [o5] at r
 exact k _ _ _ sm r (Fp.new (s0.free hq) (by simp) Fp.nil)
theorem keys_str:∀ {ks:List Key} {ss:List Tx},strs? (ks.map aA)=some ss->ks=(ss.map sx).map Sum.inr
 | [],_,e=>by cases e;rfl
 | .inl i :: ks,_,e=>by cases e
 | .inr x :: ks,ss,e=>by
  simp only [Zl,aA,strs?] at e
  obtain ⟨ss',e1,e2⟩:=Zw.mp e
  subst e2
  rw [keys_str e1]
  simp [sx]
theorem uI:bootBuiltins ("sorted" : Str)=some (.builtin "sorted"):=by decide +kernel
end
end VS
end
section
namespace ST
open PySem PySem.Spec PyProof.Rows
variable {prog:Program} {w:World} {A:Around} {E:Z0} {s:Shared}
theorem CB {Q:PySem.Fin->Shared->Prop} {E':Z0} (hh:A.handled=none) (h:∀ (h':Heap) (x:Addr),(∀ b o,s.heap.get? b=some o->h'.get? b=some o)->(∃ o,h'.get? x=some o/\o.cls=.type "StopIteration")->E' (.ref x) { s with heap:=h' }) :
  wpAny (model prog w) A (newExc (.type "StopIteration") [] >>= fun e=>raiseNew e) Q E' s:=by
 simp only [newExc,newTuple]
 refine Zp (Zp (XT (Zp (m:=firstArgMember _ _) (wpAny_of_eq (a:=Value.none) (by first | rfl | (simp only [firstArgMember];rfl)) (XT ?_ (by size_fits)))) (by size_fits)))
 simp only [raiseNew]
 refine Zp (wpAny_handled ?_)
 rw [hh]
 exact Zp (Za (wpAny_throw (h _ _ (fun b o e=>Zi _ (Zi _ e)) ⟨_,ZP _ rfl,rfl⟩)))
end ST
end
section
namespace VS
open PySem PySem.Spec PyProof.Rows L2
inductive Pth (G:Gx) (H:Hp):List Ky->V->V->Prop
 | nil (v:V):Pth G H [] v v
 | fld {c k:Nat} {a dx:Addr} {fs:List (Str×V)} {u w:V} {ks:List Ky}:H a=some (.ins (G.ct (c+1)).1 dx fs)->fs.lookup ((G.ct (c+1)).2 k)=some u->Pth G H ks u w->Pth G H (.fld k :: ks) (.ref a) w
 | ix {a:Addr} {vs:List V} {i:Int} {j:Nat} {u w:V} {ks:List Ky}:H a=some (.lst vs)->ixP vs.length i=some j->vs[j]?=some u->Pth G H ks u w->Pth G H (.at (.int i) :: ks) (.ref a) w
 | key {a:Addr} {kvs:List (Key×V)} {k:Key} {u w:V} {ks:List Ky}:H a=some (.dK kvs)->cn kvs k=some u->Pth G H ks u w->Pth G H (.at (aA k) :: ks) (.ref a) w
 | un {v w:V} {ks:List Ky}:Pth G H ks v w->Pth G H (.un :: ks) v w
section
variable {G:Gx}
theorem nz {Fs:Y1} {i j:Nat} {F F':X0} (nd:Fs.flatten.Nodup) (hi:Fs[i]?=some F) (hj:Fs[j]?=some F') (n:i ≠ j) {a:Addr} (ha:a∈F):a ∉ F':=by
 intro hb
 induction Fs generalizing i j with
 | nil=>simp at hi
 | cons G Gs ih =>
  rw [ZV,ZX] at nd
  cases i with
  | zero =>
   simp at hi;subst hi
   cases j with
   | zero=>exact n rfl
   | succ j=>exact nd.2.2 a ha a (cM (by simpa using hj) hb) rfl
  | succ i =>
   cases j with
   | zero =>
    simp at hj;subst hj
    exact nd.2.2 a hb a (cM (by simpa using hi) ha) rfl
   | succ j=>exact ih nd.2.1 (by simpa using hi) (by simpa using hj) (by lia)
theorem b9 {Fs:Y1} {j:Nat} {F':X0} {a:Addr} (h:a∈(Fs.set j F').flatten):a∈F'\/∃ i F,i ≠ j/\Fs[i]?=some F/\a∈F:=by
 obtain ⟨i,F,h1,h2⟩:=fC h
 by_cases e:i=j
 ·subst e
  rw [List.getElem?_set_self' ] at h1
  cases q:Fs[i]? with
  | none=>rw [q] at h1;cases h1
  | some _=>rw [q] at h1;cases h1;exact .inl h2
 ·rw [Ys (Yk e)] at h1
  exact .inr ⟨i,F,e,h1,h2⟩
theorem dJ:∀ {Fs:Y1} {j:Nat} {F':X0},Fs.flatten.Nodup->F'.Nodup->(∀ i F,i ≠ j->Fs[i]?=some F->∀ a∈F,a ∉ F')->(Fs.set j F').flatten.Nodup
 | [],_,_,h,_,_=>by simpa using h
 | G :: Gs,0,F',h,h',d=>by
  rw [ZV,ZX] at h
  rw [List.set_cons_zero,ZV,ZX]
  refine ⟨h',h.2.1,fun a ha b hb e=>?_⟩
  subst e
  obtain ⟨i,F,h1,h2⟩:=fC hb
  exact d (i+1) F (by lia) (by simpa using h1) a h2 ha
 | G :: Gs,j+1,F',h,h',d=>by
  rw [ZV,ZX] at h
  rw [List.set_cons_succ,ZV,ZX]
  refine ⟨h.1,dJ h.2.1 h' fun i F n hi=>d (i+1) F (by lia) (by simpa using hi),fun a ha b hb e=>?_⟩
  subst e
  rcases b9 hb with z | ⟨i,F,n,h1,h2⟩
  ·exact d 0 G (by lia) rfl a ha z
  ·exact h.2.2 a ha a (cM h1 h2) rfl
theorem RpL.each {H H2:Hp}:∀ {vs:List V} {ts:Wi} {Fs:Y1},RpL G H vs ts Fs->(∀ (i:Nat) v t F,vs[i]?=some v->ts[i]?=some t->Fs[i]?=some F->Rp G H v t F->Rp G H2 v t F)->RpL G H2 vs ts Fs
 | _,_,_,.nil,_=>.nil
 | _,_,_,.cons r q,k=>.cons (k 0 _ _ _ rfl rfl rfl r) (RpL.each q fun i v t F a b c d=>k (i+1) v t F (by simpa using a) (by simpa using b) (by simpa using c) d)
theorem RpL.setAt {H H2:Hp}:∀ {vs:List V} {ts:Wi} {Fs:Y1} {j:Nat} {u:V} {x':T} {F':X0},RpL G H vs ts Fs->vs[j]?=some u->Rp G H2 u x' F'->(∀ (i:Nat) v t F,i ≠ j->vs[i]?=some v->ts[i]?=some t->Fs[i]?=some F->Rp G H v t F->Rp G H2 v t F)->RpL G H2 vs (ts.set j x') (Fs.set j F')
 | _,_,_,_,_,_,_,.nil,h,_,_=>by simp at h
 | _,_,_,0,_,_,_,.cons r q,h,r',k=>by
  simp at h;subst h
  exact .cons r' (RpL.each q fun i v t F a b c d=>k (i+1) v t F (by lia) (by simpa using a) (by simpa using b) (by simpa using c) d)
 | _,_,_,j+1,_,_,_,.cons r q,h,r',k=>.cons (k 0 _ _ _ (by lia) rfl rfl rfl r) (RpL.setAt q (by simpa using h) r' fun i v t F n a b c d=>k (i+1) v t F (by lia) (by simpa using a) (by simpa using b) (by simpa using c) d)
theorem kR {H H2:Hp} {a:Addr} {o:HO} {vs:List V} {ts:Wi} {Fs:Y1} {j:Nat} {u:V} {x':T} {Fj Fj':X0} (ha:H a=some o) (ra:RpL G H vs ts Fs) (nd:(a :: Fs.flatten).Nodup) (hu:vs[j]?=some u) (hF:Fs[j]?=some Fj)
  (g:Chg G H u Fj x' H2 Fj'):H2 a=some o/\RpL G H2 vs (ts.set j x') (Fs.set j Fj')/\(a :: (Fs.set j Fj').flatten).Nodup/\(∀ b∈a :: (Fs.set j Fj').flatten,b∈a :: Fs.flatten\/H b=none)/\∀ b o,b ∉ a :: Fs.flatten->H b=some o->H2 b=some o:=by
 rw [Zh] at nd
 have subF:∀ b∈Fj,b∈Fs.flatten:=fun b hb=>cM hF hb
 have dis:∀ i F,i ≠ j->Fs[i]?=some F->∀ b∈F,b ∉ Fj':=fun i F n hi b hb hb'=>by
  rcases g.sub b hb' with z | z
  ·exact nz nd.2 hi hF n hb z
  ·exact Mut.ne_none (ra.dom b (cM hi hb)) z
 refine ⟨g.keep a o (fun z=>nd.1 (subF a z)) ha,ra.setAt hu g.rp (fun i v t F n h1 h2 h3 r=>r.keep g.kept fun b hb o' ho=>g.keep b o' (nz nd.2 h3 hF n hb) ho),?_,fun b hb=>?_,fun b o' hb ho=>g.keep b o' (fun z=>hb (Zy _ (subF b z))) ho⟩
 ·rw [Zh]
  refine ⟨fun h=>?_,dJ nd.2 g.nd dis⟩
  rcases b9 h with z | ⟨i,F,n,h1,h2⟩
  ·rcases g.sub a z with z | z
   ·exact nd.1 (subF a z)
   ·rw [ha] at z;cases z
  ·exact nd.1 (cM h1 h2)
 ·rcases Zo.mp hb with rfl | hb
  ·exact .inl Zx
  ·rcases b9 hb with z | ⟨i,F,n,h1,h2⟩
   ·rcases g.sub b z with z | z
    ·exact .inl (Zy _ (subF b z))
    ·exact .inr z
   ·exact .inl (Zy _ (cM h1 h2))
theorem kJ {α β:Type}:∀ (as:List α) (bs:List β) (i:Nat) (a:α) (y:β),as[i]?=some a->(as.zip bs).set i (a,y)=as.zip (bs.set i y)
 | [],_,_,_,_,h=>by simp at h
 | a :: as,[],i,_,_,_=>by cases i <;> simp
 | a :: as,b :: bs,0,_,y,h=>by simp at h;subst h;rfl
 | a :: as,b :: bs,i+1,_,y,h=>by
  have:=kJ as bs i _ y (by simpa using h)
  simp [this]
theorem g8 {α β:Type} (p:α->Bool):∀ {as:List α} {bs:List β} {i:Nat},as.length=bs.length->(as.zip bs).findIdx? (fun q=>p q.1)=some i->∃ a b,as[i]?=some a/\bs[i]?=some b/\p a=true/\(as.zip bs).find? (fun q=>p q.1)=some (a,b)
 | [],[],_,_,h=>by simp at h
 | a :: as,b :: bs,i,hl,h=>by
  rw [Zc,Y5] at h
  by_cases hp:p a=true
  ·rw [Zq hp] at h
   cases h
   exact ⟨a,b,rfl,rfl,hp,by simp [hp]⟩
  ·rw [Zm hp] at h
   obtain ⟨j,hj,rfl⟩:=Zw.mp h
   obtain ⟨a',b',h1,h2,h3,h4⟩:=g8 p (by simpa using hl) hj
   exact ⟨a',b',by simpa using h1,by simpa using h2,h3,by simp [hp,h4]⟩
theorem gx (k k':Key):eqT (aA k') (aA k)=true ↔ k'=k:=by
 cases k with
 | inl i=>cases k' <;> simp [aA]
 | inr x =>
  obtain ⟨⟨x⟩⟩:=x
  cases k' with
  | inl j=>simp [aA]
  | inr y=>obtain ⟨⟨y⟩⟩:=y;simp [aA]
theorem og {k:Key} {u:V}:∀ {ns:List Key} {ts:Wi} {vs:List V} {i:Nat},ns.length=ts.length->ns.length=vs.length->((ns.map aA).zip ts).findIdx? (fun q=>eqT q.1 (aA k))=some i->vs[i]?=some u->cn (ns.zip vs) k=some u
 | [],_,_,_,_,_,h,_=>by simp at h
 | n :: ns,t :: ts,v :: vs,i,h1,h2,h,hu=>by
  rw [Zl,Zc,Y5] at h
  by_cases hp:eqT (aA n) (aA k)=true
  ·rw [Zq hp] at h
   cases h
   simp at hu;subst hu
   exact b6 ((gx k n).mp hp)
  ·rw [Zm hp] at h
   obtain ⟨j,hj,rfl⟩:=Zw.mp h
   have hn:n ≠ k:=fun z=>hp ((gx k n).mpr z)
   have:cn ((n :: ns).zip (v :: vs)) k=cn (ns.zip vs) k:=by simp [cn,hn]
   rw [this]
   exact og (by simpa using h1) (by simpa using h2) hj (by simpa using hu)
 | _ :: _,[],_,_,h,_,_,_=>by simp at h
 | _ :: _,_ :: _,[],_,_,h,_,_=>by simp at h
theorem fM {H:Hp} {v:V} {c:Nat} {q0:Nat×T} {fs:List (Nat×T)} {F:X0} (r:Rp G H v (.obj (c+1) (q0 :: fs)) F):∃ (c':Nat) (a dx:Addr) (b:Bool) (ks:Wq) (vs:List V) (ts:Wi) (Fs:Y1),c+1=c'+1/\v=.ref a/\q0=(0,.bl b)/\fs=ks.zip ts/\F=a :: Fs.flatten ∧
  H a=some (.ins (G.ct (c'+1)).1 dx ((ks.map (G.ct (c'+1)).2).zip vs))/\ks.length=vs.length/\(b=true->G.me 0=some (.ref a))/\RpL G H vs ts Fs:=by
 generalize hz:T.obj (c+1) (q0 :: fs)=z at r
 cases r with
 | ins h l m q =>
  cases hz
  exact ⟨_,_,_,_,_,_,_,_,rfl,rfl,rfl,rfl,rfl,h,l,m,q⟩
 | _=>cases hz
theorem lY {H:Hp} {v:V} {m:Nat} {t:T} {F:X0} (r:Rp G H v (.obj 0 [(0,.bl true),(m,t)]) F):∃ a,v=.ref a/\G.me m=some (.ref a)/\Rp G H (.ref a) t F:=by
 generalize hz:T.obj 0 [(0,.bl true),(m,t)]=z at r
 cases r with
 | mk h q =>
  cases hz
  exact ⟨_,rfl,h,q⟩
 | _=>cases hz
theorem oR {c k0:Nat} (inj:∀ c k k':Nat,(G.ct c).2 k=(G.ct c).2 k'->k=k') {ns:Wq} {vs:List V} {ts:Wi} {u:V} {i:Nat} (hl:ns.length=vs.length) (h1:(ns.zip ts).findIdx? (fun q=>q.1 == k0)=some i) (g1:ns[i]?=some k0) (u1:vs[i]?=some u):((ns.map (G.ct c).2).zip vs).lookup ((G.ct c).2 k0)=some u:=by
 induction ns generalizing vs ts i with
 | nil=>simp at g1
 | cons a0 as ih =>
  cases vs with
  | nil=>simp at hl
  | cons b0 bs =>
   cases ts with
   | nil=>simp at h1
   | cons t0 ts =>
    rw [Zl,Zc,Yr]
    rw [Zc,Y5] at h1
    by_cases q:(a0 == k0)=true
    ·rw [Zq q] at h1
     cases h1
     have:a0=k0:=by simpa using q
     subst this
     simp at u1
     simp [u1]
    ·rw [Zm q] at h1
     obtain ⟨j,hj,rfl⟩:=Zw.mp h1
     have:((G.ct c).2 k0 == (G.ct c).2 a0)=false:=by
      rw [ZO]
      intro z
      exact q (by simpa using (inj c _ _ z).symm)
     rw [this]
     exact ih (by simpa using hl) hj (by simpa using g1) (by simpa using u1)
theorem CL {α:Type} {f:T->Option (T×α)} {ks:List Ky} {t t':T} {y:α} (e:pm f (.un :: ks) t=some (t',y)):∃ m x z,t=.obj 0 [(0,.bl true),(m,x)]/\pm f ks x=some (z,y)/\t'=.obj 0 [(0,.bl true),(m,z)]:=by
 unfold pm at e
 split at e
 case h_6=>cases e
 all_goals first | (rename_i h0;cases h0;done) | skip
 all_goals
  rename_i h0
  cases h0
  obtain ⟨⟨z,y'⟩,e1,e2⟩:=Zw.mp e
  cases e2
  exact ⟨_,_,_,rfl,e1,rfl⟩
theorem gB {H:Hp} {α:Type} {f:T->Option (T×α)}:∀ (ks:List Ky) {v:V} {t t':T} {F:X0} {y:α},(∀ c k k':Nat,(G.ct c).2 k=(G.ct c).2 k'->k=k')->Rp G H v t F->F.Nodup->pm f ks t=some (t',y) →
  ∃ w x F1 x',Pth G H ks v w/\Rp G H w x F1/\F1.Nodup/\f x=some (x',y)/\∀ H2 F1',Chg G H w F1 x' H2 F1'->∃ F',Chg G H v F t' H2 F'
 | [],v,t,t',F,y,_,r,nd,e=>⟨v,t,F,t',.nil v,r,nd,e,fun H2 F1' g=>⟨F1',g⟩⟩
 | .fld k :: ks,v,t,t',F,y,inj,r,nd,e=>by
  cases t with
  | obj c fs0 =>
   cases c with
   | zero=>cases e
   | succ c =>
   cases fs0 with
   | nil=>cases e
   | cons q0 fs =>
   obtain ⟨i,h1,e⟩:=Zz.mp e
   obtain ⟨p,h2,e⟩:=Zz.mp e
   obtain ⟨⟨z,y'⟩,e1,e2⟩:=Zw.mp e
   cases e2
   obtain ⟨c',a,dx,b,ns,vs,ts,Fs,ec,rfl,rfl,rfl,rfl,ha,hl,hb,ra⟩:=fM r
   cases ec
   have lts:ns.length=ts.length:=hl.trans ra.len.1
   obtain ⟨k0,x0,g1,g2,g3,g4⟩:=g8 (fun n=>n == k) lts h1
   have ek:k0=k:=by simpa using g3
   subst ek
   have ep:p=(k0,x0):=by
    have:(ns.zip ts)[i]?=some (k0,x0):=by rw [Yq];exact ⟨g1,g2⟩
    rw [this] at h2;exact (Zk h2).symm
   subst ep
   obtain ⟨u,Fi,u1,u2,u3⟩:=ra.get i g2
   obtain ⟨w,x,F1,x',w1,w2,w3,w4,w5⟩:=gB ks inj u3 (((Zh.mp nd).2).sublist (bK u2)) e1
   refine ⟨w,x,F1,x',.fld (c:=c) ha (oR inj hl h1 g1 u1) w1,w2,w3,w4,fun H2 F1' g=>?_⟩
   obtain ⟨Fi',gi⟩:=w5 H2 F1' g
   obtain ⟨s1,s2,s3,s4,s5⟩:=kR ha ra nd u1 u2 gi
   refine ⟨_,gi.kept,s5,gi.dom,?_,s3,s4⟩
   rw [kJ ns ts i k0 z g1]
   exact .ins s1 hl hb s2
  | _=>cases e
 | .un :: ks,v,t,t',F,y,inj,r,nd,e=>by
  obtain ⟨m,x,z,rfl,e1,rfl⟩:=CL e
  obtain ⟨a,rfl,hm,rx⟩:=lY r
  obtain ⟨w,x0,F1,x',w1,w2,w3,w4,w5⟩:=gB ks inj rx nd e1
  refine ⟨w,x0,F1,x',.un w1,w2,w3,w4,fun H2 F1' g=>?_⟩
  obtain ⟨F',g'⟩:=w5 H2 F1' g
  exact ⟨F',g'.kept,g'.keep,g'.dom,.mk hm g'.rp,g'.nd,g'.sub⟩
 | .at k :: ks,v,t,t',F,y,inj,r,nd,e=>by
  cases t with
  | lst l =>
   cases k with
   | int i =>
    obtain ⟨j,h1,e⟩:=Zz.mp e
    obtain ⟨x0,h2,e⟩:=Zz.mp e
    obtain ⟨⟨z,y'⟩,e1,e2⟩:=Zw.mp e
    cases e2
    obtain ⟨a,vs,Fs,rfl,rfl,ha,ra⟩:=r.lst_inv
    obtain ⟨u,Fi,u1,u2,u3⟩:=ra.get j h2
    obtain ⟨w,x,F1,x',w1,w2,w3,w4,w5⟩:=gB ks inj u3 (((Zh.mp nd).2).sublist (bK u2)) e1
    refine ⟨w,x,F1,x',.ix ha (by rw [ra.len.1];exact h1) u1 w1,w2,w3,w4,fun H2 F1' g=>?_⟩
    obtain ⟨Fi',gi⟩:=w5 H2 F1' g
    obtain ⟨s1,s2,s3,s4,s5⟩:=kR ha ra nd u1 u2 gi
    exact ⟨_,gi.kept,s5,gi.dom,.lst s1 s2,s3,s4⟩
   | _=>cases e
  | dct kd l =>
   cases kd with
   | zero =>
    have hk:eY k=true/\((l.findIdx? fun p=>eqT p.1 k).bind fun i=>(l[i]?).bind fun p=>(pm f ks p.2).map fun z=>(T.dct 0 (l.set i (p.1,z.1)),z.2))=some (t',y):=by
     cases k with
     | int i=>exact ⟨rfl,e⟩
     | str s=>exact ⟨rfl,e⟩
     | _=>cases e
    obtain ⟨hk,e⟩:=hk
    obtain ⟨i,h1,e⟩:=Zz.mp e
    obtain ⟨p,h2,e⟩:=Zz.mp e
    obtain ⟨⟨z,y'⟩,e1,e2⟩:=Zw.mp e
    cases e2
    obtain ⟨a,ns,vs,ts,Fs,rfl,rfl,ha,hl,rfl,ra⟩:=cV r
    have lts:(ns.map aA).length=ts.length:=by rw [Zv];exact hl.trans ra.len.1
    obtain ⟨k0,x0,g1,g2,g3,g4⟩:=g8 (fun n=>eqT n k) lts h1
    have ep:p=(k0,x0):=by
     have:((ns.map aA).zip ts)[i]?=some (k0,x0):=by rw [Yq];exact ⟨g1,g2⟩
     rw [this] at h2;exact (Zk h2).symm
    subst ep
    obtain ⟨kk,ekk⟩:∃ kk:Key,k=aA kk:=by
     cases k with
     | int i=>exact ⟨.inl i,rfl⟩
     | str s=>exact ⟨.inr (sx s),by simp [aA,sx]⟩
     | _=>cases hk
    subst ekk
    obtain ⟨u,Fi,u1,u2,u3⟩:=ra.get i g2
    obtain ⟨w,x,F1,x',w1,w2,w3,w4,w5⟩:=gB ks inj u3 (((Zh.mp nd).2).sublist (bK u2)) e1
    refine ⟨w,x,F1,x',.key ha ?_ w1,w2,w3,w4,fun H2 F1' g=>?_⟩
    ·exact og (by simpa using lts) hl h1 u1
    ·obtain ⟨Fi',gi⟩:=w5 H2 F1' g
     obtain ⟨s1,s2,s3,s4,s5⟩:=kR ha ra nd u1 u2 gi
     refine ⟨_,gi.kept,s5,gi.dom,?_,s3,s4⟩
     rw [kJ (ns.map aA) ts i k0 z g1]
     exact .dct s1 hl s2
   | succ kd=>cases k <;> cases e
  | _=>cases k <;> cases e
end
section
variable {G:Gx}
theorem Pth.same {H H':Hp} (e:aD H H') {ks:List Ky} {v w:V} (p:Pth G H ks v w):Pth G H' ks v w:=by
 induction p with
 | nil v=>exact .nil v
 | fld h l _ ih=>exact .fld (e _ _ h) l ih
 | ix h l m _ ih=>exact .ix (e _ _ h) l m ih
 | key h l _ ih=>exact .key (e _ _ h) l ih
 | un _ ih=>exact .un ih
theorem Pth.split {H:Hp} {k:Ky} {w:V}:∀ {ks:List Ky} {v:V},Pth G H (ks++[k]) v w->∃ u,Pth G H ks v u/\Pth G H [k] u w
 | [],v,p=>⟨v,.nil v,p⟩
 | _ :: ks,_,.fld h l p=>let ⟨u,a,b⟩:=Pth.split (ks:=ks) p;⟨u,.fld h l a,b⟩
 | _ :: ks,_,.ix h l m p=>let ⟨u,a,b⟩:=Pth.split (ks:=ks) p;⟨u,.ix h l m a,b⟩
 | _ :: ks,_,.key h l p=>let ⟨u,a,b⟩:=Pth.split (ks:=ks) p;⟨u,.key h l a,b⟩
 | _ :: ks,_,.un p=>let ⟨u,a,b⟩:=Pth.split (ks:=ks) p;⟨u,.un a,b⟩
theorem fg {η:VS.Env} {s:Stp}:∀ {way:List Stp} {ks:List Ky},keys (way++[s]) η=some ks->∃ ks0 k,keys way η=some ks0/\keys [s] η=some [k]/\ks=ks0++[k]
 | [],ks,e=>by
  cases s with
  | fld k=>cases e;exact ⟨[],.fld k,rfl,rfl,rfl⟩
  | un=>cases e;exact ⟨[],.un,rfl,rfl,rfl⟩
  | ix c =>
   obtain ⟨x,h1,h2⟩:=Zz.mp (show (c η).bind (fun x=>(keys [] η).map (Ky.at x.2 :: ·))=some ks from e)
   cases h2
   exact ⟨[],.at x.2,rfl,by simp [keys,h1],rfl⟩
 | .fld k :: way,ks,e=>by
  obtain ⟨ks1,h1,h2⟩:=Zw.mp (show (keys (way++[s]) η).map (Ky.fld k :: ·)=some ks from e)
  obtain ⟨ks0,k',a,b,c⟩:=fg h1
  exact ⟨.fld k :: ks0,k',by simp [keys,a],b,by rw [← h2,c];rfl⟩
 | .un :: way,ks,e=>by
  obtain ⟨ks1,h1,h2⟩:=Zw.mp (show (keys (way++[s]) η).map (Ky.un :: ·)=some ks from e)
  obtain ⟨ks0,k',a,b,c⟩:=fg h1
  exact ⟨.un :: ks0,k',by simp [keys,a],b,by rw [← h2,c];rfl⟩
 | .ix c :: way,ks,e=>by
  obtain ⟨x,h0,h⟩:=Zz.mp (show (c η).bind (fun x=>(keys (way++[s]) η).map (Ky.at x.2 :: ·))=some ks from e)
  obtain ⟨ks1,h1,h2⟩:=Zw.mp h
  obtain ⟨ks0,k',a,b,d⟩:=fg h1
  exact ⟨.at x.2 :: ks0,k',by simp [keys,h0,a],b,by rw [← h2,d];rfl⟩
noncomputable def tPl (G:Gx) (i:Nat) (way:List Stp):TE:=fun σ H Q=>∃ Φ η t ks v w,SR G Φ η σ H/\η[i]?=some (some (.ow t))/\σ[i]?=some (some v)/\keys way η=some ks/\Pth G H ks v w/\∀ H',aD H H'->Q w H'
noncomputable def PPl (G:Gx) (X:Cx) (e:Expr) (i:Nat) (way:List Stp):Prop:=PE X e (tPl G i way)
theorem PE.weakP {X:Cx} {e:Expr} {t:TE} {i:Nat} {way:List Stp} (h:PE X e t) (w:∀ σ H Q,tPl G i way σ H Q->t σ H Q):PPl G X e i way:=fun pins s σ H Q I q=>h pins s σ H Q I (w σ H Q q)
variable {X:Cx} {e:Expr} {es:List Expr} {i:Nat} {way:List Stp} {pos pos' p1 apos cpos:Pos} {c:Ex} {cs:Exs} {b:Expr} {k:Nat}
theorem bV (i:Nat) {x:Str} (hN:X.N[i]?=some x) (hv:Vis X.env.scope x) (hd:(x == ("__debug__" : Str))=false) (hcd:(x == ("__classdict__" : Str))=false):PPl G X (.Name x pos) i [] :=
 PE.weakP (dB hN hv hd hcd) fun σ H Q hq=>by
  obtain ⟨Φ,η,t,ks,v,w,s,h1,h2,h3,h4,h5⟩:=hq
  cases (show some ([]:List Ky)=some ks from h3)
  cases h4
  exact ⟨v,h2,h5 H (aD.refl _)⟩
theorem Cj (h:PPl G X e i way):PPl G X e i (way++[.un]) :=
 PE.weakP h fun σ H Q hq=>by
  obtain ⟨Φ,η,t,ks,v,w,s,h1,h2,h3,h4,h5⟩:=hq
  obtain ⟨ks0,k',a,b,rfl⟩:=fg h3
  cases (show some [Ky.un]=some [k'] from b)
  obtain ⟨u,p1,p2⟩:=h4.split
  cases p2 with
  | un q =>
   cases q
   exact ⟨Φ,η,t,ks0,v,w,s,h1,h2,a,p1,h5⟩
structure FldOk (G:Gx) (K:Y2) (k:Nat) (f:Str):Prop where
 nm:∀ c,(G.ct (c+1)).2 k=f
 cl:∀ c,Cls K (G.ct (c+1)).1
 no:∀ c,dW K (G.ct (c+1)).1 f
theorem je (k:Nat) {f:Str} (F:FldOk G X.K k f) (h:PPl G X e i way) (hb:attributeBase e f X.env (eval e X.env)=eval e X.env):PPl G X (.Attribute e f pos) i (way++[.fld k]) :=
 PE.weakP (u9 h hb) fun σ H Q hq=>by
  obtain ⟨Φ,η,t,ks,v,w,s,h1,h2,h3,h4,h5⟩:=hq
  obtain ⟨ks0,k',a,b,rfl⟩:=fg h3
  cases (show some [Ky.fld k]=some [k'] from b)
  obtain ⟨u,p1,p2⟩:=h4.split
  refine ⟨Φ,η,t,ks0,v,u,s,h1,h2,a,p1,fun H' sm=>?_⟩
  cases p2 with
  | @fld c _ a dx fs u' _ _ ha hl q =>
   cases q
   rw [F.nm c] at hl
   exact ⟨a,_,dx,fs,w,rfl,sm a _ ha,F.cl c,F.no c,hl,h5 H' sm⟩
theorem zY {kr:Nat} (hr:Room kr X.A) (h:PPl G X e i way) (hb:PV G X b c) (hs:fO b) (hK:X.K=G.K):PPl G X (.Subscript e b pos) i (way++[.ix c]) :=
 PE.weakP (lE (IxR.or jd (nu (iK hr))) h hb hs) fun σ H Q hq=>by
  obtain ⟨Φ,η,t,ks,v,w,s,h1,h2,h3,h4,h5⟩:=hq
  obtain ⟨ks0,k',a,b',rfl⟩:=fg h3
  obtain ⟨⟨mx,x⟩,ec,e2⟩:=Zz.mp (show (c η).bind (fun x=>(keys [] η).map (Ky.at x.2 :: ·))=some [k'] from b')
  cases e2
  obtain ⟨u,p1,p2⟩:=h4.split
  refine ⟨Φ,η,t,ks0,v,u,s,h1,h2,a,p1,fun H1 sm=>⟨Φ,η,mx,x,s.same sm,ec,fun y H2 F2 sm2 r2 f2=>?_⟩⟩
  have p3:=(p2.same sm).same sm2
  have q:=h5 H2 (sm.trans sm2)
  cases p3 with
  | @ix a vs i0 j u' _ _ ha hl hu q' =>
   cases q'
   refine .inl (.inl ⟨a,vs,i0,w,rfl,r2.int_inv,SqL.of ha,iV hl hu,q⟩)
  | @key a kvs kk u' _ _ ha hl q' =>
   cases q'
   refine .inr ⟨a,w,rfl,?_,q⟩
   have hy:y=kV kk:=by
    cases kk with
    | inl n=>exact r2.int_inv
    | inr z =>
     have:=r2.str_inv.1
     rw [this]
     simp [kV,sx]
   rw [hy,← hl]
   exact gj.k ha
@[simp] noncomputable def kz (i:Nat) (way:List Stp) (f:T->Wk->Option (T×Val)) (as:Exs) (η:VS.Env):Option (Val×VS.Env):=match η[i]? with
 | some (some (.ow t))=>(keys way η).bind fun ks=>(as η).bind fun xs=>(pm (fun x=>f x xs) ks t).map fun z=>(z.2,η.set i (some (.ow z.1)))
 | _=>none
noncomputable def jt (G:Gx):Prop:=∀ c k k':Nat,(G.ct c).2 k=(G.ct c).2 k'->k=k'
theorem vF {T' id:String} {name:Str} {o:Expr} {r:V->List V->Hp->VK->Prop} {f:T->Wk->Option (T×Val)} (J:jt G) (pa:PlainAttrs T') (slot:Slot T' name id) (hty:typeOf (.builtin id)=pure (.type "method_descriptor")) (hm:MtR X id r) (ok:vU G r f)
  (hT:∀ H v t F l z,Rp G H v t F->f t l=some z->tyV G.K T' v H) (ho:PPl G X o i way) (ha:PVs G X (e :: es) cs) (hK:X.K=G.K)
  (hbase:attributeBase o name X.env (eval o X.env)=eval o X.env)
  (hfew:((backTo cpos (starEach (e :: es) X.env)).all (fun x=>!x.1) && (backToKw cpos (keywordEach [] X.env)).all (fun x=>x.1.isSome)
   && decide ((e :: es).length+([]:List Keyword).length+(if ([]:List Keyword).isEmpty then 0 else 1) < 30))=true)
  (hline:(apos.endLine == cpos.line)=true) (hs:starEach (e :: es) X.env=(false,eval e X.env) :: starEach es X.env) (hplain:(backTo cpos (starEach es X.env)).any (·.1)=false)
  (hsw:swapsWith (.Call (.Attribute o name apos) (e :: es) [] cpos) none pos.line X.env=pure false) :
  PSV G X (.Expr (.Call (.Attribute o name apos) (e :: es) [] cpos) pos) (sX (kz i way f cs)) :=
 PS.weak (iy (ki pa slot hty hm ho ha hbase hfew hline hs hplain) hsw) fun D σ H hq=>by
  obtain ⟨Φ,η,out,s,e,k⟩:=hq
  refine L2.gN fun P_ k_=>?_
  unfold sX kz at e
  obtain ⟨⟨x',η'⟩,e1,e2⟩:=Zw.mp e
  split at e1
  ·rename_i t ht
   obtain ⟨ks,ek,e3⟩:=Zz.mp e1
   obtain ⟨l,el,e4⟩:=Zz.mp e3
   obtain ⟨⟨t',x2⟩,e5,e6⟩:=Zw.mp e4
   cases e6
   cases e2
   obtain ⟨v,h1,h2⟩:=s.rp _ _ ht
   obtain ⟨w,x,F1,x3,w1,w2,w3,w4,w5⟩:=gB ks J h2 (s.nd i t ht) e5
   refine k_ ?_
   refine ⟨Φ,η,t,ks,v,w,s,ht,h1,ek,w1,fun H0 sm0=>⟨by rw [hK];exact hT H0 w x _ l _ (w2.same sm0) w4,Φ,η,l,s.same sm0,el,fun vs H' Fs q1 q2 q3=>?_⟩⟩
   refine ok Φ η H H' w x x3 F1 l vs Fs x2 _ w2 w3 ⟨sm0.trans q1,q2,⟨fun n v' F' a1 a2=>(q3.each n v' F' a1 a2).back sm0,q3.nd⟩⟩ w4 fun u H2 F' g=>?_
   obtain ⟨F2,g2⟩:=w5 H2 F' g
   obtain ⟨z1,z2⟩:=s.mut ht h1 g2
   exact k _ σ H2 z1 z2
  ·cases e1
end
section
variable {G:Gx} {X:Cx} {e o:Expr} {es:List Expr} {i:Nat} {way:List Stp} {pos pos' p1 apos cpos:Pos} {c:Ex} {cs:Exs} {b:Expr} {k:Nat} {ce ck:Ex}
noncomputable def nH (k v:Val):T->Option (T×Unit)
 | .lst l=>match k.2 with
  | .int n=>(fit v).bind fun t=>(ixP l.length n).map fun j=>(.lst (l.set j t),())
  | _=>none
 | .dct 0 l=>if eY k.2/\imm v.2/\l.length < dD then some (.dct 0 (dput l k.2 v.2),()) else none
 | _=>none
noncomputable def fF (i:Nat) (way:List Stp) (k e:Ex) (η:VS.Env):Option Out:=(e η).bind fun v=>match η[i]? with
 | some (some (.ow t))=>(keys way η).bind fun ks=>(k η).bind fun kv=>(pm (nH kv v) ks t).map fun z=>.nx (η.set i (some (.ow z.1)))
 | _=>none
theorem RpL.putAt {H:Hp}:∀ {vs:List V} {ts:Wi} {Fs:Y1} (j:Nat) {u:V} {x:T} {F:X0},RpL G H vs ts Fs->Rp G H u x F->RpL G H (vs.set j u) (ts.set j x) (Fs.set j F)
 | _,_,_,_,_,_,_,.nil,_=>.nil
 | _,_,_,0,_,_,_,.cons r q,r'=>.cons r' q
 | _,_,_,j+1,_,_,_,.cons r q,r'=>.cons r (RpL.putAt j q r')
theorem sV {H:Hp} {kk:Key} {xv:V} {t:T} (rv:Rp G H xv t []):∀ {ks:List Key} {vs:List V} {ts:Wi} {Fs:Y1},ks.length=vs.length->RpL G H vs ts Fs →
  ∃ vs' ts' Fs',(ks.zip vs).map (fun kv=>if kv.1=kk then (kv.1,xv) else kv)=ks.zip vs'/\ks.length=vs'.length/\((ks.map aA).zip ts).map (fun p=>if eqT p.1 (aA kk) then (p.1,t) else p)=(ks.map aA).zip ts'/\RpL G H vs' ts' Fs'/\Fs'.flatten.Sublist Fs.flatten
 | [],[],_,_,_,.nil=>⟨[],[],[],rfl,rfl,rfl,.nil,Y9 _⟩
 | k :: ks,v :: vs,_,_,hl,.cons (t:=t0) (F:=F) (ts:=ts) (Fs:=Fs) r q=>by
  obtain ⟨vs',ts',Fs',h1,h2,h3,h4,h5⟩:=sV rv (by simpa using hl) q
  by_cases hk:k=kk
  ·have e:eqT (aA k) (aA kk)=true:=(gx kk k).mpr hk
   refine ⟨xv :: vs',t :: ts',[] :: Fs',?_,by simp [h2],?_,.cons rv h4,?_⟩
   ·rw [Zc,Zl,h1,Zc];simp [hk]
   ·rw [Zl,Zc,Zl,h3,Zc];simp [e]
   ·rw [ZV,ZV]
    exact h5.trans (Yd _ _)
  ·have e:¬ eqT (aA k) (aA kk)=true:=fun z=>hk ((gx kk k).mp z)
   refine ⟨v :: vs',t0 :: ts',F :: Fs',?_,by simp [h2],?_,.cons r h4,?_⟩
   ·rw [Zc,Zl,h1,Zc];simp [hk]
   ·rw [Zl,Zc,Zl,h3,Zc];simp [e]
   ·rw [ZV,ZV]
    exact List.Sublist.append (Y9 _) h5
theorem pU {kk:Key}:∀ {ks:List Key} {vs:List V} {ts:Wi},ks.length=vs.length->ks.length=ts.length->((ks.zip vs).any fun kv=>decide (kv.1=kk))=(((ks.map aA).zip ts).any fun p=>eqT p.1 (aA kk))
 | [],_,_,_,_=>by simp
 | k :: ks,v :: vs,t :: ts,h1,h2=>by
  rw [Zl,Zc,Zc,Yh,Yh,pU (by simpa using h1) (by simpa using h2)]
  have:decide (k=kk)=eqT (aA k) (aA kk):=by rw [Y4,decide_eq_true_eq];exact (gx kk k).symm
  rw [this]
 | _ :: _,[],_,h,_=>by simp at h
 | _ :: _,_ :: _,[],_,h=>by simp at h
theorem nG {H:Hp} {kk:Key} {xv:V} {t:T} (rv:Rp G H xv t []) {ks:List Key} {vs:List V} {ts:Wi} {Fs:Y1} (hl:ks.length=vs.length) (ra:RpL G H vs ts Fs) :
  ∃ (ks':List Key) (vs':List V) (ts':Wi) (Fs':Y1),putK (ks.zip vs) kk xv=ks'.zip vs'/\ks'.length=vs'.length/\dput ((ks.map aA).zip ts) (aA kk) t=(ks'.map aA).zip ts'/\RpL G H vs' ts' Fs'/\Fs'.flatten.Sublist Fs.flatten:=by
 have an:=pU (kk:=kk) hl (hl.trans ra.len.1)
 unfold putK dput
 rw [an]
 by_cases h:(((ks.map aA).zip ts).any fun p=>eqT p.1 (aA kk))=true
 ·rw [Zq h,Zq h]
  obtain ⟨vs',ts',Fs',h1,h2,h3,h4,h5⟩:=sV (kk:=kk) rv hl ra
  exact ⟨ks,vs',ts',Fs',h1,h2,h3,h4,h5⟩
 ·rw [Zm h,Zm h]
  refine ⟨ks++[kk],vs++[xv],ts++[t],Fs++[[]],?_,by simp [hl],?_,ra.append (.cons rv .nil),by simp⟩
  ·rw [Xn hl];rfl
  ·rw [Z3,Xn (by rw [Zv];exact hl.trans ra.len.1)];rfl
noncomputable def zV:yC:=fun o i v H Q=>zN o i v H Q\/∃ a H4,o=.ref a/\pI H a i v H4/\Q H4
theorem sr (hu:X.A.units+1 < cLine):BH X zV:=by
 intro pins s σ H o i v ov iv u Q I ro ri rv h
 rcases h with h | ⟨a,H4,rfl,g,q⟩
 ·exact set_list pins s σ H o i v ov iv u Q I ro ri rv h
 ·cases ro
  exact uf hu I g ri rv fun s4 I4=>⟨H4,I4,q⟩
theorem jA {kr:Nat} (J:jt G) (hr:Room kr X.A) (ho:PPl G X o i way) (hk:PV G X b ck) (he:PV G X e ce)
  (ha:∀ v,assign (.Subscript o b pos') X.env v=(do
   let ov ← holding [v] (eval o X.env)
   let iv ← holding [v,ov] (eval b X.env)
   standAt pos'
   holding [v,ov,iv] (setItem ov iv v)
   release [v,ov,iv] [])) (hs:swapsWithSole [.Subscript o b pos'] e pos.line X.env=pure false) (hw:swappedStores [.Subscript o b pos'] e X.env=pure none)
  (h1:(assignEach [.Subscript o b pos'] X.env).map (·.2)=[assign (.Subscript o b pos') X.env]):PSV G X (.Assign [.Subscript o b pos'] e pos) (fF i way ck ce) :=
 PS.weak (nN he (nK ho hk (sr (iK hr)) ha) hs hw h1) fun D σ H hq=>by
  obtain ⟨Φ,η,out,s,e,k⟩:=hq
  refine L2.gN fun P_ k_=>?_
  unfold fF at e
  obtain ⟨⟨mv,tv⟩,ev,e⟩:=Zz.mp e
  split at e
  ·rename_i t ht
   obtain ⟨ks,ek,e⟩:=Zz.mp e
   obtain ⟨⟨mk,tk⟩,ekk,e⟩:=Zz.mp e
   obtain ⟨⟨t',y'⟩,e5,e6⟩:=Zw.mp e
   cases e6
   obtain ⟨v,g1,g2⟩:=s.rp _ _ ht
   obtain ⟨w,x,F1,x3,w1,w2,w3,w4,w5⟩:=gB ks J g2 (s.nd i t ht) e5
   refine k_ ?_
   refine ⟨Φ,η,mv,tv,s,ev,fun xv H1 Fv sm1 rv fv=>?_⟩
   refine ⟨Φ,η,t,ks,v,w,s.same sm1,ht,g1,ek,w1.same sm1,fun H2 sm2=>⟨Φ,η,mk,tk,(s.same sm1).same sm2,ekk,fun kv H3 Fk sm3 rk fk=>?_⟩⟩
   have sm:aD H H3:=(sm1.trans sm2).trans sm3
   have rv3:Rp G H3 xv tv Fv:=(rv.same sm2).same sm3
   have fin:∀ H4 F',Chg G H w F1 x3 H4 F'->D.nx σ H4:=fun H4 F' g=>by
    obtain ⟨F2,g2'⟩:=w5 H4 F' g
    obtain ⟨z1,z2⟩:=s.mut ht g1 g2'
    exact k _ σ H4 z1 z2
   refine L2.gN fun P_ k_=>?_
   cases x with
   | lst l =>
    cases tk with
    | int n =>
     obtain ⟨tt,et,e7⟩:=Zz.mp (show ((fit (mv,tv)).bind fun t=>(ixP l.length n).map fun j=>(T.lst (l.set j t),()))=some (x3,y') from w4)
     obtain ⟨j,ej,e8⟩:=Zw.mp e7
     cases e8
     have em:=kI et
     cases em
     obtain ⟨a,vs,Fs,rfl,rfl,ha',ra⟩:=w2.lst_inv
     have ha3:H3 a=some (.lst vs):=sm a _ ha'
     have nd:=Zh.mp w3
     have na:a ∉ Fv:=fun z=>by rw [fv.2 a z] at ha';cases ha'
     have m3:Mut (H3 a):=by rw [ha3];exact True.intro
     have off:∀ bb∈Fs.flatten,bb ∉ Fv:=fun bb hb hv=>Mut.ne_none (ra.dom bb hb) (fv.2 bb hv)
     refine k_ ?_
     refine .inl ⟨a,vs,n,j,rfl,rk.int_inv,ha3,by rw [← qI,ra.len.1];exact ej,fin _ (a :: (Fs.set j Fv).flatten) ?_⟩
     have keep:∀ {u:V} {x:T} {F:X0},Rp G H3 u x F->a ∉ F->Rp G (upd H3 a (.lst (vs.set j xv))) u x F:=fun r hn=>r.keep (Kept.upd (.inl m3)) fun bb hb o' ho'=>by rw [ax (fun z=>hn (by rw [← z];exact hb))];exact ho'
     refine Chg.upd sm Zx m3 (.lst ar ((((ra.same sm).off m3 nd.1)).putAt j (keep rv3 na))) ?_ ?_
     ·rw [Zh]
      refine ⟨fun h=>?_,dJ nd.2 fv.1 fun i' F' _ hi bb hb=>off bb (cM hi hb)⟩
      rcases b9 h with z | ⟨i',F',_,h1,h2⟩
      ·exact na z
      ·exact nd.1 (cM h1 h2)
     ·intro bb hb
      rcases Zo.mp hb with rfl | hb
      ·exact .inl Zx
      ·rcases b9 hb with z | ⟨i',F',_,h1,h2⟩
       ·exact .inr (fv.2 bb z)
       ·exact .inl (Zy _ (cM h1 h2))
    | _=>cases w4
   | dct kd l =>
    cases kd with
    | zero =>
     have hc:(eY tk=true/\imm tv=true/\l.length < dD)/\x3=.dct 0 (dput l tk tv):=by
      have w4':(if eY tk/\imm tv/\l.length < dD then some (T.dct 0 (dput l tk tv),()) else none)=some (x3,y'):=w4
      split at w4'
      ·rename_i hc
       cases w4'
       exact ⟨hc,rfl⟩
      ·cases w4'
     obtain ⟨⟨c1,c2,c3⟩,rfl⟩:=hc
     have eF:=rv3.imm c2
     subst eF
     obtain ⟨a,ns,vs,ts,Fs,rfl,rfl,ha',hl,rfl,ra⟩:=cV w2
     obtain ⟨kk,rfl,ekk'⟩:=cO rk c1
     subst ekk'
     have ha3:H3 a=some (.dK (ns.zip vs)):=sm a _ ha'
     have m3:Mut (H3 a):=by rw [ha3];exact True.intro
     have nd:=Zh.mp w3
     obtain ⟨ks',vs',ts',Fs',q1,q2,q3,q4,q5⟩:=nG (kk:=kk) rv3 hl (ra.same sm)
     have ln:(ns.zip vs).length < sizeLine:=by
      have:((ns.map aA).zip ts).length < 16777216:=c3
      rw [ZA,Zv] at this
      rw [ZA]
      have:=ra.len.1
      have:(sizeLine:Nat)=16777216:=rfl
      lia
     refine k_ ?_
     refine .inr ⟨a,_,rfl,pI.k ha3 ln,fin _ (a :: Fs'.flatten) ?_⟩
     rw [q1,q3]
     refine Chg.upd sm Zx m3 (.dct ar q2 (q4.off m3 fun z=>nd.1 (q5.subset z))) ?_ ?_
     ·exact Zh.mpr ⟨fun z=>nd.1 (q5.subset z),nd.2.sublist q5⟩
     ·intro bb hb
      rcases Zo.mp hb with rfl | hb
      ·exact .inl Zx
      ·exact .inl (Zy _ (q5.subset hb))
    | succ n=>cases w4
   | _=>cases w4
  ·cases e
end
theorem BG {K:Y2} {H:Hp} {a:Addr} {ns:Wp} (hO:xG H) (hS:SqL K H a (ns.map V.int)):kg K H a ns:=by
 rcases hS with h | h
 ·rcases h with h | h
  ·rcases hO a with z | ⟨o,xs,z⟩
   ·rw [z] at h;cases h
   ·rw [z] at h;cases h
  ·exact .inl h
 ·exact .inr h
theorem AE {G:Gx} {g:Fn} {H:Hp} {a:Addr} {ns:Wp} {E:XK} (hg:g [.scr ns]=some (.fr,.bl true)) (hO:xG H) (hS:SqL G.K H a (ns.map V.int)):spF G g [.ref a] H (fun v _=>v=.bl true) E :=
 ⟨[.scr ns],[[]],.fr,.bl true,.cons (.scr (BG hO hS)) .nil,hg,fun v H' F _ r _=>r.bl_inv⟩
noncomputable def gx0 (K:Y2):Gx:=⟨K,fun _=>(0,fun k=>⟨#[k]⟩),fun _=>none⟩
end VS
end
section
namespace L2
open PySem PySem.Spec PyProof.Rows
section
variable {X:Cx}
theorem rB (hc:X.calm=true):dP X (.type "list") (fun xs H Q=>∃ x:Str,xs=[.str x]/\x.cps.size<=sizeLine/\∀ l,H l=none->Q (.ref l) (upd H l (.lst (x.cps.toList.map fun c=>V.str ⟨#[c]⟩)))):=by
 intro pins s σ H xs us Q I rx h
 obtain ⟨x,rfl,hz,q⟩:=h
 obtain ⟨u,rfl,t,rfl⟩:=vals1 rx
 refine call_list_str (I.ok.hd hc) x t (fun h' tk acc c kp g ha=>?_) hz
 have hv:aO (x.cps.toList.map fun c=>V.str ⟨#[c]⟩) acc.toList:=by
  have key:∀ (cs:Wq) (vs:Wx),cs.length=vs.length->(∀ (i:Nat) (v:Value),vs[i]?=some v->∃ c u,cs[i]?=some c/\v=.str ⟨#[c]⟩ u)->aO (cs.map fun c=>V.str ⟨#[c]⟩) vs:=by
   intro cs
   induction cs with
   | nil =>
    intro vs hl _
    cases vs with
    | nil=>exact .nil
    | cons v vs=>simp at hl
   | cons c cs ih =>
    intro vs hl hg
    cases vs with
    | nil=>simp at hl
    | cons v vs =>
     obtain ⟨d,u,e1,e2⟩:=hg 0 v rfl
     cases e1
     exact .cons ⟨u,e2⟩ (ih vs (by simpa using hl) fun i w hw=>by simpa using hg (i+1) w (by simpa using hw))
  refine key _ _ (by rw [YV,YV,ha.1]) fun i v hi=>?_
  rw [Yj] at hi
  obtain ⟨d,u,e1,e2⟩:=ha.2 i v hi
  exact ⟨d,u,by rw [Yj];exact e1,e2⟩
 refine ⟨.ref s.heap.objs.size,_,I.laid kp (Zg _) (show bF X.prog X.w _ h' _ (.lst (x.cps.toList.map fun c=>V.str ⟨#[c]⟩)) from ⟨by rw [Zv,YV];exact hz,acc.toList,c,hv,g⟩),rfl,q _ (I.hok.fresh (Zg _))⟩
end
end L2
namespace VS
open PySem PySem.Spec PyProof.Rows L2
section
variable {G:Gx} {X:Cx} {a b c e tg:Expr} {es:List Expr} {ca cb cc ce ck:Ex} {cs:Exs} {pos p p1 p2 apos cpos pos':Pos} {k k' kr:Nat}
@[simp] noncomputable def gv:Wk->Wj
 | [(m,.lst l)]=>mkL m l
 | [(m,.tup l)]=>mkL m l
 | [(_,.str s)]=>mkL .fr (s.map fun c=>.str [c])
 | _=>none
theorem u4:fT G (fun xs H Q=>zU G.K xs H Q\/∃ x:Str,xs=[.str x]/\x.cps.size<=sizeLine/\∀ l,H l=none->Q (.ref l) (upd H l (.lst (x.cps.toList.map fun c=>V.str ⟨#[c]⟩)))) gv:=by
 intro Φ η H0 H l vs Fs m t Q A e k
 unfold gv at e
 split at e
 ·exact .inl (sO Φ η H0 H _ vs Fs m t Q A e k)
 ·exact .inl (sO Φ η H0 H _ vs Fs m t Q A e k)
 ·rename_i mx x
  obtain ⟨v,F,rfl,rfl,rx⟩:=(show RpL G H vs [.str x] Fs from A.rp).one
  have ts:=rx.str_inv.2
  refine .inr ⟨sx x,by rw [rx.str_inv.1],?_,fun q hq=>?_⟩
  ·have:=ts.1
   simp only [sx,ZY]
   exact this
  ·have ec:(sx x).cps.toList.map (fun c=>V.str ⟨#[c]⟩)=(x.map fun c=>[c]).map fun s=>V.str (sx s):=by
    simp [sx]
   have et:(x.map fun c=>T.str [c])=(x.map fun c=>[c]).map T.str:=by simp
   rw [ec]
   rw [et] at e
   have r0:=qV (G:=G) (H:=H) (ss:=x.map fun c=>[c]) fun s hs=>by
    obtain ⟨c,hc,rfl⟩:=ZF.mp hs
    exact ⟨by show 1<=dD;decide,fun y hy=>by rw [Zj.mp hy];exact ts.2 c hc⟩
   refine iA A.same e r0 ?_ k q hq
   rw [o5]
   exact Fp.nil
 ·cases e
theorem sF (hm:X.mg "list" = none) (ha:PVs G X [e] cs) (hg:Gl X "list" := by rfl) (hK:X.K=G.K:=by rfl) (hc:X.calm=true:=by rfl) (he:starEach [e] X.env=(false,eval e X.env) :: starEach [] X.env:=by rfl):PV G X (.Call (.Name "list" p) [e] [] pos) (eN gv cs) :=
 iF (oJ.or (rB hc)) (hK ▸ u4) hg hm zA ha (he:=he) (hpl:=rfl)
end
end VS
end
section
namespace ST
open PySem PySem.Spec PyProof.Rows
variable {prog:Program} {w:World} {A:Around} {E:Z0} {s:Shared}
noncomputable abbrev dO (es:Array DictEntry) (ep:Nat):Obj:={ cls:=.type "dict",data:=.dict es ep }
noncomputable abbrev kO (d:Addr) (i n ep:Nat):Obj:={ cls:=.type "dict_keyiterator",data:=.fields #[.ref d,.int i 0,.int n 0,.int ep 0] }
theorem vE {d:Addr} {es:Array DictEntry} {ep:Nat} {Q:Z0} (hd:(d == sysModules)=false) (hm:s.heap.get? d=some (dO es ep)) (q:Q (.ref s.heap.objs.size) { s with heap:=s.heap.push (kO d 0 es.size ep) }) :
  wpAny (model prog w) A (pyIter (.ref d)) Q E s:=by
 have ty:s.TypeIs (.ref d) "dict" := ⟨_,hm,rfl⟩
 refine wpAny_pyIter_slot ty F.slot_dict_iter (Xj F.slot_dict_iter ty F.entry_dict_iter (show wpAny _ _ (Builtin.«dict.__iter__» _) _ _ _ from ?_) (F.args_dict_iter_1 _))
 unfold Builtin.«dict.__iter__» Builtin.Dict.dictSlotNone Builtin.Dict.showsAll
 refine Zp (Zp (wpAny_notOrdered_dict ty (show wpAny _ _ (pure (Value.ref d)) _ _ s from Za (Zp (m:=Builtin.Dict.addrOf (.ref d)) (Za ?_)))))
 rw [Zm (by rw [hd];exact Zd)]
 exact Zp (Za (Zp (wpAny_dictEntries hm rfl (Zp (wpAny_dictEpoch hm rfl (Zp (XT (Za ⟨_,rfl, "dict_keyiterator",_,⟨_,ZP _ rfl,rfl⟩,YE.lookup,q⟩))))))))
theorem pV {I d:Addr} {i ep:Nat} {es:Array DictEntry} {Q:Ww->Shared->Prop} (hh:A.handled=none) (hI:s.heap.get? I=some (kO d i es.size ep)) (hm:s.heap.get? d=some (dO es ep))
  (h1:∀ e,es[i]?=some e->∀ h',Heap.SameBut I s.heap h'->h'.get? I=some (kO d (i+1) es.size ep)->Q (some e.key) { s with heap:=h' })
  (h2:es[i]?=none->∀ h',(∀ b o,b ≠ I->s.heap.get? b=some o->h'.get? b=some o)->Q none { s with heap:=h' }):wpAny (model prog w) A (pyNext (.ref I)) Q E s:=by
 have ty:s.TypeIs (.ref I) "dict_keyiterator" := ⟨_,hI,rfl⟩
 unfold pyNext
 refine Zp (wpAny_attempt (wpAny_callSpecial?_slot (name:=Str.ofString "__next__") ty YE (Xj YE ty F.entry_dict_keyiterator_next (YG
  (Q:=fun f s'=>∃ v,f=.done (.ret v)/\Q (some v) s') (E:=fun e s'=>∃ x,e=.ref x/\(∃ o,s'.heap.get? x=some o/\o.cls=.type "StopIteration")/\Q none s') ?_ (fun f s' ⟨v,e,q⟩=>⟨v,e,Za q⟩) fun e s' ⟨x,e1,⟨o,g,c⟩,q⟩=>?_) (F.args_dict_keyiterator_next_1 _))))
 ·refine Zp (Za (Zp (Zp (Zp (Xi ty (Za (Zp (wpAny_fieldsOf hI rfl ?_))))))))
  have own:Builtin.Dict_items.ownsTuple "dict_keyiterator" = false:=rfl
  simp only [own,Y7,↓reduceIte]
  refine (show wpAny _ _ (if (Value.ref d == Value.none)=true then _ else _) _ _ s from ?_)
  rw [Zm (fun e:(Value.ref d == Value.none)=true=>Zd e)]
  refine Zp (Za (Zp (wpAny_dictEntries hm rfl ?_)))
  rw [Zm (by simp)]
  refine Zp (Za (Zp (wpAny_dictEpoch hm rfl ?_)))
  rw [Zm (by simp)]
  refine Za ?_
  simp only [show ¬ ((i:Int) < 0) from by lia,↓reduceIte,Xb]
  cases he:es[i]? with
  | some e =>
   dsimp only
   have g1:(s.heap.update I (Obj.mapFields (·.setIfInBounds 1 (rawInt ((i:Int)+1))))).get? I=some (kO d (i+1) es.size ep):=Heap.get?_update_self _ hI rfl
   refine Zp (Zp (Xi ty (Za (Zp (wpAny_isOneOf_keyiter ty ?_)))))
   refine (show wpAny _ _ (setField (.ref I) 1 (rawInt ((i:Int)+1)) >>= _) _ _ s from Zp (wpAny_setField hI rfl (by show 1 < 4;decide) (Zp (YD ?_))))
   refine Zp (wpAny_isOneOf_keyiter (s:={ s with heap:=s.heap.update I (Obj.mapFields (·.setIfInBounds 1 (rawInt ((i:Int)+1)))) }) ⟨_,g1,rfl⟩ ?_)
   refine (show wpAny _ _ (pure e.key) _ _ _ from Za (Za ⟨_,rfl,h1 e he _ (Heap.SameBut.update ..) g1⟩))
  | none =>
   dsimp only
   refine Zp (Zp (Xi ty (Za ?_)))
   refine (show wpAny _ _ (setField (.ref I) 0 .none >>= _) _ _ s from Zp (wpAny_setField hI rfl (by show 0 < 4;decide) (CB hh fun h' x kp hx=>⟨x,rfl,hx,h2 he h' fun b o hb e=>kp b o ?_⟩)))
   rw [XE _ _ (Yk hb)]
   exact e
 ·subst e1
  exact Zp (wpAny_isInstance (T := "StopIteration") (b:=true) ⟨o,g,c⟩ isSubtype_stop (Za q))
end ST
end
section
namespace VS
open PySem PySem.Spec PyProof.Rows L2 TS
section
variable {G:Gx} {X:Cx} {a b c e tg:Expr} {es:List Expr} {ca cb cc ce ck:Ex} {cs:Exs} {pos p p1 p2 apos cpos pos':Pos} {k k' kr:Nat}
noncomputable def Ba:T->Bool
 | .tup l=>l.all eY
 | _=>false
@[simp] noncomputable def DG (x y:Val):Wj:=match y.2 with
 | .dct 1 l=>if Ba x.2 then some (.fr,.bl (cL l x.2).isSome) else none
 | .lst l=>if Ba x.2 && l.all Ba then some (.fr,.bl (l.any fun z=>eqT z x.2)) else none
 | _=>none
@[simp] noncomputable def Df (x y:Val):Wj:=match DG x y with
 | some (_,.bl b)=>some (.fr,.bl (!b))
 | _=>none
end
end VS
namespace VS
open PySem PySem.Spec PyProof.Rows L2
theorem zQ {G:Gx} {X:Cx} {i:Int} {j:Nat} {pos p:Pos}:PV G X (.UnaryOp .USub (.Constant (.int i) j p) pos) (Q2 (-i)) :=
 PE.weak (CF Ax nX) fun σ H Q hq=>by
  obtain ⟨Φ,η,m,t,s,e,k⟩:=hq
  cases (show some (Md.fr,T.int (-i))=some (m,t) from e)
  exact ⟨i,rfl,k _ H [] (aD.refl _) (.int _) Fp.nil⟩
end VS
end
section
namespace L2
open PySem PySem.Spec PyProof.Rows
section
variable {X:Cx}
noncomputable def zB:V->List V->Hp->VK->Prop:=fun x vs H Q=>∃ (a:Addr) (kvs:List (Key×V)) (k:Key) (y:V),x=.ref a/\vs=[kV k,y]/\H a=some (.dK kvs)/\kvs.length < sizeLine ∧
 (∀ v,cn kvs k=some v->Q v H)/\(cn kvs k=none->Q y (upd H a (.dK (putK kvs k y))))
theorem ud:MtR X "dict.setdefault" zB:=by
 intro pins s σ H x vs v us Q I rx rv h
 obtain ⟨a,kvs,k,y,rfl,rfl,e,hl,q1,q2⟩:=h
 cases rx
 obtain ⟨u,u2,rfl,ru,ru2⟩:=rv.two
 obtain ⟨z,hd,ws,rel,dd⟩:=mO I.hok e
 have hz:ws.length<=sizeLine:=by rw [← rel.length];exact z
 have hval:=rel.val k
 refine call_meetsIn PySem.F.slot_dict_setdefault dd.typeIs PySem.F.entry_dict_setdefault (PySem.F.args_dict_setdefault_3 _ _ _) (kt_meets_setdefault (aM X.prog X.w) a (jE ru) hd u2) ⟨ws,dd,hz,fun v hv=>?_,fun hn h' dd' hs=>?_⟩
 ·rw [hv] at hval
  cases hx:cn kvs k with
  | none=>rw [hx] at hval;cases hval
  | some w =>
   rw [hx] at hval
   exact ⟨w,H,I.tok _,hval,q1 w hx⟩
 ·rw [hn] at hval
  have hx:cn kvs k=none:=by
   cases hx:cn kvs k with
   | none=>rfl
   | some w=>rw [hx] at hval;cases hval
  have hl2:(putK kvs k y).length<=sizeLine:=by have:=eI kvs k y;lia
  have he:∃ q,h'.get? a=some q:=let ⟨q,_,_,hq,_⟩:=dd';⟨q,hq⟩
  exact ⟨y,_,jO I (by rw [e];exact True.intro) hs he (lD hl2 hd (rel.put k ru2) dd'),ru2,q2 hx⟩
end
end L2
namespace VS
open PySem PySem.Spec PyProof.Rows L2
section
variable {G:Gx} {X:Cx} {a b c e o tg:Expr} {es:List Expr} {ca cb cc ce ck cv:Ex} {cs:Exs} {pos p p1 p2 apos cpos pos' ap1 cp1 lp:Pos} {k k' kr i:Nat}
noncomputable def cE (l:List (T×T)) (k:T):List (T×T):=if (cL l k).isSome then l else l++[(k,.lst [])]
noncomputable def jK (i:Nat) (k:Ex) (v:Exs) (η:VS.Env):Option Out:=match η[i]? with
 | some (some (.ow (.dct 0 l)))=>(k η).bind fun kv=>if eY kv.2/\l.length < dD then
   (v (η.set i (some (.ow (.dct 0 (cE l kv.2)))))).bind fun vv=>(pm (fun x=>aH x vv) [.at kv.2] (.dct 0 (cE l kv.2))).map fun z=>.nx (η.set i (some (.ow z.1))) else none
 | _=>none
theorem Chg.none {H H':Hp} {v:V} {F:X0} {t:T} (sm:aD H H') (r:Rp G H v t F) (nd:F.Nodup):Chg G H v F t H' F :=
 ⟨Kept.of sm,fun b o _ h=>sm b o h,fun b h z=>h (sm.free z),r.same sm,nd,fun a ha=>.inl ha⟩
theorem Bl {H:Hp} {f:T->Option (T×Val)} {kk:Key} {a:Addr} {L:List (T×T)} {t':T} {F:X0} {y:Val} {kvs:List (Key×V)} {w:V} (r:Rp G H (.ref a) (.dct 0 L) F) (nd:F.Nodup) (e:pm f [.at (aA kk)] (.dct 0 L)=some (t',y)) (h3:H a=some (.dK kvs)) (hw:cn kvs kk=some w) :
  ∃ x F1 x',Rp G H w x F1/\F1.Nodup/\f x=some (x',y)/\∀ H2 F1',Chg G H w F1 x' H2 F1'->∃ F',Chg G H (.ref a) F t' H2 F':=by
 have e:((L.findIdx? fun p=>eqT p.1 (aA kk)).bind fun i=>(L[i]?).bind fun p=>(pm f [] p.2).map fun z=>(T.dct 0 (L.set i (p.1,z.1)),z.2))=some (t',y):=by
  cases kk <;> exact e
 obtain ⟨i,h1,e⟩:=Zz.mp e
 obtain ⟨p,h2,e⟩:=Zz.mp e
 obtain ⟨⟨z,y'⟩,e1,e2⟩:=Zw.mp e
 cases e2
 obtain ⟨a',ns,vs,ts,Fs,ea,rfl,ha,hl,rfl,ra⟩:=cV r
 cases ea
 rw [h3] at ha
 cases ha
 have lts:(ns.map aA).length=ts.length:=by rw [Zv];exact hl.trans ra.len.1
 obtain ⟨k0,x0,g1,g2,g3,g4⟩:=g8 (fun n=>eqT n (aA kk)) lts h1
 have ep:p=(k0,x0):=by
  have:((ns.map aA).zip ts)[i]?=some (k0,x0):=by rw [Yq];exact ⟨g1,g2⟩
  rw [this] at h2;exact (Zk h2).symm
 subst ep
 obtain ⟨u,Fi,u1,u2,u3⟩:=ra.get i g2
 have ew:cn (ns.zip vs) kk=some u:=og (by simpa using lts) hl h1 u1
 rw [hw] at ew
 cases ew
 refine ⟨x0,Fi,z,u3,((Zh.mp nd).2).sublist (bK u2),e1,fun H2 F1' g=>?_⟩
 obtain ⟨s1,s2,s3,s4,s5⟩:=kR h3 ra nd u1 u2 g
 refine ⟨_,g.kept,s5,g.dom,?_,s3,s4⟩
 rw [kJ (ns.map aA) ts i k0 z g1]
 exact .dct s1 hl s2
theorem uR (J:jt G) (i:Nat) {x:Str} (hk:PV G X b ck) (hv:PVs G X [e] cs) (hK:X.K=G.K) (hN:X.N[i]?=some x) (hvis:Vis X.env.scope x) (hd:(x == ("__debug__" : Str))=false) (hcd:(x == ("__classdict__" : Str))=false)
  (hb1:attributeBase (.Name x p1) "setdefault" X.env (eval (.Name x p1) X.env)=eval (.Name x p1) X.env)
  (hf1:((backTo cp1 (starEach [b,.List [] lp] X.env)).all (fun x=>!x.1) && (backToKw cp1 (keywordEach [] X.env)).all (fun x=>x.1.isSome)
   && decide ([b,Expr.List [] lp].length+([]:List Keyword).length+(if ([]:List Keyword).isEmpty then 0 else 1) < 30))=true)
  (hl1:(ap1.endLine == cp1.line)=true) (hs1:starEach [b,.List [] lp] X.env=(false,eval b X.env) :: starEach [.List [] lp] X.env) (hs1':starEach [.List [] lp] X.env=(false,eval (.List [] lp) X.env) :: starEach [] X.env) (hp1:(backTo cp1 (starEach [.List [] lp] X.env)).any (·.1)=false)
  (hb2:attributeBase (.Call (.Attribute (.Name x p1) "setdefault" ap1) [b,.List [] lp] [] cp1) "append" X.env (eval (.Call (.Attribute (.Name x p1) "setdefault" ap1) [b,.List [] lp] [] cp1) X.env)=eval (.Call (.Attribute (.Name x p1) "setdefault" ap1) [b,.List [] lp] [] cp1) X.env)
  (hf2:((backTo cpos (starEach [e] X.env)).all (fun x=>!x.1) && (backToKw cpos (keywordEach [] X.env)).all (fun x=>x.1.isSome)
   && decide ([e].length+([]:List Keyword).length+(if ([]:List Keyword).isEmpty then 0 else 1) < 30))=true)
  (hl2:(apos.endLine == cpos.line)=true) (hs2:starEach [e] X.env=(false,eval e X.env) :: starEach [] X.env) (hp2:(backTo cpos (starEach [] X.env)).any (·.1)=false)
  (hsw:swapsWith (.Call (.Attribute (.Call (.Attribute (.Name x p1) "setdefault" ap1) [b,.List [] lp] [] cp1) "append" apos) [e] [] cpos) none pos.line X.env=pure false) :
  PSV G X (.Expr (.Call (.Attribute (.Call (.Attribute (.Name x p1) "setdefault" ap1) [b,.List [] lp] [] cp1) "append" apos) [e] [] cpos) pos) (jK i ck cs) :=
 PS.weak (iy (ki YU YX YY fe
  (ki PySem.F.plainAttrs_dict PySem.F.slot_dict_setdefault PySem.F.type_dict_setdefault ud (dB hN hvis hd hcd) (bU hk (bU (nV dC) dC hs1') hs1) hb1 hf1 hl1 hs1 hp1) hv hb2 hf2 hl2 hs2 hp2) hsw) fun D σ H hq=>by
  obtain ⟨Φ,η,out,s,e,k⟩:=hq
  refine L2.gN fun P_ k_=>?_
  unfold jK at e
  split at e
  ·rename_i l hl
   obtain ⟨⟨mk,tk⟩,ekk,e⟩:=Zz.mp e
   split at e
   ·rename_i hc
    obtain ⟨c1,c2⟩:=hc
    obtain ⟨lv,ev,e⟩:=Zz.mp e
    obtain ⟨⟨t',y'⟩,e5,e6⟩:=Zw.mp e
    cases e6
    obtain ⟨v,g1,g2⟩:=s.rp _ _ hl
    have nd0:=s.nd i _ hl
    obtain ⟨a,ns,vs,ts,Fs,rfl,eΦ,ha,hln,el,ra⟩:=cV g2
    subst el
    rw [eΦ] at nd0
    refine k_ ?_
    refine ⟨.ref a,g1,by rw [hK];exact .inr (.inr (.inl ⟨rfl,.inl ⟨_,ha⟩⟩)),?_⟩
    refine ⟨Φ,η,mk,tk,s,ekk,fun kv H1 Fk sm1 rk fk=>⟨Yt _,fun q hq=>?_⟩⟩
    refine L2.gN fun P_ k_=>?_
    obtain ⟨kk,rfl,etk⟩:=cO rk c1
    dsimp only at etk ekk e5 ev c1
    subst etk
    refine k_ ?_
    have fin:∀ (H3:Hp) (F3:X0) (kvs3:List (Key×V)) (w:V),Chg G H (.ref a) (Φ i) (.dct 0 (cE ((ns.map aA).zip ts) (aA kk))) H3 F3->H3 a=some (.dK kvs3)->cn kvs3 kk=some w →
      tyV X.K "list" w H3/\tEs G cs σ H3 (fun vs2 H4=>kP w vs2 H4 (fun _ H5=>D.nx σ H5)):=fun H3 F3 kvs3 w g h3 hw=>by
     refine L2.gN fun P_ k_=>?_
     obtain ⟨z1,z2⟩:=s.mut hl g1 g
     have hset:(η.set i (some (.ow (.dct 0 (cE ((ns.map aA).zip ts) (aA kk))))))[i]?=some (some (.ow (.dct 0 (cE ((ns.map aA).zip ts) (aA kk))))):=by
      have hi:i < η.length:=(Zf.mp hl).1
      rw [YM hi]
     obtain ⟨x',F1,x3,w2,w3,w4,w5⟩:=Bl g.rp g.nd e5 h3 hw
     refine k_ ?_
     refine ⟨by rw [hK];exact h9 w2 w4,jb Φ i F3,_,lv,z1,ev,fun vs2 H4 Fs2 q1 q2 q3=>?_⟩
     refine iD (jb Φ i F3) _ H3 H4 w x' x3 F1 lv vs2 Fs2 y' _ w2 w3 ⟨q1,q2,q3⟩ w4 fun u H5 F' g5=>?_
     obtain ⟨F2,g6⟩:=w5 H5 F' g5
     have g6':Chg G H3 (.ref a) (jb Φ i F3 i) t' H5 F2:=by rw [gA];exact g6
     obtain ⟨y1,y2⟩:=z1.mut hset g1 g6'
     rw [List.set_set] at y1 y2
     exact k _ σ H5 y1 (z2.trans y2)
    have sm2:aD H1 (upd H1 q (.lst [])):=bj hq
    have sm:aD H (upd H1 q (.lst [])):=sm1.trans sm2
    have ha2:upd H1 q (.lst []) a=some (.dK (ns.zip vs)):=sm a _ ha
    have ln:(ns.zip vs).length < sizeLine:=by
     have:((ns.map aA).zip ts).length < 16777216:=c2
     rw [ZA,Zv] at this
     rw [ZA]
     have:=ra.len.1
     have:(sizeLine:Nat)=16777216:=rfl
     lia
    have dg:=iB (G:=G) (k:=kk) hln ra
    refine ⟨a,ns.zip vs,kk,.ref q,rfl,rfl,ha2,ln,fun w hw=>?_,fun hn=>?_⟩
    ·refine fin _ (a :: Fs.flatten) (ns.zip vs) w ?_ ha2 hw
     have es:cE ((ns.map aA).zip ts) (aA kk)=(ns.map aA).zip ts:=by
      unfold cE
      rcases dg with ⟨h1,h2⟩ | ⟨_,_,t2,_,h1,_⟩
      ·rw [h2] at hw;cases hw
      ·rw [h1];rfl
     rw [es,eΦ]
     exact Chg.none sm (by rw [eΦ] at g2;exact g2) nd0
    ·have es:cE ((ns.map aA).zip ts) (aA kk)=((ns++[kk]).map aA).zip (ts++[.lst []]):=by
      unfold cE
      rcases dg with ⟨h1,h2⟩ | ⟨_,_,t2,_,h1,h2,_⟩
      ·rw [h1,Zm (by simp),Z3,Xn (by rw [Zv];exact hln.trans ra.len.1)]
       rfl
      ·rw [h2] at hn;cases hn
     have ep:putK (ns.zip vs) kk (.ref q)=(ns++[kk]).zip (vs++[.ref q]):=by
      unfold putK
      rw [ij,hn,Zm (by simp),Xn hln]
      rfl
     have qa:q ≠ a:=fun z=>by
      have:H1 a=some (.dK (ns.zip vs)):=sm1 a _ ha
      rw [← z,hq] at this
      cases this
     have qH:H q=none:=sm1.free hq
     have m2:Mut (upd H1 q (.lst []) a):=by rw [ha2];exact True.intro
     have nd:=Zh.mp nd0
     have qF:q ∉ Fs.flatten:=fun z=>Mut.ne_none (ra.dom q z) qH
     have h3q:upd (upd H1 q (.lst [])) a (.dK (putK (ns.zip vs) kk (.ref q))) q=some (.lst []):=by rw [ax qa,ar]
     have rq:Rp G (upd (upd H1 q (.lst [])) a (.dK (putK (ns.zip vs) kk (.ref q)))) (.ref q) (.lst []) (q :: ([]:Y1).flatten):=.lst h3q .nil
     refine fin _ (a :: (Fs++[[q]]).flatten) (putK (ns.zip vs) kk (.ref q)) (.ref q) ?_ ar (by rw [vC,Zq rfl])
     rw [es,eΦ]
     refine Chg.upd sm Zx m2 (.dct (by rw [ar,ep]) (by simp [hln]) (((ra.same sm).off m2 nd.1).append (.cons rq .nil))) ?_ ?_
     ·rw [Z8]
      refine Zh.mpr ⟨fun z=>?_,ZX.mpr ⟨nd.2,by simp,fun x hx y hy z=>?_⟩⟩
      ·rcases Ze.mp z with z | z
       ·exact nd.1 z
       ·have h:a=q:=by simpa using z
        exact qa h.symm
      ·subst z
       exact qF (by simpa [show x=q by simpa using hy] using hx)
     ·intro y hy
      rcases Zo.mp hy with rfl | hy
      ·exact .inl Zx
      ·rw [Z8] at hy
       rcases Ze.mp hy with hy | hy
       ·exact .inl (Zy _ hy)
       ·rw [show y=q by simpa using hy]
        exact .inr qH
   ·cases e
  ·cases e
end
end VS
end
section
namespace VS
open PySem PySem.Spec PyProof.Rows L2
section
variable {G:Gx} {X:Cx} {a b c e o tg:Expr} {es:List Expr} {ca cb cc ce ck cv:Ex} {cs:Exs} {pos p p1 p2 apos cpos pos' ap1 cp1 lp:Pos} {k k' kr i:Nat}
theorem Rp.tup_inv' {H:Hp} {v:V} {ts:Wi} {F:X0} (r:Rp G H v (.tup ts) F):∃ b vs Fs,v=.ref b/\H b=some (.tup vs)/\RpL G H vs ts Fs:=by
 cases r with
 | tup h q=>exact ⟨_,_,_,rfl,h,q⟩
end
end VS
end
section
namespace L2
open PySem PySem.Spec PyProof.Rows
section
variable {X:Cx} {tg:Expr} {pos:Pos}
theorem vT {o:Obj} {es:Array DictEntry} {ep:Nat} (h:o.ExactDict) (e:o.data=.dict es ep):o=ST.dO es ep:=by
 obtain ⟨c,d,dt,sl⟩:=o
 obtain ⟨h1,h2,h3⟩:=h
 simp only at h1 h2 h3 e
 subst h1 h2 h3 e
 rfl
end
end L2
namespace VS
open PySem PySem.Spec PyProof.Rows L2
section
variable {G:Gx} {X:Cx} {pos:Pos}
theorem zK {x:Str} {t:Tx} {j:Nat} {q q':Pos} (h:x=sx t) (hl:l5 t):PV G X (.Dict [some (.Constant (.str x) j q)] [.List [] q'] pos) (mn 0 [(eC (.str t),dF aj)]) :=
 PE.weak (tq (pK vO (nV dC) tH) rfl rfl (by simp) (by show 1<=15;decide)) fun σ H Q hq=>by
  obtain ⟨Φ,η,m,r,s,e,k⟩:=hq
  subst h
  cases (show some (Md.fr,T.dct 0 [(.str t,.lst [])])=some (m,r) from e)
  intro p hp
  refine ⟨Yt _,fun b hb=>?_⟩
  have bp:b ≠ p:=fun z=>by rw [z,ar] at hb;cases hb
  have Hb:H b=none:=by rw [ax bp] at hb;exact hb
  refine ⟨by rw [ax (Yk bp),ar],[(Sum.inr (sx t),.ref b)],rfl,(by show 1<=15;decide),?_⟩
  have hk:aA (Sum.inr (sx t))=.str t:=rfl
  have sm:aD H (upd (upd (upd H p (.dK [])) b (.lst [])) p (.dK (jS [] [(Sum.inr (sx t),.ref b)]))):=fun c o hc=>by
   rw [ax (bE hc hp),ax (bE hc Hb),ax (bE hc hp)]
   exact hc
  have:Rp G (upd (upd (upd H p (.dK [])) b (.lst [])) p (.dK [(Sum.inr (sx t),.ref b)])) (.ref p) (.dct 0 ((([Sum.inr (sx t)]:List Key).map aA).zip [.lst []])) (p :: ([[b]]:Y1).flatten) :=
   .dct (ks:=[Sum.inr (sx t)]) (vs:=[V.ref b]) ar rfl (.cons (F:=b :: ([]:Y1).flatten) (.lst (by rw [ax bp,ar]) .nil) .nil)
  simp only [Zl,YB,hk,Zc,List.zip_nil_right] at this
  exact k _ _ _ sm this ⟨by simp [Yk bp],fun c hc=>by
   rcases Zo.mp hc with rfl | hc
   ·exact hp
   ·simp at hc;rw [hc];exact Hb⟩
end
end VS
end
section
namespace VS
open PySem PySem.Spec PyProof.Rows L2
section
variable {G:Gx} {X:Cx} {e b:Expr} {cs:Exs} {cb:Ex} {pos p p1 p2 kp apos cpos:Pos} {k k' kr:Nat} {x:Str} {ps:List Str} {g:Fn}
@[simp] noncomputable def DV (i:Nat) (c:Ex) (as:Exs) (η:VS.Env):Option (Val×VS.Env):=match η[i]? with
 | some (some (.ow (.lst l)))=>(c η).bind fun kv=>(int? kv.2).bind fun n=>(ixP l.length n).bind fun j=>(l[j]?).bind fun x=>(as η).bind fun xs=>(aH x xs).map fun z=>(z.2,η.set i (some (.ow (.lst (l.set j z.1)))))
 | _=>none
end
section
variable {G:Gx} {X:Cx} {a b e:Expr} {ca ck ce:Ex} {pos pos' p1:Pos} {kr:Nat}
theorem AG {j pos'} (ha:PV G X a ca):PVT G X (.Compare a [.Is] [.Constant .none j pos'] pos) (ym ca) :=
 PT.weak (xJ (BA ha)) fun σ H Q h=>Ab h (fun η m r e=>by
  unfold ym at e
  obtain ⟨x,_,e⟩:=Zz.mp e
  cases e
  exact ⟨_,rfl⟩) fun Q hq=>by
   obtain ⟨Φ,η,m,r,s,e,q⟩:=hq
   unfold ym at e
   obtain ⟨⟨n,x⟩,ea,e⟩:=Zz.mp e
   cases e
   refine ⟨Φ,η,n,x,s,ea,fun v H' F e1 r1 f1=>?_⟩
   show Q (.bl (decide (v=.non))) H'
   rw [su r1]
   exact q _ H' _ e1 (.bl _) Fp.nil
theorem oB {j pos'} (ha:PV G X a ca):PVT G X (.Compare a [.IsNot] [.Constant .none j pos'] pos) (gr ca) :=
 PT.weak (xJ (zC ha)) fun σ H Q h=>Ab h (fun η m r e=>by
  unfold gr at e
  obtain ⟨x,_,e⟩:=Zz.mp e
  cases e
  exact ⟨_,rfl⟩) fun Q hq=>by
   obtain ⟨Φ,η,m,r,s,e,q⟩:=hq
   unfold gr at e
   obtain ⟨⟨n,x⟩,ea,e⟩:=Zz.mp e
   cases e
   refine ⟨Φ,η,n,x,s,ea,fun v H' F e1 r1 f1=>?_⟩
   show Q (.bl (!decide (v=.non))) H'
   rw [su r1]
   exact q _ H' _ e1 (.bl _) Fp.nil
noncomputable def pR (i:Nat) (k e:Ex) (η:VS.Env):Option Out:=(e η).bind fun v=>match η[i]? with
 | some (some (.ow (.dct 0 l)))=>(k η).bind fun kv=>if eY kv.2/\imm v.2/\l.length < dD then some (.nx (η.set i (some (.ow (.dct 0 (dput l kv.2 v.2)))))) else none
 | _=>none
theorem Bj (i:Nat) {x:Str} (hr:Room kr X.A) (hk:PV G X b ck) (he:PV G X e ce) (hN:X.N[i]?=some x) (hv:Vis X.env.scope x) (hd:(x == ("__debug__" : Str))=false) (hcd:(x == ("__classdict__" : Str))=false)
  (ha:∀ v,assign (.Subscript (.Name x p1) b pos') X.env v=(do
   let ov ← holding [v] (eval (.Name x p1) X.env)
   let iv ← holding [v,ov] (eval b X.env)
   standAt pos'
   holding [v,ov,iv] (setItem ov iv v)
   release [v,ov,iv] [])) (hs:swapsWithSole [.Subscript (.Name x p1) b pos'] e pos.line X.env=pure false) (hw:swappedStores [.Subscript (.Name x p1) b pos'] e X.env=pure none)
  (h1:(assignEach [.Subscript (.Name x p1) b pos'] X.env).map (·.2)=[assign (.Subscript (.Name x p1) b pos') X.env]):PSV G X (.Assign [.Subscript (.Name x p1) b pos'] e pos) (pR i ck ce) :=
 PS.weak (nN he (nK (dB hN hv hd hcd) hk (sr (iK hr)) ha) hs hw h1) fun D σ H hq=>by
  obtain ⟨Φ,η,out,s,e,k⟩:=hq
  unfold pR at e
  obtain ⟨⟨mv,tv⟩,ev,e⟩:=Zz.mp e
  split at e
  ·rename_i l ht
   obtain ⟨⟨mk,tk⟩,ekk,e⟩:=Zz.mp e
   split at e
   ·rename_i hc
    obtain ⟨c1,c2,c3⟩:=hc
    cases e
    obtain ⟨w,g1,w2⟩:=s.rp _ _ ht
    have w3:=s.nd i _ ht
    refine ⟨Φ,η,mv,tv,s,ev,fun xv H1 Fv sm1 rv fv=>⟨w,g1,Φ,η,mk,tk,s.same sm1,ekk,fun kv H3 Fk sm3 rk fk=>?_⟩⟩
    have sm:aD H H3:=sm1.trans sm3
    have rv3:Rp G H3 xv tv Fv:=rv.same sm3
    have eF:=rv3.imm c2
    subst eF
    obtain ⟨a,ns,vs,ts,Fs,rfl,eF1,ha',hl,rfl,ra⟩:=cV w2
    rw [eF1] at w3
    obtain ⟨kk,rfl,ekk'⟩:=cO rk c1
    subst ekk'
    have ha3:H3 a=some (.dK (ns.zip vs)):=sm a _ ha'
    have m3:Mut (H3 a):=by rw [ha3];exact True.intro
    have nd:=Zh.mp w3
    obtain ⟨ks',vs',ts',Fs',q1,q2,q3,q4,q5⟩:=nG (kk:=kk) rv3 hl (ra.same sm)
    have ln:(ns.zip vs).length < sizeLine:=by
     have:((ns.map aA).zip ts).length < 16777216:=c3
     rw [ZA,Zv] at this
     rw [ZA]
     have:=ra.len.1
     have:(sizeLine:Nat)=16777216:=rfl
     lia
    refine .inr ⟨a,_,rfl,pI.k ha3 ln,?_⟩
    have g:Chg G H (.ref a) (Φ i) (.dct 0 (dput ((ns.map aA).zip ts) (aA kk) tv)) (upd H3 a (.dK (putK (ns.zip vs) kk xv))) (a :: Fs'.flatten):=by
     rw [eF1,q1,q3]
     refine Chg.upd sm Zx m3 (.dct ar q2 (q4.off m3 fun z=>nd.1 (q5.subset z))) ?_ ?_
     ·exact Zh.mpr ⟨fun z=>nd.1 (q5.subset z),nd.2.sublist q5⟩
     ·intro bb hb
      rcases Zo.mp hb with rfl | hb
      ·exact .inl Zx
      ·exact .inl (Zy _ (q5.subset hb))
    obtain ⟨z1,z2⟩:=s.mut ht g1 g
    exact k _ σ _ z1 z2
   ·cases e
  ·cases e
end
end VS
end
section
namespace DP
open PySem PySem.Spec PyProof.Rows
variable {prog:Program} {w:World} {A:Around} {E:Z0}
theorem yf:typeLookup (.type "tuple") "keys" = pure none:=by rw [typeLookup_type,builtinLookup_eq_fast];kernel_rfl
theorem yX {h:Heap} {g:Array GenState} {d:Drawn} {tk:Nat} {os} {a:Addr} {xs:Array Value} {k:Nat} {sl:Array (Ww)} {u:Tok} {Q:Z0} (hx:h.get? a=some { cls:=.type "tuple",dict:=none,data:=.seq xs k,slots:=sl }) (hA:A.handled=none)
  (hE:∀ h' tk' e,Heap.NewExcOf h h' e "AttributeError" → E (.ref e) ⟨h',g,d,tk',os⟩):wpAny (model prog w) A (getAttrBy (.ref a) (.str "keys" u) false) Q E ⟨h,g,d,tk,os⟩:=by
 have hT:∀ tk',(⟨h,g,d,tk',os⟩:Shared).TypeIs (.ref a) "tuple" := fun _=>⟨_,hx,rfl⟩
 have f1:=sub_AttributeError
 have f3:=XU.lookup
 have f4:=XU.bind (.ref a)
 have f5:=am_tuple_getattr_none
 unfold getAttrBy
 repeat (any_goals (first | assumption | exact hT _ | ((with_reducible show wpAny _ _ (call (Value.builtin "tuple.__getattribute__") _ _) _ _ _);refine call_meets XU (hT _) am_entry_tuple_getattribute (F.args_tuple_getattribute_2 _ _) (meets_getattribute_miss_tuple a xs k sl "keys" _ yf (by decide +kernel)) ⟨hx,hA,fun h' tk' e hx'=>?_⟩) | wp_step))
 obtain ⟨t',u',he⟩:=hx'.there
 show wpAny _ _ (getattributeRaised _ _ _ _ _ _ _) _ _ _
 unfold getattributeRaised
 repeat (any_goals (first | assumption | wp_step))
 exact hE _ _ _ hx'.of
end DP
end
section
namespace DP
open PySem PySem.Spec PyProof.Rows L2
variable {prog:Program} {w:World} {A:Around} {E:Z0}
theorem uh {h:Heap} {g:Array GenState} {d:Drawn} {tk:Nat} {os} {a:Addr} {xs:Array Value} {k:Nat} {sl:Array (Ww)} {Q:Ww->Shared->Prop} (hx:h.get? a=some { cls:=.type "tuple",dict:=none,data:=.seq xs k,slots:=sl }) (hA:A.handled=none)
  (hQ:∀ h' tk' e,Heap.NewExcOf h h' e "AttributeError" → Q none ⟨h',g,d,tk',os⟩):wpAny (model prog w) A (getAttr? (.ref a) "keys") Q E ⟨h,g,d,tk,os⟩:=by
 have f1:=sub_AttributeError
 unfold getAttr? getAttrBy?
 repeat (any_goals (first | assumption | (with_reducible refine yX hx (by assumption) fun h' tk' e hx'=>?_) | wp_step))
 obtain ⟨⟨oc,od,odt,osl⟩,vs,ge,ce,_,_⟩:=hx'.there
 dsimp only at ce
 subst ce
 repeat (any_goals (first | assumption | wp_step))
 exact hQ _ _ _ hx'
theorem lr:entryFor table "dict.update.loop" = some Builtin.«dict.update.loop» := entryFor_of_tree (by kernel_rfl)
theorem gL:plainId "dict.update.loop" = true:=by decide +kernel
section
variable {R:Result->Shared->Prop} {I:Addr} {fp wr:X0} {G:Array GenState->Array GenState->Prop} {n:Nat} {P:Nat->Value->Prop} {St:Nat->Shared->Prop}
theorem loop (W:WalksS prog w A.in1 I fp wr G n P St) (d:Addr) (hdf:d ∉ fp) (h0:Heap) (kv:Nat->Key×Value)
  (hP:∀ i v,P i v->∃ p m sl kx,v=.ref p/\h0.get? p=some { cls:=.type "tuple",dict:=none,data:=.seq #[kx,(kv i).2] m,slots:=sl }/\(aM prog w).is (kv i).1 kx=true/\p ∉ d :: wr) (hb:n<=sizeLine) :
  ∀ (k i:Nat) (s:Shared),n - i=k->i<=n->St i s->(∀ b o,b ∉ d :: wr->h0.get? b=some o->s.heap.get? b=some o)->s.heap.DictOf (aM prog w) d (merged [] ((List.range i).map kv)) →
   (∀ s',Moved (d :: wr) G s s'->s'.heap.DictOf (aM prog w) d (merged [] ((List.range n).map kv))->R (.ok (.ret .none)) s') →
   codeAny (model prog w) A (.builtin "dict.update.loop" ⟨[.ref d,.ref I,rawInt i,.none],[]⟩) R s:=by
 have hSw:d ∉ wr:=fun h=>hdf (W.sub _ h)
 have hsub:∀ b∈wr,b∈d :: wr:=fun b hb=>Zy _ hb
 intro k
 induction k with
 | zero =>
  intro i s hk hi hst hh hS hR
  have hin:i=n:=by lia
  subst hin
  refine codeAny_builtin lr ?_
  rw [Wy gL _]
  show wpAny _ A.in1 (pyNext (.ref I) >>= _) _ _ s
  refine Zp (W.done s _ _ hst fun s' hm=>?_)
  show wpAny _ A.in1 (Builtin.Dict.addKeywords d [] >>= fun _=>ret Value.none) _ _ s'
  refine Zp (Za ?_)
  exact Za (hR s' (hm.mono hsub) (by
   obtain ⟨o,es,ep,ho,rest⟩:=hS
   exact ⟨o,es,ep,hm.heap d _ hSw ho,rest⟩))
 | succ k ih =>
  intro i s hk hi hst hh hS hR
  have hlt:i < n:=by omega
  refine codeAny_builtin lr ?_
  rw [Wy gL _]
  show wpAny _ A.in1 (pyNext (.ref I) >>= _) _ _ s
  refine Zp (W.item i s _ _ hlt hst fun v s' hPv hst' hm=>?_)
  obtain ⟨p,m,sl,kx,rfl,hp,hkx,hpn⟩:=hP i v hPv
  have hp':s'.heap.get? p=some { cls:=.type "tuple",dict:=none,data:=.seq #[kx,(kv i).2] m,slots:=sl }:=hm.heap p _ (fun z=>hpn (hsub p z)) (hh p _ hpn hp)
  have hS':s'.heap.DictOf (aM prog w) d (merged [] ((List.range i).map kv)):=by
   obtain ⟨o,es,ep,ho,rest⟩:=hS
   exact ⟨o,es,ep,hm.heap d _ hSw ho,rest⟩
  show wpAny _ A.in1 (holding [Value.ref p] _ >>= _) _ _ s'
  refine Zp (YD ?_)
  have ty:s'.TypeIs (.ref p) "tuple" := ⟨_,hp',rfl⟩
  refine Zp (thn (Q:=fun r s2=>r=[kx,(kv i).2]/\s2=s') ?pair fun r s2 hr=>?rest)
  case pair =>
   refine wpAny_tryCatch ?_
   unfold Builtin.Dict.pairItems
   repeat (any_goals (first | assumption | wp_step))
   exact ⟨rfl,rfl⟩
  case rest =>
   obtain ⟨rfl,rfl⟩:=hr
   dsimp only
   refine YD ?_
   refine wpAny_dictSet_pairs hkx hS' (fun h' dd sb=>?_) (by have:=merged_length_le (K:=Key) [] ((List.range i).map kv);simp at this;lia)
   have e1:((i:Int)+1)=((i+1:Nat):Int):=by lia
   rw [e1]
   have dd':h'.DictOf (aM prog w) d (merged [] ((List.range (i+1)).map kv)):=by
    rw [List.range_succ,Z3,show merged ([]:List (Key×Value)) ((List.range i).map kv++[i].map kv)=stored (merged [] ((List.range i).map kv)) (kv i).1 (kv i).2 by unfold merged;rw [List.foldl_append];rfl]
    exact dd
   refine Za ⟨plainId_quiet gL _,ih (i+1) _ (by omega) hlt (W.frame _ s2 _ _ hst' (Xc _) fun b hb o e=>?_) (fun b o hb e=>?_) dd' fun s'' hm'' hS''=>?_⟩
   ·rw [sb.2 b (fun h:b=d=>hdf (by rw [← h];exact hb))];exact e
   ·rw [sb.2 b (fun h:b=d=>hb (by rw [h];exact Zx))]
    exact hm.heap b _ (fun z=>hb (hsub b z)) (hh b o hb e)
   ·refine hR s'' (Moved.trans W.gtrans ((hm.mono hsub).then_heap (Xc _) fun b o hb e=>?_) hm'') hS''
    rw [sb.2 b (fun h:b=d=>hb (by rw [h];exact Zx))];exact e
end
end DP
end
section
namespace DP
open PySem PySem.Spec PyProof.Rows L2
variable {prog:Program} {w:World} {A:Around} {E:Z0} {s:Shared}
theorem lA:mroOf (.type "dict")=pure [.type "dict",.type "object"]:=by rw [mroOf_type];kernel_rfl
theorem kC:typeLookup (.type "dict") "__new__" = pure (some (.builtin "dict.__new__")):=by rw [typeLookup_type,builtinLookup_eq_fast];kernel_rfl
theorem qi:TypeCalled "dict" "dict.__new__" "dict.__init__" :=
 ⟨by decide +kernel,by decide +kernel,⟨_,_,lA⟩,madeBy_type lA kC (by decide +kernel),by decide +kernel,by rw [isSubtype_type];kernel_rfl,F.slot_dict_init⟩
theorem kE (a:Value):checkTypeCall "dict" ⟨[a],[]⟩=pure ():=by kernel_rfl
theorem lN (a:Value):checkBuiltinCall "dict.__new__" ⟨[.type "dict",a],[]⟩=pure ():=by kernel_rfl
theorem lX:entryFor table "dict.__new__" = some Builtin.«dict.__new__» := entryFor_of_tree (by kernel_rfl)
theorem ib:plainId "dict.__new__" = true:=by decide +kernel
theorem mh:isSubtype (.type "dict") (.type "dict")=pure true:=by rw [isSubtype_type];kernel_rfl
theorem l6 (a:Value) {Q₁:Z0} (h:Q₁ (.ref s.heap.objs.size) { s with heap:=s.heap.push { cls:=.type "dict",data:=.dict #[] } }) :
  codeAny (model prog w) A (.call (.builtin "dict.__new__") ⟨[.type "dict",a],[]⟩) (wants Q₁ E) s:=by
 refine codeAny_of_tree (Zp (m:=checkBuiltinCall "dict.__new__" ⟨[.type "dict",a],[]⟩) (wpAny_of_eq (lN a) (Za ⟨plainId_quiet ib _,codeAny_builtin lX ?_⟩)))
 rw [Wy ib]
 have own:=mh
 have mro:=lA
 cases s
 unfold Builtin.«dict.__new__»
 wp_walk
 exact h
theorem tN {a:Addr} {its:Array Value} {m0:Nat} {sl0:Array (Ww)} {kv:Nat->Key×Value} {Q:Z0} (hh:A.handled=none) (ht:s.heap.get? a=some { cls:=.type "tuple",dict:=none,data:=.seq its m0,slots:=sl0 }) (hz:its.size<=sizeLine)
  (hp:∀ (i:Nat) (v:Value),its[i]?=some v->∃ p m sl kx,v=.ref p/\s.heap.get? p=some { cls:=.type "tuple",dict:=none,data:=.seq #[kx,(kv i).2] m,slots:=sl }/\(aM prog w).is (kv i).1 kx=true)
  (h:∀ (h':Heap) (tk:Nat),h'.DictOf (aM prog w) s.heap.objs.size (merged [] ((List.range its.size).map kv))->(∀ b o,s.heap.get? b=some o->h'.get? b=some o)->Q (.ref s.heap.objs.size) { s with heap:=h',toks:=tk }) :
  wpAny (model prog w) A (call (.type "dict") [.ref a]) Q E s:=by
 refine callType_codes (Q₁:=fun obj s₁=>obj=.ref s.heap.objs.size/\s₁={ s with heap:=s.heap.push { cls:=.type "dict",data:=.dict #[] } }) qi (kE _) F.entry_dict_init (l6 _ ⟨rfl,rfl⟩) fun obj s₁ hq=>?_
 obtain ⟨rfl,rfl⟩:=hq
 have ty:Shared.TypeIs { s with heap:=s.heap.push { cls:=.type "dict",data:=.dict #[] } } (.ref s.heap.objs.size) "dict" := ⟨_,ZP _ rfl,rfl⟩
 refine ⟨ty,F.args_dict_init_2 _ _,?_⟩
 obtain ⟨hp0,g,d,tk,os⟩:=s
 have at1:=Zi { cls:=.type "dict",data:=.dict #[] } ht
 unfold Builtin.«dict.__init__» Builtin.Dict.updateCommon Builtin.Dict.updateFrom
 generalize eP:pyIter=itr
 generalize eG:getAttr?=ga
 repeat (any_goals (first | assumption | wp_step))
 subst eG
 dsimp only at *
 refine uh at1 (by simp [hh]) fun h1 tk1 e ne=>?_
 simp only [Option.isNone_none,if_true]
 refine Zp (wpAny_rule ?_)
 subst eP
 have at2:=ne.keeps _ _ at1
 have dat:=ne.keeps hp0.objs.size { cls:=.type "dict",data:=.dict #[] } (ZP _ rfl)
 have dlt:=ZS dat
 have lt0:∀ {b:Addr} {o:Obj},hp0.get? b=some o->b < hp0.objs.size:=fun e=>ZS e
 have kp1:∀ b o,hp0.get? b=some o->h1.get? b=some o:=fun b o e=>ne.keeps _ _ (Zi _ e)
 have tup:h1.IsTuple a its:=⟨_,at2,rfl,m0,rfl⟩
 refine Zp (wpAny_pyIter_tuple tup (Za ⟨plainId_quiet gL _,?_⟩))
 have alt:=lt0 ht
 have D0:(h1.push { cls:=.type "tuple_iterator",data:=.fields #[.ref a,.int 0 0] }).DictOf (aM prog w) hp0.objs.size (merged [] ((List.range 0).map kv)):=by
  obtain ⟨o,es,ep,ho,rest⟩:=(Heap.DictOf.new (knd:=aM prog w) hp0)
  exact ⟨o,es,ep,Zi _ (ne.keeps _ _ ho),rest⟩
 refine loop (A:=A.in1) ((Walks.tuple (by simp [hh]) h1.objs.size a (ZZ (X4 alt dlt)) its).toS) hp0.objs.size (by simp only [Zo,Wu,or_false,not_or];exact ⟨ZZ dlt,X3 alt⟩) hp0 kv (fun i v hv=>?_) hz its.size 0 _ (by lia) (Yt _) ?_ (fun b o hb e=>Zi _ (kp1 b o e)) D0 fun s' mv dd=>?_
 ·obtain ⟨p,m,sl,kx,rfl,g1,g2⟩:=hp i v hv
  have:=lt0 g1
  exact ⟨p,m,sl,kx,rfl,g1,g2,by simp only [Zo,Wu,or_false,not_or];exact ⟨ZZ this,ZZ (X4 this dlt)⟩⟩
 ·exact ⟨⟨_,ZP _ rfl,rfl,rfl⟩,tup.push _⟩
 ·obtain ⟨h',g',d',tk',os'⟩:=s'
  have e1:g'=g:=mv.gens
  have e2:d'=d:=mv.drawn
  have e3:os'=os:=mv.os
  subst e1 e2 e3
  refine ⟨rfl,h h' tk' dd fun b o e=>mv.heap b o (fun hin=>?_) (Zi _ (kp1 b o e))⟩
  have:=lt0 e
  simp only [Zo,Wu,or_false] at hin
  rcases hin with q | q
  ·exact ZZ this q
  ·exact ZZ (X4 this dlt) q
end DP
end
section
namespace L2
open PySem PySem.Spec PyProof.Rows
section
variable {X:Cx}
noncomputable abbrev DPr:=Addr×Key×V
theorem zE {pins:Z7} {σ:St} {H:Hp} {s:Shared} (I:Inv X pins σ H s) {q:DPr} (h:H q.1=some (.tup [kV q.2.1,q.2.2])):∃ vx m sl kx,RelV q.2.2 vx/\s.heap.get? q.1=some { cls:=.type "tuple",dict:=none,data:=.seq #[kx,vx] m,slots:=sl }/\(aM X.prog X.w).is q.2.1 kx=true:=by
 obtain ⟨_,its,rv,nd,⟨oc,od,odt,osl⟩,g,gc,n,gd⟩:=(show bF X.prog X.w H s.heap q.1 (.tup [kV q.2.1,q.2.2]) from I.hok _ _ h)
 have hd:=nd _ g
 dsimp only at gc gd hd
 subst gc gd hd
 obtain ⟨kx,vx,rfl,r1,r2⟩:=vals2 rv
 exact ⟨vx,n,osl,kx,r2,g,jE r1⟩
theorem o6 {pins:Z7} {σ:St} {H:Hp} {s:Shared} (I:Inv X pins σ H s):∀ (ps:List DPr),(∀ q∈ps,H q.1=some (.tup [kV q.2.1,q.2.2])) →
  ∃ kvs:List (Key×Value),Paired (fun (q:DPr) (kv:Key×Value)=>q.2.1=kv.1/\RelV q.2.2 kv.2/\∃ m sl kx,s.heap.get? q.1=some { cls:=.type "tuple",dict:=none,data:=.seq #[kx,kv.2] m,slots:=sl }/\(aM X.prog X.w).is kv.1 kx=true) ps kvs
 | [],_=>⟨[],.nil⟩
 | q :: ps,h=>by
  obtain ⟨vx,m,sl,kx,r,g,k⟩:=zE I (h q Zx)
  obtain ⟨kvs,p⟩:=o6 I ps fun x hx=>h x (Zy _ hx)
  exact ⟨(q.2.1,vx) :: kvs,.cons ⟨rfl,r,m,sl,kx,g,k⟩ p⟩
theorem mZ {R:DPr->Key×Value->Prop} (hR:∀ q kv,R q kv->q.2.1=kv.1/\RelV q.2.2 kv.2):∀ {ps:List DPr} {kvs:List (Key×Value)},Paired R ps kvs->∀ {a:List (Key×V)} {b:List (Key×Value)},KV a b->KV (ps.foldl (fun acc q=>putK acc q.2.1 q.2.2) a) (merged b kvs)
 | _,_,.nil,_,_,r=>r
 | _,_,.cons (a:=q) (b:=kv) h t,a,b,r=>by
  obtain ⟨e1,e2⟩:=hR _ _ h
  have:=mZ hR t (r.put kv.1 e2)
  simp only [YZ,merged]
  rw [e1]
  exact this
theorem pL:∀ (ps:List DPr) (a:List (Key×V)),(ps.foldl (fun acc q=>putK acc q.2.1 q.2.2) a).length<=a.length+ps.length
 | [],a=>Zg _
 | q :: ps,a=>by
  have h1:=pL ps (putK a q.2.1 q.2.2)
  have h2:=eI a q.2.1 q.2.2
  simp only [YZ,Zn]
  lia
theorem Paired.at_ {α β:Type} {R:α->β->Prop}:∀ {l:List α} {m:List β},Paired R l m->∀ (i:Nat) {a:α},l[i]?=some a->∃ b,m[i]?=some b/\R a b
 | _,_,.nil,i,a,h=>by simp at h
 | _,_,.cons r t,0,a,h=>by simp at h;subst h;exact ⟨_,rfl,r⟩
 | _,_,.cons r t,i+1,a,h=>by simpa using Paired.at_ t i (by simpa using h)
theorem qE (hc:X.calm=true):dP X (.type "dict") (fun xs H Q=>∃ (p:Addr) (ps:List DPr),xs=[.ref p]/\H p=some (.tup (ps.map fun q=>V.ref q.1))/\(∀ q∈ps,H q.1=some (.tup [kV q.2.1,q.2.2])) ∧
  ∀ l,H l=none->Q (.ref l) (upd H l (.dK (ps.foldl (fun acc q=>putK acc q.2.1 q.2.2) [])))):=by
 intro pins s σ H xs us Q I rx h
 obtain ⟨p,ps,rfl,hp,hq,q⟩:=h
 obtain ⟨u,rfl,ru⟩:=rx.one
 cases ru
 obtain ⟨hz,its,rv,nd,⟨oc,od,odt,osl⟩,g,gc,n,gd⟩:=(show bF X.prog X.w H s.heap p (.tup (ps.map fun q=>V.ref q.1)) from I.hok _ _ hp)
 have hd:=nd _ g
 dsimp only at gc gd hd
 subst gc gd hd
 obtain ⟨kvs,pr⟩:=o6 I ps hq
 have l1:its.length=ps.length:=by have:=rv.length;simpa using this.symm
 have l2:kvs.length=ps.length:=pr.length.symm
 rw [Zv] at hz
 have hkv:(List.range its.toArray.size).map (fun i=>(kvs[i]?).getD (.inl 0,.none))=kvs:=by
  apply List.ext_getElem?
  intro i
  rw [ZQ]
  by_cases hi:i < kvs.length
  ·rw [List.getElem?_range (by simp;lia),Zr hi]
   simp [hi]
  ·rw [Z2 (by simp;lia),Z2 (by exact ZE hi)]
   rfl
 refine DP.tN (kv:=fun i=>(kvs[i]?).getD (.inl 0,.none)) (I.ok.hd hc) g (by simp;lia) (fun i v hv=>?_) fun h' tk dd kp=>?_
 ·rw [XO] at hv
  have hi:i < ps.length:=by have:=(Zf.mp hv).1;lia
  obtain ⟨w,e1,e2⟩:=Paired.at_ rv i (a:=V.ref ps[i].1) (by rw [ZQ,Zr hi];rfl)
  rw [hv] at e1
  cases e1
  obtain ⟨kv,e3,e4,_,m,sl,kx,g1,g2⟩:=Paired.at_ pr i (Zr hi)
  rw [e3]
  exact ⟨ps[i].1,m,sl,kx,e2,g1,g2⟩
 ·rw [hkv] at dd
  have rel:=mZ (fun _ _ h=>⟨h.1,h.2.1⟩) pr (.nil:KV [] [])
  have ln:=pL ps []
  exact ⟨.ref s.heap.objs.size,_,I.laid (t':=tk) kp (Zg _) (lD (by simp at ln;exact ZG ln hz) (ZO.mpr (Yk (ZZ I.big))) rel dd),rfl,q _ (I.hok.fresh (Zg _))⟩
end
end L2
end
section
namespace VS
open PySem PySem.Spec PyProof.Rows L2
noncomputable def oI:Wi->Option (List (T×T))
 | []=>some []
 | .tup [k,v] :: r=>if eY k/\imm v then (oI r).map ((k,v) :: ·) else none
 | _=>none
noncomputable def j8:Wk->Wj
 | [(_,.tup l)]=>(oI l).map fun ps=>(.fr,.dct 0 (ps.foldl (fun d q=>dput d q.1 q.2) []))
 | _=>none
section
variable {G:Gx} {X:Cx} {e:Expr} {cs:Exs} {p pos:Pos}
theorem zm {t:T} {l:Wi} {ps:List (T×T)} (h:oI (t :: l)=some ps):∃ k v qs,t=.tup [k,v]/\eY k=true/\imm v=true/\oI l=some qs/\ps=(k,v) :: qs:=by
 unfold oI at h
 split at h
 ·rename_i hh
  cases hh
 ·rename_i k v r hh
  cases hh
  split at h
  ·rename_i c
   obtain ⟨qs,e1,e2⟩:=Zw.mp h
   exact ⟨k,v,qs,rfl,c.1,c.2,e1,e2.symm⟩
  ·cases h
 ·cases h
theorem qf {H:Hp}:∀ {ts:Wi} {ws:List V} {Gs:Y1} {qs:List (T×T)},RpL G H ws ts Gs->oI ts=some qs →
  ∃ ps:List DPr,ws=ps.map (fun q=>V.ref q.1)/\(∀ q∈ps,H q.1=some (.tup [kV q.2.1,q.2.2]))/\Paired (fun (q:DPr) (x:T×T)=>x.1=aA q.2.1/\Rp G H q.2.2 x.2 []) ps qs
 | [],_,_,qs,r,h=>by
  cases r
  cases (show some ([]:List (T×T))=some qs from h)
  exact ⟨[],rfl,fun q hq=>by simp at hq,.nil⟩
 | t :: ts,_,_,qs,r,h=>by
  obtain ⟨k,v,qs',rfl,hk,hv,h2,rfl⟩:=zm h
  cases r with
  | cons r1 r2 =>
   obtain ⟨ps,e1,e2,e3⟩:=qf r2 h2
   obtain ⟨b,vs,Fs,rfl,hb,q⟩:=Rp.tup_inv' r1
   cases q with
   | cons rk q =>
    cases q with
    | cons rv q =>
     cases q
     obtain ⟨kk,rfl,ek⟩:=cO rk hk
     have ei:=rv.imm hv
     subst ei
     refine ⟨(b,kk,_) :: ps,by rw [e1];rfl,fun x hx=>?_,.cons ⟨ek,rv⟩ e3⟩
     rcases Zo.mp hx with rfl | hx
     ·exact hb
     ·exact e2 x hx
theorem oY {H:Hp}:∀ {ps:List DPr} {qs:List (T×T)},Paired (fun (q:DPr) (x:T×T)=>x.1=aA q.2.1/\Rp G H q.2.2 x.2 []) ps qs->∀ {ns:List Key} {vs:List V} {ts:Wi} {Fs:Y1},ns.length=vs.length->RpL G H vs ts Fs->Fs.flatten=[] →
  ∃ (ns':List Key) (vs':List V) (ts':Wi) (Fs':Y1),ps.foldl (fun acc q=>putK acc q.2.1 q.2.2) (ns.zip vs)=ns'.zip vs'/\qs.foldl (fun d q=>dput d q.1 q.2) ((ns.map aA).zip ts)=(ns'.map aA).zip ts'/\ns'.length=vs'.length/\RpL G H vs' ts' Fs'/\Fs'.flatten=[]
 | _,_,.nil,ns,vs,ts,Fs,hl,r,hF=>⟨ns,vs,ts,Fs,rfl,rfl,hl,r,hF⟩
 | _,_,.cons (a:=q) (b:=x) h t,ns,vs,ts,Fs,hl,r,hF=>by
  obtain ⟨ks',vs',ts',Fs',q1,q2,q3,q4,q5⟩:=nG (kk:=q.2.1) h.2 hl r
  rw [hF] at q5
  have hF':Fs'.flatten=[]:=List.sublist_nil.mp q5
  obtain ⟨n2,v2,t2,F2,a1,a2,a3,a4,a5⟩:=oY t q2 q4 hF'
  refine ⟨n2,v2,t2,F2,?_,?_,a3,a4,a5⟩
  ·rw [YZ,q1];exact a1
  ·rw [YZ,h.1,q3];exact a2
theorem vh:fT G (fun xs H Q=>∃ (p:Addr) (ps:List DPr),xs=[.ref p]/\H p=some (.tup (ps.map fun q=>V.ref q.1))/\(∀ q∈ps,H q.1=some (.tup [kV q.2.1,q.2.2])) ∧
  ∀ l,H l=none->Q (.ref l) (upd H l (.dK (ps.foldl (fun acc q=>putK acc q.2.1 q.2.2) [])))) j8:=by
 intro Φ η H0 H l vs Fs m t Q A e k
 unfold j8 at e
 split at e
 ·rename_i mx ts
  obtain ⟨qs,e1,e2⟩:=Zw.mp e
  cases e2
  obtain ⟨v,F,rfl,rfl,r⟩:=(show RpL G H vs [.tup ts] Fs from A.rp).one
  obtain ⟨b,ws,Gs,rfl,hb,q⟩:=Rp.tup_inv' r
  obtain ⟨ps,rfl,hps,pr⟩:=qf q e1
  refine ⟨b,ps,rfl,hb,hps,fun l hl=>?_⟩
  obtain ⟨ns,us,ts',Fs',a1,a2,a3,a4,a5⟩:=oY pr (ns:=[]) (vs:=[]) (ts:=[]) (Fs:=[]) rfl .nil rfl
  have a1':ps.foldl (fun acc q=>putK acc q.2.1 q.2.2) []=ns.zip us:=a1
  have a2':qs.foldl (fun d q=>dput d q.1 q.2) []=(ns.map aA).zip ts':=a2
  rw [a1']
  have sm:aD H (upd H l (.dK (ns.zip us))):=bj hl
  refine k _ _ (l :: Fs'.flatten) sm (by rw [a2'];exact .dct ar a3 (a4.same sm)) ?_
  rw [a5]
  exact Fp.new (A.same.free hl) (by simp) Fp.nil
 ·cases e
theorem rJ:bootBuiltins ("dict" : Str)=some (.type "dict"):=by decide +kernel
theorem x9 (hm:X.mg "dict" = none) (ha:PVs G X [e] cs) (hg:Gl X "dict" := by rfl) (hc:X.calm=true:=by rfl) (he:starEach [e] X.env=(false,eval e X.env) :: starEach [] X.env:=by rfl):PV G X (.Call (.Name "dict" p) [e] [] pos) (eN j8 cs) :=
 iF (qE hc) vh hg hm rJ ha (he:=he) (hpl:=rfl)
@[simp] noncomputable def DS:Wk->Wj
 | [(_,.int i)]=>some (.fr,.int i)
 | [(_,.bl b)]=>some (.fr,.int (if b then 1 else 0))
 | _=>none
end
end VS
end
section
namespace L2
open PySem PySem.Spec PyProof.Rows
section
variable {X:Cx} {pins:Z7} {σ:St} {H:Hp} {s:Shared}
theorem oo {d:Addr} {kvs:List (Key×V)} {o:Obj} (I:Inv X pins σ H s) (e:H d=some (.dK kvs)) (g:s.heap.get? d=some o):Inv X pins σ (upd H d (.frz o (.dK kvs))) s :=
 jO (t':=s.toks) I (by rw [e];exact True.intro) ⟨rfl,fun _ _=>rfl⟩ ⟨o,g⟩ ⟨g,I.hok d _ e⟩
end
noncomputable def Itk (d:Addr) (o:Obj) (kvs:List (Key×V)):It :=
 ⟨fun i H=>H d=some (.frz o (.dK kvs))/\i < kvs.length,fun i H x H'=>H'=H/\∃ p,kvs[i]?=some p/\x=kV p.1,fun i H=>H d=some (.frz o (.dK kvs))/\kvs.length<=i⟩
theorem yd {k:Key} {v:Value} (h:ku k v=true):RelV (kV k) v:=by
 rcases bx h with ⟨i,t,rfl,rfl⟩ | ⟨x,t,rfl,rfl⟩
 ·exact ⟨t,rfl⟩
 ·exact ⟨t,rfl⟩
theorem nc {P:Program} {w:World} {es:List DictEntry} {m:List (Key×Value)} (r:Pairs (aM P w) es m) {i:Nat} {e:DictEntry} (h:es[i]?=some e):∃ q,m[i]?=some q/\ku q.1 e.key=true:=by
 induction r generalizing i with
 | nil=>simp at h
 | @cons e' kv es kvs h1 h2 _ ih =>
  cases i with
  | zero =>
   simp at h
   subst h
   exact ⟨kv,rfl,h1⟩
  | succ i=>simpa using ih (by simpa using h)
theorem BU {l:List (Key×V)} {m:List (Key×Value)} (r:KV l m) {i:Nat} {q:Key×Value} (h:m[i]?=some q):∃ p,l[i]?=some p/\p.1=q.1:=by
 induction r generalizing i with
 | nil=>simp at h
 | @cons p' q' ps qs hq t ih =>
  cases i with
  | zero=>simp at h;subst h;exact ⟨p',rfl,hq.1⟩
  | succ i=>simpa using ih (by simpa using h)
section
variable {X:Cx} {tg:Expr} {pos:Pos}
theorem Ao {P:Program} {w:World} {K:Y2} (d it:Addr) {kvs:List (Key×V)} {es:Array DictEntry} {ep:Nat} {xs:List (Key×Value)} (rel:KV kvs xs) (he:Pairs (aM P w) es.toList xs) :
  Turn P w K tg (Itk d (ST.dO es ep) kvs) [it] it (fun i h=>h.get? it=some (ST.kO d i es.size ep)) where
 mem:=by simp
 obj:=fun i h st b hb=>by
  rw [Zj.mp hb]
  exact ⟨_,st,fun v z=>by cases z⟩
 keep:=fun i h h' st k=>k it (by simp) _ st
 item:=by
  intro X hP hw hK hc i pins s σ H E I hf st hg
  subst hP hw hK
  obtain ⟨f0,f1,f2,f3,f4,f5⟩:=hf it (by simp)
  refine ST.pV (I.ok.hd hc) st (show s.heap.get? d=some (ST.dO es ep) from (I.hok d _ hg.1).1) (fun e hi h' sb g=>?_) fun hn=>?_
  ·have I1:Inv X pins σ H { s with heap:=h' }:=I.turned (t':=s.toks) (fun b o hb e=>(sb.2 b hb).trans e) f0 f1 f3 f4 f5
   rw [← Yj] at hi
   obtain ⟨q,hq,hk⟩:=nc he hi
   obtain ⟨p,hp,hb⟩:=BU rel hq
   exact ⟨_,rfl,pZ (s:={ s with heap:=h' }) g rfl rfl rfl ⟨kV p.1,H,I1,by rw [hb];exact yd hk,⟨rfl,p,hp,rfl⟩,g,fun b hb=>(hf b hb).1⟩⟩
  ·exfalso
   rw [← Yj,Yc,he.length,← Y8 rel] at hn
   exact absurd hg.2 (by lia)
 done:=by
  intro X hP hw hK hc i pins s σ H E I hf st hg
  subst hP hw hK
  obtain ⟨f0,f1,f2,f3,f4,f5⟩:=hf it (by simp)
  refine ST.pV (I.ok.hd hc) st (show s.heap.get? d=some (ST.dO es ep) from (I.hok d _ hg.1).1) (fun e hi h' sb g=>?_) fun hn h' kp=>⟨rfl,I.turned (t':=s.toks) (fun b o hb e=>kp b o hb e) f0 f1 f3 f4 f5⟩
  exfalso
  rw [← Yj] at hi
  obtain ⟨q,hq,hk⟩:=nc he hi
  have:=(Zf.mp hq).1
  have h2:=hg.2
  rw [Y8 rel] at h2
  lia
 self:=fun _ _ _ _ _ st hQ=>wpAny_pyIter_slot ⟨_,st,rfl⟩ F.slot_dict_keyiterator_iter (Xj F.slot_dict_keyiterator_iter ⟨_,st,rfl⟩ F.entry_dict_keyiterator_iter (show wpAny _ _ (ret (.ref it)) _ _ _ from Za ⟨_,rfl, "dict_keyiterator",_,⟨_,st,rfl⟩,YE.lookup,hQ⟩) (F.args_dict_keyiterator_iter_1 _))
noncomputable def iDk (tl:TE):TI:=fun σ H R=>tl σ H fun x H1=>∃ d kvs,x=.ref d/\H1 d=some (.dK kvs)/\∀ o,R (Itk d o kvs) (upd H1 d (.frz o (.dK kvs)))
theorem CY {l:Expr} {tl:TE} (hl:PE X l tl):PI X tg l (iDk tl):=by
 intro pins s σ H R I h
 refine thn (hl pins s σ H _ I h) fun v s1 ⟨x,H1,I1,r1,q1⟩=>?_
 obtain ⟨d,kvs,ex,e,q⟩:=q1
 subst ex
 cases r1
 obtain ⟨z,y,xs,rel,o,es,ep,g,ex,hd,_,he,hn⟩:=mO I1.hok e
 have eo:=vT ex hd
 subst eo
 refine ST.vE y g ?_
 refine ⟨s1.heap.objs.size,[s1.heap.objs.size],_,_,_,rfl,(oo I1 e g).kept (t':=s1.toks) fun b o e=>Zi _ e,Ao d _ rel he,ZP _ rfl,fun b hb=>?_,q _⟩
 have eb:b=s1.heap.objs.size:=by simpa using hb
 subst eb
 exact (oo I1 e g).fpOk (Zg _) ((oo I1 e g).hok.fresh (Zg _))
end
end L2
end
section
namespace L2
open PySem PySem.Spec PyProof.Rows
noncomputable def pick {α:Type} (l:List α) (is:Wq):List α:=is.filterMap (l[·]?)
noncomputable def uC {α:Type} (l:List α) (lo hi st:Option Int):List α:=pick l (sliceRange (sliceBounds lo hi st l.length).1 (sliceBounds lo hi st l.length).2.1 (sliceBounds lo hi st l.length).2.2)
theorem xF {α:Type} (l:List α) (is:Wq) {x:α} (h:x∈pick l is):x∈l:=by
 obtain ⟨i,_,e⟩:=XA.mp h
 exact Yn e
theorem xu {α β:Type} (f:α->β) (l:List α) (is:Wq):pick (l.map f) is=(pick l is).map f:=by
 unfold pick
 rw [List.map_filterMap]
 congr 1
 funext i
 rw [ZQ]
theorem vg {α β:Type} (f:α->β) (l:List α) (lo hi st:Option Int):uC (l.map f) lo hi st=(uC l lo hi st).map f:=by
 unfold uC
 rw [Zv,xu]
theorem wZ {α:Type} (l:List α) (lo hi st:Option Int):(uC l lo hi st).length<=l.length:=by
 have h:=slicePick_size_le (l.map fun _=>Value.none).toArray lo hi st
 have e:(slicePick (l.map fun _=>Value.none).toArray lo hi st).size=(uC (l.map fun _=>Value.none) lo hi st).length:=by
  unfold slicePick uC pick
  simp only [ZY,XO]
 rw [e,vg,Zv,ZY,Zv] at h
 exact h
section
variable {X:Cx} {e st:Expr} {lo hi:Option Expr} {te:TE} {tl th ts:TO} {pos p2:Pos}
noncomputable def C5 (X:Cx) (r:V->Option Int->Option Int->Option Int->Hp->VK->Prop):Prop :=
 ∀ (pins:Z7) (s:Shared) (σ:St) (H:Hp) (x:V) (v vl vu vs:Value) (lo hi st:Option Int) (sl:Addr) (Q:VK),Inv X pins σ H s->RelV x v->s.heap.IsSliceOf sl vl vu vs->IsPart vl lo->IsPart vu hi->IsPart vs st->r x lo hi st H Q →
  ∃ T id,typeLookup (.type T) "__getitem__" = pure (some (.builtin id))/\s.TypeIs v T/\wpAny (model X.prog X.w) X.A (getItem v (.ref sl)) (EP X pins σ Q) X.xe s
noncomputable def Dq (r:V->Option Int->Option Int->Option Int->Hp->VK->Prop) (te:TE) (tl th ts:TO):TE:=fun σ H Q=>te σ H fun x H1=>tl σ H1 fun l H2=>th σ H2 fun u H3=>ts σ H3 fun c H4=>r x l u c H4 Q
theorem uu {r:V->Option Int->Option Int->Option Int->Hp->VK->Prop} (hr:C5 X r) (he:PE X e te) (hl:PO X lo tl) (hu:PO X hi th) (hs:PO X (some st) ts):PE X (.Subscript e (.Slice lo hi (some st) p2) pos) (Dq r te tl th ts):=by
 intro pins s σ H Q I h
 refine Subscript_ (thn (he pins s σ H _ I h) fun v s1 ⟨x,H1,I1,r1,q1⟩=>?_)
 refine wpAny_Slice (thn (hl pins s1 σ H1 _ I1 q1) fun vl s2 ⟨l,H2,I2,pl,q2⟩=>thn (hu pins s2 σ H2 _ I2 q2) fun vu s3 ⟨u,H3,I3,pu,q3⟩=>thn (hs pins s3 σ H3 _ I3 q3) fun vs s4 ⟨c,H4,I4,ps,q4⟩=>?_)
 have I5:Inv X pins σ H4 { s4 with heap:=s4.heap.push { cls:=.type "slice",data:=.fields #[vl,vu,vs] } }:=I4.kept (t':=s4.toks) fun b ob q=>Zi _ q
 obtain ⟨T,id,hT,ht,hg⟩:=hr pins { s4 with heap:=s4.heap.push { cls:=.type "slice",data:=.fields #[vl,vu,vs] } } σ H4 x v vl vu vs l u c s4.heap.objs.size Q I5 r1 (Heap.IsSliceOf.new ..) pl pu ps q4
 show wpAny (model X.prog X.w) X.A (subscriptTail e (.Slice lo hi (some st) p2) v (.ref s4.heap.objs.size)) (EP X pins σ Q) X.xe { s4 with heap:=s4.heap.push { cls:=.type "slice",data:=.fields #[vl,vu,vs] } }
 exact tail_any (ops:=[v,.ref s4.heap.objs.size]) ht hT hg (by with_unfolding_all rfl)
end
end L2
end
section
namespace L2
theorem AS {α:Type} {n:Nat} {us:List α} (hl:us.length=n+1):∃ a t,us=a :: t/\t.length=n:=by
 obtain ⟨a,t,e⟩:=List.exists_cons_of_length_eq_add_one hl
 subst e
 exact ⟨a,t,rfl,Nat.succ.inj hl⟩
theorem rh {α:Type} {us:List α} (hl:us.length=1):∃ a,us=[a]:=List.length_eq_one_iff.mp hl
theorem eQ {α:Type} {us:List α} (hl:us.length=2):∃ a b,us=[a,b]:=by
 obtain ⟨a,t,rfl,ht⟩:=AS hl
 obtain ⟨b,rfl⟩:=rh ht
 exact ⟨a,b,rfl⟩
theorem ur {α:Type} {us:List α} (hl:us.length=3):∃ a b c,us=[a,b,c]:=by
 obtain ⟨a,t,rfl,ht⟩:=AS hl
 obtain ⟨b,c,rfl⟩:=eQ ht
 exact ⟨a,b,c,rfl⟩
theorem DI {α:Type} {us:List α} (hl:us.length=4):∃ a b c d,us=[a,b,c,d]:=by
 obtain ⟨a,t,rfl,ht⟩:=AS hl
 obtain ⟨b,c,d,rfl⟩:=ur ht
 exact ⟨a,b,c,d,rfl⟩
end L2
end
section
namespace VS
open PySem PySem.Spec PyProof.Rows L2
inductive Res where | ok (v:Val) | ex (x:Str)
inductive OutX where | ok (o:Out) | ex (x:Str) (η:VS.Env)
noncomputable abbrev ExX:=VS.Env->Option Res
noncomputable abbrev SxX:=VS.Env->Option OutX
end VS
end
section
namespace TS
open PySem PySem.Spec PyProof.Rows
variable {prog:Program} {w:World} {A:Around} {E:Z0} {s:Shared}
theorem uN {us:Wx} (hv:∀ v∈us,∃ x t,v=Value.str x t) {xs:Array Keyed} (hp:xs.Perm (pairsOf us)) (hs:SortedToK strKind xs (pairsOf us).size):((xs.map (·.2)).toList.map strOf).Pairwise (fun a b=>¬ b.cps.toList < a.cps.toList):=by
 obtain ⟨p1,p2⟩:=ng hp
 rw [X8,List.pairwise_iff_getElem]
 intro i j hi hj hij
 have key:∀ i (h:i < (xs.map (·.2)).toList.length),KK strKind xs i=(strOf (xs.map (·.2)).toList[i]).cps.toList:=fun i h=>by
  have e:xs[i]?=some ((xs.map (·.2)).toList[i],(xs.map (·.2)).toList[i]):=by
   rw [← Yj,← p2,ZQ,Zr h]
   rfl
  obtain ⟨x,t,ex⟩:=hv _ (p1.mem_iff.mp (Z4 h))
  unfold KK
  rw [e]
  rw [ex]
  rfl
 have q:=hs i j (X5 hij) (by rw [← hp.size_eq];simpa using hj)
 rw [key i hi,key j hj] at q
 exact of_decide_eq_false q
theorem oy {x:Value} {Q:Z0}
  (hcol:∀ (A':Around) (E':Z0),A'.handled=A.handled->wpAny (model prog w) A' (collect x) (fun us s1=>(∀ v∈us,∃ x t,v=Value.str x t)/\us.length < 64/\∀ (out:Wx) (h':Heap) (e:Nat),out.Perm us->(out.map strOf).Pairwise (fun a b=>¬ b.cps.toList < a.cps.toList)->(∀ b o,s1.heap.get? b=some o->h'.get? b=some o)->h'.get? s1.heap.objs.size=some (seqObj "list" out.toArray e)->Q (.ref s1.heap.objs.size) { s1 with heap:=h' }) E' s) :
  wpAny (model prog w) A (call (.builtin "sorted") [x]) Q E s:=by
 refine Calls.call_function_entry kind_sorted plain_sorted entry_sorted (args_sorted1 _) (show wpAny _ _ (Builtin.«sorted» _) _ _ _ from ?_)
 unfold Builtin.«sorted»
 refine Zp (m:=checkCount "sorted" 1 1 _) (Za (Zp (YG (hcol A.in1 (fun _ _=>False) rfl) ?_ fun _ _ e=>e.elim)))
 rintro vs s1 ⟨hv,h64,h⟩
 refine Zp (wpAny_newList ?_ (by show vs.length<=sizeLine;rw [Xy];omega))
 have hoL:(s1.heap.push (seqObj "list" vs.toArray 0)).get? s1.heap.objs.size=some (seqObj "list" vs.toArray 0):=ZP _ rfl
 show wpAny _ _ _ _ _ { s1 with heap:=s1.heap.push (seqObj "list" vs.toArray 0) }
 refine Zp (YD (Xj slot_list_sort ⟨_,hoL,rfl⟩ entry_list_sort (list_sort_treeK strKind_oneLt hoL (strsAre_map _ hv).keysOf (fun v₁ v₂ rest e=>keyKind_strs (by rw [← e];exact strsAre_map _ hv)) h64 fun st' a1 a2=>⟨_,rfl,?_⟩) (args_list_sort _)))
 obtain ⟨e,he⟩:=sortedHeap_at (out:=(arrOf st').map (·.2)) hoL
 exact Za ⟨_,rfl,h ((arrOf st').map (·.2)).toList _ e (ng a1).1 (uN hv a1 a2) (fun b o eb=>by
  have hb:=ZS eb
  show (sortedHeap (s1.heap.push (seqObj "list" vs.toArray 0)) s1.heap.objs.size vs ((arrOf st').map (·.2))).get? b=some o
  rw [sortedHeap_old (ZZ hb) (by rw [size_push'];exact Nat.lt_succ_of_lt hb),Heap.get?_push_ne _ _ _ (ZZ hb)]
  exact eb) he⟩
end TS
namespace L2
open PySem PySem.Spec PyProof.Rows TS
section
variable {X:Cx}
theorem jg (hc:X.calm=true):dP X (.builtin "sorted") (fun xs H Q=>∃ p,∃ (ss:List Str) (vs:List V),xs=[.ref p]/\ss.length < 64/\ss.length=vs.length/\H p=some (.dK ((ss.map Sum.inr).zip vs)) ∧
  ∀ (l:Addr) (ss':List Str),H l=none->ss'.Perm ss->ss'.Pairwise (fun a b=>¬ b.cps.toList < a.cps.toList)->Q (.ref l) (upd H l (.lst (ss'.map V.str)))):=by
 intro pins s σ H xs us Q I rx h
 obtain ⟨p,ss,vs,rfl,h64,hl,hq,q⟩:=h
 obtain ⟨u,rfl,ru⟩:=rx.one
 cases ru
 obtain ⟨hz,hS,kvs,rel,dd⟩:=mO I.hok hq
 obtain ⟨ep,dd⟩:=dd.dictAt
 have hkl:kvs.length=ss.length:=by
  have:=rel.length
  rw [ZA,Zv] at this
  lia
 have hky:∀ i:Nat,(kvs[i]?).map (fun x=>x.1)=(ss[i]?).map (Sum.inr:Str->Key):=fun i=>by
  have h1:((kvs.map (·.1)))[i]?=(ss.map (Sum.inr:Str->Key))[i]?:=by
   rw [← rel.keys]
   rw [Wr (by rw [Zv];exact X6 hl)]
  rw [ZQ,ZQ] at h1
  exact h1
 refine TS.oy fun A' E' hA=>PySem.W.kdu_collect (PySem.W.kdl_dict hS) (hA.trans (I.ok.hd hc)) dd (by rw [ZA,Zv] at hz;lia) fun h' tk acc kp hacc=>?_
 have I1:Inv X pins σ H { s with heap:=h',toks:=tk }:=I.kept kp
 have hal:acc.toList.length=ss.length:=by rw [YV,hacc.1,hkl]
 have each:∀ i v,acc.toList[i]?=some v->∃ x t,v=Value.str x t/\ss[i]?=some x:=fun i v hv=>by
  rw [Yj] at hv
  obtain ⟨k,x,e1,e2⟩:=hacc.2 i v hv
  have e3:=hky i
  rw [e1] at e3
  cases e4:ss[i]? with
  | none=>rw [e4] at e3;cases e3
  | some y =>
   rw [e4] at e3
   have e5:k=Sum.inr y:=Zk e3
   subst e5
   obtain ⟨t,rfl⟩:=Value.isStrOf_shape (show Value.isStrOf y v=true from e2)
   exact ⟨y,t,rfl,e4⟩
 have hv:∀ v∈acc.toList,∃ x t,v=Value.str x t:=fun v hm=>by
  obtain ⟨i,hi,e⟩:=List.getElem_of_mem hm
  obtain ⟨x,t,e1,_⟩:=each i v (by rw [Zr hi,e])
  exact ⟨x,t,e1⟩
 have es:acc.toList.map strOf=ss:=by
  apply List.ext_getElem?
  intro i
  rw [ZQ]
  cases e:acc.toList[i]? with
  | none =>
   have:acc.toList.length<=i:=Yc.mp e
   rw [Yc.mpr (by lia)]
   rfl
  | some v =>
   obtain ⟨x,t,rfl,e1⟩:=each i v e
   rw [e1]
   rfl
 refine ⟨hv,by omega,fun out h2 e o1 o2 kp2 he=>?_⟩
 have hv':∀ v∈out,∃ x t,v=Value.str x t:=fun v hm=>hv v (o1.mem_iff.mp hm)
 have hz2:((out.map strOf).map V.str).length<=sizeLine:=by rw [Zv,Zv,o1.length_eq,hal,Xy];omega
 exact ⟨.ref h'.objs.size,_,I1.laid (t':=tk) kp2 (Zg _) (show bF X.prog X.w _ h2 _ (.lst ((out.map strOf).map V.str)) from ⟨hz2,out,e,qm hv',he⟩),rfl,q _ _ (I1.hok.fresh (Zg _)) (by rw [← es];exact o1.map _) o2⟩
end
end L2
namespace VS
open PySem PySem.Spec PyProof.Rows L2
section
variable {G:Gx} {X:Cx} {e:Expr} {cs:Exs} {p pos:Pos}
noncomputable def fR:Wk->Wj
 | [(_,.dct 0 l)]=>(strs? (l.map (·.1))).bind fun ss=>if ss.length < 64/\ss.all txB=true then some (.fr,.lst ((dZ ss).map .str)) else none
 | _=>none
theorem vV:fT G (fun xs H Q=>∃ p,∃ (ss:List Str) (vs:List V),xs=[.ref p]/\ss.length < 64/\ss.length=vs.length/\H p=some (.dK ((ss.map Sum.inr).zip vs)) ∧
  ∀ (l:Addr) (ss':List Str),H l=none->ss'.Perm ss->ss'.Pairwise (fun a b=>¬ b.cps.toList < a.cps.toList)->Q (.ref l) (upd H l (.lst (ss'.map V.str)))) fR:=by
 intro Φ η H0 H l vs Fs m t Q A e k
 unfold fR at e
 split at e
 ·rename_i mx x
  obtain ⟨ss,e1,e2⟩:=Zz.mp e
  split at e2
  ·rename_i hb
   cases e2
   obtain ⟨v,F,rfl,rfl,rx⟩:=(show RpL G H vs [.dct 0 x] Fs from A.rp).one
   obtain ⟨a,ks,ys,ts,Gs,rfl,rfl,ha,hl,rfl,ra⟩:=cV rx
   have hl2:ks.length=ts.length:=by rw [hl,ra.len.1]
   have e3:((ks.map aA).zip ts).map (·.1)=ks.map aA:=Wr (by rw [Zv];exact X6 hl2)
   rw [e3] at e1
   have e4:=keys_str e1
   refine ⟨a,ss.map sx,ys,rfl,by rw [Zv];exact hb.1,?_,by rw [← e4];exact ha,xB k A.same fun s hs=>BF (Yx.mp hb.2 s hs)⟩
   rw [← hl,e4,Zv,Zv,Zv]
  ·cases e2
 ·cases e
theorem sL (hm:X.mg "sorted" = none) (ha:PVs G X [e] cs) (hg:Gl X "sorted" := by rfl) (hK:X.K=G.K:=by rfl) (hc:X.calm=true:=by rfl) (he:starEach [e] X.env=(false,eval e X.env) :: starEach [] X.env:=by rfl):PV G X (.Call (.Name "sorted" p) [e] [] pos) (eN fR cs) :=
 p6 (jg hc) vV hg hm uI ha (he:=he) (hpl:=rfl)
end
@[simp] noncomputable def isT:T->Bool
 | .bl true=>true
 | _=>false
mutual
@[simp] noncomputable def fE:T->Bool
 | .tup l=>aY l
 | .lst l=>aY l
 | .dct _ l=>mL l
 | .obj _ l=>fP l
 | _=>true
@[simp] noncomputable def aY:Wi->Bool
 | []=>true
 | t :: r=>fE t && aY r
@[simp] noncomputable def mL:List (T×T)->Bool
 | []=>true
 | (_,v) :: r=>fE v && mL r
@[simp] noncomputable def fP:List (Nat×T)->Bool
 | []=>true
 | (n,v) :: r=>(fE v && !(n == 0 && isT v)) && fP r
end
theorem gf:∀ {ks:Wi} {ts:Wi},ks.length=ts.length->mL (ks.zip ts)=true->aY ts=true
 | [],[],_,_=>rfl
 | _ :: _,[],h,_=>by simp at h
 | [],_ :: _,h,_=>by simp at h
 | k :: ks,t :: ts,h,e=>by
  rw [Zc,mL,Zb] at e
  rw [aY,Zb]
  exact ⟨e.1,gf (by simpa using h) e.2⟩
theorem fZ:∀ {ks:Wq} {ts:Wi},ks.length=ts.length->fP (ks.zip ts)=true->aY ts=true
 | [],[],_,_=>rfl
 | _ :: _,[],h,_=>by simp at h
 | [],_ :: _,h,_=>by simp at h
 | k :: ks,t :: ts,h,e=>by
  rw [Zc,fP,Zb,Zb] at e
  rw [aY,Zb]
  exact ⟨e.1.1,fZ (by simpa using h) e.2⟩
section
variable {G:Gx} {H:Hp}
theorem Rp.at {v:V} {t:T} {F:X0} (m:Me) (r:Rp G H v t F):fE t=true->Rp (G.at m) H v t F :=
 Rp.rec (G:=G) (H:=H) (motive_1:=fun v t F _=>fE t=true->Rp (G.at m) H v t F) (motive_2:=fun vs ts Fs _=>aY ts=true->RpL (G.at m) H vs ts Fs)
  (fun _=>.non) (fun b _=>.bl b) (fun i _=>.int i) (fun s h _=>.str s h) (fun h _=>.scr h) (fun h _ ih f=>.tup h (ih (by simpa using f))) (fun h _ ih f=>.lst h (ih (by simpa using f)))
  (fun h l q ih f=>.dct h l (ih (gf (by rw [Zv,l];exact q.len.1) (by simpa using f)))) (fun h l q ih f=>.dctT h l (ih (gf (by rw [Zv,l];exact q.len.1) (by simpa using f))))
  (fun h l n q ih f=>.dctN h l n (ih (gf (by rw [Zv,l];exact q.len.1) (by simpa using f)))) (fun h l q ih f=>.dctZ h l (ih (gf (by rw [Zv,l];exact q.len.1) (by simpa using f)))) (fun h hc _=>.exc h hc)
  (fun {c a dx b ks vs ts Fs} h l mm q ih f=>by
   rw [fE,fP,Zb] at f
   have hb:b=false:=by
    cases b with
    | false=>rfl
    | true=>simp at f
   refine .ins h l (fun z=>?_) (ih (fZ (by rw [l];exact q.len.1) f.2))
   rw [hb] at z
   cases z)
  (fun _ _ _ f=>by simp [fE,fP,isT] at f)
  (fun _=>.nil) (fun _ _ i1 i2 f=>by
   rw [aY,Zb] at f
   exact .cons (i1 f.1) (i2 f.2)) r
theorem RpL.at (m:Me):∀ {vs:List V} {ts:Wi} {Fs:Y1},RpL G H vs ts Fs->aY ts=true->RpL (G.at m) H vs ts Fs
 | _,_,_,.nil,_=>.nil
 | _,_,_,.cons r q,f=>by
  rw [aY,Zb] at f
  exact .cons (r.at m f.1) (RpL.at m q f.2)
mutual
theorem lT:∀ t:T,imm t=true->fE t=true
 | .non,_=>rfl
 | .bl _,_=>rfl
 | .int _,_=>rfl
 | .str _,_=>rfl
 | .scr _,_=>rfl
 | .tup l,h=>by
  rw [fE]
  exact rM l (by simpa using h)
 | .lst _,h=>by simp at h
 | .dct _ _,h=>by simp at h
 | .obj _ _,h=>by simp at h
theorem rM:∀ l:Wi,dv l=true->aY l=true
 | [],_=>rfl
 | t :: l,h=>by
  rw [dv,Zb] at h
  rw [aY,Zb]
  exact ⟨lT t h.1,rM l h.2⟩
end
end
noncomputable def tQ (k:Nat):T->Option T
 | .obj (_+1) (_ :: fs)=>(fs.findIdx? fun p=>p.1 == k).bind fun i=>(fs[i]?).map (·.2)
 | _=>none
noncomputable def bq (k:Nat) (a:Ex):Ex:=fun η=>(a η).bind fun x=>(tQ k x.2).map fun t=>sub x.1 t
section
variable {G:Gx} {X:Cx} {a e o:Expr} {ca ce:Ex} {k i:Nat} {f x:Str} {pos pos' p1:Pos}
theorem w_fld (J:jt G) (F:FldOk G X.K k f) (ha:PV G X a ca) (hb:attributeBase a f X.env (eval a X.env)=eval a X.env):PV G X (.Attribute a f pos) (bq k ca) :=
 PE.weak (u9 ha hb) fun σ H Q hq=>by
  obtain ⟨Φ,η,m,t,s,e,kq⟩:=hq
  unfold bq at e
  obtain ⟨⟨mx,y⟩,ea,e1⟩:=Zz.mp e
  obtain ⟨z,ez,e2⟩:=Zw.mp e1
  refine ⟨Φ,η,mx,y,s,ea,fun v H' F' sm r1 f1=>?_⟩
  unfold tQ at ez
  split at ez
  ·rename_i c q0 fs hy
   dsimp only at hy
   subst hy
   obtain ⟨j,h1,e3⟩:=Zz.mp ez
   obtain ⟨p,h2,e4⟩:=Zw.mp e3
   subst e4
   obtain ⟨c',a,dx,b,ns,vs,ts,Fs,ec,rfl,rfl,rfl,rfl,hA,hl,hb,ra⟩:=fM r1
   cases ec
   have lts:ns.length=ts.length:=hl.trans ra.len.1
   obtain ⟨k0,x0,g1,g2,g3,g4⟩:=g8 (fun n=>n == k) lts h1
   have ek:k0=k:=by simpa using g3
   subst ek
   have ep:p=(k0,x0):=by
    have:(ns.zip ts)[j]?=some (k0,x0):=by rw [Yq];exact ⟨g1,g2⟩
    rw [this] at h2;exact (Zk h2).symm
   subst ep
   obtain ⟨u,Fi,u1,u2,u3⟩:=ra.get j g2
   have hlk:=oR (G:=G) (c:=c+1) J hl h1 g1 u1
   rw [F.nm c] at hlk
   refine ⟨a,_,dx,_,u,rfl,hA,F.cl c,F.no c,hlk,?_⟩
   have fp:=((f1.sub (Yv _ _)).sub (bK u2)).up u3
   unfold VS.sub at e2
   rw [e2] at fp
   have et:x0=t:=congrArg Prod.snd e2
   rw [et] at u3
   exact kq u H' Fi sm u3 fp
  ·cases ez
noncomputable def oZ (i k:Nat) (e:Ex) (η:VS.Env):Option Out:=(e η).bind fun v=>match η[i]? with
 | some (some (.ow (.obj (c+1) (q :: fs))))=>(fit v).bind fun t=>if fs.length < 900/\(fs.all fun p=>!(p.1 == k))=true then some (.nx (η.set i (some (.ow (.obj (c+1) (q :: (fs++[(k,t)]))))))) else none
 | _=>none
theorem pb {g:Nat->Str} {k:Nat} {v:V} (J:∀ k k':Nat,g k=g k'->k=k'):∀ {ks:Wq} {vs:List V} {ts:Wi},ks.length=vs.length->ks.length=ts.length->((ks.zip ts).all fun p=>!(p.1 == k))=true->gY (g k) v ((ks.map g).zip vs)=((ks++[k]).map g).zip (vs++[v])
 | [],[],_,_,_,_=>rfl
 | [],_ :: _,_,h,_,_=>by simp at h
 | _ :: _,[],_,h,_,_=>by simp at h
 | _ :: _,_ :: _,[],_,h,_=>by simp at h
 | k0 :: ks,v0 :: vs,t0 :: ts,h1,h2,h3=>by
  rw [Zc,Xp,Zb] at h3
  have ne:g k0 ≠ g k:=fun z=>by
   have:=J _ _ z
   subst this
   simp at h3
  rw [Zl,Zc,gY,Zm ne,pb J (by simpa using h1) (by simpa using h2) h3.2]
  rfl
theorem rC (i k:Nat) (J:jt G) (F:FldOk G X.K k f) (he:PV G X e ce) (hN:X.N[i]?=some x) (hv:Vis X.env.scope x) (hd:(x == ("__debug__" : Str))=false) (hcd:(x == ("__classdict__" : Str))=false)
  (hs:swapsWith e (some (.Attribute (.Name x p1) f pos')) pos.line X.env=pure false):PSV G X (.Assign [.Attribute (.Name x p1) f pos'] e pos) (oZ i k ce) :=
 PS.weak (AX (dB hN hv hd hcd) he hs) fun D σ H hq=>by
  obtain ⟨Φ,η,out,s,e,kq⟩:=hq
  unfold oZ at e
  obtain ⟨⟨mv,tv⟩,ev,e⟩:=Zz.mp e
  split at e
  ·rename_i c q0 fs ht
   obtain ⟨t,et,e⟩:=Zz.mp e
   have em:=kI et
   cases em
   split at e
   ·rename_i hc
    cases e
    obtain ⟨v,g1,g2⟩:=s.rp _ _ ht
    refine ⟨Φ,η,.fr,tv,s,ev,fun y H1 Fy sm ry fy=>⟨v,g1,?_⟩⟩
    obtain ⟨c',a,dx,b,ns,vs,ts,Fs,ec,rfl,rfl,rfl,eF,hA,hl,hb,ra⟩:=fM g2
    cases ec
    have nd:=s.nd i _ ht
    rw [eF] at nd
    have nd':=Zh.mp nd
    have hA1:H1 a=some (.ins (G.ct (c+1)).1 dx ((ns.map (G.ct (c+1)).2).zip vs)):=sm a _ hA
    have m1:Mut (H1 a):=by rw [hA1];exact True.intro
    have lts:ns.length=ts.length:=hl.trans ra.len.1
    have na:a ∉ Fy:=fun z=>by rw [fy.2 a z] at hA;cases hA
    have ln:((ns.map (G.ct (c+1)).2).zip vs).length < 1000:=by
     have:=hc.1
     rw [ZA] at this ⊢
     rw [Zv]
     lia
    refine ⟨a,_,dx,_,rfl,hA1,F.cl c,F.no c,ln,?_⟩
    have ep:=pb (g:=(G.ct (c+1)).2) (k:=k) (v:=y) (J (c+1)) hl lts hc.2
    rw [F.nm c] at ep
    rw [ep]
    have off:∀ bb∈Fs.flatten,bb ∉ Fy:=fun bb hb hw=>Mut.ne_none (ra.dom bb hb) (fy.2 bb hw)
    have g:Chg G H (.ref a) (Φ i) (.obj (c+1) ((0,.bl b) :: (ns.zip ts++[(k,tv)]))) (upd H1 a (.ins (G.ct (c+1)).1 dx (((ns++[k]).map (G.ct (c+1)).2).zip (vs++[y])))) (a :: (Fs++[Fy]).flatten):=by
     rw [eF,show ns.zip ts++[(k,tv)]=(ns++[k]).zip (ts++[tv]) from by rw [Xn lts];rfl]
     refine Chg.upd sm Zx m1 (.ins ar (by simp [hl]) hb (((ra.same sm).off m1 nd'.1).append (.cons (ry.keep (Kept.upd (.inl m1)) fun bb hb o ho=>by rw [ax (fun z=>na (by rw [← z];exact hb))];exact ho) .nil))) ?_ ?_
     ·rw [Z8]
      refine Zh.mpr ⟨fun m=>?_,ZX.mpr ⟨nd'.2,by simpa using fy.1,fun b hb c hc z=>?_⟩⟩
      ·rcases Ze.mp m with m | m
       ·exact nd'.1 m
       ·exact na (by simpa using m)
      ·subst z;exact off b hb (by simpa using hc)
     ·intro bb hb
      rcases Zo.mp hb with rfl | hb
      ·exact .inl Zx
      ·rw [Z8] at hb
       rcases Ze.mp hb with hb | hb
       ·exact .inl (Zy _ hb)
       ·exact .inr (fy.2 bb (by simpa using hb))
    obtain ⟨z1,z2⟩:=s.mut ht g1 g
    exact kq _ σ _ z1 z2
   ·cases e
  ·cases e
end
noncomputable abbrev qQ:=List (Nat×T)
noncomputable def meA (a:Addr):Me:=fun k=>if k=0 then some (.ref a) else none
noncomputable abbrev Mt:=qQ->Wi->Option (qQ×T)
noncomputable def mvF:List Bool->Y1->X0
 | b :: bs,F :: Fs=>(if b then F else [])++mvF bs Fs
 | _,_=>[]
noncomputable def puF:List Bool->Y1->X0
 | b :: bs,F :: Fs=>(if b then [] else F)++puF bs Fs
 | _,_=>[]
theorem fQ:∀ {mv:List Bool} {Fs:Y1} {j:Nat} {F:X0},mv[j]?=some true->Fs[j]?=some F->F.Sublist (mvF mv Fs)
 | [],_,_,_,h,_=>by simp at h
 | _ :: _,[],_,_,_,h=>by simp at h
 | b :: bs,F0 :: Fs,0,F,h1,h2=>by
  simp at h1 h2
  subst h1 h2
  rw [mvF,Zq rfl]
  exact Xa _ _
 | b :: bs,F0 :: Fs,j+1,F,h1,h2=>by
  rw [mvF]
  exact (fQ (by simpa using h1) (by simpa using h2)).trans (Yd _ _)
theorem nA:∀ {mv:List Bool} {Fs:Y1} {j:Nat} {F:X0},mv[j]?=some false->Fs[j]?=some F->F.Sublist (puF mv Fs)
 | [],_,_,_,h,_=>by simp at h
 | _ :: _,[],_,_,_,h=>by simp at h
 | b :: bs,F0 :: Fs,0,F,h1,h2=>by
  simp at h1 h2
  subst h1 h2
  rw [puF]
  exact Xa _ _
 | b :: bs,F0 :: Fs,j+1,F,h1,h2=>by
  rw [puF]
  exact (nA (by simpa using h1) (by simpa using h2)).trans (Yd _ _)
theorem rQ:∀ {mv:List Bool} {Fs:Y1} {i j:Nat} {F F':X0},(mvF mv Fs).Nodup->mv[i]?=some true->mv[j]?=some true->Fs[i]?=some F->Fs[j]?=some F'->i ≠ j->∀ a∈F,a ∉ F'
 | [],_,_,_,_,_,_,h,_,_,_,_=>by simp at h
 | _ :: _,[],_,_,_,_,_,_,_,h,_,_=>by simp at h
 | b :: bs,F0 :: Fs,0,0,F,F',_,_,_,_,_,n=>absurd rfl n
 | b :: bs,F0 :: Fs,0,j+1,F,F',nd,h1,h2,h3,h4,n=>fun a ha ha'=>by
  simp at h1 h3
  subst h1 h3
  rw [mvF,Zq rfl,ZX] at nd
  exact nd.2.2 a ha a ((fQ (by simpa using h2) (by simpa using h4)).subset ha') rfl
 | b :: bs,F0 :: Fs,i+1,0,F,F',nd,h1,h2,h3,h4,n=>fun a ha ha'=>by
  simp at h2 h4
  subst h2 h4
  rw [mvF,Zq rfl,ZX] at nd
  exact nd.2.2 a ha' a ((fQ (by simpa using h1) (by simpa using h3)).subset ha) rfl
 | b :: bs,F0 :: Fs,i+1,j+1,F,F',nd,h1,h2,h3,h4,n=>by
  rw [mvF,ZX] at nd
  exact rQ nd.2.1 (by simpa using h1) (by simpa using h2) (by simpa using h3) (by simpa using h4) (by lia)
theorem tJ:∀ {mv:List Bool} {Fs:Y1} {a:Addr},a∈mvF mv Fs->∃ (j:Nat) (F:X0),mv[j]?=some true/\Fs[j]?=some F/\a∈F
 | [],_,_,h=>by simp [mvF] at h
 | _ :: _,[],_,h=>by simp [mvF] at h
 | b :: bs,F0 :: Fs,a,h=>by
  rw [mvF] at h
  rcases Ze.mp h with h | h
  ·cases b with
   | true=>exact ⟨0,F0,rfl,rfl,h⟩
   | false=>simp at h
  ·obtain ⟨j,F,h1,h2,h3⟩:=tJ h
   exact ⟨j+1,F,by simpa using h1,by simpa using h2,h3⟩
noncomputable def hJ (b:Bool) (t:T):Wm:=some (if b then .ow t else .pu t)
noncomputable def vb (c:Nat) (η:VS.Env):Option qQ:=match (η[(0:Nat)]?:Option (Wm)) with
 | some (some (.ow (.obj c' ((0,.bl true) :: fs))))=>if c'=c+1 then some fs else none
 | _=>none
noncomputable def mfn (c np nn:Nat) (mv:List Bool) (body:Sx):Mt:=fun fs ts=>if ts.length+1=np/\mv.length=ts.length then
 (body ((some (.ow (.obj (c+1) ((0,.bl true) :: fs))) :: List.zipWith hJ mv ts)++List.replicate (nn - np) none)).bind fun o=>match o with
  | .rt v η=>(vb c η).bind fun fs'=>if imm v.2 then some (fs',v.2) else none
  | .nx η=>(vb c η).map fun fs'=>(fs',.non)
  | _=>none else none
noncomputable def spM (G:Gx) (c:Nat) (mv:List Bool) (g:Mt):Sp:=fun vs H Q _=>∃ (a:Addr) (us:List V) (fs:qQ) (ts:Wi) (F:X0) (Fs:Y1) (fs':qQ) (x:T),vs=.ref a :: us/\Rp (G.at (meA a)) H (.ref a) (.obj (c+1) ((0,.bl true) :: fs)) F ∧
 RpL (G.at (meA a)) H us ts Fs/\mv.length=ts.length/\(F++mvF mv Fs).Nodup/\(∀ b∈F++mvF mv Fs,b ∉ puF mv Fs)/\g fs ts=some (fs',x) ∧
 ∀ u H' F',Chg (G.at (meA a)) H (.ref a) (F++mvF mv Fs) (.obj (c+1) ((0,.bl true) :: fs')) H' F'->Rp (G.at (meA a)) H' u x []->Q u H'
section
variable {G:Gx} {H:Hp}
theorem o8 {v:V} {us:List V} {t:T} {ts:Wi} {F:X0} {Fs:Y1} {mv:List Bool} (r0:Rp G H v t F) (r:RpL G H us ts Fs) (hm:mv.length=ts.length) (nd:(F++mvF mv Fs).Nodup) (sp:∀ b∈F++mvF mv Fs,b ∉ puF mv Fs) (n nv:Nat) (hn:nv=us.length+1) :
  SR G (fun i=>(F :: Fs).getD i []) ((some (.ow t) :: List.zipWith hJ mv ts)++List.replicate (n - (ts.length+1)) none) ((v :: us).map some++List.replicate (n - nv) none) H ∧
  ∀ a,bc (fun i=>(F :: Fs).getD i []) ((some (.ow t) :: List.zipWith hJ mv ts)++List.replicate (n - (ts.length+1)) none) a->a∈F++mvF mv Fs:=by
 subst hn
 have hl:=r.len
 have zl:(List.zipWith hJ mv ts).length=ts.length:=by rw [List.length_zipWith,hm,Nat.min_self]
 have back:∀ {i:Nat} {c:Cell},((some (Cell.ow t) :: List.zipWith hJ mv ts)++List.replicate (n - (ts.length+1)) none)[i]?=some (some c)->(i=0/\c=.ow t)\/∃ (j:Nat) (b:Bool) (u:T),i=j+1/\mv[j]?=some b/\ts[j]?=some u/\c=(if b then .ow u else .pu u):=fun {i c} h=>by
  cases i with
  | zero=>exact .inl ⟨rfl,(Zk (Zk h)).symm⟩
  | succ j =>
   rw [YQ,XW] at h
   by_cases hj:j < ts.length
   ·rw [ZD (by rw [zl];exact hj),List.getElem?_zipWith] at h
    have e1:mv[j]?=some mv[j]:=Zr (by rw [hm];exact hj)
    have e2:ts[j]?=some ts[j]:=Zr hj
    rw [e1,e2] at h
    exact .inr ⟨j,_,_,rfl,e1,e2,(Zk (Zk h)).symm⟩
   ·rw [Yy (by rw [zl];exact ZE hj),Yg] at h
    split at h <;> cases h
 have fp:∀ {j:Nat} {u:T},ts[j]?=some u->∃ w Fj,us[j]?=some w/\Fs[j]?=some Fj/\Rp G H w u Fj:=fun {j u} h=>r.get j h
 have ow:∀ {i:Nat} {u:T},((some (Cell.ow t) :: List.zipWith hJ mv ts)++List.replicate (n - (ts.length+1)) none)[i]?=some (some (.ow u))->i=0\/∃ j:Nat,i=j+1/\mv[j]?=some true/\ts[j]?=some u:=fun {i u} h=>by
  rcases back h with ⟨h1,h2⟩ | ⟨j,b,u',h1,h2,h3,h4⟩
  ·exact .inl h1
  ·cases b with
   | true=>cases h4;exact .inr ⟨j,h1,h2,h3⟩
   | false=>cases h4
 rw [ZX] at nd
 refine ⟨⟨?_,fun i c h=>?_,fun i u h=>?_,fun i j u c h1 h2 n=>?_⟩,fun a ⟨i,u,h1,h2⟩=>?_⟩
 ·simp [zl];lia
 ·rcases back h with ⟨rfl,rfl⟩ | ⟨j,b,u,rfl,h2,h3,h4⟩
  ·exact ⟨v,rfl,r0⟩
  ·obtain ⟨w,Fj,g1,g2,g3⟩:=fp h3
   refine ⟨w,?_,?_⟩
   ·rw [Zl,YQ,XW,ZD (by rw [Zv];exact (Zf.mp g1).1),ZQ,g1]
    rfl
   ·show Rp G H w (gR c) ((F :: Fs).getD (j+1) [])
    rw [YW,Zs,g2,h4]
    cases b <;> exact g3
 ·rcases ow h with rfl | ⟨j,rfl,h2,h3⟩
  ·exact nd.1
  ·obtain ⟨w,Fj,g1,g2,g3⟩:=fp h3
   show ((F :: Fs).getD (j+1) []).Nodup
   rw [YW,Zs,g2]
   exact nd.2.1.sublist (fQ h2 g2)
 ·rcases ow h1 with rfl | ⟨i',rfl,a2,a3⟩
  ·rcases back h2 with ⟨rfl,_⟩ | ⟨j',b,u',rfl,b2,b3,_⟩
   ·exact absurd rfl n
   ·obtain ⟨w,Fj,g1,g2,g3⟩:=fp b3
    intro a ha
    show a ∉ (F :: Fs).getD (j'+1) []
    rw [YW,Zs,g2]
    intro ha'
    cases b with
    | true=>exact nd.2.2 a ha a ((fQ b2 g2).subset ha') rfl
    | false=>exact sp a (Yw _ ha) ((nA b2 g2).subset ha')
  ·obtain ⟨w,Fi,g1,g2,g3⟩:=fp a3
   have ei:(F :: Fs).getD (i'+1) []=Fi:=by rw [YW,Zs,g2];rfl
   show ∀ a∈(F :: Fs).getD (i'+1) [],_
   rw [ei]
   rcases back h2 with ⟨rfl,_⟩ | ⟨j',b,u',rfl,b2,b3,_⟩
   ·exact fun a ha ha'=>nd.2.2 a ha' a ((fQ a2 g2).subset ha) rfl
   ·obtain ⟨w',Fj,k1,k2,k3⟩:=fp b3
    intro a ha
    show a ∉ (F :: Fs).getD (j'+1) []
    rw [YW,Zs,k2]
    intro ha'
    cases b with
    | true=>exact rQ nd.2.1 a2 b2 g2 k2 (fun z=>n (by rw [z])) a ha ha'
    | false=>exact sp a (ZW _ ((fQ a2 g2).subset ha)) ((nA b2 k2).subset ha')
 ·rcases ow h1 with rfl | ⟨j,rfl,h3,h4⟩
  ·exact Yw _ h2
  ·obtain ⟨w,Fj,g1,g2,g3⟩:=fp h4
   have h2':a∈(F :: Fs).getD (j+1) []:=h2
   rw [YW,Zs,g2] at h2'
   exact ZW _ ((fQ h3 g2).subset h2')
theorem we {c:Nat} {η:VS.Env} {fs:qQ} (h:vb c η=some fs):η[0]?=some (some (.ow (.obj (c+1) ((0,.bl true) :: fs)))):=by
 unfold vb at h
 split at h
 ·rename_i c' fs' e
  split at h
  ·rename_i hc
   cases h
   rw [e,hc]
  ·cases h
 ·cases h
end
section
variable {G:Gx} {P:Program} {w:World} {K:Y2} {mg:Xu} {base:Heap}
theorem Dj {qual:Str} {st:Stmt} {f:Addr} {fd:FuncData} {N ps:List Str} {k np nn c:Nat} {mv:List Bool} {body:Sx} (ok:∀ {sp:Sp},(∀ vs H Q E,sp vs H Q E->vs.length=ps.length)->(∀ (cdv:Value) (A:Around) (outer:List PySem.Env) (s:Shared) (H:Hp) (vs:List V) (Q:VK) (E:XK),Room k (A.deeper (envOfC qual (ai st) s.heap.objs.size f cdv))->sp vs H Q E →
   ∃ t,PSs (iI CX0 P w K mg base N qual (ai st) f cdv A outer s H E).nox (aW st) t/\t { nx:=fun _ H'=>Q .non H',rt:=Q } (L2.start N vs) H)->FnOk P w K mg base CX0 (k+1) f fd ps sp) (hp:ps.length=np) (hn:N.length=nn)
  (hb:∀ (a:Addr) (cdv:Value) (A:Around) (outer:List PySem.Env) (s:Shared) (H:Hp) (E:XK),Room k (A.deeper (envOfC qual (ai st) s.heap.objs.size f cdv))->fY (G.at (meA a)) (iI CX0 P w K mg base N qual (ai st) f cdv A outer s H E).nox (aW st) body) :
  FnOk P w K mg base CX0 (k+1) f fd ps (spM G c mv (mfn c np nn mv body)):=by
 refine ok (fun vs H Q E h=>?_) fun cdv A outer s H vs Q E hr h=>?_
 ·obtain ⟨a,us,fs,ts,F,Fs,fs',y,rfl,r0,r,hm,nd,sp,e,q⟩:=h
  unfold mfn at e
  split at e
  ·rename_i hl
   rw [Zn,r.len.1,hl.1,hp]
  ·cases e
 ·obtain ⟨a,us,fs,ts,F,Fs,fs',y,rfl,r0,r,hm,nd,sp,e,q⟩:=h
  refine ⟨_,hb a cdv A outer s H E hr,?_⟩
  unfold mfn at e
  split at e
  ·rename_i hl
   obtain ⟨o,e1,e2⟩:=Zz.mp e
   obtain ⟨s0,ow0⟩:=o8 r0 r hm nd sp nn (us.length+1) rfl
   rw [hl.1] at s0 ow0
   have e3:L2.start N (V.ref a :: us)=(V.ref a :: us).map some++List.replicate (nn - (us.length+1)) none:=by
    unfold L2.start
    rw [hn]
    rfl
   rw [e3]
   have fin:∀ {η':VS.Env} {Φ':Fps} {σ':L2.St} {H':Hp},vb c η'=some fs'->SR (G.at (meA a)) Φ' η' σ' H'->Frm (fun i=>(F :: Fs).getD i []) ((some (.ow (.obj (c+1) ((0,.bl true) :: fs))) :: List.zipWith hJ mv ts)++List.replicate (nn - np) none) H Φ' η' H' →
     Chg (G.at (meA a)) H (.ref a) (F++mvF mv Fs) (.obj (c+1) ((0,.bl true) :: fs')) H' (Φ' 0):=fun {η' Φ' σ' H'} hme s' fr=>by
    have h0:=we hme
    obtain ⟨v',g1,g2⟩:=s'.rp 0 _ h0
    have g2':Rp (G.at (meA a)) H' v' (.obj (c+1) ((0,.bl true) :: fs')) (Φ' 0):=g2
    obtain ⟨c',a',dx,b,ns,vs,ts',Fs',ec,rfl,eb,_,eF,hA,hl',hb',ra⟩:=fM g2'
    have hb1:b=true:=by cases eb;rfl
    have ea:some (V.ref a)=some (V.ref a'):=hb' hb1
    cases ea
    refine ⟨fr.kept,fun b' o' hb' ho=>(fr.keep b' o' ho fun z=>hb' (ow0 b' z)).1,fr.dom,g2',s'.nd 0 _ h0,fun b' hb'=>?_⟩
    rcases fr.ow b' ⟨0,_,h0,hb'⟩ with z | z
    ·exact .inl (ow0 b' z)
    ·exact .inr z
   refine ⟨_,_,o,s0,e1,?_⟩
   cases o with
   | nx η' =>
    obtain ⟨fs2,e4,e5⟩:=Zw.mp e2
    cases e5
    intro Φ' σ' H' s' fr
    exact q .non H' _ (fin e4 s' fr) .non
   | rt v η' =>
    obtain ⟨fs2,e4,e5⟩:=Zz.mp e2
    split at e5
    ·rename_i hi
     cases e5
     intro u H' F' Φ' σ' s' fr r' rf
     have:=r'.imm hi
     subst this
     exact q u H' _ (fin e4 s' fr) r'
    ·cases e5
   | bk η'=>cases e2
   | ct η'=>cases e2
  ·cases e
theorem fnM {x qual:Str} {st:Stmt} {f:Addr} {fd:FuncData} {N ps:List Str} {k np nn c:Nat} {mv:List Bool} {body:Sx} (F:Fun K x qual st f fd) (S:FnScope N ps (ai st)) (hp:ps.length=np) (hn:N.length=nn)
  (hb:∀ (a:Addr) (cdv:Value) (A:Around) (outer:List PySem.Env) (s:Shared) (H:Hp) (E:XK),Room k (A.deeper (envOfC qual (ai st) s.heap.objs.size f cdv))->fY (G.at (meA a)) (iI CX0 P w K mg base N qual (ai st) f cdv A outer s H E).nox (aW st) body) :
  FnOk P w K mg base CX0 (k+1) f fd ps (spM G c mv (mfn c np nn mv body)):=Dj (fun l b=>F.ok S l b) hp hn hb
end
noncomputable def argsOk:List Bool->Wk->Bool
 | [],[]=>true
 | b :: bs,v :: vs=>(if b then v.1 == .fr else imm v.2) && argsOk bs vs
 | _,_=>false
noncomputable def tm (c:Nat) (mv:List Bool) (g:Mt) (xs:Wk):T->Option (T×Val)
 | .obj c' ((0,.bl b) :: fs)=>if c'=c+1/\fP fs=true/\argsOk mv xs=true/\aY (trees xs)=true then (g fs (trees xs)).bind fun z=>if fP z.1=true/\imm z.2=true then some (.obj c' ((0,.bl b) :: z.1),(.fr,z.2)) else none else none
 | _=>none
noncomputable def bR (i:Nat) (way:List Stp) (c:Nat) (mv:List Bool) (g:Mt) (as:Exs) (η:VS.Env):Option (Val×VS.Env):=match (η[i]?:Option (Wm)) with
 | some (some (.ow t))=>(keys way η).bind fun ks=>(as η).bind fun xs=>(pm (tm c mv g xs) ks t).map fun z=>(z.2,η.set i (some (.ow z.1)))
 | _=>none
noncomputable def tX (G:Gx) (x:Xx):TE:=fun σ H Q=>∃ Φ η v η',SR G Φ η σ H/\x η=some (v,η')/\imm v.2=true/\∀ u H' Φ',SR G Φ' η' σ H'->Frm Φ η H Φ' η' H'->Rp G H' u v.2 []->Q u H'
noncomputable def PX (G:Gx) (X:Cx) (e:Expr) (x:Xx):Prop:=PE X e (tX G x)
theorem lC:∀ {mv:List Bool} {xs:Wk},argsOk mv xs=true->mv.length=xs.length
 | [],[],_=>rfl
 | [],_ :: _,h=>by simp [argsOk] at h
 | _ :: _,[],h=>by simp [argsOk] at h
 | b :: bs,v :: vs,h=>by
  rw [argsOk,Zb] at h
  rw [Zn,Zn,lC h.2]
theorem pE:∀ {mv:List Bool} {xs:Wk} {Fs:Y1},argsOk mv xs=true->(mvF mv Fs).Sublist (frs xs Fs)
 | [],[],_,_=>by simp [mvF]
 | [],_ :: _,_,h=>by simp [argsOk] at h
 | _ :: _,[],_,h=>by simp [argsOk] at h
 | b :: bs,v :: vs,[],h=>by simp [mvF]
 | b :: bs,(m,t) :: vs,F :: Fs,h=>by
  rw [argsOk,Zb] at h
  have ih:=pE (Fs:=Fs) h.2
  rw [mvF]
  cases b with
  | true =>
   have:m=.fr:=by simpa using h.1
   subst this
   exact List.Sublist.append (Y9 _) ih
  | false =>
   rw [Zm Zd,Xl]
   cases m with
   | fr=>exact ih.trans (Yd _ _)
   | pu=>exact ih
   | bo=>exact ih
theorem sY {G:Gx} {H:Hp}:∀ {mv:List Bool} {xs:Wk} {us:List V} {Fs:Y1},argsOk mv xs=true->RpL G H us (trees xs) Fs->puF mv Fs=[]
 | [],[],_,_,_,_=>by simp [puF]
 | [],_ :: _,_,_,h,_=>by simp [argsOk] at h
 | _ :: _,[],_,_,h,_=>by simp [argsOk] at h
 | b :: bs,(m,t) :: vs,_,_,h,r=>by
  rw [argsOk,Zb] at h
  cases r with
  | cons r0 q =>
   rw [puF,sY h.2 q,ZK]
   cases b with
   | true=>rfl
   | false=>exact r0.imm (by simpa using h.1)
theorem yu {Φ:Fps} {η:VS.Env} {H:Hp} {mv:List Bool} {xs:Wk} {Fs:Y1} (h:argsOk mv xs=true) (f:FpL Φ η H xs Fs):∀ a∈mvF mv Fs,H a=none:=fun a ha=>by
 obtain ⟨j,F,h1,h2,h3⟩:=tJ ha
 have key:∀ {mv:List Bool} {xs:Wk} {j:Nat},argsOk mv xs=true->mv[j]?=some true->∃ v,xs[j]?=some v/\v.1=.fr:=by
  intro mv
  induction mv with
  | nil=>intro xs j _ h;simp at h
  | cons b bs ih =>
   intro xs j h h1
   cases xs with
   | nil=>simp [argsOk] at h
   | cons v vs =>
    rw [argsOk,Zb] at h
    cases j with
    | zero =>
     simp at h1
     subst h1
     exact ⟨v,rfl,by simpa using h.1⟩
    | succ j =>
     obtain ⟨w,q1,q2⟩:=ih h.2 (by simpa using h1)
     exact ⟨w,by simpa using q1,q2⟩
 obtain ⟨v,q1,q2⟩:=key h h1
 have:=f.each j v F q1 h2
 rw [q2] at this
 exact this.2 a h3
section
variable {G:Gx} {X:Cx} {CX:CXT} {i c k k':Nat} {way:List Stp} {o e:Expr} {es:List Expr} {cs:Exs} {m:Str} {f:Addr} {fd:FuncData} {ps:List Str} {mv:List Bool} {g:Mt} {apos pos:Pos}
theorem xU {σ:L2.St} {H:Hp} {Q:VK} {E:XK} {t:TA} (J:jt G) (hn:∀ k,(G.ct (c+1)).2 k ≠ m) (ht:∀ Φ η xs σ H (R:List V->Hp->Prop),SR G Φ η σ H->cs η=some xs->(∀ vs H' Fs,aD H H'->RpL G H' vs (trees xs) Fs->FpL Φ η H xs Fs->R vs H')->t σ H R)
  (h:tX G (bR i way c mv g cs) σ H Q):sE (G.ct (c+1)).1 m (spM G c mv g) [] E (tPl G i way) t σ H Q:=by
 obtain ⟨Φ,η,v,η',s,e,him,kq⟩:=h
 unfold bR at e
 split at e
 ·rename_i t0 h0
  obtain ⟨ks,ek,e3⟩:=Zz.mp e
  obtain ⟨xs,el,e4⟩:=Zz.mp e3
  obtain ⟨⟨t',x2⟩,e5,e6⟩:=Zw.mp e4
  cases e6
  obtain ⟨v0,h1,h2⟩:=s.rp _ _ h0
  obtain ⟨w,x,F1,x3,w1,w2,w3,w4,w5⟩:=gB ks J h2 (s.nd i t0 h0) e5
  unfold tm at w4
  split at w4
  ·rename_i c1 b fs
   split at w4
   ·rename_i hc
    obtain ⟨rfl,hno,hao,han⟩:=hc
    obtain ⟨⟨fs',y⟩,eg,e7⟩:=Zz.mp w4
    split at e7
    ·rename_i hno'
     cases e7
     obtain ⟨c',a,dx,b',ns,vs,ts,Fs,ec,rfl,eb,rfl,eF,hA,hl,hb,ra⟩:=fM w2
     cases ec
     cases eb
     have lts:ns.length=ts.length:=hl.trans ra.len.1
     refine ⟨Φ,η,t0,ks,v0,.ref a,s,h0,h1,ek,w1,fun H1 sm=>⟨a,dx,_,rfl,sm a _ hA,?_,?_⟩⟩
     ·have key:∀ (ns:Wq) (vs:List V),((ns.map (G.ct (c+1)).2).zip vs).lookup m=none:=by
       intro ns
       induction ns with
       | nil=>intro vs;simp
       | cons n ns ih =>
        intro vs
        cases vs with
        | nil=>simp
        | cons v vs =>
         rw [Zl,Zc,Yr]
         have:(m == (G.ct (c+1)).2 n)=false:=by
          rw [ZO]
          exact fun z=>hn n z.symm
         rw [this]
         exact ih vs
      exact key ns vs
     ·refine ht Φ η xs σ H1 _ (s.same sm) el fun us H2 Gs sm2 rp2 fp2=>?_
      have sm3:aD H H2:=sm.trans sm2
      have fp0:FpL Φ η H xs Gs:=⟨fun n v' F' a1 a2=>(fp2.each n v' F' a1 a2).back sm,fp2.nd⟩
      have mvn:=yu hao fp0
      have ra2:RpL (G.at (meA a)) H2 vs ts Fs:=(ra.same sm3).at (meA a) (fZ lts hno)
      refine ⟨a,us,ns.zip ts,trees xs,F1,Gs,fs',y,by rw [ZK],?_,rp2.at (meA a) han,?_,?_,?_,eg,fun u H' F' gc ru=>?_⟩
      ·rw [eF]
       exact .ins (sm3 a _ hA) hl (fun _=>rfl) ra2
      ·rw [lC hao]
       simp [trees]
      ·refine ZX.mpr ⟨w3,fp2.nd.sublist (pE hao),fun b1 hb1 b2 hb2 z=>?_⟩
       subst z
       exact Mut.ne_none (w2.dom b1 hb1) (mvn b1 hb2)
      ·rw [sY hao rp2]
       exact fun b1 _ z=>nomatch z
      ·have back:Rp G H' (.ref a) (.obj (c+1) ((0,.bl b) :: fs')) F':=by
        obtain ⟨c2,a2,dx2,b2,ns2,vs2,ts2,Fs2,ec2,ea2,eb2,ef2,eF2,hA2,hl2,hb2,ra3⟩:=fM gc.rp
        cases ec2
        cases ea2
        subst ef2
        rw [eF2]
        exact .ins hA2 hl2 hb (ra3.at G.me (fZ (hl2.trans ra3.len.1) hno'.1))
       have gG:Chg G H (.ref a) F1 (.obj (c+1) ((0,.bl b) :: fs')) H' F':=⟨(Kept.of sm3).trans gc.kept,fun b1 o1 hb1 ho=>gc.keep b1 o1 (fun z=>(Ze.mp z).elim hb1 fun z=>by rw [mvn b1 z] at ho;cases ho) (sm3 b1 o1 ho),fun b1 h=>gc.dom b1 fun z=>h (sm3.free z),back,gc.nd,fun b1 hb1=>by
        rcases gc.sub b1 hb1 with z | z
        ·rcases Ze.mp z with z | z
         ·exact .inl z
         ·exact .inr (mvn b1 z)
        ·exact .inr (sm3.free z)⟩
       obtain ⟨F2,g2⟩:=w5 H' F' gG
       obtain ⟨z1,z2⟩:=s.mut h0 h1 g2
       exact kq u H' _ z1 z2 (ru.at G.me (lT y hno'.2))
    ·cases e7
   ·cases w4
  ·cases w4
 ·cases e
theorem zu {pl:Sem Bool} (J:jt G) (hn:∀ k,(G.ct (c+1)).2 k ≠ m) (ho:PPl G X o i way) (hc:Cls X.K (G.ct (c+1)).1) (hm:Meth X.K (G.ct (c+1)).1 m f) (F:FnOk X.prog X.w X.K X.mg X.base CX0 k f fd ps (spM G c mv g)) (hr:Room k' X.A) (hk:k<=k') (hb:Binds X.K fd ps []) (ha:PVs G X (e :: es) cs)
  (hst:starEach (e :: es) X.env=(false,eval e X.env) :: starEach es X.env) (hpl:(backTo pos (starEach es X.env)).any (·.1)=false)
  (ht:eval (.Call (.Attribute o m apos) (e :: es) [] pos) X.env=(do
   let ov ← eval o X.env
   standAt apos.atName
   let (f,first) ← holding [ov] (getMethod ov m pl)
   callWith pos f first (backTo pos (starEach (e :: es) X.env)) (backToKw pos (keywordEach [] X.env)))):PX G X (.Call (.Attribute o m apos) (e :: es) [] pos) (bR i way c mv g cs) :=
 PE.weak (rL (E:=E0) ho hc hm F (hr.mono hk) hb .nil m8 ha hst hpl ht) fun σ H Q h=>xU (t:=tEs G cs) J hn (fun Φ η xs σ H R s e k=>⟨Φ,η,xs,s,e,k⟩) h
noncomputable def sXM (x:Xx):Sx:=fun η=>(x η).bind fun z=>if imm z.1.2 then some (.nx z.2) else none
noncomputable def cz (j:Nat) (x:Xx):Sx:=fun η=>(x η).bind fun z=>if imm z.1.2=true/\j < z.2.length then some (.nx (z.2.set j (some (.pu z.1.2)))) else none
noncomputable def ju (x:Xx):Sx:=fun η=>(x η).bind fun z=>if imm z.1.2 then some (.rt (.fr,z.1.2) z.2) else none
variable {x:Xx}
theorem pH (h:PX G X e x) (hsw:swapsWith e none pos.line X.env=pure false):PSV G X (.Expr e pos) (sXM x) :=
 PS.weak (iy h hsw) fun D σ H hq=>by
  obtain ⟨Φ,η,out,s,e,k⟩:=hq
  unfold sXM at e
  obtain ⟨⟨v,η'⟩,e1,e2⟩:=Zz.mp e
  split at e2
  ·rename_i hi
   cases e2
   exact ⟨Φ,η,v,η',s,e1,hi,fun u H' Φ' s' f r=>k Φ' σ H' s' f⟩
  ·cases e2
theorem tf (h:PX G X e x):PSV G X (.Return (some e) pos) (ju x) :=
 PS.weak (nM h) fun D σ H hq=>by
  obtain ⟨Φ,η,out,s,e,k⟩:=hq
  unfold ju at e
  obtain ⟨⟨v,η'⟩,e1,e2⟩:=Zz.mp e
  split at e2
  ·rename_i hi
   cases e2
   exact ⟨Φ,η,v,η',s,e1,hi,fun u H' Φ' s' f r=>k u H' [] Φ' σ s' f r ⟨Z1,fun a h=>nomatch h⟩⟩
  ·cases e2
theorem cQ {j:Nat} {nm:Str} {pos':Pos} (h:PX G X e x) (hN:X.N.Nodup) (hi:X.N[j]?=some nm) (hx:Loc X.env.scope nm) (hs:swapsWith e (some (.Name nm pos')) pos.line X.env=pure false) (hf:X.fn nm=true\/X.env.scope.names.lookup nm=some .local) :
  PSV G X (.Assign [.Name nm pos'] e pos) (cz j x) :=
 PS.weak (jZ hN hi hx h hs hf) fun D σ H hq=>by
  obtain ⟨Φ,η,out,s,e,k⟩:=hq
  unfold cz at e
  obtain ⟨⟨v,η'⟩,e1,e2⟩:=Zz.mp e
  split at e2
  ·rename_i hi
   cases e2
   refine ⟨Φ,η,v,η',s,e1,hi.1,fun u H' Φ' s' f r=>?_⟩
   obtain ⟨q1,q2⟩:=s'.val (c:=.pu v.2) (m:=.fr) hi.2 (aD.refl H') r ⟨Z1,fun a h=>nomatch h⟩ (.inl ⟨rfl,by decide⟩)
   exact k _ _ H' q1 (f.trans q2)
  ·cases e2
noncomputable def ky (i:Nat) (way:List Stp) (k:Ex) (x:Xx):Sx:=fun η=>(x η).bind fun z=>if imm z.1.2 then fF i way k (fun _=>some (.fr,z.1.2)) z.2 else none
theorem vk {Φ:Fps} {η:VS.Env} {σ:L2.St} {H H1:Hp} {t t':T} {ks:List Ky} {mk mv:Md} {tk tv:T} {y':Unit} {xv:V} {Fv:X0} {ck:Ex} {D:L2.St->Hp->Prop} (J:jt G) (s:SR G Φ η σ H) (ht:η[i]?=some (some (.ow t))) (ek:keys way η=some ks) (ekk:ck η=some (mk,tk)) (e5:pm (nH (mk,tk) (mv,tv)) ks t=some (t',y'))
  (sm1:aD H H1) (rv:Rp G H1 xv tv Fv) (fv:Fp Φ η H mv Fv) (k:∀ Φ' H',SR G Φ' (η.set i (some (.ow t'))) σ H'->Frm Φ η H Φ' (η.set i (some (.ow t'))) H'->D σ H'):CK (tPl G i way) (tE G ck) zV xv σ H1 D:=by
   obtain ⟨v,g1,g2⟩:=s.rp _ _ ht
   obtain ⟨w,x,F1,x3,w1,w2,w3,w4,w5⟩:=gB ks J g2 (s.nd i t ht) e5
   refine ⟨Φ,η,t,ks,v,w,s.same sm1,ht,g1,ek,w1.same sm1,fun H2 sm2=>⟨Φ,η,mk,tk,(s.same sm1).same sm2,ekk,fun kv H3 Fk sm3 rk fk=>?_⟩⟩
   have sm:aD H H3:=(sm1.trans sm2).trans sm3
   have rv3:Rp G H3 xv tv Fv:=(rv.same sm2).same sm3
   have fin:∀ H4 F',Chg G H w F1 x3 H4 F'->D σ H4:=fun H4 F' g=>by
    obtain ⟨F2,g2'⟩:=w5 H4 F' g
    obtain ⟨z1,z2⟩:=s.mut ht g1 g2'
    exact k _ H4 z1 z2
   refine L2.gN fun P_ k_=>?_
   cases x with
   | lst l =>
    cases tk with
    | int n =>
     obtain ⟨tt,et,e7⟩:=Zz.mp (show ((fit (mv,tv)).bind fun t=>(ixP l.length n).map fun j=>(T.lst (l.set j t),()))=some (x3,y') from w4)
     obtain ⟨j,ej,e8⟩:=Zw.mp e7
     cases e8
     have em:=kI et
     cases em
     obtain ⟨a,vs,Fs,rfl,rfl,ha',ra⟩:=w2.lst_inv
     have ha3:H3 a=some (.lst vs):=sm a _ ha'
     have nd:=Zh.mp w3
     have na:a ∉ Fv:=fun z=>by rw [fv.2 a z] at ha';cases ha'
     have m3:Mut (H3 a):=by rw [ha3];exact True.intro
     have off:∀ bb∈Fs.flatten,bb ∉ Fv:=fun bb hb hv=>Mut.ne_none (ra.dom bb hb) (fv.2 bb hv)
     refine k_ ?_
     refine .inl ⟨a,vs,n,j,rfl,rk.int_inv,ha3,by rw [← qI,ra.len.1];exact ej,fin _ (a :: (Fs.set j Fv).flatten) ?_⟩
     have keep:∀ {u:V} {x:T} {F:X0},Rp G H3 u x F->a ∉ F->Rp G (upd H3 a (.lst (vs.set j xv))) u x F:=fun r hn=>r.keep (Kept.upd (.inl m3)) fun bb hb o' ho'=>by rw [ax (fun z=>hn (by rw [← z];exact hb))];exact ho'
     refine Chg.upd sm Zx m3 (.lst ar ((((ra.same sm).off m3 nd.1)).putAt j (keep rv3 na))) ?_ ?_
     ·rw [Zh]
      refine ⟨fun h=>?_,dJ nd.2 fv.1 fun i' F' _ hi bb hb=>off bb (cM hi hb)⟩
      rcases b9 h with z | ⟨i',F',_,h1,h2⟩
      ·exact na z
      ·exact nd.1 (cM h1 h2)
     ·intro bb hb
      rcases Zo.mp hb with rfl | hb
      ·exact .inl Zx
      ·rcases b9 hb with z | ⟨i',F',_,h1,h2⟩
       ·exact .inr (fv.2 bb z)
       ·exact .inl (Zy _ (cM h1 h2))
    | _=>cases w4
   | dct kd l =>
    cases kd with
    | zero =>
     have hc:(eY tk=true/\imm tv=true/\l.length < dD)/\x3=.dct 0 (dput l tk tv):=by
      have w4':(if eY tk/\imm tv/\l.length < dD then some (T.dct 0 (dput l tk tv),()) else none)=some (x3,y'):=w4
      split at w4'
      ·rename_i hc
       cases w4'
       exact ⟨hc,rfl⟩
      ·cases w4'
     obtain ⟨⟨c1,c2,c3⟩,rfl⟩:=hc
     have eF:=rv3.imm c2
     subst eF
     obtain ⟨a,ns,vs,ts,Fs,rfl,rfl,ha',hl,rfl,ra⟩:=cV w2
     obtain ⟨kk,rfl,ekk'⟩:=cO rk c1
     subst ekk'
     have ha3:H3 a=some (.dK (ns.zip vs)):=sm a _ ha'
     have m3:Mut (H3 a):=by rw [ha3];exact True.intro
     have nd:=Zh.mp w3
     obtain ⟨ks',vs',ts',Fs',q1,q2,q3,q4,q5⟩:=nG (kk:=kk) rv3 hl (ra.same sm)
     have ln:(ns.zip vs).length < sizeLine:=by
      have:((ns.map aA).zip ts).length < 16777216:=c3
      rw [ZA,Zv] at this
      rw [ZA]
      have:=ra.len.1
      have:(sizeLine:Nat)=16777216:=rfl
      lia
     refine k_ ?_
     refine .inr ⟨a,_,rfl,pI.k ha3 ln,fin _ (a :: Fs'.flatten) ?_⟩
     rw [q1,q3]
     refine Chg.upd sm Zx m3 (.dct ar q2 (q4.off m3 fun z=>nd.1 (q5.subset z))) ?_ ?_
     ·exact Zh.mpr ⟨fun z=>nd.1 (q5.subset z),nd.2.sublist q5⟩
     ·intro bb hb
      rcases Zo.mp hb with rfl | hb
      ·exact .inl Zx
      ·exact .inl (Zy _ (q5.subset hb))
    | succ n=>cases w4
   | _=>cases w4
theorem rZ {kr:Nat} {b:Expr} {ck:Ex} {pos':Pos} (J:jt G) (hr:Room kr X.A) (ho:PPl G X o i way) (hk:PV G X b ck) (he:PX G X e x)
  (ha:∀ v,assign (.Subscript o b pos') X.env v=(do
   let ov ← holding [v] (eval o X.env)
   let iv ← holding [v,ov] (eval b X.env)
   standAt pos'
   holding [v,ov,iv] (setItem ov iv v)
   release [v,ov,iv] [])) (hs:swapsWithSole [.Subscript o b pos'] e pos.line X.env=pure false) (hw:swappedStores [.Subscript o b pos'] e X.env=pure none)
  (h1:(assignEach [.Subscript o b pos'] X.env).map (·.2)=[assign (.Subscript o b pos') X.env]):PSV G X (.Assign [.Subscript o b pos'] e pos) (ky i way ck x) :=
 PS.weak (nN he (nK ho hk (sr (iK hr)) ha) hs hw h1) fun D σ H hq=>by
  obtain ⟨Φ,η,out,s,e,k⟩:=hq
  unfold ky at e
  obtain ⟨⟨v,η'⟩,e1,e2⟩:=Zz.mp e
  split at e2
  ·rename_i hi
   refine ⟨Φ,η,v,η',s,e1,hi,fun u H' Φ' s' f r=>?_⟩
   unfold fF at e2
   obtain ⟨⟨mv,tv⟩,ev,e2⟩:=Zz.mp e2
   cases ev
   split at e2
   ·rename_i t ht
    obtain ⟨ks,ek,e2⟩:=Zz.mp e2
    obtain ⟨⟨mk,tk⟩,ekk,e2⟩:=Zz.mp e2
    obtain ⟨⟨t',y'⟩,e5,e6⟩:=Zw.mp e2
    cases e6
    exact vk J s' ht ek ekk e5 (aD.refl H') r (mv:=.fr) ⟨Z1,fun a h=>nomatch h⟩ fun Φ2 H2 z1 z2=>k _ σ H2 z1 (f.trans z2)
   ·cases e2
  ·cases e2
end
end VS
end
section
namespace L2
open PySem PySem.Spec PyProof.Rows
theorem qR {X:Cx}:dP X (.type "dict") (fun xs H Q=>∃ (d:Addr) (kvs:List (Key×V)),xs=[.ref d]/\H d=some (.dK kvs)/\∀ l,H l=none->Q (.ref l) (upd H l (.dK kvs))):=by
 intro pins s σ H xs us Q I rx h
 obtain ⟨d,kvs,rfl,hd,q⟩:=h
 obtain ⟨u,rfl,ru⟩:=rx.one
 cases ru
 obtain ⟨hz,hne,vs,rel,dd⟩:=mO I.hok hd
 refine PySem.kt_call_dict hne dd (by rw [← Y8 rel];exact hz) fun h' dd' sb=>?_
 exact ⟨.ref s.heap.objs.size,_,I.laid (t':=s.toks) (fun b o e=>(sb.2 b (ZZ (ZS e))).trans (Zi _ e)) (Zg _) (lD hz (ZO.mpr (Yk (ZZ I.big))) rel dd'),rfl,q _ (I.hok.fresh (Zg _))⟩
end L2
namespace VS
open PySem PySem.Spec PyProof.Rows L2
noncomputable def j9:Wk->Wj
 | [(_,.dct 0 l)]=>if dv (l.map (·.2))=true then some (.fr,.dct 0 l) else none
 | _=>none
section
variable {G:Gx} {X:Cx} {a b e o:Expr} {ca cb ce:Ex} {cs:Exs} {p pos cpos apos:Pos} {k kr:Nat}
theorem vI:fT G (fun xs H Q=>∃ (d:Addr) (kvs:List (Key×V)),xs=[.ref d]/\H d=some (.dK kvs)/\∀ l,H l=none->Q (.ref l) (upd H l (.dK kvs))) j9:=by
 intro Φ η H0 H l vs Fs m t Q A e k
 unfold j9 at e
 split at e
 ·rename_i mx l0
  split at e
  ·rename_i hi
   cases e
   obtain ⟨v,F,rfl,rfl,r⟩:=(show RpL G H vs [.dct 0 l0] Fs from A.rp).one
   obtain ⟨a,ns,us,ts,Gs,rfl,rfl,ha,hl,rfl,ra⟩:=cV r
   refine ⟨a,_,rfl,ha,fun q hq=>?_⟩
   have sm:aD H (upd H q (.dK (ns.zip us))):=bj hq
   rw [List.map_snd_zip (by rw [Zv,hl,ra.len.1];exact Zg _)] at hi
   have eF:=ra.imm hi
   refine k _ _ (q :: Gs.flatten) sm (.dct ar hl (ra.same sm)) ?_
   rw [eF]
   exact Fp.new (A.same.free hq) (by simp) Fp.nil
  ·cases e
 ·cases e
theorem y0 (hm:X.mg "dict" = none) (ha:PVs G X [e] cs) (hg:Gl X "dict") (he:starEach [e] X.env=(false,eval e X.env) :: starEach [] X.env):PV G X (.Call (.Name "dict" p) [e] [] pos) (eN j9 cs) :=
 iF qR vI hg hm rJ ha (he:=he) (hpl:=rfl)
theorem AQ {i i':Int} {j j':Nat} {q q':Pos}:PV G X (.Dict [some (.Constant (.int i) j q)] [.Constant (.int i') j' q'] pos) (mn 0 [(Q2 i,Q2 i')]) :=
 PE.weak (tq (pK nX nX tH) rfl rfl (by simp) (by show 1<=15;decide)) fun σ H Q hq=>by
  obtain ⟨Φ,η,m,r,s,e,k⟩:=hq
  cases (show some (Md.fr,T.dct 0 [(.int i,.int i')])=some (m,r) from e)
  intro p hp
  refine ⟨ar,[(Sum.inl i,.int i')],rfl,(by show 1<=15;decide),?_⟩
  rw [zo]
  have:Rp G (upd H p (.dK [(Sum.inl i,V.int i')])) (.ref p) (.dct 0 ((([Sum.inl i]:List Key).map aA).zip [.int i'])) (p :: ([[]]:Y1).flatten) :=
   .dct (ks:=[Sum.inl i]) (vs:=[V.int i']) ar rfl (.cons (.int i') .nil)
  exact k _ _ _ (bj hp) this ⟨by simp,fun b hb=>by simp at hb;rw [hb];exact hp⟩
noncomputable def t9 (x y:Val):Wj:=match x.2 with
 | .dct 0 l=>if eY y.2 then some (match cL l y.2 with | some t=>sub x.1 t | none=>(.fr,.non)) else none
 | _=>none
theorem w_get (hr:Room kr X.A) (ho:PV G X o ca) (he:PV G X e cb) (hbase:attributeBase o "get" X.env (eval o X.env)=eval o X.env)
  (hfew:((backTo cpos (starEach [e] X.env)).all (fun x=>!x.1) && (backToKw cpos (keywordEach [] X.env)).all (fun x=>x.1.isSome)
   && decide (([e]:List Expr).length+([]:List Keyword).length+(if ([]:List Keyword).isEmpty then 0 else 1) < 30))=true)
  (hline:(apos.endLine == cpos.line)=true) (htr:backTo cpos (starEach [e] X.env)=[(false,eval e X.env)]):PV G X (.Call (.Attribute o "get" apos) [e] [] cpos) (e2 t9 ca cb) :=
 PE.weak (xO (iK hr) ho he ⟨hbase,hfew,hline,htr⟩) fun σ H Q hq=>by
  obtain ⟨Φ,η,m,r,s,e,kq⟩:=hq
  unfold e2 at e
  obtain ⟨⟨m1,x⟩,ea,e⟩:=Zz.mp e
  obtain ⟨⟨m2,y⟩,eb,e⟩:=Zz.mp e
  unfold t9 at e
  split at e
  ·rename_i l hx
   dsimp only at hx
   subst hx
   split at e
   ·rename_i hk
    have e':=Zk e
    refine ⟨Φ,η,m1,_,s,ea,fun v H1 F1 sm1 r1 f1=>?_⟩
    obtain ⟨a,ks,vs,ts,Fs,rfl,rfl,ha,hl,rfl,q⟩:=cV r1
    refine ⟨a,rfl,.inl ⟨_,.inl ha⟩,Φ,η,m2,y,s.same sm1,eb,fun v2 H2 F2 sm2 r2 f2=>?_⟩
    obtain ⟨kk,rfl,ek⟩:=cO r2 hk
    dsimp only at e'
    rw [ek] at e'
    rcases iB (k:=kk) hl (q.same sm2) with ⟨h1,h2⟩ | ⟨i,v,t2,F,a1,a2,a3,a4,a5⟩
    ·rw [h1] at e'
     cases e'
     refine ⟨_,gj.k (sm2 a _ ha),?_⟩
     rw [h2]
     exact kq .non H2 [] (sm1.trans sm2) .non Fp.nil
    ·rw [a1] at e'
     refine ⟨_,gj.k (sm2 a _ ha),?_⟩
     rw [a2]
     have f:=((f1.sub (Yv _ _)).sub (bK a4)).up a5
     unfold VS.sub at e'
     dsimp only at e'
     rw [e'] at f
     have et:t2=r:=congrArg Prod.snd e'
     rw [et] at a5
     exact kq v H2 F (sm1.trans sm2) a5 f
   ·cases e
  ·cases e
noncomputable def om (x y:Val):Wj:=match x.2 with
 | .dct 3 l=>if eY y.2 then (cL l y.2).map (sub x.1) else none
 | _=>none
theorem pM {H:Hp} {v:V} {l:List (T×T)} {F:X0} (r:Rp G H v (.dct 3 l) F):∃ (a:Addr) (o:Obj) (ks:List Key) (vs:List V) (ts:Wi) (Fs:Y1),v=.ref a/\F=Fs.flatten/\H a=some (.frz o (.dK (ks.zip vs)))/\ks.length=vs.length/\l=(ks.map aA).zip ts/\RpL G H vs ts Fs:=by
 generalize hz:T.dct 3 l=z at r
 cases r with
 | dctZ h hl q=>cases hz;exact ⟨_,_,_,_,_,_,rfl,rfl,h,hl,rfl,q⟩
 | _=>cases hz
theorem Bm:fD G (C9 G.K) om:=by
 intro Φ η H0 H x y u w F1 F2 m t Q tw e k
 obtain ⟨m1,x⟩:=x
 unfold om at e
 split at e
 ·rename_i l hx
  dsimp only at hx
  subst hx
  split at e
  ·rename_i hk
   obtain ⟨t',e1,e2⟩:=Zw.mp e
   obtain ⟨a,o,ks,vs,ts,Fs,rfl,rfl,ha,hl,rfl,q⟩:=pM tw.r1
   obtain ⟨kk,rfl,ek⟩:=cO tw.r2 hk
   rw [ek] at e1
   rcases iB (k:=kk) hl q with ⟨h1,_⟩ | ⟨i,v,t2,F,a1,a2,a3,a4,a5⟩
   ·rw [h1] at e1;cases e1
   ·rw [a1] at e1
    cases e1
    cases e2
    refine .inr ⟨a,v,rfl,.inl ⟨_,kk,.inr ⟨o,ha⟩,rfl,a2.symm⟩,?_⟩
    have f:=(tw.f1.sub (bK a4)).up a5
    exact k v H F (aD.refl _) a5 f
  ·cases e
 ·cases e
theorem Ac (hr:Room kr X.A) (ha:PV G X a ca) (hb:PV G X b cb) (hs:fO b) (hK:X.K=G.K):PV G X (.Subscript a b pos) (e2 om ca cb) :=
 PE.weak (lE (IxR.or jd (nu (iK hr))) ha hb hs) fun σ H Q h=>by rw [hK];exact lH Bm h
end
noncomputable def eNew (c:Nat) (g:Mt) (cs:Exs):Ex:=fun η=>(cs η).bind fun xs=>if aY (trees xs)=true then (g [] (trees xs)).bind fun z=>if fP z.1=true/\isN z.2=true then some (.fr,.obj (c+1) ((0,.bl false) :: z.1)) else none else none
noncomputable def fI (c:Nat) (g:Fn) (ca:Ex) (cs:Exs):Ex:=fun η=>(ca η).bind fun x=>match x.2 with
 | .obj c' (_ :: _)=>if c'=c+1 then (cs η).bind fun xs=>(g (x.2 :: trees xs)).bind fun r=>match r.1 with
  | .fr=>some r
  | _=>none else none
 | _=>none
theorem xE {α:Type}:∀ (l:List α) (Fs:Y1),mvF (l.map fun _=>false) Fs=[]
 | [],_=>by simp [mvF]
 | _ :: _,[]=>by simp [mvF]
 | _ :: l,F :: Fs=>by
  rw [Zl,mvF,Zm Zd,Xl]
  exact xE l Fs
theorem vD:∀ (mv:List Bool) (Fs:Y1),∀ a∈puF mv Fs,a∈Fs.flatten
 | [],_,a,h=>by simp [puF] at h
 | _ :: _,[],a,h=>by simp [puF] at h
 | b :: bs,F :: Fs,a,h=>by
  rw [puF] at h
  rw [ZV]
  rcases Ze.mp h with h | h
  ·cases b with
   | true=>simp at h
   | false=>exact Yw _ (by simpa using h)
  ·exact ZW _ (vD bs Fs a h)
section
variable {G:Gx} {X:Cx} {i c k k':Nat} {o e:Expr} {es:List Expr} {cs:Exs} {ca:Ex} {m x:Str} {f:Addr} {fd:FuncData} {ps:List Str} {g:Mt} {h:Fn} {apos pos p:Pos}
theorem zc {G:Gx} {H:Hp} {u:V} {t:T} {F:X0} (r:Rp G H u t F) (h:isN t=true):u=.non:=by
 cases r with
 | non=>rfl
 | _=>cases h
theorem BO {σ:L2.St} {H:Hp} {Q:VK} {E:XK} {t:TA} (F:∀ n,FnOk X.prog X.w X.K X.mg X.base CX0 k f fd ps (spM G c (List.replicate n false) g)->True) (ht:∀ Φ η xs σ H (R:List V->Hp->Prop),SR G Φ η σ H->cs η=some xs->(∀ vs H' Fs,aD H H'->RpL G H' vs (trees xs) Fs->FpL Φ η H xs Fs->R vs H')->t σ H R)
  (n:Nat) (hn:∀ η xs,cs η=some xs->xs.length=n) (hq:tE G (eNew c g cs) σ H Q):zM (G.ct (c+1)).1 (spM G c (List.replicate n false) g) [] E t σ H Q:=by
 obtain ⟨Φ,η,mo,r,s,e,kq⟩:=hq
 unfold eNew at e
 obtain ⟨xs,el,e1⟩:=Zz.mp e
 split at e1
 ·rename_i han
  obtain ⟨⟨fs',y⟩,eg,e2⟩:=Zz.mp e1
  split at e2
  ·rename_i hc
   cases e2
   have lx:=hn η xs el
   refine ht Φ η xs σ H _ s el fun vs H1 Gs sm1 rp1 fp1 a dx ha hdx ne=>?_
   have hHa:H a=none:=sm1.free ha
   have sm2:aD H1 (upd (upd H1 dx (.own a)) a (.ins (G.ct (c+1)).1 dx [])):=fun b ob q=>by
    rw [ax (fun z=>by rw [z,ha] at q;cases q),ax (fun z=>by rw [z,hdx] at q;cases q)]
    exact q
   have em:List.replicate n false=(List.range n).map fun _=>false:=by rw [List.map_const',ZR]
   have mv0:mvF (List.replicate n false) Gs=[]:=by rw [em];exact xE _ _
   have fresh:∀ b,(upd (upd H1 dx (.own a)) a (.ins (G.ct (c+1)).1 dx [])) b=none->H b=none:=fun b z=>sm1.free (sm2.free z)
   refine ⟨a,vs,[],trees xs,[a],Gs,fs',y,by rw [ZK],.ins (ks:=[]) (vs:=[]) (ts:=[]) (Fs:=[]) ar rfl (fun _=>rfl) .nil,(rp1.same sm2).at (meA a) han,?_,?_,?_,eg,fun u H' F' gc ru=>⟨zc ru hc.2,?_⟩⟩
   ·simp [trees,lx]
   ·rw [mv0];simp
   ·rw [mv0]
    intro b hb hb'
    have:b=a:=by simpa using hb
    subst this
    exact Mut.ne_none (rp1.dom b (vD _ _ b hb')) ha
   ·rw [mv0,ZK] at gc
    have back:Rp G H' (.ref a) (.obj (c+1) ((0,.bl false) :: fs')) F':=by
     obtain ⟨c2,a2,dx2,b2,ns2,vs2,ts2,Fs2,ec2,ea2,eb2,ef2,eF2,hA2,hl2,hb2,ra3⟩:=fM gc.rp
     cases ec2
     cases ea2
     subst ef2
     rw [eF2]
     exact .ins hA2 hl2 (fun z=>nomatch z) (ra3.at G.me (fZ (hl2.trans ra3.len.1) hc.1))
    refine kq (.ref a) H' F' (fun b ob q=>gc.keep b ob (fun z=>?_) (sm2 b ob (sm1 b ob q))) back ⟨gc.nd,fun b hb=>?_⟩
    ·have:b=a:=by simpa using z
     rw [this,hHa] at q
     cases q
    ·rcases gc.sub b hb with z | z
     ·have:b=a:=by simpa using z
      rw [this]
      exact hHa
     ·exact fresh b z
  ·cases e2
 ·cases e1
theorem Bd (M:Mk X.K (G.ct (c+1)).1 f) (F:FnOk X.prog X.w X.K X.mg X.base CX0 k f fd ps (spM G c [] g)) (hr:Room k' X.A) (hk:k+1<=k') (hg:Gl X x) (hm:X.mg x=some (.ref (G.ct (c+1)).1)) (hb:Binds X.K fd ps [])
  (hdb:(x == ("__debug__" : Str))=false):PV G X (.Call (.Name x p) [] [] pos) (eNew c g aj) :=
 PE.weak (uX (E:=E0) M F (hr.mono hk) hg hm hb .nil m8 hdb) fun σ H Q h=>BO (X:=X) (k:=k) (f:=f) (fd:=fd) (ps:=ps) (t:=uG) (fun _ _=>True.intro) (fun Φ η xs σ H R s e k=>by
  cases (show some ([]:Wk)=some xs from e)
  exact k [] H [] (aD.refl _) .nil ⟨fun i v F h=>by simp at h,by simp [frs]⟩) 0 (fun η xs e=>by
  cases (show some ([]:Wk)=some xs from e)
  rfl) h
theorem rT {g:Nat->Str} (hn:∀ k,g k ≠ m):∀ (ns:Wq) (vs:List V),((ns.map g).zip vs).lookup m=none
 | [],vs=>by simp
 | _ :: _,[]=>by simp
 | n :: ns,v :: vs=>by
  rw [Zl,Zc,Yr]
  have:(m == g n)=false:=by
   rw [ZO]
   exact fun z=>hn n z.symm
  rw [this]
  exact rT hn ns vs
theorem sP {σ:L2.St} {H:Hp} {Q:VK} {E:XK} {t:TA} (hn:∀ k,(G.ct (c+1)).2 k ≠ m) (ht:∀ Φ η xs σ H (R:List V->Hp->Prop),SR G Φ η σ H->cs η=some xs->(∀ vs H' Fs,aD H H'->RpL G H' vs (trees xs) Fs->FpL Φ η H xs Fs->R vs H')->t σ H R)
  (hq:tE G (fI c h ca cs) σ H Q):sE (G.ct (c+1)).1 m (spF G h) [] E (tE G ca) t σ H Q:=by
 obtain ⟨Φ,η,mo,r,s,e,kq⟩:=hq
 unfold fI at e
 obtain ⟨⟨mx,y⟩,ea,e1⟩:=Zz.mp e
 split at e1
 ·rename_i c' q0 fs hy
  dsimp only at hy
  subst hy
  split at e1
  ·rename_i hc
   subst hc
   obtain ⟨xs,el,e2⟩:=Zz.mp e1
   obtain ⟨⟨n,r'⟩,eg,e3⟩:=Zz.mp e2
   refine ⟨Φ,η,mx,_,s,ea,fun v H1 F1 sm1 r1 f1=>?_⟩
   obtain ⟨c2,a,dx,b,ns,vs,ts,Fs,ec,rfl,eb,ef,eF,hA,hl,hb,ra⟩:=fM r1
   cases ec
   refine ⟨a,dx,_,rfl,hA,rT hn _ _,ht Φ η xs σ H1 _ (s.same sm1) el fun us H2 Gs sm2 rp2 fp2=>?_⟩
   rw [ZK]
   refine ⟨_ :: trees xs,F1 :: Gs,n,r',.cons (r1.same sm2) rp2,eg,fun u H' F' sm3 r3 f3=>?_⟩
   cases n with
   | fr =>
    cases e3
    exact kq u H' F' ((sm1.trans sm2).trans sm3) r3 ⟨f3.1,fun b hb=>sm1.free (sm2.free (f3.2 b hb))⟩
   | pu=>cases e3
   | bo=>cases e3
  ·cases e1
 ·cases e1
theorem Br {pl:Sem Bool} (hn:∀ k,(G.ct (c+1)).2 k ≠ m) (ho:PV G X o ca) (hc:Cls X.K (G.ct (c+1)).1) (hm:Meth X.K (G.ct (c+1)).1 m f) (F:FnOk X.prog X.w X.K X.mg X.base CX0 k f fd ps (spF G h)) (hr:Room k' X.A) (hk:k<=k') (hb:Binds X.K fd ps []) (ha:PVs G X (e :: es) cs)
  (hst:starEach (e :: es) X.env=(false,eval e X.env) :: starEach es X.env) (hpl:(backTo pos (starEach es X.env)).any (·.1)=false)
  (ht:eval (.Call (.Attribute o m apos) (e :: es) [] pos) X.env=(do
   let ov ← eval o X.env
   standAt apos.atName
   let (f,first) ← holding [ov] (getMethod ov m pl)
   callWith pos f first (backTo pos (starEach (e :: es) X.env)) (backToKw pos (keywordEach [] X.env)))):PV G X (.Call (.Attribute o m apos) (e :: es) [] pos) (fI c h ca cs) :=
 PE.weak (rL (E:=E0) ho hc hm F (hr.mono hk) hb .nil m8 ha hst hpl ht) fun σ H Q q=>sP (t:=tEs G cs) hn (fun Φ η xs σ H R s e k=>⟨Φ,η,xs,s,e,k⟩) q
theorem zJ {pl:Sem Bool} (hn:∀ k,(G.ct (c+1)).2 k ≠ m) (ho:PV G X o ca) (hc:Cls X.K (G.ct (c+1)).1) (hm:Meth X.K (G.ct (c+1)).1 m f) (F:FnOk X.prog X.w X.K X.mg X.base CX0 k f fd ps (spF G h)) (hr:Room k' X.A) (hk:k<=k') (hb:Binds X.K fd ps [])
  (ht:eval (.Call (.Attribute o m apos) [] [] pos) X.env=(do
   let ov ← eval o X.env
   standAt apos.atName
   let (f,first) ← holding [ov] (getMethod ov m pl)
   callWith pos f first (backTo pos (starEach [] X.env)) (backToKw pos (keywordEach [] X.env)))):PV G X (.Call (.Attribute o m apos) [] [] pos) (fI c h ca aj) :=
 PE.weak (wC (E:=E0) ho hc hm F (hr.mono hk) hb .nil m8 ht) fun σ H Q q=>sP (t:=uG) hn (fun Φ η xs σ H R s e k=>by
  cases (show some ([]:Wk)=some xs from e)
  exact k [] H [] (aD.refl _) .nil ⟨fun i v F h=>by simp at h,by simp [frs]⟩) q
end
noncomputable def lM (i:Nat) (way:List Stp) (j:Nat) (η:VS.Env):Option Out:=match (η[i]?:Option (Wm)),(η[j]?:Option (Wm)) with
 | some (some (.ow t)),some (some (.ow u))=>if i ≠ j then (keys way η).bind fun ks=>(pm (fun x=>aH x [(.fr,u)]) ks t).map fun z=>.nx ((η.set j none).set i (some (.ow z.1))) else none
 | _,_=>none
open Classical in
noncomputable def less (H:Hp) (F:X0):Hp:=fun b=>if b∈F then none else H b
section
variable {G:Gx} {X:Cx} {i j:Nat} {way:List Stp} {o:Expr} {y:Str} {apos cpos pos p1:Pos}
theorem nF {H:Hp} {F:X0} {b:Addr} (h:b∈F):less H F b=none:=Zq h
theorem gb {H:Hp} {F:X0} {b:Addr} (h:b ∉ F):less H F b=H b:=Zm h
theorem gg {H:Hp} {F:X0} {b:Addr} {o:HO} (h:less H F b=some o):H b=some o/\b ∉ F:=by
 by_cases q:b∈F
 ·rw [nF q] at h;cases h
 ·rw [gb q] at h;exact ⟨h,q⟩
theorem uo {H:Hp} {F:X0} (h:∀ b∈F,Mut (H b)):Kept H (less H F) :=
 ⟨fun b xs e=>by
  rw [gb (fun z=>by have:=h b z;rw [e] at this;exact this)]
  exact e,fun b o u e=>by
  rw [gb (fun z=>by have:=h b z;rw [e] at this;exact this)]
  exact e⟩
theorem yx (J:jt G) (ho:PPl G X o i way) (hK:X.K=G.K) (hN:X.N[j]?=some y) (hv:Vis X.env.scope y) (hd:(y == ("__debug__" : Str))=false) (hcd:(y == ("__classdict__" : Str))=false)
  (hbase:attributeBase o "append" X.env (eval o X.env)=eval o X.env)
  (hfew:((backTo cpos (starEach [.Name y p1] X.env)).all (fun x=>!x.1) && (backToKw cpos (keywordEach [] X.env)).all (fun x=>x.1.isSome)
   && decide ([Expr.Name y p1].length+([]:List Keyword).length+(if ([]:List Keyword).isEmpty then 0 else 1) < 30))=true)
  (hline:(apos.endLine == cpos.line)=true) (hs:starEach [.Name y p1] X.env=(false,eval (.Name y p1) X.env) :: starEach [] X.env) (hplain:(backTo cpos (starEach [] X.env)).any (·.1)=false)
  (hsw:swapsWith (.Call (.Attribute o "append" apos) [.Name y p1] [] cpos) none pos.line X.env=pure false) :
  PSV G X (.Expr (.Call (.Attribute o "append" apos) [.Name y p1] [] cpos) pos) (lM i way j) :=
 PS.weak (iy (ki YU YX YY fe ho (bU (dB hN hv hd hcd) dC hs) hbase hfew hline hs hplain) hsw) fun D σ H hq=>by
  obtain ⟨Φ,η,out,s,e,k⟩:=hq
  unfold lM at e
  split at e
  ·rename_i t u ht hu
   split at e
   ·rename_i hij
    obtain ⟨ks,ek,e3⟩:=Zz.mp e
    obtain ⟨⟨t',x2⟩,e5,e6⟩:=Zw.mp e3
    cases e6
    obtain ⟨vj,j1,j2⟩:=s.rp _ _ hu
    have j2':Rp G H vj u (Φ j):=j2
    have ndj:=s.nd j u hu
    have mj:∀ b∈Φ j,Mut (H b):=j2'.dom
    have kp:=uo mj
    have sepj:∀ i' c',i' ≠ j->η[i']?=some (some c')->∀ b∈Φ i',b ∉ Φ j:=fun i' c' n h b hb hb'=>s.sep j i' u c' hu h (Yk n) b hb' hb
    have s0:SR G Φ (η.set j none) σ (less H (Φ j)):=⟨(s.drop j).len,fun i' c' h=>by
     obtain ⟨n,h'⟩:=cw h
     obtain ⟨v,h1,h2⟩:=s.rp i' c' h'
     exact ⟨v,h1,h2.keep kp fun b hb ob hob=>by rw [gb (sepj i' c' n h' b hb)];exact hob⟩,(s.drop j).nd,(s.drop j).sep⟩
    have ht0:(η.set j none)[i]?=some (some (.ow t)):=by
     rw [Ys (Yk hij)]
     exact ht
    obtain ⟨v,h1,h2⟩:=s0.rp _ _ ht0
    obtain ⟨w,x,F1,x3,w1,w2,w3,w4,w5⟩:=gB ks J h2 (s0.nd i t ht0) e5
    unfold aH at w4
    split at w4
    ·rename_i l yv heq
     cases heq
     obtain ⟨z,ez,e7⟩:=Zz.mp w4
     cases (show some u=some z from ez)
     split at e7
     ·rename_i hl
      cases e7
      obtain ⟨a,us,Gs,rfl,rfl,ha,ra⟩:=w2.lst_inv
      obtain ⟨haH,haj⟩:=gg ha
      have w1':Pth G H ks v (.ref a):=by
       have:∀ {ks:List Ky} {v w:V},Pth G (less H (Φ j)) ks v w->Pth G H ks v w:=by
        intro ks v w p
        induction p with
        | nil v=>exact .nil v
        | fld h l _ ih=>exact .fld (gg h).1 l ih
        | ix h l m _ ih=>exact .ix (gg h).1 l m ih
        | key h l _ ih=>exact .key (gg h).1 l ih
        | un _ ih=>exact .un ih
       exact this w1
      refine ⟨Φ,η,t,ks,v,.ref a,s,ht,h1,ek,w1',fun H0 sm0=>⟨.inl ⟨rfl,us,by rw [hK];exact SqL.of (sm0 a _ haH)⟩,vj,j1,a,us,vj,rfl,rfl,sm0 a _ haH,by rw [ra.len.1];exact hl,?_⟩⟩
      have m0:Mut (H0 a):=by rw [sm0 a _ haH];exact True.intro
      have nd1:=Zh.mp w3
      have offj:∀ b∈Gs.flatten,b ∉ Φ j:=fun b hb hb'=>by
       have:=ra.dom b hb
       rw [nF hb'] at this
       exact this
      have lsm:∀ b ob,less H (Φ j) b=some ob->H0 b=some ob:=fun b ob h=>sm0 b ob (gg h).1
      have kl:Kept (less H (Φ j)) H0:=⟨fun b xs h=>lsm b _ h,fun b ob u h=>lsm b _ h⟩
      have g:Chg G (less H (Φ j)) (.ref a) (a :: Gs.flatten) (.lst (l++[u])) (upd H0 a (.lst (us++[vj]))) (a :: (Gs++[Φ j]).flatten):=by
       refine ⟨kl.trans (Kept.upd (.inl m0)),fun b ob hb h=>by rw [ax (fun z=>hb (by rw [z];exact Zx))];exact lsm b ob h,fun b h z=>?_,.lst ar ((RpL.off (ra.keep kl fun b hb ob h=>lsm b ob h) m0 nd1.1).append (.cons (((j2'.same sm0)).keep (Kept.upd (.inl m0)) fun b hb ob ho=>by rw [ax (fun z=>haj (by rw [← z];exact hb))];exact ho) .nil)),?_,fun b hb=>?_⟩
       ·by_cases q:b=a
        ·rw [q,ar] at z;cases z
        ·rw [ax q] at z
         cases e:less H (Φ j) b with
         | none=>exact h e
         | some ob=>rw [lsm b ob e] at z;cases z
       ·rw [Z8]
        refine Zh.mpr ⟨fun m=>?_,ZX.mpr ⟨nd1.2,by simpa using ndj,fun b hb c hc z=>?_⟩⟩
        ·rcases Ze.mp m with m | m
         ·exact nd1.1 m
         ·exact haj (by simpa using m)
        ·subst z;exact offj b hb (by simpa using hc)
       ·rcases Zo.mp hb with rfl | hb
        ·exact .inl Zx
        ·rw [Z8] at hb
         rcases Ze.mp hb with hb | hb
         ·exact .inl (Zy _ hb)
         ·exact .inr (nF (by simpa using hb))
      obtain ⟨F2,g2⟩:=w5 _ _ g
      obtain ⟨z1,z2⟩:=s0.mut ht0 h1 g2
      have back:∀ b,less H (Φ j) b=none->bc Φ η b\/H b=none:=fun b h=>by
       by_cases q:b∈Φ j
       ·exact .inl ⟨j,u,hu,q⟩
       ·rw [gb q] at h;exact .inr h
      have ow0:∀ b,bc Φ (η.set j none) b->bc Φ η b:=fun b ⟨j',t',q1,q2⟩=>⟨j',t',(cw q1).2,q2⟩
      have pu0:∀ b,cB Φ (η.set j none) b->cB Φ η b:=fun b ⟨j',t',q1,q2⟩=>⟨j',t',(cw q1).2,q2⟩
      refine k _ σ _ z1 ⟨fun b ob h n=>?_,fun b h z=>?_,fun b h=>?_,fun b h=>?_,(Kept.of sm0).trans (Kept.upd (.inl m0))⟩
      ·have nj:b ∉ Φ j:=fun z=>n ⟨j,u,hu,z⟩
       exact z2.keep b ob (by rw [gb nj];exact h) fun z=>n (ow0 b z)
      ·by_cases q:b=a
       ·rw [q,ar] at z;cases z
       ·rw [ax q] at z;exact h (sm0.free z)
      ·rcases z2.ow b h with h | h
       ·exact .inl (ow0 b h)
       ·exact back b h
      ·rcases z2.pu b h with h | h | h
       ·exact .inl (pu0 b h)
       ·exact .inr (.inl (ow0 b h))
       ·exact (back b h).elim (fun z=>.inr (.inl z)) fun z=>.inr (.inr z)
     ·cases e7
    ·cases w4
   ·cases e
  ·cases e
end
end VS
end
section
namespace VS
open PySem PySem.Spec PyProof.Rows L2
noncomputable def isInt:T->Bool
 | .int _=>true
 | _=>false
noncomputable def p8 (i:Nat):Its:=fun η=>match (η[i]?:Option (Wm)) with
 | some (some (.pu (.dct 3 l)))=>if (l.all fun p=>isInt p.1)=true then some (.fr,l.map (·.1)) else none
 | _=>none
noncomputable def wu (i:Nat) (tg:Tg) (ce:Ex):Sx:=fun η=>match (η[i]?:Option (Wm)) with
 | some (some (.ow (.dct 0 l)))=>(dE 1 tg (p8 i) none ce (η.set i (some (.pu (.dct 3 l))))).bind fun v=>match v.1 with
  | .fr=>some (.rt v (η.set i none))
  | _=>none
 | _=>none
theorem zip_inj {α β:Type}:∀ {a c:List α} {b d:List β},a.length=b.length->c.length=d.length->a.zip b=c.zip d->a=c
 | [],[],_,_,_,_,_=>rfl
 | [],_ :: _,_,[],_,h,_=>by simp at h
 | [],_ :: _,[],_ :: _,_,_,h=>by simp at h
 | [],_ :: _,_ :: _,_ :: _,h,_,_=>by simp at h
 | _ :: _,_,[],_,h,_,_=>by simp at h
 | _ :: _,[],_ :: _,[],_,_,h=>by simp at h
 | _ :: _,[],_ :: _,_ :: _,_,h,_=>by simp at h
 | _ :: _,_ :: _,_ :: _,[],_,h,_=>by simp at h
 | x :: a,y :: c,z :: b,w :: d,h1,h2,h=>by
  rw [Zc,Zc] at h
  obtain ⟨e1,e2⟩:=List.cons.inj h
  rw [zip_inj (by simpa using h1) (by simpa using h2) e2,(Xd e1).1]
section
variable {G:Gx} {X:Cx} {i:Nat} {elt tg:Expr} {sc:Scope} {pos pos' p1:Pos} {N:List Str} {x:Str} {g:Tg} {ce:Ex}
theorem BI (i:Nat) (N:List Str) (hcalm:X.calm=true) (hN:X.N[i]?=some x) (hv:Vis X.env.scope x) (hd:(x == ("__debug__" : Str))=false) (hcd:(x == ("__classdict__" : Str))=false) (hin:vt 1 g)
  (hg:∀ cl C s H fp,PVG G (cN X N sc cl C s H fp) tg g) (he:∀ cl C s H fp,PV G (cN X N sc cl C s H fp) elt ce)
  (hsc:nI X.env sc=true) (hnm:kB sc (N.drop 1) X.N=true) (hNl:1<=N.length) (hs:∀ y,foldedSetIterable (.Name x p1) X.env y=pure y) :
  PSV G X (.Return (some (.ListComp elt [⟨tg,.Name x p1,[],0⟩] sc pos)) pos') (wu i g ce) :=
 PS.weak (nM (kM hcalm (CY (dB hN hv hd hcd)) hsc hnm hNl (fun cl C s H fp=>⟨hg cl C s H fp,lO,he cl C s H fp⟩) hs)) fun D σ H hq=>by
  obtain ⟨Φ,η,out,s,e,k⟩:=hq
  unfold wu at e
  split at e
  ·rename_i l hl
   obtain ⟨⟨mv,tv⟩,ev,e1⟩:=Zz.mp e
   have hfr:mv=.fr/\out=.rt (.fr,tv) (η.set i none):=by
    cases mv with
    | fr=>cases e1;exact ⟨rfl,rfl⟩
    | pu=>cases e1
    | bo=>cases e1
   obtain ⟨rfl,rfl⟩:=hfr
   obtain ⟨v,g1,g2⟩:=s.rp _ _ hl
   obtain ⟨a,ns,vs,ts,Fs,rfl,eF,ha,hln,rfl,ra⟩:=cV g2
   have hlt:i < η.length:=(Zf.mp hl).1
   have nd:=s.nd i _ hl
   rw [eF] at nd
   have nd':=Zh.mp nd
   refine ⟨.ref a,g1,a,ns.zip vs,rfl,ha,fun o=>?_⟩
   have mu:Mut (H a):=by rw [ha];exact True.intro
   have kp:Kept H (upd H a (.frz o (.dK (ns.zip vs)))):=Kept.upd (.inl mu)
   have es:σ.set i (some (.ref a))=σ:=by
    obtain ⟨h,e⟩:=Zf.mp g1
    rw [← e]
    exact XQ h
   have aΦ:a∈Φ i:=by rw [eF];exact Zx
   have sub:∀ b∈Fs.flatten,b∈Φ i:=fun b hb=>by rw [eF];exact Zy _ hb
   have s1:SR G (jb Φ i Fs.flatten) (η.set i (some (.pu (.dct 3 ((ns.map aA).zip ts))))) σ (upd H a (.frz o (.dK (ns.zip vs)))):=by
    have:=s.put (c:=.pu (.dct 3 ((ns.map aA).zip ts))) (v:=.ref a) (F:=Fs.flatten) (H':=upd H a (.frz o (.dK (ns.zip vs)))) hlt (.dctZ ar hln (ra.off mu nd'.1)) (fun j c' n hj w q=>q.keep kp fun b hb ob ho=>by
     rw [ax (fun z=>s.sep i j _ c' hl hj (Yk n) a aΦ (by rw [← z];exact hb))];exact ho) (fun _ z=>nomatch z) (fun _ z=>nomatch z) fun j u n hj b hb hb'=>s.sep j i u _ hj hl n b hb (sub b hb')
    rw [es] at this
    exact this
   have hT:tE G (dE 1 g (p8 i) none ce) σ (upd H a (.frz o (.dK (ns.zip vs)))) D.rt:=by
    refine ⟨_,_,.fr,tv,s1,ev,fun u H' F sm r f=>?_⟩
    have ee:(η.set i (some (.pu (.dct 3 ((ns.map aA).zip ts))))).set i none=η.set i none:=by rw [List.set_set]
    have sd:=(s1.drop i).same sm
    rw [ee] at sd
    have ow0:∀ b,bc (jb Φ i Fs.flatten) (η.set i none) b->bc Φ η b:=fun b ⟨j,t,q1,q2⟩=>by
     obtain ⟨n,q1'⟩:=cw q1
     rw [d9 n] at q2
     exact ⟨j,t,q1',q2⟩
    refine k u H' F _ σ sd ⟨fun b ob h n=>?_,fun b h z=>?_,fun b h=>.inl (ow0 b h),fun b ⟨j,t,q1,q2⟩=>?_,kp.trans (Kept.of sm)⟩ r ⟨f.1,fun b hb=>.inl ?_⟩
    ·have nb:b ≠ a:=fun z=>n ⟨i,_,hl,by rw [z];exact aΦ⟩
     exact ⟨sm b ob (by rw [ax nb];exact h),fun z=>n (ow0 b z)⟩
    ·have z1:=sm.free z
     by_cases q:b=a
     ·rw [q,ar] at z1;cases z1
     ·rw [ax q] at z1;exact h z1
    ·obtain ⟨n,q1'⟩:=cw q1
     rw [d9 n] at q2
     exact .inl ⟨j,t,q1',q2⟩
    ·have:=f.2 b hb
     by_cases q:b=a
     ·rw [q,ar] at this;cases this
     ·rw [ax q] at this;exact this
   obtain ⟨Φ2,η2,m2,l2,s2,e2,k2⟩:=ny (cond:=none) hin hT
   refine k2 (Itk a o (ns.zip vs)) _ [] (aD.refl _) ?_ (fun b hb=>nomatch hb)
   unfold p8 at e2
   split at e2
   ·rename_i l3 h3
    split at e2
    ·rename_i hint
     cases e2
     obtain ⟨v3,q1,q2⟩:=s2.rp _ _ h3
     rw [g1] at q1
     cases q1
     obtain ⟨a3,o3,ks3,vs3,ts3,Fs3,ea3,_,ha3,hl3,rfl,ra3⟩:=pM q2
     cases ea3
     rw [ar] at ha3
     have hz:ns.zip vs=ks3.zip vs3:=HO.dK.inj (HO.frz.inj (Zk ha3)).2
     have ek:=zip_inj hln hl3 hz
     subst ek
     have em:((ns.map aA).zip ts3).map (·.1)=ns.map aA:=Wr (by rw [Zv,hl3,ra3.len.1];exact Zg _)
     have zl:(ns.zip vs).length=ns.length:=by rw [ZA,hln,Nat.min_self]
     refine ⟨fun H2 kp2 _=>⟨fun n t hn=>?_,fun n hn=>?_⟩,fun b hb=>nomatch hb⟩
     ·rw [em,ZQ] at hn
      obtain ⟨kk,hk1,hk2⟩:=Zw.mp hn
      have hnl:=(Zf.mp hk1).1
      refine ⟨⟨kp2.frz _ _ _ ar,by rw [zl];exact hnl⟩,fun y H3 hy=>?_⟩
      obtain ⟨rfl,p,hp,rfl⟩:=hy
      refine ⟨aD.refl _,[],?_,fun b hb=>nomatch hb⟩
      have hp1:p.1=kk:=by
       have hzip:(ns.zip vs)[n]?=some p:=hp
       rw [Yq] at hzip
       rw [hk1] at hzip
       exact (Zk hzip.1).symm
      have hi:isInt t=true:=by
       have:=Yx.mp hint (t,ts3[n]'(by rw [← ra3.len.1,← hl3];exact hnl)) (by
        refine Yn (i:=n) ?_
        rw [Yq]
        exact ⟨by rw [ZQ,hk1];exact congrArg some hk2,Zr _⟩)
       exact this
      rw [hp1,← hk2]
      rw [← hk2] at hi
      cases kk with
      | inl n=>exact .int n
      | inr z=>cases hi
     ·refine ⟨kp2.frz _ _ _ ar,?_⟩
      rw [em,Zv] at hn
      rw [zl]
      exact hn
    ·cases e2
   ·cases e2
  ·cases e
end
noncomputable def fnm (ns:List Str) (k:Nat):Str:=match ns[k]? with
 | some x=>x
 | none=>⟨#[k]⟩
noncomputable def gxO (ns:List Str) (K:Y2) (C D:Addr):Gx:=⟨K,fun c=>(if c=2 then D else C,fnm ns),fun _=>none⟩
theorem ze {ns:List Str} (nd:ns.Nodup) (h:∀ x∈ns,x.cps.size ≠ 1) (k k':Nat) (e:fnm ns k=fnm ns k'):k=k':=by
 unfold fnm at e
 by_cases h1:k < ns.length
 ·by_cases h2:k' < ns.length
  ·rw [Zr h1,Zr h2] at e
   exact (List.getElem_inj nd).mp e
  ·rw [Zr h1,Z2 (ZE h2)] at e
   have e':ns[k]=(⟨#[k']⟩:Str):=e
   exact absurd (by rw [e'];rfl) (h _ (Z4 h1))
 ·by_cases h2:k' < ns.length
  ·rw [Z2 (ZE h1),Zr h2] at e
   have e':(⟨#[k]⟩:Str)=ns[k']:=e
   exact absurd (by rw [← e'];rfl) (h _ (Z4 h2))
  ·rw [Z2 (ZE h1),Z2 (ZE h2)] at e
   have e':(⟨#[k]⟩:Str)=⟨#[k']⟩:=e
   cases e'
   rfl
theorem yZ {ns:List Str} {K:Y2} {C D:Addr} {m:Me} (nd:ns.Nodup) (h:∀ x∈ns,x.cps.size ≠ 1):jt ((gxO ns K C D).at m):=fun _ k k' e=>ze nd h k k' e
theorem iX {ns:List Str} {x:Str} (h:x ∉ ns) (h1:x.cps.size ≠ 1) (k:Nat):fnm ns k ≠ x:=fun e=>by
 unfold fnm at e
 split at e
 ·rename_i y hy
  exact h (e ▸ Yn hy)
 ·exact h1 (by rw [← e];rfl)
theorem Au {ns:List Str} {K:Y2} {C D:Addr} {m:Me} {k:Nat} {f:Str} (hk:ns[k]?=some f) (cC:Cls K C) (cD:Cls K D) (nC:dW K C f) (nD:dW K D f):FldOk ((gxO ns K C D).at m) K k f :=
 ⟨fun c=>by show fnm ns k=f;unfold fnm;rw [hk],fun c=>by show Cls K (if c+1=2 then D else C);split <;> assumption,fun c=>by show dW K (if c+1=2 then D else C) f;split <;> assumption⟩
structure MtAt (P:Program) (w:World) (K:Y2) (mg:Xu) (base:Heap) (k:Nat) (G:Gx) (c:Nat) (x:Str) (ps:List Str) (mv:List Bool) (g:Mt):Prop where
 ex:∃ f fd,FnOk P w K mg base CX0 k f fd ps (spM G c mv g)/\Meth K (G.ct (c+1)).1 x f/\Binds K fd ps []
 cl:Cls K (G.ct (c+1)).1
 no:∀ k,(G.ct (c+1)).2 k ≠ x
structure MpAt (P:Program) (w:World) (K:Y2) (mg:Xu) (base:Heap) (k:Nat) (G:Gx) (c:Nat) (x:Str) (ps:List Str) (h:Fn):Prop where
 ex:∃ f fd,FnOk P w K mg base CX0 k f fd ps (spF G h)/\Meth K (G.ct (c+1)).1 x f/\Binds K fd ps []
 cl:Cls K (G.ct (c+1)).1
 no:∀ k,(G.ct (c+1)).2 k ≠ x
structure InAt (P:Program) (w:World) (K:Y2) (mg:Xu) (base:Heap) (k:Nat) (G:Gx) (c n:Nat) (x:Str) (ps:List Str) (g:Mt):Prop where
 ex:∃ f fd,FnOk P w K mg base CX0 k f fd ps (spM G c (List.replicate n false) g)/\Mk K (G.ct (c+1)).1 f/\Binds K fd ps []
 mg:mg x=some (.ref (G.ct (c+1)).1)
section
variable {P:Program} {w:World} {K:Y2} {mg:Xu} {base:Heap} {k c n:Nat} {G:Gx} {x:Str} {ps:List Str} {mv:List Bool} {g:Mt}
theorem MtAt.at {m:Me} (h:MtAt P w K mg base k G c x ps mv g):MtAt P w K mg base k (G.at m) c x ps mv g:=⟨h.ex,h.cl,h.no⟩
theorem InAt.at {m:Me} (h:InAt P w K mg base k G c n x ps g):InAt P w K mg base k (G.at m) c n x ps g:=⟨h.ex,h.mg⟩
theorem oz {qual:Str} {st:Stmt} {f:Addr} {fd:FuncData} {N:List Str} {np nn:Nat} {body:Sx} (F:Fun K x qual st f fd) (hm:Meth K (G.ct (c+1)).1 x f) (hc:Cls K (G.ct (c+1)).1) (hno:∀ k,(G.ct (c+1)).2 k ≠ x) (S:FnScope N ps (ai st)) (hp:ps.length=np) (hn:N.length=nn)
  (hbd:∀ (kV doc pm:Value) (an:Option Addr) (cdv ct:Value) (us:Wx),us.length=ps.length->bindArgs (PySem.W.fnOf x qual (dM st) (aW st) (ai st) .none kV doc pm an cdv ct) ⟨us,[]⟩=pure (ps.zip us))
  (hb:∀ (a:Addr) (cdv:Value) (A:Around) (outer:List PySem.Env) (s:Shared) (H:Hp) (E:XK),Room k (A.deeper (envOfC qual (ai st) s.heap.objs.size f cdv))->fY (G.at (meA a)) (iI CX0 P w K mg base N qual (ai st) f cdv A outer s H E).nox (aW st) body) :
  MtAt P w K mg base (k+1) G c x ps mv (mfn c np nn mv body):=⟨⟨f,fd,fnM F S hp hn hb,hm,F.binds hbd⟩,hc,hno⟩
theorem AV {y qual:Str} {st:Stmt} {f:Addr} {fd:FuncData} {N:List Str} {np nn:Nat} {body:Sx} (F:Fun K y qual st f fd) (hm:Mk K (G.ct (c+1)).1 f) (hg:mg x=some (.ref (G.ct (c+1)).1)) (S:FnScope N ps (ai st)) (hp:ps.length=np) (hn:N.length=nn)
  (hbd:∀ (kV doc pm:Value) (an:Option Addr) (cdv ct:Value) (us:Wx),us.length=ps.length->bindArgs (PySem.W.fnOf y qual (dM st) (aW st) (ai st) .none kV doc pm an cdv ct) ⟨us,[]⟩=pure (ps.zip us))
  (hb:∀ (a:Addr) (cdv:Value) (A:Around) (outer:List PySem.Env) (s:Shared) (H:Hp) (E:XK),Room k (A.deeper (envOfC qual (ai st) s.heap.objs.size f cdv))->fY (G.at (meA a)) (iI CX0 P w K mg base N qual (ai st) f cdv A outer s H E).nox (aW st) body) :
  InAt P w K mg base (k+1) G c n x ps (mfn c np nn (List.replicate n false) body):=⟨⟨f,fd,fnM F S hp hn hb,hm,F.binds hbd⟩,hg⟩
theorem qO {qual:Str} {st:Stmt} {f:Addr} {fd:FuncData} {N:List Str} {np nn:Nat} {body:Sx} (F:Fun K x qual st f fd) (hm:Meth K (G.ct (c+1)).1 x f) (hc:Cls K (G.ct (c+1)).1) (hno:∀ k,(G.ct (c+1)).2 k ≠ x) (S:FnScope N ps (ai st)) (hp:ps.length=np) (hn:N.length=nn)
  (hbd:∀ (kV doc pm:Value) (an:Option Addr) (cdv ct:Value) (us:Wx),us.length=ps.length->bindArgs (PySem.W.fnOf x qual (dM st) (aW st) (ai st) .none kV doc pm an cdv ct) ⟨us,[]⟩=pure (ps.zip us))
  (hb:∀ (cdv:Value) (A:Around) (outer:List PySem.Env) (s:Shared) (H:Hp) (E:XK),Room k (A.deeper (envOfC qual (ai st) s.heap.objs.size f cdv))->fY G (iI CX0 P w K mg base N qual (ai st) f cdv A outer s H E).nox (aW st) body) :
  MpAt P w K mg base (k+1) G c x ps (fn np nn body):=⟨⟨f,fd,fnV F S hp hn hb,hm,F.binds hbd⟩,hc,hno⟩
end
section
variable {G:Gx} {X:Cx} {i j c k k' kr n:Nat} {way:List Stp} {o e b:Expr} {es:List Expr} {cs:Exs} {ca ck ce:Ex} {m x:Str} {ps:List Str} {mv:List Bool} {g:Mt} {h:Fn} {xc:Xx} {f:Str} {apos cpos pos pos' p p1:Pos}
theorem gz {pl:Sem Bool} (J:jt G) (F:MtAt X.prog X.w X.K X.mg X.base k G c m ps mv g) (hr:Room k' X.A) (hk:k<=k') (ho:PPl G X o i way) (ha:PVs G X (e :: es) cs)
  (hst:starEach (e :: es) X.env=(false,eval e X.env) :: starEach es X.env) (hpl:(backTo pos (starEach es X.env)).any (·.1)=false)
  (ht:eval (.Call (.Attribute o m apos) (e :: es) [] pos) X.env=(do
   let ov ← eval o X.env
   standAt apos.atName
   let (f,first) ← holding [ov] (getMethod ov m pl)
   callWith pos f first (backTo pos (starEach (e :: es) X.env)) (backToKw pos (keywordEach [] X.env)))):PX G X (.Call (.Attribute o m apos) (e :: es) [] pos) (bR i way c mv g cs):=by
 obtain ⟨f,fd,h1,h2,h3⟩:=F.ex
 exact zu J F.no ho F.cl h2 h1 hr hk h3 ha hst hpl ht
theorem zd {pl:Sem Bool} (F:MpAt X.prog X.w X.K X.mg X.base k G c m ps h) (hr:Room k' X.A) (hk:k<=k') (ho:PV G X o ca) (ha:PVs G X (e :: es) cs)
  (hst:starEach (e :: es) X.env=(false,eval e X.env) :: starEach es X.env) (hpl:(backTo pos (starEach es X.env)).any (·.1)=false)
  (ht:eval (.Call (.Attribute o m apos) (e :: es) [] pos) X.env=(do
   let ov ← eval o X.env
   standAt apos.atName
   let (f,first) ← holding [ov] (getMethod ov m pl)
   callWith pos f first (backTo pos (starEach (e :: es) X.env)) (backToKw pos (keywordEach [] X.env)))):PV G X (.Call (.Attribute o m apos) (e :: es) [] pos) (fI c h ca cs):=by
 obtain ⟨f,fd,h1,h2,h3⟩:=F.ex
 exact Br F.no ho F.cl h2 h1 hr hk h3 ha hst hpl ht
theorem oP {pl:Sem Bool} (F:MpAt X.prog X.w X.K X.mg X.base k G c m ps h) (hr:Room k' X.A) (hk:k<=k') (ho:PV G X o ca)
  (ht:eval (.Call (.Attribute o m apos) [] [] pos) X.env=(do
   let ov ← eval o X.env
   standAt apos.atName
   let (f,first) ← holding [ov] (getMethod ov m pl)
   callWith pos f first (backTo pos (starEach [] X.env)) (backToKw pos (keywordEach [] X.env)))):PV G X (.Call (.Attribute o m apos) [] [] pos) (fI c h ca aj):=by
 obtain ⟨f,fd,h1,h2,h3⟩:=F.ex
 exact zJ F.no ho F.cl h2 h1 hr hk h3 ht
theorem yw (F:InAt X.prog X.w X.K X.mg X.base k G c 0 x ps g) (hr:Room k' X.A) (hk:k+1<=k') (hg:Gl X x) (hdb:(x == ("__debug__" : Str))=false):PV G X (.Call (.Name x p) [] [] pos) (eNew c g aj):=by
 obtain ⟨f,fd,h1,h2,h3⟩:=F.ex
 exact Bd h2 h1 hr hk hg F.mg h3 hdb
theorem wk (J:jt G) (ho:PPl G X o i way) (ha:PVs G X [e] cs) (hK:X.K=G.K)
  (hbase:attributeBase o "append" X.env (eval o X.env)=eval o X.env)
  (hfew:((backTo cpos (starEach [e] X.env)).all (fun x=>!x.1) && (backToKw cpos (keywordEach [] X.env)).all (fun x=>x.1.isSome)
   && decide ([e].length+([]:List Keyword).length+(if ([]:List Keyword).isEmpty then 0 else 1) < 30))=true)
  (hline:(apos.endLine == cpos.line)=true) (hs:starEach [e] X.env=(false,eval e X.env) :: starEach [] X.env) (hplain:(backTo cpos (starEach [] X.env)).any (·.1)=false)
  (hsw:swapsWith (.Call (.Attribute o "append" apos) [e] [] cpos) none pos.line X.env=pure false) :
  PSV G X (.Expr (.Call (.Attribute o "append" apos) [e] [] cpos) pos) (sX (kz i way aH cs)) :=
 vF J YU YX YY fe iD (fun H v t F l z r h=>h9 r h) ho ha hK hbase hfew hline hs hplain hsw
end
noncomputable def mkT (m:Nat) (t:T):T:=.obj 0 [(0,.bl true),(m,t)]
noncomputable def unT:T->Option (Nat×T)
 | .obj 0 [(0,.bl true),(m,t)]=>some (m,t)
 | _=>none
theorem kN {t u:T} {m:Nat} (h:unT t=some (m,u)):t=mkT m u:=by
 unfold unT at h
 split at h
 ·cases h;rfl
 ·cases h
noncomputable def pY (vs:List V):Me:=fun k=>match k with
 | 0=>none
 | k+1=>vs[k]?
noncomputable def markL:Nat->List Bool->Wi->Wi
 | k,b :: bs,t :: ts=>(if b then mkT (k+1) t else t) :: markL (k+1) bs ts
 | _,_,_=>[]
noncomputable def kh (η:VS.Env):Nat->List Bool->Option (Wi)
 | _,[]=>some []
 | k,true :: bs=>match (η[k]?:Option (Wm)) with
  | some (some (.ow t))=>(unT t).bind fun z=>if z.1=k+1 then (kh η (k+1) bs).map (z.2 :: ·) else none
  | _=>none
 | k,false :: bs=>kh η (k+1) bs
noncomputable def c9 {α:Type}:List Bool->List α->List α
 | true :: bs,x :: xs=>x :: c9 bs xs
 | false :: bs,_ :: xs=>c9 bs xs
 | _,_=>[]
noncomputable def ioΦ (Φ:Fps):Nat->List Bool->Y1
 | _,[]=>[]
 | k,true :: bs=>Φ k :: ioΦ Φ (k+1) bs
 | k,false :: bs=>ioΦ Φ (k+1) bs
noncomputable def v9:T->Bool
 | .str _=>true
 | _=>false
noncomputable def tU (os:Wi) (v:Val):Bool:=imm v.2 || (match os,v with
 | [.lst [.int _]],(.fr,.lst ts)=>ts.all v9
 | _,_=>false)
theorem xX {os:Wi} {v:Val} (h:tU os v=true):imm v.2=true\/∃ n ts,os=[.lst [.int n]]/\v=(.fr,.lst ts)/\ts.all v9=true:=by
 unfold tU at h
 rcases Bool.or_eq_true_iff.mp h with h | h
 ·exact .inl h
 ·split at h
  ·exact .inr ⟨_,_,rfl,rfl,h⟩
  ·cases h
theorem pC {ts:Wi} (h:ts.all v9=true):dv ts=true/\aY ts=true:=by
 induction ts with
 | nil=>exact ⟨rfl,rfl⟩
 | cons t ts ih =>
  rw [Xp,Zb] at h
  cases t <;> first | exact ih h.2 | cases h.1
noncomputable def ifn (np nn:Nat) (mv:List Bool) (body:Sx):Wi->Option (Wi×T)
 | t0 :: ts=>if ts.length+1=np/\mv.length=ts.length then
  (body ((some (.ow (mkT 1 t0)) :: List.zipWith hJ mv (markL 1 mv ts))++List.replicate (nn - np) none)).bind fun o=>match o with
   | .rt v η=>(kh η 0 (true :: mv)).bind fun os=>if tU os v=true/\aY os=true then some (os,v.2) else none
   | .nx η=>(kh η 0 (true :: mv)).bind fun os=>if aY os=true then some (os,.non) else none
   | _=>none else none
 | []=>none
structure ChI (G:Gx) (H:Hp) (mv:List Bool) (vs:List V) (Fs:Y1) (os:Wi) (H2:Hp) (Gs:Y1):Prop where
 kept:Kept H H2
 keep:∀ b o,b ∉ mvF mv Fs->H b=some o->H2 b=some o
 dom:∀ b,H b ≠ none->H2 b ≠ none
 rp:RpL G H2 (c9 mv vs) os Gs
 nd:Gs.flatten.Nodup
 sub:∀ a∈Gs.flatten,a∈mvF mv Fs\/H a=none
noncomputable def spI (G:Gx) (mv:List Bool) (g:Wi->Option (Wi×T)):Sp:=fun vs H Q _=>∃ (a:Addr) (us:List V) (t0:T) (ts:Wi) (F:X0) (Fs:Y1) (os:Wi) (x:T),vs=.ref a :: us/\Rp G H (.ref a) t0 F/\RpL G H us ts Fs/\(∀ v∈c9 mv us,∃ b,v=.ref b)/\fE t0=true/\aY ts=true/\mv.length=ts.length ∧
 (F++mvF mv Fs).Nodup/\(∀ b∈F++mvF mv Fs,b ∉ puF mv Fs)/\g (t0 :: ts)=some (os,x)/\∀ u H' Gs Fu,ChI G H (true :: mv) vs (F :: Fs) os H' Gs->Rp G H' u x Fu->Fu.Nodup->(∀ a∈Fu,a ∉ Gs.flatten)->(∀ a∈Fu,H a=none\/a∈F++mvF mv Fs)->Q u H'
section
variable {G:Gx} {H:Hp}
theorem new_apart {G':Gx} {vs:List V} {n:Int} {Gs:Y1} {u:V} {ts:Wi} {F:X0} (r:RpL G H vs [.lst [.int n]] Gs) (q:Rp G' H u (.lst ts) F) (hs:ts.all v9=true):∀ a∈F,a ∉ Gs.flatten:=by
 cases r with
 | cons r0 r1 =>
  cases r1
  obtain ⟨a,vs,Fs,rfl,rfl,h1,h2⟩:=r0.lst_inv
  obtain ⟨p,ws,Hs,rfl,rfl,g1,g2⟩:=q.lst_inv
  rw [g2.imm (pC hs).1]
  intro b hb hb'
  rw [Zj] at hb
  subst hb
  cases h2 with
  | cons i0 i1 =>
   cases i1
   cases i0
   have:b=a:=by simpa using hb'
   subst this
   rw [h1] at g1
   cases g1
   cases g2 with
   | cons k0 k1 =>
    cases k1
    cases k0
    cases hs
theorem sM {m:Me}:∀ {bs:List Bool} {us:List V} {ts:Wi} {Fs:Y1} (k:Nat),RpL (G.at m) H us ts Fs->(∀ v∈c9 bs us,∃ b,v=.ref b)->(∀ j,m (k+1+j)=us[j]?)->bs.length=ts.length->RpL (G.at m) H us (markL k bs ts) Fs
 | [],_,_,_,k,.nil,_,_,_=>.nil
 | [],_,_,_,k,.cons _ _,_,_,h=>by simp at h
 | _ :: _,_,_,_,k,.nil,_,_,h=>by simp at h
 | b :: bs,v :: us,t :: ts,F :: Fs,k,.cons r q,hr,hm,hl=>by
  have ih:=sM (bs:=bs) (k+1) q (fun w hw=>hr w (by cases b <;> simp [c9,hw])) (fun j=>by rw [show k+1+1+j=k+1+(j+1) by omega,hm (j+1)];rfl) (by simpa using hl)
  cases b with
  | false=>exact .cons r ih
  | true =>
   obtain ⟨a,rfl⟩:=hr v (by simp [c9])
   exact .cons (.mk (hm 0) r) ih
theorem qP {vs:List V} {Φ:Fps} {η:VS.Env} {σ:L2.St} (s:SR (G.at (pY vs)) Φ η σ H):∀ (bs:List Bool) (k:Nat) (os:Wi),kh η k bs=some os->aY os=true →
  RpL G H (c9 bs (vs.drop k)) os (ioΦ Φ k bs)/\(ioΦ Φ k bs).flatten.Nodup/\∀ a∈(ioΦ Φ k bs).flatten,∃ j t,k<=j/\η[j]?=some (some (.ow t))/\a∈Φ j
 | [],k,os,h,_=>by
  cases h
  refine ⟨?_,Z1,fun a h=>nomatch h⟩
  cases vs.drop k <;> exact .nil
 | false :: bs,k,os,h,hn=>by
  obtain ⟨h1,h2,h3⟩:=qP s bs (k+1) os h hn
  refine ⟨?_,h2,fun a ha=>?_⟩
  ·rw [← List.drop_drop,List.drop_one] at h1
   cases hv:vs.drop k with
   | nil=>rw [hv] at h1;cases bs <;> (try rename_i b _;cases b) <;> exact h1
   | cons v r=>rw [hv] at h1;exact h1
  ·obtain ⟨j,t,a1,a2⟩:=h3 a ha
   exact ⟨j,t,by omega,a2⟩
 | true :: bs,k,os,h,hn=>by
  unfold kh at h
  split at h
  ·rename_i t ht
   obtain ⟨⟨m,u⟩,e1,e2⟩:=Zz.mp h
   split at e2
   ·rename_i hm
    obtain ⟨os',e3,rfl⟩:=Zw.mp e2
    rw [aY,Zb] at hn
    obtain ⟨h1,h2,h3⟩:=qP s bs (k+1) os' e3 hn.2
    have et:=kN e1
    subst et
    have hm':m=k+1:=hm
    subst hm'
    obtain ⟨v,g1,g2⟩:=s.rp k _ ht
    obtain ⟨a,rfl,g3,g4⟩:=lY (show Rp (G.at (pY vs)) H v (.obj 0 [(0,.bl true),(k+1,u)]) (Φ k) from g2)
    have g5:vs[k]?=some (.ref a):=g3
    have hd:vs.drop k=.ref a :: vs.drop (k+1):=by
     obtain ⟨hk,e⟩:=Zf.mp g5
     rw [Xe hk,e]
    refine ⟨?_,?_,fun b hb=>?_⟩
    ·rw [hd]
     exact .cons (g4.at G.me hn.1) h1
    ·show (Φ k++(ioΦ Φ (k+1) bs).flatten).Nodup
     refine ZX.mpr ⟨s.nd k _ ht,h2,fun b hb c hc z=>?_⟩
     subst z
     obtain ⟨j,t',a1,a2,a3⟩:=h3 b hc
     exact s.sep k j _ _ ht a2 (by omega) b hb a3
    ·rcases Ze.mp (show b∈Φ k++(ioΦ Φ (k+1) bs).flatten from hb) with z | z
     ·exact ⟨k,_,Zg _,ht,z⟩
     ·obtain ⟨j,t',a1,a2⟩:=h3 b z
      exact ⟨j,t',by omega,a2⟩
   ·cases e2
  ·cases h
end
section
variable {G:Gx} {P:Program} {w:World} {K:Y2} {mg:Xu} {base:Heap}
theorem fnI {x qual:Str} {st:Stmt} {f:Addr} {fd:FuncData} {N ps:List Str} {k np nn:Nat} {mv:List Bool} {body:Sx} (F:Fun K x qual st f fd) (S:FnScope N ps (ai st)) (hp:ps.length=np) (hn:N.length=nn)
  (hb:∀ (m:Me) (cdv:Value) (A:Around) (outer:List PySem.Env) (s:Shared) (H:Hp) (E:XK),Room k (A.deeper (envOfC qual (ai st) s.heap.objs.size f cdv))->fY (G.at m) (iI CX0 P w K mg base N qual (ai st) f cdv A outer s H E).nox (aW st) body) :
  FnOk P w K mg base CX0 (k+1) f fd ps (spI G mv (ifn np nn mv body)):=by
 refine F.ok S (fun vs H Q E h=>?_) fun cdv A outer s H vs Q E hr h=>?_
 ·obtain ⟨a,us,t0,ts,F0,Fs,os,y,rfl,r0,r,rf,no,nos,hm,nd,sp,e,q⟩:=h
  dsimp only [ifn] at e
  split at e
  ·rename_i hl
   rw [Zn,r.len.1,hl.1,hp]
  ·cases e
 ·obtain ⟨a,us,t0,ts,F0,Fs,os,y,rfl,r0,r,rf,no,nos,hm,nd,sp,e,q⟩:=h
  refine ⟨_,hb (pY (.ref a :: us)) cdv A outer s H E hr,?_⟩
  dsimp only [ifn] at e
  split at e
  ·rename_i hl
   obtain ⟨o,e1,e2⟩:=Zz.mp e
   have hml:∀ (bs:List Bool) (ts:Wi) (k:Nat),bs.length=ts.length->(markL k bs ts).length=ts.length:=by
    intro bs
    induction bs with
    | nil=>intro ts k h;cases ts <;> simp_all [markL]
    | cons b bs ih =>
     intro ts k h
     cases ts with
     | nil=>simp at h
     | cons t ts=>simp only [markL,Zn];rw [ih ts (k+1) (by simpa using h)]
   have m1:=sM (m:=pY (.ref a :: us)) (bs:=mv) 1 (r.at (pY (.ref a :: us)) nos) rf (fun j=>by rw [show 1+1+j=(1+j)+1 by omega];show (V.ref a :: us)[1+j]?=_;rw [X7 1 j];rfl) hm
   obtain ⟨s0,ow0⟩:=o8 (mv:=mv) (Rp.mk (m:=1) (show (G.at (pY (.ref a :: us))).me 1=some (.ref a) from rfl) (r0.at (pY (.ref a :: us)) no)) m1 (by rw [hml mv ts 1 hm];exact hm) nd sp nn (us.length+1) rfl
   rw [hml mv ts 1 hm,hl.1] at s0 ow0
   have e3:L2.start N (V.ref a :: us)=(V.ref a :: us).map some++List.replicate (nn - (us.length+1)) none:=by
    unfold L2.start
    rw [hn]
    rfl
   rw [e3]
   have ow1:∀ b,bc (fun i=>(F0 :: Fs).getD i []) ((some (.ow (mkT 1 t0)) :: List.zipWith hJ mv (markL 1 mv ts))++List.replicate (nn - np) none) b->b∈mvF (true :: mv) (F0 :: Fs):=ow0
   have fin:∀ {η':VS.Env} {Φ':Fps} {σ':L2.St} {H':Hp} {os:Wi},kh η' 0 (true :: mv)=some os->aY os=true->SR (G.at (pY (.ref a :: us))) Φ' η' σ' H'->Frm (fun i=>(F0 :: Fs).getD i []) ((some (.ow (mkT 1 t0)) :: List.zipWith hJ mv (markL 1 mv ts))++List.replicate (nn - np) none) H Φ' η' H' →
     ChI G H (true :: mv) (.ref a :: us) (F0 :: Fs) os H' (ioΦ Φ' 0 (true :: mv)):=fun {η' Φ' σ' H' os} ho hno s' fr=>by
    obtain ⟨h1,h2,h3⟩:=qP s' (true :: mv) 0 os ho hno
    refine ⟨fr.kept,fun b' o' hb' ho=>(fr.keep b' o' ho fun z=>hb' (ow1 b' z)).1,fr.dom,h1,h2,fun b' hb'=>?_⟩
    obtain ⟨j,t,_,a2,a3⟩:=h3 b' hb'
    rcases fr.ow b' ⟨j,t,a2,a3⟩ with z | z
    ·exact .inl (ow1 b' z)
    ·exact .inr z
   refine ⟨_,_,o,s0,e1,?_⟩
   cases o with
   | nx η' =>
    obtain ⟨os2,e4,e5⟩:=Zz.mp e2
    split at e5
    ·rename_i hi
     cases e5
     intro Φ' σ' H' s' fr
     exact q .non H' _ [] (fin e4 hi s' fr) .non Z1 (fun a h=>nomatch h) fun a h=>nomatch h
    ·cases e5
   | rt v η' =>
    obtain ⟨os2,e4,e5⟩:=Zz.mp e2
    split at e5
    ·rename_i hi
     cases e5
     intro u H' F' Φ' σ' s' fr r' rf
     rcases xX hi.1 with z | ⟨n,ts',rfl,rfl,z⟩
     ·have:=r'.imm z
      subst this
      exact q u H' _ [] (fin e4 hi.2 s' fr) (r'.at G.me (lT _ z)) Z1 (fun a h=>nomatch h) fun a h=>nomatch h
     ·have ch:=fin e4 hi.2 s' fr
      exact q u H' _ F' ch (r'.at G.me (pC z).2) rf.1 (new_apart ch.rp r' z) fun a ha=>(rf.2 a ha).imp id (ow1 a)
    ·cases e5
   | bk η'=>cases e2
   | ct η'=>cases e2
  ·cases e
end
section
variable {G:Gx}
theorem SR.mutS {Φ Φ':Fps} {η η':VS.Env} {σ:L2.St} {H H2:Hp} {S:Nat->Prop} (s:SR G Φ η σ H) (hl:η'.length=η.length) (off:∀ j,¬ S j->η'[j]?=η[j]?/\Φ' j=Φ j) (on:∀ j,S j->∃ t t' v,η[j]?=some (some (.ow t))/\η'[j]?=some (some (.ow t'))/\σ[j]?=some (some v)/\Rp G H2 v t' (Φ' j)/\(Φ' j).Nodup)
  (ap:∀ i j,S i->S j->i ≠ j->∀ a∈Φ' i,a ∉ Φ' j) (kept:Kept H H2) (keep:∀ b o,(∀ j,S j->b ∉ Φ j)->H b=some o->H2 b=some o) (dom:∀ b,H b ≠ none->H2 b ≠ none) (sub:∀ j,S j->∀ a∈Φ' j,(∃ i,S i/\a∈Φ i)\/H a=none) :
  SR G Φ' η' σ H2/\Frm Φ η H Φ' η' H2:=by
 have far:∀ j c,¬ S j->η[j]?=some (some c)->∀ a∈Φ j,∀ i,S i->a ∉ Φ i:=fun j c hj hc a ha i hi ha'=>by
  obtain ⟨t,_,_,h1,_⟩:=on i hi
  exact s.sep i j t c h1 hc (fun e=>hj (e ▸ hi)) a ha' ha
 have new:∀ i,S i->∀ a∈Φ' i,∀ j c,¬ S j->η[j]?=some (some c)->a ∉ Φ j:=fun i hi a ha j c hj hc ha'=>by
  rcases sub i hi a ha with ⟨k,hk,z⟩ | z
  ·exact far j c hj hc a ha' k hk z
  ·obtain ⟨w,_,q⟩:=s.rp j c hc
   exact Mut.ne_none (q.dom a ha') z
 refine ⟨⟨hl.trans s.len,fun i c h=>?_,fun i t h=>?_,fun i j t c h1 h2 n=>?_⟩,⟨fun a o h n=>⟨keep a o (fun j hj z=>?_) h,fun z=>?_⟩,dom,fun a h=>?_,fun a h=>?_,kept⟩⟩
 ·by_cases hi:S i
  ·obtain ⟨t,t',v,g1,g2,g3,g4,_⟩:=on i hi
   rw [g2] at h
   cases h
   exact ⟨v,g3,g4⟩
  ·obtain ⟨g1,g2⟩:=off i hi
   rw [g1] at h
   obtain ⟨v,q1,q2⟩:=s.rp i c h
   rw [g2]
   exact ⟨v,q1,q2.keep kept fun a ha o ho=>keep a o (fun j hj=>far i c hi h a ha j hj) ho⟩
 ·by_cases hi:S i
  ·exact (on i hi).choose_spec.choose_spec.choose_spec.2.2.2.2
  ·obtain ⟨g1,g2⟩:=off i hi
   rw [g1] at h
   rw [g2]
   exact s.nd i t h
 ·by_cases hi:S i
  ·by_cases hj:S j
   ·exact ap i j hi hj n
   ·obtain ⟨g1,g2⟩:=off j hj
    rw [g1] at h2
    rw [g2]
    exact fun a ha=>new i hi a ha j c hj h2
  ·obtain ⟨g1,g2⟩:=off i hi
   rw [g1] at h1
   rw [g2]
   by_cases hj:S j
   ·exact fun a ha ha'=>new j hj a ha' i _ hi h1 ha
   ·obtain ⟨g3,g4⟩:=off j hj
    rw [g3] at h2
    rw [g4]
    exact s.sep i j t c h1 h2 n
 ·obtain ⟨t,_,_,h1,_⟩:=on j hj
  exact n ⟨j,t,h1,z⟩
 ·obtain ⟨j,t,h1,h2⟩:=z
  by_cases hj:S j
  ·rcases sub j hj a h2 with ⟨i,hi,z⟩ | z
   ·obtain ⟨t,_,_,g1,_⟩:=on i hi
    exact n ⟨i,t,g1,z⟩
   ·rw [z] at h;cases h
  ·obtain ⟨g1,g2⟩:=off j hj
   rw [g1] at h1
   rw [g2] at h2
   exact n ⟨j,t,h1,h2⟩
 ·obtain ⟨j,t,h1,h2⟩:=h
  by_cases hj:S j
  ·rcases sub j hj a h2 with ⟨i,hi,z⟩ | z
   ·obtain ⟨t,_,_,g1,_⟩:=on i hi
    exact .inl ⟨i,t,g1,z⟩
   ·exact .inr z
  ·obtain ⟨g1,g2⟩:=off j hj
   rw [g1] at h1
   rw [g2] at h2
   exact .inl ⟨j,t,h1,h2⟩
 ·obtain ⟨j,t,h1,h2⟩:=h
  by_cases hj:S j
  ·obtain ⟨t,t',v,g1,g2,_⟩:=on j hj
   rw [g2] at h1
   cases h1
  ·obtain ⟨g1,g2⟩:=off j hj
   rw [g1] at h1
   rw [g2] at h2
   exact .inl ⟨j,t,h1,h2⟩
end
inductive Ia where | io (i:Nat) (un:Bool) | ex (c:Ex)
noncomputable def ioV (un:Bool):Option (Wm)->Option T
 | some (some (.ow t))=>if un then (unT t).map (·.2) else if mw t then some t else none
 | _=>none
noncomputable def exV (v:Val):Option T:=match v.1 with
 | .bo=>if imm v.2 then some v.2 else none
 | _=>some v.2
noncomputable def i9 (η:VS.Env):List Ia->Option (Wi)
 | []=>some []
 | .io i un :: as=>(ioV un η[i]?).bind fun t=>(i9 η as).map (t :: ·)
 | .ex c :: as=>(c η).bind fun v=>(exV v).bind fun t=>(i9 η as).map (t :: ·)
noncomputable def iaB:List Ia->List Bool
 | []=>[]
 | .io _ _ :: as=>true :: iaB as
 | .ex _ :: as=>false :: iaB as
noncomputable def iaS:List Ia->Wq
 | []=>[]
 | .io i _ :: as=>i :: iaS as
 | .ex _ :: as=>iaS as
noncomputable def mr (un:Bool) (c:Option (Wm)) (o:T):T:=if un then (match c with
 | some (some (.ow t))=>(match unT t with
  | some z=>mkT z.1 o
  | none=>o)
 | _=>o) else o
noncomputable def gO:List Ia->Wi->VS.Env->VS.Env
 | .io i un :: as,o :: os,η=>gO as os (η.set i (some (.ow (mr un η[i]? o))))
 | .ex _ :: as,os,η=>gO as os η
 | _,_,η=>η
noncomputable def kb (as:List Ia) (g:Wi->Option (Wi×T)):Xx:=fun η=>(i9 η as).bind fun ts=>if aY ts=true/\(iaS as).Nodup then (g ts).map fun z=>((.fr,z.2),gO as z.1 η) else none
inductive IaR (Φ:Fps) (η:VS.Env) (σ:L2.St) (H:Hp):List Ia->List V->Y1->Prop
 | nil:IaR Φ η σ H [] [] []
 | io {i:Nat} {un:Bool} {a:Addr} {as:List Ia} {vs:List V} {Fs:Y1}:σ[i]?=some (some (.ref a))->IaR Φ η σ H as vs Fs->IaR Φ η σ H (.io i un :: as) (.ref a :: vs) (Φ i :: Fs)
 | ex {c:Ex} {v:V} {F:X0} {as:List Ia} {vs:List V} {Fs:Y1}:(∀ a∈F,H a=none\/cB Φ η a)->IaR Φ η σ H as vs Fs->IaR Φ η σ H (.ex c :: as) (v :: vs) (F :: Fs)
section
variable {G:Gx} {X:Cx} {e:Expr} {es:List Expr} {as:List Ia} {c:Ex} {pos:Pos}
theorem BQ {H:Hp} {v:V} {t:T} {F:X0} (r:Rp G H v t F) (h:mw t=true):∃ a,v=.ref a:=by
 cases r <;> first | exact ⟨_,rfl⟩ | (simp at h)
end
section
variable {G:Gx} {Φ:Fps} {η:VS.Env} {σ:L2.St} {H:Hp}
structure IaF (G:Gx) (Φ:Fps) (η:VS.Env) (σ:L2.St) (H:Hp) (as:List Ia) (ts:Wi) (vs:List V) (Fs:Y1):Prop where
 ref:∀ v∈c9 (iaB as) vs,∃ b,v=.ref b
 len:(iaB as).length=ts.length
 mv:∀ a,a∈mvF (iaB as) Fs ↔ ∃ j∈iaS as,a∈Φ j
 pu:∀ a∈puF (iaB as) Fs,H a=none\/cB Φ η a
 ow:∀ i un,Ia.io i un∈as->∃ t a,η[i]?=some (some (.ow t))/\σ[i]?=some (some (.ref a))/\(un=true->∃ m u,unT t=some (m,u)/\G.me m=some (.ref a))
 nd:(iaS as).Nodup->(mvF (iaB as) Fs).Nodup
theorem iz:∀ {as:List Ia} {i:Nat},i∈iaS as ↔ ∃ un,Ia.io i un∈as
 | [],i=>⟨(fun h=>nomatch h),fun ⟨_,h⟩=>nomatch h⟩
 | .io j un :: as,i=>by
  show i∈j :: iaS as ↔ _
  rw [Zo,iz]
  constructor
  ·rintro (rfl | ⟨u,h⟩)
   ·exact ⟨un,Zx⟩
   ·exact ⟨u,Zy _ h⟩
  ·rintro ⟨u,h⟩
   rcases Zo.mp h with h | h
   ·cases h;exact .inl rfl
   ·exact .inr ⟨u,h⟩
 | .ex c :: as,i=>by
  show i∈iaS as ↔ _
  rw [iz]
  exact ⟨fun ⟨u,h⟩=>⟨u,Zy _ h⟩,fun ⟨u,h⟩=>by
   rcases Zo.mp h with h | h
   ·cases h
   ·exact ⟨u,h⟩⟩
theorem xq (s:SR G Φ η σ H):∀ {as:List Ia} {ts:Wi} {vs:List V} {Fs:Y1},i9 η as=some ts->IaR Φ η σ H as vs Fs->IaF G Φ η σ H as ts vs Fs:=by
 intro as
 induction as with
 | nil =>
  intro ts vs Fs e r
  cases e
  cases r
  exact ⟨(fun v h=>nomatch h),rfl,fun a=>⟨(fun h=>nomatch h),fun ⟨_,h,_⟩=>nomatch h⟩,(fun a h=>nomatch h),(fun i un h=>nomatch h),fun _=>Z1⟩
 | cons x as ih =>
  intro ts vs Fs e r
  cases r with
  | @io i un a _ vs Fs h r =>
   obtain ⟨t,e1,e2⟩:=Zz.mp (show (ioV un η[i]?).bind (fun t=>(i9 η as).map (t :: ·))=some ts from e)
   obtain ⟨ts',e3,rfl⟩:=Zw.mp e2
   have f:=ih e3 r
   have hi:∃ t0,η[i]?=some (some (.ow t0))/\(un=true->∃ m u,unT t0=some (m,u)/\G.me m=some (.ref a)):=by
    unfold ioV at e1
    split at e1
    ·rename_i t0 h0
     refine ⟨t0,h0,fun hu=>?_⟩
     rw [hu,Zq rfl] at e1
     obtain ⟨⟨m,u⟩,g1,g2⟩:=Zw.mp e1
     obtain ⟨v,h1,h2⟩:=s.rp _ _ h0
     rw [h] at h1
     cases h1
     have h2':Rp G H (.ref a) t0 (Φ i):=h2
     rw [kN g1] at h2'
     obtain ⟨a',q1,q2,_⟩:=lY h2'
     cases q1
     exact ⟨m,u,g1,q2⟩
    ·cases e1
   obtain ⟨t0,h0,hu⟩:=hi
   have mvc:∀ b,b∈Φ i++mvF (iaB as) Fs ↔ ∃ j∈i :: iaS as,b∈Φ j:=fun b=>by
    rw [Ze,f.mv]
    constructor
    ·rintro (z | ⟨j,hj,z⟩)
     ·exact ⟨i,Zx,z⟩
     ·exact ⟨j,Zy _ hj,z⟩
    ·rintro ⟨j,hj,z⟩
     rcases Zo.mp hj with rfl | hj
     ·exact .inl z
     ·exact .inr ⟨j,hj,z⟩
   refine ⟨fun v hv=>?_,?_,mvc,?_,fun i' un' h'=>?_,fun nd=>?_⟩
   ·rcases Zo.mp (show v∈V.ref a :: c9 (iaB as) vs from hv) with rfl | hv
    ·exact ⟨a,rfl⟩
    ·exact f.ref v hv
   ·show (iaB as).length+1=ts'.length+1
    rw [f.len]
   ·exact fun b hb=>f.pu b hb
   ·rcases Zo.mp h' with h' | h'
    ·cases h'
     exact ⟨t0,a,h0,h,hu⟩
    ·exact f.ow i' un' h'
   ·have nd':=Zh.mp (show (i :: iaS as).Nodup from nd)
    show (Φ i++mvF (iaB as) Fs).Nodup
    refine ZX.mpr ⟨s.nd i _ h0,f.nd nd'.2,fun b hb b' hb' z=>?_⟩
    subst z
    obtain ⟨j,hj,z⟩:=(f.mv b).mp hb'
    obtain ⟨un',hj'⟩:=iz.mp hj
    obtain ⟨t',_,g1,_⟩:=f.ow j un' hj'
    exact s.sep i j _ _ h0 g1 (fun e=>nd'.1 (e ▸ hj)) b hb z
  | @ex c v F _ vs Fs h r =>
   obtain ⟨⟨m,t⟩,e1,e2⟩:=Zz.mp (show (c η).bind (fun v=>(exV v).bind fun t=>(i9 η as).map (t :: ·))=some ts from e)
   obtain ⟨t',_,e4⟩:=Zz.mp e2
   obtain ⟨ts',e5,rfl⟩:=Zw.mp e4
   have f:=ih e5 r
   refine ⟨f.ref,?_,f.mv,fun a ha=>?_,fun i' un' h'=>?_,f.nd⟩
   ·show (iaB as).length+1=ts'.length+1
    rw [f.len]
   ·rcases Ze.mp (show a∈F++puF (iaB as) Fs from ha) with z | z
    ·exact h a z
    ·exact f.pu a z
   ·rcases Zo.mp h' with h' | h'
    ·cases h'
    ·exact f.ow i' un' h'
theorem tR {H2:Hp}:∀ {as:List Ia} {vs:List V} {Fs:Y1} {os:Wi} {Gs:Y1} {η:VS.Env},(∀ i un,Ia.io i un∈as->∃ t a,η[i]?=some (some (.ow t))/\σ[i]?=some (some (.ref a))/\(un=true->∃ m u,unT t=some (m,u)/\G.me m=some (.ref a)))->(iaS as).Nodup →
  (∀ (n:Nat) (v:V),(c9 (iaB as) vs)[n]?=some v->∃ i:Nat,(iaS as)[n]?=some i/\σ[i]?=some (some v))->RpL G H2 (c9 (iaB as) vs) os Gs->(c9 (iaB as) vs).length=(iaS as).length →
  (gO as os η).length=η.length/\(∀ j:Nat,j ∉ iaS as->(gO as os η)[j]?=η[j]?)/\∀ (n j:Nat),(iaS as)[n]?=some j->∃ (t t':T) (v:V) (F:X0),η[j]?=some (some (Cell.ow t))/\(gO as os η)[j]?=some (some (Cell.ow t'))/\σ[j]?=some (some v)/\Gs[n]?=some F/\Rp G H2 v t' F:=by
 intro as
 induction as with
 | nil=>intro vs Fs os Gs η _ _ _ r _;exact ⟨rfl,fun _ _=>rfl,fun n j h=>by simp [iaS] at h⟩
 | cons x as ih =>
  intro vs Fs os Gs η ow nd al r hl
  cases x with
  | ex c =>
   cases vs with
   | nil =>
    have e:(c9 (iaB (.ex c :: as)) ([]:List V))=[]:=rfl
    have e2:iaS as=[]:=List.length_eq_zero_iff.mp (by rw [e] at hl;exact hl.symm)
    rw [e] at r
    cases r
    obtain ⟨a1,a2,a3⟩:=ih (vs:=[]) (os:=[]) (Gs:=[]) (Fs:=Fs) (η:=η) (fun i un h=>ow i un (Zy _ h)) nd (fun n v h=>by cases iaB as <;> (try rename_i b _;cases b) <;> simp [c9] at h) (by cases iaB as <;> (try rename_i b _;cases b) <;> exact .nil) (by rw [e2];cases iaB as <;> (try rename_i b _;cases b) <;> rfl)
    exact ⟨a1,a2,a3⟩
   | cons v vs=>exact ih (Fs:=Fs) (fun i un h=>ow i un (Zy _ h)) nd al r hl
  | io i un =>
   have nd':=Zh.mp (show (i :: iaS as).Nodup from nd)
   cases vs with
   | nil=>simp [iaB,c9,iaS] at hl
   | cons v vs =>
    cases r with
    | @cons _ o F _ os Gs r0 r =>
     obtain ⟨t,a,h0,h1,hu⟩:=ow i un Zx
     have hil:i < η.length:=(Zf.mp h0).1
     have hv:v=.ref a:=by
      obtain ⟨i',g1,g2⟩:=al 0 v rfl
      cases (show some i=some i' from g1)
      rw [h1] at g2
      cases g2
      rfl
     subst hv
     obtain ⟨a1,a2,a3⟩:=ih (vs:=vs) (os:=os) (Gs:=Gs) (Fs:=Fs) (η:=η.set i (some (.ow (mr un η[i]? o)))) (fun i' un' h=>by
      obtain ⟨t',a',g1,g2⟩:=ow i' un' (Zy _ h)
      have ne:i ≠ i':=fun e=>nd'.1 (e ▸ iz.mpr ⟨un',h⟩)
      exact ⟨t',a',by rw [Ys ne];exact g1,g2⟩) nd'.2 (fun n w h=>by
      obtain ⟨i',g1,g2⟩:=al (n+1) w h
      exact ⟨i',g1,g2⟩) r (by simpa [iaB,c9,iaS] using hl)
     refine ⟨by rw [show gO (.io i un :: as) (o :: os) η=gO as os (η.set i (some (.ow (mr un η[i]? o)))) from rfl,a1,Z9],fun j hj=>?_,fun n j hn=>?_⟩
     ·have hj':j ≠ i/\j ∉ iaS as:=⟨fun e=>hj (e ▸ Zx),fun z=>hj (Zy _ z)⟩
      exact (a2 j hj'.2).trans (Ys (Yk hj'.1))
     ·cases n with
      | zero =>
       cases (show some i=some j from hn)
       refine ⟨t,_,.ref a,F,h0,(a2 i nd'.1).trans (YM hil),h1,rfl,?_⟩
       cases un with
       | false=>exact r0
       | true =>
        obtain ⟨m,u,g1,g2⟩:=hu rfl
        have:mr true η[i]? o=mkT m o:=by
         unfold mr
         rw [Zq rfl,h0]
         show (match unT t with | some z=>mkT z.1 o | none=>o)=_
         rw [g1]
        rw [this]
        exact .mk g2 r0
      | succ n =>
       obtain ⟨t',t2,v',F',g1,g2,g3,g4,g5⟩:=a3 n j hn
       have ne:i ≠ j:=fun e=>nd'.1 (e ▸ Yn (show (iaS as)[n]?=some j from hn))
       rw [Ys ne] at g1
       exact ⟨t',t2,v',F',g1,g2,g3,g4,g5⟩
theorem Cy {H1:Hp}:∀ {as:List Ia} {vs:List V} {Fs:Y1},IaR Φ η σ H1 as vs Fs->(∀ (n:Nat) (v:V),(c9 (iaB as) vs)[n]?=some v->∃ i:Nat,(iaS as)[n]?=some i/\σ[i]?=some (some v))/\(c9 (iaB as) vs).length=(iaS as).length:=by
 intro as vs Fs r
 induction r with
 | nil=>exact ⟨fun n v h=>by simp [iaB,c9] at h,rfl⟩
 | @io i un a as vs Fs h _ ih =>
  refine ⟨fun n v hn=>?_,by simpa [iaB,c9,iaS] using ih.2⟩
  cases n with
  | zero=>cases (show some (V.ref a)=some v from hn);exact ⟨i,rfl,h⟩
  | succ n=>exact ih.1 n v hn
 | ex _ _ ih=>exact ih
end
section
variable {G:Gx} {X:Cx} {k:Nat} {f:Addr} {fd:FuncData} {ps:List Str} {x:Str} {p pos:Pos} {e:Expr} {es:List Expr} {as:List Ia} {i:Nat} {un:Bool} {g:Wi->Option (Wi×T)}
structure New (Φ:Fps) (η:VS.Env) (H:Hp) (Φ':Fps) (η':VS.Env) (F:X0):Prop where
 nd:F.Nodup
 ap:∀ j c,η'[j]?=some (some c)->∀ a∈F,a ∉ Φ' j
 of:∀ a∈F,H a=none\/bc Φ η a
noncomputable def tXN (G:Gx) (x:Xx):TE:=fun σ H Q=>∃ Φ η v η',SR G Φ η σ H/\x η=some (v,η')/\∀ u H' Φ' F,SR G Φ' η' σ H'->Frm Φ η H Φ' η' H'->Rp G H' u v.2 F->New Φ η H Φ' η' F->Q u H'
noncomputable def PXN (G:Gx) (X:Cx) (e:Expr) (x:Xx):Prop:=PE X e (tXN G x)
theorem PXN.px {x:Xx} (h:PXN G X e x):PX G X e x:=PE.weak h fun σ H Q hq=>by
 obtain ⟨Φ,η,v,η',s,e,hi,k⟩:=hq
 exact ⟨Φ,η,v,η',s,e,fun u H' Φ' F s' f r _=>k u H' Φ' s' f (r.imm hi ▸ r)⟩
theorem New.back {Φ Φ1 Φ':Fps} {η η1 η':VS.Env} {H H1:Hp} {F:X0} (f:Frm Φ η H Φ1 η1 H1) (n:New Φ1 η1 H1 Φ' η' F):New Φ η H Φ' η' F :=
 ⟨n.nd,n.ap,fun a ha=>(n.of a ha).elim (fun z=>.inl (f.none z)) fun z=>(f.ow a z).elim .inr .inl⟩
theorem qD {Φ:Fps} {η η':VS.Env} {σ:L2.St} {H H1:Hp} {v:Val} {ts:Wi} {vs:List V} {Fs:Y1} {Q:VK} {E:XK} (s:SR G Φ η σ H) (e:kb (.io i un :: as) g η=some (v,η')) (e0:i9 η (.io i un :: as)=some ts) (sm:aD H H1) (rp:RpL G H1 vs ts Fs) (ia:IaR Φ η σ H (.io i un :: as) vs Fs)
  (kq:∀ u H' Φ' F,SR G Φ' η' σ H'->Frm Φ η H Φ' η' H'->Rp G H' u v.2 F->New Φ η H Φ' η' F->Q u H'):spI G (iaB as) g vs H1 Q E:=by
 unfold kb at e
 rw [e0,Zu] at e
 have e2:=e
 have e1:=e0
 split at e2
 ·rename_i hc
  obtain ⟨⟨os,y⟩,eg,e3⟩:=Zw.mp e2
  ·cases e3
   have ff:=xq s e1 ia
   have al:=Cy ia
   cases ia with
   | @io _ _ a _ us Fs hσ ia =>
    cases rp with
    | @cons _ t0 _ _ ts' _ r0 rp =>
     have no:fE t0=true/\aY ts'=true:=by
      have:=hc.1
      rw [aY,Zb] at this
      exact this
     refine ⟨a,us,t0,ts',Φ i,Fs,os,y,rfl,r0,rp,fun v hv=>ff.ref v (Zy _ hv),no.1,no.2,by simpa [iaB] using ff.len,ff.nd hc.2,fun b hb hb'=>?_,eg,fun u H' Gs Fu ch ru fnd fap fof=>?_⟩
     ·obtain ⟨j,hj,z⟩:=(ff.mv b).mp hb
      obtain ⟨un',hj'⟩:=iz.mp hj
      obtain ⟨t,_,g1,_⟩:=ff.ow j un' hj'
      rcases ff.pu b hb' with q | ⟨j2,t2,q1,q2⟩
      ·exact Mut.ne_none (s.ow_dom ⟨j,t,g1,z⟩) q
      ·refine s.sep j j2 t _ g1 q1 (fun e=>?_) b z q2
       rw [e,q1] at g1
       cases g1
     ·obtain ⟨p1,p2,p3⟩:=tR (Fs:=[]) (η:=η) ff.ow hc.2 al.1 ch.rp al.2
      have at_:∀ j,j∈iaS (.io i un :: as)->∃ n F,(iaS (.io i un :: as))[n]?=some j/\n=(iaS (.io i un :: as)).idxOf j/\Gs[n]?=some F:=fun j hj=>by
       have hn:=List.idxOf_lt_length_iff.mpr hj
       have:(iaS (.io i un :: as))[(iaS (.io i un :: as)).idxOf j]?=some j:=by
        rw [Zr hn,List.getElem_idxOf]
       obtain ⟨_,_,_,F,_,_,_,q,_⟩:=p3 _ j this
       exact ⟨_,F,this,rfl,q⟩
      have Φe:∀ j,j∈iaS (.io i un :: as)->(if j∈iaS (.io i un :: as) then Gs.getD ((iaS (.io i un :: as)).idxOf j) [] else Φ j)=Gs.getD ((iaS (.io i un :: as)).idxOf j) []:=fun j hj=>Zq hj
      obtain ⟨z1,z2⟩:=s.mutS (S:=fun j=>j∈iaS (.io i un :: as)) (H2:=H') (η':=gO (.io i un :: as) os η) (Φ':=fun j=>if j∈iaS (.io i un :: as) then Gs.getD ((iaS (.io i un :: as)).idxOf j) [] else Φ j) p1 (fun j hj=>⟨p2 j hj,Zm hj⟩) (fun j hj=>by
       obtain ⟨n,F,q1,q2,q3⟩:=at_ j hj
       obtain ⟨t,t',v,F',w1,w2,w3,w4,w5⟩:=p3 n j q1
       rw [q3] at w4
       cases w4
       have eF:(if j∈iaS (.io i un :: as) then Gs.getD ((iaS (.io i un :: as)).idxOf j) [] else Φ j)=F:=by rw [Φe j hj,← q2,Zs,q3];rfl
       refine ⟨t,t',v,w1,w2,w3,?_,?_⟩
       ·rw [eF];exact w5
       ·rw [eF];exact ch.nd.sublist (bK q3)) (fun j j' hj hj' n a ha ha'=>by
       rw [Φe j hj] at ha
       rw [Φe j' hj'] at ha'
       obtain ⟨n1,F,q1,q2,q3⟩:=at_ j hj
       obtain ⟨n2,F',q1',q2',q3'⟩:=at_ j' hj'
       rw [← q2,Zs,q3] at ha
       rw [← q2',Zs,q3'] at ha'
       exact nz ch.nd q3 q3' (fun e=>n (by rw [e,q1'] at q1;exact (Zk q1).symm)) ha ha') ((Kept.of sm).trans ch.kept) (fun b o hb ho=>ch.keep b o (fun z=>by
       obtain ⟨j,hj,z'⟩:=(ff.mv b).mp z
       exact hb j hj z') (sm b o ho)) (fun b h=>ch.dom b fun z=>h (sm.free z)) (fun j hj a ha=>by
       rw [Φe j hj] at ha
       obtain ⟨n1,F,q1,q2,q3⟩:=at_ j hj
       rw [← q2,Zs,q3] at ha
       rcases ch.sub a ((bK q3).subset ha) with z | z
       ·exact .inl ((ff.mv a).mp z)
       ·exact .inr (sm.free z))
      have fof':∀ a∈Fu,H a=none\/∃ j t,j∈iaS (.io i un :: as)/\η[j]?=some (some (.ow t))/\a∈Φ j:=fun a ha=>by
       rcases fof a ha with z | z
       ·exact .inl (sm.free z)
       ·obtain ⟨j,hj,z'⟩:=(ff.mv a).mp z
        obtain ⟨un',hj'⟩:=iz.mp hj
        obtain ⟨t,_,g1,_⟩:=ff.ow j un' hj'
        exact .inr ⟨j,t,hj,g1,z'⟩
      refine kq u H' _ Fu z1 z2 ru ⟨fnd,fun j c hc a ha ha'=>?_,fun a ha=>(fof' a ha).imp id fun ⟨j,t,_,g1,g2⟩=>⟨j,t,g1,g2⟩⟩
      by_cases hj:j∈iaS (.io i un :: as)
      ·rw [Φe j hj] at ha'
       obtain ⟨n1,F,q1,q2,q3⟩:=at_ j hj
       rw [← q2,Zs,q3] at ha'
       exact fap a ha ((bK q3).subset ha')
      ·rw [Zm hj] at ha'
       rw [p2 j hj] at hc
       rcases fof' a ha with z | ⟨j2,t,g0,g1,g2⟩
       ·obtain ⟨w,_,q⟩:=s.rp j c hc
        exact Mut.ne_none (q.dom a ha') z
       ·exact s.sep j2 j t c g1 hc (fun e=>hj (e ▸ g0)) a g2 ha'
 ·cases e2
end
noncomputable def eUn (c:Ex):Ex:=fun η=>(c η).bind fun v=>(unT v.2).map fun z=>(v.1,z.2)
noncomputable abbrev Xt:=VS.Env->Option (Bool×VS.Env)
noncomputable def tXT (G:Gx) (x:Xt):TT:=fun σ H Q=>∃ Φ η b η',SR G Φ η σ H/\x η=some (b,η')/\∀ H' Φ',SR G Φ' η' σ H'->Frm Φ η H Φ' η' H'->Q b H'
noncomputable def PXT (G:Gx) (X:Cx) (e:Expr) (x:Xt):Prop:=PT X e (tXT G x)
noncomputable def PXW (G:Gx) (X:Cx) (e:Expr) (x:Xt):Prop:=PW X e (tXT G x)
noncomputable def xtV (x:Xx):Xt:=fun η=>(x η).bind fun z=>match z.1.2 with
 | .bl b=>some (b,z.2)
 | _=>none
noncomputable def qM (x:Xt) (a b:Sx):Sx:=fun η=>(x η).bind fun z=>if z.1 then a z.2 else b z.2
section
variable {G:Gx} {X:Cx} {e a b:Expr} {rest:List Expr} {c cb:Ex} {x:Xx} {xt:Xt} {pos pos':Pos} {c1 c2:Sx}
theorem BW (h:PV G X e c):PV G X e (eUn c):=PE.weak h fun σ H Q hq=>by
 obtain ⟨Φ,η,m,t,s,e,k⟩:=hq
 obtain ⟨⟨mx,y⟩,e1,e2⟩:=Zz.mp e
 obtain ⟨⟨n,u⟩,e3,e4⟩:=Zw.mp e2
 cases e4
 refine ⟨Φ,η,mx,y,s,e1,fun v H' F sm r f=>k v H' F sm ?_ f⟩
 have r':Rp G H' v y F:=r
 rw [kN (show unT y=some (n,u) from e3)] at r'
 obtain ⟨a,rfl,_,q⟩:=lY r'
 exact q
theorem PXW.pxt (h:PXW G X e xt):PXT G X e xt:=PW.pt h
theorem uZ {as bs:List Stmt} (hc:PXT G X e xt) (ha:fY G X as c1) (hb:fY G X bs c2):PSV G X (.If e as bs pos) (qM xt c1 c2):=PS.weak (Ae hc ha hb) fun D σ H hq=>by
 obtain ⟨Φ,η,o,s,e,k⟩:=hq
 obtain ⟨⟨b0,η1⟩,e1,e2⟩:=Zz.mp e
 refine ⟨Φ,η,b0,η1,s,e1,fun H1 Φ1 s1 f1=>?_⟩
 cases b0 with
 | true=>exact vm ⟨Φ1,η1,o,s1,e2,k.back f1⟩
 | false=>exact vS ⟨Φ1,η1,o,s1,e2,k.back f1⟩
end
structure IoAt (P:Program) (w:World) (K:Y2) (mg:Xu) (base:Heap) (k:Nat) (x:Str) (ps:List Str) (G:Gx) (mv:List Bool) (g:Wi->Option (Wi×T)):Prop where
 ex:∃ f fd,FnOk P w K mg base CX0 k f fd ps (spI G mv g)/\mg x=some (.ref f)/\PySem.W.keepIn K (.ref f)=true/\Binds K fd ps []
section
variable {P:Program} {w:World} {K:Y2} {mg:Xu} {base:Heap} {k:Nat} {G:Gx} {x:Str} {ps:List Str} {mv:List Bool}
theorem ly {st:Stmt} {f:Addr} {fd:FuncData} {N:List Str} {np nn:Nat} {body:Sx} (F:Fun K x x st f fd) (hm:mg x=some (.ref f)) (S:FnScope N ps (ai st)) (hp:ps.length=np) (hn:N.length=nn)
  (hbd:∀ (kV doc pm:Value) (an:Option Addr) (cdv ct:Value) (us:Wx),us.length=ps.length->bindArgs (PySem.W.fnOf x x (dM st) (aW st) (ai st) .none kV doc pm an cdv ct) ⟨us,[]⟩=pure (ps.zip us))
  (hb:∀ (m:Me) (cdv:Value) (A:Around) (outer:List PySem.Env) (s:Shared) (H:Hp) (E:XK),Room k (A.deeper (envOfC x (ai st) s.heap.objs.size f cdv))->fY (G.at m) (iI CX0 P w K mg base N x (ai st) f cdv A outer s H E).nox (aW st) body) :
  IoAt P w K mg base (k+1) x ps G mv (ifn np nn mv body):=⟨f,fd,fnI F S hp hn hb,hm,F.kp,F.binds hbd⟩
end
end VS
end
section
namespace VS
open PySem PySem.Spec PyProof.Rows L2
noncomputable def pB (i:Nat) (k e:Ex) (η:VS.Env):Option Out:=(e η).bind fun v=>match v.1,(η[i]?:Option (Wm)) with
 | .fr,some (some (.ow (.dct 0 ((k0,_) :: l))))=>(k η).bind fun kv=>if eY kv.2=true/\eqT k0 kv.2=true/\(l.all fun p=>!eqT p.1 kv.2)=true/\l.length+1 < dD then some (.nx (η.set i (some (.ow (.dct 0 ((k0,v.2) :: l)))))) else none
 | _,_=>none
section
variable {G:Gx} {X:Cx} {e b:Expr} {ck ce:Ex} {pos pos' p1:Pos} {kr:Nat}
theorem Bs (i:Nat) {x:Str} (hr:Room kr X.A) (hk:PV G X b ck) (he:PV G X e ce) (hN:X.N[i]?=some x) (hv:Vis X.env.scope x) (hd:(x == ("__debug__" : Str))=false) (hcd:(x == ("__classdict__" : Str))=false)
  (ha:∀ v,assign (.Subscript (.Name x p1) b pos') X.env v=(do
   let ov ← holding [v] (eval (.Name x p1) X.env)
   let iv ← holding [v,ov] (eval b X.env)
   standAt pos'
   holding [v,ov,iv] (setItem ov iv v)
   release [v,ov,iv] [])) (hs:swapsWithSole [.Subscript (.Name x p1) b pos'] e pos.line X.env=pure false) (hw:swappedStores [.Subscript (.Name x p1) b pos'] e X.env=pure none)
  (h1:(assignEach [.Subscript (.Name x p1) b pos'] X.env).map (·.2)=[assign (.Subscript (.Name x p1) b pos') X.env]):PSV G X (.Assign [.Subscript (.Name x p1) b pos'] e pos) (pB i ck ce) :=
 PS.weak (nN he (nK (dB hN hv hd hcd) hk (sr (iK hr)) ha) hs hw h1) fun D σ H hq=>by
  obtain ⟨Φ,η,out,s,e,k⟩:=hq
  unfold pB at e
  obtain ⟨⟨mv,tv⟩,ev,e⟩:=Zz.mp e
  split at e
  ·rename_i k0 t0 l hmv ht
   have hmv':mv=.fr:=hmv
   subst hmv'
   obtain ⟨⟨mk,tk⟩,ekk,e⟩:=Zz.mp e
   split at e
   ·rename_i hc
    obtain ⟨c1,c2,c3,c4⟩:=hc
    cases e
    obtain ⟨w,g1,w2⟩:=s.rp _ _ ht
    have w3:=s.nd i _ ht
    refine ⟨Φ,η,.fr,tv,s,ev,fun xv H1 Fv sm1 rv fv=>⟨w,g1,Φ,η,mk,tk,s.same sm1,ekk,fun kv H3 Fk sm3 rk fk=>?_⟩⟩
    have sm:aD H H3:=sm1.trans sm3
    have rv3:Rp G H3 xv tv Fv:=rv.same sm3
    obtain ⟨a,ns,vs,ts,Fs,rfl,eF1,ha',hl,el,ra⟩:=cV w2
    rw [eF1] at w3
    obtain ⟨kk,rfl,ekk'⟩:=cO rk c1
    have ekk2:tk=aA kk:=ekk'
    subst ekk2
    match ns,vs,ts,Fs,ra,hl,el,ha',eF1,w3 with
    | [],_,_,_,_,_,el,_,_,_=>cases el
    | n0 :: ns,[],_,_,_,hl,_,_,_,_=>cases hl
    | n0 :: ns,v0 :: vs,_,_,.cons (t:=t1) (F:=F0) (ts:=ts) (Fs:=Fs) r0 ra,hl,el,ha',eF1,w3 =>
     rw [Zl,Zc] at el
     cases el
     have hn:n0=kk:=(gx kk n0).mp c2
     subst hn
     have hl':ns.length=vs.length:=by simpa using hl
     have lts:ns.length=ts.length:=hl'.trans ra.len.1
     have off:∀ {β:Type} (us:List β),ns.length=us.length->∀ q∈ns.zip us,q.1 ≠ n0:=fun {β} us hu q hq hn=>by
      have hm:q.1∈ns:=(XS hq).1
      obtain ⟨j,hj,ej⟩:=List.getElem_of_mem hm
      have:(aA ns[j],ts[j]'(by omega))∈(ns.map aA).zip ts:=by
       refine Yn (i:=j) ?_
       rw [Yq]
       exact ⟨by rw [ZQ,Zr hj];rfl,Zr _⟩
      have h2:=Yx.mp c3 _ this
      rw [ej,hn,(gx n0 n0).mpr rfl] at h2
      cases h2
     have ep:putK ((n0 :: ns).zip (v0 :: vs)) n0 xv=(n0 :: ns).zip (xv :: vs):=by
      rw [Zc,Zc]
      unfold putK
      rw [Zq (by rw [Yh,decide_eq_true rfl];rfl),Zl,Zq rfl]
      congr 1
      have:(ns.zip vs).map (fun kv=>if kv.1=n0 then (kv.1,xv) else kv)=(ns.zip vs).map id:=Xk fun q hq=>Zm (off vs hl' q hq)
      rw [this,List.map_id]
     have ha3:H3 a=some (.dK ((n0 :: ns).zip (v0 :: vs))):=sm a _ ha'
     have m3:Mut (H3 a):=by rw [ha3];exact True.intro
     have nd:=Zh.mp w3
     have fl:(F0 :: Fs).flatten=F0++Fs.flatten:=rfl
     rw [fl] at nd
     have fre:∀ b∈Fv,H b=none:=fv.2
     have dom:∀ b∈a :: (F0++Fs.flatten),H b ≠ none:=fun b hb=>Mut.ne_none (w2.dom b (by rw [eF1,fl];exact hb))
     have ln:((n0 :: ns).zip (v0 :: vs)).length < sizeLine:=by
      have:((ns.map aA).zip ts).length+1 < 16777216:=c4
      rw [ZA,Zv] at this
      rw [ZA,Zn,Zn]
      have:(sizeLine:Nat)=16777216:=rfl
      omega
     refine .inr ⟨a,_,rfl,pI.k ha3 ln,?_⟩
     have aF:a ∉ Fv++Fs.flatten:=fun z=>by
      rcases Ze.mp z with z | z
      ·exact dom a Zx (fre a z)
      ·exact nd.1 (ZW _ z)
     have g:Chg G H (.ref a) (Φ i) (.dct 0 ((aA n0,tv) :: (ns.map aA).zip ts)) (upd H3 a (.dK (putK ((n0 :: ns).zip (v0 :: vs)) n0 xv))) (a :: (Fv :: Fs).flatten):=by
      rw [eF1,ep]
      refine Chg.upd sm Zx m3 (.dct (ks:=n0 :: ns) (ts:=tv :: ts) ar (by simpa using hl) ((RpL.cons rv3 (ra.same sm)).off m3 aF)) ?_ ?_
      ·refine Zh.mpr ⟨aF,ZX.mpr ⟨fv.1,(ZX.mp nd.2).2.1,fun b hb c hc z=>?_⟩⟩
       subst z
       exact dom b (Zy _ (ZW _ hc)) (fre b hb)
      ·intro bb hb
       rcases Zo.mp hb with rfl | hb
       ·exact .inl Zx
       ·rcases Ze.mp (show bb∈Fv++Fs.flatten from hb) with z | z
        ·exact .inr (fre bb z)
        ·exact .inl (Zy _ (ZW _ z))
     obtain ⟨z1,z2⟩:=s.mut ht g1 g
     exact k _ σ _ z1 z2
   ·cases e
  ·cases e
theorem lq {a b c:Expr} {ca cb cc:Ex} (ha:PV G X a ca) (hb:PV G X b cb) (hc:PV G X c cc) (hm:lastMarks [.Lt,.Lt] [b,c]=false):PVT G X (.Compare a [.Lt,.Lt] [b,c] pos) (gI oLt oLt ca cb cc) :=
 PT.weak (wM nR nR ha hb hc hm) fun σ H Q h=>qk h (fun η m r e=>by
  unfold gI at e
  obtain ⟨x,ea,e⟩:=Zz.mp e
  obtain ⟨y,eb,e⟩:=Zz.mp e
  obtain ⟨⟨mz,z⟩,ez,e⟩:=Zz.mp e
  cases z with
  | bl q =>
   cases q with
   | false=>cases e;exact ⟨_,rfl⟩
   | true =>
    obtain ⟨z2,ec,e⟩:=Zz.mp (show (cc η).bind (fun z=>oLt y z)=some (m,r) from e)
    exact jL y z2 m r e
  | _=>cases e) fun Q h=>uW sI sI h
end
noncomputable def lB (z:Tx):Tx:=pick z (Builtin.Str.strSliceIndices none none (-1) z.length)
noncomputable def wV (c:Ex):Ex:=fun η=>(c η).bind fun v=>match v.2 with
 | .str z=>some (.fr,.str (lB z))
 | _=>none
theorem yV (n:Nat):Builtin.Str.strSliceIndices none none (-1) n=sliceRange (sliceBounds none none (some (-1)) n).1 (sliceBounds none none (some (-1)) n).2.1 (sliceBounds none none (some (-1)) n).2.2:=rfl
theorem lu (z:Tx):(lB z).length<=z.length:=by
 unfold lB
 rw [yV]
 exact wZ z none none (some (-1))
theorem ql {z:Tx} {c:Nat} (h:c∈lB z):c∈z:=xF _ _ h
section
variable {G:Gx} {X:Cx} {a:Expr} {ca:Ex} {pos:Pos}
noncomputable def DL:V->Option Int->Option Int->Option Int->Hp->VK->Prop:=fun x lo hi st H Q=>lo=none/\hi=none/\st=some (-1)/\∃ z,x=.str (sx z)/\z.length<=sizeLine/\Q (.str (sx (lB z))) H
theorem Bv:C5 X DL:=by
 intro pins s σ H x v vl vu vs lo hi st sl Q I rx hs pl pu ps h
 obtain ⟨rfl,rfl,rfl,z,rfl,hz,q⟩:=h
 obtain ⟨t,rfl⟩:=rx
 obtain ⟨l,rfl,el⟩:=part_of pl
 obtain ⟨u,rfl,eu⟩:=part_of pu
 obtain ⟨st,rfl,es⟩:=part_of ps
 cases l with
 | some l=>cases el
 | none =>
  cases u with
  | some u=>cases eu
  | none =>
   cases st with
   | none=>cases es
   | some st =>
    obtain ⟨i,ti⟩:=st
    have hi:i=-1:=(Zk es).symm
    subst hi
    refine ⟨"str",_,F.slot_str_getitem.lookup,typeIs_str s (sx z) t,wpAny_getItem_str_slice (l:=none) (u:=none) (st:=some (-1,ti)) hs rfl ?_⟩
    have e:sliceMade (sx z) t none none (some (-1,ti))=.str (sx (lB z)):=by
     unfold sliceMade
     rw [Zm (by show ¬ ((-1:Int) == 1 && _)=true;rw [show ((-1:Int) == 1)=false from rfl,Bool.false_and];exact Zd)]
     have e2:((slicePicked (sx z) none none (some (-1,ti))).filterMap ((sx z).cps[·]?))=lB z:=by
      show (Builtin.Str.strSliceIndices none none (-1) (sx z).length).filterMap (z.toArray[·]?)=pick z (Builtin.Str.strSliceIndices none none (-1) z.length)
      unfold pick
      rw [c8]
      simp only [XO]
     rw [e2]
     rfl
    rw [e]
    refine ⟨?_,.str _,H,I.tok _,⟨_,rfl⟩,q⟩
    show (lB z).toArray.size<=_
    rw [ZY]
    exact ZG (lu z) hz
theorem w_rev {st:Expr} {p2:Pos} (ha:PV G X a ca) (hl:PVO G X none none) (hst:PVO G X (some st) (some (Q2 (-1)))):PV G X (.Subscript a (.Slice none none (some st) p2) pos) (wV ca) :=
 PE.weak (uu Bv ha hl hl hst) fun σ H Q hq=>by
  obtain ⟨Φ,η,m,t,s,e,k⟩:=hq
  unfold wV at e
  obtain ⟨⟨mx,x⟩,ea,w1⟩:=Zz.mp e
  dsimp only at w1
  split at w1
  ·rename_i z
   cases w1
   refine ⟨Φ,η,mx,_,s,ea,fun v H1 F e1 r1 f1=>⟨Φ,η,none,s.same e1,rfl,fun H2 e2=>⟨Φ,η,none,(s.same e1).same e2,rfl,fun H3 e3=>⟨Φ,η,some (-1),((s.same e1).same e2).same e3,rfl,fun H4 e4=>?_⟩⟩⟩⟩
   obtain ⟨rfl,hl⟩:=r1.str_inv
   exact ⟨rfl,rfl,rfl,z,rfl,hl.1,k _ H4 [] (((e1.trans e2).trans e3).trans e4) (.str _ ⟨ZG (lu z) hl.1,fun c hc=>hl.2 c (ql hc)⟩) Fp.nil⟩
  ·cases w1
end
noncomputable def xI (c:Ex):Xx:=fun η=>(c η).bind fun v=>if imm v.2=true then some ((.fr,v.2),η) else none
noncomputable def x2 (f:Val->Val->Wj) (a b:Xx):Xx:=fun η=>(a η).bind fun z=>(b z.2).bind fun w=>(f (.fr,z.1.2) (.fr,w.1.2)).bind fun v=>if imm z.1.2=true/\imm w.1.2=true/\imm v.2=true then some ((.fr,v.2),w.2) else none
noncomputable def ip (c:Ex) (x:Xt):Xt:=fun η=>(c η).bind fun v=>(tru v.2).bind fun b=>if b then x η else some (false,η)
noncomputable def ke (c:Ex) (b:Xx):Xx:=fun η=>(c η).bind fun x=>match x with
 | (.fr,.lst ts)=>(b η).bind fun z=>match z.1.2 with
  | .int i=>(ixP ts.length i).bind fun j=>(ts[j]?).bind fun t=>if dv ts=true/\imm t=true then some ((.fr,t),z.2) else none
  | _=>none
 | _=>none
noncomputable def pX (n:Nat) (b:Xx):Xx:=fun η=>match (η[n]?:Option (Wm)) with
 | some (some _)=>(b η).bind fun z=>match z.1.2,(z.2[n]?:Option (Wm)) with
  | .int i,some (some c)=>(match gR c with
   | .lst ts=>(ixP ts.length i).bind fun j=>(ts[j]?).bind fun t=>if imm t=true then some ((.fr,t),z.2) else none
   | _=>none)
  | _,_=>none
 | _=>none
section
variable {G:Gx} {X:Cx} {e a b:Expr} {rest:List Expr} {ca cb:Ex} {xa xb:Xx} {xt:Xt} {pos:Pos} {f:Val->Val->Wj} {r:R2}
theorem aJ (h:PV G X e ca):PX G X e (xI ca):=PE.weak h fun σ H Q hq=>by
 obtain ⟨Φ,η,v,η',s,e,hi,k⟩:=hq
 obtain ⟨⟨m,t⟩,e1,e2⟩:=Zz.mp e
 split at e2
 ·rename_i him
  cases e2
  refine ⟨Φ,η,m,t,s,e1,fun u H' F sm r f=>k u H' Φ (s.same sm) (Frm.same sm) ?_⟩
  have:=r.imm him
  subst this
  exact r
 ·cases e2
theorem xn (ok:fD G r f) {σ:L2.St} {H:Hp} {Q:VK} (h:tX G (x2 f xa xb) σ H Q):tOp r (tX G xa) (tX G xb) σ H Q:=by
 obtain ⟨Φ,η,v,η',s,e,hi,k⟩:=h
 obtain ⟨z,ea,e1⟩:=Zz.mp e
 obtain ⟨w,eb,e2⟩:=Zz.mp e1
 obtain ⟨⟨m,t⟩,ef,e3⟩:=Zz.mp e2
 split at e3
 ·rename_i hc
  cases e3
  refine ⟨Φ,η,z.1,z.2,s,ea,hc.1,fun u1 H1 Φ1 s1 f1 r1=>⟨Φ1,z.2,w.1,w.2,s1,eb,hc.2.1,fun u2 H2 Φ2 s2 f2 r2=>?_⟩⟩
  refine ok Φ2 w.2 H2 H2 (.fr,z.1.2) (.fr,w.1.2) u1 u2 [] [] m t Q ⟨aD.refl _,r1.keep f2.kept (fun a h=>nomatch h),r2,Fp.nil,Fp.nil,fun _ _=>Z1⟩ ef fun v' H' F sm r' f'=>k v' H' Φ2 (s2.same sm) ((f1.trans f2).trans (Frm.same sm)) ?_
  have:=r'.imm hc.2.2
  subst this
  exact r'
 ·cases e3
theorem mD {op:Operator} (ho:OpR X (binaryOp op) r) (ok:fD G r f) (ha:PX G X a xa) (hb:PX G X b xb):PX G X (.BinOp a op b pos) (x2 f xa xb):=PE.weak (zO ho ha hb) fun σ H Q h=>xn ok h
theorem sQ {op:CmpOp} (ho:OpR X (compareOp op) r) (ok:fD G r f) (ha:PX G X a xa) (hb:PX G X b xb) (hm:behindInMarks op b=false):PXT G X (.Compare a [op] [b] pos) (xtV (x2 f xa xb)):=PT.weak (tj ho ha hb hm) fun σ H Q h=>by
 obtain ⟨Φ,η,b,η',s,e,k⟩:=h
 obtain ⟨⟨⟨m,t⟩,η1⟩,e1,e2⟩:=Zz.mp e
 dsimp only at e2
 split at e2
 ·cases e2
  exact xn (Q:=fun x H'=>∃ k,x=.bl k/\Q k H') ok ⟨Φ,η,_,_,s,e1,rfl,fun u H' Φ' s' f r=>⟨b,r.bl_inv,k H' Φ' s' f⟩⟩
 ·cases e2
theorem wX (ha:PX G X a xa) (hb:PX G X b xb) (hs:fO b) (hK:X.K=G.K):PX G X (.Subscript a b pos) (x2 aE xa xb):=PE.weak (lE jd ha hb hs) fun σ H Q h=>by
 rw [hK]
 exact xn qX h
theorem wt (h:PXT G X e xt):PXW G X (.BoolOp .And [e] pos) xt:=nq h
theorem x8 (ha:PVT G X a ca) (hb:PXW G X (.BoolOp .And (b :: rest) pos) xt):PXW G X (.BoolOp .And (a :: b :: rest) pos) (ip ca xt):=PW.weak (u6 ha hb) fun σ H Q hq=>by
 obtain ⟨Φ,η,r,η',s,e,k⟩:=hq
 obtain ⟨⟨m,t⟩,e1,e2⟩:=Zz.mp e
 obtain ⟨b0,e3,e4⟩:=Zz.mp e2
 refine ⟨Φ,η,m,t,b0,s,e1,e3,fun H1 sm=>?_⟩
 cases b0 with
 | true=>exact vm ⟨Φ,η,r,η',s.same sm,e4,fun H' Φ' s' f=>k H' Φ' s' ((Frm.same sm).trans f)⟩
 | false =>
  cases e4
  exact vS (k H1 Φ (s.same sm) (Frm.same sm))
theorem oj (ha:PV G X a ca) (hb:PX G X b xb) (hs:fO b) (hK:X.K=G.K):PX G X (.Subscript a b pos) (ke ca xb):=PE.weak (lE jd ha hb hs) fun σ H Q hq=>by
 obtain ⟨Φ,η,v,η',s,e,hi,k⟩:=hq
 obtain ⟨x,ea,e1⟩:=Zz.mp e
 split at e1
 ·rename_i ts
  obtain ⟨z,eb,e2⟩:=Zz.mp e1
  split at e2
  ·rename_i i0 hz
   obtain ⟨j,ej,e3⟩:=Zz.mp e2
   obtain ⟨t,et,e4⟩:=Zz.mp e3
   split at e4
   ·rename_i hc
    cases e4
    refine ⟨Φ,η,.fr,.lst ts,s,ea,fun u H1 F1 sm r1 f1=>⟨Φ,η,z.1,z.2,s.same sm,eb,by rw [hz];rfl,fun w H2 Φ2 s2 f2 r2=>?_⟩⟩
    obtain ⟨a,vs,Fs,rfl,rfl,ha1,ra⟩:=r1.lst_inv
    have hn:¬ bc Φ η a:=fun z=>Mut.ne_none (s.ow_dom z) (f1.2 a Zx)
    have ha2:=(f2.keep a _ ha1 hn).1
    obtain ⟨x,Fx,u1,u2,u3⟩:=ra.get j et
    have hx:=u3.imm hc.2
    subst hx
    rw [hz] at r2
    refine .inl ⟨a,vs,i0,x,rfl,r2.int_inv,by rw [hK];exact SqL.of ha2,iV (by rw [ra.len.1];exact ej) u1,?_⟩
    exact k x H2 Φ2 s2 ((Frm.same sm).trans f2) (u3.keep f2.kept (fun a h=>nomatch h))
   ·cases e4
  ·cases e2
 ·cases e1
end
section
variable {G:Gx} {Φ Φ5:Fps} {η η5:VS.Env} {σ:L2.St} {H H5:Hp}
noncomputable def psΦ (Φ:Fps):Fps:=fun i=>match i with
 | 0=>[]
 | i+1=>Φ i
theorem wL {t:T} {a:Addr}:bc (psΦ Φ) (some (.pu t) :: η) a ↔ bc Φ η a:=by
 constructor
 ·rintro ⟨j,u,h1,h2⟩
  cases j with
  | zero=>cases (show some (some (Cell.pu t))=some (some (Cell.ow u)) from h1)
  | succ j=>exact ⟨j,u,h1,h2⟩
 ·rintro ⟨j,u,h1,h2⟩
  exact ⟨j+1,u,h1,h2⟩
theorem Da {t:T} {a:Addr} (h:cB (psΦ Φ) (some (.pu t) :: η) a):cB Φ η a:=by
 obtain ⟨j,u,h1,h2⟩:=h
 cases j with
 | zero=>exact nomatch h2
 | succ j=>exact ⟨j,u,h1,h2⟩
theorem SR.ps {v:V} {t:T} (s:SR G Φ η σ H) (r:Rp G H v t []):SR G (psΦ Φ) (some (.pu t) :: η) (some v :: σ) H:=by
 refine ⟨by rw [Zn,Zn,s.len],fun i c h=>?_,fun i u h=>?_,fun i j u c h1 h2 n=>?_⟩
 ·cases i with
  | zero=>cases (show some (some (Cell.pu t))=some (some c) from h);exact ⟨v,rfl,r⟩
  | succ i=>exact s.rp i c h
 ·cases i with
  | zero=>cases (show some (some (Cell.pu t))=some (some (Cell.ow u)) from h)
  | succ i=>exact s.nd i u h
 ·cases i with
  | zero=>cases (show some (some (Cell.pu t))=some (some (Cell.ow u)) from h1)
  | succ i =>
   cases j with
   | zero=>exact fun a _ h=>nomatch h
   | succ j=>exact s.sep i j u c h1 h2 (fun e=>n (by rw [e]))
theorem SR.pop {c:Wm} {v:Option V} (s:SR G Φ5 (c :: η5) (v :: σ) H):SR G (fun i=>Φ5 (i+1)) η5 σ H :=
 ⟨by have:=s.len;simpa using this,fun i c h=>s.rp (i+1) c h,fun i u h=>s.nd (i+1) u h,fun i j u c h1 h2 n=>s.sep (i+1) (j+1) u c h1 h2 (fun e=>n (by omega))⟩
theorem Frm.pop {t:T} {c:Wm} (f:Frm (psΦ Φ) (some (.pu t) :: η) H Φ5 (c :: η5) H5):Frm Φ η H (fun i=>Φ5 (i+1)) η5 H5:=by
 have ow:∀ a,bc (fun i=>Φ5 (i+1)) η5 a->bc Φ5 (c :: η5) a:=fun a ⟨j,u,h1,h2⟩=>⟨j+1,u,h1,h2⟩
 refine ⟨fun a o h n=>?_,f.dom,fun a h=>?_,fun a h=>?_,f.kept⟩
 ·obtain ⟨h1,h2⟩:=f.keep a o h fun z=>n (wL.mp z)
  exact ⟨h1,fun z=>h2 (ow a z)⟩
 ·exact (f.ow a (ow a h)).imp wL.mp id
 ·obtain ⟨j,u,h1,h2⟩:=h
  rcases f.pu a ⟨j+1,u,h1,h2⟩ with z | z | z
  ·exact .inl (Da z)
  ·exact .inr (.inl (wL.mp z))
  ·exact .inr (.inr z)
end
noncomputable def gP (x:Xx):Wp->VS.Env->Option (Wi×VS.Env)
 | [],η=>some ([],η)
 | i :: r,η=>(x (some (.pu (.int i)) :: η)).bind fun z=>match z.2 with
  | _ :: η'=>if imm z.1.2=true then (gP x r η').map fun w=>(z.1.2 :: w.1,w.2) else none
  | []=>none
noncomputable def iot (i n:Nat):Wp:=(List.range' i n).map fun (k:Nat)=>(k:Int)
noncomputable def qb (xa x:Xx) (η:VS.Env):Option (Wi×VS.Env):=(xa η).bind fun z=>match z.1.2 with
 | .int j=>if 0<=j/\j < 1000000 then gP x (iot 0 j.toNat) z.2 else none
 | _=>none
noncomputable def tXL (G:Gx) (y:VS.Env->Option (Wi×VS.Env)):TE:=fun σ H Q=>∃ Φ η ts η',SR G Φ η σ H/\y η=some (ts,η')/\∀ D vs H' Φ',SR G Φ' η' σ H'->Frm Φ η H Φ' η' H'->H' D=some (.lst vs)->RpL G H' vs ts (List.replicate ts.length [])->H D=none->¬ bc Φ' η' D->¬ cB Φ' η' D->Q (.ref D) H'
theorem oa {α:Type}:∀ n:Nat,(List.replicate n ([]:List α)).flatten=[]
 | 0=>rfl
 | n+1=>by rw [Y0,ZV,oa n];rfl
section
variable {G:Gx} {X:Cx} {elt a:Expr} {sc:Scope} {pos p p2 p3:Pos} {N:List Str} {nm:Str} {xa x:Xx} {g:TG}
theorem vw {σ:L2.St} {H:Hp} {Q:VK} (hg:∀ v σ H (R:L2.St->Hp->Prop),R (σ.set 0 (some v)) H->g v σ H R) (h:tXL G (qb xa x) σ H Q):sH 1 (Ah (zX (tX G xa) uG)) g (fun σ H Q=>Q true H) (tX G x) σ H Q:=by
 obtain ⟨Φ,η,ts,η',s,e,kq⟩:=h
 obtain ⟨z,ea,e1⟩:=Zz.mp e
 split at e1
 ·rename_i j hj
  split at e1
  ·rename_i hb
   obtain ⟨n,hn⟩:∃ n:Nat,n=j.toNat:=⟨_,rfl⟩
   rw [← hn] at e1
   refine ⟨Φ,η,z.1,z.2,s,ea,by rw [hj];rfl,fun u H1 Φ1 s1 f1 r1=>⟨j,by rw [hj] at r1;rw [r1.int_inv],by omega,by omega,fun D hD=>?_⟩⟩
   have hHD:H D=none:=f1.none hD
   rw [← hn]
   refine ⟨fun i m σ' H'=>m=n - i/\i<=n/\∃ Φ2 η2 vs xs rest c0,σ'=c0 :: σ/\SR G Φ2 η2 σ H'/\Frm Φ1 z.2 H1 Φ2 η2 H'/\H' D=some (.lst xs)/\¬ bc Φ2 η2 D/\¬ cB Φ2 η2 D/\RpL G H' xs vs (List.replicate vs.length [])/\gP x (iot i (n - i)) η2=some (rest,η')/\vs++rest=ts,⟨n,by omega,Yt _,Φ1,z.2,[],[],ts,none,rfl,?_,Frm.same (bj hD),ar,?_,?_,.nil,e1,rfl⟩,?_⟩
   ·exact s1.off (.inr hD) (fun q=>Mut.ne_none (s1.pu_dom q) hD) fun q=>Mut.ne_none (s1.ow_dom q) hD
   ·exact fun q=>Mut.ne_none (s1.ow_dom q) hD
   ·exact fun q=>Mut.ne_none (s1.pu_dom q) hD
   ·rintro i m σ' H' ⟨rfl,hin,Φ2,η2,vs,xs,rest,c0,rfl,s2,f2,hD2,no2,np2,rp,er,ev⟩
    by_cases hlt:i < n
    ·right
     refine ⟨hlt,fun y H2 yl=>hg _ _ _ _ ?_⟩
     obtain ⟨rfl,rfl⟩:=yl
     rw [show n - i=(n - (i+1))+1 by omega] at er
     unfold iot at er
     rw [List.range'_succ,Zl,gP] at er
     obtain ⟨w,ex,er2⟩:=Zz.mp er
     split at er2
     ·rename_i c3 η3 hw
      split at er2
      ·rename_i him
       obtain ⟨q,eq,e3⟩:=Zw.mp er2
       cases e3
       show (if true=true then _ else _)
       rw [Zq rfl]
       have s3:=s2.ps (v:=.int ((0:Int)+(i:Int))) (t:=.int (i:Int)) (by rw [Int.zero_add];exact .int _)
       refine ⟨psΦ Φ2,some (.pu (.int (i:Int))) :: η2,w.1,w.2,s3,ex,him,fun u5 H5 Φ5 s5 f5 r5=>?_⟩
       rw [hw] at s5 f5
       have s6:=s5.pop
       have f6:=f5.pop
       obtain ⟨hD5,no5⟩:=f6.keep D _ hD2 no2
       have np5:¬ cB (fun i=>Φ5 (i+1)) η3 D:=fun q=>by
        rcases f6.pu D q with q | q | q
        ·exact np2 q
        ·exact no2 q
        ·rw [hD2] at q;cases q
       have mD5:Mut (H5 D):=by rw [hD5];exact True.intro
       have lx:xs.length=vs.length:=rp.len.1
       refine ⟨xs,hD5,?_,n - (i+1),by omega,rfl,hlt,fun i=>Φ5 (i+1),η3,vs++[w.1.2],xs++[u5],q.1,_,rfl,s6.off (.inl mD5) np5 no5,?_,ar,no5,np5,?_,eq,?_⟩
       ·have:vs.length<=n:=by
         have hc:∀ (l:Wp) (η:VS.Env) (r:Wi) (η':VS.Env),gP x l η=some (r,η')->r.length=l.length:=by
          intro l
          induction l with
          | nil=>intro η r η' h;cases h;rfl
          | cons a l ih =>
           intro η r η' h
           rw [gP] at h
           obtain ⟨w',_,h2⟩:=Zz.mp h
           split at h2
           ·split at h2
            ·obtain ⟨q',h3,h4⟩:=Zw.mp h2
             cases h4
             rw [Zn,Zn,ih _ _ _ h3]
            ·cases h2
           ·cases h2
         have h1:=hc _ _ _ _ e1
         have h2:=hc _ _ _ _ eq
         unfold iot at h1
         rw [Zv,Xf] at h1
         rw [← ev,Zt] at h1
         omega
        have hs:(sizeLine:Nat)=16777216:=rfl
        omega
       ·have ff:=f2.trans f6
        refine ⟨fun a o h1 h2=>?_,fun a h1 h2=>?_,ff.ow,ff.pu,ff.kept.trans (Kept.upd (.inl mD5))⟩
        ·obtain ⟨q1,q2⟩:=ff.keep a o h1 h2
         exact ⟨by rw [ax (fun z=>by rw [z,hD] at h1;cases h1)];exact q1,q2⟩
        ·by_cases q:a=D
         ·rw [q,ar] at h2;cases h2
         ·rw [ax q] at h2
          exact ff.dom a h1 h2
       ·have r1:RpL G (upd H5 D (.lst (xs++[u5]))) xs vs (List.replicate vs.length []):=(rp.keep f6.kept (by rw [oa];exact fun a h=>nomatch h)).keep (Kept.upd (.inl mD5)) (by rw [oa];exact fun a h=>nomatch h)
        have r2:Rp G (upd H5 D (.lst (xs++[u5]))) u5 w.1.2 []:=r5.keep (Kept.upd (.inl mD5)) (fun a h=>nomatch h)
        have:=r1.append (.cons r2 .nil)
        rw [Zt,ZI,List.replicate_succ']
        exact this
       ·rw [ZJ]
        exact ev
      ·cases er2
     ·cases er2
    ·left
     have hni:n - i=0:=by omega
     rw [hni] at er
     cases (show some (([]:Wi),η2)=some (rest,η') from er)
     rw [ZK] at ev
     subst ev
     refine ⟨by show n<=i;omega,kq D xs H' Φ2 s2 (f1.trans f2) hD2 rp hHD no2 np2⟩
  ·cases e1
 ·cases e1
end
noncomputable def uU (sep:Tx) (y:VS.Env->Option (Wi×VS.Env)):Xx:=fun η=>(y η).bind fun z=>(gS (.fr,.str sep) [(.fr,.lst z.1)]).map fun v=>((.fr,v.2),z.2)
section
variable {G:Gx} {X:Cx} {e a:Expr} {y:VS.Env->Option (Wi×VS.Env)} {sep:Tx} {elt:Expr} {sc:Scope} {pos p p2 p3:Pos} {N:List Str} {nm:Str} {xa x:Xx}
theorem zi {apos cpos:Pos} (ho:PV G X a (eC (.str sep))) (hc:PE X e (tXL G y)) (hK:X.K=G.K)
  (hbase:attributeBase a "join" X.env (eval a X.env)=eval a X.env)
  (hfew:((backTo cpos (starEach [e] X.env)).all (fun x=>!x.1) && (backToKw cpos (keywordEach [] X.env)).all (fun x=>x.1.isSome)
   && decide ([e].length+([]:List Keyword).length+(if ([]:List Keyword).isEmpty then 0 else 1) < 30))=true)
  (hline:(apos.endLine == cpos.line)=true) (hs:starEach [e] X.env=(false,eval e X.env) :: starEach [] X.env) (hplain:(backTo cpos (starEach [] X.env)).any (·.1)=false) :
  PX G X (.Call (.Attribute a "join" apos) [e] [] cpos) (uU sep y) :=
 PE.weak (ki PySem.F.plainAttrs_str PySem.F.slot_str_join PySem.F.type_str_join sW ho (bU hc dC hs) hbase hfew hline hs hplain) fun σ H Q h=>by
  obtain ⟨Φ,η,v,η',s,e,hi,k⟩:=h
  obtain ⟨z,ey,e1⟩:=Zz.mp e
  obtain ⟨v0,e2,e3⟩:=Zw.mp e1
  cases e3
  unfold gS at e2
  obtain ⟨ss,es',e4⟩:=Zz.mp e2
  split at e4
  ·rename_i hl
   cases e4
   refine ⟨Φ,η,.fr,.str sep,s,rfl,fun u H1 F1 sm r1 f1=>⟨by rw [hK];exact qq r1 ⟨_,rfl⟩,Φ,η,z.1,z.2,s.same sm,ey,fun D vs H2 Φ2 s2 f2 hD rp hHD no np=>?_⟩⟩
   rw [n9 rp es'] at hD
   refine ⟨sep,D,ss,r1.str_inv.1,rfl,by rw [hK];exact SqL.of hD,hl,k _ H2 Φ2 s2 ((Frm.same sm).trans f2) (.str _ ⟨ZG (ji sep ss) hl,fun c hc=>(iR sep ss c hc).elim (r1.str_inv.2.2 c) fun ⟨s',hs',hc'⟩=>iW rp es' s' hs' c hc'⟩)⟩
  ·cases e4
end
inductive Ix where | io (i:Nat) (un:Bool) | px (x:Xx)
noncomputable def iJ:List Ix->VS.Env->Option (List Ia×VS.Env)
 | [],η=>some ([],η)
 | .io i un :: r,η=>match (η[i]?:Option (Wm)) with
  | some (some _)=>(iJ r η).map fun w=>(.io i un :: w.1,w.2)
  | _=>none
 | .px x :: r,η=>(x η).bind fun z=>if imm z.1.2=true then (iJ r z.2).map fun w=>(.ex (eC z.1.2) :: w.1,w.2) else none
noncomputable def ixB:List Ix->List Bool
 | []=>[]
 | .io _ _ :: r=>true :: ixB r
 | .px _ :: r=>false :: ixB r
noncomputable def aN (as:List Ix) (g:Wi->Option (Wi×T)):Xx:=fun η=>(iJ as η).bind fun w=>kb w.1 g w.2
inductive IxR (G:Gx) (σ:L2.St) (H:Hp):List Ia->List V->Prop
 | nil:IxR G σ H [] []
 | io {i:Nat} {un:Bool} {v:V} {as:List Ia} {vs:List V}:σ[i]?=some (some v)->IxR G σ H as vs->IxR G σ H (.io i un :: as) (v :: vs)
 | ex {t:T} {v:V} {as:List Ia} {vs:List V}:imm t=true->Rp G H v t []->IxR G σ H as vs->IxR G σ H (.ex (eC t) :: as) (v :: vs)
noncomputable def tIx (G:Gx) (as:List Ix):TA:=fun σ H Q=>∃ Φ η ias η',SR G Φ η σ H/\iJ as η=some (ias,η')/\∀ vs H' Φ',SR G Φ' η' σ H'->Frm Φ η H Φ' η' H'->IxR G σ H' ias vs->Q vs H'
noncomputable def PIx (G:Gx) (X:Cx) (es:List Expr) (as:List Ix):Prop:=PA X es (tIx G as)
section
variable {G:Gx} {X:Cx} {e:Expr} {es:List Expr} {as:List Ix} {x:Xx} {pos p:Pos} {i:Nat} {un:Bool} {g:Wi->Option (Wi×T)} {mv:List Bool}
theorem rj:∀ {as:List Ix} {η η':VS.Env} {ias:List Ia},iJ as η=some (ias,η')->iaB ias=ixB as
 | [],_,_,_,h=>by cases h;rfl
 | .io i un :: as,η,η',ias,h=>by
  unfold iJ at h
  split at h
  ·obtain ⟨w,h1,h2⟩:=Zw.mp h
   cases h2
   show true :: iaB w.1=true :: ixB as
   rw [rj (ias:=w.1) (η':=w.2) h1]
  ·cases h
 | .px x :: as,η,η',ias,h=>by
  unfold iJ at h
  obtain ⟨z,_,h0⟩:=Zz.mp h
  split at h0
  ·obtain ⟨w,h1,h2⟩:=Zw.mp h0
   cases h2
   show false :: iaB w.1=false :: ixB as
   rw [rj (ias:=w.1) (η':=w.2) h1]
  ·cases h0
theorem IxR.keep {σ:L2.St} {H H':Hp} (k:Kept H H') {as:List Ia} {vs:List V} (h:IxR G σ H as vs):IxR G σ H' as vs:=by
 induction h with
 | nil=>exact .nil
 | io h _ ih=>exact .io h ih
 | ex hi r _ ih=>exact .ex hi (r.keep k (fun a h=>nomatch h)) ih
theorem B7 {Φ:Fps} {η:VS.Env} {σ:L2.St} {H:Hp} (s:SR G Φ η σ H) {as:List Ia} {vs:List V} (h:IxR G σ H as vs):∀ {ts:Wi},i9 η as=some ts->∃ Fs,RpL G H vs ts Fs/\IaR Φ η σ H as vs Fs:=by
 induction h with
 | nil=>intro ts e;cases e;exact ⟨[],.nil,.nil⟩
 | @io i un v as vs hv _ ih =>
  intro ts e
  obtain ⟨t,e1,e2⟩:=Zz.mp (show (ioV un η[i]?).bind (fun t=>(i9 η as).map (t :: ·))=some ts from e)
  obtain ⟨ts',e3,rfl⟩:=Zw.mp e2
  obtain ⟨Fs,r,q⟩:=ih e3
  unfold ioV at e1
  split at e1
  ·rename_i t0 h0
   obtain ⟨v0,h1,h2⟩:=s.rp _ _ h0
   rw [hv] at h1
   cases h1
   have h2':Rp G H v t0 (Φ i):=h2
   have key:∃ a,v=.ref a/\Rp G H (.ref a) t (Φ i):=by
    split at e1
    ·obtain ⟨⟨m,u⟩,g1,g2⟩:=Zw.mp e1
     cases g2
     rw [kN g1] at h2'
     obtain ⟨a,q1,_,q2⟩:=lY h2'
     exact ⟨a,q1,q2⟩
    ·split at e1
     ·rename_i hm
      cases e1
      obtain ⟨a,rfl⟩:=BQ h2' hm
      exact ⟨a,rfl,h2'⟩
     ·cases e1
   obtain ⟨a,rfl,r0⟩:=key
   exact ⟨Φ i :: Fs,.cons r0 r,.io hv q⟩
  ·cases e1
 | @ex t v as vs hi rv _ ih =>
  intro ts e
  obtain ⟨v0,e1,e2⟩:=Zz.mp (show (eC t η).bind (fun v=>(exV v).bind fun t=>(i9 η as).map (t :: ·))=some ts from e)
  have ev:v0.2=t:=by
   unfold eC at e1
   cases e1
   rfl
  obtain ⟨t',e3,e4⟩:=Zz.mp e2
  obtain ⟨ts',e5,rfl⟩:=Zw.mp e4
  have et:t'=t:=by
   unfold exV at e3
   split at e3
   ·split at e3
    ·cases e3;exact ev
    ·cases e3
   ·cases e3;exact ev
  subst et
  obtain ⟨Fs,r,q⟩:=ih e5
  exact ⟨[] :: Fs,.cons rv r,.ex (fun a h=>nomatch h) q⟩
theorem aZ:PIx G X [] []:=PA.weak dC fun σ H Q hq=>by
 obtain ⟨Φ,η,ias,η',s,e,k⟩:=hq
 cases e
 exact k [] H Φ s (Frm.refl _ _ _) .nil
theorem bQ (i:Nat) (un:Bool) {n:Str} (hN:X.N[i]?=some n) (hv:Vis X.env.scope n) (hd:(n == ("__debug__" : Str))=false) (hcd:(n == ("__classdict__" : Str))=false) (hr:PIx G X es as)
  (hs:starEach (.Name n pos :: es) X.env=(false,eval (.Name n pos) X.env) :: starEach es X.env):PIx G X (.Name n pos :: es) (.io i un :: as) :=
 PA.weak (bU (dB hN hv hd hcd) hr hs) fun σ H Q hq=>by
  obtain ⟨Φ,η,ias,η',s,e,k⟩:=hq
  unfold iJ at e
  split at e
  ·rename_i c hc
   obtain ⟨w,e1,e2⟩:=Zw.mp e
   cases e2
   obtain ⟨v,h1,_⟩:=s.rp _ _ hc
   exact ⟨v,h1,Φ,η,w.1,w.2,s,e1,fun vs H' Φ' s' f ix=>k _ H' Φ' s' f (.io h1 ix)⟩
  ·cases e
theorem bI (h:PX G X e x) (hr:PIx G X es as) (hs:starEach (e :: es) X.env=(false,eval e X.env) :: starEach es X.env):PIx G X (e :: es) (.px x :: as) :=
 PA.weak (bU h hr hs) fun σ H Q hq=>by
  obtain ⟨Φ,η,ias,η',s,e,k⟩:=hq
  unfold iJ at e
  obtain ⟨z,e1,e2⟩:=Zz.mp e
  split at e2
  ·rename_i him
   obtain ⟨w,e3,e4⟩:=Zw.mp e2
   cases e4
   exact ⟨Φ,η,z.1,z.2,s,e1,him,fun u H1 Φ1 s1 f1 r1=>⟨Φ1,z.2,w.1,w.2,s1,e3,fun vs H' Φ' s' f' ix=>k _ H' Φ' s' (f1.trans f') (.ex him (r1.keep f'.kept (fun a h=>nomatch h)) ix)⟩⟩
  ·cases e2
theorem mN {k:Nat} {f:Addr} {fd:FuncData} {ps:List Str} {n:Str} (F:FnOk X.prog X.w X.K X.mg X.base CX0 k f fd ps (spI G (ixB as) g)) (hr:Room k X.A) (hg:Gl X n) (hm:X.mg n=some (.ref f)) (hk:PySem.W.keepIn X.K (.ref f)=true) (hb:Binds X.K fd ps []) (ha:PIx G X (e :: es) (.io i un :: as))
  (hdb:(n == ("__debug__" : Str))=false) (he:starEach (e :: es) X.env=(false,eval e X.env) :: starEach es X.env) (hpl:(backTo pos (starEach es X.env)).any (·.1)=false):PXN G X (.Call (.Name n p) (e :: es) [] pos) (aN (.io i un :: as) g) :=
 PE.weak (tF (E:=E0) F hr hg hm hk hb .nil m8 ha hdb he hpl) fun σ H Q h=>by
  obtain ⟨Φ,η,v,η',s,e,kq⟩:=h
  obtain ⟨⟨ias,η1⟩,e1,e2⟩:=Zz.mp e
  have eB:=rj e1
  refine ⟨Φ,η,ias,η1,s,e1,fun vs H1 Φ1 s1 f1 ix=>?_⟩
  show spI G (ixB as) g (vs++[]) H1 Q _
  rw [ZK]
  cases ix with
  | nil=>cases eB
  | ex _ _ _=>cases eB
  | @io i' un' v' as' vs' h0 ix' =>
   have eB':iaB as'=ixB as:=(List.cons.inj (show true :: iaB as'=true :: ixB as from eB)).2
   have e2':=e2
   unfold kb at e2'
   obtain ⟨ts,e3,_⟩:=Zz.mp e2'
   obtain ⟨Fs,rp,ia⟩:=B7 s1 (.io h0 ix') e3
   rw [← eB']
   exact qD s1 e2 e3 (aD.refl _) rp ia fun u H' Φ' F s' f' r n=>kq u H' Φ' F s' (f1.trans f') r (n.back f1)
end
noncomputable def rP (j:Nat) (x:Xx):Sx:=fun η=>(x η).bind fun z=>if j < z.2.length then some (.nx (z.2.set j (some (.ow z.1.2)))) else none
section
variable {G:Gx} {X:Cx} {e:Expr} {x:Xx} {pos pos':Pos} {j:Nat} {nm:Str}
theorem vX (h:PXN G X e x) (hN:X.N.Nodup) (hi:X.N[j]?=some nm) (hx:Loc X.env.scope nm) (hsw:swapsWith e (some (.Name nm pos')) pos.line X.env=pure false) (hf:X.fn nm=true\/X.env.scope.names.lookup nm=some .local) :
  PSV G X (.Assign [.Name nm pos'] e pos) (rP j x) :=
 PS.weak (jZ hN hi hx h hsw hf) fun D σ H hq=>by
  obtain ⟨Φ,η,o,s,e,k⟩:=hq
  obtain ⟨z,e1,e2⟩:=Zz.mp e
  split at e2
  ·rename_i hc
   cases e2
   refine ⟨Φ,η,z.1,z.2,s,e1,fun u H1 Φ1 F s1 f1 r1 n1=>?_⟩
   refine k _ _ _ (s1.put (c:=.ow z.1.2) (H':=H1) hc r1 (fun _ _ _ _ _ q=>q) (fun _ _=>n1.nd) (fun _ _ j' c' _ hj a ha=>n1.ap j' c' hj a ha) fun j' t _ hj a ha ha'=>n1.ap j' _ hj a ha' ha) ⟨fun a o h n=>⟨(f1.keep a o h n).1,fun z=>?_⟩,f1.dom,fun a h=>?_,fun a h=>?_,f1.kept⟩
   ·rcases jc z with ⟨_,_,ha⟩ | z
    ·rcases n1.of a ha with q | q
     ·rw [q] at h;cases h
     ·exact n q
    ·exact (f1.keep a o h n).2 z
   ·rcases jc h with ⟨_,_,ha⟩ | z
    ·exact (n1.of a ha).symm
    ·exact f1.ow a z
   ·rcases oG h with ⟨_,q,_⟩ | z
    ·cases q
    ·exact f1.pu a z
  ·cases e2
end
noncomputable def iu (o:Option Xx) (η:VS.Env):Option (Option Int×VS.Env):=match o with
 | none=>some (none,η)
 | some x=>(x η).bind fun z=>match z.1.2 with
  | .int i=>some (some i,z.2)
  | _=>none
noncomputable def xSl (a:Xx) (lo hi:Option Xx):Xx:=fun η=>(a η).bind fun z=>match z.1.2 with
 | .str t=>(iu lo z.2).bind fun l=>(iu hi l.2).map fun h=>((.fr,.str (cut t l.1 h.1)),h.2)
 | _=>none
noncomputable def mV (n:Nat) (x:Xx):Sx:=fun η=>match (η[n]?:Option (Wm)) with
 | some (some (.ow (.lst _)))=>(x η).bind fun z=>match (z.2[n]?:Option (Wm)) with
  | some (some (.ow t))=>if imm z.1.2=true then (aH t [(.fr,z.1.2)]).map fun w=>.nx (z.2.set n (some (.ow w.1))) else none
  | _=>none
 | _=>none
noncomputable def tXO (G:Gx) (o:Option Xx):TO:=fun σ H Q=>∃ Φ η i η',SR G Φ η σ H/\iu o η=some (i,η')/\∀ H' Φ',SR G Φ' η' σ H'->Frm Φ η H Φ' η' H'->Q i H'
section
variable {G:Gx} {X:Cx} {e a b:Expr} {lo hi:Option Expr} {xl xh:Option Xx} {xa x xb:Xx} {pos p2:Pos} {i:Nat} {n:Str}
theorem kT:PO X none (tXO G none):=PO.weak sJ fun σ H Q hq=>by
 obtain ⟨Φ,η,o,η',s,e,k⟩:=hq
 cases e
 exact k H Φ s (Frm.refl _ _ _)
theorem kU (h:PX G X e x):PO X (some e) (tXO G (some x)):=PO.weak (r6 h) fun σ H Q hq=>by
 obtain ⟨Φ,η,o,η',s,e,k⟩:=hq
 obtain ⟨z,e1,e2⟩:=Zz.mp e
 split at e2
 ·rename_i j hj
  cases e2
  refine ⟨Φ,η,z.1,z.2,s,e1,by rw [hj];rfl,fun u H' Φ' s' f r=>⟨j,?_,k H' Φ' s' f⟩⟩
  rw [hj] at r
  exact r.int_inv
 ·cases e2
theorem Ad (ha:PX G X a xa) (hl:PO X lo (tXO G xl)) (hh:PO X hi (tXO G xh)):PX G X (.Subscript a (.Slice lo hi none p2) pos) (xSl xa xl xh) :=
 PE.weak (ll xR ha hl hh) fun σ H Q hq=>by
  obtain ⟨Φ,η,v,η',s,e,him,k⟩:=hq
  obtain ⟨z,e1,e2⟩:=Zz.mp e
  split at e2
  ·rename_i t ht
   obtain ⟨l,e3,e4⟩:=Zz.mp e2
   obtain ⟨h,e5,e6⟩:=Zw.mp e4
   cases e6
   refine ⟨Φ,η,z.1,z.2,s,e1,by rw [ht];rfl,fun u H1 Φ1 s1 f1 r1=>⟨Φ1,z.2,l.1,l.2,s1,e3,fun H2 Φ2 s2 f2=>⟨Φ2,l.2,h.1,h.2,s2,e5,fun H3 Φ3 s3 f3=>?_⟩⟩⟩
   rw [ht] at r1
   obtain ⟨rfl,hz⟩:=r1.str_inv
   refine ⟨_,rfl,by rw [c8,← eU];exact hz.1,?_⟩
   rw [iL]
   exact k _ H3 Φ3 s3 ((f1.trans f2).trans f3) (.str _ ⟨ZG (sU _ _ _) hz.1,fun c hc=>hz.2 c ((kK _ _ _).subset hc)⟩)
  ·cases e2
theorem AK (i:Nat) (hN:X.N[i]?=some n) (hv:Vis X.env.scope n) (hd:(n == ("__debug__" : Str))=false) (hcd:(n == ("__classdict__" : Str))=false) (hb:PX G X b xb) (hs:fO b) (hK:X.K=G.K):PX G X (.Subscript (.Name n p2) b pos) (pX i xb) :=
 PE.weak (lE jd (dB hN hv hd hcd) hb hs) fun σ H Q hq=>by
  obtain ⟨Φ,η,v,η',s,e,him,k⟩:=hq
  unfold pX at e
  split at e
  ·rename_i c0 hc0
   obtain ⟨v0,h0,_⟩:=s.rp _ _ hc0
   obtain ⟨z,e1,e2⟩:=Zz.mp e
   split at e2
   ·rename_i i0 c hz hc
    split at e2
    ·rename_i ts hts
     obtain ⟨j,ej,e3⟩:=Zz.mp e2
     obtain ⟨t,et,e4⟩:=Zz.mp e3
     split at e4
     ·rename_i hit
      cases e4
      refine ⟨v0,h0,Φ,η,z.1,z.2,s,e1,by rw [hz];rfl,fun w H2 Φ2 s2 f2 r2=>?_⟩
      obtain ⟨v1,h1,r1⟩:=s2.rp _ _ hc
      rw [h0] at h1
      cases h1
      rw [hts] at r1
      rw [hz] at r2
      obtain ⟨a,vs,Fs,rfl,eF,ha1,ra⟩:=r1.lst_inv
      obtain ⟨x,Fx,u1,u2,u3⟩:=ra.get j et
      have hx:=u3.imm hit
      subst hx
      exact .inl ⟨a,vs,i0,x,rfl,r2.int_inv,by rw [hK];exact SqL.of ha1,iV (by rw [ra.len.1];exact ej) u1,k x H2 Φ2 s2 f2 u3⟩
     ·cases e4
    ·cases e2
   ·cases e2
  ·cases e
theorem zr {apos cpos p1:Pos} (i:Nat) (hN:X.N[i]?=some n) (hv:Vis X.env.scope n) (hd:(n == ("__debug__" : Str))=false) (hcd:(n == ("__classdict__" : Str))=false) (h:PX G X e x) (hK:X.K=G.K)
  (hbase:attributeBase (.Name n p1) "append" X.env (eval (.Name n p1) X.env)=eval (.Name n p1) X.env)
  (hfew:((backTo cpos (starEach [e] X.env)).all (fun x=>!x.1) && (backToKw cpos (keywordEach [] X.env)).all (fun x=>x.1.isSome)
   && decide ([e].length+([]:List Keyword).length+(if ([]:List Keyword).isEmpty then 0 else 1) < 30))=true)
  (hline:(apos.endLine == cpos.line)=true) (hs:starEach [e] X.env=(false,eval e X.env) :: starEach [] X.env) (hplain:(backTo cpos (starEach [] X.env)).any (·.1)=false)
  (hsw:swapsWith (.Call (.Attribute (.Name n p1) "append" apos) [e] [] cpos) none pos.line X.env=pure false) :
  PSV G X (.Expr (.Call (.Attribute (.Name n p1) "append" apos) [e] [] cpos) pos) (mV i x) :=
 PS.weak (iy (ki YU YX YY fe (dB hN hv hd hcd) (bU h dC hs) hbase hfew hline hs hplain) hsw) fun D σ H hq=>by
  obtain ⟨Φ,η,o,s,e,k⟩:=hq
  unfold mV at e
  split at e
  ·rename_i l0 hc0
   obtain ⟨v0,h0,r0⟩:=s.rp _ _ hc0
   obtain ⟨z,e1,e2⟩:=Zz.mp e
   split at e2
   ·rename_i t ht
    split at e2
    ·rename_i him
     obtain ⟨⟨t',x'⟩,e3,e4⟩:=Zw.mp e2
     cases e4
     refine ⟨v0,h0,by rw [hK];exact oV r0,Φ,η,z.1,z.2,s,e1,him,fun w H2 Φ2 s2 f2 r2=>?_⟩
     obtain ⟨v1,h1,r1⟩:=s2.rp _ _ ht
     rw [h0] at h1
     cases h1
     show kP v0 [w] H2 (fun x H1=>D.nx σ H1)
     refine iD Φ2 z.2 H2 H2 v0 t t' (Φ2 i) [(.fr,z.1.2)] [w] [[]] x' _ r1 (s2.nd i t ht) ⟨aD.refl _,.cons r2 .nil,⟨fun j v F a b=>?_,by simp [frs]⟩⟩ e3 fun u H3 F' g=>?_
     ·cases j with
      | zero=>cases (show some ((.fr,z.1.2):Val)=some v from a);cases (show some ([]:X0)=some F from b);exact Fp.nil
      | succ j=>simp at a
     ·obtain ⟨w1,w2⟩:=s2.mut ht h0 g
      exact k _ σ H3 w1 (f2.trans w2)
    ·cases e2
   ·cases e2
  ·cases e
end
section
variable {G:Gx} {X:Cx} {elt a:Expr} {sc:Scope} {pos p p2 p3:Pos} {N:List Str} {nm:Str} {xa x:Xx}
theorem xT (N:List Str) (hcalm:X.calm=true) (hg:Gl X "range") (hm:X.mg "range" = none) (ha:PX G X a xa) (hgn:∀ cl C s H fp,PG (cN X N sc cl C s H fp) (.Name nm p2) (rN 0)) (he:∀ cl C s H fp,PX G (cN X N sc cl C s H fp) elt x)
  (hs:starEach [a] X.env=(false,eval a X.env) :: starEach [] X.env) (hs':starEach [a] X.env=[(false,eval a X.env)]) (hsc:nI X.env sc=true) (hnm:kB sc (N.drop 1) X.N=true) (hNl:1<=N.length) (hf:∀ x,foldedSetIterable (.Call (.Name "range" p) [a] [] p3) X.env x=pure x) :
  PE X (.ListComp elt [⟨.Name nm p2,.Call (.Name "range" p) [a] [] p3,[],0⟩] sc pos) (tXL G (qb xa x)) :=
 PE.weak (kM hcalm (mR hg hm (bU ha dC hs) hs') hsc hnm hNl (fun cl C s H fp=>⟨hgn cl C s H fp,lO,he cl C s H fp⟩) hf) fun σ H Q h=>vw (g:=rN 0) (fun v σ H R r=>r) h
end
noncomputable def xp (j:Nat) (x:Xx):Sx:=fun η=>(x η).bind fun z=>if imm z.1.2=true/\j < z.2.length then some (.nx (z.2.set j (some (.ow (.lst [z.1.2]))))) else none
noncomputable def nL (j n:Nat) (lo hi:Option Xx):Sx:=fun η=>match (η[n]?:Option (Wm)) with
 | some (some _)=>(iu lo η).bind fun l=>(iu hi l.2).bind fun h=>match (h.2[n]?:Option (Wm)) with
  | some (some c)=>(match gR c with
   | .lst ts=>if dv ts=true/\ts.length<=dD/\j < h.2.length then some (.nx (h.2.set j (some (.ow (.lst (cut ts l.1 h.1)))))) else none
   | _=>none)
  | _=>none
 | _=>none
section
variable {G:Gx} {X:Cx} {e:Expr} {lo hi:Option Expr} {xl xh:Option Xx} {x:Xx} {pos pos' p1 p2 p3:Pos} {j:Nat} {nm n:Str}
theorem wm (h:PX G X e x) (hN:X.N.Nodup) (hi:X.N[j]?=some nm) (hx:Loc X.env.scope nm) (hs:starEach [e] X.env=(false,eval e X.env) :: starEach [] X.env) (hsw:swapsWith (.List [e] p1) (some (.Name nm pos')) pos.line X.env=pure false) (hf:X.fn nm=true\/X.env.scope.names.lookup nm=some .local) :
  PSV G X (.Assign [.Name nm pos'] (.List [e] p1) pos) (xp j x) :=
 PS.weak (jZ hN hi hx (nV (bU h dC hs)) hsw hf) fun D σ H hq=>by
  obtain ⟨Φ,η,o,s,e,k⟩:=hq
  obtain ⟨z,e1,e2⟩:=Zz.mp e
  split at e2
  ·rename_i hc
   cases e2
   refine ⟨Φ,η,z.1,z.2,s,e1,hc.1,fun u H1 Φ1 s1 f1 r1=>⟨by show 1<=16777216;decide,fun p hp=>?_⟩⟩
   have rl:Rp G (upd H1 p (.lst [u])) (.ref p) (.lst [z.1.2]) (p :: ([[]]:Y1).flatten):=.lst ar (.cons (r1.same (bj hp)) .nil)
   obtain ⟨q1,q2⟩:=s1.val (c:=.ow (.lst [z.1.2])) (m:=.fr) hc.2 (bj hp) rl ⟨by simp,fun a ha=>by simp at ha;rw [ha];exact hp⟩ (.inr ⟨rfl,rfl⟩)
   exact k _ _ _ q1 (f1.trans q2)
  ·cases e2
theorem uD (i:Nat) (hNi:X.N[i]?=some n) (hv:Vis X.env.scope n) (hd:(n == ("__debug__" : Str))=false) (hcd:(n == ("__classdict__" : Str))=false) (hl:PO X lo (tXO G xl)) (hh:PO X hi (tXO G xh)) (hK:X.K=G.K) (hN:X.N.Nodup) (hj:X.N[j]?=some nm) (hx:Loc X.env.scope nm)
  (hsw:swapsWith (.Subscript (.Name n p1) (.Slice lo hi none p2) p3) (some (.Name nm pos')) pos.line X.env=pure false) (hf:X.fn nm=true\/X.env.scope.names.lookup nm=some .local) :
  PSV G X (.Assign [.Name nm pos'] (.Subscript (.Name n p1) (.Slice lo hi none p2) p3) pos) (nL j i xl xh) :=
 PS.weak (jZ hN hj hx (ll sC (dB hNi hv hd hcd) hl hh) hsw hf) fun D σ H hq=>by
  obtain ⟨Φ,η,o,s,e,k⟩:=hq
  unfold nL at e
  split at e
  ·rename_i c0 hc0
   obtain ⟨v0,h0,_⟩:=s.rp _ _ hc0
   obtain ⟨l,e1,e2⟩:=Zz.mp e
   obtain ⟨h,e3,e4⟩:=Zz.mp e2
   split at e4
   ·rename_i c hc
    split at e4
    ·rename_i ts hts
     split at e4
     ·rename_i hq
      cases e4
      refine ⟨v0,h0,Φ,η,l.1,l.2,s,e1,fun H1 Φ1 s1 f1=>⟨Φ1,l.2,h.1,h.2,s1,e3,fun H2 Φ2 s2 f2=>?_⟩⟩
      obtain ⟨v1,h1,r1⟩:=s2.rp _ _ hc
      rw [h0] at h1
      cases h1
      rw [hts] at r1
      obtain ⟨a,vs,Fs,rfl,eF,ha1,ra⟩:=r1.lst_inv
      refine ⟨a,vs,rfl,by rw [hK];exact SqL.of ha1,fun p hp=>?_⟩
      have rc:=ra.cut l.1 h.1
      have fl:(cut Fs l.1 h.1).flatten=[]:=by
       have:=pw (kK Fs l.1 h.1)
       rw [ra.imm hq.1] at this
       exact List.sublist_nil.mp this
      have rl:Rp G (upd H2 p (.lst (qN vs l.1 h.1))) (.ref p) (.lst (cut ts l.1 h.1)) (p :: (cut Fs l.1 h.1).flatten):=.lst ar (rc.same (bj hp))
      obtain ⟨q1,q2⟩:=s2.val (c:=.ow (.lst (cut ts l.1 h.1))) (m:=.fr) hq.2.2 (bj hp) rl ⟨by rw [fl];simp,fun b hb=>by rw [fl] at hb;simp at hb;rw [hb];exact hp⟩ (.inr ⟨rfl,rfl⟩)
      exact k _ _ _ q1 ((f1.trans f2).trans q2)
     ·cases e4
    ·cases e4
   ·cases e4
  ·cases e
end
section
variable {G:Gx} {X:Cx} {e a b elt:Expr} {es rest:List Expr} {ca cb:Ex} {xa xb xc:Xx} {xt:Xt} {as:List Ix} {lo hi:Option Expr} {xl xh:Option Xx} {y:VS.Env->Option (Wi×VS.Env)} {sep:Tx} {sc:Scope} {N:List Str} {p pos pos' p1 p2 p3 apos cpos:Pos} {i j k k':Nat} {un:Bool} {n nm x:Str} {ps:List Str} {g:Wi->Option (Wi×T)}
theorem sR (ha:PVT G X a ca) (hb:PXT G X b xt):PXT G X (.BoolOp .And [a,b] pos) (ip ca xt):=(x8 ha (wt hb)).pxt
theorem bg (F:IoAt X.prog X.w X.K X.mg X.base k x ps G (ixB as) g) (hr:Room k' X.A) (ha:PIx G X (e :: es) (.io i un :: as)) (hk:k<=k') (hg:Gl X x) (hdb:(x == ("__debug__" : Str))=false) (he:starEach (e :: es) X.env=(false,eval e X.env) :: starEach es X.env) (hpl:(backTo pos (starEach es X.env)).any (·.1)=false) :
  PX G X (.Call (.Name x p) (e :: es) [] pos) (aN (.io i un :: as) g):=by
 obtain ⟨f,fd,h1,h2,h3,h4⟩:=F.ex
 exact (mN h1 (hr.mono hk) hg h2 h3 h4 ha hdb he hpl).px
theorem yE (F:IoAt X.prog X.w X.K X.mg X.base k x ps G (ixB as) g) (hr:Room k' X.A) (ha:PIx G X (e :: es) (.io i un :: as)) (hk:k<=k') (hg:Gl X x) (hdb:(x == ("__debug__" : Str))=false) (he:starEach (e :: es) X.env=(false,eval e X.env) :: starEach es X.env) (hpl:(backTo pos (starEach es X.env)).any (·.1)=false) :
  PXN G X (.Call (.Name x p) (e :: es) [] pos) (aN (.io i un :: as) g):=by
 obtain ⟨f,fd,h1,h2,h3,h4⟩:=F.ex
 exact mN h1 (hr.mono hk) hg h2 h3 h4 ha hdb he hpl
end
noncomputable def u0:Fn:=fun ts=>match ts with
 | [.scr ns]=>if ns.length<=63 then some (.fr,.bl true) else none
 | _=>none
section
variable {P:Program} {w:World} {K:Y2} {mg:Xu} {base:Heap} {G:Gx}
theorem yU {k:Nat} {f:Addr} {fd:FuncData} {y:Str} {g:Fn} (hK:G.K=K) (F:FnOk P w K mg base CX0 k f fd [y] (spF G g)) (hg:∀ ns:Wp,ns.length<=63->g [.scr ns]=some (.fr,.bl true)) :
  FnOk P w K mg base CX0 k f fd [y] (spF (gx0 K) u0):=F.imp fun vs H Q E h=>by
 obtain ⟨ts,Fs,m,r,h1,h2,q⟩:=h
 unfold u0 at h2
 split at h2
 ·rename_i ns
  split at h2
  ·rename_i hn
   cases h2
   cases h1 with
   | cons r1 r2 =>
    cases r2
    cases r1 with
    | scr hs=>exact ⟨[.scr ns],[[]],.fr,.bl true,.cons (.scr (by rw [hK];exact hs)) .nil,hg ns hn,fun v H' F e1 r f1=>q v H' F e1 (by cases r;exact .bl _) f1⟩
  ·cases h2
 ·cases h2
end
theorem u7 {l:PySem.W.OpenLaw} {q:Program} {loose:List Str} {XP:(Xu)->Heap->Prop} {d:DefRec} {K:Params->Y2} {x:Str} {k:Nat} (hn:l.most=some 63) (hdf:d.params.defaults=[]) (hr:Room k callerA)
  (F:∀ (w:World) (mg:Xu) (fa:Addr) (h:Heap),(K w.params).In h->h.Ns mainGlobals mg->mg d.name=some (.ref fa) →
   ∃ fd:FuncData,(∀ (s:Shared) (u:Value),BindsTo s fd ⟨[u],[]⟩ [(x,u)])/\∀ base:Heap,(K w.params).In base->base.Ns mainGlobals mg->FnOk l.prog w (K w.params) mg base CX0 k fa fd [x] (spF (gx0 (K w.params)) u0)) :
  PySem.W.WalkO q loose XP (fun w h=>(K w.params).In h) l.row.toRowW d [] (fun f vs=>PySem.call f vs) :=
 L2.yJ (n:=63) (k:=k) (x:=x) (CX:=fun _=>CX0) (sp:=fun w=>spF (gx0 (K w.params)) u0) hn (by decide) hdf hr (fun _ _ h=>h) F (fun w H a ns hl hO hS=>AE (G:=gx0 (K w.params)) (Zq hl) hO hS) fun _ _ _ _ _ z=>z
end VS
end
section
namespace T37
open VS
noncomputable def aG:Mt:=mfn 0 4 4 [false,false,true]
  (ak (sX (kz 0 [.fld 1] aH (ab (aa 1) aj)))
  (ak (sX (kz 0 [.fld 2] aH (ab (aa 2) aj)))
  (ak (lM 0 [.fld 3] 3)
  (gp (e2 vR (eN cK (ab (bq 1 (aa 0)) aj)) (Q2 1))))))
noncomputable def dS:Mt:=mfn 0 1 1 (List.replicate 0 false)
  (ak (oZ 0 1 (dF aj))
  (ak (oZ 0 2 (dF aj))
  (ak (oZ 0 3 (dF aj))
  (sXM (bR 0 [] 0 [false,false,true] aG (ab (Q2 0) (ab (eC .non) (ab (mn 0 []) aj))))))))
noncomputable def bw:Sx :=
  (ak (fF 0 [.fld 3,.ix (aa 1)] (aa 2) (aa 5))
  (aK 1 (e2 aE (bq 2 (aa 0)) (aa 1))))
noncomputable def aw:Mt:=mfn 0 3 6 [false,false]
  (ak (aK 3 (e2 oIx (e2 aE (bq 3 (aa 0)) (aa 1)) (aa 2)))
  (ak (aK 4 (e2 aS (e2 aE (bq 1 (aa 0)) (aa 1)) (Q2 1)))
  (ak (sIf (e2 oEq (e2 aE (bq 1 (aa 0)) (aa 3)) (aa 4)) (eR 3) dy)
  (ak (cz 5 (bR 0 [] 0 [false,false,true] aG (ab (aa 4) (ab (e2 aE (bq 2 (aa 0)) (aa 3)) (ab (eN j9 (ab (e2 aE (bq 3 (aa 0)) (aa 3)) aj)) aj)))))
  (ak (fF 0 [.fld 2] (aa 3) (aa 5))
  (ak (iY (lS (gr (aa 1)) (e2 oEq (e2 t9 (e2 aE (bq 3 (aa 0)) (aa 1)) (aa 2)) (aa 3))) bw)
  (eR 5)))))))
noncomputable def bu:Sx :=
  (ak (fF 0 [.fld 3,.ix (aa 4)] (aa 2) (aa 3))
  (aK 4 (e2 aE (bq 2 (aa 0)) (aa 4))))
noncomputable def bh:Mt:=mfn 0 3 5 [false,false]
  (ak (sIf (e2 jP (aa 2) (e2 aE (bq 3 (aa 0)) (aa 1))) (ju (bR 0 [] 0 [false,false] aw (ab (aa 1) (ab (aa 2) aj)))) dy)
  (ak (cz 3 (bR 0 [] 0 [false,false,true] aG (ab (e2 aS (e2 aE (bq 1 (aa 0)) (aa 1)) (Q2 1)) (ab (Q2 0) (ab (mn 0 []) aj)))))
  (ak (aK 4 (aa 1))
  (ak (iY (lS (gr (aa 4)) (e2 bT (aa 2) (e2 aE (bq 3 (aa 0)) (aa 4)))) bu)
  (ak (sIf (gr (aa 4)) (ky 0 [.fld 2] (aa 3) (bR 0 [] 0 [false,false] aw (ab (aa 4) (ab (aa 2) aj)))) dy)
  (eR 3))))))
noncomputable def bG:Sx :=
  (cz 1 (bR 0 [] 0 [false,false] bh (ab (aa 1) (ab (aa 3) aj))))
noncomputable def bD:Mt:=mfn 0 3 4 [false,false]
  (ak (fA (aT 3) (il (aa 2)) bG)
  (eR 1))
noncomputable def aV:Sx :=
  (sIf (e2 bT (e2 oIx (aa 4) (aa 5)) (aa 1)) (ak (pR 1 (e2 oIx (aa 4) (aa 5)) (eN cK (ab (aa 2) aj)))
  (sX (l9 2 [] aH (ab (e2 oIx (aa 4) (aa 5)) aj)))) dy)
noncomputable def bB:Sx :=
  (ak (aK 4 (e2 aE (bq 3 (aa 0)) (e2 aE (aa 2) (aa 3))))
  (ak (fA (aT 5) (il (eN fR (ab (aa 4) aj))) aV)
  (aK 3 (e2 aS (aa 3) (Q2 1)))))
noncomputable def aC:Fn:=fn 1 6
  (ak (gD 1 (mn 0 [((Q2 0),(Q2 0))]))
  (ak (gD 2 (dF (ab (Q2 0) aj)))
  (ak (aK 3 (Q2 0))
  (ak (iY (e2 oLt (aa 3) (eN cK (ab (aa 2) aj))) bB)
  (ak (ox 2)
  (eR 1))))))
noncomputable def bA:Fn:=fn 3 6
  (ak (aK 3 (e2 aE (bq 2 (aa 0)) (aa 1)))
  (ak (aK 4 (e2 aE (bq 3 (aa 0)) (aa 1)))
  (ak (aK 5 (eN jJ (ab (dE 1 (aT 0) (il (eN fR (ab (aa 4) aj))) none (g9 (ab (aa 0) (ab (e2 om (aa 3) (e2 oIx (aa 5) (aa 0))) aj)))) aj)))
  (ak (sIf (ym (aa 3)) (gp (g9 (ab (Q2 0) (ab (Q2 0) (ab (eC .non) (ab (aa 5) aj)))))) dy)
  (gp (g9 (ab (e2 aS (e2 aE (bq 1 (aa 0)) (aa 3)) (Q2 1)) (ab (e2 aE (bq 1 (aa 0)) (aa 1)) (ab (e2 om (aa 2) (aa 3)) (ab (aa 5) aj))))))))))
noncomputable def dc:Fn:=fn 1 2
  (ak (gD 1 (fI 0 aC (aa 0) aj))
  (wu 1 (aT 0) (fI 0 bA (aa 1) (ab (aa 0) (ab (aa 2) aj)))))
noncomputable def fW:Sx :=
  (sXM (bR 1 [] 0 [false,false] bD (ab (Q2 0) (ab (aa 2) aj))))
noncomputable def fG:Fn:=fn 1 3
  (ak (gD 1 (eNew 0 dS aj))
  (ak (fA (aT 2) (il (aa 0)) fW)
  (ak (ox 1)
  (gp (fI 0 dc (aa 1) aj)))))
noncomputable def cj:Sx :=
  (ak (sIf (e2 bT (aa 7) (aa 6)) (gp (e2 aS (aa 5) (aa 7))) dy)
  (sX (l9 3 [] aH (ab (g9 (ab (e2 aS (aa 5) (aa 7)) (ab (e2 oIx (aa 6) (aa 7)) aj))) aj))))
noncomputable def jm:Sx :=
  (ak (aK 5 (e2 aE (e2 aE (aa 3) (aa 4)) (Q2 0)))
  (ak (aK 6 (eN j8 (ab (e2 aE (e2 aE (aa 2) (e2 aE (e2 aE (aa 3) (aa 4)) (Q2 1))) (Q2 3)) aj)))
  (ak (fA (aT 7) (il (aa 1)) cj)
  (aK 4 (e2 aS (aa 4) (Q2 1))))))
noncomputable def bW:Fn:=fn 2 8
  (ak (aK 2 (cy fG (ab (aa 0) aj)))
  (ak (gD 3 (dF (ab (g9 (ab (eC (.str [])) (ab (Q2 0) aj))) aj)))
  (ak (aK 4 (Q2 0))
  (iY (eC (.bl true)) jm))))
noncomputable def eO:Sx :=
  (ak (aK 3 (e2 oMod (e2 aS (e2 aS (e2 fH (aa 3) (Q2 69621)) (e2 fH (Q2 7) (aa 5))) (Q2 1)) (Q2 2147483647)))
  (ak (aK 6 (e2 oMod (e2 fH (aa 3) (aa 3)) (Q2 2147483629)))
  (aK 4 (e2 aS (e2 fH (aa 4) (Q2 999983)) (e2 oMod (e2 fH (aa 6) (e2 aS (e2 oMod (aa 6) (Q2 65521)) (Q2 3))) (Q2 999983))))))
noncomputable def bt:Fn:=fn 2 7
  (ak (aK 2 (e2 aS (e2 fH (aa 1) (Q2 7919)) (Q2 104729)))
  (ak (sIf (e2 oGt (eN cK (ab (aa 0) aj)) (Q2 0)) (aK 2 (e2 aS (e2 aE (aa 0) (e2 oMod (aa 1) (eN cK (ab (aa 0) aj)))) (e2 fH (e2 iO (aa 1) (eN cK (ab (aa 0) aj))) (Q2 48271)))) dy)
  (ak (sIf (e2 oEq (e2 oMod (aa 2) (Q2 2)) (Q2 0)) (gp (dF (ab (e2 iO (aa 2) (Q2 2)) aj))) dy)
  (ak (aK 3 (e2 oMod (e2 aS (e2 iO (aa 2) (Q2 2)) (e2 fH (Q2 40503) (aa 1))) (Q2 2147483629)))
  (ak (aK 4 (Q2 0))
  (ak (fA (aT 5) (bH (Q2 24)) eO)
  (gp (dF (ab (aa 4) aj)))))))))
noncomputable def au:Wi->Option (Wi×T):=ifn 2 3 [false]
  (ak (aK 2 (e2 oMod (e2 aE (eUn (aa 0)) (Q2 0)) (aa 1)))
  (ak (fF 0 [.un] (Q2 0) (e2 iO (e2 aE (eUn (aa 0)) (Q2 0)) (aa 1)))
  (eR 2)))
noncomputable def dX:Wi->Option (Wi×T):=ifn 3 3 [false,false]
  (ju (uU [] (qb (aN [(.io 0 true),(.px (xI (e2 aS (aa 2) (Q2 1))))] au) (x2 aE (xI (aa 2)) (aN [(.io 1 true),(.px (xI (eN cK (ab (aa 2) aj))))] au)))))
noncomputable def fK:Wi->Option (Wi×T):=ifn 1 5 []
  (ak (aK 1 (eC (.str [97,98,99,100,101,102,103,104,105,106,107,108,109,110,111,112,113,114,115,116,117,118,119,120,121,122])))
  (ak (cz 2 (ke (dF (ab (Q2 2) (ab (Q2 1) (ab (Q2 3) (ab (Q2 2) (ab (Q2 4) (ab (Q2 2) (ab (Q2 3) (ab (Q2 26) aj))))))))) (aN [(.io 0 true),(.px (xI (Q2 8)))] au)))
  (ak (cz 3 (aN [(.io 0 true),(.px (xI (Q2 26)))] au))
  (ak (cz 4 (ke (dF (ab (Q2 1) (ab (Q2 3) (ab (Q2 25) (ab (Q2 7) aj))))) (aN [(.io 0 true),(.px (xI (Q2 4)))] au)))
  (gp (eM gS (eC (.str [])) (ab (dE 1 (aT 0) (bH (aa 2)) none (e2 aE (aa 2) (e2 oMod (e2 aS (aa 4) (e2 fH (aa 5) (aa 0))) (Q2 26)))) aj)))))))
noncomputable def df:Sx :=
  (ak (cz 5 (aN [(.io 0 true),(.px (xI (aa 1))),(.px (ke (dF (ab (Q2 6) (ab (Q2 3) (ab (Q2 10) (ab (Q2 8) aj))))) (aN [(.io 0 true),(.px (xI (Q2 4)))] au)))] dX))
  (ak (qM (ip (e2 oGt (aa 4) (Q2 0)) (xtV (x2 oEq (aN [(.io 0 true),(.px (xI (Q2 4)))] au) (xI (Q2 1))))) (ak (cz 6 (pX 3 (aN [(.io 0 true),(.px (xI (aa 4)))] au)))
  (cz 5 (xSl (x2 aS (xSl (xI (aa 6)) (some (aN [(.io 0 true),(.px (xI (e2 aS (eN cK (ab (aa 6) aj)) (Q2 1))))] au)) none) (xI (aa 5))) none (some (xI (Q2 14)))))) dy)
  (sX (l9 3 [] aH (ab (aa 5) aj)))))
noncomputable def gE:Wi->Option (Wi×T):=ifn 2 7 [false]
  (ak (cz 2 (ke (dF (ab (Q2 2) (ab (Q2 1) (ab (Q2 3) (ab (Q2 2) (ab (Q2 4) (ab (Q2 0) (ab (Q2 1) (ab (Q2 8) aj))))))))) (aN [(.io 0 true),(.px (xI (Q2 8)))] au)))
  (ak (gD 3 (dF aj))
  (ak (fA (aT 4) (bH (aa 2)) df)
  (ak (qM (ip (gI oLt oLt (Q2 0) (aa 2) (Q2 3)) (xtV (x2 oEq (aN [(.io 0 true),(.px (xI (Q2 6)))] au) (xI (Q2 1))))) (ky 3 [] (Q2 0) (x2 rV (x2 aS (x2 aS (xI (e2 aE (aa 3) (Q2 0))) (aN [(.io 0 true),(.px (xI (aa 1))),(.px (xI (Q2 24)))] dX)) (xI (e2 aE (aa 3) (Q2 (-1))))) (x2 aS (xI (Q2 1)) (aN [(.io 0 true),(.px (xI (Q2 2)))] au)))) dy)
  (eR 3)))))
noncomputable def dI:Sx :=
  (jK 1 (eSl (aa 3) (some (aa 4)) (some (aa 5))) (ab (g9 (ab (aa 2) (ab (aa 5) aj))) aj))
noncomputable def fB:Sx :=
  (fA (aT 5) (jI (e2 aS (aa 4) (Q2 1)) (e2 aS (eN cK (ab (aa 3) aj)) (Q2 1))) dI)
noncomputable def ft:Sx :=
  (ak (pB 1 (eC (.str [])) (e2 aS (e2 oIx (aa 1) (eC (.str []))) (dE 1 (aT 0) (bH (e2 aS (eN cK (ab (aa 3) aj)) (Q2 1))) none (g9 (ab (aa 3) (ab (aa 0) aj))))))
  (fA (aT 4) (bH (eN cK (ab (aa 3) aj))) fB))
noncomputable def ed:Fn:=fn 1 6
  (ak (gD 1 (mn 0 [((eC (.str [])),(dF aj))]))
  (ak (fA (t4 [(aT 2),(aT 3)]) (uS (aa 0)) ft)
  (eR 1)))
noncomputable def da:Wi->Option (Wi×T):=ifn 2 5 [false]
  (ak (aK 2 (eC (.str [97,98,99,100,101,102,103,104,105,106,107,108,109,110,111,112,113,114,115,116,117,118,119,120,121,122])))
  (ak (cz 3 (aN [(.io 0 true),(.px (xI (Q2 8)))] au))
  (ak (sIf (e2 oEq (aa 3) (Q2 0)) (eR 2) dy)
  (ak (gD 4 (eN gv (ab (aa 1) aj)))
  (ak (sIf (e2 oEq (aa 3) (Q2 1)) (nL 4 4 none (some (x2 aS (xI (Q2 1)) (aN [(.io 0 true),(.px (xI (eN cK (ab (aa 1) aj))))] au)))) dy)
  (ak (sIf (e2 oLt (aa 3) (Q2 4)) (mV 4 (x2 aE (xI (aa 2)) (aN [(.io 0 true),(.px (xI (Q2 26)))] au))) dy)
  (ak (ox 4)
  (ak (sIf (e2 oEq (aa 3) (Q2 4)) (xp 4 (x2 aE (xI (aa 2)) (aN [(.io 0 true),(.px (xI (Q2 26)))] au))) dy)
  (gp (eM gS (eC (.str [])) (ab (dE 1 (aT 0) (il (aa 2)) (some (e2 jP (aa 0) (aa 5))) (aa 0)) aj)))))))))))
noncomputable def cp:Sx :=
  (ak (sIf (e2 bT (e2 aS (aa 4) (aa 5)) (aa 0)) (gp (e2 aS (aa 4) (aa 5))) dy)
  (sX (l9 3 [] aH (ab (e2 aS (aa 4) (aa 5)) aj))))
noncomputable def bL:Sx :=
  (fA (aT 5) (il (aa 1)) cp)
noncomputable def jF:Sx :=
  (ak (gD 3 (dF aj))
  (ak (fA (aT 4) (il (aa 2)) bL)
  (ak (ox 3)
  (aK 2 (aa 3)))))
noncomputable def fh:Fn:=fn 2 6
  (ak (aK 2 (dF (ab (eC (.str [])) aj)))
  (iY (eC (.bl true)) jF))
noncomputable def jx:Sx :=
  (ak (cz 7 (aN [(.io 5 false),(.px (xI (aa 2)))] da))
  (ak (aK 8 (cy fh (ab (aa 4) (ab (aa 7) aj))))
  (ak (aK 9 (eN gv (ab (aa 3) aj)))
  (ak (aK 10 (cy bW (ab (aa 9) (ab (aa 7) aj))))
  (ak (sIf (eOr (vG (eIs .str (aa 10))) (eOr (e2 oNe (aa 10) (aa 8)) (e2 oNe (aa 9) (aa 3)))) (gp (eC (.bl false))) dy)
  (sIf (eOr (e2 oEq (cy bW (ab (dF (ab (aa 8) (ab (wV (aa 7)) aj))) (ab (aa 7) aj))) (aa 8)) (e2 oNe (cy bW (ab (aa 9) (ab (aa 7) aj))) (aa 8))) (gp (eC (.bl false))) dy))))))
noncomputable def vY:Fn:=fn 1 11
  (ak (gD 1 (cy bt (ab (aa 0) (ab (Q2 0) aj))))
  (ak (cz 2 (aN [(.io 1 false)] fK))
  (ak (rP 3 (aN [(.io 1 false),(.px (xI (aa 2)))] gE))
  (ak (ox 3)
  (ak (ox 1)
  (ak (aK 4 (cy ed (ab (aa 3) aj)))
  (ak (gD 5 (cy bt (ab (aa 0) (ab (Q2 1) aj))))
  (ak (fA (aT 6) (bH (Q2 3)) jx)
  (ak (ox 5)
  (gp (eC (.bl true))))))))))))
end T37
end
section
namespace AU
structure St where
 lg:Wq
 lk:List (Option Nat)
 wy:List (List (Nat×Nat))
noncomputable def gW (w:List (Nat×Nat)) (c:Nat):Option Nat:=(w.find? fun p=>p.1 == c).map (·.2)
noncomputable def pW (w:List (Nat×Nat)) (c m:Nat):List (Nat×Nat):=if w.any (fun p=>p.1 == c) then w.map (fun p=>if p.1 == c then (p.1,m) else p) else w++[(c,m)]
structure WF (S:St):Prop where
 lk:S.lk.length=S.lg.length
 wy:S.wy.length=S.lg.length
 pos:0 < S.lg.length
 up:∀ i n,S.lk.getD i none=some n->n < S.lg.length
 on:∀ i c n,gW (S.wy.getD i []) c=some n->n < S.lg.length
 nd:∀ w∈S.wy,(w.map (·.1)).Nodup
 az:∀ w∈S.wy,∀ p∈w,97<=p.1/\p.1<=122
theorem sub_len {α:Type} [DecidableEq α]:∀ (l r:List α),l.Nodup->(∀ x∈l,x∈r)->l.length<=r.length
 | [],_,_,_=>Yt _
 | a :: l,r,nd,h=>by
  obtain ⟨h1,h2⟩:=Zh.mp nd
  have hr:a∈r:=h a Zx
  have:=sub_len l (r.erase a) h2 fun x hx=>(List.mem_erase_of_ne (show x ≠ a from fun e=>h1 (by rw [← e];exact hx))).mpr (h x (Zy _ hx))
  rw [List.length_erase_of_mem hr] at this
  have:0 < r.length:=List.length_pos_of_mem hr
  rw [Zn]
  omega
theorem WF.small {S:St} (W:WF S) (i:Nat):(S.wy.getD i []).length < 16777216:=by
 by_cases h:i < S.wy.length
 ·have hm:S.wy.getD i []∈S.wy:=by
   rw [Zs,Zr h]
   exact Z4 h
  have:=sub_len ((S.wy.getD i []).map (·.1)) (List.range 123) (W.nd _ hm) fun x hx=>by
   obtain ⟨p,hp,rfl⟩:=ZF.mp hx
   have:=(W.az _ hm p hp).2
   exact Yu.mpr (by omega)
  rw [Zv,ZR] at this
  omega
 ·rw [Zs,Z2 (ZE h)]
  decide
theorem Bc (w:List (Nat×Nat)) (c:Nat):(w.any fun p=>p.1 == c)=(gW w c).isSome:=by
 unfold gW
 rw [Yl,Y4,YO,Wz]
theorem zR (w:List (Nat×Nat)) (c m d:Nat):gW (pW w c m) d=if d=c then some m else gW w d:=by
 unfold pW
 split
 ·rename_i h
  induction w with
  | nil=>simp at h
  | cons p w ih =>
   rw [Zl]
   unfold gW
   rw [ZL,ZL]
   by_cases q:p.1=c
   ·rw [Zq (by simpa using q)]
    by_cases r:p.1=d
    ·have:(p.1 == d)=true:=by simpa using r
     simp only [this]
     rw [Zq (by rw [← r,q])]
     rfl
    ·have r':(p.1 == d)=false:=by simpa using r
     have:d ≠ c:=fun e=>r (by rw [e,q])
     simp only [r',Zm this]
     have key:∀ w:List (Nat×Nat),(w.map fun p=>if p.1 == c then (p.1,m) else p).find? (fun p=>p.1 == d)=w.find? fun p=>p.1 == d:=by
      intro w
      induction w with
      | nil=>rfl
      | cons x w ih =>
       rw [Zl,ZL,ZL,ih]
       by_cases y:x.1=c
       ·rw [Zq (by simpa using y)]
        have:(x.1 == d)=false:=by simpa using fun e=>this (by rw [← e,y])
        simp only [this]
       ·rw [Zm (by simpa using y)]
     rw [key w]
   ·rw [Zm (by simpa using q)]
    have h':(w.any fun p=>p.1 == c)=true:=by
     rw [Yh] at h
     simpa [q] using h
    have ih':=ih h'
    unfold gW at ih'
    by_cases r:p.1=d
    ·have r':(p.1 == d)=true:=by simpa using r
     simp only [r']
     rw [Zm (fun e=>q (by rw [r,e]))]
    ·have r':(p.1 == d)=false:=by simpa using r
     simp only [r']
     exact ih'
 ·rename_i h
  unfold gW
  rw [List.find?_append]
  by_cases q:d=c
  ·subst q
   have:w.find? (fun p=>p.1 == d)=none:=by
    rw [Y6]
    intro p hp e
    exact h (YO.mpr ⟨p,hp,e⟩)
   rw [this,Zq rfl]
   simp
  ·rw [Zm q]
   have:((c == d)=false):=by simpa using fun e=>q e.symm
   simp [this]
theorem yL (w:List (Nat×Nat)) (c m:Nat) (nd:(w.map (·.1)).Nodup):((pW w c m).map (·.1)).Nodup:=by
 unfold pW
 split
 ·rw [Z5]
  have:((fun p:Nat×Nat=>p.1) ∘ fun p=>if (p.1 == c)=true then (p.1,m) else p)=fun p=>p.1:=by
   funext p
   simp only [Function.comp]
   split <;> rfl
  rw [this]
  exact nd
 ·rename_i h
  rw [Z3,ZX]
  refine ⟨nd,by simp,fun a ha b hb e=>?_⟩
  have hb':b=c:=by simpa using hb
  subst e hb'
  obtain ⟨p,hp,e⟩:=ZF.mp ha
  exact h (YO.mpr ⟨p,hp,by simpa using e⟩)
theorem A4 {w:List (Nat×Nat)} {c m:Nat} {p:Nat×Nat} (h:p∈pW w c m):p.1=c\/p∈w:=by
 unfold pW at h
 split at h
 ·obtain ⟨q,hq,rfl⟩:=ZF.mp h
  by_cases r:(q.1 == c)=true
  ·rw [Zq r];exact .inl (by simpa using r)
  ·rw [Zm r];exact .inr hq
 ·rcases Ze.mp h with h | h
  ·exact .inr h
  ·rw [Zj.mp h];exact .inl rfl
theorem gm {α:Type} (l:List α) (i j:Nat) (x d:α):(l.set i x).getD j d=if i=j/\i < l.length then x else l.getD j d:=by
 rw [Zs,Zs,X9]
 by_cases h:i=j
 ·subst h
  by_cases h2:i < l.length
  ·rw [Zq rfl,Zq h2,Zq ⟨rfl,h2⟩];rfl
  ·rw [Zq rfl,Zm h2,Zm (fun z=>h2 z.2),Z2 (ZE h2)]
 ·rw [Zm h,Zm (fun z=>h z.1)]
theorem bN {α:Type} (l:List α) (x d:α) (j:Nat):(l++[x]).getD j d=if j=l.length then x else l.getD j d:=by
 rw [Zs,Zs]
 by_cases h:j < l.length
 ·rw [ZD h,Zm (ZZ h)]
 ·rw [Yy (ZE h)]
  by_cases h2:j=l.length
  ·rw [Zq h2,h2,Nat.sub_self];rfl
  ·rw [Zm h2,Z2 (ZE h),Z2 (by simp;omega)]
theorem WF.way {S:St} (W:WF S) {n c v:Nat} (hv:v < S.lg.length) (hc:97<=c/\c<=122):WF ⟨S.lg,S.lk,S.wy.set n (pW (S.wy.getD n []) c v)⟩:=by
 refine ⟨W.lk,by rw [Z9];exact W.wy,W.pos,W.up,fun i d m h=>?_,fun w hw=>?_,fun w hw p hp=>?_⟩
 ·show m < S.lg.length
  have h':gW ((S.wy.set n (pW (S.wy.getD n []) c v)).getD i []) d=some m:=h
  rw [gm] at h'
  split at h'
  ·rw [zR] at h'
   split at h'
   ·cases h';exact hv
   ·exact W.on n d m h'
  ·exact W.on i d m h'
 ·by_cases hn:n < S.wy.length
  ·rcases List.mem_or_eq_of_mem_set hw with h | h
   ·exact W.nd w h
   ·rw [h]
    refine yL _ c v (W.nd _ ?_)
    rw [Zs,Zr hn]
    exact Z4 hn
  ·rw [List.set_eq_of_length_le (ZE hn)] at hw
   exact W.nd w hw
 ·by_cases hn:n < S.wy.length
  ·rcases List.mem_or_eq_of_mem_set hw with h | h
   ·exact W.az w h p hp
   ·rw [h] at hp
    rcases A4 hp with e | e
    ·rw [e];exact hc
    ·refine W.az _ ?_ p e
     rw [Zs,Zr hn]
     exact Z4 hn
  ·rw [List.set_eq_of_length_le (ZE hn)] at hw
   exact W.az w hw p hp
theorem WF.link {S:St} (W:WF S) {n v:Nat} (hv:v < S.lg.length):WF ⟨S.lg,S.lk.set n (some v),S.wy⟩:=by
 refine ⟨by rw [Z9];exact W.lk,W.wy,W.pos,fun i m h=>?_,W.on,W.nd,W.az⟩
 have h':(S.lk.set n (some v)).getD i none=some m:=h
 rw [gm] at h'
 split at h'
 ·cases h';exact hv
 ·exact W.up i m h'
theorem WF.more {S:St} (W:WF S) {l:Nat} {o:Option Nat} {w:List (Nat×Nat)} (ho:∀ n,o=some n->n < S.lg.length) (hw:∀ c n,gW w c=some n->n < S.lg.length) (nd:(w.map (·.1)).Nodup) (az:∀ p∈w,97<=p.1/\p.1<=122):WF ⟨S.lg++[l],S.lk++[o],S.wy++[w]⟩:=by
 have hs:∀ {n},n < S.lg.length->n < (S.lg++[l]).length:=fun h=>by rw [Zt,ZI];omega
 refine ⟨by rw [Zt,Zt,W.lk];rfl,by rw [Zt,Zt,W.wy];rfl,by rw [Zt];exact ZM W.pos (YS _ _),fun i n h=>?_,fun i c n h=>?_,fun x hx=>?_,fun x hx=>?_⟩
 ·have h':(S.lk++[o]).getD i none=some n:=h
  rw [bN] at h'
  split at h'
  ·exact hs (ho n h')
  ·exact hs (W.up i n h')
 ·have h':gW ((S.wy++[w]).getD i []) c=some n:=h
  rw [bN] at h'
  split at h'
  ·exact hs (hw c n h')
  ·exact hs (W.on i c n h')
 ·rcases Ze.mp hx with h | h
  ·exact W.nd x h
  ·rw [Zj.mp h];exact nd
 ·rcases Ze.mp hx with h | h
  ·exact W.az x h
  ·rw [Zj.mp h];exact az
noncomputable def up1 (c v:Nat):Nat->St->Option Nat->Option (St×Option Nat)
 | _,S,none=>some (S,none)
 | 0,_,some _=>none
 | k+1,S,some n=>if (gW (S.wy.getD n []) c).isSome then some (S,some n) else up1 c v k ⟨S.lg,S.lk,S.wy.set n (pW (S.wy.getD n []) c v)⟩ (S.lk.getD n none)
noncomputable def up2 (c old v:Nat):Nat->St->Option Nat->Option St
 | _,S,none=>some S
 | 0,_,some _=>none
 | k+1,S,some n=>if gW (S.wy.getD n []) c=some old then up2 c old v k ⟨S.lg,S.lk,S.wy.set n (pW (S.wy.getD n []) c v)⟩ (S.lk.getD n none) else some S
noncomputable def njb (S:St) (n c:Nat):Option (St×Nat):=(gW (S.wy.getD n []) c).bind fun old=>if S.lg.getD old 0=S.lg.getD n 0+1 then some (S,old) else
 (up2 c old S.lg.length 1000 ⟨S.lg++[S.lg.getD n 0+1],(S.lk++[S.lk.getD old none]).set old (some S.lg.length),S.wy++[S.wy.getD old []]⟩ (some n)).map fun S'=>(S',S.lg.length)
noncomputable def hb (S:St) (h c:Nat):Option (St×Nat):=if (gW (S.wy.getD h []) c).isSome then njb S h c else
 (up1 c S.lg.length 1000 ⟨S.lg++[S.lg.getD h 0+1],S.lk++[some 0],S.wy++[[]]⟩ (some h)).bind fun z=>match z.2 with
  | none=>some (z.1,S.lg.length)
  | some n=>(njb z.1 n c).map fun y=>(⟨y.1.lg,y.1.lk.set S.lg.length (some y.2),y.1.wy⟩,S.lg.length)
noncomputable def hg (S:St) (h:Nat):Wq->Option (St×Nat)
 | []=>some (S,h)
 | c :: r=>(hb S h c).bind fun z=>hg z.1 z.2 r
noncomputable def Sm (S:St):Prop:=S.lg.length<=100001
theorem WF.wnd {S:St} (W:WF S) (i:Nat):((S.wy.getD i []).map (·.1)).Nodup/\∀ p∈S.wy.getD i [],97<=p.1/\p.1<=122:=by
 by_cases h:i < S.wy.length
 ·have hm:S.wy.getD i []∈S.wy:=by
   rw [Zs,Zr h]
   exact Z4 h
  exact ⟨W.nd _ hm,W.az _ hm⟩
 ·rw [Zs,Z2 (ZE h)]
  exact ⟨Z1,fun p hp=>nomatch hp⟩
noncomputable def S0:St:=⟨[0],[none],[[]]⟩
theorem Ag:WF S0:=by
 refine ⟨rfl,rfl,by decide,fun i n h=>?_,fun i c n h=>?_,fun w hw=>?_,fun w hw p hp=>?_⟩
 ·cases i with
  | zero=>cases h
  | succ i=>cases h
 ·cases i with
  | zero=>cases h
  | succ i=>cases h
 ·rw [Zj.mp hw];exact Z1
 ·rw [Zj.mp hw] at hp;cases hp
end AU
end
section
namespace VS
theorem e2v {f:Val->Val->Wj} {a b:Ex} {η:Env} {x y z:Val} (h1:a η=some x) (h2:b η=some y) (h3:f x y=some z):e2 f a b η=some z:=by
 show (a η).bind _=_
 rw [h1,Zu,h2]
 exact h3
theorem xv {a:Ex} {r:Exs} {η:Env} {x:Val} {xs:Wk} (h1:a η=some x) (h2:r η=some xs):ab a r η=some (x :: xs):=by
 show (a η).bind _=_
 rw [h1,Zu,h2]
 rfl
theorem j6 {c:Ex} {a b:Sx} {η:Env} {m:Md} (h:c η=some (m,.bl true)):sIf c a b η=a η:=by
 show (c η).bind _=_
 rw [h]
 rfl
theorem iZ {c:Ex} {a b:Sx} {η:Env} {m:Md} (h:c η=some (m,.bl false)):sIf c a b η=b η:=by
 show (c η).bind _=_
 rw [h]
 rfl
theorem ma {f:Wk->Wj} {as:Exs} {η:Env} {xs:Wk} {v:Val} (h:as η=some xs) (h2:f xs=some v):eN f as η=some v:=by
 show (as η).bind f=_
 rw [h,Zu,h2]
theorem fU {e:Ex} {η:Env} {t:T} (h:e η=some (.fr,t)):gp e η=some (.rt (.fr,t) η):=by
 show (e η).bind _=_
 rw [h]
 rfl
theorem eV {a b:Sx} {η η1:Env} {v:Val} (h:a η=some (.rt v η1)):ak a b η=some (.rt v η1):=by
 show (a η).bind _=_
 rw [h]
 rfl
theorem af {a b:Sx} {η η1:Env} (h:a η=some (.nx η1)):ak a b η=b η1:=by
 show (a η).bind _=_
 rw [h]
 rfl
theorem ic {np nn:Nat} {b:Sx} {ts:Wi} {v:Val} {η:Env} (hl:ts.length=np) (h:b (ts.map (fun t=>some (.pu t))++List.replicate (nn - np) none)=some (.rt v η)):fn np nn b ts=some v:=by
 unfold fn
 rw [Zq hl,h]
 rfl
theorem xk {a b:Ex} {η:Env} {m:Md} {x:Bool} {v:Val} (h1:a η=some (m,.bl x)) (h2:x=true->b η=some v) (h3:x=false->v=(.fr,.bl false)):lS a b η=some v:=by
 show (a η).bind _=_
 rw [h1,Zu]
 cases x with
 | true=>exact h2 rfl
 | false=>exact congrArg some (h3 rfl).symm
theorem BZ {a b:Ex} {η:Env} {m:Md} {x:Bool} {v:Val} (h1:a η=some (m,.bl x)) (h2:x=false->b η=some v) (h3:x=true->v=(.fr,.bl true)):eOr a b η=some v:=by
 show (a η).bind _=_
 rw [h1,Zu]
 cases x with
 | false=>exact h2 rfl
 | true=>exact congrArg some (h3 rfl).symm
theorem or2 {a b:Ex} {η:Env} {m n:Md} {x y:Bool} (h1:a η=some (m,.bl x)) (h2:b η=some (.fr,.bl y)):eOr a b η=some (.fr,.bl (x || y)):=BZ h1 (fun e=>by rw [e];exact h2) (fun e=>by rw [e];rfl)
theorem rO {f g:Val->Val->Wj} {a b c:Ex} {η:Env} {x y z v:Val} (h1:a η=some x) (h2:b η=some y) (h3:f x y=some (.fr,.bl true)) (h4:c η=some z) (h5:g y z=some v):gI f g a b c η=some v:=by
 show (a η).bind _=_
 rw [h1,Zu,h2,Zu,h3,Zu]
 show (c η).bind _=_
 rw [h4]
 exact h5
theorem zt {f g:Val->Val->Wj} {a b c:Ex} {η:Env} {x y:Val} (h1:a η=some x) (h2:b η=some y) (h3:f x y=some (.fr,.bl false)):gI f g a b c η=some (.fr,.bl false):=by
 show (a η).bind _=_
 rw [h1,Zu,h2,Zu,h3]
 rfl
theorem sv {n:Nat} {i:Int} (h0:0<=i) (h1:i < n):ixP n i=some i.toNat:=by rw [ixP,Zq h0,Zq h1]
theorem yK {n:Nat} {i:Nat} (h1:i < n):ixP n (i:Int)=some i:=by
 rw [ixP,Zq (Int.natCast_nonneg i),Zq (Int.ofNat_lt.mpr h1)]
 rfl
theorem zF {m n:Md} (l:Wp) (i:Int) (h0:0<=i) (h1:i < l.length):aE (m,.scr l) (n,.int i)=some (.fr,.int (l.getD i.toNat 0)):=by
 have b2:i.toNat < l.length:=by lia
 show (ixP l.length i).bind _=_
 rw [sv h0 h1,Zu,Zs,Zr b2]
 rfl
theorem qB {m n:Md} (t:Tx) (i:Int) (h0:0<=i) (h1:i < t.length):aE (m,.str t) (n,.int i)=some (.fr,.str [t.getD i.toNat 0]):=by
 have b2:i.toNat < t.length:=by lia
 show (ixP t.length i).bind _=_
 rw [sv h0 h1,Zu,Zs,Zr b2]
 rfl
theorem mP {m n:Md} {a b:T} {r:Bool} (ha:eqD 60 a=true) (hb:eqD 60 b=true) (h:eqT a b=r):oEq (m,a) (n,b)=some (.fr,.bl r):=by
 show (if eqD 60 a/\eqD 60 b then some (Md.fr,T.bl (eqT a b)) else none)=_
 rw [Zq ⟨ha,hb⟩,h]
theorem Al {m n:Md} {a b:T} {r:Bool} (ha:eqD 60 a=true) (hb:eqD 60 b=true) (h:eqT a b=r):oNe (m,a) (n,b)=some (.fr,.bl (!r)):=by
 show (if eqD 60 a/\eqD 60 b then some (Md.fr,T.bl (!eqT a b)) else none)=_
 rw [Zq ⟨ha,hb⟩,h]
theorem nZ {i:Nat} {e:Ex} {η:Env} {l:Wi} {v:T} (h0:η[i]?=some (some (.ow (.lst l)))) (h1:e η=some (.fr,v)) (h2:l.length < 16777216):sX (l9 i [] aH (ab e aj)) η=some (.nx (η.set i (some (.ow (.lst (l++[v])))))):=by
 have h3:ab e aj η=some [(.fr,v)]:=xv h1 rfl
 unfold sX l9
 rw [h0]
 show ((some ([]:List Ky)).bind _ |>.map _)=_
 rw [Zu,h3,Zu]
 show ((aH (.lst l) [(.fr,v)]).map _ |>.map _)=_
 rw [dr h2]
 rfl
theorem wG {a b:Ex} {η:Env} {m n:Md} {x y:Tx} (h1:a η=some (m,.str x)) (h2:b η=some (n,.str y)) (h:x.length+y.length<=16777216):e2 aS a b η=some (.fr,.str (x++y)):=e2v h1 h2 (jH h)
end VS
end
section
namespace T37
open VS AU
noncomputable abbrev pc (t:T):Wm:=some (.pu t)
noncomputable abbrev Q0 (i:Int):Option Cell:=some (.pu (.int i))
noncomputable abbrev Q1 (t:Tx):Option Cell:=some (.pu (.str t))
noncomputable abbrev oc (t:T):Wm:=some (.ow t)
noncomputable def wT' (w:List (Nat×Nat)):T:=.dct 0 (w.map fun p=>(T.str [p.1],T.int (p.2:Int)))
noncomputable def lkT:Option Nat->T
 | none=>.non
 | some n=>.int (n:Int)
noncomputable def fsT (S:St):qQ:=[(1,.lst (S.lg.map fun (n:Nat)=>T.int (n:Int))),(2,.lst (S.lk.map lkT)),(3,.lst (S.wy.map wT'))]
noncomputable def obT (S:St) (b:Bool):T:=.obj 1 ((0,.bl b) :: fsT S)
theorem j3 (o:Option Nat):imm (lkT o)=true:=by cases o <;> rfl
theorem iH {α:Type} (f:α->T) (h:∀ a,fE (f a)=true):∀ l:List α,aY (l.map f)=true
 | []=>rfl
 | a :: l=>by rw [Zl,aY,h a,iH f h l];rfl
theorem vo (w:List (Nat×Nat)):fE (wT' w)=true:=by
 show mL (w.map fun p=>(T.str [p.1],T.int (p.2:Int)))=true
 induction w with
 | nil=>rfl
 | cons p w ih=>rw [Zl,mL,ih];rfl
theorem kF (S:St):fP (fsT S)=true:=by
 have h1:fE (.lst (S.lg.map fun (n:Nat)=>T.int (n:Int)))=true:=iH _ (fun _=>rfl) _
 have h2:fE (.lst (S.lk.map lkT))=true:=iH _ (fun o=>lT _ (j3 o)) _
 have h3:fE (.lst (S.wy.map wT'))=true:=iH _ vo _
 show ((fE _ && !(1 == 0 && isT _)) && ((fE _ && !(2 == 0 && isT _)) && ((fE _ && !(3 == 0 && isT _)) && true)))=true
 rw [h1,h2,h3]
 rfl
theorem B4 (S:St) (b:Bool):tQ 1 (obT S b)=some (.lst (S.lg.map fun (n:Nat)=>T.int (n:Int))):=rfl
theorem Dr (S:St) (b:Bool):tQ 2 (obT S b)=some (.lst (S.lk.map lkT)):=rfl
theorem DH (S:St) (b:Bool):tQ 3 (obT S b)=some (.lst (S.wy.map wT')):=rfl
theorem nY {k:Nat} {a:Ex} {η:Env} {m:Md} {t u:T} (h:a η=some (m,t)) (h2:tQ k t=some u):bq k a η=some (sub m u):=by
 unfold bq
 rw [h,Zu,h2]
 rfl
theorem lJ {α:Type} {m n:Md} (f:α->T) (l:List α) (i:Nat) (d:α) (h:i < l.length):aE (m,.lst (l.map f)) (n,.int (i:Int))=some (sub m (f (l.getD i d))):=by
 show (ixP (l.map f).length (i:Int)).bind _=_
 rw [Zv,yK h,Zu,ZQ,Zr h,Zs,Zr h]
 rfl
section
variable {η:Env} {m n:Md} {S:St} {b:Bool} {a e:Ex} {i:Nat}
theorem pQ (h:a η=some (m,obT S b)) (he:e η=some (n,.int (i:Int))) (hi:i < S.lg.length):e2 aE (bq 1 a) e η=some (.fr,.int ((S.lg.getD i 0:Nat):Int)):=e2v (nY h (B4 S b)) he (lJ _ _ i 0 hi)
theorem tK (h:a η=some (m,obT S b)) (he:e η=some (n,.int (i:Int))) (hi:i < S.lk.length):e2 aE (bq 2 a) e η=some (.fr,lkT (S.lk.getD i none)):=(e2v (nY h (Dr S b)) he (lJ _ _ i none hi)).trans (by
 show some (up _ _)=_
 unfold up
 rw [j3]
 rfl)
theorem k8 (h:a η=some (m,obT S b)) (he:e η=some (n,.int (i:Int))) (hi:i < S.wy.length):e2 aE (bq 3 a) e η=some (m,wT' (S.wy.getD i [])):=e2v (nY h (DH S b)) he (lJ _ _ i [] hi)
theorem BE (h:a η=some (m,obT S b)):eN cK (ab (bq 1 a) aj) η=some (.fr,.int (S.lg.length:Nat)):=ma (xv (nY h (B4 S b)) rfl) (by
 show some (Md.fr,T.int (((S.lg.map fun (n:Nat)=>T.int (n:Int)).length:Nat):Int))=_
 rw [Zv])
end
theorem zp (a c:Nat):eqT (.str [a]) (.str [c])=(a == c):=by
 simp only [eqT]
 by_cases h:a=c
 ·simp [h]
 ·simp [h]
theorem nJ (w:List (Nat×Nat)) (c:Nat):cL (w.map fun p=>(T.str [p.1],T.int (p.2:Int))) (.str [c])=(gW w c).map fun (n:Nat)=>T.int (n:Int):=by
 unfold cL gW
 rw [List.find?_map]
 have:((fun p:T×T=>eqT p.1 (.str [c])) ∘ fun p:Nat×Nat=>(T.str [p.1],T.int (p.2:Int)))=fun p:Nat×Nat=>p.1 == c:=by
  funext p
  exact zp p.1 c
 rw [this]
 cases w.find? fun p=>p.1 == c with
 | none=>rfl
 | some p=>rfl
theorem De (w:List (Nat×Nat)) (c m:Nat):dput (w.map fun p=>(T.str [p.1],T.int (p.2:Int))) (.str [c]) (.int (m:Int))=(pW w c m).map fun p=>(T.str [p.1],T.int (p.2:Int)):=by
 have h1:(w.map fun p=>(T.str [p.1],T.int (p.2:Int))).any (fun p=>eqT p.1 (.str [c]))=w.any fun p=>p.1 == c:=by
  rw [List.any_map]
  congr 1
  funext p
  exact zp p.1 c
 unfold dput pW
 rw [h1]
 split
 ·rw [Z5,Z5]
  apply Xk
  intro p _
  simp only [Function.comp,zp]
  split <;> rfl
 ·rw [Z3]
  rfl
section
variable {η:Env} {m n k:Md} {S:St} {b:Bool} {a e ec ev:Ex} {i c v:Nat} {w:List (Nat×Nat)}
theorem DM (h:a η=some (m,wT' w)) (he:e η=some (n,.str [c])):e2 jP e a η=some (.fr,.bl (gW w c).isSome):=e2v he h (by
 show (if true=true then some (Md.fr,T.bl (cL _ _).isSome) else none)=_
 rw [Zq rfl,nJ,Yl])
theorem zS (h:a η=some (m,wT' w)) (he:e η=some (n,.str [c])):e2 bT e a η=some (.fr,.bl (!(gW w c).isSome)):=e2v he h (by
 show (match (if true=true then some (Md.fr,T.bl (cL (w.map fun p=>(T.str [p.1],T.int (p.2:Int))) (.str [c])).isSome) else none) with | some (_,.bl b)=>some (Md.fr,T.bl (!b)) | _=>none)=_
 rw [Zq rfl,nJ,Yl])
theorem uB (h:a η=some (m,wT' w)) (he:e η=some (n,.str [c])) (hv:gW w c=some v):e2 oIx a e η=some (.fr,.int (v:Int)):=e2v h he (by
 show (if true=true then (cL _ _).map (sub m) else none)=_
 rw [Zq rfl,nJ,hv]
 rfl)
theorem Dc (h:a η=some (m,wT' w)) (he:e η=some (n,.str [c])):e2 t9 a e η=some (.fr,lkT (gW w c)):=e2v h he (by
 show (if true=true then some (match cL (w.map fun p=>(T.str [p.1],T.int (p.2:Int))) (.str [c]) with | some t=>sub m t | none=>(.fr,.non)) else none)=_
 rw [Zq rfl,nJ]
 cases gW w c with
 | none=>rfl
 | some v=>rfl)
theorem uP {r:List (Wm)} (hi:i < S.wy.length) (he:e (oc (obT S b) :: r)=some (n,.int (i:Int))) (hc:ec (oc (obT S b) :: r)=some (m,.str [c])) (hv:ev (oc (obT S b) :: r)=some (k,.int (v:Int))) (hl:(S.wy.getD i []).length < 16777216) :
  fF 0 [.fld 3,.ix e] ec ev (oc (obT S b) :: r)=some (.nx (oc (obT ⟨S.lg,S.lk,S.wy.set i (pW (S.wy.getD i []) c v)⟩ b) :: r)):=by
 unfold fF
 rw [hv,Zu]
 show ((keys [.fld 3,.ix e] (oc (obT S b) :: r)).bind _)=_
 have hk:keys [.fld 3,.ix e] (oc (obT S b) :: r)=some [.fld 3,.at (.int (i:Int))]:=by
  show ((e _).bind _).map _=_
  rw [he]
  rfl
 rw [hk,Zu,hc,Zu]
 have hp:pm (nH (m,.str [c]) (k,.int (v:Int))) [.fld 3,.at (.int (i:Int))] (obT S b)=some (obT ⟨S.lg,S.lk,S.wy.set i (pW (S.wy.getD i []) c v)⟩ b,()):=by
  show ((pm (nH (m,.str [c]) (k,.int (v:Int))) [.at (.int (i:Int))] (.lst (S.wy.map wT'))).map _)=_
  have:pm (nH (m,.str [c]) (k,.int (v:Int))) [.at (.int (i:Int))] (.lst (S.wy.map wT'))=some (.lst ((S.wy.set i (pW (S.wy.getD i []) c v)).map wT'),()):=by
   show ((ixP (S.wy.map wT').length (i:Int)).bind _)=_
   rw [Zv,yK hi,Zu,ZQ,Zr hi]
   show ((nH (m,.str [c]) (k,.int (v:Int)) (wT' S.wy[i])).map _)=_
   have e1:S.wy.getD i []=S.wy[i]:=by rw [Zs,Zr hi];rfl
   rw [e1] at hl ⊢
   show ((if true=true/\true=true/\(S.wy[i].map _).length < dD then some (T.dct 0 (dput _ _ _),()) else none).map _)=_
   rw [Zq ⟨rfl,rfl,by rw [Zv];exact hl⟩,De,List.map_set]
   rfl
  rw [this]
  rfl
 rw [hp]
 rfl
theorem wD {r:List (Wm)} (hi:i < S.lk.length) (he:e (oc (obT S b) :: r)=some (n,.int (i:Int))) (hv:ev (oc (obT S b) :: r)=some (.fr,.int (v:Int))) :
  fF 0 [.fld 2] e ev (oc (obT S b) :: r)=some (.nx (oc (obT ⟨S.lg,S.lk.set i (some v),S.wy⟩ b) :: r)):=by
 unfold fF
 rw [hv,Zu]
 show ((keys [.fld 2] (oc (obT S b) :: r)).bind _)=_
 have hk:keys [.fld 2] (oc (obT S b) :: r)=some [.fld 2]:=rfl
 rw [hk,Zu,he,Zu]
 have hp:pm (nH (n,.int (i:Int)) (.fr,.int (v:Int))) [.fld 2] (obT S b)=some (obT ⟨S.lg,S.lk.set i (some v),S.wy⟩ b,()):=by
  show ((nH (n,.int (i:Int)) (.fr,.int (v:Int)) (.lst (S.lk.map lkT))).map _)=_
  have:nH (n,.int (i:Int)) (.fr,.int (v:Int)) (.lst (S.lk.map lkT))=some (.lst ((S.lk.set i (some v)).map lkT),()):=by
   show ((ixP (S.lk.map lkT).length (i:Int)).map _)=_
   rw [Zv,yK hi,List.map_set]
   rfl
  rw [this]
  rfl
 rw [hp]
 rfl
end
end T37
end
section
namespace VS
noncomputable def wr (un:Bool) (k:Nat) (t:T):T:=if un then mkT k t else t
noncomputable def exA (l:Wi):List Ia:=l.map fun t=>Ia.ex (eC t)
theorem wb (η:Env):∀ l:Wi,i9 η (exA l)=some l
 | []=>rfl
 | t :: l=>by
  show ((some (Md.fr,t):Wj).bind fun v=>(exV v).bind fun t=>(i9 η (exA l)).map (t :: ·))=_
  rw [wb η l]
  rfl
theorem se (η:Env):∀ l:Wi,gO (exA l) [] η=η
 | []=>rfl
 | t :: l=>se η l
theorem zL:∀ l:Wi,iaS (exA l)=[]
 | []=>rfl
 | t :: l=>zL l
section
variable {i k j:Nat} {un:Bool} {r:List Ix} {l:Wi} {η η1 η2 η3:Env} {c0:Cell} {s t t0 t1 u y:T} {g:Wi->Option (Wi×T)} {x a b:Xx} {c:Ex} {m:Md} {f:Val->Val->Wj}
theorem ci {r:List Ia} (h1:η[i]?=some (some (.ow (wr un k t0)))) (hr:i9 η r=some l) (hS:iaS r=[]) (hp:∀ η,gO r [] η=η) (hm:mw t0=true) (hn:fE t0=true) (hl:aY l=true) (hg:g (t0 :: l)=some ([t1],y)) :
  kb (.io i un :: r) g η=some ((.fr,y),η.set i (some (.ow (wr un k t1)))):=by
 have e2:i9 η (.io i un :: r)=some (t0 :: l):=by
  show (ioV un η[i]?).bind _=_
  rw [h1]
  have:ioV un (some (some (.ow (wr un k t0))))=some t0:=by
   cases un
   ·show (if mw t0 then some t0 else none)=_
    rw [Zq hm]
   ·rfl
  rw [this]
  show (i9 η r).map _=_
  rw [hr]
  rfl
 unfold kb
 rw [e2,Zu,Zq ⟨by rw [aY,hn,hl];rfl,by show (i :: iaS r).Nodup;rw [hS];exact Zh.mpr ⟨(fun h=>nomatch h),Z1⟩⟩,hg]
 show some ((Md.fr,y),gO r [] (η.set i (some (.ow (mr un η[i]? t1)))))=_
 rw [hp,h1]
 cases un <;> rfl
theorem cx (h0:η[i]?=some (some c0)) (hr:iJ r η=some (exA l,η1)) (h1:η1[i]?=some (some (.ow (wr un k t0)))) (hm:mw t0=true) (hn:fE t0=true) (hl:aY l=true) (hg:g (t0 :: l)=some ([t1],y)) :
  aN (.io i un :: r) g η=some ((.fr,y),η1.set i (some (.ow (wr un k t1)))):=by
 have e1:iJ (.io i un :: r) η=some (.io i un :: exA l,η1):=by
  unfold iJ
  rw [h0]
  show (iJ r η).map _=_
  rw [hr]
  rfl
 unfold aN
 rw [e1]
 exact ci h1 (wb η1 l) (zL l) (fun η=>se η l) hm hn hl hg
theorem oN (hx:x η=some ((.fr,t),η1)) (hi:imm t=true) (hr:iJ r η1=some (exA l,η2)):iJ (.px x :: r) η=some (exA (t :: l),η2):=by
 unfold iJ
 rw [hx,Zu,Zq hi,hr]
 rfl
theorem cq (h:c η=some (m,t)) (hi:imm t=true):xI c η=some ((.fr,t),η):=by
 unfold xI
 rw [h,Zu,Zq hi]
theorem jB (h1:a η=some ((.fr,s),η1)) (h2:b η1=some ((.fr,t),η2)) (h3:f (.fr,s) (.fr,t)=some (m,u)) (hs:imm s=true) (ht:imm t=true) (hu:imm u=true):x2 f a b η=some ((.fr,u),η2):=by
 unfold x2
 rw [h1,Zu,h2,Zu,h3,Zu,Zq ⟨hs,ht,hu⟩]
theorem d8 (h:x η=some ((.fr,t),η1)) (hi:imm t=true) (hj:j < η1.length):cz j x η=some (.nx (η1.set j (some (.pu t)))):=by
 unfold cz
 rw [h,Zu,Zq ⟨hi,hj⟩]
theorem yS (h:x η=some ((.fr,t),η1)) (hi:imm t=true):ju x η=some (.rt (.fr,t) η1):=by
 unfold ju
 rw [h,Zu,Zq hi]
theorem t7 (l:Wp):dv (l.map .int)=true:=by
 induction l with
 | nil=>rfl
 | cons a l ih=>exact ih
theorem kL {i:Int} (l:Wp) (h1:c η=some (.fr,.lst (l.map .int))) (h2:b η=some ((.fr,.int i),η1)) (h0:0<=i) (hi:i < l.length):ke c b η=some ((.fr,.int (l.getD i.toNat 0)),η1):=by
 unfold ke
 rw [h1,Zu]
 show (b η).bind _=_
 rw [h2,Zu]
 show (ixP (l.map T.int).length i).bind _=_
 rw [Zv,sv h0 hi,Zu,ZQ,Zr (by omega)]
 show (if dv (l.map .int)=true/\imm (T.int (l[i.toNat]'(by omega)))=true then some ((Md.fr,T.int (l[i.toNat]'(by omega))),η1) else none)=_
 rw [Zq ⟨t7 l,rfl⟩,Zs,Zr (by omega)]
 rfl
theorem yI {n:Nat} {c c':Cell} {i:Int} (l:List Tx) (hc:η[n]?=some (some c)) (h2:b η=some ((.fr,.int i),η1)) (h3:η1[n]?=some (some c')) (h4:gR c'=.lst (l.map .str)) (h0:0<=i) (hi:i < l.length):pX n b η=some ((.fr,.str (l.getD i.toNat [])),η1):=by
 unfold pX
 rw [hc]
 show (b η).bind _=_
 rw [h2,Zu]
 dsimp only
 rw [h3]
 dsimp only
 rw [h4]
 show (ixP (l.map T.str).length i).bind _=_
 rw [Zv,sv h0 hi,Zu,ZQ,Zr (by omega)]
 show some ((Md.fr,T.str (l[i.toNat]'(by omega))),η1)=_
 rw [Zs,Zr (by omega)]
 rfl
theorem nk {i:Int} (h:x η=some ((.fr,.int i),η1)):iu (some x) η=some (some i,η1):=by
 show (x η).bind _=_
 rw [h]
 rfl
theorem zT {lo hi:Option Xx} {w:Tx} {p q:Option Int} (h:a η=some ((.fr,.str w),η1)) (h1:iu lo η1=some (p,η2)) (h2:iu hi η2=some (q,η3)):xSl a lo hi η=some ((.fr,.str (cut w p q)),η3):=by
 unfold xSl
 rw [h,Zu]
 show (iu lo η1).bind _=_
 rw [h1,Zu]
 show (iu hi η2).map _=_
 rw [h2]
 rfl
theorem ya {n:Nat} {l0 l:Wi} (h0:η[n]?=some (some (.ow (.lst l0)))) (h:x η=some ((.fr,t),η1)) (h1:η1[n]?=some (some (.ow (.lst l)))) (hi:imm t=true) (hl:l.length < 16777216):mV n x η=some (.nx (η1.set n (some (.ow (.lst (l++[t])))))):=by
 unfold mV
 rw [h0]
 show (x η).bind _=_
 rw [h,Zu]
 dsimp only
 rw [h1]
 show (if imm t=true then (aH (.lst l) [(.fr,t)]).map _ else _)=_
 rw [Zq hi,dr hl]
 rfl
theorem i8 {np nn:Nat} {mv:List Bool} {body:Sx} {ts os:Wi} {v:Val} (hl:ts.length+1=np/\mv.length=ts.length) (hb:body ((some (.ow (mkT 1 t0)) :: List.zipWith hJ mv (markL 1 mv ts))++List.replicate (nn - np) none)=some (.rt v η)) (ho:kh η 0 (true :: mv)=some os) (ha:tU os v=true) (hn:aY os=true):ifn np nn mv body (t0 :: ts)=some (os,v.2):=by
 dsimp only [ifn]
 rw [Zq hl,hb,Zu]
 dsimp only
 rw [ho,Zu,Zq ⟨ha,hn⟩]
theorem zW {xt:Xt} {p q:Sx} (h:xt η=some (true,η1)):qM xt p q η=p η1:=by
 unfold qM
 rw [h]
 rfl
theorem sq {xt:Xt} {p q:Sx} (h:xt η=some (false,η1)):qM xt p q η=q η1:=by
 unfold qM
 rw [h]
 rfl
theorem xw {xt:Xt} (h:c η=some (m,.bl false)):ip c xt η=some (false,η):=by
 unfold ip
 rw [h]
 rfl
theorem xy {xt:Xt} (h:c η=some (m,.bl true)):ip c xt η=xt η:=by
 unfold ip
 rw [h]
 rfl
theorem CT {b:Bool} (h:x η=some ((.fr,.bl b),η1)):xtV x η=some (b,η1):=by
 unfold xtV
 rw [h]
 rfl
theorem sT {i j:Int} (h1:a η=some ((.fr,.int i),η1)) (h2:b η1=some ((.fr,.int j),η2)):xtV (x2 oEq a b) η=some (i == j,η2):=CT (jB h1 h2 (mP rfl rfl (by simp only [eqT])) rfl rfl rfl)
theorem xC {f:Val->Wk->Wj} {o:Ex} {as:Exs} {x v:Val} {xs:Wk} (h1:o η=some x) (h2:as η=some xs) (h3:f x xs=some v):eM f o as η=some v:=by
 unfold eM
 rw [h1,Zu,h2]
 exact h3
theorem xY (h:x η=some ((m,t),η1)) (hj:j < η1.length):rP j x η=some (.nx (η1.set j (some (.ow t)))):=by
 unfold rP
 rw [h,Zu,Zq hj]
end
end VS
end
section
namespace T37
open VS
noncomputable abbrev sp (un:Bool) (n:Int):Wm:=oc (wr un 1 (.lst [.int n]))
theorem Be (n m:Int) (h:0 < m/\m < 1073741824):au [.lst [.int n],.int m]=some ([.lst [.int (n / m)]],.int (n % m)):=by
 have s1:aK 2 (e2 oMod (e2 aE (eUn (aa 0)) (Q2 0)) (aa 1)) [sp true n,Q0 m,none]=some (.nx [sp true n,Q0 m,Q0 (n % m)]) :=
  aQ (m:=.fr) (e2v (x:=(.fr,.int n)) (y:=(.fr,.int m)) rfl rfl (eW h.1)) (by decide) (by show 2 < 3;decide)
 have s2:fF 0 [.un] (Q2 0) (e2 iO (e2 aE (eUn (aa 0)) (Q2 0)) (aa 1)) [sp true n,Q0 m,Q0 (n % m)]=some (.nx [sp true (n / m),Q0 m,Q0 (n % m)]):=by
  unfold fF
  rw [e2v (f:=iO) (x:=(.fr,.int n)) (y:=(.fr,.int m)) (η:=[sp true n,Q0 m,Q0 (n % m)]) (a:=e2 aE (eUn (aa 0)) (Q2 0)) (b:=aa 1) rfl rfl (jQ h)]
  rfl
 exact i8 (v:=(.fr,.int (n % m))) ⟨rfl,rfl⟩ ((af s1).trans ((af s2).trans rfl)) rfl rfl rfl
section
variable {i:Nat} {un:Bool} {η η1:Env} {c0:Cell} {n m:Int} {x:Xx}
theorem nx (hm:0 < m/\m < 1073741824) (h0:η[i]?=some (some c0)) (hx:x η=some ((.fr,.int m),η1)) (h1:η1[i]?=some (sp un n)):∃ d n',0<=d/\d < m/\aN [.io i un,.px x] au η=some ((.fr,.int d),η1.set i (sp un n')) :=
 ⟨n % m,n / m,YJ _ (by omega),Ye _ hm.1,cx h0 (oN hx rfl rfl) h1 rfl rfl rfl (Be n m hm)⟩
end
theorem rH {x:Xx} {i:Int} {r:Wp} {η η1 η2:Env} {c:Wm} {t:T} {ts:Wi} (h:x (Q0 i :: η)=some ((.fr,t),c :: η1)) (hi:imm t=true) (hr:gP x r η1=some (ts,η2)):gP x (i :: r) η=some (t :: ts,η2):=by
 unfold gP
 rw [h,Zu]
 show (if imm t=true then (gP x r η1).map _ else _)=_
 rw [Zq hi,hr]
 rfl
theorem A0 (L:Tx) (most n:Int) (hl:0 < L.length) (hl2:L.length < 1000) (h0:0<=most) (h1:most < 1000):∃ (n':Int) (t:Tx),dX [.lst [.int n],.str L,.int most]=some ([.lst [.int n']],.str t)/\t.length<=most.toNat/\∀ c∈t,c∈L:=by
 have loop:∀ (r:Wp) (n:Int),∃ (n':Int) (s:Tx),gP (x2 aE (xI (aa 2)) (aN [(.io 1 true),(.px (xI (eN cK (ab (aa 2) aj))))] au)) r [sp true n,Q1 L,Q0 most]=some (s.map fun c=>T.str [c],[sp true n',Q1 L,Q0 most])/\s.length=r.length/\∀ c∈s,c∈L:=by
  intro r
  induction r with
  | nil=>intro n;exact ⟨n,[],rfl,rfl,fun _ h=>nomatch h⟩
  | cons i r ih =>
   intro n
   obtain ⟨d,n1,d0,d1,e⟩:=nx (i:=1) (un:=true) (m:=(L.length:Int)) (n:=n) (x:=xI (eN cK (ab (aa 2) aj))) (η:=[Q0 i,sp true n,Q1 L,Q0 most]) (η1:=[Q0 i,sp true n,Q1 L,Q0 most]) (by omega) rfl (cq (m:=.fr) rfl rfl) rfl
   obtain ⟨n',s,e2',hs,hc⟩:=ih n1
   have hd:d.toNat < L.length:=by omega
   refine ⟨n',L.getD d.toNat 0 :: s,rH (jB (cq (m:=.fr) rfl rfl) e (qB L d d0 d1) rfl rfl rfl) rfl e2',by rw [Zn,Zn,hs],fun c hc'=>?_⟩
   rcases Zo.mp hc' with rfl | h
   ·rw [Zs,Zr hd]
    exact Z4 hd
   ·exact hc c h
 obtain ⟨d,n1,d0,d1,e⟩:=nx (i:=0) (un:=true) (m:=most+1) (n:=n) (x:=xI (e2 aS (aa 2) (Q2 1))) (η:=[sp true n,Q1 L,Q0 most]) (by omega) rfl (cq (m:=.fr) rfl rfl) rfl
 obtain ⟨n',s,e2',hs,hc⟩:=loop (iot 0 d.toNat) n1
 have hsl:s.length=d.toNat:=by rw [hs];unfold iot;rw [Zv,Xf]
 refine ⟨n',s,?_,by omega,hc⟩
 have c1:qb (aN [(.io 0 true),(.px (xI (e2 aS (aa 2) (Q2 1))))] au) (x2 aE (xI (aa 2)) (aN [(.io 1 true),(.px (xI (eN cK (ab (aa 2) aj))))] au)) [sp true n,Q1 L,Q0 most]=some (s.map fun c=>T.str [c],[sp true n',Q1 L,Q0 most]):=by
  unfold qb
  rw [e,Zu]
  show (if 0<=d/\d < 1000000 then gP _ (iot 0 d.toNat) _ else none)=_
  rw [Zq ⟨d0,by omega⟩]
  exact e2'
 refine i8 (v:=(.fr,.str s)) (η:=[sp true n',Q1 L,Q0 most]) ⟨rfl,rfl⟩ (yS ?_ rfl) rfl rfl rfl
 unfold uU
 refine (congrArg (fun z=>Option.bind z _) c1).trans ?_
 have:=jY (m:=.fr) (n:=.fr) (strs_map (fun x=>[x]) s) (by rw [cP];omega)
 rw [cP] at this
 show (gS (.fr,.str []) [(.fr,.lst (s.map fun c=>T.str [c]))]).map _=_
 rw [this]
 rfl
noncomputable def az:Tx:=[97,98,99,100,101,102,103,104,105,106,107,108,109,110,111,112,113,114,115,116,117,118,119,120,121,122]
theorem nW:∀ c∈az,97<=c/\c<=122:=by decide
theorem getD_mem' {l:Tx} {i:Nat} (h:i < l.length):l.getD i 0∈l:=by
 rw [Zs,Zr h]
 exact Z4 h
theorem yA (n:Int):∃ (n':Int) (s:Tx),fK [.lst [.int n]]=some ([.lst [.int n']],.str s)/\0 < s.length/\s.length<=26/\∀ c∈s,97<=c/\c<=122:=by
 obtain ⟨d,n1,d0,d1,e⟩:=nx (i:=0) (un:=true) (m:=8) (n:=n) (x:=xI (Q2 8)) (η:=[sp true n,Q1 az,none,none,none]) (by decide) rfl (cq (m:=.fr) rfl rfl) rfl
 have hf:∀ k,k < 8->1<=([2,1,3,2,4,2,3,26]:Wp).getD k 0/\([2,1,3,2,4,2,3,26]:Wp).getD k 0<=26:=by decide
 have f1:=hf d.toNat (by omega)
 have s2:=d8 (j:=2) (kL (c:=(dF (ab (Q2 2) (ab (Q2 1) (ab (Q2 3) (ab (Q2 2) (ab (Q2 4) (ab (Q2 2) (ab (Q2 3) (ab (Q2 26) aj)))))))))) ([2,1,3,2,4,2,3,26]:Wp) rfl e d0 d1) rfl (by show 2 < 5;decide)
 generalize ([2,1,3,2,4,2,3,26]:Wp).getD d.toNat 0=few at f1 s2
 obtain ⟨d',n2,a0,a1,e3⟩:=nx (i:=0) (un:=true) (m:=26) (n:=n1) (x:=xI (Q2 26)) (η:=[sp true n1,Q1 az,Q0 few,none,none]) (by decide) rfl (cq (m:=.fr) rfl rfl) rfl
 obtain ⟨d2,n3,b0,b1,e4⟩:=nx (i:=0) (un:=true) (m:=4) (n:=n2) (x:=xI (Q2 4)) (η:=[sp true n2,Q1 az,Q0 few,Q0 d',none]) (by decide) rfl (cq (m:=.fr) rfl rfl) rfl
 have s4:=d8 (j:=4) (kL (c:=(dF (ab (Q2 1) (ab (Q2 3) (ab (Q2 25) (ab (Q2 7) aj)))))) ([1,3,25,7]:Wp) rfl e4 b0 b1) rfl (by show 4 < 5;decide)
 have hs:∀ k,k < 4->0<=([1,3,25,7]:Wp).getD k 0/\([1,3,25,7]:Wp).getD k 0<=26:=by decide
 have g1:=hs d2.toNat (by omega)
 generalize ([1,3,25,7]:Wp).getD d2.toNat 0=st at g1 s4
 have c1:=iG (k:=1) (tg:=aT 0) (it:=bH (aa 2)) (elt:=e2 aE (aa 2) (e2 oMod (e2 aS (aa 4) (e2 fH (aa 5) (aa 0))) (Q2 26))) (m:=.fr) (η:=[sp true n3,Q1 az,Q0 few,Q0 d',Q0 st]) (fun (j:Nat)=>T.int (j:Int)) (fun j=>T.str [az.getD ((d'+st * (j:Int)) % 26).toNat 0]) (List.range few.toNat) (by
   rw [dU (m:=.fr) (j:=few) rfl (by omega),gk]) rfl (by rw [ZR];omega) fun j hj=>⟨_,rfl,by
   refine e2v (x:=(.fr,.str az)) rfl (e2v (x:=(.fr,.int (d'+st * (j:Int)))) (y:=(.fr,.int 26)) (e2v (x:=(.fr,.int d')) rfl (e2v (x:=(.fr,.int st)) (y:=(.fr,.int (j:Int))) rfl rfl (iS (by omega))) rfl) rfl (eW (by decide))) (qB az _ (YJ _ (by decide)) (Ye _ (by decide)))⟩
 have j1:=jY (m:=.fr) (n:=.fr) (strs_map (fun (j:Nat)=>[az.getD ((d'+st * (j:Int)) % 26).toNat 0]) (List.range few.toNat)) (by rw [show (List.range few.toNat).map (fun (j:Nat)=>[az.getD ((d'+st * (j:Int)) % 26).toNat 0])=((List.range few.toNat).map fun (j:Nat)=>az.getD ((d'+st * (j:Int)) % 26).toNat 0).map (fun x=>[x]) from by rw [Z5];rfl,cP,Zv,ZR];omega)
 rw [show (List.range few.toNat).map (fun (j:Nat)=>[az.getD ((d'+st * (j:Int)) % 26).toNat 0])=((List.range few.toNat).map fun (j:Nat)=>az.getD ((d'+st * (j:Int)) % 26).toNat 0).map (fun x=>[x]) from by rw [Z5];rfl,cP] at j1
 refine ⟨n3,(List.range few.toNat).map fun (j:Nat)=>az.getD ((d'+st * (j:Int)) % 26).toNat 0,i8 (v:=(.fr,.str _)) ⟨rfl,rfl⟩ ((af (η1:=[sp true n,Q1 az,none,none,none]) rfl).trans ((af s2).trans ((af (d8 e3 rfl (by show 3 < 5;decide))).trans ((af s4).trans (fU ?_))))) rfl rfl rfl,by rw [Zv,ZR];omega,by rw [Zv,ZR];omega,fun c hc=>?_⟩
 ·exact xC rfl (xv c1 rfl) j1
 ·obtain ⟨j,_,rfl⟩:=ZF.mp hc
  have:=YJ (d'+st * (j:Int)) (b:=26) (by decide)
  have:=Ye (d'+st * (j:Int)) (b:=26) (by decide)
  exact nW _ (getD_mem' (by show _ < 26;omega))
theorem jD {β:Type} {tg:Tg} {body:Sx} (g:β->T) (Inv:List β->Env->Prop) (h:∀ t r η,Inv (t :: r) η->∃ η1 η2,tg (g t) η=some η1/\body η1=some (.nx η2)/\Inv r η2):∀ (l:List β) (η:Env),Inv l η->∃ η',forL tg body (l.map g) η=some (.nx η')/\Inv [] η'
 | [],η,hi=>⟨η,rfl,hi⟩
 | t :: l,η,hi=>by
  obtain ⟨η1,η2,e1,e2,hi2⟩:=h t l η hi
  obtain ⟨η',e3,hi3⟩:=jD g Inv h l η2 hi2
  exact ⟨η',(dH e1 e2).trans e3,hi3⟩
noncomputable def Az (t:Tx):Prop:=∀ c∈t,97<=c/\c<=122
noncomputable abbrev EB (n:Int) (L:Tx) (many:Int) (bk:List Tx) (z4 z5 z6:Wm):Env:=[sp true n,Q1 L,Q0 many,oc (.lst (bk.map .str)),z4,z5,z6]
section
variable {L:Tx} {many:Int} {bk:List Tx} {z4 z5 z6:Wm}
theorem nxB (n m:Int) (hm:0 < m/\m < 1073741824) {c:Ex} (hc:c (EB n L many bk z4 z5 z6)=some (.fr,.int m)):∃ d n',0<=d/\d < m/\aN [.io 0 true,.px (xI c)] au (EB n L many bk z4 z5 z6)=some ((.fr,.int d),EB n' L many bk z4 z5 z6) :=
 nx (i:=0) (un:=true) (n:=n) hm rfl (cq hc rfl) rfl
theorem txB (hL:0 < L.length/\L.length<=26/\Az L) (n n1 most:Int) (hm:0<=most/\most < 1000) {x:Xx} (hc:x (EB n L many bk z4 z5 z6)=some ((.fr,.int most),EB n1 L many bk z4 z5 z6)):∃ (n':Int) (t:Tx),t.length<=most.toNat/\Az t/\aN [.io 0 true,.px (xI (aa 1)),.px x] dX (EB n L many bk z4 z5 z6)=some ((.fr,.str t),EB n' L many bk z4 z5 z6):=by
 obtain ⟨n',t,e,h1,h2⟩:=A0 L most n1 hL.1 (by omega) hm.1 hm.2
 exact ⟨n',t,h1,fun c h=>hL.2.2 c (h2 c h),cx (i:=0) (un:=true) (k:=1) (r:=[.px (xI (aa 1)),.px x]) (l:=[.str L,.int most]) (η1:=EB n1 L many bk z4 z5 z6) rfl (oN (t:=.str L) (cq (m:=.fr) rfl rfl) rfl (oN hc rfl rfl)) rfl rfl rfl rfl e⟩
end
theorem wQ {t:Tx} {p q:Option Int} (h:Az t):Az (cut t p q):=fun c hc=>h c (zb t p q hc)
theorem oH {s t:Tx} (h:Az s) (g:Az t):Az (s++t):=fun c hc=>(Ze.mp hc).elim (h c) (g c)
theorem wo (t:Tx) (k:Nat):(cut t none (some (k:Int))).length<=k:=by
 rw [vq]
 exact List.length_take_le _ _
theorem zH:∀ k,k < 8->0<=([2,1,3,2,4,0,1,8]:Wp).getD k 0/\([2,1,3,2,4,0,1,8]:Wp).getD k 0<=8:=by decide
theorem yD:∀ k,k < 4->0<=([6,3,10,8]:Wp).getD k 0/\([6,3,10,8]:Wp).getD k 0<=10:=by decide
theorem jW {l:List Tx} {i:Nat} (h:i < l.length):l.getD i []∈l:=by
 rw [Zs,Zr h]
 exact Z4 h
theorem tW {L:Tx} (hL:0 < L.length/\L.length<=26/\Az L) {many:Int} {bk:List Tx} (hb:∀ t∈bk,t.length<=14/\Az t) (h8:bk.length < 8) (n:Int) (z5 z6:Wm) :
  ∃ (n':Int) (t:Tx) (z5' z6':Wm),df (EB n L many bk (Q0 (bk.length:Int)) z5 z6)=some (.nx (EB n' L many (bk++[t]) (Q0 (bk.length:Int)) z5' z6'))/\t.length<=14/\Az t:=by
 obtain ⟨d,n1,d0,d1,e⟩:=nxB (L:=L) (many:=many) (bk:=bk) (z4:=Q0 (bk.length:Int)) (z5:=z5) (z6:=z6) n 4 (by decide) (c:=Q2 4) rfl
 have g:=yD d.toNat (by omega)
 obtain ⟨n2,t,ht,hz,e2'⟩:=txB hL n n1 _ ⟨g.1,by omega⟩ (kL (c:=dF (ab (Q2 6) (ab (Q2 3) (ab (Q2 10) (ab (Q2 8) aj))))) ([6,3,10,8]:Wp) rfl e d0 d1)
 have ht':t.length<=14:=by omega
 have s1:=d8 (j:=5) e2' rfl (by show 5 < 7;decide)
 have fin:∀ (n':Int) (t:Tx) (z6':Wm),t.length<=14->Az t->∃ (n'':Int) (t':Tx) (z5' z6'':Wm),sX (l9 3 [] aH (ab (aa 5) aj)) (EB n' L many bk (Q0 (bk.length:Int)) (Q1 t) z6')=some (.nx (EB n'' L many (bk++[t']) (Q0 (bk.length:Int)) z5' z6''))/\t'.length<=14/\Az t':=fun n' t z6' h1 h2=>by
  refine ⟨n',t,Q1 t,z6',?_,h1,h2⟩
  rw [nZ (i:=3) (l:=bk.map T.str) (v:=.str t) rfl rfl (by rw [Zv];omega)]
  show some (Out.nx [sp true n',Q1 L,Q0 many,oc (.lst (bk.map T.str++[.str t])),Q0 (bk.length:Int),Q1 t,z6'])=_
  rw [show bk.map T.str++[.str t]=(bk++[t]).map T.str from by rw [Z3];rfl]
 by_cases hk:bk.length=0
 ·obtain ⟨n3,t3,a,b,f1,f2⟩:=fin n2 t z6 ht' hz
  refine ⟨n3,t3,a,b,(af s1).trans ((af ((sq (xw (m:=.fr) ?_)).trans rfl)).trans f1),f2⟩
  refine e2v (x:=(.fr,.int (bk.length:Int))) (y:=(.fr,.int 0)) rfl rfl ?_
  show some (Md.fr,T.bl (decide ((0:Int) < (bk.length:Int))))=_
  rw [ZU (by omega)]
 ·obtain ⟨d2,n3,a0,a1,e3⟩:=nxB (L:=L) (many:=many) (bk:=bk) (z4:=Q0 (bk.length:Int)) (z5:=Q1 t) (z6:=z6) n2 4 (by decide) (c:=Q2 4) rfl
  have tt:ip (e2 oGt (aa 4) (Q2 0)) (xtV (x2 oEq (aN [(.io 0 true),(.px (xI (Q2 4)))] au) (xI (Q2 1)))) (EB n2 L many bk (Q0 (bk.length:Int)) (Q1 t) z6)=some (d2 == 1,EB n3 L many bk (Q0 (bk.length:Int)) (Q1 t) z6):=by
   refine (xy (m:=.fr) ?_).trans (sT e3 (cq (m:=.fr) rfl rfl))
   refine e2v (x:=(.fr,.int (bk.length:Int))) (y:=(.fr,.int 0)) rfl rfl ?_
   show some (Md.fr,T.bl (decide ((0:Int) < (bk.length:Int))))=_
   rw [decide_eq_true (by omega)]
  cases hd:(d2 == 1) with
  | false =>
   rw [hd] at tt
   obtain ⟨n4,t3,a,b,f1,f2⟩:=fin n3 t z6 ht' hz
   exact ⟨n4,t3,a,b,(af s1).trans ((af ((sq tt).trans rfl)).trans f1),f2⟩
  | true =>
   rw [hd] at tt
   obtain ⟨d3,n4,b0,b1,e4⟩:=nxB (L:=L) (many:=many) (bk:=bk) (z4:=Q0 (bk.length:Int)) (z5:=Q1 t) (z6:=z6) n3 (bk.length:Int) (by omega) (c:=aa 4) rfl
   have s5:=d8 (j:=6) (yI (n:=3) bk rfl e4 rfl rfl b0 b1) rfl (by show 6 < 7;decide)
   have ho:=hb _ (jW (l:=bk) (i:=d3.toNat) (by omega))
   generalize bk.getD d3.toNat []=old at s5 ho
   obtain ⟨d4,n5,_,_,e5⟩:=nxB (L:=L) (many:=many) (bk:=bk) (z4:=Q0 (bk.length:Int)) (z5:=Q1 t) (z6:=Q1 old) n4 ((old.length:Int)+1) (by omega) (c:=e2 aS (eN cK (ab (aa 6) aj)) (Q2 1)) rfl
   have hcl:(cut old (some d4) none).length<=old.length:=AN old (some d4) none
   have y1:xI (aa 6) (EB n4 L many bk (Q0 (bk.length:Int)) (Q1 t) (Q1 old))=some ((.fr,.str old),_):=cq (m:=.fr) rfl rfl
   have y2:xI (aa 5) (EB n5 L many bk (Q0 (bk.length:Int)) (Q1 t) (Q1 old))=some ((.fr,.str t),_):=cq (m:=.fr) rfl rfl
   have y3:xI (Q2 14) (EB n5 L many bk (Q0 (bk.length:Int)) (Q1 t) (Q1 old))=some ((.fr,.int 14),_):=cq (m:=.fr) rfl rfl
   have s6:=d8 (j:=5) (zT (jB (f:=aS) (zT (hi:=none) y1 (nk e5) rfl) y2 (jH (by omega)) rfl rfl rfl) (lo:=none) rfl (nk y3)) rfl (by show 5 < 7;decide)
   obtain ⟨n6,t3,a,b,f1,f2⟩:=fin n5 (cut (cut old (some d4) none++t) none (some 14)) (Q1 old) (wo _ 14) (wQ (oH (wQ ho.2) hz))
   exact ⟨n6,t3,a,b,(af s1).trans ((af ((zW tt).trans ((af s5).trans s6))).trans f1),f2⟩
theorem AY {bk:List Tx} (h:∀ t∈bk,t.length<=14):(bk.map List.length).sum<=14 * bk.length:=by
 induction bk with
 | nil=>exact Zg _
 | cons a l ih =>
  have:=ih fun t ht=>h t (Zy _ ht)
  have:=h a Zx
  rw [Zl,Xq,Zn]
  omega
theorem xm (n:Int) (bk:List Tx):tU [.lst [.int n]] (.fr,.lst (bk.map .str))=true:=by
 unfold tU
 rw [Bool.or_eq_true]
 refine .inr ?_
 show (bk.map T.str).all v9=true
 rw [List.all_map]
 exact Yx.mpr fun _ _=>rfl
theorem v7 {m n:Md} (l:List Tx) (h:0 < l.length):aE (m,.lst (l.map .str)) (n,.int (-1))=some (.fr,.str (l.getD (l.length - 1) [])):=by
 show ((ixP (l.map T.str).length (-1)).bind _)=_
 have:ixP (l.map T.str).length (-1)=some (l.length - 1):=by
  unfold ixP
  rw [Zv,Zm (by decide),Zq (by omega)]
  congr 1
  omega
 rw [this,Zu,ZQ,Zs,Zr (by omega)]
 rfl
theorem sG (w:Tx):∀ k,(List.replicate k w).flatten.length=k * w.length
 | 0=>by rw [Nat.zero_mul];rfl
 | k+1=>by rw [Y0,ZV,Zt,sG w k,X2,X7]
theorem A5 {L:Tx} (hL:0 < L.length/\L.length<=26/\Az L) (n:Int):∃ (n':Int) (bk:List Tx),gE [.lst [.int n],.str L]=some ([.lst [.int n']],.lst (bk.map .str))/\bk.length<=8/\(bk.map List.length).sum<=120/\∀ t∈bk,Az t:=by
 obtain ⟨d,n1,d0,d1,e⟩:=nx (i:=0) (un:=true) (m:=8) (n:=n) (x:=xI (Q2 8)) (η:=[sp true n,Q1 L,none,none,none,none,none]) (by decide) rfl (cq (m:=.fr) rfl rfl) rfl
 have hf:=zH d.toNat (by omega)
 have s1:=d8 (j:=2) (kL (c:=(dF (ab (Q2 2) (ab (Q2 1) (ab (Q2 3) (ab (Q2 2) (ab (Q2 4) (ab (Q2 0) (ab (Q2 1) (ab (Q2 8) aj)))))))))) ([2,1,3,2,4,0,1,8]:Wp) rfl e d0 d1) rfl (by show 2 < 7;decide)
 generalize ([2,1,3,2,4,0,1,8]:Wp).getD d.toNat 0=many at hf s1
 obtain ⟨η',f1,n2,bk,z4,z5,z6,rfl,_,hb,hlen⟩:=jD (tg:=aT 4) (body:=df) (fun (k:Nat)=>T.int (k:Int)) (fun r η=>∃ (n:Int) (bk:List Tx) (z4 z5 z6:Wm),η=EB n L many bk z4 z5 z6/\r=List.range' bk.length r.length/\(∀ t∈bk,t.length<=14/\Az t)/\bk.length+r.length=many.toNat) (by
  rintro k r _ ⟨n,bk,z4,z5,z6,rfl,hr,hb,hl⟩
  rw [Zn] at hl
  rw [Zn,List.range'_succ] at hr
  obtain ⟨rfl,hr2⟩:=List.cons.inj hr
  obtain ⟨n',t,z5',z6',e,h1,h2⟩:=tW (many:=many) hL hb (by omega) n z5 z6
  refine ⟨EB n L many bk (Q0 (bk.length:Int)) z5 z6,_,rfl,e,n',bk++[t],_,z5',z6',rfl,by rw [Zt];exact hr2,fun u hu=>?_,by rw [Zt,ZI];omega⟩
  rcases Ze.mp hu with h | h
  ·exact hb u h
  ·rw [Zj.mp h]
   exact ⟨h1,h2⟩) (List.range many.toNat) (EB n1 L many [] none none none) ⟨n1,[],none,none,none,rfl,by rw [ZR];exact List.range_eq_range',(fun _ h=>nomatch h),by rw [ZR];exact X1 _⟩
 have hlen':bk.length=many.toNat:=hlen
 have s3:fA (aT 4) (bH (aa 2)) df (EB n1 L many [] none none none)=some (.nx (EB n2 L many bk z4 z5 z6)):=by
  refine (dk (m:=.fr) ?_ rfl).trans f1
  rw [dU (m:=.fr) (j:=many) rfl (by omega),gk]
 have fin:∀ {n3:Int} {bk':List Tx} (b:Sx),b (EB n2 L many bk z4 z5 z6)=some (.nx (EB n3 L many bk' z4 z5 z6))->ifn 2 7 [false] (ak (cz 2 (ke (dF (ab (Q2 2) (ab (Q2 1) (ab (Q2 3) (ab (Q2 2) (ab (Q2 4) (ab (Q2 0) (ab (Q2 1) (ab (Q2 8) aj))))))))) (aN [(.io 0 true),(.px (xI (Q2 8)))] au))) (ak (gD 3 (dF aj)) (ak (fA (aT 4) (bH (aa 2)) df) (ak b (eR 3))))) [.lst [.int n],.str L]=some ([.lst [.int n3]],.lst (bk'.map .str)):=fun b hb =>
  i8 (v:=(.fr,.lst (_:Wi))) ⟨rfl,rfl⟩ ((af s1).trans ((af (η1:=EB n1 L many [] none none none) rfl).trans ((af s3).trans ((af hb).trans rfl)))) rfl (xm _ _) rfl
 have fin0:bk.length<=8/\(bk.map List.length).sum<=120/\∀ t∈bk,Az t:=⟨by omega,by have:=AY fun t ht=>(hb t ht).1;omega,fun t ht=>(hb t ht).2⟩
 obtain ⟨d2,n3,a0,a1,e3⟩:=nxB (L:=L) (many:=many) (bk:=bk) (z4:=z4) (z5:=z5) (z6:=z6) n2 6 (by decide) (c:=Q2 6) rfl
 by_cases hm:0 < many/\many < 3
 ·have tt:ip (gI oLt oLt (Q2 0) (aa 2) (Q2 3)) (xtV (x2 oEq (aN [(.io 0 true),(.px (xI (Q2 6)))] au) (xI (Q2 1)))) (EB n2 L many bk z4 z5 z6)=some (d2 == 1,EB n3 L many bk z4 z5 z6):=by
   refine (xy (m:=.fr) (rO (x:=(.fr,.int 0)) (y:=(.fr,.int many)) (z:=(.fr,.int 3)) rfl rfl ?_ rfl ?_)).trans (sT e3 (cq (m:=.fr) rfl rfl))
   ·show some (Md.fr,T.bl (decide ((0:Int) < many)))=_
    rw [decide_eq_true hm.1]
   ·show some (Md.fr,T.bl (decide (many < 3)))=_
    rw [decide_eq_true hm.2]
  cases hd:(d2 == 1) with
  | false =>
   rw [hd] at tt
   exact ⟨n3,bk,fin _ ((sq tt).trans rfl),fin0⟩
  | true =>
   rw [hd] at tt
   have hpos:0 < bk.length:=by omega
   obtain ⟨n4,t,ht,hz,e4⟩:=txB (bk:=bk) (z4:=z4) (z5:=z5) (z6:=z6) (many:=many) hL n3 n3 24 (by decide) (x:=xI (Q2 24)) (cq (m:=.fr) rfl rfl)
   obtain ⟨d3,n5,b0,b1,e5⟩:=nxB (L:=L) (many:=many) (bk:=bk) (z4:=z4) (z5:=z5) (z6:=z6) n4 2 (by decide) (c:=Q2 2) rfl
   have i0:e2 aE (aa 3) (Q2 0) (EB n3 L many bk z4 z5 z6)=some (.fr,.str (bk.getD 0 [])):=e2v (x:=(.bo,.lst (bk.map .str))) (y:=(.fr,.int ((0:Nat):Int))) rfl rfl (lJ T.str bk 0 [] hpos)
   have i1:e2 aE (aa 3) (Q2 (-1)) (EB n4 L many bk z4 z5 z6)=some (.fr,.str (bk.getD (bk.length - 1) [])):=e2v (x:=(.bo,.lst (bk.map .str))) (y:=(.fr,.int (-1))) rfl rfl (v7 bk hpos)
   have q0:=hb _ (jW (l:=bk) hpos)
   have q1:=hb _ (jW (l:=bk) (i:=bk.length - 1) (by omega))
   generalize hA:bk.getD 0 []=A at i0 q0
   generalize bk.getD (bk.length - 1) []=B at i1 q1
   have xl:=jB (jB (cq i0 rfl) e4 (jH (by omega)) rfl rfl rfl) (cq i1 rfl) (jH (by rw [Zt];omega)) rfl rfl rfl
   have xr:=jB (f:=aS) (cq (c:=Q2 1) (m:=.fr) rfl rfl) e5 (u:=.int (1+d3)) rfl rfl rfl rfl
   have hlen2:(A++t++B).length<=52:=by rw [Zt,Zt];omega
   have hazz:Az (A++t++B):=oH (oH q0.2 hz) q1.2
   generalize A++t++B=w at xl hlen2 hazz
   have xx:=jB xl xr (f:=rV) (m:=.fr) (u:=.str (List.replicate (1+d3).toNat w).flatten) (by
    show (if w.length * (1+d3).toNat<=16777216/\-4611686018427387904<=1+d3/\1+d3 < 4611686018427387904 then _ else _)=_
    rw [Zq ⟨by
     have:w.length * (1+d3).toNat<=52 * 2:=Nat.mul_le_mul hlen2 (by omega)
     omega,by omega,by omega⟩]) rfl rfl rfl
   have hwl:(List.replicate (1+d3).toNat w).flatten.length<=104:=by
    rw [sG]
    have:(1+d3).toNat * w.length<=2 * 52:=Nat.mul_le_mul (by omega) hlen2
    omega
   have hwz:Az (List.replicate (1+d3).toNat w).flatten:=fun c hc=>by
    obtain ⟨u,hu,hc'⟩:=Wt.mp hc
    rw [(List.mem_replicate.mp hu).2] at hc'
    exact hazz c hc'
   generalize (List.replicate (1+d3).toNat w).flatten=W at xx hwl hwz
   refine ⟨n5,bk.set 0 W,fin _ ((zW tt).trans ?_),?_⟩
   ·refine (congrArg (fun z=>Option.bind z _) xx).trans ?_
    show fF 3 [] (Q2 0) (fun _=>some (.fr,.str W)) (EB n5 L many bk z4 z5 z6)=_
    show ((((ixP (bk.map T.str).length 0).map fun j=>(T.lst ((bk.map T.str).set j (.str W)),())).map _):Option Out)=_
    rw [Zv,show ixP bk.length 0=some 0 from yK (i:=0) hpos]
    show some (Out.nx [sp true n5,Q1 L,Q0 many,oc (.lst ((bk.map T.str).set 0 (.str W))),z4,z5,z6])=_
    rw [show (bk.map T.str).set 0 (.str W)=(bk.set 0 W).map T.str from by rw [List.map_set]]
   ·have:bk.length=1\/bk.length=2:=by omega
    rcases this with h | h
    ·obtain ⟨a,rfl⟩:=List.length_eq_one_iff.mp h
     refine ⟨by show 1<=8;decide,by show W.length+0<=120;omega,fun t ht=>?_⟩
     rw [Zj.mp (show t∈[W] from ht)]
     exact hwz
    ·match bk,h with
     | [a,b],_ =>
      have hbb:=hb b (by simp)
      refine ⟨by show 2<=8;decide,by show W.length+(b.length+0)<=120;omega,fun t ht=>?_⟩
      rcases Zo.mp (show t∈[W,b] from ht) with rfl | ht
      ·exact hwz
      ·rw [Zj.mp ht]
       exact hbb.2
 ·have tt:ip (gI oLt oLt (Q2 0) (aa 2) (Q2 3)) (xtV (x2 oEq (aN [(.io 0 true),(.px (xI (Q2 6)))] au) (xI (Q2 1)))) (EB n2 L many bk z4 z5 z6)=some (false,EB n2 L many bk z4 z5 z6):=by
   refine xw (m:=.fr) ?_
   by_cases h0:0 < many
   ·refine rO (x:=(.fr,.int 0)) (y:=(.fr,.int many)) (z:=(.fr,.int 3)) rfl rfl ?_ rfl ?_
    ·show some (Md.fr,T.bl (decide ((0:Int) < many)))=_
     rw [decide_eq_true h0]
    ·show some (Md.fr,T.bl (decide (many < 3)))=_
     rw [ZU (by omega)]
   ·refine zt (x:=(.fr,.int 0)) (y:=(.fr,.int many)) rfl rfl ?_
    show some (Md.fr,T.bl (decide ((0:Int) < many)))=_
    rw [ZU h0]
  exact ⟨n2,bk,fin _ ((sq tt).trans rfl),fin0⟩
noncomputable abbrev s1 (c:Nat):T:=.str [c]
noncomputable abbrev EL (n:Int) (L:Tx) (w c:Wm):Env:=[sp true n,Q1 L,Q1 az,w,c]
theorem zf (l:Tx):dv (l.map s1)=true:=by
 induction l with
 | nil=>rfl
 | cons a l ih=>exact ih
theorem eq_int {a:Ex} {η:Env} {m:Md} {i:Int} (k:Int) (h:a η=some (m,.int i)):e2 oEq a (Q2 k) η=some (.fr,.bl (i == k)):=e2v h rfl (mP rfl rfl (by simp only [eqT]))
theorem qc:az.Nodup:=by decide
theorem CC {c:Nat} (h:97<=c/\c<=122):c∈az:=by
 have:∀ k,k < 26->97+k∈az:=by decide
 have:=this (c - 97) (by omega)
 rwa [show 97+(c - 97)=c by omega] at this
theorem uk {L:Tx} (hL:0 < L.length/\L.length<=26/\Az L) (n:Int):∃ (n':Int) (ls:Tx),da [.lst [.int n],.str L]=some ([.lst [.int n']],.str ls)/\0 < ls.length/\ls.length<=26/\ls.Nodup/\Az ls:=by
 obtain ⟨d,n1,d0,d1,e⟩:=nx (i:=0) (un:=true) (m:=8) (n:=n) (x:=xI (Q2 8)) (η:=EL n L none none) (by decide) rfl (cq (m:=.fr) rfl rfl) rfl
 have q2:=d8 (j:=3) e rfl (by show 3 < 5;decide)
 have cond:∀ (n k:Int) (c:Wm),e2 oEq (aa 3) (Q2 k) (EL n L (Q0 d) c)=some (.fr,.bl (d == k)):=fun n k c=>eq_int k (m:=.fr) rfl
 have az26:∀ (sm:Tx),(az.filter fun c=>sm.any (· == c)).length<=26:=fun sm=>Xw _ _
 have sg:∀ (n:Int) (c:Wm),∃ (n':Int) (x:Nat),97<=x/\x<=122/\x2 aE (xI (aa 2)) (aN [(.io 0 true),(.px (xI (Q2 26)))] au) (EL n L (Q0 d) c)=some ((.fr,s1 x),EL n' L (Q0 d) c):=fun n c=>by
  obtain ⟨d',n',a0,a1,e⟩:=nx (i:=0) (un:=true) (m:=26) (n:=n) (x:=xI (Q2 26)) (η:=EL n L (Q0 d) c) (by decide) rfl (cq (m:=.fr) rfl rfl) rfl
  have:=nW _ (getD_mem' (l:=az) (i:=d'.toNat) (by show _ < 26;omega))
  exact ⟨n',_,this.1,this.2,jB (cq (m:=.fr) rfl rfl) e (qB az d' a0 a1) rfl rfl rfl⟩
 have fin:∀ (n':Int) (sm:Tx) (c:Wm) (m:Md),0 < sm.length->Az sm->(∀ z,aa 5 (z :: EL n' L (Q0 d) c)=some (m,.lst (sm.map s1)))->∃ ls:Tx,gp (eM gS (eC (.str [])) (ab (dE 1 (aT 0) (il (aa 2)) (some (e2 jP (aa 0) (aa 5))) (aa 0)) aj)) (EL n' L (Q0 d) c)=some (.rt (.fr,.str ls) (EL n' L (Q0 d) c))/\0 < ls.length/\ls.length<=26/\ls.Nodup/\Az ls:=fun n' sm c m hp hz hv=>by
  refine ⟨az.filter fun c=>sm.any (· == c),fU ?_,?_,az26 sm,qc.sublist XG,fun c hc=>nW c (Ya.mp hc).1⟩
  ·have c1:=nB (k:=1) (tg:=aT 0) (it:=il (aa 2)) (c:=e2 jP (aa 0) (aa 5)) (elt:=aa 0) (m:=.fr) (η:=EL n' L (Q0 d) c) s1 (fun c=>sm.any (· == c)) s1 az rfl rfl (by decide) fun a ha=>⟨_,(.fr,.bl (sm.any (· == a))),rfl,e2v (x:=(.fr,s1 a)) rfl (hv _) (by
     show (if (flat (s1 a) && (sm.map s1).all flat)=true then some (Md.fr,T.bl ((sm.map s1).any fun y=>eqT y (s1 a))) else none)=_
     rw [Zq (by rw [List.all_map];exact XI.mpr ⟨rfl,Yx.mpr fun _ _=>rfl⟩),List.any_map]
     congr 3
     exact congrArg (fun f=>sm.any f) (funext fun b=>zp b a)),rfl,fun _=>rfl⟩
   have j1:=jY (m:=.fr) (n:=.fr) (strs_map (fun x=>[x]) (az.filter fun c=>sm.any (· == c))) (by rw [cP];have:=az26 sm;omega)
   rw [cP] at j1
   exact xC rfl (xv c1 rfl) j1
  ·refine List.length_pos_of_mem (a:=sm.getD 0 0) (Ya.mpr ⟨CC (hz _ (getD_mem' hp)),YO.mpr ⟨_,getD_mem' hp,beq_self_eq_true _⟩⟩)
 by_cases h0:d=0
 ·refine ⟨n1,az,i8 (v:=(.fr,.str az)) (η:=EL n1 L (Q0 d) none) ⟨rfl,rfl⟩ ((af (η1:=EL n L none none) rfl).trans ((af q2).trans (eV ((j6 ((cond n1 0 none).trans (by rw [h0];rfl))).trans rfl)))) rfl rfl rfl,by decide,by decide,qc,nW⟩
 ·have q3:=(iZ (a:=eR 2) (b:=dy) ((cond n1 0 none).trans (by rw [ZO.mpr h0]))).trans (show dy (EL n1 L (Q0 d) none)=_ from rfl)
  have q4:gD 4 (eN gv (ab (aa 1) aj)) (EL n1 L (Q0 d) none)=some (.nx (EL n1 L (Q0 d) (oc (.lst (L.map s1))))):=by
   have:eN gv (ab (aa 1) aj) (EL n1 L (Q0 d) none)=some (.fr,.lst (L.map s1)):=ma (xv (x:=(.fr,.str L)) (r:=aj) rfl rfl) (by
    show mkL .fr (L.map s1)=_
    rw [kY (by rw [Zv];omega),ite_self])
   show (eN gv (ab (aa 1) aj) _).bind _=_
   rw [this]
   rfl
  have q5:∃ (n2:Int) (sm:Tx),0 < sm.length/\sm.length<=26/\Az sm/\sIf (e2 oEq (aa 3) (Q2 1)) (nL 4 4 none (some (x2 aS (xI (Q2 1)) (aN [(.io 0 true),(.px (xI (eN cK (ab (aa 1) aj))))] au)))) dy (EL n1 L (Q0 d) (oc (.lst (L.map s1))))=some (.nx (EL n2 L (Q0 d) (oc (.lst (sm.map s1))))):=by
   by_cases h1:d=1
   ·obtain ⟨d',n',a0,a1,e⟩:=nx (i:=0) (un:=true) (m:=(L.length:Int)) (n:=n1) (x:=xI (eN cK (ab (aa 1) aj))) (η:=EL n1 L (Q0 d) (oc (.lst (L.map s1)))) (by omega) rfl (cq (m:=.fr) rfl rfl) rfl
    have x1:=nk (jB (f:=aS) (cq (c:=Q2 1) (m:=.fr) rfl rfl) e (u:=.int (1+d')) rfl rfl rfl rfl)
    refine ⟨n',L.take (1+d').toNat,by rw [YR];omega,by rw [YR];omega,fun c hc=>hL.2.2 c (List.mem_of_mem_take hc),(j6 ((cond n1 1 _).trans (by rw [h1];rfl))).trans ?_⟩
    show ((iu (some _) _).bind _)=_
    rw [x1,Zu]
    show (if dv (L.map s1)=true/\(L.map s1).length<=16777216/\4 < 5 then some (Out.nx (EL n' L (Q0 d) (oc (.lst (cut (L.map s1) none (some (1+d'))))))) else none)=_
    refine Eq.trans (Zq ⟨zf L,by rw [Zv];omega,by decide⟩) ?_
    rw [zz,show (1+d')=((1+d').toNat:Int) by omega,vq,Xb]
   ·exact ⟨n1,L,hL.1,hL.2.1,hL.2.2,(iZ ((cond n1 1 _).trans (by rw [ZO.mpr h1]))).trans rfl⟩
  obtain ⟨n2,sm,p1,p2,p3,q5⟩:=q5
  have q6:∃ (n3:Int) (sm':Tx),0 < sm'.length/\Az sm'/\sIf (e2 oLt (aa 3) (Q2 4)) (mV 4 (x2 aE (xI (aa 2)) (aN [(.io 0 true),(.px (xI (Q2 26)))] au))) dy (EL n2 L (Q0 d) (oc (.lst (sm.map s1))))=some (.nx (EL n3 L (Q0 d) (oc (.lst (sm'.map s1))))):=by
   have c4:e2 oLt (aa 3) (Q2 4) (EL n2 L (Q0 d) (oc (.lst (sm.map s1))))=some (.fr,.bl (decide (d < 4))):=e2v (x:=(.fr,.int d)) (y:=(.fr,.int 4)) rfl rfl rfl
   by_cases h4:d < 4
   ·obtain ⟨n3,x,x0,x1,e⟩:=sg n2 (oc (.lst (sm.map s1)))
    refine ⟨n3,sm++[x],by rw [Zt];omega,oH p3 fun c hc=>by rw [Zj.mp hc];exact ⟨x0,x1⟩,(j6 (c4.trans (by rw [decide_eq_true h4]))).trans ((ya rfl e rfl rfl (by rw [Zv];omega)).trans ?_)⟩
    rw [Z3]
    rfl
   ·exact ⟨n2,sm,p1,p3,(iZ (c4.trans (by rw [ZU h4]))).trans rfl⟩
  obtain ⟨n3,sm',p4,p5,q6⟩:=q6
  by_cases h4:d=4
  ·obtain ⟨n4,x,x0,x1,e⟩:=sg n3 (pc (.lst (sm'.map s1)))
   obtain ⟨ls,f1,f2⟩:=fin n4 [x] (oc (.lst [s1 x])) .bo Nat.one_pos (fun c hc=>by rw [Zj.mp hc];exact ⟨x0,x1⟩) fun z=>rfl
   refine ⟨n4,ls,i8 (v:=(.fr,.str ls)) ⟨rfl,rfl⟩ ((af (η1:=EL n L none none) rfl).trans ((af q2).trans ((af q3).trans ((af q4).trans ((af q5).trans ((af q6).trans ((af (η1:=EL n3 L (Q0 d) (pc (.lst (sm'.map s1)))) rfl).trans ((af ((j6 ((cond n3 4 _).trans (by rw [h4];rfl))).trans ?_)).trans f1)))))))) rfl rfl rfl,f2⟩
   unfold xp
   rw [e]
   rfl
  ·obtain ⟨ls,f1,f2⟩:=fin n3 sm' (pc (.lst (sm'.map s1))) .pu p4 p5 fun z=>by
    show some (up .pu (.lst (sm'.map s1)))=_
    rfl
   exact ⟨n3,ls,i8 (v:=(.fr,.str ls)) ⟨rfl,rfl⟩ ((af (η1:=EL n L none none) rfl).trans ((af q2).trans ((af q3).trans ((af q4).trans ((af q5).trans ((af q6).trans ((af (η1:=EL n3 L (Q0 d) (pc (.lst (sm'.map s1)))) rfl).trans ((af ((iZ ((cond n3 4 _).trans (by rw [ZO.mpr h4]))).trans rfl)).trans f1)))))))) rfl rfl rfl,f2⟩
theorem mul_r {m n:Md} {i j:Int} (h:-18446744073709551616 < j/\j < 18446744073709551616):fH (m,.int i) (n,.int j)=some (.fr,.int (i * j)):=Zq (.inr h)
theorem o9 (ns:Wp) (hns:ns.length<=63) (k:Nat) (hk:k < 1000):∃ n,bt [.scr ns,.int k]=some (.fr,.lst [.int n]):=by
 have s1:aK 2 (e2 aS (e2 fH (aa 1) (Q2 7919)) (Q2 104729)) [pc (.scr ns),Q0 k,none,none,none,none,none]=some (.nx [pc (.scr ns),Q0 k,Q0 ((k:Int) * 7919+104729),none,none,none,none]) :=
  aQ (m:=.fr) (e2v (e2v (x:=(.fr,.int k)) (y:=(.fr,.int 7919)) rfl rfl (iS (by omega))) (y:=(.fr,.int 104729)) rfl rfl) (by decide) (by show 2 < 7;decide)
 have q2:∃ c,sIf (e2 oGt (eN cK (ab (aa 0) aj)) (Q2 0)) (aK 2 (e2 aS (e2 aE (aa 0) (e2 oMod (aa 1) (eN cK (ab (aa 0) aj)))) (e2 fH (e2 iO (aa 1) (eN cK (ab (aa 0) aj))) (Q2 48271)))) dy [pc (.scr ns),Q0 k,Q0 ((k:Int) * 7919+104729),none,none,none,none]=some (.nx [pc (.scr ns),Q0 k,Q0 c,none,none,none,none]):=by
  have cg:e2 oGt (eN cK (ab (aa 0) aj)) (Q2 0) [pc (.scr ns),Q0 k,Q0 ((k:Int) * 7919+104729),none,none,none,none]=some (.fr,.bl (decide ((0:Int) < (ns.length:Int)))):=e2v (x:=(.fr,.int (ns.length:Int))) (y:=(.fr,.int 0)) rfl rfl rfl
  by_cases h:0 < ns.length
  ·have m0:=YJ (k:Int) (b:=(ns.length:Int)) (by omega)
   have m1:=Ye (k:Int) (b:=(ns.length:Int)) (by omega)
   exact ⟨_,(j6 (cg.trans (by rw [decide_eq_true (by omega)]))).trans (aQ (m:=.fr) (e2v (e2v (x:=(.fr,.scr ns)) rfl (e2v (x:=(.fr,.int k)) (y:=(.fr,.int (ns.length:Int))) rfl rfl (eW (by omega))) (zF ns _ m0 m1)) (e2v (e2v (x:=(.fr,.int k)) (y:=(.fr,.int (ns.length:Int))) rfl rfl (jQ (by omega))) (y:=(.fr,.int 48271)) rfl (mul_r (by decide))) rfl) (by decide) (by show 2 < 7;decide))⟩
  ·exact ⟨_,(iZ (cg.trans (by rw [ZU (by omega)]))).trans rfl⟩
 obtain ⟨c,q2⟩:=q2
 have c3:e2 oEq (e2 oMod (aa 2) (Q2 2)) (Q2 0) [pc (.scr ns),Q0 k,Q0 c,none,none,none,none]=some (.fr,.bl (c % 2 == 0)):=eq_int 0 (m:=.fr) (e2v (x:=(.fr,.int c)) (y:=(.fr,.int 2)) rfl rfl (eW (by decide)))
 cases hb:(c % 2 == 0) with
 | true =>
  rw [hb] at c3
  refine ⟨c / 2,ic rfl ((af s1).trans ((af q2).trans (eV ((j6 c3).trans (fU ?_)))))⟩
  unfold dF
  rw [xv (r:=aj) (e2v (x:=(.fr,.int c)) (y:=(.fr,.int 2)) rfl rfl (jQ (by decide))) rfl]
  rfl
 | false =>
  rw [hb] at c3
  have q4:=aQ (η:=[pc (.scr ns),Q0 k,Q0 c,none,none,none,none]) (i:=3) (m:=.fr) (e2v (e2v (f:=aS) (z:=(.fr,.int (c / 2+40503 * (k:Int)))) (e2v (x:=(.fr,.int c)) (y:=(.fr,.int 2)) (a:=aa 2) (b:=Q2 2) rfl rfl (jQ (by decide))) (e2v (x:=(.fr,.int 40503)) (y:=(.fr,.int k)) (a:=Q2 40503) (b:=aa 1) rfl rfl (iS (by decide))) rfl) (y:=(.fr,.int 2147483629)) (b:=Q2 2147483629) rfl (eW (by decide))) (by decide) (by show 3 < 7;decide)
  have l0:=YJ (c / 2+40503 * (k:Int)) (b:=2147483629) (by decide)
  have l1:=Ye (c / 2+40503 * (k:Int)) (b:=2147483629) (by decide)
  generalize (c / 2+40503 * (k:Int)) % 2147483629=left at q4 l0 l1
  obtain ⟨η',f1,l,n,z5,z6,rfl,_⟩:=jD (tg:=aT 5) (body:=eO) (fun (j:Nat)=>T.int (j:Int)) (fun r η=>∃ (l n:Int) (z5 z6:Wm),η=[pc (.scr ns),Q0 k,Q0 c,Q0 l,Q0 n,z5,z6]/\0<=l/\l < 2147483647/\∀ j∈r,j < 24) (by
   rintro j r _ ⟨l,n,z5,z6,rfl,h0,h1,hj⟩
   have hj':=hj j Zx
   have a1:aK 3 (e2 oMod (e2 aS (e2 aS (e2 fH (aa 3) (Q2 69621)) (e2 fH (Q2 7) (aa 5))) (Q2 1)) (Q2 2147483647)) [pc (.scr ns),Q0 k,Q0 c,Q0 l,Q0 n,Q0 (j:Int),z6]=some (.nx [pc (.scr ns),Q0 k,Q0 c,Q0 ((l * 69621+7 * (j:Int)+1) % 2147483647),Q0 n,Q0 (j:Int),z6]) :=
    aQ (m:=.fr) (e2v (e2v (e2v (e2v (x:=(.fr,.int l)) (y:=(.fr,.int 69621)) rfl rfl (iS (by omega))) (e2v (x:=(.fr,.int 7)) (y:=(.fr,.int (j:Int))) rfl rfl (iS (by decide))) rfl) (y:=(.fr,.int 1)) rfl rfl) (y:=(.fr,.int 2147483647)) rfl (eW (by decide))) (by decide) (by show 3 < 7;decide)
   have g0:=YJ (l * 69621+7 * (j:Int)+1) (b:=2147483647) (by decide)
   have g1:=Ye (l * 69621+7 * (j:Int)+1) (b:=2147483647) (by decide)
   generalize (l * 69621+7 * (j:Int)+1) % 2147483647=l2 at a1 g0 g1
   have a2:aK 6 (e2 oMod (e2 fH (aa 3) (aa 3)) (Q2 2147483629)) [pc (.scr ns),Q0 k,Q0 c,Q0 l2,Q0 n,Q0 (j:Int),z6]=some (.nx [pc (.scr ns),Q0 k,Q0 c,Q0 l2,Q0 n,Q0 (j:Int),Q0 (l2 * l2 % 2147483629)]) :=
    aQ (m:=.fr) (e2v (e2v (x:=(.fr,.int l2)) (y:=(.fr,.int l2)) rfl rfl (iS (by omega))) (y:=(.fr,.int 2147483629)) rfl (eW (by decide))) (by decide) (by show 6 < 7;decide)
   have k0:=YJ (l2 * l2) (b:=2147483629) (by decide)
   have k1:=Ye (l2 * l2) (b:=2147483629) (by decide)
   generalize l2 * l2 % 2147483629=mo at a2 k0 k1
   have a3:aK 4 (e2 aS (e2 fH (aa 4) (Q2 999983)) (e2 oMod (e2 fH (aa 6) (e2 aS (e2 oMod (aa 6) (Q2 65521)) (Q2 3))) (Q2 999983))) [pc (.scr ns),Q0 k,Q0 c,Q0 l2,Q0 n,Q0 (j:Int),Q0 mo]=some (.nx [pc (.scr ns),Q0 k,Q0 c,Q0 l2,Q0 (n * 999983+mo * (mo % 65521+3) % 999983),Q0 (j:Int),Q0 mo]) :=
    aQ (m:=.fr) (e2v (e2v (x:=(.fr,.int n)) (y:=(.fr,.int 999983)) rfl rfl (mul_r (by decide))) (e2v (e2v (x:=(.fr,.int mo)) rfl (e2v (e2v (x:=(.fr,.int mo)) (y:=(.fr,.int 65521)) rfl rfl (eW (by decide))) (y:=(.fr,.int 3)) rfl rfl) (iS (by omega))) (y:=(.fr,.int 999983)) rfl (eW (by decide))) rfl) (by decide) (by show 4 < 7;decide)
   exact ⟨_,_,rfl,(af a1).trans ((af a2).trans a3),l2,_,_,_,rfl,g0,g1,fun i hi=>hj i (Zy _ hi)⟩) (List.range 24) [pc (.scr ns),Q0 k,Q0 c,Q0 left,Q0 0,none,none] ⟨left,0,none,none,rfl,l0,by omega,fun j hj=>Yu.mp hj⟩
  have q6:fA (aT 5) (bH (Q2 24)) eO [pc (.scr ns),Q0 k,Q0 c,Q0 left,Q0 0,none,none]=some (.nx [pc (.scr ns),Q0 k,Q0 c,Q0 l,Q0 n,z5,z6]):=by
   refine (dk (m:=.fr) ?_ rfl).trans f1
   rw [dU (m:=.fr) (j:=24) rfl (by decide),gk]
   rfl
  refine ⟨n,ic rfl ((af s1).trans ((af q2).trans ((af ((iZ c3).trans rfl)).trans ((af q4).trans ((af (η1:=[pc (.scr ns),Q0 k,Q0 c,Q0 left,Q0 0,none,none]) rfl).trans ((af q6).trans (fU ?_)))))))⟩
  rfl
noncomputable abbrev Pl:=Nat×Nat
noncomputable def tP (p:Pl):T:=.tup [.int p.1,.int p.2]
noncomputable abbrev Fd:=List (Tx×List Pl)
noncomputable def dT (d:Fd):List (T×T):=d.map fun p=>(T.str p.1,T.lst (p.2.map tP))
noncomputable def gy:Fd->Tx->Pl->Fd
 | [],w,p=>[(w,[p])]
 | (x,l) :: d,w,p=>if x=w then (x,l++[p]) :: d else (x,l) :: gy d w p
noncomputable def rE (f:T->Option (T×Val)) (w:Tx) (L:List (T×T)):Option (List (T×T)):=(L.findIdx? fun q=>eqT q.1 (.str w)).bind fun i=>(L[i]?).bind fun q=>(f q.2).map fun z=>L.set i (q.1,z.1)
theorem t6 {f:T->Option (T×Val)} {w:Tx} {a:T×T} {L:List (T×T)} (h:eqT a.1 (.str w)=false):rE f w (a :: L)=(rE f w L).map (a :: ·):=by
 unfold rE
 rw [Y5,Zm (by rw [h];simp)]
 cases e:L.findIdx? fun q=>eqT q.1 (.str w) with
 | none=>rfl
 | some i =>
  simp only [YK,Zu,XW]
  cases e2:L[i]? with
  | none=>rfl
  | some q =>
   simp only [Zu]
   cases f q.2 with
   | none=>rfl
   | some z=>rfl
theorem p9 {f:T->Option (T×Val)} {w:Tx} {a:T×T} {L:List (T×T)} (h:eqT a.1 (.str w)=true):rE f w (a :: L)=(f a.2).map fun z=>(a.1,z.1) :: L:=by
 unfold rE
 rw [Y5,Zq h]
 rfl
theorem o7 {k:T} {a:T×T} {L:List (T×T)} (h:eqT a.1 k=false):cE (a :: L) k=a :: cE L k:=by
 unfold cE cL
 rw [ZL,h]
 dsimp only
 by_cases q:(Option.map (fun x=>x.2) (L.find? fun p=>eqT p.1 k)).isSome=true
 ·rw [Zq q,Zq q]
 ·rw [Zm q,Zm q]
  rfl
theorem rz {k:T} {a:T×T} {L:List (T×T)} (h:eqT a.1 k=true):cE (a :: L) k=a :: L:=by
 unfold cE cL
 rw [ZL,h]
 rfl
theorem yY (d:Fd) (w:Tx) (p:Pl) (hl:∀ q∈d,q.2.length < 16777216):rE (fun x=>aH x [(.fr,tP p)]) w (cE (dT d) (.str w))=some (dT (gy d w p)):=by
 induction d with
 | nil =>
  have:cE (dT []) (.str w)=[(.str w,.lst [])]:=rfl
  rw [this,p9 (by simp),dr (by decide)]
  rfl
 | cons a d ih =>
  obtain ⟨x,l⟩:=a
  by_cases e:x=w
  ·subst e
   have h:eqT (T.str x) (.str x)=true:=by simp
   rw [show dT ((x,l) :: d)=(T.str x,T.lst (l.map tP)) :: dT d from rfl,rz h,p9 h,dr (by rw [Zv];exact hl (x,l) Zx)]
   simp [gy,dT]
  ·have h:eqT (T.str x) (.str w)=false:=by simpa using e
   rw [show dT ((x,l) :: d)=(T.str x,T.lst (l.map tP)) :: dT d from rfl,o7 h,t6 h,ih fun q hq=>hl q (Zy _ hq)]
   simp [gy,dT,e]
theorem uq {i:Nat} {ck:Ex} {cv:Ex} {η:Env} {d:Fd} {w:Tx} {p:Pl} {m:Md} (h:η[i]?=some (oc (.dct 0 (dT d)))) (hk:ck η=some (m,.str w)) (hv:∀ c,cv (η.set i c)=some (.fr,tP p)) (hl:∀ q∈d,q.2.length < 16777216) (hd:d.length < 16777216) :
  jK i ck (ab cv aj) η=some (.nx (η.set i (oc (.dct 0 (dT (gy d w p)))))):=by
 unfold jK
 simp only [h]
 rw [hk,Zu,Zq ⟨rfl,by rw [dT,Zv];exact hd⟩]
 have e:ab cv aj (η.set i (oc (.dct 0 (cE (dT d) (.str w)))))=some [(.fr,tP p)]:=by simp [hv]
 rw [e,Zu]
 have pk:=yY d w p hl
 unfold rE at pk
 obtain ⟨j,h1,pk⟩:=Zz.mp pk
 obtain ⟨q,h2,pk⟩:=Zz.mp pk
 obtain ⟨z,h3,pk⟩:=Zw.mp pk
 have hp:pm (fun x=>aH x [(.fr,tP p)]) [.at (.str w)] (.dct 0 (cE (dT d) (.str w)))=some (.dct 0 (dT (gy d w p)),z.2):=by
  show (if eY (.str w) then _ else none)=_
  rw [Zq (show eY (.str w)=true from rfl),h1,Zu,h2,Zu]
  show (aH q.2 [(.fr,tP p)]).map _=_
  rw [show aH q.2 [(.fr,tP p)]=some z from h3,YK,pk]
 rw [hp]
 rfl
noncomputable def Sz (N:Nat) (d:Fd):Prop:=d.length<=N/\∀ q∈d,q.2.length<=N
theorem vn (d:Fd) (w:Tx) (p:Pl):(gy d w p).length<=d.length+1:=by
 induction d with
 | nil=>simp [gy]
 | cons a d ih =>
  obtain ⟨x,l⟩:=a
  unfold gy
  split
  ·simp
  ·simp only [Zn];exact YC ih
theorem xf (d:Fd) (w:Tx) (p:Pl) (N:Nat) (h:∀ q∈d,q.2.length<=N):∀ q∈gy d w p,q.2.length<=N+1:=by
 induction d with
 | nil=>intro q hq;simp [gy] at hq;rw [hq];simp
 | cons a d ih =>
  obtain ⟨x,l⟩:=a
  have h1:=h (x,l) Zx
  have ih:=ih fun q hq=>h q (Zy _ hq)
  unfold gy
  split
  ·intro q hq
   rcases Zo.mp hq with rfl | hq
   ·simp only [Zt,ZI];simp only at h1;exact YC h1
   ·have:=h q (Zy _ hq);exact Nat.le_add_right_of_le this
  ·intro q hq
   rcases Zo.mp hq with rfl | hq
   ·simp only at h1 ⊢;exact Nat.le_add_right_of_le h1
   ·exact ih q hq
theorem Sz.add {N:Nat} {d:Fd} (h:Sz N d) (w:Tx) (p:Pl):Sz (N+1) (gy d w p):=⟨by have:=vn d w p;have:=h.1;lia,xf d w p N h.2⟩
theorem enum_zip (l:List Tx):∀ n:Nat,ir n (l.map T.str)=(l.zipIdx n).map fun p=>T.tup [.int p.2,.str p.1]:=by
 induction l with
 | nil=>intro n;rfl
 | cons t l ih=>intro n;rw [List.zipIdx_cons,Zl,Zl,ir,ih (n+1)]
structure PI (d:Fd) (N:Nat) (X:Tx->Prop):Prop where
 hd:∃ l d',d=([],l) :: d'/\∀ q∈d',q.1 ≠ []
 sz:Sz N d
 ks:∀ w,(∃ q∈d,q.1=w) ↔ w=[]\/X w
theorem mJ (d:Fd) (w:Tx) (p:Pl) (v:Tx):(∃ q∈gy d w p,q.1=v) ↔ (∃ q∈d,q.1=v)\/v=w:=by
 induction d with
 | nil=>exact ⟨fun ⟨q,hq,e⟩=>.inr (by rw [Zj.mp hq] at e;exact e.symm),fun h=>h.elim (fun ⟨_,h,_⟩=>nomatch h) fun h=>⟨(w,[p]),Zj.mpr rfl,h.symm⟩⟩
 | cons a d ih =>
  obtain ⟨x,l⟩:=a
  unfold gy
  split
  ·rename_i hx
   constructor
   ·rintro ⟨q,hq,e⟩
    rcases Zo.mp hq with rfl | hq
    ·exact .inl ⟨(x,l),Zx,e⟩
    ·exact .inl ⟨q,Zy _ hq,e⟩
   ·rintro (⟨q,hq,e⟩ | e)
    ·rcases Zo.mp hq with rfl | hq
     ·exact ⟨_,Zx,e⟩
     ·exact ⟨q,Zy _ hq,e⟩
    ·exact ⟨_,Zx,hx.trans e.symm⟩
  ·constructor
   ·rintro ⟨q,hq,e⟩
    rcases Zo.mp hq with rfl | hq
    ·exact .inl ⟨_,Zx,e⟩
    ·exact (ih.mp ⟨q,hq,e⟩).imp (fun ⟨q,hq,e⟩=>⟨q,Zy _ hq,e⟩) id
   ·rintro (⟨q,hq,e⟩ | e)
    ·rcases Zo.mp hq with rfl | hq
     ·exact ⟨_,Zx,e⟩
     ·obtain ⟨q',h1,h2⟩:=ih.mpr (.inl ⟨q,hq,e⟩)
      exact ⟨q',Zy _ h1,h2⟩
    ·obtain ⟨q',h1,h2⟩:=ih.mpr (.inr e)
     exact ⟨q',Zy _ h1,h2⟩
theorem PI.add {d:Fd} {N:Nat} {X:Tx->Prop} (h:PI d N X) {w:Tx} (hw:w ≠ []) (p:Pl):PI (gy d w p) (N+1) fun v=>X v\/v=w:=by
 obtain ⟨l,d',rfl,hd⟩:=h.hd
 refine ⟨⟨l,gy d' w p,by rw [gy,Zm (Yk hw)],fun q hq hn=>?_⟩,h.sz.add w p,fun v=>?_⟩
 ·rcases (mJ d' w p []).mp ⟨q,hq,hn⟩ with ⟨q',h1,h2⟩ | h
  ·exact hd q' h1 h2
  ·exact hw h.symm
 ·rw [mJ,h.ks]
  exact or_assoc
noncomputable abbrev EP (bk:T) (d:Fd) (z2 z3 z4 z5:Wm):Env:=[pc bk,oc (.dct 0 (dT d)),z2,z3,z4,z5]
theorem yW (t:Tx) (i L:Nat) (h:i<=t.length):cut t (some (i:Int)) (some ((i:Int)+(L:Int)))=(t.drop i).take L:=by
 have h1:¬ ((i:Int) < 0):=by omega
 have h2:¬ ((i:Int)+(L:Int) < 0):=by omega
 simp only [cut,clip,Zm h1,Zm h2,Xb,Y3 h]
 rw [show ((i:Int)+(L:Int)).toNat=i+L by omega]
 by_cases g:i+L<=t.length
 ·rw [Y3 g,show i+L - i=L by omega]
 ·rw [XX (by omega),YN (by rw [Yi];omega),YN (by rw [Yi];omega)]
noncomputable def pt (t:Tx) (s e:Nat):Tx:=(t.drop s).take (e - s)
theorem q9 {a b:Ex} {η:Env} {m n:Md} {i j:Int} (h1:a η=some (m,.int i)) (h2:b η=some (n,.int j)) (h:(-4611686018427387904<=i/\i < 4611686018427387904)/\-4611686018427387904<=j/\j < 4611686018427387904):jI a b η=some (.fr,rng i (j - i).toNat):=by
 simp only [jI,h1,h2,Zu,int?]
 exact Zq h
theorem pa1 (bk:T) (n:Nat) (t:Tx) (s:Nat) (es:Wq):∀ (d:Fd) (N:Nat) (X:Tx->Prop) (z:Wm),PI d N X->(∀ e∈es,s < e/\e<=t.length)->N+es.length < 16000000 →
  ∃ d' z',forL (aT 5) dI (es.map fun (e:Nat)=>T.int (e:Int)) (EP bk d (Q0 n) (Q1 t) (Q0 s) z)=some (.nx (EP bk d' (Q0 n) (Q1 t) (Q0 s) z'))/\PI d' (N+es.length) fun w=>X w\/∃ e∈es,w=pt t s e:=by
 induction es with
 | nil=>exact fun d N X z h _ _=>⟨d,z,rfl,h.hd,h.sz,fun w=>(h.ks w).trans ⟨fun a=>a.imp id .inl,fun a=>a.imp id fun b=>b.elim id fun ⟨_,h,_⟩=>nomatch h⟩⟩
 | cons e es ih =>
  intro d N X z h he hN
  rw [Zn] at hN
  obtain ⟨h1,h2⟩:=he e Zx
  have cu:cut t (some (s:Int)) (some (e:Int))=pt t s e:=by
   have:=yW t s (e - s) (by omega)
   rwa [show ((s:Int)+((e - s:Nat):Int))=(e:Int) by omega] at this
  have ne:pt t s e ≠ []:=fun z=>by
   have:=congrArg List.length z
   unfold pt at this
   rw [YR,Yi] at this
   have:List.length ([]:Tx)=0:=rfl
   omega
  obtain ⟨d',z',ee,hz⟩:=ih _ (N+1) _ (Q0 e) (h.add ne (n,e)) (fun i hi=>he i (Zy _ hi)) (by omega)
  refine ⟨d',z',?_,hz.hd,by rw [Zn,show N+(es.length+1)=N+1+es.length by omega];exact hz.sz,fun w=>(hz.ks w).trans ?_⟩
  ·have bo:dI (EP bk d (Q0 n) (Q1 t) (Q0 s) (Q0 e))=some (.nx (EP bk (gy d (pt t s e) (n,e)) (Q0 n) (Q1 t) (Q0 s) (Q0 e))):=by
    unfold dI
    have:=uq (i:=1) (d:=d) (w:=pt t s e) (p:=(n,e)) (m:=.fr) (ck:=eSl (aa 3) (some (aa 4)) (some (aa 5))) (cv:=g9 (ab (aa 2) (ab (aa 5) aj))) (η:=EP bk d (Q0 n) (Q1 t) (Q0 s) (Q0 e)) rfl (by rw [← cu];rfl) (fun c=>rfl) (fun q hq=>by have:=h.sz.2 q hq;omega) (by have:=h.sz.1;omega)
    rw [this]
    rfl
   rw [Zl,dH rfl bo,ee]
  ·constructor
   ·rintro (a | (a | a) | ⟨e',h1,h2⟩)
    ·exact .inl a
    ·exact .inr (.inl a)
    ·exact .inr (.inr ⟨e,Zx,a⟩)
    ·exact .inr (.inr ⟨e',Zy _ h1,h2⟩)
   ·rintro (a | a | ⟨e',h3,h4⟩)
    ·exact .inl a
    ·exact .inr (.inl (.inl a))
    ·rcases Zo.mp h3 with rfl | h3
     ·exact .inr (.inl (.inr h4))
     ·exact .inr (.inr ⟨e',h3,h4⟩)
theorem pa2 (bk:T) (n:Nat) (t:Tx) (ht:t.length<=120) (ss:Wq):∀ (d:Fd) (N:Nat) (X:Tx->Prop) (z4 z5:Wm),PI d N X->(∀ s∈ss,s < t.length)->N+120 * ss.length < 16000000 →
  ∃ d' z4' z5',forL (aT 4) fB (ss.map fun (e:Nat)=>T.int (e:Int)) (EP bk d (Q0 n) (Q1 t) z4 z5)=some (.nx (EP bk d' (Q0 n) (Q1 t) z4' z5'))/\PI d' (N+120 * ss.length) fun w=>X w\/∃ s∈ss,∃ e,s < e/\e<=t.length/\w=pt t s e:=by
 induction ss with
 | nil=>exact fun d N X z4 z5 h _ _=>⟨d,z4,z5,rfl,h.hd,h.sz,fun w=>(h.ks w).trans ⟨fun a=>a.imp id .inl,fun a=>a.imp id fun b=>b.elim id fun ⟨_,h,_⟩=>nomatch h⟩⟩
 | cons s ss ih =>
  intro d N X z4 z5 h hs hN
  rw [Zn] at hN
  have h1:=hs s Zx
  obtain ⟨d1,y5,e1,p1⟩:=pa1 bk n t s ((List.range (t.length - s)).map fun k=>s+1+k) d N X z5 h (fun e he=>by
   obtain ⟨k,hk,rfl⟩:=ZF.mp he
   have:=Yu.mp hk
   omega) (by rw [Zv,ZR];omega)
  rw [Zv,ZR] at p1
  have p1':PI d1 (N+120) _:=⟨p1.hd,⟨by have:=p1.sz.1;omega,fun q hq=>by have:=p1.sz.2 q hq;omega⟩,p1.ks⟩
  obtain ⟨d',z4',z5',ee,hz⟩:=ih d1 (N+120) _ (Q0 s) y5 p1' (fun i hi=>hs i (Zy _ hi)) (by omega)
  refine ⟨d',z4',z5',?_,hz.hd,by rw [Zn,show N+120 * (ss.length+1)=N+120+120 * ss.length by omega];exact hz.sz,fun w=>(hz.ks w).trans ?_⟩
  ·have bo:fB (EP bk d (Q0 n) (Q1 t) (Q0 s) z5)=some (.nx (EP bk d1 (Q0 n) (Q1 t) (Q0 s) y5)):=by
    refine (dk (m:=.fr) ?_ rfl).trans e1
    rw [q9 (i:=(s:Int)+1) (j:=(t.length:Int)+1) (m:=.fr) (n:=.fr) rfl rfl (by omega),show ((t.length:Int)+1 - ((s:Int)+1)).toNat=t.length - s by omega]
    unfold rng
    rw [Z5]
    congr 2
   rw [Zl,dH rfl bo,ee]
  ·constructor
   ·rintro (a | (a | ⟨e,h2,h3⟩) | ⟨s',h2,h3⟩)
    ·exact .inl a
    ·exact .inr (.inl a)
    ·obtain ⟨k,hk,rfl⟩:=ZF.mp h2
     have:=Yu.mp hk
     exact .inr (.inr ⟨s,Zx,_,by omega,by omega,h3⟩)
    ·exact .inr (.inr ⟨s',Zy _ h2,h3⟩)
   ·rintro (a | a | ⟨s',h2,e,h3,h4,h5⟩)
    ·exact .inl a
    ·exact .inr (.inl (.inl a))
    ·rcases Zo.mp h2 with rfl | h2
     ·exact .inr (.inl (.inr ⟨e,ZF.mpr ⟨e - s' - 1,Yu.mpr (by omega),by omega⟩,h5⟩))
     ·exact .inr (.inr ⟨s',h2,e,h3,h4,h5⟩)
theorem yo (l:List Pl):dv (l.map tP)=true:=jC tP (fun _=>rfl) l
theorem pa3 (bk:T) (n:Nat) (t:Tx) (ht:t.length<=120) (d:Fd) (N:Nat) (X:Tx->Prop) (z4 z5:Wm) (h:PI d N X) (hN:N+20000 < 16000000) :
  ∃ d' z4' z5',ft (EP bk d (Q0 n) (Q1 t) z4 z5)=some (.nx (EP bk d' (Q0 n) (Q1 t) z4' z5'))/\PI d' (N+20000) fun w=>X w\/∃ s e,s < e/\e<=t.length/\w=pt t s e:=by
 obtain ⟨l,d0,rfl,hd0⟩:=h.hd
 have hll:l.length<=N:=h.sz.2 _ Zx
 have v1:e2 oIx (aa 1) (eC (.str [])) (EP bk (([],l) :: d0) (Q0 n) (Q1 t) z4 z5)=some (.bo,.lst (l.map tP)):=rfl
 have v2:=iG (k:=1) (tg:=aT 0) (it:=bH (e2 aS (eN cK (ab (aa 3) aj)) (Q2 1))) (elt:=g9 (ab (aa 3) (ab (aa 0) aj))) (m:=.fr) (η:=EP bk (([],l) :: d0) (Q0 n) (Q1 t) z4 z5) (fun (j:Nat)=>T.int (j:Int)) (fun j=>tP (n,j)) (List.range (t.length+1)) (by
   rw [dU (m:=.fr) (j:=(t.length:Int)+1) rfl (by omega),gk]
   rfl) rfl (by rw [ZR];omega) fun j hj=>⟨_,rfl,rfl⟩
 have v3:e2 aS (e2 oIx (aa 1) (eC (.str []))) (dE 1 (aT 0) (bH (e2 aS (eN cK (ab (aa 3) aj)) (Q2 1))) none (g9 (ab (aa 3) (ab (aa 0) aj)))) (EP bk (([],l) :: d0) (Q0 n) (Q1 t) z4 z5)=some (.fr,.lst ((l++(List.range (t.length+1)).map fun j=>(n,j)).map tP)):=by
  refine e2v v1 v2 ?_
  show mkL _ (l.map tP++(List.range (t.length+1)).map fun j=>tP (n,j))=_
  rw [show l.map tP++(List.range (t.length+1)).map (fun j=>tP (n,j))=(l++(List.range (t.length+1)).map fun j=>(n,j)).map tP from by rw [Z3,Z5];rfl,kY (by rw [Zv,Zt,Zv,ZR];omega),Zq (yo _)]
 generalize hL:(l++(List.range (t.length+1)).map fun j=>(n,j))=l2 at v3
 have hl2:l2.length<=N+121:=by rw [← hL,Zt,Zv,ZR];omega
 have s1:pB 1 (eC (.str [])) (e2 aS (e2 oIx (aa 1) (eC (.str []))) (dE 1 (aT 0) (bH (e2 aS (eN cK (ab (aa 3) aj)) (Q2 1))) none (g9 (ab (aa 3) (ab (aa 0) aj))))) (EP bk (([],l) :: d0) (Q0 n) (Q1 t) z4 z5)=some (.nx (EP bk (([],l2) :: d0) (Q0 n) (Q1 t) z4 z5)):=by
  unfold pB
  rw [v3]
  show (if eY (.str [])=true/\eqT (.str []) (.str [])=true/\((dT d0).all fun p=>!eqT p.1 (.str []))=true/\(dT d0).length+1 < 16777216 then _ else _)=_
  refine Zq ⟨rfl,rfl,Yx.mpr fun p hp=>?_,?_⟩
  ·obtain ⟨q,hq,rfl⟩:=ZF.mp hp
   have:eqT (T.str q.1) (.str [])=false:=by simpa using hd0 q hq
   show (!eqT (T.str q.1) (.str []))=true
   rw [this]
   rfl
  ·have:=h.sz.1
   unfold dT
   rw [Zv]
   rw [Zn] at this
   omega
 have p1:PI (([],l2) :: d0) (N+121) X:=⟨⟨l2,d0,rfl,hd0⟩,⟨by have:=h.sz.1;rw [Zn] at this ⊢;omega,fun q hq=>by
  rcases Zo.mp hq with rfl | hq
  ·exact hl2
  ·have:=h.sz.2 q (Zy _ hq)
   omega⟩,fun w=>by
  rw [← h.ks w]
  constructor
  ·rintro ⟨q,hq,e⟩
   rcases Zo.mp hq with rfl | hq
   ·exact ⟨_,Zx,e⟩
   ·exact ⟨q,Zy _ hq,e⟩
  ·rintro ⟨q,hq,e⟩
   rcases Zo.mp hq with rfl | hq
   ·exact ⟨_,Zx,e⟩
   ·exact ⟨q,Zy _ hq,e⟩⟩
 obtain ⟨d',z4',z5',e1,p2⟩:=pa2 bk n t ht (List.range t.length) (([],l2) :: d0) (N+121) X z4 z5 p1 (fun s hs=>Yu.mp hs) (by rw [ZR];omega)
 rw [ZR] at p2
 refine ⟨d',z4',z5',(af s1).trans ((dk (m:=.fr) ?_ rfl).trans e1),p2.hd,⟨by have:=p2.sz.1;omega,fun q hq=>by have:=p2.sz.2 q hq;omega⟩,fun w=>(p2.ks w).trans ?_⟩
 ·rw [dU (m:=.fr) (j:=(t.length:Int)) rfl (by omega),gk]
  rfl
 ·constructor
  ·rintro (a | a | ⟨s,_,e,h1,h2,h3⟩)
   ·exact .inl a
   ·exact .inr (.inl a)
   ·exact .inr (.inr ⟨s,e,h1,h2,h3⟩)
  ·rintro (a | a | ⟨s,e,h1,h2,h3⟩)
   ·exact .inl a
   ·exact .inr (.inl a)
   ·exact .inr (.inr ⟨s,Yu.mpr (by omega),e,h1,h2,h3⟩)
theorem pa4 (bk:T) (l:List Tx):∀ (n:Nat) (d:Fd) (N:Nat) (X:Tx->Prop) (z2 z3 z4 z5:Wm),(∀ t∈l,t.length<=120)->PI d N X->N+20000 * l.length < 16000000 →
  ∃ d' z2' z3' z4' z5',forL (t4 [aT 2,aT 3]) ft ((l.zipIdx n).map fun p=>T.tup [.int p.2,.str p.1]) (EP bk d z2 z3 z4 z5)=some (.nx (EP bk d' z2' z3' z4' z5'))/\PI d' (N+20000 * l.length) fun w=>X w\/∃ t∈l,∃ s e,s < e/\e<=t.length/\w=pt t s e:=by
 induction l with
 | nil=>exact fun n d N X z2 z3 z4 z5 _ h _=>⟨d,z2,z3,z4,z5,rfl,h.hd,h.sz,fun w=>(h.ks w).trans ⟨fun a=>a.imp id .inl,fun a=>a.imp id fun b=>b.elim id fun ⟨_,h,_⟩=>nomatch h⟩⟩
 | cons t l ih =>
  intro n d N X z2 z3 z4 z5 ht h hN
  rw [Zn] at hN
  obtain ⟨d1,y4,y5,e1,h1⟩:=pa3 bk n t (ht t Zx) d N X z4 z5 h (by omega)
  obtain ⟨d',x2,x3,x4,x5,ee,hz⟩:=ih (n+1) d1 (N+20000) _ (Q0 n) (Q1 t) y4 y5 (fun s hs=>ht s (Zy _ hs)) h1 (by omega)
  refine ⟨d',x2,x3,x4,x5,?_,hz.hd,by rw [Zn,show N+20000 * (l.length+1)=N+20000+20000 * l.length by omega];exact hz.sz,fun w=>(hz.ks w).trans ?_⟩
  ·rw [List.zipIdx_cons,Zl,dH (η1:=EP bk d (Q0 n) (Q1 t) z4 z5) rfl e1,ee]
  ·constructor
   ·rintro (a | (a | a) | ⟨u,h2,h3⟩)
    ·exact .inl a
    ·exact .inr (.inl a)
    ·exact .inr (.inr ⟨t,Zx,a⟩)
    ·exact .inr (.inr ⟨u,Zy _ h2,h3⟩)
   ·rintro (a | a | ⟨u,h2,h3⟩)
    ·exact .inl a
    ·exact .inr (.inl (.inl a))
    ·rcases Zo.mp h2 with rfl | h2
     ·exact .inr (.inl (.inr h3))
     ·exact .inr (.inr ⟨u,h2,h3⟩)
noncomputable def Pt (bk:List Tx) (w:Tx):Prop:=w=[]\/∃ t∈bk,w <:+: t
theorem vd (t:Tx) (s e:Nat):pt t s e <:+: t:=(List.take_prefix _ _).isInfix.trans (List.drop_suffix _ _).isInfix
theorem uL (d:Fd) (w:Tx):(cL (dT d) (.str w)).isSome=true ↔ ∃ q∈d,q.1=w:=by
 unfold cL dT
 rw [Yl,Wz]
 constructor
 ·rintro ⟨p,hp,e⟩
  obtain ⟨q,hq,rfl⟩:=ZF.mp hp
  exact ⟨q,hq,by simpa using e⟩
 ·rintro ⟨q,hq,rfl⟩
  exact ⟨_,ZF.mpr ⟨q,hq,rfl⟩,by simp⟩
theorem yp (bk:List Tx) (h8:bk.length<=8) (hb:∀ t∈bk,t.length<=120):∃ d:Fd,ed [.lst (bk.map .str)]=some (.fr,.dct 0 (dT d))/\∀ w,(cL (dT d) (.str w)).isSome=true ↔ Pt bk w:=by
 obtain ⟨d,z2,z3,z4,z5,e,p⟩:=pa4 (.lst (bk.map .str)) bk 0 [([],[])] 1 (fun _=>False) none none none none hb ⟨⟨[],[],rfl,fun _ h=>nomatch h⟩,⟨Zg _,fun q hq=>by rw [Zj.mp hq];exact Yt _⟩,fun w=>⟨fun ⟨q,hq,e⟩=>.inl (by rw [Zj.mp hq] at e;exact e.symm),fun a=>a.elim (fun a=>⟨_,Zj.mpr rfl,a.symm⟩) False.elim⟩⟩ (by omega)
 refine ⟨d,?_,fun w=>(uL d w).trans ((p.ks w).trans ?_)⟩
 ·refine ic (η:=[pc (.lst (bk.map .str)),none,z2,z3,z4,z5]) rfl ((af (η1:=EP (.lst (bk.map .str)) [([],[])] none none none none) rfl).trans ((af ((dk (m:=.pu) (l:=(bk.zipIdx 0).map fun p=>T.tup [.int p.2,.str p.1]) ?_ rfl).trans e)).trans rfl))
  rw [← enum_zip]
  rfl
 ·constructor
  ·rintro (a | a | ⟨t,ht,s,e,_,_,rfl⟩)
   ·exact .inl a
   ·exact a.elim
   ·exact .inr ⟨t,ht,vd t s e⟩
  ·rintro (a | ⟨t,ht,a,b,rfl⟩)
   ·exact .inl a
   ·by_cases hw:w=[]
    ·exact .inl hw
    ·refine .inr (.inr ⟨_,ht,a.length,a.length+w.length,?_,by rw [Zt,Zt];omega,?_⟩)
     ·have:=List.length_pos_iff.mpr hw
      omega
     ·unfold pt
      rw [ZJ,List.drop_left,Nat.add_sub_cancel_left,List.take_left]
end T37
end
section
namespace T37
open VS AU
theorem js {c:Ex} {body:Sx} {n:Nat} {η η':Env} {m:Md} (h1:c η=some (m,.bl true)) (h2:body η=some (.nx η')):cX c body (n+1) η=cX c body n η':=by
 show (c η).bind _=_
 rw [h1]
 show (if true=true then (body η).bind _ else some (.nx η))=_
 rw [Zq rfl,h2]
 rfl
theorem fL {c:Ex} {body:Sx} {n:Nat} {η:Env} {m:Md} (h1:c η=some (m,.bl false)):cX c body (n+1) η=some (.nx η):=by
 show (c η).bind _=_
 rw [h1]
 rfl
theorem gZ {mv:List Bool} {g:Mt} {as:Exs} {xs:Wk} {S S':St} {v:T} {b:Bool} {r:List (Wm)} (ha:as (oc (obT S b) :: r)=some xs) (hao:argsOk mv xs=true) (hno:aY (trees xs)=true) (hg:g (fsT S) (trees xs)=some (fsT S',v)) (hv:imm v=true) :
  bR 0 [] 0 mv g as (oc (obT S b) :: r)=some ((.fr,v),oc (obT S' b) :: r):=by
 show ((some ([]:List Ky)).bind fun ks=>(as (oc (obT S b) :: r)).bind fun xs=>(pm (tm 0 mv g xs) ks (obT S b)).map fun z=>(z.2,(oc (obT S b) :: r).set 0 (oc z.1)))=_
 rw [Zu,ha,Zu]
 show ((if 1=0+1/\fP (fsT S)=true/\argsOk mv xs=true/\aY (trees xs)=true then (g (fsT S) (trees xs)).bind fun z=>if fP z.1=true/\imm z.2=true then some (T.obj 1 ((0,.bl b) :: z.1),(Md.fr,z.2)) else none else none).map _)=_
 rw [Zq ⟨rfl,kF S,hao,hno⟩,hg,Zu,Zq ⟨kF S',hv⟩]
 rfl
theorem A6 {e:Ex} {S:St} {b:Bool} {r:List (Wm)} {v:Nat} (h:e (oc (obT S b) :: r)=some (.fr,.int (v:Int))) (hl:S.lg.length < 16777216):sX (kz 0 [.fld 1] aH (ab e aj)) (oc (obT S b) :: r)=some (.nx (oc (obT ⟨S.lg++[v],S.lk,S.wy⟩ b) :: r)):=by
 show (((some [Ky.fld 1]).bind fun ks=>(ab e aj (oc (obT S b) :: r)).bind fun xs=>(pm (fun x=>aH x xs) ks (obT S b)).map _).map _)=_
 rw [Zu,xv (r:=aj) h rfl,Zu]
 show (((aH (.lst (S.lg.map fun (n:Nat)=>T.int (n:Int))) [(.fr,.int (v:Int))]).map _).map _ |>.map _)=_
 rw [dr (by rw [Zv];exact hl),show (S.lg.map fun (n:Nat)=>T.int (n:Int))++[.int (v:Int)]=(S.lg++[v]).map fun (n:Nat)=>T.int (n:Int) from by rw [Z3];rfl]
 rfl
theorem BC {e:Ex} {S:St} {b:Bool} {r:List (Wm)} {v:Option Nat} (h:e (oc (obT S b) :: r)=some (.fr,lkT v)) (hl:S.lk.length < 16777216):sX (kz 0 [.fld 2] aH (ab e aj)) (oc (obT S b) :: r)=some (.nx (oc (obT ⟨S.lg,S.lk++[v],S.wy⟩ b) :: r)):=by
 show (((some [Ky.fld 2]).bind fun ks=>(ab e aj (oc (obT S b) :: r)).bind fun xs=>(pm (fun x=>aH x xs) ks (obT S b)).map _).map _)=_
 rw [Zu,xv (r:=aj) h rfl,Zu]
 show (((aH (.lst (S.lk.map lkT)) [(.fr,lkT v)]).map _).map _ |>.map _)=_
 rw [dr (by rw [Zv];exact hl),show (S.lk.map lkT)++[lkT v]=(S.lk++[v]).map lkT from by rw [Z3];rfl]
 rfl
theorem As (o:Option Nat):up .pu (lkT o)=(.fr,lkT o):=by
 unfold up
 rw [j3]
 rfl
theorem uV (S:St) (l:Nat) (o:Option Nat) (w:List (Nat×Nat)) (h1:S.lg.length < 16777216) (h2:S.lk.length < 16777216) (h3:S.wy.length < 16777216):aG (fsT S) [.int (l:Int),lkT o,wT' w]=some (fsT ⟨S.lg++[l],S.lk++[o],S.wy++[w]⟩,.int (S.lg.length:Int)):=by
 have a1:=A6 (S:=S) (b:=true) (r:=[Q0 (l:Int),pc (lkT o),oc (wT' w)]) (e:=aa 1) (v:=l) rfl h1
 have a2:=BC (S:=⟨S.lg++[l],S.lk,S.wy⟩) (b:=true) (r:=[Q0 (l:Int),pc (lkT o),oc (wT' w)]) (e:=aa 2) (v:=o) (congrArg some (As o)) h2
 have a3:lM 0 [.fld 3] 3 [oc (obT ⟨S.lg++[l],S.lk++[o],S.wy⟩ true),Q0 (l:Int),pc (lkT o),oc (wT' w)]=some (.nx [oc (obT ⟨S.lg++[l],S.lk++[o],S.wy++[w]⟩ true),Q0 (l:Int),pc (lkT o),none]):=by
  show ((aH (.lst (S.wy.map wT')) [(.fr,wT' w)]).map _ |>.map _)=_
  rw [dr (by rw [Zv];exact h3),show (S.wy.map wT')++[wT' w]=(S.wy++[w]).map wT' from by rw [Z3];rfl]
  rfl
 have a4:=fU (e:=e2 vR (eN cK (ab (bq 1 (aa 0)) aj)) (Q2 1)) (η:=[oc (obT ⟨S.lg++[l],S.lk++[o],S.wy++[w]⟩ true),Q0 (l:Int),pc (lkT o),none]) (t:=.int (S.lg.length:Int)) (e2v (BE (m:=.bo) rfl) rfl (by
  show some (Md.fr,T.int ((((S.lg++[l]).length:Nat):Int) - 1))=_
  rw [Zt,ZI,show (((S.lg.length+1:Nat)):Int) - 1=(S.lg.length:Int) by omega]))
 unfold aG mfn
 rw [Zq ⟨rfl,rfl⟩]
 have body:=(af (b:=ak (sX (kz 0 [.fld 2] aH (ab (aa 2) aj))) (ak (lM 0 [.fld 3] 3) (gp (e2 vR (eN cK (ab (bq 1 (aa 0)) aj)) (Q2 1))))) a1).trans ((af a2).trans ((af a3).trans a4))
 exact congrArg (fun z:Option Out=>z.bind _) body
theorem BP {c old v:Nat} (hc:97<=c/\c<=122):∀ (k:Nat) (S S':St) (o:Option Nat),WF S->v < S.lg.length->(∀ n,o=some n->n < S.lg.length)->up2 c old v k S o=some S'->WF S'/\S'.lg=S.lg/\∃ o',∀ N,k < N->∀ z:Wm,
  cX (lS (gr (aa 1)) (e2 oEq (e2 t9 (e2 aE (bq 3 (aa 0)) (aa 1)) (aa 2)) (aa 3))) bw N [oc (obT S true),pc (lkT o),Q1 ([c]),Q0 (old:Int),z,Q0 (v:Int)] =
   some (.nx [oc (obT S' true),pc (lkT o'),Q1 ([c]),Q0 (old:Int),z,Q0 (v:Int)]):=by
 intro k
 induction k with
 | zero =>
  intro S S' o W hv ho e
  cases o with
  | none =>
   cases (show some S=some S' from e)
   refine ⟨W,rfl,none,fun N hN z=>?_⟩
   obtain ⟨N,rfl⟩:∃ M,N=M+1:=⟨N - 1,by omega⟩
   exact fL (m:=.fr) rfl
  | some n=>cases e
 | succ k ih =>
  intro S S' o W hv ho e
  cases o with
  | none =>
   cases (show some S=some S' from e)
   refine ⟨W,rfl,none,fun N hN z=>?_⟩
   obtain ⟨N,rfl⟩:∃ M,N=M+1:=⟨N - 1,by omega⟩
   exact fL (m:=.fr) rfl
  | some n =>
   have hn:=ho n rfl
   have hnw:n < S.wy.length:=by rw [W.wy];exact hn
   have cond:∀ z:Wm,lS (gr (aa 1)) (e2 oEq (e2 t9 (e2 aE (bq 3 (aa 0)) (aa 1)) (aa 2)) (aa 3)) [oc (obT S true),Q0 (n:Int),Q1 ([c]),Q0 (old:Int),z,Q0 (v:Int)]=some (.fr,.bl (decide (gW (S.wy.getD n []) c=some old))):=fun z=>by
    refine xk (m:=.fr) (x:=true) rfl (fun _=>?_) (fun h=>by cases h)
    refine e2v (Dc (m:=.bo) (k8 (m:=.bo) (n:=.fr) rfl rfl hnw) (n:=.fr) rfl) (y:=(.fr,.int (old:Int))) rfl ?_
    cases hg:gW (S.wy.getD n []) c with
    | none=>rw [ZU (by simp)];exact mP rfl rfl rfl
    | some q =>
     refine (mP rfl rfl (show eqT (.int (q:Int)) (.int (old:Int))=decide (some q=some old) from ?_))
     simp only [eqT]
     by_cases h:q=old
     ·subst h;simp
     ·have h1:¬ (q:Int)=(old:Int):=by omega
      have h2:¬ some q=some old:=fun z=>h (Zk z)
      rw [ZU h2]
      exact ZO.mpr h1
   unfold up2 at e
   split at e
   ·rename_i hq
    have W':=W.way (n:=n) (c:=c) (v:=v) hv hc
    obtain ⟨w1,w2,o',w3⟩:=ih _ S' (S.lk.getD n none) W' hv (fun m hm=>W.up n m hm) e
    refine ⟨w1,w2,o',fun N hN z=>?_⟩
    obtain ⟨N,rfl⟩:∃ M,N=M+1:=⟨N - 1,by omega⟩
    refine (js (m:=.fr) ((cond z).trans (by rw [decide_eq_true hq])) ?_).trans (w3 N (by omega) z)
    unfold bw
    refine (af (uP (S:=S) (i:=n) (n:=.fr) (m:=.fr) (k:=.fr) (c:=c) (v:=v) hnw rfl rfl rfl (W.small n))).trans ?_
    have hlk:n < S.lk.length:=by rw [W.lk];exact hn
    exact aQ (m:=.fr) (t:=lkT (S.lk.getD n none)) (tK (S:=⟨S.lg,S.lk,S.wy.set n (pW (S.wy.getD n []) c v)⟩) (m:=.bo) (n:=.fr) rfl rfl hlk) (by decide) (by decide:1 < 6)
   ·rename_i hq
    cases e
    refine ⟨W,rfl,some n,fun N hN z=>?_⟩
    obtain ⟨N,rfl⟩:∃ M,N=M+1:=⟨N - 1,by omega⟩
    exact fL (m:=.fr) ((cond z).trans (by rw [ZU hq]))
end T37
end
section
namespace T37
open VS
noncomputable def bf (P:Tx->Bool) (ls:Tx):Nat->List Tx->Option Tx
 | 0,_=>none
 | _+1,[]=>none
 | n+1,w :: q=>match ls.find? fun c=>!P (w++[c]) with
  | some c=>some (w++[c])
  | none=>bf P ls n (q++ls.map fun c=>w++[c])
noncomputable def ext (ls:Tx) (l:List Tx):List Tx:=l.flatMap fun w=>ls.map fun c=>w++[c]
theorem ext_mem {ls:Tx} {l:List Tx} {x:Tx}:x∈ext ls l ↔ ∃ w∈l,∃ c∈ls,x=w++[c]:=by
 unfold ext
 rw [Ws]
 constructor
 ·rintro ⟨w,hw,h⟩
  obtain ⟨c,hc,rfl⟩:=ZF.mp h
  exact ⟨w,hw,c,hc,rfl⟩
 ·rintro ⟨w,hw,c,hc,rfl⟩
  exact ⟨w,hw,ZF.mpr ⟨c,hc,rfl⟩⟩
theorem mS {ls:Tx} (hn:ls.Nodup):∀ {l:List Tx},l.Nodup->(ext ls l).Nodup
 | [],_=>Z1
 | w :: l,h=>by
  have h':=Zh.mp h
  show ((ls.map fun c=>w++[c])++ext ls l).Nodup
  refine ZX.mpr ⟨List.Pairwise.map (fun c=>w++[c]) (fun a b hab e=>hab (by simpa using e)) hn,mS hn h'.2,fun a ha b hb e=>?_⟩
  subst e
  obtain ⟨c,_,rfl⟩:=ZF.mp ha
  obtain ⟨v,hv,d,_,e⟩:=ext_mem.mp hb
  have:=(List.append_inj' e rfl).1
  exact h'.1 (this ▸ hv)
theorem rX (ls:Tx):∀ l:List Tx,(ext ls l).length=ls.length * l.length
 | []=>rfl
 | w :: l=>by
  show ((ls.map fun c=>w++[c])++ext ls l).length=_
  rw [Zt,Zv,rX ls l,Zn,Nat.mul_succ,X7]
theorem Av {P:Tx->Bool} {ls:Tx} (hl:0 < ls.length) (hn:ls.Nodup) (L:List Tx) (hP:∀ w,P w=true->w∈L):∀ (n:Nat) (l q:List Tx),l++q=[] :: ext ls l->(l++q).Nodup->(∀ w∈l++q,P w=true)->bf P ls n q=none->l.length+n<=L.length:=by
 intro n
 induction n with
 | zero =>
  intro l q e nd hp _
  have:=AU.sub_len _ L nd fun x hx=>hP x (hp x hx)
  rw [Zt] at this
  omega
 | succ n ih =>
  intro l q e nd hp h
  cases q with
  | nil =>
   have:=congrArg List.length e
   rw [ZK,Zn,rX] at this
   have:1 * l.length<=ls.length * l.length:=XJ _ hl
   omega
  | cons w q =>
   unfold bf at h
   split at h
   ·cases h
   ·rename_i hf
    have e2:(l++[w])++(q++ls.map fun c=>w++[c])=[] :: ext ls (l++[w]):=by
     unfold ext
     rw [List.flatMap_append,← YQ]
     show _=([] :: ext ls l)++_
     rw [← e]
     simp
    have hp2:∀ v∈(l++[w])++(q++ls.map fun c=>w++[c]),P v=true:=fun v hv=>by
     have:v∈(l++w :: q)++ls.map fun c=>w++[c]:=by simpa using hv
     rcases Ze.mp this with z | z
     ·exact hp v z
     ·obtain ⟨c,hc,rfl⟩:=ZF.mp z
      have:=Y6.mp hf c hc
      simpa using this
    have nd1:(l++[w]).Nodup:=nd.sublist (by
     rw [show l++w :: q=(l++[w])++q from by simp]
     exact Xa _ _)
    have:=ih (l++[w]) _ e2 (by
     rw [e2]
     refine Zh.mpr ⟨fun z=>?_,mS hn nd1⟩
     obtain ⟨v,_,c,_,e⟩:=ext_mem.mp z
     have:=congrArg List.length e
     simp at this) hp2 h
    rw [Zt,ZI] at this
    omega
theorem yr {P:Tx->Bool} {ls:Tx} (hl:0 < ls.length) (hn:ls.Nodup) (L:List Tx) (hP:∀ w,P w=true->w∈L) (h0:P []=true):∃ x,bf P ls (L.length+1) [[]]=some x:=by
 cases h:bf P ls (L.length+1) [[]] with
 | some x=>exact ⟨x,rfl⟩
 | none =>
  have:=Av hl hn L hP (L.length+1) [] [[]] rfl (Zh.mpr ⟨(fun z=>nomatch z),Z1⟩) (fun w hw=>by rw [Zj.mp hw];exact h0) h
  simp at this
  omega
theorem C4 {P:Tx->Bool} {ls:Tx} {x:Tx}:∀ (n:Nat) (q:List Tx),(∀ w∈q,P w=true)->bf P ls n q=some x->P x=false/\∃ w c,P w=true/\c∈ls/\x=w++[c]:=by
 intro n
 induction n with
 | zero=>intro q _ h;cases h
 | succ n ih =>
  intro q hq h
  cases q with
  | nil=>cases h
  | cons w q =>
   unfold bf at h
   split at h
   ·rename_i c hc
    cases h
    have h1:=List.find?_some hc
    exact ⟨by simpa using h1,w,c,hq w Zx,List.mem_of_find?_eq_some hc,rfl⟩
   ·rename_i hf
    refine ih _ (fun v hv=>?_) h
    rcases Ze.mp hv with z | z
    ·exact hq v (Zy _ z)
    ·obtain ⟨c,hc,rfl⟩:=ZF.mp z
     have:=Y6.mp hf c hc
     simpa using this
theorem pT {c:Ex} {body:Sx} {n:Nat} {η η':Env} {m:Md} {v:Val} (h1:c η=some (m,.bl true)) (h2:body η=some (.rt v η')):cX c body (n+1) η=some (.rt v η'):=by
 unfold cX
 rw [h1]
 show (body η).bind _=_
 rw [h2]
 rfl
section
variable {D:List (T×T)} {P:Tx->Bool} (hD:∀ w,(cL D (.str w)).isSome=P w) (hP:∀ w,P w=true->w.length<=1000)
noncomputable abbrev ED (D:List (T×T)) (ls:Tx) (front:T) (fresh:Wm) (z4 z5:Wm):Env:=[pc (.dct 0 D),Q1 ls,pc front,fresh,z4,z5]
include hD
theorem du1 (ls0:Tx) (fr:T) (w:Tx) (hw:w.length<=1000):∀ (ls:Tx) (acc:List Tx) (z:Wm),acc.length+ls.length < 16000000 →
  (∀ c,(ls.find? fun c=>!P (w++[c]))=some c->∃ η',forL (aT 5) cp (ls.map s1) (ED D ls0 fr (oc (.lst (acc.map .str))) (Q1 w) z)=some (.rt (.fr,.str (w++[c])) η')) ∧
  ((ls.find? fun c=>!P (w++[c]))=none->∃ z',forL (aT 5) cp (ls.map s1) (ED D ls0 fr (oc (.lst (acc.map .str))) (Q1 w) z)=some (.nx (ED D ls0 fr (oc (.lst ((acc++ls.map fun c=>w++[c]).map .str))) (Q1 w) z'))):=by
 intro ls
 induction ls with
 | nil=>exact fun acc z _=>⟨(fun c h=>by cases h),fun _=>⟨z,by rw [YB,YB,ZK];rfl⟩⟩
 | cons c ls ih =>
  intro acc z hl
  rw [Zn] at hl
  have ad:e2 aS (aa 4) (aa 5) (ED D ls0 fr (oc (.lst (acc.map .str))) (Q1 w) (pc (s1 c)))=some (.fr,.str (w++[c])):=wG (m:=.fr) (n:=.fr) rfl rfl (by show w.length+1<=16777216;omega)
  have ni:e2 bT (e2 aS (aa 4) (aa 5)) (aa 0) (ED D ls0 fr (oc (.lst (acc.map .str))) (Q1 w) (pc (s1 c)))=some (.fr,.bl (!P (w++[c]))):=by
   refine e2v (y:=(.pu,.dct 0 D)) ad rfl ?_
   rw [← hD]
   rfl
  cases hp:P (w++[c]) with
  | false =>
   rw [hp] at ni
   refine ⟨fun c' h=>?_,fun h=>?_⟩
   ·rw [ZL,hp] at h
    cases h
    exact ⟨_,oF rfl (eV ((j6 ni).trans (fU ad)))⟩
   ·rw [ZL,hp] at h
    cases h
  | true =>
   rw [hp] at ni
   obtain ⟨i1,i2⟩:=ih (acc++[w++[c]]) (pc (s1 c)) (by rw [Zt,ZI];omega)
   have bo:cp (ED D ls0 fr (oc (.lst (acc.map .str))) (Q1 w) (pc (s1 c)))=some (.nx (ED D ls0 fr (oc (.lst ((acc++[w++[c]]).map .str))) (Q1 w) (pc (s1 c)))):=by
    refine (af ((iZ ni).trans rfl)).trans ((nZ (i:=3) (l:=acc.map T.str) rfl ad (by rw [Zv];omega)).trans ?_)
    rw [Z3]
    rfl
   have st:∀ z,forL (aT 5) cp ((c :: ls).map s1) (ED D ls0 fr (oc (.lst (acc.map .str))) (Q1 w) z)=forL (aT 5) cp (ls.map s1) (ED D ls0 fr (oc (.lst ((acc++[w++[c]]).map .str))) (Q1 w) (pc (s1 c))):=fun z=>dH rfl bo
   rw [st,ZL,hp]
   refine ⟨i1,fun h=>?_⟩
   obtain ⟨z',e⟩:=i2 h
   refine ⟨z',e.trans ?_⟩
   rw [Zl,ZJ]
   rfl
include hP
theorem du2 (ls:Tx) (h26:ls.length<=26) (fr:T) {x:Tx}:∀ (rest acc:List Tx) (n:Nat) (z4 z5:Wm),(∀ w∈rest++acc,P w=true)->rest.length+acc.length+26 * n < 16000000->bf P ls n (rest++acc)=some x →
  (∃ η',forL (aT 4) bL (rest.map .str) (ED D ls fr (oc (.lst (acc.map .str))) z4 z5)=some (.rt (.fr,.str x) η')) ∨
  ∃ acc' n' z4' z5',forL (aT 4) bL (rest.map .str) (ED D ls fr (oc (.lst (acc.map .str))) z4 z5)=some (.nx (ED D ls fr (oc (.lst (acc'.map .str))) z4' z5'))/\bf P ls n' acc'=some x/\n'+rest.length=n/\acc'.length+26 * n' < 16000000/\∀ w∈acc',P w=true:=by
 intro rest
 induction rest with
 | nil=>exact fun acc n z4 z5 hp hb h=>.inr ⟨acc,n,z4,z5,rfl,h,rfl,by simpa using hb,hp⟩
 | cons w rest ih =>
  intro acc n z4 z5 hp hb h
  cases n with
  | zero=>cases h
  | succ n =>
   rw [Zn] at hb
   obtain ⟨i1,i2⟩:=du1 hD ls fr w (hP w (hp w Zx)) ls acc z5 (by omega)
   have bo:∀ z,bL (ED D ls fr (oc (.lst (acc.map .str))) (Q1 w) z)=forL (aT 5) cp (ls.map s1) (ED D ls fr (oc (.lst (acc.map .str))) (Q1 w) z):=fun z=>dk (m:=.fr) rfl rfl
   rw [YQ] at h
   unfold bf at h
   cases hf:(ls.find? fun c=>!P (w++[c])) with
   | some c =>
    rw [hf] at h
    cases h
    obtain ⟨η',e⟩:=i1 c hf
    exact .inl ⟨η',oF rfl ((bo z5).trans e)⟩
   | none =>
    rw [hf] at h
    obtain ⟨z',e⟩:=i2 hf
    have h':bf P ls n (rest++(acc++ls.map fun c=>w++[c]))=some x:=by rw [← ZJ];exact h
    have st:forL (aT 4) bL ((w :: rest).map .str) (ED D ls fr (oc (.lst (acc.map .str))) z4 z5)=forL (aT 4) bL (rest.map .str) (ED D ls fr (oc (.lst ((acc++ls.map fun c=>w++[c]).map .str))) (Q1 w) z'):=dH rfl ((bo z5).trans e)
    rw [st]
    rcases ih (acc++ls.map fun c=>w++[c]) n (Q1 w) z' (fun v hv=>by
     have:v∈(rest++acc)++ls.map fun c=>w++[c]:=by rw [ZJ];exact hv
     rcases Ze.mp this with z | z
     ·exact hp v (Zy _ z)
     ·obtain ⟨c,hc,rfl⟩:=ZF.mp z
      have:=Y6.mp hf c hc
      simpa using this) (by rw [Zt,Zv];omega) h' with a | ⟨acc',n',y4,y5,a1,a2,a3,a4⟩
    ·exact .inl a
    ·exact .inr ⟨acc',n',y4,y5,a1,a2,by rw [Zn];omega,a4⟩
theorem du3 (ls:Tx) (h26:ls.length<=26) {x:Tx}:∀ (n:Nat) (front:List Tx) (F:Nat) (z3 z4 z5:Wm),(∀ w∈front,P w=true)->front.length+26 * n < 16000000->bf P ls n front=some x->n < F →
  ∃ η',cX (eC (.bl true)) jF F (ED D ls (.lst (front.map .str)) z3 z4 z5)=some (.rt (.fr,.str x) η'):=by
 intro n
 induction n using Nat.strongRecOn with
 | ind n ih =>
  intro front F z3 z4 z5 hp hb h hF
  obtain ⟨F,rfl⟩:∃ k,F=k+1:=⟨F - 1,by omega⟩
  have hpos:0 < front.length:=by
   cases front with
   | nil=>cases n <;> cases h
   | cons a l=>exact Nat.succ_pos _
  have f0:∀ z4 z5,fA (aT 4) (il (aa 2)) bL (ED D ls (.lst (front.map .str)) (oc (.lst (([]:List Tx).map .str))) z4 z5)=forL (aT 4) bL (front.map .str) (ED D ls (.lst (front.map .str)) (oc (.lst (([]:List Tx).map .str))) z4 z5):=fun z4 z5=>dk (m:=.pu) rfl rfl
  have s0:gD 3 (dF aj) (ED D ls (.lst (front.map .str)) z3 z4 z5)=some (.nx (ED D ls (.lst (front.map .str)) (oc (.lst (([]:List Tx).map .str))) z4 z5)):=rfl
  rcases du2 hD hP ls h26 (.lst (front.map .str)) front [] n z4 z5 (fun w hw=>hp w (by simpa using hw)) (by simpa using hb) (by simpa using h) with ⟨η',e⟩ | ⟨acc,n',y4,y5,e,a2,a3,a4,a5⟩
  ·exact ⟨η',pT (m:=.fr) rfl ((af s0).trans (eV ((f0 z4 z5).trans e)))⟩
  ·obtain ⟨η',e2'⟩:=ih n' (by omega) acc F (pc (.lst (acc.map .str))) y4 y5 a5 a4 a2 (by omega)
   exact ⟨η',(js (m:=.fr) rfl ((af s0).trans ((af ((f0 z4 z5).trans e)).trans ((af (η1:=ED D ls (.lst (front.map .str)) (pc (.lst (acc.map .str))) y4 y5) rfl).trans rfl)))).trans e2'⟩
theorem Ci (ls:Tx) (h26:ls.length<=26) {x:Tx} {n:Nat} (hn:n < 500000) (h0:P []=true) (h:bf P ls n [[]]=some x):fh [.dct 0 D,.str ls]=some (.fr,.str x):=by
 obtain ⟨η',e⟩:=du3 hD hP ls h26 n [[]] qw none none none (fun w hw=>by rw [Zj.mp hw];exact h0) (by show 1+26 * n < 16000000;omega) h (by show n < 1000000;omega)
 exact ic rfl ((af (η1:=ED D ls (.lst (([[]]:List Tx).map .str)) none none none) rfl).trans e)
end
end T37
end
section
namespace T37
open VS AU
theorem BS {c v:Nat} (hc:97<=c/\c<=122):∀ (k:Nat) (S S':St) (o o':Option Nat),WF S->v < S.lg.length->(∀ n,o=some n->n < S.lg.length)->up1 c v k S o=some (S',o')->WF S'/\S'.lg=S.lg/\(∀ n,o'=some n->n < S.lg.length)/\∀ N,k < N->∀ z:Wm,
  cX (lS (gr (aa 4)) (e2 bT (aa 2) (e2 aE (bq 3 (aa 0)) (aa 4)))) bu N [oc (obT S true),z,Q1 ([c]),Q0 (v:Int),pc (lkT o)] =
   some (.nx [oc (obT S' true),z,Q1 ([c]),Q0 (v:Int),pc (lkT o')]):=by
 intro k
 induction k with
 | zero =>
  intro S S' o o' W hv ho e
  cases o with
  | none =>
   cases (show some (S,none)=some (S',o') from e)
   refine ⟨W,rfl,(fun n h=>nomatch h),fun N hN z=>?_⟩
   obtain ⟨N,rfl⟩:∃ M,N=M+1:=⟨N - 1,by omega⟩
   exact fL (m:=.fr) rfl
  | some n=>cases e
 | succ k ih =>
  intro S S' o o' W hv ho e
  cases o with
  | none =>
   cases (show some (S,none)=some (S',o') from e)
   refine ⟨W,rfl,(fun n h=>nomatch h),fun N hN z=>?_⟩
   obtain ⟨N,rfl⟩:∃ M,N=M+1:=⟨N - 1,by omega⟩
   exact fL (m:=.fr) rfl
  | some n =>
   have hn:=ho n rfl
   have hnw:n < S.wy.length:=by rw [W.wy];exact hn
   have cond:∀ z:Wm,lS (gr (aa 4)) (e2 bT (aa 2) (e2 aE (bq 3 (aa 0)) (aa 4))) [oc (obT S true),z,Q1 ([c]),Q0 (v:Int),Q0 (n:Int)]=some (.fr,.bl (!(gW (S.wy.getD n []) c).isSome)):=fun z =>
    xk (m:=.fr) (x:=true) rfl (fun _=>zS (m:=.bo) (n:=.fr) (k8 (m:=.bo) (n:=.fr) rfl rfl hnw) rfl) (fun h=>by cases h)
   unfold up1 at e
   split at e
   ·rename_i hq
    cases e
    refine ⟨W,rfl,ho,fun N hN z=>?_⟩
    obtain ⟨N,rfl⟩:∃ M,N=M+1:=⟨N - 1,by omega⟩
    exact fL (m:=.fr) ((cond z).trans (by rw [hq];rfl))
   ·rename_i hq
    have W':=W.way (n:=n) (c:=c) (v:=v) hv hc
    obtain ⟨w1,w2,w4,w3⟩:=ih _ S' (S.lk.getD n none) o' W' hv (fun m hm=>W.up n m hm) e
    refine ⟨w1,w2,w4,fun N hN z=>?_⟩
    obtain ⟨N,rfl⟩:∃ M,N=M+1:=⟨N - 1,by omega⟩
    have hq':(gW (S.wy.getD n []) c).isSome=false:=by simpa using hq
    refine (js (m:=.fr) ((cond z).trans (by rw [hq'];rfl)) ?_).trans (w3 N (by omega) z)
    unfold bu
    refine (af (uP (S:=S) (i:=n) (n:=.fr) (m:=.fr) (k:=.fr) (c:=c) (v:=v) hnw rfl rfl rfl (W.small n))).trans ?_
    have hlk:n < S.lk.length:=by rw [W.lk];exact hn
    exact aQ (m:=.fr) (t:=lkT (S.lk.getD n none)) (tK (S:=⟨S.lg,S.lk,S.wy.set n (pW (S.wy.getD n []) c v)⟩) (m:=.bo) (n:=.fr) rfl rfl hlk) (by decide) (by decide:4 < 5)
theorem AZ (a b:Nat) {m n:Md}:oEq (m,.int (a:Int)) (n,.int (b:Int))=some (.fr,.bl (decide (a=b))):=mP rfl rfl (by
 simp only [eqT]
 by_cases h:a=b
 ·subst h;simp
 ·rw [ZU h]
  exact ZO.mpr (by omega))
theorem wB {S S':St} {n c r:Nat} (W:WF S) (hs:Sm S) (hn:n < S.lg.length) (hc:97<=c/\c<=122) (e:njb S n c=some (S',r)):WF S'/\r < S'.lg.length/\S.lg.length<=S'.lg.length/\S'.lg.length<=S.lg.length+1/\aw (fsT S) [.int (n:Int),.str [c]]=some (fsT S',.int (r:Int)):=by
 unfold njb at e
 obtain ⟨old,ho,e⟩:=Zz.mp e
 have hold:=W.on n c old ho
 have hnw:n < S.wy.length:=by rw [W.wy];exact hn
 have how:old < S.wy.length:=by rw [W.wy];exact hold
 have hok:old < S.lk.length:=by rw [W.lk];exact hold
 have hs1:S.lg.length<=100001:=hs
 unfold aw mfn
 rw [Zq ⟨rfl,rfl⟩]
 have s1:=aQ (i:=3) (m:=.fr) (e:=e2 oIx (e2 aE (bq 3 (aa 0)) (aa 1)) (aa 2)) (η:=[oc (obT S true),Q0 (n:Int),Q1 ([c]),none,none,none]) (uB (m:=.bo) (n:=.fr) (k8 (m:=.bo) (n:=.fr) rfl rfl hnw) rfl ho) (by decide) (by decide:3 < 6)
 have s2:=aQ (i:=4) (m:=.fr) (e:=e2 aS (e2 aE (bq 1 (aa 0)) (aa 1)) (Q2 1)) (η:=[oc (obT S true),Q0 (n:Int),Q1 ([c]),Q0 (old:Int),none,none]) (t:=.int ((S.lg.getD n 0+1:Nat):Int)) (e2v (pQ (m:=.bo) (n:=.fr) rfl rfl hn) rfl rfl) (by decide) (by decide:4 < 6)
 have cd:e2 oEq (e2 aE (bq 1 (aa 0)) (aa 3)) (aa 4) [oc (obT S true),Q0 (n:Int),Q1 ([c]),Q0 (old:Int),Q0 ((S.lg.getD n 0+1:Nat):Int),none]=some (.fr,.bl (decide (S.lg.getD old 0=S.lg.getD n 0+1))):=e2v (pQ (m:=.bo) (n:=.fr) rfl rfl hold) (y:=(.fr,.int ((S.lg.getD n 0+1:Nat):Int))) rfl (AZ _ _)
 split at e
 ·rename_i hq
  obtain ⟨rfl,rfl⟩:=Xd (Zk e)
  rw [decide_eq_true hq] at cd
  refine ⟨W,hold,Zg _,Xc _,?_⟩
  have body:∀ b:Sx,ak (aK 3 (e2 oIx (e2 aE (bq 3 (aa 0)) (aa 1)) (aa 2))) (ak (aK 4 (e2 aS (e2 aE (bq 1 (aa 0)) (aa 1)) (Q2 1))) (ak (sIf (e2 oEq (e2 aE (bq 1 (aa 0)) (aa 3)) (aa 4)) (eR 3) dy) b)) [oc (obT S true),Q0 (n:Int),Q1 ([c]),none,none,none]=some (.rt (.fr,.int (old:Int)) [oc (obT S true),Q0 (n:Int),Q1 ([c]),Q0 (old:Int),Q0 ((S.lg.getD n 0+1:Nat):Int),none]):=fun b =>
   (af s1).trans ((af s2).trans (eV ((j6 cd).trans rfl)))
  exact congrArg (fun z:Option Out=>z.bind _) (body _)
 ·rename_i hq
  rw [ZU hq] at cd
  obtain ⟨S2,e2',e3⟩:=Zw.mp e
  obtain ⟨rfl,rfl⟩:=Xd e3
  have wn:=W.wnd old
  have W1:=W.more (l:=S.lg.getD n 0+1) (o:=S.lk.getD old none) (w:=S.wy.getD old []) (fun m hm=>W.up old m hm) (fun d m hm=>W.on old d m hm) wn.1 wn.2
  have hlen:(S.lg++[S.lg.getD n 0+1]).length=S.lg.length+1:=by rw [Zt];rfl
  have W2:=W1.link (n:=old) (v:=S.lg.length) (by show S.lg.length < (S.lg++[S.lg.getD n 0+1]).length;omega)
  obtain ⟨w1,w2,o',w3⟩:=BP hc 1000 _ S2 (some n) W2 (by show S.lg.length < (S.lg++[S.lg.getD n 0+1]).length;omega) (fun m hm=>by cases hm;show n < (S.lg++[S.lg.getD n 0+1]).length;omega) e2'
  have w2':S2.lg.length=S.lg.length+1:=by rw [w2];exact hlen
  refine ⟨w1,by omega,by omega,by omega,?_⟩
  have nw:=uV S (S.lg.getD n 0+1) (S.lk.getD old none) (S.wy.getD old []) (by omega) (by rw [W.lk];omega) (by rw [W.wy];omega)
  have args:ab (aa 4) (ab (e2 aE (bq 2 (aa 0)) (aa 3)) (ab (eN j9 (ab (e2 aE (bq 3 (aa 0)) (aa 3)) aj)) aj)) [oc (obT S true),Q0 (n:Int),Q1 ([c]),Q0 (old:Int),Q0 ((S.lg.getD n 0+1:Nat):Int),none]=some [(.fr,.int ((S.lg.getD n 0+1:Nat):Int)),(.fr,lkT (S.lk.getD old none)),(.fr,wT' (S.wy.getD old []))] :=
   xv rfl (xv (tK (m:=.bo) (n:=.fr) rfl rfl hok) (xv (ma (xv (k8 (m:=.bo) (n:=.fr) rfl rfl how) rfl) (by
    show (if dv (((S.wy.getD old []).map fun p=>(T.str [p.1],T.int (p.2:Int))).map (·.2))=true then some (Md.fr,wT' (S.wy.getD old [])) else none)=_
    rw [Zq (by rw [Z5];exact jC _ (fun _=>rfl) _)])) rfl))
  have ao:argsOk [false,false,true] [(.fr,.int ((S.lg.getD n 0+1:Nat):Int)),(.fr,lkT (S.lk.getD old none)),(.fr,wT' (S.wy.getD old []))]=true:=by
   show (true && (imm (lkT (S.lk.getD old none)) && true))=true
   rw [j3]
   rfl
  have an:aY (trees [(Md.fr,T.int ((S.lg.getD n 0+1:Nat):Int)),(.fr,lkT (S.lk.getD old none)),(.fr,wT' (S.wy.getD old []))])=true:=by
   show (true && (fE (lkT (S.lk.getD old none)) && (fE (wT' (S.wy.getD old [])) && true)))=true
   rw [lT _ (j3 _),vo]
   rfl
  have cm:=gZ (b:=true) args ao an nw rfl
  have s3:cz 5 (bR 0 [] 0 [false,false,true] aG (ab (aa 4) (ab (e2 aE (bq 2 (aa 0)) (aa 3)) (ab (eN j9 (ab (e2 aE (bq 3 (aa 0)) (aa 3)) aj)) aj)))) [oc (obT S true),Q0 (n:Int),Q1 ([c]),Q0 (old:Int),Q0 ((S.lg.getD n 0+1:Nat):Int),none]=some (.nx [oc (obT ⟨S.lg++[S.lg.getD n 0+1],S.lk++[S.lk.getD old none],S.wy++[S.wy.getD old []]⟩ true),Q0 (n:Int),Q1 ([c]),Q0 (old:Int),Q0 ((S.lg.getD n 0+1:Nat):Int),Q0 (S.lg.length:Int)]):=by
   unfold cz
   rw [cm]
   rfl
  have s4:=wD (S:=⟨S.lg++[S.lg.getD n 0+1],S.lk++[S.lk.getD old none],S.wy++[S.wy.getD old []]⟩) (b:=true) (r:=[Q0 (n:Int),Q1 ([c]),Q0 (old:Int),Q0 ((S.lg.getD n 0+1:Nat):Int),Q0 (S.lg.length:Int)]) (i:=old) (v:=S.lg.length) (n:=.fr) (e:=aa 3) (ev:=aa 5) (by show old < (S.lk++[S.lk.getD old none]).length;rw [Zt];omega) rfl rfl
  have s5:=w3 qw (by decide) (Q0 ((S.lg.getD n 0+1:Nat):Int))
  exact congrArg (fun z:Option Out=>z.bind _) ((af s1).trans ((af s2).trans ((af ((iZ cd).trans rfl)).trans ((af s3).trans ((af s4).trans ((af s5).trans rfl))))))
theorem C8 {S S':St} {h c r:Nat} (W:WF S) (hs1:S.lg.length<=100000) (hh:h < S.lg.length) (hc:97<=c/\c<=122) (e:hb S h c=some (S',r)):WF S'/\r < S'.lg.length/\S.lg.length<=S'.lg.length/\S'.lg.length<=S.lg.length+2/\bh (fsT S) [.int (h:Int),.str [c]]=some (fsT S',.int (r:Int)):=by
 have hw:h < S.wy.length:=by rw [W.wy];exact hh
 unfold hb at e
 unfold bh mfn
 rw [Zq ⟨rfl,rfl⟩]
 have cd:e2 jP (aa 2) (e2 aE (bq 3 (aa 0)) (aa 1)) [oc (obT S true),Q0 (h:Int),Q1 ([c]),none,none]=some (.fr,.bl (gW (S.wy.getD h []) c).isSome):=DM (m:=.bo) (n:=.fr) (k8 (m:=.bo) (n:=.fr) rfl rfl hw) rfl
 split at e
 ·rename_i hq
  rw [hq] at cd
  obtain ⟨w1,w2,w3,w4,w5⟩:=wB W (Nat.le_succ_of_le hs1) hh hc e
  refine ⟨w1,w2,w3,by omega,?_⟩
  have cm:=gZ (mv:=[false,false]) (as:=ab (aa 1) (ab (aa 2) aj)) (xs:=[(.fr,.int (h:Int)),(.fr,.str [c])]) (b:=true) (r:=[Q0 (h:Int),Q1 ([c]),none,none]) rfl rfl rfl w5 rfl
  have s1:ju (bR 0 [] 0 [false,false] aw (ab (aa 1) (ab (aa 2) aj))) [oc (obT S true),Q0 (h:Int),Q1 ([c]),none,none]=some (.rt (.fr,.int (r:Int)) [oc (obT S' true),Q0 (h:Int),Q1 ([c]),none,none]):=by
   unfold ju
   rw [cm]
   rfl
  exact congrArg (fun z:Option Out=>z.bind _) (eV ((j6 cd).trans s1))
 ·rename_i hq
  have hq':(gW (S.wy.getD h []) c).isSome=false:=by simpa using hq
  rw [hq'] at cd
  obtain ⟨⟨S2,o⟩,e1,e2'⟩:=Zz.mp e
  have W1:=W.more (l:=S.lg.getD h 0+1) (o:=some 0) (w:=[]) (fun m hm=>by cases hm;exact W.pos) (fun d m hm=>by cases hm) Z1 (fun p hp=>nomatch hp)
  have hlen:(S.lg++[S.lg.getD h 0+1]).length=S.lg.length+1:=by rw [Zt];rfl
  obtain ⟨w1,w2,w3,w4⟩:=BS hc 1000 _ S2 (some h) o W1 (by show S.lg.length < (S.lg++[S.lg.getD h 0+1]).length;omega) (fun m hm=>by cases hm;show h < (S.lg++[S.lg.getD h 0+1]).length;omega) e1
  have w2':S2.lg.length=S.lg.length+1:=by rw [w2];exact hlen
  have nw:=uV S (S.lg.getD h 0+1) (some 0) [] (by omega) (by rw [W.lk];omega) (by rw [W.wy];omega)
  have args:ab (e2 aS (e2 aE (bq 1 (aa 0)) (aa 1)) (Q2 1)) (ab (Q2 0) (ab (mn 0 []) aj)) [oc (obT S true),Q0 (h:Int),Q1 ([c]),none,none]=some [(.fr,.int ((S.lg.getD h 0+1:Nat):Int)),(.fr,.int 0),(.fr,.dct 0 [])] :=
   xv (e2v (pQ (m:=.bo) (n:=.fr) rfl rfl hh) rfl rfl) (xv rfl (xv rfl rfl))
  have cm:=gZ (mv:=[false,false,true]) (b:=true) args rfl rfl nw rfl
  have s1:cz 3 (bR 0 [] 0 [false,false,true] aG (ab (e2 aS (e2 aE (bq 1 (aa 0)) (aa 1)) (Q2 1)) (ab (Q2 0) (ab (mn 0 []) aj)))) [oc (obT S true),Q0 (h:Int),Q1 ([c]),none,none]=some (.nx [oc (obT ⟨S.lg++[S.lg.getD h 0+1],S.lk++[some 0],S.wy++[[]]⟩ true),Q0 (h:Int),Q1 ([c]),Q0 (S.lg.length:Int),none]):=by
   unfold cz
   rw [cm]
   rfl
  have s2:=w4 qw (by decide) (Q0 (h:Int))
  have hd:∀ b:Sx,ak (sIf (e2 jP (aa 2) (e2 aE (bq 3 (aa 0)) (aa 1))) (ju (bR 0 [] 0 [false,false] aw (ab (aa 1) (ab (aa 2) aj)))) dy)
    (ak (cz 3 (bR 0 [] 0 [false,false,true] aG (ab (e2 aS (e2 aE (bq 1 (aa 0)) (aa 1)) (Q2 1)) (ab (Q2 0) (ab (mn 0 []) aj)))))
    (ak (aK 4 (aa 1)) (ak (iY (lS (gr (aa 4)) (e2 bT (aa 2) (e2 aE (bq 3 (aa 0)) (aa 4)))) bu) b))) [oc (obT S true),Q0 (h:Int),Q1 ([c]),none,none] =
    b [oc (obT S2 true),Q0 (h:Int),Q1 ([c]),Q0 (S.lg.length:Int),pc (lkT o)]:=fun b =>
   (af ((iZ cd).trans rfl)).trans ((af s1).trans ((af rfl).trans (af s2)))
  cases o with
  | none =>
   obtain ⟨rfl,rfl⟩:=Xd (Zk e2')
   have fin:ak (sIf (gr (aa 4)) (ky 0 [.fld 2] (aa 3) (bR 0 [] 0 [false,false] aw (ab (aa 4) (ab (aa 2) aj)))) dy) (eR 3) [oc (obT S2 true),Q0 (h:Int),Q1 ([c]),Q0 (S.lg.length:Int),pc (lkT none)] =
     some (.rt (.fr,.int (S.lg.length:Int)) [oc (obT S2 true),Q0 (h:Int),Q1 ([c]),Q0 (S.lg.length:Int),pc (lkT none)]):=(af ((iZ (m:=.fr) rfl).trans rfl)).trans rfl
   refine ⟨w1,by show S.lg.length < S2.lg.length;omega,by show S.lg.length<=S2.lg.length;omega,by show S2.lg.length<=_;omega,?_⟩
   exact congrArg (fun z:Option Out=>z.bind _) ((hd _).trans fin)
  | some n =>
   obtain ⟨⟨S3,m⟩,e3,e4⟩:=Zw.mp e2'
   obtain ⟨rfl,rfl⟩:=Xd e4
   have hn:n < S2.lg.length:=by
    have:=w3 n rfl
    rw [w2]
    exact this
   obtain ⟨v1,v2,v3,v4,v5⟩:=wB w1 (by show S2.lg.length<=100001;omega) hn hc e3
   have v6:=v1.link (n:=S.lg.length) (v:=m) v2
   have cm:=gZ (mv:=[false,false]) (as:=ab (aa 4) (ab (aa 2) aj)) (xs:=[(.fr,.int (n:Int)),(.fr,.str [c])]) (b:=true) (r:=[Q0 (h:Int),Q1 ([c]),Q0 (S.lg.length:Int),Q0 (n:Int)]) rfl rfl rfl v5 rfl
   have pl:=wD (S:=S3) (b:=true) (r:=[Q0 (h:Int),Q1 ([c]),Q0 (S.lg.length:Int),Q0 (n:Int)]) (i:=S.lg.length) (v:=m) (n:=.fr) (e:=aa 3) (ev:=fun _=>some (.fr,.int (m:Int))) (by rw [v1.lk];omega) rfl rfl
   have s3:ky 0 [.fld 2] (aa 3) (bR 0 [] 0 [false,false] aw (ab (aa 4) (ab (aa 2) aj))) [oc (obT S2 true),Q0 (h:Int),Q1 ([c]),Q0 (S.lg.length:Int),Q0 (n:Int)]=some (.nx [oc (obT ⟨S3.lg,S3.lk.set S.lg.length (some m),S3.wy⟩ true),Q0 (h:Int),Q1 ([c]),Q0 (S.lg.length:Int),Q0 (n:Int)]):=by
    unfold ky
    rw [cm]
    exact pl
   have fin:ak (sIf (gr (aa 4)) (ky 0 [.fld 2] (aa 3) (bR 0 [] 0 [false,false] aw (ab (aa 4) (ab (aa 2) aj)))) dy) (eR 3) [oc (obT S2 true),Q0 (h:Int),Q1 ([c]),Q0 (S.lg.length:Int),Q0 (n:Int)] =
     some (.rt (.fr,.int (S.lg.length:Int)) [oc (obT ⟨S3.lg,S3.lk.set S.lg.length (some m),S3.wy⟩ true),Q0 (h:Int),Q1 ([c]),Q0 (S.lg.length:Int),Q0 (n:Int)]):=(af ((j6 (m:=.fr) rfl).trans s3)).trans rfl
   refine ⟨v6,by show S.lg.length < S3.lg.length;omega,by show S.lg.length<=S3.lg.length;omega,by show S3.lg.length<=_;omega,?_⟩
   exact congrArg (fun z:Option Out=>z.bind _) ((hd _).trans fin)
theorem wN {S S':St}:∀ {word:Wq} {h r:Nat},WF S->S.lg.length+2 * word.length<=100000->h < S.lg.length->(∀ c∈word,97<=c/\c<=122)->hg S h word=some (S',r) →
  WF S'/\r < S'.lg.length/\S'.lg.length<=S.lg.length+2 * word.length/\∀ z3:Wm,∀ z2:T,∃ z3',forL (aT 3) bG (word.map fun c=>T.str [c]) [oc (obT S true),Q0 (h:Int),pc z2,z3]=some (.nx [oc (obT S' true),Q0 (r:Int),pc z2,z3'])
 | [],h,r,W,hl,hh,hc,e=>by
  obtain ⟨rfl,rfl⟩:=Xd (Zk e)
  exact ⟨W,hh,by simp,fun z3 z2=>⟨z3,rfl⟩⟩
 | c :: word,h,r,W,hl,hh,hc,e=>by
  obtain ⟨⟨S1,h1⟩,e1,e2'⟩:=Zz.mp e
  rw [Zn] at hl
  obtain ⟨w1,w2,w3,w4,w5⟩:=C8 W (by omega) hh (hc c Zx) e1
  obtain ⟨v1,v2,v3,v4⟩:=wN (S:=S1) (S':=S') (word:=word) w1 (by omega) w2 (fun d hd=>hc d (Zy _ hd)) e2'
  refine ⟨v1,v2,by rw [Zn];omega,fun z3 z2=>?_⟩
  obtain ⟨z3',q⟩:=v4 (Q1 ([c])) z2
  refine ⟨z3',?_⟩
  rw [Zl]
  refine (dH (η1:=[oc (obT S true),Q0 (h:Int),pc z2,Q1 ([c])]) rfl ?_).trans q
  have cm:=gZ (mv:=[false,false]) (as:=ab (aa 1) (ab (aa 3) aj)) (xs:=[(.fr,.int (h:Int)),(.fr,.str [c])]) (b:=true) (r:=[Q0 (h:Int),pc z2,Q1 ([c])]) rfl rfl rfl w5 rfl
  unfold bG cz
  rw [cm]
  rfl
theorem Cp {S S':St} {word:Tx} {h r:Nat} (W:WF S) (hl:S.lg.length+2 * word.length<=100000) (hh:h < S.lg.length) (hc:∀ c∈word,97<=c/\c<=122) (e:hg S h word=some (S',r)) :
  WF S'/\r < S'.lg.length/\S'.lg.length<=S.lg.length+2 * word.length/\bD (fsT S) [.int (h:Int),.str word]=some (fsT S',.int (r:Int)):=by
 obtain ⟨w1,w2,w3,w4⟩:=wN W hl hh hc e
 obtain ⟨z3,q⟩:=w4 none (.str word)
 refine ⟨w1,w2,w3,?_⟩
 unfold bD mfn
 rw [Zq ⟨rfl,rfl⟩]
 have s1:=(dk (tg:=aT 3) (it:=il (aa 2)) (body:=bG) (η:=[oc (obT S true),Q0 (h:Int),Q1 word,none]) (m:=.fr) (l:=word.map fun c=>T.str [c]) rfl rfl).trans q
 exact congrArg (fun z:Option Out=>z.bind _) ((af s1).trans rfl)
end T37
end
section
namespace AU
noncomputable abbrev Wd:=Wq
noncomputable abbrev W (wd:List Wd) (n:Nat):Wd:=wd.getD n []
structure I (fr:Option Nat) (S:St) (nd:Wd->Option Nat) (wd:List Wd):Prop where
 wf:WF S
 len:wd.length=S.lg.length
 lg:∀ n,n < wd.length->S.lg.getD n 0=(W wd n).length
 z:nd []=some 0
 wz:W wd 0=[]
 lt:∀ {x n},nd x=some n->n < wd.length
 sf:∀ {x n},nd x=some n->x <:+ W wd n
 top:∀ {n},n < wd.length->nd (W wd n)=some n
 iv:∀ {x y n},nd x=some n->x <:+ y->y <:+ W wd n->nd y=some n
 pre:∀ {x c n},nd (x++[c])=some n->∃ m,nd x=some m
 suf:∀ {x y n},nd y=some n->x <:+ y->∃ m,nd x=some m
 lk0:S.lk.getD 0 none=none
 lk:∀ {n},0 < n->n < wd.length->some n ≠ fr->∃ m,S.lk.getD n none=some m/\(m < wd.length/\some m ≠ fr)/\W wd m <:+ W wd n/\(W wd m).length < (W wd n).length/\∀ y,y <:+ W wd n->(W wd m).length < y.length->nd y=some n
 wy:∀ {x n},nd x=some n->∀ c,gW (S.wy.getD n []) c=nd (x++[c])
theorem cR {α:Type} {x y w:List α} (h1:x <:+ w) (h2:y <:+ w) (hl:x.length<=y.length):x <:+ y:=List.suffix_of_suffix_length_le h1 h2 hl
section
variable {fr:Option Nat} {S:St} {nd:Wd->Option Nat} {wd:List Wd}
theorem I.up (H:I fr S nd wd):∀ (k n:Nat) (x:Wd),(W wd n).length<=k->n < wd.length->some n ≠ fr->x <:+ W wd n->∃ m,nd x=some m/\W wd m <:+ W wd n:=by
 intro k
 induction k with
 | zero =>
  intro n x hk hn hf hx
  have e:W wd n=[]:=List.length_eq_zero_iff.mp (Nat.le_zero.mp hk)
  rw [e] at hx
  have:x=[]:=Yb.mp hx
  subst this
  exact ⟨0,H.z,by rw [H.wz];exact Xm⟩
 | succ k ih =>
  intro n x hk hn hf hx
  by_cases h0:n=0
  ·subst h0
   rw [H.wz] at hx
   have:x=[]:=Yb.mp hx
   subst this
   exact ⟨0,H.z,Yz _⟩
  ·obtain ⟨m,h1,⟨h2,h2'⟩,h3,h4,h5⟩:=H.lk (Xh h0) hn hf
   by_cases hl:(W wd m).length < x.length
   ·exact ⟨n,h5 x hx hl,Yz _⟩
   ·obtain ⟨q,q1,q2⟩:=ih m x (by omega) h2 h2' (cR hx h3 (by omega))
    exact ⟨q,q1,q2.trans h3⟩
theorem I.up' (H:I fr S nd wd) {n:Nat} {x:Wd} (hn:n < wd.length) (hf:some n ≠ fr) (hx:x <:+ W wd n):∃ m,nd x=some m/\W wd m <:+ W wd n:=H.up _ n x (Zg _) hn hf hx
theorem I.all (H:I fr S nd wd) {n q:Nat} {x y:Wd} (hq:q < wd.length) (hf:some q ≠ fr) (hx:nd x=some n) (hy:nd y=some n) (h:x <:+ W wd q):y <:+ W wd q:=by
 obtain ⟨m,h1,h2⟩:=H.up' hq hf h
 rw [hx] at h1
 cases h1
 exact (H.sf hy).trans h2
theorem I.inj (H:I fr S nd wd) {m n:Nat} (hm:m < wd.length) (hn:n < wd.length) (h:W wd m=W wd n):m=n:=by
 have:=H.top hm
 rw [h,H.top hn] at this
 exact (Zk this).symm
theorem I.way (H:I fr S nd wd) {n c old:Nat} (hn:n < wd.length) (h:gW (S.wy.getD n []) c=some old):nd (W wd n++[c])=some old:=by
 rw [← H.wy (H.top hn) c]
 exact h
theorem I.zero (H:I fr S nd wd) {x:Wd} (h:nd x=some 0):x=[]:=by
 have:=H.sf h
 rw [H.wz] at this
 exact Yb.mp this
theorem I.low (H:I fr S nd wd) {n m:Nat} {y:Wd} (hf:some n ≠ fr) (hl:S.lk.getD n none=some m) (hy:nd y=some n):(W wd m).length < y.length/\m < wd.length/\W wd m <:+ W wd n/\some m ≠ fr:=by
 have hn:=H.lt hy
 by_cases h0:n=0
 ·subst h0;rw [H.lk0] at hl;cases hl
 ·obtain ⟨m',h1,⟨h2,h2'⟩,h3,h4,h5⟩:=H.lk (Xh h0) hn hf
  rw [h1] at hl
  cases hl
  refine ⟨Nat.lt_of_not_le fun hle=>?_,h2,h3,h2'⟩
  have:=H.iv hy (cR (H.sf hy) h3 hle) h3
  rw [H.top h2] at this
  cases this
  exact Yf _ h4
theorem I.below (H:I fr S nd wd) {n q m:Nat} (hn:n < wd.length) (hf:some n ≠ fr) (hl:S.lk.getD n none=some q) (hm:m < wd.length) (hs:W wd m <:+ W wd n) (hne:m ≠ n):W wd m <:+ W wd q:=by
 by_cases h0:n=0
 ·subst h0;rw [H.lk0] at hl;cases hl
 ·obtain ⟨q',h1,⟨h2,_⟩,h3,h4,h5⟩:=H.lk (Xh h0) hn hf
  rw [h1] at hl
  cases hl
  refine cR hs h3 (ZE fun hlt=>hne ?_)
  have:=h5 _ hs hlt
  rw [H.top hm] at this
  exact Zk this
theorem I.root (H:I fr S nd wd) {n m:Nat} (hn:n < wd.length) (hf:some n ≠ fr) (hl:S.lk.getD n none=none) (hm:m < wd.length) (hs:W wd m <:+ W wd n):m=n:=by
 have h0:n=0:=Nat.eq_zero_of_not_pos fun hp=>by
  obtain ⟨q,h1,_⟩:=H.lk hp hn hf
  rw [h1] at hl
  cases hl
 subst h0
 rw [H.wz] at hs
 exact H.inj hm hn (by rw [H.wz,Yb.mp hs])
theorem fu (wy:List (List (Nat×Nat))) (n m c v d:Nat) (hn:n < wy.length):gW ((wy.set n (pW (wy.getD n []) c v)).getD m []) d=if m=n/\d=c then some v else gW (wy.getD m []) d:=by
 rw [gm]
 by_cases h:n=m
 ·subst h
  rw [Zq ⟨rfl,hn⟩,zR]
  by_cases hd:d=c
  ·rw [Zq hd,Zq ⟨rfl,hd⟩]
  ·rw [Zm hd,Zm (fun z=>hd z.2)]
 ·rw [Zm (fun z=>h z.1),Zm (fun z=>h z.1.symm)]
theorem I.climb2 (H:I fr S nd wd) {c old v:Nat}:∀ (k:Nat) (T:St) (n:Nat),n < wd.length->some n ≠ fr->(W wd n).length < k->(∀ m,m < wd.length->W wd m <:+ W wd n->T.lk.getD m none=S.lk.getD m none)->wd.length<=T.wy.length →
  (∀ m m',m < wd.length->m' < wd.length->W wd m <:+ W wd m'->W wd m' <:+ W wd n->gW (T.wy.getD m []) c=some old->gW (T.wy.getD m' []) c=some old) →
  ∃ wy',up2 c old v k T (some n)=some ⟨T.lg,T.lk,wy'⟩/\wy'.length=T.wy.length/\∀ m d,gW (wy'.getD m []) d=if d=c/\m < wd.length/\W wd m <:+ W wd n/\gW (T.wy.getD m []) c=some old then some v else gW (T.wy.getD m []) d:=by
 intro k
 induction k with
 | zero=>intro T n _ _ h;omega
 | succ k ih =>
  intro T n hn hf hk hlk hw mono
  have hnw:n < T.wy.length:=ZM hn hw
  unfold up2
  by_cases hq:gW (T.wy.getD n []) c=some old
  ·rw [Zq hq,hlk n hn (Yz _)]
   cases hl:S.lk.getD n none with
   | none =>
    refine ⟨T.wy.set n (pW (T.wy.getD n []) c v),by cases k <;> rfl,Z9,fun m d=>?_⟩
    rw [fu _ _ _ _ _ _ hnw]
    by_cases hm:m=n/\d=c
    ·rw [Zq hm,Zq ⟨hm.2,by rw [hm.1];exact hn,by rw [hm.1];exact Yz _,by rw [hm.1];exact hq⟩]
    ·rw [Zm hm,Zm fun z=>hm ⟨H.root hn hf hl z.2.1 z.2.2.1,z.1⟩]
   | some q =>
    obtain ⟨l1,l2,l3,l4⟩:=H.low hf hl (H.top hn)
    have ne:∀ m,W wd m <:+ W wd q->m ≠ n:=fun m hm e=>by
     rw [e] at hm
     have:=hm.length_le
     omega
    obtain ⟨wy',e1,e2,e3⟩:=ih ⟨T.lg,T.lk,T.wy.set n (pW (T.wy.getD n []) c v)⟩ q l2 l4 (by omega) (fun m hm hs=>hlk m hm (hs.trans l3)) (by show _<=(T.wy.set _ _).length;rw [Z9];exact hw) (fun m m' hm hm' hs hs' h=>by
     have h':gW ((T.wy.set n (pW (T.wy.getD n []) c v)).getD m []) c=some old:=h
     show gW ((T.wy.set n (pW (T.wy.getD n []) c v)).getD m' []) c=some old
     rw [fu _ _ _ _ _ _ hnw,Zm (fun z=>ne m (hs.trans hs') z.1)] at h'
     rw [fu _ _ _ _ _ _ hnw,Zm (fun z=>ne m' hs' z.1)]
     exact mono m m' hm hm' hs (hs'.trans l3) h')
    refine ⟨wy',e1,by rw [e2];exact Z9,fun m d=>?_⟩
    rw [e3 m d]
    show (if d=c/\m < wd.length/\W wd m <:+ W wd q/\gW ((T.wy.set n (pW (T.wy.getD n []) c v)).getD m []) c=some old then some v else gW ((T.wy.set n (pW (T.wy.getD n []) c v)).getD m []) d)=_
    by_cases hm:m=n
    ·subst hm
     rw [Zm (fun z=>ne m z.2.2.1 rfl),fu _ _ _ _ _ _ hnw]
     by_cases hd:d=c
     ·rw [Zq ⟨rfl,hd⟩,Zq ⟨hd,hn,Yz _,hq⟩]
     ·rw [Zm (fun z=>hd z.2),Zm (fun z=>hd z.1)]
    ·have g1:∀ d,gW ((T.wy.set n (pW (T.wy.getD n []) c v)).getD m []) d=gW (T.wy.getD m []) d:=fun d=>by rw [fu _ _ _ _ _ _ hnw,Zm (fun z=>hm z.1)]
     rw [g1,g1]
     by_cases hc:d=c/\m < wd.length/\W wd m <:+ W wd n/\gW (T.wy.getD m []) c=some old
     ·rw [Zq hc,Zq ⟨hc.1,hc.2.1,H.below hn hf hl hc.2.1 hc.2.2.1 hm,hc.2.2.2⟩]
     ·rw [Zm hc,Zm fun z=>hc ⟨z.1,z.2.1,z.2.2.1.trans l3,z.2.2.2⟩]
  ·rw [Zm hq]
   refine ⟨T.wy,rfl,rfl,fun m d=>?_⟩
   rw [Zm fun z=>hq (mono m n z.2.1 hn z.2.2.1 (Yz _) z.2.2.2)]
theorem I.climb1 (H:I fr S nd wd) {c v:Nat}:∀ (k:Nat) (T:St) (n:Nat),n < wd.length->some n ≠ fr->(W wd n).length < k->(∀ m,m < wd.length->W wd m <:+ W wd n->T.lk.getD m none=S.lk.getD m none)->wd.length<=T.wy.length →
  (∀ m m',m < wd.length->m' < wd.length->W wd m <:+ W wd m'->W wd m' <:+ W wd n->(gW (T.wy.getD m' []) c).isSome->(gW (T.wy.getD m []) c).isSome) →
  ∃ wy' o',up1 c v k T (some n)=some (⟨T.lg,T.lk,wy'⟩,o')/\wy'.length=T.wy.length/\(∀ m d,gW (wy'.getD m []) d=if d=c/\m < wd.length/\W wd m <:+ W wd n/\gW (T.wy.getD m []) c=none then some v else gW (T.wy.getD m []) d) ∧
   (o'=none->∀ m,m < wd.length->W wd m <:+ W wd n->gW (T.wy.getD m []) c=none) ∧
   ∀ p,o'=some p->p < wd.length/\W wd p <:+ W wd n/\(gW (T.wy.getD p []) c).isSome/\∀ m,m < wd.length->W wd m <:+ W wd n->(W wd p).length < (W wd m).length->gW (T.wy.getD m []) c=none:=by
 intro k
 induction k with
 | zero=>intro T n _ _ h;omega
 | succ k ih =>
  intro T n hn hf hk hlk hw mono
  have hnw:n < T.wy.length:=ZM hn hw
  unfold up1
  by_cases hq:(gW (T.wy.getD n []) c).isSome=true
  ·rw [Zq hq]
   refine ⟨T.wy,some n,rfl,rfl,fun m d=>?_,(fun h=>nomatch h),fun p hp=>?_⟩
   ·rw [Zm fun z=>?_]
    have:=mono m n z.2.1 hn z.2.2.1 (Yz _) hq
    rw [z.2.2.2] at this
    cases this
   ·cases hp
    refine ⟨hn,Yz _,hq,fun m hm hs hl=>?_⟩
    have:=hs.length_le
    omega
  ·have hq':gW (T.wy.getD n []) c=none:=by
    cases h:gW (T.wy.getD n []) c with
    | none=>rfl
    | some x=>rw [h] at hq;exact absurd rfl hq
   rw [Zm hq,hlk n hn (Yz _)]
   cases hl:S.lk.getD n none with
   | none =>
    refine ⟨T.wy.set n (pW (T.wy.getD n []) c v),none,by cases k <;> rfl,Z9,fun m d=>?_,fun _ m hm hs=>?_,(fun p hp=>nomatch hp)⟩
    ·rw [fu _ _ _ _ _ _ hnw]
     by_cases hm:m=n/\d=c
     ·rw [Zq hm,Zq ⟨hm.2,by rw [hm.1];exact hn,by rw [hm.1];exact Yz _,by rw [hm.1];exact hq'⟩]
     ·rw [Zm hm,Zm fun z=>hm ⟨H.root hn hf hl z.2.1 z.2.2.1,z.1⟩]
    ·rw [H.root hn hf hl hm hs];exact hq'
   | some q =>
    obtain ⟨l1,l2,l3,l4⟩:=H.low hf hl (H.top hn)
    have ne:∀ m,W wd m <:+ W wd q->m ≠ n:=fun m hm e=>by
     rw [e] at hm
     have:=hm.length_le
     omega
    obtain ⟨wy',o',e1,e2,e3,e4,e5⟩:=ih ⟨T.lg,T.lk,T.wy.set n (pW (T.wy.getD n []) c v)⟩ q l2 l4 (by omega) (fun m hm hs=>hlk m hm (hs.trans l3)) (by show _<=(T.wy.set _ _).length;rw [Z9];exact hw) (fun m m' hm hm' hs hs' h=>by
     have h':(gW ((T.wy.set n (pW (T.wy.getD n []) c v)).getD m' []) c).isSome:=h
     show (gW ((T.wy.set n (pW (T.wy.getD n []) c v)).getD m []) c).isSome
     rw [fu _ _ _ _ _ _ hnw,Zm (fun z=>ne m' hs' z.1)] at h'
     rw [fu _ _ _ _ _ _ hnw,Zm (fun z=>ne m (hs.trans hs') z.1)]
     exact mono m m' hm hm' hs (hs'.trans l3) h')
    have old:∀ m,W wd m <:+ W wd q->gW ((T.wy.set n (pW (T.wy.getD n []) c v)).getD m []) c=gW (T.wy.getD m []) c:=fun m hm=>by rw [fu _ _ _ _ _ _ hnw,Zm (fun z=>ne m hm z.1)]
    refine ⟨wy',o',e1,by rw [e2];exact Z9,fun m d=>?_,fun ho m hm hs=>?_,fun p hp=>?_⟩
    ·rw [e3 m d]
     show (if d=c/\m < wd.length/\W wd m <:+ W wd q/\gW ((T.wy.set n (pW (T.wy.getD n []) c v)).getD m []) c=none then some v else gW ((T.wy.set n (pW (T.wy.getD n []) c v)).getD m []) d)=_
     by_cases hm:m=n
     ·subst hm
      rw [Zm (fun z=>ne m z.2.2.1 rfl),fu _ _ _ _ _ _ hnw]
      by_cases hd:d=c
      ·rw [Zq ⟨rfl,hd⟩,Zq ⟨hd,hn,Yz _,hq'⟩]
      ·rw [Zm (fun z=>hd z.2),Zm (fun z=>hd z.1)]
     ·have g1:∀ d,gW ((T.wy.set n (pW (T.wy.getD n []) c v)).getD m []) d=gW (T.wy.getD m []) d:=fun d=>by rw [fu _ _ _ _ _ _ hnw,Zm (fun z=>hm z.1)]
      rw [g1,g1]
      by_cases hc:d=c/\m < wd.length/\W wd m <:+ W wd n/\gW (T.wy.getD m []) c=none
      ·rw [Zq hc,Zq ⟨hc.1,hc.2.1,H.below hn hf hl hc.2.1 hc.2.2.1 hm,hc.2.2.2⟩]
      ·rw [Zm hc,Zm fun z=>hc ⟨z.1,z.2.1,z.2.2.1.trans l3,z.2.2.2⟩]
    ·by_cases hmn:m=n
     ·rw [hmn];exact hq'
     ·have hb:=H.below hn hf hl hm hs hmn
      rw [← old m hb]
      exact e4 ho m hm hb
    ·obtain ⟨p1,p2,p3,p4⟩:=e5 p hp
     have p3':(gW ((T.wy.set n (pW (T.wy.getD n []) c v)).getD p []) c).isSome:=p3
     rw [old p p2] at p3'
     refine ⟨p1,p2.trans l3,p3',fun m hm hs hlt=>?_⟩
     by_cases hmn:m=n
     ·rw [hmn];exact hq'
     ·have hb:=H.below hn hf hl hm hs hmn
      rw [← old m hb]
      exact p4 m hm hb hlt
end
theorem BL {c old v:Nat} (hc:97<=c/\c<=122):∀ (k:Nat) (S S':St) (o:Option Nat),WF S->v < S.lg.length->up2 c old v k S o=some S'->WF S':=by
 intro k
 induction k with
 | zero =>
  intro S S' o H hv e
  cases o with
  | none=>cases (show some S=some S' from e);exact H
  | some n=>cases e
 | succ k ih =>
  intro S S' o H hv e
  cases o with
  | none=>cases (show some S=some S' from e);exact H
  | some n =>
   unfold up2 at e
   split at e
   ·exact ih ⟨S.lg,S.lk,S.wy.set n (pW (S.wy.getD n []) c v)⟩ S' _ (H.way (n:=n) hv hc) hv e
   ·cases e;exact H
theorem A7 {c v:Nat} (hc:97<=c/\c<=122):∀ (k:Nat) (S S':St) (o o':Option Nat),WF S->v < S.lg.length->up1 c v k S o=some (S',o')->WF S':=by
 intro k
 induction k with
 | zero =>
  intro S S' o o' H hv e
  cases o with
  | none=>cases (show some (S,none)=some (S',o') from e);exact H
  | some n=>cases e
 | succ k ih =>
  intro S S' o o' H hv e
  cases o with
  | none=>cases (show some (S,none)=some (S',o') from e);exact H
  | some n =>
   unfold up1 at e
   split at e
   ·cases e;exact H
   ·exact ih ⟨S.lg,S.lk,S.wy.set n (pW (S.wy.getD n []) c v)⟩ S' _ o' (H.way (n:=n) hv hc) hv e
theorem hU {α:Type} {x y:List α} {a b:α} (h:x++[a] <:+ y++[b]):a=b/\x <:+ y:=by
 obtain ⟨t,e⟩:=h
 rw [← ZJ] at e
 obtain ⟨e1,e2⟩:=List.append_inj' e rfl
 exact ⟨by simpa using e2,⟨t,e1⟩⟩
theorem gn {α:Type} {x y:List α} (a:α) (h:x <:+ y):x++[a] <:+ y++[a]:=by
 obtain ⟨t,e⟩:=h
 exact ⟨t,by rw [← e,ZJ]⟩
noncomputable def gT (nd:Wd->Option Nat) (old l h:Nat) (x:Wd):Option Nat:=if nd x=some old/\x.length<=l then some h else nd x
theorem I.split {fr:Option Nat} {S:St} {nd:Wd->Option Nat} {wd:List Wd} (H:I fr S nd wd) {n c old:Nat} (hn:n < wd.length) (hf:some n ≠ fr) (hc:97<=c/\c<=122) (ho:gW (S.wy.getD n []) c=some old) (hof:some old ≠ fr) (hfr:fr ≠ some wd.length) (hne:S.lg.getD old 0 ≠ S.lg.getD n 0+1) (hk:(W wd n).length < 1000) :
  ∃ S',njb S n c=some (S',S.lg.length)/\I fr S' (gT nd old ((W wd n).length+1) wd.length) (wd++[W wd n++[c]]):=by
 have hL:S.lg.length=wd.length:=H.len.symm
 have hw:=H.way hn ho
 have hold:=H.lt hw
 have hsf:=H.sf hw
 have lw:(W wd n++[c]).length=(W wd n).length+1:=by rw [Zt];rfl
 rw [H.lg old hold,H.lg n hn] at hne
 have hlt:(W wd n).length+1 < (W wd old).length:=by
  have:=hsf.length_le
  rw [lw] at this
  omega
 have o0:old ≠ 0:=fun e=>by
  rw [e,H.wz] at hlt
  simp at hlt
 have hLp:0 < wd.length:=by rw [H.len];exact H.wf.pos
 have l1:S.lk.length=wd.length:=by rw [H.wf.lk,hL]
 have l2:S.wy.length=wd.length:=by rw [H.wf.wy,hL]
 have lk':∀ m,((S.lk++[S.lk.getD old none]).set old (some S.lg.length)).getD m none=if m=old then some wd.length else if m=wd.length then S.lk.getD old none else S.lk.getD m none:=fun m=>by
  rw [gm,bN,l1,hL]
  by_cases h:m=old
  ·rw [Zq ⟨h.symm,by rw [Zt,l1];omega⟩,Zq h]
  ·rw [Zm (fun z=>h z.1.symm),Zm h]
 have wy':∀ m,(S.wy++[S.wy.getD old []]).getD m []=if m=wd.length then S.wy.getD old [] else S.wy.getD m []:=fun m=>by rw [bN,l2]
 have wyl:∀ m,m < wd.length->(S.wy++[S.wy.getD old []]).getD m []=S.wy.getD m []:=fun m hm=>by rw [wy',Zm (ZZ hm)]
 obtain ⟨w2,e1,e2,e3⟩:=H.climb2 (c:=c) (old:=old) (v:=S.lg.length) 1000 ⟨S.lg++[S.lg.getD n 0+1],(S.lk++[S.lk.getD old none]).set old (some S.lg.length),S.wy++[S.wy.getD old []]⟩ n hn hf hk (fun m hm hs=>by
   have:=hs.length_le
   show ((S.lk++[S.lk.getD old none]).set old (some S.lg.length)).getD m none=_
   rw [lk',Zm (fun e=>by rw [e] at this;omega),Zm (ZZ hm)])
  (by show _<=(S.wy++[S.wy.getD old []]).length;rw [Zt,l2];omega)
  (fun m m' hm hm' hs hs' h=>by
   have h':gW ((S.wy++[S.wy.getD old []]).getD m []) c=some old:=h
   show gW ((S.wy++[S.wy.getD old []]).getD m' []) c=some old
   rw [wyl m hm] at h'
   rw [wyl m' hm',H.wy (H.top hm') c]
   rw [H.wy (H.top hm) c] at h'
   exact H.iv h' (gn c hs) ((gn c hs').trans hsf))
 have wn:=H.wf.wnd old
 have W1:=H.wf.more (l:=S.lg.getD n 0+1) (o:=S.lk.getD old none) (w:=S.wy.getD old []) (fun m hm=>H.wf.up old m hm) (fun d m hm=>H.wf.on old d m hm) wn.1 wn.2
 have hlen:(S.lg++[S.lg.getD n 0+1]).length=S.lg.length+1:=by rw [Zt];rfl
 have W2:=W1.link (n:=old) (v:=S.lg.length) (by show S.lg.length < (S.lg++[S.lg.getD n 0+1]).length;omega)
 have wfS:=BL hc 1000 _ _ _ W2 (by show S.lg.length < (S.lg++[S.lg.getD n 0+1]).length;omega) e1
 refine ⟨⟨S.lg++[S.lg.getD n 0+1],(S.lk++[S.lk.getD old none]).set old (some S.lg.length),w2⟩,?_,?_⟩
 ·unfold njb
  rw [ho,Zu,Zm (by rw [H.lg old hold,H.lg n hn];exact hne),e1]
  rfl
 have Wn:∀ m,W (wd++[W wd n++[c]]) m=if m=wd.length then W wd n++[c] else W wd m:=fun m=>bN wd _ _ m
 have WL:W (wd++[W wd n++[c]]) wd.length=W wd n++[c]:=by rw [Wn,Zq rfl]
 have Wl:∀ {m},m < wd.length->W (wd++[W wd n++[c]]) m=W wd m:=fun {m} hm=>by rw [Wn,Zm (ZZ hm)]
 have eQ:(wd++[W wd n++[c]]).length=wd.length+1:=by rw [Zt];rfl
 have tell:∀ {x m},gT nd old ((W wd n).length+1) wd.length x=some m->(m=wd.length/\nd x=some old/\x.length<=(W wd n).length+1)\/(m < wd.length/\nd x=some m/\¬ (m=old/\x.length<=(W wd n).length+1)):=fun {x m} h=>by
  unfold gT at h
  split at h
  ·rename_i q
   cases h
   exact .inl ⟨rfl,q.1,q.2⟩
  ·rename_i q
   exact .inr ⟨H.lt h,h,fun z=>q ⟨by rw [h,z.1],z.2⟩⟩
 have tL:∀ {x},nd x=some old->x.length<=(W wd n).length+1->gT nd old ((W wd n).length+1) wd.length x=some wd.length:=fun {x} h1 h2=>Zq ⟨h1,h2⟩
 have tO:∀ {x m},nd x=some m->¬ (m=old/\x.length<=(W wd n).length+1)->gT nd old ((W wd n).length+1) wd.length x=some m:=fun {x m} h1 h2=>by
  unfold gT
  rw [Zm (fun z=>h2 ⟨by rw [h1] at z;exact Zk z.1,z.2⟩),h1]
 have some_:∀ {x m},nd x=some m->∃ m',gT nd old ((W wd n).length+1) wd.length x=some m':=fun {x m} h=>by
  unfold gT
  split
  ·exact ⟨_,rfl⟩
  ·exact ⟨m,h⟩
 have un:∀ {x m},gT nd old ((W wd n).length+1) wd.length x=some m->∃ m',nd x=some m':=fun {x m} h=>(tell h).elim (fun z=>⟨_,z.2.1⟩) fun z=>⟨_,z.2.1⟩
 refine ⟨wfS,by rw [eQ,hlen,hL],fun m hm=>?_,tO H.z (fun z=>o0 z.1.symm),by rw [Wl hLp];exact H.wz,fun {x m} h=>by rcases tell h with z | z <;> omega,fun {x m} h=>?_,fun {m} hm=>?_,fun {x y m} h hxy hy=>?_,fun {x d m} h=>?_,fun {x y m} h hxy=>?_,?_,fun {m} h0 hm hmf=>?_,fun {x m} h d=>?_⟩
 ·rw [eQ] at hm
  show (S.lg++[S.lg.getD n 0+1]).getD m 0=_
  rw [bN,hL]
  by_cases e:m=wd.length
  ·rw [Zq e,e,WL,H.lg n hn,lw]
  ·rw [Zm e,Wl (by omega),H.lg m (by omega)]
 ·rcases tell h with ⟨rfl,z1,z2⟩ | ⟨z0,z1,_⟩
  ·rw [WL]
   exact cR (H.sf z1) hsf (by rw [lw];exact z2)
  ·rw [Wl z0]
   exact H.sf z1
 ·rw [eQ] at hm
  by_cases e:m=wd.length
  ·rw [e,WL]
   exact tL hw (by rw [lw];exact Zg _)
  ·rw [Wl (by omega)]
   exact tO (H.top (by omega)) (fun z=>by have:=z.2;rw [z.1] at this;omega)
 ·rcases tell h with ⟨rfl,z1,z2⟩ | ⟨z0,z1,z2⟩
  ·rw [WL] at hy
   have:=hy.length_le
   rw [lw] at this
   exact tL (H.iv z1 hxy (hy.trans hsf)) this
  ·rw [Wl z0] at hy
   exact tO (H.iv z1 hxy hy) (fun z=>z2 ⟨z.1,ZG hxy.length_le z.2⟩)
 ·obtain ⟨m',h'⟩:=un h
  obtain ⟨q,hq⟩:=H.pre h'
  exact some_ hq
 ·obtain ⟨m',h'⟩:=un h
  obtain ⟨q,hq⟩:=H.suf h' hxy
  exact some_ hq
 ·show ((S.lk++[S.lk.getD old none]).set old (some S.lg.length)).getD 0 none=none
  rw [lk',Zm (Yk o0),Zm (by omega)]
  exact H.lk0
 ·rw [eQ] at hm
  show ∃ q,((S.lk++[S.lk.getD old none]).set old (some S.lg.length)).getD m none=some q/\_
  rw [lk',eQ]
  obtain ⟨q,q1,⟨q2,q2'⟩,q3,q4,q5⟩:=H.lk (Xh o0) hold hof
  obtain ⟨lo,_⟩:=H.low hof q1 hw
  rw [lw] at lo
  by_cases e:m=old
  ·subst e
   rw [Zq rfl]
   refine ⟨wd.length,rfl,⟨by omega,fun z=>hfr z.symm⟩,?_,?_,fun y hy hl=>?_⟩
   ·rw [WL,Wl hold];exact hsf
   ·rw [WL,Wl hold,lw];exact hlt
   ·rw [WL,lw] at hl
    rw [Wl hold] at hy
    exact tO (H.iv hw (cR hsf hy (by rw [lw];omega)) hy) (fun z=>by have:=z.2;omega)
  ·rw [Zm e]
   by_cases eL:m=wd.length
   ·subst eL
    rw [Zq rfl,q1]
    refine ⟨q,rfl,⟨by omega,q2'⟩,?_,?_,fun y hy hl=>?_⟩
    ·rw [WL,Wl q2];exact cR q3 hsf (by rw [lw];omega)
    ·rw [WL,Wl q2,lw];exact lo
    ·rw [WL] at hy
     rw [Wl q2] at hl
     have:=hy.length_le
     rw [lw] at this
     exact tL (q5 y (hy.trans hsf) hl) this
   ·rw [Zm eL]
    have hm':m < wd.length:=by omega
    obtain ⟨r,r1,⟨r2,r2'⟩,r3,r4,r5⟩:=H.lk h0 hm' hmf
    rw [r1]
    refine ⟨r,rfl,⟨by omega,r2'⟩,by rw [Wl r2,Wl hm'];exact r3,by rw [Wl r2,Wl hm'];exact r4,fun y hy hl=>?_⟩
    rw [Wl hm'] at hy
    rw [Wl r2] at hl
    exact tO (r5 y hy hl) (fun z=>e z.1)
 ·show gW (w2.getD m []) d=_
  rw [e3 m d]
  show (if d=c/\m < wd.length/\W wd m <:+ W wd n/\gW ((S.wy++[S.wy.getD old []]).getD m []) c=some old then some S.lg.length else gW ((S.wy++[S.wy.getD old []]).getD m []) d)=_
  rcases tell h with ⟨rfl,z1,z2⟩ | ⟨z0,z1,z2⟩
  ·rw [Zm (fun z=>Yf _ z.2.1),wy',Zq rfl,H.wy z1 d]
   unfold gT
   rw [Zm]
   intro z
   have h1:=z.1
   rw [← H.wy z1 d,H.wy (H.top hold) d] at h1
   have:=(H.sf h1).length_le
   rw [Zt,ZI] at this
   omega
  ·rw [wyl m z0,H.wy z1 c,H.wy z1 d]
   unfold gT
   by_cases hq:nd (x++[d])=some old/\(x++[d]).length<=(W wd n).length+1
   ·have hs2:=cR (H.sf hq.1) hsf (by rw [lw];exact hq.2)
    obtain ⟨rfl,hx⟩:=hU hs2
    obtain ⟨m',m1,m2⟩:=H.up' hn hf hx
    rw [z1] at m1
    cases m1
    rw [Zq ⟨rfl,z0,m2,hq.1⟩,Zq hq,hL]
   ·rw [Zm hq,Zm]
    rintro ⟨rfl,_,a3,a4⟩
    refine hq ⟨a4,?_⟩
    have b1:=(H.sf z1).length_le
    have b2:=a3.length_le
    rw [Zt,ZI]
    omega
end AU
end
section
namespace AU
open Classical in
noncomputable def gK (nd:Wd->Option Nat) (w:Wd) (f:Nat) (x:Wd):Option Nat:=match nd x with
 | some m=>some m
 | none=>if x <:+ w then some f else none
theorem di {nd:Wd->Option Nat} {w:Wd} {f m:Nat} {x:Wd} (h:nd x=some m):gK nd w f x=some m:=by
 unfold gK
 rw [h]
theorem fj {nd:Wd->Option Nat} {w:Wd} {f:Nat} {x:Wd} (h:nd x=none) (hx:x <:+ w):gK nd w f x=some f:=by
 unfold gK
 rw [h]
 exact Zq hx
theorem cA {nd:Wd->Option Nat} {w:Wd} {f m:Nat} {x:Wd} (h:gK nd w f x=some m):nd x=some m\/(m=f/\nd x=none/\x <:+ w):=by
 unfold gK at h
 split at h
 ·rename_i q e
  cases h
  exact .inl e
 ·rename_i e
  split at h
  ·rename_i hx
   cases h
   exact .inr ⟨rfl,e,hx⟩
  ·cases h
theorem w6 {α:Type} {y t:List α} {c:α} (h:y <:+ t++[c]) (hy:y ≠ []):∃ y',y=y'++[c]/\y' <:+ t:=by
 rcases List.eq_nil_or_concat y with e | ⟨y',b,e⟩
 ·exact absurd e hy
 ·rw [List.concat_eq_append] at e
  subst e
  obtain ⟨e1,e2⟩:=hU h
  exact ⟨y',by rw [e1],e2⟩
section
variable {S:St} {nd:Wd->Option Nat} {wd:List Wd}
theorem I.fresh (H:I none S nd wd) {h c:Nat} (hh:h < wd.length) (hc:97<=c/\c<=122) (hn:gW (S.wy.getD h []) c=none) (hk:(W wd h).length < 1000) :
  ∃ S2 o',up1 c S.lg.length 1000 ⟨S.lg++[S.lg.getD h 0+1],S.lk++[some 0],S.wy++[[]]⟩ (some h)=some (S2,o')/\I (some wd.length) S2 (gK nd (W wd h++[c]) wd.length) (wd++[W wd h++[c]])/\S2.lk.getD wd.length none=some 0/\S2.lg.length=S.lg.length+1 ∧
   (∀ m,m < wd.length->(gW (S.wy.getD m []) c).isSome->gW (S2.wy.getD m []) c=gW (S.wy.getD m []) c) ∧
   (o'=none->∀ m,m < wd.length->W wd m <:+ W wd h->gW (S.wy.getD m []) c=none) ∧
   ∀ p,o'=some p->p < wd.length/\W wd p <:+ W wd h/\(gW (S.wy.getD p []) c).isSome/\∀ m,m < wd.length->W wd m <:+ W wd h->(W wd p).length < (W wd m).length->gW (S.wy.getD m []) c=none:=by
 have hL:S.lg.length=wd.length:=H.len.symm
 have l1:S.lk.length=wd.length:=by rw [H.wf.lk,hL]
 have l2:S.wy.length=wd.length:=by rw [H.wf.wy,hL]
 have hLp:0 < wd.length:=by rw [H.len];exact H.wf.pos
 have lk':∀ m,(S.lk++[some 0]).getD m none=if m=wd.length then some 0 else S.lk.getD m none:=fun m=>by rw [bN,l1]
 have wy':∀ m,(S.wy++[[]]).getD m []=if m=wd.length then [] else S.wy.getD m []:=fun m=>by rw [bN,l2]
 have wyl:∀ m,m < wd.length->(S.wy++[[]]).getD m []=S.wy.getD m []:=fun m hm=>by rw [wy',Zm (ZZ hm)]
 have nt:nd (W wd h++[c])=none:=by rw [← H.wy (H.top hh) c];exact hn
 obtain ⟨w2,o',e1,e2,e3,e4,e5⟩:=H.climb1 (c:=c) (v:=S.lg.length) 1000 ⟨S.lg++[S.lg.getD h 0+1],S.lk++[some 0],S.wy++[[]]⟩ h hh (fun z=>nomatch z) hk (fun m hm _=>by
   show (S.lk++[some 0]).getD m none=_
   rw [lk',Zm (ZZ hm)])
  (by show _<=(S.wy++[[]]).length;rw [Zt,l2];omega)
  (fun m m' hm hm' hs hs' q=>by
   have q':(gW ((S.wy++[[]]).getD m' []) c).isSome:=q
   show (gW ((S.wy++[[]]).getD m []) c).isSome
   rw [wyl m' hm',H.wy (H.top hm') c] at q'
   rw [wyl m hm,H.wy (H.top hm) c]
   obtain ⟨r,hr⟩:=Z6.mp q'
   obtain ⟨r',hr'⟩:=H.suf hr (gn c hs)
   rw [hr']
   rfl)
 have hlen:(S.lg++[S.lg.getD h 0+1]).length=S.lg.length+1:=by rw [Zt];rfl
 have W1:=H.wf.more (l:=S.lg.getD h 0+1) (o:=some 0) (w:=[]) (fun m hm=>by cases hm;exact H.wf.pos) (fun d m hm=>by cases hm) Z1 (fun p hp=>nomatch hp)
 have wfS:=A7 hc 1000 _ _ _ _ W1 (by show S.lg.length < (S.lg++[S.lg.getD h 0+1]).length;omega) e1
 have lw:(W wd h++[c]).length=(W wd h).length+1:=by rw [Zt];rfl
 have Wn:∀ m,W (wd++[W wd h++[c]]) m=if m=wd.length then W wd h++[c] else W wd m:=fun m=>bN wd _ _ m
 have WL:W (wd++[W wd h++[c]]) wd.length=W wd h++[c]:=by rw [Wn,Zq rfl]
 have Wl:∀ {m},m < wd.length->W (wd++[W wd h++[c]]) m=W wd m:=fun {m} hm=>by rw [Wn,Zm (ZZ hm)]
 have eQ:(wd++[W wd h++[c]]).length=wd.length+1:=by rw [Zt];rfl
 refine ⟨⟨S.lg++[S.lg.getD h 0+1],S.lk++[some 0],w2⟩,o',e1,?_,by show (S.lk++[some 0]).getD wd.length none=_;rw [lk',Zq rfl],hlen,fun m hm hs=>?_,fun ho m hm hs=>?_,fun p hp=>?_⟩
 rotate_left
 ·show gW (w2.getD m []) c=_
  rw [e3 m c]
  show (if c=c/\m < wd.length/\W wd m <:+ W wd h/\gW ((S.wy++[[]]).getD m []) c=none then some S.lg.length else gW ((S.wy++[[]]).getD m []) c)=_
  rw [wyl m hm,Zm (fun z=>by rw [z.2.2.2] at hs;cases hs)]
 ·have:=e4 ho m hm hs
  have this':gW ((S.wy++[[]]).getD m []) c=none:=this
  rw [wyl m hm] at this'
  exact this'
 ·obtain ⟨p1,p2,p3,p4⟩:=e5 p hp
  have p3':(gW ((S.wy++[[]]).getD p []) c).isSome:=p3
  rw [wyl p p1] at p3'
  refine ⟨p1,p2,p3',fun m hm hs hl=>?_⟩
  have:=p4 m hm hs hl
  have this':gW ((S.wy++[[]]).getD m []) c=none:=this
  rw [wyl m hm] at this'
  exact this'
 refine ⟨wfS,by rw [eQ];show _=(S.lg++[S.lg.getD h 0+1]).length;rw [hlen,hL],fun m hm=>?_,di H.z,by rw [Wl hLp];exact H.wz,fun {x m} q=>?_,fun {x m} q=>?_,fun {m} hm=>?_,fun {x y m} q hxy hy=>?_,fun {x d m} q=>?_,fun {x y m} q hxy=>?_,?_,fun {m} h0 hm hmf=>?_,fun {x m} q d=>?_⟩
 ·rw [eQ] at hm
  show (S.lg++[S.lg.getD h 0+1]).getD m 0=_
  rw [bN,hL]
  by_cases e:m=wd.length
  ·rw [Zq e,e,WL,H.lg h hh,lw]
  ·rw [Zm e,Wl (by omega),H.lg m (by omega)]
 ·rw [eQ]
  rcases cA q with z | z
  ·have:=H.lt z;omega
  ·omega
 ·rcases cA q with z | ⟨rfl,_,z⟩
  ·rw [Wl (H.lt z)];exact H.sf z
  ·rw [WL];exact z
 ·rw [eQ] at hm
  by_cases e:m=wd.length
  ·rw [e,WL];exact fj nt (Yz _)
  ·rw [Wl (by omega)];exact di (H.top (by omega))
 ·rcases cA q with z | ⟨rfl,z1,z2⟩
  ·rw [Wl (H.lt z)] at hy
   exact di (H.iv z hxy hy)
  ·rw [WL] at hy
   refine fj ?_ hy
   cases e:nd y with
   | none=>rfl
   | some r =>
    obtain ⟨r',hr⟩:=H.suf e hxy
    rw [z1] at hr
    cases hr
 ·rcases cA q with z | ⟨_,_,z⟩
  ·obtain ⟨r,hr⟩:=H.pre z
   exact ⟨r,di hr⟩
  ·obtain ⟨_,hx⟩:=hU z
   obtain ⟨r,hr⟩:=H.suf (H.top hh) hx
   exact ⟨r,di hr⟩
 ·rcases cA q with z | ⟨_,_,z⟩
  ·obtain ⟨r,hr⟩:=H.suf z hxy
   exact ⟨r,di hr⟩
  ·cases e:nd x with
   | none=>exact ⟨_,fj e (hxy.trans z)⟩
   | some r=>exact ⟨r,di e⟩
 ·show (S.lk++[some 0]).getD 0 none=none
  rw [lk',Zm (by omega)]
  exact H.lk0
 ·rw [eQ] at hm
  have hm':m < wd.length:=by
   have:m ≠ wd.length:=fun e=>hmf (by rw [e])
   omega
  show ∃ q,(S.lk++[some 0]).getD m none=some q/\_
  rw [lk',Zm (ZZ hm'),eQ]
  obtain ⟨r,r1,⟨r2,_⟩,r3,r4,r5⟩:=H.lk h0 hm' (fun z=>nomatch z)
  refine ⟨r,r1,⟨by omega,fun z=>?_⟩,by rw [Wl r2,Wl hm'];exact r3,by rw [Wl r2,Wl hm'];exact r4,fun y hy hl=>?_⟩
  ·have:=Zk z
   omega
  ·rw [Wl hm'] at hy
   rw [Wl r2] at hl
   exact di (r5 y hy hl)
 ·show gW (w2.getD m []) d=_
  rw [e3 m d]
  show (if d=c/\m < wd.length/\W wd m <:+ W wd h/\gW ((S.wy++[[]]).getD m []) c=none then some S.lg.length else gW ((S.wy++[[]]).getD m []) d)=_
  rcases cA q with z | ⟨rfl,z1,z2⟩
  ·have hm:=H.lt z
   rw [wyl m hm,H.wy z c,H.wy z d]
   cases e:nd (x++[d]) with
   | some r =>
    rw [di e,Zm]
    rintro ⟨rfl,_,_,a⟩
    rw [e] at a
    cases a
   | none =>
    by_cases hs:x++[d] <:+ W wd h++[c]
    ·obtain ⟨rfl,hx⟩:=hU hs
     obtain ⟨m',m1,m2⟩:=H.up' hh (fun z=>nomatch z) hx
     rw [z] at m1
     cases m1
     rw [fj e hs,Zq ⟨rfl,hm,m2,e⟩,hL]
    ·have:gK nd (W wd h++[c]) wd.length (x++[d])=none:=by
      unfold gK
      rw [e]
      exact Zm hs
     rw [this,Zm]
     rintro ⟨rfl,_,a,_⟩
     exact hs (gn d ((H.sf z).trans a))
  ·rw [Zm (fun a=>Yf _ a.2.1),wy',Zq rfl]
   have e:nd (x++[d])=none:=by
    cases e:nd (x++[d]) with
    | none=>rfl
    | some r =>
     obtain ⟨r',hr⟩:=H.pre e
     rw [z1] at hr
     cases hr
   have:gK nd (W wd h++[c]) wd.length (x++[d])=none:=by
    unfold gK
    rw [e]
    refine Zm fun hs=>?_
    obtain ⟨_,hx⟩:=hU hs
    obtain ⟨r,hr⟩:=H.suf (H.top hh) hx
    rw [z1] at hr
    cases hr
   rw [this]
   rfl
theorem I.fix {f m:Nat} (H:I (some f) S nd wd) (hf:f < wd.length) (hm:m < wd.length) (hs:W wd m <:+ W wd f) (hl:(W wd m).length < (W wd f).length) (hy:∀ y,y <:+ W wd f->(W wd m).length < y.length->nd y=some f):I none ⟨S.lg,S.lk.set f (some m),S.wy⟩ nd wd:=by
 have f0:f ≠ 0:=fun e=>by
  rw [e,H.wz] at hl
  simp at hl
 have lf:f < S.lk.length:=by rw [H.wf.lk,← H.len];exact hf
 refine ⟨H.wf.link (by rw [← H.len];exact hm),H.len,H.lg,H.z,H.wz,H.lt,H.sf,H.top,H.iv,H.pre,H.suf,?_,fun {n} h0 hn _=>?_,H.wy⟩
 ·show (S.lk.set f (some m)).getD 0 none=none
  rw [gm,Zm (fun z=>f0 z.1)]
  exact H.lk0
 ·show ∃ q,(S.lk.set f (some m)).getD n none=some q/\_
  rw [gm]
  by_cases e:f=n
  ·subst e
   rw [Zq ⟨rfl,lf⟩]
   exact ⟨m,rfl,⟨hm,fun z=>nomatch z⟩,hs,hl,hy⟩
  ·rw [Zm (fun z=>e z.1)]
   obtain ⟨r,r1,⟨r2,_⟩,r3⟩:=H.lk h0 hn (fun z=>e (Zk z).symm)
   exact ⟨r,r1,⟨r2,fun z=>nomatch z⟩,r3⟩
end
end AU
end
section
namespace AU
structure Fine (nd nd':Wd->Option Nat) (w:Wd):Prop where
 eq:∀ {x y m n},nd' x=some m->nd' y=some n->(m=n ↔ nd x=nd y/\(x <:+ w ↔ y <:+ w))
section
variable {fr:Option Nat} {S:St} {nd:Wd->Option Nat} {wd:List Wd}
theorem I.just (H:I fr S nd wd) {n c old:Nat} (hn:n < wd.length) (hf:some n ≠ fr) (hc:97<=c/\c<=122) (ho:gW (S.wy.getD n []) c=some old) (hof:some old ≠ fr) (hfr:fr ≠ some wd.length) (hk:(W wd n).length < 1000) :
  ∃ S' r nd' wd',njb S n c=some (S',r)/\I fr S' nd' wd'/\r < wd'.length/\some r ≠ fr/\W wd' r=W wd n++[c]/\(∀ m,m < wd.length->W wd' m=W wd m)/\wd.length<=wd'.length/\wd'.length<=wd.length+1 ∧
   (∀ x,(∃ m,nd' x=some m) ↔ ∃ m,nd x=some m)/\Fine nd nd' (W wd n++[c])/\∀ x f,f ≠ old->nd x=some f->nd' x=some f:=by
 have hw:=H.way hn ho
 have hold:=H.lt hw
 have hsf:=H.sf hw
 have lw:(W wd n++[c]).length=(W wd n).length+1:=by rw [Zt];rfl
 by_cases hne:S.lg.getD old 0=S.lg.getD n 0+1
 ·have hWo:W wd old=W wd n++[c]:=by
   have:=hne
   rw [H.lg old hold,H.lg n hn] at this
   exact (hsf.eq_of_length (by rw [lw,this])).symm
  refine ⟨S,old,nd,wd,?_,H,hold,hof,hWo,fun m _=>rfl,Zg _,Xc _,fun x=>Iff.rfl,⟨fun {x y m k} h1 h2=>?_⟩,fun x f _ h=>h⟩
  ·unfold njb
   rw [ho,Zu,Zq hne]
  ·constructor
   ·rintro rfl
    exact ⟨by rw [h1,h2],fun h=>by rw [← hWo] at h ⊢;exact H.all hold hof h1 h2 h,fun h=>by rw [← hWo] at h ⊢;exact H.all hold hof h2 h1 h⟩
   ·rintro ⟨h,_⟩
    rw [h1,h2] at h
    exact Zk h
 ·obtain ⟨S',e1,H'⟩:=H.split hn hf hc ho hof hfr hne hk
  have WL:W (wd++[W wd n++[c]]) wd.length=W wd n++[c]:=(bN wd _ _ _).trans (Zq rfl)
  have Wl:∀ m,m < wd.length->W (wd++[W wd n++[c]]) m=W wd m:=fun m hm=>(bN wd _ _ m).trans (Zm (ZZ hm))
  have eQ:(wd++[W wd n++[c]]).length=wd.length+1:=by rw [Zt];rfl
  have inv:∀ {x m},gT nd old ((W wd n).length+1) wd.length x=some m->(m=wd.length/\nd x=some old/\x.length<=(W wd n).length+1)\/nd x=some m:=fun {x m} h=>by
   unfold gT at h
   split at h
   ·rename_i q;cases h;exact .inl ⟨rfl,q.1,q.2⟩
   ·exact .inr h
  have sfx:∀ {x},nd x=some old->(x.length<=(W wd n).length+1 ↔ x <:+ W wd n++[c]):=fun {x} h=>⟨fun hl=>cR (H.sf h) hsf (by rw [lw];exact hl),fun hs=>by have:=hs.length_le;rw [lw] at this;exact this⟩
  refine ⟨S',S.lg.length,_,_,e1,H',by rw [eQ,← H.len];exact YT _,by rw [← H.len];exact fun z=>hfr z.symm,by rw [← H.len];exact WL,Wl,by omega,by omega,fun x=>⟨fun ⟨m,h⟩=>(inv h).elim (fun z=>⟨_,z.2.1⟩) fun z=>⟨_,z⟩,fun ⟨m,h⟩=>?_⟩,⟨fun {x y m k} h1 h2=>?_⟩,fun x f hfo h=>?_⟩
  ·unfold gT
   split
   ·exact ⟨_,rfl⟩
   ·exact ⟨m,h⟩
  ·constructor
   ·rintro rfl
    have hq:wd.length < (wd++[W wd n++[c]]).length:=by omega
    have a1:=fun h=>H'.all hq (fun z=>hfr z.symm) h1 h2 h
    have a2:=fun h=>H'.all hq (fun z=>hfr z.symm) h2 h1 h
    rw [WL] at a1 a2
    refine ⟨?_,a1,a2⟩
    rcases inv h1 with ⟨z1,z2,_⟩ | z
    ·rcases inv h2 with ⟨_,y2,_⟩ | y
     ·rw [z2,y2]
     ·have:=H.lt y;omega
    ·rcases inv h2 with ⟨y1,_,_⟩ | y
     ·have:=H.lt z;omega
     ·rw [z,y]
   ·rintro ⟨h,hs⟩
    have:gT nd old ((W wd n).length+1) wd.length x=gT nd old ((W wd n).length+1) wd.length y:=by
     unfold gT
     rw [h]
     by_cases q:nd y=some old
     ·have e1:=sfx (show nd x=some old by rw [h,q])
      have e2:=sfx q
      by_cases l:y.length<=(W wd n).length+1
      ·rw [Zq ⟨q,e1.mpr (hs.mpr (e2.mp l))⟩,Zq ⟨q,l⟩]
      ·rw [Zm (fun z=>l (e2.mpr (hs.mp (e1.mp z.2)))),Zm (fun z=>l z.2)]
     ·rw [Zm (fun z=>q z.1),Zm (fun z=>q z.1)]
    rw [h1,h2] at this
    exact Zk this
  ·unfold gT
   rw [Zm (fun z=>hfo (by rw [h] at z;exact Zk z.1))]
   exact h
end
section
variable {S:St} {nd:Wd->Option Nat} {wd:List Wd}
theorem I.step (H:I none S nd wd) {h c:Nat} (hh:h < wd.length) (hc:97<=c/\c<=122) (hk:(W wd h).length+1 < 1000) :
  ∃ S' r nd' wd',hb S h c=some (S',r)/\I none S' nd' wd'/\r < wd'.length/\W wd' r=W wd h++[c]/\(∀ m,m < wd.length->W wd' m=W wd m)/\wd.length<=wd'.length/\wd'.length<=wd.length+2 ∧
   (∀ x,(∃ m,nd' x=some m) ↔ (∃ m,nd x=some m)\/x <:+ W wd h++[c])/\Fine nd nd' (W wd h++[c]):=by
 cases hg:gW (S.wy.getD h []) c with
 | some old =>
  obtain ⟨S',r,nd',wd',e,H',h1,_,h2,h3,h4,h5,h6,h7,_⟩:=H.just hh (fun z=>nomatch z) hc hg (fun z=>nomatch z) (fun z=>nomatch z) (by omega)
  refine ⟨S',r,nd',wd',?_,H',h1,h2,h3,h4,by omega,fun x=>(h6 x).trans ⟨.inl,fun z=>z.elim id fun z=>H.suf (H.way hh hg) z⟩,h7⟩
  unfold hb
  rw [hg]
  exact e
 | none =>
  have hL:S.lg.length=wd.length:=H.len.symm
  obtain ⟨S2,o',e1,H2,k0,k1,k2,k3,k4⟩:=H.fresh hh hc hg (by omega)
  have WL:W (wd++[W wd h++[c]]) wd.length=W wd h++[c]:=(bN wd _ _ _).trans (Zq rfl)
  have Wl:∀ m,m < wd.length->W (wd++[W wd h++[c]]) m=W wd m:=fun m hm=>(bN wd _ _ m).trans (Zm (ZZ hm))
  have eQ:(wd++[W wd h++[c]]).length=wd.length+1:=by rw [Zt];rfl
  have lw:(W wd h++[c]).length=(W wd h).length+1:=by rw [Zt];rfl
  have nt:nd (W wd h++[c])=none:=by rw [← H.wy (H.top hh) c];exact hg
  have ex:∀ x,(∃ m,gK nd (W wd h++[c]) wd.length x=some m) ↔ (∃ m,nd x=some m)\/x <:+ W wd h++[c]:=fun x=>⟨fun ⟨m,q⟩=>(cA q).elim (fun z=>.inl ⟨_,z⟩) fun z=>.inr z.2.2,fun q=>by
   cases e:nd x with
   | some m=>exact ⟨m,di e⟩
   | none=>exact q.elim (fun ⟨m,z⟩=>by rw [e] at z;cases z) fun z=>⟨_,fj e z⟩⟩
  have same:∀ {x y m n},gK nd (W wd h++[c]) wd.length x=some m->gK nd (W wd h++[c]) wd.length y=some n->(m=n ↔ nd x=nd y):=fun {x y m n} q1 q2=>by
   rcases cA q1 with z | ⟨z1,z2,_⟩
   ·rcases cA q2 with y' | ⟨y1,y2,_⟩
    ·rw [z,y'];exact ⟨fun e=>by rw [e],fun e=>Zk e⟩
    ·have:=H.lt z
     refine ⟨fun e=>by omega,fun e=>?_⟩
     rw [z,y2] at e;cases e
   ·rcases cA q2 with y' | ⟨y1,y2,_⟩
    ·have:=H.lt y'
     refine ⟨fun e=>by omega,fun e=>?_⟩
     rw [z2,y'] at e;cases e
    ·exact ⟨fun _=>by rw [z2,y2],fun _=>by rw [z1,y1]⟩
  have tails:∀ {y},y <:+ W wd h++[c]->y ≠ []->∀ {q},nd y=some q->∃ y' m,y=y'++[c]/\y' <:+ W wd h/\nd y'=some m/\m < wd.length/\W wd m <:+ W wd h/\(gW (S.wy.getD m []) c).isSome:=fun {y} hy hne {q} hq=>by
   obtain ⟨y',rfl,hy'⟩:=w6 hy hne
   obtain ⟨m,m1,m2⟩:=H.up' hh (fun z=>nomatch z) hy'
   exact ⟨y',m,rfl,hy',m1,H.lt m1,m2,by rw [H.wy m1 c,hq];rfl⟩
  unfold hb
  rw [hg,Zm (by simp),e1]
  cases o' with
  | none =>
   have kn:=k3 rfl
   have none_:∀ {y},y <:+ W wd h++[c]->y ≠ []->nd y=none:=fun {y} hy hne=>by
    cases e:nd y with
    | none=>rfl
    | some q =>
     obtain ⟨y',m,_,_,_,m3,m4,m5⟩:=tails hy hne e
     rw [kn m m3 m4] at m5
     cases m5
   have H3:=H2.fix (f:=wd.length) (m:=0) (by omega) (by omega) (by rw [H2.wz];exact Xm) (by rw [H2.wz,WL,lw];exact Nat.succ_pos _) (fun y hy hl=>by
    rw [WL] at hy
    rw [H2.wz] at hl
    exact fj (none_ hy (fun e=>by rw [e] at hl;cases hl)) hy)
   have eS:(⟨S2.lg,S2.lk.set wd.length (some 0),S2.wy⟩:St)=S2:=by
    have hl:wd.length < S2.lk.length:=by rw [H2.wf.lk,← H2.len,eQ];exact YT _
    have:S2.lk.set wd.length (some 0)=S2.lk:=by
     rw [Zs,Zr hl,Xs] at k0
     rw [← k0]
     exact XQ hl
    rw [this]
   rw [eS] at H3
   refine ⟨S2,S.lg.length,_,_,rfl,H3,by rw [eQ,hL];exact YT _,by rw [hL];exact WL,Wl,by omega,by omega,ex,⟨fun {x y m n} q1 q2=>?_⟩⟩
   rw [same q1 q2]
   refine ⟨fun e=>⟨e,?_⟩,fun e=>e.1⟩
   have key:∀ {x y m n},gK nd (W wd h++[c]) wd.length x=some m->gK nd (W wd h++[c]) wd.length y=some n->nd x=nd y->x <:+ W wd h++[c]->y <:+ W wd h++[c]:=fun {x y m n} q1 q2 e hx=>by
    rcases cA q2 with z | z
    ·rw [z] at e
     by_cases hx0:x=[]
     ·subst hx0
      rw [H.z] at e
      cases e
      rw [H.zero z]
      exact Xm
     ·rw [none_ hx hx0] at e
      cases e
    ·exact z.2.2
   exact ⟨key q1 q2 e,key q2 q1 e.symm⟩
  | some p =>
   obtain ⟨p1,p2,p3,p4⟩:=k4 p rfl
   obtain ⟨old,ho⟩:=Z6.mp p3
   have ho2:gW (S2.wy.getD p []) c=some old:=by rw [k2 p p1 p3];exact ho
   have ndw:=H.way p1 ho
   have hold:=H.lt ndw
   have ph:(W wd p).length < (W wd h).length:=by
    rcases Nat.lt_or_eq_of_le p2.length_le with l | l
    ·exact l
    ·have:=H.inj p1 hh (p2.eq_of_length l)
     rw [this,hg] at ho
     cases ho
   obtain ⟨S3,r,nd',wd',f1,H3,f2,f2',f3,f4,f5,f6,f7,f8,f9⟩:=H2.just (n:=p) (c:=c) (old:=old) (by omega) (fun z=>by have:=Zk z;omega) hc ho2 (fun z=>by have:=Zk z;omega) (fun z=>by have:=Zk z;omega) (by rw [Wl p p1];omega)
   rw [Wl p p1] at f3 f8
   have lwp:(W wd p++[c]).length=(W wd p).length+1:=by rw [Zt];rfl
   have WL':W wd' wd.length=W wd h++[c]:=by rw [f4 _ (by omega),WL]
   have none_:∀ {y},y <:+ W wd h++[c]->(W wd p).length+1 < y.length->nd y=none:=fun {y} hy hl=>by
    cases e:nd y with
    | none=>rfl
    | some q =>
     obtain ⟨y',m,rfl,m1,m2,m3,m4,m5⟩:=tails hy (fun e=>by rw [e] at hl;cases hl) e
     have l1:=(H.sf m2).length_le
     rw [Zt,ZI] at hl
     rw [p4 m m3 m4 (by omega)] at m5
     cases m5
   have H4:=H3.fix (f:=wd.length) (m:=r) (by omega) f2 (by rw [f3,WL'];exact gn c p2) (by rw [f3,WL',lwp,lw];omega) (fun y hy hl=>by
    rw [WL'] at hy
    rw [f3,lwp] at hl
    exact f9 y wd.length (by omega) (fj (none_ hy hl) hy))
   refine ⟨⟨S3.lg,S3.lk.set S.lg.length (some r),S3.wy⟩,S.lg.length,nd',wd',?_,by rw [hL];exact H4,by rw [hL];omega,by rw [hL];exact WL',fun m hm=>by rw [f4 m (by omega),Wl m hm],by omega,by omega,fun x=>(f7 x).trans (ex x),⟨fun {x y m n} q1 q2=>?_⟩⟩
   ·show (njb S2 p c).map _=_
    rw [f1]
    rfl
   ·rw [f8.eq q1 q2]
    obtain ⟨m1,g1⟩:=(f7 x).mp ⟨m,q1⟩
    obtain ⟨n1,g2⟩:=(f7 y).mp ⟨n,q2⟩
    have e1:gK nd (W wd h++[c]) wd.length x=gK nd (W wd h++[c]) wd.length y ↔ nd x=nd y:=by
     rw [g1,g2]
     exact ⟨fun e=>(same g1 g2).mp (Zk e),fun e=>by rw [(same g1 g2).mpr e]⟩
    rw [e1]
    have sw:W wd p++[c] <:+ W wd h++[c]:=gn c p2
    have kn:∀ {z q},nd z=some q->(z <:+ W wd h++[c] ↔ z <:+ W wd p++[c]):=fun {z q} hz=>⟨fun a=>cR a sw (by
     rw [lwp]
     refine ZE fun b=>?_
     rw [none_ a b] at hz
     cases hz),fun a=>a.trans sw⟩
    have un:∀ {z q},nd z=none->gK nd (W wd h++[c]) wd.length z=some q->z <:+ W wd h++[c]/\¬ z <:+ W wd p++[c]:=fun {z q} hz a=>by
     rcases cA a with b | b
     ·rw [hz] at b;cases b
     ·refine ⟨b.2.2,fun a=>?_⟩
      obtain ⟨q',hq⟩:=H.suf ndw a
      rw [hz] at hq
      cases hq
    refine ⟨fun ⟨a,b⟩=>⟨a,?_⟩,fun ⟨a,b⟩=>⟨a,?_⟩⟩
    ·cases ez:nd x with
     | some q=>rw [kn ez,kn (show nd y=some q by rw [← a,ez])];exact b
     | none =>
      have u1:=un ez g1
      have u2:=un (show nd y=none by rw [← a,ez]) g2
      exact ⟨fun _=>u2.1,fun _=>u1.1⟩
    ·cases ez:nd x with
     | some q=>rw [← kn ez,← kn (show nd y=some q by rw [← a,ez])];exact b
     | none =>
      have u1:=un ez g1
      have u2:=un (show nd y=none by rw [← a,ez]) g2
      exact ⟨fun z=>absurd z u1.2,fun z=>absurd z u2.2⟩
end
structure K (P:Wd->Prop) (S:St) (nd:Wd->Option Nat) (wd:List Wd):Prop where
 i:I none S nd wd
 nil:P []
 some:∀ x,(∃ m,nd x=some m) ↔ ∃ p,P p/\x <:+ p
 eq:∀ {x y m n},nd x=.some m->nd y=.some n->(m=n ↔ ∀ p,P p->(x <:+ p ↔ y <:+ p))
theorem K.congr {P Q:Wd->Prop} {S:St} {nd:Wd->Option Nat} {wd:List Wd} (H:K P S nd wd) (h:∀ p,P p ↔ Q p):K Q S nd wd:=by
 have:P=Q:=funext fun p=>propext (h p)
 rw [← this]
 exact H
noncomputable def nd0 (x:Wd):Option Nat:=if x=[] then some 0 else none
theorem eZ {x:Wd} {n:Nat} (h:nd0 x=some n):x=[]/\n=0:=by
 unfold nd0 at h
 split at h
 ·exact ⟨by assumption,(Zk h).symm⟩
 ·cases h
theorem K0:K (fun p=>p=[]) S0 nd0 [[]]:=by
 refine ⟨⟨Ag,rfl,fun n hn=>?_,rfl,rfl,fun {x n} h=>?_,fun {x n} h=>?_,fun {n} hn=>?_,fun {x y n} h h1 h2=>?_,fun {x c n} h=>?_,fun {x y n} h h1=>?_,rfl,fun {n} h1 h2=>?_,fun {x n} h c=>?_⟩,rfl,fun x=>?_,fun {x y m n} h1 h2=>?_⟩
 ·have:n=0:=Nat.lt_one_iff.mp hn
  subst this;rfl
 ·rw [(eZ h).2];exact Nat.one_pos
 ·rw [(eZ h).1];exact Xm
 ·have:n=0:=Nat.lt_one_iff.mp hn
  subst this;rfl
 ·have e:=(eZ h).2
  subst e
  have:y=[]:=Yb.mp h2
  subst this;rfl
 ·have:=(eZ h).1
  exact absurd this (by simp)
 ·have e:=(eZ h).1
  subst e
  have:x=[]:=Yb.mp h1
  subst this
  exact ⟨0,rfl⟩
 ·have:n < 1:=h2
  omega
 ·have e:=eZ h
  obtain ⟨rfl,rfl⟩:=e
  rfl
 ·constructor
  ·rintro ⟨m,h⟩
   exact ⟨[],rfl,by rw [(eZ h).1];exact Xm⟩
  ·rintro ⟨p,rfl,h⟩
   have:x=[]:=Yb.mp h
   subst this
   exact ⟨0,rfl⟩
 ·obtain ⟨rfl,rfl⟩:=eZ h1
  obtain ⟨rfl,rfl⟩:=eZ h2
  exact ⟨fun _ _ _=>Iff.rfl,fun _=>rfl⟩
section
variable {P:Wd->Prop} {S:St} {nd:Wd->Option Nat} {wd:List Wd}
theorem K.step (H:K P S nd wd) {h c:Nat} (hh:h < wd.length) (hc:97<=c/\c<=122) (hk:(W wd h).length+1 < 1000) :
  ∃ S' r nd' wd',hb S h c=.some (S',r)/\K (fun p=>P p\/p=W wd h++[c]) S' nd' wd'/\r < wd'.length/\W wd' r=W wd h++[c]/\(∀ m,m < wd.length->W wd' m=W wd m)/\wd.length<=wd'.length/\wd'.length<=wd.length+2:=by
 obtain ⟨S',r,nd',wd',e,H',h1,h2,h3,h4,h5,h6,h7⟩:=H.i.step hh hc hk
 refine ⟨S',r,nd',wd',e,⟨H',.inl H.nil,fun x=>?_,fun {x y m n} g1 g2=>?_⟩,h1,h2,h3,h4,h5⟩
 ·rw [h6,H.some]
  constructor
  ·rintro (⟨p,a,b⟩ | a)
   ·exact ⟨p,.inl a,b⟩
   ·exact ⟨_,.inr rfl,a⟩
  ·rintro ⟨p,a | rfl,b⟩
   ·exact .inl ⟨p,a,b⟩
   ·exact .inr b
 ·rw [h7.eq g1 g2]
  have un:∀ {z q},nd' z=.some q->nd z=none->z <:+ W wd h++[c]/\∀ p,P p->¬ z <:+ p:=fun {z q} a b=>⟨((h6 z).mp ⟨q,a⟩).elim (fun ⟨m,x⟩=>by rw [b] at x;cases x) id,fun p hp hz=>by
   obtain ⟨m,x⟩:=(H.some z).mpr ⟨p,hp,hz⟩
   rw [b] at x
   cases x⟩
  have old:nd x=nd y ↔ ∀ p,P p->(x <:+ p ↔ y <:+ p):=by
   cases ex:nd x with
   | some a =>
    cases ey:nd y with
    | some b=>exact ⟨fun e=>(H.eq ex ey).mp (Zk e),fun e=>by rw [(H.eq ex ey).mpr e]⟩
    | none =>
     refine ⟨fun e=>(nomatch e),fun e=>?_⟩
     obtain ⟨p,hp,hx⟩:=(H.some x).mp ⟨a,ex⟩
     exact absurd ((e p hp).mp hx) ((un g2 ey).2 p hp)
   | none =>
    cases ey:nd y with
    | some b =>
     refine ⟨fun e=>(nomatch e),fun e=>?_⟩
     obtain ⟨p,hp,hx⟩:=(H.some y).mp ⟨b,ey⟩
     exact absurd ((e p hp).mpr hx) ((un g1 ex).2 p hp)
    | none=>exact ⟨fun _ p hp=>⟨fun z=>absurd z ((un g1 ex).2 p hp),fun z=>absurd z ((un g2 ey).2 p hp)⟩,fun _=>rfl⟩
  rw [old]
  constructor
  ·rintro ⟨a,b⟩ p (hp | rfl)
   ·exact a p hp
   ·exact b
  ·intro a
   exact ⟨fun p hp=>a p (.inl hp),a _ (.inr rfl)⟩
end
theorem K.grow:∀ (w:Wq) {P:Wd->Prop} {S:St} {nd:Wd->Option Nat} {wd:List Wd} (H:K P S nd wd) {h:Nat},h < wd.length->P (W wd h)->(∀ c∈w,97<=c/\c<=122)->(W wd h).length+w.length < 1000 →
  ∃ S' r nd' wd',hg S h w=.some (S',r)/\K (fun p=>P p\/∃ v,v <+: w/\p=W wd h++v) S' nd' wd'/\r < wd'.length/\W wd' r=W wd h++w/\(∀ m,m < wd.length->W wd' m=W wd m)/\wd.length<=wd'.length/\wd'.length<=wd.length+2 * w.length:=by
 intro w
 induction w with
 | nil =>
  intro P S nd wd H h hh hp hw hk
  refine ⟨S,h,nd,wd,rfl,H.congr fun p=>⟨.inl,?_⟩,hh,(ZK _).symm,fun _ _=>rfl,Zg _,Zg _⟩
  rintro (a | ⟨v,a,rfl⟩)
  ·exact a
  ·rw [List.prefix_nil.mp a,ZK]
   exact hp
 | cons c w ih =>
  intro P S nd wd H h hh hp hw hk
  rw [Zn] at hk
  obtain ⟨S1,r1,nd1,wd1,e1,H1,a1,a2,a3,a4,a5⟩:=H.step hh (hw c Zx) (by omega)
  obtain ⟨S2,r2,nd2,wd2,e2,H2,b1,b2,b3,b4,b5⟩:=ih H1 a1 (.inr a2) (fun d hd=>hw d (Zy _ hd)) (by rw [a2,Zt,ZI];omega)
  refine ⟨S2,r2,nd2,wd2,?_,H2.congr fun p=>?_,b1,?_,fun m hm=>by rw [b3 m (by omega),a3 m hm],by omega,by rw [Zn];omega⟩
  ·show (hb S h c).bind _=_
   rw [e1]
   exact e2
  ·rw [a2]
   constructor
   ·rintro ((a | rfl) | ⟨v,a,rfl⟩)
    ·exact .inl a
    ·exact .inr ⟨[c],XM.mpr ⟨rfl,List.nil_prefix⟩,rfl⟩
    ·exact .inr ⟨c :: v,XM.mpr ⟨rfl,a⟩,by rw [ZJ];rfl⟩
   ·rintro (a | ⟨v,a,rfl⟩)
    ·exact .inl (.inl a)
    ·cases v with
     | nil=>rw [ZK];exact .inl (.inl hp)
     | cons d v =>
      obtain ⟨rfl,a'⟩:=XM.mp a
      exact .inr ⟨v,a',by rw [ZJ];rfl⟩
  ·rw [b2,a2,ZJ];rfl
noncomputable def mB (S:St):List Wd->Option St
 | []=>some S
 | t :: b=>(hg S 0 t).bind fun z=>mB z.1 b
theorem K.book:∀ (b:List Wd) {P:Wd->Prop} {S:St} {nd:Wd->Option Nat} {wd:List Wd} (H:K P S nd wd),(∀ t∈b,∀ c∈t,97<=c/\c<=122)->(∀ t∈b,t.length < 1000) →
  ∃ S' nd' wd',mB S b=.some S'/\K (fun p=>P p\/∃ t∈b,p <+: t) S' nd' wd'/\wd.length<=wd'.length/\wd'.length<=wd.length+2 * (b.map List.length).sum:=by
 intro b
 induction b with
 | nil =>
  intro P S nd wd H _ _
  refine ⟨S,nd,wd,rfl,H.congr fun p=>⟨.inl,?_⟩,Zg _,YS _ _⟩
  rintro (a | ⟨t,ht,_⟩)
  ·exact a
  ·cases ht
 | cons t b ih =>
  intro P S nd wd H ha hl
  have hz:0 < wd.length:=H.i.lt H.i.z
  obtain ⟨S1,r1,nd1,wd1,e1,H1,a1,a2,a3,a4,a5⟩:=H.grow t hz (by rw [H.i.wz];exact H.nil) (ha t Zx) (by rw [H.i.wz];have:=hl t Zx;simpa using this)
  obtain ⟨S2,nd2,wd2,e2,H2,b1,b2⟩:=ih H1 (fun t ht=>ha t (Zy _ ht)) (fun t ht=>hl t (Zy _ ht))
  refine ⟨S2,nd2,wd2,?_,H2.congr fun p=>?_,by omega,by rw [Zl,Xq];omega⟩
  ·show (hg S 0 t).bind _=_
   rw [e1]
   exact e2
  ·rw [H.i.wz]
   constructor
   ·rintro ((a | ⟨v,a,rfl⟩) | ⟨u,hu,a⟩)
    ·exact .inl a
    ·exact .inr ⟨t,Zx,a⟩
    ·exact .inr ⟨u,Zy _ hu,a⟩
   ·rintro (a | ⟨u,hu,a⟩)
    ·exact .inl (.inl a)
    ·rcases Zo.mp hu with rfl | hu
     ·exact .inl (.inr ⟨p,a,rfl⟩)
     ·exact .inr ⟨u,hu,a⟩
noncomputable def Hd (b:List Wd) (p:Wd):Prop:=p=[]\/∃ t∈b,p <+: t
theorem K.of (b:List Wd) (ha:∀ t∈b,∀ c∈t,97<=c/\c<=122) (hl:∀ t∈b,t.length < 1000):∃ S nd wd,mB S0 b=.some S/\K (Hd b) S nd wd/\wd.length<=1+2 * (b.map List.length).sum:=by
 obtain ⟨S,nd,wd,e,H,_,l⟩:=K0.book b ha hl
 exact ⟨S,nd,wd,e,H,l⟩
noncomputable def sk (w:List (Nat×Nat)):Wq:=(List.range' 97 26).filter fun c=>(gW w c).isSome
noncomputable def visit (w:List (Nat×Nat)):Wq->Wq->Wq
 | [],met=>met
 | c :: r,met=>visit w r (if (gW w c).getD 0∈met then met else met++[(gW w c).getD 0])
noncomputable def bfs (S:St):Nat->Wq->Nat->Option (Wq)
 | k,met,d=>if d < met.length then (match k with
  | 0=>none
  | k+1=>bfs S k (visit (S.wy.getD (met.getD d 0) []) (sk (S.wy.getD (met.getD d 0) [])) met) (d+1)) else some met
noncomputable def steps (S:St) (met:Wq) (n:Nat):List (Nat×Nat):=(sk (S.wy.getD n [])).map fun c=>(c,met.idxOf ((gW (S.wy.getD n []) c).getD 0))
noncomputable abbrev Row:=Nat×Nat×Option Nat×List (Nat×Nat)
noncomputable def row (S:St) (met:Wq) (n:Nat):Row:=match S.lk.getD n none with
 | none=>(0,0,none,steps S met n)
 | some l=>(S.lg.getD l 0+1,S.lg.getD n 0,some (met.idxOf l),steps S met n)
noncomputable def tab (S:St) (met:Wq):List Row:=met.map (row S met)
section
variable {S T:St} {f:Nat->Nat}
theorem lG {w:List (Nat×Nat)} {c:Nat} (h:c∈sk w):∃ m,gW w c=some m:=Z6.mp (Ya.mp h).2
theorem lh {w:List (Nat×Nat)} {N:Nat} (hw:∀ c m,gW w c=some m->m < N):∀ (r met:Wq),(∀ c∈r,∃ m,gW w c=some m)->(∀ x∈met,x < N)->∀ x∈visit w r met,x < N
 | [],met,_,hm=>hm
 | c :: r,met,hr,hm=>by
  refine lh hw r _ (fun d hd=>hr d (Zy _ hd)) ?_
  obtain ⟨m,e⟩:=hr c Zx
  rw [e,Xs]
  split
  ·exact hm
  ·intro x hx
   rcases Ze.mp hx with h | h
   ·exact hm x h
   ·rw [Zj.mp h];exact hw c m e
theorem getD_mem {l:Wq} {d:Nat} (h:d < l.length):l.getD d 0∈l:=by
 rw [Zs,Zr h]
 exact Z4 h
end
theorem j5 {w:List (Nat×Nat)}:∀ (r met:Wq),∃ l,visit w r met=met++l
 | [],met=>⟨[],(ZK _).symm⟩
 | c :: r,met=>by
  obtain ⟨l,e⟩:=j5 (w:=w) r (if (gW w c).getD 0∈met then met else met++[(gW w c).getD 0])
  show ∃ l,visit w r _=_
  rw [e]
  split
  ·exact ⟨l,rfl⟩
  ·exact ⟨_,ZJ _ _ _⟩
theorem lW {w:List (Nat×Nat)}:∀ (r met:Wq),met.Nodup->(visit w r met).Nodup
 | [],met,h=>h
 | c :: r,met,h=>by
  refine lW (w:=w) r _ ?_
  split
  ·exact h
  ·rename_i q
   rw [ZX]
   refine ⟨h,by simp,fun a ha b hb e=>q ?_⟩
   rw [Zj.mp hb] at e
   rw [← e]
   exact ha
theorem mU {w:List (Nat×Nat)}:∀ (r met:Wq),∀ c∈r,(gW w c).getD 0∈visit w r met
 | d :: r,met,c,hc=>by
  rcases Zo.mp hc with rfl | hc
  ·obtain ⟨l,e⟩:=j5 (w:=w) r (if (gW w c).getD 0∈met then met else met++[(gW w c).getD 0])
   show _∈visit w r _
   rw [e]
   refine Yw _ ?_
   split
   ·assumption
   ·exact ZW _ Zx
  ·exact mU r _ c hc
theorem wc {w:List (Nat×Nat)} (az:∀ p∈w,97<=p.1/\p.1<=122) {c m:Nat} (h:gW w c=some m):c∈sk w:=by
 refine Ya.mpr ⟨?_,by rw [h];rfl⟩
 unfold gW at h
 obtain ⟨p,hp,_⟩:=Zw.mp h
 have e:=List.find?_some hp
 have:=az p (List.mem_of_find?_eq_some hp)
 have e':p.1=c:=by simpa using e
 rw [e'] at this
 rw [List.mem_range'_1]
 omega
theorem BD {S:St} (WS:WF S):∀ (k:Nat) (met:Wq) (d:Nat),met.Nodup->(∀ x∈met,x < S.lg.length)->d<=met.length->S.lg.length<=k+d->(∀ i,i < d->∀ c m,gW (S.wy.getD (met.getD i 0) []) c=some m->m∈met) →
  ∃ l,bfs S k met d=some (met++l)/\(met++l).Nodup/\(∀ x∈met++l,x < S.lg.length)/\∀ n∈met++l,∀ c m,gW (S.wy.getD n []) c=some m->m∈met++l:=by
 intro k
 have fin:∀ (met:Wq) (d:Nat),¬ d < met.length->d<=met.length->(∀ i,i < d->∀ c m,gW (S.wy.getD (met.getD i 0) []) c=some m->m∈met)->∀ n∈met,∀ c m,gW (S.wy.getD n []) c=some m->m∈met:=by
  intro met d h1 h2 h n hn c m e
  obtain ⟨i,hi,q⟩:=List.mem_iff_getElem.mp hn
  refine h i (by omega) c m ?_
  have:met.getD i 0=n:=by rw [Zs,Zr hi,q];rfl
  rw [this]
  exact e
 induction k with
 | zero =>
  intro met d nd lt hd hk h
  have hl:met.length<=S.lg.length:=by
   have:=sub_len met (List.range S.lg.length) nd fun x hx=>Yu.mpr (lt x hx)
   rwa [ZR] at this
  have hlt:¬ d < met.length:=by omega
  refine ⟨[],?_,?_⟩
  ·unfold bfs
   rw [Zm hlt,ZK]
  ·rw [ZK]
   exact ⟨nd,lt,fin met d hlt hd h⟩
 | succ k ih =>
  intro met d nd lt hd hk h
  by_cases hlt:d < met.length
  ·obtain ⟨l1,e1⟩:=j5 (w:=S.wy.getD (met.getD d 0) []) (sk (S.wy.getD (met.getD d 0) [])) met
   obtain ⟨l,e,h1,h2,h3⟩:=ih (visit (S.wy.getD (met.getD d 0) []) (sk (S.wy.getD (met.getD d 0) [])) met) (d+1) (lW _ _ nd) (lh (fun c m e=>WS.on _ c m e) _ _ (fun c hc=>lG hc) lt) (by rw [e1,Zt];omega) (by omega) (fun i hi c m e=>by
    have gi:(visit (S.wy.getD (met.getD d 0) []) (sk (S.wy.getD (met.getD d 0) [])) met).getD i 0=met.getD i 0:=by
     rw [e1,Zs,Zs,ZD (by omega)]
    rw [gi] at e
    by_cases q:i=d
    ·subst q
     have:=mU (w:=S.wy.getD (met.getD i 0) []) (sk (S.wy.getD (met.getD i 0) [])) met c (wc (WS.wnd _).2 e)
     rw [e] at this
     exact this
    ·rw [e1]
     exact Yw _ (h i (by omega) c m e))
   rw [e1,ZJ] at h1 h2 h3
   refine ⟨l1++l,?_,h1,h2,h3⟩
   unfold bfs
   rw [Zq hlt]
   show bfs S k _ (d+1)=_
   rw [e,e1,ZJ]
  ·refine ⟨[],?_,?_⟩
   ·unfold bfs
    rw [Zm hlt,ZK]
   ·rw [ZK]
    exact ⟨nd,lt,fin met d hlt hd h⟩
theorem yt {α:Type} {p:List α->Prop} (h0:p []) (h1:∀ l a,p l->p (l++[a])) (l:List α):p l:=by
 have:∀ l:List α,p l.reverse:=by
  intro l
  induction l with
  | nil=>exact h0
  | cons a l ih=>rw [List.reverse_cons];exact h1 _ a ih
 rw [← List.reverse_reverse l]
 exact this _
theorem K.met {P:Wd->Prop} {S:St} {nd:Wd->Option Nat} {wd:List Wd} (H:K P S nd wd) {k:Nat} (hk:wd.length<=k):∃ l,bfs S k [0] 0=Option.some (0 :: l)/\(0 :: l).Nodup/\(∀ x,x∈0 :: l ↔ x < wd.length)/\(0 :: l).length=wd.length:=by
 have L:S.lg.length=wd.length:=H.i.len.symm
 obtain ⟨l,e,h1,h2,h3⟩:=BD H.i.wf k [0] 0 (by simp) (fun x hx=>by rw [Zj.mp hx];exact H.i.wf.pos) (Yt _) (by omega) (fun i hi=>absurd hi (Nat.not_lt_zero _))
 have h0:∀ (x:Wd) n,nd x=Option.some n->n∈0 :: l:=by
  intro x
  induction x using yt with
  | h0=>intro n e;rw [H.i.z] at e;cases e;exact Zx
  | h1 x c ih =>
   intro n e
   obtain ⟨m,hm⟩:=H.i.pre e
   exact h3 m (ih m hm) c n (by rw [H.i.wy hm];exact e)
 have hx:∀ x,x∈0 :: l ↔ x < wd.length:=fun x=>⟨fun z=>by rw [← L];exact h2 x z,fun z=>h0 _ x (H.i.top z)⟩
 refine ⟨l,e,h1,hx,Nat.le_antisymm ?_ ?_⟩
 ·have:=sub_len (0 :: l) (List.range wd.length) h1 fun x z=>Yu.mpr ((hx x).mp z)
  rwa [ZR] at this
 ·have:=sub_len (List.range wd.length) (0 :: l) List.nodup_range fun x z=>(hx x).mpr (Yu.mp z)
  rwa [ZR] at this
end AU
end
section
namespace T37
open VS AU
theorem yb (w:List (Nat×Nat)) (c:Nat):c∈w.map (·.1) ↔ (gW w c).isSome=true:=by
 rw [← Bc,YO,ZF]
 exact ⟨fun ⟨p,h1,h2⟩=>⟨p,h1,by rw [h2];exact beq_self_eq_true c⟩,fun ⟨p,h1,h2⟩=>⟨p,h1,by simpa using h2⟩⟩
theorem r9 {w:List (Nat×Nat)} (nd:(w.map (·.1)).Nodup) (az:∀ p∈w,97<=p.1/\p.1<=122):(sk w).Perm (w.map (·.1)):=by
 refine (List.perm_ext_iff_of_nodup ?_ nd).mpr fun c=>?_
 ·exact List.Nodup.sublist XG List.nodup_range'
 ·rw [yb]
  constructor
  ·intro h
   exact (Ya.mp h).2
  ·intro h
   obtain ⟨m,e⟩:=Z6.mp h
   exact wc az e
theorem vM {m:Md} {w:List (Nat×Nat)} (nd:(w.map (·.1)).Nodup) (az:∀ p∈w,97<=p.1/\p.1<=122):fR [(m,wT' w)]=some (.fr,.lst ((sk w).map fun c=>T.str [c])):=by
 show ((strs? ((w.map fun p=>(T.str [p.1],T.int (p.2:Int))).map (·.1))).bind _)=_
 have e1:(w.map fun p=>(T.str [p.1],T.int (p.2:Int))).map (·.1)=(w.map (·.1)).map fun c=>T.str [c]:=by
  rw [Z5,Z5]
  rfl
 rw [e1,strs_map (fun c=>[c]),Zu,Zq]
 ·have:(sk w).map (fun c=>[c])=dZ ((w.map (·.1)).map fun c=>[c]):=by
   refine mq ((r9 nd az).map _) ?_
   rw [X8]
   refine List.Pairwise.imp ?_ (List.Pairwise.filter _ (List.pairwise_lt_range' (s:=97) (n:=26)))
   intro a b hab h
   rcases Xv.mp h with h | ⟨_,h⟩
   ·omega
   ·exact absurd h (List.not_lt_nil _)
  rw [← this,Z5]
  rfl
 ·refine ⟨?_,Yx.mpr ?_⟩
  ·rw [Zv,← (r9 nd az).length_eq]
   have:(sk w).length<=(List.range' 97 26).length:=Xw _ _
   rw [Xf] at this
   omega
  intro s hs
  obtain ⟨c,hc,rfl⟩:=ZF.mp hs
  obtain ⟨p,hp,rfl⟩:=ZF.mp hc
  have:=az p hp
  show (decide (1<=dD) && (decide (p.1 < 1114112) && true))=true
  rw [decide_eq_true (show p.1 < 1114112 by omega)]
  rfl
noncomputable def nE:Nat->Wq->List (T×T)
 | _,[]=>[]
 | k,n :: r=>(T.int (n:Int),T.int (k:Int)) :: nE (k+1) r
theorem vP:∀ (met:Wq) (k:Nat),(nE k met).length=met.length
 | [],_=>rfl
 | _ :: r,k=>by rw [nE,Zn,Zn,vP r]
theorem nr:∀ (met:Wq) (k:Nat),(nE k met).map (·.1)=met.map fun (n:Nat)=>T.int (n:Int)
 | [],_=>rfl
 | _ :: r,k=>by rw [nE,Zl,Zl,nr r]
theorem wg:∀ (met:Wq) (k n:Nat),nE k (met++[n])=nE k met++[(T.int (n:Int),T.int ((k+met.length:Nat):Int))]
 | [],k,n=>rfl
 | m :: r,k,n=>by
  rw [YQ,nE,nE,wg r (k+1) n,Zn,YQ]
  rw [show k+1+r.length=k+(r.length+1) by omega]
theorem Dh (a b:Nat):eqT (.int (a:Int)) (.int (b:Int))=(a == b):=by
 simp only [eqT]
 by_cases h:a=b
 ·simp [h]
 ·have h1:¬ (a:Int)=(b:Int):=by omega
  rw [ZO.mpr h,ZO.mpr h1]
theorem nU:∀ (met:Wq) (k n:Nat),cL (nE k met) (.int (n:Int))=if n∈met then some (T.int ((k+met.idxOf n:Nat):Int)) else none
 | [],_,_=>rfl
 | m :: r,k,n=>by
  show ((((T.int (m:Int),T.int (k:Int)) :: nE (k+1) r).find? fun p=>eqT p.1 (.int (n:Int))).map (·.2))=_
  rw [ZL]
  simp only [Dh]
  by_cases h:m=n
  ·subst h
   simp [List.idxOf_cons]
  ·have hb:(m == n)=false:=ZO.mpr h
   have ih:=nU r (k+1) n
   unfold cL at ih
   simp only [hb]
   rw [ih,List.idxOf_cons,hb]
   by_cases q:n∈r
   ·rw [Zq q,Zq (Zy _ q)]
    show some (T.int ((k+1+r.idxOf n:Nat):Int))=some (T.int ((k+(r.idxOf n+1):Nat):Int))
    rw [show k+1+r.idxOf n=k+(r.idxOf n+1) by omega]
   ·rw [Zm q,Zm (fun z=>(Zo.mp z).elim (fun e=>h e.symm) q)]
theorem Ap (met:Wq) (n:Nat) (h:n ∉ met):dput (nE 0 met) (.int (n:Int)) (.int (met.length:Int))=nE 0 (met++[n]):=by
 unfold dput
 rw [Zm,wg]
 ·rw [X1]
 ·intro z
  obtain ⟨p,hp,e⟩:=YO.mp z
  have:(cL (nE 0 met) (.int (n:Int))).isSome=true:=by
   unfold cL
   rw [Yl,Wz]
   exact ⟨p,hp,e⟩
  rw [nU,Zm h] at this
  cases this
noncomputable def nT (met:Wq):T:=.dct 0 (nE 0 met)
noncomputable def mT (met:Wq):T:=.lst (met.map fun (n:Nat)=>T.int (n:Int))
theorem Aj {η:Env} {m k:Md} {met:Wq} {n:Nat} {a e:Ex} (h:a η=some (m,nT met)) (he:e η=some (k,.int (n:Int))):e2 bT e a η=some (.fr,.bl (decide (n ∉ met))):=e2v he h (by
 show (match (if true=true then some (Md.fr,T.bl (cL (nE 0 met) (.int (n:Int))).isSome) else none) with | some (_,.bl b)=>some (Md.fr,T.bl (!b)) | _=>none)=_
 rw [Zq rfl,nU]
 by_cases q:n∈met
 ·rw [Zq q,ZU (fun z=>z q)];rfl
 ·rw [Zm q,decide_eq_true q];rfl)
section
variable {S:St} {w:List (Nat×Nat)}
theorem vK {d:Nat} {ob:Wm}:∀ (r met:Wq) (z:Wm),(∀ c∈r,∃ m,gW w c=some m)->met.length+r.length < 16777216->∃ z',forL (aT 5) aV (r.map fun c=>T.str [c]) [ob,oc (nT met),oc (mT met),Q0 (d:Int),pc (wT' w),z]=some (.nx [ob,oc (nT (visit w r met)),oc (mT (visit w r met)),Q0 (d:Int),pc (wT' w),z'])
 | [],met,z,_,_=>⟨z,rfl⟩
 | c :: r,met,z,hr,hl=>by
  obtain ⟨m,e⟩:=hr c Zx
  rw [Zn] at hl
  have hlen:(nE 0 met).length=met.length:=vP met 0
  by_cases q:m∈met
  ·obtain ⟨z',ih⟩:=vK r met (Q1 ([c])) (fun d hd=>hr d (Zy _ hd)) (by omega)
   refine ⟨z',?_⟩
   have ev:visit w (c :: r) met=visit w r met:=by
    show visit w r (if (gW w c).getD 0∈met then met else met++[(gW w c).getD 0])=_
    rw [e,Xs,Zq q]
   rw [ev,Zl]
   refine (dH (η1:=[ob,oc (nT met),oc (mT met),Q0 (d:Int),pc (wT' w),Q1 ([c])]) rfl ?_).trans ih
   unfold aV
   refine (iZ (m:=.fr) ?_).trans rfl
   refine (Aj (m:=.bo) (k:=.fr) (met:=met) (n:=m) rfl (uB (m:=.pu) (n:=.fr) (c:=c) (w:=w) rfl rfl e)).trans ?_
   rw [ZU (fun z=>z q)]
  ·obtain ⟨z',ih⟩:=vK r (met++[m]) (Q1 ([c])) (fun d hd=>hr d (Zy _ hd)) (by rw [Zt,ZI];omega)
   refine ⟨z',?_⟩
   have ev:visit w (c :: r) met=visit w r (met++[m]):=by
    show visit w r (if (gW w c).getD 0∈met then met else met++[(gW w c).getD 0])=_
    rw [e,Xs,Zm q]
   rw [ev,Zl]
   refine (dH (η1:=[ob,oc (nT met),oc (mT met),Q0 (d:Int),pc (wT' w),Q1 ([c])]) rfl ?_).trans ih
   unfold aV
   refine (j6 (m:=.fr) ?_).trans ?_
   ·refine (Aj (m:=.bo) (k:=.fr) (met:=met) (n:=m) rfl (uB (m:=.pu) (n:=.fr) (c:=c) (w:=w) rfl rfl e)).trans ?_
    rw [decide_eq_true q]
   ·have ix1:∀ nn mm:Wm,e2 oIx (aa 4) (aa 5) [ob,nn,mm,Q0 (d:Int),pc (wT' w),Q1 ([c])]=some (.fr,.int (m:Int)):=fun nn mm=>uB (m:=.pu) (n:=.fr) (c:=c) (w:=w) rfl rfl e
    have p1:pR 1 (e2 oIx (aa 4) (aa 5)) (eN cK (ab (aa 2) aj)) [ob,oc (nT met),oc (mT met),Q0 (d:Int),pc (wT' w),Q1 ([c])]=some (.nx [ob,oc (nT (met++[m])),oc (mT met),Q0 (d:Int),pc (wT' w),Q1 ([c])]):=by
     have l1:eN cK (ab (aa 2) aj) [ob,oc (nT met),oc (mT met),Q0 (d:Int),pc (wT' w),Q1 ([c])]=some (.fr,.int (met.length:Int)):=ma (xv (x:=(.bo,mT met)) rfl rfl) (by
      show some (Md.fr,T.int (((met.map fun (n:Nat)=>T.int (n:Int)).length:Nat):Int))=_
      rw [Zv])
     unfold pR
     rw [l1,Zu]
     show ((e2 oIx (aa 4) (aa 5) [ob,oc (nT met),oc (mT met),Q0 (d:Int),pc (wT' w),Q1 ([c])]).bind _)=_
     rw [ix1,Zu]
     show (if true=true/\true=true/\(nE 0 met).length < dD then some (Out.nx [ob,oc (.dct 0 (dput (nE 0 met) (.int (m:Int)) (.int (met.length:Int)))),oc (mT met),Q0 (d:Int),pc (wT' w),Q1 ([c])]) else none)=_
     rw [Zq ⟨rfl,rfl,by rw [hlen];show met.length < 16777216;omega⟩,Ap met m q]
     rfl
    refine (af p1).trans ?_
    refine (nZ (i:=2) (l:=met.map fun (n:Nat)=>T.int (n:Int)) (v:=.int (m:Int)) rfl (ix1 _ _) (by rw [Zv];omega)).trans ?_
    rw [show (met.map fun (n:Nat)=>T.int (n:Int))++[.int (m:Int)]=(met++[m]).map fun (n:Nat)=>T.int (n:Int) from by rw [Z3];rfl]
    rfl
end
theorem qJ (w:List (Nat×Nat)):(sk w).length<=26:=by
 refine ZG (Xw _ _) ?_
 rw [Xf]
 exact Zg _
theorem yc {S:St} {met:Wq} (nd:met.Nodup) (lt:∀ x∈met,x < S.lg.length):met.length<=S.lg.length:=by
 have:=sub_len met (List.range S.lg.length) nd fun x hx=>Yu.mpr (lt x hx)
 rwa [ZR] at this
theorem Ck {S:St} (WS:WF S) (hs:S.lg.length<=100001):∀ (k:Nat) (met:Wq) (d:Nat) (M:Wq),met.Nodup->(∀ x∈met,x < S.lg.length)->bfs S k met d=some M->∀ N,k < N->∀ z4 z5:Wm,∃ d' z4' z5',
  cX (e2 oLt (aa 3) (eN cK (ab (aa 2) aj))) bB N [pc (obT S false),oc (nT met),oc (mT met),Q0 ((d:Nat):Int),z4,z5] =
   some (.nx [pc (obT S false),oc (nT M),oc (mT M),pc d',z4',z5']):=by
 have cond:∀ (met:Wq) (d:Nat) (z4 z5:Wm),e2 oLt (aa 3) (eN cK (ab (aa 2) aj)) [pc (obT S false),oc (nT met),oc (mT met),Q0 ((d:Nat):Int),z4,z5]=some (.fr,.bl (decide (d < met.length))):=fun met d z4 z5 =>
  e2v (x:=(.fr,.int (d:Int))) rfl (ma (v:=(.fr,.int (met.length:Int))) (xv (x:=(.bo,mT met)) rfl rfl) (by
   show some (Md.fr,T.int (((met.map fun (n:Nat)=>T.int (n:Int)).length:Nat):Int))=_
   rw [Zv])) (by
   show some (Md.fr,T.bl (decide ((d:Int) < (met.length:Int))))=_
   rw [show decide ((d:Int) < (met.length:Int))=decide (d < met.length) from decide_eq_decide.mpr (by omega)])
 intro k
 induction k with
 | zero =>
  intro met d M nd lt e N hN z4 z5
  obtain ⟨N,rfl⟩:∃ M,N=M+1:=⟨N - 1,by omega⟩
  unfold bfs at e
  split at e
  ·cases e
  ·rename_i h
   cases e
   exact ⟨_,z4,z5,fL (m:=.fr) ((cond _ _ _ _).trans (by rw [ZU h]))⟩
 | succ k ih =>
  intro met d M nd lt e N hN z4 z5
  obtain ⟨N,rfl⟩:∃ M,N=M+1:=⟨N - 1,by omega⟩
  unfold bfs at e
  split at e
  ·rename_i h
   have hn:=lt _ (getD_mem h)
   have hnw:met.getD d 0 < S.wy.length:=by rw [WS.wy];exact hn
   have ml:=yc nd lt
   have sl:=qJ (S.wy.getD (met.getD d 0) [])
   obtain ⟨z',l1⟩:=vK (w:=S.wy.getD (met.getD d 0) []) (d:=d) (ob:=pc (obT S false)) (sk (S.wy.getD (met.getD d 0) [])) met z5 (fun c hc=>lG hc) (by omega)
   obtain ⟨d',y4,y5,q⟩:=ih _ (d+1) M (lW _ _ nd) (lh (fun c m e=>WS.on _ c m e) _ _ (fun c hc=>lG hc) lt) e N (by omega) (pc (wT' (S.wy.getD (met.getD d 0) []))) z'
   refine ⟨d',y4,y5,(js (m:=.fr) ((cond _ _ _ _).trans (by rw [decide_eq_true h])) ?_).trans q⟩
   unfold bB
   have ix:e2 aE (aa 2) (aa 3) [pc (obT S false),oc (nT met),oc (mT met),Q0 ((d:Nat):Int),z4,z5]=some (.fr,.int ((met.getD d 0:Nat):Int)):=e2v (x:=(.bo,mT met)) (y:=(.fr,.int (d:Int))) rfl rfl (lJ _ met d 0 h)
   have s1:aK 4 (e2 aE (bq 3 (aa 0)) (e2 aE (aa 2) (aa 3))) [pc (obT S false),oc (nT met),oc (mT met),Q0 ((d:Nat):Int),z4,z5]=some (.nx [pc (obT S false),oc (nT met),oc (mT met),Q0 ((d:Nat):Int),pc (wT' (S.wy.getD (met.getD d 0) [])),z5]) :=
    aQ (m:=.pu) (k8 (S:=S) (b:=false) (m:=.pu) (n:=.fr) rfl ix hnw) (by decide) (by decide:4 < 6)
   refine (af s1).trans ?_
   have nw:=WS.wnd (met.getD d 0)
   refine (af ((dk (m:=.fr) (l:=(sk (S.wy.getD (met.getD d 0) [])).map fun c=>T.str [c]) ?_ rfl).trans l1)).trans ?_
   ·show (eN fR (ab (aa 4) aj) _).bind Aw=_
    rw [ma (xv (x:=(.pu,wT' (S.wy.getD (met.getD d 0) []))) rfl rfl) (vM nw.1 nw.2)]
    rfl
   ·exact aQ (m:=.fr) (t:=.int (((d+1:Nat)):Int)) rfl (by decide) (by decide:3 < 6)
  ·rename_i h
   cases e
   exact ⟨_,z4,z5,fL (m:=.fr) ((cond _ _ _ _).trans (by rw [ZU h]))⟩
theorem A8 {S:St} (WS:WF S) (hs:S.lg.length<=100001) {M:Wq} {k:Nat} (hk:k < 1000000) (e:bfs S k [0] 0=some M):aC [obT S false]=some (.fr,nT M):=by
 obtain ⟨d',z4,z5,q⟩:=Ck WS hs k [0] 0 M (by simp) (fun x hx=>by rw [Zj.mp hx];exact WS.pos) e qw (by show k < 1000000;exact hk) none none
 refine ic (η:=[pc (obT S false),none,pc (mT M),pc d',z4,z5]) rfl ?_
 exact (af rfl).trans ((af rfl).trans ((af rfl).trans ((af q).trans ((af rfl).trans rfl))))
noncomputable def stT (l:List (Nat×Nat)):T:=.tup (l.map fun p=>T.tup [.str [p.1],.int (p.2:Int)])
noncomputable def oK (r:Row):T:=.tup [.int (r.1:Int),.int (r.2.1:Int),lkT r.2.2.1,stT r.2.2.2]
theorem sD:∀ l:List (Nat×Nat),dv (l.map fun p=>T.tup [.str [p.1],.int (p.2:Int)])=true
 | []=>rfl
 | p :: l=>by
  rw [Zl]
  show (true && dv _)=true
  rw [sD l]
  rfl
theorem ot (l:List (Nat×Nat)):imm (stT l)=true:=sD l
theorem yH (r:Row):imm (oK r)=true:=by
 show (true && (true && (imm (lkT r.2.2.1) && (imm (stT r.2.2.2) && true))))=true
 rw [j3,ot]
 rfl
theorem BY {a b c d:Ex} {η:Env} {x y z w:T} (h1:a η=some (.fr,x)) (h2:b η=some (.fr,y)) (h3:c η=some (.fr,z)) (h4:d η=some (.fr,w)):g9 (ab a (ab b (ab c (ab d aj)))) η=some (.fr,.tup [x,y,z,w]):=by
 show (ab a (ab b (ab c (ab d aj))) η).bind pD=_
 rw [xv h1 (xv h2 (xv h3 (xv (r:=aj) h4 rfl))),Zu]
 show some (up .fr _)=_
 unfold up
 split <;> rfl
theorem AJ {S:St} (WS:WF S) {met:Wq} (all:∀ x,x < S.lg.length->x∈met) {n:Nat} (hn:n < S.lg.length):bA [obT S false,.int (n:Int),.dct 3 (nE 0 met)]=some (.fr,oK (row S met n)):=by
 have hw:n < S.wy.length:=by rw [WS.wy];exact hn
 have hk:n < S.lk.length:=by rw [WS.lk];exact hn
 have nw:=WS.wnd n
 have get:∀ v,v < S.lg.length->cL (nE 0 met) (.int (v:Int))=some (T.int ((met.idxOf v:Nat):Int)):=fun v hv=>by rw [nU,Zq (all v hv),X1]
 have s1:aK 3 (e2 aE (bq 2 (aa 0)) (aa 1)) [pc (obT S false),Q0 (n:Int),pc (.dct 3 (nE 0 met)),none,none,none]=some (.nx [pc (obT S false),Q0 (n:Int),pc (.dct 3 (nE 0 met)),pc (lkT (S.lk.getD n none)),none,none]):=aQ (m:=.fr) (tK (S:=S) (b:=false) (m:=.pu) (n:=.fr) rfl rfl hk) (by decide) (by decide:3 < 6)
 have s2:aK 4 (e2 aE (bq 3 (aa 0)) (aa 1)) [pc (obT S false),Q0 (n:Int),pc (.dct 3 (nE 0 met)),pc (lkT (S.lk.getD n none)),none,none]=some (.nx [pc (obT S false),Q0 (n:Int),pc (.dct 3 (nE 0 met)),pc (lkT (S.lk.getD n none)),pc (wT' (S.wy.getD n [])),none]):=aQ (m:=.pu) (k8 (S:=S) (b:=false) (m:=.pu) (n:=.fr) rfl rfl hw) (by decide) (by decide:4 < 6)
 have c5:eN jJ (ab (dE 1 (aT 0) (il (eN fR (ab (aa 4) aj))) none (g9 (ab (aa 0) (ab (e2 om (aa 3) (e2 oIx (aa 5) (aa 0))) aj)))) aj) [pc (obT S false),Q0 (n:Int),pc (.dct 3 (nE 0 met)),pc (lkT (S.lk.getD n none)),pc (wT' (S.wy.getD n [])),none]=some (.fr,stT (steps S met n)):=by
  have c1:=iG (k:=1) (tg:=aT 0) (it:=il (eN fR (ab (aa 4) aj))) (elt:=g9 (ab (aa 0) (ab (e2 om (aa 3) (e2 oIx (aa 5) (aa 0))) aj))) (m:=.fr) (η:=[pc (obT S false),Q0 (n:Int),pc (.dct 3 (nE 0 met)),pc (lkT (S.lk.getD n none)),pc (wT' (S.wy.getD n [])),none]) (fun c=>T.str [c]) (fun c=>T.tup [.str [c],.int ((met.idxOf ((gW (S.wy.getD n []) c).getD 0):Nat):Int)]) (sk (S.wy.getD n [])) (by
   show (eN fR (ab (aa 4) aj) _).bind Aw=_
   rw [ma (xv (x:=(.pu,wT' (S.wy.getD n []))) rfl rfl) (vM nw.1 nw.2)]
   rfl) rfl (ZG (qJ _) (by decide)) (fun c hc=>by
   obtain ⟨v,ev⟩:=lG hc
   refine ⟨[Q1 ([c]),pc (obT S false),Q0 (n:Int),pc (.dct 3 (nE 0 met)),pc (lkT (S.lk.getD n none)),pc (wT' (S.wy.getD n [])),none],rfl,?_⟩
   have i1:e2 om (aa 3) (e2 oIx (aa 5) (aa 0)) [Q1 ([c]),pc (obT S false),Q0 (n:Int),pc (.dct 3 (nE 0 met)),pc (lkT (S.lk.getD n none)),pc (wT' (S.wy.getD n [])),none]=some (.fr,.int ((met.idxOf v:Nat):Int)) :=
    e2v (x:=(.pu,.dct 3 (nE 0 met))) rfl (uB (m:=.pu) (n:=.fr) (c:=c) (w:=S.wy.getD n []) rfl rfl ev) (by
     show (if true=true then (cL (nE 0 met) (.int (v:Int))).map (sub .pu) else none)=_
     rw [Zq rfl,get v (WS.on n c v ev)]
     rfl)
   rw [ev,Xs]
   show (ab (aa 0) (ab (e2 om (aa 3) (e2 oIx (aa 5) (aa 0))) aj) _).bind pD=_
   rw [xv (x:=(.fr,.str [c])) rfl (xv (r:=aj) i1 rfl)]
   rfl)
  refine ma (xv (r:=aj) c1 rfl) ?_
  show (if _<=dD then some (up .fr (.tup _)) else none)=_
  rw [Zq (by rw [Zv];exact ZG (qJ _) (by decide))]
  have:T.tup ((sk (S.wy.getD n [])).map fun c=>T.tup [.str [c],.int ((met.idxOf ((gW (S.wy.getD n []) c).getD 0):Nat):Int)])=stT (steps S met n):=by
   unfold stT steps
   rw [Z5]
   rfl
  rw [this]
  unfold up
  rw [ot]
  rfl
 have s3:=aQ (i:=5) c5 (by decide) (by decide:5 < 6)
 have v5:∀ η:Env,η[5]?=some (pc (stT (steps S met n)))->aa 5 η=some (.fr,stT (steps S met n)):=fun η h=>by
  show (match η[5]? with | some (some (.pu t))=>some (up .pu t) | some (some (.ow t))=>some (.bo,t) | _=>none)=_
  rw [h]
  show some (up .pu _)=_
  unfold up
  rw [ot]
  rfl
 unfold row
 cases el:S.lk.getD n none with
 | none =>
  rw [el] at s1 s2 s3
  refine ic (v:=(.fr,oK (0,0,none,steps S met n))) (η:=[pc (obT S false),Q0 (n:Int),pc (.dct 3 (nE 0 met)),pc (lkT none),pc (wT' (S.wy.getD n [])),pc (stT (steps S met n))]) rfl ?_
  refine (af s1).trans ((af s2).trans ((af s3).trans (eV ((j6 (m:=.fr) rfl).trans (fU (BY rfl rfl rfl (v5 _ rfl)))))))
 | some l =>
  rw [el] at s1 s2 s3
  have hl:=WS.up n l el
  refine ic (v:=(.fr,oK (S.lg.getD l 0+1,S.lg.getD n 0,some (met.idxOf l),steps S met n))) (η:=[pc (obT S false),Q0 (n:Int),pc (.dct 3 (nE 0 met)),pc (lkT (some l)),pc (wT' (S.wy.getD n [])),pc (stT (steps S met n))]) rfl ?_
  refine (af s1).trans ((af s2).trans ((af s3).trans ((af ((iZ (m:=.fr) rfl).trans rfl)).trans (fU (BY ?_ ?_ ?_ (v5 _ rfl))))))
  ·exact e2v (pQ (S:=S) (b:=false) (m:=.pu) (n:=.fr) (i:=l) rfl rfl hl) rfl rfl
  ·exact pQ (S:=S) (b:=false) (m:=.pu) (n:=.fr) (i:=n) rfl rfl hn
  ·exact e2v (x:=(.pu,.dct 3 (nE 0 met))) (y:=(.fr,.int (l:Int))) rfl rfl (by
    show (if true=true then (cL (nE 0 met) (.int (l:Int))).map (sub .pu) else none)=_
    rw [Zq rfl,get l hl]
    rfl)
noncomputable def tbT (t:List Row):T:=.lst (t.map oK)
theorem A9 {S:St} (WS:WF S) (hs:S.lg.length<=100001) {M:Wq} {k:Nat} (hk:k < 1000000) (e:bfs S k [0] 0=some M) (all:∀ x,x∈M ↔ x < S.lg.length) (hl:M.length<=16777216):dc [obT S false]=some (.fr,tbT (tab S M)):=by
 have n1:=A8 WS hs hk e
 refine ic (η:=[pc (obT S false),none]) rfl ?_
 have s1:gD 1 (fI 0 aC (aa 0) aj) [pc (obT S false),none]=some (.nx [pc (obT S false),oc (nT M)]):=by
  show (fI 0 aC (aa 0) aj [pc (obT S false),none]).bind _=_
  have:fI 0 aC (aa 0) aj [pc (obT S false),none]=some (.fr,nT M):=by
   show ((aC [obT S false]).bind _)=_
   rw [n1]
   rfl
  rw [this]
  rfl
 refine (af s1).trans ?_
 have c1:=iG (k:=1) (tg:=aT 0) (it:=p8 1) (elt:=fI 0 bA (aa 1) (ab (aa 0) (ab (aa 2) aj))) (m:=.fr) (η:=[pc (obT S false),pc (.dct 3 (nE 0 M))]) (fun (n:Nat)=>T.int (n:Int)) (fun n=>oK (row S M n)) M (by
  show (if ((nE 0 M).all fun p=>isInt p.1)=true then some (Md.fr,(nE 0 M).map (·.1)) else none)=_
  rw [Zq,nr]
  rw [Yx]
  intro p hp
  have:p.1∈(nE 0 M).map (·.1):=List.mem_map_of_mem hp
  rw [nr] at this
  obtain ⟨n,_,e⟩:=ZF.mp this
  rw [← e]
  rfl) rfl hl (fun n hn=>by
  refine ⟨[Q0 (n:Int),pc (obT S false),pc (.dct 3 (nE 0 M))],rfl,?_⟩
  show ((bA [obT S false,.int (n:Int),.dct 3 (nE 0 M)]).bind _)=_
  rw [AJ WS (fun x hx=>(all x).mpr hx) ((all n).mp hn)]
  rfl)
 show ((dE 1 (aT 0) (p8 1) none (fI 0 bA (aa 1) (ab (aa 0) (ab (aa 2) aj))) [pc (obT S false),pc (.dct 3 (nE 0 M))]).bind _)=_
 rw [c1]
 unfold tbT tab
 rw [Z5]
 rfl
noncomputable def gX (tx:List Tx):Nat:=(tx.map List.length).sum
structure Bok (bk:List Tx):Prop where
 few:bk.length<=8
 sum:gX bk<=160
 az:∀ t∈bk,∀ c∈t,97<=c/\c<=122
theorem kS {t:Tx}:∀ {l:List Tx},t∈l->t.length<=gX l
 | a :: l,h=>by
  have e:gX (a :: l)=a.length+gX l:=by unfold gX;rw [Zl,Xq]
  rw [e]
  rcases Zo.mp h with rfl | h
  ·omega
  ·have:=kS h
   omega
theorem Bok.len {bk:List Tx} (h:Bok bk):∀ t∈bk,t.length<=160:=fun t ht=>ZG (kS ht) h.sum
noncomputable def fo (bk:List Tx):St:=(mB S0 bk).getD S0
noncomputable def cG (bk:List Tx):Wq:=(bfs (fo bk) 1000 [0] 0).getD []
noncomputable def tabOf (bk:List Tx):List Row:=tab (fo bk) (cG bk)
theorem Bok.k {bk:List Tx} (h:Bok bk):mB S0 bk=some (fo bk)/\∃ nd wd,K (Hd bk) (fo bk) nd wd/\wd.length<=321/\bfs (fo bk) 1000 [0] 0=some (cG bk)/\(∀ x,x∈cG bk ↔ x < (fo bk).lg.length)/\(cG bk).length=wd.length/\(cG bk).idxOf 0=0:=by
 obtain ⟨S,nd,wd,e,H,l⟩:=K.of bk h.az fun t ht=>by have:=h.len t ht;omega
 have eS:fo bk=S:=by unfold fo;rw [e];rfl
 rw [eS]
 have l':wd.length<=321:=by
  have:=h.sum
  unfold gX at this
  omega
 obtain ⟨m,e2,_,e3,e4⟩:=H.met (k:=1000) (by omega)
 have eM:cG bk=0 :: m:=by unfold cG;rw [eS,e2];rfl
 rw [eM]
 exact ⟨e,nd,wd,H,l',e2,fun x=>by rw [e3,H.i.len],e4,List.idxOf_cons_self⟩
theorem BM {mv:List Bool} {g:Mt} {as:Exs} {xs:Wk} {S S':St} {v:T} {b:Bool} {B z:Wm} (ha:as [B,oc (obT S b),z]=some xs) (hao:argsOk mv xs=true) (hno:aY (trees xs)=true) (hg:g (fsT S) (trees xs)=some (fsT S',v)) (hv:imm v=true) :
  bR 1 [] 0 mv g as [B,oc (obT S b),z]=some ((.fr,v),[B,oc (obT S' b),z]):=by
 show ((some ([]:List Ky)).bind fun ks=>(as [B,oc (obT S b),z]).bind fun xs=>(pm (tm 0 mv g xs) ks (obT S b)).map fun z'=>(z'.2,[B,oc z'.1,z]))=_
 rw [Zu,ha,Zu]
 show ((if 1=0+1/\fP (fsT S)=true/\argsOk mv xs=true/\aY (trees xs)=true then (g (fsT S) (trees xs)).bind fun z=>if fP z.1=true/\imm z.2=true then some (T.obj 1 ((0,.bl b) :: z.1),(Md.fr,z.2)) else none else none).map _)=_
 rw [Zq ⟨rfl,kF S,hao,hno⟩,hg,Zu,Zq ⟨kF S',hv⟩]
 rfl
theorem An {B:Wm}:∀ (rest:List Tx) {S S':St} {z:Wm},WF S->S.lg.length+2 * gX rest<=100000->(∀ t∈rest,∀ c∈t,97<=c/\c<=122)->mB S rest=some S' →
  ∃ z',forL (aT 2) fW (rest.map .str) [B,oc (obT S false),z]=some (.nx [B,oc (obT S' false),z']):=by
 intro rest
 induction rest with
 | nil =>
  intro S S' z _ _ _ e
  cases (show some S=some S' from e)
  exact ⟨z,rfl⟩
 | cons t rest ih =>
  intro S S' z W hl hc e
  obtain ⟨⟨S1,r⟩,e1,e2'⟩:=Zz.mp (show (hg S 0 t).bind _=some S' from e)
  have hsum:gX (t :: rest)=t.length+gX rest:=by unfold gX;rw [Zl,Xq]
  rw [hsum] at hl
  obtain ⟨w1,_,w3,w4⟩:=Cp W (by omega) W.pos (hc t Zx) e1
  obtain ⟨z',q⟩:=ih (S:=S1) (S':=S') (z:=Q1 t) w1 (by omega) (fun u hu=>hc u (Zy _ hu)) e2'
  refine ⟨z',?_⟩
  rw [Zl]
  refine (dH (η1:=[B,oc (obT S false),Q1 t]) rfl ?_).trans q
  unfold fW sXM
  rw [BM (xs:=[(.fr,.int ((0:Nat):Int)),(.fr,.str t)]) (S':=S1) (v:=.int (r:Int)) rfl rfl rfl w4 rfl]
  rfl
theorem AO {bk:List Tx} (h:Bok bk):fG [.lst (bk.map .str)]=some (.fr,tbT (tabOf bk)):=by
 obtain ⟨e,nd,wd,H,l,e2,e3,e4,_⟩:=h.k
 have hlen:(fo bk).lg.length<=100001:=by rw [← H.i.len];omega
 have t1:=A9 H.i.wf hlen (k:=1000) (by decide) e2 e3 (by omega)
 obtain ⟨z,f⟩:=An (B:=pc (.lst (bk.map .str))) bk (z:=none) Ag (by have:=h.sum;show 1+2 * gX bk<=100000;omega) h.az e
 refine ic rfl ((af (η1:=[pc (.lst (bk.map .str)),oc (obT S0 false),none]) rfl).trans ((af ((dk (m:=.pu) (l:=bk.map .str) rfl rfl).trans f)).trans ((af (η1:=[pc (.lst (bk.map .str)),pc (obT (fo bk) false),z]) rfl).trans (fU ?_))))
 show ((dc [obT (fo bk) false]).bind _)=_
 rw [t1]
 rfl
noncomputable abbrev wd' (ws:List (Nat×Nat)):List (T×T):=ws.map fun p=>(T.str [p.1],T.int (p.2:Int))
noncomputable abbrev wTT (p:Nat×Nat):T:=.tup [.str [p.1],.int (p.2:Int)]
theorem CQ (ws:List (Nat×Nat)):oI (ws.map wTT)=some (wd' ws):=by
 induction ws with
 | nil=>rfl
 | cons w ws ih =>
  show (if eY (T.str [w.1])/\imm (T.int (w.2:Int)) then (oI (ws.map wTT)).map _ else none)=_
  rw [Zq ⟨rfl,rfl⟩,ih]
  rfl
theorem qd:∀ (ws acc:List (Nat×Nat)),((acc++ws).map (·.1)).Nodup->(wd' ws).foldl (fun d q=>dput d q.1 q.2) (wd' acc)=wd' (acc++ws)
 | [],acc,_=>by rw [ZK];rfl
 | w :: ws,acc,h=>by
  have hn:w.1 ∉ acc.map (·.1):=fun z=>by
   rw [Z3,Zl] at h
   exact (ZX.mp h).2.2 w.1 z w.1 Zx rfl
  have e:dput (wd' acc) (T.str [w.1]) (T.int (w.2:Int))=wd' (acc++[w]):=by
   unfold dput
   rw [Zm (by
    simp only [YO,not_exists,not_and]
    intro p hp
    obtain ⟨q,hq,rfl⟩:=ZF.mp hp
    simp only [eqT,beq_iff_eq,List.cons.injEq,and_true]
    intro z
    exact hn (ZF.mpr ⟨q,hq,z⟩))]
   simp [wd']
  show (wd' ws).foldl _ (dput (wd' acc) (T.str [w.1]) (T.int (w.2:Int)))=_
  rw [e,qd ws (acc++[w]) (by rw [ZJ];exact h),ZJ]
  rfl
theorem uT (w:List (Nat×Nat)):(sk w).Nodup:=by
 unfold sk
 exact List.Nodup.sublist XG (by decide)
theorem qT (S:St) (M:Wq) (n:Nat):(steps S M n).map (·.1)=sk (S.wy.getD n []):=by
 unfold steps
 rw [Z5]
 exact List.map_id' _
theorem Dz {m:Md} (S:St) (M:Wq) (n:Nat):j8 [(m,stT (steps S M n))]=some (.fr,.dct 0 (wd' (steps S M n))):=by
 show (oI ((steps S M n).map wTT)).map _=_
 rw [CQ,YK]
 have:=qd (steps S M n) [] (by rw [Xl,qT];exact uT _)
 rw [Xl] at this
 exact congrArg (fun z=>some (Md.fr,T.dct 0 z)) this
theorem xj (S:St) (M:Wq) (n c:Nat) (hc:97<=c/\c<=122):gW (steps S M n) c=(gW (S.wy.getD n []) c).map fun m=>M.idxOf m:=by
 have key:∀ l:Wq,gW (l.map fun c=>(c,M.idxOf ((gW (S.wy.getD n []) c).getD 0))) c=if c∈l then some (M.idxOf ((gW (S.wy.getD n []) c).getD 0)) else none:=by
  intro l
  induction l with
  | nil=>rfl
  | cons a l ih =>
   unfold gW at ih ⊢
   rw [Zl,ZL]
   by_cases h:a=c
   ·subst h
    simp
   ·have:(a == c)=false:=by simpa using h
    rw [this]
    show (List.map _ l |>.find? _).map _=_
    rw [ih]
    simp [Yk h]
 unfold steps
 rw [key]
 cases hg:gW (S.wy.getD n []) c with
 | none =>
  rw [Zm fun z=>by
   obtain ⟨m,hm⟩:=lG z
   rw [hg] at hm
   cases hm]
  rfl
 | some m =>
  rw [Zq (by
   unfold sk
   refine Ya.mpr ⟨List.mem_range'_1.mpr (by omega),by rw [hg];rfl⟩)]
  rfl
theorem uv (S:St) (M:Wq) (n:Nat):(row S M n).2.2.2=steps S M n:=by
 unfold row
 split <;> rfl
section
variable {bk:List Tx} {nd:Wd->Option Nat} {P:Tx->Bool}
noncomputable def num (bk:List Tx) (nd:Wd->Option Nat) (w:Tx):Nat:=(cG bk).idxOf ((nd w).getD 0)
noncomputable abbrev prT (bk:List Tx) (nd:Wd->Option Nat) (w:Tx):T:=.tup [.str w,.int (num bk nd w:Int)]
noncomputable abbrev EQ (bk:List Tx) (nd:Wd->Option Nat) (B:T) (ls:Tx) (ms:List Tx) (k:Int) (z5 z6 z7:Wm):Env:=[pc B,Q1 ls,pc (tbT (tabOf bk)),oc (.lst (ms.map (prT bk nd))),Q0 k,z5,z6,z7]
theorem lk1 (B:T) (ls0:Tx) (k:Int) (w:Tx) (hw:w.length<=1000) (ws:List (Nat×Nat)) (hs:∀ c,97<=c/\c<=122->(gW ws c).isSome=P (w++[c])/\∀ v,gW ws c=some v->v=num bk nd (w++[c])):∀ (ls:Tx) (acc:List Tx) (z:Wm),Az ls->acc.length+ls.length < 16000000 →
  (∀ c,(ls.find? fun c=>!P (w++[c]))=some c->∃ η',forL (aT 7) cj (ls.map s1) (EQ bk nd B ls0 acc k (Q1 w) (pc (wT' ws)) z)=some (.rt (.fr,.str (w++[c])) η')) ∧
  ((ls.find? fun c=>!P (w++[c]))=none->∃ z',forL (aT 7) cj (ls.map s1) (EQ bk nd B ls0 acc k (Q1 w) (pc (wT' ws)) z)=some (.nx (EQ bk nd B ls0 (acc++ls.map fun c=>w++[c]) k (Q1 w) (pc (wT' ws)) z'))):=by
 intro ls
 induction ls with
 | nil=>exact fun acc z _ _=>⟨(fun c h=>by cases h),fun _=>⟨z,by rw [YB,YB,ZK];rfl⟩⟩
 | cons c ls ih =>
  intro acc z hz hl
  rw [Zn] at hl
  obtain ⟨h1,h2⟩:=hs c (hz c Zx)
  have ad:e2 aS (aa 5) (aa 7) (EQ bk nd B ls0 acc k (Q1 w) (pc (wT' ws)) (pc (s1 c)))=some (.fr,.str (w++[c])):=wG (m:=.fr) (n:=.fr) rfl rfl (by show w.length+1<=16777216;omega)
  have ni:e2 bT (aa 7) (aa 6) (EQ bk nd B ls0 acc k (Q1 w) (pc (wT' ws)) (pc (s1 c)))=some (.fr,.bl (!P (w++[c]))):=by
   rw [← h1]
   exact zS (m:=.pu) (n:=.fr) rfl rfl
  cases hp:P (w++[c]) with
  | false =>
   rw [hp] at ni
   refine ⟨fun c' h=>?_,fun h=>?_⟩
   ·rw [ZL,hp] at h
    cases h
    exact ⟨_,oF rfl (eV ((j6 ni).trans (fU ad)))⟩
   ·rw [ZL,hp] at h
    cases h
  | true =>
   rw [hp] at ni h1
   obtain ⟨v,hv⟩:=Z6.mp h1
   obtain ⟨i1,i2⟩:=ih (acc++[w++[c]]) (pc (s1 c)) (fun x hx=>hz x (Zy _ hx)) (by rw [Zt,ZI];omega)
   have ix:e2 oIx (aa 6) (aa 7) (EQ bk nd B ls0 acc k (Q1 w) (pc (wT' ws)) (pc (s1 c)))=some (.fr,.int (num bk nd (w++[c]):Int)):=by
    rw [← h2 v hv]
    exact uB (m:=.pu) (n:=.fr) rfl rfl hv
   have tu:g9 (ab (e2 aS (aa 5) (aa 7)) (ab (e2 oIx (aa 6) (aa 7)) aj)) (EQ bk nd B ls0 acc k (Q1 w) (pc (wT' ws)) (pc (s1 c)))=some (.fr,prT bk nd (w++[c])):=by
    show (ab _ _ _).bind pD=_
    rw [xv ad (xv (r:=aj) ix rfl)]
    rfl
   have bo:cj (EQ bk nd B ls0 acc k (Q1 w) (pc (wT' ws)) (pc (s1 c)))=some (.nx (EQ bk nd B ls0 (acc++[w++[c]]) k (Q1 w) (pc (wT' ws)) (pc (s1 c)))):=by
    refine (af ((iZ ni).trans rfl)).trans ((nZ (i:=3) (l:=acc.map (prT bk nd)) rfl tu (by rw [Zv];omega)).trans ?_)
    show some (Out.nx [pc B,Q1 ls0,pc (tbT (tabOf bk)),oc (.lst (acc.map (prT bk nd)++[prT bk nd (w++[c])])),Q0 k,Q1 w,pc (wT' ws),pc (s1 c)])=_
    rw [show acc.map (prT bk nd)++[prT bk nd (w++[c])]=(acc++[w++[c]]).map (prT bk nd) from by rw [Z3];rfl]
   have st:forL (aT 7) cj ((c :: ls).map s1) (EQ bk nd B ls0 acc k (Q1 w) (pc (wT' ws)) z)=forL (aT 7) cj (ls.map s1) (EQ bk nd B ls0 (acc++[w++[c]]) k (Q1 w) (pc (wT' ws)) (pc (s1 c))):=dH rfl bo
   rw [st,ZL,hp]
   refine ⟨i1,fun h=>?_⟩
   obtain ⟨z',e⟩:=i2 h
   refine ⟨z',e.trans ?_⟩
   rw [Zl,ZJ]
   rfl
theorem lk2 {wd:List Wd} (H:K (Hd bk) (fo bk) nd wd) (hM:∀ x,x∈cG bk ↔ x < (fo bk).lg.length) (hPn:∀ w,P w=(nd w).isSome) (hP:∀ w,P w=true->w.length<=1000) (B:T) (ls:Tx) (hz:Az ls) (h26:ls.length<=26) {x:Tx}:∀ (n:Nat) (ms:List Tx) (k F:Nat) (z5 z6 z7:Wm),(∀ w∈ms,P w=true)->ms.length+26 * n < 16000000->bf P ls n (ms.drop k)=some x->n < F →
  ∃ η',cX (eC (.bl true)) jm F (EQ bk nd B ls ms (k:Int) z5 z6 z7)=some (.rt (.fr,.str x) η'):=by
 intro n
 induction n with
 | zero=>intro ms k F z5 z6 z7 _ _ h;cases h
 | succ n ih =>
  intro ms k F z5 z6 z7 hp hb h hF
  obtain ⟨F,rfl⟩:∃ j,F=j+1:=⟨F - 1,by omega⟩
  by_cases hk:k < ms.length
  ·rw [Xe hk] at h
   have hw:P ms[k]=true:=hp _ (Z4 hk)
   have hg:ms.getD k []=ms[k]:=by rw [Zs,Zr hk];rfl
   generalize ms[k]=w at h hw hg
   obtain ⟨m0,hn⟩:=Z6.mp ((hPn w).symm.trans hw)
   have hlt:m0 < (fo bk).lg.length:=by rw [← H.i.len];exact H.i.lt hn
   have hmem:=(hM m0).mpr hlt
   have hnum:num bk nd w=(cG bk).idxOf m0:=by unfold num;rw [hn];rfl
   have hnl:num bk nd w < (cG bk).length:=by rw [hnum];exact List.idxOf_lt_length_iff.mpr hmem
   have hget:(cG bk).getD (num bk nd w) 0=m0:=by
    rw [Zs,Zr hnl]
    show (cG bk)[num bk nd w]=m0
    simp only [hnum]
    exact List.getElem_idxOf _
   have g1:∀ z5 z6 z7,e2 aE (aa 3) (aa 4) (EQ bk nd B ls ms (k:Int) z5 z6 z7)=some (.fr,prT bk nd w):=fun z5 z6 z7=>by
    refine e2v (x:=(.bo,.lst (ms.map (prT bk nd)))) (y:=(.fr,.int (k:Int))) rfl rfl ?_
    rw [lJ (prT bk nd) ms k [] hk,hg]
    rfl
   have b1:aK 5 (e2 aE (e2 aE (aa 3) (aa 4)) (Q2 0)) (EQ bk nd B ls ms (k:Int) z5 z6 z7)=some (.nx (EQ bk nd B ls ms (k:Int) (Q1 w) z6 z7)):=aQ (m:=.fr) (e2v (g1 z5 z6 z7) (y:=(.fr,.int 0)) rfl rfl) (by decide) (by show 5 < 8;decide)
   have r1:e2 aE (aa 2) (e2 aE (e2 aE (aa 3) (aa 4)) (Q2 1)) (EQ bk nd B ls ms (k:Int) (Q1 w) z6 z7)=some (.fr,oK (row (fo bk) (cG bk) m0)):=by
    refine e2v (x:=(.pu,tbT (tabOf bk))) (y:=(.fr,.int (num bk nd w:Int))) rfl (e2v (g1 _ _ _) (y:=(.fr,.int 1)) rfl rfl) ?_
    unfold tbT tabOf tab
    rw [Z5,lJ (oK ∘ row (fo bk) (cG bk)) (cG bk) (num bk nd w) 0 hnl,hget]
    show some (up .pu (oK (row (fo bk) (cG bk) m0)))=_
    unfold up
    rw [yH]
    rfl
   have b2:aK 6 (eN j8 (ab (e2 aE (e2 aE (aa 2) (e2 aE (e2 aE (aa 3) (aa 4)) (Q2 1))) (Q2 3)) aj)) (EQ bk nd B ls ms (k:Int) (Q1 w) z6 z7)=some (.nx (EQ bk nd B ls ms (k:Int) (Q1 w) (pc (wT' (steps (fo bk) (cG bk) m0))) z7)):=by
    refine aQ (m:=.fr) (ma (xv (r:=aj) (x:=(.fr,stT (steps (fo bk) (cG bk) m0))) (e2v r1 (y:=(.fr,.int 3)) rfl ?_) rfl) (Dz _ _ _)) (by decide) (by show 6 < 8;decide)
    rw [← uv]
    show some (up .fr (stT _))=_
    unfold up
    rw [ot]
    rfl
   have hs:∀ c,97<=c/\c<=122->(gW (steps (fo bk) (cG bk) m0) c).isSome=P (w++[c])/\∀ v,gW (steps (fo bk) (cG bk) m0) c=some v->v=num bk nd (w++[c]):=fun c hc=>by
    rw [xj _ _ _ _ hc,H.i.wy hn c,hPn]
    refine ⟨Yl,fun v hv=>?_⟩
    obtain ⟨m,e1,rfl⟩:=Zw.mp hv
    unfold num
    rw [e1]
    rfl
   obtain ⟨i1,i2⟩:=lk1 (bk:=bk) (nd:=nd) (P:=P) B ls (k:Int) w (hP w hw) _ hs ls ms z7 hz (by omega)
   have f0:fA (aT 7) (il (aa 1)) cj (EQ bk nd B ls ms (k:Int) (Q1 w) (pc (wT' (steps (fo bk) (cG bk) m0))) z7)=_:=dk (m:=.fr) rfl rfl
   unfold bf at h
   cases hf:(ls.find? fun c=>!P (w++[c])) with
   | some c =>
    rw [hf] at h
    cases h
    obtain ⟨η',e⟩:=i1 c hf
    exact ⟨η',pT (m:=.fr) rfl ((af b1).trans ((af b2).trans (eV (f0.trans e))))⟩
   | none =>
    rw [hf] at h
    obtain ⟨z',e⟩:=i2 hf
    obtain ⟨η',e2'⟩:=ih (ms++ls.map fun c=>w++[c]) (k+1) F (Q1 w) (pc (wT' (steps (fo bk) (cG bk) m0))) z' (fun v hv=>by
     rcases Ze.mp hv with z | z
     ·exact hp v z
     ·obtain ⟨c,hc,rfl⟩:=ZF.mp z
      have:=Y6.mp hf c hc
      simpa using this) (by rw [Zt,Zv];omega) (by rw [List.drop_append_of_le_length (by omega)];exact h) (by omega)
    refine ⟨η',(js (m:=.fr) rfl ((af b1).trans ((af b2).trans ((af (f0.trans e)).trans ?_)))).trans e2'⟩
    exact aQ (m:=.fr) (t:=.int ((k+1:Nat):Int)) (e2v (x:=(.fr,.int (k:Int))) (y:=(.fr,.int 1)) rfl rfl rfl) (by decide) (by show 4 < 8;decide)
  ·rw [List.drop_eq_nil_of_le (by omega)] at h
   cases h
end
theorem B2 {bk:List Tx} {w:Tx}:Pt bk w ↔ ∃ p,Hd bk p/\w <:+ p:=by
 constructor
 ·rintro (rfl | ⟨t,ht,a,b,rfl⟩)
  ·exact ⟨[],.inl rfl,Yz _⟩
  ·exact ⟨a++w,.inr ⟨_,ht,⟨b,rfl⟩⟩,⟨a,rfl⟩⟩
 ·rintro ⟨p,rfl | ⟨t,ht,hp⟩,hs⟩
  ·exact .inl (Yb.mp hs)
  ·exact .inr ⟨t,ht,hs.isInfix.trans hp.isInfix⟩
theorem Bok.pt {bk:List Tx} (h:Bok bk) {w:Tx} (hw:Pt bk w):w.length<=gX bk:=by
 rcases hw with rfl | ⟨t,ht,hw⟩
 ·exact Yt _
 ·exact ZG hw.length_le (kS ht)
theorem uM {bk:List Tx} (h:Bok bk) {P:Tx->Bool} (hP:∀ w,P w=true ↔ Pt bk w) {ls:Tx} (hz:Az ls) (h26:ls.length<=26) {x:Tx} {n:Nat} (hn:n < 500000) (hb:bf P ls n [[]]=some x):bW [.lst (bk.map .str),.str ls]=some (.fr,.str x):=by
 obtain ⟨e,nd,wd,H,l,e2,e3,e4,e0⟩:=h.k
 have hPn:∀ w,P w=(nd w).isSome:=fun w=>by
  rw [Y4,hP,B2,← H.some,Z6]
 have n0:num bk nd []=0:=by unfold num;rw [H.i.z];exact e0
 obtain ⟨η',w1⟩:=lk2 H e3 hPn (fun w hw=>by have:=h.pt ((hP w).mp hw);have:=h.sum;omega) (.lst (bk.map .str)) ls hz h26 n [[]] 0 qw none none none (fun w hw=>by rw [Zj.mp hw,hP];exact .inl rfl) (by show 1+26 * n < 16000000;omega) hb (by show n < 1000000;omega)
 have s1:aK 2 (cy fG (ab (aa 0) aj)) [pc (.lst (bk.map .str)),Q1 ls,none,none,none,none,none,none]=some (.nx [pc (.lst (bk.map .str)),Q1 ls,pc (tbT (tabOf bk)),none,none,none,none,none]):=aQ (m:=.fr) (eK (xv (r:=aj) (x:=(.pu,.lst (bk.map .str))) rfl rfl) (AO h)) (by decide) (by show 2 < 8;decide)
 refine ic (η:=η') rfl ((af s1).trans ((af (η1:=[pc (.lst (bk.map .str)),Q1 ls,pc (tbT (tabOf bk)),oc (.lst [.tup [.str [],.int 0]]),none,none,none,none]) rfl).trans ((af (η1:=[pc (.lst (bk.map .str)),Q1 ls,pc (tbT (tabOf bk)),oc (.lst [.tup [.str [],.int 0]]),Q0 0,none,none,none]) rfl).trans ?_)))
 have:EQ bk nd (.lst (bk.map .str)) ls [[]] ((0:Nat):Int) none none none=[pc (.lst (bk.map .str)),Q1 ls,pc (tbT (tabOf bk)),oc (.lst [.tup [.str [],.int 0]]),Q0 0,none,none,none]:=by
  show [pc (.lst (bk.map .str)),Q1 ls,pc (tbT (tabOf bk)),oc (.lst [.tup [.str [],.int (num bk nd []:Int)]]),Q0 0,none,none,none]=_
  rw [n0]
  rfl
 rw [← this]
 exact w1
noncomputable def parts (bk:List Tx):List Tx:=[] :: bk.flatMap fun t=>(List.range (t.length+1)).flatMap fun s=>(List.range (t.length+1)).map fun k=>(t.drop s).take k
theorem tM {bk:List Tx} {w:Tx} (h:Pt bk w):w∈parts bk:=by
 rcases h with rfl | ⟨t,ht,a,b,rfl⟩
 ·exact Zx
 ·refine Zy _ (Ws.mpr ⟨_,ht,Ws.mpr ⟨a.length,Yu.mpr (by rw [Zt,Zt];omega),ZF.mpr ⟨w.length,Yu.mpr (by rw [Zt,Zt];omega),?_⟩⟩⟩)
  rw [ZJ,List.drop_left,List.take_left]
theorem ou {α β:Type} (f:α->List β) (k:Nat):∀ l:List α,(∀ a∈l,(f a).length<=k)->(l.flatMap f).length<=l.length * k
 | [],_=>Yt _
 | a :: l,h=>by
  have h1:=ou f k l fun b hb=>h b (Zy _ hb)
  have h2:=h a Zx
  rw [List.flatMap_cons,Zt,Zn,X2]
  omega
theorem Bok.parts {bk:List Tx} (h:Bok bk):(parts bk).length<=207369:=by
 unfold T37.parts
 rw [Zn]
 have:=ou (fun t:Tx=>(List.range (t.length+1)).flatMap fun s=>(List.range (t.length+1)).map fun k=>(t.drop s).take k) 25921 bk fun t ht=>by
  have h1:=h.len t ht
  have:=ou (fun s=>(List.range (t.length+1)).map fun k=>(t.drop s).take k) 161 (List.range (t.length+1)) fun s _=>by rw [Zv,ZR];omega
  rw [ZR] at this
  have:(t.length+1) * 161<=161 * 161:=XJ _ (by omega)
  omega
 have:bk.length * 25921<=8 * 25921:=XJ _ h.few
 omega
theorem Cw (t:Tx) (l:List Tx):gX (t :: l)=t.length+gX l:=by unfold gX;rw [Zl,Xq]
open Classical in
theorem both {bk:List Tx} (h:Bok bk) {ls:Tx} (h0:0 < ls.length) (h26:ls.length<=26) (hn:ls.Nodup) (hz:Az ls):∃ x,bW [.lst (bk.map .str),.str ls]=some (.fr,.str x)/\¬ Pt bk x/\x.length<=gX bk+1/\Az x/\∀ D:List (T×T),(∀ w,(cL D (.str w)).isSome=true ↔ Pt bk w)->fh [.dct 0 D,.str ls]=some (.fr,.str x):=by
 have hP:∀ w,decide (Pt bk w)=true ↔ Pt bk w:=fun w=>decide_eq_true_iff
 obtain ⟨x,hx⟩:=yr h0 hn (parts bk) (P:=fun w=>decide (Pt bk w)) (fun w hw=>tM ((hP w).mp hw)) ((hP []).mpr (.inl rfl))
 have hlen:=h.parts
 obtain ⟨g1,w,c,g2,g3,rfl⟩:=C4 _ _ (fun w hw=>by rw [Zj.mp hw];exact (hP []).mpr (.inl rfl)) hx
 have hw:=(hP w).mp g2
 refine ⟨w++[c],uM h hP hz h26 (by omega) hx,of_decide_eq_false g1,by have:=h.pt hw;rw [Zt,ZI];omega,fun d hd=>?_,fun D hD=>Ci (P:=fun w=>decide (Pt bk w)) (fun w=>by rw [Y4,hD,hP]) (fun w hw=>by have:=h.pt ((hP w).mp hw);have:=h.sum;omega) ls h26 (by omega) ((hP []).mpr (.inl rfl)) hx⟩
 rcases Ze.mp hd with hd | hd
 ·rcases hw with rfl | ⟨t,ht,hw⟩
  ·cases hd
  ·exact h.az t ht d (hw.subset hd)
 ·rw [Zj.mp hd]
  exact hz c g3
noncomputable abbrev EW (ns:Wp) (S:T) (L:Tx) (bk:List Tx) (D:List (T×T)) (n:Int) (z6 z7 z8 z9 z10:Wm):Env:=[pc (.scr ns),pc S,Q1 L,pc (.lst (bk.map .str)),pc (.dct 0 D),oc (.lst [.int n]),z6,z7,z8,z9,z10]
theorem ne_str {η:Env} {a b:Ex} {x:Tx} {m n:Md} (h1:a η=some (m,.str x)) (h2:b η=some (n,.str x)):e2 oNe a b η=some (.fr,.bl false):=e2v h1 h2 (Al (r:=true) rfl rfl (by simp only [eqT,beq_self_eq_true]))
theorem yR {ns:Wp} {S:T} {L:Tx} {bk:List Tx} {D:List (T×T)} (h:Bok bk) (hD:∀ w,(cL D (.str w)).isSome=true ↔ Pt bk w) (hs:gX bk<=120) (hL:0 < L.length/\L.length<=26/\Az L) (n:Int) (z6 z7 z8 z9 z10:Wm):∃ n' y7 y8 y9 y10,jx (EW ns S L bk D n z6 z7 z8 z9 z10)=some (.nx (EW ns S L bk D n' z6 y7 y8 y9 y10)):=by
 obtain ⟨n',ls,e1,h0,h26,hn,hz⟩:=uk hL n
 obtain ⟨x,lk,np,xl,xz,du⟩:=both h h0 h26 hn hz
 have hb2:Bok [x,lB ls]:=⟨by show 2<=8;decide,by
  rw [Cw,Cw]
  have:=lu ls
  show x.length+((lB ls).length+0)<=160
  omega,fun t ht=>by
  rcases Zo.mp ht with rfl | ht
  ·exact xz
  ·rw [Zj.mp ht]
   exact fun c hc=>hz c (ql hc)⟩
 obtain ⟨x2,lk2',np2,_⟩:=both hb2 h0 h26 hn hz
 have ne:x2 ≠ x:=fun e=>np2 (.inr ⟨x,Zx,by rw [e];exact List.infix_refl _⟩)
 have a1:cz 7 (aN [(.io 5 false),(.px (xI (aa 2)))] da) (EW ns S L bk D n z6 z7 z8 z9 z10)=some (.nx (EW ns S L bk D n' z6 (Q1 ls) z8 z9 z10)) :=
  d8 (cx (i:=5) (un:=false) (k:=0) (r:=[.px (xI (aa 2))]) (l:=[.str L]) (η1:=EW ns S L bk D n z6 z7 z8 z9 z10) rfl (oN (t:=.str L) (cq (m:=.fr) rfl rfl) rfl rfl) rfl rfl rfl rfl e1) rfl (by show 7 < 11;decide)
 have a2:aK 8 (cy fh (ab (aa 4) (ab (aa 7) aj))) (EW ns S L bk D n' z6 (Q1 ls) z8 z9 z10)=some (.nx (EW ns S L bk D n' z6 (Q1 ls) (Q1 x) z9 z10)):=aQ (m:=.fr) (eK (xv (x:=(.pu,.dct 0 D)) rfl (xv (r:=aj) (x:=(.fr,.str ls)) rfl rfl)) (du D hD)) (by decide) (by show 8 < 11;decide)
 have a3:aK 9 (eN gv (ab (aa 3) aj)) (EW ns S L bk D n' z6 (Q1 ls) (Q1 x) z9 z10)=some (.nx (EW ns S L bk D n' z6 (Q1 ls) (Q1 x) (pc (.lst (bk.map .str))) z10)):=by
  refine aQ (m:=.fr) (ma (xv (r:=aj) (x:=(.pu,.lst (bk.map .str))) rfl rfl) ?_) (by decide) (by show 9 < 11;decide)
  show mkL .pu (bk.map T.str)=_
  rw [kY (by rw [Zv];have:=h.few;omega),Zq (jC T.str (fun _=>rfl) bk)]
 have a4:aK 10 (cy bW (ab (aa 9) (ab (aa 7) aj))) (EW ns S L bk D n' z6 (Q1 ls) (Q1 x) (pc (.lst (bk.map .str))) z10)=some (.nx (EW ns S L bk D n' z6 (Q1 ls) (Q1 x) (pc (.lst (bk.map .str))) (Q1 x))):=aQ (m:=.fr) (eK (xv (x:=(.pu,.lst (bk.map .str))) rfl (xv (r:=aj) (x:=(.fr,.str ls)) rfl rfl)) lk) (by decide) (by show 10 < 11;decide)
 have eqB:eqD 60 (.lst (bk.map .str))=true/\eqT (.lst (bk.map .str)) (.lst (bk.map .str))=true:=by
  have:eqD 60 (.lst (bk.map .str))=true:=by
   show ((bk.map T.str).all (eqD 59))=true
   rw [List.all_map]
   exact Yx.mpr fun _ _=>rfl
  exact ⟨this,pJ 60 _ this⟩
 have a5:sIf (eOr (vG (eIs .str (aa 10))) (eOr (e2 oNe (aa 10) (aa 8)) (e2 oNe (aa 9) (aa 3)))) (gp (eC (.bl false))) dy (EW ns S L bk D n' z6 (Q1 ls) (Q1 x) (pc (.lst (bk.map .str))) (Q1 x))=some (.nx (EW ns S L bk D n' z6 (Q1 ls) (Q1 x) (pc (.lst (bk.map .str))) (Q1 x))) :=
  (iZ (m:=.fr) (or2 (m:=.fr) (n:=.fr) (x:=false) (y:=false) rfl (or2 (m:=.fr) (n:=.fr) (x:=false) (y:=false) (ne_str (m:=.fr) (n:=.fr) rfl rfl) (e2v (x:=(.pu,.lst (bk.map .str))) (y:=(.pu,.lst (bk.map .str))) rfl rfl (Al (r:=true) eqB.1 eqB.1 eqB.2))))).trans rfl
 have l2:cy bW (ab (dF (ab (aa 8) (ab (wV (aa 7)) aj))) (ab (aa 7) aj)) (EW ns S L bk D n' z6 (Q1 ls) (Q1 x) (pc (.lst (bk.map .str))) (Q1 x))=some (.fr,.str x2):=eK (xv (x:=(.fr,.lst ([x,lB ls].map .str))) rfl (xv (r:=aj) (x:=(.fr,.str ls)) rfl rfl)) lk2'
 have a6:sIf (eOr (e2 oEq (cy bW (ab (dF (ab (aa 8) (ab (wV (aa 7)) aj))) (ab (aa 7) aj))) (aa 8)) (e2 oNe (cy bW (ab (aa 9) (ab (aa 7) aj))) (aa 8))) (gp (eC (.bl false))) dy (EW ns S L bk D n' z6 (Q1 ls) (Q1 x) (pc (.lst (bk.map .str))) (Q1 x))=some (.nx (EW ns S L bk D n' z6 (Q1 ls) (Q1 x) (pc (.lst (bk.map .str))) (Q1 x))) :=
  (iZ (m:=.fr) (or2 (m:=.fr) (n:=.fr) (x:=false) (y:=false) (e2v l2 (y:=(.fr,.str x)) rfl (mP rfl rfl (by simpa using ne))) (ne_str (eK (xv (x:=(.pu,.lst (bk.map .str))) rfl (xv (r:=aj) (x:=(.fr,.str ls)) rfl rfl)) lk) (n:=.fr) rfl))).trans rfl
 exact ⟨n',_,_,_,_,(af a1).trans ((af a2).trans ((af a3).trans ((af a4).trans ((af a5).trans a6))))⟩
theorem vp (ns:Wp) (hns:ns.length<=63):vY [.scr ns]=some (.fr,.bl true):=by
 obtain ⟨n,e1⟩:=o9 ns hns 0 (by decide)
 obtain ⟨n1,L,e2',l0,l26,lz⟩:=yA n
 have hL:0 < L.length/\L.length<=26/\Az L:=⟨l0,l26,lz⟩
 obtain ⟨n2,bk,e3,b8,bs,bz⟩:=A5 hL n1
 have hB:Bok bk:=⟨b8,by show (bk.map List.length).sum<=160;omega,bz⟩
 obtain ⟨d,e4,hD⟩:=yp bk b8 fun t ht=>by
  have:=kS ht
  unfold gX at this
  omega
 obtain ⟨m,e5⟩:=o9 ns hns 1 (by decide)
 have q1:gD 1 (cy bt (ab (aa 0) (ab (Q2 0) aj))) [pc (.scr ns),none,none,none,none,none,none,none,none,none,none]=some (.nx [pc (.scr ns),oc (.lst [.int n]),none,none,none,none,none,none,none,none,none]):=by
  show (cy bt _ _).bind _=_
  rw [eK (xv (x:=(.fr,.scr ns)) rfl (xv (r:=aj) (x:=(.fr,.int ((0:Nat):Int))) rfl rfl)) e1]
  rfl
 have q2:=d8 (j:=2) (cx (i:=1) (un:=false) (k:=0) (r:=[]) (l:=[]) (η:=[pc (.scr ns),oc (.lst [.int n]),none,none,none,none,none,none,none,none,none]) rfl rfl rfl rfl rfl rfl e2') rfl (by show 2 < 11;decide)
 have q3:=xY (j:=3) (cx (i:=1) (un:=false) (k:=0) (r:=[.px (xI (aa 2))]) (l:=[.str L]) (η:=[pc (.scr ns),oc (.lst [.int n1]),Q1 L,none,none,none,none,none,none,none,none]) rfl (oN (t:=.str L) (cq (m:=.fr) rfl rfl) rfl rfl) rfl rfl rfl rfl e3) (by show 3 < 11;decide)
 have q6:aK 4 (cy ed (ab (aa 3) aj)) [pc (.scr ns),pc (.lst [.int n2]),Q1 L,pc (.lst (bk.map .str)),none,none,none,none,none,none,none]=some (.nx [pc (.scr ns),pc (.lst [.int n2]),Q1 L,pc (.lst (bk.map .str)),pc (.dct 0 (dT d)),none,none,none,none,none,none]):=aQ (m:=.fr) (eK (xv (r:=aj) (x:=(.pu,.lst (bk.map .str))) rfl rfl) e4) (by decide) (by show 4 < 11;decide)
 have q7:gD 5 (cy bt (ab (aa 0) (ab (Q2 1) aj))) [pc (.scr ns),pc (.lst [.int n2]),Q1 L,pc (.lst (bk.map .str)),pc (.dct 0 (dT d)),none,none,none,none,none,none]=some (.nx (EW ns (.lst [.int n2]) L bk (dT d) m none none none none none)):=by
  show (cy bt _ _).bind _=_
  rw [eK (xv (x:=(.fr,.scr ns)) rfl (xv (r:=aj) (x:=(.fr,.int ((1:Nat):Int))) rfl rfl)) e5]
  rfl
 obtain ⟨η',f1,m',z6,z7,z8,z9,z10,rfl⟩:=jD (tg:=aT 6) (body:=jx) (fun (k:Nat)=>T.int (k:Int)) (fun _ η=>∃ (m:Int) (z6 z7 z8 z9 z10:Wm),η=EW ns (.lst [.int n2]) L bk (dT d) m z6 z7 z8 z9 z10) (by
  rintro k r _ ⟨m,z6,z7,z8,z9,z10,rfl⟩
  obtain ⟨m',y7,y8,y9,y10,e⟩:=yR (ns:=ns) (S:=.lst [.int n2]) hB hD bs hL m (Q0 (k:Int)) z7 z8 z9 z10
  exact ⟨_,_,rfl,e,m',_,_,_,_,_,rfl⟩) (List.range 3) (EW ns (.lst [.int n2]) L bk (dT d) m none none none none none) ⟨m,none,none,none,none,none,rfl⟩
 have q8:fA (aT 6) (bH (Q2 3)) jx (EW ns (.lst [.int n2]) L bk (dT d) m none none none none none)=some (.nx (EW ns (.lst [.int n2]) L bk (dT d) m' z6 z7 z8 z9 z10)):=by
  refine (dk (m:=.fr) ?_ rfl).trans f1
  rw [dU (m:=.fr) (j:=3) rfl (by decide),gk]
  rfl
 exact ic rfl ((af q1).trans ((af q2).trans ((af q3).trans ((af (η1:=[pc (.scr ns),oc (.lst [.int n2]),Q1 L,pc (.lst (bk.map .str)),none,none,none,none,none,none,none]) rfl).trans ((af (η1:=[pc (.scr ns),pc (.lst [.int n2]),Q1 L,pc (.lst (bk.map .str)),none,none,none,none,none,none,none]) rfl).trans ((af q6).trans ((af q7).trans ((af q8).trans rfl))))))))
end T37
end
section
namespace T37
open PySem PySem.Spec PyProof.Rows L2 VS
theorem qv {G:Gx} {X:Cx} {x:Str} {p:Pos} (i:Nat) (a:X.N[i]?=some x) (b:Vis X.env.scope x:=by exact Or.inl rfl) (c:(x == ("__debug__" : Str))=false:=by rfl) (d:(x == ("__classdict__" : Str))=false:=by rfl):PV G X (.Name x p) (aa i):=cY i a b c d
theorem Q3 {α:Sort _} {x:α} {b:Prop}:x=x∨b:=.inl rfl
noncomputable abbrev Q4:List Str:=["_law_end", "_law_book_here", "_law_found", "_law_t", "_law_text_here", "_law_start", "-6"]
noncomputable abbrev Q5:List Str:=["_law_k", "_law_spring_here", "_law_letters_here", "_law_few", "_law_start", "_law_step"]
noncomputable abbrev Q6:List Str:=["_law_k", "_law_spring_here", "_law_signs_here", "_law_most"]
noncomputable abbrev Q7:List Str:=["_law_parts_here", "_law_letters_here"]
noncomputable abbrev Q8:List Str:=["_law_script", "_law_k"]
noncomputable abbrev Q9:List Str:=["_law_sign", "_law_spring_here", "_law_signs_here", "_law_letters_here", "_law_way", "_law_some"]
noncomputable abbrev Qa:List Str:=["_law_spring_here", "_law_most"]
noncomputable abbrev Qb:List Str:=["_law_spring_here", "_law_signs_here", "_law_most"]
noncomputable abbrev Qc:List Str:=["_law_spring_here", "_law_signs_here"]
noncomputable abbrev Qd:List Str:=["_law_spring_here"]
noncomputable abbrev Qe:List Str:=["self", "head", "sign"]
noncomputable abbrev Qf:List Str:=["self", "head", "word"]
noncomputable abbrev Qg:List Str:=["self", "long", "link", "ways"]
noncomputable abbrev Qh:List Str:=["self", "node", "numbers"]
noncomputable abbrev Qi:List Str:=["self", "node", "sign"]
noncomputable abbrev Qj:List Str:=["self"]
noncomputable abbrev Qk:List Str:=["sign", "self", "node", "numbers", "link", "ways", "steps"]
noncomputable def top (i:Nat):Stmt:=PySem.Challenge.pw_allparts_k37_nowhere.main.body.getD i (.Pass ⟨0,0,0,0⟩)
structure Blt (mg:Xu):Prop where
 b_dict:mg "dict" = none
 b_enumerate:mg "enumerate" = none
 b_isinstance:mg "isinstance" = none
 b_len:mg "len" = none
 b_list:mg "list" = none
 b_range:mg "range" = none
 b_sorted:mg "sorted" = none
 b_str:mg "str" = none
 b_tuple:mg "tuple" = none
noncomputable abbrev nsL:List Str:=["  ", "longs", "links", "ways"]
theorem gJ {K:Y2} {C D:Addr} {m:Me}:jt ((gxO nsL K C D).at m):=yZ (by decide +kernel) (by decide +kernel)
structure ObF (K:Y2) (mg:Xu) (C D:Addr):Prop where
 one:C=D
 cl_Nodes:Cls K C
 mg_Nodes:mg "Nodes" = some (.ref C)
 n_longs_Nodes:dW K C "longs"
 n_links_Nodes:dW K C "links"
 n_ways_Nodes:dW K C "ways"
theorem eD {K:Y2} {mg:Xu} {C D:Addr} {m:Me} (O:ObF K mg C D):FldOk ((gxO nsL K C D).at m) K 1 "longs" := Au rfl O.cl_Nodes (O.one ▸ O.cl_Nodes) O.n_longs_Nodes (O.one ▸ O.n_longs_Nodes)
theorem eJ {K:Y2} {mg:Xu} {C D:Addr} {m:Me} (O:ObF K mg C D):FldOk ((gxO nsL K C D).at m) K 2 "links" := Au rfl O.cl_Nodes (O.one ▸ O.cl_Nodes) O.n_links_Nodes (O.one ▸ O.n_links_Nodes)
theorem dN {K:Y2} {mg:Xu} {C D:Addr} {m:Me} (O:ObF K mg C D):FldOk ((gxO nsL K C D).at m) K 3 "ways" := Au rfl O.cl_Nodes (O.one ▸ O.cl_Nodes) O.n_ways_Nodes (O.one ▸ O.n_ways_Nodes)
section
variable {P:Program} {w:World} {K:Y2} {mg:Xu} {base:Heap} {C D:Addr}
noncomputable abbrev dQ:Stmt:=inClass (top 1) 1
theorem jo:FnScope Qg Qg (ai dQ):=⟨rfl,rfl,rfl,by decide +kernel,rfl,by decide +kernel,by decide +kernel⟩
theorem aL {f:Addr} {fd:FuncData} (F:Fun K "new_node" "Nodes.new_node" dQ f fd) (hm:Meth K C "new_node" f) (B:Blt mg) (O:ObF K mg C D) :
  MtAt P w K mg base 1 (gxO nsL K C D) 0 "new_node" Qg [false,false,true] aG:=oz F hm O.cl_Nodes (iX (by decide +kernel) (by decide +kernel)) jo rfl rfl (fun _ _ _ _ _ _ us hl=>by obtain ⟨_,_,_,_,rfl⟩:=L2.DI hl;rfl) fun a cdv A outer s H E hr =>
  (ag (wk gJ (je 1 (eD O) (bV 0 rfl (Or.inl rfl) rfl rfl) rfl) (ae (qv 1 rfl) aq rfl) rfl rfl rfl rfl rfl rfl rfl)
  (ag (wk gJ (je 2 (eJ O) (bV 0 rfl (Or.inl rfl) rfl rfl) rfl) (ae (qv 2 rfl) aq rfl) rfl rfl rfl rfl rfl rfl rfl)
  (ag (yx gJ (je 3 (dN O) (bV 0 rfl (Or.inl rfl) rfl rfl) rfl) rfl rfl Q3 rfl rfl rfl rfl rfl rfl rfl rfl)
  (av (cT (kj BK AL (gQ B.b_len (ae (w_fld gJ (eD O) (qv 0 rfl) rfl) aq rfl) rfl rfl rfl) ah))))))
noncomputable abbrev dY:Stmt:=inClass (top 1) 0
theorem jy:FnScope Qj Qj (ai dY):=⟨rfl,rfl,rfl,by decide +kernel,rfl,by decide +kernel,by decide +kernel⟩
theorem bY {f:Addr} {fd:FuncData} (F:Fun K "__init__" "Nodes.__init__" dY f fd) (hm:Mk K C f) (B:Blt mg) (O:ObF K mg C D) (aL:MtAt P w K mg base 1 (gxO nsL K C D) 0 "new_node" Qg [false,false,true] aG) :
  InAt P w K mg base 2 (gxO nsL K C D) 0 0 "Nodes" Qj dS:=AV F hm O.mg_Nodes jy rfl rfl (fun _ _ _ _ _ _ us hl=>by obtain ⟨_,rfl⟩:=L2.rh hl;rfl) fun a cdv A outer s H E hr =>
  (ag (rC 0 1 gJ (eD O) (dn aq) rfl Q3 rfl rfl rfl)
  (ag (rC 0 2 gJ (eJ O) (dn aq) rfl Q3 rfl rfl rfl)
  (ag (rC 0 3 gJ (dN O) (dn aq) rfl Q3 rfl rfl rfl)
  (av (pH (gz gJ aL.at hr (by decide) (bV 0 rfl (Or.inl rfl) rfl rfl) (ae ah (ae wY (ae vz aq rfl) rfl) rfl) rfl rfl rfl) rfl)))))
noncomputable abbrev bS:Stmt:=inClass (top 1) 4
theorem aR:FnScope ["self", "node", "sign", "old", "long", "half"] Qi (ai bS):=⟨rfl,rfl,rfl,by decide +kernel,rfl,by decide +kernel,by decide +kernel⟩
theorem aP {f:Addr} {fd:FuncData} (F:Fun K "node_just_behind" "Nodes.node_just_behind" bS f fd) (hm:Meth K C "node_just_behind" f) (B:Blt mg) (O:ObF K mg C D) (aL:MtAt P w K mg base 1 (gxO nsL K C D) 0 "new_node" Qg [false,false,true] aG) :
  MtAt P w K mg base 2 (gxO nsL K C D) 0 "node_just_behind" Qi [false,false] aw:=oz F hm O.cl_Nodes (iX (by decide +kernel) (by decide +kernel)) aR rfl rfl (fun _ _ _ _ _ _ us hl=>by obtain ⟨_,_,_,rfl⟩:=L2.ur hl;rfl) fun a cdv A outer s H E hr =>
  (ag (aB (qW hr (bJ (w_fld gJ (dN O) (qv 0 rfl) rfl) (qv 1 rfl) (fun _ _=>rfl) rfl) (qv 2 rfl) (fun _ _=>rfl) rfl) aR.nd rfl Q3 rfl Q3)
  (ag (aB (w_add (bJ (w_fld gJ (eD O) (qv 0 rfl) rfl) (qv 1 rfl) (fun _ _=>rfl) rfl) ah) aR.nd rfl Q3 rfl Q3)
  (ag (dw (lU hr (bJ (w_fld gJ (eD O) (qv 0 rfl) rfl) (qv 3 rfl) (fun _ _=>rfl) rfl) (qv 4 rfl)) (av (dz 3 rfl (Or.inl rfl) rfl rfl)) bO)
  (ag (cQ (gz gJ aL.at hr (by decide) (bV 0 rfl (Or.inl rfl) rfl rfl) (ae (qv 4 rfl) (ae (bJ (w_fld gJ (eJ O) (qv 0 rfl) rfl) (qv 3 rfl) (fun _ _=>rfl) rfl) (ae (y0 B.b_dict (ae (bJ (w_fld gJ (dN O) (qv 0 rfl) rfl) (qv 3 rfl) (fun _ _=>rfl) rfl) aq rfl) rfl rfl) aq rfl) rfl) rfl) rfl rfl rfl) aR.nd rfl Q3 rfl Q3)
  (ag (jA gJ hr (je 2 (eJ O) (bV 0 rfl (Or.inl rfl) rfl rfl) rfl) (qv 3 rfl) (qv 5 rfl) (fun _=>rfl) rfl rfl rfl)
  (ag (gq ZC (PVW.pvt (rW (oB (qv 1 rfl)) (nq (lU hr (w_get hr (bJ (w_fld gJ (dN O) (qv 0 rfl) rfl) (qv 1 rfl) (fun _ _=>rfl) rfl) (qv 2 rfl) rfl rfl rfl rfl) (qv 3 rfl)))))
  (ag (jA gJ hr (zY hr (je 3 (dN O) (bV 0 rfl (Or.inl rfl) rfl rfl) rfl) (qv 1 rfl) (fun _ _=>rfl) rfl) (qv 2 rfl) (qv 5 rfl) (fun _=>rfl) rfl rfl rfl)
  (av (aB (bJ (w_fld gJ (eJ O) (qv 0 rfl) rfl) (qv 1 rfl) (fun _ _=>rfl) rfl) aR.nd rfl Q3 rfl Q3))))
  (av (dz 5 rfl (Or.inl rfl) rfl rfl))))))))
noncomputable abbrev cZ:Stmt:=inClass (top 1) 3
theorem bM:FnScope ["self", "head", "sign", "fresh", "node"] Qe (ai cZ):=⟨rfl,rfl,rfl,by decide +kernel,rfl,by decide +kernel,by decide +kernel⟩
theorem br {f:Addr} {fd:FuncData} (F:Fun K "head_behind" "Nodes.head_behind" cZ f fd) (hm:Meth K C "head_behind" f) (B:Blt mg) (O:ObF K mg C D) (aL:MtAt P w K mg base 1 (gxO nsL K C D) 0 "new_node" Qg [false,false,true] aG) (aP:MtAt P w K mg base 2 (gxO nsL K C D) 0 "node_just_behind" Qi [false,false] aw) :
  MtAt P w K mg base 3 (gxO nsL K C D) 0 "head_behind" Qe [false,false] bh:=oz F hm O.cl_Nodes (iX (by decide +kernel) (by decide +kernel)) bM rfl rfl (fun _ _ _ _ _ _ us hl=>by obtain ⟨_,_,_,rfl⟩:=L2.ur hl;rfl) fun a cdv A outer s H E hr =>
  (ag (dw (zZ hr (qv 2 rfl) (bJ (w_fld gJ (dN O) (qv 0 rfl) rfl) (qv 1 rfl) (fun _ _=>rfl) rfl) (by with_unfolding_all rfl) rfl) (av (tf (gz gJ aP.at hr (by decide) (bV 0 rfl (Or.inl rfl) rfl rfl) (ae (qv 1 rfl) (ae (qv 2 rfl) aq rfl) rfl) rfl rfl rfl))) bO)
  (ag (cQ (gz gJ aL.at hr (by decide) (bV 0 rfl (Or.inl rfl) rfl rfl) (ae (w_add (bJ (w_fld gJ (eD O) (qv 0 rfl) rfl) (qv 1 rfl) (fun _ _=>rfl) rfl) ah) (ae ah (ae vz aq rfl) rfl) rfl) rfl rfl rfl) bM.nd rfl Q3 rfl Q3)
  (ag (aB (qv 1 rfl) bM.nd rfl Q3 rfl Q3)
  (ag (gq ZC (PVW.pvt (rW (oB (qv 4 rfl)) (nq (nS hr (qv 2 rfl) (bJ (w_fld gJ (dN O) (qv 0 rfl) rfl) (qv 4 rfl) (fun _ _=>rfl) rfl) (by with_unfolding_all rfl) rfl))))
  (ag (jA gJ hr (zY hr (je 3 (dN O) (bV 0 rfl (Or.inl rfl) rfl rfl) rfl) (qv 4 rfl) (fun _ _=>rfl) rfl) (qv 2 rfl) (qv 3 rfl) (fun _=>rfl) rfl rfl rfl)
  (av (aB (bJ (w_fld gJ (eJ O) (qv 0 rfl) rfl) (qv 4 rfl) (fun _ _=>rfl) rfl) bM.nd rfl Q3 rfl Q3))))
  (ag (dw (oB (qv 4 rfl)) (av (rZ gJ hr (je 2 (eJ O) (bV 0 rfl (Or.inl rfl) rfl rfl) rfl) (qv 3 rfl) (gz gJ aP.at hr (by decide) (bV 0 rfl (Or.inl rfl) rfl rfl) (ae (qv 4 rfl) (ae (qv 2 rfl) aq rfl) rfl) rfl rfl rfl) (fun _=>rfl) rfl rfl rfl)) bO)
  (av (dz 3 rfl (Or.inl rfl) rfl rfl)))))))
noncomputable abbrev dq:Stmt:=inClass (top 1) 2
theorem c7:FnScope ["self", "head", "word", "sign"] Qf (ai dq):=⟨rfl,rfl,rfl,by decide +kernel,rfl,by decide +kernel,by decide +kernel⟩
theorem bC {f:Addr} {fd:FuncData} (F:Fun K "head_grown" "Nodes.head_grown" dq f fd) (hm:Meth K C "head_grown" f) (B:Blt mg) (O:ObF K mg C D) (br:MtAt P w K mg base 3 (gxO nsL K C D) 0 "head_behind" Qe [false,false] bh) :
  MtAt P w K mg base 4 (gxO nsL K C D) 0 "head_grown" Qf [false,false] bD:=oz F hm O.cl_Nodes (iX (by decide +kernel) (by decide +kernel)) c7 rfl rfl (fun _ _ _ _ _ _ us hl=>by obtain ⟨_,_,_,rfl⟩:=L2.ur hl;rfl) fun a cdv A outer s H E hr =>
  (ag (dm ZC rfl (fJ (qv 2 rfl) rfl) (aX 3 c7.nd rfl Q3 Q3)
  (av (cQ (gz gJ br.at hr (by decide) (bV 0 rfl (Or.inl rfl) rfl rfl) (ae (qv 1 rfl) (ae (qv 3 rfl) aq rfl) rfl) rfl rfl rfl) c7.nd rfl Q3 rfl Q3)) (fun _=>rfl))
  (av (dz 1 rfl (Or.inl rfl) rfl rfl)))
noncomputable abbrev bZ:Stmt:=inClass (top 1) 6
theorem aI:FnScope ["self", "numbers", "met", "done", "ways", "sign"] Qj (ai bZ):=⟨rfl,rfl,rfl,by decide +kernel,rfl,by decide +kernel,by decide +kernel⟩
theorem aU {m:Me} {f:Addr} {fd:FuncData} (F:Fun K "numbers_by_node" "Nodes.numbers_by_node" bZ f fd) (hm:Meth K C "numbers_by_node" f) (B:Blt mg) (O:ObF K mg C D) :
  MpAt P w K mg base 1 ((gxO nsL K C D).at m) 0 "numbers_by_node" Qj aC:=qO F hm O.cl_Nodes (iX (by decide +kernel) (by decide +kernel)) aI rfl rfl (fun _ _ _ _ _ _ us hl=>by obtain ⟨_,rfl⟩:=L2.rh hl;rfl) fun cdv A outer s H E hr =>
  (ag (dA AQ aI.nd rfl Q3 rfl Q3)
  (ag (dA (dn (ae ah aq rfl)) aI.nd rfl Q3 rfl Q3)
  (ag (aB ah aI.nd rfl Q3 rfl Q3)
  (ag (gq ZC (eX nR sI jL (qv 3 rfl) (gQ B.b_len (ae (qv 2 rfl) aq rfl) rfl rfl rfl) (gF _))
  (ag (aB (bJ (w_fld gJ (dN O) (qv 0 rfl) rfl) (bJ (qv 2 rfl) (qv 3 rfl) (fun _ _=>rfl) rfl) (fun _ _=>rfl) rfl) aI.nd rfl Q3 rfl Q3)
  (ag (dm ZC rfl (fJ (sL B.b_sorted (ae (qv 4 rfl) aq rfl) rfl rfl rfl rfl) rfl) (aX 5 aI.nd rfl Q3 Q3)
  (av (dw (nS hr (qW hr (qv 4 rfl) (qv 5 rfl) (fun _ _=>rfl) rfl) (qv 1 rfl) (by with_unfolding_all rfl) rfl) (ag (Bj 1 hr (qW hr (qv 4 rfl) (qv 5 rfl) (fun _ _=>rfl) rfl) (gQ B.b_len (ae (qv 2 rfl) aq rfl) rfl rfl rfl) rfl Q3 rfl rfl (fun _=>rfl) rfl rfl rfl)
  (av (jl 2 (ae (qW hr (qv 4 rfl) (qv 5 rfl) (fun _ _=>rfl) rfl) aq rfl) rfl rfl Q3 rfl rfl rfl rfl rfl))) bO)) (fun _=>rfl))
  (av (aB (w_add (qv 3 rfl) ah) aI.nd rfl Q3 rfl Q3)))))
  (gH 2 (av (dz 1 rfl (Or.inl rfl) rfl rfl)))))))
noncomputable abbrev fz:Stmt:=inClass (top 1) 7
theorem dj:FnScope ["self", "node", "numbers", "link", "ways", "steps"] Qh (ai fz):=⟨rfl,rfl,rfl,by decide +kernel,rfl,by decide +kernel,by decide +kernel⟩
theorem cJ {m:Me} {f:Addr} {fd:FuncData} (F:Fun K "row_of" "Nodes.row_of" fz f fd) (hm:Meth K C "row_of" f) (B:Blt mg) (O:ObF K mg C D) :
  MpAt P w K mg base 1 ((gxO nsL K C D).at m) 0 "row_of" Qh bA:=qO F hm O.cl_Nodes (iX (by decide +kernel) (by decide +kernel)) dj rfl rfl (fun _ _ _ _ _ _ us hl=>by obtain ⟨_,_,_,rfl⟩:=L2.ur hl;rfl) fun cdv A outer s H E hr =>
  (ag (aB (bJ (w_fld gJ (eJ O) (qv 0 rfl) rfl) (qv 1 rfl) (fun _ _=>rfl) rfl) dj.nd rfl Q3 rfl Q3)
  (ag (aB (bJ (w_fld gJ (dN O) (qv 0 rfl) rfl) (qv 1 rfl) (fun _ _=>rfl) rfl) dj.nd rfl (Or.inr rfl) rfl Q3)
  (ag (aB (yy B.b_tuple (ae (oh 1 Qk rfl (fJ (sL B.b_sorted (ae (cY 4 rfl (Or.inr Q3) rfl rfl) aq rfl) rfl rfl rfl rfl) rfl) (jq (by decide)) (fun _ _ _ _ _=>(aX 0 (show List.Nodup (Qk:List Str) from by decide +kernel) rfl Q3 (Or.inr rfl))) (fun _ _ _ _ _=>(iQ (ae (qv 0 rfl) (ae (Ac hr (cY 3 rfl (Or.inr Q3) rfl rfl) (qW hr (cY 5 rfl (Or.inr Q3) rfl rfl) (qv 0 rfl) (fun _ _=>rfl) rfl) (fun _ _=>rfl) rfl) aq rfl) rfl))) rfl rfl (by decide) (fun _=>rfl)) aq rfl) rfl rfl rfl) dj.nd rfl Q3 rfl Q3)
  (ag (dw (AG (qv 3 rfl)) (av (cT (iQ (ae ah (ae ah (ae wY (ae (qv 5 rfl) aq rfl) rfl) rfl) rfl)))) bO)
  (av (cT (iQ (ae (w_add (bJ (w_fld gJ (eD O) (qv 0 rfl) rfl) (qv 3 rfl) (fun _ _=>rfl) rfl) ah) (ae (bJ (w_fld gJ (eD O) (qv 0 rfl) rfl) (qv 1 rfl) (fun _ _=>rfl) rfl) (ae (Ac hr (cY 2 rfl (Or.inr Q3) rfl rfl) (qv 3 rfl) (fun _ _=>rfl) rfl) (ae (qv 5 rfl) aq rfl) rfl) rfl) rfl))))))))
noncomputable abbrev fX:Stmt:=inClass (top 1) 5
theorem hV:FnScope ["self", "numbers"] Qj (ai fX):=⟨rfl,rfl,rfl,by decide +kernel,rfl,by decide +kernel,by decide +kernel⟩
theorem de {m:Me} {f:Addr} {fd:FuncData} (F:Fun K "table" "Nodes.table" fX f fd) (hm:Meth K C "table" f) (B:Blt mg) (O:ObF K mg C D) (aU:∀ m,MpAt P w K mg base 1 ((gxO nsL K C D).at m) 0 "numbers_by_node" Qj aC) (cJ:∀ m,MpAt P w K mg base 1 ((gxO nsL K C D).at m) 0 "row_of" Qh bA) :
  MpAt P w K mg base 2 ((gxO nsL K C D).at m) 0 "table" Qj dc:=qO F hm O.cl_Nodes (iX (by decide +kernel) (by decide +kernel)) hV rfl rfl (fun _ _ _ _ _ _ us hl=>by obtain ⟨_,rfl⟩:=L2.rh hl;rfl) fun cdv A outer s H E hr =>
  (ag (dA (oP (aU _) hr (by decide) (cY 0 rfl (Or.inr Q3) rfl rfl) rfl) hV.nd rfl (Or.inr rfl) rfl Q3)
  (av (BI 1 ["node", "self", "numbers"] rfl rfl (Or.inr Q3) rfl rfl (jq (by decide)) (fun _ _ _ _ _=>(aX 0 (show List.Nodup (["node", "self", "numbers"]:List Str) from by decide +kernel) rfl Q3 (Or.inr rfl))) (fun _ _ _ _ _=>(zd (cJ _) hr (by decide) (cY 1 rfl (Or.inr Q3) rfl rfl) (ae (qv 0 rfl) (ae (cY 2 rfl (Or.inr Q3) rfl rfl) aq rfl) rfl) rfl rfl rfl)) rfl rfl (by decide) (fun _=>rfl))))
noncomputable abbrev iT:Stmt:=top 2
theorem g7:FnScope ["book", "nodes", "text"] ["book"] (ai iT):=⟨rfl,rfl,rfl,by decide +kernel,rfl,by decide +kernel,by decide +kernel⟩
theorem fm {m:Me} {f:Addr} {fd:FuncData} (F:Fun K "table_of" "table_of" iT f fd) (hm:mg "table_of" = some (.ref f)) (B:Blt mg) (O:ObF K mg C D) (bY:InAt P w K mg base 2 (gxO nsL K C D) 0 0 "Nodes" Qj dS) (bC:MtAt P w K mg base 4 (gxO nsL K C D) 0 "head_grown" Qf [false,false] bD) (de:∀ m,MpAt P w K mg base 2 ((gxO nsL K C D).at m) 0 "table" Qj dc) :
  FnAt P w K mg base 5 "table_of" ["book"] ((gxO nsL K C D).at m) fG:=qj F hm g7 rfl rfl (fun _ _ _ _ _ _ us hl=>by obtain ⟨_,rfl⟩:=L2.rh hl;rfl) fun cdv A outer s H E hr =>
  (ag (dA (yw bY.at hr (by decide) rfl rfl) g7.nd rfl Q3 rfl Q3)
  (ag (dm ZC rfl (fJ (qv 0 rfl) rfl) (aX 2 g7.nd rfl Q3 Q3)
  (av (pH (gz gJ bC.at hr (by decide) (bV 1 rfl (Or.inl rfl) rfl rfl) (ae ah (ae (qv 2 rfl) aq rfl) rfl) rfl rfl rfl) rfl)) (fun _=>rfl))
  (gH 1 (av (cT (oP (de _) hr (by decide) (qv 1 rfl) rfl))))))
noncomputable abbrev j4:Stmt:=top 4
theorem cH:FnScope ["book", "letters", "table", "met", "done", "word", "ways", "sign"] ["book", "letters"] (ai j4):=⟨rfl,rfl,rfl,by decide +kernel,rfl,by decide +kernel,by decide +kernel⟩
theorem d7 {m:Me} {f:Addr} {fd:FuncData} (F:Fun K "lacking" "lacking" j4 f fd) (hm:mg "lacking" = some (.ref f)) (B:Blt mg) (O:ObF K mg C D) (fm:∀ m,FnAt P w K mg base 5 "table_of" ["book"] ((gxO nsL K C D).at m) fG) :
  FnAt P w K mg base 6 "lacking" ["book", "letters"] ((gxO nsL K C D).at m) bW:=qj F hm cH rfl rfl (fun _ _ _ _ _ _ us hl=>by obtain ⟨_,_,rfl⟩:=L2.eQ hl;rfl) fun cdv A outer s H E hr =>
  (ag (aB (hZ (fm _) hr (ae (qv 0 rfl) aq rfl) (by decide) rfl rfl rfl rfl) cH.nd rfl Q3 rfl Q3)
  (ag (dA (dn (ae (iQ (ae (gw (by decide +kernel) (by decide)) (ae ah aq rfl) rfl)) aq rfl)) cH.nd rfl Q3 rfl Q3)
  (ag (aB ah cH.nd rfl Q3 rfl Q3)
  (av (gq ZC (oC qo rfl (fun _=>rfl))
  (ag (aB (bJ (bJ (qv 3 rfl) (qv 4 rfl) (fun _ _=>rfl) rfl) ah (fun _ _=>rfl) rfl) cH.nd rfl Q3 rfl Q3)
  (ag (aB (x9 B.b_dict (ae (bJ (bJ (qv 2 rfl) (bJ (bJ (qv 3 rfl) (qv 4 rfl) (fun _ _=>rfl) rfl) ah (fun _ _=>rfl) rfl) (fun _ _=>rfl) rfl) ah (fun _ _=>rfl) rfl) aq rfl) rfl rfl rfl) cH.nd rfl Q3 rfl Q3)
  (ag (dm ZC rfl (fJ (qv 1 rfl) rfl) (aX 7 cH.nd rfl Q3 Q3)
  (ag (dw (nS hr (qv 7 rfl) (qv 6 rfl) (by with_unfolding_all rfl) rfl) (av (cT (w_add (qv 5 rfl) (qv 7 rfl)))) bO)
  (av (jl 3 (ae (iQ (ae (w_add (qv 5 rfl) (qv 7 rfl)) (ae (qW hr (qv 6 rfl) (qv 7 rfl) (fun _ _=>rfl) rfl) aq rfl) rfl)) aq rfl) rfl rfl Q3 rfl rfl rfl rfl rfl))) (fun _=>rfl))
  (av (aB (w_add (qv 4 rfl) ah) cH.nd rfl Q3 rfl Q3))))))))))
noncomputable abbrev gC:Stmt:=top 6
theorem ba:FnScope ["_law_script", "_law_k", "_law_cell", "_law_left", "_law_number", "_law_turn", "_law_more"] Q8 (ai gC):=⟨rfl,rfl,rfl,by decide +kernel,rfl,by decide +kernel,by decide +kernel⟩
theorem cU {m:Me} {f:Addr} {fd:FuncData} (F:Fun K "_law_spring" "_law_spring" gC f fd) (hm:mg "_law_spring" = some (.ref f)) (B:Blt mg) (O:ObF K mg C D) :
  FnAt P w K mg base 1 "_law_spring" Q8 ((gxO nsL K C D).at m) bt:=qj F hm ba rfl rfl (fun _ _ _ _ _ _ us hl=>by obtain ⟨_,_,rfl⟩:=L2.eQ hl;rfl) fun cdv A outer s H E hr =>
  (ag (aB (w_add (w_mul (qv 1 rfl) ah) ah) ba.nd rfl Q3 rfl Q3)
  (ag (dw (Af (gQ B.b_len (ae (qv 0 rfl) aq rfl) rfl rfl rfl) ah) (av (aB (w_add (bJ (qv 0 rfl) (w_mod (qv 1 rfl) (gQ B.b_len (ae (qv 0 rfl) aq rfl) rfl rfl rfl)) (fun _ _=>rfl) rfl) (w_mul (kj kH kG (qv 1 rfl) (gQ B.b_len (ae (qv 0 rfl) aq rfl) rfl rfl rfl)) ah)) ba.nd rfl Q3 rfl Q3)) bO)
  (ag (dw (lU hr (w_mod (qv 2 rfl) ah) ah) (av (cT (dn (ae (kj kH kG (qv 2 rfl) ah) aq rfl)))) bO)
  (ag (aB (w_mod (w_add (kj kH kG (qv 2 rfl) ah) (w_mul ah (qv 1 rfl))) ah) ba.nd rfl Q3 rfl Q3)
  (ag (aB ah ba.nd rfl Q3 rfl Q3)
  (ag (dm ZC rfl (d5 ah rfl B.b_range rfl rfl) (aX 5 ba.nd rfl Q3 Q3)
  (ag (aB (w_mod (w_add (w_add (w_mul (qv 3 rfl) ah) (w_mul ah (qv 5 rfl))) ah) ah) ba.nd rfl Q3 rfl Q3)
  (ag (aB (w_mod (w_mul (qv 3 rfl) (qv 3 rfl)) ah) ba.nd rfl Q3 rfl Q3)
  (av (aB (w_add (w_mul (qv 4 rfl) ah) (w_mod (w_mul (qv 6 rfl) (w_add (w_mod (qv 6 rfl) ah) ah)) ah)) ba.nd rfl Q3 rfl Q3)))) (fun _=>rfl))
  (av (cT (dn (ae (qv 4 rfl) aq rfl))))))))))
noncomputable abbrev iU:Stmt:=top 7
theorem km:FnScope ["_law_spring_here", "_law_most", "_law_digit"] Qa (ai iU):=⟨rfl,rfl,rfl,by decide +kernel,rfl,by decide +kernel,by decide +kernel⟩
theorem ay {m:Me} {f:Addr} {fd:FuncData} (F:Fun K "_law_next" "_law_next" iU f fd) (hm:mg "_law_next" = some (.ref f)) (B:Blt mg) (O:ObF K mg C D) :
  IoAt P w K mg base 1 "_law_next" Qa ((gxO nsL K C D).at m) [false] au:=ly F hm km rfl rfl (fun _ _ _ _ _ _ us hl=>by obtain ⟨_,_,rfl⟩:=L2.eQ hl;rfl) fun m1 cdv A outer s H E hr =>
  (ag (aB (w_mod (bJ (BW (qv 0 rfl)) ah (fun _ _=>rfl) rfl) (qv 1 rfl)) km.nd rfl Q3 rfl Q3)
  (ag (jA gJ hr (Cj (bV 0 rfl (Or.inl rfl) rfl rfl)) ah (kj kH kG (bJ (BW (qv 0 rfl)) ah (fun _ _=>rfl) rfl) (qv 1 rfl)) (fun _=>rfl) rfl rfl rfl)
  (av (dz 2 rfl (Or.inl rfl) rfl rfl))))
noncomputable abbrev ja:Stmt:=top 8
theorem oO:FnScope Qb Qb (ai ja):=⟨rfl,rfl,rfl,by decide +kernel,rfl,by decide +kernel,by decide +kernel⟩
theorem d6 {m:Me} {f:Addr} {fd:FuncData} (F:Fun K "_law_text" "_law_text" ja f fd) (hm:mg "_law_text" = some (.ref f)) (B:Blt mg) (O:ObF K mg C D) (ay:∀ m,IoAt P w K mg base 1 "_law_next" Qa ((gxO nsL K C D).at m) [false] au) :
  IoAt P w K mg base 2 "_law_text" Qb ((gxO nsL K C D).at m) [false,false] dX:=ly F hm oO rfl rfl (fun _ _ _ _ _ _ us hl=>by obtain ⟨_,_,_,rfl⟩:=L2.ur hl;rfl) fun m1 cdv A outer s H E hr =>
  (av (tf (zi (gw (by decide +kernel) (by decide)) (xT Q6 rfl rfl B.b_range (bg (ay _) hr (bQ 0 true rfl (Or.inr Q3) rfl rfl (bI (aJ (w_add (qv 2 rfl) ah)) aZ rfl) rfl) (by decide) rfl rfl rfl rfl) (fun _ _ _ _ _=>L2.sN (show List.Nodup (Q6:List Str) from by decide +kernel) rfl Q3 (Or.inr rfl)) (fun _ _ _ _ _=>(wX (aJ (cY 2 rfl (Or.inr Q3) rfl rfl)) (bg (ay _) hr (bQ 1 true rfl (Or.inr Q3) rfl rfl (bI (aJ (gQ B.b_len (ae (cY 2 rfl (Or.inr Q3) rfl rfl) aq rfl) rfl rfl rfl)) aZ rfl) rfl) (by decide) rfl rfl rfl rfl) (fun _ _=>rfl) rfl)) rfl rfl rfl rfl (by decide) (fun _=>rfl)) rfl rfl rfl rfl rfl rfl)))
noncomputable abbrev iq:Stmt:=top 9
theorem dG:FnScope ["_law_spring_here", "_law_letters_here", "_law_few", "_law_start", "_law_step"] Qd (ai iq):=⟨rfl,rfl,rfl,by decide +kernel,rfl,by decide +kernel,by decide +kernel⟩
theorem eA {m:Me} {f:Addr} {fd:FuncData} (F:Fun K "_law_signs" "_law_signs" iq f fd) (hm:mg "_law_signs" = some (.ref f)) (B:Blt mg) (O:ObF K mg C D) (ay:∀ m,IoAt P w K mg base 1 "_law_next" Qa ((gxO nsL K C D).at m) [false] au) :
  IoAt P w K mg base 2 "_law_signs" Qd ((gxO nsL K C D).at m) [] fK:=ly F hm dG rfl rfl (fun _ _ _ _ _ _ us hl=>by obtain ⟨_,rfl⟩:=L2.rh hl;rfl) fun m1 cdv A outer s H E hr =>
  (ag (aB (gw (by decide +kernel) (by decide)) dG.nd rfl (Or.inr rfl) rfl Q3)
  (ag (cQ (oj (dn (ae ah (ae ah (ae ah (ae ah (ae ah (ae ah (ae ah (ae ah aq rfl) rfl) rfl) rfl) rfl) rfl) rfl) rfl)) (bg (ay _) hr (bQ 0 true rfl (Or.inl rfl) rfl rfl (bI (aJ ah) aZ rfl) rfl) (by decide) rfl rfl rfl rfl) (fun _ _=>rfl) rfl) dG.nd rfl Q3 rfl Q3)
  (ag (cQ (bg (ay _) hr (bQ 0 true rfl (Or.inl rfl) rfl rfl (bI (aJ ah) aZ rfl) rfl) (by decide) rfl rfl rfl rfl) dG.nd rfl (Or.inr rfl) rfl Q3)
  (ag (cQ (oj (dn (ae ah (ae ah (ae ah (ae ah aq rfl) rfl) rfl) rfl)) (bg (ay _) hr (bQ 0 true rfl (Or.inl rfl) rfl rfl (bI (aJ ah) aZ rfl) rfl) (by decide) rfl rfl rfl rfl) (fun _ _=>rfl) rfl) dG.nd rfl (Or.inr rfl) rfl Q3)
  (av (cT (sA (gw (by decide +kernel) (by decide)) (ae (oh 1 Q5 rfl (d5 (qv 2 rfl) rfl B.b_range rfl rfl) (jq (by decide)) (fun _ _ _ _ _=>(aX 0 (show List.Nodup (Q5:List Str) from by decide +kernel) rfl Q3 (Or.inr rfl))) (fun _ _ _ _ _=>(bJ (cY 2 rfl (Or.inr Q3) rfl rfl) (w_mod (w_add (cY 4 rfl (Or.inr Q3) rfl rfl) (w_mul (cY 5 rfl (Or.inr Q3) rfl rfl) (qv 0 rfl))) ah) (fun _ _=>rfl) rfl)) rfl rfl (by decide) (fun _=>rfl)) aq rfl) rfl rfl rfl rfl rfl rfl)))))))
noncomputable abbrev jk:Stmt:=top 10
theorem cF:FnScope ["_law_spring_here", "_law_signs_here", "_law_many", "_law_book_here", "_law_k", "_law_text_here", "_law_old"] Qc (ai jk):=⟨rfl,rfl,rfl,by decide +kernel,rfl,by decide +kernel,by decide +kernel⟩
theorem fi {m:Me} {f:Addr} {fd:FuncData} (F:Fun K "_law_book" "_law_book" jk f fd) (hm:mg "_law_book" = some (.ref f)) (B:Blt mg) (O:ObF K mg C D) (ay:∀ m,IoAt P w K mg base 1 "_law_next" Qa ((gxO nsL K C D).at m) [false] au) (d6:∀ m,IoAt P w K mg base 2 "_law_text" Qb ((gxO nsL K C D).at m) [false,false] dX) :
  IoAt P w K mg base 3 "_law_book" Qc ((gxO nsL K C D).at m) [false] gE:=ly F hm cF rfl rfl (fun _ _ _ _ _ _ us hl=>by obtain ⟨_,_,rfl⟩:=L2.eQ hl;rfl) fun m1 cdv A outer s H E hr =>
  (ag (cQ (oj (dn (ae ah (ae ah (ae ah (ae ah (ae ah (ae ah (ae ah (ae ah aq rfl) rfl) rfl) rfl) rfl) rfl) rfl) rfl)) (bg (ay _) hr (bQ 0 true rfl (Or.inl rfl) rfl rfl (bI (aJ ah) aZ rfl) rfl) (by decide) rfl rfl rfl rfl) (fun _ _=>rfl) rfl) cF.nd rfl Q3 rfl Q3)
  (ag (dA (dn aq) cF.nd rfl Q3 rfl Q3)
  (ag (dm ZC rfl (d5 (qv 2 rfl) rfl B.b_range rfl rfl) (aX 4 cF.nd rfl Q3 Q3)
  (ag (cQ (bg (d6 _) hr (bQ 0 true rfl (Or.inl rfl) rfl rfl (bI (aJ (qv 1 rfl)) (bI (oj (dn (ae ah (ae ah (ae ah (ae ah aq rfl) rfl) rfl) rfl)) (bg (ay _) hr (bQ 0 true rfl (Or.inl rfl) rfl rfl (bI (aJ ah) aZ rfl) rfl) (by decide) rfl rfl rfl rfl) (fun _ _=>rfl) rfl) aZ rfl) rfl) rfl) (by decide) rfl rfl rfl rfl) cF.nd rfl Q3 rfl Q3)
  (ag (uZ (sR (Af (qv 4 rfl) ah) (sQ (qY hr.units) xS (bg (ay _) hr (bQ 0 true rfl (Or.inl rfl) rfl rfl (bI (aJ ah) aZ rfl) rfl) (by decide) rfl rfl rfl rfl) (aJ ah) (gF _))) (ag (cQ (AK 3 rfl (Or.inl rfl) rfl rfl (bg (ay _) hr (bQ 0 true rfl (Or.inl rfl) rfl rfl (bI (aJ (qv 4 rfl)) aZ rfl) rfl) (by decide) rfl rfl rfl rfl) (fun _ _=>rfl) rfl) cF.nd rfl Q3 rfl Q3)
  (av (cQ (Ad (mD iE jV (Ad (aJ (qv 6 rfl)) (kU (bg (ay _) hr (bQ 0 true rfl (Or.inl rfl) rfl rfl (bI (aJ (w_add (gQ B.b_len (ae (qv 6 rfl) aq rfl) rfl rfl rfl) ah)) aZ rfl) rfl) (by decide) rfl rfl rfl rfl)) kT) (aJ (qv 5 rfl))) kT (kU (aJ ah))) cF.nd rfl Q3 rfl Q3))) bO)
  (av (jl 3 (ae (qv 5 rfl) aq rfl) rfl rfl Q3 rfl rfl rfl rfl rfl)))) (fun _=>rfl))
  (ag (uZ (sR (lq ah (qv 2 rfl) ah (by with_unfolding_all rfl)) (sQ (qY hr.units) xS (bg (ay _) hr (bQ 0 true rfl (Or.inl rfl) rfl rfl (bI (aJ ah) aZ rfl) rfl) (by decide) rfl rfl rfl rfl) (aJ ah) (gF _))) (av (rZ gJ hr (bV 3 rfl (Or.inl rfl) rfl rfl) ah (mD zg zw (mD iE jV (mD iE jV (aJ (bJ (qv 3 rfl) ah (fun _ _=>rfl) rfl)) (bg (d6 _) hr (bQ 0 true rfl (Or.inl rfl) rfl rfl (bI (aJ (qv 1 rfl)) (bI (aJ ah) aZ rfl) rfl) rfl) (by decide) rfl rfl rfl rfl)) (aJ (bJ (qv 3 rfl) zQ (fun _ _=>rfl) rfl))) (mD iE jV (aJ ah) (bg (ay _) hr (bQ 0 true rfl (Or.inl rfl) rfl rfl (bI (aJ ah) aZ rfl) rfl) (by decide) rfl rfl rfl rfl))) (fun _=>rfl) rfl rfl rfl)) bO)
  (av (dz 3 rfl (Or.inl rfl) rfl rfl))))))
noncomputable abbrev iw:Stmt:=top 11
theorem cS:FnScope ["_law_book_here", "_law_found", "_law_t", "_law_text_here", "_law_start", "_law_end"] ["_law_book_here"] (ai iw):=⟨rfl,rfl,rfl,by decide +kernel,rfl,by decide +kernel,by decide +kernel⟩
theorem eE {m:Me} {f:Addr} {fd:FuncData} (F:Fun K "_law_parts" "_law_parts" iw f fd) (hm:mg "_law_parts" = some (.ref f)) (B:Blt mg) (O:ObF K mg C D) :
  FnAt P w K mg base 1 "_law_parts" ["_law_book_here"] ((gxO nsL K C D).at m) ed:=qj F hm cS rfl rfl (fun _ _ _ _ _ _ us hl=>by obtain ⟨_,rfl⟩:=L2.rh hl;rfl) fun cdv A outer s H E hr =>
  (ag (dA (zK (by decide +kernel) (by decide)) cS.nd rfl Q3 rfl Q3)
  (ag (dm ZC rfl (uY (qv 0 rfl) rfl B.b_enumerate rfl rfl) (zk rfl (mW (aX 2 cS.nd rfl (Or.inr rfl) Q3) (mW (aX 3 cS.nd rfl Q3 Q3) xg rfl) rfl) rfl rfl rfl)
  (ag (Bs 1 hr (gw (by decide +kernel) (by decide)) (w_add (qW hr (qv 1 rfl) (gw (by decide +kernel) (by decide)) (fun _ _=>rfl) rfl) (oh 1 Q4 rfl (d5 (w_add (gQ B.b_len (ae (qv 3 rfl) aq rfl) rfl rfl rfl) ah) rfl B.b_range rfl rfl) (jq (by decide)) (fun _ _ _ _ _=>(aX 0 (show List.Nodup (Q4:List Str) from by decide +kernel) rfl Q3 (Or.inr rfl))) (fun _ _ _ _ _=>(iQ (ae (cY 3 rfl (Or.inr Q3) rfl rfl) (ae (qv 0 rfl) aq rfl) rfl))) rfl rfl (by decide) (fun _=>rfl))) rfl Q3 rfl rfl (fun _=>rfl) rfl rfl rfl)
  (av (dm ZC rfl (d5 (gQ B.b_len (ae (qv 3 rfl) aq rfl) rfl rfl rfl) rfl B.b_range rfl rfl) (aX 4 cS.nd rfl Q3 Q3)
  (av (dm ZC rfl (qy (w_add (qv 4 rfl) ah) (w_add (gQ B.b_len (ae (qv 3 rfl) aq rfl) rfl rfl rfl) ah) rfl B.b_range rfl rfl rfl rfl) (aX 5 cS.nd rfl Q3 Q3)
  (av (uR gJ 1 (uQ (qv 3 rfl) (lb (qv 4 rfl)) (lb (qv 5 rfl)) rfl) (ae (iQ (ae (cY 2 rfl (Or.inr Q3) rfl rfl) (ae (qv 5 rfl) aq rfl) rfl)) aq rfl)  rfl rfl Q3 rfl rfl rfl rfl rfl rfl rfl rfl rfl rfl rfl rfl rfl rfl)) (fun _=>rfl))) (fun _=>rfl)))) (fun _=>rfl))
  (av (dz 1 rfl (Or.inl rfl) rfl rfl))))
noncomputable abbrev fS:Stmt:=top 12
theorem bX:FnScope ["_law_spring_here", "_law_signs_here", "_law_letters_here", "_law_way", "_law_some"] Qc (ai fS):=⟨rfl,rfl,rfl,by decide +kernel,rfl,by decide +kernel,by decide +kernel⟩
theorem dh {m:Me} {f:Addr} {fd:FuncData} (F:Fun K "_law_letters" "_law_letters" fS f fd) (hm:mg "_law_letters" = some (.ref f)) (B:Blt mg) (O:ObF K mg C D) (ay:∀ m,IoAt P w K mg base 1 "_law_next" Qa ((gxO nsL K C D).at m) [false] au) :
  IoAt P w K mg base 2 "_law_letters" Qc ((gxO nsL K C D).at m) [false] da:=ly F hm bX rfl rfl (fun _ _ _ _ _ _ us hl=>by obtain ⟨_,_,rfl⟩:=L2.eQ hl;rfl) fun m1 cdv A outer s H E hr =>
  (ag (aB (gw (by decide +kernel) (by decide)) bX.nd rfl Q3 rfl Q3)
  (ag (cQ (bg (ay _) hr (bQ 0 true rfl (Or.inl rfl) rfl rfl (bI (aJ ah) aZ rfl) rfl) (by decide) rfl rfl rfl rfl) bX.nd rfl Q3 rfl Q3)
  (ag (dw (lU hr (qv 3 rfl) ah) (av (dz 2 rfl (Or.inl rfl) rfl rfl)) bO)
  (ag (dA (sF B.b_list (ae (qv 1 rfl) aq rfl) rfl rfl rfl rfl) bX.nd rfl (Or.inr rfl) rfl Q3)
  (ag (dw (lU hr (qv 3 rfl) ah) (av (uD 4 rfl (Or.inr Q3) rfl rfl kT (kU (mD iE jV (aJ ah) (bg (ay _) hr (bQ 0 true rfl (Or.inl rfl) rfl rfl (bI (aJ (gQ B.b_len (ae (qv 1 rfl) aq rfl) rfl rfl rfl)) aZ rfl) rfl) (by decide) rfl rfl rfl rfl))) rfl bX.nd rfl (Or.inr rfl) rfl Q3)) bO)
  (ag (dw (eX nR sI jL (qv 3 rfl) ah (gF _)) (av (zr 4 rfl (Or.inr Q3) rfl rfl (wX (aJ (qv 2 rfl)) (bg (ay _) hr (bQ 0 true rfl (Or.inl rfl) rfl rfl (bI (aJ ah) aZ rfl) rfl) (by decide) rfl rfl rfl rfl) (fun _ _=>rfl) rfl) rfl rfl rfl rfl rfl rfl rfl)) bO)
  (gH 4 (ag (dw (lU hr (qv 3 rfl) ah) (av (wm (wX (aJ (qv 2 rfl)) (bg (ay _) hr (bQ 0 true rfl (Or.inl rfl) rfl rfl (bI (aJ ah) aZ rfl) rfl) (by decide) rfl rfl rfl rfl) (fun _ _=>rfl) rfl) bX.nd rfl (Or.inr rfl) rfl rfl Q3)) bO)
  (av (cT (sA (gw (by decide +kernel) (by decide)) (ae (uO 1 Q9 rfl (fJ (qv 2 rfl) rfl) (jq (by decide)) (fun _ _ _ _ _=>(aX 0 (show List.Nodup (Q9:List Str) from by decide +kernel) rfl Q3 (Or.inr rfl))) (fun _ _ _ _ _=>(zZ hr (qv 0 rfl) (cY 5 rfl (Or.inr Q3) rfl rfl) (by with_unfolding_all rfl) rfl)) (fun _ _ _ _ _=>(qv 0 rfl)) rfl rfl (by decide) (fun _=>rfl)) aq rfl) rfl rfl rfl rfl rfl rfl)))))))))))
noncomputable abbrev jU:Stmt:=top 13
theorem dR:FnScope ["_law_parts_here", "_law_letters_here", "_law_front", "_law_fresh", "_law_word", "_law_sign"] Q7 (ai jU):=⟨rfl,rfl,rfl,by decide +kernel,rfl,by decide +kernel,by decide +kernel⟩
theorem gh {m:Me} {f:Addr} {fd:FuncData} (F:Fun K "_law_due" "_law_due" jU f fd) (hm:mg "_law_due" = some (.ref f)) (B:Blt mg) (O:ObF K mg C D) :
  FnAt P w K mg base 1 "_law_due" Q7 ((gxO nsL K C D).at m) fh:=qj F hm dR rfl rfl (fun _ _ _ _ _ _ us hl=>by obtain ⟨_,_,rfl⟩:=L2.eQ hl;rfl) fun cdv A outer s H E hr =>
  (ag (aB (dn (ae (gw (by decide +kernel) (by decide)) aq rfl)) dR.nd rfl Q3 rfl Q3)
  (av (gq ZC (oC qo rfl (fun _=>rfl))
  (ag (dA (dn aq) dR.nd rfl Q3 rfl Q3)
  (ag (dm ZC rfl (fJ (qv 2 rfl) rfl) (aX 4 dR.nd rfl Q3 Q3)
  (av (dm ZC rfl (fJ (qv 1 rfl) rfl) (aX 5 dR.nd rfl Q3 Q3)
  (ag (dw (nS hr (w_add (qv 4 rfl) (qv 5 rfl)) (qv 0 rfl) (by with_unfolding_all rfl) rfl) (av (cT (w_add (qv 4 rfl) (qv 5 rfl)))) bO)
  (av (jl 3 (ae (w_add (qv 4 rfl) (qv 5 rfl)) aq rfl) rfl rfl Q3 rfl rfl rfl rfl rfl))) (fun _=>rfl))) (fun _=>rfl))
  (gH 3 (av (aB (qv 3 rfl) dR.nd rfl Q3 rfl Q3))))))))
noncomputable abbrev jw:Stmt:=top 14
theorem fq:FnScope ["_law_script", "_law_spring_here", "_law_signs_here", "_law_book_here", "_law_parts_here", "_law_more", "_law_turn", "_law_letters_here", "_law_due_here", "_law_handed", "_law_got"] ["_law_script"] (ai jw):=⟨rfl,rfl,rfl,by decide +kernel,rfl,by decide +kernel,by decide +kernel⟩
theorem BR {m:Me} {f:Addr} {fd:FuncData} (F:Fun K "law" "law" jw f fd) (B:Blt mg) (O:ObF K mg C D) (fi:∀ m,IoAt P w K mg base 3 "_law_book" Qc ((gxO nsL K C D).at m) [false] gE) (gh:∀ m,FnAt P w K mg base 1 "_law_due" Q7 ((gxO nsL K C D).at m) fh) (dh:∀ m,IoAt P w K mg base 2 "_law_letters" Qc ((gxO nsL K C D).at m) [false] da) (eE:∀ m,FnAt P w K mg base 1 "_law_parts" ["_law_book_here"] ((gxO nsL K C D).at m) ed) (eA:∀ m,IoAt P w K mg base 2 "_law_signs" Qd ((gxO nsL K C D).at m) [] fK) (cU:∀ m,FnAt P w K mg base 1 "_law_spring" Q8 ((gxO nsL K C D).at m) bt) (d7:∀ m,FnAt P w K mg base 6 "lacking" ["book", "letters"] ((gxO nsL K C D).at m) bW) :
  FnOk P w K mg base CX0 7 f fd ["_law_script"] (spF ((gxO nsL K C D).at m) vY):=fnV F fq rfl rfl fun cdv A outer s H E hr =>
  (ag (dA (hZ (cU _) hr (ae (qv 0 rfl) (ae ah aq rfl) rfl) (by decide) rfl rfl rfl rfl) fq.nd rfl Q3 rfl Q3)
  (ag (cQ (bg (eA _) hr (bQ 1 false rfl (Or.inl rfl) rfl rfl aZ rfl) (by decide) rfl rfl rfl rfl) fq.nd rfl Q3 rfl Q3)
  (ag (vX (yE (fi _) hr (bQ 1 false rfl (Or.inl rfl) rfl rfl (bI (aJ (qv 2 rfl)) aZ rfl) rfl) (by decide) rfl rfl rfl rfl) fq.nd rfl Q3 rfl Q3)
  (gH 3 (gH 1 (ag (aB (hZ (eE _) hr (ae (qv 3 rfl) aq rfl) (by decide) rfl rfl rfl rfl) fq.nd rfl Q3 rfl Q3)
  (ag (dA (hZ (cU _) hr (ae (qv 0 rfl) (ae ah aq rfl) rfl) (by decide) rfl rfl rfl rfl) fq.nd rfl Q3 rfl Q3)
  (ag (dm ZC rfl (d5 ah rfl B.b_range rfl rfl) (aX 6 fq.nd rfl Q3 Q3)
  (ag (cQ (bg (dh _) hr (bQ 5 false rfl (Or.inl rfl) rfl rfl (bI (aJ (qv 2 rfl)) aZ rfl) rfl) (by decide) rfl rfl rfl rfl) fq.nd rfl Q3 rfl Q3)
  (ag (aB (hZ (gh _) hr (ae (qv 4 rfl) (ae (qv 7 rfl) aq rfl) rfl) (by decide) rfl rfl rfl rfl) fq.nd rfl Q3 rfl Q3)
  (ag (aB (sF B.b_list (ae (qv 3 rfl) aq rfl) rfl rfl rfl rfl) fq.nd rfl Q3 rfl Q3)
  (ag (aB (hZ (d7 _) hr (ae (qv 9 rfl) (ae (qv 7 rfl) aq rfl) rfl) (by decide) rfl rfl rfl rfl) fq.nd rfl Q3 rfl Q3)
  (ag (dw (PVW.pvt (rm (yM (oC (w_is .str B.b_isinstance B.b_str (qv 10 rfl) rfl rfl rfl rfl) rfl (fun _=>rfl))) (rm (eX (qu hr.units) vi kX (qv 10 rfl) (qv 8 rfl) (gF _)) (wU (eX (qu hr.units) vi kX (qv 9 rfl) (qv 3 rfl) (gF _)))))) (av (cT qo)) bO)
  (av (dw (PVW.pvt (rm (lU hr (hZ (d7 _) hr (ae (dn (ae (qv 8 rfl) (ae (w_rev (qv 7 rfl) wK (lb zQ)) aq rfl) rfl)) (ae (qv 7 rfl) aq rfl) rfl) (by decide) rfl rfl rfl rfl) (qv 8 rfl)) (wU (eX (qu hr.units) vi kX (hZ (d7 _) hr (ae (qv 9 rfl) (ae (qv 7 rfl) aq rfl) rfl) (by decide) rfl rfl rfl rfl) (qv 8 rfl) (gF _))))) (av (cT qo)) bO))))))) (fun _=>rfl))
  (gH 5 (av (cT qo)))))))))))
end
theorem all_mk {l:PySem.W.OpenLaw} {w:World} {K:Y2} {h:Heap} {mg:Xu} {fa C f0 f1 f2 f3 f4 f5 f6 f7 f8 f9 f10 f11 f12 f13 f14 f15 f16 f17 f18:Addr} (X:K.In h) (G:h.Ns mainGlobals mg) (hfa:mg "law" = some (.ref fa))
  {od18 an18:Option Addr} {sl18:Array (Ww)} {oc18 kV18 dc18 pm18 cd18 ct18:Value}
  (hlaw:∀ ns:Wp,ns.length<=63->vY [.scr ns]=some (.fr,.bl true))
  (a0:PySem.W.findIn K (.ref C) "new_node" = some (some (.ref f0))) (i0:PySem.W.isFn K (.ref f0)=true) {fd0:FuncData} (F0:Fun K "new_node" "Nodes.new_node" dQ f0 fd0)
  (a1:PySem.W.findIn K (.ref C) "__init__" = some (some (.ref f1))) (i1:PySem.W.isFn K (.ref f1)=true) {fd1:FuncData} (F1:Fun K "__init__" "Nodes.__init__" dY f1 fd1)
  (a2:PySem.W.findIn K (.ref C) "node_just_behind" = some (some (.ref f2))) (i2:PySem.W.isFn K (.ref f2)=true) {fd2:FuncData} (F2:Fun K "node_just_behind" "Nodes.node_just_behind" bS f2 fd2)
  (a3:PySem.W.findIn K (.ref C) "head_behind" = some (some (.ref f3))) (i3:PySem.W.isFn K (.ref f3)=true) {fd3:FuncData} (F3:Fun K "head_behind" "Nodes.head_behind" cZ f3 fd3)
  (a4:PySem.W.findIn K (.ref C) "head_grown" = some (some (.ref f4))) (i4:PySem.W.isFn K (.ref f4)=true) {fd4:FuncData} (F4:Fun K "head_grown" "Nodes.head_grown" dq f4 fd4)
  (a5:PySem.W.findIn K (.ref C) "numbers_by_node" = some (some (.ref f5))) (i5:PySem.W.isFn K (.ref f5)=true) {fd5:FuncData} (F5:Fun K "numbers_by_node" "Nodes.numbers_by_node" bZ f5 fd5)
  (a6:PySem.W.findIn K (.ref C) "row_of" = some (some (.ref f6))) (i6:PySem.W.isFn K (.ref f6)=true) {fd6:FuncData} (F6:Fun K "row_of" "Nodes.row_of" fz f6 fd6)
  (a7:PySem.W.findIn K (.ref C) "table" = some (some (.ref f7))) (i7:PySem.W.isFn K (.ref f7)=true) {fd7:FuncData} (F7:Fun K "table" "Nodes.table" fX f7 fd7)
  (a8:PySem.W.nsIn K mainGlobals "table_of" = some (some (.ref f8))) {fd8:FuncData} (F8:Fun K "table_of" "table_of" iT f8 fd8)
  (a9:PySem.W.nsIn K mainGlobals "lacking" = some (some (.ref f9))) {fd9:FuncData} (F9:Fun K "lacking" "lacking" j4 f9 fd9)
  (a10:PySem.W.nsIn K mainGlobals "_law_spring" = some (some (.ref f10))) {fd10:FuncData} (F10:Fun K "_law_spring" "_law_spring" gC f10 fd10)
  (a11:PySem.W.nsIn K mainGlobals "_law_next" = some (some (.ref f11))) {fd11:FuncData} (F11:Fun K "_law_next" "_law_next" iU f11 fd11)
  (a12:PySem.W.nsIn K mainGlobals "_law_text" = some (some (.ref f12))) {fd12:FuncData} (F12:Fun K "_law_text" "_law_text" ja f12 fd12)
  (a13:PySem.W.nsIn K mainGlobals "_law_signs" = some (some (.ref f13))) {fd13:FuncData} (F13:Fun K "_law_signs" "_law_signs" iq f13 fd13)
  (a14:PySem.W.nsIn K mainGlobals "_law_book" = some (some (.ref f14))) {fd14:FuncData} (F14:Fun K "_law_book" "_law_book" jk f14 fd14)
  (a15:PySem.W.nsIn K mainGlobals "_law_parts" = some (some (.ref f15))) {fd15:FuncData} (F15:Fun K "_law_parts" "_law_parts" iw f15 fd15)
  (a16:PySem.W.nsIn K mainGlobals "_law_letters" = some (some (.ref f16))) {fd16:FuncData} (F16:Fun K "_law_letters" "_law_letters" fS f16 fd16)
  (a17:PySem.W.nsIn K mainGlobals "_law_due" = some (some (.ref f17))) {fd17:FuncData} (F17:Fun K "_law_due" "_law_due" jU f17 fd17)
  (a18:PySem.W.nsIn K mainGlobals "law" = some (some (.ref f18))) (l18:K.lookup f18=some ⟨oc18,od18,.func (PySem.W.fnOf "law" "law" (dM jw) (aW jw) (ai jw) .none kV18 dc18 pm18 an18 cd18 ct18),sl18⟩) (c18:PySem.W.codeIn K cd18 "law" = true) (k18:PySem.W.keepIn K (.ref f18)=true)
  (z_dict:PySem.W.nsIn K mainGlobals "dict" = some none)
  (z_enumerate:PySem.W.nsIn K mainGlobals "enumerate" = some none)
  (z_isinstance:PySem.W.nsIn K mainGlobals "isinstance" = some none)
  (z_len:PySem.W.nsIn K mainGlobals "len" = some none)
  (z_list:PySem.W.nsIn K mainGlobals "list" = some none)
  (z_range:PySem.W.nsIn K mainGlobals "range" = some none)
  (z_sorted:PySem.W.nsIn K mainGlobals "sorted" = some none)
  (z_str:PySem.W.nsIn K mainGlobals "str" = some none)
  (z_tuple:PySem.W.nsIn K mainGlobals "tuple" = some none)
  (w_Nodes:PySem.W.nsIn K mainGlobals "Nodes" = some (some (.ref C))) (pg_Nodes:PySem.W.plainGet K C Str.empty=true) (hd_Nodes:PySem.W.hasDictIn K C=true) (po_Nodes:PySem.W.plainOver K C=true) (sa_Nodes:PySem.W.findIn K (.ref C) "__setattr__" = some (some (.builtin "object.__setattr__"))) (mk_Nodes:PySem.W.makesIn K C=true) (kc_Nodes:PySem.W.keepIn K (.ref C)=true) (n_longs_Nodes:PySem.W.findIn K (.ref C) "longs" = some none) (n_links_Nodes:PySem.W.findIn K (.ref C) "links" = some none) (n_ways_Nodes:PySem.W.findIn K (.ref C) "ways" = some none)
  : ∃ fd:FuncData,(∀ (s:Shared) (v:Value),BindsTo s fd ⟨[v],[]⟩ [("_law_script",v)])/\∀ base:Heap,K.In base->base.Ns mainGlobals mg->FnOk l.prog w K mg base CX0 7 fa fd ["_law_script"] (spF (gx0 K) u0):=by
 have e:=hfa.symm.trans (Ym X G a18)
 cases e
 have B:Blt mg:=⟨Yo X G z_dict,Yo X G z_enumerate,Yo X G z_isinstance,Yo X G z_len,Yo X G z_list,Yo X G z_range,Yo X G z_sorted,Yo X G z_str,Yo X G z_tuple⟩
 have O:ObF K mg C C:=⟨rfl,⟨pg_Nodes,hd_Nodes,po_Nodes,sa_Nodes⟩,Ym X G w_Nodes,n_longs_Nodes,n_links_Nodes,n_ways_Nodes⟩
 refine ⟨PySem.W.fnOf "law" "law" (dM jw) (aW jw) (ai jw) .none kV18 dc18 pm18 an18 cd18 ct18,fun s v=>.of_eq rfl,fun base _ _=>?_⟩
 have aL:=aL (P:=l.prog) (w:=w) (base:=base) F0 ⟨a0,i0,F0.kp⟩ B O
 have bY:=bY (P:=l.prog) (w:=w) (base:=base) F1 ⟨mk_Nodes,a1,i1,kc_Nodes⟩ B O aL
 have aP:=aP (P:=l.prog) (w:=w) (base:=base) F2 ⟨a2,i2,F2.kp⟩ B O aL
 have br:=br (P:=l.prog) (w:=w) (base:=base) F3 ⟨a3,i3,F3.kp⟩ B O aL aP
 have bC:=bC (P:=l.prog) (w:=w) (base:=base) F4 ⟨a4,i4,F4.kp⟩ B O br
 have aU:=fun m=>aU (m:=m) (P:=l.prog) (w:=w) (base:=base) F5 ⟨a5,i5,F5.kp⟩ B O
 have cJ:=fun m=>cJ (m:=m) (P:=l.prog) (w:=w) (base:=base) F6 ⟨a6,i6,F6.kp⟩ B O
 have de:=fun m=>de (m:=m) (P:=l.prog) (w:=w) (base:=base) F7 ⟨a7,i7,F7.kp⟩ B O aU cJ
 have fm:=fun m=>fm (m:=m) (P:=l.prog) (w:=w) (base:=base) F8 (Ym X G a8) B O bY bC de
 have d7:=fun m=>d7 (m:=m) (P:=l.prog) (w:=w) (base:=base) F9 (Ym X G a9) B O fm
 have cU:=fun m=>cU (m:=m) (P:=l.prog) (w:=w) (base:=base) F10 (Ym X G a10) B O
 have ay:=fun m=>ay (m:=m) (P:=l.prog) (w:=w) (base:=base) F11 (Ym X G a11) B O
 have d6:=fun m=>d6 (m:=m) (P:=l.prog) (w:=w) (base:=base) F12 (Ym X G a12) B O ay
 have eA:=fun m=>eA (m:=m) (P:=l.prog) (w:=w) (base:=base) F13 (Ym X G a13) B O ay
 have fi:=fun m=>fi (m:=m) (P:=l.prog) (w:=w) (base:=base) F14 (Ym X G a14) B O ay d6
 have eE:=fun m=>eE (m:=m) (P:=l.prog) (w:=w) (base:=base) F15 (Ym X G a15) B O
 have dh:=fun m=>dh (m:=m) (P:=l.prog) (w:=w) (base:=base) F16 (Ym X G a16) B O ay
 have gh:=fun m=>gh (m:=m) (P:=l.prog) (w:=w) (base:=base) F17 (Ym X G a17) B O
 exact yU rfl (BR (m:=fun _=>none) (cf (st:=jw) l18 c18 k18) B O fi gh dh eE eA cU d7) hlaw
end T37
open PySem PySem.W PyProof.Rows PySem.W.X PySem.W.ZRun
set_option maxRecDepth 100000 in
set_option maxHeartbeats 0 in
theorem PySem.Challenge.cw_allparts_k37_nowhere_holds : PySem.Challenge.rw_allparts_k37_nowhere.Holds := by
 w_on;o_law;z_head;(case hw=>w_witness2)
 k_fill
 intro w s₀ s₁ mg mb G y fa o pm cd doc dV kV ho hd hcd hD hmg hg args vals as L hpre hlay hrd hwl hlo
 z_open y L KX ZH ZN ZT
 clear ZH ZN ZT
 refine VS.u7 (l:=PySem.Challenge.rw_allparts_k37_nowhere) (k:=7) (x := "_law_script") rfl rfl ⟨rfl,by decide,by decide⟩ ?F w s₀ s₁ mg mb G KX fa o pm cd doc dV kV ho hd hcd hD hmg hg args vals as hpre hlay hrd hwl hlo
 case F =>
  intro w mg fa h KX G hmg
  refine' T37.all_mk KX G hmg T37.vp ?a0 ?i0 ?F0 ?a1 ?i1 ?F1 ?a2 ?i2 ?F2 ?a3 ?i3 ?F3 ?a4 ?i4 ?F4 ?a5 ?i5 ?F5 ?a6 ?i6 ?F6 ?a7 ?i7 ?F7 ?a8 ?F8 ?a9 ?F9 ?a10 ?F10 ?a11 ?F11 ?a12 ?F12 ?a13 ?F13 ?a14 ?F14 ?a15 ?F15 ?a16 ?F16 ?a17 ?F17 ?a18 ?l18 ?c18 ?k18 ?z_dict ?z_enumerate ?z_isinstance ?z_len ?z_list ?z_range ?z_sorted ?z_str ?z_tuple ?w_Nodes ?pg_Nodes ?hd_Nodes ?po_Nodes ?sa_Nodes ?mk_Nodes ?kc_Nodes ?n_longs_Nodes ?n_links_Nodes ?n_ways_Nodes
  (case w_Nodes=>k_is)
  (case a0=>k_is)
  (case i0=>k_is)
  (case F0=>refine' L2.cf ?l ?c ?k;(case l=>k_is);(case c=>k_is);(case k=>k_is))
  (case a1=>k_is)
  (case i1=>k_is)
  (case F1=>refine' L2.cf ?l ?c ?k;(case l=>k_is);(case c=>k_is);(case k=>k_is))
  (case a2=>k_is)
  (case i2=>k_is)
  (case F2=>refine' L2.cf ?l ?c ?k;(case l=>k_is);(case c=>k_is);(case k=>k_is))
  (case a3=>k_is)
  (case i3=>k_is)
  (case F3=>refine' L2.cf ?l ?c ?k;(case l=>k_is);(case c=>k_is);(case k=>k_is))
  (case a4=>k_is)
  (case i4=>k_is)
  (case F4=>refine' L2.cf ?l ?c ?k;(case l=>k_is);(case c=>k_is);(case k=>k_is))
  (case a5=>k_is)
  (case i5=>k_is)
  (case F5=>refine' L2.cf ?l ?c ?k;(case l=>k_is);(case c=>k_is);(case k=>k_is))
  (case a6=>k_is)
  (case i6=>k_is)
  (case F6=>refine' L2.cf ?l ?c ?k;(case l=>k_is);(case c=>k_is);(case k=>k_is))
  (case a7=>k_is)
  (case i7=>k_is)
  (case F7=>refine' L2.cf ?l ?c ?k;(case l=>k_is);(case c=>k_is);(case k=>k_is))
  (case a8=>k_is)
  (case F8=>refine' L2.cf ?l ?c ?k;(case l=>k_is);(case c=>k_is);(case k=>k_is))
  (case a9=>k_is)
  (case F9=>refine' L2.cf ?l ?c ?k;(case l=>k_is);(case c=>k_is);(case k=>k_is))
  (case a10=>k_is)
  (case F10=>refine' L2.cf ?l ?c ?k;(case l=>k_is);(case c=>k_is);(case k=>k_is))
  (case a11=>k_is)
  (case F11=>refine' L2.cf ?l ?c ?k;(case l=>k_is);(case c=>k_is);(case k=>k_is))
  (case a12=>k_is)
  (case F12=>refine' L2.cf ?l ?c ?k;(case l=>k_is);(case c=>k_is);(case k=>k_is))
  (case a13=>k_is)
  (case F13=>refine' L2.cf ?l ?c ?k;(case l=>k_is);(case c=>k_is);(case k=>k_is))
  (case a14=>k_is)
  (case F14=>refine' L2.cf ?l ?c ?k;(case l=>k_is);(case c=>k_is);(case k=>k_is))
  (case a15=>k_is)
  (case F15=>refine' L2.cf ?l ?c ?k;(case l=>k_is);(case c=>k_is);(case k=>k_is))
  (case a16=>k_is)
  (case F16=>refine' L2.cf ?l ?c ?k;(case l=>k_is);(case c=>k_is);(case k=>k_is))
  (case a17=>k_is)
  (case F17=>refine' L2.cf ?l ?c ?k;(case l=>k_is);(case c=>k_is);(case k=>k_is))
  (case a18=>k_is)
  (case l18=>k_is)
  (case c18=>k_is)
  (case k18=>k_is)
  (case z_dict=>k_is)
  (case z_enumerate=>k_is)
  (case z_isinstance=>k_is)
  (case z_len=>k_is)
  (case z_list=>k_is)
  (case z_range=>k_is)
  (case z_sorted=>k_is)
  (case z_str=>k_is)
  (case z_tuple=>k_is)
  (case pg_Nodes=>k_is)
  (case hd_Nodes=>k_is)
  (case po_Nodes=>k_is)
  (case sa_Nodes=>k_is)
  (case mk_Nodes=>k_is)
  (case kc_Nodes=>k_is)
  (case n_longs_Nodes=>k_is)
  (case n_links_Nodes=>k_is)
  (case n_ways_Nodes=>k_is)
end
