import PyProof.Rows.All
import Wide.All
import OpenK.AllK
import PySem.Challenge.RW_allparts_k52_lines_of_no_table
set_option linter.all false
set_option bootstrap.genMatcherCode false
set_option genSizeOf false
noncomputable section
namespace PySem.W.Fast
end PySem.W.Fast
open Option renaming some->Y, none->Z
open Bool renaming true->J, false->L
theorem q0(h:True:=by decide):True:=h
theorem q1(h:True:=by rfl):True:=h
theorem q2(h:True:=by intro _;rfl):True:=h
theorem q3(h:True:=by with_unfolding_all rfl):True:=h
theorem q4(h:True:=by first | exact Or.inl M | exact Or.inr (Or.inl M) | exact Or.inr (Or.inr M)):True:=h
theorem q5(h:True:=by first | exact Or.inl M | exact Or.inr M):True:=h
set_option hygiene false
local macro_rules|`({`q0,$x})=>`(autoParam $x q0._auto_1)|`({`q1,$x})=>`(autoParam $x q1._auto_1)|`({`q2,$x})=>`(autoParam $x q2._auto_1)|`({`q3,$x})=>`(autoParam $x q3._auto_1)|`({`q4,$x})=>`(autoParam $x q4._auto_1)|`({`q5,$x})=>`(autoParam $x q5._auto_1)
theorem M.{u}{α:Sort u}{a:α}:a=a:=rfl
open PySem renaming Shared->AC, model->Da, sizeLine->FB, Addr->FM, Value->FS, wpAny->GM, starEach->KB, FuncData->KF, Program->KM, Around->NB, keywordEach->NC, compareOp->ND, Heap->NF, World->NG, attributeBase->NH, foldedSetIterable->NI
open PyProof.Rows renaming Keyed->IR
set_option linter.all false
set_option maxRecDepth 100000
set_option Elab.async false
set_option maxHeartbeats 4000000
abbrev Yj:=PySem.Value->PySem.Shared->Prop
abbrev Xs:=List (PySem.Addr×PySem.Obj)
abbrev Xl:=List (List PySem.Addr)
abbrev Xe:=PySem.W.Frag
abbrev Wx:=PySem.Str->Option PySem.Value
abbrev Wl:=List PySem.Addr
abbrev Wk:=List PySem.Value
abbrev Wj:=Option PySem.Value
abbrev Wi:=List Nat
abbrev Wh:=List Int
abbrev Wg:=List (List (List Nat))
abbrev Zq:=@if_pos
abbrev Zl:=@if_neg
abbrev Zg:=@decide_eq_false
open Option renaming bind_eq_some_iff->zZ,map_eq_some_iff->z9,bind_some->Zw
open PySem renaming wpAny_bind->zY,wpAny_pure->z8,wpAny_mono->ZP,wpAny_holding->ZG,sizeLine_eq->Yp,wpAny_truthy_bool->Yk,wpAny_setField->Yb,wpAny_setState_of->YX,wpAny_newObj_type->YW,codeAny_mono->YN,mem_of_lookup->YG,codeAny_call_builtin->YE,codeAny_builtin->Y9,wpAny_call->Xz,wpAny_loadPart_at->Xu,wpAny_askSetting->Xo,typeIs_str->Xm,wpAny_passesOwn->Xf,wpAny_Call_Name_kw->XX,fits_of_scanBound->XJ,wpAny_standAt->XE,wpAny_call_entry->XC,wpAny_Name->X1,call_meets->X2,wpAny_execs_nil->X4,wpAny_field->Wy
open PySem.Heap renaming get?_push_of_some->zX,lt_size->Zt,get?_push_size->Zr,get?_update_other->Ze,get?_update_self->Za,size_push->Z4,size_update->Xj,get?_none_of_le->Ws
open List renaming length_append->zW,mem_cons_of_mem->zV,mem_cons_self->zU,length_map->zT,forall_mem_cons->z7,mem_cons->Zz,mem_singleton->Zx,mem_append->Zv,getElem?_eq_some_iff->Zs,flatten_cons->Zn,getElem?_eq_getElem->Zm,size_toArray->Zk,length_cons->Zj,map_cons->Zd,mem_append_right->Zb,append_assoc->ZY,length_drop->ZX,getElem?_map->ZW,getElem?_append_right->ZR,getD_eq_getElem?_getD->ZQ,nodup_cons->ZM,append_nil->ZL,all_eq_true->ZK,mem_of_mem_take->ZJ,zip_cons_cons->ZI,length_take->ZD,nodup_append->ZA,map_map->Z0,take_of_length_le->Z2,mem_map->Z3,length_singleton->Z5,map_append->Z6,mem_of_getElem?->Z8,mem_append_left->Z9,getElem?_set_ne->Yz,getElem?_append_left->Yw,drop_eq_getElem_cons->Yv,getElem?_eq_none->Yt,flatten_append->Yo,sublist_cons_self->Yn,getElem?_set_self->Ym,drop_of_length_le->Yl,lookup_cons->Yi,getElem_mem->Yh,pairwise_cons->Yg,getElem?_eq_none_iff->Yd,length_set->Yc,length_range->Ya,replicate_succ->YY,getElem?_replicate->YV,drop_eq_nil_of_le->YR,length_replicate->YO,exists_cons_of_ne_nil->YL,length_take_le->YF,nil_append->YC,length_nil->YB,drop_zero->Y6,cons_lt_cons_iff->Xy,mem_of_mem_drop->Xr,forIn_cons->Xq,filterMap_cons->Xp,pairwise_map->Xd,map_id->Xc,getElem?_take_of_lt->Xa,any_cons->XZ,not_mem_nil->XW,length_zip->XH,foldl_cons->XG,find?_cons->XF,not_lt->XB,nodup_nil->XA,mem_range->X0,map_congr_left->X3,map_take->X5,map_replicate->X9,getElem?_drop->Wz,range'_succ->Wp,filter_cons->Wn,cons_append->Wm
open Nat renaming le_refl->Zy,le_trans->Zu,ne_of_lt->Zo,lt_of_lt_of_le->Zh,min_eq_left->ZE,succ_le_succ->Z7,zero_le->Yx,le_of_not_lt->Yr,lt_irrefl->YZ,le_succ->YT,ne_of_gt->YK,min_le_right->YJ,lt_trans->YI,lt_succ_self->YH,zero_add->Y2,lt_succ_of_lt->Y3,le_succ_of_le->Y4,le_of_lt->Y5,min_eq_right->Xw,le_of_not_le->Xv,lt_of_le_of_lt->Xi,add_sub_cancel->Xh,min_self->XQ,le_add_right_of_le->XM,le_of_ble_eq_true->XD,succ_le_of_lt->Ww,lt_or_ge->Wv,add_sub_of_le->Wu
open Bool renaming false_ne_true->Zp,and_eq_true_iff->Z1,and_false->Yy,and_eq_true->YU,false_and->Y7,true_and->XY
open PySem.W renaming mg_of->Zf,mg_none_of->ZS,kia_one->ZF,looks_findIn->X7
open Option.some renaming inj->Zc
open Array renaming length_toList->ZV,getElem?_eq_getElem->Yu,getElem?_toList->Ys,getElem?_eq_none->Y8,getElem?_eq_some_iff->Xg
open Int renaming toNat_natCast->ZU,emod_lt_of_pos->Ye,emod_nonneg->YQ,natCast_nonneg->YA,ofNat_lt->Wt
open Ne renaming symm->Yq
open List.Perm renaming refl->Yf
open PySem.Calls renaming spliced_cons->YM,Constant_str->XU,evalArgs_plain->Wr
open PySem.Around renaming under_plainId->YD
open PySem.Heap.SameBut renaming update->Y0
open PySem.F renaming attr_Exception->Y1,plainAttrs_str->XS
open PyProof.Rows renaming callWith_type1->Xk
open List.Sublist renaming refl->Xb
open List.cons renaming inj->X6
open PySem.Obj renaming isFreed_of_fields->X8
open PyProof.Rows.F renaming plain_set_update_loop->Wq
section
namespace L2
def aw{G:Prop}(h:∀P:Prop,(G->P)->P):G:=h G id
end L2
namespace VS
noncomputable abbrev Tx:=Wi
inductive T where
 |non | bl (b:Bool) | int (i:Int) | str (s:Tx) | scr (ns:Wh)
 |tup (l:List T) | lst (l:List T) | dct (kd:Nat) (l:List (T×T)) | obj (c:Nat) (fs:List (Nat×T))
 deriving Inhabited
abbrev Wc:=List T
noncomputable def cj:Nat:=16777216
mutual
def AU:T->Bool
 |.lst _=>L
 |.dct _ _=>L
 |.obj _ _=>L
 |.tup l=>eR l
 |_=>J
def eR:Wc->Bool
 |[]=>J
 |t :: r=>AU t&&eR r
end
mutual
@[simp] def eqT:T->T->Bool
 |.non,.non=>J
 |.bl a,.bl b=>a==b
 |.bl a,.int i=>(if a then 1 else 0)==i
 |.int i,.bl a=>i==(if a then 1 else 0)
 |.int i,.int j=>i==j
 |.str s,.str t=>s==t
 |.tup a,.tup b=>jQ a b
 |.lst a,.lst b=>jQ a b
 |_,_=>L
def jQ:Wc->Wc->Bool
 |[],[]=>J
 |a :: d,b :: bs=>eqT a b&&jQ d bs
 |_,_=>L
end
noncomputable def Bo:Nat->T->Bool
 |_,.non=>J
 |_,.bl _=>J
 |_,.int _=>J
 |_,.str _=>J
 |n+1,.tup l=>l.all (Bo n)
 |n+1,.lst l=>l.all (Bo n)
 |_,_=>L
inductive Md where | fr | pu | bo
 deriving DecidableEq,Inhabited
noncomputable def Md.join:Md->Md->Md
 |.bo,_=>.bo
 |_,.bo=>.bo
 |.pu,_=>.pu
 |_,.pu=>.pu
 |.fr,.fr=>.fr
inductive Cell where | pu (t:T) | ow (t:T)
 deriving Inhabited
abbrev Wf:=Option Cell
noncomputable abbrev Env:=List (Wf)
noncomputable abbrev Val:=Md×T
abbrev Wd:=Option Val
abbrev We:=List Val
abbrev Ex:=Env->Wd
abbrev As:=Env->Option (We)
@[simp] def up(m:Md)(t:T):Val:=(if AU t then .fr else m,t)
noncomputable def zg:T->Bool
 |.lst _=>J
 |.dct _ _=>J
 |.obj _ _=>J
 |_=>L
@[simp] def cellOf:Val->Wf
 | (.fr,t)=>Y (if zg t then .ow t else .pu t)
 | (.pu,t)=>Y (.pu t)
 | (.bo,_)=>Z
inductive Out where | nx (U:Env) | rt (v:Val) (U:Env) | bk (U:Env) | ct (U:Env)
abbrev Sx:=Env->Option Out
@[simp] noncomputable def eC(t:T)(_:Env):Wd:=Y (.fr,t)
abbrev Q3(i:Int):Ex:=eC (.int i)
@[simp] def af(i:Nat)(U:Env):Wd:=match U[i]? with
 |some (some (.pu t))=>Y (up .pu t)
 |some (some (.ow t))=>Y (.bo,t)
 |_=>Z
@[simp] noncomputable def e1(f:Val->Wd)(a:Ex)(U:Env):Wd:=(a U).bind f
@[simp] noncomputable def e2(f:Val->Val->Wd)(a b:Ex)(U:Env):Wd:=(a U).bind λx=>(b U).bind λy=>f x y
@[simp] noncomputable def ah(_:Env):Option (We):=Y []
@[simp] noncomputable def ae(a:Ex)(r:As)(U:Env):Option (We):=(a U).bind λx=>(r U).bind λxs=>Y (x :: xs)
@[simp] noncomputable def eN(f:We->Wd)(a:As)(U:Env):Wd:=(a U).bind f
@[simp] def bC:We->Md
 |[]=>.fr
 |v :: r=>v.1.join (bC r)
@[simp] noncomputable def trees(l:We):Wc:=l.map (·.2)
def Bl(m:Md)(l:Wc):Wd:=if l.length<=cj then Y (if eR l then .fr else m,.lst l) else Z
@[simp] def b9(a:As)(U:Env):Wd:=(a U).bind λl=>Bl (bC l) (trees l)
def nq(l:We):Wd:=if l.length<=cj then Y (up (bC l) (.tup (trees l))) else Z
@[simp] def lL(a:As)(U:Env):Wd:=(a U).bind nq
def dput(l:List (T×T))(k v:T):List (T×T):=if l.any (λp=>eqT p.1 k) then l.map (λp=>if eqT p.1 k then (p.1,v) else p) else l++[(k,v)]
noncomputable def kG:T->Bool
 |.int _=>J
 |.str _=>J
 |_=>L
def keyOk:Nat->T->Bool
 |0,t=>kG t
 |1,.tup l=>l.all kG
 |_,_=>L
noncomputable def pairs:List (Ex×Ex)->Env->Option (List (Val×Val))
 |[],_=>Y []
 | (a,b) :: r,U=>(a U).bind λx=>(b U).bind λy=>(pairs r U).map ((x,y) :: ·)
def uf(a:Nat)(b:List (Ex×Ex))(U:Env):Wd:=(pairs b U).bind λl=>if l.all (λp=>keyOk a p.1.2)/\l.length<=15 then
 Y (bC (l.map (·.2)),.dct a (l.foldl (λd p=>dput d p.1.2 p.2.2) [])) else Z
noncomputable def En:T->Option Bool
 |.bl b=>Y b
 |.int i=>Y (i != 0)
 |.str s=>Y (!s.isEmpty)
 |.lst l=>Y (!l.isEmpty)
 |.tup l=>Y (!l.isEmpty)
 |.dct 0 l=>Y (!l.isEmpty)
 |.non=>Y L
 |_=>Z
@[simp] noncomputable def dX(a b:Ex)(U:Env):Wd:=(a U).bind λx=>match x.2 with
 |.bl true=>b U
 |.bl false=>Y (.fr,.bl L)
 |_=>Z
@[simp] noncomputable def Dg(a b:Ex)(U:Env):Wd:=(a U).bind λx=>match x.2 with
 |.bl true=>Y (.fr,.bl J)
 |.bl false=>b U
 |_=>Z
@[simp] noncomputable def eQ(a:Ex)(U:Env):Wd:=(a U).bind λx=>match x.2 with
 |.bl b=>Y (.fr,.bl (!b))
 |_=>Z
@[simp] def DB(c a b:Ex)(U:Env):Wd:=(c U).bind λx=>(En x.2).bind λt=>if t then a U else b U
@[simp] noncomputable def cL(f g:Val->Val->Wd)(a b c:Ex)(U:Env):Wd:=(a U).bind λx=>(b U).bind λy=>(f x y).bind λr=>match r.2 with
 |.bl true=>(c U).bind λz=>g y z
 |.bl false=>Y (.fr,.bl L)
 |_=>Z
@[simp] noncomputable def int?:T->Option Int
 |.int i=>Y i
 |_=>Z
def au:Val->Val->Wd
 | (_,.int i),(_,.int j)=>Y (.fr,.int (i+j))
 | (_,.str s),(_,.str t)=>if s.length+t.length<=cj then Y (.fr,.str (s++t)) else Z
 | (m,.lst s),(n,.lst t)=>Bl (m.join n) (s++t)
 |_,_=>Z
@[simp] noncomputable def sT:Val->Val->Wd
 | (_,.int i),(_,.int j)=>Y (.fr,.int (i-j))
 |_,_=>Z
noncomputable def El:Int:=4611686018427387904
noncomputable def FR:Int:=18446744073709551616
def ip:Val->Val->Wd
 | (_,.int i),(_,.int j)=>if (-FR<i/\i<FR)\/(-FR<j/\j<FR) then Y (.fr,.int (i*j)) else Z
 |_,_=>Z
def jZ:Val->Val->Wd
 | (_,.lst s),(_,.int j)=>if eR s/\s.length*j.toNat<=cj/\-El<=j/\j<El then Y (.fr,.lst (List.replicate j.toNat s).flatten) else Z
 |_,_=>Z
noncomputable def dh:Val->Val->Wd
 | (_,.int i),(_,.int j)=>if 0<j/\j<1073741824 then Y (.fr,.int (i/j)) else Z
 |_,_=>Z
noncomputable def oMod:Val->Val->Wd
 | (_,.int i),(_,.int j)=>if 0<j then Y (.fr,.int (i%j)) else Z
 |_,_=>Z
noncomputable def BN:Tx->Tx->Bool
 |[],[]=>L
 |[],_ :: _=>J
 |_ :: _,[]=>L
 |a :: d,b :: bs=>if a<b then J else if b<a then L else BN d bs
@[simp] def oLt:Val->Val->Wd
 | (_,.int i),(_,.int j)=>Y (.fr,.bl (decide (i<j)))
 | (_,.str s),(_,.str t)=>Y (.fr,.bl (BN s t))
 |_,_=>Z
@[simp] def oLe:Val->Val->Wd
 | (_,.int i),(_,.int j)=>Y (.fr,.bl (decide (i<=j)))
 | (_,.str s),(_,.str t)=>Y (.fr,.bl (!BN t s))
 |_,_=>Z
@[simp] def Et(a b:Val):Wd:=oLt b a
@[simp] def Eu(a b:Val):Wd:=oLe b a
@[simp] def oEq(a b:Val):Wd:=if Bo 60 a.2/\Bo 60 b.2 then Y (.fr,.bl (eqT a.2 b.2)) else Z
def ye(l:List (T×T))(k:T):Option T:=(l.find? λp=>eqT p.1 k).map (·.2)
noncomputable def Be(n:Nat)(i:Int):Option Nat:=if 0<=i then (if i<n then Y i.toNat else Z) else (if 0<=i+n then Y (i+n).toNat else Z)
@[simp] def sub(m:Md)(t:T):Val:=up m t
@[simp] def bh:Val->Val->Wd
 | (m,.lst l),(_,.int i)=>(Be l.length i).bind λk=>(l[k]?).map (sub m)
 | (m,.tup l),(_,.int i)=>(Be l.length i).bind λk=>(l[k]?).map (sub m)
 | (_,.scr l),(_,.int i)=>(Be l.length i).bind λk=>(l[k]?).map λn=>(.fr,.int n)
 | (_,.str l),(_,.int i)=>(Be l.length i).bind λk=>(l[k]?).map λn=>(.fr,.str [n])
 |_,_=>Z
noncomputable def clip(n:Nat)(i:Int):Nat:=if i<0 then (i+n).toNat else min i.toNat n
def cut{α:Type}(l:List α)(a b:Option Int):List α :=
 let lo:=match a with | none=>0 | some i=>clip l.length i
 let hi:=match b with | none=>l.length | some i=>clip l.length i
 (l.drop lo).take (hi-lo)
@[simp] def Es(v:Val)(a b:Option Int):Wd:=match v with
 | (_,.str s)=>Y (.fr,.str (cut s a b))
 | (m,.lst l)=>Bl m (cut l a b)
 |_=>Z
@[simp] def kT(c:Option Ex)(U:Env):Option (Option Int):=match c with
 |none=>Y Z
 |some e=>(e U).bind λy=>(int? y.2).map Y
@[simp] def Aq(a:Ex)(b d:Option Ex)(U:Env):Wd:=(a U).bind λx=>(kT b U).bind λl=>(kT d U).bind λh=>Es x l h
noncomputable def zz:T->Option Nat
 |.lst l=>Y l.length
 |.tup l=>Y l.length
 |.str l=>Y l.length
 |.scr l=>Y l.length
 |.dct 0 l=>Y l.length
 |_=>Z
@[simp] def cQ:We->Wd
 |[x]=>(zz x.2).map λn=>(.fr,.int n)
 |_=>Z
noncomputable def strs?:Wc->Option (List Tx)
 |[]=>Y []
 |.str i :: r=>(strs? r).map (i :: ·)
 |_=>Z
noncomputable def eX:Wc->Option (List Bool)
 |[]=>Y []
 |.bl i :: r=>(eX r).map (i :: ·)
 |_=>Z
def gk:We->Wd
 |[(_,.lst l)]=>(eX l).bind λbs=>Y (.fr,.bl (bs.all id))
 |_=>Z
@[simp] def va:We->Wd
 |[(m,.lst l)]=>Bl m l
 |[(m,.tup l)]=>Bl m l
 |_=>Z
def gx:We->Wd
 |[(m,.lst l)]=>if l.length<=cj then Y (up m (.tup l)) else Z
 |_=>Z
def iR(x:Tx):List Tx->List Tx
 |[]=>[x]
 |y :: r=>if BN y x then y :: iR x r else x :: y :: r
def cx(l:List Tx):List Tx:=l.foldr iR []
noncomputable def dedup:List Tx->List Tx
 |[]=>[]
 |x :: r=>x :: (dedup r).filter (· ≠ x)
inductive Ty where | int | str | bool | list | tuple | dict
@[simp] noncomputable def kb:Ty->T->Bool
 |.int,.int _=>J
 |.int,.bl _=>J
 |.bool,.bl _=>J
 |.str,.str _=>J
 |.list,.lst _=>J
 |.tuple,.tup _=>J
 |.dict,.dct _ _=>J
 |_,_=>L
@[simp] noncomputable def mO:T->Bool
 |.obj _ _=>L
 |.scr _=>L
 |.dct 0 _=>J
 |.dct 1 _=>J
 |.dct _ _=>L
 |_=>J
@[simp] def DA(t:Ty)(a:Ex)(U:Env):Wd:=(a U).bind λx=>if mO x.2 then Y (.fr,.bl (kb t x.2)) else Z
noncomputable def total:List Tx->Nat
 |[]=>0
 |x :: r=>x.length+total r
noncomputable def ar(a:Tx):List Tx->Tx
 |[]=>[]
 |[x]=>x
 |x :: r=>x++a++ar a r
def cA:Val->We->Wd
 | (_,.str sep),[(_,.lst l)]=>(strs? l).bind λa=>if total a+a.length*sep.length<=cj then Y (.fr,.str (ar sep a)) else Z
 |_,_=>Z
@[simp] noncomputable def eM(f:Val->We->Wd)(o:Ex)(b:As)(U:Env):Wd:=(o U).bind λx=>(b U).bind λa=>f x a
noncomputable abbrev Fn:=Wc->Wd
@[simp] def aX(g:Fn)(b:As)(U:Env):Wd:=(b U).bind λa=>(g (trees a)).bind λr=>match r with
 | (.fr,t)=>Y (.fr,t)
 | (_,t)=>Y ((Md.pu).join (bC a),t)
abbrev Bt:=Env->Option (Md×Wc)
noncomputable def t8:Val->Option (Md×Wc)
 | (m,.lst l)=>Y (m,l)
 | (m,.tup l)=>Y (m,l)
 | (_,.str l)=>Y (.fr,l.map λc=>.str [c])
 |_=>Z
@[simp] def iF(a:Ex)(U:Env):Option (Md×Wc):=(a U).bind t8
noncomputable def rng(a:Int)(n:Nat):Wc:=(List.range n).map λ(k:Nat)=>T.int (a+k)
def dC(a:Ex)(U:Env):Option (Md×Wc):=(a U).bind λx=>(int? x.2).bind λj=>if -El<=j/\j<El then Y (.fr,rng 0 j.toNat) else Z
noncomputable def df(k:Nat):Wc->Wc
 |[]=>[]
 |t :: r=>.tup [.int k,t] :: df (k+1) r
def uG:Val->Option (Md×Wc)
 | (m,.lst l)=>Y (m,df 0 l)
 |_=>Z
@[simp] def mT(a:Ex)(U:Env):Option (Md×Wc):=(a U).bind uG
abbrev Tg:=T->Env->Option Env
@[simp] noncomputable def cP(i:Nat)(t:T)(U:Env):Option Env:=if i<U.length then Y (U.set i (Y (.pu t))) else Z
noncomputable def ua:List Tg->Wc->Env->Option Env
 |[],[],U=>Y U
 |g :: b,t :: a,U=>(g t U).bind λd=>ua b a d
 |_,_,_=>Z
@[simp] def nM(a:List Tg)(t:T)(U:Env):Option Env:=match t with
 |.tup l=>ua a l U
 |_=>Z
@[simp] def IJ(m:Md)(l:Wc):Bool:=match m with
 |.bo=>eR l
 |_=>J
def ie(e:Tg)(a:Option Ex)(d:Ex)(U:Env):Wc->Option (We)
 |[]=>Y []
 |t :: r=>(e t U).bind λf=>(match a with | none=>some true | some c=>(c f).bind λx=>En x.2).bind λb =>
  if b then (d f).bind λv=>(ie e a d U r).map (v :: ·) else ie e a d U r
def dw(k:Nat)(e:Tg)(f:Bt)(a:Option Ex)(b:Ex)(U:Env):Wd:=(f U).bind λ(m,l)=>if IJ m l then
 (ie e a b (List.replicate k Z++U) l).bind λd=>Bl (bC d) (trees d) else Z
@[simp] noncomputable def fN(U:Env):Option Out:=Y (.nx U)
@[simp] noncomputable def aE(a b:Sx)(U:Env):Option Out:=(a U).bind λo=>match o with
 |.nx d=>b d
 |o=>Y o
@[simp] def mr(i:Nat)(e:Ex)(U:Env):Option Out:=(e U).bind λv=>(cellOf v).bind λc=>if i<U.length then Y (.nx (U.set i (Y c))) else Z
@[simp] noncomputable def bf(i:Nat)(e:Ex)(U:Env):Option Out:=(e U).bind λv=>match v.1 with
 |.bo=>Z
 |_=>if i<U.length then Y (.nx (U.set i (Y (.pu v.2)))) else Z
@[simp] noncomputable def dv(e:Ex)(U:Env):Option Out:=(e U).bind λv=>Y (.rt (match v.1 with | .bo=>.pu | m=>m,v.2) U)
@[simp] def mR(i:Nat)(U:Env):Option Out:=match U[i]? with
 |some (some (.ow t))=>Y (.rt (.fr,t) (U.set i Z))
 |some (some (.pu t))=>Y (.rt (up .pu t) U)
 |_=>Z
@[simp] def BU(c:Ex)(a b:Sx)(U:Env):Option Out:=(c U).bind λx=>(En x.2).bind λt=>if t then a U else b U
noncomputable def forL(d:Tg)(a:Sx):Wc->Env->Option Out
 |[],U=>Y (.nx U)
 |t :: r,U=>(d t U).bind λe=>(a e).bind λo=>match o with
  |.nx b=>forL d a r b
  |.ct b=>forL d a r b
  |.bk b=>Y (.nx b)
  |.rt v b=>Y (.rt v b)
@[simp] noncomputable def G0:Md->Bool
 |.bo=>L
 |_=>J
@[simp] def lW(b:Tg)(d:Bt)(a:Sx)(U:Env):Option Out:=(d U).bind λ(m,l)=>if G0 m then forL b a l U else Z
@[simp] noncomputable def uq(i:Nat)(U:Env):Option Out:=match U[i]? with
 |some (some (.ow t))=>Y (.nx (U.set i (Y (.pu t))))
 |some (some (.pu _))=>Y (.nx U)
 |_=>Z
inductive FO where | fld (k:Nat) | ix (e:Ex) | un
inductive Ky where | fld (k:Nat) | at (t:T) | un
def keys:List FO->Env->Option (List Ky)
 |[],_=>Y []
 |.fld k :: r,U=>(keys r U).map (.fld k :: ·)
 |.ix e :: r,U=>(e U).bind λx=>(keys r U).map (.at x.2 :: ·)
 |.un :: r,U=>(keys r U).map (.un :: ·)
noncomputable def zr(a:List (Nat×T))(k:Nat):Option T:=a.lookup k
noncomputable def zP(a:List (Nat×T))(k:Nat)(v:T):List (Nat×T):=if a.any (λp=>p.1==k) then a.map (λp=>if p.1==k then (p.1,v) else p) else a++[(k,v)]
def t5{α:Type}(f:T->Option (T×α)):List Ky->T->Option (T×α)
 |[],t=>f t
 |.fld k :: r,.obj c fs=>(zr fs k).bind λx=>(t5 f r x).map λ(y,a)=>(.obj c (zP fs k y),a)
 |.at (.int i) :: r,.lst l=>(Be l.length i).bind λj=>(l[j]?).bind λx=>(t5 f r x).map λ(y,a)=>(.lst (l.set j y),a)
 |.at k :: r,.dct d l=>(ye l k).bind λx=>(t5 f r x).map λ(y,a)=>(.dct d (dput l k y),a)
 |_,_=>Z
abbrev Xx:=Env->Option (Val×Env)
@[simp] noncomputable def xP(e:Ex)(U:Env):Option (Val×Env):=(e U).map λv=>(v,U)
@[simp] def iw(i:Nat)(a:List FO)(f:T->We->Option (T×Val))(g:As)(U:Env):Option (Val×Env):=match U[i]? with
 |some (some (.ow t))=>(keys a U).bind λe=>(g U).bind λb=>(t5 (λx=>f x b) e t).map λ(d,v)=>(v,U.set i (Y (.ow d)))
 |_=>Z
@[simp] noncomputable def fit(v:Val):Option T:=match v.1 with
 |.fr=>Y v.2
 |_=>Z
def bT:T->We->Option (T×Val)
 |.lst l,[v]=>(fit v).bind λt=>if l.length<cj then Y (.lst (l++[t]),(.fr,.non)) else Z
 |_,_=>Z
@[simp] noncomputable def sX(x:Xx)(U:Env):Option Out:=(x U).map λr=>.nx r.2
@[simp] noncomputable def fn(d e:Nat)(a:Sx):Fn:=λb=>if b.length=d then
 (a (b.map (λt=>Y (.pu t))++List.replicate (e-d) Z)).bind λo=>match o with
  |.rt v _=>Y v
  |.nx _=>Y (.fr,.non)
  |_=>Z else Z
def q8{s t:Tx}(h:s.length+t.length<=16777216):au (m,.str s) (n,.str t)=Y (.fr,.str (s++t)):=Zq h
def gC{i j:Int}(h:-18446744073709551616<i/\i<18446744073709551616):ip (m,.int i) (n,.int j)=Y (.fr,.int (i*j)):=Zq (.inl h)
def lr{i j:Int}(h:0<j/\j<1073741824):dh (m,.int i) (n,.int j)=Y (.fr,.int (i/j)):=Zq h
def bU{m:Md}{i j:Int}(h:0<j):oMod (m,.int i) (n,.int j)=Y (.fr,.int (i%j)):=Zq h
def lJ{l:Wc}(h:l.length<16777216):bT (.lst l) [(.fr,t)]=Y (.lst (l++[t]),(.fr,.non)):=by
 exact Zq h
def lR{j:Int}(e:a U=Y (m,.int j))(h:-4611686018427387904<=j/\j<4611686018427387904):dC a U=Y (.fr,rng 0 j.toNat):=by
 simp only[dC,e,Zw,int?];exact Zq h
def gU{l:Wc}(h:l.length<=16777216):Bl m l=Y (if eR l then .fr else m,.lst l):=Zq h
def sI(g:b t U=Y e)(f:a e=Y (.nx d)):forL b a (t :: r) U=forL b a r d:=by
 simp[forL,g,f]
theorem strs_map{α:Type}(f:α->Tx):∀l:List α,strs? (l.map λx=>T.str (f x))=Y (l.map f)
 |[]=>rfl
 |a :: r=>congrArg (Option.map (f a :: ·)) (strs_map f r)
theorem fT{α:Type}(f:α->Bool):∀l:List α,eX (l.map λx=>T.bl (f x))=Y (l.map f)
 |[]=>rfl
 |a :: r=>by simp[eX,fT f r]
def qZ(n:Nat):rng 0 n=(List.range n).map λ(k:Nat)=>T.int (k:Int):=by
 unfold rng;simp
theorem d4{α:Type}(f:α->T)(h:∀x,AU (f x)=J):∀l:List α,eR (l.map f)=J
 |[]=>rfl
 |a :: r=>Z1.mpr ⟨h a,d4 f h r⟩
theorem iY{α:Type}(g:α->T)(f:α->Val):∀l:List α,(∀a∈l,∃e,i (g a) U=Y e/\d e=Y (f a))->ie i Z d U (l.map g)=Y (l.map f)
 |[],_=>rfl
 |a :: r,h=>by
  obtain⟨e,n,m⟩:=h a zU;simp[ie,n,m,iY g f r λb j=>h b (zV _ j)]
theorem j6{α:Type}(f:α->T):∀l:List α,bC (l.map λa=>(Md.fr,f a))=.fr
 |[]=>rfl
 |a :: r=>congrArg (Md.join .fr) (j6 f r)
def om{α:Type}(f:α->Val)(l:List α):trees (l.map f)=l.map λa=>(f a).2:=by simp
def bQ{α:Type}{m:Md}(g:α->T)(f:α->T)(l:List α)(o:e U=Y (m,l.map g))(n:IJ m (l.map g)=J)(j:l.length<=16777216)(h:∀a∈l,∃i,d (g a) (List.replicate k Z++U)=Y i/\b i=Y (.fr,f a)):dw k d e Z b U=Y (.fr,.lst (l.map f)):=by
 simp only[dw,o,Zw];rw[Zq n,iY g (λa=>(Md.fr,f a)) l h];simp only[Zw,j6,om];rw[gU (by rw[zT];exact j)];simp
end VS
end
section
namespace L2
open PySem PySem.Spec PyProof.Rows
noncomputable abbrev Key:=Sum Int Str
noncomputable def iI:Key->FS->Bool
 |.inl k,v=>Value.isInt k v
 |.inr x,v=>Value.isStrOf x v
noncomputable def yI(w:NG):Key->Int
 |.inl k=>hashInt k
 |.inr x=>hashStr w x
theorem bq:∀{k:Key}{v:FS},iI k v=J->(∃i t,k=Sum.inl i/\v=Value.int i t)\/(∃x t,k=Sum.inr x/\v=Value.str x t)
 |.inl i,v,h=>by
  obtain⟨t,e⟩:=Value.isInt_shape (k:=i) (v:=v) h;exact .inl ⟨i,t,rfl,e⟩
 |.inr x,v,h=>by
  obtain⟨t,e⟩:=Value.isStrOf_shape (x:=x) (v:=v) h;exact .inr ⟨x,t,rfl,e⟩
def oo(i:Int)(t:Tok):iI (.inl i) (.int i t)=J:=by simp[iI,Value.isInt]
def n4(x:Str)(t:Tok):iI (.inr x) (.str x t)=J:=by simp[iI,Value.isStrOf]
def xA(a b:Int):decide ((Sum.inl a:Key)=Sum.inl b)=(a==b):=by
 by_cases e:a=b
 ·subst e;simp
 ·rw[Zg (λq=>e (Sum.inl.inj q))];exact(beq_eq_false_iff_ne.mpr e).symm
def vE(a b:Str):decide ((Sum.inr a:Key)=Sum.inr b)=decide (a=b):=by
 by_cases e:a=b
 ·subst e;simp
 ·rw[Zg (λq=>e (Sum.inr.inj q)),Zg e]
def wV(a:Int)(b:Str):decide ((Sum.inl a:Key)=Sum.inr b)=L:=Zg (λq=>nomatch q)
def xn(a:Str)(b:Int):decide ((Sum.inr a:Key)=Sum.inl b)=L:=Zg (λq=>nomatch q)
def bI(d:KM)(w:NG):PySem.KeyKind d w Key where
 is:=iI
 hash:=yI w
 inj:=λv a b m g=>by
  rcases bq m with⟨i,t,rfl,rfl⟩ | ⟨x,t,rfl,rfl⟩
  ·rcases bq g with⟨j,u,rfl,e⟩ | ⟨y,u,rfl,e⟩
   ·injection e with e1 _;rw[e1]
   ·exact nomatch e
  ·rcases bq g with⟨j,u,rfl,e⟩ | ⟨y,u,rfl,e⟩
   ·exact nomatch e
   ·injection e with e1 _;rw[e1]
 byValue:=λk v h=>by
  rcases bq h with⟨i,t,rfl,rfl⟩ | ⟨x,t,rfl,rfl⟩<;>rfl
 pyHash:=λf h=>by
  rcases bq f with⟨i,t,rfl,rfl⟩ | ⟨x,t,rfl,rfl⟩
  ·exact wpAny_pyHash_int h
  ·exact wpAny_pyHash_str h
 eqBool:=λl f h=>by
  rcases bq l with⟨i,t,rfl,rfl⟩ | ⟨x,t,rfl,rfl⟩
  ·rcases bq f with⟨j,u,rfl,rfl⟩ | ⟨y,u,rfl,rfl⟩
   ·rw[xA]at h;exact wpAny_eqBool_int h
   ·rw[wV]at h;exact SeqAt.EqAt.int_str i t y u _ _ _ _ h
  ·rcases bq f with⟨j,u,rfl,rfl⟩ | ⟨y,u,rfl,rfl⟩
   ·rw[xn]at h;exact SeqAt.EqAt.str_int x t j u _ _ _ _ h
   ·rw[vE]at h;exact wpAny_eqBool_str h
 «strs» := λk x t v h=>by
  rcases bq h with⟨i,u,rfl,e⟩ | ⟨y,u,rfl,e⟩
  ·exact nomatch e
  ·injection e with e1 _
   subst e1;cases v<;>rfl
def kD(a:KM)(w:NG)(i:Int)(t:Tok):(bI a w).is (.inl i) (.int i t)=J:=oo i t
def kR(a:KM)(w:NG)(x:Str)(t:Tok):(bI a w).is (.inr x) (.str x t)=J:=n4 x t
inductive V where
 |non | bl (b:Bool) | int (i:Int) | str (x:Str) | byt (b:Array UInt8) | flt (b:UInt64) | ref (a:FM) | ty (n:String)
 deriving DecidableEq
noncomputable def RelV:V->FS->Prop
 |.non,u=>u=Value.none
 |.bl b,u=>u=Value.bool b
 |.int i,u=>∃t,u=Value.int i t
 |.str x,u=>∃t,u=Value.str x t
 |.byt b,u=>∃t,u=Value.bytes b t
 |.flt b,u=>∃t,u=Value.float b t
 |.ref a,u=>u=Value.ref a
 |.ty n,u=>u=Value.type n
abbrev aA:List V->Wk->Prop:=Paired RelV
theorem aA.length{a:List V}{b:Wk}(r:aA a b):a.length=b.length:=Paired.length r
theorem aA.get:∀{a:List V}{b:Wk}{i:Nat}{x:V},aA a b->a[i]?=Y x->∃u,b[i]?=Y u/\RelV x u
 |_,_,_,_,.nil,e=>by simp at e
 |_,_,0,_,.cons r _,e=>by simp at e;subst e;exact⟨_,rfl,r⟩
 |_,_,i+1,x,.cons _ t,e=>by
  obtain⟨u,f,d⟩:=aA.get (i:=i) (x:=x) t (by simpa using e);exact⟨u,by simpa using f,d⟩
theorem aA.set(r:RelV x u):∀{a:List V}{b:Wk}(i:Nat),aA a b->aA (a.set i x) (b.set i u)
 |_,_,_,.nil=>.nil
 |_,_,0,.cons _ t=>.cons r t
 |_,_,i+1,.cons q t=>.cons q (aA.set r i t)
theorem aA.append:∀{b a:List V}{d ws:Wk},aA b d->aA a ws->aA (b++a) (d++ws)
 |_,_,_,_,.nil,s=>s
 |_,_,_,_,.cons r t,s=>.cons r (aA.append t s)
theorem aA.take:∀{a:List V}{b:Wk}(n:Nat),aA a b->aA (a.take n) (b.take n)
 |_,_,0,_=>.nil
 |_,_,_+1,.nil=>.nil
 |_,_,n+1,.cons r t=>.cons r (aA.take n t)
theorem aA.drop:∀{a:List V}{b:Wk}(n:Nat),aA a b->aA (a.drop n) (b.drop n)
 |_,_,0,r=>r
 |_,_,_+1,.nil=>.nil
 |_,_,n+1,.cons _ t=>aA.drop n t
def aA.none_of:∀{a:List V}{b:Wk}{i:Nat},aA a b->a[i]?=Z->b[i]?=Z:=λ{a b i} r e=>by
 have f:=r.length;have d:=Yd.mp e;exact Yd.mpr (by lia)
def lY:Option V->Wj->Prop
 |some v,some u=>RelV v u
 |none,none=>True
 |_,_=>False
def KV{κ:Type}:List (κ×V)->List (κ×FS)->Prop:=Paired λ(p:κ×V) (q:κ×FS)=>p.1=q.1/\RelV p.2 q.2
noncomputable def kV:Key->V
 |.inl i=>.int i
 |.inr x=>.str x
inductive HO where
 |lst (xs:List V)
 |tup (xs:List V)
 |dK (jj:List (Key×V)) | dT (jj:List (List Key×V))
 |set (Sq:Int->Bool) (n:Nat)
 |ins (C dx:FM) (fs:List (Str×V))
 |own (x:FM)
 |xd (fs:List (Str×V))
 |met (f x:FM)
 |rng (lo hi:Int)
 |frz (o:Obj) (u:HO)
 |tbl (q:Str)
 |ext (φ:NG->NF->Prop)
noncomputable abbrev Hp:=FM->Option HO
noncomputable def upd(H:Hp)(a:FM)(o:HO):Hp:=λb=>if b=a then Y o else H b
def av{H:Hp}:upd H a o a=Y o:=by unfold upd;rw[Zq M]
def ak(h:b≠a):upd H a o b=H b:=by unfold upd;rw[Zl h]
def yT{H:Hp}{a b:FM}{o u:HO}(h:H a=Y o)(f:H b=Y u)(d:o≠u):a≠b:=by
 intro e;subst e;rw[h]at f;exact d (Zc f)
def aY{H:Hp}{a b:FM}{o:HO}(h:H a=Y o)(d:H b=Z):a≠b:=by
 intro e;subst e;rw[h]at d;cases d
noncomputable def Dk(h:NF)(a:FM):Prop:=∀o,h.get? a=Y o->o.dict=Z
def Dk.new(h:NF)(a:Array FS):Dk (h.push { cls:=.type "tuple",data:=.seq a }) h.objs.size:=λo e=>by
 rw[Zr _ M]at e;cases e;rfl
def Dk.of{h:NF}(e:h.get? a=Y o)(d:o.dict=Z):Dk h a:=λf b=>by
 rw[e]at b;cases b;exact d
section
variable(P:KM)(w:NG)
def bG(H:Hp)(h:NF)(a:FM):HO->Prop
 |.lst b=>b.length<=FB/\∃(i:Wk)(n:Nat),aA b i/\h.get? a=Y { cls:=.type "list",data:=.seq i.toArray n }
 |.tup b=>b.length<=FB/\∃i:Wk,aA b i/\Dk h a/\IsTup h a i.toArray
 |.dK g=>g.length<=FB/\(a==sysModules)=L/\∃e,KV g e/\h.DictOf (bI P w) a e
 |.dT g=>g.length<=FB/\(a==sysModules)=L/\∃b:List (List Key×FM×FS),
   Paired (λ(p:List Key×V) (q:List Key×FM×FS)=>p.1=q.1/\H q.2.1=Y (.tup (p.1.map kV))/\RelV p.2 q.2.2) g b ∧
   ∃o r s,h.get? a=Y o/\o.ExactDict/\o.data=.dict r s/\r.toList=b.map (entryOfKey (tupleKind (bI P w)))/\(b.map (·.1)).Nodup
 |.set z n=>h.SetOf (intKind P w) a z n
 |.ins C dx fs=>H dx=Y (.own a)/\fs.length<=1000/\dx≠a/\h.get? a=Y (PySem.W.instObj C dx) ∧
   ∃d,h.Ns1 dx d/\(∀f,lY (fs.lookup f) (d f))/\PySem.Within d (fs.map (·.1))
 |.own _=>∃o,h.get? a=Y o
 |.xd fs=>∃d,h.Ns1 a d/\∀f,lY (fs.lookup f) (d f)
 |.rng lo hi=>∃t u v,h.get? a=Y { cls:=.type "range",data:=.fields #[.int lo t,.int hi u,.int 1 v] }
 |.frz o u=>h.get? a=Y o/\bG H h a u
 |.tbl q=>∃j,h.get? a=Y { cls:=.none,data:=.fields j }/\TriplesOk j.toList/\∀pos v,codeAmong pos j.toList=Y v->∃c o y e t,v=.ref c/\H c=Y (.frz o (.own y))/\o.data=.fields e/\e[1]?=Y (.str q t)
 |.met f x=>h.get? a=Y (PySem.W.methodObj (.ref f) (.ref x))
 |.ext φ=>φ w h/\(∃o,h.get? a=Y o)/\∀m l:NF,φ w m->(∀o,m.get? a=Y o->l.get? a=Y o)->φ w l
def AD(H:Hp)(h:NF):Prop:=∀a o,H a=Y o->bG P w H h a o
end
section
variable{h:NF}
theorem bG.lt(x:bG P w H h a o):a<h.objs.size:=by
 cases o with
 |lst b=>obtain⟨_,_,_,_,e⟩:=x;exact Zt e
 |tup b=>obtain⟨_,_,_,_,p⟩:=x;exact p.lt
 |dK d=>obtain⟨_,_,_,_,o,_,_,e,_⟩:=x;exact Zt e
 |dT d=>obtain⟨_,_,_,_,o,_,_,e,_⟩:=x;exact Zt e
 |set i n=>obtain⟨o,_,_,_,e,_⟩:=x;exact Zt e
 |ins C dx fs=>obtain⟨_,_,_,e,_⟩:=x;exact Zt e
 |own y=>obtain⟨_,e⟩:=x;exact Zt e
 |xd fs=>obtain⟨_,⟨_,_,_,e,_⟩,_⟩:=x;exact Zt e
 |rng lo hi=>obtain⟨_,_,_,e⟩:=x;exact Zt e
 |frz g u=>obtain⟨e,_⟩:=x;exact Zt e
 |tbl q=>obtain⟨_,e,_⟩:=x;exact Zt e
 |met f y=>exact Zt (x)
 |ext φ=>obtain⟨_,⟨_,e⟩,_⟩:=x;exact Zt e
theorem Paired.C2{α β:Type}{F G:α->β->Prop}:∀{e:List α}{d:List β},Paired F e d->(∀a b,F a b->G a b)->Paired G e d
 |_,_,.nil,_=>.nil
 |_,_,.cons r t,f=>.cons (f _ _ r) (Paired.C2 t f)
def bG.A2{h':NF}(x:bG P w H h a o)(k:∀b u,(b=a\/H b=Y (.own a))->h.get? b=Y u->h'.get? b=Y u)(I:∀b,H b=Y (.own a)->H' b=Y (.own a))(G:∀b l,H b=Y (.tup l)->H' b=Y (.tup l))(N:∀b o y,H b=Y (.frz o (.own y))->H' b=Y (.frz o (.own y))):bG P w H' h' a o:=by
 induction o with
 |lst l=>obtain⟨z,B,n,r,e⟩:=x;exact⟨z,B,n,r,k _ _ (.inl M) e⟩
 |tup l=>obtain⟨z,B,r,nd,g,e,c⟩:=x;exact⟨z,B,r,Dk.of (k _ _ (.inl M) e) (nd _ e),g,k _ _ (.inl M) e,c⟩
 |dK E=>obtain⟨z,y,m,r,g,i,j,e,c⟩:=x;exact⟨z,y,m,r,g,i,j,k _ _ (.inl M) e,c⟩
 |dT E =>
  obtain⟨z,y,l,r,g,i,j,e,c⟩:=x;exact⟨z,y,l,Paired.C2 r λp q z=>⟨z.1,G _ _ z.2.1,z.2.2⟩,g,i,j,k _ _ (.inl M) e,c⟩
 |set O n=>obtain⟨g,i,j,t,e,c⟩:=x;exact⟨g,i,j,t,k _ _ (.inl M) e,c⟩
 |ins C dx fs =>
  obtain⟨d,z,ne,e,A,⟨s,i,j,e2,c⟩,r⟩:=x;exact⟨I _ d,z,ne,k _ _ (.inl M) e,A,⟨s,i,j,k _ _ (.inr d) e2,c⟩,r⟩
 |own y=>obtain⟨g,e⟩:=x;exact⟨g,k _ _ (.inl M) e⟩
 |xd fs=>obtain⟨A,⟨s,i,j,e,c⟩,r⟩:=x;exact⟨A,⟨s,i,j,k _ _ (.inl M) e,c⟩,r⟩
 |rng lo hi=>obtain⟨t,u,v,e⟩:=x;exact⟨t,u,v,k _ _ (.inl M) e⟩
 |frz g u F=>obtain⟨e,q⟩:=x;exact⟨k _ _ (.inl M) e,F q⟩
 |tbl q =>
  obtain⟨D,e,e1,e2⟩:=x;refine⟨D,k a _ (.inl M) e,e1,λpos v r=>?_⟩;obtain⟨c,o,y,m,t,r1,r2,r3⟩:=e2 pos v r;exact⟨c,o,y,m,t,r1,N _ _ _ r2,r3⟩
 |met f y =>
  exact k a _ (.inl M) x
 |ext φ=>obtain⟨p,⟨o,e⟩,st⟩:=x;exact⟨st _ _ p λo q=>k _ _ (.inl M) q,⟨o,k _ _ (.inl M) e⟩,st⟩
theorem AD.lt(x:AD P w H h)(e:H a=Y o):a<h.objs.size:=(x a o e).lt
def AD.fresh(x:AD P w H h)(e:h.objs.size<=a):H a=Z:=by
 cases q:H a with
 |none=>rfl
 |some u=>exact absurd (Zh (x.lt q) e) (YZ _)
def AD.kept{h':NF}(x:AD P w H h)(k:∀b u,h.get? b=Y u->h'.get? b=Y u):AD P w H h':=λa o e =>
 (x a o e).A2 (λb u _ q=>k b u q) (λ_ q=>q) (λ_ _ q=>q) λ_ _ _ q=>q
def AD.laid{h':NF}(x:AD P w H h)(k:∀b u,h.get? b=Y u->h'.get? b=Y u)(i:h.objs.size<=a)(d:bG P w (upd H a o) h' a o):AD P w (upd H a o) h':=λb u e=>by
 have f:=x.fresh i;by_cases g:b=a
 ·subst g;rw[av]at e;cases e;exact d
 ·rw[ak g]at e;exact(x b u e).A2 (λc v _ q=>k c v q) (λc q=>by rw[ak (aY q f)];exact q) (λc j q=>by rw[ak (aY q f)];exact q) λc _ _ q=>by rw[ak (aY q f)];exact q
end
noncomputable def Rd(H:Hp)(a:FM)(u:HO):Prop:=H a=Y u\/∃o,H a=Y (.frz o u)
def Rd.ok(r:Rd H a u)(x:AD P w H h):bG P w H h a u:=by
 rcases r with r | ⟨o,r⟩
 ·exact x a u r
 ·obtain⟨_,q⟩:=x a _ r;exact q
noncomputable def Ak:Option HO->Prop
 |some (.lst _)=>True
 |some (.dK _)=>True
 |some (.dT _)=>True
 |some (.set _ _)=>True
 |some (.ins _ _ _)=>True
 |some (.ext _)=>True
 |_=>False
section
variable{h:NF}
def AD.write{h':NF}(n:AD P w H h)(a:Ak (H x))(he:e=x\/H e=Y (.own x))(k:∀b u,b≠e->h.get? b=Y u->h'.get? b=Y u)(p:∃u,h'.get? e=Y u)(i:bG P w (upd H x o') h' x o'):AD P w (upd H x o') h':=λb u q=>by
 have m:∀c y,H c=Y (.own y)->c≠x:=λc y r z=>by subst z;rw[r]at a;exact a
 by_cases f:b=x
 ·subst f;rw[av]at q;cases q;exact i
 ·rw[ak f]at q;by_cases g:b=e
  ·have l:H b=Y (.own x):=by
    rcases he with z | z
    ·exact absurd (g.trans z) f
    ·rw[g];exact z
   rw[q]at l;cases l;obtain⟨v,o⟩:=p;exact⟨v,by rw[g];exact o⟩
  ·refine(n b u q).A2 (λc v d r=>k c v ?_ r) (λc r=>by rw[ak (m c b r)];exact r) (λc j r=>by rw[ak ((λc j r z=>by subst z;rw[r]at a;exact a) c j r)];exact r) λc _ _ r=>by rw[ak λz=>by subst z;rw[r]at a;exact a];exact r
   rcases d with rfl | d
   ·exact g
   ·rintro rfl;rcases he with z | z
    ·exact m c b d z
    ·rw[d]at z;cases z;exact f M
end
structure Un(fs ex:Wl)(H H':Hp)(h h':NF):Prop where
 keep:∀b o,h.get? b=some o->H b=none->b∉fs->b∉ex->h'.get? b=some o
 slot:∀b o,h.get? b=some o->H b=none->b∈fs->b∉ex->∃sl,h'.get? b=some { o with slots:=sl }
 free:∀b o,h.get? b=some o->H b=none->b∉ex->H' b=none
 there:∀b o,h.get? b=some o->b∉ex->∃o',h'.get? b=some o'
 AM:∀b xs,H b=some (.tup xs)->H' b=some (.tup xs)
 AJ:∀b o u,H b=some (.frz o u)->H' b=some (.frz o u)
 AH:∀b q,H b=some (.tbl q)->H' b=some (.tbl q)
section
variable{h:NF}
def Un.any(u:Un fs ex H H1 h h1)(q:h.get? b=Y d)(n:H b=Z)(f:b∉ex):∃i,h1.get? b=Y { d with slots:=i }:=by
 by_cases g:b∈fs
 ·exact u.slot b d q n g f
 ·exact⟨d.slots,u.keep b d q n g f⟩
def Un.kept{h':NF}(k:∀b u,h.get? b=Y u->h'.get? b=Y u):Un fs ex H H h h' :=
 ⟨λb d q _ _ _=>k b d q,λb d q _ _ _=>⟨d.slots,k b d q⟩,λ_ _ _ n _=>n,λb d q _=>⟨d,k b d q⟩,λ_ _ q=>q,λ_ _ _ q=>q,λ_ _ q=>q⟩
def Un.refl:Un fs ex H H h h:=Un.kept λ_ _ q=>q
def Un.laid{fs ex:Wl}{H:Hp}{h':NF}{a:FM}{o:HO}(k:∀b u,h.get? b=Y u->h'.get? b=Y u)(g:h.objs.size<=a)(d:H a=Z):Un fs ex H (upd H a o) h h' where
 keep:=λb u q _ _ _=>k b u q
 slot:=λb u q _ _ _=>⟨u.slots,k b u q⟩
 free:=λb u q n _=>by rw[ak (Zo (Zh (Zt q) g))];exact n
 there:=λb u q _=>⟨u,k b u q⟩
 AM:=λb f q=>by rw[ak (aY q d)];exact q
 AJ:=λb u f q=>by rw[ak (aY q d)];exact q
 AH:=λb n q=>by rw[ak (aY q d)];exact q
def Un.write{h':NF}(d:Ak (H x))(he:e=x\/H e=Y (.own x))(k:∀b u,b≠e->h.get? b=Y u->h'.get? b=Y u)(m:∃u,h'.get? e=Y u):Un fs ex H (upd H x o) h h':=by
 have g:∀b,H b=Z->b≠x:=λb n z=>by subst z;rw[n]at d;exact d
 have i:∀b,H b=Z->b≠e:=λb n z=>by
  subst z;rcases he with r | r
  ·exact g b n r
  ·rw[n]at r;cases r
 have f:∀b u,H b=Y u->¬Ak (Y u)->b≠x:=λb u q nm z=>by subst z;rw[q]at d;exact nm d
 refine⟨λb u q n _ _=>k b u (i b n) q,λb u q n _ _=>⟨u.slots,k b u (i b n) q⟩,λb u q n _=>by rw[ak (g b n)];exact n,λb u q _=>?_,
  λb l q=>by rw[ak (f b _ q λz=>z)];exact q,λb u l q=>by rw[ak (f b _ q λz=>z)];exact q,λb n q=>by rw[ak (f b _ q λz=>z)];exact q⟩
 by_cases j:b=e
 ·subst j;exact m
 ·exact⟨u,k b u j q⟩
end
noncomputable def gone(v:FS):Obj:=⟨v,Z,.freed,#[]⟩
def nR(H:Hp)(a:FM)(o:Obj):Obj:=match H a with
 |some (.tbl q)=>gone (.str q 0)
 |some _=>gone .none
 |none=>match o.data with
  |.freed=>gone .none
  |_=>o
def kK(h:NF)(H:Hp):Heap:=⟨h.objs.mapIdx λa o=>nR H a o,h.life⟩
def Tb(b:NF)(a:FM)(q:Str):Prop:=b.objs[a]?=Y (gone (.str q 0))
def oE(h:NF)(H:Hp):(kK h H).objs.size=h.objs.size:=Array.size_mapIdx
def jE(h:NF)(H:Hp)(b:FM):(kK h H).objs[b]?=(h.objs[b]?).map (nR H b):=Array.getElem?_mapIdx
def gz{h:NF}:h.get? b=Y o↔h.objs[b]?=Y o/\o.data ≠ .freed:=by
 unfold Heap.get?;split
 ·rename_i e;exact⟨λz=>(nomatch z),λ⟨z,n⟩=>by rw[e]at z;cases z;exact absurd M n⟩
 ·rename_i n;exact⟨λz=>⟨z,λd=>by
   obtain⟨c,u,f,a⟩:=o;cases (d);exact n _ _ _ z⟩,λz=>z.1⟩
def pj{h:NF}(e:h.get? b=Y o)(n:H b=Z):(kK h H).get? b=Y o:=by
 obtain⟨e1,e2⟩:=gz.mp e;refine gz.mpr ⟨?_,e2⟩;rw[jE,e1,Option.map_some];unfold nR;rw[n];cases h:o.data with
 |freed=>exact absurd h e2
 |_=>rfl
def tH(e:(kK h H).get? b=Y o):h.get? b=Y o/\H b=Z:=by
 obtain⟨e1,e2⟩:=gz.mp e;rw[jE]at e1;obtain⟨u,e3,a⟩:=z9.mp e1;unfold nR at a;cases q:H b with
 |some y =>
  rw[q]at a;cases y<;>(cases a;exact absurd M e2)
 |none =>
  rw[q]at a;refine⟨gz.mpr ?_,rfl⟩;cases d:u.data with
  |freed=>rw[d]at a;cases a;exact absurd M e2
  |_ =>
   have f:u=o:=by rw[d]at a;exact a
   subst f;exact⟨e3,e2⟩
def tX:Tb (kK h H) b q↔H b=Y (.tbl q)/\b<h.objs.size:=by
 unfold Tb;rw[jE];constructor
 ·intro e;obtain⟨u,e3,a⟩:=z9.mp e;refine⟨?_,(Xg.mp e3).1⟩;unfold nR at a;cases y:H b with
  |some f =>
   rw[y]at a;cases f with
   |tbl i=>cases a;rfl
   |_=>cases a
  |none =>
   rw[y]at a;cases d:u.data with
   |freed=>rw[d]at a;cases a
   |_ =>
    have g:u=gone (.str q 0):=by rw[d]at a;exact a
    rw[g]at d;cases d
 ·rintro⟨e,l⟩;rw[Yu l,Option.map_some];unfold nR;rw[e]
noncomputable def sF(g h:NF)(L:FM):Xs:=(List.range h.objs.size).filterMap λa=>if a=L\/(g.get? a).isSome=J then Z else (h.get? a).map λo=>(a,o)
def rest(g h:NF)(L d:FM):Xs:=(sF g h L).filter λp=>decide (p.1≠d)
structure Mod(K:Xe)(mg:Wx)(base:NF):Prop where
 Gh:K.In base
 glob:base.Ns mainGlobals mg
 blt:∃mb,base.Ns builtinsNs mb/\∀x:Str,x ≠ "__name__" → mb x=bootBuiltins x
 nolimit:base.NoLimit
structure Cx where
 prog:KM
 w:NG
 K:Xe
 mg:Wx
 base:NF
 A:NB
 N:List Str
 s₀:AC
 H₀:Hp
 env:Env
 outer:List Env
 stack:List Env
 ex:Wl
 fn:Str->Bool
 calm:Bool
 pn:Xs
 xe:Yj
abbrev K0(e:Expr)(l:List Expr)(X:Cx):Prop:=KB (e :: l) X.env=(L,eval e X.env) :: KB l X.env
abbrev K1(p:Pos)(l:List Expr)(X:Cx):Prop:=(backTo p (KB l X.env)).any (·.1)=L
abbrev K2(x:Str):Prop:=(x==("__debug__" : Str))=L
abbrev K3(x:Str):Prop:=(x==("__classdict__" : Str))=L
noncomputable def AN(l:List Env):Wl:=l.filterMap (·.frame)
abbrev Cx.fs(X:Cx):Wl:=AN X.outer
noncomputable def Cg(a:Scope)(x:Str):Prop:=a.names.lookup x=Y .local\/a.names.lookup x=Y .cell\/a.names.lookup x=Y .free
noncomputable def Loc(a:Scope)(x:Str):Prop:=a.names.lookup x=Y .local\/a.names.lookup x=Y .cell
noncomputable def Look(a:Env)(h:NF)(m:Wx)(x:Str)(u:FS):Prop :=
 (a.kindOf x=Y .local/\m x=Y u)\/((a.kindOf x=Y .cell\/a.kindOf x=Y .free)/\∃c,a.cells.lookup x=Y c/\h.IsCell c (Y u))
structure Cx.Ok(X:Cx):Prop where
 mod:Mod X.K X.mg X.base
 kind:X.env.scope.kind=.function
 glob:X.env.globals=mainGlobals
 blt:X.env.builtins=builtinsNs
 above:X.s₀.heap.objs.size<=X.env.locals
 inj:∀x y c,X.env.cells.lookup x=some c->X.env.cells.lookup y=some c->x=y
 has:∀x,(X.env.kindOf x=some .cell\/X.env.kindOf x=some .free)->∃c,X.env.cells.lookup x=some c
 Ed:∀x c,X.fn x=true->X.env.cells.lookup x=some c->X.s₀.heap.objs.size<=c
 hd:X.calm=true->X.A.handled=none
 frames:X.A.frames=some X.stack
 CZ:X.stack=X.outer\/(X.stack=X.env :: X.outer/\X.env.frame=some X.env.locals)
 GD:∀b∈X.ex,b≠X.env.locals/\∀x c,X.env.cells.lookup x=some c->c≠b
 tb:∀b q,Tb X.base b q->X.H₀ b=some (.tbl q)
 bs:∀b o,X.base.get? b=some o->X.s₀.heap.get? b=some o/\X.H₀ b=none
 CH:X.base.objs.size<=X.s₀.heap.objs.size
 BM:∀b o,X.base.get? b=some o->b∉X.ex
 Cf:∀b∈X.ex,b∉X.fs
 Ax:X.s₀.heap.FunFrames X.base X.outer
 De:∀b∈X.fs,X.H₀ b=none
structure Inv(X:Cx)(pins:Xs)(O:List (Option V))(H:Hp)(s:AC):Prop where
 ok:X.Ok
 os:s.os=X.s₀.os
 bare:AllBare s.gens
 base:Un X.fs X.ex X.H₀ H X.s₀.heap s.heap
 loc:∃m,s.heap.Ns X.env.locals m/\∀(i:Nat)(x:Str)(v:V),X.N[i]?=some x->O[i]?=some (some v)->Cg X.env.scope x->∃u,RelV v u/\Look X.env s.heap m x u
 cell:∀x c,X.env.cells.lookup x=some c->∃v,s.heap.IsCell c v
 free:H X.env.locals=none
 Af:∀x c,X.env.cells.lookup x=some c->H c=none
 pin:∀p∈X.pn++pins,s.heap.get? p.1=some p.2/\H p.1=none/\p.1≠X.env.locals/\p.1∉X.fs/\∀v,p.2.data ≠ .cell v
 td:AD X.prog X.w H s.heap
 len:O.length=X.N.length
section
def Cx.Ok.Hc{X:Cx}(a:X.Ok)(e:X.base.get? b=Y o):b∉X.fs:=λd=>by
 have:=(a.Ax.mem d).1;rw[e]at this;cases this
theorem Inv.bs(I:Inv X pins O H s):∀b o,X.base.get? b=Y o->s.heap.get? b=Y o/\H b=Z:=λb o e =>
 ⟨I.base.keep b o (I.ok.bs b o e).1 (I.ok.bs b o e).2 (I.ok.Hc e) (I.ok.BM b o e),I.base.free b o (I.ok.bs b o e).1 (I.ok.bs b o e).2 (I.ok.BM b o e)⟩
theorem Inv.tb(I:Inv X pins O H s):∀b q,Tb X.base b q->H b=Y (.tbl q):=λb q e=>I.base.AH b q (I.ok.tb b q e)
def Inv.bk(I:Inv X pins O H s):∀b o,X.base.get? b=Y o->s.heap.get? b=Y o:=λb o e=>(I.bs b o e).1
theorem Inv.mod(I:Inv X pins O H s):Mod X.K X.mg X.base:=I.ok.mod
def Inv.AE(I:Inv X pins O H s):X.K.In s.heap:=I.ok.mod.Gh.keeps I.bk
theorem Inv.lt(I:Inv X pins O H s):X.env.locals<s.heap.objs.size:=let ⟨_,a,_⟩:=I.loc;a.lt
def Inv.sz(I:Inv X pins O H s):X.s₀.heap.objs.size<=s.heap.objs.size:=Zu I.ok.above (Y5 I.lt)
def Inv.Hb(I:Inv X pins O H s)(h:s.heap.objs.size<=a):a∉X.fs:=λd=>by
 obtain⟨_,o,b,_⟩:=I.ok.Ax.mem d;exact absurd (Zh (Zt b) (Zu I.sz h)) (YZ _)
def Inv.DC(I:Inv X pins O H s):∀x c,X.env.cells.lookup x=Y c->c≠X.env.locals:=λx c e z=>by
 obtain⟨v,o,a,hd⟩:=I.cell x c e;obtain⟨m,⟨f,g,h,d,b,_⟩,_⟩:=I.loc;rw[z,d]at a;cases a;rw[b]at hd;cases hd
theorem Inv.Ax(I:Inv X pins O H s):s.heap.FunFrames X.base X.outer:=by
 have all:∀(l:List Env),(∀b∈AN l,b∈X.fs)->X.s₀.heap.FunFrames X.base l->s.heap.FunFrames X.base l:=by
  intro l
  induction l with
  |nil=>intro _ _;trivial
  |cons env r h =>
   intro g n;obtain⟨p,⟨L,o,a,m,j,hd⟩,i⟩:=n;have f:=g L (by unfold AN;rw[Xp,a];exact zU);obtain⟨q,e⟩:=I.base.slot L o j (I.ok.De L f) f λz=>I.ok.Cf L z f;exact⟨p,⟨L,_,a,m,e,hd⟩,h (λb d=>g b (by unfold AN;rw[Xp,a];exact zV _ d)) i⟩
 exact all X.outer (λ_ d=>d) I.ok.Ax
theorem Inv.stack(I:Inv X pins O H s):s.heap.FunFrames X.base X.stack:=by
 rcases I.ok.CZ with e | ⟨e,b⟩
 ·rw[e];exact I.Ax
 ·rw[e];obtain⟨m,a,_⟩:=I.loc;refine .cons (by rw[I.ok.kind];decide) b a ?_ I.Ax;exact Ws (Zu I.ok.CH I.ok.above)
def Inv.A1(I:Inv X pins O H s):∀b∈AN X.stack,b∈X.env.locals :: X.fs:=λb a=>by
 rcases I.ok.CZ with e | ⟨e,d⟩
 ·rw[e]at a;exact zV _ a
 ·rw[e]at a;unfold AN at a;rw[Xp,d]at a;exact a
def Inv.AX(I:Inv X pins O H s):∀b∈AN X.stack,H b=Z:=λb a=>by
 rcases Zz.mp (I.A1 b a) with e | a
 ·rw[e];exact I.free
 ·obtain⟨_,o,d,_⟩:=I.ok.Ax.mem a;exact I.base.free b o d (I.ok.De b a) λz=>I.ok.Cf b z a
def Inv.step{h':NF}{ch:Wl}(I:Inv X pins O H s)(D:∀b∈ch,(b∈X.ex\/X.s₀.heap.objs.size<=b)/\b≠X.env.locals/\(∀x c,X.env.cells.lookup x=Y c->c≠b)/\∀p∈X.pn++pins,p.1≠b)(g:∀b o,b≠X.env.locals->b∉X.fs->b∉ch->s.heap.get? b=Y o->H b=Z->h'.get? b=Y o)(j:∀b o,b≠X.env.locals->b∈X.fs->b∉ch->s.heap.get? b=Y o->H b=Z->∃F,h'.get? b=Y { o with slots:=F })(f:∀b o,b∉ch->s.heap.get? b=some o->H b=none->H' b=none)(t:∀b o,b∉ch->s.heap.get? b=Y o->∃B,h'.get? b=Y B)(AM:∀b h,H b=Y (.tup h)->H' b=Y (.tup h))(AJ:∀b o u,H b=Y (.frz o u)->H' b=Y (.frz o u))(AH:∀b q,H b=Y (.tbl q)->H' b=Y (.tbl q))(W:∀m,s.heap.Ns X.env.locals m->h'.Ns X.env.locals m)(S:AD X.prog X.w H' h')(hg:AllBare Q) :
  Inv X pins O H' { s with heap:=h',gens:=Q,drawn:=d',toks:=U }:=by
 have R:∀b o,X.s₀.heap.get? b=Y o->b≠X.env.locals:=λb o e=>Zo (Zh (Zt e) I.ok.above);have E:∀b o,X.s₀.heap.get? b=Y o->b∉X.ex->b∉ch:=λb o e a y=>by
  rcases (D b y).1 with z | z
  ·exact a z
  ·exact absurd (Zh (Zt e) z) (YZ _)
 have cellK:∀x c,X.env.cells.lookup x=Y c->∀v,s.heap.IsCell c v->h'.IsCell c v:=λx c e v ⟨o,A,hd⟩=>by
  have C:c∉ch:=λz=>(D c z).2.2.1 x c e M;by_cases P:c∈X.fs
  ·obtain⟨F,q⟩:=j c o (I.DC x c e) P C A (I.Af x c e);exact⟨_,q,hd⟩
  ·exact⟨o,g c o (I.DC x c e) P C A (I.Af x c e),hd⟩
 refine⟨I.ok,I.os,hg,⟨λb o e n y a=>?_,λb o e n y a=>?_,λb o e n a=>?_,λb o e a=>?_,λb h e=>AM b h (I.base.AM b h e),λb o h e=>AJ b o h (I.base.AJ b o h e),λb q e=>AH b q (I.base.AH b q e)⟩,?_,λx c e=>?_,?_,λx c e=>?_,λp N=>?_,S,I.len⟩
 ·exact g b o (R b o e) y (E b o e a) (I.base.keep b o e n y a) (I.base.free b o e n a)
 ·obtain⟨F,e1⟩:=I.base.slot b o e n y a;obtain⟨Eo,e2⟩:=j b _ (R b o e) y (E b o e a) e1 (I.base.free b o e n a);exact⟨Eo,e2⟩
 ·obtain⟨B,e1⟩:=I.base.there b o e a;exact f b B (E b o e a) e1 (I.base.free b o e n a)
 ·obtain⟨B,e1⟩:=I.base.there b o e a;exact t b B (E b o e a) e1
 ·obtain⟨m,hn,hl⟩:=I.loc;refine⟨m,W m hn,λi x v e1 e2 e3=>?_⟩;obtain⟨u,r,l⟩:=hl i x v e1 e2 e3;refine⟨u,r,?_⟩;rcases l with l | ⟨k,c,e,z⟩
  ·exact .inl l
  ·exact .inr ⟨k,c,e,cellK x c e _ z⟩
 ·obtain⟨v,z⟩:=I.cell x c e;exact⟨v,cellK x c e v z⟩
 ·obtain⟨m,⟨o,_,_,A,_⟩,_⟩:=I.loc;exact f _ o (λz=>(D _ z).2.1 M) A I.free
 ·obtain⟨v,o,A,hd⟩:=I.cell x c e;exact f c o (λz=>(D c z).2.2.1 x c e M) A (I.Af x c e)
 ·obtain⟨e,n,ne,G,d⟩:=I.pin p N;have C:=λz=>(D p.1 z).2.2.2 p N M;exact⟨g p.1 p.2 ne G C e n,f p.1 p.2 C e n,ne,G,d⟩
def Inv.un{t':Nat}(I:Inv X pins O H s)(u:Un X.fs [] H H' s.heap h')(g:AD X.prog X.w H' h'):Inv X pins O H' { s with heap:=h',toks:=t' }:=by
 obtain⟨m,⟨o,x,y,d,r⟩,_⟩:=id I.loc;obtain⟨q,j⟩:=u.any d I.free (by simp);exact I.step (ch:=[]) (λ_ z=>nomatch z) (λb o _ a _ e n=>u.keep b o e n a (by simp)) (λb o _ a _ e n=>u.slot b o e n a (by simp)) (λb o _ e n=>u.free b o e n (by simp)) (λb o _ e=>u.there b o e (by simp)) u.AM u.AJ u.AH (λv i=>by
  obtain⟨t,p,l,f,h⟩:=i;rw[d]at f;cases f;exact⟨_,p,l,j,h⟩) g I.bare
def Inv.call{g':Array GenState}{t':Nat}{d':Drawn}{ch:Wl}(I:Inv X pins O H s)(u:Un (AN X.stack) ch H H' s.heap h')(i:AD X.prog X.w H' h')(q:AllBare g')(g:∀b∈ch,(b∈X.ex\/X.s₀.heap.objs.size<=b)/\b≠X.env.locals/\(∀x c,X.env.cells.lookup x=Y c->c≠b)/\∀p∈X.pn++pins,p.1≠b) :
  Inv X pins O H' { s with heap:=h',gens:=g',drawn:=d',toks:=t' }:=by
 obtain⟨m,⟨o,D,E,f,r⟩,_⟩:=id I.loc;obtain⟨A,d⟩:=u.any f I.free λz=>(g _ z).2.1 M;exact I.step (ch:=ch) g (λb o d t a e n=>u.keep b o e n (λz=>(Zz.mp (I.A1 b z)).elim d t) a) (λb o _ _ a e n=>u.any e n a) (λb o a e n=>u.free b o e n a) (λb o a e=>u.there b o e a) u.AM u.AJ u.AH (λC l=>by
  obtain⟨B,y,v,h,j⟩:=l;rw[f]at h;cases h;exact⟨_,y,v,d,j⟩) i q
def Inv.turned{h':NF}{t':Nat}(I:Inv X pins O H s)(k:∀b o,b≠a->s.heap.get? b=Y o->h'.get? b=Y o)(i:H a=Z)(f:a≠X.env.locals)(y:a∈X.ex\/X.s₀.heap.objs.size<=a)(w:∀x c,X.env.cells.lookup x=Y c->c≠a)(t:∀p∈X.pn++pins,p.1≠a):Inv X pins O H { s with heap:=h',toks:=t' }:=by
 have g:∀b u,H b=Y u->b≠a:=λb u e z=>by rw[z,i]at e;cases e
 refine I.step (ch:=[a]) (λb l=>?_) (λb o _ _ d e _=>k b o (λz=>d (by simp[z])) e) (λb o _ _ d e _=>⟨o.slots,k b o (λz=>d (by simp[z])) e⟩) (λ_ _ _ _ n=>n)
  (λb o d e=>⟨o,k b o (λz=>d (by simp[z])) e⟩) (λ_ _ e=>e) (λ_ _ _ e=>e) (λ_ _ e=>e) (λm j=>?_) (λb u e=>?_) I.bare
 ·have e:b=a:=by simpa using l
  subst e;exact⟨y,f,w,t⟩
 ·obtain⟨o,A,B,h,r⟩:=j;exact⟨o,A,B,k _ o (Yq f) h,r⟩
 ·refine(I.td b u e).A2 (λc v d q=>k c v ?_ q) (λ_ q=>q) (λ_ _ q=>q) λ_ _ _ q=>q;rcases d with z | z
  ·rw[z];exact g b u e
  ·exact g c _ z
def Inv.tok(I:Inv X pins O H s)(t:Nat):Inv X pins O H { s with toks:=t }:=I.un (t':=t) Un.refl I.td
theorem Inv.kept{h':NF}{t':Nat}(I:Inv X pins O H s)(k:∀b u,s.heap.get? b=Y u->h'.get? b=Y u):Inv X pins O H { s with heap:=h',toks:=t' }:=I.un (Un.kept k) (I.td.kept k)
theorem Inv.laid{h':NF}{a:FM}{o:HO}{t':Nat}(I:Inv X pins O H s)(k:∀b u,s.heap.get? b=Y u->h'.get? b=Y u)(e:s.heap.objs.size<=a)(d:bG X.prog X.w (upd H a o) h' a o) :
  Inv X pins O (upd H a o) { s with heap:=h',toks:=t' }:=I.un (Un.laid k e (I.td.fresh e)) (I.td.laid k e d)
theorem Inv.write{h':NF}{x e:FM}{o:HO}{t':Nat}(I:Inv X pins O H s)(d:Ak (H x))(he:e=x\/H e=Y (.own x))(k:∀b u,b≠e->s.heap.get? b=Y u->h'.get? b=Y u)(f:∃u,h'.get? e=Y u)(a:bG X.prog X.w (upd H x o) h' x o):Inv X pins O (upd H x o) { s with heap:=h',toks:=t' }:=I.un (Un.write d he k f) (I.td.write d he k f a)
def Inv.BW(I:Inv X pins O H s)(h:∀p∈a,s.heap.get? p.1=Y p.2/\H p.1=Z/\p.1≠X.env.locals/\p.1∉X.fs/\∀v,p.2.data ≠ .cell v):Inv X a O H s :=
 ⟨I.ok,I.os,I.bare,I.base,I.loc,I.cell,I.free,I.Af,λp b=>(Zv.mp b).elim (λz=>I.pin p (Z9 _ z)) (h p),I.td,I.len⟩
def ke{N:List Str}(d:N.Nodup){i j:Nat}{x:Str}(a:N[i]?=Y x)(b:N[j]?=Y x):i=j:=by
 obtain⟨f,e1⟩:=Zs.mp a;obtain⟨e,e2⟩:=Zs.mp b;exact(List.getElem_inj d).mp (e1.trans e2.symm)
def nT(I:Inv X pins O H s)(hN:X.N.Nodup)(D:X.N[i]?=Y x)(l:Loc X.env.scope x)(r:RelV v u)(h:∀S,Inv X pins (O.set i (Y v)) H S->(∃a,Heap.SameBut a s.heap S.heap/\(a=X.env.locals\/X.env.cells.lookup x=Y a))->Q () S)(hf:X.fn x=J\/X.env.scope.names.lookup x=Y .local:=by first | exact .inl rfl | exact .inr rfl | assumption):GM Mq0 A (storeName X.env x u) Q E s:=by
 obtain⟨m,hn,hl⟩:=id I.loc;have Jj:i<O.length:=by rw[I.len];exact(Zs.mp D).1
 have DC:=I.DC;have tracked:∀{a:FM}{h':NF},(∃o,s.heap.get? a=Y o/\H a=Z)->Heap.SameBut a s.heap h'->AD X.prog X.w H h':=λ{a h'} ha f b ob e=>by
  obtain⟨_,_,Du⟩:=ha;refine(I.td b ob e).A2 (λc F g q=>(f.2 c ?_).trans q) (λ_ q=>q) (λ_ _ q=>q) λ_ _ _ q=>q;rintro rfl;rcases g with rfl | g
  ·rw[Du]at e;cases e
  ·rw[Du]at g;cases g
 rcases l with t | t
 ·refine wpAny_storeName_local t hn (λh' Gm f=>?_) (by rw[I.ok.kind];rfl);obtain⟨oL,_,_,Fe,_⟩:=id hn;refine h _ ⟨I.ok,I.os,I.bare,⟨λb o e n C l=>?_,λb o e n C l=>?_,I.base.free,λb o e l=>?_,I.base.AM,I.base.AJ,I.base.AH⟩,⟨_,Gm,λj y M e1 e2 e3=>?_⟩,λy c e=>?_,I.free,I.Af,λp hp=>?_,tracked ⟨oL,Fe,I.free⟩ f,by simpa using I.len⟩ ⟨_,f,.inl rfl⟩
  ·exact(f.2 b (Zo (Zh (Zt e) I.ok.above))).trans (I.base.keep b o e n C l)
  ·obtain⟨R,e1⟩:=I.base.slot b o e n C l;exact⟨R,(f.2 b (Zo (Zh (Zt e) I.ok.above))).trans e1⟩
  ·obtain⟨W,e1⟩:=I.base.there b o e l;exact⟨W,(f.2 b (Zo (Zh (Zt e) I.ok.above))).trans e1⟩
  ·by_cases B:j=i
   ·subst B;rw[D]at e1;cases e1;rw[Ym Jj]at e2;cases e2;exact⟨u,r,.inl ⟨t,by simp⟩⟩
   ·rw[Yz (Yq B)]at e2;obtain⟨P,U,q⟩:=hl j y M e1 e2 e3;refine⟨P,U,?_⟩;rcases q with⟨k,e⟩ | ⟨k,c,e,z⟩
    ·refine .inl ⟨k,?_⟩;have:y≠x:=λe=>B (ke hN e1 (e ▸ D));simp[this,e]
    ·exact .inr ⟨k,c,e,z.sameBut f (DC y c e)⟩
  ·obtain⟨F,z⟩:=I.cell y c e;exact⟨F,z.sameBut f (DC y c e)⟩
  ·obtain⟨e,n,ne,nf,d⟩:=I.pin p hp;exact⟨(f.2 p.1 ne).trans e,n,ne,nf,d⟩
 ·have C8:X.fn x=J:=by
   rcases hf with z | z
   ·exact z
   ·rw[z]at t;cases t
  obtain⟨c,g⟩:=I.ok.has x (.inl t);obtain⟨F,z⟩:=I.cell x c g;refine wpAny_storeName_cell I.ok.kind t g z (λh' Bn f=>?_);obtain⟨oc,Ja,Hu⟩:=id z;refine h { s with heap:=h' } ⟨I.ok,I.os,I.bare,⟨λb o e n C l=>?_,λb o e n C l=>?_,I.base.free,λb o e l=>?_,I.base.AM,I.base.AJ,I.base.AH⟩,⟨m,hn.sameBut f (Yq (DC x c g)),λj y M e1 e2 e3=>?_⟩,λy G e=>?_,I.free,I.Af,λp hp=>?_,tracked ⟨oc,Ja,I.Af x c g⟩ f,by simpa using I.len⟩ ⟨c,f,.inr g⟩
  ·exact(f.2 b (Zo (Zh (Zt e) (I.ok.Ed x c C8 g)))).trans (I.base.keep b o e n C l)
  ·obtain⟨R,e1⟩:=I.base.slot b o e n C l;exact⟨R,(f.2 b (Zo (Zh (Zt e) (I.ok.Ed x c C8 g)))).trans e1⟩
  ·obtain⟨W,e1⟩:=I.base.there b o e l;exact⟨W,(f.2 b (Zo (Zh (Zt e) (I.ok.Ed x c C8 g)))).trans e1⟩
  ·by_cases B:j=i
   ·subst B;rw[D]at e1;cases e1;rw[Ym Jj]at e2;cases e2;exact⟨u,r,.inr ⟨.inl t,c,g,Bn⟩⟩
   ·rw[Yz (Yq B)]at e2;obtain⟨P,U,q⟩:=hl j y M e1 e2 e3;refine⟨P,U,?_⟩;rcases q with q | ⟨k,G,e,z'⟩
    ·exact .inl q
    ·refine .inr ⟨k,G,e,z'.sameBut f ?_⟩;rintro rfl;exact B (ke hN e1 (I.ok.inj _ _ _ e g ▸ D))
  ·by_cases Jn:G=c
   ·subst Jn;exact⟨_,Bn⟩
   ·obtain⟨w2,z2⟩:=I.cell y G e;exact⟨w2,z2.sameBut f Jn⟩
  ·obtain⟨e,n,ne,nf,d⟩:=I.pin p hp;refine⟨(f.2 p.1 ?_).trans e,n,ne,nf,d⟩;intro q;rw[q,Ja]at e;exact d F (by rw[← (Zc e)];exact Hu)
def fG{v:V}(I:Inv X pins O H s)(g:X.N.Nodup)(e:X.N[i]?=Y x)(d:Loc X.env.scope x)(r:RelV v u)(h:∀a,Inv X pins (O.set i (Y v)) H a->Q () a)(f:X.fn x=J\/X.env.scope.names.lookup x=Y .local:=by first | exact .inl rfl | exact .inr rfl | assumption):GM b A (storeName X.env x u) Q E s :=
 nT I g e d r (λa j _=>h a j) f
def Inv.DD{a:AC}{ch:Wl}(I:Inv X pins O H s)(e:a.os=s.os)(u:Un (AN X.stack) ch H H' s.heap a.heap)(d:AD X.prog X.w H' a.heap)(f:AllBare a.gens)(g:∀b∈ch,(b∈X.ex\/X.s₀.heap.objs.size<=b)/\b≠X.env.locals/\(∀x c,X.env.cells.lookup x=Y c->c≠b)/\∀p∈X.pn++pins,p.1≠b):Inv X pins O H' a:=by
 obtain⟨h',g',d',t',h⟩:=a;subst e;exact I.call (g':=g') (t':=t') (d':=d') u d f g
end
abbrev XK:=FS->Option FM->Hp->Prop
noncomputable abbrev St:=List (Option V)
abbrev VK:=V->Hp->Prop
abbrev TE:=St->Hp->VK->Prop
abbrev TT:=St->Hp->(Bool->Hp->Prop)->Prop
abbrev TA:=St->Hp->(List V->Hp->Prop)->Prop
structure Ends where
 nx:St->Hp->Prop
 rt:VK
 bk:St->Hp->Prop:=λ_ _=>False
 ct:St->Hp->Prop:=λ_ _=>False
abbrev TS:=Ends->St->Hp->Prop
def EP(X:Cx)(a:Xs)(O:St)(Q:VK)(u:FS)(d:AC):Prop:=∃v b,Inv X a O b d/\RelV v u/\Q v b
noncomputable def TP(X:Cx)(a:Xs)(O:St)(Q:Bool->Hp->Prop)(b:Bool)(e:AC):Prop:=∃d,Inv X a O d e/\Q b d
def AP(X:Cx)(a:Xs)(O:St)(Q:List V->Hp->Prop)(e:Wk)(f:AC):Prop:=∃b d,Inv X a O d f/\aA b e/\Q b d
def SP(X:Cx)(a:Xs)(D:Ends)(f:Flow)(e:AC):Prop :=
 match f with
 |.next=>∃d b,Inv X a d b e/\D.nx d b
 |.brk=>∃d b,Inv X a d b e/\D.bk d b
 |.cont=>∃d b,Inv X a d b e/\D.ct d b
 |.ret u=>∃v d b,Inv X a d b e/\RelV v u/\D.rt v b
def PE(X:Cx)(e:Expr)(t:TE):Prop :=
 ∀(a:Xs)(s:AC)(O:St)(H:Hp)(Q:VK),Inv X a O H s->t O H Q->GM (Da X.prog X.w) X.A (eval e X.env) (EP X a O Q) X.xe s
def PT(X:Cx)(e:Expr)(t:TT):Prop :=
 ∀(a:Xs)(s:AC)(O:St)(H:Hp)(Q:Bool->Hp->Prop),Inv X a O H s->t O H Q->GM (Da X.prog X.w) X.A (isTrue e X.env (eval e X.env)) (TP X a O Q) X.xe s
def PW(X:Cx)(e:Expr)(t:TT):Prop :=
 ∀(whole:Sem FS)(a:Xs)(s:AC)(O:St)(H:Hp)(Q:Bool->Hp->Prop),Inv X a O H s->t O H Q->GM (Da X.prog X.w) X.A (isTrue e X.env whole) (TP X a O Q) X.xe s
def PW.pt(h:PW X e t):PT X e t:=h _
def PA(X:Cx)(b:List Expr)(t:TA):Prop :=
 ∀(pos:Pos)(a:Xs)(s:AC)(O:St)(H:Hp)(Q:List V->Hp->Prop),Inv X a O H s->t O H Q->GM (Da X.prog X.w) X.A (spliced (backTo pos (KB b X.env))) (AP X a O Q) X.xe s
def PS(X:Cx)(b:Stmt)(t:TS):Prop :=
 ∀(a:Xs)(s:AC)(O:St)(H:Hp)(D:Ends),Inv X a O H s->t D O H->GM (Da X.prog X.w) X.A (exec b X.env) (SP X a D) X.xe s
def PSs(X:Cx)(b:List Stmt)(t:TS):Prop :=
 ∀(a:Xs)(s:AC)(O:St)(H:Hp)(D:Ends),Inv X a O H s->t D O H->GM (Da X.prog X.w) X.A (execs b X.env) (SP X a D) X.xe s
def thn{α:Type}{t:Sem α}{Q b:α->AC->Prop}{M:Model}(h:GM M A t Q E s)(d:∀a s,Q a s->b a s):GM M A t b E s:=ZP h d λ_ _ x=>x
section
noncomputable def oO(i:Nat):TE:=λO H Q=>∃v,O[i]?=Y (Y v)/\Q v H
noncomputable def tC(v:V):TE:=λ_ H Q=>Q v H
def d5{X:Cx}(w:X.N[i]?=Y x)(o:Cg X.env.scope x)(f:{`q0,K2 x})(g:{`q0,K3 x}):PE X (.Name x d) (oO i):=by
 intro b s O H Q I h;obtain⟨v,e,h⟩:=h;obtain⟨m,p,t⟩:=I.loc;obtain⟨u,r,l⟩:=t i x v w e o;have fin:EP X b O Q u s:=⟨v,H,I,r,h⟩
 rcases l with⟨a,q⟩ | ⟨a,c,j,n⟩
 ·exact X1 (wpAny_loadName_local I.ok.kind a p q fin) f
 ·rcases a with a | a
  ·exact X1 (wpAny_loadName_cell I.ok.kind a j n fin) f
  ·exact X1 (wpAny_loadName_free I.ok.kind a j n fin g) f
def wQ{i j pos}:PE X (.Constant (.int i) j pos) (tC (.int i)):=λ_ _ _ H _ I h=>wpAny_Constant_int ⟨.int i,H,I.tok _,⟨_,rfl⟩,h⟩
def yL{b j pos}:PE X (.Constant (.bool b) j pos) (tC (.bl b)):=λ_ _ _ H _ I h=>Constant_bool ⟨.bl b,H,I,rfl,h⟩
def vD{j pos}:PE X (.Constant .none j pos) (tC .non):=λ_ _ _ H _ I h=>Constant_none ⟨.non,H,I,rfl,h⟩
def v5{x j pos}:PE X (.Constant (.str x) j pos) (tC (.str x)):=λ_ _ _ H _ I h=>XU ⟨.str x,H,I.tok _,⟨_,rfl⟩,h⟩
noncomputable def Gl(X:Cx)(x:Str):Prop:=X.env.kindOf x=Y .globalImplicit
def eL{s:AC}(I:Inv X a O H s)(e:Gl X x)(d:X.mg x=Y u)(h:Q u s)(f:{`q0,K2 x}):GM (Da X.prog X.w) X.A (eval (.Name x b) X.env) Q E s :=
 Calls.Name_function_global I.ok.kind e (Calls.loadGlobal_global (by rw[I.ok.glob];exact I.mod.glob.keeps I.bk) d h) f
def gO(I:Inv X a O H s)(g:Gl X x)(f:X.mg x=Z)(d:bootBuiltins x=Y u)(h:Q u s)(e:{`q0,x ≠ "__name__"})(i:{`q0,K2 x}):GM (Da X.prog X.w) X.A (eval (.Name x b) X.env) Q E s:=by
 obtain⟨mb,l,j⟩:=I.mod.blt;exact Calls.Name_function_global I.ok.kind g (Calls.loadGlobal_builtin (by rw[I.ok.glob];exact I.mod.glob.keeps I.bk) f (by rw[I.ok.blt];exact l.keeps I.bk) ((j x e).trans d) h) i
def jJ{v:V}(d:Gl X x)(b:X.mg x=Y u)(r:RelV v u)(e:{`q0,K2 x}):PE X (.Name x a) (tC v) :=
 λ_ _ _ H _ I h=>eL I d b ⟨v,H,I,r,h⟩ e
def m6{v:V}(f:Gl X x)(e:X.mg x=Z)(b:bootBuiltins x=Y u)(r:RelV v u)(d:{`q0,x ≠ "__name__"})(g:{`q0,K2 x}):PE X (.Name x a) (tC v) :=
 λ_ _ _ H _ I h=>gO I f e b ⟨v,H,I,r,h⟩ d g
noncomputable def zR(t u:TT):TT:=λO H Q=>t O H λc d=>if c=J then u O d Q else Q L d
noncomputable def JW(t u:TT):TT:=λO H Q=>t O H λc d=>if c=J then Q J d else u O d Q
noncomputable def zJ(t:TT):TT:=λO H Q=>t O H λc d=>Q (!c) d
def mG(f:PT X a tA):PW X (.BoolOp .And [a] pos) tA:=by
 intro g d s O H Q I h;refine isTrue_and (thn (f d s O H Q I h) λc i e=>?_);cases c with
 |true=>exact isTrue_and_nil e
 |false=>exact e
def lS(f:PT X a tA):PW X (.BoolOp .Or [a] pos) tA:=by
 intro g d s O H Q I h;refine isTrue_or (thn (f d s O H Q I h) λc i e=>?_);cases c with
 |false=>exact isTrue_or_nil e
 |true=>exact e
def vP{X:Cx}{a:Expr}{pos:Pos}{tA FV:TT}{rest:List Expr}(m:PT X a tA)(l:PW X (.BoolOp .And (b :: rest) pos) FV):PW X (.BoolOp .And (a :: b :: rest) pos) (zR tA FV):=by
 intro i d s O H Q I h;refine isTrue_and (thn (m d s O H _ I h) λc j n=>?_);obtain⟨g,f,e⟩:=n;cases c with
 |true=>exact l i d j O g Q f e
 |false=>exact⟨g,f,e⟩
def yg{X:Cx}{a:Expr}{pos:Pos}{tA FV:TT}{rest:List Expr}(m:PT X a tA)(l:PW X (.BoolOp .Or (b :: rest) pos) FV):PW X (.BoolOp .Or (a :: b :: rest) pos) (JW tA FV):=by
 intro i d s O H Q I h;refine isTrue_or (thn (m d s O H _ I h) λc j n=>?_);obtain⟨g,f,e⟩:=n;cases c with
 |true=>exact⟨g,f,e⟩
 |false=>exact l i d j O g Q f e
def vO(e:PT X a tA):PT X (.UnaryOp .Not a pos) (zJ tA):=by
 intro d s O H Q I h;exact isTrue_not (e d s O H (λc f=>Q (!c) f) I h)
noncomputable def yY(ta e:TE):TE:=λO H Q=>ta O H λx d=>∃c,x=.bl c/\if c=J then e O d Q else Q (.bl L) d
noncomputable def yZ(ta:TE):TE:=λO H Q=>ta O H λx d=>∃c,x=.bl c/\Q (.bl (!c)) d
def vw{op}(h:PE X a t):PE X (.BoolOp op [a] pos) t:=λd s O H Q I hw=>BoolOp_one (h d s O H Q I hw)
def vn{X:Cx}{a:Expr}{ta tb:TE}{pos:Pos}{rest:List Expr}(l:PE X a ta)(j:PE X (.BoolOp .And (b :: rest) pos) tb):PE X (.BoolOp .And (a :: b :: rest) pos) (yY ta tb):=by
 intro d s O H Q I h;refine BoolOp_and (thn (l d s O H _ I h) λv i m=>?_);obtain⟨x,g,f,r1,e⟩:=m;obtain⟨c,rfl,e⟩:=e;cases r1;refine Yk ?_;cases c with
 |true=>exact j d i O g Q f e
 |false=>exact⟨.bl L,g,f,rfl,e⟩
def wX(f:PE X a ta):PE X (.UnaryOp .Not a pos) (yZ ta):=by
 intro d s O H Q I h;refine UnaryOp_ (thn (f d s O H _ I h) λv l g=>?_);obtain⟨x,j,i,r1,e⟩:=g;obtain⟨c,rfl,e⟩:=e;cases r1;exact not_of (Yk ⟨.bl (!c),j,i,rfl,e⟩)
noncomputable def JX(t:TT)(ta e:TE):TE:=λO H Q=>t O H λc d=>if c=J then ta O d Q else e O d Q
def oR(l:PT X c tA)(n:PE X a ta)(m:PE X b tb):PE X (.IfExp c a b pos) (JX tA ta tb):=by
 intro e s O H Q I h;refine wpAny_IfExp (thn (l e s O H _ I h) λd f o=>?_);obtain⟨j,i,g⟩:=o;cases d with
 |true=>exact n e f O j Q i g
 |false=>exact m e f O j Q i g
end
def Aj(K:Xe)(H:Hp)(a:FM)(d:List V):Prop :=
 Rd H a (.lst d) ∨
  ∃(o:Obj)(b:Array FS)(n:Nat),K.lookup a=Y o/\o.cls=.type "list" ∧ o.dict=Z/\o.data=.seq b n/\b.size<=FB/\aA d b.toList
def AR(K:Xe)(H:Hp)(a:FM)(d:List V):Prop :=
 Rd H a (.tup d) ∨
  ∃(o:Obj)(b:Array FS)(n:Nat),K.lookup a=Y o/\o.cls=.type "tuple" ∧ o.data=.seq b n/\b.size<=FB/\aA d b.toList
noncomputable def zD:FS->Option V
 |.none=>Y .non
 |.bool b=>Y (.bl b)
 |.int i _=>Y (.int i)
 |.str x _=>Y (.str x)
 |.bytes b _=>Y (.byt b)
 |.float b _=>Y (.flt b)
 |.ref a=>Y (.ref a)
 |.type n=>Y (.ty n)
 |_=>Z
def RelV.abs(r:RelV x u):zD u=Y x:=by
 cases x with
 |non=>cases r;rfl
 |bl _=>cases r;rfl
 |int _=>obtain⟨t,rfl⟩:=r;rfl
 |str _=>obtain⟨t,rfl⟩:=r;rfl
 |byt _=>obtain⟨t,rfl⟩:=r;rfl
 |flt _=>obtain⟨t,rfl⟩:=r;rfl
 |ref _=>cases r;rfl
 |ty _=>cases r;rfl
def RelV.inj(r:RelV x u)(q:RelV y u):x=y:=Zc (r.abs.symm.trans q.abs)
theorem aA.inj:∀{b a:List V}{d:Wk},aA b d->aA a d->b=a
 |_,_,_,.nil,.nil=>rfl
 |_,_,_,.cons r t,.cons f e=>by rw[r.inj f,aA.inj t e]
section
def Aj.of{K:Xe}(h:H a=Y (.lst xs)):Aj K H a xs:=.inl (.inl h)
def AR.of{K:Xe}(h:H a=Y (.tup xs)):AR K H a xs:=.inl (.inl h)
def Inv.list(I:Inv X pins O H s)(h:Aj X.K H a xs):∃b:Wk,aA xs b/\PlainL s.heap a b.toArray/\xs.length<=sizeLine:=by
 rcases h with h | ⟨o,b,n,f,g,hd,d,i,r⟩
 ·obtain⟨z,b,n,r,e⟩:=h.ok I.td;exact⟨b,r,⟨_,n,e,rfl,rfl,rfl⟩,z⟩
 ·refine⟨b.toList,r,⟨o,n,I.AE a o f,g,hd,by simpa using d⟩,?_⟩;have e:=r.length;simp only[ZV]at e;lia
def Inv.tuple(I:Inv X pins O H s)(h:AR X.K H a xs):∃b:Wk,aA xs b/\IsTup s.heap a b.toArray/\xs.length<=sizeLine:=by
 rcases h with h | ⟨o,b,n,f,g,d,i,r⟩
 ·obtain⟨z,b,r,_,p⟩:=h.ok I.td;exact⟨b,r,p,z⟩
 ·refine⟨b.toList,r,⟨o,I.AE a o f,g,n,by simpa using d⟩,?_⟩;have e:=r.length;simp only[ZV]at e;lia
def Inv.Bw(I:Inv X pins O H s)(h:Aj X.K H a xs)(i:Aj X.K H a ys):xs=ys:=by
 obtain⟨j,r,⟨o,n,e,_,_,d⟩,_⟩:=I.list h;obtain⟨l,g,⟨m,p,b,_,_,f⟩,_⟩:=I.list i;rw[e]at b;cases b;rw[d]at f;injection f with d1 _
 have:j=l:=by simpa using congrArg Array.toList d1
 subst this;exact r.inj g
def Inv.B9(I:Inv X pins O H s)(h:AR X.K H a xs)(i:AR X.K H a ys):xs=ys:=by
 obtain⟨j,r,⟨o,e,_,n,d⟩,_⟩:=I.tuple h;obtain⟨l,g,⟨m,b,_,p,f⟩,_⟩:=I.tuple i;rw[e]at b;cases b;rw[d]at f;injection f with d1 _
 have:j=l:=by simpa using congrArg Array.toList d1
 subst this;exact r.inj g
end
noncomputable abbrev Cx.AG(X:Cx)(E:Yj):Cx:={ X with xe:=E }
abbrev Cx.Bs(X:Cx):Cx:=X.AG λ_ _=>False
theorem Cx.Ok.AG{X:Cx}(a:X.Ok)(E:Yj):(X.AG E).Ok :=
 ⟨a.mod,a.kind,a.glob,a.blt,a.above,a.inj,a.has,a.Ed,a.hd,a.frames,a.CZ,a.GD,a.tb,a.bs,a.CH,a.BM,a.Cf,a.Ax,a.De⟩
def Cx.Ok.Ag{X:Cx}(a:(X.AG E).Ok):X.Ok :=
 ⟨a.mod,a.kind,a.glob,a.blt,a.above,a.inj,a.has,a.Ed,a.hd,a.frames,a.CZ,a.GD,a.tb,a.bs,a.CH,a.BM,a.Cf,a.Ax,a.De⟩
section
theorem Inv.AG(I:Inv X pins O H s)(E:Yj):Inv (X.AG E) pins O H s:=⟨I.ok.AG E,I.os,I.bare,I.base,I.loc,I.cell,I.free,I.Af,I.pin,I.td,I.len⟩
theorem Inv.Ag{X:Cx}(I:Inv (X.AG E) pins O H s):Inv X pins O H s:=⟨I.ok.Ag,I.os,I.bare,I.base,I.loc,I.cell,I.free,I.Af,I.pin,I.td,I.len⟩
theorem SP.Ag{X:Cx}(h:SP (X.AG E) pins D f d):SP X pins D f d:=by
 cases f with
 |next=>obtain⟨a,b,I,q⟩:=h;exact⟨a,b,I.Ag,q⟩
 |brk=>obtain⟨a,b,I,q⟩:=h;exact⟨a,b,I.Ag,q⟩
 |cont=>obtain⟨a,b,I,q⟩:=h;exact⟨a,b,I.Ag,q⟩
 |ret u=>obtain⟨v,a,b,I,r,q⟩:=h;exact⟨v,a,b,I.Ag,r,q⟩
theorem PT.Bs{X:Cx}(h:PT X.Bs e t):PT X e t:=λpins s O H Q I hw =>
 ZP (h pins s O H Q (I.AG _) hw) (λ_ _ ⟨b,a,q⟩=>⟨b,a.Ag,q⟩) λ_ _ z=>False.elim z
theorem PSs.Bs{X:Cx}(h:PSs X.Bs a t):PSs X a t:=λpins s O H D I hw =>
 ZP (h pins s O H D (I.AG _) hw) (λ_ _ q=>q.Ag) λ_ _ z=>False.elim z
end
section
variable{st:Stmt}
noncomputable def yt:TS:=λD O H=>D.nx O H
noncomputable def zL(t u:TS):TS:=λD O H=>t { D with nx:=u D } O H
def t9:PSs X [] yt:=λ_ _ O H _ I h=>X4 ⟨O,H,I,h⟩
def ig{X:Cx}{rest:List Stmt}{t u:TS}(g:PS X st t)(d:PSs X rest u):PSs X (st :: rest) (zL t u):=by
 intro a s O H D I h;refine wpAny_execs_cons (thn (g a s O H { D with nx:=u D } I h) λf b q=>?_);cases f with
 |next =>
  obtain⟨i,l,j,q⟩:=q;exact d a b i l D j q
 |ret v=>exact q
 |brk=>exact q
 |cont=>exact q
def aD(b:PS X st t):PSs X [st] t:=by
 intro a s O H D I h;refine wpAny_execs_cons (thn (b a s O H D I h) λf d q=>?_);cases f with
 |next=>exact X4 q
 |ret v=>exact q
 |brk=>exact q
 |cont=>exact q
def Inv.quiet(I:Inv X a O H s):interactive X.env=L:=by simp[interactive,I.ok.kind]
noncomputable def yP(a:TE):TS:=λD O H=>a O H λ_ b=>D.nx O b
def jN{pos:Pos}(he:PE X e te)(d:{`q1,swapsWith e Z pos.line X.env=pure L}):PS X (.Expr e pos) (yP te):=by
 intro a s O H D I h;exact wpAny_Expr_any (thn (he a s O H _ I h) λv i ⟨x,g,f,r1,b⟩=>⟨O,g,f,b⟩) I.quiet d
noncomputable def zH(a:TE):TS:=λD O H=>a O H D.rt
def o6(he:PE X e te):PS X (.Return (Y e) pos) (zH te):=by
 intro a s O H D I h;refine wpAny_Return_some (thn (he a s O H _ I h) λv i d=>?_);obtain⟨x,g,f,r1,b⟩:=d;exact⟨x,O,g,f,r1,b⟩
noncomputable def zI(c:TT)(t u:TS):TS:=λD O H=>c O H λb a=>if b=J then t D O a else u D O a
def u9(n:PT X c g)(p:PSs X a t)(o:PSs X b u):PS X (.If c a b pos) (zI g t u):=by
 intro f s O H D I h;refine wpAny_If (thn (n f s O H _ I h) λd i q=>?_);obtain⟨m,l,j⟩:=q;cases d with
 |true=>exact p f i O m D l j
 |false=>exact o f i O m D l j
end
abbrev TG:=V->St->Hp->(St->Hp->Prop)->Prop
abbrev Dj:=List V->St->Hp->(St->Hp->Prop)->Prop
def PG(X:Cx)(a:Expr)(t:TG):Prop :=
 ∀(b:Xs)(s:AC)(O:St)(H:Hp)(v:V)(u:FS)(Q:St->Hp->Prop),Inv X b O H s->RelV v u->t v O H Q →
  GM (Da X.prog X.w) X.A (assign a X.env u) (λ_ f=>∃d e,Inv X b d e f/\Q d e) X.xe s
def CW(X:Cx)(g:List Expr)(t:Dj):Prop :=
 ∀(a:Xs)(s:AC)(O:St)(H:Hp)(b:List V)(d:Wk)(Q:St->Hp->Prop),Inv X a O H s->aA b d->t b O H Q →
  GM (Da X.prog X.w) X.A (assignInOrder ((assignEach g X.env).map (·.2)) d) (λ_ h=>∃e f,Inv X a e f h/\Q e f) X.xe s
abbrev tB:=V->V->V->Hp->(Hp->Prop)->Prop
def wK(X:Cx)(t:tB):Prop :=
 ∀(a:Xs)(s:AC)(O:St)(H:Hp)(o i v:V)(b d u:FS)(Q:Hp->Prop),Inv X a O H s->RelV o b->RelV i d->RelV v u->t o i v H Q →
  GM (Da X.prog X.w) X.A (setItem b d u) (λ_ f=>∃e,Inv X a O e f/\Q e) X.xe s
section
noncomputable def uR(i:Nat):TG:=λv O H Q=>Q (O.set i (Y v)) H
def sN{X:Cx}(f:X.N.Nodup)(d:X.N[i]?=Y x)(b:Loc X.env.scope x)(e:X.fn x=J\/X.env.scope.names.lookup x=Y .local:=by first | exact .inl M | exact .inr M | assumption):PG X (.Name x pos) (uR i):=by
 intro a s O H v u Q I r h;exact wpAny_assign_Name (fG I f d b r (λj g=>⟨_,H,g,h⟩) e)
noncomputable def zN:Dj:=λa O H Q=>a=[]/\Q O H
noncomputable def yw(t:TG)(u:Dj):Dj:=λa O H Q=>∃v r,a=v :: r/\t v O H λb d=>u r b d Q
def uz:CW X [] zN:=by
 intro a s O H b d Q I r h;obtain⟨e,h⟩:=h;subst e;cases r;exact assignInOrder_nil ⟨O,H,I,h⟩
def qh(m:PG X e t)(l:CW X b u)(i:{`q1,(assignEach (e :: b) X.env).map (·.2)=assign e X.env :: (assignEach b X.env).map (·.2)}):CW X (e :: b) (yw t u):=by
 intro a s O H q x Q I r h;obtain⟨v,w,e1,h⟩:=h;subst e1;cases r with
 |cons r f =>
  rw[i];refine assignInOrder_cons (thn (m a s O H _ _ _ I r h) λ_ d j=>?_);obtain⟨n,p,o,g⟩:=j;exact l a d n p _ _ Q o f g
def nM(K:Xe)(n:Nat)(t:Dj):TG:=λv O H Q=>∃a b,v=.ref a/\AR K H a b/\b.length=n/\t b O H Q
def vS{X:Cx}(w:X.calm=J)(h:CW X f t)(p:{`q1,(assignEach f X.env).length=n})(x:{`q1,(assignEach f X.env).findIdx? (·.1)=Z}):PG X (.Tuple f k pos) (nM X.K n t):=by
 intro d s O H v u Q I r hw;obtain⟨a,i,e1,m,q,hw⟩:=hw;subst e1;cases r;obtain⟨A,g,l,y⟩:=I.tuple m;refine assign_Tuple_tuple (I.ok.hd w) l (by simp[p,← q,g.length]) x λz j=>?_;exact h d _ O H i _ Q (I.kept (t':=s.toks) λb o e=>j b o (Zo (Zt e)) e) (by simpa using g) hw
noncomputable def zM(a b:TE)(t:tB):TG:=λv O H Q=>a O H λo f=>b O f λi e=>t o i v e λd=>Q O d
def vV(w:PE X o f)(z:PE X i g)(q:wK X t)(A:{`q2,∀v,assign (.Subscript o i pos) X.env v=(do
   let b ← holding [v] (eval o X.env)
   let d ← holding [v,b] (eval i X.env)
   standAt pos
   holding [v,b,d] (setItem b d v)
   release [v,b,d] [])}):PG X (.Subscript o i pos) (zM f g t):=by
 intro a s O H v u Q I r h;rw[A];refine zY (ZG (thn (w a s O H _ I h) λb l e=>?_));obtain⟨x,G,D,r1,p⟩:=e;refine zY (ZG (thn (z a l O G _ D p) λd j e=>?_));obtain⟨y,F,C,r2,n⟩:=e;refine zY (XE (zY (ZG (thn (q a j O F x y v b d u _ C r1 r2 r n) λ_ M e=>?_))));obtain⟨E,B,m⟩:=e;exact wpAny_release ⟨O,E,B,m⟩
noncomputable def yU(a:TE)(g:TG):TS:=λD O H=>a O H λx b=>g x O b D.nx
def vR{pos:Pos}(he:PE X e d)(l:PG X b g)(j:{`q1,swapsWithSole [b] e pos.line X.env=pure L})(hw:{`q1,swappedStores [b] e X.env=pure Z})(n:{`q1,(assignEach [b] X.env).map (·.2)=[assign b X.env]}):PS X (.Assign [b] e pos) (yU d g):=by
 intro a s O H D I h;refine wpAny_Assign_stores (thn (he a s O H _ I h) λv f m=>?_) j hw;obtain⟨x,p,o,r1,i⟩:=m;rw[n];exact thn (l a f O p x v _ o r1 i) λ_ r q=>q
def qN{X:Cx}{pos:Pos}(o:X.N.Nodup)(l:X.N[i]?=Y x)(g:Loc X.env.scope x)(he:PE X e d)(j:{`q1,swapsWith e (Y (.Name x a)) pos.line X.env=pure L})(m:X.fn x=J\/X.env.scope.names.lookup x=Y .local:=by first | exact .inl M | exact .inr M | assumption) :
  PS X (.Assign [.Name x a] e pos) (yU d (uR i)):=by
 intro b s O H D I h;refine wpAny_Assign_Name (thn (he b s O H _ I h) λv u n=>?_) j;obtain⟨y,r,q,r1,f⟩:=n;exact fG q o l g r1 (λt p=>⟨_,r,p,f⟩) m
end
structure It where
 go:Nat->Hp->Prop
 FT:Nat->Hp->V->Hp->Prop
 stop:Nat->Hp->Prop
def gR(X:Cx)(a:Xs)(H:Hp)(b:FM):Prop :=
 H b=Z/\b≠X.env.locals/\b∉X.fs/\(b∈X.ex\/X.s₀.heap.objs.size<=b)/\(∀x c,X.env.cells.lookup x=Y c->c≠b)/\∀p∈X.pn++a,p.1≠b
def Inv.CF(I:Inv X a O H s)(d:s.heap.objs.size<=b)(h:f b=Z):gR X a f b:=by
 refine⟨h,YK (Zh I.lt d),I.Hb d,.inr (Zu I.sz d),λx c e z=>?_,λp g z=>?_⟩
 ·obtain⟨v,q⟩:=I.cell x c e;exact absurd (Zh q.lt (by rw[z];exact d)) (YZ _)
 ·exact absurd (Zh (Zt (I.pin p g).1) (by rw[z];exact d)) (YZ _)
structure Turn(P:KM)(w:NG)(K:Xe)(tg:Expr)(J:It)(fp:Wl)(it:FM)(tn:Nat->NF->Prop):Prop where
 mem:it∈fp
 obj:∀i h,tn i h->∀b∈fp,∃o,h.get? b=some o/\∀v,o.data ≠ .cell v
 keep:∀i h h',tn i h->(∀b∈fp,∀o,h.get? b=some o->h'.get? b=some o)->tn i h'
 item:∀(X:Cx),X.prog=P->X.w=w->X.K=K->X.calm=true->∀(i:Nat)(pins:Xs)(s:AC)(O:St)(H:Hp)(E:Yj),Inv X pins O H s->(∀b∈fp,gR X pins H b)->tn i s.heap->J.go i H →
  GM (Da P w) X.A (pyNext (.ref it)) (λr s1=>∃u,r=some u ∧
   GM (Da P w) X.A (letOwnedTupleGo tg (.ref it) u) (λ_ s2=>∃x H',Inv X pins O H' s2/\RelV x u/\J.FT i H x H'/\tn (i+1) s2.heap/\∀b∈fp,H' b=none) E s1) E s
 done:∀(X:Cx),X.prog=P->X.w=w->X.K=K->X.calm=true->∀(i:Nat)(pins:Xs)(s:AC)(O:St)(H:Hp)(E:Yj),Inv X pins O H s->(∀b∈fp,gR X pins H b)->tn i s.heap->J.stop i H →
  GM (Da P w) X.A (pyNext (.ref it)) (λr s1=>r=none/\Inv X pins O H s1) E s
 self:∀(A:NB)(i:Nat)(s:AC)(Q:Yj)(E:Yj),tn i s.heap->Q (.ref it) s->GM (Da P w) A (pyIter (.ref it)) Q E s
abbrev TI:=St->Hp->(It->Hp->Prop)->Prop
def JN(X:Cx)(a:Xs)(O:St)(g:Expr)(R:It->Hp->Prop)(h:FS)(f:AC):Prop :=
 ∃(it:FM)(fp:Wl)(e:Nat->NF->Prop)(J:It)(d:Hp),h=.ref it/\Inv X a O d f/\Turn X.prog X.w X.K g J fp it e/\e 0 f.heap/\(∀b∈fp,gR X a d b)/\R J d
def PI(X:Cx)(e b:Expr)(d:TI):Prop :=
 ∀(a:Xs)(s:AC)(O:St)(H:Hp)(R:It->Hp->Prop),Inv X a O H s->d O H R →
  GM (Da X.prog X.w) X.A (eval b X.env) (λv f=>GM (Da X.prog X.w) X.A (pyIter v) (JN X a O e R) X.xe f) X.xe s
def mL{M:Model}{s:AC}(f:s.heap.get? e=Y o)(j:o.cls=.type n)(i:o.data=.fields b)(g:["enumerate", "zip", "dict_itemiterator", "dict_reverseitemiterator", "odict_iterator", "itertools.zip_longest", "itertools.pairwise"].contains n=L)(a:Q () s):GM M A (letOwnedTupleGo d (.ref e) u) Q E s:=by
 cases d<;>first
  |exact z8 a
  | (cases u<;>first
    |exact z8 a
    | (refine zY (wpAny_load f ?_)
       rw[j,i];show GM M A (if (["enumerate", "zip", "dict_itemiterator", "dict_reverseitemiterator", "odict_iterator", "itertools.zip_longest", "itertools.pairwise"].contains n&&b[0]? == Y (rawInt _))=J then _ else _) Q E s;rw[Zl (by intro h;rw[g,Y7]at h;cases h)];exact z8 a))
def Iq(K:Xe)(a:FM):It :=
 ⟨λi H=>∃b x,Aj K H a b/\b[i]?=Y x,λi H x d=>d=H/\∀b,Aj K H a b->b[i]?=Y x,λi H=>∃b,Aj K H a b/\b.length<=i⟩
def Ip(K:Xe)(a:FM):It :=
 ⟨λi H=>∃b x,AR K H a b/\b[i]?=Y x,λi H x d=>d=H/\∀b,AR K H a b->b[i]?=Y x,λi H=>∃b,AR K H a b/\b.length<=i⟩
noncomputable def GK(a:Int)(n:Nat):It:=⟨λi _=>i<n,λi H x b=>b=H/\x=.int (a+i),λi _=>n<=i⟩
def n5{P:KM}{w:NG}{K:Xe}{Q:Expr}(a f:FM):Turn P w K Q (Iq K a) [f] f (λi h=>h.IsListIter f a i) where
 mem:=by simp
 obj:=λi h st b g=>by
  have e:b=f:=by simpa using g
  subst e;obtain⟨o,e,c,d⟩:=st;exact⟨o,e,λv z=>by rw[d]at z;cases z⟩
 keep:=λi h G st k=>st.at λo e=>k f (by simp) o e
 item:=by
  intro X y hw A F i j s O H E I m st t;refine L2.aw λP_ q=>?_;subst y hw A;obtain⟨N,x,l,r⟩:=t;obtain⟨cp,n,p,U⟩:=I.list l;obtain⟨u,hu,S⟩:=n.get r;obtain⟨D,f1,f2,f3,C,B⟩:=m f (by simp);refine q ?_;refine wpAny_pyNext_list_item st p.isList (x:=u) (by simpa using hu) λG M R=>?_;obtain⟨o,e,c,d⟩:=id M;exact⟨u,rfl,mL e c d (by decide) ⟨x,H,(I.turned (t':=s.toks) (λb o g e=>(R.2 b g).trans e) D f1 f3 C B),S,⟨rfl,λys W=>by rw[I.Bw W l];exact r⟩,M,λb g=>(m b g).1⟩⟩
 done:=by
  intro X y hw A F i j s O H E I m st t;refine L2.aw λP_ q=>?_;subst y hw A;obtain⟨N,l,r⟩:=t;obtain⟨cp,n,p,U⟩:=I.list l;obtain⟨D,f1,f2,f3,C,B⟩:=m f (by simp);refine q ?_;have hl:=n.length;exact wpAny_pyNext_list_end (I.ok.hd F) st p.isList (by simp;lia) λG eb=>⟨rfl,I.turned (λb o g e=>eb b o g e) D f1 f3 C B⟩
 self:=λ_ _ _ _ _ st h=>wpAny_pyIter_listiter st h
def lT{P:KM}{w:NG}{K:Xe}{Q:Expr}(a f:FM):Turn P w K Q (Ip K a) [f] f (λi h=>h.IsTupleIter f a i) where
 mem:=by simp
 obj:=λi h st b g=>by
  have e:b=f:=by simpa using g
  subst e;obtain⟨o,e,c,d⟩:=st;exact⟨o,e,λv z=>by rw[d]at z;cases z⟩
 keep:=λi h G st k=>st.at λo e=>k f (by simp) o e
 item:=by
  intro X y hw A F i j s O H E I m st t;refine L2.aw λP_ q=>?_;subst y hw A;obtain⟨N,x,l,r⟩:=t;obtain⟨cp,n,p,U⟩:=I.tuple l;obtain⟨u,hu,S⟩:=n.get r;obtain⟨D,f1,f2,f3,C,B⟩:=m f (by simp);refine q ?_;refine wpAny_pyNext_tuple_item st (p) (x:=u) (by simpa using hu) λG M R=>?_;obtain⟨o,e,c,d⟩:=id M;exact⟨u,rfl,mL e c d (by decide) ⟨x,H,(I.turned (t':=s.toks) (λb o g e=>(R.2 b g).trans e) D f1 f3 C B),S,⟨rfl,λys W=>by rw[I.B9 W l];exact r⟩,M,λb g=>(m b g).1⟩⟩
 done:=by
  intro X y hw A F i j s O H E I m st t;refine L2.aw λP_ q=>?_;subst y hw A;obtain⟨N,l,r⟩:=t;obtain⟨cp,n,p,U⟩:=I.tuple l;obtain⟨D,f1,f2,f3,C,B⟩:=m f (by simp);refine q ?_;have hl:=n.length;exact wpAny_pyNext_tuple_end (I.ok.hd F) st (p) (by simp;lia) λG eb=>⟨rfl,I.turned (λb o g e=>eb b o g e) D f1 f3 C B⟩
 self:=λ_ _ _ _ _ st h=>wpAny_pyIter_tupleiter st h
def lz{P:KM}{w:NG}{K:Xe}{B:Expr}(a:FM)(g:Int)(n:Nat):Turn P w K B (GK g n) [a] a (λi h=>IsRangeIter h a (g+(i:Nat)*1) ((n:Int)-(i:Nat)) 1) where
 mem:=by simp
 obj:=λi h st b d=>by
  have e:b=a:=by simpa using d
  subst e;exact⟨_,st,λv z=>by
   cases z⟩
 keep:=λi h y st k=>k a (by simp) _ st
 item:=by
  intro X p hw q m i f s O H E I j st l;subst p hw q;obtain⟨x,f1,f2,f3,u,r⟩:=j a (by simp);refine(Walks.range (prog:=X.prog) (w:=X.w) (I.ok.hd m) a g 1 n).item i s _ _ l st λv y G D A C=>?_;obtain⟨t,rfl⟩:=D;refine⟨_,rfl,mL A M M (by decide) ⟨.int (g+i),H,(I.turned (λb o d e=>C b o (by simpa using d) e) x f1 f3 u r),⟨t,?_⟩,⟨rfl,rfl⟩,A,λb d=>(j b d).1⟩⟩;rw[Int.mul_one]
 done:=by
  intro X p hw q m i f s O H E I j st l;subst p hw q;obtain⟨x,f1,f2,f3,u,r⟩:=j a (by simp);exact wpAny_pyNext_range_end (I.ok.hd m) st (by have:n<=i:=l;lia) λy F=>⟨rfl,I.turned (λb o d e=>F b o d e) x f1 f3 u r⟩
 self:=λ_ _ _ _ _ st h=>wpAny_pyIter_rangeiter st h
section
def oN{a f:Int}(I:Inv X d O H s)(n:-(2 ^ 62)<=a)(m:a<2 ^ 62)(l:-(2 ^ 62)<=f)(j:f<2 ^ 62)(q:R (GK a (f-a).toNat) H):GM (Da X.prog X.w) X.A (pyIter (.ref s.heap.objs.size)) (JN X d O tg R) E { s with heap:=s.heap.push { cls:=.type "range",data:=.fields #[.int a t,.int f u,.int 1 v] },toks:=g }:=by
 refine wpAny_pyIter_range (IsRange.new ..) (small_one n m l j) ?_;have h:Inv X d O H { s with heap:=s.heap.push { cls:=.type "range",data:=.fields #[.int a t,.int f u,.int 1 v] },toks:=g }:=I.kept λb o e=>zX _ e;refine⟨(s.heap.push { cls:=.type "range",data:=.fields #[.int a t,.int f u,.int 1 v] }).objs.size,[(s.heap.push { cls:=.type "range",data:=.fields #[.int a t,.int f u,.int 1 v] }).objs.size],_,_,H,rfl,
  h.kept (t':=g) λb o e=>zX _ e,lz _ a (f-a).toNat,?_,λb i=>?_,q⟩
 ·have e1:a+((0:Nat):Int)*1=a:=by simp
  have e2:(((f-a).toNat:Nat):Int)-((0:Nat):Int)=Builtin.Range.rangeSize a f 1:=by rw[rangeSize_one];split<;>lia
  rw[e1,e2];exact Zr _ M
 ·have e:b=(s.heap.push { cls:=.type "range",data:=.fields #[.int a t,.int f u,.int 1 v] }).objs.size:=by simpa using i
  subst e;exact h.CF (Zy _) (h.td.fresh (Zy _))
def y8(ta:TA):TI:=λO H R=>ta O H λa b=>∃j:Int,a=[.int j]/\-(2 ^ 62)<=j/\j<2 ^ 62/\R (GK 0 j.toNat) b
def oy(o:Gl X "range")(n:X.mg "range" = Z)(u:PA X [a] g)(m:{`q1,KB [a] X.env=[(L,eval a X.env)]}):PI X tg (.Call (.Name "range" p) [a] [] b) (y8 g):=by
 intro d s O H R I h;refine Call_ (gO I o n boot_range (Xk (thn (u b d s O H _ I h) λy z v=>?_) m M));obtain⟨x,A,w,r1,f⟩:=v;obtain⟨j,e,f,l,q⟩:=f;subst e;cases r1 with
 |cons r i =>
  cases i;obtain⟨t,rfl⟩:=r;exact call_range_1 (oN w (by lia) (by lia) f l (by simpa using q))
def xi(e:TI)(g:TG)(f:TS):TS:=λD O H=>e O H λJ l=>∃W:Nat->Nat->St->Hp->Prop,(∃m,W 0 m O l)/\∀i m O H,W i m O H →
 (J.stop i H/\D.nx O H)\/(J.go i H/\∃N:St->Hp->Prop,(∀d a,N d a->∃b,b<m/\W (i+1) b d a)/\∀x a,J.FT i H x a->g x O a λh j=>f { D with nx:=N,ct:=N,bk:=D.nx } h j)
noncomputable def gW(a:Wl)(h:NF):Xs:=a.filterMap λb=>(h.get? b).map λo=>(b,o)
def dN{h:NF}(d:b∈a)(e:h.get? b=Y o):(b,o)∈gW a h:=List.mem_filterMap.mpr ⟨b,d,by rw[e];rfl⟩
def nW(d:p∈gW a h):p.1∈a/\h.get? p.1=Y p.2:=by
 obtain⟨b,f,e⟩:=List.mem_filterMap.mp d;cases q:h.get? b with
 |none=>rw[q]at e;cases e
 |some o =>
  rw[q]at e;have g:=Zc e;subst g;exact⟨f,q⟩
def Inv.pinned(I:Inv X a O H s)(l:∀b∈f,gR X a H b)(j:∀b∈f,∃o,s.heap.get? b=Y o/\∀v,o.data ≠ .cell v):Inv X (a++gW f s.heap) O H s :=
 I.BW λp i=>(Zv.mp i).elim (λz=>I.pin p (Zb _ z)) λz=>by
  obtain⟨g,e⟩:=nW z;obtain⟨m,f1,f2,_⟩:=l p.1 g;obtain⟨o,h,d⟩:=j p.1 g;rw[e]at h;cases h;exact⟨e,m,f1,f2,d⟩
def Inv.AL(I:Inv X (a++b) O H s):Inv X a O H s:=I.BW λp d=>I.pin p (Zb _ (Z9 _ d))
def qk{X:Cx}(F:PassesOwn (Da X.prog X.w) X.A X.env X.xe)(hc:X.calm=true)(hi:PI X tg j wi)(hg:PG X tg g)(l:PSs X B tb)(hs:{`q2,∀x,NI j X.env x=pure x}):PS X (.For tg j B [] S) (xi wi g tb):=by
 intro a s O H D I h;refine wpAny_For (thn (hi a s O H _ I h) λv s1 h1=>thn h1 λHh s2 h2=>?_) hs;refine L2.aw λP_ k_=>?_;obtain⟨it,fp,tn,J,H2,e,I2,T,FX,f2,W,⟨m0,w0⟩,turn⟩:=h2;subst e;refine k_ ?_;have BK:∀{y:Hp},(∀b∈fp,y b=Z)->∀b∈fp,gR X a y b:=λhn b l=>⟨hn b l,(f2 b l).2⟩
 refine codeAny_forLoop_any (λn s'=>∃i P y,Inv X a P y s'/\tn i s'.heap/\(∀b∈fp,y b=Z)/\W i n P y) ?_ m0 ⟨0,O,H2,I2,FX,λb l=>(f2 b l).1,w0⟩;rintro n s3 ⟨i,G,Q,I3,Dr,FA,w3⟩;rcases turn i n G Q w3 with⟨stop,qn⟩ | ⟨go,N,hN,step⟩
 ·refine Xf F (thn (T.done X M M M hc i a s3 G Q X.xe I3 (BK FA) Dr stop) λr s4 C=>?_);obtain⟨U,I4⟩:=C;subst U;exact X4 ⟨G,Q,I4,qn⟩
 ·refine Xf F (thn (T.item X M M M hc i a s3 G Q X.xe I3 (BK FA) Dr go) λr s4 C=>?_);obtain⟨u,U,h4⟩:=C;subst U;refine Xf F (thn h4 λ_ s5 C=>?_);obtain⟨x,H5,I5,r5,y5,DJ,HV⟩:=C;refine Xf F (thn (hg _ s5 G H5 x u _ (I5.pinned (BK HV) (T.obj _ _ DJ)) r5 (step x H5 y5)) λ_ s6 C=>?_);obtain⟨O6,H6,I6,q6⟩:=C;refine Xf F (thn (l _ s6 O6 H6 _ I6 q6) λf R z=>?_);have again:∀{p:St}{t:Hp},Inv X (a++gW fp s5.heap) p t R->N p t->∃m,m<n/\∃i P y,Inv X a P y R/\tn i R.heap/\(∀b∈fp,y b=Z)/\W i m P y:=λ{p t} q E=>by
   obtain⟨m',hm,w7⟩:=hN p t E;refine⟨m',hm,i+1,p,t,q.AL,T.keep _ _ _ DJ λb l o e=>(q.pin (b,o) (Zb _ (Zb _ (dN l e)))).1,λb l=>?_,w7⟩;obtain⟨o,e,d⟩:=T.obj _ _ DJ b l;exact(q.pin (b,o) (Zb _ (Zb _ (dN l e)))).2.1
  cases f with
  |next=>obtain⟨p,t,q,E⟩:=z;exact again q E
  |cont=>obtain⟨p,t,q,E⟩:=z;exact again q E
  |brk=>obtain⟨p,t,q,z⟩:=z;exact⟨p,t,q.AL,z⟩
  |ret v=>obtain⟨x7,p,t,q,r7,z⟩:=z;exact⟨x7,p,t,q.AL,r7,z⟩
end
abbrev R2:=V->V->Hp->VK->Prop
def OpR(X:Cx)(f:FS->FS->Sem FS)(r:R2):Prop :=
 ∀(a:Xs)(s:AC)(O:St)(H:Hp)(x y:V)(v u:FS)(Q:VK),Inv X a O H s->RelV x v->RelV y u->r x y H Q →
  GM (Da X.prog X.w) X.A (f v u) (EP X a O Q) X.xe s
def bV(X:Cx)(f:FS)(r:List V->Hp->VK->Prop):Prop :=
 ∀(a:Xs)(s:AC)(O:St)(H:Hp)(b:List V)(d:Wk)(Q:VK),Inv X a O H s->aA b d->r b H Q →
  GM (Da X.prog X.w) X.A (call f d) (EP X a O Q) X.xe s
def zx(X:Cx)(r:V->Hp->(Bool->Hp->Prop)->Prop):Prop :=
 ∀(a:Xs)(s:AC)(O:St)(H:Hp)(x:V)(v:FS)(Q:Bool->Hp->Prop),Inv X a O H s->RelV x v->r x H Q →
  GM (Da X.prog X.w) X.A (truthy v) (TP X a O Q) X.xe s
noncomputable def EM(r:R2)(ta a:TE):TE:=λO H Q=>ta O H λx d=>a O d λy b=>r x y b Q
noncomputable def rI(C:Int->Int->Prop)(g:Int->Int->V):R2:=λx y H Q=>∃i j,x=.int i/\y=.int j/\C i j/\Q (g i j) H
noncomputable def BV(g:Int->Int->V):R2:=λx y H Q=>∃i j,x=.int i/\y=.int j/\Q (g i j) H
section
def xj{X:Cx}{a b:Expr}{ta tb:TE}(t:PE X a ta)(r:PE X b tb){d:Xs}{s:AC}{O:St}{H:Hp}{R:V->V->Hp->Prop}(I:Inv X d O H s)(h:ta O H λx j=>tb O j λy e=>R x y e){Q:Yj}{f:FS->FS->Sem FS}(q:∀v u g x y e,Inv X d O e g->RelV x v->RelV y u->R x y e->GM (Da X.prog X.w) X.A (f v u) Q X.xe g) :
  GM (Da X.prog X.w) X.A (eval a X.env) (λv m=>GM (Da X.prog X.w) X.A (eval b X.env) (λu l=>GM (Da X.prog X.w) X.A (f v u) Q X.xe l) X.xe m) X.xe s:=by
 refine thn (t d s O H _ I h) λv n i=>?_;obtain⟨x,j,B,r1,p⟩:=i;refine thn (r d n O j _ B p) λu g i=>?_;obtain⟨y,e,z,r2,o⟩:=i;exact q v u g x y e z r1 r2 o
def xM(j:OpR X (binaryOp e) r)(m:PE X a ta)(l:PE X b tb):PE X (.BinOp a e b pos) (EM r ta tb):=by
 intro d s O H Q I h;exact wpAny_BinOp (xj m l I h λv u f x y o n i g q=>j d f O o x y v u Q n i g q)
def GZ{X:Cx}{f:FS->FS->Sem FS}{C:Int->Int->Prop}{g:Int->Int->Int}(d:∀(i j:Int)(t u:Tok)(s:AC)(Q:Yj)(E:Yj),C i j->Q (.int (g i j) s.toks) { s with toks:=s.toks+1 }->GM (Da X.prog X.w) X.A (f (.int i t) (.int j u)) Q E s) :
  OpR X f (rI C λi j=>.int (g i j)):=by
 intro e s O H x y v u Q I n m h;obtain⟨i,j,rfl,rfl,o,q⟩:=h;obtain⟨t,rfl⟩:=n;obtain⟨l,rfl⟩:=m;exact d i j t l s _ _ o ⟨.int (g i j),H,I.tok _,⟨_,rfl⟩,q⟩
def yX{X:Cx}{f:FS->FS->Sem FS}{g:Int->Int->Int}(d:∀(i j:Int)(t u:Tok)(s:AC)(Q:Yj)(E:Yj),Q (.int (g i j) s.toks) { s with toks:=s.toks+1 }->GM (Da X.prog X.w) X.A (f (.int i t) (.int j u)) Q E s) :
  OpR X f (BV λi j=>.int (g i j)):=by
 intro e s O H x y v u Q I n m h;obtain⟨i,j,rfl,rfl,q⟩:=h;obtain⟨t,rfl⟩:=n;obtain⟨l,rfl⟩:=m;exact d i j t l s _ _ ⟨.int (g i j),H,I.tok _,⟨_,rfl⟩,q⟩
def se{X:Cx}{f:FS->FS->Sem FS}{g:Int->Int->Bool}(d:∀(i j:Int)(t u:Tok)(s:AC)(Q:Yj)(E:Yj),Q (.bool (g i j)) s->GM (Da X.prog X.w) X.A (f (.int i t) (.int j u)) Q E s) :
  OpR X f (BV λi j=>.bl (g i j)):=by
 intro e s O H x y v u Q I n m h;obtain⟨i,j,rfl,rfl,q⟩:=h;obtain⟨t,rfl⟩:=n;obtain⟨l,rfl⟩:=m;exact d i j t l s _ _ ⟨.bl (g i j),H,I,rfl,q⟩
noncomputable def y9(i j:Int):Prop:=0<j/\j<1073741824
noncomputable def um(i j:Int):Prop:=(-(2 ^ 64)<i/\i<2 ^ 64)\/(-(2 ^ 64)<j/\j<2 ^ 64)
def um.ok{i j:Int}(h:um i j):IntMulOk i j:=by
 rcases h with⟨e,d⟩ | ⟨e,d⟩
 ·exact .of_left (intBits_le_64 e d)
 ·exact .of_right (intBits_le_64 e d)
def xf:OpR X (binaryOp .Add) (BV λi j=>.int (i+j)):=yX λ_ _ _ _ _ _ _ q=>add_int q
def wR:OpR X (binaryOp .Sub) (BV λi j=>.int (i-j)):=yX λ_ _ _ _ _ _ _ q=>sub_int q
def g9:OpR X (binaryOp .Mult) (rI um λi j=>.int (i*j)):=GZ λ_ _ _ _ _ _ _ d q=>mul_int q d.ok
def dI:OpR X (binaryOp .FloorDiv) (rI y9 λi j=>.int (i/j)):=GZ λi j _ _ _ _ _ d q=>by
 have f:=d.1;have e:=d.2;exact floordiv_int (by lia) (by rw[Int.fdiv_eq_ediv_of_nonneg i (by lia)];exact q) (.inl (PyProof.noPylong_small (by omega)))
def wD:OpR X (binaryOp .Mod) (rI (λ_ j=>0<j) λi j=>.int (i%j)):=GZ λi j _ _ _ _ _ d q=>by
 exact mod_int' (by lia) (by rw[Int.fmod_eq_emod_of_nonneg i (by lia)];exact q)
end
section
def xw(I:Inv X d O H s)(q:Q (.bl k) H)(e:k=f):EP X d O Q (.bool f) s:=by
 subst e;exact⟨.bl k,H,I,rfl,q⟩
def zi:OpR X (ND .Lt) (BV λi j=>.bl (decide (i<j))):=se λ_ _ _ _ _ _ _ q=>lt_int q
def yE:OpR X (ND .LtE) (BV λi j=>.bl (decide (i<=j))):=se λ_ _ _ _ _ _ _ q=>le_int q
def yn:OpR X (ND .Gt) (BV λi j=>.bl (decide (j<i))):=se λ_ _ _ _ _ _ _ q=>gt_int q
def yN:OpR X (ND .GtE) (BV λi j=>.bl (decide (j<=i))):=se λ_ _ _ _ _ _ _ q=>ge_int q
def oi:OpR X (ND .Lt) (λx y H Q=>∃i j,x=.str i/\y=.str j/\Q (.bl (decide (i.cps.toList<j.cps.toList))) H):=by
 intro d s O H x y v u Q I f e h;obtain⟨i,j,rfl,rfl,q⟩:=h;obtain⟨t,rfl⟩:=f;obtain⟨g,rfl⟩:=e;exact lt_str (xw I q M)
def OpR.or(h:OpR X f r)(j:OpR X f i):OpR X f (λx y H Q=>r x y H Q\/i x y H Q):=by
 intro d s O H x y v u Q I g e q;rcases q with q | q
 ·exact h d s O H x y v u Q I g e q
 ·exact j d s O H x y v u Q I g e q
def ft(b:Expr)(h:{`q0,d ≠ .In})(e:{`q0,d ≠ .NotIn}):behindInMarks d b=L:=by
 have e1:(d==CmpOp.In)=L:=by cases d<;>first | rfl | exact absurd M h
 have e2:(d==CmpOp.NotIn)=L:=by cases d<;>first | rfl | exact absurd M e
 cases b<;>simp[behindInMarks,e1,e2]
def sv(j:OpR X (ND e) r)(n:PE X a ta)(m:PE X b tb)(l:behindInMarks e b=L):PE X (.Compare a [e] [b] pos) (EM r ta tb):=by
 intro d s O H Q I h;exact wpAny_Compare1 (xj n m I h λv u f x y p o i g q=>j d f O p x y v u Q o i g q) l
noncomputable def pC(t:TE):TT:=λO H Q=>t O H λx d=>∃k,x=.bl k/\Q k d
def sy(n:OpR X (ND f) r)(q:PE X a ta)(p:PE X b tb)(o:behindInMarks f b=L):PT X (.Compare a [f] [b] pos) (pC (EM r ta tb)):=by
 intro d s O H Q I h;refine wpAny_isTrue_Compare1 (thn (q d s O H _ I h) λv i ⟨x,E,B,r1,m⟩=>thn (p d i O E _ B m) λu g ⟨y,D,A,r2,l⟩ =>
  thn (n d g O D x y v u _ A r1 r2 l) λc F t=>?_) o
 obtain⟨z,C,w,r3,k,e,j⟩:=t;subst e;cases r3;exact Yk ⟨C,w,j⟩
noncomputable def lD(r h:R2)(ta g f:TE):TE:=λO H Q=>ta O H λx l=>g O l λy j=>r x y j λz d=>∃k,z=.bl k ∧
 (if k=J then f O d λe i=>h y e i Q else Q (.bl L) d)
def rS(F:OpR X (ND g) r)(BA:OpR X (ND i) j)(P:PE X a ta)(N:PE X b tb)(M:PE X c tc)(G:{`q3,lastMarks [g,i] [b,c]=L}):PE X (.Compare a [g,i] [b,c] pos) (lD r j ta tb tc):=by
 intro f s O H Q I h;refine Compare_chain (thn (P f s O H _ I h) λv A ⟨x,H1,W,r1,E⟩=>chain_link (thn (N f A O H1 _ W E) λu w ⟨y,H2,U,r2,D⟩ =>
  thn (F f w O H2 x y v u _ U r1 r2 D) λd t R=>?_)) G
 obtain⟨z,n,m,r3,k,e,l⟩:=R;subst e;cases r3;refine Yk ?_;cases k with
 |false=>exact ite_ff ⟨.bl L,n,m,rfl,l⟩
 |true=>exact ite_tt (chain_last (thn (M f t O n _ m l) λp q ⟨o,H4,S,B,C⟩=>BA f q O H4 y o u p Q S r2 B C))
def rL(N:OpR X (ND g) r)(BA:OpR X (ND i) j)(U:PE X a ta)(S:PE X b tb)(R:PE X c tc)(P:{`q3,lastMarks [g,i] [b,c]=L}):PT X (.Compare a [g,i] [b,c] pos) (pC (lD r j ta tb tc)):=by
 intro f s O H Q I h;refine isTrue_chain (thn (U f s O H _ I h) λv A ⟨x,H1,I1,r1,G⟩=>test_link (thn (S f A O H1 _ I1 G) λu w ⟨y,H2,I2,r2,F⟩ =>
  thn (N f w O H2 x y v u _ I2 r1 r2 F) λd t W=>?_)) P
 obtain⟨z,n,m,r3,k,e,l⟩:=W;subst e;cases r3;refine Yk ?_;cases k with
 |false =>
  obtain⟨k',e',M⟩:=l;cases e';exact ite_ff ⟨n,m,M⟩
 |true =>
  refine ite_tt (test_last (thn (R f t O n _ m l) λp q ⟨o,H4,I4,C,E⟩=>thn (BA f q O H4 y o u p _ I4 r2 C E) λd' s5 ⟨z2,H5,I5,B,k2,e2,D⟩=>?_));subst e2;cases B;exact Yk ⟨H5,I5,D⟩
def vU(K:Xe)(x:V)(H:Hp)(k:Bool):Prop :=
 match x with
 |.non=>k=L
 |.bl b=>k=b
 |.int i=>k=(i != 0)
 |.str y=>y.length<=FB/\k=((y.length:Int) != 0)
 |.byt y=>y.size<=FB/\k=((y.size:Int) != 0)
 |.ref p=>(∃d,Aj K H p d/\k=!d.isEmpty)\/(∃d,AR K H p d/\k=!d.isEmpty)\/∃e,H p=Y (.dK e)/\k=!e.isEmpty
 |_=>False
def lV{κ:Type}{e:List (κ×V)}{d:List (κ×FS)}(r:KV e d):(!d.isEmpty)=!e.isEmpty:=by
 cases r<;>rfl
def gK(r:aA d e):(!e.toArray.isEmpty)=!d.isEmpty:=by
 cases r<;>simp
def jg:(FB:Nat)<2 ^ 63:=by rw[Yp];decide
def vd:zx X (λx H Q=>∃k,vU X.K x H k/\Q k H):=by
 intro l s O H x v Q I f h;obtain⟨k,e,q⟩:=h;have C:=Yp;cases x with
 |non =>
  cases f;subst e;exact truthy_none ⟨H,I,q⟩
 |bl b =>
  cases f;subst e;exact Yk ⟨H,I,q⟩
 |int i =>
  obtain⟨t,rfl⟩:=f;subst e;exact PySem.P.truthy_int ⟨H,I,q⟩
 |str y =>
  obtain⟨t,rfl⟩:=f;obtain⟨z,d⟩:y.length<=FB/\k=((y.length:Int) != 0):=e;subst d;exact PySem.P.truthy_str (by lia) ⟨H,I.tok _,q⟩
 |byt y =>
  obtain⟨t,rfl⟩:=f;obtain⟨z,d⟩:y.size<=FB/\k=((y.size:Int) != 0):=e;subst d;exact PySem.W.truthy_bytes (by lia) ⟨H,I.tok _,q⟩
 |ref p =>
  cases f;have d:=e;rcases d with⟨u,g,d⟩ | ⟨u,g,d⟩ | ⟨n,g,d⟩
  ·subst d;obtain⟨B,r,pl,o⟩:=I.list g;have hlen:=r.length;exact wpAny_truthy_list pl.isList (by simp only[Zk];lia) ⟨H,I.tok _,by rw[gK r];exact q⟩
  ·subst d;obtain⟨B,r,pl,o⟩:=I.tuple g;have hlen:=r.length;exact truthy_tuple pl (by simp only[Zk];lia) ⟨H,I.tok _,by rw[gK r];exact q⟩
  ·subst d;obtain⟨o,A,j,r,m⟩:n.length<=FB/\(p==sysModules)=L/\∃j,KV n j/\s.heap.DictOf (bI X.prog X.w) p j:=I.td p _ g;have hlen:=Paired.length r;exact wpAny_truthy_dict A m (by lia) ⟨H,I.tok _,by rw[lV r];exact q⟩
 |_=>exact(e).elim
def o5(i:PE X a ta)(he:∀whole,isTrue a X.env whole=(do let v ← whole;standAt a.pos;holding [v] (truthy v))) :
  PT X a (λO H Q=>ta O H λx e=>∃k,vU X.K x e k/\Q k e):=by
 intro d s O H Q I h;exact isTrue_plain (thn (i d s O H _ I h) λv f ⟨x,l,j,r1,g⟩=>vd d f O l x v Q j r1 g) (he _)
def ly:OpR X (binaryOp .Add) (λx y H Q=>∃i j,x=.str i/\y=.str j/\i.length+j.length<=FB/\Q (.str (i++j)) H):=by
 intro d s O H x y v u Q I g f h;obtain⟨i,j,rfl,rfl,l,q⟩:=h;obtain⟨t,rfl⟩:=g;obtain⟨e,rfl⟩:=f;exact add_str (λe m=>⟨.str (i++j),H,I.tok _,⟨_,rfl⟩,q⟩) l
def vals1(r:aA [x] d):∃u,d=[u]/\RelV x u:=by
 cases r with
 |cons r1 r2=>cases r2;exact⟨_,rfl,r1⟩
def vals2{x:V}{e:Wk}(r:aA [x,y] e):∃u d,e=[u,d]/\RelV x u/\RelV y d:=by
 cases r with
 |cons r1 r2 =>
  cases r2 with
  |cons r3 f=>cases f;exact⟨_,_,rfl,r1,r3⟩
def jF:bV X (.type "str") (λd H Q=>∃i,d=[.int i]/\i.natAbs.log2<1920/\Q (.str (toString i)) H):=by
 intro e s O H d g Q I r h;obtain⟨i,rfl,f,q⟩:=h;obtain⟨u,rfl,t,rfl⟩:=vals1 r;exact PySem.P.str_of_int f ⟨.str _,H,I.tok _,⟨_,rfl⟩,q⟩
def xY(K:Xe)(x:V)(H:Hp)(n:Nat):Prop :=
 match x with
 |.str y=>y.length<=FB/\n=y.length
 |.byt y=>y.size<=FB/\n=y.size
 |.ref p=>(∃d,Aj K H p d/\n=d.length)\/∃d,AR K H p d/\n=d.length
 |_=>False
def qi:bV X (.builtin "len") (λf H Q=>∃x n,f=[x]/\xY X.K x H n/\Q (.int n) H):=by
 intro l s O H f w Q I r h;obtain⟨x,n,rfl,e,q⟩:=h;obtain⟨u,rfl,g⟩:=vals1 r;have z:=Yp;cases x with
 |str y =>
  obtain⟨t,rfl⟩:=g;obtain⟨o,d⟩:y.length<=FB/\n=y.length:=e;subst d;exact len_str (by lia) ⟨.int _,H,I.tok _,⟨_,rfl⟩,q⟩
 |byt y =>
  obtain⟨t,rfl⟩:=g;obtain⟨o,d⟩:y.size<=FB/\n=y.size:=e;subst d;exact PySem.W.len_bytes (by lia) ⟨.int _,H,I.tok _,⟨_,rfl⟩,q⟩
 |ref p =>
  cases g;have d:=e;rcases d with⟨f,j,d⟩ | ⟨f,j,d⟩
  ·subst d;obtain⟨v,i,pl,m⟩:=I.list j;have hlen:=i.length;exact Calls.call_len_list pl.isList (by simp only[Zk];lia) ⟨.int f.length,H,I.tok _,⟨_,by simp only[Zk];rw[hlen]⟩,q⟩
  ·subst d;obtain⟨v,i,pl,m⟩:=I.tuple j;have hlen:=i.length;exact len_tuple pl (by simp only[Zk];lia) ⟨.int f.length,H,I.tok _,⟨_,by simp only[Zk];rw[hlen]⟩,q⟩
 |_=>exact(e).elim
end
structure Ei(h:NF)(x dx C:FM)(mA:Wx):Prop where
 obj:h.get? x=some (PySem.W.instObj C dx)
 ns:h.Ns1 dx mA
 ne:dx≠x
def iT{h:NF}(n:h.Ns1 f d):∃b,h.get? f=Y b/\∀name,PySem.W.lookIn name b=Y (d name):=by
 obtain⟨o,m,r,i,hd,l,_,j⟩:=n;refine⟨o,i,λname=>?_⟩;have e:=j name;unfold nsFind findBy at e;rw[← Array.find?_toList]at e;unfold PySem.W.lookIn;rw[hd];dsimp only;split
 ·rename_i y q;rw[q]at e;exact congrArg Y e
 ·rename_i q;rw[q]at e;have a:m.toList.any (·.refKey)=L:=by
   rw[List.any_eq_false];intro y g;obtain⟨z,t,p⟩:=l y (Array.mem_toList_iff.mp g);simp[DictEntry.refKey,p]
  rw[Zl (by rw[a];exact Zp)];exact congrArg Y e
def Ei.look(I:Ei h x d C b):∃a,PySem.W.InstAt h x (PySem.W.instObj C d) C (Y a)/\∀name,PySem.W.lookIn name a=Y (b name) :=
 let ⟨a,e,f⟩:=iT I.ns
 ⟨a,⟨I.obj,rfl,rfl,e⟩,f⟩
section
variable{h:NF}
def tM(g:AD P w H h)(e:H a=Y (.ins C dx fs)):∃b,Ei h a dx C b/\(∀f,lY (fs.lookup f) (b f))/\PySem.Within b (fs.map (·.1))/\fs.length<=1000/\H dx=Y (.own a):=by
 obtain⟨d,z,ne,i,b,n,r,q⟩:=(g a _ e)
 exact⟨b,⟨i,n,ne⟩,r,q,z,d⟩
end
structure Iu(K:Xe)(C:FM):Prop where
 pg:PySem.W.plainGet K C Str.empty=true
 hd:PySem.W.hasDictIn K C=true
 po:PySem.W.plainOver K C=true
 sa:PySem.W.findIn K (.ref C) "__setattr__" = some (some (.builtin "object.__setattr__"))
def Iu.get{K:Xe}(c:Iu K C)(f:Str):PySem.W.plainGet K C f=J:=c.pg
section
def tV{f:Str}{s:AC}(j:NH e f d (eval e d)=eval e d)(h:GM (Da b w) A (eval e d) (λo i=>GM (Da b w) A (getAttr o f J) Q E i) E s):GM (Da b w) A (eval (.Attribute e f g) d) Q E s :=
 Attribute_any_ h (by rw[arm_eval_Attribute,j])
end
section
inductive AO(K:Xe)(H:Hp):V->FS->Prop where
 |non:AO K H .non (.type "NoneType")
 |bl (x:Bool):AO K H (.bl x) (.type "bool")
 |int (i:Int):AO K H (.int i) (.type "int")
 |str (x:Str):AO K H (.str x) (.type "str")
 |flt (x:UInt64):AO K H (.flt x) (.type "float")
 |lst {a:FM} {xs:List V} (e:H a=some (.lst xs)):AO K H (.ref a) (.type "list")
 |frz {a:FM} {o:Obj} {xs:List V} (e:H a=some (.frz o (.lst xs))):AO K H (.ref a) (.type "list")
 |tup {a:FM} {xs:List V} (e:H a=some (.tup xs)):AO K H (.ref a) (.type "tuple")
 |dK {a:FM} {jj:List (Key×V)} (e:H a=some (.dK jj)):AO K H (.ref a) (.type "dict")
 |dT {a:FM} {jj:List (List Key×V)} (e:H a=some (.dT jj)):AO K H (.ref a) (.type "dict")
 |ins {a C dx:FM} {fs:List (Str×V)} (e:H a=some (.ins C dx fs)) (cl:Iu K C) (ha:PySem.W.findIn K (.ref C) "__class__" = some (some (.builtin "object.__class__")))
   (hn:PySem.W.specialIn K (.builtin "object.__class__") "__get__" = some (some (.builtin "getset_descriptor.__get__"))) (IW:PySem.W.takesIn K (.builtin "object.__class__")=some true)
   (hm:PySem.W.mroIn K C (.type "object")=some true):AO K H (.ref a) (.ref C)
def nZ(I:Inv X pins O H s)(d:RelV x u)(m:AO X.K H x t)(e:PySem.W.kitOne X.K t c=Y b)(h:∀r,Q (.bool b) { s with toks:=r }) :
  GM (Da X.prog X.w) A (call (.builtin "isinstance") [u,c]) Q E s:=by
 cases m with
 |non=>cases (d);exact ZF PySem.W.kitx_none I.AE True.intro e (λz=>nomatch z) h
 |bl y=>cases (d);exact ZF PySem.W.kitx_bool I.AE True.intro e (λz=>nomatch z) h
 |int i=>obtain⟨t,q⟩:=(d);cases q;exact ZF PySem.W.kitx_int I.AE True.intro e (λz=>nomatch z) h
 |str y=>obtain⟨t,q⟩:=(d);cases q;exact ZF PySem.W.kitx_str I.AE True.intro e (λz=>nomatch z) h
 |flt y=>obtain⟨t,q⟩:=(d);cases q;exact ZF PySem.W.kitx_float I.AE True.intro e (λz=>nomatch z) h
 |@lst a l f =>
  cases (d);obtain⟨_,_,n,_,g⟩:=(I.td a _ f)
  exact ZF PySem.W.kitx_list I.AE ⟨_,g,rfl⟩ e (λz=>nomatch z) h
 |@frz a U l f =>
  cases (d);obtain⟨_,_,_,n,_,g⟩:=(I.td a _ f)
  exact ZF PySem.W.kitx_list I.AE ⟨_,g,rfl⟩ e (λz=>nomatch z) h
 |@tup a l f =>
  cases (d);obtain⟨_,_,_,_,p⟩:=(I.td a _ f)
  obtain⟨o,g,j,_⟩:=p;exact ZF PySem.W.kitx_tuple I.AE ⟨o,g,j⟩ e (λz=>nomatch z) h
 |@dK a v f =>
  cases (d);obtain⟨_,_,R,_,p⟩:=(I.td a _ f)
  obtain⟨o,G,M,g,j,_⟩:=p;exact ZF PySem.W.kitx_dict I.AE ⟨o,g,j.1⟩ e (λz=>nomatch z) h
 |@dT a v f =>
  cases (d);obtain⟨_,_,l,_,o,G,M,g,j,_⟩:=(I.td a _ f)
  exact ZF PySem.W.kitx_dict I.AE ⟨o,g,j.1⟩ e (λz=>nomatch z) h
 |@ins a C dx fs f cl F B P D =>
  cases (d);obtain⟨mA,N,_⟩:=tM I.td f;obtain⟨S,J,_⟩:=N.look;exact ZF (PySem.W.kitx_own (cl.get _) cl.hd F B P D) I.AE J e (λz=>nomatch z) h
end
structure Aa(k:Nat)(A:NB):Prop where
 hd:A.handled=none
 dp:A.depth+3*k+5<recursionLimit
 un:A.units+16*k+200<cLine
def Aa.mono(r:Aa k A)(h:j<=k):Aa j A:=⟨r.hd,by have:=r.dp;lia,by have:=r.un;lia⟩
theorem Aa.deeper(r:Aa (k+1) A)(a:Env):Aa k (A.deeper a) :=
 ⟨r.hd,by have:=r.dp;show A.depth+1+3*k+5<_;lia,by have:=r.un;show A.units+3+16*k+200<_;lia⟩
def lx{A:NB}:(A.under (.builtin "type.__call__" ⟨.ref C :: a,b⟩)).depth=A.depth+1:=by
 first | rfl | simp[Around.under,Code.weight,Code.isCreation,Code.isGuard,Code.isCaller,Code.frames,Code.isFrame,guardIds]
def lQ{A:NB}:(A.under (.builtin "type.__call__" ⟨.ref C :: a,b⟩)).units=A.units+1:=by
 first | rfl | simp[Around.under,Code.cUnits,Code.frames,Code.isFrame]
def Aa.make(r:Aa (k+1) A)(C:FM)(a:Wk)(b:List (Str×FS)):Aa k (A.under (.builtin "type.__call__" ⟨.ref C :: a,b⟩)) :=
 ⟨r.hd,by have:=r.dp;rw[lx];lia,by have:=r.un;rw[lQ];lia⟩
theorem Aa.depth(r:Aa k A):A.depth<recursionLimit:=by have:=r.dp;lia
theorem Aa.units(r:Aa k A):A.units+64<cLine:=by have:=r.un;lia
noncomputable def zq:TA:=λ_ H Q=>Q [] H
noncomputable def zh(ta:TE)(b:TA):TA:=λO H Q=>ta O H λx e=>b O e λa d=>Q (x :: a) d
section
def dq:PA X [] zq:=λ_ _ _ _ H Q I h=>Calls.spliced_nil ⟨[],H,I,.nil,h⟩
def bH(m:PE X e te)(l:PA X es t)(j:{`q1,K0 e es X}):PA X (e :: es) (zh te t):=by
 intro pos a s O H Q I h;rw[j];refine YM (thn (m a s O H _ I h) λu f b=>?_);obtain⟨x,q,o,r1,i⟩:=b;refine thn (l pos a f O q _ o i) λr v b=>?_;obtain⟨d,p,n,r2,g⟩:=b;exact⟨x :: d,p,n,.cons r1 r2,g⟩
def zp(t:TA):TE:=λO H Q=>t O H λa b=>a.length<=FB/\∀p,b p=Z->Q (.ref p) (upd b p (.tup a))
def zQ(t:TA):TE:=λO H Q=>t O H λa b=>a.length<=FB/\∀p,b p=Z->Q (.ref p) (upd b p (.lst a))
def qW{x1}(h:PA X es t):PE X (.Tuple es x1 pos) (zp t):=by
 intro a s O H Q I j;refine wpAny_Tuple_spliced (thn (h pos a s O H _ I j) λi d ⟨g,l,f,r,z,q⟩=>⟨by rw[← r.length];exact z,?_⟩);refine⟨.ref d.heap.objs.size,upd l d.heap.objs.size (.tup g),f.laid (λb u e=>zX _ e) (Zy _) ?_,rfl,q _ (f.td.fresh (Zy _))⟩;exact⟨z,i,r,Dk.of (Zr _ M) M,⟨_,Zr _ M,rfl,_,rfl⟩⟩
def wg(h:PA X es t):PE X (.List es pos) (zQ t):=by
 intro a s O H Q I j;refine wpAny_List_spliced (thn (h pos a s O H _ I j) λi d ⟨g,l,f,r,z,q⟩=>⟨by rw[← r.length];exact z,?_⟩);refine⟨.ref d.heap.objs.size,upd l d.heap.objs.size (.lst g),f.laid (λb u e=>zX _ e) (Zy _) ?_,rfl,q _ (f.td.fresh (Zy _))⟩;exact⟨z,i,0,r,Zr _ M⟩
end
abbrev Sp:=List V->Hp->VK->XK->Prop
abbrev Cr:=List Env->Hp->AC->XK->Yj
structure Env0(P:KM)(w:NG)(K:Xe)(mg:Wx)(base:NF)(A:NB)(outer:List Env)(s:AC)(H:Hp):Prop where
 frames:A.frames=some outer
 mod:Mod K mg base
 tb:∀b q,Tb base b q->H b=some (.tbl q)
 bs:∀b o,base.get? b=some o->s.heap.get? b=some o/\H b=none
 CH:base.objs.size<=s.heap.objs.size
 Ax:s.heap.FunFrames base outer
 De:∀b∈AN outer,H b=none
 td:AD P w H s.heap
 bare:AllBare s.gens
def CE(a:List Env)(P:KM)(w:NG)(H:Hp)(s:AC)(Q:VK)(u:FS)(b:AC):Prop :=
 ∃v d,b.os=s.os/\AllBare b.gens/\Un (AN a) [] H d s.heap b.heap/\AD P w d b.heap/\RelV v u/\Q v d
def CR(d:Cr)(a:List Env)(P:KM)(w:NG)(H:Hp)(s:AC)(Q:VK)(E:XK)(r:Result)(b:AC):Prop :=
 match r with
 |.ok (.ret u)=>CE a P w H s Q u b
 |.ok _=>False
 |.error e=>d a H s E e b
structure FnOk(P:KM)(w:NG)(K:Xe)(mg:Wx)(base:NF)(CX:Cr)(k:Nat)(f:FM)(fd:KF)(ps:List Str)(sp:Sp):Prop where
 len:∀vs H Q E,sp vs H Q E->vs.length=ps.length
 run:∀(A:NB)(outer:List Env)(s:AC)(H:Hp)(args:Args)(us:Wk)(vs:List V)(Q:VK)(E:XK),Aa k A->Env0 P w K mg base A outer s H->BindsTo s fd args (ps.zip us)->aA vs us->sp vs H Q E →
  codeAny (Da P w) A (.call (.ref f) args) (CR CX outer P w H s Q E) s
def FnOk.imp{K:Xe}(F:FnOk P w K g a l k f i e d)(h:∀b H Q E,j b H Q E->d b H Q E):FnOk P w K g a l k f i e j :=
 ⟨λb H Q E q=>F.len b H Q E (h _ _ _ _ q),λA outer s H args m b Q E p he r n o=>F.run A outer s H args m b Q E p he r n (h _ _ _ _ o)⟩
def Env0.make{K:Xe}(e:Env0 P w K d b A a s H)(C:FM)(f:Wk)(g:List (Str×FS)) :
  Env0 P w K d b (A.under (.builtin "type.__call__" ⟨.ref C :: f,g⟩)) a s H:=⟨by first | exact e.frames | (simpa[Around.under,Code.envs,Code.isFrame,pushEnvs] using e.frames),e.mod,e.tb,e.bs,e.CH,e.Ax,e.De,e.td,e.bare⟩
section
def Inv.Ea(I:Inv X pins O H s):Env0 X.prog X.w X.K X.mg X.base X.A X.stack s H :=
 ⟨I.ok.frames,I.ok.mod,I.tb,I.bs,Zu I.ok.CH I.sz,I.stack,I.AX,I.td,I.bare⟩
def Inv.after(I:Inv X pins O H s)(h:CE X.stack X.prog X.w H s Q u s'):EP X pins O Q u s':=by
 obtain⟨v,f,os,bare,un,td,r,q⟩:=h;obtain⟨a,g,d,t,e⟩:=s';obtain rfl:e=s.os:=os;exact⟨v,f,I.call (h':=a) (g':=g) (d':=d) (t':=t) (ch:=[]) un td bare (λb z=>absurd z (by simp)),r,q⟩
end
noncomputable def u4(b:Sp)(e:List V)(E:XK)(t:TA):TE:=λO H Q=>t O H λa d=>b (a++e) d Q E
def Binds(K:Xe)(d:KF)(b:List Str)(ds:Wk):Prop :=
 ∀(s:AC)(a:Wk),K.In s.heap->(a++ds).length=b.length->BindsTo s d ⟨a,[]⟩ (b.zip (a++ds))
def Binds.all{K:Xe}{b:List Str}(h:∀a:Wk,a.length=b.length->bindArgs e ⟨a,[]⟩=pure (b.zip a)):Binds K e b []:=λs a _ d=>by
 rw[ZL]at d ⊢;exact .of_eq (h a d)
def mf(d:Cr)(X:Cx)(E:XK):Prop:=∀(a:Xs)(O:St)(H:Hp)(s:AC)(e:FS)(b:AC),Inv X a O H s->d X.stack H s E e b->X.xe e b
section
def vZ{X:Cx}(F:FnOk X.prog X.w X.K X.mg X.base CX k f fd ps sp)(l:Aa k X.A)(q:Binds X.K fd ps ds)(n:aA Eb ds)(j:mf CX X E)(I:Inv X a O H s)(r:aA g b)(h:sp (g++Eb) H Q E):GM (Da X.prog X.w) X.A (call (.ref f) b) (EP X a O Q) X.xe s:=by
 have r2:=r.append n;refine Xz (YN (F.run X.A X.stack s H ⟨b,[]⟩ (b++ds) (g++Eb) Q E l I.Ea (q s b I.AE (by rw[← r2.length];exact F.len _ _ _ _ h)) r2 h) λr i d=>?_);cases r with
 |error e=>exact j a O H s e i I d
 |ok v =>
  cases v with
  |ret u=>exact I.after d
  |next=>exact False.elim d
  |brk=>exact False.elim d
  |cont=>exact False.elim d
def sA{X:Cx}(F:FnOk X.prog X.w X.K X.mg X.base CX k f fd ps sp)(g:Aa k X.A)(l:Gl X x)(i:X.mg x=Y (.ref f))(j:PySem.W.keepIn X.K (.ref f)=J)(u:Binds X.K fd ps ds)(n:aA Eb ds)(d:mf CX X E)(v:PA X (e :: es) t)(y:{`q0,K2 x})(he:{`q1,K0 e es X})(z:{`q1,K1 pos es X}) :
  PE X (.Call (.Name x p) (e :: es) [] pos) (u4 sp Eb E t):=by
 intro a s O H Q I h;refine XX (eL I l i ?_ y);refine PySem.W.callWith_K I.ok.mod.Gh j (thn (v pos a s O H _ I h) λD G ⟨B,M,b,r,q⟩=>⟨b.AE,?_⟩) he z;exact vZ F g u n d b r q
end
structure lp(N P:List Str)(sc:Scope):Prop where
 kind:sc.kind=.function
 co:sc.isCoroutine=false
 gen:sc.isGenerator=false
 nd:N.Nodup
 pre:N.take P.length=P
 par:∀x∈P,sc.names.lookup x=some .local\/sc.names.lookup x=some .cell
 DP:∀y∈sc.names,y.2 ≠ .free
theorem iH:∀{binds:List (Str×FS)}{m:Wx},(∀v,(x,v)∉binds)->bindL a binds m x=m x
 |[],_,_=>rfl
 | (n,v) :: r,m,h=>by
  unfold bindL;rw[iH λw hw=>h w (zV _ hw)];split
  ·have:x≠n:=by rintro rfl;exact h v zU
   simp[this]
  ·rfl
theorem jc:∀{binds:List (Str×FS)}{m:Wx},(∀v,(x,v)∉binds)->bindC a binds m x=m x
 |[],_,_=>rfl
 | (n,v) :: r,m,h=>by
  unfold bindC;rw[jc λw hw=>h w (zV _ hw)];split
  ·rfl
  ·have:x≠n:=by rintro rfl;exact h v zU
   simp[this]
theorem iV:∀{P:List Str}{b:Wk}{i:Nat}{m:Wx},P.Nodup->P[i]?=Y x->b[i]?=Y v->a x=Y .local →
  bindL a (P.zip b) m x=Y v
 |[],_,_,_,_,h,_,_=>by simp at h
 |_ :: _,[],_,_,_,_,h,_=>by simp at h
 |p :: P,w :: b,0,m,nd,e,d,f=>by
  simp at e d;subst e;subst d;show bindL a ((p,w) :: P.zip b) m p=_;unfold bindL;rw[iH λv g=>(ZM.mp nd).1 (List.of_mem_zip g).1,Zq f];simp
 |p :: P,w :: b,i+1,m,nd,e,d,f=>by
  unfold bindL;exact iV (i:=i) (ZM.mp nd).2 (by simpa using e) (by simpa using d) f
theorem iM:∀{P:List Str}{b:Wk}{i:Nat}{m:Wx},P.Nodup->P[i]?=Y x->b[i]?=Y v->a x≠Y .local →
  bindC a (P.zip b) m x=Y v
 |[],_,_,_,_,h,_,_=>by simp at h
 |_ :: _,[],_,_,_,_,h,_=>by simp at h
 |p :: P,w :: b,0,m,nd,e,d,f=>by
  simp at e d;subst e;subst d;show bindC a ((p,w) :: P.zip b) m p=_;unfold bindC;rw[jc λv g=>(ZM.mp nd).1 (List.of_mem_zip g).1,Zl f];simp
 |p :: P,w :: b,i+1,m,nd,e,d,f=>by
  unfold bindC;exact iM (i:=i) (ZM.mp nd).2 (by simpa using e) (by simpa using d) f
noncomputable def start(N:List Str)(a:List V):St:=a.map Y++List.replicate (N.length-a.length) Z
def fV(j:Cr)(P:KM)(w:NG)(K:Xe)(m:Wx)(h:NF)(N:List Str)(d:Str)(a:Scope)(f:FM)(g:FS)(A:NB)(b:List Env)(s:AC)(H:Hp)(E:XK):Cx where
 prog:=P
 w:=w
 K:=K
 mg:=m
 base:=h
 A:=A.deeper (envOfC d a s.heap.objs.size f g)
 N:=N
 s₀:=s
 H₀:=H
 env:=envOfC d a s.heap.objs.size f g
 outer:=b
 stack:=envOfC d a s.heap.objs.size f g :: b
 ex:=[]
 calm:=J
 fn:=λ_=>J
 pn:=[]
 xe:=λe l=>GM (Da P w) (A.deeper (envOfC d a s.heap.objs.size f g)) (leaving (envOfC d a s.heap.objs.size f g) e) (λ_ i=>j b H s E e i) (λn i=>j b H s E n i) l
def kl{a:Scope}(h:a.names.lookup x=Y .cell):∃c,(cellsFrom n a.names []).lookup x=Y c:=by
 exact Option.isSome_iff_exists.mp (PySem.W.cellsFrom_some a.names n [] (.inl h))
def oA{K:Xe}{A:NB}{C:List V}(B:lp N o d)(hd:A.handled=Z)(m:Env0 P w K O n A g s H)(hl:C.length=o.length)(r:aA C I)(x:InCallC s s.heap.objs.size (bindL (envOfC j d s.heap.objs.size f G).kindOf (o.zip I) λ_=>Z) (cellsFrom (s.heap.objs.size+1) d.names []) (bindC (envOfC j d s.heap.objs.size f G).kindOf (o.zip I) λ_=>Z) R) :
  Inv (fV X P w K O n N j d f G A g s H E) [] (start N C) H R:=by
 have Ar:o.length<=N.length:=by have:=congrArg List.length B.pre;rw[ZD]at this;lia
 obtain⟨F,tk,rfl,U⟩:=x.done;have Q:∀b:FM,b∉(fV X P w K O n N j d f G A g s H E).ex:=λb z=>absurd (show b∈([]) from z) (by simp);refine⟨⟨m.mod,B.kind,rfl,rfl,Zy _,λy z c F l=>?_,λy t=>?_,λy c _ h=>?_,λ_=>hd,Around.frames_deeper m.frames,.inr ⟨rfl,rfl⟩,λb z=>absurd z (Q b),m.tb,m.bs,m.CH,λb _ _=>Q b,λb z=>absurd z (Q b),m.Ax,m.De⟩,
  rfl,m.bare,Un.kept U,⟨_,x.toInCall.ns,λi y v F l h3=>?_⟩,λy c h=>⟨_,x.cell y c h⟩,m.td.fresh (Zy _),λy c h=>?_,λp D=>absurd (show p∈([]) from D) (by simp),m.td.kept U,?_⟩
 ·exact name_of_addr x.apart (YG F) (YG l)
 ·have t:=t;rcases t with t | t
  ·exact kl t
  ·exact absurd M (B.DP _ (YG t))
 ·exact Y5 (x.above y c (YG h))
 ·have hi:i<C.length:=by
   unfold start at l;by_cases hi:i<C.length
   ·exact hi
   ·rw[ZR (by simpa using hi)]at l;rw[YV]at l;split at l<;>cases l
  obtain⟨u,S,rv⟩:=r.get (by
   unfold start at l;rw[Yw (by simpa using hi),ZW]at l;cases e:C[i]? with
   |none=>rw[e]at l;cases l
   |some a=>rw[e]at l;cases l;rfl)
  have D:o[i]?=Y y:=by
   rw[← B.pre,Xa (by lia)];exact F
  have W:o.Nodup:=by rw[← B.pre];exact B.nd.sublist (List.take_sublist _ _)
  refine⟨u,rv,?_⟩;rcases B.par y (Z8 D) with k | k
  ·exact .inl ⟨k,iV W D S k⟩
  ·obtain⟨c,e⟩:=kl k;refine .inr ⟨.inl k,c,e,?_⟩;have q:=x.cell y c e;rw[iM W D S (by show d.names.lookup y≠_;rw[k];decide)]at q;exact q
 ·exact m.td.fresh (Y5 (x.above y c (YG h)))
 ·unfold start;show _=N.length;rw[zW,zT,YO];lia
def uS{CX:Cr}{P:KM}{w:NG}{K:Xe}{S:Wx}{i:NF}{k:Nat}{f:FM}{l d:Str}{g:Arguments}{h:List Stmt}{a:Scope}{dV kV C pm y ct oc:FS}{an od:Option FM}{CN:Array (Wj)}{N R:List Str}{G:Sp}(lk:K.lookup f=Y ⟨oc,od,.func (PySem.W.fnOf l d g h a dV kV C pm an y ct),CN⟩)(X:PySem.W.codeIn K y d=true)(D:lp N R a)(z:∀j H Q E,G j H Q E->j.length=R.length)(CC:∀(A:NB)(outer:List Env)(s:AC)(H:Hp)(j:List V)(Q:VK)(E:XK),Aa k (A.deeper (envOfC d a s.heap.objs.size f y))->G j H Q E →
   ∃t,PSs (fV CX P w K S i N d a f y A outer s H E) h t/\t { nx:=λ_ m=>Q .non m,rt:=Q } (start N j) H) :
  FnOk P w K S i CX (k+1) f (PySem.W.fnOf l d g h a dV kV C pm an y ct) R G:=by
 refine⟨z,λA outer s H args us j Q E U B hb r Co=>?_⟩;have hl:=z _ _ _ _ Co;have KX:=B.mod.Gh.keeps λb o e=>(B.bs b o e).1;refine codeAny_call_function U.depth (KX _ _ lk) M D.co D.gen M (PySem.W.codeRec_of KX X) (hb _ _ _ _ ?_);refine wpAny_newFunctionEnv_cells D.kind (λ⟨n,v⟩ hy=>by
  rcases D.par n (List.of_mem_zip hy).1 with q | q
  ·exact .inl q
  ·exact .inr ⟨q,PySem.W.cellsFrom_some _ _ _ (.inl q)⟩) λenv he s1 x=>?_
 subst he;refine⟨(B.mod.nolimit.keeps λb o e=>(B.bs b o e).1).keeps x.toInCall.keep,codeAny_func ?_⟩;obtain⟨t,ht,hq⟩:=CC A outer s H j Q E (U.deeper _) Co;refine ZP (ht [] s1 (start N j) H _ (oA D U.hd B hl r x) hq) (λfl I p=>?_) λe I p=>p;have fin:∀{F:St}{m:Hp}{v:V}{u:FS},Inv (fV CX P w K S i N d a f y A outer s H E) [] F m I->RelV v u->Q v m->CE outer P w H s Q u I :=
  λ{F m v u} J O q=>⟨v,m,J.os,J.bare,J.base,J.td,O,q⟩
 cases fl with
 |ret u =>
  obtain⟨v,F,m,J,O,q⟩:=p;exact fin J O q
 |next =>
  obtain⟨F,m,J,q⟩:=p;exact fin (v:=V.non) J M q
 |brk =>
  obtain⟨_,_,_,q⟩:=p;exact False.elim q
 |cont =>
  obtain⟨_,_,_,q⟩:=p;exact False.elim q
section
noncomputable def Iw(r:List V->Hp->VK->Prop)(t:TA):TE:=λO H Q=>t O H λa b=>r a b Q
def dW{X:Cx}{x:Str}{p pos:Pos}{es:List Expr}{t:TA}{id:String}{r:List V->Hp->VK->Prop}(n:bV X (.builtin id) r)(m:Gl X x)(l:X.mg x=Z)(i:bootBuiltins x=Y (.builtin id))(o:PA X (e :: es) t)(j:{`q0,x ≠ "__name__"})(v:{`q0,K2 x})(he:{`q1,K0 e es X})(w:{`q1,K1 pos es X}):PE X (.Call (.Name x p) (e :: es) [] pos) (Iw r t):=by
 intro a s O H Q I h;refine XX (gO I m l i ?_ j v);exact PyProof.Rows.callWith_builtin1 (thn (o pos a s O H _ I h) λd f ⟨b,u,q,r1,g⟩=>n a f O u b d Q q r1 g) he w
def i8(n:bV X (.type T) r)(m:Gl X x)(l:X.mg x=Z)(i:bootBuiltins x=Y (.type T))(o:PA X (e :: es) t)(j:{`q0,x ≠ "__name__"})(v:{`q0,K2 x})(he:{`q1,K0 e es X})(w:{`q1,K1 pos es X}):PE X (.Call (.Name x p) (e :: es) [] pos) (Iw r t):=by
 intro a s O H Q I h;refine XX (gO I m l i ?_ j v);exact Xk (thn (o pos a s O H _ I h) λd f ⟨b,u,q,r1,g⟩=>n a f O u b d Q q r1 g) he w
end
end L2
namespace HT
open PySem PyProof.Rows
section
noncomputable def Av(n d:Nat):Option Int->Nat
 |none=>d
 |some v=>if v<0 then (v+(n:Int)).toNat else min v.toNat n
end
end HT
namespace L2
open PySem PySem.Spec PyProof.Rows
abbrev TO:=St->Hp->(Option Int->Hp->Prop)->Prop
def PO(X:Cx)(e:Option Expr)(t:TO):Prop :=
 ∀(a:Xs)(s:AC)(O:St)(H:Hp)(Q:Option Int->Hp->Prop),Inv X a O H s->t O H Q →
  GM (Da X.prog X.w) X.A (evalPart e X.env) (λu d=>∃o b,Inv X a O b d/\IsPart u o/\Q o b) X.xe s
noncomputable def sU:TO:=λ_ H Q=>Q Z H
noncomputable def xC(t:TE):TO:=λO H Q=>t O H λx a=>∃i,x=.int i/\Q (Y i) a
section
variable{lo:Option Expr}
def ub:PO X Z sU:=by
 intro a s O H Q I h;rw[evalPart_none];exact z8 ⟨Z,H,I,.none,h⟩
def ud(h:PE X e te):PO X (Y e) (xC te):=by
 intro a s O H Q I hw;rw[evalPart_some];refine thn (h a s O H _ I hw) λu j d=>?_;obtain⟨x,g,f,r1,b⟩:=d;obtain⟨i,rfl,q⟩:=b;obtain⟨t,rfl⟩:=r1;exact⟨Y i,g,f,.int i t,q⟩
def DE(X:Cx)(r:V->Option Int->Option Int->Hp->VK->Prop):Prop :=
 ∀(a:Xs)(s:AC)(O:St)(H:Hp)(x:V)(v d b:FS)(lo hi:Option Int)(f:FM)(Q:VK),Inv X a O H s->RelV x v->s.heap.IsSliceOf f d b .none->IsPart d lo->IsPart b hi->r x lo hi H Q →
  ∃T id,typeLookup (.type T) "__getitem__" = pure (Y (.builtin id))/\s.TypeIs v T/\GM (Da X.prog X.w) X.A (getItem v (.ref f)) (EP X a O Q) X.xe s
def DE.or(h:DE X r)(l:DE X i):DE X (λx lo hi H Q=>r x lo hi H Q\/i x lo hi H Q):=by
 intro a s O H x v d b lo hi f Q I g j pl pu q;rcases q with q | q
 ·exact h a s O H x v d b lo hi f Q I g j pl pu q
 ·exact l a s O H x v d b lo hi f Q I g j pl pu q
noncomputable def JV(r:V->Option Int->Option Int->Hp->VK->Prop)(d:TE)(a b:TO):TE:=λO H Q=>d O H λx h=>a O h λl g=>b O g λu f=>r x l u f Q
def rO(y:DE X r)(he:PE X e te)(z:PO X lo tl)(t:PO X hi th):PE X (.Subscript e (.Slice lo hi Z p2) pos) (JV r te tl th):=by
 intro a s O H Q I h;refine Subscript_ (thn (he a s O H _ I h) λv m f=>?_);obtain⟨x,M,E,r1,p⟩:=f;refine wpAny_Slice (thn (z a m O M _ E p) λi j ⟨l,G,D,pl,o⟩=>thn (t a j O G _ D o) λg d f=>?_);obtain⟨u,F,C,pu,n⟩:=f;rw[evalPart_none];refine z8 ?_;obtain⟨T,id,B,w,A⟩:=y a { d with heap:=d.heap.push { cls:=.type "slice",data:=.fields #[i,g,.none] } } O F x v i g l u d.heap.objs.size Q (C.kept (t':=d.toks) λb N q=>zX _ q) r1 (Heap.IsSliceOf.new ..) pl pu n;exact tail_any w B A (by with_unfolding_all rfl)
def rQ(a:List V)(b d:Option Int):List V:=(a.drop (HT.Av a.length 0 b)).take (HT.Av a.length a.length d-HT.Av a.length 0 b)
def lu(a:List V)(b d:Option Int):(rQ a b d).length<=a.length:=by
 unfold rQ;rw[ZD,ZX];lia
end
noncomputable def DR(n:Nat)(i:Int):Option Nat:=if 0<=i then (if i<n then Y i.toNat else Z) else if -(n:Int)<=i then Y (i+n).toNat else Z
def Eh{α:Type}(a:List α)(i:Int):Option α:=(DR a.length i).bind λj=>a[j]?
def nE{i:Int}(h:DR n i=Y j):seqIndex? i n=Y j/\j<n/\-(n:Int)<=i/\i<n:=by
 unfold DR at h;by_cases b:0<=i
 ·rw[Zq b]at h;by_cases a:i<n
  ·rw[Zq a]at h;exact⟨by rw[seqIndex_of b a,(Zc h)],by lia,by lia,a⟩
  ·rw[Zl a]at h;cases h
 ·rw[Zl b]at h;by_cases a:-(n:Int)<=i
  ·rw[Zq a]at h;exact⟨by rw[seqIndex_neg (by lia) a,(Zc h)],by lia,a,by lia⟩
  ·rw[Zl a]at h;cases h
def jv{α:Type}{a:List α}{i:Int}{v:α}(h:Eh a i=Y v):∃j,seqIndex? i a.length=Y j/\a[j]?=Y v/\j<a.length/\-(a.length:Int)<=i/\i<a.length:=by
 unfold Eh at h;cases e:DR a.length i with
 |none=>rw[e]at h;cases h
 |some j =>
  rw[e]at h;obtain⟨g,f,d,b⟩:=nE e;exact⟨j,g,h,f,d,b⟩
noncomputable def mY(b:Expr):Prop:=∀o i,subscripted b L o i=operate [o,i] (getItem o i)
def Dl(X:Cx)(r:R2):Prop :=
 ∀(value slice:Expr)(a:Xs)(s:AC)(O:St)(H:Hp)(x y:V)(v u:FS)(Q:VK),Inv X a O H s->RelV x v->RelV y u->r x y H Q →
  subscripted slice L v u=operate [v,u] (getItem v u)->GM (Da X.prog X.w) X.A (subscriptTail value slice v u) (EP X a O Q) X.xe s
def FP(X:Cx)(e:String)(r:V->List V->Hp->VK->Prop):Prop :=
 ∀(a:Xs)(s:AC)(O:St)(H:Hp)(x:V)(b:List V)(v:FS)(d:Wk)(Q:VK),Inv X a O H s->RelV x v->aA b d->r x b H Q →
  GM (Da X.prog X.w) X.A (call (.builtin e) (v :: d)) (EP X a O Q) X.xe s
section
def Dl.or(h:Dl X r)(j:Dl X g):Dl X (λx y H Q=>r x y H Q\/g x y H Q):=by
 intro value slice d s O H x y v u Q I f e q i;rcases q with q | q
 ·exact h value slice d s O H x y v u Q I f e q i
 ·exact j value slice d s O H x y v u Q I f e q i
def yb(j:Dl X r)(m:PE X a ta)(l:PE X b tb)(i:mY b):PE X (.Subscript a b pos) (EM r ta tb):=by
 intro d s O H Q I h;exact Subscript_ (xj m l I h λv u e x y o n g f q=>j a b d e O o x y v u Q n g f q (i _ _))
def yB(K:Xe):R2:=λx y H Q=>∃p d i v,x=.ref p/\y=.int i/\Aj K H p d/\Eh d i=Y v/\Q v H
def yG(K:Xe):R2:=λx y H Q=>∃p d i v,x=.ref p/\y=.int i/\AR K H p d/\Eh d i=Y v/\Q v H
def zd:R2:=λx y H Q=>∃z i c,x=.str z/\y=.int i/\z.length<=FB/\Eh z.cps.toList i=Y c/\Q (.str ⟨#[c]⟩) H
def uA:Dl X (yB X.K):=by
 intro value slice d s O H x y v u Q I o n h g;refine L2.aw λU A=>?_;obtain⟨p,N,i,z,rfl,rfl,B,he,q⟩:=h;cases o;obtain⟨t,rfl⟩:=n;obtain⟨G,r,pl,P⟩:=I.list B;obtain⟨j,e,F,S,E,D⟩:=jv he;obtain⟨w,m,M⟩:=r.get F;refine A ?_;have C:=r.length;have R:=jg;have fin:EP X d O Q w s:=⟨z,H,I,M,q⟩
 by_cases l:0<=i
 ·have f:i.toNat=j:=by
   rw[seqIndex_of l D]at e;exact Zc e
  exact item_listR pl.isList l (by lia) (by rw[f];simpa using m) fin g
 ·have f:(i+(G.toArray.size:Int)).toNat=j:=by
   rw[seqIndex_neg (by lia) E]at e;rw[Zk,← C];exact Zc e
  exact subscriptTail_builtinR (x:=w) pl.isList.typeIs slot_list_getitem.lookup
   (wpAny_getItem_list_neg pl.isList (by lia) (by rw[Zk]<;>lia) (by lia) (by rw[f];simpa using m) ⟨rfl,fin⟩) g
def wG:Dl X (yG X.K):=by
 intro value slice d s O H x y v u Q I f e h l;refine L2.aw λP g=>?_;obtain⟨p,C,i,z,rfl,rfl,m,he,q⟩:=h;cases f;obtain⟨t,rfl⟩:=e;obtain⟨N,r,pl,D⟩:=I.tuple m;obtain⟨j,o,n,M,G,F⟩:=jv he;obtain⟨w,A,B⟩:=r.get n;refine g ?_;have E:=jg;exact subscriptTail_builtinR (x:=w) pl.typeIs slot_tuple_getitem.lookup
  (getItem_tuple (j:=j) pl (by lia) (by lia) (by rw[Zk,← r.length];exact o) (by simpa using A) ⟨rfl,(⟨z,H,I,B,q⟩)⟩) l
def wZ:Dl X zd:=by
 intro value slice d s O H x y v u Q I g f h l;obtain⟨z,i,c,rfl,rfl,w,he,q⟩:=h;obtain⟨t,rfl⟩:=g;obtain⟨r,rfl⟩:=f;obtain⟨j,e,p,B,o,n⟩:=jv he;have m:z.cps.toList.length=z.length:=by simp[Str.length]
 rw[m]at e o n;have A:=jg;exact tail_any (Xm s z t) slot_str_getitem.lookup (getItem_str (c:=c) (by
  rw[(Zg (by lia)),(Zg (by lia)),Bool.or_false]) (by rw[e];simpa using p) ⟨.str ⟨#[c]⟩,H,I.tok _,⟨_,rfl⟩,q⟩) l
def IG(K:Xe):R2:=λx y H Q=>yB K x y H Q\/yG K x y H Q\/zd x y H Q
def wH:Dl X (IG X.K):=uA.or (wG.or wZ)
def lO(d:Wk)(n j:Nat)(u:FS):Obj.mapSeq (·.setIfInBounds j u) { cls:=.type "list",data:=.seq d.toArray n }={ cls:=.type "list",data:=.seq (d.set j u).toArray n }:=by
 simp[Obj.mapSeq]
theorem Inv.lst{H:Hp}(I:Inv X d O H s)(h:H p=Y (.lst g)) :
  ∃(f:Wk)(n:Nat),aA g f/\s.heap.get? p=Y { cls:=.type "list",data:=.seq f.toArray n }/\g.length<=sizeLine:=by
 obtain⟨z,f,n,r,e⟩:=I.td p _ h;exact⟨f,n,r,e,z⟩
def Inv.DQ{m g:Wk}(I:Inv X d O H s)(h:H p=Y (.lst o))(w:s.heap.get? p=Y { cls:=.type "list",data:=.seq m.toArray n })(l:f { cls:=.type "list",data:=.seq m.toArray n }={ cls:=.type "list",data:=.seq g.toArray j })(r:aA i g)(v:i.length<=FB)(t:Nat) :
  Inv X d O (upd H p (.lst i)) { s with heap:=s.heap.update p f,toks:=t }:=by
 have e:(s.heap.update p f).get? p=Y { cls:=.type "list",data:=.seq g.toArray j }:=by
  rw[Za f w (by rw[l]<;>rfl),l]
 refine I.write (x:=p) (e:=p) (by rw[h];trivial) (.inl M) (λb u y q=>(Ze _ _ (Yq y)).trans q) ⟨_,e⟩ ?_;exact⟨v,g,j,r,e⟩
def uY:V->V->V->Hp->(Hp->Prop)->Prop:=λo i v H Q=>∃p d k j,o=.ref p/\i=.int k/\H p=Y (.lst d)/\DR d.length k=Y j/\Q (upd H p (.lst (d.set j v)))
def set_list:wK X uY:=by
 intro l s O H o i v N P u Q I C D B h;refine L2.aw λU E=>?_;obtain⟨p,M,k,j,rfl,rfl,m,G,q⟩:=h;cases C;obtain⟨t,rfl⟩:=D;obtain⟨z,n,r,e,F⟩:=I.lst m;obtain⟨d,S,x,w⟩:=nE G;refine E ?_;have f:=r.length;have R:=jg;have A :=
  I.DQ m e (lO z n j u) (r.set B j) (by rw[Yc];exact F) s.toks
 by_cases y:0<=k
 ·have g:k.toNat=j:=by
   rw[seqIndex_of y w]at d;exact Zc d
  exact PySem.W.ki_setAt e y (by lia) (by rw[Zk,← f];exact w) (by rw[g];exact⟨_,A,q⟩)
 ·have g:(k+(z.toArray.size:Int)).toNat=j:=by
   rw[seqIndex_neg (by lia) x]at d;rw[Zk,← f];exact Zc d
  exact PySem.W.ki_setBack e (by lia) (by rw[Zk,← f];exact x) (by lia) (by rw[g];exact⟨_,A,q⟩)
def Cw(a:Int)(n:Nat):max 0 (min a (n:Int))=((min a.toNat n:Nat):Int):=by
 cases a with
 |ofNat k =>
  show max 0 (min (k:Int) (n:Int))=((min k n:Nat):Int);rcases Nat.le_total k n with h | h
  ·rw[Int.min_eq_left (Int.ofNat_le.mpr h),ZE h];exact Int.max_eq_right (YA _)
  ·rw[Int.min_eq_right (Int.ofNat_le.mpr h),Xw h];exact Int.max_eq_right (YA _)
 |negSucc k =>
  rw[Int.min_eq_left (Int.le_trans (Int.le_of_lt (Int.negSucc_lt_zero k)) (YA n)),Int.max_eq_left (Int.le_of_lt (Int.negSucc_lt_zero k))];show (0:Int)=((min 0 n:Nat):Int);rw[Nat.zero_min];rfl
def jP(d e:Option Int)(n:Nat):(sliceBounds d e Z n).1=((HT.Av n 0 d:Nat):Int)/\(sliceBounds d e Z n).2.1=((HT.Av n n e:Nat):Int)/\(sliceBounds d e Z n).2.2=1:=by
 refine⟨?_,?_,rfl⟩
 ·cases d with
  |none=>simp[sliceBounds,HT.Av]
  |some i =>
   simp only[sliceBounds,HT.Av,Option.getD_none,show (1:Int) > 0 by decide,if_true];by_cases h:i<0
   ·simp only[h,if_true];rw[Cw,ZE (by omega)]
   ·simp only[h,if_false];exact Cw i n
 ·cases e with
  |none=>simp[sliceBounds,HT.Av]
  |some i =>
   simp only[sliceBounds,HT.Av,Option.getD_none,show (1:Int) > 0 by decide,if_true];by_cases h:i<0
   ·simp only[h,if_true];rw[Cw,ZE (by omega)]
   ·simp only[h,if_false];exact Cw i n
def iC(d:Wk)(e f:Option Int):slicePick d.toArray e f Z=((d.drop (HT.Av d.length 0 e)).take (HT.Av d.length d.length f-HT.Av d.length 0 e)).toArray:=by
 obtain⟨i,h,g⟩:=jP e f d.toArray.size;unfold slicePick;rw[i,h,g];simp only[sliceRange_one,pick_run,Zk]<;>rfl
def x9(K:Xe):V->Option Int->Option Int->Hp->VK->Prop:=λx lo hi H Q=>∃a d,x=.ref a/\Aj K H a d/\∀p,H p=Z->Q (.ref p) (upd H p (.lst (rQ d lo hi)))
def rY:DE X (x9 X.K):=by
 intro e s O H x v n m lo hi o Q I g l pl pu h;obtain⟨a,d,rfl,j,q⟩:=h;cases g;obtain⟨t,r,f,i⟩:=I.list j;have hlen:=r.length;refine⟨"list",_,slot_list_getitem.lookup,f.isList.typeIs,?_⟩;refine wpAny_getItem_list_slice f.isList l pl pu .none (by simp) ?_ (by rw[Zk]<;>lia);rw[iC,← hlen];refine⟨.ref s.heap.objs.size,_,I.laid (λb p q=>zX _ q) (Zy _) ?_,rfl,q _ (I.td.fresh (Zy _))⟩;exact⟨Zu (lu d lo hi) i,_,0,(r.drop (HT.Av d.length 0 lo)).take (HT.Av d.length d.length hi-HT.Av d.length 0 lo),Zr _ M⟩
def bV.or(h:bV X f r)(j:bV X f i):bV X f (λe H Q=>r e H Q\/i e H Q):=by
 intro d s O H e g Q I rs q;rcases q with q | q
 ·exact h d s O H e g Q I rs q
 ·exact j d s O H e g Q I rs q
def js:bV X (.type "list") (λz H Q=>∃p g,z=[.ref p]/\(Aj X.K H p g\/AR X.K H p g)/\∀l,H l=Z->Q (.ref l) (upd H l (.lst g))):=by
 intro m s O H z C Q I r h;obtain⟨p,g,rfl,v,q⟩:=h;obtain⟨u,rfl,B⟩:=vals1 r;cases B;have fin:∀(f:Wk),aA g f->g.length<=FB->∀(d:NF)(j:Nat),(∀b A,s.heap.get? b=Y A->d.get? b=Y A) →
   d.get? s.heap.objs.size=Y { cls:=.type "list",dict:=Z,data:=.seq f.toArray j,slots:=#[] }->EP X m O Q (.ref s.heap.objs.size) { s with heap:=d }:=λf i t d j kp e =>
  ⟨.ref s.heap.objs.size,_,I.laid kp (Zy _) (show bG X.prog X.w _ d _ (.lst g) from⟨t,f,j,i,e⟩),rfl,q _ (I.td.fresh (Zy _))⟩
 rcases v with v | v
 ·obtain⟨f,i,pl,t⟩:=I.list v;have hlen:=i.length;obtain⟨o,x,y,n,hd⟩:=pl.isList;exact call_list_seq p (.inl M) x y hd (λd j kp e=>fin f i t d j kp e) (by simp only[Zk]<;>lia)
 ·obtain⟨f,i,pl,t⟩:=I.tuple v;have hlen:=i.length;obtain⟨o,x,y,n,hd⟩:=pl;exact call_list_seq p (.inr M) x y hd (λd j kp e=>fin f i t d j kp e) (by simp only[Zk]<;>lia)
def iA:bV X (.type "tuple") (λi H Q=>∃p d,i=[.ref p]/\((Aj X.K H p d/\∀l,H l=Z->Q (.ref l) (upd H l (.tup d)))\/(AR X.K H p d/\Q (.ref p) H))):=by
 intro j s O H i y Q I r h;obtain⟨p,d,rfl,h⟩:=h;obtain⟨u,rfl,v⟩:=vals1 r;cases v;rcases h with⟨g,q⟩ | ⟨g,q⟩
 ·obtain⟨n,f,pl,m⟩:=I.list g;have hlen:=f.length;refine call_tuple_list pl.isList (λx kp=>?_) (by simp only[Zk]<;>lia);have t:=I.kept (t':=s.toks) kp;exact⟨.ref x.objs.size,_,(t.laid (t':=s.toks) (λb o e=>zX _ e) (Zy _) (show bG X.prog X.w _ _ _ (.tup d) from⟨m,n,f,Dk.new _ _,IsTup.new _ _⟩)),rfl,q _ (t.td.fresh (Zy _))⟩
 ·obtain⟨n,f,pl,m⟩:=I.tuple g;exact call_tuple_same pl ⟨.ref p,H,I,rfl,q⟩
def DG(K:Xe)(T:String)(x:V)(H:Hp):Prop:=match x with
 |.str _=>T = "str"
 |.int _=>T = "int"
 |.ref p=>(T = "list" ∧ ∃e,Aj K H p e)\/(T = "tuple" ∧ ∃o,K.lookup p=Y o/\o.cls=.type "tuple" ∧ o.dict=Z) ∨
   (T = "dict" ∧ ((∃d,H p=Y (.dK d))\/∃d,H p=Y (.dT d)))\/(T = "set" ∧ ∃f n,H p=Y (.set f n))
 |_=>False
def vQ(I:Inv X f O H s)(r:RelV x v)(g:DG X.K T x H) :
  s.TypeIs v T/\∀a,v=.ref a->∃h,s.heap.get? a=Y h/\h.dict=Z:=by
 cases x with
 |str z =>
  obtain⟨t,rfl⟩:=r;cases (g);exact⟨Xm s z t,λ_ e=>nomatch e⟩
 |int i =>
  obtain⟨t,rfl⟩:=r;cases (g);exact⟨typeIs_int s i t,λ_ e=>nomatch e⟩
 |ref p =>
  cases r;rcases g with⟨rfl,q,l⟩ | ⟨rfl,o,d,m,hd⟩ | ⟨rfl,d⟩ | ⟨rfl,w,n,d⟩
  ·obtain⟨u,_,pl,_⟩:=I.list l;refine⟨pl.isList.typeIs,λa e=>?_⟩;cases e;obtain⟨o,n,e,c,hd,_⟩:=pl;exact⟨o,e,hd⟩
  ·refine⟨⟨o,I.AE p o d,m⟩,λa e=>?_⟩;cases e;exact⟨o,I.AE _ o d,hd⟩
  ·have z:∃o,s.heap.get? p=Y o/\o.ExactDict:=by
    rcases d with⟨j,d⟩ | ⟨j,d⟩
    ·obtain⟨_,_,_,_,o,_,_,e,ex,_⟩:=I.td p _ d;exact⟨o,e,ex⟩
    ·obtain⟨_,_,_,_,o,_,_,e,ex,_⟩:=I.td p _ d;exact⟨o,e,ex⟩
   obtain⟨o,e,ex⟩:=z;refine⟨⟨o,e,ex.1⟩,λa e2=>?_⟩;cases e2;exact⟨o,e,ex.2.1⟩
  ·obtain⟨o,_,_,_,e,ex,_⟩:=I.td p _ d;refine⟨⟨o,e,ex.1⟩,λa e2=>?_⟩;cases e2;exact⟨o,e,ex.2.1⟩
 |_=>exact False.elim g
def J0(K:Xe)(T:String)(r:V->List V->Hp->VK->Prop)(f:TE)(t:TA):TE:=λO H Q=>f O H λx d=>DG K T x d/\t O d λe g=>r x e g Q
def uU{X:Cx}{o:Expr}{es:List Expr}{to:TE}{t:TA}{name:Str}{apos cv:Pos}{T id:String}{r:V->List V->Hp->VK->Prop}(w:PlainAttrs T)(f:Slot T name id)(N:typeOf (.builtin id)=pure (.type "method_descriptor"))(A:FP X id r)(z:PE X o to)(B:PA X (e :: es) t)(P:{`q1,NH o name X.env (eval o X.env)=eval o X.env})(U:{`q1,((backTo cv (KB (e :: es) X.env)).all (λx=>!x.1)&&(backToKw cv (NC [] X.env)).all (λx=>x.1.isSome)
   && decide ((e :: es).length+([]:List Keyword).length+(if ([]:List Keyword).isEmpty then 0 else 1)<30))=J})(R:{`q1,(apos.endLine==cv.line)=J})(y:{`q1,K0 e es X})(S:{`q1,K1 cv es X}) :
  PE X (.Call (.Attribute o name apos) (e :: es) [] cv) (J0 X.K T r to t):=by
 intro d s O H Q I h;refine wpAny_Call_method_late P U R M (thn (z d s O H _ I h) λv p g=>?_);obtain⟨x,G,j,r1,ty,u⟩:=g;obtain⟨D,C⟩:=vQ j r1 ty;refine⟨T,id,w,f,N,D,C,?_⟩;have i:=B cv d p O G _ j u;rw[y]at i ⊢;refine Calls.callWith_builtin (by show (L||(backTo cv (KB es X.env)).any (·.1))=L;rw[S]<;>rfl) (Wr ?_);refine thn i λm n g=>?_;obtain⟨l,F,E,r2,q⟩:=g;exact A d n O F x l v m Q E r1 r2 q
end
def Ni(X:Cx)(e:String)(r:V->List V->Hp->VK->Prop):Prop :=
 ∀(a:Xs)(s:AC)(O:St)(H:Hp)(x:V)(b:List V)(v:FS)(d:Wk)(Q:VK),Inv X a O H s->RelV x v->aA b d->r x b H Q →
  GM (Da X.prog X.w) X.A (call (.builtin e) (v :: d)) (EP X a O Q) X.xe s
def aA.nil_inv(h:aA [] a):a=[]:=by
 cases h;rfl
def aA.cons_inv(h:aA (x :: a) d):∃u b,d=u :: b/\RelV x u/\aA a b:=by
 cases h with
 |cons r t=>exact⟨_,_,rfl,r,t⟩
def aA.one(h:aA [x] a):∃u,a=[u]/\RelV x u:=by
 obtain⟨u,b,rfl,r,t⟩:=h.cons_inv;rw[t.nil_inv];exact⟨_,rfl,r⟩
theorem aA.rep(h:aA a b):∀k:Nat,aA (List.replicate k a).flatten (List.replicate k b).flatten
 |0=>.nil
 |k+1=>by
  rw[YY,YY,Zn,Zn];exact aA.append h (aA.rep h k)
theorem foldl_rep(a:Wk):∀(k:Nat)(acc:Wk),
  List.foldl (λb x2=>b++x2) acc.toArray (List.replicate k a.toArray)=(acc++(List.replicate k a).flatten).toArray
 |0,acc=>by simp
 |k+1,acc=>by
  have e:acc.toArray++a.toArray=(acc++a).toArray:=by simp
  have e2:(acc++a)++(List.replicate k a).flatten=acc++(List.replicate (k+1) a).flatten:=by
   rw[YY,Zn,ZY]
  rw[← e2,← foldl_rep a k (acc++a),← e,YY,XG]
section
def Inv.Hd{d a:Wk}(I:Inv X pins O H s)(p:H l=Y (.lst xs))(e:s.heap.get? l=Y { cls:=.type "list",data:=.seq d.toArray n })(m:f d.toArray=a.toArray)(i:aA ys a)(h:ys.length<=FB) :
  Inv X pins O (upd H l (.lst ys)) { s with heap:=s.heap.update l (Obj.mapSeq f),toks:=g }:=by
 have q:=PySem.IsL.update e f;rw[m]at q;refine I.write (x:=l) (e:=l) (by rw[p];exact trivial) (.inl M) (λr u o j=>(Ze s.heap (Obj.mapSeq f) (Yq o)).trans j) ⟨_,q⟩ ?_;exact⟨h,a,_,i,q⟩
def Inv.E5(I:Inv X pins O H s)(f:aA ys a)(e:ys.length<=FB) :
  Inv X pins O (upd H s.heap.objs.size (.lst ys)) { s with heap:=s.heap.push { cls:=.type "list",data:=.seq a.toArray },toks:=d } :=
 I.laid (λ_ _ q=>zX _ q) (Zy _) ⟨e,a,0,f,Zr _ M⟩
theorem Inv.fresh(I:Inv X pins O H s):H s.heap.objs.size=Z:=I.td.fresh (Zy _)
def Inv.C3(I:Inv X pins O H s)(d:H l=Y (.lst xs)):xs.length<=FB/\∃(a:Wk)(n:Nat),aA xs a/\xs.length=a.length/\s.heap.get? l=Y { cls:=.type "list",data:=.seq a.toArray n }:=by
 obtain⟨z,a,n,r,e⟩:=I.td l _ d;exact⟨z,a,n,r,r.length,e⟩
def qJ(h:n<=FB):Builtin.List.listTooLong n=L:=by
 exact Zg (by exact Nat.not_lt_of_le h)
end
section
def m8:V->List V->Hp->VK->Prop:=λx b H Q=>∃l a y,x=.ref l/\b=[y]/\H l=Y (.lst a)/\a.length<FB/\Q .non (upd H l (.lst (a++[y])))
def iZ:Ni X "list.append" m8:=by
 intro a s O H x p v t Q I d f h;refine L2.aw λA i=>?_;obtain⟨l,o,y,rfl,rfl,b,j,q⟩:=h;cases d;obtain⟨u,rfl,g⟩:=f.one;obtain⟨z,m,n,r,w,e⟩:=I.C3 b;refine i ?_;refine X2 F.slot_list_append ⟨_,e,rfl⟩ F.entry_list_append (F.args_list_append_2 _ _) (PySem.list_append l m.toArray n u (by rw[Zk];lia)) ⟨e,?_⟩;refine⟨.non,_,I.Hd b e (by simp) (r.append (.cons g .nil)) ?_,rfl,q⟩;rw[zW,Z5];exact Ww j
def yq:R2:=λx y H Q=>∃l b d a,x=.ref l/\y=.ref b/\H l=Y (.lst d)/\H b=Y (.lst a)/\d.length+a.length<=FB/\∀p,H p=Z->Q (.ref p) (upd H p (.lst (d++a)))
def vF:OpR X (binaryOp .Add) yq:=by
 intro a s O H x y v u Q I i g h;refine L2.aw λE j=>?_;obtain⟨l,b,A,t,rfl,rfl,m,o,C,q⟩:=h;cases i;cases g;obtain⟨z,d,n,r,D,e⟩:=I.C3 m;obtain⟨w,f,B,r2,F,e2⟩:=I.C3 o;refine j ?_;refine PySem.P.add_list e e2 ?_ (by rw[Zk,Zk];lia);have p:d.toArray++f.toArray=(d++f).toArray:=by simp
 rw[p];exact⟨.ref _,_,I.E5 (r.append r2) (by rw[zW];omega),rfl,q _ I.fresh⟩
def xH:R2:=λx y H Q=>∃l k a,x=.ref l/\y=.int k/\H l=Y (.lst a)/\-(2 ^ 63)<=k/\k<2 ^ 63/\a.length*k.toNat<=FB ∧
 ∀p,H p=Z->Q (.ref p) (upd H p (.lst (List.replicate k.toNat a).flatten))
def len_rep{α:Type}(a:List α)(k:Nat):(List.replicate k a).flatten.length=k*a.length:=by
 induction k with
 |zero=>simp
 |succ k b=>rw[YY,Zn,zW,b,Nat.succ_mul,Nat.add_comm]
def xu:OpR X (binaryOp .Mult) xH:=by
 intro d s O H x y v u Q I o j h;obtain⟨l,k,E,rfl,rfl,w,B,A,f,q⟩:=h;cases o;obtain⟨t,rfl⟩:=j;obtain⟨z,b,n,r,p,e⟩:=I.C3 w;have hlen:b.toArray.size*k.toNat<=sizeLine:=by rw[Zk,← p];exact f
 have D:List.foldl (λg x2=>g++x2) #[] (List.replicate (if b.toArray.isEmpty=J then 0 else k.toNat) b.toArray)=(List.replicate k.toNat b).flatten.toArray:=by
  have C:=λm=>by
   have:=foldl_rep b m [];rw[YC]at this;exact this
  rw[C];cases b with
  |nil=>simp
  |cons a G=>rw[Zl (by simp)]
 refine wpAny_binaryOp_repeat_ref (by decide) ⟨_,e,rfl⟩ (λi=>typeIs_int i k t) noFill_list_mul F.fills_int_mul F.slot_int_rmul repeat_list F.slot_int_index.lookup
  (X2 F.slot_int_rmul (typeIs_int s k t) F.entry_int_rmul (F.args_int_rmul_2 _ _) (int___rmul___int_list k t l b.toArray n)
   ⟨e,rfl,⟨_,e,rfl⟩,X2 F.slot_list_mul ⟨_,e,rfl⟩ F.entry_list_mul (F.args_list_mul_2 _ _) (AutoListH.list___mul___list_int_3 l b.toArray n k t (by
  rw[fitsIndex_both B A];exact Zp) (by
  have:(FB:Nat)<=(2 ^ 63-1)/8:=by decide
  lia) (by
  rw[qJ hlen];exact Zp)) ⟨e,?_⟩⟩)
 rw[D];exact⟨.ref _,_,I.E5 (r.rep k.toNat) (by rw[len_rep,Nat.mul_comm];exact f),rfl,q _ I.fresh⟩
end
section
set_option maxRecDepth 100000 in
end
section
variable{κ:Type}[DecidableEq κ]
noncomputable def lM(b:List (κ×V))(k:κ):Option V:=(b.find? λa=>decide (a.1=k)).map (·.2)
noncomputable def putK(b:List (κ×V))(k:κ)(v:V):List (κ×V) :=
 if (b.any λa=>decide (a.1=k))=J then b.map (λa=>if a.1=k then (a.1,v) else a) else b++[(k,v)]
def ki{p:κ×V}(e:p.1=k):lM (p :: r) k=Y p.2:=by simp[lM,XF,e]
def kL{p:κ×V}(e:¬p.1=k):lM (p :: r) k=lM r k:=by simp[lM,XF,e]
theorem kj(k:κ):∀a:List (κ×V),(a.any λb=>decide (b.1=k))=(lM a k).isSome
 |[]=>rfl
 |p :: r=>by
  rw[XZ];by_cases e:p.1=k
  ·simp only[ki e,decide_eq_true e,Bool.true_or,Option.isSome_some]
  ·rw[kL e,Zg e,Bool.false_or];exact kj k r
def gi(a:List (κ×V))(k:κ)(v:V):(putK a k v).length<=a.length+1:=by
 unfold putK;split
 ·rw[zT];exact Nat.le_add_right _ _
 ·rw[zW,Zj,YB];exact Zy _
def lY.Cb(r:lY o u):o.isSome=u.isSome:=by
 cases o with
 |none=>cases u with
  |none=>rfl
  |some _=>exact(r).elim
 |some _=>cases u with
  |none=>exact(r).elim
  |some _=>rfl
theorem KV.any(r:KV d b)(k:κ):(d.any λa=>decide (a.1=k))=b.any λa=>decide (a.1=k):=by
 induction r with
 |nil=>rfl
 |cons h t e=>rw[XZ,XZ,e,h.1]
def KV.DL(r:KV f d)(k:κ)(g:RelV y u) :
  KV (f.map λa=>if a.1=k then (a.1,y) else a) (d.map λa=>if a.1=k then (a.1,u) else a):=by
 induction r with
 |nil=>exact .nil
 |@cons p q m l h t i =>
  rw[Zd,Zd];refine .cons ?_ i;obtain⟨b,j⟩:=h;by_cases e:p.1=k
  ·rw[Zq e,Zq (b.symm.trans e)];exact⟨b,g⟩
  ·rw[Zl e,Zl (λz=>e (b.trans z))];exact⟨b,j⟩
def KV.put(r:KV d a)(k:κ)(b:RelV y u):KV (putK d k y) (stored a k u):=by
 unfold putK stored;rw[r.any k];by_cases e:(a.any λf=>decide (f.1=k))=J
 ·rw[Zq e,Zq e];exact r.DL k b
 ·rw[Zl e,Zl e];exact Paired.snoc r ⟨rfl,b⟩
theorem KV.length{b:List (κ×V)}{a:List (κ×FS)}(r:KV b a):b.length=a.length:=Paired.length r
end
def uX(r:RelV (kV k) u):(bI P w).is k u=J:=by
 cases k with
 |inl i=>obtain⟨t,e⟩:=(r);subst e;exact kD P w i t
 |inr x=>obtain⟨t,e⟩:=(r);subst e;exact kR P w x t
theorem iJ:∀{a:List Key}{b:Wk},aA (a.map kV) b->ItemsAre (bI P w) a b
 |[],_,r=>by rw[List.map_nil]at r;cases r;exact .nil
 |k :: a,_,r=>by
  rw[Zd]at r;cases r with
  |cons h t=>exact .cons (uX h) (iJ t)
abbrev KT(H:Hp):List (List Key×V)->List (List Key×FM×FS)->Prop:=Paired λp q=>p.1=q.1/\H q.2.1=Y (.tup (p.1.map kV))/\RelV p.2 q.2.2
def KT.val(r:KT H f d)(k:List Key):lY (lM f k) ((atKey d k).map (·.2)):=by
 induction r with
 |nil=>exact True.intro
 |@cons p q m a h t i =>
  obtain⟨g,_,j⟩:=h;by_cases e:p.1=k
  ·have b:atKey (q :: a) k=Y q.2:=by simp[atKey,XF,(g.symm.trans e)]
   rw[ki e,b];exact j
  ·have l:¬q.1=k:=λz=>e (g.trans z);have b:atKey (q :: a) k=atKey a k:=by simp[atKey,XF,l]
   rw[kL e,b];exact i
def KT.DL(r:KT H f d)(k:List Key)(i:RelV y u) :
  KT H (f.map λb=>if b.1=k then (b.1,y) else b) (d.map (putAt k u)):=by
 induction r with
 |nil=>exact .nil
 |@cons p q n m h t j =>
  rw[Zd,Zd];refine .cons ?_ j;obtain⟨a,g,l⟩:=h;unfold putAt;by_cases e:p.1=k
  ·rw[Zq e,Zq (a.symm.trans e)];exact⟨a,g,i⟩
  ·rw[Zl e,Zl (λz=>e (a.trans z))];exact⟨a,g,l⟩
def KT.put(r:KT H d a)(k:List Key)(h:H b=Y (.tup (k.map kV)))(f:RelV y u) :
  KT H (putK d k y) (storedH a k b u):=by
 have e:(d.any λg=>decide (g.1=k))=(atKey a k).isSome:=by
  rw[kj,(r.val k).Cb,Option.isSome_map]
 unfold putK storedH;rw[e];by_cases q:(atKey a k).isSome=J
 ·rw[Zq q,Zq q];exact r.DL k f
 ·rw[Zl q,Zl q];exact Paired.snoc r ⟨rfl,h,f⟩
def KT.keeps(r:KT H e d)(g:∀b a,H b=Y (.tup a)->f b=Y (.tup a)):KT f e d :=
 Paired.C2 r λ_ _ z=>⟨z.1,g _ _ z.2.1,z.2.2⟩
section
variable{h:NF}
def uL(b:AD P w H h)(e:Rd H a u):bG P w H h a u:=e.ok b
def u6(f:AD P w H h)(e:Rd H a (.dK b)):b.length<=FB/\(a==sysModules)=L/\∃d,KV b d/\h.DictOf (bI P w) a d :=
 uL f e
def yH(f:AD P w H h)(e:H a=Y (.dK b)):b.length<=FB/\(a==sysModules)=L/\∃d,KV b d/\h.DictOf (bI P w) a d:=u6 f (.inl e)
def jM{b:List Key}(d:AD P w H h)(e:H a=Y (.tup (b.map kV))):(tupleKind (bI P w)).is h b a:=by
 obtain⟨_,j,r,_,o,i,g,n,f⟩:=(d a _ e)
 exact⟨o,j.toArray,n,i,g,f,by simpa using iJ r⟩
def yA(g:AD P w H h)(e:Rd H a (.dT f)):f.length<=FB/\(a==sysModules)=L ∧
  ∃d,KT H f d/\h.DictOfH (tupleKind (bI P w)) a d:=by
 refine L2.aw λG j=>?_;obtain⟨z,y,d,r,o,C,D,B,A,v,u,s⟩:=(uL g e)
 refine j ?_;refine⟨z,y,d,r,o,C,D,B,A,v,u,λx b=>?_,s⟩;have all:∀{l:List (List Key×V)}{m:List (List Key×FM×FS)},KT H l m->∀x∈m,(tupleKind (bI P w)).is h x.1 x.2.1:=by
  intro l m q
  induction q with
  |nil=>intro x b;exact nomatch b
  |@cons p q F E i t n =>
   intro x b;rcases Zz.mp b with e | b
   ·subst e;exact jM g (by rw[← i.1];exact i.2.1)
   ·exact n x b
 exact all r x b
def yF(f:AD P w H h)(e:H a=Y (.dT b)):b.length<=FB/\(a==sysModules)=L ∧
  ∃d,KT H b d/\h.DictOfH (tupleKind (bI P w)) a d:=yA f (.inl e)
end
def qI(H:Hp)(a:FM)(y v:V)(e:Hp):Prop :=
 (∃d k,H a=Y (.dK d)/\y=kV k/\d.length<FB/\e=upd H a (.dK (putK d k v))) ∨
 ∃d k b,H a=Y (.dT d)/\y=.ref b/\H b=Y (.tup (k.map kV))/\d.length<FB/\e=upd H a (.dT (putK d k v))
theorem qI.k{H:Hp}{a:FM}{b:List (Key×V)}{k:Key}{v:V}(e:H a=Y (.dK b))(d:b.length<FB):qI H a (kV k) v (upd H a (.dK (putK b k v))):=.inl ⟨b,k,e,rfl,d,rfl⟩
section
def Inv.big(I:Inv X pins O H s):sysModules<s.heap.objs.size:=by
 exact YI (by decide) ((I.mod.glob.keeps I.bk).lt)
def mV(I:Inv X pins O H s)(i:Ak (H a))(j:Heap.SameBut a s.heap d)(he:∃q,d.get? a=Y q)(g:bG X.prog X.w (upd H a f) d a f) :
  Inv X pins O (upd H a f) { s with heap:=d,toks:=h } :=
 I.write (x:=a) (e:=a) i (.inl M) (λb q l z=>(j.2 b l).trans z) he g
def wq{f:NF}{e:List (Key×V)}(z:e.length<=FB)(g:(a==sysModules)=L)(d:KV e b)(h:f.DictOf (bI P w) a b) :
  bG P w i f a (.dK e):=⟨z,g,b,d,h⟩
def n8{A:NB}(M:A.units+1<cLine)(I:Inv X pins O H s)(g:qI H a y v F)(x:RelV y u)(B:RelV v r)(h:∀t,Inv X pins O F t->Q () t) :
  GM (Da X.prog X.w) A (setItem (.ref a) u r) Q E s:=by
 rcases g with⟨i,k,e,m,l,n⟩ | ⟨i,k,b,e,m,D,l,n⟩
 ·subst m n;obtain⟨z,hd,vs,rel,p⟩:=yH I.td e;refine wpAny_setItem_pairs (hsz:=(by rw[← rel.length];exact z)) (uX x) p λU f j=>h _ ?_;exact mV I (by rw[e];exact True.intro) j (let ⟨q,_,_,d,_⟩:=f;⟨q,d⟩) (wq (by have:=gi i k v;lia) hd (rel.put k B) f)
 ·subst m n;cases (x);obtain⟨z,hd,xs,rel,p⟩:=yF I.td e;refine wpAny_setItem_heap (hsz:=(by rw[← Paired.length rel];exact z)) (tupleKind_room_in1 M) (jM I.td D) p λU f j=>h _ ?_;refine L2.aw λP_ G=>?_;obtain⟨q,W,ep,d,S,R,P,_,N⟩:=f;refine G ?_;refine mV I (by rw[e];exact True.intro) j ⟨q,d⟩ ⟨(by have:=gi i k v;lia),hd,_,(rel.put k D B).keeps λc ys C=>?_,q,W,ep,d,S,R,P,N⟩;rw[ak (yT C e (λz=>nomatch z))];exact C
end
section
def yp(I:Inv X pins O H s)(e:Rd H a (.dK jj))(h:∀t b,Inv X pins O H b->Q (.int jj.length t) b):GM (Da X.prog X.w) A (call (.builtin "len") [.ref a]) Q E s:=by
 obtain⟨z,hd,f,rel,d⟩:=u6 I.td e;refine call_len_dict hd d (by rw[← rel.length];rw[Yp]at z;lia) ?_;rw[← rel.length];exact h _ _ (I.tok _)
end
def pZ(h:NF)(a:sysModules<h.objs.size):bG P w H (h.push { cls:=.type "dict",data:=.dict #[] }) h.objs.size (.dK []) :=
 ⟨Yx _,beq_eq_false_iff_ne.mpr (Yq (Zo a)),[],.nil,Heap.DictOf.new h⟩
def wj:TE:=λ_ H Q=>∀p,H p=Z->Q (.ref p) (upd H p (.dK []))
section
def pW:PE X (.Dict [] [] pos) wj:=λa s O H Q I h =>
 wpAny_Dict_empty ⟨.ref s.heap.objs.size,_,I.laid (λ_ _ q=>zX _ q) (Zy _) (pZ s.heap I.big),rfl,h _ (I.td.fresh (Zy _))⟩
end
end L2
namespace JQ
open PySem PySem.W PySem.Calls PyProof.Rows
def gm:∀(ns:Wh)(d:Wk),WellAll P h d (ns.map WData.int)->IntsAre d ns:=by
 intro ns
 induction ns with
 |nil =>
  intro d w;rw[List.map_nil]at w;cases w;exact .nil
 |cons n ns e =>
  intro d w;rw[Zd]at w;cases w with
  |cons a b =>
   cases a;exact .cons _ _ (e _ b)
def oq{l:OpenLaw}(t:l.most=Y n)(f:l.row.toRowW.claim.pre b=J)(g:WellAll P h e b) :
  ∃a j ns,e=[Value.ref a]/\b=[WData.list (ns.map WData.int)]/\h.get? a=Y { cls:=.type "list",data:=.seq j.toArray }/\IntsAre j ns/\ns.length<=n:=by
 have u:l.pre.holds [] { args:=b }=J:=(pre_splitW f).2;obtain⟨d,r,rfl,x,w⟩:=hasAllW_cons ((pre_splitW f).1);obtain rfl:=hasAllW_nil w;obtain⟨z,rfl,v⟩:=hasW_list x;obtain⟨ns,rfl⟩:=items_int v;have hlen:ns.length<=n:=by
  have i:=condW_of (by
   have m:=(holds_andW u).1;rw[t]at m;exact m) (w_not (w_lt w_lit (w_len_list (w_arg M))))
  rw[zT]at i;refine Yr λq=>?_
  first
   | (rw[decide_eq_true (by omega)]at i;exact absurd i (by decide))
   | (omega)
 cases g with
 |cons p o =>
  cases o;cases p with
  |list s y=>exact⟨_,_,ns,rfl,rfl,s,gm ns _ y,hlen⟩
def ot(l:OpenLaw)(a:List WData):l.row.toRowW.claim.post a (.bool J) a=J :=
 postW_of
  (by first | rfl | decide | simp[WShape.has,WShape.arms,WShape.armsAll])
  (w_eq_bool (w_res M) w_lit) M
def kP{l:OpenLaw}{d:DefRec}(D:l.most=some n)(P:d.params.defaults=[])(j:∀(w:NG)(p b:AC)(mg mb:Wx)(i:FM)(o:Obj)(pm cd doc:FS)(a:FM)(g:Wk)(ns:Wh),
   Ground q e [] z w p mg mb b.heap->y w b.heap →
   b.heap.get? i=some o->o.data=.func (docDef d.name d.params d.body d.scope pm cd doc)->b.heap.CodeRec cd d.name->mg d.name=some (.ref i) →
   b.heap.get? a=some { cls:=.type "list",data:=.seq g.toArray }->IntsAre g ns->ns.length<=n->b.gens=#[] →
   codeAny (Da l.prog w) callerA (.call (.ref i) ⟨[.ref a],[]⟩) (λr m=>r=.ok (.ret (.bool J))/\OldK b.heap m.heap/\m.os=b.os/\AllBare m.gens) b) :
  WalkO q e z y l.row.toRowW d [] (λf g=>PySem.call f g):=by
 intro w p b mg mb G Y i o pm cd doc O kV C hd u x t H args vals R h v A s F;obtain rfl:O=.none:=Dflts.none x P;obtain rfl:kV=.none:=Dflts.noKw x;obtain⟨a,g,ns,rfl,rfl,Q,hints,hlen⟩:=oq D h s;refine enter_call (YN (j w p b mg mb i o pm cd doc a g ns G Y C (fd_plain hd) u t Q hints hlen H) λr m B=>?_);obtain⟨rfl,N,M,I⟩:=B;exact⟨.inl ⟨.bool J,.bool J,[],rfl,λ_=>rfl,.bool J,ot l _,λ_=>⟨List.Pairwise.nil,λ_ E=>(nomatch E)⟩⟩,N,M,I⟩
end JQ
namespace L2
open PySem PySem.Spec PyProof.Rows
theorem iU:∀{a:Wk}{ns:Wh},IntsAre a ns->aA (ns.map V.int) a
 |_,_,.nil=>.nil
 |_,_,.cons n t h=>.cons ⟨t,rfl⟩ (iU h)
noncomputable def qH(H:Hp):Prop:=∀b,H b=Z\/∃o a,H b=Y (.frz o (.lst a))
def qx{K:Xe}{f:AC}{j:Wk}(W:K.In f.heap)(EB:f.heap.Ns mainGlobals p)(g:f.heap.Ns builtinsNs C)(Mo:∀x:Str,x ≠ "__name__" → C x=bootBuiltins x)(Hw:f.heap.NoLimit)(hg:f.gens=#[])(t:f.heap.get? a=Y { cls:=.type "list",data:=.seq j.toArray })(Q:IntsAre j l)(O:l.length<=FB)(hr:Aa k callerA)(F:∀base:NF,K.In base->base.Ns mainGlobals p->FnOk P w K p base CX k E U [x] I)(Fm:∀(s:AC)(u:FS),BindsTo s U ⟨[u],[]⟩ [(x,u)])(Co:∀H:Hp,qH H->Aj K H a (l.map V.int)->I [.ref a] H (λv _=>v=.bl J) λ_ _ _=>False)(HQ:∀H e i,CX [] H f (λ_ _ _=>False) e i->False) :
  codeAny (Da P w) callerA (.call (.ref E) ⟨[.ref a],[]⟩) (λr i=>r=.ok (.ret (.bool J))/\OldK f.heap i.heap/\i.os=f.os/\AllBare i.gens) f:=by
 have N:=iU Q;have core:∀H:Hp,qH H->Aj K H a (l.map V.int)->AD P w H f.heap->(∀b,H b≠Z->b=a)->(H a≠Z->K.lookup a=Z) →
   codeAny (Da P w) callerA (.call (.ref E) ⟨[.ref a],[]⟩) (λr i=>r=.ok (.ret (.bool J))/\OldK f.heap i.heap/\i.os=f.os/\AllBare i.gens) f:=by
  intro H R hS td S hK;have B3:∀{b:FM}{o:Obj},f.heap.get? b=Y o->H b=Z->(kK f.heap H).get? b=Y o:=λe n=>pj e n;have EZ:∀{b:FM}{o:Obj}{y:Array DictEntry}{A:Nat},f.heap.get? b=Y o->o.data=.dict y A->H b=Z:=λ{b o y A} e d=>by
   cases q:H b with
   |none=>rfl
   |some u =>
    have G:b=a:=S b (by rw[q];simp);subst G;rw[t]at e;cases e;cases d
  have B:∀{b:FM}{m:Wx},f.heap.Ns b m->(kK f.heap H).Ns b m:=λ{b m} ⟨o,y,A,e,d,r⟩=>⟨o,y,A,B3 e (EZ e d),d,r⟩
  have X:=λb o e=>B3 (W b o e) (by
   cases q:H b with
   |none=>rfl
   |some u =>
    have G:b=a:=S b (by rw[q];simp);subst G;rw[hK (by rw[q];simp)]at e;cases e)
  have hM:Mod K p (kK f.heap H):=⟨X,B EB,⟨C,B g,Mo⟩,let ⟨mc,h1,h2⟩:=Hw;⟨mc,B h1,h2⟩⟩
  refine YN ((F _ X (B EB)).run callerA [] f H ⟨[.ref a],[]⟩ [.ref a] [.ref a] _ _ hr (⟨rfl,hM,λb q e=>(tX.mp e).1,λb o e=>tH e,Nat.le_of_eq (oE _ _),trivial,λb g=>absurd (show b∈([]:Wl) from g) (by simp),td,.of_eq hg⟩) (Fm f (.ref a)) (.cons M .nil) (Co H R hS)) λr i h=>?_;cases r with
  |error e=>exact(HQ H e i h).elim
  |ok fl =>
   cases fl with
   |next=>exact False.elim h
   |brk=>exact False.elim h
   |cont=>exact False.elim h
   |ret u =>
    obtain⟨v,H',os,bare,un,Ht,r',q⟩:=h;subst q;obtain rfl:u=Value.bool J:=r';refine⟨rfl,OldK.of_keep λb o e=>?_,os,bare⟩;cases q:H b with
    |none=>exact un.keep b o e q (by intro z;exact absurd (show b∈([]) from z) (by simp)) (by simp)
    |some u =>
     rcases R b with z | ⟨ob,xs,z⟩
     ·rw[q]at z;cases z
     ·obtain⟨e1,_⟩:=td b _ z;obtain⟨e2,_⟩:=Ht b _ (un.AJ b ob _ z);rw[e]at e1;cases e1;exact e2
 cases D:K.lookup a with
 |some o =>
  have e:=W a o D;rw[t]at e;cases e;refine core (λ_=>Z) (λ_=>.inl M) (.inr ⟨_,j.toArray,_,D,rfl,rfl,rfl,by rw[Zk,Q.length];exact O,by simpa using N⟩) (λb u z=>by cases z) (λb z=>absurd M z) λz=>absurd M z
 |none =>
  refine core (λb=>if b=a then Y (.frz { cls:=.type "list",data:=.seq j.toArray } (.lst (l.map V.int))) else Z) (λb=>?_) (.inl (.inr ⟨{ cls:=.type "list",data:=.seq j.toArray },Zq M⟩)) (λb u z=>?_) (λb z=>?_) λ_=>D
  ·by_cases g:b=a
   ·exact .inr ⟨_,_,Zq g⟩
   ·exact .inl (Zl g)
  ·by_cases g:b=a
   ·cases ((Zq g).symm.trans z);subst g;exact⟨t,by rw[zT];exact O,j,_,N,t⟩
   ·cases ((Zl g).symm.trans z)
  ·by_cases g:b=a
   ·exact g
   ·exact absurd (Zl g) z
def eJ{l:PySem.W.OpenLaw}{n k:Nat}{q:KM}{i:List Str}{R:(Wx)->NF->Prop}{y:NG->NF->Prop}{d:DefRec}{K:Params->Xe}{A:NG->Cr}{t:NG->Sp}{x:Str}(D:l.most=some n)(U:n<=FB)(X:d.params.defaults=[])(C:Aa k callerA)(N:∀(w:NG)(h:NF),y w h->(K w.params).In h)(F:∀(w:NG)(mg:Wx)(j:FM)(h:NF),(K w.params).In h->h.Ns mainGlobals mg->mg d.name=some (.ref j) →
   ∃fd:KF,(∀(s:AC)(u:FS),BindsTo s fd ⟨[u],[]⟩ [(x,u)]) ∧
    ∀base:NF,(K w.params).In base->base.Ns mainGlobals mg->FnOk l.prog w (K w.params) mg base (A w) k j fd [x] (t w))(Co:∀(w:NG)(H:Hp)(a:FM)(ns:Wh),ns.length<=n->qH H->Aj (K w.params) H a (ns.map V.int)->t w [.ref a] H (λv _=>v=.bl J) λ_ _ _=>False)(S:∀(w:NG)(H:Hp)(s:AC)(e:FS)(m:AC),A w [] H s (λ_ _ _=>False) e m->False) :
  PySem.W.WalkO q i R y l.row.toRowW d [] (λf r=>PySem.call f r):=by
 refine JQ.kP D X λw s₀ B mg mb j o pm cd doc a r ns G Y ho hd I p DW hints hlen E=>?_;have z:=N w _ Y;obtain⟨fd,M,Q⟩:=F w mg j _ z G.T.g p;exact qx z G.T.g G.T.b G.T.builtins G.T.nolimit E DW hints (Zu hlen U) C Q M (λH P O=>Co w H a ns hlen P O) λH e m=>S w H B e m
noncomputable def inClass(s:Stmt)(j:Nat):Stmt:=match s with
 |.ClassDef _ _ _ body _ _ _ _ _ _ _=>body.getD j (.Pass ⟨0,0,0,0⟩)
 |_=>.Pass ⟨0,0,0,0⟩
noncomputable def aN(s:Stmt):Arguments:=match s with
 |.FunctionDef _ a _ _ _ _ _ _ _ _=>a
 |_=>{ posonlyargs:=[],args:=[],vararg:=Z,kwonlyargs:=[],kw_defaults:=[],kwarg:=Z,defaults:=[] }
noncomputable def aF(s:Stmt):List Stmt:=match s with
 |.FunctionDef _ _ b _ _ _ _ _ _ _=>b
 |_=>[]
noncomputable def ai(s:Stmt):Scope:=match s with
 |.FunctionDef _ _ _ _ _ _ sc _ _ _=>sc
 |_=>{ kind:=.function,names:=[],isGenerator:=L,isCoroutine:=L }
noncomputable abbrev Bu:Cr:=λ_ _ _ _ _ _=>False
noncomputable abbrev E0:XK:=λ_ _ _=>False
def yD:mf Bu X E0:=λ_ _ _ _ _ _ _ h=>h.elim
structure AY(K:Xe)(x qual:Str)(st:Stmt)(f:FM)(fd:KF):Prop where
 ex:∃(oc:FS)(od:Option FM)(kV doc pm:FS)(an:Option FM)(Ad ct:FS)(CN:Array (Wj)),
  fd=PySem.W.fnOf x qual (aN st) (aF st) (ai st) .none kV doc pm an Ad ct/\K.lookup f=some ⟨oc,od,.func fd,CN⟩/\PySem.W.codeIn K Ad qual=true
 kp:PySem.W.keepIn K (.ref f)=true
section
variable{K:Xe}
def AY.ok{x:Str}{i:List Str}(F:AY K x a d f m)(o:lp N i (ai d))(j:∀b H Q E,g b H Q E->b.length=i.length)(u:∀(e:FS)(A:NB)(outer:List Env)(s:AC)(H:Hp)(b:List V)(Q:VK)(E:XK),Aa k (A.deeper (envOfC a (ai d) s.heap.objs.size f e))->g b H Q E →
   ∃t,PSs (fV Bu P w K mg base N a (ai d) f e A outer s H E).Bs (aF d) t/\t { nx:=λ_ p=>Q .non p,rt:=Q } (start N b) H):FnOk P w K mg base Bu (k+1) f m i g:=by
 obtain⟨oc,v,kV,doc,pm,an,e,ct,y,rfl,lk,l⟩:=F.ex;refine uS lk l o j λA outer s H b Q E n r=>?_;obtain⟨t,h,q⟩:=u e A outer s H b Q E n r;exact⟨t,h.Bs,q⟩
def AY.binds{e:List Str}(F:AY K x a b f i)(h:∀(kV doc pm:FS)(an:Option FM)(g ct:FS)(d:Wk),d.length=e.length->bindArgs (PySem.W.fnOf x a (aN b) (aF b) (ai b) .none kV doc pm an g ct) ⟨d,[]⟩=pure (e.zip d)):Binds K i e []:=by
 obtain⟨oc,l,kV,doc,pm,an,g,ct,m,rfl,lk,j⟩:=F.ex;exact .all (h kV doc pm an g ct)
def cn{st:Stmt}(l:K.lookup f=Y ⟨m,j,.func (PySem.W.fnOf x a (aN st) (aF st) (ai st) .none g b e i d h),n⟩)(c:PySem.W.codeIn K d a=J)(k:PySem.W.keepIn K (.ref f)=J):AY K x a st f (PySem.W.fnOf x a (aN st) (aF st) (ai st) .none g b e i d h):=⟨⟨m,j,g,b,e,i,d,h,n,rfl,l,c⟩,k⟩
end
def xW(a:Aa k A):A.units+1<cLine:=Xi (Nat.add_le_add_left (by decide:1<=64) _) a.units
section
def pv{X:Cx}(i:Nat)(f:{`q1,X.N[i]?=Y x})(d:{`q4,Cg X.env.scope x})(e:{`q0,K2 x})(b:{`q0,K3 x}):PE X (.Name x a) (oO i):=d5 f d e b
end
def n6{A B:Prop}(h:B):if L=J then A else B:=by
 rw[Zl Zp];exact h
def oF{A B:Prop}(h:A):if J=J then A else B:=by
 rw[Zq M];exact h
noncomputable def aC(H a:Hp):Prop:=∀b o,H b=Y o->a b=Y o
def aC.refl(H:Hp):aC H H:=λ_ _ h=>h
def aC.trans(a:aC H e)(b:aC e d):aC H d:=λc o h=>b c o (a c o h)
def aC.free(e:aC H a)(h:a l=Z):H l=Z:=by
 cases q:H l with
 |none=>rfl
 |some o =>
  rw[e l o q]at h;cases h
end L2
end
section
namespace L2
open PySem PySem.Spec PyProof.Rows
abbrev iy:=List (List Key)
def hN(w:NG)(k:iy):Int:=reduceHash (Builtin.Tuple.tupleHashOf (k.map λx=>reduceHash (Builtin.Tuple.tupleHashOf (x.map (yI w)))))
def zv(w:NG)(x:iy×FM×FS):DictEntry:=⟨hN w x.1,.ref x.2.1,x.2.2⟩
abbrev KN:List (iy×FM×V)->List (iy×FM×FS)->Prop:=Paired λp q=>p.1=q.1/\p.2.1=q.2.1/\RelV p.2.2 q.2.2
def DN(a:FM)(d:List (iy×FM×V)):HO:=.ext λw h=>d.length<=FB/\(a==sysModules)=L/\∃b:List (iy×FM×FS),KN d b ∧
 ∃o e f,h.get? a=Y o/\o.ExactDict/\o.data=.dict e f/\e.toList=b.map (zv w)/\(b.map (·.1)).Nodup
def GI(H:Hp)(k:iy)(b:FM):Prop:=∃a:Wl,H b=Y (.tup (a.map V.ref))/\Paired (λ(x:List Key) (c:FM)=>H c=Y (.tup (x.map kV))) k a
def GI.mono(x:GI H k b)(t:∀a d,H a=Y (.tup d)->e a=Y (.tup d)):GI e k b:=by
 obtain⟨f,h,r⟩:=x;exact⟨f,t _ _ h,Paired.C2 r λ_ _ z=>t _ _ z⟩
end L2
end
section
namespace VS
open PySem PySem.Spec PyProof.Rows L2
noncomputable def sx(s:Tx):Str:=⟨s.toArray⟩
def dS(s:Tx):Prop:=s.length<=cj/\∀c∈s,c<1114112
noncomputable abbrev Me:=Nat->Option V
structure Gx where
 K:Xe
 ct:Nat->FM×(Nat->Str)
 me:Me:=λ_=>none
def Gx.at(G:Gx)(m:Me):Gx:=⟨G.K,G.ct,m⟩
noncomputable def b8:Key->T
 |.inl i=>.int i
 |.inr x=>.str x.cps.toList
def Le(k:iy):T:=.tup (k.map λx=>T.tup (x.map b8))
def fx(K:Xe)(H:Hp)(a:FM)(d:Wh):Prop :=
 (∃o,H a=Y (.frz o (.lst (d.map V.int)))) ∨
  ∃(o:Obj)(b:Array FS)(n:Nat),K.lookup a=Y o/\o.cls=.type "list" ∧ o.dict=Z/\o.data=.seq b n/\b.size<=FB/\aA (d.map V.int) b.toList
noncomputable def Dx(H:Hp)(c:Nat)(a:List (Nat×T)):Option FM->Prop
 |none=>a=[]
 |some d=>c=0/\∃b n,a=[(1,.int n)]/\H d=Y (.frz b (.xd [("line",.int n)]))
theorem Dx.mono(k:∀b o u,H b=Y (.frz o u)->f b=Y (.frz o u)):∀{d:Option FM},Dx H c e d->Dx f c e d
 |none,h=>h
 |some _,h=>⟨h.1,h.2.elim λg i=>⟨g,i.elim λn a=>⟨n,a.1,k _ _ _ a.2⟩⟩⟩
noncomputable def Do(H:Hp)(o:Obj):Prop:=o.dict=Z\/∃d a u,o.dict=Y d/\H d=Y (.frz a u)
def Dx.do{o:Obj}(h:Dx H c b o.dict):Do H o:=by
 cases hd:o.dict with
 |none=>exact .inl hd
 |some d =>
  rw[hd]at h;obtain⟨_,a,n,_,h⟩:=h;exact .inr ⟨d,a,_,hd,h⟩
mutual
inductive Rp(G:Gx)(H:Hp):V->T->Wl->Prop
 |non:Rp G H .non .non []
 |bl (b:Bool):Rp G H (.bl b) (.bl b) []
 |int (i:Int):Rp G H (.int i) (.int i) []
 |str (s:Tx):dS s->Rp G H (.str (sx s)) (.str s) []
 |scr {a:FM} {ns:Wh}:fx G.K H a ns->Rp G H (.ref a) (.scr ns) []
 |tup {a:FM} {vs:List V} {ts:Wc} {Fs:Xl}:H a=some (.tup vs)->xa G H vs ts Fs->Rp G H (.ref a) (.tup ts) Fs.flatten
 |lst {a:FM} {vs:List V} {ts:Wc} {Fs:Xl}:H a=some (.lst vs)->xa G H vs ts Fs->Rp G H (.ref a) (.lst ts) (a :: Fs.flatten)
 |dct {a:FM} {ks:List Key} {vs:List V} {ts:Wc} {Fs:Xl}:H a=some (.dK (ks.zip vs))->ks.length=vs.length->xa G H vs ts Fs->Rp G H (.ref a) (.dct 0 ((ks.map b8).zip ts)) (a :: Fs.flatten)
 |dctT {a:FM} {ks:List (List Key)} {vs:List V} {ts:Wc} {Fs:Xl}:H a=some (.dT (ks.zip vs))->ks.length=vs.length->xa G H vs ts Fs->Rp G H (.ref a) (.dct 1 ((ks.map λk=>T.tup (k.map b8)).zip ts)) (a :: Fs.flatten)
 |dctN {a:FM} {ks:List (iy×FM)} {vs:List V} {ts:Wc} {Fs:Xl}:H a=some (DN a ((ks.zip vs).map λp=>(p.1.1,p.1.2,p.2)))->ks.length=vs.length->(∀p∈ks,GI H p.1 p.2)->xa G H vs ts Fs->Rp G H (.ref a) (.dct 2 ((ks.map λp=>Le p.1).zip ts)) (a :: Fs.flatten)
 |dctZ {a:FM} {o:Obj} {ks:List Key} {vs:List V} {ts:Wc} {Fs:Xl}:H a=some (.frz o (.dK (ks.zip vs)))->ks.length=vs.length->xa G H vs ts Fs->Rp G H (.ref a) (.dct 3 ((ks.map b8).zip ts)) Fs.flatten
 |exc {c:Nat} {a:FM} {o:Obj} {fs:List (Nat×T)}:H a=some (.frz o (.own a))->(o.cls=.ref (G.ct c).1/\Dx H c fs o.dict/\∃vs,o.data=.fields vs)->Rp G H (.ref a) (.obj c fs) []
 |ins {c:Nat} {a dx:FM} {b:Bool} {ks:Wi} {vs:List V} {ts:Wc} {Fs:Xl}:H a=some (.ins (G.ct (c+1)).1 dx ((ks.map (G.ct (c+1)).2).zip vs))->ks.length=vs.length->(b=true->G.me 0=some (.ref a))->xa G H vs ts Fs->Rp G H (.ref a) (.obj (c+1) ((0,.bl b) :: ks.zip ts)) (a :: Fs.flatten)
 |mk {m:Nat} {a:FM} {t:T} {F:Wl}:G.me m=some (.ref a)->Rp G H (.ref a) t F->Rp G H (.ref a) (.obj 0 [(0,.bl true),(m,t)]) F
inductive xa(G:Gx)(H:Hp):List V->Wc->Xl->Prop
 |nil:xa G H [] [] []
 |cons {v:V} {t:T} {F:Wl} {vs:List V} {ts:Wc} {Fs:Xl}:Rp G H v t F->xa G H vs ts Fs->xa G H (v :: vs) (t :: ts) (F :: Fs)
end
def JM(G:Gx)(H:Hp)(v:V)(F:Wl):T->Prop
 |.non=>v=.non
 |.bl b=>v=.bl b
 |.int b=>v=.int b
 |.str b=>v=.str (sx b)/\dS b
 |.scr l=>∃a,v=.ref a/\F=[]/\fx G.K H a l
 |.tup l=>∃a e f,v=.ref a/\F=f.flatten/\H a=Y (.tup e)/\xa G H e l f
 |.lst l=>∃a e f,v=.ref a/\F=a :: f.flatten/\H a=Y (.lst e)/\xa G H e l f
 |.dct d l=>match d with
  |0=>∃(a:FM)(g:List Key)(e:List V)(h:Wc)(f:Xl),v=.ref a/\F=a :: f.flatten/\H a=Y (.dK (g.zip e))/\g.length=e.length/\l=(g.map b8).zip h/\xa G H e h f
  |3=>∃(a:FM)(o:Obj)(g:List Key)(e:List V)(h:Wc)(f:Xl),v=.ref a/\F=f.flatten/\H a=Y (.frz o (.dK (g.zip e)))/\g.length=e.length/\l=(g.map b8).zip h/\xa G H e h f
  |_=>True
 |.obj c fs=>match c,fs with
  |c+1,j :: fs=>∃(i:Nat)(a dx:FM)(b:Bool)(g:Wi)(e:List V)(h:Wc)(f:Xl),c+1=i+1/\v=.ref a/\j=(0,.bl b)/\fs=g.zip h/\F=a :: f.flatten/\H a=Y (.ins (G.ct (i+1)).1 dx ((g.map (G.ct (i+1)).2).zip e))/\g.length=e.length/\(b=J->G.me 0=Y (.ref a))/\xa G H e h f
  |0,fs=>∀m t,fs=[(0,.bl J),(m,t)]->∃a,v=.ref a/\G.me m=Y (.ref a)/\Rp G H (.ref a) t F
  |_,_=>True
def Rp.inv(r:Rp G H v t F):JM G H v F t:=by
 cases r with
 |str s h=>exact⟨rfl,h⟩
 |scr h=>exact⟨_,rfl,rfl,h⟩
 |tup h q=>exact⟨_,_,_,rfl,rfl,h,q⟩
 |lst h q=>exact⟨_,_,_,rfl,rfl,h,q⟩
 |dct h b q=>exact⟨_,_,_,_,_,rfl,rfl,h,b,rfl,q⟩
 |dctZ h b q=>exact⟨_,_,_,_,_,_,rfl,rfl,h,b,rfl,q⟩
 |@exc c a o fs h q =>
  obtain⟨_,q,_⟩:=q;cases hd:o.dict with
  |none =>
   rw[hd]at q;cases (show fs=[] from q);exact Nat.casesOn (motive:=λc=>JM G H _ [] (.obj c [])) c (λ_ _ e=>nomatch e) λ_=>trivial
  |some d =>
   rw[hd]at q;obtain⟨rfl,f,n,rfl,_⟩:=q;exact λ_ _ e=>nomatch e
 |ins h l m q=>exact⟨_,_,_,_,_,_,_,_,rfl,rfl,rfl,rfl,rfl,h,l,m,q⟩
 |mk h q=>exact λ_ _ e=>by cases e;exact⟨_,rfl,h,q⟩
 |dctT _ _ _=>trivial
 |dctN _ _ _ _=>trivial
 |_=>rfl
structure Kept(H H':Hp):Prop where
 tup:∀a xs,H a=some (.tup xs)->H' a=some (.tup xs)
 frz:∀a o u,H a=some (.frz o u)->H' a=some (.frz o u)
def Kept.refl(H:Hp):Kept H H:=⟨λ_ _ h=>h,λ_ _ _ h=>h⟩
def Kept.trans(a:Kept H e)(b:Kept e d):Kept H d:=⟨λc x h=>b.tup c x (a.tup c x h),λc o u h=>b.frz c o u (a.frz c o u h)⟩
def Kept.of(e:aC H b):Kept H b:=⟨λa _ h=>e a _ h,λa _ _ h=>e a _ h⟩
theorem Kept.upd{H:Hp}(d:Ak (H a)\/H a=Z):Kept H (upd H a o):=by
 have ne:∀b u,H b=Y u->¬Ak (Y u)->b≠a:=λb u h nm e=>by
  subst e;rcases d with m | m
  ·rw[h]at m;exact nm m
  ·rw[h]at m;cases m
 exact⟨λb f h=>by rw[ak (ne b _ h λz=>z)];exact h,λb o u h=>by rw[ak (ne b _ h λz=>z)];exact h⟩
def fx.kept{K:Xe}(h:fx K H a b)(k:Kept H d):fx K d a b:=by
 rcases h with⟨o,e⟩ | h
 ·exact .inl ⟨o,k.frz _ _ _ e⟩
 ·exact .inr h
def fx.seq{K:Xe}(h:fx K H a b):Aj K H a (b.map V.int):=by
 rcases h with⟨o,e⟩ | h
 ·exact .inl (.inr ⟨o,e⟩)
 ·exact .inr h
def j5{H d:Hp}{a:FM}{F:Wl}(f:∀b∈a :: F,∀o,H b=Y o->d b=Y o):∀b∈F,∀o,H b=Y o->d b=Y o:=λb m=>f b (zV _ m)
def nB{H a:Hp}{F:Wl}{d:Xl}(f:∀b∈(F :: d).flatten,∀o,H b=Y o->a b=Y o):(∀b∈F,∀o,H b=Y o->a b=Y o)/\∀b∈d.flatten,∀o,H b=Y o->a b=Y o:=by
 rw[Zn]at f;exact⟨λb m=>f b (Z9 _ m),λb m=>f b (Zb _ m)⟩
def Rp.keep(k:Kept H e)(r:Rp G H v t F):(∀a∈F,∀o,H a=Y o->e a=Y o)->Rp G e v t F :=
 Rp.rec (motive_2:=λq u j _=>(∀a∈j.flatten,∀o,H a=Y o->e a=Y o)->xa G e q u j)
  (λ_=>.non) (λb _=>.bl b) (λi _=>.int i) (λs h _=>.str s h) (λh _=>.scr (h.kept k)) (λh _ d f=>.tup (k.tup _ _ h) (d f)) (λh _ d f=>.lst (f _ zU _ h) (d (j5 f))) (λh l _ d f=>.dct (f _ zU _ h) l (d (j5 f))) (λh l _ d f=>.dctT (f _ zU _ h) l (d (j5 f)))
  (λh l n _ d f=>.dctN (f _ zU _ h) l (λp m=>(n p m).mono k.tup) (d (j5 f))) (λh l _ d f=>.dctZ (k.frz _ _ _ h) l (d f)) (λh g _=>.exc (k.frz _ _ _ h) ⟨g.1,g.2.1.mono k.frz,g.2.2⟩) (λh l m _ d f=>.ins (f _ zU _ h) l m (d (j5 f))) (λh _ d f=>.mk h (d f)) (λ_=>.nil) (λ_ _ x w f=>.cons (x (nB f).1) (w (nB f).2)) r
theorem xa.keep(k:Kept H g):∀{e:List V}{b:Wc}{d:Xl},xa G H e b d->(∀a∈d.flatten,∀o,H a=Y o->g a=Y o)->xa G g e b d:=by
 intro e b
 induction b generalizing e with
 |nil=>intro d r f;cases r;exact .nil
 |cons t b h =>
  intro d r f;cases r with
  |cons r q=>exact .cons (r.keep k (nB f).1) (h q (nB f).2)
def Rp.same{G:Gx}{H:Hp}(e:aC H b)(r:Rp G H v t F):Rp G b v t F:=r.keep (Kept.of e) λa _ o h=>e a o h
def xa.same{G:Gx}{H:Hp}(e:aC H b)(r:xa G H v t F):xa G b v t F:=r.keep (Kept.of e) λa _ o h=>e a o h
def rP{H:Hp}{a:FM}{F:Wl}(h:Ak (H a))(d:∀b∈F,Ak (H b)):∀b∈a :: F,Ak (H b):=λb m=>(Zz.mp m).elim (λe=>e ▸ h) (d b)
def oX{H:Hp}{a:FM}{o:HO}(h:H a=Y o)(m:Ak (Y o)):Ak (H a):=by rw[h];exact m
def yr{H:Hp}{F:Wl}{a:Xl}(e:∀b∈F,Ak (H b))(d:∀b∈a.flatten,Ak (H b)):∀b∈(F :: a).flatten,Ak (H b):=λb m=>by
 rw[Zn]at m;exact(Zv.mp m).elim (e b) (d b)
def Rp.Ay(r:Rp G H v t F):∀a∈F,Ak (H a) :=
 Rp.rec
  (λ_ m=>nomatch m) (λ_ _ m=>nomatch m) (λ_ _ m=>nomatch m) (λ_ _ _ m=>nomatch m) (λ_ _ m=>nomatch m) (λ_ _ b=>b) (λh _ b=>rP (oX h True.intro) b) (λh _ _ b=>rP (oX h True.intro) b) (λh _ _ b=>rP (oX h True.intro) b)
  (λh _ _ _ b=>rP (oX h True.intro) b) (λ_ _ _ b=>b) (λ_ _ _ m=>nomatch m) (λh _ _ _ b=>rP (oX h True.intro) b) (λ_ _ b=>b) (λ_ m=>nomatch m) (λ_ _ e d=>yr e d) r
theorem xa.Ay:∀{e:List V}{b:Wc}{d:Xl},xa G H e b d->∀a∈d.flatten,Ak (H a):=by
 intro e b
 induction b generalizing e with
 |nil=>intro d r;cases r;exact λ_ m=>nomatch m
 |cons t b f =>
  intro d r;cases r with
  |cons r q=>exact yr r.Ay (f q)
def Ak.pe(m:Ak o):o≠Z:=λe=>by subst e;exact m
def yM{b:Xl}(e:VS.AU t=J->F=[])(d:VS.eR a=J->b.flatten=[])(i:VS.eR (t :: a)=J):(F :: b).flatten=[]:=by
 have i:=Z1.mp i;rw[Zn,e i.1,d i.2];rfl
theorem Rp.AU(r:Rp G H v t F):VS.AU t=J->F=[] :=
 Rp.rec
  (λ_=>rfl) (λ_ _=>rfl) (λ_ _=>rfl) (λ_ _ _=>rfl) (λ_ _=>rfl) (λ_ _ a i=>a i) (λ_ _ _ i=>absurd (i) Zp) (λ_ _ _ _ i=>absurd (i) Zp) (λ_ _ _ _ i=>absurd (i) Zp)
  (λ_ _ _ _ _ i=>absurd (i) Zp) (λ_ _ _ _ i=>absurd (i) Zp) (λ_ _ _=>rfl) (λ_ _ _ _ _ i=>absurd (i) Zp) (λ_ _ _ i=>absurd (i) Zp) (λ_=>rfl) (λ_ _ d b i=>yM d b i) r
theorem xa.AU:∀{d:List V}{a:Wc}{b:Xl},xa G H d a b->VS.eR a=J->b.flatten=[]:=by
 intro d a
 induction a generalizing d with
 |nil=>intro b r i;cases r;exact rfl
 |cons t a e =>
  intro b r i;cases r with
  |cons r q=>exact yM r.AU (e q) i
def xa.len:∀{b:List V}{a:Wc}{d:Xl},xa G H b a d->b.length=a.length/\d.length=a.length:=by
 intro b a
 induction a generalizing b with
 |nil=>intro d r;cases r;exact⟨rfl,rfl⟩
 |cons t a e =>
  intro d r;cases r with
  |cons r q=>exact⟨congrArg (·+1) (e q).1,congrArg (·+1) (e q).2⟩
theorem xa.get:∀{a:List V}{b:Wc}{d:Xl}(i:Nat){t:T},xa G H a b d->b[i]?=Y t->∃v F,a[i]?=Y v/\d[i]?=Y F/\Rp G H v t F
 |_,_,_,_,_,.nil,e=>by simp at e
 |_,_,_,0,_,.cons r _,e=>by
  simp at e;subst e;exact⟨_,_,rfl,rfl,r⟩
 |_,_,_,i+1,_,.cons _ q,e=>by
  obtain⟨v,F,h,g,f⟩:=xa.get i q (by simpa using e);exact⟨v,F,by simpa using h,by simpa using g,f⟩
def xa.append:∀{b:List V}{a:Wc}{e:Xl}{d:List V}{rs:Wc}{Gs:Xl},xa G H b a e->xa G H d rs Gs->xa G H (b++d) (a++rs) (e++Gs):=by
 intro b a
 induction a generalizing b with
 |nil=>intro e d rs Gs r s;cases r;exact s
 |cons t a f =>
  intro e d rs Gs r s;cases r with
  |cons r q=>exact .cons r (f q s)
theorem xa.take:∀{a:List V}{b:Wc}{d:Xl}(n:Nat),xa G H a b d->xa G H (a.take n) (b.take n) (d.take n)
 |_,_,_,0,_=>by simpa using xa.nil
 |_,_,_,n+1,.nil=>.nil
 |_,_,_,n+1,.cons r q=>.cons r (xa.take n q)
theorem xa.drop:∀{a:List V}{b:Wc}{d:Xl}(n:Nat),xa G H a b d->xa G H (a.drop n) (b.drop n) (d.drop n)
 |_,_,_,0,q=>q
 |_,_,_,n+1,.nil=>.nil
 |_,_,_,n+1,.cons r q=>xa.drop n q
noncomputable def eT:Cell->T
 |.pu t=>t
 |.ow t=>t
noncomputable abbrev Ac:=Nat->Wl
structure SR(G:Gx)(S:Ac)(U:VS.Env)(O:L2.St)(H:Hp):Prop where
 len:U.length=O.length
 rp:∀i c,U[i]?=some (some c)->∃v,O[i]?=some (some v)/\Rp G H v (eT c) (S i)
 nd:∀i t,U[i]?=some (some (.ow t))->(S i).Nodup
 sep:∀i j t c,U[i]?=some (some (.ow t))->U[j]?=some (some c)->i≠j->∀a∈S i,a∉S j
noncomputable def cM(S:Ac)(U:VS.Env)(a:FM):Prop:=∃j t,U[j]?=Y (Y (.pu t))/\a∈S j
noncomputable def bE(S:Ac)(U:VS.Env)(a:FM):Prop:=∃j t,U[j]?=Y (Y (.ow t))/\a∈S j
def Fp(S:Ac)(U:VS.Env)(H:Hp):Md->Wl->Prop
 |.fr,F=>F.Nodup/\∀a∈F,H a=Z
 |.pu,F=>∀a∈F,H a=Z\/cM S U a
 |.bo,F=>∀a∈F,H a=Z\/cM S U a\/bE S U a
theorem SR.same{G:Gx}{H:Hp}(s:SR G S U O H)(e:aC H a):SR G S U O a :=
 ⟨s.len,λi c h=>let ⟨v,d,b⟩:=s.rp i c h;⟨v,d,b.same e⟩,s.nd,s.sep⟩
def SR.Cu(s:SR G S U O H)(h:cM S U a):Ak (H a):=by
 obtain⟨j,t,d,b⟩:=h;obtain⟨v,_,r⟩:=s.rp j _ d;exact r.Ay a b
def SR.Aw(s:SR G S U O H)(h:bE S U a):Ak (H a):=by
 obtain⟨j,t,d,b⟩:=h;obtain⟨v,_,r⟩:=s.rp j _ d;exact r.Ay a b
def Fp.nil{m:Md}:Fp S U H m []:=by
 cases m
 ·exact⟨XA,λa h=>by simp at h⟩
 ·exact λa h=>by simp at h
 ·exact λa h=>by simp at h
theorem Fp.bo{H:Hp}:∀{m:Md},Fp S U H m F->Fp S U H .bo F
 |.fr,h=>λa m=>.inl (h.2 a m)
 |.pu,h=>λa m=>(h a m).elim .inl λz=>.inr (.inl z)
 |.bo,h=>h
theorem Fp.pu{H:Hp}:∀{m:Md},m ≠ .bo->Fp S U H m F->Fp S U H .pu F
 |.fr,_,h=>λa m=>.inl (h.2 a m)
 |.pu,_,h=>h
 |.bo,n,_=>absurd M n
theorem Fp.back(e:aC H b):∀{m:Md},Fp S U b m F->Fp S U H m F
 |.fr,h=>⟨h.1,λa m=>e.free (h.2 a m)⟩
 |.pu,h=>λa m=>(h a m).imp e.free id
 |.bo,h=>λa m=>(h a m).imp e.free id
theorem Fp.up{v:V}(f:Fp S U H m F)(r:Rp G a v t F):Fp S U H (VS.up m t).1 F:=by
 unfold VS.up;by_cases h:VS.AU t=J
 ·rw[r.AU h];exact Fp.nil
 ·simp only[h,if_false,Bool.false_eq_true];exact f
def tE(G:Gx)(c:Ex):TE:=λO H Q=>∃S U m r,SR G S U O H/\c U=Y (m,r)/\∀v a F,aC H a->Rp G a v r F->Fp S U H m F->Q v a
def PV(G:Gx)(X:Cx)(e:Expr)(c:Ex):Prop:=PE X e (tE G c)
def PE.weak(h:PE X e t)(w:∀O H Q,b O H Q->t O H Q):PE X e b:=λa s O H Q I q=>h a s O H Q I (w O H Q q)
def PT.weak(h:PT X e t)(w:∀O H Q,b O H Q->t O H Q):PT X e b:=λa s O H Q I q=>h a s O H Q I (w O H Q q)
def PA.weak(h:PA X e t)(w:∀O H Q,b O H Q->t O H Q):PA X e b:=λpos a s O H Q I q=>h pos a s O H Q I (w O H Q q)
def tT(G:Gx)(c:Ex):TT:=λO H Q=>∃S U m r b,SR G S U O H/\c U=Y (m,r)/\En r=Y b/\∀a,aC H a->Q b a
def Cp(G:Gx)(X:Cx)(e:Expr)(c:Ex):Prop:=PT X e (tT G c)
noncomputable def AN(l:We)(a:Xl):Wl:=match l,a with
 |v :: l,F :: a=>match v.1 with
  |.fr=>F++AN l a
  |_=>AN l a
 |_,_=>[]
structure GL(S:Ac)(U:VS.Env)(H:Hp)(l:We)(Fs:Xl):Prop where
 each:∀(i:Nat) v F,l[i]?=some v->Fs[i]?=some F->Fp S U H v.1 F
 nd:(AN l Fs).Nodup
def GO(G:Gx)(c:As):TA:=λO H Q=>∃S U l,SR G S U O H/\c U=Y l/\∀b a d,aC H a->xa G a b (trees l) d->GL S U H l d->Q b a
def PVs(G:Gx)(X:Cx)(a:List Expr)(c:As):Prop:=PA X a (GO G c)
section
def aj{i j pos}:PV G X (.Constant (.int i) j pos) (Q3 i):=PE.weak wQ λO H Q d=>by
 obtain⟨S,U,m,r,s,e,k⟩:=d;cases (e);exact k _ _ _ (aC.refl _) (.int i) Fp.nil
def dZ{i j pos}:PV G X (.Constant (.bool i) j pos) (eC (.bl i)):=PE.weak yL λO H Q d=>by
 obtain⟨S,U,m,r,s,e,k⟩:=d;cases (e);exact k _ _ _ (aC.refl _) (.bl i) Fp.nil
def lU{j pos}:PV G X (.Constant .none j pos) (eC .non):=PE.weak vD λO H Q d=>by
 obtain⟨S,U,m,r,s,e,k⟩:=d;cases (e);exact k _ _ _ (aC.refl _) .non Fp.nil
def aq{j pos}(h:x=sx t:=by decide +kernel)(f:{`q0,dS t}):PV G X (.Constant (.str x) j pos) (eC (.str t)):=PE.weak v5 λO H Q d=>by
 obtain⟨S,U,m,r,s,e,k⟩:=d;cases (e);subst h;exact k _ _ _ (aC.refl _) (.str t f) Fp.nil
def vf{X:Cx}(i:Nat)(w:{`q1,X.N[i]?=Y x})(p:{`q4,Cg X.env.scope x})(u:{`q0,K2 x})(j:{`q0,K3 x}):PV G X (.Name x g) (af i):=PE.weak (d5 w p u j) λO H Q q=>by
 obtain⟨S,U,m,r,s,e,k⟩:=q;unfold af at e;split at e
 ·rename_i t h;obtain⟨v,n,d⟩:=s.rp _ _ h;have o:=Zc e;have y:t=r:=congrArg Prod.snd o;have em:(VS.up .pu t).1=m:=congrArg Prod.fst o;rw[← y,← em]at k;refine⟨v,n,k v H (S i) (aC.refl _) d ?_⟩;have f:Fp S U H .pu (S i):=λa l=>.inr ⟨i,_,h,l⟩;exact f.up d
 ·rename_i t h;obtain⟨v,n,d⟩:=s.rp _ _ h;cases e;exact⟨v,n,k v H (S i) (aC.refl _) d λa l=>.inr (.inr ⟨i,_,h,l⟩)⟩
 ·cases e
def t4{v:V}(i:Gl X x)(h:X.mg x=Y u)(r:RelV v u)(f:∀H,Rp G H v t [])(j:{`q0,K2 x}):PV G X (.Name x d) (eC t) :=
 PE.weak (jJ i h r j) λO H Q g=>by
  obtain⟨S,U,m,l,s,e,k⟩:=g;cases (e);exact k _ _ _ (aC.refl _) (f H) Fp.nil
structure GF(G:Gx)(S:Ac)(U:VS.Env)(H0 H:Hp)(x y:Val)(u w:V)(F1 F2:Wl):Prop where
 same:aC H0 H
 r1:Rp G H u x.2 F1
 r2:Rp G H w y.2 F2
 f1:Fp S U H0 x.1 F1
 f2:Fp S U H0 y.1 F2
 nd:x.1=.fr->y.1=.fr->(F1++F2).Nodup
def dR(G:Gx)(r:R2)(f:Val->Val->Wd):Prop:=∀(S:Ac)(U:VS.Env)(e H:Hp)(x y:Val)(u w:V)(h g:Wl)(m:Md)(t:T)(Q:VK),GF G S U e H x y u w h g->f x y=Y (m,t) →
 (∀v d F,aC H d->Rp G d v t F->Fp S U e m F->Q v d)->r u w H Q
def p6{G:Gx}{ca cb:Ex}{O:L2.St}{H:Hp}{Q:V->V->Hp->Prop}{S:Ac}{U:VS.Env}{x y:Val}(s:SR G S U O H)(n:ca U=Y x)(m:cb U=Y y)(k:∀u w d f e,GF G S U H d x y u w f e->Q u w d):tE G ca O H λu g=>tE G cb O g λw d=>Q u w d:=by
 refine⟨S,U,x.1,x.2,s,n,λu g f e1 r1 f1=>⟨S,U,y.1,y.2,s.same e1,m,λw d e e2 r2 f2=>k u w d f e ⟨e1.trans e2,r1.same e2,r2,f1,f2.back e1,λi h=>?_⟩⟩⟩;rw[i]at f1;rw[h]at f2;refine ZA.mpr ⟨f1.1,f2.1,λa l b j z=>?_⟩;subst z;exact Ak.pe (r1.Ay a l) (f2.2 a j)
def jO(g:dR G r f)(h:tE G (e2 f ca cb) O H Q):EM r (tE G ca) (tE G cb) O H Q:=by
 obtain⟨S,U,m,t,s,e,k⟩:=h;obtain⟨x,j,e⟩:=zZ.mp e;obtain⟨y,i,e⟩:=zZ.mp e;exact p6 s j i λu w l p o d=>g S U H l x y u w p o m t Q d e λv n F e1 r1 f1=>k v n F (d.same.trans e1) r1 f1
def cO(g:OpR X (binaryOp d) r)(e:dR G r f)(j:PV G X a ca)(i:PV G X b cb):PV G X (.BinOp a d b pos) (e2 f ca cb) :=
 PE.weak (xM g j i) λO H Q h=>jO e h
def wM(g:OpR X (ND d) r)(e:dR G r f)(l:PV G X a ca)(j:PV G X b cb)(i:behindInMarks d b=L):PV G X (.Compare a [d] [b] pos) (e2 f ca cb) :=
 PE.weak (sv g l j i) λO H Q h=>jO e h
noncomputable def Tells(f:Val->Val->Wd):Prop:=∀x y m t,f x y=Y (m,t)->∃b,t=.bl b
def Rp.AK{b:Bool}(r:Rp G H v (.bl b) F):v=.bl b:=r.inv
def Rp.int_inv{H:Hp}{b:Int}(r:Rp G H v (.int b) F):v=.int b:=r.inv
def Rp.str_inv{b:Tx}(r:Rp G H v (.str b) F):v=.str (sx b)/\dS b:=r.inv
def j9{c:Ex}(h:tT G c O H Q)(f:∀U m r,c U=Y (m,r)->∃b,r=.bl b)(w:∀Q,tE G c O H Q->t O H Q):pC t O H Q:=by
 obtain⟨S,U,m,r,b,s,e,d,k⟩:=h;refine w _ ⟨S,U,m,r,s,e,λv i F e1 r1 f1=>?_⟩;obtain⟨j,g⟩:=f U m r e;rw[g]at d r1;cases (d);exact⟨_,r1.AK,k i e1⟩
def eA(j:OpR X (ND d) r)(g:dR G r f)(i:Tells f)(o:PV G X a ca)(n:PV G X b cb)(l:behindInMarks d b=L):Cp G X (.Compare a [d] [b] pos) (e2 f ca cb) :=
 PT.weak (sy j o n l) λO H Q h=>j9 h (λU m r e=>by
  obtain⟨x,_,e⟩:=zZ.mp e;obtain⟨y,_,e⟩:=zZ.mp e;exact i x y m r e) λQ h=>jO g h
def bg{G:Gx}{S:Ac}{U:VS.Env}{e H:Hp}{m:Md}{t:T}{v:V}{Q:VK}(k:∀v d F,aC H d->Rp G d v t F->Fp S U e m F->Q v d)(r:Rp G H v t []):Q v H:=k v H [] (aC.refl _) r Fp.nil
def bO(h:H p=Z):aC H (upd H p o):=λb d e=>by rw[ak (aY e h)];exact e
theorem Fp.new(d:g p=Z)(h:p∉F):∀{m:Md},Fp S U g m F->Fp S U g m (p :: F)
 |.fr,f=>⟨ZM.mpr ⟨h,f.1⟩,λa m=>(Zz.mp m).elim (λe=>by rw[e];exact d) (f.2 a)⟩
 |.pu,f=>λa m=>(Zz.mp m).elim (λe=>by rw[e];exact .inl d) (f a)
 |.bo,f=>λa m=>(Zz.mp m).elim (λe=>by rw[e];exact .inl d) (f a)
def ju(e:Bl d l=Y (m,t)):t=.lst l/\l.length<=cj/\m=(if eR l then .fr else d):=by
 unfold Bl at e;split at e
 ·rename_i h;cases e;exact⟨rfl,h,rfl⟩
 ·cases e
def eg{G:Gx}{S:Ac}{U:VS.Env}{h H:Hp}{n m:Md}{l:Wc}{t:T}{j:List V}{o:Xl}{Q:VK}(d:aC h H)(e:Bl n l=Y (m,t))(r:xa G H j l o)(f:Fp S U h n o.flatten)(k:∀v i F,aC H i->Rp G i v t F->Fp S U h m F->Q v i):∀p,H p=Z->Q (.ref p) (upd H p (.lst j)):=by
 intro p g;obtain⟨rfl,q,rfl⟩:=ju e;refine k _ _ _ (bO g) (.lst av (r.same (bO g))) ?_;have np:=λm=>Ak.pe (r.Ay p m) g;by_cases hi:eR l=J
 ·rw[hi,Zq M];rw[r.AU hi]at np ⊢;exact Fp.nil.new (d.free g) np
 ·rw[Zl hi];exact f.new (d.free g) np
theorem GF.join(i:GF G S U h H x y u w f e){F:Wl}(g:F.Sublist (f++e)):Fp S U h (x.1.join y.1) F:=by
 obtain⟨same,r1,r2,f1,f2,nd⟩:=i;obtain⟨l,x⟩:=x;obtain⟨j,y⟩:=y;have both:∀{P:FM->Prop},(∀a∈f,P a)->(∀a∈e,P a)->∀a∈F,P a:=λn m a d=>((λa d=>Zv.mp (g.subset d)) a d).elim (n a) (m a);cases l<;>cases j
 ·exact⟨(nd M M).sublist g,both f1.2 f2.2⟩
 ·exact both (λa d=>.inl (f1.2 a d)) f2
 ·exact both (λa d=>.inl (f1.2 a d)) f2
 ·exact both f1 (λa d=>.inl (f2.2 a d))
 ·exact both f1 f2
 ·exact both (f1.bo) f2
 ·exact both f1 (λa d=>.inl (f2.2 a d))
 ·exact both f1 (f2.bo)
 ·exact both f1 f2
def cX:cj=sizeLine:=rfl
def cq(s:Tx):(sx s).length=s.length:=rfl
def qV(s t:Tx):sx s++sx t=sx (s++t):=by
 show Str.append (sx s) (sx t)=_;simp[sx,Str.append]
def Rp.lst_inv(r:Rp G H v (.lst l) F):∃a d e,v=.ref a/\F=a :: e.flatten/\H a=Y (.lst d)/\xa G H d l e:=r.inv
def Rp.AW(r:Rp G H v (.tup l) F):∃a d e,v=.ref a/\F=e.flatten/\H a=Y (.tup d)/\xa G H d l e:=r.inv
def Rp.C0(r:Rp G H v (.scr l) F):∃a,v=.ref a/\F=[]/\fx G.K H a l:=r.inv
end
section
def yd:R2:=λx y H Q=>BV (λi j=>.int (i+j)) x y H Q\/(∃i j,x=.str i/\y=.str j/\i.length+j.length<=FB/\Q (.str (i++j)) H)\/yq x y H Q
def uk:OpR X (binaryOp .Add) yd:=xf.or (ly.or vF)
def vo:dR G yd au:=by
 intro S U E H x y u w B A m t Q f e k;have q:=λ{F:Wl} (h:List.Sublist F (B++A))=>f.join h;obtain⟨D,x⟩:=x;obtain⟨C,y⟩:=y;obtain⟨same,r1,r2,f1,f2,nd⟩:=f;unfold au at e;split at e
 ·rename_i i _ j e1 e2;cases e1;cases e2;cases e;exact .inl ⟨_,_,r1.int_inv,r2.int_inv,bg k (.int _)⟩
 ·rename_i s _ p e1 e2;cases e1;cases e2;split at e
  ·rename_i d;cases e;refine .inr (.inl ⟨_,_,r1.str_inv.1,r2.str_inv.1,by rw[cq,cq,← cX];exact d,?_⟩);rw[qV];exact bg k (.str _ ⟨by rw[zW];exact d,λc r=>(Zv.mp r).elim (r1.str_inv.2.2 c) (r2.str_inv.2.2 c)⟩)
  ·cases e
 ·rename_i s _ p e1 e2;cases e1;cases e2;obtain⟨a,n,I,rfl,rfl,z,l⟩:=r1.lst_inv;obtain⟨b,o,Gs,rfl,rfl,v,g⟩:=r2.lst_inv;obtain⟨_,d,_⟩:=ju e;refine .inr (.inr ⟨a,b,n,o,rfl,rfl,z,v,?_,eg same e (l.append g) (q ?_) k⟩)
  ·rw[zW]at d;rw[l.len.1,g.len.1,← cX];exact d
  ·rw[Yo];exact(Yn _ _).append (Yn _ _)
 ·cases e
def vm:dR G (BV λi j=>.int (i-j)) sT:=by
 intro S U f H x y u w h g m t Q a e k;obtain⟨d,x⟩:=x;obtain⟨b,y⟩:=y;obtain⟨same,r1,r2,f1,f2,nd⟩:=a;unfold sT at e;split at e
 ·rename_i e1 e2;cases e1;cases e2;cases e;exact⟨_,_,r1.int_inv,r2.int_inv,bg k (.int _)⟩
 ·cases e
def dz:dR G (rI y9 λi j=>.int (i/j)) dh:=by
 intro S U f H x y u w l g m t Q a e k;obtain⟨d,x⟩:=x;obtain⟨b,y⟩:=y;obtain⟨same,r1,r2,f1,f2,nd⟩:=a;unfold dh at e;split at e
 ·rename_i e1 e2;cases e1;cases e2;split at e
  ·rename_i h;cases e;exact⟨_,_,r1.int_inv,r2.int_inv,h,bg k (.int _)⟩
  ·cases e
 ·cases e
def wt:dR G (rI (λ_ j=>0<j) λi j=>.int (i%j)) oMod:=by
 intro S U f H x y u w l g m t Q a e k;obtain⟨d,x⟩:=x;obtain⟨b,y⟩:=y;obtain⟨same,r1,r2,f1,f2,nd⟩:=a;unfold oMod at e;split at e
 ·rename_i e1 e2;cases e1;cases e2;split at e
  ·rename_i h;cases e;exact⟨_,_,r1.int_inv,r2.int_inv,h,bg k (.int _)⟩
  ·cases e
 ·cases e
theorem gM:∀(s t:Tx),BN s t=decide (s<t)
 |[],[]=>by simp[BN]
 |[],_ :: _=>by simp[BN]
 |_ :: _,[]=>by simp[BN]
 |a :: s,b :: t=>by
  unfold BN;rw[gM s t];by_cases e:a<b
  ·simp[e,Xy]
  ·by_cases d:b<a
   ·have:¬a=b:=by exact YK d
    simp[e,d,Xy,this]
   ·have:a=b:=by lia
    subst this;simp[Xy]
def IE:R2:=λx y H Q=>BV (λi j=>.bl (decide (i<j))) x y H Q\/(∃i j,x=.str i/\y=.str j/\Q (.bl (decide (i.cps.toList<j.cps.toList))) H)
def lZ:OpR X (ND .Lt) IE:=zi.or oi
def rN:dR G IE oLt:=by
 intro S U g H x y u w i h m t Q b e k;obtain⟨f,x⟩:=x;obtain⟨d,y⟩:=y;obtain⟨same,r1,r2,f1,f2,nd⟩:=b;unfold oLt at e;split at e
 ·rename_i e1 e2;cases e1;cases e2;cases e;exact .inl ⟨_,_,r1.int_inv,r2.int_inv,bg k (.bl _)⟩
 ·rename_i s _ a e1 e2;cases e1;cases e2;cases e;refine .inr ⟨_,_,r1.str_inv.1,r2.str_inv.1,?_⟩;have:decide ((sx s).cps.toList<(sx a).cps.toList)=BN s a:=by rw[gM];exact decide_eq_decide.mpr (by simp[sx])
  rw[this];exact bg k (.bl _)
 ·cases e
def fP:Tells oLt:=by
 intro x y m t e;unfold oLt at e;split at e<;>first | (cases e;exact⟨_,rfl⟩) | cases e
def vY:FR=2 ^ 64:=rfl
def ik:dR G (rI um λi j=>.int (i*j)) ip:=by
 intro S U f H x y u w l g m t Q a e k;obtain⟨d,x⟩:=x;obtain⟨b,y⟩:=y;obtain⟨same,r1,r2,f1,f2,nd⟩:=a;unfold ip at e;split at e
 ·rename_i e1 e2;cases e1;cases e2;split at e
  ·rename_i h;cases e;refine⟨_,_,r1.int_inv,r2.int_inv,?_,bg k (.int _)⟩;rw[vY]at h;exact h
  ·cases e
 ·cases e
def oG:OpR X (ND .LtE) (λx y H Q=>∃i j,x=.str i/\y=.str j/\Q (.bl (!decide (j.cps.toList<i.cps.toList))) H):=by
 intro a s O H x y v u Q I d b h;obtain⟨i,j,rfl,rfl,q⟩:=h;obtain⟨t,rfl⟩:=d;obtain⟨e,rfl⟩:=b;exact PySem.P.le_str ⟨.bl _,H,I,rfl,q⟩
def IF:R2:=λx y H Q=>BV (λi j=>.bl (decide (i<=j))) x y H Q\/(∃i j,x=.str i/\y=.str j/\Q (.bl (!decide (j.cps.toList<i.cps.toList))) H)
def jy:OpR X (ND .LtE) IF:=yE.or oG
def nr:dR G IF oLe:=by
 intro S U g H x y u w i h m t Q b e k;obtain⟨f,x⟩:=x;obtain⟨d,y⟩:=y;obtain⟨same,r1,r2,f1,f2,nd⟩:=b;unfold oLe at e;split at e
 ·rename_i e1 e2;cases e1;cases e2;cases e;exact .inl ⟨_,_,r1.int_inv,r2.int_inv,bg k (.bl _)⟩
 ·rename_i s _ a e1 e2;cases e1;cases e2;cases e;refine .inr ⟨_,_,r1.str_inv.1,r2.str_inv.1,?_⟩;have:decide ((sx a).cps.toList<(sx s).cps.toList)=BN a s:=by rw[gM];exact decide_eq_decide.mpr (by simp[sx])
  rw[this];exact bg k (.bl _)
 ·cases e
def kM:Tells oLe:=by
 intro x y m t e;unfold oLe at e;split at e<;>first | (cases e;exact⟨_,rfl⟩) | cases e
def pP{i:Int}:Be n i=DR n i:=by
 unfold Be DR;by_cases h:0<=i
 ·rw[Zq h,Zq h]
 ·rw[Zl h,Zl h];by_cases a:0<=i+n
  ·rw[Zq a,Zq (by lia)]
  ·rw[Zl a,Zl (by lia)]
def ji{α:Type}{l:List α}{i:Int}{k:Nat}{x:α}(b:Be l.length i=Y k)(a:l[k]?=Y x):Eh l i=Y x:=by
 unfold Eh;rw[← pP,b];exact a
def gJ{a:Xl}{F:Wl}{i:Nat}(h:a[i]?=Y F):F.Sublist a.flatten:=by
 obtain⟨hi,rfl⟩:=Zs.mp h;exact List.sublist_flatten_of_mem (Yh hi)
theorem Fp.sub{F:Wl}(h:F.Sublist d):∀{m:Md},Fp S U H m d->Fp S U H m F
 |.fr,f=>⟨f.1.sublist h,λa b=>f.2 a (h.subset b)⟩
 |.pu,f=>λa b=>f a (h.subset b)
 |.bo,f=>λa b=>f a (h.subset b)
def wO:dR G (IG G.K) bh:=by
 intro S U M H x y u w O N m t Q B e k;obtain⟨I,x⟩:=x;obtain⟨E,y⟩:=y;obtain⟨same,r1,r2,f1,f2,nd⟩:=B;unfold bh at e;split at e
 ·rename_i p l o i e1 e2;cases e1;cases e2;obtain⟨j,d,e⟩:=zZ.mp e;obtain⟨x,b,e⟩:=z9.mp e;obtain⟨a,n,D,rfl,rfl,q,h⟩:=r1.lst_inv;obtain⟨v,F,s,r,g⟩:=h.get j b;refine .inl ⟨a,n,i,v,rfl,r2.int_inv,Aj.of q,ji (by rw[h.len.1];exact d) s,?_⟩;have f:=((f1.sub (Yn _ _)).sub (gJ r)).up g;unfold VS.sub at e;rw[e]at f;have z:x=t:=congrArg Prod.snd e;rw[z]at g;exact k v H F (aC.refl _) g f
 ·rename_i p l o i e1 e2;cases e1;cases e2;obtain⟨j,d,e⟩:=zZ.mp e;obtain⟨x,b,e⟩:=z9.mp e;obtain⟨a,n,D,rfl,rfl,q,h⟩:=r1.AW;obtain⟨v,F,s,r,g⟩:=h.get j b;refine .inr (.inl ⟨a,n,i,v,rfl,r2.int_inv,AR.of q,ji (by rw[h.len.1];exact d) s,?_⟩);have f:=(f1.sub (gJ r)).up g;unfold VS.sub at e;rw[e]at f;have z:x=t:=congrArg Prod.snd e;rw[z]at g;exact k v H F (aC.refl _) g f
 ·rename_i p l o i e1 e2;cases e1;cases e2;obtain⟨j,d,e⟩:=zZ.mp e;obtain⟨x,b,e⟩:=z9.mp e;cases e;obtain⟨a,rfl,rfl,sa⟩:=r1.C0;refine .inl ⟨a,l.map V.int,i,.int x,rfl,r2.int_inv,sa.seq,ji (by rw[zT];exact d) (by rw[ZW,b];rfl),bg k (.int _)⟩
 ·rename_i p l o i e1 e2;cases e1;cases e2;obtain⟨j,d,e⟩:=zZ.mp e;obtain⟨x,b,e⟩:=z9.mp e;cases e;obtain⟨rfl,A⟩:=r1.str_inv;refine .inr (.inr ⟨sx l,i,x,rfl,r2.int_inv,by rw[cq,← cX];exact A.1,ji (k:=j) (by simpa[sx] using d) (by simpa[sx] using b),?_⟩);exact bg k (.str [x] ⟨by show 1<=cj;decide,λc C=>by rw[Zx.mp C];exact A.2 x (Z8 b)⟩)
 ·cases e
end
section
theorem nk:∀{l:We}{d:Xl},x∈AN l d->∃(i:Nat)(v:Val)(F:Wl),l[i]?=Y v/\v.1=.fr/\d[i]?=Y F/\x∈F
 |[],_,h=>by simp[AN]at h
 |_ :: _,[],h=>by simp[AN]at h
 |v :: l,F :: d,h=>by
  have go:x∈AN l d->∃(i:Nat)(u:Val)(f:Wl),(v :: l)[i]?=Y u/\u.1=.fr/\(F :: d)[i]?=Y f/\x∈f:=λm=>by
   refine L2.aw λs g=>?_;obtain⟨i,u,f,r,q,o,n⟩:=nk m;refine g ?_;exact⟨i+1,u,f,by simpa using r,q,by simpa using o,n⟩
  unfold AN at h;split at h
  ·rename_i j;rcases Zv.mp h with h | h
   ·exact⟨0,v,F,rfl,j,rfl,h⟩
   ·exact go h
  ·exact go h
def ag:PVs G X [] ah:=PA.weak dq λO H Q d=>by
 obtain⟨S,U,l,s,e,k⟩:=d;cases (e);exact k [] H [] (aC.refl _) .nil ⟨λi v F h=>by simp at h,by simp[AN]⟩
def aa(C:PV G X e ca)(A:PVs G X es cs)(w:{`q1,K0 e es X}):PVs G X (e :: es) (ae ca cs):=PA.weak (bH C A w) λO H Q B=>by
 refine L2.aw λR n=>?_;obtain⟨S,U,l,s,e,k⟩:=B;obtain⟨x,M,e⟩:=zZ.mp e;obtain⟨j,I,e⟩:=zZ.mp e;cases e;refine n ?_;refine⟨S,U,x.1,x.2,s,M,λv W F e1 r1 f1=>⟨S,U,j,s.same e1,I,λm N P e2 r2 f2=>k (v :: m) N (F :: P) (e1.trans e2) (.cons (r1.same e2) r2) ⟨λi u h g d=>?_,?_⟩⟩⟩
 ·cases i with
  |zero =>
   cases (g);cases (d);exact f1
  |succ i=>exact(f2.each i u h (by simpa using g) (by simpa using d)).back e1
 ·unfold AN;split
  ·rename_i t;rw[t]at f1;refine ZA.mpr ⟨f1.1,f2.nd,λy r z o q=>?_⟩;subst q;obtain⟨i,u,h,g,d,E,D⟩:=nk o;have f:=f2.each i u h g E;rw[d]at f;exact Ak.pe (r1.Ay y r) (f.2 y D)
  ·exact f2.nd
theorem fK:∀{l:We},bC l=.fr->∀v∈l,v.1=.fr
 |[],_,v,h=>by simp at h
 | (m,t) :: r,e,v,h=>by
  have d:m.join (bC r)=.fr:=e;rcases Zz.mp h with rfl | h
  ·exact(by
   revert d;cases m<;>cases bC r<;>simp[Md.join])
  ·exact fK (by
   revert d;cases m<;>cases bC r<;>simp[Md.join]) v h
theorem fJ:∀{l:We},bC l ≠ .bo->∀v∈l,v.1 ≠ .bo
 |[],_,v,h=>by simp at h
 | (m,t) :: r,e,v,h=>by
  have d:m.join (bC r) ≠ .bo:=e;rcases Zz.mp h with rfl | h
  ·exact(by
   revert d;cases m<;>cases bC r<;>simp[Md.join])
  ·exact fJ (by
   revert d;cases m<;>cases bC r<;>simp[Md.join]) v h
theorem nH:∀{l:We}{d:Xl},l.length=d.length->(∀v∈l,v.1=.fr)->AN l d=d.flatten
 |[],[],_,_=>rfl
 |[],_ :: _,h,_=>by simp at h
 |_ :: _,[],h,_=>by simp at h
 |v :: l,F :: d,h,q=>by
  unfold AN;rw[q v zU,nH (by simpa using h) λu f=>q u (zV _ f)];rfl
def cT{d:Xl}(h:x∈d.flatten):∃(i:Nat)(F:Wl),d[i]?=Y F/\x∈F:=by
 obtain⟨F,g,f⟩:=List.mem_flatten.mp h;obtain⟨i,hi⟩:=List.mem_iff_getElem?.mp g;exact⟨i,F,hi,f⟩
def GL.join(f:GL S U H l j)(m:l.length=j.length):Fp S U H (bC l) j.flatten:=by
 have at':∀x∈j.flatten,∃v F,v∈l/\x∈F/\Fp S U H v.1 F:=λx d=>by
  obtain⟨i,F,hi,g⟩:=cT d;have:i<l.length:=by
   have:=(Zs.mp hi).1;lia
  exact⟨l[i],F,Yh this,g,f.each i _ F (Zm this) hi⟩
 cases e:bC l with
 |fr =>
  have al:=fK e;refine⟨by rw[← nH m al];exact f.nd,λx d=>?_⟩;obtain⟨v,F,h,g,q⟩:=at' x d;rw[al v h]at q;exact q.2 x g
 |pu =>
  intro x d;obtain⟨v,F,h,g,q⟩:=at' x d;exact Fp.pu ((fJ (l:=l) (by rw[e];decide)) v h) q x g
 |bo =>
  intro x d;obtain⟨v,F,h,g,q⟩:=at' x d;exact q.bo x g
structure Args(G:Gx)(S:Ac)(U:VS.Env)(H0 H:Hp)(l:We)(vs:List V)(Fs:Xl):Prop where
 same:aC H0 H
 rp:xa G H vs (trees l) Fs
 fp:GL S U H0 l Fs
theorem Args.len{U:VS.Env}(A:Args G S U g H l f d):l.length=d.length:=by
 have:=A.rp.len.2;simp[trees]at this;exact Eq.symm this
def dj(G:Gx)(r:List V->Hp->VK->Prop)(f:We->Wd):Prop:=∀(S:Ac)(U:VS.Env)(h H:Hp)(l:We)(g:List V)(i:Xl)(m:Md)(t:T)(Q:VK),Args G S U h H l g i->f l=Y (m,t) →
 (∀v d F,aC H d->Rp G d v t F->Fp S U h m F->Q v d)->r g H Q
def uK(h:dj G r f)(s:SR G S U O H)(i:cs U=Y l)(e:f l=Y (m,t))(k:∀v d F,aC H d->Rp G d v t F->Fp S U H m F->Q v d):GO G cs O H λg n=>r g n Q :=
 ⟨S,U,l,s,i,λg d o e1 r1 f1=>h S U H d l g o m t Q ⟨e1,r1,f1⟩ e λv j F e2 r2 f2=>k v j F (e1.trans e2) r2 f2⟩
def kh(q:bV X (.builtin d) r)(g:dj G r f)(o:Gl X x)(n:X.mg x=Z)(h:bootBuiltins x=Y (.builtin d))(u:PVs G X (e :: es) cs)(j:{`q0,x ≠ "__name__"})(w:{`q0,K2 x})(he:{`q1,K0 e es X})(y:{`q1,K1 pos es X}):PV G X (.Call (.Name x p) (e :: es) [] pos) (eN f cs) :=
 PE.weak (dW q o n h u j w he y) λO H Q i=>by
  obtain⟨S,U,m,t,s,e,k⟩:=i;obtain⟨l,v,e⟩:=zZ.mp e;exact uK g s v e k
def eK{G:Gx}{X:Cx}{es:List Expr}{cs:As}{pos p:Pos}{r:List V->Hp->VK->Prop}{f:We->Wd}{Ty:String}{x:Str}(o:bV X (.type Ty) r)(d:dj G r f)(n:Gl X x)(j:X.mg x=Z)(g:bootBuiltins x=Y (.type Ty))(q:PVs G X (e :: es) cs)(i:{`q0,x ≠ "__name__"})(v:{`q0,K2 x})(he:{`q1,K0 e es X})(w:{`q1,K1 pos es X}):PV G X (.Call (.Name x p) (e :: es) [] pos) (eN f cs) :=
 PE.weak (i8 o n j g q i v he w) λO H Q h=>by
  obtain⟨S,U,m,t,s,e,k⟩:=h;obtain⟨l,u,e⟩:=zZ.mp e;exact uK d s u e k
def bY(h:PVs G X es cs):PV G X (.List es pos) (b9 cs):=PE.weak (wg h) λO H Q f=>by
 obtain⟨S,U,m,t,s,e,k⟩:=f;obtain⟨l,i,e⟩:=zZ.mp e;refine⟨S,U,l,s,i,λd n o e1 r1 f1=>?_⟩;have A:Args G S U H n l d o:=⟨e1,r1,f1⟩
 obtain⟨_,g,_⟩:=ju e;refine⟨by rw[r1.len.1,← cX];exact g,eg e1 e r1 (f1.join A.len) λv j F e2 r2 f2=>k v j F (e1.trans e2) r2 f2⟩
def mh{x1}(h:PVs G X es cs):PV G X (.Tuple es x1 pos) (lL cs):=PE.weak (qW h) λO H Q d=>by
 obtain⟨S,U,m,t,s,e,k⟩:=d;obtain⟨l,n,e⟩:=zZ.mp e;refine⟨S,U,l,s,n,λf g i e1 r1 f1=>?_⟩;have A:Args G S U H g l f i:=⟨e1,r1,f1⟩
 unfold nq at e;split at e
 ·rename_i j;cases e;refine⟨by rw[r1.len.1,← cX,trees,zT];exact j,λq d=>?_⟩;have r2:Rp G (upd g q (.tup f)) (.ref q) (.tup (trees l)) i.flatten:=.tup av (r1.same (bO d));exact k _ _ _ (e1.trans (bO d)) r2 (Fp.up (f1.join A.len) r2)
 ·cases e
def rT(r:Rp G H v t F)(h:En t=Y k):vU G.K v H k:=by
 cases r with
 |non=>cases h;rfl
 |bl b=>cases h;rfl
 |int i=>cases h;rfl
 |str s j =>
  cases h;refine⟨by rw[cq,← cX];exact j.1,?_⟩;rw[cq];cases s with
  |nil=>rfl
  |cons a r =>
   have:((List.length (a :: r):Int) != 0)=J:=by simp;lia
   rw[this];rfl
 |scr d=>cases h
 |tup d q =>
  cases h;refine .inr (.inl ⟨_,AR.of d,?_⟩);have:=q.len.1;rename_i f g _;cases f<;>cases g<;>simp_all
 |lst d q =>
  cases h;refine .inl ⟨_,Aj.of d,?_⟩;have:=q.len.1;rename_i f g _;cases f<;>cases g<;>simp_all
 |dct d j q =>
  cases h;refine .inr (.inr ⟨_,d,?_⟩);have:=q.len.1;rename_i l f g _;cases l<;>cases f<;>cases g<;>simp_all
 |dctT d j q=>cases h
 |dctN d j n q=>cases h
 |dctZ _ _ _=>cases h
 |exc _ _=>cases h
 |ins _ _ _ _=>cases h
 |mk _ _=>cases h
def dD(h:PV G X a ca)(d:{`q1,X.K=G.K})(he:{`q2,∀whole,isTrue a X.env whole=(do let v ← whole;standAt a.pos;holding [v] (truthy v))}):Cp G X a ca :=
 PT.weak (o5 h he) λO H Q ⟨S,U,m,r,b,s,e,f,k⟩=>⟨S,U,m,r,s,e,λv g F e1 r1 f1=>⟨b,by rw[d];exact rT r1 f,k g e1⟩⟩
def CK(G:Gx)(X:Cx)(e:Expr)(c:Ex):Prop:=PW X e (tT G c)
def PW.weak{X:Cx}{e:Expr}(h:PW X e t)(w:∀O H Q,f O H Q->t O H Q):PW X e f:=λg d s O H Q I q=>h g d s O H Q I (w O H Q q)
def CK.ET(h:CK G X e ca):Cp G X e ca:=PW.pt h
def kg(e:dX ca cb U=Y (m,r)):(∃n,ca U=Y (n,.bl J)/\cb U=Y (m,r))\/(∃n,ca U=Y (n,.bl L)/\m=.fr/\r=.bl L):=by
 obtain⟨⟨n,x⟩,d,e⟩:=zZ.mp e;split at e
 ·rename_i h;cases (h);exact .inl ⟨n,d,e⟩
 ·rename_i h;cases (h);cases e;exact .inr ⟨n,d,rfl,rfl⟩
 ·cases e
def r6(e:Dg ca cb U=Y (m,r)):(∃n,ca U=Y (n,.bl L)/\cb U=Y (m,r))\/(∃n,ca U=Y (n,.bl J)/\m=.fr/\r=.bl J):=by
 obtain⟨⟨n,x⟩,d,e⟩:=zZ.mp e;split at e
 ·rename_i h;cases (h);cases e;exact .inr ⟨n,d,rfl,rfl⟩
 ·rename_i h;cases (h);exact .inl ⟨n,d,e⟩
 ·cases e
def ny{G:Gx}{X:Cx}{a:Expr}{ca cb:Ex}{pos:Pos}{rest:List Expr}(j:Cp G X a ca)(i:CK G X (.BoolOp .And (b :: rest) pos) cb):CK G X (.BoolOp .And (a :: b :: rest) pos) (dX ca cb) :=
 PW.weak (vP j i) λO H Q h=>by
  obtain⟨S,U,m,r,k,s,e,f,q⟩:=h;rcases kg e with⟨n,d,e2⟩ | ⟨n,d,rfl,rfl⟩
  ·refine⟨S,U,n,_,J,s,d,rfl,λg e1=>?_⟩;refine oF ?_;exact⟨S,U,m,r,k,s.same e1,e2,f,λl e2=>q l (e1.trans e2)⟩
  ·refine⟨S,U,n,_,L,s,d,rfl,λg e1=>?_⟩;refine n6 ?_;cases f;exact q g e1
def mD{G:Gx}{X:Cx}{a:Expr}{ca cb:Ex}{pos:Pos}{rest:List Expr}(j:Cp G X a ca)(i:CK G X (.BoolOp .Or (b :: rest) pos) cb):CK G X (.BoolOp .Or (a :: b :: rest) pos) (Dg ca cb) :=
 PW.weak (yg j i) λO H Q h=>by
  obtain⟨S,U,m,r,k,s,e,f,q⟩:=h;rcases r6 e with⟨n,d,e2⟩ | ⟨n,d,rfl,rfl⟩
  ·refine⟨S,U,n,_,L,s,d,rfl,λg e1=>?_⟩;refine n6 ?_;exact⟨S,U,m,r,k,s.same e1,e2,f,λl e2=>q l (e1.trans e2)⟩
  ·refine⟨S,U,n,_,J,s,d,rfl,λg e1=>?_⟩;refine oF ?_;cases f;exact q g e1
def ku(e:eQ ca U=Y (m,r)):∃n b,ca U=Y (n,.bl b)/\m=.fr/\r=.bl (!b):=by
 obtain⟨⟨n,x⟩,d,e⟩:=zZ.mp e;split at e
 ·rename_i b h;cases (h);cases e;exact⟨n,b,d,rfl,rfl⟩
 ·cases e
def dO(f:Cp G X a ca):Cp G X (.UnaryOp .Not a pos) (eQ ca):=PT.weak (vO f) λO H Q d=>by
 obtain⟨S,U,m,r,k,s,e,g,q⟩:=d;obtain⟨n,b,h,rfl,rfl⟩:=ku e;cases g;exact⟨S,U,n,_,b,s,h,rfl,λi e1=>q i e1⟩
def wF(f:PV G X a ca):PV G X (.UnaryOp .Not a pos) (eQ ca):=PE.weak (wX f) λO H Q d=>by
 obtain⟨S,U,m,r,s,e,q⟩:=d;obtain⟨n,b,g,rfl,rfl⟩:=ku e;exact⟨S,U,n,_,s,g,λv h F e1 r1 f1=>⟨b,r1.AK,q _ h _ e1 (.bl _) Fp.nil⟩⟩
def gY{op}(h:PV G X a ca):PV G X (.BoolOp op [a] pos) ca:=vw h
def eZ{G:Gx}{X:Cx}{a:Expr}{ca cb:Ex}{pos:Pos}{rest:List Expr}(i:PV G X a ca)(h:PV G X (.BoolOp .And (b :: rest) pos) cb):PV G X (.BoolOp .And (a :: b :: rest) pos) (dX ca cb) :=
 PE.weak (vn i h) λO H Q g=>by
  obtain⟨S,U,m,r,s,e,q⟩:=g;rcases kg e with⟨n,d,e2⟩ | ⟨n,d,rfl,rfl⟩
  ·refine⟨S,U,n,_,s,d,λv f F e1 r1 f1=>⟨J,r1.AK,?_⟩⟩;refine oF ?_;exact⟨S,U,m,r,s.same e1,e2,λv j F e2 r2 f2=>q v j F (e1.trans e2) r2 (f2.back e1)⟩
  ·refine⟨S,U,n,_,s,d,λv f F e1 r1 f1=>⟨L,r1.AK,?_⟩⟩;refine n6 ?_;exact q _ f _ e1 (.bl _) Fp.nil
def uQ(h:Cp G X c cc)(j:PV G X a ca)(i:PV G X b cb):PV G X (.IfExp c a b pos) (DB cc ca cb) :=
 PE.weak (oR h j i) λO H Q g=>by
  refine L2.aw λt f=>?_;obtain⟨S,U,m,r,s,e,q⟩:=g;obtain⟨⟨n,x⟩,o,e⟩:=zZ.mp e;obtain⟨k,l,e⟩:=zZ.mp e;refine f ?_;refine⟨S,U,n,x,k,s,o,l,λu e1=>?_⟩;cases k with
  |true =>
   rw[Zq M]at e;refine oF ?_;exact⟨S,U,m,r,s.same e1,e,λv d F e2 r2 f2=>q v d F (e1.trans e2) r2 (f2.back e1)⟩
  |false =>
   rw[Zl Zp]at e;refine n6 ?_;exact⟨S,U,m,r,s.same e1,e,λv d F e2 r2 f2=>q v d F (e1.trans e2) r2 (f2.back e1)⟩
end
section
def xa.one{H:Hp}(r:xa G H d [t] f):∃v F,d=[v]/\f=[F]/\Rp G H v t F:=by
 cases r with
 |cons r q=>cases q;exact⟨_,_,rfl,rfl,r⟩
def yc(K:Xe):List V->Hp->VK->Prop:=λd H Q=>(∃x n,d=[x]/\xY K x H n/\Q (.int n) H)\/(∃a f,d=[V.ref a]/\H a=Y (.dK f)/\Q (.int f.length) H)
def ma:bV X (.builtin "len") (λf H Q=>∃a d,f=[V.ref a]/\H a=Y (.dK d)/\Q (.int d.length) H):=by
 intro g s O H f m Q I r h;obtain⟨a,d,rfl,j,q⟩:=h;obtain⟨u,rfl,i⟩:=vals1 r;cases i;exact yp I (.inl j) λt n l=>⟨.int d.length,H,l,⟨t,rfl⟩,q⟩
def oj:bV X (.builtin "len") (yc X.K):=qi.or ma
def vc:dj G (yc G.K) cQ:=by
 intro S U z H l j B m t Q A e k;refine L2.aw λy f=>?_;unfold cQ at e;split at e
 ·rename_i x;obtain⟨u,x⟩:=x;obtain⟨n,d,e⟩:=z9.mp e;cases e;obtain⟨v,F,rfl,rfl,r⟩:=(A.rp).one;have fin:=bg k (.int _);cases r with
  |non=>cases d
  |bl b=>cases d
  |int i=>cases d
  |str s g =>
   cases d;refine f ?_;exact .inl ⟨_,_,rfl,⟨by rw[cq,← cX];exact g.1,rfl⟩,by rw[cq];exact fin⟩
  |scr h =>
   cases d;refine f ?_;refine .inl ⟨_,_,rfl,.inl ⟨_,h.seq,rfl⟩,?_⟩;rw[zT];exact fin
  |tup h q =>
   cases d;refine f ?_;refine .inl ⟨_,_,rfl,.inr ⟨_,AR.of h,rfl⟩,?_⟩;rw[q.len.1];exact fin
  |lst h q =>
   cases d;refine f ?_;refine .inl ⟨_,_,rfl,.inl ⟨_,Aj.of h,rfl⟩,?_⟩;rw[q.len.1];exact fin
  |dct h g q =>
   cases d;refine f ?_;refine .inr ⟨_,_,rfl,h,?_⟩;rename_i w ws o _;rw[XH,zT]at fin;rw[XH,q.len.1];exact fin
  |dctT h g q=>cases d
  |dctN h g n q=>cases d
  |dctZ _ _ _=>cases d
  |exc _ _=>cases d
  |ins _ _ _ _=>cases d
  |mk _ _=>cases d
 ·cases e
def uV(K:Xe):List V->Hp->VK->Prop:=λf H Q=>∃p d,f=[.ref p]/\(Aj K H p d\/AR K H p d)/\∀l,H l=Z->Q (.ref l) (upd H l (.lst d))
def nA:dj G (uV G.K) va:=by
 intro S U n H l j o m t Q A e k;unfold va at e;split at e
 ·rename_i i x;obtain⟨v,F,rfl,rfl,f⟩:=(A.rp).one;obtain⟨a,d,Gs,rfl,rfl,h,g⟩:=f.lst_inv;exact⟨a,d,rfl,.inl (Aj.of h),eg A.same e g ((A.fp.each 0 _ _ M M).sub (Yn _ _)) k⟩
 ·rename_i i x;obtain⟨v,F,rfl,rfl,f⟩:=(A.rp).one;obtain⟨a,d,Gs,rfl,rfl,h,g⟩:=f.AW;exact⟨a,d,rfl,.inr (AR.of h),eg A.same e g (A.fp.each 0 _ _ M M) k⟩
 ·cases e
def tO(G:Gx)(c:Option Ex):TO:=λO H Q=>∃S U o,SR G S U O H/\kT c U=Y o/\∀d,aC H d->Q o d
def GG(G:Gx)(X:Cx)(e:Option Expr)(c:Option Ex):Prop:=PO X e (tO G c)
def PO.weak{X:Cx}{e:Option Expr}(h:PO X e t)(w:∀O H Q,f O H Q->t O H Q):PO X e f:=λd s O H Q I q=>h d s O H Q I (w O H Q q)
def ba:GG G X Z Z:=PO.weak ub λO H Q d=>by
 obtain⟨S,U,o,s,e,k⟩:=d;cases (e);exact k H (aC.refl _)
def aP(h:PV G X a ca):GG G X (Y a) (Y ca):=PO.weak (ud h) λO H Q f=>by
 obtain⟨S,U,o,s,e,k⟩:=f;obtain⟨⟨m,y⟩,g,e⟩:=zZ.mp (e);obtain⟨i,d,e⟩:=z9.mp e;cases e;refine⟨S,U,m,y,s,g,λv l F e1 r1 f1=>?_⟩;cases y with
 |int j =>
  cases d;exact⟨_,r1.int_inv,k l e1⟩
 |_=>cases d
def fX{α:Type}(l:List α)(d f:Option Int):cut l d f=(l.drop (HT.Av l.length 0 d)).take (HT.Av l.length l.length f-HT.Av l.length 0 d):=by
 cases d<;>cases f<;>rfl
theorem Cw(a:Int)(n:Nat):max 0 (min a (n:Int))=((min a.toNat n:Nat):Int):=L2.Cw a n
def Gd{k:Nat}(h:(k:Nat)<=n):max 0 (min (k:Int) (n:Int))=(k:Int):=by rw[Cw,ZU,ZE h]
def sk(a:Int)(n:Nat):max 0 (min a (n:Int))=max 0 (min ((min a.toNat n:Nat):Int) (n:Int)):=by
 rw[Cw,Cw,ZU,Nat.min_assoc,XQ]
def oY(d f:Option Int)(n:Nat):Builtin.Str.strSliceIndices d f 1 n=Builtin.Str.strSliceIndices (Y ((min (HT.Av n 0 d) n:Nat):Int)) (Y ((min (HT.Av n n f) n:Nat):Int)) 1 n:=by
 have nn:∀k:Nat,¬((k:Int)<0):=λk=>by lia
 unfold Builtin.Str.strSliceIndices;simp only[show (1:Int) > 0 by decide,if_true,nn,if_false];congr 1
 ·cases d with
  |none=>simp only[HT.Av];rw[Cw,ZU,Nat.zero_min,Nat.zero_min];rfl
  |some i =>
   simp only[HT.Av];by_cases h:i<0
   ·simp only[h,if_true];exact sk _ _
   ·simp only[h,if_false];rw[Nat.min_assoc,XQ];exact sk _ _
 ·cases f with
  |none=>simp only[HT.Av];rw[Cw,ZU,XQ,XQ]
  |some i =>
   simp only[HT.Av];by_cases h:i<0
   ·simp only[h,if_true];exact sk _ _
   ·simp only[h,if_false];rw[Nat.min_assoc,XQ];exact sk _ _
def iD(s:Tx)(d f:Option Int):PySem.StrLaws.sliceText (sx s) d f=sx (cut s d f):=by
 have key:PySem.StrLaws.sliceText (sx s) d f=PySem.StrLaws.sliceText (sx s) (Y ((min (HT.Av s.length 0 d) s.length:Nat):Int)) (Y ((min (HT.Av s.length s.length f) s.length:Nat):Int)):=by
  unfold PySem.StrLaws.sliceText;rw[cq,oY]
 rw[key];have hd:∀a:Nat,s.drop (min a s.length)=s.drop a:=λa=>by
  by_cases h:a<=s.length
  ·rw[ZE h]
  ·rw[Xw (by exact Xv h),Yl (Zy _),Yl (by exact Xv h)]
 by_cases h:min (HT.Av s.length 0 d) s.length<=min (HT.Av s.length s.length f) s.length
 ·rw[PySem.StrLaws.sliceText_nat (sx s) h (by rw[cq];exact YJ _ _),fX];show (⟨_⟩:Str)=⟨_⟩;congr 2;have:(sx s).cps.toList=s:=rfl;rw[this,hd];by_cases i:HT.Av s.length 0 d<=s.length
  ·rw[ZE i];by_cases g:HT.Av s.length s.length f<=s.length
   ·rw[ZE g]
   ·rw[Xw (by exact Xv g),Z2 (by rw[ZX];exact Zy _),Z2 (by rw[ZX];lia)]
  ·rw[Yl (by exact Xv i)];simp
 ·have j:cut s d f=[]:=by
   rw[fX];have:HT.Av s.length s.length f-HT.Av s.length 0 d=0:=by omega
   rw[this,List.take_zero]
  rw[j];unfold PySem.StrLaws.sliceText;have e2:Builtin.Str.strSliceIndices (Y ((min (HT.Av s.length 0 d) s.length:Nat):Int)) (Y ((min (HT.Av s.length s.length f) s.length:Nat):Int)) 1 (sx s).length=[]:=by
   have e1:∀k:Nat,¬((k:Int)<0):=λk=>by lia
   unfold Builtin.Str.strSliceIndices sliceRange;simp only[show (1:Int) > 0 by decide,if_true,e1,if_false,cq];rw[Gd (YJ _ _),Gd (YJ _ _),Zl λz=>h (Y5 (Wt.mp z))];rfl
  rw[e2];have:¬((1:Int)==1&&([]:Wi).length==(sx s).length)=J:=by
   rw[cq];simp;lia
  rw[Zl this];rfl
noncomputable def yo:V->Option Int->Option Int->Hp->VK->Prop:=λx lo hi H Q=>∃z,x=.str z/\z.length<=FB/\Q (.str (PySem.StrLaws.sliceText z lo hi)) H
def part_of(h:IsPart v o):∃q:Option (Int×Tok),v=partValue q/\o=q.map (·.1):=by
 cases h with
 |none=>exact⟨Z,rfl,rfl⟩
 |int i t=>exact⟨Y (i,t),rfl,rfl⟩
def jG{α β:Type}(f:α->Option β)(l:List α):(l.filterMap f).length<=l.length:=List.length_filterMap_le f l
def tj(d f:Option Int)(n:Nat):(Builtin.Str.strSliceIndices d f 1 n).length<=n:=by
 rw[oY];by_cases h:min (HT.Av n 0 d) n<=min (HT.Av n n f) n
 ·rw[PySem.StrLaws.strSliceIndices_plain h (by exact YJ _ _),zT,Ya];lia
 ·have e1:∀k:Nat,¬((k:Int)<0):=λk=>by lia
  unfold Builtin.Str.strSliceIndices sliceRange;simp only[show (1:Int) > 0 by decide,if_true,e1,if_false];rw[Gd (YJ _ _),Gd (YJ _ _),Zl λz=>h (Y5 (Wt.mp z))];simp
def vM:DE X yo:=by
 intro f s O H x v o n lo hi r Q I g m pl pu h;refine L2.aw λw i=>?_;obtain⟨z,rfl,j,q⟩:=h;obtain⟨t,rfl⟩:=g;obtain⟨l,rfl,rfl⟩:=part_of pl;obtain⟨u,rfl,rfl⟩:=part_of pu;refine i ?_;refine⟨"str",_,F.slot_str_getitem.lookup,Xm s z t,wpAny_getItem_str_slice (l:=l) (u:=u) (st:=Z) m M ?_⟩;unfold sliceMade;split
 ·rename_i d;refine⟨.str z,H,I,⟨t,rfl⟩,?_⟩;have e:PySem.StrLaws.sliceText z (l.map (·.1)) (u.map (·.1))=z:=by
   exact Zq d
  rw[e]at q;exact q
 ·rename_i d;refine⟨Zu ?_ j,.str _,H,I.tok _,⟨_,rfl⟩,?_⟩
  ·show (List.filterMap _ _).toArray.size<=_;rw[Zk];exact Zu (jG _ _) (tj _ _ _)
  ·have e:PySem.StrLaws.sliceText z (l.map (·.1)) (u.map (·.1))=⟨((slicePicked z l u Z).filterMap (z.cps[·]?)).toArray⟩:=by
    exact Zl d
   rw[e]at q;exact q
def Kl(K:Xe):V->Option Int->Option Int->Hp->VK->Prop:=λx lo hi H Q=>yo x lo hi H Q\/x9 K x lo hi H Q
def zw:DE X (Kl X.K):=vM.or rY
def ui{α:Type}(l:List α)(d f:Option Int):(cut l d f).length<=l.length:=by
 rw[fX,ZD,ZX];lia
theorem xa.cut(r:xa G H g i j)(d f:Option Int):xa G H (rQ g d f) (VS.cut i d f) (VS.cut j d f):=by
 have h:=r.len;rw[fX,fX,h.2];unfold rQ;rw[h.1];exact(r.drop _).take _
def mZ{α:Type}(l:List α)(d f:Option Int):(VS.cut l d f).Sublist l:=by
 rw[fX];exact(List.take_sublist _ _).trans (List.drop_sublist _ _)
def pV{F G:Xl}(h:F.Sublist G):F.flatten.Sublist G.flatten:=by
 induction h with
 |slnil=>exact Xb _
 |cons a _ d=>rw[Zn];exact d.trans (List.sublist_append_right _ _)
 |cons_cons a _ d=>rw[Zn,Zn];exact(Xb _).append d
def aR{i:Option Expr}(P:PV G X a ca)(d:GG G X i o)(M:GG G X j r)(R:{`q1,X.K=G.K}):PV G X (.Subscript a (.Slice i j Z B) pos) (Aq ca o r) :=
 PE.weak (rO zw P d M) λO H Q I=>by
  refine L2.aw λP_ E=>?_;obtain⟨S,U,m,t,s,e,k⟩:=I;obtain⟨⟨C,x⟩,ea,n⟩:=zZ.mp e;obtain⟨l,el,u⟩:=zZ.mp n;obtain⟨h,eh,f⟩:=zZ.mp u;refine E ?_;clear e n u;refine⟨S,U,C,x,s,ea,λv H1 F e1 r1 f1=>⟨S,U,l,s.same e1,el,λH2 e2=>⟨S,U,h,(s.same e1).same e2,eh,λH3 e3=>?_⟩⟩⟩;have g:=(e1.trans e2).trans e3;have r3:=(r1.same e2).same e3;unfold Es at f;split at f
  ·rename_i D z q;cases q;cases f;obtain⟨rfl,d⟩:=r3.str_inv;refine .inl ⟨_,rfl,by rw[cq,← cX];exact d.1,?_⟩;rw[iD];exact k _ H3 _ g (.str _ ⟨Zu (ui _ _ _) d.1,λc N=>d.2 c ((mZ _ _ _).subset N)⟩) Fp.nil
  ·rename_i D z q;cases q;obtain⟨a',w,Fs,rfl,rfl,AQ,y⟩:=r3.lst_inv;refine .inr ⟨a',w,rfl,by rw[R];exact Aj.of AQ,eg g f (y.cut l h) ((f1.sub (Yn _ _)).sub (pV (mZ _ _ _))) λv H4 F e5 A W=>k v H4 F (g.trans e5) A W⟩
  ·cases f
noncomputable def Cj:Ty->String
 |.int => "int"
 |.str => "str"
 |.bool => "bool"
 |.list => "list"
 |.tuple => "tuple"
 |.dict => "dict"
def Km(K:Xe):List V->Hp->VK->Prop:=λd H Q=>∃x c t b,d=[x,.ty c]/\AO K H x t/\PySem.W.kitOne K t (.type c)=Y b/\Q (.bl b) H
def uh:bV X (.builtin "isinstance") (Km X.K):=by
 intro d s O H f i Q I r h;obtain⟨x,c,t,b,rfl,ty,e,q⟩:=h;obtain⟨u,g,rfl,r1,r2⟩:=vals2 r;cases r2;exact nZ I r1 ty e λj=>⟨.bl b,H,I.tok _,rfl,q⟩
def sM(K:Xe)(d:Ty):(PySem.W.kitOne K (.type "NoneType") (.type (Cj d))=Y L)/\(PySem.W.kitOne K (.type "bool") (.type (Cj d))=Y (kb d (.bl J)))/\(PySem.W.kitOne K (.type "int") (.type (Cj d))=Y (kb d (.int 0))) ∧
  (PySem.W.kitOne K (.type "str") (.type (Cj d))=Y (kb d (.str [])))/\(PySem.W.kitOne K (.type "list") (.type (Cj d))=Y (kb d (.lst [])))/\(PySem.W.kitOne K (.type "tuple") (.type (Cj d))=Y (kb d (.tup [])))/\(PySem.W.kitOne K (.type "dict") (.type (Cj d))=Y (kb d (.dct 0 []))):=by
 cases d<;>refine⟨?_,?_,?_,?_,?_,?_,?_⟩<;>kernel_rfl
def xD(d:Ty)(r:Rp G H v t F)(h:mO t=J):∃g,AO G.K H v g/\PySem.W.kitOne G.K g (.type (Cj d))=Y (kb d t):=by
 obtain⟨k1,k2,k3,k4,k5,k6,k7⟩:=sM G.K d;cases r with
 |non=>exact⟨_,.non,by rw[k1];cases d<;>rfl⟩
 |bl b=>exact⟨_,.bl b,by rw[k2];cases d<;>rfl⟩
 |int i=>exact⟨_,.int i,by rw[k3];cases d<;>rfl⟩
 |str s _=>exact⟨_,.str _,by rw[k4];cases d<;>rfl⟩
 |scr _=>cases h
 |tup f q=>exact⟨_,.tup f,by rw[k6];cases d<;>rfl⟩
 |lst f q=>exact⟨_,.lst f,by rw[k5];cases d<;>rfl⟩
 |dct f l q=>exact⟨_,.dK f,by rw[k7];cases d<;>rfl⟩
 |dctT f l q=>exact⟨_,.dT f,by rw[k7];cases d<;>rfl⟩
 |dctN f l n q=>simp at h
 |dctZ _ _ _=>cases h
 |exc _ _=>cases h
 |ins _ _ _ _=>cases h
 |mk _ _=>cases h
def xS(f:Ty)(B:PV G X a ca)(A:Gl X "isinstance")(w:X.mg "isinstance" = Z)(N:Gl X x)(P:X.mg x=Z)(q:bootBuiltins x=Y (.type (Cj f)))(i:{`q1,X.K=G.K})(u:{`q0,x ≠ "__name__"})(R:{`q0,K2 x})(h:{`q1,KB [a,.Name x d] X.env=(L,eval a X.env) :: KB [.Name x d] X.env})(A5:{`q1,KB [.Name x d] X.env=(L,eval (.Name x d) X.env) :: KB [] X.env})(W:{`q1,(backTo pos (KB [Expr.Name x d] X.env)).any (·.1)=L}) :
  PV G X (.Call (.Name "isinstance" l) [a,.Name x d] [] pos) (DA f ca) :=
 PE.weak (dW uh A w boot_isinstance (bH B (bH (m6 (v:=.ty (Cj f)) N P q M u R) dq A5) h) (by decide) M h W) λO H Q r=>by
  refine L2.aw λP_ o=>?_;obtain⟨S,U,m,t,s,e,k⟩:=r;obtain⟨⟨n,y⟩,E,g⟩:=zZ.mp e;refine o ?_;split at g
  ·rename_i z;cases g;refine⟨S,U,n,y,s,E,λv I F e1 r1 f1=>?_⟩;obtain⟨j,D,C⟩:=xD f r1 z;exact⟨v,Cj f,j,_,rfl,by rw[i];exact D,by rw[i];exact C,k _ I _ e1 (.bl _) Fp.nil⟩
  ·cases g
end
section
def wN(G:Gx)(r:V->List V->Hp->VK->Prop)(f:Val->We->Wd):Prop:=∀(S:Ac)(U:VS.Env)(d i H:Hp)(x:Val)(v:V)(F:Wl)(l:We)(h:List V)(j:Xl)(m:Md)(t:T)(Q:VK),
 aC d i->Rp G H v x.2 F->Fp S U d x.1 F->Args G S U i H l h j->f x l=Y (m,t)->(∀v g F,aC H g->Rp G g v t F->Fp S U d m F->Q v g)->r v h H Q
def uH{g:Pos}(y:PlainAttrs n)(h:Slot n d j)(Fb:typeOf (.builtin j)=pure (.type "method_descriptor"))(I:FP X j r)(A:wN G r f)(N:∀H v (x:Val) F l z,Rp G H v x.2 F->f x l=Y z->DG G.K n v H)(E:PV G X a ca)(M:PVs G X (e :: es) cs)(P:{`q1,X.K=G.K})(An:{`q1,NH a d X.env (eval a X.env)=eval a X.env})(A6:{`q1,((backTo i (KB (e :: es) X.env)).all (λx=>!x.1)&&(backToKw i (NC [] X.env)).all (λx=>x.1.isSome)
   && decide ((e :: es).length+([]:List Keyword).length+(if ([]:List Keyword).isEmpty then 0 else 1)<30))=J})(Am:{`q1,(g.endLine==i.line)=J})(C:{`q1,K0 e es X})(Al:{`q1,K1 i es X}) :
  PV G X (.Call (.Attribute a d g) (e :: es) [] i) (eM f ca cs) :=
 PE.weak (uU y h Fb I E M An A6 Am C Al) λO H Q D=>by
  refine L2.aw λP_ B=>?_;obtain⟨S,U,m,t,s,e,k⟩:=D;obtain⟨x,W,e'⟩:=zZ.mp e;obtain⟨l,R,q⟩:=zZ.mp e';refine B ?_;refine⟨S,U,x.1,x.2,s,W,λv o F e1 r1 f1=>⟨by rw[P];exact N o v x F l _ r1 q,S,U,l,s.same e1,R,λu H2 Fs e2 r2 f2=>?_⟩⟩;exact A S U H o H2 x v F l u Fs m t Q e1 (r1.same e2) f1 ⟨e2,r2,f2⟩ q λw H3 F' e3 r3 f3=>k w H3 F' ((e1.trans e2).trans e3) r3 f3
def nJ:∀(sep:Tx)(d:List Tx),Txt.join (sx sep) (d.map sx)=sx (ar sep d):=by
 intro sep d;have fold:∀(l:List Tx)(acc:Tx),(l.map sx).foldl (λacc p=>acc++(sx sep).cps++p.cps) acc.toArray=(l.foldl (λacc p=>acc++sep++p) acc).toArray:=by
  intro l
  induction l with
  |nil=>intro acc;rfl
  |cons x r f =>
   intro acc;rw[Zd,XG,XG,← f];congr 1;simp[sx]
 have g:∀(r:List Tx)(acc:Tx),r.foldl (λacc p=>acc++sep++p) acc=ar sep (acc :: r):=by
  intro r
  induction r with
  |nil=>intro acc;rfl
  |cons x r f =>
   intro acc;rw[XG,f];cases r with
   |nil=>rfl
   |cons y r=>simp[ar]
 cases d with
 |nil=>rfl
 |cons x r =>
  show (⟨_⟩:Str)=⟨_⟩;congr 1;show ((r.map sx).foldl _ x.toArray)=_;rw[fold,g]
theorem jz:∀{d:List V}{l:Wc}{g:Xl}{f:List Tx},xa G H d l g->strs? l=Y f->d=f.map λs=>V.str (sx s)
 |_,_,_,_,.nil,e=>by cases e;rfl
 |_,_,_,_,.cons (t:=t) r q,e=>by
  cases t with
  |str s =>
   obtain⟨h,e1,e2⟩:=z9.mp e;subst e2;rw[jz q e1,r.str_inv.1];rfl
  |_=>cases e
theorem gT:∀{d:List Tx}{f:Wk},aA (d.map λs=>V.str (sx s)) f->StrsAre f (d.map sx)
 |[],_,h=>by cases h;exact .nil
 |s :: d,_,h=>by
  cases h with
  |cons r q =>
   obtain⟨t,rfl⟩:=r;exact .cons _ _ (gT q)
def rJoin(K:Xe):V->List V->Hp->VK->Prop:=λx f H Q=>∃sep p d,x=.str (sx sep)/\f=[.ref p]/\Aj K H p (d.map λs=>V.str (sx s))/\total d+d.length*sep.length<=16777216/\Q (.str (sx (ar sep d))) H
theorem mJ:∀d:List Tx,((d.map sx).map (·.length)).sum=total d
 |[]=>rfl
 |s :: r=>by
  rw[Zd,Zd,List.sum_cons,mJ r,cq];rfl
def sS:FP X "str.join" (rJoin X.K):=by
 intro d s O H x n v o Q I f m h;refine L2.aw λB i=>?_;obtain⟨sep,p,y,rfl,rfl,j,l,q⟩:=h;obtain⟨t,rfl⟩:=f;obtain⟨u,rfl,g⟩:=vals1 m;cases g;obtain⟨A,r,pl,z⟩:=I.list j;refine i ?_;refine join_list pl.isList (by simpa using gT r) ?_ λw k=>⟨.str _,H,I.tok _,⟨_,by rw[nJ]⟩,q⟩
 rw[mJ,zT,cq];exact l
theorem gZ(d:Tx):∀f:List Tx,(ar d f).length<=total f+f.length*d.length
 |[]=>by simp[ar,total]
 |[x]=>by simp[ar,total]
 |x :: y :: r=>by
  have:=gZ d (y :: r);simp only[ar,total,zW,Zj]at this ⊢;lia
theorem h9(d:Tx):∀(f:List Tx)(c:Nat),c∈ar d f->c∈d\/∃s∈f,c∈s
 |[],c,h=>by simp[ar]at h
 |[x],c,h=>.inr ⟨x,zU,h⟩
 |x :: y :: r,c,h=>by
  simp only[ar,Zv]at h;rcases h with (h | h) | h
  ·exact .inr ⟨x,zU,h⟩
  ·exact .inl h
  ·refine(h9 d (y :: r) c h).imp id λj=>?_;obtain⟨s,g,i⟩:=j;exact⟨s,zV _ g,i⟩
theorem gP:∀{g:List V}{l:Wc}{h:Xl}{f:List Tx},xa G H g l h->strs? l=Y f->∀s∈f,∀c∈s,c<1114112
 |_,_,_,_,.nil,e,s,d=>by cases e;simp at d
 |_,_,_,_,.cons (t:=t) r q,e,s,d=>by
  cases t with
  |str x =>
   obtain⟨i,e1,e2⟩:=z9.mp e;subst e2;rcases Zz.mp d with rfl | d
   ·exact r.str_inv.2.2
   ·exact gP q e1 s d
  |_=>cases e
def tW:wN G (rJoin G.K) cA:=by
 intro S U N M H x v F l B O m t Q I r f A e k;unfold cA at e;split at e
 ·rename_i C sep D E;obtain⟨d,n,g⟩:=zZ.mp e;split at g
  ·rename_i i;cases g;obtain⟨z,P,rfl,rfl,q⟩:=(A.rp).one;obtain⟨u,ws,Gs,rfl,rfl,j,h⟩:=q.lst_inv;rw[jz h n]at j;refine⟨sep,u,d,r.str_inv.1,rfl,Aj.of j,i,bg k (.str _ ⟨Zu (gZ sep d) i,λc s=>(h9 sep d c s).elim (r.str_inv.2.2 c) λ⟨o,w,y⟩=>gP h n o w c y⟩)⟩
  ·cases g
 ·cases e
def lj(r:Rp G H v t F)(h:∃s,t=.str s):DG G.K "str" v H:=by
 obtain⟨s,rfl⟩:=h;rw[r.str_inv.1];rfl
def dH{d:Pos}(i:PV G X a ca)(j:PVs G X [e] cs)(g:{`q1,X.K=G.K})(m:{`q1,NH a "join" X.env (eval a X.env)=eval a X.env})(q:{`q1,((backTo f (KB [e] X.env)).all (λx=>!x.1)&&(backToKw f (NC [] X.env)).all (λx=>x.1.isSome)
   && decide ([e].length+([]:List Keyword).length+(if ([]:List Keyword).isEmpty then 0 else 1)<30))=J})(n:{`q1,(d.endLine==f.line)=J})(h:{`q1,K0 e [] X})(o:{`q1,(backTo f (KB [] X.env)).any (·.1)=L}) :
  PV G X (.Call (.Attribute a "join" d) [e] [] f) (eM cA ca cs) :=
 uH XS PySem.F.slot_str_join PySem.F.type_str_join (g ▸ sS) tW (λH v x F l z r e=>lj r (by
  unfold cA at e;split at e
  ·exact⟨_,rfl⟩
  ·cases e)) i j g m q n h o
end
end VS
end
section
namespace VS
noncomputable def flat:T->Bool
 |.non=>J
 |.bl _=>J
 |.int _=>J
 |.str _=>J
 |_=>L
@[simp] def zS(x y:Val):Wd:=match y.2 with
 |.dct 0 l=>if kG x.2 then Y (.fr,.bl (ye l x.2).isSome) else Z
 |.lst l=>if flat x.2&&l.all flat then Y (.fr,.bl (l.any λy=>eqT y x.2)) else Z
 |.tup l=>if flat x.2&&l.all flat then Y (.fr,.bl (l.any λy=>eqT y x.2)) else Z
 |_=>Z
@[simp] def zj(x y:Val):Wd:=match zS x y with
 |some (_,.bl b)=>Y (.fr,.bl (!b))
 |_=>Z
def pm{α:Type}(f:T->Option (T×α)):List Ky->T->Option (T×α)
 |[],t=>f t
 |.fld k :: r,t=>match t with
  |.obj (c+1) (q :: fs)=>(fs.findIdx? λp=>p.1==k).bind λi=>(fs[i]?).bind λp=>(pm f r p.2).map λz=>(.obj (c+1) (q :: fs.set i (p.1,z.1)),z.2)
  |_=>Z
 |.un :: r,t=>match t with
  |.obj 0 [(0,.bl true),(m,x)]=>(pm f r x).map λz=>(.obj 0 [(0,.bl J),(m,z.1)],z.2)
  |_=>Z
 |.at k :: r,t=>match t with
  |.lst l=>match k with
   |.int i=>(Be l.length i).bind λj=>(l[j]?).bind λx=>(pm f r x).map λz=>(.lst (l.set j z.1),z.2)
   |_=>Z
  |.dct 0 l=>if kG k then (l.findIdx? λp=>eqT p.1 k).bind λi=>(l[i]?).bind λp=>(pm f r p.2).map λz=>(.dct 0 (l.set i (p.1,z.1)),z.2) else Z
  |_=>Z
end VS
end
section
namespace VS
open PySem PySem.Spec PyProof.Rows L2
section
mutual
def BS:T->PyData
 |.non=>.none
 |.bl b=>.bool b
 |.int i=>.int i
 |.str s=>.str (sx s)
 |.tup l=>.tuple (iE l)
 |.lst l=>.list (iE l)
 |_=>.none
def iE:Wc->List PyData
 |[]=>[]
 |t :: r=>BS t :: iE r
end
def y0(h:dS s):PyData.strOk (sx s)=J:=by
 unfold PyData.strOk sx;simp only[Array.all_eq_true,decide_eq_true_eq];intro i hi;have:s.toArray[i]∈s:=by simp
 have:=h.2 _ this;simpa using this
def wC:(sx s==sx t)=(s==t):=by
 rw[Bool.eq_iff_iff,beq_iff_eq,beq_iff_eq];constructor
 ·intro h;have:(sx s).cps=(sx t).cps:=by rw[h]
  simpa[sx] using this
 ·intro h;rw[h]
mutual
theorem nj:∀(n k:Nat)(t u:T),Bo n t=J->Bo k u=J->PyData.eqv (BS t) (BS u)=eqT t u
 |n,k,t,u,b,a=>by
  cases t with
  |scr _=>cases n<;>cases b
  |dct _ _=>cases n<;>cases b
  |obj _ _=>cases n<;>cases b
  |tup l =>
   cases n with
   |zero=>cases b
   |succ n =>
    cases u with
    |tup r =>
     cases k with
     |zero=>cases a
     |succ k =>
      exact hJ n k l r (ZK.mp b) (ZK.mp a)
    |scr _=>cases k<;>cases a
    |dct _ _=>cases k<;>cases a
    |obj _ _=>cases k<;>cases a
    |_=>rfl
  |lst l =>
   cases n with
   |zero=>cases b
   |succ n =>
    cases u with
    |lst r =>
     cases k with
     |zero=>cases a
     |succ k =>
      exact hJ n k l r (ZK.mp b) (ZK.mp a)
    |scr _=>cases k<;>cases a
    |dct _ _=>cases k<;>cases a
    |obj _ _=>cases k<;>cases a
    |_=>rfl
  |str s =>
   cases u with
   |str r=>exact wC
   |scr _=>cases k<;>cases a
   |dct _ _=>cases k<;>cases a
   |obj _ _=>cases k<;>cases a
   |_=>rfl
  |_ =>
   cases u with
   |scr _=>cases k<;>cases a
   |dct _ _=>cases k<;>cases a
   |obj _ _=>cases k<;>cases a
   |_=>rfl
theorem hJ:∀(n k:Nat)(l r:Wc),(∀t∈l,Bo n t=J)->(∀t∈r,Bo k t=J)->PyData.eqvAll (iE l) (iE r)=jQ l r
 |_,_,[],[],_,_=>rfl
 |_,_,[],_ :: _,_,_=>rfl
 |_,_,_ :: _,[],_,_=>rfl
 |n,k,t :: l,u :: r,d,b=>by
  show (PyData.eqv (BS t) (BS u)&&PyData.eqvAll (iE l) (iE r))=(eqT t u&&jQ l r);rw[nj n k t u (d t zU) (b u zU),hJ n k l r (λx a=>d x (zV _ a)) λx a=>b x (zV _ a)]
end
def Rp.Cs(r:Rp G H v (.tup d) F):∃b a e,v=.ref b/\H b=Y (.tup a)/\xa G H a d e:=by
 cases r with
 |tup h q=>exact⟨_,_,_,rfl,h,q⟩
def Rp.Cy(r:Rp G H v (.lst d) F):∃b a e,v=.ref b/\H b=Y (.lst a)/\xa G H a d e:=by
 cases r with
 |lst h q=>exact⟨_,_,_,rfl,h,q⟩
theorem fS{s:AC}(f:∀{v:V}{t:T}{F:Wl}{u:FS},Rp G H v t F->RelV v u->Bo n t=J->∃b,Reads s.heap u (BS t) b/\(BS t).canLay0=J/\(BS t).depth<=n):∀{d:List V}{a:Wc}{y:Xl}{e:Wk},xa G H d a y->aA d e->(∀t∈a,Bo n t=J) →
  ∃b,ReadsAll s.heap e (iE a) b/\PyData.canLayAll0 (iE a)=J/\PyData.depthAll (iE a)<=n
 |_,_,_,_,.nil,r,_=>by cases r;exact⟨_,.nil,rfl,Yx _⟩
 |_,_,_,_,.cons p q,r,h=>by
  cases r with
  |cons r1 r2 =>
   refine L2.aw λz g=>?_;obtain⟨b,m,l,j⟩:=f p r1 (h _ zU);obtain⟨bs,x,w,o⟩:=fS f q r2 λt i=>h t (zV _ i);refine g ?_;exact⟨_,.cons m x,Z1.mpr ⟨l,w⟩,Nat.max_le.mpr ⟨j,o⟩⟩
def ic(r:Rp G H v t F)(a:RelV v u)(d:flat t=J):∃e,Reads h u (BS t) e/\(BS t).canLay0=J/\(BS t).depth<=n:=by
 cases r with
 |non=>cases a;exact⟨_,.none,rfl,Yx _⟩
 |bl b=>cases a;exact⟨_,.bool b,rfl,Yx _⟩
 |int i=>obtain⟨t,rfl⟩:=a;exact⟨_,.int i t,rfl,Yx _⟩
 |str s h=>obtain⟨t,rfl⟩:=a;exact⟨_,.str _ t,y0 h,Yx _⟩
 |_=>cases d
def kN(I:Inv X d O H s)(n:Nat):∀{v:V}{t:T}{F:Wl}{u:FS},Rp G H v t F->RelV v u->Bo n t=J->∃w,Reads s.heap u (BS t) w/\(BS t).canLay0=J/\(BS t).depth<=n:=by
 induction n with
 |zero =>
  intro v t F u r a h;refine ic r a ?_;cases t<;>first | rfl | exact h
 |succ n x =>
  intro v t F u r a h;cases t with
  |tup l =>
   obtain⟨b,y,D,rfl,e,q⟩:=Rp.Cs r;cases a;obtain⟨C,f,z,B⟩:=I.tuple (AR.of e);obtain⟨w,p,m,j⟩:=fS x q f (ZK.mp h);obtain⟨o,g,i,A,hd⟩:=z;exact⟨_,.tuple g i hd (by simpa using p),m,Z7 j⟩
  |lst l =>
   obtain⟨b,y,D,rfl,e,q⟩:=Rp.Cy r;cases a;obtain⟨C,f,pl,B⟩:=I.list (Aj.of e);obtain⟨w,p,m,j⟩:=fS x q f (ZK.mp h);obtain⟨o,g,i,A,hd⟩:=pl.isList;exact⟨_,.list g i hd (by simpa using p),m,Z7 j⟩
  |scr _=>cases h
  |dct _ _=>cases h
  |obj _ _=>cases h
  |_=>exact ic r a M
def x5(G:Gx)(a:Bool):R2:=λx y H Q=>∃t u F b,Rp G H x t F/\Rp G H y u b/\Bo 60 t=J/\Bo 60 u=J/\Q (.bl (if a then !eqT t u else eqT t u)) H
def iX{d:PyData}(h:d.canLay0=J)(a:d.depth<=60):SeqAt.shaped d=J:=by
 unfold SeqAt.shaped;rw[h,XY];exact decide_eq_true (by lia)
def rn(g:X.A.units+64<cLine):OpR X (ND .Eq) (x5 G L):=by
 intro a s O H x y v u Q I f e h;obtain⟨t,w,F,j,r1,r2,d,b,q⟩:=h;obtain⟨i,a1,a2,a3⟩:=kN I 60 r1 f d;obtain⟨bs,b1,b2,b3⟩:=kN I 60 r2 e b;refine eq_dataH a1 b1 (iX a2 a3) (iX b2 b3) g ⟨.bl _,H,I,rfl,?_⟩;rw[nj 60 60 t w d b];exact q
def uZ:dR G (x5 G L) oEq:=by
 intro S U b H x y u w f d m t Q a e k;unfold oEq at e;split at e
 ·rename_i h;cases e;exact⟨_,_,_,_,a.r1,a.r2,h.1,h.2,bg k (.bl _)⟩
 ·cases e
def tells_eq:Tells oEq:=by
 intro x y m t e;unfold oEq at e;split at e<;>first | (cases e;exact⟨_,rfl⟩) | cases e
end
structure Ao(S:Ac)(U:VS.Env)(H:Hp)(S':Ac)(U':VS.Env)(H':Hp):Prop where
 keep:∀a o,H a=some o->¬bE S U a->H' a=some o/\¬bE S' U' a
 Ay:∀a,H a≠none->H' a≠none
 ow:∀a,bE S' U' a->bE S U a\/H a=none
 pu:∀a,cM S' U' a->cM S U a\/bE S U a\/H a=none
 kept:Kept H H'
theorem Ao.refl(S:Ac)(U:VS.Env)(H:Hp):Ao S U H S U H:=⟨λa o h n=>⟨h,n⟩,λ_ h=>h,λ_ h=>.inl h,λ_ h=>.inl h,Kept.refl H⟩
theorem Ao.none(f:Ao S U H g d b)(h:b a=Z):H a=Z:=by
 cases e:H a with
 |none=>rfl
 |some o=>exact absurd h (f.Ay a (by rw[e];exact λz=>nomatch z))
theorem Ao.trans{S e d:Ac}{U U1 b:VS.Env}{H j i:Hp}(f:Ao S U H e U1 j)(g:Ao e U1 j d b i):Ao S U H d b i where
 keep:=λa o h n=>let ⟨m,l⟩:=f.keep a o h n;g.keep a o m l
 Ay:=λa h=>g.Ay a (f.Ay a h)
 ow:=λa h=>by
  rcases g.ow a h with h | h
  ·exact f.ow a h
  ·exact .inr (f.none h)
 pu:=λa h=>by
  rcases g.pu a h with h | h | h
  ·exact f.pu a h
  ·rcases f.ow a h with h | h
   ·exact .inr (.inl h)
   ·exact .inr (.inr h)
  ·exact .inr (.inr (f.none h))
 kept:=f.kept.trans g.kept
def Ao.same{H:Hp}(e:aC H b):Ao S U H S U b :=
 ⟨λa o h n=>⟨e a o h,n⟩,λa h z=>h (e.free z),λ_ h=>.inl h,λ_ h=>.inl h,Kept.of e⟩
def kc(S:Ac)(U:VS.Env)(H:Hp):Md->Wl->Prop
 |.fr,F=>F.Nodup/\∀a∈F,H a=Z\/bE S U a
 |_,F=>∀a∈F,H a=Z\/cM S U a\/bE S U a
theorem kc.back(f:Ao S U H e d g):∀{m:Md},kc e d g m F->kc S U H m F
 |.fr,h=>⟨h.1,λa b=>(h.2 a b).elim (λz=>.inl (f.none z)) λz=>(f.ow a z).elim .inr .inl⟩
 |.pu,h=>λa b=>by
  rcases h a b with z | z | z
  ·exact .inl (f.none z)
  ·rcases f.pu a z with z | z | z
   ·exact .inr (.inl z)
   ·exact .inr (.inr z)
   ·exact .inl z
  ·exact(f.ow a z).elim (λz=>.inr (.inr z)) .inl
 |.bo,h=>λa b=>by
  rcases h a b with z | z | z
  ·exact .inl (f.none z)
  ·rcases f.pu a z with z | z | z
   ·exact .inr (.inl z)
   ·exact .inr (.inr z)
   ·exact .inl z
  ·exact(f.ow a z).elim (λz=>.inr (.inr z)) .inl
noncomputable def Nx(G:Gx)(S:Ac)(U:VS.Env)(H:Hp)(b:VS.Env)(k:L2.St->Hp->Prop):Prop:=∀d e a,SR G d b e a->Ao S U H d b a->k e a
def jd(G:Gx)(S:Ac)(U:VS.Env)(H:Hp)(D:Ends):Out->Prop
 |.nx a=>Nx G S U H a D.nx
 |.bk a=>Nx G S U H a D.bk
 |.ct a=>Nx G S U H a D.ct
 |.rt v a=>∀u b F d e,SR G d a e b->Ao S U H d a b->Rp G b u v.2 F->kc S U H v.1 F->D.rt u b
def tS(G:Gx)(c:Sx):TS:=λD O H=>∃S U o,SR G S U O H/\c U=Y o/\jd G S U H D o
def PSV(G:Gx)(X:Cx)(a:Stmt)(c:Sx):Prop:=PS X a (tS G c)
def gc(G:Gx)(X:Cx)(a:List Stmt)(c:Sx):Prop:=PSs X a (tS G c)
def PS.weak(h:PS X e t)(w:∀D O H,b D O H->t D O H):PS X e b:=λa s O H D I q=>h a s O H D I (w D O H q)
def PSs.weak(h:PSs X e t)(w:∀D O H,b D O H->t D O H):PSs X e b:=λa s O H D I q=>h a s O H D I (w D O H q)
theorem jd.back(f:Ao S U H j i l):∀{o:Out},jd G S U H D o->jd G j i l D o
 |.nx e,h=>λa b d s g=>h a b d s (f.trans g)
 |.bk e,h=>λa b d s g=>h a b d s (f.trans g)
 |.ct e,h=>λa b d s g=>h a b d s (f.trans g)
 |.rt v e,h=>λu d F a b s g r q=>h u d F a b s (f.trans g) r (q.back f)
section
variable{st:Stmt}
def cH:gc G X [] fN:=PSs.weak t9 λD O H a=>by
 obtain⟨S,U,o,s,e,k⟩:=a;cases (e);exact k S O H s (Ao.refl _ _ _)
def ao(i:PSV G X st c1)(h:gc G X Ct c2):gc G X (st :: Ct) (aE c1 c2):=PSs.weak (ig i h) λD O H g=>by
 obtain⟨S,U,o,s,e,k⟩:=g;obtain⟨b,e1,e2⟩:=zZ.mp e;refine⟨S,U,b,s,e1,?_⟩;cases b with
 |nx a=>exact λj l m d f=>⟨j,a,o,d,e2,k.back f⟩
 |rt v a=>cases e2;exact k
 |bk a=>cases e2;exact k
 |ct a=>cases e2;exact k
def d0(h:Cp G X t d)(j:gc G X a c1)(i:gc G X b c2):PSV G X (.If t a b pos) (BU d c1 c2):=PS.weak (u9 h j i) λD O H g=>by
 obtain⟨S,U,o,s,e,k⟩:=g;obtain⟨⟨m,x⟩,l,e1⟩:=zZ.mp e;obtain⟨f,n,e2⟩:=zZ.mp e1;refine⟨S,U,m,x,f,s,l,n,λp e3=>?_⟩;cases f with
 |true =>
  rw[Zq M]at e2;exact oF ⟨S,U,o,s.same e3,e2,k.back (Ao.same e3)⟩
 |false =>
  rw[Zl Zp]at e2;exact n6 ⟨S,U,o,s.same e3,e2,k.back (Ao.same e3)⟩
theorem Fp.ret:∀{m:Md},Fp S U H m F->kc S U H (match m with | .bo=>.pu | m=>m) F
 |.fr,f=>⟨f.1,λa b=>.inl (f.2 a b)⟩
 |.pu,f=>λa b=>(f a b).elim .inl λz=>.inr (.inl z)
 |.bo,f=>f
def bc(he:PV G X e ce):PSV G X (.Return (Y e) pos) (dv ce):=PS.weak (o6 he) λD O H a=>by
 obtain⟨S,U,o,s,e,k⟩:=a;obtain⟨⟨m,x⟩,b,e1⟩:=zZ.mp e;cases e1;exact⟨S,U,m,x,s,b,λv d F e1 r1 f1=>k v d F S O (s.same e1) (Ao.same e1) r1 f1.ret⟩
def cW{U:VS.Env}{c:Cell}(h:(U.set i Z)[j]?=Y (Y c)):j≠i/\U[j]?=Y (Y c):=by
 rw[List.getElem?_set]at h;split at h
 ·split at h<;>cases h
 ·rename_i n;exact⟨λz=>n z.symm,h⟩
def SR.drop(s:SR G S U O H)(i:Nat):SR G S (U.set i Z) O H :=
 ⟨by rw[Yc];exact s.len,λj c h=>s.rp j c (cW h).2,λj t h=>s.nd j t (cW h).2,λj k t c b a n=>s.sep j k t c (cW b).2 (cW a).2 n⟩
def Ao.drop(i:Nat):Ao S U H S (U.set i Z) H :=
 ⟨λa o h n=>⟨h,λ⟨j,t,d,b⟩=>n ⟨j,t,(cW d).2,b⟩⟩,λ_ h=>h,λa ⟨j,t,d,b⟩=>.inl ⟨j,t,(cW d).2,b⟩,λa ⟨j,t,d,b⟩=>.inl ⟨j,t,(cW d).2,b⟩,Kept.refl H⟩
def kz{X:Cx}(i:Nat)(u:{`q1,X.N[i]?=Y x})(l:{`q4,Cg X.env.scope x})(r:{`q0,K2 x})(d:{`q0,K3 x}):PSV G X (.Return (Y (.Name x p)) pos) (mR i):=PS.weak (o6 (d5 u l r d)) λD O H n=>by
 obtain⟨S,U,o,s,e,k⟩:=n;unfold mR at e;split at e
 ·rename_i t h;obtain⟨v,j,b⟩:=s.rp _ _ h;cases e;exact⟨v,j,k v H (S i) S O (s.drop i) (Ao.drop i) b ⟨s.nd i t h,λa g=>.inr ⟨i,t,h,g⟩⟩⟩
 ·rename_i t h;obtain⟨v,j,b⟩:=s.rp _ _ h;cases e;refine⟨v,j,k v H (S i) S O s (Ao.refl _ _ _) b ?_⟩;have f:Fp S U H .pu (S i):=λa g=>.inr ⟨i,t,h,g⟩;have f2:=(f.up b).ret;have:(match (VS.up .pu (eT (.pu t))).1 with | .bo=>Md.pu | m=>m)=(VS.up .pu t).1:=by
   show (match (VS.up .pu t).1 with | .bo=>Md.pu | m=>m)=_;unfold VS.up;split<;>(rename_i q;revert q;split<;>simp)
  rw[this]at f2;exact f2
 ·cases e
noncomputable def iu(S:Ac)(i:Nat)(F:Wl):Ac:=λj=>if j=i then F else S j
def eD:iu S i F i=F:=Zq M
def da(h:j≠i):iu S i F j=S j:=Zl h
def dM{U:VS.Env}{c:Cell}(h:(U.set i (Y c))[j]?=Y (Y a)):(j=i/\a=c)\/(j≠i/\U[j]?=Y (Y a)):=by
 rw[List.getElem?_set]at h;split at h
 ·rename_i e;split at h
  ·exact .inl ⟨e.symm,(Zc (Zc h)).symm⟩
  ·cases h
 ·rename_i n;exact .inr ⟨λz=>n z.symm,h⟩
def SR.put{G:Gx}{S:Ac}{U:VS.Env}{O:L2.St}{H o:Hp}{i:Nat}{v:V}{c:Cell}{F:Wl}(s:SR G S U O H)(u:i<U.length)(r:Rp G o v (eT c) F)(q:∀j b,j≠i->U[j]?=Y (Y b)->∀w,Rp G H w (eT b) (S j)->Rp G o w (eT b) (S j))(z:∀t,c=.ow t->F.Nodup)(y:∀t,c=.ow t->∀j b,j≠i->U[j]?=Y (Y b)->∀a∈F,a∉S j)(x:∀j t,j≠i->U[j]?=Y (Y (.ow t))->∀a∈S j,a∉F) :
  SR G (iu S i F) (U.set i (Y c)) (O.set i (Y v)) o where
 len:=by rw[Yc,Yc];exact s.len
 rp:=λj b h=>by
  rcases dM h with⟨rfl,rfl⟩ | ⟨n,h⟩
  ·exact⟨v,by rw[Ym (by rw[← s.len];exact u)],by rw[eD];exact r⟩
  ·obtain⟨w,l,f⟩:=s.rp j b h;exact⟨w,by rw[Yz (Yq n)];exact l,by rw[da n];exact q j b n h w f⟩
 nd:=λj t h=>by
  rcases dM h with⟨rfl,e⟩ | ⟨n,h⟩
  ·rw[eD];exact z t e.symm
  ·rw[da n];exact s.nd j t h
 sep:=λj k t b l f n=>by
  rcases dM l with⟨rfl,e⟩ | ⟨g,p⟩
  ·rcases dM f with⟨rfl,e2⟩ | ⟨d,m⟩
   ·exact absurd M n
   ·rw[eD,da d];exact y t e.symm k b d m
  ·rcases dM f with⟨rfl,e2⟩ | ⟨d,m⟩
   ·rw[eD,da g];exact x j t g p
   ·rw[da g,da d];exact s.sep j k t b p m n
def ff{U:VS.Env}{c:Cell}(h:bE (iu S i F) (U.set i (Y c)) a):(∃t,c=.ow t/\a∈F)\/bE S U a:=by
 obtain⟨j,t,d,b⟩:=h;rcases dM d with⟨rfl,e⟩ | ⟨n,d⟩
 ·rw[eD]at b;exact .inl ⟨t,e.symm,b⟩
 ·rw[da n]at b;exact .inr ⟨j,t,d,b⟩
def jr{U:VS.Env}{c:Cell}(h:cM (iu S i F) (U.set i (Y c)) a):(∃t,c=.pu t/\a∈F)\/cM S U a:=by
 obtain⟨j,t,d,b⟩:=h;rcases dM d with⟨rfl,e⟩ | ⟨n,d⟩
 ·rw[eD]at b;exact .inl ⟨t,e.symm,b⟩
 ·rw[da n]at b;exact .inr ⟨j,t,d,b⟩
def SR.BX(s:SR G S U O H)(h:bE S U a)(g:cM S U a):False:=by
 obtain⟨j,t,d,f⟩:=h;obtain⟨k,u,b,i⟩:=g;exact s.sep j k t _ d b (λe=>by subst e;rw[d]at b;cases b) a f i
def SR.val{c:Cell}(s:SR G S U O H)(B:i<U.length)(e:aC H y)(r:Rp G y v t F)(f:Fp S U H m F)(p:(c=.pu t/\m ≠ .bo)\/(c=.ow t/\m=.fr)):SR G (iu S i F) (U.set i (Y c)) (O.set i (Y v)) y/\Ao S U H (iu S i F) (U.set i (Y c)) y:=by
 have Ay:∀{a},H a=Z->∀j x,U[j]?=Y (Y x)->a∉S j:=λ{a} h j x g b=>by
  obtain⟨w,_,q⟩:=s.rp j x g;exact Ak.pe (q.Ay a b) h
 have ct:eT c=t:=by rcases p with⟨rfl,_⟩ | ⟨rfl,_⟩<;>rfl
 have A:∀a∈F,H a=Z\/cM S U a:=λa b=>by
  rcases p with⟨_,n⟩ | ⟨_,n⟩
  ·exact f.pu n a b
  ·rw[n]at f;exact .inl (f.2 a b)
 constructor
 ·refine s.put B (by rw[ct];exact r) (λj x n g w q=>q.same e) (λu d=>?_) (λu d j x n g a b=>?_) λj u n g a b C=>?_
  ·rcases p with⟨h,_⟩ | ⟨_,h⟩
   ·rw[h]at d;cases d
   ·rw[h]at f;exact f.1
  ·rcases p with⟨h,_⟩ | ⟨_,h⟩
   ·rw[h]at d;cases d
   ·rw[h]at f;exact Ay (f.2 a b) j x g
  ·rcases A a C with z | z
   ·exact Ay z j _ g b
   ·exact s.BX ⟨j,u,g,b⟩ z
 ·refine⟨λa o h n=>⟨e a o h,λz=>?_⟩,λa h z=>h (e.free z),λa h=>?_,λa h=>?_,Kept.of e⟩
  ·rcases ff z with⟨u,d,b⟩ | z
   ·rcases p with⟨l,_⟩ | ⟨_,l⟩
    ·rw[l]at d;cases d
    ·rw[l]at f;rw[f.2 a b]at h;cases h
   ·exact n z
  ·rcases ff h with⟨u,d,b⟩ | z
   ·rcases p with⟨l,_⟩ | ⟨_,l⟩
    ·rw[l]at d;cases d
    ·rw[l]at f;exact .inr (f.2 a b)
   ·exact .inl z
  ·rcases jr h with⟨u,d,b⟩ | z
   ·exact(A a b).elim (λz=>.inr (.inr z)) .inl
   ·exact .inl z
def fL{pos:Pos}(he:PV G X e ce)(p:X.N.Nodup)(l:{`q1,X.N[i]?=Y x})(f:{`q5,Loc X.env.scope x})(g:{`q1,swapsWith e (Y (.Name x a)) pos.line X.env=pure L})(n:X.fn x=J\/X.env.scope.names.lookup x=Y .local:=by first | exact .inl M | exact .inr M) :
  PSV G X (.Assign [.Name x a] e pos) (mr i ce):=PS.weak (qN p l f he g n) λD O H h=>by
 obtain⟨S,U,o,s,e,k⟩:=h;obtain⟨⟨m,t⟩,q,e1⟩:=zZ.mp e;obtain⟨c,eC,e2⟩:=zZ.mp e1;split at e2
 ·rename_i j;cases e2;refine⟨S,U,m,t,s,q,λv r F e3 r3 f3=>?_⟩;obtain⟨d,b⟩:=s.val (c:=c) j e3 r3 f3 (by
   unfold cellOf at eC;cases m with
   |fr =>
    simp only[Option.some.injEq]at eC;split at eC
    ·exact .inr ⟨eC.symm,rfl⟩
    ·exact .inl ⟨eC.symm,by decide⟩
   |pu=>cases eC;exact .inl ⟨rfl,by decide⟩
   |bo=>cases eC)
  exact k _ _ r d b
 ·cases e2
def aB{pos:Pos}{i:Nat}(he:PV G X e ce)(q:X.N.Nodup)(n:{`q1,X.N[i]?=Y x})(f:{`q5,Loc X.env.scope x})(g:{`q1,swapsWith e (Y (.Name x a)) pos.line X.env=pure L})(p:X.fn x=J\/X.env.scope.names.lookup x=Y .local:=by first | exact .inl M | exact .inr M) :
  PSV G X (.Assign [.Name x a] e pos) (bf i ce):=PS.weak (qN q n f he g p) λD O H h=>by
 obtain⟨S,U,o,s,e,k⟩:=h;obtain⟨⟨m,t⟩,r,e1⟩:=zZ.mp e;split at e1
 ·cases e1
 ·rename_i j;split at e1
  ·rename_i l;cases e1;refine⟨S,U,m,t,s,r,λv u F e3 r3 f3=>?_⟩;obtain⟨d,b⟩:=s.val l e3 r3 f3 (.inl ⟨rfl,j⟩);exact k _ _ u d b
  ·cases e1
def SR.frz(s:SR G S U O H)(h:U[i]?=Y (Y (.ow t))):SR G S (U.set i (Y (.pu t))) O H/\Ao S U H S (U.set i (Y (.pu t))) H:=by
 have back:∀{j c},(U.set i (Y (.pu t)))[j]?=Y (Y c)->∃l,U[j]?=Y (Y l)/\eT l=eT c/\∀u,c=.ow u->l=.ow u:=λ{j c} g=>by
  rcases dM g with⟨rfl,rfl⟩ | ⟨n,g⟩
  ·exact⟨.ow t,h,rfl,λu p=>nomatch p⟩
  ·exact⟨c,g,rfl,λu p=>p⟩
 refine⟨⟨by rw[Yc];exact s.len,λj c g=>?_,λj u g=>?_,λj k u c b d n=>?_⟩,⟨λa o q n=>⟨q,λ⟨j,u,b,d⟩=>?_⟩,λ_ h=>h,λa ⟨j,u,b,d⟩=>?_,λa ⟨j,u,b,d⟩=>?_,Kept.refl H⟩⟩
 ·obtain⟨l,b,d,_⟩:=back g;obtain⟨v,f,w⟩:=s.rp j l b;exact⟨v,f,by rw[← d];exact w⟩
 ·obtain⟨l,b,_,r⟩:=back g;rw[r u M]at b;exact s.nd j u b
 ·obtain⟨c1,f,_,m⟩:=back b;obtain⟨c2,k1,_,_⟩:=back d;rw[m u M]at f;exact s.sep j k u c2 f k1 n
 ·obtain⟨c1,f,_,m⟩:=back b;rw[m u M]at f;exact n ⟨j,u,f,d⟩
 ·obtain⟨c1,f,_,m⟩:=back b;rw[m u M]at f;exact .inl ⟨j,u,f,d⟩
 ·rcases dM b with⟨rfl,_⟩ | ⟨n,b⟩
  ·exact .inr (.inl ⟨j,t,h,d⟩)
  ·exact .inl ⟨j,u,b,d⟩
def mP(i:Nat)(h:gc G X Ct c):gc G X Ct (aE (uq i) c):=PSs.weak h λD O H f=>by
 obtain⟨S,U,o,s,e,k⟩:=f;obtain⟨g,e1,e2⟩:=zZ.mp e;unfold uq at e1;split at e1
 ·rename_i t d;cases e1;obtain⟨b,a⟩:=s.frz d;exact⟨S,_,o,b,e2,k.back a⟩
 ·cases e1;exact⟨S,U,o,s,e2,k⟩
 ·cases e1
end
section
variable{st:Stmt}
structure Dm(G:Gx)(H:Hp)(v:V)(F:Wl)(t':T)(H2:Hp)(F':Wl):Prop where
 kept:Kept H H2
 keep:∀b o,b∉F->H b=some o->H2 b=some o
 Ay:∀b,H b≠none->H2 b≠none
 rp:Rp G H2 v t' F'
 nd:F'.Nodup
 sub:∀a∈F',a∈F\/H a=none
def SR.mut(s:SR G S U O H)(m:U[i]?=Y (Y (.ow t)))(A:O[i]?=Y (Y v))(g:Dm G H v (S i) p x r) :
  SR G (iu S i r) (U.set i (Y (.ow p))) O x/\Ao S U H (iu S i r) (U.set i (Y (.ow p))) x:=by
 have off:=λj f n d a b l=>s.sep i j t f m d (Yq n) a l b;have es:O.set i (Y v)=O:=by
  obtain⟨h,e⟩:=Zs.mp A;rw[← e];exact List.set_getElem_self h
 have new:∀a∈r,∀j f,j≠i->U[j]?=Y (Y f)->a∉S j:=λa b j f n d l=>by
  rcases g.sub a b with z | z
  ·exact off j f n d a l z
  ·obtain⟨w,_,q⟩:=s.rp j f d;exact Ak.pe (q.Ay a l) z
 constructor
 ·have:=s.put (c:=.ow p) (v:=v) ((Zs.mp m).1) g.rp (λj f n d w q=>q.keep g.kept λa b o B=>g.keep a o (off j f n d a b) B) (λ_ _=>g.nd) (λu y j f n d a b=>new a b j f n d) λj u n d a b l=>new a l j _ n d b;rw[es]at this;exact this
 ·refine⟨λa o h n=>⟨g.keep a o (λz=>n ⟨i,t,m,z⟩) h,λz=>?_⟩,g.Ay,λa h=>?_,λa h=>?_,g.kept⟩
  ·rcases ff z with⟨u,_,b⟩ | z
   ·rcases g.sub a b with z | z
    ·exact n ⟨i,t,m,z⟩
    ·rw[z]at h;cases h
   ·exact n z
  ·rcases ff h with⟨u,_,b⟩ | z
   ·rcases g.sub a b with z | z
    ·exact .inl ⟨i,t,m,z⟩
    ·exact .inr z
   ·exact .inl z
  ·rcases jr h with⟨u,y,b⟩ | z
   ·cases y
   ·exact .inl z
def uW(G:Gx)(r:V->List V->Hp->VK->Prop)(f:T->We->Option (T×Val)):Prop:=∀(S:Ac)(U:VS.Env)(H g:Hp)(v:V)(t b:T)(F:Wl)(l:We)(a:List V)(h:Xl)(x:Val)(Q:VK),
 Rp G H v t F->F.Nodup->Args G S U H g l a h->f t l=Y (b,x)->(∀u d i,Dm G H v F b d i->Q u d)->r v a g Q
def qb{pos:Pos}{b:Pos}(i:Nat)(pa:PlainAttrs w)(h:Slot w a n)(Fb:typeOf (.builtin n)=pure (.type "method_descriptor"))(hm:FP X n r)(ok:uW G r f)(hT:∀H v t F l z,Rp G H v t F->f t l=Y z->DG G.K w v H)(ha:PVs G X (e :: es) cs)(hK:{`q1,X.K=G.K})(hN:{`q1,X.N[i]?=Y x})(hv:{`q4,Cg X.env.scope x})(hd:{`q0,K2 x})(q:{`q0,K3 x})(An:{`q1,NH (.Name x j) a X.env (eval (.Name x j) X.env)=eval (.Name x j) X.env})(A6:{`q1,((backTo d (KB (e :: es) X.env)).all (λx=>!x.1)&&(backToKw d (NC [] X.env)).all (λx=>x.1.isSome)
   && decide ((e :: es).length+([]:List Keyword).length+(if ([]:List Keyword).isEmpty then 0 else 1)<30))=J})(Am:{`q1,(b.endLine==d.line)=J})(hs:{`q1,K0 e es X})(Al:{`q1,K1 d es X})(Cn:{`q1,swapsWith (.Call (.Attribute (.Name x j) a b) (e :: es) [] d) Z pos.line X.env=pure L}) :
  PSV G X (.Expr (.Call (.Attribute (.Name x j) a b) (e :: es) [] d) pos) (sX (iw i [] f cs)) :=
 PS.weak (jN (uU pa h Fb hm (d5 hN hv hd q) ha An A6 Am hs Al) Cn) λD O H hq=>by
  refine L2.aw λP_ m=>?_;obtain⟨S,U,o,s,e,k⟩:=hq;unfold sX iw at e;obtain⟨⟨C,U'⟩,e1,e2⟩:=z9.mp e;refine m ?_;split at e1
  ·rename_i t p;refine L2.aw λP_ m=>?_;obtain⟨ks,ek,e3⟩:=zZ.mp e1;cases (ek);obtain⟨l,el,e4⟩:=zZ.mp e3;obtain⟨⟨Q,x2⟩,e5,e6⟩:=z9.mp e4;cases e6;cases e2;obtain⟨v,A,y⟩:=s.rp _ _ p;refine m ?_;have B:=e5;refine⟨v,A,by rw[hK];exact hT H v t _ l _ y B,S,U,l,s,el,λP H' Fs q1 W R=>?_⟩;refine ok S U H H' v t Q (S i) l P Fs C _ y (s.nd i t p) ⟨q1,W,R⟩ B λu H2 F' g=>?_;obtain⟨I,E⟩:=s.mut p A g;exact k _ O H2 I E
  ·cases e1
theorem Dm.upd{H:Hp}(e:aC H d)(p:a∈F)(m:Ak (d a))(r:Rp G (upd d a o) v i f)(l:f.Nodup)(g:∀a∈f,a∈F\/H a=Z):Dm G H v F i (upd d a o) f :=
 ⟨(Kept.of e).trans (Kept.upd (.inl m)),λb j n h=>by rw[ak (λz=>n (by rw[z];exact p))];exact e b j h,
  λb h z=>by
   by_cases q:b=a
   ·subst q;rw[av]at z;cases z
   ·rw[ak q]at z;exact h (e.free z),r,l,g⟩
def xa.off(r:xa G H f g d)(j:Ak (H a))(h:a∉d.flatten):xa G (upd H a o) f g d :=
 r.keep (Kept.upd (.inl j)) λb l m i=>by rw[ak (λz=>h (by rw[← z];exact l))];exact i
def nz(h:fit v=Y t):v=(.fr,t):=by
 obtain⟨m,x⟩:=v;cases m<;>first | (cases h;rfl) | cases h
def nS:uW G m8 bT:=by
 intro S U H D v t O F l I P x Q r nd A e k;unfold bT at e;split at e
 ·rename_i N y;obtain⟨z,B,e1⟩:=zZ.mp e;have C:=nz B;subst C;split at e1
  ·rename_i s;cases e1;obtain⟨a,p,Gs,rfl,rfl,i,g⟩:=r.lst_inv;obtain⟨w,j,rfl,rfl,E⟩:=(A.rp).one;have f:=A.fp.each 0 _ _ M M;have n:=A.same a _ i;have h:Ak (D a):=by rw[n];exact True.intro
   have na:=(ZM.mp nd).1;have nw:a∉j:=λz=>by rw[f.2 a z]at i;cases i
   refine⟨a,p,w,rfl,rfl,n,by rw[g.len.1];exact s,k _ _ (a :: (Gs++[j]).flatten) ?_⟩;have off:=λb d hw=>Ak.pe (g.Ay b d) (f.2 b hw);refine Dm.upd A.same zU h (.lst av (((g.same A.same).off h na).append (.cons (E.keep (Kept.upd (.inl h)) λb d o q=>by rw[ak (λz=>nw (by rw[← z];exact d))];exact q) .nil))) ?_ ?_
   ·rw[Yo];refine ZM.mpr ⟨λm=>?_,ZA.mpr ⟨(ZM.mp nd).2,by simpa using f.1,λb d c u z=>?_⟩⟩
    ·rcases Zv.mp m with m | m
     ·exact na m
     ·exact nw (by simpa using m)
    ·subst z;exact off b d (by simpa using u)
   ·intro b d;rcases Zz.mp d with rfl | d
    ·exact .inl zU
    ·rw[Yo]at d;rcases Zv.mp d with d | d
     ·exact .inl (zV _ d)
     ·exact .inr (f.2 b (by simpa using d))
  ·cases e1
 ·cases e
def pI(r:Rp G H v (.lst b) F):DG G.K "list" v H:=by
 obtain⟨a,f,Gs,rfl,rfl,d,g⟩:=r.lst_inv;exact .inl ⟨rfl,_,Aj.of d⟩
def kX(r:Rp G H v t F)(h:bT t l=Y z):DG G.K "list" v H:=by
 unfold bT at h;split at h
 ·exact pI r
 ·cases h
end
structure Ci(G:Gx)(J:It)(l:Wc)(C:Wl)(H:Hp):Prop where
 run:∀H2,Kept H H2->(∀a∈C,∀o,H a=some o->H2 a=some o) →
  (∀(i:Nat)(t:T),l[i]?=some t->J.go i H2/\∀x H3,J.FT i H2 x H3->aC H2 H3/\∃F,Rp G H3 x t F/\∀a∈F,a∈C\/H2 a=none)/\∀(i:Nat),l.length<=i->J.stop i H2
 Ay:∀a∈C,H a≠none
def JO(S:Ac)(U:VS.Env)(H:Hp)(m:Md)(C:Wl):Prop:=∀a∈C,H a=Z\/cM S U a\/(m=.bo/\bE S U a)
theorem Fp.c{U:VS.Env}{H:Hp}:∀{m:Md},Fp S U H m F->JO S U H m F
 |.fr,f=>λa b=>.inl (f.2 a b)
 |.pu,f=>λa b=>(f a b).imp id .inl
 |.bo,f=>λa b=>(f a b).imp id λz=>z.imp id λz=>⟨rfl,z⟩
def tI(G:Gx)(c:Bt):TI:=λO H R=>∃S U m l,SR G S U O H/\c U=Y (m,l)/\∀J a C,aC H a->Ci G J l C a->JO S U H m C->R J a
def PVI(G:Gx)(X:Cx)(b a:Expr)(c:Bt):Prop:=PI X b a (tI G c)
def PI.weak(h:PI X b e t)(w:∀O H Q,d O H Q->t O H Q):PI X b e d:=λa s O H Q I q=>h a s O H Q I (w O H Q q)
section
def oZ(H:Hp)(d:Int)(n:Nat):Ci G (GK d n) (rng d n) [] H:=by
 refine⟨λq _ _=>⟨λi t h=>?_,λi h=>(by simpa[rng] using h:n<=i)⟩,λa h=>by simp at h⟩;unfold rng at h;rw[ZW]at h;obtain⟨k,g,e⟩:=z9.mp h;obtain⟨f,e2⟩:=Zs.mp g;rw[Ya]at f;have l:i=k:=by simpa using e2
 subst l;refine⟨f,λx o j=>?_⟩;obtain⟨e3,m⟩:=j;subst e3;subst m;rw[← e];exact⟨aC.refl _,[],.int _,λa h=>by simp at h⟩
def eY(t:PV G X a ca)(r:Gl X "range")(q:X.mg "range" = Z)(n:{`q1,K0 a [] X})(w:{`q1,KB [a] X.env=[(L,eval a X.env)]}):PVI G X tg (.Call (.Name "range" p) [a] [] pos) (dC ca) :=
 PI.weak (oy r q (bH t dq n) w) λO H R o=>by
  obtain⟨S,U,m,l,s,e,k⟩:=o;obtain⟨⟨i,x⟩,u,e1⟩:=zZ.mp e;obtain⟨j,f,e2⟩:=zZ.mp e1;split at e2
  ·rename_i d;cases e2;refine⟨S,U,i,x,s,u,λv g F e3 r3 f3=>?_⟩;cases x with
   |int y =>
    cases f;refine⟨j,by rw[r3.int_inv],?_,?_,k _ g [] e3 (oZ g 0 j.toNat) λa h=>by simp at h⟩
    ·have:=d.1;unfold El at this;lia
    ·have:=d.2;unfold El at this;lia
   |_=>cases f
  ·cases e2
def d6{d:Xl}{i:Nat}{F:Wl}(h:d[i]?=Y F){a:FM}(f:a∈F):a∈d.flatten:=(gJ h).subset f
def tm{a:FM}(K:Xe)(l:H a=Y (.lst f))(r:xa G H f j n):Ci G (Iq K a) j (a :: n.flatten) H:=by
 refine⟨λA k c=>?_,λb d=>?_⟩
 ·have g:=c a zU _ l;refine⟨λi t h=>?_,λi h=>⟨f,Aj.of g,by rw[r.len.1];exact h⟩⟩;obtain⟨v,F,m,w,u⟩:=(r.keep k λb d o q=>c b (zV _ d) o q).get i h;refine⟨⟨f,v,Aj.of g,m⟩,λx y s=>?_⟩;obtain⟨e1,e2⟩:=s;subst e1;have ex:=e2 f (Aj.of g);rw[m]at ex;cases ex;exact⟨aC.refl _,F,u,λb d=>.inl (zV _ (d6 w d))⟩
 ·rcases Zz.mp d with rfl | d
  ·rw[l];exact λz=>nomatch z
  ·exact Ak.pe (r.Ay b d)
def v9{a:FM}(K:Xe)(q:H a=Y (.tup d))(r:xa G H d j m):Ci G (Ip K a) j m.flatten H:=by
 refine⟨λz k c=>?_,λb f=>Ak.pe (r.Ay b f)⟩;have g:=k.tup a _ q;refine⟨λi t h=>?_,λi h=>⟨d,AR.of g,by rw[r.len.1];exact h⟩⟩;obtain⟨v,F,l,w,u⟩:=(r.keep k λb f o n=>c b f o n).get i h;refine⟨⟨d,v,AR.of g,l⟩,λx y s=>?_⟩;obtain⟨e1,e2⟩:=s;subst e1;have ex:=e2 d (AR.of g);rw[l]at ex;cases ex;exact⟨aC.refl _,F,u,λb f=>.inl (d6 w f)⟩
def tG(G:Gx)(g:Tg):TG:=λv O H Q=>∃S U t F d,SR G S U O H/\Rp G H v t F/\(∀a∈F,¬bE S U a)/\g t U=Y d ∧
 ∀f h,SR G f d h H->(∀a,bE f d a->bE S U a)->(∀a,cM f d a->cM S U a\/a∈F)->Q h H
def JY(G:Gx)(l:List Tg):Dj:=λj O H Q=>∃S U h g d,SR G S U O H/\xa G H j h g/\(∀a∈g.flatten,¬bE S U a)/\ua l h U=Y d ∧
 ∀f i,SR G f d i H->(∀a,bE f d a->bE S U a)->(∀a,cM f d a->cM S U a\/a∈g.flatten)->Q i H
def EJ(G:Gx)(X:Cx)(e:Expr)(g:Tg):Prop:=PG X e (tG G g)
def ug(G:Gx)(X:Cx)(e:List Expr)(g:List Tg):Prop:=CW X e (JY G g)
def PG.weak{X:Cx}{e:Expr}(h:PG X e t)(w:∀v O H Q,f v O H Q->t v O H Q):PG X e f:=λd s O H v u Q I r q=>h d s O H v u Q I r (w v O H Q q)
def CW.weak{X:Cx}{e:List Expr}(h:CW X e t)(w:∀v O H Q,f v O H Q->t v O H Q):CW X e f:=λd s O H v u Q I r q=>h d s O H v u Q I r (w v O H Q q)
def bP{X:Cx}(i:Nat)(B:X.N.Nodup)(y:{`q1,X.N[i]?=Y x})(l:{`q5,Loc X.env.scope x})(A:X.fn x=J\/X.env.scope.names.lookup x=Y .local:=by first | exact .inl M | exact .inr rfl):EJ G X (.Name x pos) (cP i):=PG.weak (sN B y l A) λv O H Q m=>by
 obtain⟨S,U,t,F,E,s,r,no,e,k⟩:=m;unfold cP at e;split at e
 ·rename_i o;cases e;refine k (iu S i F) (O.set i (Y v)) (s.put o r (λj D n g w q=>q) (λu d=>nomatch d) (λu d=>nomatch d) λj u n g a f C=>no a C ⟨j,u,g,f⟩) (λa h=>?_) λa h=>?_
  ·rcases ff h with⟨u,d,_⟩ | z
   ·cases d
   ·exact z
  ·rcases jr h with⟨u,d,f⟩ | z
   ·exact .inr f
   ·exact .inl z
 ·cases e
def p8:ug G X [] []:=CW.weak uz λv O H Q d=>by
 obtain⟨S,U,f,i,g,s,r,no,e,k⟩:=d;cases r with
 |nil =>
  cases (e);exact⟨rfl,k S O s (λ_ h=>h) λ_ h=>.inl h⟩
 |cons r q=>cases (e)
def i9(y:EJ G X e g)(x:ug G X es i)(u:{`q1,(assignEach (e :: es) X.env).map (·.2)=assign e X.env :: (assignEach es X.env).map (·.2)}):ug G X (e :: es) (g :: i) :=
 CW.weak (qh y x u) λv O H Q w=>by
  obtain⟨S,U,F,N,A,s,r,no,e,k⟩:=w;cases r with
  |nil=>cases (e)
  |cons r q =>
   rename_i E I P W R BQ;obtain⟨j,e1,e2⟩:=zZ.mp e;refine⟨_,_,rfl,S,U,_,_,j,s,r,λa d=>no a (by rw[Zn];exact Z9 _ d),e1,λC M m f o=>?_⟩;refine⟨C,j,_,_,A,m,q,λa d z=>no a (by rw[Zn];exact Zb _ d) (f a z),e2,λB D l t n=>k B D l (λa h=>f a (t a h)) λa h=>?_⟩;rcases n a h with h | h
   ·rcases o a h with h | h
    ·exact .inl h
    ·exact .inr (by rw[Zn];exact Z9 _ h)
   ·exact .inr (by rw[Zn];exact Zb _ h)
theorem kJ:∀{f:List Tg}{d:Wc}{U i:VS.Env},ua f d U=Y i->d.length=f.length
 |[],[],_,_,_=>rfl
 |[],_ :: _,_,_,h=>nomatch h
 |_ :: _,[],_,_,h=>nomatch h
 |g :: f,t :: d,U,i,h=>by
  obtain⟨j,_,e2⟩:=zZ.mp (h);simp[kJ e2]
def tK{X:Cx}(m:X.calm=J)(h:ug G X es d)(j:{`q1,(assignEach es X.env).length=d.length})(w:{`q1,(assignEach es X.env).findIdx? (·.1)=Z})(y:{`q1,X.K=G.K}):EJ G X (.Tuple es k pos) (nM d) :=
 PG.weak (vS m h j w) λv O H Q i=>by
  obtain⟨S,U,t,F,o,s,r,no,e,q⟩:=i;unfold nM at e;split at e
  ·rename_i l;obtain⟨n,g,u,rfl,rfl,x,f⟩:=r.AW;exact⟨n,g,rfl,AR.of x,by rw[f.len.1];exact kJ e,S,U,l,u,o,s,f,no,e,q⟩
  ·cases e
def iP{tgt:Tg}{body:Sx}{l:Wc}{U:VS.Env}(h:l[i]?=Y t):l.drop i=t :: l.drop (i+1):=by
 obtain⟨hi,e⟩:=Zs.mp h;rw[← e];exact Yv hi
def vk(hq:tS G (lW g ci R) D O H):xi (tI G ci) (tG G g) (tS G R) D O H:=by
 refine L2.aw λP_ k_=>?_;obtain⟨S,U,o,s,e,k⟩:=hq;obtain⟨⟨m,l⟩,el,e1⟩:=zZ.mp e;refine k_ ?_;dsimp only at e1;split at e1
 ·rename_i hm;refine⟨S,U,m,l,s,el,λJ N C e2 ok fc=>?_⟩;have Il:∀a∈C,¬bE S U a:=λa y z=>by
   rcases fc a y with q | q | q
   ·exact Ak.pe (s.Aw z) q
   ·exact s.BX z q
   ·exact(λz=>by rw[z]at hm;cases hm) q.1
  refine⟨λi n O2 M=>n=l.length-i/\∃Q I,SR G Q I O2 M/\Ao S U H Q I M/\Kept N M/\(∀a∈C,∀o,N a=Y o->M a=Y o/\¬bE Q I a)/\forL g R (l.drop i) I=Y o,
   ⟨l.length-0,rfl,S,U,s.same e2,Ao.same e2,Kept.refl _,λa y w A=>⟨A,Il a y⟩,by rw[Y6];exact e1⟩,?_⟩
  rintro i n O2 M ⟨rfl,Q,I,s2,f2,kp,con,e3⟩;obtain⟨go,stop⟩:=ok.run M kp λa y w A=>(con a y w A).1;cases hit:l[i]? with
  |none =>
   have hl:=Yd.mp hit;left;rw[Yl hl]at e3;cases (e3);exact⟨stop i hl,k Q O2 M s2 f2⟩
  |some t =>
   have hl:=(Zs.mp hit).1;right;obtain⟨g1,y1⟩:=go i t hit;rw[iP (tgt:=g) (body:=R) (U:=I) hit]at e3;obtain⟨U3,e4,e5⟩:=zZ.mp (e3);obtain⟨w,e6,W⟩:=zZ.mp e5;refine⟨g1,λB j=>∃d f,SR G d f B j/\Ao S U H d f j/\Kept N j/\(∀a∈C,∀o,N a=Y o->j a=Y o/\¬bE d f a)/\forL g R (l.drop (i+1)) f=Y o,λB j ⟨d,f,q⟩=>⟨l.length-(i+1),by omega,rfl,d,f,q⟩,λx H3 yl=>?_⟩;obtain⟨P,F,rF,hF⟩:=y1 x H3 yl;refine⟨Q,I,t,F,U3,(s2.same P),rF,(λa y z=>by
    rcases hF a y with q | q
    ·have Bf:=ok.Ay a q;cases A:N a with
     |none=>exact Bf A
     |some G8=>exact(con a q G8 A).2 z
    ·exact Ak.pe (s2.Aw z) q),e4,λS3 O3 s4 o3 p3=>?_⟩
   have f3:Ao S U H S3 U3 H3:=⟨λa w h n=>let ⟨h1,n1⟩:=f2.keep a w h n;⟨P a w h1,λz=>n1 (o3 a z)⟩,λa h z=>f2.Ay a h (P.free z),λa h=>f2.ow a (o3 a h),λa h=>by
    rcases p3 a h with h | h
    ·exact f2.pu a h
    ·rcases hF a h with q | q
     ·rcases fc a q with q | q | q
      ·exact .inr (.inr q)
      ·exact .inl q
      ·exact .inr (.inl q.2)
     ·exact .inr (.inr (f2.none q)),f2.kept.trans (Kept.of P)⟩
   have next:∀{d f j},Ao S3 U3 H3 d f j->Kept N j/\∀a∈C,∀o,N a=Y o->j a=Y o/\¬bE d f a:=λr =>
    ⟨(kp.trans (Kept.of P)).trans r.kept,λa y w A=>by
     obtain⟨h1,n1⟩:=con a y w A;exact r.keep a w (P a w h1) λz=>n1 (o3 a z)⟩
   refine⟨S3,U3,w,s4,e6,?_⟩;cases w with
   |nx f=>exact λd B j E r=>⟨d,f,E,f3.trans r,(next r).1,(next r).2,W⟩
   |ct f=>exact λd B j E r=>⟨d,f,E,f3.trans r,(next r).1,(next r).2,W⟩
   |bk f =>
    cases (W);exact λd B j E r=>k d B j E (f3.trans r)
   |rt v f =>
    cases (W);exact λu j F4 d B E r r5 q5=>k u j F4 d B E (f3.trans r) r5 (q5.back f3)
 ·cases e1
def jq{X:Cx}(m:PassesOwn (Da X.prog X.w) X.A X.env X.xe)(q:X.calm=J)(n:PVI G X tg d h)(o:EJ G X tg g)(r:gc G X f i)(j:{`q2,∀x,NI d X.env x=pure x}):PSV G X (.For tg d f [] pos) (lW g h i):=PS.weak (qk m q n o r j) λD O H l=>vk l
end
noncomputable def x4(H:Hp)(b:Xl):Md->Wl->Prop
 |.fr,F=>F.Nodup/\∀a∈F,H a=Z
 |_,F=>∀a∈F,H a=Z\/a∈b.flatten
def BL(G:Gx)(g:Fn):Sp:=λe H Q _=>∃b d m r,xa G H e b d/\g b=Y (m,r)/\∀v a F,aC H a->Rp G a v r F->x4 H d m F->Q v a
section
def call_of(h:tE G (aX g cs) O H Q):u4 (BL G g) [] E (GO G cs) O H Q:=by
 refine L2.aw λW N=>?_;obtain⟨S,U,m,t,s,e,u⟩:=h;obtain⟨l,R,e1⟩:=zZ.mp e;obtain⟨⟨n,r⟩,P,e2⟩:=zZ.mp e1;refine N ?_;refine⟨S,U,l,s,R,λD y C b M I=>?_⟩;have A:Args G S U H y l D C:=⟨b,M,I⟩
 have i:=I.join A.len;show BL G g (D++[]) y Q E;rw[ZL];refine⟨trees l,C,n,r,M,P,λv B F q o j=>?_⟩;have wide:(∀a∈F,y a=Z\/a∈C.flatten)->Fp S U H ((Md.pu).join (bC l)) F:=λh=>by
  cases w:bC l with
  |fr =>
   rw[w]at i;exact λa d=>.inl ((h a d).elim b.free (i.2 a))
  |pu =>
   rw[w]at i;exact λa d=>(h a d).elim (λz=>.inl (b.free z)) (i a)
  |bo =>
   rw[w]at i;exact λa d=>(h a d).elim (λz=>.inl (b.free z)) (i a)
 cases n with
 |fr =>
  cases e2;exact u v B F (b.trans q) o ⟨j.1,λa d=>b.free (j.2 a d)⟩
 |pu =>
  cases e2;exact u v B F (b.trans q) o (wide j)
 |bo =>
  cases e2;exact u v B F (b.trans q) o (wide j)
def tP{X:Cx}(F:FnOk X.prog X.w X.K X.mg X.base Bu k f fd ps (BL G g))(a:Aa k X.A)(i:Gl X x)(b:X.mg x=Y (.ref f))(d:PySem.W.keepIn X.K (.ref f)=J)(j:Binds X.K fd ps [])(l:PVs G X (e :: es) cs)(m:{`q0,K2 x})(he:{`q1,K0 e es X})(n:{`q1,K1 pos es X}) :
  PV G X (.Call (.Name x p) (e :: es) [] pos) (aX g cs) :=
 PE.weak (sA F a i b d j .nil yD l m he n) λO H Q h=>call_of h
def km(r:xa G H d a q)(n m:Nat)(u:m=d.length):SR G (λi=>q.getD i []) (a.map (λt=>Y (.pu t))++List.replicate (n-a.length) Z) (d.map Y++List.replicate (n-m) Z) H:=by
 subst u;have z:=r.len;have back:∀{i:Nat}{c:Cell},(a.map (λt=>Y (Cell.pu t))++List.replicate (n-a.length) Z)[i]?=Y (Y c)->∃t,a[i]?=Y t/\c=.pu t:=λ{i c} h=>by
  by_cases hi:i<a.length
  ·rw[Yw (by rw[zT];exact hi),ZW]at h;obtain⟨t,l,b⟩:=z9.mp h;exact⟨t,l,(Zc b).symm⟩
  ·rw[ZR (by rw[zT];exact Yr hi),YV]at h;split at h<;>cases h
 refine⟨by simp;lia,λi c h=>?_,λi t h=>?_,λi j t c h=>?_⟩
 ·obtain⟨t,l,rfl⟩:=back h;obtain⟨v,F,o,y,w⟩:=r.get i l;refine⟨v,?_,?_⟩
  ·have:=(Zs.mp o).1;rw[Yw (by rw[zT];exact this),ZW,o];rfl
  ·rw[ZQ,y];exact w
 ·obtain⟨s,_,b⟩:=back h;cases b
 ·obtain⟨s,_,b⟩:=back h;cases b
def bJ{b:Wc}:¬bE S (b.map (λt=>Y (Cell.pu t))++List.replicate n Z) a:=by
 rintro⟨i,t,h,_⟩;by_cases hi:i<b.length
 ·rw[Yw (by rw[zT];exact hi),ZW]at h;obtain⟨j,_,d⟩:=z9.mp h;cases d
 ·rw[ZR (by rw[zT];exact Yr hi),YV]at h;split at h<;>cases h
def fA{H:Hp}{vs:List V}{j:Wc}{d:Xl}(h:cM (λi=>d.getD i []) (j.map (λt=>Y (Cell.pu t))++List.replicate n Z) a):a∈d.flatten:=by
 obtain⟨i,t,_,b⟩:=h;simp only[ZQ]at b;cases e:d[i]? with
 |none=>rw[e]at b;simp at b
 |some F=>rw[e]at b;exact d6 e b
end
section
variable{K:Xe}
def wA{d:List Str}(g:d.length=e)(h:BL G (fn e f c) b H Q E):b.length=d.length:=by
 obtain⟨l,n,m,r,j,a,_⟩:=h;unfold fn at a;split at a
 ·rename_i i;rw[j.len.1,i,g]
 ·cases a
def xp{N:List Str}(s:N.length=f)(h:BL G (fn p f c) vs H Q E):tS G c { nx:=λ_ d=>Q .non d,rt:=Q } (L2.start N vs) H:=by
 obtain⟨C,D,m,r,x,g,q⟩:=h;unfold fn at g;split at g
 ·rename_i t;obtain⟨o,e1,e2⟩:=zZ.mp g;have j:=km x f vs.length M;rw[t]at j;have e3:L2.start N vs=vs.map Y++List.replicate (f-vs.length) Z:=by
   unfold L2.start;rw[s]
  rw[e3];refine⟨_,_,o,j,e1,?_⟩;cases o with
  |nx i =>
   cases e2;intro y A d l fr;exact q .non d [] (λa o h=>(fr.keep a o h bJ).1) .non ⟨XA,λa h=>by simp at h⟩
  |rt v i =>
   cases e2;intro u d B y A l fr n e;refine q u d B (λa o h=>(fr.keep a o h bJ).1) n ?_;cases m with
   |fr=>exact⟨e.1,λa b=>(e.2 a b).elim id λz=>absurd z bJ⟩
   |pu=>exact λa b=>(e a b).elim .inl λz=>z.elim (λz=>.inr (fA (H:=H) (vs:=vs) z)) λz=>absurd z bJ
   |bo=>exact λa b=>(e a b).elim .inl λz=>z.elim (λz=>.inr (fA (H:=H) (vs:=vs) z)) λz=>absurd z bJ
  |bk i=>cases e2
  |ct i=>cases e2
 ·cases g
def Jw(F:AY K x a b f j)(q:lp N e (ai b))(n:e.length=g)(o:N.length=i)(p:∀(d:FS)(A:NB)(outer:List PySem.Env)(s:AC)(H:Hp)(E:XK),Aa k (A.deeper (envOfC a (ai b) s.heap.objs.size f d))->gc G (fV Bu P w K mg base N a (ai b) f d A outer s H E).Bs (aF b) c) :
  FnOk P w K mg base Bu (k+1) f j e (BL G (fn g i c)) :=
 F.ok q (λl H Q E h=>wA n h) λd A outer s H l Q E m h=>⟨_,p d A outer s H E m,xp o h⟩
end
end VS
end
section
namespace L2
open PySem PySem.Spec PyProof.Rows
theorem gb(b:Env):∀(l:List (Str×NameKind))(acc:List (Str×FM)),(∀y∈l,y.2=.free->∃c,b.cells.lookup y.1=Y c)->(∀x c,acc.lookup x=Y c->b.cells.lookup x=Y c) →
  ∃cl,(forIn l acc (λx r=>if (x.snd==NameKind.free)=J then (do let a ← cellOf b x.fst;pure (ForInStep.yield ((x.fst,a) :: r))) else pure (ForInStep.yield r)):Sem (List (Str×FM)))=pure cl ∧
   (∀x c,cl.lookup x=Y c->b.cells.lookup x=Y c)/\(∀x c,acc.lookup x=Y c->∃f,cl.lookup x=Y f)/\∀y∈l,y.2=.free->∃c,cl.lookup y.1=Y c
 |[],acc,_,i=>⟨acc,rfl,i,λx c h=>⟨c,h⟩,λy d=>nomatch d⟩
 | (n,k) :: l,acc,o,i=>by
  by_cases m:k=.free
  ·refine L2.aw λw u=>?_;subst m;obtain⟨c,t⟩:=o (n,.free) zU M;have v:cellOf b n=pure c:=by unfold cellOf;rw[t]
   obtain⟨cl,s,q,e,p⟩:=gb b l ((n,c) :: acc) (λy d=>o y (zV _ d)) (λx f h=>by
    rw[Yi]at h;split at h
    ·rename_i g;have:x=n:=by simpa using g
     rw[this,← h];exact t
    ·exact i x f h)
   refine u ?_;refine⟨cl,?_,q,λx f h=>?_,λy d j=>?_⟩
   ·rw[Xq];rw[Zq (show (NameKind.free==NameKind.free)=J from rfl),v,pure_bind,pure_bind];exact s
   ·by_cases g:x=n
    ·exact e x c (by rw[Yi,g];simp)
    ·refine e x f ?_;rw[Yi];have:(x==n)=L:=by simpa using g
     rw[this];exact h
   ·rcases Zz.mp d with rfl | d
    ·exact e n c (by rw[Yi];simp)
    ·exact p y d j
  ·obtain⟨cl,s,q,e,p⟩:=gb b l acc (λy d=>o y (zV _ d)) i;refine⟨cl,?_,q,e,λy d j=>?_⟩
   ·rw[Xq];rw[Zl (by simpa using m),pure_bind];exact s
   ·rcases Zz.mp d with rfl | d
    ·exact absurd j m
    ·exact p y d j
def tL{b:Scope}{a:Env}(d:∀y∈b.names,y.2=.free->∃c,a.cells.lookup y.1=Y c) :
  ∃cl,closureFor b a=pure cl/\(∀x c,cl.lookup x=Y c->a.cells.lookup x=Y c)/\∀y∈b.names,y.2=.free->∃c,cl.lookup y.1=Y c:=by
 obtain⟨cl,g,f,_,e⟩:=gb a b.names [] d (λx c h=>nomatch h);refine⟨cl,?_,f,e⟩;simp only[closureFor];rw[g];rfl
def dg{l:List (Str×NameKind)}(h:l.lookup x=Y k):(x,k)∈l:=by
 induction l with
 |nil=>cases h
 |cons p l a =>
  rw[Yi]at h;split at h
  ·rename_i b;have e:x=p.1:=by simpa using b
   cases h;rw[e];exact zU
  ·exact zV _ (a h)
theorem bR{a:Env}:∀{l:List (Str×NameKind)},(l.map λ(n,k)=>if (k==NameKind.free&&a.scope.kind == .function&&a.kindOf n==Y .cell) then (n,NameKind.cell) else (n,k)).lookup x=Y k →
  ∃k0,l.lookup x=Y k0/\(k=k0\/(k0=.free/\k=.cell))
 |[],h=>nomatch h
 | (n,k1) :: l,h=>by
  rw[Zd,Yi]at h;by_cases d:(k1==NameKind.free&&a.scope.kind == .function&&a.kindOf n==Y .cell)=J
  ·simp only[d,if_true]at h;rw[Yi];cases b:x==n with
   |true =>
    rw[b]at h;have:k1=.free:=by
     have:=(Z1.mp (Z1.mp d).1).1;simpa using this
    exact⟨k1,rfl,.inr ⟨this,(Zc h).symm⟩⟩
   |false=>rw[b]at h;exact bR h
  ·simp only[d,if_false,Bool.false_eq_true]at h;rw[Yi];cases b:x==n with
   |true=>rw[b]at h;exact⟨k1,rfl,.inl (Zc h).symm⟩
   |false=>rw[b]at h;exact bR h
def dk(X:Cx)(N:List Str)(a:Scope)(d:List (Str×FM))(C:FM)(s:AC)(H:Hp)(b:Wl):Cx :=
 { X with N:=N,s₀:=s,H₀:=H,env:=compEnvC a d C X.env,outer:=X.stack,ex:=b,fn:=λ_=>false,pn:=[],xe:=λ_ _=>False }
noncomputable def oJ(a:Env)(b:Scope):Bool:=b.kind == .function&&b.names.all λy=>match y.2 with
 |.cell=>L
 |.local=>b.names.lookup y.1==Y .local
 |.free=>a.kindOf y.1==Y .cell||a.kindOf y.1==Y .free
 |_=>J
noncomputable def nO(d:Scope):List Str->List Str->Bool
 |[],[]=>J
 |a :: e,b :: bs=>((a==b&&d.names.lookup a==Y .free)||d.names.lookup a==Z||d.names.lookup a==Y .globalImplicit)&&nO d e bs
 |_,_=>L
theorem mM:∀{f bs:List Str},nO d f bs=J->f.length=bs.length/\∀(i:Nat)(x:Str),f[i]?=Y x->(bs[i]?=Y x/\d.names.lookup x=Y .free)\/d.names.lookup x=Z\/d.names.lookup x=Y .globalImplicit
 |[],[],_=>⟨rfl,λi x h=>by simp at h⟩
 |a :: f,b :: bs,h=>by
  obtain⟨g,n⟩:=Z1.mp (h);obtain⟨l,r⟩:=mM n;refine⟨by simp[l],λi x e=>?_⟩;cases i with
  |zero =>
   have:a=x:=by simpa using e
   subst this;simp only[Bool.or_eq_true,YU]at g;rcases g with (⟨m,j⟩ | z) | z
   ·exact .inl ⟨by simpa using(by simpa using m:a=b).symm,by simpa using j⟩
   ·exact .inr (.inl (by simpa using z))
   ·exact .inr (.inr (by simpa using z))
  |succ i=>simpa using r i x (by simpa using e)
 |[],_ :: _,h=>nomatch h
 |_ :: _,[],h=>nomatch h
section
def Inv.block{N:List Str}{P:List (Str×FM)}{k:Nat}{B:NF}{t:Nat}(I:Inv X pins O H s)(R:oJ X.env g=J)(DX:nO g (N.drop k) X.N=J)(D5:k<=N.length)(n:∀x c,P.lookup x=Y c->X.env.cells.lookup x=Y c)(Gv:∀y∈g.names,y.2=.free->∃c,P.lookup y.1=Y c)(E:∀b∈G,gR X pins H b)(A:s.heap.objs.size<=D)(U:s.heap.objs.size<=C)(Gz:D≠C)(Gr:C∉G)(a:∀b u,s.heap.get? b=Y u->B.get? b=Y u)(EB:B.Ns C m)(Mu:B.get? D=Y { cls:=.type "list",data:=.seq ([]:Wk).toArray 0 }) :
  Inv (dk X N g P C s H G) [] (List.replicate k Z++O) (upd H D (.lst [])) { s with heap:=B,toks:=t }:=by
 unfold oJ at R;rw[YU,ZK]at R;obtain⟨hk,BB⟩:=R;have B1:g.kind=.function:=by simpa using hk
 obtain⟨hlen,Mp⟩:=mM DX;have A7:∀y∈g.names,y.2 ≠ .cell:=λy hy e=>by have:=BB y hy;rw[e]at this;cases this
 refine⟨⟨I.mod,B1,I.ok.glob,I.ok.blt,U,λx y c e1 e2=>I.ok.inj x y c (n x c e1) (n y c e2),λx hx=>?_,λx c e=>(nomatch e),I.ok.hd,I.ok.frames,.inl M,λb j=>⟨λ(e:b=C)=>Gr (e ▸ j),λx c e=>(E b j).2.2.2.2.1 x c (n x c e)⟩,
  I.tb,I.bs,Zu I.ok.CH I.sz,λb o e j=>?_,λb j C9=>?_,I.stack,I.AX⟩,rfl,I.bare,Un.laid a A (I.td.fresh A),⟨m,EB,λi x v e1 e2 e3=>?_⟩,λx c e=>?_,?_,λx c e=>?_,λp hp=>(nomatch hp),I.td.laid a A ?_,?_⟩
 ·have h:∃f,(relabel g X.env).names.lookup x=Y f/\(f=.cell\/f=.free):=by
   rcases hx with e | e
   ·exact⟨_,e,.inl M⟩
   ·exact⟨_,e,.inr M⟩
  obtain⟨f,F,Q⟩:=h;exact Gv _ (dg ((λx f h LZ=>by
  obtain⟨k0,d,LY⟩:=bR h;rcases LY with e | ⟨e,_⟩
  ·subst e;rcases LZ with e | e
   ·subst e;exact absurd M (A7 _ (dg d))
   ·subst e;exact d
  ·subst e;exact d) x f F Q)) M
 ·rcases (E b j).2.2.2.1 with z | z
  ·exact I.ok.BM b o e z
  ·exact absurd (Zh (Zt e) (Zu I.ok.CH z)) (YZ _)
 ·rcases Zz.mp (I.A1 b C9) with z | z
  ·exact(E b j).2.1 z
  ·exact(E b j).2.2.1 z
 ·
  have Jh:k<=i:=by
   rcases Wv i k with z | z
   ·rw[Yw (by simpa using z),YV]at e2;split at e2<;>cases e2
   ·exact z
  rw[ZR (by simpa using Jh),YO]at e2;have JS:g.names.lookup x=Y .free->∃f,(relabel g X.env).names.lookup x=Y f/\(f=.cell\/f=.free):=λd=>by
   rcases e3 with z | z | z
   ·obtain⟨k0,F,Q⟩:=bR z;rw[d]at F;cases F;rcases Q with q | ⟨_,q⟩<;>cases q
   ·exact⟨_,z,.inl M⟩
   ·exact⟨_,z,.inr M⟩
  rcases Mp _ x (by
   rw[Wz,show k+(i-k)=i by exact Wu Jh];exact e1) with⟨hX,d⟩ | d | d
  ·obtain⟨f,Jf,LX⟩:=JS d;have W:X.env.kindOf x=Y .cell\/X.env.kindOf x=Y .free:=by
    simpa using(BB _ (dg d))
   obtain⟨mX,Nt,LS⟩:=I.loc;obtain⟨u,r,l⟩:=LS _ x v hX e2 (W.elim (λz=>.inr (.inl z)) λz=>.inr (.inr z));refine⟨u,r,.inr ⟨?_,?_⟩⟩
   ·rcases LX with z | z
    ·subst z;exact .inl Jf
    ·subst z;exact .inr Jf
   ·obtain⟨c,S⟩:=Gv _ (dg d) M;refine⟨c,S,?_⟩;rcases l with⟨z,_⟩ | ⟨_,c',Bn,D2⟩
    ·rcases W with q | q<;>(rw[z]at q;cases q)
    ·have:=n x c S;rw[Bn]at this;cases this;exact D2.keeps a
  ·rcases e3 with z | z | z<;>(obtain⟨k0,w,_⟩:=bR z;rw[d]at w;cases w)
  ·rcases e3 with z | z | z<;>(obtain⟨k0,w,z2⟩:=bR z;rw[d]at w;cases w;rcases z2 with q | ⟨q,_⟩<;>cases q)
 ·obtain⟨v,z⟩:=I.cell x c (n x c e);exact⟨v,z.keeps a⟩
 ·show upd H D (.lst []) C=Z;rw[ak (Yq Gz)];exact(I.td.fresh U)
 ·obtain⟨v,z⟩:=I.cell x c (n x c e);rw[ak (Zo (Zh z.lt A))];exact I.Af x c (n x c e)
 ·exact⟨Yx _,[],0,.nil,Mu⟩
 ·rw[zW,YO,I.len,← hlen,ZX];exact Wu D5
def wU(X:Cx)(a:List Expr)(t:TT):Prop :=
 ∀(pins:Xs)(s:AC)(O:St)(H:Hp)(Q:Bool->Hp->Prop),Inv X pins O H s->t O H Q →
  GM (Da X.prog X.w) X.A (forIn a J λc r=>if r=J then (do let ok ← isTrue c X.env (eval c X.env);pure (ForInStep.yield ok)) else pure (ForInStep.yield r)) (TP X pins O Q) X.xe s
def qA:wU X [] (λO H Q=>Q J H):=λpins s O H Q I q=>z8 ⟨H,I,q⟩
section
def kH{s:AC}(I:Nat->AC->Prop)(f:∀n s,I n s->GM (Da prog w) A (pyNext t) (λr p=>match r with
   |none=>R (.ok .next) p
   |some v=>GM (Da prog w) A (letOwnedTupleGo a t v) (λ_ C=>GM (Da prog w) A (assign a d v) (λ_ B =>
     GM (Da prog w) A (forIn i J λc r=>if r=J then (do let ok ← isTrue c d (eval c d);pure (ForInStep.yield ok)) else pure (ForInStep.yield r)) (λok o =>
      if ok=J then GM (Da prog w) A (eval j d) (λx z =>
       GM (Da prog w) A (call (.builtin "list.append") [l,x]) (λ_ y=>∃m,m<n/\I m y) (λ_ _=>False) z) (λ_ _=>False) o
      else ∃m,m<n/\I m o) (λ_ _=>False) B) (λ_ _=>False) C) (λ_ _=>False) p) (λ_ _=>False) s)(n:Nat)(h:I n s) :
  codeAny (Da prog w) A (.compLoop (.ListComp j [⟨a,g,i,0⟩] e q) 0 t l d) R s:=by
 refine codeAny_loop M I (λn s N=>?_) n h;refine wpAny_noted ?_;rw[compTurn_list];refine zY (XE (zY (ZP (f n s N) (λr p D=>?_) λ_ _ b=>b.elim)));cases r with
 |none=>exact z8 D
 |some v =>
  refine zY (ZP D (λ_ C h₀=>?_) λ_ _ b=>b.elim);refine zY (ZP h₀ (λ_ B G=>zY (ZP G (λok o u=>?_) λ_ _ b=>b.elim)) λ_ _ b=>b.elim);cases ok with
  |false=>exact z8 ⟨rfl,u⟩
  |true =>
   rw[Zq M]at u;exact zY (zY (ZP u (λx z F=>zY (ZP F (λ_ y E=>z8 (z8 ⟨rfl,E⟩)) λ_ _ b=>b.elim)) λ_ _ b=>b.elim))
end
def rj(k:Nat)(p:TI)(g:TG)(r:TT)(q:TE)(O:St)(H:Hp)(Q:VK):Prop:=p O H λJ o=>∀D,o D=Z->∃W:Nat->Nat->St->Hp->Prop,
 (∃m,W 0 m (List.replicate k Z++O) (upd o D (.lst [])))/\∀i m h d,W i m h d->(J.stop i d/\Q (.ref D) d)\/(J.go i d/\∀x n,J.FT i d x n->g x h n λe t=>r e t λb l =>
  if b=true then q e l λy j=>∃f,j D=Y (.lst f)/\f.length<FB/\∃a,a<m/\W (i+1) a e (upd j D (.lst (f++[y]))) else ∃a,a<m/\W (i+1) a e l)
def oH{X:Cx}{N:List Str}(Bg:X.calm=true)(hi:PI X tg f wi)(CO:oJ X.env E=true)(DX:nO E (N.drop k) X.N=true)(D5:k<=N.length)(B2:∀cl C s H fp,PG (dk X N E cl C s H fp) tg g/\wU (dk X N E cl C s H fp) G tc/\PE (dk X N E cl C s H fp) S te)(hs:∀x,NI f X.env x=pure x)(I:Inv X pins O H s)(h:rj k wi g tc te O H Q)(hq:∀s' j D C m,Inv X pins O j s'->Q (.ref D) j->s'.heap.Ns C m->gR X pins j C->compPost (Da X.prog X.w) X.A X.xe F QQ (.ref D) C (.ok .next) s') :
  GM (Da X.prog X.w) X.A (comprehension (.ListComp S [⟨tg,f,G,0⟩] E pos) E X.env pos' (newList []) L (eval f X.env) F) QQ X.xe s:=by
 have DT:=CO;unfold oJ at DT;rw[YU,ZK]at DT;obtain⟨hk,BB⟩:=DT;have B1:E.kind=.function:=by simpa using hk
 obtain⟨cl,HK,CS,Gv⟩:=tL λy R e=>I.ok.has y.1 (by
  have:=BB y R;rw[e]at this;simpa using this)
 refine wpAny_comprehension_free M hs HK B1 (λy R e=>by
  have:=BB y R;rw[e]at this;simpa using this) (thn (hi pins s O H _ I h) λv s1 h1=>thn h1 λHh l h2=>?_)
 refine L2.aw λP_ k_=>?_;obtain⟨it,fp,tn,J,H2,e,I2,T,FX,f2,hW⟩:=h2;subst e;refine k_ ?_;refine YW (wpAny_newFunctionEnv (λy R e=>by have:=BB y R;rw[e]at this;cases this) (by intro y R;simp at R) (λh₁ CA BO=>?_) B1);generalize hP:l.heap.push { cls:=.type "list",dict:=Z,data:=.seq ([]).toArray }=P at CA BO ⊢;have HP:P.objs.size=l.heap.objs.size+1:=by rw[← hP,Z4]
 have old:=λb o e =>
  BO.extBut b o (by rw[HP];exact Zo (Y3 (Zt e))) (zX _ (hP ▸ zX _ e))
 have Gz:l.heap.objs.size≠P.objs.size:=by rw[HP];exact Zo (YH _)
 have D7:l.heap.objs.size<=P.objs.size:=by rw[HP];exact YT _
 have Dt:=λb a=>let ⟨o,ho,_⟩:=T.obj 0 _ FX b a;Zt ho
 have Gr:P.objs.size∉fp:=λa=>absurd (Zh (Dt _ a) D7) (YZ _);have IY:=I2.block (N:=N) (k:=k) (t:=l.toks+([]:List (Str×FS)).length) CO DX D5 CS Gv f2 (Zy _) D7 Gz Gr old CA (BO.extBut _ _ Gz (zX _ (hP ▸ Zr _ M)));obtain⟨hG,hT,hE⟩:=B2 cl P.objs.size l H2 fp;generalize hY:dk X N E cl P.objs.size l H2 fp=Y at IY hG hT hE;have Mq:Y.prog=X.prog/\Y.w=X.w/\Y.K=X.K/\Y.A=X.A/\Y.env=compEnvC E cl P.objs.size X.env/\Y.calm=X.calm/\(Y.xe=λ_ _=>False):=by rw[← hY];exact⟨rfl,rfl,rfl,rfl,rfl,rfl,rfl⟩
 refine L2.aw λP_ k_=>?_;obtain⟨y1,y2,y3,U,y5,y6,y7⟩:=Mq;have BK:∀{j:Hp},(∀b∈fp,j b=Z)->∀b∈fp,gR Y [] j b:=λ{j} hn b a=>by
  rw[← hY];refine⟨hn b a,λ(e:b=P.objs.size)=>Gr (e ▸ a),λC9=>?_,.inl a,λx c e=>(f2 b a).2.2.2.2.1 x c (CS x c e),λp hp=>(nomatch hp)⟩;rcases Zz.mp (I2.A1 b C9) with z | z
  ·exact(f2 b a).2.1 z
  ·exact(f2 b a).2.2.1 z
 obtain⟨W,⟨m0,w0⟩,turn⟩:=hW l.heap.objs.size (I2.td.fresh (Zy _));refine k_ ?_;have Dr:=T.keep _ _ _ FX λb _ o e=>old b o e;have loop:codeAny (Da X.prog X.w) X.A (.compLoop (.ListComp S [⟨tg,f,G,0⟩] E pos) 0 (.ref it) (.ref l.heap.objs.size) (compEnvC E cl P.objs.size X.env)) (compPost (Da X.prog X.w) X.A X.xe F QQ (.ref l.heap.objs.size) P.objs.size)
   { l with heap:=h₁,toks:=l.toks+([]:List (Str×FS)).length }:=by
  refine kH (λn s'=>∃i O' j,Inv Y [] O' j s'/\tn i s'.heap/\(∀b∈fp,j b=Z)/\W i n O' j) ?_ m0 ⟨0,_,_,IY,Dr,(λb a=>by rw[ak (Zo (Dt b a))];exact(f2 b a).1),w0⟩;rintro n s3 ⟨i,O3,H3,I3,Dr,FA,w3⟩;rcases turn i n O3 H3 w3 with⟨stop,qn⟩ | ⟨go,step⟩
  ·have q:=T.done Y y1 y2 y3 (y6.trans Bg) i [] s3 O3 H3 (λ_ _=>False) I3 (BK FA) Dr stop;rw[U]at q;refine thn q λr s4 B=>?_;obtain⟨hr,I4⟩:=B;subst hr;obtain⟨mC,Jb,_⟩:=I4.loc;have f4:=I4.free;rw[y5]at Jb f4;exact hq s4 H3 _ P.objs.size mC (by
    have b4:=I4.base;have o4:=I4.os;have k4:=I4.td;rw[← hY]at b4 o4 k4;refine I2.DD (ch:=fp) o4 b4 k4 I4.bare λb a=>?_;exact⟨(f2 b a).2.2.2.1,(f2 b a).2.1,(f2 b a).2.2.2.2.1,(f2 b a).2.2.2.2.2⟩) qn Jb (I2.CF D7 f4)
  ·have q:=T.item Y y1 y2 y3 (y6.trans Bg) i [] s3 O3 H3 (λ_ _=>False) I3 (BK FA) Dr go;rw[U]at q;refine thn q λr s4 B=>?_;obtain⟨u,hr,h4⟩:=B;subst hr;refine thn h4 λ_ s5 B=>?_;obtain⟨x,H5,I5,r5,JR,DJ,HV⟩:=B;have again:∀{O7:St}{H7:Hp}{s7:AC}{m:Nat},Inv Y ([]++gW fp s5.heap) O7 H7 s7->W (i+1) m O7 H7->∃i O' j,Inv Y [] O' j s7/\tn i s7.heap/\(∀b∈fp,j b=Z)/\W i m O' j:=λ{O7 H7 s7 m} I7 w7=>by
    refine⟨i+1,O7,H7,I7.AL,T.keep _ _ _ DJ λb a o e=>(I7.pin (b,o) (Zb _ (Zb _ (dN a e)))).1,λb a=>?_,w7⟩;obtain⟨o,e,d⟩:=T.obj _ _ DJ b a;exact(I7.pin (b,o) (Zb _ (Zb _ (dN a e)))).2.1
   have qa:=hG _ s5 O3 H5 x u _ (I5.pinned (BK HV) (T.obj _ _ DJ)) r5 (step x H5 JR);rw[y1,y2,U,y5,y7]at qa;refine thn qa λ_ s6 B=>?_;obtain⟨O6,H6,I6,q6⟩:=B;have qt:=hT _ s6 O6 H6 _ I6 q6;rw[y1,y2,U,y5,y7]at qt;refine thn qt λb s7 B=>?_;obtain⟨H7,I7,q7⟩:=B;cases b with
   |false =>
    rw[Zl Zp]at q7 ⊢;obtain⟨m',hm,w7⟩:=q7;exact⟨m',hm,again I7 w7⟩
   |true =>
    rw[Zq M]at q7 ⊢;have qe:=hE _ s7 O6 H7 _ I7 q7;rw[y1,y2,U,y5,y7]at qe;refine thn qe λyv s8 B=>?_;obtain⟨y,H8,I8,r8,ys,Mw,LU,m',hm,w8⟩:=B;have qp:=iZ (X:=Y) _ s8 O6 H8 (.ref l.heap.objs.size) [y] (.ref l.heap.objs.size) [yv] (λ_ H9=>W (i+1) m' O6 H9) I8 M (.cons r8 .nil) ⟨_,ys,y,rfl,rfl,Mw,LU,w8⟩;rw[y1,y2,U,y7]at qp;refine thn qp λ_ s9 B=>?_;obtain⟨_,H9,I9,_,w9⟩:=B;exact⟨m',hm,again I9 w9⟩
 exact codeAny_compStart_list loop (T.self _ 0 _ _ _ Dr loop)
def t7{X:Cx}{N:List Str}(M:X.calm=J)(w:PI X l a p)(G:oJ X.env d=J)(B:nO d (N.drop k) X.N=J)(F:k<=N.length)(P:∀cl C s H fp,PG (dk X N d cl C s H fp) l g/\wU (dk X N d cl C s H fp) i t/\PE (dk X N d cl C s H fp) j r)(u:{`q2,∀x,NI a X.env x=pure x}):PE X (.ListComp j [⟨l,a,i,0⟩] d n) (rj k p g t r):=by
 intro pins s O H Q I h;rw[eval_ListComp];refine oH M w G B F P u I h λR A D C m z q v f=>⟨m,v,λS E=>?_⟩
 exact⟨.ref D,A,z.turned (λb o y e=>E.extBut b o y e) f.1 f.2.1 f.2.2.2.1 f.2.2.2.2.1 f.2.2.2.2.2,rfl,q⟩
end
end L2
end
section
namespace VS
open PySem PySem.Spec PyProof.Rows L2
noncomputable def vi(k:Nat)(g:Tg):Prop:=∀t U a,g t U=Y a->a.length=U.length/\∀i,k<=i->a[i]?=U[i]?
def eB(h:{`q0,i<k}):vi k (cP i):=λt U b e=>by
 unfold cP at e;split at e
 ·cases e;exact⟨by simp,λj a=>by rw[Yz (by lia)]⟩
 ·cases e
theorem m5:∀(l:Wc){i:Nat}{t:T},eR l=J->l[i]?=Y t->AU t=J
 |[],_,_,_,h=>by simp at h
 |x :: l,0,t,h,e=>by
  simp at e;rw[← e];exact(Z1.mp h).1
 |x :: l,i+1,t,h,e=>by
  exact m5 l (Z1.mp h).2 (by simpa using e)
def tC(G:Gx):Option Ex->TT
 |none=>λO H Q=>Q J H
 |some c=>tT G c
section
def fC:(List.replicate k Z++U)[i]?=Y (Y c)↔k<=i/\U[i-k]?=Y (Y c):=by
 rcases Wv i k with h | h
 ·rw[Yw (by simpa using h),YV];constructor
  ·intro e;split at e<;>cases e
  ·intro ⟨e,_⟩;lia
 ·rw[ZR (by simpa using h),YO];exact⟨λe=>⟨h,e⟩,λe=>e.2⟩
def rC:bE (λi=>S (i-k)) (List.replicate k Z++U) a↔bE S U a:=by
 constructor
 ·rintro⟨j,t,d,b⟩;exact⟨j-k,t,(fC.mp d).2,b⟩
 ·rintro⟨j,t,d,b⟩;refine⟨j+k,t,fC.mpr ⟨Nat.le_add_left _ _,by rw[Xh];exact d⟩,?_⟩;show a∈S (j+k-k);rw[Xh];exact b
def qY:cM (λi=>S (i-k)) (List.replicate k Z++U) a↔cM S U a:=by
 constructor
 ·rintro⟨j,t,d,b⟩;exact⟨j-k,t,(fC.mp d).2,b⟩
 ·rintro⟨j,t,d,b⟩;refine⟨j+k,t,fC.mpr ⟨Nat.le_add_left _ _,by rw[Xh];exact d⟩,?_⟩;show a∈S (j+k-k);rw[Xh];exact b
def SR.sh(s:SR G S U O H):SR G (λi=>S (i-k)) (List.replicate k Z++U) (List.replicate k Z++O) H:=by
 refine⟨by simp[s.len],λi c h=>?_,λi t h=>?_,λi j t c b a n=>?_⟩
 ·obtain⟨b,a⟩:=fC.mp h;obtain⟨v,e,d⟩:=s.rp _ c a;refine⟨v,?_,d⟩;rw[ZR (by simpa using b),YO];exact e
 ·exact s.nd _ t (fC.mp h).2
 ·obtain⟨a1,a2⟩:=fC.mp b;obtain⟨b1,b2⟩:=fC.mp a;exact s.sep _ _ t c a2 b2 (by lia)
def SR.less{U:VS.Env}(s:SR G S a O H)(b:U.length=a.length)(h:∀(i:Nat) c,U[i]?=Y (Y c)->a[i]?=Y (Y c)):SR G S U O H :=
 ⟨b.trans s.len,λi c e=>s.rp i c (h i c e),λi t e=>s.nd i t (h i _ e),λi j t c e1 e2 n=>s.sep i j t c (h i _ e1) (h j _ e2) n⟩
def SR.off(s:SR G S U O H)(m:Ak (H D)\/H D=Z)(f:¬cM S U D)(d:¬bE S U D):SR G S U O (upd H D o):=by
 refine⟨s.len,λi c e=>?_,s.nd,s.sep⟩;obtain⟨v,j,h⟩:=s.rp i c e;refine⟨v,j,h.keep (Kept.upd m) λb a l g=>?_⟩;rw[ak λz=>?_]
 ·exact g
 ·subst z;cases c with
  |pu t=>exact f ⟨i,t,e,a⟩
  |ow t=>exact d ⟨i,t,e,a⟩
theorem ia:∀(l:We)(v:Val),bC (l++[v])=(bC l).join v.1
 |[],(m,t)=>by cases m<;>rfl
 | (m,t) :: l,v=>by
  show m.join (bC (l++[v]))=(m.join (bC l)).join v.1;rw[ia l v];generalize bC l=q;generalize v.1=r;cases m<;>cases q<;>cases r<;>rfl
def Fp.E8(f:Fp S U H m F)(g:Fp S U H n j)(d:n=.fr->∀a∈F,a∉j):Fp S U H (m.join n) (F++j):=by
 have both:∀{P:FM->Prop},(∀a∈F,P a)->(∀a∈j,P a)->∀a∈F++j,P a:=λp q a h=>(Zv.mp h).elim (p a) (q a);cases m<;>cases n
 ·exact⟨ZA.mpr ⟨f.1,g.1,λa i b l e=>d M a i (e ▸ l)⟩,both f.2 g.2⟩
 ·exact both (λa i=>.inl (f.2 a i)) g
 ·exact both (λa i=>.inl (f.2 a i)) g
 ·exact both f λa i=>.inl (g.2 a i)
 ·exact both f g
 ·exact both (λa i=>(f a i).imp id .inl) g
 ·exact both f λa i=>.inl (g.2 a i)
 ·exact both f λa i=>(g a i).imp id .inl
 ·exact both f g
def Fp.FI(f:Fp S U H m F)(h:H D=Z)(d:D∉F):Fp S U H m (D :: F):=by
 have all:∀{P:FM->Prop},P D->(∀a∈F,P a)->∀a∈D :: F,P a:=λp q a b=>(Zz.mp b).elim (λe=>e ▸ p) (q a);cases m
 ·exact⟨ZM.mpr ⟨d,f.1⟩,all h f.2⟩
 ·exact all (.inl h) f
 ·exact all (.inl h) f
end
section
def CI(G:Gx)(S:Ac)(U b:VS.Env)(H p:Hp)(D:FM)(l:Wc)(h:We)(q:Tg)(d:Option Ex)(r:Ex)(i n:Nat)(s:L2.St)(f:Hp):Prop:=n=l.length-i/\∃e g j m rest,SR G e b s f/\(∀a,bE e b a->bE S U a)/\(∀a,cM e b a->H a=Z\/cM S U a)/\¬cM e b D/\¬bE e b D/\Kept p f ∧
     (∀a o,a≠D->p a=Y o->f a=Y o)/\f D=Y (.lst m)/\xa G f m (trees g) j/\D∉j.flatten/\Fp S U H (bC g) j.flatten/\ie q d r b (l.drop i)=Y rest/\g++rest=h
def tf{G:Gx}{k:Nat}{tg:Tg}{ci:Bt}{cond:Option Ex}{ce:Ex}{O:L2.St}{H:Hp}{Q:VK}(B2:vi k tg)(h:tE G (dw k tg ci cond ce) O H Q):rj k (tI G ci) (tG G tg) (tC G cond) (tE G ce) O H Q:=by
 refine L2.aw λP_ A=>?_;obtain⟨S,U,m,r,s,e,kq⟩:=h;obtain⟨⟨mi,l⟩,el,e1⟩:=zZ.mp e;dsimp only at e1;split at e1
 ·rename_i td;obtain⟨all,ea,e2⟩:=zZ.mp e1;unfold Bl at e2;split at e2
  ·rename_i hlen;cases e2;refine A ?_;refine⟨S,U,mi,l,s,el,λJ H1 C e3 ok fc D hD=>?_⟩;have D6:=e3.free hD;let E:VS.Env:=List.replicate k Z++U
   have good:∀{t:T}{i:Nat}{p X:Hp}{v:V}{F:Wl},l[i]?=Y t->Rp G X v t F->(∀a,H1 a≠Z->p a≠Z)->(∀a∈F,a∈C\/p a=Z)->∀a∈F,(H a=Z\/cM S U a)/\¬bE S U a:=λ{t i p X v F} hi rF keep hF a d=>by
    have Ay:∀{b},H b≠Z->p b≠Z:=λ{b} hb=>keep b λz=>hb (e3.free z);rcases hF a d with z | z
    ·rcases fc a z with q | q | ⟨q,w⟩
     ·exact⟨.inl q,λw=>Ak.pe (s.Aw w) q⟩
     ·exact⟨.inr q,λw=>s.BX w q⟩
     ·subst q;have:AU t=true:=by
       exact m5 l td hi
      rw[rF.AU this]at d;simp at d
    ·have hz:=Classical.byContradiction λq=>Ay q z;exact⟨.inl hz,λw=>Ak.pe (s.Aw w) hz⟩
   refine⟨CI G S U E H H1 D l all tg cond ce,?_,?_⟩
   ·refine⟨l.length-0,rfl,λi=>S (i-k),[],[],[],all,?_,λa h=>rC.mp h,λa h=>.inr (qY.mp h),λh=>?_,λh=>?_,Kept.upd (.inr hD),λa o n h=>by rw[ak n];exact h,av,.nil,by simp,Fp.nil,by rw[Y6];exact ea,rfl⟩
    ·exact((s.same e3).sh).off (.inr hD) (λh=>Ak.pe (s.Cu (qY.mp h)) D6) λh=>Ak.pe (s.Aw (rC.mp h)) D6
    ·exact Ak.pe (s.Cu (qY.mp h)) D6
    ·exact Ak.pe (s.Aw (rC.mp h)) D6
   ·intro i n O' p L8;refine L2.aw λP_ A=>?_;obtain⟨rfl,S1,R,Fs,xs,rest,s1,IH,Kp,Lb,Lc,kp,old,EF,rp,nD,fp,er,ev⟩:=L8;refine A ?_;have BY:∀a,H1 a≠Z->p a≠Z:=λa d z=>by
     by_cases q:a=D
     ·subst q;rw[EF]at z;cases z
     ·cases e:H1 a with
      |none=>exact d e
      |some o=>rw[old a o q e]at z;cases z
    refine L2.aw λP_ A=>?_;obtain⟨go,stop⟩:=ok.run p kp λa d o ho=>old a o (λz=>ok.Ay a d (z ▸ hD)) ho;cases hit:l[i]? with
    |none =>
     have hl:=Yd.mp hit;refine A ?_;left;refine⟨stop i hl,?_⟩;rw[Yl hl]at er;cases (er);rw[ZL]at ev;subst ev;refine kq (.ref D) p (D :: Fs.flatten) (λa o h=>old a o (λz=>by rw[z,D6]at h;cases h) (e3 a o h)) (.lst EF rp) ?_;by_cases hi:eR (trees R)=true
     ·rw[Zq hi,rp.AU hi];exact⟨by simp,λa d=>by rw[Zx.mp d];exact D6⟩
     ·rw[Zl hi];exact fp.FI D6 nD
    |some t =>
     have hl:=(Zs.mp hit).1;obtain⟨g1,y1⟩:=go i t hit;refine A ?_;right;refine⟨g1,λx X yl=>?_⟩;refine L2.aw λP_ A=>?_;obtain⟨g,F,rF,hF⟩:=y1 x X yl;rw[iP (tgt:=tg) (body:=fN) (U:=U) hit]at er;rw[ie]at er;obtain⟨W,e4,e5⟩:=zZ.mp er;obtain⟨b,eb,e6⟩:=zZ.mp e5;have gd:=good hit rF BY hF;refine A ?_;refine⟨S1,E,t,F,W,(s1.same g),rF,λa d z=>(gd a d).2 (IH a z),e4,λI O3 s3 o3 p3=>?_⟩;obtain⟨tl,EK⟩:=B2 t E W e4;have low:∀j c,E[j]?=Y (Y c)->W[j]?=Y (Y c):=λj c h=>by rw[EK j (fC.mp h).1];exact h
     have F6:=λa h=>(p3 a h).elim (Kp a) λh=>(gd a h).1;have GY:=λa h=>IH a (o3 a h);have EX:=λh=>(p3 D h).elim Lb (λh=>by
      rcases hF D h with z | z
      ·exact ok.Ay D z hD
      ·rw[EF]at z;cases z)
     have Gb:=λh=>Lc (o3 D h);have F0:∀a,cM I E a->cM I W a:=λa ⟨j,u,h1,h2⟩=>⟨j,u,low j _ h1,h2⟩
     have F8:∀a,bE I E a->bE I W a:=λa ⟨j,u,h1,h2⟩=>⟨j,u,low j _ h1,h2⟩
     have Ds:∀P,aC X P->(if b=true then tE G ce O3 P λy N=>∃ys,N D=Y (.lst ys)/\ys.length<FB/\∃m',m'<l.length-i/\CI G S U E H H1 D l all tg cond ce (i+1) m' O3 (upd N D (.lst (ys++[y]))) else ∃m',m'<l.length-i/\CI G S U E H H1 D l all tg cond ce (i+1) m' O3 P):=λP f=>by
      have eo:∀{N},aC P N->∀a o,p a=Y o->N a=Y o:=λ{N} EI a o h=>EI a o (f a o (g a o h));cases b with
      |false =>
       rw[Zl Zp]at e6 ⊢;have same:=eo (aC.refl P);exact⟨_,by lia,rfl,I,R,Fs,xs,rest,(s3.same f).less (by rw[tl]) low,λa h=>GY a (F8 a h),λa h=>F6 a (F0 a h),λh=>EX (F0 D h),λh=>Gb (F8 D h),kp.trans ((Kept.of g).trans (Kept.of f)),λa o n h=>same a o (old a o n h),same D _ EF,rp.same (aC.trans g f),nD,fp,e6,ev⟩
      |true =>
       rw[Zq M]at e6 ⊢;obtain⟨⟨mv,tv⟩,ME,e7⟩:=zZ.mp e6;obtain⟨ER,MA,Jx⟩:=z9.mp e7;refine⟨I,W,mv,tv,s3.same f,ME,λy N Fy EI ry B=>?_⟩;have same:=eo EI;have Js:=same D _ EF;have Gf:Ak (N D):=by rw[Js];exact True.intro
       have HN:=f D _ (g D _ EF);have Cv:=λa h=>Classical.byContradiction λq=>BY a (λz=>q (e3.free z)) (g.free (f.free h));have JP:=λh=>by
        cases mv with
        |fr=>have:=B.2 D h;rw[HN]at this;cases this
        |pu=>exact(B D h).elim (λz=>by rw[HN]at z;cases z) EX
        |bo=>exact(B D h).elim (λz=>by rw[HN]at z;cases z) λz=>z.elim EX Gb
       have Lh:xs.length=R.length:=by rw[rp.len.1];simp
       have Li:R.length<all.length:=by rw[← ev,← Jx];simp
       refine⟨xs,Js,?_,_,by lia,rfl,I,R++[(mv,tv)],Fs++[Fy],xs++[y],ER,(((s3.same f).same EI).off (.inl Gf) EX Gb).less (by rw[tl]) low,λa h=>GY a (F8 a h),λa h=>F6 a (F0 a h),λh=>EX (F0 D h),λh=>Gb (F8 D h),?_,λa o n h=>?_,av,?_,?_,?_,MA,?_⟩
       ·have Jd:all.length<=cj:=by simpa using hlen
        have:FB=cj:=rfl;lia
       ·exact(kp.trans ((Kept.of g).trans ((Kept.of f).trans (Kept.of EI)))).trans (Kept.upd (.inl Gf))
       ·rw[ak n];exact same a o (old a o n h)
       ·have:trees (R++[(mv,tv)])=trees R++[tv]:=by simp
        rw[this];exact((rp.same ((g.trans f).trans EI)).off Gf nD).append (.cons (ry.keep (Kept.upd (.inl Gf)) λb hb o ho=>by rw[ak (λz=>JP (by rw[← z];exact hb))];exact ho) .nil)
       ·rw[Yo];intro h;rcases Zv.mp h with z | z
        ·exact nD z
        ·exact JP (by simpa using z)
       ·rw[Yo,ia];have:([Fy]).flatten=Fy:=by simp
        rw[this];refine fp.E8 (by
        cases mv with
        |fr=>exact⟨B.1,λa d=>Cv a (B.2 a d)⟩
        |pu=>exact λa d=>(B a d).elim (λz=>.inl (Cv a z)) (F6 a)
        |bo=>exact λa d=>(B a d).elim (λz=>.inl (Cv a z)) λz=>z.elim (λz=>(F6 a z).imp id .inl) λz=>.inr (.inr (GY a z))) λhm a d hb=>?_
        subst hm;have:=(rp.same (g.trans f)).Ay a d;rw[(B.2 a hb)]at this;exact this
       ·rw[ZY,← ev,← Jx];rfl
     cases cond with
     |none =>
      cases (eb);exact Ds X (aC.refl X)
     |some c =>
      obtain⟨⟨mc,xc⟩,MG,MF⟩:=zZ.mp eb;exact⟨I,W,mc,xc,b,s3,MG,MF,λP f=>Ds P f⟩
  ·cases e2
 ·cases e1
end
section
def eG{X:Cx}(k:Nat)(N:List Str)(l:X.calm=J)(b:PVI G X tg iter ci)(m:vi k g)(d:∀cl C s H fp,EJ G (dk X N sc cl C s H fp) tg g)(he:∀cl C s H fp,PV G (dk X N sc cl C s H fp) elt ce)(j:{`q1,oJ X.env sc=J})(e:{`q1,nO sc (N.drop k) X.N=J})(f:{`q0,k<=N.length})(a:{`q2,∀x,NI iter X.env x=pure x}) :
  PV G X (.ListComp elt [⟨tg,iter,[],0⟩] sc pos) (dw k g ci Z ce) :=
 PE.weak (t7 l b j e f (λcl C s H fp=>⟨d cl C s H fp,qA,he cl C s H fp⟩) a) λO H Q h=>tf m h
end
end VS
end
section
namespace L2
open PySem PySem.Spec PyProof.Rows
def Ir(K:Xe)(a:FM):It :=
 ⟨λi H=>∃b x,Aj K H a b/\b[i]?=Y x,λi H v d=>∃p x,H p=Z/\v=.ref p/\d=upd H p (.tup [.int i,x])/\∀b,Aj K H a b->b[i]?=Y x,λi H=>∃b,Aj K H a b/\b.length<=i⟩
def oa{P:KM}{w:NG}{K:Xe}{B:List Expr}{n:Nat}{G:Pos}(a e g:FM)(Bf:e≠g):Turn P w K (.Tuple B n G) (Ir K a) [e,g] e (λi h=>(∃old,IsEnum h e g i old)/\h.IsListIter g a i) where
 mem:=by simp
 obj:=λi h st b f=>by
  obtain⟨⟨old,he⟩,o,Q,c,d⟩:=st;rcases Zz.mp f with rfl | f
  ·exact⟨_,he,λv z=>by cases (z)⟩
  ·rw[Zx.mp f];exact⟨o,Q,λv z=>by rw[d]at z;cases z⟩
 keep:=λi h h' st k=>⟨let ⟨old,he⟩:=st.1;⟨old,k e (by simp) _ he⟩,st.2.at λo x=>k g (by simp) o x⟩
 item:=by
  intro X S hw U hc i j s O H E I t st R;refine L2.aw λP_ k_=>?_;subst S hw U;obtain⟨xs,x,D,N⟩:=R;obtain⟨cp,F,p,hz⟩:=I.list D;obtain⟨u,hu,ru⟩:=F.get N;obtain⟨⟨old,he⟩,hit⟩:=st;refine k_ ?_;refine wpAny_pyNext_enum_item he hit p.isList (x:=u) (by simpa using hu) Bf λh1 Q HB hT hsz hk=>⟨_,rfl,?_⟩
  refine wpAny_letOwnedTupleGo_enum Q λh2 HI C=>?_;have C:=C;have IP:=Zt he;have Dy:=I.td.fresh (Zy _);have A:∀b o,b∉[e,g]->s.heap.get? b=Y o->h2.get? b=Y o:=λb o f q=>by
   have Jt:b≠e:=λz=>f (by simp[z]);exact(C.2 b Jt).trans (hk b o Jt (λz=>f (by simp[z])) q)
  have Jp:=(C.2 _ (YK IP)).trans hT;have IL:∀b o,H b=Y o->b∉[e,g]:=λb o q f=>by rw[(t b f).1]at q;cases q
  have up:∀b o,H b=Y o->upd H s.heap.objs.size (.tup [.int i,x]) b=Y o:=λb o q=>by rw[ak (aY q Dy)];exact q
  refine⟨.ref s.heap.objs.size,upd H s.heap.objs.size (.tup [.int i,x]),?_,rfl,⟨_,x,Dy,rfl,rfl,λys hy=>by rw[I.Bw hy D];exact N⟩,⟨⟨u,by simpa using HI⟩,HB.at λo y=>(C.2 g Bf.symm).trans y⟩,λb f=>?_⟩
  ·show Inv X j O _ { s with heap:=h2,gens:=s.gens,drawn:=s.drawn,toks:=s.toks+1 };refine I.step (λb f=>?_) (λb o _ _ l q _=>A b o l q) (λb o _ _ l q _=>⟨o.slots,A b o l q⟩) (λb o _ q r=>by rw[ak ((λb o q=>Zo (Zt q)) b o q)];exact r) (λb o l q=>⟨o,A b o l q⟩)
    (λb ys q=>up b _ q) (λb o v q=>up b _ q) (λb _ q=>up b _ q) (λm hm=>?_) (λb ob q=>by
   by_cases f:b=s.heap.objs.size
   ·subst f;rw[av]at q;cases q;exact⟨by show 2<=FB;decide,[.int i s.toks,u],.cons ⟨_,rfl⟩ (.cons ru .nil),Dk.of Jp M,⟨_,Jp,rfl,_,rfl⟩⟩
   ·rw[ak f]at q;refine(I.td b ob q).A2 (λc v l r=>A c v ?_ r) (λc r=>up c _ r) (λc ys r=>up c _ r) λc _ _ r=>up c _ r;rcases l with z | z
    ·rw[z];exact IL b ob q
    ·exact IL c _ z) I.bare
   ·obtain⟨f0,f1,f2,f3,f4,W⟩:=t b f;exact⟨f3,f1,f4,W⟩
   ·obtain⟨o,es,ep,BA,r⟩:=hm;refine⟨o,es,ep,A _ o (λz=>?_) BA,r⟩;exact(t _ z).2.1 M
  ·have:b≠s.heap.objs.size:=by
    rcases Zz.mp f with rfl | f
    ·exact Zo IP
    ·rw[Zx.mp f];exact Zo (let ⟨_,z,_⟩:=hit;Zt z)
   rw[ak this];exact(t b f).1
 done:=by
  intro X S hw U hc i j s O H E I t st R;subst S hw U;obtain⟨xs,D,N⟩:=R;obtain⟨cp,F,p,hz⟩:=I.list D;obtain⟨⟨old,he⟩,hit⟩:=st;obtain⟨f0,f1,f2,f3,f4,W⟩:=t g (by simp);have hl:=F.length;exact wpAny_pyNext_enum_end (I.ok.hd hc) he hit p.isList (by simp;lia) λh' eb=>⟨rfl,I.turned (λb o f q=>eb b o f q) f0 f1 f3 f4 W⟩
 self:=λ_ _ _ _ _ st h=>let ⟨_,he⟩:=st.1;wpAny_pyIter_enum he h
section
def zt(K:Xe)(ta:TA):TI:=λO H R=>ta O H λe b=>∃l,e=[.ref l]/\(∃d,Aj K b l d)/\R (Ir K l) b
def sP(z:Gl X "enumerate")(x:X.mg "enumerate" = Z)(A:PA X [a] ta)(v:{`q1,KB [a] X.env=[(L,eval a X.env)]}):PI X (.Tuple f n D) (.Call (.Name "enumerate" p) [a] [] pos) (zt X.K ta):=by
 intro d s O H R I h;refine Call_ (gO I z x boot_enumerate (Xk (thn (A pos d s O H _ I h) λG i B=>?_) v M));obtain⟨F,C,g,r1,t⟩:=B;obtain⟨l,e,⟨E,w⟩,q⟩:=t;subst e;cases r1 with
 |cons r o =>
  cases o;cases r;obtain⟨S,N,pl,P⟩:=g.list w;refine call_enumerate_list pl.isList λQ he hit u y=>?_;refine wpAny_pyIter_enum he ?_;refine⟨_,_,_,_,C,rfl,g.kept y,oa l (i.heap.objs.size+1) i.heap.objs.size (Nat.succ_ne_self _),⟨⟨_,he⟩,hit⟩,λb j=>?_,q⟩;have m:i.heap.objs.size<=b:=by
   rcases Zz.mp j with rfl | j
   ·exact Nat.le_add_right _ _
   ·rw[Zx.mp j];exact Zy _
  exact g.CF m (g.td.fresh m)
end
end L2
namespace VS
open PySem PySem.Spec PyProof.Rows L2
section
theorem kn:∀(l:Wc)(k i:Nat){t:T},(df k l)[i]?=Y t->∃x,l[i]?=Y x/\t=.tup [.int ((k+i:Nat):Int),x]
 |[],_,_,_,h=>by simp[df]at h
 |x :: l,k,0,t,h=>by
  simp[df]at h;exact⟨x,rfl,by rw[← h];rfl⟩
 |x :: l,k,i+1,t,h=>by
  obtain⟨y,d,b⟩:=kn l (k+1) i (by simpa[df] using h);refine⟨y,by simpa using d,?_⟩;rw[b,show k+1+i=k+(i+1) by lia]
theorem jb:∀(l:Wc)(k:Nat),(df k l).length=l.length
 |[],_=>rfl
 |x :: l,k=>by simp[df,jb l (k+1)]
def ue{a:FM}(K:Xe)(l:H a=Y (.lst e))(r:xa G H e f w):Ci G (Ir K a) (df 0 f) (a :: w.flatten) H:=by
 refine⟨λu k c=>?_,λb d=>?_⟩
 ·have g:=c a zU _ l;refine⟨λi t h=>?_,λi h=>⟨e,Aj.of g,by rw[jb]at h;rw[r.len.1];exact h⟩⟩;refine L2.aw λN A=>?_;obtain⟨y,B,s⟩:=kn f 0 i h;rw[Y2]at s;obtain⟨v,F,m,M,I⟩:=(r.keep k λb d o D=>c b (zV _ d) o D).get i B;refine A ?_;refine⟨⟨e,v,Aj.of g,m⟩,λx O E=>?_⟩;obtain⟨p,z,C,e1,e2,e3⟩:=E;subst e1 e2;have ex:=e3 e (Aj.of g);rw[m]at ex;cases ex;have j:aC u (upd u p (.tup [.int i,v])):=λb o q=>by rw[ak (aY q C)];exact q
  refine⟨j,F,?_,λb d=>.inl (zV _ (d6 M d))⟩;rw[s];have:F=([[],F]).flatten:=by simp
  rw[this];exact .tup av (.cons (.int _) (.cons (I.same j) .nil))
 ·rcases Zz.mp d with rfl | d
  ·rw[l];exact λz=>nomatch z
  ·exact Ak.pe (r.Ay b d)
def oV(r:PV G X a ca)(q:Gl X "enumerate")(o:X.mg "enumerate" = Z)(i:{`q1,K0 a [] X})(y:{`q1,KB [a] X.env=[(L,eval a X.env)]}) :
  PVI G X (.Tuple elts n DI) (.Call (.Name "enumerate" p) [a] [] pos) (mT ca) :=
 PI.weak (sP q o (bH r dq i) y) λO H R j=>by
  obtain⟨S,U,m,l,s,e,k⟩:=j;obtain⟨⟨g,x⟩,t,e1⟩:=zZ.mp e;refine⟨S,U,g,x,s,t,λv w F e3 r3 f3=>?_⟩;cases x with
  |lst z =>
   refine L2.aw λA h=>?_;cases e1;obtain⟨u,d,B,rfl,rfl,b,f⟩:=r3.lst_inv;refine h ?_;exact⟨u,rfl,⟨d,Aj.of b⟩,k _ w _ e3 (ue X.K b f) f3.c⟩
  |_=>cases e1
end
noncomputable instance {s:Tx}:Decidable (dS s):=inferInstanceAs (Decidable (_/\_))
section
def w_add(f:PV G X a ca)(d:PV G X b cb):PV G X (.BinOp a .Add b pos) (e2 au ca cb):=cO uk vo f d
def w_mod(f:PV G X a ca)(d:PV G X b cb):PV G X (.BinOp a .Mod b pos) (e2 oMod ca cb):=cO wD wt f d
def w_eq{X:Cx}(d:Aa k X.A)(g:PV G X a ca)(f:PV G X b cb):PV G X (.Compare a [.Eq] [b] pos) (e2 oEq ca cb):=wM (rn d.units) uZ g f (ft _)
def nh{X:Cx}(d:Aa k X.A)(g:PV G X a ca)(f:PV G X b cb):Cp G X (.Compare a [.Eq] [b] pos) (e2 oEq ca cb):=eA (rn d.units) uZ tells_eq g f (ft _)
def cz(g:PV G X a ca)(f:PV G X b cb)(d:mY b:=by intro _ _;rfl)(i:{`q1,X.K=G.K}):PV G X (.Subscript a b pos) (e2 bh ca cb) :=
 PE.weak (yb wH g f d) λO H Q h=>by rw[i];exact jO wO h
def eS{X:Cx}(d:X.mg "len" = Z)(g:PVs G X [e] cs)(f:{`q1,Gl X "len"})(h:{`q1,X.K=G.K})(he:{`q1,K0 e [] X}):PV G X (.Call (.Name "len" p) [e] [] pos) (eN cQ cs) :=
 kh (h ▸ oj) vc f d PySem.boot_len g (he:=he)
def ux:bootBuiltins ("list" : Str)=Y (.type "list"):=by decide +kernel
noncomputable def Em:Ty->Str
 |.int => "int" |.str => "str" |.bool => "bool" |.list => "list" |.tuple => "tuple" |.dict => "dict"
def yO(t:Ty):bootBuiltins (Em t)=Y (.type (Cj t)):=by cases t<;>decide +kernel
def w_is{X:Cx}(t:Ty)(f:X.mg "isinstance" = Z)(l:X.mg (Em t)=Z)(h:PV G X a ca)(g:{`q1,Gl X "isinstance"})(j:{`q1,Gl X (Em t)})(i:{`q1,X.K=G.K})(d:{`q1,KB [a,.Name (Em t) p2] X.env=(L,eval a X.env) :: KB [.Name (Em t) p2] X.env}):PV G X (.Call (.Name "isinstance" p1) [a,.Name (Em t) p2] [] pos) (DA t ca) :=
 xS t h g f j l (yO t) i (by cases t<;>decide) (by cases t<;>decide) d M M
def gB{apos:Pos}(i:Nat)(m:PVs G X [e] cs)(o:{`q1,X.K=G.K})(n:{`q1,X.N[i]?=Y x})(f:{`q4,Cg X.env.scope x})(j:{`q0,K2 x})(d:{`q0,K3 x})(s:{`q1,((backTo cv (KB [e] X.env)).all (λx=>!x.1)&&(backToKw cv (NC [] X.env)).all (λx=>x.1.isSome)
   && decide ([e].length+([]:List Keyword).length+(if ([]:List Keyword).isEmpty then 0 else 1)<30))=J})(q:{`q1,(apos.endLine==cv.line)=J})(g:{`q1,K0 e [] X}) :
  PSV G X (.Expr (.Call (.Attribute (.Name x p1) "append" apos) [e] [] cv) pos) (sX (iw i [] bT cs)) :=
 qb i PySem.F.plainAttrs_list PySem.F.slot_list_append PySem.F.type_list_append iZ nS (λH v t F l z r h=>kX r h) m o n f j d M s q g M M
end
structure FnAt(P:KM)(w:NG)(K:Xe)(mg:Wx)(base:NF)(k:Nat)(x:Str)(ps:List Str)(G:Gx)(g:Fn):Prop where
 ex:∃f fd,FnOk P w K mg base Bu k f fd ps (BL G g)/\mg x=some (.ref f)/\PySem.W.keepIn K (.ref f)=true/\Binds K fd ps []
section
def bF{X:Cx}(F:FnAt X.prog X.w X.K X.mg X.base k x ps G g)(a:Aa k' X.A)(h:PVs G X (e :: es) cs)(b:{`q0,k<=k'})(d:{`q1,Gl X x})(n:{`q0,K2 x})(he:{`q1,K0 e es X})(o:{`q1,K1 pos es X}) :
  PV G X (.Call (.Name x p) (e :: es) [] pos) (aX g cs):=by
 obtain⟨f,fd,m,l,j,i⟩:=F.ex;exact tP m (a.mono b) d l j i h n he o
end
section
variable{K:Xe}
def dY(F:AY K x x a f i)(m:mg x=Y (.ref f))(o:lp N b (ai a))(j:b.length=g)(l:N.length=h)(p:∀(kV doc pm:FS)(an:Option FM)(d ct:FS)(e:Wk),e.length=b.length->bindArgs (PySem.W.fnOf x x (aN a) (aF a) (ai a) .none kV doc pm an d ct) ⟨e,[]⟩=pure (b.zip e))(n:∀(d:FS)(A:NB)(outer:List PySem.Env)(s:AC)(H:Hp)(E:XK),Aa k (A.deeper (envOfC x (ai a) s.heap.objs.size f d))->gc G (fV Bu P w K mg base N x (ai a) f d A outer s H E).Bs (aF a) c) :
  FnAt P w K mg base (k+1) x b G (fn g h c) :=
 ⟨f,i,Jw F o j l n,m,F.kp,F.binds p⟩
end
end VS
end
section
namespace L2
open PySem PySem.Spec PyProof.Rows
noncomputable def Bt(x:Str):It:=⟨λi _=>i<x.cps.size,λi H v a=>a=H/\∃c,x.cps[i]?=Y c/\v=.str ⟨#[c]⟩,λi _=>x.cps.size<=i⟩
def iL{P:KM}{w:NG}{K:Xe}{G:Expr}(x:Str)(t:Tok)(a:FM)(g:String)(S:["enumerate", "zip", "dict_itemiterator", "dict_reverseitemiterator", "odict_iterator", "itertools.zip_longest", "itertools.pairwise"].contains g=L)(W:∀A:NB,A.handled=Z->Walks P w A a [a] [a] x.cps.size (λi v=>∃c u,x.cps[i]?=Y c/\v=.str ⟨#[c]⟩ u) (λi h=>h.IsStrIter a g x t i))(HH:∀(A:NB),A.handled=Z->∀(i:Nat)(s:AC)(Q:Wj->AC->Prop)(E:Yj),s.heap.IsStrIter a g x t i->x.cps[i]?=Z->(∀l,Heap.ExtBut a s.heap l->Q Z { s with heap:=l })->GM (Da P w) A (pyNext (.ref a)) Q E s)(Fd:∀(A:NB)(i:Nat)(s:AC)(Q:Yj)(E:Yj),s.heap.IsStrIter a g x t i->Q (.ref a) s->GM (Da P w) A (pyIter (.ref a)) Q E s) :
  Turn P w K G (Bt x) [a] a (λi h=>h.IsStrIter a g x t i) where
 mem:=by simp
 obj:=λi h st b f=>by
  rw[Zx.mp f];obtain⟨o,e,c,d⟩:=st;exact⟨o,e,λv z=>by rw[d]at z;cases z⟩
 keep:=λi h l st k=>let ⟨o,e,r⟩:=st;⟨o,k a (by simp) o e,r⟩
 item:=by
  intro X q hw y p i j s O H E I m st n;subst q hw y;obtain⟨D,f1,f2,f3,C,B⟩:=m a (by simp);refine(W X.A (I.ok.hd p)).item i s _ _ n st λv l tk R F M=>?_;obtain⟨c,u,Bn,rfl⟩:=R;obtain⟨o,e,c1,d⟩:=id F;exact⟨_,rfl,mL e c1 d S ⟨.str ⟨#[c]⟩,H,(I.turned (λb o f e=>M b o (by simpa using f) e) D f1 f3 C B),⟨u,rfl⟩,⟨rfl,c,Bn,rfl⟩,F,λb f=>(m b f).1⟩⟩
 done:=by
  intro X q hw y p i j s O H E I m st n;subst q hw y;obtain⟨D,f1,f2,f3,C,B⟩:=m a (by simp);have N:x.cps.size<=i:=n;exact HH X.A (I.ok.hd p) i s _ _ st (by simp[N]) λl U=>⟨rfl,I.turned (λb o f e=>U b o f e) D f1 f3 C B⟩
 self:=λA i s Q E st h=>Fd A i s Q E st h
def qg{K:Xe}(x:Str)(t:Tok)(a:FM):Turn P w K g (Bt x) [a] a (λi h=>h.IsStrIter a (strIterType x) x t i):=by
 cases f:x.cps.all (· < 128)
 ·have e:strIterType x = "str_iterator" := by simp[strIterType,f]
  rw[e];exact iL x t a "str_iterator" rfl (λA b=>Walks.strWide b a x t) (λA b i s Q E st d q=>wpAny_pyNext_wide_end b st d q) λA i s Q E st q=>wpAny_pyIter_striter_wide st q
 ·have e:strIterType x = "str_ascii_iterator" := by simp[strIterType,f]
  rw[e];exact iL x t a "str_ascii_iterator" rfl (λA b=>Walks.strAscii b a x t) (λA b i s Q E st d q=>wpAny_pyNext_ascii_end b st d q) λA i s Q E st q=>wpAny_pyIter_striter_ascii st q
section
def yS(K:Xe)(f:TE):TI:=λO H R=>f O H λx d=>(∃a,x=.ref a/\(∃e,Aj K d a e)/\R (Iq K a) d)\/(∃a,x=.ref a/\(∃e,AR K d a e)/\R (Ip K a) d)\/∃z,x=.str z/\R (Bt z) d
def tY(A:PE X l tl):PI X tg l (yS X.K tl):=by
 intro d s O H R I h;refine thn (A d s O H _ I h) λv f C=>?_;obtain⟨x,i,g,r1,u⟩:=C;have m:∀b∈[f.heap.objs.size],gR X d i b:=λb B=>by
  rw[Zx.mp B];exact g.CF (Zy _) (g.td.fresh (Zy _))
 rcases u with⟨a,e,⟨n,j⟩,q⟩ | ⟨a,e,⟨n,j⟩,q⟩ | ⟨z,e,q⟩
 ·subst e;cases r1;obtain⟨D,r,p,y⟩:=g.list j;exact wpAny_pyIter_list p.isList ⟨f.heap.objs.size,[f.heap.objs.size],_,_,i,rfl,g.kept λb o e=>zX _ e,n5 a _,⟨_,Zr _ M,rfl,rfl⟩,m,q⟩
 ·subst e;cases r1;obtain⟨D,r,p,y⟩:=g.tuple j;exact wpAny_pyIter_tuple (p) ⟨f.heap.objs.size,[f.heap.objs.size],_,_,i,rfl,g.kept λb o e=>zX _ e,lT a _,⟨_,Zr _ M,rfl,rfl⟩,m,q⟩
 ·refine L2.aw λE w=>?_;subst e;obtain⟨t,rfl⟩:=r1;refine w ?_;exact wpAny_pyIter_strU ⟨f.heap.objs.size,[f.heap.objs.size],_,_,i,rfl,g.kept λb o e=>zX _ e,qg z t _,⟨_,Zr _ M,rfl,rfl⟩,m,q⟩
def tN{s:AC}{d:NF}(g:∀b x,b∉[s.heap.objs.size]->(s.heap.push o).get? b=Y x->d.get? b=Y x)(b:FM)(x:Obj)(e:s.heap.get? b=Y x):d.get? b=Y x :=
 g b x (λf=>YZ _ (by have:=Zt e;rw[Zx.mp f]at this;exact this)) (zX _ e)
def qj{X:Cx}(B:X.calm=J):bV X (.builtin "all") (λm H Q=>∃p,∃bs:List Bool,m=[.ref p]/\Aj X.K H p (bs.map V.bl)/\Q (.bl (bs.all id)) H):=by
 intro o s O H m D Q I t h;refine L2.aw λR w=>?_;obtain⟨p,bs,rfl,y,q⟩:=h;obtain⟨u,rfl,j⟩:=t.one;cases j;obtain⟨f,g,pl,G⟩:=I.list y;refine w ?_;refine call_all_walk (wpAny_pyIter_list pl.isList ⟨s.heap.objs.size,[s.heap.objs.size,p],[s.heap.objs.size],f.toArray.size,_,_,λi=>(bs[i]?).getD J,rfl,Walks.list (A:=X.A.in1) (I.ok.hd B) _ p (Zo (by obtain⟨_,e,_⟩:=pl.isList;exact Zt e)) f.toArray,
  ⟨⟨_,Zr _ M,rfl,rfl⟩,pl.isList.push _⟩,λi v F P S C r=>?_,λN E z=>⟨.bl (bs.all id),H,I.kept (tN z),?_,q⟩⟩)
 ·have d:f[i]?=Y v:=by simpa using C
  cases e:bs[i]? with
  |none =>
   have:=g.none_of (i:=i) (by rw[ZW,e];rfl);rw[this]at d;cases d
  |some n =>
   obtain⟨u,x,j⟩:=g.get (i:=i) (by rw[ZW,e];rfl);rw[x]at d;cases d;cases j;simp only[e,Option.getD_some]at r;exact Yk r
 ·have hlen:f.toArray.size=bs.length:=by have:=g.length;simp at this ⊢;exact Eq.symm this
  rw[hlen,LSm.range_all];rfl
def oh:OpR X (ND .Gt) (λx y H Q=>∃i j,x=.str i/\y=.str j/\Q (.bl (decide (j.cps.toList<i.cps.toList))) H):=by
 intro d s O H x y v u Q I f e h;obtain⟨i,j,rfl,rfl,q⟩:=h;obtain⟨t,rfl⟩:=f;obtain⟨g,rfl⟩:=e;exact PySem.P.gt_str ⟨.bl _,H,I,rfl,q⟩
def og:OpR X (ND .GtE) (λx y H Q=>∃i j,x=.str i/\y=.str j/\Q (.bl (!decide (i.cps.toList<j.cps.toList))) H):=by
 intro d s O H x y v u Q I f e h;obtain⟨i,j,rfl,rfl,q⟩:=h;obtain⟨t,rfl⟩:=f;obtain⟨g,rfl⟩:=e;exact PySem.P.ge_str ⟨.bl _,H,I,rfl,q⟩
end
end L2
end
section
namespace VS
open PySem PySem.Spec PyProof.Rows L2
section
def vp(H:Hp)(s:Tx)(l:dS s):Ci G (L2.Bt (sx s)) (s.map λc=>T.str [c]) [] H:=by
 have sz:(sx s).cps.size=s.length:=rfl;refine⟨λo _ _=>⟨λi t h=>?_,λi h=>(by rw[zT]at h;show (sx s).cps.size<=i;lia)⟩,λa h=>by simp at h⟩;rw[ZW]at h;obtain⟨c,f,rfl⟩:=z9.mp h;refine⟨(by show i<(sx s).cps.size;have:=(Zs.mp f).1;lia),λx n ⟨e1,g,j,e2⟩=>?_⟩;subst e1;have:g=c:=by
  have m:(sx s).cps[i]?=Y c:=by simp[sx,f]
  rw[m]at j;exact(Zc j).symm
 subst this;rw[e2];exact⟨aC.refl _,[],.str [g] ⟨(by show 1<=cj;decide),λd hd=>by rw[Zx.mp hd];exact l.2 g (Z8 f)⟩,λa h=>by simp at h⟩
def eI(r:PV G X a ca)(w:{`q1,X.K=G.K}):PVI G X tg a (iF ca) :=
 PI.weak (tY r) λO H R q=>by
  obtain⟨S,U,m,l,s,e,k⟩:=q;obtain⟨⟨o,x⟩,t,e1⟩:=zZ.mp e;refine⟨S,U,o,x,s,t,λv f F e3 r3 f3=>?_⟩;cases x with
  |lst n =>
   cases e1;obtain⟨j,g,u,rfl,rfl,d,i⟩:=r3.lst_inv;exact .inl ⟨j,rfl,⟨g,Aj.of d⟩,k _ f _ e3 (tm X.K d i) f3.c⟩
  |tup n =>
   cases e1;obtain⟨j,g,u,rfl,rfl,d,i⟩:=r3.AW;exact .inr (.inl ⟨j,rfl,⟨g,AR.of d⟩,k _ f _ e3 (v9 X.K d i) f3.c⟩)
  |str z =>
   cases e1;obtain⟨rfl,ok⟩:=r3.str_inv;exact .inr (.inr ⟨_,rfl,k _ f [] e3 (vp f z ok) λa h=>by simp at h⟩)
  |_=>cases e1
theorem j8:∀{d:List V}{l:Wc}{g:Xl}{f:List Bool},xa G H d l g->eX l=Y f->d=f.map V.bl
 |_,_,_,_,.nil,e=>by cases e;rfl
 |_,_,_,_,.cons (t:=t) r q,e=>by
  cases t with
  |bl s =>
   obtain⟨h,e1,e2⟩:=z9.mp e;subst e2;rw[j8 q e1,r.AK];rfl
  |_=>cases e
def v8:dj G (λd H Q=>∃p,∃bs:List Bool,d=[.ref p]/\Aj G.K H p (bs.map V.bl)/\Q (.bl (bs.all id)) H) gk:=by
 intro S U s H l o u m t Q A e k;unfold gk at e;split at e
 ·rename_i q x;refine L2.aw λr h=>?_;obtain⟨i,e1,e2⟩:=zZ.mp e;cases e2;obtain⟨v,F,rfl,rfl,f⟩:=(A.rp).one;obtain⟨a,n,Gs,rfl,rfl,j,g⟩:=f.lst_inv;refine h ?_;exact⟨a,i,rfl,by rw[← j8 g e1];exact Aj.of j,bg k (.bl _)⟩
 ·cases e
def vI:bootBuiltins ("all" : Str)=Y (.builtin "all"):=by decide +kernel
def rK:bootBuiltins ("tuple" : Str)=Y (.type "tuple"):=by decide +kernel
def w_all{X:Cx}(d:X.mg "all" = Z)(h:PVs G X [e] cs)(f:{`q1,Gl X "all"})(i:{`q1,X.K=G.K})(g:{`q1,X.calm=J})(he:{`q1,K0 e [] X}):PV G X (.Call (.Name "all" p) [e] [] pos) (eN gk cs) :=
 kh (qj g) (i ▸ v8) f d vI h (he:=he)
def qy:dj G (λg H Q=>∃p d,g=[.ref p]/\((Aj G.K H p d/\∀l,H l=Z->Q (.ref l) (upd H l (.tup d)))\/(AR G.K H p d/\Q (.ref p) H))) gx:=by
 intro S U z H l s B m t Q A e k;unfold gx at e;split at e
 ·rename_i u x;split at e
  ·rename_i w;refine L2.aw λy j=>?_;cases e;obtain⟨v,F,rfl,rfl,h⟩:=(A.rp).one;obtain⟨a,d,Gs,rfl,rfl,o,i⟩:=h.lst_inv;refine j ?_;refine⟨a,d,rfl,.inl ⟨Aj.of o,λq n=>?_⟩⟩;have f:aC H (upd H q (.tup d)):=bO n;have r:Rp G (upd H q (.tup d)) (.ref q) (.tup x) Gs.flatten:=.tup av (i.same f);exact k _ _ _ f r (((A.fp.each 0 _ _ M M).sub (Yn _ _)).up r)
  ·cases e
 ·cases e
def si{X:Cx}(d:X.mg "tuple" = Z)(g:PVs G X [e] cs)(f:{`q1,Gl X "tuple"})(h:{`q1,X.K=G.K})(he:{`q1,K0 e [] X}):PV G X (.Call (.Name "tuple" p) [e] [] pos) (eN gx cs) :=
 eK iA (h ▸ qy) f d rK g (he:=he)
def Kn:R2:=λx y H Q=>BV (λi j=>.bl (decide (j<i))) x y H Q\/(∃i j,x=.str i/\y=.str j/\Q (.bl (decide (j.cps.toList<i.cps.toList))) H)
def Ko:R2:=λx y H Q=>BV (λi j=>.bl (decide (j<=i))) x y H Q\/(∃i j,x=.str i/\y=.str j/\Q (.bl (!decide (i.cps.toList<j.cps.toList))) H)
def pD(s t:Tx):decide ((sx s).cps.toList<(sx t).cps.toList)=BN s t:=by rw[gM];exact decide_eq_decide.mpr (by simp[sx])
def yk:dR G Kn Et:=by
 intro S U i H x y u w l j m t Q d e k;obtain⟨h,x⟩:=x;obtain⟨g,y⟩:=y;obtain⟨same,r1,r2,f1,f2,nd⟩:=d;unfold Et oLt at e;split at e
 ·rename_i e1 e2;cases e1;cases e2;cases e;exact .inl ⟨_,_,r1.int_inv,r2.int_inv,bg k (.bl _)⟩
 ·rename_i s _ f e1 e2;cases e1;cases e2;cases e;refine .inr ⟨_,_,r1.str_inv.1,r2.str_inv.1,?_⟩;rw[pD];exact bg k (.bl _)
 ·cases e
def zb:dR G Ko Eu:=by
 intro S U i H x y u w l j m t Q d e k;obtain⟨h,x⟩:=x;obtain⟨g,y⟩:=y;obtain⟨same,r1,r2,f1,f2,nd⟩:=d;unfold Eu oLe at e;split at e
 ·rename_i e1 e2;cases e1;cases e2;cases e;exact .inl ⟨_,_,r1.int_inv,r2.int_inv,bg k (.bl _)⟩
 ·rename_i s _ f e1 e2;cases e1;cases e2;cases e;refine .inr ⟨_,_,r1.str_inv.1,r2.str_inv.1,?_⟩;rw[pD];exact bg k (.bl _)
 ·cases e
def qQ:Tells Et:=λx y m t e=>fP y x m t e
def rR:Tells Eu:=λx y m t e=>kM y x m t e
def kQ(I:dR G r f)(KC:dR G o g)(h:tE G (cL f g ca cb cc) O H Q):lD r o (tE G ca) (tE G cb) (tE G cc) O H Q:=by
 refine L2.aw λP_ P=>?_;obtain⟨S,U,m,t,s,e,k⟩:=h;obtain⟨x,ea,e⟩:=zZ.mp e;obtain⟨y,eb,e⟩:=zZ.mp e;obtain⟨⟨N,z⟩,ez,e⟩:=zZ.mp e;refine P ?_;refine p6 s ea eb λu w H2 F1 A d=>I S U H H2 x y u w F1 A N z _ d ez λv H3 F e1 r1 f1=>?_;cases z with
 |bl q =>
  refine⟨q,r1.AK,?_⟩;cases q with
  |false =>
   cases e;rw[Zl Zp];exact k _ H3 [] (d.same.trans e1) (.bl L) Fp.nil
  |true =>
   rw[Zq M];obtain⟨l,ec,e⟩:=zZ.mp (e);have i:=d.same.trans e1;refine⟨S,U,l.1,l.2,s.same i,ec,λB H4 F4 n E j=>?_⟩;refine KC S U H H4 y l w B A F4 m t Q ⟨i.trans n,(d.r2.same e1).same n,E,d.f2,j.back i,λW R=>?_⟩ e λC H5 F5 e5 D f5=>k C H5 F5 ((i.trans n).trans e5) D f5;have f2:=d.f2;rw[W]at f2;rw[R]at j;refine ZA.mpr ⟨f2.1,j.1,λa ha b hb z=>?_⟩;subst z;exact Ak.pe ((d.r2.same e1).Ay a ha) (j.2 a hb)
 |_=>cases e
def eU(i:PV G X a ca)(g:PV G X b cb)(f:PV G X c cc)(d:{`q3,lastMarks [.LtE,.LtE] [b,c]=L}):PV G X (.Compare a [.LtE,.LtE] [b,c] pos) (cL oLe oLe ca cb cc) :=
 PE.weak (rS jy jy i g f d) λO H Q h=>kQ nr nr h
def jT{X:Cx}{i:Int}(h:∃t,X.mg x=Y (.int i t))(f:{`q1,Gl X x})(g:{`q0,K2 x}):PV G X (.Name x pos) (Q3 i):=by
 obtain⟨t,d⟩:=h;exact t4 (v:=.int i) f d ⟨t,rfl⟩ (λH=>.int i) g
theorem xa.rep(r:xa G H f g d)(h:d.flatten=[]):∀n:Nat,∃Gs,xa G H (List.replicate n f).flatten (List.replicate n g).flatten Gs/\Gs.flatten=[]
 |0=>⟨[],.nil,rfl⟩
 |n+1=>by
  obtain⟨Gs,j,i⟩:=xa.rep r h n;exact⟨d++Gs,by simpa[YY] using r.append j,by rw[Yo,h,i];rfl⟩
def tu:dR G xH jZ:=by
 intro S U A H x y u w D C m t Q i e k;obtain⟨z,x⟩:=x;obtain⟨v,y⟩:=y;obtain⟨same,r1,r2,f1,f2,nd⟩:=i;unfold jZ at e;split at e
 ·rename_i s j e1 e2;cases e1;cases e2;split at e
  ·rename_i d;cases e;obtain⟨a,h,B,rfl,rfl,n,f⟩:=r1.lst_inv;obtain⟨Gs,r,o⟩:=f.rep (f.AU d.1) j.toNat;have b1:=d.2.2.1;have b2:=d.2.2.2;unfold El at b1 b2;refine⟨a,j,h,rfl,r2.int_inv,n,by lia,by lia,by rw[f.len.1];exact d.2.1,λq g=>?_⟩;refine k _ _ (q :: Gs.flatten) (bO g) (.lst av (r.same (bO g))) ?_;rw[o];exact⟨by simp,λb l=>by rw[Zx.mp l];exact same.free g⟩
  ·cases e
 ·cases e
end
end VS
end
section
namespace VS
open PySem PySem.Spec PyProof.Rows L2
section
def vx:PV G X (.Dict [] [] pos) (uf 0 []):=PE.weak pW λO H Q d=>by
 obtain⟨S,U,m,t,s,e,k⟩:=d;cases (e);intro q d;have:Rp G (upd H q (.dK [])) (.ref q) (.dct 0 ((([]).map b8).zip [])) (q :: ([]).flatten):=.dct av M .nil;exact k _ _ [q] (bO d) this ⟨by simp,λb f=>by rw[Zx.mp f];exact d⟩
end
section
def uD(r:Rp G H v (.dct 0 l) F):∃(a:FM)(f:List Key)(d:List V)(g:Wc)(h:Xl),v=.ref a/\F=a :: h.flatten/\H a=Y (.dK (f.zip d))/\f.length=d.length/\l=(f.map b8).zip g/\xa G H d g h:=r.inv
def jM(r:Rp G H v t F)(h:kG t=J):∃k:Key,v=kV k/\t=b8 k:=by
 cases t with
 |int i=>exact⟨.inl i,r.int_inv,rfl⟩
 |str s=>exact⟨.inr (sx s),r.str_inv.1,by simp[b8,sx]⟩
 |_=>cases h
end
end VS
end
section
open PySem PyProof.Rows
namespace TS
variable{κ:SortKind}
noncomputable def K(a:Array IR)(i:Nat):Keyed:=(a[i]?).getD (.none,.none)
end TS
end
section
open PySem PyProof.Rows
namespace TS
def je{a:Array IR}(e:a.Perm (pairsOf d)):(a.map (·.2)).toList.Perm d/\(a.map (·.2)).toList.map (λv=>(v,v))=a.toList:=by
 have b:=Array.perm_iff_toList_perm.mp e;rw[pairsOf_toList]at b;constructor
 ·rw[Array.toList_map];refine(b.map _).trans ?_;rw[show (λx:IR=>x.2)=Prod.snd from rfl,List.map_snd_zip (Zy _)]
 ·rw[Array.toList_map,Z0]
  conv=>rhs;rw[← Xc a.toList]
  apply X3;intro p f;have:=mem_zip_self (b.mem_iff.mp f);exact Prod.ext this.1.symm M
end TS
end
section
namespace L2
open PySem PySem.Spec PyProof.Rows TS
section
theorem kZ:∀{b:List Str}{a:Wk},aA (b.map V.str) a->(∀v∈a,∃x t,v=Value.str x t)/\a.map strOf=b
 |[],[],_=>⟨λv h=>by simp at h,rfl⟩
 |s :: b,u :: a,h=>by
  cases h with
  |cons r q =>
   obtain⟨f,e⟩:=kZ q;obtain⟨t,rfl⟩:=r;refine⟨λv d=>?_,?_⟩
   ·rcases Zz.mp d with rfl | d
    ·exact⟨s,t,rfl⟩
    ·exact f v d
   ·rw[Zd,e];rfl
theorem kO:∀{a:Wk},(∀v∈a,∃x t,v=Value.str x t)->aA ((a.map strOf).map V.str) a
 |[],_=>.nil
 |u :: a,h=>by
  obtain⟨x,t,rfl⟩:=h u (zU ..);exact .cons ⟨t,rfl⟩ (kO λv b=>h v (zV _ b))
end
end L2
end
section
namespace VS
def sZ(h:k<n):Be n (k:Int)=Y k:=by
 unfold Be;rw[Zq (by lia),Zq (by lia),ZU]
def tU{m n:Md}(l:Wc)(y k:Int)(h:(l.length:Int)=k)(a:0<k):∃t,t∈l/\bh (m,.lst l) (n,.int (y%k))=Y (sub m t):=by
 have d:=YQ y (b:=k) (by lia);have b1:=Ye y (b:=k) a;have b2:(y%k).toNat<l.length:=by lia
 have e:y%k=(((y%k).toNat:Nat):Int):=by lia
 refine⟨l[(y%k).toNat],Yh b2,?_⟩;simp[(by
  have:=sZ b2;rw[← e]at this;exact this),Zm b2]
def jK{b:Tg}{m:Md}{l:Wc}(e:d U=Y (m,l))(h:G0 m=J):lW b d a U=forL b a l U:=by
 unfold lW;rw[e];exact Zq h
def aG{b:As}{t:T}(h:b U=Y a)(d:g (trees a)=Y (.fr,t)):aX g b U=Y (.fr,t):=by
 simp only[aX,h,Zw,d]
def ax{i:Nat}{m:Md}{t:T}(h:e U=Y (m,t))(a:m ≠ .bo)(b:i<U.length):bf i e U=Y (.nx (U.set i (Y (.pu t)))):=by
 simp only[bf,h,Zw];cases m with
 |bo=>exact absurd M a
 |_=>simp[b]
def qG:au (m,.lst s) (n,.lst t)=Bl (m.join n) (s++t):=rfl
end VS
end
section
namespace VS
open PySem PySem.Spec PyProof.Rows L2
def xI{a b c:Tx}(h:a<b)(d:¬c<b):a<c:=by
 by_cases e:a<c
 ·exact e
 ·exact absurd (List.lt_of_le_of_lt (XB.mp e) h) d
theorem fq(x:Tx):∀l:List Tx,(iR x l).Perm (x :: l)
 |[]=>Yf _
 |y :: r=>by
  unfold iR;split
  ·exact((fq x r).cons y).trans (List.Perm.swap _ _ _)
  ·exact Yf _
theorem dc:∀l:List Tx,(cx l).Perm l
 |[]=>Yf _
 |x :: l=>(fq x _).trans ((dc l).cons x)
theorem kC(x:Tx):∀{l:List Tx},l.Pairwise (λa b=>¬b<a)->(iR x l).Pairwise (λa b=>¬b<a)
 |[],_=>List.pairwise_singleton _ _
 |y :: r,h=>by
  unfold iR;rw[gM];obtain⟨e,g⟩:=Yg.mp h;split
  ·rename_i c;refine Yg.mpr ⟨λz d=>?_,kC x g⟩;rcases Zz.mp ((fq x r).mem_iff.mp d) with rfl | d
   ·exact λz=>List.lt_irrefl _ (List.lt_trans (by simpa using c) z)
   ·exact e z d
  ·rename_i c;have f:¬y<x:=by simpa using c
   refine Yg.mpr ⟨λz d=>?_,h⟩;rcases Zz.mp d with rfl | d
   ·exact f
   ·exact λw=>e z d (xI w f)
theorem fQ:∀l:List Tx,(cx l).Pairwise (λa b=>¬b<a)
 |[]=>List.Pairwise.nil
 |x :: l=>kC x (fQ l)
def ja{d:List Tx}(h:d.Perm l)(e:d.Pairwise (λa b=>¬b<a)):d=cx l :=
 List.Perm.eq_of_pairwise (λa b _ _ g f=>List.le_antisymm (XB.mp g) (XB.mp f)) e (fQ l) (h.trans (dc l).symm)
def pR(s:Tx):(sx s).cps.toList=s:=rfl
def qT{f:List Tx}{d:List Str}(h:d.Perm (f.map sx))(i:d.Pairwise (λa b=>¬b.cps.toList<a.cps.toList)):d=(cx f).map sx:=by
 have e:d=(d.map λx=>x.cps.toList).map sx:=by
  rw[Z0]
  conv=>lhs;rw[← Xc d]
  apply X3;intro x g;obtain⟨s,_,rfl⟩:=Z3.mp (h.mem_iff.mp g);show sx s=sx (sx s).cps.toList;rw[pR]
 have e2:(d.map λx=>x.cps.toList)=cx f:=by
  refine ja ?_ ?_
  ·have:=h.map λx:Str=>x.cps.toList;rw[Z0]at this;have e3:((λx:Str=>x.cps.toList) ∘ sx)=id:=by
    funext s;exact pR s
   rw[e3,Xc]at this;exact this
  ·rw[Xd];exact i
 rw[e,e2]
def DH(s:Tx):Bool:=decide (s.length<=cj)&&s.all (λc=>decide (c<1114112))
def jo(h:DH s=J):dS s:=by
 unfold DH at h;simp at h;exact h
section
theorem jL{H:Hp}:∀{ss:List Tx},(∀s∈ss,dS s)->xa G H (ss.map λs=>V.str (sx s)) (ss.map T.str) (ss.map λ_=>[])
 |[],_=>.nil
 |s :: ss,h=>.cons (.str s (h s (zU ..))) (jL λx a=>h x (zV _ a))
theorem gG{α β:Type}:∀(l:List α),(l.map λ_=>([]:List β)).flatten=[]
 |[]=>rfl
 |_ :: l=>by simp
theorem ng:∀{d:List V}{l:Wc}{f:Xl}{b:List Tx},xa G H d l f->strs? l=Y b->∀s∈b,dS s
 |_,_,_,_,.nil,e,s,a=>by cases e;simp at a
 |_,_,_,_,.cons (t:=t) r q,e,s,a=>by
  cases t with
  |str x =>
   obtain⟨g,e1,e2⟩:=z9.mp e;subst e2;rcases Zz.mp a with rfl | a
   ·exact r.str_inv.2
   ·exact ng q e1 s a
  |_=>cases e
def qO{G:Gx}{S:Ac}{U:VS.Env}{i H:Hp}{d:List Tx}{Q:VK}(k:∀v g F,aC H g->Rp G g v (.lst ((cx d).map T.str)) F->Fp S U i .fr F->Q v g)(m:aC i H)(j:∀s∈d,dS s) :
  ∀(l:FM)(f:List Str),H l=Z->f.Perm (d.map sx)->f.Pairwise (λa b=>¬b.cps.toList<a.cps.toList)->Q (.ref l) (upd H l (.lst (f.map V.str))):=λq f h o hw=>by
 rw[qT o hw];have r:Rp G (upd H q (.lst (((cx d).map sx).map V.str))) (.ref q) (.lst ((cx d).map T.str)) (q :: ((cx d).map λ_=>[]).flatten):=.lst (by rw[av,Z0];rfl) (jL (G:=G) (H:=upd H q (.lst (((cx d).map sx).map V.str))) λs n=>j s ((dc d).mem_iff.mp n));rw[gG]at r;exact k _ _ _ (bO h) r (Fp.new (m.free h) (by simp) Fp.nil)
def nN:bootBuiltins ("sorted" : Str)=Y (.builtin "sorted"):=by decide +kernel
end
end VS
end
section
namespace VS
open PySem PySem.Builtin.Str PySem.StrLaws
noncomputable def ay(c:Nat):Tx->List Tx
 |[]=>[[]]
 |a :: r=>if a=c then [] :: ay c r else match ay c r with
  |[]=>[[a]]
  |h :: t=>(a :: h) :: t
theorem bZ(c:Nat):∀s:Tx,∃h t,ay c s=h :: t
 |[]=>⟨[],[],rfl⟩
 |a :: r=>by
  unfold ay;split
  ·exact⟨_,_,rfl⟩
  ·obtain⟨h,t,e⟩:=bZ c r;rw[e];exact⟨_,_,rfl⟩
def subAt_one(s:Tx)(c i:Nat):subAt ⟨s.toArray⟩ ⟨#[c]⟩ i=decide (s[i]?=Y c):=by
 show ((s.toArray.extract i (i+1)) == #[c])=_;rw[List.extract_toArray,List.extract_eq_drop_take];have e:i+1-i=1:=by exact Nat.add_sub_cancel_left _ _
 rw[e];by_cases h:i<s.length
 ·rw[Yv h,Zm h];simp[List.take];rfl
 ·rw[YR (by exact Yr h),Yt (by exact Yr h)];simp
theorem gH(s:Tx)(c:Nat):∀(m a:Nat)(found:Array Nat)(free:Nat),free<=a->found.size<=a->a+m<=s.length+1 →
  (forIn (List.range' a m) (found,free) (occBody ⟨s.toArray⟩ ⟨#[c]⟩ s.length (s.length+1))).run.fst.toList=found.toList++(List.range' a m).filter λi=>decide (s[i]?=Y c)
 |0,a,found,free,_,_,_=>by simp
 |m+1,a,found,free,e,d,f=>by
  rw[Wp,Xq];unfold occBody;by_cases b:s[a]?=Y c
  ·rw[Zq ⟨⟨⟨by lia,e⟩,by exact Ww (by
    rcases Wv a s.length with h | h
    ·exact h
    ·rw[Yt h]at b;cases b)⟩,by rw[subAt_one];exact decide_eq_true b⟩]
   have:=gH s c m (a+1) (found.push a) (a+1) (Zy _) (by rw[Array.size_push];exact Z7 d) (by lia);rw[Wn,Zq (by simpa using b)];refine Eq.trans this ?_;simp
  ·rw[Zl (λh=>b (by have:=h.2;rw[subAt_one]at this;exact of_decide_eq_true this))];have:=gH s c m (a+1) found free (by exact XM e) (by exact XM d) (by lia);rw[Wn,Zl (by simpa using b)];exact this
def tD(s:Tx)(c:Nat):occurrences ⟨s.toArray⟩ ⟨#[c]⟩ 0 s.length (s.length+1)=(List.range' 0 (s.length+1)).filter λi=>decide (s[i]?=Y c):=by
 rw[occ_eq];have:=gH s c (s.length+1) 0 #[] 0 (Zy _) (Zy _) (by lia);simpa using this
theorem hV(s:Tx)(c:Nat):∀(m a st:Nat),a+m=s.length->st<=a →
  (((st :: ((List.range' a (m+1)).filter λi=>decide (s[i]?=Y c)).map (·+1)).zip (((List.range' a (m+1)).filter λi=>decide (s[i]?=Y c))++[s.length])).map λ(i,j)=>(s.drop i).take (j-i)) =
   (match ay c (s.drop a) with | []=>[] | h :: t=>(((s.drop st).take (a-st))++h) :: t)
 |0,a,st,o,g=>by
  have b:s[a]?=Z:=Yt (by lia);have n:s.length=a:=by lia
  rw[(YR (by lia))];simp[ay,b,n]
 |m+1,a,st,o,g=>by
  have b:a<s.length:=by lia
  have l:=hV s c m (a+1);rw[Wp,Wn,Yv b];by_cases f:s[a]=c
  ·rw[Zq (by simpa[Zm b] using f)];have d:=l (a+1) (by lia) (Zy _);obtain⟨h,t,e⟩:=bZ c (s.drop (a+1));rw[e]at d;simp only[ay,f,if_true,e,Zd,Wm,ZI,ZL];rw[d];simp
  ·rw[Zl (by simpa[Zm b] using f)];have d:=l st (by lia) (by exact XM g);obtain⟨h,t,e⟩:=bZ c (s.drop (a+1));rw[e]at d;simp only[ay,f,if_false,e];rw[d];have:(s.drop st).take (a+1-st)=(s.drop st).take (a-st)++[s[a]]:=by
    have e2:a+1-st=(a-st)+1:=by lia
    rw[e2,List.take_succ,Wz];have e3:st+(a-st)=a:=by exact Wu g
    rw[e3,Zm b];rfl
   rw[this];simp
def pY(s:Tx)(c:Nat)(d:c<256):Txt.split (sx s) (sx [c])=(ay c s).map sx:=by
 have k1:Builtin.Str.strKind (sx [c])=1:=by unfold Builtin.Str.strKind sx;simp[d]
 have k2:1<=Builtin.Str.strKind (sx s):=by
  unfold Builtin.Str.strKind;split
  ·exact Zy _
  ·split<;>exact Nat.le_add_left _ _
 have key:partsBetween (sx s) (occurrences (sx s) (sx [c]) 0 (sx s).length ((sx s).length+1)) (sx [c]).length=(ay c s).map sx:=by
  have e1:(sx s).length=s.length:=rfl;have e2:(sx [c]).length=1:=rfl;have e3:occurrences (sx s) (sx [c]) 0 s.length (s.length+1)=_:=tD s c;rw[e1,e2,e3];unfold partsBetween;rw[e1];have p:=hV s c s.length 0 0 (by exact Y2 _) (Zy _);obtain⟨h,t,e⟩:=bZ c s;rw[Y6,e]at p;simp only[List.take_zero,Nat.sub_self,YC]at p;rw[e,← p,Z0];apply X3;rintro⟨i,j⟩ _;unfold strSub sx;simp[List.extract_eq_drop_take]
 unfold Txt.split;by_cases b:(decide ((sx s).length<(sx [c]).length)||decide (Builtin.Str.strKind (sx s)<Builtin.Str.strKind (sx [c])))=J
 ·rw[Zq b];have f:s=[]:=by
   have e1:(sx s).length=s.length:=rfl;have e2:(sx [c]).length=1:=rfl;exact List.eq_nil_of_length_eq_zero (by lia)
  subst f;rfl
 ·rw[Zl b];by_cases a:(occurrences (sx s) (sx [c]) 0 (sx s).length ((sx s).length+1)).isEmpty=J
  ·rw[Zq a];rw[List.isEmpty_iff.mp a]at key;rw[← key];simp[partsBetween,strSub,sx,Str.length]
  ·rw[Zl a];exact key
end VS
end
section
namespace VS
open PySem PySem.Spec PyProof.Rows L2
theorem dU(c:Nat):∀s:Tx,(ay c s).length<=s.length+1
 |[]=>by simp[ay]
 |a :: r=>by
  have b:=dU c r;obtain⟨h,t,e⟩:=bZ c r;unfold ay;rw[e]at b ⊢;split<;>simp at b ⊢ <;> omega
theorem d8(c:Nat):∀(s:Tx),∀p∈ay c s,p.length<=s.length/\∀x∈p,x∈s
 |[],p,h=>by simp[ay]at h;subst h;simp
 |a :: r,p,h=>by
  have f:=d8 c r;obtain⟨i,t,e⟩:=bZ c r;unfold ay at h;rw[e]at h f;split at h
  ·rcases Zz.mp h with rfl | h
   ·simp
   ·obtain⟨g,d⟩:=f p h;exact⟨by rw[Zj];lia,λx b=>zV _ (d x b)⟩
  ·rcases Zz.mp h with rfl | h
   ·obtain⟨g,d⟩:=f i (zU ..);refine⟨by rw[Zj,Zj];lia,λx b=>?_⟩;rcases Zz.mp b with rfl | b
    ·exact zU ..
    ·exact zV _ (d x b)
   ·obtain⟨g,d⟩:=f p (zV _ h);exact⟨by rw[Zj];lia,λx b=>zV _ (d x b)⟩
section
def pT:V->List V->Hp->VK->Prop:=λx b H Q=>∃s c,x=.str (sx s)/\b=[.str (sx [c])]/\c<256/\s.length<cj/\∀l,H l=Z->Q (.ref l) (upd H l (.lst (((ay c s).map sx).map V.str)))
theorem lq:∀(l:List (Str×Tok)),aA ((l.map (·.1)).map V.str) (strValues l)
 |[]=>.nil
 |p :: l=>.cons ⟨p.2,rfl⟩ (lq l)
def qS:FP X "str.split" pT:=by
 intro f s O H x B v C Q I n A h;obtain⟨z,c,rfl,rfl,r,D,q⟩:=h;obtain⟨t,rfl⟩:=n;obtain⟨u,rfl,p⟩:=vals1 A;obtain⟨i,rfl⟩:=p;have e1:(sx z).length=z.length:=rfl;have e2:((sx [c]).length==0)=L:=rfl;have E:=Yp;have N:cj=16777216:=rfl;have sp:=pY z c r;have fin:∀(l:List (Str×Tok))(j:Nat),l.map (·.1)=Txt.split (sx z) (sx [c])->EP X f O Q (.ref s.heap.objs.size) { s with heap:=s.heap.push { cls:=.type "list",data:=.seq (strValues l).toArray },toks:=j }:=λl j y=>by
  refine⟨.ref s.heap.objs.size,_,I.laid (λb o e=>zX _ e) (Zy _) (show bG X.prog X.w _ _ _ (.lst (((ay c z).map sx).map V.str)) from⟨?_,strValues l,0,?_,Zr _ M⟩),rfl,q _ (I.td.fresh (Zy _))⟩
  ·have:=dU c z;rw[zT,zT];lia
  ·rw[← sp,← y];exact lq l
 cases d:(decide ((sx z).length<(sx [c]).length)||decide (Builtin.Str.strKind (sx z)<Builtin.Str.strKind (sx [c])))
 ·cases g:(Builtin.Str.occurrences (sx z) (sx [c]) 0 (sx z).length ((sx z).length+1)).isEmpty
  ·have m:Txt.split (sx z) (sx [c])=Builtin.Str.partsBetween (sx z) (Builtin.Str.occurrences (sx z) (sx [c]) 0 (sx z).length ((sx z).length+1)) (sx [c]).length:=by
    unfold Txt.split;rw[d,g];simp
   refine X2 F.slot_str_split (Xm _ _ _) F.entry_str_split (F.args_str_split_2 _ _) (meets_str_split_sep _ _ t i d e2 g (by lia) (by
    rw[← m,sp,zT];have:=dU c z;lia)) ?_
   have:=fin (numbered s.toks (Builtin.Str.partsBetween (sx z) (Builtin.Str.occurrences (sx z) (sx [c]) 0 (sx z).length ((sx z).length+1)) (sx [c]).length)) (s.toks+(Builtin.Str.partsBetween (sx z) (Builtin.Str.occurrences (sx z) (sx [c]) 0 (sx z).length ((sx z).length+1)) (sx [c]).length).length) (by rw[numbered_texts,m]);rw[← strsFrom_eq]at this;exact this
  ·exact X2 F.slot_str_split (Xm _ _ _) F.entry_str_split (F.args_str_split_2 _ _) (meets_str_split_not_found _ _ t i d e2 g) (fin [(sx z,t)] s.toks (by
    unfold Txt.split;rw[d,g];simp))
 ·exact X2 F.slot_str_split (Xm _ _ _) F.entry_str_split (F.args_str_split_2 _ _) (meets_str_split_cannot_occur _ _ t i d) (fin [(sx z,t)] s.toks (by
   unfold Txt.split;rw[d];simp))
def cu:Val->We->Wd
 | (_,.str s),[(_,.str [c])]=>if c<256/\s.length<cj then Y (.fr,.lst ((ay c s).map .str)) else Z
 |_,_=>Z
def pS:wN G pT cu:=by
 intro S U C B H x v F l w D m t Q o r f A e k;unfold cu at e;split at e
 ·rename_i z s y c;split at e
  ·rename_i h;cases e;obtain⟨u,E,rfl,rfl,i⟩:=(A.rp).one;have b:=r.str_inv.2;refine⟨s,c,r.str_inv.1,by rw[i.str_inv.1],h.1,h.2,λq d=>?_⟩;have j:=jL (G:=G) (H:=upd H q (.lst (((ay c s).map sx).map V.str))) (λp g=>⟨Zu (d8 c s p g).1 b.1,λx n=>b.2 x ((d8 c s p g).2 x n)⟩);have r:Rp G (upd H q (.lst (((ay c s).map sx).map V.str))) (.ref q) (.lst ((ay c s).map T.str)) (q :: ((ay c s).map λ_=>[]).flatten):=.lst (by rw[av,Z0];rfl) j;rw[gG]at r;exact k _ _ _ (bO d) r (Fp.new (o.free (A.same.free d)) (by simp) Fp.nil)
  ·cases e
 ·cases e
def fF{b:Pos}(g:PV G X a ca)(h:PVs G X [e] cs)(i:{`q1,X.K=G.K})(j:{`q1,NH a "split" X.env (eval a X.env)=eval a X.env})(o:{`q1,((backTo d (KB [e] X.env)).all (λx=>!x.1)&&(backToKw d (NC [] X.env)).all (λx=>x.1.isSome)
   && decide ([e].length+([]:List Keyword).length+(if ([]:List Keyword).isEmpty then 0 else 1)<30))=J})(m:{`q1,(b.endLine==d.line)=J})(f:{`q1,K0 e [] X})(n:{`q1,(backTo d (KB [] X.env)).any (·.1)=L}) :
  PV G X (.Call (.Attribute a "split" b) [e] [] d) (eM cu ca cs) :=
 uH XS PySem.F.slot_str_split PySem.F.type_str_split qS pS (λH v x F l z r e=>lj r (by
  unfold cu at e;split at e
  ·exact⟨_,rfl⟩
  ·cases e)) g h i j o m f n
end
end VS
end
section
namespace ST
open PySem PySem.Spec PyProof.Rows
noncomputable def CV(w:NG):Bool:=w.params.followText "set-order"
structure Tb(w:NG)(n:Nat)(t:SetTable):Prop where
 fit:t.fits n=true
 led:t.led=!CV w
 pl:n≠0->t.plain=false
noncomputable def FQ(w:NG)(l:List (Int×FS)):Prop:=∀e∈l,∃x a,e=(hashStr w x,Value.str x a)
noncomputable def nm(l:List (Int×FS)):List Str:=l.map λe=>strOf e.2
structure Ts(w:NG)(h:NF)(a:FM)(ss:List Str)(es:Array (Int×FS))(ep:Nat)(t:SetTable):Prop where
 at_:h.get? a=some { cls:=.type "set",dict:=none,data:=.set es ep t }
 tb:Tb w es.size t
 CU:FQ w es.toList
 pm:(nm es.toList).Perm ss
 nd:ss.Nodup
 AV:es.size<scanBound
def FQ.of(h:FQ w l):ElemsOf (strKind prog w) l:=λe he=>by
 obtain⟨x,a,rfl⟩:=h e he;exact⟨⟨x,strKind_is prog w x a,rfl⟩,rfl⟩
def qU(h:FQ w l)(he:e∈l):(strKind prog w).is k e.2=J↔strOf e.2=k:=by
 obtain⟨x,b,rfl⟩:=h e he;constructor
 ·intro a;obtain⟨u,e⟩:=Value.isStrOf_shape (show Value.isStrOf k (.str x b)=J from a);cases e;rfl
 ·intro a;cases a;exact strKind_is prog w _ b
def wW(t:SetTable)(n:Nat):(t.orStandIn n).led=t.led/\(t.plain=L->(t.orStandIn n).plain=L):=by
 unfold SetTable.orStandIn;by_cases a:t.fits n=J
 ·rw[Zq a];exact⟨rfl,λq=>q⟩
 ·rw[Zl a];exact⟨rfl,λ_=>rfl⟩
def sg(t:SetTable)(a:Array (Int×FS))(h:Int)(x:FS):(layNew t a h x).2.1.led=t.led/\(t.plain=L->(layNew t a h x).2.1.plain=L):=by
 unfold layNew;split
 ·exact wW _ _
 ·exact⟨rfl,λ_=>rfl⟩
def oB(t:SetTable)(b:Array (Int×FS))(n:Nat):(relayAll t b n).2.1.led=t.led/\(t.plain=L->(relayAll t b n).2.1.plain=L):=by
 unfold relayAll;cases a:t.relaid (b.map λy=>y.1) n with
 |none=>exact⟨rfl,λ_=>rfl⟩
 |some p =>
  obtain⟨d,ord⟩:=p;have e:d.led=t.led/\d.plain=t.plain:=by
   unfold SetTable.relaid SetTable.laid at a;cases f:SetTable.layClean (SetTable.sizeAbove n-1) (b.map λy=>y.1) with
   |none=>rw[f]at a;cases a
   |some o =>
    rw[f]at a;cases a;exact⟨rfl,rfl⟩
  dsimp only;split
  ·exact⟨e.1,λq=>by rw[e.2];exact q⟩
  ·exact⟨rfl,λ_=>rfl⟩
def rM{s:AC}(T:Ts w s.heap a i u P t)(hr:i.length+1<scanBound)(h:∀l Ah BC CG t' b,Heap.SameBut a s.heap l->Ts w l a Ah BC CG t'->(∀y,y∈Ah↔y∈i\/y=x)->Ah.length<=i.length+1->Q b { s with heap:=l }) :
  GM (Da prog w) A (setAddHashed a (.str x n) (hashStr w x)) Q E s:=by
 have Jl:=T.CU.of (prog:=prog);refine ZG (zY (YX T.at_ M T.tb.fit ?_));dsimp only;rw[byScan_of M T.AV Jl,Zq M];refine zY (zY (wpAny_rule (zY (wpAny_setScan_of (strKind_is prog w x n) T.at_ M T.tb.fit Jl ?_))));cases D:List.findIdx? (λe=>(strKind prog w).is x e.2) u.toList with
 |some j =>
  obtain⟨hj,LK,_⟩:=List.findIdx?_eq_some_iff_getElem.mp D;refine z8 (z8 ?_);exact h s.heap i u P t _ (Heap.SameBut.refl a s.heap) T (λy=>⟨.inl,λz=>z.elim id λe=>e ▸ (T.pm.mem_iff.mp (Z3.mpr ⟨_,Yh hj,(qU T.CU (Yh hj)).mp LK⟩))⟩) (YT _)
 |none =>
  have hx:x∉i:=λv=>by
   obtain⟨e,he,q⟩:=Z3.mp (T.pm.mem_iff.mpr v);have:=List.findIdx?_eq_none_iff.mp D e he;rw[(qU T.CU he).mpr q]at this;cases this
  have F:=layNew_perm t u (hashStr w x) (.str x n);have CB:=layNew_fits t u (hashStr w x) (.str x n);have W:=sg t u (hashStr w x) (.str x n);generalize layNew t u (hashStr w x) (.str x n)=L at F CB W ⊢;obtain⟨d,G,wd,gv⟩:=L;rw[Array.toList_push]at F;have Ib:FQ w d.toList:=λe he=>by
   rcases Zv.mp (F.mem_iff.mp he) with q | q
   ·exact T.CU e q
   ·exact⟨x,n,Zx.mp q⟩
  have F7:(nm d.toList).Perm (i++[x]):=(F.map _).trans (by
   rw[Z6];exact T.pm.append_right _)
  have J4:d.size=i.length+1:=by
   have:=F7.length_eq;simpa[nm] using this
  have X:d.size<scanBound:=by rw[J4];exact hr
  have fin:∀(p:Array (Int×FS))(U:Nat)(t2:SetTable)(l:NF)(b:Bool),p.toList.Perm d.toList->t2.fits p.size=J->t2.led=t.led->t2.plain=false->Heap.SameBut a s.heap l →
    l.get? a=Y { cls:=.type "set",dict:=Z,data:=.set p U t2 }->Q b { s with heap:=l }:=λp U t2 l b N f2 l2 C sb B =>
   h l (i++[x]) p U t2 b sb ⟨B,⟨f2,l2.trans T.tb.led,λ_=>C⟩,λe he=>Ib e (N.mem_iff.mp he),(N.map _).trans F7,(ZA.mpr ⟨T.nd,by simp,λy hy z hz e=>hx (by rw[← Zx.mp hz,← e];exact hy)⟩),by
    rw[← ZV,N.length_eq,ZV];exact X⟩ (λy=>by simp) (by simp)
  have rest:∀(t2:SetTable),t2.fits d.size=J->t2.led=t.led->t2.plain=false->GM (Da prog w) A (do
    storeSet a d t2
    if (!wd&&t2.tooFull)=J then
     let r:=relayAll t2 d (SetTable.grown d.size)
     (match r.2.2 with
      |true=>rule "set.scan.the-table-gave-way"
      |false=>pure ())
     storeSet a r.1 r.2.1
     pure (Y J)
    else pure (Y J)) (λo g=>∃b,o=Y b/\Q b g) E s:=λt2 f2 l2 C=>by
   refine zY (wpAny_storeSet_of T.at_ M ?_ (XJ X));have B:(s.heap.update a (Obj.putSet d t2)).get? a=Y { cls:=.type "set",dict:=Z,data:=.set d (P+1) t2 }:=Za _ T.at_ M;have IC:Heap.SameBut a s.heap (s.heap.update a (Obj.putSet d t2)):=Y0 ..;by_cases hq:(!wd&&t2.tooFull)=J
   ·rw[Zq hq];have rp:=relayAll_perm t2 d (SetTable.grown d.size);have rf:=relayAll_fits t2 d (SetTable.grown d.size);have I:=oB t2 d (SetTable.grown d.size);generalize relayAll t2 d (SetTable.grown d.size)=R at rp rf I ⊢;obtain⟨p,t3,Mz⟩:=R;have st:GM (Da prog w) A (storeSet a p t3 >>= λ_=>pure (Y J)) (λo g=>∃b,o=Y b/\Q b g) E { s with heap:=s.heap.update a (Obj.putSet d t2) } :=
     zY (wpAny_storeSet_of B M (z8 ⟨J,rfl,fin p _ t3 _ _ rp rf (I.1.trans l2) (I.2 C) (IC.trans (Y0 ..)) (Za _ B M)⟩) (XJ (by rw[← ZV,rp.length_eq,ZV];exact X)))
    cases Mz with
    |true=>exact zY (wpAny_rule st)
    |false=>exact zY (z8 st)
   ·rw[Zl hq];exact z8 ⟨J,rfl,fin d _ t2 _ _ (Yf _) f2 l2 C IC B⟩
  have out:∀(m:Sem (Option Bool)),GM (Da prog w) A m (λo g=>∃b,o=Y b/\Q b g) E s->GM (Da prog w) A m (λo g=>GM (Da prog w) A (match o with | some added=>pure added | none=>setAddHashedIn a (.str x n) (hashStr w x) 99999) Q E g) E s:=λm v =>
   ZP v (λo g ⟨b,e,q⟩=>by subst e;exact z8 q) λ_ _ e=>e
  refine out _ ?_;have mid:∀(m:Sem Unit),(∀(H:AC)(S:Unit->AC->Prop),S () H->GM (Da prog w) A m S E H)->∀(f:Unit->Sem (Option Bool)),GM (Da prog w) A (f ()) (λo g=>∃b,o=Y b/\Q b g) E s->GM (Da prog w) A (m>>=f) (λo g=>∃b,o=Y b/\Q b g) E s:=λm v f D=>zY (v s _ D);refine mid _ (λH S q1=>by cases gv<;>first | exact z8 q1 | exact wpAny_rule q1) _ ?_;by_cases O:G.plain=J
  ·rw[Zq O];refine zY (z8 ?_);exact rest { G with plain:=false } (SetTable.fits_plain_off CB) W.1 rfl
  ·rw[Zl O];refine zY (z8 ?_);exact rest G CB W.1 (by simpa using O)
theorem kF{prog:KM}{w:NG}{A:NB}{R:Result->AC->Prop}{I d:FM}{X N:Wl}{G:Array GenState->Array GenState->Prop}{n:Nat}{P:Nat->FS->Prop}{St:Nat->AC->Prop}{p:List Str}(W:WalksS prog w A.in1 I X N G n P St)(a:d∉X)(Q:n=p.length)(U:∀i v,P i v->∃x t,v=.str x t/\p[i]?=Y x)(l:n+1<scanBound) :
  ∀(k i:Nat)(s:AC)(f:List Str)(q:Array (Int×FS))(r:Nat)(t:SetTable),i+k=n->St i s->Ts w s.heap d f q r t->(∀y,y∈f↔y∈p.take i)->f.length<=i →
   (∀g m M H u,Moved (d :: N) G s g->Ts w g.heap d m M H u->(∀y,y∈m↔y∈p)->m.length<=n->R (.ok (.ret .none)) g) →
   codeAny (Da prog w) A (.builtin "set.update.loop" ⟨[.ref d,.ref I],[]⟩) R s
 |0,i,s,f,q,r,t,hk,st,T,z,S,C=>by
  have hi:i=n:=by omega
  subst hi;refine Y9 F.entry_set_update_loop ?_;rw[YD Wq];refine zY (W.done s _ _ st λg j=>z8 (C g f q r t (j.mono λb l=>zV _ l) ⟨j.heap d _ (λh=>a (W.sub _ h)) T.at_,T.tb,T.CU,T.pm,T.nd,T.AV⟩ (λy=>?_) S));rw[z y,Q,List.take_length]
 |k+1,i,s,f,q,r,t,hk,st,T,z,S,C=>by
  refine Y9 F.entry_set_update_loop ?_;rw[YD Wq];refine zY (W.item i s _ _ (by lia) st λv s1 pv J7 j=>?_);obtain⟨x,tk,rfl,hx⟩:=U i v pv;refine zY (ZG ?_);refine ZG (zY (wpAny_pyHash_str (rM (⟨j.heap d _ (λh=>a (W.sub _ h)) T.at_,T.tb,T.CU,T.pm,T.nd,T.AV⟩) (by lia) λh' m M H u b O T2 BP Hy=>?_)));refine z8 ⟨plainId_quiet Wq _,kF W a Q U l k (i+1) _ m M H u (by lia) (W.frame _ s1 _ _ J7 (YT _) λc B o e=>?_) T2 (λy=>?_) (by lia) λs2 J8 CT FD t2 Lg T3 LP LV=>?_⟩
  ·rw[O.2 c λD=>a (D ▸ B)];exact e
  ·rw[BP y,z y,List.take_add_one,hx,Zv];simp
  ·refine C s2 J8 CT FD t2 (Moved.trans W.gtrans (Moved.then_heap (j.mono λb l=>zV _ l) (YT _) λc o B e=>?_) Lg) T3 LP LV;rw[O.2 c λD=>B (by rw[D];exact zU)];exact e
abbrev bare(w:NG):Obj:={ cls:=.type "set",dict:=Z,data:=.set #[] 0 (.fresh 0 0 (!CV w)) }
def sV{s:AC}(v:FS){Q:Yj}(h:Q (.ref s.heap.objs.size) { s with heap:=s.heap.push (bare w) }) :
  codeAny (Da prog w) A (.call (.builtin "set.__new__") ⟨[.type "set",v],[]⟩) (wants Q E) s:=by
 refine codeAny_of_tree (zY (wpAny_of_eq (F.newCall_set_1 v) (z8 ⟨plainId_quiet F.plain_set_new _,Y9 F.entry_set_new ?_⟩)));rw[YD F.plain_set_new];have own:=sub_set_self;cases s;unfold Builtin.«set.__new__» Builtin.Frozenset.newClass
 wp_walk
 refine Xo (z8 ?_);exact zY (wpAny_alloc (z8 (z8 h)))
theorem Ts.bare(h:NF):Ts w (h.push (ST.bare w)) h.objs.size [] #[] 0 (.fresh 0 0 (!CV w)) :=
 ⟨Zr _ M,⟨rfl,rfl,λe=>absurd M e⟩,λe he=>by simp at he,Yf _,XA,by decide⟩
def qE{A:NB}{s:AC}{n:List Str}(W:A.handled=Z)(U:s.heap.IsList l j)(P:∀(i:Nat)(v:FS),j[i]?=Y v->∃x t,v=.str x t/\n[i]?=Y x)(O:j.size=n.length)(hb:n.length+1<scanBound)(h:∀(m:NF)(H:Nat) ss es ep t,Ts w m s.heap.objs.size ss es ep t->(∀y,y∈ss↔y∈n)->(∀b o,s.heap.get? b=Y o->m.get? b=Y o)->Q (.ref s.heap.objs.size) { s with heap:=m,toks:=H }) :
  GM (Da prog w) A (call (.type "set") [.ref l]) Q E s:=by
 have f:=F.called_set;obtain⟨c,tl,mro⟩:=f.mro;have made:=f.made;have sub:=f.sub;have tc:=F.typeCall_set_1 (.ref l);refine Xz (codeAny_of_tree (z8 (⟨Code.quiet_builtin _ (by decide +kernel),Y9 F.entry_type_call ?_⟩)));rw[Around.under_plain (weight_type_call_type "set" [.ref l] []) M]
 repeat any_goals first | assumption | wp_step
 refine YN (sV (.ref l) (E:=E) (Q:=λv B=>v=.ref s.heap.objs.size/\B={ s with heap:=s.heap.push (bare w) }) ⟨rfl,rfl⟩) λr B a=>?_
 match r,a with
 |.error e,a=>exact a
 |.ok (.ret v),⟨e1,e2⟩ =>
  subst e1 e2;have g:=Ts.bare (w:=w) s.heap;have il:=f.init.lookup;have ib:=f.init.bind (.ref s.heap.objs.size)
  repeat any_goals first | assumption | wp_step
  refine YN (YE (R:=wants (λv z=>v=.none/\Q (.ref s.heap.objs.size) z) E) f.init.plain F.entry_set_init (check_set_init_1 (⟨_,g.at_,rfl⟩) ?_)) λr2 z d=>?_
  ·obtain⟨ol,C,HK,nl,Mh⟩:=U;cases ol;subst HK Mh;have D:=Zt C;have lst:(s.heap.push (bare w)).IsList l j:=⟨_,(zX (bare w) C),rfl,nl,rfl⟩
   have n1:=F.sub_list_set;have n2:=F.sub_list_frozenset;unfold Builtin.«set.__init__» noKeywords Builtin.Frozenset.updateFrom;generalize X:pyIter=Nr
   wp_walk
   subst X;refine wpAny_pyIter_list lst (zY (wpAny_runValue ?_));have out:l≠(s.heap.push (bare w)).objs.size:=by rw[Z4];exact Zo (Y3 D)
   refine kF ((Walks.list (by simp[W]) _ l out j).toS) (by
    rw[Z4];simp only[Zz,XW,or_false,not_or];exact⟨Zo (YH _),YK D⟩) O P (by lia) j.size 0 _ [] #[] 0 _ (by exact Y2 _) ⟨⟨_,Zr _ M,rfl,rfl⟩,lst.push _⟩ (⟨zX _ g.at_,g.tb,g.CU,g.pm,g.nd,g.AV⟩) (by simp) (Zy _) λN Ah BC CG I p T S _=>?_
   obtain⟨m,g',d',JU,II⟩:=N;have e1:=p.gens;have e2:=p.drawn;have e3:=p.os;subst e1 e2 e3;refine z8 (z8 ⟨rfl,h m JU Ah BC CG I T S λb o e=>p.heap b o (λu=>?_) (zX _ (zX _ e))⟩);have G:=Zt e;rw[Z4]at u;simp only[Zz,XW,or_false]at u;rcases u with q | q
   ·exact Zo G q
   ·exact Zo (Y3 G) q
  ·match r2,d with
   |.error e,d=>exact d
   |.ok (.ret v),⟨e1,e2⟩ =>
    subst e1
    repeat any_goals first | assumption | wp_step
   |.ok .next,d=>exact d.elim
   |.ok .brk,d=>exact d.elim
   |.ok .cont,d=>exact d.elim
 |.ok .next,a=>exact a.elim
 |.ok .brk,a=>exact a.elim
 |.ok .cont,a=>exact a.elim
end ST
end
section
namespace ST
open PySem PySem.Spec PyProof.Rows
def gw:Slot "set_iterator" "__next__" "set_iterator.__next__" := .of (owner := "set_iterator") (n := "__next__") (by rw[typeLookup_type,builtinLookup_eq_fast];kernel_rfl) (by decide +kernel) (by decide +kernel)
 (by decide +kernel) (by first | exact .inl (by decide +kernel) | exact .inr (by decide +kernel)) (by rw[isSubtype_type];kernel_rfl)
def nL:Slot "set_iterator" "__iter__" "set_iterator.__iter__" := .of (owner := "set_iterator") (n := "__iter__") (by rw[typeLookup_type,builtinLookup_eq_fast];kernel_rfl) (by decide +kernel) (by decide +kernel)
 (by decide +kernel) (by first | exact .inl (by decide +kernel) | exact .inr (by decide +kernel)) (by rw[isSubtype_type];kernel_rfl)
def sO:entryFor table "set_iterator.__next__" = Y Builtin.«set_iterator.__next__» := entryFor_of_fast (by kernel_rfl)
def sW:entryFor table "set_iterator.__iter__" = Y Builtin.«dict_keyiterator.__iter__» := entryFor_alias (id' := "dict_keyiterator.__iter__") (by kernel_rfl) M (by decide +kernel) (by kernel_rfl)
def rV:entryFor table "set.__iter__" = Y Builtin.«frozenset.__iter__» := entryFor_alias (id' := "frozenset.__iter__") (by kernel_rfl) M (by decide +kernel) (by kernel_rfl)
def sR(v:FS):argsOk "set_iterator.__next__" ⟨[v],[]⟩:=by kernel_rfl
def rZ(v:FS):argsOk "set_iterator.__iter__" ⟨[v],[]⟩:=by kernel_rfl
def wp_choose(b:n≠0)(h:∀i d,i<n->Q i { s with drawn:=d }):GM (Da prog w) A (choose a n) Q E s:=λΓ p _=>by
 exact⟨b,h _ _ (Nat.mod_lt _ (Nat.pos_of_ne_zero b))⟩
theorem jV{α:Type}:∀(l:List α){i:Nat}(h:i<l.length),(l[i] :: l.eraseIdx i).Perm l
 |a :: l,0,_=>Yf _
 |a :: l,i+1,h=>((List.Perm.swap _ _ _).trans ((jV l (by simpa using h)).cons a))
def ur{α:Type}:∀(n:Nat)(a:List α)(s:AC)(Q:List α->AC->Prop),n=a.length->(∀b d,b.Perm a->Q b { s with drawn:=d })->GM (Da prog w) A (drawOrder n a) Q E s:=by
 intro n
 induction n with
 |zero =>
  intro a s Q e h;cases a with
  |nil=>exact z8 (h [] s.drawn (Yf _))
  |cons x a=>exact absurd e (by simp)
 |succ n f =>
  intro a s Q e h;cases a with
  |nil=>exact absurd e (by simp)
  |cons x a =>
   refine zY (wp_choose (by simp) λi d hi=>?_);rw[Zm hi];refine zY (f _ _ _ (by rw[List.length_eraseIdx,Zq hi];omega) λb j g=>z8 (h _ j ?_));exact(List.Perm.cons _ g).trans (jV _ hi)
noncomputable abbrev C5(first:FS)(i:Nat)(a:FM)(n b:Nat):Obj:={ cls:=.type "set_iterator",data:=.fields #[first,.int i 0,.ref a,.int n 0,.int b 0] }
def qq{t:SetTable}(h:t.fits n=J):¬((t.place.size != n||decide (t.fill > t.mask))=J):=by
 unfold SetTable.fits at h;simp at h;simp[h.1];exact h.2
def uI{A:NB}{s:AC}(f:A.handled=Z)(h:∀(a:NF)(x:FM),(∀b o,s.heap.get? b=Y o->a.get? b=Y o)->(∃o,a.get? x=Y o/\o.cls=.type "StopIteration")->d (.ref x) { s with heap:=a }) :
  GM (Da prog w) A (newExc (.type "StopIteration") [] >>= λe=>raiseNew e) Q d s:=by
 refine zY (zY (YW (zY (wpAny_of_eq (by first | rfl | (rfl)) (YW ?_ (by size_fits)))) (by size_fits)));refine zY (wpAny_handled ?_);rw[f];exact zY (z8 (wpAny_throw (h _ _ (λb o e=>zX _ (zX _ e)) ⟨_,Zr _ M,rfl⟩)))
def mI{A:NB}{s:AC}(i:s.heap.get? I=Y { cls:=.type "set_iterator",data:=.fields j })(h:GM (Da prog w) A.in1 (Builtin.«set_iterator.__next__» ⟨[.ref I],[]⟩) (λf a=>∃v,f=.done (.ret v)/\Q (Y v) a) (λe a=>∃x,e=.ref x/\(∃o,a.heap.get? x=Y o/\o.cls=.type "StopIteration")/\Q Z a) s) :
  GM (Da prog w) A (pyNext (.ref I)) Q E s:=by
 have ty:s.TypeIs (.ref I) "set_iterator" := ⟨_,i,rfl⟩
 refine zY (wpAny_attempt (wpAny_callSpecial?_slot ty gw (XC gw ty sO (ZP h (λf a d=>?_) λe a he=>?_) (sR _))))
 ·obtain⟨v,rfl,q⟩:=d;exact⟨v,rfl,z8 q⟩
 ·obtain⟨x,rfl,⟨o,b,g⟩,q⟩:=he;exact zY (wpAny_isInstance ⟨o,b,g⟩ isSubtype_stop (z8 q))
noncomputable abbrev ka(a:Array (Int×FS))(b:Nat)(t:SetTable):Obj:={ cls:=.type "set",dict:=Z,data:=.set a b t }
def h8{A:NB}{s:AC}{q:Wi}(B:A.handled=Z)(y:s.heap.get? a=Y (ka f m t))(r:t.fits f.size=J)(l:s.heap.get? I=Y (C5 (.ref p) i a f.size m))(z:s.heap.get? p=Y n)(C:n.data=.seq (q.map λ(k:Nat)=>rawInt k).toArray v)(G:∀j x,q[i]?=Y j->f[j]?=Y x->∀d,Heap.SameBut I s.heap d->d.get? I=Y (C5 (.ref p) (i+1) a f.size m)->Q (Y x.2) { s with heap:=d })(F:∀j,q[i]?=Y j->j<f.size)(D:q[i]?=Z->∀d,(∀b o,b≠I->s.heap.get? b=Y o->d.get? b=Y o)->Q Z { s with heap:=d }) :
  GM (Da prog w) A (pyNext (.ref I)) Q E s:=by
 refine mI l ?_
 wp_walk
 rw[Zl (qq r)];refine z8 (z8 ?_);rw[Zl (by simp)];refine zY (wpAny_seqItems z C ?_);dsimp only;rw[ZU];cases g:q[i]? with
 |some j =>
  have e1:(q.map λ(k:Nat)=>rawInt k).toArray[i]?=Y (rawInt j):=by simp[g]
  rw[e1];refine zY (zY (YX y M r ?_));dsimp only;rw[ZU,Zl (by simp)];rw[ZU];cases h:f[j]? with
  |none=>rw[Yu (F j g)]at h;cases h
  |some x =>
   refine z8 (zY (Yb l M (by show 1<5;decide) (z8 ⟨_,rfl,G j x g h _ (Y0 ..) ?_⟩)));exact Za _ l M
 |none =>
  have e1:(q.map λ(k:Nat)=>rawInt k).toArray[i]?=Z:=by simp at g ⊢;exact g
  rw[e1];refine zY (Yb l M (by show 0<5;decide) (zY (Yb (Za (Obj.mapFields (·.setIfInBounds 0 (rawInt 0))) l M) M (by show 2<5;decide) (uI B λd x kp h=>⟨x,rfl,h,D g d λb o u e=>kp b o ?_⟩))));exact(Ze _ _ (Yq u)).trans ((Ze _ _ (Yq u)).trans e)
def dy{prog:KM}{w:NG}{A:NB}{s:AC}{I a:FM}{i h m:Nat}{g:Array (Int×FS)}{t:SetTable}{r:Option (FS×Nat)}{Q:Wj->AC->Prop}(u:A.handled=Z)(z:s.heap.get? a=Y (ka g h t))(v:t.fits g.size=J)(f:s.heap.get? I=Y (C5 (.int m 0) i a g.size h))(q:∀(Q:Option (FS×Nat)->AC->Prop)(E:Yj),Q r s->GM (Da prog w) A.in1 (setNext a m i h) Q E s)(l:∀x nx,r=Y (x,nx)->∀d,Heap.SameBut I s.heap d->d.get? I=Y (C5 (.int nx 0) (i+1) a g.size h)->Q (Y x) { s with heap:=d })(j:r=Z->∀d,(∀b o,b≠I->s.heap.get? b=Y o->d.get? b=Y o)->Q Z { s with heap:=d }) :
  GM (Da prog w) A (pyNext (.ref I)) Q E s:=by
 refine mI f ?_
 wp_walk
 rw[Zl (qq v)];refine z8 (z8 ?_);rw[Zl (by simp)];refine zY (q _ _ ?_)
 match r,l,j with
 |some (x,nx),l,_ =>
  have n:=Za (Obj.mapFields (·.setIfInBounds 0 (rawInt nx))) f M;exact zY (Yb f M (by show 0<5;decide) (zY (Yb n M (by show 1<5;decide) (z8 ⟨x,rfl,l x nx M _ (Heap.SameBut.trans (Y0 ..) (Y0 ..)) (Za (Obj.mapFields (·.setIfInBounds 1 (rawInt ((i:Int)+1)))) n M)⟩))))
 |none,_,j =>
  refine zY (Yb f M (by show 2<5;decide) (uI u λd x kp p=>⟨x,rfl,p,j M d λb o y e=>kp b o ?_⟩));exact(Ze _ _ (Yq y)).trans e
theorem m9{α:Type}(f:Nat->Nat):∀(n k:Nat)(l:List α)(out:Array α),l.length=n->(pickOrder.go f n k l out).toList.Perm (out.toList++l)
 |0,k,l,out,h=>by
  cases l with
  |nil=>unfold pickOrder.go;simp
  |cons a l=>simp at h
 |n+1,k,l,out,h=>by
  have b:f k%l.length<l.length:=Nat.mod_lt _ (by lia);unfold pickOrder.go;rw[Zm b];refine(m9 f n (k+1) _ _ (by rw[List.length_eraseIdx,Zq b];lia)).trans ?_;rw[Array.toList_push,ZY];exact List.Perm.append_left _ (jV l b)
def fW{α:Type}(f:Nat->Nat)(a:Array α):(pickOrder f a).toList.Perm a.toList:=by
 unfold pickOrder;simpa using m9 f a.size 0 a.toList #[] M
def nK{s:AC}(m:CV w=J)(j:s.heap.get? a=Y (ka b d t))(l:t.fits b.size=J)(Q:Option (FS×Nat)->AC->Prop)(E:Yj)(h:Q (((pickOrder (w.params.setOrder a d) b)[i]?).map λe=>(e.2,f)) s):GM (Da prog w) A (setNext a f i d) Q E s:=by
 have g:∀(Q:Bool->AC->Prop),Q J s->GM (Da prog w) A setsByText Q E s:=λQ q=>zY (Xo (z8 (by show Q (CV w) s;rw[m];exact q)));refine zY (YX j M l (zY (g _ ?_)));rw[Zq M,Zl (by simp)];refine zY (zY (YX j M l (zY (g _ ?_))));rw[Zq M];exact zY (Xo (z8 (z8 h)))
def pM{s:AC}(o:CV w=L)(l:s.heap.get? a=Y (ka d f t))(n:t.fits d.size=J)(m:t.led=J)(r:d.size<=1)(Q:Option (FS×Nat)->AC->Prop)(E:Yj)(h:Q (match d[SetTable.below t.place e]?,t.place[SetTable.below t.place e]? with | some (_,x),some j=>some (x,j+1) | _,_=>none) s):GM (Da prog w) A (setNext a e i f) Q E s:=by
 have g:∀(Q:Bool->AC->Prop),Q L s->GM (Da prog w) A setsByText Q E s:=λQ q=>zY (Xo (z8 (by show Q (CV w) s;rw[o];exact q)));refine zY (YX l M n (zY (g _ ?_)));rw[Zl Zp];have p:∀b:Bool,¬((b&&decide (d.size > 1))=J):=λb=>by cases b<;>simp<;>omega
 refine(show GM _ _ (if (!t.plain&&decide (d.size > 1))=J then _ else _) _ _ _ from ?_);rw[Zl (p _)];refine zY (show GM _ _ (if (!t.led && !d.isEmpty)=J then _ else _) _ _ _ from ?_);rw[Zl (by rw[m];simp)];exact z8 (z8 h)
end ST
end
section
namespace ST
open PySem PySem.Spec PyProof.Rows
def qf{α:Type}{a:Array α}(h:a.size=1):∃x,a=#[x]:=by
 obtain⟨l⟩:=a
 match l,h with
 |[x],_=>exact⟨x,rfl⟩
noncomputable abbrev Gs:Array GenState->Array GenState->Prop:=λa b=>b=a
def eJ{prog:KM}{w:NG}{A:NB}{I a:FM}{u:Wl}{j:Array (Int×FS)}{m:Nat}{t:SetTable}{n:Wk}(first:Nat->FS)(d:NF->Prop)(z:I∈u)(C:a∈u)(D:a≠I)(y:∀h f:NF,d h->(∀b∈u,b≠I->∀o,h.get? b=Y o->f.get? b=Y o)->d f)(step:∀(i:Nat)(s:AC)(Q:Wj->AC->Prop)(E:Yj),i<j.size->s.heap.get? a=Y (ka j m t)->s.heap.get? I=Y (C5 (first i) i a j.size m)->d s.heap →
   (∀v f,n[i]?=Y v->Heap.SameBut I s.heap f->f.get? I=Y (C5 (first (i+1)) (i+1) a j.size m)->Q (Y v) { s with heap:=f })->GM (Da prog w) A (pyNext (.ref I)) Q E s)(stop:∀(s:AC)(Q:Wj->AC->Prop)(E:Yj),s.heap.get? a=Y (ka j m t)->s.heap.get? I=Y (C5 (first j.size) j.size a j.size m)->d s.heap →
   (∀f,(∀b o,b≠I->s.heap.get? b=Y o->f.get? b=Y o)->Q Z { s with heap:=f })->GM (Da prog w) A (pyNext (.ref I)) Q E s) :
  WalksS prog w A I u [I] Gs j.size (λi v=>n[i]?=Y v) (λi s=>s.heap.get? a=Y (ka j m t)/\s.heap.get? I=Y (C5 (first i) i a j.size m)/\d s.heap) where
 sub:=λb l=>by rw[Zx.mp l];exact z
 grefl:=λ_=>rfl
 gtrans:=λ_ _ _ p q=>q.trans p
 frame:=λi s f F st _ kp=>⟨kp a C _ st.1,kp I z _ st.2.1,y _ _ st.2.2 λb l _ o e=>kp b l o e⟩
 item:=λi s Q E hi st r=>step i s Q E hi st.1 st.2.1 st.2.2 λv f B x g=>r v _ B ⟨(x.2 a D).trans st.1,g,y _ _ st.2.2 λb _ l o e=>(x.2 b l).trans e⟩ ⟨λb o l e=>(x.2 b λq=>l (by rw[q];exact Zx.mpr M)).trans e,rfl,rfl,rfl,Zy _⟩
 done:=λs Q E st r=>stop s Q E st.1 st.2.1 st.2.2 λf kp=>r _ ⟨λb o l e=>kp b o (λq=>l (by rw[q];exact Zx.mpr M)) e,rfl,rfl,rfl,Zy _⟩
 self:=λi s Q E st r=>wpAny_pyIter_slot ⟨_,st.2.1,rfl⟩ nL (XC nL ⟨_,st.2.1,rfl⟩ sW (z8 ⟨_,rfl, "set_iterator",_,⟨_,st.2.1,rfl⟩,gw.lookup,r⟩) (rZ _))
def Ready(b:KM)(w:NG)(d:Nat)(a:FM)(e:Array (Int×FS))(I:FM)(s:AC):Prop :=
 ∃(ord:Wk)(p:FM),ord.Perm (e.toList.map (·.2))/\d<=I/\d<=p/\∃St:Nat->AC->Prop,(∀A:NB,A.handled=Z->WalksS b w A I [I,a,p] [I] Gs e.size (λi v=>ord[i]?=Y v) St)/\St 0 s
def qr{s:AC}(T:Ts w s.heap a ss l O t)(h:∀(I:FM)(p:NF) d,(∀b o,s.heap.get? b=Y o->p.get? b=Y o)->Ready prog w s.heap.objs.size a l I { s with heap:=p,drawn:=d }->I<p.objs.size->Q (.ref I) { s with heap:=p,drawn:=d }) :
  GM (Da prog w) A (pyIter (.ref a)) Q E s:=by
 have G:=T.at_;have Cd:=Zt G;have ty:s.TypeIs (.ref a) "set" := ⟨_,G,rfl⟩
 refine wpAny_pyIter_slot ty F.slot_set_iter (XC F.slot_set_iter ty rV ?_ (F.args_set_iter_1 _));refine zY (z8 ?_);refine zY (zY (zY (YX G M T.tb.fit (z8 (z8 ?_)))));have z:∀(Q:Bool->AC->Prop)(E:Yj),Q (CV w) s->GM (Da prog w) A.in1 setsByText Q E s:=λQ E q=>zY (Xo (z8 q));refine zY (zY (YX G M T.tb.fit (zY (z _ _ (z8 ?_)))));refine(show GM _ _ (if (!CV w&&(!t.plain&&decide (l.size > 1)))=J then _ else _) _ _ _ from ?_);have fin:∀(first:FS)(m:NF)(d:_),(∀b o,s.heap.get? b=Y o->m.get? b=Y o)->Ready prog w s.heap.objs.size a l m.objs.size { s with heap:=m.push (C5 first 0 a l.size O),drawn:=d } →
   GM (Da prog w) A.in1 (do
    let e ← setEpoch a
    let v ← newFields "set_iterator" [first,rawInt 0,Value.ref a,rawInt l.size,rawInt e]
    ret v) (λf s'=>∃v,f=.done (.ret v)/\∃T' r,s'.TypeIs v T'/\typeLookup (Value.type T') (Str.ofString "__next__")=pure (Y r)/\Q v s') E { s with heap:=m,drawn:=d }:=λfirst m d kp rd=>by
  refine zY (wpAny_setEpoch_of (kp _ _ G) M T.tb.fit (zY (YW (z8 ⟨_,rfl, "set_iterator",_,⟨_,Zr _ M,rfl⟩,gw.lookup,?_⟩))));exact h m.objs.size _ d (λb o e=>zX _ (kp b o e)) rd (by rw[Z4];exact YH _)
 have Bf:=Zo Cd;cases S:CV w with
 |true =>
  rw[Zl (by simp)];refine zY (z8 (fin (rawInt 0) s.heap s.drawn (λb o e=>e) ⟨(pickOrder (w.params.setOrder a O) l).toList.map (·.2),s.heap.objs.size,(fW _ _).map _,Zy _,Zy _,_,λP C =>
   eJ (t:=t) (λ_=>rawInt 0) (λ_=>True) (by simp) (by simp) Bf (λ_ _ _ _=>trivial) ?step ?stop,⟨zX _ G,Zr _ M,trivial⟩⟩))
  case step =>
   intro i n H N hi m h2 _ q;have hl:(pickOrder (w.params.setOrder a O) l).size=l.size:=by rw[← ZV,(fW _ l).length_eq,ZV]
   refine dy C m T.tb.fit h2 (λQ E B=>nK S m T.tb.fit Q E B) (λx nx e p z g=>?_) λe=>?_
   ·rw[Yu (by lia)]at e;cases e;exact q _ p (by rw[ZW,Ys,Yu (by lia)];rfl) z g
   ·rw[Yu (by lia)]at e;cases e
  case stop =>
   intro n H N m h2 _ q;refine dy C m T.tb.fit h2 (λQ E B=>nK S m T.tb.fit Q E B) (λx nx e p z g=>?_) λe=>q;rw[Y8 (by exact Nat.le_of_eq (by rw[← ZV,(fW _ l).length_eq,ZV]))]at e;cases e
 |false =>
  by_cases m:l.size > 1
  ·rw[Zq (by rw[T.tb.pl (by exact Nat.ne_zero_of_lt m)];simp[m])];refine zY (ur _ _ _ _ (by simp) λq d B=>zY (YW (fin _ _ d (λb o e=>zX _ e) ?_) ?_))
   ·have IZ:q.length=l.size:=by rw[B.length_eq,Ya]
    have IX:∀j∈q,j<l.size:=λj hj=>X0.mp (B.mem_iff.mp hj);refine⟨q.map λj=>((l[j]?).map (·.2)).getD .none,s.heap.objs.size,?_,by rw[Z4];exact YT _,Zy _,_,λP C =>
     eJ (t:=t) (λ_=>.ref s.heap.objs.size) (λh=>h.get? s.heap.objs.size=Y { cls:=.type "tuple",data:=.seq (q.map λ(k:Nat)=>rawInt k).toArray }) (by simp) (by simp)
      (by rw[Z4];exact Zo (Y3 Cd)) (λx y e k=>k _ (by simp) (by rw[Z4];exact Zo (YH _)) _ e) ?step ?stop,⟨zX _ (zX _ G),Zr _ M,zX _ (Zr _ M)⟩⟩
    case step =>
     intro i n H N hi u D g3 X;refine h8 C u T.tb.fit D g3 M (λj x e1 e2 p z g=>X _ p ?_ z g) (λj e=>IX j (Z8 e)) λe=>?_
     ·rw[ZW,e1];simp[e2]
     ·rw[Zm (by lia)]at e;cases e
    case stop =>
     intro n H N u D g3 X;refine h8 C u T.tb.fit D g3 M (λj x e1 e2 p z g=>?_) (λj e=>IX j (Z8 e)) λe=>X;rw[Yt (by exact Nat.le_of_eq IZ)]at e1;cases e1
    refine(B.map _).trans (List.Perm.of_eq ?_);apply List.ext_getElem?;intro i;rw[ZW,ZW];by_cases hi:i<l.size
    ·rw[List.getElem?_range hi,Ys,Yu hi];simp[hi]
    ·rw[Yt (by rw[Ya];exact Yr hi),Ys,Y8 (by exact Yr hi)];rfl
   ·show _<=FB;have IZ:q.length=l.size:=by rw[B.length_eq,Ya]
    have:=XJ T.AV;simp;lia
  ·rw[Zl (by simp[m])];have LI:t.place.size=l.size:=by
    have:=T.tb.fit;unfold SetTable.fits at this;simp at this;exact this.1
   have HL:∀(i R:Nat)(n:AC),n.heap.get? a=Y (ka l O t)->∀(P:NB)(Q:Option (FS×Nat)->AC->Prop)(E:Yj),Q (match l[SetTable.below t.place R]?,t.place[SetTable.below t.place R]? with | some (_,x),some j=>some (x,j+1) | _,_=>none) n →
     GM (Da prog w) P (setNext a R i O) Q E n:=λi R n g P Q E B=>pM S g T.tb.fit (by rw[T.tb.led,S];rfl) (by exact Yr m) Q E B
   by_cases h0:l.size=0
   ·refine zY (z8 (fin (rawInt 0) s.heap s.drawn (λb o e=>e) ⟨[],s.heap.objs.size,by rw[(Array.eq_empty_of_size_eq_zero h0)];exact Yf _,Zy _,Zy _,_,λP C =>
     eJ (t:=t) (λ_=>rawInt 0) (λ_=>True) (by simp) (by simp) Bf (λ_ _ _ _=>trivial) ?step ?stop,⟨zX _ G,Zr _ M,trivial⟩⟩))
    case step=>exact λi n H N hi=>absurd hi (by lia)
    case stop =>
     intro n H N u D _ q;refine dy C u T.tb.fit D (HL l.size 0 n u _) (λx nx e p z g=>?_) λe=>q;rw[Y8 (by lia)]at e;cases e
   ·have W:l.size=1:=by lia
    obtain⟨x0,Hj⟩:∃x,l=#[x]:=qf W;obtain⟨j0,U⟩:∃j,t.place=#[j]:=qf (by exact Eq.trans LI W);have b0:SetTable.below t.place 0=0:=by rw[U];simp[SetTable.below,SetTable.below.go]
    have b1:SetTable.below t.place (j0+1)=1:=by rw[U];simp[SetTable.below,SetTable.below.go]
    refine zY (z8 (fin (rawInt 0) s.heap s.drawn (λb o e=>e) ⟨[x0.2],s.heap.objs.size,by rw[Hj];exact Yf _,Zy _,Zy _,_,λP C =>
     eJ (t:=t) (λi=>.int ((if i=0 then 0 else j0+1:Nat):Int) 0) (λ_=>True) (by simp) (by simp) Bf (λ_ _ _ _=>trivial) ?step ?stop,⟨zX _ G,Zr _ M,trivial⟩⟩))
    case step =>
     intro i n H N hi u D _ q;have L7:i=0:=by lia
     subst L7;refine dy C u T.tb.fit D (HL 0 0 n u _) (λx nx e p z g=>?_) λe=>?_
     ·rw[b0,Hj,U]at e;cases e;exact q x0.2 p M z g
     ·rw[b0,Hj,U]at e;cases e
    case stop =>
     intro n H N u D _ q;rw[W]at D;refine dy C u T.tb.fit (by rw[W];exact D) (HL 1 (j0+1) n u _) (λx nx e p z g=>?_) λe=>q;rw[b1,Y8 (by exact Yr m)]at e;cases e
def o8{s:AC}(d:s.TypeIs (.ref a) "set")(h:Q L s):GM (Da prog w) A (Builtin.List.listLengthHint (.ref a)) Q E s:=by
 refine zY (wpAny_specialOf d PySem.F.slot_set_len.lookup ?_);generalize f:("set.__len__" : String)=nm
 wp_delta
 rw[show splitId nm=Y ("set", "__len__") from by subst f;decide +kernel];subst f;exact zY (wpAny_isInstance (T := "set") (b:=J) d sub_set_self (wpAny_ite_split (λe=>absurd e (by decide)) λ_=>wpAny_ite_split (λ_=>zY (wpAny_typeOf d (z8 h))) λe=>absurd (by decide +kernel) e))
def uc{A:NB}{s:AC}(hh:A.handled=Z)(T:Ts w s.heap a B n S t)(h:∀(P:NF) d (tk:Nat) (z:Wk),(∀b o,s.heap.get? b=Y o->P.get? b=Y o)->(∀v∈z,∃x u,v=Value.str x u)->(z.map strOf).Perm B->R z { s with heap:=P,drawn:=d,toks:=tk }) :
  GM (Da prog w) A (collect (.ref a)) R E s:=by
 have N:=T.at_;have Cd:=Zt N;have hz:=XJ T.AV;refine zY (wpAny_runValue (Y9 entry_proto_collect' ?_));rw[YD PySem.F.plain_proto_collect];refine zY (YW (z8 ⟨plainId_quiet PySem.F.plain_list_iadd _,Y9 entry_list_iadd' ?_⟩));rw[YD PySem.F.plain_list_iadd];refine(show GM _ A.in1 (Builtin.List.listExtendWith (.ref s.heap.objs.size) (.ref a) (.ref s.heap.objs.size)) _ _ _ from ?_);have D:Ts w (s.heap.push { cls:=.type "list",data:=.seq ([]).toArray }) a B n S t:=⟨zX _ N,T.tb,T.CU,T.pm,T.nd,T.AV⟩
 refine zY (wpAny_typeOf (⟨_,D.at_,rfl⟩) ?_);rw[Zl (by
  have:Builtin.List.listSameRef (.ref s.heap.objs.size) (.ref a)=L:=by simp[Builtin.List.listSameRef];exact YK Cd
  rw[this];decide)]
 refine zY (qr D λI h1 d kp rd hI=>?_);obtain⟨ord,p,G,Ms,LL,St,W,st⟩:=rd;refine zY (ZG (o8 (⟨_,kp _ _ D.at_,rfl⟩) ?_));have Jr:=Zh (by rw[Z4];exact YH _) Ms;have off:s.heap.objs.size∉[I,a,p]:=by
  simp only[Zz,XW,or_false,not_or];exact⟨Zo Jr,YK Cd,Zo (Zh (by rw[Z4];exact YH _) LL)⟩
 have X:=W A.in1 hh;have loop:∀(j:NF)(c:Nat),(∀b o,b≠s.heap.objs.size->h1.get? b=Y o->j.get? b=Y o)->j.get? s.heap.objs.size=Y { cls:=.type "list",data:=.seq #[] c } →
   codeAny (Da prog w) A (.builtin "list.extend.loop" ⟨[.ref s.heap.objs.size,.ref I,.ref s.heap.objs.size],[]⟩) (λr f=>∃acc y,r=.ok (.ret (.ref s.heap.objs.size))/\f.heap.get? s.heap.objs.size=Y { cls:=.type "list",data:=.seq acc y }/\R acc.toList f) { s with heap:=j,drawn:=d }:=λj c k2 l=>by
  refine codeAny_extend_loopS X hz s.heap.objs.size off _ n.size 0 _ #[] c M (Yx _) (X.frame 0 _ j s.toks st (Zy _) λb g o e=>k2 b o (λq=>off (q ▸ g)) e) l (ItemsOf.nil _) λf acc y m C O=>⟨acc,y,rfl,C,?_⟩
  obtain⟨h3,g3,U,JT,Nn⟩:=f;have e1:=m.gens;have e2:U=d:=m.drawn;have e3:=m.os;subst e1 e2 e3;have FE:acc.toList=ord:=by
   apply List.ext_getElem?;intro i;rw[Ys];cases e:acc[i]? with
   |some v=>exact(O.2 i v e).symm
   |none =>
    have h5:ord.length=n.size:=by rw[G.length_eq];simp
    exact(Yt (by rw[h5,← O.1];exact(Array.getElem?_eq_none_iff.mp e))).symm
  refine h h3 U JT acc.toList (λb o e=>?_) (λv H=>?_) ?_
  ·have g:=Zt e;refine m.heap b o (λB2=>?_) (k2 b o (Zo g) (kp b o (zX _ e)));simp only[Zz,XW,or_false]at B2;rcases B2 with q | q
   ·exact Zo g q
   ·exact Zo (YI g Jr) q
  ·rw[FE]at H;obtain⟨e,he,rfl⟩:=Z3.mp (G.mem_iff.mp H);obtain⟨x,u,rfl⟩:=T.CU e he;exact⟨x,u,rfl⟩
  ·rw[FE];refine(G.map strOf).trans (List.Perm.trans (List.Perm.of_eq ?_) T.pm);rw[Z0];rfl
 have Q:=kp _ _ (Zr _ M);rw[Zq (by decide)];have l:=Za (Obj.mapSeq (·.push Value.none)) Q M;refine zY (wpAny_rule (zY ?_));refine(?_);refine zY (wpAny_updateSeq Q M (wpAny_updateSeq l M (z8 ⟨plainId_quiet PySem.F.plain_extend_loop _,(λj c k2 l =>
  YN (loop j c k2 l) (R':=λr f=>match r with | .ok (.ret v)=>GM (Da prog w) A (match v with | .ref a=>load a >>= λo=>(match o.data with | .seq xs _=>pure xs.toList | _=>unsupported "internal:collect") | _=>unsupported "internal:collect") R E f | .ok _=>False | .error e=>E e f) λr f hq=>by
   obtain⟨acc,y,e,C,q⟩:=hq;subst e;exact zY (wpAny_load C (z8 q))) _ _ (λb o g e=>?_) (Za (Obj.mapSeq (·.pop)) l M)⟩)))
 exact(Ze _ _ (Yq g)).trans ((Ze _ _ (Yq g)).trans e)
end ST
end
section
namespace L2
open PySem PySem.Spec PyProof.Rows TS
section
noncomputable def tq(w:NG)(a:FM)(d:List Str):HO:=.ext λ_ h=>∃b e f t,ST.Ts w h a b e f t/\∀y,y∈b↔y∈d
def Inv.drew(I:Inv X a O H s)(d:Drawn):Inv X a O H { s with drawn:=d } :=
 ⟨I.ok,I.os,I.bare,I.base,I.loc,I.cell,I.free,I.Af,I.pin,I.td,I.len⟩
def nY{X:Cx}(r:X.calm=J):bV X (.type "set") (λb H Q=>∃p,∃a:List Str,b=[.ref p]/\Aj X.K H p (a.map V.str)/\a.length+1<scanBound/\∀l,H l=Z->Q (.ref l) (upd H l (tq X.w l a))):=by
 intro e s O H b E Q I f h;refine L2.aw λR j=>?_;obtain⟨p,a,rfl,n,y,q⟩:=h;obtain⟨u,rfl,g⟩:=f.one;cases g;obtain⟨P,d,pl,G⟩:=I.list n;obtain⟨m,A⟩:=kZ d;refine j ?_;refine ST.qE (I.ok.hd r) pl.isList (λi v hi=>?_) (by simpa using(by have:=d.length;simpa using this.symm)) y λz F D C B t T o kp=>?_
 ·rw[List.getElem?_toArray]at hi;obtain⟨x,t,rfl⟩:=m v (Z8 hi);refine⟨x,t,rfl,?_⟩;rw[← A,ZW,hi];rfl
 ·refine⟨.ref s.heap.objs.size,_,I.laid kp (Zy _) (show bG X.prog X.w _ z _ (tq X.w s.heap.objs.size a) from⟨⟨D,C,B,t,T,o⟩,⟨_,T.at_⟩,λN M ⟨a1,a2,a3,a4,b1,b2⟩ k=>⟨a1,a2,a3,a4,⟨k _ b1.at_,b1.tb,b1.CU,b1.pm,b1.nd,b1.AV⟩,b2⟩⟩),rfl,q _ (I.td.fresh (Zy _))⟩
end
end L2
namespace VS
open PySem PySem.Spec PyProof.Rows L2
section
theorem dt:∀(l:List Tx)(x:Tx),x∈dedup l↔x∈l
 |[],x=>by simp[dedup]
 |a :: l,x=>by
  simp only[dedup,Zz,List.mem_filter,dt l x,ne_eq,decide_not,Bool.not_eq_eq_eq_not,Bool.not_true,decide_eq_false_iff_not];by_cases h:x=a
  ·simp[h]
  ·simp[h]
theorem cY:∀(l:List Tx),(dedup l).Nodup
 |[]=>by simp[dedup]
 |a :: l=>by
  simp only[dedup,ZM];exact⟨by simp,(cY l).filter _⟩
def wz:bootBuiltins ("set" : Str)=Y (.type "set"):=by decide +kernel
def yf{a b:Tx}(h:sx a=sx b):a=b:=by
 have:=congrArg (λs:Str=>s.cps.toList) h;simpa[sx] using this
end
section
def dF{d:Xl}(h:a∈(d.set j g).flatten):a∈g\/∃i F,i≠j/\d[i]?=Y F/\a∈F:=by
 obtain⟨i,F,b,f⟩:=cT h;by_cases e:i=j
 ·subst e;rw[List.getElem?_set_self' ]at b;cases q:d[i]? with
  |none=>rw[q]at b;cases b
  |some _=>rw[q]at b;cases b;exact .inl f
 ·rw[Yz (Yq e)]at b;exact .inr ⟨i,F,e,b,f⟩
theorem d2:∀{q:Xl}{j:Nat}{f:Wl},q.flatten.Nodup->f.Nodup->(∀i F,i≠j->q[i]?=Y F->∀a∈F,a∉f)->(q.set j f).flatten.Nodup
 |[],_,_,h,_,_=>by simpa using h
 |G :: Gs,0,f,h,p,d=>by
  rw[Zn,ZA]at h;rw[List.set_cons_zero,Zn,ZA];refine⟨p,h.2.1,λa g b l e=>?_⟩;subst e;obtain⟨i,F,o,m⟩:=cT l;exact d (i+1) F (by lia) (by simpa using o) a m g
 |G :: Gs,j+1,f,h,p,d=>by
  rw[Zn,ZA]at h;rw[List.set_cons_succ,Zn,ZA];refine⟨h.1,d2 h.2.1 p λi F n hi=>d (i+1) F (by lia) (by simpa using hi),λa g b l e=>?_⟩;subst e;rcases dF l with z | ⟨i,F,n,o,m⟩
  ·exact d 0 G (by lia) M a g z
  ·exact h.2.2 a g a (d6 o m) M
def jU(k a:Key):eqT (b8 a) (b8 k)=J↔a=k:=by
 cases k with
 |inl i=>cases a<;>simp[b8]
 |inr x =>
  obtain⟨⟨x⟩⟩:=x;cases a with
  |inl j=>simp[b8]
  |inr y=>obtain⟨⟨y⟩⟩:=y;simp[b8]
end
section
noncomputable def wy(G:Gx):Prop:=∀c k a:Nat,(G.ct c).2 k=(G.ct c).2 a->k=a
end
section
def zK(k v:Val):T->Option (T×Unit)
 |.lst l=>match k.2 with
  |.int n=>(fit v).bind λt=>(Be l.length n).map λj=>(.lst (l.set j t),())
  |_=>Z
 |.dct 0 l=>if kG k.2/\AU v.2/\l.length<cj then Y (.dct 0 (dput l k.2 v.2),()) else Z
 |_=>Z
def kf(i:Nat)(a:List FO)(k e:Ex)(U:VS.Env):Option Out:=(e U).bind λv=>match U[i]? with
 |some (some (.ow t))=>(keys a U).bind λf=>(k U).bind λd=>(pm (zK d v) f t).map λz=>.nx (U.set i (Y (.ow z.1)))
 |_=>Z
theorem xa.putAt:∀{d:List V}{f:Wc}{g:Xl}(j:Nat){u:V}{x:T}{F:Wl},xa G H d f g->Rp G H u x F->xa G H (d.set j u) (f.set j x) (g.set j F)
 |_,_,_,_,_,_,_,.nil,_=>.nil
 |_,_,_,0,_,_,_,.cons r q,a=>.cons a q
 |_,_,_,j+1,_,_,_,.cons r q,a=>.cons r (xa.putAt j q a)
theorem nu(u:Rp G H m t []):∀{a:List Key}{j:List V}{s:Wc}{C:Xl},a.length=j.length->xa G H j s C →
  ∃f g h,(a.zip j).map (λn=>if n.1=d then (n.1,m) else n)=a.zip f/\a.length=f.length/\((a.map b8).zip s).map (λp=>if eqT p.1 (b8 d) then (p.1,t) else p)=(a.map b8).zip g/\xa G H f g h/\h.flatten.Sublist C.flatten
 |[],[],_,_,_,.nil=>⟨[],[],[],rfl,rfl,rfl,.nil,Xb _⟩
 |k :: a,v :: j,_,_,I,.cons (t:=D) (F:=F) r q=>by
  refine L2.aw λM E=>?_;obtain⟨f,g,h,B,A,y,x,w⟩:=nu u (by simpa using I) q;refine E ?_;by_cases l:k=d
  ·refine⟨m :: f,t :: g,[] :: h,?_,by simp[A],?_,.cons u x,?_⟩
   ·rw[ZI,Zd,B,ZI];simp[l]
   ·rw[Zd,ZI,Zd,y,ZI];simp[((jU d k).mpr l)]
   ·rw[Zn,Zn];exact w.trans (List.sublist_append_right _ _)
  ·have e:¬eqT (b8 k) (b8 d)=J:=λz=>l ((jU d k).mp z);refine⟨v :: f,D :: g,F :: h,?_,by simp[A],?_,.cons r x,?_⟩
   ·rw[ZI,Zd,B,ZI];simp[l]
   ·rw[Zd,ZI,Zd,y,ZI];simp[e]
   ·rw[Zn,Zn];exact List.Sublist.append (Xb _) w
theorem kB{kk:Key}:∀{a:List Key}{d:List V}{f:Wc},a.length=d.length->a.length=f.length->((a.zip d).any λg=>decide (g.1=kk))=(((a.map b8).zip f).any λp=>eqT p.1 (b8 kk))
 |[],_,_,_,_=>by simp
 |k :: a,v :: d,t :: f,l,j=>by
  rw[Zd,ZI,ZI,XZ,XZ,kB (by simpa using l) (by simpa using j)];have:decide (k=kk)=eqT (b8 k) (b8 kk):=by rw[Bool.eq_iff_iff,decide_eq_true_eq];exact(jU kk k).symm
  rw[this]
 |_ :: _,[],_,h,_=>by simp at h
 |_ :: _,_ :: _,[],_,h=>by simp at h
def wu(u:Rp G H q t []){a:List Key}{g:List V}(d:a.length=g.length)(l:xa G H g j s) :
  ∃(r:List Key)(f:List V)(m:Wc)(n:Xl),putK (a.zip g) kk q=r.zip f/\r.length=f.length/\dput ((a.map b8).zip j) (b8 kk) t=(r.map b8).zip m/\xa G H f m n/\n.flatten.Sublist s.flatten:=by
 unfold putK dput;rw[(kB (kk:=kk) d (d.trans l.len.1))];by_cases h:(((a.map b8).zip j).any λp=>eqT p.1 (b8 kk))=J
 ·rw[Zq h,Zq h];refine L2.aw λB v=>?_;obtain⟨f,m,n,A,z,y,x,w⟩:=nu u d l;refine v ?_;exact⟨a,f,m,n,A,z,y,x,w⟩
 ·rw[Zl h,Zl h];refine⟨a++[kk],g++[q],j++[t],s++[[]],?_,by simp[d],?_,l.append (.cons u .nil),by simp⟩
  ·rw[List.zip_append d];rfl
  ·rw[Z6,List.zip_append (by rw[zT];exact d.trans l.len.1)];rfl
def xV:tB:=λo i v H Q=>uY o i v H Q\/∃a d,o=.ref a/\qI H a i v d/\Q d
def xG{X:Cx}(p:X.A.units+1<cLine):wK X xV:=by
 intro d s O H o i v m n u Q I j l f h;rcases h with h | ⟨a,t,rfl,g,q⟩
 ·exact set_list d s O H o i v m n u Q I j l f h
 ·cases j;exact n8 p I g l f λw r=>⟨t,r,q⟩
end
def wc{K:Xe}{b:Wh}(e:qH H)(d:Aj K H a (b.map V.int)):fx K H a b:=by
 rcases d with h | h
 ·rcases h with h | h
  ·rcases e a with z | ⟨o,f,z⟩
   ·rw[z]at h;cases h
   ·rw[z]at h;cases h
  ·exact .inl h
 ·exact .inr h
def ve{G:Gx}(d:g [.scr b]=Y (.fr,.bl J))(f:qH H)(e:Aj G.K H a (b.map V.int)):BL G g [.ref a] H (λv _=>v=.bl J) E :=
 ⟨[.scr b],[[]],.fr,.bl J,.cons (.scr (wc f e)) .nil,d,λv h F _ r _=>r.AK⟩
def GB(K:Xe):Gx:=⟨K,λ_=>(0,λk=>⟨#[k]⟩),λ_=>Z⟩
def oS{l:PySem.W.OpenLaw}{d:DefRec}{K:Params->Xe}{g:Fn}{x:Str}{k:Nat}(m:l.most=Y 63)(t:d.params.defaults=[])(j:Aa k callerA)(n:∀ns:Wh,g [.scr ns]=Y (.fr,.bl J))(F:∀(w:NG)(mg:Wx)(e:FM)(h:NF),(K w.params).In h->h.Ns mainGlobals mg->mg d.name=Y (.ref e) →
   ∃fd:KF,(∀(s:AC)(u:FS),BindsTo s fd ⟨[u],[]⟩ [(x,u)])/\∀base:NF,(K w.params).In base->base.Ns mainGlobals mg->FnOk l.prog w (K w.params) mg base Bu k e fd [x] (BL (GB (K w.params)) g)) :
  PySem.W.WalkO q b r (λw h=>(K w.params).In h) l.row.toRowW d [] (λf i=>PySem.call f i) :=
 L2.eJ (k:=k) (x:=x) m (by decide) t j (λ_ _ h=>h) F (λw H a ns _ p o=>ve (n ns) p o) λ_ _ _ _ _ z=>z
end VS
end
section
namespace L2
open PySem PySem.Spec PyProof.Rows
section
def lH{X:Cx}(y:X.calm=J):bV X (.type "list") (λf H Q=>∃x:Str,f=[.str x]/\x.cps.size<=FB/\∀l,H l=Z->Q (.ref l) (upd H l (.lst (x.cps.toList.map λc=>V.str ⟨#[c]⟩)))):=by
 intro j s O H f A Q I p h;obtain⟨x,rfl,m,q⟩:=h;obtain⟨u,rfl,t,rfl⟩:=vals1 p;refine call_list_str (I.ok.hd y) x t (λz B acc c kp g o=>?_) m;refine⟨.ref s.heap.objs.size,_,I.laid kp (Zy _) (show bG X.prog X.w _ z _ (.lst (x.cps.toList.map λc=>V.str ⟨#[c]⟩)) from⟨by rw[zT,ZV];exact m,acc.toList,c,(by
  have key:∀(b:Wi)(a:Wk),b.length=a.length->(∀(i:Nat)(v:FS),a[i]?=Y v->∃c u,b[i]?=Y c/\v=.str ⟨#[c]⟩ u)->aA (b.map λc=>V.str ⟨#[c]⟩) a:=by
   intro b
   induction b with
   |nil =>
    intro a e _;cases a with
    |nil=>exact .nil
    |cons v a=>simp at e
   |cons c b r =>
    intro a e n;cases a with
    |nil=>simp at e
    |cons v a =>
     obtain⟨d,u,e1,e2⟩:=n 0 v M;cases e1;exact .cons ⟨u,e2⟩ (r a (by simpa using e) λi w hw=>by simpa using n (i+1) w (by simpa using hw))
  refine key _ _ (by rw[ZV,ZV,o.1]) λi v hi=>?_;rw[Ys]at hi;obtain⟨d,u,e1,e2⟩:=o.2 i v hi;exact⟨d,u,by rw[Ys];exact e1,e2⟩),g⟩),rfl,q _ (I.td.fresh (Zy _))⟩
end
end L2
namespace VS
open PySem PySem.Spec PyProof.Rows L2
section
def jH:We->Wd
 |[(m,.lst l)]=>Bl m l
 |[(m,.tup l)]=>Bl m l
 |[(_,.str s)]=>Bl .fr (s.map λc=>.str [c])
 |_=>Z
def rm:dj G (λd H Q=>uV G.K d H Q\/∃x:Str,d=[.str x]/\x.cps.size<=FB/\∀l,H l=Z->Q (.ref l) (upd H l (.lst (x.cps.toList.map λc=>V.str ⟨#[c]⟩)))) jH:=by
 intro S U i H l f j m t Q A e k;unfold jH at e;split at e
 ·exact .inl (nA S U i H _ f j m t Q A e k)
 ·exact .inl (nA S U i H _ f j m t Q A e k)
 ·rename_i B x;obtain⟨v,F,rfl,rfl,h⟩:=(A.rp).one;have g:=h.str_inv.2;refine .inr ⟨sx x,by rw[h.str_inv.1],?_,λq r=>?_⟩
  ·have:=g.1;exact this
  ·have z:(sx x).cps.toList.map (λc=>V.str ⟨#[c]⟩)=(x.map λc=>[c]).map λs=>V.str (sx s):=by
    simp[sx]
   have w:(x.map λc=>T.str [c])=(x.map λc=>[c]).map T.str:=by simp
   rw[z];rw[w]at e;refine eg A.same e (jL (G:=G) (H:=H) (ss:=x.map λc=>[c]) λs o=>by
    obtain⟨c,u,rfl⟩:=Z3.mp o;exact⟨by show 1<=cj;decide,λy n=>by rw[Zx.mp n];exact g.2 c u⟩) ?_ k q r
   rw[gG];exact Fp.nil
 ·cases e
def tR{X:Cx}(d:X.mg "list" = Z)(h:PVs G X [e] cs)(f:{`q1,Gl X "list"})(i:{`q1,X.K=G.K})(g:{`q1,X.calm=J})(he:{`q1,K0 e [] X}):PV G X (.Call (.Name "list" p) [e] [] pos) (eN jH cs) :=
 eK (js.or (lH g)) (i ▸ rm) f d ux h (he:=he)
def sC(K:Xe):wy (GB K):=λc k k' h=>by
 have:(#[k])=#[k']:=congrArg Str.cps h;simpa using this
def xE{X:Cx}{pos:Pos}(i:Nat)(J:wy G)(hr:Aa kr X.A)(hk:PV G X b ck)(he:PV G X e ce)(hN:X.N[i]?=Y x)(hv:Cg X.env.scope x)(hd:K2 x)(hcd:K3 x)(ha:∀v,assign (.Subscript (.Name x p1) b pos') X.env v=(do
   let Q ← holding [v] (eval (.Name x p1) X.env)
   let iv ← holding [v,Q] (eval b X.env)
   standAt pos'
   holding [v,Q,iv] (setItem Q iv v)
   release [v,Q,iv] []))(hs:swapsWithSole [.Subscript (.Name x p1) b pos'] e pos.line X.env=pure L)(hw:swappedStores [.Subscript (.Name x p1) b pos'] e X.env=pure Z)(C:(assignEach [.Subscript (.Name x p1) b pos'] X.env).map (·.2)=[assign (.Subscript (.Name x p1) b pos') X.env]):PSV G X (.Assign [.Subscript (.Name x p1) b pos'] e pos) (kf i [] ck ce) :=
 PS.weak (vR he (vV (d5 hN hv hd hcd) hk (xG (xW hr)) ha) hs hw C) λD O H hq=>by
  obtain⟨S,U,out,s,e,k⟩:=hq;obtain⟨⟨mv,B⟩,ev,e⟩:=zZ.mp e;split at e
  ·rename_i x ht;refine L2.aw λP_ R=>?_;obtain⟨ks,ek,e⟩:=zZ.mp e;cases (ek);obtain⟨⟨mk,o⟩,MD,e⟩:=zZ.mp e;obtain⟨⟨M,y'⟩,y,e6⟩:=z9.mp e;cases e6;obtain⟨w,g1,g2⟩:=s.rp _ _ ht;obtain⟨F1,w2,w3,w5⟩:∃F1,Rp G H w x F1/\F1.Nodup/\∀E m,Dm G H w F1 M E m->Dm G H w (S i) M E m:=⟨S i,g2,s.nd i x ht,λ_ _ g=>g⟩
   refine R ?_;clear g2;refine⟨S,U,mv,B,s,ev,λxv H1 Fv IA rv W=>⟨w,g1,S,U,mk,o,s.same IA,MD,λkv H3 Fk FZ rk fk=>?_⟩⟩;have q:=IA.trans FZ;have GV:=rv.same FZ;have fin:=λE m g=>by
    obtain⟨z1,z2⟩:=s.mut ht g1 (w5 E m g);exact k _ O E z1 z2
   refine L2.aw λP_ R=>?_;cases x with
   |lst l =>
    cases o with
    |int n =>
     obtain⟨tt,et,e7⟩:=zZ.mp (y);obtain⟨j,ej,e8⟩:=z9.mp e7;cases e8;cases (nz et);obtain⟨a,vs,Fs,rfl,rfl,I,t⟩:=w2.lst_inv;have F:=q a _ I;have nd:=ZM.mp w3;have na:a∉Fv:=λz=>by rw[W.2 a z]at I;cases I
     have u:Ak (H3 a):=by rw[F];exact True.intro
     have off:=λf d hv=>Ak.pe (t.Ay f d) (W.2 f hv);refine R ?_;refine .inl ⟨a,vs,n,j,rfl,rk.int_inv,F,by rw[← pP,t.len.1];exact ej,fin _ (a :: (Fs.set j Fv).flatten) ?_⟩;refine Dm.upd q zU u (.lst av ((((t.same q).off u nd.1)).putAt j ((λr hn=>r.keep (Kept.upd (.inl u)) λf d o' BA=>by rw[ak (λz=>hn (by rw[← z];exact d))];exact BA) GV na))) ?_ ?_
     ·rw[ZM];refine⟨λh=>?_,d2 nd.2 W.1 λi' m _ hi f d=>off f (d6 hi d)⟩;rcases dF h with z | ⟨i',m,_,C,h2⟩
      ·exact na z
      ·exact nd.1 (d6 C h2)
     ·intro f d;rcases Zz.mp d with rfl | d
      ·exact .inl zU
      ·rcases dF d with z | ⟨i',m,_,C,h2⟩
       ·exact .inr (W.2 f z)
       ·exact .inl (zV _ (d6 C h2))
    |_=>cases y
   |dct kd l =>
    cases kd with
    |zero =>
     have hc:(kG o=true/\AU B=true/\l.length<cj)/\M=.dct 0 (dput l o B):=by
      have GN:(if kG o/\AU B/\l.length<cj then Y (T.dct 0 (dput l o B),()) else Z)=Y (M,y'):=y;split at GN
      ·rename_i hc;cases GN;exact⟨hc,rfl⟩
      ·cases GN
     obtain⟨⟨c1,c2,c3⟩,rfl⟩:=hc;have eF:=GV.AU c2;subst eF;obtain⟨a,ns,vs,ts,Fs,rfl,rfl,I,hl,rfl,t⟩:=uD w2;obtain⟨kk,rfl,Ic⟩:=jM rk c1;subst Ic;have F:=q a _ I;have u:Ak (H3 a):=by rw[F];exact True.intro
     have nd:=ZM.mp w3;obtain⟨Gg,BR,Ck,BQ,q1,q2,q3,q4,P⟩:=wu GV hl (t.same q);refine R ?_;refine .inr ⟨a,_,rfl,qI.k F (by
      have:((ns.map b8).zip ts).length<16777216:=c3;rw[XH,zT]at this;rw[XH];have:=t.len.1;have:(FB:Nat)=16777216:=rfl;lia),fin _ (a :: BQ.flatten) ?_⟩
     rw[q1,q3];refine Dm.upd q zU u (.dct av q2 (q4.off u λz=>nd.1 (P.subset z))) ?_ ?_
     ·exact ZM.mpr ⟨λz=>nd.1 (P.subset z),nd.2.sublist P⟩
     ·intro f d;rcases Zz.mp d with rfl | d
      ·exact .inl zU
      ·exact .inl (zV _ (P.subset d))
    |succ n=>cases y
   |_=>cases y
  ·cases e
end
end VS
end
section
namespace L2
open PySem PySem.Spec PyProof.Rows TS
section
def Inv.adopt{h':NF}{a:FM}{o:HO}{t':Nat}(I:Inv X pins O H s)(f:gR X pins H a)(k:∀b u,b≠a->s.heap.get? b=Y u->h'.get? b=Y u)(he:∃u,h'.get? a=Y u)(h:bG X.prog X.w (upd H a o) h' a o) :
  Inv X pins O (upd H a o) { s with heap:=h',toks:=t' }:=by
 obtain⟨x,f1,f2,f3,t,p⟩:=f;have ne:∀b u,H b=Y u->b≠a:=λb u e z=>by rw[z,x]at e;cases e
 refine I.step (ch:=[a]) (λb g=>?_) (λb o _ _ d e _=>k b o (λz=>d (by simp[z])) e) (λb o _ _ d e _=>⟨o.slots,k b o (λz=>d (by simp[z])) e⟩) (λb _ d _ n=>?_)
  (λb o d e=>⟨o,k b o (λz=>d (by simp[z])) e⟩) (λb i e=>?_) (λb o u e=>?_) (λb _ e=>?_) (λm l=>?_) (λb u e=>?_) I.bare
 ·rw[Zx.mp g];exact⟨f3,f1,t,p⟩
 ·rw[ak (λz=>d (by simp[z]))];exact n
 ·rw[ak (ne b _ e)];exact e
 ·rw[ak (ne b _ e)];exact e
 ·rw[ak (ne b _ e)];exact e
 ·obtain⟨o,y,A,j,r⟩:=l;exact⟨o,y,A,k _ o (Yq f1) j,r⟩
 ·by_cases g:b=a
  ·subst g;rw[av]at e;cases e;exact h
  ·rw[ak g]at e;refine(I.td b u e).A2 (λc v d q=>k c v ?_ q) (λc q=>by rw[ak (ne c _ q)];exact q) (λc i q=>by rw[ak (ne c _ q)];exact q) λc _ _ q=>by rw[ak (ne c _ q)];exact q
   rcases d with z | z
   ·rw[z];exact g
   ·exact ne c _ z
end
end L2
end
section
namespace VS
open PySem PySem.Spec PyProof.Rows L2
section
def wY{pos:Pos}(h:PV G X e a)(j:swapsWith e Z pos.line X.env=pure L):PSV G X (.Expr e pos) (sX (xP a)) :=
 PS.weak (jN h j) λD O H d=>by
  obtain⟨S,U,out,s,e,k⟩:=d;obtain⟨⟨v,l⟩,e1,e2⟩:=z9.mp e;obtain⟨⟨m,t⟩,e3,f⟩:=z9.mp e1;cases f;cases e2;exact⟨S,U,m,t,s,e3,λv i F e1 r1 f1=>k S O i (s.same e1) (Ao.same e1)⟩
end
end VS
end
section
namespace VS
open PySem PySem.Spec PyProof.Rows L2
section
def vK:bootBuiltins ("int" : Str)=Y (.type "int"):=by decide +kernel
end
end VS
end
section
namespace VS
open PySem PySem.Spec PyProof.Rows L2
noncomputable def GS:T->Bool
 |.non=>J
 |.bl _=>J
 |.int _=>J
 |.str _=>J
 |_=>L
section
def gN(j:PV G X a ca)(i:PV G X b cb)(g:PV G X c cc)(f:lastMarks [.LtE,.LtE] [b,c]=L):Cp G X (.Compare a [.LtE,.LtE] [b,c] pos) (cL oLe oLe ca cb cc) :=
 PT.weak (rL jy jy j i g f) λO H Q h=>j9 h (λU m r e=>by
  obtain⟨x,s,e⟩:=zZ.mp e;obtain⟨y,p,e⟩:=zZ.mp e;obtain⟨⟨l,z⟩,n,e⟩:=zZ.mp e;cases z with
  |bl q =>
   cases q with
   |false=>cases e;exact⟨_,rfl⟩
   |true =>
    obtain⟨d,o,e⟩:=zZ.mp (e);exact kM y d m r e
  |_=>cases e) λQ h=>kQ nr nr h
end
end VS
end
section
namespace L2
open PySem PySem.Spec PyProof.Rows
noncomputable def pick{α:Type}(l:List α)(a:Wi):List α:=a.filterMap (l[·]?)
def zO{α:Type}(l:List α)(b d a:Option Int):List α:=pick l (sliceRange (sliceBounds b d a l.length).1 (sliceBounds b d a l.length).2.1 (sliceBounds b d a l.length).2.2)
end L2
namespace VS
open PySem PySem.Spec PyProof.Rows L2
section
def IB(x:Val)(l h c:Option Int):Wd:=match x with
 | (_,.lst b)=>if b.all GS/\c≠Y 0 then Y (.fr,.lst (zO b l h c)) else Z
 |_=>Z
end
end VS
end
section
namespace L2
def yh{α:Type}{b:List α}(d:b.length=n+1):∃a t,b=a :: t/\t.length=n:=by
 obtain⟨a,t,e⟩:=List.exists_cons_of_length_eq_add_one d;subst e;exact⟨a,t,rfl,Nat.succ.inj d⟩
def ko{α:Type}{b:List α}(d:b.length=1):∃a,b=[a]:=List.length_eq_one_iff.mp d
def nQ{α:Type}{d:List α}(f:d.length=2):∃a b,d=[a,b]:=by
 obtain⟨a,t,rfl,e⟩:=yh f;obtain⟨b,rfl⟩:=ko e;exact⟨a,b,rfl⟩
def zy{α:Type}{d:List α}(f:d.length=3):∃a b c,d=[a,b,c]:=by
 obtain⟨a,t,rfl,e⟩:=yh f;obtain⟨b,c,rfl⟩:=nQ e;exact⟨a,b,c,rfl⟩
end L2
end
section
namespace VS
open PySem PySem.Spec PyProof.Rows L2
def SR.any(s:SR G S U O H)(a:U[j]?=Y Z)(v:Option V):SR G S U (O.set j v) H :=
 ⟨by rw[Yc];exact s.len,λi c h=>by
  obtain⟨u,d,b⟩:=s.rp i c h;exact⟨u,by rw[Yz (λz=>by rw[z,h]at a;cases a)];exact d,b⟩,s.nd,s.sep⟩
end VS
end
section
namespace XN
open PySem PySem.Spec PyProof.Rows L2
noncomputable def Fl(j:FS)(g:NF)(H:Hp)(e:FM)(d:FS)(l:Option FM)(h:NF):Prop :=
 g.get? e=Z/\H e=Z/\∃b a,h.get? e=Y b/\(b.cls=d/\b.dict=l)/\b.data=.fields a/\1<a.size ∧
  (a[1]?=Y .none\/∃T i f,a[1]?=Y (.ref T)/\g.get? T=Z/\H T=Z/\T≠e/\h.get? T=Y i/\i.data=.fields f/\f[3]?=Y j)
structure Mv(g:NF)(H:Hp)(fs:Wl)(h h':NF):Prop where
 keep:∀b o,h.get? b=some o->g.get? b≠none\/H b≠none->b∉fs->h'.get? b=some o
 slot:∀b o,h.get? b=some o->(∀vs,o.data ≠ .fields vs)->∃sl,h'.get? b=some { o with slots:=sl }
 there:∀b o,h.get? b=some o->∃o',h'.get? b=some o'
 sz:h.objs.size<=h'.objs.size
def Mv.refl:Mv g H a h h:=⟨λ_ _ e _ _=>e,λ_ o e _=>⟨o.slots,e⟩,λ_ o e=>⟨o,e⟩,Zy _⟩
def Mv.trans{i:NF}(a:Mv g H d h j)(b:Mv g H d j i):Mv g H d h i :=
 ⟨λc o e k f=>b.keep c o (a.keep c o e k f) k f,λc o e f=>by
  obtain⟨p,q⟩:=a.slot c o e f;obtain⟨n,l⟩:=b.slot c _ q f;exact⟨n,l⟩,λc o e=>by
  obtain⟨m,q⟩:=a.there c o e;exact b.there c m q,Zu a.sz b.sz⟩
def Mv.frames{g:NF}{H:Hp}{base:NF}(m:Mv g H d h a)(f:h.FunFrames base l):a.FunFrames base l :=
 f.of_keeps λb o e k=>by
  obtain⟨i,q⟩:=m.slot b o e k;exact⟨_,q,rfl⟩
def Mv.put{g:NF}{h:NF}(f:Array FS->Array FS)(j:h.get? a=Y o)(l:o.data=.fields i)(m:g.get? a=Z)(n:H a=Z):Mv g H p h (h.update a (Obj.mapFields f)):=by
 refine⟨λb d e k _=>?_,λb d e k=>?_,λb d e=>?_,by rw[Xj];exact Zy _⟩
 ·rw[Ze _ _ λz=>by
   subst z;rcases k with k | k
   ·exact k m
   ·exact k n]
  exact e
 ·have ne:a≠b:=λz=>by
   subst z;rw[j]at e;cases e;exact k i l
  exact⟨d.slots,by rw[Ze _ _ ne];exact e⟩
 ·by_cases z:a=b
  ·subst z;exact⟨_,(Za (Obj.mapFields f) j (X8 (Obj.data_mapFields l f)))⟩
  ·exact⟨d,by rw[Ze _ _ z];exact e⟩
theorem Mv.push(o:Obj):Mv g H d h (h.push o) :=
 ⟨λb a e _ _=>zX _ e,λb a e _=>⟨a.slots,zX _ e⟩,λb a e=>⟨a,zX _ e⟩,by rw[Z4];exact YT _⟩
def Mv.slots(x:Heap.SlotsOnly d h a):Mv g H d h a :=
 ⟨λb o e _ f=>(x.2.1 b f).trans e,λb o e _=>x.2.2 b o e,λb o e=>by
  obtain⟨sl,q⟩:=x.2.2 b o e;exact⟨_,q⟩,by rw[x.1];exact Zy _⟩
section
variable{M:Model}{L:FM}
noncomputable abbrev EG(l:List Env):Wl:=l.filterMap (·.frame)
def kY{A:NB}{s:AC}{g:NF}(I:A.frames=Y (env :: outer))(t:s.heap.FunFrames base (env :: outer))(B:env.frame=Y L)(he:s.heap.get? e=Y i)(u:i.cls=cls/\i.dict=dd)(j:i.data=.fields l)(f:1<l.size)(r:g.get? e=Z)(w:H e=Z)(D:∀b,s.heap.objs.size<=b->g.get? b=Z)(F:∀b,s.heap.objs.size<=b->H b=Z)(h:∀n,Mv g H (EG (env :: outer)) s.heap n->Fl (rawInt L) g H e cls dd n->Q () { s with heap:=n }) :
  GM M A (do let a ← frameOf env;let pl ← entryPlaceOf L G;let b ← EntryCells.newEntry d a .none (rawInt L) .none pl;setField (.ref e) 1 b) Q E s:=by
 refine zY (wpAny_frameOf_fun I t B λp m=>zY (wpAny_entryPlaceOf λpl y=>?_));refine zY (YW ?_ (y.sizeOk5 ..));have e1:=(m.2.1 e (λz=>by
  obtain⟨_,o,q,C⟩:=t.mem z;rw[he]at q;cases q;exact C l j)).trans he
 have sz:=m.1;generalize v:({ cls:=.type "traceback",dict:=Z,data:=.fields ([d,.ref L,.none,rawInt L,.none]++(if pl.isEmpty then List.replicate 6 Value.none else pl)).toArray }:Obj)=oT;have e2:=zX oT e1;refine Yb e2 j f (h _ ?_ ?_)
 ·exact((Mv.slots m).trans (Mv.push oT)).trans (Mv.put _ e2 j r w)
 ·have x:=Obj.data_mapFields j (·.setIfInBounds 1 (Value.ref p.objs.size));have ne:=YK (Zt e1);refine⟨r,w,_,_,Za _ e2 (X8 x),⟨(Obj.cls_mapFields _ _).trans u.1,?_⟩,x,by simp[f],.inr ⟨p.objs.size,oT,([d,.ref L,.none,rawInt L,.none]++(if pl.isEmpty then List.replicate 6 Value.none else pl)).toArray,?_,D _ (by rw[sz];exact Zy _),F _ (by rw[sz];exact Zy _),ne,?_,by rw[← v],?_⟩⟩
  ·rw[← u.2];unfold Obj.mapFields;split<;>rfl
  ·simp[f]
  ·rw[Ze _ _ (Yq ne)];exact Zr _ (by rw[← v];rfl)
  ·simp
def mU{A:NB}{s:AC}{g:NF}(B:A.frames=Y (env :: outer))(u:s.heap.FunFrames base (env :: outer))(n:env.frame=Y L)(P:r=.none\/r=rawInt L)(w:∀b,s.heap.objs.size<=b->g.get? b=Z)(x:∀b,s.heap.objs.size<=b->H b=Z)(F:Fl r g H e cls dd s.heap)(h:∀f,Mv g H (EG (env :: outer)) s.heap f->Fl (rawInt L) g H e cls dd f->Q () { s with heap:=f }):GM M A (noteFrame (.ref e) env) Q E s:=by
 obtain⟨m,p,G,C,he,o,hd,a,O⟩:=F;unfold noteFrame;simp only[n];rcases O with j | ⟨T,I,D,j,z,y,v,i,l,q⟩
 ·refine zY (Wy he hd j ?_);rw[Zl (by decide)];exact kY B u n he o hd a m p w x h
 ·refine zY (Wy he hd j ?_);rw[Zq (by simp)];refine zY (Wy i l q ?_);rcases P with rfl | rfl
  ·rw[Zl (by simp[rawInt])];refine zY (Yb i l (Xg.mp q).1 ?_);have t:Mv g H (EG (env :: outer)) s.heap (s.heap.update T (Obj.mapFields (·.setIfInBounds 3 Value.none))):=Mv.put _ i l z y;refine kY B (t.frames u) n (by rw[Ze _ _ v];exact he) o hd a m p ?_ ?_ λf N f2=>h f (t.trans N) f2
   ·intro b d;rw[Xj]at d;exact w b d
   ·intro b d;rw[Xj]at d;exact x b d
  ·rw[Zq (by simp[rawInt])];exact z8 (h s.heap Mv.refl ⟨m,p,G,C,he,o,hd,a,.inr ⟨T,I,D,j,z,y,v,i,l,q⟩⟩)
def fZ{s:AC}{fs:Wl}(F:Fl y g H e cls dd s.heap)(h:∀i,Mv g H fs s.heap i->Fl .none g H e cls dd i->Q () { s with heap:=i }):GM M A (setFlight (.ref e) none) Q E s:=by
 obtain⟨o,q,m,l,he,p,hd,a,w⟩:=F;rcases w with b | ⟨T,B,z,b,v,u,r,d,j,x⟩
 ·refine zY (Wy he hd b ?_);rw[Zl (by decide)];exact z8 (h s.heap Mv.refl ⟨o,q,m,l,he,p,hd,a,.inl b⟩)
 ·refine zY (Wy he hd b ?_);rw[Zq (by simp)];have t:=Obj.data_mapFields j (·.setIfInBounds 3 (Option.elim Z Value.none λf=>rawInt f));have n:=(Xg.mp x).1;refine Yb d j n (h _ (Mv.put _ d j v u) ⟨o,q,m,l,by rw[Ze _ _ r];exact he,p,hd,a,.inr ⟨T,_,_,b,v,u,r,Za _ d (X8 t),t,by simp[n]⟩⟩)
def rB{A:NB}{s:AC}{g:NF}(o:A.frames=Y (env :: outer))(i:s.heap.FunFrames base (env :: outer))(j:env.frame=Y L)(m:∀b,s.heap.objs.size<=b->g.get? b=Z)(n:∀b,s.heap.objs.size<=b->H b=Z)(F:Fl .none g H e cls dd s.heap)(h:∀a,Mv g H (EG (env :: outer)) s.heap a->Fl .none g H e cls dd a->Q () { s with heap:=a }):GM M A (leaving env (.ref e)) Q E s:=by
 refine zY (mU o i j (.inl rfl) m n F λp f f1=>fZ f1 λl d f2=>h l (f.trans d) f2)
end
def Fl.mono{d:NF}(F:Fl l g H e a m h)(w:∀b o,d.get? b=Y o->∃j,g.get? b=Y j):Fl l d H e a m h:=by
 have no:∀b,g.get? b=Z->d.get? b=Z:=λb q=>by
  cases z:d.get? b with
  |none=>rfl
  |some o =>
   obtain⟨j,i⟩:=w b o z;rw[q]at i;cases i
 obtain⟨v,y,s,n,he,x,hd,f,u⟩:=F;refine⟨no _ v,y,s,n,he,x,hd,f,u.imp id ?_⟩;rintro⟨T,t,p,A,B,r⟩;exact⟨T,t,p,A,no _ B,r⟩
def p9(x:AD P w H h)(m:Mv g H f h d)(i:∀b∈f,H b=Z):AD P w H d:=λa o e =>
 (x a o e).A2 (λb u k q=>m.keep b u q (.inr (by
   rcases k with rfl | k
   ·rw[e];exact λz=>nomatch z
   ·rw[k];exact λz=>nomatch z)) λz=>by
    have:=i b z;rcases k with rfl | k
    ·rw[this]at e;cases e
    ·rw[this]at k;cases k) (λ_ q=>q) (λ_ _ q=>q) λ_ _ _ q=>q
def yy{d r l:Wl}{p H:Hp}{g a h j base:NF}{outer:List Env}(u:Un d l p H a h)(m:Mv g H r h j)(w:∀b o,a.get? b=Y o->g.get? b≠Z)(A:∀b∈r,b∈d\/a.objs.size<=b)(B:d=EG outer)(y:h.FunFrames base outer):Un d l p H a j where
 keep:=λb o e n f x=>m.keep b o (u.keep b o e n f x) (.inl (w b o e)) λz=>(A b z).elim f λq=>absurd (Zt e) (Nat.not_lt.mpr q)
 slot:=λb o e n f x=>by
  obtain⟨D,q⟩:=u.slot b o e n f x;rw[B]at f;obtain⟨_,E,i,v⟩:=y.mem f;rw[q]at i;cases i;obtain⟨C,s⟩:=m.slot b _ q v;exact⟨C,s⟩
 free:=u.free
 there:=λb o e x=>by
  obtain⟨t,q⟩:=u.there b o e x;exact m.there b t q
 AM:=u.AM
 AJ:=u.AJ
 AH:=u.AH
def Dn(P:KM)(w:NG)(d:NF):Cr:=λouter H s E e b=>∃a cls g f,e=.ref a/\b.os=s.os/\AllBare b.gens/\Un (AN outer) [] H f s.heap b.heap/\AD P w f b.heap/\b.heap.FunFrames d outer/\Fl .none s.heap f a cls g b.heap/\E cls g f
structure CY(X:Cx)(pins:Xs)(g h:NF):Prop where
 old:∀b o,X.s₀.heap.get? b=some o->g.get? b≠none
 pin:∀p∈X.pn++pins,g.get? p.1≠none
 new:∀b,h.objs.size<=b->g.get? b=none
def XR(X:Cx)(O:L2.St)(d:FS)(e:Option FM)(H:Hp):Prop:=∀b s a g,Inv X b O H s->CY X b g s.heap->Fl .none g H a d e s.heap->X.xe (.ref a) s
def CY.here{g:NF}(I:Inv X a O H s)(f:X.ex=[])(h:∀b o,s.heap.get? b=Y o->∃d,g.get? b=Y d):CY X a s.heap g:=by
 refine⟨λb o e z=>?_,λp i z=>?_,λb j=>?_⟩
 ·obtain⟨d,q⟩:=I.base.there b o e (by rw[f];exact λz=>nomatch z);rw[z]at q;cases q
 ·rw[(I.pin p i).1]at z;cases z
 ·cases z:s.heap.get? b with
  |none=>rfl
  |some o =>
   obtain⟨d,q⟩:=h b o z;exact absurd (Zt q) (Nat.not_lt.mpr j)
section
variable{K:Xe}
def yj(l:E d i H):XR (fV (Dn P w base) P w K mg base N qual scope f cd A outer s0 H0 E) O d i H:=by
 intro j s a g I h F;have td:=I.td;refine rB (g:=g) (H:=H) I.ok.frames I.stack M h.new (λb e=>td.fresh e) F λn m f2=>?_;exact⟨a,d,i,H,rfl,I.os,I.bare,(yy (outer:=outer) (base:=base) I.base m h.old (λb e=>by
  rw[EG,Xp]at e;rcases Zz.mp (show b∈s0.heap.objs.size :: AN outer from e) with rfl | e
  ·exact .inr (Zy _)
  ·exact .inl e) M I.Ax),p9 td m I.AX,m.frames I.Ax,f2.mono (λb o q=>Option.ne_none_iff_exists'.mp (h.old b o q)),l⟩
def XR.C1{E:XK}(I:Inv X d O H s)(h:Dn X.prog X.w X.base X.stack H s E e j)(l:X.ex=[])(k:∀cls g i,E cls g i->XR X O cls g i):X.xe e j:=by
 obtain⟨a,cls,g,i,rfl,p,m,n,td,t,r,q⟩:=h;exact k cls g i q d j a s.heap (I.DD p n td m λb m=>nomatch m) (CY.here I l λb o e=>n.there b o e λz=>nomatch z) r
def wm(X:Cx)(b:Sp)(t:TA):TE:=λO H Q=>t O H λa d=>b a d Q (XR X O)
def pE{X:Cx}{f:FM}(F:FnOk X.prog X.w X.K X.mg X.base (Dn X.prog X.w X.base) k f v o m)(G:Aa k X.A)(S:Gl X x)(M:X.mg x=Y (.ref f))(R:PySem.W.keepIn X.K (.ref f)=J)(U:Binds X.K v o [])(ha:PA X (e :: g) t)(Au:K2 x)(he:K0 e g X)(Ar:K1 a g X)(l:X.ex=[]) :
  PE X (.Call (.Name x p) (e :: g) [] a) (wm X m t):=by
 intro b s O H Q I h;refine XX (eL I S M ?_ Au);refine PySem.W.callWith_K I.ok.mod.Gh R (thn (ha a b s O H _ I h) λi n D=>?_) he Ar;obtain⟨B,H1,d,r,q⟩:=D;refine⟨d.AE,?_⟩;have y:=U n i d.AE (by rw[ZL];exact(by rw[← r.length];exact F.len _ _ _ _ q));rw[ZL]at y;refine Xz (YN (F.run X.A X.stack n H1 ⟨i,[]⟩ i B Q _ G d.Ea y r q) λC s' j=>?_);cases C with
 |error e=>exact XR.C1 d j l λ_ _ _ z=>z
 |ok f =>
  cases f with
  |ret u=>exact d.after j
  |_=>exact j.elim
end
end XN
end
section
namespace VS
open PySem PySem.Spec PyProof.Rows L2 XN
structure Xn where
 nm:Str
 c:Option Int:=none
noncomputable def Dd(H:Hp):Option Int->Option FM->Prop
 |none,d=>d=Z
 |some n,d=>∃a b,d=Y a/\H a=Y (.frz b (.xd [("line",.int n)]))
inductive Res where | ok (v:Val) | ex (x:Xn)
inductive CL where | ok (o:Out) | ex (x:Xn) (U:VS.Env)
abbrev Ek:=VS.Env->Option Res
abbrev AA:=VS.Env->Option CL
noncomputable abbrev Cq:=Wc->Option Res
def JL(X:Cx)(O:L2.St)(x:Xn)(H:Hp):Prop:=∀cls d,X.mg x.nm=Y cls->Dd H x.c d->XR X O cls d H
def Nk(G:Gx)(X:Cx)(S:Ac)(U:VS.Env)(O:L2.St)(H:Hp)(Q:VK):Res->Prop
 |.ok v=>∀u a F,aC H a->Rp G a u v.2 F->Fp S U H v.1 F->Q u a
 |.ex x=>∀a,aC H a->JL X O x a
def JZ(G:Gx)(X:Cx)(c:Ek):TE:=λO H Q=>∃S U r,SR G S U O H/\c U=Y r/\Nk G X S U O H Q r
def GH(G:Gx)(X:Cx)(S:Ac)(U:VS.Env)(H:Hp)(D:Ends):CL->Prop
 |.ok o=>jd G S U H D o
 |.ex x b=>∀d e a,SR G d b e a->Ao S U H d b a->JL X e x a
def FU(G:Gx)(X:Cx)(c:AA):TS:=λD O H=>∃S U o,SR G S U O H/\c U=Y o/\GH G X S U H D o
def PVX(G:Gx)(X:Cx)(e:Expr)(c:Ek):Prop:=PE X e (JZ G X c)
def PSX(G:Gx)(X:Cx)(a:Stmt)(c:AA):Prop:=PS X a (FU G X c)
def gD(G:Gx)(X:Cx)(a:List Stmt)(c:AA):Prop:=PSs X a (FU G X c)
noncomputable def sL(c:Sx):AA:=λU=>(c U).map .ok
noncomputable def iz(a b:AA):AA:=λU=>(a U).bind λo=>match o with
 |.ok (.nx d)=>b d
 |o=>Y o
def Dp(t:Ex)(a b:AA):AA:=λU=>(t U).bind λx=>(En x.2).bind λr=>if r then a U else b U
noncomputable def G1(c:Ek):Ex:=λU=>match c U with
 |some (.ok v)=>Y v
 |_=>Z
def DF(a:Ex->Sx)(c:Ek):AA:=λU=>(c U).bind λr=>match r with
 |.ok _=>(a (G1 c) U).map .ok
 |.ex x=>Y (.ex x U)
noncomputable def CM(g:Cq):Fn:=λa=>match g a with
 |some (.ok v)=>Y v
 |_=>Z
def fg(g:Cq)(a:As):Ek:=λU=>(a U).bind λl=>(g (trees l)).bind λr=>match r with
 |.ok _=>(aX (CM g) a U).map .ok
 |.ex x=>Y (.ex x)
noncomputable def Df(d e:Nat)(a:AA):Cq:=λb=>if b.length=d then
 (a (b.map (λt=>Y (.pu t))++List.replicate (e-d) Z)).bind λo=>match o with
  |.ok (.rt v _)=>Y (.ok v)
  |.ok (.nx _)=>Y (.ok (.fr,.non))
  |.ex x _=>Y (.ex x)
  |_=>Z else Z
def FY(G:Gx)(h:Wx)(g:Cq):Sp:=λf H Q E=>∃b e r,xa G H f b e/\g b=Y r/\(match r with
 |.ok v=>∀u a F,aC H a->Rp G a u v.2 F->x4 H e v.1 F->Q u a
 |.ex x=>∀cls d a,h x.nm=Y cls->Dd a x.c d->aC H a->E cls d a)
section
variable{st:Stmt}
theorem GH.back(f:Ao S U H i d j):∀{o:CL},GH G X S U H D o->GH G X i d j D o
 |.ok _,h=>jd.back f h
 |.ex _ _,h=>λl m n s g=>h l m n s (f.trans g)
def vq{X:Cx}(h:PSV G X.Bs st c):PSX G X st (sL c):=λd s O H D I i=>by
 obtain⟨S,U,o,f,e,k⟩:=i;obtain⟨g,e1,rfl⟩:=z9.mp e;exact ZP (h d s O H D (I.AG _) ⟨S,U,g,f,e1,k⟩) (λ_ _ q=>q.Ag) λ_ _ z=>False.elim z
def gy{X:Cx}(h:gc G X.Bs Ct c):gD G X Ct (sL c):=λd s O H D I i=>by
 obtain⟨S,U,o,f,e,k⟩:=i;obtain⟨g,e1,rfl⟩:=z9.mp e;exact ZP (h d s O H D (I.AG _) ⟨S,U,g,f,e1,k⟩) (λ_ _ q=>q.Ag) λ_ _ z=>False.elim z
def nG(h:PSX G X st a):gD G X [st] a:=aD h
def jB(l:PSX G X st a)(j:gD G X Ct b):gD G X (st :: Ct) (iz a b):=PSs.weak (ig l j) λD O H i=>by
 obtain⟨S,U,o,s,e,k⟩:=i;obtain⟨g,e1,e2⟩:=zZ.mp e;refine⟨S,U,g,s,e1,?_⟩;cases g with
 |ex x d=>cases e2;exact k
 |ok g =>
  cases g with
  |nx d=>exact λm n q h f=>⟨m,d,o,h,e2,k.back f⟩
  |rt v d=>cases e2;exact k
  |bk d=>cases e2;exact k
  |ct d=>cases e2;exact k
def xO{X:Cx}(h:Cp G X.Bs t d)(j:gD G X A a)(i:gD G X B b):PSX G X (.If t A B pos) (Dp d a b):=PS.weak (u9 (PT.Bs h) j i) λD O H g=>by
 obtain⟨S,U,o,s,e,k⟩:=g;obtain⟨⟨m,x⟩,l,e1⟩:=zZ.mp e;obtain⟨f,n,e2⟩:=zZ.mp e1;refine⟨S,U,m,x,f,s,l,n,λq e3=>?_⟩;cases f with
 |true =>
  rw[Zq M]at e2;exact oF ⟨S,U,o,s.same e3,e2,k.back (Ao.same e3)⟩
 |false =>
  rw[Zl Zp]at e2;exact n6 ⟨S,U,o,s.same e3,e2,k.back (Ao.same e3)⟩
def vg(h:PVX G X e ce):PV G X e (G1 ce):=PE.weak h λO H Q f=>by
 obtain⟨S,U,m,r,s,e,k⟩:=f;unfold G1 at e;split at e
 ·rename_i v d;cases e;exact⟨S,U,.ok (m,r),s,d,k⟩
 ·cases e
def zG{G:Gx}{X:Cx}{e:Expr}{ce:Ek}{i:Ex->Sx}{W:TE->TS}{R:Ends->L2.St->VK}(h:PVX G X e ce)(n:∀{c:Ex},PV G X e c->PSV G X st (i c))(m:∀{t:TE},PE X e t->PS X st (W t))(q:∀t D O H,t O H (R D O)->W t D O H):PSX G X st (DF i ce):=λd s O H D I l=>by
 obtain⟨S,U,o,f,e,k⟩:=l;obtain⟨r,e1,e2⟩:=zZ.mp e;cases r with
 |ok v =>
  obtain⟨j,e3,rfl⟩:=z9.mp e2;exact n (vg h) d s O H D I ⟨S,U,j,f,e3,k⟩
 |ex x =>
  cases e2;exact m h d s O H D I (q _ D O H ⟨S,U,.ex x,f,e1,λu g=>k S O u (f.same g) (Ao.same g)⟩)
def rg{pos:Pos}(h:PVX G X e ce)(d:swapsWith e Z pos.line X.env=pure L):PSX G X (.Expr e pos) (DF (λc=>sX (xP c)) ce) :=
 zG h (λq=>wY q d) (λq=>jN q d) λ_ _ _ _ q=>q
def x_call{X:Cx}{M:List Str}(F:FnOk X.prog X.w X.K X.mg X.base (Dn X.prog X.w X.base) k f N M (FY G X.mg g))(hr:Aa k X.A)(hg:Gl X x)(hm:X.mg x=Y (.ref f))(hk:PySem.W.keepIn X.K (.ref f)=J)(hb:Binds X.K N M [])(ha:PVs G X.Bs (e :: es) P)(Au:K2 x)(he:K0 e es X)(Ar:K1 pos es X)(t:X.ex=[]) :
  PVX G X (.Call (.Name x p) (e :: es) [] pos) (fg g P):=by
 refine PE.weak (pE F hr hg hm hk hb (λpos i s O H Q I hw=>ZP (ha pos i s O H Q (I.AG _) hw) (λ_ _ ⟨h,B,I',r,q⟩=>⟨h,B,I'.Ag,r,q⟩) λ_ _ z=>False.elim z) Au he Ar t) λO H Q hq=>?_;refine L2.aw λP_ k_=>?_;obtain⟨S,U,r,s,e,k⟩:=hq;obtain⟨l,el,e1⟩:=zZ.mp e;obtain⟨r0,er,e2⟩:=zZ.mp e1;refine k_ ?_;cases r0 with
 |ok v =>
  obtain⟨D,ev,rfl⟩:=z9.mp e2;obtain⟨S2,U2,l2,s2,MC,k2⟩:=call_of (⟨S,U,D.1,D.2,s,ev,k⟩);refine⟨S2,U2,l2,s2,MC,λh u C o n E=>?_⟩;have k3:BL G (CM g) (h++[]) u Q (XR X O):=k2 h u C o n E;rw[ZL]at k3;obtain⟨R,BQ,m,r,h1,j,h3⟩:=k3;unfold CM at j;split at j
  ·rename_i v' hv;cases j;exact⟨R,BQ,.ok (m,r),h1,hv,h3⟩
  ·cases j
 |ex y =>
  cases e2;refine⟨S,U,l,s,el,λh u C o n E=>⟨trees l,C,.ex y,n,er,λcls d B LQ hd sm=>k B (o.trans sm) cls d LQ hd⟩⟩
end
section
variable{K:Xe}
def fnX(F:AY K x b g f W)(Sq:lp N C (ai g))(hp:C.length=U)(hn:N.length=n)(hb:∀(B:FS)(A:NB)(outer:List PySem.Env)(s:AC)(H:Hp)(E:XK),Aa k (A.deeper (envOfC b (ai g) s.heap.objs.size f B))->gD G (fV (Dn P w base) P w K mg base N b (ai g) f B A outer s H E) (aF g) c) :
  FnOk P w K mg base (Dn P w base) (k+1) f W C (FY G mg (Df U n c)):=by
 refine L2.aw λP_ D=>?_;obtain⟨oc,od,kV,doc,pm,an,B,ct,CN,rfl,lk,O⟩:=F.ex;refine D ?_;refine uS lk O Sq (λvs H Q E h=>?_) λA outer s H vs Q E hr h=>⟨_,hb B A outer s H E hr,?_⟩
 ·obtain⟨ts,Fs,r,R,e,_⟩:=h;unfold Df at e;split at e
  ·rename_i I;rw[R.len.1,I,hp]
  ·cases e
 ·refine L2.aw λP_ D=>?_;obtain⟨ts,Fs,r,R,e,q⟩:=h;refine D ?_;unfold Df at e;split at e
  ·rename_i I;obtain⟨o,e1,e2⟩:=zZ.mp e;have S:=km R n vs.length M;rw[I]at S;have e3:L2.start N vs=vs.map Y++List.replicate (n-vs.length) Z:=by
    unfold L2.start;rw[hn]
   rw[e3];refine⟨_,_,o,S,e1,?_⟩;cases o with
   |ex y p =>
    cases e2;exact λX O' j _ fr cls d hm hd=>yj (q cls d j hm hd λa o h=>(fr.keep a o h bJ).1)
   |ok o =>
    cases o with
    |nx p =>
     cases e2;intro X O' j s' fr;exact q .non j [] (λa o h=>(fr.keep a o h bJ).1) .non ⟨XA,λa h=>nomatch h⟩
    |rt v p =>
     cases e2;intro u j F' X O' s' fr r' l;refine q u j F' (λa o h=>(fr.keep a o h bJ).1) r' ?_;obtain⟨m,t⟩:=v;cases m with
     |fr=>exact⟨l.1,λa i=>(l.2 a i).elim id λz=>absurd z bJ⟩
     |pu=>exact λa i=>(l a i).elim .inl λz=>z.elim (λz=>.inr (fA (H:=H) (vs:=vs) z)) λz=>absurd z bJ
     |bo=>exact λa i=>(l a i).elim .inl λz=>z.elim (λz=>.inr (fA (H:=H) (vs:=vs) z)) λz=>absurd z bJ
    |bk p=>cases e2
    |ct p=>cases e2
  ·cases e
def oK{G:Gx}{P:KM}{w:NG}{mg:Wx}{base:NF}{f:FM}{p:KF}{n:List Str}{k:Nat}{g:Cq}(F:FnOk P w K mg base (Dn P w base) k f p n (FY G mg g)):FnOk P w K mg base Bu k f p n (BL G (CM g)) where
 len:=λb H Q E h=>by
  obtain⟨d,l,m,r,j,a,q⟩:=h;unfold CM at a;split at a
  ·rename_i v i;cases a;exact F.len b H Q (λ_ _ _=>False) ⟨d,l,.ok (m,r),j,i,q⟩
  ·cases a
 run:=λA outer s H args u b Q E B D C r h=>by
  obtain⟨d,l,m,t,j,a,q⟩:=h;unfold CM at a;split at a
  ·rename_i v i;cases a;refine YN (F.run A outer s H args u b Q (λ_ _ _=>False) B D C r ⟨d,l,.ok (m,t),j,i,q⟩) λx I o=>?_;cases x with
   |error e =>
    refine L2.aw λM y=>?_;obtain⟨_,_,_,_,_,_,_,_,_,_,_,z⟩:=o;refine y ?_;exact z
   |ok f=>cases f<;>exact o
  ·cases a
structure FnXt(P:KM)(w:NG)(K:Xe)(mg:Wx)(base:NF)(k:Nat)(x:Str)(ps:List Str)(G:Gx)(g:Cq):Prop where
 ex:∃f fd,FnOk P w K mg base (Dn P w base) k f fd ps (FY G mg g)/\mg x=some (.ref f)/\PySem.W.keepIn K (.ref f)=true/\Binds K fd ps []
def FnXt.plain(F:FnXt P w K mg base k x a G g):FnAt P w K mg base k x a G (CM g):=by
 obtain⟨f,fd,h,e,d,b⟩:=F.ex;exact⟨f,fd,oK h,e,d,b⟩
end
end VS
end
section
namespace XN
open PySem PySem.Spec PyProof.Rows L2
section
def mw(I:Inv X pins O H s)(m:Mv g H fs s.heap h')(d:CY X pins g s.heap)(y:∀b∈fs,b∈AN X.stack):Inv X pins O H { s with heap:=h' }:=by
 have sub:=λb f=>Zz.mp (I.A1 b (y b f));have cellK:∀c v,s.heap.IsCell c v->h'.IsCell c v:=λc v E=>by
  obtain⟨o,F,hd⟩:=E;obtain⟨A,q⟩:=m.slot c o F λQ z=>by rw[hd]at z;cases z
  exact⟨_,q,hd⟩
 refine⟨I.ok,I.os,I.bare,⟨λb o e n f h=>?_,λb o e n f h=>?_,I.base.free,λb o e h=>?_,I.base.AM,I.base.AJ,I.base.AH⟩,?_,λx c e=>?_,I.free,I.Af,λp w=>?_,p9 I.td m λb f=>I.AX b (y b f),I.len⟩
 ·exact m.keep b o (I.base.keep b o e n f h) (.inl (d.old b o e)) λz=>(sub b z).elim ((λb o e=>Zo (Zh (Zt e) I.ok.above)) b o e) f
 ·obtain⟨A,e1⟩:=I.base.slot b o e n f h;obtain⟨_,R,t,j⟩:=I.Ax.mem f;rw[e1]at t;cases t;obtain⟨P,B⟩:=m.slot b _ e1 j;exact⟨P,B⟩
 ·obtain⟨C,e1⟩:=I.base.there b o e h;exact m.there b C e1
 ·obtain⟨D,G,M⟩:=I.loc;refine⟨D,Heap.UpToSlots.ns m.slot G,λi x v e1 e2 e3=>?_⟩;obtain⟨u,r,l⟩:=M i x v e1 e2 e3;refine⟨u,r,?_⟩;rcases l with l | ⟨k,c,e,z⟩
  ·exact .inl l
  ·exact .inr ⟨k,c,e,cellK c _ z⟩
 ·obtain⟨v,z⟩:=I.cell x c e;exact⟨v,cellK c v z⟩
 ·obtain⟨e,n,ne,j,N⟩:=I.pin p w;exact⟨m.keep p.1 p.2 e (.inl (d.pin p w)) λz=>(sub _ z).elim ne j,n,ne,j,N⟩
def nV(I:Inv X pins O H s)(d:CY X pins g s.heap)(t:g.get? a=Z)(D:H a=Z)(he:s.heap.get? a=Y i)(w:i.data=.fields A):Inv X pins O (upd H a (.frz i (.own a))) s:=by
 have ne:∀b o,H b=Y o->b≠a:=λb o e z=>by rw[z,D]at e;cases e
 refine⟨I.ok,I.os,I.bare,⟨I.base.keep,I.base.slot,λb o e n C=>?_,I.base.there,λb j e=>?_,λb o u e=>?_,λb B e=>?_⟩,I.loc,I.cell,?_,λx c e=>?_,λp l=>?_,λb o e=>?_,I.len⟩
 ·rw[ak λz=>d.old b o e (by rw[z];exact t)];exact I.base.free b o e n C
 ·have:=I.base.AM b j e;rw[ak (ne b _ this)];exact this
 ·have:=I.base.AJ b o u e;rw[ak (ne b _ this)];exact this
 ·have:=I.base.AH b B e;rw[ak (ne b _ this)];exact this
 ·rw[ak (λz=>by
  obtain⟨m,⟨o,E,F,f,h,_⟩,_⟩:=I.loc;rw[z,he]at f;cases f;rw[w]at h;cases h)]
  exact I.free
 ·rw[ak λz=>by
   obtain⟨v,o,f,h⟩:=I.cell x c e;rw[z,he]at f;cases f;rw[w]at h;cases h]
  exact I.Af x c e
 ·obtain⟨e,n,r⟩:=I.pin p l;exact⟨e,by rw[ak λz=>d.pin p l (by rw[z];exact t)];exact n,r⟩
 ·by_cases y:b=a
  ·subst y;rw[av]at e;cases e;exact⟨he,⟨i,he⟩⟩
  ·rw[ak y]at e;refine(I.td b o e).A2 (λ_ _ _ q=>q) (λc q=>?_) (λc j q=>?_) λc _ _ q=>?_
   ·rw[ak (ne c _ q)];exact q
   ·rw[ak (ne c _ q)];exact q
   ·rw[ak (ne c _ q)];exact q
def name_goes(I:Inv X pins O H s)(W:X.N.Nodup)(F:X.N[j]?=Y n)(D:X.env.scope.names.lookup n=Y .local)(h:∀S,Inv X pins (O.set j Z) H S->Q () S) :
  GM (Da X.prog X.w) A (do bindName X.env n .none;unbindBehindTheSuite X.env n G) Q E s:=by
 have U:X.env.kindOf n=Y .local:=D;have D1:(X.env.scope.kind == .class||(X.env.scope.kind == .module&&X.env.locals != X.env.globals))=L:=by rw[I.ok.kind];rfl
 refine zY (wpAny_bindName (fG I W F (.inl D) (v:=V.non) M (λR d=>?_) (.inr D)));refine wpAny_onRaise ?_;refine zY (wpAny_point (zY ?_));unfold deleteName;simp only[U,D1];rw[Zl (by decide)];obtain⟨m,hn,Jc⟩:=id d.loc;have Jg:j<O.length:=by rw[I.len];exact(Zs.mp F).1
 have mn:(m n).isSome=J:=by
  obtain⟨u,r,l⟩:=Jc j n .non F (by rw[Ym Jg]) (.inl D);rcases l with⟨_,l⟩ | ⟨k,_⟩
  ·rw[l];rfl
  ·rw[U]at k;rcases k with k | k<;>cases k
 refine zY (wpAny_nsDel_keeps hn λh2 v Gk A5=>?_);rw[mn];refine z8 (wpAny_point (h _ ?_));have t:=λb C=>A5.2 b C;have th:∀b o,R.heap.get? b=Y o->∃y,h2.get? b=Y y:=λb o e=>by
  by_cases z:b=X.env.locals
  ·subst z;obtain⟨y,_,_,q,_⟩:=Gk;exact⟨y,q⟩
  ·exact⟨o,(t b z).trans e⟩
 have E2:∀b o,X.s₀.heap.get? b=Y o->b≠X.env.locals:=λb o e=>Zo (Zh (Zt e) I.ok.above);have cellK:∀x c,X.env.cells.lookup x=Y c->∀v,R.heap.IsCell c v->h2.IsCell c v:=λx c e v hq=>by
  obtain⟨o,ho,hd⟩:=hq;exact⟨o,(t c (I.DC x c e)).trans ho,hd⟩
 refine⟨d.ok,d.os,d.bare,⟨λb o e n C B=>(t b (E2 b o e)).trans (d.base.keep b o e n C B),λb o e n C B=>?_,d.base.free,λb o e B=>?_,d.base.AM,d.base.AJ,d.base.AH⟩,⟨_,Gk,λi x w e1 e2 e3=>?_⟩,λx c e=>?_,d.free,d.Af,λp hp=>?_,(λb o e=>(d.td b o e).A2 (λc u k q=>(t c λz=>by
  have f:=d.free;rw[← z]at f;rcases k with k | k
  ·rw[k,e]at f;cases f
  ·rw[k]at f;cases f).trans q) (λ_ q=>q) (λ_ _ q=>q) λ_ _ _ q=>q),by rw[Yc];exact I.len⟩
 ·obtain⟨sl,q⟩:=d.base.slot b o e n C B;exact⟨sl,(t b (E2 b o e)).trans q⟩
 ·obtain⟨y,q⟩:=d.base.there b o e B;exact th b y q
 ·have P:i≠j:=λz=>by
   subst z;rw[Ym Jg]at e2;cases e2
  rw[Yz (Yq P)]at e2;obtain⟨u,r,l⟩:=Jc i x w e1 (by rw[Yz (Yq P)];exact e2) e3;refine⟨u,r,?_⟩;rcases l with⟨k,l⟩ | ⟨k,c,e,z⟩
  ·refine .inl ⟨k,?_⟩;show (if x=n then v else m x)=Y u;rw[Zl (λz=>by
    subst z;exact P ((List.getElem?_inj (Zs.mp e1).1 W).mp (e1.trans F.symm)))]
   exact l
  ·exact .inr ⟨k,c,e,cellK x c e _ z⟩
 ·obtain⟨v,z⟩:=d.cell x c e;exact⟨v,cellK x c e v z⟩
 ·obtain⟨e,n,ne,r⟩:=d.pin p hp;exact⟨(t _ ne).trans e,n,ne,r⟩
end
noncomputable abbrev Cx.hand(X:Cx)(a:FM):Cx:={ X with A:=X.A.mark (some (.ref a)),calm:=false,xe:=λ_ _=>False }
def j7{s:AC}(I:Inv X b O H s)(a:FM):Inv (Cx.hand X a) b O H s :=
 have ok:=I.ok
 ⟨⟨ok.mod,ok.kind,ok.glob,ok.blt,ok.above,ok.inj,ok.has,ok.Ed,(λz=>nomatch z),ok.frames,ok.CZ,ok.GD,ok.tb,ok.bs,ok.CH,ok.BM,ok.Cf,ok.Ax,ok.De⟩,I.os,I.bare,I.base,I.loc,I.cell,I.free,I.Af,I.pin,I.td,I.len⟩
def dA{X:Cx}(k:X.Ok)(I:Inv (Cx.hand X a) b O H s):Inv X b O H s :=
 ⟨k,I.os,I.bare,I.base,I.loc,I.cell,I.free,I.Af,I.pin,I.td,I.len⟩
end XN
namespace VS
open PySem PySem.Spec PyProof.Rows L2 XN
noncomputable def yx(j:Nat):Out->Out
 |.nx U=>.nx (U.set j Z)
 |.rt v U=>.rt v (U.set j Z)
 |.bk U=>.bk (U.set j Z)
 |.ct U=>.ct (U.set j Z)
noncomputable def Fz:Option Int->List (Nat×T)
 |none=>[]
 |some n=>[(1,.int n)]
theorem Dd.dx(f:aC H b):∀{n:Option Int},Dd H n d->n=Z\/c=0->Dx b c (Fz n) d
 |none,h,_=>by cases (show d=Z from h);exact rfl
 |some n,h,m=>by
  obtain⟨a,g,rfl,e⟩:=h;exact⟨m.elim (λz=>nomatch z) id,g,n,rfl,f _ _ e⟩
def qR(b:AA)(j:Nat)(d:Xn->Option Nat)(e:Sx):Sx:=λU=>(b U).bind λo=>match o with
 |.ok o=>Y o
 |.ex x a=>(d x).bind λc=>if j<a.length then (e (a.set j (Y (.pu (.obj c (Fz x.c)))))).map (yx j) else Z
section
def ze{G:Gx}{X:Cx}{body A0:List Stmt}{cb:AA}{ch:Sx}{j:Nat}{mt:Xn->Option Nat}{y n:Str}{C:FS}{np pos Cz:Pos}(Cc:X.stack=X.env :: X.outer)(CP:X.env.frame=Y X.env.locals)(l:∀(W:Yj)(pn:Xs),gD G { X with xe:=W,pn:=pn } body cb)(hh:∀a,gc G (Cx.hand X a) (b₀ :: A0) ch)(hN:X.N.Nodup)(hj:X.N[j]?=Y n)(hl:X.env.scope.names.lookup n=Y .local)(hm:X.mg y=Y C)(hg:Gl X y)(Au:K2 y)(LO:∀x c,mt x=Y c->(x.c=Z\/c=0)/\X.mg x.nm=Y (.ref (G.ct c).1)/\PySem.W.exmOne X.K (.ref (G.ct c).1) C=Y true) :
  PSV G X (.Try body [.ExceptHandler (Y (.Name y np)) (Y n) (b₀ :: A0) Cz] [] [] pos) (qR cb j mt ch):=λh s O H D I hq=>by
 refine L2.aw λP_ R=>?_;obtain⟨S,U,o,sr,e,k⟩:=hq;refine R ?_;refine wpAny_Try_except ?_;obtain⟨ox,e1,e2⟩:=zZ.mp e;generalize hW:(λ(e:FS) (s₁:AC)=>GM (Da X.prog X.w) X.A (noteFrame e X.env) (λ_ s₂=>GM (Da X.prog X.w) X.A (setFlight e Z) (λ_ s₃=>GM (Da X.prog X.w) X.A (handleBy e X.env [.ExceptHandler (Y (.Name y np)) (Y n) (b₀ :: A0) Cz]) (SP X h D) X.xe s₃) X.xe s₂) X.xe s₁)=W;have back:∀{Bv:Xs}{B:L2.St}{m:Hp}{s':AC},Inv { X with xe:=W,pn:=X.pn++h } Bv B m s'->Inv X h B m s':=λJ=>⟨I.ok,J.os,J.bare,J.base,J.loc,J.cell,J.free,J.Af,λp hp=>J.pin p (Z9 _ hp),J.td,J.len⟩
 refine ZP (l W (X.pn++h) [] s O H D (⟨⟨I.ok.mod,I.ok.kind,I.ok.glob,I.ok.blt,I.ok.above,I.ok.inj,I.ok.has,I.ok.Ed,I.ok.hd,I.ok.frames,I.ok.CZ,I.ok.GD,I.ok.tb,I.ok.bs,I.ok.CH,I.ok.BM,I.ok.Cf,I.ok.Ax,I.ok.De⟩,I.os,I.bare,I.base,I.loc,I.cell,I.free,I.Af,λp hp=>I.pin p (by simpa using hp),I.td,I.len⟩) ⟨S,U,ox,sr,e1,?_⟩) (λf s1 P=>?_) λ_ _ z=>z
 ·cases ox with
  |ok o1 =>
   cases e2;exact k
  |ex x U1 =>
   obtain⟨c,ec,e3⟩:=zZ.mp e2;split at e3
   rotate_left
   ·cases e3
   rename_i L1;refine L2.aw λP_ R=>?_;obtain⟨o2,e4,rfl⟩:=z9.mp e3;obtain⟨mz,mx,me⟩:=LO x c ec;refine R ?_;intro S' B m J9 fr cls dd D1 Mf Bv s1 a g J dm F;cases (mx.symm.trans D1);have J1:=back J;have Q:CY X h g s1.heap:=⟨dm.old,λp hp=>dm.pin p (Z9 _ hp),dm.new⟩
   have CZ:=J1.stack;have Ju:=J1.ok.frames;rw[Cc]at CZ Ju;rw[← hW];refine mU (g:=g) (H:=m) Ju CZ CP (.inl M) Q.new (λb l=>J1.td.fresh l) F λh1 m1 f1=>?_;have J2:=mw J1 m1 Q (λb l=>by rw[Cc];exact l);have Jz:CY X h g h1:=⟨Q.old,Q.pin,λb l=>Q.new b (Zu m1.sz l)⟩
   refine fZ (fs:=L2.AN X.stack) f1 λh2 m2 f2=>?_;have J3:=mw J2 m2 Jz λb l=>l;have Jy:CY X h g h2:=⟨Q.old,Q.pin,λb l=>Jz.new b (Zu m2.sz l)⟩
   refine L2.aw λP_ R=>?_;obtain⟨ga,Ha,oe,vs,he,⟨hc,Dv⟩,hd,_,_⟩:=id f2;refine R ?_;refine wpAny_handleBy_cons (codeAny_handlers_test (eL (j7 J3 a) hg hm ?_ Au)) (λz=>nomatch z);refine(PySem.W.exm_one J3.AE (hc ▸ (PySem.W.Looks.ld he).andThen .now) me) _ _ _ _ (λ_ _ q=>q) ?_;refine codeAny_handlers_suite_as ?_;refine fZ (fs:=L2.AN X.stack) f2 λh3 m3 f3=>?_;refine L2.aw λP_ R=>?_;obtain⟨ga,Ha,oe,vs,he,⟨hc,Dv⟩,hd,_,_⟩:=f3;refine R ?_;have J5:=nV (mw (s:={ s1 with heap:=h2 }) J3 m3 Jy λb l=>l) (⟨Q.old,Q.pin,λb l=>Jy.new b (Zu m3.sz l)⟩) ga Ha he hd;refine fG J5 hN hj (.inl hl) (v:=V.ref a) M (λs4 J6=>?_) (.inr hl);have sm:aC m (upd m a (.frz oe (.own a))):=λb o q=>by
    rw[ak λz=>by rw[z,Ha]at q;cases q];exact q
   have f5:Ao S U H (iu S' j []) (U1.set j (Y (.pu (.obj c (Fz x.c))))) (upd m a (.frz oe (.own a))):=fr.trans ⟨λb o q nw=>⟨sm b o q,λz=>by
     rcases ff z with⟨_,z,_⟩ | z
     ·cases z
     ·exact nw z⟩,λb q z=>q ((sm.free z)),λb z=>by
     rcases ff z with⟨_,z,_⟩ | z
     ·cases z
     ·exact .inl z,λb z=>by
     rcases jr z with⟨_,_,z⟩ | z
     ·cases z
     ·exact .inl z,Kept.of sm⟩
   have off:∀{E:VS.Env}{t:Ac}{i:L2.St}{d:Hp},SR G t E i d->j<E.length->SR G t (E.set j Z) (i.set j Z) d:=λq Cd=>(q.drop j).any (by rw[Ym Cd]) Z;have Hg:∀{E:VS.Env}{t:Ac}{i:L2.St}{d:Hp},SR G t E i d->i.length=X.N.length->SR G t (E.set j Z) (i.set j Z) d:=λq hlen=>off q (by rw[q.len,hlen];exact(Zs.mp hj).1);refine ZP (hh a h s4 _ _ { nx:=λi d=>i.length=X.N.length->D.nx (i.set j Z) d,rt:=λv d=>D.rt v d,bk:=λi d=>i.length=X.N.length->D.bk (i.set j Z) d,ct:=λi d=>i.length=X.N.length->D.ct (i.set j Z) d } (j7 J6 a) ⟨_,_,o2,((J9.same sm).put (c:=.pu (.obj c (Fz x.c))) L1 (.exc (av ..) ⟨hc,by rw[Dv];exact Mf.dx sm mz,vs,hd⟩) (λ_ _ _ _ _ q=>q) (λ_ z=>nomatch z) (λ_ z=>nomatch z) λ_ _ _ _ _ _ z=>nomatch z),e4,?_⟩) (λf s6 P=>?_) λ_ _ z=>False.elim z
   ·cases o2 with
    |nx E=>exact λt i d q D8 hlen=>k t _ d (Hg q hlen) ((f5.trans D8).trans (Ao.drop j))
    |bk E=>exact λt i d q D8 hlen=>k t _ d (Hg q hlen) ((f5.trans D8).trans (Ao.drop j))
    |ct E=>exact λt i d q D8 hlen=>k t _ d (Hg q hlen) ((f5.trans D8).trans (Ao.drop j))
    |rt v E=>exact λu d F2 t i q D8 r rf=>k u d F2 t _ (q.drop j) ((f5.trans D8).trans (Ao.drop j)) r (rf.back f5)
   ·cases f with
    |next =>
     obtain⟨i,d,J,q⟩:=P;exact name_goes (dA I.ok J) hN hj hl λs' J'=>⟨_,d,J',q J.len⟩
    |brk =>
     obtain⟨i,d,J,q⟩:=P;exact name_goes (dA I.ok J) hN hj hl λs' J'=>⟨_,d,J',q J.len⟩
    |cont =>
     obtain⟨i,d,J,q⟩:=P;exact name_goes (dA I.ok J) hN hj hl λs' J'=>⟨_,d,J',q J.len⟩
    |ret u =>
     obtain⟨v,i,d,J,r,q⟩:=P;exact name_goes (dA I.ok J) hN hj hl λs' J'=>⟨v,_,d,J',r,q⟩
 ·cases f with
  |next =>
   obtain⟨B,m,J,q⟩:=P;exact X4 ⟨B,m,back J,q⟩
  |brk=>obtain⟨B,m,J,q⟩:=P;exact⟨B,m,back J,q⟩
  |cont=>obtain⟨B,m,J,q⟩:=P;exact⟨B,m,back J,q⟩
  |ret u=>obtain⟨v,B,m,J,r,q⟩:=P;exact⟨v,B,m,back J,r,q⟩
end
end VS
end
section
namespace XN
open PySem PySem.Spec PyProof.Rows L2 PySem.W
section
variable{K:Frag}
structure B6(K:Frag)(D:FM):Prop where
 ga:findIn K (.ref D) "__getattribute__" = some (some (.builtin "BaseException.__getattribute__"))
 gn:findIn K (.ref D) "__getattr__" = some none
 cl:∀od,findObj K D od "__class__" = some (.bind (.builtin "getset_descriptor.__get__") (.builtin "object.__class__"))
 mo:mroIn K D (.type "object")=some true
 mb:mroIn K D (.type "BaseException")=some true
def ky{M:Model}(l:Looks M h (isInstance (.ref a) (.type "BaseException")) J)(i:Q () ⟨h,g,d,t,b⟩):GM M A (checkBuiltinCall "BaseException.__getattribute__" ⟨[.ref a,f],[]⟩) Q E ⟨h,g,d,t,b⟩:=by
 have m:builtinKind "BaseException.__getattribute__" = Y .slot:=by decide +kernel
 have n:splitId "BaseException.__getattribute__" = Y ("BaseException", "__getattribute__"):=by decide +kernel
 have e:=F.args_bexc_ga (.ref a) f;refine zY (l.at ?_);rw[Zl (by decide)];unfold argsOk at e;cases j:Manifest.signature? "BaseException.__getattribute__" with
 |none=>exact z8 i
 |some sig =>
  rw[j]at e;exact((congrArg (λz=>GM M A z Q E ⟨h,g,d,t,b⟩) e).mpr (z8 i))
def nU{s:AC}(C:B6 K D)(X:K.In s.heap)(I:InstAt s.heap a oe D e)(h:Q (Y (.ref D)) { s with toks:=s.toks+1 }):GM (Da prog w) A (getAttr? (.ref a) "__class__") Q E s:=by
 obtain⟨i,g,d,t,os⟩:=s;have b:=I.type (M:=Da prog w);have f:(Value.builtin "BaseException.__getattribute__" == Value.builtin "object.__getattribute__")=L:=by decide +kernel
 refine zY (wpAny_mkText (zY (wpAny_attempt (ZG (zY (b.at (zY ((X7 (M:=Da prog w) X C.ga).at ?_))))))));dsimp only;rw[f,Yy,Zl Zp];unfold getAttrByItsOwn hookBefore callGetattribute;rw[Zq (show onTheHeap (Value.ref D)=J from rfl)];refine zY ((X7 (M:=Da prog w) X C.gn).at (zY (wpAny_attempt (ZG ?_))));rw[Y7,Zl Zp];unfold boundAndCalled;rw[((Y1).ga.bind (.ref a))];refine zY (z8 ?_);refine Xz (YE (Y1).ga.plain F.entry_bexc_ga (ky (b.andThen (looks_mroIn (M:=Da prog w) X C.mb)) ?_));refine zY (z8 ?_);refine zY (z8 (zY (b.at (zY ((looks_find (M:=Da prog w) X I (C.cl e)).at ?_)))));refine zY (ZG (Xz (class_get X I C.mo (z8 ?_))));exact handed_on rfl (z8 h)
def fB{od:Option Obj}(C:B6 K D):KitX K (.ref a) (.ref D) (λh=>InstAt h a oe D od):=by
 obtain⟨cd,b,_⟩:=zZ.mp C.mo;have at_:∃f e g,K.lookup D=Y ⟨f,e,.cls cd,g⟩:=by
  unfold clsIn at b;split at b
  ·rename_i f e t g d;cases b;exact⟨f,e,g,d⟩
  ·cases b
 obtain⟨f,e,g,d⟩:=at_
 refine⟨λ_ _ _ I=>I.type,λ_ _ X _ v r u m k q=>?_,λh j o p n l X i=>?_,λX I k=>nU C X I k⟩
 ·exact zY (wpAny_loadPart (k _ _ (X _ _ d)) (z8 q))
 ·refine Bool.eq_false_iff.mpr λq=>?_;cases Value.ref.inj (beq_iff_eq.mp q);rw[X _ _ d]at i;cases i
end
end XN
namespace VS
open PySem PySem.Spec PyProof.Rows L2 XN
noncomputable def HZ:T->Option Nat
 |.obj c []=>Y c
 |.obj c [(1,.int _)]=>Y c
 |_=>Z
def pw(r:Rp G H v t F)(e:HZ t=Y c):∃a o,v=.ref a/\H a=Y (.frz o (.own a))/\o.cls=.ref (G.ct c).1/\Do H o/\∃g,o.data=.fields g:=by
 unfold HZ at e;split at e
 ·cases e;generalize d:T.obj c []=z at r;cases r with
  |exc f b=>cases d;exact⟨_,_,rfl,f,b.1,b.2.1.do,b.2.2⟩
  |_=>cases d
 ·cases e;rename_i n;generalize d:T.obj c [(1,T.int n)]=z at r;cases r with
  |exc f b=>cases d;exact⟨_,_,rfl,f,b.1,b.2.1.do,b.2.2⟩
  |_=>cases d
 ·cases e
def iB(a:Nat->Option Bool)(d:Ex):Ex:=λU=>(d U).bind λv=>(HZ v.2).bind λc=>(a c).map λb=>(.fr,.bl b)
def zu(K:Xe)(u:V)(c:FS):List V->Hp->VK->Prop:=λd H Q=>∃a o D b,d=[.ref a,u]/\H a=Y (.frz o (.own a))/\(o.cls=.ref D/\Do H o/\∃d,o.data=.fields d)/\B6 K D/\PySem.W.kitOne K (.ref D) c=Y b/\Q (.bl b) H
section
def qK(p:∀z,RelV u z->z=c):bV X (.builtin "isinstance") (zu X.K u c):=by
 intro g s O H v B Q I r h;refine L2.aw λF n=>?_;obtain⟨a,o,D,b,rfl,t,⟨l,f,A,j⟩,C,e,q⟩:=h;obtain⟨E,w,rfl,r1,r2⟩:=vals2 r;cases (r1);cases p _ r2;obtain⟨i,_⟩:=(I.td a _ t)
 refine n ?_;rcases f with f | ⟨d,od,y,f,hd⟩
 ·exact ZF (fB (od:=Z) C) I.AE ⟨i,l,by unfold PySem.W.notCls;rw[j],by rw[f];trivial⟩ e (λz=>nomatch z) λm=>⟨.bl b,H,I.tok _,rfl,q⟩
 ·exact ZF (fB (od:=Y od) C) I.AE ⟨i,l,by unfold PySem.W.notCls;rw[j],by rw[f];exact(I.td d _ hd).1⟩ e (λz=>nomatch z) λm=>⟨.bl b,H,I.tok _,rfl,q⟩
def oQ(r:PV G X a ca)(d:PE X (.Name x p2) (L2.tC u))(l:∀z,RelV u z->z=c)(hK:X.K=G.K)(q:Gl X "isinstance")(p:X.mg "isinstance" = Z)(I:∀k b,tb k=Y b->B6 X.K (G.ct k).1/\PySem.W.kitOne X.K (.ref (G.ct k).1) c=Y b)(f:KB [a,.Name x p2] X.env=(L,eval a X.env) :: KB [.Name x p2] X.env)(P:KB [.Name x p2] X.env=(L,eval (.Name x p2) X.env) :: KB [] X.env)(N:(backTo pos (KB [Expr.Name x p2] X.env)).any (·.1)=L) :
  PV G X (.Call (.Name "isinstance" p1) [a,.Name x p2] [] pos) (iB tb ca) :=
 PE.weak (dW (qK l) q p boot_isinstance (bH r (bH d dq P) f) (by decide) M f N) λO H Q o=>by
  refine L2.aw λP_ j=>?_;obtain⟨S,U,m,t,s,e,k⟩:=o;obtain⟨⟨i,y⟩,C,D⟩:=zZ.mp e;refine j ?_;obtain⟨n,d,e3⟩:=zZ.mp D;obtain⟨b,B,e2⟩:=z9.mp e3;cases e2;obtain⟨A,w⟩:=I _ _ B;refine⟨S,U,i,y,s,C,λv E F e1 r1 f1=>?_⟩;obtain⟨a1,R,rfl,h,g⟩:=pw r1 d;exact⟨_,_,_,b,rfl,h,g,A,w,k _ E _ e1 (.bl _) Fp.nil⟩
def yu(g:PV G X a ca)(l:Gl X x)(m:X.mg x=Y (.ref D))(n:K2 x)(i:X.K=G.K)(f:Gl X "isinstance")(e:X.mg "isinstance" = Z)(j:∀k b,tb k=Y b->B6 X.K (G.ct k).1/\PySem.W.kitOne X.K (.ref (G.ct k).1) (.ref D)=Y b)(d:KB [a,.Name x p2] X.env=(L,eval a X.env) :: KB [.Name x p2] X.env)(p:KB [.Name x p2] X.env=(L,eval (.Name x p2) X.env) :: KB [] X.env)(o:(backTo pos (KB [Expr.Name x p2] X.env)).any (·.1)=L) :
  PV G X (.Call (.Name "isinstance" p1) [a,.Name x p2] [] pos) (iB tb ca):=oQ (u:=.ref D) g (jJ l m M n) (λ_ h=>h) i f e j d p o
def wa(i:PV G X a ca)(m:Gl X x)(p:X.mg x=Z)(d:bootBuiltins x=Y (.type n))(o:x ≠ "__name__")(q:K2 x)(j:X.K=G.K)(g:Gl X "isinstance")(f:X.mg "isinstance" = Z)(l:∀k b,tb k=Y b->B6 X.K (G.ct k).1/\PySem.W.kitOne X.K (.ref (G.ct k).1) (.type n)=Y b)(e:KB [a,.Name x p2] X.env=(L,eval a X.env) :: KB [.Name x p2] X.env)(s:KB [.Name x p2] X.env=(L,eval (.Name x p2) X.env) :: KB [] X.env)(r:(backTo pos (KB [Expr.Name x p2] X.env)).any (·.1)=L) :
  PV G X (.Call (.Name "isinstance" p1) [a,.Name x p2] [] pos) (iB tb ca):=oQ (u:=.ty n) i (m6 m p d M o q) (λ_ h=>h) j g f l e s r
end
end VS
end
section
namespace VS
open PySem PySem.Spec PyProof.Rows L2 XN PySem.F
def Ge(n:Str):Xn->Option Nat:=λx=>if x.nm=n then Y 0 else Z
def AB(K:Xe)(C:FM):Gx:=⟨K,λ_=>(C,λk=>⟨#[k]⟩),λ_=>Z⟩
def sd(K:Xe)(C:FM):wy (AB K C):=λc k a h=>sC K c k a h
section
variable{st:Stmt}
def nF{X:Cx}(F:FnXt X.prog X.w X.K X.mg X.base k x ps G b)(d:Aa k' X.A)(i:PVs G X.Bs (e :: es) cs)(g:k<=k')(h:Gl X x)(o:K2 x)(he:K0 e es X)(q:K1 pos es X)(a:X.ex=[]):PVX G X (.Call (.Name x p) (e :: es) [] pos) (fg b cs):=by
 obtain⟨f,fd,n,m,l,j⟩:=F.ex;exact x_call n (d.mono g) h m l j i o he q a
def pL{X:Cx}(j:Nat)(B:X.stack=X.env :: X.outer)(D:X.env.frame=Y X.env.locals)(v:∀W pn,gD G { X with xe:=W,pn:=pn } b f)(t:∀a,gc G (Cx.hand X a) (g :: i) d)(w:X.N.Nodup)(s:X.N[j]?=Y n)(r:X.env.scope.names.lookup n=Y .local)(q:X.mg y=Y C)(u:Gl X y)(E:K2 y)(m:X.mg z=Y (.ref (G.ct 0).1))(he:PySem.W.exmOne X.K (.ref (G.ct 0).1) C=Y J) :
  PSV G X (.Try b [.ExceptHandler (Y (.Name y l)) (Y n) (g :: i) A] [] [] pos) (qR f j (Ge z) d):=ze B D v t w s r q u E λx c h=>by
 unfold Ge at h;split at h
 ·rename_i o;cases h;exact⟨.inr M,by rw[o];exact m,he⟩
 ·cases h
def xB(b:Bool)(n:PV G X a f)(q:Gl X x)(r:X.mg x=Y (.ref D))(s:K2 x)(o:X.K=G.K)(m:Gl X "isinstance")(l:X.mg "isinstance" = Z)(i:∀k,B6 X.K (G.ct k).1/\PySem.W.kitOne X.K (.ref (G.ct k).1) (.ref D)=Y b)(j:KB [a,.Name x d] X.env=(L,eval a X.env) :: KB [.Name x d] X.env)(u:KB [.Name x d] X.env=(L,eval (.Name x d) X.env) :: KB [] X.env)(t:(backTo pos (KB [Expr.Name x d] X.env)).any (·.1)=L) :
  PV G X (.Call (.Name "isinstance" g) [a,.Name x d] [] pos) (iB (λ_=>Y b) f):=yu n q r s o m l (λk _ h=>by cases h;exact i k) j u t
def xT(b:Bool)(q:PV G X a f)(s:Gl X x)(u:X.mg x=Z)(j:bootBuiltins x=Y (.type n))(t:x ≠ "__name__")(v:K2 x)(r:X.K=G.K)(o:Gl X "isinstance")(m:X.mg "isinstance" = Z)(i:∀k,B6 X.K (G.ct k).1/\PySem.W.kitOne X.K (.ref (G.ct k).1) (.type n)=Y b)(l:KB [a,.Name x d] X.env=(L,eval a X.env) :: KB [.Name x d] X.env)(y:KB [.Name x d] X.env=(L,eval (.Name x d) X.env) :: KB [] X.env)(w:(backTo pos (KB [Expr.Name x d] X.env)).any (·.1)=L) :
  PV G X (.Call (.Name "isinstance" g) [a,.Name x d] [] pos) (iB (λ_=>Y b) f):=wa q s u j t v r o m (λk _ h=>by cases h;exact i k) l y w
end
section
variable{K:Xe}
noncomputable def tF:Fn:=λa=>match a with
 |[.scr _]=>Y (.fr,.bl J)
 |_=>Z
def vG(F:FnOk P w K mg base Bu k f b [y] (BL (AB K C) g))(e:∀ns:Wh,g [.scr ns]=Y (.fr,.bl J)) :
  FnOk P w K mg base Bu k f b [y] (BL (GB K) tF):=F.imp λl H Q E h=>by
 obtain⟨n,o,m,r,i,a,q⟩:=h;unfold tF at a;split at a
 ·rename_i ns;cases a;cases i with
  |cons r1 r2 =>
   cases r2;cases r1 with
   |scr d=>exact⟨[.scr ns],[[]],.fr,.bl J,.cons (.scr d) .nil,e ns,λv j F e1 r f1=>q v j F e1 (by cases r;exact .bl _) f1⟩
 ·cases a
end
end VS
end
section
namespace VS
open PySem PySem.Spec PyProof.Rows L2 XN
section
def zA(K:Xe)(e:List V):List V->Hp->VK->Prop:=λd H Q=>∃a o D f b,d=[.ref a,.ref f]/\H a=Y (.frz o (.own a))/\(o.cls=.ref D/\Do H o/\∃d,o.data=.fields d)/\B6 K D/\H f=Y (.tup e)/\(∀g,aA e g->PySem.W.kitAny K (.ref D) g=Y b)/\Q (.bl b) H
def rE(u:List V):bV X (.builtin "isinstance") (zA X.K u):=by
 intro i s O H P N Q I r h;refine L2.aw λP_ A=>?_;obtain⟨a,o,D,v,b,rfl,E,⟨m,f,S,l⟩,C,B,e,q⟩:=h;obtain⟨U,R,rfl,r1,r2⟩:=vals2 r;cases (r1);cases (r2);obtain⟨j,_⟩:=(I.td a _ E)
 obtain⟨_,t,g,_,x,p,M,n,F⟩:=(I.td v _ B)
 obtain⟨oc,od,Np,CN⟩:=x;subst M;subst F;refine A ?_;rcases f with f | ⟨d,od,y,f,hd⟩
 ·exact PySem.W.kia_tup (fB (od:=Z) C) I.AE ⟨j,m,by unfold PySem.W.notCls;rw[l],by rw[f];trivial⟩ p (e t g) (λz=>nomatch z) λw=>⟨.bl b,H,I.tok _,rfl,q⟩
 ·exact PySem.W.kia_tup (fB (od:=Y od) C) I.AE ⟨j,m,by unfold PySem.W.notCls;rw[l],by rw[f];exact(I.td d _ hd).1⟩ p (e t g) (λz=>nomatch z) λw=>⟨.bl b,H,I.tok _,rfl,q⟩
def yW(b:Bool)(ha:PV G X a E)(HG:PA X f t)(ht:∀O H Q,Q j H->t O H Q)(Hk:j.length<=1000)(hg:Gl X "isinstance")(hm:X.mg "isinstance" = Z)(hx:∀k,B6 X.K (G.ct k).1/\∀D,aA j D->PySem.W.kitAny X.K (.ref (G.ct k).1) D=Y b)(B:KB [a,.Tuple f h i] X.env=(L,eval a X.env) :: KB [.Tuple f h i] X.env)(A5:KB [.Tuple f h i] X.env=(L,eval (.Tuple f h i) X.env) :: KB [] X.env)(Ar:(backTo pos (KB [Expr.Tuple f h i] X.env)).any (·.1)=L) :
  PV G X (.Call (.Name "isinstance" R) [a,.Tuple f h i] [] pos) (iB (λ_=>Y b) E) :=
 PE.weak (dW (rE j) hg hm boot_isinstance (bH ha (bH (qW HG) dq A5) B) (by decide) M B Ar) λO H Q hq=>by
  refine L2.aw λP_ w=>?_;obtain⟨S,U,m,r,s,e,k⟩:=hq;obtain⟨⟨mx,y⟩,ea,e'⟩:=zZ.mp e;refine w ?_
  ·refine L2.aw λP_ w=>?_;obtain⟨n,hn,e3⟩:=zZ.mp e';obtain⟨b',eb,e2⟩:=z9.mp e3;cases e2;cases eb;obtain⟨h1,h2⟩:=hx n;refine w ?_;refine⟨S,U,mx,y,s,ea,λv H' F e1 r1 f1=>ht O H' _ ⟨Zu Hk (by decide),λp x=>?_⟩⟩;obtain⟨a1,o1,rfl,l,P,N,I⟩:=pw r1 hn;exact⟨_,_,_,p,b,rfl,by rw[ak (λz=>by rw[z,x]at l;cases l)];exact l,⟨P,N.imp id λg=>by
    obtain⟨d,od,u,g1,A⟩:=g;exact⟨d,od,u,g1,by rw[ak (λz=>by rw[z,x]at A;cases A)];exact A⟩,I⟩,h1,av ..,h2,k _ _ _ (e1.trans (λc o q=>by rw[ak λz=>by rw[z,x]at q;cases q];exact q)) (.bl _) Fp.nil⟩
end
end VS
end
section
namespace VS
open PySem PySem.Spec PyProof.Rows L2 PySem.Builtin.Str PySem.StrLaws
section
def pH{X:Cx}{f:Xs}{s:AC}{O:L2.St}{H:Hp}{v:V}{R:Yj}{i:Nat}{x:Str}{g:Pos}(B:X.N[i]?=Y x)(q:Cg X.env.scope x)(j:K2 x)(n:K3 x)(I:Inv X f O H s)(e:O[i]?=Y (Y v))(h:∀u,RelV v u->R u s):GM (Da X.prog X.w) X.A (eval (.Name x g) X.env) R X.xe s:=by
 obtain⟨m,t,z⟩:=I.loc;obtain⟨u,r,l⟩:=z i x v B e q;have fin:=h u r;rcases l with⟨d,y⟩ | ⟨d,c,o,p⟩
 ·exact X1 (wpAny_loadName_local I.ok.kind d t y fin) j
 ·rcases d with d | d
  ·exact X1 (wpAny_loadName_cell I.ok.kind d o p fin) j
  ·exact X1 (wpAny_loadName_free I.ok.kind d o p fin n) j
def PEk(X:Cx)(e:Expr)(t:TE):Prop :=
 ∀(d:Xs)(s:AC)(O:L2.St)(H:Hp)(Q:VK),Inv X d O H s->t O H Q->GM (Da X.prog X.w) X.A (eval e X.env) (λu f=>EP X d O Q u f/\0<f.toks) X.xe s
def PEz(X:Cx)(e:Expr)(t:TE):Prop :=
 ∀(d:Xs)(s:AC)(O:L2.St)(H:Hp)(Q:VK),Inv X d O H s->0<s.toks->t O H Q->GM (Da X.prog X.w) X.A (eval e X.env) (EP X d O Q) X.xe s
def sY(s:SR G S U O H)(e:af i U=Y x)(f:x.2=.str z):O[i]?=Y (Y (.str (sx z))):=by
 have key:∀c,U[i]?=Y (Y c)->eT c=.str z->O[i]?=Y (Y (.str (sx z))):=λc h l=>by
  obtain⟨v,g,d⟩:=s.rp i c h;rw[l]at d;rw[g,d.str_inv.1]
 unfold af at e;split at e
 ·rename_i t h;have j:=congrArg Prod.snd (Zc e);exact key _ h (j.trans f)
 ·rename_i t h;cases e;exact key _ h f
 ·cases e
end
end VS
end
section
namespace VS
open PySem PySem.Spec PyProof.Rows L2 XN
section
structure GJ(X:Cx)(C:FM)(es:List Expr)(us:List V):Prop where
 pa:PA X es λ_ H Q=>Q us H
 no:∀cp,aA us cp->PySem.W.kitAny X.K (.ref C) cp=some false
def xq:GJ X C [] []:=⟨λpos a s O H Q I h=>dq pos a s O H Q I h,λb h=>by cases h;rfl⟩
def dP(m:Gl X x)(j:X.mg x=Y (.ref D))(l:PySem.W.kitOne X.K (.ref C) (.ref D)=Y L)(n:K2 x)(i:KB (.Name x p :: b) X.env=(L,eval (.Name x p) X.env) :: KB b X.env)(r:GJ X C b d):GJ X C (.Name x p :: b) (.ref D :: d) :=
 ⟨λpos a s O H Q I h=>bH (jJ (v:=.ref D) m j M n) r.pa i pos a s O H Q I h,λo h=>by
  cases h with
  |cons f g =>
  rename_i u e;cases (f);show (match PySem.W.kitOne X.K (.ref C) (.ref D) with | some true=>some true | some false=>PySem.W.kitAny X.K (.ref C) e | none=>none)=_;rw[l];exact r.no e g⟩
def vz{g:List V}(n:PV G X a h)(o:g.length<=1000)(m:Gl X "isinstance")(l:X.mg "isinstance" = Z)(f:∀k,B6 X.K (G.ct k).1/\GJ X (G.ct k).1 b g)(j:KB [a,.Tuple b d e] X.env=(L,eval a X.env) :: KB [.Tuple b d e] X.env)(r:KB [.Tuple b d e] X.env=(L,eval (.Tuple b d e) X.env) :: KB [] X.env)(p:(backTo pos (KB [Expr.Tuple b d e] X.env)).any (·.1)=L) :
  PV G X (.Call (.Name "isinstance" i) [a,.Tuple b d e] [] pos) (iB (λ_=>Y L) h) :=
 yW L n (f 0).2.pa (λ_ _ _ q=>q) o m l (λk=>⟨(f k).1,(f k).2.no⟩) j r p
end
end VS
end
section
namespace TS
open PySem PySem.Spec PyProof.Rows
def n9(o:∀v∈f,∃x t,v=Value.str x t){d:Array IR}(g:d.Perm (pairsOf f))(p:SortedToK strKind d (pairsOf f).size):((d.map (·.2)).toList.map strOf).Pairwise (λa b=>¬b.cps.toList<a.cps.toList):=by
 obtain⟨n,m⟩:=je g;rw[Xd,List.pairwise_iff_getElem];intro i j hi l r;have key:∀i (h:i<(d.map (·.2)).toList.length),KK strKind d i=(strOf (d.map (·.2)).toList[i]).cps.toList:=λi h=>by
  have e:d[i]?=Y ((d.map (·.2)).toList[i],(d.map (·.2)).toList[i]):=by
   rw[← Ys,← m,ZW,Zm h];rfl
  obtain⟨x,t,ex⟩:=o _ (n.mem_iff.mp (Yh h));unfold KK;rw[e];rw[ex];rfl
 have q:=p i j (Y5 r) (by rw[← g.size_eq];simpa using l);rw[key i hi,key j l]at q;exact of_decide_eq_false q
def jh{A:NB}(q:∀(p:NB)(u:Yj),p.handled=A.handled->GM (Da prog w) p (collect x) (λf d=>(∀v∈f,∃x t,v=Value.str x t)/\f.length<64/\∀(out:Wk)(j:NF)(e:Nat),out.Perm f->(out.map strOf).Pairwise (λa b=>¬b.cps.toList<a.cps.toList)->(∀b o,d.heap.get? b=Y o->j.get? b=Y o)->j.get? d.heap.objs.size=Y (seqObj "list" out.toArray e)->Q (.ref d.heap.objs.size) { d with heap:=j }) u s) :
  GM (Da prog w) A (call (.builtin "sorted") [x]) Q E s:=by
 refine Calls.call_function_entry kind_sorted plain_sorted entry_sorted (args_sorted1 _) (?_);refine zY (z8 (zY (ZP (q A.in1 (λ_ _=>False) M) ?_ λ_ _ e=>e.elim)));rintro m d ⟨g,r,h⟩;refine zY (wpAny_newList ?_ (by rw[Yp];omega));have l:(d.heap.push (seqObj "list" m.toArray 0)).get? d.heap.objs.size=Y (seqObj "list" m.toArray 0):=Zr _ M;refine zY (ZG (XC slot_list_sort ⟨_,l,rfl⟩ entry_list_sort (list_sort_treeK strKind_oneLt l (strsAre_map _ g).keysOf (λB z rest e=>keyKind_strs (by rw[← e];exact strsAre_map _ g)) r λy a1 a2=>⟨_,rfl,?_⟩) (args_list_sort _)));obtain⟨e,he⟩:=sortedHeap_at l;exact z8 ⟨_,rfl,h ((arrOf y).map (·.2)).toList _ e (je a1).1 (n9 g a1 a2) (λb o n=>by
  have i:=Zt n;rw[sortedHeap_old (Zo i) (by rw[size_push'];exact Y3 i),Heap.get?_push_ne _ _ _ (Zo i)];exact n) he⟩
end TS
namespace VS
open PySem PySem.Spec PyProof.Rows L2
noncomputable abbrev ya:=List (Nat×T)
abbrev Mt:=ya->Wc->Option (ya×T)
end VS
end
section
namespace VS
open PySem PySem.Spec PyProof.Rows L2
open Classical in
noncomputable def less(H:Hp)(F:Wl):Hp:=λb=>if b∈F then Z else H b
end VS
end
section
namespace VS
open PySem PySem.Spec PyProof.Rows L2
inductive Ia where | io (i:Nat) (un:Bool) | ex (c:Ex)
abbrev Xt:=VS.Env->Option (Bool×VS.Env)
end VS
end
section
namespace VS
open PySem PySem.Spec PyProof.Rows L2
def x2(f:Val->Val->Wd)(a b:Xx):Xx:=λU=>(a U).bind λz=>(b z.2).bind λw=>(f (.fr,z.1.2) (.fr,w.1.2)).bind λv=>if AU z.1.2=J/\AU w.1.2=J/\AU v.2=J then Y ((.fr,v.2),w.2) else Z
inductive Ix where | io (i:Nat) (un:Bool) | px (x:Xx)
end VS
end
section
namespace VS
open PySem PySem.Spec PyProof.Rows L2
def Iv:T->Bool
 |.tup l=>l.all GS
 |t=>GS t
end VS
end
section
namespace VS
open PySem PySem.Spec PyProof.Rows L2
noncomputable def e3(f:Val->Val->Val->Wd)(a b c:Ex):Ex:=λU=>(a U).bind λx=>(b U).bind λy=>(c U).bind λz=>f x y z
end VS
end
section
namespace L2
open PySem PySem.Spec PyProof.Rows TS
section
def ou(n:Inv X d O H g)(m:∀v∈f,∃x t,v=Value.str x t)(y:f.length<64)(q:∀(l:FM)(j:List Str),H l=Z->j.Perm (f.map strOf)->j.Pairwise (λa b=>¬b.cps.toList<a.cps.toList)->Q (.ref l) (upd H l (.lst (j.map V.str)))) :
  (∀v∈f,∃x t,v=Value.str x t)/\f.length<64/\∀(out:Wk)(i:NF)(e:Nat),out.Perm f->(out.map strOf).Pairwise (λa b=>¬b.cps.toList<a.cps.toList)->(∀b o,g.heap.get? b=Y o->i.get? b=Y o)->i.get? g.heap.objs.size=Y (seqObj "list" out.toArray e)->EP X d O Q (.ref g.heap.objs.size) { g with heap:=i }:=by
 refine⟨m,y,λout s e h p u he=>?_⟩;exact⟨.ref g.heap.objs.size,_,n.laid u (Zy _) (show bG X.prog X.w _ s _ (.lst ((out.map strOf).map V.str)) from⟨(by rw[zT,zT,h.length_eq,Yp];omega),out,e,kO (λv r=>m v (h.mem_iff.mp r)),he⟩),rfl,q _ _ (n.td.fresh (Zy _)) (h.map _) p⟩
def fz{X:Cx}(D:X.calm=J):bV X (.builtin "sorted") (λi H Q=>∃p,∃f:List Str,i=[.ref p]/\H p=Y (tq X.w p f)/\(∀e:List Str,e.Nodup->(∀y,y∈e↔y∈f)->e.length<64) ∧
  ∀(l:FM)(e:List Str),H l=Z->e.Nodup->(∀y,y∈e↔y∈f)->e.Pairwise (λa b=>¬b.cps.toList<a.cps.toList)->Q (.ref l) (upd H l (.lst (e.map V.str)))):=by
 intro j s O H i G Q I v h;refine L2.aw λS z=>?_;obtain⟨p,f,rfl,B,F,q⟩:=h;obtain⟨u,rfl,x⟩:=v.one;cases x;obtain⟨⟨U,P,R,t,T,n⟩,_,_⟩:=I.td p _ B;refine z ?_;refine TS.jh λA' W E=>ST.uc (E.trans (I.ok.hd D)) T λN d M r kp A g=>?_;refine ou ((I.kept kp).drew d) A ?_ λl e C m o=>q l e C (((m.trans g).nodup_iff).mpr T.nd) (λy=>((m.trans g).mem_iff).trans (n y)) o;have:=F (r.map strOf) ((g.nodup_iff).mpr T.nd) λy=>(g.mem_iff).trans (n y);simpa using this
end
end L2
end
section
namespace VS
open PySem PySem.Spec PyProof.Rows L2
def t2:T->Bool
 |.lst l=>l.all Iv
 |t=>Iv t
def t3:T->Bool
 |.tup l=>l.all t2
 |t=>t2 t
end VS
end
section
namespace VS
open PySem PySem.Spec PyProof.Rows L2
section
noncomputable def gp(i:Int):Tx:=(Str.ofString (toString i)).cps.toList
def eW:We->Wd
 |[(_,.int i)]=>if i.natAbs.log2<1920/\DH (gp i)=J then Y (.fr,.str (gp i)) else Z
 |_=>Z
def sE:dj G (λa H Q=>∃i,a=[.int i]/\i.natAbs.log2<1920/\Q (.str (toString i)) H) eW:=by
 intro S U f H l b g m t Q A e k;unfold eW at e;split at e
 ·rename_i d i;split at e
  ·rename_i h;cases e;obtain⟨v,F,rfl,rfl,r⟩:=(A.rp).one;refine⟨i,by rw[r.int_inv],h.1,bg k ?_⟩;have:=Rp.str (G:=G) (H:=H) (gp i) (jo h.2);rw[show sx (gp i)=Str.ofString (toString i) by simp[sx,gp]]at this;exact this
  ·cases e
 ·cases e
def wx:bootBuiltins ("str" : Str)=Y (.type "str"):=by decide +kernel
def jW{X:Cx}(a:X.mg "str" = Z)(d:PVs G X [e] cs)(b:{`q1,Gl X "str"})(f:{`q1,X.calm=J})(he:{`q1,K0 e [] X}):PV G X (.Call (.Name "str" p) [e] [] pos) (eN eW cs) :=
 eK jF sE b a wx d (he:=he)
end
end VS
end
section
namespace L2
open PySem PySem.Spec PyProof.Rows
section
def iG:bV X (.type "int") (λa H Q=>∃x n,a=[.str x]/\x.length<=640/\PySem.intText? x=Y n/\Q (.int n) H):=by
 intro b s O H a f Q I r h;obtain⟨x,n,rfl,d,e,q⟩:=h;obtain⟨u,rfl,t,rfl⟩:=vals1 r;exact PySem.W.KIN.call_text e d ⟨.int _,H,I.tok _,⟨_,rfl⟩,q⟩
end
end L2
namespace VS
open PySem PySem.Spec PyProof.Rows L2
section
def wb(s:Tx):Option Int:=PySem.intText? (sx s)
def eV:We->Wd
 |[(_,.str s)]=>if s.length<=640 then (wb s).map λn=>(.fr,.int n) else Z
 |_=>Z
def sQ:dj G (λd H Q=>∃x n,d=[.str x]/\x.length<=640/\PySem.intText? x=Y n/\Q (.int n) H) eV:=by
 intro S U i H l f j m t Q A e k;unfold eV at e;split at e
 ·rename_i g s;split at e
  ·rename_i h;obtain⟨n,e1,e2⟩:=z9.mp e;cases e2;obtain⟨v,F,rfl,rfl,r⟩:=(A.rp).one;exact⟨sx s,n,by rw[r.str_inv.1],by simpa[sx,PySem.Str.length] using h,e1,bg k (Rp.int n)⟩
  ·cases e
 ·cases e
def jk{X:Cx}(d:X.mg "int" = Z)(g:PVs G X [e] cs)(f:{`q1,Gl X "int"})(he:{`q1,K0 e [] X}):PV G X (.Call (.Name "int" p) [e] [] pos) (eN eV cs) :=
 eK iG sQ f d vK g (he:=he)
def vh:Val->Wd
 | (_,.int i)=>if i.natAbs.log2<1920/\DH (gp i)=J then Y (.fr,.str (gp i)) else Z
 | (_,.str s)=>Y (.fr,.str s)
 |_=>Z
def yz(D:PV G X a ca):PV G X (.FormattedValue a (-1) Z pos) (e1 vh ca):=λf s O H Q I C=>by
 obtain⟨S,U,m,r,A,e,k⟩:=C;obtain⟨⟨B,y⟩,M,d⟩:=zZ.mp e;refine FormattedValue_plain (thn (D f s O H _ I ⟨S,U,B,y,A,M,λv l F e1 r1 f1=>(show (∃i,v=.int i/\i.natAbs.log2<1920/\Q (.str (toString i)) l)\/∃x:Str,v=.str x/\x.length<=FB/\Q (.str x) l from ?_)⟩) λu R E=>?_)
 ·unfold vh at d;split at d
  ·rename_i i j;cases j;split at d
   ·rename_i h;cases d;refine .inl ⟨i,r1.int_inv,h.1,?_⟩;have:=Rp.str (G:=G) (H:=l) (gp i) (jo h.2);rw[show sx (gp i)=Str.ofString (toString i) by simp[sx,gp]]at this;exact k _ _ _ e1 this Fp.nil
   ·cases d
  ·rename_i z j;cases j;cases d;refine .inr ⟨sx z,r1.str_inv.1,?_,k _ _ _ e1 (Rp.str z r1.str_inv.2) Fp.nil⟩;have:=r1.str_inv.2.1;show (sx z).cps.size<=_;simpa[sx,Yp,cj] using this
  ·cases d
 ·obtain⟨v,w,o,n,⟨i,rfl,g,q⟩ | ⟨x,rfl,g,q⟩⟩:=E
  ·obtain⟨t,rfl⟩:=n;exact formatField_int_small g ⟨.str _,w,o.tok _,⟨_,rfl⟩,q⟩
  ·obtain⟨t,rfl⟩:=n;exact formatField_str (λP N=>⟨.str _,w,o.tok _,⟨_,rfl⟩,q⟩) g
def nP:Val->Val->Wd
 | (_,.str s),(_,.str t)=>if s.length+t.length<=cj then Y (.fr,.str (s++t)) else Z
 |_,_=>Z
def kA(h:nP x y=Y r):∃s t,x.2=.str s/\y.2=.str t/\s.length+t.length<=cj/\r=(.fr,.str (s++t)):=by
 unfold nP at h;split at h
 ·split at h
  ·rename_i d;cases h;exact⟨_,_,rfl,rfl,d,rfl⟩
  ·cases h
 ·cases h
def jI{c:Ex}{e:Expr}(h:PV G X e c)(I:Inv X d O H s)(n:SR G S U O H)(y:c U=Y (m,.str t)){g:Str}(C:g.length+t.length<=FB)(k:∀i j,aC H i->dS t->Inv X d O i j->GM (Da X.prog X.w) X.A (joinParts (g++sx t) f) Q X.xe j):GM (Da X.prog X.w) X.A (joinParts g (eval e X.env :: f)) Q X.xe s:=by
 refine joinParts_cons (thn (h d s O H (λv i=>v=.str (sx t)/\dS t/\aC H i) I ⟨S,U,m,_,n,y,λv i F e1 r1 f1=>⟨r1.str_inv.1,r1.str_inv.2,e1⟩⟩) λu q x=>?_);obtain⟨v,B,z,r,rfl,l,o⟩:=x;obtain⟨tt,rfl⟩:=r;refine⟨?_,k B q o l z⟩;rw[strLen_append];have:(sx t).length=t.length:=by simp[sx,PySem.Str.length]
 omega
def tZ(w:PV G X a ca)(v:PV G X b cb)(u:PV G X c cc):PV G X (.JoinedStr [a,b,c] pos) (e2 nP (e2 nP ca cb) cc):=λl s O H Q I d=>by
 obtain⟨S,U,m,r,i,e,k⟩:=d;obtain⟨xy,e1,e⟩:=zZ.mp e;obtain⟨z,E,e⟩:=zZ.mp e;obtain⟨x,ex,e1⟩:=zZ.mp e1;obtain⟨y,F,e1⟩:=zZ.mp e1;obtain⟨h,f,D,C,l1,rfl⟩:=kA e1;obtain⟨s2,t2,B,A,l2,M⟩:=kA e;obtain⟨xm,x⟩:=x;obtain⟨ym,y⟩:=y;obtain⟨zm,z⟩:=z;cases D;cases C;cases B;cases A;cases M;have ln:∀t:Tx,(sx t).length=t.length:=λt=>by simp[sx,PySem.Str.length]
 have g:FB=cj:=Yp;rw[zW]at l2;refine JoinedStr_many (jI w I i ex (by rw[g,show Str.empty.length=0 from rfl];omega) λH1 u1 j k1 W=>?_);refine jI v W (i.same j) F (by rw[g,strLen_append,ln,show Str.empty.length=0 from rfl];omega) λH2 u2 n k2 R=>?_;refine jI u R ((i.same j).same n) E (by rw[g,strLen_append,strLen_append,ln,ln,show Str.empty.length=0 from rfl];omega) λH3 u3 o k3 P=>?_;have N:Str.empty++sx h++sx f++sx t2=sx (h++f++t2):=by
  show (⟨((#[]++h.toArray)++f.toArray)++t2.toArray⟩:Str)=⟨(h++f++t2).toArray⟩;simp
 rw[N];refine joinParts_nil ⟨.str _,H3,P.tok _,⟨_,rfl⟩,?_⟩ (by rw[ln,g,zW,zW];omega);exact k _ _ _ ((j.trans n).trans o) (Rp.str _ ⟨by rw[zW,zW];exact l2,λq d=>by
  rcases Zv.mp d with d | d
  ·rcases Zv.mp d with d | d
   ·exact k1.2 q d
   ·exact k2.2 q d
  ·exact k3.2 q d⟩) Fp.nil
def fe:We->Wd
 |[(_,.lst l)]=>(strs? l).bind λd=>if d.length<64 then Y (.fr,.lst ((cx (dedup d)).map .str)) else Z
 |_=>Z
theorem iW:∀l:List Tx,(dedup l).length<=l.length
 |[]=>Zy _
 |a :: l=>Z7 (Zu (List.length_filter_le _ _) (iW l))
def kE{X:Cx}(I:X.mg "sorted" = Z)(BP:X.mg "set" = Z)(N:PVs G X [e] cs)(M:{`q1,Gl X "sorted"})(Ce:{`q1,Gl X "set"})(R:{`q1,X.K=G.K})(u:{`q1,X.calm=J})(he:{`q1,K0 e [] X})(HI:{`q1,KB [.Call (.Name "set" p2) [e] [] pos'] X.env=(L,eval (.Call (.Name "set" p2) [e] [] pos') X.env) :: KB [] X.env}) :
  PV G X (.Call (.Name "sorted" p) [.Call (.Name "set" p2) [e] [] pos'] [] pos) (eN fe cs):=by
 refine PE.weak (dW (fz u) M I nN (bH (i8 (nY u) Ce BP wz N (he:=he)) dq HI)) λO H Q P=>?_;obtain⟨S,U,m,t,s,g,k⟩:=P;obtain⟨l,W,g⟩:=zZ.mp g;refine⟨S,U,l,s,W,λvs B Fs o r1 f1=>?_⟩;unfold fe at g;split at g
 ·rename_i mx x;obtain⟨d,e1,e2⟩:=zZ.mp g;split at e2
  ·rename_i A;cases e2;obtain⟨v,F,rfl,rfl,C⟩:=r1.one;obtain⟨a,ys,Gs,rfl,rfl,ED,r⟩:=C.lst_inv;have pm:∀f:List Str,f.Nodup->(∀y,y∈f↔y∈d.map sx)->f.Perm ((dedup d).map sx):=λf i h=>(List.perm_ext_iff_of_nodup i ((cY d).map _ λa b D4 e=>D4 (yf e))).mpr λy=>by
    rw[h y,Z3,Z3];exact⟨λ⟨z,j,e⟩=>⟨z,(dt d z).mpr j,e⟩,λ⟨z,j,e⟩=>⟨z,(dt d z).mp j,e⟩⟩
   refine⟨a,d.map sx,rfl,?_,by rw[zT];exact YI (Nat.succ_lt_succ A) (by decide),λq E=>⟨q,d.map sx,rfl,av,λf i h=>by rw[(pm f i h).length_eq,zT];exact Xi (iW d) A,λl2 f Hy i h LF=>?_⟩⟩
   ·rw[Z0,R];have:=jz r e1;rw[show (V.str ∘ sx)=λs=>V.str (sx s) from rfl,← this];exact Aj.of ED
   ·have n:aC B (upd B q (tq X.w q (d.map sx))):=bO E;exact qO (G:=G) (λv H' F e2 r2 f2=>k v H' F ((o.trans n).trans e2) r2 f2) (o.trans n) (λs D=>ng r e1 s ((dt d s).mp D)) l2 f Hy (pm f i h) LF
  ·cases e2
 ·cases g
end
end VS
end
section
namespace VS
open PySem PySem.Spec PyProof.Rows L2 PySem.Builtin PySem.Builtin.Str PySem.StrLaws
noncomputable def fj(c:Nat):Tx->Option (Tx×Tx)
 |[]=>Z
 |x :: r=>if x=c then Y ([],r) else (fj c r).map λp=>(x :: p.1,p.2)
def rep1(c:Nat)(d s:Tx):Tx:=match fj c s with
 |none=>s
 |some p=>p.1++(d++p.2)
theorem kS(s y:Str)(b:Nat):∀(l:Wi)(found:Array Nat)(free:Nat),found.size=1->(forIn l (found,free) (occBody s y b 1)).run.fst=found
 |[],found,free,_=>rfl
 |a :: l,found,free,h=>by
  rw[Xq];unfold occBody;rw[Zl (λz=>absurd z.1.1.1 (by rw[h];exact YZ _))];exact kS s y b l found free h
def gE{s:Tx}(h:s.length<=a):fj c (s.drop a)=Z:=by
 rw[YR h];rfl
theorem iQ(s:Tx)(c:Nat):∀(m a free:Nat),free<=a->a+m=s.length+1 →
  (forIn (List.range' a m) ((#[],free):Array Nat×Nat) (occBody ⟨s.toArray⟩ ⟨#[c]⟩ s.length 1)).run.fst.toList=((fj c (s.drop a)).map λp=>a+p.1.length).toList
 |0,a,free,_,h=>by
  rw[gE (by lia)];rfl
 |m+1,a,free,f,i=>by
  rw[Wp,Xq];unfold occBody;by_cases d:s[a]?=Y c
  ·obtain⟨b,g⟩:=Zs.mp d;rw[Zq ⟨⟨⟨Nat.zero_lt_one,f⟩,Ww b⟩,by rw[subAt_one];exact decide_eq_true d⟩,Yv b,g];have e:=kS ⟨s.toArray⟩ ⟨#[c]⟩ s.length (List.range' (a+1) m) #[a] (a+1) M;refine Eq.trans (congrArg Array.toList e) ?_;unfold fj;rw[Zq M];rfl
  ·rw[Zl (λh=>d (by have:=h.2;rw[subAt_one]at this;exact of_decide_eq_true this))];refine Eq.trans (iQ s c m (a+1) free (Y4 f) (by lia)) ?_;rcases Wv a s.length with b | b
   ·rw[Yv b];rw[show fj c (s[a] :: s.drop (a+1))=if s[a]=c then Y ([],s.drop (a+1)) else (fj c (s.drop (a+1))).map λp=>(s[a] :: p.1,p.2) from rfl,Zl (λz=>d (by rw[Zm b,z]))];cases fj c (s.drop (a+1)) with
    |none=>rfl
    |some p=>exact congrArg (λk=>[k]) (by show a+1+p.1.length=a+(p.1.length+1);lia)
   ·rw[gE b,gE (Y4 b)];rfl
def zF(s:Tx)(c:Nat):occurrences (sx s) (sx [c]) 0 (sx s).length 1=((fj c s).map λp=>p.1.length).toList:=by
 have:=iQ s c (s.length+1) 0 0 (Zy _) (Y2 _);rw[Y6]at this;simp only[Y2]at this;exact(occ_eq ..).trans this
def za(s:Tx)(c:Nat)(d:Tx)(h:fj c s=Y p):glued (sx d) (partsBetween (sx s) [p.1.length] (sx [c]).length)=sx (rep1 c d s)/\s=p.1++c :: p.2:=by
 have e:∀(s:Tx)(p:Tx×Tx),fj c s=Y p->s=p.1++c :: p.2:=λs=>by
  induction s with
  |nil=>intro p h;cases h
  |cons x r b =>
   intro p h;rw[show fj c (x :: r)=if x=c then Y ([],r) else (fj c r).map λp=>(x :: p.1,p.2) from rfl]at h;split at h
   ·rename_i f;cases h;rw[f];rfl
   ·obtain⟨q,g,rfl⟩:=z9.mp h;exact congrArg (x :: ·) (b q g)
 have a:=e s p h;refine⟨?_,a⟩;unfold rep1;rw[h];have k1:partsBetween (sx s) [p.1.length] (sx [c]).length=[strSub (sx s) 0 p.1.length,strSub (sx s) (p.1.length+1) (sx s).length]:=rfl;have k2:strSub (sx s) 0 p.1.length=sx p.1:=by
  unfold strSub sx;rw[a];simp[List.extract_eq_drop_take]
 have k3:strSub (sx s) (p.1.length+1) (sx s).length=sx p.2:=by
  unfold strSub sx;rw[show (⟨s.toArray⟩:Str).length=s.length from rfl,a];simp[List.extract_eq_drop_take];exact Z2 (by lia)
 rw[k1,k2,k3];refine(nJ d [p.1,p.2]).trans ?_;show sx (p.1++d++p.2)=_;rw[ZY]
def lP(x y z:Str)(t u v k:Tok)(b:((occurrences x y 0 x.length 1).isEmpty||(y.length==0&&z.length==0))=L →
   (u==0||v==0)=L/\(u==v)=L/\(y==z)=L/\tooLong (x.length+(occurrences x y 0 x.length 1).length*z.length)=L) :
  Gives («str.replace» ⟨[.str x t,.str y u,.str z v,.int 1 k],[]⟩) (if ((occurrences x y 0 x.length 1).isEmpty||(y.length==0&&z.length==0))=J then .val (.str x t) else .str (glued z (partsBetween x (occurrences x y 0 x.length 1) y.length))):=by
 change Gives (if ((occurrences x y 0 x.length 1).isEmpty||(y.length==0&&z.length==0))=J then _ else isSame (.str y u) (.str z v)>>=_) _;cases d:((occurrences x y 0 x.length 1).isEmpty||(y.length==0&&z.length==0))
 ·obtain⟨e,g,f,a⟩:=b d;rw[isSame_str_other y z u v e g f];change Gives (if tooLong (x.length+(occurrences x y 0 x.length 1).length*z.length)=J then _ else _) _;rw[a];exact .of_eq M
 ·exact .rule (.of_eq M)
section
noncomputable def xZ(i:Nat)(d:Str):TE:=λO H Q=>∃z,O[i]?=Y (Y (.str z))/\(z.length==0)=L/\d.length+z.length<=FB/\Q (.str (d++z)) H
def rq{X:Cx}{d:Str}(o:X.N[i]?=Y x)(m:Cg X.env.scope x)(n:K2 x)(e:K3 x)(p:(d.length==0)=L) :
  PEk X (.BinOp (.Constant (.str d) k j) .Add (.Name x g) pos) (xZ i d):=by
 intro f s O H Q I h;obtain⟨z,v,w,l,q⟩:=h;refine wpAny_BinOp (XU (pH o m n e (I.tok _) v λu r=>?_));obtain⟨t,rfl⟩:=r;refine PySem.P.add_str ?_;rw[p,w];exact⟨by
  show (d++z).length<=FB;rw[show (d++z).length=d.length+z.length from Array.size_append ..];exact l,⟨.str (d++z),H,I.tok _,⟨_,rfl⟩,q⟩,Nat.succ_pos _⟩
def xQ(i c:Nat)(d:Tx):TE:=λO H Q=>∃z,O[i]?=Y (Y (.str (sx z)))/\z.length+d.length<=cj/\dS (rep1 c d z)/\Q (.str (sx (rep1 c d z))) H
def qB{X:Cx}{apos cv:Pos}(W:X.N[i]?=Y x)(S:Cg X.env.scope x)(U:K2 x)(A:K3 x)(h1:g=sx [c])(h2:f=sx d)(Bf:(g==f)=L)(An:NH (.Name x j) "replace" X.env (eval (.Name x j) X.env)=eval (.Name x j) X.env)(Am:(apos.endLine==cv.line)=J) :
  PEz X (.Call (.Attribute (.Name x j) "replace" apos) [.Constant (.str g) y o,.Constant (.str f) w n,.Constant (.int 1) v l] [] cv) (xQ i c d):=by
 intro C s O H Q I h0 h;obtain⟨z,ez,hl,R,q⟩:=h;have D:backTo cv (KB [.Constant (.str g) y o,.Constant (.str f) w n,.Constant (.int 1) v l] X.env)=[(L,PySem.eval (.Constant (.str g) y o) X.env),(L,PySem.eval (.Constant (.str f) w n) X.env),(L,PySem.eval (.Constant (.int 1) v l) X.env)]:=rfl;refine wpAny_Call_method_late An (by rw[D];rfl) Am D (pH W S U A I ez λu r=>?_);obtain⟨t,rfl⟩:=r;refine⟨"str", "str.replace",XS,F.slot_str_replace,F.type_str_replace,Xm _ _ _,(λ_ e=>nomatch e),Calls.callWith_builtin M (Wr (YM (XU (YM (XU (YM (wpAny_Constant_int (Calls.spliced_nil ?_))))))))⟩;subst h1 h2;refine call_gives F.slot_str_replace (Xm _ _ _) F.entry_str_replace (F.args_str_replace_4 _ _ _ _) (lP _ _ _ t _ _ _ λ_=>⟨?_,?_,Bf,?_⟩) ?_
 ·have:=YK h0;simp[this]
 ·simp
 ·have e1:(sx z).length=z.length:=rfl;have e2:(sx d).length=d.length:=rfl;unfold tooLong;rw[Yp];refine Zg (Nat.not_lt.mpr ?_);have Mr:cj=16777216:=rfl;have m:=Nat.mul_le_mul_right d.length (occ_length_le (sx z) (sx [c]) 0 (sx z).length 1);rw[e2,e1];rw[e1]at m;lia
 ·have e3:((sx [c]).length==0)=L:=rfl;rw[zF];cases E:fj c z with
  |none =>
   have er:rep1 c d z=z:=by unfold rep1;rw[E]
   rw[er]at q;exact⟨.str _,H,I.tok _,⟨_,rfl⟩,q⟩
  |some p =>
   obtain⟨P,_⟩:=za z c d E;have B:=q;rw[← P]at B;refine⟨?_,⟨.str _,H,(I.tok _),⟨_,rfl⟩,B⟩⟩;rw[Yp];have:=R.1;rw[show (rep1 c d z).length=(sx (rep1 c d z)).length from rfl,← P]at this;exact this
def kW(i c:Nat)(d:Tx):Ex:=λU=>(af i U).bind λx=>match x.2 with
 |.str z=>if (z.length≠0/\z.length+d.length<=cj)/\DH (rep1 c d z)=J then Y (.fr,.str (rep1 c d z)) else Z
 |_=>Z
def pB{apos cv:Pos}{i:Nat}(HG:PVs G X es cs)(hN:X.N[i]?=Y x)(hv:Cg X.env.scope x)(h1:D=sx [c])(h2:C=sx d)(h3:B=sx g)(Bf:(D==C)=L)(Mx:(B.length==0)=L)(LC:dS g)(hd:K2 x)(m:K3 x)(An:NH (.Name x q) "replace" X.env (eval (.Name x q) X.env)=eval (.Name x q) X.env)(Am:(apos.endLine==cv.line)=J) :
  PVs G X (.BinOp (.Constant (.str B) k p4) .Add (.Name x p5) bp :: .Call (.Attribute (.Name x q) "replace" apos) [.Constant (.str D) j1 p1,.Constant (.str C) j2 p2,.Constant (.int 1) j3 p3] [] cv :: es) (ae (e2 au (eC (.str g)) (af i)) (ae (kW i c d) cs)):=by
 intro pos f s O H Q I h;obtain⟨S,U,l,E,e,kq⟩:=h;obtain⟨R,e1,e⟩:=zZ.mp e;obtain⟨p,w2,e⟩:=zZ.mp e;cases e;obtain⟨v2,Ie,e3⟩:=zZ.mp w2;obtain⟨v3,e4,e3⟩:=zZ.mp e3;cases e3;obtain⟨A,f2,n⟩:=zZ.mp Ie;split at n
 rotate_left
 ·cases n
 rename_i z hz;split at n
 rotate_left
 ·cases n
 rename_i r;cases n;have W:=sY E f2 hz;obtain⟨m2,A⟩:=A;cases (show A=.str z from hz);have e6:au (.fr,.str g) (m2,.str z)=Y R:=by
  have:=e1;unfold e2 at this;rw[f2]at this;exact this
 have M:(if g.length+z.length<=cj then Y ((.fr,.str (g++z)):Val) else Z)=Y R:=e6;split at M
 rotate_left
 ·cases M
 rename_i hb;cases M;have tz:dS z:=by
  unfold af at f2;have key:∀c,U[i]?=Y (Y c)->eT c=.str z->dS z:=λc h ec=>by
   obtain⟨v,g1,g2⟩:=E.rp i c h;rw[ec]at g2;exact g2.str_inv.2
  split at f2
  ·rename_i t h;exact key _ h (congrArg Prod.snd (Zc f2))
  ·rename_i t h;exact key _ h (congrArg Prod.snd (Zc f2))
  ·cases f2
 have to:dS (g++z):=⟨by rw[zW];exact hb,λc h=>(Zv.mp h).elim (LC.2 c) (tz.2 c)⟩
 subst h3;refine YM (thn (rq hN hv hd m Mx f s O H (λy w=>y=.str (sx (g++z))/\w=H) I ⟨sx z,W,beq_eq_false_iff_ne.mpr r.1.1,?_,by rw[qV],rfl⟩) λu s1 z1=>?_)
 ·rw[Yp];exact hb
 obtain⟨⟨y1,w,I1,r1,rfl,rfl⟩,h0⟩:=z1;refine YM (thn (qB hN hv hd m h1 h2 Bf An Am f s1 O w (λy P=>y=.str (sx (rep1 c d z))/\P=w) I1 h0 ⟨z,W,r.1.2,jo r.2,rfl,rfl⟩) λu2 s2 z2=>?_);obtain⟨y3,P,I2,r2,rfl,rfl⟩:=z2;refine thn (HG pos f s2 O P (λp o=>Q (.str (sx (g++z)) :: .str (sx (rep1 c d z)) :: p) o) I2 ⟨S,U,v3,E,e4,λp o Fs sm rp fp=>kq _ o ([] :: [] :: Fs) sm (.cons (.str _ to) (.cons (.str _ (jo r.2)) rp)) ⟨λj v' F' q1 F=>?_,fp.2⟩⟩) λus s3 z3=>?_
 ·match j with
  |0=>cases F;exact Fp.nil
  |1=>cases F;exact Fp.nil
  |j+2=>exact fp.1 j v' F' q1 F
 ·obtain⟨p,o,I3,rv,q3⟩:=z3;exact⟨_,o,I3,.cons r1 (.cons r2 rv),q3⟩
end
end VS
end
section
namespace XI
open PySem PySem.Spec
section
variable{h:NF}
def gS{prog:KM}{w:NG}{A:NB}{E:Yj}{g:Array GenState}{d:Drawn}{t:Nat}{os:OsState}{nm q:Str}{C N:FM}{bs bm Ee:Wk}{hdct:Bool}{sn:List Str}{sub:Wk}{ab:Bool}{col:Option Bool}{dd:Option FM}{k0 k1 k2 k3 k5:Wj}{B newId A4:String}(F:ExcBaseFacts B newId A4 Ee)(T:OwnTail h Ee bm){i:Wx}{a:Wk}{j:FM}{m:Obj}{Q:Fin->AC->Prop}(f:h.get? C=Y (excClassObj nm q C N bs bm hdct sn sub ab col dd k0 k1 k2 k3 k5 newId))(v:h.Ns N i)(y:i "__init__" = Y (.ref j))(P:h.get? j=Y m)(R:m.cls=.type "function")(u:∀h' e,h.objs.size<=e->Heap.MadeExcOf h h' e (.ref C) a->GM (Da prog w) A (call (.ref j) (.ref e :: a)) (λr l=>r=.none/\Q (.done (.ret (.ref e))) l) E ⟨h',g,d,t,os⟩)(hrest:a.length<=sizeLine:=by size_fits) :
  GM (Da prog w) A (Builtin.«type.__call__» ⟨.ref C :: a,[]⟩) Q E ⟨h,g,d,t,os⟩:=by
 repeat (first | with_reducible refine Xu f ?_ | with_reducible refine wpAny_madeBy_exc f ?_ | wp_step)
 refine codeAny_call_builtin_code (Code.quiet_builtin _ F.quiet) (wpAny_check_new_subU F F.hasB T f ?_);refine codeAny_exc_new_subU F F.hasB F T f ?_ hrest;show GM _ _ _ _ _ _;have p:=zX { cls:=.ref C,data:=.fields #[.ref h.objs.size,.none,.none,.none,.bool L,.none] }
  (zX { cls:=.type "tuple",data:=.seq a.toArray } f)
 have U:=zX { cls:=.ref C,data:=.fields #[.ref h.objs.size,.none,.none,.none,.bool L,.none] }
  (zX { cls:=.type "tuple",data:=.seq a.toArray } P)
 have S:((h.push { cls:=.type "tuple",data:=.seq a.toArray }).push { cls:=.ref C,data:=.fields #[.ref h.objs.size,.none,.none,.none,.bool L,.none] }).Ns N i :=
  let ⟨o,G,H,e,r⟩:=v;⟨o,G,H,zX _ (zX _ e),r⟩
 have n:((h.push { cls:=.type "tuple",data:=.seq a.toArray }).push
   { cls:=.ref C,data:=.fields #[.ref h.objs.size,.none,.none,.none,.bool L,.none] }).get? (h.objs.size+1)=Y
   { cls:=.ref C,data:=.fields #[.ref h.objs.size,.none,.none,.none,.bool L,.none] }:=by heap_get
 have O:(Value.ref C :: bm).contains (.ref C)=J:=by simp
 have I:=T.keeps (h':=(h.push { cls:=.type "tuple",data:=.seq a.toArray }).push { cls:=.ref C,data:=.fields #[.ref h.objs.size,.none,.none,.none,.bool L,.none] })
  λb o e=>zX _ (zX _ e)
 unfold isInstance
 repeat (first | with_reducible refine Xu n ?_ | (with_reducible refine wpAny_isSubtype_exc p ?_;rw[O]) | wp_step)
 show GM _ _ (typeLookup (.ref C) _) _ _ _;refine wpAny_typeLookup_tail p S I F.mroIs F.init.lookup ?_;rw[y];refine ZG (zY ?_);unfold bindSpecial;refine zY (wpAny_typeOf (T := "function") ⟨_,U,R⟩ ?_);rw[Zq (by decide)];refine z8 (zY (ZP (u _ (h.objs.size+1) (YT _) ⟨λb o z=>zX _ (zX _ z),Ws (YT _),h.objs.size,n,Ws (Zy _),?_⟩) (λr l s=>?_) λ_ _ x=>x))
 ·exact zX _ (Heap.get?_push_at rfl M)
 ·obtain⟨rfl,D⟩:=s
  wp_walk
  exact D
def oz{prog:KM}{w:NG}{A:NB}{E:Yj}{g:Array GenState}{d:Drawn}{t:Nat}{os:OsState}{nm q:Str}{C N:FM}{bs bm Ee:Wk}{hdct:Bool}{sn:List Str}{sub:Wk}{ab:Bool}{col:Option Bool}{dd:Option FM}{k0 k1 k2 k3 k5:Wj}{B newId A4:String}(F:ExcBaseFacts B newId A4 Ee)(T:OwnTail h Ee bm){l:Wx}{a:Wk}{i:FM}{j:Obj}{Q:Yj}(b:h.get? C=Y (excClassObj nm q C N bs bm hdct sn sub ab col dd k0 k1 k2 k3 k5 newId))(p:h.Ns N l)(u:l "__init__" = Y (.ref i))(v:h.get? i=Y j)(x:j.cls=.type "function")(o:∀f e,h.objs.size<=e->Heap.MadeExcOf h f e (.ref C) a->GM (Da prog w) (A.under (.builtin "type.__call__" ⟨.ref C :: a,[]⟩)) (call (.ref i) (.ref e :: a)) (λr m=>r=.none/\Q (.ref e) m) E ⟨f,g,d,t,os⟩)(hrest:a.length<=sizeLine:=by size_fits) :
  GM (Da prog w) A (call (.ref C) a) Q E ⟨h,g,d,t,os⟩:=by
 have f1:=tc_lookup;have f2:=tc_bind (.ref C);have y:(⟨h,g,d,t,os⟩:AC).TypeIs (.ref C) "type" := ⟨_,b,rfl⟩
 refine Xz (codeAny_of_tree ?_);show GM _ _ (callAny (.ref C) _) _ _ _
 repeat (any_goals (first | assumption | with_reducible refine Xu b ?_ | wp_step))
 refine⟨rfl,?_⟩;refine codeAny_call_builtin_at (Code.quiet_builtin _ (by decide +kernel)) entry_typeCall (wpAny_check_type_call_sub b (gS (hrest:=hrest) F T b p u v x λf e n s=>?_));exact o f e n s
end
end XI
end
section
namespace XI
open PySem PySem.Spec PySem.W Builtin Builtin.ObjectAttr
noncomputable abbrev Dq:Wk:=[.type "ValueError",.type "Exception",.type "BaseException",.type "object"]
def h7(K:Frag)(C P:FM):Bool:=(clsIn K C).any λcd=>cd.mro == .ref C :: .ref P :: Dq&&cd.hasDict
section
variable{K:Frag}
def uB{s:AC}(X:K.In s.heap)(g:s.heap.get? x=Y ⟨.ref C,Z,.fields vs,sl⟩)(a:findIn K (.ref C) "__setattr__" = Y (Y (.builtin "object.__setattr__")))(p:h7 K C P=J)(n:findIn K (.ref C) name=Y Z)(h:∀h' d,s.heap.objs.size<=d->h'.get? x=Y ⟨.ref C,Y d,.fields vs,sl⟩->h'.Ns1 d (λy=>if y=name then Y v else Z)->(∀b o,b≠x->s.heap.get? b=Y o->h'.get? b=Y o)->s.heap.objs.size<=h'.objs.size->∀t,Q () { s with heap:=h',toks:=t }) :
  GM (Da prog w) A (setAttr (.ref x) name v) Q E s:=by
 have f:=PySem.F.store_object;have I:InstAt s.heap x ⟨.ref C,Z,.fields vs,sl⟩ C Z:=⟨g,rfl,rfl,trivial⟩
 obtain⟨cd,j,i⟩:=any_some p;rw[YU]at i;obtain⟨i,B⟩:=i;have em:=eq_of_beq i;refine set_plain X I a ?_;have sub:Looks (Da prog w) s.heap (isInstance (.ref x) (.type "object")) J:=I.type.andThen (looks_mroIn X (by unfold mroIn;rw[j,Zw,em];rfl));refine YE f.slot.plain f.entry (@check_slot (Da prog w) _ _ { s with toks:=s.toks+1 } "object.__setattr__" "object" "__setattr__" (.ref x) [.str name s.toks,v] [] _ f.kind f.split sub (f.args (.ref x) (.str name s.toks) v) ?_);have q:Looks (Da prog w) s.heap (mroOf (.ref C)) cd.mro:=(looks_clsIn X j).andThen .now;rw[osa_eq,refuse_eq];refine zY (zY (I.type _ _ _ _ (λ_ _ e=>e) (zY (q _ _ _ _ (λ_ _ e=>e) ?_))));rw[em,refuseLoop_ref,refuseLoop_ref,PySem.F.store_ValueError.passes];refine z8 (zY (I.type _ _ _ _ (λ_ _ e=>e) (zY (X7 X n _ _ _ _ (λ_ _ e=>e) (zY (z8 ?_))))));refine zY (z8 (zY (zY (wpAny_loadPart g (zY (looks_clsIn X j _ _ _ _ (λ_ _ e=>e) ?_))))));rw[B];have l:(s.heap.push { cls:=.type "dict",data:=.dict #[] }).get? x=Y ⟨.ref C,Z,.fields vs,sl⟩:=zX _ g;have ne:x≠s.heap.objs.size:=Zo (Zt g);refine zY (wpAny_alloc ?_);refine zY (wpAny_update l ?_);refine z8 ?_;have G:((s.heap.push { cls:=.type "dict",data:=.dict #[] }).update x λo=>{ o with dict:=some s.heap.objs.size }).get? s.heap.objs.size=some { cls:=.type "dict",data:=.dict #[] } :=
  (Heap.get?_update_ne _ _ _ _ ne.symm).trans (Heap.get?_push_at rfl M)
 have H:((s.heap.push { cls:=.type "dict",data:=.dict #[] }).update x λo=>{ o with dict:=some s.heap.objs.size }).Ns s.heap.objs.size (λ_=>none):=⟨_,#[],_,G,rfl,λe he=>absurd he (by simp),λ_=>rfl⟩
 show GM _ _ (storeInDict s.heap.objs.size (.str name s.toks) name v) _ _ _;refine zY (z8 (zY (wpAny_nsSet1 (Heap.Ns1.of_empty H) λh' m a=>?_)));obtain⟨N,R,O,D,z,u⟩:=m.count (Within.cons name v Within.nil);refine zY (wpAny_lookBehind D (by rw[z];exact pastItsLine_dict (Zu u (by rw[Zj,YB,Yp];decide))) ?_);refine z8 (h h' s.heap.objs.size (Zy _) ?_ m (λb o r e=>(a.2 b (Zo (Zt e))).trans ((Heap.get?_update_ne _ _ _ _ r).trans (zX _ e))) ?_ _)
 ·exact(a.2 x ne).trans (Za _ l M)
 ·have:=a.1;rw[Xj,Z4]at this;dsimp only at this;omega
variable{h:NF}
def oC{prog:KM}{w:NG}{A:NB}{C:FM}{g:Array GenState}{d:Drawn}{t:Nat}{os:OsState}{nm q:Str}{N e:FM}{bs bm Ee:Wk}{hdct:Bool}{sn:List Str}{sub:Wk}{ab:Bool}{col:Option Bool}{dd:Option FM}{k0 k1 k2 k3 k5:Wj}{B newId A4:String}{rest:Wk}(F:ExcBaseFacts B newId A4 Ee)(T:OwnTail h Ee bm){R:Result->AC->Prop}{a0:FM}{f:Array (Wj)}{i:Option FM}(m:h.get? C=Y (excClassObj nm q C N bs bm hdct sn sub ab col dd k0 k1 k2 k3 k5 newId))(he:h.get? e=Y ⟨.ref C,i,.fields #[.ref a0,.none,.none,.none,.bool L,.none],f⟩)(a:rest.length<=FB)(j:∀h' u,h'.get? e=Y ⟨.ref C,i,.fields #[.ref u,.none,.none,.none,.bool L,.none],f⟩->(∀b o,b≠e->h.get? b=Y o->h'.get? b=Y o)->h.objs.size<=h'.objs.size->R (.ok (.ret .none)) ⟨h',g,d,t,os⟩) :
  codeAny (Da prog w) A (.call (.builtin A4) ⟨.ref e :: rest,[]⟩) R ⟨h,g,d,t,os⟩:=by
 refine YE F.init.plain F.initEntry (wpAny_check_init_subT F T m he M ?_)
 wp_walk
 refine j _ h.objs.size ?_ (λb o l z=>?_) ?_
 ·rw[Za _ (zX _ he) M];rfl
 ·rw[Ze _ _ (Yq l)];exact zX _ z
 ·rw[Xj,Z4];exact YT _
end
end XI
end
section
namespace XI
open PySem PySem.Spec PySem.W
def jC(K:Frag)(C P b:FM):Bool:=match K.lookup C with
 |some ⟨t,_,.cls cd,⟨[_,_,_,_,a,_]⟩⟩=>t == .type "type" && cd.mro == .ref C :: .ref P :: Dq && !cd.hasDel&&a==Y (.builtin "ValueError.__new__")&&nsOkIn K cd.ns&&nsIn K cd.ns "__init__" == Y (Y (.ref b))&&tailIn K Dq (.ref P :: Dq)
 |_=>L
def su{K:Frag}(X:K.In h)(e:nsOkIn K N=J)(q:nsIn K N x=Y (Y v)):h.nsMap N x=Y v:=by
 obtain⟨o,i,j,a,hd,_,b⟩:=Heap.Ns.of_isNs (isNs_of_in X e);unfold nsIn at q;split at q
 ·rename_i c d m g f z;have:=X _ _ z;rw[a]at this;cases this;cases hd;split at q
  ·rename_i l he;cases q;rw[← b];unfold nsFind findBy;rw[← Array.find?_toList,he];rfl
  ·split at q<;>cases q
 ·cases q
def pX{K:Frag}{C:FM}(e:jC K C P g=J):∃N nm q bs hdct sn sub ab col dd k0 k1 k2 k3 k5,∀h:NF,K.In h →
  h.get? C=Y (excClassObj nm q C N bs (.ref P :: Dq) hdct sn sub ab col dd k0 k1 k2 k3 k5 "ValueError.__new__")/\h.Ns N (h.nsMap N)/\h.nsMap N "__init__" = Y (.ref g)/\OwnTail h Dq (.ref P :: Dq):=by
 unfold jC at e;split at e
 ·rename_i t dct cd a0 a1 a2 a3 A a5 lk;simp only[YU]at e;obtain⟨⟨⟨⟨⟨⟨r,p⟩,f⟩,o⟩,a⟩,d⟩,n⟩:=e;have m:=eq_of_beq r;have b:=eq_of_beq p;have j:=eq_of_beq o;subst m;subst j;obtain⟨f1,f2,f3,y,x,w,v,u,s,z,i⟩:=cd;dsimp only at b f a d;subst b;have l:i=L:=by
   cases i with
   |false=>rfl
   |true=>cases f
  subst l;exact⟨y,f1,x,f2,w,v,u,s,z,dct,a0,a1,a2,a3,a5,λh X=>⟨X _ _ lk,.of_isNs (isNs_of_in X a),su X a (eq_of_beq d),tail_of_in X n⟩⟩
 ·cases e
section
variable{M:Model}
def mq{A:NB}{E:Yj}{env:Env}{nm q:Str}{C N:FM}{bs bm:Wk}{hdct:Bool}{sn:List Str}{sub:Wk}{ab:Bool}{col:Option Bool}{dd:Option FM}{k0 k1 k2 k3 k5:Wj}{newId:String}{s:AC}{x:Sem FS}{Q:Flow->AC->Prop}(n:bm.contains (.type "BaseException")=J)(j:A.handled=Z)(h:GM M A x (λv a=>∃e f t,v=.ref e/\a.heap.get? C=Y (excClassObj nm q C N bs bm hdct sn sub ab col dd k0 k1 k2 k3 k5 newId)/\a.heap.get? e=Y ⟨.ref C,f,.fields #[.ref t,.none,.none,.none,.bool L,.none],#[]⟩/\E (.ref e) a) E s) :
  GM M A (raiseStmt env (Y x) Z) Q E s:=by
 have m:(Value.ref C :: bm).contains (.type "BaseException")=J:=by rw[List.contains_cons,n,Bool.or_true]
 unfold raiseStmt;refine zY (ZP h (λv a i=>?_) λ_ _ x=>x);obtain⟨e,f,t,rfl,b,he,l⟩:=i;obtain⟨p,g,d,o,os⟩:=a
 repeat (first | with_reducible refine Xu he ?_ | with_reducible refine Xu b ?_ | (with_reducible refine wpAny_isSubtype_exc b ?_;rw[m]) | wp_step)
 exact wpAny_raiseNew_none j l
end
section
variable{K:Frag}
def lN{A:NB}(S:jC K C P fI=J)(C8:isFn K (.ref fI)=J)(hh:A.handled=Z)(Al:(backTo y (KB b env)).any (·.1)=L)(h:GM (Da prog w) A (eval (.Name x D) env) (λf B=>f=.ref C/\GM (Da prog w) A (evalArgs (.ref C) J (backTo y (KB b env)) [])
   (λa i=>a.kw=[]/\a.pos.length<=FB/\K.In i.heap/\∀m e,i.heap.objs.size<=e->Heap.MadeExcOf i.heap m e (.ref C) a.pos →
    GM (Da prog w) (A.under (.builtin "type.__call__" ⟨.ref C :: a.pos,[]⟩)) (call (.ref fI) (.ref e :: a.pos)) (λr l=>r=.none/\K.In l.heap/\(∃u t,l.heap.get? e=Y ⟨.ref C,u,.fields #[.ref t,.none,.none,.none,.bool L,.none],#[]⟩)/\E (.ref e) l) E { i with heap:=m }) E B) E s) :
  GM (Da prog w) A (exec (.Raise (Y (.Call (.Name x D) b [] y)) Z n) env) Q E s:=by
 rw[arm_exec_Raise];obtain⟨N,nm,q,bs,hdct,sn,sub,ab,col,dd,k0,k1,k2,k3,k5,H⟩:=pX S;refine zY (XE (mq (C:=C) (nm:=nm) (q:=q) (N:=N) (bs:=bs) (bm:=.ref P :: Dq) (hdct:=hdct) (sn:=sn) (sub:=sub) (ab:=ab) (col:=col) (dd:=dd) (k0:=k0) (k1:=k1) (k2:=k2) (k3:=k3) (k5:=k5) (newId := "ValueError.__new__") M hh ?_));refine zY (ZP (wpAny_Call_ofName (ZP h (λf B p=>?_) λ_ _ x=>x)) (λv s₃ I=>zY (XE (z8 I))) λ_ _ x=>x);obtain⟨rfl,p⟩:=p;unfold callWith;refine zY (ZG (ZP p (λa i o=>zY (XE ?_)) λ_ _ x=>x));obtain⟨apos,Nh⟩:=a;obtain⟨LW,hlen,X,o⟩:=o;obtain rfl:Nh=[]:=LW;obtain⟨U,g,d,tk,os⟩:=i;obtain⟨G,W,hi,T⟩:=H U X;simp only[Al];refine zY (wpAny_keeperOf_exc G ?_);have Ma:∃j,K.lookup fI=Y j/\j.cls=.type "function" := by
  have z:=beq_iff_eq.mp C8;obtain⟨j,e1,e2⟩:=z9.mp (show (K.lookup fI).map (·.cls)=Y (.type "function") from z);exact⟨j,e1,e2⟩
 obtain⟨j,e1,e2⟩:=Ma;refine zY (oz (hrest:=hlen) PySem.F.excBase_ValueError T G W hi (X _ _ e1) e2 λm e O hm=>?_);refine ZP (o m e O hm) (λr l R=>?_) λ_ _ x=>x;obtain⟨rfl,X',⟨u,t,he⟩,hE⟩:=R;exact⟨rfl,zY (ZG (wpAny_point (z8 ⟨e,u,t,rfl,(H _ X').1,he,hE⟩)))⟩
end
end XI
end
section
namespace L2
open PySem PySem.Spec PyProof.Rows XI
noncomputable def XO(a C:FM)(d:Option FM):HO:=.ext λ_ h=>∃u,h.get? a=Y ⟨.ref C,d,.fields #[.ref u,.none,.none,.none,.bool L,.none],#[]⟩
def oU{h:NF}(e:h.get? a=Y ⟨.ref C,d,.fields #[.ref u,.none,.none,.none,.bool L,.none],#[]⟩):bG P w H h a (XO a C d) :=
 ⟨⟨u,e⟩,⟨_,e⟩,λf b x k=>by
  obtain⟨u,e⟩:=x;exact⟨u,k _ e⟩⟩
def vv(h:H a=Y o):upd H a o=H:=by
 funext b;by_cases z:b=a
 ·subst z;rw[av,h]
 ·rw[ak z]
section
def Inv.drop{a:FM}(I:Inv X pins O (upd H a (.ext φ)) s)(f:H a=Z):Inv X pins O H s:=by
 have back:∀b o,upd H a (.ext φ) b=Y o->(∀ψ,o ≠ .ext ψ)->H b=Y o:=λb o e ne=>by
  by_cases z:b=a
  ·subst z;rw[av]at e;cases e;exact absurd M (ne φ)
  ·rw[ak z]at e;exact e
 have fr:∀b,upd H a (.ext φ) b=Z->H b=Z:=λb e=>by
  by_cases z:b=a
  ·subst z;exact f
  ·rw[ak z]at e;exact e
 refine⟨I.ok,I.os,I.bare,⟨I.base.keep,I.base.slot,λb o e n h=>fr b (I.base.free b o e n h),I.base.there,λb d e=>back b _ (I.base.AM b d e) (λ_ z=>nomatch z),λb o u e=>back b _ (I.base.AJ b o u e) (λ_ z=>nomatch z),λb g e=>back b _ (I.base.AH b g e) (λ_ z=>nomatch z)⟩,I.loc,I.cell,fr _ I.free,λx c e=>fr _ (I.Af x c e),λp i=>?_,λb o e=>?_,I.len⟩
 ·obtain⟨e,n,r⟩:=I.pin p i;exact⟨e,fr _ n,r⟩
 ·have j:b≠a:=λz=>by rw[z,f]at e;cases e
  exact(I.td b o (by rw[ak j];exact e)).A2 (λ_ _ _ q=>q) (λc q=>back c _ q λ_ z=>nomatch z) (λc d q=>back c _ q λ_ z=>nomatch z) λc _ _ q=>back c _ q λ_ z=>nomatch z
end
section
def rW{X:Cx}{n:Pos}(hq:jC X.K C P fI=true)(hg:Gl X p)(hm:X.mg p=Y (.ref P))(Au:K2 p)(HC:PySem.W.specialIn X.K (.ref P) "__getattribute__" = Y (Y (.builtin "type.__getattribute__")))(hr:PySem.W.readsIn X.K P (.type "type")=true)(hf:PySem.W.findCls X.K (.ref P) (.type "type") "__init__" = Y (.val (.builtin "ValueError.__init__")))(hh:PySem.W.handedIn (.builtin "ValueError.__init__")=true)(ha:PA X [m,j] t)(Cc:KB [m,j] X.env=(L,eval m X.env) :: KB [j] X.env)(Ar:(backTo l (KB [j] X.env)).any (·.1)=L)(Cn:swapsWith (.Call (.Attribute (.Name p w) "__init__" i) [m,j] [] l) Z n.line X.env=pure L)(U:eval (.Call (.Attribute (.Name p w) "__init__" i) [m,j] [] l) X.env=(do
   let G ← eval (.Name p w) X.env
   standAt i.atName
   let (f,first) ← holding [G] (getMethod G "__init__" pl)
   callWith l f first (backTo l (KB [m,j] X.env)) (backToKw l (NC [] X.env)))) :
  PS X (.Expr (.Call (.Attribute (.Name p w) "__init__" i) [m,j] [] l) n) (λD O H=>t O H λE y=>∃a u,E=[.ref a,u]/\y a=Y (XO a C Z)/\D.nx O y):=λv s O H D I h=>by
 refine wpAny_Expr_any ?_ I.quiet Cn;refine PySem.W.methodCall_KW (pl:=pl) (eL I hg hm ?_ Au) U;refine PySem.W.method_cls I.AE HC (PySem.W.cls_value I.AE hr hf hh ?_);refine callWith_method1 (thn (ha l v _ O H _ (I.tok _) h) λus S h_=>?_) Cc Ar;obtain⟨E,y,B,r,a,u,rfl,A,q⟩:=h_;obtain⟨u1,u2,rfl,r1,r2⟩:=vals2 r;cases (r1);obtain⟨⟨b,he⟩,_⟩:=B.td a _ A;obtain⟨N,nm,q',bs,M,sn,sub,ab,col,dd,k0,k1,k2,k3,k5,cf⟩:=pX hq;obtain⟨hC,_,_,T⟩:=cf _ B.AE;obtain⟨hp,g,d,R,os⟩:=S;refine Xz (oC PySem.F.excBase_ValueError T hC he (show 1<=FB by decide) λh' u Q k sz=>?_);have J:=B.write (t':=R) (h':=h') (x:=a) (e:=a) (o:=XO a C Z) (by rw[A];exact True.intro) (.inl rfl) (λb o hb z=>k b o hb z) ⟨_,Q⟩ (oU Q);rw[vv A]at J;exact⟨O,y,J,q⟩
def uo{X:Cx}{l:Pos}(hp:h7 X.K C P=true)(hs:PySem.W.findIn X.K (.ref C) "__setattr__" = Y (Y (.builtin "object.__setattr__")))(ht:PySem.W.findIn X.K (.ref C) "line" = Y Z)(ha:PE X o B)(U:PE X g w)(Cn:swapsWith g (Y (.Attribute o "line" i)) l.line X.env=pure L) :
  PS X (.Assign [.Attribute o "line" i] g l) (λD O H=>w O H λy v=>B O v λx r=>∃a n,x=.ref a/\y=.int n/\r a=Y (XO a C Z)/\∀d m,r d=Z->d≠a->D.nx O (upd (upd r a (XO a C (Y d))) d (.frz m (.xd [("line",.int n)])))):=λj s O H D I h=>by
 refine plainObj_wpAny_Assign_Attribute (thn (U j s O H _ I h) λu G ⟨y,v,I1,N,q⟩=>thn (ha j G O v _ I1 q) λS s2 h_=>?_) Cn;obtain⟨x,r,p,Q,a,n,rfl,rfl,t,R⟩:=h_;obtain rfl:S=Value.ref a:=Q;obtain⟨⟨b,he⟩,_⟩:=p.td a _ t;refine uB p.AE he hs hp ht λh' d hd F E k sz A=>?_;have J:=p.write (t':=A) (h':=h') (x:=a) (e:=a) (o:=XO a C (Y d)) (by rw[t];exact True.intro) (.inl rfl) (λb o hb z=>k b o hb z) ⟨_,F⟩ (oU F);have hd2:=p.td.fresh hd;have ne:d≠a:=λz=>by rw[z,t]at hd2;cases hd2
 obtain⟨m,es,ep,e,c⟩:=id E;refine⟨O,_,J.adopt (t':=A) (h':=h') (a:=d) (o:=.frz m (.xd [("line",.int n)])) (p.CF hd (by rw[ak ne];exact hd2)) (λ_ _ _ z=>z) ⟨m,e⟩ ⟨e,_,E,λf=>?_⟩,R d m hd2 ne⟩;by_cases z:f = "line"
 ·subst z;rw[Zq M];exact N
 ·rw[Zl z];show lY (match f == "line" with | true=>some (V.int n) | false=>none) none;rw[beq_eq_false_iff_ne.mpr z];trivial
end
end L2
end
section
namespace XN
open PySem PySem.Spec PyProof.Rows L2 PySem.W
section
variable{K:Frag}
def ph{s:AC}(C:B6 K D)(X:K.In s.heap)(I:InstAt s.heap a oe D (Y od))(l:hasDictIn K D=J)(m:findIn K (.ref D) b=Y Z)(j:lookIn b od=Y (Y v))(i:handedIn v=J)(h:Q v { s with toks:=s.toks+1 }):GM (Da prog w) A (getAttr (.ref a) b e) Q E s:=by
 obtain⟨o,g,d,t,os⟩:=s;have f:=I.type (M:=Da prog w);have n:(Value.builtin "BaseException.__getattribute__" == Value.builtin "object.__getattribute__")=L:=by decide +kernel
 refine zY (wpAny_mkText (ZG (zY (f.at (zY ((X7 (M:=Da prog w) X C.ga).at ?_))))));dsimp only;rw[n,Yy,Zl Zp];unfold getAttrByItsOwn hookBefore callGetattribute;rw[Zq (show onTheHeap (Value.ref D)=J from rfl)];refine zY ((X7 (M:=Da prog w) X C.gn).at (zY (wpAny_attempt (ZG ?_))));rw[show (e&&onTheHeap (Value.builtin "BaseException.__getattribute__"))=L from Yy _,Zl Zp];unfold boundAndCalled;rw[((Y1).ga.bind (.ref a))];refine zY (z8 ?_);refine Xz (YE (Y1).ga.plain F.entry_bexc_ga (ky (f.andThen (looks_mroIn (M:=Da prog w) X C.mb)) ?_));refine zY (z8 ?_);refine zY (z8 (zY (f.at (zY ((looks_find (M:=Da prog w) X I (findObj_own l m rfl j)).at ?_)))));refine z8 ?_;exact handed_on i h
end
end XN
namespace VS
open PySem PySem.Spec PyProof.Rows L2 XN XI
noncomputable def mB:T->Option Int
 |.obj 0 [(1,.int n)]=>Y n
 |_=>Z
def uJ(a:Ex):Ex:=λU=>(a U).bind λv=>(mB v.2).map λn=>(.fr,.int n)
def vJ{n:Int}(r:Rp G H v t F)(e:mB t=Y n):∃a o d f,v=.ref a/\H a=Y (.frz o (.own a))/\o.cls=.ref (G.ct 0).1/\o.dict=Y d/\H d=Y (.frz f (.xd [("line",.int n)]))/\∃h,o.data=.fields h:=by
 unfold mB at e;split at e
 ·cases e;generalize g:T.obj 0 [(1,T.int n)]=z at r;cases r with
  |@exc c a o fs j i =>
   cases g;obtain⟨m,b,l⟩:=i;cases hd:o.dict with
   |none=>rw[hd]at b;cases (show _=_ from b)
   |some d =>
    rw[hd]at b;obtain⟨_,f,p,e1,e2⟩:=b;cases e1;exact⟨a,o,d,f,rfl,j,m,hd,e2,l⟩
  |_=>cases g
 ·cases e
section
def wk{G:Gx}{X:Cx}(D:B6 X.K (G.ct 0).1)(R:PySem.W.hasDictIn X.K (G.ct 0).1=J)(N:PySem.W.findIn X.K (.ref (G.ct 0).1) "line" = Y Z)(ha:PV G X a ca)(hb:NH a "line" X.env (eval a X.env)=eval a X.env):PV G X (.Attribute a "line" pos) (uJ ca):=λh s O H Q I E=>by
 obtain⟨S,U,m,t,l,e,k⟩:=E;obtain⟨⟨B,y⟩,ea,e1⟩:=zZ.mp e;obtain⟨n,en,e2⟩:=z9.mp e1;cases e2;refine tV hb (thn (ha h s O H (λu f=>∃F,aC H f/\Rp G f u y F) I ⟨S,U,B,y,l,ea,λu f F A w q3=>⟨F,A,w⟩⟩) λu s1 h_=>?_);obtain⟨v,f,i,r,F,p,rp⟩:=h_;obtain⟨b,o,d,od,rfl,g1,g2,g3,g4,vs,g5⟩:=vJ rp en;cases (r);obtain⟨hg,_⟩:=i.td b _ g1;obtain⟨hd,C,EB,Ho⟩:=i.td d _ g4;obtain⟨Nq,BA,P⟩:=iT EB;cases (hd.symm.trans BA);have g:=Ho "line";cases j:C "line" with
 |none=>rw[j]at g;exact False.elim g
 |some z =>
  rw[j]at g;have q:RelV (V.int n) z:=g;obtain⟨tk,rfl⟩:=q;exact ph D i.AE ⟨hg,g2,by unfold PySem.W.notCls;rw[g5],by rw[g3];exact hd⟩ R N (by rw[P,j]) M ⟨.int n,f,i.tok _,g,k _ f _ p (.int n) Fp.nil⟩
end
def uT(C:FM):Sp:=λe H Q _=>∃a n,e=[.ref a,.int n]/\(0<=n/\n<=300)/\H a=Y (XO a C Z)/\∀d f b,aC H b->b d=Z->d≠a->Q .non (upd (upd b a (XO a C (Y d))) d (.frz f (.xd [("line",.int n)])))
noncomputable def wo(H:Hp)(a:FM):Hp:=λb=>if b=a then Z else H b
def mE:wo H a a=Z:=Zq M
def pF(h:b≠a):wo H a b=H b:=Zl h
structure Ai(P:KM)(w:NG)(K:Xe)(mg:Wx)(base:NF)(k:Nat)(x:Str)(C:FM):Prop where
 ex:∃f fd Pa ps,FnOk P w K mg base Bu k f fd ps (uT C)/\jC K C Pa f=true/\PySem.W.isFn K (.ref f)=true/\mg x=some (.ref C)/\Binds K fd ps []
noncomputable def gu(x:Str)(c:Ex):AA:=λU=>(c U).bind λv=>match v.2 with
 |.int n=>if 0<=n/\n<=300 then Y (.ex ⟨x,Y n⟩ U) else Z
 |_=>Z
section
def lh{X:Cx}(F:Ai X.prog X.w X.K X.mg X.base k x C)(hr:Aa (k+1) X.A)(hg:Gl X x)(hc:X.calm=true)(ha:PV G X.Bs e c)(Au:K2 x)(N:K0 e [] X)(Ar:(backTo cv (KB [] X.env)).any (·.1)=L)(hex:X.ex=[]) :
  PSX G X (.Raise (Y (.Call (.Name x np) [e] [] cv)) Z pos) (gu x c):=λh s O H D I hw=>by
 obtain⟨S,U,o,sr,eo,kk⟩:=hw;obtain⟨⟨m,t⟩,el,e2⟩:=zZ.mp eo;obtain⟨f,fd,Pa,ps,Fo,hq,C8,hm,hb⟩:=F.ex;dsimp only at e2;split at e2
 rotate_left
 ·cases e2
 rename_i n;split at e2
 rotate_left
 ·cases e2
 rename_i hn;cases e2;refine lN (K:=X.K) (C:=C) (P:=Pa) (fI:=f) hq C8 (I.ok.hd hc) (by
  rw[N];exact Ar) (eL I hg hm ⟨rfl,?_⟩ Au)
 rw[N];refine Wr ?_;have hw:=bH ha dq N cv h s O H (λvs l=>∃u,vs=[u]/\∃R,aC H l/\Rp G l u (.int n) R) (I.AG _) ⟨S,U,m,.int n,sr,el,λu l R q1 q2 q3=>⟨u,rfl,R,q1,q2⟩⟩;rw[N]at hw;refine ZP hw (λus E hu=>?_) λ_ _ z=>False.elim z;obtain⟨vs,l,I1,W,u,rfl,R,sm,rp⟩:=hu;have Q:=I1.Ag;have eu:u=.int n:=rp.inv;subst eu;obtain⟨g,rfl,ru⟩:∃g,us=[g]/\RelV (.int n) g:=by
  cases W with
  |cons r q=>cases q;exact⟨_,rfl,r⟩
 refine⟨rfl,(show 1<=FB by decide),Q.AE,λh' a B mk=>?_⟩;obtain⟨t,h1,_,_⟩:=id mk.there;have ED:=Q.td.fresh B;have J:=Q.laid (t':=E.toks) (a:=a) (o:=XO a C Z) mk.keeps B (oU h1);have r2:aA [V.ref a,V.int n] [Value.ref a,g]:=.cons M (.cons ru .nil);have Co:uT C [.ref a,.int n] (upd l a (XO a C Z)) (λv H2=>v=.non/\∃d j i,aC (upd l a (XO a C Z)) i/\i d=Z/\d≠a/\H2=upd (wo (upd i d (.frz j (.xd [("line",.int n)]))) a) a (XO a C (Y d))) (λ_ _ _=>False) :=
  ⟨a,n,rfl,hn,av,λd j i Kb hd ne=>⟨rfl,d,j,i,Kb,hd,ne,by
   funext b;by_cases z:b=a
   ·subst z;rw[ak (Yq ne),av,av]
   ·rw[ak z,pF z];by_cases y:b=d
    ·subst y;rw[av,av]
    ·rw[ak y,ak y,ak z]⟩⟩
 refine Xz (YN (Fo.run _ X.stack _ _ ⟨[.ref a,g],[]⟩ [.ref a,g] _ _ (λ_ _ _=>False) (hr.make C [g] []) (J.Ea.make C [g] []) (by
  have:=hb { E with heap:=h' } [.ref a,g] J.AE (by
   rw[ZL];exact(Fo.len _ _ _ _ Co))
  rw[ZL]at this;exact this) r2 Co) λr s' p=>?_)
 cases r with
 |error e=>exact False.elim p
 |ok fl =>
  cases fl with
  |ret u =>
   have there:∀b o,E.heap.get? b=Y o->∃o',s'.heap.get? b=Y o':=λb o q=>by
    obtain⟨v,i,_,_,un,_⟩:=id p;exact un.there b o (mk.keeps b o q) (λz=>nomatch z)
   obtain⟨v,i,I3,W,ev,d,j,H3,FZ,hd,ne,eH⟩:=J.after p;subst ev;subst eH;obtain⟨⟨t3,he⟩,_⟩:=I3.td a _ av;have I4:=I3.drop mE;have Iz:aC H (wo (upd H3 d (.frz j (.xd [("line",.int n)]))) a):=sm.trans λb o q=>by
    have nb:=aY q ED;have q3:=FZ b o (by rw[ak nb];exact q);rw[pF nb,ak (aY q3 hd)];exact q3
   refine⟨W,I3.AE,⟨_,t3,he⟩,?_⟩;refine kk S O _ (sr.same Iz) (Ao.same Iz) _ (Y d) hm ⟨d,j,rfl,by rw[pF ne,av]⟩ h _ a E.heap I4 (CY.here Q hex there) ⟨mk.new,mE,_,_,he,⟨rfl,rfl⟩,rfl,(by decide:1<6),.inl M⟩
  |next=>exact False.elim p
  |brk=>exact False.elim p
  |cont=>exact False.elim p
def xX(C:FM)(c:Ex):TS:=λD O H=>∃a n,O=[Y (.ref a),Y (.int n)]/\H a=Y (XO a C Z)/\(c [Z,Y (.pu (.int n))]).isSome=J/\∀d f b,aC H b->b d=Z->d≠a->D.nx O (upd (upd b a (XO a C (Y d))) d (.frz f (.xd [("line",.int n)])))
def pA{X:Cx}{pos:Pos}{I:Pos}(S:jC X.K C q fI=J)(hg:Gl X p)(hm:X.mg p=Y (.ref q))(Au:K2 p)(HC:PySem.W.specialIn X.K (.ref q) "__getattribute__" = Y (Y (.builtin "type.__getattribute__")))(z:PySem.W.readsIn X.K q (.type "type")=J)(hf:PySem.W.findCls X.K (.ref q) (.type "type") "__init__" = Y (.val (.builtin "ValueError.__init__")))(hh:PySem.W.handedIn (.builtin "ValueError.__init__")=J)(U:h7 X.K C q=J)(LD:PySem.W.findIn X.K (.ref C) "__setattr__" = Y (Y (.builtin "object.__setattr__")))(hl:PySem.W.findIn X.K (.ref C) "line" = Y Z)(h0:PE X (.Name "self" o) (oO 0))(My:PE X (.Name "self" y) (oO 0))(h1:PE X (.Name "line" w) (oO 1))(Mc:PV G X g E)(M:KB [.Name "self" o,g] X.env=(L,eval (.Name "self" o) X.env) :: KB [g] X.env)(Hn:K0 g [] X)(Ar:(backTo cv (KB [g] X.env)).any (·.1)=L)(Cn:swapsWith (.Call (.Attribute (.Name p s) "__init__" b) [.Name "self" o,g] [] cv) Z pos.line X.env=pure L)(R:eval (.Call (.Attribute (.Name p s) "__init__" b) [.Name "self" o,g] [] cv) X.env=(do
   let A ← eval (.Name p s) X.env
   standAt b.atName
   let (f,first) ← holding [A] (getMethod A "__init__" P)
   callWith cv f first (backTo cv (KB [.Name "self" o,g] X.env)) (backToKw cv (NC [] X.env))))(Hl:swapsWith (.Name "line" w) (Y (.Attribute (.Name "self" y) "line" l)) I.line X.env=pure L) :
  PSs X [.Expr (.Call (.Attribute (.Name p s) "__init__" b) [.Name "self" o,g] [] cv) pos,.Assign [.Attribute (.Name "self" y) "line" l] (.Name "line" w) I] (xX C E) :=
 PSs.weak (ig (rW S hg hm Au HC z hf hh (bH h0 (bH Mc dq Hn) M) M Ar Cn R) (aD (uo U LD hl My h1 Hl))) λD O H h=>by
  obtain⟨a,n,rfl,B,hc,k⟩:=h;obtain⟨⟨m,t⟩,ec⟩:=Option.isSome_iff_exists.mp hc;have N:SR G (λ_=>[]) [Z,Y (.pu (.int n))] [Y (.ref a),Y (.int n)] H:=by
   refine⟨rfl,λi c h=>?_,λi t h=>?_,λi j t c h=>?_⟩
   ·rcases i with _ | _ | i
    ·cases h
    ·cases h;exact⟨_,rfl,.int n⟩
    ·cases h
   ·rcases i with _ | _ | i<;>cases h
   ·rcases i with _ | _ | i<;>cases h
  refine⟨.ref a,rfl,_,_,m,t,N,ec,λu H' F v r f=>⟨a,u,rfl,v _ _ B,?_⟩⟩;exact⟨.int n,rfl,.ref a,rfl,a,n,rfl,rfl,v _ _ B,λd Q hd ne=>k d Q H' v hd ne⟩
end
section
variable{K:Xe}
def uy{cf:Ex}(F:AY K "__init__" b e f i)(y:lp ["self", "line"] ["self", "line"] (ai e))(z:∀n,0<=n/\n<=300->(cf [Z,Y (.pu (.int n))]).isSome=J)(v:∀(g:FS)(A:NB)(outer:List PySem.Env)(s:AC)(H:Hp)(E:XK),Aa k (A.deeper (envOfC b (ai e) s.heap.objs.size f g))->PSs (fV Bu P w K mg base ["self", "line"] b (ai e) f g A outer s H E).Bs (aF e) (xX C cf))(r:jC K C j f=J)(I:PySem.W.isFn K (.ref f)=J)(u:mg x=Y (.ref C))(D:Binds K i ["self", "line"] []):Ai P w K mg base (k+1) x C:=by
 refine⟨f,i,j,["self", "line"],F.ok y (λl H Q E h=>?_) (λg A outer s H l Q E q h=>⟨_,v g A outer s H E q,?_⟩),r,I,u,D⟩
 ·obtain⟨a,n,rfl,_⟩:=h;rfl
 ·obtain⟨a,n,rfl,t,p,k⟩:=h;exact⟨a,n,rfl,p,z n t,λd o B m hd ne=>k d o B m hd ne⟩
end
end VS
end
section
namespace VS
open PySem PySem.Spec PyProof.Rows L2 XN
section
noncomputable def cS(g:Tg)(b:AA):Wc->VS.Env->Option CL
 |[],U=>Y (.ok (.nx U))
 |t :: r,U=>(g t U).bind λd=>(b d).bind λo=>match o with
  |.ok (.nx a)=>cS g b r a
  |.ok (.ct a)=>cS g b r a
  |.ok (.bk a)=>Y (.ok (.nx a))
  |.ok (.rt v a)=>Y (.ok (.rt v a))
  |.ex x a=>Y (.ex x a)
def pd(g:Tg)(a:Bt)(b:AA):AA:=λU=>(a U).bind λp=>if G0 p.1 then cS g b p.2 U else Z
def lF{tgt:Tg}{body:AA}{l:Wc}{U:VS.Env}(h:l[i]?=Y t):cS tgt body (l.drop i) U=((tgt t U).bind λd=>(body d).bind λo=>match o with
  |.ok (.nx a)=>cS tgt body (l.drop (i+1)) a
  |.ok (.ct a)=>cS tgt body (l.drop (i+1)) a
  |.ok (.bk a)=>Y (.ok (.nx a))
  |.ok (.rt v a)=>Y (.ok (.rt v a))
  |.ex x a=>Y (.ex x a)):=by
 obtain⟨b,rfl⟩:=Zs.mp h;rw[Yv b];rfl
def uw(hq:FU G X (pd g ci Q) D O H):xi (tI G ci) (tG G g) (FU G X Q) D O H:=by
 refine L2.aw λP_ k_=>?_;obtain⟨S,U,o,s,e,k⟩:=hq;obtain⟨⟨m,l⟩,el,e1⟩:=zZ.mp e;refine k_ ?_;dsimp only at e1;split at e1
 ·rename_i hm;refine⟨S,U,m,l,s,el,λJ I C e2 ok fc=>?_⟩;have Il:∀a∈C,¬bE S U a:=λa y z=>by
   rcases fc a y with q | q | q
   ·exact Ak.pe (s.Aw z) q
   ·exact s.BX z q
   ·exact(λz=>by rw[z]at hm;cases hm) q.1
  refine⟨λi n O2 E=>n=l.length-i/\∃N B,SR G N B O2 E/\Ao S U H N B E/\Kept I E/\(∀a∈C,∀o,I a=Y o->E a=Y o/\¬bE N B a)/\cS g Q (l.drop i) B=Y o,
   ⟨l.length-0,rfl,S,U,s.same e2,Ao.same e2,Kept.refl _,λa y p A=>⟨A,Il a y⟩,by rw[Y6];exact e1⟩,?_⟩
  rintro i n O2 E ⟨rfl,N,B,W,f2,kp,con,e3⟩;obtain⟨go,stop⟩:=ok.run E kp λa y p A=>(con a y p A).1;cases hit:l[i]? with
  |none =>
   have hl:=Yd.mp hit;left;rw[Yl hl]at e3;cases (e3);exact⟨stop i hl,k N O2 E W f2⟩
  |some t =>
   have hl:=(Zs.mp hit).1;right;obtain⟨g1,y1⟩:=go i t hit;rw[lF (tgt:=g) (body:=Q) (U:=B) hit]at e3;obtain⟨R,e4,e5⟩:=zZ.mp (e3);obtain⟨p,e6,P⟩:=zZ.mp e5;refine⟨g1,λr d=>∃b j,SR G b j r d/\Ao S U H b j d/\Kept I d/\(∀a∈C,∀o,I a=Y o->d a=Y o/\¬bE b j a)/\cS g Q (l.drop (i+1)) j=Y o,λr d ⟨b,j,q⟩=>⟨l.length-(i+1),by omega,rfl,b,j,q⟩,λx H3 yl=>?_⟩;obtain⟨M,F,rF,hF⟩:=y1 x H3 yl;refine⟨N,B,t,F,R,(W.same M),rF,(λa y z=>by
    rcases hF a y with q | q
    ·have Bf:=ok.Ay a q;cases A:I a with
     |none=>exact Bf A
     |some G8=>exact(con a q G8 A).2 z
    ·exact Ak.pe (W.Aw z) q),e4,λS3 O3 s4 o3 p3=>?_⟩
   have f3:Ao S U H S3 R H3:=⟨λa p h n=>let ⟨h1,n1⟩:=f2.keep a p h n;⟨M a p h1,λz=>n1 (o3 a z)⟩,λa h z=>f2.Ay a h (M.free z),λa h=>f2.ow a (o3 a h),λa h=>by
    rcases p3 a h with h | h
    ·exact f2.pu a h
    ·rcases hF a h with q | q
     ·rcases fc a q with q | q | q
      ·exact .inr (.inr q)
      ·exact .inl q
      ·exact .inr (.inl q.2)
     ·exact .inr (.inr (f2.none q)),f2.kept.trans (Kept.of M)⟩
   have next:∀{b j d},Ao S3 R H3 b j d->Kept I d/\∀a∈C,∀o,I a=Y o->d a=Y o/\¬bE b j a:=λf =>
    ⟨(kp.trans (Kept.of M)).trans f.kept,λa y p A=>by
     obtain⟨h1,n1⟩:=con a y p A;exact f.keep a p (M a p h1) λz=>n1 (o3 a z)⟩
   refine⟨S3,R,p,s4,e6,?_⟩;cases p with
   |ex x j =>
    cases (P);exact λb r d w f=>k b r d w (f3.trans f)
   |ok p =>
    cases p with
    |nx j=>exact λb r d w f=>⟨b,j,w,f3.trans f,(next f).1,(next f).2,P⟩
    |ct j=>exact λb r d w f=>⟨b,j,w,f3.trans f,(next f).1,(next f).2,P⟩
    |bk j =>
     cases (P);exact λb r d w f=>k b r d w (f3.trans f)
    |rt v j =>
     cases (P);exact λu d F4 b r w f r5 q5=>k u d F4 b r w (f3.trans f) r5 (q5.back f3)
 ·cases e1
def zc{X:Cx}(i:PassesOwn (Da X.prog X.w) X.A X.env X.xe)(m:X.calm=J)(j:PVI G X tg a d)(l:EJ G X tg g)(n:gD G X b e)(f:{`q2,∀x,NI a X.env x=pure x}):PSX G X (.For tg a b [] pos) (pd g d e):=PS.weak (qk i m j l n f) λD O H h=>uw h
end
end VS
end
section
namespace VS
open PySem PySem.Spec PyProof.Rows L2 XN XI
section
variable{K:Xe}
def qL(F:AY K x x a f i)(m:mg x=Y (.ref f))(o:lp N b (ai a))(j:b.length=g)(l:N.length=h)(p:∀(kV doc pm:FS)(an:Option FM)(d ct:FS)(e:Wk),e.length=b.length->bindArgs (PySem.W.fnOf x x (aN a) (aF a) (ai a) .none kV doc pm an d ct) ⟨e,[]⟩=pure (b.zip e))(n:∀(d:FS)(A:NB)(outer:List PySem.Env)(s:AC)(H:Hp)(E:XK),Aa k (A.deeper (envOfC x (ai a) s.heap.objs.size f d))->gD G (fV (Dn P w base) P w K mg base N x (ai a) f d A outer s H E) (aF a) c) :
  FnXt P w K mg base (k+1) x b G (Df g h c):=⟨f,i,fnX F o j l n,m,F.kp,F.binds p⟩
end
end VS
end
section
namespace T52
open VS
def bz:Fn:=fn 1 1
  (dv (dX (DA .str (af 0)) (eN gk (ae (dw 1 (cP 0) (iF (af 0)) Z (cL oLe oLe (eC (.str [97])) (af 0) (eC (.str [122])))) ah))))
def aK:Fn:=fn 2 2
  (aE (BU (Dg (eQ (cL oLe oLe (Q3 1) (eN cQ (ae (af 0) ah)) (af 1))) (dX (e2 oEq (e2 bh (af 0) (Q3 0)) (eC (.str [48]))) (e2 Et (eN cQ (ae (af 0) ah)) (Q3 1)))) (dv (eC (.bl L))) fN)
  (dv (eN gk (ae (dw 1 (cP 0) (iF (af 0)) Z (cL oLe oLe (eC (.str [48])) (af 0) (eC (.str [57])))) ah))))
def g8:Fn:=fn 1 1
  (dv (e2 oEq (eN jH (ae (af 0) ah)) (eN fe (ae (af 0) ah))))
def bA:Fn:=fn 1 1
  (dv (dX (aX bz (ae (Aq (af 0) Z (Y (Q3 1))) ah)) (dX (e2 oEq (Aq (af 0) (Y (Q3 1)) (Y (Q3 2))) (eC (.str [58]))) (aX aK (ae (Aq (af 0) (Y (Q3 2)) Z) (ae (Q3 9) ah))))))
def aL:Fn:=fn 1 4
  (aE (bf 1 (eM cu (af 0) (ae (eC (.str [32])) ah)))
  (aE (bf 2 (Aq (af 1) (Y (Q3 3)) Z))
  (aE (BU (Dg (e2 oLt (eN cQ (ae (af 1) ah)) (Q3 3)) (eQ (eN gk (ae (dw 1 (cP 0) (iF (af 2)) Z (aX bA (ae (af 0) ah))) ah)))) (dv (eC (.bl L))) fN)
  (aE (bf 3 (DB (e2 oEq (e2 bh (af 1) (Q3 2)) (eC (.str [45]))) (Aq (af 1) Z (Y (Q3 2))) (Aq (af 1) Z (Y (Q3 3)))))
  (dv (dX (eN gk (ae (dw 1 (cP 0) (iF (af 3)) Z (aX aK (ae (af 0) (ae (Q3 9) ah)))) ah)) (aX g8 (ae (dw 1 (cP 0) (iF (af 2)) Z (e2 bh (af 0) (Q3 0))) ah))))))))
def cB:Fn:=fn 1 4
  (aE (bf 1 (eM cu (af 0) (ae (eC (.str [32])) ah)))
  (aE (bf 2 (DB (e2 oEq (e2 bh (af 1) (Q3 2)) (eC (.str [45]))) (eC .non) (eN eV (ae (e2 bh (af 1) (Q3 2)) ah))))
  (aE (bf 3 (eN gx (ae (dw 1 (cP 0) (iF (Aq (af 1) (Y (Q3 3)) Z)) Z (lL (ae (e2 bh (af 0) (Q3 0)) (ae (eN eV (ae (Aq (af 0) (Y (Q3 2)) Z) ah)) ah)))) ah)))
  (dv (lL (ae (eN eV (ae (e2 bh (af 1) (Q3 0)) ah)) (ae (eN eV (ae (e2 bh (af 1) (Q3 1)) ah)) (ae (af 2) (ae (af 3) ah)))))))))
def aJ:Cq:=Df 1 4
  (iz (Dp (eQ (DA .str (af 0))) (gu ("NoTable" : PySem.Str) (Q3 0)) (sL fN))
  (iz (sL (mr 1 (b9 ah)))
  (iz (pd (nM [(cP 2),(cP 3)]) (mT (eM cu (af 0) (ae (eC (.str [10])) ah)))
  (iz (Dp (Dg (e2 Eu (af 2) (Q3 300)) (eQ (aX aL (ae (af 3) ah)))) (gu ("NoTable" : PySem.Str) (af 2)) (sL fN))
  (sL (sX (iw 1 [] bT (ae (aX cB (ae (af 3) ah)) ah))))))
  (sL (mR 1)))))
def jA:Fn:=CM aJ
def aU:Fn:=fn 2 2
  (aE (BU (e2 oLt (af 1) (eN cQ (ae (af 0) ah))) (dv (e2 bh (af 0) (af 1))) fN)
  (dv (Q3 0)))
def cZ:Fn:=fn 2 3
  (aE (bf 2 (e2 oMod (e2 au (e2 au (e2 oMod (af 0) (Q3 2147483629)) (e2 ip (Q3 48271) (af 1))) (Q3 11)) (Q3 2147483629)))
  (aE (bf 2 (e2 au (e2 oMod (e2 ip (af 2) (af 2)) (Q3 2147483629)) (e2 ip (Q3 7919) (af 1))))
  (dv (e2 oMod (e2 ip (af 2) (af 2)) (Q3 2147483587)))))
def cy:Sx :=
  (bf 4 (e2 au (e2 au (e2 au (e2 au (af 4) (eC (.str [32]))) (e2 bh (eC (.str [97,98,99,100,101,102])) (e2 au (af 5) (e2 oMod (af 3) (Q3 3))))) (eC (.str [58]))) (eN eW (ae (e2 oMod (e2 dh (af 3) (e2 au (Q3 3) (af 5))) (Q3 90)) ah))))
def cm:Sx :=
  (aE (bf 3 (aX cZ (ae (aX aU (ae (af 0) (ae (Q3 1) ah))) (ae (af 2) ah))))
  (aE (bf 4 (e2 au (e2 au (e2 au (e2 au (eN eW (ae (e2 oMod (af 3) (Q3 7)) ah)) (eC (.str [32]))) (eN eW (ae (e2 oMod (e2 dh (af 3) (Q3 7)) (Q3 50)) ah))) (eC (.str [32]))) (e2 bh (b9 (ae (eC (.str [45])) (ae (eN eW (ae (e2 oMod (e2 dh (af 3) (Q3 350)) (Q3 60)) ah)) ah))) (e2 oMod (af 3) (Q3 2)))))
  (aE (lW (cP 5) (dC (e2 oMod (e2 dh (af 3) (Q3 50)) (Q3 4))) cy)
  (sX (iw 1 [] bT (ae (af 4) ah))))))
def de:Fn:=fn 1 6
  (aE (mr 1 (b9 ah))
  (aE (lW (cP 2) (dC (e2 au (Q3 1) (e2 oMod (aX aU (ae (af 0) (ae (Q3 0) ah))) (Q3 12)))) cm)
  (mR 1)))
def bX:Fn:=fn 2 6
  (aE (bf 2 (eM cu (af 0) (ae (eC (.str [32])) ah)))
  (aE (bf 3 (e2 oMod (e2 dh (af 1) (Q3 32)) (eN cQ (ae (af 2) ah))))
  (aE (bf 4 (b9 (ae (eC (.str [])) (ae (e2 au (af 0) (eC (.str [32]))) (ae (e2 au (eC (.str [32])) (af 0)) (ae (kW 0 32 [32,32]) (ae (eM cA (eC (.str [32])) (ae (Aq (af 2) Z (Y (Q3 2))) ah)) (ae (eM cA (eC (.str [32])) (ae (Aq (af 2) Z (Y (Q3 1))) ah)) ah))))))))
  (aE (bf 4 (e2 au (af 4) (b9 (ae (e2 au (eC (.str [48])) (af 0)) (ae (e2 au (eC (.str [43])) (af 0)) (ae (e2 au (eC (.str [45])) (af 0)) (ae (e2 au (eC (.str [49,50,51,52,53,54,55,56,57,48,32])) (af 0)) (ae (e2 au (af 0) (eC (.str [32,97]))) (ae (e2 au (af 0) (eC (.str [32,97,58]))) (ae (e2 au (af 0) (eC (.str [32,58,49]))) ah))))))))))
  (aE (bf 4 (e2 au (af 4) (b9 (ae (e2 au (af 0) (eC (.str [32,122,58,49,32,122,58,50]))) (ae (e2 au (af 0) (eC (.str [32,122,58,49,32,97,58,50]))) (ae (e2 au (af 0) (eC (.str [32,90,58,49]))) (ae (e2 au (af 0) (eC (.str [32,122,122,58,49]))) (ae (e2 au (af 0) (eC (.str [32,122,58,48,49]))) (ae (e2 au (af 0) (eC (.str [32,122,58,49,32,50]))) ah)))))))))
  (aE (bf 4 (e2 au (af 4) (b9 (ae (eM cA (eC (.str [32])) (ae (e2 au (e2 au (Aq (af 2) Z (Y (af 3))) (b9 (ae (eC (.str [120])) ah))) (Aq (af 2) (Y (e2 au (af 3) (Q3 1))) Z)) ah)) (ae (e2 au (af 0) (eC (.str [32,122,58,45,49]))) (ae (e2 au (af 0) (eC (.str [32,122,59,49]))) (ae (e2 au (af 0) (eC (.str [32,122,58,49,50,51,52,53,54,55,56,57,48]))) ah)))))))
  (aE (bf 5 (e2 au (e2 au (e2 bh (af 2) (Q3 0)) (eC (.str [32]))) (e2 bh (af 2) (Q3 1))))
  (aE (bf 4 (e2 au (af 4) (b9 (ae (e2 au (af 5) (eC (.str [32,46,32]))) (ae (e2 au (af 5) (eC (.str [32,78,111,110,101]))) (ae (e2 au (e2 au (e2 au (e2 bh (af 2) (Q3 0)) (eC (.str [44]))) (e2 bh (af 2) (Q3 1))) (eC (.str [32,48]))) ah))))))
  (dv (e2 bh (af 4) (e2 oMod (af 1) (Q3 26))))))))))))
def aM:Fn:=fn 3 6
  (aE (mr 3 (b9 ah))
  (aE (BU (af 2) (aE (qR (DF (λc=>sX (xP c)) (fg aJ (ae (af 0) ah))) 5 (Ge ("NoTable" : PySem.Str)) (aE (mr 3 (b9 (ae (iB (λ_=>Y J) (af 5)) (ae (iB (λ_=>Y J) (af 5)) ah))))
  (sX (iw 3 [] bT (ae (iB (λ_=>Y L) (af 5)) ah)))))
  (dv (e2 oEq (af 3) (b9 (ae (eC (.bl J)) (ae (eC (.bl J)) (ae (eC (.bl L)) ah))))))) fN)
  (aE (uq 3)
  (aE (bf 4 (eC .non))
  (aE (qR (DF (λc=>sX (xP c)) (fg aJ (ae (af 0) ah))) 5 (Ge ("NoTable" : PySem.Str)) (bf 4 (uJ (af 5))))
  (dv (dX (DA .int (af 4)) (dX (eQ (DA .bool (af 4))) (e2 oEq (af 4) (af 1))))))))))
def fH:Sx :=
  (aE (bf 3 (e2 au (aX aU (ae (af 0) (ae (e2 au (Q3 3) (af 2)) ah))) (e2 ip (Q3 9576890767) (af 2))))
  (aE (bf 4 (e2 oMod (e2 dh (af 3) (Q3 7)) (eN cQ (ae (af 1) ah))))
  (aE (mr 5 (e2 au (e2 au (Aq (af 1) Z (Y (af 4))) (b9 (ae (aX bX (ae (e2 bh (af 1) (af 4)) (ae (e2 dh (af 3) (Q3 91)) ah))) ah))) (Aq (af 1) (Y (e2 au (af 4) (Q3 1))) Z)))
  (aE (BU (dX (e2 oEq (e2 oMod (af 3) (Q3 5)) (Q3 0)) (e2 oLt (e2 au (af 4) (Q3 1)) (eN cQ (ae (af 1) ah)))) (kf 5 [] (e2 sT (eN cQ (ae (af 5) ah)) (Q3 1)) (eC (.str [120]))) fN)
  (aE (uq 5)
  (aE (BU (eQ (aX aM (ae (eM cA (eC (.str [10])) (ae (af 5) ah)) (ae (af 4) (ae (e2 oEq (e2 oMod (af 3) (Q3 3)) (Q3 0)) ah))))) (dv (eC (.bl L))) fN)
  (BU (eQ (aX aM (ae (e2 bh (b9 (ae (eC .non) (ae (Q3 5) (ae (eC (.bl J)) (ae (af 5) (ae (lL (ae (eC (.str [48,32,48,32,45])) ah)) (ae (uf 0 []) (ae (Q3 0) ah)))))))) (e2 oMod (af 3) (Q3 7))) (ae (Q3 0) (ae (e2 oEq (e2 oMod (af 3) (Q3 2)) (Q3 0)) ah))))) (dv (eC (.bl L))) fN)))))))
def qm:Fn:=fn 1 7
  (aE (bf 1 (aX de (ae (af 0) ah)))
  (aE (lW (cP 2) (dC (Q3 16)) fH)
  (aE (BU (eQ (aX aM (ae (eM cA (eC (.str [10])) (ae (e2 au (af 1) (b9 (ae (eC (.str [])) ah))) ah)) (ae (eN cQ (ae (af 1) ah)) (ae (eC (.bl L)) ah))))) (dv (eC (.bl L))) fN)
  (aE (bf 6 (Aq (e2 jZ (af 1) (Q3 301)) Z (Y (Q3 301))))
  (dv (dX (aX aM (ae (eM cA (eC (.str [10])) (ae (af 6) ah)) (ae (Q3 300) (ae (eC (.bl L)) ah)))) (e2 oEq (eN cQ (ae (aX jA (ae (eM cA (eC (.str [10])) (ae (Aq (af 6) Z (Y (Q3 300))) ah)) ah)) ah)) (Q3 300))))))))
end T52
end
section
namespace VS
def Ae{f:Val->Val->Wd}{a b:Ex}{x y:Val}(g:a U=Y x)(e:b U=Y y)(d:f x y=Y z):e2 f a b U=Y z:=by
 show (a U).bind _=_;rw[g,Zw,e];exact d
def xv{r:As}{x:Val}{b:We}(e:a U=Y x)(d:r U=Y b):ae a r U=Y (x :: b):=by
 show (a U).bind _=_;rw[e,Zw,d];rfl
def xJ{m:Md}(h:c U=Y (m,.bl J)):BU c a b U=a U:=by
 show (c U).bind _=_;rw[h];rfl
def yR{m:Md}(h:c U=Y (m,.bl L)):BU c a b U=b U:=by
 show (c U).bind _=_;rw[h];rfl
def fi{v:Val}(h:a U=Y b)(d:f b=Y v):eN f a U=Y v:=by
 show (a U).bind f=_;rw[h,Zw,d]
def br(h:e U=Y (.fr,t)):dv e U=Y (.rt (.fr,t) U):=by
 show (e U).bind _=_;rw[h];rfl
def eE{U1:Env}(h:a U=Y (.rt v U1)):aE a b U=Y (.rt v U1):=by
 show (a U).bind _=_;rw[h];rfl
def gq(h:a U=Y (.nx d)):aE a b U=b d:=by
 show (a U).bind _=_;rw[h];rfl
def sq{a b:Sx}{U1:Env}{r:Option Out}(h:a U=Y (.nx U1))(q:b U1=r):aE a b U=r:=(gq h).trans q
def Ey{m:Md}(h:c U=Y (m,.bl J))(q:a U=r):BU c a b U=r:=(xJ h).trans q
def jR{b:Sx}{m:Md}{r:Option Out}(h:c U=Y (m,.bl L))(q:b U=r):BU c a b U=r:=(yR h).trans q
def bM{b:Sx}{a:Wc}{v:Val}{U:Env}(f:a.length=d)(h:b (a.map (λt=>Y (.pu t))++List.replicate (e-d) Z)=Y (.rt v U)):fn d e b a=Y v:=by
 unfold fn;rw[Zq f,h];rfl
def rJ{m:Md}{x:Bool}{v:Val}(f:a U=Y (m,.bl x))(e:x=J->b U=Y v)(d:x=L->v=(.fr,.bl L)):dX a b U=Y v:=by
 show (a U).bind _=_;rw[f,Zw];cases x with
 |true=>exact e M
 |false=>exact congrArg Y (d M).symm
def nt{U:Env}{m:Md}{x:Bool}{v:Val}(f:a U=Y (m,.bl x))(e:x=L->b U=Y v)(d:x=J->v=(.fr,.bl J)):Dg a b U=Y v:=by
 show (a U).bind _=_;rw[f,Zw];cases x with
 |false=>exact e M
 |true=>exact congrArg Y (d M).symm
def fY{a b:Ex}{U:Env}{m n:Md}{x y:Bool}(f:a U=Y (m,.bl x))(d:b U=Y (.fr,.bl y)):dX a b U=Y (.fr,.bl (x&&y)):=rJ f (λe=>by rw[e];exact d) (λe=>by rw[e];rfl)
def F9{b:Ex}{m n:Md}{x y:Bool}(f:a U=Y (m,.bl x))(d:b U=Y (.fr,.bl y)):Dg a b U=Y (.fr,.bl (x||y)):=nt f (λe=>by rw[e];exact d) (λe=>by rw[e];rfl)
def dr{U:Env}{m:Md}{b:Bool}(h:a U=Y (m,.bl b)):eQ a U=Y (.fr,.bl (!b)):=by
 show (a U).bind _=_;rw[h];rfl
def gA{x y z v:Val}(j:a U=Y x)(i:b U=Y y)(h:f x y=Y (.fr,.bl J))(e:c U=Y z)(d:g y z=Y v):cL f g a b c U=Y v:=by
 show (a U).bind _=_;rw[j,Zw,i,Zw,h,Zw];rw[e];exact d
def mW{x y:Val}(h:a U=Y x)(e:b U=Y y)(d:f x y=Y (.fr,.bl L)):cL f g a b c U=Y (.fr,.bl L):=by
 show (a U).bind _=_;rw[h,Zw,e,Zw,d];rfl
def uF{n:Nat}{i:Int}(b:0<=i)(a:i<n):Be n i=Y i.toNat:=by rw[Be,Zq b,Zq a]
def xK(a:i<n):Be n (i:Int)=Y i:=by
 rw[Be,Zq (YA i),Zq (Wt.mpr a)];rfl
def rU(l:Wh)(i:Int)(b:0<=i)(a:i<l.length):bh (m,.scr l) (n,.int i)=Y (.fr,.int (l.getD i.toNat 0)):=by
 show (Be l.length i).bind _=_;rw[uF b a,Zw,ZQ,Zm (by lia)];rfl
def ir(t:Tx)(i:Int)(b:0<=i)(a:i<t.length):bh (m,.str t) (n,.int i)=Y (.fr,.str [t.getD i.toNat 0]):=by
 show (Be t.length i).bind _=_;rw[uF b a,Zw,ZQ,Zm (by lia)];rfl
def dQ{m:Md}{a b:T}{r:Bool}(e:Bo 60 a=J)(d:Bo 60 b=J)(h:eqT a b=r):oEq (m,a) (n,b)=Y (.fr,.bl r):=by
 show (if Bo 60 a/\Bo 60 b then Y (Md.fr,T.bl (eqT a b)) else Z)=_;rw[Zq ⟨e,d⟩,h]
def pG{i:Nat}{U:Env}{l:Wc}{v:T}(d:U[i]?=Y (Y (.ow (.lst l))))(b:e U=Y (.fr,v))(a:l.length<16777216):sX (iw i [] bT (ae e ah)) U=Y (.nx (U.set i (Y (.ow (.lst (l++[v])))))):=by
 unfold sX iw;rw[d];show ((Y ([])).bind _ |>.map _)=_;rw[Zw,(xv b M),Zw];show ((bT (.lst l) [(.fr,v)]).map _ |>.map _)=_;rw[lJ a];rfl
def bL{m n:Md}{x y:Tx}(e:a U=Y (m,.str x))(d:b U=Y (n,.str y))(h:x.length+y.length<=16777216):e2 au a b U=Y (.fr,.str (x++y)):=Ae e d (q8 h)
def dJ{as:As}{U:Env}(l:List Tx)(h:as U=Y (l.map λx=>(Md.fr,T.str x)))(a:l.length<=16777216):b9 as U=Y (.fr,.lst (l.map .str)):=by
 unfold b9;rw[h,Zw];have e:trees (l.map λx=>(Md.fr,T.str x))=l.map T.str:=by unfold trees;rw[Z0];rfl
 rw[e,gU (by rw[zT];exact a),d4 _ (λ_=>rfl) l];rfl
def dE{a b:Ex}{U:Env}{m n:Md}{x y:List Tx}(e:a U=Y (m,.lst (x.map .str)))(d:b U=Y (n,.lst (y.map .str)))(h:x.length+y.length<=16777216):e2 au a b U=Y (.fr,.lst ((x++y).map .str)):=by
 refine Ae e d ?_;rw[qG,← Z6,gU (by rw[zT,zW];exact h),d4 _ (λ_=>rfl) _];rfl
def iO{U1:Env}(h:a U=Y (.ok (.nx U1))):iz a b U=b U1:=by
 unfold iz;rw[h];rfl
def pf(h:a U=Y (.ex x d)):iz a b U=Y (.ex x d):=by
 unfold iz;rw[h];rfl
def qo{xs:We}(h:a U=Y xs)(b:g (trees xs)=Y (.ex x)):fg g a U=Y (.ex x):=by
 unfold fg;rw[h,Zw,b];rfl
def x8(h:a U=Y (.ex x)):DF b a U=Y (.ex x U):=by
 unfold DF;rw[h];rfl
def xx{a:Wc}{U:Env}(f:a.length=d)(h:b (a.map (λt=>Y (.pu t))++List.replicate (e-d) Z)=Y (.ok (.rt v U))):Df d e b a=Y (.ok v):=by
 unfold Df;rw[Zq f,h];rfl
def pO{a:Wc}{U:Env}(f:a.length=d)(h:b (a.map (λt=>Y (.pu t))++List.replicate (e-d) Z)=Y (.ex x U)):Df d e b a=Y (.ex x):=by
 unfold Df;rw[Zq f,h];rfl
def xo{v:Val}(h:g a=Y (.ok v)):CM g a=Y v:=by
 unfold CM;rw[h]
end VS
end
section
namespace T52
open VS
noncomputable abbrev pc(t:T):Wf:=Y (.pu t)
abbrev Q0(i:Int):Option Cell:=Y (.pu (.int i))
abbrev Q2(t:Tx):Option Cell:=Y (.pu (.str t))
noncomputable abbrev oc(t:T):Wf:=Y (.ow t)
noncomputable abbrev Row:=Nat×Nat×Option Nat×List (Nat×Nat)
noncomputable def Ew:Option Nat->T
 |none=>.non
 |some n=>.int (n:Int)
noncomputable def FW(l:List (Nat×Nat)):T:=.tup (l.map λp=>T.tup [.str [p.1],.int (p.2:Int)])
def qw(r:Row):T:=.tup [.int (r.1:Int),.int (r.2.1:Int),Ew r.2.2.1,FW r.2.2.2]
def Cm(t:List Row):T:=.lst (t.map qw)
theorem mQ:∀l:List (Nat×Nat),eR (l.map λp=>T.tup [.str [p.1],.int (p.2:Int)])=J
 |[]=>rfl
 |p :: l=>by
  rw[Zd];show (J&&eR _)=J;rw[mQ l];rfl
def pz(l:List (Nat×Nat)):AU (FW l)=J:=mQ l
def we(o:Option Nat):AU (Ew o)=J:=by cases o<;>rfl
def xU{α:Type}(f:α->T)(l:List α)(i:Nat)(d:α)(h:i<l.length):bh (m,.lst (l.map f)) (n,.int (i:Int))=Y (sub m (f (l.getD i d))):=by
 show (Be (l.map f).length (i:Int)).bind _=_;rw[zT,xK h,Zw,ZW,Zm h,ZQ,Zm h];rfl
def zk(h:a U=Y (.fr,x))(g:b U=Y (.fr,y))(f:c U=Y (.fr,z))(e:d U=Y (.fr,w)):lL (ae a (ae b (ae c (ae d ah)))) U=Y (.fr,.tup [x,y,z,w]):=by
 show (ae a (ae b (ae c (ae d ah))) U).bind nq=_;rw[xv h (xv g (xv f (xv (r:=ah) e M))),Zw];show Y (up .fr _)=_;unfold up;split<;>rfl
theorem fO{β:Type}{tg:Tg}{body:Sx}(g:β->T)(Inv:List β->Env->Prop)(h:∀t r U,Inv (t :: r) U->∃d a,tg (g t) U=Y d/\body d=Y (.nx a)/\Inv r a):∀(l:List β)(U:Env),Inv l U->∃b,forL tg body (l.map g) U=Y (.nx b)/\Inv [] b
 |[],U,hi=>⟨U,rfl,hi⟩
 |t :: l,U,hi=>by
  obtain⟨d,a,e1,e2,e⟩:=h t l U hi;obtain⟨b,e3,f⟩:=fO g Inv h l a e;exact⟨b,(sI e1 e2).trans e3,f⟩
noncomputable def cellAt(a:Wh)(k:Nat):Int:=a.getD k 0
def nX(a:Wh)(k:Nat):aU [.scr a,.int k]=Y (.fr,.int (cellAt a k)):=by
 by_cases h:k<a.length
 ·refine bM (U:=[pc (.scr a),Q0 k]) M (eE ((xJ (m:=.fr) ?_).trans (br (Ae (x:=(.fr,.scr a)) (y:=(.fr,.int k)) M M ?_))))
  ·refine Ae (x:=(.fr,.int k)) (y:=(.fr,.int (a.length:Int))) M M ?_;show Y (Md.fr,T.bl (decide ((k:Int)<(a.length:Int))))=_;rw[decide_eq_true (by omega)]
  ·rw[rU a k (by omega) (by omega),ZU];rfl
 ·refine bM (U:=[pc (.scr a),Q0 k]) M ((gq ((yR (m:=.fr) ?_).trans M)).trans (br ?_))
  ·refine Ae (x:=(.fr,.int k)) (y:=(.fr,.int (a.length:Int))) M M ?_;show Y (Md.fr,T.bl (decide ((k:Int)<(a.length:Int))))=_;rw[Zg (by omega)]
  ·unfold cellAt;rw[ZQ,Yt (by omega)];rfl
def jX{k:Nat}{m:Md}(b:af 0 U=Y (m,.scr a))(h:e U=Y (.fr,.int (k:Int))):aX aU (ae (af 0) (ae e ah)) U=Y (.fr,.int (cellAt a k)):=aG (xv b (xv (r:=ah) h M)) (nX a k)
def sD(c k:Int)(h:0<=k)(g:k<1000000):∃v,cZ [.int c,.int k]=Y (.fr,.int v):=by
 have f:=YQ (c%2147483629+48271*k+11) (b:=2147483629) (by decide);have e1:=Ye (c%2147483629+48271*k+11) (b:=2147483629) (by decide);generalize e:(c%2147483629+48271*k+11)%2147483629=n at f e1;have j:=YQ (n*n) (b:=2147483629) (by decide);have i:=Ye (n*n) (b:=2147483629) (by decide);have d:bf 2 (e2 oMod (e2 au (e2 au (e2 oMod (af 0) (Q3 2147483629)) (e2 ip (Q3 48271) (af 1))) (Q3 11)) (Q3 2147483629)) [Q0 c,Q0 k,Z]=Y (.nx [Q0 c,Q0 k,Q0 n]):=by
  refine ax (m:=.fr) (Ae (Ae (Ae (Ae (x:=(.fr,.int c)) (y:=(.fr,.int 2147483629)) M M (bU (by decide))) (Ae (x:=(.fr,.int 48271)) (y:=(.fr,.int k)) M M (gC (by decide))) M) (y:=(.fr,.int 11)) M M) (y:=(.fr,.int 2147483629)) M ?_) (by decide) (by show 2<3;decide);rw[bU (by decide),e]
 have a:bf 2 (e2 au (e2 oMod (e2 ip (af 2) (af 2)) (Q3 2147483629)) (e2 ip (Q3 7919) (af 1))) [Q0 c,Q0 k,Q0 n]=Y (.nx [Q0 c,Q0 k,Q0 (n*n%2147483629+7919*k)]) :=
  ax (m:=.fr) (Ae (Ae (Ae (x:=(.fr,.int n)) (y:=(.fr,.int n)) M M (gC (by omega))) (y:=(.fr,.int 2147483629)) M (bU (by decide))) (Ae (x:=(.fr,.int 7919)) (y:=(.fr,.int k)) M M (gC (by decide))) M) (by decide) (by show 2<3;decide)
 exact⟨_,bM (U:=[Q0 c,Q0 k,Q0 (n*n%2147483629+7919*k)]) M ((gq d).trans ((gq a).trans (br (Ae (Ae (x:=(.fr,.int (n*n%2147483629+7919*k))) (y:=(.fr,.int (n*n%2147483629+7919*k))) M M (gC (by omega))) (y:=(.fr,.int 2147483587)) M (bU (by decide))))))⟩
def oP{m:Md}{n:Nat}(e:a U=Y (m,.int (n:Int)))(h:n<100000):dC a U=Y (.fr,(List.range n).map λ(k:Nat)=>T.int (k:Int)):=by
 rw[lR e (by lia),qZ];rfl
def rX(t:Tx)(i L:Nat)(h:i<=t.length):cut t (Y (i:Int)) (Y ((i:Int)+(L:Int)))=(t.drop i).take L:=by
 have b:¬((i:Int)<0):=by lia
 have a:¬((i:Int)+(L:Int)<0):=by lia
 simp only[cut,clip,Zl b,Zl a,ZU];rw[show ((i:Int)+(L:Int)).toNat=i+L by lia,ZE h];by_cases q:i+L<=t.length
 ·rw[ZE q,show i+L-i=L by exact Nat.add_sub_cancel_left _ _]
 ·rw[Xw (by exact Xv q),Z2 (l:=t.drop i) (by simp),Z2 (l:=t.drop i) (by simp;lia)]
noncomputable abbrev G9:Nat:=1000000000
def tx(n:Nat):Tx:=gp (n:Int)
def nI(n:Nat):tx n=(Nat.toDigits 10 n).map Char.toNat:=PySem.W.KIN.signs_num n
def dig:∀d:Nat,d<10->(Nat.digitChar d).toNat=48+d:=by decide
def kx(h:n<10):tx n=[48+n]:=by
 rw[nI,Nat.toDigits_of_lt_base h,Zd,dig n h];rfl
def o7(h:10<=n):tx n=tx (n/10)++[48+n%10]:=by
 have a:n%10<10:=Nat.mod_lt n (by decide);have t:Nat.toDigits 10 (n/10)++Nat.toDigits 10 (n%10)=Nat.toDigits 10 (10*(n/10)+n%10):=Nat.toDigits_append_toDigits (by decide) (by omega) a;rw[Nat.div_add_mod]at t;rw[nI,← t,Z6,← nI,← nI,kx a]
def xr(n:Nat):∀c∈tx n,48<=c/\c<=57:=by
 induction n using Nat.strongRecOn with
 |_ n ih =>
  intro c hc;by_cases h:n<10
  ·rw[kx h]at hc;cases Zx.mp hc;omega
  ·rw[o7 (by omega)]at hc;rcases Zv.mp hc with hc | hc
   ·exact ih (n/10) (by omega) c hc
   ·cases Zx.mp hc;omega
theorem qz:∀(k n:Nat),n<10 ^ (k+1)->(tx n).length<=k+1
 |0,n,h=>by rw[kx (by simpa using h)];exact Zy _
 |k+1,n,h=>by
  by_cases g:n<10
  ·rw[kx g];exact Z7 (Yx _)
  ·have:=qz k (n/10) (by rw[Nat.pow_succ]at h;omega);rw[o7 (by omega),zW];exact Z7 this
def uM(n:Nat):∃c r,tx n=c :: r/\(c=48->r=[])/\(n≠0->49<=c):=by
 induction n using Nat.strongRecOn with
 |_ n ih =>
  by_cases h:n<10
  ·exact⟨48+n,[],kx h,λ_=>rfl,λz=>by omega⟩
  ·obtain⟨c,r,e,_,q⟩:=ih (n/10) (by omega);have:=q (by omega);exact⟨c,r++[48+n%10],by rw[o7 (by omega),e];rfl,λz=>by omega,λ_=>this⟩
structure Nm(t:Tx):Prop where
 hd:∃c r,t=c :: r/\(c=48->r=[])
 len:t.length<=9
 az:∀c∈t,48<=c/\c<=57
def cN{n:Nat}(h:n<G9):Nm (tx n):=by
 obtain⟨c,r,e,q,_⟩:=uM n;exact⟨⟨c,r,e,q⟩,qz 8 n h,xr n⟩
def kU{t:Tx}(h:t.length<=1000000)(a:∀c∈t,c<256):DH t=J:=by
 unfold DH;rw[YU];refine⟨decide_eq_true (by show t.length<=16777216;omega),ZK.mpr λc b=>decide_eq_true ?_⟩;have:=a c b;omega
def xk(h:n<G9):eW [(m,.int (n:Int))]=Y (.fr,.str (tx n)):=by
 have N:=cN h;refine Zq ⟨?_,kU (t:=tx n) (by have:=N.len;omega) λc a=>by have:=(N.az c a).2;omega⟩;show n.log2<1920;by_cases z:n=0
 ·subst z;decide
 ·rw[Nat.log2_lt z];exact YI h (by decide)
def o9(h:n<G9):wb (tx n)=Y (n:Int):=by
 have:=PySem.W.KIN.num_reads (n:=(n:Int)) (YA n) (by have:(n:Int)<(G9:Nat):=Wt.mpr h;exact Int.lt_trans this (by decide));unfold wb;rw[show sx (tx n)=PySem.Str.ofString (toString (n:Int)) by simp[sx,tx,gp]];exact this
def wL(h:n<G9):eV [(m,.str (tx n))]=Y (.fr,.int (n:Int)):=by
 refine(Zq (Zu (cN h).len (by decide))).trans ?_;rw[o9 h];rfl
def mF{m:Md}{n:Nat}(he:e U=Y (m,.int (n:Int)))(h:n<G9):eN eW (ae e ah) U=Y (.fr,.str (tx n)):=fi (xv (r:=ah) he M) (xk h)
def mS{m:Md}{n:Nat}(he:e U=Y (m,.str (tx n)))(h:n<G9):eN eV (ae e ah) U=Y (.fr,.int (n:Int)):=fi (xv (r:=ah) he M) (wL h)
def Ap(p:Nat×Nat):Tx:=p.1 :: 58 :: tx p.2
def BJ:Option Nat->Tx
 |none=>[45]
 |some k=>tx k
def xt(r:Row):List Tx:=tx r.1 :: tx r.2.1 :: BJ r.2.2.1 :: r.2.2.2.map Ap
def gV(r:Row):Tx:=ar [32] (xt r)
structure Ro(r:Row):Prop where
 lo:r.1<G9
 hi:r.2.1<G9
 lk:∀k,r.2.2.1=some k->k<G9
 ws:∀p∈r.2.2.2,97<=p.1/\p.1<=122/\p.2<G9
 up:r.2.2.2.Pairwise (λa b=>a.1<b.1)
 AV:r.2.2.2.length<=26
def lB(h:AU t=J):up m t=(.fr,t):=by unfold up;rw[Zq h]
def pU{r:Row}(h:Ro r):(BJ r.2.2.1).length<=9/\BJ r.2.2.1≠[]/\∀c∈BJ r.2.2.1,45<=c/\c<=57:=by
 cases e:r.2.2.1 with
 |none=>exact⟨by decide,by decide,by decide⟩
 |some k =>
  have N:=cN (h.lk k e);obtain⟨c,q,e,_⟩:=N.hd;exact⟨N.len,λz=>(by rw[show tx k=[] from z]at e;cases e),λc a=>by have:=N.az c a;omega⟩
def jx(h:Ro r):∀x∈xt r,x.length<=11/\∀c∈x,45<=c/\c<=122:=by
 intro x e;rcases Zz.mp e with rfl | e
 ·have N:=cN h.lo;exact⟨Zu N.len (by decide),λc d=>by have:=N.az c d;omega⟩
 rcases Zz.mp e with rfl | e
 ·have N:=cN h.hi;exact⟨Zu N.len (by decide),λc d=>by have:=N.az c d;omega⟩
 rcases Zz.mp e with rfl | e
 ·obtain⟨a,_,b⟩:=pU h;exact⟨Zu a (by decide),λc d=>by have:=b c d;omega⟩
 ·obtain⟨p,g,rfl⟩:=Z3.mp e;obtain⟨j,i,f⟩:=h.ws p g;have N:=cN f;refine⟨Z7 (Z7 N.len),λc d=>?_⟩;rcases Zz.mp d with rfl | d
  ·omega
  rcases Zz.mp d with rfl | d
  ·decide
  ·have:=N.az c d;omega
def cE(h:Ro r):(xt r).length<=29:=by
 have:=h.AV;unfold xt;rw[Zj,Zj,Zj,zT];omega
theorem hU(k:Nat):∀l:List Tx,(∀x∈l,x.length<=k)->total l<=l.length*k
 |[],_=>Yx _
 |a :: l,h=>by
  have e:=hU k l λx b=>h x (zV _ b);have d:=h a zU;show a.length+total l<=(l.length+1)*k;rw[Nat.succ_mul];omega
theorem fM(c:Nat):∀l:List Tx,(ar [c] l).length<=total l+l.length
 |[]=>Yx _
 |[x]=>by show x.length<=x.length+0+1;omega
 |x :: y :: r=>by
  have:=fM c (y :: r);show (x++[c]++ar [c] (y :: r)).length<=x.length+total (y :: r)+((y :: r).length+1);rw[zW,zW,Z5];omega
theorem hZ:∀{l:List Tx},y∈ar [c] l->y=c\/∃x∈l,y∈x
 |[x],h=>.inr ⟨x,zU,h⟩
 |x :: z :: r,h=>by
  rcases Zv.mp (show y∈x++[c]++ar [c] (z :: r) from h) with h | h
  ·rcases Zv.mp h with h | h
   ·exact .inr ⟨x,zU,h⟩
   ·exact .inl (Zx.mp h)
  ·rcases hZ h with h | ⟨q,b,a⟩
   ·exact .inl h
   ·exact .inr ⟨q,zV _ b,a⟩
def d7(h:Ro r):(gV r).length<=400/\∀c∈gV r,32<=c/\c<=122:=by
 have f:=jx h;have l:=cE h;have t:=hU 11 (xt r) λx a=>(f x a).1;have j:=fM 32 (xt r);refine⟨by unfold gV;omega,λc b=>?_⟩;rcases hZ b with rfl | ⟨x,a,b⟩
 ·decide
 ·have:=(f x a).2 c b;omega
def nc(h:total a+a.length<=16777216):cA (m,.str [c]) [(n,.lst (a.map .str))]=Y (.fr,.str (ar [c] a)):=by
 have e:=strs_map id a;rw[Xc]at e;show (strs? (a.map .str)).bind _=_;rw[show a.map T.str=a.map (λx=>T.str (id x)) from rfl,e,Zw];exact Zq (by show _<=16777216;rw[Z5];omega)
def q9(g:o U=Y x)(e:b U=Y a)(d:f x a=Y v):eM f o b U=Y v:=by
 show (o U).bind _=_;rw[g,Zw,e];exact d
def qX(h:c U=Y (m,.bl J))(q:a U=v):DB c a b U=v:=by
 show (c U).bind _=_;rw[h];exact q
def qC(h:c U=Y (m,.bl L))(q:b U=v):DB c a b U=v:=by
 show (c U).bind _=_;rw[h];exact q
theorem cR(s:Nat):∀(w:Tx)(l:List Tx),(∀x∈w :: l,s∉x)->ay s (ar [s] (w :: l))=w :: l
 |[],[],_=>rfl
 |[],y :: r,h=>by
  have b:=cR s y r (λx d=>h x (zV _ d));simp only[ar,YC,Wm,ay,Zq,b]
 |a :: w,l,h=>by
  have g:a≠s:=λe=>h (a :: w) zU (by simp[e]);have b:=cR s w l (λx d=>by
   rcases Zz.mp d with e | e
   ·subst e;exact λf=>h (a :: x) zU (zV _ f)
   ·exact h x (zV _ e))
  have:ar [s] ((a :: w) :: l)=a :: ar [s] (w :: l):=by cases l<;>simp[ar]
  rw[this];simp only[ay,Zl g,b]
def rH{l:List Tx}(h:a U=Y (m,.str (ar [s] l)))(e:s<256)(f:(ar [s] l).length<16777216)(d:l≠[])(b:∀x∈l,s∉x):eM cu a (ae (eC (.str [s])) ah) U=Y (.fr,.lst (l.map .str)):=by
 obtain⟨w,l,rfl⟩:=YL d;refine q9 h M ((Zq ⟨e,f⟩).trans ?_);rw[cR s w l b]
def lC{α:Type}(l:List α)(k:Nat):cut l Z (Y (k:Int))=l.take k:=by
 have a:clip l.length (k:Int)=min k l.length:=by
  unfold clip;rw[Zl (by omega),ZU]
 show (l.drop 0).take (clip l.length (k:Int)-0)=_;rw[a,Y6,Nat.sub_zero,← List.take_eq_take_min]
def h6{α:Type}(l:List α)(k:Nat)(h:k<=l.length):cut l (Y (k:Int)) Z=l.drop k:=by
 have a:clip l.length (k:Int)=k:=by
  unfold clip;rw[Zl (by omega),ZU,ZE h]
 show (l.drop (clip l.length (k:Int))).take (l.length-clip l.length (k:Int))=_;rw[a];exact Z2 (by rw[ZX];exact Zy _)
def du{a:Ex}{lo hi:Option Ex}{U:Env}{x:Val}{l h:Option Int}{v:Wd}(b:a U=Y x)(e:kT lo U=Y l)(d:kT hi U=Y h)(q:Es x l h=v):Aq a lo hi U=v:=by
 unfold Aq;rw[b,Zw,e,Zw,d,Zw];exact q
def g0(l:List Tx)(h:l.length<=16777216):Bl m (l.map .str)=Y (.fr,.lst (l.map .str)):=by
 rw[gU (by rw[zT];exact h),d4 _ (λ_=>rfl) l];rfl
def dB{m:Md}{l:List Tx}{k:Nat}(h:l.length<=16777216):Es (m,.lst (l.map .str)) Z (Y (k:Int))=Y (.fr,.lst ((l.take k).map .str)):=by
 show Bl m (cut (l.map T.str) Z (Y (k:Int)))=_;rw[lC,← X5,g0 _ (Zu (List.length_take_le' k l) h)]
def g6{l:List Tx}{k:Nat}(a:k<=l.length)(h:l.length<=16777216):Es (m,.lst (l.map .str)) (Y (k:Int)) Z=Y (.fr,.lst ((l.drop k).map .str)):=by
 show Bl m (cut (l.map T.str) (Y (k:Int)) Z)=_;rw[h6 _ _ (by rw[zT];exact a),← List.map_drop,g0 _ (by rw[ZX];omega)]
def E6(a b:Nat):oLe (m,.str [a]) (n,.str [b])=Y (.fr,.bl (decide (a<=b))):=by
 have:(!BN [b] [a])=decide (a<=b):=by
  show (!(if b<a then J else if a<b then L else BN [] []))=_;by_cases h:b<a
  ·rw[Zq h,Zg (by omega)];rfl
  ·rw[Zl h,decide_eq_true (by omega)];split<;>rfl
 show Y (Md.fr,T.bl (!BN [b] [a]))=_;rw[this]
def p7{α:Type}(l:List α):gk [(m,.lst (l.map λ_=>T.bl J))]=Y (.fr,.bl J):=by
 show (eX (l.map λ_=>T.bl J)).bind _=_;rw[fT (λ_=>J) l,Zw];rw[ZK.mpr λx a=>by obtain⟨_,_,rfl⟩:=Z3.mp a;rfl]
def oW{m:Md}(he:e U=Y (m,.str t))(f:t.length<=16777216)(h:∀c∈t,a<=c/\c<=b):eN gk (ae (dw 1 (cP 0) (iF e) Z (cL oLe oLe (eC (.str [a])) (af 0) (eC (.str [b])))) ah) U=Y (.fr,.bl J):=by
 refine fi (xv (r:=ah) (bQ (m:=.fr) (λ(c:Nat)=>T.str [c]) (λ_=>T.bl J) t ?_ M f λc d=>⟨Q2 ([c]) :: U,rfl,?_⟩) M) (p7 t)
 ·show (e U).bind t8=_;rw[he];rfl
 ·refine gA (x:=(.fr,.str [a])) (y:=(.fr,.str [c])) (z:=(.fr,.str [b])) M M ((E6 _ _).trans ?_) M ((E6 _ _).trans ?_)
  ·rw[decide_eq_true (h c d).1]
  ·rw[decide_eq_true (h c d).2]
def uO(h:Nm t):aK [.str t,.int 9]=Y (.fr,.bl J):=by
 obtain⟨c,r,e,q⟩:=h.hd;have l1:1<=t.length:=by rw[e];exact Z7 (Yx _)
 have l9:=h.len;have ln:eN cQ (ae (af 0) ah) [Q2 t,Q0 9]=Y (.fr,.int (t.length:Int)):=rfl;refine bM (U:=[Q2 t,Q0 9]) M (sq (U1:=[Q2 t,Q0 9]) (jR (m:=.fr) (nt (m:=.fr) (x:=L) ?_ (λ_=>rJ (m:=.fr) (x:=c==48) (v:=(.fr,.bl L)) ?_ (λz=>?_) λ_=>rfl) (λz=>nomatch z)) M) (br (oW (m:=.fr) M (by omega) h.az)))
 ·refine dr (m:=.fr) (b:=J) (gA (x:=(.fr,.int 1)) (y:=(.fr,.int (t.length:Int))) (z:=(.fr,.int 9)) M ln ?_ M ?_)
  ·show Y (Md.fr,T.bl (decide ((1:Int)<=(t.length:Int))))=_;rw[decide_eq_true (by omega)]
  ·show Y (Md.fr,T.bl (decide ((t.length:Int)<=9)))=_;rw[decide_eq_true (by omega)]
 ·refine Ae (Ae (x:=(.fr,.str t)) (y:=(.fr,.int 0)) M M (ir t 0 (by decide) (by omega))) (y:=(.fr,.str [48])) M (dQ M M ?_);rw[e];show ([c]==[48])=_;by_cases z:c=48
  ·rw[z];rfl
  ·rw[beq_eq_false_iff_ne.mpr z,beq_eq_false_iff_ne.mpr λw=>z (X6 w).1]
 ·refine Ae ln (y:=(.fr,.int 1)) M ?_;show Y (Md.fr,T.bl (decide ((1:Int)<(t.length:Int))))=_;have:=q (beq_iff_eq.mp z);rw[e,this];rfl
def qu(h:97<=c/\c<=122):bz [.str [c]]=Y (.fr,.bl J) :=
 bM (U:=[Q2 ([c])]) M (br (fY (m:=.fr) (n:=.fr) (x:=J) (y:=J) M (oW (m:=.fr) M (by show 1<=_;decide) λx a=>by rw[Zx.mp a];exact h)))
def xF{p:Nat×Nat}(h:97<=p.1/\p.1<=122/\p.2<G9):bA [.str (Ap p)]=Y (.fr,.bl J):=by
 have N:=cN h.2.2;have two:2<=(Ap p).length:=by show 2<=(tx p.2).length+1+1;omega
 have d:Aq (af 0) Z (Y (Q3 1)) [Q2 (Ap p)]=Y (.fr,.str [p.1]):=du (x:=(.fr,.str (Ap p))) (l:=Z) (h:=Y ((1:Nat):Int)) M M M (by
  show Y (Md.fr,T.str (cut (Ap p) Z (Y ((1:Nat):Int))))=_;rw[lC];rfl)
 have b:Aq (af 0) (Y (Q3 1)) (Y (Q3 2)) [Q2 (Ap p)]=Y (.fr,.str [58]):=du (x:=(.fr,.str (Ap p))) (l:=Y ((1:Nat):Int)) (h:=Y (((1:Nat):Int)+((1:Nat):Int))) M M M (by
  show Y (Md.fr,T.str (cut (Ap p) (Y ((1:Nat):Int)) (Y (((1:Nat):Int)+((1:Nat):Int)))))=_;rw[rX _ 1 1 (by omega)];rfl)
 have a:Aq (af 0) (Y (Q3 2)) Z [Q2 (Ap p)]=Y (.fr,.str (tx p.2)):=du (x:=(.fr,.str (Ap p))) (l:=Y ((2:Nat):Int)) (h:=Z) M M M (by
  show Y (Md.fr,T.str (cut (Ap p) (Y ((2:Nat):Int)) Z))=_;rw[h6 _ 2 two];rfl)
 exact bM (U:=[Q2 (Ap p)]) M (br (fY (m:=.fr) (n:=.fr) (x:=J) (y:=J) (aG (xv (r:=ah) d M) (qu ⟨h.1,h.2.1⟩)) (fY (m:=.fr) (n:=.fr) (x:=J) (y:=J) (Ae b (y:=(.fr,.str [58])) M (dQ M M M)) (aG (xv a (xv (r:=ah) (x:=(.fr,.int 9)) M M)) (uO N)))))
def uj{l:Wi}(h:l.Pairwise (· < ·)):cx (dedup (l.map λc=>[c]))=l.map λc=>[c]:=by
 refine(ja ((List.perm_ext_iff_of_nodup ((h.imp λh=>Zo h:l.Nodup).map _ λa b d e=>d (X6 e).1) (cY _)).mpr λt=>(dt _ t).symm) ?_).symm;rw[Xd];refine h.imp λ{a b} d h=>?_;rcases Xy.mp h with h | ⟨_,h⟩
 ·exact absurd d (Nat.lt_asymm h)
 ·exact absurd h (List.not_lt_nil _)
def jS(l:List Tx):Bo 60 (.lst (l.map .str))=J:=by
 show (List.map T.str l).all (Bo 59)=J;rw[List.all_map];exact ZK.mpr λ_ _=>rfl
theorem ni:∀l:List Tx,jQ (l.map T.str) (l.map T.str)=J
 |[]=>rfl
 |a :: l=>by
  show ((a==a)&&jQ (l.map T.str) (l.map T.str))=J;rw[ni l,beq_self_eq_true];rfl
def vt{l:Wi}(h:l.Pairwise (· < ·))(b:l.length<=26):g8 [.lst ((l.map λc=>[c]).map .str)]=Y (.fr,.bl J):=by
 have a:=strs_map id (l.map λc=>[c]);rw[Xc]at a;refine bM (U:=[pc (.lst ((l.map λc=>[c]).map .str))]) M (br (Ae (fi (xv (r:=ah) (x:=up .pu (.lst ((l.map λc=>[c]).map .str))) M M) (g0 (l.map λc=>[c]) (by rw[zT];omega))) (fi (xv (r:=ah) (x:=up .pu (.lst ((l.map λc=>[c]).map .str))) M M) (v:=(.fr,.lst ((l.map λc=>[c]).map .str))) ?_) (dQ (jS _) (jS _) (ni _))));show (strs? ((l.map λc=>[c]).map T.str)).bind _=_;rw[show (l.map λc=>[c]).map T.str=(l.map λc=>[c]).map (λx=>T.str (id x)) from rfl,a,Zw,Zq (by rw[zT];omega),uj h];rfl
def g7{a:Ex}{m:Md}{l:List Tx}(h:a U=Y (m,.lst (l.map .str))):eN cQ (ae a ah) U=Y (.fr,.int (l.length:Int)):=fi (xv (r:=ah) h M) (by
 show Y (Md.fr,T.int (((l.map T.str).length:Nat):Int))=_;rw[zT])
def jY{U:Env}{a e:Ex}{m n:Md}{l:List Tx}{i:Nat}(d:a U=Y (m,.lst (l.map .str)))(he:e U=Y (n,.int (i:Int)))(b:i<l.length):e2 bh a e U=Y (.fr,.str (l.getD i [])):=Ae d he (xU T.str l i [] b)
def fU{r:Row}(h:Ro r)(d:af 0 U=Y (.fr,.str (gV r))):eM cu (af 0) (ae (eC (.str [32])) ah) U=Y (.fr,.lst ((xt r).map .str)) :=
 rH (l:=xt r) d (by decide) (Xi (d7 h).1 (by decide)) (λz=>nomatch z) λx a b=>by have:=((jx h x a).2 32 b).1;omega
def f3(r:Row):3<=(xt r).length:=by
 show 3<=(r.2.2.2.map Ap).length+1+1+1;omega
def dash(h:Ro r){U:Env}(a:af 1 U=Y (.pu,.lst ((xt r).map .str))):e2 oEq (e2 bh (af 1) (Q3 2)) (eC (.str [45])) U=Y (.fr,.bl r.2.2.1.isNone):=by
 refine Ae (jY (i:=2) a (n:=.fr) M (f3 r)) (y:=(.fr,.str [45])) M (dQ M M ?_);show (BJ r.2.2.1==[45])=_;cases e:r.2.2.1 with
 |none=>rfl
 |some k =>
  refine beq_eq_false_iff_ne.mpr λz=>?_;have:=(cN (h.lk k e)).az 45 (by rw[show tx k=[45] from z];exact Zx.mpr M);omega
def tJ(h:Ro r){U:Env}(b:af 1 U=Y (.pu,.lst ((xt r).map .str))):∃ns:List Tx,DB (e2 oEq (e2 bh (af 1) (Q3 2)) (eC (.str [45]))) (Aq (af 1) Z (Y (Q3 2))) (Aq (af 1) Z (Y (Q3 3))) U=Y (.fr,.lst (ns.map .str))/\(∀x∈ns,Nm x)/\ns.length<=3:=by
 have d:=dash h b;have f:(xt r).length<=16777216:=Zu (cE h) (by decide);cases e:r.2.2.1 with
 |none =>
  rw[e]at d;refine⟨(xt r).take 2,qX d (du (l:=Z) (h:=Y ((2:Nat):Int)) b M M (dB f)),λx a=>?_,Zu (YF _ _) (by decide)⟩;rcases Zz.mp (show x∈[tx r.1,tx r.2.1] from a) with rfl | a
  ·exact cN h.lo
  ·rw[Zx.mp a];exact cN h.hi
 |some k =>
  rw[e]at d;refine⟨(xt r).take 3,qC d (du (l:=Z) (h:=Y ((3:Nat):Int)) b M M (dB f)),λx a=>?_,YF _ _⟩;rcases Zz.mp (show x∈[tx r.1,tx r.2.1,BJ r.2.2.1] from a) with rfl | a
  ·exact cN h.lo
  rcases Zz.mp a with rfl | a
  ·exact cN h.hi
  ·rw[Zx.mp a,e];exact cN (h.lk k e)
def m7{r:Row}(h:Ro r)(a:af 1 U=Y (.pu,.lst ((xt r).map .str))):Aq (af 1) (Y (Q3 3)) Z U=Y (.fr,.lst ((r.2.2.2.map Ap).map .str)) :=
 du (l:=Y ((3:Nat):Int)) (h:=Z) a M M (g6 (k:=3) (f3 r) (Zu (cE h) (by decide)))
def xN(p:Nat×Nat){m:Md}(h:af 0 U=Y (m,.str (Ap p))):e2 bh (af 0) (Q3 0) U=Y (.fr,.str [p.1]):=Ae h (y:=(.fr,.int 0)) M (ir (Ap p) 0 (by decide) (by show (0:Int)<(((tx p.2).length+1+1:Nat):Int);omega))
def sj(h:Ro r):aL [.str (gV r)]=Y (.fr,.bl J):=by
 have i:=f3 r;obtain⟨ns,f,e,d⟩:=tJ h (U:=[Q2 (gV r),pc (.lst ((xt r).map .str)),pc (.lst ((r.2.2.2.map Ap).map .str)),Z]) M;refine bM (U:=[Q2 (gV r),pc (.lst ((xt r).map .str)),pc (.lst ((r.2.2.2.map Ap).map .str)),pc (.lst (ns.map .str))]) M (sq (ax (fU h M) (by decide) (by decide:1<4)) (sq (ax (m7 h M) (by decide) (by decide:2<4)) (sq (jR (m:=.fr) ?_ M) (sq (ax f (by decide) (by decide:3<4)) (br (fY (m:=.fr) (n:=.fr) (x:=J) (y:=J) (fi (xv (r:=ah) (x:=(.fr,.lst (ns.map λ_=>T.bl J))) ?_ M) (p7 ns)) (aG (xv (r:=ah) (x:=(.fr,.lst (((r.2.2.2.map λp=>p.1).map λc=>[c]).map .str))) ?_ M) (vt ?_ (by rw[zT];exact h.AV)))))))))
 ·refine F9 (m:=.fr) (n:=.fr) (x:=L) (y:=L) (Ae (g7 (m:=.pu) M) (y:=(.fr,.int 3)) M ?_) (dr (m:=.fr) (b:=J) (fi (xv (r:=ah) (x:=(.fr,.lst (r.2.2.2.map λ_=>T.bl J))) ?_ M) (p7 r.2.2.2)))
  ·show Y (Md.fr,T.bl (decide (((xt r).length:Int)<3)))=_;rw[Zg (by omega)]
  ·refine bQ (m:=.pu) (λp=>T.str (Ap p)) (λ_=>T.bl J) r.2.2.2 ?_ M (Zu h.AV (by decide)) λp a=>⟨[Q2 (Ap p),Q2 (gV r),pc (.lst ((xt r).map .str)),pc (.lst ((r.2.2.2.map Ap).map .str)),Z],rfl,aG (xv (r:=ah) (x:=(.fr,.str (Ap p))) M M) (xF (h.ws p a))⟩
   show Y (Md.pu,(r.2.2.2.map Ap).map T.str)=_;rw[Z0];rfl
 ·exact bQ (m:=.pu) (λt:Tx=>T.str t) (λ_=>T.bl J) ns M M (Zu d (by decide)) λt g=>⟨[Q2 t,Q2 (gV r),pc (.lst ((xt r).map .str)),pc (.lst ((r.2.2.2.map Ap).map .str)),pc (.lst (ns.map .str))],rfl,aG (xv (x:=(.fr,.str t)) M (xv (r:=ah) (x:=(.fr,.int 9)) M M)) (uO (e t g))⟩
 ·refine(bQ (m:=.pu) (λp=>T.str (Ap p)) (λp=>T.str [p.1]) r.2.2.2 ?_ M (Zu h.AV (by decide)) λp a=>⟨[Q2 (Ap p),Q2 (gV r),pc (.lst ((xt r).map .str)),pc (.lst ((r.2.2.2.map Ap).map .str)),pc (.lst (ns.map .str))],rfl,xN p (m:=.fr) M⟩).trans ?_
  ·show Y (Md.pu,(r.2.2.2.map Ap).map T.str)=_;rw[Z0];rfl
  ·rw[Z0,Z0];rfl
 ·rw[Xd];exact h.up
def oM(h:Ro r):cB [.str (gV r)]=Y (.fr,qw r):=by
 have j:=f3 r;have e:∀{b},DB (e2 oEq (e2 bh (af 1) (Q3 2)) (eC (.str [45]))) (eC .non) (eN eV (ae (e2 bh (af 1) (Q3 2)) ah)) [Q2 (gV r),pc (.lst ((xt r).map .str)),Z,b]=Y (.fr,Ew r.2.2.1):=λ{b}=>by
  have d:=dash h (U:=[Q2 (gV r),pc (.lst ((xt r).map .str)),Z,b]) M;have i:=jY (U:=[Q2 (gV r),pc (.lst ((xt r).map .str)),Z,b]) (a:=af 1) (e:=Q3 2) (i:=2) (m:=.pu) (n:=.fr) (l:=xt r) M M j;rw[show (xt r).getD 2 []=BJ r.2.2.1 from rfl]at i;cases f:r.2.2.1 with
  |none =>
   rw[f]at d;exact qX d M
  |some k =>
   rw[f]at d i;exact qC d (mS i (h.lk k f))
 refine bM (U:=[Q2 (gV r),pc (.lst ((xt r).map .str)),pc (Ew r.2.2.1),pc (FW r.2.2.2)]) M (sq (ax (fU h M) (by decide) (by decide:1<4)) (sq (ax e (by decide) (by decide:2<4)) (sq (ax (m:=.fr) (t:=FW r.2.2.2) (fi (xv (r:=ah) (x:=(.fr,.lst (r.2.2.2.map λp=>T.tup [.str [p.1],.int (p.2:Int)]))) ?_ M) ?_) (by decide) (by decide:3<4)) (br (zk (mS (n:=r.1) (jY (i:=0) (m:=.pu) (n:=.fr) (l:=xt r) M M (by omega)) h.lo) (mS (n:=r.2.1) (jY (i:=1) (m:=.pu) (n:=.fr) (l:=xt r) M M (by omega)) h.hi) (congrArg Y (lB (we _))) (congrArg Y (lB (pz _))))))))
 ·refine bQ (m:=.fr) (λp=>T.str (Ap p)) (λp:Nat×Nat=>T.tup [.str [p.1],.int (p.2:Int)]) r.2.2.2 ?_ M (Zu h.AV (by decide)) λp g=>⟨[Q2 (Ap p),Q2 (gV r),pc (.lst ((xt r).map .str)),pc (Ew r.2.2.1),Z],rfl,?_⟩
  ·show (Aq (af 1) (Y (Q3 3)) Z _).bind t8=_;rw[m7 h M];show Y (Md.fr,(r.2.2.2.map Ap).map T.str)=_;rw[Z0];rfl
  ·have two:2<=(Ap p).length:=by show 2<=(tx p.2).length+1+1;omega
   have i:Aq (af 0) (Y (Q3 2)) Z [Q2 (Ap p),Q2 (gV r),pc (.lst ((xt r).map .str)),pc (Ew r.2.2.1),Z]=Y (.fr,.str (tx p.2)):=du (x:=(.fr,.str (Ap p))) (l:=Y ((2:Nat):Int)) (h:=Z) M M M (by
    show Y (Md.fr,T.str (cut (Ap p) (Y ((2:Nat):Int)) Z))=_;rw[h6 _ 2 two];rfl)
   show (ae _ (ae _ ah) _).bind nq=_;rw[xv (xN p (m:=.fr) M) (xv (r:=ah) (mS i (h.ws p g).2.2) M)];rfl
 ·exact(Zq (by rw[zT];exact Zu h.AV (by decide))).trans (congrArg Y (lB (pz _)))
def rh{α:Type}(f:α->Bool)(l:List α):gk [(m,.lst (l.map λx=>T.bl (f x)))]=Y (.fr,.bl (l.all f)):=by
 show (eX (l.map λx=>T.bl (f x))).bind _=_;rw[fT f l,Zw,List.all_map];rfl
noncomputable def C6(a b c:Nat):Bool:=decide (a<=c)&&decide (c<=b)
def nC{m:Md}(he:e U=Y (m,.str t))(d:t.length<=16777216):eN gk (ae (dw 1 (cP 0) (iF e) Z (cL oLe oLe (eC (.str [a])) (af 0) (eC (.str [b])))) ah) U=Y (.fr,.bl (t.all (C6 a b))):=by
 refine fi (xv (r:=ah) (bQ (m:=.fr) (λ(c:Nat)=>T.str [c]) (λc=>T.bl (C6 a b c)) t ?_ M d λc f=>⟨Q2 ([c]) :: U,rfl,?_⟩) M) (rh (C6 a b) t)
 ·show (e U).bind t8=_;rw[he];rfl
 ·by_cases h:a<=c
  ·refine(gA (x:=(.fr,.str [a])) (y:=(.fr,.str [c])) (z:=(.fr,.str [b])) M M ((E6 _ _).trans ?_) M (E6 _ _)).trans ?_
   ·rw[decide_eq_true h]
   ·unfold C6;rw[decide_eq_true h,XY]
  ·refine(mW (x:=(.fr,.str [a])) (y:=(.fr,.str [c])) M M ((E6 _ _).trans ?_)).trans ?_
   ·rw[Zg h]
   ·unfold C6;rw[Zg h];rfl
def d9(t:Tx):Bool:=decide (1<=t.length/\t.length<=9) && !((t.headD 0==48)&&decide (1<t.length))&&t.all (C6 48 57)
def uP{t:Tx}(d:t.length<=16777216):aK [.str t,.int 9]=Y (.fr,.bl (d9 t)):=by
 have ln:eN cQ (ae (af 0) ah) [Q2 t,Q0 9]=Y (.fr,.int (t.length:Int)):=rfl;have ch:cL oLe oLe (Q3 1) (eN cQ (ae (af 0) ah)) (af 1) [Q2 t,Q0 9]=Y (.fr,.bl (decide (1<=t.length/\t.length<=9))):=by
  by_cases h:1<=t.length
  ·refine(gA (x:=(.fr,.int 1)) (y:=(.fr,.int (t.length:Int))) (z:=(.fr,.int 9)) (v:=(.fr,.bl (decide ((t.length:Int)<=9)))) M ln ?_ M M).trans ?_
   ·show Y (Md.fr,T.bl (decide ((1:Int)<=(t.length:Int))))=_;rw[decide_eq_true (by omega)]
   ·rw[decide_eq_decide.mpr (show ((t.length:Int)<=9)↔(1<=t.length/\t.length<=9) by omega)]
  ·refine(mW (x:=(.fr,.int 1)) (y:=(.fr,.int (t.length:Int))) M ln ?_).trans ?_
   ·show Y (Md.fr,T.bl (decide ((1:Int)<=(t.length:Int))))=_;rw[Zg (by omega)]
   ·rw[Zg (λz=>h z.1)]
 unfold d9;by_cases h:1<=t.length/\t.length<=9
 ·rw[decide_eq_true h]at ch;rw[decide_eq_true h,XY];have b:dX (e2 oEq (e2 bh (af 0) (Q3 0)) (eC (.str [48]))) (e2 Et (eN cQ (ae (af 0) ah)) (Q3 1)) [Q2 t,Q0 9]=Y (.fr,.bl ((t.headD 0==48)&&decide (1<t.length))):=by
   obtain⟨c,r,e⟩:=YL (λz:t=[]=>by rw[z]at h;exact absurd h.1 (by decide));refine fY (m:=.fr) (n:=.fr) (Ae (Ae (x:=(.fr,.str t)) (y:=(.fr,.int 0)) M M (ir t 0 (by decide) (by omega))) (y:=(.fr,.str [48])) M (dQ M M ?_)) (Ae ln (y:=(.fr,.int 1)) M ?_)
   ·rw[e];show ([c]==[48])=(c==48);by_cases z:c=48
    ·rw[z];rfl
    ·rw[beq_eq_false_iff_ne.mpr z,beq_eq_false_iff_ne.mpr λw=>z (X6 w).1]
   ·show Y (Md.fr,T.bl (decide ((1:Int)<(t.length:Int))))=_;rw[decide_eq_decide.mpr (show ((1:Int)<(t.length:Int))↔1<t.length by omega)]
  have or':=F9 (m:=.fr) (n:=.fr) (dr ch) b;rw[Bool.not_true,Bool.false_or]at or';cases a:(t.headD 0==48)&&decide (1<t.length)
  ·rw[a]at or';exact bM (U:=[Q2 t,Q0 9]) M (sq (jR or' M) (br (nC (m:=.fr) M d)))
  ·rw[a]at or';exact bM (U:=[Q2 t,Q0 9]) M (eE (Ey or' (br M)))
 ·rw[Zg h]at ch;rw[Zg h];have or':Dg (eQ (cL oLe oLe (Q3 1) (eN cQ (ae (af 0) ah)) (af 1))) (dX (e2 oEq (e2 bh (af 0) (Q3 0)) (eC (.str [48]))) (e2 Et (eN cQ (ae (af 0) ah)) (Q3 1))) [Q2 t,Q0 9]=Y (.fr,.bl J):=nt (dr ch) (λz=>nomatch z) λ_=>rfl;exact bM (U:=[Q2 t,Q0 9]) M (eE (Ey or' (br M)))
def gX(n k:Nat):clip n (k:Int)=min k n:=by
 unfold clip;rw[Zl (by omega),ZU]
def pb{α:Type}(l:List α)(k:Nat):cut l (Y (k:Int)) Z=l.drop k:=by
 show (l.drop (clip l.length (k:Int))).take (l.length-clip l.length (k:Int))=_;rw[gX,Z2 (by rw[ZX];exact Zy _)];rcases Nat.le_total k l.length with h | h
 ·rw[ZE h]
 ·rw[Xw h,YR h,YR (Zy _)]
def vj{α:Type}(l:List α):cut l (Y ((1:Nat):Int)) (Y ((2:Nat):Int))=(l.drop 1).take 1:=by
 show (l.drop (clip l.length ((1:Nat):Int))).take (clip l.length ((2:Nat):Int)-clip l.length ((1:Nat):Int))=_;rw[gX,gX]
 match l with
 |[]=>rfl
 |[a]=>rfl
 |a :: b :: r =>
  show ((a :: b :: r).drop (min 1 (r.length+1+1))).take (min 2 (r.length+1+1)-min 1 (r.length+1+1))=_;rw[ZE (by omega),ZE (by omega)]
def zC{t:Tx}(a:t.length<=16777216):bz [.str t]=Y (.fr,.bl (t.all (C6 97 122))) :=
 bM (U:=[Q2 t]) M (br (fY (m:=.fr) (n:=.fr) (x:=J) M (nC (m:=.fr) M a)))
def gQ(w:Tx):Bool:=(w.take 1).all (C6 97 122)&&((w.drop 1).take 1==[58]&&d9 (w.drop 2))
def x6{w:Tx}(e:w.length<=16777216):bA [.str w]=Y (.fr,.bl (gQ w)):=by
 have d:Aq (af 0) Z (Y (Q3 1)) [Q2 w]=Y (.fr,.str (w.take 1)):=du (x:=(.fr,.str w)) (l:=Z) (h:=Y ((1:Nat):Int)) M M M (by
  show Y (Md.fr,T.str (cut w Z (Y ((1:Nat):Int))))=_;rw[lC])
 have b:Aq (af 0) (Y (Q3 1)) (Y (Q3 2)) [Q2 w]=Y (.fr,.str ((w.drop 1).take 1)):=du (x:=(.fr,.str w)) (l:=Y ((1:Nat):Int)) (h:=Y ((2:Nat):Int)) M M M (by
  show Y (Md.fr,T.str (cut w (Y ((1:Nat):Int)) (Y ((2:Nat):Int))))=_;rw[vj])
 have a:Aq (af 0) (Y (Q3 2)) Z [Q2 w]=Y (.fr,.str (w.drop 2)):=du (x:=(.fr,.str w)) (l:=Y ((2:Nat):Int)) (h:=Z) M M M (by
  show Y (Md.fr,T.str (cut w (Y ((2:Nat):Int)) Z))=_;rw[pb])
 exact bM (U:=[Q2 w]) M (br (fY (m:=.fr) (n:=.fr) (aG (xv (r:=ah) d M) (zC (by rw[ZD];omega))) (fY (m:=.fr) (n:=.fr) (Ae b (y:=(.fr,.str [58])) M (dQ M M M)) (aG (xv a (xv (r:=ah) (x:=(.fr,.int 9)) M M)) (uP (by rw[ZX];omega))))))
def wJ(h:gQ w=J):0<w.length:=by
 cases w with
 |nil=>cases h
 |cons a r=>exact Nat.succ_pos _
def vN{l:List Tx}{k:Nat}(h:l.length<=16777216):Es (m,.lst (l.map .str)) (Y (k:Int)) Z=Y (.fr,.lst ((l.drop k).map .str)):=by
 show Bl m (cut (l.map T.str) (Y (k:Int)) Z)=_;rw[pb,← List.map_drop,g0 _ (by rw[ZX];omega)]
noncomputable def nums(f:List Tx):List Tx:=if f.getD 2 []=[45] then f.take 2 else f.take 3
def qd(L:List Tx):Bool:=L==cx (dedup L)
def fu(f:List Tx):Bool:=decide (3<=f.length)&&((f.drop 3).all gQ&&((nums f).all d9&&qd ((f.drop 3).map (·.take 1))))
theorem pN:∀a b:List Tx,jQ (a.map T.str) (b.map T.str)=(a==b)
 |[],[]=>rfl
 |[],_ :: _=>rfl
 |_ :: _,[]=>rfl
 |x :: a,y :: b=>by
  show ((x==y)&&jQ (a.map T.str) (b.map T.str))=_;rw[pN a b];rfl
def vy{L:List Tx}(b:L.length<=63):g8 [.lst (L.map .str)]=Y (.fr,.bl (qd L)):=by
 have a:=strs_map id L;rw[Xc]at a;refine bM (U:=[pc (.lst (L.map .str))]) M (br (Ae (fi (xv (r:=ah) (x:=up .pu (.lst (L.map .str))) M M) (g0 L (by omega))) (fi (xv (r:=ah) (x:=up .pu (.lst (L.map .str))) M M) (v:=(.fr,.lst ((cx (dedup L)).map .str))) ?_) (dQ (jS _) (jS _) (pN _ _))));show (strs? (L.map T.str)).bind _=_;rw[show L.map T.str=L.map (λx=>T.str (id x)) from rfl,a,Zw,Zq (by omega)]
theorem iK:∀{t:Tx}{w:Tx},w∈ay c t->w.length<=t.length
 |[],w,h=>by rw[Zx.mp h];exact Zy _
 |x :: r,w,h=>by
  have a:=@iK c r;obtain⟨hd,b,e⟩:=bZ c r;unfold ay at h;rw[e]at h a;split at h
  ·rcases Zz.mp h with rfl | h
   ·exact Yx _
   ·exact Y4 (a h)
  ·rcases Zz.mp h with rfl | h
   ·exact Z7 (a zU)
   ·exact Y4 (a (zV _ h))
def yJ{t:Tx}(j:t.length<16777216)(q:(ay 32 t).length<=60):aL [.str t]=Y (.fr,.bl (fu (ay 32 t))):=by
 generalize p:ay 32 t=f at q;have sp:eM cu (af 0) (ae (eC (.str [32])) ah) [Q2 t,Z,Z,Z]=Y (.fr,.lst (f.map .str)):=q9 M M ((Zq ⟨by decide,j⟩).trans (by rw[p]));have g:∀w∈f,w.length<=16777216:=λw hw=>by
  rw[← p]at hw;exact Zu (iK hw) (Y5 j)
 have sw:Aq (af 1) (Y (Q3 3)) Z [Q2 t,pc (.lst (f.map .str)),Z,Z]=Y (.fr,.lst ((f.drop 3).map .str)):=du (l:=Y ((3:Nat):Int)) (h:=Z) (x:=(.pu,.lst (f.map .str))) M M M (vN (by omega));have al:eN gk (ae (dw 1 (cP 0) (iF (af 2)) Z (aX bA (ae (af 0) ah))) ah) [Q2 t,pc (.lst (f.map .str)),pc (.lst ((f.drop 3).map .str)),Z]=Y (.fr,.bl ((f.drop 3).all gQ)) :=
  fi (xv (r:=ah) (bQ (m:=.pu) (λw=>T.str w) (λw=>T.bl (gQ w)) (f.drop 3) M M (by rw[ZX];omega) λw hw=>⟨[Q2 w,Q2 t,pc (.lst (f.map .str)),pc (.lst ((f.drop 3).map .str)),Z],rfl,aG (xv (r:=ah) (x:=(.fr,.str w)) M M) (x6 (g w (Xr hw)))⟩) M) (rh gQ _)
 have ln:e2 oLt (eN cQ (ae (af 1) ah)) (Q3 3) [Q2 t,pc (.lst (f.map .str)),pc (.lst ((f.drop 3).map .str)),Z]=Y (.fr,.bl (decide (f.length<3))):=Ae (g7 (m:=.pu) M) (y:=(.fr,.int 3)) M (by
  show Y (Md.fr,T.bl (decide ((f.length:Int)<3)))=_;rw[decide_eq_decide.mpr (show ((f.length:Int)<3)↔f.length<3 by omega)])
 have or':=F9 (m:=.fr) (n:=.fr) ln (dr al);unfold fu;by_cases o:3<=f.length
 ·rw[decide_eq_true o,XY];rw[Zg (by omega),Bool.false_or]at or';cases hw:(f.drop 3).all gQ
  ·rw[hw]at or';exact bM (U:=[Q2 t,pc (.lst (f.map .str)),pc (.lst ((f.drop 3).map .str)),Z]) M (sq (ax sp (by decide) (by decide:1<4)) (sq (ax sw (by decide) (by decide:2<4)) (eE (Ey or' (br M)))))
  ·rw[hw]at or';rw[XY];have ix:=jY (U:=[Q2 t,pc (.lst (f.map .str)),pc (.lst ((f.drop 3).map .str)),Z]) (a:=af 1) (e:=Q3 2) (i:=2) (m:=.pu) (n:=.fr) (l:=f) M M (by omega);have nm:DB (e2 oEq (e2 bh (af 1) (Q3 2)) (eC (.str [45]))) (Aq (af 1) Z (Y (Q3 2))) (Aq (af 1) Z (Y (Q3 3))) [Q2 t,pc (.lst (f.map .str)),pc (.lst ((f.drop 3).map .str)),Z]=Y (.fr,.lst ((nums f).map .str)):=by
    have d:e2 oEq (e2 bh (af 1) (Q3 2)) (eC (.str [45])) [Q2 t,pc (.lst (f.map .str)),pc (.lst ((f.drop 3).map .str)),Z]=Y (.fr,.bl (f.getD 2 []==[45])):=Ae ix (y:=(.fr,.str [45])) M (dQ M M M);unfold nums;by_cases z:f.getD 2 []=[45]
    ·rw[z]at d;rw[Zq z];exact qX d (du (l:=Z) (h:=Y ((2:Nat):Int)) (x:=(.pu,.lst (f.map .str))) M M M (dB (by omega)))
    ·rw[beq_eq_false_iff_ne.mpr z]at d;rw[Zl z];exact qC d (du (l:=Z) (h:=Y ((3:Nat):Int)) (x:=(.pu,.lst (f.map .str))) M M M (dB (by omega)))
   have nl:(nums f).length<=3:=by
    unfold nums;split
    ·exact Zu (YF _ _) (by decide)
    ·exact YF _ _
   have s:∀x∈nums f,x∈f:=λx b=>by
    unfold nums at b;split at b
    ·exact ZJ b
    ·exact ZJ b
   refine bM (U:=[Q2 t,pc (.lst (f.map .str)),pc (.lst ((f.drop 3).map .str)),pc (.lst ((nums f).map .str))]) M (sq (ax sp (by decide) (by decide:1<4)) (sq (ax sw (by decide) (by decide:2<4)) (sq (jR or' M) (sq (ax nm (by decide) (by decide:3<4)) (br (fY (m:=.fr) (n:=.fr) ?_ ?_))))))
   ·exact fi (xv (r:=ah) (bQ (m:=.pu) (λw=>T.str w) (λw=>T.bl (d9 w)) (nums f) M M (by omega) λw hw=>⟨[Q2 w,Q2 t,pc (.lst (f.map .str)),pc (.lst ((f.drop 3).map .str)),pc (.lst ((nums f).map .str))],rfl,aG (xv (x:=(.fr,.str w)) M (xv (r:=ah) (x:=(.fr,.int 9)) M M)) (uP (g w (s w hw)))⟩) M) (rh d9 _)
   ·refine aG (xv (r:=ah) (x:=(.fr,.lst (((f.drop 3).map λw:Tx=>w.take 1).map .str))) ?_ M) (vy (L:=(f.drop 3).map λw:Tx=>w.take 1) (by rw[zT,ZX];omega));refine(bQ (m:=.pu) (λw=>T.str w) (λw=>T.str (w.take 1)) (f.drop 3) M M (by rw[ZX];omega) λw u=>⟨[Q2 w,Q2 t,pc (.lst (f.map .str)),pc (.lst ((f.drop 3).map .str)),pc (.lst ((nums f).map .str))],rfl,?_⟩).trans ?_
    ·have:=wJ (ZK.mp hw w u);cases w with
     |nil=>exact absurd this (by decide)
     |cons c r=>exact Ae (x:=(.fr,.str (c :: r))) (y:=(.fr,.int 0)) M M (ir (c :: r) 0 (by decide) (by show (0:Int)<((r.length+1:Nat):Int);omega))
    ·rw[Z0];rfl
 ·rw[Zg o];rw[decide_eq_true (by omega),Bool.true_or]at or';exact bM (U:=[Q2 t,pc (.lst (f.map .str)),pc (.lst ((f.drop 3).map .str)),Z]) M (sq (ax sp (by decide) (by decide:1<4)) (sq (ax sw (by decide) (by decide:2<4)) (eE (Ey or' (br M)))))
def u7{m:Md}(h:t U=Y (m,.bl J)):Dp t a b U=a U:=by
 unfold Dp;rw[h];rfl
def rD{m:Md}(h:t U=Y (m,.bl L)):Dp t a b U=b U:=by
 unfold Dp;rw[h];rfl
abbrev Ep:AA:=(iz (Dp (Dg (e2 Eu (af 2) (Q3 300)) (eQ (aX aL (ae (af 3) ah)))) (gu ("NoTable" : PySem.Str) (af 2)) (sL fN))
  (sL (sX (iw 1 [] bT (ae (aX cB (ae (af 3) ah)) ah)))))
abbrev ES:Tg:=nM [(cP 2),(cP 3)]
def u0{m:Md}{k:Nat}(h:af 2 U=Y (m,.int (k:Int))):e2 Eu (af 2) (Q3 300) U=Y (.fr,.bl (decide (300<=k))):=Ae h (y:=(.fr,.int 300)) M (by
 show Y (Md.fr,T.bl (decide ((300:Int)<=(k:Int))))=_;rw[decide_eq_decide.mpr (show ((300:Int)<=(k:Int))↔300<=k by omega)])
def vX{done:List Row}{a b:Wf}(h:Ro r)(d:done.length<300):Ep [Q2 t,oc (Cm done),Q0 (done.length:Int),Q2 (gV r)]=Y (.ok (.nx [Q2 t,oc (Cm (done++[r])),Q0 (done.length:Int),Q2 (gV r)])):=by
 refine(iO ((rD (m:=.fr) ?_).trans M)).trans ?_
 ·refine F9 (m:=.fr) (n:=.fr) (x:=L) (y:=L) ((u0 (m:=.fr) M).trans ?_) (dr (m:=.fr) (b:=J) (aG (xv (r:=ah) (x:=(.fr,.str (gV r))) M M) (sj h)));rw[Zg (by omega)]
 ·show (sX (iw 1 [] bT (ae (aX cB (ae (af 3) ah)) ah)) _).map CL.ok=_;rw[pG (i:=1) (l:=done.map qw) (v:=qw r) (U:=[Q2 t,oc (Cm done),Q0 (done.length:Int),Q2 (gV r)]) M (aG (xv (r:=ah) (x:=(.fr,.str (gV r))) M M) (oM h)) (by rw[zT];omega)];unfold Cm;rw[Z6];rfl
def sf{a:AA}{U1 b:Env}(e:g t U=Y U1)(d:a U1=Y (.ok (.nx b))):cS g a (t :: r) U=cS g a r b:=by
 show (g t U).bind _=_;rw[e,Zw,d];rfl
def sH{U1:Env}(e:g t U=Y U1)(d:a U1=Y (.ex x b)):cS g a (t :: r) U=Y (.ex x b):=by
 show (g t U).bind _=_;rw[e,Zw,d];rfl
theorem lX{t:Tx}{rest:Wc}:∀(R done:List Row)(a b:Wf),(∀r∈R,Ro r)->done.length+R.length<=300->∃e d,cS ES Ep (df done.length ((R.map gV).map .str++rest)) [Q2 t,oc (Cm done),a,b]=cS ES Ep (df (done.length+R.length) rest) [Q2 t,oc (Cm (done++R)),e,d]
 |[],done,a,b,_,_=>⟨a,b,by rw[ZL];rfl⟩
 |r :: R,done,a,b,h,g=>by
  rw[Zj]at g;obtain⟨e,d,q⟩:=lX R (done++[r]) (Q0 (done.length:Int)) (Q2 (gV r)) (λx f=>h x (zV _ f)) (by rw[zW,Z5];omega);rw[zW,Z5,ZY]at q;refine⟨e,d,(sf (U1:=[Q2 t,oc (Cm done),Q0 (done.length:Int),Q2 (gV r)]) M (vX (a:=Z) (b:=Z) (h r zU) (by omega))).trans (q.trans ?_)⟩;rw[show done.length+1+R.length=done.length+(r :: R).length from by rw[Zj];omega];rfl
def vC{t:Tx}{X:T}{rest:Wc}{a b:Wf}(d:k<=300)(h:k=300\/aL [.str l]=Y (.fr,.bl L)):∃U,cS ES Ep (df k (.str l :: rest)) [Q2 t,oc X,a,b]=Y (.ex ⟨"NoTable",Y (k:Int)⟩ U):=by
 refine⟨[Q2 t,oc X,Q0 (k:Int),Q2 l],sH (U1:=[Q2 t,oc X,Q0 (k:Int),Q2 l]) M (pf ((u7 (m:=.fr) ?_).trans ?_))⟩
 ·refine nt (m:=.fr) (u0 (m:=.fr) M) (λz=>?_) λ_=>rfl;rcases h with h | h
  ·exact absurd (of_decide_eq_false z) (by omega)
  ·exact dr (m:=.fr) (b:=L) (aG (xv (r:=ah) (x:=(.fr,.str l)) M M) h)
 ·show (if (0:Int)<=(k:Int)/\(k:Int)<=300 then _ else Z)=_;rw[Zq ⟨by omega,by omega⟩]
def uE(f:af 0 U=Y (.fr,.str t))(d:t.length<16777216)(b:ay 10 t=a):pd ES (mT (eM cu (af 0) (ae (eC (.str [10])) ah))) Ep U=cS ES Ep (df 0 (a.map .str)) U:=by
 have e:mT (eM cu (af 0) (ae (eC (.str [10])) ah)) U=Y (.fr,df 0 (a.map .str)):=by
  show (eM cu (af 0) (ae (eC (.str [10])) ah) U).bind uG=_;rw[q9 f M ((Zq ⟨by decide,d⟩).trans (by rw[b]))];rfl
 unfold pd;rw[e,Zw];rfl
def u5{t:Tx}{R:List Row}{l:Tx}{rest:List Tx}(f:t.length<16777216)(e:ay 10 t=R.map gV++l :: rest)(h:∀r∈R,Ro r)(g:R.length<=300)(i:R.length=300\/aL [.str l]=Y (.fr,.bl L)):aJ [.str t]=Y (.ex ⟨"NoTable",Y (R.length:Int)⟩):=by
 obtain⟨a,b,q⟩:=lX (t:=t) (rest:=(l :: rest).map T.str) R [] Z Z h (by rw[YB];omega);rw[YB,Y2,YC,← Z6]at q;obtain⟨U,d⟩:=vC (t:=t) (X:=Cm R) (rest:=rest.map T.str) (a:=a) (b:=b) g i;refine pO (U:=U) M ((iO (U1:=[Q2 t,Z,Z,Z]) (rD (m:=.fr) M)).trans ((iO (U1:=[Q2 t,oc (Cm []),Z,Z]) M).trans (pf ?_)));exact(uE M f e).trans (q.trans d)
def vH{t:Tx}{R:List Row}(e:t.length<16777216)(d:ay 10 t=R.map gV)(h:∀r∈R,Ro r)(f:R.length<=300):aJ [.str t]=Y (.ok (.fr,Cm R)):=by
 obtain⟨a,b,q⟩:=lX (t:=t) (rest:=[]) R [] Z Z h (by rw[YB];omega);rw[ZL,YC]at q;refine xx (U:=[Q2 t,Z,a,b]) M ((iO (U1:=[Q2 t,Z,Z,Z]) (rD (m:=.fr) M)).trans ((iO (U1:=[Q2 t,oc (Cm []),Z,Z]) M).trans ((iO (U1:=[Q2 t,oc (Cm R),a,b]) ((uE M e d).trans q)).trans M)))
def r9(h:eQ (DA .str (af 0)) [pc x,Z,Z,Z]=Y (.fr,.bl J)):aJ [x]=Y (.ex ⟨"NoTable",Y 0⟩) :=
 pO (U:=[pc x,Z,Z,Z]) M (pf ((u7 h).trans M))
def qF{x:Xn}{o:Out}(i:b U=Y (.ex x d))(h:a x=Y c)(g:j<d.length)(f:e (d.set j (Y (.pu (.obj c (Fz x.c)))))=Y o):qR b j a e U=Y (yx j o):=by
 show (b U).bind _=_;rw[i,Zw];show (a x).bind _=_;rw[h,Zw,Zq g,f];rfl
def gg{n:Int}(a:Bool)(b:aJ [x]=Y (.ex ⟨"NoTable",Y n⟩)):aM [x,.int n,.bl a]=Y (.fr,.bl J):=by
 have cl:∀{U:Env},af 0 U=Y (up .pu x)->DF (λc=>sX (xP c)) (fg aJ (ae (af 0) ah)) U=Y (.ex ⟨"NoTable",Y n⟩ U):=λ{U} h=>x8 (qo (xs:=[up .pu x]) (xv (r:=ah) h M) (by
  show aJ [(up .pu x).2]=_;rw[show (up .pu x).2=x from by unfold up;split<;>rfl];exact b))
 cases a with
 |true =>
  refine bM (U:=[pc x,Q0 n,pc (.bl J),oc (.lst [.bl J,.bl J,.bl L]),Z,Z]) M (sq (U1:=[pc x,Q0 n,pc (.bl J),oc (.lst []),Z,Z]) M (eE (Ey (m:=.fr) M (sq (U1:=[pc x,Q0 n,pc (.bl J),oc (.lst [.bl J,.bl J,.bl L]),Z,Z]) (qF (o:=.nx [pc x,Q0 n,pc (.bl J),oc (.lst [.bl J,.bl J,.bl L]),Z,pc (.obj 0 [(1,.int n)])]) (cl M) M (show 5<6 by decide) M) M))))
 |false =>
  refine bM (U:=[pc x,Q0 n,pc (.bl L),pc (.lst []),Q0 n,Z]) M (sq (U1:=[pc x,Q0 n,pc (.bl L),oc (.lst []),Z,Z]) M (sq (jR (m:=.fr) M M) (sq (U1:=[pc x,Q0 n,pc (.bl L),pc (.lst []),Z,Z]) M (sq (U1:=[pc x,Q0 n,pc (.bl L),pc (.lst []),pc .non,Z]) M (sq (U1:=[pc x,Q0 n,pc (.bl L),pc (.lst []),Q0 n,Z]) (qF (o:=.nx [pc x,Q0 n,pc (.bl L),pc (.lst []),Q0 n,pc (.obj 0 [(1,.int n)])]) (cl M) M (show 5<6 by decide) M) ?_)))));refine br (fY (m:=.fr) (n:=.fr) (x:=J) (y:=J) M (fY (m:=.fr) (n:=.fr) (x:=J) (y:=J) M (Ae (x:=(.fr,.int n)) (y:=(.fr,.int n)) M M (dQ M M ?_))));exact beq_self_eq_true n
theorem iS(c:Nat)(x:Tx):∀l:List Tx,ar [c] (x :: l)=x++(l.map λy=>c :: y).flatten
 |[]=>(ZL x).symm
 |y :: l=>by
  show x++[c]++ar [c] (y :: l)=_;rw[iS c y l,ZY];rfl
def Gu(r:Row):Tx:=tx r.1++[32]++tx r.2.1++[32]++BJ r.2.2.1
def E4(l:List (Nat×Nat)):Tx:=(l.map λp=>32 :: Ap p).flatten
def lE(r:Row):gV r=Gu r++E4 r.2.2.2:=by
 unfold gV xt Gu E4;rw[iS,Zd,Zd,Zn,Zn,Z0];simp only[ZY,Wm,YC];rfl
def md(x:Int){d:Int}(h:0<d)(e:d<=1000000000):∃n:Nat,x%d=(n:Int)/\n<d.toNat:=by
 have a:=YQ x (b:=d) (by omega);have b:=Ye x h;exact⟨(x%d).toNat,by omega,by omega⟩
def fd{m:Md}{x d:Int}(he:e U=Y (m,.int x))(h:0<d/\d<1073741824):e2 dh e (Q3 d) U=Y (.fr,.int (x/d)):=Ae he (y:=(.fr,.int d)) M (lr h)
def em{m:Md}{x d:Int}{n:Nat}(he:e U=Y (m,.int x))(h:0<d)(a:x%d=(n:Int)):e2 oMod e (Q3 d) U=Y (.fr,.int (n:Int)):=Ae he (y:=(.fr,.int d)) M ((bU h).trans (by rw[a]))
def pk(a b:Nat)(o:Option Nat)(d:List (Nat×Nat))(p:Nat×Nat):gV (a,b,o,d++[p])=gV (a,b,o,d)++[32]++[p.1]++[58]++tx p.2:=by
 rw[lE,lE];show Gu (a,b,o,d)++E4 (d++[p])=Gu (a,b,o,d)++E4 d++[32]++[p.1]++[58]++tx p.2;unfold E4;rw[Z6,Yo];simp only[ZY];show _=_++(_++(32 :: Ap p));simp only[Zd,List.map_nil,Zn,List.flatten_nil,ZL]
def tQ{U:Env}{a e:Ex}{m n:Md}{c:Int}(g:a U=Y (.fr,.str (tx k)))(he:e U=Y (n,.int c))(i:k<60):∃o:Option Nat,e2 bh (b9 (ae (eC (.str [45])) (ae a ah))) (e2 oMod e (Q3 2)) U=Y (.fr,.str (BJ o))/\∀k,o=Y k->k<G9:=by
 have d:=dJ (as:=ae (eC (.str [45])) (ae a ah)) (U:=U) [[45],tx k] (xv (x:=(.fr,.str [45])) M (xv (r:=ah) g M)) (by show 2<=_;decide);have em:=Ae (f:=oMod) (b:=Q3 2) he (y:=(.fr,.int 2)) M (bU (by decide));have j:=YQ c (b:=2) (by decide);have b1:=Ye c (b:=2) (by decide);have:c%2=0\/c%2=1:=by omega
 rcases this with z | z
 ·rw[z]at em;exact⟨Z,Ae d em M,λk h=>nomatch h⟩
 ·rw[z]at em;exact⟨Y k,Ae d em M,λk h=>by cases h;show _<1000000000;omega⟩
def yK:∀k,k<6->([97,98,99,100,101,102]:Tx).getD k 0=97+k:=by decide
structure Wo(l:List (Nat×Nat))(s:Nat)(r:Wi):Prop where
 ws:∀p∈l,97<=p.1/\p.1<=122/\p.2<G9
 up:l.Pairwise (λa b=>a.1<b.1)
 AV:l.length+r.length<=3
 lt:∀p∈l,∀k∈r,p.1<97+(k+s)
 rs:r.Pairwise (· < ·)
 r3:∀k∈r,k<3
def Wo.more{n:Nat}(h:Wo e s (k :: r))(l:s<3)(f:n<G9):Wo (e++[(97+(k+s),n)]) s r:=by
 have m:=h.r3 k zU;have AV:=h.AV;rw[Zj]at AV;refine⟨λp d=>?_,?_,by rw[zW,Z5];omega,λp d i hi=>?_,(Yg.mp h.rs).2,λi hi=>h.r3 i (zV _ hi)⟩
 ·rcases Zv.mp d with d | d
  ·exact h.ws p d
  ·rw[Zx.mp d];exact⟨by show 97<=97+(k+s);omega,by show 97+(k+s)<=122;omega,f⟩
 ·refine List.pairwise_append.mpr ⟨h.up,List.pairwise_singleton _ _,λa j b g=>?_⟩;rw[Zx.mp g];exact h.lt a j k zU
 ·rcases Zv.mp d with d | d
  ·exact h.lt p d i (zV _ hi)
  ·rw[Zx.mp d];have:=(Yg.mp h.rs).1 i hi;show 97+(k+s)<97+(i+s);omega
abbrev EL(d:Wh)(L:List Tx)(b:Wf)(v:Int)(t:Tx)(a:Wf):Env:=[pc (.scr d),oc (.lst (L.map .str)),b,Q0 v,Q2 t,a]
def vb(g:a<G9)(f:b<G9)(e:∀k,o=Y k->k<G9)(h:Wo d s r):Ro (a,b,o,d):=⟨g,f,e,h.ws,h.up,by have:=h.AV;show d.length<=26;omega⟩
def w6(g:Wh)(L:List Tx)(f l:Wf)(v:Int)(u:a<G9)(t:b<G9)(p:∀k,o=Y k->k<G9)(F:n<4):∃r z,Ro r/\forL (cP 5) cy ((List.range n).map λ(i:Nat)=>T.int (i:Int)) (EL g L f v (gV (a,b,o,[])) l)=Y (.nx (EL g L f v (gV r) z)):=by
 obtain⟨s,C,w⟩:=md v (d:=3) (by decide) (by decide);obtain⟨H,e,ws,z,rfl,h⟩:=fO (tg:=cP 5) (body:=cy) (λ(i:Nat)=>T.int (i:Int)) (λr U=>∃ws z,U=EL g L f v (gV (a,b,o,ws)) z/\Wo ws s r) (by
  rintro i r _ ⟨ws,z,rfl,h⟩;have E:=h.r3 i zU;obtain⟨q,eq,A⟩:=md (v/(3+(i:Int))) (d:=90) (by decide) (by decide);have j:q<G9:=YI A (by decide);have D:=(d7 (vb u t p h)).1;have G:=(cN j).len;refine⟨EL g L f v (gV (a,b,o,ws)) (Q0 (i:Int)),EL g L f v (gV (a,b,o,ws++[(97+(i+s),q)])) (Q0 (i:Int)),rfl,?_,_,_,rfl,h.more w j⟩;unfold cy;rw[pk];refine ax (m:=.fr) (bL (m:=.fr) (n:=.fr) (bL (m:=.fr) (n:=.fr) (bL (m:=.fr) (n:=.fr) (bL (m:=.fr) (n:=.fr) M M ?_) ?_ ?_) M ?_) (mF (m:=.fr) (Ae (Ae (x:=(.fr,.int v)) M (Ae (x:=(.fr,.int 3)) (y:=(.fr,.int (i:Int))) M M M) (lr (by omega))) (y:=(.fr,.int 90)) M ((bU (by decide)).trans (by rw[eq]))) j) ?_) (by decide) (by show 4<6;decide)
  ·show (gV (a,b,o,ws)).length+1<=_;omega
  ·refine Ae (x:=(.fr,.str [97,98,99,100,101,102])) (y:=(.fr,.int ((i+s:Nat):Int))) M (Ae (x:=(.fr,.int (i:Int))) M (em (m:=.fr) (x:=v) M (by decide) C) ?_) ((ir _ _ (by omega) (by show ((i+s:Nat):Int)<6;omega)).trans ?_)
   ·show Y (Md.fr,T.int ((i:Int)+(s:Int)))=_;rw[show ((i:Int)+(s:Int))=((i+s:Nat):Int) by omega]
   ·rw[ZU,yK _ (by omega)]
  ·rw[zW];show (gV (a,b,o,ws)).length+1+1<=_;omega
  ·rw[zW,zW];show (gV (a,b,o,ws)).length+1+1+1<=_;omega
  ·rw[zW,zW,zW];show (gV (a,b,o,ws)).length+1+1+1+(tx q).length<=_;omega) (List.range n) _ ⟨[],l,rfl,λ_ h=>(nomatch h),.nil,by rw[Ya];show 0+n<=3;omega,λ_ h=>(nomatch h),List.pairwise_lt_range,λk B=>by have:=X0.mp B;omega⟩
 exact⟨_,z,vb u t p h,e⟩
abbrev EO(f:Wh)(R:List Row)(e d b a:Wf):Env:=[pc (.scr f),oc (.lst ((R.map gV).map .str)),e,d,b,a]
def vA(f:Wh)(R:List Row)(j:Nat)(X:j<12)(hR:R.length<=12)(y s q:Wf):∃r C B A,Ro r/\cm (EO f R (Q0 (j:Int)) y s q)=Y (.nx (EO f (R++[r]) (Q0 (j:Int)) C B A)):=by
 obtain⟨v,D⟩:=sD (cellAt f 1) j (by omega) (by omega);obtain⟨a,Q,H⟩:=md v (d:=7) (by decide) (by decide);obtain⟨b,P,G⟩:=md (v/7) (d:=50) (by decide) (by decide);obtain⟨c,O,w⟩:=md (v/350) (d:=60) (by decide) (by decide);obtain⟨n,I,F⟩:=md (v/50) (d:=4) (by decide) (by decide);have g:a<G9:=YI H (by decide);have p:b<G9:=YI G (by decide);obtain⟨o,eo,u⟩:=tQ (U:=[pc (.scr f),oc (.lst ((R.map gV).map .str)),Q0 (j:Int),Q0 v,s,q]) (a:=eN eW (ae (e2 oMod (e2 dh (af 3) (Q3 350)) (Q3 60)) ah)) (e:=af 3) (m:=.fr) (n:=.fr) (c:=v) (mF (m:=.fr) (em (fd (m:=.fr) (x:=v) M (by decide)) (by decide) O) (YI w (by decide))) M w;obtain⟨r,z,E,N⟩:=w6 f (R.map gV) (Q0 (j:Int)) q v g p u F;refine⟨r,Q0 v,Q2 (gV r),z,E,?_⟩;have W:=(cN g).len;have S:=(cN p).len;have lo:=(pU (r:=(a,b,o,[])) ⟨g,p,u,(λ_ h=>nomatch h),.nil,Yx _⟩).1;unfold cm;refine sq (ax (m:=.fr) (t:=.int v) (aG (xv (x:=(.fr,.int (cellAt f 1))) (jX (k:=1) M M) (xv (r:=ah) (x:=(.fr,.int (j:Int))) M M)) D) (by decide) (by show 3<6;decide)) (sq (ax (m:=.fr) (t:=.str (gV (a,b,o,[]))) ?_ (by decide) (by show 4<6;decide)) (sq ((jK (m:=.fr) (oP (m:=.fr) (n:=n) (em (fd (m:=.fr) (x:=v) M (by decide)) (by decide) I) (by omega)) M).trans N) ((pG (i:=1) (l:=(R.map gV).map .str) (v:=.str (gV r)) M M (by rw[zT,zT];omega)).trans ?_)))
 ·rw[lE];show _=Y (Md.fr,T.str (tx a++[32]++tx b++[32]++BJ o++[]));rw[ZL];refine bL (m:=.fr) (n:=.fr) (bL (m:=.fr) (n:=.fr) (bL (m:=.fr) (n:=.fr) (bL (m:=.fr) (n:=.fr) (mF (m:=.fr) (em (m:=.fr) (x:=v) M (by decide) Q) g) M ?_) (mF (m:=.fr) (em (fd (m:=.fr) (x:=v) M (by decide)) (by decide) P) p) ?_) M ?_) eo ?_
  ·show (tx a).length+1<=_;omega
  ·rw[zW];show (tx a).length+1+_<=_;omega
  ·rw[zW,zW];show (tx a).length+1+_+1<=_;omega
  ·rw[zW,zW,zW];show (tx a).length+1+_+1+(BJ o).length<=_;have:(BJ o).length<=9:=lo;omega
 ·show Y (Out.nx [_,oc (.lst ((R.map gV).map T.str++[T.str (gV r)])),_,_,_,_])=_;rw[show (R.map gV).map T.str++[T.str (gV r)]=((R++[r]).map gV).map T.str by rw[Z6,Z6];rfl]
def sJ(a:Wh):∃R:List Row,de [.scr a]=Y (.fr,.lst ((R.map gV).map .str))/\(∀r∈R,Ro r)/\0<R.length/\R.length<=12:=by
 obtain⟨p,A,u⟩:=md (cellAt a 0) (d:=12) (by decide) (by decide);have u:p<12:=u;obtain⟨E,e,R,o,g,f,b,rfl,s,t,_⟩:=fO (tg:=cP 2) (body:=cm) (λ(i:Nat)=>T.int (i:Int)) (λr U=>∃R o g f b,U=EO a R o g f b/\R.length+r.length=1+p/\(∀x∈R,Ro x)/\∀j∈r,j<12) (by
  rintro j r _ ⟨R,o,g,f,b,rfl,s,t,v⟩;rw[Zj]at s;obtain⟨x,D,C,B,w,q⟩:=vA a R j (v j zU) (by omega) g f b;refine⟨_,_,rfl,q,R++[x],_,_,_,_,rfl,by rw[zW,Z5];omega,λy l=>?_,λi hi=>v i (zV _ hi)⟩;rcases Zv.mp l with l | l
  ·exact t y l
  ·rw[Zx.mp l];exact w) (List.range (1+p)) (EO a [] Z Z Z Z) ⟨[],Z,Z,Z,Z,rfl,by rw[Ya];exact Y2 _,λ_ h=>(nomatch h),λj z=>by have:=X0.mp z;omega⟩
 have s:R.length=1+p:=s;refine⟨R,bM (U:=[pc (.scr a),Z,o,g,f,b]) M (sq (U1:=EO a [] Z Z Z Z) M (sq ((jK (m:=.fr) (oP (m:=.fr) (n:=1+p) (Ae (x:=(.fr,.int 1)) (y:=(.fr,.int (p:Int))) M (em (m:=.fr) (jX (k:=0) M M) (by decide) A) ?_) (by omega)) M).trans e) M)),t,by omega,by omega⟩;show Y (Md.fr,T.int (1+(p:Int)))=_;rw[show (1+(p:Int))=((1+p:Nat):Int) by omega]
def jw{B:List Tx}(h:B.length<3):fu B=L:=by
 unfold fu;rw[Zg (by omega)];rfl
def vL{B:List Tx}(h:y∈B.drop 3)(w:gQ y=L):fu B=L:=by
 unfold fu;rw[show (B.drop 3).all gQ=L from List.all_eq_false.mpr ⟨y,h,by rw[w];exact Zp⟩,Y7,Yy]
def vW(h:y∈nums B)(w:d9 y=L):fu B=L:=by
 unfold fu;rw[show (nums B).all d9=L from List.all_eq_false.mpr ⟨y,h,by rw[w];exact Zp⟩,Y7,Yy,Yy]
def mK{B:List Tx}{k:Nat}{y:Tx}(h:B[k]?=Y y)(a:3<=k)(w:gQ y=L):fu B=L:=by
 refine vL (Z8 (i:=k-3) ?_) w;rw[Wz,show 3+(k-3)=k by omega,h]
def qD{B:List Tx}{k:Nat}{y:Tx}(h:B[k]?=Y y)(a:k<3)(w:d9 y=L)(b:y≠[45]):fu B=L:=by
 refine vW (Z8 (i:=k) ?_) w;unfold nums;split
 ·rename_i z;rw[Xa,h];rcases Nat.lt_or_eq_of_le (Nat.le_of_lt_succ a) with q | q
  ·exact q
  ·subst q;rw[ZQ,h]at z;exact absurd z b
 ·rw[Xa a,h]
def mH{B:List Tx}{L:List Tx}(h:(B.drop 3).map (·.take 1)=L++[a,b])(j:a<b->False):fu B=false:=by
 have:qd ((B.drop 3).map (·.take 1))=false:=by
  refine Bool.eq_false_iff.mpr λz=>?_;have e:=beq_iff_eq.mp z;have p:=fQ (dedup ((B.drop 3).map (·.take 1)));have q:=(dc (dedup ((B.drop 3).map (·.take 1)))).symm.nodup (cY _);rw[← e,h]at p q;have i:=(List.pairwise_append.mp p).2.1;have f:=(ZA.mp q).2.1;have g:=(Yg.mp i).1 b zU;have d:=(Yg.mp f).1 b zU;exact d (List.le_antisymm (XB.mp g) (XB.mp λw=>j w))
 unfold fu;rw[this,Yy,Yy,Yy]
structure BI(t:Tx)(B:List Tx):Prop where
 eq:t=ar [32] B
 ne:B≠[]
 ok:∀x∈B,x.length<=30/\∀c∈x,33<=c
 AV:B.length<=40
 no:fu B=false
theorem lg(c:Nat):∀(a:List Tx)(y:Tx)(b:List Tx),a≠[]->ar [c] (a++y :: b)=ar [c] a++c :: ar [c] (y :: b)
 |[],_,_,h=>absurd M h
 |[x],y,b,_=>by
  show x++[c]++ar [c] (y :: b)=x++c :: _;rw[ZY];rfl
 |x :: z :: a,y,b,_=>by
  show x++[c]++ar [c] ((z :: a)++y :: b)=(x++[c]++ar [c] (z :: a))++c :: _;rw[lg c (z :: a) y b (λh=>nomatch h),ZY _ _ (c :: _)]
def join_cons(c x:Nat)(w:Tx)(l:List Tx):ar [c] ((x :: w) :: l)=x :: ar [c] (w :: l):=by cases l<;>rfl
def eO(h:Ro r):∀x∈xt r,x.length<=11/\∀c∈x,33<=c:=λx a=>⟨(jx h x a).1,λc b=>Zu (by decide) ((jx h x a).2 c b).1⟩
def pq(r:Row):xt r≠[]:=λz=>nomatch z
def gr(h:Ro r)(y:Tx)(b:List Tx)(he:32 :: ar [32] (y :: b)=s)(f:b.length<=1)(e:∀x∈y :: b,x.length<=30/\∀c∈x,33<=c)(d:fu (xt r++y :: b)=L):BI (gV r++s) (xt r++y :: b):=by
 refine⟨?_,λz=>?_,λx a=>?_,?_,d⟩
 ·rw[← he,lg 32 _ y b (pq r)];rfl
 ·exact pq r (List.append_eq_nil_iff.mp z).1
 ·rcases Zv.mp a with a | a
  ·exact⟨Zu (eO h x a).1 (by decide),(eO h x a).2⟩
  ·exact e x a
 ·have:=cE h;rw[zW,Zj];omega
def cF(h:Ro r)(y:Tx)(a:y.length<=30/\∀c∈y,33<=c)(w:gQ y=L):∃B,BI (gV r++32 :: y) B :=
 ⟨_,gr h y [] M (by decide) (λx b=>by rw[Zx.mp b];exact a) (mK (k:=(xt r).length) (by rw[ZR (Zy _),Nat.sub_self];rfl) (f3 r) w)⟩
def qM(r:Row)(l:List Tx):((xt r++l).drop 3).map (·.take 1)=(r.2.2.2.map Ap).map (·.take 1)++l.map (·.take 1):=by
 show ((r.2.2.2.map Ap++l)).map _=_;rw[Z6]
def rA(h:C6 48 57 c=L):d9 (c :: w)=L:=by
 unfold d9;rw[List.all_cons,h,Y7,Yy]
def qc{t:Tx}(h:9<t.length):d9 t=L:=by
 unfold d9;rw[Zg (by omega)];rfl
def ql(h:w≠[]):d9 (48 :: w)=L:=by
 have:0<w.length:=List.length_pos_iff.mpr h;unfold d9;rw[show decide (1<(48 :: w).length)=J from decide_eq_true (by rw[Zj];omega)];show (_ && !(J&&J)&&_)=L;rw[show (!(J&&J))=L from rfl,Yy,Y7]
def jD(h:Ro r){k:Nat}{y:Tx}(he:t=ar [32] B)(b:B[k]?=Y y)(f:k<3)(w:d9 y=L)(g:y≠[45])(d:∀x∈B,x=y\/x∈xt r)(e:y.length<=30/\∀c∈y,33<=c)(i:B.length<=40):BI t B :=
 ⟨he,λz=>(by rw[z]at b;cases b),λx a=>by
  rcases d x a with rfl | a
  ·exact e
  ·exact⟨Zu (eO h x a).1 (by decide),(eO h x a).2⟩,i,qD b f w g⟩
theorem lA:∀{a b:Tx},c∉a->fj c (a++c :: b)=Y (a,b)
 |[],b,_=>Zq M
 |x :: a,b,h=>by
  show (if x=c then _ else _)=_;rw[Zl λz=>h (by rw[z];exact zU)];exact(congrArg (Option.map λp:Tx×Tx=>(x :: p.1,p.2)) (lA (b:=b) λz=>h (zV _ z))).trans M
def uN(n:Nat):tx n≠[]:=λz=>by
 obtain⟨c,q,e,_⟩:=uM n;rw[z]at e;cases e
def gh(h:Ro r)(b:33<=c)(w:d9 (c :: tx r.1)=L):∃B,BI (c :: gV r) B:=by
 have e:=eO h (tx r.1) zU;refine⟨(c :: tx r.1) :: tx r.2.1 :: BJ r.2.2.1 :: r.2.2.2.map Ap,jD h (k:=0) (y:=c :: tx r.1) (join_cons 32 c (tx r.1) _).symm M (by decide) w (λz=>uN r.1 (X6 z).2) (λx a=>?_) ⟨by rw[Zj];omega,λd hd=>?_⟩ (Zu (cE h) (by decide))⟩
 ·rcases Zz.mp a with a | a
  ·exact .inl a
  ·exact .inr (zV _ a)
 ·rcases Zz.mp hd with rfl | hd
  ·exact b
  ·exact e.2 d hd
def yi(h:Ro r)(e:k<(xt r).length):∃B,BI (ar [32] ((xt r).take k++[[120]]++(xt r).drop (k+1))) B:=by
 have lt:((xt r).take k).length=k:=by rw[ZD];omega
 have g:((xt r).take k++[[120]]++(xt r).drop (k+1))[k]?=Y [120]:=by
  rw[ZY,ZR (by omega),lt,Nat.sub_self];rfl
 refine⟨_,rfl,λz=>(by rw[z]at g;cases g),λx a=>?_,?_,?_⟩
 ·have b:x∈xt r->x.length<=30/\∀c∈x,33<=c:=λa=>⟨Zu (eO h x a).1 (by decide),(eO h x a).2⟩
  rcases Zv.mp a with a | a
  ·rcases Zv.mp a with a | a
   ·exact b (ZJ a)
   ·rw[Zx.mp a];exact⟨by decide,by decide⟩
  ·exact b (Xr a)
 ·have:=cE h;rw[zW,zW,lt,ZX,Z5];omega
 ·by_cases d:k<3
  ·exact qD g d (by decide) (by decide)
  ·exact mK g (by omega) (by decide)
def b1(r:Row):List Tx:=[[],gV r++[32],[32]++gV r,rep1 32 [32,32] (gV r),ar [32] ((xt r).take 2),ar [32] ((xt r).take 1)]
def b2(r:Row):List Tx:=[[48]++gV r,[43]++gV r,[45]++gV r,[49,50,51,52,53,54,55,56,57,48,32]++gV r,gV r++[32,97],gV r++[32,97,58],gV r++[32,58,49]]
def b3(r:Row):List Tx:=[gV r++[32,122,58,49,32,122,58,50],gV r++[32,122,58,49,32,97,58,50],gV r++[32,90,58,49],gV r++[32,122,122,58,49],gV r++[32,122,58,48,49],gV r++[32,122,58,49,32,50]]
def b4(r:Row)(k:Nat):List Tx:=[ar [32] ((xt r).take k++[[120]]++(xt r).drop (k+1)),gV r++[32,122,58,45,49],gV r++[32,122,59,49],gV r++[32,122,58,49,50,51,52,53,54,55,56,57,48]]
def two(r:Row):Tx:=tx r.1++[32]++tx r.2.1
def b5(r:Row):List Tx:=[two r++[32,46,32],two r++[32,78,111,110,101],tx r.1++[44]++tx r.2.1++[32,48]]
def pK(r:Row):gV r=tx r.1++32 :: ar [32] (tx r.2.1 :: BJ r.2.2.1 :: r.2.2.2.map Ap):=by
 show tx r.1++[32]++_=_;rw[ZY];rfl
def cw{y:Tx}(h:(decide (y.length<=30)&&y.all λc=>decide (33<=c))=J):y.length<=30/\∀c∈y,33<=c:=by
 rw[YU,decide_eq_true_eq,ZK]at h;exact⟨h.1,λc a=>of_decide_eq_true (h.2 c a)⟩
def jm{a b:Tx}(f:(decide (a.length<=30)&&a.all λc=>decide (33<=c))=J)(e:(decide (b.length<=30)&&b.all λc=>decide (33<=c))=J):∀x∈[a,b],x.length<=30/\∀c∈x,33<=c:=λx d=>by
 rcases Zz.mp d with rfl | d
 ·exact cw f
 ·rw[Zx.mp d];exact cw e
def yQ(h:Ro r):∀t∈b1 r,∃B,BI t B:=by
 have d:=eO h (tx r.1) zU;have f1:=eO h (tx r.2.1) (zV _ zU);have b:∀k,k<3->0<k->∃B,BI (ar [32] ((xt r).take k)) B:=λk e f=>by
  have lt:((xt r).take k).length<=k:=YF _ _;have g:=f3 r;refine⟨_,rfl,λz=>?_,λx a=>⟨Zu (eO h x (ZJ a)).1 (by decide),(eO h x (ZJ a)).2⟩,by omega,jw (by omega)⟩;have:=congrArg List.length z;rw[ZD,YB]at this;omega
 refine z7.mpr ⟨⟨[[]],rfl,by decide,λx a=>by rw[Zx.mp a];exact⟨by decide,by decide⟩,by decide,jw (by decide)⟩,z7.mpr ⟨cF h [] ⟨by decide,by decide⟩ M,z7.mpr ⟨?_,z7.mpr ⟨?_,z7.mpr ⟨b 2 (by decide) (by decide),z7.mpr ⟨b 1 (by decide) (by decide),λ_ h=>nomatch h⟩⟩⟩⟩⟩⟩
 ·exact⟨[] :: xt r,jD h (k:=0) (y:=[]) M M (by decide) M (λz=>nomatch z) (λx a=>Zz.mp a) ⟨by decide,by decide⟩ (by have:=cE h;rw[Zj];omega)⟩
 ·refine⟨tx r.1 :: [] :: tx r.2.1 :: BJ r.2.2.1 :: r.2.2.2.map Ap,jD h (k:=1) (y:=[]) ?_ M (by decide) M (λz=>nomatch z) (λx a=>?_) ⟨by decide,by decide⟩ ?_⟩
  ·rw[pK];unfold rep1;rw[lA λz=>absurd (d.2 32 z) (by decide)];show _=tx r.1++[32]++([]++[32]++_);rw[ZY];rfl
  ·rcases Zz.mp a with rfl | a
   ·exact .inr zU
   ·rcases Zz.mp a with a | a
    ·exact .inl a
    ·exact .inr (zV _ a)
  ·have:(r.2.2.2.map Ap).length+3<=29:=cE h;show (r.2.2.2.map Ap).length+1+1+1+1<=40;omega
def zl(h:Ro r):∀t∈b2 r,∃B,BI t B:=by
 refine z7.mpr ⟨gh h (by decide) (ql (uN _)),z7.mpr ⟨gh h (by decide) (rA M),z7.mpr ⟨gh h (by decide) (rA M),z7.mpr ⟨?_,z7.mpr ⟨cF h [97] (cw M) M,z7.mpr ⟨cF h [97,58] (cw M) M,z7.mpr ⟨cF h [58,49] (cw M) M,λ_ h=>nomatch h⟩⟩⟩⟩⟩⟩⟩;exact⟨[49,50,51,52,53,54,55,56,57,48] :: xt r,jD h (k:=0) (y:=[49,50,51,52,53,54,55,56,57,48]) M M (by decide) (qc (by decide)) (by decide) (λx a=>Zz.mp a) (cw M) (by have:=cE h;rw[Zj];omega)⟩
def zo(h:Ro r):∀t∈b3 r,∃B,BI t B:=by
 refine z7.mpr ⟨⟨_,gr h [122,58,49] [[122,58,50]] M (by decide) (jm M M) (mH (qM r _) λz=>List.lt_irrefl _ z)⟩,z7.mpr ⟨⟨_,gr h [122,58,49] [[97,58,50]] M (by decide) (jm M M) (mH (qM r _) (show ([122]:Wi)<[97]->False by decide))⟩,z7.mpr ⟨cF h [90,58,49] (cw M) M,z7.mpr ⟨cF h [122,122,58,49] (cw M) M,z7.mpr ⟨cF h [122,58,48,49] (cw M) M,z7.mpr ⟨?_,λ_ h=>nomatch h⟩⟩⟩⟩⟩⟩;refine⟨_,gr h [122,58,49] [[50]] M (by decide) (jm M M) (mK (k:=(xt r).length+1) (y:=[50]) ?_ (Y4 (f3 r)) M)⟩;rw[ZR (YT _),show (xt r).length+1-(xt r).length=1 by omega];rfl
def zE(h:Ro r)(a:k<(xt r).length):∀t∈b4 r k,∃B,BI t B :=
 z7.mpr ⟨yi h a,z7.mpr ⟨cF h [122,58,45,49] (cw M) M,z7.mpr ⟨cF h [122,59,49] (cw M) M,z7.mpr ⟨cF h [122,58,49,50,51,52,53,54,55,56,57,48] (cw M) M,λ_ h=>nomatch h⟩⟩⟩⟩
def zB(h:Ro r):∀t∈b5 r,∃B,BI t B:=by
 have b:=eO h (tx r.1) zU;have f1:=eO h (tx r.2.1) (zV _ zU);have e:(tx r.1).length<=30/\∀c∈tx r.1,33<=c:=⟨Zu b.1 (by decide),b.2⟩
 have d:(tx r.2.1).length<=30/\∀c∈tx r.2.1,33<=c:=⟨Zu f1.1 (by decide),f1.2⟩
 refine z7.mpr ⟨⟨[tx r.1,tx r.2.1,[46],[]],?_,(λz=>nomatch z),?_,by show 4<=40;decide,mK (k:=3) (y:=[]) M (by decide) M⟩,z7.mpr ⟨⟨[tx r.1,tx r.2.1,[78,111,110,101]],?_,(λz=>nomatch z),?_,by show 3<=40;decide,qD (k:=2) (y:=[78,111,110,101]) M (by decide) M (by decide)⟩,z7.mpr ⟨⟨[tx r.1++[44]++tx r.2.1,[48]],?_,(λz=>nomatch z),?_,by show 2<=40;decide,jw (by show 2<3;decide)⟩,λ_ h=>nomatch h⟩⟩⟩
 ·show tx r.1++[32]++tx r.2.1++[32,46,32]=tx r.1++[32]++(tx r.2.1++[32]++[46,32]);simp only[ZY];rfl
 ·exact z7.mpr ⟨e,z7.mpr ⟨d,jm M M⟩⟩
 ·show tx r.1++[32]++tx r.2.1++[32,78,111,110,101]=tx r.1++[32]++(tx r.2.1++[32]++[78,111,110,101]);simp only[ZY];rfl
 ·exact z7.mpr ⟨e,z7.mpr ⟨d,z7.mpr ⟨cw M,λ_ h=>nomatch h⟩⟩⟩
 ·show tx r.1++[44]++tx r.2.1++[32,48]=(tx r.1++[44]++tx r.2.1)++[32]++[48];simp only[ZY];rfl
 ·refine z7.mpr ⟨⟨?_,λc a=>?_⟩,z7.mpr ⟨cw M,λ_ h=>nomatch h⟩⟩
  ·rw[zW,zW];show _+1+_<=_;omega
  ·rcases Zv.mp a with a | a
   ·rcases Zv.mp a with a | a
    ·exact b.2 c a
    ·rw[Zx.mp a];decide
   ·exact f1.2 c a
section
def ap(h:Ro r)(b:af 0 U=Y (.fr,.str (gV r)))(y:Tx)(a:Nat.ble y.length 100=J):e2 au (af 0) (eC (.str y)) U=Y (.fr,.str (gV r++y)):=bL (m:=.fr) (n:=.fr) b M (by have:=(d7 h).1;have:=XD a;omega)
def pp(h:Ro r)(b:af 0 U=Y (.fr,.str (gV r)))(y:Tx)(a:Nat.ble y.length 100=J):e2 au (eC (.str y)) (af 0) U=Y (.fr,.str (y++gV r)):=bL (m:=.fr) (n:=.fr) M b (by have:=(d7 h).1;have:=XD a;omega)
end
def iq(h:∀x∈l,x.length<=30)(a:l.length<=40):total l+l.length<=16777216:=by
 have:=hU 30 l h;omega
def v7(h:Ro r)(c:Int):∃t B,bX [.str (gV r),.int c]=Y (.fr,.str t)/\BI t B:=by
 have h3:=f3 r;have W:=cE h;have lo:=(d7 h).1;have y:∀x∈xt r,x.length<=30:=λx f=>Zu (eO h x f).1 (by decide);have b0:=YQ (c/32) (b:=((xt r).length:Int)) (by omega);have M4:=Ye (c/32) (b:=((xt r).length:Int)) (by omega);obtain⟨k,ek⟩:∃k:Nat,c/32%((xt r).length:Int)=(k:Int):=⟨(c/32%((xt r).length:Int)).toNat,by omega⟩
 have R:k<(xt r).length:=by omega
 obtain⟨j,ej,w⟩:=md c (d:=26) (by decide) (by decide);have w:j<26:=w;have bt:∀t∈b1 r++b2 r++b3 r++b4 r k++b5 r,∃B,BI t B:=λt g=>by
  rcases Zv.mp g with g | g
  ·rcases Zv.mp g with g | g
   ·rcases Zv.mp g with g | g
    ·rcases Zv.mp g with g | g
     ·exact yQ h t g
     ·exact zl h t g
    ·exact zo h t g
   ·exact zE h R t g
  ·exact zB h t g
 have A:j<(b1 r++b2 r++b3 r++b4 r k++b5 r).length:=w;have O:(b1 r++b2 r++b3 r++b4 r k++b5 r).getD j []∈b1 r++b2 r++b3 r++b4 r k++b5 r:=by
  rw[ZQ,Zm A];exact Yh A
 obtain⟨B,u⟩:=bt _ O;refine⟨_,B,?_,u⟩;have X:=eO h (tx r.1) zU;have f1:=eO h (tx r.2.1) (zV _ zU);have rp:∀{U:Env},af 0 U=Y (.fr,.str (gV r))->kW 0 32 [32,32] U=Y (.fr,.str (rep1 32 [32,32] (gV r))):=λ{U} S=>by
  unfold kW;rw[S,Zw];obtain⟨B,u⟩:=yQ h (rep1 32 [32,32] (gV r)) (zV _ (zV _ (zV _ zU)));have ls:=iq (λx f=>(u.ok x f).1) u.AV;have D:rep1 32 [32,32] (gV r)=tx r.1++([32,32]++ar [32] (tx r.2.1 :: BJ r.2.2.1 :: r.2.2.2.map Ap)):=by
   rw[pK];unfold rep1;rw[lA λz=>absurd (X.2 32 z) (by decide)]
  refine Zq ⟨⟨λz=>?_,?_⟩,?_⟩
  ·rw[pK,zW,Zj]at z;omega
  ·show (gV r).length+2<=16777216;omega
  ·have N:=congrArg List.length (pK r);rw[zW,Zj]at N;refine kU ?_ λc o=>?_
   ·rw[D,zW,zW];show _+(2+_)<=_;omega
   ·rw[D]at o;have lc:=(d7 h).2;rw[pK]at lc;rcases Zv.mp o with o | o
    ·have:=(lc c (Z9 _ o)).2;omega
    ·rcases Zv.mp o with o | o
     ·have:∀x∈([32,32]:Wi),x<256:=by decide
      exact this c o
     ·have:=(lc c (Zb _ (zV _ o))).2;omega
 have v:∀{U:Env}{e:Ex}{l:List Tx}{m:Md},e U=Y (m,.lst (l.map .str))->(∀x∈l,x.length<=30)->l.length<=40->eM cA (eC (.str [32])) (ae e ah) U=Y (.fr,.str (ar [32] l)):=λhe f Q=>q9 M (xv (r:=ah) he M) (nc (iq f Q));have C:∀{U:Env}{j:Nat},af 2 U=Y (.pu,.lst ((xt r).map .str))->Aq (af 2) Z (Y (Q3 (j:Int))) U=Y (.fr,.lst (((xt r).take j).map .str)):=λp=>du p M M (dB (by omega));have q:∀j,(∀x∈(xt r).take j,x.length<=30)/\((xt r).take j).length<=40:=λj=>⟨λx f=>y x (ZJ f),Zu (List.length_take_le' _ _) (Zu W (by decide))⟩
 have G:∀{U:Env},af 2 U=Y (.pu,.lst ((xt r).map .str))->e2 bh (af 2) (Q3 0) U=Y (.fr,.str (tx r.1)):=λp=>jY (i:=0) p (n:=.fr) M (by omega);have F:∀{U:Env},af 2 U=Y (.pu,.lst ((xt r).map .str))->e2 bh (af 2) (Q3 1) U=Y (.fr,.str (tx r.2.1)):=λp=>jY (i:=1) p (n:=.fr) M (by omega);let L:=Q2 (gV r)
 let P:=pc (.lst ((xt r).map .str))
 let E (I H:Wf):Env:=[L,Q0 c,P,Q0 (k:Int),I,H]
 have e1:b9 (ae (eC (.str [])) (ae (e2 au (af 0) (eC (.str [32]))) (ae (e2 au (eC (.str [32])) (af 0)) (ae (kW 0 32 [32,32]) (ae (eM cA (eC (.str [32])) (ae (Aq (af 2) Z (Y (Q3 2))) ah)) (ae (eM cA (eC (.str [32])) (ae (Aq (af 2) Z (Y (Q3 1))) ah)) ah)))))) (E Z Z)=Y (.fr,.lst ((b1 r).map .str)) :=
  dJ (b1 r) (xv (x:=(.fr,.str [])) M (xv (ap h M _ M) (xv (pp h M _ M) (xv (rp M) (xv (v (C (j:=2) M) (q 2).1 (q 2).2) (xv (r:=ah) (v (C (j:=1) M) (q 1).1 (q 1).2) M)))))) (by show 6<=_;decide)
 have Ie:b9 (ae (e2 au (eC (.str [48])) (af 0)) (ae (e2 au (eC (.str [43])) (af 0)) (ae (e2 au (eC (.str [45])) (af 0)) (ae (e2 au (eC (.str [49,50,51,52,53,54,55,56,57,48,32])) (af 0)) (ae (e2 au (af 0) (eC (.str [32,97]))) (ae (e2 au (af 0) (eC (.str [32,97,58]))) (ae (e2 au (af 0) (eC (.str [32,58,49]))) ah))))))) (E (pc (.lst ((b1 r).map .str))) Z)=Y (.fr,.lst ((b2 r).map .str)) :=
  dJ (b2 r) (xv (pp h M _ M) (xv (pp h M _ M) (xv (pp h M _ M) (xv (pp h M _ M) (xv (ap h M _ M) (xv (ap h M _ M) (xv (r:=ah) (ap h M _ M) M))))))) (by show 7<=_;decide)
 have e3:b9 (ae (e2 au (af 0) (eC (.str [32,122,58,49,32,122,58,50]))) (ae (e2 au (af 0) (eC (.str [32,122,58,49,32,97,58,50]))) (ae (e2 au (af 0) (eC (.str [32,90,58,49]))) (ae (e2 au (af 0) (eC (.str [32,122,122,58,49]))) (ae (e2 au (af 0) (eC (.str [32,122,58,48,49]))) (ae (e2 au (af 0) (eC (.str [32,122,58,49,32,50]))) ah)))))) (E (pc (.lst ((b1 r++b2 r).map .str))) Z)=Y (.fr,.lst ((b3 r).map .str)) :=
  dJ (b3 r) (xv (ap h M _ M) (xv (ap h M _ M) (xv (ap h M _ M) (xv (ap h M _ M) (xv (ap h M _ M) (xv (r:=ah) (ap h M _ M) M)))))) (by show 6<=_;decide)
 have ex:eM cA (eC (.str [32])) (ae (e2 au (e2 au (Aq (af 2) Z (Y (af 3))) (b9 (ae (eC (.str [120])) ah))) (Aq (af 2) (Y (e2 au (af 3) (Q3 1))) Z)) ah) (E (pc (.lst ((b1 r++b2 r++b3 r).map .str))) Z)=Y (.fr,.str (ar [32] ((xt r).take k++[[120]]++(xt r).drop (k+1)))):=by
  have lt:((xt r).take k).length=k:=by rw[ZD];omega
  refine v (dE (dE (du (x:=(.pu,.lst ((xt r).map .str))) (l:=Z) (h:=Y (k:Int)) M M M (dB (by omega))) (dJ [[120]] M (by show 1<=_;decide)) ?_) (du (x:=(.pu,.lst ((xt r).map .str))) (l:=Y ((k+1:Nat):Int)) (h:=Z) M M M (g6 (by omega) (by omega))) ?_) (λx f=>?_) ?_
  ·rw[lt];show k+1<=_;omega
  ·rw[zW,lt,ZX];show k+1+_<=_;omega
  ·rcases Zv.mp f with f | f
   ·rcases Zv.mp f with f | f
    ·exact y x (ZJ f)
    ·rw[Zx.mp f];decide
   ·exact y x (Xr f)
  ·rw[zW,zW,lt,ZX];show k+1+_<=_;omega
 have e4:b9 (ae (eM cA (eC (.str [32])) (ae (e2 au (e2 au (Aq (af 2) Z (Y (af 3))) (b9 (ae (eC (.str [120])) ah))) (Aq (af 2) (Y (e2 au (af 3) (Q3 1))) Z)) ah)) (ae (e2 au (af 0) (eC (.str [32,122,58,45,49]))) (ae (e2 au (af 0) (eC (.str [32,122,59,49]))) (ae (e2 au (af 0) (eC (.str [32,122,58,49,50,51,52,53,54,55,56,57,48]))) ah)))) (E (pc (.lst ((b1 r++b2 r++b3 r).map .str))) Z)=Y (.fr,.lst ((b4 r k).map .str)) :=
  dJ (b4 r k) (xv ex (xv (ap h M _ M) (xv (ap h M _ M) (xv (r:=ah) (ap h M _ M) M)))) (by show 4<=_;decide)
 have et:e2 au (e2 au (e2 bh (af 2) (Q3 0)) (eC (.str [32]))) (e2 bh (af 2) (Q3 1)) (E (pc (.lst ((b1 r++b2 r++b3 r++b4 r k).map .str))) Z)=Y (.fr,.str (two r)):=by
  refine bL (m:=.fr) (n:=.fr) (bL (m:=.fr) (n:=.fr) (G M) M ?_) (F M) ?_
  ·show _+1<=_;omega
  ·rw[zW];show _+1+_<=_;omega
 have l2:(two r).length<=30:=by
  unfold two;rw[zW,zW];show _+1+_<=_;omega
 have e5:b9 (ae (e2 au (af 5) (eC (.str [32,46,32]))) (ae (e2 au (af 5) (eC (.str [32,78,111,110,101]))) (ae (e2 au (e2 au (e2 au (e2 bh (af 2) (Q3 0)) (eC (.str [44]))) (e2 bh (af 2) (Q3 1))) (eC (.str [32,48]))) ah))) (E (pc (.lst ((b1 r++b2 r++b3 r++b4 r k).map .str))) (Q2 (two r)))=Y (.fr,.lst ((b5 r).map .str)):=by
  refine dJ (b5 r) (xv (bL (m:=.fr) (n:=.fr) M M ?_) (xv (bL (m:=.fr) (n:=.fr) M M ?_) (xv (r:=ah) (bL (m:=.fr) (n:=.fr) (bL (m:=.fr) (n:=.fr) (bL (m:=.fr) (n:=.fr) (G M) M ?_) (F M) ?_) M ?_) M))) (by show 3<=_;decide)
  ·show _+3<=_;omega
  ·show _+5<=_;omega
  ·show _+1<=_;omega
  ·rw[zW];show _+1+_<=_;omega
  ·rw[zW,zW];show _+1+_+2<=_;omega
 have s:∀{a b:Nat},a<=100->b<=100->a+b<=16777216:=λh1 p=>by omega
 refine bM (U:=E (pc (.lst ((b1 r++b2 r++b3 r++b4 r k++b5 r).map .str))) (Q2 (two r))) M ?_;refine sq (U1:=[L,Q0 c,P,Z,Z,Z]) (ax (m:=.fr) (fU h M) (by decide) (by show 2<6;decide)) ?_;refine sq (U1:=E Z Z) (ax (m:=.fr) (Ae (fd (m:=.fr) (x:=c) M (by decide)) (g7 (m:=.pu) M) ((bU (by omega)).trans (by rw[ek]))) (by decide) (by show 3<6;decide)) ?_;refine sq (U1:=E (pc (.lst ((b1 r).map .str))) Z) (ax e1 (by decide) (by show 4<6;decide)) ?_;refine sq (U1:=E (pc (.lst ((b1 r++b2 r).map .str))) Z) (ax (dE (m:=.pu) M Ie (s (a:=6) (b:=7) (by decide) (by decide))) (by decide) (by show 4<6;decide)) ?_;refine sq (U1:=E (pc (.lst ((b1 r++b2 r++b3 r).map .str))) Z) (ax (dE (m:=.pu) M e3 (s (a:=13) (b:=6) (by decide) (by decide))) (by decide) (by show 4<6;decide)) ?_;refine sq (U1:=E (pc (.lst ((b1 r++b2 r++b3 r++b4 r k).map .str))) Z) (ax (dE (m:=.pu) M e4 (s (a:=19) (b:=4) (by decide) (by decide))) (by decide) (by show 4<6;decide)) ?_;refine sq (U1:=E (pc (.lst ((b1 r++b2 r++b3 r++b4 r k).map .str))) (Q2 (two r))) (ax et (by decide) (by show 5<6;decide)) ?_;refine sq (U1:=E (pc (.lst ((b1 r++b2 r++b3 r++b4 r k++b5 r).map .str))) (Q2 (two r))) (ax (dE (m:=.pu) M e5 (s (a:=23) (b:=3) (by decide) (by decide))) (by decide) (by show 4<6;decide)) ?_;exact br (jY (m:=.pu) (n:=.fr) (i:=j) M (em (m:=.fr) (x:=c) M (by decide) ej) A)
noncomputable abbrev Ln(x:Tx):Prop:=x.length<=2000/\10∉x
def gf(h:Ro r):Ln (gV r):=⟨Zu (d7 h).1 (by decide),λz=>absurd ((d7 h).2 10 z).1 (by decide)⟩
def lK(h:BI t B):Ln t:=by
 have a:=hU 30 B λx d=>(h.ok x d).1;have b:=fM 32 B;have:=h.AV;refine⟨by rw[h.eq];omega,λz=>?_⟩;rw[h.eq]at z;rcases hZ z with z | ⟨x,d,z⟩
 ·exact absurd z (by decide)
 ·exact absurd ((h.ok x d).2 10 z) (by decide)
def xR(h:BI t B):aL [.str t]=Y (.fr,.bl L):=by
 obtain⟨w,l,e⟩:=YL h.ne;have sp:ay 32 t=B:=by
  rw[h.eq,e];exact cR 32 w l λx a z=>absurd ((h.ok x (by rw[e];exact a)).2 32 z) (by decide)
 have:=yJ (t:=t) (Xi (lK h).1 (by decide)) (by rw[sp];exact Zu h.AV (by decide));rw[sp,h.no]at this;exact this
section
variable{A:List Tx}(h:∀x∈A,Ln x)(hl:A.length<=400)
include h
theorem wI(a:A≠[]):ay 10 (ar [10] A)=A:=by
 obtain⟨w,l,rfl⟩:=YL a;exact cR 10 w l λx b=>(h x b).2
include hl
theorem jt:total A+A.length<=1000000:=by
 have:=hU 2000 A λx a=>(h x a).1;omega
theorem jl:(ar [10] A).length<16777216:=by
 have:=fM 10 A;have:=jt h hl;omega
theorem uC{m:Md}(he:e U=Y (m,.lst (A.map .str))):eM cA (eC (.str [10])) (ae e ah) U=Y (.fr,.str (ar [10] A)):=q9 M (xv (r:=ah) he M) (nc (by have:=jt h hl;omega))
end
def yV{R:List Row}{t:Tx}{B rest:List Tx}(e:∀r∈R,Ro r)(i:R.length+rest.length<=20)(f:BI t B)(d:∀x∈rest,Ln x)(a:Bool):aM [.str (ar [10] (R.map gV++t :: rest)),.int (R.length:Int),.bl a]=Y (.fr,.bl J):=by
 have g:∀x∈R.map gV++t :: rest,Ln x:=λx b=>by
  rcases Zv.mp b with b | b
  ·obtain⟨r,d,rfl⟩:=Z3.mp b;exact gf (e r d)
  ·rcases Zz.mp b with rfl | b
   ·exact lK f
   ·exact d x b
 have h:(R.map gV++t :: rest).length<=400:=by
  rw[zW,zT,Zj];omega
 exact gg a (u5 (jl g h) (wI g λz=>nomatch (List.append_eq_nil_iff.mp z).2) e (by omega) (.inr (xR f)))
def uu:BI [] [[]]:=⟨rfl,(λz=>nomatch z),λx a=>by rw[Zx.mp a];exact⟨by decide,by decide⟩,by decide,jw (by decide)⟩
abbrev EW(g:Wh)(R:List Row)(f e d b a:Wf):Env:=[pc (.scr g),pc (.lst ((R.map gV).map .str)),f,e,d,b,a]
def so(h:e U=Y (.fr,.lst l))(a:i<U.length):mr i e U=Y (.nx (U.set i (Y (.ow (.lst l))))):=by
 show (e U).bind _=_;rw[h];exact Zq a
def zf{U:Env}{k:Nat}{l:List Tx}{w:Tx}{m:Md}(b:k<l.length)(h:U[i]?=Y (oc (.lst (l.map .str))))(a:x U=Y (m,.int (k:Int)))(he:e U=Y (.fr,.str w)):kf i [] x e U=Y (.nx (U.set i (oc (.lst ((l.set k w).map .str))))):=by
 unfold kf;rw[he,Zw,h];show (Y []).bind _=_;rw[Zw,a];show ((((Be (l.map T.str).length (k:Int)).map λj=>(T.lst ((l.map T.str).set j (.str w)),())).map _):Option Out)=_;rw[zT,xK b];show Y (Out.nx (U.set i (oc (.lst ((l.map T.str).set k (.str w))))))=_;rw[List.map_set]
def MB(h:af i U=Y (.pu,.lst l)):b9 (ae (eC .non) (ae (Q3 5) (ae (eC (.bl J)) (ae (af i) (ae (lL (ae (eC (.str [48,32,48,32,45])) ah)) (ae (uf 0 []) (ae (Q3 0) ah))))))) U=Y (.pu,.lst [.non,.int 5,.bl J,.lst l,.tup [.str [48,32,48,32,45]],.dct 0 [],.int 0]):=by
 unfold b9;rw[xv (x:=(.fr,.non)) M (xv (x:=(.fr,.int 5)) M (xv (x:=(.fr,.bl J)) M (xv h (xv (x:=(.fr,.tup [.str [48,32,48,32,45]])) M (xv (x:=(.fr,.dct 0 [])) M (xv (r:=ah) (x:=(.fr,.int 0)) M M)))))),Zw];exact(gU (by show 7<=_;decide)).trans M
def wB{ns:Wh}(z:∀r∈R,Ro r)(h0:0<R.length)(HS:R.length<=12)(k:Nat)(G A g:Wf):∃N I H,fH (EW ns R (Q0 (k:Int)) G A g Z)=Y (.nx (EW ns R (Q0 (k:Int)) N I H Z)):=by
 generalize S:cellAt ns (3+k)+9576890767*(k:Int)=c;have b0:=YQ (c/7) (b:=(R.length:Int)) (by omega);have M4:=Ye (c/7) (b:=(R.length:Int)) (by omega);obtain⟨a,X⟩:∃a:Nat,c/7%(R.length:Int)=(a:Int):=⟨(c/7%(R.length:Int)).toNat,by omega⟩
 have u:a<R.length:=by omega
 have F:a<(R.map gV).length:=by rw[zT];exact u
 have gt:(R.map gV).getD a []=gV R[a]:=by rw[ZQ,Zm F,List.getElem_map];rfl
 obtain⟨t,B,W,C⟩:=v7 (z R[a] (Yh u)) (c/91);have D:∀r∈R.take a,Ro r:=λr o=>z r (ZJ o);have j:(R.take a).length=a:=by rw[ZD];omega
 have ld:((R.drop (a+1)).map gV).length=R.length-(a+1):=by rw[zT,ZX]
 have E:∀x∈(R.drop (a+1)).map gV,Ln x:=λx d=>by
  obtain⟨r,o,rfl⟩:=Z3.mp d;exact gf (z r (Xr o))
 have lm:(R.map gV).length<=12:=by rw[zT];exact HS
 have O:e2 au (e2 au (Aq (af 1) Z (Y (af 4))) (b9 (ae (aX bX (ae (e2 bh (af 1) (af 4)) (ae (e2 dh (af 3) (Q3 91)) ah))) ah))) (Aq (af 1) (Y (e2 au (af 4) (Q3 1))) Z) (EW ns R (Q0 (k:Int)) (Q0 c) (Q0 (a:Int)) g Z)=Y (.fr,.lst (((R.take a).map gV++t :: (R.drop (a+1)).map gV).map .str)):=by
  have:=dE (dE (du (a:=af 1) (lo:=Z) (hi:=Y (af 4)) (U:=EW ns R (Q0 (k:Int)) (Q0 c) (Q0 (a:Int)) g Z) (x:=(.pu,.lst ((R.map gV).map .str))) (l:=Z) (h:=Y (a:Int)) M M M (dB (by omega))) (dJ (as:=ae (aX bX (ae (e2 bh (af 1) (af 4)) (ae (e2 dh (af 3) (Q3 91)) ah))) ah) [t] (xv (r:=ah) (aG (xv (jY (m:=.pu) (n:=.fr) (i:=a) M M F) (xv (r:=ah) (fd (m:=.fr) (x:=c) M (by decide)) M)) (by
   show bX [.str ((R.map gV).getD a []),.int (c/91)]=_;rw[gt];exact W)) M) (by show 1<=_;decide)) (by rw[ZD];show _+1<=_;omega)) (du (a:=af 1) (lo:=Y (e2 au (af 4) (Q3 1))) (hi:=Z) (x:=(.pu,.lst ((R.map gV).map .str))) (l:=Y ((a+1:Nat):Int)) (h:=Z) M M M (g6 (by rw[zT];exact u) (by omega))) (by rw[zW,ZD,ZX];show _+1+_<=_;omega)
  rw[this,← X5,← List.map_drop,ZY];rfl
 obtain⟨rest,e,IQ,e6⟩:∃rest:List Tx,(∀x∈rest,Ln x)/\a+rest.length<=12/\BU (dX (e2 oEq (e2 oMod (af 3) (Q3 5)) (Q3 0)) (e2 oLt (e2 au (af 4) (Q3 1)) (eN cQ (ae (af 1) ah)))) (kf 5 [] (e2 sT (eN cQ (ae (af 5) ah)) (Q3 1)) (eC (.str [120]))) fN (EW ns R (Q0 (k:Int)) (Q0 c) (Q0 (a:Int)) (oc (.lst (((R.take a).map gV++t :: (R.drop (a+1)).map gV).map .str))) Z)=Y (.nx (EW ns R (Q0 (k:Int)) (Q0 c) (Q0 (a:Int)) (oc (.lst (((R.take a).map gV++t :: rest).map .str))) Z)):=by
  have p:=fY (m:=.fr) (n:=.fr) (U:=EW ns R (Q0 (k:Int)) (Q0 c) (Q0 (a:Int)) (oc (.lst (((R.take a).map gV++t :: (R.drop (a+1)).map gV).map .str))) Z) (x:=c%5==0) (y:=decide (a+1<R.length)) (Ae (Ae (a:=af 3) (b:=Q3 5) (x:=(.fr,.int c)) (y:=(.fr,.int 5)) M M (bU (by decide))) (b:=Q3 0) (y:=(.fr,.int 0)) M (dQ M M M)) (Ae (f:=oLt) (a:=e2 au (af 4) (Q3 1)) (x:=(.fr,.int ((a:Int)+1))) M (g7 (a:=af 1) (m:=.pu) M) (by
   show Y (Md.fr,T.bl (decide ((a:Int)+1<((R.map gV).length:Int))))=_;rw[zT,decide_eq_decide.mpr (show ((a:Int)+1<(R.length:Int))↔a+1<R.length by omega)]))
  cases s:(c%5==0&&decide (a+1<R.length)) with
  |false =>
   rw[s]at p;exact⟨_,E,by omega,jR p M⟩
  |true =>
   rw[s]at p;have a1:a+1<R.length:=of_decide_eq_true (Z1.mp s).2;have Q:((R.take a).map gV++t :: (R.drop (a+1)).map gV).length=R.length:=by
    rw[zW,Zj,zT,j,ld];omega
   refine⟨((R.drop (a+1)).map gV).set (R.length-1-a-1) [120],λx d=>?_,by rw[Yc];omega,Ey p ((zf (k:=R.length-1) (l:=(R.take a).map gV++t :: (R.drop (a+1)).map gV) (w:=[120]) (m:=.fr) (by omega) M (Ae (g7 (m:=.bo) M) (y:=(.fr,.int 1)) M ?_) M).trans ?_)⟩
   ·rcases List.mem_or_eq_of_mem_set d with d | d
    ·exact E x d
    ·rw[d];exact⟨by decide,by decide⟩
   ·rw[Q];show Y (Md.fr,T.int ((R.length:Int)-1))=_;rw[show ((R.length:Int)-1)=((R.length-1:Nat):Int) by omega]
   ·rw[List.set_append,Zl (by rw[zT,j];omega),zT,j,show R.length-1-a=(R.length-1-a-1)+1 by omega];rfl
 have Nj:∀x∈(R.take a).map gV++t :: rest,Ln x:=λx d=>by
  rcases Zv.mp d with d | d
  ·obtain⟨r,o,rfl⟩:=Z3.mp d;exact gf (D r o)
  ·rcases Zz.mp d with rfl | d
   ·exact lK C
   ·exact e x d
 have r1:=yV D (by omega) C e (c%3==0);rw[j]at r1;let U:Env:=EW ns R (Q0 (k:Int)) (Q0 c) (Q0 (a:Int)) (pc (.lst (((R.take a).map gV++t :: rest).map .str))) Z
 have r2:∃v,e2 bh (b9 (ae (eC .non) (ae (Q3 5) (ae (eC (.bl J)) (ae (af 5) (ae (lL (ae (eC (.str [48,32,48,32,45])) ah)) (ae (uf 0 []) (ae (Q3 0) ah)))))))) (e2 oMod (af 3) (Q3 7)) U=Y v/\aM [v.2,.int 0,.bl (c%2==0)]=Y (.fr,.bl J):=by
  obtain⟨x,d,q⟩:=tU (m:=.pu) (n:=.fr) [.non,.int 5,.bl J,.lst (((R.take a).map gV++t :: rest).map .str),.tup [.str [48,32,48,32,45]],.dct 0 [],.int 0] c 7 M (by decide);refine⟨sub .pu x,Ae (x:=(.pu,.lst [.non,.int 5,.bl J,.lst (((R.take a).map gV++t :: rest).map .str),.tup [.str [48,32,48,32,45]],.dct 0 [],.int 0])) (MB M) (Ae (x:=(.fr,.int c)) (y:=(.fr,.int 7)) M M (bU (by decide))) q,gg _ (r9 ?_)⟩;have al:∀x∈([.non,.int 5,.bl J,.lst (((R.take a).map gV++t :: rest).map .str),.tup [.str [48,32,48,32,45]],.dct 0 [],.int 0]:Wc),eQ (DA .str (af 0)) [pc x,Z,Z,Z]=Y (.fr,.bl J) :=
   z7.mpr ⟨rfl,z7.mpr ⟨rfl,z7.mpr ⟨rfl,z7.mpr ⟨rfl,z7.mpr ⟨rfl,z7.mpr ⟨rfl,z7.mpr ⟨rfl,λ_ h=>nomatch h⟩⟩⟩⟩⟩⟩⟩
  exact al x d
 obtain⟨v,ev,P⟩:=r2;refine⟨Q0 c,Q0 (a:Int),pc (.lst (((R.take a).map gV++t :: rest).map .str)),?_⟩;unfold fH;refine sq (U1:=EW ns R (Q0 (k:Int)) (Q0 c) A g Z) (ax (m:=.fr) (Ae (jX (k:=3+k) M (Ae (x:=(.fr,.int 3)) (y:=(.fr,.int (k:Int))) M M ?_)) (Ae (x:=(.fr,.int 9576890767)) (y:=(.fr,.int (k:Int))) M M (gC (by decide))) ?_) (by decide) (by show 3<7;decide)) ?_
 ·show Y (Md.fr,T.int (3+(k:Int)))=_;rw[show (3+(k:Int))=((3+k:Nat):Int) by omega]
 ·show Y (Md.fr,T.int (cellAt ns (3+k)+9576890767*(k:Int)))=_;rw[S]
 refine sq (U1:=EW ns R (Q0 (k:Int)) (Q0 c) (Q0 (a:Int)) g Z) (ax (m:=.fr) (Ae (fd (m:=.fr) (x:=c) M (by decide)) (g7 (m:=.pu) M) ?_) (by decide) (by show 4<7;decide)) ?_
 ·rw[zT];exact(bU (by omega)).trans (by rw[X])
 refine sq (so O (by show 5<7;decide)) (sq e6 (sq (U1:=U) M (sq (U1:=U) (jR (dr (m:=.fr) (b:=J) (aG (xv (uC (m:=.pu) Nj ?_ M) (xv (x:=(.fr,.int (a:Int))) M (xv (r:=ah) (Ae (Ae (x:=(.fr,.int c)) (y:=(.fr,.int 3)) M M (bU (by decide))) (y:=(.fr,.int 0)) M (dQ M M M)) M))) r1)) M) (jR (dr (m:=.fr) (b:=J) (aG (xv ev (xv (x:=(.fr,.int 0)) M (xv (r:=ah) (Ae (Ae (x:=(.fr,.int c)) (y:=(.fr,.int 2)) M M (bU (by decide))) (y:=(.fr,.int 0)) M (dQ M M M)) M))) P)) M))));rw[zW,Zj,zT,j];omega
def pJ(ns:Wh):qm [.scr ns]=Y (.fr,.bl J):=by
 obtain⟨R,N,o,I,S⟩:=sJ ns;obtain⟨U',O,j,g,f,e,rfl⟩:=fO (tg:=cP 2) (body:=fH) (λ(i:Nat)=>T.int (i:Int)) (λr U=>∃j g f e,U=EW ns R j g f e Z) (by
  rintro i r _ ⟨j,g,f,e,rfl⟩;obtain⟨y3,X,W,q⟩:=wB (ns:=ns) o I S i g f e;exact⟨_,_,rfl,q,_,_,_,_,rfl⟩) (List.range 16) (EW ns R Z Z Z Z Z) ⟨Z,Z,Z,Z,rfl⟩
 have r1:=yV o (rest:=[]) (by show R.length+0<=20;omega) uu (λ_ h=>nomatch h) L;have P:∀x∈R.map gV++[[]],Ln x:=λx d=>by
  rcases Zv.mp d with d | d
  ·obtain⟨r,a,rfl⟩:=Z3.mp d;exact gf (o r a)
  ·rw[Zx.mp d];exact⟨by decide,by decide⟩
 have lf:((List.replicate 301 R).flatten).length=301*R.length:=by rw[List.length_flatten,X9,List.sum_replicate_nat]
 generalize s:((List.replicate 301 R).flatten).take 301=G;have C:G.length=301:=by rw[← s,ZD,lf];omega
 have B:∀r∈G,Ro r:=λr a=>by
  rw[← s]at a;obtain⟨l,H,a⟩:=List.mem_flatten.mp (ZJ a);rw[(List.mem_replicate.mp H).2]at a;exact o r a
 have t:∀x∈G.map gV,Ln x:=λx d=>by
  obtain⟨r,a,rfl⟩:=Z3.mp d;exact gf (B r a)
 have D:(G.map gV).length=301:=by rw[zT,C]
 have p:(G.take 300).length=300:=by rw[ZD,C];rfl
 have w:∀r∈G.take 300,Ro r:=λr a=>B r (ZJ a);have u:∀x∈(G.take 300).map gV,Ln x:=λx d=>by
  obtain⟨r,a,rfl⟩:=Z3.mp d;exact gf (w r a)
 have l3:((G.take 300).map gV).length=300:=by rw[zT,p]
 have Q:300<G.length:=by omega
 have F:G.map gV=(G.take 300).map gV++gV G[300] :: []:=by
  have:G=G.take 300++[G[300]]:=by
   rw[List.take_append_getElem Q,Z2 (by omega)]
  exact(congrArg (List.map gV) this).trans Z6
 have r2:=gg L (u5 (R:=G.take 300) (l:=gV G[300]) (rest:=[]) (jl t (by omega)) ((wI t λz=>by rw[z]at D;cases D).trans F) w (by omega) (.inl p));have r3:=vH (jl u (by omega)) (wI u λz=>by rw[z]at l3;cases l3) w (by omega);rw[p]at r2;have E:Aq (e2 jZ (af 1) (Q3 301)) Z (Y (Q3 301)) (EW ns R j g f e Z)=Y (.fr,.lst ((G.map gV).map .str)):=by
  have rp:jZ (.pu,.lst ((R.map gV).map .str)) (.fr,.int 301)=Y (.fr,.lst ((((List.replicate 301 R).flatten).map gV).map .str)):=by
   refine(Zq ⟨d4 _ (λ_=>rfl) _,?_,by decide,by decide⟩).trans ?_
   ·show Y (Md.fr,T.lst (List.replicate 301 ((R.map gV).map T.str)).flatten)=_;rw[List.map_flatten,List.map_flatten,X9,X9]
   ·rw[zT,zT];show R.length*301<=16777216;omega
  refine du (l:=Z) (h:=Y ((301:Nat):Int)) (Ae (x:=(.pu,.lst ((R.map gV).map .str))) (y:=(.fr,.int 301)) M M rp) M M ((dB ?_).trans ?_)
  ·rw[zT,lf];omega
  ·rw[← X5,s]
 refine bM (U:=EW ns R j g f e (pc (.lst ((G.map gV).map .str)))) M (sq (U1:=EW ns R Z Z Z Z Z) (ax (aG (xv (r:=ah) (x:=(.fr,.scr ns)) M M) N) (by decide) (by show 1<7;decide)) (sq ((jK (m:=.fr) (oP (m:=.fr) (n:=16) M (by decide)) M).trans O) (sq (U1:=EW ns R j g f e Z) (jR (dr (m:=.fr) (b:=J) (aG (xv (uC (A:=R.map gV++[[]]) P ?_ (dE (m:=.pu) M (dJ [[]] M (by show 1<=_;decide)) ?_)) (xv (x:=(.fr,.int (R.length:Int))) ?_ (xv (r:=ah) (x:=(.fr,.bl L)) M M))) r1)) M) (sq (U1:=EW ns R j g f e (pc (.lst ((G.map gV).map .str)))) (ax E (by decide) (by show 6<7;decide)) (br (fY (m:=.fr) (n:=.fr) (x:=J) (y:=J) (aG (xv (uC (m:=.pu) t (by omega) M) (xv (x:=(.fr,.int 300)) M (xv (r:=ah) (x:=(.fr,.bl L)) M M))) r2) ?_))))))
 ·rw[zW,zT];show _+1<=_;omega
 ·rw[zT];show _+1<=_;omega
 ·refine(g7 (m:=.pu) (l:=R.map gV) M).trans ?_;rw[zT]
 ·refine Ae (fi (xv (r:=ah) (aG (xv (r:=ah) (uC u (by omega) (m:=.fr) (du (x:=(.pu,.lst ((G.map gV).map .str))) (l:=Z) (h:=Y ((300:Nat):Int)) M M M ((dB (by omega)).trans (by rw[← X5])))) M) (xo r3)) M) (v:=(.fr,.int 300)) ?_) (y:=(.fr,.int 300)) M M;show Y (Md.fr,T.int ((((G.take 300).map qw).length:Nat):Int))=_;rw[zT,p];rfl
end T52
end
section
namespace T52
open PySem PySem.Spec PyProof.Rows L2 VS
def qv{G:Gx}{X:Cx}(i:Nat)(a:X.N[i]?=Y x:=by exact rfl)(b:Cg X.env.scope x:=by exact Or.inl M)(c:{`q1,K2 x})(d:{`q1,K3 x}):PV G X (.Name x p) (af i):=vf i a b c d
def Q4{α:Sort _}{x:α}{b:Prop}:x=x∨b:=.inl M
abbrev Q5:List Str:=["_law_cell", "_law_k"]
abbrev Q6:List Str:=["_law_line", "_law_cell"]
abbrev Q7:List Str:=["_law_script", "_law_k"]
abbrev Q8:List Str:=["_law_script"]
abbrev Q9:List Str:=["_law_thing", "_law_line", "_law_by_base", "_law_marks", "_law_told", "e"]
abbrev Qa:List Str:=["_law_thing", "_law_line", "_law_by_base"]
abbrev Qb:List Str:=["number", "line", "fields", "ways", "numbers"]
abbrev Qc:List Str:=["text", "most"]
abbrev Qd:List Str:=["way", "line", "fields", "link", "ways"]
abbrev Qe:List Str:=["way", "line", "fields", "ways", "numbers"]
noncomputable def top(i:Nat):Stmt:=PySem.Challenge.pw_allparts_k52_lines_of_no_table.main.body.getD i (.Pass ⟨0,0,0,0⟩)
structure B8(mg:Wx):Prop where
 Br:mg "ValueError" = none
 B4:mg "all" = none
 Eg:mg "bool" = none
 BE:mg "enumerate" = none
 BD:mg "int" = none
 xl:mg "isinstance" = none
 AF:mg "len" = none
 Ef:mg "list" = none
 Bq:mg "range" = none
 FL:mg "set" = none
 CJ:mg "sorted" = none
 Bh:mg "str" = none
 Di:mg "tuple" = none
 Az:∃t,mg "MOST_FIGURES" = some (.int 9 t)
 Bp:∃t,mg "MOST_LINES" = some (.int 300 t)
structure B5(K:Xe)(mg:Wx)(C:FM):Prop where
 m:mg "NoTable" = some (.ref C)
 x:XN.B6 K C
 h:PySem.W.hasDictIn K C=true
 l:PySem.W.findIn K (.ref C) "line" = some none
 Ba:∃D,mg "NoTable" = some (.ref D)/\PySem.W.exmOne K (.ref C) (.ref D)=some true
 AS:∃D,mg "PartError" = some (.ref D)/\PySem.W.exmOne K (.ref C) (.ref D)=some true
 Bz:∃D,mg "NoBook" = some (.ref D)/\PySem.W.kitOne K (.ref C) (.ref D)=some false
 A3:∃D,mg "NoNumber" = some (.ref D)/\PySem.W.kitOne K (.ref C) (.ref D)=some false
 BZ:∃D,mg "NoRow" = some (.ref D)/\PySem.W.kitOne K (.ref C) (.ref D)=some false
 Bd:∃D,mg "NoStand" = some (.ref D)/\PySem.W.kitOne K (.ref C) (.ref D)=some false
 Bc:∃D,mg "NoTable" = some (.ref D)/\PySem.W.kitOne K (.ref C) (.ref D)=some true
 By:∃D,mg "NoText" = some (.ref D)/\PySem.W.kitOne K (.ref C) (.ref D)=some false
 Bx:∃D,mg "NoWord" = some (.ref D)/\PySem.W.kitOne K (.ref C) (.ref D)=some false
 Bb:∃D,mg "TooMany" = some (.ref D)/\PySem.W.kitOne K (.ref C) (.ref D)=some false
 Bm:PySem.W.kitOne K (.ref C) (.type "ValueError")=some true
section
variable{K:Xe}
abbrev iN:Stmt:=inClass (top 6) 0
def vB:lp ["self", "line"] ["self", "line"] (ai iN):=⟨rfl,rfl,rfl,by decide +kernel,rfl,by decide +kernel,by decide +kernel⟩
def qP:Ex:=(e2 nP (e2 nP (eC (.str [108,105,110,101,32])) (e1 vh (af 1))) (eC (.str [32,105,115,32,110,111,32,108,105,110,101,32,111,102,32,97,32,116,97,98,108,101])))
def pQ:∀n:Int,0<=n/\n<=300->(qP [Z,Y (.pu (.int n))]).isSome=J:=λn h=>by
 obtain⟨k,rfl⟩:=Int.eq_ofNat_of_zero_le h.1;have:∀k∈List.range 301,(qP [Z,Y (.pu (.int (Int.ofNat k)))]).isSome=J:=by decide +kernel
 exact this k (X0.mpr (by lia))
def yC(F:AY K "__init__" "NoTable.__init__" iN f o)(n:mg "NoTable" = Y (.ref C))(m:mg "PartError" = Y (.ref a))(b:PySem.W.findIn K (.ref C) "line" = Y Z)(l:PySem.W.specialIn K (.ref a) "__getattribute__" = Y (Y (.builtin "type.__getattribute__")))(j:PySem.W.readsIn K a (.type "type")=J)(i:PySem.W.findCls K (.ref a) (.type "type") "__init__" = Y (.val (.builtin "ValueError.__init__")))(h:XI.h7 K C a=J)(g:PySem.W.findIn K (.ref C) "__setattr__" = Y (Y (.builtin "object.__setattr__")))(d:XI.jC K C a f=J)(e:PySem.W.isFn K (.ref f)=J):Ai P w K mg base 1 "NoTable" C :=
 uy (cf:=qP) F vB pQ (λr A outer s H E q=>pA (G:=AB K C) d M m M l j i M h g b (L2.d5 M (Or.inl M) M M) (L2.d5 M (Or.inl M) M M) (L2.d5 M (Or.inl M) M M) ((tZ (aq (by decide +kernel) (by decide)) (yz (qv 1)) (aq (by decide +kernel) (by decide)))) M M M M M M) d e n (F.binds λ_ _ _ _ _ _ p b=>by obtain⟨_,_,rfl⟩:=L2.nQ b;rfl)
abbrev aW:Stmt:=top 11
def fE:lp ["thing"] ["thing"] (ai aW):=⟨rfl,rfl,rfl,by decide +kernel,rfl,by decide +kernel,by decide +kernel⟩
def bu(F:AY K "has_only_signs" "has_only_signs" aW f d)(a:mg "has_only_signs" = Y (.ref f))(B:B8 mg)(Z:B5 K mg C)(h:Ai P w K mg base 1 ("NoTable" : Str) C) :
  FnAt P w K mg base 1 "has_only_signs" ["thing"] (AB K C) bz:=dY F a fE M M (λ_ _ _ _ _ _ e b=>by obtain⟨_,rfl⟩:=L2.ko b;rfl) λi A outer s H E g =>
  (aD (bc (eZ (w_is .str B.xl B.Bh (qv 0)) (gY (w_all B.B4 (aa (eG 1 ["sign", "thing"] M (eI (qv 0)) (eB) (λ_ _ _ _ _=>(bP 0 (show List.Nodup (["sign", "thing"]:List Str) from by decide +kernel) M Q4 (Or.inr M))) (λ_ _ _ _ _=>(eU (aq (by decide +kernel) (by decide)) (qv 0) (aq (by decide +kernel) (by decide)) (by with_unfolding_all rfl))) M M (by decide)) ag))))))
abbrev aQ:Stmt:=top 15
def fm:lp Qc Qc (ai aQ):=⟨rfl,rfl,rfl,by decide +kernel,rfl,by decide +kernel,by decide +kernel⟩
def aH(F:AY K "is_shown_number" "is_shown_number" aQ f e)(b:mg "is_shown_number" = Y (.ref f))(B:B8 mg)(Z:B5 K mg C)(h:Ai P w K mg base 1 ("NoTable" : Str) C) :
  FnAt P w K mg base 1 "is_shown_number" Qc (AB K C) aK:=dY F b fm M M (λ_ _ _ _ _ _ g d=>by obtain⟨_,_,rfl⟩:=L2.nQ d;rfl) λi A outer s H E a =>
  (ao (d0 (CK.ET (mD (dO (gN aj (eS B.AF (aa (qv 0) ag)) (qv 1) (by with_unfolding_all rfl))) (lS (CK.ET (ny (nh a (cz (qv 0) aj (λ_ _=>rfl)) (aq (by decide +kernel) (by decide))) (mG (eA (yn.or oh) yk qQ (eS B.AF (aa (qv 0) ag)) aj (ft _)))))))) (aD (bc dZ)) cH)
  (aD (bc (w_all B.B4 (aa (eG 1 ["figure", "text", "most"] M (eI (qv 0)) (eB) (λ_ _ _ _ _=>(bP 0 (show List.Nodup (["figure", "text", "most"]:List Str) from by decide +kernel) M Q4 (Or.inr M))) (λ_ _ _ _ _=>(eU (aq (by decide +kernel) (by decide)) (qv 0) (aq (by decide +kernel) (by decide)) (by with_unfolding_all rfl))) M M (by decide)) ag)))))
abbrev fR:Stmt:=top 16
def t6:lp ["signs"] ["signs"] (ai fR):=⟨rfl,rfl,rfl,by decide +kernel,rfl,by decide +kernel,by decide +kernel⟩
def gF(F:AY K "rise" "rise" fR f e)(b:mg "rise" = Y (.ref f))(B:B8 mg)(Z:B5 K mg C)(h:Ai P w K mg base 1 ("NoTable" : Str) C) :
  FnAt P w K mg base 1 "rise" ["signs"] (AB K C) g8:=dY F b t6 M M (λ_ _ _ _ _ _ g d=>by obtain⟨_,rfl⟩:=L2.ko d;rfl) λi A outer s H E a =>
  (aD (bc (w_eq a (tR B.Ef (aa (qv 0) ag)) (kE B.CJ B.FL (aa (qv 0) ag)))))
abbrev bw:Stmt:=top 19
def gj:lp ["field"] ["field"] (ai bw):=⟨rfl,rfl,rfl,by decide +kernel,rfl,by decide +kernel,by decide +kernel⟩
def bN(F:AY K "is_shown_way" "is_shown_way" bw f e)(b:mg "is_shown_way" = Y (.ref f))(B:B8 mg)(Z:B5 K mg C)(j:Ai P w K mg base 1 ("NoTable" : Str) C)(g:FnAt P w K mg base 1 "has_only_signs" ["thing"] (AB K C) bz)(h:FnAt P w K mg base 1 "is_shown_number" Qc (AB K C) aK) :
  FnAt P w K mg base 2 "is_shown_way" ["field"] (AB K C) bA:=dY F b gj M M (λ_ _ _ _ _ _ i d=>by obtain⟨_,rfl⟩:=L2.ko d;rfl) λl A outer s H E a =>
  (aD (bc (eZ (bF g a (aa (aR (qv 0) ba (aP aj)) ag) (by decide) M M) (eZ (w_eq a (aR (qv 0) (aP aj) (aP aj)) (aq (by decide +kernel) (by decide))) (gY (bF h a (aa (aR (qv 0) (aP aj) ba) (aa (jT B.Az M M) ag)) (by decide) M M))))))
abbrev bx:Stmt:=top 18
def bW:lp ["line", "fields", "ways", "numbers"] ["line"] (ai bx):=⟨rfl,rfl,rfl,by decide +kernel,rfl,by decide +kernel,by decide +kernel⟩
def bK(F:AY K "is_shown_row" "is_shown_row" bx f g)(b:mg "is_shown_row" = Y (.ref f))(B:B8 mg)(Z:B5 K mg C)(l:Ai P w K mg base 1 ("NoTable" : Str) C)(i:FnAt P w K mg base 1 "is_shown_number" Qc (AB K C) aK)(h:FnAt P w K mg base 2 "is_shown_way" ["field"] (AB K C) bA)(e:FnAt P w K mg base 1 "rise" ["signs"] (AB K C) g8) :
  FnAt P w K mg base 3 "is_shown_row" ["line"] (AB K C) aL:=dY F b bW M M (λ_ _ _ _ _ _ j d=>by obtain⟨_,rfl⟩:=L2.ko d;rfl) λm A outer s H E a =>
  (ao (aB (fF (qv 0) (aa (aq (by decide +kernel) (by decide)) ag)) bW.nd)
  (ao (aB (aR (qv 1) (aP aj) ba) bW.nd)
  (ao (d0 (CK.ET (mD (eA lZ rN fP (eS B.AF (aa (qv 1) ag)) aj (ft _)) (lS (dO (dD (w_all B.B4 (aa (eG 1 Qe M (eI (qv 2)) (eB) (λ_ _ _ _ _=>(bP 0 (show List.Nodup Qe from by decide +kernel) M Q4 (Or.inr M))) (λ_ _ _ _ _=>(bF h a (aa (qv 0) ag) (by decide) M M)) M M (by decide)) ag))))))) (aD (bc dZ)) cH)
  (ao (aB (uQ (nh a (cz (qv 1) aj (λ_ _=>rfl)) (aq (by decide +kernel) (by decide))) (aR (qv 1) ba (aP aj)) (aR (qv 1) ba (aP aj))) bW.nd)
  (aD (bc (eZ (w_all B.B4 (aa (eG 1 Qb M (eI (qv 3)) (eB) (λ_ _ _ _ _=>(bP 0 (show List.Nodup Qb from by decide +kernel) M Q4 (Or.inr M))) (λ_ _ _ _ _=>(bF i a (aa (qv 0) (aa (jT B.Az M M) ag)) (by decide) M M)) M M (by decide)) ag)) (gY (bF e a (aa (eG 1 Qe M (eI (qv 2)) (eB) (λ_ _ _ _ _=>(bP 0 (show List.Nodup Qe from by decide +kernel) M Q4 (Or.inr M))) (λ_ _ _ _ _=>(cz (qv 0) aj (λ_ _=>rfl))) M M (by decide)) ag) (by decide) M M)))))))))
abbrev cD:Stmt:=top 20
def di:lp ["line", "fields", "link", "ways"] ["line"] (ai cD):=⟨rfl,rfl,rfl,by decide +kernel,rfl,by decide +kernel,by decide +kernel⟩
def cU(F:AY K "read_row" "read_row" cD f e)(b:mg "read_row" = Y (.ref f))(B:B8 mg)(Z:B5 K mg C)(h:Ai P w K mg base 1 ("NoTable" : Str) C) :
  FnAt P w K mg base 1 "read_row" ["line"] (AB K C) cB:=dY F b di M M (λ_ _ _ _ _ _ g d=>by obtain⟨_,rfl⟩:=L2.ko d;rfl) λi A outer s H E a =>
  (ao (aB (fF (qv 0) (aa (aq (by decide +kernel) (by decide)) ag)) di.nd)
  (ao (aB (uQ (nh a (cz (qv 1) aj (λ_ _=>rfl)) (aq (by decide +kernel) (by decide))) lU (jk B.BD (aa (cz (qv 1) aj (λ_ _=>rfl)) ag))) di.nd)
  (ao (aB (si B.Di (aa (eG 1 Qd M (eI (aR (qv 1) (aP aj) ba)) (eB) (λ_ _ _ _ _=>(bP 0 (show List.Nodup Qd from by decide +kernel) M Q4 (Or.inr M))) (λ_ _ _ _ _=>(mh (aa (cz (qv 0) aj (λ_ _=>rfl)) (aa (jk B.BD (aa (aR (qv 0) (aP aj) ba) ag)) ag)))) M M (by decide)) ag)) di.nd)
  (aD (bc (mh (aa (jk B.BD (aa (cz (qv 1) aj (λ_ _=>rfl)) ag)) (aa (jk B.BD (aa (cz (qv 1) aj (λ_ _=>rfl)) ag)) (aa (qv 2) (aa (qv 3) ag))))))))))
abbrev bS:Stmt:=top 17
def cG:lp ["text", "table", "number", "line"] ["text"] (ai bS):=⟨rfl,rfl,rfl,by decide +kernel,rfl,by decide +kernel,by decide +kernel⟩
def aS(F:AY K "read_table" "read_table" bS f g)(d:mg "read_table" = Y (.ref f))(B:B8 mg)(Z:B5 K mg C)(b:Ai P w K mg base 1 ("NoTable" : Str) C)(i:FnAt P w K mg base 3 "is_shown_row" ["line"] (AB K C) aL)(h:FnAt P w K mg base 1 "read_row" ["line"] (AB K C) cB) :
  FnXt P w K mg base 4 "read_table" ["text"] (AB K C) aJ:=qL F d cG M M (λ_ _ _ _ _ _ j e=>by obtain⟨_,rfl⟩:=L2.ko e;rfl) λl A outer s H E a =>
  (jB (xO (dO (dD (w_is .str B.xl B.Bh (qv 0)))) (nG (lh b (a.mono (by decide)) M M aj M M M M)) (gy cH)) (jB (vq (fL (bY ag) cG.nd)) (jB (zc PassesOwn.leaving M (oV (fF (qv 0) (aa (aq (by decide +kernel) (by decide)) ag)) M B.BE M M) (tK M (i9 (bP 2 cG.nd M Q4 Q4) (i9 (bP 3 cG.nd M Q4 Q4) p8 M) M)) (jB (xO (CK.ET (mD (eA (yN.or og) zb rR (qv 2) (jT B.Bp M M) (ft _)) (lS (dO (dD (bF i a (aa (qv 3) ag) (by decide) M M)))))) (nG (lh b (a.mono (by decide)) M M (qv 2) M M M M)) (gy cH)) (gy (aD (gB 1 (aa (bF h a (aa (qv 3) ag) (by decide) M M) ag) M M Q4 M M))))) (gy (aD (kz 1 M (Or.inl M) M M))))))
abbrev bD:Stmt:=top 22
def gI:lp Q7 Q7 (ai bD):=⟨rfl,rfl,rfl,by decide +kernel,rfl,by decide +kernel,by decide +kernel⟩
def aO(F:AY K "_law_cell_at" "_law_cell_at" bD f d)(a:mg "_law_cell_at" = Y (.ref f))(B:B8 mg)(Z:B5 K mg C)(h:Ai P w K mg base 1 ("NoTable" : Str) C) :
  FnAt P w K mg base 1 "_law_cell_at" Q7 (AB K C) aU:=dY F a gI M M (λ_ _ _ _ _ _ e b=>by obtain⟨_,_,rfl⟩:=L2.nQ b;rfl) λi A outer s H E g =>
  (ao (d0 (eA lZ rN fP (qv 1) (eS B.AF (aa (qv 0) ag)) (ft _)) (aD (bc (cz (qv 0) (qv 1) (λ_ _=>rfl)))) cH)
  (aD (bc aj)))
abbrev b7:Stmt:=top 23
def dG:lp ["_law_cell", "_law_k", "_law_number"] Q5 (ai b7):=⟨rfl,rfl,rfl,by decide +kernel,rfl,by decide +kernel,by decide +kernel⟩
def cK(F:AY K "_law_mixed" "_law_mixed" b7 f d)(a:mg "_law_mixed" = Y (.ref f))(B:B8 mg)(Z:B5 K mg C)(h:Ai P w K mg base 1 ("NoTable" : Str) C) :
  FnAt P w K mg base 1 "_law_mixed" Q5 (AB K C) cZ:=dY F a dG M M (λ_ _ _ _ _ _ e b=>by obtain⟨_,_,rfl⟩:=L2.nQ b;rfl) λi A outer s H E g =>
  (ao (aB (w_mod (w_add (w_add (w_mod (qv 0) aj) (cO g9 ik aj (qv 1))) aj) aj) dG.nd)
  (ao (aB (w_add (w_mod (cO g9 ik (qv 2) (qv 2)) aj) (cO g9 ik aj (qv 1))) dG.nd)
  (aD (bc (w_mod (cO g9 ik (qv 2) (qv 2)) aj)))))
abbrev b6:Stmt:=top 24
def bB:lp ["_law_script", "_law_lines_here", "_law_k", "_law_cell", "_law_line", "_law_at"] Q8 (ai b6):=⟨rfl,rfl,rfl,by decide +kernel,rfl,by decide +kernel,by decide +kernel⟩
def cJ(F:AY K "_law_lines" "_law_lines" b6 f g)(d:mg "_law_lines" = Y (.ref f))(B:B8 mg)(Z:B5 K mg C)(j:Ai P w K mg base 1 ("NoTable" : Str) C)(b:FnAt P w K mg base 1 "_law_cell_at" Q7 (AB K C) aU)(h:FnAt P w K mg base 1 "_law_mixed" Q5 (AB K C) cZ) :
  FnAt P w K mg base 2 "_law_lines" Q8 (AB K C) de:=dY F d bB M M (λ_ _ _ _ _ _ i e=>by obtain⟨_,rfl⟩:=L2.ko e;rfl) λl A outer s H E a =>
  (ao (fL (bY ag) bB.nd)
  (ao (jq PassesOwn.never M (eY (w_add aj (w_mod (bF b a (aa (qv 0) (aa aj ag)) (by decide) M M) aj)) M B.Bq) (bP 2 bB.nd M Q4 Q4)
  (ao (aB (bF h a (aa (bF b a (aa (qv 0) (aa aj ag)) (by decide) M M) (aa (qv 2) ag)) (by decide) M M) bB.nd)
  (ao (aB (w_add (w_add (w_add (w_add (jW B.Bh (aa (w_mod (qv 3) aj) ag)) (aq (by decide +kernel) (by decide))) (jW B.Bh (aa (w_mod (cO dI dz (qv 3) aj) aj) ag))) (aq (by decide +kernel) (by decide))) (cz (bY (aa (aq (by decide +kernel) (by decide)) (aa (jW B.Bh (aa (w_mod (cO dI dz (qv 3) aj) aj) ag)) ag))) (w_mod (qv 3) aj) (λ_ _=>rfl))) bB.nd)
  (ao (jq PassesOwn.never M (eY (w_mod (cO dI dz (qv 3) aj) aj) M B.Bq) (bP 5 bB.nd M Q4 Q4)
  (aD (aB (w_add (w_add (w_add (w_add (qv 4) (aq (by decide +kernel) (by decide))) (cz (aq (by decide +kernel) (by decide)) (w_add (qv 5) (w_mod (qv 3) aj)) (λ_ _=>rfl))) (aq (by decide +kernel) (by decide))) (jW B.Bh (aa (w_mod (cO dI dz (qv 3) (w_add aj (qv 5))) aj) ag))) bB.nd)))
  (aD (gB 1 (aa (qv 4) ag) M M Q4 M M))))))
  (aD (kz 1 M (Or.inl M) M M))))
abbrev cC:Stmt:=top 25
def bj:lp ["_law_line", "_law_cell", "_law_parts", "_law_at", "_law_bent_here", "_law_two"] Q6 (ai cC):=⟨rfl,rfl,rfl,by decide +kernel,rfl,by decide +kernel,by decide +kernel⟩
def cV(F:AY K "_law_bent" "_law_bent" cC f d)(a:mg "_law_bent" = Y (.ref f))(B:B8 mg)(Z:B5 K mg C)(h:Ai P w K mg base 1 ("NoTable" : Str) C) :
  FnAt P w K mg base 1 "_law_bent" Q6 (AB K C) bX:=dY F a bj M M (λ_ _ _ _ _ _ e b=>by obtain⟨_,_,rfl⟩:=L2.nQ b;rfl) λj A outer s H E g =>
  (ao (aB (fF (qv 0) (aa (aq (by decide +kernel) (by decide)) ag)) bj.nd)
  (ao (aB (w_mod (cO dI dz (qv 1) aj) (eS B.AF (aa (qv 2) ag))) bj.nd)
  (ao (aB (bY (aa (aq (by decide +kernel) (by decide)) (aa (w_add (qv 0) (aq (by decide +kernel) (by decide))) (pB (aa (dH (aq (by decide +kernel) (by decide)) (aa (aR (qv 2) ba (aP aj)) ag)) (aa (dH (aq (by decide +kernel) (by decide)) (aa (aR (qv 2) ba (aP aj)) ag)) ag)) (i:=0) M Q4 (by decide +kernel) (by decide +kernel) (by decide +kernel) (by decide +kernel) (by decide +kernel) (by decide) M M M M)))) bj.nd)
  (ao (aB (w_add (qv 4) (bY (aa (w_add (aq (by decide +kernel) (by decide)) (qv 0)) (aa (w_add (aq (by decide +kernel) (by decide)) (qv 0)) (aa (w_add (aq (by decide +kernel) (by decide)) (qv 0)) (aa (w_add (aq (by decide +kernel) (by decide)) (qv 0)) (aa (w_add (qv 0) (aq (by decide +kernel) (by decide))) (aa (w_add (qv 0) (aq (by decide +kernel) (by decide))) (aa (w_add (qv 0) (aq (by decide +kernel) (by decide))) ag))))))))) bj.nd)
  (ao (aB (w_add (qv 4) (bY (aa (w_add (qv 0) (aq (by decide +kernel) (by decide))) (aa (w_add (qv 0) (aq (by decide +kernel) (by decide))) (aa (w_add (qv 0) (aq (by decide +kernel) (by decide))) (aa (w_add (qv 0) (aq (by decide +kernel) (by decide))) (aa (w_add (qv 0) (aq (by decide +kernel) (by decide))) (aa (w_add (qv 0) (aq (by decide +kernel) (by decide))) ag)))))))) bj.nd)
  (ao (aB (w_add (qv 4) (bY (aa (dH (aq (by decide +kernel) (by decide)) (aa (w_add (w_add (aR (qv 2) ba (aP (qv 3))) (bY (aa (aq (by decide +kernel) (by decide)) ag))) (aR (qv 2) (aP (w_add (qv 3) aj)) ba)) ag)) (aa (w_add (qv 0) (aq (by decide +kernel) (by decide))) (aa (w_add (qv 0) (aq (by decide +kernel) (by decide))) (aa (w_add (qv 0) (aq (by decide +kernel) (by decide))) ag)))))) bj.nd)
  (ao (aB (w_add (w_add (cz (qv 2) aj (λ_ _=>rfl)) (aq (by decide +kernel) (by decide))) (cz (qv 2) aj (λ_ _=>rfl))) bj.nd)
  (ao (aB (w_add (qv 4) (bY (aa (w_add (qv 5) (aq (by decide +kernel) (by decide))) (aa (w_add (qv 5) (aq (by decide +kernel) (by decide))) (aa (w_add (w_add (w_add (cz (qv 2) aj (λ_ _=>rfl)) (aq (by decide +kernel) (by decide))) (cz (qv 2) aj (λ_ _=>rfl))) (aq (by decide +kernel) (by decide))) ag))))) bj.nd)
  (aD (bc (cz (qv 4) (w_mod (qv 1) aj) (λ_ _=>rfl))))))))))))
abbrev aV:Stmt:=top 26
def aZ:lp Q9 Qa (ai aV):=⟨rfl,rfl,rfl,by decide +kernel,rfl,by decide +kernel,by decide +kernel⟩
def aT(F:AY K "_law_refused" "_law_refused" aV f i)(e:mg "_law_refused" = Y (.ref f))(B:B8 mg)(Z:B5 K mg C)(n:Ai P w K mg base 1 ("NoTable" : Str) C)(b:FnXt P w K mg base 4 "read_table" ["text"] (AB K C) aJ) :
  FnAt P w K mg base 5 "_law_refused" Qa (AB K C) aM:=dY F e aZ M M (λ_ _ _ _ _ _ j g=>by obtain⟨_,_,_,rfl⟩:=L2.zy g;rfl) λd A outer s H E a =>
  (ao (fL (bY ag) aZ.nd)
  (ao (d0 (dD (qv 2)) (ao (pL (X:=(fV Bu P w K mg base Q9 "_law_refused" (ai aV) f d A outer s H E).Bs) (G:=(AB K C)) 5 M M (λ_ _=>(nG (rg (nF b a (aa (qv 0) ag) (by decide) M M M M M) M)))
  (λ_=>(ao (fL (bY (aa (xB J (qv 5) M Z.Bc.choose_spec.1 M M M B.xl (λ_=>⟨Z.x,Z.Bc.choose_spec.2⟩) M M M) (aa (xT J (qv 5) M B.Br M (by decide) M M M B.xl (λ_=>⟨Z.x,Z.Bm⟩) M M M) ag))) aZ.nd)
  (aD (gB 3 (aa (vz (qv 5) (XD M) M B.xl (λ_=>⟨Z.x,(dP M Z.Bz.choose_spec.1 Z.Bz.choose_spec.2 M M (dP M Z.A3.choose_spec.1 Z.A3.choose_spec.2 M M (dP M Z.BZ.choose_spec.1 Z.BZ.choose_spec.2 M M (dP M Z.Bd.choose_spec.1 Z.Bd.choose_spec.2 M M (dP M Z.By.choose_spec.1 Z.By.choose_spec.2 M M (dP M Z.Bx.choose_spec.1 Z.Bx.choose_spec.2 M M (dP M Z.Bb.choose_spec.1 Z.Bb.choose_spec.2 M M xq)))))))⟩) M M M) ag) M M Q4 M M)))) aZ.nd M M Z.AS.choose_spec.1 M M Z.m Z.AS.choose_spec.2)
  (aD (bc (w_eq a (qv 3) (bY (aa dZ (aa dZ (aa dZ ag)))))))) cH)
  (mP 3 (ao (aB lU aZ.nd)
  (ao (pL (X:=(fV Bu P w K mg base Q9 "_law_refused" (ai aV) f d A outer s H E).Bs) (G:=(AB K C)) 5 M M (λ_ _=>(nG (rg (nF b a (aa (qv 0) ag) (by decide) M M M M M) M)))
  (λ_=>(aD (aB (wk Z.x Z.h Z.l (qv 5) M) aZ.nd))) aZ.nd M M Z.Ba.choose_spec.1 M M Z.m Z.Ba.choose_spec.2)
  (aD (bc (eZ (w_is .int B.xl B.BD (qv 4)) (eZ (wF (w_is .bool B.xl B.Eg (qv 4))) (gY (w_eq a (qv 4) (qv 1))))))))))))
abbrev fD:Stmt:=top 27
def fh:lp ["_law_script", "_law_lines_here", "_law_k", "_law_cell", "_law_at", "_law_some", "_law_great"] Q8 (ai fD):=⟨rfl,rfl,rfl,by decide +kernel,rfl,by decide +kernel,by decide +kernel⟩
def vT(F:AY K "law" "law" fD f d)(B:B8 mg)(Z:B5 K mg C)(j:Ai P w K mg base 1 ("NoTable" : Str) C)(e:FnAt P w K mg base 1 "_law_bent" Q6 (AB K C) bX)(i:FnAt P w K mg base 1 "_law_cell_at" Q7 (AB K C) aU)(g:FnAt P w K mg base 2 "_law_lines" Q8 (AB K C) de)(b:FnAt P w K mg base 5 "_law_refused" Qa (AB K C) aM)(h:FnXt P w K mg base 4 "read_table" ["text"] (AB K C) aJ) :
  FnOk P w K mg base Bu 6 f d Q8 (BL (AB K C) qm):=Jw F fh M M λl A outer s H E a =>
  (ao (aB (bF g a (aa (qv 0) ag) (by decide) M M) fh.nd)
  (ao (jq PassesOwn.never M (eY aj M B.Bq) (bP 2 fh.nd M Q4 Q4)
  (ao (aB (w_add (bF i a (aa (qv 0) (aa (w_add aj (qv 2)) ag)) (by decide) M M) (cO g9 ik aj (qv 2))) fh.nd)
  (ao (aB (w_mod (cO dI dz (qv 3) aj) (eS B.AF (aa (qv 1) ag))) fh.nd)
  (ao (fL (w_add (w_add (aR (qv 1) ba (aP (qv 4))) (bY (aa (bF e a (aa (cz (qv 1) (qv 4) (λ_ _=>rfl)) (aa (cO dI dz (qv 3) aj) ag)) (by decide) M M) ag))) (aR (qv 1) (aP (w_add (qv 4) aj)) ba)) fh.nd)
  (ao (d0 (CK.ET (ny (nh a (w_mod (qv 3) aj) aj) (mG (eA lZ rN fP (w_add (qv 4) aj) (eS B.AF (aa (qv 1) ag)) (ft _))))) (aD (xE 5 (sd _ _) a (cO wR vm (eS B.AF (aa (qv 5) ag)) aj) (aq (by decide +kernel) (by decide)) M Q4 M M (λ_=>rfl) M M M)) cH)
  (mP 5 (ao (d0 (dO (dD (bF b a (aa (dH (aq (by decide +kernel) (by decide)) (aa (qv 5) ag)) (aa (qv 4) (aa (w_eq a (w_mod (qv 3) aj) aj) ag))) (by decide) M M))) (aD (bc dZ)) cH)
  (aD (d0 (dO (dD (bF b a (aa (cz (bY (aa lU (aa aj (aa dZ (aa (qv 5) (aa (mh (aa (aq (by decide +kernel) (by decide)) ag)) (aa vx (aa aj ag)))))))) (w_mod (qv 3) aj) (λ_ _=>rfl)) (aa aj (aa (w_eq a (w_mod (qv 3) aj) aj) ag))) (by decide) M M))) (aD (bc dZ)) cH)))))))))
  (ao (d0 (dO (dD (bF b a (aa (dH (aq (by decide +kernel) (by decide)) (aa (w_add (qv 1) (bY (aa (aq (by decide +kernel) (by decide)) ag))) ag)) (aa (eS B.AF (aa (qv 1) ag)) (aa dZ ag))) (by decide) M M))) (aD (bc dZ)) cH)
  (ao (aB (aR (cO xu tu (qv 1) aj) ba (aP aj)) fh.nd)
  (aD (bc (eZ (bF b a (aa (dH (aq (by decide +kernel) (by decide)) (aa (qv 6) ag)) (aa aj (aa dZ ag))) (by decide) M M) (gY (w_eq a (eS B.AF (aa (bF h.plain a (aa (dH (aq (by decide +kernel) (by decide)) (aa (aR (qv 6) ba (aP aj)) ag)) ag) (by decide) M M) ag)) aj)))))))))
end
def all_mk{l:PySem.W.OpenLaw}{w:NG}{K:Xe}{h:NF}{d:Wx}{D x u t r q p o n j i z C y:FM}(X:K.In h)(G:h.Ns mainGlobals d)(Mb:d "law" = Y (.ref D)){KS Ng KR Nf KQ Nd KP Nc KO Nb KL Na KJ M9 KI M8 KH M7 KG M6 G4 Io G3 Im G2 FN:Option FM}{Kk Kj DK IB Ki Kh Kg Kf Ke Kd GR GQ GP:Array (Wj)}{La Lx MR KA E M3 K9 Lw MQ F7 H M1 K8 Lv MP Kz I M0 K7 Lu MO Kx N MZ K6 Ls MN Kw O MY K5 Lq MM Kv Q MX K4 Lp ML Ku R MW KZ Lo MK Kt S MV KY Lm MJ Ks U MU KW Ll MI Kr JB MT G7 Hf Ii GX FK Ik G6 He Ih GW FJ Ij G5 E7 FG EV A FH:FS}(Hx:∀ns:Wh,qm [.scr ns]=Y (.fr,.bl J))(a0:PySem.W.nsIn K mainGlobals "has_only_signs" = Y (Y (.ref x)))(l0:K.lookup x=Y ⟨La,KS,.func (PySem.W.fnOf "has_only_signs" "has_only_signs" (aN aW) (aF aW) (ai aW) .none Lx MR KA Ng E M3),Kk⟩)(c0:PySem.W.codeIn K E "has_only_signs" = J)(k0:PySem.W.keepIn K (.ref x)=J)(a1:PySem.W.nsIn K mainGlobals "is_shown_number" = Y (Y (.ref u)))(l1:K.lookup u=Y ⟨K9,KR,.func (PySem.W.fnOf "is_shown_number" "is_shown_number" (aN aQ) (aF aQ) (ai aQ) .none Lw MQ F7 Nf H M1),Kj⟩)(c1:PySem.W.codeIn K H "is_shown_number" = J)(k1:PySem.W.keepIn K (.ref u)=J)(a2:PySem.W.nsIn K mainGlobals "rise" = Y (Y (.ref t)))(l2:K.lookup t=Y ⟨K8,KQ,.func (PySem.W.fnOf "rise" "rise" (aN fR) (aF fR) (ai fR) .none Lv MP Kz Nd I M0),DK⟩)(c2:PySem.W.codeIn K I "rise" = J)(k2:PySem.W.keepIn K (.ref t)=J)(a3:PySem.W.nsIn K mainGlobals "is_shown_way" = Y (Y (.ref r)))(l3:K.lookup r=Y ⟨K7,KP,.func (PySem.W.fnOf "is_shown_way" "is_shown_way" (aN bw) (aF bw) (ai bw) .none Lu MO Kx Nc N MZ),IB⟩)(c3:PySem.W.codeIn K N "is_shown_way" = J)(k3:PySem.W.keepIn K (.ref r)=J)(a4:PySem.W.nsIn K mainGlobals "is_shown_row" = Y (Y (.ref q)))(l4:K.lookup q=Y ⟨K6,KO,.func (PySem.W.fnOf "is_shown_row" "is_shown_row" (aN bx) (aF bx) (ai bx) .none Ls MN Kw Nb O MY),Ki⟩)(c4:PySem.W.codeIn K O "is_shown_row" = J)(k4:PySem.W.keepIn K (.ref q)=J)(a5:PySem.W.nsIn K mainGlobals "read_row" = Y (Y (.ref p)))(l5:K.lookup p=Y ⟨K5,KL,.func (PySem.W.fnOf "read_row" "read_row" (aN cD) (aF cD) (ai cD) .none Lq MM Kv Na Q MX),Kh⟩)(c5:PySem.W.codeIn K Q "read_row" = J)(k5:PySem.W.keepIn K (.ref p)=J)(a6:PySem.W.nsIn K mainGlobals "read_table" = Y (Y (.ref o)))(l6:K.lookup o=Y ⟨K4,KJ,.func (PySem.W.fnOf "read_table" "read_table" (aN bS) (aF bS) (ai bS) .none Lp ML Ku M9 R MW),Kg⟩)(c6:PySem.W.codeIn K R "read_table" = J)(k6:PySem.W.keepIn K (.ref o)=J)(a7:PySem.W.nsIn K mainGlobals "_law_cell_at" = Y (Y (.ref n)))(l7:K.lookup n=Y ⟨KZ,KI,.func (PySem.W.fnOf "_law_cell_at" "_law_cell_at" (aN bD) (aF bD) (ai bD) .none Lo MK Kt M8 S MV),Kf⟩)(c7:PySem.W.codeIn K S "_law_cell_at" = J)(k7:PySem.W.keepIn K (.ref n)=J)(a8:PySem.W.nsIn K mainGlobals "_law_mixed" = Y (Y (.ref j)))(l8:K.lookup j=Y ⟨KY,KH,.func (PySem.W.fnOf "_law_mixed" "_law_mixed" (aN b7) (aF b7) (ai b7) .none Lm MJ Ks M7 U MU),Ke⟩)(c8:PySem.W.codeIn K U "_law_mixed" = J)(k8:PySem.W.keepIn K (.ref j)=J)(a9:PySem.W.nsIn K mainGlobals "_law_lines" = Y (Y (.ref i)))(l9:K.lookup i=Y ⟨KW,KG,.func (PySem.W.fnOf "_law_lines" "_law_lines" (aN b6) (aF b6) (ai b6) .none Ll MI Kr M6 JB MT),Kd⟩)(c9:PySem.W.codeIn K JB "_law_lines" = J)(k9:PySem.W.keepIn K (.ref i)=J)(a10:PySem.W.nsIn K mainGlobals "_law_bent" = Y (Y (.ref z)))(l10:K.lookup z=Y ⟨G7,G4,.func (PySem.W.fnOf "_law_bent" "_law_bent" (aN cC) (aF cC) (ai cC) .none Hf Ii GX Io FK Ik),GR⟩)(c10:PySem.W.codeIn K FK "_law_bent" = J)(k10:PySem.W.keepIn K (.ref z)=J)(a11:PySem.W.nsIn K mainGlobals "_law_refused" = Y (Y (.ref C)))(l11:K.lookup C=Y ⟨G6,G3,.func (PySem.W.fnOf "_law_refused" "_law_refused" (aN aV) (aF aV) (ai aV) .none He Ih GW Im FJ Ij),GQ⟩)(c11:PySem.W.codeIn K FJ "_law_refused" = J)(k11:PySem.W.keepIn K (.ref C)=J)(a12:PySem.W.nsIn K mainGlobals "law" = Y (Y (.ref y)))(l12:K.lookup y=Y ⟨G5,G2,.func (PySem.W.fnOf "law" "law" (aN fD) (aF fD) (ai fD) .none E7 FG EV FN A FH),GP⟩)(c12:PySem.W.codeIn K A "law" = J)(k12:PySem.W.keepIn K (.ref y)=J)(z_ValueError:PySem.W.nsIn K mainGlobals "ValueError" = Y none)(z_all:PySem.W.nsIn K mainGlobals "all" = Y none)(z_bool:PySem.W.nsIn K mainGlobals "bool" = Y none)(z_enumerate:PySem.W.nsIn K mainGlobals "enumerate" = Y none)(z_int:PySem.W.nsIn K mainGlobals "int" = Y none)(z_isinstance:PySem.W.nsIn K mainGlobals "isinstance" = Y none)(z_len:PySem.W.nsIn K mainGlobals "len" = Y none)(z_list:PySem.W.nsIn K mainGlobals "list" = Y none)(z_range:PySem.W.nsIn K mainGlobals "range" = Y none)(z_set:PySem.W.nsIn K mainGlobals "set" = Y none)(z_sorted:PySem.W.nsIn K mainGlobals "sorted" = Y none)(z_str:PySem.W.nsIn K mainGlobals "str" = Y none)(z_tuple:PySem.W.nsIn K mainGlobals "tuple" = Y none){AZ:Tok}(y_MOST_FIGURES:PySem.W.nsIn K mainGlobals "MOST_FIGURES" = Y (Y (.int 9 AZ))){Bk:Tok}(y_MOST_LINES:PySem.W.nsIn K mainGlobals "MOST_LINES" = Y (Y (.int 300 Bk))){BH A8 B7 Bj a BG BF f Bi:FM}(w_NoBook:PySem.W.nsIn K mainGlobals "NoBook" = Y (Y (.ref BH)))(w_NoNumber:PySem.W.nsIn K mainGlobals "NoNumber" = Y (Y (.ref A8)))(w_NoRow:PySem.W.nsIn K mainGlobals "NoRow" = Y (Y (.ref B7)))(w_NoStand:PySem.W.nsIn K mainGlobals "NoStand" = Y (Y (.ref Bj)))(w_NoTable:PySem.W.nsIn K mainGlobals "NoTable" = Y (Y (.ref a)))(w_NoText:PySem.W.nsIn K mainGlobals "NoText" = Y (Y (.ref BG)))(w_NoWord:PySem.W.nsIn K mainGlobals "NoWord" = Y (Y (.ref BF)))(w_PartError:PySem.W.nsIn K mainGlobals "PartError" = Y (Y (.ref f)))(w_TooMany:PySem.W.nsIn K mainGlobals "TooMany" = Y (Y (.ref Bi))){g:FM}{KU Lk MH Kq JA MS:FS}{KD M5:Option FM}{Kc:Array (Wj)}(aI:PySem.W.findIn K (.ref a) "__init__" = Y (Y (.ref g)))(lI:K.lookup g=Y ⟨KU,KD,.func (PySem.W.fnOf "__init__" "NoTable.__init__" (aN iN) (aF iN) (ai iN) .none Lk MH Kq M5 JA MS),Kc⟩)(cI:PySem.W.codeIn K JA "NoTable.__init__" = J)(kI:PySem.W.keepIn K (.ref g)=J)(v_i0:PySem.W.specialIn K (.ref f) "__getattribute__" = Y (Y (.builtin "type.__getattribute__")))(v_i1:PySem.W.readsIn K f (.type "type")=J)(v_i2:PySem.W.findCls K (.ref f) (.type "type") "__init__" = Y (.val (.builtin "ValueError.__init__")))(v_i3:XI.h7 K a f=J)(v_i4:PySem.W.findIn K (.ref a) "__setattr__" = Y (Y (.builtin "object.__setattr__")))(v_i5:XI.jC K a f g=J)(v_i6:PySem.W.isFn K (.ref g)=J)(v_i7:PySem.W.hasDictIn K a=J)(v_i8:PySem.W.findIn K (.ref a) "line" = Y none)(v_x0:PySem.W.findIn K (.ref a) "__getattribute__" = Y (Y (.builtin "BaseException.__getattribute__")))(v_x1:PySem.W.findIn K (.ref a) "__getattr__" = Y none)(v_x2:∀od,PySem.W.findObj K a od "__class__" = Y (.bind (.builtin "getset_descriptor.__get__") (.builtin "object.__class__")))(v_x3:PySem.W.mroIn K a (.type "object")=Y J)(v_x4:PySem.W.mroIn K a (.type "BaseException")=Y J)(v_p_NoTable:PySem.W.exmOne K (.ref a) (.ref a)=Y J)(v_p_PartError:PySem.W.exmOne K (.ref a) (.ref f)=Y J)(v_k_NoBook:PySem.W.kitOne K (.ref a) (.ref BH)=Y L)(v_k_NoNumber:PySem.W.kitOne K (.ref a) (.ref A8)=Y L)(v_k_NoRow:PySem.W.kitOne K (.ref a) (.ref B7)=Y L)(v_k_NoStand:PySem.W.kitOne K (.ref a) (.ref Bj)=Y L)(v_k_NoTable:PySem.W.kitOne K (.ref a) (.ref a)=Y J)(v_k_NoText:PySem.W.kitOne K (.ref a) (.ref BG)=Y L)(v_k_NoWord:PySem.W.kitOne K (.ref a) (.ref BF)=Y L)(v_k_TooMany:PySem.W.kitOne K (.ref a) (.ref Bi)=Y L)(v_b_ValueError:PySem.W.kitOne K (.ref a) (.type "ValueError")=Y J)
  : ∃fd:KF,(∀(s:AC)(v:FS),BindsTo s fd ⟨[v],[]⟩ [("_law_script",v)])/\∀base:NF,K.In base->base.Ns mainGlobals d->FnOk l.prog w K d base Bu 6 D fd Q8 (BL (GB K) tF):=by
 have e:=Mb.symm.trans (Zf X G a12);cases e;have B:B8 d:=⟨ZS X G z_ValueError,ZS X G z_all,ZS X G z_bool,ZS X G z_enumerate,ZS X G z_int,ZS X G z_isinstance,ZS X G z_len,ZS X G z_list,ZS X G z_range,ZS X G z_set,ZS X G z_sorted,ZS X G z_str,ZS X G z_tuple,⟨_,Zf X G y_MOST_FIGURES⟩,⟨_,Zf X G y_MOST_LINES⟩⟩
 have Z:B5 K d a:=⟨Zf X G w_NoTable,⟨v_x0,v_x1,v_x2,v_x3,v_x4⟩,v_i7,v_i8,⟨_,Zf X G w_NoTable,v_p_NoTable⟩,⟨_,Zf X G w_PartError,v_p_PartError⟩,⟨_,Zf X G w_NoBook,v_k_NoBook⟩,⟨_,Zf X G w_NoNumber,v_k_NoNumber⟩,⟨_,Zf X G w_NoRow,v_k_NoRow⟩,⟨_,Zf X G w_NoStand,v_k_NoStand⟩,⟨_,Zf X G w_NoTable,v_k_NoTable⟩,⟨_,Zf X G w_NoText,v_k_NoText⟩,⟨_,Zf X G w_NoWord,v_k_NoWord⟩,⟨_,Zf X G w_TooMany,v_k_TooMany⟩,v_b_ValueError⟩
 refine⟨PySem.W.fnOf "law" "law" (aN fD) (aF fD) (ai fD) .none E7 FG EV FN A FH,λs v=>.of_eq M,λbase _ _=>?_⟩;have b:Ai l.prog w K d base 1 "NoTable" a:=yC (cn (st:=iN) lI cI kI) Z.m (Zf X G w_PartError) Z.l v_i0 v_i1 v_i2 v_i3 v_i4 v_i5 v_i6;have bu:=bu (P:=l.prog) (w:=w) (base:=base) (cn (st:=aW) l0 c0 k0) (Zf X G a0) B Z b;have aH:=aH (P:=l.prog) (w:=w) (base:=base) (cn (st:=aQ) l1 c1 k1) (Zf X G a1) B Z b;have gF:=gF (P:=l.prog) (w:=w) (base:=base) (cn (st:=fR) l2 c2 k2) (Zf X G a2) B Z b;have bN:=bN (P:=l.prog) (w:=w) (base:=base) (cn (st:=bw) l3 c3 k3) (Zf X G a3) B Z b bu aH;have bK:=bK (P:=l.prog) (w:=w) (base:=base) (cn (st:=bx) l4 c4 k4) (Zf X G a4) B Z b aH bN gF;have cU:=cU (P:=l.prog) (w:=w) (base:=base) (cn (st:=cD) l5 c5 k5) (Zf X G a5) B Z b;have aS:=aS (P:=l.prog) (w:=w) (base:=base) (cn (st:=bS) l6 c6 k6) (Zf X G a6) B Z b bK cU;have aO:=aO (P:=l.prog) (w:=w) (base:=base) (cn (st:=bD) l7 c7 k7) (Zf X G a7) B Z b;have cK:=cK (P:=l.prog) (w:=w) (base:=base) (cn (st:=b7) l8 c8 k8) (Zf X G a8) B Z b;have cJ:=cJ (P:=l.prog) (w:=w) (base:=base) (cn (st:=b6) l9 c9 k9) (Zf X G a9) B Z b aO cK;have cV:=cV (P:=l.prog) (w:=w) (base:=base) (cn (st:=cC) l10 c10 k10) (Zf X G a10) B Z b;have aT:=aT (P:=l.prog) (w:=w) (base:=base) (cn (st:=aV) l11 c11 k11) (Zf X G a11) B Z b aS;exact vG (vT (cn (st:=fD) l12 c12 k12) B Z b cV aO cJ aT aS) Hx
end T52
open PySem PySem.W PyProof.Rows PySem.W.X PySem.W.ZRun
set_option maxRecDepth 100000 in
set_option maxHeartbeats 0 in
theorem PySem.Challenge.cw_allparts_k52_lines_of_no_table_holds : PySem.Challenge.rw_allparts_k52_lines_of_no_table.Holds := by
 w_on;o_law;z_head;(case hw=>w_witness2)
 k_fill
 intro w s₀ s₁ mg mb G y fa o pm cd doc dV kV ho hd hcd hD hmg hg args vals as L hpre hlay hrd hwl hlo
 z_open y L KX ZH ZN ZT
 clear ZH ZN ZT;refine VS.oS (l:=PySem.Challenge.rw_allparts_k52_lines_of_no_table) (k:=6) (x := "_law_script") (g:=VS.tF) rfl rfl ⟨rfl,by decide,by decide⟩ (fun _=>rfl) ?F w s₀ s₁ mg mb G KX fa o pm cd doc dV kV ho hd hcd hD hmg hg args vals as hpre hlay hrd hwl hlo
 case F =>
  intro w mg fa h KX G hmg
  refine' T52.all_mk KX G hmg T52.pJ ?a0 ?l0 ?c0 ?k0 ?a1 ?l1 ?c1 ?k1 ?a2 ?l2 ?c2 ?k2 ?a3 ?l3 ?c3 ?k3 ?a4 ?l4 ?c4 ?k4 ?a5 ?l5 ?c5 ?k5 ?a6 ?l6 ?c6 ?k6 ?a7 ?l7 ?c7 ?k7 ?a8 ?l8 ?c8 ?k8 ?a9 ?l9 ?c9 ?k9 ?a10 ?l10 ?c10 ?k10 ?a11 ?l11 ?c11 ?k11 ?a12 ?l12 ?c12 ?k12 ?z_ValueError ?z_all ?z_bool ?z_enumerate ?z_int ?z_isinstance ?z_len ?z_list ?z_range ?z_set ?z_sorted ?z_str ?z_tuple ?y_MOST_FIGURES ?y_MOST_LINES ?w_NoBook ?w_NoNumber ?w_NoRow ?w_NoStand ?w_NoTable ?w_NoText ?w_NoWord ?w_PartError ?w_TooMany ?aI ?lI ?cI ?kI ?v_i0 ?v_i1 ?v_i2 ?v_i3 ?v_i4 ?v_i5 ?v_i6 ?v_i7 ?v_i8 ?v_x0 ?v_x1 ?v_x2 ?v_x3 ?v_x4 ?v_p_NoTable ?v_p_PartError ?v_k_NoBook ?v_k_NoNumber ?v_k_NoRow ?v_k_NoStand ?v_k_NoTable ?v_k_NoText ?v_k_NoWord ?v_k_TooMany ?v_b_ValueError
  (case a0=>k_is)
  (case l0=>k_is)
  (case c0=>k_is)
  (case k0=>k_is)
  (case a1=>k_is)
  (case l1=>k_is)
  (case c1=>k_is)
  (case k1=>k_is)
  (case a2=>k_is)
  (case l2=>k_is)
  (case c2=>k_is)
  (case k2=>k_is)
  (case a3=>k_is)
  (case l3=>k_is)
  (case c3=>k_is)
  (case k3=>k_is)
  (case a4=>k_is)
  (case l4=>k_is)
  (case c4=>k_is)
  (case k4=>k_is)
  (case a5=>k_is)
  (case l5=>k_is)
  (case c5=>k_is)
  (case k5=>k_is)
  (case a6=>k_is)
  (case l6=>k_is)
  (case c6=>k_is)
  (case k6=>k_is)
  (case a7=>k_is)
  (case l7=>k_is)
  (case c7=>k_is)
  (case k7=>k_is)
  (case a8=>k_is)
  (case l8=>k_is)
  (case c8=>k_is)
  (case k8=>k_is)
  (case a9=>k_is)
  (case l9=>k_is)
  (case c9=>k_is)
  (case k9=>k_is)
  (case a10=>k_is)
  (case l10=>k_is)
  (case c10=>k_is)
  (case k10=>k_is)
  (case a11=>k_is)
  (case l11=>k_is)
  (case c11=>k_is)
  (case k11=>k_is)
  (case a12=>k_is)
  (case l12=>k_is)
  (case c12=>k_is)
  (case k12=>k_is)
  (case z_ValueError=>k_is)
  (case z_all=>k_is)
  (case z_bool=>k_is)
  (case z_enumerate=>k_is)
  (case z_int=>k_is)
  (case z_isinstance=>k_is)
  (case z_len=>k_is)
  (case z_list=>k_is)
  (case z_range=>k_is)
  (case z_set=>k_is)
  (case z_sorted=>k_is)
  (case z_str=>k_is)
  (case z_tuple=>k_is)
  (case y_MOST_FIGURES=>k_is)
  (case y_MOST_LINES=>k_is)
  (case w_NoBook=>k_is)
  (case w_NoNumber=>k_is)
  (case w_NoRow=>k_is)
  (case w_NoStand=>k_is)
  (case w_NoTable=>k_is)
  (case w_NoText=>k_is)
  (case w_NoWord=>k_is)
  (case w_PartError=>k_is)
  (case w_TooMany=>k_is)
  (case aI=>k_is)
  (case lI=>k_is)
  (case cI=>k_is)
  (case kI=>k_is)
  (case v_i0=>first | k_is | kernel_rfl | decide +kernel | (intro _;kernel_rfl))
  (case v_i1=>first | k_is | kernel_rfl | decide +kernel | (intro _;kernel_rfl))
  (case v_i2=>first | k_is | kernel_rfl | decide +kernel | (intro _;kernel_rfl))
  (case v_i3=>first | k_is | kernel_rfl | decide +kernel | (intro _;kernel_rfl))
  (case v_i4=>first | k_is | kernel_rfl | decide +kernel | (intro _;kernel_rfl))
  (case v_i5=>first | k_is | kernel_rfl | decide +kernel | (intro _;kernel_rfl))
  (case v_i6=>first | k_is | kernel_rfl | decide +kernel | (intro _;kernel_rfl))
  (case v_i7=>first | k_is | kernel_rfl | decide +kernel | (intro _;kernel_rfl))
  (case v_i8=>first | k_is | kernel_rfl | decide +kernel | (intro _;kernel_rfl))
  (case v_x0=>first | k_is | kernel_rfl | decide +kernel | (intro _;kernel_rfl))
  (case v_x1=>first | k_is | kernel_rfl | decide +kernel | (intro _;kernel_rfl))
  (case v_x2=>first | k_is | kernel_rfl | decide +kernel | (intro _;kernel_rfl))
  (case v_x3=>first | k_is | kernel_rfl | decide +kernel | (intro _;kernel_rfl))
  (case v_x4=>first | k_is | kernel_rfl | decide +kernel | (intro _;kernel_rfl))
  (case v_p_NoTable=>first | k_is | kernel_rfl | decide +kernel | (intro _;kernel_rfl))
  (case v_p_PartError=>first | k_is | kernel_rfl | decide +kernel | (intro _;kernel_rfl))
  (case v_k_NoBook=>first | k_is | kernel_rfl | decide +kernel | (intro _;kernel_rfl))
  (case v_k_NoNumber=>first | k_is | kernel_rfl | decide +kernel | (intro _;kernel_rfl))
  (case v_k_NoRow=>first | k_is | kernel_rfl | decide +kernel | (intro _;kernel_rfl))
  (case v_k_NoStand=>first | k_is | kernel_rfl | decide +kernel | (intro _;kernel_rfl))
  (case v_k_NoTable=>first | k_is | kernel_rfl | decide +kernel | (intro _;kernel_rfl))
  (case v_k_NoText=>first | k_is | kernel_rfl | decide +kernel | (intro _;kernel_rfl))
  (case v_k_NoWord=>first | k_is | kernel_rfl | decide +kernel | (intro _;kernel_rfl))
  (case v_k_TooMany=>first | k_is | kernel_rfl | decide +kernel | (intro _;kernel_rfl))
  (case v_b_ValueError=>first | k_is | kernel_rfl | decide +kernel | (intro _;kernel_rfl))
end
