import PyProof.Rows.All
import Wide.All
import OpenK.AllK
import PySem.Challenge.RW_allparts_k47_whole_each_two_parted
local macro_rules|`(⇑$x)=>`(($x).length)
local macro_rules|`({$x:term,$y:term,*})=>`(⟨$x,$y,*⟩)|`({$x:term})=>`(⟨$x⟩)
local macro_rules|`(tactic|exists $e,$a,*)=>do
 let p<-a.getElems.mapM λq=>if q.raw.isIdent then `(Lean.Parser.Tactic.rcasesPatLo|$(⟨q.raw⟩):ident)else `(Lean.Parser.Tactic.rcasesPatLo|_)
 `(tactic|obtain ⟨$p,*⟩:=$e)
local macro_rules|`(tactic|ext $a*)=>do
 let p<-(a.extract 1 a.size).mapM λq=>`(Lean.Parser.Tactic.rcasesPatLo|$(⟨q.raw[0]⟩):rcasesPat)
 `(tactic|obtain ⟨$p,*⟩:=$(⟨a[0]!.raw[0][0]⟩))
local macro_rules|`(tactic|calc $t:term)=>`(tactic|refine $t)
set_option linter.all false
set_option bootstrap.genMatcherCode false
set_option genSizeOf false
set_option compiler.extract_closed false
set_option backward.eqns.nonrecursive false
noncomputable section
namespace PySem.W.Fast
def tw10834350768539500482:True:=⟨⟩
def tw16183483167243304:True:=⟨⟩
def tw15331675368194214045:True:=⟨⟩
def tw18144301987424332233:True:=⟨⟩
def tw2803009621587372091:True:=⟨⟩
def tw18414753468957796627:True:=⟨⟩
def tw9441893865354566038:True:=⟨⟩
def tw10415663364322491660:True:=⟨⟩
def tw5770479140104860631:True:=⟨⟩
def tw12279285442763211520:True:=⟨⟩
def tw18120574275323646239:True:=⟨⟩
def tw17169745997502321906:True:=⟨⟩
def tw3428417849312957057:True:=⟨⟩
def tw6825149323125695020:True:=⟨⟩
def tw12683952458293559942:True:=⟨⟩
def tw1792413417580302907:True:=⟨⟩
def tw12969133354047844967:True:=⟨⟩
def tw14099278492126931048:True:=⟨⟩
def tw3196764840666343859:True:=⟨⟩
def tw4308267226605182941:True:=⟨⟩
def tw11154492015598198045:True:=⟨⟩
def tw13735788908005290384:True:=⟨⟩
def tw2521869112443051925:True:=⟨⟩
def tw9747879557732643097:True:=⟨⟩
def tw11413709028359901586:True:=⟨⟩
def tw16695581758992646320:True:=⟨⟩
def tw549227401525192750:True:=⟨⟩
def tw3040061118806650264:True:=⟨⟩
def tw18131961166823784757:True:=⟨⟩
def tw2696648144139897136:True:=⟨⟩
def tw8442950432919702009:True:=⟨⟩
def tw10058301549187060694:True:=⟨⟩
def tw2790669101742707573:True:=⟨⟩
def tw4902178601064742071:True:=⟨⟩
def tw11854552242462038726:True:=⟨⟩
def tw2913252852419146073:True:=⟨⟩
def tw16011043482827821834:True:=⟨⟩
def tw10818605029021823428:True:=⟨⟩
def tw461751421596810144:True:=⟨⟩
def tw5789488898429536740:True:=⟨⟩
def tw18042616714139323297:True:=⟨⟩
def tw14116133466806655941:True:=⟨⟩
def tw2251057569362724850:True:=⟨⟩
def tw7874785309730704432:True:=⟨⟩
def tw5533368498511186492:True:=⟨⟩
def tw15868921467829944327:True:=⟨⟩
def tw11168904145957145324:True:=⟨⟩
def tw8865256870813196669:True:=⟨⟩
def tw15419501020931127761:True:=⟨⟩
def tw2022100740922643049:True:=⟨⟩
def tw434422534561101588:True:=⟨⟩
def tw11710481611015625305:True:=⟨⟩
def tw3105290449905681142:True:=⟨⟩
def tw10380251104471642031:True:=⟨⟩
def tw18123968449704924957:True:=⟨⟩
def tw3448489805010008418:True:=⟨⟩
def tw12318863851770805192:True:=⟨⟩
def tw14909686535602408323:True:=⟨⟩
def tw1130195549008407261:True:=⟨⟩
def tw891785743326661985:True:=⟨⟩
def tw12284748189836319893:True:=⟨⟩
def tw18021023246844459671:True:=⟨⟩
def tw17568839618301157731:True:=⟨⟩
def tw14461245454291449349:True:=⟨⟩
def tw15724487494848469169:True:=⟨⟩
def tw4990858114837623173:True:=⟨⟩
def tw15966012714670939194:True:=⟨⟩
def tw5808385625600899783:True:=⟨⟩
def tw4123685147085080307:True:=⟨⟩
def tw4834495225239729223:True:=⟨⟩
def tw4055606216206738518:True:=⟨⟩
def tw5034237400301568410:True:=⟨⟩
def tw8312008081972541180:True:=⟨⟩
def tw16137129857312910013:True:=⟨⟩
def tw18033452962195804162:True:=⟨⟩
def tw2341095605091814791:True:=⟨⟩
def tw10313160383800811090:True:=⟨⟩
def tw295811859089724122:True:=⟨⟩
def tw12645428466958236633:True:=⟨⟩
def tw1770547104766334461:True:=⟨⟩
def tw5985397695803450313:True:=⟨⟩
def tw1731124441802057995:True:=⟨⟩
def tw8328064805194410289:True:=⟨⟩
def tw12786202388455458270:True:=⟨⟩
def tw11371344574838028676:True:=⟨⟩
def tw6055072760423470331:True:=⟨⟩
def tw8659825512879282888:True:=⟨⟩
def tw443717382274272223:True:=⟨⟩
def tw12853206238286980667:True:=⟨⟩
def tw2418016893202965001:True:=⟨⟩
def tw1957391521093495051:True:=⟨⟩
def tw9734013749597104965:True:=⟨⟩
def tw2653320412493591178:True:=⟨⟩
def tw12030281626428623436:True:=⟨⟩
def tw4313589114714224683:True:=⟨⟩
def tw12080156526053315986:True:=⟨⟩
def tw624710038769001873:True:=⟨⟩
def tw5679690818843415125:True:=⟨⟩
def tw10064082985278797123:True:=⟨⟩
def tw10928564261358246018:True:=⟨⟩
def tw3823774805179800049:True:=⟨⟩
def tw16218777912656059012:True:=⟨⟩
def tw12318302647376815578:True:=⟨⟩
def tw4645958620896417842:True:=⟨⟩
def tw461284713135660452:True:=⟨⟩
def tw17351636771583415238:True:=⟨⟩
def tw5778477983929117880:True:=⟨⟩
def tw1930932372004870259:True:=⟨⟩
def tw15505715597778971649:True:=⟨⟩
def tw11433481924591672357:True:=⟨⟩
def tw5736559047261926000:True:=⟨⟩
def tw700053529883481421:True:=⟨⟩
def tw8987690061337361972:True:=⟨⟩
def tw6011686135433823104:True:=⟨⟩
def tw17866903462693212676:True:=⟨⟩
def tw16878982476293587930:True:=⟨⟩
def tw1181391426646756941:True:=⟨⟩
def tw10122297796444138904:True:=⟨⟩
def tw17103539288135160241:True:=⟨⟩
def tw4035198177148764743:True:=⟨⟩
def tw8850740341164460082:True:=⟨⟩
def tw9300265103933826611:True:=⟨⟩
def tw3149749666964047118:True:=⟨⟩
def tw8037752679834547381:True:=⟨⟩
def tw18108085320787549669:True:=⟨⟩
def tw10657885488791034051:True:=⟨⟩
def tw878134916916453607:True:=⟨⟩
def tw2187891457171274027:True:=⟨⟩
def tw1212103362529356912:True:=⟨⟩
def tw8365654918913007451:True:=⟨⟩
def tw2102539921993977412:True:=⟨⟩
def tw14102811974192327018:True:=⟨⟩
def tw10559711479614336525:True:=⟨⟩
def tw18170088905455367817:True:=⟨⟩
def tw9084289174675934176:True:=⟨⟩
def tw15118022918079473523:True:=⟨⟩
def tw5101134078570394457:True:=⟨⟩
def tw6834925915493722999:True:=⟨⟩
def tw9232039387521655055:True:=⟨⟩
def tw17444656059116409964:True:=⟨⟩
def tw8280298385916937302:True:=⟨⟩
def tw11109047346462356923:True:=⟨⟩
def tw7666090852453479805:True:=⟨⟩
def tw7313408333275016672:True:=⟨⟩
def tw5693953308520819133:True:=⟨⟩
def tw2799426528666371911:True:=⟨⟩
def tw10982421477985179669:True:=⟨⟩
def tw17943078477289884518:True:=⟨⟩
def tw8003706150993196157:True:=⟨⟩
def tw10574151033548339170:True:=⟨⟩
def tw16358396771432613848:True:=⟨⟩
def tw12859596029498964892:True:=⟨⟩
def tw727365581876164706:True:=⟨⟩
def tw1463832177073780926:True:=⟨⟩
def tw15378192279190786104:True:=⟨⟩
def tw11343241392930225102:True:=⟨⟩
def tw9522006032724864455:True:=⟨⟩
def tw12855469422170711041:True:=⟨⟩
def tw3888255059284004664:True:=⟨⟩
def tw3792794102592870909:True:=⟨⟩
def tw18282859113521530315:True:=⟨⟩
def tw12840291599323027085:True:=⟨⟩
def tw1570932498957801831:True:=⟨⟩
def tw17536412082816708934:True:=⟨⟩
def tw11478288647852576201:True:=⟨⟩
def tw1124956343510809334:True:=⟨⟩
def tw2302112310317934562:True:=⟨⟩
def tw16773407062727248865:True:=⟨⟩
def tw1701338747319694051:True:=⟨⟩
def tw6328729947700996774:True:=⟨⟩
def tw10987847049291485041:True:=⟨⟩
def tw6993517864824095333:True:=⟨⟩
def tw11549991665463766601:True:=⟨⟩
def tw17236857483293540480:True:=⟨⟩
def tw12909397598600172167:True:=⟨⟩
def tw10728102474756279613:True:=⟨⟩
def tw8244489888675221027:True:=⟨⟩
def tw11995260273306583592:True:=⟨⟩
def tw2174299839184158194:True:=⟨⟩
def tw8570671609483405728:True:=⟨⟩
def tw1811177648441065565:True:=⟨⟩
def tw10569794776817585065:True:=⟨⟩
def tw8768065582268023928:True:=⟨⟩
def tw4120928477637237981:True:=⟨⟩
def tw17699345073034383875:True:=⟨⟩
def tw7352358742635184320:True:=⟨⟩
def tw3606081452585721322:True:=⟨⟩
def tw14239414099541559010:True:=⟨⟩
def tw1176030000691841776:True:=⟨⟩
def tw5701031472035303655:True:=⟨⟩
def tw3920828214595472362:True:=⟨⟩
def tw18221728505776650447:True:=⟨⟩
def tw6649717488056151821:True:=⟨⟩
def tw7248631749504562966:True:=⟨⟩
def tw16373881561546581124:True:=⟨⟩
def tw17746235340670582243:True:=⟨⟩
def tw7555546176138518450:True:=⟨⟩
def tw3666102625594109486:True:=⟨⟩
def tw17363976079288689429:True:=⟨⟩
def tw10888207143228797891:True:=⟨⟩
def tw3940578041418089957:True:=⟨⟩
def tw9894316824058138962:True:=⟨⟩
def tw2114950300956202733:True:=⟨⟩
def tw17358129729093138482:True:=⟨⟩
def tw16082547077863913967:True:=⟨⟩
def tw16052273183111974687:True:=⟨⟩
def tw10359149696163346242:True:=⟨⟩
def tw951033812242294329:True:=⟨⟩
def tw5791308896401651330:True:=⟨⟩
def tw4212277417775999278:True:=⟨⟩
def tw4155255910561469885:True:=⟨⟩
def tw4132122598865082001:True:=⟨⟩
def tw14595630905957035060:True:=⟨⟩
def tw14198379935751189284:True:=⟨⟩
def tw9458002736430294473:True:=⟨⟩
def tw4286462963407409773:True:=⟨⟩
def tw17392662265074364070:True:=⟨⟩
def tw5290211096035299043:True:=⟨⟩
def tw4963574436785189273:True:=⟨⟩
def tw377413111095426776:True:=⟨⟩
def tw1806564043671009402:True:=⟨⟩
def tw16896899329127811351:True:=⟨⟩
def tw16051982919336561460:True:=⟨⟩
def tw4434046674700924695:True:=⟨⟩
def tw953580792622900920:True:=⟨⟩
def tw9527459533815748145:True:=⟨⟩
def tw8933292159591086447:True:=⟨⟩
def tw8731519121422873758:True:=⟨⟩
def tw8471174386252423481:True:=⟨⟩
def tw7991193398760778071:True:=⟨⟩
def tw7600377803123584887:True:=⟨⟩
def tw7407545939035301528:True:=⟨⟩
def tw7246011651530428652:True:=⟨⟩
def tw7085171302377798384:True:=⟨⟩
def tw7080486221485101987:True:=⟨⟩
def tw7014243285490627145:True:=⟨⟩
def tw6757414402842049548:True:=⟨⟩
def tw6672613946201287580:True:=⟨⟩
def tw6297654950148118960:True:=⟨⟩
def tw6270666158074659494:True:=⟨⟩
def tw6212451959925885337:True:=⟨⟩
def tw6147959770990928325:True:=⟨⟩
def tw5820813937571173856:True:=⟨⟩
def tw5810683094021289874:True:=⟨⟩
def tw5777881442580235975:True:=⟨⟩
def tw5685501345621745292:True:=⟨⟩
def tw5601739551311010031:True:=⟨⟩
def tw5490375689108985550:True:=⟨⟩
def tw5454986646825606742:True:=⟨⟩
def tw5430613638607315395:True:=⟨⟩
def tw5280412525244650168:True:=⟨⟩
def tw4849714439233475431:True:=⟨⟩
def tw4675143289758866533:True:=⟨⟩
def tw4451833288080332854:True:=⟨⟩
def tw3821646203639303046:True:=⟨⟩
def tw3658772447605462367:True:=⟨⟩
def tw3164465935484979016:True:=⟨⟩
def tw3098248314687067056:True:=⟨⟩
def tw2956284816050323113:True:=⟨⟩
def tw2056620880449303586:True:=⟨⟩
def tw1985238451378344005:True:=⟨⟩
def tw17984483257938906144:True:=⟨⟩
def tw17743216532242165623:True:=⟨⟩
def tw17709171439901301092:True:=⟨⟩
def tw17046700380075966358:True:=⟨⟩
def tw16781638613328114566:True:=⟨⟩
def tw16628614257494834659:True:=⟨⟩
def tw16335251556321912403:True:=⟨⟩
def tw16019729956516653296:True:=⟨⟩
def tw15966368803134431711:True:=⟨⟩
def tw15923298290761858344:True:=⟨⟩
def tw1551583687324593479:True:=⟨⟩
def tw15496702037652566513:True:=⟨⟩
def tw15466395876828740574:True:=⟨⟩
def tw15378735764666364526:True:=⟨⟩
def tw15045765397496365466:True:=⟨⟩
def tw14570740544853147867:True:=⟨⟩
def tw1425338556398360962:True:=⟨⟩
def tw13793212478022666605:True:=⟨⟩
def tw13549783522754938964:True:=⟨⟩
def tw13309041819082779356:True:=⟨⟩
def tw13046402333848170944:True:=⟨⟩
def tw12909789119280430402:True:=⟨⟩
def tw12717791702982146209:True:=⟨⟩
def tw12551321133141554008:True:=⟨⟩
def tw1252956841888997000:True:=⟨⟩
def tw12428488997117058168:True:=⟨⟩
def tw12346697980525900245:True:=⟨⟩
def tw11936665237795065061:True:=⟨⟩
def tw11587148113749183169:True:=⟨⟩
def tw11431613973868623308:True:=⟨⟩
def tw11102953342457067735:True:=⟨⟩
def tw10818169232429757630:True:=⟨⟩
def tw10553884808279907187:True:=⟨⟩
def tw10427930399652942187:True:=⟨⟩
def tw10334171767697247783:True:=⟨⟩
def tw10049427356193136491:True:=⟨⟩
end PySem.W.Fast
open Option renaming some->Y, none->M
open Bool renaming true->J, false->B
set_option compiler.extract_closed false
namespace Tm
def tbl:="
mr=aa aj(aa aj(aa aj(aa aj $0)))
ms=w_fld gJ $0 `fx
mz=U.set i(Y $0)
m6=ae $0 ak
m_=List.range $0
ni=dh B.Ox(aa $0 ag)
nk=e2 aM(bF $0 `cm)`cv
nv=au(cJ $0 L `fm L L)
nC=aa(qv $0)ag
n6=Kept.upd(.inl $0)
n7=List(Key×$0)
n_=λcl C s H fp;⟨$0 cl C s H fp,mH,he cl C s H fp⟩
ov=cR X N $0 cl C s H fp
oD=List.replicate $0 $1
oX=upd H $0(.lst $1)
oY=aK $0 $1 L Q4 Q4
o0=.Subscript $0 b $1
o2=ae $0{`m6,ab $1}
o_=$0(λt;Y(.pu t))&List.replicate $1 M
pi=envOfC $0 $1 s.heap.objs.size f $2
pp=.px(xI $0)
py=cW $0 L `gj L L
p0=I.turned(t':s.toks)(λb o hb e;(sb.2 b hb)#trans e)z f1 y $0 f5
p_=Inv X $0 O H s
qs=t.probeStart $0
qz=hs.2 b(Zg(Zk(Zb e)$0))
q_=assignEach $0 X.env
re=λb o hb e;$0 b o hb e
ri=ae(Q3 3)(ae(Q3 2)(ae(Q3 4)$0))
ro=RP X.env.scope $0
r_=eval $0 X.env
sg=SetTable.sizeAbove $0-1
sn=Y(.ow $0)
ss=Rp G H v $0 F
sy=aa `fx(aa `f_ $0)
sB=FnOk X.prog X.w X.K X.mg X.base Pb k f fd ps(Sb G $0)
sK=e2 aM $0 $1
sY=bu $0(ae `cm $1)
s_=s.heap.get? $0=Y $1
tf=($0 $1)#trans $2
wv=xv L(xv L $0)
ww=e2 $0 ca cb
wE=l.eraseIdx $0
wP=List(Str×$0)
wT=(ns.map bp)#zip $0
w_=.frz o(.dK $0)
xx=ih inj u3(((Zc.mp nd)#2)#sublist(cz $0))e1
xz=bootBuiltins x=Y $0
xL=.Constant $0 j pos
x4=$0 List.length
x5=λZ U a O H R s e k;$0 Z U a⟨s,e,k⟩
x6=pyNext(.ref $0)
x8=met.getD $0 0
x_=behindInMarks $0 b=B
y8=OO tx hd S $0
y_=gz $0($1 a)(bJ 0)
zn=ae(Q3 3)(ae(Q3 $0){`m6,Q3 $1})
zs=s.heap.update a(Obj.putSet(ents knd $0)$1)
zt=aa $0(aa $1 ag)
z0=cL{`oY,$0,$1}(cL{`oY,$2,$1}jI)
z3=.Attribute $0 $1 $2
K_=e2 b6 $0 `jl
LE=PySem.W.instObj C $0
LT=.cons $0 .nil
L_=eD hN hv hd $0
M2=fS(ae $0(ae `jl{`ri,ae $0(ae(Q3 3){`m6,Q3 26})}))
M_=steps `fi `ed $0
No=a.toList.drop $0
NE=SetTable.eraseAt $0 p
N_=au(bw $0)
Op=Loc X.env.scope $0
Oq=QX X G $0
OW=e2v L L $0
O_=Pq l.length $0
Po=.UnaryOp .Not $0 pos
Ps=cE(ba $0)bM
P4=steps S $0 n
QZ=List(List $0)
Q1=EB n $0 many bk z4 z5 z6
Q_=PySem.W.fnOf x a(cP st)(bg st)(ah st).none e b d h i $0
Rv=kZ 0 $0(fS ak)
RH=.dct 0 $0
R1=fS(ae(Q3 2)(ae `jl{`ri,ae `lz(ae `jl{`m6,Q3 $0})}))
R3=H a=$0(.ins C dx fs)
R5=aa $0{`nC,$1}
R6=qA he(tY $0 hk(zr(kS hr))ha)hs hw $1
R_=nV 0 $0 gJ($1 a)(dv ag)
Sc=.dct av q2(q4.off $0λz;nd.1($1 z))
Sl=PySem.W.keepIn $0 $1=J
Sn=$0>Option($0×$1)
SO=pickOrder(w.params.setOrder a $0)$1
S1=UQ $0 m apos `bv pos X $1
S7=HT.PQ $0 $0 $1-HT.PQ $0 0 $2
xaB=λi h;h.IsStrIter a $0 x t i
xaC=bX i way c mv g $0
xaD=List(List $0×Pv)
xaE=ForInStep.yield $0
xaF=wl bk nd $0
xaG=λy c g;HJ v r a b $0 c.1 c.2.1 c.2.2.1 c.2.2.2.1 g
xaH=λy c f;LI v r a b $0 c.1 c.2.1 c.2.2.1 c.2.2.2.1 f
xaI=s.heap.objs.size^$0
xaJ=OV t $0{`qs,`cD}
xaK=beq_eq_false_iff_ne.mpr $0
xaL=aa aj(aa aj $0)
xaM=λz;.inr $0
xaN=λz;.inl $0
xaO=λa d;.inl($0 a d)
xaP=A.deeper(envOfC a(ah d)s.heap.objs.size f $0)
xaQ=.Constant .none j $0
xaR=Tsλi j;.int $0
xaS=w_mod $0 aj
xaT=dh B.Ox(aa{`ms,$0 a}ag)
xaU=ar{`tf,oN,$0,L}
xaV=.builtin $0
xaW=nr(gp `cv)(e2 oEq(e2 Dl{`nk,$0}`gi)`fw)
xaX=T7 G c{`oD,n,$0}g
xaY=.str⟨({`oD,k.toNat,$0})#flatten.toArray⟩
xaZ=I.base.keep b o e n hb $0
xba=.lst $0
xbb=nr(gp `gt)(e2 dP `gi{`sK,bF $0 `cm,`gt})
xbc=InAt X.prog X.w X.K X.mg X.base k G c $0 x ps g
xbd=$0 x=Y(.ref(`be)#1)
xbe=$0(λt;Y(Cell.pu t))&List.replicate n M
xbf=f(.int i t)(.int j $0)
xbg=UG(a.map $0)(b.map $0)
xbh=SetTable.insertAt a p $0
xbi=PySem.W.fnOf j d g h a dV kV D pm an $0 ct
xbj=K `c_(a+$0)
xbk=.Return(Y $0)pos
xbl=SetTable.grown $0
xbm=MpAt X.prog X.w X.K X.mg X.base k G c m ps $0
xbn=dh B.Ox $0
xbo=A.deeper $0
xbp=$0<S.lg.length
xbq=tE G $0 O H Q
xbr=bt N ps(ah $0)
xbs=ae $0 `b5
xbt=W8 $0 Nat.one_pos
xbu=List.not_lt.mp $0
xbv=List(κ×$0)
xbw=FnAt X.prog X.w X.K X.mg X.base k $0 ps G g
xbx=(a.map bp)#zip $0
xby=(W b n)#length+$0
xbz=l.filterMap $0
xbA=fT(e2 yn(eN cn{`m6,bF $0 `cm})`jl)
xbB=backTo $0(SL l X.env)
xbC=List.replicate k M&$0
xbD=I.base.free b o e n $0
xbE=.tup $0
xbF=.frz o $0
xbG=$0×VS.Env
xbH=ae `cv $0
xbI=PZ X.prog X.w H' $0
xbJ=Int.le_of_lt(Int.negSucc_lt_zero $0)
xbK=.Subscript $0(.Slice lo hi M p2)pos
xbL=(Zi.mp h)#resolve_leftλz;$0 z.symm
xbM=Rb.or lQ(vd(kS $0))
xbN=HT.PQ $0 0 d
xbO=EB $0 L many bk q p o
xbP=$0 Value.ref
xbQ=jo gJ d.at a `ao(bJ 0)(aa $0 `jn)
xbR=(`A6)#cps.toList<(sx $0)#cps.toList
xbS=$0%(Gs.eraseIdx i.toNat)#flatten
xbT=λm hm;W.up $0 m hm
xbU=sliceBounds d e M $0
xbV=cI 0 J L `fm L L $0
xbW=ae `gi(ae `fw $0)
xbX=QM $0(`be)#1
xbY=OV(T0 m)$0((T0 m)#probeStart h)
xbZ=($0 bp)#zip g
xca=$0<16777216
xcb=$0 r a b d f e
xcc=λA b i s Q E st d q;$0 b st d q
xcd=i.mem_iff.mp $0
xce=e2 aM{`sK,`cm,e2 aM `gt $0}$0
xcf=P5 bk(W wd $0)
xcg=λd q;$0 d q.1 q.2
xch=upd H l $0
xci=upd $0 b(.rng 0 j)
xcj=swapsWith e M pos.line X.env=pure $0
xck=r9 $0(N.drop k)X.N=J
xcl=e2v $0 L(gM `ao)
xcm=Builtin.Tuple.tupleHashOf $0
xcn=.nx(oc $0%r)
xco=(l.map $0)#anyλz;eqT z($0 q)
xcp=xP(bu bV(ae(bF $0 `cm)`li))
xcq=sq L(sq((cG L L)#trans $0)L)
xcr=l.length-$0
xcs=λz;ne m $0 z.1
xct=row `fi `ed $0
xcu=a.extract i $0
xcv=OpR X(binaryOp $0)r
xcw=I.ok.bs b o $0
xcx=RI κ r $0 $1 a rest
xcy=List.range' $0 $1
xcz=aD $0 bK.nd $1 Q4
xcA=e2 oMod $0(Q3 $1)
xcB=P6 $0 $1 eR
xcC=aL $0(A.rests $1)
xcD=eX $0 $1 L Q4
xcE=e2 $0 `gt $1
xcF=e2 $0(jA{`o2,ab 7,8})(e2 RF `fw(ab $1))
xcG=ja(pV pa $0 p hm $1 ha OB OS Oz hs Ot)Rw
xcH=λz;$0 $1
xcI=(iG $0 e)#subset $1
xcJ=(Kept.of $0)#trans $1
xcK=WB⟨o,$0,$1⟩isSubtype_stop(Zt q)
xcL=rI $0λi j;.int $1
xcM=fS(ae $0 $1)
xcN=H $0=Y(.lst $1)
xcO=$0>StateT XAA Sem $1
xcP=({`xbx,$0})#anyλp;eqT p.1(bp $1)
xcQ=a%($0 j $1)#flatten
xcR=a.toList.drop $0&b.toList.drop $1
xcS=λk o;$0 g(ZJ o $1)
xcT=upd $0 $1{`xba,f.eraseIdx i.toNat}
xcU=SetTable.below $0 $1
xcV=({`m_,$0})#map $1
xcW=λm hm hs;$0 m hm(hs.trans $1)
xcX=upd $0 a(.ins C $1(jQ f y fs))
xcY=W.way(n:n)(c:c)(v:v)$0 $1
xcZ=.nx{`mz,.ow{`RH,dput l $0 $1}}
xda=(jc $0)#mpr $1
xdb=upd H $0 $1
xdc=l6(λn;n~k)(hl.trans $0)$1
xdd=au(bw(jJ uc uu{`xaT,$0}$1))
xde=V.ref $0%$1
xdf=EW ns n bk wd G l $0 q o y C $1
xdg=letOwnedTupleGo $0(.ref $1)u
xdh=dv{`mr,aa $0{`xaL,aa $0 $1}}
xdi=WalksS $0 w A.in1 I fp $1 G n P St
xdj=.Tuple $0 $1 pos
xdk=λQ E p;AK $0 $1 T.fit Q E p
xdl=setArr $0(bubble `Tc i $1)
xdm=fN(Rg.trans $0)$1
xdn=ar(Dx $0 L L L(W.small $1))
xdo=Un(QW X.stack)$0 H H' s.heap $1
xdp=PySem.W.findIn $0 `Ev name=Y $1
xdq=.io i $0%$1
xdr=($0(`be)#2)#zip $1
xds=$0(.ref x)name $1
xdt=PySem.W.plainGet $0 $1 name=true
xdu=.dK(putK(ns.zip $0)$1 xv)
xdv=.Attribute(.Name x j)$0 $1
xdw=(RN `fi 1000 $0)#map(ix $1)
xdx=($0 A.same)#off $1((`ZB)#1)
xdy=($0 $1)#mapλk;T.tup `YP
xdz=wd(OV t $0 $1)d
xdA=qr $0 J g2(s.nd i t $1)e5
xdB=Tn s.heap $0 dx $1 mA
xdC=.BoolOp .Or($0%rest)$1
xdD=.BinOp a $0 $1 pos
xdE=$0λp;p.1~$1
xdF=$0λp;eqT p.1 $1
xdG=$0 $1{`sK,eUn `cm,`lz}`cv
xdH=ju oLt oLt `lz `gi($0 $1)
xdI=aY $0{`sY,gK,ae `cv $1}
xdJ=Ds.mir C f $0 `am `am $1
xdK=(Cz $0 $0 $1 $1)#2.1
xdL=jg(bC $0)$1 $2
xdM=e2 $0 $1(Q3 $2)
xdN=ZW.mpr⟨$0,$1,$2⟩
xdO=upd $0 $1(se X $1 $2)
xdP=($0(G.ct $1)#2)#zip $2
xdQ=tV gJ{`y_,$0,$1}$2
xdR=setSearchFrom a `Id `cD $0 $1 $2
xdS=fr.keep $0 o' hoλz;$1($2 $0 z)
xdT=e2v(a:$0)(b:$1)L L($2 `ao)
xdU=ae $0(ae $1 $2)
xor=(Ze.mp $0)#1
xos=λb q hb z;($0 b hb)#trans z
xot=(`xgX)#trans $0
xou=List($0×$0)
xov=λz;$0 z.1
xow=beq_iff_eq.mp $0
xox=λp;p.1~$0
xoy=rR X.env $0=J
xoz=List.mem_replicate.mp $0
xoA=w_mul $0 aj
xoB=sub m(f(l.getD $0 d))
xoC=Y(.Name x $0)
xoD=H a=some $0
xoE=A.same.free $0
xoF=qL hM $0(n:.fr)L L
xoG=putK d k $0
xoH=f1.trans $0
xoI=eNew c g $0
xoJ=beq_iff_eq.mpr $0
xoK=aL `gk $0
xoL=zv C m sp Ry E ta $0
xoM=tS G $0 D O H
xoN=pyIter $0
xoO=oc{`RH,dS bk wd $0}
xoP=eN $0{`m6,bF 4 `cm}
xoQ=VS.cut $0 d f
xoR=L2.start N $0
xoS=I.Og.fresh $0
xoT=.nx(z.2.set j $0)
xoU=EV7 ns n bk G p f{`xoO,$0}$1 b m o i
am=[lia
ao=[decide
ax=PP prog w
ay=(`kn)#at m
a_=PP X.prog X.w
bd=Inv X pins O H s
be=G.ct `xfV
bi=[omega
bn=QH prog w A E s κ G r
bv=e%es
bz=.ref a
b5=ae `gi ak
b8=tabOf bk
b_=KeyKind prog w K
cg=List V
cm=ab 0
cq=List `ti
cr=List Tx
cv=ab 1
cw=List `xjA
cC=PV G X a ca
cD=tupleKeyHash knd k
cS=cI 0 J L `fm L L{`Ps,aj}
c5=Pa K mg C D
c_=arrOf b
db=FnOk X.prog X.w X.K X.mg X.base CX k f fd ps sp
dt=.ref f
dL=Array SC
d_=oc{`y8,b}%r
ed=aA bk
ew=List α
ey=.io i un%as
eB=Wd>Option Nat
eH=.ref s.heap.objs.size
e9=List Key
e_=List Str
fb=bk.map .str
fe=oc `xga%r
fg=Option Nat
fi=aX bk
fm=Or.inl L
fu=ents knd l
fw=ab 3
fx=qv 0
f_=qv 1
gc=.Name x p1
gi=ab 2
gj=Or.inr Q4
gk=xv L `xfZ
gs=W wd m
gt=ab 4
gx=SR G Z U O H
gL=.Attribute o m apos
gY=List Bool
g_=Kx knd h0 s.heap a l ep t
hB=eN cn(ae `cm ak)
hH=PV G X b cb
hQ=Rp G H v t F
ii=cR X N sc cl C s H fp
im=apos.endLine~pe.line
i2=List Expr
i_=OC `b8
jf=eN cn{`m6,ab 6}
jl=Q3 1
jn=aa `vl ag
jp=IsTupleKey knd s.heap k b
j0=SetTable.leap t.mask p.i p.perturb
j_=.Name x p
kn=gX K C D
kt=wl bk nd p
kw=some `xnN
kx=PJ G X `bv cs
k5=List.replicate k M&U
k6=(gxO nsL K C D)#at m
k7=SetTable.sizeAbove{`xbl,n}-1
lc=Option Int
ld=m<wd.length
li=ae `cv ak
lv=λacc q;putK acc q.2.1 q.2.2
lz=Q3 0
lG=cI 5 false L `fm L L{`Ps,{`ni,qv 6}}
l_=List `xkQ
ma=pc(lj{`xct,p})
mj=FnOk X.prog X.w X.K X.mg X.base Pb k f fd ps `xhy
ml=qv 3
mm=.BoolOp .And(b%rest)pos
ti=Nat×Nat
tm=Or.inr L
tp=List Wd
tw=Seg r a 0 a.size
t_=Of k' X.A
ul=s.heap.objs.size+1
ut=I fr S nd wd
u8=G.at(meA a)
u_=.tup(k.map kV)
vl=qv 2
vr=rs bk `xjr
vu=.io 0 J
vx=a~sysModules
vz=Y `xnN
v4=.inl L
v5=ae(gE 1 `xgE `xld M(jA(ae `cm{`m6,e2 yQ `fw `xmN})))ak
v6=SetTable.below t.place j
v_=PZ P w H h
wh=Binds X.K fd ps ds
wp=MtAt X.prog X.w X.K X.mg X.base k G c m ps mv g
ws=SG G X o i way
z7=Ou S B
z_=.ref l
AT=qv 4
A0=t.put j
A1=.type(tyS d)
A3=O.set i `xer
A5=List `xfY
A6=sx s
A_=K w.params
BT=EP X a O Q
B1=n<wd.length
B2=P.length+X.length
B_=e1.trans e2
Ch=X.calm=J
Cl=Seg r b 0 b.size
C_=l.map f
Db=a U
D_=W wd n
Ev=.ref C
EQ=PassesOwn `a_ X.A X.env X.xe
E1=xv rfl `xfO
E_=aY 2(e2 b6{`sK,`cm,e2 oMod `cv `hB}{`xdM,m8,e2 oE `cv `hB,48271})
Fa=eN cn `b5
Fr=Qw pos es X
Fw=j.cps.toList<i.cps.toList
F_=A.handled=M
Go=i.cps.toList<j.cps.toList
G_=PE X a ta
Hs=.dct 3 `xhs
H_=fT(eC(.bl B))
Id=.ref b
IN=Meth X.K(`be)#1 m f
IO=(Y `xnN%List.zipWith qZ f d)&List.replicate `xlY M
I_=i+1
J_=tupleKind `xdZ
KE=.int i
S_=PK mg
Tc=arrOf a
Tk=W wd t
Tl=i<a.size
Tm=Of k X.A
TD=RelV y u
TW=List Rs
T1=K(Hd bk)`fi nd wd
T4=List Ky
T5=k+1
T_=.lst `fb
Ua=a.map .str
Uf=eQ rfl rfl
UJ=i<l.length
UN=P6(eOr(oJ(bu ij `li))(oJ(ju oLe oLt `lz `cv `hB)))sNo eR
U4=Ou S J
U_=aV X.prog X.w
V_=Qv e es X
Wo=Array `xfh
WP=l.length^16777216
WS=t<wd.length
W_=live m ow
XL=λa b;eT b a=B
XP=PX G X e x
XV=PV G X e ce
X_=De h True.intro
YP=k.map bp
Y_=a%Fs.flatten
ZB=Zc.mp nd
Z0=s.heap.push PySem.W.emptyDict
Z4=upd H a o
Z9=ab 5
Z_=gW w c
xaa=Nat×T
xab=List.replicate(1+y)#toNat w
xac=Gl X x
xad=a.getD j(Y 0)
xae=.pu t
xaf=Kx knd h0 h a l ep t
xag=le r
xah=λc g;HQ v r a b(x+1)c.1 c.2.1 c.2.2.1 c.2.2.2.1 g
xai=d&(a.extract k f)#reverse
xaj=λc f;LQ v r a b(x+1)c.1 c.2.1 c.2.2.1 c.2.2.2.1 f
xak=Option Expr
xal=.ref p
xam=Ow Z U o⟨s.same e3,e2,k.back(OE.same e3)⟩
xan=qv 6
xao=ar s1
xap=ae `gt ak
xaq=S.lk.getD n M
xar=IoAt X.prog X.w X.K X.mg X.base k x ps G(ixB as)g
xas=λe;absurd e `ao
xat=HT.PQ s.length s.length f
xau=w O H Q q
xav=Option Pv
xaw=OpR X(XAC d)r
xax=Option(Ug)
xay=U.set i M
xaz=trees a
xaA=jD Pb P w K mg base N a `xkz f m A outer s H E
xdV=]rfl
xdW=j<a.size
xdX=RU t
xdY=PP P w
xdZ=aV P w
xea=.lst l
xeb=List Ia
xec=ab 6
xed=bF 3 `cm
xee=f2 b hb
xef=.frz o u
xeg=Option Ex
xeh=k<wd.length
xei=PB `kt
xej=W wd p
xek=.scr d
xel=A.units<cLine
xem=rs m i pt
xen=G.ct c
xeo=j<b.size
xep=rel.val k
xeq=.tbl q
xer=Y v
xes=ix bk m
xet=(`ed)#idxOf 0=0
xeu=Y S.lg.length
xev=A.rp
xew=PJ G X es cs
xex=Zi.mp m
xey=jE CX X E
xez=binaryOp .Add
xeA=PE X b tb
xeB=Zb e
xeC=c U
xeD=top 25
xeE=Pa K b C D
xeF=l.map tR
xeG=l.map tP
xeH=W wd h
xeI=G.at m
xeJ=MC G r a b
xeK=fD G r f
xeL=PA X `bv t
xeM=j b hb
xeN=List Env
xeO=a.toList&b.toList
xeP=jD CX P w K X n N j d f R A g s H E
xeQ=aX a
xeR=ns.map V.int
xeS=Ma bk nd wd
xeT=S.lg.length^100001
xeU=I M S nd wd
xeV=PX G X b xb
xeW=PX G X a xa
xeX=PV G X o ca
xeY=aV prog w
xeZ=Ro G X a ca
xfa=List SF
xfb=λx;aP x a
xfc=Array `fg
xfd=t.advance p
xfe=Y `xae%U
xff=List `e9
xfg=Array α
xfh=Int×Re
xfi=/hk
xfj=arrOf d
xfk=f.2 a b
xfl=List `e9
xfm=aS Ry ds
xfn=tOp r ta tb
xfo=.Name x pos
xfp=X.mg x=M
xfq=RelV v u
xfr=.tup xs
xfs=.inl h
xft=Md×Uc
xfu=l.map kR
xfv=Zg hm
xfw=W b n
xfx=xP{`sY,aI,`li}
xfy=bF 4 `cm
xfz=a%RA.flatten
xfA=X.K=G.K
xfB=o8 E d nd C A h
xfC=XAB b
xfD=StateT XAA Sem α
xfE=λa o h;(fr.keep a o h jN)#1
xfF=rm Z i F
xfG=d(wI f)
xfH=Yg hb
xfI=truthy v
xfJ=.bl b
xfK=List β
xfL=List Key×V
xfM=x U
xfN=keys a U
xfO=xv rfl rfl
xfP=wN bk wd i
xfQ=.ret .none
xfR=bp k
xfS=kQ l
xfT=Fp Z U H m F
xfU=(`D_)#length+1
xfV=c+1
xfW=.ret(.bool J)
xfX=b U
xfY=T×T
xfZ=xv L L
xga=Ou S b
xgb=pairsOf vs
xgc=.tup d
xgd=.own a
xge=T×Val
xgf=qv 5
xgg=oc `xmr
xgh=(`ed)#Nodup
xgi=visit w r met
xgj=K P S nd wd
xgk=List(Ug)
xgl=ae e ak
xgm=List K
xgn=.Name n p
xgo=PIx G X `bv `ey
xgp=Array DictEntry
xgq=Of kr X.A
xgr=Zg hb
xgs=λH v t F l z r h;jX r h
xgt=k^N.length
xgu=f.trans g
xgv=v%vs
xgw=jQ f v fs
xgx=K.In s.heap
xgy=Zg `xeB
xgz=PE X e te
xgA=PT X a tA
xgB=t b o e a
xgC=.nx U
xgD=some `xae
xgE=bC 0
xgF=PySem.W.hasDictIn K C=true
xgG=up `xnM{`xbE,trees l}
xgH=Kx knd h0 s.heap b m eb u
xgI=upd H a{`w_,ns.zip vs}
xgJ=k^k'
xgK=SG G X e i way
xgL=d.mapλx;x.cps.toList
xgM=pre.length+1
xgN=List SC
xgO=λi;Z(i-k)
xgP=List PySem.Env
xgQ=h.objs.size^a
xgR=bJ 0
xgS=List.range' 1{`xcr,1}
xgT=l.take k
xgU=aX b
xgV=t.take e
xgW=aA a
xgX=ar L
xgY=Ol t=J
xgZ=bF 1 `cm
xha=UM knd l
xhb=t.drop i
xhc=OV t a b
xhd=VS.Env>Option{`xbG,Uc}
xhe=.ref s1.heap.objs.size
xhf=arrOf st
xhg=Option `dL
xhh=N.length=g
xhi=i<U.length
xhj=f.ow a z
xhk=d.map sx
xhl=iS H a y o
xhm=call{`xaV,e}(v%d)
xhn=.int i t
xho=top 27
xhp=nN `gs bk 0
xhq=l7 `vr
xhr=nT met
xhs=nE 0 a
xht=xI `jl
xhu=kZ 0 6(eNew 0 dG ak)
xhv=gp `cv
xhw=iA(Rk d)l
xhx=.ref a%p
xhy=T7 G c mv g
xhz=List UR
xhA=.ret v
xhB=bare w
xhC=b+off
xhD=i<b.size
xhE=tyN t
xhF=λa i;.inl(f.2 a i)
xhG=.ref E.heap.objs.size
xhH=.ref D
xhI=flat t=J
xhJ=α>Option β
xhK=b.map V.int
xhL=H a=Y(.dK b)
xhM=.lst a
xhN=QM X.K C
xhO=g i j
xhP=.Expr e pos
xhQ=X.Ru E
xhR=RelV x v
xhS=yV h H
xhT=.own x
xhU=fs.lookup f
xhV=e U
xhW=(`ed)#length=wd.length
xhX=wZ I r1 r2 i g f e m
xhY=PyData.depthAll `xfS
xhZ=b.mapλk;T.tup `YP
xia=r9 sc(N.drop 1)X.N=J
xib=c>wpS `ax A E s x Q a
xic=f&a.extract d(d+k)
xid=l.anyλy;eqT y x.2
xie=d.mapλs;V.str `A6
xif=QL{`M_,m}
xig=hd.set i r
xih=tx.set i v
xii=hd.set i v
xij=gQ h
xik=λz;ne m z.2.2.1 L
xil=ar((oN L)#trans L)
xim=bk.length-1
xin=Q2 t
xio=UA S
xip=.io 5 B
xiq=j c o e
xir=YM `xeB
xis=nz T.tb.rp
xit=IsTupleKey knd h0 k b
xiu=d.toList.getD p.2 0
xiv=m+1
xiw=Y8.mp e
xix=Array Nat
xiy=Option Xx
xiz=x2 f xa xb
xiA=PXT G X e xt
xiB=at_ j d
xiC=a.zip d
xiD=P0 G X.K k f
xiE=keyKind' vs.toArray
xiF=P.length+k
xiG=ZM t
xiH=K `c_ i
xiI=ZS f
xiJ=d.zip f
xiK=Zd.mp h
xiL=a x c e
xiM=ZC.mp h
xiN=f2.back e1
xiO=r1.same e2
xiP=h.subset b
xiQ=eC .non
xiR=.Pass⟨0,0,0,0⟩
xiS=Of k callerA
xiT=H a
xiU=H a=Y{`xbE,b.map kV}
xiV=XAC .NotIn
xiW=List Stmt
xiX=TP X a O Q
xiY=storeName X.env x u
xiZ=I.PF x c e
xja=l.map g
xjb=α>T
xjc=.rt v d
xjd=Y c
xje=trees l
xjf=({`xbg,kR})#map bR
xjg=j4 2{`xcM,`lz,ak}
xjh=(gxO a K C D)#at m
xji=post.flatten&rest
xjj=Nat.not_lt_of_ge o
xjk=Vc(/Uz v)
xjl=Nat.lt_of_not_ge q
xjm=Int.ofNat_le.mpr h
xjn=x.above y c(Wr h)
xjo=Option V
xjp=qv 12
xjq=aa `f_ ag
xjr=P5 bk `gs
xjs=k^l.length
xjt=p<wd.length
xju=a.map wTT
xjv=i<tx.length
xjw=hd.length=tx.length
xjx=h<wd.length
xjy=Yx h0
xjz=λj e;H j(ZE e)
xjA=List K×Pv
xjB=pQ T.rp a
xjC=.Name n pos%es
xjD=itT z.1.2
xjE=sm.free z
xjF=n+1
xjG=j6 d os U
xjH=Uc×T
xjI=rm Z i Fs.flatten
xjJ=λl b;F.ok S l b
xjK=F&Pp d e
xjL=I.ok.hd r
xjM=PV G X b ck
xjN=ns.map bp
xjO=XAB d
xjP=ox{`xbM,f}i g d
xjQ=b.trans q
xjR=r.OF b hb
xjS=f a b
xjT=d.endLine~f.line
xjU=s.same e1
xjV=Kept.of e
xjW=ks.zip vs
xjX=eqU x
xjY=eA I.Og e
xjZ=intBits_le_64 e d
xka=.Name x a
xkb=upd H x o
xkc=H a=Y o
xkd=List Tg
xke=aa{`ms,fq a}ag
xkf=sx q.2
xkg=(`ed)#length^1000
xkh=Nat.le_zero.mp h
xki=mT met
xkj=sk w
xkk=cond z
xkl=l.getD i.toNat 0
xkm=fE 3
xkn=s.heap.push `xhB
xko=SetTable.turns m
xkp=lo+a
xkq=(PL `ey)#idxOf j
xkr=Meth K(`be)#1 x f
xks=F%g
xkt=List `ti
xku=M.R8 C
xkv=PVI G X tg iter ci
xkw=.inr z
xkx=r1.str_inv.2.2 c
xky=.inl z
xkz=ah d
xkA=ns.map WData.int
xkB=q%a
xkC=.lst f
xkD=.tup a
xkE=.int `xhO s.toks
xkF=.lst d
xkG=.IfExp c a b pos
xkH=.ref x
xkI=Array Re
xkJ=RelV x u
xkK=t%r
xkL=ZL h
xkM=hU{`R5,qv 7,8}
xkN=jJ o9 oU `vl aj
xkO=xv L `gk
xkP=hw m(H.i.lt f)
xkQ=List Pl
xkR=m<(`fi)#lg.length
xkS=rZ m j v
xkT=.lst `Ua
xkU=IZ L(yX L L e)
xkV=nE k met
xkW=d<l.length
xkX=hg S 0 t
xkY=λz;h z.1.symm
xkZ=0<l.length
xla=W6.mpr a
xlb=a.length=d
xlc=ab 12
xld=iK(eN jU `xap)
xle=fS ak
xlf=g8 t.place
xlg=SetTable.bits x
xlh=t.mask+1
xli=pW w c m
xlj=f1.keep a o h n
xlk=aZ `ey g
xll=qC U 0(J%a)
xlm=.dct 3{`wT,ts}
xln=s.drop j
xlo=N.length=j
xlp=tZ a e g
xlq=ex.trans e.symm
xlr=d.zip bs
xls=yb j l t
xlt=a.map bp
xlu=arrOf QT
xlv=a.toList.take f
xlw=a+n
xlx=relabel g X.env
xly=N.drop k
xlz=uo p l g he h n
xlA=e.free z
xlB=d.same.trans e1
xlC=a.length=b.length
xlD=Of `T5 X.A
xlE=Mk X.K C f
xlF=XAC .LtE
xlG=X.mg x=Y u
xlH=.str q 0
xlI=Val×Env
xlJ=Ie f r x
xlK=keys r U
xlL=.nx{`mz,.pu t}
xlM=d f
xlN=p j i g f e d b a
xlO=l.length<1000000
xlP=/Xk hk
xlQ=/Yo hl
xlR=e2 oNe `cv `lz
xlS=gH 0 aR `cm ak
xlT=e2 oLt `fw `Fa
xlU=T0 m
xlV=Array `fg×Nat
xlW=WF S
xlX=Mk X.K(`be)#1 f
xlY=n-(d.length+1)
xlZ=ps.foldl `lv a
xma=Ua2 `gc b pos' X
xmb=h.filterMap id
xmc=Nat.lt_asymm o
xmd=gE k g ci M ce
xme=s.OQ(E4.mp h)
xmf=s.RZ(Ce.mp h)
xmg=λO H Q;Q J H
xmh=f.symm.trans e
xmi=binaryOp .Mult
xmj=d~CmpOp.NotIn
xmk=z.2.1%z.2.2
xml=i7 `vl L B.Pn
xmm=ba aj
xmn=qk `fx L B.PH
xmo=au ud
xmp=a L L
xmq=ny L
xmr=PB l
xms=(`xhq)#map tR
xmt=s1 c
xmu=tabOf a
xmv=Eh(m:.bo)L
xmw=QI `xaq
xmx=λz;d z.symm
xmy=H.top s
xmz=H.top b
xmA=u9(m:.fr)L
xmB=S.lg.getD h 0+1
xmC=S.lg.getD n 0+1
xmD=t0%l
xmE=exA l
xmF=iO h(MZ S b)
xmG=QL w
xmH=QI o
xmI=.rt v U
xmJ=a U=Y x
xmK=.io 1 J
xmL=ab 7
xmM=Q3 8
xmN=e2 RF `Z9 `cm
xmO=bC 3
xmP=wu e
xmQ=(`xad)#isNone=J
xmR=Y3 m
xmS=St×Nat
xmT=Sb(gx0 K)Hn
xmU=List Ix
xmV=c%U5
xmW=psZ Z
xmX=Pq a.length i
xmY=Rk as
xmZ=d.map Sum.inr
xna=H3 a
xnb=ly G
xnc=t.fits b.size=J
xnd=Re×Nat
xne=Zt q
xnf=List `xfh
xng=X.Pairwise `xag
xnh=ZM mk
xni=/ZM o
xnj=/Xk p
xnk=kp.1.trans hk
xnl=ke n
xnm=ZS d
xnn=a+c.2.1
xno=Yg n
xnp=f1.join A.len
xnq=tE G ca
xnr=h.2 a m
xns=Z i
xnt=aN H b
xnu=bg d
xnv=.ref fa
xnw=a.1=k
xnx=.dK d
xny=XAC .In
xnz=b.zip a
xnA=PA X es t
xnB=PE X o ta
xnC=XAC .Lt
xnD=Itt K a
xnE=Itl K a
xnF=.ref it
xnG=I.ok.WV b o e
xnH=q%fs
xnI=strs? l
xnJ=trees d
xnK=s&t
xnL=tru x.2
xnM=dk l
xnN=.ow t
xnO=List `xaa
xnP=i7 aj L B.Pn
xnQ=A.H.i.top hs
xnR=wd.length^241
xnS=w.length^1000
xnT=HH tx hd S J
xnU=CP nw.1 nw.2
xnV=bk.map T.str
xnW=a U=Y(.nx U1)
xnX=iK `cv
xnY=.fresh f m g
xnZ=T.kp b o D C
xoa=iT T.rp T.rd
xob=t.mask=t'.mask
xoc=Nat>Option β
xod=Mk K(`be)#1 f
xoe=gH c h ca ak
xof=gH c h ca cs
xog=m~(`be)#2 n
xoh=t.1.trans hk
xoi=u.1.trans hk
xoj=.bl o.isSome
xok=d.r2.same e1
xol=ZM(W6.mp z)
xom=pre_splitW f
xon=.ref a%vs
xoo=Meth X.K C m f
xop=.List es pos
xoq=dF P w H h a o
"
open Lean
def nk(k:Name)(a:List Syntax):Syntax:=.node .none k a.toArray
def nd(k:Name):=nk (`Lean.Parser.Term++k)
def tn(k:Name):=nk (`Lean.Parser.Tactic++k)
def at'(s:String):Syntax:=.atom .none s
def nl:=nk `null
def idt(s:String):Syntax:=.ident .none s.toRawSubstring s.toName []
def prj(x:Syntax)(l:List String):Syntax:=l.foldl (fun x s=>nd `proj [x,at' ".",if s.isNat then nk `fieldIdx [at' s] else idt s]) x
structure Fr where
  k:Char
  d:List Syntax
  i:List Syntax
def app(f:Syntax)(l:List Syntax):Syntax:=if l.isEmpty then f else nd `app [f,nl l]
def tac(k:Name)(a:List Syntax):Syntax:=nd `byTactic [at' "by",tn `tacticSeq [tn `tacticSeq1Indented [nl [tn k a]]]]
def num(l:List String):Syntax:=prj (idt (".".intercalate (l.takeWhile (!·.isNat)))) (l.dropWhile (!·.isNat))
def wd(a:Array Syntax)(c:Char)(t:String):Syntax:=
  if c=='$' then a[t.toNat!]! else
  if c=='`' then nd `quotedName [Syntax.mkNameLit ("`"++t)] else
  if c=='@' then nd `explicit [at' "@",idt t] else
  if c=='.' then nd `dotIdent [at' ".",idt t] else
  if c=='?' then nd `syntheticHole [at' "?",at' "_"] else
  if c==']' then tac `tacticRfl [at' t] else
  if c=='!' then tac `assumption [at' t] else
  if c=='[' then tac t.toName [at' t,tn `optConfig [nl []]] else
  if c=='_'&&t.isEmpty then nd `hole [at' "_"] else
  if c.isDigit then Syntax.mkNumLit (c.toString++t) else num ((c.toString++t).splitOn ".")
def ap(i:List Syntax):Syntax:=app (i.reverse.headD .missing) i.reverse.tail
def ops:=[('>',"->"),('^',"<="),('&',"++"),('%',"::"),('~',"==")]
def bld(f:Fr):Syntax:=
  let x:=ap f.i
  let y:=f.d.headD .missing
  let b:=nl (x::f.d).reverse
  let c:=f.k
  if "(|".contains c then x else
  if c=='λ' then nd `fun [at' "fun",nd `basicFun [nl f.d.reverse,nl [],at' "=>",x]] else
  if c=='/' then tac `exact [at' "exact",x] else
  if c==':' then nd `namedArgument [at' "(",y,at' ":=",x,at' ")"] else
  if c=='⟨' then nd `anonymousCtor [at' "⟨",b,at' "⟩"] else
  if c=='{' then nk (.mkSimple "term{_}") [at' "{",b,at' "}"] else
  let o:=(ops.lookup c).getD c.toString
  nk (if c=='>' then `Lean.Parser.Term.arrow else .mkSimple ("term_"++o++"_")) [y,at' o,x]
def close(f:Fr):List Fr→Fr×List Fr
  |[]=>(f,[])
  |g::r=>if "(:⟨{".contains f.k then (f,g::r) else close {g with i:=bld f::g.i} r
def flush(a:Array Syntax)(w:List Char)(f:Fr):Fr:=
  if w.isEmpty then f else
  let c:=w.getLastD ' '
  let t:=String.ofList w.dropLast.reverse
  {f with i:=if c=='#' then prj (f.i.headD .missing) (t.splitOn ".")::f.i.tail else wd a c t::f.i}
def step(a:Array Syntax)(s:List Char×Fr×List Fr)(c:Char):List Char×Fr×List Fr:=
  if !" #(⟨{λ/|;:,)⟩}=<+-*×>^&%~".contains c then (c::s.1,s.2) else
  let f:=flush a s.1 s.2.1
  let r:=s.2.2
  if c==' ' then ([],f,r)
  else if c=='#' then ([c],f,r)
  else if "(⟨{λ/|".contains c then ([],⟨c,[],[]⟩,f::r)
  else if c==';' then ([],{f with d:=f.i,i:=[]},r)
  else if c==':' then ([],⟨c,f.i,[]⟩,r)
  else if ",)⟩}".contains c then
    let p:=close f r
    if c==',' then ([],{p.1 with d:=at' ","::ap p.1.i::p.1.d,i:=[]},p.2)
    else match p.2 with
    |g::q=>([],{g with i:=bld p.1::g.i},q)
    |[]=>([],p)
  else ([],⟨c,[ap f.i],[]⟩,{f with i:=[]}::r)
def tm(n:String)(a:Array Syntax):Option Syntax:=((tbl.splitOn ("\n"++n++"="))[1]?).map fun r=>
  let s:=((r.splitOn "\n").headD "").toList.foldl (step a) ([],⟨'(',[],[]⟩,[])
  ap (close (flush a s.1 s.2.1) s.2.2).1.i
end Tm
set_option hygiene false
local macro_rules|`({$n:name,$y:term,*})=>((Tm.tm (n.raw[0].getAtomVal.drop 1).toString (y.getElems.map (·.raw))).map pure).getD Lean.Macro.throwUnsupported|`($n:name)=>((Tm.tm (n.raw[0].getAtomVal.drop 1).toString #[]).map pure).getD Lean.Macro.throwUnsupported
theorem q0(h:True:=by first | calc .inl L | calc .inr L | assumption):True:=h
theorem q1(h:True:=by decide):True:=h
theorem q2(h:True:=by intro _;rfl):True:=h
theorem q3(h:True:=by rfl):True:=h
theorem q4(h:True:=by with_unfolding_all rfl):True:=h
theorem q5(h:True:=by first | calc Or.inl L | calc Or.inr `fm | calc Or.inr `tm):True:=h
theorem q6(h:True:=by first | calc Or.inl L | calc Or.inr L):True:=h
theorem q7(h:True:=by first | calc .inl L | calc .inr L):True:=h
theorem q8(h:True:=by calc rfl):True:=h
theorem q9(h:True:=by calc .inl L):True:=h
set_option hygiene false
local macro_rules|`({`q0,$x})=>`(autoParam $x q0._auto_1)|`({`q1,$x})=>`(autoParam $x q1._auto_1)|`({`q2,$x})=>`(autoParam $x q2._auto_1)|`({`q3,$x})=>`(autoParam $x q3._auto_1)|`({`q4,$x})=>`(autoParam $x q4._auto_1)|`({`q5,$x})=>`(autoParam $x q5._auto_1)|`({`q6,$x})=>`(autoParam $x q6._auto_1)|`({`q7,$x})=>`(autoParam $x q7._auto_1)|`({`q8,$x})=>`(autoParam $x q8._auto_1)|`({`q9,$x})=>`(autoParam $x q9._auto_1)
theorem L.{u}{α:Sort u}{a:α}:a=a:=rfl
open PySem renaming Shared->On, model->PP, sizeLine->Pi, Addr->Pv, Value->Re, wpAny->SB, starEach->SL, FuncData->SZ, Program->UF, Around->UV, compareOp->XAC, Heap->XAD, World->XAE, foldedSetIterable->XAF
open PyProof.Rows renaming Keyed->SC, SortSt->XAA, pendingOf->XAB
set_option linter.all false
set_option maxRecDepth 100000
set_option Elab.async false
set_option maxHeartbeats 4000000
abbrev Y2:=PySem.Value->PySem.Shared->Prop
abbrev Xz:=List<|PySem.Addr×PySem.Obj
abbrev Wc:=List<|List PySem.Addr
abbrev W0:=PySem.W.Frag
abbrev W3:=PySem.Str->Option PySem.Value
abbrev Vr:=List PySem.Addr
abbrev Vq:=List PySem.Value
abbrev Ve:=Option PySem.Value
abbrev Uj:=List Nat
abbrev Ui:=List Int
abbrev Uh:=List {`QZ,Nat}
abbrev Zp:=@if_pos
abbrev Zn:=@if_neg
abbrev ZP:=@decide_eq_false
abbrev ZI:=@decide_eq_true
abbrev ZF:=@congrArg
open Option renaming bind_eq_some_iff->Zz,map_eq_some_iff->Zx,bind_some->Zw,isSome_iff_exists->YE,isSome_map->X7,getD_some->Ur
open PySem renaming wpAny_bind->Zy,wpAny_pure->Zt,wpAny_setState_of->Yy,wpAny_holding->Yb,wpAny_mono->YC,wpAny_truthy_bool->Y0,sizeLine_eq->Xp,wpAny_call_entry->Xl,wpAny_newObj_type->Xb,codeAny_builtin->XZ,wpAny_setField->X0,wpAny_askSetting->X1,wpAny_passesOwn->Wz,mem_of_lookup->Wr,plainId_quiet->We,wpAny_Call_Name_kw->WX,tupleKind_room_in1->WW,wpAny_typeOf->WM,wpAny_storeSet_of->WK,codeAny_mono->WJ,builtinLookup_eq_fast->WC,wpAny_isInstance->WB,wpAny_forIn_list->WA,wpAny_typeNameOfWhole_keyiter->W7,isSubtype_type->Vf,wpAny_setEpoch_of->VU,wpAny_pyIter_slot->VT,wpAny_specialOf->VA,wpAny_execs_nil->V0,typeLookup_type->V1
open List renaming mem_cons_self->Zv,length_map->Zu,mem_cons_of_mem->Zs,length_append->Zr,getElem?_eq_getElem->Zo,getD_eq_getElem?_getD->Zl,mem_cons->Zi,map_cons->Zh,mem_append->Zf,getElem?_eq_some_iff->Ze,nodup_cons->Zc,length_cons->Za,mem_map->ZW,getElem?_map->ZV,append_assoc->ZU,append_nil->ZO,mem_singleton->ZK,nodup_append->ZG,mem_of_getElem?->ZE,mem_append_right->ZD,all_eq_true->ZC,map_map->QF,map_append->Rn,pairwise_append->SU,length_singleton->Ti,zip_cons_cons->SE,getElem?_append_right->Yw,getElem?_append_left->Yv,mem_range->Yu,length_range->Yt,getElem_of_mem->Yr,take_of_length_le->Yq,find?_cons->Yn,length_drop->Yj,nodup_nil->Yi,take_append_drop->Yh,pairwise_iff_getElem->Yf,suffix_refl->Ye,nil_append->Yd,length_set->Yc,size_toArray->Ya,getElem?_set_ne->YZ,eraseIdx_eq_take_drop_succ->YW,map_congr_left->YU,getElem_mem->YT,mem_append_left->YQ,drop_eq_nil_of_le->YO,flatten_append->YN,mem_of_mem_take->YK,drop_eq_getElem_cons->YG,getElem?_toArray->YF,idxOf_lt_length_iff->YD,length_zip->YA,getElem?_replicate->Y1,sublist_cons_self->Y5,pairwise_map->Y6,isSuffixOf_iff_suffix->Y7,filterMap_cons->Xy,getElem?_zip_eq_some->Xw,perm_append_comm->Xu,length_take->Xr,mem_of_mem_drop->Xo,eq_nil_of_length_eq_zero->Xn,length_eq_zero_iff->Xj,flatten_cons->Xi,exists_cons_of_length_eq_add_one->Xh,suffix_nil->Xf,length_replicate->XU,foldl_cons->XS,not_mem_nil->XH,lookup_cons->XG,any_eq_true->XF,take_append_of_le_length->XB,mem_filter->X2,any_cons->X4,length_filter_le->X5,getElem?_eq_none->X6,getElem_take->X9,getElem?_of_mem->Wx,nodup_range->Wu,extract_eq_take_drop->Ws,getD_cons_succ->Wp,all_cons->Wj,pairwise_cons->Wi,mem_filterMap->Wh,getElem_idxOf->Wg,getElem?_set_self->Wa,ext_getElem?->WZ,zipIdx_cons->WU,mem_reverse->WT,map_fst_zip->WR,drop_append->WQ,append_cons->WO,zip_append->WI,nil_suffix->WH,length_nil->WG,map_set->W5,perm_ext_iff_of_nodup->Vx,drop_zero->Vw,sublist_append_right->Vt,getElem?_eq_none_iff->Vs,map_id->Vk,getElem_drop->Vj,getElem_inj->Vb,cons_append->Va,drop_of_length_le->VY,all_map->VX,of_mem_zip->VQ,set_getElem_self->VM,eraseIdx_sublist->VL,cons_lt_cons_iff->VJ,range_eq_range'->VF,filter_sublist->VB,sum_cons->V2,map_take->V3,getElem?_take->V5,findIdx?_cons->V6,take_sublist->Uv,getElem?_set->Uu,range'_succ->Um,mem_flatten->Ul
open Nat renaming le_refl->Zq,lt_of_lt_of_le->Zk,ne_of_lt->Zg,le_trans->ZY,le_add_right->ZX,le_of_lt->ZM,lt_of_le_of_lt->ZJ,le_of_lt_succ->ZA,zero_le->Pr,lt_succ_of_lt->Rz,pos_of_ne_zero->Yx,le_of_not_lt->Yo,lt_irrefl->Yl,lt_succ_self->Yk,sub_le->YX,add_lt_add_left->YV,ne_of_gt->YM,min_eq_left->YJ,zero_add->YI,succ_pos->Y3,lt_trans->Y4,min_le_right->Xs,lt_of_succ_lt->Xk,le_antisymm->Xg,add_assoc->Xa,le_add_left->XT,le_sub_one_of_lt->XQ,add_le_add_left->XO,add_sub_cancel_left->XI,le_of_eq->XA,zero_lt_of_lt->X8,mod_lt->Wy,add_sub_cancel'->Wq,le_succ->Wf,sub_lt->W8,lt_or_eq_of_le->W9,lt_of_le_of_ne->Vz,add_sub_cancel->Vy,sub_pos_of_lt->Vp,lt_trichotomy->Vo,le_succ_of_le->Vn,le_of_succ_le->Vm,add_sub_assoc->Vl,succ_le_succ->Vd,lt_add_of_pos_right->Vc,lt_or_ge->VZ,zero_lt_one->VR,sub_one_lt_of_le->VG,sub_le_sub_left->VC,lt_succ_of_le->V9,lt_of_succ_le->Uz,add_zero->Uy,add_sub_of_le->Ux,add_comm->Uw,succ_lt_succ->Uq,min_eq_right->Up,le_of_not_le->Uo
open PySem.Heap renaming get?_push_of_some->Zm,lt_size->Zb,get?_push_size->ZZ,get?_update_self->Ys,get?_update_other->Yp,size_push->Xe,get?_push_ne->XE,size_update->VE
open Bool renaming false_ne_true->Zj,and_eq_true_iff->Zd,and_eq_true->YH,false_eq_true->Xq,eq_iff_iff->XR,eq_false_iff->WY,not_eq_true'->Vh,true_eq_false->V8
open Array renaming getElem_mem->ZS,length_toList->RO,getElem?_toList->Sf,getElem?_eq_getElem->Ym,getElem?_eq_some_iff->Y8,toList_extract->Xm,getD_eq_getD_getElem?->Xc,toList_append->XM,perm_iff_toList_perm->Wv,toList_inj->Wt,size_push->WE,forIn_toList->Vu,size_append->Vg,toList_push->Ut,toList_map->Uk
open PyProof.Rows renaming wpS_pure->ZR,wpS_bind->ZQ,wpS_forRange->YL,callWith_type1->Xd,wpS_mono->XD,wpS_modify->WD,wpS_get->VI
open Option.some renaming inj->ZL
open PySem.W renaming mg_of->QX,mg_none_of->YY,kia_one->YB,plainGet_of->VD,callWith_K->V4
open PySem.PassesOwn renaming never->Yz
open Ne renaming symm->Yg
open List.Perm renaming refl->YS,of_eq->VO
open Int renaming toNat_natCast->YR,emod_lt_of_pos->XX,emod_nonneg->X3,ofNat_lt->W6,natCast_nonneg->Vv
open PySem.Around renaming under_plainId->Y9
open Classical renaming byContradiction->Xv
open PySem.Heap.SameBut renaming update->XW
open PySem.F renaming plainAttrs_list->XJ,slot_dict_keyiterator_next->Ww,type_list_append->Wm,slot_list_append->Wk,slot_tuple_getattribute->VW,slot_dict_get->VN
open Prod.mk renaming inj->XC
open PySem.Paired renaming length->Wb
open List.cons renaming inj->WN,injEq->VP
open Nat.succ renaming inj->W4
open List.Sublist renaming refl->Vi
open List.Nodup renaming sublist->V7
open PyProof.Rows.F renaming plain_set_update_loop->Us
section
open PySem PySem.Spec PyProof.Rows
namespace L2
def _root_.ai{G:Prop}(h:∀P:Prop,(G->P)->P):G:=h G id
def _root_.Om{A:Type _}{a b:A}(h:Y a=Y b):a=b:=ZL h
def pj2{g f:Type _}{e b:g}{d a:f}(h:(e,d)=(b,a)):e=b/\d=a:={(XC h).1,(XC h).2}
def _root_.sj2{g f:Type _}{e b:g}{d a:f}(h:Y (e,d)=Y (b,a)):e=b/\d=a:=pj2 `xkL
def _root_.TU{b:Sort _}{p:b->Prop}{G:Prop}(h:∃a,p a)(k:∀a,p a->G):G:=h.elim λa h=>k a h
def _root_.RB{b:Sort _}{p:b->Prop}{G:Prop}(k:∀a,p a->G)(h:∃a,p a):G:=h.elim λa h=>k a h
def _root_.Oo{d b:Sort _}{p:d->b->Prop}{G:Prop}(h:∃a x2,p a x2)(k:∀a x2,p a x2->G):G:=h.elim λa h=>h.elim λx2 h=>k a x2 h
def _root_.Px{d b:Sort _}{p:d->b->Prop}{G:Prop}(k:∀a x2,p a x2->G)(h:∃a x2,p a x2):G:=h.elim λa h=>h.elim λx2 h=>k a x2 h
def _root_.Pd{e d:Sort _}{p:e->d->Prop}(b:e)(a:d)(h:p b a):∃b a,p b a:={b,a,(h)}
def _root_.SJ{e d:Sort _}{p:e->d->Prop}{b:e}{a:d}(h:p b a):∃b a,p b a:={b,a,(h)}
def _root_.OH{f e d:Sort _}{p:f->e->d->Prop}{G:Prop}(h:∃b x2 a,p b x2 a)(k:∀b x2 a,p b x2 a->G):G:=h.elim λb h=>h.elim λx2 h=>h.elim λa h=>k b x2 a h
def _root_.UX{f e d:Sort _}{p:f->e->d->Prop}{G:Prop}(k:∀b x2 a,p b x2 a->G)(h:∃b x2 a,p b x2 a):G:=h.elim λb h=>h.elim λx2 h=>h.elim λa h=>k b x2 a h
def _root_.Ow{g f e:Sort _}{p:g->f->e->Prop}(d:g)(b:f)(a:e)(h:p d b a):∃d b a,p d b a:={d,b,a,(h)}
def _root_.UE{g f e:Sort _}{p:g->f->e->Prop}{d:g}{b:f}{a:e}(h:p d b a):∃d b a,p d b a:={d,b,a,(h)}
def _root_.Oj{i g f e:Sort _}{p:i->g->f->e->Prop}{G:Prop}(h:∃d x2 b a,p d x2 b a)(k:∀d x2 b a,p d x2 b a->G):G:=h.elim λd h=>h.elim λx2 h=>h.elim λb h=>h.elim λa h=>k d x2 b a h
def _root_.yE4{i g f e:Sort _}{p:i->g->f->e->Prop}{G:Prop}(k:∀d x2 b a,p d x2 b a->G)(h:∃d x2 b a,p d x2 b a):G:=h.elim λd h=>h.elim λx2 h=>h.elim λb h=>h.elim λa h=>k d x2 b a h
def _root_.Oe{j i g f:Sort _}{p:j->i->g->f->Prop}(e:j)(d:i)(b:g)(a:f)(h:p e d b a):∃e d b a,p e d b a:={e,d,b,a,(h)}
def _root_.UW{j i g f:Sort _}{p:j->i->g->f->Prop}{e:j}{d:i}{b:g}{a:f}(h:p e d b a):∃e d b a,p e d b a:={e,d,b,a,(h)}
def _root_.xE5{l j i g f:Sort _}{p:l->j->i->g->f->Prop}{G:Prop}(h:∃e x2 d b a,p e x2 d b a)(k:∀e x2 d b a,p e x2 d b a->G):G:=h.elim λe h=>h.elim λx2 h=>h.elim λd h=>h.elim λb h=>h.elim λa h=>k e x2 d b a h
def _root_.yE5{l j i g f:Sort _}{p:l->j->i->g->f->Prop}{G:Prop}(k:∀e x2 d b a,p e x2 d b a->G)(h:∃e x2 d b a,p e x2 d b a):G:=h.elim λe h=>h.elim λx2 h=>h.elim λd h=>h.elim λb h=>h.elim λa h=>k e x2 d b a h
def _root_.PM{m l j i g:Sort _}{p:m->l->j->i->g->Prop}(f:m)(e:l)(d:j)(b:i)(a:g)(h:p f e d b a):∃f e d b a,p f e d b a:={f,e,d,b,a,(h)}
def _root_.yI5{m l j i g:Sort _}{p:m->l->j->i->g->Prop}{f:m}{e:l}{d:j}{b:i}{a:g}(h:p f e d b a):∃f e d b a,p f e d b a:={f,e,d,b,a,(h)}
def _root_.xE6{n m l j i g:Sort _}{p:n->m->l->j->i->g->Prop}{G:Prop}(h:∃f x2 e d b a,p f x2 e d b a)(k:∀f x2 e d b a,p f x2 e d b a->G):G:=h.elim λf h=>h.elim λx2 h=>h.elim λe h=>h.elim λd h=>h.elim λb h=>h.elim λa h=>k f x2 e d b a h
def _root_.SV{o n m l j i:Sort _}{p:o->n->m->l->j->i->Prop}(g:o)(f:n)(e:m)(d:l)(b:j)(a:i)(h:p g f e d b a):∃g f e d b a,p g f e d b a:={g,f,e,d,b,a,(h)}
def yI6{o n m l j i:Sort _}{p:o->n->m->l->j->i->Prop}{g:o}{f:n}{e:m}{d:l}{b:j}{a:i}(h:p g f e d b a):∃g f e d b a,p g f e d b a:={g,f,e,d,b,a,(h)}
def xI7{r q o n m l j:Sort _}{p:r->q->o->n->m->l->j->Prop}(i:r)(g:q)(f:o)(e:n)(d:m)(b:l)(a:j)(h:p i g f e d b a):∃i g f e d b a,p i g f e d b a:={i,g,f,e,d,b,a,(h)}
def _root_.xE8{s r q o n m l j:Sort _}{p:s->r->q->o->n->m->l->j->Prop}{G:Prop}(h:∃i x2 g f e d b a,p i x2 g f e d b a)(k:∀i x2 g f e d b a,p i x2 g f e d b a->G):G:=h.elim λi h=>h.elim λx2 h=>h.elim λg h=>h.elim λf h=>h.elim λe h=>h.elim λd h=>h.elim λb h=>h.elim λa h=>k i x2 g f e d b a h
def _root_.xI8{t s r q o n m l:Sort _}{p:t->s->r->q->o->n->m->l->Prop}(j:t)(i:s)(g:r)(f:q)(e:o)(d:n)(b:m)(a:l)(h:`xlN):∃j i g f e d b a,p j i g f e d b a:={j,i,g,f,e,d,b,a,(h)}
def yI8{t s r q o n m l:Sort _}{p:t->s->r->q->o->n->m->l->Prop}{j:t}{i:s}{g:r}{f:q}{e:o}{d:n}{b:m}{a:l}(h:`xlN):∃j i g f e d b a,p j i g f e d b a:={j,i,g,f,e,d,b,a,(h)}
def _root_.xA2{a A2 G:Prop}(h:a/\A2)(k:a->A2->G):G:=k h.1 h.2
def _root_.Pc{b a G:Prop}(k:b->a->G)(h:b/\a):G:=k h.1 h.2
def _root_.TY{d b a G:Prop}(h:d/\b/\a)(k:d->b->a->G):G:=k h.1 h.2.1 h.2.2
def _root_.oe{d b a G:Prop}(k:d->b->a->G)(h:d/\b/\a):G:=k h.1 h.2.1 h.2.2
def _root_.xA4{d b a A4 G:Prop}(h:d/\b/\a/\A4)(k:d->b->a->A4->G):G:=k h.1 h.2.1 h.2.2.1 h.2.2.2
def _root_.OI{e d b a G:Prop}(k:e->d->b->a->G)(h:e/\d/\b/\a):G:=k h.1 h.2.1 h.2.2.1 h.2.2.2
def _root_.TX{f e d b a G:Prop}(h:f/\e/\d/\b/\a)(k:f->e->d->b->a->G):G:=k h.1 h.2.1 h.2.2.1 h.2.2.2.1 h.2.2.2.2
def _root_.Pf{f e d b a G:Prop}(k:f->e->d->b->a->G)(h:f/\e/\d/\b/\a):G:=k h.1 h.2.1 h.2.2.1 h.2.2.2.1 h.2.2.2.2
def _root_.TV{g f e d b a G:Prop}(h:g/\f/\e/\d/\b/\a)(k:g->f->e->d->b->a->G):G:=k h.1 h.2.1 h.2.2.1 h.2.2.2.1 h.2.2.2.2.1 h.2.2.2.2.2
def _root_.SK{g f e d b a G:Prop}(k:g->f->e->d->b->a->G)(h:g/\f/\e/\d/\b/\a):G:=k h.1 h.2.1 h.2.2.1 h.2.2.2.1 h.2.2.2.2.1 h.2.2.2.2.2
def xA7{g f e d b a A7 G:Prop}(h:g/\f/\e/\d/\b/\a/\A7)(k:g->f->e->d->b->a->A7->G):G:=k h.1 h.2.1 h.2.2.1 h.2.2.2.1 h.2.2.2.2.1 h.2.2.2.2.2.1 h.2.2.2.2.2.2
def _root_.yA7{g f e d b a A7 G:Prop}(k:g->f->e->d->b->a->A7->G)(h:g/\f/\e/\d/\b/\a/\A7):G:=k h.1 h.2.1 h.2.2.1 h.2.2.2.1 h.2.2.2.2.1 h.2.2.2.2.2.1 h.2.2.2.2.2.2
def xA8{i g f e d b a A8 G:Prop}(h:i/\g/\f/\e/\d/\b/\a/\A8)(k:i->g->f->e->d->b->a->A8->G):G:=k h.1 h.2.1 h.2.2.1 h.2.2.2.1 h.2.2.2.2.1 h.2.2.2.2.2.1 h.2.2.2.2.2.2.1 h.2.2.2.2.2.2.2
def _root_.yA9{j i g f e d b a A9 G:Prop}(k:j->i->g->f->e->d->b->a->A9->G)(h:j/\i/\g/\f/\e/\d/\b/\a/\A9):G:=k h.1 h.2.1 h.2.2.1 h.2.2.2.1 h.2.2.2.2.1 h.2.2.2.2.2.1 h.2.2.2.2.2.2.1 h.2.2.2.2.2.2.2.1 h.2.2.2.2.2.2.2.2
def M3{m l j i g f e d b a G:Prop}(k:m->l->j->i->g->f->e->d->b->a->G)(h:m/\l/\j/\i/\g/\f/\e/\d/\b/\a):G:=k h.1 h.2.1 h.2.2.1 h.2.2.2.1 h.2.2.2.2.1 h.2.2.2.2.2.1 h.2.2.2.2.2.2.1 h.2.2.2.2.2.2.2.1 h.2.2.2.2.2.2.2.2.1 h.2.2.2.2.2.2.2.2.2
def MY{n m l j i g f e d b a G:Prop}(k:n->m->l->j->i->g->f->e->d->b->a->G)(h:n/\m/\l/\j/\i/\g/\f/\e/\d/\b/\a):G:=k h.1 h.2.1 h.2.2.1 h.2.2.2.1 h.2.2.2.2.1 h.2.2.2.2.2.1 h.2.2.2.2.2.2.1 h.2.2.2.2.2.2.2.1 h.2.2.2.2.2.2.2.2.1 h.2.2.2.2.2.2.2.2.2.1 h.2.2.2.2.2.2.2.2.2.2
def NL{p o n m l j i g f e d b a G:Prop}(k:p->o->n->m->l->j->i->g->f->e->d->b->a->G)(h:p/\o/\n/\m/\l/\j/\i/\g/\f/\e/\d/\b/\a):G:=k h.1 h.2.1 h.2.2.1 h.2.2.2.1 h.2.2.2.2.1 h.2.2.2.2.2.1 h.2.2.2.2.2.2.1 h.2.2.2.2.2.2.2.1 h.2.2.2.2.2.2.2.2.1 h.2.2.2.2.2.2.2.2.2.1 h.2.2.2.2.2.2.2.2.2.2.1 h.2.2.2.2.2.2.2.2.2.2.2.1 h.2.2.2.2.2.2.2.2.2.2.2.2
end L2
namespace VS
noncomputable abbrev Tx:=Uj
inductive T where
 |non|bl (b:Bool)|int (i:Int)|str (s:Tx)|scr (ns:Ui)
 |tup (l:List T)|lst (l:List T)|dct (kd:Nat) (l:`A5)|obj (c:Nat) (fs:`xnO)
 deriving Inhabited
abbrev Uc:=List T
noncomputable def gn:Nat:=16777216
mutual
def Ol:T->Bool
 |.lst _=>B
 |.dct _ _=>B
 |.obj _ _=>B
 |.tup l=>gq l
 |_=>J
def gq:Uc->Bool
 |[]=>J
 |t::r=>Ol t&&gq r
end
mutual
def eqT:T->T->Bool
 |.non,.non=>J
 |.bl a,.bl b=>a==b
 |.bl a,.int i=>(if a then 1 else 0)==i
 |.int i,.bl a=>i==(if a then 1 else 0)
 |.int i,.int j=>i==j
 |.str s,.str t=>s==t
 |.tup a,.tup b=>Bs a b
 |.lst a,.lst b=>Bs a b
 |_,_=>B
def Bs:Uc->Uc->Bool
 |[],[]=>J
 |a::d,b::bs=>eqT a b&&Bs d bs
 |_,_=>B
end
noncomputable def Pk:Nat->T->Bool
 |_,.non=>J
 |_,.bl _=>J
 |_,.int _=>J
 |_,.str _=>J
 |n+1,.tup l=>l.all<|Pk n
 |n+1,.lst l=>l.all<|Pk n
 |_,_=>B
inductive Md where|fr|pu|bo
 deriving DecidableEq,Inhabited
noncomputable def Md.join:Md->Md->Md
 |.bo,_=>.bo
 |_,.bo=>.bo
 |.pu,_=>.pu
 |_,.pu=>.pu
 |.fr,.fr=>.fr
inductive Cell where|pu (t:T)|ow (t:T)
 deriving Inhabited
abbrev Ug:=Option Cell
noncomputable abbrev Env:=List<|Ug
noncomputable abbrev Val:=Md×T
abbrev Ud:=Option Val
abbrev Ue:=List Val
abbrev Ex:=Env->Ud
abbrev OG:=Env->Option (Ue)
@[simp] def up(m:Md)(t:T):Val:=(if Ol t then .fr else m,t)
noncomputable def qG:T->Bool
 |.lst _=>J
 |.dct _ _=>J
 |.obj _ _=>J
 |_=>B
@[simp] def cellOf:Val->Ug
 | (.fr,t)=>Y<|if qG t then .ow t else .pu t
 | (.pu,t)=>Y `xae
 | (.bo,_)=>M
inductive Out where|nx (U:Env)|rt (v:Val) (U:Env)|bk (U:Env)|ct (U:Env)
abbrev Sx:=Env->Option Out
@[simp] noncomputable def eC(t:T)(_:Env):Ud:=Y (.fr,t)
abbrev Q3(i:Int):Ex:=eC `KE
@[simp] def ab(i:Nat)(U:Env):Ud:=match U[i]? with
 |some `xgD=>Y<|up .pu t
 |some `kw=>Y (.bo,t)
 |_=>M
@[simp] noncomputable def e1(f:Val->Ud)(a:Ex)(U:Env):Ud:=(`Db).bind f
@[simp] noncomputable def e2(f:Val->Val->Ud)(a b:Ex)(U:Env):Ud:=(`Db).bind λx=>(`xfX).bind λy=>f x y
@[simp] noncomputable def ak(_:Env):Option (Ue):=Y []
@[simp] noncomputable def ae(a:Ex)(r:OG)(U:Env):Option (Ue):=(`Db).bind λx=>(r U).bind λb=>Y<|x::b
@[simp] noncomputable def eN(f:Ue->Ud)(a:OG)(U:Env):Ud:=(`Db).bind f
@[simp] def dk:Ue->Md
 |[]=>.fr
 |v::r=>v.1.join<|dk r
@[simp] noncomputable def trees(l:Ue):Uc:=l.map (·.2)
def SN(m:Md)(l:Uc):Ud:=if ⇑l<=gn then Y (if gq l then .fr else m,.lst l) else M
@[simp] def fS(a:OG)(U:Env):Ud:=(`Db).bind λl=>SN `xnM `xje
def zy(l:Ue):Ud:=if ⇑l<=gn then Y `xgG else M
@[simp] def jA(a:OG)(U:Env):Ud:=(`Db).bind zy
def dput(l:`A5)(k v:T):List `xfY:=if l.any (λp=>eqT p.1 k) then l.map (λp=>if eqT p.1 k then (p.1,v) else p) else l++[(k,v)]
noncomputable def iJ:T->Bool
 |.int _=>J
 |.str _=>J
 |_=>B
def keyOk:Nat->T->Bool
 |0,t=>iJ t
 |1,.tup l=>l.all iJ
 |_,_=>B
noncomputable def pairs:List (Ex×Ex)->Env->Option {`xou,Val}
 |[],_=>Y []
 | (a,b)::r,U=>(`Db).bind λx=>(`xfX).bind λy=>(pairs r U).map ((x,y)::·)
def wg(a:Nat)(b:{`xou,Ex})(U:Env):Ud:=(pairs b U).bind λl=>if l.all (λp=>keyOk a p.1.2)/\⇑l<=15 then
 Y (dk<|l.map (·.2),.dct a<|l.foldl (λd p=>dput d p.1.2 p.2.2) []) else M
noncomputable def tru:T->Option Bool
 |.bl b=>Y b
 |.int i=>Y<|i != 0
 |.str s=>Y<|!s.isEmpty
 |.lst l=>Y<|!l.isEmpty
 |.tup l=>Y<|!l.isEmpty
 |.dct 0 l=>Y<|!l.isEmpty
 |.non=>Y B
 |_=>M
@[simp] noncomputable def nr(a b:Ex)(U:Env):Ud:=(`Db).bind λx=>match x.2 with
 |.bl true=>b U
 |.bl false=>Y (.fr,.bl B)
 |_=>M
@[simp] noncomputable def eOr(a b:Ex)(U:Env):Ud:=(`Db).bind λx=>match x.2 with
 |.bl true=>Y (.fr,.bl J)
 |.bl false=>b U
 |_=>M
@[simp] noncomputable def oJ(a:Ex)(U:Env):Ud:=(`Db).bind λx=>match x.2 with
 |.bl b=>Y (.fr,.bl<|!b)
 |_=>M
@[simp] def eIf(c a b:Ex)(U:Env):Ud:=(`xeC).bind λx=>(`xnL).bind λt=>if t then a U else b U
noncomputable def isN:T->Bool
 |.non=>J
 |_=>B
@[simp] def J0(a:Ex)(U:Env):Ud:=(`Db).bind λx=>Y (.fr,.bl<|isN x.2)
@[simp] def gp(a:Ex)(U:Env):Ud:=(`Db).bind λx=>Y (.fr,.bl<|!isN x.2)
@[simp] noncomputable def ju(f g:Val->Val->Ud)(a b c:Ex)(U:Env):Ud:=(`Db).bind λx=>(`xfX).bind λy=>(f x y).bind λr=>match r.2 with
 |.bl true=>(`xeC).bind λz=>g y z
 |.bl false=>Y (.fr,.bl B)
 |_=>M
noncomputable def int?:T->Option Int
 |.int i=>Y i
 |_=>M
def b6:Val->Val->Ud
 | (_,.int i),(_,.int j)=>Y (.fr,.int<|i+j)
 | (_,.str s),(_,.str t)=>if ⇑s+⇑t<=gn then Y (.fr,.str `xnK) else M
 | (m,.lst s),(n,.lst t)=>SN (m.join n) `xnK
 |_,_=>M
noncomputable def yn:Val->Val->Ud
 | (_,.int i),(_,.int j)=>Y (.fr,.int<|i-j)
 |_,_=>M
noncomputable def UT:Int:=4611686018427387904
noncomputable def B64:Int:=18446744073709551616
def m8:Val->Val->Ud
 | (_,.int i),(_,.int j)=>if (-B64<i/\i<B64)\/(-B64<j/\j<B64) then Y (.fr,.int<|i*j) else M
 |_,_=>M
def EI:Val->Val->Ud
 | (_,.str s),(_,.int j)=>if ⇑s*j.toNat<=gn/\-UT<=j/\j<UT then Y (.fr,.str ({`oD,j.toNat,s}).flatten) else M
 |_,_=>M
noncomputable def oE:Val->Val->Ud
 | (_,.int i),(_,.int j)=>if 0<j/\j<1073741824 then Y (.fr,.int<|i/j) else M
 |_,_=>M
noncomputable def oMod:Val->Val->Ud
 | (_,.int i),(_,.int j)=>if 0<j then Y (.fr,.int<|i%j) else M
 |_,_=>M
noncomputable def UL:Tx->Tx->Bool
 |[],[]=>B
 |[],_::_=>J
 |_::_,[]=>B
 |a::d,b::bs=>if a<b then J else if b<a then B else UL d bs
def oLt:Val->Val->Ud
 | (_,.int i),(_,.int j)=>Y (.fr,.bl (decide (i<j)))
 | (_,.str s),(_,.str t)=>Y (.fr,.bl<|UL s t)
 |_,_=>M
def oLe:Val->Val->Ud
 | (_,.int i),(_,.int j)=>Y (.fr,.bl (decide (i<=j)))
 | (_,.str s),(_,.str t)=>Y (.fr,.bl<|!UL t s)
 |_,_=>M
@[simp] def Tv(a b:Val):Ud:=oLt b a
@[simp] def oGe(a b:Val):Ud:=oLe b a
@[simp] def oEq(a b:Val):Ud:=if Pk 60 a.2/\Pk 60 b.2 then Y (.fr,.bl<|eqT a.2 b.2) else M
@[simp] def oNe(a b:Val):Ud:=if Pk 60 a.2/\Pk 60 b.2 then Y (.fr,.bl<|!eqT a.2 b.2) else M
def eU(l:`A5)(k:T):Option T:=({`xdF,l.find?,k}).map (·.2)
noncomputable def Pq(n:Nat)(i:Int):Option Nat:=if 0<=i then (if i<n then Y i.toNat else M) else (if 0<=i+n then Y (i+n).toNat else M)
@[simp] def sub(m:Md)(t:T):Val:=up m t
def aM:Val->Val->Ud
 | (m,.lst l),(_,.int i)=>({`O_,i}).bind λk=>(l[k]?).map<|sub m
 | (m,.tup l),(_,.int i)=>({`O_,i}).bind λk=>(l[k]?).map<|sub m
 | (_,.scr l),(_,.int i)=>({`O_,i}).bind λk=>(l[k]?).map λn=>(.fr,.int n)
 | (_,.str l),(_,.int i)=>({`O_,i}).bind λk=>(l[k]?).map λn=>(.fr,.str [n])
 |_,_=>M
noncomputable def clip(n:Nat)(i:Int):Nat:=if i<0 then (i+n).toNat else min i.toNat n
def cut{α:Type}(l:`ew)(a b:`lc):List α :=
 let lo:=match a with|none=>0|some i=>clip ⇑l i
 let d:=match b with|none=>⇑l|some i=>clip ⇑l i
 (l.drop lo).take (d-lo)
def oSl(v:Val)(a b:`lc):Ud:=match v with
 | (_,.str s)=>Y (.fr,.str<|cut s a b)
 | (m,.lst l)=>SN m<|cut l a b
 |_=>M
@[simp] def sJ(c:`xeg)(U:Env):Option `lc:=match c with
 |none=>Y M
 |some e=>(`xhV).bind λy=>(int? y.2).map Y
@[simp] def eSl(a:Ex)(b d:`xeg)(U:Env):Ud:=(`Db).bind λx=>(sJ b U).bind λl=>(sJ d U).bind λh=>oSl x l h
noncomputable def NX:T->Option Nat
 |.lst l=>Y ⇑l
 |.tup l=>Y ⇑l
 |.str l=>Y ⇑l
 |.scr l=>Y ⇑l
 |.dct 0 l=>Y ⇑l
 |_=>M
@[simp] def cn:Ue->Ud
 |[x]=>(NX x.2).map λn=>(.fr,.int n)
 |_=>M
noncomputable def xJ:Uc->Option (Ui)
 |[]=>Y []
 |.int i::r=>(xJ r).map (i::·)
 |_=>M
noncomputable def strs?:Uc->Option `cr
 |[]=>Y []
 |.str i::r=>(strs? r).map (i::·)
 |_=>M
def FK:Ue->Ud
 |[(_,.lst l)]=>(xJ l).bind λa=>Y (.fr,.int a.sum)
 |_=>M
def LZ:Ue->Ud
 |[(m,.lst l)]=>SN m l
 |[(m,.tup l)]=>SN m l
 |_=>M
def mZ:Ue->Ud
 |[(m,.lst l)]=>if ⇑l<=gn then Y (up m<|.tup l) else M
 |_=>M
def sI(x:Tx):List Tx->List Tx
 |[]=>[x]
 |y::r=>if UL y x then y::sI x r else x::y::r
def jh(l:`cr):List Tx:=l.foldr sI []
inductive Ty where|int|str|bool|list|tuple|dict
noncomputable def vU:Ty->T->Bool
 |.int,.int _=>J
 |.int,.bl _=>J
 |.bool,.bl _=>J
 |.str,.str _=>J
 |.list,.lst _=>J
 |.tuple,.tup _=>J
 |.dict,.dct _ _=>J
 |_,_=>B
noncomputable def AN:T->Bool
 |.obj _ _=>B
 |.scr _=>B
 |.dct 0 _=>J
 |.dct 1 _=>J
 |.dct _ _=>B
 |_=>J
@[simp] def eIs(t:Ty)(a:Ex)(U:Env):Ud:=(`Db).bind λx=>if AN x.2 then Y (.fr,.bl<|vU t x.2) else M
noncomputable def total:List Tx->Nat
 |[]=>0
 |x::r=>⇑x+total r
noncomputable def dW(a:Tx):List Tx->Tx
 |[]=>[]
 |[x]=>x
 |x::r=>x++a++dW a r
@[simp] noncomputable def eM(f:Val->Ue->Ud)(o:Ex)(b:OG)(U:Env):Ud:=(o U).bind λx=>(`xfX).bind λa=>f x a
noncomputable abbrev Fn:=Uc->Ud
@[simp] def bu(g:Fn)(b:OG)(U:Env):Ud:=(`xfX).bind λa=>(g `xaz).bind λr=>match r with
 | (.fr,t)=>Y (.fr,t)
 | (_,t)=>Y ((Md.pu).join<|dk a,t)
abbrev SH:=Env->Option `xft
noncomputable def N3:Val->Option `xft
 | (m,.lst l)=>Y (m,l)
 | (m,.tup l)=>Y (m,l)
 | (_,.str l)=>Y (.fr,l.map λc=>.str [c])
 |_=>M
@[simp] def iK(a:Ex)(U:Env):Option `xft:=(`Db).bind N3
noncomputable def rng(a:Int)(n:Nat):Uc:=({`m_,n}).map λ(k:Nat)=>T.int<|a+k
def iH(a:Ex)(U:Env):Option `xft:=(`Db).bind λx=>(int? x.2).bind λj=>if -UT<=j/\j<UT then Y (.fr,rng 0 j.toNat) else M
def uq(a b:Ex)(U:Env):Option `xft:=(`Db).bind λx=>(`xfX).bind λy=>(int? x.2).bind λi=>(int? y.2).bind λj =>
 if (-UT<=i/\i<UT)/\-UT<=j/\j<UT then Y (.fr,rng i (j-i).toNat) else M
noncomputable def iy(k:Nat):Uc->Uc
 |[]=>[]
 |t::r=>.tup [.int k,t]::iy `T5 r
def LH:Val->Option `xft
 | (m,.lst l)=>Y (m,iy 0 l)
 |_=>M
@[simp] def An(a:Ex)(U:Env):Option `xft:=(`Db).bind LH
abbrev Tg:=T->Env->Option Env
@[simp] noncomputable def bC(i:Nat)(t:T)(U:Env):Option Env:=if i<⇑U then Y {`mz,.pu t} else M
noncomputable def Dt:List Tg->Uc->Env->Option Env
 |[],[],U=>Y U
 |g::b,t::a,U=>(g t U).bind λd=>Dt b a d
 |_,_,_=>M
@[simp] def l9(a:`xkd)(t:T)(U:Env):Option Env:=match t with
 |.tup l=>Dt a l U
 |_=>M
@[simp] def okI(m:Md)(l:Uc):Bool:=match m with
 |.bo=>gq l
 |_=>J
def qH(e:Tg)(a:`xeg)(d:Ex)(U:Env):Uc->Option (Ue)
 |[]=>Y []
 |t::r=>(e t U).bind λf=>(match a with|none=>some true|some c=>(c f).bind λx=>tru x.2).bind λb =>
  if b then (`xlM).bind λv=>(qH e a d U r).map (v::·) else qH e a d U r
def gE(k:Nat)(e:Tg)(f:SH)(a:`xeg)(b:Ex)(U:Env):Ud:=(f U).bind λ(m,l)=>if okI m l then
 (qH e a b `k5 l).bind λd=>SN (dk d) `xnJ else M
@[simp] noncomputable def eR(U:Env):Option Out:=Y `xgC
@[simp] noncomputable def aq(a b:Sx)(U:Env):Option Out:=(`Db).bind λo=>match o with
 |.nx d=>b d
 |o=>Y o
@[simp] def j4(i:Nat)(e:Ex)(U:Env):Option Out:=(`xhV).bind λv=>(cellOf v).bind λc=>if i<⇑U then Y (.nx {`mz,c}) else M
@[simp] noncomputable def aY(i:Nat)(e:Ex)(U:Env):Option Out:=(`xhV).bind λv=>match v.1 with
 |.bo=>M
 |_=>if i<⇑U then Y (.nx {`mz,.pu v.2}) else M
@[simp] noncomputable def fT(e:Ex)(U:Env):Option Out:=(`xhV).bind λv=>Y<|.rt (match v.1 with|.bo=>.pu|m=>m,v.2) U
@[simp] def fE(i:Nat)(U:Env):Option Out:=match U[i]? with
 |some `kw=>Y<|.rt (.fr,t) `xay
 |some `xgD=>Y<|.rt (up .pu t) U
 |_=>M
@[simp] def P6(c:Ex)(a b:Sx)(U:Env):Option Out:=(`xeC).bind λx=>(`xnL).bind λt=>if t then a U else b U
noncomputable def forL(d:Tg)(a:Sx):Uc->Env->Option Out
 |[],U=>Y `xgC
 |t::r,U=>(d t U).bind λe=>(a e).bind λo=>match o with
  |.nx b=>forL d a r b
  |.ct b=>forL d a r b
  |.bk b=>Y<|.nx b
  |.rt v b=>Y<|.rt v b
@[simp] noncomputable def okF:Md->Bool
 |.bo=>B
 |_=>J
@[simp] def jg(b:Tg)(d:SH)(a:Sx)(U:Env):Option Out:=(d U).bind λ(m,l)=>if okF m then forL b a l U else M
def dc(c:Ex)(a:Sx):Nat->Env->Option Out
 |0,_=>M
 |n+1,U=>(`xeC).bind λx=>(`xnL).bind λt=>if t then (`Db).bind λo=>match o with
  |.nx b=>dc c a n b
  |.ct b=>dc c a n b
  |.bk b=>Y<|.nx b
  |.rt v b=>Y (.rt v b)
  else Y `xgC
noncomputable def HS:Nat:=1000000
def jO(c:Ex)(a:Sx)(U:Env):Option Out:=dc c a HS U
@[simp] noncomputable def wV(i:Nat)(U:Env):Option Out:=match U[i]? with
 |some `kw=>Y `xlL
 |some (some<|.pu _)=>Y `xgC
 |_=>M
inductive SF where|fld (k:Nat)|ix (e:Ex)|un
inductive Ky where|fld (k:Nat)|at (t:T)|un
def keys:List SF->Env->Option `T4
 |[],_=>Y []
 |.fld k::r,U=>(`xlK).map (.fld k::·)
 |.ix e::r,U=>(`xhV).bind λx=>(`xlK).map (.at x.2::·)
 |.un::r,U=>(`xlK).map (.un::·)
noncomputable def NW(a:`xnO)(k:Nat):Option T:=a.lookup k
noncomputable def Oa(a:`xnO)(k:Nat)(v:T):List `xaa:=if a.any {`xox,k} then a.map (λp=>if p.1==k then (p.1,v) else p) else a++[(k,v)]
def Ie{α:Type}(f:{`Sn,T,α}):List Ky->T->Option (T×α)
 |[],t=>f t
 |.fld k::r,.obj c fs=>(NW fs k).bind λx=>(`xlJ).map λ(y,a)=>(.obj c<|Oa fs k y,a)
 |.at `KE::r,.lst l=>({`O_,i}).bind λj=>(l[j]?).bind λx=>(`xlJ).map λ(y,a)=>(.lst<|l.set j y,a)
 |.at k::r,.dct d l=>(eU l k).bind λx=>(`xlJ).map λ(y,a)=>(.dct d<|dput l k y,a)
 |_,_=>M
abbrev Xx:=Env->Option `xlI
@[simp] noncomputable def xP(e:Ex)(U:Env):Option `xlI:=(`xhV).map λv=>(v,U)
@[simp] def rV(i:Nat)(a:`xfa)(f:T->Ue->Option `xge)(g:OG)(U:Env):Option `xlI:=match U[i]? with
 |some `kw=>(`xfN).bind λe=>(g U).bind λb=>(Ie (λx=>f x b) e t).map λ(d,v)=>(v,U.set i<|Y<|.ow d)
 |_=>M
@[simp] noncomputable def fit(v:Val):Option T:=match v.1 with
 |.fr=>Y v.2
 |_=>M
def aP:T->Ue->Option `xge
 |.lst l,[v]=>(fit v).bind λt=>if ⇑l<gn then Y (.lst<|l++[t],(.fr,.non)) else M
 |_,_=>M
@[simp] noncomputable def sX(x:Xx)(U:Env):Option Out:=(`xfM).map λr=>.nx r.2
@[simp] noncomputable def fn(d e:Nat)(a:Sx):Fn:=λb=>if ⇑b=d then
 (a {`o_,b.map,e-d}).bind λo=>match o with
  |.rt v _=>Y v
  |.nx _=>Y (.fr,.non)
  |_=>M else M
def jZ{s t:Tx}(h:⇑s+⇑t<=16777216):b6 (m,.str s) (n,.str t)=Y (.fr,.str `xnK):=Zp h
def lW{i j:Int}(h:-18446744073709551616<i/\i<18446744073709551616):m8 (m,.int i) (n,.int j)=Y (.fr,.int<|i*j):=Zp `xfs
def mV{i j:Int}(h:0<j/\j<1073741824):oE (m,.int i) (n,.int j)=Y (.fr,.int<|i/j):=Zp h
def gM{i j:Int}(h:0<j):oMod (m,.int i) (n,.int j)=Y (.fr,.int<|i%j):=Zp h
def eI{l:Uc}(h:{`xca,⇑l}):aP `xea [(.fr,t)]=Y (.lst<|l++[t],(.fr,.non)):=by
 calc Zp h
def jq{m:Md}{j:Int}(e:a U=Y (m,.int j))(h:-4611686018427387904<=j/\j<4611686018427387904):iH a U=Y (.fr,rng 0 j.toNat):=by
 show (`Db).bind _=_;rw[e];calc Zp h
def yo{l:Uc}(h:`WP):SN m l=Y (if gq l then .fr else m,.lst l):=Zp h
def cQ{b:Tg}{r:Uc}{U1:Env}(f:b t U=Y U1)(e:a U1=Y (.nx d)):forL b a `xkK U=forL b a r d:=by
 show (b t U).bind _=_;rw[f,Zw,e];rfl
def Hq(g:b t U=Y e)(f:a e=Y `xjc):forL b a `xkK U=Y `xjc:=by
 show (b t U).bind _=_;rw[g,Zw,f];rfl
theorem strs_map{α:Type}(f:α->Tx):∀l:List α,strs? (l.map λx=>T.str<|f x)=Y `C_
 |[]=>rfl
 |a::r=>ZF (Option.map (f a::·))<|strs_map f r
theorem ints_map{α:Type}(f:α->Int):∀l:List α,xJ (l.map λx=>T.int<|f x)=Y `C_
 |[]=>rfl
 |a::r=>ZF (Option.map (f a::·))<|ints_map f r
theorem pS:∀a:List Tx,dW [] a=a.flatten
 |[]=>rfl
 |[x]=>(ZO x).symm
 |x::y::r=>by
  show x++[]++dW [] (y::r)=_;rw[ZO,pS<|y::r];rfl
theorem qD:∀a:List Tx,total a=⇑a.flatten
 |[]=>rfl
 |x::r=>by simp[total,qD r]
def gP{α:Type}(l:`ew):(l.map λx=>[x]).flatten=l:=by
 induction l with
 |nil=>rfl
 |cons a r b=>rw[Zh,Xi,b];rfl
def lY(n:Nat):rng 0 n=({`m_,n}).map λ(k:Nat)=>T.int (k:Int):=by
 unfold rng;simp
theorem mW{α:Type}(f:`xjb)(h:∀x,Ol (f x)=J):∀l:List α,gq `C_=J
 |[]=>rfl
 |a::r=>Zd.mpr {h a,mW f h r}
theorem nW{α:Type}(g:`xjb)(f:α->Val):∀l:List α,(∀a∈l,∃e,i (g a) U=Y e/\d e=Y (f a))->qH i M d U `xja=Y `C_
 |[],_=>rfl
 |a::r,h=>by
  exists h a Zv,e,m,j;simp[qH,m,j,nW g f r λb hb=>h b<|Zs _ hb]
theorem vV{α:Type}(f:`xjb):∀l:List α,dk (l.map λa=>(Md.fr,f a))=.fr
 |[]=>rfl
 |a::r=>ZF (Md.join .fr)<|vV f r
def sM{α:Type}(f:α->Val)(l:`ew):trees `C_=l.map λa=>(f a).2:=by simp
def gU{α:Type}{k:Nat}{tg:Tg}{it:SH}{elt:Ex}{U:Env}{m:Md}(g:`xjb)(f:`xjb)(l:`ew)(i:it U=Y (m,l.map g))(e:okI m `xja=J)(d:`WP)(h:∀a∈l,∃b,tg (g a) `k5=Y b/\elt b=Y (.fr,f a)):gE k tg it M elt U=Y (.fr,.lst `C_):=by
 simp only[gE,i,Zw];rw[Zp e,nW g (λa=>(Md.fr,f a)) l h];simp only[Zw,vV,sM];rw[yo (by rw[Zu];calc d)];simp
def xS{l:Ue}(h:`WP):zy l=Y `xgG:=Zp h
noncomputable def S4:Option (Ug)->Option T
 |some `kw=>Y t
 |_=>M
def eu(h:S4 c=Y t):c=Y `vz:=by
 obtain _|_|c:=c
 .cases h
 .cases h
 .cases c with
  |ow u=>calc Om h ▸ rfl
  |_=>cases h
noncomputable def puT:Option (Ug)->Option T
 |some `xgD=>Y t
 |_=>M
def FJ(h:puT c=Y t):c=Y (Y `xae):=by
 obtain _|_|c:=c
 .cases h
 .cases h
 .cases c with
  |pu u=>calc Om h ▸ rfl
  |_=>cases h
noncomputable def dcT(k:Nat):T->Option `A5
 |.dct j l=>if j=k then Y l else M
 |_=>M
def uH(h:dcT k t=Y l):t=.dct k l:=by
 cases t with
 |dct j m =>
  by_cases e:j=k
  .subst e;exact Om ((Zp L).symm.trans h) ▸ rfl
  .exact nomatch (Zn e).symm.trans h
 |_=>cases h
noncomputable def lsT:T->Option (Uc)
 |.lst l=>Y l
 |_=>M
def kM(h:lsT t=Y l):t=.lst l:=by
 cases t with
 |lst m=>calc Om h ▸ rfl
 |_=>cases h
noncomputable def tpT:T->Option (Uc)
 |.tup l=>Y l
 |_=>M
def Ih(h:tpT t=Y l):t=.tup l:=by
 cases t with
 |tup m=>calc Om h ▸ rfl
 |_=>cases h
noncomputable def v1:Ue->Option T
 |[x]=>Y x.2
 |_=>M
def xZ(h:v1 l=Y t):∃m,l=[(m,t)]:=by
 rcases l with _|⟨x,_|⟨y,l⟩⟩
 .cases h
 .exact{x.1,Om h ▸ rfl}
 .cases h
def RE(c:`xax):Option `A5:=(S4 c).bind<|dcT 0
def pu3(c:`xax):Option `A5:=(puT c).bind<|dcT 3
def pu0(c:`xax):Option `A5:=(puT c).bind<|dcT 0
def owL(c:`xax):Option (Uc):=(S4 c).bind lsT
def v1L(l:Ue):Option (Uc):=(v1 l).bind lsT
def v1D(l:Ue):Option `A5:=(v1 l).bind<|dcT 0
def v1P(l:Ue):Option (Uc):=(v1 l).bind tpT
def vi(h:RE c=Y l):c=Y {`sn,.dct 0 l}:=by
 exists Zz.mp h,t,b,a;calc uH a ▸ eu b
def GY(h:pu3 c=Y l):c=Y (Y<|.pu<|.dct 3 l):=by
 exists Zz.mp h,t,b,a;calc uH a ▸ FJ b
def Al(h:owL c=Y l):c=Y {`sn,.lst l}:=by
 exists Zz.mp h,t,b,a;calc kM a ▸ eu b
def oT(h:v1L c=Y l):∃m,c=[(m,.lst l)]:=by
 exists Zz.mp h,t,b,a;calc kM a ▸ xZ b
def AO(h:v1D c=Y l):∃m,c=[(m,.dct 0 l)]:=by
 exists Zz.mp h,t,b,a;calc uH a ▸ xZ b
def Hh(h:v1P c=Y l):∃m,c=[(m,.tup l)]:=by
 exists Zz.mp h,t,b,a;calc Ih a ▸ xZ b
noncomputable def FE:Md->Bool
 |.fr=>J
 |_=>B
def wM(h:FE m=J):m=.fr:=by
 cases m with
 |fr=>rfl
 |_=>cases h
noncomputable def itT:T->Option Int
 |.int i=>Y i
 |_=>M
def uU{i:Int}(h:itT t=Y i):t=.int i:=by
 cases t with
 |int m=>calc Om h ▸ rfl
 |_=>cases h
noncomputable def txT:T->Option Tx
 |.str s=>Y s
 |_=>M
def u4(h:txT t=Y s):t=.str s:=by
 cases t with
 |str m=>calc Om h ▸ rfl
 |_=>cases h
def zF{c:`xax}(h:c.bind id=Y d):c=Y (Y d):=by
 cases c with
 |none=>cases h
 |some c=>calc ZF Y h
def pY(x:Val)(v:Ue):Ud:=(txT x.2).bind λsep=>(v1L v).bind λl=>(`xnI).bind λa=>if total a+⇑a*⇑sep<=gn then Y (.fr,.str<|dW sep a) else M
def sZ{m n:Md}(e:strs? l=Y a)(b:⇑a.flatten<=16777216):pY (m,.str []) [(n,.lst l)]=Y (.fr,.str a.flatten):=by
 show (`xnI).bind _=_;rw[e,Zw,pS];calc Zp ?_;rw[qD];show _<=16777216;simpa using b
def ob0:T->Option (Nat×Bool×List `xaa)
 |.obj c ((0,.bl b)::fs)=>Y (c,b,fs)
 |_=>M
def zK(h:ob0 t=Y z):t=.obj z.1 ((0,.bl z.2.1)::z.2.2):=by
 cases t with
 |obj c l =>
  rcases l with _|⟨⟨n,u⟩,fs⟩
  .cases h
  .cases n with
   |zero =>
    cases u with
    |bl b=>calc Om h ▸ rfl
    |_=>cases h
   |succ n=>cases u with|_=>cases h
 |_=>cases h
def ob1:T->Option (Nat×`xaa×List `xaa)
 |.obj c `xnH=>Y (c,q,fs)
 |_=>M
def AG(h:ob1 t=Y z):t=.obj z.1 `xmk:=by
 cases t with
 |obj c l =>
  cases l with
  |nil=>cases h
  |cons q fs=>calc Om h ▸ rfl
 |_=>cases h
noncomputable def tp2:T->Option `xfY
 |.tup [k,v]=>Y (k,v)
 |_=>M
def FO(h:tp2 t=Y z):t=.tup [z.1,z.2]:=by
 cases t with
 |tup l =>
  rcases l with _|⟨a,_|⟨b,_|⟨c,l⟩⟩⟩
  .cases h
  .cases h
  .exact Om h ▸ rfl
  .cases h
 |_=>cases h
noncomputable def sc1:Uc->Option (Ui)
 |[.scr l]=>Y l
 |_=>M
def GQ(h:sc1 l=Y z):l=[.scr z]:=by
 rcases l with _|⟨a,_|⟨b,l⟩⟩
 .cases h
 .cases a with
  |scr n=>calc Om h ▸ rfl
  |_=>cases h
 .cases a with|_=>cases h
end VS
namespace L2
noncomputable abbrev Key:=Sum Int Str
def oq:Key->Re->Bool
 |.inl k,v=>Value.isInt k v
 |.inr x,v=>Value.isStrOf x v
noncomputable def Nc(w:XAE):Key->Int
 |.inl k=>hashInt k
 |.inr x=>hashStr w x
theorem bS:∀{k:Key}{v:Re},oq k v=J->(∃i t,k=Sum.inl i/\v=Value.int i t)\/(∃x t,k=Sum.inr x/\v=Value.str x t)
 |.inl i,v,h=>by
  exists Value.isInt_shape (k:=i) (v:=v) h,t,e;calc .inl {i,t,rfl,(e)}
 |.inr x,v,h=>by
  exists Value.isStrOf_shape (x:=x) (v:=v) h,t,e;calc .inr {x,t,rfl,(e)}
def BK(i:Int)(t:Tok):oq (.inl i) `xhn=J:=by simp[oq,Value.isInt]
def By(x:Str)(t:Tok):oq (.inr x) (.str x t)=J:=by simp[oq,Value.isStrOf]
def Jq(a b:Int):decide ((Sum.inl a:Key)=Sum.inl b)=(a==b):=by
 grind
def JN(a b:Str):decide ((Sum.inr a:Key)=Sum.inr b)=decide (a=b):=by
 grind
def K1(a:Int)(b:Str):decide ((Sum.inl a:Key)=Sum.inr b)=B:=ZP (λq=>nomatch q)
def Ku(a:Str)(b:Int):decide ((Sum.inr a:Key)=Sum.inl b)=B:=ZP (λq=>nomatch q)
def aV(d:UF)(w:XAE):PySem.KeyKind d w Key where
 is:=oq
 hash:=Nc w
 inj:=λv a b l hb=>by
  rcases bS l with⟨i,t,rfl,rfl⟩|⟨x,t,rfl,rfl⟩
  .rcases bS hb with⟨j,u,rfl,e⟩|⟨y,u,rfl,e⟩
   .injection e with e1 _;rw[e1]
   .exact nomatch e
  .rcases bS hb with⟨j,u,rfl,e⟩|⟨y,u,rfl,e⟩
   .exact nomatch e
   .injection e with e1 _;rw[e1]
 byValue:=λk v h=>by
  rcases bS h with⟨i,t,rfl,rfl⟩|⟨x,t,rfl,rfl⟩<;>rfl
 pyHash:=λf h=>by
  rcases bS f with⟨i,t,rfl,rfl⟩|⟨x,t,rfl,rfl⟩
  .exact wpAny_pyHash_int h
  .exact wpAny_pyHash_str h
 eqBool:=λg f h=>by
  rcases bS g with⟨i,t,rfl,rfl⟩|⟨x,t,rfl,rfl⟩
  .rcases bS f with⟨j,u,rfl,rfl⟩|⟨y,u,rfl,rfl⟩
   .rw[Jq]at h;exact wpAny_eqBool_int h
   .rw[K1]at h;exact SeqAt.EqAt.int_str i t y u _ _ _ _ h
  .rcases bS f with⟨j,u,rfl,rfl⟩|⟨y,u,rfl,rfl⟩
   .rw[Ku]at h;exact SeqAt.EqAt.str_int x t j u _ _ _ _ h
   .rw[JN]at h;exact wpAny_eqBool_str h
 «strs» := λk x t v h=>by
  rcases bS h with⟨i,u,rfl,e⟩|⟨y,u,rfl,e⟩
  .exact nomatch e
  .injection e with e1 _
   subst e1;cases v<;>rfl
def xK(a:UF)(w:XAE)(i:Int)(t:Tok):(aV a w).is (.inl i) `xhn=J:=BK i t
def wQ(a:UF)(w:XAE)(x:Str)(t:Tok):(aV a w).is (.inr x) (.str x t)=J:=By x t
inductive V where
 |non|bl (b:Bool)|int (i:Int)|str (x:Str)|byt (b:Array UInt8)|flt (b:UInt64)|ref (a:Pv)|ty (n:String)
 deriving DecidableEq
noncomputable def RelV:V->Re->Prop
 |.non,u=>u=Value.none
 |.bl b,u=>u=Value.bool b
 |.int i,u=>∃t,u=Value.int i t
 |.str x,u=>∃t,u=Value.str x t
 |.byt b,u=>∃t,u=Value.bytes b t
 |.flt b,u=>∃t,u=Value.float b t
 |.ref a,u=>u=Value.ref a
 |.ty n,u=>u=Value.type n
abbrev aS:List V->Vq->Prop:=Paired RelV
theorem aS.length{b:Vq}(r:aS a b):⇑a=⇑b:=Wb r
theorem aS.get:∀{a:`cg}{b:Vq}{i:Nat}{x:V},aS a b->a[i]?=Y x->∃u,b[i]?=Y u/\RelV x u
 |_,_,_,_,.nil,e=>by simp at e
 |_,_,0,_,.cons r _,e=>by simp_all
 |_,_,i+1,x,.cons _ t,e=>by
  exists aS.get (i:=i) (x:=x) t (by simpa using e),u,f,d
  simp_all
theorem aS.set(r:`xkJ):∀{a:`cg}{b:Vq}(i:Nat),aS a b->aS (a.set i x) (b.set i u)
 |_,_,_,.nil=>.nil
 |_,_,0,.cons _ t=>.cons r t
 |_,_,i+1,.cons q t=>.cons q<|aS.set r i t
def aS.append:∀{b a:`cg}{e d:Vq},aS b e->aS a d->aS (b++a) (e++d):=by
 intro b a e d r s
 induction r with
 |nil=>calc s
 |cons r _ f=>calc .cons r f
theorem aS.take:∀{a:`cg}{b:Vq}(n:Nat),aS a b->aS (a.take n) (b.take n)
 |_,_,0,_=>.nil
 |_,_,_+1,.nil=>.nil
 |_,_,n+1,.cons r t=>.cons r<|aS.take n t
theorem aS.drop:∀{a:`cg}{b:Vq}(n:Nat),aS a b->aS (a.drop n) (b.drop n)
 |_,_,0,r=>r
 |_,_,_+1,.nil=>.nil
 |_,_,n+1,.cons _ t=>aS.drop n t
def aS.none_of:∀{a:`cg}{b:Vq}{i:Nat},aS a b->a[i]?=M->b[i]?=M:=λ{a b i} r e=>by
 have d:=⇑r
 simp_all
def j3:Option V->Ve->Prop
 |some v,some u=>RelV v u
 |none,none=>True
 |_,_=>False
def KV{κ:Type}:List (κ×V)->List (κ×Re)->Prop:=Paired λ(p:κ×V) (q:κ×Re)=>p.1=q.1/\RelV p.2 q.2
noncomputable def kV:Key->V
 |.inl i=>.int i
 |.inr x=>.str x
inductive HO where
 |lst (xs:`cg)
 |tup (xs:`cg)
 |dK (cp:{`n7,V})|dT (cp:List `xfL)
 |set (S:Int->Bool) (n:Nat)
 |ins (C dx:Pv) (fs:{`wP,V})
 |own (x:Pv)
 |xd (fs:{`wP,V})
 |met (f x:Pv)
 |rng (lo hi:Int)
 |frz (o:Obj) (u:HO)
 |tbl (q:Str)
 |ext (φ:XAE->XAD->Prop)
noncomputable abbrev Hp:=Pv->Option HO
noncomputable def upd(H:Hp)(a:Pv)(o:HO):Hp:=λb=>if b=a then Y o else H b
def av{H:Hp}:upd H a o a=Y o:=by unfold upd;rw[Zp L]
def aE(h:b≠a):upd H a o b=H b:=by unfold upd;rw[Zn h]
def GR:upd `Z4 a u=upd H a u:=by
 funext b;unfold upd;split<;>rfl
def Mo{H:Hp}{a b:Pv}{o u:HO}(h:`xkc)(e:H b=Y u)(d:o≠u):a≠b:=by
 grind
def cV{H:Hp}{a b:Pv}{o:HO}(h:`xkc)(d:H b=M):a≠b:=by
 grind
noncomputable def NoD(h:XAD)(a:Pv):Prop:=∀o,h.get? a=Y o->o.dict=M
def NoD.new(h:XAD)(a:`xkI):NoD (h.push { cls:=.type "tuple",data:=.seq a }) h.objs.size:=λo e=>by
 rw[ZZ _ L]at e;obtain rfl:=Om e;rfl
def NoD.of{h:XAD}(e:h.get? a=Y o)(d:o.dict=M):NoD h a:=λb f=>by
 grind
section
variable(P:UF)(w:XAE)
def dF(H:Hp)(h:XAD)(a:Pv):HO->Prop
 |.lst b=>⇑b<=Pi/\∃(i:Vq)(n:Nat),aS b i/\h.get? a=Y { cls:=.type "list",data:=.seq i.toArray n }
 |.tup b=>⇑b<=Pi/\∃i:Vq,aS b i/\NoD h a/\IsTup h a i.toArray
 |.dK g=>⇑g<=Pi/\`vx=B/\∃e,KV g e/\h.DictOf `xdZ a e
 |.dT g=>⇑g<=Pi/\`vx=B/\∃b:List (List Key×Pv×Re),
   Paired (λ(p:`xfL) (q:List Key×Pv×Re)=>p.1=q.1/\H q.2.1=Y {`xbE,p.1.map kV}/\RelV p.2 q.2.2) g b ∧
   ∃o r z,h.get? a=Y o/\o.ExactDict/\o.data=.dict r z/\r.toList=b.map (entryOfKey `J_)/\(b.map (·.1)).Nodup
 |.set S n=>h.SetOf (intKind P w) a S n
 |.ins C j fs=>H j=Y `xgd/\⇑fs<=1000/\j≠a/\h.get? a=Y {`LE,j} ∧
   ∃d,h.Ns1 j d/\(∀f,j3 `xhU `xlM)/\PySem.Within d (fs.map (·.1))
 |.own _=>∃o,h.get? a=Y o
 |.xd fs=>∃d,h.Ns1 a d/\∀f,j3 `xhU `xlM
 |.rng lo s=>∃t u v,h.get? a=Y { cls:=.type "range",data:=.fields #[.int lo t,.int s u,.int 1 v] }
 |.frz o u=>h.get? a=Y o/\dF H h a u
 |.tbl q=>∃ps,h.get? a=Y { cls:=.none,data:=.fields ps }/\TriplesOk ps.toList/\∀pos v,codeAmong pos ps.toList=Y v->∃c o y e t,v=.ref c/\H c=Y {`xbF,.own y}/\o.data=.fields e/\e[1]?=Y (.str q t)
 |.met f x=>h.get? a=Y (PySem.W.methodObj `dt `xkH)
 |.ext φ=>φ w h/\(∃o,h.get? a=Y o)/\∀m l:XAD,φ w m->(∀o,m.get? a=Y o->l.get? a=Y o)->φ w l
def PZ(H:Hp)(h:XAD):Prop:=∀a o,H a=Y o->dF P w H h a o
end
section
variable{H:Hp}
theorem dF.lt(x:`xoq):a<h.objs.size:=by
 cases o with
 |lst b=>ext x _ _ _ _ e;calc Zb e
 |tup b=>ext x _ _ _ _ p;calc p.lt
 |dK d=>ext x _ _ _ _ o _ _ e _;calc Zb e
 |dT d=>calc TY x λ_ _=>RB λ_=>Pc λ_=>UX λo _ _=>Pc λe _=>?_;calc Zb e
 |set S n=>calc Oj x λo _ _ _=>Pc λe _=>?_;calc Zb e
 |ins C j fs=>calc TX x λ_ _ _ e _=>?_;calc Zb e
 |own y=>ext x _ e;calc Zb e
 |xd fs=>ext x _ ⟨_,_,_,e,_⟩ _;calc Zb e
 |rng lo i=>ext x _ _ _ e;calc Zb e
 |frz g u=>ext x e _;calc Zb e
 |tbl q=>ext x _ e _;calc Zb e
 |met f y=>calc Zb<|x
 |ext φ=>ext x _ ⟨_,e⟩ _;calc Zb e
def Paired.mapP{α β:Type}{F G:α->β->Prop}:∀{e:`ew}{d:`xfK},Paired F e d->(∀a b,F a b->G a b)->Paired G e d:=by
 intro e d r f
 induction r with
 |nil=>calc .nil
 |cons r _ g=>calc .cons (f _ _ r) g
def dF.T6{h':XAD}(x:`xoq)(k:∀b u,(b=a\/H b=Y `xgd)->h.get? b=Y u->h'.get? b=Y u)(G:∀b,H b=Y `xgd->H' b=Y `xgd)(F:∀b l,H b=Y (.tup l)->H' b=Y (.tup l))(N:∀b o y,H b=Y {`xbF,.own y}->H' b=Y {`xbF,.own y}):dF P w H' h' a o:=by
 induction o with
 |lst l=>ext x z Q n r e;exact⟨z,Pd _ n {r,k _ _ `v4 e}⟩
 |tup l=>ext x z Q r nd g e c;exact{z,_,r,NoD.of (k _ _ `v4 e)<|nd _ e,g,k _ _ `v4 e,c}
 |dK O=>ext x z y m r g i j e c;exact⟨z,y,m,r,Ow g i j {k _ _ `v4 e,c}⟩
 |dT O =>
  calc TY x λz y=>RB λl=>Pc λr=>UX λg i j=>Pc λe c=>?_;exact⟨z,y,l,Paired.mapP r λp q z=>{z.1,F _ _ z.2.1,z.2.2},Ow g i j {k _ _ `v4 e,c}⟩
 |set S n=>calc Oj x λg i j t=>Pc λe c=>?_;calc Oe g i j t {k _ _ `v4 e,c}
 |ins C U fs =>
  ext x d z ne e A ⟨s,i,j,e2,c⟩ r;exact{G _ d,z,ne,k _ _ `v4 e,A,Ow s i j {k _ _ (.inr d) e2,c},r}
 |own y=>ext x g e;exact{g,k _ _ `v4 e}
 |xd fs=>ext x A ⟨s,i,j,e,c⟩ r;exact{A,Ow s i j {k _ _ `v4 e,c},r}
 |rng lo R=>ext x t u v e;calc Ow t u v<|k _ _ `v4 e
 |frz g u E=>ext x e q;exact{k _ _ `v4 e,E q}
 |tbl q =>
  ext x ps e e1 e2;refine{ps,k a _ `v4 e,e1,λpos v r=>?_};calc xE5 (e2 _ v r) λc o y m t=>oe λr1 r2 D=>?_;calc PM c o y m t {r1,N _ _ _ r2,D}
 |met f y =>
  calc k a _ `v4 x
 |ext φ=>ext x p ⟨o,e⟩ st;exact{st _ _ p λo q=>k _ _ `v4 q,{o,k _ _ `v4 e},st}
theorem PZ.lt(x:`v_)(e:`xkc):a<h.objs.size:=(x a o e).lt
def PZ.fresh(x:`v_)(e:`xgQ):H a=M:=by
 cases q:H a with
 |none=>rfl
 |some u=>calc absurd (Zk (x.lt q) e)<|Yl _
def PZ.kept{h':XAD}(x:`v_)(k:∀b u,h.get? b=Y u->h'.get? b=Y u):PZ P w H h':=λa o e =>
 (x a o e).T6 (λb u _ q=>k b u q) (λ_ q=>q) (λ_ _ q=>q) λ_ _ _ q=>q
def PZ.laid{h':XAD}(x:`v_)(k:∀b u,h.get? b=Y u->h'.get? b=Y u)(g:`xgQ)(d:dF P w `Z4 h' a o):PZ P w `Z4 h':=λb u e=>by
 have f:=x.fresh g;by_cases hb:b=a
 .subst hb;rw[av]at e;obtain rfl:=Om e;exact d
 .rw[aE hb]at e;exact(x b u e).T6 (λc v _ q=>k c v q) (λc q=>by rw[aE<|cV q f];calc q) (λc i q=>by rw[aE<|cV q f];calc q) λc _ _ q=>by rw[aE<|cV q f];calc q
end
noncomputable def Rd(H:Hp)(a:Pv)(u:HO):Prop:=H a=Y u\/∃o,H a=Y `xef
def Rd.ok(r:Rd H a u)(x:`v_):dF P w H h a u:=by
 rcases r with r|⟨o,r⟩
 .exact x a u r
 .exists x a _ r,_,q;calc q
noncomputable def Oy:Option HO->Prop
 |some (.lst _)=>True
 |some (.dK _)=>True
 |some (.dT _)=>True
 |some (.set _ _)=>True
 |some (.ins _ _ _)=>True
 |some (.ext _)=>True
 |_=>False
section
variable{H:Hp}
def PZ.write{h':XAD}(l:`v_)(a:Oy<|H x)(he:e=x\/H e=Y `xhT)(k:∀b u,b≠e->h.get? b=Y u->h'.get? b=Y u)(heo:∃u,h'.get? e=Y u)(f:dF P w (upd H x o') h' x o'):PZ P w (upd H x o') h':=λb u q=>by
 have d:∀c y,H c=Y (.own y)->c≠x:=λc y r z=>by subst z;rw[r]at a;exact a
 by_cases hb:b=x
 .subst hb;rw[av]at q;obtain rfl:=Om q;exact f
 .rw[aE hb]at q;by_cases g:b=e
  .have j:H b=Y `xhT:=by
    grind
   rw[q]at j;obtain rfl:=Om j;ext heo v m;exact{v,by rw[g];calc m}
  .refine(l b u q).T6 (λc v n r=>k c v ?_ r) (λc r=>by rw[aE<|d c b r];calc r) (λc i r=>by rw[aE<|(λc i r z=>by subst z;rw[r]at a;calc a) c i r];calc r) λc _ _ r=>by rw[aE λz=>by subst z;rw[r]at a;calc a];exact r
   grind
end
structure Un(fs ex:Vr)(H H':Hp)(h h':XAD):Prop where
 keep:∀b o,h.get? b=some o->H b=none->b∉fs->b∉ex->h'.get? b=some o
 slot:∀b o,h.get? b=some o->H b=none->b∈fs->b∉ex->∃sl,h'.get? b=some { o with slots:=sl }
 free:∀b o,h.get? b=some o->H b=none->b∉ex->H' b=none
 there:∀b o,h.get? b=some o->b∉ex->∃o',h'.get? b=some o'
 Sj:∀b xs,H b=some `xfr->H' b=some `xfr
 R7:∀b o u,H b=some `xef->H' b=some `xef
 RV:∀b q,H b=some `xeq->H' b=some `xeq
section
variable{H:Hp}{h1:XAD}
def Un.any(u:Un fs ex H H1 h h1)(q:h.get? b=Y d)(n:H b=M)(f:b∉ex):∃g,h1.get? b=Y { d with slots:=g }:=by
 by_cases hb:b∈fs
 .exact u.slot b d q n hb f
 .exact{_,u.keep b d q n hb f}
def Un.kept{h h':XAD}(k:∀b u,h.get? b=Y u->h'.get? b=Y u):Un fs ex H H h h' :=
 {λb d q _ _ _=>k b d q,λb d q _ _ _=>{_,k b d q},λ_ _ _ n _=>n,λb d q _=>{d,k b d q},λ_ _ q=>q,λ_ _ _ q=>q,λ_ _ q=>q}
def Un.refl:Un fs ex H H h h:=Un.kept λ_ _ q=>q
def Un.laid{fs ex:Vr}{h h':XAD}{a:Pv}{o:HO}(k:∀b u,h.get? b=Y u->h'.get? b=Y u)(g:`xgQ)(d:H a=M):Un fs ex H `Z4 h h' where
 keep:=λb u q _ _ _=>k b u q
 slot:=λb u q _ _ _=>{_,k b u q}
 free:=λb u q n _=>by rw[aE<|Zg<|Zk (Zb q) g];exact n
 there:=λb u q _=>{u,k b u q}
 Sj:=λb f q=>by rw[aE<|cV q d];exact q
 R7:=λb u f q=>by rw[aE<|cV q d];exact q
 RV:=λb n q=>by rw[aE<|cV q d];calc q
def Un.write{h h':XAD}(d:Oy<|H x)(he:e=x\/H e=Y `xhT)(k:∀b u,b≠e->h.get? b=Y u->h'.get? b=Y u)(heo:∃u,h'.get? e=Y u):Un fs ex H `xkb h h':=by
 have g:∀b,H b=M->b≠x:=λb n z=>by subst z;rw[n]at d;exact d
 have hb:∀b,H b=M->b≠e:=λb n z=>by
  grind
 have hm:∀b u,H b=Y u->¬Oy (Y u)->b≠x:=λb u q nm z=>by simp_all
 refine{λb u q n _ _=>k b u (hb b n) q,λb u q n _ _=>{_,k b u (hb b n) q},λb u q n _=>by rw[aE<|g b n];exact n,λb u q _=>?_,
  λb f q=>by rw[aE<|hm b _ q λz=>z];calc q,λb u f q=>by rw[aE<|hm b _ q λz=>z];calc q,λb n q=>by rw[aE<|hm b _ q λz=>z];calc q}
 grind
end
noncomputable def gone(v:Re):Obj:={v,M,.freed,#[]}
def Bc(H:Hp)(a:Pv)(o:Obj):Obj:=match H a with
 |some `xeq=>gone `xlH
 |some _=>gone .none
 |none=>match o.data with
  |.freed=>gone .none
  |_=>o
def yV(h:XAD)(H:Hp):Heap:={h.objs.mapIdx λa o=>Bc H a o,h.life}
def Tb(b:XAD)(a:Pv)(q:Str):Prop:=b.objs[a]?=Y (gone `xlH)
def Bh(h:XAD)(H:Hp):(`xhS).objs.size=h.objs.size:=Array.size_mapIdx
def t8(h:XAD)(H:Hp)(b:Pv):(`xhS).objs[b]?=(h.objs[b]?).map (Bc H b):=Array.getElem?_mapIdx
def o6{h:XAD}:h.get? b=Y o↔h.objs[b]?=Y o/\o.data ≠ .freed:=by
 unfold Heap.get?;split
 .grind
 .rename_i n;exact{λz=>{z,λd=>by
   ext o c u e a;cases (d);calc n _ _ _ z},λz=>z.1}
def EM{h:XAD}(e:h.get? b=Y o)(n:H b=M):(`xhS).get? b=Y o:=by
 exists o6.mp e,e1,e2;calc o6.mpr {?_,e2};rw[t8,e1,Option.map_some];unfold Bc
 simp_all
def Ig(e:(`xhS).get? b=Y o):h.get? b=Y o/\H b=M:=by
 exists o6.mp e,e1,e2;rw[t8]at e1;exists Zx.mp e1,u,e3,a;unfold Bc at a;cases q:H b with
 |some y =>
  rw[q]at a;cases y<;>(cases a;calc absurd L e2)
 |none =>
  rw[q]at a;refine{o6.mpr ?_,rfl};cases d:u.data with
  |freed=>rw[d]at a;cases a;calc absurd L e2
  |_ =>
   have f:u=o:=by rw[d]at a;exact a
   subst f;exact{e3,(e2)}
def Fd:Tb `xhS b q↔H b=Y `xeq/\b<h.objs.size:=by
 unfold Tb;rw[t8];constructor
 .intro e;exists Zx.mp e,u,e3,a;refine{?_,(Y8.mp e3).1};unfold Bc at a;cases y:H b with
  |some f =>
   rw[y]at a;cases f with
   |tbl i=>cases a;rfl
   |_=>cases a
  |none =>
   rw[y]at a;cases d:u.data with
   |freed=>rw[d]at a;cases a
   |_ =>
    have g:u=gone `xlH:=by rw[d]at a;exact a
    rw[g]at d;cases d
 .rintro⟨e,l⟩;rw[Ym l,Option.map_some];unfold Bc;rw[e]
noncomputable def G3(g h:XAD)(L:Pv):Xz:=({`m_,h.objs.size}).filterMap λa=>if a=L\/(g.get? a).isSome=J then M else (h.get? a).map λo=>(a,o)
def rest(g h:XAD)(L d:Pv):Xz:=(G3 g h L).filter λp=>decide (p.1≠d)
structure Mod(K:W0)(mg:W3)(base:XAD):Prop where
 kin:K.In base
 glob:base.Ns mainGlobals mg
 blt:∃mb,base.Ns builtinsNs mb/\∀x:Str,x ≠ "__name__" → mb x=bootBuiltins x
 nolimit:base.NoLimit
set_option genInjectivity false in
structure Cx where
 prog:UF
 w:XAE
 K:W0
 mg:W3
 base:XAD
 A:UV
 N:List Str
 s₀:On
 H₀:Hp
 env:Env
 outer:List Env
 stack:List Env
 ex:Vr
 fn:Str->Bool
 calm:Bool
 pn:Xz
 xe:Y2
abbrev Ua4(X:Cx)(x:Str):Prop:=X.fn x=J ∨ X.env.scope.names.lookup x=Y .local
abbrev Ua3(e:Expr)(x:Str)(q p:Pos)(X:Cx):Prop:=swapsWith e {`xoC,q} p.line X.env=pure B
abbrev Ua2(o b:Expr)(p:Pos)(X:Cx):Prop:=∀v,assign {`o0,o,p} X.env v=(do
 let f <-holding [v] {`r_,o}
 let g <-holding [v,f] {`r_,b}
 standAt p
 holding [v,f,g] (setItem f g v)
 release [v,f,g] [])
abbrev UQ(o:Expr)(m:Str)(a:Pos)(l:`i2)(p:Pos)(X:Cx)(q:Sem Bool):Prop:=eval (.Call {`z3,o,m,a} l [] p) X.env=(do
 let v <-eval o X.env
 standAt a.atName
 let (f,t) <-holding [v] (getMethod v m q)
 callWith p f t {`xbB,p} (backToKw p<|keywordEach [] X.env))
abbrev Tj(o:Expr)(m:Str)(X:Cx):Prop:=attributeBase o m X.env {`r_,o}=eval o X.env
abbrev Qz(c:Pos)(l:`i2)(X:Cx):Prop:=(({`xbB,c}).all (λx=>!x.1)&&(backToKw c<|keywordEach [] X.env).all (λx=>x.1.isSome)&&decide (⇑l+⇑([]:List Keyword)+(if ([]:List Keyword).isEmpty then 0 else 1)<30))=J
abbrev Qv(e:Expr)(l:`i2)(X:Cx):Prop:=SL (e::l) X.env=(B,eval e X.env)::SL l X.env
abbrev Qw(p:Pos)(l:`i2)(X:Cx):Prop:=({`xbB,p}).any (·.1)=B
abbrev Qx(x:Str):Prop:=(x==("__debug__" : Str))=B
abbrev Qy(x:Str):Prop:=(x==("__classdict__" : Str))=B
noncomputable def QW(l:`xeN):Vr:=l.filterMap (·.frame)
abbrev Cx.fs(X:Cx):Vr:=QW X.outer
noncomputable def RP(a:Scope)(x:Str):Prop:=a.names.lookup x=Y .local\/a.names.lookup x=Y .cell\/a.names.lookup x=Y .free
noncomputable def Loc(a:Scope)(x:Str):Prop:=a.names.lookup x=Y .local\/a.names.lookup x=Y .cell
noncomputable def Look(a:Env)(h:XAD)(m:W3)(x:Str)(u:Re):Prop :=
 (a.kindOf x=Y .local/\m x=Y u)\/((a.kindOf x=Y .cell\/a.kindOf x=Y .free)/\∃c,a.cells.lookup x=Y c/\h.IsCell c (Y u))
structure Cx.Ok(X:Cx):Prop where
 mod:Mod X.K X.mg X.base
 kind:X.env.scope.kind=.function
 glob:X.env.globals=mainGlobals
 blt:X.env.builtins=builtinsNs
 above:X.s₀.heap.objs.size<=X.env.locals
 inj:∀x y c,X.env.cells.lookup x=some c->X.env.cells.lookup y=some c->x=y
 has:∀x,(X.env.kindOf x=some .cell\/X.env.kindOf x=some .free)->∃c,X.env.cells.lookup x=some c
 cab:∀x c,X.fn x=true->X.env.cells.lookup x=some c->X.s₀.heap.objs.size<=c
 hd:X.calm=true->X.A.handled=none
 frames:X.A.frames=some X.stack
 stk:X.stack=X.outer\/(X.stack=X.env::X.outer/\X.env.frame=some X.env.locals)
 exf:∀b∈X.ex,b≠X.env.locals/\∀x c,X.env.cells.lookup x=some c->c≠b
 tb:∀b q,Tb X.base b q->X.H₀ b=some `xeq
 bs:∀b o,X.base.get? b=some o->X.s₀.heap.get? b=some o/\X.H₀ b=none
 bsz:X.base.objs.size<=X.s₀.heap.objs.size
 WV:∀b o,X.base.get? b=some o->b∉X.ex
 exfs:∀b∈X.ex,b∉X.fs
 QV:X.s₀.heap.FunFrames X.base X.outer
 frf:∀b∈X.fs,X.H₀ b=none
structure Inv(X:Cx)(pins:Xz)(O:List `xjo)(H:Hp)(s:On):Prop where
 ok:X.Ok
 os:s.os=X.s₀.os
 bare:AllBare s.gens
 base:Un X.fs X.ex X.H₀ H X.s₀.heap s.heap
 loc:∃m,s.heap.Ns X.env.locals m/\∀(i:Nat)(x:Str)(v:V),X.N[i]?=some x->O[i]?=some (some v)->RP X.env.scope x->∃u,RelV v u/\Look X.env s.heap m x u
 cell:∀x c,X.env.cells.lookup x=some c->∃v,s.heap.IsCell c v
 free:H X.env.locals=none
 PF:∀x c,X.env.cells.lookup x=some c->H c=none
 pin:∀p∈X.pn++pins,s.heap.get? p.1=some p.2/\H p.1=none/\p.1≠X.env.locals/\p.1∉X.fs/\∀v,p.2.data ≠ .cell v
 Og:PZ X.prog X.w H s.heap
 len:⇑O=⇑X.N
section
variable{H:Hp}
def Cx.Ok.nofr{X:Cx}(a:X.Ok)(e:X.base.get? b=Y o):b∉X.fs:=λhb=>by
 have:=(a.QV.mem hb).1;rw[e]at this;cases this
theorem Inv.bs(I:`bd):∀b o,X.base.get? b=Y o->s.heap.get? b=Y o/\H b=M:=λb o e =>
 {I.base.keep b o ({`xcw,e}).1 ({`xcw,e}).2 (I.ok.nofr e) `xnG,I.base.free b o ({`xcw,e}).1 ({`xcw,e}).2 `xnG}
theorem Inv.tb(I:`bd):∀b q,Tb X.base b q->H b=Y `xeq:=λb q e=>I.base.RV b q<|I.ok.tb b q e
def Inv.bk(I:`bd):∀b o,X.base.get? b=Y o->s.heap.get? b=Y o:=λb o e=>(I.bs b o e).1
theorem Inv.mod(I:`bd):Mod X.K X.mg X.base:=I.ok.mod
def Inv.QP(I:`bd):X.K.In s.heap:=I.ok.mod.kin.keeps I.bk
theorem Inv.lt(I:`bd):X.env.locals<s.heap.objs.size:=let ⟨_,a,_⟩:=I.loc;a.lt
def Inv.sz(I:`bd):X.s₀.heap.objs.size<=s.heap.objs.size:=ZY I.ok.above<|ZM I.lt
def Inv.nofs(I:`bd)(h:{`xaI,a}):a∉X.fs:=λhb=>by
 exists I.ok.QV.mem hb,_,o,b,_;calc absurd (Zk (Zb b)<|ZY I.sz h)<|Yl _
def Inv.cne(I:`bd):∀x c,X.env.cells.lookup x=Y c->c≠X.env.locals:=λx c e z=>by
 exists I.cell x c e,v,o,d,hd;ext I.loc m ⟨b,f,g,h,a,_⟩ _;grind
theorem Inv.QV(I:`bd):s.heap.FunFrames X.base X.outer:=by
 have all:∀(l:List _),(∀b∈QW l,b∈X.fs)->X.s₀.heap.FunFrames X.base l->s.heap.FunFrames X.base l:=by
  intro l
  induction l with
  |nil=>intro _ _;trivial
  |cons env r f =>
   intro hs hl;ext hl j ⟨L,o,d,i,h,hd⟩ g;have a:=hs L (by unfold QW;simp_all);exists I.base.slot L o h (I.ok.frf L a) a λz=>I.ok.exfs L z a,m,e;exact{j,{L,_,d,i,e,(hd)},f (λb hb=>hs b (by unfold QW;rw[Xy,d];calc Zs _ hb)) g}
 calc all _ (λ_ hb=>hb) I.ok.QV
theorem Inv.stack(I:`bd):s.heap.FunFrames X.base X.stack:=by
 rcases I.ok.stk with e|⟨e,b⟩
 .rw[e];exact I.QV
 .rw[e];ext I.loc m a _;calc .cons (by rw[I.ok.kind];decide) b a ?_ I.QV;calc Heap.get?_none_of_le<|ZY I.ok.bsz I.ok.above
def Inv.RY(I:`bd):∀b∈QW X.stack,b∈X.env.locals::X.fs:=λb hb=>by
 rcases I.ok.stk with e|⟨e,a⟩
 .simp_all
 .rw[e]at hb;unfold QW at hb;rw[Xy,a]at hb;calc hb
def Inv.Tq(I:`bd):∀b∈QW X.stack,H b=M:=λb hb=>by
 obtain e|hb:=Zi.mp (I.RY b hb)
 .rw[e];exact I.free
 .exists I.ok.QV.mem hb,_,o,a,_;calc I.base.free b o a (I.ok.frf b hb) λz=>I.ok.exfs b z hb
def Inv.step{h':XAD}{ch:Vr}(I:`bd)(j:∀b∈ch,(b∈X.ex\/X.s₀.heap.objs.size<=b)/\b≠X.env.locals/\(∀x c,X.env.cells.lookup x=Y c->c≠b)/\∀p∈X.pn++pins,p.1≠b)(h:∀b o,b≠X.env.locals->b∉X.fs->b∉ch->s.heap.get? b=Y o->H b=M->h'.get? b=Y o)(A:∀b o,b≠X.env.locals->b∈X.fs->b∉ch->s.heap.get? b=Y o->H b=M->∃G,h'.get? b=Y { o with slots:=G })(f:∀b o,b∉ch->s.heap.get? b=some o->H b=none->H' b=none)(C:∀b o,b∉ch->s.heap.get? b=Y o->∃E,h'.get? b=Y E)(Sj:∀b y,H b=Y (.tup y)->H' b=Y (.tup y))(R7:∀b o u,H b=Y `xef->H' b=Y `xef)(RV:∀b q,H b=Y `xeq->H' b=Y `xeq)(U:∀m,s.heap.Ns X.env.locals m->h'.Ns X.env.locals m)(Og:{`xbI,h'})(hg:AllBare Q) :
  Inv X pins O H' { s with heap:=h',gens:=Q,drawn:=d',toks:=R }:=by
 have F:∀b o,X.s₀.heap.get? b=Y o->b≠X.env.locals:=λb o e=>Zg<|Zk `xeB I.ok.above;have t:∀b o,X.s₀.heap.get? b=Y o->b∉X.ex->b∉ch:=λb o e a hb=>by
  obtain z|z:=(`xeM).1
  .exact a z
  .exact absurd (Zk `xeB z)<|Yl _
 have cellK:∀x c,X.env.cells.lookup x=Y c->∀v,s.heap.IsCell c v->h'.IsCell c v:=λx c e v ⟨o,D,hd⟩=>by
  have g:c∉ch:=λz=>(j c z).2.2.1 x c e L;by_cases P:c∈X.fs
  .exists A c o (I.cne x c e) P g D `xiZ,G,q;exact{_,q,(hd)}
  .exact{o,h c o (I.cne x c e) P g D `xiZ,hd}
 refine{I.ok,I.os,hg,{λb o e n hb a=>?_,λb o e n hb a=>?_,λb o e n a=>?_,λb o e a=>?_,λb y e=>Sj b y<|I.base.Sj b y e,λb o y e=>R7 b o y<|I.base.R7 b o y e,λb q e=>RV b q<|I.base.RV b q e},?_,λx c e=>?_,?_,λx c e=>?_,λp N=>?_,Og,I.len}
 .exact h b o (F b o e) hb `xgB {`xaZ,a} {`xbD,a}
 .exists I.base.slot b o e n hb a,G,e1;exists A b _ (F b o e) hb `xgB e1 {`xbD,a},S,e2;exact{_,(e2)}
 .exists I.base.there b o e a,E,e1;exact f b E `xgB e1 {`xbD,a}
 .exists I.base.there b o e a,E,e1;exact C b E `xgB e1
 .ext I.loc m Z hl;refine{m,U m Z,λi x v e1 e2 e3=>?_};exists hl i x v e1 e2 e3,u,r,l;refine{u,r,?_};rcases l with l|⟨k,c,e,z⟩
  .exact .inl l
  .exact .inr {k,c,e,cellK x c e _ z}
 .exists I.cell x c e,v,z;exact{v,cellK x c e v z}
 .ext I.loc m ⟨o,_,_,D,_⟩ _;exact f _ o (λz=>(j _ z).2.1 L) D I.free
 .exists I.cell x c e,v,o,D,hd;exact f c o (λz=>(j c z).2.2.1 x c e L) D `xiZ
 .refine TX (I.pin p N) λe n ne nf d=>?_;have g:=λz=>(j _ z).2.2.2 p N L;exact{h _ _ ne nf g e n,f _ _ g e n,ne,nf,d}
def Inv.un{t':Nat}(I:`bd)(u:Un X.fs [] H H' s.heap h')(i:{`xbI,h'}):Inv X pins O H' { s with heap:=h',toks:=t' }:=by
 obtain⟨m,⟨o,q,t,a,r⟩,_⟩:=id I.loc;exists u.any a I.free (by simp),j,g;exact I.step (ch:=[]) (λ_ z=>nomatch z) (λb o _ hb _ e n=>u.keep b o e n hb<|by simp) (λb o _ hb _ e n=>u.slot b o e n hb<|by simp) (λb o _ e n=>u.free b o e n<|by simp) (λb o _ e=>u.there b o e<|by simp) u.Sj u.R7 u.RV (λp hm=>by
  ext hm l h v d f;rw[a]at d;obtain rfl:=Om d;calc UE {g,(f)}) i I.bare
def Inv.call{g':Array GenState}{t':Nat}{d':Drawn}{ch:Vr}(I:`bd)(u:{`xdo,ch,h'})(q:{`xbI,h'})(j:AllBare g')(d:∀b∈ch,(b∈X.ex\/X.s₀.heap.objs.size<=b)/\b≠X.env.locals/\(∀x c,X.env.cells.lookup x=Y c->c≠b)/\∀p∈X.pn++pins,p.1≠b) :
  Inv X pins O H' { s with heap:=h',gens:=g',drawn:=d',toks:=t' }:=by
 obtain⟨m,⟨o,A,C,g,r⟩,_⟩:=id I.loc;exists u.any g I.free λz=>(d _ z).2.1 L,t,f;exact I.step (ch:=ch) d (λb o f hb a e n=>u.keep b o e n (λz=>(Zi.mp<|I.RY b z).elim f hb) a) (λb o _ _ a e n=>u.any e n a) (λb o a e n=>u.free b o e n a) (λb o a e=>u.there b o e a) u.Sj u.R7 u.RV (λy hm=>by
  ext hm v l D h i;rw[g]at h;obtain rfl:=Om h;calc UE {f,(i)}) q j
def Inv.turned{h':XAD}{t':Nat}(I:`bd)(k:∀b o,b≠a->s.heap.get? b=Y o->h'.get? b=Y o)(i:H a=M)(g:a≠X.env.locals)(t:a∈X.ex\/X.s₀.heap.objs.size<=a)(l:∀x c,X.env.cells.lookup x=Y c->c≠a)(j:∀p∈X.pn++pins,p.1≠a):Inv X pins O H { s with heap:=h',toks:=t' }:=by
 have f:∀b u,H b=Y u->b≠a:=λb u e z=>by rw[z,i]at e;cases e
 refine I.step (ch:=[a]) (λb hb=>?_) (λb o _ _ d e _=>k b o (λz=>d<|by simp[z]) e) (λb o _ _ d e _=>{_,k b o (λz=>d<|by simp[z]) e}) (λ_ _ _ _ n=>n)
  (λb o d e=>{o,k b o (λz=>d<|by simp[z]) e}) (λ_ _ e=>e) (λ_ _ _ e=>e) (λ_ _ e=>e) (λm hm=>?_) (λb u e=>?_) I.bare
 .have e:b=a:=by simpa using hb
  subst e;exact{t,g,l,(j)}
 .ext hm o w y h r;exact Ow o w y {k _ o (Yg g) h,r}
 .refine(I.Og b u e).T6 (λc v d q=>k c v ?_ q) (λ_ q=>q) (λ_ _ q=>q) λ_ _ _ q=>q;obtain z|z:=d
  .rw[z];exact f b u e
  .exact f c _ z
def Inv.tok(I:`bd)(t:Nat):Inv X pins O H { s with toks:=t }:=I.un (t':=t) Un.refl I.Og
theorem Inv.kept{h':XAD}{t':Nat}(I:`bd)(k:∀b u,s.heap.get? b=Y u->h'.get? b=Y u):Inv X pins O H { s with heap:=h',toks:=t' }:=I.un (Un.kept k)<|I.Og.kept k
theorem Inv.laid{h':XAD}{o:HO}{t':Nat}(I:`bd)(k:∀b u,s.heap.get? b=Y u->h'.get? b=Y u)(e:{`xaI,a})(d:dF X.prog X.w `Z4 h' a o) :
  Inv X pins O `Z4 { s with heap:=h',toks:=t' }:=I.un (Un.laid k e {`xoS,e})<|I.Og.laid k e d
theorem Inv.write{h':XAD}{x e:Pv}(I:`bd)(d:Oy<|H x)(he:e=x\/H e=Y `xhT)(k:∀b u,b≠e->s.heap.get? b=Y u->h'.get? b=Y u)(heo:∃u,h'.get? e=Y u)(a:dF X.prog X.w `xkb h' x o):Inv X pins O `xkb { s with heap:=h',toks:=f }:=I.un (Un.write d he k heo)<|I.Og.write d he k heo a
def Inv.Tt(I:`bd)(h:∀p∈a,s.heap.get? p.1=Y p.2/\H p.1=M/\p.1≠X.env.locals/\p.1∉X.fs/\∀v,p.2.data ≠ .cell v):Inv X a O H s :=
 {I.ok,I.os,I.bare,I.base,I.loc,I.cell,I.free,I.PF,λp b=>(Zf.mp b).elim (λz=>I.pin p<|YQ _ z)<|h p,I.Og,I.len}
def xf{N:`e_}(d:N.Nodup){i j:Nat}{x:Str}(a:N[i]?=Y x)(b:N[j]?=Y x):i=j:=by
 exists Ze.mp a,f,e1;exists Ze.mp b,e,e2;exact(Vb d).mp<|e1.trans e2.symm
def sQ{v:V}(I:`bd)(hN:X.N.Nodup)(D:X.N[i]?=Y x)(f:{`Op,x})(r:`xfq)(h:∀Z,Inv X pins `A3 H Z->(∃a,Heap.SameBut a s.heap Z.heap/\(a=X.env.locals\/X.env.cells.lookup x=Y a))->Q () Z)(hf:{`q0,Ua4 X x}):SB Mq0 A `xiY Q E s:=by
 exists id I.loc,m,hn,hl;have C:i<⇑O:=by rw[I.len];exact(Ze.mp D).1
 have cne:=I.cne;have tracked:∀{a:Pv}{h':XAD},(∃o,s.heap.get? a=Y o/\H a=none)->Heap.SameBut a _ h'->PZ _ _ H h':=λ{a h'} ha hs b ob e=>by
  ext ha _ _ hfree;refine(I.Og b ob e).T6 (λc P g q=>(hs.2 c ?_).trans q) (λ_ q=>q) (λ_ _ q=>q) λ_ _ _ q=>q;grind
 obtain w|w:=f
 .refine wpAny_storeName_local w hn (λh' hn' hs=>?_) (by rw[I.ok.kind];rfl);calc OH (id hn) λoL _ _=>Pc λhoL _=>?_;refine h _ {I.ok,I.os,I.bare,{λb o e n hb f=>?_,λb o e n hb f=>?_,I.base.free,λb o e f=>?_,I.base.Sj,I.base.R7,I.base.RV},{_,hn',λj y R e1 e2 e3=>?_},λy c e=>?_,I.free,I.PF,λp hp=>?_,tracked {oL,hoL,(I.free)} hs,by simpa using I.len} {_,hs,.inl L}
  .exact({`qz,I.ok.above}).trans {`xaZ,f}
  .exists I.base.slot b o e n hb f,U,e1;exact{U,({`qz,I.ok.above}).trans e1}
  .exists I.base.there b o e f,o',e1;exact{o',({`qz,I.ok.above}).trans e1}
  .by_cases l:j=i
   .subst l;rw[D]at e1;obtain rfl:=Om e1;rw[Wa C]at e2;cases e2;exact⟨u,r,.inl {w,by simp}⟩
   .rw[YZ<|Yg l]at e2;exists hl j y R e1 e2 e3,S,r',q;refine{S,r',?_};rcases q with⟨k,e⟩|⟨k,c,e,z⟩
    .refine .inl {k,?_};have:y≠x:=λe=>l<|xf hN e1<|e ▸ D;simp[this,e]
    .exact .inr {k,c,e,z.sameBut hs<|cne y c e}
  .exists I.cell y c e,P,z;exact{P,z.sameBut hs<|cne y c e}
  .refine TX (I.pin p hp) λe n ne nf d=>?_;exact{(hs.2 _ ne).trans e,n,ne,nf,d}
 .have t:X.fn x=J:=by
   grind
  exists I.ok.has x (.inl w),c,g;exists I.cell x c g,P,z;calc wpAny_storeName_cell I.ok.kind w g z<|λh' QU hs=>?_;exists id z,oc,hoc,hocd;refine h _ {I.ok,I.os,I.bare,{λb o e n hb f=>?_,λb o e n hb f=>?_,I.base.free,λb o e f=>?_,I.base.Sj,I.base.R7,I.base.RV},{m,hn.sameBut hs<|Yg<|cne x c g,λj y R e1 e2 e3=>?_},λy G e=>?_,I.free,I.PF,λp hp=>?_,tracked {oc,hoc,I.PF x c g} hs,by simpa using I.len} {c,hs,.inr g}
  .exact({`qz,I.ok.cab x c t g}).trans {`xaZ,f}
  .exists I.base.slot b o e n hb f,U,e1;exact{U,({`qz,I.ok.cab x c t g}).trans e1}
  .exists I.base.there b o e f,o',e1;exact{o',({`qz,I.ok.cab x c t g}).trans e1}
  .by_cases l:j=i
   .subst l;rw[D]at e1;obtain rfl:=Om e1;rw[Wa C]at e2;cases e2;exact⟨u,r,.inr {.inl w,c,g,QU}⟩
   .rw[YZ<|Yg l]at e2;exists hl j y R e1 e2 e3,S,r',q;refine{S,r',?_};rcases q with q|⟨k,G,e,z'⟩
    .exact .inl q
    .refine .inr {k,G,e,z'.sameBut hs ?_};rintro rfl;exact l<|xf hN e1<|I.ok.inj _ _ _ e g ▸ D
  .by_cases F:G=c
   .subst F;exact{_,(QU)}
   .exists I.cell y G e,w2,z2;exact{w2,z2.sameBut hs F}
  .refine TX (I.pin p hp) λe n ne nf d=>?_;refine{(hs.2 _ ?_).trans e,n,ne,nf,d};intro q
   simp_all
def xF(I:`bd)(g:X.N.Nodup)(e:X.N[i]?=Y x)(d:{`Op,x})(r:`xfq)(h:∀a,Inv X pins `A3 H a->Q () a)(f:{`q0,Ua4 X x}):SB b A `xiY Q E s :=
 sQ I g e d r (λa j _=>h a j) f
def Inv.call'{a:On}(I:`bd)(f:a.os=s.os)(u:{`xdo,e,a.heap})(h:{`xbI,a.heap})(g:AllBare a.gens)(d:∀b∈e,(b∈X.ex\/X.s₀.heap.objs.size<=b)/\b≠X.env.locals/\(∀x c,X.env.cells.lookup x=Y c->c≠b)/\∀p∈X.pn++pins,p.1≠b):Inv X pins O H' a:=by
 ext a h' g' d' t' i;subst f;calc I.call (g':=g') (t':=t') (d':=d') u h g d
end
abbrev XK:=Re->Option Pv->Hp->Prop
noncomputable abbrev St:=List `xjo
abbrev VK:=V->Hp->Prop
abbrev TE:=St->Hp->VK->Prop
abbrev TT:=St->Hp->(Bool->Hp->Prop)->Prop
abbrev TA:=St->Hp->(List V->Hp->Prop)->Prop
set_option genInjectivity false in
structure Ends where
 nx:St->Hp->Prop
 rt:VK
 bk:St->Hp->Prop:=λ_ _=>False
 ct:St->Hp->Prop:=λ_ _=>False
abbrev TS:=Ends->St->Hp->Prop
def EP(X:Cx)(a:Xz)(O:St)(Q:VK)(u:Re)(d:On):Prop:=∃v b,Inv X a O b d/\RelV v u/\Q v b
noncomputable def TP(X:Cx)(a:Xz)(O:St)(Q:Bool->Hp->Prop)(b:Bool)(e:On):Prop:=∃d,Inv X a O d e/\Q b d
def AP(X:Cx)(a:Xz)(O:St)(Q:List V->Hp->Prop)(e:Vq)(f:On):Prop:=∃b d,Inv X a O d f/\aS b e/\Q b d
def SP(X:Cx)(a:Xz)(D:Ends)(f:Flow)(e:On):Prop :=
 match f with
 |.next=>∃d b,Inv X a d b e/\D.nx d b
 |.brk=>∃d b,Inv X a d b e/\D.bk d b
 |.cont=>∃d b,Inv X a d b e/\D.ct d b
 |.ret u=>∃v d b,Inv X a d b e/\RelV v u/\D.rt v b
def PE(X:Cx)(e:Expr)(t:TE):Prop :=
 ∀(a:Xz)(s:On)(O:St)(H:Hp)(Q:VK),Inv X a O H s->t O H Q->SB `a_ X.A {`r_,e} `BT X.xe s
def PT(X:Cx)(e:Expr)(t:TT):Prop :=
 ∀(a:Xz)(s:On)(O:St)(H:Hp)(Q:Bool->Hp->Prop),Inv X a O H s->t O H Q->SB `a_ X.A (isTrue e X.env {`r_,e}) `xiX X.xe s
def PW(X:Cx)(e:Expr)(t:TT):Prop :=
 ∀(whole:Sem Re)(a:Xz)(s:On)(O:St)(H:Hp)(Q:Bool->Hp->Prop),Inv X a O H s->t O H Q->SB `a_ X.A (isTrue e X.env whole) `xiX X.xe s
def PW.pt(h:PW X e t):PT X e t:=h _
def PA(X:Cx)(b:`i2)(t:TA):Prop :=
 ∀(pos:Pos)(a:Xz)(s:On)(O:St)(H:Hp)(Q:List V->Hp->Prop),Inv X a O H s->t O H Q->SB `a_ X.A (spliced<|backTo pos<|SL b X.env) (AP X a O Q) X.xe s
def PS(X:Cx)(b:Stmt)(t:TS):Prop :=
 ∀(a:Xz)(s:On)(O:St)(H:Hp)(D:Ends),Inv X a O H s->t D O H->SB `a_ X.A (exec b X.env) (SP X a D) X.xe s
def Rq(X:Cx)(b:`xiW)(t:TS):Prop :=
 ∀(a:Xz)(s:On)(O:St)(H:Hp)(D:Ends),Inv X a O H s->t D O H->SB `a_ X.A (execs b X.env) (SP X a D) X.xe s
def thn{α:Type}{t:Sem α}{Q b:α->On->Prop}{M:Model}(h:SB M A t Q E s)(d:∀a s,Q a s->b a s):SB M A t b E s:=YC h d λ_ _ x=>x
noncomputable def MF(i:Nat):TE:=λO H Q=>∃v,O[i]?=Y `xer/\Q v H
noncomputable def tC(v:V):TE:=λ_ H Q=>Q v H
def eD{X:Cx}(q:X.N[i]?=Y x)(o:{`ro,x})(d:{`q1,Qx x})(f:{`q1,Qy x}):PE X (.Name x b) (MF i):=by
 intro g s O H Q I h;ext h v e h;ext I.loc m p hl;exists hl i x v q e o,u,r,l;have fin:EP X _ O Q u s:={v,H,I,r,(h)}
 rcases l with⟨a,hm⟩|⟨a,c,j,n⟩
 .exact wpAny_Name (wpAny_loadName_local I.ok.kind a p hm fin) d
 .rcases a with a|a
  .exact wpAny_Name (wpAny_loadName_cell I.ok.kind a j n fin) d
  .exact wpAny_Name (wpAny_loadName_free I.ok.kind a j n fin f) d
def u6{i j pos}:PE X {`xL,.int i} (tC `KE):=λ_ _ _ H _ I h=>wpAny_Constant_int {.int i,H,I.tok _,{_,(rfl)},h}
def LG{b j pos}:PE X {`xL,.bool b} (tC `xfJ):=λ_ _ _ H _ I h=>Constant_bool {.bl b,H,I,rfl,h}
def Lf{j pos}:PE X {`xaQ,pos} (tC .non):=λ_ _ _ H _ I h=>Constant_none {.non,H,I,rfl,h}
def KH{x j pos}:PE X {`xL,.str x} (tC<|.str x):=λ_ _ _ H _ I h=>Calls.Constant_str {.str x,H,I.tok _,{_,(rfl)},h}
noncomputable def Gl(X:Cx)(x:Str):Prop:=X.env.kindOf x=Y .globalImplicit
def pK(I:{`p_,a})(e:`xac)(d:`xlG)(h:Q u s)(f:{`q1,Qx x}):SB `a_ X.A {`r_,.Name x b} Q E s :=
 Calls.Name_function_global I.ok.kind e (Calls.loadGlobal_global (by rw[I.ok.glob];calc I.mod.glob.keeps I.bk) d h) f
def lu(I:{`p_,a})(g:`xac)(f:`xfp)(d:{`xz,u})(h:Q u s)(e:{`q1,x ≠ "__name__"})(i:{`q1,Qx x}):SB `a_ X.A {`r_,.Name x b} Q E s:=by
 ext I.mod.blt m l j;calc Calls.Name_function_global I.ok.kind g (Calls.loadGlobal_builtin (by rw[I.ok.glob];calc I.mod.glob.keeps I.bk) f (by rw[I.ok.blt];calc l.keeps I.bk) ((j x e).trans d) h) i
def GC(d:`xac)(b:`xlG)(r:`xfq)(e:{`q1,Qx x}):PE X `xka (tC v) :=
 λ_ _ _ H _ I h=>pK I d b {v,H,I,r,(h)} e
def HP{v:V}(f:`xac)(e:`xfp)(b:{`xz,u})(r:`xfq)(d:{`q1,x ≠ "__name__"})(g:{`q1,Qx x}):PE X `xka (tC v) :=
 λ_ _ _ H _ I h=>lu I f e b {v,H,I,r,(h)} d g
def PC(X:Cx)(g:CmpOp)(a b:Expr)(t:TE):Prop :=
 ∀(d:Xz)(s:On)(O:St)(H:Hp)(Q:VK),Inv X d O H s->t O H Q →
  SB `a_ X.A {`r_,a} (λv f=>SB `a_ X.A {`r_,b} (λu e=>SB `a_ X.A (XAC g v u) (EP X d O Q) X.xe e) X.xe f) X.xe s
def wK(b:Expr)(h:d ≠ .In)(e:d ≠ .NotIn):behindInMarks d b=B:=by
 have e1:(d==CmpOp.In)=B:=by grind
 have e2:`xmj=B:=by grind
 cases b with
 |Set elts k p =>
  show (k==0&&(d==CmpOp.In||d==CmpOp.NotIn)&&_)=B;rw[e1,e2,Bool.or_false,Bool.and_false];rfl
 |_=>rfl
noncomputable def NR(ta:TE):TE:=λO H Q=>ta O H λx d=>Q (.bl (decide (x=.non))) d
noncomputable def Ml(ta:TE):TE:=λO H Q=>ta O H λx d=>Q (.bl<|!decide (x=.non)) d
def RelV.Su(r:`xhR):(v==Value.none)=decide (x=.non):=by
 cases x with
 |non=>cases r;rfl
 |bl _=>cases r;rfl
 |int _=>ext r t rfl;rfl
 |str _=>ext r t rfl;rfl
 |byt _=>ext r t rfl;rfl
 |flt _=>ext r t rfl;rfl
 |ref _=>cases r;rfl
 |ty _=>cases r;rfl
def KP{j pos'}(f:`G_):PC X .Is a {`xaQ,pos'} (NR ta):=by
 intro d s O H Q I h;calc thn (f _ s O H _ I h) λv s1 g=>?_;calc Oo g λx l=>oe λi r1 e=>?_;calc Constant_none<|is_none_gen {_,l,i,by rw[r1.Su];rfl,e}
def zk{j pos'}(f:`G_):PC X .IsNot a {`xaQ,pos'} (Ml ta):=by
 intro d s O H Q I h;calc thn (f _ s O H _ I h) λv s1 g=>?_;calc Oo g λx l=>oe λi r1 e=>?_;calc Constant_none<|isnot_none_gen {_,l,i,by rw[r1.Su];rfl,e}
noncomputable def tB(t:TE):TT:=λO H Q=>t O H λx d=>∃c,x=.bl c/\Q c d
def Kn(h:PC X d a b t)(f:{`x_,d}:=by first|calc wK _ `ao `ao|rfl):PE X (.Compare a [d] [b] pos) t:=λe s O H Q I hw=>wpAny_Compare1 (h _ s O H Q I hw) f
def D2(h:PC X e a b t)(f:{`x_,e}:=by first|calc wK _ `ao `ao|rfl):PT X (.Compare a [e] [b] pos) (tB t):=by
 intro g s O H Q I hw;calc wpAny_isTrue_Compare1 (thn (h _ s O H _ I hw) λv s1 f=>thn f λu p l=>thn l λc o j=>?_) f;ext j x n m r1 i;ext i d rfl q;cases r1;calc Y0 {n,m,(q)}
def Lh(h:PE X e t)(he:{`q2,∀whole,isTrue e X.env whole=(do let v <-whole;standAt e.pos;holding [v] `xfI)}):PT X e (tB t):=by
 intro f s O H Q I hw;calc isTrue_plain (thn (h f s O H _ I hw) λv s1=>Px λx j=>oe λi r1 g=>?_)<|he _;ext g d rfl q;cases r1;calc Y0 {j,i,(q)}
noncomputable def NB(t u:TT):TT:=λO H Q=>t O H λc d=>if c=J then u O d Q else Q B d
noncomputable def tOr(t u:TT):TT:=λO H Q=>t O H λc d=>if c=J then Q J d else u O d Q
noncomputable def NC(t:TT):TT:=λO H Q=>t O H λc d=>Q (!c) d
def oQ(f:`xgA):PW X (.BoolOp .And [a] pos) tA:=by
 intro g d s O H Q I h;calc isTrue_and<|thn (f _ s O H Q I h) λc s1 e=>?_;cases c with
 |true=>calc isTrue_and_nil e
 |false=>calc e
def p5(f:`xgA):PW X (.BoolOp .Or [a] pos) tA:=by
 intro g d s O H Q I h;calc isTrue_or<|thn (f _ s O H Q I h) λc s1 e=>?_;cases c with
 |false=>calc isTrue_or_nil e
 |true=>calc e
def DB{X:Cx}{a:Expr}{pos:Pos}{tA tB':TT}{rest:`i2}(l:`xgA)(j:PW X `mm tB'):PW X (.BoolOp .And (a::b::rest) pos) (NB tA tB'):=by
 intro i e s O H Q I h;calc isTrue_and<|thn (l _ s O H _ I h) λc s1 m=>?_;ext m g f d;cases c with
 |true=>calc j i _ s1 O g Q f d
 |false=>exact{g,f,(d)}
def NA{X:Cx}{a:Expr}{pos:Pos}{tA tB':TT}{rest:`i2}(l:`xgA)(j:PW X {`xdC,b,pos} tB'):PW X (.BoolOp .Or (a::b::rest) pos) (tOr tA tB'):=by
 intro i e s O H Q I h;calc isTrue_or<|thn (l _ s O H _ I h) λc s1 m=>?_;ext m g f d;cases c with
 |true=>exact{g,f,(d)}
 |false=>calc j i _ s1 O g Q f d
def BY(e:`xgA):PT X {`Po,a} (NC tA):=by
 intro d s O H Q I h;calc isTrue_not<|e _ s O H _ I h
noncomputable def Nl(ta e:TE):TE:=λO H Q=>ta O H λx d=>∃c,x=.bl c/\if c=J then e O d Q else Q (.bl B) d
noncomputable def M8(ta:TE):TE:=λO H Q=>ta O H λx d=>∃c,x=.bl c/\Q (.bl<|!c) d
def KJ{op}(h:PE X a t):PE X (.BoolOp op [a] pos) t:=λd s O H Q I hw=>BoolOp_one<|h _ s O H Q I hw
def KC{X:Cx}{a:Expr}{ta tb:TE}{pos:Pos}{rest:`i2}(j:`G_)(i:PE X `mm tb):PE X (.BoolOp .And (a::b::rest) pos) (Nl ta tb):=by
 intro e s O H Q I h;calc BoolOp_and<|thn (j _ s O H _ I h) λv s1 l=>?_;ext l x g f r1 d;ext d c rfl d;cases r1;calc Y0 ?_;cases c with
 |true=>calc i _ s1 O g Q f d
 |false=>exact{.bl _,g,f,rfl,d}
def Lo(f:`G_):PE X {`Po,a} (M8 ta):=by
 intro e s O H Q I h;calc UnaryOp_<|thn (f _ s O H _ I h) λv s1 g=>?_;ext g x j i r1 d;ext d c rfl d;cases r1;calc not_of<|Y0 {.bl _,j,i,rfl,d}
noncomputable def tIf(t:TT)(ta e:TE):TE:=λO H Q=>t O H λc d=>if c=J then ta O d Q else e O d Q
def BV(j:PT X c tA)(m:`G_)(l:`xeA):PE X `xkG (tIf tA ta tb):=by
 intro f s O H Q I h;calc wpAny_IfExp<|thn (j _ s O H _ I h) λd s1 n=>?_;ext n i g e;cases d with
 |true=>calc m _ s1 O i Q g e
 |false=>calc l _ s1 O i Q g e
def OD(K:W0)(H:Hp)(a:Pv)(d:`cg):Prop :=
 Rd H a `xkF ∨
  ∃(o:Obj)(b:`xkI)(n:Nat),K.lookup a=Y o/\o.cls=.type "list" ∧ o.dict=M/\o.data=.seq b n/\b.size<=Pi/\aS d b.toList
def P8(K:W0)(H:Hp)(a:Pv)(d:`cg):Prop :=
 Rd H a `xgc ∨
  ∃(o:Obj)(b:`xkI)(n:Nat),K.lookup a=Y o/\o.cls=.type "tuple" ∧ o.data=.seq b n/\b.size<=Pi/\aS d b.toList
noncomputable def ND:Re->Option V
 |.none=>Y .non
 |.bool b=>Y `xfJ
 |.int i _=>Y `KE
 |.str x _=>Y<|.str x
 |.bytes b _=>Y<|.byt b
 |.float b _=>Y<|.flt b
 |.ref a=>Y `bz
 |.type n=>Y<|.ty n
 |_=>M
def RelV.abs(r:`xkJ):ND u=Y x:=by
 cases x with
 |non=>cases r;rfl
 |bl _=>cases r;rfl
 |int _=>ext r t rfl;rfl
 |str _=>ext r t rfl;rfl
 |byt _=>ext r t rfl;rfl
 |flt _=>ext r t rfl;rfl
 |ref _=>cases r;rfl
 |ty _=>cases r;rfl
def RelV.inj(r:`xkJ)(q:`TD):x=y:=ZL<|r.abs.symm.trans q.abs
theorem aS.inj:∀{b a:`cg}{d:Vq},aS b d->aS a d->b=a:=by
 intro b a d r
 induction r generalizing a with
 |nil=>intro q;cases q;rfl
 |cons r _ g=>intro q;cases q with|cons f e=>rw[r.inj f,g e]
section
variable{H:Hp}
def OD.of{K:W0}(h:{`xcN,a,xs}):OD K H a xs:=.inl `xfs
def P8.of{K:W0}(h:H a=Y `xfr):P8 K H a xs:=.inl `xfs
def Inv.list(I:`bd)(h:OD X.K H a xs):∃b:Vq,aS xs b/\PlainL s.heap a b.toArray/\⇑xs<=sizeLine:=by
 rcases h with h|⟨o,b,n,d,f,hd,hs,g,r⟩
 .exists h.ok I.Og,z,b,n,r,e;exact{_,r,{_,n,e,rfl,rfl,(rfl)},z}
 .refine{_,r,{o,n,I.QP a o d,f,hd,by simpa using hs},?_};have e:=⇑r;grind
def Inv.tuple(I:`bd)(h:P8 X.K H a xs):∃b:Vq,aS xs b/\IsTup s.heap a b.toArray/\⇑xs<=sizeLine:=by
 rcases h with h|⟨o,b,n,d,f,hs,g,r⟩
 .exists h.ok I.Og,z,b,r,_,p;exact{_,r,p,(z)}
 .refine{_,r,{o,I.QP a o d,f,n,by simpa using hs},?_};have e:=⇑r
  simp_all
def Inv.Sv(I:`bd)(h:OD X.K H a xs)(i:OD X.K H a ys):xs=ys:=by
 obtain⟨l,r,⟨o,n,e,_,_,d⟩,_⟩:=I.list h;obtain⟨j,g,⟨m,p,b,_,_,f⟩,_⟩:=I.list i;rw[e]at b;obtain rfl:=Om b;rw[d]at f;injection f with d1 _
 have:l=j:=by grind
 subst this;calc r.inj g
def Inv.TZ(I:`bd)(h:P8 X.K H a xs)(i:P8 X.K H a ys):xs=ys:=by
 obtain⟨l,r,⟨o,e,_,n,d⟩,_⟩:=I.tuple h;obtain⟨j,g,⟨m,b,_,p,f⟩,_⟩:=I.tuple i;rw[e]at b;obtain rfl:=Om b;rw[d]at f;injection f with d1 _
 have:l=j:=by grind
 subst this;calc r.inj g
end
noncomputable abbrev Cx.Ru(X:Cx)(E:Y2):Cx:={ X with xe:=E }
abbrev Cx.Ss(X:Cx):Cx:=X.Ru λ_ _=>False
theorem Cx.Ok.Ru{X:Cx}(a:X.Ok)(E:Y2):(`xhQ).Ok :=
 {a.mod,a.kind,a.glob,a.blt,a.above,a.inj,a.has,a.cab,a.hd,a.frames,a.stk,a.exf,a.tb,a.bs,a.bsz,a.WV,a.exfs,a.QV,(a.frf)}
def Cx.Ok.Py{X:Cx}(a:(`xhQ).Ok):X.Ok :=
 {a.mod,a.kind,a.glob,a.blt,a.above,a.inj,a.has,a.cab,a.hd,a.frames,a.stk,a.exf,a.tb,a.bs,a.bsz,a.WV,a.exfs,a.QV,(a.frf)}
section
variable{H:Hp}
theorem Inv.Ru(I:`bd)(E:Y2):Inv `xhQ pins O H s:={I.ok.Ru E,I.os,I.bare,I.base,I.loc,I.cell,I.free,I.PF,I.pin,I.Og,I.len}
theorem Inv.Py{X:Cx}(I:Inv `xhQ pins O H s):Inv X pins O H s:={I.ok.Py,I.os,I.bare,I.base,I.loc,I.cell,I.free,I.PF,I.pin,I.Og,(I.len)}
theorem SP.Py{X:Cx}(h:SP `xhQ pins D f d):SP X pins D f d:=by
 cases f with
 |next=>ext h b a I q;exact{_,a,I.Py,(q)}
 |brk=>ext h b a I q;exact{_,a,I.Py,(q)}
 |cont=>ext h b a I q;exact{_,a,I.Py,(q)}
 |ret u=>ext h v b a I r q;exact{v,_,a,I.Py,r,(q)}
theorem Rq.Ss{X:Cx}(h:Rq X.Ss a t):Rq X a t:=λpins s O H D I hw =>
 YC (h _ s O H D (I.Ru _) hw) (λ_ _ q=>q.Py) λ_ _ z=>False.elim z
end
section
variable{st:Stmt}
noncomputable def Mj:TS:=λD O H=>D.nx O H
noncomputable def N1(t u:TS):TS:=λD O H=>t { D with nx:=u D } O H
def FN:Rq X [] Mj:=λ_ _ O H _ I h=>V0 {O,H,I,(h)}
def D8{X:Cx}{rest:`xiW}{t u:TS}(d:PS X st t)(b:Rq X rest u):Rq X (st::rest) (N1 t u):=by
 intro a s O H D I h;calc wpAny_execs_cons<|thn (d _ s O H _ I h) λf s1 q=>?_;cases f with
 |next =>
  ext q j i g q;calc b _ s1 _ i D g q
 |ret v=>calc q
 |brk=>calc q
 |cont=>calc q
def au(b:PS X st t):Rq X [st] t:=by
 intro a s O H D I h;calc wpAny_execs_cons<|thn (b _ s O H D I h) λf s1 q=>?_;cases f with
 |next=>calc V0 q
 |ret v=>calc q
 |brk=>calc q
 |cont=>calc q
def Inv.quiet(I:{`p_,a}):interactive X.env=B:=by simp[interactive,I.ok.kind]
noncomputable def L4(a:TE):TS:=λD O H=>a O H λ_ b=>D.nx O b
def ja{pos:Pos}(he:`xgz)(d:{`q3,swapsWith e M pos.line X.env=pure B}):PS X `xhP (L4 te):=by
 intro a s O H D I h;calc wpAny_Expr_any (thn (he _ s O H _ I h) λv s1=>Px λx g=>oe λf r1 b=>{O,g,f,(b)}) I.quiet d
noncomputable def NT(a:TE):TS:=λD O H=>a O H D.rt
def ve(he:`xgz):PS X {`xbk,e} (NT te):=by
 intro a s O H D I h;calc wpAny_Return_some<|thn (he _ s O H _ I h) λv s1 d=>?_;ext d x g f r1 b;exact{x,O,g,f,r1,(b)}
noncomputable def NY(c:TT)(t u:TS):TS:=λD O H=>c O H λb a=>if b=J then t D O a else u D O a
def Ji(m:PT X c f)(o:Rq X a t)(n:Rq X b u):PS X (.If c a b pos) (NY f t u):=by
 intro i s O H D I h;calc wpAny_If<|thn (m _ s O H _ I h) λd s1 p=>?_;ext p l j g;cases d with
 |true=>calc o _ s1 O l D j g
 |false=>calc n _ s1 O l D j g
end
abbrev TG:=V->St->Hp->(St->Hp->Prop)->Prop
abbrev TGs:=List V->St->Hp->(St->Hp->Prop)->Prop
def PG(X:Cx)(a:Expr)(t:TG):Prop :=
 ∀(b:Xz)(s:On)(O:St)(H:Hp)(v:V)(u:Re)(Q:St->Hp->Prop),Inv X b O H s->RelV v u->t v O H Q →
  SB `a_ X.A (assign a X.env u) (λ_ f=>∃d e,Inv X b d e f/\Q d e) X.xe s
def PGs(X:Cx)(g:`i2)(t:TGs):Prop :=
 ∀(a:Xz)(s:On)(O:St)(H:Hp)(b:`cg)(d:Vq)(Q:St->Hp->Prop),Inv X a O H s->aS b d->t b O H Q →
  SB `a_ X.A (assignInOrder (({`q_,g}).map (·.2)) d) (λ_ h=>∃e f,Inv X a e f h/\Q e f) X.xe s
abbrev Hl:=V->V->V->Hp->(Hp->Prop)->Prop
def Lb(X:Cx)(t:Hl):Prop :=
 ∀(a:Xz)(s:On)(O:St)(H:Hp)(o i v:V)(b iv u:Re)(Q:Hp->Prop),Inv X a O H s->RelV o b->RelV i iv->RelV v u->t o i v H Q →
  SB `a_ X.A (setItem b iv u) (λ_ e=>∃d,Inv X a O d e/\Q d) X.xe s
noncomputable def EV(i:Nat):TG:=λv O H Q=>Q `A3 H
def Ao{X:Cx}(f:X.N.Nodup)(d:X.N[i]?=Y x)(b:{`Op,x})(e:{`q0,Ua4 X x}):PG X `xfo (EV i):=by
 intro a s O H v u Q I r h;calc wpAny_assign_Name<|xF I f d b r (λj g=>{_,H,g,(h)}) e
noncomputable def NH:TGs:=λa O H Q=>a=[]/\Q O H
noncomputable def MN(t:TG)(u:TGs):TGs:=λa O H Q=>∃v r,a=v::r/\t v O H λb d=>u r b d Q
def FY:PGs X [] NH:=by
 intro a s O H b d Q I r h;ext h e h;subst e;cases r;calc assignInOrder_nil {O,H,I,(h)}
def Eo(l:PG X e t)(j:PGs X a u)(g:{`q3,({`q_,e::a}).map (·.2)=assign e X.env::({`q_,a}).map (·.2)}):PGs X (e::a) (MN t u):=by
 intro b s O H o q Q I r h;ext h v p e1 h;subst e1;cases r with
 |cons r d =>
  rw[g];calc assignInOrder_cons<|thn (l _ s O H _ _ _ I r h) λ_ s1 i=>?_;ext i w n m f;calc j _ s1 _ n _ _ Q m d f
def l9(K:W0)(n:Nat)(t:TGs):TG:=λv O H Q=>∃a b,v=.ref a/\P8 K H a b/\⇑b=n/\t b O H Q
def JQ{X:Cx}(q:`Ch)(h:PGs X d t)(p:{`q3,⇑({`q_,d})=n})(w:{`q3,({`q_,d}).findIdx? (·.1)=M}):PG X {`xdj,d,k} (l9 X.K n t):=by
 intro g s O H v u Q I r hw;ext hw a i e1 m hl hw;subst e1;cases r;exists I.tuple m,z,f,l,x;calc assign_Tuple_tuple (I.ok.hd q) l (by simp[p,<-hl,⇑f]) w λy j=>?_;calc h _ _ O H i _ Q (I.kept (t':=s.toks) λb o e=>j b o `xgy e) (by simpa using f) hw
noncomputable def ML(a b:TE)(t:Hl):TG:=λv O H Q=>a O H λo f=>b O f λi e=>t o i v e λd=>Q O d
def tY(p:PE X o b)(q:PE X i d)(n:Lb X t)(w:{`q2,Ua2 o i pos X}):PG X (.Subscript o i pos) (ML b d t):=by
 intro e s O H v u Q I r h;rw[w];calc Zy<|Yb<|thn (p _ s O H _ I h) λm s1 a=>?_;calc Oo a λx F=>oe λC r1 l=>?_;calc Zy<|Yb<|thn (q _ s1 O F _ C l) λiv f a=>?_;calc Oo a λy E=>oe λA r2 j=>?_;calc Zy<|wpAny_standAt<|Zy<|Yb<|thn (n _ f O E x y v m iv u _ A r1 r2 r j) λ_ G a=>?_;ext a D z g;calc wpAny_release {O,D,z,(g)}
noncomputable def LY(a:TE)(g:TG):TS:=λD O H=>a O H λx b=>g x O b D.nx
def qA{pos:Pos}(he:PE X e b)(j:PG X a g)(i:{`q3,swapsWithSole [a] e pos.line X.env=pure B})(hw:{`q3,swappedStores [a] e X.env=pure M})(m:{`q3,(assignEach [a] X.env).map (·.2)=[assign a X.env]}):PS X (.Assign [a] e pos) (LY b g):=by
 intro d s O H D I h;calc wpAny_Assign_stores (thn (he _ s O H _ I h) λv s1 l=>?_) i hw;calc Oo l λx o=>oe λn r1 f=>?_;rw[m];calc thn (j _ s1 O o x v _ n r1 f) λ_ p q=>q
def uo{X:Cx}(o:X.N.Nodup)(l:X.N[i]?=Y x)(g:{`Op,x})(he:PE X e b)(j:{`q3,Ua3 e x a pos X})(m:{`q0,Ua4 X x}) :
  PS X (.Assign [.Name x a] e pos) (LY b<|EV i):=by
 intro d s O H D I h;calc wpAny_Assign_Name (thn (he _ s O H _ I h) λv s1 n=>?_) j;calc Oo n λy r=>oe λq r1 f=>?_;calc xF q o l g r1 (λt p=>{_,r,p,(f)}) m
def Kk(c:TT)(g:TS):TS:=λD O H=>∃W:Nat->St->Hp->Prop,(∃m,W m O H)/\∀m O H,W m O H →
 c O H λb e=>if b=J then ∃N:St->Hp->Prop,(∀d f,N d f->∃a,a<m/\W a d f)/\g { D with nx:=N,ct:=N,bk:=D.nx } O e else D.nx O e
def CF{X:Cx}(r:`EQ)(Q:PT X c o)(R:Rq X a p):PS X (.While c a [] pos) (Kk o p):=by
 intro q s O H D I h;ext h W ⟨P,E⟩ turn;calc wpAny_While<|codeAny_whileLoop (λn G=>∃t z,Inv X _ t z G/\W n t z) ?_ P {O,H,I,(E)};rintro n s1 ⟨O1,y,Z,C⟩;calc Wz r<|thn (Q _ s1 _ y _ Z<|turn n _ y C) λb F S=>?_;ext S x u g;cases b with
 |true =>
  ext g N hN g;rw[Zp L];calc Wz r<|thn (R _ F _ x _ u g) λf s3 e=>?_;cases f with
  |next =>
   ext e U d m j;exists hN _ d j,l,hm,i;exact{l,hm,_,d,m,(i)}
  |cont =>
   ext e U d m j;exists hN _ d j,l,hm,i;exact{l,hm,_,d,m,(i)}
  |brk=>calc e
  |ret v=>calc e
 |false =>
  rw[Zn Zj];exact V0 {_,x,u,(g)}
set_option genInjectivity false in
structure It where
 go:Nat->Hp->Prop
 yld:Nat->Hp->V->Hp->Prop
 stop:Nat->Hp->Prop
def rS(X:Cx)(a:Xz)(H:Hp)(b:Pv):Prop :=
 H b=M/\b≠X.env.locals/\b∉X.fs/\(b∈X.ex\/X.s₀.heap.objs.size<=b)/\(∀x c,X.env.cells.lookup x=Y c->c≠b)/\∀p∈X.pn++a,p.1≠b
def Inv.fpOk(I:{`p_,a})(d:{`xaI,b})(h:f b=M):rS X a f b:=by
 refine{h,YM<|Zk I.lt d,I.nofs d,.inr<|ZY I.sz d,λx c e z=>?_,λp g z=>?_}
 .exists I.cell x c e,v,q;exact absurd (Zk q.lt (by rw[z];calc d))<|Yl _
 .exact absurd (Zk (Zb (I.pin p g).1) (by rw[z];calc d))<|Yl _
structure Turn(P:UF)(w:XAE)(K:W0)(tg:Expr)(J:It)(fp:Vr)(it:Pv)(tn:Nat->XAD->Prop):Prop where
 mem:it∈fp
 obj:∀i h,tn i h->∀b∈fp,∃o,h.get? b=some o/\∀v,o.data ≠ .cell v
 keep:∀i h h',tn i h->(∀b∈fp,∀o,h.get? b=some o->h'.get? b=some o)->tn i h'
 item:∀(X:Cx),X.prog=P->X.w=w->X.K=K->X.calm=true->∀(i:Nat)(pins:Xz)(s:On)(O:St)(H:Hp)(E:Y2),Inv X pins O H s->(∀b∈fp,rS X pins H b)->tn i s.heap->J.go i H →
  SB `xdY X.A {`x6,it} (λr s1=>∃u,r=some u ∧
   SB `xdY X.A {`xdg,tg,it} (λ_ s2=>∃x H',Inv X pins O H' s2/\RelV x u/\J.yld i H x H'/\tn `I_ s2.heap/\∀b∈fp,H' b=none) E s1) E s
 done:∀(X:Cx),X.prog=P->X.w=w->X.K=K->X.calm=true->∀(i:Nat)(pins:Xz)(s:On)(O:St)(H:Hp)(E:Y2),Inv X pins O H s->(∀b∈fp,rS X pins H b)->tn i s.heap->J.stop i H →
  SB `xdY X.A {`x6,it} (λr s1=>r=none/\Inv X pins O H s1) E s
 self:∀(A:UV)(i:Nat)(s:On)(Q:Y2)(E:Y2),tn i s.heap->Q `xnF s->SB `xdY A {`xoN,`xnF} Q E s
abbrev TI:=St->Hp->(It->Hp->Prop)->Prop
def PIE(X:Cx)(a:Xz)(O:St)(h:Expr)(R:It->Hp->Prop)(d:Re)(g:On):Prop :=
 ∃(it:Pv)(fp:Vr)(f:Nat->XAD->Prop)(J:It)(e:Hp),d=.ref it/\Inv X a O e g/\Turn X.prog X.w X.K h J fp it f/\f 0 g.heap/\(∀b∈fp,rS X a e b)/\R J e
def PI(X:Cx)(e b:Expr)(d:TI):Prop :=
 ∀(a:Xz)(s:On)(O:St)(H:Hp)(R:It->Hp->Prop),Inv X a O H s->d O H R →
  SB `a_ X.A {`r_,b} (λv s1=>SB `a_ X.A (pyIter v) (PIE X a O e R) X.xe s1) X.xe s
def xg{M:Model}{s:On}(f:{`s_,e,o})(h:o.cls=.type n)(g:o.data=.fields b)(i:["enumerate", "zip", "dict_itemiterator", "dict_reverseitemiterator", "odict_iterator", "itertools.zip_longest", "itertools.pairwise"].contains n=B)(a:Q () s):SB M A {`xdg,d,e} Q E s:=by
 cases d<;>first
  |calc Zt a
  | (cases u<;>first
    |calc Zt a
    | (refine Zy<|wpAny_load f ?_
       rw[h,g];show SB M A (if (["enumerate", "zip", "dict_itemiterator", "dict_reverseitemiterator", "odict_iterator", "itertools.zip_longest", "itertools.pairwise"].contains n&&b[0]? == Y _)=J then _ else _) Q E s;rw[Zn<|by grind];calc Zt a))
def Itl(K:W0)(a:Pv):It :=
 {λi H=>∃b x,OD K H a b/\b[i]?=Y x,λi H x d=>d=H/\∀b,OD K H a b->b[i]?=Y x,λi H=>∃b,OD K H a b/\⇑b<=i}
def Itt(K:W0)(a:Pv):It :=
 {λi H=>∃b x,P8 K H a b/\b[i]?=Y x,λi H x d=>d=H/\∀b,P8 K H a b->b[i]?=Y x,λi H=>∃b,P8 K H a b/\⇑b<=i}
noncomputable def Itr(a:Int)(n:Nat):It:={λi _=>i<n,λi H x b=>b=H/\x=.int (a+i),λi _=>n<=i}
def Br{P:UF}{w:XAE}{K:W0}{G:Expr}(a f:Pv):Turn P w K G `xnE [f] f (λi h=>h.IsListIter f a i) where
 mem:=by simp
 obj:=λi h st b hb=>by
  have e:b=f:=by simpa using hb
  subst e;ext st o e c d
  simp_all
 keep:=λi h C st k=>st.at λo e=>k f (by simp) o e
 item:=by
  intro X r hw t A i g s O H E I l st hg;calc ai λU n=>?_;subst r hw t;ext hg F x j q;exists I.list j,Z,m,p,N;exists m.get q,u,R,L;calc TV (l f<|by simp) λz f1 f2 y v f5=>?_;calc n ?_;calc wpAny_pyNext_list_item st p.isList (x:=u) (by simpa using R) λC D sb=>?_;exists id D,o,e,c,d;exact⟨u,rfl,xg e c d `ao {x,H,{`p0,v},L,{rfl,λys Q=>by rw[I.Sv Q j];calc q},D,λb hb=>(l b hb).1}⟩
 done:=by
  intro X r hw t A i g s O H E I l st hg;calc ai λU n=>?_;subst r hw t;ext hg F j q;exists I.list j,Z,m,p,N;calc TV (l f<|by simp) λz f1 f2 y v f5=>?_;calc n ?_;have hl:=⇑m;exact wpAny_pyNext_list_end (I.ok.hd A) st p.isList (by simp;lia) λC S=>{rfl,I.turned {`re,S} z f1 y v f5}
 self:=λ_ _ _ _ _ st h=>wpAny_pyIter_listiter st h
def ye{P:UF}{w:XAE}{K:W0}{G:Expr}(a f:Pv):Turn P w K G `xnD [f] f (λi h=>h.IsTupleIter f a i) where
 mem:=by simp
 obj:=λi h st b hb=>by
  have e:b=f:=by simpa using hb
  subst e;ext st o e c d
  simp_all
 keep:=λi h C st k=>st.at λo e=>k f (by simp) o e
 item:=by
  intro X r hw t A i g s O H E I l st hg;calc ai λU n=>?_;subst r hw t;ext hg F x j q;exists I.tuple j,Z,m,p,N;exists m.get q,u,R,L;calc TV (l f<|by simp) λz f1 f2 y v f5=>?_;calc n ?_;calc wpAny_pyNext_tuple_item st (p) (x:=u) (by simpa using R) λC D sb=>?_;exists id D,o,e,c,d;exact⟨u,rfl,xg e c d `ao {x,H,{`p0,v},L,{rfl,λys Q=>by rw[I.TZ Q j];calc q},D,λb hb=>(l b hb).1}⟩
 done:=by
  intro X r hw t A i g s O H E I l st hg;calc ai λU n=>?_;subst r hw t;ext hg F j q;exists I.tuple j,Z,m,p,N;calc TV (l f<|by simp) λz f1 f2 y v f5=>?_;calc n ?_;have hl:=⇑m;exact wpAny_pyNext_tuple_end (I.ok.hd A) st (p) (by simp;lia) λC S=>{rfl,I.turned {`re,S} z f1 y v f5}
 self:=λ_ _ _ _ _ st h=>wpAny_pyIter_tupleiter st h
def yI{P:UF}{w:XAE}{K:W0}{y:Expr}(a:Pv)(g:Int)(n:Nat):Turn P w K y (Itr g n) [a] a (λi h=>IsRangeIter h a (g+(i:Nat)*1) ((n:Int)-(i:Nat)) 1) where
 mem:=by simp
 obj:=λi h st b hb=>by
  simp_all
 keep:=λi h u st k=>k a (by simp) _ st
 item:=by
  intro X l hw m j i d s O H E I f st hg;subst l hw m;calc TV (f a<|by simp) λr f1 f2 q p f5=>?_;refine(Walks.range (prog:=X.prog) (w:=X.w) (I.ok.hd j) a g 1 n).item i s _ _ hg st λv u D A x z=>?_;ext A t rfl;refine⟨_,rfl,xg x L L `ao {.int _,H,(I.turned (λb o hb e=>z b o (by simpa using hb) e) r f1 q p f5),{t,?_},{rfl,(rfl)},x,λb hb=>(f b hb).1}⟩;rw[Int.mul_one]
 done:=by
  intro X l hw m j i d s O H E I f st hg;subst l hw m;calc TV (f a<|by simp) λr f1 f2 q p f5=>?_;exact wpAny_pyNext_range_end (I.ok.hd j) st (by have:n<=i:=hg;lia) λu C=>{rfl,I.turned {`re,C} r f1 q p f5}
 self:=λ_ _ _ _ _ st h=>wpAny_pyIter_rangeiter st h
def vT{a f:Int}(I:{`p_,d})(m:-(2 ^ 62)<=a)(l:a<2 ^ 62)(j:-(2 ^ 62)<=f)(i:f<2 ^ 62)(q:R (Itr a (f-a).toNat) H):SB `a_ X.A {`xoN,`eH} (PIE X d O tg R) E { s with heap:=s.heap.push { cls:=.type "range",data:=.fields #[.int a t,.int f u,.int 1 v] },toks:=g }:=by
 calc wpAny_pyIter_range (IsRange.new ..) (small_one m l j i) ?_;have h:Inv X _ O H { s with heap:=s.heap.push { cls:=.type "range",data:=.fields #[.int a t,.int f u,.int 1 v] },toks:=g }:=I.kept λb o e=>Zm _ e;refine PM _ _ _ _ H {rfl,h.kept (t':=g) λb o e=>Zm _ e,yI _ a _,?_,λb hb=>?_,q}
 .have e1:a+((0:Nat):Int)*1=a:=by simp
  have e2:(((f-a).toNat:Nat):Int)-((0:Nat):Int)=Builtin.Range.rangeSize a f 1:=by rw[rangeSize_one];split<;>lia
  rw[e1,e2];exact ZZ _ L
 .have e:b=(s.heap.push { cls:=.type "range",data:=.fields #[.int a t,.int f u,.int 1 v] }).objs.size:=by simpa using hb
  subst e;calc h.fpOk (Zq _)<|h.Og.fresh<|Zq _
def Jl(ta:TA):TI:=λO H R=>ta O H λa b=>∃j:Int,a=[.int j]/\-(2 ^ 62)<=j/\j<2 ^ 62/\R (Itr 0 j.toNat) b
def Mz(ta:TA):TI:=λO H R=>ta O H λa b=>∃i j:Int,a=[.int i,.int j]/\(-(2 ^ 62)<=i/\i<2 ^ 62/\-(2 ^ 62)<=j/\j<2 ^ 62)/\R (Itr i (j-i).toNat) b
def sE(o:Gl X "range")(n:X.mg "range" = M)(u:PA X [a] f)(m:{`q3,SL [a] X.env=[(B,eval a X.env)]}):PI X tg (.Call (.Name "range" p) [a] [] d) (Jl f):=by
 intro g s O H R I h;calc Call_<|lu I o n boot_range<|Xd (thn (u _ _ s O H _ I h) λy s1 v=>?_) m L;ext v x z w r1 b;ext b j e b l q;subst e;cases r1 with
 |cons r i =>
  cases i;ext r t rfl;calc call_range_1 (vT w `am `am b l<|by simpa using q)
def Bu(z:Gl X "range")(y:X.mg "range" = M)(A:PA X [a,b] l)(x:{`q3,SL [a,b] X.env=[(B,eval a X.env),(B,eval b X.env)]})(n:{`q3,SL [b] X.env=[(B,eval b X.env)]}) :
  PI X tg (.Call (.Name "range" p) [a,b] [] g) (Mz l):=by
 intro m s O H R I h;calc Call_<|lu I z y boot_range<|Xd (thn (A _ _ s O H _ I h) λF s1 C=>?_) (by rw[x,n]) (by rw[n];rfl);ext C E L D r1 f;ext f i j e ⟨f,w,v,u⟩ q;subst e;cases r1 with
 |cons r d =>
  cases d with
  |cons o d =>
   cases d;ext r t rfl;ext o G rfl;calc call_range_2<|vT D f w v u q
def JE(e:TI)(g:TG)(f:TS):TS:=λD O H=>e O H λJ l=>∃W:Nat->Nat->St->Hp->Prop,(∃m,W 0 m O l)/\∀i m O H,W i m O H →
 (J.stop i H/\D.nx O H)\/(J.go i H/\∃N:St->Hp->Prop,(∀d a,N d a->∃b,b<m/\W `I_ b d a)/\∀x a,J.yld i H x a->g x O a λh j=>f { D with nx:=N,ct:=N,bk:=D.nx } h j)
noncomputable def yg(a:Vr)(h:XAD):Xz:=a.filterMap λb=>(h.get? b).map λo=>(b,o)
def jx{h:XAD}(d:b∈a)(e:h.get? b=Y o):(b,o)∈yg a h:=Wh.mpr {b,d,by rw[e];rfl}
def Bw(d:p∈yg a h):p.1∈a/\h.get? p.1=Y p.2:=by
 exists Wh.mp d,b,hb,e;cases q:h.get? b with
 |none=>rw[q]at e;cases e
 |some o =>
  rw[q]at e;have f:=ZL e;subst f;exact{hb,(q)}
def Inv.pinned(I:{`p_,a})(i:∀b∈f,rS X a H b)(h:∀b∈f,∃o,s.heap.get? b=Y o/\∀v,o.data ≠ .cell v):Inv X (a++yg f s.heap) O H s :=
 I.Tt λp g=>(Zf.mp g).elim (λz=>I.pin p<|ZD _ z) λz=>by
  exists Bw z,hb,e;exists i _ hb,j,f1,f2,_;exists h _ hb,o,l,d
  simp_all
def Inv.P9(I:{`p_,a++b}):Inv X a O H s:=I.Tt λp d=>I.pin p<|ZD _<|YQ _ d
def Kc{X:Cx}(P:`EQ)(hc:X.calm=true)(hi:PI X tg a wi)(hg:PG X tg g)(j:Rq X y tb)(hs:{`q2,∀x,XAF a X.env x=pure x}):PS X (.For tg a y [] U) (JE wi g tb):=by
 intro F s O H D I h;calc wpAny_For (thn (hi _ s O H _ I h) λv s1 h1=>thn h1 λitv s2 h2=>?_) hs;calc ai λP_ k_=>?_;ext h2 it fp tn J H2 e I2 T QY f2 W ⟨m0,w0⟩ turn;subst e;calc k_ ?_;have SW:∀{q:Hp},(∀b∈fp,q b=M)->∀b∈fp,rS X _ q b:=λhn b j=>{hn b j,(f2 b j).2}
 calc codeAny_forLoop_any (λn s'=>∃i R q,Inv X _ R q s'/\tn i s'.heap/\(∀b∈fp,q b=M)/\W i n R q) ?_ m0 {0,O,H2,I2,QY,λb j=>(f2 b j).1,w0};rintro n s3 ⟨i,O3,S,I3,Tr,Q,w3⟩;rcases turn i n _ S w3 with⟨stop,qn⟩|⟨go,N,hN,step⟩
 .refine Wz P<|thn (T.done X L L L hc i _ s3 _ S _ I3 (SW Q) Tr stop) λr s4 C=>?_;ext C Z I4;subst Z;exact V0 {_,S,I4,(qn)}
 .refine Wz P<|thn (T.item X L L L hc i _ s3 _ S _ I3 (SW Q) Tr go) λr s4 C=>?_;ext C u Z h4;subst Z;calc Wz P<|thn h4 λ_ s5 C=>?_;calc Oo C λx H5=>Pf λI5 r5 y5 z fr5=>?_;calc Wz P<|thn (hg _ s5 _ H5 x u _ (I5.pinned (SW fr5)<|T.obj _ _ z) r5<|step x H5 y5) λ_ s6 C=>?_;ext C O6 H6 I6 q6;calc Wz P<|thn (j _ s6 _ H6 _ I6 q6) λf s7 t=>?_;have again:∀{E:St}{p:Hp},Inv X _ _ p s7->N _ p->∃m,m<n/\∃i R q,Inv X F R q s7/\tn i _/\(∀b∈fp,q b=M)/\W i m R q:=λ{E p} l G=>by
   exists hN _ p G,m',hm,w7;refine{m',hm,_,E,p,l.P9,T.keep _ _ _ z λb j o e=>(l.pin _<|ZD _<|ZD _<|jx j e).1,λb j=>?_,w7};exists T.obj _ _ z b j,o,e,d;exact(l.pin _<|ZD _<|ZD _<|jx j e).2.1
  cases f with
  |next=>ext t E p l G;calc again l G
  |cont=>ext t E p l G;calc again l G
  |brk=>ext t E p l t;exact{_,p,l.P9,(t)}
  |ret v=>calc OH t λx7 E p=>oe λl r7 t=>?_;exact{x7,_,p,l.P9,r7,(t)}
abbrev R2:=V->V->Hp->VK->Prop
def OpR(X:Cx)(f:Re->Re->Sem Re)(r:R2):Prop :=
 ∀(a:Xz)(s:On)(O:St)(H:Hp)(x y:V)(v u:Re)(Q:VK),Inv X a O H s->RelV x v->RelV y u->r x y H Q →
  SB `a_ X.A (f v u) `BT X.xe s
def UnR(X:Cx)(f:Re->Sem Re)(r:V->Hp->VK->Prop):Prop :=
 ∀(a:Xz)(s:On)(O:St)(H:Hp)(x:V)(v:Re)(Q:VK),Inv X a O H s->RelV x v->r x H Q →
  SB `a_ X.A (f v) `BT X.xe s
def dU(X:Cx)(f:Re)(r:List V->Hp->VK->Prop):Prop :=
 ∀(a:Xz)(s:On)(O:St)(H:Hp)(b:`cg)(d:Vq)(Q:VK),Inv X a O H s->aS b d->r b H Q →
  SB `a_ X.A (call f d) `BT X.xe s
def Ob(X:Cx)(r:V->Hp->(Bool->Hp->Prop)->Prop):Prop :=
 ∀(a:Xz)(s:On)(O:St)(H:Hp)(x:V)(v:Re)(Q:Bool->Hp->Prop),Inv X a O H s->RelV x v->r x H Q →
  SB `a_ X.A `xfI `xiX X.xe s
noncomputable def tOp(r:R2)(ta a:TE):TE:=λO H Q=>ta O H λx d=>a O d λy b=>r x y b Q
noncomputable def tUn(r:V->Hp->VK->Prop)(ta:TE):TE:=λO H Q=>ta O H λx a=>r x a Q
noncomputable def rI(C:Int->Int->Prop)(g:Int->Int->V):R2:=λx y H Q=>∃i j,x=.int i/\y=.int j/\C i j/\Q `xhO H
noncomputable def Ts(g:Int->Int->V):R2:=λx y H Q=>∃i j,x=.int i/\y=.int j/\Q `xhO H
noncomputable def rU(g:Int->V):V->Hp->VK->Prop:=λx H Q=>∃i,x=.int i/\Q (g i) H
def Lg{X:Cx}{a b:Expr}{ta tb:TE}(r:`G_)(q:`xeA){d:Xz}{s:On}{O:St}{H:Hp}{R:V->V->Hp->Prop}(I:{`p_,d})(h:ta O H λx j=>tb O j λy e=>R x y e){Q:Y2}{f:Re->Re->Sem Re}(p:∀v u g x y e,Inv X d O e g->RelV x v->RelV y u->R x y e->SB `a_ X.A (f v u) Q X.xe g) :
  SB `a_ X.A {`r_,a} (λv m=>SB `a_ X.A {`r_,b} (λu l=>SB `a_ X.A (f v u) Q X.xe l) X.xe m) X.xe s:=by
 calc thn (r _ s O H _ I h) λv s1 i=>?_;calc Oo i λx j=>oe λz r1 o=>?_;calc thn (q _ s1 O j _ z o) λu g i=>?_;ext i y e t r2 n;calc p v u g x y e t r1 r2 n
def CU(j:{`xcv,e})(m:`G_)(l:`xeA):PE X {`xdD,e,b} `xfn:=by
 intro d s O H Q I h;calc wpAny_BinOp<|Lg m l I h λv u f x y o n i g q=>j _ f O o x y v u Q n i g q
def L8(g:UnR X (unaryOp e) r)(i:`G_):PE X (.UnaryOp e a pos) (tUn r ta):=by
 intro d s O H Q I h;calc UnaryOp_<|thn (i _ s O H _ I h) λv s1 j=>?_;ext j x m l r1 f;calc g _ s1 O m x v Q l r1 f
def opI{X:Cx}{f:Re->Re->Sem Re}{C:Int->Int->Prop}{g:Int->Int->Int}(d:∀(i j:Int)(t u:Tok)(s:On)(Q:Y2)(E:Y2),C i j->Q `xkE { s with toks:=s.toks+1 }->SB `a_ X.A {`xbf,u} Q E s) :
  OpR X f {`xcL,C,g i j}:=by
 intro e s O H x y v u Q I n m h;ext h i j rfl rfl o q;ext n t rfl;ext m l rfl;calc d i j t l s _ _ o {.int _,H,I.tok _,{_,(rfl)},q}
def M4{X:Cx}{f:Re->Re->Sem Re}{g:Int->Int->Int}(d:∀(i j:Int)(t u:Tok)(s:On)(Q:Y2)(E:Y2),Q `xkE { s with toks:=s.toks+1 }->SB `a_ X.A {`xbf,u} Q E s) :
  OpR X f {`xaR,g i j}:=by
 intro e s O H x y v u Q I n m h;ext h i j rfl rfl q;ext n t rfl;ext m l rfl;calc d i j t l s _ _ {.int _,H,I.tok _,{_,(rfl)},q}
def Iw{X:Cx}{f:Re->Re->Sem Re}{g:Int->Int->Bool}(d:∀(i j:Int)(t u:Tok)(s:On)(Q:Y2)(E:Y2),Q (.bool `xhO) s->SB `a_ X.A {`xbf,u} Q E s) :
  OpR X f (Ts λi j=>.bl `xhO):=by
 intro e s O H x y v u Q I n m h;ext h i j rfl rfl q;ext n t rfl;ext m l rfl;calc d i j t l s _ _ {.bl _,H,I,rfl,q}
noncomputable def Mi(i j:Int):Prop:=0<j/\j<1073741824
noncomputable def FA(i j:Int):Prop:=(-(2 ^ 64)<i/\i<2 ^ 64)\/(-(2 ^ 64)<j/\j<2 ^ 64)
def FA.ok{i j:Int}(h:FA i j):IntMulOk i j:=by
 rcases h with⟨e,d⟩|⟨e,d⟩
 .exact .of_left `xjZ
 .exact .of_right `xjZ
def Jz:OpR X `xez {`xaR,i+j}:=M4 λ_ _ _ _ _ _ _ q=>add_int q
def uc:OpR X (binaryOp .Sub) {`xaR,i-j}:=M4 λ_ _ _ _ _ _ _ q=>sub_int q
def Lk:OpR X `xmi {`xcL,FA,i*j}:=opI λ_ _ _ _ _ _ _ d q=>mul_int q d.ok
def o9:OpR X (binaryOp .FloorDiv) (rI Mi λi j=>.int<|i/j):=opI λi j _ _ _ _ _ d q=>by
 have f:=d.1;have e:=d.2;calc floordiv_int `am (by rw[Int.fdiv_eq_ediv_of_nonneg i `am];calc q)<|.inl<|PyProof.noPylong_small `bi
def Lp:OpR X (binaryOp .Mod) (rI (λ_ j=>0<j) λi j=>.int<|i%j):=opI λi j _ _ _ _ _ d q=>by
 calc mod_int' `am (by rw[Int.fmod_eq_emod_of_nonneg i `am];calc q)
def unI{X:Cx}{f:Re->Sem Re}{g:Int->Int}(d:∀(i:Int)(t:Tok)(s:On)(Q:Y2)(E:Y2),Q (.int (g i) s.toks) { s with toks:=s.toks+1 }->SB `a_ X.A (f `xhn) Q E s) :
  UnR X f (rU λi=>.int<|g i):=by
 intro e s O H x v Q I j h;ext h i rfl q;ext j t rfl;calc d i t s _ _ {.int _,H,I.tok _,{_,(rfl)},q}
def Kl:UnR X (unaryOp .USub) (rU λi=>.int<|-i):=unI λ_ _ _ _ _ q=>neg_int q
def Kf(I:{`p_,d})(q:Q (.bl k) H)(e:k=f):EP X d O Q (.bool f) s:=by
 subst e;exact{.bl k,H,I,rfl,q}
def Nt:OpR X `xnC (Ts λi j=>.bl (decide (i<j))):=Iw λ_ _ _ _ _ _ _ q=>lt_int q
def LW:OpR X `xlF (Ts λi j=>.bl (decide (i<=j))):=Iw λ_ _ _ _ _ _ _ q=>le_int q
def LR:OpR X (XAC .Gt) (Ts λi j=>.bl (decide (j<i))):=Iw λ_ _ _ _ _ _ _ q=>gt_int q
def MW:OpR X (XAC .GtE) (Ts λi j=>.bl (decide (j<=i))):=Iw λ_ _ _ _ _ _ _ q=>ge_int q
def BM:OpR X `xnC (λx y H Q=>∃i j,x=.str i/\y=.str j/\Q (.bl (decide `Go)) H):=by
 intro d s O H x y v u Q I f e h;ext h i j rfl rfl q;ext f t rfl;ext e g rfl;calc lt_str<|Kf I q L
def OpR.or(h:OpR X f r)(j:OpR X f g):OpR X f (λx y H Q=>r x y H Q\/g x y H Q):=by
 intro i s O H x y v u Q I e d q;obtain q|q:=q
 .exact h _ s O H x y v u Q I e d q
 .exact j _ s O H x y v u Q I e d q
def jT(b:Expr)(h:{`q1,d ≠ .In})(e:{`q1,d ≠ .NotIn}):behindInMarks d b=B:=by
 have e1:(d==CmpOp.In)=B:=by grind
 have e2:`xmj=B:=by grind
 cases b with
 |Set elts k p =>
  show (k==0&&(d==CmpOp.In||d==CmpOp.NotIn)&&_)=B;rw[e1,e2,Bool.or_false,Bool.and_false];rfl
 |_=>rfl
def FV(j:`xaw)(n:`G_)(m:`xeA)(l:{`x_,d}):PE X (.Compare a [d] [b] pos) `xfn:=by
 intro e s O H Q I h;calc wpAny_Compare1 (Lg n m I h λv u f x y p o i g q=>j _ f O p x y v u Q o i g q) l
noncomputable def DT(t:TE):TT:=λO H Q=>t O H λx d=>∃k,x=.bl k/\Q k d
def zB(n:`xaw)(q:`G_)(p:`xeA)(o:{`x_,d}):PT X (.Compare a [d] [b] pos) (DT `xfn):=by
 intro f s O H Q I h;refine wpAny_isTrue_Compare1 (thn (q _ s O H _ I h) λv s1=>Px λx F=>oe λC r1 m=>thn (p _ s1 O F _ C m) λu g ⟨y,E,A,r2,l⟩ =>
  thn (n _ g O E x y v u _ A r1 r2 l) λc G t=>?_) o
 ext t z D w i k e j;subst e;cases i;calc Y0 {D,w,(j)}
noncomputable def DJ(r h:R2)(ta g f:TE):TE:=λO H Q=>ta O H λx l=>g O l λy j=>r x y j λz d=>∃k,z=.bl k ∧
 (if k=J then f O d λe i=>h y e i Q else Q (.bl B) d)
def wo(P:OpR X (XAC g) r)(TC:OpR X (XAC f) i)(Z:`G_)(U:`xeA)(S:PE X c tc)(R:{`q4,lastMarks [g,f] [b,c]=B}):PT X (.Compare a [g,f] [b,c] pos) (DT<|DJ r i ta tb tc):=by
 intro l s O H Q I h;refine isTrue_chain (thn (Z _ s O H _ I h) λv s1=>Px λx H1=>oe λI1 r1 L=>test_link (thn (U _ s1 O H1 _ I1 L) λu w ⟨y,H2,I2,r2,G⟩ =>
  thn (P _ w O H2 x y v u _ I2 r1 r2 G) λd t h_=>?_)) R
 ext h_ z n m D k e j;subst e;cases D;calc Y0 ?_;cases k with
 |false =>
  ext j k' e' N;cases e';calc ite_ff {n,m,(N)}
 |true =>
  calc ite_tt<|test_last<|thn (S _ t O n _ m j) λp q=>Px λo H4=>oe λI4 C F=>thn (TC _ q O H4 y o u p _ I4 r2 C F) λd' s5 ⟨z2,H5,I5,A,k2,e2,E⟩=>?_;subst e2;cases A;calc Y0 {H5,I5,(E)}
def KU(K:W0)(x:V)(H:Hp)(k:Bool):Prop :=
 match x with
 |.non=>k=B
 |.bl b=>k=b
 |.int i=>k=(i != 0)
 |.str y=>⇑y<=Pi/\k=((⇑y:Int) != 0)
 |.byt y=>y.size<=Pi/\k=((y.size:Int) != 0)
 |.ref p=>(∃d,OD K H p d/\k=!d.isEmpty)\/(∃d,P8 K H p d/\k=!d.isEmpty)\/∃e,H p=Y (.dK e)/\k=!e.isEmpty
 |_=>False
def ym{κ:Type}{e:{`xbv,V}}{d:{`xbv,Re}}(r:KV e d):(!d.isEmpty)=!e.isEmpty:=by
 cases r<;>rfl
def rz(r:aS d e):(!e.toArray.isEmpty)=!d.isEmpty:=by
 cases r<;>simp
def tM:(Pi:Nat)<2 ^ 63:=by rw[Xp];decide
def JU:Ob X (λx H Q=>∃k,KU X.K x H k/\Q k H):=by
 intro l s O H x v Q I f h;ext h k e q;have hs:=Xp;cases x with
 |non =>
  cases f;subst e;calc truthy_none {H,I,(q)}
 |bl b =>
  cases f;subst e;calc Y0 {H,I,(q)}
 |int i =>
  ext f t rfl;subst e;calc PySem.P.truthy_int {H,I,(q)}
 |str y =>
  ext f t rfl;obtain⟨u,d⟩:⇑y<=Pi/\k=((⇑y:Int) != 0):=e;subst d;calc PySem.P.truthy_str `am {H,I.tok _,q}
 |byt y =>
  ext f t rfl;obtain⟨u,d⟩:y.size<=Pi/\k=((y.size:Int) != 0):=e;subst d;calc PySem.W.truthy_bytes `am {H,I.tok _,q}
 |ref p =>
  cases f;have d:=e;rcases d with⟨o,g,d⟩|⟨o,g,d⟩|⟨C,g,d⟩
  .subst d;exists I.list g,z,r,j,n;have hlen:=⇑r;exact wpAny_truthy_list j.isList (by simp only[Ya];lia) {H,I.tok _,by rw[rz r];calc q}
  .subst d;exists I.tuple g,z,r,j,n;have hlen:=⇑r;exact truthy_tuple j (by simp only[Ya];lia) {H,I.tok _,by rw[rz r];calc q}
  .subst d;calc TY (I.Og p _ g) λn w=>RB λA=>Pc λr m=>?_;have hlen:=Wb r;calc wpAny_truthy_dict w m `am {H,I.tok _,by rw[ym r];calc q}
 |_=>exact(e).elim
def BP(g:`G_)(he:∀whole,isTrue a X.env whole=(do let v <-whole;standAt a.pos;holding [v] `xfI)) :
  PT X a (λO H Q=>ta O H λx e=>∃k,KU X.K x e k/\Q k e):=by
 intro d s O H Q I h;calc isTrue_plain (thn (g _ s O H _ I h) λv s1=>Px λx j=>oe λi r1 f=>JU _ s1 O j x v Q i r1 f)<|he _
def yf:OpR X `xez (λx y H Q=>∃i j,x=.str i/\y=.str j/\⇑i+⇑j<=Pi/\Q (.str<|i++j) H):=by
 intro d s O H x y v u Q I g f h;ext h i j rfl rfl l q;ext g t rfl;ext f e rfl;calc add_str (λe m=>{.str _,H,I.tok _,{_,(rfl)},q}) l
def vals1(r:aS [x] d):∃u,d=[u]/\RelV x u:=by
 cases r with
 |cons r1 r2=>cases r2;exact{_,rfl,(r1)}
def vals2(r:aS [x,y] e):∃u d,e=[u,d]/\RelV x u/\RelV y d:=by
 cases r with
 |cons r1 r2 =>
  cases r2 with
  |cons g f=>cases f;exact{_,_,rfl,r1,(g)}
def Mg(K:W0)(x:V)(H:Hp)(n:Nat):Prop :=
 match x with
 |.str y=>⇑y<=Pi/\n=⇑y
 |.byt y=>y.size<=Pi/\n=y.size
 |.ref p=>(∃d,OD K H p d/\n=⇑d)\/∃d,P8 K H p d/\n=⇑d
 |_=>False
def C9:dU X (.builtin "len") (λf H Q=>∃x n,f=[x]/\Mg X.K x H n/\Q (.int n) H):=by
 intro m s O H f z Q I r h;ext h x n rfl e q;exists vals1 r,u,rfl,g;have hs:=Xp;cases x with
 |str y =>
  ext g t rfl;obtain⟨v,d⟩:⇑y<=Pi/\n=⇑y:=e;subst d;calc len_str `am {.int _,H,I.tok _,{_,(rfl)},q}
 |byt y =>
  ext g t rfl;obtain⟨v,d⟩:y.size<=Pi/\n=y.size:=e;subst d;calc PySem.W.len_bytes `am {.int _,H,I.tok _,{_,(rfl)},q}
 |ref p =>
  cases g;have d:=e;rcases d with⟨f,l,d⟩|⟨f,l,d⟩
  .subst d;exists I.list l,w,i,j,o;have hlen:=⇑i;exact Calls.call_len_list j.isList (by simp only[Ya];lia) {.int _,H,I.tok _,{_,by simp only[Ya];rw[hlen]},q}
  .subst d;exists I.tuple l,w,i,j,o;have hlen:=⇑i;calc len_tuple j (by simp only[Ya];lia) {.int _,H,I.tok _,{_,by simp only[Ya];rw[hlen]},q}
 |_=>exact(e).elim
structure Tn(h:XAD)(x dx C:Pv)(mA:W3):Prop where
 obj:h.get? x=some {`LE,dx}
 ns:h.Ns1 dx mA
 ne:dx≠x
def Bk{h:XAD}(n:h.Ns1 g f):∃d,h.get? g=Y d/\∀name,PySem.W.lookIn name d=Y (f name):=by
 calc OH n λo m p=>Pf λj hd l _ hm=>?_;refine{o,j,λname=>?_};have e:=hm name;unfold nsFind findBy at e;rw[<-Array.find?_toList]at e;unfold PySem.W.lookIn;rw[hd];dsimp only;split
 .simp_all
 .rename_i q;rw[q]at e;have a:m.toList.any (·.refKey)=B:=by
   rw[List.any_eq_false];intro y i;exists l y (Array.mem_toList_iff.mp i),z,t,b;simp[DictEntry.refKey,b]
  grind
def Tn.look(I:Tn h x d C b):∃a,PySem.W.InstAt h x {`LE,d} C (Y a)/\∀name,PySem.W.lookIn name a=Y (b name) :=
 let ⟨a,e,hl⟩:=Bk I.ns
 {a,{I.obj,rfl,rfl,(e)},hl}
section
variable{A:UV}{K:W0}
def get_map{s:On}(X:`xgx)(I:{`xdB,x,C})(g:{`xdt,K,C})(e:`xgF)(i:{`xdp,K,M})(d:mA name=Y v)(b:PySem.W.handedIn v=true)(h:Q v { s with toks:=s.toks+1 }) :
  SB `ax A {`xds,getAttr,a} Q E s:=by
 ext I.look j J hl;calc PySem.W.get_value X J (VD g).1 (PySem.W.findObj_own e i L<|by rw[hl,d]) b h
def C7{s:On}(X:`xgx)(I:{`xdB,x,C})(a:{`xdt,K,C})(i:{`xdp,K,Y `dt})(g:PySem.W.isFn K `dt=true)(e:mA name=M)(h:Q (.ref f,[.ref x]) s) :
  SB `ax A {`xds,getMethod,b} Q E s:=by
 ext I.look d J hl;calc PySem.W.method_fn X J (VD a).1 (VD a).2 i {`xow,g} (by show (PySem.W.lookIn _ d).map _=Y _;rw[hl,e];rfl) h
def Gh{s:On}(X:`xgx)(I:{`xdB,x,C})(q:PySem.W.findIn K `Ev "__setattr__" = Y (Y<|.builtin "object.__setattr__"))(r:PySem.W.plainOver K C=true)(o:PySem.W.takerIn K C name=Y M)(t:`xgF)(hw:PySem.Within mA l)(p:⇑l<=Pi)(h:∀d,Tn d x dx C (λy=>if y=name then Y v else mA y)->Heap.SameBut dx s.heap d->Q () { s with heap:=d,toks:=s.toks+2 }) :
  SB `ax A {`xds,setAttr,v} Q E s:=by
 ext I.look F J hl;calc PySem.W.set_plain X J q<|PySem.W.osa_open X J r o λb=>?_;exists PySem.W.any_some t,cd,u,i;calc Zy<|Zt<|Zy<|Zy<|wpAny_loadPart I.obj<|Zy<|PySem.W.Looks.here (PySem.W.looks_clsIn X u) ?_;rw[i];calc Zt<|Zy<|Zt<|Zy ?_;calc wpAny_nsSet1 I.ns λd a m=>?_;calc ai λH n=>?_;exists a.count (PySem.Within.cons _ v hw),G,z,D,e,g,j;calc n ?_;calc Zy<|wpAny_lookBehind e (by rw[g];calc pastItsLine_dict<|ZY j<|by simp_all) ?_;calc Zt<|h _ {(m.2 _<|Yg I.ne).trans I.obj,a,I.ne} m
def BW{s:On}(X:`xgx)(e:PySem.W.makesIn K C=J)(i:PySem.W.findIn K `Ev "__init__" = Y (Y `dt))(j:PySem.W.typeIn K `dt=Y (.type "function"))(h:codeAny `ax (A.under<|.builtin "type.__call__" {.ref C::a,b}) (.call `dt {.ref `ul::a,b}) (PySem.W.InitBack `ul R)
   { s with heap:=(`Z0).push {`LE,s.heap.objs.size} }) :
  codeAny `ax A (.call `Ev {a,(b)}) R s:=by
 ext s l g d t os;calc PySem.W.make_core (PySem.W.makes_of X e) (PySem.W.looks_findIn X i) (λself=>PySem.W.bind_fn X _ j) `v4 h
end
noncomputable def jQ(f:Str)(v:V):List (Str×V)->List (Str×V)
 |[]=>[(f,v)]
 | (g,x)::r=>if g=f then (g,v)::r else (g,x)::jQ f v r
theorem oA(f g:Str)(v:V):∀fs:List (Str×V),(`xgw).lookup g=if g=f then Y v else fs.lookup g
 |[]=>by
  show List.lookup g [(f,v)]=_;grind
 | (k,x)::r=>by
  rw[show jQ f v _=(if k=f then (k,v)::r else (k,x)::jQ f v r) from rfl];by_cases a:k=f
  .grind
  .rw[Zn a];by_cases h:g=k
   .grind
   .simp only[List.lookup,{`xaK,h}];exact(oA f g v r)
theorem oh(f:Str)(v:V):∀fs:List (Str×V),f∈(`xgw).map (·.1)/\∀g,g∈fs.map (·.1)->g∈(`xgw).map (·.1)
 |[]=>{by simp[jQ],λg h=>by simp at h}
 | (k,x)::r=>by
  exists oh f v r,b,a;rw[show jQ f v _=(if k=f then (k,v)::r else (k,x)::jQ f v r) from rfl];grind
theorem oF(f:Str)(v:V):∀fs:List (Str×V),⇑(`xgw)<=⇑fs+1
 |[]=>by simp[jQ]
 | (k,x)::r=>by
  rw[show jQ f v _=(if k=f then (k,v)::r else (k,x)::jQ f v r) from rfl];by_cases a:k=f
  .simp_all
  .rw[Zn a,Za,Za];calc Vd<|oF f v r
def j3.some_of{v:V}(r:j3 `xer o):∃u,o=Y u/\RelV v u:=by
 cases o with
 |none=>exact(r).elim
 |some u=>exact{u,rfl,(r)}
def j3.none_of(r:j3 M o):o=M:=by
 cases o with
 |none=>rfl
 |some u=>exact(r).elim
def Bl(r:`xfq):PySem.W.handedIn u=J:=by
 cases v with
 |non=>cases (r);rfl
 |bl b=>cases (r);rfl
 |int i=>exists (r),t,e;cases e;rfl
 |str x=>exists (r),t,e;cases e;rfl
 |byt b=>exists (r),t,e;cases e;rfl
 |flt b=>exists (r),t,e;cases e;rfl
 |ref a=>cases (r);rfl
 |ty n=>cases (r);rfl
section
variable{H:Hp}
def eA(i:`v_)(e:{`R3,Y}):∃b,Tn h a dx C b/\(∀f,j3 `xhU<|b f)/\PySem.Within b (fs.map (·.1))/\⇑fs<=1000/\H dx=Y `xgd:=by
 calc TX (i a _ e) λd z ne g=>RB λb=>oe λn r q=>?_;exact{b,{g,n,(ne)},r,q,z,d}
end
structure QM(K:W0)(C:Pv):Prop where
 pg:PySem.W.plainGet K C Str.empty=true
 hd:PySem.W.hasDictIn K C=true
 po:PySem.W.plainOver K C=true
 sa:PySem.W.findIn K `Ev "__setattr__" = some (some<|.builtin "object.__setattr__")
def QM.get{K:W0}(c:QM K C)(f:Str):PySem.W.plainGet K C f=J:=c.pg
def bj(K:W0)(C:Pv)(f:Str):Prop:=PySem.W.findIn K `Ev f=Y M
def bj.taker{K:W0}(n:bj K C f):PySem.W.takerIn K C f=Y M:=by
 unfold PySem.W.takerIn;rw[n];rfl
structure Meth(K:W0)(C:Pv)(m:Str)(f:Pv):Prop where
 at_:PySem.W.findIn K `Ev m=some (some `dt)
 fn:PySem.W.isFn K `dt=true
 kp:PySem.W.keepIn K `dt=true
section
variable{H:Hp}{A:UV}
def y9(I:`bd)(e:{`R3,Y})(c:`xhN)(n:bj X.K C f)(l:fs.lookup f=Y v)(h:∀u d,Inv X pins O H d->RelV v u->Q u d):SB `a_ A (getAttr `bz f b) Q E s:=by
 calc TU `xjY λm=>Pf λj r _ _ _=>?_;exists j3.some_of (v:=v) (by rw[<-l];calc r f),u,i,g;calc get_map I.QP j (c.get f) c.hd n i (Bl g)<|h u _ (I.tok _) g
def qq(I:`bd)(e:{`R3,Y})(c:`xhN)(k:Meth X.K C m g)(l:fs.lookup m=M)(h:Q (.ref g,[.ref a]) s):SB `a_ A (getMethod `bz m b) Q E s:=by
 calc TU `xjY λi=>Pf λd r _ _ _=>?_;calc C7 I.QP d (c.get m) k.at_ k.fn (j3.none_of (by rw[<-l];calc r m)) h
def yw(I:`bd)(e:{`R3,Y})(c:`xhN)(n:bj X.K C f)(F:⇑fs<1000)(p:`TD)(h:∀l,Inv X pins O {`xcX,H,dx} l->Q () l):SB `a_ A (setAttr `bz f u) Q E s:=by
 calc TU `xjY λD=>Pf λi r j _ m=>?_;calc Gh I.QP i c.sa c.po n.taker c.hd j (by rw[Zu,Xp];lia) λG d sb=>h _ ?_;calc I.write (x:=a) (e:=dx) (by rw[e];calc True.intro) (.inr m) {`xos,sb.2} (let ⟨o,_,_,t,_⟩:=d.ns;{o,(t)}) ?_;refine{by rw[aE i.ne];calc m,?_,i.ne,d.obj,_,d.ns,λg=>?_,λg hg=>?_}
 .have:=oF f y fs;lia
 .rw[oA];by_cases q:g=f
  .rw[Zp q,Zp q];exact p
  simp_all
 .by_cases q:g=f
  .rw[q];exact(oh f y fs).1
  .refine(oh f y fs).2 g<|j g λz=>hg ?_;grind
def Inv.made(I:`bd):Inv X pins O (upd {`xdb,s.heap.objs.size,.own `ul} `ul<|.ins C s.heap.objs.size [])
  { s with heap:=(`Z0).push {`LE,s.heap.objs.size} }:=by
 have e1:(s.heap.push _).get? _=Y PySem.W.emptyDict:=ZZ _ L;have g:=I.laid (o:=.own `ul) (t':=s.toks) (λb u q=>Zm _ q) (Zq _) {_,(e1)};calc g.laid (λb u q=>Zm _ q) (XA<|Xe _ _) ?_;have ne:s.heap.objs.size≠s.heap.objs.size+1:=Zg<|Yk _;refine{by rw[aE ne,av],Pr _,ne,(by
  have:=ZZ `Z0 (o:={`LE,s.heap.objs.size}) L
  rwa [Xe]at this),_,(Heap.Ns1.of_empty<|(UE {e1,rfl,(λe he=>absurd he<|by simp),λ_=>rfl})).at λo q=>Zm _ q,λ_=>True.intro,λy d=>absurd L d}
def Hm{f:Str}{s:On}(j:attributeBase e f d (eval e d)=eval e d)(h:SB (PP b w) A (eval e d) (λo i=>SB (PP b w) A (getAttr o f J) Q E i) E s):SB (PP b w) A (eval {`z3,e,f,g} d) Q E s :=
 Attribute_any_ h (by rw[arm_eval_Attribute,j])
end
def N9(K:W0)(ta:TE)(f:Str):TE:=λO H Q=>ta O H λx b=>∃a C d fs v,x=.ref a/\b a=Y (.ins C d fs)/\QM K C/\bj K C f/\fs.lookup f=Y v/\Q v b
def NM(K:W0)(ta e:TE)(f:Str):TS:=λD O H=>e O H λy g=>ta O g λx d=>∃a C b fs,x=.ref a/\d a=Y (.ins C b fs)/\QM K C/\bj K C f/\⇑fs<1000 ∧
 D.nx O {`xcX,d,b}
def C6(he:PE X e ta)(i:Tj e f X):PE X {`z3,e,f,pos} (N9 X.K ta f):=by
 intro b s O H Q I h;calc Hm i<|thn (he _ s O H _ I h) λu s1 j=>?_;calc Oo j λx t=>oe λr d=>yE5 λa C z fs v=>SK λex m c n l q=>?_;subst ex;obtain rfl:u=Value.ref a:=d;calc y9 r m c n l λw y p g=>{v,t,p,g,(q)}
def Ln{pos:Pos}(r:`xnB)(m:PE X value tv)(p:swapsWith value (Y {`z3,o,f,pos'}) pos.line X.env=pure B):PS X (.Assign [.Attribute o f pos'] value pos) (NM X.K ta tv f):=by
 intro b s O H D I h;calc plainObj_wpAny_Assign_Attribute (thn (m _ s O H _ I h) λu s1=>Px λy E=>oe λA d q=>thn (r _ s1 O E _ A q) λj G t=>?_) p;calc Oo t λx N=>oe λz g=>yE4 λa C L fs=>SK λex v c n l i=>?_;subst ex;obtain rfl:j=Value.ref a:=g;calc yw z v c n l d λF w=>{O,_,w,(i)}
section
variable{H:Hp}{A:UV}
inductive QG(K:W0)(H:Hp):V->Re->Prop where
 |non:QG K H .non (.type "NoneType")
 |bl (x:Bool):QG K H (.bl x) (.type "bool")
 |int (i:Int):QG K H `KE (.type "int")
 |str (x:Str):QG K H (.str x) (.type "str")
 |flt (x:UInt64):QG K H (.flt x) (.type "float")
 |lst {a:Pv} {xs:`cg} (e:{`xoD,.lst xs}):QG K H `bz (.type "list")
 |frz {a:Pv} {o:Obj} {xs:`cg} (e:{`xoD,{`xbF,.lst xs}}):QG K H `bz (.type "list")
 |tup {a:Pv} {xs:`cg} (e:{`xoD,`xfr}):QG K H `bz (.type "tuple")
 |dK {a:Pv} {cp:{`n7,V}} (e:{`xoD,.dK cp}):QG K H `bz (.type "dict")
 |dT {a:Pv} {cp:List `xfL} (e:{`xoD,.dT cp}):QG K H `bz (.type "dict")
 |ins {a C dx:Pv} {fs:{`wP,V}} (e:{`R3,some}) (cl:QM K C) (ha:PySem.W.findIn K `Ev "__class__" = some (some<|.builtin "object.__class__"))
   (hn:PySem.W.specialIn K (.builtin "object.__class__") "__get__" = some (some<|.builtin "getset_descriptor.__get__")) (htk:PySem.W.takesIn K (.builtin "object.__class__")=some true)
   (hm:PySem.W.mroIn K C (.type "object")=some true):QG K H `bz `Ev
def BG(I:`bd)(d:`xkJ)(r:QG X.K H x t)(e:PySem.W.kitOne X.K t c=Y b)(h:∀v,Q (.bool b) { s with toks:=v }) :
  SB `a_ A (call (.builtin "isinstance") [u,c]) Q E s:=by
 cases r with
 |non=>cases (d);calc YB PySem.W.kitx_none I.QP True.intro e (λz=>nomatch z) h
 |bl y=>cases (d);calc YB PySem.W.kitx_bool I.QP True.intro e (λz=>nomatch z) h
 |int i=>exists (d),t,q;cases q;calc YB PySem.W.kitx_int I.QP True.intro e (λz=>nomatch z) h
 |str y=>exists (d),t,q;cases q;calc YB PySem.W.kitx_str I.QP True.intro e (λz=>nomatch z) h
 |flt y=>exists (d),t,q;cases q;calc YB PySem.W.kitx_float I.QP True.intro e (λz=>nomatch z) h
 |@lst a l f =>
  cases (d);exists (I.Og a _ f),_,_,n,_,g
  calc YB PySem.W.kitx_list I.QP {_,g,(rfl)} e (λz=>nomatch z) h
 |@frz a U l f =>
  cases (d);exists (I.Og a _ f),_,_,_,n,_,g
  calc YB PySem.W.kitx_list I.QP {_,g,(rfl)} e (λz=>nomatch z) h
 |@tup a l f =>
  cases (d);exists (I.Og a _ f),_,_,_,_,p
  ext p o g j _;calc YB PySem.W.kitx_tuple I.QP {o,g,(j)} e (λz=>nomatch z) h
 |@dK a N f =>
  cases (d);exists (I.Og a _ f),_,_,R,_,p
  calc OH p λo G L=>oe λg j _=>?_;calc YB PySem.W.kitx_dict I.QP {o,g,(j.1)} e (λz=>nomatch z) h
 |@dT a N f =>
  cases (d);calc TY (I.Og a _ f) λ_ _=>RB λl=>Pc λ_=>UX λo G L=>oe λg j _=>?_;calc YB PySem.W.kitx_dict I.QP {o,g,(j.1)} e (λz=>nomatch z) h
 |@ins a C dx fs f cl F D m hm =>
  cases (d);exists eA I.Og f,Z,P,_;ext P.look S J _;calc YB (PySem.W.kitx_own (cl.get _) cl.hd F D m hm) I.QP J e (λz=>nomatch z) h
end
structure Of(k:Nat)(A:UV):Prop where
 hd:A.handled=none
 dp:A.depth+3*k+5<recursionLimit
 un:A.units+16*k+200<cLine
def Of.mono{k:Nat}(r:Of k A)(h:j<=k):Of j A:=⟨r.hd,by have:=r.dp;lia,by have:=r.un;lia⟩
theorem Of.deeper(r:Of `T5 A)(a:Env):Of k {`xbo,a} :=
 ⟨r.hd,by have:=r.dp;show A.depth+1+3*k+5<_;lia,by have:=r.un;show A.units+3+16*k+200<_;lia⟩
def yG{A:UV}:(A.under<|.builtin "type.__call__" {.ref C::a,b}).depth=A.depth+1:=by
 first|rfl|simp[Around.under,Code.weight,Code.isCreation,Code.isGuard,Code.isCaller,Code.frames,Code.isFrame,guardIds]
def yh{A:UV}:(A.under<|.builtin "type.__call__" {.ref C::a,b}).units=A.units+1:=by
 first|rfl|simp[Around.under,Code.cUnits,Code.frames,Code.isFrame]
def Of.make(r:Of `T5 A)(C:Pv)(a:Vq)(b:{`wP,Re}):Of k (A.under<|.builtin "type.__call__" {.ref C::a,b}) :=
 ⟨r.hd,by have:=r.dp;rw[yG];lia,by have:=r.un;rw[yh];lia⟩
theorem Of.depth(r:Of k A):A.depth<recursionLimit:=by have:=r.dp;lia
theorem Of.units(r:Of k A):A.units+64<cLine:=by have:=r.un;lia
noncomputable def GX:TA:=λ_ H Q=>Q [] H
noncomputable def IJ(ta:TE)(b:TA):TA:=λO H Q=>ta O H λx e=>b O e λa d=>Q (x::a) d
def fG:PA X [] GX:=λ_ _ _ _ H Q I h=>Calls.spliced_nil {[],H,I,.nil,h}
def cf(j:`xgz)(i:`xnA)(g:{`q3,Qv e es X}):PA X `bv (IJ te t):=by
 intro pos b s O H Q I h;rw[g];calc Calls.spliced_cons<|thn (j _ s O H _ I h) λu s1 a=>?_;calc Oo a λx o=>oe λm r1 f=>?_;calc thn (i _ _ s1 O o _ m f) λq r a=>?_;calc Oo a λp n=>oe λl r2 d=>?_;exact{_,n,l,.cons r1 r2,d}
def NJ(t:TA):TE:=λO H Q=>t O H λa b=>⇑a<=Pi/\∀p,b p=M->Q `xal (upd b p `xkD)
def NF(t:TA):TE:=λO H Q=>t O H λa b=>⇑a<=Pi/\∀p,b p=M->Q `xal (upd b p `xhM)
def KY{x1}(h:`xnA):PE X {`xdj,es,x1} (NJ t):=by
 intro a s O H Q I g;calc wpAny_Tuple_spliced<|thn (h _ _ s O H _ I g) λf s1=>Px λi j=>OI λd r z q=>{by rw[<-⇑r];calc z,?_};refine{.ref _,_,d.laid (λb u e=>Zm _ e) (Zq _) ?_,rfl,q _<|d.Og.fresh<|Zq _};exact⟨z,f,r,NoD.of (ZZ _ L) L,{_,ZZ _ L,rfl,_,rfl}⟩
def Le(h:`xnA):PE X `xop (NF t):=by
 intro a s O H Q I g;calc wpAny_List_spliced<|thn (h _ _ s O H _ I g) λf s1=>Px λi j=>OI λd r z q=>{by rw[<-⇑r];calc z,?_};refine{.ref _,_,d.laid (λb u e=>Zm _ e) (Zq _) ?_,rfl,q _<|d.Og.fresh<|Zq _};exact{z,f,0,r,ZZ _ L}
abbrev Sp:=List V->Hp->VK->XK->Prop
abbrev UD:=List Env->Hp->On->XK->Y2
structure Env0(P:UF)(w:XAE)(K:W0)(mg:W3)(base:XAD)(A:UV)(outer:`xeN)(s:On)(H:Hp):Prop where
 frames:A.frames=some outer
 mod:Mod K mg base
 tb:∀b q,Tb base b q->H b=some `xeq
 bs:∀b o,base.get? b=some o->s.heap.get? b=some o/\H b=none
 bsz:base.objs.size<=s.heap.objs.size
 QV:s.heap.FunFrames base outer
 frf:∀b∈QW outer,H b=none
 Og:PZ P w H s.heap
 bare:AllBare s.gens
def CE(a:`xeN)(P:UF)(w:XAE)(H:Hp)(s:On)(Q:VK)(u:Re)(b:On):Prop :=
 ∃v d,b.os=s.os/\AllBare b.gens/\Un (QW a) [] H d s.heap b.heap/\PZ P w d b.heap/\RelV v u/\Q v d
def CR(d:UD)(a:`xeN)(P:UF)(w:XAE)(H:Hp)(s:On)(Q:VK)(E:XK)(r:Result)(b:On):Prop :=
 match r with
 |.ok (.ret u)=>CE a P w H s Q u b
 |.ok _=>False
 |.error e=>d a H s E e b
structure FnOk(P:UF)(w:XAE)(K:W0)(mg:W3)(base:XAD)(CX:UD)(k:Nat)(f:Pv)(fd:SZ)(ps:`e_)(sp:Sp):Prop where
 len:∀vs H Q E,sp vs H Q E->⇑vs=⇑ps
 run:∀(A:UV)(outer:`xeN)(s:On)(H:Hp)(args:Args)(us:Vq)(vs:`cg)(Q:VK)(E:XK),Of k A->Env0 P w K mg base A outer s H->BindsTo s fd args (ps.zip us)->aS vs us->sp vs H Q E →
  codeAny `xdY A (.call `dt args) (CR CX outer P w H s Q E) s
def FnOk.imp{K:W0}(F:FnOk P w K i a l k f j g e)(h:∀b H Q E,d b H Q E->e b H Q E):FnOk P w K i a l k f j g d :=
 {λb H Q E q=>F.len b H Q E<|h _ _ _ _ q,λA outer s H args m b Q E o he hb n hs=>F.run A _ s H _ m b Q E o he hb n<|h _ _ _ _ hs}
def Env0.make{K:W0}(e:Env0 P w K d b A a s H)(C:Pv)(f:Vq)(g:{`wP,Re}) :
  Env0 P w K d b (A.under<|.builtin "type.__call__" {.ref C::f,g}) a s H:={by first|calc e.frames|(simpa[Around.under,Code.envs,Code.isFrame,pushEnvs] using e.frames),e.mod,e.tb,e.bs,e.bsz,e.QV,e.frf,e.Og,e.bare}
section
variable{H:Hp}
def Inv.env0(I:`bd):Env0 X.prog X.w X.K X.mg X.base X.A X.stack s H :=
 {I.ok.frames,I.ok.mod,I.tb,I.bs,ZY I.ok.bsz I.sz,I.stack,I.Tq,I.Og,I.bare}
def Inv.after(I:`bd)(h:CE X.stack X.prog X.w H s Q u s'):EP X pins O Q u s':=by
 calc Oo h λv f=>SK λos bare un Og r q=>?_;ext s' e g d t a;obtain rfl:a=s.os:=os;exact{v,f,I.call (h':=e) (g':=g) (d':=d) (t':=t) (ch:=[]) un Og bare<|λb z=>absurd z<|by simp,r,q}
end
noncomputable def Jp(b:Sp)(d:`cg)(E:XK)(t:TA):TE:=λO H Q=>t O H λa e=>b (a++d) e Q E
def zv(C:Pv)(m:Str)(e:Sp)(g:`cg)(E:XK)(ta:TE)(t:TA):TE:=λO H Q=>ta O H λx b=>∃a f fs,x=.ref a/\b a=Y (.ins C f fs)/\fs.lookup m=M ∧
 t O b λd h=>e (x::(d++g)) h Q E
def EE(C:Pv)(e:Sp)(f:`cg)(E:XK)(t:TA):TE:=λO H Q=>t O H λd b=>∀x a,b x=M->b a=M->a≠x →
 e (.ref x::(d++f)) (upd (upd b a `xhT) x<|.ins C a []) (λv g=>v=.non/\Q `xkH g) E
def Binds(K:W0)(d:SZ)(b:`e_)(ds:Vq):Prop :=
 ∀(s:On)(a:Vq),K.In s.heap->⇑(a++ds)=⇑b->BindsTo s d {a,[]} (b.zip<|a++ds)
def Binds.all{K:W0}{b:`e_}(h:∀a:Vq,⇑a=⇑b->bindArgs d {a,[]}=pure `xnz):Binds K d b []:=λs a _ hl=>by
 rw[ZO]at hl ⊢;calc .of_eq<|h a hl
def jE(d:UD)(X:Cx)(E:XK):Prop:=∀(a:Xz)(O:St)(H:Hp)(s:On)(e:Re)(b:On),Inv X a O H s->d X.stack H s E e b->X.xe e b
def yM{X:Cx}{vs:`cg}(F:`db)(j:`Tm)(n:`wh)(l:`xfm)(i:`xey)(I:{`p_,a})(r:aS vs d)(h:sp (vs++Ry) H Q E):SB `a_ X.A (call `dt d) `BT X.xe s:=by
 have r2:=r.append l;calc wpAny_call<|WJ (F.run _ _ s H _ _ _ Q E j I.env0 (n s d I.QP (by rw[<-⇑r2];calc F.len _ _ _ _ h)) r2 h) λr g b=>?_;cases r with
 |error e=>calc i _ O H s e g I b
 |ok fl =>
  cases fl with
  |ret u=>calc I.after b
  |next=>calc False.elim b
  |brk=>calc False.elim b
  |cont=>calc False.elim b
def uX{X:Cx}(F:`db)(g:`Tm)(l:`xac)(i:X.mg x=Y `dt)(j:{`Sl,X.K,`dt})(u:`wh)(n:`xfm)(d:`xey)(v:`xeL)(y:{`q1,Qx x})(he:{`q3,Qv e es X})(z:{`q3,Qw pos es X}) :
  PE X (.Call `j_ `bv [] pos) (Jp sp Ry E t):=by
 intro a s O H Q I h;calc WX<|pK I l i ?_ y;calc V4 I.ok.mod.kin j (thn (v _ _ s O H _ I h) λG s1=>Px λD L=>oe λb r q=>{b.QP,?_}) he z;calc yM F g u n d b r q
def ur(he:`xnB)(c:`xhN)(d:`xoo)(F:`db)(z:`Tm)(G:`wh)(D:`xfm)(v:`xey)(N:`xeL)(S:{`q3,Qv e es X})(U:{`q3,Qw pos es X})(y:{`q3,UQ o m apos `bv pos X pl}) :
  PE X (.Call `gL `bv [] pos) {`xoL,t}:=by
 intro b s O H Q I h;calc PySem.W.methodCall_KW (pl:=pl) (thn (he _ s O H _ I h) λu s1 P=>?_) y;calc Oo P λx Z=>oe λi j=>UX λa dx fs=>OI λex R l q=>?_;subst ex;obtain rfl:u=Value.ref a:=j;calc qq i R c d l ?_;calc V4 I.ok.mod.kin d.kp (thn (N _ _ s1 O Z _ i q) λus s2=>Px λvs H2=>oe λg r n=>{g.QP,?_}) S U;calc yM (vs:=`xon) F z G D v g (.cons L r) n
def v9(he:`xnB)(c:`xhN)(g:`xoo)(F:`db)(r:`Tm)(y:`wh)(v:`xfm)(j:`xey)(n:{`q3,UQ o m apos [] pos X pl}) :
  PE X (.Call `gL [] [] pos) {`xoL,GX}:=by
 intro d s O H Q I h;calc PySem.W.methodCall_KW (pl:=pl) (thn (he _ s O H _ I h) λu s1 z=>?_) n;calc Oo z λx N=>oe λb i=>UX λa G fs=>OI λex D l q=>?_;subst ex;obtain rfl:u=Value.ref a:=i;calc qq b D c g l ?_;calc PySem.W.callWith_K0 b.QP g.kp<|yM (vs:=[.ref a]) F r y v j b {`LT,L} q
structure Mk(K:W0)(C f:Pv):Prop where
 makes:PySem.W.makesIn K C=true
 init:PySem.W.findIn K `Ev "__init__" = some (some `dt)
 fn:PySem.W.isFn K `dt=true
 kp:PySem.W.keepIn K `Ev=true
def vD{X:Cx}{us:Vq}(M:`xlE)(F:`db)(z:`xlD)(G:`wh)(D:`xfm)(y:`xey)(I:{`p_,a})(r:aS i us)(h:∀x d,H x=none->H d=none->d≠x->sp (.ref x::(i++Ry)) (upd {`xdb,d,.own x} x<|.ins C d []) (λv P=>v=.non/\Q `xkH P) E) :
  SB `a_ X.A (call `Ev us) `BT X.xe s:=by
 have j:=h _ _ (I.Og.fresh<|Wf _) (I.Og.fresh<|Zq _)<|Zg<|Yk _;have g:=Inv.made (C:=C) I;have r2:aS {`xde,`ul,i++Ry} _:=.cons L<|r.append D;refine wpAny_call (BW (f:=f) I.QP M.makes M.init {`xow,M.fn} (WJ (F.run _ _ _ _ _ _ _ _ E (z.make C us [])
  (g.env0.make C us []) (G _ _ g.QP (by
  have e:=⇑r2;rw[F.len _ _ _ _ j]at e;calc e.symm)) r2 j) λr l b=>?_))
 cases r with
 |error e=>calc y _ O _ _ e l g b
 |ok fl =>
  cases fl with
  |ret u =>
   calc Oo (g.after b) λv R=>OI λN n ev q=>?_;subst ev;exact⟨n,{V.ref _,R,N,rfl,q}⟩
  |next=>calc False.elim b
  |brk=>calc False.elim b
  |cont=>calc False.elim b
def HG{X:Cx}(M:`xlE)(F:`db)(g:`xlD)(j:`xac)(i:X.mg x=Y `Ev)(n:`wh)(l:`xfm)(d:`xey)(u:`xeL)(v:{`q1,Qx x})(he:{`q3,Qv e es X})(y:{`q3,Qw pos es X}) :
  PE X (.Call `j_ `bv [] pos) (EE C sp Ry E t):=by
 intro a s O H Q I h;calc WX<|pK I j i ?_ v;calc V4 I.ok.mod.kin M.kp (thn (u _ _ s O H _ I h) λD s1=>Px λz G=>oe λb r q=>{b.QP,?_}) he y;calc vD M F g n l d b r q
def BO{X:Cx}(M:`xlE)(F:`db)(d:`xlD)(i:`xac)(g:X.mg x=Y `Ev)(l:`wh)(j:`xfm)(b:`xey)(n:{`q1,Qx x}):PE X (.Call `j_ [] [] pos) (EE C sp Ry E GX):=by
 intro a s O H Q I h;calc WX<|pK I i g ?_ n;calc PySem.W.callWith_K0 I.QP M.kp<|vD (us:=[]) M F d l j b I .nil h
structure bt(N P:`e_)(sc:Scope):Prop where
 kind:sc.kind=.function
 co:sc.isCoroutine=false
 gen:sc.isGenerator=false
 nd:N.Nodup
 pre:N.take ⇑P=P
 par:∀x∈P,sc.names.lookup x=some .local\/sc.names.lookup x=some .cell
 nofree:∀y∈sc.names,y.2 ≠ .free
theorem sH:∀{binds:{`wP,Re}}{m:W3},(∀v,(x,v)∉binds)->bindL a binds m x=m x
 |[],_,_=>rfl
 | (n,v)::r,m,h=>by
  unfold bindL;rw[sH λw hw=>h w<|Zs _ hw];split
  .grind
  .rfl
theorem sr:∀{binds:{`wP,Re}}{m:W3},(∀v,(x,v)∉binds)->bindC a binds m x=m x
 |[],_,_=>rfl
 | (n,v)::r,m,h=>by
  unfold bindC;rw[sr λw hw=>h w<|Zs _ hw];split
  .rfl
  grind
theorem tu:∀{P:`e_}{b:Vq}{i:Nat}{m:W3},P.Nodup->P[i]?=Y x->b[i]?=Y v->a x=Y .local →
  bindL a (P.zip b) m x=Y v
 |[],_,_,_,_,h,_,_=>by simp at h
 |_::_,[],_,_,_,_,h,_=>by simp at h
 |p::P,w::b,0,m,nd,e,d,f=>by
  simp at e d;subst e;subst d;show bindL _ ((p,w)::P.zip b) m p=_;unfold bindL;rw[sH λv g=>(`ZB).1 (VQ g).1,Zp f];simp
 |p::P,w::b,i+1,m,nd,e,d,f=>by
  unfold bindL;calc tu (i:=i) (`ZB).2 (by simpa using e) (by simpa using d) f
theorem sj:∀{P:`e_}{b:Vq}{i:Nat}{m:W3},P.Nodup->P[i]?=Y x->b[i]?=Y v->a x≠Y .local →
  bindC a (P.zip b) m x=Y v
 |[],_,_,_,_,h,_,_=>by simp at h
 |_::_,[],_,_,_,_,h,_=>by simp at h
 |p::P,w::b,0,m,nd,e,d,f=>by
  simp at e d;subst e;subst d;show bindC _ ((p,w)::P.zip b) m p=_;unfold bindC;rw[sr λv g=>(`ZB).1 (VQ g).1,Zn f];simp
 |p::P,w::b,i+1,m,nd,e,d,f=>by
  unfold bindC;calc sj (i:=i) (`ZB).2 (by simpa using e) (by simpa using d) f
noncomputable def start(N:`e_)(a:`cg):St:=a.map Y++List.replicate (⇑N-⇑a) M
def jD(j:UD)(P:UF)(w:XAE)(K:W0)(m:W3)(i:XAD)(N:`e_)(d:Str)(a:Scope)(f:Pv)(h:Re)(A:UV)(b:`xeN)(s:On)(H:Hp)(E:XK):Cx where
 prog:=P
 w:=w
 K:=K
 mg:=m
 base:=i
 A:=A.deeper {`pi,d,a,h}
 N:=N
 s₀:=s
 H₀:=H
 env:=envOfC d a s.heap.objs.size f h
 outer:=b
 stack:=envOfC d a s.heap.objs.size f h::b
 ex:=[]
 calm:=J
 fn:=λ_=>J
 pn:=[]
 xe:=λe l=>SB `xdY {`xbo,{`pi,d,a,h}} (leaving {`pi,d,a,h} e) (λ_ g=>j b H s E e g) (λn g=>j b H s E n g) l
def xi{a:Scope}(h:a.names.lookup x=Y .cell):∃c,(cellsFrom n a.names []).lookup x=Y c:=by
 calc YE.mp<|PySem.W.cellsFrom_some _ n [] `xfs
def BB{K:W0}{A:UV}{D:`cg}(S:bt N o d)(hd:`F_)(m:Env0 P w K X n A g s H)(hl:⇑D=⇑o)(r:aS D U)(x:InCallC s s.heap.objs.size (bindL ({`pi,j,d,R}).kindOf (o.zip U) λ_=>M) (cellsFrom `ul d.names []) (bindC ({`pi,j,d,R}).kindOf (o.zip U) λ_=>M) Z) :
  Inv `xeP [] (start N D) H Z:=by
 have OP:⇑o<=⇑N:=by have:=ZF List.length S.pre;grind
 ext x.done Q tk rfl hk;have t:∀b:Pv,b∉(`xeP).ex:=λb z=>absurd (show b∈([]) from z) (by simp);refine⟨{m.mod,S.kind,rfl,rfl,Zq _,λy z c Q l=>?_,λy C=>?_,λy c _ h=>?_,λ_=>hd,Around.frames_deeper m.frames,.inr {rfl,(rfl)},λb z=>absurd z<|t b,m.tb,m.bs,m.bsz,λb _ _=>t b,λb z=>absurd z<|t b,m.QV,m.frf},
  rfl,m.bare,Un.kept hk,{_,x.toInCall.ns,λi y v Q l h3=>?_},λy c h=>{_,x.cell y c h},m.Og.fresh<|Zq _,λy c h=>?_,λp G=>absurd (show p∈([]) from G)<|by simp,m.Og.kept hk,?_⟩
 .exact name_of_addr x.apart (Wr Q)<|Wr l
 .have C:=C;obtain C|C:=C
  .exact xi C
  .exact absurd L<|S.nofree _<|Wr C
 .exact ZM `xjn
 .have O:i<⇑D:=by
   unfold start at l;by_cases O:i<⇑D
   .exact O
   .rw[Yw<|by simpa using O]at l;rw[Y1]at l;split at l<;>cases l
  exists r.get (by
   unfold start at l;rw[Yv<|by simpa using O,ZV]at l;cases e:D[i]? with
   |none=>rw[e]at l;cases l
   |some a=>rw[e]at l;cases l;rfl),u,hu,rv
  have G:o[i]?=Y y:=by
   rw[<-S.pre,List.getElem?_take_of_lt `am];exact Q
  have F:o.Nodup:=by rw[<-S.pre];exact S.nd.sublist<|Uv _ _
  refine{u,rv,?_};obtain k|k:=S.par y (ZE G)
  .exact .inl {k,tu F G hu k}
  .exists xi k,c,e;calc .inr {.inl k,c,e,?_};have q:=x.cell y c e;rw[sj F G hu (by show d.names.lookup y≠_;rw[k];decide)]at q;exact q
 .exact m.Og.fresh<|ZM `xjn
 .unfold start;show _=⇑N;grind
def IH{CX:UD}{P:UF}{w:XAE}{K:W0}{X:W3}{i:XAD}{k:Nat}{f:Pv}{j d:Str}{g:Arguments}{h:`xiW}{a:Scope}{dV kV D pm p ct oc:Re}{an od:`xav}{Tu:Array<|Ve}{N U:`e_}{G:Sp}(lk:K.lookup f=Y {oc,od,.func {`xbi,p},Tu})(hcd:PySem.W.codeIn K p d=true)(S:bt N U a)(y:∀m H Q E,G m H Q E->⇑m=⇑U)(Sz:∀(A:UV)(outer:`xeN)(s:On)(H:Hp)(m:`cg)(Q:VK)(E:XK),Of k {`xbo,{`pi,d,a,p}}->G m H Q E →
   ∃t,Rq (jD CX P w K X i N d a f p A outer s H E) h t/\t { nx:=λ_ l=>Q .non l,rt:=Q } (start N m) H) :
  FnOk P w K X i CX `T5 f {`xbi,p} U G:=by
 refine{y,λA outer s H args us m Q E Z C hb r z=>?_};have hl:=y _ _ _ _ z;have KX:=C.mod.kin.keeps λb o e=>(C.bs b o e).1;calc codeAny_call_function Z.depth (KX _ _ lk) L S.co S.gen L (PySem.W.codeRec_of KX hcd)<|hb _ _ _ _ ?_;refine wpAny_newFunctionEnv_cells S.kind (λ⟨n,v⟩ hy=>by
  obtain q|q:=S.par n (VQ hy).1
  .exact .inl q
  .exact .inr {q,PySem.W.cellsFrom_some _ _ _<|.inl q}) λenv he s1 x=>?_
 subst he;refine{(C.mod.nolimit.keeps λb o e=>(C.bs b o e).1).keeps x.toInCall.keep,codeAny_func ?_};exists Sz A _ s H m Q E (Z.deeper _) z,t,ht,hq;calc YC (ht [] s1 _ H _ (BB S Z.hd C hl r x) hq) (λfl O hs=>?_) λe O hs=>hs;have fin:∀{F:St}{l:Hp}{v:V}{u:Re},Inv (jD CX P w K X i N d a f p A _ s H E) [] F l O->RelV v u->Q v l->CE outer P w H s Q u O :=
  λ{F l v u} J R q=>{v,l,J.os,J.bare,J.base,J.Og,R,(q)}
 cases fl with
 |ret u =>
  calc OH hs λv F l=>oe λJ R q=>?_;calc fin J R q
 |next =>
  ext hs F l J q;calc fin (v:=V.non) J L q
 |brk =>
  ext hs _ _ _ q;calc False.elim q
 |cont =>
  ext hs _ _ _ q;calc False.elim q
noncomputable def tCB(r:List V->Hp->VK->Prop)(t:TA):TE:=λO H Q=>t O H λa b=>r a b Q
def qi{X:Cx}{x:Str}{p pos:Pos}{es:`i2}{t:TA}{id:String}{r:List V->Hp->VK->Prop}(m:dU X {`xaV,id} r)(l:`xac)(j:`xfp)(g:{`xz,.builtin id})(n:`xeL)(i:{`q1,x ≠ "__name__"})(o:{`q1,Qx x})(he:{`q3,Qv e es X})(q:{`q3,Qw pos es X}):PE X (.Call `j_ `bv [] pos) (tCB r t):=by
 intro a s O H Q I h;calc WX<|lu I l j g ?_ i o;calc PyProof.Rows.callWith_builtin1 (thn (n _ _ s O H _ I h) λd s1=>Px λb v=>oe λu r1 f=>m _ s1 O v b d Q u r1 f) he q
def kz(m:dU X (.type T) r)(l:`xac)(j:`xfp)(g:{`xz,.type T})(n:`xeL)(i:{`q1,x ≠ "__name__"})(o:{`q1,Qx x})(he:{`q3,Qv e es X})(q:{`q3,Qw pos es X}):PE X (.Call `j_ `bv [] pos) (tCB r t):=by
 intro a s O H Q I h;calc WX<|lu I l j g ?_ i o;calc Xd (thn (n _ _ s O H _ I h) λd s1=>Px λb v=>oe λu r1 f=>m _ s1 O v b d Q u r1 f) he q
end L2
namespace HT
section
variable{A:UV}
noncomputable def PQ(n d:Nat):Option Int->Nat
 |none=>d
 |some v=>if v<0 then (v+(n:Int)).toNat else min v.toNat n
end
end HT
namespace L2
abbrev TO:=St->Hp->(Option Int->Hp->Prop)->Prop
def PO(X:Cx)(e:`xak)(t:TO):Prop :=
 ∀(a:Xz)(s:On)(O:St)(H:Hp)(Q:Option Int->Hp->Prop),Inv X a O H s->t O H Q →
  SB `a_ X.A (evalPart e X.env) (λu d=>∃o b,Inv X a O b d/\IsPart u o/\Q o b) X.xe s
noncomputable def Ir:TO:=λ_ H Q=>Q M H
noncomputable def MH(t:TE):TO:=λO H Q=>t O H λx a=>∃i,x=.int i/\Q (Y i) a
section
variable{lo:`xak}
def zA:PO X M Ir:=by
 intro a s O H Q I h;rw[evalPart_none];calc Zt {_,H,I,.none,h}
def Au(h:`xgz):PO X (Y e) (MH te):=by
 intro a s O H Q I hw;rw[evalPart_some];calc thn (h _ s O H _ I hw) λu s1 d=>?_;ext d x g f r1 b;ext b i rfl q;ext r1 t rfl;exact{_,g,f,.int i t,q}
def SlR(X:Cx)(r:V->Option Int->Option Int->Hp->VK->Prop):Prop :=
 ∀(a:Xz)(s:On)(O:St)(H:Hp)(x:V)(v d b:Re)(lo hi:`lc)(f:Pv)(Q:VK),Inv X a O H s->RelV x v->s.heap.IsSliceOf f d b .none->IsPart d lo->IsPart b hi->r x lo hi H Q →
  ∃T id,typeLookup (.type T) "__getitem__" = pure (Y {`xaV,id})/\s.TypeIs v T/\SB `a_ X.A (getItem v `dt) `BT X.xe s
def SlR.or(h:SlR X r)(l:SlR X g):SlR X (λx lo hi H Q=>r x lo hi H Q\/g x lo hi H Q):=by
 intro j s O H x v b a lo hi d Q I f hs i pu q;obtain q|q:=q
 .exact h _ s O H x v b a lo hi d Q I f hs i pu q
 .exact l _ s O H x v b a lo hi d Q I f hs i pu q
noncomputable def tSl(r:V->Option Int->Option Int->Hp->VK->Prop)(d:TE)(a b:TO):TE:=λO H Q=>d O H λx h=>a O h λl g=>b O g λu f=>r x l u f Q
def vA(y:SlR X r)(he:`xgz)(z:PO X lo tl)(t:PO X hi th):PE X {`xbK,e} (tSl r te tl th):=by
 intro d s O H Q I h;calc Subscript_<|thn (he _ s O H _ I h) λv s1 a=>?_;calc Oo a λx L=>oe λE r1 o=>?_;calc wpAny_Slice<|thn (z _ s1 O L _ E o) λg j=>Px λl G=>oe λD p n=>thn (t _ j O G _ D n) λf i a=>?_;calc Oo a λu F=>oe λC pu m=>?_;rw[evalPart_none];calc Zt ?_;calc Oo (y _ _ O F x v g f l u _ Q (C.kept (t':=i.toks) λb N q=>Zm _ q) r1 (Heap.IsSliceOf.new ..) p pu m) λT id=>oe λA w hg=>?_;calc tail_any w A hg (by with_unfolding_all rfl)
def DY(a:`cg)(b d:`lc):List V:=(a.drop<|HT.PQ ⇑a 0 b).take {`S7,⇑a,d,b}
def vH(a:`cg)(b d:`lc):⇑(DY a b d)<=⇑a:=by
 unfold DY;rw[Xr,Yj];lia
end
noncomputable def ixN(n:Nat)(i:Int):Option Nat:=if 0<=i then (if i<n then Y i.toNat else M) else if -(n:Int)<=i then Y (i+n).toNat else M
def atI{α:Type}(a:`ew)(i:Int):Option α:=(ixN ⇑a i).bind λj=>a[j]?
def zN{i:Int}(h:ixN n i=Y j):seqIndex? i n=Y j/\j<n/\-(n:Int)<=i/\i<n:=by
 unfold ixN at h;by_cases h0:0<=i
 .rw[Zp h0]at h;by_cases a:i<n
  .rw[Zp a]at h;exact{by rw[seqIndex_of h0 a,`xkL],by lia,by lia,a}
  simp_all
 .rw[Zn h0]at h;by_cases a:-(n:Int)<=i
  .rw[Zp a]at h;exact{by rw[seqIndex_neg `am a,`xkL],by lia,a,by lia}
  simp_all
def tH{α:Type}{a:`ew}{i:Int}{v:α}(h:atI a i=Y v):∃j,seqIndex? i ⇑a=Y j/\a[j]?=Y v/\j<⇑a/\-(⇑a:Int)<=i/\i<⇑a:=by
 unfold atI at h;cases e:ixN _ i with
 |none=>rw[e]at h;cases h
 |some j =>
  rw[e]at h;exists zN e,g,f,d,b;exact{j,g,h,f,d,(b)}
noncomputable def gI(b:Expr):Prop:=∀o i,subscripted b B o i=operate [o,i] (getItem o i)
def Rb(X:Cx)(r:R2):Prop :=
 ∀(value slice:Expr)(a:Xz)(s:On)(O:St)(H:Hp)(x y:V)(v u:Re)(Q:VK),Inv X a O H s->RelV x v->RelV y u->r x y H Q →
  subscripted slice B v u=operate [v,u] (getItem v u)->SB `a_ X.A (subscriptTail value slice v u) `BT X.xe s
def MtR(X:Cx)(e:String)(r:V->List V->Hp->VK->Prop):Prop :=
 ∀(a:Xz)(s:On)(O:St)(H:Hp)(x:V)(b:`cg)(v:Re)(d:Vq)(Q:VK),Inv X a O H s->RelV x v->aS b d->r x b H Q →
  SB `a_ X.A `xhm `BT X.xe s
def Rb.or(h:Rb X r)(i:Rb X f):Rb X (λx y H Q=>r x y H Q\/f x y H Q):=by
 intro value slice g s O H x y v u Q I e d q hs;obtain q|q:=q
 .exact h _ _ _ s O H x y v u Q I e d q hs
 .exact i _ _ _ s O H x y v u Q I e d q hs
def ox(j:Rb X r)(m:`G_)(l:`xeA)(i:gI b):PE X {`o0,a,pos} `xfn:=by
 intro d s O H Q I h;calc Subscript_<|Lg m l I h λv u e x y o n g f q=>j a b _ e O o x y v u Q n g f q<|i _ _
def Nf(K:W0):R2:=λx y H Q=>∃p d i v,x=.ref p/\y=.int i/\OD K H p d/\atI d i=Y v/\Q v H
def Nv(K:W0):R2:=λx y H Q=>∃p d i v,x=.ref p/\y=.int i/\P8 K H p d/\atI d i=Y v/\Q v H
def MS:R2:=λx y H Q=>∃z i c,x=.str z/\y=.int i/\⇑z<=Pi/\atI z.cps.toList i=Y c/\Q (.str {#[c]}) H
def Aw:Rb X (Nf X.K):=by
 intro value slice g s O H x y v u Q I n m h hs;calc ai λS o=>?_;ext h p L i z rfl rfl A he q;cases n;ext m t rfl;exists I.list A,G,r,d,N;exists tH he,j,f,E,R,D,C;exists r.get E,w,l,F;calc o ?_;have hl:=⇑r;have P:=tM;have fin:EP X _ O Q w s:={z,H,I,F,(q)}
 by_cases h0:0<=i
 .have e:i.toNat=j:=by
   rw[seqIndex_of h0 C]at f;exact ZL f
  exact item_listR d.isList h0 `am (by rw[e];simpa using l) fin hs
 .have e:(i+(G.toArray.size:Int)).toNat=j:=by
   rw[seqIndex_neg `am D]at f
   simp_all
  exact subscriptTail_builtinR (x:=w) d.isList.typeIs slot_list_getitem.lookup
   (wpAny_getItem_list_neg d.isList `am (by simp_all) `am (by rw[e];simpa using l) {rfl,(fin)}) hs
def Ls:Rb X (Nv X.K):=by
 intro value slice e s O H x y v u Q I g f h hs;calc ai λP l=>?_;ext h p D i z rfl rfl m he q;cases g;ext f t rfl;exists I.tuple m,R,r,d,E;exists tH he,j,o,n,N,L,G;exists r.get n,w,A,C;calc l ?_;have F:=tM;exact subscriptTail_builtinR (x:=w) d.typeIs slot_tuple_getitem.lookup
  (getItem_tuple (j:=j) d `am `am (by rw[Ya,<-⇑r];calc o) (by simpa using A) {rfl,({z,H,I,C,(q)})}) hs
def LB:Rb X MS:=by
 intro value slice d s O H x y v u Q I g f h hs;ext h z i c rfl rfl p he q;ext g t rfl;ext f o rfl;calc TU (tH he) λj=>Pf λe n w m l=>?_;have hl:⇑z.cps.toList=⇑z:=by simp[Str.length]
 rw[hl]at e m l;have r:=tM;exact tail_any (typeIs_str s z t) slot_str_getitem.lookup (getItem_str (c:=c) (by
  grind) (by rw[e];simpa using n) {.str _,H,I.tok _,{_,(rfl)},q}) hs
def rIx(K:W0):R2:=λx y H Q=>Nf K x y H Q\/Nv K x y H Q\/MS x y H Q
def lQ:Rb X (rIx X.K):=Aw.or<|Ls.or LB
def yu(d:Vq)(n j:Nat)(u:Re):Obj.mapSeq (·.setIfInBounds j u) { cls:=.type "list",data:=.seq d.toArray n }={ cls:=.type "list",data:=.seq (d.set j u).toArray n }:=by
 simp[Obj.mapSeq]
theorem Inv.lst{H:Hp}(I:{`p_,d})(h:{`xcN,p,f}) :
  ∃(g:Vq)(n:Nat),aS f g/\s.heap.get? p=Y { cls:=.type "list",data:=.seq g.toArray n }/\⇑f<=sizeLine:=by
 exists I.Og p _ h,z,g,n,r,e;exact{_,n,r,e,(z)}
def Inv.lstUpd{m j:Vq}(I:{`p_,d})(h:{`xcN,p,o})(w:s.heap.get? p=Y { cls:=.type "list",data:=.seq m.toArray n })(l:f { cls:=.type "list",data:=.seq m.toArray n }={ cls:=.type "list",data:=.seq j.toArray i })(r:aS g j)(v:⇑g<=Pi)(t:Nat) :
  Inv X d O {`oX,p,g} { s with heap:=s.heap.update p f,toks:=t }:=by
 have e:(s.heap.update p f).get? p=Y { cls:=.type "list",data:=.seq j.toArray i }:=by
  rw[Ys f w (by rw[l]<;>rfl),l]
 calc I.write (x:=p) (e:=p) (by rw[h];trivial) `v4 (λb u hb q=>(Yp _ _ `xfH).trans q) {_,(e)} ?_;exact{v,_,i,r,(e)}
def IC:V->V->V->Hp->(Hp->Prop)->Prop:=λo i v H Q=>∃p d k j,o=.ref p/\i=.int k/\H p=Y `xkF/\ixN ⇑d k=Y j/\Q {`oX,p,d.set j v}
def set_list:Lb X IC:=by
 intro g s O H o i v G iv u Q I x y w h;calc ai λR z=>?_;ext h p F k j rfl rfl l A q;cases x;ext y t rfl;exists I.lst l,E,n,r,d,L;exists zN A,f,P,D,C;calc z ?_;have hl:=⇑r;have N:=tM;have m :=
  I.lstUpd l d (yu _ n j u) (r.set w j) (by simp_all) s.toks
 by_cases h0:0<=k
 .have e:k.toNat=j:=by
   rw[seqIndex_of h0 C]at f;exact ZL f
  exact PySem.W.ki_setAt d h0 `am (by simp_all) (by rw[e];exact{_,m,(q)})
 .have e:(k+(E.toArray.size:Int)).toNat=j:=by
   rw[seqIndex_neg `am D]at f
   simp_all
  calc PySem.W.ki_setBack d `am (by simp_all) `am (by rw[e];exact{_,m,(q)})
def mxn(a:Int)(n:Nat):max 0 (min a (n:Int))=((min a.toNat n:Nat):Int):=by
 cases a with
 |ofNat k =>
  show max 0 (min (k:Int) _)=((min k n:Nat):Int);obtain h|h:=Nat.le_total k n
  .rw[Int.min_eq_left `xjm,YJ h]
   simp_all
  .rw[Int.min_eq_right `xjm,Up h]
   simp_all
 |negSucc k =>
  rw[Int.min_eq_left<|Int.le_trans {`xbJ,k}<|Vv n,Int.max_eq_left {`xbJ,k}]
  simp_all
def uM(d e:`lc)(n:Nat):({`xbU,n}).1=((HT.PQ n 0 d:Nat):Int)/\({`xbU,n}).2.1=((HT.PQ n n e:Nat):Int)/\({`xbU,n}).2.2=1:=by
 refine{?_,?_,rfl}
 .cases d with
  |none=>simp[sliceBounds,HT.PQ]
  |some i =>
   simp only[sliceBounds,HT.PQ,Option.getD_none,show (1:Int) > 0 by decide,if_true];by_cases h:i<0
   .simp only[h,if_true];rw[mxn,YJ `bi]
   .simp only[h,if_false];exact mxn i n
 .cases e with
  |none=>simp[sliceBounds,HT.PQ]
  |some i =>
   simp only[sliceBounds,HT.PQ,Option.getD_none,show (1:Int) > 0 by decide,if_true];by_cases h:i<0
   .simp only[h,if_true];rw[mxn,YJ `bi]
   .simp only[h,if_false];calc mxn i n
def rY(d:Vq)(e f:`lc):slicePick d.toArray e f M=((d.drop<|HT.PQ ⇑d 0 e).take {`S7,⇑d,f,e}).toArray:=by
 exists uM e f _,i,h,g;unfold slicePick;rw[i,h,g];simp only[sliceRange_one,pick_run,Ya]<;>rfl
def Nr(K:W0):V->Option Int->Option Int->Hp->VK->Prop:=λx lo e H Q=>∃a d,x=.ref a/\OD K H a d/\∀p,H p=M->Q `xal {`oX,p,DY d lo e}
def HC:SlR X (Nr X.K):=by
 intro d s O H x v o n lo m p Q I g hs i pu h;ext h a f rfl l q;cases g;exists I.list l,u,r,e,j;have hlen:=⇑r;calc SJ {slot_list_getitem.lookup,e.isList.typeIs,?_};calc wpAny_getItem_list_slice e.isList hs i pu .none (by simp) ?_ (by grind);rw[rY,<-hlen];refine{.ref _,_,I.laid (λb t q=>Zm _ q) (Zq _) ?_,rfl,q _<|I.Og.fresh<|Zq _};exact{ZY (vH f lo m) j,_,0,(r.drop _).take _,ZZ _ L}
noncomputable def iE:V->Bool
 |.non=>J
 |.bl _=>J
 |.int _=>J
 |.str _=>J
 |_=>B
noncomputable def eqV:V->V->Bool
 |.non,.non=>J
 |.bl a,.bl b=>a==b
 |.bl a,.int b=>(if a then 1 else 0)==b
 |.int a,.bl b=>a==(if b then 1 else 0)
 |.int a,.int b=>a==b
 |.str a,.str b=>a==b
 |_,_=>B
def KL(f:`TD)(d:`xhR)(h:iE y=J)(g:iE x=J):SeqAt.EqAt A s u v (eqV y x):=by
 cases y with
 |non =>
  cases f;cases x with
  |non=>cases d;calc SeqAt.EqAt.same _
  |bl b=>cases d;calc SeqAt.EqAt.none_bool b
  |int b=>ext d t rfl;calc SeqAt.EqAt.none_int b t
  |str b=>ext d t rfl;calc SeqAt.EqAt.none_str b t
  |_=>calc absurd (g) Zj
 |bl a =>
  cases f;cases x with
  |non=>cases d;calc SeqAt.EqAt.bool_none a
  |bl b=>cases d;calc SeqAt.EqAt.bool_bool a b
  |int b=>ext d t rfl;calc SeqAt.EqAt.bool_int a b t
  |str b=>ext d t rfl;calc SeqAt.EqAt.bool_str a b t
  |_=>calc absurd (g) Zj
 |int a =>
  ext f e rfl;cases x with
  |non=>cases d;calc SeqAt.EqAt.int_none a e
  |bl b=>cases d;calc SeqAt.EqAt.int_bool a e b
  |int b=>ext d t rfl;calc SeqAt.EqAt.int_int a e b t
  |str b=>ext d t rfl;calc SeqAt.EqAt.int_str a e b t
  |_=>calc absurd (g) Zj
 |str a =>
  ext f e rfl;cases x with
  |non=>cases d;calc SeqAt.EqAt.str_none a e
  |bl b=>cases d;calc SeqAt.EqAt.str_bool a e b
  |int b=>ext d t rfl;calc SeqAt.EqAt.str_int a e b t
  |str b=>ext d t rfl;calc SeqAt.EqAt.str_str a e b t
  |_=>calc absurd (g) Zj
 |_=>calc absurd (h) Zj
def eqU(x:V)(u:Re):Bool:=match u with
 |.none=>eqV .non x
 |.bool b=>eqV `xfJ x
 |.int i _=>eqV `KE x
 |.str z _=>eqV (.str z) x
 |_=>B
def EJ(r:`TD)(f:iE y=J):eqU x u=eqV y x:=by
 cases y with
 |non=>cases r;rfl
 |bl b=>cases r;rfl
 |int i=>ext r t rfl;rfl
 |str z=>ext r t rfl;rfl
 |_=>calc absurd (f) Zj
def pk:∀{d:`cg}{e:Vq},aS d e->d.all iE=J->e.any `xjX=d.any λy=>eqV y x:=by
 intro d e r f
 induction r with
 |nil=>rfl
 |cons r _ g =>
  rw[Wj,YH]at f;rw[X4,X4,EJ r f.1,g f.2]
def lX(i:`xhR)(l:iE x=J):∀{e:`cg}{g:Vq},aS e g->e.all iE=J->∀u∈g,SeqAt.EqAt A s u v (eqU x u):=by
 intro e g r f
 induction r with
 |nil=>calc λ_ d=>nomatch d
 |cons r _ j =>
  intro h d;rw[Wj,YH]at f;obtain rfl|d:=Zi.mp d
  .rw[EJ r f.1];exact KL r i f.1 l
  .exact j f.2 h d
def inV(x:V)(d:`cg):Bool:=d.any λy=>eqV y x
def rIn(K:W0)(e:Bool):R2:=λx y H Q=>∃p d,y=.ref p/\(OD K H p d\/P8 K H p d)/\iE x=J/\d.all iE=J/\Q (.bl<|if e then !inV x d else inV x d) H
def BN:OpR X `xny (rIn X.K B):=by
 intro i s O H x y v u Q I g l h;ext h p n rfl d j fs q;cases l;obtain d|d:=d
 .exists I.list d,e,r,f,m;calc SeqAt.in_listAt _ f.isList (λw hw=>lX g j r fs w<|by simpa using hw) {.bl _,H,I,rfl,?_};rw[show e.toArray.any _=e.any `xjX by simp,pk r fs];exact q
 .exists I.tuple d,e,r,f,m;calc SeqAt.in_tupleAt _ f (λw hw=>lX g j r fs w<|by simpa using hw) {.bl _,H,I,rfl,?_};rw[show e.toArray.any _=e.any `xjX by simp,pk r fs];calc q
def uP:OpR X `xiV (rIn X.K J):=by
 intro i s O H x y v u Q I g l h;ext h p n rfl d j fs q;cases l;obtain d|d:=d
 .exists I.list d,e,r,f,m;calc SeqAt.notIn_listAt _ f.isList (λw hw=>lX g j r fs w<|by simpa using hw) {.bl _,H,I,rfl,?_};rw[show e.toArray.any _=e.any `xjX by simp,pk r fs];exact q
 .exists I.tuple d,e,r,f,m;calc SeqAt.notIn_tupleAt _ f (λw hw=>lX g j r fs w<|by simpa using hw) {.bl _,H,I,rfl,?_};rw[show e.toArray.any _=e.any `xjX by simp,pk r fs];calc q
def dU.or(h:dU X f r)(j:dU X f g):dU X f (λd H Q=>r d H Q\/g d H Q):=by
 intro i s O H d e Q I rs q;obtain q|q:=q
 .exact h _ s O H d e Q I rs q
 .exact j _ s O H d e Q I rs q
def ug:dU X (.type "list") (λy H Q=>∃p f,y=[.ref p]/\(OD X.K H p f\/P8 X.K H p f)/\∀l,H l=M->Q `z_ {`oX,l,f}):=by
 intro z s O H y D Q I r h;ext h p f rfl m q;exists vals1 r,u,rfl,C;cases C;have fin:∀(t:List _),aS f _->⇑f<=Pi->∀(d:XAD)(i:Nat),(∀b A,s.heap.get? b=Y A->d.get? b=Y A) →
   d.get? _=Y _->EP X _ O Q _ { s with heap:=d }:=λt g j d i kp e =>
  {.ref _,_,I.laid kp (Zq _)<|show dF _ _ _ d _ `xkC from{j,t,i,g,(e)},rfl,q _<|I.Og.fresh<|Zq _}
 obtain m|m:=m
 .exists I.list m,t,g,v,j;have hlen:=⇑g;ext v.isList o w x n hd;exact call_list_seq p `v4 w x hd (λd i kp e=>fin _ g j d i kp e) (by simp_all)
 .exists I.tuple m,t,g,v,j;have hlen:=⇑g;ext v o w x n hd;calc call_list_seq p (.inr L) w x hd (λd i kp e=>fin _ g j d i kp e) (by simp_all)
def rO:dU X (.type "tuple") (λj H Q=>∃p d,j=[.ref p]/\((OD X.K H p d/\∀l,H l=M->Q `z_ {`xch,.tup d})\/(P8 X.K H p d/\Q `xal H))):=by
 intro m s O H j x Q I r h;ext h p d rfl h;exists vals1 r,u,rfl,v;cases v;rcases h with⟨i,q⟩|⟨i,q⟩
 .exists I.list i,w,f,g,n;have hlen:=⇑f;calc call_tuple_list g.isList (λy kp=>?_) (by simp_all);have t:=I.kept (t':=s.toks) kp;exact{.ref _,_,(t.laid (t':=s.toks) (λb o e=>Zm _ e) (Zq _)<|show dF _ _ _ _ _ `xgc from{n,_,f,NoD.new _ _,IsTup.new _ _}),rfl,q _<|t.Og.fresh<|Zq _}
 .exists I.tuple i,w,f,g,n;calc call_tuple_same g {.ref p,H,I,rfl,q}
def tyV(K:W0)(T:String)(x:V)(H:Hp):Prop:=match x with
 |.str _=>T = "str"
 |.int _=>T = "int"
 |.ref p=>(T = "list" ∧ ∃e,OD K H p e)\/(T = "tuple" ∧ ∃o,K.lookup p=Y o/\o.cls=.type "tuple" ∧ o.dict=M) ∨
   (T = "dict" ∧ ((∃d,H p=Y `xnx)\/∃d,H p=Y (.dT d)))\/(T = "set" ∧ ∃S n,H p=Y (.set S n))
 |_=>False
def JM(I:{`p_,f})(r:`xhR)(g:tyV X.K T x H) :
  s.TypeIs v T/\∀a,v=.ref a->∃j,s.heap.get? a=Y j/\j.dict=M:=by
 cases x with
 |str z =>
  ext r t rfl;cases (g);exact{typeIs_str s z t,λ_ e=>nomatch e}
 |int i =>
  ext r t rfl;cases (g);exact{typeIs_int s i t,λ_ e=>nomatch e}
 |ref p =>
  cases r;rcases g with⟨rfl,u,l⟩|⟨rfl,o,d,m,hd⟩|⟨rfl,d⟩|⟨rfl,S,n,d⟩
  .exists I.list l,w,_,h,_;refine{h.isList.typeIs,λa e=>?_};cases e;calc Oo h λo n=>OI λe c hd _=>?_;exact{o,e,(hd)}
  .refine⟨{o,I.QP p o d,m},λa e=>?_⟩;cases e;exact{o,I.QP _ o d,hd}
  .have z:∃o,s.heap.get? p=Y o/\o.ExactDict:=by
    rcases d with⟨q,d⟩|⟨q,d⟩
    .refine TY (I.Og p _ d) λ_ _=>RB λ_=>Pc λ_=>UX λo _ _=>oe λe ex _=>?_;exact{o,e,(ex)}
    .refine TY (I.Og p _ d) λ_ _=>RB λ_=>Pc λ_=>UX λo _ _=>oe λe ex _=>?_;exact{o,e,(ex)}
   ext z o e ex;refine⟨{o,e,(ex.1)},λa e2=>?_⟩;cases e2;exact{o,e,(ex.2.1)}
  .refine Oj (I.Og p _ d) λo _ _ _=>oe λe ex _=>?_;refine⟨{o,e,(ex.1)},λa e2=>?_⟩;cases e2;exact{o,e,(ex.2.1)}
 |_=>calc False.elim g
def tBM(K:W0)(T:String)(r:V->List V->Hp->VK->Prop)(f:TE)(t:TA):TE:=λO H Q=>f O H λx d=>tyV K T x d/\t O d λe g=>r x e g Q
def pV{X:Cx}{o:Expr}{es:`i2}{to:TE}{t:TA}{name:Str}{apos pe:Pos}{T id:String}{r:V->List V->Hp->VK->Prop}(w:PlainAttrs T)(d:Slot T name id)(f:typeOf {`xaV,id}=pure (.type "method_descriptor"))(A:MtR X id r)(z:PE X o to)(C:`xeL)(P:{`q3,Tj o name X})(N:{`q3,Qz pe `bv X})(F:{`q3,`im=J})(y:{`q3,Qv e es X})(G:{`q3,Qw pe es X}) :
  PE X (.Call {`z3,o,name,apos} `bv [] pe) (tBM X.K T r to t):=by
 intro i s O H Q I h;calc wpAny_Call_method_late P N F L<|thn (z _ s O H _ I h) λv s1 g=>?_;calc Oo g λx U=>OI λl r1 ty u=>?_;exists JM l r1 ty,E,D;refine{T,id,w,d,f,E,D,?_};have j:=C pe _ s1 O U _ l u;rw[y]at j ⊢;calc Calls.callWith_builtin (by show (B||(backTo _ _).any _)=B;rw[G]<;>rfl)<|Calls.evalArgs_plain ?_;calc thn j λn p g=>?_;calc Oo g λm S=>oe λR r2 q=>?_;calc A _ p O S x m v n Q R r1 r2 q
def MtM(X:Cx)(e:String)(r:V->List V->Hp->VK->Prop):Prop :=
 ∀(a:Xz)(s:On)(O:St)(H:Hp)(x:V)(b:`cg)(v:Re)(d:Vq)(Q:VK),Inv X a O H s->RelV x v->aS b d->r x b H Q →
  SB `a_ X.A `xhm `BT X.xe s
def aS.nil_inv(h:aS [] a):a=[]:=by
 cases h;rfl
def aS.cons_inv(h:aS (x::a) d):∃u b,d=u::b/\RelV x u/\aS a b:=by
 cases h with
 |cons r t=>exact{_,_,rfl,r,(t)}
def aS.one(h:aS [x] a):∃u,a=[u]/\RelV x u:=by
 ext h.cons_inv u b rfl r t;rw[t.nil_inv];exact{_,rfl,(r)}
theorem aS.eraseIdx:∀{a:`cg}{b:Vq}(i:Nat),aS a b->aS (a.eraseIdx i) (b.eraseIdx i)
 |_,_,_,.nil=>.nil
 |_,_,0,.cons _ t=>t
 |_,_,i+1,.cons r t=>.cons r<|aS.eraseIdx i t
theorem tF{α:Type}:∀(l:`ew)(i:Nat),⇑({`wE,i})<=⇑l
 |[],_=>Zq _
 |_::_,0=>Wf _
 |_::r,i+1=>Vd<|tF r i
section
variable{H:Hp}
def Inv.lset{d a:Vq}(I:`bd)(o:{`xcN,l,xs})(e:s.heap.get? l=Y { cls:=.type "list",data:=.seq d.toArray n })(m:f d.toArray=a.toArray)(i:aS ys a)(h:⇑ys<=Pi) :
  Inv X pins O {`oX,l,ys} { s with heap:=s.heap.update l<|Obj.mapSeq f,toks:=g }:=by
 have q:=PySem.IsL.update e f;rw[m]at q;calc I.write (x:=l) (e:=l) (by rw[o];calc trivial) `v4 (λp u hb j=>(Yp _ _ `xfH).trans j) {_,(q)} ?_;exact{h,_,_,i,(q)}
def Inv.lnew(I:`bd)(f:aS ys a)(e:⇑ys<=Pi) :
  Inv X pins O {`oX,s.heap.objs.size,ys} { s with heap:=s.heap.push { cls:=.type "list",data:=.seq a.toArray },toks:=d } :=
 I.laid (λ_ _ q=>Zm _ q) (Zq _) {e,_,0,f,ZZ _ L}
theorem Inv.fresh(I:`bd):H s.heap.objs.size=M:=I.Og.fresh<|Zq _
def Inv.lstM(I:`bd)(d:{`xcN,l,xs}):⇑xs<=Pi/\∃(a:Vq)(n:Nat),aS xs a/\⇑xs=⇑a/\s.heap.get? l=Y { cls:=.type "list",data:=.seq a.toArray n }:=by
 exists I.Og l _ d,z,a,n,r,e;exact{z,_,n,r,⇑r,e}
end
def AL:V->List V->Hp->VK->Prop:=λx b H Q=>∃l a y,x=.ref l/\b=[y]/\H l=Y `xhM/\⇑a<Pi/\Q .non (upd H l<|.lst<|a++[y])
def iZ:MtM X "list.append" AL:=by
 intro a s O H x o v p Q I d f h;calc ai λt i=>?_;ext h l m y rfl rfl b j q;cases d;ext f.one u rfl g;exists I.lstM b,z,w,n,r,hl,e;calc i ?_;calc call_meets F.slot_list_append {_,e,(rfl)} F.entry_list_append (F.args_list_append_2 _ _) (PySem.list_append l _ n u<|by grind) {e,?_};refine{.non,_,I.lset b e (by simp) (r.append {`LT,g}) ?_,rfl,q};rw[Zr,Ti];calc Nat.succ_le_of_lt j
def DF:V->List V->Hp->VK->Prop:=λx b H Q=>∃l a i k y,x=.ref l/\b=[.int i]/\H l=Y `xhM/\-(2 ^ 63)<=i/\i<2 ^ 63/\seqIndex? i ⇑a=Y k/\a[k]?=Y y/\Q y {`oX,l,a.eraseIdx k}
def C8:MtM X "list.pop" DF:=by
 intro a s O H x L v N Q I f g h;calc ai λP m=>?_;ext h l d i k y rfl rfl A;calc TV A λb D C p o q=>?_;cases f;ext g.one u rfl j;ext j t rfl;exists I.lstM b,z,G,n,r,hl,e;exists r.get o,w,hw,E;calc m ?_;refine call_meets F.slot_list_pop {_,e,(rfl)} F.entry_list_pop (F.args_list_pop_2 _ _)
  (MeetsSeq.list_pop_at l G.toArray n i t k w (fitsIndex_both D C) (by rw[Ya,<-hl];calc p) (by rw[<-Sf];calc hw) (by rw[Ya];lia)) {e,?_}
 refine{y,_,I.lset b e ?_ (r.eraseIdx k) ?_,E,q}
 .rw[List.eraseIdxIfInBounds_toArray]
 .have:=tF d k;calc ZY this z
def MV:R2:=λx y H Q=>∃l b d a,x=.ref l/\y=.ref b/\H l=Y `xkF/\H b=Y `xhM/\⇑d+⇑a<=Pi/\∀p,H p=M->Q `xal {`oX,p,d++a}
def K7:OpR X `xez MV:=by
 intro d s O H x y v u Q I i g h;calc ai λF j=>?_;ext h l b A t rfl rfl m o D q;cases i;cases g;exists I.lstM m,z,f,n,r,hl,e;exists I.lstM o,w,a,C,r2,E,e2;calc j ?_;calc PySem.P.add_list e e2 ?_ (by simp_all);have p:f.toArray++a.toArray=(f++a).toArray:=by simp
 rw[p];exact{.ref _,_,I.lnew (r.append r2)<|by simp_all,rfl,q _ I.fresh}
def len_rep{α:Type}(a:`ew)(k:Nat):({`oD,k,a}).flatten.length=k*⇑a:=by
 simp_all
section
variable{A:UV}
set_option maxRecDepth 100000 in
end
section
variable{κ:Type}[DecidableEq κ]
noncomputable def iN(b:{`xbv,V})(k:κ):Option V:=(b.find? λa=>decide `xnw).map (·.2)
noncomputable def putK(b:{`xbv,V})(k:κ)(v:V):List (κ×V) :=
 if (b.any λa=>decide `xnw)=J then b.map (λa=>if a.1=k then (a.1,v) else a) else b++[(k,v)]
def jW{p:κ×V}(e:p.1=k):iN (p::r) k=Y p.2:=by simp[iN,Yn,e]
def qx{p:κ×V}(e:¬p.1=k):iN (p::r) k=iN r k:=by simp[iN,Yn,e]
theorem wR(k:κ):∀a:List (κ×V),(a.any λb=>decide (b.1=k))=(iN a k).isSome
 |[]=>rfl
 |p::r=>by
  rw[X4];by_cases e:p.1=k
  .simp only[jW e,ZI e,Bool.true_or,Option.isSome_some]
  .rw[qx e,ZP e,Bool.false_or];calc wR k r
def iD(a:{`xbv,V})(k:κ)(v:V):⇑(putK a k v)<=⇑a+1:=by
 unfold putK;split
 .simp_all
 simp_all
def j3.O9(r:j3 o u):o.isSome=u.isSome:=by
 cases o with
 |none=>cases u with
  |none=>rfl
  |some _=>exact(r).elim
 |some _=>cases u with
  |none=>exact(r).elim
  |some _=>rfl
theorem j3.getD{o:`xjo}(r:j3 o u)(b:RelV d a):RelV (o.getD d) (u.getD a):=by
 cases o with
 |none=>cases u with
  |none=>calc b
  |some _=>exact(r).elim
 |some _=>cases u with
  |none=>exact(r).elim
  |some _=>calc r
def KV.val(r:KV g d)(k:κ):j3 (iN g k) (valueAt d k):=by
 induction r with
 |nil=>calc True.intro
 |@cons p q ps a h t i =>
  ext h f j;by_cases e:p.1=k
  .have b:valueAt `xkB k=Y q.2:=by simp[valueAt,Yn,`xmh]
   rw[jW e,b];exact j
  .have l:¬q.1=k:=λz=>e<|f.trans z;have b:valueAt `xkB k=valueAt a k:=by simp[valueAt,Yn,l]
   rw[qx e,b];calc i
theorem KV.any(r:KV d b)(k:κ):(d.any λa=>decide `xnw)=b.any λa=>decide `xnw:=by
 induction r with
 |nil=>rfl
 |cons h t e=>simp_all
def KV.repl(r:KV d b)(k:κ)(f:`TD) :
  KV (d.map λa=>if a.1=k then (a.1,y) else a) (b.map λa=>if a.1=k then (a.1,u) else a):=by
 induction r with
 |nil=>calc .nil
 |@cons p q ps g h t e =>
  rw[Zh,Zh];calc .cons ?_ e;grind
def KV.put(r:KV d a)(k:κ)(b:`TD):KV {`xoG,y} (stored a k u):=by
 unfold putK stored;rw[r.any k];by_cases e:(a.any λf=>decide (f.1=k))=J
 .rw[Zp e,Zp e];exact r.repl k b
 .rw[Zn e,Zn e];calc Paired.snoc r {rfl,(b)}
def KV.keys{b:{`xbv,V}}{a:{`xbv,Re}}(r:KV b a):b.map (·.1)=a.map (·.1):=by
 induction r with
 |nil=>rfl
 |cons h t d=>simp_all
theorem KV.length{b:{`xbv,V}}(r:KV b a):⇑b=⇑a:=Wb r
end
def oB(r:RelV (kV k) u):(`xdZ).is k u=J:=by
 cases k with
 |inl i=>exists (r),t,e;subst e;calc xK P w i t
 |inr x=>exists (r),t,e;subst e;calc wQ P w x t
theorem sC:∀{a:`e9}{b:Vq},aS (a.map kV) b->ItemsAre `xdZ a b
 |[],_,r=>by rw[List.map_nil]at r;cases r;calc .nil
 |k::a,_,r=>by
  rw[Zh]at r;cases r with
  |cons h t=>calc .cons (oB h)<|sC t
abbrev KT(H:Hp):List `xfL->List (List Key×Pv×Re)->Prop:=Paired λp q=>p.1=q.1/\H q.2.1=Y {`xbE,p.1.map kV}/\RelV p.2 q.2.2
def KT.val(r:KT H g d)(k:`e9):j3 (iN g k) ((atKey d k).map (·.2)):=by
 induction r with
 |nil=>calc True.intro
 |@cons p q ps a h t i =>
  ext h f _ j;by_cases e:p.1=k
  .have b:atKey `xkB k=Y q.2:=by simp[atKey,Yn,`xmh]
   rw[jW e,b];exact j
  .have l:¬q.1=k:=λz=>e<|f.trans z;have b:atKey `xkB k=atKey a k:=by simp[atKey,Yn,l]
   rw[qx e,b];calc i
def KT.repl(r:KT H g d)(k:`e9)(i:`TD) :
  KT H (g.map λb=>if b.1=k then (b.1,y) else b) (d.map<|putAt k u):=by
 induction r with
 |nil=>calc .nil
 |@cons p q ps m h t j =>
  rw[Zh,Zh];calc .cons ?_ j;ext h a f l;unfold putAt;by_cases e:p.1=k
  .rw[Zp e,Zp<|a.symm.trans e];exact{a,f,(i)}
  .rw[Zn e,Zn {`xcH,e,a.trans z}];exact{a,f,(l)}
def KT.put(r:KT H d a)(k:`e9)(h:H b=Y `u_)(f:`TD) :
  KT H {`xoG,y} (storedH a k b u):=by
 have e:(d.any λg=>decide (g.1=k))=(atKey a k).isSome:=by
  rw[wR,(r.val k).O9,X7]
 unfold putK storedH;rw[e];by_cases q:(atKey a k).isSome=J
 .rw[Zp q,Zp q];exact r.repl k f
 .rw[Zn q,Zn q];calc Paired.snoc r {rfl,h,(f)}
def KT.keeps(r:KT H e d)(g:∀b a,H b=Y `xkD->f b=Y `xkD):KT f e d :=
 Paired.mapP r λ_ _ z=>{z.1,g _ _ z.2.1,z.2.2}
section
variable{H:Hp}
def IF(b:`v_)(e:Rd H a u):dF P w H h a u:=e.ok b
def oy(f:`v_)(e:Rd H a<|.dK b):⇑b<=Pi/\`vx=B/\∃d,KV b d/\h.DictOf `xdZ a d :=
 IF f e
def xM(f:`v_)(e:`xhL):⇑b<=Pi/\`vx=B/\∃d,KV b d/\h.DictOf `xdZ a d:=oy f<|.inl e
def de{b:`e9}(d:`v_)(e:`xiU):(`J_).is h b a:=by
 exists (d a _ e),_,j,r,_,o,i,g,n,f
 calc Ow o _ n {i,g,f,by simpa using sC r}
def pR(g:`v_)(e:Rd H a<|.dT f):⇑f<=Pi/\`vx=B ∧
  ∃d,KT H f d/\h.DictOfH `J_ a d:=by
 calc ai λG j=>?_;calc TY (IF g e) λz y=>RB λd=>Pc λr=>UX λo D E=>Pf λC A v u s=>?_;calc j ?_;refine⟨z,y,d,r,Ow o D E {C,A,v,u,λx b=>?_,s}⟩;have all:∀{l:List _}{m:List _},KT H l m->∀x∈m,(`J_).is h x.1 x.2.1:=by
  intro l m q
  induction q with
  |nil=>grind
  |@cons p q ps F i t n =>
   intro x b;obtain e|b:=Zi.mp b
   .subst e;exact de g (by rw[<-i.1];calc i.2.1)
   .exact n x b
 calc all r x b
def Mw(f:`v_)(e:H a=Y (.dT b)):⇑b<=Pi/\`vx=B ∧
  ∃d,KT H b d/\h.DictOfH `J_ a d:=pR f<|.inl e
end
def iS(H:Hp)(a:Pv)(y:V)(r:`xjo):Prop :=
 (∃d k,Rd H a `xnx/\y=kV k/\r=iN d k)\/∃d k b,Rd H a (.dT d)/\y=.ref b/\H b=Y `u_/\r=iN d k
def wt(H:Hp)(a:Pv)(y v:V)(e:Hp):Prop :=
 (∃d k,H a=Y `xnx/\y=kV k/\⇑d<Pi/\e=upd H a (.dK {`xoG,v})) ∨
 ∃d k b,H a=Y (.dT d)/\y=.ref b/\H b=Y `u_/\⇑d<Pi/\e=upd H a (.dT {`xoG,v})
theorem iS.k{a:Pv}{b:{`n7,V}}{k:Key}(e:`xhL):iS H a (kV k) (iN b k):=.inl {_,k,.inl e,rfl,rfl}
theorem wt.k{a:Pv}{b:{`n7,V}}{k:Key}{v:V}(e:`xhL)(d:⇑b<Pi):wt H a (kV k) v {`xdb,a,.dK<|putK b k v}:=.inl {_,k,e,rfl,d,(rfl)}
section
variable{H:Hp}{A:UV}
def Inv.big(I:`bd):sysModules<s.heap.objs.size:=by
 calc Y4 `ao<|(I.mod.glob.keeps I.bk).lt
def BL(t:A.units+1<cLine)(I:`bd)(g:iS H a y `xer)(q:`TD)(h:∀d n,Inv X pins O H n->RelV v d->Q d n) :
  SB `a_ A (getItem `bz u) Q E s:=by
 rcases g with⟨D,k,e,i,l⟩|⟨D,k,b,e,i,C,l⟩
 .subst i;exists oy I.Og e,z,hd,G,rel,j;exists j3.some_of (v:=v) (by rw[l];calc rel.val k),d,hw,m;exact wpAny_getItem_of (oB q) j.mapOf hw<|h d _ (I.tok _) m
 .subst i;cases (q);exists pR I.Og e,z,hd,F,rel,j;exists j3.some_of (v:=v) (by rw[l];calc rel.val k),d,hw,m;exists Zx.mp hw,p,x,f;calc wpAny_getItem_heap (WW t) (de I.Og C) j x ?_;rw[f];calc h d _ (I.tok _) m
def Oc(m:A.units+1<cLine)(I:`bd)(g:`xhl)(j:`TD)(h:∀i,Inv X pins O H i->Q (.bool o.isSome) i) :
  SB `a_ A (XAC .In u `bz) Q E s:=by
 rcases g with⟨p,k,e,d,l⟩|⟨p,k,b,e,d,n,l⟩
 .subst d;exists oy I.Og e,z,hd,x,rel,f;calc wpAny_in_of (oB j) hd f.mapOf ?_;rw[<-(`xep).O9,<-l];exact h _<|I.tok _
 .subst d;cases (j);exists pR I.Og e,z,hd,t,rel,f;calc wpAny_in_heap (WW m) (de I.Og n) hd f ?_;have q:=(`xep).O9;rw[X7]at q;rw[<-q,<-l];calc h _<|I.tok _
def GU(m:A.units+1<cLine)(I:`bd)(g:`xhl)(j:`TD)(h:∀i,Inv X pins O H i->Q (.bool<|!o.isSome) i) :
  SB `a_ A (XAC .NotIn u `bz) Q E s:=by
 rcases g with⟨p,k,e,d,l⟩|⟨p,k,b,e,d,n,l⟩
 .subst d;exists oy I.Og e,z,hd,x,rel,f;calc wpAny_notIn_of (oB j) hd f.mapOf ?_;rw[<-(`xep).O9,<-l];exact h _<|I.tok _
 .subst d;cases (j);exists pR I.Og e,z,hd,t,rel,f;calc wpAny_notIn_heap (WW m) (de I.Og n) hd f ?_;have q:=(`xep).O9;rw[X7]at q;rw[<-q,<-l];calc h _<|I.tok _
def pz(I:`bd)(i:Oy `xiT)(j:Heap.SameBut a s.heap d)(he:∃q,d.get? a=Y q)(g:dF X.prog X.w (upd H a f) d a f) :
  Inv X pins O (upd H a f) { s with heap:=d,toks:=h } :=
 I.write (x:=a) (e:=a) i `v4 {`xos,j.2} he g
def uN{f:XAD}{e:{`n7,V}}(z:⇑e<=Pi)(g:`vx=B)(d:KV e b)(h:f.DictOf `xdZ a b) :
  dF P w i f a (.dK e):={z,g,b,d,(h)}
def Bf(G:A.units+1<cLine)(I:`bd)(g:wt H a y v D)(t:`TD)(x:RelV v r)(h:∀p,Inv X pins O D p->Q () p) :
  SB `a_ A (setItem `bz u r) Q E s:=by
 rcases g with⟨n,k,e,i,l,j⟩|⟨n,k,b,e,i,C,l,j⟩
 .subst i j;calc TY (xM I.Og e) λz hd=>RB λvs=>Pc λrel m=>?_;calc wpAny_setItem_pairs (hsz:=(by rw[<-⇑rel];calc z)) (oB t) m λS d hs=>h _ ?_;exact pz I (by rw[e];calc True.intro) hs (let ⟨q,_,_,f,_⟩:=d;{q,(f)})<|uN (by have:=iD n k v;lia) hd (rel.put k x) d
 .subst i j;cases (t);calc TY (Mw I.Og e) λz hd=>RB λxs=>Pc λrel m=>?_;calc wpAny_setItem_heap (hsz:=(by rw[<-Wb rel];calc z)) (WW G) (de I.Og C) m λS d hs=>h _ ?_;calc ai λP_ F=>?_;calc OH d λq U Z=>SK λf R P N _ L=>?_;calc F ?_;calc pz I (by rw[e];calc True.intro) hs {q,(f)} ⟨(by have:=iD n k v;lia),hd,_,(rel.put k C x).keeps λc ys ec=>?_,Ow q U Z {f,R,P,N,(L)}⟩;rw[aE<|Mo ec e (λz=>nomatch z)];calc ec
end
section
variable{H:Hp}{A:UV}
def Nn(I:`bd)(e:Rd H a<|.dK cp)(h:∀t b,Inv X pins O H b->Q (.int ⇑cp t) b):SB `a_ A (call (.builtin "len") [.ref a]) Q E s:=by
 exists oy I.Og e,z,hd,f,rel,d;calc call_len_dict hd d (by rw[<-⇑rel];rw[Xp]at z;lia) ?_;rw[<-⇑rel];calc h _ _<|I.tok _
end
def wD(I:{`p_,d})(g:`xhl):s.TypeIs `bz "dict" := by
 rcases g with⟨h,k,e,_,_⟩|⟨h,k,b,e,_,_,_⟩
 .exists oy I.Og e,_,_,j,_,f;exact f.typeIs
 .exists pR I.Og e,_,_,i,_,f;calc f.typeIs
def xO{w:XAE}(h:XAD)(a:sysModules<h.objs.size):dF P w H (h.push { cls:=.type "dict",data:=.dict #[] }) h.objs.size (.dK []) :=
 {Pr _,beq_eq_false_iff_ne.mpr<|Yg<|Zg a,[],.nil,Heap.DictOf.new h}
def Lz:TE:=λ_ H Q=>∀p,H p=M->Q `xal (upd H p<|.dK [])
def Cs:PE X (.Dict [] [] pos) Lz:=λa s O H Q I h =>
 wpAny_Dict_empty {.ref _,_,I.laid (λ_ _ q=>Zm _ q) (Zq _)<|xO _ I.big,rfl,h _<|I.Og.fresh<|Zq _}
noncomputable def yW:List (TE×TE)->St->Hp->(List (V×V)->Hp->Prop)->Prop
 |[],_,H,Q=>Q [] H
 | (b,a)::r,O,H,Q=>b O H λx f=>a O f λy e=>yW r O e λps d=>Q ((x,y)::ps) d
abbrev VV:List (V×V)->List (Re×Re)->Prop:=Paired λp q=>RelV p.1 q.1/\RelV p.2 q.2
def PPs(X:Cx)(f:Pos)(d:List `xak)(a:`i2)(e:{`xou,TE}):Prop :=
 ∀(b:Xz)(s:On)(O:St)(H:Hp)(Q:List (V×V)->Hp->Prop),Inv X b O H s->yW e O H Q →
  SB `a_ X.A (evalPairs<|pairTrees d a X.env f) (λh i=>∃ps g,Inv X b O g i/\VV ps h/\Q ps g) X.xe s
def Hi:PPs X a [] [] []:=λb s O H Q I h=>pairTrees_nil_walk {[],H,I,.nil,h}
def Cg(t:PE X k f)(q:PE X v e)(r:PPs X b i d a) :
  PPs X b (Y k::i) (v::d) ((f,e)::a):=λg s O H Q I h =>
 pairTrees_cons_walk (thn (t _ s O H _ I h) λu s1=>Px λx E=>oe λA m p=>thn (q _ s1 O E _ A p) λG j ⟨y,D,z,l,o⟩ =>
  thn (r _ j O D _ z o) λF L=>Px λps C=>oe λw rel n=>{_,C,w,.cons {m,(l)} rel,n})
def ui(d a:{`n7,V}):List (Key×V):=a.foldl (λacc b=>putK acc b.1 b.2) d
def KV.merge:∀{more:{`n7,V}}{rs:{`n7,Re}}{b:{`n7,V}}{a:{`n7,Re}},KV more rs->KV b a->KV (ui b more) (merged a rs):=by
 intro more rs b a r
 induction r generalizing b a with
 |nil=>intro q;calc q
 |@cons p q ps g h t f =>
  intro d;have e:KV (putK b p.1 p.2) (stored a q.1 q.2):=by
   have:=d.put p.1 h.2;rw[<-h.1];exact this
  calc f e
theorem kT:∀(more a:{`n7,V}),⇑(ui a more)<=⇑a+⇑more
 |[],a=>by calc ZX _ _
 |p::r,a=>by
  have d:=kT r<|putK a p.1 p.2;have b:=iD a p.1 p.2;show ⇑(ui _ r)<=_;rw[Za];lia
theorem qy{P:UF}{w:XAE}:∀{d:{`n7,V}}{e:{`xou,Re}},VV (d.map λf=>(kV f.1,f.2)) e->∃rs,Carries `xdZ e rs/\KV d rs
 |[],_,r=>by rw[List.map_nil]at r;cases r;exact{[],True.intro,.nil}
 |p::d,_,r=>by
  rw[Zh]at r;cases r with
  |@cons a b j bs h t =>
   exists qy (P:=P) (w:=w) t,rs,c,q;ext b i g;exact{(p.1,g)::rs,{oB h.1,rfl,c},.cons {rfl,(h.2)} q}
def Ni(a:{`xou,TE}):TE:=λO H Q=>∀p,H p=M->yW a O (upd H p<|.dK []) λps e=>e p=Y (.dK [])/\∃b:List (Key×V),ps=b.map (λd=>(kV d.1,d.2))/\⇑b<=15/\Q `xal (upd e p<|.dK<|ui [] b)
def Gp(h:PPs X f a b d)(E:a.all (·.isSome)=J)(u:`xlC)(y:a≠[])(i:⇑a<=15):PE X (.Dict a b f) (Ni d):=by
 intro j s O H Q I q;have F:=I.laid (t':=s.toks) (λ_ _ q=>Zm _ q) (Zq _)<|xO _ I.big;calc wpAny_Dict_walk (knd:=aV _ _) E u y i<|thn (h _ _ O _ _ F<|q _<|I.Og.fresh<|Zq _) λG L v=>?_;calc Oo v λps R=>OI λl rel e=>RB λD=>oe λA lk p=>?_;calc ai λP r=>?_;subst A;exists qy (w:=X.w) rel,rs,c,n;calc TY (xM l.Og e) λz hd=>RB λm=>Pc λo C=>?_;cases o;calc r ?_;refine⟨rs,c,C,λN g hs=>{.ref _,_,?_,rfl,p}⟩;exact pz l (by rw[e];calc True.intro) hs (let ⟨q,_,_,t,_⟩:=g;{q,(t)}) (uN (by
  have x:=kT D [];rw[WG]at x;rw[Xp];lia) hd (n.merge .nil) g)
structure M1(X:Cx)(o:Expr)(m:Str)(apos:Pos)(e:Expr)(pe:Pos):Prop where
 base:Tj o m X
 Te:Qz pe [e] X
 line:`im=true
 trees:backTo pe (SL [e] X.env)=[(false,eval e X.env)]
def IsD(H:Hp)(a:Pv):Prop:=(∃b,Rd H a<|.dK b)\/∃b,Rd H a<|.dT b
def K6(I:{`p_,g})(d:IsD H a) :
  s.TypeIs `bz "dict" ∧ (∀b,Value.ref a=.ref b->∃f,s.heap.get? b=Y f/\f.dict=M)/\`vx=B:=by
 rcases d with⟨l,e⟩|⟨l,e⟩
 .refine TY (oy I.Og e) λ_ hd=>RB λn=>Pc λ_ h=>?_;refine{h.typeIs,λb q=>?_,hd};cases q;calc OH h λf _ _=>oe λj i _=>?_;exact{f,j,(i.2.1)}
 .refine TY (pR I.Og e) λ_ hd=>RB λm=>Pc λ_ h=>?_;refine{h.typeIs,λb q=>?_,hd};cases q;calc OH h λf _ _=>oe λj i _=>?_;exact{f,j,(i.2.1)}
section
variable{H:Hp}{A:UV}
def Jx(q:A.units+1<cLine)(I:`bd)(g:`xhl)(n:`TD)(h:∀j m,Inv X pins O H m->RelV (o.getD .non) j->Q j m) :
  SB `a_ A (call (.builtin "dict.get") [.ref a,u]) Q E s:=by
 rcases g with⟨v,k,e,i,l⟩|⟨v,k,b,e,i,t,l⟩
 .subst i;exists oy I.Og e,z,hd,x,rel,f;calc call_meetsIn VN f.typeIs PySem.F.entry_dict_get (PySem.F.args_dict_get_2 _ _) (meets_dict_get _ a (oB n) hd) {_,f.mapOf,h _ _ (I.tok _) ?_};rw[l];exact(`xep).getD L
 .subst i;cases (n);exists pR I.Og e,z,hd,p,rel,f;calc call_meetsIn VN f.typeIs PySem.F.entry_dict_get (PySem.F.args_dict_get_2 _ _) (meetsH_dict_get _ a b hd) {WW q,k,p,de I.Og t,f,h _ _ (I.tok _) ?_};rw[l];exact(`xep).getD L
end
def Kr(f e:TE):TE:=λO H Q=>f O H λx d=>∃a,x=.ref a/\IsD d a/\e O d λy b=>∃o,iS b a y o/\Q (o.getD .non) b
def Dg{X:Cx}(r:X.A.units+1<cLine)(t:PE X o td)(he:PE X e ty)(m:M1 X o "get" apos e pe):PE X (.Call (.Attribute o "get" apos) [e] [] pe) (Kr td ty):=by
 intro b s O H Q I h;calc wpAny_Call_method m.base m.Te m.line PySem.F.plainAttrs_dict VN PySem.F.type_dict_get<|thn (t _ s O H _ I h) λu s1 v=>?_;calc Oo v λx E=>oe λi n=>RB λa=>oe λex d q=>?_;subst ex;obtain rfl:u=Value.ref a:=n;exists K6 i d,j,t2,_;refine{j,t2,?_};rw[m.trees];calc Calls.callWith_builtin L<|Calls.evalArgs_plain<|Calls.spliced_cons<|thn (he _ s1 O E _ i q) λiv P ⟨y,D,C,l,R,g,p⟩=>Calls.spliced_nil ?_;calc Jx r C g l λG N z w=>{_,D,z,w,(p)}
end L2
namespace Att
open PySem.W PySem.Calls
def oM:∀(ns:Ui)(d:Vq),WellAll P h d `xkA->IntsAre d ns:=by
 intro ns
 induction ns with
 |nil =>
  intro d w;rw[List.map_nil]at w;cases w;calc .nil
 |cons n ns e =>
  intro d w;rw[Zh]at w;cases w with
  |cons a b =>
   cases a;calc .cons _ _<|e _ b
def BF{l:OpenLaw}(q:l.most=Y n)(f:l.row.toRowW.claim.pre b=J)(g:WellAll P h e b) :
  ∃a i ns,e=[Value.ref a]/\b=[WData.list `xkA]/\h.get? a=Y { cls:=.type "list",data:=.seq i.toArray }/\IntsAre i ns/\⇑ns<=n:=by
 have s:l.pre.holds [] _=J:=(`xom).2;exists hasAllW_cons ((`xom).1),d,r,rfl,v,u;obtain rfl:=hasAllW_nil u;exists hasW_list v,x,rfl,t;exists items_int t,ns,rfl;have hlen:⇑ns<=n:=by
  have y:=condW_of (by
   have j:=(holds_andW s).1;rw[q]at j;calc j) (w_not<|w_lt w_lit<|w_len_list<|w_arg L)
  grind
 cases g with
 |cons o m =>
  cases m;cases o with
  |list p w=>exact{_,_,ns,rfl,rfl,p,oM ns _ w,hlen}
def BA(l:OpenLaw)(a:List WData):l.row.toRowW.claim.post a (.bool J) a=J :=
 postW_of
  (by first|rfl|decide|simp[WShape.has,WShape.arms,WShape.armsAll])
  (w_eq_bool (w_res L) w_lit) L
def xB{l:OpenLaw}{d:DefRec}(L:l.most=some n)(v:d.params.defaults=[])(m:∀(w:XAE)(y e:On)(mg s:W3)(j:Pv)(o:Obj)(pm cd doc:Re)(a:Pv)(g:Vq)(ns:Ui),
   Ground q b [] D w y mg s e.heap->C w e.heap →
   e.heap.get? j=some o->o.data=.func (docDef d.name d.params d.body d.scope pm cd doc)->e.heap.CodeRec cd d.name->mg d.name=some (.ref j) →
   e.heap.get? a=some { cls:=.type "list",data:=.seq g.toArray }->IntsAre g ns->⇑ns<=n->e.gens=#[] →
   codeAny (PP l.prog w) callerA (.call (.ref j) {[.ref a],[]}) (λr p=>r=.ok `xfW/\OldK e.heap p.heap/\p.os=e.os/\AllBare p.gens) e) :
  WalkO q b D C l.row.toRowW d [] (λf g=>PySem.call f g):=by
 intro w y e mg s G Y j o pm cd doc R kV H hd x A u hg args vals S h z E t N;obtain rfl:R=.none:=Dflts.none A v;obtain rfl:kV=.none:=Dflts.noKw A;exists BF L h t,a,g,ns,rfl,rfl,i,hints,hlen;calc enter_call<|WJ (m w _ _ mg s j o pm cd _ a g ns G Y H (fd_plain hd) x u i hints hlen hg) λr p F=>?_;ext F rfl Q P O;exact{.inl<|Ow _ _ [] ⟨rfl,λ_=>rfl,.bool _,BA l _,λ_=>{List.Pairwise.nil,λ_ hm=>(nomatch hm)}⟩,Q,P,O}
end Att
namespace L2
theorem sS:∀{a:Vq}{ns:Ui},IntsAre a ns->aS `xeR a
 |_,_,.nil=>.nil
 |_,_,.cons n t h=>.cons {t,(rfl)}<|sS h
noncomputable def Ed(H:Hp):Prop:=∀b,H b=M\/∃o a,H b=Y {`xbF,.lst a}
def EG{K:W0}{f:On}{C:Vq}(KX:K.In f.heap)(t:f.heap.Ns mainGlobals E)(j:f.heap.Ns builtinsNs Q)(U:∀x:Str,x ≠ "__name__" → Q x=bootBuiltins x)(y:f.heap.NoLimit)(hg:f.gens=#[])(X:f.heap.get? a=Y { cls:=.type "list",data:=.seq C.toArray })(hi:IntsAre C D)(hl:⇑D<=Pi)(hr:`xiS)(F:∀base:XAD,K.In base->base.Ns mainGlobals E->FnOk P w K E base CX k fa fd [x] sp)(l:∀(s:On)(u:Re),BindsTo s fd {[u],[]} [(x,u)])(R:∀H:Hp,Ed H->OD K H a (D.map V.int)->sp [.ref a] H (λv _=>v=.bl J) λ_ _ _=>False)(Z:∀H e g,CX [] H f (λ_ _ _=>False) e g->False) :
  codeAny `xdY callerA (.call `xnv {[.ref a],[]}) (λr g=>r=.ok `xfW/\OldK f.heap g.heap/\g.os=f.os/\AllBare g.gens) f:=by
 have rv:=sS hi;have core:∀H:Hp,Ed H->OD K H a (D.map V.int)->PZ P w H f.heap->(∀b,H b≠M->b=a)->(H a≠M->K.lookup a=M) →
   codeAny `xdY callerA (.call `xnv {[.ref a],[]}) (λr g=>r=.ok `xfW/\OldK f.heap g.heap/\g.os=f.os/\AllBare g.gens) f:=by
  intro H hO hS Og hA hK;have TM:∀{b:Pv}{o:Obj},f.heap.get? b=Y o->H b=M->(yV _ H).get? b=Y o:=λe n=>EM e n;have O:∀{b:Pv}{o:Obj}{G:Array _}{N:Nat},f.heap.get? b=Y o->o.data=.dict G N->H b=M:=λ{b o G N} e d=>by
   grind
  have i:∀{b:Pv}{m:Str->Option _},f.heap.Ns b m->(yV _ H).Ns b m:=λ{b m} ⟨o,G,N,e,d,r⟩=>Ow o G N {TM e<|O e d,d,r};have A:=λb o e=>TM (KX b o e) (by
   grind)
  have hM:Mod K E _:=⟨A,i t,{Q,i j,U},let ⟨mc,h1,h2⟩:=y;{mc,i h1,h2}⟩
  calc WJ ((F _ A<|i t).run _ [] _ H _ [.ref a] [.ref a] _ _ hr ({rfl,hM,λb q e=>(Fd.mp e).1,λb o e=>Ig e,XA<|Bh _ _,trivial,λb j=>absurd (show b∈([]:List _) from j)<|by simp,Og,.of_eq hg}) (l _ _) {`LT,L}<|R H hO hS) λr g h=>?_;cases r with
  |error e=>exact(Z H e g h).elim
  |ok fl =>
   cases fl with
   |next=>calc False.elim h
   |brk=>calc False.elim h
   |cont=>calc False.elim h
   |ret u =>
    calc Oo h λv H'=>SK λos bare un p r' q=>?_;subst q;obtain rfl:u=Value.bool _:=r';refine{rfl,OldK.of_keep λb o e=>?_,os,bare};cases q:H b with
    |none=>calc un.keep b o e q (by intro z;calc absurd (show b∈([]) from z)<|by simp) (by simp)
    |some u =>
     rcases hO b with z|⟨ob,xs,z⟩
     .rw[q]at z;cases z
     .exists Og b _ z,e1,_;exists p b _ (un.R7 b ob _ z),e2,_;grind
 cases S:K.lookup a with
 |some o =>
  have e:=KX a o S;rw[X]at e;obtain rfl:=Om e;calc core _ (λ_=>.inl L) (.inr<|UE {S,rfl,rfl,rfl,by rw[Ya,⇑hi];calc hl,by simpa using rv}) (λb u z=>by cases z) (λb z=>absurd L z) λz=>absurd L z
 |none =>
  refine core (λb=>if b=a then Y _ else M) (λb=>?_) (.inl<|.inr ⟨{ cls:=.type "list",data:=.seq C.toArray },Zp L⟩) (λb u z=>?_) (λb z=>?_) λ_=>S
  .by_cases j:b=a
   .exact .inr {_,_,Zp j}
   .exact .inl<|Zn j
  .by_cases j:b=a
   .cases ((Zp j).symm.trans z);subst j;exact{X,by simp_all,C,_,rv,X}
   simp_all
  simp_all
def nc{l:PySem.W.OpenLaw}{n k:Nat}{q:UF}{i:`e_}{Z:(W3)->XAD->Prop}{E:XAE->XAD->Prop}{d:DefRec}{K:Params->W0}{N:XAE->UD}{D:XAE->Sp}{x:Str}(P:l.most=some n)(t:n<=Pi)(z:d.params.defaults=[])(O:`xiS)(R:∀(w:XAE)(h:XAD),E w h->(`A_).In h)(F:∀(w:XAE)(mg:W3)(m:Pv)(h:XAD),(`A_).In h->h.Ns mainGlobals mg->mg d.name=some (.ref m) →
   ∃fd:SZ,(∀(s:On)(u:Re),BindsTo s fd {[u],[]} [(x,u)]) ∧
    ∀base:XAD,(`A_).In base->base.Ns mainGlobals mg->FnOk l.prog w `A_ mg base (N w) k m fd [x] (D w))(r:∀(w:XAE)(H:Hp)(a:Pv)(ns:Ui),⇑ns<=n->Ed H->OD `A_ H a `xeR->D w [.ref a] H (λv _=>v=.bl J) λ_ _ _=>False)(A:∀(w:XAE)(H:Hp)(s:On)(e:Re)(p:On),N w [] H s (λ_ _ _=>False) e p->False) :
  PySem.W.WalkO q i Z E l.row.toRowW d [] (λf C=>PySem.call f C):=by
 calc Att.xB P z λw s₀ s₁ mg mb m o pm cd doc a C ns G Y ho hd Q y j hints hlen hg=>?_;have L:=R w _ Y;exists F w mg m _ L G.T.g y,fd,hb,X;calc EG L G.T.g G.T.b G.T.builtins G.T.nolimit hg j hints (ZY hlen t) O X hb (λH U S=>r w H a ns hlen U S) λH e p=>A w H _ e p
noncomputable def inClass(s:Stmt)(j:Nat):Stmt:=match s with
 |.ClassDef _ _ _ body _ _ _ _ _ _ _=>body.getD j `xiR
 |_=>.Pass {0,0,0,(0)}
noncomputable def cP(s:Stmt):Arguments:=match s with
 |.FunctionDef _ a _ _ _ _ _ _ _ _=>a
 |_=>{ posonlyargs:=[],args:=[],vararg:=M,kwonlyargs:=[],kw_defaults:=[],kwarg:=M,defaults:=[] }
noncomputable def bg(s:Stmt):List Stmt:=match s with
 |.FunctionDef _ _ b _ _ _ _ _ _ _=>b
 |_=>[]
def ah(s:Stmt):Scope:=match s with
 |.FunctionDef _ _ _ _ _ _ sc _ _ _=>sc
 |_=>{ kind:=.function,names:=[],isGenerator:=B,isCoroutine:=B }
abbrev Ua6(k:Nat)(C:UD)(P:UF)(w:XAE)(K:PySem.W.Frag)(m:Str->Option Re)(b:XAD)(N:`e_)(x:Str)(d:Stmt)(f:Pv)(R:Cx->Prop):Prop:=∀(v:Re)(A:UV)(o:`xgP)(s:On)(H:Hp)(E:XK),Of k {`xbo,{`pi,x,ah d,v}}->R (jD C P w K m b N x `xkz f v A o s H E)
abbrev Ua5(x y:Str)(d:Stmt)(l:`e_):Prop:=∀(a b c:Re)(n:`xav)(e g:Re)(u:List Re),⇑u=⇑l->bindArgs (PySem.W.fnOf x y (cP d) `xnu `xkz .none a b c n e g) {u,[]}=pure (l.zip u)
noncomputable abbrev Pb:UD:=λ_ _ _ _ _ _=>False
noncomputable abbrev E0:XK:=λ_ _ _=>False
def kW{X:Cx}:jE Pb X E0:=λ_ _ _ _ _ _ _ h=>h.elim
structure Ov(K:W0)(x qual:Str)(st:Stmt)(f:Pv)(fd:SZ):Prop where
 ex:∃(oc:Re)(od:`xav)(kV doc pm:Re)(an:`xav)(Pw ct:Re)(Tu:Array<|Ve),
  fd=PySem.W.fnOf x qual (cP st) (bg st) (ah st) .none kV doc pm an Pw ct/\K.lookup f=some {oc,od,.func fd,Tu}/\PySem.W.codeIn K Pw qual=true
 kp:PySem.W.keepIn K `dt=true
section
variable{K:W0}
def Ov.ok(F:Ov K x a d f n)(S:bt N g `xkz)(i:∀b H Q E,e b H Q E->⇑b=⇑g)(p:∀(m:Re)(A:UV)(outer:`xeN)(s:On)(H:Hp)(b:`cg)(Q:VK)(E:XK),Of k {`xaP,m}->e b H Q E →
   ∃t,Rq (`xaA).Ss `xnu t/\t { nx:=λ_ r=>Q .non r,rt:=Q } (start N b) H):FnOk P w K mg base Pb `T5 f n g e:=by
 ext F.ex oc u kV doc pm an m ct v rfl lk l;calc IH lk l S i λA outer s H b Q E o j=>?_;exists p _ A _ s H b Q E o j,t,h,q;exact{t,h.Ss,(q)}
def Ov.binds(F:Ov K x a b f e)(h:Ua5 x a b d):Binds K e d []:=by
 ext F.ex oc i kV doc pm an l ct j rfl lk g;calc .all<|h kV _ pm an _ ct
def Ec{st:Stmt}(l:K.lookup f=Y {m,j,.func {`Q_,g},n})(c:PySem.W.codeIn K i a=J)(k:{`Sl,K,`dt}):Ov K x a st f {`Q_,g}:=⟨{m,j,e,_,d,h,_,g,_,rfl,l,(c)},k⟩
end
def kS(a:Of k A):A.units+1<cLine:=ZJ (XO (by decide:1<=64) _) a.units
def pv{X:Cx}(i:Nat)(f:{`q3,X.N[i]?=Y x})(d:{`q5,RP X.env.scope x})(e:{`q1,Qx x})(b:{`q1,Qy x}):PE X `xka (MF i):=eD f d e b
def xY{A B:Prop}(h:B):if false=J then A else B:=by
 grind
def yt{A B:Prop}(h:A):if J=J then A else B:=by
 rw[Zp L];calc h
noncomputable def aN(H a:Hp):Prop:=∀b o,H b=Y o->a b=Y o
def aN.refl(H:Hp):aN H H:=λ_ _ h=>h
def aN.trans{e:Hp}(a:aN H e)(b:aN e d):aN H d:=λc o h=>b c o<|a c o h
def aN.free(e:aN H a)(h:a l=M):H l=M:=by
 cases q:H l with
 |none=>rfl
 |some o =>
  rw[e l o q]at h;cases h
end L2
namespace L2
abbrev rX:=List `e9
def hN(w:XAE)(k:rX):Int:=reduceHash {`xcm,k.map λx=>reduceHash {`xcm,x.map<|Nc w}}
def NG(w:XAE)(x:rX×Pv×Re):DictEntry:={hN w x.1,.ref x.2.1,x.2.2}
abbrev KN:List (rX×Pv×V)->List (rX×Pv×Re)->Prop:=Paired λp q=>p.1=q.1/\p.2.1=q.2.1/\RelV p.2.2 q.2.2
def DN(a:Pv)(e:List<|rX×Pv×V):HO:=.ext λw h=>⇑e<=Pi/\`vx=B/\∃b:List (rX×Pv×Re),KN e b ∧
 ∃o d f,h.get? a=Y o/\o.ExactDict/\o.data=.dict d f/\d.toList=b.map (NG w)/\(b.map (·.1)).Nodup
def NAt(H:Hp)(k:rX)(b:Pv):Prop:=∃a:Vr,H b=Y {`xbE,a.map V.ref}/\Paired (λ(x:`e9) (c:Pv)=>H c=Y {`xbE,x.map kV}) k a
def NAt.mono{k:rX}(x:NAt H k b)(t:∀a d,H a=Y `xgc->e a=Y `xgc):NAt e k b:=by
 ext x f h r;exact{f,t _ _ h,Paired.mapP r λ_ _ z=>t _ _ z}
end L2
namespace VS
open L2
noncomputable def sx(s:Tx):Str:={(s.toArray)}
def lF(s:Tx):Prop:=⇑s<=gn/\∀c∈s,c<1114112
noncomputable abbrev Me:=Nat->Option V
set_option genInjectivity false in
structure Gx where
 K:W0
 ct:Nat->Pv×(Nat->Str)
 me:Me:=λ_=>none
 ec:Nat->Addr:=λ_=>0
def Gx.at(G:Gx)(m:Me):Gx:={G.K,G.ct,m,(G.ec)}
noncomputable def bp:Key->T
 |.inl i=>.int i
 |.inr x=>.str x.cps.toList
def nkT(k:rX):T:=.tup<|k.map λx=>T.tup<|x.map bp
def mM(K:W0)(H:Hp)(a:Pv)(d:Ui):Prop :=
 (∃o,H a=Y (.frz o {`xba,d.map V.int})) ∨
  ∃(o:Obj)(b:`xkI)(n:Nat),K.lookup a=Y o/\o.cls=.type "list" ∧ o.dict=M/\o.data=.seq b n/\b.size<=Pi/\aS (d.map V.int) b.toList
mutual
inductive Rp(G:Gx)(H:Hp):V->T->Vr->Prop
 |non:Rp G H .non .non []
 |bl (b:Bool):Rp G H `xfJ `xfJ []
 |int (i:Int):Rp G H `KE `KE []
 |str (s:Tx):lF s->Rp G H (.str `A6) (.str s) []
 |scr {a:Pv} {ns:Ui}:mM G.K H a ns->Rp G H `bz (.scr ns) []
 |tup {a:Pv} {vs:`cg} {ts:Uc} {Fs:Wc}:H a=some (.tup vs)->RpL G H vs ts Fs->Rp G H `bz (.tup ts) Fs.flatten
 |lst {a:Pv} {vs:`cg} {ts:Uc} {Fs:Wc}:H a=some (.lst vs)->RpL G H vs ts Fs->Rp G H `bz (.lst ts) `Y_
 |dct {a:Pv} {ks:`e9} {vs:`cg} {ts:Uc} {Fs:Wc}:H a=some (.dK `xjW)->⇑ks=⇑vs->RpL G H vs ts Fs->Rp G H `bz {`RH,(ks.map bp).zip ts} `Y_
 |dctT {a:Pv} {ks:`xfl} {vs:`cg} {ts:Uc} {Fs:Wc}:H a=some (.dT `xjW)->⇑ks=⇑vs->RpL G H vs ts Fs->Rp G H `bz (.dct 1<|(ks.map λk=>T.tup `YP).zip ts) `Y_
 |dctN {a:Pv} {ks:List<|rX×Pv} {vs:`cg} {ts:Uc} {Fs:Wc}:H a=some (DN a<|(`xjW).map λp=>(p.1.1,p.1.2,p.2))->⇑ks=⇑vs->(∀p∈ks,NAt H p.1 p.2)->RpL G H vs ts Fs->Rp G H `bz (.dct 2<|(ks.map λp=>nkT p.1).zip ts) `Y_
 |dctZ {a:Pv} {o:Obj} {ks:`e9} {vs:`cg} {ts:Uc} {Fs:Wc}:H a=some {`w_,ks.zip vs}->⇑ks=⇑vs->RpL G H vs ts Fs->Rp G H `bz (.dct 3<|(ks.map bp).zip ts) Fs.flatten
 |exc {c:Nat} {a:Pv} {o:Obj}:H a=some {`xbF,.own a}->(o.cls=.ref (G.ec c)/\o.dict=none/\∃vs,o.data=.fields vs)->Rp G H `bz (.obj c []) []
 |ins {c:Nat} {a dx:Pv} {b:Bool} {ks:Uj} {vs:`cg} {ts:Uc} {Fs:Wc}:H a=some (.ins (`be).1 dx {`xdr,ks.map,vs})->⇑ks=⇑vs->(b=true->G.me 0=some `bz)->RpL G H vs ts Fs->Rp G H `bz (.obj `xfV<|(0,.bl b)::ks.zip ts) `Y_
 |mk {m:Nat} {a:Pv} {t:T} {F:Vr}:G.me m=some `bz->Rp G H `bz t F->Rp G H `bz (.obj 0 [(0,.bl true),(m,t)]) F
inductive RpL(G:Gx)(H:Hp):List V->Uc->Wc->Prop
 |nil:RpL G H [] [] []
 |cons {v:V} {t:T} {F:Vr} {vs:`cg} {ts:Uc} {Fs:Wc}:Rp G H v t F->RpL G H vs ts Fs->RpL G H `xgv (t::ts) (F::Fs)
end
def RpL.ind{G:Gx}{H:Hp}{P:List V->Uc->Wc->Prop}(g:P [] [] [])(f:∀{v t F a b d},Rp G H v t F->RpL G H a b d->P a b d->P (v::a) (t::b) (F::d)):∀{a b d},RpL G H a b d->P a b d:=by
 intro a
 induction a with
 |nil=>intro b d r;cases r;calc g
 |cons v a e=>intro b d r;cases r with|cons r q=>calc f r q<|e q
def RpI(G:Gx)(H:Hp)(v:V)(F:Vr):T->Prop
 |.non=>v=.non
 |.bl b=>v=.bl b
 |.int b=>v=.int b
 |.str b=>v=.str (sx b)/\lF b
 |.scr l=>∃a,v=.ref a/\F=[]/\mM G.K H a l
 |.tup l=>∃a e f,v=.ref a/\F=f.flatten/\H a=Y (.tup e)/\RpL G H e l f
 |.lst l=>∃a e f,v=.ref a/\F=a::f.flatten/\H a=Y (.lst e)/\RpL G H e l f
 |.dct d l=>match d with
  |0=>∃(a:Pv)(g:`e9)(e:`cg)(h:Uc)(f:Wc),v=.ref a/\F=a::f.flatten/\H a=Y (.dK<|g.zip e)/\⇑g=⇑e/\l=(g.map bp).zip h/\RpL G H e h f
  |3=>∃(a:Pv)(o:Obj)(g:`e9)(e:`cg)(h:Uc)(f:Wc),v=.ref a/\F=f.flatten/\H a=Y {`w_,g.zip e}/\⇑g=⇑e/\l=(g.map bp).zip h/\RpL G H e h f
  |_=>True
 |.obj c fs=>match c,fs with
  |c+1,j::fs=>∃(i:Nat)(a n:Pv)(b:Bool)(g:Uj)(e:`cg)(h:Uc)(f:Wc),c+1=i+1/\v=.ref a/\j=(0,.bl b)/\fs=g.zip h/\F=a::f.flatten/\H a=Y (.ins (G.ct `I_).1 n {`xdP,g.map,`I_,e})/\⇑g=⇑e/\(b=J->G.me 0=Y `bz)/\RpL G H e h f
  |0,fs=>∀m t,fs=[(0,.bl J),(m,t)]->∃a,v=.ref a/\G.me m=Y `bz/\Rp G H `bz t F
  |_,_=>True
def Rp.inv(r:`hQ):RpI G H v F t:=by
 cases r with
 |str s h=>exact{rfl,(h)}
 |scr h=>exact{_,rfl,rfl,(h)}
 |tup h q=>calc UE {rfl,rfl,h,(q)}
 |lst h q=>calc UE {rfl,rfl,h,(q)}
 |dct h hl q=>calc yI5 {rfl,rfl,h,hl,rfl,(q)}
 |dctZ h hl q=>calc L2.yI6 {rfl,rfl,h,hl,rfl,(q)}
 |@exc c=>calc Nat.casesOn c (λ_ _ e=>nomatch e) λ_=>trivial
 |ins h l m q=>calc L2.yI8 {rfl,rfl,rfl,rfl,rfl,h,l,m,(q)}
 |mk h q=>calc λ_ _ e=>by simp_all
 |dctT _ _ _=>trivial
 |dctN _ _ _ _=>trivial
 |_=>rfl
structure Kept(H H':Hp):Prop where
 tup:∀a xs,H a=some `xfr->H' a=some `xfr
 frz:∀a o u,H a=some `xef->H' a=some `xef
def Kept.refl(H:Hp):Kept H H:={λ_ _ h=>h,λ_ _ _ h=>h}
def Kept.trans{e:Hp}(a:Kept H e)(b:Kept e d):Kept H d:={λc x h=>b.tup c x<|a.tup c x h,λc o u h=>b.frz c o u<|a.frz c o u h}
def Kept.of(e:`xnt):Kept H b:={λa _ h=>e a _ h,λa _ _ h=>e a _ h}
theorem Kept.upd(f:Oy `xiT\/H a=M):Kept H `Z4:=by
 have ne:∀b u,H b=Y u->¬Oy (Y u)->b≠a:=λb u h nm e=>by
  grind
 exact{λb d h=>aE (ne b _ h λz=>z) ▸ h,λb o u h=>aE (ne b _ h λz=>z) ▸ h}
def mM.kept{K:W0}(h:mM K H a b)(k:Kept H d):mM K d a b:=by
 rcases h with⟨o,e⟩|h
 .exact .inl {o,k.frz _ _ _ e}
 .exact .inr h
def mM.seq{K:W0}(h:mM K H a b):OD K H a `xhK:=by
 rcases h with⟨o,e⟩|h
 .exact .inl<|.inr {o,(e)}
 .exact .inr h
def wI{H d:Hp}{a:Pv}{F:Vr}(f:∀b∈a::F,∀o,H b=Y o->d b=Y o):∀b∈F,∀o,H b=Y o->d b=Y o:=λb m=>f b<|Zs _ m
def Ak{H a:Hp}{F:Vr}{d:Wc}(f:∀b∈(F::d).flatten,∀o,H b=Y o->a b=Y o):(∀b∈F,∀o,H b=Y o->a b=Y o)/\∀b∈d.flatten,∀o,H b=Y o->a b=Y o:=by
 simp_all
def Rp.keep(k:Kept H e)(r:`hQ):(∀a∈F,∀o,H a=Y o->e a=Y o)->Rp G e v t F :=
 Rp.rec (motive_2:=λj q g _=>(∀a∈g.flatten,∀o,H a=Y o->e a=Y o)->RpL G e j q g)
  (λ_=>.non) (λb _=>.bl b) (λi _=>.int i) (λs h _=>.str s h) (λh _=>.scr<|h.kept k) (λh _ d f=>.tup (k.tup _ _ h) `xlM) (λh _ d f=>.lst (f _ Zv _ h) `xfG) (λh l _ d f=>.dct (f _ Zv _ h) l `xfG) (λh l _ d f=>.dctT (f _ Zv _ h) l `xfG)
  (λh l n _ d f=>.dctN (f _ Zv _ h) l (λp m=>(n p m).mono k.tup) `xfG) (λh l _ d f=>.dctZ (k.frz _ _ _ h) l `xlM) (λh x _=>.exc (k.frz _ _ _ h) x) (λh l m _ d f=>.ins (f _ Zv _ h) l m `xfG) (λh _ d f=>.mk h `xlM) (λ_=>.nil) (λ_ _ w u f=>.cons (w (Ak f).1)<|u (Ak f).2) r
theorem RpL.keep(k:Kept H g):∀{e:`cg}{b:Uc}{d:Wc},RpL G H e b d->(∀a∈d.flatten,∀o,H a=Y o->g a=Y o)->RpL G g e b d:=by
 intro e b
 induction b generalizing e with
 |nil=>intro d r f;cases r;calc .nil
 |cons t b h =>
  intro d r f;cases r with
  |cons r q=>calc .cons (r.keep k (Ak f).1)<|h q (Ak f).2
def Rp.same{H:Hp}(e:`xnt)(r:`hQ):Rp G b v t F:=r.keep `xjV λa _ o h=>e a o h
def RpL.same{H:Hp}(e:`xnt)(r:RpL G H v t F):RpL G b v t F:=r.keep `xjV λa _ o h=>e a o h
def Dh{H:Hp}{a:Pv}{F:Vr}(h:Oy `xiT)(d:∀b∈F,Oy<|H b):∀b∈a::F,Oy (H b):=λb m=>(`xex).elim (λe=>e ▸ h)<|d b
def De{H:Hp}{a:Pv}{o:HO}(h:`xkc)(m:Oy<|Y o):Oy `xiT:=h ▸ m
def Ms{H:Hp}{F:Vr}{a:Wc}(e:∀b∈F,Oy<|H b)(d:∀b∈a.flatten,Oy<|H b):∀b∈(F::a).flatten,Oy (H b):=λb m=>by
 grind
def Rp.OF(r:`hQ):∀a∈F,Oy `xiT :=
 Rp.rec
  (λ_ m=>nomatch m) (λ_ _ m=>nomatch m) (λ_ _ m=>nomatch m) (λ_ _ _ m=>nomatch m) (λ_ _ m=>nomatch m) (λ_ _ b=>b) (λh _ b=>Dh `X_ b) (λh _ _ b=>Dh `X_ b) (λh _ _ b=>Dh `X_ b)
  (λh _ _ _ b=>Dh `X_ b) (λ_ _ _ b=>b) (λ_ _ _ m=>nomatch m) (λh _ _ _ b=>Dh `X_ b) (λ_ _ b=>b) (λ_ m=>nomatch m) (λ_ _ e d=>Ms e d) r
theorem RpL.OF:∀{e:`cg}{b:Uc}{d:Wc},RpL G H e b d->∀a∈d.flatten,Oy `xiT:=by
 intro e b
 induction b generalizing e with
 |nil=>intro d r;cases r;calc λ_ m=>nomatch m
 |cons t b f =>
  intro d r;cases r with
  |cons r q=>calc Ms r.OF<|f q
def Oy.jj(m:Oy o):o≠M:=λe=>by subst e;calc m
def Mp{b:Wc}(e:VS.Ol t=J->F=[])(d:VS.gq a=J->b.flatten=[])(i:VS.gq (t::a)=J):(F::b).flatten=[]:=by
 have i:=Zd.mp i;rw[Xi,e i.1,d i.2];rfl
theorem Rp.Ol(r:`hQ):VS.Ol t=J->F=[] :=
 Rp.rec
  (λ_=>rfl) (λ_ _=>rfl) (λ_ _=>rfl) (λ_ _ _=>rfl) (λ_ _=>rfl) (λ_ _ a i=>a i) (λ_ _ _ i=>absurd (i) Zj) (λ_ _ _ _ i=>absurd (i) Zj) (λ_ _ _ _ i=>absurd (i) Zj)
  (λ_ _ _ _ _ i=>absurd (i) Zj) (λ_ _ _ _ i=>absurd (i) Zj) (λ_ _ _=>rfl) (λ_ _ _ _ _ i=>absurd (i) Zj) (λ_ _ _ i=>absurd (i) Zj) (λ_=>rfl) (λ_ _ d b i=>Mp d b i) r
theorem RpL.Ol:∀{d:`cg}{a:Uc}{b:Wc},RpL G H d a b->VS.gq a=J->b.flatten=[]:=by
 intro d a
 induction a generalizing d with
 |nil=>intro b r i;cases r;calc rfl
 |cons t a e =>
  intro b r i;cases r with
  |cons r q=>calc Mp r.Ol (e q) i
def RpL.len:∀{b:`cg}{a:Uc}{d:Wc},RpL G H b a d->⇑b=⇑a/\⇑d=⇑a:=by
 intro b a
 induction a generalizing b with
 |nil=>intro d r;cases r;exact{rfl,(rfl)}
 |cons t a e =>
  intro d r;cases r with
  |cons r q=>exact{ZF _ (e q).1,ZF _ (e q).2}
theorem RpL.get:∀{a:`cg}{b:Uc}{d:Wc}(i:Nat){t:T},RpL G H a b d->b[i]?=Y t->∃v F,a[i]?=Y v/\d[i]?=Y F/\Rp G H v t F
 |_,_,_,_,_,.nil,e=>by simp at e
 |_,_,_,0,_,.cons r _,e=>by
  simp_all
 |_,_,_,i+1,_,.cons _ q,e=>by
  refine Oo (RpL.get i q<|by simpa using e) λv F=>oe λh g f=>?_
  simp_all
def RpL.append:∀{b:`cg}{a:Uc}{e:Wc}{d:`cg}{rs:Uc}{Gs:Wc},RpL G H b a e->RpL G H d rs Gs->RpL G H (b++d) (a++rs) (e++Gs):=by
 intro b a
 induction a generalizing b with
 |nil=>intro e d rs Gs r s;cases r;calc s
 |cons t a f =>
  intro e d rs Gs r s;cases r with
  |cons r q=>calc .cons r<|f q s
theorem RpL.take:∀{a:`cg}{b:Uc}{d:Wc}(n:Nat),RpL G H a b d->RpL G H (a.take n) (b.take n) (d.take n)
 |_,_,_,0,_=>by simpa using RpL.nil
 |_,_,_,n+1,.nil=>.nil
 |_,_,_,n+1,.cons r q=>.cons r<|RpL.take n q
theorem RpL.drop:∀{a:`cg}{b:Uc}{d:Wc}(n:Nat),RpL G H a b d->RpL G H (a.drop n) (b.drop n) (d.drop n)
 |_,_,_,0,q=>q
 |_,_,_,n+1,.nil=>.nil
 |_,_,_,n+1,.cons r q=>RpL.drop n q
noncomputable def j7:Cell->T
 |.pu t=>t
 |.ow t=>t
noncomputable abbrev Os:=Nat->Vr
structure SR(G:Gx)(Z:Os)(U:VS.Env)(O:L2.St)(H:Hp):Prop where
 len:⇑U=⇑O
 rp:∀i c,U[i]?=some (some c)->∃v,O[i]?=some (some v)/\Rp G H v (j7 c) `xns
 nd:∀i t,U[i]?=some `kw->(`xns).Nodup
 sep:∀i j t c,U[i]?=some `kw->U[j]?=some (some c)->i≠j->∀a∈Z i,a∉Z j
noncomputable def dE(Z:Os)(U:VS.Env)(a:Pv):Prop:=∃j t,U[j]?=Y (Y `xae)/\a∈Z j
noncomputable def bU(Z:Os)(U:VS.Env)(a:Pv):Prop:=∃j t,U[j]?=Y `vz/\a∈Z j
def Fp(Z:Os)(U:VS.Env)(H:Hp):Md->Vr->Prop
 |.fr,F=>F.Nodup/\∀a∈F,H a=M
 |.pu,F=>∀a∈F,H a=M\/dE Z U a
 |.bo,F=>∀a∈F,H a=M\/dE Z U a\/bU Z U a
theorem SR.same{H:Hp}(s:`gx)(e:aN H a):SR G Z U O a :=
 ⟨s.len,λi c h=>let ⟨v,d,b⟩:=s.rp i c h;{v,d,b.same e},s.nd,s.sep⟩
def SR.RZ(s:`gx)(h:dE Z U a):Oy `xiT:=by
 ext h j t d b;exists s.rp j _ d,v,_,r;calc r.OF a b
def SR.OQ(s:`gx)(h:bU Z U a):Oy `xiT:=by
 ext h j t d b;exists s.rp j _ d,v,_,r;calc r.OF a b
def Fp.nil:Fp Z U H m []:=by
 cases m
 .exact{Yi,λa h=>by simp at h}
 .exact λa h=>by simp at h
 .exact λa h=>by simp at h
theorem Fp.bo{H:Hp}:∀{m:Md},Fp Z U H m F->Fp Z U H .bo F
 |.fr,h=>λa m=>.inl `xnr
 |.pu,h=>λa m=>(h a m).elim .inl λz=>.inr `xky
 |.bo,h=>h
theorem Fp.pu{U:VS.Env}{H:Hp}:∀{m:Md},m ≠ .bo->Fp Z U H m F->Fp Z U H .pu F
 |.fr,_,h=>λa m=>.inl `xnr
 |.pu,_,h=>h
 |.bo,n,_=>absurd L n
theorem Fp.back(e:`xnt):∀{m:Md},Fp Z U b m F->Fp Z U H m F
 |.fr,h=>{h.1,λa m=>e.free `xnr}
 |.pu,h=>λa m=>(h a m).imp e.free id
 |.bo,h=>λa m=>(h a m).imp e.free id
theorem Fp.up{U:VS.Env}(f:`xfT)(r:Rp G a v t F):Fp Z U H (VS.up m t).1 F:=by
 unfold VS.up;by_cases h:VS.Ol t=J
 .exact r.Ol h ▸ Fp.nil
 grind
def tE(G:Gx)(c:Ex):TE:=λO H Q=>∃Z U m r,SR G Z U O H/\c U=Y (m,r)/\∀v a F,aN H a->Rp G a v r F->Fp Z U H m F->Q v a
def PV(G:Gx)(X:Cx)(e:Expr)(c:Ex):Prop:=PE X e<|tE G c
def PE.weak{X:Cx}(h:PE X e t)(w:∀O H Q,a O H Q->t O H Q):PE X e a:=λb s O H Q I q=>h _ s O H Q I `xau
def PT.weak{X:Cx}(h:PT X e t)(w:∀O H Q,a O H Q->t O H Q):PT X e a:=λb s O H Q I q=>h _ s O H Q I `xau
def PA.weak{X:Cx}(h:PA X e t)(w:∀O H Q,a O H Q->t O H Q):PA X e a:=λpos b s O H Q I q=>h _ _ s O H Q I `xau
def tT(G:Gx)(c:Ex):TT:=λO H Q=>∃Z U m r b,SR G Z U O H/\c U=Y (m,r)/\tru r=Y b/\∀a,aN H a->Q b a
def Ro(G:Gx)(X:Cx)(e:Expr)(c:Ex):Prop:=PT X e<|tT G c
noncomputable def QW(l:Ue)(a:Wc):Vr:=match l,a with
 |v::l,F::a=>match v.1 with
  |.fr=>F++QW l a
  |_=>QW l a
 |_,_=>[]
structure FpL(Z:Os)(U:VS.Env)(H:Hp)(l:Ue)(Fs:Wc):Prop where
 each:∀(i:Nat) v F,l[i]?=some v->Fs[i]?=some F->Fp Z U H v.1 F
 nd:(QW l Fs).Nodup
def tEs(G:Gx)(c:OG):TA:=λO H Q=>∃Z U l,SR G Z U O H/\c U=Y l/\∀b a d,aN H a->RpL G a b `xje d->FpL Z U H l d->Q b a
def PJ(G:Gx)(X:Cx)(a:`i2)(c:OG):Prop:=PA X a<|tEs G c
def aj{i j pos}:PV G X {`xL,.int i} (Q3 i):=PE.weak u6 λO H Q d=>by
 calc Oj d λZ U m r=>oe λs e k=>?_;cases (e);calc k _ _ _ (aN.refl _) `KE Fp.nil
def pM{i j pos}:PV G X {`xL,.bool i} (eC<|.bl i):=PE.weak LG λO H Q d=>by
 calc Oj d λZ U m r=>oe λs e k=>?_;cases (e);calc k _ _ _ (aN.refl _) (.bl i) Fp.nil
def uC{j pos}:PV G X {`xaQ,pos} `xiQ:=PE.weak Lf λO H Q d=>by
 calc Oj d λZ U m r=>oe λs e k=>?_;cases (e);calc k _ _ _ (aN.refl _) .non Fp.nil
def qK{j pos}(h:x=sx t:=by decide +kernel)(f:{`q1,lF t}):PV G X {`xL,.str x} (eC<|.str t):=PE.weak KH λO H Q d=>by
 calc Oj d λZ U m r=>oe λs e k=>?_;cases (e);subst h;calc k _ _ _ (aN.refl _) (.str t f) Fp.nil
def cW{X:Cx}(i:Nat)(w:{`q3,X.N[i]?=Y x})(p:{`q5,RP X.env.scope x})(u:{`q1,Qx x})(j:{`q1,Qy x}):PV G X (.Name x g) (ab i):=PE.weak (eD w p u j) λO H Q q=>by
 calc Oj q λZ U m r=>oe λs e k=>?_;unfold ab at e;split at e
 .rename_i t h;exists s.rp _ _ h,v,n,d;have o:=ZL e;have y:t=r:=ZF Prod.snd o;have em:(VS.up _ t).1=m:=ZF _ o;rw[<-y,<-em]at k;refine{v,n,k v H _ (aN.refl _) d ?_};have f:Fp Z U H .pu _:=λa l=>.inr {i,_,h,(l)};exact f.up d
 .rename_i t h;exists s.rp _ _ h,v,n,d;cases e;exact⟨v,n,k v H _ (aN.refl _) d λa l=>.inr<|.inr {i,_,h,(l)}⟩
 .cases e
def GG{v:V}(i:`xac)(h:`xlG)(r:`xfq)(f:∀H,Rp G H v t [])(j:{`q1,Qx x}):PV G X (.Name x d) (eC t) :=
 PE.weak (GC i h r j) λO H Q g=>by
  calc Oj g λZ U m l=>oe λs e k=>?_;cases (e);calc k _ _ _ (aN.refl _) (f H) Fp.nil
structure Two(G:Gx)(Z:Os)(U:VS.Env)(H0 H:Hp)(x y:Val)(u w:V)(F1 F2:Vr):Prop where
 same:aN H0 H
 r1:Rp G H u x.2 F1
 r2:Rp G H w y.2 F2
 f1:Fp Z U H0 x.1 F1
 f2:Fp Z U H0 y.1 F2
 nd:x.1=.fr->y.1=.fr->(F1++F2).Nodup
def fD(G:Gx)(r:R2)(f:Val->Val->Ud):Prop:=∀(Z:Os)(U:VS.Env)(e H:Hp)(x y:Val)(u w:V)(h g:Vr)(m:Md)(t:T)(Q:VK),Two G Z U e H x y u w h g->f x y=Y (m,t) →
 (∀v d F,aN H d->Rp G d v t F->Fp Z U e m F->Q v d)->r u w H Q
def B0{G:Gx}{ca cb:Ex}{O:L2.St}{H:Hp}{Q:V->V->Hp->Prop}{Z:Os}{U:VS.Env}{x y:Val}(s:`gx)(m:ca U=Y x)(l:cb U=Y y)(k:∀u w d f e,Two G Z U H d x y u w f e->Q u w d):tE G ca O H λu g=>tE G cb O g λw d=>Q u w d:=by
 calc Oe Z U _ _ {s,m,λu g f e1 r1 f1=>Oe Z U _ _ ⟨s.same e1,l,λw d e e2 r2 f2=>k u w d f e {e1.trans e2,r1.same e2,r2,f1,f2.back e1,λi h=>?_}⟩};rw[i]at f1;rw[h]at f2;calc ZG.mpr {f1.1,f2.1,λa j b hb z=>?_};subst z;calc Oy.jj (r1.OF a j)<|f2.2 a hb
def oi(g:`xeK)(h:{`xbq,{`ww,f}}):tOp r `xnq (tE G cb) O H Q:=by
 calc Oj h λZ U m t=>oe λs e k=>?_;exists Zz.mp e,x,j,e;exists Zz.mp e,y,i,e;calc B0 s j i λu w l p o d=>g Z U H l x y u w p o m t Q d e λv n F e1 r1 f1=>k v n F `xlB r1 f1
def jJ(g:{`xcv,d})(e:`xeK)(j:`cC)(i:`hH):PV G X {`xdD,d,b} {`ww,f} :=
 PE.weak (CU g j i) λO H Q h=>oi e h
def LC(g:`xaw)(e:`xeK)(l:`cC)(j:`hH)(i:{`x_,d}):PV G X (.Compare a [d] [b] pos) {`ww,f} :=
 PE.weak (FV g l j i) λO H Q h=>oi e h
noncomputable def Tells(f:Val->Val->Ud):Prop:=∀x y m t,f x y=Y (m,t)->∃b,t=.bl b
def Rp.Pm{b:Bool}(r:{`ss,.bl b}):v=.bl b:=r.inv
def Rp.int_inv{b:Int}(r:{`ss,.int b}):v=.int b:=r.inv
def Rp.str_inv{b:Tx}(r:{`ss,.str b}):v=.str (sx b)/\lF b:=r.inv
def qM{c:Ex}(h:tT G c O H Q)(f:∀U m r,c U=Y (m,r)->∃b,r=.bl b)(w:∀Q,tE G c O H Q->t O H Q):DT t O H Q:=by
 calc xE5 h λZ U m r b=>OI λs e d k=>?_;calc w _<|Oe Z U m r {s,e,λv i F e1 r1 f1=>?_};exists f U m r e,j,g;rw[g]at d r1;cases (d);exact{_,r1.Pm,k i e1}
def fW(j:`xaw)(g:`xeK)(i:Tells f)(o:`cC)(n:`hH)(l:{`x_,d}):Ro G X (.Compare a [d] [b] pos) {`ww,f} :=
 PT.weak (zB j o n l) λO H Q h=>qM h (λU m r e=>by
  exists Zz.mp e,x,_,e;exists Zz.mp e,y,_,e;calc i x y m r e) λQ h=>oi g h
def bH{G:Gx}{Z:Os}{U:VS.Env}{e H:Hp}{m:Md}{t:T}{v:V}{Q:VK}(k:∀v d F,aN H d->Rp G d v t F->Fp Z U e m F->Q v d)(r:Rp G H v t []):Q v H:=k v H [] (aN.refl _) r Fp.nil
def bI(h:H p=M):aN H (upd H p o):=λb d e=>aE (cV e h) ▸ e
theorem Fp.new(d:g p=M)(h:p∉F):∀{m:Md},Fp Z U g m F->Fp Z U g m (p::F)
 |.fr,f=>{Zc.mpr {h,(f.1)},λa m=>(`xex).elim (λe=>e ▸ d)<|f.2 a}
 |.pu,f=>λa m=>(`xex).elim (λe=>e ▸ .inl d)<|f a
 |.bo,f=>λa m=>(`xex).elim (λe=>e ▸ .inl d)<|f a
def tW(e:SN d l=Y (m,t)):t=.lst l/\⇑l<=gn/\m=(if gq l then .fr else d):=by
 unfold SN at e
 simp_all
def kA{G:Gx}{Z:Os}{U:VS.Env}{i H:Hp}{o m:Md}{l:Uc}{t:T}{n:`cg}{q:Wc}{Q:VK}(d:aN i H)(e:SN o l=Y (m,t))(r:RpL G H n l q)(f:Fp Z U i o q.flatten)(k:∀v j F,aN H j->Rp G j v t F->Fp Z U i m F->Q v j):∀p,H p=M->Q `xal {`oX,p,n}:=by
 intro p g;exists tW e,rfl,hl,rfl;calc k _ _ _ (bI g) (.lst av<|r.same<|bI g) ?_;have np:=λm=>Oy.jj (r.OF p m) g;by_cases h:gq l=J
 .rw[h,Zp L];rw[r.Ol h]at np ⊢;exact Fp.nil.new (d.free g) np
 .rw[Zn h];calc f.new (d.free g) np
theorem Two.join(i:Two G Z U h H x y u w f e){F:Vr}(g:F.Sublist<|f++e):Fp Z U h (x.1.join y.1) F:=by
 ext i same r1 r2 f1 f2 nd;ext x l x;ext y j y;have both:∀{P:Pv->Prop},(∀a∈f,P a)->(∀a∈e,P a)->∀a∈F,P a:=λn m a d=>((λa d=>Zf.mp<|g.subset d) a d).elim (n a)<|m a;cases l<;>cases j
 .exact{(nd L L).sublist g,both f1.2 f2.2}
 .exact both {`xaO,f1.2} f2
 .exact both {`xaO,f1.2} f2
 .exact both f1 {`xaO,f2.2}
 .exact both f1 f2
 .exact both (f1.bo) f2
 .exact both f1 {`xaO,f2.2}
 .exact both f1<|f2.bo
 .exact both f1 f2
def gR:gn=sizeLine:=rfl
def eE(s:Tx):⇑(`A6)=⇑s:=rfl
def KI(s t:Tx):sx s++sx t=sx `xnK:=by
 show Str.append _ _=_;simp[sx,Str.append]
def Rp.lst_inv(r:{`ss,.lst l}):∃a d e,v=.ref a/\F=a::e.flatten/\H a=Y `xkF/\RpL G H d l e:=r.inv
def Rp.QA(r:{`ss,.tup l}):∃a d e,v=.ref a/\F=e.flatten/\H a=Y `xgc/\RpL G H d l e:=r.inv
def Rp.scr_inv(r:{`ss,.scr l}):∃a,v=.ref a/\F=[]/\mM G.K H a l:=r.inv
def My:R2:=λx y H Q=>Ts (λi j=>.int<|i+j) x y H Q\/(∃i j,x=.str i/\y=.str j/\⇑i+⇑j<=Pi/\Q (.str<|i++j) H)\/MV x y H Q
def mq:OpR X `xez My:=Jz.or<|yf.or K7
def pZ:fD G My b6:=by
 intro Z U A H x y u w E D m t Q d e k;have p:=λ{F:List _} (h:List.Sublist F _)=>d.join h;ext x z x;ext y v y;ext d same r1 r2 f1 f2 nd;cases x with
 |int i =>
  cases y with
  |int j =>
   cases e;calc .inl<|SJ {r1.int_inv,r2.int_inv,bH k<|.int _}
  |_=>cases e
 |str s =>
  cases y with
  |str o =>
   unfold b6 at e;dsimp only at e;split at e
   .rename_i hl;cases e;calc .inr<|.inl<|SJ {r1.str_inv.1,r2.str_inv.1,by rw[eE,eE,<-gR];calc hl,?_};rw[KI];exact bH k<|.str _ {by simp_all,λc q=>(Zf.mp q).elim `xkx<|r2.str_inv.2.2 c}
   .cases e
  |_=>cases e
 |lst s =>
  cases y with
  |lst o =>
   ext r1.lst_inv a l C rfl rfl r g;ext r2.lst_inv b n Gs rfl rfl hb f;exists tW e,_,hl,_;refine .inr<|.inr<|Oe a b l n {rfl,rfl,r,hb,?_,kA same e (g.append f) (p ?_) k}
   .rw[Zr]at hl;exact g.len.1 ▸ f.len.1 ▸ gR ▸ hl
   grind
  |_=>cases e
 |_=>cases e
def uu:fD G {`xaR,i-j} yn:=by
 intro Z U f H x y u w h g m t Q a e k;ext x d x;ext y b y;ext a same r1 r2 f1 f2 nd;cases x with
 |int i=>cases y with
  |int j =>
   cases e;exact{_,_,r1.int_inv,r2.int_inv,bH k<|.int _}
  |_=>cases e
 |_=>cases e
def oU:fD G (rI Mi λi j=>.int<|i/j) oE:=by
 intro Z U f H x y u w l g m t Q a e k;ext x d x;ext y b y;ext a same r1 r2 f1 f2 nd;cases x with
 |int i=>cases y with
  |int j =>
   replace e:@ite _ _ _ _ _=_:=e;split at e
   .rename_i h;cases e;exact{_,_,r1.int_inv,r2.int_inv,h,bH k<|.int _}
   .cases e
  |_=>cases e
 |_=>cases e
def J8:fD G (rI (λ_ j=>0<j) λi j=>.int<|i%j) oMod:=by
 intro Z U f H x y u w l g m t Q a e k;ext x d x;ext y b y;ext a same r1 r2 f1 f2 nd;cases x with
 |int i=>cases y with
  |int j =>
   replace e:@ite _ _ _ _ _=_:=e;split at e
   .rename_i h;cases e;exact{_,_,r1.int_inv,r2.int_inv,h,bH k<|.int _}
   .cases e
  |_=>cases e
 |_=>cases e
theorem qB:∀(s t:Tx),UL s t=decide (s<t)
 |[],[]=>by simp[UL]
 |[],_::_=>by simp[UL]
 |_::_,[]=>by simp[UL]
 |a::s,b::t=>by
  unfold UL;rw[qB s t];by_cases e:a<b
  .simp[e,VJ]
  .by_cases d:b<a
   .have:¬a=b:=by exact YM d
    simp[e,d,VJ,this]
   .have:a=b:=by lia
    simp_all
def rLt:R2:=λx y H Q=>Ts (λi j=>.bl (decide (i<j))) x y H Q\/(∃i j,x=.str i/\y=.str j/\Q (.bl (decide `Go)) H)
def uT:OpR X `xnC rLt:=Nt.or BM
def Aj:fD G rLt oLt:=by
 intro Z U g H x y u w l h m t Q b e k;ext x f x;ext y d y;ext b same r1 r2 f1 f2 nd;cases x with
 |int i=>cases y with
  |int j =>
   cases e;calc .inl {_,_,r1.int_inv,r2.int_inv,bH k<|.bl _}
  |_=>cases e
 |str s=>cases y with
  |str a =>
   cases e;calc .inr {_,_,r1.str_inv.1,r2.str_inv.1,?_};have:decide {`xbR,a}=UL s a:=by rw[qB];exact decide_eq_decide.mpr (by simp[sx])
   calc this ▸ bH k (.bl _)
  |_=>cases e
 |_=>cases e
def l8:Tells oLt:=by
 intro x y m t e;ext x d x;ext y b y;cases x with
 |int i=>cases y with
  |int j=>cases e;exact{_,(rfl)}
  |_=>cases e
 |str s=>cases y with
  |str a=>cases e;exact{_,(rfl)}
  |_=>cases e
 |_=>cases e
def JI:B64=2 ^ 64:=rfl
def Ll:fD G {`xcL,FA,i*j} m8:=by
 intro Z U f H x y u w l g m t Q a e k;ext x d x;ext y b y;ext a same r1 r2 f1 f2 nd;cases x with
 |int i=>cases y with
  |int j =>
   replace e:@ite _ _ _ _ _=_:=e;split at e
   .rename_i h;cases e;refine{_,_,r1.int_inv,r2.int_inv,?_,bH k<|.int _};rw[JI]at h;exact h
   .cases e
  |_=>cases e
 |_=>cases e
def BE:OpR X `xlF (λx y H Q=>∃i j,x=.str i/\y=.str j/\Q (.bl<|!decide `Fw) H):=by
 intro a s O H x y v u Q I d b h;ext h i j rfl rfl q;ext d t rfl;ext b e rfl;calc PySem.P.le_str {.bl _,H,I,rfl,q}
def rLe:R2:=λx y H Q=>Ts (λi j=>.bl (decide (i<=j))) x y H Q\/(∃i j,x=.str i/\y=.str j/\Q (.bl<|!decide `Fw) H)
def Ju:OpR X `xlF rLe:=LW.or BE
def MA:fD G rLe oLe:=by
 intro Z U g H x y u w l h m t Q b e k;ext x f x;ext y d y;ext b same r1 r2 f1 f2 nd;cases x with
 |int i=>cases y with
  |int j =>
   cases e;calc .inl {_,_,r1.int_inv,r2.int_inv,bH k<|.bl _}
  |_=>cases e
 |str s=>cases y with
  |str a =>
   cases e;calc .inr {_,_,r1.str_inv.1,r2.str_inv.1,?_};have:decide ((sx a).cps.toList<(`A6).cps.toList)=UL a s:=by rw[qB];exact decide_eq_decide.mpr (by simp[sx])
   calc this ▸ bH k (.bl _)
  |_=>cases e
 |_=>cases e
def B4:Tells oLe:=by
 intro x y m t e;ext x d x;ext y b y;cases x with
 |int i=>cases y with
  |int j=>cases e;exact{_,(rfl)}
  |_=>cases e
 |str s=>cases y with
  |str a=>cases e;exact{_,(rfl)}
  |_=>cases e
 |_=>cases e
def yS{i:Int}:Pq n i=ixN n i:=by
 unfold Pq ixN;grind
def kf{α:Type}{l:`ew}{i:Int}{x:α}(b:Pq ⇑l i=Y k)(a:l[k]?=Y x):atI l i=Y x:=by
 unfold atI;calc yS ▸ b ▸ a
def cz{a:Wc}{F:Vr}{i:Nat}(h:a[i]?=Y F):F.Sublist a.flatten:=by
 exists Ze.mp h,b,rfl;calc List.sublist_flatten_of_mem<|YT b
theorem Fp.sub{F:Vr}(h:F.Sublist d):∀{m:Md},Fp Z U H m d->Fp Z U H m F
 |.fr,f=>{f.1.sublist h,λa b=>f.2 a `xiP}
 |.pu,f=>λa b=>f a `xiP
 |.bo,f=>λa b=>f a `xiP
def yU:fD G (rIx G.K) aM:=by
 intro Z U E H x y u w N L m t Q s e k;ext x D x;ext y C y;ext s same r1 r2 f1 f2 nd;cases x with
 |lst l =>
  cases y with
  |int i =>
   exists Zz.mp e,j,d,e;exists Zx.mp e,x,b,e;ext r1.lst_inv a n A rfl rfl o h;exists h.get j b,v,F,q,p,g;calc .inl<|Oe a n i v {rfl,r2.int_inv,OD.of o,kf (h.len.1 ▸ d) q,?_};have f:=((f1.sub<|Y5 _ _).sub<|cz p).up g;unfold VS.sub at e;rw[e]at f;have r:x=t:=ZF Prod.snd e;rw[r]at g;calc k v H F (aN.refl _) g f
  |_=>cases e
 |tup l =>
  cases y with
  |int i =>
   exists Zz.mp e,j,d,e;exists Zx.mp e,x,b,e;ext r1.QA a n A rfl rfl o h;exists h.get j b,v,F,q,p,g;calc .inr<|.inl<|Oe a n i v {rfl,r2.int_inv,P8.of o,kf (h.len.1 ▸ d) q,?_};have f:=(f1.sub<|cz p).up g;unfold VS.sub at e;rw[e]at f;have r:x=t:=ZF Prod.snd e;rw[r]at g;calc k v H F (aN.refl _) g f
  |_=>cases e
 |scr l =>
  cases y with
  |int i =>
   exists Zz.mp e,j,d,e;exists Zx.mp e,x,b,e;cases e;ext r1.scr_inv a rfl rfl sa;calc .inl<|Oe a _ i _ {rfl,r2.int_inv,sa.seq,kf (by rw[Zu];calc d)<|by simp_all,bH k<|.int _}
  |_=>cases e
 |str l =>
  cases y with
  |int i =>
   exists Zz.mp e,j,d,e;exists Zx.mp e,x,b,e;cases e;ext r1.str_inv rfl hl;calc .inr<|.inr<|Ow _ i x {rfl,r2.int_inv,by rw[eE,<-gR];calc hl.1,kf (by simpa[sx] using d)<|by simpa[sx] using b,?_};calc bH k<|.str _ {by show 1<=gn;decide,λc z=>ZK.mp z ▸ hl.2 x (ZE b)}
  |_=>cases e
 |_=>cases e
theorem Ad:∀{l:Ue}{d:Wc},x∈QW l d->∃(i:Nat)(v:Val)(F:Vr),l[i]?=Y v/\v.1=.fr/\d[i]?=Y F/\x∈F
 |[],_,h=>nomatch h
 |_::_,[],h=>nomatch h
 |v::l,F::d,h=>by
  have go:x∈QW l d->∃(i:Nat)(u:Val)(f:List _),(v::l)[i]?=Y u/\u.1=.fr/\(F::d)[i]?=Y f/\x∈f:=λm=>by
   calc ai λr g=>?_;calc OH (Ad m) λi u f=>OI λq o n j=>?_;calc g ?_;exact Ow `I_ u f {by simpa using q,o,by simpa using n,j}
  ext v m t;cases m with
  |fr =>
   obtain h|h:=Zf.mp h
   .exact Ow 0 (.fr,t) F {rfl,rfl,rfl,(h)}
   .exact go h
  |_=>calc go h
def ag:PJ G X [] ak:=PA.weak fG λO H Q d=>by
 calc OH d λZ U l=>oe λs e k=>?_;cases (e);calc k [] H [] (aN.refl _) .nil {λi v F h=>by simp at h,Yi}
def aa(C:PV G X e ca)(w:`xew)(t:{`q3,Qv e es X}):PJ G X `bv (ae ca cs):=PA.weak (cf C w t) λO H Q A=>by
 calc ai λS m=>?_;calc OH A λZ U l=>oe λs e k=>?_;exists Zz.mp e,x,N,e;exists Zz.mp e,j,L,e;cases e;calc m ?_;refine Oe Z U _ _ {s,N,λv H1 F e1 r1 f1=>Ow Z U j ⟨s.same e1,L,λR P Fs e2 r2 f2=>k _ P _ `B_ (.cons `xiO r2) {λi u h g d=>?_,?_}⟩}
 .cases i with
  |zero =>
   simp_all
  |succ i=>exact(f2.each i u h (by simpa using g)<|by simpa using d).back e1
 .unfold QW;split
  .rename_i r;rw[r]at f1;calc ZG.mpr {f1.1,f2.nd,λy o z n q=>?_};subst q;calc OH (Ad n) λi u h=>OI λg d E D=>?_;have f:=f2.each i u h g E;rw[d]at f;exact Oy.jj (r1.OF y o)<|f.2 y D
  .exact f2.nd
theorem mY:∀{l:Ue},dk l=.fr->∀v∈l,v.1=.fr
 |[],_,v,h=>by simp at h
 | (m,t)::r,e,v,h=>by
  have d:m.join _=.fr:=e;obtain rfl|h:=Zi.mp h
  .exact(by
   revert d;clear e h;cases m<;>cases dk r<;>first|calc λ_=>rfl|calc λh=>nomatch h)
  .exact mY (by
   revert d;clear e;cases m<;>cases dk r<;>first|calc λ_=>rfl|calc λh=>nomatch h) v h
theorem md:∀{l:Ue},dk l ≠ .bo->∀v∈l,v.1 ≠ .bo
 |[],_,v,h=>by simp at h
 | (m,t)::r,e,v,h=>by
  have d:m.join _ ≠ .bo:=e;obtain rfl|h:=Zi.mp h
  .exact(by
   revert d;clear e h;cases m<;>cases dk r<;>first|calc λh=>absurd L h|calc λ_ h=>nomatch h)
  .exact md (by
   revert d;clear e;cases m<;>cases dk r<;>first|calc λh=>absurd L h|calc λ_ h=>nomatch h) v h
theorem zV:∀{l:Ue}{d:Wc},⇑l=⇑d->(∀v∈l,v.1=.fr)->QW l d=d.flatten
 |[],[],_,_=>rfl
 |[],_::_,h,_=>by simp at h
 |_::_,[],h,_=>by simp at h
 |v::l,F::d,h,q=>by
  unfold QW;rw[q v Zv,zV (by simpa using h) λu f=>q u<|Zs _ f];rfl
def ik{d:Wc}(h:x∈d.flatten):∃(i:Nat)(F:Vr),d[i]?=Y F/\x∈F:=by
 exists Ul.mp h,F,j,f;exists List.mem_iff_getElem?.mp j,i,g;exact{i,F,g,(f)}
def FpL.join(f:FpL Z U H l j)(m:⇑l=⇑j):Fp Z U H `xnM j.flatten:=by
 have at':∀x∈j.flatten,∃v F,v∈l/\x∈F/\Fp Z U H v.1 F:=λx g=>by
  exists ik g,i,F,n,d;have:i<⇑l:=by
   grind
  exact{_,F,YT this,d,f.each i _ F (Zo this) n}
 cases e:dk l with
 |fr =>
  have al:=mY e;refine{zV m al ▸ f.nd,λx g=>?_};exists at' x g,v,F,h,d,q;rw[al v h]at q;calc q.2 x d
 |pu =>
  intro x g;exists at' x g,v,F,h,d,q;calc Fp.pu ((md (by rw[e];decide)) v h) q x d
 |bo =>
  intro x g;exists at' x g,v,F,h,d,q;calc q.bo x d
structure Args(G:Gx)(Z:Os)(U:VS.Env)(H0 H:Hp)(l:Ue)(vs:`cg)(Fs:Wc):Prop where
 same:aN H0 H
 rp:RpL G H vs `xje Fs
 fp:FpL Z U H0 l Fs
theorem Args.len{U:VS.Env}(A:Args G Z U g H l f d):⇑l=⇑d:=by
 have:=A.rp.len.2
 simp_all
def gu(G:Gx)(r:List V->Hp->VK->Prop)(f:Ue->Ud):Prop:=∀(Z:Os)(U:VS.Env)(h H:Hp)(l:Ue)(g:`cg)(i:Wc)(m:Md)(t:T)(Q:VK),Args G Z U h H l g i->f l=Y (m,t) →
 (∀v d F,aN H d->Rp G d v t F->Fp Z U h m F->Q v d)->r g H Q
def IE(h:gu G r f)(s:`gx)(i:cs U=Y l)(e:f l=Y (m,t))(k:∀v d F,aN H d->Rp G d v t F->Fp Z U H m F->Q v d):tEs G cs O H λg n=>r g n Q :=
 (Ow Z U l {s,i,λg d o e1 r1 f1=>h Z U H d l g o m t Q {e1,r1,(f1)} e λv j F e2 r2 f2=>k v j F `B_ r2 f2})
def nh(q:dU X {`xaV,d} r)(g:gu G r f)(o:`xac)(n:`xfp)(h:{`xz,.builtin d})(u:`kx)(j:{`q1,x ≠ "__name__"})(w:{`q1,Qx x})(he:{`q3,Qv e es X})(y:{`q3,Qw pos es X}):PV G X (.Call `j_ `bv [] pos) (eN f cs) :=
 PE.weak (qi q o n h u j w he y) λO H Q i=>by
  calc Oj i λZ U m t=>oe λs e k=>?_;exists Zz.mp e,l,v,e;calc IE g s v e k
def kH{G:Gx}{X:Cx}{es:`i2}{cs:OG}{pos p:Pos}{r:List V->Hp->VK->Prop}{f:Ue->Ud}{Ty:String}{x:Str}(o:dU X (.type Ty) r)(d:gu G r f)(n:`xac)(j:`xfp)(g:{`xz,.type Ty})(q:`kx)(i:{`q1,x ≠ "__name__"})(v:{`q1,Qx x})(he:{`q3,Qv e es X})(w:{`q3,Qw pos es X}):PV G X (.Call `j_ `bv [] pos) (eN f cs) :=
 PE.weak (kz o n j g q i v he w) λO H Q h=>by
  calc Oj h λZ U m t=>oe λs e k=>?_;exists Zz.mp e,l,u,e;calc IE d s u e k
def dv(h:`xew):PV G X `xop (fS cs):=PE.weak (Le h) λO H Q f=>by
 calc Oj f λZ U m t=>oe λs e k=>?_;exists Zz.mp e,l,g,e;calc Ow Z U l {s,g,λd j n e1 r1 f1=>?_};have A:Args G Z U H j l d n:={e1,r1,(f1)}
 exists tW e,_,hl,_;refine{r1.len.1 ▸ gR ▸ hl,kA e1 e r1 `xnp λv i F e2 r2 f2=>k v i F `B_ r2 f2}
def hU{x1}(h:`xew):PV G X {`xdj,es,x1} (jA cs):=PE.weak (KY h) λO H Q d=>by
 calc Oj d λZ U m t=>oe λs e k=>?_;exists Zz.mp e,l,g,e;calc Ow Z U l {s,g,λf i j e1 r1 f1=>?_};have A:Args G Z U H i l f j:={e1,r1,(f1)}
 unfold zy at e;split at e
 .rename_i hl;cases e;refine{by rw[r1.len.1,<-gR,trees,Zu];calc hl,λq d=>?_};have r2:Rp G _ _ _ _:=.tup av<|r1.same<|bI d;exact k _ _ _ (e1.trans<|bI d) r2<|Fp.up `xnp r2
 .cases e
def Gq(r:`hQ)(h:tru t=Y k):KU G.K v H k:=by
 cases r with
 |non=>cases h;rfl
 |bl b=>cases h;rfl
 |int i=>cases h;rfl
 |str s hl =>
  cases h;refine{by rw[eE,<-gR];calc hl.1,?_};rw[eE];cases s with
  |nil=>rfl
  |cons a r =>
   grind
 |scr d=>cases h
 |tup d q =>
  cases h;calc .inr<|.inl {_,P8.of d,?_};have:=q.len.1;rename_i f g _;cases f<;>cases g<;>simp_all
 |lst d q =>
  cases h;calc .inl {_,OD.of d,?_};have:=q.len.1;rename_i f g _;cases f<;>cases g<;>simp_all
 |dct d hl q =>
  cases h;calc .inr<|.inr {_,d,?_};have:=q.len.1;rename_i j f g _;cases j<;>cases f<;>cases g<;>simp_all
 |dctT d hl q=>cases h
 |dctN d hl n q=>cases h
 |dctZ _ _ _=>cases h
 |exc _ _=>cases h
 |ins _ _ _ _=>cases h
 |mk _ _=>cases h
def pJ(h:`cC)(d:{`q3,X.K=G.K})(he:{`q2,∀whole,isTrue a X.env whole=(do let v <-whole;standAt a.pos;holding [v] `xfI)}):Ro G X a ca :=
 PT.weak (BP h he) λO H Q ⟨Z,U,m,r,b,s,e,f,k⟩=>Oe Z U m r ⟨s,e,λv g F e1 r1 f1=>{b,d ▸ Gq r1 f,k g e1}⟩
def TQ(G:Gx)(X:Cx)(e:Expr)(c:Ex):Prop:=PW X e<|tT G c
def PW.weak{X:Cx}{e:Expr}(h:PW X e t)(w:∀O H Q,d O H Q->t O H Q):PW X e d:=λg f s O H Q I q=>h g _ s O H Q I `xau
def TQ.pvt(h:TQ G X e ca):Ro G X e ca:=PW.pt h
def wO(e:nr ca cb U=Y (m,r)):(∃n,ca U=Y (n,.bl J)/\cb U=Y (m,r))\/(∃n,ca U=Y (n,.bl B)/\m=.fr/\r=.bl B):=by
 obtain⟨⟨n,x⟩,d,e⟩:=Zz.mp e;cases x with
 |bl b=>cases b with
  |true=>calc .inl {n,d,(e)}
  |false =>
   cases e;calc .inr {n,d,rfl,(rfl)}
 |_=>cases e
def HF(e:eOr ca cb U=Y (m,r)):(∃n,ca U=Y (n,.bl B)/\cb U=Y (m,r))\/(∃n,ca U=Y (n,.bl J)/\m=.fr/\r=.bl J):=by
 obtain⟨⟨n,x⟩,d,e⟩:=Zz.mp e;cases x with
 |bl b=>cases b with
  |false=>calc .inl {n,d,(e)}
  |true =>
   cases e;calc .inr {n,d,rfl,(rfl)}
 |_=>cases e
def vb{G:Gx}{X:Cx}{a:Expr}{ca cb:Ex}{pos:Pos}{rest:`i2}(j:`xeZ)(i:TQ G X `mm cb):TQ G X (.BoolOp .And (a::b::rest) pos) (nr ca cb) :=
 PW.weak (DB j i) λO H Q h=>by
  calc xE5 h λZ U m r k=>OI λs e f q=>?_;rcases wO e with⟨n,d,e2⟩|⟨n,d,rfl,rfl⟩
  .refine PM Z U n _ _ {s,d,rfl,λg e1=>?_};calc yt ?_;exact PM Z U m r k {s.same e1,e2,f,λl e2=>q l `B_}
  .refine PM Z U n _ _ {s,d,rfl,λg e1=>?_};calc xY ?_;cases f;calc q g e1
def ql{G:Gx}{X:Cx}{a:Expr}{ca cb:Ex}{pos:Pos}{rest:`i2}(j:`xeZ)(i:TQ G X {`xdC,b,pos} cb):TQ G X (.BoolOp .Or (a::b::rest) pos) (eOr ca cb) :=
 PW.weak (NA j i) λO H Q h=>by
  calc xE5 h λZ U m r k=>OI λs e f q=>?_;rcases HF e with⟨n,d,e2⟩|⟨n,d,rfl,rfl⟩
  .refine PM Z U n _ _ {s,d,rfl,λg e1=>?_};calc xY ?_;exact PM Z U m r k {s.same e1,e2,f,λl e2=>q l `B_}
  .refine PM Z U n _ _ {s,d,rfl,λg e1=>?_};calc yt ?_;cases f;calc q g e1
def vI(e:oJ ca U=Y (m,r)):∃n b,ca U=Y (n,.bl b)/\m=.fr/\r=.bl (!b):=by
 obtain⟨⟨n,x⟩,d,e⟩:=Zz.mp e;cases x with
 |bl b =>
  cases e;exact{n,b,d,rfl,(rfl)}
 |_=>cases e
def kL(f:`xeZ):Ro G X {`Po,a} (oJ ca):=PT.weak (BY f) λO H Q d=>by
 calc xE5 d λZ U m r k=>OI λs e g q=>?_;exists vI e,n,b,h,rfl,rfl;cases g;calc PM Z U n _ b {s,h,rfl,λi e1=>q i e1}
def CA(f:`cC):PV G X {`Po,a} (oJ ca):=PE.weak (Lo f) λO H Q d=>by
 calc Oj d λZ U m r=>oe λs e q=>?_;exists vI e,n,b,g,rfl,rfl;calc Oe Z U n _ ⟨s,g,λv h F e1 r1 f1=>{b,r1.Pm,q _ h _ e1 (.bl _) Fp.nil}⟩
def DA{op}(h:`cC):PV G X (.BoolOp op [a] pos) ca:=KJ h
def EK{G:Gx}{X:Cx}{a:Expr}{ca cb:Ex}{pos:Pos}{rest:`i2}(i:`cC)(h:PV G X `mm cb):PV G X (.BoolOp .And (a::b::rest) pos) (nr ca cb) :=
 PE.weak (KC i h) λO H Q g=>by
  calc Oj g λZ U m r=>oe λs e q=>?_;rcases wO e with⟨n,d,e2⟩|⟨n,d,rfl,rfl⟩
  .refine Oe Z U n _ ⟨s,d,λv f F e1 r1 f1=>{_,r1.Pm,?_}⟩;calc yt ?_;exact Oe Z U m r {s.same e1,e2,λv j F e2 r2 f2=>q v j F `B_ r2 `xiN}
  .refine Oe Z U n _ ⟨s,d,λv f F e1 r1 f1=>{_,r1.Pm,?_}⟩;calc xY ?_;calc q _ f _ e1 (.bl _) Fp.nil
def IX(h:Ro G X c cc)(j:`cC)(i:`hH):PV G X `xkG (eIf cc ca cb) :=
 PE.weak (BV h j i) λO H Q g=>by
  calc ai λo f=>?_;calc Oj g λZ U m r=>oe λs e q=>?_;obtain⟨⟨n,x⟩,ec,e⟩:=Zz.mp e;exists Zz.mp e,k,l,e;calc f ?_;calc PM Z U n x k {s,ec,l,λt e1=>?_};cases k with
  |true =>
   rw[Zp L]at e;calc yt ?_;calc Oe Z U m r {s.same e1,e,λv d F e2 r2 f2=>q v d F `B_ r2 `xiN}
  |false =>
   rw[Zn Zj]at e;calc xY ?_;calc Oe Z U m r {s.same e1,e,λv d F e2 r2 f2=>q v d F `B_ r2 `xiN}
def uY(r:`hQ):decide (v=.non)=isN t:=by
 cases r<;>simp[isN]
def GV{j pos'}(g:`cC):PV G X (.Compare a [.IsNot] [.Constant .none j pos'] pos) (gp ca):=PE.weak (Kn<|zk g) λO H Q f=>by
 calc Oj f λZ U m r=>oe λs e q=>?_;obtain⟨⟨n,x⟩,h,e⟩:=Zz.mp e;cases e;calc Oe Z U n x {s,h,λv d F e1 r1 f1=>?_};show Q (.bl<|!decide (v=.non)) d;calc uY r1 ▸ q _ d _ e1 (.bl _) Fp.nil
def IS{c:Ex}(h:tT G c O H Q)(f:∀U m r,c U=Y (m,r)->∃b,r=.bl b)(w:∀Q,tE G c O H Q->t O H Q):tB t O H Q:=by
 calc xE5 h λZ U m r b=>OI λs e d k=>?_;calc w _<|Oe Z U m r {s,e,λv i F e1 r1 f1=>?_};exists f U m r e,j,g;rw[g]at d r1;cases (d);exact{_,r1.Pm,k i e1}
def RpL.one(r:RpL G H d [t] f):∃v F,d=[v]/\f=[F]/\Rp G H v t F:=by
 cases r with
 |cons r q=>cases q;exact{_,_,rfl,rfl,(r)}
def Mq(K:W0):List V->Hp->VK->Prop:=λd H Q=>(∃x n,d=[x]/\Mg K x H n/\Q (.int n) H)\/(∃a f,d=[V.ref a]/\H a=Y (.dK f)/\Q (.int ⇑f) H)
def yy:dU X (.builtin "len") (λf H Q=>∃a d,f=[V.ref a]/\H a=Y `xnx/\Q (.int ⇑d) H):=by
 intro g s O H f m Q I r h;ext h a d rfl j q;exists vals1 r,u,rfl,i;cases i;calc Nn I (.inl j) λt n l=>{.int _,H,l,{t,(rfl)},q}
def AQ:dU X (.builtin "len") (Mq X.K):=C9.or yy
def JV:gu G (Mq G.K) cn:=by
 intro Z U y H l g z m t Q A e k;calc ai λw d=>?_;unfold cn at e;split at e
 .rename_i x;ext x o x;exists Zx.mp e,n,en,e;cases e;exists (`xev).one,v,F,rfl,rfl,r;have fin:=bH k<|.int _;cases r with
  |non=>cases en
  |bl b=>cases en
  |int i=>cases en
  |str s hl =>
   clear k e;cases en;calc d ?_;calc .inl {_,_,rfl,{by rw[eE,<-gR];calc hl.1,rfl},by rw[eE];calc fin}
  |scr h =>
   clear k e;cases en;calc d ?_;refine .inl {_,_,rfl,.inl {_,h.seq,(rfl)},?_}
   simp_all
  |tup h q =>
   cases en;calc d ?_;calc .inl {_,_,rfl,.inr {_,P8.of h,rfl},?_};calc q.len.1 ▸ fin
  |lst h q =>
   cases en;calc d ?_;calc .inl {_,_,rfl,.inl {_,OD.of h,rfl},?_};calc q.len.1 ▸ fin
  |dct h hl q =>
   clear k e;cases en;calc d ?_;calc .inr {_,_,rfl,h,?_};rename_i u f j _;rw[YA,Zu]at fin;calc YA ▸ q.len.1 ▸ fin
  |dctT h hl q=>cases en
  |dctN h hl n q=>cases en
  |dctZ _ _ _=>cases en
  |exc _ _=>cases en
  |ins _ _ _ _=>cases en
  |mk _ _=>cases en
 .cases e
def Ja(K:W0):List V->Hp->VK->Prop:=λf H Q=>∃p d,f=[.ref p]/\(OD K H p d\/P8 K H p d)/\∀l,H l=M->Q `z_ {`oX,l,d}
def zM:gu G (Ja G.K) LZ:=by
 intro Z U n H l i o m t Q A e k;obtain _|⟨⟨j,x⟩,l⟩:=l
 .cases e
 cases x with
 |lst x =>
  cases l with
  |nil =>
   exists (`xev).one,v,F,rfl,rfl,f;ext f.lst_inv a d Gs rfl rfl h g;exact{a,d,rfl,.inl<|OD.of h,kA A.same e g ((A.fp.each 0 _ _ L L).sub<|Y5 _ _) k}
  |cons _ _=>cases e
 |tup x =>
  cases l with
  |nil =>
   exists (`xev).one,v,F,rfl,rfl,f;ext f.QA a d Gs rfl rfl h g;exact{a,d,rfl,.inr<|P8.of h,kA A.same e g (A.fp.each 0 _ _ L L) k}
  |cons _ _=>cases e
 |_=>cases e
def tO(G:Gx)(c:`xeg):TO:=λO H Q=>∃Z U o,SR G Z U O H/\sJ c U=Y o/\∀d,aN H d->Q o d
def PVO(G:Gx)(X:Cx)(e:`xak)(c:`xeg):Prop:=PO X e<|tO G c
def PO.weak{X:Cx}{e:`xak}(h:PO X e t)(w:∀O H Q,d O H Q->t O H Q):PO X e d:=λf s O H Q I q=>h _ s O H Q I `xau
def rn:PVO G X M M:=PO.weak zA λO H Q d=>by
 ext d Z U o s e k;cases (e);calc k H<|aN.refl _
def qw(h:`cC):PVO G X (Y a) (Y ca):=PO.weak (Au h) λO H Q f=>by
 calc OH f λZ U o=>oe λs e k=>?_;obtain⟨⟨m,y⟩,g,e⟩:=Zz.mp<|e;exists Zx.mp e,i,d,e;cases e;calc Oe Z U m y {s,g,λv l F e1 r1 f1=>?_};cases y with
 |int j =>
  cases d;exact{_,r1.int_inv,k l e1}
 |_=>cases d
def nO{α:Type}(l:`ew)(d f:`lc):cut l d f=(l.drop {`xbN,⇑l}).take {`S7,⇑l,f,d}:=by
 cases d<;>cases f<;>rfl
theorem mxn(a:Int)(n:Nat):max 0 (min a (n:Int))=((min a.toNat n:Nat):Int):=L2.mxn a n
def mxk{k:Nat}(h:(k:Nat)<=n):max 0 (min (k:Int) (n:Int))=(k:Int):=by rw[mxn,YR,YJ h]
def GJ(a:Int)(n:Nat):max 0 (min a (n:Int))=max 0 (min ((min a.toNat n:Nat):Int) (n:Int)):=by
 rw[mxn,mxn,YR,Nat.min_assoc,Nat.min_self]
def D9(d f:`lc)(n:Nat):Builtin.Str.strSliceIndices d f 1 n=Builtin.Str.strSliceIndices (Y ((min {`xbN,n} n:Nat):Int)) (Y ((min (HT.PQ n n f) n:Nat):Int)) 1 n:=by
 have nn:∀k:Nat,¬((k:Int)<0):=λk=>by lia
 unfold Builtin.Str.strSliceIndices;simp only[show (1:Int) > 0 by decide,if_true,nn,if_false];congr 1
 .cases d with
  |none=>simp only[HT.PQ];rw[mxn,YR,Nat.zero_min,Nat.zero_min];rfl
  |some i =>
   simp only[HT.PQ];by_cases h:i<0
   .simp only[h,if_true];exact GJ _ _
   .simp only[h,if_false];rw[Nat.min_assoc,Nat.min_self];exact GJ _ _
 .cases f with
  |none=>simp only[HT.PQ];simp_all
  |some i =>
   simp only[HT.PQ];by_cases h:i<0
   .simp only[h,if_true];exact GJ _ _
   .simp only[h,if_false];rw[Nat.min_assoc,Nat.min_self];calc GJ _ _
def kU(s:Tx)(d f:`lc):PySem.StrLaws.sliceText `A6 d f=sx (cut s d f):=by
 have key:PySem.StrLaws.sliceText `A6 d f=PySem.StrLaws.sliceText `A6 (Y ((min {`xbN,⇑s} ⇑s:Nat):Int)) (Y ((min `xat ⇑s:Nat):Int)):=by
  unfold PySem.StrLaws.sliceText;rw[eE,D9]
 rw[key];have hd:∀a:Nat,s.drop (min a ⇑s)=s.drop a:=λa=>by
  simp_all
 by_cases h:min {`xbN,⇑s} ⇑s<=min `xat ⇑s
 .rw[PySem.StrLaws.sliceText_nat _ h (by rw[eE];calc Xs _ _),nO];show ({(_)}:Str)={(_)};congr 2;have:(`A6).cps.toList=s:=rfl;rw[this,hd];by_cases i:HT.PQ ⇑s 0 d<=⇑s
  .rw[YJ i];by_cases g:HT.PQ ⇑s ⇑s f<=⇑s
   .rw[YJ g]
   .rw[Up<|by calc Uo g,Yq<|by simp_all,Yq (by rw[Yj];lia)]
  .rw[VY<|by calc Uo i];simp
 .have j:cut s d f=[]:=by
   rw[nO];have:HT.PQ ⇑s ⇑s f-HT.PQ ⇑s 0 d=0:=by omega
   rw[this,List.take_zero]
  rw[j];unfold PySem.StrLaws.sliceText;have e2:Builtin.Str.strSliceIndices (Y ((min {`xbN,⇑s} ⇑s:Nat):Int)) (Y ((min `xat ⇑s:Nat):Int)) 1 ⇑(`A6)=[]:=by
   have e1:∀k:Nat,¬((k:Int)<0):=λk=>by lia
   unfold Builtin.Str.strSliceIndices sliceRange;simp only[show (1:Int) > 0 by decide,if_true,e1,if_false,eE];rw[mxk<|Xs _ _,mxk<|Xs _ _,Zn λz=>h `xol];rfl
  rw[e2];have:¬((1:Int)==1&&⇑([]:Uj)==⇑(`A6))=J:=by
   rw[eE];simp;lia
  rw[Zn this];rfl
noncomputable def MO:V->Option Int->Option Int->Hp->VK->Prop:=λx lo d H Q=>∃z,x=.str z/\⇑z<=Pi/\Q (.str<|PySem.StrLaws.sliceText z lo d) H
def part_of(h:IsPart v o):∃q:Option (Int×Tok),v=partValue q/\o=q.map (·.1):=by
 cases h with
 |none=>exact{M,rfl,(rfl)}
 |int i t=>exact{Y (i,t),rfl,rfl}
def uW{α β:Type}(f:`xhJ)(l:`ew):⇑({`xbz,f})<=⇑l:=List.length_filterMap_le f l
def GK(d f:`lc)(n:Nat):⇑(Builtin.Str.strSliceIndices d f 1 n)<=n:=by
 rw[D9];by_cases h:min {`xbN,n} n<=min (HT.PQ n n f) n
 .rw[PySem.StrLaws.strSliceIndices_plain h<|by calc Xs _ _,Zu,Yt];lia
 .have e1:∀k:Nat,¬((k:Int)<0):=λk=>by lia
  unfold Builtin.Str.strSliceIndices sliceRange;simp only[show (1:Int) > 0 by decide,if_true,e1,if_false];rw[mxk<|Xs _ _,mxk<|Xs _ _,Zn λz=>h `xol];simp
def Ez:SlR X MO:=by
 intro f s O H x v o n lo w r Q I g hs i pu h;calc ai λy j=>?_;ext h z rfl m q;ext g t rfl;exists part_of i,l,rfl,rfl;exists part_of pu,u,rfl,rfl;calc j ?_;refine{_,_,F.slot_str_getitem.lookup,typeIs_str s z t,wpAny_getItem_str_slice (st:=M) hs L ?_};unfold sliceMade;split
 .rename_i d;refine{.str z,H,I,{t,(rfl)},?_};have e:PySem.StrLaws.sliceText z (l.map (·.1)) (u.map (·.1))=z:=by
   exact Zp d
  rw[e]at q;exact q
 .rename_i d;refine{ZY ?_ m,.str _,H,I.tok _,{_,(rfl)},?_}
  .show (List.filterMap _ _).toArray.size<=_;exact Ya ▸ ZY (uW _ _) (GK _ _ _)
  .have e:PySem.StrLaws.sliceText z (l.map (·.1)) (u.map (·.1))={((slicePicked z l u M).filterMap (z.cps[·]?)).toArray}:=by
    exact Zn d
   rw[e]at q;calc q
def rSl(K:W0):V->Option Int->Option Int->Hp->VK->Prop:=λx lo d H Q=>MO x lo d H Q\/Nr K x lo d H Q
def NI:SlR X (rSl X.K):=Ez.or HC
def AJ{α:Type}(l:`ew)(d f:`lc):⇑(cut l d f)<=⇑l:=by
 rw[nO,Xr,Yj];lia
theorem RpL.cut(r:RpL G H g i j)(d f:`lc):RpL G H (DY g d f) {`xoQ,i} {`xoQ,j}:=by
 have h:=r.len;rw[nO,nO,h.2];unfold DY;rw[h.1];exact(r.drop _).take _
def uO{α:Type}(l:`ew)(d f:`lc):({`xoQ,l}).Sublist l:=by
 rw[nO];exact(Uv _ _).trans<|List.drop_sublist _ _
def BR{F G:Wc}(h:F.Sublist G):F.flatten.Sublist G.flatten:=by
 induction h with
 |slnil=>calc Vi _
 |cons a _ d=>grind
 |cons_cons a _ d=>grind
def qJ(ha:`cC)(f:PVO G X n u)(R:PVO G X o w)(hK:{`q3,X.K=G.K}):PV G X (.Subscript a (.Slice n o M D) pos) (eSl ca u w) :=
 PE.weak (vA NI ha f R) λO H Q P=>by
  calc ai λP_ N=>?_;calc Oj P λZ U m t=>oe λs e k=>?_;obtain⟨⟨E,x⟩,ea,r⟩:=Zz.mp e;exists Zz.mp r,l,el,i;exists Zz.mp i,h,eh,g;calc N ?_;clear e r i;calc Oe Z U E x {s,ea,λv H1 F e1 r1 f1=>Ow Z U l ⟨s.same e1,el,λH2 e2=>{Z,U,h,(`xjU).same e2,eh,λH3 e3=>?_}⟩};have d:=(`B_).trans e3;have j:=(`xiO).same e3;unfold oSl at g;split at g
  .rename_i L z q;cases q;cases g;ext j.str_inv rfl f;calc .inl {_,rfl,by rw[eE,<-gR];calc f.1,?_};rw[kU];exact k _ H3 _ d (.str _ {ZY (AJ _ _ _) f.1,λc S=>f.2 c<|(uO _ _ _).subset S}) Fp.nil
  .rename_i L z q;cases q;ext j.lst_inv a' y Fs rfl rfl OA A;refine .inr<|Pd a' y {rfl,hK ▸ OD.of OA,kA d g (A.cut l h) ((f1.sub<|Y5 _ _).sub<|BR<|uO _ _ _) λv H4 F e5 C f4=>k v H4 F (d.trans e5) C f4}
  .cases g
noncomputable def tyS:Ty->String
 |.int => "int"
 |.str => "str"
 |.bool => "bool"
 |.list => "list"
 |.tuple => "tuple"
 |.dict => "dict"
def rIs(K:W0):List V->Hp->VK->Prop:=λd H Q=>∃x c t b,d=[x,.ty c]/\QG K H x t/\PySem.W.kitOne K t (.type c)=Y b/\Q `xfJ H
def HN:dU X (.builtin "isinstance") (rIs X.K):=by
 intro d s O H f i Q I r h;ext h x c t b rfl ty e q;exists vals2 r,u,g,rfl,r1,r2;cases r2;calc BG I r1 ty e λj=>{.bl b,H,I.tok _,rfl,q}
def GL(K:W0)(d:Ty):(PySem.W.kitOne K (.type "NoneType") `A1=Y B)/\(PySem.W.kitOne K (.type "bool") `A1=Y (vU d<|.bl J))/\(PySem.W.kitOne K (.type "int") `A1=Y (vU d<|.int 0)) ∧
  (PySem.W.kitOne K (.type "str") `A1=Y (vU d<|.str []))/\(PySem.W.kitOne K (.type "list") `A1=Y (vU d<|.lst []))/\(PySem.W.kitOne K (.type "tuple") `A1=Y (vU d<|.tup []))/\(PySem.W.kitOne K (.type "dict") `A1=Y (vU d<|.dct 0 [])):=by
 cases d<;>refine{?_,?_,?_,?_,?_,?_,?_}<;>kernel_rfl
def LJ(d:Ty)(r:`hQ)(h:AN t=J):∃y,QG G.K H v y/\PySem.W.kitOne G.K y `A1=Y (vU d t):=by
 calc L2.xA7 (GL G.K d) λw u o m j g f=>?_;cases r with
 |non=>exact{_,.non,by rw[w];clear w u o m j g f;cases d<;>rfl}
 |bl b=>exact{_,.bl b,by rw[u];clear w u o m j g f;cases d<;>rfl}
 |int i=>exact{_,.int i,by rw[o];clear w u o m j g f;cases d<;>rfl}
 |str s _=>exact{_,.str _,by rw[m];clear w u o m j g f;cases d<;>rfl}
 |scr _=>cases h
 |tup x q=>exact{_,.tup x,by rw[g];clear w u o m j g f;cases d<;>rfl}
 |lst x q=>exact{_,.lst x,by rw[j];clear w u o m j g f;cases d<;>rfl}
 |dct x l q=>exact{_,.dK x,by rw[f];clear w u o m j g f;cases d<;>rfl}
 |dctT x l q=>exact{_,.dT x,by rw[f];clear w u o m j g f;cases d<;>rfl}
 |dctN x l n q=>cases h
 |dctZ _ _ _=>cases h
 |exc _ _=>cases h
 |ins _ _ _ _=>cases h
 |mk _ _=>cases h
def MD(f:Ty)(E:`cC)(D:Gl X "isinstance")(A:X.mg "isinstance" = M)(h:`xac)(g:`xfp)(u:{`xz,.type<|tyS f})(l:{`q3,X.K=G.K})(z:{`q1,x ≠ "__name__"})(PD:{`q1,Qx x})(j:{`q3,SL [a,.Name x d] X.env=(B,eval a X.env)::SL [.Name x d] X.env})(S:{`q3,SL [.Name x d] X.env=(B,eval (.Name x d) X.env)::SL [] X.env})(OP:{`q3,(backTo pos<|SL [Expr.Name x d] X.env).any (·.1)=B}) :
  PV G X (.Call (.Name "isinstance" o) [a,.Name x d] [] pos) (eIs f ca) :=
 PE.weak (qi HN D A boot_isinstance (cf E (cf (HP (v:=.ty _) h g u L z PD) fG S) j) `ao L j OP) λO H Q w=>by
  calc ai λP_ r=>?_;calc Oj w λZ U m t=>oe λs e k=>?_;obtain⟨⟨q,y⟩,R,i⟩:=Zz.mp e;calc r ?_;split at i
  .rename_i C;cases i;calc Oe Z U q y {s,R,λv H' F e1 r1 f1=>?_};exists LJ f r1 C,n,P,N;exact Oe v _ n _ {rfl,l ▸ P,l ▸ N,k _ H' _ e1 (.bl _) Fp.nil}
  .cases i
def MM(G:Gx)(r:V->List V->Hp->VK->Prop)(f:Val->Ue->Ud):Prop:=∀(Z:Os)(U:VS.Env)(d i H:Hp)(x:Val)(v:V)(F:Vr)(l:Ue)(h:`cg)(j:Wc)(m:Md)(t:T)(Q:VK),
 aN d i->Rp G H v x.2 F->Fp Z U d x.1 F->Args G Z U i H l h j->f x l=Y (m,t)->(∀v g F,aN H g->Rp G g v t F->Fp Z U d m F->Q v g)->r v h H Q
def MK{g:Pos}(C:PlainAttrs q)(h:Slot q d n)(o:typeOf {`xaV,n}=pure (.type "method_descriptor"))(R:MtR X n r)(D:MM G r f)(hT:∀H v (x:Val) F l z,Rp G H v x.2 F->f x l=Y z->tyV G.K q v H)(P:`cC)(S:`kx)(hK:{`q3,X.K=G.K})(OB:{`q3,Tj a d X})(OS:{`q3,Qz j `bv X})(Oz:{`q3,(g.endLine==j.line)=J})(L:{`q3,Qv e es X})(Ot:{`q3,Qw j es X}) :
  PV G X (.Call {`z3,a,d,g} `bv [] j) (eM f ca cs) :=
 PE.weak (pV C h o R P S OB OS Oz L Ot) λO H Q N=>by
  calc ai λP_ E=>?_;calc Oj N λZ U m t=>oe λs e k=>?_;exists Zz.mp e,x,ea,e';exists Zz.mp e',l,el,i;calc E ?_;calc Oe Z U _ _ {s,ea,λv u F e1 r1 f1=>⟨hK ▸ hT u v x F l _ r1 i,Ow Z U l {s.same e1,el,λw H2 Fs e2 r2 f2=>?_}⟩};calc D Z U H u H2 x v F l w Fs m t Q e1 `xiO f1 {e2,r2,(f2)} i λy H3 F' e3 A f3=>k y H3 F' {`tf,e1.trans,e2,e3} A f3
def G7:∀(sep:Tx)(d:`cr),Txt.join (sx sep) `xhk=sx (dW sep d):=by
 intro sep d;have fold:∀(l:`cr)(acc:Tx),(l.map sx).foldl (λacc p=>acc++(sx sep).cps++p.cps) acc.toArray=(l.foldl (λacc p=>acc++sep++p) acc).toArray:=by
  intro l
  induction l with
  |nil=>intro acc;rfl
  |cons x r f =>
   intro acc;rw[Zh,XS,XS,<-f];congr 1;simp[sx]
 have g:∀(r:`cr)(acc:Tx),r.foldl (λacc p=>acc++sep++p) acc=dW sep (acc::r):=by
  intro r
  induction r with
  |nil=>intro acc;rfl
  |cons x r f =>
   intro acc;rw[XS,f];cases r with
   |nil=>rfl
   |cons y r=>simp[dW]
 cases d with
 |nil=>rfl
 |cons x r =>
  show ({(_)}:Str)={(_)};congr 1;show ((r.map sx).foldl _ x.toArray)=_;rw[fold,g]
theorem t7:∀{d:`cg}{l:Uc}{g:Wc}{f:`cr},RpL G H d l g->strs? l=Y f->d=f.map λs=>V.str `A6
 |_,_,_,_,.nil,e=>by cases e;rfl
 |_,_,_,_,.cons (t:=t) r q,e=>by
  cases t with
  |str s =>
   exists Zx.mp e,h,e1,e2;subst e2;rw[t7 q e1,r.str_inv.1];rfl
  |_=>cases e
theorem pL:∀{d:`cr}{f:Vq},aS `xie f->StrsAre f `xhk
 |[],_,h=>by cases h;calc .nil
 |s::d,_,h=>by
  cases h with
  |cons r q =>
   ext r t rfl;calc .cons _ _<|pL q
def rJoin(K:W0):V->List V->Hp->VK->Prop:=λx f H Q=>∃sep p d,x=.str (sx sep)/\f=[.ref p]/\OD K H p `xie/\total d+⇑d*⇑sep<=16777216/\Q (.str<|sx<|dW sep d) H
theorem Af:∀d:List Tx,((`xhk).map (·.length)).sum=total d
 |[]=>rfl
 |s::r=>by
  rw[Zh,Zh,V2,Af r,eE];rfl
def Ag:MtR X "str.join" (rJoin X.K):=by
 intro f s O H x n v o Q I g d h;calc ai λA l=>?_;ext h sep p y rfl rfl m hl q;ext g t rfl;exists vals1 d,u,rfl,i;cases i;exists I.list m,C,r,j,z;calc l ?_;refine join_list j.isList (by simpa using pL r) ?_ λw k=>{.str _,H,I.tok _,{_,by rw[G7]},q}
 rw[Af,Zu,eE];calc hl
theorem lT(d:Tx):∀f:List Tx,⇑(dW d f)<=total f+⇑f*⇑d
 |[]=>by simp[dW,total]
 |[x]=>by simp[dW,total]
 |x::y::r=>by
  have:=lT d<|y::r;simp only[dW,total,Zr,Za]at this ⊢;lia
theorem lB(d:Tx):∀(f:`cr)(c:Nat),c∈dW d f->c∈d\/∃s∈f,c∈s
 |[],c,h=>by simp[dW]at h
 |[x],c,h=>.inr {x,Zv,(h)}
 |x::y::r,c,h=>by
  simp only[dW,Zf]at h;obtain (h|h)|h:=h
  .exact .inr {x,Zv,(h)}
  .exact .inl h
  .refine(lB _ _ c h).imp id λg=>?_;grind
theorem lE:∀{f:`cg}{l:Uc}{g:Wc}{d:`cr},RpL G H f l g->strs? l=Y d->∀s∈d,∀c∈s,c<1114112
 |_,_,_,_,.nil,e,s,hs=>by cases e;simp at hs
 |_,_,_,_,.cons (t:=t) r q,e,s,hs=>by
  cases t with
  |str x =>
   exists Zx.mp e,h,e1,e2;subst e2;obtain rfl|hs:=Zi.mp hs
   .exact r.str_inv.2.2
   .exact lE q e1 s hs
  |_=>cases e
def FU:MM G (rJoin G.K) pY:=by
 intro Z U H0 S H x v F l N Fs m t Q q r f A e k;ext x O x
 .exists Zz.mp e,sep,w,e3;exists Zz.mp e3,R,h,o;clear e e3;obtain rfl:=u4 w;exists oT h,P,rfl;exists Zz.mp o,g,d,i;split at i
  .rename_i hl;clear o;cases i;exists (`xev).one,L,F',rfl,rfl,u;ext u.lst_inv z E Gs rfl rfl n j;rw[t7 j d]at n;refine Ow _ z g ⟨r.str_inv.1,rfl,OD.of n,hl,bH k<|.str _ {ZY (lT _ g) hl,λc y=>(lB _ g c y).elim (r.str_inv.2.2 c) λ⟨s,D,C⟩=>lE j d s D c C}⟩
  .cases i
def wJ(r:`hQ)(h:∃s,t=.str s):tyV G.K "str" v H:=by
 ext h s rfl;rw[r.str_inv.1];rfl
def Hx{d:Pos}(j:`cC)(m:PJ G X [e] cs)(g:{`q3,X.K=G.K})(s:{`q3,Tj a "join" X})(q:{`q3,Qz f [e] X})(n:{`q3,`xjT=J})(i:{`q3,Qv e [] X})(o:{`q3,(backTo f<|SL [] X.env).any (·.1)=B}) :
  PV G X (.Call (.Attribute a "join" d) [e] [] f) (eM pY ca cs) :=
 MK PySem.F.plainAttrs_str PySem.F.slot_str_join PySem.F.type_str_join (g ▸ Ag) FU (λH v x F l z r e=>wJ r (by
  exists Zz.mp e,_,h,_;exact{_,u4 h})) j m g s q n i o
end VS
namespace VS
@[simp] def RF(x y:Val):Ud:=match x.2 with
 |.dct 0 l=>if iJ y.2 then (eU l y.2).map (sub x.1) else M
 |_=>aM x y
noncomputable def flat:T->Bool
 |.non=>J
 |.bl _=>J
 |.int _=>J
 |.str _=>J
 |_=>B
@[simp] def rW(x y:Val):Ud:=match y.2 with
 |.dct 0 l=>if iJ x.2 then Y (.fr,.bl (eU l x.2).isSome) else M
 |.lst l=>if flat x.2&&l.all flat then Y (.fr,.bl `xid) else M
 |.tup l=>if flat x.2&&l.all flat then Y (.fr,.bl `xid) else M
 |_=>M
@[simp] def dP(x y:Val):Ud:=match rW x y with
 |some (_,.bl b)=>Y (.fr,.bl<|!b)
 |_=>M
def pm{α:Type}(f:{`Sn,T,α}):List Ky->T->Option (T×α)
 |[],t=>f t
 |.fld k::r,t=>match t with
  |.obj `xfV `xnH=>({`xdE,fs.findIdx?,k}).bind λi=>(fs[i]?).bind λp=>(pm f r p.2).map λz=>(.obj `xfV<|q::fs.set i (p.1,z.1),z.2)
  |_=>M
 |.un::r,t=>match t with
  |.obj 0 [(0,.bl true),(m,x)]=>(pm f r x).map λz=>(.obj 0 [(0,.bl J),(m,z.1)],z.2)
  |_=>M
 |.at k::r,t=>match t with
  |.lst l=>match k with
   |.int i=>({`O_,i}).bind λj=>(l[j]?).bind λx=>(pm f r x).map λz=>(.lst<|l.set j z.1,z.2)
   |_=>M
  |.dct 0 l=>if iJ k then ({`xdF,l.findIdx?,k}).bind λi=>(l[i]?).bind λp=>(pm f r p.2).map λz=>(.dct 0<|l.set i (p.1,z.1),z.2) else M
  |_=>M
open L2
mutual
def RU:T->PyData
 |.non=>.none
 |.bl b=>.bool b
 |.int i=>.int i
 |.str s=>.str `A6
 |.tup l=>.tuple `xfS
 |.lst l=>.list `xfS
 |_=>.none
def kQ:Uc->List PyData
 |[]=>[]
 |t::r=>RU t::kQ r
end
def LV(h:lF s):PyData.strOk `A6=J:=by
 unfold PyData.strOk sx;simp only[Array.all_eq_true,decide_eq_true_eq];intro i a;have:s.toArray[i]∈s:=by simp
 have:=h.2 _ this;simpa using this
def Cd:(sx s==sx t)=(s==t):=by
 rw[XR,beq_iff_eq,beq_iff_eq];constructor
 .intro h;have:(`A6).cps=(sx t).cps:=by rw[h]
  simpa[sx] using this
 .intro h;rw[h]
mutual
theorem pA:∀(n k:Nat)(t u:T),Pk n t=J->Pk k u=J->PyData.eqv `xdX (RU u)=eqT t u
 |n,k,t,u,b,a=>by
  cases t with
  |scr _=>cases n<;>cases b
  |dct _ _=>cases n<;>cases b
  |obj _ _=>cases n<;>cases b
  |tup l =>
   cases n with
   |zero=>cases b
   |succ n =>
    cases u with
    |tup r =>
     cases k with
     |zero=>cases a
     |succ k =>
      calc q9 n k l r (ZC.mp b)<|ZC.mp a
    |scr _=>cases k<;>cases a
    |dct _ _=>cases k<;>cases a
    |obj _ _=>cases k<;>cases a
    |_=>rfl
  |lst l =>
   cases n with
   |zero=>cases b
   |succ n =>
    cases u with
    |lst r =>
     cases k with
     |zero=>cases a
     |succ k =>
      calc q9 n k l r (ZC.mp b)<|ZC.mp a
    |scr _=>cases k<;>cases a
    |dct _ _=>cases k<;>cases a
    |obj _ _=>cases k<;>cases a
    |_=>rfl
  |str s =>
   cases u with
   |str r=>calc Cd
   |scr _=>cases k<;>cases a
   |dct _ _=>cases k<;>cases a
   |obj _ _=>cases k<;>cases a
   |_=>rfl
  |_ =>
   cases u with
   |scr _=>cases k<;>cases a
   |dct _ _=>cases k<;>cases a
   |obj _ _=>cases k<;>cases a
   |_=>rfl
theorem q9:∀(n k:Nat)(l r:Uc),(∀t∈l,Pk n t=J)->(∀t∈r,Pk k t=J)->PyData.eqvAll `xfS (kQ r)=Bs l r
 |_,_,[],[],_,_=>rfl
 |_,_,[],_::_,_,_=>rfl
 |_,_,_::_,[],_,_=>rfl
 |n,k,t::l,u::r,d,b=>by
  show (PyData.eqv `xdX (RU u)&&PyData.eqvAll `xfS (kQ r))=(eqT t u&&Bs l r);rw[pA n k t u (d t Zv)<|b u Zv,q9 n k l r (λx a=>d x<|Zs _ a) λx a=>b x<|Zs _ a]
end
def Rp.UY(r:{`ss,.tup d}):∃b a e,v=.ref b/\H b=Y `xkD/\RpL G H a d e:=by
 cases r with
 |tup h q=>calc UE {rfl,h,(q)}
def Rp.XY(r:{`ss,.lst d}):∃b a e,v=.ref b/\H b=Y `xhM/\RpL G H a d e:=by
 cases r with
 |lst h q=>calc UE {rfl,h,(q)}
def tD{s:On}(g:∀{v:V}{t:T}{F:Vr}{u:Re},Rp G H v t F->RelV v u->Pk n t=J->∃e,Reads s.heap u `xdX e/\(`xdX).canLay0=J/\(`xdX).depth<=n):∀{d:`cg}{a:Uc}{f:Wc}{b:Vq},RpL G H d a f->aS d b->(∀t∈a,Pk n t=J) →
  ∃e,ReadsAll s.heap b (kQ a) e/\PyData.canLayAll0 (kQ a)=J/\PyData.depthAll (kQ a)<=n:=by
 intro d a f b q;revert b;apply RpL.ind ?_ ?_ q
 .intro b r _;cases r;exact{_,.nil,rfl,Pr _}
 .intro v t F d a f p q j b r h;cases r with
  |cons r1 r2 =>
   calc ai λA i=>?_;exists g p r1 (h _ Zv),e,w,o,m;exists j r2 λt l=>h t<|Zs _ l,bs,z,y,x;calc i ?_;exact⟨_,.cons w z,Zd.mpr {o,(y)},Nat.max_le.mpr {m,(x)}⟩
def qP(r:`hQ)(a:`xfq)(d:`xhI):∃e,Reads h u `xdX e/\(`xdX).canLay0=J/\(`xdX).depth<=n:=by
 cases r with
 |non=>cases a;exact{_,.none,rfl,Pr _}
 |bl b=>cases a;exact{_,.bool b,rfl,Pr _}
 |int i=>ext a t rfl;exact{_,.int i t,rfl,Pr _}
 |str s h=>ext a t rfl;exact{_,.str _ t,LV h,Pr _}
 |_=>cases d
def iW(I:{`p_,d})(n:Nat):∀{v:V}{t:T}{F:Vr}{u:Re},Rp G H v t F->RelV v u->Pk n t=J->∃w,Reads s.heap u `xdX w/\(`xdX).canLay0=J/\(`xdX).depth<=n:=by
 induction n with
 |zero =>
  intro v t F u r a h;calc qP r a ?_;cases t<;>first|rfl|calc h
 |succ n x =>
  intro v t F u r a h;cases t with
  |tup l =>
   exists Rp.UY r,b,y,N,rfl,e,q;cases a;exists I.tuple (P8.of e),E,f,z,D;exists tD x q f `xiM,w,p,m,j;ext z o g i C hd;exact{_,.tuple g i hd<|by simpa using p,m,Vd j}
  |lst l =>
   exists Rp.XY r,b,y,N,rfl,e,q;cases a;exists I.list (OD.of e),E,f,A,D;exists tD x q f `xiM,w,p,m,j;ext A.isList o g i C hd;exact{_,.list g i hd<|by simpa using p,m,Vd j}
  |scr _=>cases h
  |dct _ _=>cases h
  |obj _ _=>cases h
  |_=>calc qP r a L
def GH(G:Gx)(a:Bool):R2:=λx y H Q=>∃t u F b,Rp G H x t F/\Rp G H y u b/\Pk 60 t=J/\Pk 60 u=J/\Q (.bl<|if a then !eqT t u else eqT t u) H
def kP{d:PyData}(h:d.canLay0=J)(a:d.depth<=60):SeqAt.shaped d=J:=by
 unfold SeqAt.shaped;grind
def x9(g:X.A.units+64<cLine):OpR X (XAC .Eq) (GH G B):=by
 intro a s O H x y v u Q I f e h;calc Oj h λt w F r=>Pf λr1 r2 d b q=>?_;exists iW I 60 r1 f d,p,o,n,m;exists iW I 60 r2 e b,bs,l,j,i;calc eq_dataH o l (kP n m) (kP j i) g {.bl _,H,I,rfl,?_};calc pA 60 60 t w d b ▸ q
def Dr(g:X.A.units+64<cLine):OpR X (XAC .NotEq) (GH G J):=by
 intro a s O H x y v u Q I f e h;calc Oj h λt w F r=>Pf λr1 r2 d b q=>?_;exists iW I 60 r1 f d,p,o,n,m;exists iW I 60 r2 e b,bs,l,j,i;calc ne_dataH o l (kP n m) (kP j i) g {.bl _,H,I,rfl,?_};calc pA 60 60 t w d b ▸ q
def C1:fD G (GH G B) oEq:=by
 intro Z U b H x y u w f d m t Q a e k;unfold oEq at e;split at e
 .rename_i h;cases e;exact UW {a.r1,a.r2,h.1,h.2,bH k<|.bl _}
 .cases e
def Jb:fD G (GH G J) oNe:=by
 intro Z U b H x y u w f d m t Q a e k;unfold oNe at e;split at e
 .rename_i h;cases e;exact UW {a.r1,a.r2,h.1,h.2,bH k<|.bl _}
 .cases e
def tells_eq:Tells oEq:=by
 intro x y m t e;unfold oEq at e;grind
def vv:Tells oNe:=by
 intro x y m t e;unfold oNe at e;grind
structure OE(Z:Os)(U:VS.Env)(H:Hp)(Z':Os)(U':VS.Env)(H':Hp):Prop where
 keep:∀a o,H a=some o->¬bU Z U a->H' a=some o/\¬bU Z' U' a
 OF:∀a,H a≠none->H' a≠none
 ow:∀a,bU Z' U' a->bU Z U a\/H a=none
 pu:∀a,dE Z' U' a->dE Z U a\/bU Z U a\/H a=none
 kept:Kept H H'
theorem OE.refl(Z:Os)(U:VS.Env)(H:Hp):OE Z U H Z U H:={λa o h n=>{h,(n)},λ_ h=>h,λ_ h=>.inl h,λ_ h=>.inl h,Kept.refl H}
theorem OE.none(f:OE Z U H d g b)(h:b a=M):H a=M:=by
 cases e:H a with
 |none=>rfl
 |some o=>calc absurd h (f.OF a<|by grind)
theorem OE.trans{Z d b:Os}{U U1 e:VS.Env}{H j i:Hp}(f:OE Z U H d U1 j)(g:OE d U1 j b e i):OE Z U H b e i where
 keep:=λa o h n=>let ⟨m,l⟩:=f.keep a o h n;g.keep a o m l
 OF:=λa h=>g.OF a (f.OF a h)
 ow:=λa h=>by
  obtain h|h:=g.ow a h
  .exact f.ow a h
  .exact .inr (f.none h)
 pu:=λa h=>by
  obtain h|h|h:=g.pu a h
  .exact f.pu a h
  .rcases f.ow a h with h|h
   .exact .inr `xfs
   .exact .inr<|.inr h
  .exact .inr (.inr<|f.none h)
 kept:=f.kept.trans g.kept
def OE.same{H:Hp}(e:`xnt):OE Z U H Z U b :=
 {λa o h n=>{e a o h,n},λa h z=>h `xlA,λ_ h=>.inl h,λ_ h=>.inl h,Kept.of e}
def wa(Z:Os)(U:VS.Env)(H:Hp):Md->Vr->Prop
 |.fr,F=>F.Nodup/\∀a∈F,H a=M\/bU Z U a
 |_,F=>∀a∈F,H a=M\/dE Z U a\/bU Z U a
theorem wa.back(f:OE Z U H d e g):∀{m:Md},wa d e g m F->wa Z U H m F
 |.fr,h=>{h.1,λa b=>(h.2 a b).elim {`xaN,f.none z} λz=>(`xhj).elim .inr .inl}
 |.pu,h=>λa b=>by
  obtain z|z|z:=h a b
  .exact .inl<|f.none z
  .rcases f.pu a z with z|z|z
   .exact .inr `xky
   .exact .inr `xkw
   .exact .inl z
  .exact(`xhj).elim {`xaM,.inr z} .inl
 |.bo,h=>λa b=>by
  obtain z|z|z:=h a b
  .exact .inl<|f.none z
  .rcases f.pu a z with z|z|z
   .exact .inr `xky
   .exact .inr `xkw
   .exact .inl z
  .exact(`xhj).elim {`xaM,.inr z} .inl
noncomputable def Nx(G:Gx)(Z:Os)(U:VS.Env)(H:Hp)(d:VS.Env)(k:L2.St->Hp->Prop):Prop:=∀b e a,SR G b d e a->OE Z U H b d a->k e a
def vZ(G:Gx)(Z:Os)(U:VS.Env)(H:Hp)(D:Ends):Out->Prop
 |.nx a=>Nx G Z U H a D.nx
 |.bk a=>Nx G Z U H a D.bk
 |.ct a=>Nx G Z U H a D.ct
 |.rt v a=>∀u b F d e,SR G d a e b->OE Z U H d a b->Rp G b u v.2 F->wa Z U H v.1 F->D.rt u b
def tS(G:Gx)(c:Sx):TS:=λD O H=>∃Z U o,SR G Z U O H/\c U=Y o/\vZ G Z U H D o
def PSV(G:Gx)(X:Cx)(a:Stmt)(c:Sx):Prop:=PS X a<|tS G c
def iM(G:Gx)(X:Cx)(a:`xiW)(c:Sx):Prop:=Rq X a<|tS G c
def PS.weak{X:Cx}(h:PS X e t)(w:∀D O H,a D O H->t D O H):PS X e a:=λb s O H D I q=>h _ s O H D I<|w D O H q
def Rq.weak{X:Cx}(h:Rq X e t)(w:∀D O H,a D O H->t D O H):Rq X e a:=λb s O H D I q=>h _ s O H D I<|w D O H q
theorem vZ.back(f:OE Z U H e i j):∀{o:Out},vZ G Z U H D o->vZ G e i j D o
 |.nx _,h=>λb d a s g=>h _ _ a s `xgu
 |.bk _,h=>λb d a s g=>h _ _ a s `xgu
 |.ct _,h=>λb d a s g=>h _ _ a s `xgu
 |.rt v _,h=>λu a F b d s g r q=>h u a F _ _ s `xgu r<|q.back f
section
variable{st:Stmt}
def bD:iM G X [] eR:=Rq.weak FN λD O H a=>by
 ext a Z U o s e k;cases (e);calc k Z O H s<|OE.refl _ _ _
def af(i:PSV G X st c1)(h:iM G X sts c2):iM G X (st::sts) (aq c1 c2):=Rq.weak (D8 i h) λD O H g=>by
 calc OH g λZ U o=>oe λs e k=>?_;exists Zz.mp e,b,e1,e2;calc Ow Z U b {s,e1,?_};cases b with
 |nx a=>calc λj l m d f=>Ow _ _ o {d,e2,k.back f}
 |rt v a=>cases e2;calc k
 |bk a=>cases e2;calc k
 |ct a=>cases e2;calc k
def cH(h:Ro G X t d)(j:iM G X a c1)(i:iM G X b c2):PSV G X (.If t a b pos) (P6 d c1 c2):=PS.weak (Ji h j i) λD O H g=>by
 calc OH g λZ U o=>oe λs e k=>?_;obtain⟨⟨m,x⟩,ec,e1⟩:=Zz.mp e;exists Zz.mp e1,f,l,e2;calc PM Z U m x f {s,ec,l,λn e3=>?_};cases f with
 |true =>
  rw[Zp L]at e2;calc yt `xam
 |false =>
  rw[Zn Zj]at e2;calc xY `xam
theorem Fp.ret:∀{m:Md},Fp Z U H m F->wa Z U H (match m with|.bo=>.pu|m=>m) F
 |.fr,f=>{f.1,λa b=>.inl `xfk}
 |.pu,f=>λa b=>(`xjS).elim .inl λz=>.inr `xky
 |.bo,f=>f
def bw(he:`XV):PSV G X {`xbk,e} (fT ce):=PS.weak (ve he) λD O H a=>by
 calc OH a λZ U o=>oe λs e k=>?_;obtain⟨⟨m,x⟩,ec,e1⟩:=Zz.mp e;obtain rfl:=Om e1;calc Oe Z U m x {s,ec,λv b F e1 r1 f1=>k v b F Z O `xjU (OE.same e1) r1 f1.ret}
def c6{U:VS.Env}{c:Cell}(h:`xay[j]?=Y `xjd):j≠i/\U[j]?=Y `xjd:=by
 rw[Uu]at h;split at h
 .split at h<;>cases h
 .rename_i n;exact{λz=>n z.symm,h}
def SR.drop(s:`gx)(i:Nat):SR G Z `xay O H :=
 {by rw[Yc];calc s.len,λj c h=>s.rp j c (c6 h).2,λj t h=>s.nd j t (c6 h).2,λj k t c b a n=>s.sep j k t c (c6 b).2 (c6 a).2 n}
def OE.drop(i:Nat):OE Z U H Z `xay H :=
 {λa o h n=>⟨h,Px λj t=>Pc λd b=>n {j,t,(c6 d).2,b}⟩,λ_ h=>h,λa=>Px λj t=>Pc λd b=>.inl {j,t,(c6 d).2,b},λa=>Px λj t=>Pc λd b=>.inl {j,t,(c6 d).2,b},Kept.refl H}
def cJ{X:Cx}(i:Nat)(u:{`q3,X.N[i]?=Y x})(l:{`q5,RP X.env.scope x})(r:{`q1,Qx x})(d:{`q1,Qy x}):PSV G X {`xbk,`j_} (fE i):=PS.weak (ve<|eD u l r d) λD O H n=>by
 calc OH n λZ U o=>oe λs e k=>?_;unfold fE at e;split at e
 .rename_i t h;exists s.rp _ _ h,v,j,b;cases e;exact{v,j,k v H _ Z O (s.drop i) (OE.drop i) b ⟨s.nd i t h,λa g=>.inr {i,t,h,(g)}⟩}
 .rename_i t h;exists s.rp _ _ h,v,j,b;cases e;refine{v,j,k v H _ Z O s (OE.refl _ _ _) b ?_};have f:Fp Z U H .pu _:=λa g=>.inr {i,t,h,(g)};have f2:=(f.up b).ret;have:(match (VS.up .pu<|j7 `xae).1 with|.bo=>Md.pu|m=>m)=(VS.up .pu t).1:=by
   show (match (VS.up _ t).1 with|.bo=>Md.pu|m=>m)=_;unfold VS.up;split<;>(rename_i q;revert q;split<;>simp)
  rw[this]at f2;exact f2
 .cases e
noncomputable def rm(Z:Os)(i:Nat)(F:Vr):Os:=λj=>if j=i then F else Z j
def kD:rm Z i F i=F:=Zp L
def fU(h:j≠i):rm Z i F j=Z j:=Zn h
def jk{U:VS.Env}{c:Cell}(h:{`mz,c}[j]?=Y (Y a)):(j=i/\a=c)\/(j≠i/\U[j]?=Y (Y a)):=by
 rw[Uu]at h;split at h
 .simp_all
 .rename_i n;calc .inr {λz=>n z.symm,h}
def SR.put{G:Gx}{Z:Os}{U:VS.Env}{O:L2.St}{H u:Hp}{i:Nat}{v:V}{c:Cell}{F:Vr}(s:`gx)(z:`xhi)(r:Rp G u v (j7 c) F)(y:∀j b,j≠i->U[j]?=Y (Y b)->∀w,Rp G H w (j7 b) (Z j)->Rp G u w (j7 b) (Z j))(o:∀t,c=.ow t->F.Nodup)(d:∀t,c=.ow t->∀j b,j≠i->U[j]?=Y (Y b)->∀a∈F,a∉Z j)(m:∀j t,j≠i->U[j]?=Y `vz->∀a∈Z j,a∉F) :
  SR G `xfF {`mz,c} `A3 u where
 len:=by rw[Yc,Yc];exact s.len
 rp:=λj b h=>by
  rcases jk h with⟨rfl,rfl⟩|⟨n,h⟩
  .exact{v,by rw[Wa<|s.len ▸ z],kD ▸ r}
  .exists s.rp j b h,w,p,g;exact{w,by rw[YZ `xno];calc p,fU n ▸ y j b n h w g}
 nd:=λj t h=>by
  rcases jk h with⟨rfl,e⟩|⟨n,h⟩
  .exact kD ▸ o t e.symm
  .exact fU n ▸ s.nd j t h
 sep:=λj k t b p g n=>by
  rcases jk p with⟨rfl,e⟩|⟨l,x⟩
  .rcases jk g with⟨rfl,e2⟩|⟨f,q⟩
   .exact absurd L n
   .exact kD ▸ fU f ▸ d t e.symm k b f q
  .rcases jk g with⟨rfl,e2⟩|⟨f,q⟩
   .exact kD ▸ fU l ▸ m j t l x
   .exact fU l ▸ fU f ▸ s.sep j k t b x q n
def lL{U:VS.Env}{c:Cell}(h:bU `xfF {`mz,c} a):(∃t,c=.ow t/\a∈F)\/bU Z U a:=by
 ext h j t d b;rcases jk d with⟨rfl,e⟩|⟨n,d⟩
 .rw[kD]at b;exact .inl {t,e.symm,(b)}
 .rw[fU n]at b;calc .inr {j,t,d,(b)}
def um{U:VS.Env}{c:Cell}(h:dE `xfF {`mz,c} a):(∃t,c=.pu t/\a∈F)\/dE Z U a:=by
 ext h j t d b;rcases jk d with⟨rfl,e⟩|⟨n,d⟩
 .rw[kD]at b;exact .inl {t,e.symm,(b)}
 .rw[fU n]at b;calc .inr {j,t,d,(b)}
def SR.U9(s:`gx)(h:bU Z U a)(f:dE Z U a):False:=by
 ext h j t d b;ext f k u i g;calc s.sep j k t _ d i (λe=>by grind) a b g
def SR.val{m:Md}{c:Cell}(s:`gx)(C:`xhi)(e:aN H A)(r:Rp G A v t F)(f:`xfT)(p:(c=.pu t/\m ≠ .bo)\/(c=.ow t/\m=.fr)):SR G `xfF {`mz,c} `A3 A/\OE Z U H `xfF {`mz,c} A:=by
 have OF:∀{a},H a=M->∀j y,U[j]?=Y _->a∉Z j:=λ{a} h j y g b=>by
  exists s.rp j y g,w,_,q;exact Oy.jj (q.OF a b) h
 have ct:j7 c=t:=by rcases p with⟨rfl,_⟩|⟨rfl,_⟩<;>rfl
 have x:∀a∈F,H a=M\/dE Z U a:=λa b=>by
  rcases p with⟨_,n⟩|⟨_,n⟩
  .exact f.pu n a b
  .rw[n]at f;exact .inl `xfk
 constructor
 .refine s.put C (ct ▸ r) (λj y n g w q=>q.same e) (λu d=>?_) (λu d j y n g a b=>?_) λj u n g a b D=>?_
  .rcases p with⟨h,_⟩|⟨_,h⟩
   .rw[h]at d;cases d
   .rw[h]at f;exact f.1
  .rcases p with⟨h,_⟩|⟨_,h⟩
   .rw[h]at d;cases d
   .rw[h]at f;exact OF `xfk j y g
  .rcases x a D with z|z
   .exact OF z j _ g b
   .exact s.U9 {j,u,g,(b)} z
 .refine{λa o h n=>{e a o h,λz=>?_},λa h z=>h `xlA,λa h=>?_,λa h=>?_,Kept.of e}
  .rcases lL z with⟨u,d,b⟩|z
   .rcases p with⟨l,_⟩|⟨_,l⟩
    .rw[l]at d;cases d
    .rw[l]at f;rw[f.2 a b]at h;cases h
   .exact n z
  .rcases lL h with⟨u,d,b⟩|z
   .rcases p with⟨l,_⟩|⟨_,l⟩
    .rw[l]at d;cases d
    .rw[l]at f;exact .inr `xfk
   .exact .inl z
  .rcases um h with⟨u,d,b⟩|z
   .exact(x a b).elim {`xaM,.inr z} .inl
   .exact .inl z
def eX(he:`XV)(p:X.N.Nodup)(l:{`q3,X.N[i]?=Y x})(g:{`q6,Loc X.env.scope x})(h:{`q3,Ua3 e x a pos X})(n:{`q7,Ua4 X x}) :
  PSV G X (.Assign [.Name x a] e pos) (j4 i ce):=PS.weak `xlz λD O H j=>by
 calc OH j λZ U o=>oe λs e k=>?_;obtain⟨⟨m,t⟩,ec,e1⟩:=Zz.mp e;exists Zz.mp e1,c,eC,e2;split at e2
 .rename_i hl;obtain rfl:=Om e2;calc Oe Z U m t {s,ec,λv r F e3 b q=>?_};exists s.val (c:=c) hl e3 b q (by
   unfold cellOf at eC;grind),f,d
  exact k _ _ r f d
 .cases e2
def aD(he:`XV)(p:X.N.Nodup)(l:{`q3,X.N[i]?=Y x})(g:{`q6,Loc X.env.scope x})(h:{`q3,Ua3 e x a pos X})(n:{`q7,Ua4 X x}) :
  PSV G X (.Assign [.Name x a] e pos) (aY i ce):=PS.weak `xlz λD O H j=>by
 calc OH j λZ U o=>oe λs e k=>?_;obtain⟨⟨m,t⟩,ec,e1⟩:=Zz.mp e;split at e1
 .cases e1
 .rename_i hm;split at e1
  .rename_i hl;obtain rfl:=Om e1;calc Oe Z U m t {s,ec,λv r F e3 b q=>?_};exists s.val hl e3 b q (.inl {rfl,(hm)}),f,d;exact k _ _ r f d
  .cases e1
def SR.frz(s:`gx)(h:U[i]?=Y `vz):SR G Z {`mz,.pu t} O H/\OE Z U H Z {`mz,.pu t} H:=by
 have back:∀{j c},{`mz,.pu t}[j]?=Y `xjd->∃l,U[j]?=Y (Y l)/\j7 l=j7 c/\∀u,c=.ow u->l=.ow u:=λ{j c} g=>by
  rcases jk g with⟨rfl,rfl⟩|⟨n,g⟩
  .exact{_,h,rfl,λu p=>nomatch p}
  .exact{c,g,rfl,λu p=>p}
 refine⟨{by rw[Yc];calc s.len,λj c g=>?_,λj u g=>?_,λj k u c b d n=>?_},{λa o r n=>{r,Px λj u=>Pc λb d=>?_},λ_ h=>h,λa=>Px λj u=>Pc λb d=>?_,λa=>Px λj u=>Pc λb d=>?_,Kept.refl H}⟩
 .exists back g,l,b,d,_;exists s.rp j l b,v,f,x
  simp_all
 .exists back g,l,b,_,w;rw[w u L]at b;exact s.nd j u b
 .exists back b,c1,f,_,m;exists back d,c2,q,_,_;rw[m u L]at f;exact s.sep j k u c2 f q n
 .exists back b,c1,f,_,m;rw[m u L]at f;exact n {j,u,f,(d)}
 .exists back b,c1,f,_,m;rw[m u L]at f;exact .inl {j,u,f,(d)}
 .rcases jk b with⟨rfl,_⟩|⟨n,b⟩
  .exact .inr<|.inl {j,t,h,(d)}
  .exact .inl {j,u,b,(d)}
def kE(i:Nat)(h:iM G X sts c):iM G X sts (aq (wV i) c):=Rq.weak h λD O H f=>by
 calc OH f λZ U o=>oe λs e k=>?_;exists Zz.mp e,g,e1,e2;unfold wV at e1;split at e1
 .rename_i t d;cases e1;exists s.frz d,b,a;exact Ow Z _ o {b,e2,k.back a}
 .cases e1;exact Ow Z U o {s,e2,(k)}
 .cases e1
end
section
variable{st:Stmt}
structure Chg(G:Gx)(H:Hp)(v:V)(F:Vr)(t':T)(H2:Hp)(F':Vr):Prop where
 kept:Kept H H2
 keep:∀b o,b∉F->H b=some o->H2 b=some o
 OF:∀b,H b≠none->H2 b≠none
 rp:Rp G H2 v t' F'
 nd:F'.Nodup
 sub:∀a∈F',a∈F\/H a=none
def SR.mut(s:`gx)(m:U[i]?=Y `vz)(A:O[i]?=Y `xer)(g:Chg G H v `xns p x r) :
  SR G (rm Z i r) {`mz,.ow p} O x/\OE Z U H (rm Z i r) {`mz,.ow p} x:=by
 have off:=λj f n d a b l=>s.sep i j t f m d `xno a l b;have es:O.set i `xer=O:=by
  exists Ze.mp A,h,e;exact e ▸ VM h
 have new:∀a∈r,∀j f,j≠i->U[j]?=Y _->a∉Z j:=λa b j f n d l=>by
  obtain z|z:=g.sub a b
  .exact off j f n d a l z
  .exists s.rp j f d,w,_,q;exact Oy.jj (q.OF a l) z
 constructor
 .have:=s.put (c:=.ow p) {`xor,m} g.rp (λj f n d w q=>q.keep g.kept λa b o C=>g.keep a o (off j f n d a b) C) (λ_ _=>g.nd) (λu y j f n d a b=>new a b j f n d) λj u n d a b l=>new a l j _ n d b
  simp_all
 .refine{λa o h n=>{g.keep a o (λz=>n {i,t,m,(z)}) h,λz=>?_},g.OF,λa h=>?_,λa h=>?_,g.kept}
  .rcases lL z with⟨u,_,b⟩|z
   .rcases g.sub a b with z|z
    .exact n {i,t,m,(z)}
    .rw[z]at h;cases h
   .exact n z
  .rcases lL h with⟨u,_,b⟩|z
   .rcases g.sub a b with z|z
    .exact .inl {i,t,m,(z)}
    .exact .inr z
   .exact .inl z
  .rcases um h with⟨u,y,b⟩|z
   .cases y
   .exact .inl z
def zo(G:Gx)(r:V->List V->Hp->VK->Prop)(f:T->Ue->Option `xge):Prop:=∀(Z:Os)(U:VS.Env)(H g:Hp)(v:V)(t b:T)(F:Vr)(l:Ue)(a:`cg)(h:Wc)(x:Val)(Q:VK),
 Rp G H v t F->F.Nodup->Args G Z U H g l a h->f t l=Y (b,x)->(∀u d i,Chg G H v F b d i->Q u d)->r v a g Q
def EY{pos:Pos}{b:Pos}(i:Nat)(pa:PlainAttrs y)(d:Slot y a n)(p:typeOf {`xaV,n}=pure (.type "method_descriptor"))(hm:MtR X n r)(ok:zo G r f)(hT:∀H v t F l z,Rp G H v t F->f t l=Y z->tyV G.K y v H)(ha:`kx)(hK:{`q3,X.K=G.K})(hN:{`q3,X.N[i]?=Y x})(hv:{`q5,RP X.env.scope x})(hd:{`q1,Qx x})(w:{`q1,Qy x})(OB:{`q3,Tj (.Name x j) a X})(OS:{`q3,Qz h `bv X})(Oz:{`q3,(b.endLine==h.line)=J})(hs:{`q3,Qv e es X})(Ot:{`q3,Qw h es X})(Rw:{`q3,swapsWith (.Call {`xdv,a,b} `bv [] h) M pos.line X.env=pure B}) :
  PSV G X (.Expr (.Call {`xdv,a,b} `bv [] h) pos) (sX<|rV i [] f cs) :=
 PS.weak {`xcG,d,{`L_,w}} λD O H hq=>by
  calc ai λP_ m=>?_;calc OH hq λZ U o=>oe λs e k=>?_;unfold sX rV at e;obtain⟨⟨Q,U'⟩,e1,e2⟩:=Zx.mp e;calc m ?_;split at e1
  .rename_i t q;calc ai λP_ m=>?_;exists Zz.mp e1,ks,ek,e3;cases (ek);exists Zz.mp e3,l,el,P;obtain⟨⟨t',x2⟩,e5,e6⟩:=Zx.mp P;clear e1 e3 P;cases e6;clear e;cases e2;exists s.rp _ _ q,v,C,A;calc m ?_;have E:=e5;refine⟨v,C,hK ▸ hT H v t _ l _ A E,Ow Z U l {s,el,λvs H' Fs q1 q2 q3=>?_}⟩;calc ok Z U H H' v t t' _ l vs Fs Q _ A (s.nd i t q) {q1,q2,(q3)} E λu H2 F' g=>?_;exists s.mut q C g,S,R;exact k _ O H2 S R
  .cases e1
theorem Chg.upd(e:aN H d)(n:a∈F)(m:Oy<|d a)(r:Rp G (upd d a o) v i f)(l:f.Nodup)(g:∀a∈f,a∈F\/H a=M):Chg G H v F i (upd d a o) f :=
 {(`xjV).trans {`n6,m},λb j hb h=>by rw[aE<|λz=>hb (by rw[z];calc n)];exact e b j h,
  λb h z=>by
   by_cases q:b=a
   .subst q;rw[av]at z;cases z
   .rw[aE q]at z;calc h `xlA,r,l,g}
def RpL.off{H:Hp}(r:RpL G H f g d)(j:Oy `xiT)(h:a∉d.flatten):RpL G `Z4 f g d :=
 r.keep {`n6,j} λb hb l i=>by rw[aE<|λz=>h (by rw[<-z];calc hb)];calc i
def oP(h:fit v=Y t):v=(.fr,t):=by
 ext v m x;cases m<;>first|(cases h;rfl)|cases h
def nU:zo G AL aP:=by
 intro Z U H D v t O F l E P x Q r nd A e k;unfold aP at e;split at e
 .rename_i N y;exists Zz.mp e,z,j,e1;have u:=oP j;clear j;subst u;split at e1
  .rename_i hl;clear e;cases e1;ext r.lst_inv a p Gs rfl rfl i g;exists (`xev).one,w,n,rfl,rfl,C;have f:=A.fp.each 0 _ _ L L;have d:=A.same a _ i;have h:Oy (D a):=d ▸ True.intro;have nw:a∉n:=λz=>by rw[f.2 a z]at i;cases i
   calc Ow a p w {rfl,rfl,d,g.len.1 ▸ hl,k _ _ (a::(Gs++[n]).flatten) ?_};have off:=λb hb hw=>Oy.jj (g.OF b hb)<|f.2 b hw;refine Chg.upd A.same Zv h (.lst av<|({`xdx,g.same,h}).append<|.cons (C.keep {`n6,h} λb hb o q=>by rw[aE<|λz=>nw (by rw[<-z];calc hb)];calc q) .nil) ?_ ?_
   .rw[YN];refine Zc.mpr ⟨λm=>?_,ZG.mpr {(`ZB).2,by simpa using f.1,λb hb c s z=>?_}⟩
    .grind
    .subst z;exact off b hb (by simpa using s)
   .intro b hb;obtain rfl|hb:=Zi.mp hb
    .exact .inl Zv
    .rw[YN]at hb;obtain hb|hb:=Zf.mp hb
     .simp_all
     .exact .inr (f.2 b<|by simpa using hb)
  .cases e1
 .cases e
def vS(r:{`ss,.lst b}):tyV G.K "list" v H:=by
 ext r.lst_inv a f Gs rfl rfl d g;calc .inl {rfl,_,OD.of d}
def jX(r:`hQ)(h:aP t l=Y z):tyV G.K "list" v H:=by
 unfold aP at h;split at h
 .exact vS r
 .cases h
end
structure To(G:Gx)(J:It)(l:Uc)(C:Vr)(H:Hp):Prop where
 run:∀H2,Kept H H2->(∀a∈C,∀o,H a=some o->H2 a=some o) →
  (∀(i:Nat)(t:T),l[i]?=some t->J.go i H2/\∀x H3,J.yld i H2 x H3->aN H2 H3/\∃F,Rp G H3 x t F/\∀a∈F,a∈C\/H2 a=none)/\∀(i:Nat),⇑l<=i->J.stop i H2
 OF:∀a∈C,H a≠none
def FpC(Z:Os)(U:VS.Env)(H:Hp)(m:Md)(C:Vr):Prop:=∀a∈C,H a=M\/dE Z U a\/(m=.bo/\bU Z U a)
theorem Fp.c{U:VS.Env}:∀{m:Md},Fp Z U H m F->FpC Z U H m F
 |.fr,f=>λa b=>.inl `xfk
 |.pu,f=>λa b=>(`xjS).imp id .inl
 |.bo,f=>λa b=>(`xjS).imp id λz=>z.imp id λz=>{rfl,(z)}
def tI(G:Gx)(c:SH):TI:=λO H R=>∃Z U m l,SR G Z U O H/\c U=Y (m,l)/\∀J a C,aN H a->To G J l C a->FpC Z U H m C->R J a
def PVI(G:Gx)(X:Cx)(b a:Expr)(c:SH):Prop:=PI X b a<|tI G c
def PI.weak{X:Cx}(h:PI X a e t)(w:∀O H Q,b O H Q->t O H Q):PI X a e b:=λd s O H Q I q=>h _ s O H Q I `xau
def xu(H:Hp)(d:Int)(n:Nat):To G (Itr d n) (rng d n) [] H:=by
 refine{λq _ _=>{λi t h=>?_,λi h=>(by simpa[rng] using h:n<=i)},λa h=>by simp at h};unfold rng at h;rw[ZV]at h;exists Zx.mp h,k,g,e;exists Ze.mp g,f,e2;rw[Yt]at f;have l:i=k:=by simpa using e2
 subst l;refine{f,λx o j=>?_};ext j e3 m;subst e3;subst m;calc e ▸ {aN.refl _,[],.int _,λa h=>by simp at h}
def i7(u:`cC)(t:Gl X "range")(r:X.mg "range" = M)(o:{`q3,Qv a [] X})(y:{`q3,SL [a] X.env=[(B,eval a X.env)]}):PVI G X tg (.Call (.Name "range" p) [a] [] pos) (iH ca) :=
 PI.weak (sE t r (cf u fG o) y) λO H R q=>by
  calc Oj q λZ U m l=>oe λs e k=>?_;obtain⟨⟨n,x⟩,w,e1⟩:=Zz.mp e;exists Zz.mp e1,j,f,e2;split at e2
  .rename_i d;cases e2;calc Oe Z U n x {s,w,λv g F e3 i A=>?_};cases x with
   |int z =>
    cases f;refine{j,by rw[i.int_inv],?_,?_,k _ g [] e3 (xu g 0 _) λa h=>by simp at h}
    .have:=d.1;unfold UT at this;lia
    .have:=d.2;unfold UT at this;lia
   |_=>cases f
  .cases e2
def yi(Q:`cC)(P:`hH)(N:Gl X "range")(E:X.mg "range" = M)(C:{`q3,SL [a,b] X.env=(B,eval a X.env)::SL [b] X.env})(Pu:{`q3,SL [a,b] X.env=[(B,eval a X.env),(B,eval b X.env)]})(d:{`q3,Qv b [] X})(RG:{`q3,SL [b] X.env=[(B,eval b X.env)]}) :
  PVI G X tg (.Call (.Name "range" p) [a,b] [] pos) (uq ca cb) :=
 PI.weak (Bu N E (cf Q (cf P fG d) C) Pu RG) λO H R D=>by
  calc ai λP_ A=>?_;calc Oj D λZ U m l=>oe λs e k=>?_;obtain⟨⟨z,x⟩,o,e1⟩:=Zz.mp e;obtain⟨⟨u,y⟩,n,e1⟩:=Zz.mp e1;exists Zz.mp e1,i,g,e2;exists Zz.mp e2,j,f,e2;calc A ?_;split at e2
  .rename_i L;clear e;cases e2;calc Oe Z U z x ⟨s,o,λv H' F e3 t f3=>Oe Z U u y {s.same e3,n,λw q F2 S r f4=>?_}⟩;cases x with
   |int i' =>
    clear o;cases g;cases y with
    |int j' =>
     clear n e2 e1;cases f;calc Pd i j {by rw[t.int_inv,r.int_inv],?_,k _ q [] (e3.trans S) (xu q i _) λa h=>by simp at h};unfold UT at L;omega
    |_=>cases f
   |_=>cases g
  .cases e2
def dA{d:Wc}{i:Nat}{F:Vr}(h:d[i]?=Y F){a:Pv}(f:a∈F):a∈d.flatten:=(cz h).subset f
def HR{a:Pv}(K:W0)(n:{`xcN,a,f})(r:RpL G H f g l):To G `xnE g (a::l.flatten) H:=by
 refine{λy k c=>?_,λb hb=>?_}
 .have d:=c a Zv _ n;refine⟨λi t h=>?_,λi h=>{f,OD.of d,r.len.1 ▸ h}⟩;calc Oo ((r.keep k λb hb o m=>c b (Zs _ hb) o m).get i h) λv F=>oe λj u s=>?_;refine⟨{f,v,OD.of d,j},λx w q=>?_⟩;ext q e1 e2;subst e1;have ex:=e2 f<|OD.of d;rw[j]at ex;obtain rfl:=Om ex;exact{aN.refl _,F,s,λb hb=>.inl<|Zs _<|dA u hb}
 .rcases Zi.mp hb with rfl|hb
  .grind
  .exact Oy.jj `xjR
def KA{a:Pv}(K:W0)(n:H a=Y (.tup f))(r:RpL G H f g l):To G `xnD g l.flatten H:=by
 refine{λy k c=>?_,λb hb=>Oy.jj `xjR};have d:=k.tup a _ n;refine⟨λi t h=>?_,λi h=>{f,P8.of d,r.len.1 ▸ h}⟩;calc Oo ((r.keep k λb hb o m=>c b hb o m).get i h) λv F=>oe λj u s=>?_;refine⟨{f,v,P8.of d,j},λx w q=>?_⟩;ext q e1 e2;subst e1;have ex:=e2 f<|P8.of d;rw[j]at ex;obtain rfl:=Om ex;exact{aN.refl _,F,s,λb hb=>.inl<|dA u hb}
def tG(G:Gx)(g:Tg):TG:=λv O H Q=>∃Z U t F d,SR G Z U O H/\Rp G H v t F/\(∀a∈F,¬bU Z U a)/\g t U=Y d ∧
 ∀f h,SR G f d h H->(∀a,bU f d a->bU Z U a)->(∀a,dE f d a->dE Z U a\/a∈F)->Q h H
def tGs(G:Gx)(l:`xkd):TGs:=λj O H Q=>∃Z U h g d,SR G Z U O H/\RpL G H j h g/\(∀a∈g.flatten,¬bU Z U a)/\Dt l h U=Y d ∧
 ∀f i,SR G f d i H->(∀a,bU f d a->bU Z U a)->(∀a,dE f d a->dE Z U a\/a∈g.flatten)->Q i H
def PVG(G:Gx)(X:Cx)(e:Expr)(g:Tg):Prop:=PG X e<|tG G g
def HL(G:Gx)(X:Cx)(e:`i2)(g:`xkd):Prop:=PGs X e<|tGs G g
def PG.weak{X:Cx}{e:Expr}(h:PG X e t)(w:∀v O H Q,d v O H Q->t v O H Q):PG X e d:=λf s O H v u Q I r q=>h _ s O H v u Q I r<|w v O H Q q
def PGs.weak{X:Cx}{e:`i2}(h:PGs X e t)(w:∀v O H Q,d v O H Q->t v O H Q):PGs X e d:=λf s O H v u Q I r q=>h _ s O H v u Q I r<|w v O H Q q
def aK{X:Cx}(i:Nat)(A:X.N.Nodup)(o:{`q3,X.N[i]?=Y x})(l:{`q6,Loc X.env.scope x})(y:Ua4 X x:=by first|calc .inl L|calc .inr rfl):PVG G X `xfo (bC i):=PG.weak (Ao A o l y) λv O H Q m=>by
 calc xE5 m λZ U t F E=>Pf λs r no e k=>?_;unfold bC at e;split at e
 .rename_i hl;obtain rfl:=Om e;refine k _ _ (s.put hl r (λj D n g w q=>q) (λu d=>nomatch d) (λu d=>nomatch d) λj u n g a f C=>no a C {j,u,g,(f)}) (λa h=>?_) λa h=>?_
  .rcases lL h with⟨u,d,_⟩|z
   .cases d
   .exact z
  .rcases um h with⟨u,d,f⟩|z
   .exact .inr f
   .exact .inl z
 .cases e
def jI:HL G X [] []:=PGs.weak FY λv O H Q d=>by
 calc xE5 d λZ U f i g=>Pf λs r no e k=>?_;cases r with
 |nil =>
  cases (e);exact{rfl,k Z O s (λ_ h=>h) λ_ h=>.inl h}
 |cons r q=>cases (e)
def cL(t:PVG G X e g)(o:HL G X es f)(l:{`q3,({`q_,`bv}).map (·.2)=assign e X.env::({`q_,es}).map (·.2)}):HL G X `bv (g::f) :=
 PGs.weak (Eo t o l) λv O H Q m=>by
  calc xE5 m λZ U w Fs F=>Pf λs r no e k=>?_;cases r with
  |nil=>cases (e)
  |cons r q =>
   rename_i u x F' L P N;exists Zz.mp e,E,e1,e2;calc SJ ⟨rfl,PM Z U _ _ _ {s,r,λa n=>no a<|by grind,e1,λD S s1 d A=>?_}⟩;calc yI5 {s1,q,λa n z=>no a (by grind)<|d a z,e2,λC R i j y=>k _ _ i (λa h=>d a<|j a h) λa h=>?_};grind
theorem vO:∀{f:`xkd}{d:Uc}{U i:VS.Env},Dt f d U=Y i->⇑d=⇑f
 |[],[],_,_,_=>rfl
 |[],_::_,_,_,h=>nomatch h
 |_::_,[],_,_,h=>nomatch h
 |g::f,t::d,U,i,h=>by
  exists Zz.mp (h),j,_,e2;simp[vO e2]
def mR{X:Cx}(m:`Ch)(h:HL G X es d)(j:{`q3,⇑({`q_,es})=⇑d})(o:{`q3,({`q_,es}).findIdx? (·.1)=M})(x:{`q3,X.K=G.K}):PVG G X {`xdj,es,k} (l9 d) :=
 PG.weak (JQ m h j o) λv O H Q i=>by
  calc xE5 i λZ U t F y=>Pf λs r no e q=>?_;unfold l9 at e;split at e
  .rename_i l;ext r.QA n g w rfl rfl u f;exact Pd n g ⟨rfl,P8.of u,f.len.1 ▸ vO e,PM Z U l w _ {s,f,no,e,(q)}⟩
  .cases e
def sU{tgt:Tg}{body:Sx}{l:Uc}{U:VS.Env}(h:l[i]?=Y t):l.drop i=t::l.drop `I_:=by
 exists Ze.mp h,d,e;calc e ▸ YG d
def Ho{J:It}(s:SR G Z1 U1 O m)(f1:OE Z U H Z1 U1 m)(ok:To G J l C m)(cno:∀a∈C,¬bU Z1 U1 a)(fc:∀a∈C,dE Z U a\/bU Z U a\/H a=M)(e1:forL g S l U1=Y o)(k:vZ G Z U H D o):JE (λ_ _ R=>R J m) (tG G g) (tS G S) D O H:=by
 refine{λi n O2 L=>n=⇑l-i/\∃Z2 P,SR G Z2 P O2 L/\OE Z U H Z2 P L/\Kept m L/\(∀a∈C,∀o,m a=Y o->L a=Y o/\¬bU Z2 P a)/\forL g S (l.drop i) P=Y o,
  ⟨_,rfl,Pd Z1 U1 {s,f1,Kept.refl _,λa E j r=>{r,cno a E},Vw ▸ e1}⟩,?_}
 rintro i n O2 L ⟨rfl,Z2,P,s2,f2,kp,con,e3⟩;exists ok.run L kp λa E j r=>(con a E j r).1,go,stop;cases hit:l[i]? with
 |none =>
  have hl:=Vs.mp hit;left;rw[VY hl]at e3;clear e1;cases (e3);exact{stop i hl,k _ _ L s2 f2}
 |some t =>
  have hl:=(Ze.mp hit).1;right;exists go i t hit,g1,y1;rw[sU (tgt:=g) (body:=S) (U:=P) hit]at e3;exists Zz.mp (e3),U3,e4,e5;exists Zz.mp e5,j,e6,e7;refine{g1,λO4 d=>∃w y,SR G _ _ _ d/\OE Z U H _ _ d/\Kept m d/\(∀a∈C,∀o,m a=Y o->d a=Y o/\¬bU _ _ a)/\forL g S _ _=Y o,λO4 d ⟨w,y,q⟩=>{_,by omega,rfl,Pd w y q},λx H3 yl=>?_};exists y1 x H3 yl,N,F,rF,hF;refine PM _ _ t F _ {(s2.same N),rF,(λa E z=>by
   obtain q|q:=hF a E
   .cases r:m a with
    |none=>exact(ok.OF a q) r
    |some o''=>exact(con a q _ r).2 z
   .exact Oy.jj (s2.OQ z) q),e4,λZ3 O3 s4 o3 p3=>?_}
  have Q:OE Z U H _ _ H3:=⟨λa j h n=>let ⟨h1,n1⟩:=f2.keep a j h n;{N a j h1,λz=>n1<|o3 a z},λa h z=>f2.OF a h<|N.free z,λa h=>f2.ow a<|o3 a h,λa h=>by
   obtain h|h:=p3 a h
   .exact f2.pu a h
   .rcases hF a h with q|q
    .exact fc a q
    .exact .inr<|.inr<|f2.none q,f2.kept.trans<|Kept.of N⟩
  have next:∀{w y d},OE _ _ H3 _ _ d->Kept m d/\∀a∈C,∀o,m a=Y o->d a=Y o/\¬bU w y a:=λf =>
   {(kp.trans<|Kept.of N).trans f.kept,λa E j r=>by
    exists con a E j r,h1,n1;calc f.keep a j (N a j h1) λz=>n1<|o3 a z}
  calc Ow _ _ j {s4,e6,?_};cases j with
  |nx y=>calc λw O4 d A f=>SJ {A,Q.trans f,(next f).1,(next f).2,e7}
  |ct y=>calc λw O4 d A f=>SJ {A,Q.trans f,(next f).1,(next f).2,e7}
  |bk y =>
   clear e1 e3 e5;cases (e7);calc λw O4 d A f=>k _ _ d A<|Q.trans f
  |rt v y =>
   clear e1 e3 e5;cases (e7);calc λu d F4 w O4 A f r5 q5=>k u d F4 _ _ A (Q.trans f) r5<|q5.back Q
def Kv(n:{`xoM,jg g h i}):JE (tI G h) (tG G g) (tS G i) D O H:=by
 calc ai λt j=>?_;calc OH n λZ U o=>oe λs e k=>?_;obtain⟨⟨m,l⟩,r,e1⟩:=Zz.mp e;calc j ?_;dsimp only at e1;split at e1
 .rename_i hm;calc Oe Z U m l {s,r,λJ u C e2 ok f=>?_};exact Ho (s.same e2) (OE.same e2) ok (λa d z=>by
   obtain q|q|q:=f a d
   .exact Oy.jj (s.OQ z) q
   .exact s.U9 z q
   .exact(λz=>by rw[z]at hm;cases hm) q.1) (λa d=>(f a d).elim (λq=>.inr<|.inr q) λq=>q.elim .inl λq=>.inr<|.inl q.2) e1 k
 .cases e1
def cX{X:Cx}(m:`EQ)(q:`Ch)(n:PVI G X tg d h)(o:PVG G X tg g)(r:iM G X f i)(j:{`q2,∀x,XAF d X.env x=pure x}):PSV G X (.For tg d f [] pos) (jg g h i):=PS.weak (Kc m q n o r j) λD O H l=>Kv l
noncomputable def NO(H:Hp)(b:Wc):Md->Vr->Prop
 |.fr,F=>F.Nodup/\∀a∈F,H a=M
 |_,F=>∀a∈F,H a=M\/a∈b.flatten
def Sb(G:Gx)(g:Fn):Sp:=λe H Q _=>∃b d m r,RpL G H e b d/\g b=Y (m,r)/\∀v a F,aN H a->Rp G a v r F->NO H d m F->Q v a
def call_of(h:{`xbq,bu g cs}):Jp (Sb G g) [] E (tEs G cs) O H Q:=by
 calc ai λP_ R=>?_;calc Oj h λZ U m t=>oe λs e u=>?_;exists Zz.mp e,l,el,e1;obtain⟨⟨n,r⟩,S,e2⟩:=Zz.mp e1;calc R ?_;calc Ow Z U l {s,el,λP y D b N L=>?_};have A:Args G Z U H y l P D:={b,N,(L)}
 have i:=L.join A.len;show Sb G g _ y Q E;rw[ZO];calc Oe _ D n r {N,S,λv C F q o j=>?_};have wide:(∀a∈F,y a=M\/a∈D.flatten)->Fp Z U H ((Md.pu).join `xnM) F:=λh=>by
  cases w:dk l with
  |fr =>
   rw[w]at i;calc λa d=>.inl<|(h a d).elim b.free<|i.2 a
  |pu =>
   rw[w]at i;calc λa d=>(h a d).elim {`xaN,b.free z}<|i a
  |bo =>
   rw[w]at i;exact λa d=>(h a d).elim {`xaN,b.free z}<|i a
 cases n with
 |fr =>
  cases e2;calc u v C F `xjQ o {j.1,λa d=>b.free<|j.2 a d}
 |pu =>
  cases e2;calc u v C F `xjQ o<|wide j
 |bo =>
  cases e2;calc u v C F `xjQ o<|wide j
def Ii{X:Cx}(F:{`sB,g})(a:`Tm)(i:`xac)(b:X.mg x=Y `dt)(d:{`Sl,X.K,`dt})(j:Binds X.K fd ps [])(l:`kx)(m:{`q1,Qx x})(he:{`q3,Qv e es X})(n:{`q3,Qw pos es X}) :
  PV G X (.Call `j_ `bv [] pos) (bu g cs) :=
 PE.weak (uX F a i b d j .nil kW l m he n) λO H Q h=>call_of h
def DR(r:RpL G H d a s)(n m:Nat)(w:m=⇑d):SR G (λi=>s.getD i []) {`o_,a.map,n-⇑a} (d.map Y++List.replicate (n-m) M) H:=by
 subst w;have hl:=r.len;have back:∀{i:Nat}{c:Cell},(a.map _++List.replicate (n-⇑a) M)[i]?=Y _->∃t,a[i]?=Y t/\c=.pu t:=λ{i c} h=>by
  by_cases o:i<⇑a
  .rw[Yv (by rw[Zu];calc o),ZV]at h;exists Zx.mp h,t,l,b;exact{t,l,(ZL b).symm}
  .rw[Yw (by rw[Zu];calc Yo o),Y1]at h;split at h<;>cases h
 refine{by simp;lia,λi c h=>?_,λi t h=>?_,λi j t c h=>?_}
 .exists back h,t,l,rfl;exists r.get i l,v,F,q,z,y;refine{v,?_,?_}
  .have:=(Ze.mp q).1;rw[Yv (by rw[Zu];calc this),ZV,q];rfl
  .rw[Zl,z];exact y
 .exists back h,u,_,b;cases b
 .exists back h,u,_,b;cases b
def jN{b:Uc}:¬bU Z {`xbe,b.map} a:=by
 rintro⟨i,t,h,_⟩;by_cases d:i<⇑b
 .rw[Yv (by rw[Zu];calc d),ZV]at h;exists Zx.mp h,l,_,j;cases j
 .rw[Yw (by rw[Zu];calc Yo d),Y1]at h;split at h<;>cases h
def wj{H:Hp}{vs:`cg}{j:Uc}{d:Wc}(h:dE (λi=>d.getD i []) {`xbe,j.map} a):a∈d.flatten:=by
 ext h i t _ b;simp only[Zl]at b;cases e:d[i]? with
 |none=>rw[e]at b;simp at b
 |some F=>rw[e]at b;calc dA e b
section
variable{K:W0}
def JD{d:`e_}(g:⇑d=e)(h:Sb G (fn e f c) b H Q E):⇑b=⇑d:=by
 calc Oj h λj l m r=>oe λi a _=>?_;unfold fn at a;split at a
 .rename_i hl;rw[i.len.1,hl,g]
 .cases a
def LD{N:`e_}(s:`xhh)(h:Sb G (fn p g c) vs H Q E):tS G c { nx:=λ_ e=>Q .non e,rt:=Q } {`xoR,vs} H:=by
 calc Oj h λC D m r=>oe λt d q=>?_;unfold fn at d;split at d
 .rename_i hl;exists Zz.mp d,o,e1,e2;have j:=DR t g _ L;rw[hl]at j;have e3:L2.start N vs=vs.map Y++List.replicate (g-⇑vs) M:=by
   unfold L2.start;rw[s]
  rw[e3];calc Ow _ _ o {j,e1,?_};cases o with
  |nx i =>
   clear d;cases e2;intro x y e l fr;calc q _ e [] `xfE .non {Yi,λa h=>by simp at h}
  |rt v i =>
   cases e2;intro u e A x y l fr n f;calc q u e A `xfE n ?_;cases m with
   |fr=>exact{f.1,λa b=>(`xfk).elim id λz=>absurd z jN}
   |pu=>calc λa b=>(`xjS).elim .inl λz=>z.elim {`xaM,wj (H:=H) (vs:=vs) z} λz=>absurd z jN
   |bo=>calc λa b=>(`xjS).elim .inl λz=>z.elim {`xaM,wj (H:=H) (vs:=vs) z} λz=>absurd z jN
  |bk i=>cases e2
  |ct i=>cases e2
 .cases d
def fnV(F:Ov K x a b f i)(S:bt N d<|ah b)(m:⇑d=e)(n:`xhh)(o:Ua6 k Pb P w K mg base N a b f λX=>iM G X.Ss (bg b) c) :
  FnOk P w K mg base Pb `T5 f i d (Sb G<|fn e g c) :=
 F.ok S (λj H Q E h=>JD m h) λp A outer s H j Q E l h=>{_,o _ A _ s H E l,LD n h}
end
end VS
namespace L2
theorem n8(d:Env):∀(l:{`wP,NameKind})(acc:{`wP,Pv}),(∀y∈l,y.2=.free->∃c,d.cells.lookup y.1=Y c)->(∀x c,acc.lookup x=Y c->d.cells.lookup x=Y c) →
  ∃cl,(forIn l acc (λx r=>if (x.snd==NameKind.free)=J then (do let a <-cellOf d x.fst;pure (ForInStep.yield<|(x.fst,a)::r)) else pure {`xaE,r}):Sem {`wP,Pv})=pure cl ∧
   (∀x c,cl.lookup x=Y c->d.cells.lookup x=Y c)/\(∀x c,acc.lookup x=Y c->∃f,cl.lookup x=Y f)/\∀y∈l,y.2=.free->∃c,cl.lookup y.1=Y c
 |[],acc,_,i=>{_,rfl,i,λx c h=>{c,(h)},λy b=>nomatch b}
 | (n,k)::l,acc,g,i=>by
  by_cases p:k=.free
  .refine ai λv q=>?_;subst p;exists g _ Zv L,c,s;have ec:cellOf d n=pure c:=by unfold cellOf;rw[s]
   refine TU (n8 _ l ((n,c)::acc) (λy b=>g y<|Zs _ b) (λx f h=>by
    grind)) λcl=>OI λt o m j=>?_
   calc q ?_;refine{cl,?_,o,λx f h=>?_,λy b e=>?_}
   .simp_all
   .by_cases u:x=n
    .simp_all
    .refine m x f ?_;grind
   .rcases Zi.mp b with rfl|b
    .simp_all
    .exact j y b e
  .refine TU (n8 _ l _ (λy b=>g y<|Zs _ b) i) λcl=>OI λt o m j=>?_;refine{cl,?_,o,m,λy b e=>?_}
   .simp_all
   .rcases Zi.mp b with rfl|b
    .exact absurd e p
    .exact j y b e
def G9{b:Scope}{a:Env}(d:∀y∈b.names,y.2=.free->∃c,a.cells.lookup y.1=Y c) :
  ∃cl,closureFor b a=pure cl/\(∀x c,cl.lookup x=Y c->a.cells.lookup x=Y c)/\∀y∈b.names,y.2=.free->∃c,cl.lookup y.1=Y c:=by
 calc TU (n8 _ _ [] d (λx c h=>nomatch h)) λcl=>OI λg f _ e=>?_;refine{cl,?_,f,e};simp only[closureFor];rw[g];rfl
def iI{l:{`wP,NameKind}}(h:l.lookup x=Y k):(x,k)∈l:=by
 induction l with
 |nil=>cases h
 |cons p l a =>
  grind
theorem dJ{a:Env}:∀{l:{`wP,NameKind}},(l.map λ(n,k)=>if (k==NameKind.free&&a.scope.kind == .function&&a.kindOf n==Y .cell) then (n,NameKind.cell) else (n,k)).lookup x=Y k →
  ∃d,l.lookup x=Y d/\(k=d\/(d=.free/\k=.cell))
 |[],h=>nomatch h
 | (n,e)::l,h=>by
  rw[Zh,XG]at h;by_cases f:(e==NameKind.free&&a.scope.kind == .function&&a.kindOf n==Y .cell)=J
  .simp only[f,if_true]at h;rw[XG];cases b:x==n with
   |true =>
    simp_all
   |false=>rw[b]at h;exact dJ h
  .simp only[f,if_false,Xq]at h;rw[XG];cases b:x==n with
   |true=>rw[b]at h;exact{e,rfl,.inl (`xkL).symm}
   |false=>rw[b]at h;calc dJ h
def cR(X:Cx)(N:`e_)(a:Scope)(d:{`wP,Pv})(C:Pv)(s:On)(H:Hp)(b:Vr):Cx :=
 { X with N:=N,s₀:=s,H₀:=H,env:=compEnvC a d C X.env,outer:=X.stack,ex:=b,fn:=λ_=>false,pn:=[],xe:=λ_ _=>False }
def rR(a:Env)(b:Scope):Bool:=b.kind == .function&&b.names.all λy=>match y.2 with
 |.cell=>B
 |.local=>b.names.lookup y.1==Y .local
 |.free=>a.kindOf y.1==Y .cell||a.kindOf y.1==Y .free
 |_=>J
noncomputable def r9(d:Scope):List Str->List Str->Bool
 |[],[]=>J
 |a::e,b::bs=>((a==b&&d.names.lookup a==Y .free)||d.names.lookup a==M||d.names.lookup a==Y .globalImplicit)&&r9 d e bs
 |_,_=>B
theorem AF:∀{f bs:`e_},r9 d f bs=J->⇑f=⇑bs/\∀(i:Nat)(x:Str),f[i]?=Y x->(bs[i]?=Y x/\d.names.lookup x=Y .free)\/d.names.lookup x=M\/d.names.lookup x=Y .globalImplicit
 |[],[],_=>{rfl,λi x h=>by simp at h}
 |a::f,b::bs,h=>by
  exists Zd.mp (h),j,g;exists AF g,l,r;refine{by simp[l],λi x e=>?_};cases i with
  |zero =>
   grind
  |succ i=>simpa using r i x (by simpa using e)
 |[],_::_,h=>nomatch h
 |_::_,[],h=>nomatch h
section
variable{H:Hp}
def Inv.block{N:`e_}{cl:{`wP,Pv}}{F:XAD}{t:Nat}(I:`bd)(Se:{`xoy,g})(S9:{`xck,g})(Ta:`xgt)(a:∀x c,cl.lookup x=Y c->X.env.cells.lookup x=Y c)(w:∀y∈g.names,y.2=.free->∃c,cl.lookup y.1=Y c)(j:∀b∈fp,rS X pins H b)(E:{`xaI,D})(hC:{`xaI,C})(hDC:D≠C)(Z:C∉fp)(d:∀b u,s.heap.get? b=Y u->F.get? b=Y u)(R:F.Ns C m)(hDo:F.get? D=Y { cls:=.type "list",data:=.seq ([]:Vq).toArray 0 }) :
  Inv {`ov,g} [] {`xbC,O} (upd H D<|.lst []) { s with heap:=F,toks:=t }:=by
 unfold rR at Se;rw[YH,ZC]at Se;ext Se hk Ph;have TF:g.kind=.function:=by simpa using hk
 exists AF S9,hlen,TJ;have TH:∀y∈g.names,y.2 ≠ .cell:=λy hy e=>by have:=Ph y hy;rw[e]at this;cases this
 refine⟨{I.mod,TF,I.ok.glob,I.ok.blt,hC,λx y c e1 e2=>I.ok.inj x y c (a x c e1)<|a y c e2,λx hx=>?_,λx c e=>(nomatch e),I.ok.hd,I.ok.frames,.inl L,λb hb=>{λ(e:b=C)=>Z<|e ▸ hb,λx c e=>(`xeM).2.2.2.2.1 x c `xiL},
  I.tb,I.bs,ZY I.ok.bsz I.sz,λb o e hb=>?_,λb hb Pe=>?_,I.stack,I.Tq},rfl,I.bare,Un.laid d E {`xoS,E},{m,R,λi x v e1 e2 e3=>?_},λx c e=>?_,?_,λx c e=>?_,λp hp=>(nomatch hp),I.Og.laid d E ?_,?_⟩
 .have h:∃f,(`xlx).names.lookup x=Y f/\(f=.cell\/f=.free):=by
   obtain e|e:=hx
   .exact{_,e,.inl L}
   .exact{_,e,.inr L}
  ext h f A SD;exact w _ (iI ((λx f h RJ=>by
  exists dJ h,Q,h0,U;rcases U with e|⟨e,_⟩
  .subst e;obtain e|e:=RJ
   .subst e;exact absurd L<|TH _<|iI h0
   .subst e;exact h0
  .subst e;calc h0) x f A SD)) L
 .rcases (`xeM).2.2.2.1 with z|z
  .exact I.ok.WV b o e z
  .exact absurd (Zk `xeB<|ZY I.ok.bsz z)<|Yl _
 .rcases Zi.mp (I.RY b Pe) with z|z
  .exact(`xeM).2.1 z
  .exact(`xeM).2.2.1 z
 .
  have q:k<=i:=by
   obtain z|z:=VZ i k
   .rw[Yv<|by simpa using z,Y1]at e2;split at e2<;>cases e2
   .exact z
  rw[Yw<|by simpa using q,XU]at e2;have P:g.names.lookup x=Y .free->∃f,(`xlx).names.lookup x=Y f/\(f=.cell\/f=.free):=λh0=>by
   obtain z|z|z:=e3
   .exists dJ z,Q,A,SD;grind
   .exact{_,z,.inl L}
   .exact{_,z,.inr L}
  rcases TJ _ x (List.getElem?_drop ▸ (show k+(i-k)=i by calc Ux q) ▸ e1) with⟨hX,h0⟩|h0|h0
  .exists P h0,f,Ub,Rx;have hf':X.env.kindOf x=Y .cell\/X.env.kindOf x=Y .free:=by
    simpa using(Ph _<|iI h0)
   ext I.loc mX hnX S;exists S _ x v hX e2 (hf'.elim {`xaM,.inl z} λz=>.inr `xkw),u,r,l;refine⟨u,r,.inr {?_,?_}⟩
   .rcases Rx with z|z
    .subst z;exact .inl Ub
    .subst z;exact .inr Ub
   .exists w _ (iI h0) L,c,hc;refine{c,hc,?_};rcases l with⟨z,_⟩|⟨_,c',QU,n⟩
    .simp_all
    .have:=a x c hc;rw[QU]at this;obtain rfl:=Om this;exact n.keeps d
  .rcases e3 with z|z|z<;>(exists dJ z,Q,G,_;rw[h0]at G;cases G)
  .rcases e3 with z|z|z<;>(exists dJ z,Q,G,z2;simp_all)
 .exists I.cell x c `xiL,v,z;exact{v,z.keeps d}
 .exact aE (Yg hDC) ▸ {`xoS,hC}
 .exists I.cell x c `xiL,v,z;exact aE (Zg<|Zk z.lt E) ▸ I.PF x c `xiL
 .exact{Pr _,[],0,.nil,hDo}
 .exact Zr ▸ XU ▸ I.len ▸ hlen ▸ Yj ▸ Ux Ta
def Hf(X:Cx)(a:`i2)(t:TT):Prop :=
 ∀(pins:Xz)(s:On)(O:St)(H:Hp)(Q:Bool->Hp->Prop),Inv X pins O H s->t O H Q →
  SB `a_ X.A (forIn a J λc r=>if r=J then (do let ok <-isTrue c X.env {`r_,c};pure {`xaE,ok}) else pure {`xaE,r}) (TP X pins O Q) X.xe s
def mH:Hf X [] `xmg:=λpins s O H Q I q=>Zt {H,I,(q)}
section
variable{A:UV}
def xC{s:On}(I:Nat->On->Prop)(turn:∀n s,I n s->SB `ax A (pyNext q) (λr o=>match r with
   |none=>R (.ok .next) o
   |some v=>SB `ax A (letOwnedTupleGo a q v) (λ_ C=>SB `ax A (assign a d v) (λ_ z =>
     SB `ax A (forIn g J λc r=>if r=J then (do let ok <-isTrue c d (eval c d);pure {`xaE,ok}) else pure {`xaE,r}) (λok l =>
      if ok=J then SB `ax A (eval i d) (λx y =>
       SB `ax A (call (.builtin "list.append") [j,x]) (λ_ u=>∃m,m<n/\I m u) (λ_ _=>False) y) (λ_ _=>False) l
      else ∃m,m<n/\I m l) (λ_ _=>False) z) (λ_ _=>False) C) (λ_ _=>False) o) (λ_ _=>False) s)(n:Nat)(h:I n s) :
  codeAny `ax A (.compLoop (.ListComp i [{a,f,g,(0)}] e p) 0 q j d) R s:=by
 calc codeAny_loop L I (λn s N=>?_) n h;calc wpAny_noted ?_;rw[compTurn_list];calc Zy<|wpAny_standAt<|Zy<|YC (turn n s N) (λr o D=>?_) λ_ _ b=>b.elim;cases r with
 |none=>calc Zt D
 |some v =>
  calc Zy<|YC D (λ_ C h₀=>?_) λ_ _ b=>b.elim;calc Zy<|YC h₀ (λ_ z G=>Zy<|YC G (λok l t=>?_) λ_ _ b=>b.elim) λ_ _ b=>b.elim;cases ok with
  |false=>calc Zt {rfl,(t)}
  |true =>
   rw[Zp L]at t;calc Zy<|Zy<|YC t (λx y F=>Zy<|YC F (λ_ u E=>Zt<|Zt {rfl,(E)}) λ_ _ b=>b.elim) λ_ _ b=>b.elim
end
def xA(k:Nat)(p:TI)(g:TG)(r:TT)(q:TE)(O:St)(H:Hp)(Q:VK):Prop:=p O H λJ o=>∀D,o D=M->∃W:Nat->Nat->St->Hp->Prop,
 (∃m,W 0 m {`xbC,O}<|upd o D<|.lst [])/\∀i m h d,W i m h d->(J.stop i d/\Q `xhH d)\/(J.go i d/\∀x n,J.yld i d x n->g x h n λe t=>r e t λb l =>
  if b=true then q e l λy j=>∃f,j D=Y `xkC/\⇑f<Pi/\∃a,a<m/\W `I_ a e (upd j D<|.lst<|f++[y]) else ∃a,a<m/\W `I_ a e l)
def sF{X:Cx}{N:`e_}(OX:X.calm=true)(hi:PI X tg a wi)(Se:rR X.env l=true)(S9:r9 l `xly X.N=true)(Ta:`xgt)(QS:∀cl C s H fp,PG {`ov,l} tg g/\Hf {`ov,l} ifs tc/\PE {`ov,l} elt te)(hs:∀x,XAF a X.env x=pure x)(I:`bd)(h:xA k wi g tc te O H Q)(hq:∀s' f D C m,Inv X pins O f s'->Q `xhH f->s'.heap.Ns C m->rS X pins f C->compPost `a_ X.A X.xe U QQ `xhH C (.ok .next) s') :
  SB `a_ X.A (comprehension (.ListComp elt [{tg,a,ifs,(0)}] l pos) l X.env pos' (newList []) B {`r_,a} U) QQ X.xe s:=by
 have G:=Se;unfold rR at G;rw[YH,ZC]at G;ext G hk Ph;have TF:l.kind=.function:=by simpa using hk
 exists G9 λy hy e=>I.ok.has _ (by
  have:=Ph y hy
  simp_all),cl,hcl,hc1,hc2
 refine wpAny_comprehension_free L hs hcl TF (λy hy e=>by
  have:=Ph y hy
  simp_all) (thn (hi _ s O H _ I h) λv s1 h1=>thn h1 λitv E h2=>?_)
 calc ai λP_ k_=>?_;revert h2;calc yE5 λit fp tn J H2=>SK λe I2 T QY f2 hW=>?_;subst e;calc k_ ?_;calc Xb<|wpAny_newFunctionEnv (λy hy e=>by have:=Ph y hy;rw[e]at this;cases this) (by intro y hy;simp at hy) (λh₁ S S8=>?_) TF;generalize hP:E.heap.push _=P at S S8 ⊢;have hCs:P.objs.size=E.heap.objs.size+1:=by rw[<-hP,Xe]
 have old:=λb o e =>
  S8.extBut b o (hCs ▸ Zg (Rz `xeB)) (Zm _<|hP ▸ Zm _ e)
 have hDC:E.heap.objs.size≠P.objs.size:=by simp_all
 have R:E.heap.objs.size<=P.objs.size:=hCs ▸ Wf _;have F:=λb hb=>let ⟨o,ho,_⟩:=T.obj 0 _ QY b hb;Zb ho
 have hfC:P.objs.size∉fp:=λhb=>absurd (Zk (F _ hb) R)<|Yl _;have IY:=I2.block (t:=E.toks+⇑([]:List<|Str×Re)) Se S9 Ta hc1 hc2 f2 (Zq _) R hDC hfC old S<|S8.extBut _ _ hDC<|Zm _<|hP ▸ ZZ _ L;exists QS cl _ E H2 fp,hG,hT,hE;generalize hY:cR X N l cl _ E H2 fp=Y at IY hG hT hE;have hYm:Y.prog=X.prog/\Y.w=X.w/\Y.K=X.K/\Y.A=X.A/\Y.env=compEnvC l cl P.objs.size X.env/\Y.calm=X.calm/\(Y.xe=λ_ _=>False):=hY ▸ {rfl,rfl,rfl,rfl,rfl,rfl,(rfl)};calc ai λP_ k_=>?_;calc L2.xA7 hYm λy1 y2 y3 y4 y5 y6 y7=>?_;have SW:∀{f:Hp},(∀b∈fp,f b=M)->∀b∈fp,rS Y [] f b:=λ{f} hn b hb=>by
  rw[<-hY];refine{hn b hb,λ(e:b=P.objs.size)=>hfC<|e ▸ hb,λPe=>?_,.inl hb,λx c e=>(`xee).2.2.2.2.1 x c<|hc1 x c e,λp hp=>(nomatch hp)};obtain z|z:=Zi.mp (I2.RY b Pe)
  .exact(`xee).2.1 z
  .exact(`xee).2.2.1 z
 obtain⟨W,⟨m0,w0⟩,turn⟩:=hW _<|I2.Og.fresh<|Zq _;calc k_ ?_;have Tr:=T.keep _ _ _ QY λb _ o e=>old b o e;have loop:codeAny `a_ X.A (.compLoop (.ListComp elt [{tg,a,ifs,(0)}] l pos) 0 `xnF `xhG<|compEnvC l cl P.objs.size X.env) (compPost `a_ X.A X.xe U QQ `xhG P.objs.size)
   { E with heap:=h₁,toks:=E.toks+⇑([]:List<|Str×Re) }:=by
  calc xC (λn s'=>∃i O' f,Inv Y [] O' f s'/\tn i s'.heap/\(∀b∈fp,f b=M)/\W i n O' f) ?_ m0<|Ow 0 _ _ {IY,Tr,(λb hb=>aE (Zg<|F b hb) ▸ (`xee).1),w0};rintro n s3 ⟨i,O3,H3,I3,Tr,fr3,w3⟩;rcases turn i n _ H3 w3 with⟨stop,qn⟩|⟨go,step⟩
  .have q:=T.done Y y1 y2 y3 (y6.trans OX) i [] s3 _ H3 (λ_ _=>False) I3 (SW fr3) Tr stop;rw[y4]at q;calc thn q λr s4 j=>?_;ext j hr I4;subst hr;ext I4.loc mC hmC _;have f4:=I4.free;rw[y5]at hmC f4;exact hq s4 H3 _ _ mC (by
    have b4:=I4.base;have o4:=I4.os;have k4:=I4.Og;rw[<-hY]at b4 o4 k4;calc I2.call' o4 b4 k4 I4.bare λb hb=>?_;exact{(`xee).2.2.2.1,(`xee).2.1,(`xee).2.2.2.2.1,(`xee).2.2.2.2.2}) qn hmC (I2.fpOk R f4)
  .have q:=T.item Y y1 y2 y3 (y6.trans OX) i [] s3 _ H3 (λ_ _=>False) I3 (SW fr3) Tr go;rw[y4]at q;calc thn q λr s4 j=>?_;ext j u hr h4;subst hr;calc thn h4 λ_ s5 j=>?_;calc Oo j λx H5=>Pf λI5 r5 yl5 Z fr5=>?_;have again:∀{O7:St}{H7:Hp}{s7:On}{m:Nat},Inv Y _ _ H7 s7->W _ m _ H7->∃i O' f,Inv Y [] O' f s7/\tn i _/\(∀b∈fp,f b=M)/\W i m O' f:=λ{O7 H7 s7 m} I7 w7=>by
    calc Ow _ O7 H7 {I7.P9,T.keep _ _ _ Z λb hb o e=>(I7.pin _<|ZD _<|ZD _<|jx hb e).1,λb hb=>?_,w7};exists T.obj _ _ Z b hb,o,e,d;exact(I7.pin _<|ZD _<|ZD _<|jx hb e).2.1
   have qa:=hG _ s5 _ H5 x u _ (I5.pinned (SW fr5)<|T.obj _ _ Z) r5<|step x H5 yl5;rw[y1,y2,y4,y5,y7]at qa;calc thn qa λ_ s6 j=>?_;ext j O6 H6 I6 q6;have qt:=hT _ s6 _ H6 _ I6 q6;rw[y1,y2,y4,y5,y7]at qt;calc thn qt λb s7 j=>?_;ext j H7 I7 q7;cases b with
   |false =>
    rw[Zn Zj]at q7 ⊢;ext q7 m' hm w7;exact{m',hm,again I7 w7}
   |true =>
    rw[Zp L]at q7 ⊢;have qe:=hE _ s7 _ H7 _ I7 q7;rw[y1,y2,y4,y5,y7]at qe;calc thn qe λyv s8 j=>?_;calc Oo j λy H8=>oe λI8 r8=>RB λys=>oe λhD8 hl8=>RB λm'=>Pc λhm w8=>?_;have qp:=iZ _ s8 _ H8 (.ref _) _ _ _ (λ_ H9=>W _ m' _ H9) I8 L {`LT,r8}<|Ow _ ys y {rfl,rfl,hD8,hl8,(w8)};rw[y1,y2,y4,y7]at qp;calc thn qp λ_ s9 j=>?_;calc Oo j λ_ H9=>oe λI9 _ w9=>?_;exact{m',hm,again I9 w9}
 calc codeAny_compStart_list loop<|T.self _ 0 _ _ _ Tr loop
def uw{X:Cx}{N:`e_}(G:`Ch)(w:PI X l a p)(z:{`xoy,d})(A:{`xck,d})(y:`xgt)(E:∀cl C s H fp,PG {`ov,d} l g/\Hf {`ov,d} i t/\PE {`ov,d} j r)(u:{`q2,∀x,XAF a X.env x=pure x}):PE X (.ListComp j [{l,a,i,(0)}] d n) (xA k p g t r):=by
 intro pins s O H Q I h;rw[eval_ListComp];refine sF G w z A y E u I h λR P D C m L q v f=>{m,v,λS F=>?_}
 exact{.ref D,P,L.turned {`re,F.extBut} f.1 f.2.1 f.2.2.2.1 f.2.2.2.2.1 f.2.2.2.2.2,rfl,q}
def yC{X:Cx}{F:Pos}{N:`e_}(hN:X.N.Nodup)(w:X.N[i]?=Y x)(P:{`Op,x})(OX:`Ch)(U:PI X t d y)(Se:{`xoy,l})(S9:{`xck,l})(Ta:`xgt)(QS:∀cl C s H fp,PG {`ov,l} t g/\Hf {`ov,l} n E/\PE {`ov,l} p A)(Rw:swapsWith (.ListComp p [{t,d,n,(0)}] l r) {`xoC,j} F.line X.env=pure J)(Z:Ua4 X x)(Q:{`q2,∀x,XAF d X.env x=pure x}) :
  PS X (.Assign [.Name x j] (.ListComp p [{t,d,n,(0)}] l r) F) (λD O H=>xA k y g E A O H λv H1=>D.nx `A3 H1):=by
 intro pins s O H D I h;rw[exec_Assign_Name_used _ _ _ _ Rw];calc Zy<|wpAny_standAt<|Zy ?_;calc Zy<|YC (sF OX U Se S9 Ta QS Q I h λG H' D' C m I' q S f=>?_) (λ_ G R=>Zt<|Zt R) λ_ _ e=>e;calc wpAny_assign_Name<|sQ I' hN w P (v:=.ref D') L (λs2 I2 h_=>?_) Z;ext h_ a u ha;refine⟨m,S.sameBut u (λe=>by
  obtain z|z:=ha
  .exact f.2.1<|e.trans z
  .exact f.2.2.2.2.1 x a z e.symm),λh' Pu=>{_,H',?_,q}⟩
 calc I2.turned {`re,Pu.extBut} f.1 f.2.1 f.2.2.2.1 f.2.2.2.2.1 f.2.2.2.2.2
end
end L2
namespace VS
open L2
noncomputable def uD(k:Nat)(g:Tg):Prop:=∀t U a,g t U=Y a->⇑a=⇑U/\∀i,k<=i->a[i]?=U[i]?
def iC(h:{`q1,i<k}):uD k (bC i):=λt U b e=>by
 unfold bC at e;split at e
 .obtain rfl:=Om e;exact{by simp,λj a=>by rw[YZ `am]}
 .cases e
theorem zS:∀{d:`xkd},(∀g∈d,uD k g)->∀b U a,Dt d b U=Y a->⇑a=⇑U/\∀i,k<=i->a[i]?=U[i]?
 |[],_,[],U,a,e=>by cases (e);exact{rfl,λ_ _=>rfl}
 |[],_,_::_,U,a,e=>nomatch e
 |_::_,_,[],U,a,e=>nomatch e
 |g::d,h,t::b,U,a,e=>by
  exists Zz.mp (e),p,e1,e2;exists h g Zv t U _ e1,o,n;exists zS (λj hg=>h j<|Zs _ hg) b _ _ e2,m,l;exact{m.trans o,λi f=>(l i f).trans<|n i f}
def Cn(f:uD k b)(d:uD k a):uD k (l9 [b,a]):=λt U h e=>by
 unfold l9 at e;split at e
 .refine zS (λg hg=>?_) _ U _ e;grind
 .cases e
theorem As:∀(l:Uc){i:Nat}{t:T},gq l=J->l[i]?=Y t->Ol t=J
 |[],_,_,_,h=>by simp at h
 |x::l,0,t,h,e=>by
  simp at e;calc e ▸ (`xiK).1
 |x::l,i+1,t,h,e=>by
  calc As l (`xiK).2 (by simpa using e)
def tC(G:Gx):Option Ex->TT
 |none=>λO H Q=>Q J H
 |some c=>tT G c
section
variable{H:Hp}
def mJ:`k5[i]?=Y `xjd↔k<=i/\U[i-k]?=Y `xjd:=by
 obtain h|h:=VZ i k
 .rw[Yv<|by simpa using h,Y1];grind
 .rw[Yw<|by simpa using h,XU]
  simp_all
def E4:bU `xgO `k5 a↔bU Z U a:=by
 constructor
 .rintro⟨j,t,d,b⟩;exact{_,t,(mJ.mp d).2,b}
 .rintro⟨j,t,d,b⟩;refine{j+k,t,mJ.mpr {XT _ _,by simp_all},?_}
  simp_all
def Ce:dE `xgO `k5 a↔dE Z U a:=by
 constructor
 .rintro⟨j,t,d,b⟩;exact{_,t,(mJ.mp d).2,b}
 .rintro⟨j,t,d,b⟩;refine{j+k,t,mJ.mpr {XT _ _,by simp_all},?_}
  simp_all
def SR.sh(s:`gx):SR G `xgO `k5 {`xbC,O} H:=by
 refine{by simp[s.len],λi c h=>?_,λi t h=>?_,λi j t c b a n=>?_}
 .exists mJ.mp h,b,a;exists s.rp _ c a,v,e,d;refine{v,?_,d};rw[Yw<|by simpa using b,XU];exact e
 .exact s.nd _ t (mJ.mp h).2
 .exists mJ.mp b,m,g;exists mJ.mp a,l,f;calc s.sep _ _ t c g f `am
def SR.less{U:VS.Env}(s:SR G Z a O H)(b:⇑U=⇑a)(h:∀(i:Nat) c,U[i]?=Y `xjd->a[i]?=Y `xjd):SR G Z U O H :=
 {b.trans s.len,λi c e=>s.rp i c<|h i c e,λi t e=>s.nd i t<|h i _ e,λi j t c e1 e2 n=>s.sep i j t c (h i _ e1) (h j _ e2) n}
def SR.off(s:`gx)(m:Oy (H D)\/H D=M)(d:¬dE Z U D)(a:¬bU Z U D):SR G Z U O (upd H D o):=by
 refine{s.len,λi c e=>?_,s.nd,s.sep};exists s.rp i c e,v,h,g;refine{v,h,g.keep (Kept.upd m) λb hb j f=>?_};rw[aE λz=>?_]
 .exact f
 .subst z;cases c with
  |pu t=>calc d {i,t,e,(hb)}
  |ow t=>calc a {i,t,e,(hb)}
theorem qN:∀(l:Ue)(v:Val),dk (l++[v])=(`xnM).join v.1
 |[],(m,t)=>by cases m<;>rfl
 | (m,t)::l,v=>by
  show m.join (dk<|l++[v])=(m.join _).join _;rw[qN l v];generalize dk l=q;generalize v.1=r;cases m<;>cases q<;>cases r<;>rfl
def Fp.join2(f:`xfT)(g:Fp Z U H n j)(d:n=.fr->∀a∈F,a∉j):Fp Z U H (m.join n) (F++j):=by
 have both:∀{P:Pv->Prop},(∀a∈F,P a)->(∀a∈j,P a)->∀a∈F++j,P a:=λp q a h=>(Zf.mp h).elim (p a)<|q a;cases m<;>cases n
 .exact{ZG.mpr {f.1,g.1,λa i b hb e=>d L a i<|e ▸ hb},both f.2 g.2}
 .exact both `xhF g
 .exact both `xhF g
 .exact both f λa i=>.inl<|g.2 a i
 .exact both f g
 .exact both (λa i=>(f a i).imp id .inl) g
 .exact both f λa i=>.inl<|g.2 a i
 .exact both f λa i=>(g a i).imp id .inl
 .exact both f g
def Fp.cons1(f:`xfT)(h:H D=M)(d:D∉F):Fp Z U H m (D::F):=by
 have all:∀{P:Pv->Prop},P D->(∀a∈F,P a)->∀a∈D::F,P a:=λp q a b=>(Zi.mp b).elim (λe=>e ▸ p)<|q a;cases m
 .exact{Zc.mpr {d,(f.1)},all h f.2}
 .exact all `xfs f
 .exact all `xfs f
end
def CI(G:Gx)(Z:Os)(U b:VS.Env)(H p:Hp)(D:Pv)(l:Uc)(h:Ue)(q:Tg)(d:`xeg)(r:Ex)(i n:Nat)(s:L2.St)(f:Hp):Prop:=n=⇑l-i/\∃e g j m rest,SR G e b s f/\(∀a,bU e b a->bU Z U a)/\(∀a,dE e b a->H a=M\/dE Z U a)/\¬dE e b D/\¬bU e b D/\Kept p f ∧
     (∀a o,a≠D->p a=Y o->f a=Y o)/\f D=Y (.lst m)/\RpL G f m (trees g) j/\D∉j.flatten/\Fp Z U H (dk g) j.flatten/\qH q d r b (l.drop i)=Y rest/\g++rest=h
def ux{G:Gx}{k:Nat}{tg:Tg}{ci:SH}{cond:`xeg}{ce:Ex}{O:L2.St}{H:Hp}{Q:VK}(QS:uD k tg)(h:{`xbq,gE k tg ci cond ce}):xA k (tI G ci) (tG G tg) (tC G cond) (tE G ce) O H Q:=by
 calc ai λP_ k_=>?_;revert h;calc yE4 λZ U m r=>oe λs e kq=>?_;obtain⟨⟨mi,l⟩,el,e1⟩:=Zz.mp e;dsimp only at e1;split at e1
 .rename_i Og;exists Zz.mp e1,all,ea,e2;unfold SN at e2;split at e2
  .rename_i hlen;cases e2;calc k_ ?_;calc Oe Z U mi l {s,el,λJ H1 C e3 ok fc D hD=>?_};have f:=e3.free hD;let U0:=List.replicate k M++U
   have good:∀{t:T}{i:Nat}{H' H2:Hp}{v:V}{F:List _},l[i]?=Y t->Rp G H2 v t F->(∀a,H1 a≠M->H' a≠M)->(∀a∈F,a∈C\/H' a=M)->∀a∈F,(H a=M\/dE Z U a)/\¬bU Z U a:=λ{t i H' H2 v F} hi rF keep hF a d=>by
    have OF:∀{b},H b≠M->H' b≠M:=λ{b} hb=>keep b λz=>hb<|e3.free z;obtain z|z:=hF a d
    .rcases fc a z with q|q|⟨q,w⟩
     .exact{.inl q,λw=>Oy.jj (s.OQ w) q}
     .exact{.inr q,λw=>s.U9 w q}
     .clear el fc;subst q;have:Ol t=true:=by
       exact As l Og hi
      rw[rF.Ol this]at d;simp at d
    .have hz:=Xv λq=>OF q z;exact{.inl hz,λw=>Oy.jj (s.OQ w) hz}
   refine{CI G Z U U0 H H1 D l all tg cond ce,?_,?_}
   .refine⟨_,rfl,PM _ [] [] [] _ {?_,λa h=>E4.mp h,λa h=>.inr<|Ce.mp h,λh=>?_,λh=>?_,Kept.upd<|.inr hD,λa o n h=>aE n ▸ h,av,.nil,by simp,Fp.nil,Vw ▸ ea,rfl}⟩
    .exact((s.same e3).sh).off (.inr hD) (λh=>Oy.jj `xmf f) λh=>Oy.jj `xme f
    .exact Oy.jj `xmf f
    .exact Oy.jj `xme f
   .intro i n O' H' hh_;calc ai λP_ k_=>?_;ext hh_ rfl h_;revert h_;calc yE5 λZ1 vs Fs xs rest=>L2.NL λs1 ow1 pu1 np1 no1 kp old N rp nD fp er ev=>?_;calc k_ ?_;have TB:∀a,H1 a≠M->H' a≠M:=λa d z=>by
     by_cases q:a=D
     .grind
     .cases e:H1 a with
      |none=>calc d e
      |some o=>rw[old a o q e]at z;cases z
    calc ai λP_ k_=>?_;exists ok.run H' kp λa d o ho=>old a o (λz=>ok.OF a d<|z ▸ hD) ho,go,stop;cases hit:l[i]? with
    |none =>
     have hl:=Vs.mp hit;calc k_ ?_;left;refine{stop i hl,?_};rw[VY hl]at er;cases (er);rw[ZO]at ev;clear ea hlen e e1 k_;subst ev;calc kq _ H' _ (λa o h=>old a o (λz=>by rw[z,f]at h;cases h)<|e3 a o h) (.lst N rp) ?_;by_cases hi:gq (trees vs)=true
     .exact Zp hi ▸ rp.Ol hi ▸ {by simp,λa d=>by simp_all}
     .exact Zn hi ▸ fp.cons1 f nD
    |some t =>
     have hl:=(Ze.mp hit).1;exists go i t hit,g1,y1;calc k_ ?_;right;refine{g1,λx H2 yl=>?_};calc ai λP_ k_=>?_;calc xA2 (y1 x H2 yl) λe8=>RB λF=>Pc λrF hF=>?_;rw[sU (tgt:=tg) (body:=eR) (U:=U) hit]at er;rw[qH]at er;exists Zz.mp er,U3,e4,e5;exists Zz.mp e5,b,eb,e6;have gd:=good hit rF TB hF;calc k_ ?_;calc PM _ _ t F _ {(s1.same e8),rF,λa d z=>(gd a d).2<|ow1 a z,e4,λZ3 O3 s3 o3 p3=>?_};exists QS t _ _ e4,tl,tsame;have low:∀j c,U0[j]?=Y _->U3[j]?=Y `xjd:=λj c h=>tsame j (mJ.mp h).1 ▸ h;have pu3:=λa h=>(p3 a h).elim (pu1 a) λh=>(gd a h).1;have ow3:=λa h=>ow1 a<|o3 a h;have E:=λh=>(p3 D h).elim np1 (λh=>by
      obtain z|z:=hF D h
      .exact ok.OF D z hD
      .rw[N]at z;cases z)
     have S:=λh=>no1<|o3 D h;have P:∀a,dE _ _ a->dE Z3 _ a:=λa=>Px λj u=>Pc λh1 h2=>Pd j u {low j _ h1,h2};have R:∀a,bU _ _ a->bU Z3 _ a:=λa=>Px λj u=>Pc λh1 h2=>Pd j u {low j _ h1,h2};have A:∀H4,aN H2 H4->(if b=true then tE G ce _ H4 λy H5=>∃ys,H5 D=Y (.lst ys)/\⇑ys<Pi/\∃m',m'<⇑l-i/\CI G Z U _ H H1 D l all tg _ ce _ m' _ (upd H5 D<|.lst<|ys++[y]) else ∃m',m'<⇑l-i/\CI G Z U _ H H1 D l _ tg _ ce _ m' _ H4):=λH4 g=>by
      have eo:∀{H5},aN H4 H5->∀a o,H' a=Y o->H5 a=Y o:=λ{H5} p a o h=>p a o<|g a o<|e8 a o h;cases b with
      |false =>
       rw[Zn Zj]at e6 ⊢;have same:=eo<|aN.refl H4;exact⟨_,by lia,rfl,PM _ vs Fs xs _ {(s3.same g).less (by rw[tl]) low,λa h=>ow3 a<|R a h,λa h=>pu3 a<|P a h,λh=>E<|P D h,λh=>S<|R D h,kp.trans {`xcJ,e8,Kept.of g},λa o n h=>same a o<|old a o n h,same D _ N,rp.same<|aN.trans e8 g,nD,fp,e6,ev}⟩
      |true =>
       rw[Zp L]at e6 ⊢;obtain⟨⟨mv,tv⟩,ece,e7⟩:=Zz.mp e6;exists Zx.mp e7,rest1,er1,e7';calc Oe _ _ mv tv {s3.same g,ece,λy H5 Fy p ry fy=>?_};have same:=eo p;have hD5:=same D _ N;have X:Oy (H5 D):=hD5 ▸ True.intro;have hD4:=g D _<|e8 D _ N;have VH:=λa h=>Xv λq=>TB a {`xcH,q,e3.free z}<|e8.free<|g.free h;have DFy:=λh=>by
        cases mv with
        |fr=>have:=fy.2 D h;rw[hD4]at this;cases this
        |pu=>exact(fy D h).elim (λz=>by rw[hD4]at z;cases z) E
        |bo=>exact(fy D h).elim (λz=>by rw[hD4]at z;cases z) λz=>z.elim E S
       have lenx:⇑xs=⇑vs:=by rw[rp.len.1];simp
       have lenv:⇑vs<⇑all:=by rw[<-ev,<-e7'];simp
       refine⟨xs,hD5,?_,_,by lia,rfl,PM _ (vs++[(mv,tv)]) (Fs++[Fy]) _ _ {(((s3.same g).same p).off (.inl X) E S).less (by rw[tl]) low,λa h=>ow3 a<|R a h,λa h=>pu3 a<|P a h,λh=>E<|P D h,λh=>S<|R D h,?_,λa o n h=>?_,av,?_,?_,?_,er1,?_}⟩
       .have hlen':⇑all<=gn:=by simpa using hlen
        have:Pi=gn:=rfl;lia
       .exact(kp.trans {`xcJ,e8,(Kept.of g).trans<|Kept.of p}).trans {`n6,X}
       .exact aE n ▸ same a o (old a o n h)
       .have:trees (vs++[(mv,tv)])=trees vs++[tv]:=by simp
        exact this ▸ ((rp.same {`tf,e8.trans,g,p}).off X nD).append (.cons (ry.keep {`n6,X} λb hb o ho=>by rw[aE<|λz=>DFy (by rw[<-z];calc hb)];calc ho) .nil)
       .grind
       .rw[YN,qN];have:([Fy]).flatten=Fy:=by simp
        rw[this];refine fp.join2 (by
        cases mv with
        |fr=>exact{fy.1,λa d=>VH a<|fy.2 a d}
        |pu=>calc λa d=>(fy a d).elim {`xaN,VH a z}<|pu3 a
        |bo=>calc λa d=>(fy a d).elim {`xaN,VH a z} λz=>z.elim (λz=>(pu3 a z).imp id .inl) λz=>.inr<|.inr<|ow3 a z) λhm a d hb=>?_
        clear ece e7 e7';subst hm;have:=(rp.same<|e8.trans g).OF a d;rw[(fy.2 a hb)]at this;exact this
       simp_all
     cases cond with
     |none =>
      clear e6;cases (eb);calc A H2<|aN.refl H2
     |some c =>
      obtain⟨⟨mc,xc⟩,ec1,ec2⟩:=Zz.mp eb;exact PM _ _ mc xc b {s3,ec1,ec2,λH4 g=>A H4 g}
  .cases e2
 .cases e1
def mI{X:Cx}(k:Nat)(N:`e_)(m:`Ch)(b:`xkv)(l:uD k g)(d:∀cl C s H fp,PVG G `ii tg g)(he:∀cl C s H fp,PV G `ii elt ce)(f:{`q3,rR X.env sc=J})(j:{`q3,r9 sc `xly X.N=J})(e:{`q1,k<=⇑N})(a:{`q2,∀x,XAF iter X.env x=pure x}) :
  PV G X (.ListComp elt [{tg,iter,[],0}] sc pos) `xmd :=
 PE.weak (uw m b f j e {`n_,d} a) λO H Q h=>ux l h
def Jy(h:{`xoM,j4 i a}):tE G a O H λv n=>D.nx `A3 n:=by
 calc ai λq j=>?_;calc OH h λZ U o=>oe λs e k=>?_;obtain⟨⟨m,t⟩,ec,e1⟩:=Zz.mp e;exists Zz.mp e1,c,eC,e2;calc j ?_;split at e2
 .rename_i hl;obtain rfl:=Om e2;calc Oe Z U m t {s,ec,λv p F e3 b l=>?_};exists s.val (c:=c) hl e3 b l (by
   unfold cellOf at eC;grind),f,d
  exact k _ _ p f d
 .cases e2
def Dw{X:Cx}{UZ:Pos}(k:Nat)(N:`e_)(m:∀D O H,tS G b D O H->tE G `xmd O H λv w=>D.nx `A3 w)(u:`Ch)(f:`xkv)(t:uD k g)(j:∀cl C s H fp,PVG G `ii tg g)(he:∀cl C s H fp,PV G `ii elt ce)(n:X.N.Nodup)(a:{`q3,X.N[i]?=Y x})(d:{`q6,Loc X.env.scope x})(p:{`q3,rR X.env sc=J})(q:{`q3,r9 sc `xly X.N=J})(o:{`q1,k<=⇑N})(r:{`q3,swapsWith (.ListComp elt [{tg,iter,[],0}] sc pos) {`xoC,pos'} UZ.line X.env=pure J})(l:{`q7,Ua4 X x})(e:{`q2,∀x,XAF iter X.env x=pure x}) :
  PSV G X (.Assign [.Name x pos'] (.ListComp elt [{tg,iter,[],0}] sc pos) UZ) b :=
 PS.weak (yC n a d u f p q o {`n_,j} r l e) λD O H h=>ux t<|m D O H h
end VS
namespace L2
def Ite(K:W0)(a:Pv):It :=
 {λi H=>∃b x,OD K H a b/\b[i]?=Y x,λi H v d=>∃p x,H p=M/\v=.ref p/\d=upd H p (.tup [.int i,x])/\∀b,OD K H a b->b[i]?=Y x,λi H=>∃b,OD K H a b/\⇑b<=i}
def Bp{P:UF}{w:XAE}{K:W0}{Q:`i2}{n:Nat}{Z:Pos}(a e f:Pv)(P7:e≠f):Turn P w K (.Tuple Q n Z) (Ite K a) [e,f] e (λi h=>(∃old,IsEnum h e f i old)/\h.IsListIter f a i) where
 mem:=by simp
 obj:=λi h st b hb=>by
  ext st ⟨old,he⟩ o ho c d;grind
 keep:=λi h h' st k=>⟨let ⟨_,he⟩:=st.1;{_,k e (by simp) _ he},st.2.at λo x=>k f (by simp) o x⟩
 item:=by
  intro X hP hw hK hc i l s O H E I j st hg;calc ai λP_ k_=>?_;subst hP hw hK;ext hg xs x S hx;exists I.list S,NK,U,p,hz;exists U.get hx,u,hu,ru;ext st ⟨old,he⟩ hit;calc k_ ?_;refine wpAny_pyNext_enum_item he hit p.isList (by simpa using hu) P7 λh1 ho D hT hsz hk=>{_,rfl,?_}
  calc wpAny_letOwnedTupleGo_enum ho λh2 he2 R=>?_;have R:=R;have A:=Zb he;have G:=I.Og.fresh<|Zq _;have C:∀b o,b∉[e,f]->s.heap.get? b=Y o->h2.get? b=Y o:=λb o hb q=>by
   have N:b≠e:=λz=>hb (by simp[z]);exact(R.2 b N).trans<|hk b o N (λz=>hb<|by simp[z]) q
  have F:=(R.2 _<|YM A).trans hT;have t:∀b o,H b=Y o->b∉[e,f]:=λb o q hb=>by rw[(`xeM).1]at q;cases q
  have up:∀b o,H b=Y o->upd H _ (.tup [.int i,x]) b=Y o:=λb o q=>by rw[aE<|cV q G];exact q
  refine{.ref _,_,?_,rfl,{_,x,G,rfl,rfl,λys hy=>I.Sv hy S ▸ hx},⟨{u,by simpa using he2},D.at λo y=>(R.2 f P7.symm).trans y⟩,λb hb=>?_}
  .refine I.step (λb hb=>?_) (λb o _ _ g q _=>C b o g q) (λb o _ _ g q _=>{_,C b o g q}) (λb o _ q r=>aE ((λb o q=>Zg<|Zb q) b o q) ▸ r) (λb o g q=>{o,C b o g q})
    (λb ys q=>up b _ q) (λb o v q=>up b _ q) (λb _ q=>up b _ q) (λm hm=>?_) (λb ob q=>by
   by_cases hb:b=s.heap.objs.size
   .subst hb;rw[av]at q;obtain rfl:=Om q;exact⟨by show 2<=Pi;decide,_,.cons {_,(rfl)} {`LT,ru},NoD.of F L,{_,F,rfl,_,(rfl)}⟩
   .rw[aE hb]at q;refine(I.Og b ob q).T6 (λc v g r=>C c v ?_ r) (λc r=>up c _ r) (λc ys r=>up c _ r) λc _ _ r=>up c _ r;obtain z|z:=g
    .exact z ▸ t b ob q
    .exact t c _ z) I.bare
   .refine TV `xeM λf0 f1 f2 f3 f4 f5=>?_;exact{f3,f1,f4,(f5)}
   .refine OH hm λo es ep=>Pc λTC r=>?_;calc Ow o es ep {C _ o (λz=>?_) TC,r};exact(j _ z).2.1 L
  .have:b≠s.heap.objs.size:=by
    obtain rfl|hb:=Zi.mp hb
    .exact Zg A
    .exact ZK.mp hb ▸ Zg (let ⟨_,z,_⟩:=hit;Zb z)
   exact aE this ▸ (`xeM).1
 done:=by
  intro X hP hw hK hc i l s O H E I j st hg;subst hP hw hK;ext hg xs S hx;exists I.list S,NK,U,p,hz;ext st ⟨old,he⟩ hit;calc TV (j f<|by simp) λf0 f1 f2 f3 f4 f5=>?_;have hl:=⇑U;exact wpAny_pyNext_enum_end (I.ok.hd hc) he hit p.isList (by simp;lia) λh' eb=>{rfl,I.turned (λb o hb q=>eb b o hb q) f0 f1 f3 f4 f5}
 self:=λ_ _ _ _ _ st h=>let ⟨_,he⟩:=st.1;wpAny_pyIter_enum he h
def N4(K:W0)(ta:TA):TI:=λO H R=>ta O H λe b=>∃l,e=[.ref l]/\(∃d,OD K b l d)/\R (Ite K l) b
def Gy(z:Gl X "enumerate")(x:X.mg "enumerate" = M)(A:PA X [a] ta)(v:{`q3,SL [a] X.env=[(B,eval a X.env)]}):PI X (.Tuple f n d) (.Call (.Name "enumerate" p) [a] [] pos) (N4 X.K ta):=by
 intro i s O H R I h;calc Call_<|lu I z x boot_enumerate<|Xd (thn (A _ _ s O H _ I h) λG s1 C=>?_) v L;revert C;calc Px λF D=>oe λg r1 o=>?_;ext o l e ⟨E,w⟩ q;subst e;cases r1 with
 |cons r m =>
  cases m;cases r;exists g.list w,S,N,t,P;calc call_enumerate_list t.isList λQ he hit u y=>?_;calc wpAny_pyIter_enum he ?_;calc PM _ _ _ _ D {rfl,g.kept y,Bp l _ _<|Nat.succ_ne_self _,⟨{_,(he)},hit⟩,λb hb=>?_,q};have j:s1.heap.objs.size<=b:=by
   obtain rfl|hb:=Zi.mp hb
   .exact ZX _ _
   simp_all
  calc g.fpOk j<|g.Og.fresh j
end L2
namespace VS
open L2
theorem xD:∀(l:Uc)(k i:Nat){t:T},(iy k l)[i]?=Y t->∃x,l[i]?=Y x/\t=.tup [.int ((k+i:Nat):Int),x]
 |[],_,_,_,h=>by simp[iy]at h
 |x::l,k,0,t,h=>by
  simp[iy]at h
  simp_all
 |x::l,k,i+1,t,h=>by
  exists xD l _ i (by simpa[iy] using h),y,d,b;refine{y,by simpa using d,?_};rw[b,show k+1+i=k+`I_ by lia]
theorem tj:∀(l:Uc)(k:Nat),⇑(iy k l)=⇑l
 |[],_=>rfl
 |x::l,k=>by simp[iy,tj l _]
def FC{a:Pv}(K:W0)(D:{`xcN,a,e})(r:RpL G H e f s):To G (Ite K a) (iy 0 f) (a::s.flatten) H:=by
 refine{λm k c=>?_,λb hb=>?_}
 .have d:=c a Zv _ D;refine⟨λi t h=>?_,λi h=>{e,OD.of d,by rw[tj]at h;rw[r.len.1];calc h}⟩;calc ai λO u=>?_;exists xD f 0 i h,y,w,l;rw[YI]at l;calc Oo ((r.keep k λb hb o C=>c b (Zs _ hb) o C).get i w) λv F=>oe λj N L=>?_;calc u ?_;refine⟨{e,v,OD.of d,j},λx P E=>?_⟩;revert E;calc Px λp z=>OI λA e1 e2 e3=>?_;subst e1 e2;have ex:=e3 e<|OD.of d;rw[j]at ex;obtain rfl:=Om ex;have g:aN m (upd m p<|.tup [.int i,v]):=λb o q=>aE (cV q A) ▸ q;refine{g,F,?_,λb hb=>.inl<|Zs _<|dA N hb};rw[l];have:F=([[],F]).flatten:=by simp
  rw[this];exact .tup av<|.cons (.int _) {`LT,L.same g}
 .rcases Zi.mp hb with rfl|hb
  .grind
  .exact Oy.jj `xjR
def qk(t:`cC)(r:Gl X "enumerate")(q:X.mg "enumerate" = M)(j:{`q3,Qv a [] X})(z:{`q3,SL [a] X.env=[(B,eval a X.env)]}) :
  PVI G X (.Tuple elts n tpos) (.Call (.Name "enumerate" p) [a] [] pos) (An ca) :=
 PI.weak (Gy r q (cf t fG j) z) λO H R o=>by
  calc Oj o λZ U m l=>oe λs e k=>?_;obtain⟨⟨h,x⟩,w,e1⟩:=Zz.mp e;calc Oe Z U h x {s,w,λv A F e3 g u=>?_};cases x with
  |lst C =>
   calc ai λD i=>?_;cases e1;ext g.lst_inv y d E rfl rfl b f;calc i ?_;exact{y,rfl,{d,OD.of b},k _ A _ e3 (FC _ b f) u.c}
  |_=>cases e1
noncomputable instance {s:Tx}:Decidable (lF s):=inferInstanceAs<|Decidable<|_/\_
def w_add(f:`cC)(d:`hH):PV G X (.BinOp a .Add b pos) {`ww,b6}:=jJ mq pZ f d
def w_mul(f:`cC)(d:`hH):PV G X (.BinOp a .Mult b pos) {`ww,m8}:=jJ Lk Ll f d
def w_mod(f:`cC)(d:`hH):PV G X (.BinOp a .Mod b pos) {`ww,oMod}:=jJ Lp J8 f d
def sO{X:Cx}(d:`Tm)(g:`cC)(f:`hH):Ro G X (.Compare a [.Eq] [b] pos) {`ww,oEq}:=fW (x9 d.units) C1 tells_eq g f<|jT _
def aT(g:`cC)(f:`hH)(d:gI b:=by intro _ _;rfl)(i:{`q3,X.K=G.K}):PV G X {`o0,a,pos} {`ww,aM} :=
 PE.weak (ox lQ g f d) λO H Q h=>i ▸ oi yU h
def dh{X:Cx}(d:X.mg "len" = M)(g:PJ G X [e] cs)(f:{`q3,Gl X "len"})(h:{`q3,X.K=G.K})(he:{`q3,Qv e [] X}):PV G X (.Call (.Name "len" p) [e] [] pos) (eN cn cs) :=
 nh (h ▸ AQ) JV f d PySem.boot_len g (he:=he)
def zX:bootBuiltins ("list" : Str)=Y (.type "list"):=by decide +kernel
noncomputable def tyN:Ty->Str
 |.int => "int" |.str => "str" |.bool => "bool" |.list => "list" |.tuple => "tuple" |.dict => "dict"
def LL(t:Ty):bootBuiltins `xhE=Y (.type<|tyS t):=by cases t<;>decide +kernel
def w_is{X:Cx}(t:Ty)(h:X.mg "isinstance" = M)(d:X.mg `xhE=M)(j:`cC)(i:{`q3,Gl X "isinstance"})(f:{`q3,Gl X `xhE})(l:{`q3,X.K=G.K})(g:{`q3,SL [a,.Name `xhE p2] X.env=(B,eval a X.env)::SL [.Name `xhE p2] X.env}):PV G X (.Call (.Name "isinstance" p1) [a,.Name `xhE p2] [] pos) (eIs t ca) :=
 MD t j i h f d (LL t) l (by cases t<;>decide) (by cases t<;>decide) g L L
def l5{apos:Pos}(i:Nat)(m:PJ G X [e] cs)(o:{`q3,X.K=G.K})(n:{`q3,X.N[i]?=Y x})(f:{`q5,RP X.env.scope x})(j:{`q1,Qx x})(d:{`q1,Qy x})(s:{`q3,Qz pe [e] X})(q:{`q3,`im=J})(g:{`q3,Qv e [] X}) :
  PSV G X (.Expr (.Call (.Attribute `gc "append" apos) [e] [] pe) pos) (sX<|rV i [] aP cs) :=
 EY i XJ Wk Wm iZ nU `xgs m o n f j d L s q g L L
structure FnAt(P:UF)(w:XAE)(K:W0)(mg:W3)(base:XAD)(k:Nat)(x:Str)(ps:`e_)(G:Gx)(g:Fn):Prop where
 ex:∃f fd,FnOk P w K mg base Pb k f fd ps (Sb G g)/\mg x=some `dt/\PySem.W.keepIn K `dt=true/\Binds K fd ps []
def bG{X:Cx}(F:{`xbw,x})(a:`t_)(h:`kx)(b:{`q1,k<=k'})(d:{`q3,Gl X x})(n:{`q1,Qx x})(he:{`q3,Qv e es X})(o:{`q3,Qw pos es X}) :
  PV G X (.Call `j_ `bv [] pos) (bu g cs):=by
 calc Oo F.ex λf fd=>OI λm l j i=>?_;calc Ii m (a.mono b) d l j i h n he o
section
variable{K:W0}
def gD(F:Ov K x x a f h)(l:mg x=Y `dt)(S:bt N b<|ah a)(i:⇑b=e)(j:`xhh)(d:Ua5 x x a b)(m:Ua6 k Pb P w K mg base N x a f λX=>iM G X.Ss (bg a) c) :
  FnAt P w K mg base `T5 x b G (fn e g c) :=
 {f,h,fnV F S i j m,l,F.kp,F.binds d}
end
end VS
namespace L2
noncomputable def SH(x:Str):It:={λi _=>i<x.cps.size,λi H v a=>a=H/\∃c,x.cps[i]?=Y c/\v=.str {#[c]},λi _=>x.cps.size<=i}
def sP{P:UF}{w:XAE}{K:W0}{G:Expr}(x:Str)(t:Tok)(a:Pv)(g:String)(S:["enumerate", "zip", "dict_itemiterator", "dict_reverseitemiterator", "odict_iterator", "itertools.zip_longest", "itertools.pairwise"].contains g=B)(W:∀A:UV,A.handled=M->Walks P w A a [a] [a] x.cps.size (λi v=>∃c u,x.cps[i]?=Y c/\v=.str {#[c]} u) {`xaB,g})(l:∀(A:UV),A.handled=M->∀(i:Nat)(s:On)(Q:Ve->On->Prop)(E:Y2),s.heap.IsStrIter a g x t i->x.cps[i]?=M->(∀m,Heap.ExtBut a s.heap m->Q M { s with heap:=m })->SB `xdY A (pyNext `bz) Q E s)(f:∀(A:UV)(i:Nat)(s:On)(Q:Y2)(E:Y2),s.heap.IsStrIter a g x t i->Q `bz s->SB `xdY A {`xoN,`bz} Q E s) :
  Turn P w K G (SH x) [a] a {`xaB,g} where
 mem:=by simp
 obj:=λi h st b hb=>by
  rw[ZK.mp hb];ext st o e c d
  simp_all
 keep:=λi h m st k=>let ⟨o,e,r⟩:=st;{o,k a (by simp) o e,r}
 item:=by
  intro X q hw y p i j s O H E I n st hg;subst q hw y;calc TV (n a<|by simp) λD f1 f2 C z f5=>?_;refine(W _<|I.ok.hd p).item i s _ _ hg st λv m tk R F L=>?_;ext R c u QU rfl;exists id F,o,e,Z,d;exact⟨_,rfl,xg e Z d S {.str _,H,(I.turned (λb o hb e=>L b o (by simpa using hb) e) D f1 C z f5),{u,(rfl)},{rfl,c,QU,(rfl)},F,λb hb=>(n b hb).1}⟩
 done:=by
  intro X q hw y p i j s O H E I n st hg;subst q hw y;calc TV (n a<|by simp) λD f1 f2 C z f5=>?_;have N:x.cps.size<=i:=hg;exact l _ (I.ok.hd p) i s _ _ st (by simp[N]) λm U=>{rfl,I.turned {`re,U} D f1 C z f5}
 self:=λA i s Q E st h=>f A i s Q E st h
def Em{K:W0}(x:Str)(t:Tok)(a:Pv):Turn P w K g (SH x) [a] a {`xaB,strIterType x}:=by
 cases f:x.cps.all (· < 128)
 .have e:strIterType x = "str_iterator" := by simp[strIterType,f]
  exact e ▸ sP x t a _ L (λA b=>Walks.strWide b a x t) {`xcc,wpAny_pyNext_wide_end} λA i s Q E st q=>wpAny_pyIter_striter_wide st q
 .have e:strIterType x = "str_ascii_iterator" := by simp[strIterType,f]
  calc e ▸ sP x t a _ L (λA b=>Walks.strAscii b a x t) {`xcc,wpAny_pyNext_ascii_end} λA i s Q E st q=>wpAny_pyIter_striter_ascii st q
def Mb(K:W0)(f:TE):TI:=λO H R=>f O H λx d=>(∃a,x=.ref a/\(∃e,OD K d a e)/\R `xnE d)\/(∃a,x=.ref a/\(∃e,P8 K d a e)/\R `xnD d)\/∃z,x=.str z/\R (SH z) d
def Hb(y:PE X l tl):PI X tg l (Mb X.K tl):=by
 intro j s O H R I h;calc thn (y _ s O H _ I h) λv s1 A=>?_;ext A x g f r1 r;have d:∀b∈[s1.heap.objs.size],rS X _ g b:=λb hb=>ZK.mp hb ▸ f.fpOk (Zq _) (f.Og.fresh<|Zq _);rcases r with⟨a,e,⟨m,i⟩,q⟩|⟨a,e,⟨m,i⟩,q⟩|⟨z,e,q⟩
 .subst e;cases r1;exists f.list i,C,n,p,w;exact wpAny_pyIter_list p.isList<|PM _ _ _ _ g {rfl,f.kept λb o e=>Zm _ e,Br a _,{_,ZZ _ L,rfl,rfl},d,q}
 .subst e;cases r1;exists f.tuple i,C,n,p,w;exact wpAny_pyIter_tuple (p)<|PM _ _ _ _ g {rfl,f.kept λb o e=>Zm _ e,ye a _,{_,ZZ _ L,rfl,rfl},d,q}
 .refine ai λD u=>?_;subst e;ext r1 t rfl;calc u ?_;calc wpAny_pyIter_strU<|PM _ _ _ _ g {rfl,f.kept λb o e=>Zm _ e,Em z t _,{_,ZZ _ L,rfl,rfl},d,q}
def HA{s:On}{d:XAD}(f:∀b x,b∉[s.heap.objs.size]->(s.heap.push o).get? b=Y x->d.get? b=Y x)(b:Pv)(x:Obj)(e:{`s_,b,x}):d.get? b=Y x :=
 f b x (λhm=>Yl _ (by have:=Zb e;rw[ZK.mp hm]at this;calc this)) (Zm _ e)
def Da{X:Cx}(F:`Ch):dU X (.builtin "sum") (λo H Q=>∃p,∃ns:Ui,o=[.ref p]/\OD X.K H p `xeR/\Q (.int ns.sum) H):=by
 intro r s O H o N Q I y h;calc ai λU z=>?_;ext h p ns rfl E q;ext y.one u rfl g;cases g;exists I.list E,w,f,j,R;calc z ?_;have hl:p<s.heap.objs.size:=by ext j.isList _ e _;exact Zb e
 refine call_sum_walkG<|wpAny_pyIter_list j.isList<|L2.xI7 _ _ _ _ _ _ (λi=>(ns[i]?).getD 0) ⟨rfl,Walks.list (A:=X.A.in1) (I.ok.hd F) _ p (Zg hl) _,⟨{_,ZZ _ L,rfl,rfl},j.isList.push _⟩,λb hb=>?_,λi v G=>?_,λS P x m=>{.int _,H,I.kept<|HA m,{x,?_},q}⟩
 .rw[Xe];obtain rfl|hb:=Zi.mp hb
  .exact Yk _
  .exact ZK.mp hb ▸ Rz hl
 .have d:w[i]?=Y v:=by simpa using G
  cases e:ns[i]? with
  |none =>
   have:=f.none_of (i:=i) (by simp_all);rw[this]at d;cases d
  |some n =>
   exists f.get (by rw[ZV,e];rfl),u,D,g;rw[D]at d;obtain rfl:=Om d;ext g t rfl;exact{t,by simp[e]}
 .have hlen:w.toArray.size=⇑ns:=by have:=f.length;simp_all
  have:∀k,k<=⇑ns->preSum (λi=>(ns[i]?).getD 0) k=(ns.take k).sum:=λk=>by
   induction k with
   |zero=>intro _;simp[preSum]
   |succ k C =>
    intro m;rw[List.take_succ,List.sum_append,preSum,C<|by calc Vm m];cases e:ns[k]? <;> simp
  simp_all
def BC:OpR X (XAC .Gt) (λx y H Q=>∃i j,x=.str i/\y=.str j/\Q (.bl (decide `Fw)) H):=by
 intro d s O H x y v u Q I f e h;ext h i j rfl rfl q;ext f t rfl;ext e g rfl;calc PySem.P.gt_str {.bl _,H,I,rfl,q}
def Bn:OpR X (XAC .GtE) (λx y H Q=>∃i j,x=.str i/\y=.str j/\Q (.bl<|!decide `Go) H):=by
 intro d s O H x y v u Q I f e h;ext h i j rfl rfl q;ext f t rfl;ext e g rfl;calc PySem.P.ge_str {.bl _,H,I,rfl,q}
end L2
namespace VS
open L2
def Ke(H:Hp)(s:Tx)(j:lF s):To G (L2.SH `A6) (s.map λc=>T.str [c]) [] H:=by
 have sz:(`A6).cps.size=⇑s:=rfl;refine{λo _ _=>{λi t h=>?_,λi h=>(by rw[Zu]at h;show (`A6).cps.size<=i;lia)},λa h=>by simp at h};rw[ZV]at h;exists Zx.mp h,c,f,rfl;refine{(by show i<(`A6).cps.size;grind),λx n ⟨e1,g,m,e2⟩=>?_};subst e1;have:g=c:=by
  have l:(`A6).cps[i]?=Y c:=by simp[sx,f]
  grind
 subst this;rw[e2];exact{aN.refl _,[],.str _ {(by show 1<=gn;decide),λd hd=>ZK.mp hd ▸ j.2 g (ZE f)},λa h=>by simp at h}
def dI(u:`cC)(A:{`q3,X.K=G.K}):PVI G X tg a (iK ca) :=
 PI.weak (Hb u) λO H R t=>by
  calc Oj t λZ U m l=>oe λs e k=>?_;obtain⟨⟨r,x⟩,w,e1⟩:=Zz.mp e;calc Oe Z U r x {s,w,λv f F e3 j o=>?_};cases x with
  |lst q =>
   cases e1;ext j.lst_inv n g y rfl rfl d i;calc .inl {n,rfl,{g,OD.of d},k _ f _ e3 (HR _ d i) o.c}
  |tup q =>
   cases e1;ext j.QA n g y rfl rfl d i;calc .inr<|.inl {n,rfl,{g,P8.of d},k _ f _ e3 (KA _ d i) o.c}
  |str z =>
   cases e1;ext j.str_inv rfl ok;calc .inr<|.inr {_,rfl,k _ f [] e3 (Ke f z ok) λa h=>by simp at h}
  |_=>cases e1
def Gg:∀{d:`cg}{l:Uc}{g:Wc}{f:Ui},RpL G H d l g->xJ l=Y f->d=f.map V.int:=by
 intro d
 induction d with
 |nil =>
  intro l g f r e;cases r;cases e;rfl
 |cons v d h =>
  intro l g f r e;cases l with
  |nil=>cases r
  |cons t l =>
   cases r with
   |cons r q =>
    cases t with
    |int s =>
     exists Zx.mp e,i,e1,e2;subst e2;rw[h q e1,r.int_inv];rfl
    |_=>cases e
def KF:gu G (λd H Q=>∃p,∃ns:Ui,d=[.ref p]/\OD G.K H p `xeR/\Q (.int ns.sum) H) FK:=by
 intro Z U s H l o u m t Q A e k;unfold FK at e;split at e
 .rename_i q x;calc ai λr h=>?_;exists Zz.mp e,i,e1,e2;cases e2;exists (`xev).one,v,F,rfl,rfl,f;ext f.lst_inv a n Gs rfl rfl j g;calc h ?_;exact{a,i,rfl,Gg g e1 ▸ OD.of j,bH k<|.int _}
 .cases e
def Kg:bootBuiltins ("sum" : Str)=Y (.builtin "sum"):=by decide +kernel
def Cw:bootBuiltins ("tuple" : Str)=Y (.type "tuple"):=by decide +kernel
def w_sum{X:Cx}(d:X.mg "sum" = M)(h:PJ G X [e] cs)(f:{`q3,Gl X "sum"})(i:{`q3,X.K=G.K})(g:{`q3,X.calm=J})(he:{`q3,Qv e [] X}):PV G X (.Call (.Name "sum" p) [e] [] pos) (eN FK cs) :=
 nh (Da g) (i ▸ KF) f d Kg h (he:=he)
def BU:gu G (λg H Q=>∃p d,g=[.ref p]/\((OD G.K H p d/\∀l,H l=M->Q `z_ {`xch,.tup d})\/(P8 G.K H p d/\Q `xal H))) mZ:=by
 intro Z U y H l s z m t Q A e k;unfold mZ at e;split at e
 .rename_i u x;split at e
  .rename_i hl;calc ai λw j=>?_;cases e;exists (`xev).one,v,F,rfl,rfl,h;ext h.lst_inv a d Gs rfl rfl o i;calc j ?_;refine⟨a,d,rfl,.inl {OD.of o,λq n=>?_}⟩;have f:aN H {`xdb,q,.tup d}:=bI n;have r:Rp G _ _ _ _:=.tup av<|i.same f;exact k _ _ _ f r<|((A.fp.each 0 _ _ L L).sub<|Y5 _ _).up r
  .cases e
 .cases e
def FB{X:Cx}(d:X.mg "tuple" = M)(g:PJ G X [e] cs)(f:{`q3,Gl X "tuple"})(h:{`q3,X.K=G.K})(he:{`q3,Qv e [] X}):PV G X (.Call (.Name "tuple" p) [e] [] pos) (eN mZ cs) :=
 kH rO (h ▸ BU) f d Cw g (he:=he)
def rGt:R2:=λx y H Q=>Ts (λi j=>.bl (decide (j<i))) x y H Q\/(∃i j,x=.str i/\y=.str j/\Q (.bl (decide `Fw)) H)
def rGe:R2:=λx y H Q=>Ts (λi j=>.bl (decide (j<=i))) x y H Q\/(∃i j,x=.str i/\y=.str j/\Q (.bl<|!decide `Go) H)
def Cf(s t:Tx):decide {`xbR,t}=UL s t:=by rw[qB];calc decide_eq_decide.mpr (by simp[sx])
def MG:fD G rGt Tv:=by
 intro Z U l H x y u w o n m t Q d e k;ext x h x;ext y g y;ext d same r1 r2 f1 f2 nd;cases y with
 |int i=>cases x with
  |int j =>
   cases e;calc .inl {_,_,r1.int_inv,r2.int_inv,bH k<|.bl _}
  |_=>cases e
 |str s=>cases x with
  |str f =>
   cases e;calc .inr {_,_,r1.str_inv.1,r2.str_inv.1,?_};rw[Cf];calc bH k<|.bl _
  |_=>cases e
 |_=>cases e
def MJ:fD G rGe oGe:=by
 intro Z U l H x y u w o n m t Q d e k;ext x h x;ext y g y;ext d same r1 r2 f1 f2 nd;cases y with
 |int i=>cases x with
  |int j =>
   cases e;calc .inl {_,_,r1.int_inv,r2.int_inv,bH k<|.bl _}
  |_=>cases e
 |str s=>cases x with
  |str f =>
   cases e;calc .inr {_,_,r1.str_inv.1,r2.str_inv.1,?_};rw[Cf];calc bH k<|.bl _
  |_=>cases e
 |_=>cases e
def E3:Tells Tv:=λx y m t e=>l8 y x m t e
def B5:Tells oGe:=λx y m t e=>B4 y x m t e
def Ar(f:`cC)(d:`hH):Ro G X (.Compare a [.Gt] [b] pos) {`ww,Tv}:=fW (LR.or BC) MG E3 f d<|jT _
def vt(R:`xeK)(l:fD G o g)(h:{`xbq,ju f g ca cb cc}):DJ r o `xnq (tE G cb) (tE G cc) O H Q:=by
 calc ai λP_ k_=>?_;calc Oj h λZ U m t=>oe λs e k=>?_;exists Zz.mp e,x,ea,e;exists Zz.mp e,y,eb,e;obtain⟨⟨S,z⟩,ez,e⟩:=Zz.mp e;calc k_ ?_;calc B0 s ea eb λu w H2 F1 A d=>R Z U H H2 x y u w F1 A S z _ d ez λv H3 F e1 r1 f1=>?_;cases z with
 |bl q =>
  refine{q,r1.Pm,?_};cases q with
  |false =>
   cases e;calc Zn Zj ▸ k _ H3 [] `xlB (.bl _) Fp.nil
  |true =>
   rw[Zp L];exists Zz.mp (e),C,ec,e;have i:=d.same.trans e1;calc Oe Z U _ _ {s.same i,ec,λD H4 F4 n P j=>?_};calc l Z U H H4 y C w D A F4 m t Q {i.trans n,(`xok).same n,P,d.f2,j.back i,λhx hy=>?_} e λE H5 F5 e5 N f5=>k E H5 F5 {`tf,i.trans,n,e5} N f5;have f2:=d.f2;rw[hx]at f2;rw[hy]at j;calc ZG.mpr {f2.1,j.1,λa ha b hb z=>?_};subst z;calc Oy.jj ((`xok).OF a ha)<|j.2 a hb
 |_=>cases e
def zU{X:Cx}{i:Int}(h:∃t,X.mg x=Y `xhn)(f:{`q3,Gl X x})(g:{`q1,Qx x}):PV G X `xfo (Q3 i):=by
 ext h t d;calc GG (v:=`KE) f d {t,(rfl)} (λH=>.int i) g
end VS
namespace L2
def AS{α:Type}(l:`ew)(n:Nat):∀acc:List α,List.foldl (λa x2=>a++x2) acc.toArray {`oD,n,l.toArray}=(acc++({`oD,n,l}).flatten).toArray:=by
 induction n with
 |zero=>intro acc;simp
 |succ n b =>
  grind
def Gj:OpR X `xmi (λx y H Q=>∃(l:Uj)(k:Int),x=.str {(l.toArray)}/\y=.int k/\-(2 ^ 62)<=k/\k<2 ^ 62/\⇑l*k.toNat<=Pi/\Q {`xaY,l} H):=by
 intro f s O H x y v u Q I i g h;ext h l k rfl rfl r p b q;ext i t rfl;ext g o rfl;have hlen:⇑({(_)}:Str)=⇑l:=rfl;refine PySem.P.mul_str ?_ ?_ ?_ ?_
 .grind
 .intro d _ m;rw[hlen]at m;have:(⇑l:Int)*k<=16777216:=by
   have j:⇑l*k.toNat<=16777216:=b;grind
  have n:(⇑l:Int)*k<=2 ^ 63-1:=by lia
  have:=(Int.le_ediv_iff_mul_le `am).mpr n;lia
 .intro _ _;exact hlen ▸ ZP (by calc Nat.not_lt.mpr b)
 .by_cases d:k<1
  .rw[Zp d];have e:k.toNat=0:=by lia
   rw[e]at q;exact⟨by decide,{.str _,H,I.tok _,{_,(rfl)},q}⟩
  .rw[Zn d];split
   .rename_i a;have e:({`oD,k.toNat,l}).flatten=l:=by
     rw[Bool.or_eq_true]at a;obtain a|a:=a
     .simp_all
     simp_all
    rw[e]at q;exact{.str _,H,I,{t,(rfl)},q}
   .have e:=AS l k.toNat [];rw[Yd]at e;rw[show ({(_)}:Str).cps=l.toArray from rfl,e];refine⟨?_,{.str _,H,I.tok _,{_,(rfl)},q}⟩;show ⇑({(_)}:Str)<=Pi;show ((List.replicate _ l).flatten.toArray).size<=Pi;rw[Ya,(len_rep l _),Nat.mul_comm];calc b
end L2
namespace VS
open L2
def Fe:fD G (λx y H Q=>∃(l:Uj)(k:Int),x=.str {(l.toArray)}/\y=.int k/\-(2 ^ 62)<=k/\k<2 ^ 62/\⇑l*k.toNat<=Pi/\Q {`xaY,l} H) EI:=by
 intro Z U A H x y u w D C m t Q g e k;ext x v x;ext y s y;ext g same r1 r2 f1 f2 nd;cases x with
 |str h=>cases y with
  |int j =>
   calc ai λz i=>?_;calc i ?_;replace e:@ite _ _ _ _ _=_:=e;split at e
   .rename_i f;cases e;have q:=f.2.1;have o:=f.2.2;unfold UT at q o;refine⟨h,j,r1.str_inv.1,r2.int_inv,by lia,by lia,f.1,bH k<|.str _ {?_,λc r=>?_}⟩
    .rw[len_rep,Nat.mul_comm];exact f.1
    .exists Ul.mp r,x,n,d;rw[({`xoz,n}).2]at d;exact r1.str_inv.2.2 c d
   .cases e
  |_=>cases e
 |_=>cases e
def uz:PV G X (.Dict [] [] pos) (wg 0 []):=PE.weak Cs λO H Q d=>by
 calc Oj d λZ U m t=>oe λs e k=>?_;cases (e);intro q d;have:Rp G (upd H q _) _ (.dct 0<|(([]).map _).zip []) _:=.dct av L .nil;calc k _ _ _ (bI d) this {by simp,λb hb=>by simp_all}
def g7{X:Cx}(hp:`EQ)(hc:Ro G X c cc)(hb:iM G X d y):PSV G X (.While c d [] pos) (jO cc y) :=
 PS.weak (CF hp hc hb) λD O H hq=>by
  calc OH hq λZ U o=>oe λs e k=>?_;refine{λn S F=>∃C m,SR G C m S F/\OE Z U H C m F/\dc cc y n m=Y o,Ow _ Z U {s,OE.refl Z U H,e},?_};rintro n S F ⟨C,m,Q,f2,e2⟩;cases n with
  |zero=>cases (e2)
  |succ n =>
   rw[dc]at e2;obtain⟨⟨mx,x⟩,ex,e3⟩:=Zz.mp e2;exists Zz.mp e3,t,et,i;calc PM _ _ mx x t {Q,ex,et,λH3 N=>?_};have P:=Q.same N;have h:=f2.trans<|OE.same N;cases t with
   |false =>
    rw[Zn Zj]at i;obtain rfl:=Om i;show if B=J then _ else _
    calc Zn Zj ▸ k _ _ H3 P h
   |true =>
    rw[Zp L]at i;show if J=J then _ else _
    rw[Zp L];exists Zz.mp i,R,e5,l;refine⟨_,λr j q=>{n,Yk n,q},Ow _ _ R {P,e5,?_}⟩;cases R with
    |nx E=>calc λz r j f g=>SJ {f,h.trans g,l}
    |ct E=>calc λz r j f g=>SJ {f,h.trans g,l}
    |bk E =>
     clear e e2 e3 i;cases (l);calc λz r j f g=>k _ _ j f<|h.trans g
    |rt v E =>
     clear e e2 e3 i;cases (l);calc λu j F4 z r f g r5 q5=>k u j F4 _ _ f (h.trans g) r5<|q5.back h
noncomputable def sNo:Sx:=λ_=>M
def ud:PSV G X f sNo:=λd s O H D I ⟨_,_,_,_,e,_⟩=>nomatch (e)
def fA(r:{`ss,.dct 0 l}):∃(a:Pv)(f:`e9)(d:`cg)(g:Uc)(h:Wc),v=.ref a/\F=a::h.flatten/\H a=Y (.dK<|f.zip d)/\⇑f=⇑d/\l=(f.map bp).zip g/\RpL G H d g h:=r.inv
def de(r:`hQ)(h:iJ t=J):∃k:Key,v=kV k/\t=bp k:=by
 cases t with
 |int i=>exact{.inl i,r.int_inv,rfl}
 |str s=>exact{.inr _,r.str_inv.1,by simp[bp,sx]}
 |_=>cases h
def jv(k d:Key):eqT (bp d) `xfR=J↔d=k:=by
 obtain i|⟨⟨x⟩⟩:=k<;>obtain j|⟨⟨y⟩⟩:=d
 .exact beq_iff_eq.trans {λh=>h ▸ rfl,λh=>Sum.inl.inj h}
 .exact{(λh=>nomatch h),λh=>nomatch h}
 .exact{(λh=>nomatch h),λh=>nomatch h}
 .exact beq_iff_eq.trans {λh=>ZF (λz=>(.inr ({(z)}:Str):Key))<|Wt.mp h,λh=>by cases h;rfl}
def pG{k:Key}:∀{d:`e9}{f:`cg}{g:Uc}{l:Wc},⇑d=⇑f->RpL G H f g l →
  (eU {`xbZ,d.map} `xfR=M/\iN `xiJ k=M)\/∃(i:Nat)(v:V)(t:T)(F:Vr),eU {`xbZ,d.map} `xfR=Y t/\iN `xiJ k=Y v/\f[i]?=Y v/\l[i]?=Y F/\Rp G H v t F:=by
 intro d f g l hl r;revert d;apply RpL.ind ?_ ?_ r
 .intro d hl;obtain rfl:=Xn hl;exact .inl {rfl,(rfl)}
 .intro v t F f g l r q o d hl;exists Xh hl,k',d,rfl;have e:eqT (bp k') `xfR=decide (k'=k):=by rw[XR,decide_eq_true_eq];exact jv k k'
  by_cases j:k'=k
  .refine .inr<|Oe 0 v t F {?_,jW j,rfl,rfl,r};simp only[eU,Zh,SE,Yn,(e ▸ ZI j)];rfl
  .have u:eU (((k'::d).map bp).zip<|t::g) `xfR=eU {`xbZ,d.map} `xfR:=by
    simp only[eU,Zh,SE,Yn,(e ▸ ZP j)]
   have s:iN ((k'::d).zip<|v::f) k=iN `xiJ k:=by simp[iN,j]
   rw[u,s];rcases o (by simpa using hl) with h|⟨i,m,n,C,A,z,y,x,w⟩
   .exact .inl h
   .exact .inr<|Oe `I_ m n C {A,z,by simpa using y,by simpa using x,w}
def vd{X:Cx}(m:X.A.units+1<cLine):Rb X (λx y H Q=>∃a v,x=.ref a/\iS H a y `xer/\Q v H):=by
 intro value slice d s O H x y v u Q I l j h hs;ext h a w rfl g q;cases l;have f:=wD I g;calc Zy ?_;rw[getitemInPython_of_ne f.not_modules];calc Zy<|VA f PySem.F.slot_dict_getitem.lookup ?_;have fin:SB `a_ X.A (subscripted slice B `bz u) (λr i=>SB `a_ X.A (letTemporaryGo value `bz r >>= λ_=>pure r) (EP X d O Q) X.xe i) X.xe s:=hs ▸ wpAny_operating (BL m I g j λt z o n=>Zy<|wpAny_letTemporaryGo<|Zt {w,H,o,n,(q)})
 first
  |calc Zt<|Zy fin
  |calc Zy<|Zt<|Zy fin
  |calc Zy fin
def Nh(K:W0):R2:=λx y H Q=>rIx K x y H Q\/∃a v,x=.ref a/\iS H a y `xer/\Q v H
def Nq:fD G (Nh G.K) RF:=by
 intro Z U z H x y u w C A m t Q d e k;ext x N x;by_cases hd:∃l,x=.dct 0 l
 .ext hd l rfl;simp only[RF]at e;split at e
  .rename_i h;exists Zx.mp e,L,e1,e2;exists fA d.r1,a,O,D,E,Fs,rfl,rfl,j,hl,rfl,q;exists de d.r2 h,P,rfl,o;rw[o]at e1;rcases pG hl q with⟨n,_⟩|⟨i,v,t2,F,g,s,S,r,f⟩
   .rw[n]at e1;cases e1
   .rw[g]at e1;obtain rfl:=Om e1;clear e g e1;cases e2;calc .inr {a,v,rfl,s ▸ iS.k j,?_};exact k v H F (aN.refl _) f<|((d.f1.sub<|Y5 _ _).sub<|cz r).up f
  .cases e
 .exact .inl (yU Z U z H _ y u w C A m t Q d (by
   simp only[RF]at e;split at e
   .rename_i l R;exact absurd {_,(rfl)} hd
   .exact e) k)
def qX{X:Cx}(f:`Tm)(i:`cC)(g:`hH)(d:gI b:=by intro _ _;rfl)(j:{`q3,X.K=G.K}):PV G X {`o0,a,pos} {`ww,RF} :=
 PE.weak `xjP λO H Q h=>j ▸ oi Nq h
def fV:T->V
 |.bl b=>.bl b
 |.int i=>.int i
 |.str s=>.str `A6
 |_=>.non
def IV(r:`hQ)(h:`xhI):v=fV t/\iE v=J:=by
 cases r with
 |non=>exact{rfl,(rfl)}
 |bl b=>exact{rfl,(rfl)}
 |int i=>exact{rfl,(rfl)}
 |str s hl=>exact{rfl,(rfl)}
 |_=>cases h
def Na(h:`xhI)(g:flat u=J):eqV (fV t) (fV u)=eqT t u:=by
 cases t<;>try exact absurd h Zj
 all_goals cases u<;>first|calc absurd g Zj|calc rfl|calc Cd
def Cz(r:`hQ)(g:Rp G H w u h)(f:`xhI)(d:flat u=J):eqV v w=eqT t u/\iE v=J/\iE w=J:=by
 exists IV r f,e1,f1;exists IV g d,e2,f2;refine{?_,f1,f2};rw[e1,e2];calc Na f d
def zq(r:Rp G H x t F)(l:`xhI):∀{d:`cg}{f:Uc}{g:Wc},RpL G H d f g->f.all flat=J->d.all iE=J/\inV x d=f.any λy=>eqT y t:=by
 intro d f g q;apply RpL.ind ?_ ?_ q
 .exact λ_=>{rfl,(rfl)}
 .intro v o s d f g i q j h;rw[Wj,YH]at h;exists j h.2,n,m;exists Cz i r h.1 l,e1,e2,e3;refine{by rw[Wj,e2,n];rfl,?_};unfold inV at m ⊢
  simp_all
def NV(K:W0):R2:=λx y H Q=>rIn K B x y H Q\/∃a o,y=.ref a/\iS H a x o/\Q `xoj H
def Fh(K:W0):R2:=λx y H Q=>rIn K J x y H Q\/∃a o,y=.ref a/\iS H a x o/\Q (.bl<|!o.isSome) H
def Ip{X:Cx}(j:X.A.units+1<cLine):OpR X `xny (λx y H Q=>∃a o,y=.ref a/\iS H a x o/\Q `xoj H):=by
 intro d s O H x y v u Q I i f h;ext h a o rfl g q;cases f;calc Oc j I g i λm l=>{.bl _,H,l,rfl,q}
def Ek{X:Cx}(j:X.A.units+1<cLine):OpR X `xiV (λx y H Q=>∃a o,y=.ref a/\iS H a x o/\Q (.bl<|!o.isSome) H):=by
 intro d s O H x y v u Q I i f h;ext h a o rfl g q;cases f;calc GU j I g i λm l=>{.bl _,H,l,rfl,q}
def vM{L:Vr}(f:Two G Z U D H x y u w L E)(e:rW x y=Y (m,t)) :
  ∃b,m=.fr/\t=.bl b/\((∃p l,w=.ref p/\(OD G.K H p l\/P8 G.K H p l)/\iE u=J/\l.all iE=J/\inV u l=b)\/∃a o,w=.ref a/\iS H a u o/\o.isSome=b):=by
 ext y O y;simp only[rW]at e;split at e
 .split at e
  .rename_i d;cases e;exists fA f.r2,a,P,n,N,s,rfl,rfl,g,hl,rfl,q;exists de f.r1 d,Q,rfl,z;refine⟨_,rfl,rfl,.inr {a,_,rfl,iS.k g,?_}⟩;rw[z];rcases pG hl q with⟨j,h⟩|⟨i,v,t2,F,C,A,_⟩
   .rw[j,h];rfl
   .rw[C,A];rfl
  .cases e
 .split at e
  .rename_i d;cases e;rw[YH]at d;ext f.r2.lst_inv a n s rfl rfl g r;exists zq f.r1 d.1 r d.2,j,h;exact⟨_,rfl,rfl,.inl {a,n,rfl,.inl<|OD.of g,{`xdK,f.r1,d.1},j,h}⟩
  .cases e
 .split at e
  .rename_i d;cases e;rw[YH]at d;ext f.r2.QA a n s rfl rfl g r;exists zq f.r1 d.1 r d.2,j,h;exact⟨_,rfl,rfl,.inl {a,n,rfl,.inr<|P8.of g,{`xdK,f.r1,d.1},j,h}⟩
  .cases e
 .cases e
def MB:fD G (NV G.K) rW:=by
 intro Z U j H x y u w n l m t Q f e k;exists vM f e,b,rfl,rfl,h;rcases h with⟨p,d,rfl,i,f1,f2,hb⟩|⟨a,o,rfl,g,hb⟩
 .refine .inl {p,d,rfl,i,f1,f2,?_};exact hb ▸ bH k `xfJ
 .refine .inr {a,o,rfl,g,?_};calc hb ▸ bH k `xfJ
def Lv:fD G (Fh G.K) dP:=by
 intro Z U r H x y u w v s m t Q f e k;unfold dP at e;split at e
 .rename_i n q j;cases e;exists vM f j,b,rfl,l,h;cases l;rcases h with⟨p,d,rfl,i,f1,f2,hb⟩|⟨a,o,rfl,g,hb⟩
  .refine .inl {p,d,rfl,i,f1,f2,?_};exact hb ▸ bH k (.bl _)
  .refine .inr {a,o,rfl,g,?_};exact hb ▸ bH k (.bl _)
 .cases e
def Cp:Tells rW:=by
 intro x y m t e;simp only[rW]at e;split at e
 all_goals first|(split at e<;>first|grind|cases e)|cases e
def Bj:Tells dP:=by
 intro x y m t e;unfold dP at e;split at e
 .cases e;exact{_,(rfl)}
 .cases e
def LX{X:Cx}(d:`Tm)(h:`cC)(g:`hH)(f:{`q4,behindInMarks .In b=B})(i:{`q3,X.K=G.K}):Ro G X (.Compare a [.In] [b] pos) {`ww,rW}:=fW (BN.or<|Ip<|kS d) (i ▸ MB) Cp h g f
def uB{X:Cx}(d:`Tm)(h:`cC)(g:`hH)(f:{`q4,behindInMarks .NotIn b=B})(i:{`q3,X.K=G.K}):Ro G X (.Compare a [.NotIn] [b] pos) {`ww,dP}:=fW (uP.or<|Ek<|kS d) (i ▸ Lv) Bj h g f
end VS
namespace TS
noncomputable def zw:Bool->SC->Array SC->Nat->Nat->Nat->StateT XAA Sem `fg:=sortPriv% PySem.Builtin.gallop
noncomputable def D5:Array SC->Array SC->StateT XAA Sem `dL:=sortPriv% PySem.Builtin.mergeLo
noncomputable def D1:Array SC->Array SC->StateT XAA Sem `dL:=sortPriv% PySem.Builtin.mergeHi
def all2{e d:Type}{P:e×d->Prop}(h:∀b a,P (b,a)):∀x,P x:=λ(b,a)=>h b a
def lS{g f e:Type}{P:g×f×e->Prop}(h:∀d b a,P (d,b,a)):∀x,P x:=λ(d,b,a)=>h d b a
def BD{m l j i g:Type}{P:m×l×j×i×g->Prop}(h:∀f e d b a,P (f,e,d,b,a)):∀x,P x:=λ(f,e,d,b,a)=>h f e d b a
def vG{o n m l j i:Type}{P:o×n×m×l×j×i->Prop}(h:∀g f e d b a,P (g,f,e,d,b,a)):∀x,P x:=λ(g,f,e,d,b,a)=>h g f e d b a
def HB{q p o n m l j:Type}{P:q×p×o×n×m×l×j->Prop}(h:∀i g f e d b a,P (i,g,f,e,d,b,a)):∀x,P x:=λ(i,g,f,e,d,b,a)=>h i g f e d b a
variable{A:UV}
structure QH(prog:UF)(w:XAE)(A:UV)(E:Y2)(s:On)(κ:SortKind)(G:SC->Prop)(r:SC->SC->Bool):Prop where
 run:∀(st:XAA)(x y:SC)(Q:Option Bool->XAA->Prop),kindOf st=κ->G x->G y->Q (some<|r x y) st->wpS `ax A E s (lt' x y) Q st
 asym:∀x y,G x->G y->r x y=true->r y x=false
 trans:∀x y z,G x->G y->G z->r y x=false->r z y=false->r z x=false
variable{κ:SortKind}
noncomputable def le(r:SC->SC->Bool)(x y:SC):Prop:=r y x=B
def eV{a:`dL}(d:`Tl)(h:Q a[i] b):wpS `ax A E s (elem' a i) Q b:=by
 rw[elem'_eq,getElem?_pos _ i d];calc ZR h
noncomputable def TL(r:SC->SC->Bool)(left:Bool)(a x:SC):Bool:=if left then r x a else !(r a x)
noncomputable def bf(left:Bool)(a:SC)(b:`dL)(i:Nat):StateT XAA Sem (Option Bool):=do
 let x <-elem' b i
 if left=J then lt' x a else do
  let l <-lt' a x
  pure (Option.map (λx=>!x) l)
def oZ(C:`bn)(e:kindOf d=κ)(j:G b)(l:∀x∈a,G x)(f:`Tl)(h:Q (Y<|TL r left b a[i]) d) :
  wpS `ax A E s (bf left b a i) Q d:=by
 calc ZQ<|eV f ?_;have g:=l _ `xiI;cases left with
 |true=>calc C.run d _ _ _ e g j h
 |false=>calc ZQ<|C.run d _ _ _ e j g<|ZR h
def mid(h:a<b):a+(b-a)/2<b:=by omega
def sea(left:Bool)(e:SC)(g:`dL)(a n d f:Nat):StateT XAA Sem `fg:=do
 let mut lo:=d
 let mut b:=f
 for _ in [0:n] do
  if lo ≥ b then break
  let m:=lo+(b-lo)/2
  let Y more <-bf left e g (a+m)|return M
  if more then lo:=m+1 else b:=m
 return Y b
section
variable{st:XAA}
def DO{prog:UF}{w:XAE}{E:Y2}{s:On}{G:SC->Prop}{r:SC->SC->Bool}{left:Bool}{key:SC}{base n:Nat}{Q:Option Nat->XAA->Prop}{f:Nat->Bool}(C:`bn){u a:Nat}(N:kindOf st=κ)(U:G key)(X:∀x∈arr,G x)(O:∀i,i<n->base+i<arr.size)(Z:∀i (a:base+i<arr.size),f i=TL r left key arr[base+i])(D:∀i j,i<=j->j<n->f j=J->f i=J)(fin:∀k,k<=n->(∀i,i<k->f i=J)->(∀i,k<=i->i<n->f i=B)->Q (Y k) st)(S:u<=a)(y:a<=n)(R:∀i,i<u->f i=J)(P:∀i,a<=i->i<n->f i=B):wpS `ax A E s (sea left key arr base n u a) Q st:=by
 refine ZQ (XD (YL
  (I:=λx c g=>st=g/\c.1=M/\c.2.1<=c.2.2/\c.2.2<=n/\(∀i,i<c.2.1->f i=J)/\(∀i,c.2.2<=i->i<n->f i=B)/\c.2.2+x<=n+c.2.1)
  (Q:=λc g=>st=g/\c.1=M/\c.2.1=c.2.2/\c.2.2<=n/\(∀i,i<c.2.1->f i=J)/\(∀i,c.2.2<=i->i<n->f i=B)) ?step ?fin ?init) ?post)
 case init=>exact{rfl,rfl,S,y,R,P,ZY y<|ZX n u}
 case fin =>
  calc lS λF d t=>?_;rintro g ⟨rfl,e1,p,b,l,h,z⟩;exact{rfl,e1,Xg p<|Nat.le_of_add_le_add_left (by rw[Uw];calc z),b,l,h}
 case step =>
  intro x;calc lS λF d t=>?_;rintro g _ hx ⟨rfl,e1,p,b,l,h,z⟩
  try dsimp only at *
  split
  .rename_i q;exact ZR {rfl,rfl,Xg p q,b,l,h}
  .rename_i q;have o:=mid `xjl;have v:d<=d+(t-d)/2:=ZX _ _;generalize d+(t-d)/2=m at o v ⊢;have hm:=O m<|Zk o b;refine ZQ<|oZ C N U X hm ?_
   try dsimp only
   rw[<-Z _ hm];cases e:f m with
   |true =>
    rw[Zp L];calc ZR {rfl,rfl,o,b,λi a=>D i _ (ZA a) (Zk o b) e,h,by grind}
   |false =>
    rw[Zn Zj];calc ZR {rfl,rfl,v,ZM<|Zk o b,l,λi a H=>?_,by grind};cases e2:f i with
    |false=>rfl
    |true=>rw[D _ i a H e2]at e;cases e
 case post =>
  calc lS λF d t=>?_;rintro g ⟨rfl,e1,p,b,l,h⟩
  try dsimp only at *
  subst e1;calc ZR<|fin t b (λi a=>l i<|p ▸ a) h
def ar1{n:Nat}(h:b<c)(g:a+b<n):a+b+1<=a+min c (n-a):=by omega
def ar2{n:Nat}(h:a<n):a+min c (n-a)<=n:=by omega
def ar3{n:Nat}(h:a+min c (n-a)<=i)(g:i<n):a+c<=i:=by omega
def ar4(h:b<c)(g:b<=a):a+1-min c (a+1)<=a-b:=by omega
def ar5(h:i<a+1-min c (a+1)):c<=a/\i<=a-c:=by omega
def ar6{n:Nat}(h:¬c ≥ n-a):a+c<n:=by omega
def ar7{n:Nat}(h:c ≥ n-a):¬a+c<n:=by omega
def ar8(h:x<c):x+1<2*c+1:=by omega
def ar9:c<2*c+1:=by omega
def yZ(C:`bn)(F:kindOf st=κ)(H:G key)(N:∀x∈arr,G x)(U:base+n<=arr.size)(u:a<n)(t:∀i j (b:base+i<arr.size) (R:base+j<arr.size),i<=j->j<n->TL r left key arr[base+j]=J->TL r left key arr[base+i]=J)(h:∀k,k<=n->(∀i (b:base+i<arr.size),i<k->TL r left key arr[base+i]=J)->(∀i (b:base+i<arr.size),k<=i->i<n->TL r left key arr[base+i]=B)->Q (Y k) st) :
  wpS `ax A E s (zw left key arr base n a) Q st:=by
 obtain⟨f,p⟩:∃f:Nat->Bool,∀i (b:base+i<arr.size),f i=TL r _ _ arr[base+i]:={λi=>if b:base+i<arr.size then TL r _ _ _ else B,λi b=>dif_pos b}
 have lt:∀i,i<n->base+i<arr.size:=λi b=>Zk (YV b _) U;have v:∀i j,i<=j->j<n->f j=J->f i=J:=λi j RL R e=>by
  have Z:=lt j R;have b1:=lt i<|ZJ RL R;rw[p j Z]at e;exact p i b1 ▸ t i j b1 Z RL R e
 have fin:∀k,k<=n->(∀i,i<k->f i=J)->(∀i,k<=i->i<n->f i=B)->Q _ st:=λk h1 h2 h3 =>
  h k h1 (λi b S=>p i b ▸ h2 i S) λi b h4 h5=>p i b ▸ h3 i h4 h5
 clear h t U;have h0:=lt _ u;calc ZQ<|oZ C F H N h0 ?_;dsimp only;rw[<-p _ h0];cases X:f _ with
 |true =>
  rw[Zp L];refine ZQ (XD (YL
   (I:=λx c g=>st=g/\c.1=M/\f `xnn=J/\c.2.1<c.2.2/\a+c.2.1<n/\x<c.2.2)
   (Q:=λc g=>st=g/\c.1=M/\f `xnn=J/\c.2.1<c.2.2/\a+c.2.1<n/\(a+c.2.2<n->f (a+c.2.2)=B)) ?step1 ?fin1 ?init1) ?post1)
  case init1=>exact{rfl,rfl,X,VR,u,(VR)}
  case fin1 =>
   calc lS λP O y=>?_;rintro g ⟨rfl,e1,m,l,d,o⟩;exact{rfl,e1,m,l,d,λz=>absurd (ZJ (XT _ _) z) `xmc}
  case step1 =>
   intro x;calc lS λP O y=>?_;rintro g _ hx ⟨rfl,e1,m,l,d,o⟩;split
   .rename_i q;exact ZR {rfl,rfl,m,l,d,λz=>absurd z<|ar7 q}
   .rename_i q;have hm:=lt _<|ar6 q;calc ZQ<|oZ C F H N hm ?_;rw[<-p _ hm];cases e:f _ with
    |true=>calc ZR {rfl,rfl,e,ar9,ar6 q,ar8 o}
    |false=>exact ZR {rfl,rfl,m,l,d,λ_=>e}
  case post1 =>
   calc lS λP O y=>?_;rintro g ⟨rfl,e1,m,l,d,o⟩;subst e1;calc DO C F H N lt p v fin (ar1 l d) (ar2 u) (λi b=>v i _ (ZA b) d m) λi b D=>?_;cases e2:f i with
   |false=>rfl
   |true =>
    have q:=ar3 b D;rw[<-o (ZJ q D),v _ i q D e2]
 |false =>
  rw[Zn Zj];refine ZQ (XD (YL
   (I:=λx c g=>st=g/\c.1=M/\f (a-c.2.1)=B/\c.2.1<c.2.2/\c.2.1<=a/\x<c.2.2)
   (Q:=λc g=>st=g/\c.1=M/\f (a-c.2.1)=B/\c.2.1<c.2.2/\c.2.1<=a/\(c.2.2<=a->f (a-c.2.2)=J)) ?step1 ?fin1 ?init1) ?post1)
  case init1=>exact{rfl,rfl,X,VR,Pr _,VR}
  case fin1 =>
   calc lS λP O y=>?_;rintro g ⟨rfl,e1,m,l,d,o⟩;exact{rfl,e1,m,l,d,λz=>absurd (ZJ z u) `xmc}
  case step1 =>
   intro x;calc lS λP O y=>?_;rintro g _ hx ⟨rfl,e1,m,l,d,o⟩;split
   .rename_i q;exact ZR {rfl,rfl,m,l,d,λz=>absurd z<|Nat.not_le_of_gt q}
   .rename_i q;have hm:=lt _<|ZJ (YX _ y) u;calc ZQ<|oZ C F H N hm ?_;rw[<-p _ hm];cases e:f _ with
    |true=>calc ZR {rfl,rfl,m,l,d,λ_=>e}
    |false=>exact ZR {rfl,rfl,e,ar9,ZA `xjl,ar8 o}
  case post1 =>
   calc lS λP O y=>?_;rintro g ⟨rfl,e1,m,l,d,o⟩;subst e1;refine DO C F H N lt p v fin (ar4 l d) (ZY (YX _ _)<|ZM u) (λi b=>?_) λi b D=>?_
   .have q:=ar5 b;exact v i _ q.2 (ZJ (YX _ _) u)<|o q.1
   .cases e2:f i with
    |false=>rfl
    |true=>rw[<-m,v _ i b D e2]
end
end TS
namespace TS
variable{A:UV}{κ:SortKind}
def QH.refl(C:`bn)(h:G x):le r x x:=by
 unfold le;cases e:r x x with
 |false=>rfl
 |true=>calc absurd (C.asym x x h h e) (by grind)
def QH.tr(C:`bn)(d:G x)(b:G y)(a:G z)(f:le r x y)(e:le r y z):le r x z:=C.trans x y z d b a f e
def QH.Rf(C:`bn)(b:G x)(a:G y)(h:r x y=J):le r x y:=C.asym x y b a h
def Seg(r:SC->SC->Bool)(a:`dL)(b e:Nat):Prop:=∀i j (d:`Tl) (f:`xdW),b<=i->i<=j->j<e->le r a[i] a[j]
def kC(C:`bn)(v:kindOf o=κ)(m:G f)(t:∀x∈b,G x)(D:a+n<=b.size)(z:l<n)(u:Seg r b a `xlw)(h:∀k,k<=n->(∀i (d:`xhD),a<=i->i<a+k->le r b[i] f)->(∀i (d:`xhD),a+k<=i->i<a+n->le r f b[i])->Q (Y k) o) :
  wpS `ax A E s (zw left f b a n l) Q o:=by
 have g:∀i (d:`xhD),G _:=λi d=>t _ `xnm;refine yZ C v m t D z (λi j d p S y e=>?_) λk O N H=>h k O (λi d q F=>?_) λi d q F=>?_
 .have s1:=u _ _ d p (by calc ZX _ _) `am `am;cases left with
  |true =>
   unfold TL at e ⊢;rw[Zp L]at e ⊢;cases e2:r _ _ with
   |true=>rfl
   |false=>rw[C.tr m (g _ d) (g _ p) e2 s1]at e;cases e
  |false =>
   unfold TL at e ⊢;rw[Zn Zj]at e ⊢;have R:r f b[a+j]=B:=by simpa using e
   have:=C.tr (g _ d) (g _ p) m s1 R;rw[this];rfl
 .have e:=N (i-a) `am `am;simp only[(by calc Ux q)]at e;cases left with
  |true =>
   unfold TL at e;rw[Zp L]at e;calc C.Rf (g _ d) m e
  |false =>
   unfold TL at e;rw[Zn Zj]at e;show r _ _=B;simpa using e
 .have e:=H (i-a) `am `am `bi;have P:a+(i-a)=i:=by lia
  simp only[P]at e;cases left with
  |true =>
   unfold TL at e;rw[Zp L]at e;calc e
  |false =>
   unfold TL at e;rw[Zn Zj]at e;calc C.Rf m (g _ d) (by simpa using e)
def vL{a:`dL}(h:x∈a.toList.drop i):∃j,∃(d:`xdW),i<=j/\a[j]=x:=by
 exists Yr h,k,b,e;grind
def mQ{a:`dL}(h:x∈({`No,i}).take k):∃j,∃(b:`xdW),i<=j/\j<i+k/\a[j]=x:=by
 exists Yr h,m,hm,e;grind
def zG{a:`dL}(h:`Tl):a.toList.drop i=a[i]::a.toList.drop `I_:=by
 have:i<⇑a.toList:=by simpa using h
 rw[YG this];simp
def ke(h:`tw):a.toList.Pairwise `xag:=by
 rw[Yf];intro i j d b e;simpa using h i j (by simpa using d) (by simpa using b) (Pr _) (by calc ZM e) (by simpa using b)
def DC(C:`bn)(f:∀x∈a,G x)(h:a.toList.Pairwise `xag):Seg r a 0 a.size:=by
 intro i j d e _ g _;obtain l|b:=VZ i j
 .have:=Yf.mp h i j (by simpa using d) (by simpa using e) l;simpa using this
 .have:i=j:=by exact Xg g b
  subst this;calc C.refl<|f _ `xnm
structure MI(r:SC->SC->Bool)(a b out:`dL)(ia ib:Nat):Prop where
 pm:(out.toList++{`xcR,ia,ib}).Perm `xeO
 so:out.toList.Pairwise `xag
 la:∀x∈out.toList,∀y∈a.toList.drop ia,le r x y
 lb:∀x∈out.toList,∀y∈b.toList.drop ib,le r x y
def MR(r:SC->SC->Bool)(a b d:`dL):Prop:=d.toList.Perm `xeO/\d.toList.Pairwise `xag
theorem MI.size{f:Nat}(m:{`xcb,MI})(h:f<=a.size)(g:e<=b.size):d.size+(a.size-f)+(b.size-e)=a.size+b.size:=by
 have:=m.pm.length_eq;simp at this;lia
def MI.Th(m:MI r a b f d l)(p:`tw)(q:∀i (o:`Tl),d<=i->i<d+k->∀j (n:`xeo),l<=j->le r a[i] b[j]) :
  MI r a b `xic (d+k) l:=by
 have e1:(`xic).toList=f.toList++({`No,d}).take k:=by
  simp_all
 have e2:a.toList.drop d=({`No,d}).take k++a.toList.drop (d+k):=List.drop_drop ▸ (Yh _ _).symm;have h:({`No,d}).Pairwise _:=(ke p).drop;rw[e2,SU]at h;refine{?_,?_,?_,?_}
 .rw[e1];have:=m.pm;rw[e2]at this;simpa[ZU] using this
 .rw[e1,SU];refine{m.so,h.1,λx e y g=>m.la x e y ?_};exact YK g
 .rw[e1];intro x e y g;obtain e|e:=Zf.mp e
  .exact m.la x e y<|e2 ▸ ZD _ g
  .exact h.2.2 x e y g
 .rw[e1];intro x e y g;obtain e|e:=Zf.mp e
  .exact m.lb x e y g
  .exists mQ e,i,o,v,u,rfl;exists vL g,j,n,t,rfl;calc q i o v u j n t
def MI.swap(m:{`xcb,MI}):MI r b a d e f :=
 {((Xu.append_left _).trans m.pm).trans Xu,m.so,m.lb,m.la}
def MI.appB(m:MI r a b e f d)(g:`Cl)(h:∀i (n:`xhD),d<=i->i<d+k->∀j (l:`xdW),f<=j->le r b[i] a[j]) :
  MI r a b (e++b.extract d (d+k)) f (d+k):=(m.swap.Th g h).swap
def CD{a b:`dL}(h:`Tl):b.push a[i]=b++a.extract i `I_:=by
 apply Array.ext';have:({`xcu,`I_}).toList=[a[i]]:=by
  have e:i<⇑a.toList:=by simpa using h
  simp[List.extract_eq_drop_take,YG e]
 simp_all
def MI.QO(m:MI r a b e d f)(l:`tw)(h:d<a.size)(n:∀j (g:`xeo),f<=j->le r a[d] b[j]):MI r a b (e.push a[d]) (d+1) f:=by
 rw[CD h];calc m.Th l λi p t q j g o=>?_;have:i=d:=by lia
 subst this;calc n j g o
def MI.RD(m:{`xcb,MI})(g:`Cl)(h:e<b.size)(i:∀j (l:`xdW),f<=j->le r b[e] a[j]):MI r a b (d.push b[e]) f (e+1):=(m.swap.QO g h i).swap
def pj{a:`dL}:({`xcu,a.size}).toList=a.toList.drop i:=by
 rw[Xm,List.extract_eq_drop_take,Yq<|by simp]
def MI.fin{f:Nat}(m:MI r a b d g f)(n:`tw)(l:`Cl)(h:g=a.size\/f=b.size):MR r a b (d++a.extract g a.size++b.extract f b.size):=by
 have e:(d++a.extract g a.size++b.extract f b.size).toList=d.toList++{`xcR,g,f}:=by
  rw[XM,XM,pj,pj,ZU]
 refine{e ▸ m.pm,?_};rw[e,SU];refine{m.so,?_,λx j y i=>?_}
 .rcases h with h|h
  .rw[YO<|by simp[h],Yd];exact(ke l).drop
  .rw[YO (as:=b.toList)<|by simp[h],ZO];exact(`xnl).drop
 .rcases Zf.mp i with i|i
  .exact m.la x j y i
  .exact m.lb x j y i
def MI.last(m:MI r a b d f i)(n:`Cl)(h:f+1=a.size)(p:∀j (o:`xeo),le r b[j] a[f]):MR r a b (d++b.extract i b.size++a.extract f a.size):=by
 have e:(d++b.extract i b.size++a.extract f a.size).toList=d.toList++(b.toList.drop i++a.toList.drop f):=by
  rw[XM,XM,pj,pj,ZU]
 have e2:a.toList.drop f=[a[f]]:=by rw[zG `bi,YO (by simp;lia)]
 refine{e ▸ (Xu.append_left _).trans m.pm,?_};rw[e,SU];refine{m.so,?_,λx l y g=>?_}
 .rw[SU];refine{(`xnl).drop,by simp_all,λx l y g=>?_};rw[e2]at g;exists vL l,j,o,_,rfl
  simp_all
 .rcases Zf.mp g with g|g
  .exact m.lb x l y g
  .exact m.la x l y g
end TS
namespace TS
variable{A:UV}{κ:SortKind}
noncomputable def nJ(a b:XAA):Prop:=kindOf b=kindOf a/\arrOf b=arrOf a/\XAB b=XAB a/\failedOf b=failedOf a
noncomputable def rQ:Nat->StateT XAA Sem Unit:=sortPriv% PySem.Builtin.setMinGallop
def i8(e:nJ d a)(h:∀b,nJ d b->Q () b):wpS `ax A E s (rQ g) Q a:=by
 calc WD<|h _ e
def i4(h:Q () a):wpS `ax A E s (liftM<|rule t) Q a:=wpS_lift<|wpAny_rule {rfl,(h)}
def aU{α:Type}{c:Prop}[Decidable c]{x y:`xfD}{Q:α->XAA->Prop}(d:`xib)(e:¬c->wpS `ax A E s y Q a) :
  wpS `ax A E s (if c then x else y) Q a:=by
 by_cases b:c
 .rw[Zp b];exact d b
 simp_all
def AD{prog:UF}{w:XAE}{E:Y2}{s:On}{α:Type}{c:Nat->Prop}[∀n,Decidable<|c n]{d a:{`xcO,Nat,α}}{Q:α->XAA->Prop}{b:XAA}(e:∀n,d n=a (n-1))(h:∀n,wpS `ax A E s (a n) Q b):∀n,wpS `ax A E s (if c n then d n else a n) Q b :=
 λn=>aU (λ_=>by rw[e];calc h _) λ_=>h n
def d5{prog:UF}{w:XAE}{E:Y2}{s:On}{α:Type}{a:`dL}{i:Nat}{c:SC->Prop}[∀v,Decidable<|c v]{x y:{`xcO,SC,α}}{Q:α->XAA->Prop}{b:XAA}(e:`Tl)(d:c a[i]->wpS `ax A E s (x a[i]) Q b)(f:¬c a[i]->wpS `ax A E s (y a[i]) Q b) :
  wpS `ax A E s (elem' a i >>= λv=>if c v then x v else y v) Q b:=ZQ<|eV e<|aU d f
def CB{α:Type}{c d:Prop}[Decidable c][Decidable d]{x y z:`xfD}{Q:α->XAA->Prop}(g:`xib)(f:¬c->d->wpS `ax A E s y Q a)(b:¬c->¬d->wpS `ax A E s z Q a) :
  wpS `ax A E s (if c then x else if d then y else z) Q a:=aU g λe=>aU (f e)<|b e
def nH{α β:Type}{a:`dL}{m:{`xcO,SC,β}}{f:SC->β->StateT XAA Sem α}{Q:α->XAA->Prop}(d:`Tl)(h:wpS `ax A E s (m a[i]) (λv e=>wpS `ax A E s (f a[i] v) Q e) b) :
  wpS `ax A E s (elem' a i >>= λu=>m u >>= λv=>f u v) Q b:=ZQ<|eV d<|ZQ h
structure MC(G:SC->Prop)(r:SC->SC->Bool)(a b:`dL):Prop where
 ga:∀x∈a,G x
 gb:∀x∈b,G x
 sa:Seg r a 0 a.size
 sb:Seg r b 0 b.size
 na:0<a.size
 nb:0<b.size
 first:le r b[0] a[0]
 last:∀j (hj:`xeo),le r b[j] a[a.size-1]
def MC.Tw(M:`xeJ)(f:`Tl)(h:i+1=a.size):∀j (d:`xeo),le r b[j] a[i]:=by
 intro j d;have:=M.last j d;have e:a.size-1=i:=by lia
 simpa[e] using this
def MC.bA(C:`bn)(M:`xeJ)(f:`Tl)(g:`xeo)(h:le r b[j] a[i]):∀k (d:k<a.size),i<=k->le r b[j] a[k]:=λk d e =>
 C.tr (M.gb _<|ZS g) (M.ga _ `xiI) (M.ga _ `xnm) h (M.sa i k f d (Pr _) e d)
def MC.aB(C:`bn)(M:`xeJ)(g:`Tl)(f:`xeo)(h:le r a[i] b[j]):∀k (d:k<b.size),j<=k->le r a[i] b[k]:=λk d e =>
 C.tr (M.ga _<|ZS g) (M.gb _ `xiI) (M.gb _ `xnm) h (M.sb j k f d (Pr _) e d)
def oV(h:`tw)(e f:Nat):Seg r a e f:=λi j b d m g l=>h i j b d (Pr _) g d
structure LI(st:XAA)(r:SC->SC->Bool)(a b:`dL)(n:Nat)(c:`xhg)(o:`dL)(i j:Nat)(gV:XAA):Prop where
 kp:nJ st gV
 e:c=none
 m:MI r a b o i j
 qa:i+1<a.size
 qb:j<b.size
 qo:n<o.size
abbrev LQ(d:XAA)(r:SC->SC->Bool)(a b:`dL)(n:Nat)(c:`xhg)(o:`dL)(i j:Nat)(e:XAA):Prop:=(∃res,nJ d e/\c=Y res/\MR r a b res)\/LI d r a b n c o i j e
def pE{α β γ:Type}{c:α->β->Prop}{_:∀o i,Decidable<|c o i}{x F:α->β->StateT XAA Sem γ}{Q:γ->XAA->Prop}{j g f e d b:α->β->Prop}(P:α->β->Prop)(l:∀o i,P o i->wpS `ax A E s (F o i) Q a)(y:(∀o i,P o i->wpS `ax A E s (F o i) Q a)->∀o i,j o i->g o i->f o i->e o i->d o i->b o i->c o i->wpS `ax A E s (x o i) Q a)(h:∀o i,j o i->g o i->f o i->e o i->d o i->b o i->¬c o i->P o i) :
  ∀o i,j o i->g o i->f o i->e o i->d o i->b o i->wpS `ax A E s (if c o i then x o i else F o i) Q a :=
 λo i v u t q p m=>aU (y l o i v u t q p m) λn=>l o i<|h o i v u t q p m n
def MU(C:`bn)(hk:kindOf v=κ)(M:`xeJ)(h:∀res f,nJ v f->MR r a b res->Q res f) :
  wpS `ax A E s (D5 a b) Q v:=by
 have hna:=M.na;have hnb:=M.nb;calc ZQ<|i4 ?_;have m0:MI r a b #[] 0 0:={by simp,by simp,by simp,by simp}
 have m1:=m0.RD M.sb M.nb λj q _=>M.bA C M.na M.nb M.first j q<|Pr _;have Z6:nJ v v:={rfl,rfl,rfl,(rfl)}
 refine d5 M.nb (λe=>?_) λe1=>?_
 .exact ZR (h _ _ Z6<|m1.fin M.sa M.sb<|.inr<|by simpa using e)
 refine aU (λe=>?_) λe2=>?_
 .exact ZR (h _ _ Z6<|m1.last M.sb (by simpa using e)<|M.Tw M.na<|by simpa using e)
 calc ZQ<|VI ?_;refine ZQ (XD (YL
  (I:=λx c f=>LI v r a b x c.1 c.2.1 c.2.2.1 c.2.2.2.1 f)
  (Q:=λc f=>nJ v f/\∃res,c.1=Y res/\MR r a b res) ?step ?fin ?init) ?post)
 case init=>exact{Z6,rfl,m1,`am,`am,by simp}
 case fin =>
  calc BD λN out n p mg f d=>?_;have l:=d.qa;have z:=d.qo;have:=d.m.size `am (by calc ZM d.qb);lia
 case post =>
  calc BD λN out n p mg=>?_;rintro f ⟨kp,res,q1,l⟩;subst q1;exact ZR<|h _ _ kp l
 case step =>
  intro x;calc BD λN out n p mg f _ hx d=>?_;refine ZQ (XD (YL
   (I:={`xaH,x+y})
   (Q:=`xaj) ?step2 ?fin2 ?init2) ?post2)
  case init2=>exact{d.kp,rfl,d.m,d.qa,d.qb,(d.qo)}
  case fin2 =>
   calc vG λN out n p ac bc f d=>?_;exact .inr ⟨d.kp,d.e,d.m,d.qa,d.qb,by have z:=d.qo;clear d;(try dsimp only);lia⟩
  case step2 =>
   intro y;calc vG λN out n p ac bc f _ hy d=>?_;have kp:=d.kp;have m:=d.m;have l:=d.qa;have g:=d.qb;have z:=d.qo;clear d;have t:n<a.size:=by exact Xk l
   have gA:=M.ga _<|ZS t;have gB:=M.gb _<|ZS g;calc nH g<|eV t ?_;calc ZQ<|C.run _ _ _ _ `xnk gB gA ?_;dsimp only;cases e:r _ _ with
   |true =>
    rw[Zp L];have D:=m.RD M.sb g<|M.bA C t g<|C.Rf gB gA e;refine d5 g (λe3=>?_) λe3=>?_
    .exact ZR<|Or.inl {_,kp,rfl,D.fin M.sa M.sb<|.inr<|by simpa using e3}
    .have F:p+1<b.size:=by lia
     refine aU (λ_=>?_) λ_=>?_
     .exact ZR<|Or.inr {kp,rfl,D,l,F,by simp;lia}
     .exact ZR {kp,rfl,D,l,F,by simp;lia}
   |false =>
    rw[Zn Zj];have D:=m.QO M.sa t<|M.aB C t g e;refine d5 t (λe3=>?_) λe3=>?_
    .exact ZR<|Or.inl {_,kp,rfl,D.last M.sb (by simpa using e3)<|M.Tw `bi<|by simpa using e3}
    .have F:n+1+1<a.size:=by lia
     refine aU (λ_=>?_) λ_=>?_
     .exact ZR<|Or.inr {kp,rfl,D,F,g,by simp;lia}
     .exact ZR {kp,rfl,D,F,g,by simp;lia}
  case post2 =>
   calc vG λN out n p ac bc=>?_;rintro f (⟨res,kp,q1,l⟩|d)
   .subst q1;exact ZR {kp,_,rfl,(l)}
   .obtain rfl:N=none:=d.e;calc ZQ<|i4 ?_;refine ZQ (XD (YL
     (I:={`xaH,x+1})
     (Q:=`xaj) ?step3 ?fin3 ?init3) ?post3)
    case init3=>exact d
    case fin3 =>
     calc vG λN out n p ac bc f d=>?_;exact .inr d
    case post3 =>
     calc HB λN out n p mg ac bc=>?_;rintro f (⟨res,kp,q1,l⟩|d)
     .subst q1;exact ZR {kp,_,rfl,(l)}
     .obtain rfl:N=none:=d.e;exact ZQ<|i8 d.kp λQY u=>ZR {u,rfl,d.m,d.qa,d.qb,(d.qo)}
    case step3 =>
     intro y;calc HB λN out n p mg ac bc f _ hy d=>?_;have kp:=d.kp;have m:=d.m;have l:=d.qa;have g:=d.qb;have z:=d.qo;clear d;dsimp only at *;revert mg;calc AD (λ_=>rfl) λmg2=>?_;refine(λhF=>ZQ<|i8 kp λQY u=>hF _ u) λQY u=>?_;have gB:=M.gb _<|ZS g;calc nH g<|kC C `xoi gB M.ga `am (by calc Vp<|by calc Xk l) (oV M.sa _ _) λk Ub Rx Z=>?_;revert out n;refine pE (λo i=>MI r a b o i p/\i+1<a.size/\x+1<o.size/\∀j q,i<=j->le r _ _) (λout n d=>?_) (λtail out n m l z Ub Rx Z e5=>?_) λout n m l z Ub Rx Z e5=>{m,l,z,λj q h=>Z j q `am `am}
     .refine ai λP_ k_=>?_;ext d m l z Z;calc k_ ?_;have QJ:=Xk l;have O:=m.RD M.sb g Z;refine d5 g (λe4=>?_) λe4=>?_
      .exact ZR<|Or.inl {_,u,rfl,O.fin M.sa M.sb<|.inr<|by simpa using e4}
      have UP:p+1<b.size:=by lia
      have U:x+1<(out.push b[p]).size/\p+1<=p+1:=by rw[WE];exact{Rz z,Zq _}
      calc nH QJ<|kC C `xoi (M.ga _<|ZS QJ) M.gb `am (by calc Vp UP) (oV M.sb _ _) λk2 P Rg S=>?_;generalize out.push _=o1 at O U ⊢;generalize p+1=j1 at U O UP P Rg S ⊢;revert o1 j1;refine pE (λo j=>MI r a b o n j/\j<b.size/\x+1<o.size/\∀i H,j<=i->le r _ _) (λout p d=>?_) (λtail o1 j1 U O UP P Rg S e5=>?_) λo1 j1 U O UP P Rg S e5=>{O,UP,U.1,λi H h=>S i H `am `am}
      .refine ai λP_ k_=>?_;ext d m g z S;calc k_ ?_;have m5:=m.QO M.sa QJ S;refine d5 QJ (λX=>?_) λX=>?_
       .exact ZR<|Or.inl {_,u,rfl,m5.last M.sb (by simpa using X)<|M.Tw `bi<|by simpa using X}
       have e8:n+1+1<a.size:=by lia
       have q6:x+1<(out.push a[n]).size:=by rw[WE];exact Rz z
       exact aU (λ_=>ZR<|Or.inr {u,rfl,m5,e8,g,(q6)}) λ_=>ZR {u,rfl,m5,e8,g,(q6)}
      .have m4:=O.appB M.sb<|λi H h1 h2 j q h3=>C.tr (M.gb _<|ZS H) (M.ga _<|ZS QJ) (M.ga _<|ZS q) (Rg i H h1 h2)<|M.sa _ j QJ q (Pr _) h3 q;refine aU (λR=>?_) λR=>?_
       .exact ZR<|Or.inl {_,u,rfl,m4.fin M.sa M.sb<|.inr<|by simpa using R}
       .exact tail _ _ {m4,by lia,Vg ▸ Zk U.1 (ZX _ _),λi H h=>S i H h `am}
     .have D:=m.Th M.sa<|λi H h1 h2 j q h3=>C.tr (M.ga _<|ZS H) gB (M.gb _<|ZS q) (Rx i H h1 h2)<|M.sb _ j g q (Pr _) h3 q;refine CB (λR=>?_) (λR X=>?_) λR X=>?_
      .exact ZR<|Or.inl {_,u,rfl,D.last M.sb (by simpa using R)<|M.Tw `am<|by simpa using R}
      .exact ZR<|Or.inl {_,u,rfl,D.fin M.sa M.sb<|.inl<|by simpa using X}
      .exact tail _ _ {D,by lia,Vg ▸ Zk z (ZX _ _),λj q h=>Z j q h `am}
end TS
namespace TS
variable{A:UV}{κ:SortKind}
def DW{a:`dL}(h:x∈a.toList.take n):∃j,∃(b:`xdW),j<n/\a[j]=x:=by
 exists Yr h,m,hm,e;rw[Xr]at hm;rw[X9]at e;have:m<a.size:=by grind
 exact{m,this,by lia,by simpa using e}
structure HI(r:SC->SC->Bool)(a b out:`dL)(na nb:Nat):Prop where
 pm:(a.toList.take na++(b.toList.take nb++out.toList.reverse)).Perm `xeO
 so:out.toList.reverse.Pairwise `xag
 la:∀x∈out.toList,∀y∈a.toList.take na,le r y x
 lb:∀x∈out.toList,∀y∈b.toList.take nb,le r y x
theorem HI.size{f:Nat}(m:{`xcb,HI})(h:f<=a.size)(g:e<=b.size):d.size+f+e=a.size+b.size:=by
 have:=m.pm.length_eq;simp at this;lia
def HI.Th(m:HI r a b d f l)(n:`tw)(o:k<=f)(t:∀i (q:`Tl),k<=i->i<f->∀j (p:`xeo),j<l->le r b[j] a[i]) :
  HI r a b `xai k l:=by
 have e1:(`xai).toList.reverse=({`No,k}).take (f-k)++d.toList.reverse:=by
  simp_all
 have e2:a.toList.take f=a.toList.take k++({`No,k}).take (f-k):=by
  rw[<-Yh k `xlv,List.take_take,List.drop_take,YJ o]
 have h:(`xlv).Pairwise _:=(`xnl).take;rw[e2,SU]at h;have mem:∀x,x∈(`xai).toList->x∈d.toList\/x∈({`No,k}).take (f-k):=λx e=>by
  simp_all
 refine{?_,?_,?_,?_}
 .rw[e1];have:=m.pm;rw[e2]at this;calc List.Perm.trans ?_ this;rw[ZU];calc List.Perm.append_left _ ?_;rw[<-ZU,<-ZU];exact List.Perm.append_right _ Xu
 .rw[e1,SU];refine{h.2.1,m.so,λx e y g=>m.la y (WT.mp g) x ?_}
  simp_all
 .intro x e y g;obtain e|e:=mem x e
  .exact m.la x e y (by simp_all)
  .exact h.2.2 y g x e
 .intro x e y g;obtain e|e:=mem x e
  .exact m.lb x e y g
  .exists mQ e,i,q,z,v,rfl;exists DW g,j,p,u,rfl
   simp_all
def HI.swap(m:{`xcb,HI}):HI r b a d e f:=by
 refine{?_,m.so,m.lb,m.la};calc List.Perm.trans ?_<|m.pm.trans Xu;rw[<-ZU,<-ZU];calc List.Perm.append_right _ Xu
def HI.appB(m:{`xcb,HI})(g:`Cl)(l:k<=e)(h:∀i (o:`xhD),k<=i->i<e->∀j (n:`xdW),j<f->le r a[j] b[i]) :
  HI r a b (d++(b.extract k e).reverse) f k:=(m.swap.Th g l h).swap
def CY{a b:`dL}(h:`Tl):b.push a[i]=b++({`xcu,`I_}).reverse:=by
 apply Array.ext';have:({`xcu,`I_}).toList=[a[i]]:=by
  have e:i<⇑a.toList:=by simpa using h
  simp[List.extract_eq_drop_take,YG e]
 simp_all
def HI.QO(m:HI r a b f d g)(n:`tw)(v:0<d)(h:d-1<a.size)(o:∀j (l:`xeo),j<g->le r b[j] a[d-1]):HI r a b (f.push a[d-1]) (d-1) g:=by
 rw[CY h];have e:d-1+1=d:=by lia
 rw[e];calc m.Th n (by calc YX _ _) λi q u t j l p=>?_;have:i=d-1:=by lia
 subst this;calc o j l p
def HI.RD(m:HI r a b e f d)(g:`Cl)(l:0<d)(h:d-1<b.size)(i:∀j (n:`xdW),j<f->le r a[j] b[d-1]):HI r a b (e.push b[d-1]) f (d-1):=(m.swap.QO g l h i).swap
def HI.fin{f:Nat}(m:HI r a b d g f)(n:`tw)(l:`Cl)(h:g=0\/f=0):MR r a b (a.extract 0 g++b.extract 0 f++d.reverse):=by
 have e:(a.extract 0 g++b.extract 0 f++d.reverse).toList=a.toList.take g++(b.toList.take f++d.toList.reverse):=by
  simp_all
 refine{e ▸ m.pm,?_};rw[e,<-ZU,SU];refine{?_,m.so,λx i y j=>?_}
 .rcases h with h|h
  .subst h;rw[List.take_zero,Yd];exact(ke l).take
  .subst h;rw[List.take_zero,ZO];exact(`xnl).take
 .rcases Zf.mp i with i|i
  .exact m.la y (WT.mp j) x i
  .exact m.lb y (WT.mp j) x i
def HI.first(m:HI r a b d i g)(n:`tw)(h:g=1)(p:0<b.size)(q:∀j (o:`xdW),le r b[0] a[j]):MR r a b (b.extract 0 g++a.extract 0 i++d.reverse):=by
 have e:(b.extract 0 g++a.extract 0 i++d.reverse).toList=b.toList.take g++(a.toList.take i++d.toList.reverse):=by
  simp_all
 have e2:b.toList.take g=[b[0]]:=by
  subst h;have:=zG p;rw[Vw]at this;rw[this];rfl
 refine{?_,?_}
 .exact e ▸ m.swap.pm.trans Xu
 rw[e,<-ZU,SU];refine{?_,m.so,λx f y l=>?_}
 .rw[SU];refine{by simp_all,(`xnl).take,λx f y l=>?_};rw[e2]at f;exists DW l,j,o,_,rfl
  simp_all
 .rcases Zf.mp f with f|f
  .exact m.lb y (WT.mp l) x f
  .exact m.la y (WT.mp l) x f
def MC.R8(C:`bn)(M:`xeJ):∀j (d:`xdW),le r (b[0]'M.nb) a[j]:=λj d=>M.bA C M.na M.nb M.first j d<|Pr _
structure HJ(st:XAA)(r:SC->SC->Bool)(a b:`dL)(n:Nat)(c:`xhg)(na nb:Nat)(o:`dL)(gV:XAA):Prop where
 kp:nJ st gV
 e:c=none
 m:HI r a b o na nb
 qa:0<na
 qb:na<=a.size
 qc:1<nb
 qd:nb<=b.size
 qo:n<o.size
abbrev HQ(d:XAA)(r:SC->SC->Bool)(a b:`dL)(n:Nat)(c:`xhg)(g f:Nat)(o:`dL)(e:XAA):Prop:=(∃res,nJ d e/\c=Y res/\MR r a b res)\/HJ d r a b n c g f o e
def L5(C:`bn)(hk:kindOf v=κ)(M:`xeJ)(h:∀res g,nJ v g->MR r a b res->Q res g) :
  wpS `ax A E s (D1 a b) Q v:=by
 have hna:=M.na;have hnb:=M.nb;have hl0:a.size-1<a.size:=by omega
 calc ZQ<|i4 ?_;have m0:HI r a b #[] a.size b.size:={by simp[Yq],by simp,by simp,by simp}
 have m1:=m0.QO M.sa hna hl0 λj f _=>M.last j f;have Z6:nJ v v:={rfl,rfl,rfl,(rfl)}
 refine d5 hl0 (λe=>?_) λe1=>?_
 .exact ZR (h _ _ Z6<|m1.fin M.sa M.sb<|.inl<|by simpa using e)
 refine aU (λe=>?_) λe2=>?_
 .exact ZR<|h _ _ Z6<|m1.first M.sa (by simpa using e) M.nb `xku
 calc ZQ<|VI ?_;refine ZQ (XD (YL
  (I:=λx c g=>HJ v r a b (x) c.1 c.2.1 c.2.2.1 c.2.2.2.1 g)
  (Q:=λc g=>nJ v g/\∃res,c.1=Y res/\MR r a b res) ?step ?fin ?init) ?post)
 case init=>exact{Z6,rfl,m1,(by simp at e1;calc Yx e1),by(try dsimp only);calc YX _ _,`am,Zq _,by simp}
 case fin =>
  calc BD λH na nb out mg g d=>?_;have P:=d.qb;have O:=d.qd;have z:=d.qo;have:=d.m.size `bi `bi;lia
 case post =>
  calc BD λH na nb out mg=>?_;rintro g ⟨kp,res,Z,u⟩;subst Z;exact ZR<|h _ _ kp u
 case step =>
  intro x;calc BD λH na nb out mg g _ hx d=>?_;refine ZQ (XD (YL
   (I:={`xaG,x+y})
   (Q:=`xah) ?step2 ?fin2 ?init2) ?post2)
  case init2=>exact{d.kp,rfl,d.m,d.qa,d.qb,d.qc,d.qd,(d.qo)}
  case fin2 =>
   calc vG λH na nb out ac bc g d=>?_;exact .inr ⟨d.kp,d.e,d.m,d.qa,d.qb,d.qc,d.qd,by have z:=d.qo;clear d;(try dsimp only);lia⟩
  case step2 =>
   intro y;calc vG λH na nb out ac bc g _ hy d=>?_;have kp:=d.kp;have m:=d.m;have u:=d.qa;have P:=d.qb;have p:=d.qc;have O:=d.qd;have z:=d.qo;clear d;have l:na-1<a.size:=by lia
   have q:nb-1<b.size:=by lia
   have gA:=M.ga _<|ZS l;have U:=M.gb _<|ZS q;calc nH q<|eV l ?_;calc ZQ<|C.run _ _ _ _ `xnk U gA ?_;dsimp only;cases e:r _ _ with
   |true =>
    rw[Zp L];have F:=m.QO M.sa u l<|λj f hjn=>C.tr (M.gb _ `xiI) U gA (M.sb j _ f q (Pr _) `am q)<|C.Rf U gA e;refine d5 l (λe3=>?_) λe3=>?_
    .exact ZR<|Or.inl {_,kp,rfl,F.fin M.sa M.sb<|.inl<|by simpa using e3}
    .have D:0<na-1:=by simp at e3;exact Yx e3
     refine aU (λ_=>?_) λ_=>?_
     .exact ZR<|Or.inr {kp,rfl,F,D,by(try dsimp only);calc ZM l,p,O,by simp;lia}
     .exact ZR {kp,rfl,F,D,by(try dsimp only);calc ZM l,p,O,by simp;lia}
   |false =>
    rw[Zn Zj];have F:=m.RD M.sb `xnj q<|λj f hjn=>C.tr (M.ga _ `xiI) gA U (M.sa j _ f l (Pr _) `am l) e;refine d5 q (λe3=>?_) λe3=>?_
    .exact ZR<|Or.inl {_,kp,rfl,F.first M.sa (by simpa using e3) M.nb `xku}
    .have D:1<nb-1:=by lia
     refine aU (λ_=>?_) λ_=>?_
     .exact ZR<|Or.inr {kp,rfl,F,u,P,D,by(try dsimp only);calc ZM q,by simp;lia}
     .exact ZR {kp,rfl,F,u,P,D,by(try dsimp only);calc ZM q,by simp;lia}
  case post2 =>
   calc vG λH na nb out ac bc=>?_;rintro g (⟨res,kp,Z,u⟩|d)
   .subst Z;exact ZR {kp,_,rfl,(u)}
   .obtain rfl:H=none:=d.e;calc ZQ<|i4 ?_;refine ZQ (XD (YL
     (I:={`xaG,x+1})
     (Q:=`xah) ?step3 ?fin3 ?init3) ?post3)
    case init3=>exact d
    case fin3 =>
     calc vG λH na nb out ac bc g d=>?_;exact .inr d
    case post3 =>
     calc HB λH na nb out mg ac bc=>?_;rintro g (⟨res,kp,Z,u⟩|d)
     .subst Z;exact ZR {kp,_,rfl,(u)}
     .obtain rfl:H=none:=d.e;exact ZQ<|i8 d.kp λQY t=>ZR {t,rfl,d.m,d.qa,d.qb,d.qc,d.qd,(d.qo)}
    case step3 =>
     intro y;calc HB λH na nb out mg ac bc g _ hy d=>?_;have kp:=d.kp;have m:=d.m;have u:=d.qa;have P:=d.qb;have p:=d.qc;have O:=d.qd;have z:=d.qo;clear d;dsimp only at *;revert mg;calc AD (λ_=>rfl) λmg2=>?_;refine(λhF=>ZQ<|i8 kp λQY t=>hF _ t) λQY t=>?_;have q:nb-1<b.size:=by lia
     have U:=M.gb _<|ZS q;calc nH q<|kC C `xoh U M.ga `am `am (oV M.sa _ _) λk Ub Rx UO=>?_;have hw:=And.intro u P;clear u P;dsimp only;generalize hac:na-k=a1;revert na out;refine pE (λna out=>HI r a b _ na nb/\(0<na/\na<=a.size)/\x+1<out.size/\∀j f,j<na->le r _ _) (λna out d=>?_) (λtail na out m z Ub UO hw hac e5=>?_) λna out m z Ub UO hw hac e5=>{m,hw,z,λj f h=>Rx j f (Pr _) `am}
     .refine ai λP_ k_=>?_;ext d m ⟨hA0,P⟩ z Rx;calc k_ ?_;have l:na-1<a.size:=by lia
      have R:=m.RD M.sb `xnj q Rx;refine d5 q (λe4=>?_) λe4=>?_
      .exact ZR<|Or.inl {_,t,rfl,R.first M.sa (by simpa using e4) M.nb `xku}
      have UP:1<nb-1/\nb-1<=b.size:=by lia
      have p:x+1<(out.push b[nb-1]).size/\nb-1<=nb-1:=by rw[WE];exact{Rz z,Zq _}
      calc nH l<|kC C `xoh (M.ga _<|ZS l) M.gb `am `am (oV M.sb _ _) λk2 S Rg Rm=>?_;dsimp only;generalize out.push _=o1 at R p ⊢;generalize nb-1=n1 at p R UP S Rm ⊢;generalize N:n1-k2=b1;revert o1 n1;refine pE (λo n=>HI r a b o na n/\(1<n/\n<=b.size)/\x+1<o.size/\∀j f,j<n->le r _ _) (λout nb d=>?_) (λtail o1 n1 p R UP S Rm N e5=>?_) λo1 n1 p R UP S Rm N e5=>{R,UP,p.1,λj f h=>Rg j f (Pr _) `am}
      .refine ai λP_ k_=>?_;ext d m ⟨p,O⟩ z Rg;calc k_ ?_;have m5:=m.QO M.sa hA0 l Rg;refine d5 l (λX=>?_) λX=>?_
       .exact ZR<|Or.inl {_,t,rfl,m5.fin M.sa M.sb<|.inl<|by simpa using X}
       have e8:0<na-1:=by simp at X;exact Yx X
       have q7:x+1<(out.push a[na-1]).size:=by rw[WE];exact Rz z
       exact aU (λ_=>ZR<|Or.inr {t,rfl,m5,e8,ZM l,p,O,q7}) λ_=>ZR {t,rfl,m5,e8,ZM l,p,O,q7}
      .have m4:=R.appB M.sb `bi<|λi hi h1 h2 j f h3=>C.tr (M.ga _ `xiI) (M.ga _<|ZS l) (M.gb _<|ZS hi) (M.sa j _ f l (Pr _) `am l)<|Rm i hi `am `am;refine aU (λe6=>?_) λe6=>?_
       .exact ZR<|Or.inl {_,t,rfl,m4.first M.sa (by simpa using e6) M.nb `xku}
       refine aU (λe8=>?_) λe8=>?_
       .exact ZR<|Or.inl {_,t,rfl,m4.fin M.sa M.sb<|.inr<|by simpa using e8}
       .exact tail _ _ {m4,by lia,Vg ▸ Zk p.1 (ZX _ _),λj f h=>Rg j f (Pr _) `am}
     .have F:=m.Th M.sa `bi<|λi hi h1 h2 j f h3=>C.tr (M.gb _ `xiI) U (M.ga _<|ZS hi) (M.sb j _ f q (Pr _) `am q)<|UO i hi `am `am;refine aU (λX=>?_) λX=>?_
      .exact ZR<|Or.inl {_,t,rfl,F.fin M.sa M.sb<|.inl<|by simpa using X}
      .exact tail _ _ {F,by lia,Vg ▸ Zk z (ZX _ _),λj f h=>Rx j f (Pr _) `am}
end TS
namespace TS
variable{A:UV}{κ:SortKind}
noncomputable def K(a:`dL)(i:Nat):Keyed:=(a[i]?).getD (.none,.none)
def CS{a:`dL}(h:`Tl):K a i=a[i]:=by unfold K;rw[getElem?_pos a i h];rfl
def Sg(r:SC->SC->Bool)(a:`dL)(b d:Nat):Prop:=∀i j,b<=i->i<=j->j<d->le r (K a i) (K a j)
def Ds(r:SC->SC->Bool)(a:`dL)(b d:Nat):Prop:=∀i j,b<=i->i<=j->j<d->le r (K a j) (K a i)
def oG{a:`dL}(b:j<=a.size)(k:Nat):K (mirror a i j<|(j-i)/2) k=if i<=k/\k<j then K a (i+j-1-k) else K a k:=by
 unfold K;rw[getElem?_mirror_all b];split<;>rfl
def Iz{b:`dL}(e:a<b.size)(f:d<=a)(k:Nat):K (bubble b a d) k=if k=a-d then K b a else if a-d<k/\k<=a then K b (k-1) else K b k:=by
 unfold K;rw[getElem?_bubble e d f];split
 .rfl
 .split<;>rfl
structure Lc(lo:Nat)(PY st:XAA):Prop where
 kind:kindOf st=kindOf PY
 pend:XAB st=XAB PY
 fail:failedOf st=failedOf PY
 perm:(`xhf).Perm (arrOf PY)
 pre:∀j,j<lo->`xhf[j]?=(arrOf PY)[j]?
theorem Lc.refl(b:Nat)(a:XAA):Lc b a a:={rfl,rfl,rfl,Array.Perm.refl _,λ_ _=>rfl}
theorem Lc.size(L:Lc d b a):(`Tc).size=(`c_).size:=L.perm.size_eq
def Lc.good{G:SC->Prop}{e:Nat}{b a:XAA}(L:Lc e b a)(g:∀x∈arrOf b,G x){i:Nat}(d:i<(`c_).size):G (K `Tc i):=by
 rw[CS<|L.size ▸ d];calc g _ ?_;have:`Tc[i]'(L.size ▸ d)∈(`Tc).toList:=by simp
 have:=(Wv.mp L.perm).mem_iff.mp this;simpa using this
def Lc.arr(L:Lc d f a){b:`dL}(h:b.Perm `Tc)(g:∀j,j<d->b[j]?=`Tc[j]?):Lc d f (setArr a b) :=
 {L.kind,L.pend,L.fail,h.trans L.perm,λj e=>(g j e).trans<|L.pre j e}
def Lc.mir(L:Lc b d a){i:Nat}(g:b<=i)(e:j<=(`xfj).size):Lc b d (setArr a<|mirror `Tc i j<|(j-i)/2) :=
 L.arr (mirror_perm _ _ _ _) λk f=>by rw[getElem?_mirror_all<|L.size ▸ e,Zn `am]
def nZ(C:`bn)(p:kindOf d=κ)(g:∀x∈arrOf d,G x)(L:Lc o d a)(f:i<(`xfj).size)(e:j<(`xfj).size)(h:Q (Y<|r (K `Tc i)<|K `Tc j) a):wpS `ax A E s (ltAt' i j) Q a:=by
 have m:=L.good g f;have l:=L.good g e;have b:=L.size ▸ f;have n:=L.size ▸ e;rw[ltAt'_eq];calc ZQ<|VI ?_;calc ZQ<|eV b<|ZQ<|eV n ?_;rw[CS b]at m h;rw[CS n]at l h;calc C.run a _ _ _ (L.kind.trans p) m l h
def Ds.mir(C:`bn){i:Nat}(D:Ds r f g e)(j:∀k,k<e->G (K f k))(t:g<=i)(m:e<=f.size)(o:∀k,i<=k->k<e->le r (K f k) (K f<|e-1)) :
  Ds r (mirror f i e<|(e-i)/2) g e:=λp q l h n=>by
 rw[oG m,oG m];split
 .split
  .exact(λu v a b c d=>C.tr (j u b) (j _ `am) (j v d) (o u a b)<|D v _ (by calc ZY t c) `am `am) _ _ `bi `bi `am `bi
  .exact D p _ l `am `bi
 .split
  .lia
  .exact D p q l h n
def mi1(h:1<=b):a+b-1-(b-1)=a:=by rw[Vl h,Vy]
def Ds.rev(D:Ds r e d b)(f:b<=e.size):Sg r (mirror e d b<|(b-d)/2) d b:=λp q h a g=>by
 rw[oG f,oG f,Zp {h,by calc ZJ a g},Zp {by calc ZY h a,g}];calc D _ _ `bi (VC a _) (by(clear a f;omega))
def Sg.snoc(C:`bn)(S:Sg r b a `xlw)(d:∀k,k<=a+n->G (K b k))(m:1<=n)(h:le r (K b<|a+n-1)<|K b `xlw):Sg r b a (a+n+1):=λi j f g l=>by
 by_cases e:j<a+n
 .exact S i j f g e
 .have:j=a+n:=by lia
  subst this;by_cases e2:i=a+n
  .subst e2;exact C.refl<|d _<|Zq _
  .exact C.tr (d i `bi) (d _<|by calc YX _ _) (d _<|Zq _) (S i _ f `am `bi) h
def Ds.snoc(C:`bn)(S:Ds r b a `xlw)(d:∀k,k<=a+n->G (K b k))(m:1<=n)(h:le r (K b `xlw)<|K b<|a+n-1):Ds r b a (a+n+1):=λi j f g l=>by
 by_cases e:j<a+n
 .exact S i j f g e
 .have:j=a+n:=by lia
  subst this;by_cases e2:i=a+n
  .subst e2;exact C.refl<|d _<|Zq _
  .exact C.tr (d _<|Zq _) (d _<|by calc YX _ _) (d i `bi) h<|S i _ f `am `bi
def o5{i:Nat}(h:Q ()<|setArr a<|mirror `Tc i j<|(j-i)/2):wpS `ax A E s (reverseSlice' i j) Q a:=by
 rw[reverseSlice'_eq];calc WD h
def vF{α:Type}{c:Prop}[Decidable c]{x R:`xfD}{Q:α->XAA->Prop}{P:XAA->Prop}(D:∀a,P a->wpS `ax A E s R Q a)(d:¬c->P b)(e:c->(∀a,P a->wpS `ax A E s R Q a)->wpS `ax A E s x Q b):wpS `ax A E s (if c then x else R) Q b :=
 aU (λz=>e z D) λz=>D b<|d z
def K8(C:`bn)(o:kindOf F=κ)(g:∀x∈arrOf F,G x)(h0:1<=n)(hn:a+n<=(arrOf F).size)(h:∀m b,Lc a F b->1<=m->m<=n->Sg r `c_ a (a+m)->Q (Y m) b):wpS `ax A E s (countRun' a n) Q F:=by
 have L0:=Lc.refl a F;have s0:Sg r _ a _:=λi j p t h3=>by
  rw[(Xg (ZY t<|ZA h3) p),(Xg (ZA h3)<|ZY p t)];exact C.refl<|L0.good g<|Zk (Vc h0) hn
 refine ZQ (XD (YL
  (I:=λx c b=>Lc a F b/\c.1=M/\c.2=x/\1<=x/\Sg r `c_ a (a+x))
  (Q:=λc b=>Lc a F b/\c.1=M/\1<=c.2/\c.2<=n/\Sg r `c_ a (a+c.2)/\(c.2<n->r {`xbj,c.2} (K `c_<|a+c.2-1)=J)) ?stepA ?finA ?initA) ?postA)
 case initA=>simp_all
 case finA =>
  simp_all
 case stepA =>
  intro x;calc all2 λc1 X=>?_;rintro b hx1 y ⟨L,U,v,u,f⟩;clear hx1;subst v;have S:=Zk (YV y a) hn;calc ZQ<|nZ C o g L S (ZJ (YX _ _) S) ?_;cases e:r _ _ with
  |true=>calc ZR {L,rfl,u,by(try dsimp only);calc ZM y,f,λ_=>e}
  |false=>exact ZR {L,rfl,rfl,by calc XT _ _,Sg.snoc C f {`xcS,L.good,S} u e}
 case postA =>
  calc all2 λc1 X=>?_;rintro b ⟨L,U,v,u,f,N⟩;subst U;refine aU (λe=>?_) λe=>?_
  .exact ZR<|h X _ L v u f
  have e':X<n:=by simp at e;exact Vz u e
  have S:=Zk (YV e' a) hn;have d:∀k,k<=a+X->G _:=λk o=>L.good g<|ZJ o S;have H:=C.Rf (d _<|by calc Zq _) (d _<|by calc YX _ _)<|N e';have O:=L.size;refine vF (P:=λQT=>Lc a F QT/\Ds r `xlu a (a+(X+1))) ?D ?two ?one
  case one =>
   intro e3 Dk;calc ZQ<|nZ C o g L (ZJ (ZX _ _) S) (ZJ (YX _ _) S) ?_;dsimp only;cases e4:r _ _ with
   |true=>calc ZR<|h X _ L v u f
   |false =>
    rw[Zn Zj];calc ZQ<|o5 ?_;have L1:=L.mir (by calc Zq _) (by calc ZM S);have d0:Ds r _ a _:=λi j p t h3=>C.tr (d j<|by calc ZM h3) (d _<|by calc YX _ _) (d i `am) (f j _ (by calc ZY p t) `am `bi)
     (C.tr (d _<|by calc YX _ _) (d _<|by calc ZX _ _) (d i `am) e4<|f a i (by calc Zq _) p<|by calc ZJ t h3)
    exact Dk _ {L1,(Ds.snoc C (Ds.mir C d0 (λk o=>d k `xni) (by calc Zq _) (by(clear e hn;lia))<|λk p t=>f k _ p `am `bi) {`xcS,L1.good,S} v (by
     rw[oG `am,oG `am,Zn `am,Zp {XQ `xjk,W8 `am Nat.one_pos},mi1 `am];calc C.tr (d _<|by calc Zq _) (d _<|by calc YX _ _) (d _<|by calc ZX _ _) H<|d0 _ _ (by calc Zq _) (XQ `xjk) {`xbt,`am}))}
  case two =>
   intro e3;exact{L,(Ds.snoc C (λi j p t h3=>by
    have e1:i=a:=by lia
    have e2:j=a:=by lia
    clear hn h L0 s0 L f N S H p t h3;subst e1 e2;calc C.refl<|d _<|by calc ZX _ _) d v H)}
  case D =>
   rintro b ⟨L1,d1⟩;clear d O;calc ZQ<|i4 ?_;refine ZQ (XD (YL
    (I:=λx c b=>Lc a F b/\c.1=M/\c.2.1=x/\c.2.2+1<=x/\Ds r `c_ a (a+x)/\(∀k,a+x-(c.2.2+1)<=k->k<a+x->le r (K `c_ k) (K `c_<|a+x-1)))
    (Q:=λc b=>Lc a F b/\c.1=M/\c.2.2+1<=c.2.1/\c.2.1<=n/\Ds r `c_ a `xnn/\(∀k,a+c.2.1-(c.2.2+1)<=k->k<a+c.2.1->le r (K `c_ k) (K `c_<|a+c.2.1-1))) ?stepD ?finD ?initD) ?postD)
   case initD =>
    refine{L1,rfl,rfl,by simp_all,d1,λk p t=>?_}
    (try dsimp only at p t)
    have e:k=a+(X+1)-1:=by lia
    clear p t;subst e;exact C.refl<|L1.good g S
   case finD =>
    calc lS λc1 l Z=>?_;rintro b ⟨L,U,v,u,f,N⟩;subst v;exact{L,U,u,by(try dsimp only);lia,f,N}
   case stepD =>
    intro x;calc lS λc1 l Z=>?_;rintro b hx1 y ⟨L,U,v,u,f,N⟩;subst v;have q:=Zk (YV y a) hn;calc ZQ<|nZ C o g L q (ZJ (YX _ _) q) ?_;dsimp only;have d:∀k,k<=a+l->G _:=λk o=>L.good g<|ZJ o q;have O:=L.size;cases e:r _ _ with
    |true =>
     rw[Zp rfl];have H:=C.Rf (d _<|by calc Zq _) (d _<|by calc YX _ _) e;refine aU (λz=>?_) λz=>?_
     .refine ZQ<|o5 ?_;have L2:=L.mir (i:=a+l-(Z+1)) `am (by calc ZM q);refine ZR {L2,rfl,rfl,by simp_all,Ds.snoc C {`xdJ,λk o=>d k `xni,N} {`xcS,L2.good,q} `am ?_,λk p t=>?_}
      .rw[oG `am,oG `am,Zn `am,Zp {VC (XT 1 _) _,W8 `am Nat.one_pos},mi1 `am];exact C.tr (d _<|by calc Zq _) (d _<|by calc YX _ _) (d _<|by calc YX _ _) H<|f _ _ `am (VC (XT 1 _) _) {`xbt,`am}
      ·(try dsimp only at p t)
       have e:k=a+(l+1)-1:=by lia
       clear p t;subst e;exact C.refl<|L2.good g q
     .refine ZR {L,rfl,rfl,by simp_all,Ds.snoc C f d (by(clear z;lia)) H,λk p t=>?_}
      (try dsimp only at p t)
      have e:k=a+(l+1)-1:=by lia
      subst e;calc C.refl<|L.good g q
    |false =>
     rw[Zn Zj];calc ZQ<|nZ C o g L (ZJ (YX _ _) q) q ?_;cases e2:r _ _ with
     |true=>calc ZR {L,rfl,u,by(try dsimp only);calc ZM y,f,N}
     |false =>
      refine ZR {L,rfl,rfl,by simp_all,Ds.snoc C f d `am e2,λk p t=>?_}
      (try dsimp only at p t)
      have ee:a+(l+1)-1=a+l:=by lia
      rw[ee];by_cases ek:k=a+l
      .subst ek;exact C.refl (d _<|by calc Zq _)
      .exact C.tr (d _ `am) (d _<|by calc YX _ _) (d _<|by calc Zq _) (N k `am `am) e
   case postD =>
    calc lS λc1 l Z=>?_;rintro b ⟨L,U,u,q6,f,N⟩;subst U;have d:∀k,k<a+l->G (K _ k):=λk o=>L.good g `am;have O:=L.size;refine vF (P:=λQT=>Lc a F QT/\Ds r `xlu a (a+l)) ?R ?two2 ?one2
    case one2 =>
     intro z Dk2;calc ZQ<|o5 ?_;exact Dk2 _ ⟨(L.mir `am `am),{`xdJ,d,N}⟩
    case two2=>exact λ_=>{L,(f)}
    case R =>
     clear f N d O L;rintro b ⟨L,f⟩;have O:=L.size;calc ZQ<|o5 ?_;refine ZQ (XD (YL
      (I:=λx c b=>Lc a F b/\c.1=M/\c.2=x/\1<=x/\Sg r `c_ a (a+x))
      (Q:=λc b=>Lc a F b/\c.1=M/\1<=c.2/\c.2<=n/\Sg r `c_ a (a+c.2)/\(c.2<n->r {`xbj,c.2} (K `c_<|a+c.2-1)=J)) ?stepA ?finA ?initA) ?postA)
     case initA=>exact{(L.mir (by calc Zq _) `am),rfl,rfl,`am,(f.rev `am)}
     case finA =>
      grind
     case stepA =>
      intro x;calc all2 λc1 X=>?_;rintro b hx1 y ⟨L,U,v,u,f⟩;subst v;calc ZQ<|nZ C o g L `am `am ?_;cases e:r {`xbj,X} (K `c_<|a+X-1) with
      |true=>calc ZR {L,rfl,u,by(try dsimp only);calc ZM y,f,λ_=>e}
      |false=>exact ZR {L,rfl,rfl,by calc XT _ _,Sg.snoc C f (λk o=>L.good g `am) u e}
     case postA =>
      calc all2 λc1 c3=>?_;rintro b ⟨L,U,v,u,f,N⟩;subst U;calc ZR<|h c3 b L v u f
end TS
namespace TS
variable{A:UV}{κ:SortKind}
def B9(h:Q () {`xdl,a,i-j}):wpS `ax A E s (moveDown' i j) Q a:=by
 rw[moveDown'_eq];calc WD h
def Lc.bub(L:Lc b e a)(h:b+d<=i)(f:i<(arrOf e).size):Lc b e {`xdl,a,d} :=
 L.arr (bubble_perm _ _ _) λk g=>by rw[getElem?_bubble (L.size ▸ f) d `am,Zn `am,Zn `am]
def NZ(h:¬a ≥ b):a<=(a+b)/2/\(a+b)/2<b:=by omega
def Lq(C:`bn)(hk:kindOf q=κ)(g:∀x∈arrOf q,G x)(h0:1<=Z)(Og:Z<=n)(hn:a+n<=(arrOf q).size)(S:Sg r (arrOf q) a<|a+Z)(h:∀b,Lc a q b->Sg r `c_ a `xlw->Q J b):wpS `ax A E s (binarySort' a n Z) Q q:=by
 change wpS _ A E s (_>>=_) Q q;rw[(Nat.max_eq_left h0)];refine ZQ (XD (YL
  (I:=λx c b=>Lc a q b/\c.1=M/\Sg r `c_ a (a+x))
  (Q:=λc b=>Lc a q b/\c.1=M/\Sg r `c_ a `xlw) ?step ?fin ?init) ?post)
 case init=>exact{Lc.refl _ _,rfl,S}
 case fin =>
  simp_all
 case post =>
  calc all2 λN p=>?_;rintro b ⟨L,q1,v⟩;subst q1;exact ZR<|h _ L v
 case step =>
  intro k;calc all2 λN p=>?_;rintro b Ub Rx ⟨L,q1,v⟩;have bk:=Zk (YV Rx a) hn;have u:∀j,j<=a+k->G _:=λj hj=>L.good g<|ZJ hj bk;refine ZQ (XD (YL
   (I:=λx c O=>b=O/\c.1=M/\c.2.1<=c.2.2/\c.2.2<=k/\c.2.2+x<=k+c.2.1/\(∀i,a<=i->i<a+c.2.1->le r `xiH {`xbj,k})/\(∀i,a+c.2.2<=i->i<a+k->le r {`xbj,k} `xiH))
   (Q:=λc O=>b=O/\c.1=M/\c.2.1=c.2.2/\c.2.2<=k/\(∀i,a<=i->i<a+c.2.1->le r `xiH {`xbj,k})/\(∀i,a+c.2.2<=i->i<a+k->le r {`xbj,k} `xiH)) ?step2 ?fin2 ?init2) ?post2)
  case init2=>exact{rfl,rfl,by simp_all,by simp_all,Zq _,λi o d=>absurd d `xjj,λi o d=>absurd d `xjj}
  case fin2 =>
   calc lS λd1 l rr=>?_;rintro O ⟨e,X,P,t,q6,H,F⟩;exact{e,X,Xg P<|Nat.le_of_add_le_add_left (by rw[Uw];calc q6),t,H,F}
  case step2 =>
   intro x;calc lS λd1 l rr=>?_;rintro O _ hx ⟨e,X,P,t,q6,H,F⟩;subst e;refine aU (λz=>?_) λz=>?_
   .exact ZR {rfl,rfl,by(try dsimp only);calc Xg P z,t,H,F}
   .exists NZ z,m1,m2;generalize (l+rr)/2=m at m1 m2 ⊢;have mk:=YV (Zk m2 t) a;calc ZQ<|nZ C hk g L bk (Y4 mk bk) ?_;cases e2:r _ _ with
    |true =>
     calc ZR {rfl,rfl,m1,ZY (ZM m2) t,by grind,H,λi o d=>C.tr (u _<|Zq _) (u _ `xnh) (u _<|ZM d) (C.Rf (u _<|Zq _) (u _ `xnh) e2)<|v _ i (by calc ZX _ _) o d}
    |false =>
     refine ZR {rfl,rfl,m2,t,by grind,λi o d=>?_,F}
     (try dsimp only at d)
     have h3:=ZA d;exact C.tr (u _<|ZY h3 `xnh) (u _ `xnh) (u _<|Zq _) (v i _ o h3 mk) e2
  case post2 =>
   calc lS λd1 l rr=>?_;rintro O ⟨e,X,P,t,H,F⟩;subst e;dsimp only at *;subst X;calc ZQ<|B9 ?_;rw[Nat.add_sub_add_left];subst P;have U:=L.size ▸ bk;have kl:=ZY (YX k l)<|XT k a;calc ZR {L.bub (XO (YX k l) a) bk,rfl,λi j o d h3=>?_};rw[Iz U kl,Iz U kl,show a+k-(k-l)=a+l by rw[Vl<|YX k l,Nat.sub_sub_self t]];have f:=ZA h3;by_cases N:i=a+l
   .rw[Zp N];by_cases p:j=a+l
    .exact Zp p ▸ C.refl (u _<|by calc Zq _)
    .have y:=Vz (N ▸ d)<|Yg p;rw[Zn p,Zp {y,(f)}];exact F _ (XQ y)<|VG (X8 y) f
   .rw[Zn N];by_cases R:a+l<i/\i<=a+k
    .rw[Zp R];have y:=Zk R.1 d;rw[Zn<|YM y,Zp {y,(f)}];exact v _ _ (XQ<|ZJ (ZX _ _) R.1) (Nat.sub_le_sub_right d 1)<|VG (X8 y) f
    .rw[Zn R];by_cases p:j=a+l
     .exact Zp p ▸ H i o (Vz (p ▸ d) N)
     .rw[Zn p];by_cases D:a+l<j/\j<=a+k
      .exact Zp D ▸ v _ _ o (XQ<|ZJ (Yo λz=>R {z,ZY d D.2}) D.1) (VG (X8 D.1) D.2)
      .exact Zn D ▸ v _ _ o d (Zk (Vz (Yo λz=>D {z,(f)}) p)<|XO t a)
theorem zQ(b:Nat):∀(l:`xgN)(off:Nat)(arr:`dL),b+off+⇑l<=arr.size →
  ((l.zipIdx off).foldl (λa x=>a.setIfInBounds (b+x.snd) x.fst) arr).toList=arr.toList.take `xhC++l++arr.toList.drop (b+off+⇑l)
 |[],off,arr,h=>by simp
 |x::l,off,arr,h=>by
  rw[WU,XS];rw[Za]at h;rw[zQ _ l _ _ (by rw[Array.size_setIfInBounds];lia)];have hl:b+off<⇑arr.toList:=by simp;lia
  rw[Array.toList_setIfInBounds,List.set_eq_take_append_cons_drop,Zp hl];have e1:(arr.toList.take `xhC++x::arr.toList.drop (b+off+1)).take (b+(off+1))=arr.toList.take `xhC++[x]:=by
   grind
  have e2:(arr.toList.take `xhC++x::arr.toList.drop (b+off+1)).drop (b+(off+1)+⇑l)=arr.toList.drop (b+off+(⇑l+1)):=by
   have:⇑(arr.toList.take `xhC)=b+off:=by rw[Xr];lia
   rw[WQ,this,YO (by rw[this];lia),Yd];have:b+(off+1)+⇑l-`xhC=⇑l+1:=by lia
   rw[this,List.drop_succ_cons,List.drop_drop];congr 1;lia
  rw[e1,e2];simp
end TS
namespace TS
variable{A:UV}{κ:SortKind}
def ji{a:`dL}(e:a.toList=P++X++S)(j:Nat)(b:j<⇑X):∃h:⇑P+j<a.size,a[⇑P+j]=X[j]:=by
 have hs:a.size=⇑P+⇑X+⇑S:=by
  have:=ZF List.length e;simp at this;lia
 have h:⇑P+j<a.size:=by lia
 refine{h,?_};have d:a[⇑P+j]?=X[j]?:=by
  rw[<-Sf,e,ZU,Yw<|by calc ZX _ _,XI,Yv b]
 rw[getElem?_pos a _ h,getElem?_pos X _ b]at d;calc ZL d
def AC(C:`bn){a:`dL}(e:a.toList=P++X++S)(g:∀x∈a,G x)(f:`xng):Seg r a ⇑P `B2:=by
 intro i j h n q p o;obtain⟨d,rfl⟩:∃d,i=⇑P+d:={i-⇑P,by lia}
 obtain⟨b,rfl⟩:∃b,j=⇑P+b:={j-⇑P,by lia}
 exists ji e d `am,_,e1;exists ji e b `am,_,e2;obtain m|l:=VZ d b
 .rw[e1,e2];exact Yf.mp f d b `am `am m
 .have:d=b:=by lia
  subst this;calc C.refl<|g _<|ZS h
def ml8{p k x m:Nat}(h:k<=x):p+k+(x-k+m)=p+x+m:=by rw[Xa,<-Xa k,Wq h,Xa]
def ml7{s:Nat}(h:k<=x)(g:m<=y):p+k+(x-k+m)<=p+x+y+s:=by
 rw[ml8 h];calc ZY (XO g _)<|ZX _ _
def J4(C:`bn){X Y S:`xgN}(hk:kindOf b=κ)(g:∀x∈arrOf b,G x)(hf:failedOf b=none)(n:(`c_).toList=P++X++(Y++S))(p1:`xfC[i]?=some (⇑P,⇑X,pw))(p2:`xfC[i+1]?=some (⇑P+⇑X,⇑Y,pw2))(D:`xng)(U:Y.Pairwise `xag)(nX:0<⇑X)(nY:0<⇑Y)(h:∀gV M,M.Perm (X++Y)->M.Pairwise `xag->(arrOf gV).toList=P++M++S->kindOf gV=kindOf b->failedOf gV=none →
   XAB gV=((`xfC).setIfInBounds i (⇑P,⇑X+⇑Y,pw)).eraseIdxIfInBounds `I_->Q J gV):wpS `ax A E s (mergeAt' i) Q b:=by
 have e2:(`c_).toList=(P++X)++Y++S:=by rw[n];simp
 have hs:(`c_).size=⇑P+⇑X+⇑Y+⇑S:=by
  have:=ZF List.length n;simp at this;lia
 have gm:∀x,x∈(`c_).toList->G x:=λx a=>g x (by simpa using a);have gX:∀x∈X,G x:=λx a=>gm x (by rw[n];simp[a]);have Z:∀x∈Y,G x:=λx a=>gm x (by rw[n];simp[a]);have o:=AC C e2 g U;rw[Zr]at o;exists ji e2 0 nY,hb,eb;simp only[Zr,Uy]at hb eb;exists ji n _ {`xbt,nX},hl,el;have gb:=g _<|ZS hb;calc ZQ<|VI ?_;rw[show (sortPriv% PySem.Builtin.SortState.pending) b=XAB b from rfl,p1,p2];calc ZQ<|?_;refine(WD ?_);calc ZQ<|eV hb ?_;calc ZQ<|kC C `xfi gb g (by calc ZM hb) nX (AC C n g D) λk Ub Rx UO=>?_;have z1:∀x∈X.take k,le r x _:=λx a=>by
  exists Yr a,j,d,rfl;rw[Xr]at d;exists ji n j (Zk d<|Xs _ _),l,e3;exact X9 ▸ e3 ▸ Rx _ l (by calc ZX _ _) (YV (Zk d<|Nat.min_le_left _ _) _)
 have z2:∀x∈X.drop k,le r _ x:=λx a=>by
  exists Yr a,j,d,rfl;rw[Yj]at d;have Rh:=Nat.add_lt_of_lt_sub' d;exists ji n _ Rh,l,e3;rw[Vj,<-e3];exact UO _ l (XO (ZX _ _) _)<|YV Rh _
 have R:∀y∈Y,le r _ y:=λy e=>by
  exists Yr e,j,d,rfl;exists ji e2 j d,l,e3;simp only[Zr]at l e3;rw[<-e3];exact o _ _ hb l (by calc Zq _) (by calc ZX _ _)<|YV d _
 refine aU (λe3=>?_) λe3=>?_
 .refine ZR<|h _ _ (YS _) ?_ (by rw[n];simp) L hf L;rw[SU];refine{D,U,λx a y e=>C.tr (gX x a) gb (Z y e) (z1 x (by rw[Yq `am];calc a))<|R y e}
 have t:k<⇑X:=by lia
 have hx1:=W8 (X8 t) Nat.one_pos;have ei:Unit->⇑P+k+(⇑X-k)-1=⇑P+(⇑X-1):=λ_=>by rw[Xa,Wq `xiG,Vl<|X8 t]
 calc ZQ<|eV (ei () ▸ hl) ?_;have elst:∀(q:⇑P+k+(⇑X-k)-1<(`c_).size),`c_[⇑P+k+(⇑X-k)-1]=X[⇑X-1]:=λq=>by
  simp only[ei ()];exact el
 rw[elst];have gl:G X[⇑X-1]:=gX _<|YT _;calc ZQ<|kC C `xfi gl g (hs ▸ ZX _ _) {`xbt,nY} o λm u hm2 hm3=>?_;have y1:∀x∈Y.take m,le r x _:=λx a=>by
  exists Yr a,j,d,rfl;rw[Xr]at d;exists ji e2 j (Zk d<|Xs _ _),l,e3;simp only[Zr]at l e3;rw[X9,<-e3];exact hm2 _ l (by calc ZX _ _)<|YV (Zk d<|Nat.min_le_left _ _) _
 have y2:∀x∈Y.drop m,le r _ x:=λx a=>by
  exists Yr a,j,d,rfl;rw[Yj]at d;have Rh:=Nat.add_lt_of_lt_sub' d;exists ji e2 _ Rh,l,e3;simp only[Zr]at l e3;rw[Vj,<-e3];exact hm3 _ l (XO (ZX _ _) _)<|YV Rh _
 have xl:∀x∈X,le r x _:=λx a=>by
  exists Yr a,j,d,rfl;obtain OT|hge:=VZ j _
  .exact Yf.mp D j _ d hx1 OT
  .have:=Xg (XQ d) hge;subst this;exact C.refl gl
 refine aU (λe4=>?_) λe4=>?_
 .have UP:m=0:=by simpa using e4
  subst UP;calc ZR<|h _ _ (YS _) ?_ (by rw[n];simp) L hf L;rw[SU];exact{D,U,λx a y e=>C.tr (gX x a) gl (Z y e) (xl x a)<|y2 y e}
 have ex:((`c_).extract `xiF `B2).toList=X.drop k:=by
  rw[Xm,List.extract_eq_drop_take,n,ZU,WQ,YO<|by calc ZX _ _,Yd];have:P.length+k-⇑P=k:=by exact XI _ _
  rw[this,WQ,Nat.sub_eq_zero_of_le `xiG,Vw];rw[XB (by rw[Yj];lia),Yq (by rw[Yj];lia)]
 have O:((`c_).extract `B2<|⇑P+⇑X+m).toList=Y.take m:=by
  rw[Xm,List.extract_eq_drop_take,e2,ZU,WQ,YO<|by simp,Yd];have:P.length+⇑X-⇑(P++X)=0:=by simp
  rw[this,Vw];have:P.length+⇑X+m-`B2=m:=by exact XI _ _
  rw[this,XB u]
 obtain⟨f,N⟩:∃f,f=(`c_).extract `xiF `B2:={_,(rfl)}
 obtain⟨z,H⟩:∃z,z=(`c_).extract `B2 (⇑P+⇑X+m):={_,(rfl)}
 rw[<-N]at ex;rw[<-H]at O;have mx:∀x,x∈f->x∈X.drop k:=λx a=>by rw[<-ex];simpa using a
 have my:∀x,x∈z->x∈Y.take m:=λx a=>by rw[<-O];simpa using a
 have szx:f.size=⇑X-k:=by have:=ZF List.length ex;simpa using this
 have szy:z.size=m:=by have:=ZF List.length O;simp at this;lia
 have gax:=λx a=>gX x<|Xo<|mx x a;have gay:=λx a=>Z x<|YK<|my x a;have y0:∀(q:0<z.size),z[0]=`c_[⇑P+⇑X]:=λq=>by
  simp_all
 have xl0:∀(q:f.size-1<f.size),f[f.size-1]=X[⇑X-1]:=λq=>by
  have:f[f.size-1]?=X[⇑X-1]?:=by
   rw[<-Sf,ex,List.getElem?_drop];congr 1;rw[szx,<-Vl (Vp t),Wq `xiG]
  rw[getElem?_pos f _ q,getElem?_pos X _ hx1]at this;exact ZL this
 have M:MC G r f z:=by
  refine{gax,gay,DC C gax<|ex ▸ D.drop,DC C gay<|O ▸ U.take,szx ▸ Vp t,szy ▸ (by simp at e4;calc Yx e4),?_,λj d=>?_}
  .rw[y0];exact z2 _<|mx _<|ZS _
  .rw[xl0];exact y1 _<|my _ `xnm
 have fin:∀(QT:XAA)(res:Array _),nJ (SortSt.mk' _ _ (((`xfC).setIfInBounds i _).eraseIdxIfInBounds _) (gallopOf b) _) _->MR r f z _ →
   Q (failedOf _).isNone (SortSt.mk' _ (res.toList.zipIdx.foldl _<|arrOf _) _ (gallopOf QT)<|failedOf _):=λQT res kp v=>by
  revert kp;calc OI λk1 k2 k3 k4=>?_;have F:=k2;rw[(k4.trans hf)];have hl:⇑res.toList=⇑X-k+m:=by
   rw[v.1.length_eq,ex,O];simp;exact YJ u
  have mem:∀x,x∈res.toList->x∈X.drop k\/x∈Y.take m:=λx a=>by
   have:=v.1.mem_iff.mp a;rw[ex,O]at this;exact Zf.mp this
  have bk:=zQ _ _ 0 `xlu (by rw[F,hs,hl,Uy];calc ml7 `xiG u);rw[F,Uy]at bk;have t1:(`c_).toList.take `xiF=P++X.take k:=by
   rw[n,ZU,List.take_append,Yq<|by calc ZX _ _,XI,XB `xiG]
  have t2:(`c_).toList.drop (⇑P+k+⇑res.toList)=Y.drop m++S:=by
   rw[e2,ZU,WQ,YO (by rw[Zr,hl,ml8 `xiG];calc ZX _ _),Yd];have:P.length+k+⇑res.toList-⇑(P++X)=m:=by rw[Zr,hl,ml8 `xiG,XI]
   rw[this,List.drop_append_of_le_length u]
  refine h _ (X.take k++res.toList++Y.drop m) ?_ ?_ ?_ k1 L k3
  .have p:(X.take k++(X.drop k++Y.take m)++Y.drop m)=X++Y:=by
    rw[<-ZU,Yh,ZU,Yh]
   rw[<-p];have:=v.1;rw[ex,O]at this;exact(this.append_left _).append_right _
  .rw[SU,SU];refine⟨{D.take,v.2,λx a y e=>?_},U.drop,λx a y e=>?_⟩
   .rcases mem y e with e|e
    .have:=D;rw[<-Yh k X,SU]at this;exact this.2.2 x a y e
    .exact C.tr (gX _<|YK a) gb (Z _<|YK e) (z1 x a)<|R y<|YK e
   .rcases Zf.mp a with a|a
    .exact C.tr (gX _<|YK a) gb (Z _<|Xo e) (z1 x a)<|R y<|Xo e
    .rcases mem x a with a|a
     .exact C.tr (gX _<|Xo a) gl (Z _<|Xo e) (xl x<|Xo a)<|y2 y e
     .have:=U;rw[<-Yh m Y,SU]at this;exact this.2.2 x a y e
  .rw[F,bk,t1,t2];simp
 refine aU (λ_=>?_) λ_=>?_
 .refine ZQ<|?_;rw[<-N,<-H];calc MU C `xfi M λres QT kp v=>?_;exact ZQ<|WD<|ZQ<|VI<|ZR<|fin _ _ kp v
 .refine ZQ<|?_;rw[<-N,<-H];calc L5 C `xfi M λres QT kp v=>?_;calc ZQ<|WD<|ZQ<|VI<|ZR<|fin _ _ kp v
end TS
namespace TS
variable{A:UV}{κ:SortKind}
def mU:Nat->List `xgN->List `ti
 |_,[]=>[]
 |o,R::Rs=>(o,⇑R)::mU (o+⇑R) Rs
theorem j9:∀(a b:{`QZ,SC})(o:Nat),mU o (a++b)=mU o a++mU (o+⇑a.flatten) b
 |[],b,o=>by simp[mU]
 |R::a,b,o=>by
  show (o,⇑R)::mU _ (a++b)=(o,⇑R)::(mU _ a++_);rw[j9 a b];simp[Xa]
theorem jR:∀(a:{`QZ,SC})(o:Nat),⇑(mU o a)=⇑a
 |[],o=>rfl
 |R::a,o=>by show ⇑(mU _ a)+1=_;rw[jR a];rfl
theorem sN{α β:Type}(f:α->β):∀(l:`ew)(i:Nat),({`wE,i}).map f=(`C_).eraseIdx i
 |[],i=>rfl
 |x::l,0=>rfl
 |x::l,i+1=>by show f x::({`wE,i}).map f=f x::(`C_).eraseIdx i;rw[sN f l i]
structure RI(κ:SortKind)(r:SC->SC->Bool)(a₀:`dL)(st:XAA)(runs:{`QZ,SC})(rest:`xgN):Prop where
 kind:kindOf st=κ
 fail:failedOf st=none
 arr:(`xhf).toList=runs.flatten++rest
 pend:(XAB st).toList.map (λp=>(p.1,p.2.1))=mU 0 runs
 ok:∀R∈runs,0<⇑R/\R.Pairwise `xag
 perm:(`xhf).Perm a₀
def RI.good{G:SC->Prop}{r:SC->SC->Bool}{d:`dL}{b:XAA}{a:{`QZ,SC}}{rest:`xgN}(h:{`xcx,d,b})(g:∀x∈d,G x):∀x∈arrOf b,G x:=λx e=>by
 have:x∈(`c_).toList:=by simpa using e
 calc g x (by simpa using(Wv.mp h.perm).mem_iff.mp this)
def RI.psize(h:{`xcx,d,b}):(`xfC).size=⇑a:=by
 have:=ZF List.length h.pend;rw[Zu,jR]at this;simpa using this
def RI.at{b:XAA}{a:{`QZ,SC}}{X:`xgN}(h:RI κ r d b (a++X::post) rest):∃pw,`xfC[⇑a]?=Y (⇑a.flatten,⇑X,pw):=by
 have e:((`xfC).toList.map<|λp=>(p.1,p.2.1))[⇑a]?=Y (⇑a.flatten,⇑X):=by
  rw[h.pend,j9,Yw (by rw[jR];calc Zq _),jR,Nat.sub_self,YI];rfl
 simp_all
theorem we{α:Type}:∀{l:`ew}{i:Nat},i+1<⇑l->∃pre X Y post,l=pre++X::Y::post/\⇑pre=i
 |[],i,h=>by simp at h
 |[x],i,h=>by simp at h
 |x::y::l,0,h=>Oe [] x y l {rfl,(rfl)}
 |x::y::l,i+1,h=>by
  calc Oj (we (l:=y::l) (i:=i) (by simp at h ⊢;omega)) λpre X Y post=>Pc λe a=>?_;calc Oe (x::pre) X Y _ {by rw[e];rfl,by rw[Za,a]}
def RI.merge(C:`bn)(h:{`xcx,f,d})(g:∀x∈f,G x)(Z:i+1<⇑a)(U:∀l m,RI κ r f l m rest->⇑m+1=⇑a->⇑m.flatten=⇑a.flatten->Q J l):wpS `ax A E s (mergeAt' i) Q d:=by
 exists we Z,pre,X,Y,post,rfl,rfl;ext h.at pw H;have h':RI κ r f d ((pre++[X])++Y::post) rest:=by
  simp_all
 ext h'.at D F;have o:=h.ok X (by simp);have n:=h.ok Y (by simp);refine J4 C (X:=X) (Y:=Y) (S:=`xji) h.kind (h.good g) h.fail (by rw[h.arr];simp) H (by
  simpa using F) o.2 n.2 o.1 n.1 λl M q P p O N L=>?_
 have hl:=q.length_eq;rw[Zr]at hl;refine U _ (pre++M::post) {O.trans h.kind,N,by rw[p];simp,?_,λR b=>?_,?_} (by simp;calc Xa _ _ _) (by simp;lia)
 .rw[L];have e0:(((`xjO).setIfInBounds ⇑pre (⇑pre.flatten,⇑X+⇑Y,pw)).eraseIdxIfInBounds `xgM).toList=((`xjO).toList.set ⇑pre (⇑pre.flatten,⇑X+⇑Y,pw)).eraseIdx `xgM:=by
   simp
  rw[e0,sN,W5,h.pend];rw[j9,j9];have e1:∀(u v t:`xkt)(x y z:`ti),⇑u=⇑pre->((u++x::y::t).set _ z).eraseIdx `xgM=u++z::t:=λu v t x y z j=>by
   rw[List.set_append_right _ _<|by calc XA j,j,Nat.sub_self,List.eraseIdx_append_of_length_le `am,j]
   simp_all
  show ((mU 0 _++(0+⇑pre.flatten,⇑X)::(0+⇑pre.flatten+⇑X,⇑Y)::mU _ _).set _ _).eraseIdx _=mU 0 _++(0+⇑pre.flatten,⇑M)::mU _ _;rw[e1 _ [] _ _ _ _<|jR _ 0,hl,YI,Xa]
 .rcases Zf.mp b with b|b
  .exact h.ok R (by simp[b])
  .rcases Zi.mp b with rfl|b
   .exact{by lia,P}
   .exact h.ok R (by simp[b])
 .refine Array.Perm.trans ?_ h.perm;rw[Wv,p,h.arr];have e:(pre++X::Y::post).flatten++rest=pre.flatten++(X++Y)++`xji:=by simp
  calc e ▸ (q.append_left _).append_right _
end TS
namespace TS
variable{A:UV}{κ:SortKind}
def RI.loc(h:{`xcx,f,d})(L:Lc ⇑a.flatten d b):RI κ r f b a ((`c_).toList.drop ⇑a.flatten):=by
 refine{L.kind.trans h.kind,L.fail.trans h.fail,?_,L.pend ▸ h.pend,h.ok,L.perm.trans h.perm};have e:(`c_).toList.take ⇑a.flatten=a.flatten:=by
  have e2:(`xfj).toList.take ⇑a.flatten=a.flatten:=by rw[h.arr,List.take_left]
  calc Eq.trans ?_ e2;apply WZ;intro i;rw[V5,V5];split
  .rename_i g;rw[Sf,Sf];exact L.pre i g
  .rfl
 conv=>lhs;rw[<-Yh _ (arrOf _).toList,e]
theorem RI.push(h:{`xcx,f,e})(g:⇑a.flatten=b)(l:0<n)(j:n<=⇑rest)(i:(rest.take n).Pairwise `xag) :
  RI κ r f (setPending e<|(XAB e).push (b,n,0)) (a++[rest.take n]) (rest.drop n):=by
 refine{h.kind,h.fail,?_,?_,λR d=>?_,h.perm}
 .rw[h.arr];simp
 .rw[Ut,Rn,h.pend,j9,YI,g];show _++[(b,n)]=_++[(b,⇑(rest.take n))]
  simp_all
 .rcases Zf.mp d with d|d
  .exact h.ok R d
  grind
theorem Ah{α β:Type}(f:α->β)(g:α->α)(a:∀x,f (g x)=f x):∀(l:`ew)(i:Nat),(l.modify i g).map f=l.map f
 |[],i=>by simp
 |x::l,0=>by simp[a]
 |x::l,i+1=>by simp[Ah f g a l i]
def RI.mod(h:{`xcx,e,b})(i d:Nat):RI κ r e (setPending b<|(`xfC).modify i λx=>(x.1,x.2.1,d)) a rest :=
 {h.kind,h.fail,h.arr,by
  rw[Array.toList_modify,Ah _ (λx=>(x.1,x.2.1,d))<|λx=>rfl,h.pend],h.ok,h.perm}
def Sg.pw(h:Sg r b a `xlw)(f:a+n<=b.size):((b.toList.drop a).take n).Pairwise `xag:=by
 rw[Yf];intro i j e d g;rw[Xr,Yj]at e d;rw[X9,X9,Vj,Vj];have:=h (a+i) (a+j) (by calc ZX _ _) `am `am;rw[CS `am,CS `am]at this;simpa using this
theorem RI.size(h:{`xcx,b,d}):⇑a.flatten+⇑rest=b.size:=by
 have e:=ZF List.length h.arr;rw[Zr,RO,h.perm.size_eq]at e;calc e.symm
def Hz{r:SC->SC->Bool}{a:{`QZ,SC}}(h:∀R∈a,0<⇑R/\R.Pairwise `xag):⇑a<=⇑a.flatten:=by
 induction a with
 |nil=>calc Zq _
 |cons R Rs b =>
  have e:=b λx d=>h x<|Zs _ d;grind
def Ld{c:Prop}[Decidable c](e:a+1<n)(d:b+1<n):(if c then a else b)+1<n:=by
 split
 .exact e
 .exact d
def AX{prog:UF}{w:XAE}{E:Y2}{s:On}{α:Type}{a b d:Nat->Prop}{c:Nat->Prop}[∀n,Decidable<|c n]{x R:{`xcO,Nat,α}}{Q:α->XAA->Prop}{P:Nat->XAA->Prop}{f:XAA}(D:∀n e,P n e->wpS `ax A E s (R n) Q e)(g:∀m,a m->b m->d m->¬c m->P m f)(h:∀m,a m->b m->d m->c m->(∀n e,P n e->wpS `ax A E s (R n) Q e)->wpS `ax A E s (x m) Q f):∀m,a m->b m->d m->wpS `ax A E s (if c m then x m else R m) Q f :=
 λm p q z=>aU (λy=>h m p q z y D) λy=>D m f<|g m p q z y
def G8(C:`bn){a₀:`dL}(hk:kindOf u=κ)(g:∀x∈a₀,G x)(ha:arrOf u=a₀)(hp:XAB u=#[])(hf:failedOf u=M)(h:∀d,(`xfj).Perm a₀->failedOf d=M->(`xfj).toList.Pairwise `xag->Q () d):wpS `ax A E s sortRuns' Q u:=by
 have R0:RI κ r _ u [] _:={hk,hf,by rw[ha];rfl,by rw[hp];rfl,λR y=>by simp at y,by rw[ha]}
 change wpS _ A E s (_>>=_) Q u;dsimp only;calc ZQ<|VI ?_;have esz:((sortPriv% PySem.Builtin.SortState.a) u).size=a₀.size:=by rw[<-ha]
 rw[esz];refine ZQ (XD (YL
  (I:=λx c d=>c.1=M/\∃runs rest,RI κ r a₀ d runs rest/\⇑runs.flatten=c.2/\x<=c.2)
  (Q:=λc d=>c.1=M/\∃runs,RI κ r a₀ d runs []) ?step ?fin ?init) ?post)
 case init=>exact{rfl,_,_,R0,rfl,Zq _}
 case fin =>
  calc all2 λz lo=>?_;rintro d ⟨f,runs,rest,R,hl,hx⟩;have:=R.size;have e:rest=[]:=Xn `am;clear this;subst e;exact{f,_,(R)}
 case step =>
  intro x;calc all2 λz lo=>?_;rintro d _ hx ⟨f,runs,rest,R,hl,hxl⟩;have p:=R.size;refine aU (λe=>?_) λe=>?_
  .have e:rest=[]:=Xn `am;clear p;subst e;exact ZR {rfl,_,(R)}
  calc ZQ<|K8 C R.kind (R.good g) `am (by rw[R.perm.size_eq];lia) λm QY L2 m1 m2 S2=>?_;have Z:=R.loc<|hl ▸ L2;have asz2:=Z.perm.size_eq;revert m;refine AX (P:=λnn S=>∃i,RI κ r a₀ S runs i/\⇑i=a₀.size-lo/\0<nn/\nn<=⇑i/\(i.take nn).Pairwise `xag) ?D ?two ?one
  case one =>
   intro m m1 m2 S2 e2 Dk;calc ZQ<|i4 ?_;calc ZQ<|Lq C Z.kind (Z.good g) m1 `bi `am S2 λS L3 S3=>?_;calc aU `xas λ_=>?_;have U:=Z.loc<|hl ▸ L3;have asz3:=U.perm.size_eq;obtain⟨i,j⟩:∃l,l=(arrOf S).toList.drop ⇑runs.flatten:={_,(rfl)}
   have q:⇑i=a₀.size-lo:=by simp_all
   obtain⟨n3,en3⟩:∃n,n=min (a₀.size-lo) ((sortPriv% PySem.Builtin.minRun) a₀.size a₀.size 0):={_,(rfl)}
   rw[<-en3]at S3 ⊢;exact Dk n3 _ {_,(j ▸ U),q,`am,`bi,(j ▸ hl ▸ S3.pw `am)}
  case two =>
   intro m m1 m2 S2 e2;obtain⟨i,j⟩:∃l,l=(arrOf QY).toList.drop ⇑runs.flatten:={_,(rfl)}
   have q:⇑i=a₀.size-lo:=by simp_all
   exact{i,(j ▸ Z),q,(by calc Uz m1),`am,(j ▸ hl ▸ S2.pw `am)}
  case D =>
   rintro nn S ⟨i,I3,q,O,N,L⟩;have Rm:=hl;calc ZQ<|VI ?_;cases hb:(XAB S).back? with
   |none =>
    calc ZQ<|WD ?_;calc ZR {rfl,_,_,I3.push Rm O N L,?_,by(try dsimp only);lia};grind
   |some v =>
    clear hb;ext v s1 n1 pw1;refine ZQ (XD (YL
     (I:=λx c d=>c.1=M/\∃o,RI κ r a₀ d o i/\⇑o.flatten=lo)
     (Q:=λc d=>c.1=M/\∃o,RI κ r a₀ d o i/\⇑o.flatten=lo) ?stepM ?finM ?initM) ?postM)
    case initM=>exact{rfl,_,I3,(Rm)}
    case finM=>exact λc d h=>h
    case stepM =>
     intro x;calc all2 λz c2=>?_;rintro d _ hx ⟨f,o,R,y⟩;calc ZQ<|VI ?_;split
     .rename_i a b c hh;refine aU (λ_=>?_) λ_=>?_
      .exact ZR {rfl,o,R,(y)}
      .have hp1:(`xjO).size > 1:=by
        simp_all
       have H:=R.psize;calc ZQ<|R.merge C g (show (`xjO).size-2+1<⇑o by omega) λst4 U7 R4 l4 f4=>?_;calc aU `xas λ_=>?_;exact ZR {rfl,U7,R4,by rw[f4,y]}
     .exact ZR {rfl,o,R,(y)}
    case postM =>
     calc all2 λz c2=>?_;rintro d ⟨f,o,R,y⟩;subst f;calc ZQ<|WD ?_;calc ZQ<|WD ?_;refine ZR {rfl,_,_,(R.mod _ _).push y O N L,?_,by(try dsimp only);lia}
     simp_all
 case post =>
  calc all2 λz lo=>?_;rintro d ⟨f,runs,R⟩;subst f;have rl:=Hz R.ok;have p:=R.size;refine ZQ (XD (YL
   (I:=λx c d=>c.1=M/\∃runs,RI κ r a₀ d runs []/\(⇑runs<=1\/⇑runs+x<=a₀.size))
   (Q:=λc d=>c.1=M/\∃runs,RI κ r a₀ d runs []/\⇑runs<=1) ?step2 ?fin2 ?init2) ?post2)
  case init2=>exact{rfl,runs,R,.inr `am}
  case fin2 =>
   calc all2 λz c2=>?_;rintro d ⟨f,runs,R,F⟩;exact{f,runs,R,by(clear p;lia)}
  case step2 =>
   intro x;calc all2 λz c2=>?_;rintro d _ hx ⟨f,runs,R,F⟩;have H:=R.psize;calc ZQ<|VI ?_;refine aU (λe=>?_) λe=>?_
   .exact ZR {rfl,runs,R,H ▸ e}
   .have e':1<⇑runs:=by simp_all
    refine ZQ<|R.merge C g ?_ λst4 U7 R4 l4 f4=>?_
    .exact Ld (show (`xjO).size-2-1+1<_ by omega) `am
    .refine aU `xas λ_=>?_;exact ZR {rfl,U7,R4,by(clear e p;lia)}
  case post2 =>
   calc all2 λz c2=>?_;rintro d ⟨f,runs,R,F⟩;subst f;calc ZR<|h d R.perm R.fail ?_;rw[R.arr,ZO]
   match runs,F,R.ok with
   |[],_,_=>calc List.Pairwise.nil
   |[X],_,ok =>
    simp_all
   |X::Yq0::t,F,_=>simp at F
end TS
namespace TS
variable{A:UV}
noncomputable def kK(h:XAD)(a:Pv)(b:Vq):Heap:=((h.update a<|Obj.mapSeq λ_=>#[]).push<|seqObj "tuple" b.toArray 0).push<|seqObj "list" #[] 0
def nA{b:`dL}(f:b.Perm<|pairsOf e):(b.map (·.2)).toList.Perm e/\(b.map (·.2)).toList.map (λv=>(v,v))=b.toList:=by
 have a:=Wv.mp f;rw[pairsOf_toList]at a;constructor
 .rw[Uk];refine(a.map _).trans ?_;rw[show (λx:SC=>x.2)=Prod.snd from rfl,List.map_snd_zip<|Zq _]
 .rw[Uk,QF]
  conv=>rhs;rw[<-Vk b.toList]
  apply YU;intro p d;have:=mem_zip_self<|a.mem_iff.mp d;calc Prod.ext this.1.symm L
def KZ{h:XAD}{vs:Vq}(b:a<h.objs.size)(g:(h.update a<|Obj.mapSeq λ_=>#[]).get? a=Y o):(kK h a vs).get? a=Y o:=by
 exact(XE _ _ _ (by rw[size_push',VE];calc Zg<|Rz b)).trans<|(XE _ _ _ (by rw[VE];calc Zg b)).trans g
def CH{s:On}{vs:Vq}{o:SortKind}(j:s.heap.get? a=Y (seqObj "list" vs.toArray n))(u:QH prog w A E { s with heap:=kK s.heap a vs } o G r)(N:∀v∈vs,G (v,v))(f:⇑vs<=Pi)(l:2<=⇑vs->∀Q:SortKind->On->Prop,Q o { s with heap:=kK s.heap a vs }->SB `ax A `xiE Q E { s with heap:=kK s.heap a vs })(h:∀out:Vq,out.Perm vs->(out.map λv=>(v,v)).Pairwise `xag->P (.done `xfQ) { s with heap:=sortedHeap s.heap a vs out.toArray }) :
  SB `ax A (Builtin.«list.sort» {[.ref a],[]}) P E s:=by
 have Te:vs.toArray.size=⇑vs:=rfl;obtain⟨O,i⟩:∃k,(s.heap.update a<|Obj.mapSeq λ_=>#[]).get? a=Y _:={_,get?_update_seq j _}
 have at2:=KZ (vs:=vs) (Zb j) i;have done:∀b:Array _,b.Perm `xgb->b.toList.Pairwise `xag->P (.done `xfQ) { s with heap:=sortedHeap s.heap a vs<|b.map (·.2) }:=λb d m=>by
  exists nA d,H,F
  simp_all
 have room:∀b:Array _,b.Perm `xgb->(b.map (·.2)).size<=Pi+1:=λb d=>by
  rw[Array.size_map,d.size_eq,pairsOf_size];exact Vn f
 rw[list_sort_plain];calc Zy<|listItems_at j L<|Zy<|listUpdate_at j L<|Zy<|seqEpoch_at i L<|Zy<|wpAny_newTuple<|Zy<|wpAny_newList<|Yb ?_;refine(?_);by_cases two:2<=⇑vs
 .have no:¬(vs.toArray.size<2):=by lia
  rw[Zn no,Zn no];refine Zy (l two _ (Zy (YC (G8 u (a₀:=`xgb)
   (Q:=λ_ g=>(arrOf g).Perm _/\failedOf g=M/\(arrOf g).toList.Pairwise _) L (λx t=>by
   have hm:x∈(`xgb).toList:=by simpa using t
   rw[pairsOf_toList]at hm;exists mem_zip_self hm,e1,e2;grind) L L L λg C z y=>{C,z,(y)}) ?_ λ_ _ e=>e)))
  rintro⟨⟨⟩,g⟩ D ⟨rfl,d,m,p⟩;calc Zy<|seqEpoch_at at2 L<|Zy<|listUpdate_at at2 L ?_ (hsz2:=room _ d);rw[m];simp only[bne_self_eq_false,Xq,↓reduceIte];exact Zt (done _ d p)
 .have no:vs.toArray.size<2:=by lia
  rw[Zp no,Zp no];calc Zy<|Zt<|Zy ?_;rw[StateT.run_pure];calc Zt<|Zy<|seqEpoch_at at2 L<|Zy<|listUpdate_at at2 L ?_ (hsz2:=room _<|Array.Perm.refl _);simp only[bne_self_eq_false,Xq,↓reduceIte];refine Zt (done (vs.toArray.zip _) (Array.Perm.refl _) ?_)
  match vs,two with
  |[],_=>simp
  |[_],_=>simp
  |_::_::_,q=>simp at q
def nl(h:b<n)(k:Nat):b≠n+k:=Zg<|Zk h<|ZX _ _
structure TN(prog:UF)(w:XAE)(Q:Y2)(vs:Vq)(s1:On) where
 G:SC->Prop
 r:SC->SC->Bool
 kd:SortKind
 hC:∀(A:UV)(E:Y2)(h:XAD),(∀b o,s1.heap.get? b=some o->h.get? b=some o)->QH prog w A E { s1 with heap:=h } kd G r
 hG:∀v∈vs,G (v,v)
 hlen:⇑vs<=Pi
 hkk:2<=⇑vs->∀(A:UV)(E:Y2)(h:XAD),(∀b o,s1.heap.get? b=some o->h.get? b=some o)->∀Q:SortKind->On->Prop,Q kd { s1 with heap:=h }->SB `ax A `xiE Q E { s1 with heap:=h }
 h:∀(out:Vq)(h':XAD)(e:Nat),out.Perm vs->(out.map λv=>(v,v)).Pairwise `xag->(∀b o,s1.heap.get? b=some o->h'.get? b=some o)->h'.get? s1.heap.objs.size=some (seqObj "list" out.toArray e)->Q `xhe { s1 with heap:=h' }
def pU(f:∀(i:UV)(n:Y2),i.handled=A.handled->SB `ax i (collect x) (λd s1=>Nonempty<|TN prog w Q d s1) n s) :
  SB `ax A (call (.builtin "sorted") [x]) Q E s:=by
 calc Calls.call_function_entry kind_sorted plain_sorted entry_sorted (args_sorted1 _)<|?_;calc Zy<|Zt<|Zy<|YC (f _ (λ_ _=>False) L) ?_ λ_ _ e=>e.elim;rintro d s1 ⟨⟨G,r,kd,hC,hG,hlen,hkk,h⟩⟩;calc Zy (wpAny_newList ?_<|by calc hlen);have a:(s1.heap.push _).get? _=Y (seqObj "list" d.toArray 0):=ZZ _ L;have old:∀b o,s1.heap.get? b=Y o->(kK (s1.heap.push<|seqObj "list" d.toArray 0) _ d).get? b=Y o:=λb o e=>by
  have hb:=Zb e;unfold kK;rw[XE _ _ _ (by rw[size_push',VE,size_push'];calc nl hb 2),XE _ _ _ (by rw[VE,size_push'];calc nl hb 1),Heap.get?_update_ne _ _ _ _ `xgr,XE _ _ _ `xgr];exact e
 calc Zy<|Yb<|Xl slot_list_sort {_,a,(rfl)} entry_list_sort (CH a (hC _ _ _ old) hG hlen (λm=>hkk m _ _ _ old) λout l j=>{_,rfl,?_})<|args_list_sort _;exists sortedHeap_at a,e,he;exact Zt {_,rfl,h _ _ e l j (λb o g=>by
  have hb:=Zb g;rw[sortedHeap_old `xgr (by rw[size_push'];calc Rz hb),XE _ _ _ `xgr];calc g) he}
end TS
namespace L2
open TS
theorem vC:∀{a:Vq},(∀v∈a,∃x t,v=Value.str x t)->aS ((a.map strOf).map V.str) a
 |[],_=>.nil
 |u::a,h=>by
  exists h u (Zv ..),x,t,rfl;calc .cons {t,(rfl)}<|vC λv b=>h v<|Zs _ b
end L2
namespace VS
mutual
theorem qF:∀(n:Nat)(t:T),Pk n t=J->eqT t t=J
 |n,.non,_=>rfl
 |n,.bl b,_=>beq_self_eq_true b
 |n,.int b,_=>beq_self_eq_true b
 |n,.str b,_=>beq_self_eq_true b
 |n+1,.tup l,h=>by
  calc nt n l `xiM
 |n+1,.lst l,h=>by
  calc nt n l `xiM
 |0,.tup _,h=>nomatch h
 |0,.lst _,h=>nomatch h
 |0,.scr _,h=>nomatch h
 |_+1,.scr _,h=>nomatch h
 |0,.dct _ _,h=>nomatch h
 |_+1,.dct _ _,h=>nomatch h
 |0,.obj _ _,h=>nomatch h
 |_+1,.obj _ _,h=>nomatch h
theorem nt:∀(n:Nat)(l:Uc),(∀t∈l,Pk n t=J)->Bs l l=J
 |_,[],_=>rfl
 |n,t::r,h=>by
  calc Zd.mpr {qF n t<|h t Zv,nt n r λu a=>h u<|Zs _ a}
end
def KD{α:Type}(l:`ew)(a b:`lc):⇑(cut l a b)<=⇑l:=by
 unfold cut;simp only[Xr,Yj];omega
def Ik{α:Type}(l:`ew)(a b:`lc){x:α}(h:x∈cut l a b):x∈l:=by
 calc Xo<|YK h
def yP{α:Type}(l:`ew)(k:Nat):cut l M (Y (k:Int))=l.take k:=by
 have h:¬((k:Int)<0):=by lia
 by_cases a:k<=⇑l
 .simp[cut,clip,h,YJ a]
 .rw[Yq `am];simp[cut,clip,h,Up<|Uo a]
def kY{i j:Int}(h:decide (i<j)=r):oLt (m,.int i) (n,.int j)=Y (.fr,.bl r):=by subst h;rfl
def mP(e:a U=Y (m,.lst l)):iK a U=Y (m,l):=by
 show (`Db).bind _=_;rw[e];rfl
def cG{tg:Tg}{it:SH}{body:Sx}{U:Env}{m:Md}{l:Uc}(e:it U=Y (m,l))(h:okF m=J):jg tg it body U=forL tg body l U:=by
 simp_all
def aL{g:Fn}{as:OG}{U:Env}{t:T}(h:as U=Y a)(b:g `xaz=Y (.fr,t)):bu g as U=Y (.fr,t):=by
 simp_all
def aG{i:Nat}{e:Ex}{U:Env}{m:Md}{t:T}(h:e U=Y (m,t))(a:m ≠ .bo)(b:`xhi):aY i e U=Y `xlL:=by
 simp_all
def pH(h:e U=Y (.fr,t))(a:qG t=J)(b:`xhi):j4 i e U=Y (.nx {`mz,.ow t}):=by
 simp_all
open L2
theorem lK(x:Tx):∀l:List Tx,(sI x l).Perm<|x::l
 |[]=>YS _
 |y::r=>by
  unfold sI;split
  .exact((lK x r).cons y).trans<|List.Perm.swap _ _ _
  .exact YS _
theorem kg:∀l:List Tx,(jh l).Perm l
 |[]=>YS _
 |x::l=>(lK x _).trans<|(kg l).cons x
theorem vk(x:Tx):∀{l:`cr},l.Pairwise (λa b=>¬b<a)->(sI x l).Pairwise (λa b=>¬b<a)
 |[],_=>List.pairwise_singleton _ _
 |y::r,h=>by
  unfold sI;rw[qB];exists Wi.mp h,f,e;split
  .rename_i c;calc Wi.mpr {λz d=>?_,vk x e};obtain rfl|d:=Zi.mp ((lK x r).mem_iff.mp d)
   .grind
   .exact f z d
  .rename_i c;have g:¬y<x:=by simpa using c
   calc Wi.mpr {λz d=>?_,h};grind
theorem sL:∀l:List Tx,(jh l).Pairwise (λa b=>¬b<a)
 |[]=>List.Pairwise.nil
 |x::l=>vk x<|sL l
def sv{d:`cr}(h:d.Perm l)(e:d.Pairwise (λa b=>¬b<a)):d=jh l :=
 List.Perm.eq_of_pairwise (λa b _ _ g f=>List.le_antisymm {`xbu,g} {`xbu,f}) e (sL l) (h.trans (kg l).symm)
def Cy(s:Tx):(`A6).cps.toList=s:=rfl
def EZ{f:`cr}{d:`e_}(h:d.Perm<|f.map sx)(i:d.Pairwise (λa b=>¬b.cps.toList<a.cps.toList)):d=(jh f).map sx:=by
 have e:d=(`xgL).map sx:=by
  rw[QF]
  conv=>lhs;rw[<-Vk d]
  apply YU;intro x g;exists ZW.mp (h.mem_iff.mp g),s,_,rfl;show sx s=sx (`A6).cps.toList;rw[Cy]
 have e2:`xgL=jh f:=by
  refine sv ?_ ?_
  .have:=h.map λx:Str=>x.cps.toList;rw[QF]at this;have e3:((λx:Str=>x.cps.toList) ∘ sx)=id:=by
    funext s;exact Cy s
   rw[e3,Vk]at this;exact this
  .rw[Y6];exact i
 rw[e,e2]
def txB(s:Tx):Bool:=decide (⇑s<=gn)&&s.all (λc=>decide (c<1114112))
def Km{s:Tx}(h:txB s=J):lF s:=by
 unfold txB at h;simp at h;calc h
theorem zb{H:Hp}:∀{a:`cr},(∀s∈a,lF s)->RpL G H (a.map λs=>V.str `A6) (a.map T.str) (a.map λ_=>[])
 |[],_=>.nil
 |s::a,h=>.cons (.str s<|h s<|Zv ..)<|zb λx b=>h x<|Zs _ b
theorem iY{α β:Type}:∀(l:`ew),(l.map λ_=>([]:List β)).flatten=[]
 |[]=>rfl
 |_::l=>by simp
def D4{G:Gx}{Z:Os}{U:VS.Env}{i H:Hp}{d:`cr}{Q:VK}(k:∀v g F,aN H g->Rp G g v {`xba,(jh d).map T.str} F->Fp Z U i .fr F->Q v g)(m:aN i H)(j:∀s∈d,lF s) :
  ∀(l:Pv)(f:`e_),H l=M->f.Perm `xhk->f.Pairwise (λa b=>¬b.cps.toList<a.cps.toList)->Q `z_ {`oX,l,f.map V.str}:=λq f h n hw=>by
 rw[EZ n hw];have r:Rp G _ _ _ _:=.lst (by rw[av,QF];rfl)<|zb (G:=G) (H:=upd H q<|.lst<|((jh d).map sx).map _) λs hs=>j s<|(kg d).mem_iff.mp hs;rw[iY]at r;calc k _ _ _ (bI h) r<|Fp.new (m.free h) (by simp) Fp.nil
theorem keys_str:∀{a:`e9}{b:`cr},strs? `xlt=Y b->a=(b.map sx).map Sum.inr
 |[],_,e=>by cases e;rfl
 |.inl i::a,_,e=>by cases e
 |.inr x::a,b,e=>by
  exists Zx.mp (e),d,e1,e2;subst e2;rw[keys_str e1];simp[sx]
def nF:bootBuiltins ("sorted" : Str)=Y (.builtin "sorted"):=by decide +kernel
end VS
namespace ST
variable{A:UV}
noncomputable def SS(w:XAE):Bool:=w.params.followText "set-order"
noncomputable def nm(l:`xnf):List Str:=l.map λe=>strOf e.2
abbrev bare(w:XAE):Obj:={ cls:=.type "set",dict:=M,data:=.set #[] 0 (.fresh 0 0<|!SS w) }
def GB{s:On}(v:Re){Q:Y2}(h:Q `eH { s with heap:=s.heap.push `xhB }) :
  codeAny `ax A (.call (.builtin "set.__new__") {[.type "set",v],[]}) (wants Q E) s:=by
 calc codeAny_of_tree<|Zy<|wpAny_of_eq (F.newCall_set_1 v)<|Zt {We F.plain_set_new _,XZ F.entry_set_new ?_};rw[Y9 F.plain_set_new];have own:=sub_set_self;cases s;unfold Builtin.«set.__new__» Builtin.Frozenset.newClass
 wp_walk
 calc X1<|Zt ?_;calc Zy<|wpAny_alloc<|Zt<|Zt h
end ST
namespace ST
variable{A:UV}
def o7:Slot "set_iterator" "__next__" "set_iterator.__next__" := .of (owner := "set_iterator") (n := "__next__") (by rw[V1,WC];kernel_rfl) (by decide +kernel) (by decide +kernel)
 (by decide +kernel) (by first|calc .inl (by decide +kernel)|calc .inr<|by decide +kernel) (by rw[Vf];kernel_rfl)
def zY:Slot "set_iterator" "__iter__" "set_iterator.__iter__" := .of (owner := "set_iterator") (n := "__iter__") (by rw[V1,WC];kernel_rfl) (by decide +kernel) (by decide +kernel)
 (by decide +kernel) (by first|calc .inl (by decide +kernel)|calc .inr<|by decide +kernel) (by rw[Vf];kernel_rfl)
def FT:entryFor table "set_iterator.__next__" = Y Builtin.«set_iterator.__next__» := entryFor_of_fast (by kernel_rfl)
def HE:entryFor table "set_iterator.__iter__" = Y Builtin.«dict_keyiterator.__iter__» := entryFor_alias (id' := "dict_keyiterator.__iter__") (by kernel_rfl) L (by decide +kernel) (by kernel_rfl)
def Hw:entryFor table "set.__iter__" = Y Builtin.«frozenset.__iter__» := entryFor_alias (id' := "frozenset.__iter__") (by kernel_rfl) L (by decide +kernel) (by kernel_rfl)
def FQ(v:Re):argsOk "set_iterator.__next__" {[v],[]}:=by kernel_rfl
def Gi(v:Re):argsOk "set_iterator.__iter__" {[v],[]}:=by kernel_rfl
def wp_choose(b:n≠0)(h:∀i d,i<n->Q i { s with drawn:=d }):SB `ax A (choose a n) Q E s:=λΓ p _=>by
 exact{b,h _ _<|Wy _<|Yx b}
theorem pC{α:Type}:∀(l:`ew){i:Nat}(h:`UJ),(l[i]::l.eraseIdx i).Perm l
 |a::l,0,_=>YS _
 |a::l,i+1,h=>((List.Perm.swap _ _ _).trans<|(pC l<|by simpa using h).cons a)
def AE{α:Type}:∀(n:Nat)(a:`ew)(s:On)(Q:List α->On->Prop),n=⇑a->(∀b d,b.Perm a->Q b { s with drawn:=d })->SB `ax A (drawOrder n a) Q E s:=by
 intro n
 induction n with
 |zero =>
  intro a s Q e h;cases a with
  |nil=>calc Zt<|h [] _<|YS _
  |cons x a=>calc absurd e (by simp)
 |succ n g =>
  intro a s Q e h;cases a with
  |nil=>calc absurd e (by simp)
  |cons x a =>
   calc Zy<|wp_choose (by simp) λi d f=>?_;rw[Zo f];calc Zy<|g _ _ _ (by grind) λb l j=>Zt<|h _ l ?_;exact(List.Perm.cons _ j).trans<|pC _ f
noncomputable abbrev itO(first:Re)(i:Nat)(a:Pv)(n b:Nat):Obj:={ cls:=.type "set_iterator",data:=.fields #[first,.int i 0,.ref a,.int n 0,.int b 0] }
def Dq{t:SetTable}(h:t.fits n=J):¬((t.place.size != n||decide (t.fill > t.mask))=J):=by
 unfold SetTable.fits at h
 simp_all
def E6{s:On}(f:`F_)(h:∀(a:XAD)(x:Pv),(∀b o,s.heap.get? b=Y o->a.get? b=Y o)->(∃o,a.get? x=Y o/\o.cls=.type "StopIteration")->d `xkH { s with heap:=a }) :
  SB `ax A (newExc (.type "StopIteration") [] >>= λe=>raiseNew e) Q d s:=by
 calc Zy (Zy<|Xb (Zy<|wpAny_of_eq (by first|rfl|(rfl))<|Xb ?_<|by size_fits)<|by size_fits);calc Zy<|wpAny_handled ?_;calc f ▸ Zy (Zt<|wpAny_throw<|h _ _ (λb o e=>Zm _<|Zm _ e) {_,ZZ _ L,rfl})
def AH{s:On}(i:s.heap.get? I=Y { cls:=.type "set_iterator",data:=.fields j })(h:SB `ax A.in1 (Builtin.«set_iterator.__next__» {[.ref I],[]}) (λf a=>∃v,f=.done `xhA/\Q `xer a) (λe a=>∃x,e=.ref x/\(∃o,a.heap.get? x=Y o/\o.cls=.type "StopIteration")/\Q M a) s) :
  SB `ax A {`x6,I} Q E s:=by
 have ty:s.TypeIs (.ref I) _:={_,i,(rfl)}
 refine Zy<|wpAny_attempt<|wpAny_callSpecial?_slot ty o7<|Xl o7 ty FT (YC h (λf a d=>?_) λe a he=>?_)<|FQ _
 .ext d v rfl q;exact{v,rfl,Zt q}
 .ext he x rfl ⟨o,b,g⟩ q;calc Zy {`xcK,b,g}
noncomputable abbrev yb(a:`Wo)(b:Nat)(t:SetTable):Obj:={ cls:=.type "set",dict:=M,data:=.set a b t }
def rh{s:On}{q:Uj}(z:`F_)(v:{`s_,a,yb f m t})(r:t.fits f.size=J)(h:{`s_,I,itO `xal i a f.size m})(y:{`s_,p,n})(C:n.data=.seq (q.map λ(k:Nat)=>rawInt k).toArray u)(F:∀j x,q[i]?=Y j->f[j]?=Y x->∀d,Heap.SameBut I s.heap d->d.get? I=Y (itO `xal `I_ a f.size m)->Q (Y x.2) { s with heap:=d })(G:∀j,q[i]?=Y j->j<f.size)(D:q[i]?=M->∀d,(∀b o,b≠I->s.heap.get? b=Y o->d.get? b=Y o)->Q M { s with heap:=d }) :
  SB `ax A {`x6,I} Q E s:=by
 refine AH h ?_
 wp_walk
 rw[Zn<|Dq r];calc Zt<|Zt ?_;rw[Zn<|by simp];calc Zy<|wpAny_seqItems y C ?_;dsimp only;rw[YR];cases g:q[i]? with
 |some j =>
  have e1:(q.map λ(k:Nat)=>rawInt k).toArray[i]?=Y (rawInt j):=by simp[g]
  rw[e1];calc Zy<|Zy<|Yy v L r ?_;dsimp only;rw[YR,Zn<|by simp];rw[YR];cases l:f[j]? with
  |none=>simp_all
  |some x =>
   calc Zt<|Zy<|X0 h L (by show 1<5;decide)<|Zt {_,rfl,F j x g l _ (XW ..) ?_};calc Ys _ h L
 |none =>
  have e1:(q.map λ(k:Nat)=>rawInt k).toArray[i]?=M:=by simp at g ⊢;exact g
  rw[e1];calc Zy<|X0 h L (by show 0<5;decide)<|Zy<|X0 (Ys _ h L) L (by show 2<5;decide)<|E6 z λd x kp l=>{x,rfl,l,D g d λb o hb e=>kp b o ?_};exact(Yp _ _ `xfH).trans<|(Yp _ _ `xfH).trans e
def kJ{prog:UF}{w:XAE}{s:On}{I a:Pv}{i h m:Nat}{g:`Wo}{t:SetTable}{r:Option `xnd}{Q:Ve->On->Prop}(u:`F_)(y:{`s_,a,yb g h t})(v:t.fits g.size=J)(f:{`s_,I,itO (.int m 0) i a g.size h})(q:∀(Q:Option `xnd->On->Prop)(E:Y2),Q r s->SB `ax A.in1 (setNext a m i h) Q E s)(l:∀x nx,r=Y (x,nx)->∀d,Heap.SameBut I s.heap d->d.get? I=Y (itO (.int nx 0) `I_ a g.size h)->Q (Y x) { s with heap:=d })(j:r=M->∀d,(∀b o,b≠I->s.heap.get? b=Y o->d.get? b=Y o)->Q M { s with heap:=d }) :
  SB `ax A {`x6,I} Q E s:=by
 refine AH f ?_
 wp_walk
 rw[Zn<|Dq v];calc Zt<|Zt ?_;rw[Zn<|by simp];refine Zy (q _ _ ?_)
 match r,l,j with
 |some (x,nx),l,_ =>
  have n:=Ys (Obj.mapFields (·.setIfInBounds 0 (rawInt nx))) f L;calc Zy<|X0 f L (by show 0<5;decide)<|Zy<|X0 n L (by show 1<5;decide)<|Zt {x,rfl,l x nx L _ (Heap.SameBut.trans (XW ..)<|XW ..)<|Ys _ n L}
 |none,_,j =>
  calc Zy<|X0 f L (by show 2<5;decide)<|E6 u λd x kp p=>{x,rfl,p,j L d λb o hb e=>kp b o ?_};exact(Yp _ _ `xfH).trans e
theorem zd{α:Type}(f:Nat->Nat):∀(n k:Nat)(l:`ew)(out:`xfg),⇑l=n->(pickOrder.go f n k l out).toList.Perm (out.toList++l)
 |0,k,l,out,h=>by
  cases l with
  |nil=>unfold pickOrder.go;simp
  |cons a l=>simp at h
 |n+1,k,l,out,h=>by
  have hl:f k%⇑l<⇑l:=Wy _ `am;unfold pickOrder.go;rw[Zo hl];refine(zd f n _ _ _<|by grind).trans ?_;rw[Ut,ZU];calc List.Perm.append_left _<|pC l hl
def kF{α:Type}(f:Nat->Nat)(a:`xfg):(pickOrder f a).toList.Perm a.toList:=by
 unfold pickOrder;simpa using zd f _ 0 a.toList #[] L
def AK{s:On}(l:SS w=J)(g:{`s_,a,yb b d t})(j:`xnc)(Q:Option `xnd->On->Prop)(E:Y2)(h:Q (({`SO,d,b}[i]?).map λe=>(e.2,f)) s):SB `ax A (setNext a f i d) Q E s:=by
 have sb:∀(Q:Bool->On->Prop),Q _ s->SB `ax A setsByText Q E s:=λQ q=>Zy<|X1<|Zt (by show Q (SS w) s;calc l ▸ q);calc Zy<|Yy g L j<|Zy<|sb _ ?_;rw[Zp L,Zn<|by simp];calc Zy<|Zy<|Yy g L j<|Zy<|sb _ ?_;calc Zp L ▸ Zy (X1<|Zt<|Zt h)
end ST
namespace ST
variable{A:UV}
noncomputable abbrev Gs:Array GenState->Array GenState->Prop:=λa b=>b=a
def nc{prog:UF}{w:XAE}{I a:Pv}{r:Vr}{j:`Wo}{l:Nat}{t:SetTable}{m:Vq}(first:Nat->Re)(d:XAD->Prop)(C:I∈r)(z:a∈r)(D:a≠I)(u:∀h f:XAD,d h->(∀b∈r,b≠I->∀o,h.get? b=Y o->f.get? b=Y o)->d f)(step:∀(i:Nat)(s:On)(Q:Ve->On->Prop)(E:Y2),i<j.size->s.heap.get? a=Y `xls->s.heap.get? I=Y (itO (first i) i a j.size l)->d s.heap →
   (∀v f,m[i]?=Y v->Heap.SameBut I s.heap f->f.get? I=Y (itO (first `I_) `I_ a j.size l)->Q `xer { s with heap:=f })->SB `ax A {`x6,I} Q E s)(stop:∀(s:On)(Q:Ve->On->Prop)(E:Y2),s.heap.get? a=Y `xls->s.heap.get? I=Y (itO (first j.size) j.size a j.size l)->d s.heap →
   (∀f,(∀b o,b≠I->s.heap.get? b=Y o->f.get? b=Y o)->Q M { s with heap:=f })->SB `ax A {`x6,I} Q E s) :
  WalksS prog w A I r [I] Gs j.size (λi v=>m[i]?=Y v) (λi s=>s.heap.get? a=Y `xls/\s.heap.get? I=Y (itO (first i) i a j.size l)/\d s.heap) where
 sub:=λb hb=>by simp_all
 grefl:=λ_=>rfl
 gtrans:=λ_ _ _ p q=>q.trans p
 frame:=λi s f F st _ kp=>{kp a z _ st.1,kp I C _ st.2.1,u _ _ st.2.2 λb hb _ o e=>kp b hb o e}
 item:=λi s Q E y st n=>step i s Q E y st.1 st.2.1 st.2.2 λv f x sb g=>n v _ x {(sb.2 a D).trans st.1,g,u _ _ st.2.2 λb _ hb o e=>(sb.2 b hb).trans e} {λb o hb e=>(sb.2 b λq=>hb<|by simp_all).trans e,rfl,rfl,rfl,Zq _}
 done:=λs Q E st n=>stop s Q E st.1 st.2.1 st.2.2 λf kp=>n _ {λb o hb e=>kp b o (λq=>hb<|by simp_all) e,rfl,rfl,rfl,Zq _}
 self:=λi s Q E st n=>VT {_,st.2.1,(rfl)} zY<|Xl zY {_,st.2.1,(rfl)} HE (Zt {_,rfl,_,_,{_,st.2.1,(rfl)},o7.lookup,n})<|Gi _
def Ready(b:UF)(w:XAE)(d:Nat)(a:Pv)(e:`Wo)(I:Pv)(s:On):Prop :=
 ∃(ord:Vq)(p:Pv),ord.Perm (e.toList.map (·.2))/\d<=I/\d<=p/\∃St:Nat->On->Prop,(∀A:UV,A.handled=M->WalksS b w A I [I,a,p] [I] Gs e.size (λi v=>ord[i]?=Y v) St)/\St 0 s
def Ck{s:On}(f:s.TypeIs `bz "set")(h:Q B s):SB `ax A (Builtin.List.listLengthHint `bz) Q E s:=by
 calc Zy<|VA f PySem.F.slot_set_len.lookup ?_;generalize d:("set.__len__" : String)=nm
 wp_delta
 rw[show splitId nm=Y ("set", "__len__") from by subst d;decide +kernel];subst d;calc Zy<|WB (T := "set") (b:=J) f sub_set_self<|wpAny_ite_split `xas λ_=>wpAny_ite_split (λ_=>Zy<|WM f<|Zt h) λe=>absurd (by decide +kernel) e
end ST
namespace L2
open TS
def Inv.drew(I:{`p_,a})(d:Drawn):Inv X a O H { s with drawn:=d } :=
 {I.ok,I.os,I.bare,I.base,I.loc,I.cell,I.free,I.PF,I.pin,I.Og,(I.len)}
end L2
namespace VS
open L2
def CJ:bootBuiltins ("set" : Str)=Y (.type "set"):=by decide +kernel
inductive Ra(G:Gx)(H:Hp):List Ky->V->V->Prop
 |nil (v:V):Ra G H [] v v
 |fld {c k:Nat} {a dx:Pv} {fs:{`wP,V}} {u w:V} {ks:`T4}:H a=some (.ins (`be).1 dx fs)->fs.lookup ((`be).2 k)=some u->Ra G H ks u w->Ra G H (.fld k::ks) `bz w
 |ix {a:Pv} {vs:`cg} {i:Int} {j:Nat} {u w:V} {ks:`T4}:H a=some (.lst vs)->Pq ⇑vs i=some j->vs[j]?=some u->Ra G H ks u w->Ra G H (.at `KE::ks) `bz w
 |key {a:Pv} {cp:{`n7,V}} {k:Key} {u w:V} {ks:`T4}:H a=some (.dK cp)->iN cp k=some u->Ra G H ks u w->Ra G H (.at `xfR::ks) `bz w
 |un {v w:V} {ks:`T4}:Ra G H ks v w->Ra G H (.un::ks) v w
def vc{f:Wc}{i j:Nat}{F l:Vr}(d:f.flatten.Nodup)(b:f[i]?=Y F)(e:f[j]?=Y l)(n:i≠j){a:Pv}(h:a∈F):a∉l:=by
 intro hb
 induction f generalizing i j with
 |nil=>simp at b
 |cons G Gs g =>
  rw[Xi,ZG]at d;cases i with
  |zero =>
   simp at b;clear g;subst b;cases j with
   |zero=>calc n L
   |succ j=>calc d.2.2 a h a (dA (by simpa using e) hb) L
  |succ i =>
   cases j with
   |zero =>
    simp at e;clear g;subst e;calc d.2.2 a hb a (dA (by simpa using b) h) L
   |succ j=>calc g d.2.1 (by simpa using b) (by simpa using e) `am
def cU{d:Wc}(h:a∈(d.set j f).flatten):a∈f\/∃i F,i≠j/\d[i]?=Y F/\a∈F:=by
 exists ik h,i,F,b,g;by_cases e:i=j
 .subst e;rw[List.getElem?_set_self' ]at b
  simp_all
 .rw[YZ<|Yg e]at b;calc .inr {i,F,e,b,(g)}
theorem fo:∀{p:Wc}{j:Nat}{f:Vr},p.flatten.Nodup->f.Nodup->(∀i F,i≠j->p[i]?=Y F->∀a∈F,a∉f)->(p.set j f).flatten.Nodup
 |[],_,_,h,_,_=>by simpa using h
 |G::Gs,0,f,h,o,d=>by
  rw[Xi,ZG]at h;rw[List.set_cons_zero,Xi,ZG];refine{o,h.2.1,λa g b hb e=>?_};subst e;exists ik hb,i,F,m,l;calc d `I_ F `am (by simpa using m) a l g
 |G::Gs,j+1,f,h,o,d=>by
  rw[Xi,ZG]at h;rw[List.set_cons_succ,Xi,ZG];refine{h.1,fo h.2.1 o λi F n q=>d `I_ F `am<|by simpa using q,λa g b hb e=>?_};subst e;rcases cU hb with z|⟨i,F,n,m,l⟩
  .exact d 0 G `am L a g z
  .exact h.2.2 a g a (dA m l) L
def RpL.each:∀{f:`cg}{e:Uc}{g:Wc},RpL G H f e g->(∀(i:Nat) v t F,f[i]?=Y v->e[i]?=Y t->g[i]?=Y F->Rp G H v t F->Rp G h v t F)->RpL G h f e g:=by
 intro f e
 induction e generalizing f with
 |nil=>intro g r k;clear k;cases r;calc .nil
 |cons t e j =>
  intro g r k;cases r with
  |cons r q=>calc .cons (k 0 _ _ _ L L L r)<|j q λi v t F a b c d=>k `I_ v t F a b c d
def RpL.setAt:∀{e:`cg}{f:Uc}{g:Wc}{j:Nat}{u:V}{l:T}{o:Vr},RpL G H e f g->e[j]?=Y u->Rp G m u l o->(∀(i:Nat) v t F,i≠j->e[i]?=Y v->f[i]?=Y t->g[i]?=Y F->Rp G H v t F->Rp G m v t F)->RpL G m e (f.set j l) (g.set j o):=by
 intro e f g j u l o q;revert j;apply RpL.ind ?_ ?_ q
 .exact λh=>nomatch h
 intro v t F e f g r q s j h p k;cases j with
 |zero=>cases h;calc .cons p<|RpL.each q λi v t F a b c d=>k `I_ v t F (Nat.succ_ne_zero i) a b c d
 |succ j=>calc .cons (k 0 _ _ _ (Nat.zero_ne_add_one j) L L L r)<|s h p λi v t F n a b c d=>k `I_ v t F {`xcH,n,W4 z} a b c d
def o8(N:`xkc)(E:RpL G H s D e)(l:(a::e.flatten).Nodup)(O:s[j]?=Y u)(y:e[j]?=Y A)(g:Chg G H u A C q f):q a=Y o/\RpL G q s (D.set j C) (e.set j f)/\({`xcQ,e.set,f}).Nodup/\(∀b∈a::(e.set j f).flatten,b∈a::e.flatten\/H b=M)/\∀b o,b∉a::e.flatten->H b=Y o->q b=Y o:=by
 rw[Zc]at l;have d:∀b∈A,b∈e.flatten:=λb hb=>dA y hb;refine{g.keep a o {`xcH,l.1,d a z} N,E.setAt O g.rp<|λi v t F n p m P r=>r.keep g.kept λb hb w x=>g.keep b w (vc l.2 P y n hb) x,?_,λb hb=>?_,λb w hb x=>g.keep b w (λz=>hb<|Zs _<|d b z) x}
 .rw[Zc];refine{λh=>?_,fo l.2 g.nd (λi F n L b hb Q=>by
  obtain z|z:=g.sub b Q
  .exact vc l.2 L y n hb z
  .exact Oy.jj (E.OF b<|dA L hb) z)}
  rcases cU h with z|⟨i,F,n,p,m⟩
  .rcases g.sub a z with z|z
   .exact l.1<|d a z
   .rw[N]at z;cases z
  .exact l.1<|dA p m
 .rcases Zi.mp hb with rfl|hb
  .exact .inl Zv
  .rcases cU hb with z|⟨i,F,n,p,m⟩
   .rcases g.sub b z with z|z
    .simp_all
    .exact .inr z
   .exact .inl<|Zs _<|dA p m
theorem t9{α β:Type}:∀(d:`ew)(bs:`xfK)(i:Nat)(a:α)(y:β),d[i]?=Y a->(`xlr).set i (a,y)=d.zip (bs.set i y)
 |[],_,_,_,_,h=>by simp at h
 |a::d,[],i,_,_,_=>by cases i<;>simp
 |a::d,b::bs,0,_,y,h=>by simp at h;subst h;rfl
 |a::d,b::bs,i+1,_,y,h=>by
  have:=t9 d bs i _ y (by simpa using h);simp[this]
theorem l6{α β:Type}(p:α->Bool):∀{d:`ew}{bs:`xfK}{i:Nat},⇑d=⇑bs->(`xlr).findIdx? (λq=>p q.1)=Y i->∃a b,d[i]?=Y a/\bs[i]?=Y b/\p a=J/\(`xlr).find? (λq=>p q.1)=Y (a,b)
 |[],[],_,_,h=>by simp at h
 |a::d,b::bs,i,hl,h=>by
  rw[SE,V6]at h;by_cases e:p a=J
  .rw[Zp e]at h;obtain rfl:=Om h;exact Pd a b {rfl,rfl,e,by simp[e]}
  .rw[Zn e]at h;calc ai λt g=>?_;exists Zx.mp h,j,f,rfl;refine Oo (l6 p (by simpa using hl) f) λs r=>OI λo n m l=>?_
   simp_all
theorem Ab:∀{ns:`e9}{d:Uc}{a:`cg}{i:Nat},⇑ns=⇑d->⇑ns=⇑a->({`wT,d}).findIdx? (λq=>eqT q.1 `xfR)=Y i->a[i]?=Y u->iN (ns.zip a) k=Y u
 |[],_,_,_,_,_,h,_=>by simp at h
 |n::ns,t::d,v::a,i,m,l,h,e=>by
  rw[Zh,SE,V6]at h;by_cases b:eqT (bp n) `xfR=J
  .rw[Zp b]at h;obtain rfl:=Om h;simp at e;subst e;exact jW<|(jv k n).mp b
  .rw[Zn b]at h;exists Zx.mp h,j,g,rfl;have f:n≠k:=λz=>b<|(jv k n).mpr z;have:iN ((n::ns).zip<|v::a) k=iN (ns.zip a) k:=by simp[iN,f]
   calc this ▸ Ab (by simpa using m) (by simpa using l) g (by simpa using e)
 |_::_,[],_,_,h,_,_,_=>by simp at h
 |_::_,_::_,[],_,_,h,_,_=>by simp at h
def fh(r:{`ss,.obj `xfV<|h::i}):∃(f:Nat)(a l:Pv)(b:Bool)(e:Uj)(d:`cg)(g:Uc)(j:Wc),c+1=f+1/\v=.ref a/\h=(0,.bl b)/\i=e.zip g/\F=a::j.flatten ∧
  H a=Y (.ins (G.ct<|f+1).1 l {`xdP,e.map,f+1,d})/\⇑e=⇑d/\(b=J->G.me 0=Y `bz)/\RpL G H d g j:=r.inv
def rD(r:Rp G H v (.obj 0 [(0,.bl J),(m,t)]) F):∃a,v=.ref a/\G.me m=Y `bz/\Rp G H `bz t F:=r.inv _ _ L
def vw{G:Gx}{c e:Nat}(o:∀c k g:Nat,(`xen).2 k=(`xen).2 g->k=g){d:Uj}{b:`cg}{f:Uc}{u:V}{i:Nat}(h:⇑d=⇑b)(a:(`xiJ).findIdx? (λq=>q.1==e)=Y i)(l:d[i]?=Y e)(n:b[i]?=Y u):({`xdP,d.map,c,b}).lookup ((`xen).2 e)=Y u:=by
 induction d generalizing b f i with
 |nil=>simp at l
 |cons m v p =>
  cases b with
  |nil=>simp at h
  |cons t bs =>
   cases f with
   |nil=>simp at a
   |cons s f =>
    rw[Zh,SE,XG];rw[SE,V6]at a;by_cases q:(m==e)=J
    .rw[Zp q]at a;obtain rfl:=Om a
     simp_all
    .rw[Zn q]at a;exists Zx.mp a,j,r,rfl;have:((`xen).2 e==(`xen).2 m)=B:=by
      grind
     calc this ▸ p (by simpa using h) r (by simpa using l) (by simpa using n)
def LM{α:Type}{f:{`Sn,T,α}}{y:α}(e:pm f (.un::d) t=Y (a,y)):∃m x z,t=.obj 0 [(0,.bl J),(m,x)]/\pm f d x=Y (z,y)/\a=.obj 0 [(0,.bl J),(m,z)]:=by
 cases t with
 |obj c fs =>
  cases c with
  |succ c=>cases e
  |zero =>
   cases fs with
   |nil=>cases e
   |cons q fs =>
    ext q n v;cases n with
    |succ n=>cases e
    |zero =>
     cases v with
     |bl b =>
      cases b with
      |false=>cases e
      |true =>
       cases fs with
       |nil=>cases e
       |cons g fs =>
        ext g m x;cases fs with
        |cons _ _=>cases e
        |nil =>
         obtain⟨⟨z,h⟩,e1,e2⟩:=Zx.mp e;clear e;cases e2;calc UE {rfl,e1,(rfl)}
     |_=>cases e
 |_=>cases e
noncomputable abbrev PmC(G:Gx)(H:Hp){α:Type}(f:{`Sn,T,α})(h:`T4)(v:V)(g:T)(F:Vr)(y:α):Prop:=∃w x b d,Ra G H h v w/\Rp G H w x b/\b.Nodup/\f x=Y (d,y)/\∀e a,Chg G H w b d e a->∃i,Chg G H v F g e i
def qr{G:Gx}{α:Type}{f:{`Sn,T,α}}:∀(ks:`T4){v:V}{t t':T}{F:Vr}{y:α},(∀c k k':Nat,(`xen).2 k=(`xen).2 k'->k=k')->Rp G H v t F->F.Nodup->pm f ks t=Y (t',y) →
  PmC G H f ks v t' F y:=by
 intro ks
 induction ks with
 |nil=>intro v t t' F y _ r nd e;calc Oe v t F t' ⟨.nil v,r,nd,e,λL o g=>{_,(g)}⟩
 |cons ky ks ih =>
 intro v t t' F y inj r nd e;cases ky with
 |fld k =>
  cases t with
  |obj c fs0 =>
   cases c with
   |zero=>cases e
   |succ c =>
   cases fs0 with
   |nil=>cases e
   |cons q0 fs =>
   calc ai λP_ U=>?_;exists Zz.mp e,i,X,e;exists Zz.mp e,p,h2,e;obtain⟨⟨z,y'⟩,e1,e2⟩:=Zx.mp e;cases e2;exists fh r,c',a,dx,b,ns,vs,ts,Fs,ec,rfl,rfl,rfl,rfl,E,hl,hb,d;cases ec;calc Oo {`xdc,d.len.1,X} λD q=>OI λg1 g2 g3 g4=>?_;have ek:D=k:=by simpa using g3
   subst ek;have ep:p=(D,q):=by
    have:(ns.zip ts)[i]?=Y (D,q):=by rw[Xw];exact{g1,(g2)}
    simp_all
   clear h2 e;subst ep;calc Oo (d.get i g2) λu Fi=>oe λC A u3=>?_;calc Oj {`xx,A} λw x Z N=>Pf λS R Q P O=>?_;calc U ?_;calc Oe w x Z N {.fld E (vw inj hl X g1 C) S,R,Q,P,λL o g=>?_};exists O L _ g,Fi',h;calc TX `xfB λs1 s2 s3 s4 s5=>?_;refine{_,h.kept,s5,h.OF,?_,s3,s4};calc t9 ns ts i D z g1 ▸ .ins s1 hl hb s2
  |_=>cases e
 |un =>
  calc ai λP_ U=>?_;exists LM e,m,x,z,rfl,e1,rfl;exists rD r,a,rfl,hm,rx;calc Oj (ih inj rx nd e1) λw q Z N=>Pf λS R Q P O=>?_;calc U ?_;calc Oe w q Z N {.un S,R,Q,P,λL o g=>?_};exists O L _ g,F',g';exact{F',g'.kept,g'.keep,g'.OF,.mk hm g'.rp,g'.nd,g'.sub}
 | «at» k =>
  cases t with
  |lst l =>
   cases k with
   |int i =>
    calc ai λP_ U=>?_;exists Zz.mp e,j,X,e;exists Zz.mp e,q,h2,e;obtain⟨⟨z,y'⟩,e1,e2⟩:=Zx.mp e;cases e2;ext r.lst_inv a vs Fs rfl rfl E d;calc Oo (d.get j h2) λu Fi=>oe λC A u3=>?_;calc Oj {`xx,A} λw x Z N=>Pf λS R Q P O=>?_;calc U ?_;calc Oe w x Z N {.ix E (d.len.1 ▸ X) C S,R,Q,P,λL o g=>?_};exists O L _ g,Fi',h;calc TX `xfB λs1 s2 s3 s4 s5=>?_;exact{_,h.kept,s5,h.OF,.lst s1 s2,s3,s4}
   |_=>cases e
  |dct kd l =>
   cases kd with
   |zero =>
    have hk:iJ k=J/\(({`xdF,l.findIdx?,k}).bind λi=>(l[i]?).bind λp=>(pm f ks p.2).map λz=>(T.dct 0<|l.set i (p.1,z.1),z.2))=Y (t',y):=by
     cases k with
     |int i=>exact{rfl,(e)}
     |str s=>exact{rfl,(e)}
     |_=>cases e
    ext hk hk e;exists Zz.mp e,i,X,e;exists Zz.mp e,p,h2,e;obtain⟨⟨z,y'⟩,e1,e2⟩:=Zx.mp e;cases e2;exists fA r,a,ns,vs,ts,Fs,rfl,rfl,E,hl,rfl,d;have lts:⇑(`xjN)=⇑ts:=by rw[Zu];exact hl.trans d.len.1
    calc Oo (l6 (λn=>eqT n k) lts X) λD q=>OI λg1 g2 g3 g4=>?_;have ep:p=(D,q):=by
     have:{`wT,ts}[i]?=Y (D,q):=by rw[Xw];exact{g1,(g2)}
     simp_all
    clear h2 e;subst ep;obtain⟨kk,TK⟩:∃kk:Key,k=bp kk:=by
     cases k with
     |int i=>exact{.inl i,rfl}
     |str s=>exact{.inr `A6,by simp[bp,sx]}
     |_=>cases hk
    calc ai λP_ U=>?_;clear hk g3 g4;subst TK;calc Oo (d.get i g2) λu Fi=>oe λC A u3=>?_;calc Oj {`xx,A} λw x Z N=>Pf λS R Q P O=>?_;calc U ?_;refine Oe w x Z N {.key E ?_ S,R,Q,P,λL o g=>?_}
    .exact Ab (by simpa using lts) hl X C
    .exists O L _ g,Fi',h;calc TX `xfB λs1 s2 s3 s4 s5=>?_;refine{_,h.kept,s5,h.OF,?_,s3,s4};calc t9 _ ts i D z g1 ▸ .dct s1 hl s2
   |succ kd=>cases e
  |_=>cases e
def Ra.same{H:Hp}(e:aN H d)(p:Ra G H b v w):Ra G d b v w:=by
 induction p with
 |nil v=>calc .nil v
 |fld h l _ a=>calc .fld (e _ _ h) l a
 |ix h l m _ a=>calc .ix (e _ _ h) l m a
 |key h l _ a=>calc .key (e _ _ h) l a
 |un _ a=>calc .un a
theorem Ra.split:∀{d:`T4}{v:V},Ra G H (d++[k]) v w->∃u,Ra G H d v u/\Ra G H [k] u w
 |[],v,p=>{v,.nil v,p}
 |_::d,_,.fld h l p=>let ⟨u,a,b⟩:=Ra.split p;{u,.fld h l a,b}
 |_::d,_,.ix h l m p=>let ⟨u,a,b⟩:=Ra.split p;{u,.ix h l m a,b}
 |_::d,_,.key h l p=>let ⟨u,a,b⟩:=Ra.split p;{u,.key h l a,b}
 |_::d,_,.un p=>let ⟨u,a,b⟩:=Ra.split p;{u,.un a,b}
theorem g6:∀{way:`xfa}{i:`T4},keys (way++[s]) U=Y i->∃f k,keys way U=Y f/\keys [s] U=Y [k]/\i=f++[k]
 |[],i,e=>by
  cases s with
  |fld k=>cases e;exact{[],_,rfl,rfl,rfl}
  |un=>cases e;exact{[],_,rfl,rfl,rfl}
  |ix c =>
   exists Zz.mp (e),x,j,g;cases g;exact{[],_,rfl,by simp_all,rfl}
 |.fld k::way,i,e=>by
  calc ai λo m=>?_;exists Zx.mp (e),l,j,g;exists g6 j,f,n,a,b,c;calc m ?_;exact{_,n,by show ((keys _ _).map _)=_;rw[a];rfl,b,by rw[<-g,c];rfl}
 |.un::way,i,e=>by
  calc ai λo m=>?_;exists Zx.mp (e),l,j,g;exists g6 j,f,n,a,b,c;calc m ?_;exact{_,n,by show ((keys _ _).map _)=_;rw[a];rfl,b,by rw[<-g,c];rfl}
 |.ix c::way,i,e=>by
  calc ai λo m=>?_;exists Zz.mp (e),x,h0,h;exists Zx.mp h,l,j,g;exists g6 j,f,n,a,b,d;calc m ?_;exact{_,n,by show ((_:Option _).bind _)=_;rw[h0];rw[a];rfl,b,by rw[<-g,d];rfl}
def tPl(G:Gx)(i:Nat)(a:`xfa):TE:=λO H Q=>∃Z U t b v w,SR G Z U O H/\U[i]?=Y `vz/\O[i]?=Y `xer/\keys a U=Y b/\Ra G H b v w/\∀d,aN H d->Q w d
def SG(G:Gx)(X:Cx)(e:Expr)(i:Nat)(a:`xfa):Prop:=PE X e<|tPl G i a
def PE.Tp(h:PE X e t)(w:∀O H Q,tPl G i a O H Q->t O H Q):SG G X e i a:=λb s O H Q I q=>h _ s O H Q I `xau
def bJ{X:Cx}(i:Nat)(h:{`q8,X.N[i]?=Y x})(d:{`q9,RP X.env.scope x})(g:{`q8,Qx x})(a:{`q8,Qy x}):SG G X `xfo i [] :=
 PE.Tp (eD h d g a) λO H Q f=>by
  calc xE6 f λZ U t o v w=>SK λs p n m l j=>?_;cases (m);cases l;exact{v,n,j H<|aN.refl _}
def LP(h:`xgK):SG G X e i (way++[.un]) :=
 PE.Tp h λO H Q j=>by
  calc ai λy g=>?_;calc xE6 j λZ U t r v w=>SK λs p o n m l=>?_;exists g6 n,f,x,a,b,rfl;cases (b);ext m.split u p1 d;calc g ?_;cases d with
  |un q =>
   cases q;calc SV Z U t _ v w {s,p,o,a,p1,(l)}
structure P0(G:Gx)(K:W0)(k:Nat)(f:Str):Prop where
 nm:∀c,(`be).2 k=f
 cl:∀c,QM K (`be).1
 no:∀c,bj K (`be).1 f
def gz{X:Cx}(k:Nat)(F:`xiD)(h:`xgK)(n:{`q8,Tj e f X}):SG G X {`z3,e,f,pos} i (way++[.fld k]) :=
 PE.Tp (C6 h n) λO H Q m=>by
  calc ai λN l=>?_;calc xE6 m λZ U t E v w=>SK λs z y x r p=>?_;exists g6 x,j,L,a,b,rfl;cases (b);ext r.split u p1 g;calc l ?_;calc SV Z U t _ v u {s,z,y,a,p1,λC d=>?_};cases g with
  |@fld c _ a A fs D _ _ o hl q =>
   cases q;rw[F.nm c]at hl;calc PM a _ A fs w {rfl,d a _ o,F.cl c,F.no c,hl,p C d}
def IT{X:Cx}(S:Of E X.A)(h:`xgK)(hb:PV G X b c)(R:gI b)(hK:`xfA):SG G X {`o0,e,pos} i (way++[.ix c]) :=
 PE.Tp (ox {`xbM,S} h hb R) λO H Q hq=>by
  calc ai λP_ F=>?_;calc xE6 hq λZ U t ks v w=>SK λs h1 h2 h3 h4 h5=>?_;exists g6 h3,D,k',a,b',rfl;obtain⟨⟨C,x⟩,ec,e2⟩:=Zz.mp<|b';cases e2;ext h4.split u p1 r;calc F ?_;calc SV Z U t _ v u ⟨s,h1,h2,a,p1,λH1 d=>Oe Z U C x {s.same d,ec,λy H2 F2 m r2 f2=>?_}⟩;have q:=h5 H2<|d.trans m;cases ((r.same d).same m) with
  |@ix a o L j p _ _ g hl P f =>
   cases f;calc .inl<|.inl<|Oe a o L w {rfl,r2.int_inv,OD.of g,kf hl P,q}
  |@key a cp l p _ _ g hl f =>
   cases f;calc .inr<|Pd a w {rfl,?_,q};have N:y=kV l:=by
    cases l with
    |inl n=>calc r2.int_inv
    |inr z =>
     have:=r2.str_inv.1;rw[this];simp[kV,sx]
   calc N ▸ hl ▸ iS.k g
@[simp] def k9(i:Nat)(a:`xfa)(f:T->Ue->Option `xge)(h:OG)(U:VS.Env):Option {`xbG,Val}:=(S4 U[i]?).bind λt=>(`xfN).bind λg=>(h U).bind λd=>(pm (λx=>f x d) g t).map λz=>(z.2,U.set i {`sn,z.1})
noncomputable def ly(G:Gx):Prop:=∀c k a:Nat,(`xen).2 k=(`xen).2 a->k=a
def DE{pos apos:Pos}(J:`xnb)(pa:PlainAttrs q)(h:Slot q a m)(p:typeOf {`xaV,m}=pure (.type "method_descriptor"))(hm:MtR X m r)(ok:zo G r f)(hT:∀H v t F l z,Rp G H v t F->f t l=Y z->tyV G.K q v H)(ho:`ws)(ha:`kx)(hK:`xfA)(OB:Tj o a X)(OS:Qz pe `bv X)(Oz:`im=true)(hs:`V_)(Ot:Qw pe es X)(Rw:swapsWith (.Call {`z3,o,a,apos} `bv [] pe) M pos.line X.env=pure B) :
  PSV G X (.Expr (.Call {`z3,o,a,apos} `bv [] pe) pos) (sX<|k9 i way f cs) :=
 PS.weak {`xcG,h,ho} λD O H hq=>by
  calc OH hq λZ U out=>oe λs e k=>?_;calc ai λP_ k_=>?_;obtain⟨⟨x',U'⟩,e1,e2⟩:=Zx.mp e
  .replace e1:=Zz.mp e1;ext e1 t d e1;have d:=eu d;exists Zz.mp e1,L,ek,e3;exists Zz.mp e3,l,el,P;obtain⟨⟨t',x2⟩,e5,e6⟩:=Zx.mp P;clear e1 e3 P;cases e6;clear e;cases e2;exists s.rp _ _ d,v,N,h2;calc Oj (qr L J h2 (s.nd i t d) e5) λw x F1 x3=>Pf λw1 C w3 A w5=>?_;calc k_ ?_;calc SV Z U t L v w {s,d,N,ek,w1,λH0 j=>⟨hK ▸ hT H0 w x _ l _ (C.same j) A,Ow Z U l {s.same j,el,λvs H' Fs q1 q2 E=>?_}⟩};calc ok Z U H H' w x x3 F1 l vs Fs x2 _ C w3 ⟨j.trans q1,q2,{λn v' y a1 a2=>(E.each n v' y a1 a2).back j,E.nd}⟩ A λu Q y g=>?_;exists w5 Q y g,F2,g2;exists s.mut d N g2,S,R;calc k _ O Q S R
def nK(k v:Val):T->Option (T×Unit)
 |.lst l=>match k.2 with
  |.int n=>(fit v).bind λt=>({`O_,n}).map λj=>(.lst<|l.set j t,())
  |_=>M
 |.dct 0 l=>if iJ k.2/\Ol v.2/\⇑l<gn then Y (.dct 0<|dput l k.2 v.2,()) else M
 |_=>M
def fZ(i:Nat)(a:`xfa)(k e:Ex)(U:VS.Env):Option Out:=(`xhV).bind λv=>(S4 U[i]?).bind λt=>(`xfN).bind λf=>(k U).bind λd=>(pm (nK d v) f t).map λz=>.nx {`mz,.ow z.1}
theorem RpL.putAt:∀{d:`cg}{f:Uc}{g:Wc}(j:Nat){u:V}{x:T}{F:Vr},RpL G H d f g->Rp G H u x F->RpL G H (d.set j u) (f.set j x) (g.set j F)
 |_,_,_,_,_,_,_,.nil,_=>.nil
 |_,_,_,0,_,_,_,.cons r q,a=>.cons a q
 |_,_,_,j+1,_,_,_,.cons r q,a=>.cons r<|RpL.putAt j q a
def Gm(y:Rp G H u t []):∀{a:`e9}{d:`cg}{g:Uc}{j:Wc},⇑a=⇑d->RpL G H d g j →
  ∃h s n,(`xiC).map (λl=>if l.1=f then (l.1,u) else l)=a.zip h/\⇑a=⇑h/\({`xbx,g}).map (λp=>if eqT p.1 (bp f) then (p.1,t) else p)=(`xlt).zip s/\RpL G H h s n/\n.flatten.Sublist j.flatten:=by
 intro a d g j hl r;revert a;apply RpL.ind ?_ ?_ r
 .intro a hl;obtain rfl:=Xn hl;exact Ow [] [] [] {rfl,rfl,rfl,.nil,Vi _}
 .intro v L F d g j r q C a hl;exists Xh hl,k,a,rfl;calc ai λO A=>?_;exists C (by simpa using hl),h,s,n,E,x,D,w,N;calc A ?_;by_cases m:k=f
  .refine UE {?_,by simp[x],?_,.cons y w,?_}
   .rw[SE,Zh,E,SE];simp[m]
   .rw[Zh,SE,Zh,D,SE];simp[((jv f k).mpr m)]
   grind
  .have e:=λz=>m<|(jv f k).mp z;refine UE {?_,by simp[x],?_,.cons r w,?_}
   .simp_all
   .simp_all
   grind
theorem wG:∀{a:`e9}{f:`cg}{g:Uc},⇑a=⇑f->⇑a=⇑g->((a.zip f).any λj=>decide (j.1=d))={`xcP,g,d}
 |[],_,_,_,_=>by simp
 |k::a,v::f,t::g,m,l=>by
  rw[Zh,SE,SE,X4,X4,wG (by simpa using m)<|by simpa using l];have:decide (k=d)=eqT `xfR (bp d):=by rw[XR,decide_eq_true_eq];exact(jv d k).symm
  rw[this]
 |_::_,[],_,h,_=>by simp at h
 |_::_,_::_,[],_,h=>by simp at h
def uv(u:Rp G H s t []){a:`e9}{l:`cg}(d:⇑a=⇑l)(f:RpL G H l m v) :
  ∃(n:`e9)(j:`cg)(r:Uc)(q:Wc),putK (a.zip l) g s=n.zip j/\⇑n=⇑j/\dput {`xbx,m} (bp g) t=(n.map bp).zip r/\RpL G H j r q/\q.flatten.Sublist v.flatten:=by
 unfold putK dput;rw[(wG d<|d.trans f.len.1)];by_cases h:{`xcP,m,g}=J
 .rw[Zp h,Zp h];calc ai λD w=>?_;exists Gm u d f,j,r,q,C,A,z,y,x;calc w ?_;exact Oe a _ _ _ {C,A,z,y,(x)}
 .rw[Zn h,Zn h];refine Oe (a++[g]) _ _ _ {?_,by simp[d],?_,f.append {`LT,u},by simp}
  .rw[WI d];rfl
  .rw[Rn,WI (by rw[Zu];calc d.trans f.len.1)];rfl
def Jn:Hl:=λo i v H Q=>IC o i v H Q\/∃a d,o=.ref a/\wt H a i v d/\Q d
def zr{X:Cx}(n:X.A.units+1<cLine):Lb X Jn:=by
 intro l s O H o i v m iv u Q I f j d h;rcases h with h|⟨a,r,rfl,g,q⟩
 .exact set_list _ s O H o i v m iv u Q I f j d h
 .cases f;calc Bf n I g j d λt p=>{r,p,(q)}
def ki{X:Cx}{pos:Pos}(J:`xnb)(hr:`xgq)(ho:`ws)(hk:`xjM)(he:`XV)(ha:Ua2 o b pos' X:=by calc λ_=>rfl)(hs:{`q8,swapsWithSole [.Subscript o b pos'] e pos.line X.env=pure B})(hw:{`q8,swappedStores [.Subscript o b pos'] e X.env=pure M})(F:{`q8,(assignEach [.Subscript o b pos'] X.env).map (·.2)=[assign {`o0,o,pos'} X.env]}):PSV G X (.Assign [.Subscript o b pos'] e pos) (fZ i way ck ce) :=
 PS.weak {`R6,ho,F} λD O H hq=>by
  calc OH hq λZ U out=>oe λs e k=>?_;calc ai λP_ S=>?_;obtain⟨⟨mv,Q⟩,ev,e⟩:=Zz.mp e
  .replace e:=Zz.mp e;ext e t y e;have y:=eu y;replace e:=Zz.mp e;ext e ks ek e;obtain⟨⟨mk,E⟩,TK,e⟩:=Zz.mp e;obtain⟨⟨t',y'⟩,e5,e6⟩:=Zx.mp e;cases e6;exists s.rp _ _ y,v,g1,g2;calc Oj {`xdA,ks,y} λw x F1 x3=>Pf λw1 w2 w3 m w5=>?_;calc S ?_;calc Oe Z U mv Q {s,ev,λxv H1 Fv PN rv fv=>?_};calc SV Z U t ks v w ⟨s.same PN,y,g1,ek,w1.same PN,λH2 Pz=>{Z,U,mk,E,(s.same PN).same Pz,TK,λkv H3 Fk RC rk fk=>?_}⟩;have p:=(PN.trans Pz).trans RC;have f:=(rv.same Pz).same RC;have fin:∀P C,Chg G H w F1 x3 P C->D.nx O P:=λP C g=>by
    exists w5 P C g,F2,g2';exists s.mut y g1 g2',z1,z2;exact k _ O P z1 z2
   calc ai λP_ S=>?_;cases x with
   |lst l =>
    cases E with
    |int n =>
     exists Zz.mp (m),tt,et,e7;exists Zx.mp e7,j,ej,e8;cases e8;cases (oP et);ext w2.lst_inv a vs Fs rfl rfl N q;have L:=p a _ N;have nd:=Zc.mp w3;have na:a∉Fv:=λz=>by rw[fv.2 a z]at N;cases N
     have u:Oy `xna:=L ▸ True.intro;have off:=λd hb hv=>Oy.jj (q.OF d hb)<|fv.2 d hv;calc S ?_;calc .inl<|Oe a vs n j {rfl,rk.int_inv,L,yS ▸ q.len.1 ▸ ej,fin _ {`xcQ,Fs.set,Fv} ?_};refine Chg.upd p Zv u (.lst av<|(((q.same p).off u nd.1)).putAt j<|(λr hn=>r.keep {`n6,u} λd hb o' TC=>by rw[aE<|λz=>hn (by rw[<-z];calc hb)];calc TC) f na) ?_ ?_
     .rw[Zc];refine{λh=>?_,fo nd.2 fv.1 λi' C _ hi d hb=>off d<|dA hi hb};rcases cU h with z|⟨i',C,_,F,h2⟩
      .exact na z
      .exact nd.1<|dA F h2
     .intro d hb;obtain rfl|hb:=Zi.mp hb
      .exact .inl Zv
      .rcases cU hb with z|⟨i',C,_,F,h2⟩
       .exact .inr<|fv.2 d z
       .exact .inl<|Zs _<|dA F h2
    |_=>cases m
   |dct kd l =>
    cases kd with
    |zero =>
     have hc:(iJ E=true/\Ol Q=true/\⇑l<gn)/\x3=.dct 0 (dput l E Q):=by
      have w4':(if iJ E/\Ol Q/\⇑l<gn then Y (T.dct 0 _,()) else M)=Y _:=m
      simp_all
     ext hc ⟨c1,c2,c3⟩ rfl;have eF:=f.Ol c2;subst eF;exists fA w2,a,ns,vs,ts,Fs,rfl,rfl,N,hl,rfl,q;exists de rk c1,kk,rfl,Tf;clear TK e5 e c1 m rk;subst Tf;have L:=p a _ N;have u:Oy `xna:=L ▸ True.intro;have nd:=Zc.mp w3;exists uv f hl (q.same p),Tz,RT,QN,RA,q1,q2,q3,q4,R;calc S ?_;refine .inr (Pd a _ {rfl,wt.k L (by
      have:⇑({`wT,ts})<16777216:=c3;rw[YA,Zu]at this;rw[YA];have:=q.len.1;have:(Pi:Nat)=16777216:=rfl;lia),fin _ `xfz ?_})
     rw[q1,q3];refine Chg.upd p Zv u {`Sc,u,R.subset} ?_ ?_
     .exact Zc.mpr {λz=>nd.1<|R.subset z,nd.2.sublist R}
     .intro d hb;obtain rfl|hb:=Zi.mp hb
      .exact .inl Zv
      .exact .inl<|Zs _<|R.subset hb
    |succ n=>cases m
   |_=>cases m
def J5{K:W0}{b:Ui}(e:Ed H)(d:OD K H a `xhK):mM K H a b:=by
 obtain h|h:=d
 .rcases h with h|h
  .rcases e a with z|⟨o,f,z⟩
   .rw[z]at h;cases h
   .rw[z]at h;cases h
  .exact .inl h
 .exact .inr h
def JS{G:Gx}(d:g [.scr b]=Y (.fr,.bl J))(f:Ed H)(e:OD G.K H a `xhK):Sb G g [.ref a] H (λv _=>v=.bl J) E :=
 (UW {.cons (.scr<|J5 f e) .nil,d,λv h F _ r _=>r.Pm})
def gx0(K:W0):Gx:={K,λ_=>(0,λk=>{#[k]}),λ_=>M,λ_=>0}
end VS
namespace L2
def yK{X:Cx}(r:`Ch):dU X (.type "list") (λe H Q=>∃x:Str,e=[.str x]/\x.cps.size<=Pi/\∀l,H l=M->Q `z_ (upd H l<|.lst<|x.cps.toList.map λc=>V.str {#[c]})):=by
 intro f s O H e z Q I n h;ext h x rfl p q;exists vals1 n,u,rfl,t,rfl;calc call_list_str `xjL x t (λy A acc c kp g m=>?_) p;refine{.ref _,_,I.laid kp (Zq _) (show dF _ _ _ y _ (.lst _) from{by simp_all,_,c,(by
  have key:∀(b:List _)(a:List _),⇑b=⇑a->(∀(i:Nat)(v:Re),a[i]?=Y v->∃c u,b[i]?=Y c/\v=.str {#[c]} u)->aS (b.map λc=>V.str {#[c]}) a:=by
   intro b
   induction b with
   |nil =>
    intro a hl _;cases a with
    |nil=>calc .nil
    |cons v a=>simp at hl
   |cons c b o =>
    intro a hl hg;cases a with
    |nil=>simp at hl
    |cons v a =>
     exists hg 0 v L,d,u,e1,e2;cases e1;exact .cons {u,(e2)} (o a (by simpa using hl) λi w hw=>by simpa using hg `I_ w<|by simpa using hw)
  calc key _ _ (by rw[RO,RO,m.1]) λi v j=>?_;rw[Sf]at j;exists m.2 i v j,d,u,e1,e2
  simp_all),g}),rfl,q _<|I.Og.fresh<|Zq _}
end L2
namespace VS
open L2
def uS:Ue->Ud
 |[(m,.lst l)]=>SN m l
 |[(m,.tup l)]=>SN m l
 |[(_,.str s)]=>SN .fr<|s.map λc=>.str [c]
 |_=>M
def C0:gu G (λd H Q=>Ja G.K d H Q\/∃x:Str,d=[.str x]/\x.cps.size<=Pi/\∀l,H l=M->Q `z_ (upd H l<|.lst<|x.cps.toList.map λc=>V.str {#[c]})) uS:=by
 intro Z U i H l f j m t Q A e k;obtain _|⟨⟨n,x⟩,l⟩:=l
 .cases e
 cases x with
 |lst x =>
  cases l with
  |nil=>calc .inl<|zM Z U i H _ f j m t Q A e k
  |cons _ _=>cases e
 |tup x =>
  cases l with
  |nil=>calc .inl<|zM Z U i H _ f j m t Q A e k
  |cons _ _=>cases e
 |str x =>
  cases l with
  |nil =>
   exists (`xev).one,v,F,rfl,rfl,h;have g:=h.str_inv.2;refine .inr {_,by rw[h.str_inv.1],?_,λq r=>?_}
   .have:=g.1;exact this
   .have ec:(sx x).cps.toList.map (λc=>V.str {#[c]})=(x.map λc=>[c]).map λs=>V.str `A6:=by
     simp[sx]
    have w:(x.map λc=>T.str [c])=(x.map λc=>[c]).map T.str:=by simp
    rw[ec];rw[show uS [(n,T.str x)]=SN .fr (x.map λc=>T.str [c]) from rfl,w]at e;refine kA A.same e (zb λs hs=>by
     exists ZW.mp hs,c,u,rfl;exact{by show 1<=gn;decide,λy o=>ZK.mp o ▸ g.2 c u}) ?_ k q r
    rw[iY];calc Fp.nil
  |cons _ _=>cases e
 |_=>cases e
def Fq{X:Cx}(d:X.mg "list" = M)(h:PJ G X [e] cs)(f:{`q3,Gl X "list"})(i:{`q3,X.K=G.K})(g:{`q3,X.calm=J})(he:{`q3,Qv e [] X}):PV G X (.Call (.Name "list" p) [e] [] pos) (eN uS cs) :=
 kH (ug.or<|yK g) (i ▸ C0) f d zX h (he:=he)
def Ay:T->Ue->Option `xge
 |.lst l,[(_,.int i)]=>if gq l then (if 0<=i/\i<⇑l/\i<4611686018427387904 then Y (.lst {`wE,i.toNat},(.fr,.non)) else M) else M
 |_,_=>M
theorem RpL.erase{H:Hp}:∀{d:`cg}{f:Uc}{g:Wc}(n:Nat),RpL G H d f g->RpL G H (d.eraseIdx n) (f.eraseIdx n) (g.eraseIdx n)
 |_,_,_,_,.nil=>by simpa using RpL.nil
 |_,_,_,0,.cons r q=>q
 |_,_,_,n+1,.cons r q=>.cons r<|RpL.erase n q
theorem qf:∀(l:Uc)(k:Nat),gq l=J->gq {`wE,k}=J
 |[],k,h=>h
 |t::l,0,h=>(`xiK).2
 |t::l,k+1,h=>by
  have h:=Zd.mp h;calc Zd.mpr {h.1,qf l k h.2}
def FD:zo G DF Ay:=by
 intro Z U H g v t z F l y L x Q r nd A e k;unfold Ay at e;split at e
 .rename_i h C i;split at e
  .rename_i u;split at e
   .rename_i D;cases e;ext r.lst_inv a f Gs rfl rfl q m;exists (`xev).one,w,E,rfl,rfl,s;have d:=A.same a _ q;have n:Oy (g a):=d ▸ True.intro;have hl:=m.len.1;refine PM a f i i.toNat f[i.toNat] {rfl,by rw[s.int_inv],d,by lia,by omega,?_,Zo `bi,k _ _ {`xbS,a} ?_}
    .unfold seqIndex?;simp;lia
    have j:=(({`xdx,m.same,n}).erase (H:={`xcT,g,a}) i.toNat)
    have o:=RpL.Ol j<|qf h i.toNat u;rw[o];have r1:Rp G {`xcT,g,a} `bz {`xba,h.eraseIdx i.toNat} {`xbS,a}:=.lst av j;rw[o]at r1;exact Chg.upd A.same Zv n r1 (by simp) λb hb=>.inl<|ZK.mp hb ▸ Zv
   .cases e
  .cases e
 .cases e
end VS
namespace TS
noncomputable abbrev Ky:=Sum Int Str
noncomputable def Sd:Ky->Ky->Bool
 |.inl i,.inl j=>decide (i<j)
 |.inr x,.inr y=>decide (x.cps.toList<y.cps.toList)
 |_,_=>B
def eT:List Ky->List Ky->Bool
 |[],[]=>B
 |[],_::_=>J
 |_::_,[]=>B
 |a::d,b::bs=>if a=b then eT d bs else Sd a b
noncomputable def kind(k:Ky):Bool:=k.isLeft
def Hv{x y:Str}(h:x.cps.toList=y.cps.toList):x=y:=by
 cases x;simp_all
def Fg(a:Ky):Sd a a=B:=by
 cases a with
 |inl i=>simp[Sd]
 |inr x=>simp[Sd,List.lt_irrefl]
def wY(h:Sd a b=J):Sd b a=B:=by
 cases a<;>cases b<;>simp only[Sd,decide_eq_true_eq,decide_eq_false_iff_not,Xq]at h ⊢
 .lia
 grind
def Bb(h:Sd a b=J)(d:Sd b c=J):Sd a c=J:=by
 cases a<;>cases b<;>cases c<;>simp only[Sd,decide_eq_true_eq,Xq]at h d ⊢
 .lia
 .exact List.lt_trans h d
def u7(k:kind a=kind b)(h:Sd a b=B)(d:Sd b a=B):a=b:=by
 cases a<;>cases b<;>simp only[Sd,decide_eq_false_iff_not,kind,Sum.isLeft,V8,Xq]at h d k ⊢
 .congr 1;lia
 .congr 1;calc Hv<|List.le_antisymm {`xbu,d} {`xbu,h}
theorem og:∀{l m:`T4},eT l m=J->eT m l=B
 |[],[],h=>by simp[eT]at h
 |[],_::_,_=>rfl
 |_::_,[],h=>by simp[eT]at h
 |a::l,b::m,h=>by
  unfold eT at h ⊢;by_cases e:a=b
  .rw[Zp e]at h;exact Zp e.symm ▸ og h
  .rw[Zn e]at h;calc Zn (Yg e) ▸ wY h
theorem uR:∀{l m n:`T4},l.map kind=m.map kind->m.map kind=n.map kind->eT m l=B->eT n m=B->eT n l=B
 |[],[],[],_,_,_,_=>rfl
 |[],[],_::_,_,h,_,_=>by simp at h
 |[],_::_,_,h,_,_,_=>by simp at h
 |_::_,[],_,h,_,_,_=>by simp at h
 |_::_,_::_,[],_,h,_,_=>by simp at h
 |a::l,b::m,c::n,j,i,g,f=>by
  simp only[Zh,VP]at j i;unfold eT at g f ⊢;by_cases e1:b=a
  .subst e1;rw[Zp L]at g;by_cases e2:c=b
   .rw[Zp e2]at f ⊢;exact uR j.2 i.2 g f
   simp_all
  .rw[Zn e1]at g;by_cases e2:c=b
   .grind
   .rw[Zn e2]at f;have d:=Bb (by
    cases q:Sd a b with
    |true=>rfl
    |false=>calc absurd (u7 j.1 q g).symm e1) (by
     cases q:Sd b c with
     |true=>rfl
     |false=>calc absurd (u7 i.1 q f).symm e2)
    rw[Zn (λe=>by rw[e,Fg]at d;cases d)];calc wY d
variable{A:UV}
noncomputable def KyV:Ky->Re->Prop
 |.inl i,v=>∃t,v=.int i t
 |.inr x,v=>∃t,v=.str x t
inductive Ri:List Ky->Vq->Prop where
 |nil:Ri [] []
 |cons {k:Ky} {v:Re} {ks:`T4} {vs:Vq}:KyV k v->Ri ks vs->Ri (k::ks) `xgv
def KyV.fn(h:KyV k v)(b:KyV a v):k=a:=by
 cases k<;>cases a<;>obtain⟨t,rfl⟩:=h<;>obtain⟨d,e⟩:=b<;>cases e<;>rfl
theorem Ri.fn(x:Ri d b)(y:Ri a b):d=a:=by
 induction x generalizing a with
 |nil=>cases y;rfl
 |cons h q f=>cases y with|cons g e=>rw[h.fn g,f e]
noncomputable def iP(h:XAD)(v:Re)(a:`T4):Prop:=∃b o items n,v=.ref b/\h.get? b=Y o/\o.cls=.type "tuple" ∧ o.data=.seq items n/\Ri a items.toList
theorem iP.fn(x:iP h v f)(y:iP h v a):f=a:=by
 ext x b o items n rfl g _ d k;calc Oj y λq m r p=>Pf λe i _ j l=>?_;cases e;rw[g]at i;obtain rfl:=Om i;rw[d]at j;cases j;calc k.fn l
def Np(d:kind k=kind a)(h:KyV k v)(f:KyV a b)(q:Q (decide (k=a)) s):SB `ax A (eqBool v b) Q E s:=by
 cases k<;>cases a<;>simp only[kind,Sum.isLeft,V8,Xq]at d<;>obtain⟨t,rfl⟩:=h<;>ext f g rfl
 .exact wpAny_eqBool_int (by have e:∀i j:Int,(i==j)=decide (Sum.inl (β:=Str) i=.inl j):=λi j=>by by_cases z:i=j<;>simp[z]
                             rw[e];calc q)
 .exact wpAny_eqBool_str (by simpa using q)
def M7(e:kind k=kind a)(h:KyV k v)(f:KyV a d)(q:Q (Sd k a) s):SB `ax A (oneLt' b v d) Q E s:=by
 cases k<;>cases a<;>simp only[kind,Sum.isLeft,V8,Xq]at e<;>obtain⟨t,rfl⟩:=h<;>ext f g rfl
 .cases b with
  |true=>calc oneLt_int q
  |false =>
   rw[oneLt'_eq,Zn Zj];exact Zy<|PyProof.Rows.lt_int<|Y0 q
 .cases b with
  |true=>calc oneLt_str q
  |false =>
   rw[oneLt'_eq,Zn Zj];calc Zy<|PySem.P.lt_str<|Y0 q
def Ba(a b:Ky)(l m:`T4):eT (a::l) (b::m)=if a=b then eT l m else Sd a b:=rfl
def J1{s:On}(hx:iP s.heap x l)(hy:iP s.heap y r)(N:l.map kind=r.map kind)(q:Q (eT l r) s):SB `ax A (keyLt' (tuples' f) x y) Q E s:=by
 ext hx b o items n rfl g _ d k;ext hy b' o' P n' rfl g' _ d' L;refine(?_);calc Zy<|listItems_at g d<|Zy<|listItems_at g' d' ?_;have H:items.size=P.size:=by
  have e1:∀{l:`T4}{m:List _},Ri l m->⇑l=⇑m:=λh=>by induction h with|nil=>rfl|cons _ _ Z=>simp[Z]
  have h1:=e1 k;have h2:=e1 L;have h3:=ZF List.length N;simp at h1 h2 h3;lia
 refine Zy<|WA _ (λrest b G=>b=(M,())/\G=s/\∃(C j:`T4)(m D:List _)(i:Nat),rest=(m.zip D).zipIdx i/\Ri C m/\Ri j D/\C.map _=j.map _/\eT l r=eT C j) _ ?turn ?fin _ _ ⟨rfl,rfl,PM l r _ _ 0 {rfl,k,L,N,(rfl)}⟩
 case turn =>
  rintro x rest b G ⟨rfl,rfl,C,j,m,D,i,e,z,t,p,hl⟩;cases z with
  |nil=>simp at e
  |@cons a v X R O z =>
   cases t with
   |nil=>simp at e
   |@cons b u U S hb t =>
    ext e rfl rfl;simp only[Zh,VP]at p;calc Zy<|Np p.1 O hb ?_;rw[Ba]at hl;by_cases F:a=b
    .rw[Zp F]at hl;rw[ZI F,Zn<|by simp];exact Zt ⟨rfl,rfl,yI5 {rfl,z,t,p.2,(hl)}⟩
    .rw[Zn F]at hl;rw[ZP F,Zp<|by simp];calc Zy<|M7 p.1 O hb<|Zt<|Zt ?_;exact hl ▸ q
 case fin =>
  rintro b G ⟨rfl,rfl,C,j,m,D,i,e,z,t,p,hl⟩;have:eT l r=decide (items.size<P.size):=by
   rw[hl,H];cases z with
   |nil =>
    cases t with
    |nil=>simp[eT]
    |cons _ _=>simp at p
   |cons _ _ =>
    cases t with
    |nil=>simp at p
    |cons _ _=>simp at e
  calc Zt ?_;calc this ▸ q
theorem vg{α β:Type}{f:α->Sem β}{P:β->Prop}:∀{b:`ew}{Q:List β->On->Prop},(∀v∈b,∃x,P x/\∀(Q:β->On->Prop),Q x s->SB `ax A (f v) Q E s)->(∀a:List β,⇑a=⇑b->(∀x∈a,P x)->Q a s)->SB `ax A (b.mapM f) Q E s
 |[],Q,_,q=>by
  rw[List.mapM_nil];calc Zt (q [] L<|by simp)
 |v::b,Q,h,q=>by
  rw[List.mapM_cons];exists h v Zv,x,px,d;calc Zy<|d _<|Zy<|vg (λu e=>h u<|Zs _ e) λa hl i=>Zt<|q _ (by simp[hl]) λy g=>?_;grind
def C3{s:On}{p:Vq}{Q:SortKind->On->Prop}(h2:0<⇑p)(O:∀v∈p,∃D,iP s.heap v D/\D.map kind=r::Z)(q:Q (tuples' J) s):SB `ax A (keyKind' p.toArray) Q E s:=by
 have fst:∀v∈p,∃x,(∀(Q:Option _->On->Prop),Q (Y x) s->SB `ax A (firstOfTuple' v) Q E s)/\(∀(Q:Y2),Q (.type<|if r then "int" else "str") s->SB `ax A (typeOf x) Q E s):=λv hm=>by
  calc ai λP_ F=>?_;obtain⟨D,⟨b,o,items,n,rfl,g,c,d,k⟩,u⟩:=O v hm;calc F ?_;cases G:items.toList with
  |nil =>
   rw[G]at k;cases k;simp at u
  |cons x h =>
   rw[G]at k;cases k with
   |@cons a _ ks1 _ U k1 =>
    simp only[Zh,VP]at u;have hx:items[0]?=Y x:=by rw[<-Sf,G];rfl
    refine{x,λQ q=>?_,λQ q=>?_}
    .refine(Zy<|WM {o,g,(c)} ?_);rw[Zn `ao];calc Zy<|listItems_at g d<|Zt ?_;exact hx ▸ q
    .cases a with
     |inl i =>
      ext U t rfl;have:=u.1.symm;subst this;calc WM L q
     |inr y =>
      ext U t rfl;have:=u.1.symm;subst this;exact WM L q
 obtain⟨j,m⟩:∃j:String,j=(if r then "int" else "str"):={_,(rfl)}
 have P7:(Value.type j != Value.type "tuple")=J:=by subst m;clear O fst;cases r<;>decide
 rw[<-m]at fst;have mp:∀{α β:Type}(f:α->Sem β)(l:`ew)(Q:Array β->On->Prop),SB _ A (l.mapM f) _ E s->SB `ax A (l.toArray.mapM f) Q E s:=λf l Q hm=>by
  rw[List.mapM_toArray];exact Zy<|YC hm (λ_ _ z=>Zt z) λ_ _ e=>e
 rw[keyKind'_eq];refine Zy (mp _ _ _ (vg (P:=λo=>∃x,o=Y x/\∀(Q:Y2),Q _ s->SB _ A (typeOf x) Q E s) (λv hm=>by
  exists fst v hm,x,h1,N;exact{_,{x,rfl,(N)},h1}) λh hl S=>?_))
 rw[Zp (by
  rw[List.all_toArray,ZC];intro o H;exists S o H,x,rfl,_;rfl)]
 calc Zy<|wpAny_rule<|Zy ?_;rw[oneTypeOnly'_eq];have hf:(h.toArray.filterMap id)=(`xmb).toArray:=by simp
 rw[hf];refine Zy (mp _ _ _ (vg (λv hm=>by
  calc ai λP_ F=>?_;exists Wh.mp hm,o,H,e;exists S o H,x,rfl,N;cases e;calc F ?_;exact{_,rfl,(N)}) λC Rg R=>?_))
 have hfl:⇑(`xmb)=⇑h:=by
  have:∀l:List (Ve),(∀o∈l,∃x,o=Y x)->⇑({`xbz,id})=⇑l:=λl=>by
   induction l with
   |nil=>intro _;rfl
   |cons o l ih =>
    simp_all
  grind
 cases C with
 |nil=>simp at Rg;lia
 |cons X C =>
  have e0:=R X Zv;subst e0;have e1:(Value.type j::C).toArray[0]?=Y (Value.type j):=rfl;rw[e1];dsimp only;rw[Zp (by
   rw[List.all_toArray,ZC];intro y hy;rw[R y hy];simp)]
  calc Zt<|Zt ?_;simp only[Option.any_some,P7];calc q
def GT(h:XAD)(b:`gY)(x:SC):Prop:=∃a,iP h x.1 a/\a.map kind=b
open Classical in
def rT(h:XAD)(x y:SC):Bool:=decide (∃b a,iP h x.1 b/\iP h y.1 a/\eT b a=J)
open Classical in
def pX{x y:SC}(i:iP h x.1 b)(g:iP h y.1 a):rT h x y=eT b a:=by
 unfold rT;cases e:eT b a with
 |true=>calc ZI {b,a,i,g,(e)}
 |false =>
  calc ZP λ⟨m,l,f,d,j⟩=>?_;rw[f.fn i,d.fn g,e]at j;cases j
def GI{s:On}(n:∀v d,iP h v d->iP s.heap v d):QH prog w A E s (tuples' f) (GT h o) (rT h):=by
 refine{?_,?_,?_}
 .rintro st x y Q g ⟨d,b,ex⟩ ⟨l,a,e⟩ q;rw[lt'_eq];calc ZQ<|VI ?_;rw[g];rw[pX b a]at q;exact ZQ<|wpS_lift<|wpAny_attempt<|J1 (n _ _ b) (n _ _ a) `xlq {rfl,ZR q}
 .rintro x y ⟨d,b,_⟩ ⟨l,a,_⟩ q;rw[pX b a]at q;exact pX a b ▸ og q
 .rintro x y z ⟨d,b,ex⟩ ⟨l,a,e⟩ ⟨r,m,p⟩ j i;rw[pX a b]at j;rw[pX m a]at i;calc pX m b ▸ uR `xlq (e.trans p.symm) j i
end TS
namespace ST
variable{A:UV}
noncomputable abbrev dO(a:`xgp)(b:Nat):Obj:={ cls:=.type "dict",data:=.dict a b }
noncomputable abbrev kO(d:Pv)(i n a:Nat):Obj:={ cls:=.type "dict_keyiterator",data:=.fields #[.ref d,.int i 0,.int n 0,.int a 0] }
def Dy{s:On}(f:(d==sysModules)=B)(a:s.heap.get? d=Y (dO b e))(q:Q `eH { s with heap:=s.heap.push<|kO d 0 b.size e }) :
  SB `ax A {`xoN,.ref d} Q E s:=by
 have ty:s.TypeIs (.ref d) _:={_,a,(rfl)}
 calc VT ty F.slot_dict_iter<|Xl F.slot_dict_iter ty F.entry_dict_iter (?_)<|F.args_dict_iter_1 _;unfold Builtin.«dict.__iter__» Builtin.Dict.dictSlotNone Builtin.Dict.showsAll;calc Zy<|Zy<|wpAny_notOrdered_dict ty<|Zt<|Zy<|Zt ?_;rw[Zn<|by simp_all];calc Zy<|Zt<|Zy<|wpAny_dictEntries a L<|Zy<|wpAny_dictEpoch a L<|Zy<|Xb<|Zt {_,rfl,_,_,{_,ZZ _ L,rfl},Ww.lookup,q}
def wH{s:On}{j:`xgp}(t:`F_)(l:{`s_,I,kO d i j.size m})(n:s.heap.get? d=Y (dO j m))(y:∀e,j[i]?=Y e->∀a,Heap.SameBut I s.heap a->a.get? I=Y (kO d `I_ j.size m)->Q (Y e.key) { s with heap:=a })(u:j[i]?=M->∀a,(∀b o,b≠I->s.heap.get? b=Y o->a.get? b=Y o)->Q M { s with heap:=a }):SB `ax A {`x6,I} Q E s:=by
 have ty:s.TypeIs (.ref I) _:={_,l,(rfl)}
 refine Zy (wpAny_attempt (wpAny_callSpecial?_slot ty Ww (Xl Ww ty F.entry_dict_keyiterator_next (YC
  (Q:=λf h=>∃v,f=.done `xhA/\Q _ h) (E:=λe h=>∃x,e=.ref x/\(∃o,h.heap.get? x=Y o/\o.cls=.type "StopIteration")/\Q M h) ?_ (λf h ⟨v,e,q⟩=>{v,e,Zt q}) λe h ⟨x,e1,⟨o,g,c⟩,q⟩=>?_) (F.args_dict_keyiterator_next_1 _))))
 .refine Zy<|Zt<|Zy<|Zy<|Zy<|W7 ty<|Zt<|Zy<|wpAny_fieldsOf l L ?_;have own:Builtin.Dict_items.ownsTuple "dict_keyiterator" = B:=rfl;refine(show SB _ _ (if (Value.ref d==Value.none)=J then _ else _) _ _ s from ?_);rw[Zn (λe:(Value.ref d==Value.none)=true=>Zj e)];calc Zy<|Zt<|Zy<|wpAny_dictEntries n L ?_;rw[Zn<|by simp];calc Zy<|Zt<|Zy<|wpAny_dictEpoch n L ?_;rw[Zn<|by simp];calc Zt ?_;simp only[show ¬((i:Int)<0) from by lia,↓reduceIte,YR];cases he:j[i]? with
  |some e =>
   have p:(s.heap.update I<|Obj.mapFields (·.setIfInBounds 1 _)).get? I=Y (kO d `I_ _ m):=Ys _ l L;calc Zy<|Zy<|W7 ty<|Zt<|Zy<|wpAny_isOneOf_keyiter ty ?_;refine(Zy<|X0 l L (by show 1<4;decide)<|Zy<|Yb ?_);calc Zy<|wpAny_isOneOf_keyiter {_,p,(rfl)} ?_;refine(Zt<|Zt {_,rfl,y e he _ (XW ..) p})
  |none =>
   calc Zy<|Zy<|W7 ty<|Zt ?_;refine(Zy<|X0 l L (by show 0<4;decide)<|E6 t λa x kp r=>{x,rfl,r,u he a λb o hb e=>kp b o ?_});rw[Yp _ _ `xfH];exact e
 .subst e1;calc Zy {`xcK,g,c}
end ST
namespace L2
open TS
def J9:∀{a:`e9}{b:Vq},aS (a.map kV) b->Ri a b:=by
 intro a
 induction a with
 |nil=>intro b h;cases h;calc .nil
 |cons k a d =>
  intro b h;cases h with
  |cons r q =>
   calc .cons ?_<|d q;cases k with
   |inl i=>calc r
   |inr x=>calc r
def zT{b:`e9}(d:`v_)(e:`xiU):iP h `bz b:=by
 exists (d a _ e),_,j,r,_,o,i,g,n,f
 calc Oe a o _ n {rfl,i,g,f,J9 r}
def iP.kept{h d:XAD}(k:∀b o,h.get? b=Y o->d.get? b=Y o)(x:iP h v a):iP d v a:=by
 calc Oj x λb o items n=>oe λe g r=>?_;calc Oe b o _ n {e,k _ _ g,r}
inductive At(H:Hp):List `e9->Vr->Prop where
 |nil:At H [] []
 |cons {k:`e9} {a:Pv} {ks:`xfl} {as:Vr}:H a=some `u_->At H ks as->At H (k::ks) (a::as)
theorem At.get:∀{b:`xff}{d:Vr},At H b d->∀(i:Nat){a:Pv},d[i]?=Y a->∃k,b[i]?=Y k/\H a=Y `u_
 |_,_,.nil,i,a,e=>by simp at e
 |_,_,.cons h q,0,a,e=>by simp_all
 |_,_,.cons h q,i+1,a,e=>by
  exists q.get i (by simpa using e),k,g,f;exact{k,by simpa using g,f}
def At.len(h:At H a b):⇑a=⇑b:=by
 induction h with
 |nil=>rfl
 |cons _ _ d=>simp[d]
def At.mem(h:At H b d)(g:a∈d):∃k∈b,H a=Y `u_:=by
 exists Yr g,i,f,e;exists h.get i (by rw[Zo f,e]),k,l,j;exact{k,ZE l,j}
def At.keep(k:∀a b,H a=Y (.tup b)->g a=Y (.tup b))(h:At H d f):At g d f:=by
 induction h with
 |nil=>calc .nil
 |cons e _ i=>calc .cons (k _ _ e) i
def At.perm{m:Vr}(p:m.Perm j):∀{a:`xff},At H a j->∃b,At H b m/\b.Perm a:=by
 induction p with
 |nil=>intro a h;cases h;exact{[],.nil,YS _}
 |cons x _ r =>
  intro a h;cases h with
  |cons e q =>
   exists r q,b,i,g;exact{_,.cons e i,g.cons _}
 |swap x y l =>
  intro a h;cases h with
  |cons e q =>
   cases q with
   |cons u n=>exact{_,.cons u<|.cons e n,List.Perm.swap _ _ _}
 |trans _ _ f d =>
  intro a h;exists d h,b,i,g;exists f i,o,t,s;exact{o,t,s.trans g}
theorem si:∀(b:Vr),aS (b.map V.ref) {`xbP,b.map}
 |[]=>.nil
 |a::b=>.cons L<|si b
def Hc:∀{b:Vq}{bs:Vr},b.Perm {`xbP,bs.map}->∃g:Vr,b=g.map Value.ref/\g.Perm bs:=by
 intro b bs p;have h:∀v∈b,∃a,v=Value.ref a:=λv d=>by
  grind
 let f:Re->Addr:=λv=>match v with|.ref a=>a|_=>0
 refine{b.map f,(by
  rw[QF]
  conv=>lhs;rw[<-Vk b]
  calc YU λv d=>?_;exists h v d,a,rfl;rfl),?_}
 have:=p.map f;rw[QF]at this;have e:(f ∘ Value.ref)=id:=rfl
 simp_all
end L2
namespace VS
open L2
def Es{i:Int}:PV G X (.UnaryOp .USub (.Constant `KE j p) a) (Q3<|-i) :=
 PE.weak (L8 Kl u6) λO H Q b=>by
  calc Oj b λZ U m t=>oe λs e k=>?_;cases (e);exact{i,rfl,k _ H [] (aN.refl _) (.int _) Fp.nil}
def nkI:T->Option Key
 |.int i=>Y<|.inl i
 |.str x=>Y<|.inr<|sx x
 |_=>M
def nk1:T->Option `e9
 |.tup l=>l.mapM nkI
 |_=>M
def Gb(h:nkI t=Y i):t=bp i:=by cases t<;>simp[nkI]at h<;>subst h<;>rfl
theorem jL{α β:Type}{f:`xhJ}{g:β->α}(h:∀a b,f a=Y b->a=g b):∀{l:`ew}{m:`xfK},l.mapM f=Y m->l=m.map g
 |[],m,e=>by simp at e;subst e;rfl
 |a::l,m,e=>by
  simp only[List.mapM_cons,Option.pure_def,Option.bind_eq_bind]at e;replace e:=Zz.mp e;ext e b hb e;replace e:=Zz.mp e;ext e bs d e;obtain rfl:=Om e;rw[Zh,<-h a b hb,<-jL h d]
def t5(h:nk1 t=Y k):t=.tup `YP:=by
 cases t with
 |tup l=>calc ZF _<|jL (λa b=>Gb) h
 |_=>simp[nk1]at h
def Rp.Sk(r:{`ss,.tup g}):∃b d f,v=.ref b/\H b=Y `xgc/\RpL G H d g f:=by
 calc OH r.inv λa d f=>oe λj _ h=>?_;exact{a,d,f,j,(h)}
end VS
namespace L2
def BX{o:Obj}(h:o.ExactDict)(e:o.data=.dict a b):o=ST.dO a b:=by
 ext o c d l j;ext h i g f;subst i g f e;rfl
end L2
namespace L2
def Iu:List V->Hp->VK->Prop:=λa H Q=>∃j:Int,a=[.int j]/\0<=j/\j<=16777216/\∀(b l:Pv),H b=M->H l=M->b≠l->Q `z_ (upd {`xci,H} l<|.lst (({`m_,j.toNat}).map λi:Nat=>V.int (i:Int)))
def Bt{X:Cx}(A:∀O H Q Z,(∀d m,Q d m->Z d m)->y O H Q->y O H Z)(hc:`Ch)(C:Gl X "range")(hm:X.mg "range" = M)(E:Gl X "list")(D:X.mg "list" = M)(F:bootBuiltins ("list" : Str)=Y (.type "list"))(ha:PA X [a] y)(hs:SL [a] X.env=[(B,eval a X.env)])(U:SL [.Call (.Name "range" p) [a] [] pos] X.env=[(B,eval (.Call (.Name "range" p) [a] [] pos) X.env)]):PE X (.Call (.Name "list" N) [.Call (.Name "range" p) [a] [] pos] [] S) (λO H Q=>y O H λd m=>Iu d m Q):=by
 intro f s O H Q I h;have inner:PE X (.Call (.Name "range" p) [a] [] pos) (λO H Q=>y O H λd m=>∃j:Int,d=[.int j]/\∀b,m b=M->Q `Id {`xci,m}):=by
  intro f s O H Q I h;calc Call_<|lu I C hm boot_range<|Xd (thn (ha pos f s O H _ I h) λus s1 h_=>?_) hs L;ext h_ d m I1 r1 q1;ext q1 j e q;subst e;exists vals1 r1,u,rfl,t,rfl;exact call_range_1 {.ref s1.heap.objs.size,_,I1.laid (o:=.rng 0 j) (λ_ _ q=>Zm _ q) (Zq _)<|UE<|ZZ _ L,rfl,q _<|I1.Og.fresh<|Zq _}
 have outer:=kz (X:=X) (p:=N) (pos:=S) (r:=λG H Q=>∃(b:Pv)(j:Int),G=[.ref b]/\H b=Y (.rng 0 j)/\0<=j/\j<=16777216/\∀l,H l=M->Q `z_ (upd H l<|.lst (({`m_,j.toNat}).map λi:Nat=>V.int (i:Int))))
  (by
   intro f s O H G us Q I rx h;ext h b j rfl hb h0 R q;ext rx.one u rfl ru;obtain rfl:=(ru)
   calc OH (I.Og b _ hb) λt u v g=>?_;calc call_list_range (n:=j.toNat) (I.ok.hd hc) g (small_one `am `am `am `am) (by rw[rangeSize_one];split<;>lia) `am λh' tk acc c kp g2 x=>?_;exact{.ref s.heap.objs.size,_,I.laid kp (Zq _) (show dF X.prog X.w _ h' _ (.lst _) from{by rw[Zu,Yt];show _<=16777216;lia,acc.toList,c,(by
    have key:∀(n:Nat)(k:Nat)(d:Vq),⇑d=n->(∀(i:Nat)(v:Re),d[i]?=Y v->∃t,v=.int ((k+i:Nat):Int) t)->aS (({`xcy,k,n}).map λi:Nat=>V.int (i:Int)) d:=by
     intro n
     induction n with
     |zero=>intro k d hl _;calc Xj.mp hl ▸ .nil
     |succ n ih =>
      intro k d hl C;cases d with
      |nil=>simp at hl
      |cons v d =>
       exists C 0 v L,t,rfl;calc .cons {t,(rfl)}<|ih `T5 d (by simpa using hl) λi w hw=>?_;exists C `I_ w (by simpa using hw),t2,e;exact{t2,by rw[e];congr 2;lia}
    rw[VF];calc key _ _ _ (by rw[RO,x.1]) λi v P=>?_;rw[Sf]at P;exists x.2 i v P,t,e;exact{t,by rw[e];congr 1;lia}),g2}),rfl,q _<|I.Og.fresh<|Zq _})
  E D F (cf inner fG U) `ao L U L
 calc outer f s O H Q I ?_;calc A O H _ _ (λd m q=>?_) h;calc TU q λj=>OI λe h0 R q=>?_;refine{j,e,λb hb=>(show _ from ?_)};refine{b,j,rfl,av,h0,R,λl hl=>?_};have bl:b≠l:=λz=>by rw[<-z,av]at hl;cases hl
 calc q b l hb (by rw[aE<|Yg bl]at hl;calc hl) bl
end L2
namespace VS
open L2
noncomputable def tJ:Ue->Ud
 |[(_,.int j)]=>if 0<=j/\j<=16777216 then Y (.fr,.lst (({`m_,j.toNat}).map λi:Nat=>T.int (i:Int))) else M
 |_=>M
theorem xV:∀(l:Uj),RpL G H (l.map λi:Nat=>V.int (i:Int)) (l.map λi:Nat=>T.int (i:Int))<|l.map λ_=>[]
 |[]=>.nil
 |i::l=>.cons (.int _)<|xV l
def D0{X:Cx}(f:X.mg "list" = M)(A:X.mg "range" = M)(E:PJ G X [e] cs)(g:Gl X "list")(C:Gl X "range")(D:`Ch)(z:SL [e] X.env=[(B,eval e X.env)])(L:SL [.Call (.Name "range" p) [e] [] pos] X.env=[(B,eval (.Call (.Name "range" p) [e] [] pos) X.env)]):PV G X (.Call (.Name "list" p2) [.Call (.Name "range" p) [e] [] pos] [] So) (eN tJ cs) :=
 PE.weak (Bt (λO H Q P m ⟨Z,U,l,s,h,k⟩=>Ow Z U l {s,h,λu o x a b c=>m _ _<|k u o x a b c}) D C A g f zX E z L) λO H Q d=>by
  calc Oj d λZ U m t=>oe λs e k=>?_;exists Zz.mp e,l,h,e;calc Ow Z U l {s,h,λu o x s1 r1 f1=>?_};unfold tJ at e;split at e
  .rename_i N j;split at e
   .rename_i w;cases e;exists (r1).one,v,F,rfl,rfl,y;clear f1 r1;cases y;refine{j,rfl,w.1,w.2,λb q hb d n=>?_};have r:Rp G (upd {`xci,o} q<|.lst (({`m_,j.toNat}).map λi:Nat=>V.int (i:Int))) (.ref q) (.lst (({`m_,j.toNat}).map λi:Nat=>T.int (i:Int))) (q::(({`m_,j.toNat}).map λ_=>[]).flatten):=.lst av<|xV _;rw[iY]at r;refine k _ _ _ ((s1.trans<|bI hb).trans<|bI<|aE `xno ▸ d) r<|Fp.new (s1.free d) (by simp) Fp.nil
   .cases e
  .cases e
def jH{b:Expr}(s:PV G X a i)(o:PV G X b f)(n:PV G X c d)(l:lastMarks [.LtE,.Lt] [b,c]=B):Ro G X (.Compare a [.LtE,.Lt] [b,c] pos) (ju oLe oLt i f d) :=
 PT.weak (wo Ju uT s o n l) λO H Q h=>qM h (λU m r e=>by
  replace e:=Zz.mp e;ext e x w e;replace e:=Zz.mp e;ext e y v e;obtain⟨⟨t,z⟩,u,e⟩:=Zz.mp e;cases z with
  |bl q =>
   cases q with
   |false=>grind
   |true =>
    exists Zz.mp (e),j,ec,e;calc l8 y j m r e
  |_=>cases e) λQ h=>vt MA Aj h
def uZ{pos:Pos}(h:PV G X e a)(i:{`xcj,B}):PSV G X `xhP (sX<|xP a) :=
 PS.weak (ja h i) λD O H d=>by
  calc OH d λZ U out=>oe λs e k=>?_;obtain⟨⟨v,l⟩,e1,e2⟩:=Zx.mp e;obtain⟨⟨m,t⟩,e3,f⟩:=Zx.mp e1;cases f;cases e2;calc Oe Z U m t {s,e3,λv j F e1 r1 f1=>k Z O j `xjU<|OE.same e1}
@[simp] def v7(i:Nat)(c:Ex)(f:OG)(U:VS.Env):Option {`xbG,Val}:=(owL U[i]?).bind λl=>(`xeC).bind λd=>(int? d.2).bind λn=>({`O_,n}).bind λj=>(l[j]?).bind λx=>(f U).bind λa=>(aP x a).map λz=>(z.2,U.set i {`sn,.lst<|l.set j z.1})
def Jr{X:Cx}{pos apos:Pos}(i:Nat)(hN:X.N[i]?=Y x)(hv:{`ro,x})(hd:Qx x)(r:Qy x)(hb:`hH)(q:gI b)(ha:PJ G X [e] cs)(hK:`xfA)(OB:Tj {`o0,`gc,p2} "append" X)(OS:Qz pe [e] X)(Oz:`im=J)(hs:Qv e [] X)(Ot:(backTo pe<|SL [] X.env).any (·.1)=B)(Rw:swapsWith (.Call (.Attribute {`o0,`gc,p2} "append" apos) [e] [] pe) M pos.line X.env=pure B) :
  PSV G X (.Expr (.Call (.Attribute {`o0,`gc,p2} "append" apos) [e] [] pe) pos) (sX<|v7 i cb cs) :=
 PS.weak (ja (pV XJ Wk Wm iZ (ox Aw {`L_,r} hb q) ha OB OS Oz hs Ot) Rw) λD O H hq=>by
  calc ai λL d=>?_;calc OH hq λZ U out=>oe λs e k=>?_;unfold sX v7 at e;obtain⟨⟨y',U'⟩,e1,e2⟩:=Zx.mp e;refine d ?_
  .replace e1:=Zz.mp e1;ext e1 l0 f e1;have f:=Al f;calc ai λL d=>?_;obtain⟨⟨mk,tk⟩,TK,e3⟩:=Zz.mp e1;replace e3:=Zz.mp e3;ext e3 n en e3;replace e3:=Zz.mp e3;ext e3 j h1 e3;replace e3:=Zz.mp e3;ext e3 x0 h2 e3;replace e3:=Zz.mp e3;ext e3 l el e3;obtain⟨⟨x3,S⟩,t,e6⟩:=Zx.mp e3;clear e1 e3;cases e6;clear e;cases e2;calc d ?_;cases tk with
   |int n0 =>
    calc ai λL d=>?_;cases (en);exists s.rp _ _ f,v,E,g2;have nd:=s.nd i _ f;ext g2.lst_inv a vs Fs rfl F h o;calc Oo (o.get j h2) λu Fj=>oe λA z w=>?_;calc d ?_;rw[F]at nd;refine⟨_,E,Oe Z U mk _ {s,TK,λy H1 F1 m r1 f1=>?_}⟩;calc Oe a vs _ u ⟨rfl,r1.int_inv,OD.of<|m a _ h,kf (o.len.1 ▸ h1) A,hK ▸ jX (w.same m) t,Ow Z U l {s.same m,el,λvs2 H4 Fs2 q1 q2 C=>?_}⟩;calc nU Z U H H4 u x0 x3 Fj l _ _ S _ w (((`ZB).2).sublist<|cz z) ⟨m.trans q1,q2,{λn v' P a1 a2=>(C.each n v' P a1 a2).back m,C.nd}⟩ t λu' H5 P g=>?_;calc TX (o8 h o nd A z g) λs1 s2 s3 s4 s5=>?_;exists s.mut f E (by
     rw[F];exact{g.kept,s5,g.OF,.lst s1 s2,s3,s4}),R,Q
    calc k _ O H5 R Q
   |_=>cases en
def EN{j pos'}(g:`cC):Ro G X (.Compare a [.Is] [.Constant .none j pos'] pos) (J0 ca) :=
 PT.weak (D2<|KP g) λO H Q h=>IS h (λU m r e=>by
  replace e:=Zz.mp e;ext e x _ e;grind) λQ f=>by
   calc Oj f λZ U m r=>oe λs e q=>?_;obtain⟨⟨n,x⟩,i,e⟩:=Zz.mp e;cases e;calc Oe Z U n x {s,i,λv d F e1 r1 f1=>?_};show Q _ d;calc uY r1 ▸ q _ d _ e1 (.bl _) Fp.nil
def kI{j pos'}(g:`cC):Ro G X (.Compare a [.IsNot] [.Constant .none j pos'] pos) (gp ca) :=
 PT.weak (D2<|zk g) λO H Q h=>IS h (λU m r e=>by
  replace e:=Zz.mp e;ext e x _ e;grind) λQ f=>by
   calc Oj f λZ U m r=>oe λs e q=>?_;obtain⟨⟨n,x⟩,i,e⟩:=Zz.mp e;cases e;calc Oe Z U n x {s,i,λv d F e1 r1 f1=>?_};show Q _ d;calc uY r1 ▸ q _ d _ e1 (.bl _) Fp.nil
def qg(i:Nat)(k e:Ex)(U:VS.Env):Option Out:=(`xhV).bind λv=>(RE U[i]?).bind λl=>(k U).bind λd=>if iJ d.2/\Ol v.2/\⇑l<gn then Y {`xcZ,d.2,v.2} else M
def Ep{X:Cx}{pos:Pos}(i:Nat)(hr:`xgq)(hk:`xjM)(he:`XV)(hN:X.N[i]?=Y x)(hv:{`ro,x})(hd:Qx x)(n:Qy x)(ha:`xma)(hs:swapsWithSole [.Subscript `gc b pos'] e pos.line X.env=pure B)(hw:swappedStores [.Subscript `gc b pos'] e X.env=pure M)(h1:(assignEach [.Subscript `gc b pos'] X.env).map (·.2)=[assign {`o0,`gc,pos'} X.env]):PSV G X (.Assign [.Subscript `gc b pos'] e pos) (qg i ck ce) :=
 PS.weak {`R6,{`L_,n},h1} λD O H hq=>by
  calc OH hq λZ U out=>oe λs e k=>?_;obtain⟨⟨mv,p⟩,ev,e⟩:=Zz.mp e
  .replace e:=Zz.mp e;ext e l f e;have f:=vi f;obtain⟨⟨mk,S⟩,TK,e⟩:=Zz.mp e;split at e
   .rename_i hc;ext hc c1 c2 c3;obtain rfl:=Om e;exists s.rp _ _ f,w,v,Q;have o:=s.nd i _ f;calc Oe Z U mv p ⟨s,ev,λxv H1 Fv E rv fv=>{w,v,Z,U,mk,S,s.same E,TK,λkv F Fk C rk fk=>?_}⟩;have m:=E.trans C;have d:=rv.same C;have eF:=d.Ol c2;calc ai λP_ k_=>?_;subst eF;exists fA Q,a,ns,R,q,Fs,rfl,h,OA,hl,rfl,r;rw[h]at o;exists de rk c1,u,rfl,Tf;subst Tf;have y:=m a _ OA;have t:Oy (F a):=y ▸ True.intro;have nd:=Zc.mp o;exists uv d hl (r.same m),Tz,RT,QN,RA,q1,q2,q3,q4,j;calc k_ ?_;refine .inr (Pd a _ {rfl,wt.k y (by
     have:⇑((ns.map _).zip q)<16777216:=c3;rw[YA,Zu]at this;rw[YA];have:=r.len.1;have:(Pi:Nat)=16777216:=rfl;lia),?_})
    have g:Chg G H `bz `xns {`RH,dput {`wT,q} (bp u) p} (upd F a {`xdu,R,u}) `xfz:=by
     rw[h,q1,q3];refine Chg.upd m Zv t {`Sc,t,j.subset} ?_ ?_
     .exact Zc.mpr {λz=>nd.1<|j.subset z,nd.2.sublist j}
     .intro bb hb;obtain rfl|hb:=Zi.mp hb
      .exact .inl Zv
      .exact .inl<|Zs _<|j.subset hb
    exists s.mut f v g,P,L;exact k _ O _ P L
   .cases e
end VS
namespace DP
variable{A:UV}
def Fb:typeLookup (.type "tuple") "keys" = pure M:=by rw[V1,WC];kernel_rfl
def GM{h:XAD}{os}(m:h.get? a=Y { cls:=.type "tuple",dict:=M,data:=.seq j k,slots:=l })(q:`F_)(p:∀i b e,Heap.NewExcOf h i e "AttributeError" → E (.ref e) {i,g,d,b,(os)}):SB `ax A (getAttrBy `bz (.str "keys" u) B) Q E {h,g,d,o,(os)}:=by
 have n:∀b,({h,g,d,b,(os)}:On).TypeIs `bz _:=λ_=>{_,m,(rfl)}
 have f1:=sub_AttributeError;have v:=VW.lookup;have t:=VW.bind `bz;have f5:=am_tuple_getattr_none
 repeat (any_goals (first|assumption|calc n _|((with_reducible show SB _ _ (call _ _ _) _ _ _);calc call_meets VW (n _) am_entry_tuple_getattribute (F.args_tuple_getattribute_2 _ _) (meets_getattribute_miss_tuple a j k l _ _ Fb<|by decide +kernel) ⟨m,q,λi b e f=>?_⟩)|wp_step))
 ext f.there s r he;unfold getattributeRaised
 repeat (any_goals (first|assumption|wp_step))
 calc p _ _ _ f.of
end DP
namespace DP
open L2
variable{A:UV}
def BJ{h:XAD}{os}(o:h.get? a=Y { cls:=.type "tuple",dict:=M,data:=.seq j k,slots:=m })(s:`F_)(p:∀i b e,Heap.NewExcOf h i e "AttributeError" → Q M {i,g,d,b,(os)}):SB `ax A (getAttr? `bz "keys") Q E {h,g,d,l,(os)}:=by
 have f1:=sub_AttributeError
 repeat (any_goals (first|assumption|(with_reducible calc GM o (by assumption) λi b e f=>?_)|wp_step))
 ext f.there ⟨oc,r,n,t⟩ q ge ce _ _;dsimp only at ce;subst ce
 repeat (any_goals (first|assumption|wp_step))
 calc p _ _ _ f
def qO:entryFor table "dict.update.loop" = Y Builtin.«dict.update.loop» := entryFor_of_tree (by kernel_rfl)
def jb:plainId "dict.update.loop" = J:=by decide +kernel
theorem loop{prog:UF}{w:XAE}{R:Result->On->Prop}{I:Pv}{fp wr:Vr}{G:Array GenState->Array GenState->Prop}{n:Nat}{P:Nat->Re->Prop}{St:Nat->On->Prop}(W:{`xdi,prog,wr})(d:Pv)(u:d∉fp)(h0:XAD)(j:Nat->Key×Re)(hP:∀i v,P i v->∃p m sl C,v=.ref p/\h0.get? p=Y { cls:=.type "tuple",dict:=M,data:=.seq #[C,(j i).2] m,slots:=sl }/\(`xeY).is (j i).1 C=J/\p∉d::wr)(f:n<=Pi) :
  ∀(k i:Nat)(s:On),n-i=k->i<=n->St i s->(∀b o,b∉d::wr->h0.get? b=Y o->s.heap.get? b=Y o)->s.heap.DictOf `xeY d (merged [] {`xcV,i,j}) →
   (∀g,Moved (d::wr) G s g->g.heap.DictOf `xeY d (merged [] {`xcV,n,j})->R (.ok `xfQ) g) →
   codeAny `ax A (.builtin "dict.update.loop" {[.ref d,.ref I,rawInt i,.none],[]}) R s:=by
 have x:=λh=>u<|W.sub _ h;have a:∀b∈wr,b∈d::wr:=λb f=>Zs _ f;intro k
 induction k with
 |zero =>
  intro i s hk hi Rl N O S;have QS:i=n:=by lia
  subst QS;calc XZ qO ?_;rw[Y9 jb _];calc Zy<|W.done s _ _ Rl λg hm=>?_;calc Zy<|Zt ?_;exact Zt (S g (hm.mono a) (by
   calc OH O λo X Z=>Pc λH rest=>?_;calc Ow o X Z {hm.heap d _ x H,rest}))
 |succ k ih =>
  intro i s hk hi Rl N O S;have OT:i<n:=by omega
  calc XZ qO ?_;rw[Y9 jb _];calc Zy<|W.item i s _ _ OT Rl λv g U l hm=>?_;calc ai λP_ k_=>?_;exists hP i v U,p,m,sl,C,rfl,hp,L,q;calc k_ ?_;have F:=hm.heap p _ {`xcH,q,a p z}<|N p _ q hp;calc Zy<|Yb ?_;refine Zy<|thn (Q:=λr D=>r=[C,(j i).2]/\D=g) ?pair λr D hr=>?rest
  case pair =>
   refine wpAny_tryCatch ?_
   repeat (any_goals (first|assumption|wp_step))
   exact{rfl,(rfl)}
  case rest =>
   clear k_ F;ext hr rfl rfl;calc Yb ?_;refine wpAny_dictSet_pairs L (by
   calc OH O λo X Z=>Pc λH rest=>?_;calc Ow o X Z {hm.heap d _ x H,rest}) (λh' dd sb=>?_) (by have:=merged_length_le [] {`xcV,i,j};simp at this;lia)
   have e1:((i:Int)+1)=((i+1:Nat):Int):=by lia
   rw[e1];refine Zt {We jb _,ih _ _ `bi OT (W.frame _ D _ _ l (Wf _) λb f o e=>?_) (λb o f e=>?_) (by
    rw[List.range_succ,Rn,show merged _ _=stored _ _ _ by unfold merged;rw[List.foldl_append];rfl];calc dd) λs'' t y=>?_}
   .rw[sb.2 b (λh:b=d=>u<|h ▸ f)];exact e
   .rw[sb.2 b (λh:b=d=>f<|h ▸ Zv)];exact hm.heap b _ {`xcH,f,a b z}<|N b o f e
   .refine S _ (Moved.trans W.gtrans ((hm.mono a).then_heap (Wf _) λb o f e=>?_) t) y;rw[sb.2 b (λh:b=d=>f<|h ▸ Zv)];calc e
end DP
namespace DP
open L2
variable{A:UV}
def wq:mroOf (.type "dict")=pure [.type "dict",.type "object"]:=by rw[mroOf_type];kernel_rfl
def oH:typeLookup (.type "dict") "__new__" = pure (Y<|.builtin "dict.__new__"):=by rw[V1,WC];kernel_rfl
def xH:TypeCalled "dict" "dict.__new__" "dict.__init__" :=
 {by decide +kernel,by decide +kernel,SJ wq,madeBy_type wq oH<|by decide +kernel,by decide +kernel,by rw[Vf];kernel_rfl,F.slot_dict_init}
def oI(a:Re):checkTypeCall "dict" {[a],[]}=pure ():=by kernel_rfl
def rK(a:Re):checkBuiltinCall "dict.__new__" {[.type "dict",a],[]}=pure ():=by kernel_rfl
def rg:entryFor table "dict.__new__" = Y Builtin.«dict.__new__» := entryFor_of_tree (by kernel_rfl)
def kc:plainId "dict.__new__" = J:=by decide +kernel
def r6:isSubtype (.type "dict") (.type "dict")=pure J:=by rw[Vf];kernel_rfl
def rP{s:On}(a:Re)(h:b `eH { s with heap:=s.heap.push { cls:=.type "dict",data:=.dict #[] } }) :
  codeAny `ax A (.call (.builtin "dict.__new__") {[.type "dict",a],[]}) (wants b E) s:=by
 calc codeAny_of_tree<|Zy<|wpAny_of_eq (rK a)<|Zt {We kc _,XZ rg ?_};rw[Y9 kc];have own:=r6;cases s
 wp_walk
 calc h
def AR{s:On}{kv:Nat->Key×Re}(N:`F_)(z:s.heap.get? a=Y { cls:=.type "tuple",dict:=M,data:=.seq t G,slots:=x })(hz:t.size<=Pi)(H:∀(i:Nat)(v:Re),t[i]?=Y v->∃p m y u,v=.ref p/\s.heap.get? p=Y { cls:=.type "tuple",dict:=M,data:=.seq #[u,(kv i).2] m,slots:=y }/\(`xeY).is (kv i).1 u=J)(h:∀(r:XAD)(C:Nat),r.DictOf `xeY s.heap.objs.size (merged [] {`xcV,t.size,kv})->(∀b o,s.heap.get? b=Y o->r.get? b=Y o)->Q `eH { s with heap:=r,toks:=C }) :
  SB `ax A (call (.type "dict") [.ref a]) Q E s:=by
 calc callType_codes (Q₁:=λobj D=>obj=.ref _/\D={ s with heap:=s.heap.push _ }) xH (oI _) F.entry_dict_init (rP _ {rfl,(rfl)}) λobj D hq=>?_;ext hq rfl rfl;refine{({_,ZZ _ L,rfl}),F.args_dict_init_2 _ _,?_};ext s f g d C os;have n:=Zm { cls:=.type "dict",data:=.dict #[] } z;unfold Builtin.«dict.__init__» Builtin.Dict.updateCommon Builtin.Dict.updateFrom;generalize eP:pyIter=itr;generalize eG:getAttr?=ga
 repeat (any_goals (first|assumption|wp_step))
 subst eG;calc BJ n (by simp[N]) λO U e ne=>?_;calc Zy<|wpAny_rule ?_;subst eP;have j:=Zb<|ne.keeps f.objs.size _<|ZZ _ L;have l:∀{b:Pv}{o:Obj},f.get? b=Y o->b<f.objs.size:=λe=>Zb e;have R:∀b o,f.get? b=Y o->O.get? b=Y o:=λb o e=>ne.keeps _ _<|Zm _ e;have tup:O.IsTuple a _:={_,(ne.keeps _ _ n),rfl,G,rfl}
 calc Zy<|wpAny_pyIter_tuple tup<|Zt {We jb _,?_};have alt:=l z;refine loop ((Walks.tuple (by simp[N]) _ a (Zg<|Y4 alt j) _).toS) f.objs.size (by simp only[Zi,XH,or_false,not_or];exact{Zg j,YM alt}) _ kv (λi v hv=>?_) hz t.size 0 _ `am (Pr _) ?_ (λb o hb e=>Zm _<|R b o e) (by
  calc ai λP_ k_=>?_;exists (Heap.DictOf.new (knd:=aV _ w) _),o,es,ep,ho,rest
  calc k_ ?_;calc Ow o es ep {Zm _<|ne.keeps _ _ ho,rest}) λZ mv dd=>?_
 .exists H i v hv,p,m,y,u,rfl,P,g2;have:=l P;exact Oe p m y u ⟨rfl,P,g2,by simp only[Zi,XH,or_false,not_or];exact{Zg this,Zg<|Y4 this j}⟩
 .exact⟨{_,ZZ _ L,rfl,rfl},tup.push _⟩
 .ext Z r g' d' X os';have e1:=mv.gens;have e2:=mv.drawn;have e3:=mv.os;clear z H n ne;subst e1 e2 e3;refine{rfl,h r _ dd λb o e=>mv.heap b o (λS=>?_)<|Zm _<|R b o e};have:=l e;simp only[Zi,XH,or_false]at S;obtain q|q:=S
  .exact Zg this q
  .exact Zg (Y4 this j) q
end DP
namespace L2
abbrev UR:=Pv×Key×V
def GW(I:{`p_,a}){q:UR}(h:H q.1=Y (.tup [kV q.2.1,q.2.2])):∃b m e d,RelV q.2.2 b/\s.heap.get? q.1=Y { cls:=.type "tuple",dict:=M,data:=.seq #[d,b] m,slots:=e }/\(`U_).is q.2.1 d=J:=by
 calc ai λt j=>?_;obtain⟨_,u,f,nd,⟨oc,p,i,r⟩,g,o,n,l⟩:=(I.Og _ _ h)
 have hd:=nd _ g;subst o l hd;exists vals2 f,d,b,rfl,r1,r2;calc j ?_;calc Oe b n _ d {r2,g,oB r1}
theorem w6(I:{`p_,a}):∀(ps:`xhz),(∀q∈ps,H q.1=Y (.tup [kV q.2.1,q.2.2])) →
  ∃f:List (Key×Re),Paired (λ(q:UR) (d:Key×Re)=>q.2.1=d.1/\RelV q.2.2 d.2/\∃m e b,s.heap.get? q.1=Y { cls:=.type "tuple",dict:=M,data:=.seq #[b,d.2] m,slots:=e }/\(`U_).is d.1 b=J) ps f
 |[],_=>{[],.nil}
 |q::ps,h=>by
  calc ai λn j=>?_;calc Oj (GW I<|h q Zv) λi m e b=>oe λr g k=>?_;exists w6 I ps λx l=>h x<|Zs _ l,f,p;calc j ?_;exact{(q.2.1,i)::f,.cons ⟨rfl,r,Ow m e b {g,(k)}⟩ p}
def AW(g:∀q d,R q d->q.2.1=d.1/\RelV q.2.2 d.2):∀{ps:`xhz}{e:{`n7,Re}},Paired R ps e->∀{a:{`n7,V}}{b:{`n7,Re}},KV a b->KV `xlZ (merged b e):=by
 intro ps e p
 induction p with
 |nil=>calc id
 |cons h t f =>
  intro a b r;exists g _ _ h,e1,e2;rw[XS,e1];calc f<|r.put _ e2
theorem xy:∀(ps:`xhz)(a:{`n7,V}),⇑(`xlZ)<=⇑a+⇑ps
 |[],a=>Zq _
 |q::ps,a=>by
  have d:=xy ps<|putK a q.2.1 q.2.2;have b:=iD a q.2.1 q.2.2;simp only[XS,Za];lia
def Paired.at_{α β:Type}{R:α->β->Prop}:∀{l:`ew}{m:`xfK},Paired R l m->∀(i:Nat){a:α},l[i]?=Y a->∃b,m[i]?=Y b/\R a b:=by
 intro l m p
 induction p with
 |nil=>intro i a h;cases h
 |cons r t d =>
  intro i a h;cases i with
  |zero=>simp_all
  |succ i=>calc d i h
def xW{X:Cx}(L:`Ch):dU X (.type "dict") (λe H Q=>∃(p:Pv)(ps:`xhz),e=[.ref p]/\H p=Y {`xbE,ps.map λq=>V.ref q.1}/\(∀q∈ps,H q.1=Y (.tup [kV q.2.1,q.2.2])) ∧
  ∀l,H l=M->Q `z_ (upd H l<|.dK<|ps.foldl `lv [])):=by
 intro j s O H e Z Q I A h;calc ai λU a=>?_;ext h p ps rfl G F q;ext A.one u rfl C;cases C;obtain⟨o,y,f,nd,⟨oc,od,D,Tu⟩,g,P,n,N⟩:=(I.Og _ _ G)
 have hd:=nd _ g;subst P N hd;exists w6 I ps F,d,pr;calc a ?_;have l1:⇑y=⇑ps:=by have:=f.length;simpa using this.symm
 have l2:=pr.length.symm;rw[Zu]at o;have b:({`m_,y.toArray.size}).map (λi=>(d[i]?).getD (.inl 0,.none))=d:=by
  apply WZ;grind
 refine DP.AR (kv:=λi=>(d[i]?).getD (.inl 0,.none)) (I.ok.hd L) g (by simp;lia) (λi v r=>?_) λh' tk x kp=>?_
 .rw[YF]at r;have t:i<⇑ps:=by grind
  calc ai λU a=>?_;exists Paired.at_ f i (by rw[ZV,Zo t];rfl),w,e1,e2;rw[r]at e1;obtain rfl:=Om e1;calc TU (Paired.at_ pr i<|Zo t) λkv=>OI λe3 e4 _=>UX λm z E=>Pc λS R=>?_;calc a ?_;exact e3 ▸ Oe _ m z E {e2,S,(R)}
 .rw[b]at x;have ln:=xy ps [];calc Pd (.ref _) _ {I.laid kp (Zq _)<|uN (by simp at ln;calc ZY ln o) {`xaK,Yg<|Zg I.big} (AW (λ_ _ h=>{h.1,(h.2.1)}) pr (.nil:KV [] [])) x,rfl,q _<|I.Og.fresh<|Zq _}
end L2
namespace VS
open L2
def wW:Uc->Option `A5
 |[]=>Y []
 |t::r=>(tp2 t).bind λq=>if iJ q.1/\Ol q.2 then (wW r).map (q::·) else M
def rB(v:Ue):Ud:=(v1P v).bind λl=>(wW l).map λps=>(.fr,.dct 0<|ps.foldl {`xcg,dput} [])
def Iy(h:wW (t::l)=Y b):∃k v a,t=.tup [k,v]/\iJ k=J/\Ol v=J/\wW l=Y a/\b=(k,v)::a:=by
 obtain⟨⟨k,v⟩,h0,h⟩:=Zz.mp<|h;split at h
 .rename_i c;exists Zx.mp h,a,e1,e2;exact{k,v,a,FO h0,c.1,c.2,e1,e2.symm}
 .cases h
theorem xk:∀{d:Uc}{i:`cg}{Gs:Wc}{a:List `xfY},RpL G H i d Gs->wW d=Y a →
  ∃ps:List UR,i=ps.map (λq=>V.ref q.1)/\(∀q∈ps,H q.1=Y (.tup [kV q.2.1,q.2.2]))/\Paired (λ(q:UR) (x:`xfY)=>x.1=bp q.2.1/\Rp G H q.2.2 x.2 []) ps a
 |[],_,_,a,r,h=>by
  cases r;cases (h);exact{[],rfl,λq s=>by simp at s,.nil}
 |t::d,_,_,a,r,h=>by
  exists Iy h,k,v,m,rfl,u,o,w,rfl;cases r with
  |cons r1 r2 =>
   calc ai λA f=>?_;exists xk r2 w,ps,e1,e2,e3;exists Rp.Sk r1,b,C,D,rfl,hb,q;calc f ?_;cases q with
   |cons l q =>
    cases q with
    |cons j q =>
     calc ai λA f=>?_;cases q;exists de l u,n,rfl,y;have z:=j.Ol o;subst z;calc f ?_;refine{(b,n,_)::ps,by rw[e1];rfl,λx g=>?_,.cons {y,(j)} e3};obtain rfl|g:=Zi.mp g
     .exact hb
     .exact e2 x g
def ER:∀{ps:`xhz}{i:List `xfY},Paired (λ(q:UR) (x:`xfY)=>x.1=bp q.2.1/\Rp G H q.2.2 x.2 []) ps i->∀{ns:`e9}{b:`cg}{g:Uc}{n:Wc},⇑ns=⇑b->RpL G H b g n->n.flatten=[] →
  ∃(a:`e9)(f:`cg)(m:Uc)(l:Wc),ps.foldl `lv (ns.zip b)=a.zip f/\i.foldl {`xcg,dput} {`wT,g}=(`xlt).zip m/\⇑a=⇑f/\RpL G H f m l/\l.flatten=[]:=by
 intro ps i p
 induction p with
 |nil=>calc λhl r j=>UW {rfl,rfl,hl,r,(j)}
 |cons h t A =>
  intro ns b g n hl r j;calc ai λQ z=>?_;exists uv h.2 hl r,P,f,m,l,w,v,N,u,o;rw[j]at o;calc Oj (A v u<|List.sublist_nil.mp o) λy s t2 L=>Pf λF O E D C=>?_;calc z ?_;refine Oe y s t2 L {?_,?_,E,D,C}
  .rw[XS,w];exact F
  simp_all
def BZ:gu G (λi H Q=>∃(p:Pv)(ps:`xhz),i=[.ref p]/\H p=Y {`xbE,ps.map λq=>V.ref q.1}/\(∀q∈ps,H q.1=Y (.tup [kV q.2.1,q.2.2])) ∧
  ∀l,H l=M->Q `z_ (upd H l<|.dK<|ps.foldl `lv [])) rB:=by
 intro Z U R H l C S m t Q A e k
 .replace e:=Zz.mp e;ext e D o e;exists Hh o,E,rfl;calc ai λP n=>?_;exists Zx.mp e,j,e1,e2;cases e2;exists (`xev).one,v,F,rfl,rfl,r;exists Rp.Sk r,b,z,Gs,rfl,hb,q;exists xk q e1,ps,rfl,a,pr;calc n ?_;refine{b,ps,rfl,hb,a,λl hl=>?_};calc Oj (ER pr (ns:=[]) L .nil L) λns g O N=>Pf λy x w u s=>?_;have f:ps.foldl _ []=ns.zip g:=y;have d:j.foldl _ []=(ns.map _).zip _:=x;rw[f];have h:aN H {`xch,.dK<|ns.zip g}:=bI hl;calc k _ _ _ h (by rw[d];calc .dct av w<|u.same h) ?_;calc s ▸ Fp.new {`xoE,hl} (by simp) Fp.nil
def zJ:bootBuiltins ("dict" : Str)=Y (.type "dict"):=by decide +kernel
def Ic{X:Cx}(a:X.mg "dict" = M)(f:PJ G X [e] cs)(b:{`q3,Gl X "dict"})(d:{`q3,X.calm=J})(he:{`q3,Qv e [] X}):PV G X (.Call (.Name "dict" p) [e] [] pos) (eN rB cs) :=
 kH (xW d) BZ b a zJ f (he:=he)
end VS
namespace L2
section
variable{H:Hp}
def tZ(I:`bd)(e:H d=Y (.dK a))(g:{`s_,d,o}):Inv X pins O (upd H d {`w_,a}) s :=
 pz I (e ▸ True.intro) {rfl,λ_ _=>rfl} {o,(g)} {g,I.Og d _ e}
end
def Itk(d:Pv)(o:Obj)(a:{`n7,V}):It :=
 {λi H=>H d=Y {`w_,a}/\i<⇑a,λi H x b=>b=H/\∃p,a[i]?=Y p/\x=kV p.1,λi H=>H d=Y {`w_,a}/\⇑a<=i}
def HX(h:oq k v=J):RelV (kV k) v:=by
 rcases bS h with⟨i,t,rfl,rfl⟩|⟨x,t,rfl,rfl⟩
 .exact{t,(rfl)}
 .exact{t,(rfl)}
def sW{P:UF}{w:XAE}{a:List DictEntry}{m:{`n7,Re}}(r:Pairs `xdZ a m){i:Nat}{e:DictEntry}(h:a[i]?=Y e):∃q,m[i]?=Y q/\oq q.1 e.key=J:=by
 induction r generalizing i with
 |nil=>simp at h
 |@cons j b a l f g _ d =>
  cases i with
  |zero =>
   simp at h;subst h;exact{b,rfl,(f)}
  |succ i=>simpa using d (by simpa using h)
def Lx{l:{`n7,V}}{m:{`n7,Re}}(r:KV l m){i:Nat}{q:Key×Re}(h:m[i]?=Y q):∃p,l[i]?=Y p/\p.1=q.1:=by
 induction r generalizing i with
 |nil=>simp at h
 |@cons e d ps b f t a =>
  cases i with
  |zero=>simp_all
  |succ i=>simpa using a (by simpa using h)
def Lu{tg:Expr}{P:UF}{w:XAE}{K:W0}(d f:Pv){Q:{`n7,V}}{A:`xgp}{N:Nat}{C:{`n7,Re}}(a:KV Q C)(he:Pairs `xdZ A.toList C) :
  Turn P w K tg (Itk d (ST.dO A N) Q) [f] f (λi h=>h.get? f=Y (ST.kO d i A.size N)) where
 mem:=by simp
 obj:=λi h st b hb=>by
  simp_all
 keep:=λi h v st k=>k f (by simp) _ st
 item:=by
  intro X t hw u r i j s O H E I m st hg;subst t hw u;calc TV (m f<|by simp) λz f1 f2 y x f5=>?_;refine ST.wH `xjL st ((I.Og d _ hg.1).1) (λe l v sb g=>?_) λD=>?_
  .rw[<-Sf]at l;exists sW he l,q,n,G;exists Lx a n,p,R,hb;exact⟨_,rfl,xg g L L L {_,H,{`p0,x},hb ▸ HX G,{rfl,p,R,(rfl)},g,λb hb=>(m b hb).1}⟩
  .exfalso;rw[<-Sf,Vs,⇑he,<-Wb a]at D;exact absurd hg.2 `am
 done:=by
  intro X t hw u r i j s O H E I m st hg;subst t hw u;calc TV (m f<|by simp) λz f1 f2 y x f5=>?_;refine ST.wH `xjL st ((I.Og d _ hg.1).1) (λe l v sb g=>?_) λD v kp=>{rfl,I.turned {`re,kp} z f1 y x f5}
  exfalso;rw[<-Sf]at l;exists sW he l,q,n,G;have:=(Ze.mp n).1;have U:=hg.2;rw[Wb a]at U;lia
 self:=λ_ _ _ _ _ st S=>VT {_,st,(rfl)} F.slot_dict_keyiterator_iter<|Xl F.slot_dict_keyiterator_iter {_,st,(rfl)} F.entry_dict_keyiterator_iter (Zt {_,rfl,_,_,{_,st,(rfl)},Ww.lookup,S})<|F.args_dict_keyiterator_iter_1 _
def iDk(e:TE):TI:=λO H R=>e O H λx b=>∃d a,x=.ref d/\b d=Y (.dK a)/\∀o,R (Itk d o a)<|upd b d {`w_,a}
def L7(n:PE X l f):PI X tg l (iDk f):=by
 intro i s O H R I h;calc thn (n _ s O H _ I h) λv s1 p=>?_;calc Oo p λx E=>oe λa r1 j=>?_;calc ai λD m=>?_;calc Oo j λd C=>oe λex e q=>?_;subst ex;cases r1;calc TY (xM a.Og e) λz y=>RB λt=>Pc λrel=>UX λo w A=>SK λg ex hd _ he u=>?_;have eo:=BX ex hd;subst eo;calc m ?_;calc ST.Dy y g ?_;calc yI5 {rfl,(`xlp).kept λb o e=>Zm _ e,Lu d _ rel he,ZZ _ L,λb hb=>?_,q _};have r:b=s1.heap.objs.size:=by simpa using hb
 subst r;exact(`xlp).fpOk (Zq _)<|(`xlp).Og.fresh<|Zq _
end L2
namespace VS
open L2
noncomputable def sca:T->Bool
 |.non=>J
 |.bl _=>J
 |.int _=>J
 |.str _=>J
 |_=>B
end VS
namespace L2
def J7{α:Type}{b:`ew}(d:⇑b=n+1):∃a t,b=a::t/\⇑t=n:=by
 exists Xh d,a,t,e;subst e;exact{a,t,rfl,W4 d}
def _root_.rH{α:Type}{b:`ew}(d:⇑b=1):∃a,b=[a]:=List.length_eq_one_iff.mp d
def dQ{α:Type}{d:`ew}(f:⇑d=2):∃a b,d=[a,b]:=by
 exists J7 f,a,t,rfl,e;exists rH e,b,rfl;exact{a,b,(rfl)}
def _root_.xG{α:Type}{d:`ew}(f:⇑d=3):∃a b c,d=[a,b,c]:=by
 exists J7 f,a,t,rfl,e;exists dQ e,b,c,rfl;exact{a,b,c,(rfl)}
def MP{α:Type}{e:`ew}(g:⇑e=4):∃a b c d,e=[a,b,c,d]:=by
 exists J7 g,a,t,rfl,f;exists xG f,b,c,d,rfl;exact{a,b,c,d,(rfl)}
end L2
namespace VS
open L2
inductive Res where|ok (v:Val)|ex (x:Str)
inductive OutX where|ok (o:Out)|ex (x:Str) (U:VS.Env)
abbrev ExX:=VS.Env->Option Res
abbrev SxX:=VS.Env->Option OutX
end VS
namespace TS
variable{A:UV}
def Bm(o:∀v∈f,∃x t,v=Value.str x t){d:`dL}(g:d.Perm<|pairsOf f)(p:SortedToK strKind d (pairsOf f).size):((d.map (·.2)).toList.map strOf).Pairwise (λa b=>¬b.cps.toList<a.cps.toList):=by
 exists nA g,n,m;rw[Y6,Yf];intro i j r l u;have key:∀i (h:i<(d.map _).toList.length),KK strKind d i=(strOf (d.map _).toList[i]).cps.toList:=λi h=>by
  have e:d[i]?=Y ((d.map _).toList[i],(d.map _).toList[i]):=by
   rw[<-Sf,<-m,ZV,Zo h];rfl
  exists o _ (n.mem_iff.mp<|YT h),x,t,ex;unfold KK;rw[e];rw[ex];rfl
 have q:=p i j (ZM u) (by rw[<-g.size_eq];simpa using l);rw[key i r,key j l]at q;calc of_decide_eq_false q
def uy(f:∀(p:UV)(u:Y2),p.handled=A.handled->SB `ax p (collect x) (λg s1=>(∀v∈g,∃x t,v=Value.str x t)/\⇑g<64/\∀(out:Vq)(l:XAD)(e:Nat),out.Perm g->(out.map strOf).Pairwise (λa b=>¬b.cps.toList<a.cps.toList)->(∀b o,s1.heap.get? b=Y o->l.get? b=Y o)->l.get? s1.heap.objs.size=Y (seqObj "list" out.toArray e)->Q `xhe { s1 with heap:=l }) u s) :
  SB `ax A (call (.builtin "sorted") [x]) Q E s:=by
 calc Calls.call_function_entry kind_sorted plain_sorted entry_sorted (args_sorted1 _)<|?_;calc Zy<|Zt<|Zy<|YC (f _ (λ_ _=>False) L) ?_ λ_ _ e=>e.elim;rintro q s1 ⟨i,j,h⟩;calc Zy<|wpAny_newList ?_ (by rw[Xp];omega);have d:(s1.heap.push _).get? _=Y (seqObj "list" q.toArray 0):=ZZ _ L;calc Zy<|Yb<|Xl slot_list_sort {_,d,(rfl)} entry_list_sort (list_sort_treeK strKind_oneLt d (strsAre_map _ i).keysOf (λz y rest e=>keyKind_strs<|e ▸ strsAre_map _ i) j λC n r=>{_,rfl,?_})<|args_list_sort _;exists sortedHeap_at d,e,he;exact Zt {_,rfl,h _ _ e (nA n).1 (Bm i n r) (λb o m=>by
  have hb:=Zb m;rw[sortedHeap_old `xgr (by rw[size_push'];calc Rz hb),XE _ _ _ `xgr];calc m) he}
end TS
namespace L2
open TS
def lC{X:Cx}(Z:`Ch):dU X (.builtin "sorted") (λA H Q=>∃p,∃(d:`e_)(j:`cg),A=[.ref p]/\⇑d<64/\⇑d=⇑j/\H p=Y (.dK<|(`xmZ).zip j) ∧
  ∀(l:Pv)(z:`e_),H l=M->z.Perm d->z.Pairwise (λa b=>¬b.cps.toList<a.cps.toList)->Q `z_ {`oX,l,z.map V.str}):=by
 intro C s O H A us Q I L h;calc ai λP_ R=>?_;ext h p d j rfl h64 hl S q;ext L.one u rfl N;cases N;exists xM I.Og S,hz,hS,E,rel,w;ext w.dictAt ep w;calc R ?_;have n:⇑E=⇑d:=by
  have:=rel.length;grind
 calc TS.uy λA' E' hA=>PySem.W.kdu_collect (PySem.W.kdl_dict hS) (hA.trans<|I.ok.hd Z) w (by grind) λh' G acc kp f=>?_;have F:Inv X _ O H { s with heap:=h',toks:=G }:=I.kept kp;have o:⇑acc.toList=⇑d:=by rw[RO,f.1,n]
 have each:∀i v,acc.toList[i]?=Y v->∃x t,v=Value.str x t/\d[i]?=Y x:=λi v g=>by
  rw[Sf]at g;exists f.2 i v g,k,x,e1,e2;have e3:=(λi=>by
  have D:((E.map (·.1)))[i]?=(d.map (Sum.inr:Str->Key))[i]?:=by
   rw[<-rel.keys];rw[WR<|by simp_all]
  rw[ZV,ZV]at D;calc D) i
  rw[e1]at e3;cases r:d[i]? with
  |none=>rw[r]at e3;cases e3
  |some y =>
   rw[r]at e3;have e5:=ZL e3;subst e5;exists Value.isStrOf_shape (e2),t,rfl;exact{y,t,rfl,(r)}
 have g:∀v∈acc.toList,∃x t,v=Value.str x t:=λv hm=>by
  exists Yr hm,i,U,e;exists each i v (by rw[Zo U,e]),x,t,e1,_;exact{x,t,(e1)}
 have es:acc.toList.map strOf=d:=by
  apply WZ;intro i;rw[ZV];cases e:acc.toList[i]? with
  |none =>
   simp_all
  |some v =>
   exists each i v e,x,t,rfl,e1;rw[e1];rfl
 refine{g,by omega,λout h2 e m P PU he=>?_};exact{.ref _,_,F.laid PU (Zq _)<|show dF _ _ _ h2 _ (.lst _) from{(by rw[Zu,Zu,m.length_eq,o,Xp];omega),_,e,vC<|λv hm=>g v<|m.mem_iff.mp hm,he},rfl,q _ _ (F.Og.fresh<|Zq _) (es ▸ m.map _) P}
end L2
namespace VS
open L2
def jU(v:Ue):Ud:=(v1D v).bind λl=>(strs?<|l.map (·.1)).bind λa=>if ⇑a<64/\a.all txB=J then Y (.fr,.lst<|(jh a).map .str) else M
def Dz:gu G (λi H Q=>∃p,∃(d:`e_)(f:`cg),i=[.ref p]/\⇑d<64/\⇑d=⇑f/\H p=Y (.dK<|(`xmZ).zip f) ∧
  ∀(l:Pv)(g:`e_),H l=M->g.Perm d->g.Pairwise (λa b=>¬b.cps.toList<a.cps.toList)->Q `z_ {`oX,l,g.map V.str}) jU:=by
 intro Z U E H l f L m t Q A e k;unfold jU at e
 .replace e:=Zz.mp e;ext e x u e;exists AO u,z,rfl;exists Zz.mp e,d,e1,e2;split at e2
  .rename_i hb;calc ai λD r=>?_;exists sj2 e2,rfl,rfl;exists (`xev).one,v,F,rfl,rfl,n;exists fA n,a,q,h,j,Gs,rfl,rfl,w,hl,rfl,o;calc r ?_;have C:⇑q=⇑j:=by rw[hl,o.len.1]
   rw[(WR<|by simp_all)]at e1;have y:=keys_str e1;calc Ow a _ h {rfl,by rw[Zu];calc hb.1,?_,y ▸ w,D4 k A.same λs hs=>Km<|ZC.mp hb.2 s hs};grind
  .cases e2
def zx{X:Cx}(a:X.mg "sorted" = M)(f:PJ G X [e] cs)(b:{`q3,Gl X "sorted"})(g:{`q3,X.K=G.K})(d:{`q3,X.calm=J})(he:{`q3,Qv e [] X}):PV G X (.Call (.Name "sorted" p) [e] [] pos) (eN jU cs) :=
 nh (lC d) Dz b a nF f (he:=he)
noncomputable def isT:T->Bool
 |.bl true=>J
 |_=>B
mutual
def gy:T->Bool
 |.tup l=>cj l
 |.lst l=>cj l
 |.dct _ l=>vq l
 |.obj _ l=>iQ l
 |_=>J
def cj:Uc->Bool
 |[]=>J
 |t::r=>gy t&&cj r
def vq:List `xfY->Bool
 |[]=>J
 | (_,v)::r=>gy v&&vq r
def iQ:List `xaa->Bool
 |[]=>J
 | (n,v)::r=>(gy v && !(n==0&&isT v))&&iQ r
end
theorem i3:∀{b:Uc}{a:Uc},⇑b=⇑a->vq `xnz=J->cj a=J
 |[],[],_,_=>rfl
 |_::_,[],h,_=>nomatch h
 |[],_::_,h,_=>nomatch h
 |k::b,t::a,h,e=>by
  have e:=Zd.mp<|e;calc Zd.mpr {e.1,i3 (W4 h) e.2}
theorem fN:∀{b:Uj}{a:Uc},⇑b=⇑a->iQ `xnz=J->cj a=J
 |[],[],_,_=>rfl
 |_::_,[],h,_=>nomatch h
 |[],_::_,h,_=>nomatch h
 |k::b,t::a,h,e=>by
  have e:=Zd.mp<|e;calc Zd.mpr {(Zd.mp e.1).1,fN (W4 h) e.2}
section
variable{H:Hp}
theorem Rp.at{v:V}(m:Me)(r:`hQ):gy t=J->Rp `xeI H v t F :=
 Rp.rec (motive_2:=λg e Fs _=>cj e=J->RpL _ H g e Fs)
  (λ_=>.non) (λb _=>.bl b) (λi _=>.int i) (λs h _=>.str s h) (λh _=>.scr h) (λh _ d f=>.tup h `xlM) (λh _ d f=>.lst h `xlM)
  (λh l q d f=>.dct h l<|d<|i3 (by rw[Zu,l];calc q.len.1) f) (λh l q d f=>.dctT h l<|d<|i3 (by rw[Zu,l];calc q.len.1) f)
  (λh l n q d f=>.dctN h l n<|d<|i3 (by rw[Zu,l];calc q.len.1) f) (λh l q d f=>.dctZ h l<|d<|i3 (by rw[Zu,l];calc q.len.1) f) (λh p _=>.exc h p)
  (λ{c a x b w g e Fs} h l u q d f=>by
   have f:=Zd.mp<|f;have hb:b=B:=by
    cases b with
    |false=>rfl
    |true=>exact nomatch f.1
   calc .ins h l (λz=>?_)<|d<|fN (l ▸ q.len.1) f.2;rw[hb]at z;cases z)
  (λ_ _ _ f=>nomatch f)
  (λ_=>.nil) (λ_ _ o j f=>by
   have f:=Zd.mp f;calc .cons (o f.1)<|j f.2) r
theorem RpL.at(m:Me):∀{b:`cg}{a:Uc}{Fs:Wc},RpL G H b a Fs->cj a=J->RpL `xeI H b a Fs:=by
 intro b a
 induction a generalizing b with
 |nil=>intro Fs r f;cases r;calc .nil
 |cons t a d =>
  intro Fs r f;cases r with
  |cons r q=>calc .cons (r.at m (Zd.mp f).1)<|d q (Zd.mp f).2
mutual
theorem nq:∀t:T,Ol t=J->gy t=J
 |.non,_=>rfl
 |.bl _,_=>rfl
 |.int _,_=>rfl
 |.str _,_=>rfl
 |.scr _,_=>rfl
 |.tup l,h=>zL l h
 |.lst _,h=>by cases h
 |.dct _ _,h=>by cases h
 |.obj _ _,h=>by cases h
theorem zL:∀l:Uc,gq l=J->cj l=J
 |[],_=>rfl
 |t::l,h=>by
  have h:=Zd.mp h;calc Zd.mpr {nq t h.1,zL l h.2}
end
end
def vP(k:Nat):T->Option T
 |.obj (_+1) (_::fs)=>({`xdE,fs.findIdx?,k}).bind λi=>(fs[i]?).map (·.2)
 |_=>M
def bF(k:Nat)(a:Ex):Ex:=λU=>(`Db).bind λx=>(vP k x.2).map λt=>sub x.1 t
def w_fld{X:Cx}(J:`xnb)(F:`xiD)(ha:`cC)(A:{`q8,Tj a f X}):PV G X {`z3,a,f,pos} (bF k ca) :=
 PE.weak (C6 ha A) λO H Q hq=>by
  calc ai λP_ q=>?_;calc Oj hq λZ U m t=>oe λs e kq=>?_;obtain⟨⟨S,y⟩,ea,e1⟩:=Zz.mp e;exists Zx.mp e1,z,g,e2;calc q ?_;calc Oe Z U S y {s,ea,λv H' F' R r1 f1=>?_};cases y with
  |obj c fs =>
   obtain _|c:=c
   .cases g
   .rcases fs with _|⟨q0,fs⟩
    .cases g
    .refine ai λP_ q=>?_;exists Zz.mp g,j,C,e3;exists Zx.mp e3,p,h2,e4;subst e4;exists fh r1,c',a,dx,b,ns,vs,P,Fs,ec,rfl,rfl,rfl,rfl,hA,hl,A,w;cases ec;calc Oo {`xdc,w.len.1,C} λr h=>OI λE D g3 g4=>?_;have ek:r=k:=by simpa using g3
     subst ek;have ep:p=(r,h):=by
      have:(ns.zip P)[j]?=Y (r,h):=by rw[Xw];exact{E,(D)}
      simp_all
     subst ep;calc Oo (w.get j D) λu Fi=>oe λN L l=>?_;calc q ?_;have d:=vw (c:=`xfV) J hl C E N;rw[F.nm c]at d;calc PM a _ dx _ u {rfl,hA,F.cl c,F.no c,d,?_};have fp:=((f1.sub<|Y5 _ _).sub<|cz L).up l;unfold VS.sub at e2;rw[e2]at fp;have et:h=t:=ZF Prod.snd e2;rw[et]at l;calc kq u H' Fi R l fp
  |_=>cases g
def obS(t:T):Option (Nat×`xaa×List `xaa):=(ob1 t).bind λz=>match z.1 with
 |c+1=>Y (c,z.2)
 |0=>M
def Gu(h:obS t=Y z):t=.obj (z.1+1) `xmk:=by
 obtain⟨⟨c,q⟩,d,b⟩:=Zz.mp h;cases c with
 |zero=>cases b
 |succ c=>exact(AG d).trans<|Om b ▸ rfl
def kZ(i k:Nat)(e:Ex)(U:VS.Env):Option Out:=(`xhV).bind λv=>(S4 U[i]?).bind λu=>(obS u).bind λz=>(fit v).bind λt=>if ⇑z.2.2<900/\(z.2.2.all λp=>!(p.1==k))=J then Y (.nx<|U.set i<|Y<|.ow<|.obj (z.1+1)<|z.2.1::(z.2.2++[(k,t)])) else M
theorem wb{k:Nat}{v:V}(J:∀k l:Nat,g k=g l->k=l):∀{b:Uj}{d:`cg}{j:Uc},⇑b=⇑d->⇑b=⇑j->((b.zip j).all λp=>!(p.1==k))=true->jQ (g k) v ((b.map g).zip d)=((b++[k]).map g).zip (d++[v])
 |[],[],_,_,_,_=>rfl
 |[],_::_,_,h,_,_=>by simp at h
 |_::_,[],_,h,_,_=>by simp at h
 |_::_,_::_,[],_,h,_=>by simp at h
 |t::b,r::d,s::j,q,n,m=>by
  rw[SE,Wj,YH]at m;rw[Zh,SE,jQ,Zn (λz=>by
   grind),wb J (by simpa using q) (by simpa using n) m.2]
  rfl
def nV{X:Cx}{pos:Pos}(i k:Nat)(J:`xnb)(F:`xiD)(he:`XV)(hN:{`q8,X.N[i]?=Y x})(hv:{`q9,RP X.env.scope x})(hd:{`q8,Qx x})(A:{`q8,Qy x})(hs:{`q8,swapsWith e (Y {`z3,`gc,f,pos'}) pos.line X.env=pure B}):PSV G X (.Assign [.Attribute `gc f pos'] e pos) (kZ i k ce) :=
 PS.weak (Ln {`L_,A} he hs) λD O H hq=>by
  calc OH hq λZ U out=>oe λs e kq=>?_;obtain⟨⟨mv,l⟩,ev,e⟩:=Zz.mp e
  .replace e:=Zz.mp e;ext e u0 h e;replace e:=Zz.mp e;ext e ⟨c,q0,fs⟩ Sw e;have h:=eu h;obtain rfl:=Gu Sw;clear Sw;exists Zz.mp e,t,et,e;cases (oP et);split at e
   .rename_i n;obtain rfl:=Om e;exists s.rp _ _ h,v,P,g2;calc Oe Z U _ l ⟨s,ev,λy H1 Fy r ry p=>{v,P,?_}⟩;calc ai λP_ k_=>?_;clear e;exists fh g2,c',a,S,b,ns,vs,q,Fs,ec,rfl,rfl,rfl,R,C,hl,hb,u;cases ec;calc k_ ?_;have nd:=s.nd i _ h;rw[R]at nd;have E:=Zc.mp nd;have QJ:=r a _ C;have w:Oy (H1 a):=by rw[QJ];exact True.intro
    have d:=hl.trans u.len.1;have na:a∉Fy:=λz=>by rw[p.2 a z]at C;cases C
    refine Oe a _ S _ {rfl,QJ,F.cl c,F.no c,(by
     have:=n.1;rw[YA]at this ⊢;rw[Zu];lia),?_}
    have Q:=wb (v:=y) (J `xfV) hl d n.2;rw[F.nm c]at Q;rw[Q];have off:=λj hb hw=>Oy.jj (u.OF j hb)<|p.2 j hw;have g:Chg G H `bz `xns (.obj `xfV<|(0,.bl b)::(ns.zip q++[(k,l)])) (upd H1 a<|.ins (`be).1 S<|((ns++[k]).map (`be).2).zip<|vs++[y]) (a::(Fs++[Fy]).flatten):=by
     rw[R,show ns.zip q++[(k,l)]=(ns++[k]).zip (q++[l]) from by rw[WI d];rfl];refine Chg.upd r Zv w (.ins av (by simp[hl]) hb<|((u.same r).off w E.1).append<|.cons (ry.keep {`n6,w} λj hb o ho=>by rw[aE<|λz=>na (by rw[<-z];calc hb)];calc ho) .nil) ?_ ?_
     .rw[YN];refine Zc.mpr ⟨λm=>?_,ZG.mpr {E.2,by simpa using p.1,λb hb c n z=>?_}⟩
      .rcases Zf.mp m with m|m
       .exact E.1 m
       simp_all
      .subst z;exact off b hb (by simpa using n)
     .intro j hb;obtain rfl|hb:=Zi.mp hb
      .exact .inl Zv
      .rw[YN]at hb;obtain hb|hb:=Zf.mp hb
       .simp_all
       .exact .inr (p.2 j<|by simpa using hb)
    exists s.mut h P g,z1,z2;exact kq _ O _ z1 z2
   .cases e
noncomputable abbrev v8:=List `xaa
noncomputable def meA(a:Pv):Me:=λk=>if k=0 then Y `bz else M
abbrev Mt:=v8->Uc->Option (v8×T)
noncomputable def Pp:List Bool->Wc->Vr
 |b::bs,F::a=>(if b then F else [])++Pp bs a
 |_,_=>[]
noncomputable def SY:List Bool->Wc->Vr
 |b::bs,F::a=>(if b then [] else F)++SY bs a
 |_,_=>[]
theorem iG:∀{mv:`gY}{e:Wc}{j:Nat}{F:Vr},mv[j]?=Y J->e[j]?=Y F->F.Sublist (Pp mv e)
 |[],_,_,_,h,_=>by simp at h
 |_::_,[],_,_,_,h=>by simp at h
 |b::bs,f::e,0,F,d,a=>by
  simp at d a;subst d a;rw[Pp,Zp L];grind
 |b::bs,f::e,j+1,F,d,a=>by
  rw[Pp];exact(iG (by simpa using d)<|by simpa using a).trans<|Vt _ _
theorem tK:∀{mv:`gY}{e:Wc}{j:Nat}{F:Vr},mv[j]?=Y B->e[j]?=Y F->F.Sublist (SY mv e)
 |[],_,_,_,h,_=>by simp at h
 |_::_,[],_,_,_,h=>by simp at h
 |b::bs,f::e,0,F,d,a=>by
  simp at d a;subst d a;rw[SY]
  simp_all
 |b::bs,f::e,j+1,F,d,a=>by
  rw[SY];exact(tK (by simpa using d)<|by simpa using a).trans<|Vt _ _
theorem ze:∀{mv:`gY}{d:Wc}{i j:Nat}{F m:Vr},(Pp mv d).Nodup->mv[i]?=Y J->mv[j]?=Y J->d[i]?=Y F->d[j]?=Y m->i≠j->∀a∈F,a∉m
 |[],_,_,_,_,_,_,h,_,_,_,_=>by simp at h
 |_::_,[],_,_,_,_,_,_,_,h,_,_=>by simp at h
 |b::bs,q::d,0,0,F,m,_,_,_,_,_,n=>absurd L n
 |b::bs,q::d,0,j+1,F,m,nd,l,g,f,e,n=>λa o p=>by
  simp at l f;subst l f;rw[Pp,Zp L,ZG]at nd;calc nd.2.2 a o a ((iG (by simpa using g)<|by simpa using e).subset p) L
 |b::bs,q::d,i+1,0,F,m,nd,l,g,f,e,n=>λa o p=>by
  simp at g e;subst g e;rw[Pp,Zp L,ZG]at nd;calc nd.2.2 a p a ((iG (by simpa using l)<|by simpa using f).subset o) L
 |b::bs,q::d,i+1,j+1,F,m,nd,l,g,f,e,n=>by
  rw[Pp,ZG]at nd;calc ze nd.2.1 (by simpa using l) (by simpa using g) (by simpa using f) (by simpa using e) `am
theorem zP:∀{mv:`gY}{d:Wc}{a:Pv},a∈Pp mv d->∃(j:Nat)(F:Vr),mv[j]?=Y J/\d[j]?=Y F/\a∈F
 |[],_,_,h=>by simp[Pp]at h
 |_::_,[],_,h=>by simp[Pp]at h
 |b::bs,l::d,a,h=>by
  rw[Pp]at h;obtain h|h:=Zf.mp h
  .cases b with
   |true=>exact{0,l,rfl,rfl,(h)}
   |false=>simp at h
  .refine ai λm e=>?_;exists zP h,j,F,i,g,f;calc e ?_;exact{j+1,F,by simpa using i,by simpa using g,f}
noncomputable def qZ(b:Bool)(t:T):Ug:=Y<|if b then .ow t else .pu t
def CV(c:Nat)(U:VS.Env):Option v8:=match (U[(0:Nat)]?:Option<|Ug) with
 |some (some<|.ow<|.obj a<|(0,.bl true)::fs)=>if a=c+1 then Y fs else M
 |_=>M
def Rj(c d f:Nat)(e:`gY)(body:Sx):Mt:=λfs a=>if ⇑a+1=d/\⇑e=⇑a then
 (body<|(Y (.ow<|.obj `xfV<|(0,.bl J)::fs)::List.zipWith qZ e a)++List.replicate (f-d) M).bind λo=>match o with
  |.rt v U=>(CV c U).bind λb=>if Ol v.2 then Y (b,v.2) else M
  |.nx U=>(CV c U).map λb=>(b,.non)
  |_=>M else M
def T7(G:Gx)(c:Nat)(d:`gY)(g:Mt):Sp:=λl H Q _=>∃(a:Pv)(i:`cg)(fs:v8)(f:Uc)(F:Vr)(e:Wc)(j:v8)(x:T),l=.ref a::i/\Rp `u8 H `bz (.obj `xfV<|(0,.bl J)::fs) F ∧
 RpL `u8 H i f e/\⇑d=⇑f/\(`xjK).Nodup/\(∀b∈F++Pp d e,b∉SY d e)/\g fs f=Y (j,x) ∧
 ∀u h m,Chg `u8 H `bz `xjK (.obj `xfV<|(0,.bl J)::j) h m->Rp `u8 h u x []->Q u h
section
variable{H:Hp}
def wA{f:`gY}(r0:`hQ)(r:RpL G H E d g)(hm:⇑f=⇑d)(q:(F++Pp f g).Nodup)(U:∀b∈F++Pp f g,b∉SY f g)(n X:Nat)(hn:X=⇑E+1) :
  SR G (λi=>(`xks).getD i []) `IO ((v::E).map Y++List.replicate (n-X) M) H ∧
  ∀a,bU (λi=>(`xks).getD i []) `IO a->a∈F++Pp f g:=by
 subst hn;have hl:=r.len;have O:⇑(List.zipWith qZ f d)=⇑d:=by simp_all
 have back:∀{i:Nat}{c:Cell},((Y _::List.zipWith _ f d)++List.replicate `xlY M)[i]?=Y `xjd->(i=0/\c=.ow t)\/∃(j:Nat)(b:Bool)(u:T),i=j+1/\f[j]?=Y b/\d[j]?=Y u/\c=(if b then .ow u else .pu u):=λ{i c} h=>by
  cases i with
  |zero=>calc .inl {rfl,(ZL `xkL).symm}
  |succ j =>
   rw[Va,List.getElem?_cons_succ]at h;by_cases N:j<⇑d
   .rw[Yv<|O ▸ N,List.getElem?_zipWith]at h;have e1:=Zo<|hm ▸ N;have e2:=Zo N;rw[e1,e2]at h;exact .inr {j,_,_,rfl,e1,e2,(ZL `xkL).symm}
   .rw[Yw<|O ▸ Yo N,Y1]at h;split at h<;>cases h
 have fp:∀{j:Nat}{u:T},d[j]?=Y u->∃w p,E[j]?=Y w/\g[j]?=Y p/\Rp G H w u p:=λ{j u} h=>r.get j h;have ow:∀{i:Nat}{u:T},((Y _::List.zipWith qZ f d)++List.replicate _ _)[i]?=Y (Y<|.ow u)->i=0\/∃j:Nat,i=j+1/\f[j]?=Y J/\d[j]?=Y u:=λ{i u} h=>by
  rcases back h with⟨x,l⟩|⟨j,b,S,x,l,s,A⟩
  .exact .inl x
  .cases b with
   |true=>simp_all
   |false=>cases A
 rw[ZG]at q;refine⟨{?_,λi c h=>?_,λi u h=>?_,λi j u c x l n=>?_},λa=>Px λi u=>Pc λx l=>?_⟩
 .simp[O];lia
 .rcases back h with⟨rfl,rfl⟩|⟨j,b,u,rfl,l,s,A⟩
  .exact{v,rfl,(r0)}
  .exists fp s,w,p,y,e,C;refine{w,?_,?_}
   .rw[Zh,Va,List.getElem?_cons_succ,Yv (by rw[Zu];exact(Ze.mp y).1),ZV,y];rfl
   .rw[Wp,Zl,e,A];cases b<;>exact C
 .rcases ow h with rfl|⟨j,rfl,l,s⟩
  .exact q.1
  .exists fp s,w,p,y,e,C;rw[Wp,Zl,e];exact q.2.1.sublist<|iG l e
 .rcases ow x with rfl|⟨i',rfl,R,a3⟩
  .rcases back l with⟨rfl,_⟩|⟨j',b,S,rfl,D,Q,_⟩
   .exact absurd L n
   .exists fp Q,w,p,y,e,C;intro a m;rw[Wp,Zl,e];intro o;cases b with
    |true=>calc q.2.2 a m a {`xcI,D,o} L
    |false=>exact U a (YQ _ m)<|(tK D e).subset o
  .exists fp a3,w,Fi,y,e,C;have ei:(`xks).getD (i'+1) []=Fi:=by simp_all
   show ∀a∈(`xks).getD _ [],_;rw[ei];rcases back l with⟨rfl,_⟩|⟨j',b,S,rfl,D,Q,_⟩
   .exact λa m o=>q.2.2 a o a {`xcI,R,m} L
   .exists fp Q,w',p,k1,P,k3;intro a m;rw[Wp,Zl,P];intro o;cases b with
    |true=>calc ze q.2.1 R D e P (λz=>n<|by rw[z]) a m o
    |false=>exact U a (ZD _ {`xcI,R,m})<|(tK D P).subset o
 .rcases ow x with rfl|⟨j,rfl,s,A⟩
  .exact YQ _ l
  .exists fp A,w,p,y,e,C;have Z:a∈(`xks).getD _ []:=l;rw[Wp,Zl,e]at Z;calc ZD _ {`xcI,s,Z}
def Ew(h:CV c U=Y d):U[0]?=Y (Y<|.ow<|.obj `xfV<|(0,.bl J)::d):=by
 delta CV at h
 revert h;generalize U[0]?=o;intro h;obtain _|_|_|t:=o
 iterate 3 cases h
 cases t with
 |obj a l =>
  rcases l with _|⟨⟨_|n,x⟩,r⟩
  .cases h
  .cases x with
   |bl b =>
    cases b
    .cases h
    .by_cases e:a=c+1
     .subst e;cases (Zp rfl).symm.trans h;rfl
     .cases (Zn e).symm.trans h
   |_=>cases h
  .cases h
 |_=>cases h
end
section
variable{K:W0}
def Mm{G:Gx}{U:`e_}(ok:∀{sp:Sp},(∀i H Q E,sp i H Q E->⇑i=⇑U)->(∀(Pw:Re)(A:UV)(outer:`xgP)(s:On)(H:Hp)(i:`cg)(Q:VK)(E:XK),Of k {`xbo,{`pi,d,ah p,Pw}}->sp i H Q E →
   ∃t,Rq (jD Pb P w K mg base N d (ah p) f Pw A outer s H E).Ss (bg p) t/\t { nx:=λ_ g=>Q .non g,rt:=Q } {`xoR,i} H)->FnOk P w K mg base Pb `T5 f fd U sp)(hp:⇑U=np)(hn:⇑N=Z)(hb:∀(a:Pv),Ua6 k Pb P w K mg base N d p f λX=>iM `u8 X.Ss (bg p) j) :
  FnOk P w K mg base Pb `T5 f fd U (T7 G c mv<|Rj c np Z mv j):=by
 refine ok (λi H Q E h=>?_) λPw A outer s H i Q E hr h=>?_
 .refine ai λP_ l=>?_;ext h a S fs ts F Fs Td y rfl x;revert x;calc yA7 λr0 r hm nd sp e q=>?_;calc l ?_;unfold Rj at e;split at e
  .rename_i hl;rw[Za,r.len.1,hl.1,hp]
  .cases e
 .refine ai λP_ l=>?_;ext h a S fs ts F Fs Td y rfl x;revert x;calc yA7 λr0 r hm nd sp e q=>?_;calc l ?_;refine{_,hb a _ A _ s H E hr,?_};unfold Rj at e;split at e
  .rename_i hl;exists Zz.mp e,o,e1,e2;exists wA r0 r hm nd sp Z _ L,s0,RE;rw[hl.1]at s0 RE;have e3:L2.start N {`xde,a,S}=({`xde,a,S}).map Y++List.replicate (Z-(⇑S+1)) M:=by
    unfold L2.start;rw[hn];rfl
   rw[e3];have fin:∀{n:VS.Env}{Z':Os}{O':L2.St}{g:Hp},CV c _=Y _->SR `u8 _ _ O' g->OE _ _ H _ n g →
     Chg _ H _ _ (.obj _<|(0,.bl _)::Td) g (Z' 0):=λ{n Z' O' g} hme m fr=>by
    have h0:=Ew hme;calc ai λP_ l=>?_;exists m.rp 0 _ h0,v',g1,g2;have C:=g2;exists fh C,c',a',dx,b,ns,i,QN,RA,ec,rfl,x;revert x;calc yA7 λeb _ eF hA hl' R ra=>?_;cases (R (by cases eb;rfl));calc l ?_;refine{fr.kept,λO o' R ho=>({`xdS,O,R,RE}).1,fr.OF,C,m.nd 0 _ h0,λO R=>?_};rcases fr.ow O {0,_,h0,(R)} with z|z
    .exact .inl<|RE O z
    .exact .inr z
   calc Ow _ _ o {s0,e1,?_};cases o with
   |nx n =>
    calc ai λP_ l=>?_;exists Zx.mp e2,fs2,e4,D;clear e e2;cases D;calc l ?_;intro Z' O' g m fr;calc q _ g _ (fin e4 m fr) .non
   |rt v n =>
    exists Zz.mp e2,fs2,e4,D;split at D
    .rename_i hi;clear e e2;cases D;intro u g F' Z' O' m fr r' rf;have:=r'.Ol hi;clear rf;subst this;exact q u g _ (fin e4 m fr) r'
    .cases D
   |bk n=>cases e2
   |ct n=>cases e2
  .cases e
def fnM{G:Gx}(F:Ov K x d g f n)(S:bt N h<|ah g)(o:⇑h=i)(p:`xlo)(q:∀(a:Pv),Ua6 k Pb P w K mg base N d g f λX=>iM `u8 X.Ss (bg g) e) :
  FnOk P w K mg base Pb `T5 f n h (T7 G c m<|Rj c i j m e):=Mm `xjJ o p q
structure UC(K:W0)(x qual:Str)(st:Stmt)(f:Pv)(fd:SZ):Prop where
 ex:∃(T:Pv)(oc:Re)(od:`xav)(kV doc pm:Re)(an:`xav)(Pw ct:Re)(Tu:Array<|Ve)(o:Obj)(n:Nat),
  fd=PySem.W.fnOf x qual (cP st) (bg st) (ah st) (.ref T) kV doc pm an Pw ct/\K.lookup f=some {oc,od,.func fd,Tu}/\PySem.W.codeIn K Pw qual=true/\K.lookup T=some o/\o.data=.seq #[.none] n
 kp:PySem.W.keepIn K `dt=true
def UC.ok(F:UC K x a d f p)(S:bt N g `xkz)(i:∀b H Q E,e b H Q E->⇑b=⇑g)(v:∀(m:Re)(A:UV)(outer:`xgP)(s:On)(H:Hp)(b:`cg)(Q:VK)(E:XK),Of k {`xaP,m}->e b H Q E →
   ∃t,Rq (`xaA).Ss `xnu t/\t { nx:=λ_ y=>Q .non y,rt:=Q } {`xoR,b} H):FnOk P w K mg base Pb `T5 f p g e:=by
 calc ai λD r=>?_;ext F.ex T oc z kV doc pm an m ct C o n rfl lk l _;calc r ?_;calc IH lk l S i λA outer s H b Q E u j=>?_;exists v _ A _ s H b Q E u j,t,h,q;exact{t,h.Ss,(q)}
def UC.binds{e:`e_}(F:UC K x a d f g)(h:∀(s:On)(T:Pv)(kV doc pm:Re)(an:`xav)(i ct:Re)(o:Obj)(n:Nat)(b:Vq),K.In s.heap->K.lookup T=Y o->o.data=.seq #[.none] n->⇑b=⇑e->BindsTo s (PySem.W.fnOf x a (cP d) `xnu `xkz (.ref T) kV doc pm an i ct) {b,[]} (e.zip b)):Binds K g e []:=by
 ext F.ex T oc l kV doc pm an i ct q o n rfl lk j p m;intro s b X hl
 simp_all
end
def argsOk:List Bool->Ue->Bool
 |[],[]=>J
 |b::bs,v::a=>(if b then v.1 == .fr else Ol v.2)&&argsOk bs a
 |_,_=>B
def zO(c:Nat)(b:`gY)(g:Mt)(a:Ue)(t:T):Option `xge :=
 (ob0 t).bind λy=>if y.1=c+1/\iQ y.2.2=J/\argsOk b a=J/\cj `xaz=J then (g y.2.2 `xaz).bind λz=>if iQ z.1=J/\Ol z.2=J then Y (.obj y.1<|(0,.bl y.2.1)::z.1,(.fr,z.2)) else M else M
def bX(i:Nat)(a:`xfa)(c:Nat)(d:`gY)(g:Mt)(f:OG)(U:VS.Env):Option {`xbG,Val}:=(S4 U[i]?).bind λt=>(`xfN).bind λe=>(f U).bind λb=>(pm (zO c d g b) e t).map λz=>(z.2,U.set i {`sn,z.1})
def tX(G:Gx)(x:Xx):TE:=λO H Q=>∃Z U v b,SR G Z U O H/\x U=Y (v,b)/\Ol v.2=J/\∀u a d,SR G d b O a->OE Z U H d b a->Rp G a u v.2 []->Q u a
def PX(G:Gx)(X:Cx)(e:Expr)(x:Xx):Prop:=PE X e<|tX G x
theorem lh:∀{mv:`gY}{a:Ue},argsOk mv a=J->⇑mv=⇑a
 |[],[],_=>rfl
 |[],_::_,h=>nomatch h
 |_::_,[],h=>nomatch h
 |b::bs,v::d,h=>by
  rw[Za,Za,lh (`xiK).2]
theorem pO:∀{mv:`gY}{d:Ue}{Fs:Wc},argsOk mv d=J->(Pp mv Fs).Sublist (QW d Fs)
 |[],[],_,_=>by simp[Pp]
 |[],_::_,_,h=>nomatch h
 |_::_,[],_,h=>nomatch h
 |b::bs,v::e,[],h=>by simp[Pp]
 |b::bs,(m,t)::e,F::Fs,h=>by
  have h:=Zd.mp h;have a:=pO (Fs:=Fs) h.2;rw[Pp];cases b with
  |true =>
   have:m=.fr:=by simpa using h.1
   subst this;calc List.Sublist.append (Vi _) a
  |false =>
   rw[Zn Zj,Yd];cases m with
   |fr=>calc a.trans<|Vt _ _
   |pu=>calc a
   |bo=>calc a
theorem uj:∀{mv:`gY}{a:Ue}{e:`cg}{d:Wc},argsOk mv a=J->RpL G H e `xaz d->SY mv d=[]
 |[],[],_,_,_,_=>by simp[SY]
 |[],_::_,_,_,h,_=>nomatch h
 |_::_,[],_,_,h,_=>nomatch h
 |b::bs,(m,t)::g,_,_,h,r=>by
  have h:=Zd.mp h;cases r with
  |cons f q =>
   rw[SY,uj h.2 q,ZO];cases b with
   |true=>rfl
   |false=>calc f.Ol (by simpa using h.1)
def AM(h:argsOk e d=J)(f:FpL Z U H d i):∀a∈Pp e i,H a=M:=λa n=>by
 exists zP n,j,F,g,p,o;have key:∀{e:List _}{d:List _}{j:Nat},argsOk e d=J->e[j]?=Y J->∃v,d[j]?=Y v/\v.1=.fr:=by
  intro e
  induction e with
  |nil=>intro d j _ h;simp at h
  |cons b bs r =>
   intro d j h g;cases d with
   |nil=>calc nomatch h
   |cons v q =>
    have h:=Zd.mp h;cases j with
    |zero =>
     simp_all
    |succ j =>
     simp_all
 exists key h g,v,m,l;have:=f.each j v F m p;rw[l]at this;calc this.2 a o
def vy(J:`xnb)(hn:∀k,(`be).2 k≠m)(ht:∀Z U P O H (R:List V->Hp->Prop),SR G Z U O H->cs U=Y P->(∀j N Fs,aN H N->RpL G N j (trees P) Fs->FpL Z U H P Fs->R j N)->t O H R)(h:tX G {`xaC,cs} O H Q):zv (`be).1 m `xhy [] E (tPl G i way) t O H Q:=by
 calc ai λP_ A=>?_;revert h;calc yE4 λZ U v U'=>OI λs e RK kq=>?_;refine A ?_
 .replace e:=Zz.mp e;ext e t0 h0 e;have h0:=eu h0;calc ai λP_ A=>?_;exists Zz.mp e,ks,ek,e3;exists Zz.mp e3,P,el,e4;obtain⟨⟨t',x2⟩,e5,e6⟩:=Zx.mp e4;cases e6;exists s.rp _ _ h0,v0,h1,h2;calc Oj (qr ks J h2 (s.nd i t0 h0) e5) λw x F1 x3=>Pf λw1 w2 w3 p w5=>?_;refine A ?_
  .replace p:=Zz.mp p;ext p ⟨c1,b,fs⟩ Sw p;obtain rfl:=zK Sw;clear Sw;split at p
   .rename_i hc;ext hc rfl T9 l han;obtain⟨⟨Td,y⟩,eg,e7⟩:=Zz.mp p;split at e7
    .rename_i q;calc ai λP_ A=>?_;cases e7;exists fh w2,c',a,dx,b',ns,j,ts,Fs,ec,rfl,eb,rfl,h_;revert h_;calc Pf λeF hA hl hb ra=>?_;cases ec;cases eb;calc A ?_;refine SV Z U t0 ks v0 _ ⟨s,h0,h1,ek,w1,λH1 sm=>Ow a dx _ {rfl,sm a _ hA,?_,?_}⟩
     .have key:∀(ns:List _)(j:`cg),({`xdr,ns.map,j}).lookup m=M:=by
       intro ns
       induction ns with
       |nil=>intro j;simp
       |cons n ns ih =>
        intro j;cases j with
        |nil=>simp
        |cons v j =>
         rw[Zh,SE,XG];have:`xog=B:=by
          grind
         exact this ▸ ih j
      exact key ns j
     .refine ht Z U P O H1 _ (s.same sm) el λus H2 Gs Pz S F=>?_;have L:=sm.trans Pz;have r:=AM l<|{λn v' F' a1 a2=>(F.each n v' F' a1 a2).back sm,F.nd};refine xI8 a us _ _ F1 Gs _ y {by rw[ZO],?_,S.at _ han,?_,?_,?_,eg,λu N F' D ru=>?_}
      .exact eF ▸ .ins (L a _ hA) hl (λ_=>rfl) ((ra.same L).at _<|fN (hl.trans ra.len.1) T9)
      .rw[lh l];simp[trees]
      .refine ZG.mpr {w3,F.nd.sublist<|pO l,λd SQ b2 C z=>?_};subst z;exact Oy.jj (w2.OF d SQ)<|r d C
      .exact uj l S ▸ λd _ z=>nomatch z
      .exists w5 N F' ({(Kept.of L).trans D.kept,λd o1 SQ ho=>D.keep d o1 (λz=>(Zf.mp z).elim SQ λz=>by rw[r d z]at ho;cases ho)<|L d o1 ho,λd h=>D.OF d λz=>h<|L.free z,(by
        calc ai λP_ A=>?_;calc xE8 (fh D.rp) λc2 a2 dx2 b2 ns2 vs2 ts2 Fs2=>yA9 λec2 ea2 eb2 ef2 eF2 hA2 Rg C U8=>?_;cases ec2;clear C;cases ea2;clear e5 RK kq e e3 e4 w5 eg p D;subst ef2;calc A ?_;calc eF2 ▸ .ins hA2 Rg hb (U8.at _ {`xdm,U8.len.1,q.1})),D.nd,λd SQ=>by
        obtain z|z:=D.sub d SQ
        .rcases Zf.mp z with z|z
         .exact .inl z
         .exact .inr<|r d z
        .exact .inr<|L.free z}),F2,g2
       exists s.mut h0 h1 g2,z1,z2;exact kq u N _ z1 z2<|ru.at _<|nq y q.2
    .cases e7
   .cases p
def Io(J:`xnb)(n:∀k,(`be).2 k≠m)(l:`ws)(r:{`xbX,X.K})(p:`IN)(F:`mj)(j:`t_)(q:`xgJ)(t:Binds X.K fd ps [])(u:`kx)(v:`V_)(x:`Fr)(d:{`S1,o,b}):PX G X (.Call `gL `bv [] pos) {`xaC,cs} :=
 PE.weak (ur l r p F (j.mono q) t .nil kW u v x d) λO H Q h=>vy J n {`x5,Ow} h
def C2(J:`xnb)(l:∀k,(`be).2 k≠m)(j:`ws)(q:{`xbX,X.K})(n:`IN)(F:`mj)(d:`t_)(p:`xgJ)(r:Binds X.K fd ps [])(b:UQ o m apos [] pos X a):PX G X (.Call `gL [] [] pos) {`xaC,ak} :=
 PE.weak (v9 j q n F (d.mono p) r .nil kW b) λO H Q h=>vy J l (λZ U t O H R s e k=>by
  cases (e);calc k [] H [] (aN.refl _) .nil {λi v F h=>by simp at h,by simp[QW]}) h
def sXM(x:Xx):Sx:=λU=>(`xfM).bind λz=>if Ol z.1.2 then Y (.nx z.2) else M
def eO(j:Nat)(x:Xx):Sx:=λU=>(`xfM).bind λz=>if Ol z.1.2=J/\j<⇑z.2 then Y {`xoT,Y<|.pu z.1.2} else M
def ot(x:Xx):Sx:=λU=>(`xfM).bind λz=>if Ol z.1.2 then Y (.rt (.fr,z.1.2) z.2) else M
def vY{pos:Pos}(h:`XP)(j:{`xcj,B}):PSV G X `xhP (sXM x) :=
 PS.weak (ja h j) λD O H b=>by
  calc OH b λZ U out=>oe λs e k=>?_;obtain⟨⟨v,p⟩,e1,e2⟩:=Zz.mp e;split at e2
  .rename_i d;obtain rfl:=Om e2;exact Oe Z U v _ {s,e1,d,λu l n a f r=>k _ O l a f}
  .cases e2
def Ap(h:`XP):PSV G X {`xbk,e} (ot x) :=
 PS.weak (ve h) λD O H d=>by
  calc OH d λZ U out=>oe λs e k=>?_;obtain⟨⟨v,p⟩,e1,e2⟩:=Zz.mp e;split at e2
  .rename_i j;obtain rfl:=Om e2;exact Oe Z U v _ ⟨s,e1,j,λu l n b f r=>k u l [] _ O b f r {Yi,λa h=>nomatch h}⟩
  .cases e2
def d8(h:`XP)(C:X.N.Nodup)(l:X.N[j]?=Y d)(w:{`Op,d})(y:{`q8,Ua3 e d b pos X})(A:{`q9,Ua4 X d}) :
  PSV G X (.Assign [.Name d b] e pos) (eO j x) :=
 PS.weak (uo C l w h y A) λD O H z=>by
  calc OH z λZ U out=>oe λs e k=>?_;obtain⟨⟨v,F⟩,e1,e2⟩:=Zz.mp e;split at e2
  .rename_i l;obtain rfl:=Om e2;calc Oe Z U v _ {s,e1,l.1,λu n E p f r=>?_};exists p.val (m:=.fr) l.2 (aN.refl n) r {Yi,λa h=>nomatch h} (.inl {rfl,by decide}),t,q;exact k _ _ n t<|f.trans q
  .cases e2
def nj(i:Nat)(a:`xfa)(k:Ex)(x:Xx):Sx:=λU=>(`xfM).bind λz=>if Ol z.1.2 then fZ i a k (λ_=>Y (.fr,z.1.2)) z.2 else M
def E2{mv:Md}(J:`xnb)(s:`gx)(S:U[i]?=Y `vz)(ek:keys way U=Y Q)(TK:ck U=Y (mk,d))(e5:pm (nK (mk,d) (mv,E)) Q t=Y (t',y'))(PN:aN H H1)(rv:Rp G H1 xv E Fv)(fv:Fp Z U H mv Fv)(k:∀Z' H',SR G Z' {`mz,.ow t'} O H'->OE Z U H Z' {`mz,.ow t'} H'->D O H'):ML (tPl G i way) (tE G ck) Jn xv O H1 D:=by
   calc ai λP_ R=>?_;exists s.rp _ _ S,v,g1,g2;calc Oj {`xdA,Q,S} λw x F1 x3=>Pf λw1 w2 w3 C w5=>?_;calc R ?_;calc SV Z U t Q v w ⟨s.same PN,S,g1,ek,w1.same PN,λH2 Pz=>Oe Z U mk d {(s.same PN).same Pz,TK,λkv H3 Fk RC rk fk=>?_}⟩;have q:=(PN.trans Pz).trans RC;have p:=(rv.same Pz).same RC;have fin:∀N A,Chg G H w F1 x3 N A->D O N:=λN A g=>by
    exists w5 N A g,F2,g2';exists s.mut S g1 g2',z1,z2;exact k _ N z1 z2
   calc ai λP_ R=>?_;cases x with
   |lst l =>
    cases d with
    |int n =>
     exists Zz.mp (C),tt,et,e7;exists Zx.mp e7,j,ej,e8;cases e8;cases (oP et);ext w2.lst_inv a vs Fs rfl rfl L u;have F:=q a _ L;have nd:=Zc.mp w3;have na:a∉Fv:=λz=>by rw[fv.2 a z]at L;cases L
     have y:Oy `xna:=F ▸ True.intro;have off:=λb hb hv=>Oy.jj (u.OF b hb)<|fv.2 b hv;calc R ?_;calc .inl<|Oe a vs n j {rfl,rk.int_inv,F,yS ▸ u.len.1 ▸ ej,fin _ {`xcQ,Fs.set,Fv} ?_};refine Chg.upd q Zv y (.lst av<|(((u.same q).off y nd.1)).putAt j<|(λr hn=>r.keep {`n6,y} λb hb o' TC=>by rw[aE<|λz=>hn (by rw[<-z];calc hb)];calc TC) p na) ?_ ?_
     .rw[Zc];refine{λh=>?_,fo nd.2 fv.1 λi' A _ hi b hb=>off b<|dA hi hb};rcases cU h with z|⟨i',A,_,h1,h2⟩
      .exact na z
      .exact nd.1<|dA h1 h2
     .intro b hb;obtain rfl|hb:=Zi.mp hb
      .exact .inl Zv
      .rcases cU hb with z|⟨i',A,_,h1,h2⟩
       .exact .inr<|fv.2 b z
       .exact .inl<|Zs _<|dA h1 h2
    |_=>cases C
   |dct kd l =>
    cases kd with
    |zero =>
     have hc:(iJ d=true/\Ol E=true/\⇑l<gn)/\x3=.dct 0 (dput l d E):=by
      have w4':(if iJ d/\Ol E/\⇑l<gn then Y (T.dct 0 _,()) else M)=Y _:=C
      simp_all
     ext hc ⟨c1,c2,c3⟩ rfl;have eF:=p.Ol c2;subst eF;exists fA w2,a,ns,vs,ts,Fs,rfl,rfl,L,hl,rfl,u;exists de rk c1,kk,rfl,Tf;subst Tf;have F:=q a _ L;have y:Oy `xna:=F ▸ True.intro;have nd:=Zc.mp w3;exists uv p hl (u.same q),Tz,RT,QN,RA,q1,q2,q3,q4,P;calc R ?_;refine .inr (Pd a _ {rfl,wt.k F (by
      have:⇑({`wT,ts})<16777216:=c3;rw[YA,Zu]at this;rw[YA];have:=u.len.1;have:(Pi:Nat)=16777216:=rfl;lia),fin _ `xfz ?_})
     rw[q1,q3];refine Chg.upd q Zv y {`Sc,y,P.subset} ?_ ?_
     .exact Zc.mpr {λz=>nd.1<|P.subset z,nd.2.sublist P}
     .intro b hb;obtain rfl|hb:=Zi.mp hb
      .exact .inl Zv
      .exact .inl<|Zs _<|P.subset hb
    |succ n=>cases C
   |_=>cases C
def uA{X:Cx}{pos:Pos}(J:`xnb)(C:Of q X.A)(F:`ws)(L:PV G X b j)(he:`XP)(P:Ua2 o b d X)(z:swapsWithSole [.Subscript o b d] e pos.line X.env=pure B)(hw:swappedStores [.Subscript o b d] e X.env=pure M)(Q:(assignEach [.Subscript o b d] X.env).map (·.2)=[assign {`o0,o,d} X.env]):PSV G X (.Assign [.Subscript o b d] e pos) (nj i way j x) :=
 PS.weak (qA he (tY F L (zr<|kS C) P) z hw Q) λD O H E=>by
  calc ai λP_ w=>?_;calc OH E λZ U out=>oe λs e k=>?_;obtain⟨⟨v,U'⟩,e1,e2⟩:=Zz.mp e;calc w ?_;split at e2
  .rename_i N;calc Oe Z U v _ {s,e1,N,λu H' Z' p f r=>?_};obtain⟨⟨mv,tv⟩,ev,e2⟩:=Zz.mp e2;cases ev
   .replace e2:=Zz.mp e2;ext e2 t y e2;replace e2:=Zz.mp e2;ext e2 ks R e2;obtain⟨⟨mk,tk⟩,TK,e2⟩:=Zz.mp e2;obtain⟨⟨t',y'⟩,e5,S⟩:=Zx.mp e2;cases S;exact E2 J p (eu y) R TK e5 (aN.refl H') r {Yi,λa h=>nomatch h} λZ2 H2 n l=>k _ O H2 n<|f.trans l
  .cases e2
end VS
namespace L2
def yE:dU X (.type "dict") (λg H Q=>∃(d:Pv)(f:{`n7,V}),g=[.ref d]/\H d=Y (.dK f)/\∀l,H l=M->Q `z_ {`xch,.dK f}):=by
 intro i s O H g v Q I m h;ext h d f rfl hd q;ext m.one u rfl n;cases n;exists xM I.Og hd,j,r,t,rel,p;calc PySem.kt_call_dict r p (Wb rel ▸ j) λw a sb=>?_;exact{.ref _,_,I.laid (λb o e=>(sb.2 b `xgy).trans<|Zm _ e) (Zq _)<|uN j {`xaK,Yg<|Zg I.big} rel a,rfl,q _<|I.Og.fresh<|Zq _}
end L2
namespace VS
open L2
def p9(v:Ue):Ud:=(v1D v).bind λl=>if gq (l.map (·.2))=J then Y (.fr,.dct 0 l) else M
def EL:gu G (λn H Q=>∃(d:Pv)(j:{`n7,V}),n=[.ref d]/\H d=Y (.dK j)/\∀l,H l=M->Q `z_ {`xch,.dK j}) p9:=by
 intro Z U L H l y N m t Q A e k;unfold p9 at e
 .replace e:=Zz.mp e;ext e D w e;exists AO w,C,rfl;split at e
  .rename_i i;calc ai λE u=>?_;cases e;exists (`xev).one,v,F,rfl,rfl,r;exists fA r,a,ns,s,z,Gs,rfl,rfl,x,hl,rfl,f;calc u ?_;refine{a,_,rfl,x,λq h=>?_};have g:aN H {`xdb,q,.dK<|ns.zip s}:=bI h;rw[List.map_snd_zip (by rw[Zu,hl,f.len.1];calc Zq _)]at i;calc k _ _ _ g (.dct av hl<|f.same g) ?_;exact(f.Ol i) ▸ Fp.new {`xoE,h} (by simp) Fp.nil
  .cases e
def Ib{X:Cx}(d:X.mg "dict" = M)(g:PJ G X [e] cs)(f:Gl X "dict")(he:Qv e [] X):PV G X (.Call (.Name "dict" p) [e] [] pos) (eN p9 cs) :=
 kH yE EL f d zJ g (he:=he)
def J6{i d:Int}:PV G X (.Dict [Y<|.Constant `KE j q] [.Constant (.int d) l g] pos) (wg 0 [(Q3 i,Q3 d)]) :=
 PE.weak (Gp (Cg u6 u6 Hi) L L (by simp) (by show 1<=15;decide)) λO H Q n=>by
  calc ai λt h=>?_;calc Oj n λZ U m r=>oe λs e k=>?_;cases (e);calc h ?_;intro p f;refine{av,[(Sum.inl i,.int d)],rfl,(by show 1<=15;decide),?_};rw[GR];have:Rp G (upd H p _) _ (.dct 0<|(([Sum.inl i]:List _).map _).zip _) _ :=
   .dct av L {`LT,.int d}
  calc k _ _ _ (bI f) this {by simp,λb hb=>by simp at hb;calc hb ▸ f}
def Dl(x y:Val):Ud:=match x.2 with
 |.dct 0 l=>if iJ y.2 then Y (match eU l y.2 with|some t=>sub x.1 t|none=>(.fr,.non)) else none
 |_=>M
def w_get{X:Cx}{apos:Pos}(L:`xgq)(P:`xeX)(he:PV G X e cb)(OB:Tj o "get" X)(OS:Qz pe [e] X)(Oz:`im=J)(h:backTo pe (SL [e] X.env)=[(B,eval e X.env)]):PV G X (.Call (.Attribute o "get" apos) [e] [] pe) {`ww,Dl} :=
 PE.weak (Dg (kS L) P he {OB,OS,Oz,(h)}) λO H Q N=>by
  calc Oj N λZ U m r=>oe λs e u=>?_;obtain⟨⟨C,x⟩,ea,e⟩:=Zz.mp e;obtain⟨⟨z,y⟩,eb,e⟩:=Zz.mp e;unfold Dl at e;split at e
  .rename_i l E;subst E;split at e
   .rename_i R;have d:=ZL e;calc Oe Z U C _ {s,ea,λv H1 F1 t r1 f1=>?_};calc ai λP_ D=>?_;exists fA r1,a,ks,vs,ts,Fs,rfl,rfl,j,hl,rfl,q;calc D ?_;refine⟨a,rfl,.inl {_,.inl j},Oe Z U z y {s.same t,eb,λv2 w F2 g r2 f2=>?_}⟩;exists de r2 R,kk,rfl,ek;rw[ek]at d;rcases pG hl (q.same g) with⟨h1,S⟩|⟨i,v,t2,F,a1,a2,a3,a4,n⟩
    .rw[h1]at d;clear e;cases d;refine{_,iS.k<|g a _ j,?_};exact S ▸ u _ w [] (t.trans g) .non Fp.nil
    .rw[a1]at d;refine{_,iS.k<|g a _ j,?_};rw[a2];have f:=((f1.sub<|Y5 _ _).sub<|cz a4).up n;unfold VS.sub at d;dsimp only at d;rw[d]at f;have et:t2=r:=ZF Prod.snd d;rw[et]at n;exact u v w F (t.trans g) n f
   .cases e
  .cases e
def yQ(x y:Val):Ud:=match x.2 with
 |.dct 3 l=>if iJ y.2 then (eU l y.2).map (sub x.1) else M
 |_=>M
def xN(r:{`ss,.dct 3 l}):∃(a:Pv)(o:Obj)(f:`e9)(d:`cg)(g:Uc)(h:Wc),v=.ref a/\F=h.flatten/\H a=Y {`w_,f.zip d}/\⇑f=⇑d/\l=(f.map bp).zip g/\RpL G H d g h:=r.inv
def K9:fD G (Nh G.K) yQ:=by
 intro Z U R H x y u w F1 F2 m t Q d e k;ext x N x;unfold yQ at e;split at e
 .rename_i l j;subst j;split at e
  .rename_i n;exists Zx.mp e,L,e1,e2;exists xN d.r1,a,o,O,D,E,S,rfl,rfl,r,hl,rfl,q;exists de d.r2 n,h,rfl,z;rw[z]at e1;rcases pG hl q with⟨s,_⟩|⟨i,v,t2,F,g,C,P,A,f⟩
   .rw[s]at e1;cases e1
   .rw[g]at e1;obtain rfl:=Om e1;clear e g e1;cases e2;calc .inr {a,v,rfl,.inl {_,h,.inr {o,(r)},rfl,C.symm},?_};exact k v H F (aN.refl _) f<|(d.f1.sub<|cz A).up f
  .cases e
 .cases e
def IR{X:Cx}(f:`xgq)(i:`cC)(g:`hH)(d:gI b)(j:`xfA):PV G X {`o0,a,pos} {`ww,yQ} :=
 PE.weak `xjP λO H Q h=>j ▸ oi K9 h
def eNew(c:Nat)(g:Mt)(b:OG):Ex:=λU=>(`xfX).bind λa=>if cj `xaz=J then (g [] `xaz).bind λz=>if iQ z.1=J/\isN z.2=J then Y (.fr,.obj `xfV<|(0,.bl B)::z.1) else M else M
def gH(c:Nat)(g:Fn)(d:Ex)(b:OG):Ex:=λU=>(d U).bind λx=>match x.2 with
 |.obj e (_::_)=>if e=c+1 then (`xfX).bind λa=>(g<|x.2::trees a).bind λr=>match r.1 with
  |.fr=>Y r
  |_=>M else M
 |_=>M
theorem El{α:Type}:∀(l:`ew)(a:Wc),Pp (l.map λ_=>B) a=[]
 |[],_=>by simp[Pp]
 |_::_,[]=>by simp[Pp]
 |_::l,F::a=>by
  rw[Zh,Pp,Zn Zj,Yd];calc El l a
theorem Et:∀(mv:`gY)(d:Wc),∀a∈SY mv d,a∈d.flatten
 |[],_,a,h=>by simp[SY]at h
 |_::_,[],a,h=>by simp[SY]at h
 |b::bs,F::d,a,h=>by
  rw[SY]at h;rw[Xi];obtain h|h:=Zf.mp h
  .grind
  .exact ZD _<|Et bs d a h
def Hg{G:Gx}(r:Rp G H u t F)(h:isN t=J):u=.non:=by
 cases r with
 |non=>rfl
 |_=>cases h
def B8{X:Cx}(F:∀n,FnOk X.prog X.w X.K X.mg X.base Pb k f fd ps {`xaX,B}->True)(ht:∀Z U d O H (R:List V->Hp->Prop),SR G Z U O H->cs U=Y d->(∀C A Fs,aN H A->RpL G A C `xnJ Fs->FpL Z U H d Fs->R C A)->t O H R)(n:Nat)(hn:∀U d,cs U=Y d->⇑d=n)(hq:{`xbq,eNew c g cs}):EE (`be).1 {`xaX,B} [] E t O H Q:=by
 calc ai λP_ P=>?_;calc Oj hq λZ U mo r=>oe λs e kq=>?_;exists Zz.mp e,d,el,e1;calc P ?_;split at e1
 .rename_i han;obtain⟨⟨Td,y⟩,eg,e2⟩:=Zz.mp e1;split at e2
  .rename_i hc;cases e2;calc ht Z U d O H _ s el λC H1 Gs PN v fp1 a dx ha S ne=>?_;have hHa:=PN.free ha;have N:aN H1 (upd (upd H1 dx `xgd) a<|.ins (`be).1 dx []):=λb D q=>by
    rw[aE (λz=>by rw[z,ha]at q;cases q),aE (λz=>by rw[z,S]at q;cases q)];exact q
   have em:List.replicate n B=({`m_,n}).map λ_=>B:=by rw[List.map_const',Yt]
   have j:Pp {`oD,n,B} Gs=[]:=em ▸ El _ _;refine xI8 a C [] _ _ Gs _ y ⟨by rw[ZO],.ins (ks:=[]) av L (λ_=>rfl) .nil,(v.same N).at _ han,?_,?_,?_,eg,λu A F' l ru=>{Hg ru hc.2,?_}⟩
   .simp[trees,(hn U d el)]
   .rw[j];simp
   .rw[j];intro b hb Pe;have:b=a:=by simpa using hb
    clear ne hHa N hb;subst this;exact Oy.jj (v.OF b<|Et _ _ b Pe) ha
   .rw[j,ZO]at l;refine kq _ A F' (λb D q=>l.keep b D (λz=>?_)<|N b D<|PN b D q) (by
     calc ai λP_ P=>?_;calc xE8 (fh l.rp) λc2 a2 dx2 b2 ns2 vs2 ts2 Fs2=>yA9 λec2 ea2 eb2 ef2 eF2 hA2 Rg hb2 U8=>?_;cases ec2;clear hb2;cases ea2;clear eg e kq e1 l;subst ef2;calc P ?_;calc eF2 ▸ .ins hA2 Rg (λz=>nomatch z) (U8.at _ {`xdm,U8.len.1,hc.1})) {l.nd,λb hb=>?_}
    .simp_all
    .rcases l.sub b hb with z|z
     .simp_all
     .exact(λb z=>PN.free<|N.free z) b z
  .cases e2
 .cases e1
def MX{G:Gx}{X:Cx}(n:Nat)(M:`xlX)(F:FnOk X.prog X.w X.K X.mg X.base Pb k f fd ps {`xaX,B})(b:`t_)(l:k+1<=k')(q:`xac)(j:{`xbd,X.mg})(r:Binds X.K fd ps [])(t:`kx)(d:∀U a,cs U=Y a->⇑a=n)(u:Qx x)(he:`V_)(v:`Fr):PV G X (.Call `j_ `bv [] pos) {`xoI,cs} :=
 PE.weak (HG M F (b.mono l) q j r .nil kW t u he v) λO H Q h=>B8 (X:=X) (k:=k) (f:=f) (fd:=fd) (ps:=ps) (λ_ _=>True.intro) {`x5,Ow} n d h
def Kp{G:Gx}{X:Cx}(M:`xlX)(F:FnOk X.prog X.w X.K X.mg X.base Pb k f fd ps<|T7 G c [] g)(b:`t_)(j:k+1<=k')(l:`xac)(d:{`xbd,X.mg})(n:Binds X.K fd ps [])(q:Qx x):PV G X (.Call `j_ [] [] pos) {`xoI,ak} :=
 PE.weak (BO M F (b.mono j) l d n .nil kW q) λO H Q h=>B8 (X:=X) (k:=k) (f:=f) (fd:=fd) (ps:=ps) (λ_ _=>True.intro) (λZ U a O H R s e k=>by
  cases (e);calc k [] H [] (aN.refl _) .nil {λi v F h=>by simp at h,by simp[QW]}) 0 (λU a e=>by
  cases (e);rfl) h
theorem zi{g:Nat->Str}(b:∀k,g k≠m):∀(ns:Uj)(a:`cg),((ns.map g).zip a).lookup m=M
 |[],a=>by simp
 |_::_,[]=>by simp
 |n::ns,v::a=>by
  rw[Zh,SE,XG];have:(m==g n)=B:=by
   grind
  calc this ▸ zi b ns a
def zg{G:Gx}(hn:∀k,(`be).2 k≠m)(ht:∀Z U d O H (R:List V->Hp->Prop),SR G Z U O H->cs U=Y d->(∀l j C,aN H j->RpL G j l `xnJ C->FpL Z U H d C->R l j)->t O H R)(hq:{`xbq,gH c h ca cs}):zv (`be).1 m (Sb G h) [] E `xnq t O H Q:=by
 calc ai λP_ w=>?_;calc Oj hq λZ U mo r=>oe λs e S=>?_;obtain⟨⟨P,y⟩,ea,e1⟩:=Zz.mp e;calc w ?_;split at e1
 .rename_i c' q0 fs hy;subst hy;split at e1
  .rename_i hc;subst hc;exists Zz.mp e1,d,el,e2;obtain⟨⟨n,N⟩,F,e3⟩:=Zz.mp e2;calc Oe Z U P _ {s,ea,λv H1 F1 A r1 f1=>?_};calc ai λP_ w=>?_;exists fh r1,c2,a,dx,b,ns,l,ts,C,ec,rfl,h_;revert h_;calc yA7 λeb ef eF hA hl hb ra=>?_;cases ec;calc w ?_;calc Ow a dx _ {rfl,hA,zi hn _ _,ht Z U d O H1 _ (s.same A) el λus H2 Gs z q fp2=>?_};rw[ZO];calc Oe _ _ n N {.cons (r1.same z) q,F,λu j F' RC L D=>?_};cases n with
   |fr =>
    clear e e1 e2 F;cases e3;calc S u j F' {`tf,A.trans,z,RC} L {D.1,λb hb=>A.free<|z.free<|D.2 b hb}
   |pu=>cases e3
   |bo=>cases e3
  .cases e1
 .cases e1
def Kw{G:Gx}(n:∀k,(`be).2 k≠m)(l:`xeX)(u:{`xbX,X.K})(r:`IN)(F:{`sB,h})(j:`t_)(t:`xgJ)(v:Binds X.K fd ps [])(y:`kx)(z:`V_)(C:`Fr)(d:{`S1,o,b}):PV G X (.Call `gL `bv [] pos) `xof :=
 PE.weak (ur l u r F (j.mono t) v .nil kW y z C d) λO H Q q=>zg n {`x5,Ow} q
def G0{G:Gx}(l:∀k,(`be).2 k≠m)(j:`xeX)(t:{`xbX,X.K})(n:`IN)(F:{`sB,h})(d:`t_)(r:`xgJ)(u:Binds X.K fd ps [])(b:UQ o m apos [] pos X a):PV G X (.Call `gL [] [] pos) `xoe :=
 PE.weak (v9 j t n F (d.mono r) u .nil kW b) λO H Q q=>zg l (λZ U y O H R s e k=>by
  cases (e);calc k [] H [] (aN.refl _) .nil {λi v F h=>by simp at h,by simp[QW]}) q
def yz(i:Nat)(a:`xfa)(j:Nat)(U:VS.Env):Option Out:=(S4 U[i]?).bind λt=>(S4 U[j]?).bind λu=>if i≠j then (`xfN).bind λb=>(pm (λx=>aP x [(.fr,u)]) b t).map λz=>.nx ((U.set j M).set i {`sn,z.1}) else M
open Classical in
noncomputable def less(H:Hp)(F:Vr):Hp:=λb=>if b∈F then M else H b
def uk(h:b∈F):less H F b=M:=Zp h
def iR(h:b∉F):less H F b=H b:=Zn h
def iU{o:HO}(h:less H F b=Y o):H b=Y o/\b∉F:=by
 by_cases q:b∈F
 .rw[uk q]at h;cases h
 .rw[iR q]at h;exact{h,(q)}
def BH(h:∀b∈F,Oy<|H b):Kept H (less H F) :=
 {λb a e=>iR (λz=>by have:=h b z;rw[e]at this;calc this) ▸ e,λb o u e=>iR (λz=>by have:=h b z;rw[e]at this;calc this) ▸ e}
def E9{apos pos:Pos}(J:`xnb)(ho:`ws)(hK:`xfA)(hN:X.N[j]?=Y y)(hv:{`ro,y})(hd:Qx y)(hcd:Qy y)(OB:Tj o "append" X)(OS:Qz pe [.Name y p1] X)(Oz:`im=true)(hs:SL [.Name y p1] X.env=(B,eval (.Name y p1) X.env)::SL [] X.env)(Ot:(backTo pe<|SL [] X.env).any (·.1)=B)(Rw:swapsWith (.Call (.Attribute o "append" apos) [.Name y p1] [] pe) M pos.line X.env=pure B) :
  PSV G X (.Expr (.Call (.Attribute o "append" apos) [.Name y p1] [] pe) pos) (yz i way j) :=
 PS.weak (ja (pV XJ Wk Wm iZ ho (cf {`L_,hcd} fG hs) OB OS Oz hs Ot) Rw) λD O H hq=>by
  refine OH hq λZ U out=>oe λs e k=>?_
  .replace e:=Zz.mp e;ext e t ht e;replace e:=Zz.mp e;ext e u A e;have ht:=eu ht;have A:=eu A;split at e
   .rename_i RL;calc ai λP_ k_=>?_;exists Zz.mp e,P,ek,e3;obtain⟨⟨S,x2⟩,e5,e6⟩:=Zx.mp e3;cases e6;exists s.rp _ _ A,vj,j1,j2;have R:=j2;have s0:SR G Z _ O _:={(`xln).len,λi' c' h=>by
     exists c6 h,n,h';exists s.rp i' c' h',v,h1,h2;exact{v,h1,h2.keep (BH R.OF) λb hb d hob=>iR ((λi' c' n h b hb Pe=>s.sep j i' u c' A h `xno b Pe hb) i' c' n h' b hb) ▸ hob},(`xln).nd,(`xln).sep}
    have C:(U.set j M)[i]?=Y `vz:=by
     rw[YZ<|Yg RL];exact ht
    exists s0.rp _ _ C,v,h1,h2;exists qr P J h2 (s0.nd i t C) e5,w,x,F1,x3,w1,w2,w3,L,w5;calc k_ ?_;unfold aP at L;dsimp only at L;split at L
    .rename_i l yv heq;cases heq;exists Zz.mp L,z,ez,e7;cases (ez);split at e7
     .rename_i hl;clear e5 e e3 L;cases e7;ext w2.lst_inv a us Gs rfl rfl ha ra;exists iU ha,E,haj;refine SV Z U t P v `bz ⟨s,ht,h1,ek,(by
       have:∀{P:`T4}{v w:V},Ra G (less H<|Z j) P v w->Ra G H P v w:=by
        intro P v w p
        induction p with
        |nil v=>calc .nil v
        |fld h l _ r=>calc .fld (iU h).1 l r
        |ix h l m _ r=>calc .ix (iU h).1 l m r
        |key h l _ r=>calc .key (iU h).1 l r
        |un _ r=>exact .un r
       calc this w1),λH0 F=>{.inl {rfl,us,hK ▸ OD.of (F a _ E)},vj,j1,a,us,vj,rfl,rfl,F a _ E,ra.len.1 ▸ hl,?_}⟩
      have m0:Oy (H0 a):=F a _ E ▸ True.intro;have g:=Zc.mp w3;have Q:=λb hb Pe=>by
       have:=ra.OF b hb;rw[uk Pe]at this;exact this
      have f:∀b d,less H (Z j) b=Y d->H0 b=Y d:=λb d h=>F b d (iU h).1;have kl:Kept _ H0:={λb xs h=>f b _ h,λb d u h=>f b _ h}
      exists w5 _ _ (by
       refine{kl.trans {`n6,m0},λb d hb h=>by rw[aE<|λz=>hb<|by simp_all];calc f b d h,λb h z=>?_,.lst av<|(RpL.off (ra.keep kl λb hb d h=>f b d h) m0 g.1).append<|.cons (((R.same F)).keep {`n6,m0} λb hb d ho=>by rw[aE<|λz=>haj (by rw[<-z];calc hb)];calc ho) .nil,?_,λb hb=>?_}
       .by_cases q:b=a
        .rw[q,av]at z;cases z
        .rw[aE q]at z;cases e:less H _ b with
         |none=>calc h e
         |some d=>rw[f b d e]at z;cases z
       .rw[YN];refine Zc.mpr ⟨λm=>?_,ZG.mpr {g.2,by simpa using(s.nd j u A),λb hb c hc z=>?_}⟩
        .rcases Zf.mp m with m|m
         .exact g.1 m
         simp_all
        .subst z;exact Q b hb (by simpa using hc)
       .rcases Zi.mp hb with rfl|hb
        .exact .inl Zv
        .rw[YN]at hb;obtain hb|hb:=Zf.mp hb
         .simp_all
         .exact .inr<|uk<|by simpa using hb),F2,g2
      exists s0.mut C h1 g2,z1,z2;have back:∀b,less H _ b=M->bU Z U b\/H b=M:=λb h=>by
       by_cases q:b∈Z j
       .exact .inl<|Pd j u {A,(q)}
       .rw[iR q]at h;exact .inr h
      have RE:∀b,bU Z (U.set j _) b->bU Z U b:=λb=>Px λj' S=>Pc λq1 q2=>Pd j' S {(c6 q1).2,q2};have pu0:∀b,dE Z (U.set j _) b->dE Z U b:=λb=>Px λj' S=>Pc λq1 q2=>Pd j' S {(c6 q1).2,q2};refine k _ O _ z1 ⟨λb d h n=>?_,λb h z=>?_,λb h=>?_,λb h=>?_,(Kept.of F).trans {`n6,m0}⟩
      .exact z2.keep b d (iR {`xcH,n,Pd j u {A,(z)}} ▸ h) λz=>n<|RE b z
      .by_cases q:b=a
       .rw[q,av]at z;cases z
       .rw[aE q]at z;exact h<|F.free z
      .rcases z2.ow b h with h|h
       .exact .inl<|RE b h
       .exact back b h
      .rcases z2.pu b h with h|h|h
       .exact .inl<|pu0 b h
       .exact .inr<|.inl<|RE b h
       simp_all
     .cases e7
    .cases L
   .cases e
end VS
namespace VS
open L2
noncomputable def isInt:T->Bool
 |.int _=>J
 |_=>B
def Jg(i:Nat):SH:=λU=>(pu3 U[i]?).bind λl=>if (l.all λp=>isInt p.1)=J then Y (.fr,l.map (·.1)) else M
def ID(i:Nat)(a:Tg)(b:Ex):Sx:=λU=>(RE U[i]?).bind λl=>(gE 1 a (Jg i) M b {`mz,.pu<|.dct 3 l}).bind λv=>match v.1 with
  |.fr=>Y<|.rt v `xay
  |_=>M
def zip_inj{α β:Type}{a c:`ew}{b d:`xfK}(h:`xlC)(g:⇑c=⇑d)(e:a.zip b=c.zip d):a=c:=by
 rw[<-WR (XA h),e,WR<|XA g]
def Kz{X:Cx}(i:Nat)(N:`e_)(OX:`Ch)(hN:X.N[i]?=Y x)(hv:{`ro,x})(hd:Qx x)(hcd:Qy x)(QS:uD 1 g)(hg:∀cl C s H fp,PVG G `ii tg g)(he:∀cl C s H fp,PV G `ii elt ce)(Se:{`xoy,sc})(S9:`xia)(Ta:1<=⇑N)(hs:∀y,XAF `gc X.env y=pure y) :
  PSV G X (.Return (Y<|.ListComp elt [{tg,.Name x p1,[],0}] sc pos) pos') (ID i g ce) :=
 PS.weak (ve<|uw OX (L7 {`L_,hcd}) Se S9 Ta {`n_,hg} hs) λD O H hq=>by
  revert hq;refine UX λZ U out=>oe λs e k=>?_
  .replace e:=Zz.mp e;ext e l hl e;have hl:=vi hl;calc ai λP_ k_=>?_;obtain⟨⟨mv,tv⟩,ev,e1⟩:=Zz.mp e;have hfr:mv=.fr/\out=.rt (.fr,tv) `xay:=by
    cases mv with
    |fr=>simp_all
    |pu=>cases e1
    |bo=>cases e1
   ext hfr rfl rfl;exists s.rp _ _ hl,v,g1,g2;exists fA g2,a,ns,vs,ts,Fs,rfl,eF,ha,P,rfl,ra;calc k_ ?_;have nd:=s.nd i _ hl;rw[eF]at nd;refine⟨_,g1,Pd a _ {rfl,ha,λo=>?_}⟩;have mu:Oy `xiT:=ha ▸ True.intro;have kp:Kept H `xgI:=Kept.upd<|.inl mu;have es:O.set i (Y `bz)=O:=by
    exists Ze.mp g1,h,e;exact e ▸ VM h
   have aΦ:a∈Z i:=by simp_all
   have s1:SR G `xjI {`mz,.pu `xlm} O `xgI:=by
    have:=s.put (c:=.pu _) {`xor,hl} (.dctZ av P<|ra.off mu (`ZB).1) (λj c' n hj w q=>q.keep kp λb hb ob ho=>by
     rw[aE<|λz=>s.sep i j _ c' hl hj `xno a aΦ (by rw[<-z];calc hb)];calc ho) (λ_ z=>nomatch z) (λ_ z=>nomatch z) λj u n hj b hb Pe=>s.sep j i u _ hj hl n b hb<|(λb hb=>by simp_all) b Pe
    simp_all
   calc ai λP_ k_=>?_;refine Oj (ux QS (by
    calc Oe _ _ _ tv {s1,ev,λu H' F R r f=>?_};have ee:({`mz,.pu `xlm}).set i M=U.set i M:=by rw[List.set_set]
    have sd:=(s1.drop i).same R;rw[ee]at sd;have RE:∀b,bU `xjI `xay b->bU Z U b:=λb=>Px λj t=>Pc λA d=>by
     exists c6 A,n,m;rw[fU n]at d;exact{j,t,m,(d)}
    refine k u H' F _ O sd {λb ob h n=>?_,λb h z=>?_,λb h=>.inl<|RE b h,λb=>Px λj t=>Pc λA d=>?_,kp.trans<|Kept.of R} r {f.1,λb hb=>.inl ?_}
    .have nb:b≠a:=λz=>n {i,_,hl,z ▸ aΦ};exact{R b ob<|aE nb ▸ h,λz=>n<|RE b z}
    .have Q:=R.free z;by_cases q:b=a
     .rw[q,av]at Q;cases Q
     .rw[aE q]at Q;exact h Q
    .exists c6 A,n,m;rw[fU n]at d;exact .inl {j,t,m,(d)}
    .have:=f.2 b hb;by_cases q:b=a
     .rw[q,av]at this;cases this
     .rw[aE q]at this;calc this)) λZ2 U2 m2 l2=>oe λs2 e2 k2=>?_
   calc k_ ?_;refine k2 _ _ [] (aN.refl _) ?_ (λb hb=>nomatch hb)
   .replace e2:=Zz.mp e2;ext e2 l3 S e2;have S:=GY S;split at e2
    .rename_i hint;cases e2;exists s2.rp _ _ S,v3,A,d;rw[g1]at A;cases A;exists xN d,a3,o3,ks3,vs3,E,Fs3,ea3,_,RM,Rm,rfl,U8;cases ea3;rw[av]at RM;have ek:=zip_inj P Rm<|HO.dK.inj (HO.frz.inj<|ZL RM).2;clear S k2 d;subst ek;have em:((ns.map _).zip E).map _=ns.map bp:=WR (by rw[Zu,Rm,U8.len.1];calc Zq _);have zl:⇑(ns.zip vs)=⇑ns:=by simp_all
     refine{λH2 PU _=>{λn t hn=>?_,λn hn=>?_},λb hb=>nomatch hb}
     .rw[em,ZV]at hn;exists Zx.mp hn,kk,Ub,Rx;have L:=(Ze.mp Ub).1;refine⟨{PU.frz _ _ _ av,zl ▸ L},λy H3 hy=>?_⟩;clear PU;ext hy rfl p hp rfl;refine{aN.refl _,[],?_,λb hb=>nomatch hb};have hp1:p.1=kk:=by
       rw[Xw]at hp
       simp_all
      have hi:isInt t=J:=by
       have:=ZC.mp hint (t,E[n]'(U8.len.1 ▸ Rm ▸ L)) (by
        calc ZE (i:=n) ?_;rw[Xw];exact{ZV ▸ Ub ▸ ZF _ Rx,Zo _})
       exact this
      rw[hp1,<-Rx];rw[<-Rx]at hi;cases kk with
      |inl n=>calc .int n
      |inr z=>cases hi
     .refine{PU.frz _ _ _ av,?_}
      simp_all
    .cases e2
def FL(c:Nat)(x:`xax):Bool:=(((S4 x).bind ob1).map λz=>z.1==c+1).getD B
def Dp(h:FL c z=J):∃q fs,z=Y {`sn,.obj `xfV `xnH}:=by
 unfold FL at h;cases e:(S4 z).bind ob1 with
 |none=>rw[e]at h;cases h
 |some y =>
  rw[e]at h;exists Zz.mp e,t,b,a;exact{y.2.1,y.2.2,by rw[eu b,AG a,{`xow,h}]}
def su(i c:Nat)(b:`gY)(g:Mt)(x:Xx)(d:OG)(U:VS.Env):Option {`xbG,Val}:=if FL c (U[i]?:Option<|Ug)=J then (`xfM).bind λz=>if Ol z.1.2=J then (match (z.2[i]?:Option<|Ug) with
 |some `kw=>(d z.2).bind λa=>(zO c b g ((.fr,z.1.2)::a) t).map λr=>(r.2,z.2.set i {`sn,r.1})
 |_=>M) else M else M
def Hu{G:Gx}{X:Cx}(hn:∀k,(`be).2 k≠m)(hN:X.N[i]?=Y y)(hv:{`ro,y})(hd:Qx y)(hcd:Qy y)(hc:{`xbX,X.K})(hm:`IN)(F:`mj)(hr:`t_)(hk:`xgJ)(hb:Binds X.K fd ps [])(h1:`XP)(ha:`xew)(Rl:`V_)(OP:`Fr)(ht:{`S1,.Name y p1,pl}):PX G X (.Call (.Attribute (.Name y p1) m apos) `bv [] pos) (su i c mv g x cs) :=
 PE.weak (ur {`L_,hcd} hc hm F (hr.mono hk) hb .nil kW (cf h1 ha Rl) Rl OP ht) λO H Q h=>by
  calc ai λP_ j=>?_;revert h;calc yE4 λZ U v U'=>OI λs e RK kq=>?_;calc j ?_;unfold su at e;split at e
  .rename_i hob;obtain⟨⟨v1,U1⟩,e1,e2⟩:=Zz.mp e;split at e2
   .rename_i R;exists Dp hob,q0,fs0,h0
    .refine ai λP_ j=>?_;exists s.rp _ _ h0,v0,g1,g2;exists fh g2,c',a,dx,b,ns,q,ts,Fs,ec,rfl,h_;revert h_;calc yA7 λeb ef eF hA hl hbb ra=>?_;cases ec;calc j ?_;have key:∀(ns:List _)(q:`cg),({`xdr,ns.map,q}).lookup m=M:=by
      intro ns
      induction ns with
      |nil=>intro q;simp
      |cons n ns ih =>
       intro q;cases q with
       |nil=>simp
       |cons v q =>
        rw[Zh,SE,XG];have:`xog=B:=by
         grind
        exact this ▸ ih q
     refine{_,g1,Ow a dx _ ⟨rfl,hA,key _ _,Oe Z U v1 _ {s,e1,R,λu1 H1 Z1 s1 f1 r1=>?_}⟩};split at e2
     .rename_i t1 t;calc ai λP_ j=>?_;exists Zz.mp e2,xs,el,e3;obtain⟨⟨x3,y3⟩,o,e4⟩:=Zx.mp e3;cases e4;exists s1.rp _ _ t,va,q1,w2;rw[g1]at q1;cases q1;calc j ?_;have w3:=s1.nd i t1 t;calc Ow _ _ xs {s1,el,λus H2 Gs E rp2 fp2=>?_};show T7 G c mv g _ H2 Q E0;rw[ZO]
      .replace o:=Zz.mp o;ext o ⟨c1,d,fs⟩ Sw o;obtain rfl:=zK Sw;clear Sw;split at o
       .rename_i hcc;ext hcc rfl T9 l han;obtain⟨⟨Td,z⟩,eg,e7⟩:=Zz.mp o;split at e7
        .rename_i p;calc ai λP_ j=>?_;cases e7;exists fh w2,c2,a2,dx2,b2,ns2,vs2,ts2,Fs2,ec2,ea2,eb2,rfl,h_;revert h_;calc Pf λeF2 hA2 Rg C P=>?_;cases ec2;cases ea2;cases eb2;calc j ?_;have S:FpL Z1 U1 H1 ((.fr,v1.2)::xs) ([]::Gs):={λn v' F' a1 a2=>by
          cases n with
          |zero=>cases a1;cases a2;calc Fp.nil
          |succ n=>exact fp2.each n v' F' (by simpa using a1)<|by simpa using a2,by
          calc fp2.nd}
         have r:=AM l S;have L:RpL G H2 _ _ _:=.cons (r1.same E) rp2;refine xI8 a _ _ _ (Z1 i) _ _ z {rfl,?_,L.at _ han,?_,?_,?_,eg,λu H' F' D ru=>?_}
         .exact eF2 ▸ .ins (E a _ hA2) Rg (λ_=>rfl) ((P.same E).at _ {`xdm,P.len.1,T9})
         .rw[lh l];simp[trees]
         .refine ZG.mpr {w3,S.nd.sublist<|pO l,λd SQ b2 C z=>?_};subst z;exact Oy.jj (w2.OF d SQ)<|r d C
         .rw[uj l L];exact λd _ z=>nomatch z
         .have back:Rp G H' `bz (.obj `xfV<|(0,.bl d)::Td) F':=by
           calc ai λP_ j=>?_;calc xE8 (fh D.rp) λc3 a3 dx3 b3 ns3 vs3 ts3 Fs3=>yA9 λec3 ea3 eb3 ef3 eF3 hA3 Rm hb3 U8=>?_;cases ec3;clear hb3;cases ea3;clear RK kq e eg e2 e3 o D;subst ef3;calc j ?_;exact eF3 ▸ .ins hA3 Rm C (U8.at _<|fN (Rm.trans U8.len.1) p.1)
          exists s1.mut t g1 ({(Kept.of E).trans D.kept,λd o1 SQ ho=>D.keep d o1 (λz=>(Zf.mp z).elim SQ λz=>by rw[r d z]at ho;cases ho)<|E d o1 ho,λd h=>D.OF d λz=>h<|E.free z,back,D.nd,λd SQ=>by
           obtain z|z:=D.sub d SQ
           .rcases Zf.mp z with z|z
            .exact .inl z
            .exact .inr<|r d z
           .exact .inr<|E.free z}),z1,z2
          exact kq u H' _ z1 {`xoH,z2}<|ru.at _<|nq z p.2
        .cases e7
       .cases o
     .cases e2
   .cases e2
  .cases e
noncomputable def fnm(a:`e_)(k:Nat):Str:=match a[k]? with
 |some x=>x
 |none=>{#[k]}
def gxO(a:`e_)(K:W0)(C D:Pv):Gx:={K,λc=>(if c=2 then D else C,fnm a),λ_=>M,λ_=>C}
def Gn{a:`e_}(i:a.Nodup)(h:∀x∈a,x.cps.size≠1)(k b:Nat)(e:fnm a k=fnm a b):k=b:=by
 unfold fnm at e;by_cases f:k<⇑a
 .by_cases d:b<⇑a
  .rw[Zo f,Zo d]at e;exact(Vb i).mp e
  .rw[Zo f,X6<|Yo d]at e;have g:a[k]=({(_)}:Str):=e;exact absurd (by rw[g];rfl)<|h _<|YT f
 .by_cases d:b<⇑a
  .rw[X6<|Yo f,Zo d]at e;have g:({(_)}:Str)=a[b]:=e;exact absurd (by rw[<-g];rfl)<|h _<|YT d
  simp_all
def HM{a:`e_}{K:W0}(b:a.Nodup)(h:∀x∈a,x.cps.size≠1):ly `xjh:=λ_ k d e=>Gn b h k d e
def iw(h:x∉a)(d:x.cps.size≠1)(k:Nat):fnm a k≠x:=λe=>by
 unfold fnm at e;split at e
 .rename_i y b;exact h<|e ▸ ZE b
 .exact d (by rw[<-e];rfl)
def Bd{a:`e_}{K:W0}(b:a[k]?=Y f)(h:QM K C)(g:QM K D)(e:bj K C f)(d:bj K D f):P0 `xjh K k f :=
 {λc=>by show fnm a k=f;unfold fnm;rw[b],λc=>by show QM K (if c+1=2 then D else C);split<;>assumption,λc=>by show bj K (if c+1=2 then D else C) f;split<;>assumption}
structure MtAt(P:UF)(w:XAE)(K:W0)(mg:W3)(base:XAD)(k:Nat)(G:Gx)(c:Nat)(x:Str)(ps:`e_)(mv:`gY)(g:Mt):Prop where
 ex:∃f fd,FnOk P w K mg base Pb k f fd ps `xhy/\Meth K (`be).1 x f/\Binds K fd ps []
 cl:QM K (`be).1
 no:∀k,(`be).2 k≠x
structure MpAt(P:UF)(w:XAE)(K:W0)(mg:W3)(base:XAD)(k:Nat)(G:Gx)(c:Nat)(x:Str)(ps:`e_)(h:Fn):Prop where
 ex:∃f fd,FnOk P w K mg base Pb k f fd ps (Sb G h)/\Meth K (`be).1 x f/\Binds K fd ps []
 cl:QM K (`be).1
 no:∀k,(`be).2 k≠x
structure InAt(P:UF)(w:XAE)(K:W0)(mg:W3)(base:XAD)(k:Nat)(G:Gx)(c n:Nat)(x:Str)(ps:`e_)(g:Mt):Prop where
 ex:∃f fd,FnOk P w K mg base Pb k f fd ps {`xaX,false}/\Mk K (`be).1 f/\Binds K fd ps []
 mg:mg x=some (.ref (`be).1)
section
variable{K:W0}
theorem MtAt.at{m:Me}(h:MtAt P w K mg base k G c x ps mv g):MtAt P w K mg base k `xeI c x ps mv g:={h.ex,h.cl,(h.no)}
theorem InAt.at{P:UF}{w:XAE}{mg:W3}{base:XAD}{k c n:Nat}{G:Gx}{x:Str}{ps:`e_}{g:Mt}{m:Me}(h:InAt P w K mg base k G c n x ps g):InAt P w K mg base k `xeI c n x ps g:={h.ex,(h.mg)}
def nL{G:Gx}(F:Ov K x b e f l)(p:`xkr)(q:{`xbX,K})(s:∀k,(`be).2 k≠x)(S:{`xbr,e})(m:⇑ps=i)(o:`xlo)(h:Ua5 x b e ps)(r:∀(a:Pv),Ua6 k Pb P w K mg base N b e f λX=>iM `u8 X.Ss (bg e) d) :
  MtAt P w K mg base `T5 G c x ps mv (Rj c i j mv d):=⟨{f,l,fnM F S m o r,p,F.binds h},q,s⟩
def KW{G:Gx}(F:Ov K y b e f l)(p:`xod)(q:{`xbd,mg})(S:{`xbr,e})(m:⇑ps=i)(o:`xlo)(h:Ua5 y b e ps)(r:∀(a:Pv),Ua6 k Pb P w K mg base N b e f λX=>iM `u8 X.Ss (bg e) d) :
  InAt P w K mg base `T5 G c n x ps (Rj c i j {`oD,n,B} d):=⟨{f,l,fnM F S m o r,p,F.binds h},q⟩
def Gc{G:Gx}(F:UC K y d h f q)(u:`xod)(v:{`xbd,mg})(S:{`xbr,h})(r:⇑ps=m)(t:⇑N=p)(j:∀(s:On)(T:Pv)(kV doc pm:Re)(an:`xav)(A ct:Re)(o:Obj)(n:Nat)(i:Vq),K.In s.heap->K.lookup T=Y o->o.data=.seq #[.none] n->⇑i=⇑ps->BindsTo s (PySem.W.fnOf y d (cP h) (bg h) (ah h) (.ref T) kV doc pm an A ct) {i,[]} (ps.zip i))(z:∀(a:Pv),Ua6 k Pb P w K mg base N d h f λX=>iM `u8 X.Ss (bg h) e) :
  InAt P w K mg base `T5 G c n x ps (Rj c m p {`oD,n,B} e):=⟨{f,q,Mm `xjJ r t z,u,F.binds j},v⟩
def qW{G:Gx}(F:Ov K x a d f j)(o:`xkr)(p:{`xbX,K})(r:∀k,(`be).2 k≠x)(S:{`xbr,d})(l:⇑ps=h)(m:⇑N=i)(e:Ua5 x a d ps)(q:Ua6 k Pb P w K mg base N a d f λX=>iM G X.Ss `xnu b) :
  MpAt P w K mg base `T5 G c x ps (fn h i b):=⟨{f,j,fnV F S l m q,o,F.binds e},p,r⟩
end
def jo{X:Cx}(J:`xnb)(F:`wp)(l:`t_)(r:`xgJ)(q:`ws)(s:`kx)(y:{`q8,Qv e es X})(z:{`q8,Qw pos es X})(d:{`q8,UQ o m apos `bv pos X a}):PX G X (.Call `gL `bv [] pos) {`xaC,cs}:=by
 calc Oo F.ex λf fd=>oe λv u t=>?_;calc Io J F.no q F.cl u v l r t s y z d
def D7{X:Cx}(J:`xnb)(F:`wp)(l:`t_)(r:`xgJ)(q:`ws)(d:UQ o m apos [] pos X a):PX G X (.Call `gL [] [] pos) {`xaC,ak}:=by
 calc Oo F.ex λf fd=>oe λu t s=>?_;calc C2 J F.no q F.cl t u l r s d
def JR{X:Cx}(F:`wp)(r:`t_)(s:`xgJ)(v:X.N[i]?=Y x)(l:{`ro,x})(t:Qx x)(a:Qy x)(D:PX G X e xc)(u:`xew)(E:`V_)(H:`Fr)(q:{`S1,`gc,d}):PX G X (.Call {`z3,`gc,m,apos} `bv [] pos) (su i c mv g xc cs):=by
 calc Oo F.ex λf fd=>oe λC z y=>?_;calc Hu F.no v l t a F.cl z C r s y D u E H q
def FX{X:Cx}(F:{`xbm,h})(l:`t_)(r:`xgJ)(q:`xeX)(s:`kx)(y:`V_)(z:`Fr)(d:{`S1,o,a}):PV G X (.Call `gL `bv [] pos) `xof:=by
 calc Oo F.ex λf fd=>oe λv u t=>?_;calc Kw F.no q F.cl u v l r t s y z d
def pP{X:Cx}(F:{`xbm,h})(l:`t_)(r:`xgJ)(q:`xeX)(d:UQ o m apos [] pos X a):PV G X (.Call `gL [] [] pos) `xoe:=by
 calc Oo F.ex λf fd=>oe λu t s=>?_;calc G0 F.no q F.cl t u l r s d
def M9{e:Ex}:∀(U:VS.Env)(d:Ue),ae e ak U=Y d->⇑d=1:=λU d h=>by
 exists Zz.mp h,a,_,h;cases h;rfl
def Kd{X:Cx}(F:{`xbc,n})(d:`t_)(q:k+1<=k')(s:`kx)(l:∀U a,cs U=Y a->⇑a=n)(r:`xac)(y:Qx x)(he:`V_)(z:`Fr):PV G X (.Call `j_ `bv [] pos) {`xoI,cs}:=by
 calc Oo F.ex λf fd=>oe λv u t=>?_;calc MX n u v d q r F.mg t s l y he z
def Il{X:Cx}(F:{`xbc,0})(a:`t_)(d:k+1<=k')(l:`xac)(t:Qx x):PV G X (.Call `j_ [] [] pos) {`xoI,ak}:=by
 calc Oo F.ex λf fd=>oe λs r q=>?_;calc Kp r s a d l F.mg q t
def tV{apos pos:Pos}(J:`xnb)(d:`ws)(q:PJ G X [e] cs)(s:{`q8,X.K=G.K})(C:{`q8,Tj o "append" X})(A:{`q8,Qz pe [e] X})(w:{`q8,`im=true})(a:{`q8,Qv e [] X})(y:{`q8,(backTo pe<|SL [] X.env).any (·.1)=B})(u:{`q8,swapsWith (.Call (.Attribute o "append" apos) [e] [] pe) M pos.line X.env=pure B}) :
  PSV G X (.Expr (.Call (.Attribute o "append" apos) [e] [] pe) pos) (sX<|k9 i way aP cs) :=
 DE J XJ Wk Wm iZ nU `xgs d q s C A w a y u
noncomputable def mkT(m:Nat)(t:T):T:=.obj 0 [(0,.bl J),(m,t)]
noncomputable def unT:T->Option `xaa
 |.obj 0 [(0,.bl true),(m,t)]=>Y (m,t)
 |_=>M
def pF(h:unT t=Y (m,u)):t=mkT m u:=by
 cases t with
 |obj c fs =>
  obtain _|c:=c
  .rcases fs with _|⟨⟨_|n,p⟩,fs⟩
   .cases h
   .cases p with
    |bl b =>
     cases b with
     |true =>
      rcases fs with _|⟨⟨k,x⟩,_|_⟩
      .cases h
      .cases h;rfl
      .cases h
     |false=>cases h
    |_=>cases h
   .cases h
  .cases h
 |_=>cases h
noncomputable def JA(a:`cg):Me:=λk=>match k with
 |0=>M
 |k+1=>a[k]?
def markL:Nat->List Bool->Uc->Uc
 |k,b::bs,t::a=>(if b then mkT `T5 t else t)::markL `T5 bs a
 |_,_,_=>[]
def qC(U:VS.Env):Nat->List Bool->Option (Uc)
 |_,[]=>Y []
 |k,true::bs=>(S4 U[k]?).bind λt=>(unT t).bind λz=>if z.1=k+1 then (qC U `T5 bs).map (z.2::·) else M
 |k,false::bs=>qC U `T5 bs
noncomputable def iA{α:Type}:List Bool->List α->List α
 |true::bs,x::a=>x::iA bs a
 |false::bs,_::a=>iA bs a
 |_,_=>[]
noncomputable def ioZ(Z:Os):Nat->List Bool->Wc
 |_,[]=>[]
 |k,true::bs=>Z k::ioZ Z `T5 bs
 |k,false::bs=>ioZ Z `T5 bs
noncomputable def FG:T->Bool
 |.str _=>J
 |_=>B
def DU(b:Uc)(v:Val):Bool:=Ol v.2||(match b,v with
 |[.lst [.int _]],(.fr,.lst a)=>a.all FG
 |_,_=>B)
def Fm(h:DU a v=J):Ol v.2=J\/∃n b,a=[.lst [.int n]]/\v=(.fr,.lst b)/\b.all FG=J:=by
 obtain h|h:=Bool.or_eq_true_iff.mp h
 .exact .inl h
 ext v m t;rcases a with _|⟨o,a⟩
 .cases h
 cases o with
 |lst l =>
  rcases l with _|⟨i,l⟩
  .cases h
  cases i with
  |int i =>
   rcases l with _|⟨_,_⟩
   .rcases a with _|⟨_,_⟩
    .cases m with
     |fr =>
      cases t with
      |lst l=>calc .inr {_,_,rfl,rfl,(h)}
      |_=>cases h
     |_=>cases h
    .cases h
   .cases h
  |_=>cases h
 |_=>cases h
def wx{a:Uc}(h:a.all FG=J):gq a=J/\cj a=J:=by
 induction a with
 |nil=>exact{rfl,(rfl)}
 |cons t a b =>
  rw[Wj,YH]at h;cases t<;>first|calc b h.2|cases h.1
def Z7(e g:Nat)(a:`gY)(b:Sx):Uc->Option `xjH
 |f::d=>if ⇑d+1=e/\⇑a=⇑d then
  (b<|(Y (.ow<|mkT 1 f)::List.zipWith qZ a (markL 1 a d))++List.replicate (g-e) M).bind λo=>match o with
   |.rt v U=>(`xll).bind λos=>if DU os v=J/\cj os=J then Y (os,v.2) else M
   |.nx U=>(`xll).bind λos=>if cj os=J then Y (os,.non) else M
   |_=>M else M
 |[]=>M
structure ChI(G:Gx)(H:Hp)(mv:`gY)(vs:`cg)(Fs:Wc)(os:Uc)(H2:Hp)(Gs:Wc):Prop where
 kept:Kept H H2
 keep:∀b o,b∉Pp mv Fs->H b=some o->H2 b=some o
 OF:∀b,H b≠none->H2 b≠none
 rp:RpL G H2 (iA mv vs) os Gs
 nd:Gs.flatten.Nodup
 sub:∀a∈Gs.flatten,a∈Pp mv Fs\/H a=none
def spI(G:Gx)(d:`gY)(g:{`Sn,Uc,T}):Sp:=λm H Q _=>∃(a:Pv)(i:`cg)(j:T)(f:Uc)(F:Vr)(e:Wc)(os:Uc)(x:T),m=.ref a::i/\Rp G H `bz j F/\RpL G H i f e/\(∀v∈iA d i,∃b,v=.ref b)/\gy j=J/\cj f=J/\⇑d=⇑f ∧
 (`xjK).Nodup/\(∀b∈F++Pp d e,b∉SY d e)/\g (j::f)=Y (os,x)/\∀u l Gs h,ChI G H (J::d) m (F::e) os l Gs->Rp G l u x h->h.Nodup->(∀a∈h,a∉Gs.flatten)->(∀a∈h,H a=M\/a∈F++Pp d e)->Q u l
section
variable{H:Hp}
def new_apart{n:Int}(r:RpL G H d [.lst [.int n]] Gs)(q:Rp w H u (.lst e) F)(f:e.all FG=J):∀a∈F,a∉Gs.flatten:=by
 cases r with
 |cons i r1 =>
  cases r1;ext i.lst_inv a d z rfl rfl t s;ext q.lst_inv p x y rfl rfl h g;rw[g.Ol (wx f).1];intro b hb v;rw[ZK]at hb;subst hb;cases s with
  |cons o m =>
   cases m;cases o;have:b=a:=by simpa using v
   subst this;rw[t]at h;cases h;cases g with
   |cons l j =>
    cases j;clear q;cases l;cases f
def HD{G:Gx}:∀{bs:`gY}{d:`cg}{e:Uc}{g:Wc}(k:Nat),RpL `xeI H d e g->(∀v∈iA bs d,∃b,v=.ref b)->(∀j,m (k+1+j)=d[j]?)->⇑bs=⇑e->RpL `xeI H d (markL k bs e) g:=by
 intro bs d e g k q;revert bs k;apply RpL.ind ?_ ?_ q
 .intro bs k _ _ hl;obtain rfl:=Xn hl;exact .nil
 .intro v t F d e g r q f bs k h hm hl;exists Xh hl,b,bs,rfl;have f:=f _ (λw hw=>h w (by cases b with|true=>calc Zs v hw|false=>calc hw)) (λj=>by rw[show k+1+1+j=k+1+(j+1) by omega,hm _];rfl) (by simpa using hl);cases b with
  |false=>calc .cons r f
  |true =>
   exists h v Zv,a,rfl;calc .cons (.mk (hm 0) r) f
theorem yq{G:Gx}(s:SR (G.at<|JA f) Z U O H):∀(bs:`gY)(k:Nat)(os:Uc),qC U k bs=Y os->cj os=J →
  RpL G H (iA bs<|f.drop k) os (ioZ Z k bs)/\(ioZ Z k bs).flatten.Nodup/\∀a∈(ioZ Z k bs).flatten,∃j t,k<=j/\U[j]?=Y `vz/\a∈Z j
 |[],k,os,h,_=>by
  cases h;refine{?_,Yi,λa h=>nomatch h};cases f.drop k<;>calc .nil
 |false::bs,k,os,h,i=>by
  exists yq s bs _ os h i,d,o,l;refine{?_,o,λa D=>?_}
  .rw[<-List.drop_drop,List.drop_one]at d;cases q:f.drop k with
   |nil=>rw[q]at d;cases bs<;>(try rename_i b _;clear h o l;cases b)<;>calc d
   |cons v r=>rw[q]at d;exact d
  .exists l a D,j,t,w,n;exact{j,t,by omega,n}
 |true::bs,k,os,h,i=>by
  .replace h:=Zz.mp h;ext h t g h;have g:=eu g;obtain⟨⟨m,u⟩,e1,e2⟩:=Zz.mp h;split at e2
   .rename_i hm;calc ai λR y=>?_;exists Zx.mp e2,x,e3,rfl;have i:=Zd.mp i;exists yq s bs _ _ e3 i.2,d,o,l;have N:=pF e1;subst N;clear e2 e1 h;subst hm;exists s.rp k _ g,v,Q,L;exists rD (L),a,rfl,F,E;calc y ?_;have hd:f.drop k=.ref a::f.drop `T5:=by
     exists Ze.mp F,A,e;rw[YG A,e]
    refine{?_,?_,λb hb=>?_}
    .exact hd ▸ .cons (E.at _ i.1) d
    .show (Z k++(ioZ Z _ bs).flatten).Nodup;calc ZG.mpr {s.nd k _ g,o,λb hb c C z=>?_};subst z;exists l b C,j,p,w,n,P;exact s.sep k j _ _ g n `bi b hb P
    .rcases Zf.mp (hb) with z|z
     .exact{k,_,Zq _,g,z}
     .exists l b z,j,p,w,n;exact{j,p,by omega,n}
   .cases e2
end
section
variable{K:W0}
def fnI{G:Gx}{st:Stmt}(F:Ov K x i st f fd)(S:{`xbr,st})(hp:⇑ps=np)(hn:⇑N=nn)(hb:∀(m:Me),Ua6 k Pb P w K mg base N i st f λX=>iM `xeI X.Ss (bg st) l) :
  FnOk P w K mg base Pb `T5 f fd ps (spI G mv<|Z7 np nn mv l):=by
 refine F.ok S (λvs H Q E h=>?_) λPw A outer s H vs Q E hr h=>?_
 .refine ai λP_ k_=>?_;ext h a p t0 d F0 Fs os y rfl h_;revert h_;calc L2.M3 λr0 r R no nos hm nd sp e q=>?_;calc k_ ?_;dsimp only[Z7]at e;split at e
  .rename_i hl;rw[Za,r.len.1,hl.1,hp]
  .cases e
 .refine ai λP_ k_=>?_;ext h a p t0 d F0 Fs os y rfl h_;revert h_;calc L2.M3 λr0 r R no nos hm nd sp e q=>?_;calc k_ ?_;refine{_,hb (JA `xhx) _ A _ s H E hr,?_};dsimp only[Z7]at e;split at e
  .rename_i hl;exists Zz.mp e,o,e1,e2;have hml:∀(bs:List _)(d:Uc)(k:Nat),⇑bs=⇑d->⇑(markL k bs d)=⇑d:=by
    intro bs
    induction bs with
    |nil=>intro d k h;rw[Xj.mp h.symm];rfl
    |cons b bs ih =>
     intro d k h;cases d with
     |nil=>simp at h
     |cons t d=>exact ZF (·+1)<|ih d _<|W4 h
   exists wA (Rp.mk (m:=1) (rfl)<|r0.at _ no) (HD 1 (r.at (JA `xhx) nos) R (λj=>by rw[show 1+1+j=(1+j)+1 by omega];rw[Uw 1 j];rfl) hm) (hml mv d 1 hm ▸ hm) nd sp nn _ L,s0,RE;rw[hml mv d 1 hm,hl.1]at s0 RE;have e3:L2.start N {`xde,a,p}=({`xde,a,p}).map Y++List.replicate (nn-(⇑p+1)) M:=by
    unfold L2.start;rw[hn];rfl
   rw[e3];have C:=RE;have fin:∀{Z:VS.Env}{Z':Os}{O':L2.St}{g:Hp}{os:Uc},qC _ 0 _=Y os->cj os=J->SR _ _ _ O' g->OE _ _ H _ Z g →
     ChI G H (J::mv) `xhx (F0::Fs) os g (ioZ Z' 0 _):=λ{Z Z' O' g os} ho T9 O fr=>by
    exists yq O _ 0 os ho T9,h1,h2,h3;refine{fr.kept,λU o' Pe ho=>({`xdS,U,Pe,C}).1,fr.OF,h1,h2,λU Pe=>?_};calc Oo (h3 U Pe) λj t=>oe λ_ a2 a3=>?_;rcases fr.ow U {j,t,a2,(a3)} with z|z
    .exact .inl<|C U z
    .exact .inr z
   calc Ow _ _ o {s0,e1,?_};cases o with
   |nx Z =>
    exists Zz.mp e2,os2,e4,D;split at D
    .rename_i hi;clear e e2;cases D;intro Z' O' g O fr;exact q _ g _ [] (fin e4 hi O fr) .non Yi (λa h=>nomatch h) λa h=>nomatch h
    .cases D
   |rt v Z =>
    exists Zz.mp e2,os2,e4,D;split at D
    .rename_i hi;cases D;intro u g F' Z' O' O fr r' R;rcases Fm hi.1 with z|⟨n,QN,rfl,rfl,z⟩
     .have:=r'.Ol z;clear R;subst this;exact q u g _ [] (fin e4 hi.2 O fr) (r'.at _<|nq _ z) Yi (λa h=>nomatch h) λa h=>nomatch h
     .have ch:=fin e4 hi.2 O fr;exact q u g _ F' ch (r'.at _ (wx z).2) R.1 (new_apart ch.rp r' z) λa ha=>(R.2 a ha).imp id<|C a
    .cases D
   |bk Z=>cases e2
   |ct Z=>cases e2
  .cases e
end
def SR.mutS{G:Gx}{Z x:Os}{U N:VS.Env}{O:L2.St}{H F:Hp}{S:Nat->Prop}(s:`gx)(hl:⇑N=⇑U)(l:∀j,¬S j->N[j]?=U[j]?/\x j=Z j)(D:∀j,S j->∃t P v,U[j]?=Y `vz/\N[j]?=Y (Y<|.ow P)/\O[j]?=Y `xer/\Rp G F v P (x j)/\(x j).Nodup)(ap:∀i j,S i->S j->i≠j->∀a∈x i,a∉x j)(y:Kept H F)(A:∀b o,(∀j,S j->b∉Z j)->H b=Y o->F b=Y o)(OF:∀b,H b≠M->F b≠M)(C:∀j,S j->∀a∈x j,(∃i,S i/\a∈Z i)\/H a=M) :
  SR G x N O F/\OE Z U H x N F:=by
 have L:∀j c,¬S j->U[j]?=Y _->∀a∈Z j,∀i,S i->a∉Z i:=λj c d Q a u i f E=>by
  exists D i f,t,_,_,m,_;exact s.sep i j t c m Q (λe=>d<|e ▸ f) a E u
 have new:∀i,S i->∀a∈x i,∀j c,¬S j->U[j]?=Y _->a∉Z j:=λi f a u j c d Q E=>by
  rcases C i f a u with⟨k,hk,z⟩|z
  .exact L j c d Q a E k hk z
  .exists s.rp j c Q,w,_,q;exact Oy.jj (q.OF a E) z
 refine⟨{hl.trans s.len,λi c h=>?_,λi t h=>?_,λi j t c m r n=>?_},{λa o h n=>{A a o (λj d z=>?_) h,λz=>?_},OF,λa h=>?_,λa h=>?_,y}⟩
 .by_cases f:S i
  .refine OH (D i f) λt P v=>Pf λg p X R _=>?_;rw[p]at h;cases h;exact{v,X,(R)}
  .exists l i f,g,p;rw[g]at h;exists s.rp i c h,v,q1,q2;exact p ▸ {v,q1,q2.keep y λa u o ho=>A a o (λj d=>L i c f h a u j d) ho}
 .by_cases f:S i
  .exact(D i f).choose_spec.choose_spec.choose_spec.2.2.2.2
  .exists l i f,g,p;rw[g]at h;exact p ▸ s.nd i t h
 .by_cases f:S i
  .by_cases d:S j
   .exact ap i j f d n
   .exists l j d,g,p;rw[g]at r;exact p ▸ λa u=>new i f a u j c d r
  .exists l i f,g,p;rw[g]at m;rw[p];by_cases d:S j
   .exact λa u E=>new j d a E i _ f m u
   .exists l j d,X,R;rw[X]at r;exact R ▸ s.sep i j t c m r n
 .exists D j d,t,_,_,m,_;exact n {j,t,m,(z)}
 .ext z j t m r;by_cases d:S j
  .rcases C j d a r with⟨i,f,z⟩|z
   .exists D i f,t,_,_,g,_;exact n {i,t,g,(z)}
   .rw[z]at h;cases h
  .exists l j d,g,p;rw[g]at m;rw[p]at r;exact n {j,t,m,(r)}
 .ext h j t m r;by_cases d:S j
  .rcases C j d a r with⟨i,f,z⟩|z
   .exists D i f,t,_,_,g,_;exact .inl {i,t,g,(z)}
   .exact .inr z
  .exists l j d,g,p;rw[g]at m;rw[p]at r;exact .inl {j,t,m,(r)}
 .ext h j t m r;by_cases d:S j
  .refine OH (D j d) λt P v=>oe λg p _=>?_;grind
  .exists l j d,g,p;rw[g]at m;rw[p]at r;calc .inl {j,t,m,(r)}
inductive Ia where|io (i:Nat) (un:Bool)|ex (c:Ex)
def ioV(a:Bool):Option (Ug)->Option T
 |some `kw=>if a then (unT t).map (·.2) else if qG t then Y t else M
 |_=>M
def exV(v:Val):Option T:=match v.1 with
 |.bo=>if Ol v.2 then Y v.2 else M
 |_=>Y v.2
def rN(U:VS.Env):List Ia->Option (Uc)
 |[]=>Y []
 |.io i un::a=>(ioV un U[i]?).bind λt=>(rN U a).map (t::·)
 |.ex c::a=>(`xeC).bind λv=>(exV v).bind λt=>(rN U a).map (t::·)
noncomputable def Rk:List Ia->List Bool
 |[]=>[]
 |.io _ _::a=>J::Rk a
 |.ex _::a=>B::Rk a
noncomputable def PL:List Ia->Uj
 |[]=>[]
 |.io i _::a=>i::PL a
 |.ex _::a=>PL a
def CT(a:Bool)(c:`xax)(o:T):T:=if a then (match c with
 |some `kw=>(match unT t with
  |some z=>mkT z.1 o
  |none=>o)
 |_=>o) else o
def j6:List Ia->Uc->VS.Env->VS.Env
 |.io i un::a,o::os,U=>j6 a os<|U.set i<|Y<|.ow<|CT un U[i]? o
 |.ex _::a,os,U=>j6 a os U
 |_,_,U=>U
def rq(a:`xeb)(g:{`Sn,Uc,T}):Xx:=λU=>(rN U a).bind λb=>if cj b=J/\(PL a).Nodup then (g b).map λz=>((.fr,z.2),j6 a z.1 U) else M
inductive IaR(Z:Os)(U:VS.Env)(O:L2.St)(H:Hp):List Ia->List V->Wc->Prop
 |nil:IaR Z U O H [] [] []
 |io {i:Nat} {un:Bool} {a:Pv} {as:`xeb} {vs:`cg} {Fs:Wc}:O[i]?=some (some `bz)->IaR Z U O H as vs Fs->IaR Z U O H `ey `xon (Z i::Fs)
 |ex {c:Ex} {v:V} {F:Vr} {as:`xeb} {vs:`cg} {Fs:Wc}:(∀a∈F,H a=none\/dE Z U a)->IaR Z U O H as vs Fs->IaR Z U O H (.ex c::as) `xgv (F::Fs)
def Lr(r:`hQ)(h:qG t=J):∃a,v=.ref a:=by
 cases r<;>first|exact{_,(rfl)}|(cases h)
section
variable{H:Hp}
structure IaF(G:Gx)(Z:Os)(U:VS.Env)(O:L2.St)(H:Hp)(as:`xeb)(ts:Uc)(vs:`cg)(Fs:Wc):Prop where
 ref:∀v∈iA `xmY vs,∃b,v=.ref b
 len:⇑(`xmY)=⇑ts
 mv:∀a,a∈Pp `xmY Fs ↔ ∃j∈PL as,a∈Z j
 pu:∀a∈SY `xmY Fs,H a=none\/dE Z U a
 ow:∀i un,Ia.io i un∈as->∃t a,U[i]?=some `kw/\O[i]?=some (some `bz)/\(un=true->∃m u,unT t=some (m,u)/\G.me m=some `bz)
 nd:(PL as).Nodup->(Pp `xmY Fs).Nodup
theorem kB:∀{a:`xeb}{i:Nat},i∈PL a ↔ ∃un,Ia.io i un∈a
 |[],i=>{(λh=>nomatch h),λ⟨_,h⟩=>nomatch h}
 |.io j un::a,i=>by
  show i∈j::PL a↔_;rw[Zi,kB];grind
 |.ex c::a,i=>by
  show i∈PL a↔_;rw[kB];grind
def Ef(s:`gx):∀{g:`xeb}{q:Uc}{n:`cg}{l:Wc},rN U g=Y q->IaR Z U O H g n l->IaF G Z U O H g q n l:=by
 intro g
 induction g with
 |nil =>
  intro q n l e r;cases e;cases r;exact{(λv h=>nomatch h),rfl,λa=>{(λh=>nomatch h),λ⟨_,h,_⟩=>nomatch h},(λa h=>nomatch h),(λi un h=>nomatch h),λ_=>Yi}
 |cons x g E =>
  intro q n l e r;cases r with
  |@io i un a _ n l h r =>
   exists Zz.mp (e),t,e1,e2;exists Zx.mp e2,D,e3,rfl;have f:=E e3 r;have hi:∃p,U[i]?=Y (Y<|.ow p)/\(un=J->∃m u,unT p=Y (m,u)/\G.me m=Y `bz):=by
    unfold ioV at e1;split at e1
    .rename_i p h0;refine{p,h0,λN=>?_};rw[N,Zp L]at e1;calc ai λP_ k_=>?_;obtain⟨⟨m,u⟩,C,g2⟩:=Zx.mp e1;exists s.rp _ _ h0,v,Q,h2;rw[h]at Q;cases Q;have R:=h2;rw[pF C]at R;exists rD R,a',q1,q2,_
     simp_all
    .cases e1
   ext hi p h0 N;have w:∀b,b∈Z i++Pp _ l ↔ ∃j∈i::PL g,b∈Z j:=λb=>by
    rw[Zf,f.mv]
    simp_all
   refine{λv A=>?_,?_,w,?_,λy o d=>?_,λnd=>?_}
   .rcases Zi.mp (A) with rfl|A
    .exact{a,(rfl)}
    .exact f.ref v A
   .show ⇑(Rk g)+1=⇑D+1;rw[f.len]
   .exact λb hb=>f.pu b hb
   .rcases Zi.mp d with d|d
    .simp_all
    .exact f.ow y _ d
   .have S:=Zc.mp<|nd;show (Z i++Pp _ l).Nodup;calc ZG.mpr {s.nd i _ h0,f.nd S.2,λb hb b' Pe z=>?_};subst z;exists (f.mv b).mp Pe,j,P,z;exists kB.mp P,o,Rh;exists f.ow j _ Rh,X,_,C,_;calc s.sep i j _ _ h0 C (λe=>S.1<|e ▸ P) b hb z
  |@ex c v F _ n l h r =>
   obtain⟨⟨m,t⟩,e1,e2⟩:=Zz.mp<|e;exists Zz.mp e2,X,_,e4;exists Zx.mp e4,D,e5,rfl;have f:=E e5 r;refine{f.ref,?_,f.mv,λa ha=>?_,λy o d=>?_,f.nd}
   .show ⇑(Rk g)+1=⇑D+1;rw[f.len]
   .rcases Zf.mp (ha) with z|z
    .exact h a z
    .exact f.pu a z
   .rcases Zi.mp d with d|d
    .cases d
    .exact f.ow y _ d
theorem sV{α:Type}:∀bs:List Bool,iA bs ([]:List α)=[]
 |[]=>rfl
 |true::_=>rfl
 |false::_=>rfl
def AZ{G:Gx}{O:L2.St}:∀{d:`xeb}{l:`cg}{Fs:Wc}{os:Uc}{Gs:Wc}{U:VS.Env},(∀i un,Ia.io i un∈d->∃t a,U[i]?=Y `vz/\O[i]?=Y (Y `bz)/\(un=J->∃m u,unT t=Y (m,u)/\G.me m=Y `bz))->(PL d).Nodup →
  (∀(n:Nat)(v:V),`xhw[n]?=Y v->∃i:Nat,(PL d)[n]?=Y i/\O[i]?=Y `xer)->RpL G S `xhw os Gs->⇑(`xhw)=⇑(PL d) →
  ⇑(`xjG)=⇑U/\(∀j:Nat,j∉PL d->`xjG[j]?=U[j]?)/\∀(n j:Nat),(PL d)[n]?=Y j->∃(t p:T)(v:V)(F:Vr),U[j]?=Y (Y<|Cell.ow t)/\`xjG[j]?=Y (Y<|Cell.ow p)/\O[j]?=Y `xer/\Gs[n]?=Y F/\Rp G S v p F:=by
 intro d
 induction d with
 |nil=>intro l Fs os Gs U _ _ _ r _;exact{rfl,λ_ _=>rfl,λn j h=>by simp[PL]at h}
 |cons x d A =>
  intro l Fs os Gs U ow nd al r hl;cases x with
  |ex c =>
   cases l with
   |nil =>
    have e:(iA (Rk<|.ex c::d) ([]:List V))=[]:=rfl;have e2:PL d=[]:=Xj.mp (by rw[e]at hl;calc hl.symm);rw[e]at r;cases r;exists A (Fs:=Fs) (λi un h=>ow i un<|Zs _ h) nd (λn v h=>by rw[sV,List.getElem?_nil]at h;cases h) (by cases Rk d<;>(try rename_i b _;cases b)<;>calc .nil) (by rw[e2];cases Rk d<;>(try rename_i b _;cases b)<;>rfl),E,s,D;exact{E,s,(D)}
   |cons v l=>calc A (Fs:=Fs) (λi un h=>ow i un<|Zs _ h) nd al r hl
  |io i un =>
   have y:=Zc.mp<|nd;cases l with
   |nil=>exact(Nat.succ_ne_zero _ hl.symm).elim
   |cons v l =>
    cases r with
    |@cons _ o F _ os Gs N r =>
     calc Oo (ow i un Zv) λt a=>oe λh0 Q hu=>?_;have hv:v=.ref a:=by
      exists al 0 v L,q,g,f;cases (g);rw[Q]at f;cases f;rfl
     subst hv;exists A (Fs:=Fs) (U:=U.set i<|Y _) (λq un' h=>by
      exists ow q _ (Zs _ h),p,a',g,f;have ne:i≠q:=λe=>y.1<|e ▸ kB.mpr {_,(h)};calc Pd p a' {YZ ne ▸ g,f}) y.2 (λn w h=>by
      exists al `xjF w h,q,g,f;exact{q,g,(f)}) r (W4 hl),E,s,D
     refine{by rw[show j6 _ _ U=j6 d os (U.set i _) from rfl,E,Yc],λj P=>?_,λn j C=>?_}
     .have R:j≠i/\j∉PL d:={λe=>P<|e ▸ Zv,λz=>P<|Zs _ z}
      exact(s j R.2).trans<|YZ<|Yg R.1
     .cases n with
      |zero =>
       cases (C);calc Oe t _ _ F {h0,(s i y.1).trans<|Wa {`xor,h0},Q,rfl,?_};cases un with
       |false=>calc N
       |true =>
        exists hu L,m,u,g,f;have:CT J U[i]? o=mkT m o:=by
         unfold CT;rw[Zp L,h0];show (match unT t with|some z=>mkT _ o|none=>o)=_;rw[g]
        calc this ▸ .mk f N
      |succ n =>
       calc ai λP_ k_=>?_;calc Oj (D n j C) λp t2 X F'=>Pf λg f g3 g4 g5=>?_;calc k_ ?_;have ne:i≠j:=λe=>y.1<|e ▸ ZE (C);rw[YZ ne]at g;calc Oe p t2 X F' {g,f,g3,g4,(g5)}
def Nk:∀{b:`xeb}{d:`cg}{f:Wc},IaR Z U O j b d f->(∀(n:Nat)(v:V),(iA (Rk b) d)[n]?=Y v->∃i:Nat,(PL b)[n]?=Y i/\O[i]?=Y `xer)/\⇑(iA (Rk b) d)=⇑(PL b):=by
 intro b d f r
 induction r with
 |nil=>exact{λn v h=>(by rw[sV,List.getElem?_nil]at h;cases h),rfl}
 |@io i un a b d f h _ e =>
  refine{λn v g=>?_,ZF (·+1) e.2};cases n with
  |zero=>cases (g);exact{i,rfl,(h)}
  |succ n=>calc e.1 n v g
 |ex _ _ e=>calc e
end
structure New(Z:Os)(U:VS.Env)(H:Hp)(Z':Os)(U':VS.Env)(F:Vr):Prop where
 nd:F.Nodup
 ap:∀j c,U'[j]?=some (some c)->∀a∈F,a∉Z' j
 of:∀a∈F,H a=none\/bU Z U a
noncomputable def tXN(G:Gx)(x:Xx):TE:=λO H Q=>∃Z U v a,SR G Z U O H/\x U=Y (v,a)/\∀u b d F,SR G d a O b->OE Z U H d a b->Rp G b u v.2 F->New Z U H d a F->Q u b
def PXN(G:Gx)(X:Cx)(e:Expr)(x:Xx):Prop:=PE X e<|tXN G x
def PXN.px{x:Xx}(h:PXN G X e x):PX G X e x:=PE.weak h λO H Q b=>by
 calc Oj b λZ U v m=>OI λs e d k=>?_;calc Oe Z U v _ {s,e,λu j l F a f r _=>k u j _ a f<|r.Ol d ▸ r}
def New.back(f:OE Z U H b h l)(n:New b h l d j F):New Z U H d j F :=
 {n.nd,n.ap,λa m=>(n.of a m).elim {`xaN,f.none z} λz=>(`xhj).elim .inr .inl}
def yL(s:`gx)(e:rq `ey g U=Y (v,U'))(e0:rN U `ey=Y ts)(sm:aN H H1)(rp:RpL G H1 vs ts Fs)(ia:IaR Z U O H `ey vs Fs)(kq:∀u S Z' F,SR G Z' U' O S->OE Z U H Z' U' S->Rp G S u v.2 F->New Z U H Z' U' F->Q u S):spI G `xmY g vs H1 Q E:=by
 unfold rq at e;rw[e0,Zw]at e;have e2:=e;split at e2
 .rename_i P;obtain⟨⟨os,y⟩,eg,e3⟩:=Zx.mp e2
  .cases e3;have r:=Ef s e0 ia;have al:=Nk ia;cases ia with
   |@io _ _ a _ us Fs hσ ia =>
    cases rp with
    |@cons _ t0 _ _ QN _ r0 rp =>
     have no:gy t0=J/\cj QN=J:=by
      have:=P.1;exact(Zd.mp this)
     refine xI8 a us t0 _ _ Fs os y {rfl,r0,rp,λv hv=>r.ref v<|Zs _ hv,no.1,no.2,by simpa[Rk] using r.len,r.nd P.2,λb hb Pe=>?_,eg,λu S Gs Fu ch ru fnd fap fof=>?_}
     .exists (r.mv b).mp hb,j,d,z;exists kB.mp d,un',R;exists r.ow j _ R,t,_,A,_;rcases r.pu b Pe with q|⟨j2,t2,L,D⟩
      .exact Oy.jj (s.OQ<|Pd j t {A,(z)}) q
      .refine s.sep j j2 t _ A L (λe=>?_) b z D;rw[e,L]at A;cases A
     .exists AZ (Fs:=[]) r.ow P.2 al.1 ch.rp al.2,p1,p2,p3;have at_:∀j,j∈PL _->∃n F,(PL _)[n]?=Y j/\n=(PL _).idxOf j/\Gs[n]?=Y F:=λj d=>by
       have:(PL `ey)[(PL `ey).idxOf j]?=Y j:=by
        rw[Zo<|YD.mpr d,Wg]
       calc Oj (p3 _ j this) λ_ _ _ F=>Pf λ_ _ _ q _=>?_;exact Pd _ F {this,rfl,(q)}
      have Φe:∀j,j∈PL _->(if j∈PL `ey then Gs.getD _ [] else Z j)=Gs.getD `xkq []:=λj d=>Zp d;exists s.mutS p1 (λj d=>{p2 j d,Zn d}) (λj d=>by
       calc ai λP_ k_=>?_;calc Oo `xiB λn F=>oe λL D m=>?_;calc Oj (p3 n j L) λt t' v F'=>Pf λw1 w2 w3 w4 w5=>?_;rw[m]at w4;obtain rfl:=Om w4;calc k_ ?_;have eF:(if j∈PL `ey then Gs.getD `xkq [] else Z j)=F:=by rw[Φe j d,<-D,Zl,m];rfl
       refine Ow t t' v {w1,w2,w3,?_,?_}
       .exact eF ▸ w5
       .exact eF ▸ ch.nd.sublist (cz m)) (λj j' d R n a l C=>by
       rw[Φe j d]at l;rw[Φe j' R]at C;calc Oo `xiB λn1 F=>oe λL D m=>?_;calc Oo (at_ j' R) λn2 F'=>oe λq1' q2' q3'=>?_;rw[<-D,Zl,m]at l;rw[<-q2',Zl,q3']at C;calc vc ch.nd m q3' (λe=>n (by rw[e,q1']at L;exact(ZL L).symm)) l C) {`tf,Kept.of,sm,ch.kept} (λb o hb ho=>ch.keep b o (λz=>by
       exists (r.mv b).mp z,j,d,z';calc hb j d z') (sm b o ho)) (λb h=>ch.OF b λz=>h `xjE) (λj d a l=>by
       rw[Φe j d]at l;calc Oo `xiB λn1 F=>oe λL D m=>?_;rw[<-D,Zl,m]at l;obtain z|z:=ch.sub a ((cz m).subset l)
       .exact .inl<|(r.mv a).mp z
       .exact .inr `xjE),z1,z2
      have N:∀a∈Fu,H a=M\/∃j t,j∈PL _/\U[j]?=Y _/\a∈Z j:=λa l=>by
       obtain z|z:=fof a l
       .exact .inl `xjE
       .exists (r.mv a).mp z,j,d,z';exists kB.mp d,un',R;exists r.ow j _ R,t,_,A,_;exact .inr<|Pd j t {d,A,(z')}
      calc kq u S _ Fu z1 z2 ru ⟨fnd,λj c P a l C=>?_,λa l=>(N a l).imp id λ⟨j,t,_,A,g2⟩=>Pd j t {A,(g2)}⟩;by_cases d:j∈PL `ey
      .rw[Φe j d]at C;calc Oo `xiB λn1 F=>oe λL D m=>?_;rw[<-D,Zl,m]at C;exact fap a l<|(cz m).subset C
      .rw[Zn d]at C;rw[p2 j d]at P;rcases N a l with z|⟨j2,t,g0,A,g2⟩
       .exists s.rp j c P,w,_,q;exact Oy.jj (q.OF a C) z
       .exact s.sep j2 j t c A P (λe=>d<|e ▸ g0) a g2 C
 .cases e2
def eUn(c:Ex):Ex:=λU=>(`xeC).bind λv=>(unT v.2).map λz=>(v.1,z.2)
abbrev Xt:=VS.Env->Option {`xbG,Bool}
noncomputable def tXT(G:Gx)(x:Xt):TT:=λO H Q=>∃Z U b a,SR G Z U O H/\x U=Y (b,a)/\∀d e,SR G e a O d->OE Z U H e a d->Q b d
def PXT(G:Gx)(X:Cx)(e:Expr)(x:Xt):Prop:=PT X e<|tXT G x
def PXW(G:Gx)(X:Cx)(e:Expr)(x:Xt):Prop:=PW X e<|tXT G x
noncomputable def xtV(x:Xx):Xt:=λU=>(`xfM).bind λz=>match z.1.2 with
 |.bl b=>Y (b,z.2)
 |_=>M
noncomputable def Jd(x:Xt):Xt:=λU=>(`xfM).map λz=>(!z.1,z.2)
noncomputable def wm(x:Xt)(a b:Sx):Sx:=λU=>(`xfM).bind λz=>if z.1 then a z.2 else b z.2
def Mu(h:PV G X e c):PV G X e (eUn c):=PE.weak h λO H Q j=>by
 calc Oj j λZ U m t=>oe λs e k=>?_;obtain⟨⟨i,y⟩,e1,e2⟩:=Zz.mp e;obtain⟨⟨n,u⟩,e3,l⟩:=Zx.mp e2;clear e e2;cases l;calc Oe Z U i y {s,e1,λv o F g r f=>k v o F g ?_ f};have d:=r;rw[pF<|show unT y=Y _ from e3]at d;exists rD d,a,rfl,_,q;calc q
def FZ(h:`XP)(he:∀whole,isTrue e X.env whole=(do let v <-whole;standAt e.pos;holding [v] `xfI)):PXT G X e (xtV x) :=
 PT.weak (Lh h he) λO H Q g=>by
  calc Oj g λZ U b n=>oe λs e k=>?_;obtain⟨⟨⟨m,t⟩,l⟩,e1,e2⟩:=Zz.mp e;dsimp only at e2;split at e2
  .cases e2;exact Oe Z U _ _ ⟨s,e1,rfl,λu j i d f r=>{b,r.Pm,k j i d f}⟩
  .cases e2
def Gz(h:`xiA):PXT G X {`Po,e} (Jd xt):=PT.weak (BY h) λO H Q d=>by
 calc Oj d λZ U b i=>oe λs e k=>?_;obtain⟨⟨f,g⟩,e1,e2⟩:=Zx.mp e;clear e;cases e2;calc Oe Z U f _ {s,e1,(k)}
def PXW.pxt(h:PXW G X e xt):PXT G X e xt:=PW.pt h
def yx(i:`xiA)(l:iM G X g c1)(j:iM G X d c2):PSV G X (.If e g d pos) (wm xt c1 c2):=PS.weak (Ji i l j) λD O H h=>by
 calc OH h λZ U o=>oe λs e k=>?_;obtain⟨⟨f,n⟩,e1,e2⟩:=Zz.mp e;calc Oe Z U f _ {s,e1,λp m s1 f1=>?_};cases f with
 |true=>calc yt<|Ow _ _ o {s1,e2,k.back f1}
 |false=>calc xY<|Ow _ _ o {s1,e2,k.back f1}
structure IoAt(P:UF)(w:XAE)(K:W0)(mg:W3)(base:XAD)(k:Nat)(x:Str)(ps:`e_)(G:Gx)(mv:`gY)(g:{`Sn,Uc,T}):Prop where
 ex:∃f fd,FnOk P w K mg base Pb k f fd ps (spI G mv g)/\mg x=some `dt/\PySem.W.keepIn K `dt=true/\Binds K fd ps []
section
variable{K:W0}
def uV{G:Gx}(F:Ov K x x b f h)(l:mg x=Y `dt)(S:{`xbr,b})(i:⇑ps=e)(j:`xhh)(d:Ua5 x x b ps)(n:∀(m:Me),Ua6 k Pb P w K mg base N x b f λX=>iM `xeI X.Ss (bg b) a) :
  IoAt P w K mg base `T5 x ps G mv (Z7 e g mv a):={f,h,fnI F S i j n,l,F.kp,F.binds d}
end
def p7{b:Expr}(o:PV G X a g)(n:PV G X b f)(l:PV G X c d)(j:lastMarks [.Lt,.Lt] [b,c]=B):Ro G X (.Compare a [.Lt,.Lt] [b,c] pos) (ju oLt oLt g f d) :=
 PT.weak (wo uT uT o n l j) λO H Q h=>qM h (λU m r e=>by
  replace e:=Zz.mp e;ext e x u e;replace e:=Zz.mp e;ext e y t e;obtain⟨⟨p,z⟩,s,e⟩:=Zz.mp e;cases z with
  |bl q =>
   cases q with
   |false=>grind
   |true =>
    exists Zz.mp (e),i,ec,e;calc l8 y i m r e
  |_=>cases e) λQ h=>vt Aj Aj h
def xI(c:Ex):Xx:=λU=>(`xeC).bind λv=>if Ol v.2=J then Y ((.fr,v.2),U) else M
def x2(f:Val->Val->Ud)(a b:Xx):Xx:=λU=>(`Db).bind λz=>(b z.2).bind λw=>(f (.fr,z.1.2) (.fr,w.1.2)).bind λv=>if Ol z.1.2=J/\Ol w.1.2=J/\Ol v.2=J then Y ((.fr,v.2),w.2) else M
def kX(c:Ex)(x:Xt):Xt:=λU=>(`xeC).bind λv=>(tru v.2).bind λb=>if b then x U else Y (B,U)
def oC(c:Ex)(b:Xx):Xx:=λU=>(`xeC).bind λx=>if FE x.1=J then (lsT x.2).bind λa=>(`xfX).bind λz=>(`xjD).bind λi=>(`xmX).bind λj=>(a[j]?).bind λt=>if gq a=J/\Ol t=J then Y ((.fr,t),z.2) else M
 else M
def mS(n:Nat)(b:Xx):Xx:=λU=>(Option.bind U[n]? id).bind λ_=>(`xfX).bind λz=>(`xjD).bind λi=>(Option.bind z.2[n]? id).bind λc=>(lsT<|j7 c).bind λa=>(`xmX).bind λj=>(a[j]?).bind λt=>if Ol t=J then Y ((.fr,t),z.2) else M
def ba(h:PV G X e ca):PX G X e (xI ca):=PE.weak h λO H Q g=>by
 calc Oj g λZ U v n=>OI λs e l k=>?_;obtain⟨⟨m,t⟩,e1,e2⟩:=Zz.mp e;split at e2
 .rename_i i;cases e2;calc Oe Z U m t {s,e1,λu j F d r f=>k u j Z (s.same d) (OE.same d) ?_};have:=r.Ol i;subst this;exact r
 .cases e2
def CK(q:`xeK)(h:tX G `xiz O H Q):tOp r (tX G xa) (tX G xb) O H Q:=by
 calc ai λR u=>?_;calc Oj h λZ U v P=>OI λs e E k=>?_;exists Zz.mp e,z,A,e1;exists Zz.mp e1,w,y,e2;obtain⟨⟨m,t⟩,x,e3⟩:=Zz.mp e2;calc u ?_;split at e3
 .rename_i d;exists sj2 e3,rfl,rfl;calc Oe Z U _ _ ⟨s,A,d.1,λo S N s1 f1 r1=>UW {s1,y,d.2.1,λn j C p f2 r2=>?_}⟩;calc q C w.2 j j (.fr,z.1.2) (.fr,w.1.2) o n [] [] m t Q {aN.refl _,r1.keep f2.kept (λa h=>nomatch h),r2,Fp.nil,Fp.nil,λ_ _=>Yi} x λl D F g i L=>k l D _ (p.same g) {`tf,f1.trans,f2,OE.same g} ?_;have:=i.Ol d.2.2;subst this;exact i
 .cases e3
def vW(i:{`xcv,d})(g:`xeK)(l:`xeW)(j:`xeV):PX G X {`xdD,d,b} `xiz:=PE.weak (CU i l j) λO H Q h=>CK g h
def zE(l:`xaw)(i:`xeK)(p:`xeW)(o:`xeV)(n:{`x_,d}):PXT G X (.Compare a [d] [b] pos) (xtV `xiz):=PT.weak (zB l p o n) λO H Q h=>by
 calc ai λy j=>?_;calc Oj h λZ U b x=>oe λs e k=>?_;obtain⟨⟨⟨m,t⟩,w⟩,e1,e2⟩:=Zz.mp e;calc j ?_;dsimp only at e2;split at e2
 .cases e2;exact CK i<|Oe Z U _ _ ⟨s,e1,rfl,λu q v g f r=>{b,r.Pm,k q _ g f}⟩
 .cases e2
def Nb(i:`xeW)(g:`xeV)(d:gI b)(j:`xfA):PX G X {`o0,a,pos} (x2 aM xa xb):=PE.weak (ox lQ i g d) λO H Q h=>j ▸ CK yU h
def C4(h:`xiA):PXW G X (.BoolOp .And [e] pos) xt:=oQ h
def GP{G:Gx}{X:Cx}{a:Expr}{rest:`i2}{ca:Ex}{xt:Xt}{pos:Pos}(o:`xeZ)(n:PXW G X `mm xt):PXW G X (.BoolOp .And (a::b::rest) pos) (kX ca xt):=PW.weak (DB o n) λO H Q l=>by
 calc ai λw j=>?_;calc Oj l λZ U r v=>oe λs e k=>?_;obtain⟨⟨m,t⟩,e1,e2⟩:=Zz.mp e;exists Zz.mp e2,h,e3,g;calc j ?_;calc PM Z U m t h {s,e1,e3,λp d=>?_};cases h with
 |true=>calc yt<|Oe Z U r _ ⟨s.same d,g,λq u i f=>k q _ i {`tf,OE.same,d,f}⟩
 |false =>
  clear e e2;cases g;calc xY<|k p Z (s.same d)<|OE.same d
def vh(R:`cC)(P:`xeV)(E:gI b:=by calc λ_ _=>rfl)(S:{`q8,X.K=G.K}):PX G X {`o0,a,pos} (oC ca xb):=PE.weak (ox lQ R P E) λO H Q F=>by
 calc ai λP_ A=>?_;calc Oj F λZ U v U'=>OI λs e L k=>?_;obtain⟨⟨mx,x⟩,ea,e1⟩:=Zz.mp e;calc A ?_;split at e1
 .rename_i hm;replace e1:=Zz.mp e1;ext e1 ts g e1;obtain rfl:=wM hm;obtain rfl:=kM g;exists Zz.mp e1,z,eb,e2
  .replace e2:=Zz.mp e2;ext e2 C d e2;have d:=uU d;exists Zz.mp e2,j,ej,e3;exists Zz.mp e3,t,et,l;split at l
   .rename_i N;clear e L e1 e2 e3;cases l;calc Oe Z U _ _ ⟨s,ea,λu H1 F1 n r1 f1=>Oe Z U _ _ {s.same n,eb,by rw[d];rfl,λw H2 Z2 y f2 r2=>?_}⟩;ext r1.lst_inv a p Fs rfl rfl i o;calc Oo (o.get j et) λx Fx=>oe λq u2 m=>?_;have D:=m.Ol N.2;subst D;rw[d]at r2;calc .inl<|Oe a p C x {rfl,r2.int_inv,S ▸ OD.of ((f2.keep a _ i<|λz=>Oy.jj (s.OQ z)<|f1.2 a Zv).1),kf (o.len.1 ▸ ej) q,?_};exact k x H2 _ y {`tf,OE.same,n,f2}<|m.keep f2.kept (λa h=>nomatch h)
   .cases l
 .cases e1
section
variable{H:Hp}
noncomputable def psZ(Z:Os):Os:=λi=>match i with
 |0=>[]
 |i+1=>Z i
def EA:bU `xmW `xfe a↔bU Z U a:=by
 constructor
 .rintro⟨j,u,b,d⟩;cases j with
  |zero=>cases (b)
  |succ j=>exact{j,u,b,(d)}
 .rintro⟨j,u,b,d⟩;exact{j+1,u,b,d}
def Mf(h:dE `xmW `xfe a):dE Z U a:=by
 ext h j u d b;cases j with
 |zero=>calc nomatch b
 |succ j=>exact{j,u,d,(b)}
def SR.ps(s:`gx)(r:Rp G H v t []):SR G `xmW `xfe (Y v::O) H:=by
 refine{by rw[Za,Za,s.len],λi c h=>?_,λi u h=>?_,λi j u c b d n=>?_}
 .cases i with
  |zero=>cases (h);exact{v,rfl,(r)}
  |succ i=>exact s.rp i c h
 .cases i with
  |zero=>cases (h)
  |succ i=>exact s.nd i u h
 .cases i with
  |zero=>cases (b)
  |succ i =>
   cases j with
   |zero=>calc λa _ h=>nomatch h
   |succ j=>calc s.sep i j u c b d (λe=>n<|by rw[e])
def SR.pop(s:SR G Z5 `xmV (v::O) H):SR G (λi=>Z5 `I_) U5 O H :=
 ⟨by have:=s.len;simpa using this,λi c h=>s.rp `I_ c h,λi u h=>s.nd _ u h,λi j u c b a n=>s.sep _ _ u c b a<|λe=>n `bi⟩
def OE.pop(f:OE `xmW `xfe H Z5 `xmV H5):OE Z U H (λi=>Z5 `I_) U5 H5:=by
 have ow:∀a,bU _ _ a->bU Z5 `xmV a:=λa=>Px λj u=>Pc λd b=>{j+1,u,d,b}
 refine{λa o h n=>?_,f.OF,λa h=>?_,λa h=>?_,f.kept}
 .exists f.keep a o h λz=>n<|EA.mp z,d,b;exact{d,λz=>b<|ow a z}
 .exact(f.ow a<|ow a h).imp EA.mp id
 .ext h j u d b;rcases f.pu a {_,u,d,(b)} with z|z|z
  .exact .inl<|Mf z
  .exact .inr<|.inl<|EA.mp z
  .exact .inr `xkw
end
def jK(x:Xx):Ui->VS.Env->Option {`xbG,Uc}
 |[],U=>Y ([],U)
 |i::r,U=>(x<|Y (.pu `KE)::U).bind λz=>match z.2 with
  |_::a=>if Ol z.1.2=J then (jK x r a).map λw=>(z.1.2::w.1,w.2) else M
  |[]=>M
noncomputable def iot(i n:Nat):Ui:=({`xcy,i,n}).map λ(k:Nat)=>(k:Int)
def vX(a x:Xx)(U:VS.Env):Option {`xbG,Uc}:=(`Db).bind λz=>match z.1.2 with
 |.int j=>if 0<=j/\j<1000000 then jK x (iot 0 j.toNat) z.2 else M
 |_=>M
def tXL(G:Gx)(y:`xhd):TE:=λO H Q=>∃Z U e a,SR G Z U O H/\y U=Y (e,a)/\∀D f b d,SR G d a O b->OE Z U H d a b->b D=Y `xkC->RpL G b f e (List.replicate ⇑e [])->H D=M->¬bU d a D->¬dE d a D->Q `xhH b
abbrev CxI(G:Gx)(x:Xx)(n:Nat)(j:Os)(l:VS.Env)(q:Hp)(D:Pv)(g:Uc)(o:VS.Env)(O:L2.St):Nat->Nat->L2.St->Hp->Prop:=λi m p d=>m=n-i/\i<=n/\∃b a e f rest h,p=h::O/\SR G b a O d/\OE j l q b a d/\d D=Y `xkC/\¬bU b a D/\¬dE b a D/\RpL G d f e (List.replicate ⇑e [])/\jK x (iot i<|n-i) a=Y (rest,o)/\e++rest=g
def Ej(hg:∀v O H (R:L2.St->Hp->Prop),R (O.set 0 `xer) H->g v O H R)(h:tXL G (vX xa x) O H Q):xA 1 (Jl<|IJ (tX G xa) GX) g `xmg (tX G x) O H Q:=by
 calc ai λP_ k_=>?_;calc Oj h λZ U ts U'=>oe λs e kq=>?_;exists Zz.mp e,z,ea,e1;calc k_ ?_;split at e1
 .rename_i j hj;split at e1
  .rename_i hb;obtain⟨n,hn⟩:∃n:Nat,n=j.toNat:={_,(rfl)}
   rw[<-hn]at e1;calc Oe Z U _ _ ⟨s,ea,by rw[hj];rfl,λu H1 Z1 s1 f1 r1=>{j,by rw[hj]at r1;rw[r1.int_inv],by omega,by omega,λD t=>?_}⟩;rw[<-hn];refine{CxI G x n _ _ H1 D ts _ O,⟨n,by omega,Pr _,SV Z1 _ [] [] ts _ {rfl,?_,OE.same<|bI t,av,?_,?_,.nil,e1,rfl}⟩,?_}
   .exact s1.off (.inr t) (λq=>Oy.jj (s1.RZ q) t) λq=>Oy.jj (s1.OQ q) t
   .exact λq=>Oy.jj (s1.OQ q) t
   .exact λq=>Oy.jj (s1.RZ q) t
   .rintro i m O' H' ⟨rfl,QS,Z2,U2,vs,xs,rest,c0,rfl,s2,f2,C,A,S,rp,F,ev⟩;by_cases OT:i<n
    .right;refine{OT,λy H2 yl=>hg _ _ _ _ ?_};ext yl rfl rfl;rw[show n-i=(n-`I_)+1 by omega]at F;unfold iot at F;rw[Um,Zh,jK]at F;exists Zz.mp F,w,ex,b;split at b
     .rename_i c3 U3 hw;split at b
      .rename_i RK;calc ai λP_ k_=>?_;exists Zx.mp b,q,eq,e3;clear e kq F b;cases e3;calc k_ ?_;rw[Zp L];calc UW {(s2.ps (by rw[Int.zero_add];calc .int _)),ex,RK,λu5 H5 Z5 s5 f5 r5=>?_};rw[hw]at s5 f5;have f6:=f5.pop;exists f6.keep D _ C A,hD5,no5;have P:¬dE _ _ D:=λq=>by
        obtain q|q|q:=f6.pu D q
        .exact S q
        .exact A q
        .rw[C]at q;cases q
       have f:Oy (H5 D):=hD5 ▸ True.intro;have lx:=rp.len.1;refine⟨xs,hD5,?_,_,by omega,rfl,OT,SV _ _ (vs++[w.1.2]) _ _ _ {rfl,s5.pop.off (.inl f) P no5,?_,av,no5,P,?_,eq,?_}⟩
       .have:vs.length<=n:=by
         have hc:∀(l:List _)(U:VS.Env)(r:Uc)(U':VS.Env),jK x l U=Y (r,U')->⇑r=⇑l:=by
          intro l
          induction l with
          |nil=>intro U r U' h;cases h;rfl
          |cons a l ih =>
           intro U r U' h;rw[jK]at h;exists Zz.mp h,w',_,d;split at d
           .split at d
            .exists Zx.mp d,q',h3,h4;grind
            .cases d
           .cases d
         have E:=hc _ _ _ _ e1;unfold iot at E;grind
        have hs:(Pi:Nat)=16777216:=rfl;omega
       .have ff:=f2.trans f6;refine⟨λa o E d=>?_,λa E d=>?_,ff.ow,ff.pu,ff.kept.trans {`n6,f}⟩
        .exists ff.keep a o E d,q1,q2;exact{by rw[aE (λz=>by rw[z,t]at E;cases E)];calc q1,q2}
        .by_cases q:a=D
         .grind
         .rw[aE q]at d;exact ff.OF a E d
       .have r2:Rp G (upd H5 D<|.lst<|xs++[u5]) u5 _ []:=r5.keep {`n6,f} (λa h=>nomatch h);have:=((rp.keep f6.kept<|by simp_all).keep {`n6,f}<|by simp_all).append {`LT,r2};exact Zr ▸ Ti ▸ List.replicate_succ' ▸ this
       simp_all
      .cases b
     .cases b
    .left;have hni:n-i=0:=by omega
     rw[hni]at F;cases (F);rw[ZO]at ev;clear e e1;subst ev;refine{by show n<=i;omega,kq D xs H' _ s2 {`xoH,f2} C rp (f1.none t) A S}
  .cases e1
 .cases e1
def IK(a:Tx)(y:`xhd):Xx:=λU=>(y U).bind λz=>(pY (.fr,.str a) [(.fr,.lst z.1)]).map λv=>((.fr,v.2),z.2)
def Bq(l:Uc):pY (m,.str a) [(n,.lst l)]=(`xnI).bind λb=>if total b+⇑b*⇑a<=gn then Y (.fr,.str<|dW a b) else M:=rfl
def G5{b:Pos}(w:PV G X a<|eC<|.str sep)(i:PE X e<|tXL G y)(n:`xfA)(OB:Tj a "join" X)(S:Qz f [e] X)(P:(b.endLine==f.line)=J)(m:Qv e [] X)(R:(backTo f<|SL [] X.env).any (·.1)=B) :
  PX G X (.Call (.Attribute a "join" b) [e] [] f) (IK sep y) :=
 PE.weak (pV PySem.F.plainAttrs_str PySem.F.slot_str_join PySem.F.type_str_join Ag w (cf i fG m) OB S P m R) λO H Q h=>by
  calc ai λP_ t=>?_;calc Oj h λZ U v U'=>OI λs e hi k=>?_;exists Zz.mp e,z,C,e1;exists Zx.mp e1,v0,e2,e3;cases e3;replace e2:=(Bq z.1).symm.trans e2;exists Zz.mp e2,g,d,j;calc t ?_;split at j
  .rename_i hl;obtain rfl:=Om j;calc Oe Z U _ _ ⟨s,rfl,λu H1 F1 l r1 f1=>{n ▸ wJ r1 {_,(rfl)},Z,U,_,_,s.same l,C,λD vs H2 Z2 q f2 o rp A no np=>?_}⟩;rw[t7 rp d]at o;refine Ow _ D g ⟨r1.str_inv.1,rfl,n ▸ OD.of o,hl,k _ H2 _ q {`tf,OE.same,l,f2}<|.str _ {ZY (lT _ g) hl,λc i=>(lB _ g c i).elim `xkx λ⟨r,L,E⟩=>lE rp d r L c E}⟩
  .cases j
inductive Ix where|io (i:Nat) (un:Bool)|px (x:Xx)
def nI:List Ix->VS.Env->Option (List Ia×VS.Env)
 |[],U=>Y ([],U)
 |.io i un::r,U=>match (U[i]?:Option<|Ug) with
  |some (some _)=>(nI r U).map λw=>(.io i un::w.1,w.2)
  |_=>M
 |.px x::r,U=>(`xfM).bind λz=>if Ol z.1.2=J then (nI r z.2).map λw=>(.ex (eC z.1.2)::w.1,w.2) else M
noncomputable def ixB:List Ix->List Bool
 |[]=>[]
 |.io _ _::r=>J::ixB r
 |.px _::r=>B::ixB r
def aZ(a:`xmU)(g:{`Sn,Uc,T}):Xx:=λU=>(nI a U).bind λw=>rq w.1 g w.2
inductive Rb(G:Gx)(O:L2.St)(H:Hp):List Ia->List V->Prop
 |nil:Rb G O H [] []
 |io {i:Nat} {un:Bool} {v:V} {as:`xeb} {vs:`cg}:O[i]?=some (some v)->Rb G O H as vs->Rb G O H `ey `xgv
 |ex {t:T} {v:V} {as:`xeb} {vs:`cg}:Ol t=true->Rp G H v t []->Rb G O H as vs->Rb G O H (.ex (eC t)::as) `xgv
def tIx(G:Gx)(g:`xmU):TA:=λO H Q=>∃Z U e b,SR G Z U O H/\nI g U=Y (e,b)/\∀d a f,SR G f b O a->OE Z U H f b a->Rb G O a e d->Q d a
def PIx(G:Gx)(X:Cx)(a:`i2)(b:`xmU):Prop:=PA X a<|tIx G b
theorem zc:∀{as:`xmU}{U f:VS.Env}{a:`xeb},nI as U=Y (a,f)->Rk a=ixB as
 |[],_,_,_,h=>by cases h;rfl
 |.io i un::as,U,f,a,h=>by
  unfold nI at h;split at h
  .exists Zx.mp h,w,d,b;exists L2.pj2 b,rfl,rfl;show J::Rk _=J::ixB as;rw[zc d]
  .cases h
 |.px x::as,U,f,a,h=>by
  exists Zz.mp h,z,_,h0;split at h0
  .exists Zx.mp h0,w,d,b;exists L2.pj2 b,rfl,rfl;show B::Rk _=B::ixB as;rw[zc d]
  .cases h0
theorem Rb.keep(k:Kept H j)(h:Rb G O H f d):Rb G O j f d:=by
 induction h with
 |nil=>calc .nil
 |io h _ b=>calc .io h b
 |ex l r _ b=>calc .ex l (r.keep k (λa h=>nomatch h)) b
def LU(s:`gx)(h:Rb G O H f b):∀{d:Uc},rN U f=Y d->∃l,RpL G H b d l/\IaR Z U O H f b l:=by
 induction h with
 |nil=>intro d e;cases e;exact{[],.nil,.nil}
 |@io i un v f b w _ n =>
  intro d e;exists Zz.mp (e),t,e1,e2;exists Zx.mp e2,S,e3,rfl;exists n e3,l,r,q;unfold ioV at e1;split at e1
  .rename_i t0 h0;exists s.rp _ _ h0,o,y,F;rw[w]at y;cases y;have j:=F;have key:∃a,v=.ref a/\Rp G H `bz t `xns:=by
    split at e1
    .obtain⟨⟨m,u⟩,N,L⟩:=Zx.mp e1;clear e e2 e1;cases L;rw[pF N]at j;exists rD j,a,E,_,D;exact{a,E,(D)}
    .split at e1
     .rename_i hm;obtain rfl:=Om e1;exists Lr j hm,a,rfl;exact{a,rfl,(j)}
     .cases e1
   ext key a rfl C;exact{_,.cons C r,.io w q}
  .cases e1
 |@ex t v f b hi A _ n =>
  intro d e;exists Zz.mp (e),o,e1,e2;have ev:o.2=t:=by
   cases e1;rfl
  exists Zz.mp e2,z,e3,R;exists Zx.mp R,S,Q,rfl;have P:z=t:=by
   unfold exV at e3;grind
  subst P;exists n Q,l,r,q;exact{_,.cons A r,.ex (λa h=>nomatch h) q}
def bM:PIx G X [] []:=PA.weak fG λO H Q a=>by
 calc Oj a λZ U b d=>oe λs e k=>?_;cases e;calc k [] H Z s (OE.refl _ _ _) .nil
def cI{X:Cx}(i:Nat)(d:Bool)(t:X.N[i]?=Y n)(j:{`ro,n})(q:Qx n)(a:Qy n)(m:PIx G X es as)(l:{`q8,SL `xjC X.env=(B,eval (.Name n pos) X.env)::SL es X.env}):PIx G X `xjC {`xdq,d,as} :=
 PA.weak (cf (eD t j q a) m l) λO H Q o=>by
  calc Oj o λZ U z C=>oe λs e k=>?_;unfold nI at e;split at e
  .rename_i c r;exists Zx.mp e,w,e1,e2;clear e;cases e2;exists s.rp _ _ r,v,b,_;exact⟨v,b,Oe Z U _ _ {s,e1,λy u A h f ix=>k _ u _ h f<|.io b ix}⟩
  .cases e
def cE(h:`XP)(l:PIx G X es as)(j:{`q8,Qv e es X}):PIx G X `bv (.px x::as) :=
 PA.weak (cf h l j) λO H Q m=>by
  calc Oj m λZ U r y=>oe λs e k=>?_;exists Zz.mp e,z,e1,e2;split at e2
  .rename_i d;exists Zx.mp e2,w,e3,n;clear e e2;cases n;exact Oe Z U _ _ ⟨s,e1,d,λu A t s1 f1 r1=>UW {s1,e3,λq o v f b ix=>k _ o _ f {`xoH,b}<|.ex d (r1.keep b.kept (λa h=>nomatch h)) ix}⟩
  .cases e2
def sD{X:Cx}(F:FnOk X.prog X.w X.K X.mg X.base Pb k f j d<|spI G (ixB as) g)(y:`Tm)(D:Gl X n)(z:X.mg n=Y `dt)(C:{`Sl,X.K,`dt})(E:Binds X.K j d [])(L:`xgo)(R:Qx n)(he:`V_)(S:`Fr):PXN G X (.Call `xgn `bv [] pos) `xlk :=
 PE.weak (uX F y D z C E .nil kW L R he S) λO H Q h=>by
  calc ai λP_ q=>?_;calc Oj h λZ U v U'=>oe λs e o=>?_;obtain⟨⟨Z8,U1⟩,e1,e2⟩:=Zz.mp e;calc q ?_;have b:=zc e1;calc Oe Z U _ _ {s,e1,λvs H1 Z1 s1 f1 ix=>?_};show spI G _ g _ H1 Q _;rw[ZO];cases ix with
  |nil=>cases b
  |ex _ _ _=>cases b
  |@io i' l v' P RT h0 a =>
   exists Zz.mp e2,ts,e3,_;exists LU s1 (.io h0 a) e3,Fs,rp,t;exact((WN<|b).2) ▸ yL s1 e2 e3 (aN.refl _) rp t λu H' Z' F m N r n=>o u H' _ F m {`xoH,N} r<|n.back f1
noncomputable def vQ(j:Nat)(x:Xx):Sx:=λU=>(`xfM).bind λz=>if j<⇑z.2 then Y {`xoT,{`sn,z.1.2}} else M
def Ht(l:{`xoM,vQ j x}):tXN G x O H λu i=>D.nx (O.set j<|Y u) i:=by
 calc OH l λZ U o=>oe λs e k=>?_;exists Zz.mp e,z,e1,e2;split at e2
 .rename_i m;obtain rfl:=Om e2;calc Oe Z U _ _ {s,e1,λu i v F s1 f1 r1 d=>?_};refine k _ _ _ (s1.put m r1 (λ_ _ _ _ _ q=>q) (λ_ _=>d.nd) (λ_ _ f p _ g a b=>d.ap f p g a b) λf t _ g a b r=>d.ap f _ g a r b) {λa o h n=>{(`xlj).1,λz=>?_},f1.OF,λa h=>?_,λa h=>?_,f1.kept}
  .rcases lL z with⟨_,_,b⟩|z
   .rcases d.of a b with q|q
    .rw[q]at h;cases h
    .exact n q
   .exact(`xlj).2 z
  .rcases lL h with⟨_,_,b⟩|z
   .exact(d.of a b).symm
   .exact f1.ow a z
  .rcases um h with⟨_,q,_⟩|z
   .cases q
   .exact f1.pu a z
 .cases e2
def Ca(h:PXN G X e x)(g:X.N.Nodup)(d:X.N[j]?=Y nm)(a:{`Op,nm})(i:Ua3 e nm pos' pos X)(f:Ua4 X nm) :
  PSV G X (.Assign [.Name nm pos'] e pos) (vQ j x) :=
 PS.weak (uo g d a h i f) λD O H b=>Ht b
def pN(o:`xiy)(U:VS.Env):Option (Option Int×VS.Env):=match o with
 |none=>Y (M,U)
 |some x=>(`xfM).bind λz=>(`xjD).bind λi=>Y (Y i,z.2)
def xSl(a:Xx)(b d:`xiy):Xx:=λU=>(`Db).bind λz=>(txT z.1.2).bind λt=>(pN b z.2).bind λl=>(pN d l.2).map λh=>((.fr,.str<|cut t l.1 h.1),h.2)
def tXO(G:Gx)(o:`xiy):TO:=λO H Q=>∃Z U i a,SR G Z U O H/\pN o U=Y (i,a)/\∀b d,SR G d a O b->OE Z U H d a b->Q i b
section
variable{lo:`xak}
def xQ:PO X M (tXO G M):=PO.weak zA λO H Q d=>by
 calc Oj d λZ U o f=>oe λs e k=>?_;cases e;calc k H Z s<|OE.refl _ _ _
def vp(h:`XP):PO X (Y e) (tXO G<|Y x):=PO.weak (Au h) λO H Q l=>by
 calc Oj l λZ U o q=>oe λs e k=>?_;exists Zz.mp e,z,e1,e2
 .replace e2:=Zz.mp e2;ext e2 j d e2;have d:=uU d;cases e2;calc Oe Z U _ _ ⟨s,e1,by rw[d];rfl,λu m p g f r=>{j,?_,k m _ g f}⟩;rw[d]at r;calc r.int_inv
def IG(w:`xeW)(p:PO X lo<|tXO G xl)(q:PO X hi<|tXO G xh):PX G X {`xbK,a} (xSl xa xl xh) :=
 PE.weak (vA Ez w p q) λO H Q o=>by
  calc Oj o λZ U v P=>OI λs e D k=>?_;exists Zz.mp e,z,e1,e2
  .replace e2:=Zz.mp e2;ext e2 t d e2;have d:=u4 d;exists Zz.mp e2,l,e3,g;exists Zx.mp g,h,C,A;clear e D e2 g;cases A;calc Oe Z U _ _ {s,e1,by rw[d];rfl,λu S N s1 f1 r1=>UW ⟨s1,e3,λR L m f2=>{_,_,_,_,m,C,λE F j y=>?_}⟩};rw[d]at r1;ext r1.str_inv rfl f;refine{_,rfl,by rw[eE,<-gR];calc f.1,?_};rw[kU];calc k _ E _ j {`tf,f1.trans,f2,y}<|.str _ {ZY (AJ _ _ _) f.1,λc r=>f.2 c<|(uO _ _ _).subset r}
def tU{X:Cx}(i:Nat)(hN:X.N[i]?=Y n)(E:{`ro,n})(P:Qx n)(g:Qy n)(S:`xeV)(F:gI b:=by calc λ_ _=>rfl)(hK:{`q8,X.K=G.K}):PX G X {`o0,.Name n p2,pos} (mS i xb) :=
 PE.weak (ox lQ (eD hN E P g) S F) λO H Q L=>by
  refine Oj L λZ U v U'=>OI λs e RK k=>?_
  .replace e:=Zz.mp e;ext e c0 h e;exists s.rp _ _ (zF h),y,h0,_;exists Zz.mp e,z,e1,e2
   .replace e2:=Zz.mp e2;ext e2 C d e2;replace e2:=Zz.mp e2;ext e2 c R e2;have d:=uU d
    .replace e2:=Zz.mp e2;ext e2 ts f e2;exists Zz.mp e2,j,ej,e3;exists Zz.mp e3,t,et,m;split at m
     .rename_i hit;clear RK e e2 e3;cases m;refine⟨y,h0,Oe Z U _ _ {s,e1,by rw[d];rfl,λw H2 Z2 p f2 r2=>?_}⟩;exists p.rp _ _ (zF R),v1,r,r1;rw[h0]at r;cases r;rw[(kM f)]at r1;rw[d]at r2;ext r1.lst_inv a u Fs rfl eF l q;calc Oo (q.get j et) λx Fx=>oe λA u2 o=>?_;have D:=o.Ol hit;subst D;exact .inl<|Oe a u C x {rfl,r2.int_inv,hK ▸ OD.of l,kf (q.len.1 ▸ ej) A,k x H2 _ p f2 o}
     .cases m
end
def EU{X:Cx}(N:`e_)(o:`Ch)(f:Gl X "range")(e:X.mg "range" = M)(i:`xeW)(b:∀cl C s H fp,PG `ii (.Name nm p2)<|EV 0)(he:∀cl C s H fp,PX G `ii elt x)(d:Qv a [] X)(n:SL [a] X.env=[(B,eval a X.env)])(l:{`xoy,sc})(m:`xia)(j:1<=⇑N)(g:∀x,XAF (.Call (.Name "range" p) [a] [] p3) X.env x=pure x) :
  PE X (.ListComp elt [{.Name nm p2,.Call (.Name "range" p) [a] [] p3,[],0}] sc pos) (tXL G<|vX xa x) :=
 PE.weak (uw o (sE f e (cf i fG d) n) l m j {`n_,b} g) λO H Q h=>Ej (λv O H R r=>r) h
section
variable{lo:`xak}
def Am(f:`xeZ)(d:PXT G X b xt):PXT G X (.BoolOp .And [a,b] pos) (kX ca xt):=(GP f<|C4 d).pxt
def bQ{X:Cx}(F:`xar)(d:`t_)(m:`xgo)(h:{`q1,k<=k'})(l:{`q8,Gl X x})(t:{`q8,Qx x})(he:{`q8,Qv e es X})(u:{`q8,Qw pos es X}) :
  PX G X (.Call `j_ `bv [] pos) `xlk:=by
 calc Oo F.ex λf fd=>OI λs r q o=>?_;exact(sD s (d.mono h) l r q o m t he u).px
def Fc{X:Cx}(F:`xar)(d:`t_)(m:`xgo)(h:`xgJ)(l:`xac)(t:Qx x)(he:`V_)(u:`Fr) :
  PXN G X (.Call `j_ `bv [] pos) `xlk:=by
 calc Oo F.ex λf fd=>OI λs r q o=>?_;calc sD s (d.mono h) l r q o m t he u
end
def tsc:T->Bool
 |.tup l=>l.all sca
 |t=>sca t
noncomputable def CM(l:Ue):Bool:=l.all λv=>match v.1 with|.bo=>false|_=>true
def tQ(a:OG)(x:Xx)(g:Fn):Xx:=λU=>(`Db).bind λl=>(`xfM).bind λz=>if CM l=J/\Ol z.1.2=J then (g<|trees l++[z.1.2]).bind λr=>if Ol r.2=J then Y ((.fr,r.2),z.2) else M else M
def tAx(G:Gx)(e:OG)(x:Xx):TA:=λO H Q=>∃Z U l z,SR G Z U O H/\e U=Y l/\CM l=J/\x U=Y z/\Ol z.1.2=J/\∀b u a d f,SR G d z.2 O a->OE Z U H d z.2 a->RpL G a b `xje f->Rp G a u z.1.2 []->Q (b++[u]) a
def PAX(G:Gx)(X:Cx)(a:`i2)(b:OG)(x:Xx):Prop:=PA X a<|tAx G b x
def E7(h:PX G X e xc)(b:Qv e [] X):PAX G X [e] ak xc:=PA.weak (cf h fG b) λO H Q d=>by
 calc Oj d λZ U l z=>SK λs j _ i f k=>?_;cases (j);calc Oe Z U z.1 z.2 {s,i,f,λu n m s1 f1 r1=>k [] u n m [] s1 f1 .nil r1}
def j8(ha:`cC)(h:PAX G X es cs xc)(hs:Qv a es X):PAX G X (a::es) (ae ca cs) xc:=PA.weak (cf ha h hs) λO H Q hq=>by
 calc ai λP_ k_=>?_;calc Oj hq λZ U l z=>SK λs el hb ez hi k=>?_;obtain⟨⟨m,t⟩,e1,e2⟩:=Zz.mp (by simpa[ae] using el);exists Zz.mp e2,y,e3,e4;cases e4;calc k_ ?_;have A:m ≠ .bo/\CM y=J:=by
  unfold CM at hb ⊢;rw[Wj,YH]at hb;exact{λz=>by rw[z]at hb;calc Zj hb.1,hb.2}
 calc Oe Z U m t ⟨s,e1,λu H1 C v P f0=>Oe Z U y z {s.same v,e3,A.2,ez,hi,λD E H' Z' Fs F r N L=>?_}⟩;have no:∀b∈C,¬bU Z U b:=λb d z=>by
  rcases f0.pu A.1 b d with q|⟨j,t',n,R⟩
  .exact Oy.jj (s.OQ z) q
  .ext z i f w S;calc s.sep i j f _ w n (λe=>?_) b S R;subst e;rw[w]at n;cases n
 calc k (u::D) E H' Z' (C::Fs) F {`tf,OE.same,v,r} (.cons (P.keep r.kept λb d o ho=>(r.keep b o ho<|no b d).1) N) L
def Cu{X:Cx}(F:{`xbw,nm})(E:`t_)(S:PAX G X `bv cs xc)(N:`xgJ)(R:Gl X nm)(PD:Qx nm)(he:`V_)(OP:`Fr):PX G X (.Call (.Name nm p) `bv [] pos) (tQ cs xc g):=by
 calc Oo F.ex λf fd=>OI λh1 h2 h3 h4=>?_;calc PE.weak (uX h1 (E.mono N) R h2 h3 h4 .nil kW S PD he OP) λO H Q L=>?_;calc ai λP_ C=>?_;calc Oj L λZ U v U'=>OI λs j D y=>?_;exists Zz.mp j,l,el,e1;exists Zz.mp e1,z,ez,e2;calc C ?_;split at e2
 .rename_i i;obtain⟨⟨n,r⟩,er,e3⟩:=Zz.mp e2;split at e3
  .rename_i P;clear j D e1 e2;cases e3;calc Oe Z U l z {s,el,i.1,ez,i.2,λm u H' Z' Fs o f' t q=>?_};show Sb G g ((m++[u])++[]) H' Q _;rw[ZO];calc Oe (trees l++[z.1.2]) (Fs++[[]]) n r {t.append {`LT,q},er,λv H2 F2 h d _=>?_};have b:=d;rw[d.Ol P]at b;exact y v H2 Z' (o.same h) (f'.trans<|OE.same h) b
  .cases e3
 .cases e2
def Hn:Fn:=λa=>(sc1 a).bind λns=>if ⇑ns<=63 then Y (.fr,.bl J) else M
section
variable{K:W0}
def FR{G:Gx}(j:G.K=K)(F:FnOk P w K mg base Pb k f d [y]<|Sb G g)(i:∀ns:Ui,⇑ns<=63->g [.scr ns]=Y (.fr,.bl J)) :
  FnOk P w K mg base Pb k f d [y] `xmT:=F.imp λo H Q E h=>by
 ext h p s m r l a q;unfold Hn at a;replace a:=Zz.mp a;ext a ns b a;obtain rfl:=GQ b
 .split at a
  .rename_i e;cases a;cases l with
   |cons r1 r2 =>
    cases r2;cases r1 with
    |scr hs=>exact UW {.cons (.scr<|j ▸ hs) .nil,i ns e,λv n F e1 r f1=>q v n F e1 (by cases r;calc .bl _) f1}
  .cases a
end
def Cm{l:PySem.W.OpenLaw}{d:DefRec}{K:Params->W0}{x:Str}{k:Nat}(m:l.most=Y 63)(e:d.params.defaults=[])(j:`xiS)(F:∀(w:XAE)(mg:W3)(g:Pv)(h:XAD),(`A_).In h->h.Ns mainGlobals mg->mg d.name=Y (.ref g) →
   ∃fd:SZ,(∀(s:On)(u:Re),BindsTo s fd {[u],[]} [(x,u)])/\∀base:XAD,(`A_).In base->base.Ns mainGlobals mg->FnOk l.prog w `A_ mg base Pb k g fd [x] (Sb (gx0 `A_) Hn)) :
  PySem.W.WalkO q b p (λw h=>(`A_).In h) l.row.toRowW d [] (λf i=>PySem.call f i) :=
 L2.nc (k:=k) (x:=x) m `ao e j (λ_ _ h=>h) F (λw H a ns hl o n=>JS (Zp hl) o n) λ_ _ _ _ _ z=>z
def IU(g:Tg)(c:Ex):Sx:=λU=>(`xeC).bind λv=>if Ol v.2 then (g v.2 U).map .nx else M
noncomputable def e3(f:Val->Val->Val->Ud)(a b c:Ex):Ex:=λU=>(`Db).bind λx=>(`xfX).bind λy=>(`xeC).bind λz=>f x y z
def Cq{pos:Pos}(he:`XV)(q:PVG G X tg g)(l:swapsWithSole [tg] e pos.line X.env=pure B)(hw:swappedStores [tg] e X.env=pure M)(u:(assignEach [tg] X.env).map (·.2)=[assign tg X.env]):PSV G X (.Assign [tg] e pos) (IU g ce) :=
 PS.weak (qA he q l hw u) λD O H p=>by
  calc OH p λZ U o=>oe λs e k=>?_;obtain⟨⟨m,t⟩,ec,e1⟩:=Zz.mp e;split at e1
  .rename_i C;exists Zx.mp e1,A,w,e2;clear e e1;cases e2;calc Oe Z U m t {s,ec,λv L F e3 f N=>?_};have x:=f.Ol C;subst x;calc PM Z U t [] A ⟨s.same e3,f,λa d=>(by cases d),w,λy E j i r=>k y E L j {λa o d n=>{e3 a o d,λz=>n<|i a z},λa d=>?_,λa z=>.inl<|i a z,λa z=>(r a z).elim .inl λz=>(by cases z),Kept.of e3}⟩;cases h:H a with
   |none=>calc absurd h d
   |some o=>exact e3 a o h ▸ λz=>nomatch z
  .cases e1
end VS
namespace SI
open TS ST
noncomputable abbrev g8(a:`xix):Prop:=∀i j u v:Nat,i<j->a[i]?=Y u->a[j]?=Y v->u<v
theorem rL(d:g8 b):∀(fuel lo a:Nat),a-lo<=fuel->lo<=a->a<=b.size->(∀i v,i<lo->b[i]?=Y v->v<j)->(∀i v,a<=i->b[i]?=Y v->j<=v) →
  (∀i v,i<SetTable.below.go b j fuel lo a->b[i]?=Y v->v<j)/\(∀i v,SetTable.below.go b j fuel lo a<=i->b[i]?=Y v->j<=v)/\SetTable.below.go b j fuel lo a<=b.size
 |0,lo,a,q,p,l,h,g=>by
  have e:lo=a:=by lia
  subst e;exact{h,g,(l)}
 |n+1,lo,a,q,p,l,h,g=>by
  unfold SetTable.below.go;by_cases o:lo<a
  .rw[Zp o];have hm:`xkp/2<b.size:=by lia
   have hg:b[`xkp/2]?=Y (b.getD (`xkp/2) j):=by
    simp_all
   by_cases f:b.getD (`xkp/2) j<j
   .rw[Zp f];calc rL d n _ a `bi `am l (λi v m e=>?_) g;by_cases he:i=`xkp/2
    .simp_all
    .exact Y4 (d i _ v _ `am e hg) f
   .rw[Zn f];calc rL d n lo _ `bi `am (by calc ZM hm) h<|λi v m e=>?_;by_cases he:i=`xkp/2
    .simp_all
    .exact ZY (Yo f)<|ZM<|d _ i _ v `am hg e
  .rw[Zn o];have e:lo=a:=by lia
   clear q p o;subst e;exact{h,g,(l)}
def fK(b:g8 a)(j:Nat):(∀i v,i<SetTable.below a j->a[i]?=Y v->v<j)/\(∀i v,SetTable.below a j<=i->a[i]?=Y v->j<=v)/\SetTable.below a j<=a.size :=
 rL b _ 0 _ (by calc YX _ _) (Pr _) (Zq _) (λi v h=>absurd h<|Nat.not_lt_zero _) λi v h e=>by
  grind
def yd(b:g8 a):SetTable.below a 0=0:=by
 exists fK b 0,e,f,d;obtain h|h:=Nat.eq_zero_or_pos _
 .exact h
 .have:=e 0 _ h (Ym<|by calc Zk h d);lia
def yO(f:g8 d)(e:d[i]?=Y v):SetTable.below d (v+1)=i+1:=by
 exists fK f _,m,l,j;rcases Vo {`xcU,d,v+1} `I_ with h|h|h
 .have:=l i v (by calc ZA h) e;lia
 .exact h
 .have g:=Ym (by calc Zk h j);have a:=m _ _ h g;have b:=f i _ v _ (by calc Yk _) e g;lia
def eA{α:Type}{a:`xfg}{x:α}(f:p<=a.size)(i:Nat):{`xbh,x}[i]?=if i<p then a[i]? else if i=p then Y x else a[i-1]?:=by
 unfold SetTable.insertAt;rw[Array.getElem?_append];simp only[WE,Array.size_extract,YJ f,Nat.sub_zero];by_cases b:i<p
 .rw[Zp<|by calc Rz b,Zp b,Array.getElem?_push,Zn (by simp;lia),Array.getElem?_extract];simp;lia
 .rw[Zn b];by_cases d:i=p
  .rw[Zp `am,Zp d,Array.getElem?_push,Zp (by simp;lia)]
  .rw[Zn `am,Zn d,Array.getElem?_extract];have e:p+(i-(p+1))=i-1:=by lia
   rw[e];by_cases g:i-1<a.size
   .rw[Zp (by simp;lia)]
   simp_all
def xR(o:g8 d)(z:d[SetTable.below d j]? ≠ Y j):g8 (SetTable.insertAt d {`xcU,d,j} j):=by
 exists fK o j,w,t,x;have s:∀i v,SetTable.below d j<=i->d[i]?=Y v->j<v:=λi v p e=>by
  obtain h|h:=W9 (t i v p e)
  .exact h
  .subst h;obtain q|q:=W9 p
   .have g:=Ym (by
     have:=(`xiw).1;calc ZJ p this)
    exact ZJ (t _ _ (Zq _) g)<|o _ _ _ _ q g e
   simp_all
 intro a b u v y l f;rw[eA x]at l f;by_cases n:a<SetTable.below d j
 .rw[Zp n]at l;by_cases r:b<SetTable.below d j
  .rw[Zp r]at f;exact o a b u v y l f
  .rw[Zn r]at f;by_cases m:b=SetTable.below d j
   .rw[Zp m]at f;obtain rfl:=Om f;exact w a u n l
   .rw[Zn m]at f;exact Y4 (w a u n l)<|s _ v `am f
 .rw[Zn n]at l;rw[Zn `am,Zn `am]at f;by_cases m:a=SetTable.below d j
  .rw[Zp m]at l;obtain rfl:=Om l;exact s _ v `am f
  .rw[Zn m]at l;calc o _ _ u v `am l f
variable{A:UV}
end SI
namespace SI
open TS ST
variable{A:UV}
noncomputable def slt(t:SetTable):Nat->Nat
 |0=>0
 |i+1=>t.place.getD i 0+1
def AV{s:On}(n:SS w=B)(g:{`s_,a,yb b f t})(m:`xnc)(l:t.led=J)(e:(!t.plain&&decide (b.size > 1))=B)(Q:Option `xnd->On->Prop)(E:Y2)(h:Q (match b[SetTable.below t.place d]?,t.place[SetTable.below t.place d]? with|some (_,x),some j=>some (x,j+1)|_,_=>none) s):SB `ax A (setNext a d i f) Q E s:=by
 have sb:∀(Q:Bool->On->Prop),Q _ s->SB `ax A setsByText Q E s:=λQ q=>Zy<|X1<|Zt (by show Q (SS w) s;calc n ▸ q);calc Zy<|Yy g L m<|Zy<|sb _ ?_;rw[Zn Zj];refine(show SB _ _ (if (!t.plain&&decide _)=J then _ else _) _ _ _ from ?_);rw[Zn<|e ▸ Zj];calc Zy<|show SB _ _ (if (!t.led && !b.isEmpty)=J then _ else _) _ _ _ from ?_;rw[Zn (by rw[l];simp)];calc Zt<|Zt h
end SI
namespace VS
open L2
def t2:T->Bool
 |.lst l=>l.all tsc
 |t=>tsc t
def t3:T->Bool
 |.tup l=>l.all t2
 |t=>t2 t
end VS
namespace L2
open TS
theorem qT:∀{b:Vr}{d:Vq},aS (b.map V.ref) d->d=b.map Value.ref
 |[],_,h=>by cases h;rfl
 |a::b,_,h=>by
  cases h with
  |cons r q=>rw[qT q];cases r;rfl
def At.pw(j:∀{a:Pv}{k:`e9},H a=Y `u_->iP h `bz k)(p:At H l g):(({`xbP,g.map}).map λv=>(v,v)).Pairwise (le<|rT h)->l.Pairwise `XL:=by
 induction p with
 |nil=>simp_all
 |@cons k a t g e q o =>
  intro f;simp only[Zh]at f;rw[Wi]at f;calc Wi.mpr {λb hb=>?_,o f.2};exists Yr hb,i,m,s;have d:=q.len ▸ m;exists q.get i (Zo d),u,n,r;rw[Zo m,s]at n;obtain rfl:=Om n;have:=f.1 _<|ZW.mpr {_,ZW.mpr {_,YT d,rfl},rfl};unfold le at this;rw[pX (j r)<|j e]at this;calc this
def zW{k0:Bool}{sh:`gY}(r:Inv X f O H y)(C:At H d p)(x:∀k∈d,k.map kind=k0::sh)(m:⇑({`xbP,p.map})<=Pi)(q:∀(l:Pv)(h:`xff)(o:Vr),H l=M->At H h o->h.Perm d->h.Pairwise `XL->Q `z_ {`oX,l,o.map V.ref}) :
  Nonempty (TN X.prog X.w (EP X f O Q) {`xbP,p.map} y):=by
 have n:∀v∈p.map Value.ref,∃d,iP _ v d/\d.map _=k0::sh:=λv i=>by
  exists ZW.mp i,a,P,rfl;exists C.mem P,k,N,e;exact{k,zT r.Og e,x k N}
 refine⟨{GT _<|k0::sh,_,tuples' J,λA E R L=>GI λv d t=>iP.kept L t,λv i=>?_,m,λR A E z u Z D=>?_,λout z U G F u S=>?_}⟩
 .exists n v i,d,t,e;exact{d,t,(e)}
 .exact C3 `am (λv i=>by exists n v i,d,t,e;exact{d,iP.kept u t,e}) D
 .exists Hc G,o,rfl,g;exists At.perm g C,h,j,s;exact{.ref _,_,r.laid u (Zq _) (show dF _ _ _ z _ (.lst _) from{(by
   rw[Zu,g.length_eq]
   simp_all),_,_,si o,S}),rfl,q _ h o (r.Og.fresh<|Zq _) j s<|j.pw (λe=>zT r.Og e) F}
def zR(K:W0):List V->Hp->VK->Prop:=λg H Q=>∃p,∃(e:`xff)(bs:Vr)(h:Bool)(sh:`gY),g=[.ref p]/\OD K H p (bs.map V.ref)/\At H e bs/\(∀k∈e,k.map kind=h::sh) ∧
  ∀(l:Pv)(d:`xff)(f:Vr),H l=M->At H d f->d.Perm e->d.Pairwise `XL->Q `z_ {`oX,l,f.map V.ref}
def qU:dU X (.builtin "sorted") (zR X.K):=by
 intro f s O H r t Q I g h;calc ai λy l=>?_;ext h p v bs w sh rfl m n a q;ext g.one u rfl i;cases i;exists I.list m,z,d,j,x;obtain rfl:=qT d;calc l ?_;have hlen:⇑({`xbP,bs.map})<=sizeLine:=by have:=d.length;lia
 exact pU λC A _=>collect_list j.isList (zW (I.kept λb o e=>by
  rw[Heap.get?_update_ne _ _ _ _ `xgy];calc Zm _ e) n a hlen q) hlen
end L2
namespace VS
open L2 TS
def Srt(f d:`xfl):Prop:=d.Perm f/\d.Pairwise `XL
open Classical in
def Bx(b:`xfl):List `e9:=if h:∃a,Srt b a then h.choose else []
def shp(a:`xfl):Prop:=∃b sh,∀k∈a,k.map kind=b::sh
theorem vN:∀{a b:`e9},a.map kind=b.map kind->eT a b=B->eT b a=B->a=b
 |[],[],_,_,_=>rfl
 |[],_::_,h,_,_=>by cases h
 |_::_,[],h,_,_=>by cases h
 |x::a,y::b,h,f,d=>by
  rw[Zh,Zh,VP]at h;unfold eT at f d;by_cases e:x=y
  .subst e;rw[Zp L]at f d;rw[vN h.2 f d]
  .rw[Zn e]at f;rw[Zn<|Yg e]at d;calc absurd (u7 h.1 f d) e
def uh(h:Srt f d)(i:shp f):Bx f=d:=by
 unfold Bx;rw[dif_pos {d,(h)}];have q:=Exists.choose_spec {d,(h)};ext i n sh g;exact List.Perm.eq_of_pairwise (λa b j hb m l=>vN ((g a<|q.1.mem_iff.mp j).trans (g b<|h.1.mem_iff.mp hb).symm) l m) q.2 h.2<|q.1.trans h.1.symm
open Classical in
def pB(v:Ue):Ud:=(v1L v).bind λl=>(l.mapM nk1).bind λa=>if shp a then Y (.fr,.lst {`xdy,Bx,a}) else M
def JG{k:`e9}(r:{`ss,.tup `YP}):∃a,v=.ref a/\H a=Y `u_/\∀x,.inr x∈k->lF x.cps.toList:=by
 ext r.inv a b d rfl rfl l q;have:∀{k:List _}{b:`cg}{d:List _},RpL G H b `YP d->b=k.map kV/\∀x,.inr x∈k->lF x.cps.toList:=λ{k}=>by
  induction k with
  |nil=>intro b d q;cases q;grind
  |cons y k h =>
   intro b d q;cases q with
   |cons r q =>
    exists h q,g,f;cases y with
    |inl i =>
     obtain rfl:=r.inv;exact{by rw[g];rfl,λx m=>(`xex).elim (λe=>nomatch e)<|f x}
    |inr s =>
     ext r.inv rfl j;refine{by rw[g];simp[kV,sx],λx m=>(`xex).elim (λe=>?_)<|f x};cases e;exact j
 exists this q,g,f
 simp_all
theorem oS:∀{b:`xff}{f:`cg}{l:Wc},RpL G H f `xhZ l->∃d:Vr,f=d.map V.ref/\At H b d/\∀k∈b,∀x,.inr x∈k->lF x.cps.toList
 |[],_,_,q=>by cases q;exact{[],rfl,.nil,λ_ m=>nomatch m}
 |k::b,_,_,q=>by
  cases q with
  |cons r q =>
   exists JG r,a,rfl,j,i;exists oS q,d,rfl,h,g;exact{_,rfl,.cons j h,λk m=>(`xex).elim (λe=>e ▸ i)<|g k}
def Ai(h:At H b d):(∀k∈b,∀x,.inr x∈k->lF x.cps.toList)->RpL G H (d.map V.ref) `xhZ (d.map λ_=>[]):=by
 induction h with
 |nil=>calc λ_=>.nil
 |@cons k a b d e _ f =>
  intro g;have inner:∀{k:List _},(∀x,.inr x∈k->lF x.cps.toList)->RpL G H (k.map kV) `YP (k.map λ_=>[]):=λ{k}=>by
   induction k with
   |nil=>calc λ_=>.nil
   |cons y k f =>
    intro h;calc .cons ?_<|f λx m=>h x<|Zs _ m;cases y with
    |inl i=>calc .int i
    |inr s =>
     have:=Rp.str (G:=G) (H:=H) _<|h s Zv;rw[show sx _=s by simp[sx]]at this;exact this
  have q:Rp G H _ _ _:=.tup e<|inner<|g k Zv;rw[iY]at q;calc .cons q<|f λk m=>g k<|Zs _ m
def Be:gu G (zR G.K) pB:=by
 intro Z U O H l i P m t Q A e k
 .replace e:=Zz.mp e;ext e x u e;exists oT u,L,rfl;exists Zz.mp e,o,e1,e2;split at e2
  .rename_i hs;cases e2;exists (`xev).one,v,F,rfl,rfl,j;ext j.lst_inv a E Gs rfl rfl z n;obtain rfl:=jL (λ_ _=>t5) e1;exists oS n,bs,rfl,D,w;exists id hs,s,sh,y;calc PM a o bs s sh {rfl,OD.of z,D,y,λq N C f b g hw=>?_};rw[uh {g,(hw)} hs]at k;have d:aN H {`oX,q,C.map V.ref}:=bI f;have r:Rp G _ _ _ _:=.lst av<|Ai (b.keep λa i h=>d a _ h) λk m=>w k<|g.mem_iff.mp m;rw[iY]at r;exact k _ _ _ d r<|Fp.new {`xoE,f} (by simp) Fp.nil
  .cases e2
def CW{X:Cx}(a:X.mg "sorted" = M)(d:PJ G X [e] cs)(b:{`q3,Gl X "sorted"})(f:{`q3,X.K=G.K})(he:{`q3,Qv e [] X}):PV G X (.Call (.Name "sorted" p) [e] [] pos) (eN pB cs) :=
 nh qU (f ▸ Be) b a nF d (he:=he)
end VS
namespace AU
set_option genInjectivity false in
structure St where
 lg:Uj
 lk:List `fg
 wy:List `cq
noncomputable def gW(w:`cq)(c:Nat):Option Nat:=({`xdE,w.find?,c}).map (·.2)
noncomputable def pW(w:`cq)(c m:Nat):List `ti:=if w.any {`xox,c} then w.map (λp=>if p.1==c then (p.1,m) else p) else w++[(c,m)]
structure WF(S:St):Prop where
 lk:⇑S.lk=⇑S.lg
 wy:⇑S.wy=⇑S.lg
 pos:0<⇑S.lg
 up:∀i n,S.lk.getD i none=some n->n<⇑S.lg
 on:∀i c n,gW (S.wy.getD i []) c=some n->n<⇑S.lg
 nd:∀w∈S.wy,(w.map (·.1)).Nodup
 az:∀w∈S.wy,∀p∈w,97<=p.1/\p.1<=122
theorem sub_len{α:Type}[DecidableEq α]:∀(l r:`ew),l.Nodup->(∀x∈l,x∈r)->⇑l<=⇑r
 |[],_,_,_=>Pr _
 |a::l,r,nd,h=>by
  exists Zc.mp nd,f,d;have:=sub_len l (r.erase a) d λx b=>(List.mem_erase_of_ne<|λe=>f (by rw[<-e];calc b)).mpr<|h x<|Zs _ b;grind
def WF.small{S:St}(W:`xlW)(i:Nat):⇑(S.wy.getD i [])<16777216:=by
 by_cases h:i<⇑S.wy
 .have hm:S.wy.getD i []∈S.wy:=by
   simp_all
  have:=sub_len _ _ (W.nd _ hm) λx a=>by
   exists ZW.mp a,p,b,rfl;have:=(W.az _ hm p b).2;exact Yu.mpr (by calc V9 this)
  rw[Zu,Yt]at this;lia
 simp_all
def JH(w:`cq)(c:Nat):{`xdE,w.any,c}=(`Z_).isSome:=by
 unfold gW;rw[X7,XR,XF,List.find?_isSome]
def Jj(w:`cq)(c m d:Nat):gW `xli d=if d=c then Y m else gW w d:=by
 unfold pW;split
 .rename_i h
  induction w with
  |nil=>simp at h
  |cons p w b =>
   rw[Zh];unfold gW;rw[Yn,Yn];by_cases q:p.1=c
   .rw[Zp<|by simpa using q];by_cases r:p.1=d
    .simp_all
    .have a:(p.1==d)=B:=by simpa using r
     have:d≠c:=λe=>r (by rw[e,q]);simp only[a,Zn this];have key:∀w:List _,(w.map λp=>if p.1==c then (p.1,m) else p).find? {`xox,d}=w.find? λp=>p.1==d:=by
      intro w
      induction w with
      |nil=>rfl
      |cons x w b =>
       rw[Zh,Yn,Yn,b];by_cases y:x.1=c
       .rw[Zp<|by simpa using y];have:(x.1==d)=B:=by simp_all
        simp only[this]
       simp_all
     rw[key w]
   .rw[Zn<|by simpa using q];by_cases r:p.1=d
    .simp_all
    .have a:(p.1==d)=B:=by simpa using r
     simp only[a];exact(b (by
     simp_all))
 .rename_i h;unfold gW;rw[List.find?_append];by_cases q:d=c
  .subst q;have:w.find? {`xox,d}=M:=by
    rw[List.find?_eq_none];intro p f e;exact h<|XF.mpr {p,f,(e)}
   rw[this,Zp L];simp
  .rw[Zn q];have:((c==d)=B):=by simpa using λe=>q e.symm
   simp[this]
def G2(w:`cq)(c m:Nat)(d:(w.map (·.1)).Nodup):((`xli).map (·.1)).Nodup:=by
 unfold pW;split
 .rw[QF];have:((λp:Nat×Nat=>p.1) ∘ λp=>if (p.1==c)=J then (p.1,m) else p)=λp=>p.1:=by
   funext p;simp only[Function.comp];split<;>rfl
  rw[this];exact d
 .rename_i h;rw[Rn,ZG];refine{d,by simp,λa f b hb e=>?_};grind
def JT(h:p∈pW w c m):p.1=c\/p∈w:=by
 unfold pW at h;grind
def i5{α:Type}(l:`ew)(i j:Nat)(x d:α):(l.set i x).getD j d=if i=j/\i<⇑l then x else l.getD j d:=by
 rw[Zl,Zl,Uu];by_cases h:i=j
 .subst h;by_cases a:i<⇑l
  .simp_all
  .rw[Zp L,Zn a,Zn<|λz=>a z.2,X6<|Yo a]
 simp_all
def bY{α:Type}(l:`ew)(x d:α)(j:Nat):(l++[x]).getD j d=if j=⇑l then x else l.getD j d:=by
 rw[Zl,Zl];by_cases h:j<⇑l
 .rw[Yv h,Zn<|Zg h]
 .rw[Yw<|Yo h];by_cases a:j=⇑l
  .simp_all
  grind
def WF.way(W:`xlW){n c v:Nat}(g:{`xbp,v})(j:97<=c/\c<=122):WF {S.lg,S.lk,S.wy.set n<|pW (S.wy.getD n []) c v}:=by
 refine{W.lk,by rw[Yc];calc W.wy,W.pos,W.up,λi d m h=>?_,λw hw=>?_,λw hw p b=>?_}
 .have a:=h;rw[i5]at a;split at a
  .rw[Jj]at a;split at a
   .obtain rfl:=Om a;exact g
   .exact W.on n d m a
  .exact W.on i d m a
 .by_cases f:n<⇑S.wy
  .rcases List.mem_or_eq_of_mem_set hw with h|h
   .exact W.nd w h
   .rw[h];refine G2 _ c v<|W.nd _ ?_
    simp_all
  .rw[List.set_eq_of_length_le<|Yo f]at hw;exact W.nd w hw
 .by_cases f:n<⇑S.wy
  .rcases List.mem_or_eq_of_mem_set hw with h|h
   .exact W.az w h p b
   .rw[h]at b;obtain e|e:=JT b
    .exact e ▸ j
    .refine W.az _ ?_ p e
     simp_all
  .rw[List.set_eq_of_length_le<|Yo f]at hw;calc W.az w hw p b
def WF.link(W:`xlW){n v:Nat}(b:{`xbp,v}):WF {S.lg,S.lk.set n `xer,S.wy}:=by
 refine{by rw[Yc];calc W.lk,W.wy,W.pos,λi m h=>?_,W.on,W.nd,W.az};have a:=h;rw[i5]at a;split at a
 .obtain rfl:=Om a;exact b
 .exact W.up i m a
def WF.more(W:`xlW){l:Nat}{o:`fg}{w:`cq}(d:∀n,o=Y n->n<⇑S.lg)(hw:∀c n,gW w c=Y n->n<⇑S.lg)(f:(w.map (·.1)).Nodup)(e:∀p∈w,97<=p.1/\p.1<=122):WF {S.lg++[l],S.lk++[o],S.wy++[w]}:=by
 have hs:∀{n},n<⇑S.lg->n<⇑(S.lg++[l]):=λh=>Zr ▸ Ti ▸ Rz h;refine{by rw[Zr,Zr,W.lk];rfl,by rw[Zr,Zr,W.wy];rfl,by simp_all,λi n h=>?_,λi c n h=>?_,λx b=>?_,λx b=>?_}
 .have a:=h;rw[bY]at a;split at a
  .exact hs<|d n a
  .exact hs<|W.up i n a
 .have a:=h;rw[bY]at a;split at a
  .exact hs<|hw c n a
  .exact hs<|W.on i c n a
 .rcases Zf.mp b with h|h
  .exact W.nd x h
  simp_all
 .rcases Zf.mp b with h|h
  .exact W.az x h
  .exact ZK.mp h ▸ e
def up1(c v:Nat):Nat->St->Option Nat->Option (St×Option Nat)
 |_,S,none=>Y (S,M)
 |0,_,some _=>M
 |k+1,S,some n=>if (gW (S.wy.getD n []) c).isSome then Y (S,Y n) else up1 c v k {S.lg,S.lk,S.wy.set n<|pW (S.wy.getD n []) c v} `xaq
def up2(c a v:Nat):Nat->St->Option Nat->Option St
 |_,S,none=>Y S
 |0,_,some _=>M
 |k+1,S,some n=>if gW (S.wy.getD n []) c=Y a then up2 c a v k {S.lg,S.lk,S.wy.set n<|pW (S.wy.getD n []) c v} `xaq else Y S
def njb(S:St)(n c:Nat):Option `xmS:=(gW (S.wy.getD n []) c).bind λold=>if S.lg.getD old 0=S.lg.getD n 0+1 then Y (S,old) else
 (up2 c old ⇑S.lg 1000 {S.lg++[S.lg.getD n 0+1],(S.lk++[S.lk.getD old M]).set old `xeu,S.wy++[S.wy.getD old []]}<|Y n).map λa=>(a,⇑S.lg)
def hb(S:St)(h c:Nat):Option `xmS:=if (gW (S.wy.getD h []) c).isSome then njb S h c else
 (up1 c ⇑S.lg 1000 {S.lg++[S.lg.getD h 0+1],S.lk++[Y 0],S.wy++[[]]}<|Y h).bind λz=>match z.2 with
  |none=>Y (z.1,⇑S.lg)
  |some n=>(njb z.1 n c).map λy=>({y.1.lg,y.1.lk.set ⇑S.lg<|Y y.2,y.1.wy},⇑S.lg)
def hg(S:St)(h:Nat):Uj->Option `xmS
 |[]=>Y (S,h)
 |c::r=>(hb S h c).bind λz=>hg z.1 z.2 r
noncomputable def Sm(S:St):Prop:=⇑S.lg<=100001
def WF.wnd(W:`xlW)(i:Nat):((S.wy.getD i []).map (·.1)).Nodup/\∀p∈S.wy.getD i [],97<=p.1/\p.1<=122:=by
 by_cases h:i<⇑S.wy
 .have hm:S.wy.getD i []∈S.wy:=by
   simp_all
  exact{W.nd _ hm,W.az _ hm}
 simp_all
noncomputable def S0:St:={[0],[M],[[]]}
def IA:WF S0:=by
 refine{rfl,rfl,by decide,λi n h=>?_,λi c n h=>?_,λw hw=>?_,λw hw p a=>?_}
 .cases i with
  |zero=>cases h
  |succ i=>cases h
 .cases i with
  |zero=>cases h
  |succ i=>cases h
 .exact ZK.mp hw ▸ Yi
 .rw[ZK.mp hw]at a;cases a
end AU
namespace SP
open SI
noncomputable def f5(m i:Nat):Nat:=(i*5+1)%`xiv
def it(m:Nat):Nat->Nat->Nat
 |0,i=>i
 |n+1,i=>it m n<|f5 m i
def orb(m:Nat):Nat->Nat->Uj
 |0,_=>[]
 |n+1,i=>i::orb m n (f5 m i)
noncomputable def Sr(m:Nat):Prop:=m=7\/m=15\/m=31\/m=63\/m=127\/m=255\/m=511\/m=1023
theorem Eu{j:Nat}:∀(k i:Nat),j∈orb m k i->∃n,n<k/\it m n i=j
 |0,_,h=>nomatch h
 |k+1,i,h=>by
  obtain rfl|h:=Zi.mp h
  .exact{0,Y3 _,rfl}
  .exists Eu k _ h,n,b,a;exact{_,Uq b,a}
theorem uG(m:Nat):∀(a b i:Nat),it m (a+b) i=it m b (it m a i)
 |0,b,i=>by rw[YI];rfl
 |a+1,b,i=>by rw[Nat.succ_add];calc uG m a b _
def bm(m:Nat):Nat->Nat->Nat->Nat
 |0,_,acc=>acc
 |k+1,i,acc=>bm m k (f5 m i) (acc ||| 2 ^ i)
theorem EC{j:Nat}:∀(k i acc:Nat),(bm m k i acc).testBit j=J->acc.testBit j=J\/j∈orb m k i
 |0,_,_,h=>.inl h
 |k+1,i,acc,h=>by
  obtain h|h:=EC k _ _ h
  .rw[Nat.testBit_or,Nat.testBit_two_pow,Bool.or_eq_true]at h;exact h.imp id λh=>(of_decide_eq_true h:i=j) ▸ Zv
  .exact .inr<|Zs _ h
def allM(m:Nat):Bool:=it m `xiv 0==0&&bm m `xiv 0 0==2 ^ `xiv-1
def JW(h:Sr m):it m `xiv 0=0/\∀j,j<=m->∃n,n<=m/\it m n 0=j:=by
 have:allM m=J:=by
  obtain rfl|rfl|rfl|rfl|rfl|rfl|rfl|rfl:=h<;>decide +kernel
 exists Zd.mp this,f,e;refine{eq_of_beq f,λj a=>?_};exists Eu _ 0 ((EC (j:=j) _ 0 0 (by rw[eq_of_beq e,Nat.testBit_two_pow_sub_one];calc ZI<|V9 a)).resolve_left (by rw[Nat.zero_testBit];calc Zj)),n,d,b;exact{n,ZA d,b}
def reach(h:Sr m)(f:i<=m)(e:j<=m):∃n,n<=m/\it m n i=j:=by
 exists JW h,h0,d;exists d i f,a,l,rfl;exists d j e,b,g,rfl;by_cases q:a<=b
 .exact{b-a,by lia,by rw[<-uG,Wq q]}
 .refine{m+1-a+b,by lia,?_};rw[uG,<-uG m a,Wq `am,h0]
noncomputable def lp(m:Nat):Nat->Nat×Nat->Nat×Nat
 |0,q=>q
 |n+1,q=>lp m n<|SetTable.leap m q.1 q.2
theorem Eb(m:Nat):∀(a b:Nat)(q:`ti),lp m (a+b) q=lp m b (lp m a q)
 |0,b,q=>by rw[YI];rfl
 |a+1,b,q=>by rw[Nat.succ_add];calc Eb m a b _
theorem Ae(m:Nat):∀(n i:Nat),lp m n (i,0)=(it m n i,0)
 |0,i=>rfl
 |n+1,i=>by
  show lp m n ((i*5+1+0/32)%`xiv,0/32)=_;rw[Nat.zero_div,Uy];calc Ae m n _
theorem Jo(m:Nat):∀(n:Nat)(q:`ti),q.1<=m->(lp m n q).1<=m/\(lp m n q).2=q.2/32 ^ n
 |0,q,h=>{h,by rw[Nat.pow_zero,Nat.div_one];rfl}
 |n+1,q,h=>by
  exists Jo m n (SetTable.leap m _ _) (ZA<|Wy _ `xmR),b,a;refine{b,a.trans ?_};show q.2/32/32 ^ n=_;rw[Nat.div_div_eq_div_mul,Nat.pow_succ,Nat.mul_comm]
def Dv(h:Sr m)(g:i<=m)(e:a<2 ^ 64)(f:j<=m):∃n,n<=m+13/\(lp m n (i,a)).1=j:=by
 exists Jo m 13 (i,a) g,l,b;rw[Nat.div_eq_of_lt<|Y4 e `ao]at b;exists reach h l f,n,o,d;refine{13+n,by lia,?_};rw[Eb,show lp m 13 _=((lp m 13 _).1,0) from Prod.ext L b,Ae];calc d
def zm(h:Int):SetTable.bits h<2 ^ 64:=by
 unfold SetTable.bits;omega
noncomputable def OV(t:SetTable):Nat->SetTable.Probe->SetTable.Probe
 |0,p=>p
 |n+1,p=>OV t n `xfd
theorem m7(t:SetTable):∀(a b:Nat)(p:SetTable.Probe),OV t (a+b) p=OV t b (OV t a p)
 |0,b,p=>by rw[YI];rfl
 |a+1,b,p=>by rw[Nat.succ_add];calc m7 t a b _
def rJ(h:i<=m):SetTable.runEnd m i<=m/\SetTable.runEnd m i<=i+9/\i<=SetTable.runEnd m i:=by
 unfold SetTable.runEnd;split<;>lia
theorem vf(t:SetTable):∀(q:Nat)(p:SetTable.Probe),p.more=q->OV t (q+1) p={ j:=(`j0).1,more:=SetTable.runEnd t.mask (`j0).1-(`j0).1,i:=(`j0).1,perturb:=(`j0).2,dummy:=p.dummy }
 |0,p,h=>by
  show t.advance p=_;unfold SetTable.advance;rw[Zn<|h ▸ Yl _]
 |q+1,p,h=>by
  show OV t _ `xfd=_;unfold SetTable.advance;rw[Zp<|h ▸ Y3 _,vf t q _ (by rw[h];rfl)]
structure Ksr(t:SetTable)(p:SetTable.Probe):Prop where
 le:p.i<=t.mask
 j:p.j=p.i
 more:p.more=SetTable.runEnd t.mask p.i-p.i
theorem EX(t:SetTable):∀(n:Nat)(p:SetTable.Probe),Ksr t p->∃k,k<=10*n/\(OV t k p).j=(lp t.mask n (p.i,p.perturb)).1
 |0,p,h=>{0,Zq _,h.j}
 |n+1,p,h=>by
  exists EX t n _ (show Ksr t { j:=(SetTable.leap _ _ _).1,more:=SetTable.runEnd _ (SetTable.leap _ _ _).1-(SetTable.leap _ _ _).1,i:=(SetTable.leap _ _ _).1,perturb:=(SetTable.leap _ _ _).2,dummy:=p.dummy } from{(ZA<|Wy _<|Y3 _),rfl,rfl}),k,b,a;have:=rJ h.le;refine{p.more+1+k,by rw[h.more];lia,?_};rw[m7,vf t _ p L];calc a
def xU(t:SetTable)(h:Int):Ksr t {`qs,h}:={ZA<|Wy _<|Y3 _,rfl,rfl}
def vm{t:SetTable}(h:Sr t.mask)(x:Int)(d:j<=t.mask):∃k,k<10*SetTable.turns t.mask/\(OV t k {`qs,x}).j=j:=by
 have s:=xU t x;exists Dv h s.le (zm x) d,n,e,a;exists EX t n _ s,k,f,b;exact{k,by unfold SetTable.turns;lia,b.trans a}
noncomputable def Pj(t:SetTable)(p:SetTable.Probe):Prop:=p.j+p.more<=t.mask/\p.dummy=M
def Pj.adv(h:Pj t p):Pj t `xfd:=by
 unfold SetTable.advance;split
 .rename_i q;exact⟨by have:=h.1;lia,h.2⟩
 .have:=rJ<|ZA<|Wy (p.i*5+1+p.perturb/32)<|Y3 t.mask;refine{?_,h.2};show (p.i*5+1+p.perturb/32)%`xlh+(SetTable.runEnd _ ((p.i*5+1+p.perturb/32)%`xlh)-(p.i*5+1+p.perturb/32)%`xlh)<=_;lia
def wF(t:SetTable)(x:Int):Pj t {`qs,x}:=by
 have s:=xU t x;have:=rJ s.le;exact{by rw[s.j,s.more];lia,rfl}
noncomputable def live(m:Nat)(a:`xfc):List `ti:=({`m_,m+1}).filterMap λj=>(a.getD j M).map (j,·)
structure Koi(m:Nat)(ow:`xfc)(k:Nat):Prop where
 sz:ow.size=m+1
 len:⇑(`W_)=k
 lt:∀j v,ow.getD j none=some v->v<k
def GE{a:`xfc}(l:(a.getD d<|Y 0).isNone=J):∀(n fuel i pt:Nat),n<fuel->i<=m->(lp m n (i,pt)).1=d->∃j,SetTable.layClean.free m a fuel i pt=Y j/\(`xad).isNone=J:=by
 intro n
 induction n with
 |zero =>
  intro fuel i pt h f e;obtain⟨q,rfl⟩:∃n,fuel=n+1:={fuel-1,by lia}
  subst e;unfold SetTable.layClean.free;cases b:(List.range _).find? _ with
  |some k=>exact{_,rfl,List.find?_some (p:=λk=>(a.getD _ _).isNone) b}
  |none =>
   have:=List.find?_eq_none.mp b 0<|Yu.mpr (by have:=rJ f;lia);calc absurd l this
 |succ n g =>
  intro fuel i pt h f e;obtain⟨q,rfl⟩:∃n,fuel=n+1:={fuel-1,by lia}
  unfold SetTable.layClean.free;cases b:(List.range _).find? _ with
  |some k=>exact{_,rfl,List.find?_some (p:=λk=>(a.getD _ _).isNone) b}
  |none=>calc g q _ _ `am (ZA<|Wy _ `xmR) e
theorem DZ{α β:Type}{f:`xhJ}:∀{l:`ew},(∀x∈l,∃y,f x=Y y)->⇑({`xbz,f})=⇑l
 |[],_=>rfl
 |x::l,h=>by
  exists h x Zv,y,e;calc Xy ▸ e ▸ ZF _ (DZ λx a=>h x<|Zs _ a)
theorem xp{β:Type}{f g:`xoc}:∀{l:Uj},(∀i∈l,g i=f i)->l.filterMap g=l.filterMap f
 |[],_=>rfl
 |x::l,h=>by rw[Xy,Xy,h x Zv,xp λi a=>h i<|Zs _ a]
theorem EO{β:Type}{f g:`xoc}{y:β}(d:f j=M)(b:g j=Y y)(he:∀i,i≠j->g i=f i):∀{l:Uj},l.Nodup->j∈l->⇑({`xbz,g})=⇑({`xbz,f})+1
 |[],_,h=>nomatch h
 |x::l,n,h=>by
  exists Zc.mp n,m,e;rw[Xy,Xy];by_cases q:x=j
  .clear h;subst q;rw[d,b];show _+1=_+1;rw[xp λi o=>he i λz:i=x=>m<|z ▸ o]
  .have a:=EO d b he e {`xbL,q};rw[he x q];cases f x with
   |none=>calc a
   |some z=>calc ZF _ a
def getD_some{a:`xfc}(h:`xmQ):j<a.size/\a.getD j M=M:=by
 by_cases q:j<a.size
 .refine{q,?_};rw[Array.getD,dif_pos q]at h ⊢;exact Option.isNone_iff_eq_none.mp h
 .rw[Array.getD,dif_neg q]at h;cases h
theorem Koi.free(h:Koi m a k)(g:Sr m)(s:k<=m)(x:Int):∃j,SetTable.layClean.free m a `xko (SetTable.bits x%`xiv) `xlg=Y j/\(`xad).isNone=J:=by
 obtain⟨r,o,i⟩:∃j,j<=m/\(a.getD j _).isNone=J:=Xv λz=>by
  have:=DZ (f:=λj=>(a.getD j _).map (j,·)) (l:={`m_,m+1}) λj b=>by
   have b:=Yu.mp b;cases e:a.getD j M with
   |none =>
    calc absurd {j,ZA b,?_} z;rw[Array.getD,dif_pos<|h.sz ▸ b]at e ⊢;rw[e];rfl
   |some v=>exact{_,(rfl)}
  rw[Yt]at this;have q:=h.len;unfold live at q;lia
 have le:=ZA<|Wy `xlg `xmR;exists Dv g le (zm x) o,n,p,d;calc GE i n _ _ _ (by unfold SetTable.turns;lia) le d
def Koi.set(h:Koi m a k)(l:`xmQ):Koi m (a.setIfInBounds j<|Y k) `T5:=by
 exists getD_some l,b,d;have g:∀i,(a.setIfInBounds j _).getD i _=if i=j then Y k else a.getD i M:=λi=>by
  rw[Xc,Xc,Array.getElem?_setIfInBounds];by_cases q:i=j
  .rw[Zp q.symm,Zp q,Zp b];rfl
  .rw[Zn<|Yg q,Zn q]
 refine{by rw[Array.size_setIfInBounds];calc h.sz,?_,λi v e=>?_}
 .unfold live;rw[EO (f:=λj=>(a.getD j _).map _) (by rw[d];rfl) (by rw[g,Zp L];rfl) (λi n=>by rw[g,Zn n]) Wu<|Yu.mpr<|h.sz ▸ b];exact ZF _ h.len
 .rw[g]at e;split at e
  .obtain rfl:=Om e;exact Yk _
  .exact Rz<|h.lt i v e
noncomputable abbrev IQ(m:Nat)(a:Option `xlV)(h:Int):Option `xlV:=do
 let (owner,k) <-a
 let j <-SetTable.layClean.free m owner `xko (SetTable.bits h%`xiv) (SetTable.bits h)
 pure (owner.setIfInBounds j<|Y k,k+1)
end SP
namespace SX
open SI SP
def below_at(b:g8 a)(e:a[i]?=Y j):SetTable.below a j=i:=by
 exists fK b j,f,d,l;obtain h|h|h:=Vo _ i
 .have g:=Ym<|Y4 h (`xiw).1;exact absurd (b _ _ _ _ h g e)<|Nat.not_lt_of_le<|d _ _ (Zq _) g
 .exact h
 .exact absurd (f i j h e)<|Yl _
def mO(b:g8 a)(j:Nat):a[SetTable.below a j]?=Y j ↔ ∃i:Nat,a[i]?=Y j :=
 {λe=>{_,(e)},λ⟨i,e⟩=>by rw[below_at b e];calc e}
def ku(b:g8 a)(j:Nat):SetTable.has a j=J ↔ ∃i:Nat,a[i]?=Y j :=
 beq_iff_eq.trans (mO b j)
def nz{t:SetTable}(a:`xlf):t.slot j=.live i↔t.place[i]?=Y j:=by
 unfold SetTable.slot;by_cases h:(t.place[SetTable.below t.place j]? == Y j)=J
 .rw[Zp h];refine{λe=>?_,λe=>by rw[below_at a e]}
  simp_all
 .rw[Zn h];refine{λe=>?_,λe=>absurd {`xoJ,(mO a j).mpr {i,(e)}} h};split at e<;>cases e
def iT{t:SetTable}(b:`xlf)(a:g8 t.dummies):t.slot j=.empty↔(¬∃i:Nat,t.place[i]?=Y j)/\¬∃i:Nat,t.dummies[i]?=Y j:=by
 unfold SetTable.slot;by_cases h:(t.place[SetTable.below t.place j]? == Y j)=J
 .rw[Zp h];exact{λe=>(by cases e),λe=>absurd {_,beq_iff_eq.mp h} e.1}
 .rw[Zn h];by_cases g:SetTable.has t.dummies j=J
  .rw[Zp g];exact{λe=>(by cases e),λe=>absurd ((ku a j).mp g) e.2}
  .rw[Zn g];exact{λ_=>{λe=>h {`xoJ,(mO b j).mpr e},λe=>g<|(ku a j).mpr e},λ_=>rfl}
def DK{t:SetTable}(b:`xlf)(a:g8 t.dummies):t.slot j=.dummy->∃i:Nat,t.dummies[i]?=Y j:=by
 unfold SetTable.slot;intro e;by_cases h:(t.place[SetTable.below t.place j]? == Y j)=J
 .simp_all
 .rw[Zn h]at e;by_cases g:SetTable.has t.dummies j=J
  .exact(ku a j).mp g
  grind
def xE(t:SetTable)(n:Nat)(p:SetTable.Probe):OV t `xjF p=t.advance (OV t n p):=m7 t n 1 p
theorem jC{t t':SetTable}(h:`xob):∀(n:Nat)(p:SetTable.Probe),OV t n p=OV t' n p
 |0,_=>rfl
 |n+1,p=>by
  show OV t n _=OV t' n _;rw[jC h n];unfold SetTable.advance;rw[h]
def qE{t a:SetTable}(h:t.mask=a.mask)(x:Int):t.probeStart x=a.probeStart x:=by
 unfold SetTable.probeStart;rw[h]
noncomputable def wd(p:SetTable.Probe)(d:`fg):SetTable.Probe:={ p with dummy:=d }
def D3(t:SetTable)(p:SetTable.Probe)(d:`fg):t.advance (wd p d)=wd `xfd d:=by
 unfold SetTable.advance;show (if p.more > 0 then _ else _)=_;split<;>rfl
theorem yJ:∀(n:Nat){p:SetTable.Probe},Pj t p->Pj t (OV t n p)
 |0,_,h=>h
 |n+1,_,h=>yJ n h.adv
def Rc(t:SetTable)(h:Int)(j:Nat):Prop:=∃n,(OV t n {`qs,h}).j=j/\∀k,k<n->t.slot (OV t k {`qs,h}).j ≠ .empty
def Rc.mono{t t':SetTable}(a:`xob)(he:∀j,t'.slot j=.empty->t.slot j=.empty){h:Int}:Rc t h j->Rc t' h j:=λ⟨n,e,q⟩ =>
 {n,by rw[<-jC a,<-qE a];calc e,λk b=>by rw[<-jC a,<-qE a];calc λz=>q k b<|he _ z}
def Pas(t:SetTable)(a:SetTable.Probe)(B:Nat->Prop)(n:Nat):Prop:=∀k,k<n->t.slot (OV t k a).j ≠ .empty/\∀i,t.slot (OV t k a).j=.live i->¬B i
def Dm(t:SetTable)(a:SetTable.Probe)(n:Nat)(d:`fg):Prop:=∀j,d=Y j->∃m,m<n/\j=(OV t m a).j/\t.slot j=.dummy
def Pas.succ{B:Nat->Prop}(h:Pas t a B n)(e:t.slot (OV t n a).j ≠ .empty)(d:∀i,t.slot (OV t n a).j=.live i->¬B i):Pas t a B `xjF:=λk b=>by
 obtain q|q:=W9 (ZA b)
 .exact h k q
 .subst q;exact{e,(d)}
def Dm.succ(h:Dm t f n d):Dm t f `xjF d:=λj e =>
 let ⟨m,a,b⟩:=h j e
 {m,Rz a,b}
def Out(t:SetTable)(h:Int)(f:Nat->Int)(B:Nat->Prop)(b:SetTable.Probe)(n N:Nat)(r:Option SetTable.Met):Prop:=∃a d,Pas t b B a/\Dm t b a d/\n<=a/\a<=N/\((t.slot (`xhc).j=.empty/\r=Y (.empty (`xhc).j d))\/∃i,t.slot (`xhc).j=.live i/\f i=h/\r=Y (.candidate (`xhc).j i {`xdz,a+1,b}))
def KM{t:SetTable}{h:Int}{B:Nat->Prop}(D:∀i,B i->f i=h)(he:t.slot (OV t N g).j=.empty):∀(k n fuel:Nat)(d:`fg),k<fuel->n+k=N->Pas t g B n->Dm t g n d->Out t h f B g n N (SetTable.probe.go t f h fuel {`xdz,n,g}):=by
 intro k
 induction k with
 |zero =>
  intro n fuel d s p l hd;obtain⟨q,rfl⟩:∃q,fuel=q+1:={fuel-1,by lia}
  subst p;calc Pd n d ⟨l,hd,Zq _,Zq _,.inl {he,?_}⟩;unfold SetTable.probe.go;rw[show t.slot ({`xdz,n,g}).j=.empty from he];rfl
 |succ k v =>
  intro n fuel d s p l hd;obtain⟨q,rfl⟩:∃q,fuel=q+1:={fuel-1,by lia}
  have next:∀o,Pas t g B _->Dm t g _ o->Out t h f B g n N (SetTable.probe.go t f h q<|t.advance _):=λo x w=>by
   calc Oo (v `xjF q o (Nat.lt_of_succ_lt_succ s) `am x w) λu y=>OI λa b c r=>?_;rw[D3,<-xE];exact Pd u y {a,b,Vm c,r}
  unfold SetTable.probe.go;cases hs:t.slot _ with
  |empty=>exact⟨n,d,l,hd,Zq _,by lia,.inl {hs,(rfl)}⟩
  |dummy =>
   have A:t.slot (OV t n g).j=.dummy:=hs;refine next _ (l.succ (λz=>?_) λi z=>?_) λj e=>?_
   .grind
   .grind
   .obtain rfl:=Om e;exact{n,Yk _,rfl,hs}
  |live i =>
   have A:t.slot (OV t n g).j=.live i:=hs;show Out t h f B g n N (if (f i==h)=J then _ else _);by_cases m:(f i==h)=J
   .rw[Zp m,D3,<-xE];exact⟨n,d,l,hd,Zq _,by lia,.inr {i,hs,beq_iff_eq.mp m,rfl}⟩
   .rw[Zn m];refine next d (l.succ (λz=>?_) λC z b=>?_) hd.succ
    .grind
    grind
structure Tb(t:SetTable)(hs:Ui):Prop where
 m:Sr t.mask
 sz:t.place.size=⇑hs
 rp:g8 t.place
 rd:g8 t.dummies
 dj:∀v,(∃i:Nat,t.place[i]?=some v)->¬∃i:Nat,t.dummies[i]?=some v
 lp:∀i v:Nat,t.place[i]?=some v->v<=t.mask
 fl:t.fill<=t.mask
 rc:∀(i j:Nat)(h:Int),t.place[i]?=some j->hs[i]?=some h->Rc t h j
theorem Tb.fits(h:Tb t a):t.fits ⇑a=J:=by
 unfold SetTable.fits;rw[h.sz,beq_self_eq_true,Bool.true_and,decide_eq_true_iff];calc h.fl
def Tb.odd(h:Tb t a):t.gaveWay=B:=by
 unfold SetTable.gaveWay;obtain e|e|e|e|e|e|e|e:=h.m<;>rw[e]<;>rfl
def Tb.room(h:Tb t a):∃j,j<=t.mask/\t.slot j=.empty:=Xv λz=>by
 have:=AU.sub_len _ (t.place.toList++t.dummies.toList) (Wu)<|λj b=>Xv λq=>z ⟨j,ZA<|Yu.mp b,(iT h.rp h.rd).mpr {λ⟨i,e⟩=>?_,λ⟨i,e⟩=>?_}⟩
 .rw[Yt,Zr,RO,RO]at this;have:=h.fl;unfold SetTable.fill at this;lia
 .rw[<-Sf]at e;exact q<|YQ _<|ZE e
 .rw[<-Sf]at e;calc q<|ZD _<|ZE e
def DV{α:Type}{a:`xfg}{x:α}:({`xbh,x}).toList=a.toList.take p++x::a.toList.drop p:=by
 unfold SetTable.insertAt;rw[XM,Ut,Xm,Xm,Ws,Ws,Yq (l:=List.drop p _)<|by simp_all,ZU];rfl
def Ka{α:Type}{a:`xfg}:({`NE,a}).toList=a.toList.eraseIdx p:=by
 unfold SetTable.eraseAt;rw[XM,Xm,Xm,YW,Ws,Ws,Yq (l:=List.drop (p+1) _)<|by simp_all];rfl
def Dj{α:Type}{a:`ew}{x:α}(b:p<=⇑a)(i:Nat):(a.take p++x::a.drop p)[i]?=if i<p then a[i]? else if i=p then Y x else a[i-1]?:=by
 have:=eA (x:=x) (by calc b) i;rw[<-Sf,DV,YF,YF]at this;calc this
def qm{α:Type}{a:`xfg}(i:Nat):{`NE,a}[i]?=if i<p then a[i]? else a[i+1]?:=by
 rw[<-Sf,Ka,List.getElem?_eraseIdx]
 simp_all
def uJ(a:g8 b):g8 {`NE,b}:=λi j u v h e1 e2=>by
 rw[qm]at e1 e2;split at e1<;>split at e2
 .exact a i j u v h e1 e2
 .exact a i _ u v (Rz h) e1 e2
 .lia
 .exact a _ _ u v (Uq h) e1 e2
def pQ(b:g8 a)(d:a[p]?=Y j):(∃i:Nat,{`NE,a}[i]?=Y v)↔v≠j/\∃i:Nat,a[i]?=Y v:=by
 constructor
 .rintro⟨i,e⟩;rw[qm]at e;split at e
  .exact{λz=>absurd (b i p v j ‹_› e d)<|z ▸ Yl _,i,e}
  .exact{λz=>absurd (b p _ j v `am d e)<|z ▸ Yl _,_,e}
 .rintro⟨h,i,e⟩;obtain q|q|q:=Vo i p
  .exact{i,by rw[qm,Zp q];calc e}
  .grind
  .exact{i-1,by rw[qm,Zn `am,Nat.sub_add_cancel `am];calc e}
def jc{b:`xix}(a:p<=b.size):(∃i:Nat,(SetTable.insertAt b p j)[i]?=Y v)↔v=j\/∃i:Nat,b[i]?=Y v:=by
 constructor
 .rintro⟨i,e⟩;rw[eA a]at e;split at e
  .exact .inr {i,(e)}
  .split at e
   .exact .inl (Om e).symm
   .exact .inr {_,(e)}
 .rintro (rfl|⟨i,e⟩)
  .exact{p,by rw[eA a,Zn<|Yl _,Zp L]}
  .by_cases q:i<p
   .exact{i,by rw[eA a,Zp q];calc e}
   .exact{i+1,by rw[eA a,Zn `am,Zn `am];calc e}
def mL{α:Type}{a:`xfg}{x:α}:({`xbh,x}).size=a.size+1:=by
 rw[<-RO,DV,Zr,Za,<-Xa,<-Zr,Yh,RO]
def zz{a:`xix}(h:p<a.size):({`NE,a}).size+1=a.size:=by
 rw[<-RO,Ka,List.length_eraseIdx,Zp<|by calc h,RO];lia
theorem Tb.put(T:Tb t o){h:Int}(s:¬∃i:Nat,t.place[i]?=Y j)(r:j<=t.mask)(E:Rc t h j)(F:t.fill<t.mask):Tb (`A0).1 (o.take `v6++h::o.drop `v6)/\(`A0).1.fill=(if SetTable.has t.dummies j=J then t.fill else t.fill+1):=by
 exists fK T.rp j,_,_,a;have b:g8 (`A0).1.place:=xR T.rp<|λz=>s {_,(z)};have D:g8 (`A0).1.dummies/\(`A0).1.fill=(if SetTable.has t.dummies j=J then t.fill else t.fill+1)/\∀v,((∃i:Nat,t.dummies[i]?=Y v)->v=j\/∃i:Nat,(`A0).1.dummies[i]?=Y v)/\((∃i:Nat,(`A0).1.dummies[i]?=Y v)->v≠j/\∃i:Nat,t.dummies[i]?=Y v):=by
  have C:(`A0).1.dummies=if SetTable.has _ j=J then SetTable.eraseAt _ _ else t.dummies:=rfl
  unfold SetTable.fill;rw[show (`A0).1.place.size=t.place.size+1 from mL,C];by_cases g:SetTable.has t.dummies j=J
  .rw[Zp g,Zp g];have e:=(mO T.rd j).mpr<|(ku T.rd j).mp g;refine⟨uJ T.rd,?_,λv=>{λn=>?_,(pQ T.rd e).mp}⟩
   .have:=zz (`xiw).1;lia
   .by_cases q:v=j
    .exact .inl q
    .exact .inr<|(pQ T.rd e).mpr {q,(n)}
  .rw[Zn g,Zn g];exact{T.rd,by lia,λv=>⟨.inr,λn=>{λz=>g<|(ku T.rd j).mpr<|z ▸ n,n}⟩}
 ext D d f l;refine⟨{T.m,?_,b,d,λv A y=>?_,λi v e=>?_,?_,λi v x e1 e2=>Rc.mono (t:=t) (t':=(`A0).1) L (λv e=>by
  exists (iT b d).mp e,e1,e2;refine(`xoa).mpr {λz=>e1 {`xda,a,.inr z},λz=>?_};obtain q|q:=(l v).1 z
  .exact e1 {`xda,a,.inl q}
  .exact e2 q) ?_},f⟩
 .rw[show (`A0).1.place.size=t.place.size+1 from mL,T.sz,Zr,Za,<-Xa,<-Zr,Yh]
 .exists (l v).2 y,w,u;exact T.dj v (((jc a).mp A).resolve_left w) u
 .rcases (jc a).mp {i,(e)} with q|⟨p,q⟩
  .exact q ▸ r
  .exact T.lp p v q
 .show _<=t.mask;rw[f];split<;>lia
 .have e1:(SetTable.insertAt _ _ j)[i]?=Y v:=e1;rw[eA a]at e1;rw[Dj<|T.sz ▸ a]at e2;split at e1
  .rw[Zp ‹_›]at e2;exact T.rc i v x e1 e2
  .rw[Zn ‹_›]at e2;split at e1
   .simp_all
   .rw[Zn ‹_›]at e2;calc T.rc _ v x e1 e2
theorem Tb.drop(T:Tb t f)(a:t.place[i]?=Y j):Tb `xhb (f.eraseIdx i)/\(`xhb).fill=t.fill/\(`xhb).mask=t.mask/\(`xhb).led=t.led:=by
 exists fK T.rd j,_,_,d;have r:t.drop i={ t with place:=SetTable.eraseAt t.place i,dummies:=SetTable.insertAt t.dummies {`xcU,t.dummies,j} j }:=by
  unfold SetTable.drop;rw[a]
 have g:=(Y8.mp a).1;have sz:=zz g;have b:=xR T.rd<|λz=>T.dj j {i,(a)} {_,(z)};refine r ▸ ⟨{T.m,?_,uJ T.rp,b,λv p o=>?_,λk v e=>?_,?_,λk v x e1 e2=>?_},?_,rfl,rfl⟩
 .rw[List.length_eraseIdx,Zp<|T.sz ▸ g];have:=T.sz;lia
 .exists (`xjB).mp p,n,l;exact T.dj v l<|((jc d).mp o).resolve_left n
 .exists (`xjB).mp {k,(e)},_,h,s;exact T.lp h v s
 .show (SetTable.eraseAt _ i).size+(SetTable.insertAt _ _ j).size<=t.mask;rw[mL];have:=T.fl;unfold SetTable.fill at this;lia
 .refine Rc.mono (t:=t) `xdV (λv e=>?_) ?_
  .exists (iT (t:={ t with place:=SetTable.eraseAt _ i,dummies:=SetTable.insertAt _ _ j }) (uJ T.rp) b).mp e,e1,e2;refine(`xoa).mpr ⟨λz=>?_,λz=>e2 {`xda,d,.inr z}⟩;by_cases q:v=j
   .exact e2 {`xda,d,.inl q}
   .exact e1<|(`xjB).mpr {q,(z)}
  have e1:=e1;rw[qm]at e1;rw[List.getElem?_eraseIdx]at e2;split at e1
  .rw[Zp ‹_›]at e2;exact T.rc k v x e1 e2
  .rw[Zn ‹_›]at e2;exact T.rc _ v x e1 e2
 .show (SetTable.eraseAt _ i).size+(SetTable.insertAt _ _ j).size=t.place.size+t.dummies.size;rw[mL];lia
noncomputable def T0(m:Nat):SetTable:={ SetTable.fresh 0 0 B with mask:=m }
noncomputable def rs(m i a:Nat):SetTable.Probe:={ j:=i,more:=SetTable.runEnd m i-i,i,perturb:=a,dummy:=M }
theorem ua(t:SetTable):∀(q:Nat)(p:SetTable.Probe),q<=p.more->(OV t q p).j=p.j+q
 |0,_,_=>rfl
 |q+1,p,h=>by
  show (OV t q _).j=_;unfold SetTable.advance;rw[Zp<|Zk (Y3 q) h,ua t q _<|by calc Nat.le_sub_of_add_le h];calc Nat.add_right_comm _ _ _
noncomputable def full(a:`xfc)(j:Nat):Prop:=(`xad).isNone=B
def Bg:∀(fuel i pt:Nat),i<=m->SetTable.layClean.free m d fuel i pt=Y j->∃n,(OV `xlU n `xem).j=j/\∀k,k<n->full d (OV `xlU k `xem).j:=by
 intro fuel
 induction fuel with
 |zero=>intro i pt _ e;cases e
 |succ fuel r =>
  intro i pt s e;have u:=rJ s;unfold SetTable.layClean.free at e;cases a:(List.range _).find? _ with
  |some k =>
   rw[a]at e;obtain rfl:=Om e;exists List.find?_range_eq_some.mp a,_,l,t;have l:=Yu.mp l;refine{k,ua _ k _ (show k<=SetTable.runEnd m i-i by lia),λq f=>?_};rw[ua _ q _ (show q<=SetTable.runEnd m i-i by lia)];have:=t q f;exact(Vh _).mp this
  |none =>
   rw[a]at e;exists r _ _ (ZA<|Wy _ `xmR) e,n,p,o;have g:=vf `xlU _ `xem L;refine{_,by rw[m7,g];calc p,λq f=>?_};by_cases h:q<=(`xem).more
   .rw[ua _ q _ h];have:=(List.find?_range_eq_none.mp a) q (by have h:q<=SetTable.runEnd m i-i:=h;lia);exact(Vh _).mp this
   .obtain⟨b,rfl⟩:∃b,q=(`xem).more+1+b:={q-((`xem).more+1),by lia}
    rw[m7,g];calc o b `am
structure Ko(m:Nat)(ow:`xfc)(hs:Ui):Prop where
 b:Koi m ow ⇑hs
 inj:∀j j' v:Nat,ow.getD j none=some v->ow.getD j' none=some v->j=j'
 rc:∀(j v:Nat)(h:Int),ow.getD j none=some v->hs[v]?=some h->∃n,({`xbY,n}).j=j/\∀k,k<n->full ow ({`xbY,k}).j
def Ko.step(K:Ko m l f)(w:Sr m)(y:⇑f<=m)(x:Int):∃o,IQ m (Y (l,⇑f)) x=Y (o,⇑f+1)/\Ko m o (f++[x]):=by
 exists K.b.free w y x,j,e,t;exists Bg _ _ _ (ZA<|Wy _ `xmR) e,n,r,p;exists getD_some t,A,z;have g:∀i d,(l.setIfInBounds j<|Y ⇑f).getD i d=if i=j then Y ⇑f else l.getD i d:=λi d=>by
  rw[Xc,Xc,Array.getElem?_setIfInBounds];by_cases q:i=j
  .simp_all
  .rw[Zn<|Yg q,Zn q]
 have u:∀i,full l i->full _ i:=λi h=>by
  unfold full;rw[g];split
  .rfl
  .exact h
 refine{_,?_,by rw[Zr];calc K.b.set t,λa b v e1 e2=>?_,λi v h e1 e2=>?_}
 .show (SetTable.layClean.free m l _ _ _).bind _=_;rw[e];rfl
 .rw[g]at e1 e2;split at e1
  .split at e2
   .lia
   .obtain rfl:=Om e1;exact absurd (K.b.lt _ _ e2)<|Yl _
  .split at e2
   .obtain rfl:=Om e2;exact absurd (K.b.lt _ _ e1)<|Yl _
   .exact K.inj a b v e1 e2
 .rw[g]at e1;split at e1
  .obtain rfl:=Om e1;rw[Yw<|Zq _,Nat.sub_self]at e2;obtain rfl:=Om e2;subst i;exact{n,r,λk s=>u _<|p k s}
  .rw[Yv<|K.b.lt _ _ e1]at e2;exists K.rc i v h e1 e2,n,r,p;exact{n,r,λk s=>u _<|p k s}
theorem zD(d:Sr m):∀(hs a:Ui)(ow:Array `fg),Ko m ow a->⇑a+⇑hs<=m+1->∃b,hs.foldl (IQ m) (Y (ow,⇑a))=Y (b,⇑a+⇑hs)/\Ko m b (a++hs)
 |[],a,ow,h,_=>{ow,rfl,(ZO _).symm ▸ h}
 |x::hs,a,ow,h,hl=>by
  rw[Za]at hl;exists h.step d `am x,f,e,g;exists zD d hs _ _ g (by rw[Zr];show ⇑a+1+_<=_;lia),b,e2,i;rw[Zr]at e2;refine{b,?_,by simp_all};rw[XS,e,Za,<-Xa,Nat.add_right_comm];calc e2
def Ko.nil(m:Nat):Ko m (Array.replicate `xiv M) []:=by
 have g:∀j,(Array.replicate `xiv (M:`fg)).getD j _=M:=λj=>by
  rw[Xc,Array.getElem?_replicate];split<;>rfl
 refine⟨{Array.size_replicate,?_,λj v e=>?_},λj _ v e=>?_,λj v h e=>?_⟩
 .unfold live
  simp_all
 all_goals
  rw[g]at e;cases e
def yF{l:Uj}(d:l.Nodup)(g:⇑l=n)(f:∀x∈l,x<n):l.Perm {`m_,n}:=by
 refine(Vx d Wu).mpr λa=>{λh=>Yu.mpr<|f a h,λh=>Xv λz=>?_}
 have:=AU.sub_len _ _ (Zc.mpr {z,(d)}) λx b=>(Zi.mp b).elim (λe=>e ▸ h) λb=>Yu.mpr<|f x b;rw[Yt,Za]at this;lia
def Fo(H:Sr m)(d:Array Int)(hl:d.size<=m):∃t' s,SetTable.laid m O F t E d=Y (t',s)/\Tb t' (s.toList.filterMap (d.toList[·]?))/\s.toList.Perm {`m_,d.size}/\t'.mask=m/\t'.led=t/\t'.fill=d.size:=by
 exists zD H d.toList [] _ (Ko.nil m) (by rw[WG,YI,RO];lia),ow,e,K;rw[Yd]at K;have ll:=K.b.len.trans RO;have lm:∀p∈live m ow,p.1<=m/\ow.getD p.1 _=Y p.2/\p.2<d.size:=λp o=>by
  exists Wh.mp o,j,r,q;exists Zx.mp q,v,N,rfl;exact{ZA<|Yu.mp r,N,RO ▸ K.b.lt j v N}
 have pw:(`W_).Pairwise (λp q=>p.1<q.1):=List.Pairwise.filterMap _ (λa b SA x w y S=>by
  exists Zx.mp w,_,_,rfl;exists Zx.mp S,_,_,rfl;calc SA) List.pairwise_lt_range
 have rise:g8 _:=λi j u v D e1 e2=>by
  rw[YF]at e1 e2;exists Ze.mp e1,b1,c1;exists Ze.mp e2,b2,Z;exact c1 ▸ Z ▸ Yf.mp (Y6.mpr pw) i j b1 b2 D
 have A:((`W_).map (·.2)).filterMap (d.toList[·]?)=(`W_).map λp=>d.toList.getD p.2 0:=by
  have:∀{l:`xkt},(∀p∈l,p.2<d.size)->(l.map (·.2)).filterMap (d.toList[·]?)=l.map λp=>d.toList.getD p.2 0:=λ{l}=>by
   induction l with
   |nil=>calc λ_=>rfl
   |cons p l ih =>
    intro h
    simp_all
  exact this λp o=>(lm p o).2.2
 refine⟨{ mask:=m,place:=((`W_).map _).toArray,dummies:=#[],finger:=O,led:=t,moves:=F,plain:=E },((`W_).map (·.2)).toArray,?_,{H,?_,rise,λi j u v _ e1=>?_,λv _ ⟨i,z⟩=>?_,λi v q=>?_,?_,λi j h e1 e2=>?_},yF (by
  calc Y6.mpr<|(Yf.mpr λi j L r D z=>?_);have a:=lm _<|YT L;have b:=lm _<|YT r;have:=K.inj _ _ _ a.2.1<|z ▸ b.2.1;calc absurd (Yf.mp pw i j L r D)<|this ▸ Yl _) (by simp_all) (λx w=>?_),rfl,rfl,?_⟩
 .unfold SetTable.laid SetTable.layClean;rw[<-Array.foldl_toList];have e:=e;rw[WG,YI,RO]at e;rw[e];rfl
 .grind
 .cases (e1)
 .cases (z)
 .have q:=q;rw[YF]at q;exists ZW.mp (ZE q),p,o,rfl;exact(lm p o).1
 .show ⇑((`W_).map _)+0<=m
  simp_all
 .have e1:=e1;have e2:=e2;rw[YF,ZV]at e1;rw[A,ZV]at e2;exists Zx.mp e1,p,o,rfl;rw[o]at e2;obtain rfl:=Om e2;exists lm p (ZE o),_,X,h3;exists K.rc _ _ `xiu X (by simp_all),n,Q,P;refine{n,(ZF _<|jC `xdV n _).trans Q,λk U z=>?_};have f:=P k U;have r:=(yJ k<|wF `xlU `xiu).1;refine((iT rise λi j u v _ e1=>by cases (e1)).mp<|(ZF (λq:SetTable.Probe=>SetTable.slot _ _)<|jC (t':=`xlU) `xdV k _).symm.trans z).1 ?_;show ∃i:Nat,_[i]?=Y (OV _ k<|(`xlU).probeStart _).j;generalize (OV _ k _).j=a at f r;have ha:a<=m:=ZY (ZX _ _) r;have G:a<ow.size:=by rw[K.b.sz];lia
  unfold full at f;rw[Array.getD,dif_pos G]at f;cases g:ow[a]'G with
  |none =>
   simp_all
  |some v =>
   have:(a,v)∈live m ow:=Wh.mpr {a,Yu.mpr `am,by simp_all};exists Wx (ZW.mpr {_,this,(rfl)}),R,C;exact{R,by rw[YF];calc C}
 .exists ZW.mp w,p,o,rfl;exact(lm p o).2.2
 .show ⇑((`W_).map _)+0=_
  simp_all
end SX
namespace SP
open SI ST
variable{K:Type}[DecidableEq K]{A:UV}
def wc{prog:UF}{w:XAE}{knd:`b_}{E:Y2}{s:On}{k:`xgm}{b:Pv}{Q:Bool->On->Prop}(g:`jp)(q:Q B s):SB `ax A (ofAClassStatement 8 `Id) Q E s:=by
 have ty:=g.typeIs;calc OH g λo items n=>OI λi _ hd j=>?_;unfold ofAClassStatement;calc Zy<|WM ty ?_;calc Zy<|Zt ?_;refine(?_);calc Zy<|wpAny_seqItems i hd<|Zy ?_;rw[<-Vu];refine WA _ (λrest r d=>r.1=M/\d=s/\∀v∈rest,carriedByValue v=J) _ ?_ ?_ _ _ {rfl,rfl,(j.byValue)}
 .rintro v rest r d ⟨f,rfl,h⟩;have:ofAClassStatement 7 v=pure B:=by
   have:=h v Zv;cases v with
   |ref a=>simp[carriedByValue]at this
   |_=>rfl
  rw[this];exact Zy<|Zt<|Zt {rfl,rfl,λu e=>h u<|Zs _ e}
 .rintro⟨r1,r2⟩ d ⟨f,rfl,_⟩;subst f;calc Zt q
def BI{prog:UF}{w:XAE}{knd:`b_}{E:Y2}{s:On}{k:`xgm}{b:Pv}{Q:Bool->On->Prop}(g:`jp)(q:∀r,Q r s):SB `ax A (hashByValue 8 `Id) Q E s:=by
 have ty:=g.typeIs;calc OH g λo items n=>OI λi _ hd j=>?_;calc Zy<|VA ty F.slot_tuple_hash.lookup ?_;calc Zy<|wpAny_seqItems i hd<|Zy ?_;rw[<-Vu];refine WA _ (λrest r d=>d=s/\(r.1=M\/rest=[])/\∀v∈rest,carriedByValue v=J) _ ?_ ?_ _ _ {rfl,.inl L,j.byValue}
 .rintro v rest r d ⟨rfl,l,h⟩;have:∃b,hashByValue 7 v=pure b:=by
   have:=h v Zv;cases v with
   |ref a=>simp[carriedByValue]at this
   |_=>exact{_,by rfl}
  ext this b e;rw[e];calc Zy<|Zt ?_;cases b with
  |true=>calc Zt {rfl,.inl L,λu f=>h u<|Zs _ f}
  |false=>exact Zt<|Zt<|q _
 .rintro⟨r1,r2⟩ d ⟨rfl,_,_⟩;cases r1 with
  |none=>calc Zt<|q _
  |some b=>calc Zt<|q _
def GN{prog:UF}{w:XAE}{knd:`b_}{E:Y2}{s:On}{k:`xgm}{b:Pv}{Q:Bool->On->Prop}(g:`jp){l:Vq}(j:∀y∈l,∃c d,y=.ref c/\IsTupleKey knd s.heap d c)(q:Q B s):SB `ax A (searchCouldBeSeen `Id l) Q E s:=by
 calc Zy ?_;refine WA _ (λrest r a=>r.1=M/\a=s/\∀y∈rest,∃c d,y=.ref c/\IsTupleKey knd s.heap d c) _ ?_ ?_ _ _ {rfl,rfl,(j)}
 .rintro v rest r a ⟨f,rfl,i⟩;exists i v Zv,c,d,rfl,h;have fin:r.1=M/\a=a/\∀y∈rest,∃c d,y=.ref c/\IsTupleKey knd a.heap d c:={f,rfl,λu e=>i u<|Zs _ e}
  dsimp only;split
  .exact Zt {rfl,(fin.2)}
  .refine Zy<|wpAny_eqIsQuiet_tuple g ?_;calc Zy<|wpAny_eqIsQuiet_tuple h ?_;calc Zy<|wc g ?_;calc Zy<|wc h ?_;exact Zt {rfl,(fin.2)}
 .rintro⟨r1,r2⟩ a ⟨f,rfl,_⟩;subst f;calc Zt q
end SP
namespace SX
open SI ST SP
variable{K:Type}[DecidableEq K]{A:UV}
noncomputable def en(a:`b_)(x:`xjA):Int×Value:=(tupleKeyHash a x.1,.ref x.2)
abbrev ents(a:`b_)(l:`cw):Array `xfh:=(l.map<|en a).toArray
noncomputable abbrev UM(a:`b_)(l:`cw):Ui:=l.map λx=>tupleKeyHash a x.1
structure Kx{prog:UF}{w:XAE}(knd:`b_)(h0 h:XAD)(a:Pv)(l:`cw)(ep:Nat)(t:SetTable):Prop where
 at_:h.get? a=some { cls:=.type "set",dict:=none,data:=.set `fu ep t }
 tb:Tb t `xha
 nf:t.fill*5<t.mask*3
 led:t.led=!SS w
 ok:∀x∈l,IsTupleKey knd h0 x.1 x.2
 nd:(l.map (·.1)).Nodup
 kp:∀b o,h0.get? b=some o->o.cls=.type "tuple" → h.get? b=some o
section
variable{h0:XAD}
def cy{prog:UF}{w:XAE}{knd:`b_}{l:`cw}:(`fu).size=⇑l:=Zu ..
def xn{prog:UF}{w:XAE}{knd:`b_}{l:`cw}(i:Nat):`fu[i]?=l[i]?.map (en knd):=by
 simp_all
theorem Kx.fits{prog:UF}{w:XAE}{knd:`b_}{a:Pv}{l:`cw}{ep:Nat}{t:SetTable}{h:XAD}(T:`xaf):t.fits (`fu).size=J:=by
 have:=T.tb.fits
 simp_all
def Kx.up{prog:UF}{w:XAE}{knd:`b_}{a:Pv}{l:`cw}{ep:Nat}{t:SetTable}{h:XAD}{b:Pv}{k:`xgm}(T:`xaf)(x:`xit):IsTupleKey knd h k b :=
 let ⟨o,_,n,g,c,d⟩:=x;(Ow o _ n {T.kp _ _ g c,c,d})
def Kx.same{prog:UF}{w:XAE}{knd:`b_}{a:Pv}{l:`cw}{ep:Nat}{t:SetTable}{h f:XAD}(T:`xaf)(g:Heap.SameBut a h f)(b:Pv)(o:Obj)(e:h0.get? b=Y o)(d:o.cls=.type "tuple"):f.get? b=Y o:=by
 refine(g.2 b λz=>?_).trans<|T.kp b o e d;subst z;have:=T.at_;rw[T.kp _ o e d]at this;grind
theorem Kx.live{prog:UF}{w:XAE}{knd:`b_}{a:Pv}{l:`cw}{ep:Nat}{t:SetTable}{h:XAD}(T:`xaf){i j:Nat}(e:t.slot j=.live i):∃x,l[i]?=Y x/\t.place[i]?=Y j:=by
 have e:=(`xis).mp e;have b:=(`xiw).1;rw[T.tb.sz,Zu]at b;exact{_,Zo b,e}
def AY{prog:UF}{w:XAE}{knd:`b_}{E:Y2}{s:On}{a:Pv}{ep:Nat}{t:SetTable}{b:Pv}{k:`xgm}{ad:Bool}{Q:SetFound->On->Prop}(T:`g_)(hu:`xel)(hk:`jp)(q1:∀(i:Nat) x,l[i]?=Y x->x.1=k->Q (.there<|if ad=J then M else Y i) s)(q2:(∀x∈l,x.1≠k)->∀j dm,Rc t `cD j->j<=t.mask->(t.slot j=.empty/\dm=false\/t.slot j=.dummy/\dm=J)->Q (.free j dm) s){N:Nat}(hN:t.slot ({`xaJ,N}).j=.empty)(hb:N<10*SetTable.turns t.mask) :
  ∀(r fuel n:Nat)(d:`fg)(st:Option SetTable.Probe),n+r=N->r<fuel->Pas t {`qs,`cD} (λi=>∃x,l[i]?=Y x/\x.1=k) n->Dm t {`qs,`cD} n d->st.getD {`qs,`cD}=wd {`xaJ,n} d →
   SB `ax A {`xdR,ad,fuel,st} Q E s:=by
 intro r
 induction r using Nat.strongRecOn with
 |_ r ih =>
  intro fuel n d st hn hf hp hd he;obtain⟨fuel,rfl⟩:∃n,fuel=n+1:={fuel-1,by lia}
  calc Zy<|Yy T.at_ L T.fits ?_;dsimp only;rw[Zn<|T.tb.odd ▸ Zj];generalize hg:SetTable.probe t _ _ _=met;rw[he]at hg;unfold SetTable.probe at hg;refine Oo (hg ▸ KM (B:=λi=>∃x,l[i]?=Y x/\x.1=k) (λi ⟨x,e,hx⟩=>by
   show (((ents _ l)[i]?).map _).getD 0=_;rw[xn,e,<-hx];rfl) hN r n _ d `am hn hp hd) λn' d'=>Pf λp' m' g1 g2 c=>?_
  have le:∀m,({`xaJ,m}).j<=t.mask:=λm=>ZY (ZX _ _) (yJ m<|wF t _).1;rcases c with⟨e1,rfl⟩|⟨i,e1,e2,rfl⟩
  .have no:∀x∈l,x.1≠k:=λx hx z=>by
    exists Wx hx,i,hi;have h2:=Ym (by rw[T.tb.sz,Zu];exact(Ze.mp hi).1);exists T.tb.rc i _ `cD h2 (by simp_all),m0,c1,c2;have h3:=(`xis).mpr h2;obtain q|q|q:=Vo m0 n'
    .exact(p' m0 q).2 i (c1 ▸ h3) {x,hi,(z)}
    .simp_all
    .exact c2 n' q e1
   cases d' with
   |none=>calc Zt<|q2 no _ _ {n',rfl,λm hm=>(p' m hm).1} (le n')<|.inl {e1,(rfl)}
   |some jd =>
    exists m' jd L,m,c1,c2,c3;refine(show SB _ _ (if (ad&&t.slot jd != .dummy)=J then _ else _) _ _ _ from ?_);rw[Zn (by rw[c3];simp)];exact Zt<|q2 no _ _ {m,c2.symm,λq hq=>(p' q<|Y4 hq c1).1} (c2 ▸ le m)<|.inr {c3,(rfl)}
  .exists T.live e1,x,hx,OP;have g:`fu[i]?=Y (tupleKeyHash knd x.1,.ref x.2):=by
    rw[xn,hx];rfl
   have rest:SB `ax A (do
     let Y (_,y):=`fu[i]?|unsupported "internal:set-entry"
     let equal <-holding [y] (eqBool y `Id)
     let (es',_,t') <-setState a
     if ad&&equal then return .there M
     let Y same:=t'.sameMemory t.moves t.mask|unsupported "set.changed-during-lookup:is-the-new-block-at-the-old-address"
     let still <-match (if same then t'.slot ({`xaJ,n'}).j else .empty) with
      |.live i'=>match es'[i']? with
       |some (_,y')=>do pure (if <-isSame y' y then Y i' else M)
       |none=>pure M
      |_=>pure M
     match still with
     |none=>rule "set.search.anew";setSearchFrom a `Id `cD ad fuel M
     |some i'=>if equal then return .there (Y i') else setSearchFrom a `Id `cD ad fuel (Y<|wd {`xaJ,n'+1} d')) Q E s:=by
    rw[g];calc Zy<|Yb<|wpAny_eqBool_tuple hu (T.up<|T.ok x<|ZE hx) hk ?_;calc Zy<|Yy T.at_ L T.fits ?_;dsimp only;rw[show SetTable.sameMemory t _ _=Y _ from Zp<|beq_self_eq_true _];by_cases hq:ad=J/\x.1=k
    .rw[Zp (by rw[hq.1,hq.2];simp)];have:=q1 i x hx hq.2;rw[Zp hq.1]at this;exact Zt this
    rw[Zn<|by grind];dsimp only;rw[Zp L,e1];dsimp only;rw[g];calc Zy<|wpAny_isSame_ref_self<|Zy<|Zt ?_;show SB _ _ (if decide _=J then _ else _) _ _ _;by_cases hz:x.1=k
    .rw[Zp<|ZI hz];have:=q1 i x hx hz;rw[Zn λz=>hq {z,(hz)}]at this;exact Zt this
    rw[Zn<|by grind];have P7:n'≠N:=λz=>by
     simp_all
    refine ih (N-(n'+1)) `am _ _ d' _ `am `am (p'.succ (λz=>?_) λi' z ⟨x',h1,h2⟩=>?_) m'.succ L
    .simp_all
    simp_all
   by_cases hl:t.led=J
   .refine(show SB _ _ (if (!t.led)=J then _ else _) Q E s from ?_);rw[Zn (by rw[hl];calc Zj)];exact rest
   .refine(show SB _ _ (if (!t.led)=J then _ else _) Q E s from ?_);rw[Zp (by rw[WY.mpr hl];rfl)];refine Zy<|GN hk (λy hy=>?_) ?_
    .exists ZW.mp hy,e,he,rfl;rw[Array.toList_filter]at he;exists ZW.mp (X2.mp he).1,z,hz,rfl;exact SJ {rfl,T.up<|T.ok z hz}
    .exact rest
def AI{prog:UF}{w:XAE}{knd:`b_}{E:Y2}{s:On}{a:Pv}{ep:Nat}{t:SetTable}{b:Pv}{k:`xgm}{g:Bool}{Q:SetFound->On->Prop}(T:`g_)(v:`xel)(d:`jp)(o:∀(i:Nat) x,l[i]?=Y x->x.1=k->Q (.there<|if g=J then M else Y i) s)(h:(∀x∈l,x.1≠k)->∀j f,Rc t `cD j->j<=t.mask->(t.slot j=.empty/\f=B\/t.slot j=.dummy/\f=J)->Q (.free j f) s):SB `ax A {`xdR,g,100000,M} Q E s:=by
 ext T.tb.room y u r;exists vm T.tb.m _ u,n,q,p;refine AY T v d o h (p ▸ r) q n _ 0 _ _ (YI _) (by
  have:SetTable.turns t.mask<=1038:=by
   obtain e|e|e|e|e|e|e|e:=T.tb.m<;>rw[e]<;>decide
  lia) (λk d=>absurd d<|Nat.not_lt_zero _) (λj e=>by cases e) rfl
end
end SX
namespace SX
open SI ST SP
variable{K:Type}[DecidableEq K]{A:UV}
variable{h0:XAD}
def Ff{prog:UF}{w:XAE}{knd:`b_}{l:`cw}(i:Nat):SetTable.eraseAt `fu i=ents knd {`wE,i}:=by
 apply Wt.mp;rw[Ka];show (l.map _).eraseIdx i=({`wE,i}).map _;rw[YW,YW,Rn,V3,List.map_drop]
def ED(i:Nat)(x:`xjA):SetTable.insertAt `fu i (en knd x)=ents knd (l.take i++x::l.drop i):=by
 apply Wt.mp;rw[DV]
 simp_all
def Gd{prog:UF}{w:XAE}{knd:`b_}{l:`cw}(b:`xix):b.filterMap (`fu[·]?)=ents knd (b.toList.filterMap (l[·]?)):=by
 apply Wt.mp;rw[Array.toList_filterMap];show b.toList.filterMap _=(b.toList.filterMap _).map _;rw[List.map_filterMap]
 simp_all
def Tb.like{d:SetTable}(P:Tb t n)(f:t.mask=d.mask)(b:t.place=d.place)(g:t.dummies=d.dummies):Tb d n :=
 ⟨f ▸ P.m,b ▸ P.sz,b ▸ P.rp,g ▸ P.rd,b ▸ g ▸ P.dj,f ▸ b ▸ P.lp,by
  have:=P.fl;unfold SetTable.fill at this ⊢
  simp_all,λi j h e1 e2=>Rc.mono f (λj e=>by
  unfold SetTable.slot at e ⊢;rw[b,g];calc e) (P.rc i j h (b ▸ e1) e2)⟩
def Jt{l:`cw}(i:Nat):UM knd {`wE,i}=(`xha).eraseIdx i:=by
 unfold UM;rw[YW,YW,Rn,V3,List.map_drop]
def yA{prog:UF}{w:XAE}{knd:`b_}{E:Y2}{s:On}{a:Pv}{ep:Nat}{t:SetTable}{b:Pv}{k:`xgm}{Q:Bool->On->Prop}(T:`g_)(p:`xel)(r:`jp)(D:⇑l<300)(n:∀i x d C e,l[i]?=Y x->x.1=k->Heap.SameBut a s.heap d->Kx knd h0 d a {`wE,i} C e->e.fill=t.fill->Q J { s with heap:=d })(m:(∀x∈l,x.1≠k)->Q false s) :
  SB `ax A (setDiscardHashed a `Id `cD) Q E s:=by
 calc Zy<|Zy<|Yy T.at_ L T.fits ?_;dsimp only;rw[Zn (by show ¬(B&&_&&_)=J;simp)];calc Zy<|AI T p r (λi x f he=>?_) λq j F _ _ _=>Zt<|Zt<|m q;rw[Zn Zj];calc Zt<|Zy<|Yy T.at_ L T.fits ?_;exists T.tb.drop (Ym (by rw[T.tb.sz,Zu];exact(Ze.mp f).1)),z,h,v,u;have g:=Ff (knd:=knd) (l:=l) i;have sb:Heap.SameBut a _ {`zs,{`wE,i},t.drop i}:=XW ..;refine Zy<|WK T.at_ L (Zy<|wpAny_point<|Zt ?_) ?_
 .rw[g];refine n i x _ _ _ f he sb {Ys _ T.at_ L,?_,?_,u.trans T.led,λy o=>T.ok y<|List.mem_of_mem_eraseIdx o,?_,T.same sb} h
  .rw[Jt];exact z
  .rw[h,v];exact T.nf
  .exact T.nd.sublist<|(VL ..).map _
 .rw[g,cy,Xp];have:=(VL l i).length_le;lia
def HU{n:Nat}(h:n<160):Sr `k7/\n*5<`k7*3/\SetTable.sizeAbove {`xbl,n}<=1024:=by
 have:∀n,n<160->(Sr `k7/\n*5<`k7*3/\SetTable.sizeAbove {`xbl,n}<=1024):=by
  unfold Sr;decide +kernel
 calc this n h
def E8{l:`cw}(f:Sr m)(x:⇑l*5<m*3):∃b d g,SetTable.laid m r o h n ((`fu).map (·.1))=Y (b,d)/\d.filterMap (`fu[·]?)=ents knd g/\g.Perm l/\Tb b (UM knd g)/\b.mask=m/\b.led=h/\b.fill=⇑l:=by
 exists Fo f (UM _ l).toArray (by show ⇑((UM _ l))<=_;rw[Zu];lia),b,d,e,z,j,v,u,i;have he:(`fu).map (·.1)=(`xha).toArray:=by
  apply Wt.mp;rw[Uk];rw[QF];rfl
 have q:(`xha).toArray.size=⇑l:=Zu ..;rw[q]at j i;refine Ow b d _ {he ▸ e,Gd d,(j.filterMap _).trans<|VO ?_,?_,v,u,i}
 .have y:∀(m:Nat),m<=⇑l->({`m_,m}).filterMap (l[·]?)=l.take m:=λm=>by
   induction m with
   |zero=>calc λ_=>rfl
   |succ m p =>
    intro f;rw[List.range_succ,List.filterMap_append,p<|Vm f,Xy,Zo f];exact(List.take_append_getElem f)
  simp_all
 grind
def vJ{prog:UF}{w:XAE}{knd:`b_}{E:Y2}{s:On}{a:Pv}{ep:Nat}{t:SetTable}{f:Nat}{Q:Unit->On->Prop}(d:s.heap.get? a=Y { cls:=.type "set",dict:=M,data:=.set `fu ep t })(G:t.fits (`fu).size=J)(n:t.led=!SS w)(y:∀x∈l,IsTupleKey knd h0 x.1 x.2)(z:(l.map (·.1)).Nodup)(C:∀h,Heap.SameBut a s.heap h->∀b o,h0.get? b=Y o->o.cls=.type "tuple" → h.get? b=Y o)(F:Sr {`sg,f})(r:⇑l*5<{`sg,f}*3)(P:SetTable.sizeAbove f<=1024)(q:∀h m O g,Heap.SameBut a s.heap h->Kx knd h0 h a m O g->m.Perm l->g.fill=⇑l->g.mask=SetTable.sizeAbove f-1->Q () { s with heap:=h }):SB `ax A (setRelay a f) Q E s:=by
 calc Zy<|Yy d L G ?_;dsimp only;rw[Zn (by rw[Xp];lia)];exists E8 F r,g,p,m,e,e2,j,N,v,H,u;rw[show t.relaid _ f=Y _ from e];have i:(p.filterMap (`fu[·]?)).size=(`fu).size:=by
  rw[e2,cy,cy,j.length_eq]
 calc Zy<|show SB _ _ (if ((p.filterMap _).size != (ents _ l).size)=J then _ else pure _) _ _ _ from ?_;rw[Zn (by rw[i];simp)];have sb:Heap.SameBut a _ {`zs,m,g}:=XW ..;calc Zt<|WK d L ?_ (by rw[i,cy,Xp];lia);rw[e2];calc q _ _ _ g sb {Ys _ d L,N,by rw[u,v];calc r,H.trans n,λx D=>y x<|j.mem_iff.mp D,(j.map _).nodup_iff.mpr z,C _ sb} j u v
def CC{prog:UF}{w:XAE}{knd:`b_}{E:Y2}{s:On}{a:Pv}{ep:Nat}{t:SetTable}{b:Pv}{k:`xgm}{Q:Bool->On->Prop}(T:`g_)(hu:`xel)(D:`xit)(S:∀x∈l,x.1≠k)(hf:t.fill<300)(q:∀p N QK H,Heap.SameBut a s.heap p->Kx knd h0 p a N QK H->N.Perm ((k,b)::l)->H.fill<=t.fill+1->Q J { s with heap:=p }) :
  SB `ax A (setAddHashed a `Id `cD) Q E s:=by
 have U:=T.up D;have hlf:⇑l<=t.fill:=by
  have:=T.tb.sz;rw[Zu]at this;unfold SetTable.fill;lia
 calc Yb<|Zy<|Yy T.at_ L T.fits ?_;dsimp only;rw[Zn (by show ¬(B&&_&&_)=J;simp)];calc Zy<|AI T hu U (λi x C he=>absurd he<|S x<|ZE C) λ_ j Z hr hj hs=>?_;calc Zy<|Yy T.at_ L T.fits ?_;have nf:=T.nf;exists T.tb.put (λ⟨i,z⟩=>by
  have:=(`xis).mpr z;grind) hj hr `am,P,F
 have lp:(l.take _++(k,b)::l.drop `v6).Perm _ :=
  List.perm_middle.trans (VO<|by rw[Yh])
 have e1:SetTable.insertAt _ (`A0).2 (tupleKeyHash _ k,Value.ref b)=ents knd (l.take (SetTable.below _ j)++(k,b)::l.drop (SetTable.below _ j)):=ED _ (k,b);have P:Tb (`A0).1 (UM knd<|l.take `v6++(k,b)::l.drop `v6):=by
  simp_all
 generalize l.take _++(k,b)::l.drop _=l1 at lp e1 P;have f:=lp.length_eq;rw[Za]at f;have u:=λx C=>(Zi.mp<|lp.mem_iff.mp C).elim (λe=>e ▸ D)<|T.ok x;have v:=(lp.map _).nodup_iff.mpr (Zc.mpr {λz=>by
  exists ZW.mp z,x,C,e;calc S x C e,T.nd})
 have rest:∀t2:SetTable,Tb t2 (UM _ l1)->t2.mask=t.mask->t2.led=t.led->t2.fill=(`A0).1.fill->SB (PP _ w) A (do
   storeSet a (ents _ l1) t2
   if (!Z&&t2.tooFull)=J then setRelay a {`xbl,(`fu).size+1}
   return J) Q E s:=λt2 G R y h=>by
  calc Zy<|WK T.at_ L ?_ (by rw[cy,f,Xp];lia);have X:(s.heap.update a<|Obj.putSet _ t2).get? a=Y { cls:=.type _,dict:=M,data:=.set (ents knd l1) _ t2 }:=Ys _ T.at_ L;have T8:Heap.SameBut a _ {`zs,l1,t2}:=XW ..;by_cases o:(!Z&&t2.tooFull)=J
  .rw[Zp o];exists Zd.mp o,tf1,d;have d:=of_decide_eq_true d;rw[h,R]at d;exists HU (n:=⇑l+1) (by
    obtain e|e|e|e|e|e|e|e:=T.tb.m<;>rw[e]at nf d<;>lia),u1,u2,u3
   rw[cy];refine Zy (vJ X (by
   have:=G.fits
   simp_all) (y.trans T.led) u v (λp sb=>T.same<|T8.trans sb) u1 (f ▸ u2) u3 λp N QK H sb T2 O fl3 _=>Zt<|q p N _ H (T8.trans sb) T2 (O.trans lp) ?_)
   simp_all
  .rw[Zn o];refine Zy<|Zt<|Zt<|q _ _ _ _ T8 {X,G,?_,y.trans T.led,u,v,T.same T8} lp ?_
   .rw[h,F,R];rcases hs with⟨g,rfl⟩|⟨g,rfl⟩
    .have o:=λz=>o<|Zd.mpr {rfl,(z)};unfold SetTable.tooFull at o
     simp_all
    .rw[Zp<|(ku T.tb.rd j).mpr<|DK T.tb.rp T.tb.rd g];exact nf
   .rw[h,F];split<;>lia
 rw[e1];by_cases OP:(`A0).1.plain=J
 .refine(?_);rw[Zp OP];calc Zy<|BI U λr=>?_;cases r with
  |true=>calc rest _ P L L L
  |false=>exact rest _ (P.like L L L) L L L
 .refine(?_);rw[Zn OP];calc rest _ P L L L
end SX
namespace SX
open SI ST SP
theorem xj{a:UF}{w:XAE}{K:Type}[DecidableEq K]{knd:KeyKind a w K}{A:UV}{R:Result->On->Prop}{I S:Pv}{fp O:Vr}{G:Array GenState->Array GenState->Prop}{n:Nat}{P:Nat->Re->Prop}{St:Nat->On->Prop}{g:`cw}(W:{`xdi,a,O})(d:S∉fp)(hn:n=⇑g)(u:n<300)(U:A.units+1<cLine)(hx:(g.map (·.1)).Nodup){E:XAD}(hP:∀i v,P i v->∃x,v=.ref x.2/\g[i]?=Y x/\IsTupleKey knd E x.1 x.2)(Z:∀b o,E.get? b=Y o->o.cls=.type "tuple" → b∉O) :
  ∀(k i:Nat)(s:On)(l:{`xaD,K})(H:Nat)(t:SetTable),i+k=n->St i s->Kx knd E s.heap S l H t->l.Perm (g.take i)->t.fill<=i →
   (∀m N QK L,Moved (S::O) G s m->Kx knd E m.heap S N QK L->N.Perm g->L.fill<=n->R (.ok `xfQ) m) →
   codeAny (PP a w) A (.builtin "set.update.loop" {[.ref S,.ref I],[]}) R s
 |0,i,s,l,H,t,hk,st,T,q,hf,hR=>by
  have hi:i=n:=by omega
  subst hi;calc XZ F.entry_set_update_loop ?_;rw[Y9 Us];rw[hn,List.take_length]at q;calc Zy<|W.done s _ _ st λm mv=>Zt<|hR m l H t (mv.mono λb u=>Zs _ u) {mv.heap S _ (λh=>d<|W.sub _ h) T.at_,T.tb,T.nf,T.led,T.ok,T.nd,λb o D C=>mv.heap b o (Z b o D C) `xnZ} q hf
 |k+1,i,s,l,H,t,hk,st,T,q,hf,hR=>by
  calc XZ F.entry_set_update_loop ?_;rw[Y9 Us];calc Zy<|W.item i s _ _ `am st λv s1 pv QT mv=>?_;exists hP i v pv,x,rfl,p,Rx;have f:Kx knd E s1.heap S l H t:={mv.heap S _ (λh=>d<|W.sub _ h) T.at_,T.tb,T.nf,T.led,T.ok,T.nd,λb o D C=>mv.heap b o (Z b o D C) `xnZ}
  calc Zy<|Yb ?_;refine Yb (Zy (wpAny_pyHash_tuple (by calc U) (f.up Rx) (CC {f.at_,f.tb,f.nf,f.led,f.ok,f.nd,(f.kp)} (by calc U) Rx (λy hy z=>by
   exists Wx (q.mem_iff.mp hy),j,r;rw[V5]at r;split at r
   .have a1:(g.map (·.1))[j]?=Y x.1:=by rw[ZV,r,<-z];rfl
    have a2:(g.map (·.1))[i]?=Y x.1:=by rw[ZV,p];rfl
    have:=(List.getElem?_inj (by rw[Zu];exact(Ze.mp r).1) hx).mp<|a1.trans a2.symm;lia
   .cases r) `am λh' N QK L sb T2 X hf2=>?_)))
  refine Zt {We Us _,xj W d hn u U hx hP Z k `I_ _ N QK L `am (W.frame _ s1 _ _ QT (ZX _ _) λc hc o e=>?_) T2 (by
   rw[List.take_add_one,p];calc X.trans<|(q.cons _).trans (List.perm_append_singleton _ _).symm) `am λs2 l2 ep2 t2 Q T3=>?_}
  .rw[sb.2 c λe'=>d<|e' ▸ hc];exact e
  .refine hR s2 l2 ep2 t2 (Moved.trans W.gtrans (Moved.then_heap (mv.mono λb u=>Zs _ u) (ZX _ _) λc o hc e=>?_) Q) T3;rw[sb.2 c λe'=>hc<|e' ▸ Zv];calc e
def wu{i v:Nat}(e:(#[]:Array Nat)[i]?=Y v):False:=by cases e
def DQ:Tb (.fresh f m a) [] :=
 {.inl L,rfl,λ_ _ _ _ _ e=>(`xmP).elim,λ_ _ _ _ _ e=>(`xmP).elim,λ_ h=>h.elim λ_ e=>(`xmP).elim,λ_ _ e=>(`xmP).elim,Pr _,λ_ _ _ e=>(`xmP).elim}
theorem Kx.bare{a:UF}{w:XAE}{K:Type}[DecidableEq K]{knd:KeyKind a w K}(d h:XAD)(e:∀b o,d.get? b=Y o->h.get? b=Y o):Kx knd d (h.push<|ST.bare w) h.objs.size [] 0 (.fresh 0 0<|!SS w) :=
 {ZZ _ L,DQ,(show 0*5<7*3 by decide),rfl,(λx f=>nomatch f),Yi,λb o g _=>Zm _<|e b o g}
def Dn{K:Type}[DecidableEq K]{knd:KeyKind g w K}{A:UV}{s:On}{j:`cw}(hh:`F_)(hu:A.units+9<cLine)(hl:s.heap.IsList l m)(hv:∀(i:Nat)(v:Re),m[i]?=Y v->∃x,v=.ref x.2/\j[i]?=Y x/\IsTupleKey knd s.heap x.1 x.2)(N:m.size=⇑j)(hx:(j.map (·.1)).Nodup)(hb:⇑j<300)(h:∀(p:XAD)(S:Nat) l ep t,Kx knd s.heap p s.heap.objs.size l ep t->l.Perm j->t.fill<=⇑j->(∀b o,s.heap.get? b=Y o->p.get? b=Y o)->Q `eH { s with heap:=p,toks:=S }) :
  SB (PP g w) A (call (.type "set") [.ref l]) Q E s:=by
 have f:=F.called_set;ext f.mro c tl mro;have made:=f.made;have sub:=f.sub;calc wpAny_call<|codeAny_of_tree<|Zt<|{Code.quiet_builtin _<|by decide +kernel,XZ F.entry_type_call ?_};rw[Around.under_plain (weight_type_call_type "set" [.ref l] []) L]
 repeat any_goals first|assumption|wp_step
 refine WJ (GB `z_ (E:=E) (Q:=λv s1=>v=.ref s.heap.objs.size/\s1={ s with heap:=s.heap.push `xhB }) {rfl,(rfl)}) λr s1 d=>?_
 match r,d with
 |.error e,d=>calc d
 |.ok `xhA,⟨e1,e2⟩ =>
  clear d;subst e1 e2;have T0:=Kx.bare (w:=w) (knd:=knd) s.heap s.heap λ_ _ e=>e;have il:=f.init.lookup;have ib:=f.init.bind `eH
  repeat any_goals first|assumption|wp_step
  refine WJ (codeAny_call_builtin (R:=wants (λv H=>v=.none/\Q `eH H) E) f.init.plain F.entry_set_init<|check_set_init_1 ({_,T0.at_,(rfl)}) ?_) λr2 H a=>?_
  .refine ai λP_ k_=>?_;ext hl ol n D nl C;cases ol;subst D C;calc k_ ?_;have P:=Zb n;have lst:(`xkn).IsList l m:={_,(Zm `xhB n),rfl,nl,rfl}
   have n1:=F.sub_list_set;have n2:=F.sub_list_frozenset;unfold Builtin.«set.__init__» noKeywords Builtin.Frozenset.updateFrom;generalize eP:pyIter=itr
   wp_walk
   subst eP;calc wpAny_pyIter_list lst<|Zy<|wpAny_runValue ?_;refine xj (knd:=knd) ((Walks.list (by simp[hh]) _ l (by rw[Xe];calc Zg<|Rz P) m).toS) (by
    rw[Xe];simp only[Zi,XH,or_false,not_or];exact{Zg<|Yk _,YM P}) N `am `am hx hv (λb o e _ z=>by
    have:=Zb e;rw[ZK.mp z,Xe]at this;calc Yl _<|Xk this) m.size 0 _ [] 0 _ (by calc YI _) ⟨{_,ZZ _ L,rfl,rfl},lst.push _⟩ ({Zm _ T0.at_,T0.tb,T0.nf,T0.led,T0.ok,T0.nd,λb o h1 a=>Zm _<|T0.kp b o h1 a}) (YS _) (Zq _) λX Z QK U mv T hp hf=>?_
   ext X p g' d' u y;have e1:g'=s.gens:=mv.gens;have e2:=mv.drawn;have e3:y=s.os:=mv.os;subst e1 e2 e3;calc Zt<|Zt {rfl,h p u Z QK U T hp (N ▸ hf) λb o e=>mv.heap b o (λG=>?_)<|Zm _<|Zm _ e};have O:=Zb e;rw[Xe]at G;simp only[Zi,XH,or_false]at G;obtain q|q:=G
   .exact Zg O q
   .exact Zg (Rz O) q
  .match r2,a with
   |.error e,a=>calc a
   |.ok `xhA,⟨e1,e2⟩ =>
    subst e1
    repeat any_goals first|assumption|wp_step
   |.ok .next,a=>calc a.elim
   |.ok .brk,a=>calc a.elim
   |.ok .cont,a=>calc a.elim
 |.ok .next,d=>calc d.elim
 |.ok .brk,d=>calc d.elim
 |.ok .cont,d=>calc d.elim
variable{K:Type}[DecidableEq K]{A:UV}
variable{h0:XAD}
def yH(Q:Bool->On->Prop)(q:Q (SS w) s):SB `ax A setsByText Q E s:=Zy<|X1 `xne
def EF{prog:UF}{w:XAE}{knd:`b_}{E:Y2}{s:On}{a:Pv}{ep:Nat}{t:SetTable}{o:Obj}{d:`Wo}{b:Pv}{j:Int}{k:`xgm}{rest:`xnf}{e:Vr}{Q:Bool->On->Prop}(f:{`s_,a,o})(i:o.data=.set d ep t)(h:t.fits d.size=J)(he:d.toList=(j,.ref b)::rest)(g:`jp)(q:Q B s):SB `ax A (setsQuiet<|a::e) Q E s:=by
 calc Zy ?_;rw[List.forIn_cons];calc Zy<|Zy<|wpAny_setEntries_of f i h<|Zy ?_;rw[<-Vu,he,List.forIn_cons];calc Zy<|Zy<|VA g.typeIs F.slot_tuple_eq.lookup ?_;calc Zt<|Zt<|Zt<|Zt `xne
theorem qQ{α β:Type}[DecidableEq α]{f:α->β}:∀{r:`xfK}{l:`ew},r.Perm `C_->∃b:List α,b.Perm l/\r=b.map f
 |[],l,h=>by
  simp_all
 |y::r,l,h=>by
  exists ZW.mp (h.mem_iff.mp Zv),x,d,rfl;have p:=List.perm_cons_erase d;exists qQ (h.trans<|p.map f).cons_inv,b,e,rfl;exact{_,(e.cons x).trans p.symm,rfl}
def G4{prog:UF}{w:XAE}{knd:`b_}{E:Y2}{s:On}{a:Pv}{l:`cw}{ep:Nat}{t:SetTable}{i:Vr}{f:`xav}{Q:Array `xfh->On->Prop}(T:`g_)(q:∀(r:{`xaD,K}) d,r.Perm l->Q (ents knd r) { s with drawn:=d }):SB `ax A (setWalkUnseen a i f) Q E s:=by
 have e:∀(r:Array _) d,r.toList.Perm (l.map _)->Q r { s with drawn:=d }:=λr d p=>by
  exists qQ p,h,b,j;have:=Wt.mp j;exact this ▸ q h d b
 have wk:SB `ax A (setWalk a) Q E s:=by
  calc Zy<|Yy T.at_ L T.fits<|Zy<|yH _ ?_;by_cases hb:SS w=J
  .rw[Zp hb];calc Zy<|X1<|Zt ?_;exact e _ _<|kF _ _
  .rw[Zn hb];refine(show SB _ _ (if (!t.plain&&decide _)=J then _ else _) _ _ _ from ?_);by_cases g:(!t.plain&&decide ((`fu).size > 1))=J
   .rw[Zp g];exact Zy<|AE _ _ _ _ (RO).symm λm d p=>Zt<|e _ d p
   .rw[Zn g];calc Zy<|show SB _ _ (if (!t.led&&decide _)=J then _ else _) _ _ _ from ?_;rw[Zn (by rw[T.led,WY.mpr hb];calc Zj)];exact Zt<|Zt<|e _ _<|YS _
 calc Zy<|Yy T.at_ L T.fits<|Zy<|yH _ ?_;by_cases b:(SS w||(t.led&&t.plain)||decide ((`fu).size<=1))=J
 .rw[Zp b];exact wk
 .rw[Zn b];cases l with
  |nil=>calc absurd (by simp_all) b
  |cons x l =>
   calc Zy<|EF T.at_ L T.fits (rfl) (T.up<|T.ok x Zv) ?_;rw[Zp `xdV];calc wk
def En(h:n<160)(b:5<=n):Sr {`sg,n*2}/\n*5<{`sg,n*2}*3/\SetTable.sizeAbove (n*2)<=1024:=by
 have:∀n,n<160->5<=n->(Sr {`sg,n*2}/\n*5<{`sg,n*2}*3/\SetTable.sizeAbove (n*2)<=1024):=by
  unfold Sr;decide +kernel
 calc this n h b
def CQ:isSubtype (.type "set") (.type "set")=pure J:=by
 rw[Vf];kernel_rfl
def kN{s:On}(b:s.TypeIs v "set")(q:Q J s):SB `ax A (Builtin.Frozenset.isAnySet v) Q E s :=
 Zy (WB b CQ `xne)
def FP{prog:UF}{w:XAE}{knd:`b_}{E:Y2}{s:On}{a:Pv}{ep:Nat}{n:Nat}{Q:Unit->On->Prop}{f m:Nat}{g:Bool}(T:Kx knd h0 s.heap a [] ep `xnY)(v:n<160)(q:∀b i d,Heap.SameBut a s.heap b->Kx knd h0 b a [] i d->d.fill=0->n*5<d.mask*3->Q () { s with heap:=b }):SB `ax A (setRoomFor a n) Q E s:=by
 calc Zy<|Yy T.at_ L T.fits ?_;have e:SetTable.roomFor `xnY n=if (0+n)*5 ≥ 7*3 then Y ((0+n)*2) else M:=rfl
 rw[e];by_cases h:(0+n)*5 ≥ 7*3
 .rw[Zp h];exists En v `am,r,o,j;rw[YI];exact vJ T.at_ T.fits T.led T.ok T.nd (λb sb=>T.same sb) r (by rw[WG];lia) j λb y i d sb x p f2 u=>q b _ d sb (p.eq_nil ▸ x) f2<|u ▸ o
 .rw[Zn h];calc Zt<|q _ _ _ (Heap.SameBut.refl a _) T L (show n*5<7*3 by lia)
def Ft{prog:UF}{w:XAE}{knd:`b_}{E:Y2}{s:On}{a:Pv}{l:`cw}{ep:Nat}{t:SetTable}{Q:Y2}{P:String}(T:`g_)(S:⇑l<160)(q:∀u G Z z,(∀c o,s.heap.get? c=Y o->u.get? c=Y o)->Kx knd s.heap u s.heap.objs.size G Z z->G.Perm l->z.fill=⇑l->Q `eH { s with heap:=u }) :
  SB `ax A (Builtin.Frozenset.newFrom P (.type "set") `bz) Q E s:=by
 have OT:=Zb T.at_;have T0:=Kx.bare (knd:=knd) _ s.heap λ_ _ e=>e;have v:∀c o,s.heap.get? c=Y o->(`xkn).get? c=Y o:=λc o e=>Zm _ e;have f:=v _ _ T.at_;calc Zy<|Zy<|yH _<|Xb ?_;calc Zy<|Zt<|Zy<|Yb ?_;calc Zy<|kN ({_,f,(rfl)}) ?_;rw[Zp `xdV];calc Zy<|Zt<|Zy<|VU f L T.fits ?_;refine(show SB _ _ (if (s.heap.objs.size==a)=J then _ else _) _ _ _ from ?_);rw[Zn (by rw[beq_iff_eq];exact(YM OT))];calc Zy<|Yy f L T.fits ?_;dsimp only;by_cases H:(`fu).isEmpty=J
 .rw[Zp H];have:l=[]:=by
   simp_all
  subst this;exact Zt<|Zt<|q _ _ _ _ v T0 (YS _) L
 .rw[Zn H];rw[cy];calc Zy<|FP T0 S λU X y sb1 d f1 D=>?_;have j:∀c o,s.heap.get? c=Y o->U.get? c=Y o:=λc o e=>by
   rw[sb1.2 c `xgy];exact v c o e
  calc Zy<|Yy d.at_ L d.fits ?_;have b:(y.led&&t.led)=!SS w:=by rw[d.led,T.led,Bool.and_self]
  have g:=λx n=>T.up<|T.ok x n;have F:⇑l<=sizeLine:=by rw[Xp];lia
  unfold SetTable.road;rw[Zn (by rw[f1];simp)];by_cases r:(y.mask==t.mask&&t.dummies.isEmpty)=J
  .rw[Zp r];exists Zd.mp r,R,p;refine WK d.at_ L (Zt<|q _ l _ _ (λc o e=>?_) {Ys _ d.at_ L,T.tb.like `xdV `xdV `xdV,T.nf,b,g,T.nd,λc o e _=>?_} (YS _) ?_) (by rw[cy];calc F)
   .exact(Yp _ _ `xir).trans `xiq
   .exact(Yp _ _ `xir).trans `xiq
   .show t.place.size+t.dummies.size=_;rw[T.tb.sz,Zu,Array.isEmpty_iff.mp p];rfl
  .rw[Zn r];exists E8 d.tb.m D,t2,C,O,e,e2,i,P1,P2,P3,N;rw[e];have h:(C.filterMap (`fu[·]?)).size=(`fu).size:=by
    rw[e2,cy,cy,i.length_eq]
   calc Zy<|show SB _ _ (if ((C.filterMap _).size != (ents _ l).size)=J then _ else pure _) _ _ _ from ?_;rw[Zn (by rw[h];simp)];calc Zt<|WK d.at_ L (Zt ?_) (by rw[h,cy];calc F);rw[e2];refine q _ O _ _ (λc o e=>?_) {Ys _ d.at_ L,P1,by rw[N,P2];calc D,P3.trans b,λx n=>g x {`xcd,n},(i.map _).nodup_iff.mpr T.nd,λc o e _=>?_} i N
   .exact(Yp _ _ `xir).trans `xiq
   .exact(Yp _ _ `xir).trans `xiq
end SX
namespace SX
open SI ST SP
variable{K:Type}[DecidableEq K]{A:UV}
variable{h0:XAD}
def Ks{l:`cw}(e:(l.map (·.1)).Nodup)(d:l[i]?=Y x):y∈l.eraseIdx i↔y∈l/\y.1≠x.1:=by
 exists Ze.mp d,h,rfl;have p:=pC l h;grind
noncomputable def Sy(l R P:`cw):Prop:=∀y,y∈l↔(y∈R/\∀z∈P,z.1≠y.1)\/(y∈P/\∀z∈R,z.1≠y.1)
def Iv(e:`b_)(n:XAD)(a:Pv)(l r:`cw)(t:SetTable)(s:On)(d:Drawn)(rest:`xnf)(j:On):Prop:=∃(P h i:{`xaD,K})(o:Nat)(g:SetTable)(f:XAD),rest=h.map (en e)/\P++h=r/\j={ s with heap:=f,drawn:=d }/\Heap.SameBut a s.heap f/\Kx e n f a i o g/\g.fill<=t.fill+⇑P/\Sy i l P
def Hr{prog:UF}{w:XAE}{knd:`b_}{E:Y2}{s:On}{a b:Pv}{l m:`cw}{ep eb:Nat}{t u:SetTable}{id:String}{Q:Unit->On->Prop}(T:`g_)(C:`xgH)(SA:a≠b)(hu:`xel)(R:t.fill+⇑m<300)(q:∀F d O QK G,Heap.SameBut a s.heap F->Kx knd h0 F a O QK G->Sy O l m->Q () { s with heap:=F,drawn:=d }) :
  SB `ax A (Builtin.Frozenset.symmetricDifferenceUpdate id a `Id) Q E s:=by
 refine(show SB _ _ (if (Value.ref b==Value.ref a)=J then _ else _) _ _ _ from ?_);rw[Zn<|by grind];have ty:s.TypeIs `Id _:={_,C.at_,(rfl)}
 calc Zy<|WM ty ?_;rw[Zn `ao];calc Zy<|kN ty ?_;rw[Zp `xdV];calc Zy<|Zt<|Zy<|Zt<|Zy<|VU C.at_ L C.fits<|Yb<|Zy<|G4 C λr d S=>?_;calc Zy ?_;rw[<-Vu];refine WA _ (λrest (_) D=>Iv _ h0 a l r t s d rest D) _ ?_ ?_ _ _<|SV [] r l ep t _ ⟨rfl,rfl,rfl,Heap.SameBut.refl a _,T,Zq _,λy=>{λh=>.inl {h,λz R=>nomatch R},λh=>h.elim (·.1) λh=>nomatch h.1}⟩
 .rintro x rest _ D ⟨P,v,O,QK,G,F,e1,e2,rfl,sb,j,fl,H⟩;cases v with
  |nil=>cases e1
  |cons y v =>
   exists WN e1,rfl,rfl;have hk:=C.ok y<|S.mem_iff.mp<|e2 ▸ ZD _ Zv;have X:=((S.map _).nodup_iff.mpr C.nd)
   rw[<-e2,Rn,Zh]at X;have yp:=λz hz' e=>(ZG.mp X).2.2 _ {`xdN,z,hz',rfl} _ Zv e;have pl:⇑P+(⇑v+1)=⇑m:=by
    rw[<-S.length_eq,<-e2,Zr];rfl
   have lf:⇑O<=G.fill:=by
    have:=j.tb.sz;rw[Zu]at this;unfold SetTable.fill;lia
   have fin:∀(g:XAD) N o t2,Heap.SameBut a F g->Kx _ h0 g a N _ t2->t2.fill<=G.fill+1->Sy N l _->SB `ax A (Builtin.Frozenset.unchanged id b eb) (λ_ D=>Iv _ h0 a l r t s d (v.map<|en knd) D) E { s with heap:=g,drawn:=d }:=λg N o t2 T8 Z f2 sy2=>by
    calc Zy<|VU (((sb.trans T8).2 b<|Yg SA).trans C.at_) L C.fits ?_;rw[Zn<|by simp];calc Zt<|SV (P++[y]) v N o t2 g {rfl,by simp_all,rfl,sb.trans T8,Z,?_,sy2};rw[Zr];show _<=_+(_+1);lia
   refine Zy<|Yb<|Zy<|yA {j.at_,j.tb,j.nf,j.led,j.ok,j.nd,(j.kp)} hu (j.up hk) `am (λi x g o t2 hx he T8 Z f2=>?_) λhn=>?_
   .rw[Zn `ao];calc Zt<|Zy<|YC (fin g _ _ t2 T8 Z `am λz=>?_) (λ_ D iv=>Zt iv) λ_ _ e=>e;rw[Ks j.nd hx,H z,he];have U:∃q∈l,q.1=y.1:=by
     rcases (H x).mp (ZE hx) with⟨f,_⟩|⟨f,_⟩
     .exact{x,f,(he)}
     .exact absurd he<|yp x f
    constructor
    .rintro⟨⟨f,g⟩|⟨f,g⟩,P7⟩
     .exact .inl {f,λp n=>(Zf.mp n).elim (g p) λe=>ZK.mp e ▸ Yg P7}
     .exact .inr {YQ _ f,g}
    .rintro (⟨f,g⟩|⟨f,g⟩)
     .exact{.inl {f,λp n=>g p<|YQ _ n},λe=>g y (ZD _<|ZK.mpr L) e.symm}
     .rcases Zf.mp f with f|f
      .exact{.inr {f,(g)},yp z f}
      .ext U q q1 q2;exact absurd (ZK.mp f ▸ q2)<|g q q1
   .rw[Zp `xdV];calc Zy<|CC {j.at_,j.tb,j.nf,j.led,j.ok,j.nd,(j.kp)} hu hk hn `am λg N o t2 T8 Z p2 f2=>Zt ?_;calc Zy<|YC (fin g N _ t2 T8 Z f2 λz=>?_) (λ_ D iv=>Zt iv) λ_ _ e=>e;rw[p2.mem_iff,Zi,H z];have U:∀q∈l,q.1≠y.1:=λq U e=>hn q ((H q).mpr<|.inl {U,λp n=>e ▸ yp p n}) e;constructor
    .rintro (rfl|⟨f,g⟩|⟨f,g⟩)
     .exact .inr {ZD _<|ZK.mpr L,U}
     .exact .inl {f,λp n=>(Zf.mp n).elim (g p) λe=>ZK.mp e ▸ Yg (U z f)}
     .exact .inr {YQ _ f,g}
    .rintro (⟨f,g⟩|⟨f,g⟩)
     .exact .inr<|.inl {f,λp n=>g p<|YQ _ n}
     .rcases Zf.mp f with f|f
      .exact .inr<|.inr {f,(g)}
      .exact .inl<|ZK.mp f
 .rintro _ D ⟨P,v,O,QK,G,F,e1,e2,rfl,sb,j,fl,H⟩;cases v with
  |cons y v=>cases e1
  |nil =>
   rw[ZO]at e2;subst e2;calc Zt<|q F d O _ G sb j λy=>?_;rw[H y];calc or_congr (and_congr_right λ_=>{λh z R=>h z<|S.mem_iff.mpr R,λh z R=>h z<|S.mem_iff.mp R})<|and_congr_left λ_=>S.mem_iff
def J2:entryFor table "set.__xor__" = Y Builtin.«frozenset.__xor__» := entryFor_alias (id' := "frozenset.__xor__") (by kernel_rfl) L (by decide +kernel) (by kernel_rfl)
def KR{prog:UF}{w:XAE}{knd:`b_}{E:Y2}{s:On}{a b:Pv}{l m:`cw}{ep eb:Nat}{t u:SetTable}{Q:Y2}(T:`g_)(r:`xgH)(hu:A.units+9<cLine)(hl:⇑l<160)(H:⇑m<160)(g:⇑l+⇑m<300)(q:∀j d p U v,(∀c o,s.heap.get? c=Y o->j.get? c=Y o)->Kx knd s.heap j s.heap.objs.size p U v->Sy p m l->Q `eH { s with heap:=j,drawn:=d }) :
  SB `ax A (binaryOp .BitXor `bz `Id) Q E s:=by
 have f:s.TypeIs `bz _:={_,T.at_,(rfl)}
 have tb:s.TypeIs `Id _:={_,r.at_,(rfl)}
 calc wpAny_binaryOp_same f tb F.fills_set_xor F.slot_set_xor<|Xl F.slot_set_xor f J2 ?_<|F.args_set_xor_2 _ _;calc Zy<|Zy<|Zt<|Zt ?_;calc Zy<|Zy<|kN f ?_;calc kN tb ?_;rw[Zn `ao];calc Zy<|Zt<|Zy ?_;calc Zy<|Zy<|WB f CQ ?_;calc Zt ?_;rw[Zp L];calc Zy<|Ft r H λh1 Z P X n S i f1=>?_;calc Zy<|Zt<|Zy<|Yb<|Hr S {n _ _ T.at_,T.tb,T.nf,T.led,λx G=>T.up<|T.ok x G,T.nd,λc o e _=>n c o e} (YM<|Zb T.at_) `am `am λN d D O t2 sb R C=>?_;calc Zt<|Zt {_,rfl,by simp,q N d D _ t2 (λc o e=>?_) R λy=>(C y).trans<|or_congr (and_congr_left λ_=>i.mem_iff)<|and_congr_right λ_=>⟨λh z g=>h z<|i.mem_iff.mpr g,λh z g=>h z {`xcd,g}⟩};exact(sb.2 c `xgy).trans<|n c o e
end SX
namespace SX
open TS ST SI
variable{A:UV}
structure Tg(w:XAE)(h:XAD)(a:Pv)(es:`Wo)(ep:Nat)(t:SetTable):Prop where
 at_:h.get? a=some { cls:=.type "set",dict:=none,data:=.set es ep t }
 fit:t.fits es.size=true
 led:t.led=!SS w
 ris:g8 t.place
 Te:es.size<scanBound
def D6{s:On}(T:Tg w s.heap a l P t)(h:∀(I:Pv)(n:XAD) d,(∀b o,s.heap.get? b=Y o->n.get? b=Y o)->Ready prog w s.heap.objs.size a l I { s with heap:=n,drawn:=d }->I<n.objs.size->Q (.ref I) { s with heap:=n,drawn:=d }) :
  SB `ax A {`xoN,`bz} Q E s:=by
 have z:=T.at_;have OT:=Zb z;have ty:s.TypeIs `bz _:={_,z,(rfl)}
 calc VT ty F.slot_set_iter<|Xl F.slot_set_iter ty Hw ?_<|F.args_set_iter_1 _;calc Zy<|Zt ?_;calc Zy<|Zy<|Zy<|Yy z L T.fit<|Zt<|Zt ?_;have sb:∀(Q:Bool->On->Prop)(E:Y2),Q _ s->SB `ax A.in1 setsByText Q E s:=λQ E q=>Zy<|X1 `xne;calc Zy<|Zy<|Yy z L T.fit<|Zy<|sb _ _<|Zt ?_;refine(show SB _ _ (if (!SS w&&(!t.plain&&decide _))=J then _ else _) _ _ _ from ?_);have fin:∀(first:Re)(m:XAD)(d:_),(∀b o,s.heap.get? b=Y o->m.get? b=Y o)->Ready _ w _ a l _ { s with heap:=m.push<|itO _ 0 a _ P,drawn:=d } →
   SB `ax A.in1 (do
    let e <-setEpoch a
    let v <-newFields _ [first,rawInt 0,Value.ref a,rawInt l.size,rawInt e]
    ret v) (λf s'=>∃v,f=.done `xhA/\∃T' r,s'.TypeIs v T'/\typeLookup (Value.type T') _=pure (Y r)/\Q v s') E { s with heap:=m,drawn:=d }:=λfirst m d kp rd=>by
  calc Zy<|VU (kp _ _ z) L T.fit<|Zy<|Xb<|Zt {_,rfl,_,_,{_,ZZ _ L,rfl},o7.lookup,?_};exact h m.objs.size _ d (λb o e=>Zm _<|kp b o e) rd (by simp_all)
 have P7:=Zg OT;cases hb:SS w with
 |true =>
  rw[Zn<|by simp];refine Zy (Zt (fin _ _ _ (λb o e=>e) ⟨({`SO,P,l}).toList.map _,_,(kF _ _).map _,Zq _,Zq _,_,λU D =>
   nc (λ_=>rawInt 0) _ (by simp) (by simp) P7 (λ_ _ _ _=>trivial) ?step ?stop,{Zm _ z,ZZ _ L,trivial}⟩))
  case step =>
   intro i s1 R S C m h2 _ q;have hl:({`SO,P,l}).size=l.size:=by rw[<-RO,(kF _ l).length_eq,RO]
   refine kJ D m T.fit h2 {`xdk,hb,m} (λx nx e n sb g=>?_) λe=>?_
   .rw[Ym `am]at e;cases e;exact q _ n (by simp_all) sb g
   simp_all
  case stop =>
   intro s1 R S m h2 _ q;calc kJ D m T.fit h2 {`xdk,hb,m} (λx nx e n sb g=>?_) λe=>q;rw[Array.getElem?_eq_none<|by calc XA<|by rw[<-RO,(kF _ l).length_eq,RO]]at e;cases e
 |false =>
  by_cases m:t.plain=B/\l.size > 1
  .rw[Zp<|by simp[m.1,m.2]];refine Zy<|AE _ _ _ _ (by simp) λq d p=>Zy<|Xb (fin _ _ d (λb o e=>Zm _ e) ?_) ?_
   .have Z:⇑q=l.size:=by rw[p.length_eq,Yt]
    have H:∀j∈q,j<l.size:=λj hj=>Yu.mp<|p.mem_iff.mp hj;refine⟨q.map λj=>((l[j]?).map (·.2)).getD .none,_,?_,by simp_all,Zq _,_,λU D =>
     nc (λ_=>.ref _) _ (by simp) (by simp)
      (by rw[Xe];calc Zg<|Rz OT) (λx y e k=>k _ (by simp) (by simp_all) _ e) ?step ?stop,{Zm _<|Zm _ z,ZZ _ L,Zm _<|ZZ _ L}⟩
    case step =>
     intro i s1 R S C u G g3 X;refine rh D u T.fit G g3 L (λj x e1 e2 n sb g=>X _ n ?_ sb g) `xjz λe=>?_
     .simp_all
     simp_all
    case stop =>
     intro s1 R S u G g3 X;refine rh D u T.fit G g3 L (λj x e1 e2 n sb g=>?_) `xjz λe=>X
     simp_all
    refine(p.map _).trans<|VO ?_;apply WZ;intro i;rw[ZV,ZV];by_cases C:i<l.size
    .simp_all
    simp_all
   .show _<=Pi;have Z:⇑q=l.size:=by rw[p.length_eq,Yt]
    have:=fits_of_scanBound T.Te;simp;lia
  .have N:(!t.plain&&decide (l.size > 1))=B:=by
    simp_all
   rw[Zn (by rw[N];simp)];have hps:t.place.size=l.size:=by
    have:=T.fit;unfold SetTable.fits at this
    simp_all
   have hbs:∀i,i<=l.size->SetTable.below _ (slt t i)=i:=λi C=>by
    cases i with
    |zero=>calc yd T.ris
    |succ i =>
     calc yO T.ris ?_;rw[Ym `bi];simp[Array.getD,show i<t.place.size by omega]
   have O:∀(i:Nat)(s1:On),i<=l.size->s1.heap.get? a=Y _->∀(U:UV)(Q:Option _->On->Prop)(E:Y2),Q _ s1 →
     SB `ax U (setNext a _ i P) Q E s1:=λi s1 C g U Q E p=>AV hb g T.fit (by rw[T.led,hb];rfl) N Q E (by rw[hbs i C];calc p)
   refine Zy (Zt (fin _ _ _ (λb o e=>e) (SJ ⟨YS _,Zq _,Zq _,_,λU D =>
    nc (λi=>.int ((slt t i:Nat):Int) 0) _ (by simp) (by simp) P7 (λ_ _ _ _=>trivial) ?step ?stop,{Zm _ z,ZZ _ L,trivial}⟩)))
   case step =>
    intro i s1 R S C u G _ q;have ep1:t.place[i]?=Y (t.place.getD i 0):=by
     simp_all
    refine kJ D u T.fit G (O i s1 (ZM C) u _) (λx nx e n sb g=>?_) λe=>?_
    .rw[Ym C,ep1]at e;cases e;exact q _ n (by simp_all) sb g
    simp_all
   case stop =>
    intro s1 R S u G _ q;refine kJ D u T.fit G (O _ s1 (Zq _) u _) (λx nx e n sb g=>?_) λe=>q
    simp_all
def Gv{s:On}(hh:`F_)(T:Tg w s.heap a y U t)(h:∀(Q:XAD) d (tk:Nat) (H:Vq),(∀b o,s.heap.get? b=Y o->Q.get? b=Y o)->H.Perm (y.toList.map (·.2))->R H { s with heap:=Q,drawn:=d,toks:=tk }) :
  SB `ax A (collect `bz) R E s:=by
 have O:=T.at_;have OT:=Zb O;calc Zy<|wpAny_runValue<|XZ entry_proto_collect' ?_;rw[Y9 PySem.F.plain_proto_collect];calc Zy<|Xb<|Zt {We PySem.F.plain_list_iadd _,XZ entry_list_iadd' ?_};rw[Y9 PySem.F.plain_list_iadd];refine(show SB _ _ (Builtin.List.listExtendWith _ _ _) _ _ _ from ?_);have G:Tg w (s.heap.push { cls:=.type "list",data:=.seq ([]).toArray }) a y U t:={Zm _ O,T.fit,T.led,T.ris,T.Te}
 calc Zy<|WM ({_,G.at_,(rfl)}) ?_;rw[Zn (by
  have:Builtin.List.listSameRef `eH `bz=B:=by simp[Builtin.List.listSameRef];exact YM OT
  rw[this];decide)]
 calc Zy<|D6 G λI h1 d kp rd hI=>?_;calc ai λP_ N=>?_;calc Oo rd λord p=>OI λf D C=>RB λSt=>Pc λW st=>?_;calc N ?_;calc Zy<|Yb<|Ck ({_,kp _ _ G.at_,rfl}) ?_;have m:=Zk (by rw[Xe];calc Yk _) D;have off:s.heap.objs.size∉[I,a,p]:=by
  simp only[Zi,XH,or_false,not_or];exact{Zg m,YM OT,Zg<|Zk (by simp_all) C}
 have Z:=W A.in1 hh;have loop:∀(g:XAD)(c:Nat),(∀b o,b≠s.heap.objs.size->h1.get? b=Y o->g.get? b=Y o)->g.get? _=Y _ →
   codeAny _ A _ (λr l=>∃acc z,r=.ok (.ret `eH)/\l.heap.get? _=Y { cls:=.type _,data:=.seq acc z }/\R acc.toList l) { s with heap:=g,drawn:=d }:=λg c u j=>by
  refine codeAny_extend_loopS Z (fits_of_scanBound T.Te) _ off _ _ 0 _ _ c L (Pr _) (Z.frame 0 _ g _ st (Zq _) λb hb o e=>u b o (λq=>off<|q ▸ hb) e) j (ItemsOf.nil _) λl acc z mv x P=>{_,z,rfl,x,?_}
  ext l h3 g3 X tk3 os3;have e1:=mv.gens;have e2:X=d:=mv.drawn;have e3:=mv.os;clear rd N st x;subst e1 e2 e3;have n:acc.toList=ord:=by
   apply WZ;intro i;rw[Sf];cases e:acc[i]? with
   |some v=>exact(P.2 i v e).symm
   |none =>
    have h5:⇑ord=y.size:=by rw[f.length_eq];simp
    exact(X6 (by rw[h5,<-P.1];simp_all)).symm
  calc h h3 X _ _ (λb o e=>?_)<|n ▸ f;have hb:=Zb e;calc mv.heap b o (λQS=>?_)<|u b o `xgr<|kp b o<|Zm _ e;simp only[Zi,XH,or_false]at QS;obtain q|q:=QS
  .exact Zg hb q
  .exact Zg (Y4 hb m) q
 have S:=kp _ _<|ZZ _ L;rw[Zp `ao];have j:=Ys (Obj.mapSeq (·.push Value.none)) S L;calc Zy<|wpAny_rule<|Zy ?_;refine(?_);refine Zy (wpAny_updateSeq S L (wpAny_updateSeq j L (Zt {We PySem.F.plain_extend_loop _,(λg c u j =>
  WJ (loop g c u j) λr l hq=>by
   calc Oo hq λacc z=>oe λe x q=>?_;subst e;calc Zy<|wpAny_load x `xne) _ _ (λb o hb e=>?_) (Ys _ j L)})))
 exact(Yp _ _ `xfH).trans<|(Yp _ _ `xfH).trans e
end SX
namespace L2
open TS SX
def se(X:Cx)(a:Pv)(l:{`xaD,Key}):HO:=.ext λ_ h=>∃b t,h.get? a=Y { cls:=.type "set",dict:=M,data:=.set (ents `U_ l) b t }/\SX.Tb t (UM `U_ l)/\t.fill*5<t.mask*3/\t.led=!ST.SS X.w/\(l.map (·.1)).Nodup
def uI(H:Hp)(l:{`xaD,Key}):Prop:=∀x∈l,H x.2=Y {`xbE,x.1.map kV}
def zZ{X:Cx}(T:Kx `U_ e b a l d t):dF X.prog X.w H b a (se X a l) :=
 ⟨{d,t,T.at_,T.tb,T.nf,T.led,(T.nd)},{_,(T.at_)},λm j ⟨i,h,g,f⟩ k=>{i,h,k _ g,f}⟩
def yc{X:Cx}{s:On}(d:PZ X.prog X.w H s.heap)(h:H a=Y (se X a l))(g:uI H l):∃b t,Kx `U_ s.heap s.heap a l b t:=by
 obtain⟨⟨b,t,o,n,m,j,i⟩,_,_⟩:=d a _ h;exact{b,t,o,n,m,j,λx f=>de d<|g x f,i,λ_ _ e _=>e}
theorem At.zip(h:At H a d):uI H `xiC/\(`xiC).map (·.1)=a/\(`xiC).map (·.2)=d:=by
 induction h with
 |nil=>exact{λx b=>(by cases b),rfl,rfl}
 |cons e _ f =>
  ext f j i g;refine{λx b=>?_,ZF _ i,ZF _ g};obtain rfl|b:=Zi.mp b
  .exact e
  .exact j x b
theorem uI.at:∀{l:{`xaD,Key}},uI H l->At H (l.map (·.1)) (l.map (·.2))
 |[],_=>.nil
 |x::l,h=>.cons (h x Zv)<|uI.at λy a=>h y<|Zs _ a
def sT{X:Cx}(P:`Ch)(F:X.A.units+9<cLine):dU X (.type "set") (λg H Q=>∃p,∃b d,g=[.ref p]/\OD X.K H p (d.map V.ref)/\At H b d/\b.Nodup/\⇑b<300/\∀q l,H q=M->l.Perm (b.zip d)->Q (.ref q) {`xdO,H,q,l}):=by
 intro m s O H g S Q I z h;calc ai λP_ E=>?_;ext h p b d rfl R;calc TX R λG w N hb q=>?_;ext z.one u rfl C;cases C;exists I.list G,NK,j,D,Z;ext w.zip tz e y;calc E ?_;have f:⇑(b.zip d)=⇑b:=by rw[<-e,Zu,e]
 refine SX.Dn (knd:=aV _ _) (I.ok.hd P) F D.isList (λi v o=>?_) ?_ (e.symm ▸ N) (f ▸ hb) λh' U l ep t T L hf kp=>?_
 .rw[YF,(qT j),ZV]at o;exists Zx.mp o,a,r,rfl;rw[<-y,ZV]at r;exists Zx.mp r,x,n,rfl;exact{x,rfl,n,de I.Og<|tz x<|ZE n}
 .rw[f,w.len];simpa using(by have:=j.length;simpa using this.symm)
 .exact{.ref _,_,I.laid kp (Zq _)<|zZ T,rfl,q _ l (I.Og.fresh<|Zq _) L}
def GA{X:Cx}(z:X.A.units+9<cLine):OpR X (binaryOp .BitXor) (λx y H Q=>∃p q l m,x=.ref p/\y=.ref q/\H p=Y (se X p l)/\H q=Y (se X q m)/\uI H l/\uI H m/\⇑l<160/\⇑m<160/\⇑l+⇑m<300 ∧
  ∀r n,H r=M->(n.map (·.1)).Nodup->Sy n m l->Q (.ref r) {`xdO,H,r,n}):=by
 intro a s O H x y v u Q I j i h;calc ai λZ w=>?_;ext h p q l m rfl rfl E;calc L2.xA8 E λD C f e L G F k=>?_;cases j;cases i;exists yc I.Og D f,S,t,T;exists yc I.Og C e,eq,u,N;calc w ?_;calc KR T N z L G F λR d o U P kp b g=>{.ref _,_,(I.laid kp (Zq _)<|zZ b).drew d,rfl,k _ o (I.Og.fresh<|Zq _) b.nd g}
def nP{X:Cx}(F:`Ch):dU X (.builtin "sorted") (λn H Q=>∃p,∃l,∃(k0:Bool)(sh:`gY),n=[.ref p]/\H p=Y (se X p l)/\uI H l/\⇑l<300/\(∀x∈l,x.1.map kind=k0::sh) ∧
  ∀(q:Pv)(g:`xff)(j:Vr),H q=M->At H g j->g.Perm (l.map (·.1))->g.Pairwise `XL->Q (.ref q) {`oX,q,j.map V.ref}):=by
 intro v s O H n Z Q I w h;calc ai λP_ A=>?_;ext h p l k0 sh rfl C o hb E q;ext w.one u rfl y;cases y;exists yc I.Og C o,ep,t,T;calc A ?_;refine pU λA' E' G=>SX.Gv (G.trans<|I.ok.hd F) {T.at_,T.fits,T.led,T.tb.rp,(by
  rw[cy];calc Y4 hb `ao)} λh' d tk U kp D=>?_
 exists qQ (f:=λx:List _×Pv=>Value.ref _) (D.trans (VO (by
  rw[QF];rfl))),r,i,rfl
 have tr:uI H r:=λx m=>o x {`xcd,m};have e:r.map (λx:List _×Pv=>Value.ref x.2)=(r.map (·.2)).map Value.ref:=by
  rw[QF];rfl
 rw[e];refine zW (k0:=k0) (sh:=sh) ((I.kept kp).drew d) tr.at (λk S=>?_) ?_ λz g j R P N L=>q z g j R P (N.trans<|i.map _) L
 .exists ZW.mp S,x,m,rfl;exact E x {`xcd,m}
 .rw[Zu,Zu,i.length_eq,Xp];lia
end L2
namespace VS
open L2 TS SX
open Classical in
def UG(a b:`xfl):List `e9:=b.filter (λk:List Key=>decide (k∉a))++a.filter λk:List Key=>decide (k∉b)
def uf{k:`e9}:k∈UG a b↔(k∈b/\k∉a)\/(k∈a/\k∉b):=by
 classical
 unfold UG
 simp_all
def Ng{a b:`xfl}(g:a.Nodup)(d:b.Nodup):(UG a b).Nodup:=by
 classical
 refine ZG.mpr {d.filter _,g.filter _,λx i y h e=>?_}
 simp_all
open Classical in
def JB(v u:Ue):Ud:=(v1L v).bind λl=>(v1L u).bind λm=>(l.mapM nk1).bind λa=>(m.mapM nk1).bind λb=>if shp (a++b)/\a.Nodup/\b.Nodup/\⇑a<160/\⇑b<160/\⇑a+⇑b<300 then Y (.fr,.lst {`xdy,Bx,UG a b}) else M
def Im(b a:OG):Ex:=λU=>(`xfX).bind λl=>(`Db).bind λm=>JB l m
def M0{X:Cx}(hr:`Tm)(hm:X.mg "sorted" = M)(C:X.mg "set" = M)(ha:PJ G X [e] cs)(hb:PJ G X [f] ds)(hg:{`q3,Gl X "sorted"})(E:{`q3,Gl X "set"})(hK:{`q3,X.K=G.K})(hc:{`q3,X.calm=J})(he:{`q3,Qv e [] X})(hf:{`q3,Qv f [] X})(he2:{`q3,SL [.BinOp (.Call (.Name "set" p2) [e] [] So) .BitXor (.Call (.Name "set" p3) [f] [] pos3) pos4] X.env=(B,eval (.BinOp (.Call (.Name "set" p2) [e] [] So) .BitXor (.Call (.Name "set" p3) [f] [] pos3) pos4) X.env)::SL [] X.env}) :
  PV G X (.Call (.Name "sorted" p) [.BinOp (.Call (.Name "set" p2) [e] [] So) .BitXor (.Call (.Name "set" p3) [f] [] pos3) pos4] [] pos) (Im cs ds):=by
 have hu:X.A.units+9<cLine:=by have:=hr.un;lia
 calc PE.weak (qi (nP hc) hg hm nF<|cf (CU (GA hu) (kz (sT hc hu) E C CJ ha (he:=he))<|kz (sT hc hu) E C CJ hb (he:=hf)) fG he2) λO H Q h_=>?_;calc Oj h_ λZ U m t=>oe λs e0 k=>?_;exists Zz.mp e0,l,el,e1;exists Zz.mp e1,l',el',e2;exists Zz.mp e2,x,d,e3;exists Zz.mp e3,y,g,e4;exists Zz.mp e4,a,hxa,e5;exists Zz.mp e5,b,hyb,e6;clear e0 e1 e2 e3 e4 e5;split at e6
 case isFalse=>cases e6
 rename_i hh;exists sj2 e6,rfl,rfl;exists oT d,mx,rfl;exists oT g,my,rfl;obtain rfl:=jL (λ_ _=>t5) hxa;obtain rfl:=jL (λ_ _=>t5) hyb;ext hh sh w u la lb lab;calc Ow Z U _ {s,el,λvs H1 Fs s1 r1 f1=>?_};ext r1.one v F rfl rfl rx;ext rx.lst_inv pa ys Gs rfl rfl ha1 ra;exists oS ra,as,rfl,TJ,hta;calc Ow pa a as {rfl,hK ▸ OD.of ha1,TJ,w,by lia,λq lq hq pq=>?_};have s2:aN H1 {`xdO,H1,q,lq}:=bI hq;calc Ow Z U _ {s.same<|s1.trans s2,el',λvs H2 RA s3 r2 f2=>?_};ext r2.one v F' rfl rfl rx';ext rx'.lst_inv pb ys' Gs' rfl rfl SQ rb;exists oS rb,bs,rfl,L,htb;calc Ow pb b bs {rfl,hK ▸ OD.of SQ,L,u,by lia,λr lr hr' pr=>?_};have P:aN H2 {`xdO,H2,r,lr}:=bI hr';ext TJ.zip tz z1 _;ext L.zip tz' S _;have ta:=λx d=>P _ _<|s3 _ _<|s2 _ _<|tz x<|pq.mem_iff.mp d;have tb:=λx d=>P _ _<|tz' x<|pr.mem_iff.mp d;have ka:=z1 ▸ pq.map _;have kb:=S ▸ pr.map _;have na:⇑lq=⇑a:=by rw[<-ka.length_eq,Zu]
 have nb:⇑lr=⇑b:=by rw[<-kb.length_eq,Zu]
 calc Oe q r lq lr {rfl,rfl,P _ _<|s3 _ _ av,av,ta,tb,by lia,by lia,by lia,λz n hz hn hs=>?_};have s5:aN _ (upd _ z<|se X z n):=bI hz;have R:(n.map (·.1)).Perm (UG a b):=by
  refine(Vx hn<|Ng w u).mpr λk=>?_;rw[uf,<-ka.mem_iff,<-kb.mem_iff,ZW];constructor
  .rintro⟨x,d,rfl⟩;rcases (hs x).mp d with⟨j,i⟩|⟨j,i⟩
   .exact .inl ⟨ZW.mpr {x,j,(rfl)},λz=>let ⟨y,g,e⟩:=ZW.mp z;i y g e⟩
   .exact .inr ⟨ZW.mpr {x,j,(rfl)},λz=>let ⟨y,g,e⟩:=ZW.mp z;i y g e⟩
  .rintro (⟨j,i⟩|⟨j,i⟩)
   .exists ZW.mp j,x,d,rfl;exact{x,(hs x).mpr<|.inl ⟨d,λy g e=>i {`xdN,y,g,e}⟩,rfl}
   .exists ZW.mp j,x,d,rfl;exact{x,(hs x).mpr<|.inr ⟨d,λy g e=>i {`xdN,y,g,e}⟩,rfl}
 exists id sh,k0,sh',hk;have D:∀k∈UG a b,k.map kind=k0::sh':=λk RJ=>by
  obtain h|h:=Zf.mp RJ
  .simp_all
  simp_all
 refine Oe z n k0 _ {rfl,av,(λx d=>s5 _ _<|((hs x).mp d).elim (λh=>tb x h.1) λh=>ta x h.1),(by
  rw[<-Zu (f:=(·.1)),R.length_eq];unfold UG;grind),λx d=>D _<|R.mem_iff.mp {`xdN,x,d,rfl},λo ls os ho N hp hw=>?_}
 rw[uh {hp.trans R,hw}<|Pd k0 _ D]at k;have s6:aN _ (upd _ o {`xba,os.map V.ref}):=bI ho;have all:=s1.trans<|s2.trans<|s3.trans<|P.trans s5;have r:Rp G _ _ _ _:=.lst av<|Ai (N.keep λa vs h=>s6 a _ h) λk m=>?_
 .rw[iY]at r;exact k _ _ _ (all.trans s6) r<|Fp.new (all.free ho) (by simp) Fp.nil
 .intro x d;rcases uf.mp ((hp.trans R).mem_iff.mp m) with⟨h,_⟩|⟨h,_⟩
  .exact htb k h x d
  .exact hta k h x d
end VS
namespace VS
open L2
def rM(x y:Val):Ud:=(lsT y.2).bind λl=>if Pk 59 x.2=J/\Pk 60 `xea=J then Y (.fr,.bl<|l.any λz=>eqT z x.2) else M
def ng(x y:Val):Ud:=(lsT y.2).bind λl=>if Pk 59 x.2=J/\Pk 60 `xea=J then Y (.fr,.bl<|!l.any λz=>eqT z x.2) else M
def GD(G:Gx)(d:Bool):R2:=λx y H Q=>∃t l F e,Rp G H x t F/\Rp G H y `xea e/\Pk 59 t=J/\Pk 60 `xea=J/\Q (.bl<|if d then !l.any λz=>eqT z t else l.any λz=>eqT z t) H
theorem qS(h:Pk 59 t=J):∀{l:Uc},(∀z∈l,Pk 59 z=J)->((`xfS).any λy=>PyData.eqv y `xdX)=l.any λz=>eqT z t
 |[],_=>rfl
 |z::l,q=>by
  show (PyData.eqv _ _||(`xfS).any _)=(eqT z t||l.any _);rw[pA 59 59 z t (q z Zv) h,qS h λy d=>q y<|Zs _ d]
def wZ(I:{`p_,d})(i:Rp G H x t F)(h:Rp G H y `xea r)(g:`xhR)(f:`TD)(m:Pk 59 t=J)(j:Pk 60 `xea=J)(w:X.A.units+70<cLine) :
  ∃e bs,Reads s.heap u (.list `xfS) e/\Reads s.heap v `xdX bs/\PyData.canLayAll0 `xfS=J/\(`xdX).canLay0=J/\X.A.units+1+min `xhY (`xdX).depth<cLine:=by
 exists iW I 59 i g m,bs,o,n,z;exists iW I 60 h f j,e,q,p,C;exact⟨e,bs,q,o,p,n,by have:=Xs `xhY (`xdX).depth;lia⟩
def DD{X:Cx}(m:X.A.units+70<cLine):OpR X `xny (GD G B):=by
 intro d s O H x y v u Q I i g h;calc Oj h λt l F z=>Pf λr1 r2 f e q=>?_;calc Oo `xhX λw bs=>Pf λr o p n j=>?_;calc SeqAt.in_list_reads r o p n j {.bl _,H,I,rfl,?_};rw[qS f<|ZC.mp e];calc q
def HK{X:Cx}(m:X.A.units+70<cLine):OpR X `xiV (GD G J):=by
 intro d s O H x y v u Q I i g h;calc Oj h λt l F z=>Pf λr1 r2 f e q=>?_;calc Oo `xhX λw bs=>Pf λr o p n j=>?_;calc SeqAt.notIn_list_reads r o p n j {.bl _,H,I,rfl,?_};rw[qS f<|ZC.mp e];calc q
def Dd:fD G (GD G B) rM:=by
 intro Z U g H x y u w j i m t Q d e k;ext y f y;exists Zz.mp e,l,hl,e1;clear e;obtain rfl:=kM hl;split at e1
 .rename_i h;cases e1;exact UW {d.r1,d.r2,h.1,h.2,bH k<|.bl _}
 .cases e1
def FH:fD G (GD G J) ng:=by
 intro Z U g H x y u w j i m t Q d e k;ext y f y;exists Zz.mp e,l,hl,e1;clear e;obtain rfl:=kM hl;split at e1
 .rename_i h;cases e1;exact UW {d.r1,d.r2,h.1,h.2,bH k<|.bl _}
 .cases e1
def Bo:Tells rM:=by
 intro x y m t e;exists Zz.mp e,l,_,e1;split at e1
 .cases e1;exact{_,(rfl)}
 .cases e1
def yT:Tells ng:=by
 intro x y m t e;exists Zz.mp e,l,_,e1;split at e1
 .cases e1;exact{_,(rfl)}
 .cases e1
def MQ{X:Cx}(d:`Tm)(g:`cC)(f:`hH)(e:{`q4,behindInMarks .In b=B}):PV G X (.Compare a [.In] [b] pos) {`ww,rM}:=LC (DD (by have:=d.un;lia)) Dd g f e
def yD{X:Cx}(d:`Tm)(g:`cC)(f:`hH)(e:{`q4,behindInMarks .In b=B}):Ro G X (.Compare a [.In] [b] pos) {`ww,rM}:=fW (DD (by have:=d.un;lia)) Dd Bo g f e
def GS{X:Cx}(d:`Tm)(g:`cC)(f:`hH)(e:{`q4,behindInMarks .NotIn b=B}):Ro G X (.Compare a [.NotIn] [b] pos) {`ww,ng}:=fW (HK (by have:=d.un;lia)) FH yT g f e
def vE(n:Nat)(x:Xx):Sx:=λU=>(owL U[n]?).bind λ_=>(`xfM).bind λz=>(S4 z.2[n]?).bind λt=>if Ol z.1.2=J then (Ay t [(.fr,z.1.2)]).map λw=>.nx (z.2.set n {`sn,w.1}) else M
def JX{X:Cx}{pos:Pos}{d:Pos}(i:Nat)(hN:X.N[i]?=Y n)(hv:{`ro,n})(hd:Qx n)(q:Qy n)(h:`XP)(hK:`xfA)(OB:Tj `xgn "pop" X)(OS:Qz f [e] X)(Oz:`xjT=J)(A:Qv e [] X)(Ot:(backTo f<|SL [] X.env).any (·.1)=B)(Rw:swapsWith (.Call (.Attribute `xgn "pop" d) [e] [] f) M pos.line X.env=pure B) :
  PSV G X (.Expr (.Call (.Attribute `xgn "pop" d) [e] [] f) pos) (vE i x) :=
 PS.weak (ja (pV XJ PySem.F.slot_list_pop PySem.F.type_list_pop C8 {`L_,q} (cf h fG A) OB OS Oz A Ot) Rw) λD O H hq=>by
  calc OH hq λZ U o=>oe λs e k=>?_;exists Zz.mp e,l0,r,E;exists s.rp _ _ (Al r),y,h0,r0;exists Zz.mp E,z,e1,e2;exists Zz.mp e2,t,l,e3;have l:=eu l;split at e3
  .rename_i RK;obtain⟨⟨S,P⟩,e4,e5⟩:=Zx.mp e3;clear e E e2 e3;cases e5;refine⟨y,h0,hK ▸ vS r0,Oe Z U _ _ {s,e1,RK,λw L Z2 m f2 r2=>?_}⟩;calc ai λP_ k_=>?_;exists m.rp _ _ l,v1,C,r1;rw[h0]at C;cases C;calc k_ ?_;refine FD Z2 z.2 L L y t S _ [(.fr,z.1.2)] _ _ P _ r1 (m.nd i t l) ⟨aN.refl _,.cons r2 .nil,{λj v F a b=>?_,by simp[QW]}⟩ e4 λu H3 F' g=>?_
   .cases j with
    |zero=>cases (a);cases (b);calc Fp.nil
    |succ j=>simp at a
   .exists m.mut l h0 g,R,Q;exact k _ O H3 R<|f2.trans Q
  .cases e3
end VS
namespace L2
def LN{α:Type}{g:`ew}(h:⇑g=6):∃a b c d e f,g=[a,b,c,d,e,f]:=by
 match g,h with
 |[a,b,c,d,e,f],_=>calc SV a b c d e f L
end L2
namespace VS
open L2
def AB(i:Nat)(k e:Ex)(U:VS.Env):Option Out:=(`xhV).bind λv=>if FE v.1=J then (RE U[i]?).bind λl=>(k U).bind λa=>if iJ a.2=J/\(l.all λp=>!eqT p.1 a.2)=J/\⇑l+1<gn then Y (.nx<|U.set i<|Y<|.ow<|.dct 0<|l++[(a.2,v.2)]) else M else M
def JY{X:Cx}{pos:Pos}(i:Nat)(hr:`xgq)(hk:`xjM)(he:`XV)(hN:X.N[i]?=Y x)(hv:{`ro,x})(hd:Qx x)(y:Qy x)(ha:`xma)(hs:swapsWithSole [.Subscript `gc b pos'] e pos.line X.env=pure B)(hw:swappedStores [.Subscript `gc b pos'] e X.env=pure M)(h1:(assignEach [.Subscript `gc b pos'] X.env).map (·.2)=[assign {`o0,`gc,pos'} X.env]):PSV G X (.Assign [.Subscript `gc b pos'] e pos) (AB i ck ce) :=
 PS.weak {`R6,{`L_,y},h1} λD O H u=>by
  calc OH u λZ U out=>oe λs e k=>?_;obtain⟨⟨mv,p⟩,ev,e1⟩:=Zz.mp e;split at e1
  .rename_i v;obtain rfl:=wM v;exists Zz.mp e1,l,m,e2;have m:=vi m;obtain⟨⟨mk,tk⟩,TK,e3⟩:=Zz.mp e2;split at e3
   .rename_i C;ext C c1 c3 c4;cases e3;exists s.rp _ _ m,w,R,F;have E:=s.nd i _ m;calc Oe Z U _ p {s,ev,λxv H1 Fv PN rv S=>⟨w,R,Oe Z U mk tk {s.same PN,TK,λkv H3 Fk RC rk fk=>?_}⟩};have t:=PN.trans RC;exists fA F,a,ns,r,h,Fs,rfl,f,OA,hl,rfl,P;rw[f]at E;exists de rk c1,d,rfl,Tf;subst Tf;have lts:=hl.trans P.len.1;have off:∀n∈ns,n≠d:=λn hn z=>by
     subst z;exists Yr hn,j,hj,ej;have:(bp ns[j],h[j]'`bi)∈(`xjN).zip h:=by
      calc ZE (i:=j) ?_;rw[Xw];exact{by rw[ZV,Zo hj];rfl,Zo _}
     have h2:=ZC.mp c3 _ this;rw[ej]at h2;have h3:=(jv n n).mpr L
     simp_all
    have ep:putK (ns.zip r) d xv=(ns++[d]).zip (r++[xv]):=by
     rw[WI hl];unfold putK;rw[Zn]
     .rfl
     .intro z;exists XF.mp z,q,u,e;exact off _ (VQ u).1<|of_decide_eq_true e
    have RM:=t a _ OA;have Q:Oy `xna:=RM ▸ True.intro;have nd:=Zc.mp E;have o:=S.2;have OF:=λb hb=>Oy.jj<|F.OF b<|f ▸ hb;refine .inr (Pd a _ {rfl,wt.k RM (by
     have:⇑((ns.map _).zip h)+1<16777216:=c4;rw[YA,Zu]at this;rw[YA];have:(Pi:Nat)=16777216:=rfl;omega),?_})
    have aF:a∉(Fs++[Fv]).flatten:=λz=>by
     rw[YN]at z;obtain z|z:=Zf.mp z
     .exact nd.1 z
     simp_all
    have g:Chg G H `bz `xns (.dct 0<|(`xjN).zip h++[(bp d,p)]) (upd H3 a {`xdu,r,d}) (a::(Fs++[Fv]).flatten):=by
     rw[f,ep,show (ns.map _).zip h++[(bp d,p)]=((ns++[d]).map _).zip (h++[p]) from by rw[Rn,WI<|by simp_all];rfl];refine Chg.upd t Zv Q (.dct av (by simp_all)<|((P.same t).append<|RpL.cons (rv.same RC) .nil).off Q aF) ?_ ?_
     .refine Zc.mpr {aF,?_};rw[YN,List.flatten_singleton];calc ZG.mpr {nd.2,S.1,λb hb c C z=>?_};subst z;exact OF b (Zs _ hb)<|o b C
     .intro bb hb;obtain rfl|hb:=Zi.mp hb
      .exact .inl Zv
      .rw[YN,List.flatten_singleton]at hb;obtain z|z:=Zf.mp hb
       .simp_all
       .exact .inr<|o bb z
    exists s.mut m R g,z1,z2;exact k _ O _ z1 z2
   .cases e3
  .cases e1
end VS
end
namespace T47
open VS
noncomputable section
def bq:Mt:=Rj 0 4 4 [B,B,J]
  (aq (sX<|k9 0 [.fld 1] aP `li)
  (aq (sX<|k9 0 [.fld 2] aP `b5)
  (aq (yz 0 [.fld 3] 3)
  {`xbA,1})))
def dG:Mt:=Rj 0 1 1 {`oD,0,B}
  (aq {`Rv,1}
  (aq {`Rv,2}
  (aq {`Rv,3}
  (sXM<|bX 0 [] 0 [B,B,J] bq<|ae `lz<|ae `xiQ<|ae (wg 0 []) ak))))
def df:Sx :=
  (aq (fZ 0 [.fld 3,.ix `cv] `gi `Z9)
  (aY 1 {`nk,2}))
def aC:Mt:=Rj 0 3 6 [B,B]
  (aq (aY 3<|e2 RF {`nk,3} `gi)
  (aq (aY 4 {`K_,{`nk,1}})
  (aq {`xcB,e2 oEq {`sK,bF 1 `cm,`fw} `gt,fE 3}
  (aq (eO 5<|bX 0 [] 0 [B,B,J] bq<|ae `gt<|ae {`sK,bF 2 `cm,`fw} {`m6,eN p9 {`m6,e2 aM `xed `fw}})
  (aq (fZ 0 [.fld 2] `fw `Z9)
  (aq (jO {`xaW,3} df)
  (fE 5)))))))
def fC:Sx :=
  (aq (fZ 0 [.fld 3,.ix `gt] `gi `fw)
  (aY 4 {`sK,bF 2 `cm,`gt}))
def bO:Mt:=Rj 0 3 5 [B,B]
  (aq (P6 (e2 rW `gi {`nk,3}) (ot<|bX 0 [] 0 [B,B] aC {`xbs,`cv}) eR)
  (aq (eO 3<|bX 0 [] 0 [B,B,J] bq<|ae {`K_,{`nk,1}}<|ae `lz<|ae (wg 0 []) ak)
  (aq (aY 4 `cv)
  (aq (jO {`xbb,3} fC)
  (aq (P6 (gp `gt) (nj 0 [.fld 2] `fw<|bX 0 [] 0 [B,B] aC {`xbs,`gt}) eR)
  `xkm)))))
def da:Sx :=
  (eO 1<|bX 0 [] 0 [B,B] bO {`xbH,ae `fw ak})
def bh:Mt:=Rj 0 3 4 [B,B]
  (aq {`xdL,3,iK `gi,da}
  (fE 1))
def dC:Sx :=
  (P6 (e2 dP {`xcE,RF,`Z9} `cv) (aq (qg 1 {`xcE,RF,`Z9} `Fa)
  (sX<|rV 2 [] aP {`m6,e2 RF `gt `Z9})) eR)
def di:Sx :=
  (aq (aY 4 {`sK,bF 3 `cm,e2 aM `gi `fw})
  (aq (jg (bC 5) `xld dC)
  (aY 3 {`K_,`fw})))
def aR:Fn:=fn 1 6
  (aq (j4 1<|wg 0 [(`lz,`lz)])
  (aq `xjg
  (aq (aY 3 `lz)
  (aq (jO `xlT di)
  (aq (wV 2)
  (fE 1))))))
def dB:Fn:=fn 3 6
  (aq (aY 3 {`nk,2})
  (aq (aY 4 {`nk,3})
  (aq (aY 5<|eN mZ `v5)
  (aq {`xcB,J0 `fw,fT<|jA<|ae `lz<|ae `lz {`o2,eC .non,5}}
  (fT<|jA<|ae {`K_,{`sK,bF 1 `cm,`fw}}<|ae {`nk,1} {`o2,e2 yQ `gi `fw,5})))))
def dZ:Fn:=fn 1 2
  (aq (j4 1 `xlS)
  (ID 1 `xgE<|gH 0 dB `cv {`xbs,`cm}))
def bE:Mt:=Rj 1 1 1 []
  (aq {`xcB,e2 oGe {`xoP,cn} `xmM,sNo}
  (aq (sX<|k9 0 [.fld 4] aP<|ae (eC<|.str []) ak)
  (aq (sX<|k9 0 [.fld 5] aP<|ae `lz ak)
  {`xbA,4})))
def ij:Fn:=fn 1 1
  (fT<|nr (eIs .int `cm)<|oJ<|eIs .bool `cm)
def bV:Fn:=fn 2 2
  `UN
def i6:Fn:=fn 1 1
  (fT<|eN FK {`m6,gE 1 `xgE (iK `cm) M `hB})
def bL:Mt:=Rj 1 3 3 [B,B]
  (aq (sX {`xcp,4})
  (aq (P6 (e2 Tv (e2 b6 (bu i6 {`m6,bF 4 `cm}) `Fa)<|Q3 120) sNo eR)
  (aq (nj 0 [.fld 5] `cv<|bX 0 [.fld 6] 0 [B,B] bh {`xbs,{`nk,5}})
  (fZ 0 [.fld 4] `cv<|e2 b6 {`nk,4} `gi))))
def b9:Sx :=
  (sXM<|su 0 1 [B,B] bL (bX 0 [] 1 [] bE ak) `b5)
def bx:Mt:=Rj 1 2 3 {`oD,1,B}
  (aq {`Rv,4}
  (aq {`Rv,5}
  (aq `xhu
  {`xcB,gp `cv,jg (bC 2) `xnX b9})))
def qY:Fn:=fn 1 1
  (fT {`xoP,uS})
def cu:Fn:=fn 1 1
  (fT<|gH 0 dZ (bF 6 `cm) ak)
def nu:Sx :=
  (aq (aY 4<|eN rB<|ae (e2 aM (e2 aM `cm<|e2 aM `gi<|Q3<|-1)<|Q3 3) ak)
  (aq {`xcB,e2 dP `fw `gt,fE 2}
  (sX<|rV 2 [] aP {`m6,e2 RF `gt `fw})))
def lD:Fn:=fn 2 5
  (aq `xjg
  (aq {`xdL,3,iK `cv,nu}
  (fE 2)))
def hJ:Fn:=fn 2 3
  (aq (aY 2 {`sY,lD,`li})
  (fT<|eIf (e2 oEq `Fa {`K_,eN cn `li}) (e2 aM `gi<|Q3<|-1) `xiQ))
def aI:Fn:=fn 2 2
  `UN
def eZ:Sx :=
  (P6 (e2 oEq {`xce,`jl} {`K_,e2 aM `fw `jl}) (qg 1 {`xcE,aM,`jl}<|jA<|ae `gi {`m6,e2 aM `gt `lz}) eR)
def iz:Sx :=
  (jg (bC 4) (iK {`sK,`fw,Q3 3}) eZ)
def fj:Fn:=fn 1 5
  (aq (j4 1<|wg 0 [])
  (aq (jg (l9 [(bC 2),`xmO]) (An `cm) iz)
  (fE 1)))
def lZ:Sx :=
  (aq (aY 4<|e2 RF `gi `cv)
  (aq (aY 3<|e2 b6 {`xcE,aM,`jl} `fw)
  (aY 1 {`xcE,aM,`lz})))
def fI:Fn:=fn 2 5
  (aq (sX `xfx)
  (aq (aY 2 {`sY,fj,ak})
  (aq (aY 3<|eC<|.str [])
  (aq (jO `xlR lZ)
  `xkm))))
def i9:Fn:=fn 2 3
  (aq (aY 2 {`sY,fI,`li})
  (fT<|eSl `gi (Y<|e2 yn `Fa {`sK,e2 aM `cm `cv,`lz}) M))
def lR:Sx :=
  (aq (sX<|rV 2 [] aP `li)
  (aY 1 {`sK,e2 aM `cm `cv,Q3 2}))
def pf:Fn:=fn 2 3
  (aq (sX `xfx)
  (aq (j4 2 `xle)
  (aq (jO `xhv lR)
  (fE 2))))
def g9:Sx :=
  (sX<|v7 2 `xmL {`m6,jA {`o2,`fw,5}})
def jY:Sx :=
  (jg (bC 7) (iK<|bu pf {`o2,`cv,6}) g9)
def kj:Sx :=
  (jg (l9 [(bC 5),(bC 6)]) (An<|bu lD {`xbH,`xap}) jY)
def dy:Fn:=fn 2 8
  (aq (j4 2<|gE 1 `xgE `xnX M `xle)
  (aq (jg (l9 [`xmO,(bC 4)]) (An `cm) kj)
  (fE 2)))
def gK:Fn:=fn 3 3
  (aq (sX<|xP<|bu aI {`xbs,`cv})
  (fT<|eN pB<|ae (gE 2 (l9 [`xgE,(bC 1)]) (iK {`sK,bu dy<|ae `cm `li,`gi}) M<|jA<|ae `cm {`m6,eSl (e2 aM `gi `cm) (Y `cv) M}) ak))
def fX:Fn:=fn 4 7
  (aq {`xdI,4,`b5}
  (aq {`xdI,5,ae `fw ak}
  (aq {`xcB,e2 oEq `gi `fw,fT `xiQ}
  (aq (aY 6 {`sK,Im `xap {`m6,ab 5},`lz})
  (fT<|jA<|ae {`sK,ab 6,`lz}<|ae {`sK,ab 6,`jl} {`m6,eIf (e2 rM `xec `gt) `gi `fw})))))
def jz:Sx :=
  (aq (aY 3 {`xcA,{`K_,e2 b6 {`xdM,m8,`fw,69621}<|e2 m8 (Q3 7) `Z9},2147483647})
  (aq (aY 6 {`xcA,e2 m8 `fw `fw,2147483629})
  (aY 4<|e2 b6 {`xcE,m8,Q3 999983}<|e2 oMod (e2 m8 `xec {`xdM,b6,{`xcA,ab 6,65521},3})<|Q3 999983)))
def fz:Fn:=fn 2 7
  (aq (aY 2 {`xdM,b6,e2 m8 `cv<|Q3 7919,104729})
  (aq {`xcB,e2 Tv `hB `lz,`E_}
  (aq (P6 (e2 oEq {`xcA,`gi,2} `lz) (fT<|fS {`m6,e2 oE `gi<|Q3 2}) eR)
  (aq (aY 3<|e2 oMod (e2 b6 {`xdM,oE,`gi,2}<|e2 m8 (Q3 40503) `cv)<|Q3 2147483629)
  (aq (aY 4 `lz)
  (aq {`xdL,5,iH<|Q3 24,jz}
  (fT<|fS `xap)))))))
def aw:Uc->Option `xjH:=Z7 2 3 [B]
  (aq (aY 2 {`xdG,e2,oMod})
  (aq (fZ 0 [.un] `lz {`xdG,e2,oE})
  (fE 2)))
def fF:Uc->Option `xjH:=Z7 3 3 [B,B]
  (ot<|IK []<|vX (aZ [`vu,{`pp,e2 b6 `gi `jl}] aw)<|x2 aM (xI `gi)<|aZ [`xmK,{`pp,eN cn `b5}] aw)
def iF:Uc->Option `xjH:=Z7 1 5 []
  (aq (aY 1<|eC<|.str [97,98,99,100,101,102,103,104,105,106,107,108,109,110,111,112,113,114,115,116,117,118,119,120,121,122])
  (aq (eO 2<|oC {`M2,Q3 2}<|aZ [`vu,{`pp,Q3 8}] aw)
  (aq (eO 3<|aZ [`vu,{`pp,Q3 26}] aw)
  (aq (eO 4<|oC {`xcM,`jl,{`zn,25,7}}<|aZ [`vu,{`pp,Q3 4}] aw)
  (fT<|eM pY (eC<|.str [])<|ae (gE 1 `xgE (iH `gi) M<|e2 aM `gi {`xcA,e2 b6 `gt<|e2 m8 `Z9 `cm,26}) ak)))))
def k8:Sx :=
  (aq (eO 5<|aZ [`vu,{`pp,`cv},(.px<|oC {`xcM,Q3 6,{`zn,10,8}}<|aZ [`vu,{`pp,Q3 4}] aw)] fF)
  (aq (wm (kX {`xcE,Tv,`lz}<|xtV<|x2 oEq (aZ [`vu,{`pp,Q3 4}] aw) `xht) (aq (eO 6<|mS 3<|aZ [`vu,{`pp,`gt}] aw)
  (eO 5<|xSl (x2 b6 (xSl (xI `xec) (Y<|aZ [`vu,{`pp,e2 b6 `jf `jl}] aw) M)<|xI `Z9) M<|Y<|xI<|Q3 14)) eR)
  (sX<|rV 3 [] aP {`m6,ab 5})))
def jt:Uc->Option `xjH:=Z7 2 7 [B]
  (aq (eO 2<|oC {`R1,8}<|aZ [`vu,{`pp,Q3 8}] aw)
  (aq (j4 3 `xle)
  (aq {`xdL,4,iH `gi,k8}
  (aq (wm (kX {`xdH,Q3,3}<|xtV<|x2 oEq (aZ [`vu,{`pp,Q3 6}] aw) `xht) (nj 3 [] `lz<|x2 EI (x2 b6 (x2 b6 (xI<|e2 aM `fw `lz)<|aZ [`vu,{`pp,`cv},{`pp,Q3 24}] fF)<|xI<|e2 aM `fw<|Q3<|-1)<|x2 b6 `xht<|aZ [`vu,{`pp,Q3 2}] aw) eR)
  `xkm))))
def eK:Fn:=fn 6 7
  (aq (aY 6<|bu hJ {`xbH,{`m6,e2 b6 `fw `Z9}})
  (fT<|nr (gp `xec)<|e2 rM (jA<|ae `gt {`m6,eN cn {`m6,e2 aM `cm `gt}}) {`sK,`gi,ab 6}))
def jy:Sx :=
  (P6 (oJ {`sY,eK,ae `cv {`xdU,`gi,ab 11,{`o2,ab 7,8}}}) `H_ eR)
def dM:Fn:=fn 6 12
  (aq (aY 6 {`sY,fX,ae `cv {`o2,`gt,5}})
  (aq (P6 (eOr (J0 `xec)<|e2 dP {`sK,ab 6,Q3 2}<|jA {`o2,`gt,5}) `H_ eR)
  (aq (IU (l9 [(bC 7),(bC 8),(bC 9)]) `xec)
  (aq (aY 10<|e2 yn {`xcE,b6,`Z9}<|ab 9)
  (aq (P6 (eOr {`xcF,ng,9} {`xcF,rM,10}) `H_ eR)
  (aq (jg (bC 11) (iK {`xcM,bu fI {`o2,`cv,9},{`m6,bu i9 {`o2,`cv,9}}}) jy)
  (fT<|oJ<|bu eK<|ae `cm {`xbH,ae `gi<|ae (bu fI {`o2,`cv,10}) {`o2,ab 7,8}})))))))
def qh:Sx :=
  (vE 6<|aZ [`xip,{`pp,`jf}] aw)
def wC:Sx :=
  (AB 7 (ab 8)<|bu gK<|ae `gi {`o2,`fw,8})
def rC:Sx :=
  (aq (eO 10<|mS 6<|aZ [`xip,{`pp,`jf}] aw)
  (aq (eO 11<|mS 6<|aZ [`xip,{`pp,`jf}] aw)
  (P6 (nr (e2 oNe (ab 10)<|ab 11)<|oJ<|bu dM {`xbW,ae `gt<|ae `xmL {`o2,ab 10,11}}) `H_ eR)))
def p8:Sx :=
  (aq (P6 (eOr (e2 rM (e2 RF `xmL {`sK,ab 6,ab 12})<|gE 1 `xgE (iK<|eSl `xec M<|Y `xlc) M<|e2 RF (ab 8) `cm)<|gp<|bu fX {`xbW,ae {`sK,ab 6,ab 12} {`m6,e2 aM `xec `xlc}}) `H_ eR)
  (wm (Jd<|xtV<|tQ (ae `gi<|ae `fw<|ae `gt<|ae `xmL {`m6,e2 aM `xec `xlc}) (mS 6<|aZ [`xip,{`pp,ab 12}] aw) dM) `H_ eR))
def CZ:Fn:=fn 1 13
  (aq (j4 1 {`sY,fz,ae `lz ak})
  (aq (vQ 2<|aZ [(.io 1 B),(.px<|aZ [(.io 1 B)] iF)] jt)
  (aq (wV 2)
  (aq (wV 1)
  (aq (aY 3<|gH 1 cu (eNew 1 bx `b5) ak)
  (aq (aY 4<|bu dy {`xbW,ak})
  (aq (j4 5 {`sY,fz,ae `jl ak})
  (aq (j4 6<|eN tJ {`m6,eN cn<|ae `fw ak})
  (aq (jO {`xdM,Tv,`jf,16} qh)
  (aq (wV 6)
  (aq (j4 7<|wg 0 [])
  (aq {`xdL,8,iK `xec,wC}
  (aq (wV 7)
  (aq {`xdL,9,iH `xmM,rC}
  (aq {`xdL,12,uq `jl `jf,p8}
  (aq (wV 5)
  (fT<|eC<|.bl J)))))))))))))))))
end
end T47
namespace VS
def e2v{f:Val->Val->Ud}{a b:Ex}{U:Env}{x y z:Val}(g:`xmJ)(e:b U=Y y)(d:f x y=Y z):e2 f a b U=Y z:=by
 simp_all
def xv{r:OG}{x:Val}(e:`xmJ)(d:r U=Y b):ae a r U=Y (x::b):=by
 simp_all
def u9{b:Sx}{m:Md}(h:c U=Y (m,.bl J)):P6 c a b U=a U:=by
 show (`xeC).bind _=_;rw[h];rfl
def oN{m:Md}(h:c U=Y (m,.bl B)):P6 c a b U=b U:=by
 show (`xeC).bind _=_;rw[h];rfl
def je(h:b U=Y a)(d:f a=Y v):eN f b U=Y v:=by
 simp_all
def dr{e:Ex}{U:Env}{t:T}(h:e U=Y (.fr,t)):fT e U=Y (.rt (.fr,t) U):=by
 show (`xhV).bind _=_;rw[h];rfl
def jr(h:a U=Y `xjc):aq a b U=Y `xjc:=by
 show (`Db).bind _=_;rw[h];rfl
def ar{a b:Sx}{U U1:Env}(h:`xnW):aq a b U=b U1:=by
 show (`Db).bind _=_;rw[h];rfl
def sq{b:Sx}{U1:Env}{r:Option Out}(h:`xnW)(q:b U1=r):aq a b U=r:=(ar h).trans q
def ift(h:c U=Y (m,.bl J))(q:a U=r):P6 c a b U=r:=(u9 h).trans q
def ue{b:Sx}{m:Md}(h:c U=Y (m,.bl B))(q:b U=r):P6 c a b U=r:=(oN h).trans q
def dg{a:Uc}{U:Env}(f:`xlb)(h:b {`o_,a.map,e-d}=Y `xmI):fn d e b a=Y v:=by
 show (if ⇑a=d then _ else _)=_;rw[Zp f,h];rfl
def II{a:Uc}{U:Env}(f:`xlb)(h:b {`o_,a.map,e-d}=Y `xgC):fn d e b a=Y (.fr,.non):=by
 show (if ⇑a=d then _ else _)=_;rw[Zp f,h];rfl
def pT{b:Ex}{x:Bool}(f:a U=Y (m,.bl x))(e:x=J->b U=Y v)(d:x=B->v=(.fr,.bl B)):nr a b U=Y v:=by
 show (`Db).bind _=_;rw[f,Zw];cases x with
 |true=>calc e L
 |false=>calc ZF Y (d L).symm
def vK{m:Md}{x:Bool}(f:a U=Y (m,.bl x))(e:x=B->b U=Y v)(d:x=J->v=(.fr,.bl J)):eOr a b U=Y v:=by
 show (`Db).bind _=_;rw[f,Zw];cases x with
 |false=>calc e L
 |true=>calc ZF Y (d L).symm
def lU{m:Md}{b:Bool}(h:a U=Y (m,.bl b)):oJ a U=Y (.fr,.bl<|!b):=by
 show (`Db).bind _=_;rw[h];rfl
def oR{x y z:Val}(j:`xmJ)(i:b U=Y y)(h:f x y=Y (.fr,.bl J))(e:c U=Y z)(d:g y z=Y v):ju f g a b c U=Y v:=by
 show (`Db).bind _=_;rw[j,Zw,i,Zw,h,Zw];show (`xeC).bind _=_;calc e ▸ d
def GO(h:`xmJ)(e:b U=Y y)(d:f x y=Y (.fr,.bl B)):ju f g a b c U=Y (.fr,.bl B):=by
 show (`Db).bind _=_;rw[h,Zw,e,Zw,d];rfl
def zj{n:Nat}{i:Int}(b:0<=i)(a:i<n):Pq n i=Y i.toNat:=by rw[Pq,Zp b,Zp a]
def wL(a:i<n):Pq n (i:Int)=Y i:=by
 rw[Pq,Zp<|Vv i,Zp `xla];rfl
def GF(l:Ui)(i:Int)(b:0<=i)(a:`UJ):aM (m,.scr l) (n,.int i)=Y (.fr,.int `xkl):=by
 show (Pq _ i).bind _=_;rw[zj b a,Zw,Zl,Zo `am];rfl
def Eg(t:Tx)(i:Int)(b:0<=i)(a:i<⇑t):aM (m,.str t) (n,.int i)=Y (.fr,.str [t.getD i.toNat 0]):=by
 show (Pq _ i).bind _=_;rw[zj b a,Zw,Zl,Zo `am];rfl
def mn{m:Md}(e:Pk 60 a=J)(d:Pk 60 b=J)(h:eqT a b=r):oEq (m,a) (n,b)=Y (.fr,.bl r):=by
 simp_all
def IW{b:T}(e:Pk 60 a=J)(d:Pk 60 b=J)(h:eqT a b=r):oNe (m,a) (n,b)=Y (.fr,.bl<|!r):=by
 simp_all
def qV{i:Nat}{e:Ex}{U:Env}(d:U[i]?=Y {`sn,.lst l})(b:e U=Y (.fr,v))(a:{`xca,⇑l}):sX (rV i [] aP `xgl) U=Y (.nx<|U.set i<|Y<|.ow<|.lst<|l++[v]):=by
 unfold sX rV;rw[d];show ((Y _).bind _ |>.map _)=_;rw[Zw,(xv b L),Zw];show ((aP `xea [(.fr,v)]).map _ |>.map _)=_;rw[eI a];rfl
def Ct{m n:Md}{x y:Tx}(e:a U=Y (m,.str x))(d:b U=Y (n,.str y))(h:⇑x+⇑y<=16777216):e2 b6 a b U=Y (.fr,.str<|x++y):=e2v e d<|jZ h
def zf{B:Type}{f:T->Option B}(h:c=Y `vz):(S4 c).bind f=f t:=by
 rw[h];rfl
def IM{B:Type}{f:List `xfY->Option B}(h:c=Y {`sn,.dct 0 l}):(RE c).bind f=f l:=by
 rw[h];rfl
end VS
namespace T47
open VS AU
noncomputable abbrev pc(t:T):Ug:=Y `xae
abbrev Q0(i:Int):Option Cell:=Y<|.pu `KE
abbrev Q2(t:Tx):Option Cell:=Y<|.pu<|.str t
noncomputable abbrev oc(t:T):Ug:=Y `xnN
noncomputable def QL(w:`cq):T:=.dct 0<|w.map λp=>(T.str [p.1],T.int (p.2:Int))
noncomputable def QI:Option Nat->T
 |none=>.non
 |some n=>.int (n:Int)
def UA(S:St):v8:=[(1,.lst<|S.lg.map λ(n:Nat)=>T.int (n:Int)),(2,.lst<|S.lk.map QI),(3,.lst<|S.wy.map QL)]
def Ou(S:St)(b:Bool):T:=.obj 1<|(0,.bl b)::UA S
def oa(o:`fg):Ol `xmH=J:=by cases o<;>rfl
theorem fH{α:Type}(f:`xjb)(h:∀a,gy (f a)=J):∀l:List α,cj `C_=J
 |[]=>rfl
 |a::l=>by rw[Zh,cj,h a,fH f h l];rfl
def Co(w:`cq):gy `xmG=J:=by
 show vq _=J
 induction w with
 |nil=>rfl
 |cons p w a=>rw[Zh,vq,a];rfl
def mD(S:St):iQ `xio=J:=by
 have d:gy (.lst<|S.lg.map λ(n:Nat)=>T.int (n:Int))=J:=fH _ (λ_=>rfl) _;have b:gy (.lst<|S.lk.map _)=J:=fH _ (λo=>nq _<|oa o) _;have a:gy (.lst<|S.wy.map _)=J:=fH _ Co _;show ((gy _ && !(1==0&&isT _))&&((gy _ && !(2==0&&isT _))&&((gy _ && !(3==0&&isT _))&&J)))=J;rw[d,b,a];rfl
def MZ(S:St)(b:Bool):vP 1 `xga=Y (.lst<|S.lg.map λ(n:Nat)=>T.int (n:Int)):=rfl
def Od(S:St)(b:Bool):vP 2 `xga=Y {`xba,S.lk.map QI}:=rfl
def NN(S:St)(b:Bool):vP 3 `xga=Y {`xba,S.wy.map QL}:=rfl
def iO{m:Md}{t:T}(h:a U=Y (m,t))(b:vP k t=Y u):bF k a U=Y (sub m u):=by
 unfold bF
 simp_all
def iB{α:Type}{m n:Md}(f:`xjb)(l:`ew)(i:Nat)(d:α)(h:`UJ):aM (m,.lst `C_) (n,.int (i:Int))=Y {`xoB,i}:=by
 show (Pq _ _).bind _=_;rw[Zu,wL h,Zw,ZV,Zo h,Zl,Zo h];rfl
def xw{i:Nat}(h:a U=Y (m,Ou S b))(he:e U=Y (n,.int (i:Int)))(d:{`xbp,i}):e2 aM (bF 1 a) e U=Y (.fr,.int ((S.lg.getD i 0:Nat):Int)):=e2v `xmF he<|iB _ _ i 0 d
def Aq{i:Nat}(h:a U=Y (m,Ou S b))(he:e U=Y (n,.int (i:Int)))(d:i<⇑S.lk):e2 aM (bF 2 a) e U=Y (.fr,QI<|S.lk.getD i M):=(e2v (iO h<|Od S b) he<|iB _ _ i _ d).trans (by
 show Y (up _ _)=_;unfold up;rw[oa];rfl)
def qR{i:Nat}(h:a U=Y (m,Ou S b))(he:e U=Y (n,.int (i:Int)))(d:i<⇑S.wy):e2 aM (bF 3 a) e U=Y (m,QL<|S.wy.getD i []):=e2v (iO h<|NN S b) he<|iB _ _ i [] d
def Kq(h:a U=Y (m,Ou S b)):eN cn {`m6,bF 1 a} U=Y (.fr,.int (⇑S.lg:Nat)):=je (xv `xmF L) (by
 show Y _=_;rw[Zu])
def Jw(a c:Nat):eqT (.str [a]) (.str [c])=(a==c):=by
 show (([a]:Uj)==[c])=(a==c);simp
def uL(w:`cq)(c:Nat):eU (w.map λp=>(T.str [p.1],T.int (p.2:Int))) (.str [c])=(`Z_).map λ(n:Nat)=>T.int (n:Int):=by
 unfold eU gW;rw[List.find?_map];have:((λp:T×T=>eqT p.1<|.str [c]) ∘ λp:Nat×Nat=>(T.str [p.1],T.int (p.2:Int)))=λp:Nat×Nat=>p.1==c:=by
  funext p;exact Jw _ c
 rw[this];cases w.find? _ with
 |none=>rfl
 |some p=>rfl
def LO(w:`cq)(c m:Nat):dput (w.map λp=>(T.str [p.1],T.int (p.2:Int))) (.str [c]) (.int (m:Int))=(`xli).map λp=>(T.str [p.1],T.int (p.2:Int)):=by
 have a:(w.map λp=>(T.str [p.1],T.int (p.2:Int))).any (λp=>eqT p.1<|.str [c])=w.any λp=>p.1==c:=by
  rw[List.any_map];congr 1;funext p;exact Jw _ c
 unfold dput pW;rw[a];split
 .rw[QF,QF];apply YU;intro p _;simp only[Function.comp,Jw];split<;>rfl
 simp_all
def N5(h:a U=Y (m,QL w))(he:e U=Y (n,.str [c])):e2 rW e a U=Y (.fr,.bl (`Z_).isSome):=e2v he h (by
 show (if J=J then Y _ else M)=_;rw[Zp L,uL,X7])
def DG(h:a U=Y (m,QL w))(he:e U=Y (n,.str [c])):e2 dP e a U=Y (.fr,.bl<|!(`Z_).isSome):=e2v he h (by
 show (match (if J=J then Y (Md.fr,T.bl _) else M) with|some (_,.bl b)=>some (Md.fr,T.bl<|!b)|_=>none)=_;rw[Zp L,uL,X7])
def yX(h:a U=Y (m,QL w))(he:e U=Y (n,.str [c]))(d:gW w c=Y v):e2 RF a e U=Y (.fr,.int (v:Int)):=e2v h he (by
 show (if J=J then (eU _ _).map _ else M)=_;rw[Zp L,uL,d];rfl)
def M5(h:a U=Y (m,QL w))(he:e U=Y (n,.str [c])):e2 Dl a e U=Y (.fr,QI `Z_):=e2v h he (by
 show (if J=J then Y _ else M)=_;rw[Zp L,uL];cases gW w c with
 |none=>rfl
 |some v=>rfl)
def Dx{S:St}{v:Nat}(f:i<⇑S.wy)(he:e `fe=Y (n,.int (i:Int)))(l:ec `fe=Y (m,.str [c]))(g:ev `fe=Y (k,.int (v:Int)))(d:⇑(S.wy.getD i [])<16777216) :
  fZ 0 [.fld 3,.ix e] ec ev `fe=Y (.nx<|oc (Ou {S.lg,S.lk,S.wy.set i<|pW (S.wy.getD i []) c v} b)::r):=by
 unfold fZ;rw[g,Zw];refine(zf L).trans ?_;show ((keys _ _).bind _)=_;have j:keys [.fld 3,.ix e] `fe=Y [.fld 3,.at<|.int (i:Int)]:=by
  show ((e _).bind _).map _=_;rw[he];rfl
 rw[j,Zw,l,Zw];have h:pm (nK (m,.str [c]) (k,.int (v:Int))) [.fld 3,.at<|.int (i:Int)] `xga=Y (Ou {S.lg,S.lk,S.wy.set i<|pW (S.wy.getD i []) c v} b,()):=by
  show ((pm _ _ _).map _)=_;have:pm (nK (m,.str [c]) (k,.int (v:Int))) [.at<|.int (i:Int)] {`xba,S.wy.map QL}=Y (.lst<|(S.wy.set i<|pW (S.wy.getD i []) c v).map QL,()):=by
   show ((Pq _ _).bind _)=_;rw[Zu,wL f,Zw,ZV,Zo f];have e1:S.wy.getD i []=S.wy[i]:=by simp_all
   rw[e1]at d ⊢;show ((if J=J/\J=J/\⇑(S.wy[i].map _)<gn then Y _ else M).map _)=_;rw[Zp {rfl,rfl,by rw[Zu];calc d},LO,W5];rfl
  rw[this];rfl
 rw[h];rfl
def DS{S:St}{v:Nat}{r:`xgk}(h:i<⇑S.lk)(he:e `fe=Y (n,.int (i:Int)))(d:ev `fe=Y (.fr,.int (v:Int))) :
  fZ 0 [.fld 2] e ev `fe=Y {`xcn,Ou {S.lg,S.lk.set i `xer,S.wy} b}:=by
 unfold fZ;rw[d,Zw];refine(zf L).trans ?_;show ((keys _ _).bind _)=_;have g:keys [.fld 2] `fe=Y _:=rfl;rw[g,Zw,he,Zw];have f:pm (nK (n,.int (i:Int)) (.fr,.int (v:Int))) [.fld 2] `xga=Y (Ou {S.lg,S.lk.set i `xer,S.wy} b,()):=by
  show ((nK _ _ _).map _)=_;have:nK (n,.int (i:Int)) (.fr,.int (v:Int)) {`xba,S.lk.map QI}=Y (.lst<|(S.lk.set i `xer).map QI,()):=by
   show ((Pq _ _).map _)=_;rw[Zu,wL h,W5];rfl
  rw[this];rfl
 rw[f];rfl
end T47
namespace VS
def wr(a:Bool)(k:Nat)(t:T):T:=if a then mkT k t else t
def exA(l:Uc):List Ia:=l.map λt=>Ia.ex<|eC t
theorem BQ(U:Env):∀l:Uc,rN U `xmE=Y l
 |[]=>rfl
 |t::l=>by
  show ((Y _).bind λv=>(exV v).bind λt=>(rN U `xmE).map _)=_;rw[BQ U l];rfl
theorem zC(U:Env):∀l:Uc,j6 `xmE [] U=U
 |[]=>rfl
 |t::l=>zC U l
theorem Jf:∀l:Uc,PL `xmE=[]
 |[]=>rfl
 |t::l=>Jf l
def ci{r:`xeb}(d:U[i]?=Y {`sn,wr un k t0})(e:rN U r=Y l)(v:PL r=[])(h:∀U,j6 r [] U=U)(o:qG t0=J)(n:gy t0=J)(p:cj l=J)(q:g `xmD=Y ([t1],y)) :
  rq {`xdq,un,r} g U=Y ((.fr,y),U.set i {`sn,wr un k t1}):=by
 have e2:rN U {`xdq,un,r}=Y `xmD:=by
  show (ioV un _).bind _=_;rw[d];have:ioV un (Y {`sn,wr un k t0})=Y t0:=by
   cases un
   .show (if qG t0 then Y t0 else M)=_;rw[Zp o]
   .rfl
  rw[this];rw[e];rfl
 unfold rq;rw[e2,Zw,Zp {Zd.mpr {n,(p)},by show (i::PL r).Nodup;simp_all},q];show Y ((Md.fr,y),j6 r [] _)=_;rw[h,d];cases un<;>rfl
def cx{U:Env}(q:U[i]?=Y (Y c0))(d:nI r U=Y (exA l,U1))(p:U1[i]?=Y {`sn,wr un k t0})(h:qG t0=J)(e:gy t0=J)(n:cj l=J)(o:g `xmD=Y ([t1],y)) :
  aZ {`xdq,un,r} g U=Y ((.fr,y),U1.set i {`sn,wr un k t1}):=by
 have e1:nI {`xdq,un,r} U=Y (.io i un::exA l,U1):=by
  unfold nI;rw[q];rw[d];rfl
 unfold aZ;calc e1 ▸ ci p (BQ _ l) (Jf l) (λU=>zC U l) h e n o
def zH(d:x U=Y ((.fr,t),U1))(h:`xgY)(e:nI r U1=Y (exA l,U2)):nI (.px x::r) U=Y (exA<|t::l,U2):=by
 unfold nI;rw[d,Zw,Zp h,e];rfl
def eQ(h:c U=Y (m,t))(hi:`xgY):xI c U=Y ((.fr,t),U):=by
 unfold xI
 simp_all
def qI(p:a U=Y ((.fr,s),U1))(o:b U1=Y ((.fr,t),U2))(n:f (.fr,s) (.fr,t)=Y (m,u))(h:Ol s=J)(e:`xgY)(d:Ol u=J):x2 f a b U=Y ((.fr,u),U2):=by
 unfold x2;rw[p,Zw,o,Zw,n,Zw,Zp {h,e,(d)}]
def gS(h:x U=Y ((.fr,t),U1))(hi:`xgY)(d:j<⇑U1):eO j x U=Y (.nx<|U1.set j<|Y `xae):=by
 unfold eO
 simp_all
def Ge(h:x U=Y ((.fr,t),U1))(d:`xgY):ot x U=Y (.rt (.fr,t) U1):=by
 unfold ot
 simp_all
def Bv(l:Ui):gq (l.map .int)=J:=by
 induction l with
 |nil=>rfl
 |cons a l d=>calc d
def oW{i:Int}(l:Ui)(h:c U=Y (.fr,.lst<|l.map .int))(e:b U=Y ((.fr,.int i),U1))(n:0<=i)(d:`UJ):oC c b U=Y ((.fr,.int `xkl),U1):=by
 unfold oC;rw[h,Zw];show (`xfX).bind _=_;rw[e,Zw];show (Pq _ i).bind _=_;rw[Zu,zj n d,Zw,ZV,Zo `bi];show (if gq _=J/\Ol _=J then Y _ else M)=_;rw[Zp {Bv l,rfl},Zl,Zo `bi];rfl
def He{U:Env}{n:Nat}{c:Cell}{i:Int}(l:`cr)(h:U[n]?=Y `xjd)(q:b U=Y ((.fr,.int i),U1))(p:U1[n]?=Y (Y d))(o:j7 d=.lst (l.map .str))(v:0<=i)(e:`UJ):mS n b U=Y ((.fr,.str<|l.getD i.toNat []),U1):=by
 unfold mS;rw[h];show (`xfX).bind _=_;rw[q,Zw];rw[p];show (lsT<|j7 d).bind _=_;rw[o];show (Pq _ i).bind _=_;rw[Zu,zj v e,Zw,ZV,Zo `bi];rw[Zl,Zo `bi];rfl
def Aa{i:Int}(h:x U=Y ((.fr,.int i),U1)):pN (Y x) U=Y (Y i,U1):=by
 show (`xfM).bind _=_;rw[h];rfl
def I0{lo hi:`xiy}(h:a U=Y ((.fr,.str w),U1))(e:pN lo U1=Y (p,U2))(d:pN hi U2=Y (q,U3)):xSl a lo hi U=Y ((.fr,.str<|cut w p q),U3):=by
 show (`Db).bind _=_;rw[h,Zw];show (pN lo U1).bind _=_;rw[e,Zw];rw[d];rfl
def uK{e:`gY}{h n:Uc}{v:Val}(q:⇑h+1=o/\⇑e=⇑h)(w:d ((Y (.ow<|mkT 1 t0)::List.zipWith qZ e (markL 1 e h))++List.replicate (p-o) M)=Y `xmI)(z:qC U 0 (J::e)=Y n)(C:DU n v=J)(A:cj n=J):Z7 o p e d (t0::h)=Y (n,v.2):=by
 dsimp only[Z7];rw[Zp q,w,Zw]
 simp_all
def Jk(h:d U=Y (J,U1)):wm d p q U=p U1:=by
 unfold wm;rw[h];rfl
def wB(h:d U=Y (B,U1)):wm d p q U=q U1:=by
 unfold wm;rw[h];rfl
def DI(h:c U=Y (m,.bl B)):kX c d U=Y (B,U):=by
 unfold kX;rw[h];rfl
def DH(h:c U=Y (m,.bl J)):kX c d U=d U:=by
 unfold kX;rw[h];rfl
def IB{b:Bool}(h:x U=Y ((.fr,.bl b),U1)):xtV x U=Y (b,U1):=by
 unfold xtV;rw[h];rfl
def Ax{i j:Int}(e:a U=Y ((.fr,.int i),U1))(d:b U1=Y ((.fr,.int j),U2)):xtV (x2 oEq a b) U=Y (i==j,U2):=IB<|qI e d (mn L L L) L L L
def JL{f:Val->Ue->Ud}{x:Val}(p:o U=Y x)(n:e U=Y d)(h:f x d=Y v):eM f o e U=Y v:=by
 simp_all
def Hj(h:x U=Y ((m,t),U1))(d:j<⇑U1):vQ j x U=Y (.nx<|U1.set j `vz):=by
 unfold vQ
 simp_all
end VS
namespace T47
open VS
abbrev sp(a:Bool)(n:Int):Ug:=oc<|wr a 1<|.lst [.int n]
def JF(n m:Int)(h:0<m/\m<1073741824):aw [.lst [.int n],.int m]=Y ([.lst [.int<|n/m]],.int<|n%m):=by
 have s1:aY 2 (e2 _ {`sK,eUn `cm,`lz} `cv) [sp _ n,pc _,M]=Y (.nx [sp J n,pc _,pc _]) :=
  aG {`OW,gM h.1} `ao (by show 2<3;decide)
 exact uK (v:=(.fr,.int _)) {rfl,(rfl)} ((`xao).trans ((ar (by
  unfold fZ;rw[e2v (f:=oE) (x:=(.fr,.int n)) (y:=(.fr,.int m)) (U:=[sp _ n,pc _,pc _]) (a:=e2 _ _ _) (b:=`cv) L L<|mV h];rfl)).trans L)) L L L
section
variable{n m:Int}
def nx{U:Env}(a:0<m/\m<1073741824)(g:U[i]?=Y (Y c0))(e:x U=Y ((.fr,.int m),U1))(f:U1[i]?=Y (sp un n)):∃d b,0<=d/\d<m/\aZ [.io i un,.px x] aw U=Y ((.fr,.int d),U1.set i<|sp un b) :=
 {_,_,X3 _ `am,XX _ a.1,cx g (zH e L L) f L L L<|JF n m a}
end
def yB{i:Int}(h:x (Q0 i::U)=Y ((.fr,t),c::d))(f:`xgY)(e:jK x r d=Y (a,b)):jK x (i::r) U=Y (t::a,b):=by
 unfold jK
 simp_all
def LA(L:Tx)(a n:Int)(v:0<⇑L)(A:⇑L<1000)(y:0<=a)(w:a<1000):∃(b:Int)(t:Tx),fF [.lst [.int n],.str L,.int a]=Y ([.lst [.int b]],.str t)/\⇑t<=a.toNat/\∀c∈t,c∈L:=by
 have loop:∀(r:List _)(n:Int),∃(b:Int)(s:Tx),jK (x2 aM (xI `gi)<|aZ [`xmK,{`pp,eN cn `b5}] aw) r [sp J n,Q2 L,Q0 a]=Y (s.map λc=>T.str [c],[sp J b,Q2 L,Q0 a])/\⇑s=⇑r/\∀c∈s,c∈L:=by
  intro r
  induction r with
  |nil=>intro n;exact{n,[],rfl,rfl,λ_ h=>nomatch h}
  |cons i r p =>
   intro n;exists nx (i:=1) (x:=xI `Fa) (U:=[pc _,sp _ n,Q2 L,pc _]) `am rfl `Uf rfl,d,f,g,o,e;exists p f,b,s,j,hs,l;have hd:d.toNat<⇑L:=by lia
   refine{b,L.getD _ 0::s,yB (qI `Uf e (Eg L d g o) rfl rfl rfl) rfl j,by simp_all,λc C=>?_};grind
 exists nx (i:=0) (x:=xI {`K_,`gi}) (U:=[sp _ n,pc _,Q0 a]) `am rfl `Uf rfl,d,f,g,o,e;exists loop (iot 0 d.toNat) f,b,s,j,hs,l;have q:⇑s=d.toNat:=by rw[hs];unfold iot;grind
 refine{b,s,?_,by lia,l};have u:vX (aZ [`vu,{`pp,e2 b6 `gi `jl}] aw) (x2 aM (xI `gi)<|aZ [`xmK,{`pp,eN cn `b5}] aw) [sp J n,Q2 L,Q0 a]=Y (s.map λc=>T.str [c],[sp J b,Q2 L,Q0 a]):=by
  unfold vX;rw[e,Zw];show (if 0<=d/\d<1000000 then jK _ _ _ else M)=_;rw[Zp {g,by lia}];exact j
 calc uK (U:=[sp J b,Q2 L,Q0 a]) {rfl,(rfl)} (Ge ?_ rfl) rfl rfl rfl;refine(ZF (λz=>Option.bind z _) u).trans ?_;have:=sZ (m:=.fr) (n:=.fr) (strs_map _ s) (by rw[gP];lia);rw[gP]at this;show (pY _ _).map _=_;rw[this];rfl
noncomputable def az:Tx:=[97,98,99,100,101,102,103,104,105,106,107,108,109,110,111,112,113,114,115,116,117,118,119,120,121,122]
def JK:∀c∈az,97<=c/\c<=122:=by decide
def getD_mem'{l:Tx}(h:`UJ):l.getD i 0∈l:=by
 simp_all
def Gf(n:Int):∃(q:Int)(s:Tx),iF [.lst [.int n]]=Y ([.lst [.int q]],.str s)/\0<⇑s/\⇑s<=26/\∀c∈s,97<=c/\c<=122:=by
 exists nx (i:=0) (x:=xI `xmM) (U:=[sp _ n,pc _,M,M,M]) `ao L (eQ L L) L,d,p,A,z,e;have r:∀k,k<8->1<=([2,1,3,2,4,2,3,26]:Ui).getD k 0/\([2,1,3,2,4,2,3,26]:Ui).getD k 0<=26:=by decide
 have f1:=r d.toNat `am;have g:=gS (oW (c:={`M2,Q3 2}) ([2,1,3,2,4,2,3,26]) L e A z) L (by show 2<5;decide);generalize ([2,1,3,2,4,2,3,26]:Ui).getD _ 0=Te at f1 g;exists nx (i:=0) (x:=xI<|Q3 26) (U:=[sp _ p,pc _,pc _,M,M]) `ao L (eQ L L) L,a,o,H,G,e3;exists nx (i:=0) (x:=xI<|Q3 4) (U:=[sp _ o,pc _,pc _,pc _,M]) `ao L (eQ L L) L,y,h,E,D,w;have f:=gS (oW (c:={`xcM,`jl,{`zn,25,7}}) ([1,3,25,7]) L w E D) L (by show 4<5;decide);have hs:∀k,k<4->0<=([1,3,25,7]:Ui).getD k 0/\([1,3,25,7]:Ui).getD k 0<=26:=by decide
 have u:=hs y.toNat `am;generalize ([1,3,25,7]:Ui).getD _ 0=st at u f;have C:=gU (k:=1) (tg:=`xgE) (it:=iH `gi) (elt:=e2 _ `gi<|e2 _ (e2 b6 `gt<|e2 _ `Z9 `cm)<|Q3 26) (U:=[sp J h,pc _,Q0 Te,Q0 a,Q0 st]) _ _ _ (by
   rw[jq L `am,lY]) L (by rw[Yt];lia) λj F=>{_,rfl,by
   calc e2v L {`xcl,e2v L {`OW,lW `bi} L}<|Eg az _ (X3 _ `ao)<|XX _ `ao}
 have l:=sZ (m:=.fr) (n:=.fr) (strs_map _ _) (by rw[show (List.range _).map (λ(j:Nat)=>[az.getD _ 0])=(({`m_,Te.toNat}).map λ(j:Nat)=>az.getD ((a+st*(j:Int))%26).toNat 0).map (λx=>[x]) from by rw[QF];rfl,gP,Zu,Yt];lia);rw[show (List.range _).map _=((List.range _).map _).map (λx=>[x]) from by rw[QF];rfl,gP]at l;refine{h,({`m_,Te.toNat}).map λ(j:Nat)=>az.getD ((a+st*(j:Int))%26).toNat 0,uK (v:=(.fr,.str _)) {rfl,(rfl)} ((`xgX).trans<|(ar g).trans<|(ar<|gS e3 L (by show 3<5;decide)).trans<|(ar f).trans<|dr ?_) L L L,by grind,by simp_all,λc t=>?_}
 .exact JL L (xv C L) l
 .exists ZW.mp t,j,_,rfl;have:=X3 (a+st*(j:Int)) (b:=26) `ao;have:=XX (a+st*(j:Int)) (b:=26) `ao;calc JK _<|getD_mem' (by show _<26;lia)
theorem kh{β:Type}{tg:Tg}{body:Sx}(g:β->T)(Inv:List β->Env->Prop)(h:∀t r U,Inv `xkK U->∃f e,tg (g t) U=Y f/\body f=Y (.nx e)/\Inv r e):∀(l:`xfK)(U:Env),Inv l U->∃i,forL tg body `xja U=Y (.nx i)/\Inv [] i
 |[],U,d=>{U,rfl,(d)}
 |t::l,U,d=>by
  calc Oo (h t l U d) λf e=>oe λe1 e2 b=>?_;exists kh g _ h l _ b,i,e3,a;exact{_,(cQ e1 e2).trans e3,a}
noncomputable def Az(t:Tx):Prop:=∀c∈t,97<=c/\c<=122
abbrev EB(n:Int)(L:Tx)(a:Int)(f:`cr)(e d b:Ug):Env:=[sp J n,Q2 L,Q0 a,oc {`xba,f.map .str},e,d,b]
section
variable{L:Tx}{many:Int}
def nxB(n m:Int)(b:0<m/\m<1073741824){c:Ex}(e:c {`Q1,L}=Y (.fr,.int m)):∃d a,0<=d/\d<m/\aZ [.io 0 J,.px<|xI c] aw {`Q1,L}=Y ((.fr,.int d),EB a L many bk z4 z5 z6) :=
 nx b rfl (eQ e rfl) rfl
def txB{bk:`cr}{z4 z5 z6:Ug}(g:0<⇑L/\⇑L<=26/\Az L)(n d a:Int)(f:0<=a/\a<1000){x:Xx}(i:x {`Q1,L}=Y ((.fr,.int a),EB d L many bk z4 z5 z6)):∃(b:Int)(t:Tx),⇑t<=a.toNat/\Az t/\aZ [.io 0 J,.px<|xI `cv,.px x] fF {`Q1,L}=Y ((.fr,.str t),EB b L many bk z4 z5 z6):=by
 calc Oo (LA L _ d g.1 `am f.1 f.2) λb t=>oe λe m j=>?_;exact{b,t,m,λc h=>g.2.2 c<|j c h,cx (r:=[.px _,.px x]) (l:=[.str L,.int _]) rfl (zH `Uf rfl (zH i rfl rfl)) rfl rfl rfl rfl e}
end
def Ci(h:Az t):Az (cut t p q):=λc a=>h c<|Ik t p q a
def ya(h:Az s)(g:Az t):Az `xnK:=λc a=>(Zf.mp a).elim (h c)<|g c
def ES(t:Tx)(k:Nat):⇑(cut t M<|Y (k:Int))<=k:=by
 rw[yP];calc List.length_take_le _ _
def Gr:∀k,k<8->0<=([2,1,3,2,4,0,1,8]:Ui).getD k 0/\([2,1,3,2,4,0,1,8]:Ui).getD k 0<=8:=by decide
def Fl:∀k,k<4->0<=([6,3,10,8]:Ui).getD k 0/\([6,3,10,8]:Ui).getD k 0<=10:=by decide
def nB{l:`cr}{i:Nat}(h:`UJ):l.getD i []∈l:=by
 simp_all
def Bi{L:Tx}(R:0<⇑L/\⇑L<=26/\Az L){h:Int}(Q:∀t∈bk,⇑t<=14/\Az t)(h8:⇑bk<8)(n:Int)(E z6:Ug) :
  ∃(r:Int)(t:Tx)(o l:Ug),k8 (EB n L h bk (Q0 (⇑bk:Int)) E z6)=Y (.nx<|EB r L h (bk++[t]) (Q0 (⇑bk:Int)) o l)/\⇑t<=14/\Az t:=by
 exists nxB (bk:=bk) n 4 `ao (c:=eC _) rfl,d,O,d0,d1,e;have g:=Fl d.toNat `am;calc Oo (txB R n O _ {g.1,by lia}<|oW (c:={`xcM,Q3 6,{`zn,10,8}}) _ rfl e d0 d1) λx t=>oe λht z QC=>?_;have s:⇑t<=14:=by lia
 have s1:=gS QC rfl (by show 5<7;decide);have fin:∀(r:Int)(t:Tx)(l:Option _),⇑t<=14->Az t->∃(y:Int)(v:Tx)(o p:Option _),sX (rV 3 [] _<|ae `Z9 _) (EB r L h bk (Q0 (⇑bk:Int)) `xin l)=Y (.nx<|EB y L h (bk++[v]) (Q0 (⇑bk:Int)) o p)/\⇑v<=14/\Az v:=λr t l U S=>by
  calc Oe r t `xin l {?_,U,S};rw[qV rfl rfl (by rw[Zu];lia)];grind
 by_cases hk:⇑bk=0
 .exists fin x t z6 s z,q,t3,a,b,f1,f2;calc Oe q t3 a b {(`xao).trans<|(ar<|(wB<|DI (m:=.fr) ?_).trans rfl).trans f1,f2};calc e2v rfl rfl ?_;show Y _=_;rw[ZP `am]
 .exists nxB (z6:=z6) x 4 `ao (c:=eC _) rfl,D,q,a0,a1,e3;have tt:kX {`xcE,Tv,`lz} (xtV<|x2 oEq (aZ [`vu,{`pp,Q3 4}] aw) `xht) (EB x L h bk (Q0 (⇑bk:Int)) `xin z6)=Y (D==1,EB q L h bk (Q0 (⇑bk:Int)) `xin z6):=by
   refine(DH (m:=.fr) ?_).trans<|Ax e3 `Uf;calc e2v rfl rfl ?_;show Y _=_;rw[ZI `am]
  cases hd:(D==1) with
  |false =>
   rw[hd]at tt;exists fin q t z6 s z,u,t3,a,b,f1,f2;calc Oe u t3 a b {(`xao).trans {`tf,ar,(wB tt).trans rfl,f1},f2}
  |true =>
   rw[hd]at tt;exists nxB (z4:=Q0 (⇑bk:Int)) q _ `am (c:=`gt) rfl,d3,u,b0,b1,Z;have A:=gS (He (n:=3) bk rfl Z rfl rfl b0 b1) rfl (by show 6<7;decide);have C:=Q _<|nB (i:=d3.toNat) `am;generalize bk.getD _ []=old at A C;exists nxB (z6:=Q2 old) u _ `am (c:={`K_,`jf}) rfl,d4,w,_,_,X;have P:=KD old (Y d4) M;have H:xI `xec (EB u L h bk (Q0 (⇑bk:Int)) `xin<|pc _)=Y ((.fr,.str old),_):=eQ rfl rfl;have G:xI `Z9 (EB w L h bk (Q0 (⇑bk:Int)) (pc _)<|Q2 old)=Y ((.fr,.str t),_):=eQ rfl rfl;have F:xI (eC _) (EB w L h bk (Q0 (⇑bk:Int)) `xin<|Q2 old)=Y ((.fr,.int 14),_):=eQ rfl rfl;exists fin w _ _ (ES _ 14) (Ci<|ya (Ci C.2) z),N,t3,a,b,f1,f2;calc Oe N t3 a b {(`xao).trans<|(ar<|(Jk tt).trans<|(ar A).trans<|gS (j:=5) (I0 (qI (f:=b6) (I0 (hi:=M) H (Aa X) rfl) G (jZ `am) rfl rfl rfl) (lo:=M) rfl (Aa F)) rfl (by show 5<7;decide)).trans f1,f2}
def Lw{b:`cr}(h:∀t∈b,⇑t<=14):({`x4,b.map}).sum<=14*⇑b:=by
 induction b with
 |nil=>calc Zq _
 |cons a l d =>
  grind
def CG(n:Int)(a:`cr):DU [.lst [.int n]] (.fr,.lst `Ua)=J:=by
 unfold DU;rw[Bool.or_eq_true];calc .inr ?_;show (a.map _).all _=J;calc VX ▸ ZC.mpr λ_ _=>rfl
def CO(l:`cr)(h:`xkZ):aM (m,.lst<|l.map .str) (n,.int<|-1)=Y (.fr,.str<|l.getD {`xcr,1} []):=by
 show ((Pq _ _).bind _)=_;have:Pq ⇑(l.map T.str) (-1)=Y {`xcr,1}:=by
  unfold Pq;rw[Zu,Zn `ao,Zp `am];congr 1;lia
 rw[this,Zw,ZV,Zl,Zo `bi];rfl
theorem Ga(w:Tx):∀k,({`oD,k,w}).flatten.length=k*⇑w
 |0=>by rw[Nat.zero_mul];rfl
 |k+1=>by simp_all
def dQ{l:`cr}(h:⇑l=2):∃a b,l=[a,b]:=by
 rcases l with _|⟨a,_|⟨b,_|⟨c,r⟩⟩⟩
 .cases h
 .cases h
 .exact{a,b,(rfl)}
 .cases h
def Js{L:Tx}(hL:0<⇑L/\⇑L<=26/\Az L)(n:Int):∃(G:Int)(bk:`cr),jt [.lst [.int n],.str L]=Y ([.lst [.int G]],.lst `fb)/\⇑bk<=8/\({`x4,bk.map}).sum<=120/\∀t∈bk,Az t:=by
 exists nx (i:=0) (x:=xI `xmM) (U:=[sp _ n,Q2 L,M,M,M,M,M]) `ao rfl `Uf rfl,d,n1,d0,d1,e;have hf:=Gr d.toNat `am;have s1:=gS (oW (c:={`R1,8}) ([2,1,3,2,4,0,1,8]) rfl e d0 d1) rfl (by show 2<7;decide);generalize ([2,1,3,2,4,0,1,8]:Ui).getD _ 0=many at hf s1;exists kh (tg:=bC 4) (λ(k:Nat)=>T.int _) (λr U=>∃(n:Int)(bk:`cr)(q p o:Option _),U=EB n L many bk q p o/\r=List.range' ⇑bk ⇑r/\(∀t∈bk,⇑t<=14/\Az t)/\⇑bk+⇑r=many.toNat) (by
  rintro k r _ ⟨n,bk,q,p,o,rfl,hr,hb,hl⟩;rw[Za]at hl;rw[Za,Um]at hr;exists WN hr,rfl,O;exists Bi hL hb `am n p o,G,t,z5',z6',e,h1,h2;calc SJ ⟨rfl,e,PM G _ _ _ _ {rfl,Zr ▸ O,λu N=>?_,by rw[Zr,Ti];lia}⟩;obtain h|h:=Zf.mp N
  .exact hb u h
  .exact ZK.mp h ▸ {h1,(h2)}) {`m_,many.toNat} _ (PM n1 [] _ _ _ {rfl,Yt ▸ VF,(λ_ h=>nomatch h),by simp_all}),U',f1,F,bk,q,p,o,rfl,_,hb,hlen
 have P:⇑bk=many.toNat:=hlen;have fin:∀{C:Int}{Q:`cr}(b:Sx),b _=Y (.nx<|EB C L many _ q p o)->Z7 2 7 [false] (aq (eO 2<|oC _<|aZ [`vu,(.px _)] _)<|aq (j4 3 `xle)<|aq (jg _ (iH `gi) _)<|aq b `xkm) [.lst _,.str L]=Y ([.lst _],.lst<|Q.map _):=λb hb =>
  uK {rfl,(rfl)} ((`xao).trans ((ar rfl).trans ((ar (by
  refine(cG (m:=.fr) ?_ rfl).trans f1;rw[jq (m:=.fr) (j:=many) rfl `am,lY])).trans {`tf,ar,hb,rfl}))) rfl (CG _ _) rfl
 have v:⇑bk<=8/\({`x4,bk.map}).sum<=120/\∀t∈bk,Az t:=⟨by lia,by have:=Lw λt D=>(hb t D).1;lia,λt D=>(hb t D).2⟩
 exists nxB F 6 `ao (c:=eC _) rfl,d2,C,a0,a1,e3;by_cases hm:0<many/\many<3
 .have tt:kX {`xdH,Q3,3} (xtV<|x2 oEq (aZ [`vu,{`pp,Q3 6}] aw) `xht) {`xbO,F}=Y (d2==1,EB C L many bk q p o):=by
   refine(DH (m:=.fr)<|oR rfl rfl ?_ rfl ?_).trans<|Ax e3 `Uf
   .exact kY<|ZI hm.1
   exact kY<|ZI hm.2
  cases hd:(d2==1) with
  |false =>
   rw[hd]at tt;calc Pd C bk {fin _ {`tf,wB,tt,rfl},v}
  |true =>
   rw[hd]at tt;have l:0<⇑bk:=by lia
   exists txB hL C C 24 `ao (x:=xI<|Q3 24) `Uf,n4,t,D,hz,e4;exists nxB n4 2 `ao (c:=Q3 2) rfl,y,n5,b0,b1,e5;have i0:e2 aM `fw `lz {`xbO,C}=Y (.fr,.str<|bk.getD 0 []):=e2v rfl rfl (iB T.str bk 0 [] l);have i1:e2 aM `fw (Q3<|-1) {`xbO,n4}=Y (.fr,.str<|bk.getD `xim []):=e2v rfl rfl (CO bk l);have Z:=hb _<|nB l;have X:=hb _<|nB (i:=`xim) `am;generalize hA:bk.getD 0 []=A at i0 Z;generalize bk.getD `xim []=B at i1 X;have S:=qI (qI (eQ i0 rfl) e4 (jZ `am) rfl rfl rfl) (eQ i1 rfl) (jZ (by rw[Zr];lia)) rfl rfl rfl;have xr:=qI (f:=b6) (eQ (c:=`jl) rfl rfl) e5 rfl rfl rfl rfl;have g:⇑(A++t++B)<=52:=by rw[Zr,Zr];lia
   have s:=ya (ya Z.2 hz) X.2;generalize A++t++B=w at S g s;have R:=qI S xr (f:=EI) (by
    show (if ⇑w*(1+y).toNat<=16777216/\-4611686018427387904<=1+y/\1+y<4611686018427387904 then _ else _)=_;rw[Zp ⟨by
     have:w.length*(1+y).toNat<=52*2:=Nat.mul_le_mul g `am;lia,by lia,by lia⟩]) rfl rfl rfl
   have H:(`xab).flatten.length<=104:=by
    rw[Ga];have:(1+y).toNat*⇑w<=2*52:=Nat.mul_le_mul `am g;omega
   have E:Az (`xab).flatten:=λc hc=>by
    exists Ul.mp hc,u,N,QU;rw[({`xoz,N}).2]at QU;exact s c QU
   generalize (`xab).flatten=W at R H E;refine Pd n5 (bk.set 0 W) {fin _<|(Jk tt).trans ?_,?_}
   .refine(ZF (λz=>Option.bind z _) R).trans ?_;show ((((Pq ⇑(`xnV) 0).map λj=>(T.lst<|(`xnV).set j<|.str W,())).map _))=_;rw[Zu,show Pq ⇑bk 0=Y 0 from wL l]
    simp_all
   .have:bk.length=1\/⇑bk=2:=by lia
    obtain h|h:=this
    .exists List.length_eq_one_iff.mp h,a,rfl;refine{by show 1<=8;decide,by show ⇑W+0<=120;lia,λt D=>?_};exact ZK.mp (D) ▸ E
    .exists dQ h,a,b,rfl;have hbb:=hb b (by simp);refine{by show 2<=8;decide,by show ⇑W+(⇑b+0)<=120;lia,λt D=>?_};grind
 .exact Pd F bk {fin _ ((wB (by
   calc DI (m:=.fr) ?_;by_cases h0:0<many
   .exact oR rfl rfl (kY<|ZI h0) rfl (kY<|ZP λz=>hm {h0,(z)})
   .exact GO rfl rfl (kY<|ZP h0))).trans rfl),v}
noncomputable abbrev s1(c:Nat):T:=.str [c]
def eq_int{i:Int}(k:Int)(h:a U=Y (m,.int i)):e2 oEq a (Q3 k) U=Y (.fr,.bl<|i==k):=e2v h L<|mn L L L
def mul_r{i j:Int}(h:-18446744073709551616<j/\j<18446744073709551616):m8 (m,.int i) (n,.int j)=Y (.fr,.int<|i*j):=Zp<|.inr h
def vR(d:Ui)(G:⇑d<=63)(k:Nat)(N:k<1000):∃n,fz [.scr d,.int k]=Y (.fr,.lst [.int n]):=by
 have s1:aY 2 (e2 b6 (e2 _ `cv<|eC _)<|Q3 _) [pc _,pc _,M,M,M,M,M]=Y (.nx [pc `xek,pc _,Q0<|(k:Int)*7919+104729,M,M,M,M]) :=
  aG (e2v {`OW,lW `am} L L) `ao (by show 2<7;decide)
 have o:∃c,P6 (e2 Tv `hB `lz) `E_ eR [pc `xek,Q0 k,Q0<|(k:Int)*7919+104729,M,M,M,M]=Y (.nx [pc `xek,Q0 k,Q0 c,M,M,M,M]):=by
  have z:e2 Tv `hB `lz [pc `xek,Q0 k,Q0<|(k:Int)*7919+104729,M,M,M,M]=Y _:=e2v L L L;by_cases h:0<⇑d
  .exact{_,(u9<|z.trans<|by rw[ZI `am]).trans<|aG (e2v (e2v L {`OW,gM `am}<|GF d _ (X3 _ (b:=(⇑d:Int)) `am)<|XX _ (b:=(⇑d:Int)) `am) (e2v {`OW,mV `am} L<|mul_r `ao) L) `ao (by show 2<7;decide)}
  .exact{_,(oN<|z.trans<|by rw[ZP `am]).trans L}
 ext o c o;have p:e2 _ (e2 _ `gi<|eC _) _ [pc `xek,Q0 k,pc _,M,M,M,M]=Y (.fr,.bl<|c%2==0):=eq_int 0 {`OW,gM `ao};cases hb:(c%2==0) with
 |true =>
  rw[hb]at p;refine{c/2,dg L<|(`xao).trans<|(ar o).trans<|jr<|(u9 p).trans<|dr ?_};unfold fS;rw[xv {`OW,mV `ao} L];rfl
 |false =>
  rw[hb]at p;have t:=aG (U:=[pc `xek,Q0 k,Q0 c,M,M,M,M]) (e2v (e2v (f:=b6) {`xdT,`gi,Q3 2,mV} {`xdT,Q3 40503,`cv,lW} L) (b:=Q3 2147483629) L<|gM `ao) `ao (by show 3<7;decide);have u:=X3 (c/2+40503*(k:Int)) (b:=2147483629) `ao;have D:=XX (c/2+40503*(k:Int)) (b:=2147483629) `ao;generalize (c/2+40503*(k:Int))%2147483629=left at t u D;exists kh (tg:=bC 5) (body:=jz) _ (λr U=>∃(l n:Int)(q g:Option _),U=[pc `xek,Q0 k,Q0 c,Q0 l,Q0 n,q,g]/\0<=l/\l<2147483647/\∀j∈r,j<24) (by
   rintro j r _ ⟨l,n,q,g,rfl,h0,O,s⟩;have C:aY 3 (e2 _ (e2 b6 (e2 b6 (e2 _ `fw<|eC _)<|e2 _ (eC _) `Z9) `jl)<|eC _) [pc _,pc _,pc _,pc _,pc _,pc _,g]=Y (.nx [pc `xek,Q0 k,Q0 c,Q0<|(l*69621+7*(j:Int)+1)%2147483647,Q0 n,pc _,g]) :=
    aG {`xcl,e2v (e2v {`OW,lW `am} {`OW,lW `ao} L) L L} `ao (by show 3<7;decide)
   have w:=X3 (l*69621+7*(j:Int)+1) (b:=2147483647) `ao;have v:=XX (l*69621+7*(j:Int)+1) (b:=2147483647) `ao;generalize (l*69621+7*(j:Int)+1)%2147483647=e at C w v;have A:aY 6 (e2 _ (e2 _ `fw `fw)<|eC _) [pc _,pc _,pc _,pc _,pc _,pc _,g]=Y (.nx [pc `xek,Q0 k,Q0 c,pc _,Q0 n,Q0 (j:Int),Q0<|e*e%2147483629]) :=
    aG {`xcl,{`OW,lW `am}} `ao (by show 6<7;decide)
   have F:=X3 (e*e) (b:=2147483629) `ao;have E:=XX (e*e) (b:=2147483629) `ao;generalize e*e%2147483629=mo at A F E;calc SJ ⟨rfl,(ar C).trans<|(ar A).trans<|aG (m:=.fr) (e2v (e2v (x:=(.fr,.int n)) (y:=(.fr,.int _)) L L<|mul_r `ao) (e2v (e2v (x:=(.fr,.int mo)) L (e2v (e2v (x:=(.fr,.int mo)) (y:=(.fr,.int _)) L L<|gM `ao) (y:=(.fr,.int 3)) L L)<|lW `am) (y:=(.fr,.int _)) L<|gM `ao) L) `ao (by show 4<7;decide),Oe e _ _ _ {rfl,w,v,λi H=>s i<|Zs _ H}⟩) _ _ (Oe _ 0 _ _ {rfl,u,by lia,λj s=>Yu.mp s}),P,f1,l,n,q,g,rfl,_
  refine{n,dg L ((`xao).trans ((ar o).trans (({`xaU,p}).trans ((ar t).trans ((`xgX).trans ((ar (by
   refine(cG (m:=.fr) ?_ L).trans f1;rw[jq (m:=.fr) (j:=24) L `ao,lY];rfl)).trans (dr ?_)))))))}
  rfl
open AU
def mK{n:Nat}{b:Env}{m:Md}(e:c U=Y (m,.bl J))(d:a U=Y (.nx b)):dc c a `xjF U=dc c a n b:=by
 show (`xeC).bind _=_;rw[e];show (if J=J then (`Db).bind _ else Y `xgC)=_;rw[Zp L,d];rfl
def eY(b:c U=Y (m,.bl B)):dc c a `xjF U=Y `xgC:=by
 show (`xeC).bind _=_;rw[b];rfl
def jV{mv:`gY}{as:OG}{e:St}{b:Bool}{r:`xgk}(i:as `fe=Y a)(d:argsOk mv a=J)(j:cj `xaz=J)(h:g `xio `xaz=Y (UA e,v))(f:Ol v=J) :
  bX 0 [] 0 mv g as `fe=Y ((.fr,v),oc (Ou e b)::r):=by
 show ((Y _).bind λl=>(as _).bind _)=_;rw[Zw,i,Zw];show ((if 1=0+1/\iQ _=J/\argsOk mv a=J/\cj _=J then (g _ _).bind _ else M).map _)=_;rw[Zp {rfl,mD S,d,j},h,Zw,Zp {mD e,f}];rfl
def J3{e:Ex}{S:St}{b:Bool}{r:`xgk}{v:Nat}(h:e `fe=Y (.fr,.int (v:Int)))(f:{`xca,⇑S.lg}):sX (k9 0 [.fld 1] aP `xgl) `fe=Y (.nx<|oc (Ou {S.lg++[v],S.lk,S.wy} b)::r):=by
 show (((Y _).bind λd=>(ae e _ _).bind λa=>(pm `xfb d _).map _).map _)=_;rw[Zw,xv h L,Zw];show (((aP (.lst _) [(.fr,.int _)]).map _).map _ |>.map _)=_;rw[eI<|by simp_all,show (S.lg.map _)++[.int _]=(S.lg++[v]).map λ(n:Nat)=>T.int _ from by rw[Rn];rfl];rfl
def Ly{e:Ex}{S:St}{b:Bool}{r:`xgk}{v:`fg}(h:e `fe=Y (.fr,QI v))(f:{`xca,⇑S.lk}):sX (k9 0 [.fld 2] aP `xgl) `fe=Y (.nx<|oc (Ou {S.lg,S.lk++[v],S.wy} b)::r):=by
 show (((Y _).bind λd=>(ae e _ _).bind λa=>(pm `xfb d _).map _).map _)=_;rw[Zw,xv h L,Zw];show (((aP (.lst _) [(.fr,QI v)]).map _).map _ |>.map _)=_;rw[eI<|by simp_all,show (S.lk.map _)++[QI v]=(S.lk++[v]).map _ from by rw[Rn];rfl];rfl
def KS(o:`fg):up .pu `xmH=(.fr,QI o):=by
 unfold up;rw[oa];rfl
def DX(S:St)(l:Nat)(o:`fg)(w:`cq)(d:{`xca,⇑S.lg})(a:{`xca,⇑S.lk})(g:{`xca,⇑S.wy}):bq `xio [.int (l:Int),QI o,QL w]=Y (UA {S.lg++[l],S.lk++[o],S.wy++[w]},.int (⇑S.lg:Int)):=by
 have f:=dr (e:=e2 yn (eN _<|ae `xgZ _) `jl) (U:=[oc<|Ou {_,S.lk++[o],S.wy++[w]} J,Q0 (l:Int),pc `xmH,M]) (e2v (Kq L) L (by
  show Y (Md.fr,T.int<|((⇑(S.lg++[l]):Nat):Int)-1)=_;rw[Zr,Ti,show (((⇑S.lg+1:Nat)):Int)-1=(⇑S.lg:Int) by lia]))
 unfold bq Rj;rw[Zp {rfl,(rfl)}];have body:=(ar (b:=aq _<|aq (yz 0 [.fld 3] 3) _)<|J3 (S:=S) (b:=J) (r:=[pc _,pc _,oc _]) (e:=`cv) (v:=l) L d).trans ((ar<|Ly (S:={S.lg++[l],_,_}) (b:=J) (r:=[pc _,pc _,oc _]) (e:=`gi) (v:=o) (ZF _<|KS o) a).trans ((ar (by
  show ((aP (.lst _) [(.fr,QL w)]).map _ |>.map _)=_;rw[eI<|by simp_all,show (S.wy.map _)++[QL w]=(S.wy++[w]).map _ from by rw[Rn];rfl];rfl)).trans f))
 calc ZF (λz:Option _=>z.bind _) body
def Kb(u:97<=c/\c<=122):∀(k:Nat)(S b:St)(o:`fg),WF S->v<⇑S.lg->(∀n,o=Y n->n<⇑S.lg)->up2 c a v k S o=Y b->WF b/\b.lg=S.lg/\∃d,∀N,k<N->∀z:Ug,
  dc {`xaW,3} df N [oc `U4,pc `xmH,Q2<|[c],Q0 (a:Int),z,Q0 (v:Int)] =
   Y (.nx [oc<|Ou b J,pc<|QI d,Q2<|[c],Q0 (a:Int),z,Q0 (v:Int)]):=by
 intro k
 induction k with
 |zero =>
  intro S b o W f j e;cases o with
  |none =>
   cases (e);refine{W,rfl,none,λN hN z=>?_};obtain⟨N,rfl⟩:∃M,N=M+1:={N-1,by lia}
   calc eY L
  |some n=>cases e
 |succ k i =>
  intro S b o W f j e;cases o with
  |none =>
   cases (e);refine{W,rfl,none,λN hN z=>?_};obtain⟨N,rfl⟩:∃M,N=M+1:={N-1,by lia}
   calc eY L
  |some n =>
   have l:=j n L;have p:n<⇑S.wy:=W.wy ▸ l;have cond:∀z:Option _,nr `xhv (e2 _ (e2 _ (e2 _ `xed `cv) `gi) `fw) [oc `U4,Q0 _,Q2<|[c],Q0 _,z,Q0 (v:Int)]=Y (.fr,.bl (decide (gW _ c=Y _))):=λz=>by
    calc pT L (λ_=>?_) (λh=>by cases h);calc e2v (M5 (qR L L p) L) L ?_;cases hg:gW _ c with
    |none=>rw[ZP<|by simp];calc mn L L L
    |some q =>
     refine(mn L L<|show eqT (.int _) (.int (a:Int))=decide (Y q=Y a) from ?_);by_cases h:q=a
     .clear i e;subst h;rw[ZI L];exact beq_self_eq_true (q:Int)
     .exact ZP {`xcH,h,ZL z} ▸ beq_eq_false_iff_ne.mpr `am
   unfold up2 at e;split at e
   .rename_i g;exists i _ b _ {`xcY,f,u} f {`xbT,n} e,t,s,d,r;refine{t,s,d,λN hN z=>?_};obtain⟨N,rfl⟩:∃M,N=M+1:={N-1,by lia}
    refine(mK ((`xkk).trans<|by rw[ZI g]) ?_).trans<|r N (by simp_all) z;refine({`xdn,p,n}).trans ?_;exact aG (Aq (S:={_,_,S.wy.set n _}) L L<|W.lk ▸ l) `ao (by decide:1<6)
   .rename_i g;obtain rfl:=Om e;refine{W,rfl,Y n,λN hN z=>?_};obtain⟨N,rfl⟩:∃M,N=M+1:={N-1,by lia}
    calc eY ((`xkk).trans<|by rw[ZP g])
def JC(t:97<=c/\c<=122):∀(k:Nat)(S a:St)(o b:`fg),WF S->v<⇑S.lg->(∀n,o=Y n->n<⇑S.lg)->up1 c v k S o=Y (a,b)->WF a/\a.lg=S.lg/\(∀n,b=Y n->n<⇑S.lg)/\∀N,k<N->∀z:Ug,
  dc {`xbb,3} fC N [oc `U4,z,Q2<|[c],Q0 (v:Int),pc `xmH] =
   Y (.nx [oc<|Ou a J,z,Q2<|[c],Q0 (v:Int),pc<|QI b]):=by
 intro k
 induction k with
 |zero =>
  intro S a o b W d g e;cases o with
  |none =>
   cases (e);refine{W,rfl,(λn h=>nomatch h),λN hN z=>?_};obtain⟨N,rfl⟩:∃M,N=M+1:={N-1,by lia}
   calc eY L
  |some n=>cases e
 |succ k s =>
  intro S a o b W d g e;cases o with
  |none =>
   cases (e);refine{W,rfl,(λn h=>nomatch h),λN hN z=>?_};obtain⟨N,rfl⟩:∃M,N=M+1:={N-1,by lia}
   calc eY L
  |some n =>
   have i:=g n L;have j:n<⇑S.wy:=W.wy ▸ i;have cond:∀z:Option _,nr (gp `gt) (e2 _ `gi<|e2 _ `xed `gt) [oc `U4,z,pc _,Q0 (v:Int),pc _]=Y (.fr,.bl<|!(gW _ c).isSome):=λz =>
    pT L (λ_=>DG (qR L L j) L) (λh=>by cases h)
   unfold up1 at e;split at e
   .rename_i f;exists sj2 e,rfl,rfl;refine{W,rfl,g,λN hN z=>?_};obtain⟨N,rfl⟩:∃M,N=M+1:={N-1,by lia}
    exact eY<|(`xkk).trans (by rw[f];rfl)
   .rename_i f;exists s _ a _ b {`xcY,d,t} d {`xbT,n} e,r,q,l,p;refine{r,q,l,λN hN z=>?_};obtain⟨N,rfl⟩:∃M,N=M+1:={N-1,by lia}
    have u:(gW (S.wy.getD n []) c).isSome=B:=by simpa using f
    refine(mK ((`xkk).trans (by rw[u];rfl)) ?_).trans<|p N (by simp_all) z;refine({`xdn,j,n}).trans ?_;calc aG (Aq (S:={_,_,S.wy.set n _}) L L<|W.lk ▸ i) `ao (by decide:4<5)
def Kj(a b:Nat):oEq (m,.int (a:Int)) (n,.int (b:Int))=Y (.fr,.bl (decide (a=b))):=mn L L (by
 by_cases h:a=b
 .subst h;rw[ZI L];exact beq_self_eq_true (a:Int)
 .exact ZP h ▸ beq_eq_false_iff_ne.mpr `am)
def Cj{r:Nat}(W:`xlW)(t:Sm S)(i:{`xbp,n})(u:97<=c/\c<=122)(e:njb S n c=Y (a,r)):WF a/\r<⇑a.lg/\⇑S.lg<=⇑a.lg/\⇑a.lg<=⇑S.lg+1/\aC `xio [.int (n:Int),.str [c]]=Y (UA a,.int (r:Int)):=by
 exists Zz.mp e,old,h,e;have hold:=W.on n c _ h;have Og:old<⇑S.lk:=W.lk ▸ hold;have s:⇑S.lg<=100001:=t;unfold aC Rj;rw[Zp {rfl,(rfl)}];have s1:=aG (e:=e2 _ (e2 _ `xed `cv) `gi) (U:=[oc `U4,pc _,pc _,M,M,M]) (yX (qR L L<|W.wy ▸ i) L h) `ao (by decide:3<6);have g:=aG (e:=e2 b6 (e2 _ `xgZ `cv) `jl) (U:=[oc `U4,pc _,Q2<|[c],Q0 (old:Int),M,M]) (e2v (xw L L i) L L) `ao (by decide:4<6);have cd:e2 _ (e2 _ `xgZ `fw) `gt [oc `U4,Q0 (n:Int),Q2<|[c],pc _,pc _,M]=Y (.fr,.bl (decide (S.lg.getD _ 0=S.lg.getD n 0+1))):=e2v (xw L L hold) L<|Kj _ _;split at e
 .rename_i f;exists XC (ZL e),rfl,rfl;rw[ZI f]at cd;refine{W,hold,Zq _,Wf _,?_};have body:∀b:Sx,aq _ (aq _<|aq (P6 _ `xkm eR) b) _=Y _:=λb =>
   (`xao).trans {`tf,ar,g,jr {`tf,u9,cd,L}}
  exact ZF (λz:Option _=>z.bind _)<|body _
 .rename_i f;rw[ZP f]at cd;exists Zx.mp e,C,D,e3;exists XC e3,rfl,rfl;have wn:=W.wnd old;have A:=W.more (l:=`xmC) {`xbT,old} (λd m hm=>W.on _ d m hm) wn.1 wn.2;have hlen:⇑(S.lg++[S.lg.getD n 0+1])=⇑S.lg+1:=by rw[Zr];rfl
  have y:=A.link (n:=old) (v:=⇑S.lg) `am;exists Kb u _ _ C _ y `am (λm hm=>by cases hm;lia) D,p,o,E,j;refine{p,by lia,by lia,by calc XA<|o ▸ hlen,?_};have args:ae `gt (ae (e2 _ (bF 2 `cm) `fw)<|ae (eN p9<|ae (e2 _ `xed `fw) ak) ak) [oc `U4,Q0 (n:Int),Q2<|[c],pc _,Q0 _,M]=Y [(.fr,.int ((S.lg.getD n 0+1:Nat):Int)),(.fr,QI _),(.fr,QL _)] :=
   xv L (xv (Aq L L Og) (xv (je (xv (qR L L<|W.wy ▸ hold) L) (by
    show (if gq _=J then Y (Md.fr,QL _) else M)=_;rw[Zp (by rw[QF];calc mW _ (λ_=>rfl) _)])) L))
  have x:argsOk [B,B,J] [(.fr,.int ((S.lg.getD n 0+1:Nat):Int)),(.fr,QI<|S.lk.getD old M),(.fr,QL<|S.wy.getD old [])]=J:=by
   show (J&&(Ol _&&J))=J;rw[oa];rfl
  have w:=jV args x (by
   show (J&&(gy _&&(gy _&&J)))=J;rw[nq _<|oa _,Co];rfl) (DX S _ _ _ `am (by rw[W.lk];lia) (by rw[W.wy];lia)) L
  have q:=DS (S:={S.lg++[S.lg.getD n 0+1],S.lk++[S.lk.getD old M],S.wy++[S.wy.getD old []]}) (b:=J) (r:=[Q0 (n:Int),Q2<|[c],Q0 (old:Int),Q0 ((S.lg.getD n 0+1:Nat):Int),Q0 (⇑S.lg:Int)]) (e:=`fw) (ev:=`Z9) (by rw[Zr];lia) L L;exact ZF (λz:Option _=>z.bind _) ((`xao).trans ((ar g).trans (({`xaU,cd}).trans ((ar (by
   unfold eO;rw[w];rfl)).trans ((ar q).trans<|(ar<|j _ `ao _).trans L)))))
def LF{r:Nat}(W:`xlW)(t:⇑S.lg<=100000)(x:{`xbp,h})(y:97<=c/\c<=122)(e:hb S h c=Y (a,r)):WF a/\r<⇑a.lg/\⇑S.lg<=⇑a.lg/\⇑a.lg<=⇑S.lg+2/\bO `xio [.int (h:Int),.str [c]]=Y (UA a,.int (r:Int)):=by
 unfold hb at e;unfold bO Rj;rw[Zp {rfl,(rfl)}];have cd:e2 _ `gi (e2 _ `xed `cv) [oc `U4,pc _,pc _,M,M]=Y (.fr,.bl (gW _ c).isSome):=N5 (qR L L<|W.wy ▸ x) L;split at e
 .rename_i u;rw[u]at cd;calc TX (Cj W (Vn t) x y e) λi s q j D=>?_;refine{i,s,q,by calc Vn j,?_};have f:=jV (mv:=[B,B]) (as:=ae `cv `b5) (b:=J) (r:=[pc _,pc _,M,M]) L L L D L;have s1:ot (bX 0 [] 0 [B,B] aC {`xbs,`cv}) [oc `U4,Q0 (h:Int),Q2<|[c],M,M]=Y (.rt (.fr,.int (r:Int)) [oc<|Ou a J,Q0 (h:Int),Q2<|[c],M,M]):=by
   unfold ot;rw[f];rfl
  exact ZF (λz:Option _=>z.bind _)<|jr {`tf,u9,cd,s1}
 .rename_i u;have P:(gW (S.wy.getD h []) c).isSome=B:=by simpa using u
  rw[P]at cd;obtain⟨⟨g,o⟩,e1,C⟩:=Zz.mp e;have hlen:⇑(S.lg++[S.lg.getD h 0+1])=⇑S.lg+1:=by rw[Zr];rfl
  exists JC y _ _ g _ o (W.more (l:=`xmB) (o:=Y 0) (w:=[]) (λm hm=>by cases hm;calc W.pos) (λd m hm=>by cases hm) Yi (λp N=>nomatch N)) `am (λm hm=>by cases hm;lia) e1,i,s,q,j;have args:ae (e2 b6 (e2 _ `xgZ `cv) `jl) (ae (eC _)<|ae (wg 0 []) ak) [oc `U4,pc _,Q2<|[c],M,M]=Y [(.fr,.int _),(.fr,.int 0),(.fr,.dct 0 [])] :=
   xv (e2v (xw L L x) L L) `gk
  have f:=jV (mv:=[B,B,J]) args L L (DX S _ (Y 0) [] `am (by rw[W.lk];lia) (by rw[W.wy];lia)) L;have hd:∀b:Sx,aq (P6 (e2 rW _ _) (ot<|bX 0 [] 0 [B,B] aC {`xbs,`cv}) eR)
    (aq (eO 3<|bX 0 [] 0 _ _<|ae (e2 _ _ _) _)
    (aq (aY 4 `cv)<|aq (jO _ _) b)) [oc _,pc _,pc _,M,M] =
    b _:=λb =>
   ({`xaU,cd}).trans ((ar (by
   unfold eO;rw[f];rfl)).trans ((`xgX).trans<|ar<|j HS `ao<|Q0 (h:Int)))
  cases o with
  |none =>
   exists XC (ZL C),rfl,rfl;have fin:aq (P6 (gp `gt) (nj 0 [.fld 2] `fw<|bX 0 [] 0 [B,B] aC {`xbs,`gt}) eR) `xkm [oc<|Ou g _,pc _,pc _,Q0 _,pc _] =
     Y (.rt (.fr,.int (⇑S.lg:Int)) [oc<|Ou g J,Q0 (h:Int),Q2<|[c],Q0 (⇑S.lg:Int),pc<|QI M]):=(`xil).trans L
   refine{i,by lia,by lia,by lia,?_};calc ZF (λz:Option Out=>z.bind _)<|(hd _).trans fin
  |some n =>
   obtain⟨⟨A,m⟩,e3,O⟩:=Zx.mp C;exists XC O,rfl,rfl;refine TX (Cj i (by show ⇑g.lg<=100001;lia) (by
    have:=q n L;rw[s];calc this) y e3) λv1 F R Q E=>?_
   have f:=jV (mv:=[B,B]) (as:=ae `gt `b5) (b:=J) (r:=[Q0 (h:Int),Q2<|[c],Q0 (⇑S.lg:Int),Q0 (n:Int)]) L L L E L;have H:=DS (b:=J) (r:=[Q0 (h:Int),Q2<|[c],Q0 (⇑S.lg:Int),Q0 (n:Int)]) (e:=`fw) (ev:=λ_=>Y (.fr,.int (m:Int))) (by rw[v1.lk];lia) L L;have G:nj 0 [.fld 2] `fw (bX 0 [] 0 [B,B] aC {`xbs,`gt}) [oc<|Ou g J,Q0 (h:Int),Q2<|[c],Q0 (⇑S.lg:Int),Q0 (n:Int)]=Y (.nx [oc<|Ou {A.lg,A.lk.set ⇑S.lg<|Y m,A.wy} J,Q0 (h:Int),Q2<|[c],Q0 (⇑S.lg:Int),Q0 (n:Int)]):=by
    unfold nj;rw[f];exact H
   refine{(v1.link (n:=⇑S.lg) (v:=m) F),by lia,by lia,by lia,?_};calc ZF (λz:Option Out=>z.bind _)<|(hd _).trans<|(ar<|(`xmA).trans G).trans L
theorem Ey:∀{word:Uj}{h r:Nat},WF S->⇑S.lg+2*⇑word<=100000->h<⇑S.lg->(∀c∈word,97<=c/\c<=122)->hg S h word=Y (g,r) →
  WF g/\r<⇑g.lg/\⇑g.lg<=⇑S.lg+2*⇑word/\∀i:Ug,∀f:T,∃a,forL `xmO da (word.map λc=>T.str [c]) [oc `U4,Q0 (h:Int),pc f,i]=Y (.nx [oc<|Ou g J,Q0 (r:Int),pc f,a])
 |[],h,r,W,hl,j,l,e=>by
  exists XC (ZL e),rfl,rfl;exact⟨W,j,by simp,λi f=>{i,(rfl)}⟩
 |c::word,h,r,W,hl,j,l,e=>by
  obtain⟨⟨z,y⟩,e1,u⟩:=Zz.mp e;rw[Za]at hl;calc TX (LF W `am j (l c Zv) e1) λo n w v m=>?_;exists Ey o `am n (λd hd=>l d<|Zs _ hd) u,v1,s,x,p;refine{v1,s,by rw[Za];lia,λi f=>?_};exists p (Q2<|[c]) f,a,q;refine{a,?_};rw[Zh];refine(cQ (U1:=[oc `U4,Q0 (h:Int),pc f,Q2<|[c]]) L ?_).trans q;have t:=jV (mv:=[B,B]) (as:={`xbH,ae `fw ak}) (b:=J) (r:=[Q0 (h:Int),pc f,Q2<|[c]]) L L L m L;unfold da eO;rw[t];rfl
def IP{S S':St}{a:Tx}{r:Nat}(W:`xlW)(i:⇑S.lg+2*⇑a<=100000)(j:{`xbp,h})(l:∀c∈a,97<=c/\c<=122)(e:hg S h a=Y (S',r)) :
  WF S'/\r<⇑S'.lg/\⇑S'.lg<=⇑S.lg+2*⇑a/\bh `xio [.int (h:Int),.str a]=Y (UA S',.int (r:Int)):=by
 exists Ey W i j l e,g,f,d,b;exists b M (.str a),m,q;refine{g,f,d,?_};unfold bh Rj;rw[Zp {rfl,(rfl)}];have s1:=(cG (it:=iK `gi) L L).trans q;calc ZF (λz:Option Out=>z.bind _) {`tf,ar,s1,L}
end T47
namespace AU
noncomputable abbrev Wd:=Uj
noncomputable abbrev W(a:`tp)(n:Nat):Wd:=a.getD n []
structure I(fr:`fg)(S:St)(nd:`eB)(wd:`tp):Prop where
 wf:WF S
 len:⇑wd=⇑S.lg
 lg:∀n,n<⇑wd->S.lg.getD n 0=⇑(`D_)
 z:nd []=some 0
 wz:W wd 0=[]
 lt:∀{x n},nd x=some n->n<⇑wd
 sf:∀{x n},nd x=some n->x <:+ W wd n
 top:∀{n},n<⇑wd->nd `D_=some n
 iv:∀{x y n},nd x=some n->x <:+ y->y <:+ W wd n->nd y=some n
 pre:∀{x c n},nd (x++[c])=some n->∃m,nd x=some m
 suf:∀{x y n},nd y=some n->x <:+ y->∃m,nd x=some m
 lk0:S.lk.getD 0 none=none
 lk:∀{n},0<n->n<⇑wd->some n≠fr->∃m,S.lk.getD n none=some m/\(m<⇑wd/\some m≠fr)/\W wd m <:+ W wd n/\⇑(`gs)<⇑(`D_)/\∀y,y <:+ W wd n->⇑(`gs)<⇑y->nd y=some n
 wy:∀{x n},nd x=some n->∀c,gW (S.wy.getD n []) c=nd (x++[c])
def c9{α:Type}{x y w:`ew}(d:x <:+ w)(b:y <:+ w)(a:⇑x<=⇑y):x <:+ y:=List.suffix_of_suffix_length_le d b a
def I.up(H:`ut):∀(k n:Nat)(x:Wd),⇑(`D_)<=k->n<⇑wd->Y n≠fr->x <:+ W wd n->∃m,nd x=Y m/\W wd m <:+ W wd n:=by
 intro k
 induction k with
 |zero =>
  intro n x d b e a;rw[(Xj.mp<|Nat.le_zero.mp d)]at a;have:=Xf.mp a;subst this;exact{0,H.z,H.wz ▸ WH}
 |succ k i =>
  intro n x d b e a;by_cases h0:n=0
  .subst h0;rw[H.wz]at a;have:=Xf.mp a;subst this;exact{0,H.z,Ye _}
  .obtain⟨m,r,⟨l,o⟩,f,p,j⟩:=H.lk `xjy b e;by_cases hl:⇑(`gs)<⇑x
   .exact{n,j x a hl,Ye _}
   .exists i m x `am l o (c9 a f `xlQ),q,h,g;exact{q,h,g.trans f}
def I.up'(H:`ut)(b:`B1)(d:Y n≠fr)(a:x <:+ W wd n):∃m,nd x=Y m/\W wd m <:+ W wd n:=H.up _ n x (Zq _) b d a
def I.all(H:`ut)(e:q<⇑wd)(f:Y q≠fr)(d:nd x=Y n)(b:nd y=Y n)(h:x <:+ W wd q):y <:+ W wd q:=by
 exists H.up' e f h,m,a,g;rw[d]at a;obtain rfl:=Om a;exact(H.sf b).trans g
def I.inj(H:`ut){m:Nat}(b:`ld)(a:`B1)(h:W wd m=W wd n):m=n:=by
 have:=H.top b;rw[h,H.top a]at this
 simp_all
def I.way(H:`ut){n c:Nat}(b:`B1)(h:gW (S.wy.getD n []) c=Y a):nd (W wd n++[c])=Y a:=H.wy `xmz c ▸ h
def I.zero(H:`ut)(h:nd x=Y 0):x=[]:=by
 have:=H.sf h;rw[H.wz]at this;calc Xf.mp this
def I.low(H:`ut)(f:Y n≠fr)(a:S.lk.getD n M=Y m)(b:nd y=Y n):⇑(`gs)<⇑y/\m<⇑wd/\W wd m <:+ W wd n/\Y m≠fr:=by
 by_cases h0:n=0
 .subst h0;rw[H.lk0]at a;cases a
 .obtain⟨i,g,⟨e,h⟩,d,l,j⟩:=H.lk `xjy (H.lt b) f;rw[g]at a;obtain rfl:=Om a;refine{Nat.lt_of_not_le λhle=>?_,e,d,h};have:=H.iv b (c9 (H.sf b) d hle) d;rw[H.top e]at this
  simp_all
def I.below(H:`ut)(d:`B1)(f:Y n≠fr)(a:S.lk.getD n M=Y q)(e:`ld)(b:W wd m <:+ W wd n)(j:m≠n):W wd m <:+ W wd q:=by
 by_cases h0:n=0
 .subst h0;rw[H.lk0]at a;cases a
 .obtain⟨o,i,⟨r,_⟩,h,p,g⟩:=H.lk `xjy d f;rw[i]at a;obtain rfl:=Om a;calc c9 b h<|Yo λl=>j ?_;have:=g _ b l;rw[H.top e]at this;calc ZL this
def I.root(H:`ut)(b:`B1)(g:Y n≠fr)(d:S.lk.getD n M=M)(f:`ld)(a:W wd m <:+ W wd n):m=n:=by
 have h0:=Nat.eq_zero_of_not_pos λe=>by
  exists H.lk e b g,q,h,_;rw[h]at d;cases d
 subst h0;rw[H.wz]at a;calc H.inj f b (by rw[H.wz,Xf.mp a])
def ig(a:List `cq)(n m c v d:Nat)(b:n<⇑a):gW ((a.set n<|pW (a.getD n []) c v).getD m []) d=if m=n/\d=c then Y v else gW (a.getD m []) d:=by
 rw[i5];by_cases h:n=m
 .subst h;rw[Zp {rfl,(b)},Jj];grind
 .rw[Zn {`xov,h},Zn `xkY]
def I.climb2(H:`ut){v:Nat}:∀(k:Nat)(T:St)(n:Nat),n<⇑wd->Y n≠fr->⇑(`D_)<k->(∀m,m<⇑wd->W wd m <:+ W wd n->T.lk.getD m M=S.lk.getD m M)->⇑wd<=⇑T.wy →
  (∀m f,m<⇑wd->f<⇑wd->W wd m <:+ W wd f->W wd f <:+ W wd n->gW (T.wy.getD m []) c=Y a->gW (T.wy.getD f []) c=Y a) →
  ∃p,up2 c a v k T (Y n)=Y {T.lg,T.lk,(p)}/\⇑p=⇑T.wy/\∀m d,gW (p.getD m []) d=if d=c/\m<⇑wd/\W wd m <:+ W wd n/\gW (T.wy.getD m []) c=Y a then Y v else gW (T.wy.getD m []) d:=by
 intro k
 induction k with
 |zero=>intro T n _ _ h;lia
 |succ k A =>
  intro T n i o C g hw mono;have j:=Zk i hw;unfold up2;by_cases r:gW (T.wy.getD n []) c=Y a
  .rw[Zp r,g n i<|Ye _];cases hl:S.lk.getD n _ with
   |none =>
    refine{_,by cases k<;>rfl,Yc,λm d=>?_};rw[ig _ _ _ _ _ _ j];by_cases hm:m=n/\d=c
    .simp_all
    .rw[Zn hm,Zn λz=>hm {H.root i o hl z.2.1 z.2.2.1,z.1}]
   |some q =>
    calc xA4 (H.low o hl<|H.top i) λy x l w=>?_;have ne:∀m,W wd m <:+ W wd q->m≠n:=λm hm e=>by
     rw[e]at hm;grind
    exists A {_,_,T.wy.set n<|pW _ c v} q x w `am {`xcW,g,l} (by rw[Yc];calc hw) (λm f hm D hs s h=>by
     have t:=h;rw[ig _ _ _ _ _ _ j,Zn {`xcs,hs.trans s}]at t;rw[ig _ _ _ _ _ _ j,Zn<|λz=>ne f s z.1];calc mono m f hm D hs (s.trans l) t),p,e1,e2,e3
    refine{_,e1,e2 ▸ Yc,λm d=>?_};rw[e3 m d];by_cases hm:m=n
    .clear o C g mono hl y l e1 e2 e3;subst hm;rw[Zn `xik,ig _ _ _ _ _ _ j]
     simp_all
    .have u:∀d,gW ((T.wy.set n<|pW _ c v).getD m []) d=gW (T.wy.getD m []) d:=λd=>by rw[ig _ _ _ _ _ _ j,Zn {`xov,hm}]
     rw[u,u];by_cases b:d=c/\m<⇑wd/\W wd m <:+ W wd n/\gW (T.wy.getD m []) c=Y a
     .rw[Zp b,Zp {b.1,b.2.1,H.below i o hl b.2.1 b.2.2.1 hm,b.2.2.2}]
     .rw[Zn b,Zn λz=>b {z.1,z.2.1,z.2.2.1.trans l,z.2.2.2}]
  .rw[Zn r];refine{_,rfl,rfl,λm d=>?_};rw[Zn λz=>r<|mono m n z.2.1 i z.2.2.1 (Ye _) z.2.2.2]
def I.climb1(H:`ut){v:Nat}:∀(k:Nat)(T:St)(n:Nat),n<⇑wd->Y n≠fr->⇑(`D_)<k->(∀m,m<⇑wd->W wd m <:+ W wd n->T.lk.getD m M=S.lk.getD m M)->⇑wd<=⇑T.wy →
  (∀m g,m<⇑wd->g<⇑wd->W wd m <:+ W wd g->W wd g <:+ W wd n->(gW (T.wy.getD g []) c).isSome->(gW (T.wy.getD m []) c).isSome) →
  ∃y s,up1 c v k T (Y n)=Y ({T.lg,T.lk,(y)},s)/\⇑y=⇑T.wy/\(∀m d,gW (y.getD m []) d=if d=c/\m<⇑wd/\W wd m <:+ W wd n/\gW (T.wy.getD m []) c=M then Y v else gW (T.wy.getD m []) d) ∧
   (s=M->∀m,m<⇑wd->W wd m <:+ W wd n->gW (T.wy.getD m []) c=M) ∧
   ∀p,s=Y p->p<⇑wd/\W wd p <:+ W wd n/\(gW (T.wy.getD p []) c).isSome/\∀m,m<⇑wd->W wd m <:+ W wd n->⇑(`xej)<⇑(`gs)->gW (T.wy.getD m []) c=M:=by
 intro k
 induction k with
 |zero=>intro T n _ _ h;lia
 |succ k Z =>
  intro T n b j hk i hw mono;have o:=Zk b hw;unfold up1;by_cases l:(gW (T.wy.getD n []) c).isSome=J
  .rw[Zp l];refine SJ {rfl,rfl,λm d=>?_,(λh=>nomatch h),λp u=>?_}
   .rw[Zn λz=>?_];have:=mono m n z.2.1 b z.2.2.1 (Ye _) l;rw[z.2.2.2]at this;cases this
   .obtain rfl:=Om u;refine{b,Ye _,l,λm hm hs hl=>?_};have:=hs.length_le;lia
  .have w:gW (T.wy.getD n []) c=M:=by
    cases h:gW _ c with
    |none=>rfl
    |some x=>rw[h]at l;exact absurd L l
   rw[Zn l,i n b<|Ye _];cases hl:S.lk.getD n _ with
   |none =>
    refine Pd _ M {by cases k<;>rfl,Yc,λm d=>?_,λ_ m hm hs=>?_,(λp u=>nomatch u)}
    .rw[ig _ _ _ _ _ _ o];by_cases hm:m=n/\d=c
     .simp_all
     .rw[Zn hm,Zn λz=>hm {H.root b j hl z.2.1 z.2.2.1,z.1}]
    .exact H.root b j hl hm hs ▸ w
   |some q =>
    calc ai λP_ D=>?_;calc xA4 (H.low j hl `xmz) λX U t R=>?_;have ne:∀m,W wd m <:+ W wd q->m≠n:=λm hm e=>by
     rw[e]at hm;have:=hm.length_le;lia
    exists Z {_,_,T.wy.set n<|pW _ c v} q U R `am {`xcW,i,t} (by rw[Yc];calc hw) (λm g hm QR hs A h=>by
     have E:=h;rw[ig _ _ _ _ _ _ o,Zn<|λz=>ne g A z.1]at E;rw[ig _ _ _ _ _ _ o,Zn {`xcs,hs.trans A}];calc mono m g hm QR hs (A.trans t) E),y,s,e1,e2,e3,N,G
    calc D ?_;have old:∀m,W wd m <:+ W wd q->gW ((T.wy.set n<|pW _ c v).getD m []) c=gW (T.wy.getD m []) c:=λm hm=>by rw[ig _ _ _ _ _ _ o,Zn {`xcs,hm}]
    refine Pd _ s {e1,e2 ▸ Yc,λm d=>?_,λho m hm hs=>?_,λp u=>?_}
    .rw[e3 m d];by_cases hm:m=n
     .clear j hk i mono w hl D X t e1 e2 e3 N G old;subst hm;rw[Zn `xik,ig _ _ _ _ _ _ o]
      simp_all
     .have F:∀d,gW ((T.wy.set n<|pW _ c v).getD m []) d=gW (T.wy.getD m []) d:=λd=>by rw[ig _ _ _ _ _ _ o,Zn {`xov,hm}]
      rw[F,F];by_cases f:d=c/\m<⇑wd/\W wd m <:+ W wd n/\gW (T.wy.getD m []) c=M
      .rw[Zp f,Zp {f.1,f.2.1,H.below b j hl f.2.1 f.2.2.1 hm,f.2.2.2}]
      .rw[Zn f,Zn λz=>f {z.1,z.2.1,z.2.2.1.trans t,z.2.2.2}]
    .by_cases a:m=n
     .exact a ▸ w
     .have hb:=H.below b j hl hm hs a;exact old m hb ▸ N ho m hm hb
    .refine xA4 (G p u) λQ C P O=>?_;have r:=P;rw[old p C]at r;refine{Q,C.trans t,r,λm hm hs OT=>?_};by_cases a:m=n
     .exact a ▸ w
     .have hb:=H.below b j hl hm hs a;calc old m hb ▸ O m hm hb OT
def Lj(g:97<=c/\c<=122):∀(k:Nat)(S a:St)(o:`fg),WF S->v<⇑S.lg->up2 c b v k S o=Y a->WF a:=by
 intro k
 induction k with
 |zero =>
  intro S a o H d e;cases o with
  |none=>cases (e);calc H
  |some n=>cases e
 |succ k f =>
  intro S a o H d e;cases o with
  |none=>cases (e);calc H
  |some n =>
   unfold up2 at e;split at e
   .exact f _ a _ (H.way d g) d e
   .obtain rfl:=Om e;calc H
def KQ(g:97<=c/\c<=122):∀(k:Nat)(S a:St)(o b:`fg),WF S->v<⇑S.lg->up1 c v k S o=Y (a,b)->WF a:=by
 intro k
 induction k with
 |zero =>
  intro S a o b H d e;cases o with
  |none=>cases (e);calc H
  |some n=>cases e
 |succ k f =>
  intro S a o b H d e;cases o with
  |none=>cases (e);calc H
  |some n =>
   unfold up1 at e;split at e
   .exists sj2 e,rfl,rfl;exact H
   .exact f _ a _ b (H.way d g) d e
def jG{α:Type}{x y:`ew}{a b:α}(h:x++[a] <:+ y++[b]):a=b/\x <:+ y:=by
 ext h t e;rw[<-ZU]at e;exists List.append_inj' e L,e1,e2;exact⟨by simpa using e2,{t,(e1)}⟩
def iV{α:Type}{x y:`ew}(a:α)(h:x <:+ y):x++[a] <:+ y++[a]:=by
 ext h t e;exact{t,by rw[<-e,ZU]}
noncomputable def jB(b:`eB)(a l h:Nat)(x:Wd):Option Nat:=if b x=Y a/\⇑x<=l then Y h else b x
theorem I.split(H:I R S j b)(N:n<⇑b)(hf:Y n≠R)(hc:97<=c/\c<=122)(ho:gW (S.wy.getD n []) c=Y a)(w:Y a≠R)(hfr:R≠Y ⇑b)(P7:S.lg.getD a 0≠S.lg.getD n 0+1)(hk:⇑(`xfw)<1000) :
  ∃S',njb S n c=Y (S',⇑S.lg)/\I R S' (jB j a {`xby,1} ⇑b) (b++[W b n++[c]]):=by
 have O:=H.len.symm;have hw:=H.way N ho;have hold:=H.lt hw;have t:=H.sf hw;have lw:⇑(W b n++[c])=⇑(`xfw)+1:=by rw[Zr];rfl
 rw[H.lg _ hold,H.lg n N]at P7;have OT:⇑(`xfw)+1<⇑(W b a):=by
  have:=t.length_le;rw[lw]at this;lia
 have Z:a≠0:=λe=>by
  rw[e,H.wz]at OT;simp at OT
 have Q:=H.len ▸ H.wf.pos;have l1:⇑S.lk=⇑b:=by rw[H.wf.lk,O]
 have l2:⇑S.wy=⇑b:=by rw[H.wf.wy,O]
 have s:∀m,((S.lk++[S.lk.getD _ M]).set _ `xeu).getD m _=if m=a then Y _ else if m=⇑b then S.lk.getD a _ else S.lk.getD m M:=λm=>by
  rw[i5,bY,l1,O];by_cases h:m=a
  .rw[Zp {h.symm,by rw[Zr,l1];lia},Zp h]
  .rw[Zn `xkY,Zn h]
 have SM:∀m,(S.wy++[S.wy.getD _ []]).getD m []=if m=⇑b then S.wy.getD a [] else S.wy.getD m []:=λm=>by rw[bY,l2]
 have UH:∀m,m<⇑b->(S.wy++[S.wy.getD _ []]).getD m []=S.wy.getD m []:=λm hm=>by rw[SM,Zn `xfv]
 refine TU (H.climb2 (v:=⇑S.lg) _ {S.lg++[S.lg.getD n 0+1],_,S.wy++[S.wy.getD _ []]} n N hf hk (λm hm hs=>by
   have:=hs.length_le;rw[s,Zn (λe=>by rw[e]at this;lia),Zn `xfv])
  (by rw[Zr,l2];calc ZX _ _)
  (λm u hm D hs Pu h=>by
   have C:=h;rw[UH m hm]at C;rw[UH u D,H.wy (H.top D) c];rw[H.wy (H.top hm) c]at C;calc H.iv C (iV c hs)<|(iV c Pu).trans t)) λw2=>oe λe1 e2 e3=>?_
 have wn:=H.wf.wnd a;have W1:=H.wf.more (l:=`xmC) (λm hm=>H.wf.up a m hm) (λd m hm=>H.wf.on _ d m hm) wn.1 wn.2;have hlen:⇑(S.lg++[S.lg.getD n 0+1])=⇑S.lg+1:=by rw[Zr];rfl
 have W2:=W1.link (n:=a) (v:=⇑S.lg) `am;have P:=Lj hc _ _ _ _ W2 `am e1;refine⟨{S.lg++[S.lg.getD n 0+1],(S.lk++[S.lk.getD a M]).set a `xeu,w2},?_,?_⟩
 .unfold njb;rw[ho,Zw,Zn<|H.lg a hold ▸ H.lg n N ▸ P7,e1];rfl
 have Wn:∀m,W (b++[W b n++[c]]) m=if m=⇑b then W b n++[c] else W b m:=λm=>bY b _ _ m
 have p:W (b++[W b n++[c]]) ⇑b=W b n++[c]:=by rw[Wn,Zp L]
 have f:∀{m},m<⇑b->W _ m=W b m:=λ{m} hm=>by rw[Wn,Zn `xfv]
 have dQ:⇑(b++[W b n++[c]])=⇑b+1:=by rw[Zr];rfl
 have tell:∀{x m},jB j _ _ ⇑b x=Y m->(m=⇑b/\j x=Y a/\⇑x<=⇑(`xfw)+1)\/(m<⇑b/\j x=Y m/\¬(m=a/\⇑x<=⇑(`xfw)+1)):=λ{x m} h=>by
  unfold jB at h;split at h
  .rename_i q;obtain rfl:=Om h;exact .inl {rfl,q.1,(q.2)}
  .rename_i q;exact .inr ⟨H.lt h,h,λz=>q {by rw[h,z.1],z.2}⟩
 have tL:∀{x},j x=Y a->⇑x<=⇑(`xfw)+1->jB j a {`xby,1} ⇑b x=Y ⇑b:=λ{x} A h2=>Zp {A,(h2)};have tO:∀{x m},j x=Y m->¬(m=a/\⇑x<=⇑(`xfw)+1)->jB j a {`xby,1} ⇑b x=Y m:=λ{x m} A h2=>by
  unfold jB;rw[Zn<|λz=>h2 {by rw[A]at z;calc ZL z.1,z.2},A]
 have U6:∀{x m},j x=Y m->∃u,jB j a {`xby,1} ⇑b x=Y u:=λ{x m} h=>by
  unfold jB;split
  .exact{_,(rfl)}
  .exact{m,(h)}
 have un:∀{x m},jB j a _ _ x=Y m->∃u,j x=Y u:=λ{x m} h=>(tell h).elim (λz=>{_,(z.2.1)}) λz=>{_,(z.2.1)}
 refine{P,by rw[dQ,hlen,O],λm hm=>?_,tO H.z<|λz=>Z z.1.symm,f Q ▸ H.wz,λ{x m} h=>by obtain z|z:=tell h<;>lia,λ{x m} h=>?_,λ{m} hm=>?_,λ{x y m} h U g=>?_,λ{x d m} h=>?_,λ{x y m} h U=>?_,?_,λ{m} h0 hm hmf=>?_,λ{x m} h d=>?_}
 .rw[dQ]at hm;rw[bY,O];by_cases e:m=⇑b
  .rw[Zp e,e,p,H.lg n N,lw]
  .rw[Zn e,f `am,H.lg m `am]
 .rcases tell h with⟨rfl,i,E⟩|⟨F,i,_⟩
  .rw[p];exact c9 (H.sf i) t<|lw ▸ E
  .exact f F ▸ H.sf i
 .rw[dQ]at hm;by_cases e:m=⇑b
  .rw[e,p];exact tL hw<|lw ▸ Zq _
  .rw[f `am];exact tO (H.top `am) (λz=>by have:=z.2;rw[z.1]at this;lia)
 .rcases tell h with⟨rfl,i,E⟩|⟨F,i,E⟩
  .rw[p]at g;have:=g.length_le;rw[lw]at this;exact tL (H.iv i U<|g.trans t) this
  .rw[f F]at g;exact tO (H.iv i U g)<|λz=>E {z.1,ZY U.length_le z.2}
 .exists un h,u,C;exists H.pre C,q,o;exact U6 o
 .exists un h,u,C;exists H.suf C U,q,o;exact U6 o
 .rw[s,Zn<|Yg Z,Zn<|by calc Zg Q];exact H.lk0
 .rw[dQ]at hm;show ∃q,((S.lk++[S.lk.getD a M]).set a `xeu).getD m M=Y q/\_;rw[s,dQ];calc ai λP_ G=>?_;obtain⟨q,q1,⟨X,q2'⟩,q3,q4,q5⟩:=H.lk (Yx Z) hold w;exists H.low w q1 hw,lo,_;calc G ?_;rw[lw]at lo;by_cases e:m=a
  .clear ho w P7 Z s SM UH e1 e2 e3 wn W1 W2 P tell tL U6 un G q1 q3 q4 q5;subst e;rw[Zp L];refine{⇑b,rfl,{by calc Yk _,λz=>hfr z.symm},?_,?_,λy g hl=>?_}
   .rw[p,f hold];exact t
   .rw[p,f hold,lw];exact OT
   .rw[p,lw]at hl;rw[f hold]at g;exact tO (H.iv hw (c9 t g<|lw ▸ ZM hl) g) (λz=>by have:=z.2;lia)
  .rw[Zn e];by_cases eL:m=⇑b
   .subst eL;rw[Zp L,q1];refine{q,rfl,{by calc Rz X,q2'},?_,?_,λy g hl=>?_}
    .rw[p,f X];exact c9 q3 t<|lw ▸ ZM lo
    .rw[p,f X,lw];exact lo
    .rw[p]at g;rw[f X]at hl;have:=g.length_le;rw[lw]at this;exact tL (q5 y (g.trans t) hl) this
   .rw[Zn eL];have D:m<⇑b:=by lia
    calc ai λP_ G=>?_;obtain⟨r,r1,⟨r2,r2'⟩,r3,r4,r5⟩:=H.lk h0 D hmf;calc G ?_;rw[r1];refine{r,rfl,{by calc Rz r2,r2'},f r2 ▸ f D ▸ r3,f r2 ▸ f D ▸ r4,λy g hl=>?_};rw[f D]at g;rw[f r2]at hl;exact tO (r5 y g hl) {`xov,e}
 .rw[e3 m d];rcases tell h with⟨rfl,i,E⟩|⟨F,i,E⟩
  .rw[Zn<|λz=>Yl _ z.2.1,SM,Zp L,H.wy i d];unfold jB;rw[Zn];intro z;have A:=z.1;rw[<-H.wy i d,H.wy (H.top hold) d]at A;have:=(H.sf A).length_le;rw[Zr,Ti]at this;lia
  .rw[UH m F,H.wy i c,H.wy i d];unfold jB;by_cases o:j (x++[d])=Y a/\⇑(x++[d])<=⇑(`xfw)+1
   .refine ai λP_ G=>?_;exists jG (c9 (H.sf o.1) t<|lw ▸ o.2),rfl,hx;exists H.up' N hf hx,u,m1,m2;rw[i]at m1;obtain rfl:=Om m1;calc G ?_;rw[Zp {rfl,F,m2,(o.1)},Zp o,O]
   .rw[Zn o,Zn];rintro⟨rfl,_,a3,a4⟩;calc o {a4,?_};have b1:=(H.sf i).length_le;have b2:=a3.length_le;rw[Zr,Ti];lia
open Classical in
noncomputable def jw(a:`eB)(w:Wd)(f:Nat)(x:Wd):Option Nat:=match a x with
 |some m=>Y m
 |none=>if x <:+ w then Y f else M
def d7(h:a x=Y m):jw a w f x=Y m:=by
 unfold jw;rw[h]
def ip(h:a x=M)(b:x <:+ w):jw a w f x=Y f:=by
 unfold jw;rw[h];calc Zp b
def c7(h:jw a w f x=Y m):a x=Y m\/(m=f/\a x=M/\x <:+ w):=by
 unfold jw at h;grind
def Ee{α:Type}{y t:`ew}{c:α}(h:y <:+ t++[c])(d:y≠[]):∃a,y=a++[c]/\a <:+ t:=by
 rcases List.eq_nil_or_concat y with e|⟨a,b,e⟩
 .exact absurd e d
 .rw[List.concat_eq_append]at e;subst e;exists jG h,e1,e2
  simp_all
def I.fresh(H:`xeU)(s:`xjx)(hc:97<=c/\c<=122)(hn:gW (S.wy.getD h []) c=M)(hk:⇑(`xeH)<1000) :
  ∃G u,up1 c ⇑S.lg 1000 {S.lg++[S.lg.getD h 0+1],S.lk++[Y 0],S.wy++[[]]} (Y h)=Y (G,u)/\I (Y ⇑wd) G (jw nd (W wd h++[c]) ⇑wd) (wd++[W wd h++[c]])/\G.lk.getD ⇑wd M=Y 0/\⇑G.lg=⇑S.lg+1 ∧
   (∀m,m<⇑wd->(gW (S.wy.getD m []) c).isSome->gW (G.wy.getD m []) c=gW (S.wy.getD m []) c) ∧
   (u=M->∀m,m<⇑wd->W wd m <:+ W wd h->gW (S.wy.getD m []) c=M) ∧
   ∀p,u=Y p->p<⇑wd/\W wd p <:+ W wd h/\(gW (S.wy.getD p []) c).isSome/\∀m,m<⇑wd->W wd m <:+ W wd h->⇑(`xej)<⇑(`gs)->gW (S.wy.getD m []) c=M:=by
 have D:=H.len.symm;have l1:⇑S.lk=⇑wd:=by rw[H.wf.lk,D]
 have l2:⇑S.wy=⇑wd:=by rw[H.wf.wy,D]
 have C:=H.len ▸ H.wf.pos;have g:∀m,(S.lk++[Y 0]).getD m M=if m=⇑wd then Y 0 else S.lk.getD m _:=λm=>by rw[bY,l1]
 have SM:∀m,(S.wy++[[]]).getD m []=if m=⇑wd then [] else S.wy.getD m []:=λm=>by rw[bY,l2]
 have n:∀m,m<⇑wd->(S.wy++[[]]).getD m []=S.wy.getD m []:=λm hm=>by rw[SM,Zn `xfv]
 obtain⟨w2,u,e1,e2,e3,e4,e5⟩:=H.climb1 (v:=⇑S.lg) _ {_,_,S.wy++[[]]} h s (λz=>nomatch z) hk (λm hm _=>by
   rw[g,Zn `xfv])
  (by simp_all)
  (λm m' hm i hs Pu q=>by
   have X:=q;rw[n m' i,H.wy (H.top i) c]at X;rw[n m hm,H.wy (H.top hm) c];exists YE.mp X,r,b;exists H.suf b (iV c hs),U,Q;rw[Q];rfl)
 have hlen:⇑(S.lg++[S.lg.getD h 0+1])=⇑S.lg+1:=by rw[Zr];rfl
 have lw:⇑(W wd h++[c])=⇑(`xeH)+1:=by rw[Zr];rfl
 have Wn:∀m,W _ m=if m=⇑wd then W wd h++[c] else W wd m:=λm=>bY wd _ _ m
 have O:W (wd++[W wd h++[c]]) ⇑wd=W wd h++[c]:=by rw[Wn,Zp L]
 have f:∀{m},m<⇑wd->W _ m=W wd m:=λ{m} hm=>by rw[Wn,Zn `xfv]
 have dQ:⇑(wd++[W wd h++[c]])=⇑wd+1:=by rw[Zr];rfl
 refine Pd _ u {e1,?_,by rw[g,Zp L],hlen,λm hm hs=>?_,λho m hm hs=>?_,λp R=>?_}
 rotate_left
 .rw[e3 m c];rw[n m hm,Zn (λz=>by rw[z.2.2.2]at hs;cases hs)]
 .have:=e4 ho m hm hs;have F:=this;rw[n m hm]at F;exact F
 .refine xA4 (e5 p R) λZ p2 p3 p4=>?_;have t:=p3;rw[n p Z]at t;refine{Z,p2,t,λm hm hs hl=>?_};have:=p4 m hm hs hl;have F:=this;rw[n m hm]at F;exact F
 refine{(KQ hc _ _ _ _ _ (H.wf.more (l:=`xmB) (o:=Y 0) (w:=[]) (λm hm=>by cases hm;calc H.wf.pos) (λd m hm=>by cases hm) Yi (λp R=>nomatch R)) `am e1),by rw[dQ];rw[hlen,D],λm hm=>?_,d7 H.z,f C ▸ H.wz,λ{x m} q=>?_,λ{x m} q=>?_,λ{m} hm=>?_,λ{x y m} q E j=>?_,λ{x d m} q=>?_,λ{x y m} q E=>?_,?_,λ{m} h0 hm hmf=>?_,λ{x m} q d=>?_}
 .rw[dQ]at hm;rw[bY,D];by_cases e:m=⇑wd
  .rw[Zp e,e,O,H.lg h s,lw]
  .rw[Zn e,f `am,H.lg m `am]
 .rw[dQ];obtain z|z:=c7 q
  .have:=H.lt z;exact Rz this
  .lia
 .rcases c7 q with z|⟨rfl,_,z⟩
  .exact f (H.lt z) ▸ H.sf z
  .rw[O];exact z
 .rw[dQ]at hm;by_cases e:m=⇑wd
  .rw[e,O];exact ip (H.wy `xmy c ▸ hn)<|Ye _
  .rw[f `am];exact d7<|H.top `am
 .rcases c7 q with z|⟨rfl,N,z2⟩
  .rw[f<|H.lt z]at j;exact d7<|H.iv z E j
  .rw[O]at j;calc ip ?_ j;cases e:nd y with
   |none=>rfl
   |some r =>
    exists H.suf e E,U,b;rw[N]at b;cases b
 .rcases c7 q with z|⟨_,_,z⟩
  .exists H.pre z,r,b;exact{r,d7 b}
  .exists jG z,_,A;exists H.suf `xmy A,r,b;exact{r,d7 b}
 .rcases c7 q with z|⟨_,_,z⟩
  .exists H.suf z E,r,b;exact{r,d7 b}
  .cases e:nd x with
   |none=>exact{_,ip e<|E.trans z}
   |some r=>exact{r,d7 e}
 .rw[g,Zn<|by calc Zg C];exact H.lk0
 .rw[dQ]at hm;have i:m<⇑wd:=by
   grind
  show ∃q,(S.lk++[Y 0]).getD m M=Y q/\_;rw[g,Zn<|Zg i,dQ];calc ai λP_ P=>?_;obtain⟨r,r1,⟨r2,_⟩,r3,r4,r5⟩:=H.lk h0 i (λz=>nomatch z);calc P ?_;refine{r,r1,{by calc Rz r2,λz=>?_},f r2 ▸ f i ▸ r3,f r2 ▸ f i ▸ r4,λy j hl=>?_}
  .grind
  .rw[f i]at j;rw[f r2]at hl;exact d7<|r5 y j hl
 .rw[e3 m d];rcases c7 q with z|⟨rfl,N,z2⟩
  .have hm:=H.lt z;rw[n m hm,H.wy z c,H.wy z d];cases e:nd (x++[d]) with
   |some r =>
    rw[d7 e,Zn];grind
   |none =>
    by_cases hs:x++[d] <:+ W wd h++[c]
    .refine ai λP_ P=>?_;exists jG hs,rfl,A;exists H.up' s (λz=>nomatch z) A,m',m1,m2;rw[z]at m1;cases m1;calc P ?_;rw[ip e hs,Zp {rfl,hm,m2,(e)},D]
    .have:jw nd (W wd h++[c]) ⇑wd (x++[d])=M:=by
      unfold jw;rw[e];exact Zn hs
     rw[this,Zn];rintro⟨rfl,_,a,_⟩;exact hs<|iV d {`tf,H.sf,z,a}
  .rw[Zn<|λa=>Yl _ a.2.1,SM,Zp L];have e:nd (x++[d])=M:=by
    cases e:nd _ with
    |none=>rfl
    |some r =>
     exists H.pre e,U,b;rw[N]at b;cases b
   have:jw nd (W wd h++[c]) ⇑wd (x++[d])=M:=by
    unfold jw;rw[e];calc Zn λhs=>?_;exists jG hs,_,A;exists H.suf `xmy A,r,b;rw[N]at b;cases b
   rw[this];rfl
def I.fix{m:Nat}(H:I (Y f) S nd wd)(j:f<⇑wd)(b:`ld)(h:W wd m <:+ W wd f)(a:⇑(`gs)<⇑(W wd f))(g:∀y,y <:+ W wd f->⇑(`gs)<⇑y->nd y=Y f):I M {S.lg,S.lk.set f<|Y m,S.wy} nd wd:=by
 refine{H.wf.link<|H.len ▸ b,H.len,H.lg,H.z,H.wz,H.lt,H.sf,H.top,H.iv,H.pre,H.suf,?_,λ{n} h0 i _=>?_,H.wy}
 .rw[i5,Zn (λz=>(λe=>by
  rw[e,H.wz]at a;simp at a) z.1)]
  exact H.lk0
 .show ∃q,(S.lk.set f _).getD n _=Y q/\_;rw[i5];by_cases e:f=n
  .subst e;rw[Zp {rfl,(H.wf.lk ▸ H.len ▸ j)}];exact{m,rfl,{b,λz=>nomatch z},h,a,g}
  .rw[Zn {`xov,e}];obtain⟨r,r1,⟨r2,_⟩,d⟩:=H.lk h0 i<|λz=>e (ZL z).symm;exact{r,r1,{r2,λz=>nomatch z},d}
structure Fine(nd PR:`eB)(w:Wd):Prop where
 eq:∀{x y m n},PR x=some m->PR y=some n->(m=n↔nd x=nd y/\(x <:+ w↔y <:+ w))
def I.just(H:`ut)(p:`B1)(O:Y n≠fr)(P:97<=c/\c<=122)(o:gW (S.wy.getD n []) c=Y a)(b:Y a≠fr)(d:fr≠Y ⇑wd)(G:⇑(`D_)<1000) :
  ∃j r l OU,njb S n c=Y (j,r)/\I fr j l OU/\r<⇑OU/\Y r≠fr/\W OU r=W wd n++[c]/\(∀m,m<⇑wd->W OU m=W wd m)/\⇑wd<=⇑OU/\⇑OU<=⇑wd+1 ∧
   (∀x,(∃m,l x=Y m) ↔ ∃m,nd x=Y m)/\Fine nd l (W wd n++[c])/\∀x f,f≠a->nd x=Y f->l x=Y f:=by
 have hw:=H.way p o;have hold:=H.lt hw;have C:=H.sf hw;have lw:⇑(W wd n++[c])=⇑(`D_)+1:=by rw[Zr];rfl
 by_cases s:S.lg.getD a 0=S.lg.getD n 0+1
 .have g:W wd a=W wd n++[c]:=by
   have:=s;rw[H.lg _ hold,H.lg n p]at this;exact(C.eq_of_length<|by rw[lw,this]).symm
  refine Oe S _ nd wd {?_,H,hold,b,g,λm _=>rfl,Zq _,Wf _,λx=>Iff.rfl,{λ{x y m k} i e=>?_},λx f _ h=>h}
  .unfold njb;rw[o,Zw,Zp s]
  .constructor
   .rintro rfl;exact{by rw[i,e],λh=>by rw[<-g]at h ⊢;calc H.all hold b i e h,λh=>by rw[<-g]at h ⊢;calc H.all hold b e i h}
   simp_all
 .exists H.split p O P o b d s G,j,e1,t;have A:W _ _=W wd n++[c]:=(bY wd _ _ _).trans<|Zp L;have dQ:⇑(wd++[W wd n++[c]])=⇑wd+1:=by rw[Zr];rfl
  have inv:∀{x m},jB nd a `xfU ⇑wd x=Y m->(m=⇑wd/\nd x=Y a/\⇑x<=⇑(`D_)+1)\/nd x=Y m:=λ{x m} h=>by
   unfold jB at h;split at h
   .simp_all
   .exact .inr h
  have F:∀{x},nd x=Y _->(⇑x<=⇑(`D_)+1↔x <:+ W wd n++[c]):=λ{x} h=>⟨λhl=>c9 (H.sf h) C<|lw ▸ hl,λhs=>by have:=hs.length_le;rw[lw]at this;calc this⟩
  refine Oe j _ _ _ {e1,t,dQ ▸ H.len ▸ Yk _,H.len ▸ λz=>d z.symm,H.len ▸ A,(λm hm=>(bY wd _ _ m).trans<|Zn `xfv),by lia,by calc XA dQ,λx=>{λ⟨m,h⟩=>(inv h).elim (λz=>{_,(z.2.1)}) λz=>{_,(z)},λ⟨m,h⟩=>?_},{λ{x y m k} i e=>?_},λx f N h=>?_}
  .unfold jB;split
   .exact{_,(rfl)}
   .exact{m,(h)}
  .constructor
   .rintro rfl;have u:⇑wd<⇑(wd++[W wd n++[c]]):=by lia
    have w:=λh=>t.all u `xmx i e h;have v:=λh=>t.all u `xmx e i h;rw[A]at w v;refine{?_,w,v};rcases inv i with⟨Q,D,_⟩|z
    .rcases inv e with⟨_,E,_⟩|y
     .rw[D,E]
     .have:=H.lt y;lia
    .rcases inv e with⟨R,_,_⟩|y
     .have:=H.lt z;lia
     .rw[z,y]
   .rintro⟨h,hs⟩;have:jB nd a `xfU ⇑wd x=jB nd a `xfU ⇑wd y:=by
     unfold jB;rw[h];by_cases q:nd y=Y a
     .simp_all
     simp_all
    simp_all
  .unfold jB
   simp_all
def I.step(H:`xeU)(O:`xjx)(hc:97<=c/\c<=122)(hk:⇑(`xeH)+1<1000) :
  ∃S' r U OU,hb S h c=Y (S',r)/\I M S' U OU/\r<⇑OU/\W OU r=W wd h++[c]/\(∀m,m<⇑wd->W OU m=W wd m)/\⇑wd<=⇑OU/\⇑OU<=⇑wd+2 ∧
   (∀x,(∃m,U x=Y m)↔(∃m,nd x=Y m)\/x <:+ W wd h++[c])/\Fine nd U (W wd h++[c]):=by
 cases hg:gW _ c with
 |some old =>
  calc ai λP_ E=>?_;calc Oj (H.just O (λz=>nomatch z) hc hg (λz=>nomatch z) (λz=>nomatch z) `xlP) λS' r U OU=>L2.MY λe H' h1 _ h2 h3 h4 h5 h6 h7 _=>?_;calc E ?_;calc Oe S' r _ _ {?_,H',h1,h2,h3,h4,by calc Vn h5,λx=>(h6 x).trans {.inl,λz=>z.elim id λz=>H.suf (H.way O hg) z},h7};unfold hb;calc hg ▸ e
 |none =>
  have P:=H.len.symm;calc ai λP_ E=>?_;calc Oo (H.fresh O hc hg `xlP) λt o'=>yA7 λe1 v k0 k1 k2 k3 k4=>?_;calc E ?_;have WL:W _ _=W wd h++[c]:=(bY wd _ _ _).trans<|Zp L;have Wl:∀m,m<⇑wd->W (wd++[W wd h++[c]]) m=W wd m:=λm hm=>(bY wd _ _ m).trans<|Zn `xfv;have dQ:⇑(wd++[W wd h++[c]])=⇑wd+1:=by rw[Zr];rfl
  have lw:⇑(W wd h++[c])=⇑(`xeH)+1:=by rw[Zr];rfl
  have ex:∀x,(∃m,jw nd _ ⇑wd x=Y m)↔(∃m,nd x=Y m)\/x <:+ W wd h++[c]:=λx=>⟨λ⟨m,q⟩=>(c7 q).elim (λz=>.inl {_,(z)}) λz=>.inr z.2.2,λq=>by
   cases e:nd x with
   |some m=>exact{m,d7 e}
   |none=>calc q.elim (λ⟨m,z⟩=>by rw[e]at z;cases z) λz=>{_,ip e z}⟩
  have same:∀{x y m n},jw nd (W wd h++[c]) ⇑wd x=Y m->jw nd (W wd h++[c]) ⇑wd y=Y n->(m=n↔nd x=nd y):=λ{x y m n} j g=>by
   rcases c7 j with z|⟨z1,z2,_⟩
   .rcases c7 g with i|⟨y1,y2,_⟩
    .simp_all
    .have:=H.lt z;grind
   .rcases c7 g with i|⟨y1,y2,_⟩
    .have:=H.lt i;grind
    .exact{λ_=>by rw[z2,y2],λ_=>by rw[z1,y1]}
  have f:∀{y},y <:+ W wd h++[c]->y≠[]->∀{q},nd y=Y q->∃i m,y=i++[c]/\i <:+ W wd h/\nd i=Y m/\m<⇑wd/\W wd m <:+ W wd h/\(gW (S.wy.getD m []) c).isSome:=λ{y} d P7 {q} hq=>by
   exists Ee d P7,i,rfl,G;exists H.up' O (λz=>nomatch z) G,m,D,m2;exact Pd i m {rfl,G,D,H.lt D,m2,by rw[H.wy D c,hq];rfl}
  unfold hb;rw[hg,Zn<|by simp,e1];cases o' with
  |none =>
   have none_:∀{y},y <:+ W wd h++[c]->y≠[]->nd y=M:=λ{y} d P7=>by
    cases e:nd y with
    |none=>rfl
    |some q =>
     calc Oo (f d P7 e) λi m=>SK λ_ _ _ m3 m4 C=>?_;rw[(k3 L) m m3 m4]at C;cases C
   have H3:=v.fix (m:=0) `am `am (by rw[v.wz];calc WH) (by rw[v.wz,WL,lw];calc Y3 _) (λy d hl=>by
    rw[WL]at d;rw[v.wz]at hl;calc ip (none_ d (λe=>by rw[e]at hl;cases hl)) d)
   have eS:({t.lg,t.lk.set ⇑wd<|Y 0,t.wy}:St)=t:=by
    have hl:⇑wd<⇑t.lk:=v.wf.lk ▸ v.len ▸ dQ ▸ Yk _;have:t.lk.set ⇑wd (Y 0)=t.lk:=by
     rw[Zl,Zo hl,Ur]at k0;exact k0 ▸ VM hl
    rw[this]
   rw[eS]at H3;calc Oe t _ _ _ ⟨rfl,H3,dQ ▸ P ▸ Yk _,P ▸ WL,Wl,by lia,by lia,ex,{λ{x y m n} j g=>?_}⟩;rw[same j g];refine{λe=>{e,?_},λe=>e.1};have key:∀{x y m n},jw nd (W wd h++[c]) ⇑wd x=Y m->jw nd _ ⇑wd y=Y n->nd x=nd y->x <:+ W wd h++[c]->y <:+ W wd h++[c]:=λ{x y m n} j g e hx=>by
    obtain z|z:=c7 g
    .rw[z]at e;by_cases N:x=[]
     .subst N;rw[H.z]at e;obtain rfl:=Om e;rw[H.zero z];exact WH
     .rw[none_ hx N]at e;cases e
    .exact z.2.2
   exact{key j g e,key g j e.symm}
  |some p =>
   calc ai λP_ E=>?_;calc xA4 (k4 p L) λw X p3 p4=>?_;exists YE.mp p3,old,ho;have A:=H.way w ho;have hold:=H.lt A;have ph:⇑(`xej)<⇑(`xeH):=by
    obtain l|l:=W9 X.length_le
    .exact l
    .have:=H.inj w O<|X.eq_of_length l;rw[this,hg]at ho;cases ho
   calc Oj (v.just `am (λz=>by have:=ZL z;lia) hc (k2 p w p3 ▸ ho) (λz=>by have:=ZL z;lia) (λz=>by have:=ZL z;lia) (by rw[Wl p w];lia)) λS3 r U OU=>L2.MY λf1 H3 f2 f2' f3 f4 f5 f6 f7 f8 f9=>?_;calc E ?_;rw[Wl p w]at f3 f8;have u:⇑(W wd p++[c])=⇑(`xej)+1:=by rw[Zr];rfl
   have s:W OU ⇑wd=W wd h++[c]:=by rw[f4 _ `am,WL]
   have none_:∀{y},y <:+ W wd h++[c]->⇑(`xej)+1<⇑y->nd y=M:=λ{y} d hl=>by
    cases e:nd y with
    |none=>rfl
    |some q =>
     exists f d (λe=>by rw[e]at hl;cases hl) e,i,m,rfl,h_;revert h_;calc Pf λD m2 m3 m4 C=>?_;have l1:=(H.sf m2).length_le;rw[Zr,Ti]at hl;rw[p4 m m3 m4 `am]at C;cases C
   refine Oe {_,S3.lk.set ⇑S.lg _,_} ⇑S.lg _ _ ⟨?_,P ▸ (H3.fix `am f2 (by rw[f3,s];calc iV c X) (by rw[f3,s,u,lw];calc Uq ph) (λy d hl=>by
    rw[s]at d;rw[f3,u]at hl;calc f9 y _ (by calc YM hold)<|ip (none_ d hl) d)),by rw[P];lia,P ▸ s,λm hm=>by rw[f4 m `am,Wl m hm],by lia,by lia,λx=>(f7 x).trans<|ex x,{λ{x y m n} j g=>?_}⟩
   .show (njb t p c).map _=_;rw[f1];rfl
   .rw[f8.eq j g];exists (f7 x).mp {m,(j)},D,R;exists (f7 y).mp {n,(g)},n1,Q;have e1:jw nd (W wd h++[c]) ⇑wd x=jw nd (W wd h++[c]) ⇑wd y↔nd x=nd y:=R ▸ Q ▸ {λe=>(same R Q).mp<|ZL e,λe=>by rw[(same R Q).mpr e]};rw[e1];have sw:=iV c X;have Z:∀{z q},nd z=Y q->(z <:+ W wd h++[c]↔z <:+ W wd p++[c]):=λ{z q} F=>{λa=>c9 a sw (by
     rw[u];calc Yo λb=>?_;rw[none_ a b]at F;cases F),λa=>a.trans sw}
    have un:∀{z q},nd z=M->jw nd (W wd h++[c]) ⇑wd z=Y q->z <:+ W wd h++[c]/\¬z <:+ W wd p++[c]:=λ{z q} F a=>by
     obtain b|b:=c7 a
     .rw[F]at b;cases b
     .refine{b.2.2,λa=>?_};exists H.suf A a,q',hq;rw[F]at hq;cases hq
    refine⟨λ⟨a,b⟩=>{a,?_},λ⟨a,b⟩=>{a,?_}⟩
    .cases o:nd x with
     |some q=>rw[Z o,Z<|by rw[<-a,o]];calc b
     |none =>
      exact{λ_=>(un (by rw[<-a,o]) Q).1,λ_=>(un o R).1}
    .cases o:nd x with
     |some q=>rw[<-Z o,<-Z (by rw[<-a,o])];calc b
     |none =>
      exact{λz=>absurd z (un o R).2,λz=>absurd z (un (by rw[<-a,o]) Q).2}
structure K(P:Wd->Prop)(S:St)(nd:`eB)(wd:`tp):Prop where
 i:I none S nd wd
 nil:P []
 some:∀x,(∃m,nd x=some m) ↔ ∃p,P p/\x <:+ p
 eq:∀{x y m n},nd x=.some m->nd y=.some n->(m=n ↔ ∀p,P p->(x <:+ p↔y <:+ p))
def K.congr(H:K P S b a)(h:∀p,P p↔Q p):K Q S b a:=by
 have:=funext λp=>propext<|h p;calc this ▸ H
noncomputable def nd0(x:Wd):Option Nat:=if x=[] then Y 0 else M
def gQ(h:nd0 x=Y n):x=[]/\n=0:=by
 unfold nd0 at h;grind
def K0:K (λp=>p=[]) S0 nd0 [[]]:=by
 refine⟨{IA,rfl,λn d=>?_,rfl,rfl,λ{x n} h=>?_,λ{x n} h=>?_,λ{n} d=>?_,λ{x y n} h b a=>?_,λ{x c n} h=>?_,λ{x y n} h b=>?_,rfl,λ{n} b a=>?_,λ{x n} h c=>?_},rfl,λx=>?_,λ{x y m n} b a=>?_⟩
 .have:=Nat.lt_one_iff.mp d;subst this;rfl
 .exact(`xij).2 ▸ Nat.one_pos
 .rw[(`xij).1];exact WH
 .have:=Nat.lt_one_iff.mp d;subst this;rfl
 .have e:=(`xij).2
  simp_all
 .have:=(`xij).1;exact absurd this (by simp)
 .have e:=(`xij).1;grind
 .have:n<1:=a;lia
 .exists `xij,rfl,rfl
  rfl
 .constructor
  .rintro⟨m,h⟩;exact{[],rfl,(`xij).1 ▸ WH}
  .rintro⟨p,rfl,h⟩;have:=Xf.mp h;subst this;exact{0,(rfl)}
 .exists gQ b,rfl,rfl;exists gQ a,rfl,rfl
  simp_all
theorem K.step(H:`xgj)(A:`xjx)(C:97<=c/\c<=122)(w:⇑(`xeH)+1<1000) :
  ∃g r l OU,hb S h c=.some (g,r)/\K (λp=>P p\/p=W wd h++[c]) g l OU/\r<⇑OU/\W OU r=W wd h++[c]/\(∀m,m<⇑wd->W OU m=W wd m)/\⇑wd<=⇑OU/\⇑OU<=⇑wd+2:=by
 calc ai λQ u=>?_;calc Oj (H.i.step A C w) λg r l OU=>yA9 λe O N L G F E o D=>?_;calc u ?_;refine Oe g r _ _ {e,{O,.inl H.nil,λx=>?_,λ{x y m n} t s=>?_},N,L,G,F,E}
 .rw[o,H.some]
  simp_all
 .rw[D.eq t s];have un:∀{z q},l z=.some q->nd z=M->z <:+ W wd h++[c]/\∀p,P p->¬z <:+ p:=λ{z q} a b=>{((o z).mp {q,(a)}).elim (λ⟨m,x⟩=>by rw[b]at x;cases x) id,λp d v=>by
   exists (H.some z).mpr {p,d,(v)},m,x;rw[b]at x;cases x}
  have old:nd x=nd y ↔ ∀p,P p->(x <:+ p↔y <:+ p):=by
   cases ex:nd x with
   |some a =>
    cases f:nd y with
    |some b=>exact{λe=>(H.eq ex f).mp<|ZL e,λe=>by rw[(H.eq ex f).mpr e]}
    |none =>
     refine{λe=>(nomatch e),λe=>?_};exists (H.some x).mp {a,(ex)},p,d,j;calc absurd ((e p d).mp j)<|(un s f).2 p d
   |none =>
    cases f:nd y with
    |some b =>
     refine{λe=>(nomatch e),λe=>?_};exists (H.some y).mp {b,(f)},p,d,j;calc absurd ((e p d).mpr j)<|(un t ex).2 p d
    |none=>simp_all
  rw[old];constructor
  .rintro⟨a,b⟩ p (d|rfl)
   .exact a p d
   .exact b
  simp_all
def K.grow:∀(w:Uj){P:Wd->Prop}{S:St}{nd:`eB}{wd:`tp}(H:`xgj){h:Nat},h<⇑wd->P `xeH->(∀c∈w,97<=c/\c<=122)->⇑(`xeH)+⇑w<1000 →
  ∃j r E OU,hg S h w=.some (j,r)/\K (λp=>P p\/∃v,v <+: w/\p=W wd h++v) j E OU/\r<⇑OU/\W OU r=W wd h++w/\(∀m,m<⇑wd->W OU m=W wd m)/\⇑wd<=⇑OU/\⇑OU<=⇑wd+2*⇑w:=by
 intro w
 induction w with
 |nil =>
  intro P S nd wd H h e f hw g;calc Oe S h nd wd {rfl,H.congr λp=>{.inl,?_},e,(ZO _).symm,λ_ _=>rfl,Zq _,Zq _};rintro (a|⟨v,a,rfl⟩)
  .exact a
  simp_all
 |cons c w t =>
  intro P S nd wd H h e f hw g;rw[Za]at g;calc ai λQ s=>?_;calc Oj (H.step e (hw c Zv) `am) λO r1 q n=>yA7 λe1 G C b A i N=>?_;calc Oj (t G C (.inr b) (λd hd=>hw d<|Zs _ hd) (by rw[b,Zr,Ti];lia)) λD r2 o l=>yA7 λe2 F z y x u L=>?_;calc s ?_;refine Oe D r2 _ _ {?_,F.congr λp=>?_,z,?_,λm hm=>by rw[x m<|by calc Zk hm i,A m hm],by calc ZY i u,by rw[Za];lia}
  .show (hb S h c).bind _=_;exact e1 ▸ e2
  .rw[b];constructor
   .rintro ((a|rfl)|⟨v,a,rfl⟩)
    .exact .inl a
    .simp_all
    simp_all
   .rintro (a|⟨v,a,rfl⟩)
    .exact .inl<|.inl a
    .cases v with
     |nil=>rw[ZO];calc .inl<|.inl f
     |cons d v =>
      simp_all
  .rw[y,b,ZU];rfl
def mB(S:St):List Wd->Option St
 |[]=>Y S
 |t::b=>(`xkX).bind λz=>mB z.1 b
def K.book:∀(b:`tp){P:Wd->Prop}{S:St}{nd:`eB}{wd:`tp}(H:`xgj),(∀t∈b,∀c∈t,97<=c/\c<=122)->(∀t∈b,⇑t<1000) →
  ∃e r OU,mB S b=.some e/\K (λp=>P p\/∃t∈b,p <+: t) e r OU/\⇑wd<=⇑OU/\⇑OU<=⇑wd+2*({`x4,b.map}).sum:=by
 intro b
 induction b with
 |nil =>
  intro P S nd wd H _ _;calc Ow S nd wd {rfl,H.congr λp=>{.inl,?_},Zq _,ZX _ _};grind
 |cons t b m =>
  intro P S nd wd H d hl;calc ai λD l=>?_;calc Oj (H.grow t (H.i.lt H.i.z) (H.i.wz ▸ H.nil) (d t Zv) (by rw[H.i.wz];simp_all)) λC r1 j g=>yA7 λe1 u A y x o w=>?_;calc OH (m u (λt a=>d t<|Zs _ a)<|λt a=>hl t<|Zs _ a) λq h f=>OI λe2 s n v=>?_;calc l ?_;refine Ow q _ _ {?_,s.congr λp=>?_,by calc ZY o n,by grind}
  .show (`xkX).bind _=_;exact e1 ▸ e2
  .rw[H.i.wz];grind
noncomputable def Hd(b:`tp)(p:Wd):Prop:=p=[]\/∃t∈b,p <+: t
def K.of(b:`tp)(d:∀t∈b,∀c∈t,97<=c/\c<=122)(a:∀t∈b,⇑t<1000):∃S nd wd,mB S0 b=.some S/\K (Hd b) S nd wd/\⇑wd<=1+2*({`x4,b.map}).sum:=by
 calc OH (K0.book b d a) λS nd wd=>OI λe H _ l=>?_;calc Ow S nd wd {e,H,(l)}
def sk(w:`cq):Uj:=({`xcy,97,26}).filter λc=>(`Z_).isSome
def visit(w:`cq):Uj->Uj->Uj
 |[],met=>met
 |c::r,met=>visit w r<|if (`Z_).getD 0∈met then met else met++[(`Z_).getD 0]
def UB(S:St):Nat->Uj->Nat->Option (Uj)
 |k,met,d=>if d<⇑met then (match k with
  |0=>M
  |k+1=>UB S k (visit (S.wy.getD {`x8,d} []) (sk<|S.wy.getD {`x8,d} []) met)<|d+1) else Y met
def steps(S:St)(a:Uj)(n:Nat):List `ti:=(sk<|S.wy.getD n []).map λc=>(c,a.idxOf<|(gW (S.wy.getD n []) c).getD 0)
noncomputable abbrev Row:=Nat×Nat×Option Nat×List `ti
def row(S:St)(a:Uj)(n:Nat):Row:=match S.lk.getD n M with
 |none=>(0,0,M,steps S a n)
 |some l=>(S.lg.getD l 0+1,S.lg.getD n 0,Y<|a.idxOf l,steps S a n)
def tab(S:St)(a:Uj):List Row:=a.map<|row S a
def oj{w:`cq}{c:Nat}(h:c∈sk w):∃m,gW w c=Y m:=YE.mp (X2.mp h).2
theorem rj(hw:∀c m,gW w c=Y m->m<N):∀(r met:Uj),(∀c∈r,∃m,gW w c=Y m)->(∀x∈met,x<N)->∀x∈visit w r met,x<N
 |[],met,_,hm=>hm
 |c::r,met,a,hm=>by
  calc rj hw r _ (λd hd=>a d<|Zs _ hd) ?_;exists a c Zv,m,e;rw[e,Ur];split
  .exact hm
  .intro x b;obtain h|h:=Zf.mp b
   .exact hm x h
   .exact ZK.mp h ▸ hw c m e
def getD_mem{l:Uj}(h:`xkW):l.getD d 0∈l:=by
 simp_all
theorem nS{w:`cq}:∀(r met:Uj),∃l,visit w r met=met++l
 |[],met=>{[],(ZO _).symm}
 |c::r,met=>by
  exists nS r _,l,e;show ∃l,visit w r _=_;rw[e];split
  .exact{l,(rfl)}
  simp_all
theorem rG:∀(r met:Uj),met.Nodup->(`xgi).Nodup
 |[],met,h=>h
 |c::r,met,h=>by
  calc rG r _ ?_;split
  .exact h
  .rename_i q;rw[ZG];grind
theorem sA{w:`cq}:∀(r met:Uj),∀c∈r,(`Z_).getD 0∈visit w r met
 |d::r,met,c,a=>by
  obtain rfl|a:=Zi.mp a
  .exists nS (w:=w) r (if (`Z_).getD 0∈met then met else met++[(`Z_).getD 0]),l,e;show _∈visit w r _;grind
  .exact sA r _ c a
def C5(b:∀p∈w,97<=p.1/\p.1<=122)(h:gW w c=Y m):c∈sk w:=by
 calc X2.mpr {?_,by rw[h];rfl};exists Zx.mp h,p,a,_;grind
def JO(r:`xlW):∀(k:Nat)(met:Uj)(d:Nat),met.Nodup->(∀x∈met,x<⇑S.lg)->d<=⇑met->⇑S.lg<=k+d->(∀i,i<d->∀c m,gW (S.wy.getD {`x8,i} []) c=Y m->m∈met) →
  ∃l,UB S k met d=Y (met++l)/\(met++l).Nodup/\(∀x∈met++l,x<⇑S.lg)/\∀n∈met++l,∀c m,gW (S.wy.getD n []) c=Y m->m∈met++l:=by
 intro k;have fin:∀(met:List _)(d:Nat),¬d<⇑met->d<=⇑met->(∀i,i<d->∀c m,gW (S.wy.getD {`x8,i} []) c=Y m->m∈met)->∀n∈met,∀c m,gW (S.wy.getD n []) c=Y m->m∈met:=by
  intro met d f b h n u c m e;exists List.mem_iff_getElem.mp u,i,j,q;refine h i `am c m ?_
  simp_all
 induction k with
 |zero =>
  intro met d nd lt hd g h;have hl:⇑met<=⇑S.lg:=by
   have:=sub_len _ _ nd λx t=>Yu.mpr<|lt x t
   simp_all
  have a:¬d<⇑met:=by lia
  refine{[],?_,?_}
  .unfold UB
   simp_all
  .rw[ZO];exact{nd,lt,fin _ d a hd h}
 |succ k s =>
  intro met d nd lt hd g h;by_cases a:d<⇑met
  .exists nS _ _,y,e1;refine TU (s (visit _ (sk<|S.wy.getD {`x8,d} []) _) (d+1) (rG _ _ nd) (rj (λc m e=>r.on _ c m e) _ _ (λc v=>oj v) lt) (by rw[e1,Zr];lia) `am (λi j c m e=>by
    have p:(visit (S.wy.getD {`x8,d} []) (sk<|S.wy.getD {`x8,d} []) met).getD i 0=met.getD i 0:=by
     grind
    rw[p]at e;by_cases q:i=d
    .clear hd g h a e1 j p;subst q;have:=sA (w:=S.wy.getD {`x8,i} []) _ met c<|C5 (r.wnd _).2 e;rw[e]at this;exact this
    .exact e1 ▸ YQ _ (h i `am c m e))) λl=>OI λe f b o=>?_
   rw[e1,ZU]at f b o;refine{_,?_,f,b,o};unfold UB
   simp_all
  .refine{[],?_,?_}
   .unfold UB;rw[Zn a,ZO]
   .rw[ZO];exact{nd,lt,fin _ d a hd h}
def Gk{α:Type}{p:List α->Prop}(h0:p [])(h1:∀l a,p l->p (l++[a]))(l:`ew):p l:=by
 have:∀l:List α,p l.reverse:=by
  intro l
  induction l with
  |nil=>calc h0
  |cons a l ih=>simp_all
 calc List.reverse_reverse l ▸ this _
def K.met{S:St}(H:`xgj){k:Nat}(hk:⇑wd<=k):∃l,UB S k [0] 0=Y (0::l)/\(0::l).Nodup/\(∀x,x∈0::l↔x<⇑wd)/\⇑(0::l)=⇑wd:=by
 have L:=H.i.len.symm;calc TU (JO H.i.wf k [0] 0 (by simp) (λx hx=>ZK.mp hx ▸ H.i.wf.pos) (Pr _) `am<|λi hi=>absurd hi<|Nat.not_lt_zero _) λl=>OI λe h1 h2 h3=>?_;have h0:∀(x:Wd) n,nd x=Y n->n∈0::l:=by
  intro x
  induction x using Gk with
  |h0=>intro n e;rw[H.i.z]at e;simp_all
  |h1 x c ih =>
   intro n e;exists H.i.pre e,m,hm;exact h3 m (ih m hm) c n (by rw[H.i.wy hm];calc e)
 have hx:∀x,x∈0::l↔x<⇑wd:=λx=>{λz=>L ▸ h2 x z,λz=>h0 _ x<|H.i.top z}
 refine{l,e,h1,hx,Xg ?_ ?_}
 .have:=sub_len _ _ h1 λx z=>Yu.mpr<|(hx x).mp z
  simp_all
 .have:=sub_len _ _ Wu λx z=>(hx x).mpr<|Yu.mp z
  simp_all
end AU
namespace T47
open VS AU
def FW(w:`cq)(c:Nat):c∈w.map (·.1)↔(`Z_).isSome=J:=by
 rw[<-JH,XF,ZW];grind
def zI{w:`cq}(a:(w.map (·.1)).Nodup)(b:∀p∈w,97<=p.1/\p.1<=122):(`xkj).Perm (w.map (·.1)):=by
 refine(Vx ?_ a).mpr λc=>?_
 .exact V7 VB List.nodup_range'
 .rw[FW];constructor
  .intro h;exact(X2.mp h).2
  .intro h;exists YE.mp h,m,e;calc C5 b e
def CP{w:`cq}(e:(w.map (·.1)).Nodup)(d:∀p∈w,97<=p.1/\p.1<=122):jU [(m,QL w)]=Y (.fr,.lst<|(`xkj).map λc=>T.str [c]):=by
 show ((strs? _).bind _)=_;have e1:(w.map λp=>(T.str [p.1],T.int (p.2:Int))).map (·.1)=(w.map (·.1)).map λc=>T.str [c]:=by
  simp_all
 rw[e1,strs_map _,Zw,Zp]
 .have:(`xkj).map (λc=>[c])=jh ((w.map (·.1)).map λc=>[c]):=by
   calc sv ((zI e d).map _) ?_;rw[Y6];calc List.Pairwise.imp ?_<|List.Pairwise.filter _<|List.pairwise_lt_range';intro a b i h;rcases VJ.mp h with h|⟨_,h⟩
   .lia
   simp_all
  rw[<-this,QF];rfl
 .refine{?_,ZC.mpr ?_}
  .rw[Zu,<-(zI e d).length_eq];have:⇑(`xkj)<=⇑({`xcy,97,26}):=X5 _ _;rw[List.length_range']at this;lia
  intro s hs;exists ZW.mp hs,c,g,rfl;exists ZW.mp g,p,f,rfl;have:=d p f;show (decide _&&(decide _&&J))=J;rw[ZI (show p.1<1114112 by lia)];rfl
noncomputable def nE:Nat->Uj->List `xfY
 |_,[]=>[]
 |k,n::r=>(T.int (n:Int),T.int (k:Int))::nE `T5 r
theorem B3:∀(met:Uj)(k:Nat),⇑(`xkV)=⇑met
 |[],_=>rfl
 |_::r,k=>by rw[nE,Za,Za,B3 r]
theorem uE:∀(met:Uj)(k:Nat),(`xkV).map (·.1)=met.map λ(n:Nat)=>T.int (n:Int)
 |[],_=>rfl
 |_::r,k=>by rw[nE,Zh,Zh,uE r]
theorem Cb:∀(met:Uj)(k n:Nat),nE k (met++[n])=nE k met++[(T.int (n:Int),T.int ((k+⇑met:Nat):Int))]
 |[],k,n=>rfl
 |m::r,k,n=>by
  rw[Va,nE,nE,Cb r _ n,Za,Va];rw[show k+1+⇑r=k+(⇑r+1) by lia]
def N6(a b:Nat):eqT (.int (a:Int)) (.int (b:Int))=(a==b):=by
 rw[XR,beq_iff_eq];calc beq_iff_eq.trans Int.ofNat_inj
theorem ub:∀(met:Uj)(k n:Nat),eU `xkV (.int (n:Int))=if n∈met then Y (T.int ((k+met.idxOf n:Nat):Int)) else M
 |[],_,_=>rfl
 |m::r,k,n=>by
  show ((((T.int _,T.int _)::nE _ r).find? _).map _)=_;rw[Yn];simp only[N6];by_cases h:m=n
  .simp_all
  .have hb:=beq_eq_false_iff_ne.mpr h;have a:=ub r `T5 n;unfold eU at a;simp only[hb];grind
def KO(a:Uj)(n:Nat)(h:n∉a):dput `xhs (.int (n:Int)) (.int (⇑a:Int))=nE 0 (a++[n]):=by
 unfold dput;rw[Zn,Cb]
 .rw[YI]
 .intro z;exists XF.mp z,p,b,e;have:(eU `xhs<|.int (n:Int)).isSome=J:=by
   unfold eU;grind
  rw[ub,Zn h]at this;cases this
def nT(a:Uj):T:=.dct 0 `xhs
noncomputable def mT(a:Uj):T:=.lst<|a.map λ(n:Nat)=>T.int (n:Int)
def IZ{n:Nat}(h:a U=Y (m,nT d))(he:e U=Y (k,.int (n:Int))):e2 dP e a U=Y (.fr,.bl (decide (n∉d))):=e2v he h (by
 show (match (if J=J then Y (Md.fr,T.bl _) else M) with|some (_,.bl b)=>some (Md.fr,T.bl<|!b)|_=>none)=_;rw[Zp L,ub];by_cases q:n∈d
 .simp_all
 simp_all)
theorem Ei{d:Nat}{b:Ug}:∀(r met:Uj)(z:Ug),(∀c∈r,∃m,gW w c=Y m)->⇑met+⇑r<16777216->∃a,forL (bC 5) dC (r.map λc=>T.str [c]) [b,oc `xhr,oc `xki,Q0 (d:Int),pc `xmG,z]=Y (.nx [b,oc<|nT `xgi,oc<|mT `xgi,Q0 (d:Int),pc `xmG,a])
 |[],met,z,_,_=>{z,(rfl)}
 |c::r,met,z,h,hl=>by
  exists h c Zv,m,e;rw[Za]at hl;by_cases q:m∈met
  .exists Ei r met _ (λd hd=>h d<|Zs _ hd) `am,a,g;refine{a,?_};have ev:visit w (c::r) met=visit w r met:=by
    show visit w r _=_
    simp_all
   rw[ev,Zh];refine(cQ L ?_).trans g;refine(oN (m:=.fr) ?_).trans L;refine(`xkU).trans ?_
   simp_all
  .exists Ei r (met++[m]) _ (λd hd=>h d<|Zs _ hd) (by rw[Zr,Ti];lia),a,g;refine{a,?_};have ev:visit w (c::r) met=visit w r (met++[m]):=by
    show visit w r _=_
    simp_all
   rw[ev,Zh];refine(cQ L ?_).trans g;refine(u9 (m:=.fr) ?_).trans ?_
   .refine(`xkU).trans ?_;rw[ZI q]
   .have f:∀nn i:Option _,e2 _ `gt `Z9 [b,nn,i,Q0 (d:Int),pc _,pc _]=Y _:=λnn i=>yX L L e;have j:qg 1 {`xcE,RF,`Z9} `Fa [b,oc `xhr,oc `xki,Q0 (d:Int),pc `xmG,Q2<|[c]]=Y (.nx [b,oc<|nT<|met++[m],oc `xki,Q0 (d:Int),pc `xmG,Q2<|[c]]):=by
     unfold qg;rw[(je (xv (x:=(.bo,mT _)) L L) (by
      show Y _=_;rw[Zu])),Zw]
     refine(IM L).trans ?_;show ((e2 _ _ _ _).bind _)=_;rw[f,Zw];rw[Zp {rfl,rfl,by rw[(B3 _ 0)];show ⇑met<16777216;lia},KO _ m q];rfl
    refine(ar j).trans ?_;refine(qV L (f _ _) (by rw[Zu];lia)).trans ?_;rw[show (met.map _)++[.int _]=(met++[m]).map λ(n:Nat)=>T.int _ from by rw[Rn];rfl];rfl
def za(w:`cq):⇑(`xkj)<=26:=by
 refine ZY (X5 _ _) ?_
 simp_all
def G6{S:St}{a:Uj}(b:a.Nodup)(d:∀x∈a,x<⇑S.lg):⇑a<=⇑S.lg:=by
 have:=sub_len _ _ b λx e=>Yu.mpr<|d x e
 simp_all
def Nw(o:`xlW)(z:`xeT):∀(k:Nat)(met:Uj)(d:Nat)(M:Uj),met.Nodup->(∀x∈met,x<⇑S.lg)->UB S k met d=Y M->∀N,k<N->∀f a:Ug,∃l i g,
  dc `xlT di N [pc `z7,oc `xhr,oc `xki,Q0 ((d:Nat):Int),f,a] =
   Y (.nx [pc `z7,oc<|nT M,oc<|mT M,pc l,i,g]):=by
 have cond:∀(met:List _)(d:Nat)(f a:Option _),e2 oLt `fw `Fa [pc `z7,oc `xhr,oc<|mT _,Q0 ((d:Nat):Int),f,a]=Y (.fr,.bl (decide (d<⇑met))):=λmet d f a =>
  e2v L (je `xfZ (by
   show Y (Md.fr,T.int ((⇑(met.map _):Nat):Int))=_;rw[Zu])) (kY<|decide_eq_decide.mpr W6)
 intro k
 induction k with
 |zero =>
  intro met d M nd lt e N hN f a;obtain⟨N,rfl⟩:∃M,N=M+1:={N-1,by lia}
  unfold UB at e;split at e
  .cases e
  .rename_i h;obtain rfl:=Om e;calc Ow _ f a (eY<|(cond _ _ _ _).trans<|by rw[ZP h])
 |succ k u =>
  intro met d M nd lt e N hN f a;obtain⟨N,rfl⟩:∃M,N=M+1:={N-1,by lia}
  unfold UB at e;split at e
  .rename_i h;have v:met.getD d 0<⇑S.wy:=o.wy ▸ (lt _<|getD_mem h);have y:=G6 nd lt;have w:=za<|S.wy.getD {`x8,d} [];exists Ei (sk<|S.wy.getD {`x8,d} []) met a (λc j=>oj j) `am,p,t;exists u _ _ M (rG _ _ nd) (rj (λc m e=>o.on _ c m e) _ _ (λc j=>oj j) lt) e N (by simp_all) _ p,l,s,r,q;calc Ow l s r<|(mK ((cond _ _ _ _).trans<|by rw[ZI h]) ?_).trans q;have ix:e2 _ `gi `fw [pc `z7,oc `xhr,oc<|mT _,pc _,f,a]=Y _:=e2v L L<|iB _ _ d 0 h;refine(ar<|aG (m:=.pu) (qR (S:=S) (b:=B) (m:=.pu) (n:=.fr) L ix v) `ao (by decide:4<6)).trans ?_;have nw:=o.wnd {`x8,d};refine(ar<|(cG (m:=.fr) ?_ L).trans t).trans ?_
   .show (eN _ _ _).bind _=_;rw[je `xfZ `xnU];rfl
   .exact aG L `ao (by decide:3<6)
  .rename_i h;obtain rfl:=Om e;calc Ow _ f a (eY<|(cond _ _ _ _).trans<|by rw[ZP h])
def Jv(a:`xlW)(g:`xeT){M:Uj}(h:k<1000000)(e:UB S k [0] 0=Y M):aR [Ou S B]=Y (.fr,nT M):=by
 exists Nw a g k _ 0 M (by simp) (λx f=>ZK.mp f ▸ a.pos) e _ (by calc h) _ _,i,d,b,q;calc dg (U:=[pc `z7,none,pc<|mT M,pc i,d,b]) L ?_;exact(`xgX).trans {`xot,(`xgX).trans<|(ar q).trans {`xot,L}}
noncomputable def UI(l:`cq):T:=.tup<|l.map λp=>T.tup [.str [p.1],.int (p.2:Int)]
def lj(r:Row):T:=.tup [.int (r.1:Int),.int (r.2.1:Int),QI r.2.2.1,UI r.2.2.2]
theorem Ac:∀l:List `ti,gq (l.map λp=>T.tup [.str [p.1],.int (p.2:Int)])=J
 |[]=>rfl
 |p::l=>by
  rw[Zh];show (J&&gq _)=J;rw[Ac l];rfl
def t4(l:`cq):Ol (UI l)=J:=Ac l
def t6(r:Row):Ol (lj r)=J:=by
 show (J&&(J&&(Ol _&&(Ol _&&J))))=J;rw[oa,t4];rfl
def ME(h:a U=Y (.fr,x))(g:b U=Y (.fr,y))(f:c U=Y (.fr,z))(e:d U=Y (.fr,w)):jA (ae a {`xdU,b,c,ae d ak}) U=Y (.fr,.tup [x,y,z,w]):=by
 show (ae a _ U).bind _=_;rw[xv h<|xv g<|xv f<|xv e L,Zw];show Y _=_;unfold up;split<;>rfl
def Ki(b:`xlW)(i:∀x,x<⇑S.lg->x∈a)(f:{`xbp,n}):dB [Ou S B,.int (n:Int),.dct 3 `xhs]=Y (.fr,lj<|row S a n):=by
 have nw:=b.wnd n;have get:∀v,v<⇑S.lg->eU _ _=Y _:=λv o=>by rw[ub,Zp<|i v o,YI]
 have s1:aY 3 (e2 _ (bF 2 `cm) `cv) [pc _,pc _,pc _,M,M,M]=Y (.nx [pc `z7,pc _,pc `Hs,pc _,M,M]):=aG (Aq L L<|b.lk ▸ f) `ao (by decide:3<6);have e:aY 4 (e2 _ `xed `cv) [pc _,pc _,pc _,pc _,M,M]=Y (.nx [pc `z7,pc _,pc `Hs,pc `xmw,pc _,M]):=aG (m:=.pu) (qR L L<|b.wy ▸ f) `ao (by decide:4<6);have q:eN mZ `v5 [pc `z7,Q0 (n:Int),pc `Hs,pc `xmw,pc<|QL<|S.wy.getD n [],M]=Y (.fr,UI {`P4,a}):=by
  have r:=gU (k:=1) (tg:=`xgE) (it:=iK _) (elt:=jA _) (U:=[pc _,pc _,pc _,pc _,pc _,M]) _ (λc=>T.tup [.str _,.int ((a.idxOf ((gW _ c).getD 0):Nat):Int)]) _ (by
   show (eN jU `xap _).bind _=_;rw[je `xfZ `xnU];rfl) L (ZY (za _) `ao) (λc p=>by
   exists oj p,v,ev;refine{[pc _,pc `z7,Q0 (n:Int),pc `Hs,pc `xmw,pc _,M],rfl,?_};rw[ev,Ur];show (ae `cm {`m6,e2 yQ `fw `xmN} _).bind _=_;rw[xv L (xv (e2v (x:=(.pu,.dct 3 _)) L (yX (m:=.pu) (n:=.fr) (c:=c) (w:=S.wy.getD n []) L L ev) (by
     show (if J=J then (eU _ _).map _ else M)=_;rw[Zp L,get v<|b.on n c v ev];rfl)) L)]
   rfl)
  calc je (xv r L) ?_;show (if _<=gn then Y _ else M)=_;rw[Zp (by rw[Zu];calc ZY (za _) `ao)];have:T.tup ((sk<|S.wy.getD n []).map λc=>T.tup [.str [c],.int ((a.idxOf ((gW (S.wy.getD n []) c).getD 0):Nat):Int)])=UI {`P4,a}:=by
   unfold UI steps;rw[QF];rfl
  rw[this];unfold up;rw[t4];rfl
 have d:=aG q `ao (by decide:5<6);have j:∀U:Env,U[5]?=Y (pc _)->ab 5 U=Y (.fr,UI {`P4,a}):=λU h=>by
  show (match U[5]? with|some `xgD=>some (up _ t)|some `kw=>some _|_=>none)=_;rw[h];show Y _=_;unfold up;rw[t4];rfl
 unfold row;cases g:S.lk.getD n _ with
 |none =>
  rw[g]at s1 e d;calc dg (U:=[pc `z7,Q0 (n:Int),pc `Hs,pc<|QI M,pc<|QL<|S.wy.getD n [],pc<|UI {`P4,a}]) L ?_;refine(`xao).trans<|(ar e).trans<|(ar d).trans<|jr<|(u9 L).trans<|dr<|ME L L L<|j _ L
 |some l =>
  rw[g]at s1 e d;have hl:=b.up n l g;calc dg (U:=[pc `z7,Q0 (n:Int),pc `Hs,pc<|QI<|Y l,pc<|QL<|S.wy.getD n [],pc<|UI {`P4,a}]) L ?_;refine(`xao).trans<|(ar e).trans<|(ar d).trans<|(`xil).trans<|dr<|ME ?_ ?_ ?_<|j _ L
  .exact e2v (xw L L hl) L L
  .exact xw L L f
  .exact e2v L L (by
    show (if J=J then (eU _<|.int _).map _ else M)=_;rw[Zp L,get l hl];rfl)
def OC(t:List Row):T:=.lst<|t.map lj
def JJ(b:`xlW)(g:`xeT){M:Uj}{k:Nat}(l:k<1000000)(e:UB S k [0] 0=Y M)(a:∀x,x∈M↔x<⇑S.lg)(j:⇑M<=16777216):dZ [Ou S B]=Y (.fr,OC<|tab S M):=by
 have d:=Jv b g l e;calc dg (U:=[pc `z7,none]) L ?_;have s1:j4 1 `xlS [pc `z7,none]=Y (.nx [pc `z7,oc<|nT M]):=by
  show (gH 0 _ _ _ _).bind _=_;have:gH 0 aR `cm ak [pc `z7,none]=Y (.fr,nT M):=by
   show ((aR [Ou S _]).bind _)=_;rw[d];rfl
  rw[this];rfl
 refine(`xao).trans ?_;have o:=gU (k:=1) (tg:=`xgE) (it:=Jg 1) (elt:=gH 0 _ `cv {`xbs,`cm}) (m:=.fr) (U:=[pc _,pc<|.dct 3 _]) _ _ M (by
  show (if ((nE 0 M).all _)=J then Y _ else none)=_;rw[Zp,uE];rw[ZC];intro p h;have:p.1∈(nE 0 M).map _:=List.mem_map_of_mem h;rw[uE]at this;exists ZW.mp this,n,_,e;rw[<-e];rfl) L j (λn i=>by
  refine{[pc _,pc `z7,pc _],rfl,?_};show ((dB [Ou S B,.int (n:Int),.dct 3 _]).bind _)=_;rw[Ki b (λx f=>(a x).mpr f)<|(a n).mp i];rfl)
 show ((gE 1 _ _ _ (gH 0 _ _ _) [pc _,pc _]).bind _)=_;rw[o];unfold OC tab;rw[QF];rfl
def fsM(a:`cr)(b:Uj)(S:St):v8:=[(4,.lst `Ua),(5,.lst<|b.map λ(n:Nat)=>T.int (n:Int)),(6,Ou S B)]
def OO(a:`cr)(d:Uj)(S:St)(b:Bool):T:=.obj 2<|(0,.bl b)::fsM a d S
def HY(S:St):gy `z7=J:=by
 show ((J && !(0==0&&B))&&iQ `xio)=J;rw[mD];rfl
def mN(a:`cr)(b:Uj)(S:St):iQ (fsM a b S)=J:=by
 have e:gy {`xba,a.map T.str}=J:=fH _ (λ_=>rfl) _;have d:gy (.lst<|b.map λ(n:Nat)=>T.int (n:Int))=J:=fH _ (λ_=>rfl) _;show ((gy _ && !(4==0&&isT _))&&((gy _ && !(5==0&&isT _))&&((gy _ && !(6==0&&isT _))&&J)))=J;rw[e,d,HY];rfl
def HH(a:`cr)(d:Uj)(S:St)(b:Bool):vP 4 (OO a d S b)=Y `xkT:=rfl
def N2(d:`cr)(a:Uj)(S:St)(b:Bool):vP 5 (OO d a S b)=Y (.lst<|a.map λ(n:Nat)=>T.int (n:Int)):=rfl
def N7(a:`cr)(d:Uj)(S:St)(b:Bool):vP 6 (OO a d S b)=Y `z7:=rfl
def Eh{m:Md}(h:a U=Y (m,OO tx hd S b)):eN cn {`m6,bF 4 a} U=Y (.fr,.int (⇑tx:Nat)):=je (xv (iO h<|HH tx hd S b) L) (by
 show Y _=_;rw[Zu])
def K3{e:Ex}{v:Tx}(h:e `d_=Y (.fr,.str v))(f:{`xca,⇑tx}):sX (k9 0 [.fld 4] aP `xgl) `d_=Y (.nx<|oc (OO (tx++[v]) hd S b)::r):=by
 show (((Y _).bind λd=>(ae e _ _).bind λa=>(pm `xfb d _).map _).map _)=_;rw[Zw,xv (r:=ak) h L,Zw];show (((aP (.lst _) [(.fr,.str v)]).map _).map _ |>.map _)=_;rw[eI<|by simp_all,show (tx.map _)++[.str v]=(tx++[v]).map T.str from by rw[Rn];rfl];rfl
def Lm{e:Ex}{v:Nat}(h:e `d_=Y (.fr,.int (v:Int)))(f:{`xca,⇑hd}):sX (k9 0 [.fld 5] aP `xgl) `d_=Y (.nx<|oc (OO tx (hd++[v]) S b)::r):=by
 show (((Y _).bind λd=>(ae e _ _).bind λa=>(pm `xfb d _).map _).map _)=_;rw[Zw,xv (r:=ak) h L,Zw];show (((aP (.lst _) [(.fr,.int _)]).map _).map _ |>.map _)=_;rw[eI<|by simp_all,show (hd.map _)++[.int _]=(hd++[v]).map λ(n:Nat)=>T.int _ from by rw[Rn];rfl];rfl
def Cr{tx:`cr}{hd:Uj}(h:⇑tx<8)(i:`xjw):bE (fsM tx hd S) []=Y (fsM (tx++[[]]) (hd++[0]) S,.int (⇑tx:Int)):=by
 unfold bE Rj;rw[Zp {rfl,(rfl)}];have a:e2 oGe (eN _<|ae `xfy _) `xmM [oc {`y8,J}]=Y (.fr,.bl B):=e2v `xmv L (by
  show Y _=_;grind)
 have g:=K3 (tx:=tx) (hd:=hd) (S:=S) (b:=J) (r:=[]) (e:=eC _) (v:=[]) L `bi;have f:=Lm (tx:=tx++[[]]) (hd:=hd) (S:=S) (b:=J) (r:=[]) (e:=eC _) (v:=0) L `bi;have d:=dr (e:=e2 yn (eN _<|ae `xfy _) `jl) (U:=[oc<|OO (tx++[[]]) (hd++[0]) S J]) (t:=.int (⇑tx:Int)) (e2v `xmv L (by
  show Y _=_;simp))
 calc ZF (λz:Option _=>z.bind _)<|({`xaU,a}).trans<|(ar g).trans {`tf,ar,f,d}
def Ny{l:Uc}(a:`UJ):bV [.lst l,.int (i:Int)]=Y (.fr,.non):=by
 calc II (U:=[pc `xea,Q0 (i:Int)]) L ?_;refine(oN (m:=.fr)<|vK (m:=.fr) (x:=B) ?_ (λ_=>?_)<|λh=>by cases h).trans rfl
 .exact lU (m:=.fr) (b:=J) L
 .refine lU (m:=.fr) (b:=J)<|oR (x:=(.fr,.int 0)) (y:=(.fr,.int _)) (z:=(.fr,.int _)) L L ?_ (je (xv (x:=(.pu,.lst l)) L L) L) ?_
  .show Y _=_;rw[ZI<|Vv i]
  calc kY<|ZI `xla
def Bz{tx:`cr}(a:`xjv):bV [.lst<|tx.map .str,.int (i:Int)]=Y (.fr,.non):=Ny (by simp_all)
noncomputable def fY(a:`cr):Nat:=({`x4,a.map}).sum
theorem zp:∀a:List Tx,(a.map λt=>(⇑t:Int)).sum=(fY a:Int)
 |[]=>rfl
 |t::a=>by
  rw[Zh,V2,zp a];unfold fY;grind
def DM(a:`cr)(b:⇑a<=16777216):i6 [.lst `Ua]=Y (.fr,.int (fY a:Int)):=by
 calc dg (U:=[pc `xkT]) L ?_;calc dr<|je (xv (r:=ak) (gU (m:=.pu) _ _ a L L b<|λt d=>{_,rfl,(rfl)}) L) ?_;show (xJ _).bind _=_;rw[ints_map _,Zw,zp]
def Kt{hd:Uj}{i v:Nat}{e ev:Ex}{n:Md}{r:`xgk}(g:i<⇑hd)(he:e `d_=Y (n,.int (i:Int)))(a:ev `d_=Y (.fr,.int (v:Int))) :
  fZ 0 [.fld 5] e ev `d_=Y {`xcn,OO tx `xii S b}:=by
 unfold fZ;rw[a,Zw];refine(zf L).trans ?_;show ((keys _ _).bind _)=_;have f:keys [.fld 5] `d_=Y _:=rfl;rw[f,Zw,he,Zw];have d:pm (nK (n,.int (i:Int)) (.fr,.int (v:Int))) [.fld 5] {`y8,b}=Y (OO tx `xii S b,()):=by
  show ((nK _ _ _).map _)=_;have:nK (n,.int (i:Int)) (.fr,.int (v:Int)) (.lst<|hd.map λ(n:Nat)=>T.int (n:Int))=Y (.lst<|(`xii).map λ(n:Nat)=>T.int (n:Int),()):=by
   show ((Pq _ _).map _)=_;rw[Zu,wL g,W5];rfl
  rw[this];rfl
 rw[d];rfl
def Kh{tx:`cr}{n:Md}(h:`xjv)(he:e `d_=Y (n,.int (i:Int)))(d:a `d_=Y (.fr,.str v)) :
  fZ 0 [.fld 4] e a `d_=Y {`xcn,OO `xih hd S b}:=by
 unfold fZ;rw[d,Zw];refine(zf L).trans ?_;show ((keys _ _).bind _)=_;have g:keys [.fld 4] `d_=Y _:=rfl;rw[g,Zw,he,Zw];have f:pm (nK (n,.int (i:Int)) (.fr,.str v)) [.fld 4] {`y8,b}=Y (OO `xih hd S b,()):=by
  show ((nK _ _ _).map _)=_;have:nK (n,.int (i:Int)) (.fr,.str v) {`xba,tx.map T.str}=Y (.lst<|(`xih).map T.str,()):=by
   show ((Pq _ _).map _)=_;rw[Zu,wL h,W5];rfl
  rw[this];rfl
 rw[f];rfl
def Hk{tx:`cr}{hd:Uj}{i r:Nat}{w:Tx}(W:`xlW)(F:`xjw)(a:`xjv)(G:⇑tx<=8)(E:fY tx+⇑w<=120)(o:⇑S.lg+2*⇑w<=100000)(l:hd.getD i 0<⇑S.lg)(p:∀c∈w,97<=c/\c<=122)(D:⇑(tx.getD i [])<=120)(e:hg S (hd.getD i 0) w=Y (S',r)) :
  bL (fsM tx hd S) [.int (i:Int),.str w]=Y (fsM (tx.set i<|tx.getD i []++w) `xig S',.non):=by
 exists IP W o l p e,A,u,s,f;unfold bL Rj;rw[Zp {rfl,(rfl)}];have s1:sX {`xcp,4} [oc {`y8,J},Q0 (i:Int),Q2 w]=Y (.nx [oc {`y8,J},Q0 (i:Int),Q2 w]):=by
  have:bu _ (ae `xfy `li) [oc _,Q0 _,Q2 w]=Y _:=aL (xv (iO (m:=.bo) (t:=OO tx hd S _) L `xnT)<|xv (x:=(.fr,.int _)) L L)<|Bz a;show (((bu _ _ _).map _).map _)=_;rw[this];rfl
 have q:e2 Tv (e2 b6 (bu _<|ae `xfy _) `Fa) (Q3 _) [oc _,Q0 (i:Int),Q2 w]=Y (.fr,.bl B) :=
  e2v (x:=(.fr,.int _)) (e2v (aL (xv (r:=ak) (iO (m:=.bo) (t:=OO tx hd S _) L `xnT) L)<|DM tx `bi) (y:=(.fr,.int _)) L L) L (by
   show Y (Md.fr,T.bl (decide ((120:Int)<(fY tx:Int)+(⇑w:Int))))=_;grind)
 have d:bX 0 [.fld 6] 0 [B,B] bh {`xbs,{`nk,5}} [oc {`y8,J},Q0 (i:Int),Q2 w]=Y ((.fr,.int (r:Int)),[oc<|OO tx hd S' J,Q0 (i:Int),Q2 w]):=by
  show ((Y _).bind λC=>(ae _ _ _).bind _)=_;rw[Zw,xv (x:=(.fr,.int _)) (e2v (iO (m:=.bo) (t:=OO tx hd S _) L<|N2 tx hd S _) (y:=(.fr,.int _)) L<|iB _ hd i 0 `bi)<|xv (r:=ak) (x:=(.fr,.str w)) L L,Zw];show (((if 1=0+1/\iQ _=J/\argsOk _ _=J/\cj _=J then (bh _ [.int _,.str w]).bind _ else M).map _).map _)=_;rw[Zp {rfl,mD S,rfl,rfl},f,Zw,Zp {mD S',rfl}];rfl
 have j:nj 0 [.fld 5] `cv (bX 0 [.fld 6] 0 [B,B] bh {`xbs,{`nk,5}}) [oc {`y8,J},Q0 (i:Int),Q2 w]=Y (.nx [oc<|OO tx `xig S' J,Q0 (i:Int),Q2 w]):=by
  unfold nj;exact d ▸ Kt (tx:=tx) (hd:=hd) (S:=S') (b:=J) (r:=[pc _,pc _]) (e:=`cv) (ev:=λ_=>Y _) (i:=i) (v:=r) (n:=.fr) `bi L L
 have g:fZ 0 _ `cv (e2 _ (e2 _ `xfy `cv) `gi) _=Y (.nx [oc _,Q0 _,Q2 w]) :=
  Kh (n:=.fr) a L (e2v (iO (m:=.bo) (t:=OO tx _ S' _) L (HH tx `xig S' J) |> λh=>e2v h (y:=(.fr,.int _)) L (iB _ tx i [] a)) (y:=(.fr,.str w)) L<|jZ `bi)
 calc ZF (λz:Option _=>z.bind _)<|(`xao).trans<|({`xaU,q}).trans {`tf,ar,j,g}
def m9{α:Type}(l:`ew)(x d:α):(l++[x]).getD ⇑l d=x:=(bY l x d _).trans<|Zp L
def Hy{α:Type}(l:`ew)(x y:α):(l++[x]).set ⇑l y=l++[y]:=by
 simp_all
def xq(a b:`cr):fY (a++b)=fY a+fY b:=by
 unfold fY;grind
def KB:∀(rest:`cr){tx:`cr}{hd:Uj}{S S':St}{B:T}{z:Ug},WF S->⇑hd=⇑tx->⇑tx+⇑rest<=8->fY tx+fY rest<=120->⇑S.lg+2*fY rest<=100000->(∀t∈rest,∀c∈t,97<=c/\c<=122)->mB S rest=Y S' →
  ∃a m,forL (bC 2) b9 (rest.map .str) [oc {`y8,J},pc B,z]=Y (.nx [oc<|OO (tx++rest) a S' J,pc B,m]):=by
 intro rest
 induction rest with
 |nil =>
  intro tx hd S S' B z W j h8 hs hl l e;cases (show Y S=Y S' from e);exact{hd,z,by rw[ZO];rfl}
 |cons t rest p =>
  intro tx hd S S' B z W j h8 hs hl l e;obtain⟨⟨h,r⟩,e1,x⟩:=Zz.mp<|show (`xkX).bind _=Y S' from e;rw[Za]at h8;have d:fY (t::rest)=⇑t+fY rest:=by unfold fY;simp_all
  rw[d]at hs hl;have n:hg S ((hd++[0]).getD ⇑tx 0) t=Y (h,r):=by rw[<-j,m9];exact e1
  have f:=IP W `bi W.pos (l t Zv) e1;have g:=Hk (tx:=tx++[[]]) (hd:=hd++[0]) (S:=S) (S':=h) (i:=⇑tx) (r:=r) (w:=t) W (by simp_all) (by simp_all) (by grind) (by rw[xq];show fY tx+0+⇑t<=120;omega) `bi (by rw[<-j,m9];calc W.pos) (l t Zv) (by rw[m9];calc Pr _) n;rw[m9,Hy,Yd]at g;have v:(hd++[0]).set ⇑tx r=hd++[r]:=by simp_all
  rw[v]at g;have b:=Cr (tx:=tx) (hd:=hd) (S:=S) `bi j;exists p (tx:=tx++[t]) (hd:=hd++[r]) (S:=h) (S':=S') (B:=B) (z:=pc _) f.1 (by simp_all) (by grind) (by rw[xq];show fY tx+(⇑t+0)+fY _<=120;omega) (by have:=f.2.2.1;omega) (λu s=>l u<|Zs _ s) x,a,m,q;refine{a,m,?_};rw[Zh];refine(cQ (U1:=[oc<|OO tx hd S _,pc B,pc _]) L ?_).trans<|q.trans (by rw[ZU];rfl);have o:bX 0 [] 1 [] bE ak [oc {`y8,J},pc B,Q2 t]=Y ((.fr,.int (⇑tx:Int)),[oc<|OO (tx++[[]]) (hd++[0]) S J,pc B,Q2 t]):=by
   show (((if 2=1+1/\iQ _=J/\argsOk [] []=J/\cj _=J then (bE _ _).bind _ else M).map _))=_;rw[Zp {rfl,mN tx hd S,rfl,rfl},show trees []=[] from rfl,b,Zw,Zp {mN _ _ _,rfl}];rfl
  have x2:su 0 1 [false,false] bL (bX 0 [] 1 [] bE ak) `b5 [oc {`y8,J},pc B,Q2 t]=Y ((.fr,.non),[oc<|OO (tx++[t]) (hd++[r]) h J,pc B,Q2 t]):=by
   unfold su;rw[Zp<|show FL 1 _=J from rfl,o,Zw,Zp<|show Ol _=J from rfl];have ct:zO 1 [false,false] bL [(Md.fr,T.int (⇑tx:Int)),(Md.fr,T.str t)] (OO (tx++[[]]) (hd++[0]) S J)=Y (OO (tx++[t]) (hd++[r]) h J,(Md.fr,T.non)):=by
    show (if 2=1+1/\iQ _=J/\argsOk _ _=J/\cj _=J then (bL _ _).bind _ else M)=_;rw[Zp {rfl,mN _ _ _,rfl,rfl},show trees _=[T.int _,T.str t] from rfl,g,Zw,Zp {mN _ _ _,rfl}];rfl
   show ((zO 1 _ _ [(Md.fr,T.int _),(Md.fr,T.str t)] _).map _)=_;rw[ct];rfl
  unfold b9 sXM;rw[x2];rfl
structure US(bk:`cr):Prop where
 Te:⇑bk<=8
 sum:fY bk<=120
 az:∀t∈bk,∀c∈t,97<=c/\c<=122
theorem US.sum1:∀{l:`cr},t∈l->⇑t<=fY l
 |a::l,h=>by
  have e:fY (a::l)=⇑a+fY l:=by unfold fY;grind
  rw[e];obtain rfl|h:=Zi.mp h
  .omega
  .have:=US.sum1 h;omega
def US.len(h:US a):∀t∈a,⇑t<1000:=λt b=>ZJ (US.sum1 b)<|ZJ h.sum `ao
def aX(a:`cr):St:=(mB S0 a).getD S0
def aA(a:`cr):Uj:=(UB `xeQ 1000 [0] 0).getD []
def tabOf(a:`cr):List Row:=tab `xeQ `xgW
theorem US.k{a:`cr}(h:US a):mB S0 a=Y `xeQ/\∃nd wd,K (Hd a) `xeQ nd wd/\⇑wd<=241/\UB `xeQ 1000 [0] 0=Y `xgW/\(∀x,x∈aA a↔x<(`xeQ).lg.length)/\⇑(`xgW)=⇑wd/\(`xgW).idxOf 0=0:=by
 calc OH (K.of a h.az h.len) λS nd wd=>oe λe H l=>?_;have b:aX a=S:=by unfold aX;rw[e];rfl
 rw[b];have d:⇑wd<=241:=by
  have:=h.sum;unfold fY at this;omega
 calc TU (H.met (k:=1000) `bi) λm=>OI λe2 _ e3 f=>?_;have eM:aA a=0::m:=by unfold aA;rw[b,e2];rfl
 calc eM ▸ {e,nd,wd,H,d,e2,λx=>by rw[e3,H.i.len],f,List.idxOf_cons_self}
def Li(h:US d):∃hd,bx [] [.lst<|d.map .str]=Y (fsM d hd<|aX d,.non):=by
 ext h.k e _;have g:=h.sum;exists KB d (tx:=[]) (hd:=[]) (S:=S0) (S':=aX d) (B:=.lst _) (z:=M) IA L (by have:=h.Te;simpa using this) (by show 0+fY d<=120;omega) (by show 1+2*fY d<=100000;omega) h.az e,hd,z,q;rw[Yd]at q;refine{hd,?_};unfold bx Rj;rw[Zp {rfl,(rfl)}];have f:=(cG (tg:=bC 2) (it:=`xnX) (body:=b9) (U:=[oc _,pc _,M]) (m:=.pu) (l:=d.map _) L L).trans q;have body:=(ar (a:={`Rv,4}) (b:=aq {`Rv,5}<|aq `xhu<|P6 `xhv _ eR) (U:=[oc<|.obj 2 [(0,.bl _)],pc _,M]) (U1:=[oc _,pc _,M]) L).trans
  ((ar (U1:=[oc _,pc _,M]) L).trans<|(ar (U1:=[oc _,pc _,M]) L).trans<|(`xmA).trans f)
 calc ZF (λz:Option Out=>z.bind _) body
def FI(h:US a){m:Md}(f:arg U=Y (m,.lst `Ua)):gH 1 cu (eNew 1 bx<|ae arg ak) ak U=Y (.fr,OC `xmu):=by
 exists Li h,hd,e;calc xA2 h.k λ_=>Px λnd wd=>SK λH l e2 e3 n _=>?_;have hlen:(`xeQ).lg.length<=100001:=by rw[<-H.i.len];omega
 have b:=JJ H.i.wf hlen (k:=1000) `ao e2 e3 `bi;have d:eNew 1 bx (ae arg ak) U=Y (.fr,OO a hd `xeQ B):=by
  unfold eNew;rw[xv (r:=ak) f L,Zw];have j:cj (trees [(m,T.lst `Ua)])=J:=by
   show (cj _&&J)=J;rw[fH _<|λ_=>rfl];rfl
  rw[Zp j,show trees _=[T.lst _] from rfl,e,Zw,Zp {mN _ _ _,rfl}];rfl
 have t2:cu [OO a hd `xeQ B]=Y (.fr,OC `xmu):=by
  calc dg (U:=[pc _]) L<|dr ?_;have g:bF 6 `cm [pc<|OO a hd _ _]=Y _:=iO (m:=.pu) (t:=OO a hd _ _) L<|N7 a hd `xeQ B;unfold gH;show ((bF 6 _ [pc _]).bind _)=_;rw[g];show ((dZ [Ou _ _]).bind _)=_;rw[b];rfl
 show ((eNew 1 _ _ U).bind _)=_;rw[d];show ((cu [OO a hd _ _]).bind _)=_;rw[t2];rfl
noncomputable abbrev OU(a:`cq):List `xfY:=a.map λp=>(T.str [p.1],T.int (p.2:Int))
noncomputable abbrev wTT(p:`ti):T:=.tup [.str [p.1],.int (p.2:Int)]
def Mv(a:`cq):wW `xju=Y (OU a):=by
 induction a with
 |nil=>rfl
 |cons w a b =>
  show Option.bind (Y (T.str [w.1],T.int (w.2:Int))) (λq=>if iJ q.1/\Ol q.2 then (wW `xju).map (q::·) else M)=_;rw[Zw,Zp {rfl,(rfl)},b];rfl
theorem xm:∀(a acc:`xkt),((acc++a).map (·.1)).Nodup->(OU a).foldl {`xcg,dput} (OU acc)=OU (acc++a)
 |[],acc,_=>by rw[ZO];rfl
 |w::a,acc,h=>by
  have e:dput (OU acc) (T.str [w.1]) (T.int (w.2:Int))=OU (acc++[w]):=by
   unfold dput;rw[Zn (by
    simp only[XF,not_exists,not_and];intro p f;exists ZW.mp f,q,g,rfl;intro b;have b:q.1=w.1:=(WN (beq_iff_eq.mp<|show (([q.1]:Uj)==[w.1])=J from b)).1;grind)]
   simp[OU]
  show (OU a).foldl _ (dput _ _ _)=_;rw[e,xm a _<|by simp_all,ZU];rfl
def Cv(w:`cq):(`xkj).Nodup:=by
 calc V7 VB `ao
def yj(S:St)(M:Uj)(n:Nat):({`P4,M}).map (·.1)=sk (S.wy.getD n []):=by
 unfold steps;rw[QF];calc List.map_id' _
def L9(S:St)(M:Uj)(n:Nat):rB [(m,UI {`P4,M})]=Y (.fr,.dct 0<|OU {`P4,M}):=by
 show (wW _).map _=_;rw[Mv,Option.map_some];have:=xm {`P4,M} [] (by rw[Yd,yj];calc Cv _)
 simp_all
def qj(S:St)(M:Uj)(n c:Nat)(d:97<=c/\c<=122):gW {`P4,M} c=(gW (S.wy.getD n []) c).map λm=>M.idxOf m:=by
 have key:∀l:List _,gW (l.map λc=>(c,M.idxOf<|(gW (S.wy.getD n []) c).getD 0)) c=if c∈l then Y (M.idxOf<|(gW (S.wy.getD n []) c).getD 0) else none:=by
  intro l
  induction l with
  |nil=>rfl
  |cons a l b =>
   unfold gW at b ⊢;rw[Zh,Yn];by_cases h:a=c
   .subst h;simp
   .have:(a==c)=B:=by simpa using h
    rw[this];rw[b];simp[Yg h]
 unfold steps;rw[key];cases hg:gW _ c with
 |none =>
  rw[Zn λz=>by
   exists oj z,m,hm;grind]
  rfl
 |some m =>
  rw[Zp (by
   calc X2.mpr {List.mem_range'_1.mpr `am,by rw[hg];rfl})]
  rfl
def nR(S:St)(M:Uj)(n:Nat):(row S M n).2.2.2=steps S M n:=by
 unfold row;split<;>rfl
noncomputable abbrev Pl:=Nat×Nat
noncomputable def tP(p:Pl):T:=.tup [.int p.1,.int p.2]
def enum_zip(l:`cr):∀n:Nat,iy n (l.map T.str)=(l.zipIdx n).map λp=>T.tup [.int p.2,.str p.1]:=by
 induction l with
 |nil=>intro n;rfl
 |cons t l a=>intro n;rw[WU,Zh,Zh,iy,a _]
noncomputable def plT(w t:Tx):Uj:=({`m_,⇑t+1}).filter λe=>w.isSuffixOf `xgV
def P5(a:`cr)(w:Tx):List Pl:=(a.zipIdx 0).flatMap λp=>(plT w p.1).map λe=>(p.2,e)
noncomputable def Pt(a:`cr)(w:Tx):Prop:=w=[]\/∃t∈a,w <:+: t
def kG:p∈P5 d w ↔ ∃t,d[p.1]?=Y t/\p.2<=⇑t/\w <:+ t.take p.2:=by
 unfold P5;rw[List.mem_flatMap];constructor
 .rintro⟨⟨t,n⟩,f,h⟩;exists ZW.mp h,e,he,rfl;exists X2.mp he,b,a;have:=Yu.mp b;exact{t,by simpa using List.mem_zipIdx_iff_getElem?.mp f,ZA this,Y7.mp a}
 .rintro⟨t,b,a,g⟩;exact⟨(t,p.1),List.mem_zipIdx_iff_getElem?.mpr b,ZW.mpr {_,X2.mpr {Yu.mpr<|V9 a,Y7.mpr g},rfl}⟩
end T47
namespace AU
def I.pre'(H:`xeU):∀(z u:Wd){n:Nat},nd (u++z)=Y n->∃m,nd u=Y m:=by
 intro z
 induction z with
 |nil=>simp_all
 |cons c z a =>
  intro u n h;rw[WO]at h;exists a _ h,m,hm;calc H.pre hm
def I.ext(H:`xeU):∀(z x y:Wd){n:Nat},nd x=Y n->nd y=Y n->nd (x++z)=nd (y++z):=by
 intro z
 induction z with
 |nil=>intro x y n d b;rw[ZO,ZO,d,b]
 |cons c z g =>
  intro x y n d b;rw[WO x,WO y];have e:=(H.wy d c).symm.trans<|H.wy b c;cases a:nd (x++[c]) with
  |some m=>calc g _ _ a<|e ▸ a
  |none =>
   have f:∀u,nd u=M->nd (u++z)=M:=λu i=>by
    cases h:nd (u++z) with
    |none=>rfl
    |some k =>
     exists H.pre' z u h,m,hm;rw[i]at hm;cases hm
   rw[f _ a,f _<|e ▸ a]
def I.head(H:`xeU)(b:`B1)(e:W wd n=x++y):∃m,m<⇑wd/\W wd m=x:=by
 have a:=`xmz
 rw[e]at a;exists H.pre' y x a,m,hm;have hl:=H.lt hm;refine{m,hl,?_};have:=H.ext y _ _ hm<|H.top hl;rw[a]at this;have s:=(H.sf this.symm).length_le;rw[e,Zr,Zr]at s;exact((H.sf hm).eq_of_length_le `am).symm
noncomputable def ends(b:`tp):List Wd:=b.flatMap λt=>({`m_,⇑t}).map λk=>t.drop k
def Nu{l:Uj}(a:l.Nodup)(h:k<⇑l):l.idxOf l[k]=k:=by
 grind
noncomputable def shS(S:St)(t:Nat):Nat:=match S.lk.getD t M with
 |none=>0
 |some m=>S.lg.getD m 0+1
def sw(S:St)(a:`tp)(t:Nat):Wd:=(W a t).drop<|⇑(W a t)-shS S t
section
variable{P:Wd->Prop}{S:St}{nd:`eB}{wd:`tp}(H:I none S nd wd)
include H
theorem I.sh(a:`WS):shS S t<=⇑(`Tk)/\∀y,nd y=Y t↔y <:+ W wd t/\shS S t<=⇑y:=by
 unfold shS;by_cases h:t=0
 .subst h;rw[H.lk0,H.wz];exact⟨Pr _,λy=>{λz=>{H.zero z ▸ Ye _,Pr _},λz=>Xf.mp z.1 ▸ H.z}⟩
 .obtain⟨m,e,⟨f,_⟩,g,d,b⟩:=H.lk (Yx h) a (by simp);rw[e];show S.lg.getD m 0+1<=_/\∀y,_↔_/\S.lg.getD m 0+1<=_;calc H.lg m f ▸ ⟨d,λy=>{λz=>{H.sf z,(H.low (by simp) e z).1},λz=>b y z.1 z.2}⟩
theorem I.sw_len(a:`WS):⇑(sw S wd t)=shS S t:=by
 have:=(H.sh a).1;unfold sw;rw[Yj];lia
theorem I.sw_nd(a:`WS):nd (sw S wd t)=Y t:=((H.sh a).2 _).mpr {List.drop_suffix _ _,H.sw_len a ▸ Zq _}
end
end AU
namespace T47
open VS AU
def n9{α:Type}(f:`xjb)(l:`ew)(d:α)(h:`xkZ):aM (m,.lst `C_) (n,.int<|-1)=Y {`xoB,{`xcr,1}}:=by
 show ((Pq _ _).bind _)=_;have:Pq ⇑(`C_) (-1)=Y {`xcr,1}:=by
  unfold Pq;rw[Zu,Zn `ao,Zp `am];congr 1;lia
 rw[this,Zw,ZV,Zl,Zo `bi];rfl
noncomputable abbrev PB(l:Uj):T:=.lst<|l.map λ(n:Nat)=>T.int (n:Int)
abbrev ix(a:`cr)(m:Nat):Nat:=(`xgW).idxOf m
def num(b:`cr)(a:`eB)(w:Tx):Nat:=(aA b).idxOf<|(a w).getD 0
noncomputable def vB(v:`ti):T:=.tup [.int (v.1:Int),.str [v.2]]
noncomputable abbrev TR:=List<|Nat×`ti
def bT(m:TR):List `xfY:=m.map λp=>(T.int (p.1:Int),vB p.2)
noncomputable def rZ(m:TR)(j:Nat)(v:`ti):TR:=if j∈m.map (·.1) then m.map (λp=>if p.1=j then (p.1,v) else p) else m++[(j,v)]
def iX(a b:Nat):eqT (T.int (a:Int)) (T.int (b:Int))=decide (a=b):=by
 by_cases h:a=b
 .subst h;rw[ZI L];exact beq_self_eq_true (a:Int)
 .exact ZP h ▸ beq_eq_false_iff_ne.mpr `am
def FS(m:TR)(j:Nat)(v:`ti):dput (bT m) (.int (j:Int)) (vB v)=bT `xkS:=by
 have e:(bT m).any (λp=>eqT p.1<|.int (j:Int))=decide (j∈m.map (·.1)):=by
  induction m with
  |nil=>rfl
  |cons a m d =>
   rw[show bT (a::m)=(T.int (a.1:Int),vB a.2)::bT m from rfl,X4,d,iX,Zh];by_cases q:a.1=j
   .simp[q]
   .have b:¬j=a.1:=λz=>q z.symm;simp[q,b]
 unfold dput rZ;rw[e];by_cases q:j∈m.map (·.1)
 .rw[Zp<|by simpa using q,Zp q];unfold bT;rw[QF,QF];apply YU;intro p _;simp only[Function.comp,iX];by_cases r:p.1=j
  .simp[r]
  .simp[r]
 .rw[Zn<|by simpa using q,Zn q];simp[bT]
def Dc(m:TR)(j:Nat)(v:`ti):⇑(`xkS)<=⇑m+1:=by
 unfold rZ;split<;>simp
def sG(m:TR)(j:Nat)(v:`ti)(k:Nat)(h:k∈m.map (·.1)\/k=j):k∈(`xkS).map (·.1):=by
 unfold rZ;split
 .rename_i q;exists ZW.mp (h.elim id λz=>z ▸ q),p,a,rfl;calc ZW.mpr {_,ZW.mpr {p,a,(rfl)},?_};by_cases r:p.1=j
  .rw[Zp r]
  .rw[Zn r]
 .rw[Rn,Zf];calc h.imp id λz=>by simp[z]
def B7(m:TR)(j:Nat)(v:`ti)(q:Nat×`ti)(h:q∈rZ m j v):q∈m\/q=(j,v):=by
 unfold rZ at h;split at h
 .exists ZW.mp h,p,a,rfl;by_cases r:p.1=j
  .rw[Zp r];right;rw[r]
  .rw[Zn r];exact .inl a
 .rcases Zf.mp h with h|h
  .exact .inl h
  .exact .inr<|ZK.mp h
def N8(m:TR)(i:Nat)(h:i∈m.map (·.1)):∃v,eU (bT m) (.int (i:Int))=Y (vB v)/\(i,v)∈m:=by
 induction m with
 |nil=>simp at h
 |cons a m d =>
  ext a j v;rw[show bT ((j,v)::m)=(T.int (j:Int),vB v)::bT m from rfl];unfold eU;by_cases q:j=i
  .subst q;exact{v,by rw[Yn,iX];simp,Zv}
  .rw[Yn,iX,ZP q];rw[Zh,Zi]at h;exists d (h.resolve_left λz=>q z.symm),b,f,e;exact{b,f,Zs _ e}
def Gw{U:Env}{v:T}(h:U[i]?=Y {`sn,.dct 0 l})(he:e U=Y (m,v))(b:k U=Y (n,a))(g:iJ a=J)(f:Ol v=J)(d:{`xca,⇑l}):qg i k e U=Y {`xcZ,a,v}:=by
 unfold qg;rw[he,Zw,h];refine(IM L).trans ?_;rw[b];calc Zp {g,f,(d)}
noncomputable def RN(S:St):Nat->Nat->Uj
 |0,m=>[m]
 |k+1,m=>m::match S.lk.getD m M with
  |none=>[]
  |some r=>RN S k r
def yR{l:Uc}(a:`UJ):aI [.lst l,.int (i:Int)]=Y (.fr,.non):=by
 calc II (U:=[pc `xea,Q0 (i:Int)]) L ?_;refine(oN (m:=.fr)<|vK (m:=.fr) (x:=B) ?_ (λ_=>?_)<|λh=>by cases h).trans rfl
 .exact lU (b:=J) L
 .refine lU (m:=.fr) (b:=J)<|oR L L ?_ (je `xfZ L) ?_
  .show Y _=_;rw[ZI<|Vv i]
  calc kY<|ZI `xla
section
variable{bk:`cr}{nd:`eB}{wd:`tp}(H:`T1)(hM:∀x,x∈aA bk↔x<(`fi).lg.length)(h0:`xet)
include hM
theorem CL(a:`xkR):ix bk m<⇑(`b8):=by
 unfold tabOf tab;rw[Zu];calc YD.mpr<|(hM m).mpr a
theorem qL(d:`xkR){n:Md}(f:a U=Y (.pu,OC `b8))(e:b U=Y (n,.int (ix bk m:Int))):e2 aM a b U=Y (.fr,lj {`xct,m}):=by
 calc e2v f e ?_;have hl:=YD.mpr<|(hM m).mpr d;unfold OC tabOf tab;rw[QF,iB _ _ _ 0 hl,Zl,Zo hl];show Y (up _<|lj _)=_;rw[Wg _];unfold up;rw[t6];rfl
include H
theorem K2(a:`ld):({`xct,m}).2.1=⇑(`gs):=by
 unfold row;rw[<-H.i.lg m a];split
 .rename_i h;by_cases h0:m=0
  .rw[h0,H.i.lg 0<|by calc X8 a,H.i.wz];rfl
  .exists H.i.lk `xjy a (by simp),r,e,_;rw[h]at e;cases e
 .rfl
include h0
def wl(b:`cr)(a:`eB)(p:Tx):Uj:=({`m_,⇑p+1}).map λi=>num b a<|p.take i
omit H hM h0 in
theorem zh(p:Tx)(c:Nat):wl bk nd (p++[c])=wl bk nd p++[num bk nd<|p++[c]]:=by
 unfold wl;rw[Zr,Ti,List.range_succ,Rn];congr 1
 .refine YU λi a=>?_;have:=Yu.mp a;rw[XB<|by calc ZA this]
 .show [num bk nd<|(p++[c]).take<|⇑p+1]=_;rw[Yq (by rw[Zr];calc Zq _)]
omit H hM h0 in
theorem jP(h:nd w=Y m):num bk nd w=ix bk m:=by
 unfold num;rw[h];rfl
theorem wk(f:Tx):∀(v p:Tx)(g b:Ug),(nd<|p++v).isSome=J->Az v->⇑p+⇑v<1000000->∃j h,forL `xmO nu (v.map s1) [pc `i_,Q2 f,oc `xei,g,b]=Y (.nx [pc `i_,Q2 f,oc<|PB {`xaF,p++v},j,h]):=by
 intro v
 induction v with
 |nil=>calc λp g b _ _ _=>{g,b,by rw[ZO];rfl}
 |cons c v t =>
  intro p g b hs o hl;rw[Za]at hl;exists YE.mp hs,A,q;rw[WO]at q hs;exists H.i.pre' v _ q,s,n;exists H.i.pre n,m,l;have z:m<(`fi).lg.length:=H.i.len ▸ H.i.lt l;have d:⇑(`kt)=⇑p+1:=by unfold wl;simp_all
  have u:e2 aM `gi (Q3<|-1) [pc `i_,Q2 f,oc `xei,pc `xmt,b]=Y (.fr,.int (ix bk m:Int)):=by
   calc e2v L L ?_;rw[n9 _ _ 0 `am,d,Vy,<-jP l];have:(`kt).getD ⇑p 0=num bk nd p:=by
    unfold wl
    simp_all
   rw[this];rfl
  have hg:gW {`M_,m} c=Y (ix bk s):=by rw[qj _ _ _ _<|o c Zv,H.i.wy l c,n];rfl
  have ap:=qV (i:=2) (U:=[pc `i_,Q2 f,oc `xei,pc _,pc _]) (e:=e2 _ `gt `fw) L (yX L L hg) (by rw[Zu];lia);rw[show (`kt).map _++[T.int _]=(wl bk nd _).map _ from by rw[zh,Rn,jP n];rfl]at ap;exists t _ _ _ hs (λx w=>o x<|Zs _ w) (by rw[Zr,Ti];lia),j,h,e;rw[WO p c v];refine{j,h,(cQ L (sq (by
   calc aG (m:=.fr) (je (xv (r:=ak) (x:=(.fr,UI _)) (e2v (qL hM z L u) (y:=(.fr,.int 3)) L ?_) L)<|L9 _ _ _) `ao (by show 4<5;decide);rw[<-nR];show Y _=_
   simp_all) (sq (ue (m:=.fr) ?_ L) ap))).trans e}
  have:=DG (U:=[pc `i_,Q2 f,oc `xei,pc `xmt,pc `xif]) (a:=`gt) (e:=`fw) L L;rw[hg]at this;calc this
theorem ET(hw:(nd w).isSome=J)(a:Az w)(g:`xnS):lD [OC `b8,.str w]=Y (.fr,PB {`xaF,w}):=by
 exists wk H hM h0 w w [] _ _ (by simp_all) a (by show 0+_<_;lia),f,d,e;have b:wl bk nd []=[0]:=by
  show [num bk nd []]=_;rw[jP H.i.z,show ix bk 0=0 from h0]
 rw[b]at e;calc dg L {`xcq,e}
omit h0
theorem Mc:∀(k m:Nat)(acc:Uj)(F:Nat),m<⇑wd->⇑(`gs)<=k->k+1<F->⇑acc+k<1000000->dc `xhv lR F [pc `i_,Q0 (ix bk m:Int),oc<|PB acc]=Y (.nx [pc `i_,pc .non,oc<|PB<|acc++(RN `fi k m).map (ix bk)]):=by
 intro k
 induction k using Nat.strongRecOn with
 |ind k ih =>
  intro m acc F hm hk hF ha;obtain⟨F,rfl⟩:∃j,F=j+2:={F-2,by lia}
  have QR:m<(`fi).lg.length:=H.i.len ▸ hm;have a1:=qV (i:=2) (U:=[pc `i_,Q0 (ix bk m:Int),oc<|PB acc]) (e:=`cv) L L (by rw[Zu];lia);rw[show acc.map _++[T.int _]=(acc++[ix bk m]).map _ from by rw[Rn];rfl]at a1;have st:dc _ _ _ _=dc `xhv lR (F+1) [pc _,pc<|QI<|((`fi).lk.getD m _).map _,oc _]:=mK L ((ar a1).trans (by
   calc aG (m:=.fr) (e2v {`xoF,QR} (y:=(.fr,.int 2)) L ?_) `ao (by show 1<3;decide);show Y _=_;unfold row;split<;>(rename_i e;rw[e];rfl)))
  rw[st];cases hl:(`fi).lk.getD m M with
  |none =>
   exact(show RN `fi k m=[m] from by cases k with|zero=>rfl|succ k=>rw[RN,hl]) ▸ eY rfl
  |some r =>
   obtain⟨r',e,⟨g1,_⟩,_,g2,_⟩:=H.i.lk (Yx λz=>by rw[z,H.i.lk0]at hl;cases hl) hm (by simp);rw[hl]at e;obtain rfl:=Om e;obtain⟨k,rfl⟩:∃j,k=j+1:={k-1,by lia}
   have:=ih k (Yk _) r (acc++[ix bk m]) (F+1) g1 `am (by simp_all) (by rw[Zr,Ti];lia);rw[show RN `fi _ m=m::RN _ k r from by rw[RN,hl]];calc this.trans (by rw[ZU];rfl)
theorem Iq(a:`ld)(b:⇑(`gs)<=1000):pf [OC `b8,.int (ix bk m:Int)]=Y (.fr,PB {`xdw,m,bk}):=by
 have d:m<(`fi).lg.length:=H.i.len ▸ a;exact dg L ((ar (by
  show (((bu _ _ _).map _).map _)=_;rw[aL (xv (x:=(.pu,OC _)) L<|xv (r:=ak) (x:=(.fr,.int _)) L L)<|show aI _=Y _ from yR (by rw[Zu];calc CL hM d)];rfl)).trans ((`xgX).trans<|(ar<|Mc H hM _ m [] _ a b `ao `ao).trans L))
end
def Nj:Pt e w ↔ ∃p,Hd e p/\w <:+ p:=by
 constructor
 .rintro (rfl|⟨t,d,a,b,rfl⟩)
  .exact{[],.inl L,Ye _}
  .exact⟨_,.inr ⟨_,d,{b,(rfl)}⟩,{a,(rfl)}⟩
 .rintro⟨p,rfl|⟨t,d,f⟩,hs⟩
  .exact .inl<|Xf.mp hs
  .exact .inr {t,d,hs.isInfix.trans f.isInfix}
def zu(H:K (Hd b) `xgU o a):∀(k m:Nat),m<⇑a->⇑(W a m)<=k->(∀j,j∈RN `xgU k m↔j<⇑a/\W a j <:+ W a m)/\(RN `xgU k m).Nodup:=by
 have top:∀{j:Nat},j<⇑a->W a j=[]->j=0:=λs e=>by
  have:=H.i.top s;rw[e,H.i.z]at this
  simp_all
 have n:∀j,j∈([0])↔j<⇑a/\W a j <:+ W a 0:=λj=>by
  rw[ZK,H.i.wz,Xf];exact{λe=>by rw[e];exact{H.i.lt H.i.z,H.i.wz},λe=>top e.1 e.2}
 intro k
 induction k with
 |zero =>
  intro m hm h;have e:=top hm<|Xj.mp `xkh;subst e;exact⟨n,Zc.mpr {(λz=>nomatch z),Yi}⟩
 |succ k p =>
  intro m hm h;by_cases h0:m=0
  .subst h0;have:RN `xgU `T5 0=[0]:=by unfold RN;rw[H.i.lk0]
   simp_all
  .obtain⟨r,e,⟨u,_⟩,l,v,t⟩:=H.i.lk `xjy hm (by simp);have ec:RN `xgU `T5 m=m::RN `xgU k r:=by
    conv=>lhs;unfold RN
    rw[e]
   exists p r u `am,g,q;rw[ec];refine⟨λj=>?_,Zc.mpr {λz=>?_,q}⟩
   .rw[Zi,g];constructor
    .rintro (rfl|⟨f,d⟩)
     .simp_all
     .exact{f,d.trans l}
    .rintro⟨f,d⟩;by_cases hl:⇑(W a r)<⇑(W a j)
     .have:=t _ d hl;rw[H.i.top f]at this;exact .inl<|ZL this
     .exact .inr {f,c9 d l `xlQ}
   .have:=((g m).mp z).2.length_le;lia
def GZ(H:K (Hd b) `xgU d e)(g:⇑(W e m)<=1000)(a:d p=Y m)(f:Hd b p)(hw:d w=Y j):j∈RN `xgU 1000 m↔w <:+ p:=by
 rw[(zu H _ m (H.i.lt a) g).1 j];constructor
 .exact λh=>(H.i.sf hw).trans<|h.2.trans<|((H.eq (H.i.top<|H.i.lt a) a).mp L p f).mpr<|Ye _
 .exact λh=>{H.i.lt hw,(((H.eq hw<|H.i.top<|H.i.lt hw).mp L p f).mp h).trans<|H.i.sf a}
abbrev E5(f:`cr)(b:TR)(e d a:Ug):Env:=[pc<|OC<|tabOf f,oc {`RH,bT b},e,d,a]
def yk(b:`cr)(a:`tp)(q:Nat×`ti):Prop:=∃t p,q.1=ix b t/\q.2.1=ix b p/\t<⇑a/\p<⇑a/\W a t=W a p++[q.2.2]
section
variable{bk:`cr}{nd:`eB}{wd:`tp}(H:`T1)(hM:∀x,x∈aA bk↔x<(`fi).lg.length)(hN:`xgh)
include H hM
theorem Ea{c:Nat}(d:`xjt)(h:(c,j)∈steps `fi `ed p):∃t,t<⇑wd/\j=ix bk t/\nd (W wd p++[c])=Y t:=by
 exists ZW.mp h,g,f,e;exists XC e,rfl,rfl;exists oj f,t,b;have a:=H.i.wy (H.i.top d) g;rw[b]at a;exact{t,H.i.lt a.symm,by rw[b];rfl,a.symm}
theorem sb1{c i:Nat}(d:`xjt)(a:`WS)(b:TR)(e:{`xca,⇑b}):eZ (E5 bk b (Q0 (i:Int)) `ma<|pc<|wTT (c,ix bk t))=Y (.nx<|E5 bk (if ⇑(`Tk)=⇑(`xej)+1 then rZ b (ix bk t) (i,c) else b) (Q0 (i:Int)) `ma<|pc<|wTT (c,ix bk t)):=by
 have lg:∀{x},x<⇑wd->aM (.fr,lj _) (.fr,.int 1)=Y (.fr,.int (⇑(W wd x):Int)):=λh=>by rw[<-K2 H hM h];rfl
 have cd:e2 oEq {`xce,`jl} {`K_,e2 aM `fw `jl} (E5 bk b (Q0 (i:Int)) `ma<|pc<|wTT (c,ix bk t))=Y (.fr,.bl (decide (⇑(`Tk)=⇑(`xej)+1))):=by
  refine e2v (e2v (qL hM ((λh=>by rw[<-H.i.len];calc h) a) L L) L<|lg a) (e2v (e2v (by
  show Y _=_;unfold up;rw[t6];rfl) L (lg d)) L L) ?_
  exact mn L L<|iX _ _
 by_cases q:⇑(`Tk)=⇑(`xej)+1
 .rw[Zp q];calc ift (cd.trans<|by rw[ZI q])<|(Gw (v:=vB (i,c)) L L L L L (by rw[bT,Zu];calc e)).trans ?_;rw[FS];rfl
 .rw[Zn q];calc ue (cd.trans<|by rw[ZP q]) L
theorem T8(r:`xjt)(F:i=ix bk p):∀(a:`xkt)(b:TR)(m:Ug),(∀w∈a,w∈steps `fi `ed p)->(∀q∈b,yk bk wd q)->⇑b+⇑a<1000000->∃f n,forL (bC 4) eZ `xju (E5 bk b (Q0 (i:Int)) `ma m)=Y (.nx<|E5 bk f (Q0 (i:Int)) `ma n)/\(∀q∈f,yk bk wd q)/\(∀k∈b.map (·.1),k∈f.map (·.1))/\(∀c t,(c,ix bk t)∈a->t<⇑wd->nd (W wd p++[c])=Y t->W wd t=W wd p++[c]->ix bk t∈f.map (·.1))/\⇑f<=⇑b+⇑a:=by
 intro a
 induction a with
 |nil=>calc λb m _ g _=>Pd b m {rfl,g,λk h=>h,λc t h=>(λh=>nomatch h) h,Zq _}
 |cons w a A =>
  intro b m hw g hl;rw[Za]at hl;calc ai λP_ v=>?_;ext w c j;exists Ea H hM r (hw _ Zv),t,s,rfl,E;have bo:=sb1 H hM (c:=c) (i:=i) r s b `bi;obtain⟨d,u⟩:∃d,d=if ⇑(`Tk)=⇑(`xej)+1 then rZ b (ix bk t) (i,c) else b:={_,(rfl)}
  rw[<-u]at bo;have e1:(∀q∈d,yk bk wd q)/\(∀k∈b.map (·.1),k∈d.map (·.1))/\(W wd t=W wd p++[c]->ix bk t∈d.map (·.1))/\⇑d<=⇑b+1:=by
   rw[u];split
   .rename_i o;refine{λq O=>?_,λk l=>sG b _ _ k<|.inl l,λ_=>sG b _ _ _<|.inr L,Dc _ _ _};obtain z|rfl:=B7 b _ _ q O
    .exact g q z
    .exact Pd t p {rfl,F,s,r,((H.i.sf E).eq_of_length (by rw[o,Zr];rfl)).symm}
   .rename_i o;exact{g,λk l=>l,λz=>absurd (by rw[z,Zr];rfl) o,Wf _}
  ext e1 N G X U;exists A d _ (λw h=>hw w<|Zs _ h) N `bi,f,n,e,y,x,R,Q;calc v ?_;calc Pd f n {(cQ L bo).trans e,y,λk l=>x k<|G k l,λZ P hm C D S=>?_,by grind};grind
include hN
theorem La(a:i<⇑(`ed)):ix bk `ed[i]=i:=Nu hN a
theorem sb3:∀(r:Uj)(i:Nat)(b:TR)(o n d:Ug),(`ed).drop i=r->(∀q∈b,yk bk wd q)->⇑b+30*⇑r<1000000->(∀x,x∈aA bk->x<⇑wd)->∃f v u s,forL (l9 [bC 2,bC 3]) iz (iy i<|(r.map<|row `fi `ed).map lj) (E5 bk b o n d)=Y (.nx<|E5 bk f v u s)/\(∀q∈f,yk bk wd q)/\(∀k∈b.map (·.1),k∈f.map (·.1))/\∀p∈r,∀c t,t<⇑wd->nd (W wd p++[c])=Y t->W wd t=W wd p++[c]->97<=c/\c<=122->ix bk t∈f.map (·.1):=by
 intro r
 induction r with
 |nil=>calc λi b o n d _ g _ _=>Oe b o n d {rfl,g,λk h=>h,λp h=>nomatch h}
 |cons p r X =>
  intro i b o n d hd g hl F;rw[Za]at hl;have a:=Nat.lt_of_not_le λy=>by rw[YO y]at hd;cases hd
  rw[YG a]at hd;calc ai λP_ R=>?_;exists WN hd,j,hd2;have N:=F p (by rw[<-j];calc YT a);have hi:i=ix bk p:=by rw[<-j];exact(La H hM hN a).symm
  have Z:⇑({`M_,p})<=26:=by
   unfold steps sk;rw[Zu];exact ZY (X5 _ _) `ao
  calc Oo (T8 H hM N hi _ b d (λw h=>h) g `bi) λb1 s=>Pf λe g1 g2 g3 g4=>?_;exists X _ b1 _ _ s hd2 g1 `bi F,f,v,u,Q,e',U,E,S;calc R ?_;refine Oe f v u _ {(cQ L<|(cG (m:=.fr) ?_ L).trans e).trans e',U,λk hk=>E k<|g2 k hk,λD A c t G C P O=>?_}
  .have er:e2 aM `fw (Q3 3) (E5 bk b (Q0 (i:Int)) `ma d)=Y (.fr,UI {`M_,p}):=by
    refine e2v (x:=(.fr,lj {`xct,p})) ?_ L ?_
    .show Y _=_;unfold up;rw[t6];rfl
    .rw[<-nR];show Y _=_
     simp_all
   show (e2 _ _ _ _).bind _=_;rw[er];rfl
  .rcases Zi.mp A with rfl|z
   .refine E _<|g3 c t ?_ G C P;have l:=qj `fi `ed D c O;rw[H.i.wy (H.i.top N) c,C]at l;exists Zx.mp l,q,hq1,hq2;grind
   .exact S D z c t G C P O
theorem BS(w:`xnR)(v:`xhW)(g:∀t,t<⇑wd->Az `Tk):∃b:TR,fj [OC `b8]=Y (.fr,.dct 0<|bT b)/\(∀q∈b,yk bk wd q)/\∀t,0<t->t<⇑wd->ix bk t∈b.map (·.1):=by
 exists sb3 H hM hN `ed 0 [] _ _ _ L (λq h=>nomatch h) (by show 0+_<_;omega) (λx h=>by rw[H.i.len];exact(hM x).mp h),b,u,s,r,e,n,_,m;refine{b,dg L {`xcq,e},n,λt h0 d=>?_};have o:W wd t≠[]:=λz=>by
  have:=H.i.top d;rw[z,H.i.z]at this;grind
 obtain⟨x,c,a⟩:∃x c,W wd t=x++[c]:=SJ<|(List.dropLast_concat_getLast o).symm;exists H.i.head d a,p,l,f;have j:W wd t=W wd p++[c]:=by rw[f];exact a
 calc m p ((hM p).mpr (by rw[<-H.i.len];calc l)) c t d (by rw[<-j];calc H.i.top d) j (g t d c<|by simp_all)
end
abbrev gT(G:`l_):T:=.lst<|G.map λl=>T.lst `xeG
noncomputable def ap1(G:`l_)(i:Nat)(p:Pl):List `xkQ:=G.set i<|G.getD i []++[p]
abbrev EB8(B:T)(g:T)(G:`l_)(f e d b a:Ug):Env:=[pc B,pc g,oc<|gT G,f,e,d,b,a]
def NP{B:T}{G:`l_}{n e:Nat}(f:i<⇑G)(g:⇑(G.getD i [])<16777216)(d b:Ug):g9 (EB8 B a G (Q0 (n:Int)) d (Q0 (e:Int)) b<|Q0 (i:Int))=Y (.nx<|EB8 B a (ap1 G i (n,e)) (Q0 (n:Int)) d (Q0 (e:Int)) b<|Q0 (i:Int)):=by
 have h:v7 2 `xmL {`m6,jA {`o2,`fw,5}} (EB8 B a G (Q0 (n:Int)) d (Q0 (e:Int)) b<|Q0 (i:Int))=Y ((.fr,.non),EB8 B a (ap1 G i (n,e)) (Q0 (n:Int)) d (Q0 (e:Int)) b<|Q0 (i:Int)):=by
  show ((Pq _ _).bind _)=_;rw[Zu,wL f,Zw,ZV,Zo f];show ((aP _ [(.fr,tP (n,e))]).map _)=_;have hg:G.getD i []=G[i]:=by simp_all
  rw[hg]at g;rw[eI<|by simp_all];show Y ((Md.fr,T.non),[pc B,pc a,oc _,_,_,_,_,_])=_;unfold ap1;rw[hg,show T.lst (G[i].map tP++[tP _])=(λl:List Pl=>T.lst `xeG) (G[i]++[(n,e)]) from by simp,<-W5]
 show (v7 2 _ _ _).map _=_;rw[h];rfl
def xo{G:`l_}(p:Pl)(a:i<⇑G)(k:Nat):(ap1 G i p).getD k []=G.getD k []++if k=i then [p] else []:=by
 unfold ap1;rw[Zl];by_cases h:k=i
 .simp_all
 .rw[YZ<|Yg h,Zn h,ZO,<-Zl]
section
variable{B:T}
def pb1{n e:Nat}(g f:Ug):∀(a:Uj)(G:{`QZ,Pl})(d:Ug),a.Nodup->(∀i∈a,i<⇑G/\⇑(G.getD i [])<100000)->∃b h,forL (bC 7) g9 (a.map λ(i:Nat)=>T.int (i:Int)) (EB8 B tb G (Q0 (n:Int)) g (Q0 (e:Int)) f d)=Y (.nx<|EB8 B tb b (Q0 (n:Int)) g (Q0 (e:Int)) f h)/\⇑b=⇑G/\∀k,b.getD k []=G.getD k []++if k∈a then [(n,e)] else []:=by
 intro a
 induction a with
 |nil=>calc λG d _ _=>{G,d,rfl,rfl,λk=>by simp}
 |cons i a q =>
  intro G d nd m;exists Zc.mp nd,p,o;exists m i Zv,h0,t;exists q (ap1 G i (n,e)) _ o (λj l=>{by unfold ap1;rw[Yc];exact(m j<|Zs _ l).1,by
   rw[xo _ h0,Zn<|λz=>p (by rw[<-z];calc l),ZO];exact(m j<|Zs _ l).2}),b,h,e1,r,e3
  refine{b,h,(cQ L<|NP h0 `am g f).trans e1,r.trans (by unfold ap1;rw[Yc]),λk=>?_};rw[e3,xo _ h0,ZU];congr 1;by_cases s:k=i
  .grind
  simp_all
def Av{l:Uj}{a b:Nat}(f:a∈l)(h:b∈l)(e:l.idxOf a=l.idxOf b):a=b:=by
 have g:∀{x},x∈l->l[l.idxOf x]?=Y x:=λ{x} d=>by rw[Zo<|YD.mpr d,Wg]
 have:=g f
 simp_all
end
section
variable{bk:`cr}{nd:`eB}{wd:`tp}(H:`T1)(hM:∀x,x∈aA bk↔x<(`fi).lg.length)(hN:`xgh)(h0:`xet)(hw:∀m,m<⇑wd->⇑(`gs)<=1000)
def wN(a:`cr)(b:`tp)(k:Nat):Tx:=sw `xeQ b<|(`xgW).getD k 0
include H hM hN hw
theorem MT(f:nd p=Y m)(t:Hd bk p):({`xdw,m,bk}).Nodup/\(∀i∈(RN `fi 1000 m).map (ix bk),i<⇑(`ed))/\∀k,k<⇑(`ed)->(k∈(RN `fi 1000 m).map (ix bk)↔wN bk wd k <:+ p):=by
 exists zu H _ m (H.i.lt f) `xkP,l,v;have d:∀{j},j<⇑wd->j∈aA bk:=λh=>(hM _).mpr<|H.i.len ▸ h;refine{List.Pairwise.map _ (R:=λa b=>a∈aA bk/\b∈aA bk/\a≠b) (λa b h e=>h.2.2<|Av h.1 h.2.1 e)<|v.imp_of_mem λ{a b} u hb q=>{d ((l a).mp u).1,d ((l b).mp hb).1,q},λi s=>?_,λk n=>?_}
 .exists ZW.mp s,j,g,rfl;exact YD.mpr<|d ((l j).mp g).1
 .have o:ix bk ((`ed).getD k 0)=k:=by
   simp_all
  have g:(`ed).getD k 0<⇑wd:=by
   rw[H.i.len];refine(hM _).mp ?_;exact Zl ▸ Zo n ▸ YT n
  rw[show wN bk wd k <:+ p↔(`ed).getD k 0∈RN _ _ m from(GZ H `xkP f t<|H.i.sw_nd g).symm];constructor
  .intro h;exists ZW.mp h,j,r,e;have:=Av (d ((l j).mp r).1) (d g)<|e.trans o.symm;exact this ▸ r
  .exact λh=>ZW.mpr {_,h,(o)}
include h0
def UK(r:`cr)(n:Nat)(w:Tx):List Pl:=(r.zipIdx n).flatMap λp=>(plT w p.1).map λe=>(p.2,e)
theorem pb2(t:Tx)(n:Nat)(D:t∈bk)(h:Ug):∀(k e:Nat)(G:{`QZ,Pl})(g f a:Ug),e+k=⇑t+1->⇑G=⇑(`ed)->(∀i,⇑(G.getD i [])+k<100000)->∃d o l j,forL (l9 [bC 5,bC 6]) jY (iy e<|(({`xaF,t}).drop e).map λ(n:Nat)=>T.int (n:Int)) (EB8 `T_ `i_ G (Q0 (n:Int)) h g f a)=Y (.nx<|EB8 `T_ `i_ d (Q0 (n:Int)) h o l j)/\⇑d=⇑G/\∀i,i<⇑(`ed)->d.getD i []=G.getD i []++(({`xcy,e,k}).filter λe=>(`xfP).isSuffixOf `xgV).map λe=>(n,e):=by
 have p:⇑({`xaF,t})=⇑t+1:=by unfold wl;grind
 intro k
 induction k with
 |zero =>
  intro e G g f a E hl hs;rw[YO `bi];calc Oe G g f a {rfl,rfl,λi _=>by simp}
 |succ k C =>
  intro e G g f a E hl hs;have u:Hd bk `xgV:=.inr {t,D,List.take_prefix _ _};exists (H.some _).mpr {_,u,Ye _},m,hm;exists MT H hM hN hw hm u,O,N,w;have hd:({`xaF,t}).drop e=ix bk m::({`xaF,t}).drop (e+1):=by
   rw[YG `bi];congr 1;unfold wl;rw[List.getElem_map,List.getElem_range,jP hm]
  exists pb1 h _ _ G a O λi b=>⟨hl ▸ N i b,by have:=hs i;omega⟩,Q,j,e1,s,v
  obtain⟨d,o,l,y,P,A,F⟩:=C (e+1) Q _ _ j `bi (s.trans hl) λi=>by
   have:=hs i;rw[v,Zr];split
   .show _+1+k<_;omega
   grind
  refine Oe d o l y {?_,A.trans s,λi b=>?_}
  .rw[hd];exact(cQ L<|(cG (m:=.fr) (mP<|aL (xv (x:=(.pu,OC _)) L<|xv (r:=ak) (x:=(.fr,.int _)) L L)<|Iq H hM (H.i.lt hm)<|hw m<|H.i.lt hm) L).trans e1).trans P
  .rw[F i b,v,ZU,Um,List.filter_cons];congr 1;by_cases q:wN bk wd i <:+ t.take e
   .rw[Zp<|(w i b).mpr q,Zp<|Y7.mpr q];rfl
   .rw[Zn {`xcH,q,(w i b).mp z},Zn {`xcH,q,Y7.mp z}];rfl
theorem pb3(hb:∀t∈bk,⇑t<=120/\Az t):∀(r:`cr)(n:Nat)(G:{`QZ,Pl})(j h d b a:Ug),(∀t∈r,t∈bk)->⇑G=⇑(`ed)->(∀i,⇑(G.getD i [])+121*⇑r<90000)->∃f D C u s q,forL (l9 [bC 3,bC 4]) kj ((r.zipIdx n).map λp=>T.tup [.int p.2,.str p.1]) (EB8 `T_ `i_ G j h d b a)=Y (.nx<|EB8 `T_ `i_ f D C u s q)/\⇑f=⇑G/\∀i,i<⇑(`ed)->f.getD i []=G.getD i []++UK r n `xfP:=by
 intro r
 induction r with
 |nil=>calc λn G j h d b a _ _ _=>SV G j h d b a {rfl,rfl,λi _=>(ZO _).symm}
 |cons t r X =>
  intro n G j h d b a z hl hs;have w:=z t Zv;exists hb t w,tl,tz;simp only[Za]at hs;obtain⟨G1,u,s,q,e1,y,A⟩:=pb2 H hM hN h0 hw t n w _ _ 0 G d b a (by calc Uw _ _) hl λi=>by have:=hs i;lia
  have Q:=YE.mpr<|(H.some t).mpr {t,.inr {t,w,List.prefix_refl _},Ye _};have R:∀i,⇑(((({`xcy,0,⇑t+1}).filter λe=>(`xfP).isSuffixOf `xgV).map λe=>((n,e):Pl)))<=121:=λi=>by
   rw[Zu];exact ZY (X5 _ _) (by simp_all)
  exists X _ G1 _ _ u s q (λv Z=>z v<|Zs _ Z) (y.trans hl) (λi=>by
   by_cases o:i<⇑(`ed)
   .rw[A i o,Zr];have:=hs i;have:=R i;lia
   .rw[Zl,X6 `am];have:=hs i;show 0+_<_;lia),f,P,O,N,F,E,QC,S,g2
  refine SV f P O N F E {?_,S.trans y,λi o=>?_}
  .rw[WU,Zh];exact(cQ L ((cG (m:=.fr) (l:=iy 0 _) (by
   have:=aL (g:=lD) (as:=ae `cv `xap) (U:=EB8 `T_ `i_ G (Q0 (n:Int)) `xin d b a) (xv (x:=(.pu,OC `b8)) L<|xv (r:=ak) (x:=(.fr,.str t)) L L)<|ET H hM h0 Q tz `am;show (bu _ _ _).bind _=_;rw[this];rfl) L).trans e1)).trans QC
  .rw[g2 i o,A i o,ZU];unfold UK;rw[WU,List.flatMap_cons];unfold plT;rw[VF]
theorem vn(e:∀t∈bk,⇑t<=120/\Az t)(r:⇑bk<=8)(q:`xkg):∃G:List `xkQ,dy [.lst `fb,OC `b8]=Y (.fr,gT G)/\⇑G=⇑(`ed)/\∀i,i<⇑(`ed)->G.getD i []=P5 bk `xfP:=by
 have a:∀i,((List.replicate ⇑(`ed) ([]:List Pl)).getD i [])=[]:=λi=>by
  rw[Zl,Y1];split<;>rfl
 obtain⟨G,p,o,n,j,g,e1,b,f⟩:=pb3 H hM hN h0 hw e bk 0 _ _ _ _ _ _ (λ_ h=>h) XU λi=>by
  rw[a i];show 0+_<_;lia
 refine{G,?_,b.trans XU,λi d=>by rw[f i d,a i];rfl};exact dg L (sq (by
  have c:=gU (k:=1) (tg:=`xgE) (it:=`xnX) (elt:=`xle) (U:=[pc `T_,pc<|OC _,M,M,M,M,M,M]) (m:=.pu) (λm=>lj<|row _ _ m) (λ_=>T.lst []) _ (by
    show Y (Md.pu,(`b8).map _)=_;unfold tabOf tab;rw[QF];rfl) L `am λm _=>{_,rfl,(rfl)}
  refine(pH c L (by show 2<8;decide)).trans ?_;rw[show (`ed).map _=(List.replicate _ ([]:List Pl)).map λl=>T.lst `xeG from by rw[List.map_const',List.map_replicate];rfl];rfl) (sq ((cG (by rw[<-enum_zip];rfl) L).trans e1) L))
end
open TS
abbrev Rs:=Nat×Tx
noncomputable abbrev tR(q:Rs):T:=.tup [.int (q.1:Int),.str q.2]
def kR(q:Rs):List L2.Key:=[.inl (q.1:Int),.inr `xkf]
noncomputable def bR:List L2.Key->Rs
 |[.inl i,.inr s]=>(i.toNat,s.cps.toList)
 |_=>(0,[])
def K4(l:`TW):(`xfu).map bR=l:=by
 rw[QF]
 conv=>rhs;rw[<-Vk l]
 calc YU λq _=>Prod.ext (YR _) (by show (`xkf).cps.toList=_;simp[sx])
def NU(q:Rs):T.tup ((kR q).map bp)=tR q:=by
 show T.tup [.int _,.str (`xkf).cps.toList]=_;rw[show (`xkf).cps.toList=q.2 by simp[sx]]
theorem pI:∀l:List Rs,(`xeF).mapM nk1=Y `xfu
 |[]=>rfl
 |q::l=>by
  rw[Zh,List.mapM_cons,pI l];rfl
def leR(a b:Rs):Bool:=!eT (kR b) (kR a)
def l7(l:`TW):List Rs:=l.mergeSort leR
def bN(l:`TW):(l7 l).Perm l:=List.mergeSort_perm l leR
def Ij(l:`TW):(l7 l).Pairwise λa b=>leR a b=J :=
 List.pairwise_mergeSort (λa b c e d=>by
  unfold leR at *;rw[Vh]at *;calc uR (m:=kR b) L L e d) (λa b=>by
  unfold leR;cases h:eT (kR b) (kR a) with
  |false=>rfl
  |true=>rw[og h];rfl) l
def Do(l:`TW):shp `xfu:={J,[B],λk m=>by
 exists ZW.mp m,q,_,rfl;rfl}
def Di{r:`TW}(h:r.Perm l):Bx `xfu=(l7 r).map kR:=by
 calc uh {({`tf,bN,r,h}).map _,?_}<|Do l;rw[Y6];exact(Ij r).imp λ{a b} h=>by
  unfold leR at h;rw[Vh]at h;calc h
def L6(l:`TW):pB [(m,.lst `xeF)]=Y (.fr,.lst<|(l7 l).map tR):=by
 show ((`xeF).mapM nk1).bind _=_;rw[pI,Zw,Zp<|Do l,Di<|YS l,QF];congr 3
theorem nN(w:Tx):∀(r:`cr)(n:Nat),(UK r n w).Nodup/\(∀p∈UK r n w,n<=p.1)/\⇑(UK r n w)<=({`x4,r.map}).sum+⇑r
 |[],n=>{Yi,(λp h=>nomatch h),Zq _}
 |t::r,n=>by
  exists nN w r `xjF,i,f,m;have e:UK `xkK n w=(plT w t).map (λe=>(n,e))++UK r `xjF w:=by
   unfold UK;rw[WU,List.flatMap_cons]
  have l:⇑(plT w t)<=⇑t+1:=ZY (X5 _ _)<|XA Yt;rw[e];refine{ZG.mpr {Y6.mpr<|(V7 VB Wu).imp λ{a b} j z=>j (XC z).2,i,λa g b hb z=>?_},λp d=>?_,?_}
  .exists ZW.mp g,x,_,rfl;have:=f b hb;rw[<-z]at this;exact absurd this<|Nat.not_succ_le_self n
  .rcases Zf.mp d with d|d
   .exists ZW.mp d,x,_,rfl;exact Zq _
   .exact Vm<|f p d
  .rw[Zr,Zu,Zh,V2,Za];lia
noncomputable def rs(a:`cr)(l:`xkQ):List Rs:=l.map λp=>(p.1,(a.getD p.1 []).drop p.2)
def getD_at{a:`cr}(h:a[n]?=Y t):a.getD n []=t:=by rw[Zl,h];rfl
def K5:q∈rs e (P5 e w) ↔ ∃a,w <:+ a/\e[q.1]?=Y (a++q.2):=by
 unfold rs;rw[ZW];constructor
 .rintro⟨p,f,rfl⟩;exists kG.mp f,t,b,d,g;refine{t.take p.2,g,?_};rw[getD_at b,Yh];exact b
 .rintro⟨a,b,d⟩;refine{(q.1,⇑a),kG.mpr {_,d,by rw[Zr];calc ZX _ _,by rw[List.take_left];calc b},Prod.ext L ?_};rw[getD_at d,List.drop_left]
def Mn(e:`cr)(w:Tx):(rs e<|P5 e w).Nodup:=by
 calc Y6.mpr<|List.Pairwise.imp_of_mem (λ{a b} i hb j z=>j ?_) (nN w e 0).1;exists kG.mp i,t,g,l,_;exists kG.mp hb,u,h,m,_;exists XC z,d,f;rw[d,h]at g;obtain rfl:=Om g;rw[d,getD_at h]at f;have:=ZF List.length f;rw[Yj,Yj]at this;calc Prod.ext d `am
def wX{α:Type}(l:`ew)(k:Nat)(h:`xjs):cut l (Y (k:Int)) M=l.drop k:=by
 have a:clip ⇑l (k:Int)=k:=by
  unfold clip;rw[Zn `am,YR,YJ h]
 show (l.drop<|clip ⇑l (k:Int)).take (⇑l-clip ⇑l (k:Int))=_;rw[a,Yq (by rw[Yj];calc Zq _)]
def HV{m:Md}{k:Nat}(e:a U=Y (m,.str t))(d:b U=Y (n,.int (k:Int)))(h:k<=⇑t):eSl a (Y b) M U=Y (.fr,.str<|t.drop k):=by
 unfold eSl sJ;dsimp only;rw[e,d];show Y (Md.fr,T.str<|cut t (Y (k:Int)) M)=_;rw[wX t k h]
def B6{b:Ex}{x:T}(e:a U=Y (.fr,x))(d:b U=Y (.fr,y)):jA {`xdU,a,b,ak} U=Y (.fr,.tup [x,y]):=by
 show (ae a (ae b ak) U).bind zy=_;rw[xv e<|xv d L,Zw,xS (by show 2<=16777216;decide)];show Y (up .fr _)=_;unfold up;rw[ite_self];rfl
section
variable{bk:`cr}{nd:`eB}{wd:`tp}(H:`T1)(hM:∀x,x∈aA bk↔x<(`fi).lg.length)(hN:`xgh)(h0:`xet)(haz:∀m,m<⇑wd->⇑(`gs)<=1000)(hb:∀t∈bk,⇑t<=120/\Az t)(h8:⇑bk<=8)(hl:`xkg)
include H
theorem uQ(hw:nd w=Y j)(a:nd v=Y j):P5 bk w=P5 bk v:=by
 unfold P5;rw[List.flatMap_def,List.flatMap_def];congr 1;calc YU λq b=>?_;congr 1;calc List.filter_congr λe _=>?_;have:=(H.eq hw a).mp L (q.1.take e)<|.inr {q.1,List.fst_mem_of_mem_zipIdx b,List.take_prefix _ _};rw[XR,Y7,Y7];calc this
include hM hN h0 haz hb h8 hl
theorem Nm:∃G:List `xkQ,dy [.lst `fb,OC `b8]=Y (.fr,gT G)/\⇑G=⇑(`ed)/\∀m,m<⇑wd->ix bk m<⇑G/\G.getD `xes []=P5 bk `gs:=by
 exists vn H hM hN h0 haz hb h8 hl,G,e1,b,d;refine{G,e1,b,λm hm=>?_};have a:=YD.mpr<|(hM m).mpr (by rw[<-H.i.len];calc hm);refine{by rw[b];calc a,(d _ a).trans ?_};have:wN bk wd `xes=sw `fi wd m:=by
  unfold wN;rw[Zl,Zo a];show sw `fi wd `ed[ix bk m]=_;rw[Wg a]
 rw[this];calc uQ H (H.i.sw_nd hm)<|H.i.top hm
theorem HZ(d:`ld):gK [.lst `fb,OC `b8,.int (ix bk m:Int)]=Y (.fr,.lst `xms):=by
 exists Nm H hM hN h0 haz hb h8 hl,G,e1,r,j;exists j m d,o,n;have q:=(`xhp).2.2;have bs:({`x4,bk.map}).sum<=120*⇑bk:=by
  have:∀l:List Tx,(∀t∈l,⇑t<=120)->({`x4,l.map}).sum<=120*⇑l:=λl=>by
   induction l with
   |nil=>calc λ_=>Zq _
   |cons t l f =>
    intro h;have:=f λt b=>h t<|Zs _ b;have:=h t Zv;rw[Zh,V2,Za];lia
  exact this bk λt b=>(hb t b).1
 refine dg L<|sq (U1:=[pc `T_,pc `i_,Q0 (ix bk m:Int)]) ?_<|dr<|je (xv (x:=(.fr,.lst<|(`vr).map tR)) ?_ L)<|L6 _
 .show (((bu aI _ _).map _).map _)=_;rw[aL `gk<|yR (by rw[Zu];calc CL hM (by rw[<-H.i.len];calc d))];rfl
 .unfold rs;rw[QF];refine gU (m:=.fr) tP (λp=>tR (p.1,(bk.getD p.1 []).drop p.2)) `xjr (mP<|e2v (aL `gk e1) (y:=(.fr,.int (ix bk m:Int))) L ?_) L (by show ⇑(UK bk 0 `gs)<=_;lia) λp g=>{[Q0 p.1,Q0 p.2,pc `T_,pc `i_,Q0 (ix bk m:Int)],rfl,?_}
  .rw[iB (λl=>T.lst `xeG) G `xes [] o,n];show Y (up .fr _)=_;unfold up;rw[ite_self]
  .exists kG.mp g,t,a,e,_;rw[getD_at a];calc B6 L<|HV (m:=.fr) (e2v L L<|(iB T.str bk p.1 [] {`xor,a}).trans ?_) L e;rw[getD_at a];rfl
end
end T47
namespace T47
open VS AU
def DL{m n:Md}{i:Int}{k:Nat}(f:a U=Y (m,.str t))(e:b U=Y (n,.int i))(d:i=(k:Int))(h:k<=⇑t):eSl a (Y b) M U=Y (.fr,.str<|t.drop k):=by
 unfold eSl sJ;dsimp only;rw[f,e,d];show Y _=_;rw[wX t k h]
def sh(a:`cr)(t:Nat):Nat:=(row `xeQ `xgW t).1
section
variable{bk:`cr}{nd:`eB}{wd:`tp}(H:`T1)(hM:∀x,x∈aA bk↔x<(`fi).lg.length)(hN:`xgh)(h0:`xet)(hl:`xnR)(hm:`xhW)(haz:∀t,t<⇑wd->Az `Tk/\⇑(`Tk)<=120)
include H hM
theorem yr{t:Nat}(b:s<⇑wd)(d:`WS)(h:ix bk s=ix bk t):s=t:=by
 have g:∀{x},x<⇑wd->`ed[ix bk x]?=Y x:=λ{x} a=>by
  have hm:=(hM x).mpr (by rw[<-H.i.len];calc a);rw[Zo<|YD.mpr hm,Wg]
 have:=g b
 simp_all
theorem Je(b:`WS):sh bk t<=⇑(`Tk)/\∀y,nd y=Y t↔y <:+ W wd t/\sh bk t<=⇑y:=by
 unfold sh row;by_cases h:t=0
 .subst h;rw[H.i.lk0,H.i.wz];refine⟨Pr _,λy=>{λz=>{by rw[H.i.zero z];calc Ye _,Pr _},λz=>by rw[Xf.mp z.1];calc H.i.z}⟩
 .refine ai λl a=>?_;obtain⟨m,e,⟨g,_⟩,j,f,d⟩:=H.i.lk (Yx h) b (by simp);calc a ?_;rw[e];show (`fi).lg.getD m 0+1<=_/\∀y,_↔_/\(`fi).lg.getD m 0+1<=_;rw[H.i.lg m g];exact⟨f,λy=>{λz=>{H.i.sf z,(H.i.low (by simp) e z).1},λz=>d y z.1 z.2}⟩
include h0
theorem Fz(O:∀q∈b,yk bk wd q)(N:∀t,0<t->t<⇑wd->ix bk t∈b.map (·.1)):∀(k t:Nat)(u:Tx)(F:Nat)(a:Ug),⇑(`Tk)<=k->t<⇑wd->k<F->⇑u+k<=1000->∃l,dc `xlR lZ F [pc `i_,Q0 (ix bk t:Int),pc {`RH,bT b},Q2 u,a]=Y (.nx [pc `i_,Q0 0,pc {`RH,bT b},Q2<|W wd t++u,l]):=by
 have cd:∀(t:Nat)(u:Tx)(a:Option _),e2 _ `cv (eC _) [pc `i_,Q0 _,pc {`RH,bT b},Q2 u,a]=Y _:=λt u a=>e2v (x:=(.fr,.int (ix bk t:Int))) (y:=(.fr,.int ((0:Nat):Int))) L L<|IW L L<|iX _ _;have w:0<⇑wd:=H.i.lt H.i.z;intro k
 induction k with
 |zero =>
  intro t u F a h f A _;obtain⟨F,rfl⟩:∃j,F=j+1:={F-1,by omega}
  have r:W wd t=[]:=Xj.mp `xkh;have d:t=0:=by
   have:=H.i.top f;rw[r,H.i.z]at this
   simp_all
  subst d;have c:=cd 0 u a;rw[show ix bk 0=0 from h0]at c ⊢;exact{a,by rw[r];calc eY c}
 |succ k v =>
  intro t u F a h f A R;obtain⟨F,rfl⟩:∃j,F=j+1:={F-1,by omega}
  by_cases d:t=0
  .subst d;have c:=cd 0 u a;rw[show ix bk 0=0 from h0]at c ⊢;exact{a,by rw[H.i.wz];calc eY c}
  .refine ai λS s=>?_;obtain⟨⟨i,c⟩,e1,P⟩:=N8 b _<|N t (Yx d) f;calc Oo (O _ P) λQ p=>Pf λG E D C g=>?_;cases yr H hM f D G;cases (show i=ix bk p from E);have g:W wd t=W wd p++[c]:=g;have o:=ZF List.length g;rw[Zr,Ti]at o;exists v p ([c]++u) F (pc<|vB (ix bk p,c)) `bi C `bi (by grind),l,e;calc s ?_;refine{l,(mK ((cd t u a).trans (by rw[ZP λz=>d<|yr H hM f w<|z.trans h0.symm];rfl))<|sq (aG (m:=.fr) (e2v (x:=(.pu,.dct 0 _)) (y:=(.fr,.int _)) L L ?_) `ao (by show 4<5;decide))<|sq (aG (m:=.fr) (Ct (m:=.fr) (n:=.fr) (x:=[c]) (y:=u) L L (by show 1+_<=_;omega)) `ao (by show 3<5;decide))<|aG (m:=.fr) (t:=.int _) L `ao (by show 1<5;decide)).trans<|e.trans<|by rw[g,ZU]};show (if J=J then (eU _ _).map _ else M)=_;rw[Zp L,e1];rfl
include hN hl hm haz
theorem tq(d:`WS):fI [OC `b8,.int (ix bk t:Int)]=Y (.fr,.str `Tk):=by
 have a:t<(`fi).lg.length:=by rw[<-H.i.len];exact d
 exists BS H hM hN hl hm λt h=>(haz t h).1,b,e,j,g;exists Fz H hM h0 j g _ t [] HS _ (haz t d).2 d `ao `ao,l,f;rw[ZO]at f;have r1:sX `xfx [pc `i_,Q0 (ix bk t:Int),M,M,M]=Y (.nx [pc `i_,Q0 (ix bk t:Int),M,M,M]):=by
  show (((bu _ _ _).map _).map _)=_;rw[aL (xv (x:=(.pu,OC _)) L<|xv (r:=ak) (x:=(.fr,.int _)) L L)<|show aI _=Y _ from yR (by rw[Zu];calc CL hM a)];rfl
 calc dg L<|sq r1<|sq (aG (m:=.fr) (aL (xv (r:=ak) (x:=(.pu,OC _)) L L) e) `ao (by show 2<5;decide))<|sq (U1:=[pc _,pc _,pc _,pc _,M]) L<|sq f L
theorem yY(b:`WS):i9 [OC `b8,.int (ix bk t:Int)]=Y (.fr,.str<|(`Tk).drop<|⇑(`Tk)-sh bk t):=by
 have a:t<(`fi).lg.length:=by rw[<-H.i.len];exact b
 exists Je H hM b,s1,_;calc dg L<|sq (aG (m:=.fr) (aL (xv (x:=(.pu,OC _)) L<|xv (r:=ak) (x:=(.fr,.int _)) L L)<|tq H hM hN h0 hl hm haz b) `ao (by show 2<3;decide))<|dr<|DL (m:=.fr) (n:=.fr) (i:=(⇑(`Tk):Int)-(sh bk t:Int)) L (e2v (x:=(.fr,.int _)) (y:=(.fr,.int _)) L (e2v {`xoF,a} (y:=(.fr,.int 0)) L L) L) `bi `bi
end
open TS
def Jc(h:c U=Y (m,.bl J)):eIf c a b U=a U:=by
 show (`xeC).bind _=_;rw[h];rfl
def IL(h:c U=Y (m,.bl B)):eIf c a b U=b U:=by
 show (`xeC).bind _=_;rw[h];rfl
def Cc(h:`xgY):up m t=(.fr,t):=by unfold up;rw[Zp h]
structure Ma(bk:`cr)(nd:`eB)(wd:`tp):Prop where
 H:K (Hd bk) `fi nd wd
 hM:∀x,x∈aA bk↔x<(`fi).lg.length
 hN:(`ed).Nodup
 h0:(`ed).idxOf 0=0
 hl:⇑wd<=241
 hm:⇑(`ed)=⇑wd
 hb:∀t∈bk,⇑t<=120/\Az t
 h8:⇑bk<=8
 hs:({`x4,bk.map}).sum<=120
def Mh(B:US b):∃nd wd,Ma b nd wd:=by
 calc xA2 B.k λ_=>Px λnd wd=>SK λH hl d hM hm h0=>?_;refine{nd,wd,H,hM,?_,h0,hl,hm,λt a=>{ZY (US.sum1 a) B.sum,B.az t a},B.Te,B.sum};exists H.met (k:=1000) `bi,l,e,q,_
 simp_all
section
variable{bk:`cr}{nd:`eB}{wd:`tp}(A:`xeS)
include A
theorem Ma.lt{m:Nat}:m∈aA bk↔m<⇑wd:=by rw[A.hM,A.H.i.len]
theorem Ma.pt:(∃m,nd w=Y m)↔Pt bk w:=(A.H.some w).trans Nj.symm
theorem Ma.wrd(d:`ld):Az `gs/\⇑(`gs)<=120:=by
 rcases A.pt.mp {m,A.H.i.top d} with h|⟨t,b,h⟩
 .rw[h];exact{(λc a=>nomatch a),by decide}
 .exact{λc a=>(A.hb t b).2 c<|h.subset a,ZY h.length_le (A.hb t b).1}
theorem Ma.wkN(f:Tx):∀(v p:Tx)(l h:Ug),(∃m,nd p=Y m)->nd (p++v)=M->Az v->⇑p+⇑v<1000000->∃q U,forL `xmO nu (v.map s1) [pc `i_,Q2 f,oc `xei,l,h]=Y (.rt (.fr,PB {`xaF,q}) U)/\⇑q<⇑p+⇑v:=by
 intro v
 induction v with
 |nil =>
  simp_all
 |cons c v s =>
  rintro p l h ⟨m,j⟩ hs o hl;rw[Za]at hl;have b:⇑(`kt)=⇑p+1:=by unfold wl;simp_all
  have hg:gW {`M_,m} c=(nd<|p++[c]).map (ix bk):=by rw[qj _ _ _ _<|o c Zv,A.H.i.wy j c]
  have n:aY 4 (eN rB<|ae (e2 aM (e2 aM `cm<|e2 aM `gi<|Q3<|-1)<|Q3 3) ak) [pc `i_,Q2 f,oc `xei,pc `xmt,h]=Y (.nx [pc `i_,Q2 f,oc `xei,pc `xmt,pc `xif]):=by
   refine aG (je (xv (x:=(.fr,UI _)) (e2v (qL A.hM (by rw[<-A.H.i.len];calc A.H.i.lt j) L (by
   calc e2v L L ?_;rw[n9 _ _ 0 `bi,b,Vy,<-jP j];have:(`kt).getD ⇑p 0=num bk nd p:=by
    unfold wl
    simp_all
   rw[this];rfl)) L ?_) L) (L9 _ _ _)) `ao (by show 4<5;decide)
   rw[<-nR];exact ZF _<|Cc<|t4 _
  have d:=DG (U:=[pc `i_,Q2 f,oc `xei,pc `xmt,pc `xif]) (a:=`gt) (e:=`fw) L L;rw[hg]at d;cases g:nd _ with
  |none =>
   rw[g]at d;exact{p,_,Hq L<|sq n<|jr<|ift d L,by grind}
  |some r =>
   rw[g]at d hg;have ap:=qV (i:=2) (U:=[pc `i_,Q2 f,oc `xei,pc _,pc _]) (e:=e2 _ `gt `fw) L (yX L L hg) (by grind);rw[show (`kt).map _++[T.int _]=(wl bk nd _).map _ from by rw[zh,Rn,jP g];rfl]at ap;exists s _ _ _ {r,(g)} (by simp_all) (λx t=>o x<|Zs _ t) (by grind),q,U,e,u;rw[Zr,Ti]at u;exact{q,U,(cQ L<|sq n<|sq (ue d L) ap).trans e,by grind}
theorem Ma.stand(w:Tx)(a:Az w)(h:`xnS):hJ [OC `b8,.str w]=Y (.fr,match nd w with|none=>.non|some m=>.int (ix bk m:Int)):=by
 have ln:∀q,⇑({`xaF,q})=⇑q+1:=λq=>by unfold wl;grind
 have f:∀q,eN cn `b5 [pc `i_,Q2 w,pc<|PB _]=Y _:=λq=>je `xfZ (by
  show Y (Md.fr,T.int ((⇑(({`xaF,q}).map _):Nat):Int))=_;rw[Zu,ln])
 have c:∀q,e2 _ _ {`K_,eN cn `li} [pc _,pc _,pc<|PB {`xaF,q}]=Y (.fr,.bl (decide (⇑q+1=⇑w+1))):=λq=>e2v (f q) L<|mn L L<|iX _ _;cases hw:nd w with
 |none =>
  exists A.wkN w w [] _ _ {0,(A.H.i.z)} (by simp_all) a (by show 0+_<_;omega),q,U,e,g;rw[WG,YI]at g;have j:wl bk nd []=[0]:=by
   show [num bk nd []]=_;rw[jP A.H.i.z,show ix bk 0=0 from A.h0]
  rw[j]at e;have d:=c q;rw[ZP `bi]at d;calc dg L<|sq (aG {`xoK,dg L<|sq L<|jr<|(cG L L).trans e} `ao (by show 2<3;decide))<|dr {`tf,IL,d,L}
 |some m =>
  have b:=c w;rw[ZI L]at b;calc dg L<|sq (aG (aL `gk<|ET A.H A.hM A.h0 (by rw[hw];rfl) a h) `ao (by show 2<3;decide))<|dr<|(Jc b).trans<|e2v (x:=(.pu,PB _)) L L ?_;rw[n9 _ _ 0 (by rw[ln];calc Y3 _),ln];unfold wl;rw[Zl,ZV,Vy,List.getElem?_range<|Yk _];show Y (up _<|T.int ((num bk nd _:Nat):Int))=_;rw[List.take_length,jP hw];rfl
theorem Ma.az(m:Nat)(a:`ld):⇑(`gs)<=1000:=ZY (A.wrd a).2 `ao
theorem Ma.rests{m:Nat}(a:`ld):gK [.lst `fb,OC `b8,.int (ix bk m:Int)]=Y (.fr,.lst `xms) :=
 HZ A.H A.hM A.hN A.h0 A.az A.hb A.h8 (by rw[A.hm];calc ZY A.hl `ao) a
theorem Ma.QB:q∈rs bk (P5 bk w) ↔ ∃t,bk[q.1]?=Y t/\(w++q.2) <:+ t:=by
 rw[K5];constructor
 .rintro⟨a,⟨c,rfl⟩,h⟩
  simp_all
 .rintro⟨t,h,c,rfl⟩;exact{_,{c,(rfl)},by rw[h,ZU]}
theorem Ma.same(f:`ld)(d:`B1)(h:∀q,q∈rs bk `xjr↔q∈rs bk (P5 bk `D_)):m=n:=by
 have ap:∀{w p r:Tx},(w++r) <:+ (p++r)↔w <:+ p:=λ{w p r}=>⟨λ⟨c,e⟩=>{c,List.append_cancel_right (by rw[ZU];calc e)},λ⟨c,e⟩=>{c,by rw[<-ZU,e]}⟩
 refine(A.H.eq (A.H.i.top f)<|A.H.i.top d).mpr λp g=>?_;have at_:∀{i:Nat}{t p r:Tx},bk[i]?=Y t->p++r=t->∀{w:Tx},(i,r)∈rs bk (P5 bk w)↔w <:+ p:=λ{i t p r} a e {w}=>by
  rw[A.QB];constructor
  .grind
  .exact λh=>{t,a,e ▸ ap.mpr h}
 rcases g with rfl|⟨t,b,r,e⟩
 .by_cases hb:bk=[]
  .have em:=λk j=>(A.pt.mp {k,A.H.i.top j}).elim id λ⟨t,b,_⟩=>by
    grind
   rw[em m f,em n d]
  .exists List.exists_mem_of_ne_nil _ hb,t,b;exists Wx b,i,a;rw[<-at_ a (Yd t),<-at_ a (Yd t)];exact h _
 .exists Wx b,i,a;rw[<-at_ a e,<-at_ a e];calc h _
theorem Ma.rlen(m:Nat):⇑(`xhq)<160:=by
 rw[(bN _).length_eq];have:=(`xhp).2.2;have h8:=A.h8;have hs:=A.hs;unfold rs;rw[Zu];show ⇑(UK bk 0 _)<160;lia
theorem Ma.rnd(m:Nat):(`xhq).Nodup:=(bN _).nodup_iff.mpr<|Mn bk _
end
def LK(a b:Rs):eqT (tR a) (tR b)=decide (a=b):=by
 by_cases h:a=b
 .rw[h,ZI L];exact qF 60 _ L
 .rw[ZP h];calc WY.mpr λz=>h ?_;have z:((a.1:Int)==(b.1:Int)&&(a.2==b.2&&J))=J:=z;grind
def Jh(q:Rs)(l:`TW):{`xco,tR}=decide (q∈l):=by
 induction l with
 |nil=>rfl
 |cons a l b =>
  rw[Zh,X4,b,LK,XR];grind
abbrev tL(l:`TW):T:=.lst `xeF
def EH(l:`TW):Pk 60 (tL l)=J:=by
 show ((`xeF).all _)=J;rw[VX];calc ZC.mpr λ_ _=>rfl
def Jm{m:Md}(q:Rs)(l:`TW):rM (m,tR q) (n,tL l)=Y (.fr,.bl (decide (q∈l))):=by
 show (if Pk 59 _=J/\Pk 60 _=J then Y _ else M)=_;rw[Zp {rfl,EH l},Jh]
def KG{m:Md}(q:Rs)(l:`TW):ng (m,tR q) (n,tL l)=Y (.fr,.bl<|!decide (q∈l)):=by
 show (if Pk 59 _=J/\Pk 60 _=J then Y _ else M)=_;rw[Zp {rfl,EH l},Jh]
def M6{a b:`TW}(s:a.Nodup)(r:b.Nodup)(j:⇑a<160)(i:⇑b<160)(d:⇑a+⇑b<300):∃l:List Rs,JB [(m,tL a)] [(n,tL b)]=Y (.fr,tL l)/\∀q,q∈l↔(q∈b/\q∉a)\/(q∈a/\q∉b):=by
 have inj:∀{p q:Rs},kR p=kR q->p=q:=λ{p q} h=>by
  have v:[bR _]=[p]:=K4 [p];have u:[bR _]=[q]:=K4 [q]
  simp_all
 have g:∀{l:`TW},l.Nodup->(`xfu).Nodup:=λh=>Y6.mpr<|h.imp λ{a b} t z=>t<|inj z;have mk:∀{q:Rs}{l:`TW},kR q∈l.map kR↔q∈l:=λ{q l}=>⟨λh=>by
  exists ZW.mp h,p,o,e;calc inj e ▸ o,λh=>ZW.mpr {q,h,(rfl)}⟩
 have ex:∀k∈UG (a.map kR) (b.map kR),∃q,kR q=k:=λk f=>by
  rcases uf.mp f with⟨h,_⟩|⟨h,_⟩<;>exact(ZW.mp h).elim λq h=>{q,(h.2)}
 have e1:{`xbg,kR}=(`xjf).map kR:=by
  rw[QF]
  conv=>lhs;rw[<-Vk (UG _ _)]
  calc YU λk f=>?_;exists ex k f,q,rfl;exact(ZF kR (WN<|K4 [q]).1).symm
 refine{l7 `xjf,?_,λq=>?_}
 .show ((a.map tR).mapM nk1).bind _=_;rw[pI,Zw,pI,Zw,Zp {(by
   rw[<-Rn];calc Do _),g s,g r,by rw[Zu];calc j,by rw[Zu];calc i,by rw[Zu,Zu];calc d},show Bx _=(l7 _).map kR from by
   conv=>lhs;rw[e1]
   calc Di<|YS _,QF]
  exact ZF (λz=>Y (Md.fr,T.lst z))<|YU λq _=>NU q
 .rw[(bN _).mem_iff,<-mk,<-e1,uf,mk,mk]
def N0(f:a U=Y (.fr,x))(e:b U=Y (.fr,y))(d:c U=Y (.fr,z)):jA (ae a {`xdU,b,c,ak}) U=Y (.fr,.tup [x,y,z]):=by
 show (ae a _ U).bind _=_;rw[xv f<|xv e<|xv d L,Zw,xS (by show 3<=16777216;decide)];show Y (up .fr _)=_;unfold up;rw[ite_self];rfl
def FM(f:b U=Y l)(e:a U=Y m)(d:JB l m=Y v):Im b a U=Y v:=by
 unfold Im;grind
def Nd(h:c U=Y (m,.bl x))(e:a U=Y u)(d:b U=Y v):eIf c a b U=Y (if x then u else v):=by
 cases x with
 |true=>exact(Jc h).trans e
 |false=>exact(IL h).trans d
section
variable{bk:`cr}{nd:`eB}{wd:`tp}(A:`xeS)
include A
theorem Ma.inj{m:Nat}(b:`ld)(a:`B1):decide (ix bk m=ix bk n)=decide (m=n):=by
 by_cases h:m=n
 .simp_all
 .rw[ZP h,ZP λe=>h<|yr A.H A.hM b a e]
theorem Ma.parted(i:`ld)(h:`B1)(a:m≠n):∃(q:Rs)(s b:Nat),fX [.lst `fb,OC `b8,.int (ix bk m:Int),.int (ix bk n:Int)]=Y (.fr,.tup [.int (q.1:Int),.str q.2,.int (ix bk s:Int)])/\(s=m/\b=n\/s=n/\b=m)/\q∈rs bk {`xcf,s}/\q∉rs bk {`xcf,b}:=by
 exists M6 (A.rnd m) (A.rnd n) (A.rlen m) (A.rlen n) (by
  have f:=(`xhp).2.2;have d:=(nN `D_ bk 0).2.2;have h8:=A.h8;have hs:=A.hs;rw[(bN _).length_eq,(bN _).length_eq];unfold rs;rw[Zu,Zu];show ⇑(UK bk 0 _)+⇑(UK bk 0 _)<300;lia),L,e,j
 have j:∀q,q∈L↔(q∈rs bk _/\q∉rs bk _)\/(q∈rs bk _/\q∉rs bk _):=λq=>by
  rw[j q,(bN _).mem_iff,(bN _).mem_iff]
 have g:0<⇑L:=Yx λz=>a (A.same i h λq=>by
  grind)
 obtain⟨q,l⟩:∃q,q=L.getD 0 (0,[]):={_,(rfl)}
 have key:∃s b,(if decide (q∈l7 `vr)=J then ((.fr:Md),T.int (ix bk m:Int)) else (.fr,.int (ix bk n:Int)))=(.fr,.int (ix bk s:Int))/\(s=m/\b=n\/s=n/\b=m)/\q∈rs bk {`xcf,s}/\q∉rs bk {`xcf,b}:=by
  rcases (j q).mp (by
  rw[l,Zl,Zo g];calc YT g) with⟨f,d⟩|⟨f,d⟩
  .exact{n,m,by rw[ZP λz=>d<|(bN _).mem_iff.mp z];rfl,.inr {rfl,(rfl)},f,d}
  .exact Pd m n {by rw[ZI<|(bN _).mem_iff.mpr f];rfl,.inl {rfl,(rfl)},f,d}
 calc Oo key λs b=>oe λr p o=>?_;calc Ow q s b {?_,p,o};calc dg rfl (sq (aG {`xcC,xv rfl `E1,i} `ao (by show 4<7;decide))<|sq (aG {`xcC,xv rfl `E1,h} `ao (by show 5<7;decide))<|sq (ue (e2v rfl rfl (mn rfl rfl ((iX _ _).trans<|(A.inj i h).trans<|ZP a))) rfl)<|sq (aG (m:=.fr) (e2v (FM `xfO `xfO e) rfl ?_) `ao (by show 6<7;decide))<|dr<|N0 rfl rfl ((Nd (e2v rfl rfl (Jm q _)) rfl rfl).trans<|ZF _ r));calc l ▸ (iB tR L 0 _ g).trans rfl
theorem Ma.Sq(a:`ld):fX [.lst `fb,OC `b8,.int (ix bk m:Int),.int (ix bk m:Int)]=Y (.fr,.non) :=
 dg L (sq (aG {`xcC,xv L `gk,a} `ao (by show 4<7;decide))<|sq (aG {`xcC,xv L `gk,a} `ao (by show 5<7;decide))<|jr<|ift (e2v L L<|mn L L<|(iX _ _).trans<|ZI L) L)
end
def NS(a b:Pl):eqT (tP a) (tP b)=decide (a=b):=by
 by_cases h:a=b
 .rw[h,ZI L];exact qF 60 _ L
 .rw[ZP h];calc WY.mpr λz=>h ?_;have z:((a.1:Int)==(b.1:Int)&&((a.2:Int)==(b.2:Int)&&J))=J:=z;grind
def LS(q:Pl)(l:`xkQ):rM (m,tP q) (n,.lst `xeG)=Y (.fr,.bl (decide (q∈l))):=by
 have e:{`xco,tP}=decide (q∈l):=by
  induction l with
  |nil=>rfl
  |cons a l b =>
   rw[Zh,X4,b,NS,XR];grind
 show (if Pk 59 _=J/\((`xeG).all _)=J then Y _ else M)=_;rw[Zp {rfl,by rw[VX];calc ZC.mpr λ_ _=>rfl},e]
def pd{m:Md}{i:Nat}{l:`A5}(h:eU l (.int (i:Int))=Y (.lst t)):RF (m,.dct 0 l) (n,.int (i:Int))=Y (sub m<|.lst t):=by
 show (eU l _).map _=_;rw[h];rfl
section
variable{bk:`cr}{nd:`eB}{wd:`tp}(A:`xeS){G:`l_}(gG:∀m,m<⇑wd->ix bk m<⇑G/\G.getD `xes []=P5 bk `gs)
include A gG
theorem Ma.ends{w r t:Tx}{i:Nat}(a:bk[i]?=Y t)(g:Az<|w++r)(d:⇑(w++r)<=1000):eK [.lst `fb,OC `b8,gT G,.str w,.int (i:Int),.str r]=Y (.fr,.bl (decide ((w++r) <:+ t))):=by
 have st:=A.stand _ g d;have b:∀{v:T},hJ _=Y _->aY 6 (bu _ {`xbH,{`m6,e2 b6 `fw `Z9}}) [pc _,pc _,pc _,pc _,pc _,pc _,M]=Y (.nx [pc `T_,pc `i_,pc<|gT G,Q2 w,Q0 (i:Int),Q2 r,pc v]):=λ{v} h =>
  aG (aL (xv L<|xv (Ct L L (by rw[Zr]at d;lia)) L) h) `ao (by show 6<7;decide)
 cases e:nd _ with
 |none =>
  rw[e]at st;calc dg L<|sq (b st)<|dr<|(pT (x:=B) L (λz=>nomatch z) λ_=>rfl).trans ?_;rw[ZP];intro z;exists A.pt.mpr (.inr {t,ZE a,z.isInfix}),m,hm;rw[e]at hm;cases hm
 |some j =>
  rw[e]at st;have f:=A.H.i.lt e;exists gG j f,n,l;refine dg L<|sq (b st)<|dr (pT L (λ_=>e2v (B6 L<|je (xv (e2v L L<|iB _ bk i [] {`xor,a}) L) ?_) (e2v L L<|iB _ G _ [] n)<|(LS (i,⇑t) _).trans ?_) λz=>nomatch z)
  .rw[getD_at a];rfl
  .rw[l,<-uQ A.H e (A.H.i.top f)];calc ZF (λz=>Y (Md.fr,T.bl z))<|decide_eq_decide.mpr ?_;rw[kG]
   simp_all
theorem Ma.S6(X:`ld)(U:`B1)(D:m≠n)(dm:eU d (.int (ix bk m:Int))=Y (tL `xhq))(dn:eU d (.int (ix bk n:Int))=Y (tL<|l7<|rs bk<|P5 bk `D_)) :
  dM [.lst `fb,OC `b8,gT G,.dct 0 d,.int (ix bk m:Int),.int (ix bk n:Int)]=Y (.fr,.bl J):=by
 calc OH (A.parted X U D) λq s b=>OI λe f u O=>?_;have hs:s<⇑wd:=by rcases f with⟨rfl,_⟩|⟨rfl,_⟩<;>assumption
 have hb:b<⇑wd:=by rcases f with⟨_,rfl⟩|⟨_,rfl⟩<;>assumption
 exists A.QB.mp u,t,C,g;have E:=A.hb t<|ZE C;have N:Az q.2/\⇑q.2<=120:=by
  have h:=(List.suffix_append _ _).trans g;exact{λc j=>E.2 c<|h.subset j,ZY h.length_le E.1}
 have wz:∀{w:Tx},Az w->⇑w<=120->Az _/\⇑(w++q.2)<=1000:=λ{w} o p=>⟨λc j=>(Zf.mp j).elim (o c)<|N.1 c,by rw[Zr];have:=N.2;lia⟩
 have en:∀{w:Tx},Az w->⇑w<=120->eK _=Y _:=λ{w} o p=>A.ends gG C (wz o p).1 (wz o p).2;have sw:∀{w:Tx},nd w=Y s->(w++q.2) <:+ t:=λ{w} hw=>by
  have:=uQ A.H hw `xnQ ▸ u;exists A.QB.mp this,t',o,p
  simp_all
 have lo:=λ{k:Nat} (Z:`xeh)=>tq A.H A.hM A.hN A.h0 A.hl A.hm (λ_ h=>A.wrd h) Z;have shr:=yY A.H A.hM A.hN A.h0 A.hl A.hm (λ_ h=>A.wrd h) hs;exists Je A.H A.hM hs,s1,S;obtain⟨v,y⟩:∃v,v=(W wd s).drop (⇑(W wd s)-sh bk s):={_,(rfl)}
 rw[<-y]at shr;have r:=y ▸ List.drop_suffix _ _;have wS:=A.wrd hs;have F:Az v/\⇑v<=120:={λc j=>wS.1 c<|r.subset j,ZY r.length_le wS.2}
 have R:=en wS.1 wS.2;have Q:=en F.1 F.2;have P:=en (A.wrd hb).1 (A.wrd hb).2;rw[ZI<|sw `xnQ]at R;rw[ZI<|sw<|(S v).mpr {r,by rw[y,Yj];lia}]at Q;rw[ZP {`xcH,O,A.QB.mpr {t,C,(z)}}]at P;have body:∀{w:Tx},eK [.lst _,OC _,gT G,.str w,.int _,.str _]=Y _->jy [pc _,pc<|OC _,pc _,pc _,pc _,pc _,pc _,pc _,pc _,pc _,Q0 (ix bk b:Int),Q2 w]=Y (.nx [pc `T_,pc `i_,pc _,pc<|.dct 0 d,Q0 (ix bk m:Int),Q0 (ix bk n:Int),pc<|.tup [.int (q.1:Int),.str q.2,.int (ix bk s:Int)],Q0 (q.1:Int),Q2 q.2,Q0 (ix bk s:Int),pc _,pc _]):=λ{w} h =>
  ue (lU (b:=J)<|aL {`wv,xv L `xkO} h) L
 refine dg L<|sq (aG (aL {`wv,`gk} e) `ao (by show 6<12;decide))<|sq (ue (vK L (λ_=>e2v (z:=(.fr,.bl _)) (e2v L L L) (B6 L L) ?_) λz=>nomatch z) L)<|sq L<|sq (aG (e2v (e2v L L L) L<|ZF (λz=>Y (Md.fr,T.int z)) (by rcases f with⟨rfl,rfl⟩|⟨rfl,rfl⟩<;>lia)) `ao (by show 10<12;decide))<|sq (ue (vK (x:=B) ((e2v (B6 L L) (e2v L L<|pd (by rcases f with⟨rfl,_⟩|⟨rfl,_⟩<;>assumption))<|KG q _).trans (by rw[ZI<|(bN _).mem_iff.mpr u];rfl)) (λ_=>(e2v (B6 L L) (e2v L L<|pd (by rcases f with⟨_,rfl⟩|⟨_,rfl⟩<;>assumption))<|Jm q _).trans<|by rw[ZP<|mt (bN _).mem_iff.mp O]) λz=>nomatch z) L)<|sq ((cG (m:=.fr) (l:=[.str _,.str v]) (mP ?_) L).trans<|(cQ L<|body R).trans<|cQ L<|body Q)<|dr<|lU (b:=B)<|aL {`wv,xv L<|xv {`xoK,lo hb} `gk} P
 .have:∀(i a b:Int),(i=a\/i=b)->dP (.fr,.int i) (.fr,.tup [.int a,.int b])=Y (.fr,.bl B):=λi a b h=>by
   show Y (Md.fr,T.bl<|!(a==i||(b==i||B)))=_;obtain rfl|rfl:=h
   .simp_all
   simp_all
  exact this _ _ _ (by rcases f with⟨rfl,_⟩|⟨rfl,_⟩<;>simp)
 .show (ae _ _ _).bind _=_;rw[xv {`xoK,lo hs}<|xv {`xoK,shr} L];rfl
end
def Mx{a:Uc}(f:`xlb)(h:∃U,b {`o_,a.map,e-d}=Y `xmI):fn d e b a=Y v:=by
 ext h U h;calc dg f h
def gC(h:a U=Y (.nx d))(q:∃z,b d=Y (.rt v z)):∃z,aq a b U=Y (.rt v z):=ar h ▸ q
def Df{α:Type}{k:Nat}{tg:Tg}{it:SH}{elt:Ex}{U:Env}(g:`xjb)(f:`xjb)(l:`ew)(i:it U=Y (m,l.map g))(d:okI m `xja=J)(j:`WP)(h:∀a∈l,∃b,tg (g a) `k5=Y b/\elt b=Y (e,f a)):∃n,gE k tg it M elt U=Y (n,.lst `C_):=by
 unfold gE;rw[i,Zw];dsimp only;rw[Zp d,nW g _ l h,Zw,sM,yo<|by simp_all];exact{_,(rfl)}
def FF{U:Env}{d:Nat}(f:U[i]?=Y `xgg)(h:x U=Y ((.fr,.int (d:Int)),a))(e:a[i]?=Y `xgg)(j:`xkW)(g:`xlO):vE i x U=Y (.nx<|a.set i<|oc<|PB {`wE,d}):=by
 have o:∀{U:Env},U[i]?=Y (oc _)->S4 U[i]?=Y `xmr:=λh=>by rw[h];rfl
 have b:owL U[i]?=Y (l.map λ(n:Nat)=>T.int (n:Int)):=by
  unfold owL;rw[o f];rfl
 unfold vE;rw[b,Zw,h,Zw,o e,Zw];rw[Zp<|show Ol _=J from rfl];have:Ay `xmr [(.fr,.int (d:Int))]=Y (PB {`wE,d},(.fr,.non)):=by
  show (if gq _=J then (if 0<=(d:Int)/\(d:Int)<(⇑(l.map _):Int)/\(d:Int)<4611686018427387904 then Y _ else M) else M)=_;rw[Zp<|mW _ (λ_=>rfl) l,Zu,Zp {by lia,by lia,by lia},YR];calc ZF (λz=>Y (T.lst z,((.fr:Md),T.non))) ?_;rw[YW,YW,Rn,V3,List.map_drop]
 rw[this];rfl
def ny{U:Env}(h:a U=Y (m,PB l)):eN cn (ae a ak) U=Y (.fr,.int (⇑l:Int)):=je (xv h L) (by
 show Y _=_;rw[Zu])
def Mr{U:Env}{i:Nat}(h:a U=Y (m,PB l))(e:b U=Y (n,.int (i:Int)))(d:`UJ):e2 aM a b U=Y (.fr,.int (l.getD i 0:Nat)) :=
 e2v h e ((iB _ l i 0 d).trans<|by calc ZF _<|Cc L)
abbrev EV7(f:Ui)(n:Int)(a:`cr)(G:`l_)(k:Int)(g d e b i j h:Ug):Env:=[pc<|.scr f,pc<|.lst [.int n],pc `xkT,pc<|OC `xmu,pc<|gT G,oc<|.lst [.int k],g,d,e,b,i,j,h]
section
variable{n:Int}
def NQ:∀(k F:Nat)(l:Uj)(p:Int),⇑l<=16+k->k<F->l≠[]->⇑l<1000000->∃a j,dc {`xdM,Tv,`jf,16} qh F (EV7 ns n bk G p `xgg d z8 z9 Rt Rr Si)=Y (.nx<|EV7 ns n bk G j (oc<|PB a) d z8 z9 Rt Rr Si)/\a≠[]/\a.Sublist l/\⇑a<=16:=by
 intro k
 induction k with
 |zero =>
  intro F l p hl q h0 _;obtain⟨F,rfl⟩:∃f,F=f+1:={F-1,by lia}
  refine{l,p,?_,h0,Vi l,hl};unfold dc;rw[e2v (f:=Tv) `xmq L<|kY<|ZP `am];rfl
 |succ k m =>
  intro F l p hl q h0 hb;obtain⟨F,rfl⟩:∃f,F=f+1:={F-1,by lia}
  by_cases h:16<⇑l
  .exists nx (i:=5) (un:=B) (x:=xI<|eN _<|ae `xec _) (U:=EV7 ns n bk G p `xgg d z8 z9 _ _ _) `am L (eQ `xmq L) L,x,j,w,v,e;obtain⟨c,rfl⟩:∃c:Nat,x=(c:Int):={x.toNat,by lia}
   have o:c<⇑l:=by lia
   have le:=List.length_eraseIdx_of_lt o;calc Oo (m F {`wE,c} j `am `am (λz=>by grind) `am) λa b=>OI λu t s r=>?_;refine{a,b,?_,t,s.trans<|VL ..,r};unfold dc;rw[e2v (f:=Tv) `xmq L<|kY<|ZI `am];rw[show qh=vE 6 _ from rfl,FF L e L o hb];exact u
  .exists m (F+1) l p `am `am h0 hb,a,b,e,g;exact{a,b,e,(g)}
end
def Ha(he:e U=Y (.fr,v))(h:U[i]?=Y (oc<|.dct 0 l))(b:k U=Y (n,a))(g:iJ a=J)(f:(l.all λp=>!eqT p.1 a)=J)(d:⇑l+1<16777216):AB i k e U=Y (.nx<|U.set i<|oc<|.dct 0<|l++[(a,v)]):=by
 have o:RE U[i]?=Y l:=by rw[h];rfl
 unfold AB;rw[he,Zw,Zp<|show FE _=J from rfl,o,Zw,b,Zw,Zp {g,f,(d)}]
def Er{x:Xx}(j:a U=Y l)(h:CM l=J)(i:x U=Y ((.fr,t),b))(e:`xgY)(f:g (trees l++[t])=Y (m,v))(d:Ol v=J):tQ a x g U=Y ((.fr,v),b):=by
 unfold tQ
 simp_all
theorem Nz:∀{a b:`TW},eqT (tL a) (tL b)=J->a=b
 |[],[],_=>rfl
 |[],_::_,h=>nomatch h
 |_::_,[],h=>nomatch h
 |x::a,y::b,h=>by
  have h:(eqT _ _&&eqT (tL a) (tL b))=J:=h;rw[YH,LK]at h;rw[of_decide_eq_true h.1,Nz h.2]
abbrev mo(a:`cr)(k:Nat):Nat:=(`xgW).getD k 0
def sR(a:`cr)(b:`tp)(k:Nat):List Rs:=l7<|rs a<|P5 a<|W b<|mo a k
def dS(b:`cr)(a:`tp)(l:Uj):List `xfY:=l.map λ(k:Nat)=>(T.int (k:Int),tL<|sR b a k)
theorem rA:∀{l:Uj},k∈l->eU (dS d b l) (.int (k:Int))=Y (tL<|sR d b k)
 |a::l,h=>by
  unfold eU dS;rw[Zh,Yn];by_cases e:a=k
  .subst e;rw[(iX a a).trans<|ZI L];rfl
  .rw[(iX a k).trans<|ZP e];calc rA {`xbL,e}
section
variable{bk:`cr}{nd:`eB}{wd:`tp}(A:`xeS)
include A
theorem Ma.mo(b:`xeh):mo bk k<⇑wd/\ix bk (mo bk k)=k:=by
 have a:=A.hm.symm ▸ b;have e:T47.mo bk k=`ed[k]:=by
  simp_all
 rw[e];exact{A.lt.mp<|YT a,A.hN.idxOf_getElem k a}
theorem Ma.restsK(a:`xeh):gK [.lst `fb,OC `b8,.int (k:Int)]=Y (.fr,tL<|sR bk wd k):=by
 exists A.mo a,d,b;have:=A.rests d;rw[b]at this;calc this
theorem Ma.selfK(a:`xeh):fX [.lst `fb,OC `b8,.int (k:Int),.int (k:Int)]=Y (.fr,.non):=by
 exists A.mo a,d,b;have:=A.Sq d;rw[b]at this;calc this
theorem Ma.lawK{G:`l_}(n:∀m,m<⇑wd->ix bk m<⇑G/\G.getD `xes []=P5 bk `gs)(f:`xeh)(g:j<⇑wd)(d:k∈l)(e:j∈l)(h:k≠j):dM [.lst `fb,OC `b8,gT G,.dct 0<|dS bk wd l,.int (k:Int),.int (j:Int)]=Y (.fr,.bl J):=by
 exists A.mo f,i,a;exists A.mo g,o,b;have:=A.S6 n i o (λz=>h<|by rw[<-a,<-b,z]) (by rw[a];calc rA d) (by rw[b];calc rA e);rw[a,b]at this;calc this
theorem Ma.unlike(a:`xeh)(b:j<⇑wd)(h:sR bk wd k=sR bk wd j):k=j:=by
 exists A.mo a,e,d;exists A.mo b,g,f;have:=A.same e g λq=>by
  have e1:q∈sR bk wd k↔_:=(bN _).mem_iff;have e2:q∈sR bk wd j↔_:=(bN _).mem_iff;rw[<-e1,<-e2,h]
 rw[<-d,<-f,this]
variable{ns:Ui}{n:Int}{G:`l_}(gG:∀m,m<⇑wd->ix bk m<⇑G/\G.getD `xes []=P5 bk `gs){l:Uj}(hl:∀k∈l,k<⇑wd)(hn:l.Nodup)(h16:⇑l<=16)
include hl hn h16
theorem Ma.fill:∀(r a:Uj)(p:Int)(f d b m o i:Ug),a++r=l->∃g,forL (bC 8) wC (r.map λ(k:Nat)=>T.int (k:Int)) {`xoU,a,d}=Y (.nx {`xoU,l,g})
 |[],a,p,f,d,_,_,_,_,e=>{d,by rw[ZO]at e;subst e;rfl}
 |k::r,a,p,f,d,b,m,o,i,e=>by
  exists Ma.fill r (a++[k]) p f _ b _ _ _ (by simp_all),g,h;have al:=ZY (by rw[<-e,Zr];calc ZX _ _) h16;refine{g,(cQ L<|Ha (aL `xkO<|A.restsK<|hl k<|e ▸ ZD _ Zv) L L L ?_ ?_).trans ?_}
  .refine ZC.mpr λq s=>?_;exists ZW.mp s,j,t,rfl;rw[iX j k,ZP λz=>?_]
   .rfl
   .rw[<-e]at hn;exact(ZG.mp hn).2.2 j t k Zv z
  .unfold dS;rw[Zu];lia
  .rw[show dS bk wd a++[(T.int _,tL _)]=dS bk wd (a++[k]) from by unfold dS;rw[Rn];rfl];calc h
end
def draw{i f:Nat}{un:Bool}{U:Env}{n:Int}{l:Uj}{c:Ex}{m:Nat}(o:U[i]?=Y (Y p))(j:U[i]?=Y (sp un n))(h:c U=Y (.fr,.int (m:Int)))(q:0<m/\m<=⇑l)(r:`xlO)(g:U[f]?=Y (pc `xmr))(b:f≠i) :
  ∃d a,d<m/\mS f (aZ [.io i un,.px<|xI c] aw) U=Y ((.fr,.int (l.getD d 0:Nat)),U.set i<|sp un a):=by
 calc Oo (nx `am o (eQ h L) j) λx a=>oe λt s e=>?_;obtain⟨d,rfl⟩:∃d:Nat,x=(d:Int):={x.toNat,by lia}
 have dl:d<⇑l:=by lia
 refine{d,a,by lia,?_};unfold mS;rw[g];show (aZ _ _ U).bind _=_;rw[e,Zw];rw[YZ<|Yg b,g];show (Pq _ _).bind _=_;rw[Zu,wL dl,Zw,ZV,Zo dl,Zl,Zo dl];rfl
def yP{α:Type}(l:`ew)(k:Nat)(h:`xjs):cut l M (Y (k:Int))=l.take k:=by
 have a:clip ⇑l (k:Int)=k:=by
  unfold clip;rw[Zn `am,YR,YJ h]
 show (l.drop 0).take (clip _ _-0)=_;rw[a];rfl
def JZ{k:Nat}(f:a U=Y (m,PB l))(e:b U=Y (n,.int (k:Int)))(h:`xjs)(d:`WP:=by lia):eSl a M (Y b) U=Y (.fr,PB `xgT):=by
 unfold eSl sJ;dsimp only;rw[f,e];show SN m _=_;rw[yP _ k (by rw[Zu];calc h),<-V3,yo (by rw[Zu];calc ZY (Uv _ _).length_le d),Zp<|mW _ (λ_=>rfl) _]
def AA(l:`TW):Pk 59 (tL l)=J:=by
 show ((`xeF).all _)=J;rw[VX];calc ZC.mpr λ_ _=>rfl
def getD_in{l:Uj}(h:`xkW):l.getD d 0∈l:=by
 simp_all
section
variable{bk:`cr}{nd:`eB}{wd:`tp}(A:`xeS){ns:Ui}{n:Int}{G:`l_}(gG:∀m,m<⇑wd->ix bk m<⇑G/\G.getD `xes []=P5 bk `gs){l:Uj}(hl:∀k∈l,k<⇑wd)(hn:l.Nodup)(h16:⇑l<=16)(h1:`xkZ)
include A gG hl hn h16 h1
abbrev EW(f:Ui)(n:Int)(a:`cr)(e:`tp)(G:`l_)(l:Uj)(p:Int)(d b h i g:Ug):Env:=EV7 f n a G p (pc `xmr) (pc {`RH,dS a e l}) d b h i g
theorem Ma.turns(p:Int)(g:Ug):∃o d j m,forL (bC 9) rC (({`m_,8}).map λ(k:Nat)=>T.int (k:Int)) (EW ns n bk wd G l p g M M M M)=Y (.nx<|EW ns n bk wd G l o g d j m M):=by
 exists kh (tg:=bC 9) (body:=rC) _ (λ_ U=>∃p d j m,U=EW ns n bk wd G l p g d j m M) (by
  rintro k r _ ⟨p,d,j,m,rfl⟩;exists draw (i:=5) (f:=6) (un:=B) (c:=eN _<|ae `xec _) (U:=EW ns n bk wd G l p g _ _ _ _) L L `xmq {h1,Zq _} `am L `ao,a,u,v,x;exists draw (i:=5) (f:=6) (un:=B) (c:=eN _<|ae `xec _) (U:=EW ns n bk wd G l u g _ _ _ _) L L `xmq {h1,Zq _} `am L `ao,b,t,hb,w;have s:=getD_in v;have q:=getD_in hb;calc SJ {rfl,sq (gS x L (by show 10<13;decide))<|sq (gS w L (by show 11<13;decide))<|ue (pT (e2v L L<|IW L L<|iX _ _) (λh=>lU (b:=J)<|aL {`wv,xv L `xkO}<|A.lawK gG (hl _ s) (hl _ q) s q<|by simpa using h)<|λ_=>rfl) L,Oe t _ _ _ L}) {`m_,8} _ (Oe p _ _ _ L),y,e,o,d,j,m,rfl
 calc Oe o d _ _ e
theorem Ma.each(p:Int)(q o y C:Ug):∃w v,forL (bC 12) p8 ((`xgS).map λ(k:Nat)=>T.int (k:Int)) {`xdf,p,M}=Y (.nx {`xdf,w,v}):=by
 exists kh (tg:=bC 12) (body:=p8) _ (λr U=>∃p v,(∀k∈r,1<=k/\k<⇑l)/\U=EW ns n bk wd G l p q o y C v) (by
  rintro k r _ ⟨p,v,F,rfl⟩;exists F k Zv,N,d;have mk:=getD_in d;exists draw (i:=5) (f:=6) (un:=B) (c:=`xlc) (U:=EW ns n bk wd G l p q o _ _<|Q0 _) L L L {N,ZM d} `am L `ao,b,D,hb,Q;have lb:=Y4 hb d;have E:=getD_in lb;have a:∀{U:Env},ab 6 U=Y (.pu,PB l)->ab 12 U=Y (.fr,.int _)->e2 _ _ _ U=Y _:=λh g=>Mr h g d;exists Df (k:=1) (tg:=`xgE) (it:=iK<|eSl `xec _<|Y `xlc) (elt:=e2 _ (ab 8) `cm) (U:=EW ns n bk wd G l p q o _ _<|pc _) _ (λj=>tL<|sR bk wd j) _ (mP<|JZ L L<|ZM d) L (ZY (List.length_take_le _ _) `am) λj s=>{_,rfl,e2v L L<|pd<|rA<|YK s},S,ec
  refine{_,_,rfl,sq (ue (m:=.fr) (vK (m:=.fr) (x:=B) (e2v (e2v L `xmp<|pd<|rA mk) ec ?_) (λ_=>?_) λz=>nomatch z) L)<|(wB (U1:=EW ns n bk wd G l D q o _ _<|Q0 (k:Int)) ?_).trans L,D,_,(λj s=>F j<|Zs _ s),rfl}
  .show (if Pk 59 _=J/\(((`xgT).map _).all _)=J then Y (Md.fr,T.bl<|((`xgT).map _).any λz=>eqT z<|tL _) else M)=_;have u:((`xgT).map _).any (λz=>eqT z _)=B:=WY.mpr λz=>by
    exists XF.mp z,t,O,e;exists ZW.mp O,j,s,rfl;have:=A.unlike (hl j<|YK s) (hl _ mk)<|Nz e;exists Yr s,i,P,H;rw[Xr]at P;rw[X9,this,Zl,Zo d]at H;have:=(Vb hn).mp H;lia
   rw[Zp {AA _,by rw[VX];calc ZC.mpr λj _=>AA _},u]
  .show (bu _ _ _).bind _=_;rw[aL {`wv,xv `xmp<|xv `xmp L}<|A.selfK<|hl _ mk];rfl
  .exact ZF _ (IB (Er (xv (x:=(.pu,.lst _)) L<|xv (x:=(.pu,OC _)) L<|xv (x:=(.pu,gT G)) L<|xv (x:=(.pu,.dct 0 _)) L<|xv (r:=ak) `xmp L) L Q L (A.lawK gG (hl _ mk) (hl _ E) mk E (λz=>by
   rw[Zl,Zl,Zo d,Zo lb]at z;calc YM hb<|(Vb hn).mp z)) L))) `xgS _ {p,_,λk R=>by grind,rfl},X,e,w,v,_,rfl
 calc Pd w _ e
end
def yN{i j:Int}(e:a U=Y (m,.int i))(d:b U=Y (n,.int j))(h:(-4611686018427387904<=i/\i<4611686018427387904)/\-4611686018427387904<=j/\j<4611686018427387904):uq a b U=Y (.fr,rng i (j-i).toNat):=by
 show (`Db).bind _=_;rw[e,Zw,d];calc Zp h
def HW(n:Nat):rng 1 n=({`xcy,1,n}).map λ(k:Nat)=>T.int (k:Int):=by
 rw[List.range'_eq_map_range,QF];calc YU λk _=>ZF _ `am
def CN(e:Ui)(d:⇑e<=63):CZ [.scr e]=Y (.fr,.bl J):=by
 exists vR e d 0 `ao,n,e1;exists Gf n,u,L,R,w,f,v;calc Oo (Js {w,f,(v)} u) λX bk=>OI λe3 Q bs P=>?_;exists vR e d 1 `ao,p,O;have h:US bk:={Q,bs,(P)}
 exists Mh h,nd,wd,A;have hw:=A.hl;exists Nm A.H A.hM A.hN A.h0 A.az A.hb A.h8 (by rw[A.hm];lia),G,N,Z,r;have S:=A.H.i.lt A.H.i.z;have tab:⇑(`b8)=⇑wd:=by
  unfold tabOf AU.tab;rw[Zu,A.hm]
 exists NQ 241 HS {`m_,⇑wd} p (by rw[Yt];lia) `ao (λz=>by rw[List.range_eq_nil]at z;lia) (by rw[Yt];lia),l,o,D,ln,a,b;have hl:∀k∈l,k<⇑wd:=λk y=>Yu.mp<|a.subset y;have g:=Wu.sublist a;have q:=List.length_pos_iff.mpr ln;exists A.fill hl g b l [] o _ _ _ _ _ _ rfl,j,E;exists A.turns r hl g b q o j,t,s,Rt,Rr,C;exists A.each r hl g b q t j s _ _,U,Si,F;refine Mx rfl (gC (pH (aL `E1 e1) rfl (by show 1<13;decide))<|gC (Hj (cx (k:=0) (l:=[.str L]) rfl (zH (cx (l:=[]) rfl rfl rfl rfl rfl rfl R) rfl rfl) rfl rfl rfl rfl e3) (by show 2<13;decide))<|gC rfl (gC rfl (gC (aG (FI h rfl) `ao (by show 3<13;decide))<|gC (aG (aL `E1 N) `ao (by show 4<13;decide))<|gC (pH (aL `E1 O) rfl (by show 5<13;decide))<|gC (pH (je (xv (x:=(.fr,.int (⇑wd:Int))) (je `xfO ?_) rfl) ?_) rfl (by show 6<13;decide))<|gC D<|gC rfl (gC rfl (gC ((cG rfl rfl).trans E)<|gC rfl (gC ((cG (m:=.fr) ?_ rfl).trans C)<|gC ((cG (m:=.fr) ?_ rfl).trans F)<|gC rfl {_,(rfl)}))))))
 .show Y _=_;rw[Zu,tab]
 .show (if 0<=(⇑wd:Int)/\(⇑wd:Int)<=16777216 then Y _ else M)=_;rw[Zp {by lia,by lia},YR]
 .rw[jq rfl `ao,lY];rfl
 .refine(yN rfl (ny rfl) `am).trans ?_;rw[show ((⇑l:Int)-1).toNat=⇑l-1 by lia,HW]
end T47
section
namespace T47
open PySem PySem.Spec PyProof.Rows L2 VS
def qv{X:Cx}(i:Nat)(a:{`q8,X.N[i]?=Y x})(b:{`ro,x}:=by calc Or.inl L)(c:{`q3,Qx x})(d:{`q3,Qy x}):PV G X `j_ (ab i):=cW i a b c d
def Q4{α:Sort _}{x:α}{b:Prop}:x=x∨b:=.inl L
abbrev Q5:List Str:=["_law_book_here", "_law_table", "_law_told", "_law_some", "_law_one", "_law_other"]
abbrev Q6:List Str:=["_law_book_here", "_law_table", "_law_told", "_law_word", "_law_text_here", "_law_rest"]
abbrev Q7:List Str:=["_law_k", "_law_spring_here", "_law_letters", "_law_few", "_law_start", "_law_step"]
abbrev Q8:List Str:=["_law_k", "_law_spring_here", "_law_signs_here", "_law_most"]
abbrev Q9:List Str:=["_law_one", "_law_script", "_law_spring_here", "_law_book_here", "_law_table", "_law_told", "_law_more", "_law_few", "_law_some", "_law_stand", "_law_turn", "-11", "_law_other", "_law_k"]
abbrev Qa:List Str:=["_law_script", "_law_k"]
abbrev Qb:List Str:=["_law_spring_here", "_law_most"]
abbrev Qc:List Str:=["_law_spring_here", "_law_signs_here", "_law_most"]
abbrev Qd:List Str:=["_law_spring_here", "_law_signs_here"]
abbrev Qe:List Str:=["_law_spring_here"]
abbrev Qf:List Str:=["book", "number"]
abbrev Qg:List Str:=["book", "table", "one", "other"]
abbrev Qh:List Str:=["book", "table", "stand"]
abbrev Qi:List Str:=["book", "table"]
abbrev Qj:List Str:=["row", "book", "table", "found", "number", "text", "end", "head", "stand"]
abbrev Qk:List Str:=["self", "head", "sign"]
abbrev Ql:List Str:=["self", "head", "word"]
abbrev Qm:List Str:=["self", "long", "link", "ways"]
abbrev Qn:List Str:=["self", "node", "numbers"]
abbrev Qo:List Str:=["self", "node", "sign"]
abbrev Qp:List Str:=["self", "text", "word"]
abbrev Qq:List Str:=["self"]
abbrev Qr:List Str:=["sign", "self", "node", "numbers", "link", "ways", "steps"]
abbrev Qs:List Str:=["table", "stand"]
abbrev Qt:List Str:=["table", "word"]
abbrev Qu:List Str:=["text", "end", "book", "table", "stand"]
noncomputable def top(i:Nat):Stmt:=PySem.Challenge.pw_allparts_k47_whole_each_two_parted.main.body.getD i `xiR
structure PK(mg:W3):Prop where
 b_bool:mg "bool" = none
 b_dict:mg "dict" = none
 PH:mg "enumerate" = none
 b_int:mg "int" = none
 QE:mg "isinstance" = none
 Ox:mg "len" = none
 b_list:mg "list" = none
 Pn:mg "range" = none
 b_set:mg "set" = none
 QD:mg "sorted" = none
 b_sum:mg "sum" = none
 b_tuple:mg "tuple" = none
 Sa:∃t,mg "MOST_SIGNS" = some (.int 120 t)
 R9:∃t,mg "MOST_TEXTS" = some (.int 8 t)
noncomputable abbrev nsL:List Str:=["  ", "longs", "links", "ways", "texts", "heads", "nodes"]
abbrev gX(K:W0)(C D:Pv):Gx:=gxO nsL K C D
def gJ{K:W0}:ly `k6:=HM (by decide +kernel) (by decide +kernel)
structure Pa(K:W0)(mg:W3)(C D:Pv):Prop where
 Oi:QM K C
 XN:mg "Nodes" = some `Ev
 O0:bj K C "longs"
 O5:bj K C "links"
 Pg:bj K C "ways"
 OY:bj K C "texts"
 O8:bj K C "heads"
 OZ:bj K C "nodes"
 Oh:QM K D
 S5:mg "Machine" = some `xhH
 OL:bj K D "longs"
 OM:bj K D "links"
 OR:bj K D "ways"
 OJ:bj K D "texts"
 ON:bj K D "heads"
 OK:bj K D "nodes"
def gr{K:W0}(a:`xeE):P0 `k6 K 1 "longs" := Bd L a.Oi a.Oh a.O0 a.OL
def gh{K:W0}(a:`xeE):P0 `k6 K 2 "links" := Bd L a.Oi a.Oh a.O5 a.OM
def eW{K:W0}(a:`xeE):P0 `k6 K 3 "ways" := Bd L a.Oi a.Oh a.Pg a.OR
def fq{K:W0}(a:`xeE):P0 `k6 K 4 "texts" := Bd L a.Oi a.Oh a.OY a.OJ
def mw{K:W0}(a:`xeE):P0 `k6 K 5 "heads" := Bd L a.Oi a.Oh a.O8 a.ON
def p6{K:W0}(a:`xeE):P0 `k6 K 6 "nodes" := Bd L a.Oi a.Oh a.OZ a.OK
section
variable(P:UF)(w:XAE)(base:XAD){K:W0}
abbrev fQ:Stmt:=inClass `xeD 1
def mG:bt Qm Qm (ah fQ):=by constructor<;>first|rfl|decide +kernel
def aQ(F:Ov K "new_node" "Nodes.new_node" fQ f d)(b:Meth K C "new_node" f)(B:`S_)(a:`c5) :
  MtAt P w K mg base 1 `kn 0 "new_node" Qm [false,false,J] bq:=nL F b a.Oi (iw (by decide +kernel)<|by decide +kernel) mG L L (λ_ _ _ _ _ _ e hl=>by exists L2.MP hl,_,_,_,_,rfl;rfl) λ_ _ _ _ _ _ _ g =>
  (af {`xdQ,1,gr,aa `f_ ag}
  (af {`xdQ,2,gh,`jn}
  (af (E9 gJ {`y_,3,eW} L L Q4 L L L L L L L L)
  {`xdd,gr,aj})))
abbrev fL:Stmt:=inClass `xeD 0
def mF:bt Qq Qq (ah fL):=by constructor<;>first|rfl|decide +kernel
def cK(F:Ov K "__init__" "Nodes.__init__" fL f e)(d:Mk K C f)(B:`S_)(a:`c5)(g:MtAt P w K mg base 1 `kn 0 "new_node" Qm [false,false,J] bq) :
  InAt P w K mg base 2 `kn 0 0 "Nodes" Qq dG:=KW F d a.XN mF L L (λ_ _ _ _ _ _ h hl=>by exists rH hl,_,rfl;rfl) λ_ _ _ _ _ _ _ b =>
  (af {`R_,1,gr}
  (af {`R_,2,gh}
  (af {`R_,3,eW}
  (au<|vY (jo gJ g.at b `ao `xgR<|aa aj {`zt,uC,uz}) L))))
abbrev cF:Stmt:=inClass `xeD 4
def br:bt ["self", "node", "sign", "old", "long", "half"] Qo (ah cF):=by constructor<;>first|rfl|decide +kernel
def aW(F:Ov K "node_just_behind" "Nodes.node_just_behind" cF f e)(d:Meth K C "node_just_behind" f)(B:`S_)(a:`c5)(g:MtAt P w K mg base 1 `kn 0 "new_node" Qm [false,false,J] bq) :
  MtAt P w K mg base 2 `kn 0 "node_just_behind" Qo [false,false] aC:=nL F d a.Oi (iw (by decide +kernel)<|by decide +kernel) br L L (λ_ _ _ _ _ _ h hl=>by exists xG hl,_,_,_,rfl;rfl) λ_ _ _ _ _ _ _ b =>
  (af (aD (qX b (aT {`ms,eW a} `f_<|λ_ _=>rfl) `vl<|λ_ _=>rfl) br.nd L Q4)
  (af (aD (w_add (aT {`ms,gr a} `f_<|λ_ _=>rfl) aj) br.nd L Q4)
  (af (cH (sO b (aT {`ms,gr a} `ml<|λ_ _=>rfl) `AT) {`nv,3} bD)
  (af (d8 (jo gJ g.at b `ao `xgR<|aa `AT<|aa (aT {`ms,gh a} `ml<|λ_ _=>rfl)<|aa (Ib B.b_dict (aa (aT {`ms,eW a} `ml<|λ_ _=>rfl) ag) L L) ag) br.nd L Q4)
  (af (ki gJ b {`y_,2,gh} `ml `xgf)
  (af (g7 Yz (TQ.pvt<|vb (kI `f_)<|oQ<|sO b (w_get b (aT {`ms,eW a} `f_<|λ_ _=>rfl) `vl L L L L) `ml)
  (af (ki gJ b (IT b {`y_,3,eW} `f_ (λ_ _=>rfl) L) `vl `xgf)
  (au<|aD (aT {`ms,gh a} `f_<|λ_ _=>rfl) br.nd L Q4)))
  {`nv,5}))))))
abbrev dX:Stmt:=inClass `xeD 3
def cA:bt ["self", "head", "sign", "fresh", "node"] Qk (ah dX):=by constructor<;>first|rfl|decide +kernel
def bP(F:Ov K "head_behind" "Nodes.head_behind" dX f g)(e:Meth K C "head_behind" f)(B:`S_)(b:`c5)(h:MtAt P w K mg base 1 `kn 0 "new_node" Qm [false,false,J] bq)(d:MtAt P w K mg base 2 `kn 0 "node_just_behind" Qo [false,false] aC) :
  MtAt P w K mg base 3 `kn 0 "head_behind" Qk [false,false] bO:=nL F e b.Oi (iw (by decide +kernel)<|by decide +kernel) cA L L (λ_ _ _ _ _ _ i hl=>by exists xG hl,_,_,_,rfl;rfl) λ_ _ _ _ _ _ _ a =>
  (af (cH (LX a `vl (aT {`ms,eW b} `f_<|λ_ _=>rfl) (by with_unfolding_all rfl) L) (au<|Ap {`xbQ,`f_}) bD)
  (af (d8 (jo gJ h.at a `ao `xgR<|aa (w_add (aT {`ms,gr b} `f_<|λ_ _=>rfl) aj) {`zt,aj,uz}) cA.nd L Q4)
  (af (aD `f_ cA.nd L Q4)
  (af (g7 Yz (TQ.pvt<|vb (kI `AT)<|oQ<|uB a `vl (aT {`ms,eW b} `AT<|λ_ _=>rfl)<|by with_unfolding_all rfl)
  (af (ki gJ a (IT a (gz 3 (eW b) `xgR) `AT (λ_ _=>rfl) L) `vl `ml)
  (au<|aD (aT {`ms,gh b} `AT<|λ_ _=>rfl) cA.nd L Q4)))
  (af (cH (kI `AT) (au<|uA gJ a (gz 2 (gh b) `xgR) `ml {`xbQ,`AT} (λ_=>rfl) L L L) bD)
  {`nv,3})))))
abbrev eJ:Stmt:=inClass `xeD 2
def dY:bt ["self", "head", "word", "sign"] Ql (ah eJ):=by constructor<;>first|rfl|decide +kernel
def bZ(F:Ov K "head_grown" "Nodes.head_grown" eJ f d)(b:Meth K C "head_grown" f)(B:`S_)(g:`c5)(e:MtAt P w K mg base 3 `kn 0 "head_behind" Qk [false,false] bO) :
  MtAt P w K mg base 4 `kn 0 "head_grown" Ql [false,false] bh:=nL F b g.Oi (iw (by decide +kernel)<|by decide +kernel) dY L L (λ_ _ _ _ _ _ h hl=>by exists xG hl,_,_,_,rfl;rfl) λ_ _ _ _ _ _ _ a =>
  (af (cX Yz L (dI `vl) {`oY,3,dY.nd}
  (au<|d8 (jo gJ e.at a `ao `xgR {`zt,`f_,`ml}) dY.nd L Q4))
  {`nv,1})
abbrev cM:Stmt:=inClass `xeD 6
def aO:bt ["self", "numbers", "met", "done", "ways", "sign"] Qq (ah cM):=by constructor<;>first|rfl|decide +kernel
def bB{m:Me}(F:Ov K "numbers_by_node" "Nodes.numbers_by_node" cM f e)(d:Meth K C "numbers_by_node" f)(B:`S_)(b:`c5) :
  MpAt P w K mg base 1 `ay 0 "numbers_by_node" Qq aR:=qW F d b.Oi (iw (by decide +kernel)<|by decide +kernel) aO L L (λ_ _ _ _ _ _ g hl=>by exists rH hl,_,rfl;rfl) λ_ _ _ _ _ _ a =>
  (af {`xcD,J6,aO.nd}
  (af {`xcD,dv<|aa aj ag,aO.nd}
  (af (aD aj aO.nd L Q4)
  (af (g7 Yz (fW uT Aj l8 `ml {`xbn,`jn}<|jT _)
  (af (aD (aT {`ms,eW b} (aT `vl `ml<|λ_ _=>rfl)<|λ_ _=>rfl) aO.nd L Q4)
  (af (cX Yz L (dI<|zx B.QD {`nC,4}) {`oY,5,aO.nd}
  (au (cH (uB a (qX a `AT `xgf<|λ_ _=>rfl) `f_<|by with_unfolding_all rfl) (af (Ep 1 a (qX a `AT `xgf<|λ_ _=>rfl) {`xbn,`jn} L Q4 L L (λ_=>rfl) L L L)
  (au<|l5 2 (aa (qX a `AT `xgf<|λ_ _=>rfl) ag) L L Q4 L L)) bD)))
  (au<|aD (w_add `ml aj) aO.nd L Q4))))
  (kE 2 {`nv,1})))))
abbrev ir:Stmt:=inClass `xeD 7
def d9:bt ["self", "node", "numbers", "link", "ways", "steps"] Qn (ah ir):=by constructor<;>first|rfl|decide +kernel
def dq{m:Me}(F:Ov K "row_of" "Nodes.row_of" ir f e)(d:Meth K C "row_of" f)(B:`S_)(a:`c5) :
  MpAt P w K mg base 1 `ay 0 "row_of" Qn dB:=qW F d a.Oi (iw (by decide +kernel)<|by decide +kernel) d9 L L (λ_ _ _ _ _ _ g hl=>by exists xG hl,_,_,_,rfl;rfl) λ_ _ _ _ _ _ b =>
  (af (aD (aT {`ms,gh a} `f_<|λ_ _=>rfl) d9.nd L Q4)
  (af (aD (aT {`ms,eW a} `f_<|λ_ _=>rfl) d9.nd L `tm)
  (af (aD (FB B.b_tuple<|aa (mI 1 Qr L (dI<|zx B.QD<|aa {`py,4} ag) (iC) (λ_ _ _ _ _=>(aK 0 (show List.Nodup Qr from by decide +kernel) L Q4 `tm)) (λ_ _ _ _ _=>(hU<|aa `fx<|aa (IR b {`py,3} (qX b {`py,5} `fx<|λ_ _=>rfl) (λ_ _=>rfl) L) ag)) L L `ao) ag) d9.nd L Q4)
  (af (cH (EN `ml) {`N_,hU {`xaL,{`R5,uC,5}}} bD)
  (au<|bw<|hU<|aa (w_add (aT {`ms,gr a} `ml<|λ_ _=>rfl) aj)<|aa (aT {`ms,gr a} `f_<|λ_ _=>rfl)<|aa (IR b {`py,2} `ml (λ_ _=>rfl) L) {`nC,5})))))
abbrev iL:Stmt:=inClass `xeD 5
def km:bt ["self", "numbers"] Qq (ah iL):=by constructor<;>first|rfl|decide +kernel
def d6{m:Me}(F:Ov K "table" "Nodes.table" iL f d)(b:Meth K C "table" f)(B:`S_)(h:`c5)(g:∀m,MpAt P w K mg base 1 `ay 0 "numbers_by_node" Qq aR)(e:∀m,MpAt P w K mg base 1 `ay 0 "row_of" Qn dB) :
  MpAt P w K mg base 2 `ay 0 "table" Qq dZ:=qW F b h.Oi (iw (by decide +kernel)<|by decide +kernel) km L L (λ_ _ _ _ _ _ i hl=>by exists rH hl,_,rfl;rfl) λ_ _ _ _ _ _ a =>
  (af (eX (pP (g _) a `ao {`py,0} L) km.nd L `tm)
  (au<|Kz 1 ["node", "self", "numbers"] L L `gj L L (iC) (λ_ _ _ _ _=>(aK 0 (show List.Nodup (["node", "self", "numbers"]:List Str) from by decide +kernel) L Q4 `tm)) (λ_ _ _ _ _=>(FX (e _) a `ao {`py,1} {`zt,`fx,{`py,2}} L L L)) L L `ao<|λ_=>rfl))
abbrev gw:Stmt:=inClass `xho 1
def nM:bt Qq Qq (ah gw):=by constructor<;>first|rfl|decide +kernel
def cY(F:Ov K "begin" "Machine.begin" gw f d)(b:Meth K D "begin" f)(B:`S_)(a:`c5) :
  MtAt P w K mg base 1 `kn 1 "begin" Qq [] bE:=nL F b a.Oh (iw (by decide +kernel)<|by decide +kernel) nM L L (λ_ _ _ _ _ _ e hl=>by exists rH hl,_,rfl;rfl) λ_ _ _ _ _ _ _ g =>
  (af (cH (fW (MW.or Bn) MJ B5 {`xaT,fq} (zU B.R9 L L)<|jT _) `xmo bD)
  (af (tV gJ {`y_,4,fq}<|aa (qK (by decide +kernel) `ao) ag)
  (af {`xdQ,5,mw,aa aj ag}
  {`xdd,fq,aj})))
abbrev lJ:Stmt:=top 8
def xT:bt ["thing"] ["thing"] (ah lJ):=by constructor<;>first|rfl|decide +kernel
def dD{m:Me}(F:Ov K "is_whole" "is_whole" lJ f b)(a:mg "is_whole" = Y `dt)(B:`S_)(g:`c5) :
  FnAt P w K mg base 1 "is_whole" ["thing"] `ay ij:=gD F a xT L L (λ_ _ _ _ _ _ d hl=>by exists rH hl,_,rfl;rfl) λ_ _ _ _ _ _ e =>
  {`N_,EK (w_is .int B.QE B.b_int `fx)<|DA<|CA<|w_is .bool B.QE B.b_bool `fx}
abbrev fR:Stmt:=top 9
def mE:bt Qf Qf (ah fR):=by constructor<;>first|rfl|decide +kernel
def cN{m:Me}(F:Ov K "refuse_no_text" "refuse_no_text" fR f d)(b:mg "refuse_no_text" = Y `dt)(B:`S_)(h:`c5)(e:∀m,FnAt P w K mg base 1 "is_whole" ["thing"] `ay ij) :
  FnAt P w K mg base 2 "refuse_no_text" Qf `ay bV:=gD F b mE L L (λ_ _ _ _ _ _ g hl=>by exists L2.dQ hl,_,_,rfl;rfl) λ_ _ _ _ _ _ a =>
  (au<|cH (TQ.pvt<|ql (kL<|pJ<|bG (e _) a `xjq `ao L L)<|p5<|kL<|jH aj `f_ {`ni,`fx}<|by with_unfolding_all rfl) `xmo bD)
abbrev lA:Stmt:=top 10
def wU:bt ["book"] ["book"] (ah lA):=by constructor<;>first|rfl|decide +kernel
def iq{m:Me}(F:Ov K "signs_in" "signs_in" lA f b)(a:mg "signs_in" = Y `dt)(B:`S_)(g:`c5) :
  FnAt P w K mg base 1 "signs_in" ["book"] `ay i6:=gD F a wU L L (λ_ _ _ _ _ _ d hl=>by exists rH hl,_,rfl;rfl) λ_ _ _ _ _ _ e =>
  (au<|bw<|w_sum B.b_sum<|aa (mI 1 ["text", "book"] L (dI `fx) (iC) (λ_ _ _ _ _=>(aK 0 (show List.Nodup (["text", "book"]:List Str) from by decide +kernel) L Q4 `tm)) (λ_ _ _ _ _=>{`ni,`fx}) L L `ao) ag)
abbrev hZ:Stmt:=inClass `xho 2
def oK:bt Qp Qp (ah hZ):=by constructor<;>first|rfl|decide +kernel
def du(F:Ov K "grow" "Machine.grow" hZ f g)(e:Meth K D "grow" f)(B:`S_)(a:`c5)(i:MtAt P w K mg base 4 `kn 0 "head_grown" Ql [false,false] bh)(h:∀m,FnAt P w K mg base 2 "refuse_no_text" Qf `ay bV)(d:∀m,FnAt P w K mg base 1 "signs_in" ["book"] `ay i6) :
  MtAt P w K mg base 5 `kn 1 "grow" Qp [false,false] bL:=nL F e a.Oh (iw (by decide +kernel)<|by decide +kernel) oK L L (λ_ _ _ _ _ _ j hl=>by exists xG hl,_,_,_,rfl;rfl) λ_ _ _ _ _ _ _ b =>
  (af (uZ (bG (h _) b {`zt,{`ms,fq a},`f_} `ao L L) L)
  (af (cH (Ar (w_add (bG (d _) b `xke `ao L L) {`xbn,`jn})<|zU B.Sa L L) `xmo bD)
  (af (uA gJ b {`y_,5,mw} `f_ (jo gJ i.at b `ao {`y_,6,p6}<|aa (aT {`ms,mw a} `f_<|λ_ _=>rfl) `jn) (λ_=>rfl) L L L)
  (au<|ki gJ b {`y_,4,fq} `f_<|w_add (aT {`ms,fq a} `f_<|λ_ _=>rfl) `vl))))
abbrev bW:Stmt:=inClass `xho 0
def gF:bt ["self", "book", "text"] ["self", "book"] (ah bW):=by constructor<;>first|rfl|decide +kernel
def b7(F:UC K "__init__" "Machine.__init__" bW f g)(e:Mk K D f)(B:`S_)(a:`c5)(i:MtAt P w K mg base 1 `kn 1 "begin" Qq [] bE)(h:MtAt P w K mg base 5 `kn 1 "grow" Qp [false,false] bL)(j:InAt P w K mg base 2 `kn 0 0 "Nodes" Qq dG) :
  InAt P w K mg base 6 `kn 1 1 "Machine" ["self", "book"] bx:=Gc F e a.S5 gF L L (λ_ _ _ _ _ _ _ _ _ _ l X d hs hl=>by exists L2.dQ hl,_,_,rfl;calc PySem.W.binds_K X L d hs L L) λ_ _ _ _ _ _ _ b =>
  (af {`R_,4,fq}
  (af {`R_,5,mw}
  (af (nV 0 6 gJ (p6 a)<|Il j.at b `ao L L)
  (au (cH (kI `f_) (au (cX Yz L (dI `f_) {`oY,2,gF.nd}
  (au<|vY (JR h.at b `ao L Q4 L L (D7 gJ i.at b `ao `xgR L) `jn L L L) L))) bD)))))
abbrev hV:Stmt:=inClass `xho 3
def oO:bt Qq Qq (ah hV):=by constructor<;>first|rfl|decide +kernel
def jS{m:Me}(F:Ov K "book" "Machine.book" hV f d)(b:Meth K D "book" f)(B:`S_)(a:`c5) :
  MpAt P w K mg base 1 `ay 1 "book" Qq qY:=qW F b a.Oh (iw (by decide +kernel)<|by decide +kernel) oO L L (λ_ _ _ _ _ _ e hl=>by exists rH hl,_,rfl;rfl) λ_ _ _ _ _ _ g =>
  {`N_,Fq B.b_list `xke}
abbrev gv:Stmt:=inClass `xho 4
def nG:bt Qq Qq (ah gv):=by constructor<;>first|rfl|decide +kernel
def c8{m:Me}(F:Ov K "table" "Machine.table" gv f e)(d:Meth K D "table" f)(B:`S_)(a:`c5)(g:∀m,MpAt P w K mg base 2 `ay 0 "table" Qq dZ) :
  MpAt P w K mg base 3 `ay 1 "table" Qq cu:=qW F d a.Oh (iw (by decide +kernel)<|by decide +kernel) nG L L (λ_ _ _ _ _ _ h hl=>by exists rH hl,_,rfl;rfl) λ_ _ _ _ _ _ b =>
  (au<|bw<|pP (g _) b `ao {`ms,p6 a} L)
abbrev xX:Stmt:=top 12
def pD:bt ["table", "word", "stands", "sign", "ways"] Qt (ah xX):=by constructor<;>first|rfl|decide +kernel
def jF{m:Me}(F:Ov K "walk" "walk" xX f d)(b:mg "walk" = Y `dt)(B:`S_)(g:`c5) :
  FnAt P w K mg base 1 "walk" Qt `ay lD:=gD F b pD L L (λ_ _ _ _ _ _ e hl=>by exists L2.dQ hl,_,_,rfl;rfl) λ_ _ _ _ _ _ a =>
  (af {`xcD,dv<|aa aj ag,pD.nd}
  (af (cX Yz L (dI `f_) {`oY,3,pD.nd}
  (af (aD (Ic B.b_dict<|aa (aT (aT `fx (aT `vl Es<|λ_ _=>rfl)<|λ_ _=>rfl) aj<|λ_ _=>rfl) ag) pD.nd L Q4)
  (af (cH (uB a `ml `AT<|by with_unfolding_all rfl) {`nv,2} bD)
  (au<|l5 2 (aa (qX a `AT `ml<|λ_ _=>rfl) ag) L L Q4 L L))))
  {`nv,2}))
abbrev lO:Stmt:=top 13
def oz:bt ["table", "word", "stands"] Qt (ah lO):=by constructor<;>first|rfl|decide +kernel
def h9{m:Me}(F:Ov K "stand_of" "stand_of" lO f e)(d:mg "stand_of" = Y `dt)(B:`S_)(h:`c5)(b:∀m,FnAt P w K mg base 1 "walk" Qt `ay lD) :
  FnAt P w K mg base 2 "stand_of" Qt `ay hJ:=gD F d oz L L (λ_ _ _ _ _ _ g hl=>by exists L2.dQ hl,_,_,rfl;rfl) λ_ _ _ _ _ _ a =>
  (af (aD (bG (b _) a {`sy,ag} `ao L L) oz.nd L Q4)
  (au<|bw<|IX (sO a {`xbn,`jn}<|w_add {`ni,`f_} aj) (aT `vl Es<|λ_ _=>rfl) uC))
abbrev ft:Stmt:=top 16
def lI:bt Qs Qs (ah ft):=by constructor<;>first|rfl|decide +kernel
def aJ{m:Me}(F:Ov K "refuse_no_stand" "refuse_no_stand" ft f d)(b:mg "refuse_no_stand" = Y `dt)(B:`S_)(h:`c5)(e:∀m,FnAt P w K mg base 1 "is_whole" ["thing"] `ay ij) :
  FnAt P w K mg base 2 "refuse_no_stand" Qs `ay aI:=gD F b lI L L (λ_ _ _ _ _ _ g hl=>by exists L2.dQ hl,_,_,rfl;rfl) λ_ _ _ _ _ _ a =>
  (au<|cH (TQ.pvt<|ql (kL<|pJ<|bG (e _) a `xjq `ao L L)<|p5<|kL<|jH aj `f_ {`ni,`fx}<|by with_unfolding_all rfl) `xmo bD)
abbrev iu:Stmt:=top 17
def cZ:bt ["table", "before", "number", "row", "way"] ["table"] (ah iu):=by constructor<;>first|rfl|decide +kernel
def dz{m:Me}(F:Ov K "steps_before" "steps_before" iu f d)(b:mg "steps_before" = Y `dt)(B:`S_)(g:`c5) :
  FnAt P w K mg base 1 "steps_before" ["table"] `ay fj:=gD F b cZ L L (λ_ _ _ _ _ _ e hl=>by exists rH hl,_,rfl;rfl) λ_ _ _ _ _ _ a =>
  (af {`xcD,uz,cZ.nd}
  (af (cX Yz L `xmn (mR L {`z0,2,cZ.nd,3})
  (au (cX Yz L (dI<|aT `ml aj<|λ_ _=>rfl) {`oY,4,cZ.nd}
  (au<|cH (sO a (aT (aT `fx (aT `AT aj<|λ_ _=>rfl)<|λ_ _=>rfl) aj<|λ_ _=>rfl)<|w_add (aT `ml aj<|λ_ _=>rfl) aj) (au<|Ep 1 a (aT `AT aj<|λ_ _=>rfl) (hU<|aa `vl<|aa (aT `AT aj<|λ_ _=>rfl) ag) L Q4 L L (λ_=>rfl) L L L) bD))))
  {`nv,1}))
abbrev nQ:Stmt:=top 14
def fO:bt ["table", "stand", "before", "word", "step"] Qs (ah nQ):=by constructor<;>first|rfl|decide +kernel
def dN{m:Me}(F:Ov K "longest" "longest" nQ f d)(b:mg "longest" = Y `dt)(B:`S_)(i:`c5)(g:∀m,FnAt P w K mg base 2 "refuse_no_stand" Qs `ay aI)(e:∀m,FnAt P w K mg base 1 "steps_before" ["table"] `ay fj) :
  FnAt P w K mg base 3 "longest" Qs `ay fI:=gD F b fO L L (λ_ _ _ _ _ _ h hl=>by exists L2.dQ hl,_,_,rfl;rfl) λ_ _ _ _ _ _ a =>
  (af (uZ (bG (g _) a {`sy,ag} `ao L L) L)
  (af (aD (bG (e _) a (aa `fx ag) `ao L L) fO.nd L Q4)
  (af (aD (qK (by decide +kernel) `ao) fO.nd L Q4)
  (af (g7 Yz (fW (Dr a.units) Jb vv `f_ aj<|jT _)
  (af (aD (qX a `vl `f_<|λ_ _=>rfl) fO.nd L Q4)
  (af (aD (w_add (aT `AT aj<|λ_ _=>rfl) `ml) fO.nd L Q4)
  (au<|aD (aT `AT aj<|λ_ _=>rfl) fO.nd L Q4))))
  {`nv,3}))))
abbrev lP:Stmt:=top 15
def om:bt ["table", "stand", "word"] Qs (ah lP):=by constructor<;>first|rfl|decide +kernel
def ic{m:Me}(F:Ov K "shortest" "shortest" lP f d)(b:mg "shortest" = Y `dt)(B:`S_)(h:`c5)(e:∀m,FnAt P w K mg base 3 "longest" Qs `ay fI) :
  FnAt P w K mg base 4 "shortest" Qs `ay i9:=gD F b om L L (λ_ _ _ _ _ _ g hl=>by exists L2.dQ hl,_,_,rfl;rfl) λ_ _ _ _ _ _ a =>
  (af (aD (bG (e _) a {`sy,ag} `ao L L) om.nd L Q4)
  (au<|bw<|qJ `vl (qw<|jJ uc uu {`xbn,`jn}<|aT (aT `fx `f_<|λ_ _=>rfl) aj<|λ_ _=>rfl) rn))
abbrev uF:Stmt:=top 19
def qu:bt ["table", "stand", "met"] Qs (ah uF):=by constructor<;>first|rfl|decide +kernel
def mf{m:Me}(F:Ov K "chain" "chain" uF f d)(b:mg "chain" = Y `dt)(B:`S_)(h:`c5)(e:∀m,FnAt P w K mg base 2 "refuse_no_stand" Qs `ay aI) :
  FnAt P w K mg base 3 "chain" Qs `ay pf:=gD F b qu L L (λ_ _ _ _ _ _ g hl=>by exists L2.dQ hl,_,_,rfl;rfl) λ_ _ _ _ _ _ a =>
  (af (uZ (bG (e _) a {`sy,ag} `ao L L) L)
  (af {`xcD,dv ag,qu.nd}
  (af (g7 Yz (kI `f_)
  (af (l5 2 `xjq L L Q4 L L)
  (au<|aD (aT (aT `fx `f_<|λ_ _=>rfl) aj<|λ_ _=>rfl) qu.nd L Q4)))
  {`nv,2})))
abbrev jM:Stmt:=top 20
def cT:bt ["book", "table", "found", "number", "text", "end", "head", "stand"] Qi (ah jM):=by constructor<;>first|rfl|decide +kernel
def cO{m:Me}(F:Ov K "places_by" "places_by" jM f g)(e:mg "places_by" = Y `dt)(B:`S_)(j:`c5)(b:∀m,FnAt P w K mg base 3 "chain" Qs `ay pf)(d:∀m,FnAt P w K mg base 1 "walk" Qt `ay lD) :
  FnAt P w K mg base 4 "places_by" Qi `ay dy:=gD F e cT L L (λ_ _ _ _ _ _ i hl=>by exists L2.dQ hl,_,_,rfl;rfl) λ_ _ _ _ _ _ a =>
  (af (Dw 1 Qj (λ_ _ _ h=>Jy h) L (dI `f_) (iC) (λ_ _ _ _ _=>(aK 0 (show List.Nodup Qj from by decide +kernel) L Q4 `tm)) (λ_ _ _ _ _=>(dv ag)) cT.nd L Q4 L L `ao)
  (af (cX Yz L `xmn (mR L {`z0,3,cT.nd,4})
  (au (cX Yz L (qk (bG (d _) a {`R5,`f_,4} `ao L L) L B.PH) (mR L {`z0,5,cT.nd,6})
  (au (cX Yz L (dI<|bG (b _) a {`zt,`f_,qv 6} `ao L L) {`oY,7,cT.nd}
  (au<|Jr 2 L `fm L L (qv 7) (λ_ _=>rfl) (aa (hU {`R5,`ml,5}) ag) L L L L L L L))))))
  {`nv,2}))
abbrev tN:Stmt:=top 22
def Du:bt Qh Qh (ah tN):=by constructor<;>first|rfl|decide +kernel
def gO{m:Me}(F:Ov K "rests" "rests" tN f d)(b:mg "rests" = Y `dt)(B:`S_)(i:`c5)(e:∀m,FnAt P w K mg base 4 "places_by" Qi `ay dy)(g:∀m,FnAt P w K mg base 2 "refuse_no_stand" Qs `ay aI) :
  FnAt P w K mg base 5 "rests" Qh `ay gK:=gD F b Du L L (λ_ _ _ _ _ _ h hl=>by exists xG hl,_,_,_,rfl;rfl) λ_ _ _ _ _ _ a =>
  (af (uZ (bG (g _) a (aa `f_ `jn) `ao L L) L)
  (au<|bw<|CW B.QD<|aa (mI 2 Qu L (dI<|aT (bG (e _) a {`zt,{`py,0},`f_} `ao L L) `vl<|λ_ _=>rfl) (Cn (iC)<|iC) (λ_ _ _ _ _=>(mR L<|cL (aK 0 (show List.Nodup Qu from by decide +kernel) L Q4 `tm)<|cL (aK 1 (show List.Nodup Qu from by decide +kernel) L Q4 `tm) jI)) (λ_ _ _ _ _=>(hU<|aa `fx<|aa (qJ (aT {`py,2} `fx<|λ_ _=>rfl) (qw `f_) rn) ag)) L L `ao) ag))
abbrev rE:Stmt:=top 23
def ko:bt ["book", "table", "one", "other", "behind_one", "behind_other", "first"] Qg (ah rE):=by constructor<;>first|rfl|decide +kernel
def gg{m:Me}(F:Ov K "parted" "parted" rE f e)(d:mg "parted" = Y `dt)(B:`S_)(h:`c5)(b:∀m,FnAt P w K mg base 5 "rests" Qh `ay gK) :
  FnAt P w K mg base 6 "parted" Qg `ay fX:=gD F d ko L L (λ_ _ _ _ _ _ g hl=>by exists L2.MP hl,_,_,_,_,rfl;rfl) λ_ _ _ _ _ _ a =>
  (af (aD (bG (b _) a {`sy,`jn} `ao L L) ko.nd L Q4)
  (af (aD (bG (b _) a {`sy,aa `ml ag} `ao L L) ko.nd L Q4)
  (af (cH (sO a `vl `ml) {`N_,uC} bD)
  (af (aD (aT (M0 a B.QD B.b_set {`nC,4} {`nC,5}) aj<|λ_ _=>rfl) ko.nd L Q4)
  (au<|bw<|hU<|aa (aT `xan aj<|λ_ _=>rfl)<|aa (aT `xan aj<|λ_ _=>rfl)<|aa (IX (yD a `xan `AT<|by with_unfolding_all rfl) `vl `ml) ag)))))
abbrev js:Stmt:=top 29
def bK:bt ["_law_script", "_law_k", "_law_cell", "_law_left", "_law_number", "_law_turn", "_law_more"] Qa (ah js):=by constructor<;>first|rfl|decide +kernel
def dR{m:Me}(F:Ov K "_law_spring" "_law_spring" js f d)(b:mg "_law_spring" = Y `dt)(B:`S_)(g:`c5) :
  FnAt P w K mg base 1 "_law_spring" Qa `ay fz:=gD F b bK L L (λ_ _ _ _ _ _ e hl=>by exists L2.dQ hl,_,_,rfl;rfl) λ_ _ _ _ _ _ a =>
  (af {`xcz,w_add {`xoA,`f_} aj,L}
  (af (cH (Ar {`ni,`fx} aj) (au<|aD (w_add (aT `fx (w_mod `f_ {`ni,`fx})<|λ_ _=>rfl) {`xoA,jJ o9 oU `f_ {`ni,`fx}}) bK.nd L Q4) bD)
  (af (cH (sO a {`xaS,`vl} aj) {`N_,dv<|aa `xkN ag} bD)
  (af {`xcz,{`xaS,w_add `xkN<|w_mul aj `f_},L}
  (af {`xcz,aj,L}
  (af (cX Yz L `xnP {`oY,5,bK.nd}
  (af {`xcz,{`xaS,w_add (w_add {`xoA,`ml}<|w_mul aj `xgf) aj},L}
  (af {`xcz,{`xaS,w_mul `ml `ml},L}
  (au {`xcz,w_add {`xoA,`AT} {`xaS,w_mul `xan<|w_add {`xaS,`xan} aj},L}))))
  {`N_,dv {`nC,4}}))))))
abbrev lV:Stmt:=top 30
def oo:bt ["_law_spring_here", "_law_most", "_law_digit"] Qb (ah lV):=by constructor<;>first|rfl|decide +kernel
def aH{m:Me}(F:Ov K "_law_next" "_law_next" lV f d)(b:mg "_law_next" = Y `dt)(B:`S_)(g:`c5) :
  IoAt P w K mg base 1 "_law_next" Qb `ay [false] aw:=uV F b oo L L (λ_ _ _ _ _ _ e hl=>by exists L2.dQ hl,_,_,rfl;rfl) λ_ _ _ _ _ _ _ a =>
  (af (aD (w_mod (aT (Mu `fx) aj<|λ_ _=>rfl) `f_) oo.nd L Q4)
  (af (ki gJ a (LP `xgR) aj<|jJ o9 oU (aT (Mu `fx) aj<|λ_ _=>rfl) `f_)
  {`nv,2}))
abbrev lH:Stmt:=top 31
def vo:bt Qc Qc (ah lH):=by constructor<;>first|rfl|decide +kernel
def fP{m:Me}(F:Ov K "_law_text" "_law_text" lH f e)(d:mg "_law_text" = Y `dt)(B:`S_)(h:`c5)(b:∀m,IoAt P w K mg base 1 "_law_next" Qb `ay [false] aw) :
  IoAt P w K mg base 2 "_law_text" Qc `ay [false,false] fF:=uV F d vo L L (λ_ _ _ _ _ _ g hl=>by exists xG hl,_,_,_,rfl;rfl) λ_ _ _ _ _ _ _ a =>
  (au<|Ap<|G5 (qK (by decide +kernel) `ao) (EU Q8 L L B.Pn (bQ (b _) a<|cI 0 J L `gj L L {`Ps,w_add `vl aj}) (λ_ _ _ _ _=>L2.Ao (show List.Nodup Q8 from by decide +kernel) L Q4 `tm) (λ_ _ _ _ _=>(Nb (ba {`py,2}) (bQ (b _) a<|cI 1 J L `gj L L {`Ps,{`ni,cW 2 L `gj L L}}) (λ_ _=>rfl) L)) L L L L `ao<|λ_=>rfl) L L L L L L)
abbrev j5:Stmt:=top 32
def fB:bt ["_law_spring_here", "_law_letters", "_law_few", "_law_start", "_law_step"] Qe (ah j5):=by constructor<;>first|rfl|decide +kernel
def gf{m:Me}(F:Ov K "_law_signs" "_law_signs" j5 f e)(d:mg "_law_signs" = Y `dt)(B:`S_)(h:`c5)(b:∀m,IoAt P w K mg base 1 "_law_next" Qb `ay [false] aw) :
  IoAt P w K mg base 2 "_law_signs" Qe `ay [] iF:=uV F d fB L L (λ_ _ _ _ _ _ g hl=>by exists rH hl,_,rfl;rfl) λ_ _ _ _ _ _ _ a =>
  (af (aD (qK (by decide +kernel) `ao) fB.nd L `tm)
  (af (d8 (vh {`xdh,aj,ag}<|bQ (b _) a `cS) fB.nd L Q4)
  (af (d8 (bQ (b _) a `cS) fB.nd L `tm)
  (af (d8 (vh (dv {`mr,ag})<|bQ (b _) a `cS) fB.nd L `tm)
  (au<|bw<|Hx (qK (by decide +kernel) `ao)<|aa (mI 1 Q7 L `xml (iC) (λ_ _ _ _ _=>(aK 0 (show List.Nodup Q7 from by decide +kernel) L Q4 `tm)) (λ_ _ _ _ _=>(aT {`py,2} {`xaS,w_add {`py,4}<|w_mul {`py,5} `fx}<|λ_ _=>rfl)) L L `ao) ag)))))
abbrev lM:Stmt:=top 33
def dw:bt ["_law_spring_here", "_law_signs_here", "_law_many", "_law_book_here", "_law_k", "_law_text_here", "_law_old"] Qd (ah lM):=by constructor<;>first|rfl|decide +kernel
def ie{m:Me}(F:Ov K "_law_book" "_law_book" lM f g)(e:mg "_law_book" = Y `dt)(B:`S_)(i:`c5)(b:∀m,IoAt P w K mg base 1 "_law_next" Qb `ay [false] aw)(d:∀m,IoAt P w K mg base 2 "_law_text" Qc `ay [false,false] fF) :
  IoAt P w K mg base 3 "_law_book" Qd `ay [false] jt:=uV F e dw L L (λ_ _ _ _ _ _ h hl=>by exists L2.dQ hl,_,_,rfl;rfl) λ_ _ _ _ _ _ _ a =>
  (af (d8 (vh {`xdh,aj,ag}<|bQ (b _) a `cS) dw.nd L Q4)
  (af {`xcD,dv ag,dw.nd}
  (af (cX Yz L `xml {`oY,4,dw.nd}
  (af (d8 (bQ (d _) a<|cI 0 J L `fm L L<|cE (ba `f_)<|cE (vh (dv {`mr,ag})<|bQ (b _) a `cS) bM) dw.nd L Q4)
  (af (yx (Am (Ar `AT aj)<|zE (x9 a.units) C1 (bQ (b _) a `cS) `xmm<|jT _) (af (d8 (tU 3 L `fm L L<|bQ (b _) a {`xbV,{`Ps,`AT}}) dw.nd L Q4)
  (au<|d8 (IG (vW mq pZ (IG (ba `xan) (vp<|bQ (b _) a {`xbV,{`Ps,w_add {`ni,qv 6} aj}}) xQ)<|ba `xgf) xQ<|vp `xmm) dw.nd L Q4)) bD)
  (au<|l5 3 {`nC,5} L L Q4 L L))))
  (af (yx (Am (p7 aj `vl aj<|by with_unfolding_all rfl)<|zE (x9 a.units) C1 (bQ (b _) a `cS) `xmm<|jT _) (au<|uA gJ a (bJ 3) aj (vW Gj Fe (vW mq pZ (vW mq pZ (ba<|aT `ml aj<|λ_ _=>rfl)<|bQ (d _) a {`xbV,cE (ba `f_) {`Ps,aj}})<|ba<|aT `ml Es<|λ_ _=>rfl)<|vW mq pZ `xmm<|bQ (b _) a `cS) (λ_=>rfl) L L L) bD)
  {`nv,3}))))
abbrev lN:Stmt:=top 34
def ou:bt ["_law_book_here", "_law_table", "_law_told", "_law_word", "_law_text_here", "_law_rest", "_law_stand"] Q6 (ah lN):=by constructor<;>first|rfl|decide +kernel
def fM{m:Me}(F:Ov K "_law_ends" "_law_ends" lN f e)(b:mg "_law_ends" = Y `dt)(B:`S_)(h:`c5)(d:∀m,FnAt P w K mg base 2 "stand_of" Qt `ay hJ) :
  FnAt P w K mg base 3 "_law_ends" Q6 `ay eK:=gD F b ou L L (λ_ _ _ _ _ _ g hl=>by exists L2.LN hl,_,_,_,_,_,_,rfl;rfl) λ_ _ _ _ _ _ a =>
  (af (aD (bG (d _) a {`zt,`f_,w_add `ml `xgf} `ao L L) ou.nd L Q4)
  (au<|bw<|EK (GV `xan)<|DA<|MQ a (hU<|aa `AT<|aa (dh B.Ox<|aa (aT `fx `AT<|λ_ _=>rfl) ag) ag) (aT `vl `xan<|λ_ _=>rfl)<|by with_unfolding_all rfl))
abbrev jm:Stmt:=top 35
def cB:bt ["_law_book_here", "_law_table", "_law_told", "_law_some", "_law_one", "_law_other", "_law_got", "_law_text_here", "_law_rest", "_law_stand", "_law_beside", "_law_word"] Q5 (ah jm):=by constructor<;>first|rfl|decide +kernel
def dH{m:Me}(F:Ov K "_law_parted" "_law_parted" jm f i)(g:mg "_law_parted" = Y `dt)(B:`S_)(l:`c5)(b:∀m,FnAt P w K mg base 3 "_law_ends" Q6 `ay eK)(d:∀m,FnAt P w K mg base 3 "longest" Qs `ay fI)(h:∀m,FnAt P w K mg base 6 "parted" Qg `ay fX)(e:∀m,FnAt P w K mg base 4 "shortest" Qs `ay i9) :
  FnAt P w K mg base 7 "_law_parted" Q5 `ay dM:=gD F g cB L L (λ_ _ _ _ _ _ j hl=>by exists L2.LN hl,_,_,_,_,_,_,rfl;rfl) λ_ _ _ _ _ _ a =>
  (af (aD (bG (h _) a {`sy,aa `AT {`nC,5}} `ao L L) cB.nd L Q4)
  (af (cH (TQ.pvt<|ql (EN `xan)<|p5<|uB a (aT `xan aj<|λ_ _=>rfl) (hU {`R5,`AT,5})<|by with_unfolding_all rfl) {`N_,pM} bD)
  (af (Cq `xan (mR L<|cL {`oY,7,cB.nd} {`z0,8,cB.nd,9}) L L L)
  (af (aD (jJ uc uu (w_add `AT `xgf)<|qv 9) cB.nd L Q4)
  (af (cH (TQ.pvt<|ql (GS a `xkM (qX a `ml (qv 9)<|λ_ _=>rfl)<|by with_unfolding_all rfl)<|p5<|yD a `xkM (qX a `ml (qv 10)<|λ_ _=>rfl)<|by with_unfolding_all rfl) {`N_,pM} bD)
  (af (cX Yz L (dI<|dv<|aa (bG (d _) a {`R5,`f_,9} `ao L L)<|aa (bG (e _) a {`R5,`f_,9} `ao L L) ag) {`oY,11,cB.nd}
  (au<|cH (kL<|pJ<|bG (b _) a {`sy,aa `vl<|aa (qv 11) {`R5,qv 7,8}} `ao L L) {`N_,pM} bD))
  (au<|bw<|CA<|bG (b _) a (aa `fx<|aa `f_<|aa `vl<|aa (bG (d _) a {`R5,`f_,10} `ao L L) {`R5,qv 7,8}) `ao L L)))))))
abbrev mh:Stmt:=top 36
def fJ:bt ["_law_script", "_law_spring_here", "_law_book_here", "_law_table", "_law_told", "_law_more", "_law_few", "_law_some", "_law_stand", "_law_turn", "_law_one", "_law_other", "_law_k"] ["_law_script"] (ah mh):=by constructor<;>first|rfl|decide +kernel
def JP{m:Me}(F:Ov K "law" "law" mh f d)(B:`S_)(q:`c5)(p:InAt P w K mg base 6 `kn 1 1 "Machine" ["self", "book"] bx)(o:∀m,MpAt P w K mg base 3 `ay 1 "table" Qq cu)(h:∀m,IoAt P w K mg base 3 "_law_book" Qd `ay [false] jt)(b:∀m,IoAt P w K mg base 1 "_law_next" Qb `ay [false] aw)(g:∀m,FnAt P w K mg base 7 "_law_parted" Q5 `ay dM)(j:∀m,IoAt P w K mg base 2 "_law_signs" Qe `ay [] iF)(e:∀m,FnAt P w K mg base 1 "_law_spring" Qa `ay fz)(i:∀m,FnAt P w K mg base 6 "parted" Qg `ay fX)(n:∀m,FnAt P w K mg base 4 "places_by" Qi `ay dy)(l:∀m,FnAt P w K mg base 5 "rests" Qh `ay gK) :
  FnOk P w K mg base Pb 8 f d ["_law_script"] (Sb `ay CZ):=fnV F fJ L L λ_ _ _ _ _ _ a =>
  (af (eX (bG (e _) a {`zt,`fx,aj} `ao L L) fJ.nd L Q4)
  (af (Ca (Fc (h _) a (cI 1 false L `fm L L<|cE (bQ (j _) a<|cI 1 false L `fm L L bM) bM) `ao L L L L) fJ.nd L Q4 L Q4)
  (kE 2 (kE 1 (af (aD (pP (o _) a `ao (Kd p.at a `ao `jn M9 L L L L) L) fJ.nd L Q4)
  (af (aD (bG (n _) a {`zt,`vl,`ml} `ao L L) fJ.nd L Q4)
  (af (eX (bG (e _) a {`zt,`fx,aj} `ao L L) fJ.nd L Q4)
  (af {`xcD,D0 B.b_list B.Pn (aa {`ni,`ml} ag) L L L L L,fJ.nd}
  (af (g7 Yz (Ar {`ni,qv 6} aj)
  (au<|JX 6 L `fm L L (bQ (b _) a `lG) L L L L L L L))
  (kE 6 (af (eX uz fJ.nd L `tm)
  (af (cX Yz L (dI `xan) {`oY,8,fJ.nd}
  (au<|JY 7 a (qv 8) (bG (l _) a (aa `vl {`R5,`ml,8}) `ao L L) L `gj L L (λ_=>rfl) L L L))
  (kE 7 (af (cX Yz L `xnP {`oY,9,fJ.nd}
  (af (d8 (tU 6 L `fm L L<|bQ (b _) a `lG) fJ.nd L Q4)
  (af (d8 (tU 6 L `fm L L<|bQ (b _) a `lG) fJ.nd L Q4)
  (au<|cH (TQ.pvt<|vb (fW (Dr a.units) Jb vv (qv 10) (qv 11)<|jT _)<|oQ<|kL<|pJ<|bG (g _) a (aa `vl<|aa `ml<|aa `AT<|aa {`py,7} {`R5,qv 10,11}) `ao L L) {`N_,pM} bD))))
  (af (cX Yz L (yi aj {`ni,qv 6} L B.Pn) {`oY,12,fJ.nd}
  (af (cH (TQ.pvt<|ql (yD a (qX a {`py,7} (aT `xan `xjp<|λ_ _=>rfl)<|λ_ _=>rfl) (mI 1 Q9 L (dI<|qJ `xan rn<|qw `xjp) (iC) (λ_ _ _ _ _=>(aK 0 (show List.Nodup Q9 from by decide +kernel) L Q4 `tm)) (λ_ _ _ _ _=>(qX a {`py,8} `fx<|λ_ _=>rfl)) L L `ao)<|by with_unfolding_all rfl)<|p5<|kI<|bG (i _) a (aa `vl<|aa `ml<|aa (aT `xan `xjp<|λ_ _=>rfl)<|aa (aT `xan `xjp<|λ_ _=>rfl) ag) `ao L L) {`N_,pM} bD)
  (au<|yx (Gz<|FZ (Cu (g _) a (j8 `vl (j8 `ml (j8 `AT (j8 {`py,7} (j8 (aT `xan `xjp<|λ_ _=>rfl) (E7 (tU 6 L `fm L L<|bQ (b _) a<|cI 5 false L `fm L L {`Ps,qv 12}) L) L) L) L) L) L) `ao L L L L)<|λ_=>rfl) {`N_,pM} bD)))
  (kE 5 {`N_,pM}))))))))))))))))
end
abbrev gN(K:W0)(x:Str)(f:Pv):Prop:=PySem.W.nsIn K mainGlobals x=Y (Y `dt)
abbrev gZ(K:W0)(x:Str):Prop:=PySem.W.nsIn K mainGlobals x=Y M
def all_mk{l:PySem.W.OpenLaw}{K:W0}(X:K.In h)(G:h.Ns mainGlobals O)(hfa:O "law" = Y `xnv)(hlaw:∀ns:Ui,⇑ns<=63->CZ [.scr ns]=Y (.fr,.bl J))(a0:Meth K C "new_node" f0)(F0:Ov K "new_node" "Nodes.new_node" fQ f0 fd0)(a1:Mk K C f1)(F1:Ov K "__init__" "Nodes.__init__" fL f1 fd1)(a2:Meth K C "node_just_behind" f2)(F2:Ov K "node_just_behind" "Nodes.node_just_behind" cF f2 fd2)(a3:Meth K C "head_behind" f3)(F3:Ov K "head_behind" "Nodes.head_behind" dX f3 fd3)(a4:Meth K C "head_grown" f4)(F4:Ov K "head_grown" "Nodes.head_grown" eJ f4 fd4)(a5:Meth K C "numbers_by_node" f5)(F5:Ov K "numbers_by_node" "Nodes.numbers_by_node" cM f5 fd5)(a6:Meth K C "row_of" f6)(F6:Ov K "row_of" "Nodes.row_of" ir f6 fd6)(a7:Meth K C "table" f7)(F7:Ov K "table" "Nodes.table" iL f7 fd7)(a8:Meth K D "begin" f8)(F8:Ov K "begin" "Machine.begin" gw f8 fd8)(a9:gN K "is_whole" f9)(F9:Ov K "is_whole" "is_whole" lJ f9 fd9)(a10:gN K "refuse_no_text" f10)(F10:Ov K "refuse_no_text" "refuse_no_text" fR f10 fd10)(a11:gN K "signs_in" f11)(F11:Ov K "signs_in" "signs_in" lA f11 fd11)(a12:Meth K D "grow" f12)(F12:Ov K "grow" "Machine.grow" hZ f12 fd12)(a13:Mk K D N)(l13:K.lookup N=Y {oc13,U,.func<|PySem.W.fnOf "__init__" "Machine.__init__" (cP bW) (bg bW) (ah bW) (.ref T13) kV13 dc13 R an13 u ct13,Q})(c13:PySem.W.codeIn K u "Machine.__init__" = J)(k13:{`Sl,K,.ref N})(t13:K.lookup T13=Y p)(u13:p.data=.seq #[.none] nn13)(a14:Meth K D "book" f14)(F14:Ov K "book" "Machine.book" hV f14 fd14)(a15:Meth K D "table" f15)(F15:Ov K "table" "Machine.table" gv f15 fd15)(a16:gN K "walk" f16)(F16:Ov K "walk" "walk" xX f16 fd16)(a17:gN K "stand_of" f17)(F17:Ov K "stand_of" "stand_of" lO f17 fd17)(a18:gN K "refuse_no_stand" f18)(F18:Ov K "refuse_no_stand" "refuse_no_stand" ft f18 fd18)(a19:gN K "steps_before" f19)(F19:Ov K "steps_before" "steps_before" iu f19 fd19)(a20:gN K "longest" f20)(F20:Ov K "longest" "longest" nQ f20 fd20)(a21:gN K "shortest" f21)(F21:Ov K "shortest" "shortest" lP f21 fd21)(a22:gN K "chain" f22)(F22:Ov K "chain" "chain" uF f22 fd22)(a23:gN K "places_by" f23)(F23:Ov K "places_by" "places_by" jM f23 fd23)(a24:gN K "rests" f24)(F24:Ov K "rests" "rests" tN f24 fd24)(a25:gN K "parted" f25)(F25:Ov K "parted" "parted" rE f25 fd25)(a26:gN K "_law_spring" f26)(F26:Ov K "_law_spring" "_law_spring" js f26 fd26)(a27:gN K "_law_next" f27)(F27:Ov K "_law_next" "_law_next" lV f27 fd27)(a28:gN K "_law_text" f28)(F28:Ov K "_law_text" "_law_text" lH f28 fd28)(a29:gN K "_law_signs" f29)(F29:Ov K "_law_signs" "_law_signs" j5 f29 fd29)(a30:gN K "_law_book" f30)(F30:Ov K "_law_book" "_law_book" lM f30 fd30)(a31:gN K "_law_ends" f31)(F31:Ov K "_law_ends" "_law_ends" lN f31 fd31)(a32:gN K "_law_parted" f32)(F32:Ov K "_law_parted" "_law_parted" jm f32 fd32)(a33:gN K "law" H)(l33:K.lookup H=Y {Z,S,.func<|PySem.W.fnOf "law" "law" (cP mh) (bg mh) (ah mh) .none q r o x g t,P})(c33:PySem.W.codeIn K g "law" = J)(k33:{`Sl,K,.ref H})(n:gZ K "bool")(j:gZ K "dict")(Sh:gZ K "enumerate")(E:gZ K "int")(RQ:gZ K "isinstance")(A:gZ K "len")(i:gZ K "list")(f:gZ K "range")(z:gZ K "set")(UU:gZ K "sorted")(y:gZ K "sum")(b:gZ K "tuple")(RS:PySem.W.nsIn K mainGlobals "MOST_SIGNS" = Y (Y<|.int 120 RX))(RR:PySem.W.nsIn K mainGlobals "MOST_TEXTS" = Y (Y<|.int 8 RW))(w_Nodes:gN K "Nodes" C)(Oi:QM K C)(O0:bj K C "longs")(O5:bj K C "links")(Pg:bj K C "ways")(OY:bj K C "texts")(O8:bj K C "heads")(OZ:bj K C "nodes")(w_Machine:gN K "Machine" D)(Oh:QM K D)(OL:bj K D "longs")(OM:bj K D "links")(OR:bj K D "ways")(OJ:bj K D "texts")(ON:bj K D "heads")(OK:bj K D "nodes")
  : ∃fd:SZ,(∀(s:On)(v:Re),BindsTo s fd {[v],[]} [("_law_script",v)])/\∀base:XAD,K.In base->base.Ns mainGlobals O->FnOk l.prog w K O base Pb 8 fa fd ["_law_script"] `xmT:=by
 have e:=hfa.symm.trans {`Oq,a33};cases e;have B:PK O:=⟨YY X G n,YY X G j,YY X G Sh,YY X G E,YY X G RQ,YY X G A,YY X G i,YY X G f,YY X G z,YY X G UU,YY X G y,YY X G b,{_,QX X G RS},{_,QX X G RR}⟩
 have a:Pa K O C D:={Oi,QX X G w_Nodes,O0,O5,Pg,OY,O8,OZ,Oh,QX X G w_Machine,OL,OM,OR,OJ,ON,OK}
 refine{PySem.W.fnOf "law" "law" (cP mh) (bg mh) (ah mh) .none q r o x g t,λs v=>.of_eq L,λbase _ _=>?_};have aQ:=aQ l.prog w base F0 a0 B a;have cK:=cK l.prog w base F1 a1 B a aQ;have aW:=aW l.prog w base F2 a2 B a aQ;have bP:=bP l.prog w base F3 a3 B a aQ aW;have bZ:=bZ l.prog w base F4 a4 B a bP;have bB:=λm=>bB (m:=m) l.prog w base F5 a5 B a;have dq:=λm=>dq (m:=m) l.prog w base F6 a6 B a;have d6:=λm=>d6 (m:=m) l.prog w base F7 a7 B a bB dq;have cY:=cY l.prog w base F8 a8 B a;have dD:=λm=>dD (m:=m) l.prog w base F9 (QX X G a9) B a;have cN:=λm=>cN (m:=m) l.prog w base F10 {`Oq,a10} B a dD;have iq:=λm=>iq (m:=m) l.prog w base F11 {`Oq,a11} B a;have du:=du l.prog w base F12 a12 B a bZ cN iq;have b7:=b7 l.prog w base ⟨{_,_,_,_,_,_,_,_,_,_,_,_,rfl,l13,c13,t13,(u13)},k13⟩ a13 B a cY du cK;have jS:=λm=>jS (m:=m) l.prog w base F14 a14 B a;have c8:=λm=>c8 (m:=m) l.prog w base F15 a15 B a d6;have jF:=λm=>jF (m:=m) l.prog w base F16 {`Oq,a16} B a;have h9:=λm=>h9 (m:=m) l.prog w base F17 {`Oq,a17} B a jF;have aJ:=λm=>aJ (m:=m) l.prog w base F18 {`Oq,a18} B a dD;have dz:=λm=>dz (m:=m) l.prog w base F19 {`Oq,a19} B a;have dN:=λm=>dN (m:=m) l.prog w base F20 {`Oq,a20} B a aJ dz;have ic:=λm=>ic (m:=m) l.prog w base F21 {`Oq,a21} B a dN;have mf:=λm=>mf (m:=m) l.prog w base F22 {`Oq,a22} B a aJ;have cO:=λm=>cO (m:=m) l.prog w base F23 {`Oq,a23} B a mf jF;have gO:=λm=>gO (m:=m) l.prog w base F24 {`Oq,a24} B a cO aJ;have gg:=λm=>gg (m:=m) l.prog w base F25 {`Oq,a25} B a gO;have dR:=λm=>dR (m:=m) l.prog w base F26 {`Oq,a26} B a;have aH:=λm=>aH (m:=m) l.prog w base F27 {`Oq,a27} B a;have fP:=λm=>fP (m:=m) l.prog w base F28 {`Oq,a28} B a aH;have gf:=λm=>gf (m:=m) l.prog w base F29 {`Oq,a29} B a aH;have ie:=λm=>ie (m:=m) l.prog w base F30 {`Oq,a30} B a aH fP;have fM:=λm=>fM (m:=m) l.prog w base F31 {`Oq,a31} B a h9;have dH:=λm=>dH (m:=m) l.prog w base F32 {`Oq,a32} B a fM dN gg ic;calc FR L (JP l.prog w base (m:=λ_=>M) (Ec (st:=mh) l33 c33 k33) B a b7 c8 ie aH dH gf dR gg cO gO) hlaw
end T47
open PySem PySem.W PyProof.Rows PySem.W.X PySem.W.ZRun
set_option maxRecDepth 100000 in
set_option maxHeartbeats 0 in
theorem PySem.Challenge.cw_allparts_k47_whole_each_two_parted_holds : PySem.Challenge.rw_allparts_k47_whole_each_two_parted.Holds := by
 w_on;o_law;z_head;(case hw=>w_witness2)
 k_fill
 intro w s₀ s₁ mg mb G y fa o pm cd doc dV kV ho hd hcd hD hmg hg args vals as L hpre hlay hrd hwl hlo
 z_open y L KX ZH ZN ZT
 clear ZH ZN ZT;refine VS.Cm (l:=PySem.Challenge.rw_allparts_k47_whole_each_two_parted) (k:=8) (x := "_law_script") rfl rfl ⟨rfl,by decide,by decide⟩ ?F w s₀ s₁ mg mb G KX fa o pm cd doc dV kV ho hd hcd hD hmg hg args vals as hpre hlay hrd hwl hlo
 case F =>
  intro w mg fa h KX G hmg;apply T47.all_mk KX G hmg T47.CN
  (case w_Nodes=>unfold T47.gN;k_is)
  (case w_Machine=>unfold T47.gN;k_is)
  all_goals first | (refine' L2.Ec ?l ?c ?k;(case l=>k_is);(case c=>k_is);(case k=>k_is)) | (refine' ⟨?l,?c,?k⟩;(case l=>k_is);(case c=>k_is);(case k=>k_is)) | (refine' ⟨?l,?c,?k,?d⟩;(case l=>k_is);(case c=>k_is);(case k=>k_is);(case d=>k_is)) | (unfold T47.gN;k_is) | (unfold T47.gZ;k_is) | (unfold L2.bj;k_is) | k_is | calc rfl | kernel_rfl
end
